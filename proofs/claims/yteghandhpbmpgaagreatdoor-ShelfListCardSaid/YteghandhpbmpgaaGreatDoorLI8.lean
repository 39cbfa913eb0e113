/-
 What the statement's proof leans on: the ways of walking, plain mathematics, and what the program's functions return; each theorem says on what conditions.
-/
import Derived.Shelf.SlSortCmp.Whole1
import Derived.Shelf.SlSortCmp.NoneTotal
import Derived.Test.YteghandhpbmpgaaGreatDoorProg
import Derived.Sort.OwnSortedInts
import Derived.Below
import Derived.ChangeSame
import Derived.ProofKit
import Derived.OpenShut
import Derived.LaidSub
import Derived.Carry
import Derived.SliceStrings
import Derived.Lib.LaidTab
import Derived.Deep.DeepHandedRow
import Derived.ChangeSlices
import Derived.Test.YteghandhpbmpgaaGreatDoorLI7
set_option maxRecDepth 1000000
set_option maxHeartbeats 8000000
set_option linter.unusedVariables false
set_option linter.unusedSimpArgs false
set_option linter.unnecessarySimpa false
namespace Go.Proofs.YteghandhpbmpgaaGreatDoor
open Go.RowKit

end Go.Proofs.YteghandhpbmpgaaGreatDoor
section
namespace Go.Proofs
open Go.Shelf
def Tryz.laysSlF6_f81_ren:Go.Shelf.Ren:=⟨fun|6=>81|15=>144|14=>143|28=>200|29=>201|20=>192|21=>193|22=>194|23=>195|24=>196|25=>197|26=>198|27=>199|46=>242|47=>243|48=>244|49=>245|50=>246|57=>284|n=>n,fun|22=>43|24=>3|25=>45|3=>3|39=>115|0=>0|53=>223|55=>36|4=>4|46=>217|45=>216|50=>181|5=>5|9=>9|66=>257|70=>261|76=>291|77=>292|n=>n,fun|n=>n⟩
theorem Tryz.laysSlF6_f81:Go.Proofs.SlLaysF.n6 Tryz.prog Tryz.laysSlF6_f81_ren:={
 mixed:=by kernel_rfl
 f6:=⟨Tryz.f81.name,by decide,Tryz.func81.trans (congrArg some (by kernel_rfl))⟩
 f14:=⟨Tryz.f143.name,by decide,Tryz.func143.trans (congrArg some (by kernel_rfl))⟩
 f15:=Tryz.func144.trans (congrArg some (by kernel_rfl))
 f20:=⟨Tryz.f192.name,by decide,Tryz.func192.trans (congrArg some (by kernel_rfl))⟩
 f21:=⟨Tryz.f193.name,by decide,Tryz.func193.trans (congrArg some (by kernel_rfl))⟩
 f22:=⟨Tryz.f194.name,by decide,Tryz.func194.trans (congrArg some (by kernel_rfl))⟩
 f23:=⟨Tryz.f195.name,by decide,Tryz.func195.trans (congrArg some (by kernel_rfl))⟩
 f24:=⟨Tryz.f196.name,by decide,Tryz.func196.trans (congrArg some (by kernel_rfl))⟩
 f25:=⟨Tryz.f197.name,by decide,Tryz.func197.trans (congrArg some (by kernel_rfl))⟩
 f26:=⟨Tryz.f198.name,by decide,Tryz.func198.trans (congrArg some (by kernel_rfl))⟩
 f27:=⟨Tryz.f199.name,by decide,Tryz.func199.trans (congrArg some (by kernel_rfl))⟩
 f28:=Tryz.func200.trans (congrArg some (by kernel_rfl))
 f29:=Tryz.func201.trans (congrArg some (by kernel_rfl))
 f46:=⟨Tryz.f242.name,by decide,Tryz.func242.trans (congrArg some (by kernel_rfl))⟩
 f47:=Tryz.func243.trans (congrArg some (by kernel_rfl))
 f48:=Tryz.func244.trans (congrArg some (by kernel_rfl))
 f49:=⟨Tryz.f245.name,by decide,Tryz.func245.trans (congrArg some (by kernel_rfl))⟩
 f50:=⟨Tryz.f246.name,by decide,Tryz.func246.trans (congrArg some (by kernel_rfl))⟩
 f57:=⟨Tryz.f284.name,by decide,Tryz.func284.trans (congrArg some (by kernel_rfl))⟩
 t0:=Tryz.underlying0
 a0:=Tryz.isAgg0
 z0:=Tryz.sizeOf0
 v0:=Tryz.zeroValue0
 t3:=Tryz.underlying3
 a3:=Tryz.isAgg3
 z3:=Tryz.sizeOf3
 v3:=Tryz.zeroValue3
 t4:=Tryz.underlying4
 a4:=Tryz.isAgg4
 z4:=Tryz.sizeOf4
 v4:=Tryz.zeroValue4
 t5:=Tryz.underlying5
 a5:=Tryz.isAgg5
 z5:=Tryz.sizeOf5
 v5:=Tryz.zeroValue5
 t9:=Tryz.underlying9
 a9:=Tryz.isAgg9
 z9:=Tryz.sizeOf9
 v9:=Tryz.zeroValue9
 t22:=Tryz.underlying43
 a22:=Tryz.isAgg43
 z22:=Tryz.sizeOf43
 v22:=Tryz.zeroValue43
 a24:=Tryz.isAgg3
 z24:=Tryz.sizeOf3
 t25:=Tryz.underlying45
 a25:=Tryz.isAgg45
 z25:=Tryz.sizeOf45
 v25:=Tryz.zeroValue45
 t39:=Tryz.underlying115
 a39:=Tryz.isAgg115
 z39:=Tryz.sizeOf115
 v39:=Tryz.zeroValue115
 t45:=Tryz.underlying216
 a45:=Tryz.isAgg216
 z45:=Tryz.sizeOf216
 v45:=Tryz.zeroValue216
 t46:=Tryz.underlying217
 a46:=Tryz.isAgg217
 z46:=Tryz.sizeOf217
 v46:=Tryz.zeroValue217
 t50:=Tryz.underlying181
 a50:=Tryz.isAgg181
 z50:=Tryz.sizeOf181
 v50:=Tryz.zeroValue181
 t53:=Tryz.underlying223
 a53:=Tryz.isAgg223
 z53:=Tryz.sizeOf223
 v53:=Tryz.zeroValue223
 t55:=Tryz.underlying36
 a55:=Tryz.isAgg36
 z55:=Tryz.sizeOf36
 v55:=Tryz.zeroValue36
 t66:=Tryz.underlying257
 a66:=Tryz.isAgg257
 z66:=Tryz.sizeOf257
 v66:=Tryz.zeroValue257
 t70:=Tryz.underlying261
 a70:=Tryz.isAgg261
 z70:=Tryz.sizeOf261
 v70:=Tryz.zeroValue261
 t76:=Tryz.underlying291
 a76:=Tryz.isAgg291
 z76:=Tryz.sizeOf291
 v76:=Tryz.zeroValue291
 t77:=Tryz.underlying292
 a77:=Tryz.isAgg292
 z77:=Tryz.sizeOf292
 v77:=Tryz.zeroValue292}
open Go.RowKit Go.Lib Go.Sort in
theorem Tryz.slices_SortFunc_int {α:Type}[Inhabited α](enc:α->Value)(h1:OneCell enc)(cf:α->α->Int)(hO:SWO (ltOf cf))(g:Nat)(cb:Array Value)(blk off cap:Nat)(d:Array α)(w:World)(eg:∀ args w,(callFunc g args).run Tryz.prog w= .ok (.enter g args) w)(hcmp:CmpLays1 Tryz.prog g cb enc cf blk off d.size w)(hH:Holds enc w blk off d)(hblk:blk<w.heap.size)(hsz:d.size<4611686018427387904):Calls Tryz.prog 81 #[.slice (some ⟨blk,off,none⟩) d.size cap,.func (.func g) #[] cb] w λe w'=>e= .returned (.tuple #[])∧∃ d' n os,PermIn 0 d.size d d'/\SortedIn (ltOf cf) 0 d.size d'/\w'=sortWorld enc w blk off n d' os:=Any.slices_SortFunc Tryz.laysSlF6_f81 enc h1 cf hO g cb blk off cap d w eg hcmp hH hblk hsz
def Tryz.laysSlG6_f81_ren:Go.Shelf.Ren:=⟨fun|6=>81|15=>144|14=>143|28=>200|29=>201|20=>192|21=>193|22=>194|23=>195|24=>196|25=>197|26=>198|27=>199|46=>242|47=>243|48=>244|49=>245|50=>246|57=>284|n=>n,fun|22=>43|24=>3|25=>45|3=>3|39=>115|0=>0|53=>223|55=>36|4=>4|46=>217|45=>216|50=>181|5=>5|9=>9|66=>257|70=>261|76=>291|77=>292|n=>n,fun|n=>n⟩
theorem Tryz.laysSlG6_f81:Go.Proofs.SlLaysF0.n6 Tryz.prog Tryz.laysSlG6_f81_ren:={
 mixed:=by kernel_rfl
 f6:=⟨Tryz.f81.name,by decide,Tryz.func81.trans (congrArg some (by kernel_rfl))⟩
 f14:=⟨Tryz.f143.name,by decide,Tryz.func143.trans (congrArg some (by kernel_rfl))⟩
 f15:=Tryz.func144.trans (congrArg some (by kernel_rfl))
 f20:=⟨Tryz.f192.name,by decide,Tryz.func192.trans (congrArg some (by kernel_rfl))⟩
 f21:=⟨Tryz.f193.name,by decide,Tryz.func193.trans (congrArg some (by kernel_rfl))⟩
 f22:=⟨Tryz.f194.name,by decide,Tryz.func194.trans (congrArg some (by kernel_rfl))⟩
 f23:=⟨Tryz.f195.name,by decide,Tryz.func195.trans (congrArg some (by kernel_rfl))⟩
 f24:=⟨Tryz.f196.name,by decide,Tryz.func196.trans (congrArg some (by kernel_rfl))⟩
 f25:=⟨Tryz.f197.name,by decide,Tryz.func197.trans (congrArg some (by kernel_rfl))⟩
 f26:=⟨Tryz.f198.name,by decide,Tryz.func198.trans (congrArg some (by kernel_rfl))⟩
 f27:=⟨Tryz.f199.name,by decide,Tryz.func199.trans (congrArg some (by kernel_rfl))⟩
 f28:=Tryz.func200.trans (congrArg some (by kernel_rfl))
 f29:=Tryz.func201.trans (congrArg some (by kernel_rfl))
 f46:=⟨Tryz.f242.name,by decide,Tryz.func242.trans (congrArg some (by kernel_rfl))⟩
 f47:=Tryz.func243.trans (congrArg some (by kernel_rfl))
 f48:=Tryz.func244.trans (congrArg some (by kernel_rfl))
 f49:=⟨Tryz.f245.name,by decide,Tryz.func245.trans (congrArg some (by kernel_rfl))⟩
 f50:=⟨Tryz.f246.name,by decide,Tryz.func246.trans (congrArg some (by kernel_rfl))⟩
 f57:=⟨Tryz.f284.name,by decide,Tryz.func284.trans (congrArg some (by kernel_rfl))⟩
 t0:=Tryz.underlying0
 a0:=Tryz.isAgg0
 z0:=Tryz.sizeOf0
 v0:=Tryz.zeroValue0
 t3:=Tryz.underlying3
 a3:=Tryz.isAgg3
 z3:=Tryz.sizeOf3
 v3:=Tryz.zeroValue3
 t4:=Tryz.underlying4
 a4:=Tryz.isAgg4
 z4:=Tryz.sizeOf4
 v4:=Tryz.zeroValue4
 t5:=Tryz.underlying5
 a5:=Tryz.isAgg5
 z5:=Tryz.sizeOf5
 v5:=Tryz.zeroValue5
 t9:=Tryz.underlying9
 a9:=Tryz.isAgg9
 z9:=Tryz.sizeOf9
 v9:=Tryz.zeroValue9
 t22:=Tryz.underlying43
 a22:=Tryz.isAgg43
 z22:=Tryz.sizeOf43
 v22:=Tryz.zeroValue43
 t25:=Tryz.underlying45
 a25:=Tryz.isAgg45
 z25:=Tryz.sizeOf45
 v25:=Tryz.zeroValue45
 t39:=Tryz.underlying115
 a39:=Tryz.isAgg115
 z39:=Tryz.sizeOf115
 v39:=Tryz.zeroValue115
 t45:=Tryz.underlying216
 a45:=Tryz.isAgg216
 z45:=Tryz.sizeOf216
 v45:=Tryz.zeroValue216
 t46:=Tryz.underlying217
 a46:=Tryz.isAgg217
 z46:=Tryz.sizeOf217
 v46:=Tryz.zeroValue217
 t50:=Tryz.underlying181
 a50:=Tryz.isAgg181
 z50:=Tryz.sizeOf181
 v50:=Tryz.zeroValue181
 t53:=Tryz.underlying223
 a53:=Tryz.isAgg223
 z53:=Tryz.sizeOf223
 v53:=Tryz.zeroValue223
 t55:=Tryz.underlying36
 a55:=Tryz.isAgg36
 z55:=Tryz.sizeOf36
 v55:=Tryz.zeroValue36
 t66:=Tryz.underlying257
 a66:=Tryz.isAgg257
 z66:=Tryz.sizeOf257
 v66:=Tryz.zeroValue257
 t70:=Tryz.underlying261
 a70:=Tryz.isAgg261
 z70:=Tryz.sizeOf261
 v70:=Tryz.zeroValue261
 t76:=Tryz.underlying291
 a76:=Tryz.isAgg291
 z76:=Tryz.sizeOf291
 v76:=Tryz.zeroValue291
 t77:=Tryz.underlying292
 a77:=Tryz.isAgg292
 z77:=Tryz.sizeOf292
 v77:=Tryz.zeroValue292}
open Go.RowKit Go.Lib Go.Sort in
theorem Tryz.slices_SortFunc_none (p:Option Addr)(cap:Nat)(fv:Value)(w:World):Calls Tryz.prog 81 #[.slice p 0 cap,fv] w λe w'=>e= .returned (.tuple #[])/\w'=w:=AnyF.slices_SortFunc_none Tryz.laysSlG6_f81 p cap fv w
end Go.Proofs
end
namespace Go.Proofs.YteghandhpbmpgaaGreatDoor
open Go.RowKit
section
set_option linter.unnecessarySimpa false
def encN (i:Nat):Value:=YI (i:Int)
theorem lift_fin {n:Nat}:∀ (l:List Nat),(∀ i∈l,i<n)→∃ m:List {i:Nat//i<n},m.map (·.1)=l
 | [],_=>⟨[],rfl⟩
 |i::r,h=>by
  obtain ⟨m,e⟩:=lift_fin r λj hj=>h j (List.mem_cons_of_mem _ hj)
  exact ⟨⟨i,h i (List.mem_cons_self ..)⟩::m,by rw [List.map_cons,e]⟩
theorem swo_ver {n:Nat}{vf:Nat->Ver}(hv:∀ i,i<n->(vf i).may=true):Go.Sort.SWO (ltOf λx y:{i:Nat//i<n}=>xH (vf x.1) (vf y.1)):=by
 refine ⟨λx=> ?_,λx y z h1 h2=> ?_,λx y z h1 h2=> ?_⟩
 ·show decide (xH (vf x.1) (vf x.1)<0)=false
  rw [fM];rfl
 ·have hx:=hv x.1 x.2
  have hy:=hv y.1 y.2
  have hz:=hv z.1 z.2
  have k1:xH (vf x.1) (vf y.1)<0:=of_decide_eq_true h1
  have k2:xH (vf y.1) (vf z.1)<0:=of_decide_eq_true h2
  show decide (xH (vf x.1) (vf z.1)<0)=true
  rw [decide_eq_true_eq]
  rcases order_on hx hy hz with q|q|⟨q1,q2⟩
  ·omega
  ·omega
  ·by_cases h0:xH (vf x.1) (vf z.1)=0
   ·have:=q2.2 h0;omega
   ·omega
 ·have hx:=hv x.1 x.2
  have hy:=hv y.1 y.2
  have hz:=hv z.1 z.2
  have k1:¬ xH (vf x.1) (vf y.1)<0:=of_decide_eq_false h1
  have k2:¬ xH (vf y.1) (vf z.1)<0:=of_decide_eq_false h2
  show decide (xH (vf x.1) (vf z.1)<0)=false
  rw [decide_eq_false_iff_not]
  have a1:=fN hx hy
  have a2:=fN hy hz
  have a3:=fN hx hz
  rcases order_on hz hy hx with q|q|⟨q1,q2⟩<;>omega
theorem take_putN {α:Type}[Inhabited α](enc:α->Value)(cur:Array Value)(d:Array α)(h:d.size<=cur.size):(Go.Sort.putCells enc 0 d cur).toList.take d.size=d.toList.map enc:=by
 apply List.ext_getElem?
 intro j
 by_cases hj:j<d.size
 ·rw [List.getElem?_take_of_lt hj,Array.getElem?_toList]
  simp [Go.Sort.putCells,hj,show j<cur.size by omega]
 ·rw [List.getElem?_take_eq_none (by omega),List.getElem?_eq_none (by simp;omega)]
theorem sorted_own {α:Type}[Inhabited α](enc:α->Value){g m:Nat}{cur:Array Value}{d:Array α}{os:Array Obj}{w:World}(hb:w.heap[g]?=some (.cells cur 3)):Own [g] w (sortWorld enc w g 0 m d os) [⟨g,Go.Sort.putCells enc 0 d cur,3⟩]:=by
 have hg:g<w.heap.size:=(Array.getElem?_eq_some_iff.1 hb).1
 have hs:(Go.Sort.putRow enc (Go.Sort.ahead w m) g 0 d).heap.size=w.heap.size:=by simp [Go.Sort.putRow,Go.Sort.mapBlock,Go.Sort.ahead]
 have hold:∀ k,k<w.heap.size->(sortWorld enc w g 0 m d os).heap[k]?=(Go.Sort.putRow enc (Go.Sort.ahead w m) g 0 d).heap[k]?:=λk hk=>Go.Sort.heap_grow_old _ _ (by rw [hs];exact hk)
 refine ⟨rfl,rfl,rfl, ?_,Nat.le_add_right _ _,λk hk hne=> ?_,λx hx=> ?_,λx hx=> .inr (by rw [List.mem_singleton] at hx;rw [hx];exact List.mem_singleton_self _),by simp⟩
 ·show w.heap.size<=((Go.Sort.putRow enc (Go.Sort.ahead w m) g 0 d).heap++os).size
  rw [Array.size_append,hs];exact Nat.le_add_right _ _
 ·rw [hold k hk]
  have:g≠k:=λe=>hne (by simp [e])
  simp [Go.Sort.putRow,Go.Sort.mapBlock,Go.Sort.ahead,Array.getElem?_modify,this]
 ·obtain rfl:x=_:=by simpa using hx
  rw [hold g hg]
  simp [Go.Sort.putRow,Go.Sort.mapBlock,Go.Sort.ahead,Array.getElem?_modify,hb,Go.Sort.onCells]
theorem isort_any (n:Nat)(vf:Nat->Ver)(hvf:∀ i,i<n->(vf i).may=true)(gf:FuncId)(cb:Array Value)(hgf:∀ args w,(callFunc gf args).run Tryz.prog w= .ok (.enter gf args) w){v:Value}{l:List Nat}{ob:List Blk}{w:World}(hl:∀ i∈l,i<n)(h:Sl 3 1 v l.length (l.map encN) ob)(hO:Own (ob.map Blk.b) w w ob)(hn:l.length<=1000000)
  (hcmp:∀ w',Own (ob.map Blk.b) w w' []→∀ i j:Nat,i<n->j<n->Calls Tryz.prog gf (#[encN i,encN j]++cb) w' λe w2=>e= .returned (YI (xH (vf i) (vf j)))/\Below w'.heap.size w' w2):
  YC 81 #[v,.func (.func gf) #[] cb] w λe w'=>∃ (l':List Nat) (ob':List Blk),e= .returned (.tuple #[])/\l'.Perm l/\(l'.Pairwise λi j=>¬ xH (vf j) (vf i)<0)/\Sl 3 1 v l'.length (l'.map encN) ob'/\Own (ob.map Blk.b) w w' ob'/\ob'.map Blk.b=ob.map Blk.b:=by
 by_cases h0:l=[]
 ·subst h0
  have hv:∃ p cap,v= .slice p 0 cap:=by
   rcases h.2 with ⟨rfl,_,_⟩|⟨g,cap,cur,rfl,_⟩
   ·exact ⟨_,_,rfl⟩
   ·exact ⟨_,_,rfl⟩
  obtain ⟨p,cap,rfl⟩:=hv
  exact (Tryz.slices_SortFunc_none p cap _ w).mono λe w' ⟨e1,e2⟩=>⟨[],ob,e1,List.Perm.refl _,List.Pairwise.nil,h,e2▸hO,rfl⟩
 obtain ⟨h1,h2⟩:=h
 rcases h2 with ⟨rfl,h3,rfl⟩|⟨g,cap,cur,rfl,rfl,h3,h4,h5,h6⟩
 ·exact absurd (List.eq_nil_of_length_eq_zero h3) h0
 have hn0:0<n:=by
  obtain ⟨i,hi⟩:=List.exists_mem_of_ne_nil l h0
  have:=hl i hi
  omega
 have:Inhabited {i:Nat//i<n}:=⟨⟨0,hn0⟩⟩
 obtain ⟨m,rfl⟩:=lift_fin l hl
 obtain ⟨enc,henc⟩:∃ enc:{i:Nat//i<n}->Value,enc=λx=>encN x.1:=⟨_,rfl⟩
 have hme:∀ q:List {i:Nat//i<n},(q.map (·.1)).map encN=q.map enc:=λq=>by rw [henc,List.map_map];rfl
 have hb:w.heap[g]?=some (.cells cur 3):=hO.held ⟨g,cur,3⟩ (List.mem_singleton.2 rfl)
 have hgl:g<w.heap.size:=(Array.getElem?_eq_some_iff.1 hb).1
 rw [hme,Nat.mul_one,List.length_map] at h6
 rw [List.length_map] at hn h3 ⊢
 have hH:Go.Sort.Holds enc w g 0 m.toArray:=by
  intro j hj
  have hj':j<m.length:=by simpa using hj
  refine ⟨?_,by simp [World.frozen?,hb]⟩
  have q:(cur.toList.take m.length)[j]?=(m.map enc)[j]?:=by rw [h6]
  rw [List.getElem?_take_of_lt hj'] at q
  simp only [World.cell?,hb,Nat.zero_add]
  simp only [Option.isSome_none,Bool.false_eq_true,if_false]
  rw [←Array.getElem?_toList,q]
  simp [hj']
 have hcon:=Tryz.slices_SortFunc_int enc (λx=>by rw [henc];rfl) (λx y=>xH (vf x.1) (vf y.1)) (swo_ver hvf) gf cb g 0 cap m.toArray w hgf
  (λmm os dk _ x y=>by
   have:=hcmp (sortWorld enc w g 0 mm dk os) ((sorted_own enc hb).sublist (List.nil_sublist _)) x.1 y.1 x.2 y.2
   rw [henc] at this ⊢
   exact this.mono λe w' ⟨k1,k2⟩=>⟨k1,k2.asGrow⟩) hH hgl (by simp;omega)
 rw [show m.toArray.size=m.length from by simp] at hcon
 refine hcon.mono λe w' ⟨e1,d',nn,os,hp,hs,hw⟩=> ?_
 have hsz:d'.size=m.length:=by rw [hp.1];simp
 have hdl:(d'.toList.map (·.1)).length=m.length:=by simp [hsz]
 refine ⟨d'.toList.map (·.1),[⟨g,Go.Sort.putCells enc 0 d' cur,3⟩],e1, ?_, ?_,⟨by rw [hme];simp,.inr ⟨g,cap,_,by rw [hdl],rfl,by rw [hdl];exact h3,h4,by simp [Go.Sort.putCells,h5], ?_⟩⟩,by rw [hw];exact sorted_own enc hb,rfl⟩
 ·have h2:=hp.2.2
  rw [show d'.extract 0 m.length=d' from by rw [←hsz];simp,show m.toArray.extract 0 m.length=m.toArray from by simp] at h2
  simpa using h2.map (·.1)
 ·rw [List.pairwise_map,List.pairwise_iff_getElem]
  intro i j hi hj hij
  have hj':j<d'.size:=by simpa using hj
  have:=hs i j (Nat.zero_le _) hij Om
  unfold ltOf at this
  rw [decide_eq_false_iff_not,getElem!_pos d' j hj',getElem!_pos d' i Om] at this
  simpa using this
 ·rw [hdl,Nat.mul_one,hme,←hsz]
  exact take_putN enc cur d' (by rw [h5,hsz];omega)
end
section
set_option linter.unnecessarySimpa false
def pL (l:List Et)(i:Nat):Ver:=(l[i]?.map λe=>e.rc.ver).getD Ver.zero
theorem dR {l:List Et}{i:Nat}(hi:i<l.length):pL l i=l[i].rc.ver:=by simp [pL,hi]
def wX (l:List Et)(n:YL):Nat->List Nat
 |0=>[]
 |i+1=>if (l[i]?.map λe=>e.rc.name)=some n then wX l n i++[i] else wX l n i
theorem idx_mem {l:List Et}{n:YL}:∀ {k j:Nat},j∈wX l n k↔j<k/\(l[j]?.map λe=>e.rc.name)=some n
 |0,j=>by simp [wX]
 |k+1,j=>by
  unfold wX
  split
  ·rename_i h
   rw [List.mem_append,List.mem_singleton,idx_mem]
   constructor
   ·rintro (⟨h1,h2⟩|rfl)
    ·exact ⟨by omega,h2⟩
    ·exact ⟨Nat.lt_succ_self _,h⟩
   ·intro ⟨h1,h2⟩
    by_cases e:j=k
    ·exact .inr e
    ·exact .inl ⟨by omega,h2⟩
  ·rename_i h
   rw [idx_mem]
   constructor
   ·intro ⟨h1,h2⟩;exact ⟨by omega,h2⟩
   ·intro ⟨h1,h2⟩
    by_cases e:j=k
    ·subst e;exact absurd h2 h
    ·exact ⟨by omega,h2⟩
theorem idx_nodup {l:List Et}{n:YL}:∀ k:Nat,(wX l n k).Nodup
 |0=>List.nodup_nil
 |k+1=>by
  unfold wX
  split
  ·rw [List.nodup_append]
   exact ⟨idx_nodup k,by simp,λa ha b hb=>by rw [List.mem_singleton.1 hb];have:=(idx_mem.1 ha).1;omega⟩
  ·exact idx_nodup k
theorem idx_len {l:List Et}{n:YL}:∀ k:Nat,(wX l n k).length<=k
 |0=>Nat.le_refl _
 |k+1=>by
  unfold wX
  have:=idx_len (l:=l) (n:=n) k
  split
  ·rw [List.length_append,List.length_singleton];omega
  ·omega
theorem name_apart {s:Sh}(h:x1 s){n:YL}{i j:Nat}(hi:(s.es[i]?.map λe=>e.rc.name)=some n)(hj:(s.es[j]?.map λe=>e.rc.name)=some n)(hij:i≠j):xH (pL s.es i) (pL s.es j)≠0:=by
 have key:∀ {i j:Nat},i<j->(s.es[i]?.map λe=>e.rc.name)=some n->(s.es[j]?.map λe=>e.rc.name)=some n->xH (pL s.es i) (pL s.es j)≠0:=λ{i j} hl hi hj=>by
  obtain ⟨a,ha,ea⟩:=Option.map_eq_some_iff.1 hi
  obtain ⟨b,hb,eb⟩:=Option.map_eq_some_iff.1 hj
  obtain ⟨li,rfl⟩:=List.getElem?_eq_some_iff.1 ha
  obtain ⟨lj,rfl⟩:=List.getElem?_eq_some_iff.1 hb
  have hp:=List.pairwise_iff_getElem.1 h.apart i j li lj hl
  have m1:=(yY (h.ok _ (List.getElem_mem li)).1).2.1
  have m2:=(yY (h.ok _ (List.getElem_mem lj)).1).2.1
  unfold bH oneV at hp
  rw [ea,eb,m1,m2] at hp
  rw [dR li,dR lj]
  simpa using hp
 rcases Nat.lt_or_gt_of_ne hij with hl|hl
 ·exact key hl hi hj
 ·intro h0
  obtain ⟨a,ha,ea⟩:=Option.map_eq_some_iff.1 hi
  obtain ⟨b,hb,eb⟩:=Option.map_eq_some_iff.1 hj
  obtain ⟨li,rfl⟩:=List.getElem?_eq_some_iff.1 ha
  obtain ⟨lj,rfl⟩:=List.getElem?_eq_some_iff.1 hb
  have m1:=(yY (h.ok _ (List.getElem_mem li)).1).2.1
  have m2:=(yY (h.ok _ (List.getElem_mem lj)).1).2.1
  refine key hl hj hi ?_
  rw [dR li,dR lj] at h0 ⊢
  rw [fN m1 m2,h0];rfl
def ListS (s:Sh)(n:YL)(l:List Nat):Prop:=l.Perm (wX s.es n s.es.length)/\l.Pairwise λi j=>xH (pL s.es i) (pL s.es j)<0
theorem list_strict {s:Sh}(h:x1 s){n:YL}{l:List Nat}(hp:l.Perm (wX s.es n s.es.length))(hs:l.Pairwise λi j=>¬ xH (pL s.es j) (pL s.es i)<0):ListS s n l:=by
 refine ⟨hp, ?_⟩
 have hnd:l.Nodup:=hp.nodup_iff.2 (idx_nodup _)
 rw [List.pairwise_iff_getElem] at hs ⊢
 intro i j hi hj hij
 have h1:=hs i j hi hj hij
 have mi:=idx_mem.1 (hp.mem_iff.1 (List.getElem_mem hi))
 have mj:=idx_mem.1 (hp.mem_iff.1 (List.getElem_mem hj))
 have hne:l[i]≠l[j]:=λe=>by
  have:=(List.nodup_iff_pairwise_ne.1 hnd)
  exact List.pairwise_iff_getElem.1 this i j hi hj hij e
 have h2:=name_apart h mi.2 mj.2 hne
 have q:∀ {k:Nat},k<s.es.length->(pL s.es k).may=true:=λ{k} hk=>by
  rw [dR hk];exact (yY (h.ok _ (List.getElem_mem hk)).1).2.1
 have h3:=fN (q mi.1) (q mj.1)
 omega
theorem sCmp13_any (x:Hv)(b i j:Nat)(W w:World)(hx:ShIn W W.heap.size x)(hW:Below W.heap.size W w)(hM:x1 x.sh)(hb:w.heap[b]?=some (.cells #[.string (mkS x.name),.slice x.A x.es.length x.cap] 49))(hi:i<x.es.length)(hj:j<x.es.length):YC 82 #[YI (i:Int),YI (j:Int),.pointer (some ⟨b,0,none⟩)] w (YR (YI (xH (pL x.sh.es i) (pL x.sh.es j))) w):=by
 have hbl:b<w.heap.size:=(Array.getElem?_eq_some_iff.1 hb).1
 obtain ⟨eb,eo,hA,hel⟩:=hx.es.top.elem gN i hi
 obtain ⟨fb,fo,hB,hel2⟩:=hx.es.top.elem gN j hj
 have v1:∀ w2,Below w.heap.size w w2->(loadVar 23 ⟨eb,eo+i*11+1,none⟩).run Tryz.prog w2= .ok (y7 x.es[i].rec'.ver) w2:=λw2 h=>hel w2 (hW.trans (h.mono hW.size)) _ 1 _ Kr
 have v2:∀ w2,Below w.heap.size w w2->(loadVar 23 ⟨fb,fo+j*11+1,none⟩).run Tryz.prog w2= .ok (y7 x.es[j].rec'.ver) w2:=λw2 h=>hel2 w2 (hW.trans (h.mono hW.size)) _ 1 _ Kr
 have s1:=(hx.es.each _ (List.getElem_mem hi)).sn
 have s2:=(hx.es.each _ (List.getElem_mem hj)).sn
 have e1:pL x.sh.es i=x.es[i].rec'.ver:=by rw [dR (by simpa [Hv.sh] using hi)];simp [Hv.sh];rfl
 have e2:pL x.sh.es j=x.es[j].rec'.ver:=by rw [dR (by simpa [Hv.sh] using hj)];simp [Hv.sh];rfl
 rw [e1,e2]
 generalize x.es[i].rec'=p at*
 generalize x.es[j].rec'=q at*
 have hcmp:∀ w2,YC 83 #[y7 p.ver,y7 q.ver] w2 (YR (YI (xH p.ver q.ver)) w2):=λw2=>vcompareQ_any p.ver q.ver w2 s1.2.1 s1.2.2 s2.2.1 s2.2.2
 have hsl:∀ w2,Below w.heap.size w w2->(loadVar 47 ⟨b,0+1,none⟩).run Tryz.prog w2= .ok (.slice x.A x.es.length x.cap) w2:=λw2 h=>x4 Kr ((h.block b hbl).trans hb)
 refine z8 Tryz.func82 (zG 7 [] 47 b (0+1) (.slice x.A x.es.length x.cap) (λw2 hO=>hsl w2 hO.below) ?_)
 refine zH 9 [] hA x.es.length x.cap i 11 hi (zG 12 [] 23 eb (eo+i*11+1) (y7 p.ver) (λw2 hO=>v1 w2 hO.below) ?_)
 refine zG 14 [] 47 b (0+1) (.slice x.A x.es.length x.cap) (λw2 hO=>hsl w2 hO.below) (zH 16 [] hB x.es.length x.cap j 11 hj (zG 19 [] 23 fb (fo+j*11+1) (y7 q.ver) (λw2 hO=>v2 w2 hO.below) ?_))
 exact z6 (v:=YI (xH p.ver q.ver)) [] (λw2 hO=>hcmp w2) (z7 [] (YI (xH p.ver q.ver)) λw2 hO=>⟨rfl,hO.below⟩)
theorem sList_any (x:Hv)(nm:YL)(W:World)(hx:ShIn W W.heap.size x)(hM:x1 x.sh)(hK:RecLib W):YC 36 #[hvV x,.string (mkS nm)] W λe w'=>∃ v ob,e= .returned v/\(∃ l:List Nat,Sl 3 1 v l.length (l.map encN) ob/\ListS x.sh nm l)/\Own [] W w' ob:=by
 have cM:∀ w,Below W.heap.size W w->YC 31 #[hvV x] w (YR (.bool true) w):=λw hb=>by
  have h:=fI x w (hx.on hb hb.size) (hK.on hb)
  rw [decide_eq_true hM] at h;exact h
 have hxl:x.sh.es.length=x.es.length:=by simp [Hv.sh]
 have hn64:x.es.length<=64:=hxl▸hM.few
 refine z8 Tryz.func36 (zO [] λb2=>z6 (v:= .bool true) [0] (λw hO=>cM w hO.below) ?_)
 refine zL (α:=Nat×Value×List Blk) (λ(i,v,ob)=>[(1,.string (mkS nm)),(2,Zp b2 0),(5,v),(12,.slice x.A x.es.length x.cap),(13,YI (x.es.length:Int)),(14,YI (i:Int))]) (λ(i,v,ob)=>[⟨b2, #[.string (mkS x.name),.slice x.A x.es.length x.cap],49⟩]++ob) (λ(i,v,ob) m=>(i<=x.es.length/\Sl 3 1 v (wX x.sh.es nm i).length ((wX x.sh.es nm i).map encN) ob)/\m=x.es.length-i) (0,.slice none 0 0,[]) x.es.length [0] ⟨⟨Nat.zero_le _,Sl.nil _ _⟩,rfl⟩ ?_
 rintro ⟨i,v,ob⟩ mm g kk ⟨⟨hi,hv⟩,hmm⟩ nx hkk
 subst hkk
 refine zA 15 [] ((i:Int)<(x.es.length:Int)) (λh15=> ?_) (λh15=> ?_)
 rotate_left
 ·have hie:i=x.es.length:=by omega
  subst hie
  have hall:∀ k∈wX x.sh.es nm x.es.length,k<x.es.length:=λk hk=>(idx_mem.1 hk).1
  have hvf:∀ k,k<x.es.length->(pL x.sh.es k).may=true:=λk hk=>by
   rw [dR Om];exact (yY (hM.ok _ (List.getElem_mem Om)).1).2.1
  refine x_val 30 [] (.func (.func 82) #[] #[Zp b2 0]) (λw=>Kr) (kA (k:=81) (args:= #[v,.func (.func 82) #[] #[Zp b2 0]]) (Rr:=λu ob'=>u= .tuple #[]∧∃ l:List Nat,Sl 3 1 v l.length (l.map encN) ob'/\ListS x.sh nm l) [] ([⟨b2, #[.string (mkS x.name),.slice x.A x.es.length x.cap],49⟩]++ob) [⟨b2, #[.string (mkS x.name),.slice x.A x.es.length x.cap],49⟩] ob (λw hO=>hO) (λw hO=> ?_) ?_)
  ·have hg2:w.heap[b2]?=some (.cells #[.string (mkS x.name),.slice x.A x.es.length x.cap] 49):=hO.get (i:=0) rfl
   have hap:b2∉ob.map Blk.b:=by
    have:=hO.apart
    rw [List.map_append,List.nodup_append] at this
    exact λh=>this.2.2 b2 (by simp) b2 h rfl
   have hge:∀ k∈ob.map Blk.b,W.heap.size<=k:=λk hk=>by
    obtain ⟨y,hy,rfl⟩:=List.mem_map.1 hk
    exact (hO.base y (List.mem_append_right _ hy)).elim id λh=>by cases h
   refine (isort_any x.es.length (pL x.sh.es) hvf 82 #[Zp b2 0] (enters_of Tryz.func82 Kr rfl) hall hv (hO.sublist (List.sublist_append_right _ _)).lend (by have:=idx_len (l:=x.sh.es) (n:=nm) x.es.length;omega) (λw' hO' i j hi hj=> ?_)).mono λe w' ⟨l',ob',q1,q2,q3,q4,q5,_⟩=>⟨_,ob',q1,⟨rfl,l',q4,list_strict hM (hxl▸q2) q3⟩,q5⟩
   have hW2:Below W.heap.size W w':=hO.below.trans (hO'.belowB hge hO.size)
   exact sCmp13_any x b2 i j W w' hx hW2 hM ((hO'.kept b2 (Array.getElem?_eq_some_iff.1 hg2).1 hap).trans hg2) hi hj
  ·rintro _ ob' ⟨rfl,l,hl,hL⟩
   exact z7 [] v λw hO=>⟨v,ob',rfl,⟨l,hl,hL⟩,hO.past 1 ob'⟩
 have hj:i<x.es.length:=by omega
 obtain ⟨eb,eo,hA,hel⟩:=hx.es.top.elem gN i hj
 have q1:∀ w,Below W.heap.size W w->(loadVar 57 ⟨eb,eo+i*11+0,none⟩).run Tryz.prog w= .ok (evV x.es[i]) w:=λw hw=>hel w hw _ 0 _ Kr
 have hnm:(x.sh.es[i]?.map λe=>e.rc.name)=some x.es[i].rec'.name:=by simp [Hv.sh,hj];rfl
 have hid:wX x.sh.es nm (i+1)=if (some x.es[i].rec'.name:Option YL)=some nm then wX x.sh.es nm i++[i] else wX x.sh.es nm i:=by rw [wX,hnm]
 generalize x.es[i]=u at*
 refine zH 17 [] hA x.es.length x.cap i 11 hj (zG 18 [] 57 eb (eo+i*11+0) (evV u) (λw hO=>q1 w hO.below) (zB [] λb7=>yJ 23 [0,0] u.rec'.name nm (λh23=> ?_) (λh23=> ?_)))
 ·rw [if_pos (by rw [h23])] at hid
  refine kD [] 1 3 #[YI (i:Int)] λbl=>(qP (m:=1) (cp:=1) [] [⟨bl, #[YI (i:Int)],3⟩,⟨b7, #[.string (mkS u.rec'.name),YI u.rec'.maj,YI u.rec'.min,YI u.rec'.pat,.string (mkS u.rec'.pre),.string (mkS u.rec'.bld),.slice u.rec'.nA u.rec'.needs.length u.rec'.nc,.slice u.rec'.bA u.rec'.bars.length u.rec'.bc,.slice u.rec'.fA u.rec'.fts.length u.rec'.fc,.int .u64 u.sum,.bool u.yk],57⟩,⟨b2, #[.string (mkS x.name),.slice x.A x.es.length x.cap],49⟩] ob [] 0 ([⟨bl, #[YI (i:Int)],3⟩,⟨b7, #[.string (mkS u.rec'.name),YI u.rec'.maj,YI u.rec'.min,YI u.rec'.pat,.string (mkS u.rec'.pre),.string (mkS u.rec'.bld),.slice u.rec'.nA u.rec'.needs.length u.rec'.nc,.slice u.rec'.bA u.rec'.bars.length u.rec'.bc,.slice u.rec'.fA u.rec'.fts.length u.rec'.fc,.int .u64 u.sum,.bool u.yk],57⟩,⟨b2, #[.string (mkS x.name),.slice x.A x.es.length x.cap],49⟩]++ob) (λw hO=>hO.cast (by simp)) hv (by have:=idx_len (l:=x.sh.es) (n:=nm) i;omega) λv' ob' hv'=>(x_i 28 [] ((i+1:Nat):Int) (zJ [] ([⟨b2, #[.string (mkS x.name),.slice x.A x.es.length x.cap],49⟩]++ob') (λw hO=> ?_) (nx (i+1,v',ob') (x.es.length-(i+1)) [] Om ⟨⟨hj,by rw [hid,List.length_append,List.length_singleton,List.map_append];exact hv'⟩,rfl⟩ Kr Kr))))
  have hO':=hO.past 0 ([⟨bl, #[YI (i:Int)],3⟩,⟨b7, #[.string (mkS u.rec'.name),YI u.rec'.maj,YI u.rec'.min,YI u.rec'.pat,.string (mkS u.rec'.pre),.string (mkS u.rec'.bld),.slice u.rec'.nA u.rec'.needs.length u.rec'.nc,.slice u.rec'.bA u.rec'.bars.length u.rec'.bc,.slice u.rec'.fA u.rec'.fts.length u.rec'.fc,.int .u64 u.sum,.bool u.yk],57⟩,⟨b2, #[.string (mkS x.name),.slice x.A x.es.length x.cap],49⟩]++ob'++[])
  clear hO
  exact own_cnt [⟨bl, #[YI (i:Int)],3⟩,⟨b7, #[.string (mkS u.rec'.name),YI u.rec'.maj,YI u.rec'.min,YI u.rec'.pat,.string (mkS u.rec'.pre),.string (mkS u.rec'.bld),.slice u.rec'.nA u.rec'.needs.length u.rec'.nc,.slice u.rec'.bA u.rec'.bars.length u.rec'.bc,.slice u.rec'.fA u.rec'.fts.length u.rec'.fc,.int .u64 u.sum,.bool u.yk],57⟩] hO' λp=>by simp only [List.countP_append,List.countP_cons,List.countP_nil,List.cons_append,List.nil_append];omega
 ·rw [if_neg (by simpa using h23)] at hid
  exact x_i 28 [] ((i+1:Nat):Int) (zJ [] ([⟨b2, #[.string (mkS x.name),.slice x.A x.es.length x.cap],49⟩]++ob) (λw hO=>hO.past 1 ([⟨b2, #[.string (mkS x.name),.slice x.A x.es.length x.cap],49⟩]++ob)) (nx (i+1,v,ob) (x.es.length-(i+1)) [] Om ⟨⟨hj,by rw [hid];exact hv⟩,rfl⟩ Kr Kr))
end
section
open Go.ChangeShapes Go.WideShapes Go.ChangeAt Go.RowKit
theorem open_texts {H:Type}{enc:TypeId×Value->H}{W:World}{base:Nat}{v:Value}{d:DataW H}{ps:List MemPlace}(hval:Value.okWide Tryz.prog W .any base 75 v)
  (h:DataW.Trod enc Tryz.prog W 0 (λ_=>true) true 75 v d ps):∃ l:List YL,ReadsT W W.heap.size v l/\l.length<=maxLen∧∀ x∈l,x.length<=maxLen:=by
 obtain ⟨A,len,cap,rfl⟩:=okWide_slice Tryz.underlying75 hval
 obtain ⟨fuel,hf⟩:=h
 rcases open_strings Tryz.underlying75 Tryz.underlying9 strCells1 hf with ⟨hcs,_⟩|⟨a,len',cap',ss,hcs,_,hl,hm,hz,_,hcell,hws⟩
 ·simp [Value.cells] at hcs
  obtain ⟨rfl,rfl,rfl⟩:=hcs
  exact ⟨[],⟨none,0,rfl,λh=>by cases h⟩,by simp,by simp⟩
 ·simp [Value.cells] at hcs
  obtain ⟨rfl,rfl,rfl⟩:=hcs
  simp only [if_true] at hz
  have hlen:((ss.take len).map (·.data.toList)).length=len:=by rw [List.length_map,List.length_take];omega
  refine ⟨(ss.take len).map (·.data.toList),⟨some a,cap,by rw [hlen],λh0=>⟨a,rfl, ?_,λj hj=> ?_⟩⟩,by rw [hlen];omega,λx hx=> ?_⟩
  ·have:=cell_lt (hcell 0 Om)
   rwa [pF] at this
  ·have hj2:j<ss.length:=by omega
   rw [hcell j hj2,List.getElem_map,List.getElem_take]
   simp only [List.getD,List.getElem?_eq_getElem hj2,Option.getD_some]
   rfl
  ·obtain ⟨s,hs,rfl⟩:=List.mem_map.1 hx
   have:=hws s (List.mem_of_mem_take hs)
   rw [w8];exact this
theorem powType:(Tryz.prog.globals[3]?).map (·.type)=some 335:=by kernel_rfl
theorem powNamed : Tryz.prog.globalNamed "internal/strconv.uint64pow10" = some 3 := by kernel_rfl
theorem powCells:Tryz.prog.cellsOf 335=20:=by kernel_rfl
theorem u64Cells:Tryz.prog.cellsOf 36=1:=by kernel_rfl
theorem hasTab_of {W : World} {l : List (String × DataW Unit)} (h : laidMetH Tryz.prog l W) (e : (l.filter fun x => x.1 == "internal/strconv.uint64pow10") = [("internal/strconv.uint64pow10", Lib.tabData .u64 Lib.pow10Tab)]) : HasTab W := by
 have h2 := h.filter (fun x => x.1 == "internal/strconv.uint64pow10")
 rw [e] at h2
 exact Lib.tabBelow_of_tabIs (Lib.tabIs_of_head (rest:=[]) powNamed powType Tryz.underlying335 Tryz.underlying36 u64Cells powCells h2)
end
section
open Go.ChangeShapes Go.WideShapes Go.ChangeAt Go.RowKit
theorem cells_of_strs {H:Type}{enc:TypeId×Value->H}{P:Program}{w:World}{base:Nat}{sp:Nat->Bool}{held:Bool}{fuel:Nat}{t e:TypeId}{n:Nat}{cs:List Value}{ss:List YL}{p:List MemPlace}
  (ht:P.underlying t=some (.array n e)) (he:P.underlying e=some .string) (hce:P.cellsOf e=1) (hct:P.cellsOf t=n)
  (h:DataW.trod enc P w base sp held fuel t cs=some (.agg (ss.map λs=> .lit (.string s)),p)):cs=ss.map λs=>Value.string (mkS s):=by
 cases fuel with
 |zero=>simp [DataW.trod] at h
 |succ fuel=>
  simp only [DataW.trod,ht,hce,hct,Nat.mul_one] at h
  split at h
  ·rename_i hl
   obtain ⟨xs,hm,hx⟩:=Option.map_eq_some_iff.1 h
   have hxs:xs.map (·.1)=ss.map λs=>(DataW.lit (.string s):DataW H):=by
    have:=congrArg Prod.fst hx
    simpa using this
   have hxl:xs.length=n:=by simpa using Lib.mapM_length hm
   have hzl:ss.length=n:=by
    have:=congrArg List.length hxs
    simp at this
    omega
   apply List.ext_getElem?
   intro i
   by_cases hi:i<n
   ·obtain ⟨b,hb,hf⟩:=Lib.mapM_at hm i i (by simp [hi])
    obtain ⟨s,hc,rfl,_⟩:=DataW.trod_string he hf
    have h1:cs[i]?=some (.string s):=by
     have:=congrArg (·[0]?) hc
     simpa [List.getElem?_take,List.getElem?_drop] using this
    have h2:(xs.map (·.1))[i]?=some (DataW.lit (.string s.data.toList):DataW H):=by simp [hb]
    rw [hxs] at h2
    simp only [List.getElem?_map,Option.map_eq_some_iff,DataW.lit.injEq,Lit.string.injEq] at h2
    obtain ⟨z',hz',e9⟩:=h2
    rw [h1,List.getElem?_map,hz',e9]
    show some (Value.string s)=some (Value.string (mkS s.data.toList))
    rw [show mkS s.data.toList=s from by cases s;unfold mkS;simp]
   ·rw [List.getElem?_eq_none (by omega),List.getElem?_eq_none (by simp;omega)]
  ·cases h
theorem keysType:(Tryz.prog.globals[2]?).map (·.type)=some 168:=by kernel_rfl
theorem keysNamed : Tryz.prog.globalNamed "linchpin/mark.keys" = some 2 := by kernel_rfl
theorem keysCells:Tryz.prog.cellsOf 168=3:=by kernel_rfl
theorem mkLib_of {W : World} {l : List (String × DataW Unit)} (h : laidMetH Tryz.prog l W) (e : (l.filter fun x => x.1 == "linchpin/mark.keys") = [("linchpin/mark.keys", .agg [.lit (.string [111, 115]), .lit (.string [97, 114, 99, 104]), .lit (.string [97, 98, 105])])]) : MkLib W := by
 have h2 := h.filter (fun x => x.1 == "linchpin/mark.keys")
 rw [e] at h2
 obtain ⟨ps,⟨g',t',cs,fuel,p,q,hg',ht',hvar,hd,_,hps⟩,_,hcell⟩:=h2
 obtain rfl:=Option.some.inj (keysNamed.symm.trans hg')
 obtain rfl:=Option.some.inj (keysType.symm.trans ht')
 have hcs:cs.toList=[[111,115],[97,114,99,104],[97,98,105]].map λs=>Value.string (mkS s):=cells_of_strs (n:=3) Tryz.underlying168 Tryz.underlying9 strCells1 keysCells hd
 have hsz:cs.size=3:=by rw [←Array.length_toList,hcs];rfl
 have hm:MemPlace.cell 2 0∈ps:=by
  rw [hps]
  refine List.mem_append_left _ (List.mem_append_left _ ?_)
  exact MemPlace.mem_row.2 ⟨0,by rw [hsz];decide,rfl⟩
 obtain ⟨⟨c,t,hb⟩,_⟩:=hcell _ _ hm
 have hv : W.var? Tryz.prog "linchpin/mark.keys" = some c := by
  unfold World.var?
  rw [keysNamed]
  simp only [Option.bind_some,hb]
 have hcc:c=cs:=Option.some.inj (hv.symm.trans hvar)
 refine ⟨(Array.getElem?_eq_some_iff.1 hb).1,t, ?_⟩
 rw [hb,hcc]
 congr 2
 apply Array.toList_inj.1
 rw [hcs]
 rfl
end
section
open Go.ChangeShapes Go.WideShapes Go.ChangeAt Go.RowKit
theorem open_nums {H:Type}{enc:TypeId×Value->H}{W:World}{base:Nat}{v:Value}{d:DataW H}{ps:List MemPlace}(hval:Value.okWide Tryz.prog W .any base 43 v)
  (h:DataW.Trod enc Tryz.prog W 0 (λ_=>true) true 43 v d ps):∃ l:List Int,ReadsI W W.heap.size v l/\l.length<=maxLen:=by
 obtain ⟨A,len,cap,rfl⟩:=okWide_slice Tryz.underlying43 hval
 obtain ⟨fuel,hf⟩:=h
 rcases open_ints Tryz.underlying43 Tryz.underlying3 Kr hf with ⟨hcs,_⟩|⟨a,len',cap',zs,hcs,_,hl,hm,hz,_,hcell,_⟩
 ·simp [Value.cells] at hcs
  obtain ⟨rfl,rfl,rfl⟩:=hcs
  exact ⟨[],⟨none,0,rfl,λh=>by cases h⟩,by simp⟩
 ·simp [Value.cells] at hcs
  obtain ⟨rfl,rfl,rfl⟩:=hcs
  simp only [if_true] at hz
  have hlen:(zs.take len).length=len:=by rw [List.length_take];omega
  refine ⟨zs.take len,⟨some a,cap,by rw [hlen],λh0=>⟨a,rfl, ?_,λj hj=> ?_⟩⟩,by rw [hlen];omega⟩
  ·have:=cell_lt (hcell 0 Om)
   rwa [add_block] at this
  ·have hj2:j<zs.length:=by omega
   rw [hcell j hj2,List.getElem_take]
   simp only [List.getD,List.getElem?_eq_getElem hj2,Option.getD_some]
end
end Go.Proofs.YteghandhpbmpgaaGreatDoor
