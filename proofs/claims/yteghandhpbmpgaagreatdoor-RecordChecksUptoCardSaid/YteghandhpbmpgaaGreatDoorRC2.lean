/-
 What the statement's proof leans on: the ways of walking, plain mathematics, and what the program's functions return; each theorem says on what conditions.
-/
import Derived.Lib.OthersKept
import Derived.Lib.Strings
import Derived.Lib.Slices
import Derived.Lib.Walk
import Derived.Lib.Builder
import Derived.Lib.AppendStr
import Derived.Lib.UnsafeStr
import Derived.WalkKit
import Derived.Laws.Externs
import Derived.Shelf.RegionOpenPlain
import Derived.Lib.AppendIntMem
import Derived.Lib.ItoaLen
import Derived.Lib.SliceRun
import Derived.Outline
import Derived.Lib.Small
import Derived.Deep.RegionHeld3
import Derived.IntWalk
import Derived.StillTailTactics
import Derived.Laws.StructEq
import Derived.WalkLawsBesides
import Derived.Lib.SplitLaws
import Derived.Lib.TrimByte
import Derived.Lib.Join
import Derived.Shelf.Strings.SplitCore
import Derived.Test.YteghandhpbmpgaaGreatDoorRC1
set_option maxRecDepth 1000000
set_option maxHeartbeats 8000000
set_option linter.unusedVariables false
set_option linter.unusedSimpArgs false
set_option linter.unnecessarySimpa false
namespace Go.Proofs.YteghandhpbmpgaaGreatDoor
open Go.RowKit

section
theorem numV_mk (t:List UInt8):numV (mkS t)=zI t:=by unfold numV numB zI;rw [mk_data]
theorem numOk_mk (t:List UInt8):numOk (mkS t)=qA t:=by unfold numOk numB qA;rw [mk_data]
theorem nN (t:List UInt8)(b:Bool)(hb:qA t=b)(w:World)(ht:t.length<=maxLen):
  YC 155 #[.string (mkS t)] w (YR (.tuple #[YI (zI t),.bool b]) w):=by
 have:=number_any (mkS t) w (by rw [zQ];exact ht)
 rw [numV_mk,numOk_mk,hb] at this
 exact this
theorem numeric_mk (t:List UInt8)(b:Bool)(hb:vJ t=b)(w:World)(ht:t.length<=maxLen):
  YC 156 #[.string (mkS t)] w (YR (.bool b) w):=by
 have:=vnumeric_any (mkS t) w (by rw [zQ];exact ht)
 rw [mk_data,hb] at this
 exact this
theorem list_lit (s:List UInt8)(w:World)(hs:s.length<4294967281):
  YC 92 #[.string (mkS s)] w (YR (.tuple #[.agg #[.string (mkS (tg (lst s).1 0)),.string (mkS (tg (lst s).1 1)),.string (mkS (tg (lst s).1 2)),.string (mkS (tg (lst s).1 3))],.bool (lst s).2]) w):=list_any s w hs
theorem ix_tag0 (a b c d:Value)(w:World):(Instr.index 120 (.agg #[a,b,c,d]) (YI 0)).run Tryz.prog w= .ok a w:=by kernel_rfl
theorem ix_tag1 (a b c d:Value)(w:World):(Instr.index 120 (.agg #[a,b,c,d]) (YI 1)).run Tryz.prog w= .ok b w:=by kernel_rfl
theorem ix_tag2 (a b c d:Value)(w:World):(Instr.index 120 (.agg #[a,b,c,d]) (YI 2)).run Tryz.prog w= .ok c w:=by kernel_rfl
theorem ix_tag3 (a b c d:Value)(w:World):(Instr.index 120 (.agg #[a,b,c,d]) (YI 3)).run Tryz.prog w= .ok d w:=by kernel_rfl
theorem ix_tag (l:List (List UInt8))(k:Nat)(hk:k<4)(w:World):
  (Instr.index 120 (.agg #[.string (mkS (tg l 0)),.string (mkS (tg l 1)),.string (mkS (tg l 2)),.string (mkS (tg l 3))]) (YI k)).run Tryz.prog w= .ok (.string (mkS (tg l k))) w:=by
 match k,hk with
 |0,_=>exact ix_tag0 _ _ _ _ w
 |1,_=>exact ix_tag1 _ _ _ _ w
 |2,_=>exact ix_tag2 _ _ _ _ w
 |3,_=>exact ix_tag3 _ _ _ _ w
theorem all_four (l:List (List UInt8))(h4:l.length<=4)(h:∀ j,j<4->preT (tg l j)=true):l.all preT=true:=by
 rw [←tg_all preT_nil l h4,h 0 Om,h 1 Om,h 2 Om,h 3 Om];rfl
theorem not_four (l:List (List UInt8))(h4:l.length<=4)(j:Nat)(hj:j<4)(h:preT (tg l j)=false):l.all preT=false:=by
 rw [←tg_all preT_nil l h4]
 match j,hj with
 |0,_=>rw [h];rfl
 |1,_=>rw [h];simp
 |2,_=>rw [h];simp
 |3,_=>rw [h];simp
theorem mayPre_any (s:List UInt8)(w:World)(hs:s.length<4294967281):
  YC 93 #[.string (mkS s)] w (YR (.bool (tJ s)) w):=by
 have hl4:=lst_len s
 have hl8:=tg_len s
 have hP:=preOk_lst s
 obtain ⟨L,hL⟩:∃ L,(lst s).1=L:=⟨_,rfl⟩
 obtain ⟨o,ho⟩:∃ o,(lst s).2=o:=⟨_,rfl⟩
 have cL:=list_lit s w hs
 rw [hL,ho] at cL
 rw [hL] at hl4 hl8 hP
 rw [ho] at hP
 have HP:=Lib.hid hP
 have H8:=Lib.hid hl8
 clear hP hl8 hL ho
 go_enter Tryz.func93,Tryz.ntmps93
 go_wp2_with (go_at_call 92;refine cL.mono ?_;rintro e w1 ⟨rfl,hb1⟩)
 go_loopw [15] (λv wr=>∃ k:Nat,k<=4/\v=YI k/\Below w.heap.size w wr/\Hid (∀ j,j<k->preT (tg L j)=true)) (λv _=>4-(intOf v).toNat)
 case atStart=>exact ⟨0,by omega,rfl,hb1.alloc hb1.size _,λj hj=>by omega⟩
 case round=>
  obtain ⟨k,hk,rfl,hbel,HR⟩:=hrel
  by_cases hk4:k<4
  ·have hki:(k:Int)<4:=by omega
   have hix:∀ w,(Instr.index 120 (.agg #[.string (mkS (tg L 0)),.string (mkS (tg L 1)),.string (mkS (tg L 2)),.string (mkS (tg L 3))]) (YI k)).run Tryz.prog w= .ok (.string (mkS (tg L k))) w:=ix_tag L k hk4
   have h8:(tg L k).length<=8:=H8.out k
   have hm:(tg L k).length<=maxLen:=by unfold maxLen;omega
   cases hi:qA (tg L k) with
   |true=>
    have HI:=Lib.hid hi
    clear hi
    cases hn:vJ (tg L k)
    all_goals
     have HN:=Lib.hid hn
     clear hn
     go_wp2_with (first
      |(go_at_call 155;refine (nN _ true HI.out _ hm).mono ?_;rintro e w2 ⟨rfl,hb2⟩)
      |(go_at_call 156;refine (numeric_mk _ _ HN.out _ hm).mono ?_;rintro e w3 ⟨rfl,hb3⟩))
     go_roundw
     case rel=>exact ⟨k+1,by omega,by go_num,(hbel.trans (hb2.mono hbel.size)).trans (hb3.mono (by have:=hb2.size;have:=hbel.size;omega)),λj hj=>by
      by_cases h:j<k
      ·exact HR.out j h
      ·obtain rfl:j=k:=by omega
       unfold preT;rw [HI.out];simp⟩
     case measure=>simp [intOf];omega
   |false=>
    have HI:=Lib.hid hi
    clear hi
    cases hn:vJ (tg L k) with
    |true=>
     have HN:=Lib.hid hn
     clear hn
     go_wp2_with (first
      |(go_at_call 155;refine (nN _ false HI.out _ hm).mono ?_;rintro e w2 ⟨rfl,hb2⟩)
      |(go_at_call 156;refine (numeric_mk _ _ HN.out _ hm).mono ?_;rintro e w3 ⟨rfl,hb3⟩))
     go_ret
     exact ⟨y8 (by rw [HP.out,not_four L hl4 k hk4 (by unfold preT;rw [HN.out,HI.out];rfl),Bool.and_false]),(hbel.trans (hb2.mono hbel.size)).trans (hb3.mono (by have:=hb2.size;have:=hbel.size;omega))⟩
    |false=>
     have HN:=Lib.hid hn
     clear hn
     go_wp2_with (first
      |(go_at_call 155;refine (nN _ false HI.out _ hm).mono ?_;rintro e w2 ⟨rfl,hb2⟩)
      |(go_at_call 156;refine (numeric_mk _ _ HN.out _ hm).mono ?_;rintro e w3 ⟨rfl,hb3⟩))
     go_roundw
     case rel=>exact ⟨k+1,by omega,by go_num,(hbel.trans (hb2.mono hbel.size)).trans (hb3.mono (by have:=hb2.size;have:=hbel.size;omega)),λj hj=>by
      by_cases h:j<k
      ·exact HR.out j h
      ·obtain rfl:j=k:=by omega
       unfold preT;rw [HN.out];simp⟩
     case measure=>simp [intOf];omega
  ·have hki:¬ (k:Int)<4:=by omega
   go_wp2
   go_ret
   exact ⟨y8 (by rw [HP.out,all_four L hl4 (λj hj=>HR.out j Om),Bool.and_true]),hbel⟩
abbrev ZP (x:Ver):Array Value:= #[YI x.maj,YI x.min,YI x.pat,.string (mkS x.pre),.string (mkS x.build)]
def k8 (v:Ver):Value:= .agg #[YI v.maj,YI v.min,YI v.pat,.string (mkS v.pre),.string (mkS v.build)]
theorem numbers_any (v:Ver)(w:World):
  YC 91 #[k8 v] w (YR (.agg #[YI v.maj,YI v.min,YI v.pat]) w):=by
 obtain ⟨a,b,c,p,q⟩:=v
 unfold k8
 dsimp only
 go_enter Tryz.func91,Tryz.ntmps91
 go_wp2
 exact bodyPost_ret (v:= .agg #[YI a,YI b,YI c]) (by simp [results,Tryz.results91,go_sem]) rfl ⟨rfl,((Below.refl _ _).alloc (Nat.le_refl _) _).alloc (by simp) _⟩
theorem release_any (a b c:Int)(w:World):
  YC 237 #[.agg #[YI a,YI b,YI c]] w (YR (k8 (Ver.rel a b c)) w):=by
 go_enter Tryz.func237,Tryz.ntmps237
 go_wp2
 exact bodyPost_ret (v:= .agg #[YI a,YI b,YI c,.string ⟨#[]⟩,.string ⟨#[]⟩]) (by simp [results,Tryz.results237,go_sem]) rfl ⟨rfl,((Below.refl _ _).alloc (Nat.le_refl _) _).alloc (by simp) _⟩
theorem tC (t:List UInt8)(w:World)(ht:t.length<=maxLen):
  YC 238 #[.string (mkS t)] w (YR (YI (zI t)) w):=by
 go_enter Tryz.func238,Tryz.ntmps238
 go_wp2_with (go_at_call 155;refine (nN t _ rfl _ ht).mono ?_;rintro e w2 ⟨rfl,hb2⟩)
 go_ret
 exact ⟨rfl,hb2⟩
theorem ix_num0 (a b c:Value)(w:World):(Instr.index 117 (.agg #[a,b,c]) (YI 0)).run Tryz.prog w= .ok a w:=by kernel_rfl
theorem ix_num1 (a b c:Value)(w:World):(Instr.index 117 (.agg #[a,b,c]) (YI 1)).run Tryz.prog w= .ok b w:=by kernel_rfl
theorem ix_num2 (a b c:Value)(w:World):(Instr.index 117 (.agg #[a,b,c]) (YI 2)).run Tryz.prog w= .ok c w:=by kernel_rfl
def bE (a b c:Int)(k:Nat):Int:=if k=0 then a else if k=1 then b else c
theorem ix_num (a b c:Int)(k:Nat)(hk:k<3)(w:World):
  (Instr.index 117 (.agg #[YI a,YI b,YI c]) (YI k)).run Tryz.prog w= .ok (YI (bE a b c k)) w:=by
 match k,hk with
 |0,_=>exact ix_num0 _ _ _ w
 |1,_=>exact ix_num1 _ _ _ w
 |2,_=>exact ix_num2 _ _ _ w
theorem nth3_all {a b c:Int}(h:∀ j,j<3->zP (bE a b c j)=true):(zP a && zP b && zP c)=true:=by
 have h0:=h 0 Om;have h1:=h 1 Om;have h2:=h 2 Om
 unfold bE at h0 h1 h2
 simp at h0 h1 h2
 rw [h0,h1,h2];rfl
theorem nth3_not {a b c:Int}(j:Nat)(hj:j<3)(h:zP (bE a b c j)=false):(zP a && zP b && zP c)=false:=by
 match j,hj with
 |0,_=>rw [show zP a=false from h];rfl
 |1,_=>rw [show zP b=false from h];simp
 |2,_=>rw [show zP c=false from h];simp
theorem may_eq (v:Ver):v.may=((zP v.maj && zP v.min && zP v.pat) && (tJ v.pre && jD v.build)):=by
 unfold Ver.may;rw [Bool.and_assoc]
theorem box_cells {w w1:World}{T:TypeId}{cs:Array Value}(hb:Below (w.alloc (.cells cs T)).heap.size (w.alloc (.cells cs T)) w1)(j:Nat)(hj:j<cs.size):w1.cell? ⟨w.heap.size,j,none⟩=some cs[j]/\w1.frozen? ⟨w.heap.size,j,none⟩=false:=by
 have h:w1.heap[w.heap.size]?=some (.cells cs T):=(hb.block _ (by simp)).trans (dY w _)
 exact qD h hj
theorem wA (w:World)(o:Obj):(w.alloc o).heap.size=w.heap.size+1:=by simp
theorem may_any (v:Ver)(w:World)(hp:v.pre.length<4294967281)(hq:v.build.length<4294967281):
  YC 53 #[k8 v] w (YR (.bool v.may) w):=by
 have hM:=may_eq v
 have cN:=λw'=>numbers_any v w'
 obtain ⟨a,b,c,p,q⟩:=v
 unfold k8 at cN ⊢
 dsimp only at cN hM hp hq ⊢
 have HM:=Lib.hid hM
 clear hM
 go_enter Tryz.func53,Tryz.ntmps53
 go_wp2_with (go_at_call 91;refine (cN _).mono ?_;rintro e w1 ⟨rfl,hb1⟩)
 obtain ⟨c3,f3⟩:=box_cells hb1 3 (by simp)
 obtain ⟨c4,f4⟩:=box_cells hb1 4 (by simp)
 have hs1:w.heap.size<w1.heap.size:=by have:=hb1.size;rw [wA] at this;omega
 have hbw:Below w.heap.size w w1:=((Below.refl _ _).alloc (Nat.le_refl _) _).trans (hb1.mono (by simp))
 simp only [List.getElem_toArray,List.getElem_cons_succ,List.getElem_cons_zero] at c3 c4
 go_loop [9] (λx=>∃ k:Nat,k<=3/\x=YI k/\Hid (∀ j,j<k->zP (bE a b c j)=true)) (λx=>3-(intOf x).toNat)
 case atStart=>exact ⟨0,by omega,rfl,λj hj=>by omega⟩
 case round=>
  obtain ⟨k,hk,rfl,HR⟩:=hrel
  by_cases hk3:k<3
  ·have hki:(k:Int)<3:=by omega
   have hix:∀ w,(Instr.index 117 (.agg #[YI a,YI b,YI c]) (YI k)).run Tryz.prog w= .ok (YI (bE a b c k)) w:=ix_num a b c k hk3
   by_cases h0:bE a b c k<0
   ·have hbad:zP (bE a b c k)=false:=by unfold zP;simp;omega
    have HB:=Lib.hid hbad
    clear hbad
    go_wp2
    go_ret
    exact ⟨y8 (by rw [HM.out,nth3_not k hk3 HB.out];rfl),hbw⟩
   ·by_cases h9:9999<bE a b c k
    ·have hbad:zP (bE a b c k)=false:=by unfold zP;simp;omega
     have HB:=Lib.hid hbad
     clear hbad
     go_wp2
     go_ret
     exact ⟨y8 (by rw [HM.out,nth3_not k hk3 HB.out];rfl),hbw⟩
    ·have hok:zP (bE a b c k)=true:=by unfold zP;simp;omega
     have HB:=Lib.hid hok
     clear hok
     go_wp2
     go_round
     case rel=>exact ⟨k+1,by omega,by go_num,λj hj=>by
      by_cases h:j<k
      ·exact HR.out j h
      ·obtain rfl:j=k:=by omega
       exact HB.out⟩
     case measure=>simp [intOf];omega
  ·have hki:¬ (k:Int)<3:=by omega
   have h3:=Lib.hid (nth3_all λj hj=>HR.out j Om)
   have cL:=list_lit q w1 hq
   rw [lst_ok] at cL
   cases ho:jD q with
   |true=>
    rw [ho] at cL
    have HO:=Lib.hid ho
    clear ho
    go_wp2_with (first
     |(go_at_call 92;refine cL.mono ?_;rintro e w2 ⟨rfl,hb2⟩;have c32:=(hb2.cell (p:=⟨w.heap.size,3,none⟩) hs1).trans c3;have hs2:w.heap.size<w2.heap.size:=Nat.lt_of_lt_of_le hs1 hb2.size)
     |(go_at_call 93;refine (mayPre_any p _ hp).mono ?_;rintro e w3 ⟨rfl,hb3⟩))
    go_ret
    exact ⟨y8 (by rw [HM.out,h3.out,HO.out];simp),((hbw.trans (hb2.mono hbw.size)).alloc Om _).trans (hb3.mono (by simp;omega))⟩
   |false=>
    rw [ho] at cL
    have HO:=Lib.hid ho
    clear ho
    go_wp2_with (go_at_call 92;refine cL.mono ?_;rintro e w2 ⟨rfl,hb2⟩;have c32:=(hb2.cell (p:=⟨w.heap.size,3,none⟩) hs1).trans c3;have hs2:w.heap.size<w2.heap.size:=Nat.lt_of_lt_of_le hs1 hb2.size)
    go_ret
    exact ⟨y8 (by rw [HM.out,h3.out,HO.out];simp),(hbw.trans (hb2.mono hbw.size)).alloc Om _⟩
end
section
theorem ownsRow_iterAt {w:World}{B:Nat}{e:TypeId}{size:Nat}{v:Value}{n:Nat}{xs:List Value}(h:w.ownsRow B e size v n xs){k:Nat}{s:ByteArray}{pos:Nat}(hk:w.heap[k]?=some (.stringIter s pos))(pos':Nat):
  (w.iterAt k s pos').ownsRow B e size v n xs:=by
 obtain ⟨h1,h2⟩:=h
 refine ⟨h1, ?_⟩
 rcases h2 with h2|⟨g,cap,cur,hv,hg,hh,r⟩
 ·exact Or.inl h2
 ·refine Or.inr ⟨g,cap,cur,hv,hg, ?_,r⟩
  rw [Lib.iterAt_other _ _ _ _ _ (λe=>by subst e;rw [hk] at hh;cases hh)]
  exact hh
theorem ownsRow_ne {w:World}{B:Nat}{e:TypeId}{size:Nat}{v:Value}{n:Nat}{xs:List Value}(h:w.ownsRow B e size v n xs){k:Nat}{s:ByteArray}{pos:Nat}(hk:w.heap[k]?=some (.stringIter s pos)):some k≠v.ownBlock:=by
 obtain ⟨h1,h2⟩:=h
 rcases h2 with ⟨rfl,_⟩|⟨g,cap,cur,rfl,hg,hh,r⟩
 ·simp [Value.ownBlock]
 ·intro he
  have:k=g:=by simpa [Value.ownBlock] using he
  subst this
  rw [hk] at hh;cases hh
theorem n5 {w w':World}{B:Nat}{e:TypeId}{size:Nat}{v:Value}{n:Nat}{xs:List Value}(h:w.ownsRow B e size v n xs)(hb:Below w.heap.size w w'):w'.ownsRow B e size v n xs:=by
 obtain ⟨h1,h2⟩:=h
 refine ⟨h1, ?_⟩
 rcases h2 with h2|⟨g,cap,cur,hv,hg,hh,r⟩
 ·exact Or.inl h2
 ·exact Or.inr ⟨g,cap,cur,hv,hg,by rw [hb.block g (Array.getElem?_eq_some_iff.1 hh).1];exact hh,r⟩
theorem iter_below {w w':World}{k:Nat}{s:ByteArray}{pos:Nat}(h:w.heap[k]?=some (.stringIter s pos))(hb:Below w.heap.size w w'):w'.heap[k]?=some (.stringIter s pos):=by
 rw [hb.block k (Array.getElem?_eq_some_iff.1 h).1];exact h
end
section
theorem freeze_draws (w:World)(a:Addr)(m:Nat):(w.freeze a m).drawn=w.drawn:=by unfold World.freeze;split<;>rfl
theorem wp_append_text {P:Program}{w:World}{ops:Array Oper}{rest:List Oper}{o:Oper}{a:Act}{Q:Exit->Act->World->Prop}(hgd:o.guard=none)(sl x:Operand)(t u:TypeId)
  (ho:o.op= .call {callee:= .builtin .append,args:= #[sl,x],argTypes:= #[t,u]})
  (B:Nat) (e:TypeId) (i:TypeInfo) (ht:P.underlying t=some (.slice e)) (hu:P.underlying u=some .string) (hi:P.info? e=some i) (hz:i.zero=some (.int .u8 0)) (h1:i.size=1) (h2:i.bytes=1)
  (v:Value) (n:Nat) (xs:List Value) (hs:a.eval sl=v) (hown:w.ownsRow B e 1 v n xs) (s:ByteArray) (hx:a.eval x= .string s) (h63:n+s.size<=maxLen) (hb:n+s.size<=140737488355328) (hB:B<=w.heap.size)
  (h:∀ v' w',w'.ownsRow B e 1 v' (n+s.size) (xs++Lib.strCells s)->GrownD w w' v.ownBlock->wpList P ops Q rest (a.put o.dst v') w'):wpList P ops Q (o::rest) a w:=
 wpList_plain hgd λK hK=>by
  obtain ⟨v',w',hr,k2,k3,_⟩:=Lib.run_append_own_string (P:=P) (w:=w) B t u o.type e i ht hu hi hz h1 h2 v n xs hown s h63 hb hB
  unfold Oper.wp execOp
  simp only [ho,resolve,invoke,builtin,Sem.run_bind,Sem.run_pure,Result.andThen_ok,List.map_toArray,List.map_cons,List.map_nil,hs,hx,hr]
  exact hK _ _ (h v' w' k2 ⟨k3,run_drawn P _ _ hr⟩)
theorem sizeBuilder:(Tryz.prog.info? 131).map (·.size)=some 2:=by kernel_rfl
theorem liesBuilder:liesAt Tryz.prog Tryz.prog.depth 131 (2/Tryz.prog.cellsOf 131) 0 131 1=true:=by kernel_rfl
theorem infoByte:(Tryz.prog.info? 5).map (λi=>(i.zero,i.size,i.bytes))=some (some (.int .u8 0),1,1):=by kernel_rfl
theorem tW (b:Nat)(w:World)(h0:w.cell? ⟨b,0,none⟩=some (.pointer (some ⟨b,0,none⟩))):
  YC 223 #[.pointer (some ⟨b,0,none⟩)] w λe w'=>e= .returned (.tuple #[])/\w'=w:=by
 obtain ⟨j,hj,_⟩:=Option.map_eq_some_iff.1 sizeBuilder
 go_enter Tryz.func223,Tryz.ntmps223
 go_wp2
 rw [Lib.run_neq_ptr_same w _ Tryz.underlying129 hj]
 go_wp2
 go_end0
 exact ⟨rfl,rfl⟩
theorem t6 (b:Nat)(w:World)(h0:w.cell? ⟨b,0,none⟩=some (.pointer none))(hsh:w.shape? b=some (131,2))(hfz:w.frozen? ⟨b,0,none⟩=false):
  YC 223 #[.pointer (some ⟨b,0,none⟩)] w λe w'=>e= .returned (.tuple #[])/\w'=w.setCell ⟨b,0,none⟩ (.pointer (some ⟨b,0,none⟩)):=by
 obtain ⟨j,hj,hjs⟩:=Option.map_eq_some_iff.1 sizeBuilder
 go_enter Tryz.func223,Tryz.ntmps223
 go_wp2
 rw [Lib.run_to_unsafe w ⟨b,0,none⟩ Tryz.underlying129 Tryz.underlying281 hj (by rw [hjs];decide) hsh (Nat.zero_lt_succ 1)]
 simp only [Result.andThen]
 rw [Oper.upon_value]
 go_wp2
 rw [run_callFunc_extern Tryz.func267 Kr Kr Kr (e:=Extern.AbiNoEscape.same) Kr]
 rw [Lib.run_noEscape]
 simp only [Result.andThen]
 rw [Oper.upon_value]
 go_wp2
 rw [Lib.run_from_unsafe w ⟨b,0,none⟩ Tryz.underlying281 Tryz.underlying129 hj hsh liesBuilder]
 simp only [Result.andThen]
 rw [Oper.upon_value]
 go_wp2
 go_end0
 exact ⟨rfl,rfl⟩
theorem copyCheck_any (B b:Nat)(bs:List Value)(w:World)(h:Lib.IsBuilder 131 5 B b bs w):
  YC 223 #[.pointer (some ⟨b,0,none⟩)] w λe w'=>e= .returned (.tuple #[])/\(Lib.BuilderAt 131 5 B b (.pointer (some ⟨b,0,none⟩)) bs w'/\Below B w w'):=by
 rcases h with h|h
 ·refine (t6 b w h.cell0 h.shape h.frozen0).mono ?_
  rintro e w' ⟨rfl,rfl⟩
  exact ⟨rfl,h.used _,(Below.refl B w).setCell (p:=⟨b,0,none⟩) h.1 _⟩
 ·refine (tW b w h.cell0).mono ?_
  rintro e w' ⟨rfl,rfl⟩
  exact ⟨rfl,h,Below.refl B _⟩
theorem writeByte_any (B b:Nat)(bs:List Value)(c:Int)(w:World)(h:Lib.IsBuilder 131 5 B b bs w)(hlen:bs.length+1<=140737488355328)(hBw:B<=w.heap.size):
  YC 165 #[.pointer (some ⟨b,0,none⟩),.int .u8 c] w λe w'=>e= .returned .nilIface/\(Lib.BuilderAt 131 5 B b (.pointer (some ⟨b,0,none⟩)) (bs++[.int .u8 c]) w'/\Below B w w'):=by
 obtain ⟨i0,hi,hz0,hz1,hz2⟩:=info_parts infoByte
 go_enter Tryz.func165,Tryz.ntmps165
 go_wp2_with (go_at_call 223;refine (copyCheck_any B b bs _ h).mono ?_)
 rintro e w1 ⟨rfl,h1,hb1⟩
 obtain ⟨hB,v,hbk,hown,hne⟩:=h1
 have c0:w1.cell? ⟨b,0,none⟩=some (.pointer (some ⟨b,0,none⟩)):=by rw [Lib.cell_of_heap hbk];rfl
 have c1:w1.cell? ⟨b,1,none⟩=some v:=by rw [Lib.cell_of_heap hbk];rfl
 go_wp2_with (at_builtin;refine kQ _ rfl _ _ 90 rfl B 5 i0 (.int .u8 0) 1 1 Tryz.underlying90 hi hz0 hz1 hz2 rfl (by decide) _ _ _ rfl (hown.alloc _) ⟨w1.heap.size,0,none⟩ 1 1 [.int .u8 c] rfl rfl ?c1 ?c2 ?c3 ?c4 ?c5 ?_)
 case c1=>
  intro j u hj
  match j,hj with
  |0,hj=>simp at hj;subst hj;simp [Addr.add]
 case c2=>intro u hu;simp at hu;subst hu;rfl
 case c3=>unfold maxLen;omega
 case c4=>omega
 case c5=>have:=hb1.size;simp;omega
 intro v' w2 hown' hgrow _
 have hlt:b<w1.heap.size:=by
  rcases Nat.lt_or_ge b w1.heap.size with h'|h'
  ·exact h'
  ·simp [Array.getElem?_eq_none h'] at hbk
 have hb2:w2.heap[b]?=some (.cells #[.pointer (some ⟨b,0,none⟩),v] 131 (0,0)):=by
  rw [hgrow.old.block b (by simp;omega) (λe=>hne e.symm),Lib.alloc_old w1 _ b hlt]
  exact hbk
 have d0:w2.cell? ⟨b,0,none⟩=some (.pointer (some ⟨b,0,none⟩)):=by rw [Lib.cell_of_heap hb2];rfl
 have d1:w2.cell? ⟨b,1,none⟩=some v:=by rw [Lib.cell_of_heap hb2];rfl
 have f1:w2.frozen? ⟨b,1,none⟩=false:=Lib.frozen_of_heap hb2 1
 obtain ⟨g,cap,rfl⟩:∃ g cap,v'= .slice (some ⟨g,0,none⟩) (bs.length+1) cap:=by
  rcases hown'.2 with ⟨_,h0⟩|⟨g,cap,cur,hv,_⟩
  ·omega
  ·exact ⟨g,cap,hv⟩
 go_wp2
 go_ret
 refine ⟨rfl, ?_, ?_⟩
 ·exact Lib.BuilderAt.put (T:=131) (e:=5) hB hb2 (bs':=bs++[.int .u8 c]) (by simpa using hown') (by decide)
 ·exact ((hb1.alloc (by have:=hb1.size;omega) _).grown hgrow (by have:=hb1.size;simp;omega) (λk hk=>(hown.lt k hk).1)).setCell (p:=⟨b,1,none⟩) hB _
theorem vH (B b:Nat)(bs:List Value)(s:ByteArray)(w:World)(h:Lib.IsBuilder 131 5 B b bs w)(hlen:bs.length+s.size<=140737488355328)(hBw:B<=w.heap.size):
  YC 163 #[.pointer (some ⟨b,0,none⟩),.string s] w λe w'=>e= .returned (.tuple #[YI s.size,.nilIface])/\(Lib.BuilderAt 131 5 B b (.pointer (some ⟨b,0,none⟩)) (bs++Lib.strCells s) w'/\Below B w w'):=by
 obtain ⟨i0,hi,hz0,hz1,hz2⟩:=info_parts infoByte
 go_enter Tryz.func163,Tryz.ntmps163
 go_wp2_with (go_at_call 223;refine (copyCheck_any B b bs _ h).mono ?_)
 rintro e w1 ⟨rfl,h1,hb1⟩
 obtain ⟨hB,v,hbk,hown,hne⟩:=h1
 have c0:w1.cell? ⟨b,0,none⟩=some (.pointer (some ⟨b,0,none⟩)):=by rw [Lib.cell_of_heap hbk];rfl
 have c1:w1.cell? ⟨b,1,none⟩=some v:=by rw [Lib.cell_of_heap hbk];rfl
 go_wp2_with (at_builtin;refine wp_append_text rfl _ _ 90 9 rfl B 5 i0 Tryz.underlying90 Tryz.underlying9 hi hz0 hz1 hz2 _ _ _ rfl hown s rfl ?c3 ?c4 ?c5 ?_)
 case c3=>unfold maxLen;omega
 case c4=>omega
 case c5=>have:=hb1.size;omega
 intro v' w2 hown' hgrow
 have hlt:b<w1.heap.size:=by
  rcases Nat.lt_or_ge b w1.heap.size with h'|h'
  ·exact h'
  ·simp [Array.getElem?_eq_none h'] at hbk
 have hb2:w2.heap[b]?=some (.cells #[.pointer (some ⟨b,0,none⟩),v] 131 (0,0)):=by
  rw [hgrow.old.block b hlt (λe=>hne e.symm)]
  exact hbk
 have d0:w2.cell? ⟨b,0,none⟩=some (.pointer (some ⟨b,0,none⟩)):=by rw [Lib.cell_of_heap hb2];rfl
 have d1:w2.cell? ⟨b,1,none⟩=some v:=by rw [Lib.cell_of_heap hb2];rfl
 have f1:w2.frozen? ⟨b,1,none⟩=false:=Lib.frozen_of_heap hb2 1
 obtain ⟨ao,n',cap,rfl⟩:∃ ao n' cap,v'= .slice ao n' cap:=by
  rcases hown'.2 with ⟨hv,_⟩|⟨g,cap,cur,hv,_⟩
  ·exact ⟨_,_,_,hv⟩
  ·exact ⟨_,_,_,hv⟩
 go_wp2
 go_ret2
 refine ⟨rfl, ?_, ?_⟩
 ·exact Lib.BuilderAt.put (T:=131) (e:=5) hB hb2 (bs':=bs++Lib.strCells s) (by simpa [Lib.strCells_length] using hown') (by decide)
 ·exact (hb1.grown hgrow (by have:=hb1.size;omega) (λk hk=>(hown.lt k hk).1)).setCell (p:=⟨b,1,none⟩) hB _
theorem byteCells_ne {l:List UInt8}(h:l≠[]):(Lib.byteCells l).length≠0:=by
 rw [Lib.byteCells_length];exact λe=>h (List.eq_nil_of_length_eq_zero e)
theorem string_any (B b:Nat)(l:List UInt8)(w:World)(h:Lib.IsBuilder 131 5 B b (Lib.byteCells l) w)(h0:l≠[]):
  YC 107 #[.pointer (some ⟨b,0,none⟩)] w λe w'=>e= .returned (.string ⟨l.toArray⟩)/\Below B w w':=by
 obtain ⟨p,hB,v,hbk,hown,hne⟩:∃ p,Lib.BuilderAt 131 5 B b p (Lib.byteCells l) w:=h.elim (λq=>⟨_,q⟩) (λq=>⟨_,q⟩)
 rcases hown.2 with ⟨_,hz⟩|⟨g,cap,cur,rfl,hbg,hg,hnc,hcm,hcs,htake⟩
 ·exact absurd hz (byteCells_ne h0)
 rw [Lib.byteCells_length] at hown hnc hbk htake
 have hl0:l.length≠0:=λe=>h0 (List.eq_nil_of_length_eq_zero e)
 have hg':w.drew.heap[g]?=some (.cells cur 5 (0,0)):=hg
 have c1:w.drew.cell? ⟨b,1,none⟩=some (.slice (some ⟨g,0,none⟩) l.length cap):=by
  rw [Lib.cell_of_heap (show w.drew.heap[b]?=_ from hbk)];rfl
 have hSD:=Lib.run_unsafeSliceData_row (P:=Tryz.prog) w.drew #[90] 197 ⟨g,0,none⟩ l.length cap Om
 have hUS:=Lib.run_unsafeString_row (P:=Tryz.prog) w.drew 197 3 9 5 Tryz.underlying197 Kr g cur.size (by unfold World.shape?;rw [hg']) l h0 Om (by unfold maxLen at hcm;omega)
  (λj x hx=>hown.cells (g:=g) rfl j (.int .u8 x.toNat) (by simp [Lib.byteCells,hx]))
 go_enter Tryz.func107,Tryz.ntmps107
 go_wp2
 have mixed:Tryz.prog.follows .mixedOrders=true:=by kernel_rfl
 go_region_o
 all_goals
  go_wp2
  go_ret
  have hf:=Lib.below_freeze (Go.RowKit.Below.drew (Go.RowKit.Below.refl B w)) (p:=⟨g,0,none⟩) hbg l.length
  exact ⟨rfl,hf.os,hf.tape,hf.output,hf.size,by rw [freeze_draws];exact Nat.le_succ _,hf.block⟩
end
section
def HasTab (w : World) : Prop := Lib.TabBelow Tryz.prog w.heap.size w "internal/strconv.uint64pow10" .u64 Lib.pow10Tab
theorem HasTab.on {w w':World}(h:HasTab w)(hb:Below w.heap.size w w'):HasTab w':=λw2 hb2=>h w2 (hb.old.trans (hb2.mono hb.size))
theorem below_growD (w:World)(k:Nat)(os:Array Obj):Below w.heap.size w (Go.Sort.grow (w.drewN k) os):=
 have h:=Lib.below_grow w.heap.size w (Nat.le_refl _) k os
 ⟨h.os,h.tape,h.output,h.size,(below_drewN (Below.refl w.heap.size w) k).drawn,h.block⟩
def digS (n:Int):ByteArray:=⟨(Lib.itoa n).toArray⟩
theorem digits_any (n:Int)(h0: -9223372036854775808<=n)(h1:n<=9223372036854775807)(w:World)(ht:HasTab w):
  YC 166 #[YI n] w (YR (.string (digS n)) w):=by
 have H:=Lib.hid ht
 clear ht
 go_enter Tryz.func166,Tryz.ntmps166
 go_wp2_with (go_at_call 224;refine (Tryz.strconv_Itoa n h0 h1 _ H.out.here).mono ?_;rintro e w' ⟨rfl,k,os,rfl⟩)
 go_ret
 exact ⟨rfl,below_growD _ _ _⟩
theorem wI {a b:ByteArray}(h:a=b):Ending.returned (.string a)= .returned (.string b):=by rw [h]
theorem of_list {t:ByteArray}{l:List UInt8}(h:l=t.data.toList):t=⟨l.toArray⟩:=by subst h;rfl
def one (x:Int):ByteArray:=⟨#[UInt8.ofNat x.toNat]⟩
theorem one_list (n:Nat):(one (48+(n:Int) % 10)).data.toList=[UInt8.ofNat (48+n % 10)]:=by
 unfold one
 rw [show (48+(n:Int) % 10).toNat=48+n % 10 from by omega]
theorem conv1 (w:World)(x:Int):(convert 90 9 (.slice (some ⟨w.heap.size,0,none⟩) 1 1)).run Tryz.prog (w.alloc (.cells #[.int .u8 x] 5))= .ok (.string (one x)) (w.alloc (.cells #[.int .u8 x] 5)):=by
 refine (run_convert_bytes_arg (P:=Tryz.prog) _ 90 5 Tryz.underlying90 Tryz.underlying5 w.heap.size 0 1 1 [x] rfl ?_ 9 Tryz.underlying9).trans ?_
 ·intro i hi
  obtain rfl:i=0:=by omega
  simp
 ·rfl
theorem dec_start (n:Nat):Lib.decDigits n=(if n<10 then [] else Lib.decDigits (n/10))++[UInt8.ofNat (48+n % 10)]:=by
 rw [Lib.decDigits]
 by_cases h:n<10
 ·rw [dif_pos h,if_pos h,Nat.mod_eq_of_lt h];rfl
 ·rw [dif_neg h,if_neg h]
def decS (n:Nat):ByteArray:=⟨(Lib.decDigits n).toArray⟩
theorem whole_any (n:Nat)(hn:n<=18446744073709551615)(w:World):
  YC 279 #[.int .u64 n] w (YR (.string (decS n)) w):=by
 have hcv:=λ(w:World) (x:Int)=>conv1 w x
 go_enter Tryz.func279,Tryz.ntmps279
 go_wp2
 go_loopw [0,3] (λv s wr=>∃ (m:Nat) (t:ByteArray),v= .int .u64 m/\s= .string t/\m<=18446744073709551615/\Below w.heap.size w wr/\t.size<=20/\Hid (Lib.decDigits n=(if m<10 then [] else Lib.decDigits (m/10))++t.data.toList)) (λv _ _=>(intOf v).toNat)
 case atStart=>exact ⟨n,_,rfl,rfl,hn,(Below.refl _ w).alloc (Nat.le_refl _) _,by show 1<=20;omega,by show _=_;rw [one_list];exact dec_start n⟩
 case round=>
  obtain ⟨m,t,rfl,rfl,hm,hb,ht,HR⟩:=hrel
  have hsz:=hb.size
  by_cases h9:9<m
  ·have hos:(one (48+(m:Int)/10 % 10)).size<=1:=Nat.le_of_eq rfl
   go_wp2
   go_roundw
   case rel=>
    have HE:Lib.decDigits n=(if m/10<10 then [] else Lib.decDigits (m/10/10))++(one (48+((m/10:Nat):Int) % 10)++t).data.toList:=by
     rw [HR.out,if_neg Om,dec_start (m/10),ByteArray.data_append,Array.toList_append,one_list,List.append_assoc]
    rw [show ((m/10:Nat):Int)=(m:Int)/10 from by omega] at HE
    refine ⟨m/10,_,by go_num,rfl,by omega,hb.alloc hsz _, ?_,HE⟩
    have hl:=congrArg List.length HE
    rw [Lib.decDigits_length,List.length_append] at hl
    have:=Lib.nDigits_le20 n Om
    have hz:(one (48+(m:Int)/10 % 10)++t).data.toList.length=(one (48+(m:Int)/10 % 10)++t).size:=by simp
    omega
   case measure=>simp [intOf];omega
  ·go_wp2
   go_ret
   have HE:=HR.out
   rw [if_pos Om,List.nil_append] at HE
   exact ⟨wI (of_list HE),hb⟩
theorem rdigits_any (n:Int)(h0: -9223372036854775808<=n)(h1:n<=9223372036854775807)(w:World):
  YC 232 #[YI n] w (YR (.string (digS n)) w):=by
 by_cases hn:n<0
 ·obtain ⟨u,hu1,rfl⟩:∃ u:Nat,1<=u/\n= -(u:Int):=⟨n.natAbs,by omega,by omega⟩
  go_enter Tryz.func232,Tryz.ntmps232
  go_wp2_with fail
  rw [show (-(-(u:Int)+1)+1)=(u:Int) from by omega]
  refine (whole_any u Om _).mono ?_
  rintro e w' ⟨rfl,hb⟩
  have hl:(decS u).size<=20:=by
   show (Lib.decDigits u).toArray.size<=20
   rw [List.size_toArray,Lib.decDigits_length]
   exact Lib.nDigits_le20 u Om
  go_wp2
  go_ret
  exact ⟨wI (by unfold decS digS;rw [Lib.itoa_neg u Om];apply ByteArray.ext;simp),hb⟩
 ·obtain ⟨u,rfl⟩:∃ u:Nat,n=(u:Int):=⟨n.toNat,by omega⟩
  go_enter Tryz.func232,Tryz.ntmps232
  go_wp2_with (go_at_call 279;refine (whole_any u Om _).mono ?_;rintro e w' ⟨rfl,hb⟩)
  go_ret
  exact ⟨wI (by unfold decS digS;rw [Lib.itoa_nonneg]),hb⟩
end
section
theorem joinL_snoc (b:UInt8)(P:List (List UInt8))(x:List UInt8):zG b (P++[x])=if P=[] then x else zG b P++b::x:=by
 induction P with
 |nil=>rfl
 |cons y r ih=>
  rw [if_neg (by simp)]
  cases r with
  |nil=>rfl
  |cons z r2=>
   rw [List.cons_append,List.cons_append,zG,←List.cons_append,ih,if_neg (by simp),zG,List.append_assoc];rfl
theorem joinL_take_le (b:UInt8)(l:List (List UInt8)):∀ k,(zG b (l.take k)).length<=(zG b l).length:=by
 intro k
 induction l generalizing k with
 |nil=>simp
 |cons y r ih=>
  cases k with
  |zero=>simp [zG]
  |succ k=>
   cases r with
   |nil=>simp
   |cons z r2=>
    cases k with
    |zero=>simp [zG]
    |succ k=>
     have:=ih (k+1)
     rw [List.take_succ_cons] at this ⊢
     rw [List.take_succ_cons,zG,zG]
     simp only [List.length_append,List.length_cons]
     omega
def ReadsT (w:World)(B:Nat)(v:Value)(l:List (List UInt8)):Prop:=
 ∃ A cap,v= .slice A l.length cap/\(0<l.length→∃ ad:Addr,A=some ad/\ad.block<B∧∀ j (h:j<l.length),w.cell? (ad.add j)=some (.string (mkS l[j])))
theorem pV (a:Addr)(n:Nat):(a.add n).block=a.block:=by unfold Addr.add;split<;>rfl
theorem ReadsT.of_own {w:World}{base:Nat}{e:TypeId}{v:Value}{l:List (List UInt8)}(h:w.ownsRow base e 1 v l.length (jM l)):ReadsT w w.heap.size v l:=by
 rcases h.2 with ⟨rfl,h0⟩|⟨g,cap,cur,rfl,hg,hh,hn,_⟩
 ·exact ⟨none,0,by rw [h0],λhpos=>by omega⟩
 ·refine ⟨some ⟨g,0,none⟩,cap,rfl,λhpos=>⟨⟨g,0,none⟩,rfl,(Array.getElem?_eq_some_iff.1 hh).1,λj hj=> ?_⟩⟩
  exact h.cells (g:=g) rfl j _ (by unfold jM;rw [List.getElem?_map,List.getElem?_eq_getElem hj];rfl)
theorem one_mk (b:UInt8):one (b.toNat:Int)=mkS [b]:=by
 unfold one mkS
 simp
theorem take_snocL (l:List (List UInt8))(k:Nat)(h:k<l.length):l.take (k+1)=l.take k++[l[k]]:=by
 rw [List.take_succ_eq_append_getElem h]
theorem fN (l:List (List UInt8))(k:Nat)(h:k<l.length)(h0:0<k):l.take k≠[]:=by
 intro e;have:=congrArg List.length e;rw [List.length_take,List.length_nil] at this;omega
theorem byteCells_one (c:UInt8):Lib.byteCells [c]=[.int .u8 (c.toNat:Int)]:=rfl
theorem dH (l:List UInt8):Lib.strCells (mkS l)=Lib.byteCells l:=rfl
theorem bc_join (x y:List UInt8)(b:UInt8):Lib.byteCells (x++b::y)=Lib.byteCells x++[.int .u8 (b.toNat:Int)]++Lib.strCells (mkS y):=by
 rw [dH,←byteCells_one,←Lib.byteCells_append,←Lib.byteCells_append,List.append_assoc];rfl
theorem bJ (v:Value)(l:List (List UInt8))(b:UInt8)(w:World)(hv:ReadsT w w.heap.size v l)(hl:(zG b l).length<=1000000000)(hn:l.length<=1000000000)(hne:zG b l≠[]):
  YC 164 #[v,.int .u8 b.toNat] w (YR (.string (mkS (zG b l))) w):=by
 obtain ⟨A,cap,rfl,hcell⟩:=hv
 go_enter Tryz.func164,Tryz.ntmps164
 go_wp2
 go_loopw [10] (λiv wr=>∃ (k:Nat),iv=YI k/\k<=l.length/\Lib.IsBuilder 131 5 w.heap.size w.heap.size (Lib.byteCells (zG b (l.take k))) wr/\Below w.heap.size w wr) (λiv _=>l.length-(intOf iv).toNat)
 case atStart=>exact ⟨0,rfl,Nat.zero_le _,Lib.fresh_isBuilder 131 5 w,(Below.refl _ _).alloc (Nat.le_refl _) _⟩
 case round=>
  obtain ⟨k,rfl,hk,hI,hb⟩:=hrel
  have hsz:=hb.size
  by_cases hp:k<l.length
  ·obtain ⟨ad,rfl,hlt,hc⟩:=hcell Om
   have hck:wr.cell? (ad.add k)=some (.string (mkS l[k])):=(hb.cell (by rw [pV];exact hlt)).trans (hc k hp)
   have hln:(zG b (l.take (k+1))).length<=1000000000:=Nat.le_trans (joinL_take_le b l (k+1)) hl
   have HJ:=Lib.hid (joinL_snoc b (l.take k) l[k])
   rw [←take_snocL l k hp] at HJ
   clear hc hcell
   by_cases h0:k=0
   ·subst h0
    have hx2:(mkS l[0]).size<=1000000000:=by
     rw [bI];rw [HJ.out,if_pos List.take_zero] at hln;exact hln
    have hck0:wr.cell? ad=some (.string (mkS l[0])):=hck
    clear hck
    go_wp2_with (go_at_call 163;refine (vH w.heap.size w.heap.size _ (mkS l[0]) _ hI ?_ hsz).mono ?_)
    ·rw [Lib.byteCells_length];simp [zG];omega
    rintro e w1 ⟨rfl,h1,hb1⟩
    go_wp2
    go_roundw
    case rel=>exact ⟨0+1,by go_num,by omega,by rw [HJ.out,if_pos List.take_zero];exact Or.inr h1,hb.trans hb1⟩
    case measure=>simp [intOf];omega
   ·have h0p:0<k:=by omega
    have hlen:(zG b (l.take k)).length+(l[k].length+1)<=1000000000:=by
     rw [HJ.out,if_neg (fN l k hp h0p),List.length_append,List.length_cons] at hln;exact hln
    go_wp2_with (go_at_call 165;refine (writeByte_any w.heap.size w.heap.size _ _ _ hI ?_ hsz).mono ?_)
    ·rw [Lib.byteCells_length];omega
    rintro e w1 ⟨rfl,h1,hb1⟩
    have hsz1:=(hb.trans hb1).size
    go_wp2_with (go_at_call 163;refine (vH w.heap.size w.heap.size _ (mkS l[k]) _ (Or.inr h1) ?_ hsz1).mono ?_)
    ·rw [List.length_append,Lib.byteCells_length,bI];simp;omega
    rintro e w2 ⟨rfl,h2,hb2⟩
    go_wp2
    go_roundw
    case rel=>exact ⟨k+1,by go_num,by omega,by rw [HJ.out,if_neg (fN l k hp h0p),bc_join];exact Or.inr h2,(hb.trans hb1).trans hb2⟩
    case measure=>simp [intOf];omega
  ·obtain rfl:k=l.length:=by omega
   go_wp2_with (go_at_call 107;refine (string_any w.heap.size w.heap.size _ _ hI (by rw [List.take_length];exact hne)).mono ?_)
   rintro e w1 ⟨rfl,hb1⟩
   go_wp2
   go_ret
   exact ⟨wI rfl,hb.trans hb1⟩
theorem SlT.readsT {v:Value}{l:List (List UInt8)}{ob L:List Blk}{M:List Nat}{W w:World}(h:SlT v l ob)(hO:Own M W w L)(hs:∀ x∈ob,x∈L):ReadsT w w.heap.size v l:=by
 obtain ⟨A,cap,rfl⟩:=h.form
 refine ⟨A,cap,rfl,λh0=> ?_⟩
 obtain ⟨b,off,e,hlt,hc⟩:=SlT.reads h rfl hO hs h0
 refine ⟨⟨b,off,none⟩,e,hlt,λj hj=> ?_⟩
 rw [xG]
 refine hc j _ ?_
 rw [←kS]
 unfold jM
 rw [List.getElem?_map,List.getElem?_eq_getElem hj];rfl
end
section
theorem infoByte9:(Tryz.prog.info? 5).map (λi=>(i.zero.map (·.cells.size),i.size,i.bytes))=some (some 1,1,1):=by kernel_rfl
theorem byte_info:∃ i z,Tryz.prog.info? 5=some i/\i.zero=some z/\i.size=1/\z.cells.size=1/\i.bytes=1:=by
 have h:=infoByte9
 cases hi:Tryz.prog.info? 5 with
 |none=>rw [hi] at h;cases h
 |some i=>
  rw [hi] at h
  simp only [Option.map_some,Option.some.injEq,Prod.mk.injEq] at h
  cases hz:i.zero with
  |none=>rw [hz] at h;simp at h
  |some z=>rw [hz] at h;simp at h;exact ⟨i,z,rfl,hz,h.2.1,h.1,h.2.2⟩
theorem empty_of {s:ByteArray}(h:(s.size:Int)=0):s=⟨#[]⟩:=by
 have h2:s.data.size=0:=Int.ofNat.inj h
 exact ByteArray.ext (Array.eq_empty_of_size_eq_zero h2)
theorem sclone_any (s:ByteArray)(w:World)(hs:s.size<=281474976710656):
  YC 124 #[.string s] w (YR (.string s) w):=by
 refine Z2 (n:=18) Tryz.func124 rfl (ZO (Zv (.string ⟨#[]⟩) (ZN (yP (ZO (Zv (.string s) (Zv (YI ((s).size)) ?_)))))))
 by_cases h1:((s).size:Int)=0
 ·refine Zg h1 (ZY (ZO (Zv (.string ⟨#[]⟩) (ZN (kG (yE (ZF (.string ⟨#[]⟩) Tryz.results124 ?_)))))))
  exact λw hO=>⟨by rw [empty_of (s:=s) (by assumption)],hO.below⟩
 refine Zh h1 (ZX (ZB (ZO (Zv (.string s) (Zv (YI ((s).size)) ?_)))))
 obtain ⟨i,z,e1,e2,e3,e4,e5⟩:=byte_info
 refine s_make (kl:= .i64) (kc:= .i64) (l:=(s.size:Int)) (c:=(s.size:Int)) Kr rfl Kr Kr Tryz.underlying90 e1 e2 Om Om (by rw [e5];omega) Om (λb=> ?_)
 rw [show ((s.size:Nat):Int).toNat=s.size from rfl]
 obtain ⟨cs,hcs⟩:∃ cs,cs=madeCells z.cells (s.size*i.size):=⟨_,rfl⟩
 have hcz:cs.size=s.size:=by rw [hcs,size_madeCells,e3];simp
 rw [←hcs]
 refine Zv (.slice (some ⟨b,0,none⟩) s.size s.size) (ZR (Zv (.slice (some ⟨b,0,none⟩) s.size s.size) (Zv (.string s) (s_copyS (b:=b) (cap:=s.size) (s:=s) (cs:=cs) Kr rfl Kr Kr Tryz.underlying90 Kr hcz (ZN (yP (yS ?_)))))))
 exact Zv (.slice (some ⟨b,0,none⟩) s.size s.size) (kC (Zp b 0) Kr (ZV (b:=b) (off:=0) (n:=s.size) (c:=s.size) (k:= .i64) (j:=0) (e:=5) (sz:=1)) (Zv (.slice (some ⟨b,0,none⟩) s.size s.size) (Zv (YI (s.size:Int)) (s_ustr (s:=s) Kr rfl Kr Kr Tryz.underlying197 (by unfold Program.cellsOf;simp [e1,e3]) Om Om (Zv (.string s) (ZN (kG (ZF (.string s) Tryz.results124 (λw hO=>⟨rfl,hO.below⟩)))))))))
theorem nZ (s:ByteArray)(w:World)(hs:s.size<=281474976710656):
  YC 66 #[.string s] w (YR (.string s) w):=by
 refine Z2 (n:=5) Tryz.func66 rfl (ZO (Zv (.string ⟨#[]⟩) (ZR (Zv (.string s) (Zc (k:=124) (args:= #[.string s]) (.string s) (λw _=>sclone_any s w hs) (Zv (.string s) (dN ?_)))))))
 exact g7 (kG (ZF (.string s) Tryz.results66 (λw hO=>⟨rfl,hO.below⟩)))
end
section
def tU (a b c:Int):List (List UInt8):=[Lib.itoa a,Lib.itoa b,Lib.itoa c]
theorem digs_snoc (a b c:Int)(k:Nat)(hk:k<3):(tU a b c).take (k+1)=(tU a b c).take k++[Lib.itoa (bE a b c k)]:=by
 match k,hk with
 |0,_=>rfl
 |1,_=>rfl
 |2,_=>rfl
theorem nP (a b c:Int):zG 46 (tU a b c)=Lib.itoa a++46::(Lib.itoa b++46::Lib.itoa c):=rfl
theorem digits_mk (n:Int)(h0: -9223372036854775808<=n)(h1:n<=9223372036854775807)(w:World)(ht:HasTab w):
  YC 166 #[YI n] w (YR (.string (mkS (Lib.itoa n))) w):=digits_any n h0 h1 w ht
theorem dec_len (n:Nat)(h:n<=9999):(Lib.decDigits n).length<=4:=by
 rw [Lib.decDigits_length]
 unfold Lib.nDigits
 split
 ·omega
 ·unfold Lib.nDigits
  split
  ·omega
  ·unfold Lib.nDigits
   split
   ·omega
   ·rw [Lib.nDigits_small Om];omega
theorem mA {n:Int}(h:zP n=true):(Lib.itoa n).length<=4:=by
 rw [tR h]
 apply dec_len
 unfold zP at h;simp at h;omega
theorem nums_len {a b c:Int}(h1:zP a=true)(h2:zP b=true)(h3:zP c=true):(zG 46 (tU a b c)).length<=14:=by
 rw [nP]
 have:=mA h1;have:=mA h2;have:=mA h3
 simp;omega
theorem print_good (v:Ver)(w:World)(hp:v.pre.length<=1000000)(hq:v.build.length<=1000000)(hm:v.may=true)(ht:HasTab w):
  YC 104 #[k8 v] w (YR (.string (mkS v.text)) w):=by
 obtain ⟨i0,hi,hz0,hz1,hz2⟩:=info_parts infoStr
 have cM:=λw'=>may_any v w' Om Om
 have cN:=λw'=>numbers_any v w'
 obtain ⟨n1,n2,n3⟩:=qB hm
 have hT:v.text=zG 46 (tU v.maj v.min v.pat)++xR 45 v.pre++xR 43 v.build:=rfl
 obtain ⟨a,b,c,p,q⟩:=v
 rw [hm] at cM
 unfold k8 at cN cM ⊢
 dsimp only at cN cM hp hq n1 n2 n3 hT ⊢
 have hjl:=nums_len n1 n2 n3
 have HT:=Lib.hid hT
 have H1:=Lib.hid n1
 have H2:=Lib.hid n2
 have H3:=Lib.hid n3
 clear hT hm n1 n2 n3
 go_enter Tryz.func104,Tryz.ntmps104
 go_wp2_with (first
  |(go_at_call 53;refine (cM _).mono ?_;rintro e w1 ⟨rfl,hb1⟩;have hg1:=Lib.hid ((hb1.block w.heap.size (by simp)).trans (dY w _)))
  |(refine wpList_load_row rfl 23 _ rfl w.heap.size rfl _ _ _ _ hg1.out Tryz.underlying23 rfl Kr ?_)
  |(go_at_call 91;refine (cN _).mono ?_;rintro e w2 ⟨rfl,hb2⟩))
 have hbw1:Below w.heap.size w w1:=((Below.refl _ _).alloc (Nat.le_refl _) _).trans (hb1.mono (by simp))
 have hsw:w.heap.size<w1.heap.size:=by have:=hb1.size;rw [wA] at this;omega
 have hsw2:w.heap.size<w2.heap.size:=Nat.lt_of_lt_of_le hsw hb2.size
 have hg2:=Lib.hid ((hb2.block w.heap.size hsw).trans hg1.out)
 have ht2:HasTab w2:=(ht.on hbw1).on hb2
 go_loopw [3,12] (λv x wr=>∃ k:Nat,k<=3/\x=YI k/\wr.ownsRow w2.heap.size 9 1 v k (jM ((tU a b c).take k))/\Below w2.heap.size w2 wr) (λ_ x _=>3-(intOf x).toNat)
 case atStart=>exact ⟨0,by omega,rfl,⟨rfl,Or.inl ⟨rfl,rfl⟩⟩,Below.refl _ _⟩
 case round=>
  obtain ⟨k,hk,rfl,hown,hbel⟩:=hrel
  have hsz:=hbel.size
  by_cases hk3:k<3
  ·have hki:(k:Int)<3:=by omega
   have hix:∀ w,(Instr.index 117 (.agg #[YI a,YI b,YI c]) (YI k)).run Tryz.prog w= .ok (YI (bE a b c k)) w:=ix_num a b c k hk3
   have hnb:0<=bE a b c k/\bE a b c k<=9999:=by
    have h1:=H1.out;have h2:=H2.out;have h3:=H3.out
    unfold zP at h1 h2 h3;simp at h1 h2 h3
    unfold bE;split
    ·exact h1
    ·split
     ·exact h2
     ·exact h3
   obtain ⟨hn0,hn9⟩:=hnb
   go_wp2_with (first
    |(go_at_call 166;refine (digits_mk _ Om Om _ (ht2.on hbel)).mono ?_;rintro e w3 ⟨rfl,hb3⟩;have hown3:=n5 hown hb3;have hsz3:=hb3.size)
    |(at_builtin;refine kQ _ rfl _ _ 75 rfl w2.heap.size 9 i0 (.string ByteArray.empty) 1 16 Tryz.underlying75 hi hz0 hz1 hz2 rfl (by decide) _ _ _ rfl (hown3.alloc _) ⟨w3.heap.size,0,none⟩ 1 1 [.string (mkS (Lib.itoa (bE a b c k)))] rfl rfl ?c1 ?c2 ?c3 ?c4 ?c5 ?_))
   case c1=>
    intro j u hj
    match j,hj with
    |0,hj=>simp at hj;subst hj;simp [Addr.add]
   case c2=>intro u hu;simp at hu;subst hu;rfl
   case c3=>unfold maxLen;omega
   case c4=>omega
   case c5=>simp;omega
   intro v' w5 hown' hgrow _
   go_wp2
   go_roundw
   case rel=>
    refine ⟨k+1,by omega,by go_num, ?_,((hbel.trans (hb3.mono hsz)).alloc Om _).grown hgrow (by simp;omega) (λk hk=>(hown3.lt k hk).1)⟩
    rw [digs_snoc a b c k hk3,nG];exact hown'
   case measure=>simp [intOf];omega
  ·obtain rfl:k=3:=by omega
   have hki:¬ (((3:Nat):Int)<3):=by omega
   have hrd:=ReadsT.of_own (l:=tU a b c) hown
   have hg3:=Lib.hid ((hbel.block w.heap.size hsw2).trans hg2.out)
   have hbww:Below w.heap.size w w2:=hbw1.trans (hb2.mono Om)
   have hj0:(mkS (zG 46 (tU a b c))).size<=14:=by rw [zQ];exact hjl
   have hp0:(mkS p).size<=1000000:=by rw [zQ];exact hp
   have hq0:(mkS q).size<=1000000:=by rw [zQ];exact hq
   have hp1:((⟨#[45]⟩:ByteArray)++mkS p).size<=1000001:=by rw [ByteArray.size_append];show 1+_<=_;omega
   have hq1:((⟨#[43]⟩:ByteArray)++mkS q).size<=1000001:=by rw [ByteArray.size_append];show 1+_<=_;omega
   have hjp:(mkS (zG 46 (tU a b c))++((⟨#[45]⟩:ByteArray)++mkS p)).size<=1000015:=by rw [ByteArray.size_append];omega
   by_cases hpe:p=[]
   ·have hpb:(mkS p).toList.isEmpty=true:=by rw [Lib.toList_data,mk_data,hpe];rfl
    have HPT:=Lib.hid (show xR 45 p=[] by rw [hpe];rfl)
    clear hpe
    by_cases hqe:q=[]
    ·have hqb:(mkS q).toList.isEmpty=true:=by rw [Lib.toList_data,mk_data,hqe];rfl
     have HQT:=Lib.hid (show xR 43 q=[] by rw [hqe];rfl)
     clear hqe
     go_wp2_with (go_at_call 164;refine (bJ _ (tU a b c) 46 _ hrd Om (by simp [tU]) (by rw [nP];simp)).mono ?_;rintro e w4 ⟨rfl,hb4⟩;obtain ⟨c3,f3⟩:=qD (j:=3) ((hb4.block w.heap.size Om).trans hg3.out) (by simp);obtain ⟨c4,f4⟩:=qD (j:=4) ((hb4.block w.heap.size Om).trans hg3.out) (by simp);simp only [List.getElem_toArray,List.getElem_cons_succ,List.getElem_cons_zero] at c3 c4)
     go_ret
     exact ⟨wI (by rw [HT.out,HPT.out,HQT.out];simp),(hbww.trans (hbel.mono Om)).trans (hb4.mono Om)⟩
    ·have hqb:(mkS q).toList.isEmpty=false:=by rw [Lib.toList_data,mk_data];exact List.isEmpty_eq_false_iff.2 hqe
     have HQT:=Lib.hid (show xR 43 q=43::q by unfold xR;rw [if_neg (by simpa using hqe)])
     clear hqe
     go_wp2_with (go_at_call 164;refine (bJ _ (tU a b c) 46 _ hrd Om (by simp [tU]) (by rw [nP];simp)).mono ?_;rintro e w4 ⟨rfl,hb4⟩;obtain ⟨c3,f3⟩:=qD (j:=3) ((hb4.block w.heap.size Om).trans hg3.out) (by simp);obtain ⟨c4,f4⟩:=qD (j:=4) ((hb4.block w.heap.size Om).trans hg3.out) (by simp);simp only [List.getElem_toArray,List.getElem_cons_succ,List.getElem_cons_zero] at c3 c4)
     go_ret
     exact ⟨wI (by rw [HT.out,HPT.out,HQT.out,show (⟨#[43]⟩:ByteArray)=mkS [43] from rfl,yZ,yZ];simp),(hbww.trans (hbel.mono Om)).trans (hb4.mono Om)⟩
   ·have hpb:(mkS p).toList.isEmpty=false:=by rw [Lib.toList_data,mk_data];exact List.isEmpty_eq_false_iff.2 hpe
    have HPT:=Lib.hid (show xR 45 p=45::p by unfold xR;rw [if_neg (by simpa using hpe)])
    clear hpe
    by_cases hqe:q=[]
    ·have hqb:(mkS q).toList.isEmpty=true:=by rw [Lib.toList_data,mk_data,hqe];rfl
     have HQT:=Lib.hid (show xR 43 q=[] by rw [hqe];rfl)
     clear hqe
     go_wp2_with (go_at_call 164;refine (bJ _ (tU a b c) 46 _ hrd Om (by simp [tU]) (by rw [nP];simp)).mono ?_;rintro e w4 ⟨rfl,hb4⟩;obtain ⟨c3,f3⟩:=qD (j:=3) ((hb4.block w.heap.size Om).trans hg3.out) (by simp);obtain ⟨c4,f4⟩:=qD (j:=4) ((hb4.block w.heap.size Om).trans hg3.out) (by simp);simp only [List.getElem_toArray,List.getElem_cons_succ,List.getElem_cons_zero] at c3 c4)
     go_ret
     exact ⟨wI (by rw [HT.out,HPT.out,HQT.out,show (⟨#[45]⟩:ByteArray)=mkS [45] from rfl,yZ,yZ];simp),(hbww.trans (hbel.mono Om)).trans (hb4.mono Om)⟩
    ·have hqb:(mkS q).toList.isEmpty=false:=by rw [Lib.toList_data,mk_data];exact List.isEmpty_eq_false_iff.2 hqe
     have HQT:=Lib.hid (show xR 43 q=43::q by unfold xR;rw [if_neg (by simpa using hqe)])
     clear hqe
     go_wp2_with (go_at_call 164;refine (bJ _ (tU a b c) 46 _ hrd Om (by simp [tU]) (by rw [nP];simp)).mono ?_;rintro e w4 ⟨rfl,hb4⟩;obtain ⟨c3,f3⟩:=qD (j:=3) ((hb4.block w.heap.size Om).trans hg3.out) (by simp);obtain ⟨c4,f4⟩:=qD (j:=4) ((hb4.block w.heap.size Om).trans hg3.out) (by simp);simp only [List.getElem_toArray,List.getElem_cons_succ,List.getElem_cons_zero] at c3 c4)
     go_ret
     exact ⟨wI (by rw [HT.out,HPT.out,HQT.out,show (⟨#[45]⟩:ByteArray)=mkS [45] from rfl,show (⟨#[43]⟩:ByteArray)=mkS [43] from rfl,yZ,yZ,yZ,yZ];simp),(hbww.trans (hbel.mono Om)).trans (hb4.mono Om)⟩
theorem print_none (v:Ver)(w:World)(hp:v.pre.length<=1000000)(hq:v.build.length<=1000000)(hm:v.may=false):
  YC 104 #[k8 v] w (YR (.string (mkS [])) w):=by
 have cM:=λw'=>may_any v w' Om Om
 rw [hm] at cM
 obtain ⟨a,b,c,p,q⟩:=v
 unfold k8 at cM ⊢
 dsimp only at cM ⊢
 clear hm
 go_enter Tryz.func104,Tryz.ntmps104
 go_wp2_with (go_at_call 53;refine (cM _).mono ?_;rintro e w1 ⟨rfl,hb1⟩)
 go_ret
 exact ⟨rfl,((Below.refl _ _).alloc (Nat.le_refl _) _).trans (hb1.mono (by simp))⟩
theorem vprint_any (v:Ver)(w:World)(hp:v.pre.length<=1000000)(hq:v.build.length<=1000000)(ht:HasTab w):
  YC 104 #[k8 v] w (YR (.string (mkS v.print)) w):=by
 cases hm:v.may with
 |true=>rw [print_eq hm];exact print_good v w hp hq hm ht
 |false=>rw [print_bad hm];exact print_none v w hp hq hm
end
section
def dR (s:List UInt8):Ver:=(pK s).getD Ver.zero
def parE (s:List UInt8):Int:=if (pK s).isSome then 0 else 5
theorem mkS_ne {a b:List UInt8}(h:a≠b):((mkS a).toList==(mkS b).toList)=false:=by
 rw [Lib.toList_data,Lib.toList_data,mk_data,mk_data];simpa using h
theorem mkS_eq {a b:List UInt8}(h:a=b):((mkS a).toList==(mkS b).toList)=true:=by
 subst h;simp
theorem par_hit {s:List UInt8}(h:(nQ s).print=s):dR s=nQ s/\parE s=0:=by
 have:=parse_eq s
 unfold parseI at this
 rw [if_pos h] at this
 unfold dR parE
 rw [←this];exact ⟨rfl,rfl⟩
theorem par_miss {s:List UInt8}(h:¬ (nQ s).print=s):dR s=Ver.zero/\parE s=5:=by
 have:=parse_eq s
 unfold parseI at this
 rw [if_neg h] at this
 unfold dR parE
 rw [←this];exact ⟨rfl,rfl⟩
def PEnd (s:List UInt8)(w:World)(e:Ending)(w':World):Prop:=e= .returned (.tuple #[k8 (dR s),YI (parE s)])/\Below w.heap.size w w'
theorem ver_one (a b c:Int)(p q:ByteArray):(#[YI a,YI b,YI c,.string p,.string q]:Array Value).all (·.oneCell')=true:=by simp [Value.oneCell']
theorem parse_done {s:List UInt8}{w wr:World}{v:Ver}{n:Int}{tmps:Array Value}{old:Array Value}(h2:tmps.getD 2 undef= .pointer (some ⟨w.heap.size,0,none⟩))(h3:tmps.getD 3 undef=YI n)
  (hg:wr.heap[w.heap.size]?=some (.cells old 23)) (hbel:Below w.heap.size w wr) (hv:dR s=v) (hn:parE s=n):
  bodyPost Tryz.prog Tryz.f184 (PEnd s w) .ret ⟨tmps,[]⟩ (wr.setRow w.heap.size (ZP v)):=by
 have hrow:=setRow_heap wr w.heap.size _ (ZP v) _ _ hg
 have hr:=run_loadVar_row (P:=Tryz.prog) _ w.heap.size 23 23 _ _ _ hrow Tryz.underlying23 rfl Kr
 have h2':tmps[2]?.getD undef= .pointer (some ⟨w.heap.size,0,none⟩):=by simpa using h2
 have h3':tmps[3]?.getD undef=YI n:=by simpa using h3
 refine bodyPost_ret (v:= .tuple #[k8 v,YI n]) (by simp [results,Tryz.results184,asAddr,h2',h3',hr,k8]) rfl ⟨by rw [hv,hn],pS hbel (Nat.le_refl _) _⟩
theorem parse_any0 (s:List UInt8)(w:World)(hs:s.length<=1000000)(ht:HasTab w):
  YC 184 #[.string (mkS s)] w (PEnd s w):=by
 obtain ⟨s1,bl,f1,h1⟩:∃ a b c,zA 43 s=(a,b,c):=⟨_,_,_,rfl⟩
 obtain ⟨s2,pr,f2,h2⟩:∃ a b c,zA 45 s1=(a,b,c):=⟨_,_,_,rfl⟩
 obtain ⟨ma,s3,f3,h3⟩:∃ a b c,zA 46 s2=(a,b,c):=⟨_,_,_,rfl⟩
 obtain ⟨mi,pa,f4,h4⟩:∃ a b c,zA 46 s3=(a,b,c):=⟨_,_,_,rfl⟩
 have l1:=bM 43 s
 have l2:=bM 45 s1
 have l3:=bM 46 s2
 have l4:=bM 46 s3
 rw [h1] at l1
 rw [h2] at l2
 rw [h3] at l3
 rw [h4] at l4
 dsimp only at l1 l2 l3 l4
 have hG:nQ s=⟨zI ma,zI mi,zI pa,pr,bl⟩:=by
  unfold nQ;simp only [h1,h2,h3,h4]
 have c1:=λw'=>f0 s 43 w' Om
 have c2:=λw'=>f0 s1 45 w' Om
 have c3:=λw'=>f0 s2 46 w' Om
 have c4:=λw'=>f0 s3 46 w' Om
 rw [h1] at c1
 rw [h2] at c2
 rw [h3] at c3
 rw [h4] at c4
 dsimp only at c1 c2 c3 c4
 have cP:=λw' (h:HasTab w')=>vprint_any (nQ s) w' (by rw [hG];show pr.length<=_;omega) (by rw [hG];show bl.length<=_;omega) h
 obtain ⟨P,hP⟩:∃ P,(nQ s).print=P:=⟨_,rfl⟩
 rw [hP,hG] at cP
 unfold k8 at cP
 dsimp only at cP
 have HG:=Lib.hid hG
 have HP:=Lib.hid hP
 clear hG hP h1 h2 h3 h4
 have la:ma.length<=maxLen:=by unfold maxLen;omega
 have lb:mi.length<=maxLen:=by unfold maxLen;omega
 have lc:pa.length<=maxLen:=by unfold maxLen;omega
 obtain ⟨na,hna⟩:∃ n,zI ma=n:=⟨_,rfl⟩
 obtain ⟨nb,hnb⟩:∃ n,zI mi=n:=⟨_,rfl⟩
 obtain ⟨nc,hnc⟩:∃ n,zI pa=n:=⟨_,rfl⟩
 have n1:=λw'=>tC ma w' la
 have n2:=λw'=>tC mi w' lb
 have n3:=λw'=>tC pa w' lc
 rw [hna] at n1
 rw [hnb] at n2
 rw [hnc] at n3
 rw [hna,hnb,hnc] at cP HG
 clear hna hnb hnc
 have cR:=λw'=>release_any na nb nc w'
 unfold k8 Ver.rel at cR
 dsimp only at cR
 go_enter Tryz.func184,Tryz.ntmps184
 go_wp2_with fail
 refine (c1 _).mono ?_
 rintro e w1 ⟨rfl,hb1⟩
 go_wp2_with fail
 refine (c2 _).mono ?_
 rintro e w2 ⟨rfl,hb2⟩
 go_wp2_with fail
 refine (c3 _).mono ?_
 rintro e w3 ⟨rfl,hb3⟩
 go_wp2_with fail
 refine (c4 _).mono ?_
 rintro e w4 ⟨rfl,hb4⟩
 go_wp2_with fail
 refine (n1 _).mono ?_
 rintro e w5 ⟨rfl,hb5⟩
 go_wp2_with fail
 refine (n2 _).mono ?_
 rintro e w6 ⟨rfl,hb6⟩
 go_wp2_with fail
 refine (n3 _).mono ?_
 rintro e w7 ⟨rfl,hb7⟩
 go_wp2_with fail
 refine (cR _).mono ?_
 rintro e w8 ⟨rfl,hb8⟩
 have hz1:=hb1.size
 have hz2:=hb2.size
 have hz3:=hb3.size
 have hz4:=hb4.size
 have hz5:=hb5.size
 have hz6:=hb6.size
 have hz7:=hb7.size
 have hz8:=hb8.size
 rw [wA] at hz1
 have hbv:Below (w.heap.size+1) (w.alloc (.cells #[YI 0,YI 0,YI 0,.string ⟨#[]⟩,.string ⟨#[]⟩] 23)) w8:=
  (((((((hb1.mono (by rw [wA];omega)).trans (hb2.mono Om)).trans (hb3.mono Om)).trans (hb4.mono Om)).trans (hb5.mono Om)).trans (hb6.mono Om)).trans (hb7.mono Om)).trans (hb8.mono Om)
 have hbw:Below w.heap.size w w8:=((Below.refl _ _).alloc (Nat.le_refl _) _).trans (hbv.mono Om)
 have hg8:=Lib.hid ((hbv.block w.heap.size Om).trans (dY w _))
 have hsw:w.heap.size<w8.heap.size:=by omega
 clear hz1 hz2 hz3 hz4 hz5 hz6 hz7 hz8 hbv
 go_wp2_with fail
 refine (cP _ (ht.on (hbw.alloc Om _))).mono ?_
 rintro e w9 ⟨rfl,hb9⟩
 have hz9:=hb9.size
 rw [wA] at hz9
 have hg9:=Lib.hid (((hb9.block w.heap.size (by rw [wA];omega)).trans (heap_old w8 _ hsw)).trans hg8.out)
 have hgv:=Lib.hid ((hb9.block w8.heap.size (by rw [wA];omega)).trans (dY w8 _))
 have hbw9:Below w.heap.size w w9:=(hbw.alloc Om _).trans (hb9.mono (by rw [wA];omega))
 by_cases hPs:P=s
 ·have hne:=mkS_eq hPs
  have hne2:((mkS P).toList !=(mkS s).toList)=false:=by rw [bne,hne];rfl
  have HPS:=Lib.hid hPs
  clear hPs
  go_wp2_with fail
  refine (nZ (mkS pr) _ (by rw [zQ];omega)).mono ?_
  rintro e w10 ⟨rfl,hb10⟩
  go_wp2_with fail
  refine (nZ (mkS bl) _ (by rw [zQ];omega)).mono ?_
  rintro e w11 ⟨rfl,hb11⟩
  have hz10:=hb10.size
  have hz11:=hb11.size
  have hg11:=Lib.hid ((hb11.block w.heap.size Om).trans ((hb10.block w.heap.size Om).trans hg9.out))
  have hgv11:=Lib.hid ((hb11.block w8.heap.size Om).trans ((hb10.block w8.heap.size Om).trans hgv.out))
  have hbw11:Below w.heap.size w w11:=(hbw9.trans (hb10.mono Om)).trans (hb11.mono Om)
  obtain ⟨c3,f3⟩:=qD (j:=3) hgv11.out (by simp)
  obtain ⟨c4,f4⟩:=qD (j:=4) hgv11.out (by simp)
  have e3:=setCell_eq_setRow w11 w8.heap.size 3 _ _ _ (.string (mkS pr)) hgv11.out
  have hq3:=setRow_heap w11 w8.heap.size _ #[YI na,YI nb,YI nc,.string (mkS pr),.string (mkS bl)] _ _ hgv11.out
  have e4:=setCell_eq_setRow _ w8.heap.size 4 _ _ _ (.string (mkS bl)) hq3
  have hwv:(w11.setCell ⟨w8.heap.size,3,none⟩ (.string (mkS pr))).setCell ⟨w8.heap.size,4,none⟩ (.string (mkS bl))=(w11.setRow w8.heap.size #[YI na,YI nb,YI nc,.string (mkS pr),.string (mkS bl)]).setRow w8.heap.size #[YI na,YI nb,YI nc,.string (mkS pr),.string (mkS bl)]:=by rw [e3];exact e4
  have hL:((w11.setCell ⟨w8.heap.size,3,none⟩ (.string (mkS pr))).setCell ⟨w8.heap.size,4,none⟩ (.string (mkS bl))).heap[w8.heap.size]?=some (.cells #[YI na,YI nb,YI nc,.string (mkS pr),.string (mkS bl)] 23):=by
   rw [hwv];exact setRow_heap _ _ _ _ _ _ hq3
  have hL0:((w11.setCell ⟨w8.heap.size,3,none⟩ (.string (mkS pr))).setCell ⟨w8.heap.size,4,none⟩ (.string (mkS bl))).heap[w.heap.size]?=some (.cells #[YI 0,YI 0,YI 0,.string ⟨#[]⟩,.string ⟨#[]⟩] 23):=by
   rw [hwv,pC _ _ _ _ Om,pC _ _ _ _ Om];exact hg11.out
  have hbL:Below w.heap.size w ((w11.setCell ⟨w8.heap.size,3,none⟩ (.string (mkS pr))).setCell ⟨w8.heap.size,4,none⟩ (.string (mkS bl))):=(hbw11.setCell (by simp;omega) _).setCell (by simp;omega) _
  have HL:=Lib.hid hL
  have HL0:=Lib.hid hL0
  clear e3 hq3 e4 hwv hL hL0
  go_wp2_with (first
   |(refine wpList_load_row rfl 23 _ rfl w8.heap.size rfl _ _ _ _ HL.out Tryz.underlying23 rfl Kr ?_)
   |(refine wpList_store_row rfl 23 _ _ rfl w.heap.size #[.int .i64 na,.int .i64 nb,.int .i64 nc,.string (mkS pr),.string (mkS bl)] rfl rfl _ _ HL0.out Kr rfl (ver_one _ _ _ _ _) ?_))
  have hit:=par_hit (HP.out.trans HPS.out)
  exact parse_done (v:=⟨na,nb,nc,pr,bl⟩) rfl rfl HL0.out hbL (hit.1.trans HG.out) hit.2
 ·have hne:=mkS_ne hPs
  have hne2:((mkS P).toList !=(mkS s).toList)=true:=by rw [bne,hne];rfl
  go_wp2_with (refine wpList_store_row rfl 23 _ _ rfl w.heap.size #[YI 0,YI 0,YI 0,.string ⟨#[]⟩,.string ⟨#[]⟩] rfl rfl _ _ hg9.out Kr rfl (ver_one _ _ _ _ _) ?_)
  exact parse_done (v:=Ver.zero) rfl rfl hg9.out hbw9 (par_miss (λe=>hPs (HP.out.symm.trans e))).1 (par_miss (λe=>hPs (HP.out.symm.trans e))).2
theorem parse_any (s:List UInt8)(w:World)(hs:s.length<=1000000)(ht:HasTab w):
  YC 184 #[.string (mkS s)] w (YR (.tuple #[k8 (dR s),YI (parE s)]) w):=parse_any0 s w hs ht
end
section
def bumpN (v:Ver)(k:Nat):Ver:=if k=0 then Ver.rel (v.maj+1) 0 0 else if k=1 then Ver.rel v.maj (v.min+1) 0 else Ver.rel v.maj v.min (v.pat+1)
def mG (v:Ver)(part:Int):Bool:=v.may && decide (0<=part/\part<3) && !(bE v.maj v.min v.pat part.toNat==9999)
def bumpV (v:Ver)(part:Int):Ver:=if mG v part then bumpN v part.toNat else Ver.zero
def BEnd (v:Ver)(part:Int)(w:World)(e:Ending)(w':World):Prop:=e= .returned (.tuple #[k8 (bumpV v part),.bool (mG v part)])/\Below w.heap.size w w'
def nextOk (v:Ver):Bool:=v.may && (!v.pre.isEmpty||mG v 2||mG v 1||mG v 0)
def nextV (v:Ver):Ver:=
 if v.may then (if v.pre.isEmpty then (if mG v 2 then bumpV v 2 else if mG v 1 then bumpV v 1 else if mG v 0 then bumpV v 0 else Ver.zero) else Ver.rel v.maj v.min v.pat) else Ver.zero
def NEnd (v:Ver)(w:World)(e:Ending)(w':World):Prop:=e= .returned (.tuple #[k8 (nextV v),.bool (nextOk v)])/\Below w.heap.size w w'
def findB (v:Ver):Nat->Ver×Bool
 |0=>(Ver.zero,false)
 |k+1=>if mG v k then (bumpV v k,true) else findB v k
end
section
def kK:List Nat->List Nat->Int
 | [],[]=>0
 | [],_::_=> -1
 |_::_,[]=>1
 |a::l,b::m=>if a<b then-1 else if b<a then 1 else kK l m
theorem cmpL_cons (a b:Nat)(l m:List Nat):kK (a::l) (b::m)=if a<b then-1 else if b<a then 1 else kK l m:=rfl
theorem cmpL_self (a:List Nat):kK a a=0:=by
 induction a with
 |nil=>rfl
 |cons x l ih=>rw [kK,if_neg Om,if_neg Om];exact ih
theorem cmpL_anti (a:List Nat):∀ b,kK b a= -kK a b:=by
 induction a with
 |nil=>intro b;cases b<;>rfl
 |cons x l ih=>
  intro b
  cases b with
  |nil=>rfl
  |cons y m=>
   rw [kK,kK]
   by_cases h1:x<y
   ·rw [if_neg Om,if_pos h1,if_pos h1];rfl
   ·by_cases h2:y<x
    ·rw [if_pos h2,if_neg h1,if_pos h2]
    ·rw [if_neg h2,if_neg h1,if_neg h1,if_neg h2];exact ih m
theorem cmpL_range (a:List Nat):∀ b,kK a b= -1\/kK a b=0\/kK a b=1:=by
 induction a with
 |nil=>intro b;cases b<;>simp [kK]
 |cons x l ih=>
  intro b
  cases b with
  |nil=>simp [kK]
  |cons y m=>
   rw [kK]
   split
   ·simp
   ·split
    ·simp
    ·exact ih m
theorem cmpL_zero (a:List Nat):∀ b,kK a b=0->a=b:=by
 induction a with
 |nil=>intro b;cases b<;>simp [kK]
 |cons x l ih=>
  intro b
  cases b with
  |nil=>simp [kK]
  |cons y m=>
   rw [kK]
   split
   ·intro h;omega
   ·split
    ·intro h;omega
    ·intro h;rw [ih m h,show x=y from by omega]
theorem cmpL_trans (a:List Nat):∀ b c,kK a b<=0->kK b c<=0->kK a c<=0/\(kK a c=0->kK a b=0/\kK b c=0):=by
 induction a with
 |nil=>
  intro b c h1 h2
  cases b with
  |nil=>cases c<;>simp [kK]
  |cons y m=>
   cases c with
   |nil=>simp [kK] at h2
   |cons z n=>simp [kK]
 |cons x l ih=>
  intro b c h1 h2
  cases b with
  |nil=>simp [kK] at h1
  |cons y m=>
   cases c with
   |nil=>simp [kK] at h2
   |cons z n=>
    simp only [cmpL_cons] at h1 h2 ⊢
    by_cases a1:x<y
    ·simp only [if_pos a1] at h1 ⊢
     by_cases a2:y<z
     ·have:x<z:=by omega
      simp only [if_pos this];omega
     ·by_cases a3:z<y
      ·simp only [if_neg a2,if_pos a3] at h2;omega
      ·have:x<z:=by omega
       simp only [if_pos this];omega
    ·by_cases a1':y<x
     ·simp only [if_neg a1,if_pos a1'] at h1;omega
     ·simp only [if_neg a1,if_neg a1'] at h1 ⊢
      obtain rfl:x=y:=by omega
      by_cases a2:x<z
      ·simp only [if_pos a2];omega
      ·by_cases a3:z<x
       ·simp only [if_neg a2,if_pos a3] at h2;omega
       ·simp only [if_neg a2,if_neg a3] at h2 ⊢
        exact ih m n h1 h2
def oneR (a b:List UInt8):Int:=
 if vJ a && vJ b then Lib.compareInt (zI a) (zI b) else if vJ a then-1 else if vJ b then 1 else Lib.compareBytes a b
def presL:List (List UInt8)->List (List UInt8)->Int
 | [],[]=>0
 | [],_::_=> -1
 |_::_,[]=>1
 |a::l,b::m=>if oneR a b≠0 then oneR a b else presL l m
def presR (a b:List UInt8):Int:=if a=b then 0 else if a=[] then 1 else if b=[] then-1 else presL (pcs a) (pcs b)
def tagKey (t:List UInt8):List Nat:=if vJ t then [1,(zI t).toNat] else 2::(t.map (λc=>c.toNat+1)++[0])
def mL (l:List (List UInt8)):List Nat:=l.flatMap tagKey++[0]
def preKey (p:List UInt8):List Nat:=if p=[] then [3] else mL (pcs p)
def Ver.key (v:Ver):List Nat:=v.maj.toNat::v.min.toNat::v.pat.toNat::preKey v.pre
theorem numD_nat (t:List UInt8):0<=zI t:=by unfold zI;omega
theorem cmpL_bytes (a:List UInt8):∀ (b:List UInt8) (x y:List Nat),kK (a.map (λc=>c.toNat+1)++0::x) (b.map (λc=>c.toNat+1)++0::y)=if Lib.compareBytes a b≠0 then Lib.compareBytes a b else kK x y:=by
 induction a with
 |nil=>
  intro b x y
  cases b with
  |nil=>simp [kK,Lib.compareBytes]
  |cons c r=>simp [kK,Lib.compareBytes]
 |cons c r ih=>
  intro b x y
  cases b with
  |nil=>simp [kK,Lib.compareBytes]
  |cons d q=>
   simp only [List.map_cons,List.cons_append,cmpL_cons]
   by_cases h1:c<d
   ·have h1':c.toNat<d.toNat:=UInt8.lt_iff_toNat_lt.1 h1
    have e:Lib.compareBytes (c::r) (d::q)= -1:=by rw [Lib.compareBytes,if_pos h1]
    rw [e,if_pos Om];rfl
   ·by_cases h2:d<c
    ·have h2':d.toNat<c.toNat:=UInt8.lt_iff_toNat_lt.1 h2
     have e:Lib.compareBytes (c::r) (d::q)=1:=by rw [Lib.compareBytes,if_neg h1,if_pos h2]
     rw [e,if_neg Om,if_pos Om];rfl
    ·have a1:¬ c.toNat<d.toNat:=λh=>h1 (UInt8.lt_iff_toNat_lt.2 h)
     have a2:¬ d.toNat<c.toNat:=λh=>h2 (UInt8.lt_iff_toNat_lt.2 h)
     have e:Lib.compareBytes (c::r) (d::q)=Lib.compareBytes r q:=by rw [Lib.compareBytes,if_neg h1,if_neg h2]
     rw [e,if_neg Om,if_neg Om]
     exact ih q x y
theorem cmpL_tag (a b:List UInt8)(x y:List Nat):kK (tagKey a++x) (tagKey b++y)=if oneR a b≠0 then oneR a b else kK x y:=by
 unfold tagKey oneR
 cases ha:vJ a<;>cases hb:vJ b
 ·have:=cmpL_bytes a b x y
  simpa [kK] using this
 ·simp [kK]
 ·simp [kK]
 ·have h1:=numD_nat a
  have h2:=numD_nat b
  simp only [Bool.and_true,if_true,List.cons_append,List.nil_append,kK,Lib.compareInt]
  by_cases h:zI a<zI b
  ·rw [if_pos h,if_pos (by omega:(zI a).toNat<(zI b).toNat)];rfl
  ·by_cases h':zI b<zI a
   ·rw [if_neg h,if_pos h',if_neg (by omega:¬ (zI a).toNat<(zI b).toNat),if_pos (by omega:(zI b).toNat<(zI a).toNat)];rfl
   ·rw [if_neg h,if_neg h',if_neg (by omega:¬ (zI a).toNat<(zI b).toNat),if_neg (by omega:¬ (zI b).toNat<(zI a).toNat)];rfl
theorem tag_cons (a:List UInt8):∃ k r,tagKey a=k::r/\0<k/\k<3:=by
 unfold tagKey;split
 ·exact ⟨_,_,rfl,by omega,by omega⟩
 ·exact ⟨_,_,rfl,by omega,by omega⟩
theorem cmpL_tail (l:List (List UInt8)):∀ m,kK (mL l) (mL m)=presL l m:=by
 induction l with
 |nil=>
  intro m
  cases m with
  |nil=>rfl
  |cons b m=>
   obtain ⟨k,r,e,h,_⟩:=tag_cons b
   unfold mL
   rw [List.flatMap_cons,e]
   simp [kK,presL,h]
 |cons a l ih=>
  intro m
  cases m with
  |nil=>
   obtain ⟨k,r,e,h,_⟩:=tag_cons a
   unfold mL
   rw [List.flatMap_cons,e]
   simp [kK,presL,h]
  |cons b m=>
   have:=ih m
   unfold mL at this ⊢
   rw [List.flatMap_cons,List.flatMap_cons,List.append_assoc,List.append_assoc,cmpL_tag,this,presL]
theorem tail_small (l:List (List UInt8)):∃ k r,mL l=k::r/\k<3:=by
 unfold mL
 cases l with
 |nil=>exact ⟨0,[],rfl,by omega⟩
 |cons a l=>
  obtain ⟨k,r,e,_,h⟩:=tag_cons a
  exact ⟨k,r++(l.flatMap tagKey++[0]),by rw [List.flatMap_cons,e];simp,h⟩
theorem presR_key (a b:List UInt8):presR a b=kK (preKey a) (preKey b):=by
 unfold presR
 by_cases h:a=b
 ·rw [if_pos h,h,cmpL_self]
 ·rw [if_neg h]
  unfold preKey
  by_cases ha:a=[]
  ·have hb:b≠[]:=λe=>h (ha.trans e.symm)
   rw [if_pos ha,if_pos ha,if_neg hb]
   obtain ⟨k,r,e,hk⟩:=tail_small (pcs b)
   rw [e,kK,if_neg Om,if_pos hk]
  ·rw [if_neg ha,if_neg ha]
   by_cases hb:b=[]
   ·rw [if_pos hb,if_pos hb]
    obtain ⟨k,r,e,hk⟩:=tail_small (pcs a)
    rw [e,kK,if_pos hk]
   ·rw [if_neg hb,if_neg hb];exact (cmpL_tail _ _).symm
def cmpN (v w:Ver):Int:=
 if Lib.compareInt v.maj w.maj≠0 then Lib.compareInt v.maj w.maj
 else if Lib.compareInt v.min w.min≠0 then Lib.compareInt v.min w.min
 else Lib.compareInt v.pat w.pat
def mD (v w:Ver):Int:=if v.may && w.may then (if cmpN v w≠0 then cmpN v w else presR v.pre w.pre) else 0
theorem may_nat {v:Ver}(h:v.may=true):(0<=v.maj/\v.maj<=9999)/\(0<=v.min/\v.min<=9999)/\(0<=v.pat/\v.pat<=9999):=by
 obtain ⟨h1,h2,h3⟩:=qB h
 unfold zP at h1 h2 h3;simp at h1 h2 h3
 exact ⟨h1,h2,h3⟩
theorem cmpL_num {a b:Int}(ha:0<=a)(hb:0<=b)(x y:List Nat):kK (a.toNat::x) (b.toNat::y)=if Lib.compareInt a b≠0 then Lib.compareInt a b else kK x y:=by
 rw [kK]
 unfold Lib.compareInt
 by_cases h:a<b
 ·rw [if_pos h,if_pos Om];rfl
 ·by_cases h':b<a
  ·rw [if_neg h,if_pos h',if_neg Om,if_pos Om];rfl
  ·rw [if_neg h,if_neg h',if_neg Om,if_neg Om];rfl
theorem nY {v w:Ver}(hv:v.may=true)(hw:w.may=true):mD v w=kK v.key w.key:=by
 obtain ⟨v1,v2,v3⟩:=may_nat hv
 obtain ⟨w1,w2,w3⟩:=may_nat hw
 unfold mD
 rw [hv,hw,presR_key]
 unfold Ver.key
 rw [cmpL_num v1.1 w1.1,cmpL_num v2.1 w2.1,cmpL_num v3.1 w3.1]
 unfold cmpN
 simp only [Bool.and_true,if_true]
 by_cases h1:Lib.compareInt v.maj w.maj=0
 ·by_cases h2:Lib.compareInt v.min w.min=0
  ·simp [h1,h2]
  ·simp [h1,h2]
 ·simp [h1]
def oneP (a b:List UInt8):Int:=
 if qA a && qA b then Lib.compareInt (zI a) (zI b) else if qA a && !b.isEmpty then-1 else if qA b && !a.isEmpty then 1 else Lib.compareBytes a b
def seqP:Nat->List (List UInt8)->List (List UInt8)->Int
 |0,_,_=>0
 |n+1,l,m=>if oneP (tg l 0) (tg m 0)≠0 then oneP (tg l 0) (tg m 0) else seqP n l.tail m.tail
def fine (t:List UInt8):Bool:=kR t && preT t
def cpre (a b:List UInt8):Int:=if a=[] then 1 else if b=[] then-1 else seqP 4 (lst a).1 (lst b).1
theorem cmpR_bad {v w:Ver}(h:v.may=false\/w.may=false):mD v w=0:=by
 unfold mD
 rw [if_neg]
 rcases h with h|h<;>simp [h]
def wG (v:Ver):Ver:={v with build:=[]}
theorem t7 (x:Int):Lib.compareInt x x=0:=by unfold Lib.compareInt;simp
theorem cmpR_core {v w:Ver}(h:wG v=wG w):mD v w=0:=by
 unfold wG at h
 simp only [Ver.mk.injEq,and_true] at h
 obtain ⟨h1,h2,h3,h4⟩:=h
 unfold mD cmpN presR
 rw [h1,h2,h3,h4]
 simp [t7]
end
section
theorem may_pre {v:Ver}(h:v.may=true):tJ v.pre=true:=by
 unfold Ver.may at h;simp only [Bool.and_eq_true] at h;exact h.1.2
theorem core_may {v:Ver}(h:v.may=true):(wG v).may=true:=by
 have e:jD []=true:=by decide
 unfold Ver.may at h ⊢;simp only [Bool.and_eq_true] at h ⊢
 exact ⟨⟨h.1.1,h.1.2⟩,e⟩
theorem order_self {a:Ver}:mD a a=0:=cmpR_core rfl
theorem order_core {a b:Ver}(ha:a.may=true)(hb:b.may=true):mD (wG a) b=mD a b:=by
 rw [nY (core_may ha) hb,nY ha hb];rfl
def Ver.code (v:Ver):Int:=(v.maj*10000+v.min)*10000+v.pat
end
section
end
section
structure Co where
 op:Int
 parts:Int
 v:Ver
deriving DecidableEq
def y7 (op:Int):List UInt8:=if op=1 then [61] else if op=2 then [33,61] else if op=3 then [60] else if op=4 then [60,61] else if op=5 then [62] else if op=6 then [62,61] else if op=7 then [94] else if op=8 then [126] else []
def Co.may (c:Co):Bool:=decide (1<=c.op/\c.op<=9) && c.v.may && decide (c.v.build=[]) && (if c.op=9 then decide (0<=c.parts/\c.parts<=2) else decide (1<=c.parts/\c.parts<=3)) && decide (3<=c.parts\/c.v.pre=[]) && decide (0<c.parts\/c.v.maj=0) && decide (1<c.parts\/c.v.min=0) && decide (2<c.parts\/c.v.pat=0)
theorem Co.facts {c:Co}(h:c.may=true):(1<=c.op/\c.op<=9)/\c.v.may=true/\c.v.build=[]/\(c.op=9->0<=c.parts/\c.parts<=2)/\(¬ c.op=9->1<=c.parts/\c.parts<=3)/\(3<=c.parts\/c.v.pre=[])/\(0<c.parts\/c.v.maj=0)/\(1<c.parts\/c.v.min=0)/\(2<c.parts\/c.v.pat=0):=by
 unfold Co.may at h
 simp only [Bool.and_eq_true,decide_eq_true_eq] at h
 obtain ⟨⟨⟨⟨⟨⟨⟨h1,h2⟩,h3⟩,h4⟩,h5⟩,h6⟩,h7⟩,h8⟩:=h
 refine ⟨h1,h2,h3,λe=> ?_,λe=> ?_,h5,h6,h7,h8⟩
 ·rw [if_pos e] at h4;exact of_decide_eq_true h4
 ·rw [if_neg e] at h4;exact of_decide_eq_true h4
theorem Co.may_iff {c:Co}:c.may=true↔(1<=c.op/\c.op<=9)/\c.v.may=true/\c.v.build=[]/\(c.op=9->0<=c.parts/\c.parts<=2)/\(¬ c.op=9->1<=c.parts/\c.parts<=3)/\(3<=c.parts\/c.v.pre=[])/\(0<c.parts\/c.v.maj=0)/\(1<c.parts\/c.v.min=0)/\(2<c.parts\/c.v.pat=0):=by
 refine ⟨Co.facts,λ⟨h1,h2,h3,k9,kn,h5,h6,h7,h8⟩=> ?_⟩
 unfold Co.may
 rw [decide_eq_true h1,h2,decide_eq_true h3,decide_eq_true h5,decide_eq_true h6,decide_eq_true h7,decide_eq_true h8]
 by_cases e:c.op=9
 ·rw [if_pos e,decide_eq_true (k9 e)];rfl
 ·rw [if_neg e,decide_eq_true (kn e)];rfl
def zZ (v:Ver)(n:Nat):List (List UInt8):=[Lib.itoa v.maj,Lib.itoa v.min,Lib.itoa v.pat].take n
def Co.rest (c:Co):List UInt8:=if c.op=9 then zG 46 (zZ c.v c.parts.toNat++[[42]]) else zG 46 (zZ c.v c.parts.toNat)++xR 45 c.v.pre
def Co.text (c:Co):List UInt8:=y7 c.op++c.rest
def Co.print (c:Co):List UInt8:=if c.may then c.text else []
def yL (s t:List UInt8):Bool:=decide (s.take t.length=t)
def gP (s:List UInt8):Int×List UInt8:=
 if yL s [33,61] then (2,s.drop 2) else if yL s [60,61] then (4,s.drop 2) else if yL s [62,61] then (6,s.drop 2) else if yL s [61] then (1,s.drop 1)
 else if yL s [60] then (3,s.drop 1) else if yL s [62] then (5,s.drop 1) else if yL s [94] then (7,s.drop 1) else if yL s [126] then (8,s.drop 1)
 else if s.getLast?=some 42 then (9,s) else (7,s)
def gR (op:Int)(rest:List UInt8):List (List UInt8):=if op=9 then (pcs (zA 45 rest).1).dropLast else pcs (zA 45 rest).1
def guessC (op:Int)(rest:List UInt8):Option Co:=
 if (gR op rest).length<=3/\(gR op rest).all qA=true then
  some ⟨op,(gR op rest).length,⟨zI (tg (gR op rest) 0),zI (tg (gR op rest) 1),zI (tg (gR op rest) 2),(zA 45 rest).2.1,[]⟩⟩
 else none
def fits (s:List UInt8)(c:Co):Bool:= !decide (c.print=[]) && (decide (c.print=s)||decide (c.print=94::s))
def g0 (s:List UInt8):Option Co:=(guessC (gP s).1 (gP s).2).filter (fits s)
theorem print_may {c:Co}(h:¬ c.print=[]):c.may=true:=by
 cases hm:c.may with
 |true=>rfl
 |false=>exact absurd (show c.print=[] by unfold Co.print;rw [hm];rfl) h
theorem v6 {c:Co}(h:c.may=true):c.print=c.text:=by unfold Co.print;rw [h];rfl
theorem parseC_back {s:List UInt8}{c:Co}(h:g0 s=some c):c.may=true/\(c.text=s\/c.text=94::s):=by
 unfold g0 at h
 obtain ⟨_,h⟩:=Option.filter_eq_some_iff.1 h
 unfold fits at h
 simp only [Bool.and_eq_true,Bool.not_eq_true',decide_eq_false_iff_not,Bool.or_eq_true,decide_eq_true_eq] at h
 have hm:=print_may h.1
 rw [v6 hm] at h
 exact ⟨hm,h.2⟩
theorem pcs_cons {x y:List UInt8}(h:(46:UInt8)∉x):pcs (x++46::y)=x::pcs y:=by
 unfold pcs
 rw [x9,bC 46 _ _ h]
 simp
theorem pcs_one {x:List UInt8}(h:(46:UInt8)∉x):pcs x=[x]:=by
 unfold pcs
 rw [x9,jH 46 _ h]
 simp
theorem pcs_join:∀ (l:List (List UInt8)),l≠[]->(∀ x∈l,(46:UInt8)∉x)->pcs (zG 46 l)=l
 | [],h,_=>absurd rfl h
 | [x],_,h=>pcs_one (h x (List.mem_singleton.2 rfl))
 |x::y::r,_,h=>by
  rw [zG,pcs_cons (h x (List.mem_cons_self ..)),pcs_join (y::r) (by simp) λz hz=>h z (List.mem_cons_of_mem _ hz)]
theorem nums_mem {v:Ver}(hv:v.may=true){n:Nat}{x:List UInt8}(h:x∈zZ v n):∃ k:Int,zP k=true/\x=Lib.itoa k:=by
 obtain ⟨h1,h2,h3⟩:=qB hv
 unfold zZ at h
 have h:=List.mem_of_mem_take h
 simp only [List.mem_cons,List.not_mem_nil,or_false] at h
 rcases h with rfl|rfl|rfl
 ·exact ⟨_,h1,rfl⟩
 ·exact ⟨_,h2,rfl⟩
 ·exact ⟨_,h3,rfl⟩
theorem wX {v:Ver}(hv:v.may=true){n:Nat}(b:UInt8)(hb:yJ b.toNat=false):∀ x∈zZ v n,b∉x:=λx hx=>by
 obtain ⟨k,hk,rfl⟩:=nums_mem hv hx
 exact bL hk b hb
theorem fT (b:UInt8)(hb:b≠46):∀ (l:List (List UInt8)),(∀ x∈l,b∉x)->b∉zG 46 l
 | [],_=>by simp [zG]
 | [x],h=>h x (List.mem_singleton.2 rfl)
 |x::y::r,h=>by
  rw [zG]
  simp only [List.mem_append,List.mem_cons,not_or]
  exact ⟨h x (List.mem_cons_self ..),hb,fT b hb (y::r) λz hz=>h z (List.mem_cons_of_mem _ hz)⟩
theorem jP (v:Ver){n:Nat}(h:n<=3):(zZ v n).length=n:=by
 unfold zZ
 rw [List.length_take]
 simp;omega
theorem nums_num {v:Ver}(hv:v.may=true)(n:Nat):(zZ v n).all qA=true:=List.all_eq_true.2 λx hx=>by
 obtain ⟨k,hk,rfl⟩:=nums_mem hv hx
 exact numI_itoa hk
theorem nums_back {v:Ver}(hv:v.may=true){n:Nat}(h:n<=3)(h0:0<n\/v.maj=0)(h1:1<n\/v.min=0)(h2:2<n\/v.pat=0):zI (tg (zZ v n) 0)=v.maj/\zI (tg (zZ v n) 1)=v.min/\zI (tg (zZ v n) 2)=v.pat:=by
 obtain ⟨m1,m2,m3⟩:=qB hv
 have e1:=qV m1
 have e2:=qV m2
 have e3:=qV m3
 match n,h with
 |0,_=>exact ⟨(h0.resolve_left (by decide)).symm,(h1.resolve_left (by decide)).symm,(h2.resolve_left (by decide)).symm⟩
 |1,_=>exact ⟨e1,(h1.resolve_left (by decide)).symm,(h2.resolve_left (by decide)).symm⟩
 |2,_=>exact ⟨e1,e2,(h2.resolve_left (by decide)).symm⟩
 |3,_=>exact ⟨e1,e2,e3⟩
theorem guess_rest {c:Co}(h:c.may=true):guessC c.op c.rest=some c:=by
 obtain ⟨_,hv,hb,h9,hn,hp,k0,k1,k2⟩:=Co.facts h
 obtain ⟨op,parts,v⟩:=c
 simp only at hv hb h9 hn hp k0 k1 k2 ⊢
 have hparts:(parts.toNat:Int)=parts/\parts.toNat<=3:=by
  by_cases e:op=9
  ·have:=h9 e;omega
  ·have:=hn e;omega
 have key:gR op (Co.rest ⟨op,parts,v⟩)=zZ v parts.toNat/\(zA 45 (Co.rest ⟨op,parts,v⟩)).2.1=v.pre:=by
  unfold gR Co.rest
  by_cases e:op=9
  ·rw [if_pos e]
   dsimp only
   rw [if_pos e]
   have f:∀ b:UInt8,yJ b.toNat=false->b≠42→∀ x∈zZ v parts.toNat++[[42]],b∉x:=λb hb hb2 x hx=>by
    rcases List.mem_append.1 hx with hx|hx
    ·exact wX hv b hb x hx
    ·rw [List.mem_singleton.1 hx]
     intro hm
     exact hb2 (List.mem_singleton.1 hm)
   rw [jH 45 _ (fT 45 (by decide) _ (f 45 (by decide) (by decide)))]
   have hpre:v.pre=[]:=hp.resolve_left (by have:=h9 e;omega)
   exact ⟨by
    show (pcs (zG 46 (zZ v parts.toNat++[[42]]))).dropLast=_
    rw [pcs_join _ (by simp) (f 46 (by decide) (by decide)),List.dropLast_concat],hpre.symm⟩
  ·rw [if_neg e]
   dsimp only
   rw [if_neg e]
   have hne:zZ v parts.toNat≠[]:=λh0=>by
    have:=jP v hparts.2
    rw [h0] at this
    have:=hn e
    simp at*;omega
   rw [cut_tail 45 _ _ (fT 45 (by decide) _ (wX hv 45 (by decide)))]
   exact ⟨pcs_join _ hne (wX hv 46 (by decide)),rfl⟩
 unfold guessC
 rw [key.1,key.2,if_pos ⟨by rw [jP v hparts.2];exact hparts.2,nums_num hv _⟩]
 obtain ⟨e1,e2,e3⟩:=nums_back hv hparts.2 Om Om Om
 rw [e1,e2,e3,jP v hparts.2,hparts.1]
 obtain ⟨a,b,p,q,r⟩:=v
 simp only at hb
 rw [hb]
theorem itoa_head {k:Int}(h:zP k=true):∃ d r,Lib.itoa k=d::r/\yJ d.toNat=true:=by
 have hm:=num_itoa h
 cases e:Lib.itoa k with
 |nil=>rw [e] at hm;cases hm
 |cons d r=>exact ⟨d,r,rfl,by
   have:=dig_mem k.toNat d (by rw [←tR h,e];exact List.mem_cons_self)
   exact this⟩
theorem join_head {x:List UInt8}{l:List (List UInt8)}{d:UInt8}{r:List UInt8}(h:x=d::r):∃ r',zG 46 (x::l)=d::r':=by
 subst h
 cases l with
 |nil=>exact ⟨r,rfl⟩
 |cons y t=>exact ⟨_,rfl⟩
theorem nI {c:Co}(h:c.may=true)(hn:¬ c.op=9):∃ d r,c.rest=d::r/\yJ d.toNat=true:=by
 obtain ⟨_,hv,_,_,h9,_⟩:=Co.facts h
 obtain ⟨d,r,e,hd⟩:=itoa_head (qB hv).1
 obtain ⟨n,en⟩:∃ n,c.parts.toNat=n+1:=⟨c.parts.toNat-1,by have:=h9 hn;omega⟩
 obtain ⟨r',e'⟩:=join_head (l:=[Lib.itoa c.v.min,Lib.itoa c.v.pat].take n) e
 refine ⟨d,r'++xR 45 c.v.pre, ?_,hd⟩
 unfold Co.rest zZ
 rw [if_neg hn,en,List.take_succ_cons,e'];rfl
theorem star_head {c:Co}(h:c.may=true)(hn:c.op=9):∃ d r,c.rest=d::r/\(yJ d.toNat=true\/d=42):=by
 obtain ⟨_,hv,_,h9,_⟩:=Co.facts h
 obtain ⟨d,r,e,hd⟩:=itoa_head (qB hv).1
 unfold Co.rest zZ
 rw [if_pos hn]
 cases hp:c.parts.toNat with
 |zero=>exact ⟨42,[],rfl,.inr rfl⟩
 |succ n=>
  obtain ⟨r',e'⟩:=join_head (l:=[Lib.itoa c.v.min,Lib.itoa c.v.pat].take n++[[42]]) e
  exact ⟨d,r',by rw [List.take_succ_cons,List.cons_append,e'],.inl hd⟩
theorem vF {d:UInt8}{r:List UInt8}{a:UInt8}{t:List UInt8}(h:d≠a):yL (d::r) (a::t)=false:=decide_eq_false λe=>by
 rw [List.length_cons,List.take_succ_cons] at e
 injection e with e1 _
 exact h e1
theorem split_plain {d:UInt8}{r:List UInt8}(h:yJ d.toNat=true\/d=42):gP (d::r)=if (d::r).getLast?=some 42 then (9,d::r) else (7,d::r):=by
 have hd:∀ a:UInt8,yJ a.toNat=false->a≠42->d≠a:=λa ha h42 e=>by
  subst e
  rcases h with h|h
  ·rw [ha] at h;cases h
  ·exact h42 h
 unfold gP
 rw [vF (hd 33 (by decide) (by decide)),vF (hd 60 (by decide) (by decide)),vF (hd 62 (by decide) (by decide)),vF (hd 61 (by decide) (by decide)),vF (hd 60 (by decide) (by decide)),vF (hd 62 (by decide) (by decide)),vF (hd 94 (by decide) (by decide)),vF (hd 126 (by decide) (by decide))]
 rfl
theorem split_sign {op:Int}(h1:1<=op)(h8:op<=8){d:UInt8}{r:List UInt8}(hd:yJ d.toNat=true):gP (y7 op++d::r)=(op,d::r):=by
 have h61:d≠61:=λe=>by subst e;revert hd;decide
 have hop:op=1\/op=2\/op=3\/op=4\/op=5\/op=6\/op=7\/op=8:=by omega
 rcases hop with rfl|rfl|rfl|rfl|rfl|rfl|rfl|rfl<;>simp [y7,gP,yL,h61]
theorem last_join (x:List UInt8):∀ (l:List (List UInt8)),(zG 46 (l++[x++[42]])).getLast?=some 42
 | []=>by simp [zG]
 | [y]=>by
  show (y++46::(x++[42])).getLast?=some 42
  rw [show y++46::(x++[42])=(y++46::x)++[42] from by simp,List.getLast?_concat]
 |y::z::r=>by
  have:=last_join x (z::r)
  show (y++46::zG 46 (z::r++[x++[42]])).getLast?=some 42
  rw [List.getLast?_append]
  cases hj:zG 46 (z::r++[x++[42]]) with
  |nil=>rw [hj] at this;cases this
  |cons a b=>rw [hj] at this;rw [List.getLast?_cons_cons,this];rfl
theorem star_free (s:List UInt8)(h:jD s=true):(42:UInt8)∉s:=by
 intro hm
 unfold jD at h
 rcases splitL_mem 46 s [] 42 hm with e|⟨x,hx,hc⟩
 ·revert e;decide
 ·have hne:s.isEmpty=false:=by cases s with
   |nil=>cases hm
   |cons _ _=>rfl
  rw [hne,Bool.false_or,Bool.and_eq_true] at h
  have:=List.all_eq_true.1 h.2 x hx
  unfold kR at this
  rw [Bool.and_eq_true] at this
  have:=List.all_eq_true.1 this.2 _ hc
  revert this;decide
theorem rest_star {c:Co}(h:c.may=true)(hn:¬ c.op=9):(42:UInt8)∉c.rest:=by
 obtain ⟨_,hv,_⟩:=Co.facts h
 have hl:jD c.v.pre=true:=by
  have:=may_pre hv
  unfold tJ at this
  exact (Bool.and_eq_true_iff.1 this).1
 unfold Co.rest
 rw [if_neg hn]
 intro hm
 rcases List.mem_append.1 hm with hm|hm
 ·exact fT 42 (by decide) _ (wX hv 42 (by decide)) hm
 ·unfold xR at hm
  split at hm
  ·cases hm
  ·rcases List.mem_cons.1 hm with e|hm
   ·revert e;decide
   ·exact star_free _ hl hm
theorem split_text {c:Co}(h:c.may=true):gP c.text=(c.op,c.rest):=by
 obtain ⟨ho,_⟩:=Co.facts h
 unfold Co.text
 by_cases hn:c.op=9
 ·obtain ⟨d,r,e,hd⟩:=star_head h hn
  have hl:c.rest.getLast?=some 42:=by unfold Co.rest;rw [if_pos hn];exact last_join [] _
  rw [hn,show y7 9=[] from rfl,List.nil_append]
  rw [e] at hl ⊢
  rw [split_plain hd,if_pos hl]
 ·obtain ⟨d,r,e,hd⟩:=nI h hn
  rw [e]
  exact split_sign ho.1 Om hd
theorem parseC_text {c:Co}(h:c.may=true):g0 c.text=some c:=by
 unfold g0
 rw [split_text h,guess_rest h]
 refine Option.filter_eq_some_iff.2 ⟨rfl, ?_⟩
 have hne:¬ c.text=[]:=λe=>by
  unfold Co.text at e
  have e2:=(List.append_eq_nil_iff.1 e).2
  by_cases hn:c.op=9
  ·obtain ⟨d,r,e3,_⟩:=star_head h hn;rw [e3] at e2;cases e2
  ·obtain ⟨d,r,e3,_⟩:=nI h hn;rw [e3] at e2;cases e2
 unfold fits
 rw [v6 h,decide_eq_false hne,decide_eq_true rfl];rfl
theorem parseC_caret {c:Co}{s:List UInt8}(h:c.may=true)(hs:c.text=94::s):g0 s=some c:=by
 obtain ⟨ho,_⟩:=Co.facts h
 have hop:c.op=7/\c.rest=s:=by
  unfold Co.text at hs
  by_cases hn:c.op=9
  ·obtain ⟨d,r,e,hd⟩:=star_head h hn
   rw [hn,show y7 9=[] from rfl,List.nil_append,e] at hs
   injection hs with e1 _
   rw [e1] at hd
   exact absurd hd (by decide)
  ·have hop:c.op=1\/c.op=2\/c.op=3\/c.op=4\/c.op=5\/c.op=6\/c.op=7\/c.op=8:=by omega
   rcases hop with e|e|e|e|e|e|e|e<;>rw [e] at hs<;>simp [y7] at hs
   exact ⟨e,hs⟩
 obtain ⟨d,r,e,hd⟩:=nI h Om
 have h42:¬ s.getLast?=some 42:=λhl=>by
  have:=List.mem_of_getLast? hl
  rw [←hop.2] at this
  exact rest_star h Om this
 unfold g0
 have hsp:gP s=(7,s):=by
  rw [←hop.2,e,split_plain (.inl hd),if_neg (by rw [←e,hop.2];exact h42)]
 rw [hsp]
 have hg:=guess_rest h
 rw [hop.1,hop.2] at hg
 rw [hg]
 refine Option.filter_eq_some_iff.2 ⟨rfl, ?_⟩
 unfold fits
 rw [v6 h,hs,decide_eq_false (by simp),decide_eq_true rfl,Bool.or_true];rfl
theorem pL (s:List UInt8)(c:Co):g0 s=some c↔c.may=true/\(c.text=s\/c.text=94::s):=
 ⟨parseC_back,λ⟨hm,h⟩=>h.elim (λe=>e▸parseC_text hm) (λe=>parseC_caret hm e)⟩
end
section
def jS (sep:List UInt8):List (List UInt8)->List UInt8
 | []=>[]
 | [x]=>x
 |x::y::l=>x++sep++jS sep (y::l)
theorem joinB_two (sep x y:List UInt8)(l:List (List UInt8)):jS sep (x::y::l)=x++sep++jS sep (y::l):=rfl
theorem joinB_snoc (sep x:List UInt8):∀ (l:List (List UInt8)),jS sep (l++[x])=if l=[] then x else jS sep l++sep++x
 | []=>rfl
 | [y]=>rfl
 |y::z::l=>by
  rw [if_neg (by simp)]
  show y++sep++jS sep ((z::l)++[x])=y++sep++jS sep (z::l)++sep++x
  rw [joinB_snoc sep x (z::l),if_neg (by simp)]
  simp only [List.append_assoc]
def sumN:List Nat->Nat
 | []=>0
 |n::l=>n+sumN l
theorem joinB_len (sep:List UInt8):∀ (l:List (List UInt8)),(jS sep l).length=sumN (l.map (·.length))+(l.length-1)*sep.length
 | []=>by simp [jS,sumN]
 | [x]=>by simp [jS,sumN]
 |x::y::l=>by
  rw [joinB_two,List.length_append,List.length_append,joinB_len sep (y::l)]
  show x.length+sep.length+(sumN ((y::l).map (·.length))+((y::l).length-1)*sep.length)=x.length+sumN ((y::l).map (·.length))+((y::l).length+1-1)*sep.length
  have e:((y::l).length+1-1)*sep.length=((y::l).length-1)*sep.length+sep.length:=by
   rw [show (y::l).length+1-1=((y::l).length-1)+1 from by simp,Nat.add_mul,Nat.one_mul]
  omega
def xF (a:List Co):List UInt8:=jS [44,32] (a.map Co.print)
def kF (r:List (List Co)):List UInt8:=jS [32,124,124,32] (r.map xF)
def fewA (a:List Co):Bool:=decide (1<=a.length/\a.length<=6) && a.all Co.may
def fewR (r:List (List Co)):Bool:=decide (1<=r.length/\r.length<=6) && r.all fewA
def rgMay (r:List (List Co)):Bool:=fewR r && decide ((kF r).length<=96)
def jN (r:List (List Co)):List UInt8:=if rgMay r then kF r else []
theorem fewA.facts {a:List Co}(h:fewA a=true):(1<=a.length/\a.length<=6)∧∀ c∈a,c.may=true:=by
 unfold fewA at h
 rw [Bool.and_eq_true,decide_eq_true_eq] at h
 exact ⟨h.1,List.all_eq_true.1 h.2⟩
theorem fewR.facts {r:List (List Co)}(h:fewR r=true):(1<=r.length/\r.length<=6)∧∀ a∈r,fewA a=true:=by
 unfold fewR at h
 rw [Bool.and_eq_true,decide_eq_true_eq] at h
 exact ⟨h.1,List.all_eq_true.1 h.2⟩
theorem rgMay.facts {r:List (List Co)}(h:rgMay r=true):fewR r=true/\(kF r).length<=96:=by
 unfold rgMay at h
 rw [Bool.and_eq_true,decide_eq_true_eq] at h
 exact h
def yG:List UInt8->List UInt8
 | []=>[]
 |c::l=>if c=32 then yG l else c::l
def yD (s:List UInt8):List UInt8:=(yG (yG s).reverse).reverse
def xM:List UInt8->List UInt8->List (List UInt8)
 |acc,[]=>[acc]
 |acc,[c]=>[acc++[c]]
 |acc,c::d::r=>if c=124/\d=124 then acc::xM [] r else xM (acc++[c]) (d::r)
def fD {α β:Type}(f:α->Option β):List α->Option (List β)
 | []=>some []
 |x::l=>match f x,fD f l with
  |some y,some m=>some (y::m)
  |_,_=>none
theorem allO_cons {α β:Type}{f:α->Option β}{x:α}{l:List α}{y:β}{m:List β}(h1:f x=some y)(h2:fD f l=some m):fD f (x::l)=some (y::m):=by
 show (match f x,fD f l with|some y,some m=>some (y::m)|_,_=>none)=_
 rw [h1,h2]
theorem allO_inv {α β:Type}{f:α->Option β}{x:α}{l:List α}{m:List β}(h:fD f (x::l)=some m):∃ y m',m=y::m'/\f x=some y/\fD f l=some m':=by
 have h:(match f x,fD f l with|some y,some m=>some (y::m)|_,_=>none)=some m:=h
 cases h1:f x with
 |none=>rw [h1] at h;cases h
 |some y=>
  cases h2:fD f l with
  |none=>rw [h1,h2] at h;cases h
  |some m'=>rw [h1,h2] at h;injection h with h;exact ⟨y,m',h.symm,rfl,rfl⟩
theorem allO_none {α β:Type}{f:α->Option β}:∀ {l:List α} {x:α},x∈l->f x=none->fD f l=none
 |y::l,x,hx,h=>by
  show (match f y,fD f l with|some y,some m=>some (y::m)|_,_=>none)=_
  rcases List.mem_cons.1 hx with rfl|hx
  ·rw [h]
  ·rw [allO_none hx h];cases f y<;>rfl
theorem fC {α β:Type}{f:α->Option β}:∀ {l:List α} {m:List β},fD f l=some m->m.length=l.length
 | [],m,h=>by injection h with h;subst h;rfl
 |x::l,m,h=>by
  obtain ⟨y,m',rfl,_,h2⟩:=allO_inv h
  rw [List.length_cons,List.length_cons,fC h2]
theorem allO_app {α β:Type}{f:α->Option β}{b:List α}{n:List β}(hb:fD f b=some n):∀ {a:List α} {m:List β},fD f a=some m->fD f (a++b)=some (m++n)
 | [],m,h=>by injection h with h;subst h;exact hb
 |x::a,m,h=>by
  obtain ⟨y,m',rfl,h1,h2⟩:=allO_inv h
  exact allO_cons h1 (allO_app hb h2)
theorem allO_snoc {α β:Type}{f:α->Option β}{a:List α}{m:List β}{x:α}{y:β}(h:fD f a=some m)(h1:f x=some y):fD f (a++[x])=some (m++[y]):=allO_app (allO_cons h1 rfl) h
theorem allO_back {α β:Type}{f:α->Option β}:∀ {l:List α} {m:List β},fD f l=some m→∀ y∈m,∃ x∈l,f x=some y
 | [],m,h,y,hy=>by injection h with h;subst h;cases hy
 |z::l,m,h,y,hy=>by
  obtain ⟨w,m',rfl,h1,h2⟩:=allO_inv h
  rcases List.mem_cons.1 hy with rfl|hy
  ·exact ⟨z,List.mem_cons_self ..,h1⟩
  ·obtain ⟨x,hx,e⟩:=allO_back h2 y hy
   exact ⟨x,List.mem_cons_of_mem _ hx,e⟩
def parseP (s:List UInt8):Option Co:=g0 (yD s)
def parseA (s:List UInt8):Option (List Co):=fD parseP (zD 44 [] s)
def qT (s:List UInt8):Option (List (List Co)):=fD parseA (xM [] s)
def kM (s:List UInt8):Option (List (List Co)):=if 96<s.length then none else (qT s).filter rgMay
def bK (s:List UInt8):Int:=if 96<s.length then 3 else match qT s with
 |none=>6
 |some r=>if fewR r then (if (kF r).length<=96 then 0 else 3) else 6
def blanks (n:Nat):List UInt8:=List.replicate n 32
theorem altsL_ne:∀ (s acc:List UInt8),xM acc s≠[]
 | [],acc=>by simp [xM]
 | [c],acc=>by simp [xM]
 |c::d::r,acc=>by
  rw [xM]
  split
  ·simp
  ·exact altsL_ne (d::r) _
theorem tY:∀ (s acc:List UInt8),∀ x∈xM acc s,x.length<=acc.length+s.length
 | [],acc,x,hx=>by
  have:x=acc:=by simpa [xM] using hx
  subst this;simp
 | [c],acc,x,hx=>by
  have:x=acc++[c]:=by simpa [xM] using hx
  subst this;simp
 |c::d::r,acc,x,hx=>by
  rw [xM] at hx
  split at hx
  ·rcases List.mem_cons.1 hx with rfl|hx
   ·simp only [List.length_cons];omega
   ·have:=tY r [] x hx
    simp only [List.length_cons,List.length_nil] at this ⊢;omega
  ·have:=tY (d::r) (acc++[c]) x hx
   simp only [List.length_append,List.length_cons,List.length_nil] at this ⊢;omega
theorem pT:∀ (s acc:List UInt8),(xM acc s).length<=s.length+1
 | [],acc=>by simp [xM]
 | [c],acc=>by simp [xM]
 |c::d::r,acc=>by
  rw [xM]
  split
  ·have:=pT r [];simp only [List.length_cons];omega
  ·have:=pT (d::r) (acc++[c]);simp only [List.length_cons] at this ⊢;omega
inductive Two {α β:Type} (R:α->β->Prop):List α->List β->Prop
 |nil:Two R [] []
 |cons {x:α} {y:β} {l:List α} {m:List β} (h:R x y) (t:Two R l m):Two R (x::l) (y::m)
def SpellC (s:List UInt8)(c:Co):Prop:=∃ n m,s=blanks n++c.text++blanks m
def SpellA (s:List UInt8)(a:List Co):Prop:=∃ ps,s=zG 44 ps/\Two SpellC ps a/\ps≠[]
def SpellR (s:List UInt8)(r:List (List Co)):Prop:=∃ l,s=jS [124,124] l/\Two SpellA l r/\l≠[]
theorem text_ne {c:Co}(h:c.may=true):c.text≠[]:=by
 intro e
 have:=(pL c.text c).2 ⟨h,.inl rfl⟩
 rw [e] at this
 revert this
 have:g0 []=none:=by decide
 rw [this];simp
theorem err_some {s:List UInt8}{r:List (List Co)}(h:kM s=some r):bK s=0/\rgMay r=true/\qT s=some r/\s.length<=96:=by
 unfold kM at h
 split at h
 ·cases h
 ·rename_i hl
  cases hp:qT s with
  |none=>rw [hp] at h;cases h
  |some q=>
   rw [hp] at h
   unfold Option.filter at h
   simp only at h
   split at h
   ·rename_i hm
    injection h with h
    subst h
    obtain ⟨k1,k2⟩:=rgMay.facts hm
    refine ⟨?_,hm,rfl,by omega⟩
    unfold bK
    rw [if_neg hl,hp]
    simp only
    rw [if_pos k1,if_pos k2]
   ·cases h
theorem err_none {s:List UInt8}(h:kM s=none):bK s=3\/bK s=6:=by
 unfold kM at h
 unfold bK
 split at h
 ·rename_i hl;rw [if_pos hl];exact .inl rfl
 ·rename_i hl
  rw [if_neg hl]
  cases hp:qT s with
  |none=>exact .inr rfl
  |some q=>
   rw [hp] at h
   simp only
   cases h1:fewR q with
   |false=>exact .inr rfl
   |true=>
    rw [if_pos rfl]
    by_cases h2:(kF q).length<=96
    ·exfalso
     have:rgMay q=true:=by unfold rgMay;rw [h1,decide_eq_true h2];rfl
     simp [Option.filter,this] at h
    ·rw [if_neg h2];exact .inl rfl
end
section
def xD (n:Nd):Bool:=decide (n.op=1) && decide (0<=n.key) && decide (n.key<3) && wdL n.text && decide (n.a=0) && decide (n.b=0)
def fB (n:Nd):Bool:=decide (n.key=0) && decide (n.text=[])
def jE (st:List (Nat×Tr))(n:Nd):Bool:=match st with
 |p::_=>decide (n.op=2) && fB n && decide (n.a=(p.1:Int)) && decide (n.b=0)
 | []=>false
def isBin (st:List (Nat×Tr))(n:Nd):Bool:=match st with
 |p::q::_=>(decide (n.op=3)||decide (n.op=4)) && fB n && decide (n.a=(q.1:Int)) && decide (n.b=(p.1:Int))
 |_=>false
def stp (i:Nat)(st:List (Nat×Tr))(n:Nd):Option (List (Nat×Tr)):=
 if xD n then some ((i,.is n.key.toNat n.text)::st)
 else if jE st n then (match st with|p::r=>some ((i,.no p.2)::r)| []=>none)
 else if isBin st n then (match st with|p::q::r=>some ((i,if n.op=3 then .both q.2 p.2 else .one q.2 p.2)::r)|_=>none)
 else none
def vE:Nat->List (Nat×Tr)->List Nd->Option (List (Nat×Tr))
 |_,st,[]=>some st
 |i,st,n::r=>match stp i st n with|some s=>vE (i+1) s r|none=>none
def vZ (l:List Nd):Option Tr:=match vE 0 [] l with
 |some [p]=>some p.2
 |_=>none
theorem nH:∀ (a b:List Nd) (i:Nat) (st s:List (Nat×Tr)),vE i st a=some s->vE i st (a++b)=vE (i+a.length) s b
 | [],b,i,st,s,h=>by rw [vE] at h;obtain rfl:=Option.some.inj h;rfl
 |n::a,b,i,st,s,h=>by
  rw [vE] at h
  rw [List.cons_append,vE]
  cases hs:stp i st n with
  |none=>rw [hs] at h;cases h
  |some s'=>
   rw [hs] at h
   have:=nH a b (i+1) s' s h
   show vE (i+1) s' (a++b)=_
   rw [this,List.length_cons,show i+1+a.length=i+(a.length+1) by omega]
theorem stp_bare {o i j:Nat}{st:List (Nat×Tr)}{n:Nd}(h:n.op≠1):xD n=false:=by
 unfold xD;rw [decide_eq_false h];rfl
theorem pG:∀ (t:Tr) (o:Nat) (st:List (Nat×Tr)),t.ok=true->vE o st (t.enc o)=some ((o+t.sz-1,t)::st)
 | .is k v,o,st,h=>by
  unfold Tr.ok at h
  simp only [Bool.and_eq_true,decide_eq_true_eq] at h
  have hl:xD ⟨1,0,0,(k:Int),v⟩=true:=by unfold xD;simp [h.2];omega
  show vE o st [⟨1,0,0,(k:Int),v⟩]=_
  have hs:stp o st ⟨1,0,0,(k:Int),v⟩=some ((o,.is k v)::st):=by unfold stp;rw [if_pos hl];simp
  rw [vE,hs]
  simp [vE,Tr.sz]
 | .no x,o,st,h=>by
  have hx:x.ok=true:=h
  have ih:=pG x o st hx
  have hz:=x.sz_pos
  rw [Tr.enc,nH _ _ _ _ _ ih,Tr.enc_len,vE,stp,if_neg (by rw [stp_bare (o:=0) (i:=0) (j:=0) (st:=[])]<;>simp)]
  have hn:jE ((o+x.sz-1,x)::st) ⟨2,((o+x.sz-1:Nat):Int),0,0,[]⟩=true:=by unfold jE fB;simp
  rw [if_pos hn]
  show vE _ _ []=_
  rw [vE,show o+x.sz=o+(Tr.no x).sz-1 from by show _=o+(x.sz+1) -1;omega]
 | .both x y,o,st,h=>by
  unfold Tr.ok at h
  rw [Bool.and_eq_true] at h
  have hx:=pG x o st h.1
  have hy:=pG y (o+x.sz) ((o+x.sz-1,x)::st) h.2
  have hz:=x.sz_pos
  have hz2:=y.sz_pos
  rw [Tr.enc,List.append_assoc,nH _ _ _ _ _ hx,Tr.enc_len,nH _ _ _ _ _ hy,Tr.enc_len,vE,stp,if_neg (by rw [stp_bare (o:=0) (i:=0) (j:=0) (st:=[])]<;>simp)]
  have hn:jE ((o+x.sz+y.sz-1,y)::(o+x.sz-1,x)::st) ⟨3,((o+x.sz-1:Nat):Int),((o+x.sz+y.sz-1:Nat):Int),0,[]⟩=false:=by unfold jE;simp
  have hb:isBin ((o+x.sz+y.sz-1,y)::(o+x.sz-1,x)::st) ⟨3,((o+x.sz-1:Nat):Int),((o+x.sz+y.sz-1:Nat):Int),0,[]⟩=true:=by unfold isBin fB;simp
  rw [if_neg (by rw [hn];simp),if_pos hb]
  show vE _ _ []=_
  rw [vE,show o+x.sz+y.sz=o+(Tr.both x y).sz-1 from by show _=o+(x.sz+y.sz+1) -1;omega];rfl
 | .one x y,o,st,h=>by
  unfold Tr.ok at h
  rw [Bool.and_eq_true] at h
  have hx:=pG x o st h.1
  have hy:=pG y (o+x.sz) ((o+x.sz-1,x)::st) h.2
  have hz:=x.sz_pos
  have hz2:=y.sz_pos
  rw [Tr.enc,List.append_assoc,nH _ _ _ _ _ hx,Tr.enc_len,nH _ _ _ _ _ hy,Tr.enc_len,vE,stp,if_neg (by rw [stp_bare (o:=0) (i:=0) (j:=0) (st:=[])]<;>simp)]
  have hn:jE ((o+x.sz+y.sz-1,y)::(o+x.sz-1,x)::st) ⟨4,((o+x.sz-1:Nat):Int),((o+x.sz+y.sz-1:Nat):Int),0,[]⟩=false:=by unfold jE;simp
  have hb:isBin ((o+x.sz+y.sz-1,y)::(o+x.sz-1,x)::st) ⟨4,((o+x.sz-1:Nat):Int),((o+x.sz+y.sz-1:Nat):Int),0,[]⟩=true:=by unfold isBin fB;simp
  rw [if_neg (by rw [hn];simp),if_pos hb]
  show vE _ _ []=_
  rw [vE,show o+x.sz+y.sz=o+(Tr.one x y).sz-1 from by show _=o+(x.sz+y.sz+1) -1;omega];rfl
def Lies:List (Nat×Tr)->List Nd->Prop
 | [],l=>l=[]
 |p::r,l=>∃ l0,Lies r l0/\p.2.ok=true/\p.1=l0.length+p.2.sz-1/\l=l0++p.2.enc l0.length
theorem stp_lies {st s:List (Nat×Tr)}{l:List Nd}{n:Nd}(h:Lies st l)(hs:stp l.length st n=some s):Lies s (l++[n]):=by
 unfold stp at hs
 split at hs
 ·rename_i hl
  obtain rfl:=Option.some.inj hs
  unfold xD at hl
  simp only [Bool.and_eq_true,decide_eq_true_eq] at hl
  obtain ⟨⟨⟨⟨⟨h1,h2⟩,h3⟩,h4⟩,h5⟩,h6⟩:=hl
  refine ⟨l,h, ?_, ?_, ?_⟩
  ·show Tr.ok (.is n.key.toNat n.text)=true
   unfold Tr.ok;simp [h4];omega
  ·show l.length=l.length+1-1;omega
  ·show l++[n]=l++[⟨1,0,0,((n.key.toNat:Nat):Int),n.text⟩]
   obtain ⟨op,a,b,key,text⟩:=n
   simp only at h1 h2 h3 h4 h5 h6
   subst h1;subst h5;subst h6
   rw [Int.toNat_of_nonneg h2]
 ·split at hs
  ·rename_i hl
   match st,hs,hl,h with
   |p::r,hs,hl,h=>
    simp only [Option.some.injEq] at hs
    subst hs
    unfold jE fB at hl
    simp only [Bool.and_eq_true,decide_eq_true_eq] at hl
    obtain ⟨⟨⟨h1,h2,h3⟩,h4⟩,h5⟩:=hl
    obtain ⟨l0,hr,hok,hp,rfl⟩:=h
    refine ⟨l0,hr,hok, ?_, ?_⟩
    ·show (l0++p.2.enc l0.length).length=l0.length+(p.2.sz+1) -1
     rw [List.length_append,Tr.enc_len];omega
    ·show l0++p.2.enc l0.length++[n]=l0++(p.2.enc l0.length++[⟨2,((l0.length+p.2.sz-1:Nat):Int),0,0,[]⟩])
     obtain ⟨op,a,b,key,text⟩:=n
     simp only at h1 h2 h3 h4 h5
     subst h1;subst h2;subst h3;subst h4;subst h5
     rw [List.append_assoc,hp]
  ·split at hs
   ·rename_i hl
    match st,hs,hl,h with
    |p::q::r,hs,hl,h=>
     simp only [Option.some.injEq] at hs
     subst hs
     unfold isBin fB at hl
     simp only [Bool.and_eq_true,Bool.or_eq_true,decide_eq_true_eq] at hl
     obtain ⟨⟨⟨h1,h2,h3⟩,h4⟩,h5⟩:=hl
     obtain ⟨l1,⟨l0,hr,hok,hq,rfl⟩,hok2,hp,rfl⟩:=h
     have hz:=q.2.sz_pos
     have hl1:(l0++q.2.enc l0.length).length=l0.length+q.2.sz:=by rw [List.length_append,Tr.enc_len]
     rw [hl1] at hp ⊢
     obtain ⟨op,a,b,key,text⟩:=n
     simp only at h1 h2 h3 h4 h5
     subst h2;subst h3;subst h4;subst h5
     rcases h1 with h1|h1
     ·subst h1
      refine ⟨l0,hr, ?_, ?_, ?_⟩
      ·show (Tr.both q.2 p.2).ok=true
       unfold Tr.ok;rw [hok,hok2];rfl
      ·show (l0++q.2.enc l0.length++p.2.enc (l0.length+q.2.sz)).length=l0.length+(q.2.sz+p.2.sz+1) -1
       rw [List.length_append,List.length_append,Tr.enc_len,Tr.enc_len];omega
      ·show l0++q.2.enc l0.length++p.2.enc (l0.length+q.2.sz)++[_]=l0++(q.2.enc l0.length++p.2.enc (l0.length+q.2.sz)++[_])
       rw [hq,hp];simp
     ·subst h1
      refine ⟨l0,hr, ?_, ?_, ?_⟩
      ·show (Tr.one q.2 p.2).ok=true
       unfold Tr.ok;rw [hok,hok2];rfl
      ·show (l0++q.2.enc l0.length++p.2.enc (l0.length+q.2.sz)).length=l0.length+(q.2.sz+p.2.sz+1) -1
       rw [List.length_append,List.length_append,Tr.enc_len,Tr.enc_len];omega
      ·show l0++q.2.enc l0.length++p.2.enc (l0.length+q.2.sz)++[_]=l0++(q.2.enc l0.length++p.2.enc (l0.length+q.2.sz)++[_])
       rw [hq,hp];simp
   ·cases hs
theorem run_lies:∀ (r l:List Nd) (st s:List (Nat×Tr)),Lies st l->vE l.length st r=some s->Lies s (l++r)
 | [],l,st,s,h,hs=>by rw [vE] at hs;obtain rfl:=Option.some.inj hs;rw [List.append_nil];exact h
 |n::r,l,st,s,h,hs=>by
  rw [vE] at hs
  cases hq:stp l.length st n with
  |none=>rw [hq] at hs;cases hs
  |some s1=>
   rw [hq] at hs
   have h1:=stp_lies h hq
   have:=run_lies r (l++[n]) s1 s h1 (by rw [List.length_append];exact hs)
   rw [List.append_assoc] at this
   exact this
theorem treeOf_iff {l:List Nd}{t:Tr}:vZ l=some t↔t.ok=true/\l=t.enc 0:=by
 constructor
 ·intro h
  unfold vZ at h
  cases hr:vE 0 [] l with
  |none=>rw [hr] at h;cases h
  |some s=>
   rw [hr] at h
   match s,h with
   | [p],h=>
    obtain rfl:=Option.some.inj h
    obtain ⟨l0,hl0,hok,_,e⟩:=run_lies l [] [] [p] rfl hr
    have:l0=[]:=hl0
    subst this
    exact ⟨hok,e⟩
 ·rintro ⟨h,rfl⟩
  unfold vZ
  rw [pG t 0 [] h]
theorem fX {t:Tr}(h:t.ok=true):vZ (t.enc 0)=some t:=treeOf_iff.2 ⟨h,rfl⟩
def dU (l:List Nd):Bool:=match vZ l with
 |some t=>decide (t.sz<=15) && decide (t.text.length<=96)
 |none=>decide (l=[])
theorem pO {l:List Nd}(h:dU l=true):l=[]∨∃ t:Tr,t.ok=true/\l=t.enc 0/\t.sz<=15/\t.text.length<=96:=by
 unfold dU at h
 cases ht:vZ l with
 |none=>rw [ht] at h;exact .inl (of_decide_eq_true h)
 |some t=>
  rw [ht] at h
  simp only [Bool.and_eq_true,decide_eq_true_eq] at h
  have:=treeOf_iff.1 ht
  exact .inr ⟨t,this.1,this.2,h.1,h.2⟩
theorem mayM_enc {t:Tr}(h:t.ok=true):dU (t.enc 0)=(decide (t.sz<=15) && decide (t.text.length<=96)):=by unfold dU;rw [fX h]
abbrev Pf:=Nat->List UInt8
def evT (e:Pf):Tr->Int
 | .is k t=>if e k=[] then 1 else if e k=t then 2 else 0
 | .no x=>2-evT e x
 | .both x y=>min (evT e x) (evT e y)
 | .one x y=>max (evT e x) (evT e y)
def vlT (e:Pf):Tr->List Int
 | .is k t=>[evT e (.is k t)]
 | .no x=>vlT e x++[evT e (.no x)]
 | .both x y=>vlT e x++vlT e y++[evT e (.both x y)]
 | .one x y=>vlT e x++vlT e y++[evT e (.one x y)]
def Ext (e g:Pf):Prop:=∀ k,e k≠[]->g k=e k
def leftT (e:Pf):Tr->Tr
 | .is k t=> .is k t
 | .no x=> .no (leftT e x)
 | .both x y=>if evT e y≠1 then leftT e x else if evT e x≠1 then leftT e y else .both (leftT e x) (leftT e y)
 | .one x y=>if evT e y≠1 then leftT e x else if evT e x≠1 then leftT e y else .one (leftT e x) (leftT e y)
def Asks (p:Nat->Prop):Tr->Prop
 | .is k _=>p k
 | .no x=>Asks p x
 | .both x y=>Asks p x/\Asks p y
 | .one x y=>Asks p x/\Asks p y
def truthT (e:Pf):Tr->Bool
 | .is k t=>decide (e k=t)
 | .no x=> !truthT e x
 | .both x y=>truthT e x && truthT e y
 | .one x y=>truthT e x||truthT e y
end
section
def tl:List Tok->Nat
 | []=>0
 |x::r=>x.length+1+tl r
theorem tl_app:∀ a b:List Tok,tl (a++b)=tl a+tl b
 | [],b=>by simp [tl]
 |x::a,b=>by rw [List.cons_append,tl,tl,tl_app a b];omega
theorem tl_join:∀ l:List Tok,l≠[]->(zG 32 l).length+1=tl l
 | [],h=>absurd rfl h
 | [x],_=>by simp [zG,tl]
 |x::y::r,_=>by
  have:=tl_join (y::r) (by simp)
  rw [zG,tl,←this];simp;omega
theorem tl_wrap (c:Bool)(l:List Tok):tl (gZ c l)=tl l+if c then 4 else 0:=by
 unfold gZ
 cases c with
 |false=>simp
 |true=>simp [tl,tl_app,x5,x7];omega
def Tr.w (t:Tr):Nat:=tl t.tok
def Tr.w1 (t:Tr):Nat:=t.w+if t.isOne then 4 else 0
def Tr.w2 (t:Tr):Nat:=t.w+if t.isBin then 4 else 0
theorem Tr.text_w (t:Tr):t.text.length+1=t.w:=tl_join _ t.tok_ne
theorem Tr.w_le (t:Tr):t.w<=t.w1/\t.w1<=t.w2/\t.w2<=t.w+4:=by
 unfold Tr.w1 Tr.w2
 cases t<;>simp [Tr.isOne,Tr.isBin]
theorem w_both (x y:Tr):(Tr.both x y).w=x.w1+4+y.w2:=by
 unfold Tr.w Tr.w1 Tr.w2 Tr.w
 rw [Tr.tok,tl_app,tl_wrap,tl,tl_wrap];simp [bN];omega
theorem w_one (x y:Tr):(Tr.one x y).w=x.w+3+y.w1:=by
 unfold Tr.w Tr.w1 Tr.w
 rw [Tr.tok,tl_app,tl,tl_wrap];simp [tOr];omega
theorem w_is (k:Nat)(t:Tok):(Tr.is k t).w=(x1 k).length+t.length+4:=by
 unfold Tr.w
 rw [Tr.tok];simp [tl,tEq];omega
theorem w_no (x:Tr):(Tr.no x).w<=x.w2+4/\x.w+1<=(Tr.no x).w:=by
 cases x with
 |is k t=>
  have:=w_is k t
  unfold Tr.w2
  have e:(Tr.no (.is k t)).w=(x1 k).length+t.length+5:=by unfold Tr.w;rw [Tr.tok];simp [tl,tNe];omega
  simp [Tr.isBin];omega
 |no y=>unfold Tr.w2 Tr.w;rw [show (Tr.no (.no y)).tok=qM::(Tr.no y).tok from rfl,tl];simp [Tr.isBin,qM];omega
 |both y z=>unfold Tr.w2 Tr.w;rw [show (Tr.no (.both y z)).tok=qM::gZ true (Tr.both y z).tok from rfl,tl,tl_wrap];simp [Tr.isBin,qM];omega
 |one y z=>unfold Tr.w2 Tr.w;rw [show (Tr.no (.one y z)).tok=qM::gZ true (Tr.one y z).tok from rfl,tl,tl_wrap];simp [Tr.isBin,qM];omega
def qF (l:List Nd):List UInt8:=if dU l then (match vZ l with|some t=>t.text|none=>[]) else []
def zV (s:List UInt8):List Tok:=zD 32 [] s
def Tr.fit (t:Tr):Bool:=decide (t.sz<=15) && decide (t.text.length<=96)
def gG (s:List UInt8):Option Tr:=match pOr (zV s).length (zV s) with
 |some (t,[])=>if t.fit then some t else none
 |_=>none
def nW (s:List UInt8):Int:=if 96<s.length then 3 else if s=[] then 0 else match gG s with|some _=>0|none=>7
def gI (s:List UInt8):List Nd:=if 96<s.length then [] else if s=[] then [] else match gG s with|some t=>t.enc 0|none=>[]
def pfOk (e:Pf):Bool:=(decide (e 0=[])||wdL (e 0)) && (decide (e 1=[])||wdL (e 1)) && (decide (e 2=[])||wdL (e 2))
def evalM (l:List Nd)(e:Pf):Int:=if dU l && pfOk e then (match vZ l with|some t=>evT e t|none=>2) else 0
def underM (l:List Nd)(e:Pf):List Nd:=if evalM l e=1 then (match vZ l with|some t=>(leftT e t).enc 0|none=>[]) else []
theorem fit_may {t:Tr}(h:t.ok=true):dU (t.enc 0)=t.fit:=by rw [mayM_enc h];rfl
theorem printM_enc {t:Tr}(h:t.ok=true)(hf:t.fit=true):qF (t.enc 0)=t.text:=by
 unfold qF
 rw [fit_may h,hf,fX h];rfl
theorem wordGo_no {b:UInt8}(hb:wdB b.toNat=false):∀ (l:List UInt8),gO l=true->b∉l
 | [],_=>by simp
 |c::r,h=>by
  have hc:wdB c.toNat=true:=by
   unfold gO at h
   unfold wdB
   rw [Bool.and_eq_true] at h;exact h.1
  rw [bW c r hc] at h
  intro hm
  rcases List.mem_cons.1 hm with e|hm
  ·subst e;rw [hb] at hc;cases hc
  ·exact wordGo_no hb r h hm
theorem wdL_no {s:List UInt8}{b:UInt8}(hb:wdB b.toNat=false)(h:wdL s=true):b∉s:=by
 unfold wdL at h
 rw [Bool.and_eq_true] at h;exact wordGo_no hb s h.2
theorem text10_ne (t:Tr):t.text≠[]:=by
 intro e
 have h:=t.text_w
 rw [e] at h
 have:∀ t:Tr,5<=t.w:=λt=>by
  induction t with
  |is k v=>rw [w_is];unfold x1;split<;>(try split)<;>simp<;>omega
  |no x ih=>have:=(w_no x).2;omega
  |both x y ihx ihy=>rw [w_both];have:=y.w_le;omega
  |one x y ihx ihy=>rw [w_one];omega
 have:=this t
 simp at h;omega
def Oks (part:List Tok->Option (Tr×List Tok)):Prop:=∀ ts t r,part ts=some (t,r)->t.ok=true
theorem pLoop_ok {part:List Tok->Option (Tr×List Tok)}(hp:Oks part)(w:Tok){mk:Tr->Tr->Tr}(hmk:∀ a b,a.ok=true->b.ok=true->(mk a b).ok=true):∀ (k:Nat) (a:Tr) (ts:List Tok) (t:Tr) (r:List Tok),a.ok=true->jQ part w mk k a ts=some (t,r)->t.ok=true
 |0,a,ts,t,r,ha,h=>by simp only [jQ,Option.some.injEq,Prod.mk.injEq] at h;rw [←h.1];exact ha
 |k+1,a,[],t,r,ha,h=>by simp only [jQ,Option.some.injEq,Prod.mk.injEq] at h;rw [←h.1];exact ha
 |k+1,a,c::q,t,r,ha,h=>by
  rw [jQ] at h
  split at h
  ·cases hq:part q with
   |none=>rw [hq] at h;cases h
   |some x=>
    obtain ⟨b,r'⟩:=x
    rw [hq] at h
    exact pLoop_ok hp w hmk k (mk a b) r' t r (hmk a b ha (hp _ _ _ hq)) h
  ·simp only [Option.some.injEq,Prod.mk.injEq] at h;rw [←h.1];exact ha
theorem pChain_ok {part:List Tok->Option (Tr×List Tok)}(hp:Oks part)(w:Tok){mk:Tr->Tr->Tr}(hmk:∀ a b,a.ok=true->b.ok=true->(mk a b).ok=true):Oks (gH part w mk):=λts t r h=>by
 unfold gH at h
 cases hq:part ts with
 |none=>rw [hq] at h;cases h
 |some x=>
  obtain ⟨a,r'⟩:=x
  rw [hq] at h
  exact pLoop_ok hp w hmk _ _ _ _ _ (hp _ _ _ hq) h
theorem both_ok {a b:Tr}(ha:a.ok=true)(hb:b.ok=true):(Tr.both a b).ok=true:=by unfold Tr.ok;rw [ha,hb];rfl
theorem one_ok {a b:Tr}(ha:a.ok=true)(hb:b.ok=true):(Tr.one a b).ok=true:=by unfold Tr.ok;rw [ha,hb];rfl
theorem keyN_lt {c:Tok}{n:Nat}(h:keyN c=some n):n<3/\x1 n=c:=by
 unfold keyN at h
 split at h
 ·rename_i e;obtain rfl:=Option.some.inj h;exact ⟨by decide,e.symm⟩
 ·split at h
  ·rename_i e;obtain rfl:=Option.some.inj h;exact ⟨by decide,e.symm⟩
  ·split at h
   ·rename_i e;obtain rfl:=Option.some.inj h;exact ⟨by decide,e.symm⟩
   ·cases h
theorem atom_ok {k s v:Tok}{t:Tr}(h:bD k s v=some t):t.ok=true:=by
 unfold bD at h
 cases hk:keyN k with
 |none=>rw [hk] at h;cases h
 |some n=>
  rw [hk] at h
  have hn:=(keyN_lt hk).1
  simp only at h
  split at h
  ·rename_i hv
   have ho:(Tr.is n v).ok=true:=by unfold Tr.ok;rw [decide_eq_true hn,hv];rfl
   split at h
   ·obtain rfl:=Option.some.inj h;exact ho
   ·split at h
    ·obtain rfl:=Option.some.inj h;exact ho
    ·cases h
  ·cases h
theorem pFac_ok:∀ n,Oks (qU n)
 |0=>λts t r h=>by cases h
 |n+1=>λts t r h=>by
  have ih:=pFac_ok n
  cases ts with
  |nil=>cases h
  |cons c q=>
   rw [qU] at h
   split at h
   ·cases hq:qU n q with
    |none=>rw [hq] at h;cases h
    |some x=>
     obtain ⟨a,r'⟩:=x
     rw [hq] at h
     simp only [pNo,Option.some.injEq,Prod.mk.injEq] at h
     have ha:a.ok=true:=ih _ _ _ hq
     rw [←h.1];exact ha
   ·split at h
    ·cases hq:gH (gH (qU n) bN .both) tOr .one q with
     |none=>rw [hq] at h;cases h
     |some x=>
      obtain ⟨a,r'⟩:=x
      rw [hq] at h
      have h1:=pChain_ok (pChain_ok ih bN (λa b=>both_ok)) tOr (λa b=>one_ok) _ _ _ hq
      cases r' with
      |nil=>cases h
      |cons d r2=>
       rw [n4] at h
       split at h
       ·simp only [Option.some.injEq,Prod.mk.injEq] at h;rw [←h.1];exact h1
       ·cases h
    ·match q,h with
     |s::v::q,h=>
      rw [vI] at h
      cases ha:bD c s v with
      |none=>rw [ha] at h;cases h
      |some x=>rw [ha] at h;simp only [Option.some.injEq,Prod.mk.injEq] at h;rw [←h.1];exact atom_ok ha
     | [],h=>cases h
     | [s],h=>cases h
theorem pOr_ok (n:Nat):Oks (pOr n):=pChain_ok (pChain_ok (pFac_ok n) bN (λa b=>both_ok)) tOr (λa b=>one_ok)
theorem readM_ok {s:List UInt8}{t:Tr}(h:gG s=some t):t.ok=true/\t.fit=true:=by
 unfold gG at h
 split at h
 ·rename_i t' hq
  split at h
  ·rename_i hf;obtain rfl:=Option.some.inj h;exact ⟨pOr_ok _ _ _ _ hq,hf⟩
  ·cases h
 ·cases h
theorem dX (b:UInt8):∀ (x y:List (List UInt8)),x≠[]->y≠[]->zG b (x++y)=zG b x++b::zG b y
 | [],_,h,_=>absurd rfl h
 | [a],[],_,h=>absurd rfl h
 | [a],c::y,_,_=>rfl
 |a::a2::x,y,_,h=>by
  rw [List.cons_append,List.cons_append,zG,←List.cons_append,dX b (a2::x) y (by simp) h,zG];simp
end
section
def kA (s:List UInt8):Bool:=decide (bK s=0) && decide (jN ((kM s).getD [])=s)
def x4 (s:List UInt8):Bool:=decide (nW s=0) && decide (qF (gI s)=s)
def dG (l:List (List UInt8))(alone:Bool):Bool:=l.all wdL && decide (l.length<=6) && qK l && (alone||decide (l=[]))
def gM (own:List UInt8)(x:Wt)(alone:Bool):Int:=
 if nmL x.name=false then 4 else if x.name=own then 8 else if kA x.rng=false then 6 else if dG x.fs alone=false then 11 else 0
def yR {α:Type}(f:α->Int):List α->Int
 | []=>0
 |a::r=>if f a=0 then yR f r else f a
theorem dZ {α:Type}{f:α->Int}:∀ {l:List α},(∀ x∈l,f x=0)->yR f l=0
 | [],_=>rfl
 |a::r,h=>by rw [yR,if_pos (h a (List.mem_cons_self ..)),dZ λx hx=>h x (List.mem_cons_of_mem _ hx)]
theorem nT {α:Type}{f:α->Int}:∀ {l:List α} {i:Nat} (hi:i<l.length),(∀ x∈l.take i,f x=0)->f l[i]≠0->yR f l=f l[i]
 |a::r,0,_,_,h=>by
  have h':f a≠0:=h
  rw [yR,if_neg h'];rfl
 |a::r,i+1,hi,h0,h=>by
  rw [yR,if_pos (h0 a (by simp))]
  exact nT (l:=r) (i:=i) (by simpa using hi) (λx hx=>h0 x (by rw [List.take_succ_cons];exact List.mem_cons_of_mem _ hx)) h
theorem firstE_map {α β:Type}(f:β->Int)(g:α->β):∀ l:List α,yR f (l.map g)=yR (λx=>f (g x)) l
 | []=>rfl
 |a::r=>by rw [List.map_cons,yR,yR,firstE_map f g r]
def kW {α:Type}(f:α->Int):Nat->List α->Int×Int
 |_,[]=>(0,0)
 |k,a::r=>if f a=0 then kW f (k+1) r else (f a,(k:Int))
theorem jG {α:Type}{f:α->Int}:∀ {l:List α} {k:Nat},(∀ x∈l,f x=0)->kW f k l=(0,0)
 | [],_,_=>rfl
 |a::r,k,h=>by rw [kW,if_pos (h a (List.mem_cons_self ..)),jG λx hx=>h x (List.mem_cons_of_mem _ hx)]
theorem d8 {α:Type}{f:α->Int}:∀ {l:List α} {i:Nat} (k:Nat) (hi:i<l.length),(∀ x∈l.take i,f x=0)->f l[i]≠0->kW f k l=(f l[i],((k+i:Nat):Int))
 |a::r,0,k,_,_,h=>by
  have h':f a≠0:=h
  rw [kW,if_neg h'];rfl
 |a::r,i+1,k,hi,h0,h=>by
  rw [kW,if_pos (h0 a (by simp)),d8 (l:=r) (i:=i) (k+1) (by simpa using hi) (λx hx=>h0 x (by rw [List.take_succ_cons];exact List.mem_cons_of_mem _ hx)) h,show k+1+i=k+(i+1) by omega];rfl
theorem pQ {α β:Type}(f:β->Int)(g:α->β):∀ (l:List α) (k:Nat),kW f k (l.map g)=kW (λx=>f (g x)) k l
 | [],_=>rfl
 |a::r,k=>by rw [List.map_cons,kW,kW,pQ f g r]
def gN (own:List UInt8)(n:Nt):Int:=
 if n.any=[] then 9 else if 3<n.any.length then 3 else if yR (λx=>gM own x (decide (n.any.length=1))) n.any≠0 then yR (λx=>gM own x (decide (n.any.length=1))) n.any
 else if x4 n.wh=false then 7 else if n.opt≠[]/\wdL n.opt=false then 14 else 0
def wR (own:List UInt8)(b:Bt):Int:=
 if nmL b.name=false then 4 else if b.name=own then 8 else if kA b.rng=false then 6 else if x4 b.wh=false then 7 else 0
def optR (l:List Nt)(s:List UInt8):Bool:=l.any λn=>decide (n.opt=s)
def pulN (s:List UInt8)(n:Nt):Bool:=match n.any with
 | [x]=>decide (x.name=s)
 |_=>false
def pulR (l:List Nt)(s:List UInt8):Bool:=l.any (pulN s)
def xK (l:List Nt)(s:List UInt8):Int:=
 if (zM s).1=2/\optR l (wordOf s)=false then 14 else if (zM s).1=3/\pulR l (wordOf s)=false then 16 else 0
def kZ (r:Rt):Int×Int:=
 if (kW (gN r.name) 0 r.needs).1≠0 then kW (gN r.name) 0 r.needs
 else if (kW (wR r.name) 0 r.bars).1≠0 then kW (wR r.name) 0 r.bars
 else if d4 r.fts=false then (11,0)
 else kW (λf:Ft=>yR (xK r.needs) f.of) 0 r.fts
def zT (r:Rt):Int×Int:=
 if nmL r.name=false then (4,0) else if r.ver.may=false then (5,0) else if 8<r.needs.length\/8<r.bars.length then (3,0)
 else if (kZ r).1≠0 then kZ r else if 4096<(xH r).length then (3,0) else (0,0)
end
section
theorem firstE_zero {α:Type}{f:α->Int}:∀ {l:List α},yR f l=0→∀ x∈l,f x=0
 | [],_,x,h=>by cases h
 |a::r,h,x,hx=>by
  by_cases h0:f a=0
  ·rw [yR,if_pos h0] at h
   rcases List.mem_cons.1 hx with rfl|hx
   ·exact h0
   ·exact firstE_zero h x hx
  ·rw [yR,if_neg h0] at h;exact absurd h h0
theorem mS {α:Type}{f:α->Int}:∀ {l:List α} {k:Nat},(kW f k l).1=0→∀ x∈l,f x=0
 | [],_,_,x,h=>by cases h
 |a::r,k,h,x,hx=>by
  by_cases h0:f a=0
  ·rw [kW,if_pos h0] at h
   rcases List.mem_cons.1 hx with rfl|hx
   ·exact h0
   ·exact mS h x hx
  ·rw [kW,if_neg h0] at h;exact absurd h h0
theorem fm_most {α:Type}(f:α->List UInt8)(k:Nat):∀ {l:List α},(∀ x∈l,(f x).length<=k)->(l.flatMap f).length<=l.length*k
 | [],_=>by simp
 |a::r,h=>by
  have h1:=h a (List.mem_cons_self ..)
  have h2:=fm_most f k (l:=r) λx hx=>h x (List.mem_cons_of_mem _ hx)
  rw [List.flatMap_cons,List.length_append,List.length_cons,Nat.add_mul];omega
theorem jn_most (b:UInt8)(k:Nat):∀ {l:List (List UInt8)},(∀ x∈l,x.length<=k)->(zG b l).length<=l.length*(k+1)
 | [],_=>by simp [zG]
 | [a],h=>by
  have h1:=h a (List.mem_cons_self ..)
  rw [zG];simp only [List.length_cons,List.length_nil];omega
 |a::c::r,h=>by
  have h1:=h a (List.mem_cons_self ..)
  have h2:=jn_most b k (l:=c::r) λx hx=>h x (List.mem_cons_of_mem _ hx)
  rw [zG,List.length_append,List.length_cons,List.length_cons,Nat.add_mul];omega
theorem nm_short {s:List UInt8}(h:nmL s=true):s.length<=16:=by
 unfold nmL m8 at h
 simp only [Bool.and_eq_true,decide_eq_true_eq] at h
 have:=h.1
 rwa [bI] at this
theorem wd_short {s:List UInt8}(h:wdL s=true):s.length<=12:=by unfold wdL at h;simp only [Bool.and_eq_true,decide_eq_true_eq] at h;omega
theorem pg_short {s:List UInt8}(h:kA s=true):s.length<=96:=by
 unfold kA bK at h
 simp only [Bool.and_eq_true,decide_eq_true_eq] at h
 have h1:=h.1
 split at h1
 ·exact absurd h1 (by decide)
 ·omega
theorem pm_short {s:List UInt8}(h:x4 s=true):s.length<=96:=by
 unfold x4 nW at h
 simp only [Bool.and_eq_true,decide_eq_true_eq] at h
 have h1:=h.1
 split at h1
 ·exact absurd h1 (by decide)
 ·omega
theorem whenT_short {s:List UInt8}(h:x4 s=true):(v8 s).length<=102:=by
 have:=pm_short h
 unfold v8
 split
 ·simp
 ·simp only [List.length_append,pA,List.length_cons,List.length_nil];omega
theorem wish_fine {own:List UInt8}{x:Wt}{al:Bool}(h:gM own x al=0):nmL x.name=true/\kA x.rng=true/\dG x.fs al=true:=by
 unfold gM at h
 cases h1:nmL x.name
 ·rw [if_pos h1] at h;simp at h
 ·rw [if_neg (by simp [h1])] at h
  split at h
  ·simp at h
  ·cases h2:kA x.rng
   ·rw [if_pos h2] at h;simp at h
   ·rw [if_neg (by simp [h2])] at h
    cases h3:dG x.fs al
    ·rw [if_pos h3] at h;simp at h
    ·exact ⟨rfl,rfl,rfl⟩
theorem wishT_short {own:List UInt8}{x:Wt}{al:Bool}(h:gM own x al=0):(kI x).length<=250:=by
 obtain ⟨h1,h2,h3⟩:=wish_fine h
 have k1:=nm_short h1
 have k2:=pg_short h2
 have k3:(bF x.fs).length<=79:=by
  unfold dG at h3
  simp only [Bool.and_eq_true,decide_eq_true_eq,List.all_eq_true] at h3
  unfold bF
  split
  ·simp
  ·have:=jn_most 44 12 (l:=x.fs) λs hs=>wd_short (h3.1.1.1 s hs)
   have:=h3.1.1.2;omega
 have k4:(dW x.bare).length=4:=by unfold dW;cases x.bare<;>rfl
 unfold kI
 simp only [List.length_append,txAny,List.length_cons,List.length_nil];omega
theorem need_fine {own:List UInt8}{n:Nt}(h:gN own n=0):n.any≠[]/\n.any.length<=3/\(∀ x∈n.any,gM own x (decide (n.any.length=1))=0)/\x4 n.wh=true/\(n.opt=[]\/wdL n.opt=true):=by
 unfold gN at h
 by_cases h1:n.any=[]
 ·rw [if_pos h1] at h;simp at h
 ·rw [if_neg h1] at h
  by_cases h2:3<n.any.length
  ·rw [if_pos h2] at h;simp at h
  ·rw [if_neg h2] at h
   by_cases h3:yR (λx=>gM own x (decide (n.any.length=1))) n.any=0
   ·rw [if_neg (by simp [h3])] at h
    cases h4:x4 n.wh
    ·rw [if_pos h4] at h;simp at h
    ·rw [if_neg (by simp [h4])] at h
     refine ⟨h1,by omega,firstE_zero h3,rfl, ?_⟩
     by_cases h5:n.opt=[]
     ·exact .inl h5
     ·cases h6:wdL n.opt
      ·rw [if_pos ⟨h5,h6⟩] at h;simp at h
      ·exact .inr rfl
   ·rw [if_pos h3] at h;exact absurd h h3
theorem needT_short {own:List UInt8}{n:Nt}(h:gN own n=0):(kN n).length<=900:=by
 obtain ⟨_,h2,h3,h4,h5⟩:=need_fine h
 have k1:=fm_most kI 250 (l:=n.any) λx hx=>wishT_short (h3 x hx)
 have k2:=whenT_short h4
 have k3:(tM n.opt).length<=20:=by
  unfold tM
  split
  ·simp
  ·rcases h5 with e|e
   ·contradiction
   ·have:=wd_short e
    simp only [List.length_append,txOpt,List.length_cons,List.length_nil];omega
 unfold kN
 simp only [List.length_append,txNeed,List.length_cons,List.length_nil];omega
theorem bar_fine {own:List UInt8}{b:Bt}(h:wR own b=0):nmL b.name=true/\kA b.rng=true/\x4 b.wh=true:=by
 unfold wR at h
 cases h1:nmL b.name
 ·rw [if_pos h1] at h;simp at h
 ·rw [if_neg (by simp [h1])] at h
  split at h
  ·simp at h
  ·cases h2:kA b.rng
   ·rw [if_pos h2] at h;simp at h
   ·rw [if_neg (by simp [h2])] at h
    cases h3:x4 b.wh
    ·rw [if_pos h3] at h;simp at h
    ·exact ⟨rfl,rfl,rfl⟩
theorem barT_short {own:List UInt8}{b:Bt}(h:wR own b=0):(wQ b).length<=300:=by
 obtain ⟨h1,h2,h3⟩:=bar_fine h
 have k1:=nm_short h1
 have k2:=pg_short h2
 have k3:=whenT_short h3
 unfold wQ
 simp only [List.length_append,txBar,List.length_cons,List.length_nil];omega
theorem parts_fine {r:Rt}(h:(kZ r).1=0):(∀ n∈r.needs,gN r.name n=0)/\(∀ b∈r.bars,wR r.name b=0)/\d4 r.fts=true∧∀ f∈r.fts,yR (xK r.needs) f.of=0:=by
 unfold kZ at h
 by_cases h1:(kW (gN r.name) 0 r.needs).1=0
 ·rw [if_neg (by simp [h1])] at h
  by_cases h2:(kW (wR r.name) 0 r.bars).1=0
  ·rw [if_neg (by simp [h2])] at h
   cases h3:d4 r.fts
   ·rw [if_pos h3] at h;simp at h
   ·rw [if_neg (by simp [h3])] at h
    exact ⟨mS h1,mS h2,rfl,mS h⟩
  ·rw [if_pos h2] at h;exact absurd h h2
 ·rw [if_pos h1] at h;exact absurd h h1
theorem rec_small {r:Rt}(hn:r.name.length<=1000000)(hv:r.ver.print.length<=3000000)(h8:r.needs.length<=8)(hb8:r.bars.length<=8)(hp:(kZ r).1=0)(hf:∀ f∈r.fts,∀ s∈f.of,s.length<=1000000):(xH r).length<=100000000:=by
 obtain ⟨h1,h2,h3,_⟩:=parts_fine hp
 unfold d4 at h3
 simp only [Bool.and_eq_true,decide_eq_true_eq,List.all_eq_true] at h3
 have k1:=fm_most kN 900 (l:=r.needs) λn hx=>needT_short (h1 n hx)
 have k2:=fm_most wQ 300 (l:=r.bars) λn hx=>barT_short (h2 n hx)
 have k3:=fm_most vB 9000000 (l:=r.fts) λf hx=>by
  have e1:=h3.2 f hx
  unfold kH at e1
  simp only [Bool.and_eq_true,decide_eq_true_eq] at e1
  have e2:=jn_most 32 1000000 (l:=xB::f.name::f.of) λs hs=>by
   rcases List.mem_cons.1 hs with rfl|hs
   ·decide
   ·rcases List.mem_cons.1 hs with rfl|hs
    ·have:=wd_short (h3.1.1.2 f hx);omega
    ·exact hf f hx s hs
  unfold vB
  simp only [List.length_append,List.length_cons,List.length_nil] at e2 ⊢
  have:=e1.1.1;omega
 have k4:=h3.1.1.1
 unfold xH wZ
 simp only [List.length_append,txPack,List.length_cons,List.length_nil];omega
theorem mE {r:Rt}(h:(zT r).1=0):nmL r.name=true/\r.ver.may=true/\r.needs.length<=8/\r.bars.length<=8/\(kZ r).1=0/\(xH r).length<=4096:=by
 unfold zT at h
 cases h1:nmL r.name
 ·rw [if_pos h1] at h;simp at h
 ·rw [if_neg (by simp [h1])] at h
  cases h2:r.ver.may
  ·rw [if_pos h2] at h;simp at h
  ·rw [if_neg (by simp [h2])] at h
   by_cases h3:8<r.needs.length\/8<r.bars.length
   ·rw [if_pos h3] at h;simp at h
   ·rw [if_neg h3] at h
    by_cases h4:(kZ r).1=0
    ·rw [if_neg (by simp [h4])] at h
     by_cases h5:4096<(xH r).length
     ·rw [if_pos h5] at h;simp at h
     ·exact ⟨rfl,rfl,by omega,by omega,h4,by omega⟩
    ·rw [if_pos h4] at h;exact absurd h h4
def jX (r:Rt):List UInt8:=if (zT r).1=0 then xH r else []
end
section
structure Rs where
 rc:Rt
 st:Int
def fI:Rt:=⟨[],Ver.zero,[],[],[]⟩
def bG:List UInt8:=[112,97,99,107,97,103,101]
def bQ:List UInt8:=[110,101,101,100]
def nD:List UInt8:=[97,110,121]
def vQ:List UInt8:=[119,104,101,110]
def wOpt:List UInt8:=[111,112,116,105,111,110]
def mZ:List UInt8:=[98,97,114]
def noE (l:List (List UInt8)):Bool:=l.all λs=>decide (s≠[])
def bR (s:List UInt8)(k:Nat):Option (List (List UInt8)×List UInt8):=
 if (zD 32 [] s).length<=k then none else if noE ((zD 32 [] s).take k)=false then none else if zG 32 ((zD 32 [] s).drop k)=[] then none else some ((zD 32 [] s).take k,zG 32 ((zD 32 [] s).drop k))
def yW {α:Type}(f:α->α):List α->List α
 | []=>[]
 | [a]=>[f a]
 |a::b::r=>a::yW f (b::r)
theorem pD {α:Type}(f:α->α):∀ (l:List α) (a:α),yW f (l++[a])=l++[f a]
 | [],a=>rfl
 | [b],a=>rfl
 |b::c::r,a=>by
  rw [List.cons_append,List.cons_append,yW,←List.cons_append,pD f (c::r) a];rfl
def headS (l:List (List UInt8)):Option Rs:=
 if l.length=3/\l.getD 0 []=bG/\l.getD 1 []≠[]/\parE (l.getD 2 [])=0 then some ⟨⟨l.getD 1 [],dR (l.getD 2 []),[],[],[]⟩,1⟩ else none
def anyW (w:List (List UInt8))(t:List UInt8):Wt:=⟨w.getD 1 [],t,if w.getD 2 []=[45] then [] else zD 44 [] (w.getD 2 []),decide (w.getD 3 []=vN)⟩
def anyS (x:Rs)(s:List UInt8):Option Rs:=match bR s 4 with
 |none=>none
 |some (w,t)=>if x.st=2/\(w.getD 3 []=vN\/w.getD 3 []=fG) then some ⟨{x.rc with needs:=yW (λn=>{n with any:=n.any++[anyW w t]}) x.rc.needs},2⟩ else none
def whenS (x:Rs)(s:List UInt8):Option Rs:=match bR s 1 with
 |none=>none
 |some (_,t)=>if x.st=2 then some ⟨{x.rc with needs:=yW (λn=>{n with wh:=t}) x.rc.needs},3⟩ else if x.st=5 then some ⟨{x.rc with bars:=yW (λb=>{b with wh:=t}) x.rc.bars},6⟩ else none
def optS (x:Rs)(l:List (List UInt8)):Option Rs:=
 if l.length=2/\noE l=true/\(x.st=2\/x.st=3) then some ⟨{x.rc with needs:=yW (λn=>{n with opt:=l.getD 1 []}) x.rc.needs},4⟩ else none
def barS (x:Rs)(s:List UInt8):Option Rs:=match bR s 2 with
 |none=>none
 |some (w,t)=>if x.st<=6 then some ⟨{x.rc with bars:=x.rc.bars++[⟨w.getD 1 [],t,[]⟩]},5⟩ else none
def featS (x:Rs)(l:List (List UInt8)):Option Rs:=
 if 2<=l.length/\noE l=true then some ⟨{x.rc with fts:=x.rc.fts++[⟨l.getD 1 [],l.drop 2⟩]},7⟩ else none
def needS (x:Rs)(l:List (List UInt8)):Option Rs:=if l.length=1/\x.st<5 then some ⟨{x.rc with needs:=x.rc.needs++[⟨[],[],[]⟩]},2⟩ else none
def tQ (x:Rs)(s:List UInt8):Option Rs:=
 if x.st=0 then headS (zD 32 [] s)
 else if (zD 32 [] s).getD 0 []=bQ then needS x (zD 32 [] s)
 else if (zD 32 [] s).getD 0 []=nD then anyS x s
 else if (zD 32 [] s).getD 0 []=vQ then whenS x s
 else if (zD 32 [] s).getD 0 []=wOpt then optS x (zD 32 [] s)
 else if (zD 32 [] s).getD 0 []=mZ then barS x s
 else if (zD 32 [] s).getD 0 []=xB then featS x (zD 32 [] s)
 else none
def runS:Rs->List (List UInt8)->Option Rs
 |x,[]=>some x
 |x,s::r=>match tQ x s with
  |some y=>runS y r
  |none=>none
def badS:Rs->Nat->List (List UInt8)->Int
 |_,_,[]=>0
 |x,k,s::r=>match tQ x s with
  |some y=>badS y (k+1) r
  |none=>((k+1:Nat):Int)
def linesOf (s:List UInt8):List (List UInt8)×Bool:=if (zD 10 [] s).getLast?=some [] then ((zD 10 [] s).dropLast,true) else (zD 10 [] s,false)
def doneS (x:Rs):Rt×Int×Int:=if x.st=0 then (fI,2,1) else if (zT x.rc).1≠0 then (fI,(zT x.rc).1,0) else (x.rc,0,0)
def bS (s:List UInt8):Rt×Int×Int:=
 if 4096<s.length then (fI,3,0)
 else match runS ⟨fI,0⟩ (zD 10 [] s).dropLast with
  |none=>(fI,2,badS ⟨fI,0⟩ 0 (zD 10 [] s).dropLast)
  |some x=>if (zD 10 [] s).getLast?=some [] then doneS x else (fI,2,((zD 10 [] s).length:Int))
def headL (r:Rt):List UInt8:=zG 32 [bG,r.name,r.ver.print]
def wishL (x:Wt):List UInt8:=zG 32 [nD,x.name,bF x.fs,dW x.bare,x.rng]
def whenL (s:List UInt8):List (List UInt8):=if s=[] then [] else [zG 32 [vQ,s]]
def optnL (s:List UInt8):List (List UInt8):=if s=[] then [] else [zG 32 [wOpt,s]]
def needLs (n:Nt):List (List UInt8):=bQ::(n.any.map wishL++whenL n.wh++optnL n.opt)
def barLs (b:Bt):List (List UInt8):=zG 32 [mZ,b.name,b.rng]::whenL b.wh
def featL (f:Ft):List UInt8:=zG 32 (xB::f.name::f.of)
def recLs (r:Rt):List (List UInt8):=headL r::(r.needs.flatMap needLs++r.bars.flatMap barLs++r.fts.map featL)
def unL (l:List (List UInt8)):List UInt8:=l.flatMap λs=>s++[10]
theorem wishL_text (x:Wt):wishL x++[10]=kI x:=by
 unfold wishL kI
 simp only [zG,nD,txAny,List.append_assoc,List.cons_append,List.nil_append]
end
section
end
section
end
section
def plc (v n:Int):Int:=if v.tmod n<0 then v.tmod n+n else v.tmod n
end
section
def ReadsI (w:World)(B:Nat)(v:Value)(l:List Int):Prop:=
 ∃ A cap,v= .slice A l.length cap/\(0<l.length→∃ ad:Addr,A=some ad/\ad.block<B∧∀ j (h:j<l.length),w.cell? (ad.add j)=some (YI l[j]))
theorem add_block (a:Addr)(n:Nat):(a.add n).block=a.block:=by unfold Addr.add;split<;>rfl
def atL (l:List Int)(i:Nat):Int:=(l[i]?).getD 0
def i64in (n:Int):Prop:= -9223372036854775808<=n/\n<=9223372036854775807
end
section
def numT (k:Nat):Int:=(([0,1,2,3,0,1,10,9999]:List Int)[k]?).getD 0
def preT14 (k:Nat):List UInt8:=(([[],[],[],[],[48],[49],[50],[49,49],[97],[97,46,49],[97,46,98],[98],[48,46,48],[114,99,46,49]]:List (List UInt8))[k]?).getD []
def bldT (k:Nat):List UInt8:=(([[],[],[],[],[48,48,55],[120,46,49]]:List (List UInt8))[k]?).getD []
def genV (l:List Int)(i:Nat):Ver:=⟨numT (plc (atL l i) 8).toNat,numT (plc (atL l (i+1)) 8).toNat,numT (plc (atL l (i+2)) 8).toNat,preT14 (plc (atL l (i+3)) 14).toNat,bldT (plc (atL l (i+4)) 6).toNat⟩
def GEnd (u:Ver)(w:World)(e:Ending)(w':World):Prop:=e= .returned (k8 u)/\Below w.heap.size w w'
end
section
end
section
structure Cu where
 e:Int
 v:Ver
 aft:Bool
deriving DecidableEq
def Cu.may (c:Cu):Bool:=if c.e=0 then c.v.may && c.v.build.isEmpty else decide (c.e= -1\/c.e=1) && decide (c.v=Ver.zero) && !c.aft
def b01 (b:Bool):Int:=if b then 1 else 0
def lex (x y:Int):Int:=if x=0 then y else x
def vW (a b:Cu):Int:=if a.may && b.may then lex (Lib.compareInt a.e b.e) (lex (mD a.v b.v) (Lib.compareInt (b01 a.aft) (b01 b.aft))) else 0
theorem zero_may:Ver.zero.may=true:=by decide
theorem may_v {c:Cu}(h:c.may=true):c.v.may=true:=by
 unfold Cu.may at h
 split at h
 ·rw [Bool.and_eq_true] at h;exact h.1
 ·simp only [Bool.and_eq_true,decide_eq_true_eq] at h;rw [h.1.2];exact zero_may
theorem may_e {c:Cu}(h:c.may=true):(c.e=0/\c.v.build=[])\/((c.e= -1\/c.e=1)/\c.v=Ver.zero/\c.aft=false):=by
 unfold Cu.may at h
 split at h
 ·rename_i h0;rw [Bool.and_eq_true] at h;exact .inl ⟨h0,List.isEmpty_iff.1 h.2⟩
 ·simp only [Bool.and_eq_true,decide_eq_true_eq,Bool.not_eq_true'] at h;exact .inr ⟨h.1.1,h.1.2,h.2⟩
theorem cmpR_range {v w:Ver}:mD v w= -1\/mD v w=0\/mD v w=1:=by
 by_cases hv:v.may=true
 ·by_cases hw:w.may=true
  ·rw [nY hv hw];exact cmpL_range _ _
  ·exact .inr (.inl (cmpR_bad (.inr (by simpa using hw))))
 ·exact .inr (.inl (cmpR_bad (.inl (by simpa using hv))))
theorem ci_range (x y:Int):Lib.compareInt x y= -1\/Lib.compareInt x y=0\/Lib.compareInt x y=1:=by
 unfold Lib.compareInt
 by_cases h:x<y
 ·rw [if_pos h];simp
 ·rw [if_neg h]
  by_cases h2:y<x
  ·rw [if_pos h2];simp
  ·rw [if_neg h2];simp
theorem cmpC_good {a b:Cu}(ha:a.may=true)(hb:b.may=true):vW a b=lex (Lib.compareInt a.e b.e) (lex (mD a.v b.v) (Lib.compareInt (b01 a.aft) (b01 b.aft))):=by
 unfold vW;rw [ha,hb];rfl
theorem cmpC_range (a b:Cu):vW a b= -1\/vW a b=0\/vW a b=1:=by
 unfold vW lex
 have h1:=ci_range a.e b.e
 have h2:=cmpR_range (v:=a.v) (w:=b.v)
 have h3:=ci_range (b01 a.aft) (b01 b.aft)
 split
 ·split
  ·split
   ·exact h3
   ·exact h2
  ·exact h1
 ·simp
structure Ord3 {α:Type}(c:α->α->Int):Prop where
 anti:∀ x y,c y x= -c x y
 on:∀ x y z,c x y<=0->c y z<=0->c x z<=0/\(c x z=0->c x y=0/\c y z=0)
 same:∀ x y z,c x y=0->c y z=0->c x z=0
theorem lex_ord {α:Type}{c d:α->α->Int}(hc:Ord3 c)(hd:Ord3 d):Ord3 (λx y=>lex (c x y) (d x y)):=by
 refine ⟨λx y=> ?_,λx y z h1 h2=> ?_,λx y z h1 h2=> ?_⟩
 ·have a:=hc.anti x y;have b:=hd.anti x y
  show lex (c y x) (d y x)= -lex (c x y) (d x y)
  unfold lex
  by_cases h:c x y=0
  ·rw [if_pos h,if_pos Om];exact b
  ·rw [if_neg h,if_neg Om];exact a
 ·have a:=hc.on x y z;have b:=hd.on x y z;have s:=hc.same x y z
  show lex _ _<=0/\(lex _ _=0->lex _ _=0/\lex _ _=0)
  replace h1:lex (c x y) (d x y)<=0:=h1
  replace h2:lex (c y z) (d y z)<=0:=h2
  unfold lex at h1 h2 ⊢
  by_cases p:c x y=0
  ·by_cases q:c y z=0
   ·rw [if_pos p] at h1 ⊢;rw [if_pos q] at h2 ⊢;rw [if_pos (s p q)];exact b h1 h2
   ·rw [if_pos p] at h1 ⊢;rw [if_neg q] at h2 ⊢
    obtain ⟨a1,a2⟩:=a Om h2
    have:c x z≠0:=λe=>q (a2 e).2
    rw [if_neg this];exact ⟨a1,λe=>absurd e this⟩
  ·rw [if_neg p] at h1 ⊢
   have h2':c y z<=0:=by
    by_cases q:c y z=0
    ·omega
    ·rw [if_neg q] at h2;exact h2
   obtain ⟨a1,a2⟩:=a h1 h2'
   have:c x z≠0:=λe=>p (a2 e).1
   rw [if_neg this];exact ⟨a1,λe=>absurd e this⟩
 ·have s:=hc.same x y z;have t:=hd.same x y z
  show lex _ _=0
  replace h1:lex (c x y) (d x y)=0:=h1
  replace h2:lex (c y z) (d y z)=0:=h2
  unfold lex at h1 h2 ⊢
  by_cases p:c x y=0
  ·by_cases q:c y z=0
   ·rw [if_pos p] at h1;rw [if_pos q] at h2;rw [if_pos (s p q)];exact t h1 h2
   ·rw [if_neg q] at h2;exact absurd h2 q
  ·rw [if_neg p] at h1;exact absurd h1 p
theorem ci_ord {α:Type}(f:α->Int):Ord3 (λx y=>Lib.compareInt (f x) (f y)):=by
 refine ⟨λx y=> ?_,λx y z=> ?_,λx y z=> ?_⟩<;>unfold Lib.compareInt<;>(repeat' split)<;>omega
theorem cmpL_ord {α:Type}(f:α->List Nat):Ord3 (λx y=>kK (f x) (f y)):=by
 refine ⟨λx y=>cmpL_anti _ _,λx y z=>cmpL_trans _ _ _,λx y z h1 h2=> ?_⟩
 show kK (f x) (f z)=0
 rw [cmpL_zero _ _ h1,cmpL_zero _ _ h2];exact cmpL_self _
def cmpK (a b:Cu):Int:=lex (Lib.compareInt a.e b.e) (lex (kK a.v.key b.v.key) (Lib.compareInt (b01 a.aft) (b01 b.aft)))
theorem cmpK_ord:Ord3 cmpK:=lex_ord (ci_ord (λc:Cu=>c.e)) (lex_ord (cmpL_ord (λc:Cu=>c.v.key)) (ci_ord (λc:Cu=>b01 c.aft)))
theorem cmpC_K {a b:Cu}(ha:a.may=true)(hb:b.may=true):vW a b=cmpK a b:=by
 rw [cmpC_good ha hb,nY (may_v ha) (may_v hb)];rfl
theorem cmpC_bad {a b:Cu}(h:a.may=false\/b.may=false):vW a b=0:=by
 unfold vW
 rcases h with h|h<;>rw [h]<;>simp
theorem cut_anti {a b:Cu}:vW b a= -vW a b:=by
 cases ha:a.may with
 |true=>
  cases hb:b.may with
  |true=>rw [cmpC_K ha hb,cmpC_K hb ha];exact cmpK_ord.anti _ _
  |false=>rw [cmpC_bad (.inl hb),cmpC_bad (.inr hb)];rfl
 |false=>rw [cmpC_bad (a:=a) (.inl ha),cmpC_bad (b:=a) (.inr ha)];rfl
theorem cut_on {a b c:Cu}(ha:a.may=true)(hb:b.may=true)(hc:c.may=true)(h1:vW a b<=0)(h2:vW b c<=0):vW a c<=0/\(vW a c=0->vW a b=0/\vW b c=0):=by
 rw [cmpC_K ha hb] at h1 ⊢;rw [cmpC_K hb hc] at h2 ⊢;rw [cmpC_K ha hc];exact cmpK_ord.on _ _ _ h1 h2
def d9 (e:Int):Cu:=⟨e,Ver.zero,false⟩
def posC (v:Ver):Cu:=⟨0,wG v,false⟩
theorem posC_may {v:Ver}(h:v.may=true):(posC v).may=true:=by
 unfold posC Cu.may
 rw [if_pos rfl,core_may h];rfl
def pU (c:Cu)(v:Ver):Bool:=c.may && v.may && (if c.e=0 then decide (mD c.v v<0\/(mD c.v v=0/\c.aft=false)) else decide (c.e<0))
theorem cmpR_coreR {a v:Ver}(ha:a.may=true)(hv:v.may=true):mD a (wG v)=mD a v:=by
 rw [nY ha (core_may hv),nY ha hv];rfl
theorem ahead_pos {c:Cu}{v:Ver}(hc:c.may=true)(hv:v.may=true):pU c v=decide (vW c (posC v)<=0):=by
 rw [cmpC_good hc (posC_may hv)]
 unfold pU
 rw [hc,hv]
 show (true && true && _)=decide (lex (Lib.compareInt c.e 0) (lex (mD c.v (wG v)) (Lib.compareInt (b01 c.aft) (b01 false)))<=0)
 rw [cmpR_coreR (may_v hc) hv]
 rcases may_e hc with ⟨h,_⟩|⟨h,h2,h3⟩
 ·rw [if_pos h,h,t7]
  unfold lex
  rw [if_pos rfl]
  rcases cmpR_range (v:=c.v) (w:=v) with e|e|e<;>rw [e]<;>cases c.aft<;>decide
 ·rw [if_neg Om]
  rcases h with h|h<;>rw [h]
  ·rw [show Lib.compareInt (-1) 0= -1 from by decide];unfold lex;simp
  ·rw [show Lib.compareInt 1 0=1 from by decide];unfold lex;simp
theorem ahead_on {a b:Cu}{v:Ver}(ha:a.may=true)(hb:b.may=true)(hv:v.may=true)(h:vW a b<=0)(h2:pU b v=true):pU a v=true:=by
 rw [ahead_pos hb hv,decide_eq_true_eq] at h2
 rw [ahead_pos ha hv,decide_eq_true_eq]
 exact (cut_on ha hb (posC_may hv) h h2).1
def lessC (a b:Cu):Bool:=if a.e=b.e then (if mD a.v b.v= -1 then true else if mD a.v b.v=1 then false else !a.aft && b.aft) else decide (a.e<b.e)
structure Sp where
 lo:Cu
 hi:Cu
def Sp.may (s:Sp):Bool:=decide (vW s.lo s.hi= -1)
def holdsC (s:Sp)(v:Ver):Bool:=s.may && pU s.lo v && !pU s.hi v
theorem beside {v w:Ver}(hv:v.may=true)(hw:w.may=true):(Sp.mk ⟨0,wG v,false⟩ ⟨0,wG v,true⟩).may=true/\holdsC ⟨⟨0,wG v,false⟩,⟨0,wG v,true⟩⟩ w=decide (mD v w=0):=by
 have m1:(Cu.mk 0 (wG v) false).may=true:=posC_may hv
 have m2:(Cu.mk 0 (wG v) true).may=true:=by unfold Cu.may;rw [if_pos rfl,core_may hv];rfl
 have hs:(Sp.mk ⟨0,wG v,false⟩ ⟨0,wG v,true⟩).may=true:=by
  unfold Sp.may
  rw [cmpC_good m1 m2]
  dsimp only
  rw [order_self];rfl
 refine ⟨hs, ?_⟩
 unfold holdsC pU
 rw [hs,m1,m2,hw]
 dsimp only
 rw [if_pos rfl,if_pos rfl,order_core hv hw]
 rcases cmpR_range (v:=v) (w:=w) with e|e|e<;>rw [e]<;>rfl
theorem between {a b:Cu}{v:Ver}(ha:a.may=true)(hb:b.may=true)(hv:v.may=true)(h1:pU a v=true)(h2:pU b v=false):vW a b= -1:=by
 have h3:¬ vW b a<=0:=λh=>by rw [ahead_on hb ha hv h h1] at h2;cases h2
 have:=cut_anti (a:=a) (b:=b)
 rcases cmpC_range a b with e|e|e<;>omega
def genC (l:List Int)(i:Nat):Cu:=
 if plc (atL l (i+5)) 9<2 then d9 (2*plc (atL l (i+5)) 9-1) else ⟨0,wG (genV l i),decide (plc (atL l (i+5)) 2=1)⟩
end
section
abbrev ZJ2 (x y:Cu):Array Value:= #[YI x.e,YI x.v.maj,YI x.v.min,YI x.v.pat,.string (mkS x.v.pre),.string (mkS x.v.build),.bool x.aft,YI y.e,YI y.v.maj,YI y.v.min,YI y.v.pat,.string (mkS y.v.pre),.string (mkS y.v.build),.bool y.aft]
abbrev ZJ (x:Cu):Array Value:= #[YI x.e,YI x.v.maj,YI x.v.min,YI x.v.pat,.string (mkS x.v.pre),.string (mkS x.v.build),.bool x.aft]
def cutV (c:Cu):Value:= .agg #[YI c.e,YI c.v.maj,YI c.v.min,YI c.v.pat,.string (mkS c.v.pre),.string (mkS c.v.build),.bool c.aft]
def spanV (s:Sp):Value:= .agg (ZJ2 s.lo s.hi)
end
section
def or3 (x y z:Int):Int:=if x≠0 then x else if y≠0 then y else z
def nthI (x y z:Int)(k:Nat):Int:=if k=0 then x else if k=1 then y else z
end
section
end
section
theorem rnumber_mk (t:List UInt8)(w:World)(ht:t.length<=maxLen):
  YC 168 #[.string (mkS t)] w λe w'=>e= .returned (.tuple #[YI (zI t),.bool (qA t)])/\w=w':=by
 have:=rnumber_any (mkS t) w (by rw [zQ];exact ht)
 rw [numV_mk,numOk_mk] at this
 exact this
theorem rsplit_mk (s:List UInt8)(w:World)(hs:s.length<=1000000):
  YC 127 #[.string (mkS s),.int .u8 46] w λe w'=>∃ v,e= .returned v/\w'.ownsRow w.heap.size 9 1 v (pcs s).length (jM (pcs s))/\Below w.heap.size w w':=by
 have:=rsplit_any (mkS s) 46 w (by rw [zQ];exact hs)
 unfold qS at this
 rw [mk_data] at this
 exact this
theorem pcs_mem_len (s:List UInt8):∀ x∈pcs s,x.length<=s.length:=by
 intro x hx
 have:=dJ 46 s [] x hx
 simpa using this
def nF (s:List UInt8)(b:Bool):Bool:=s.isEmpty||(decide ((pcs s).length<=4) && (pcs s).all λt=>kR t && !(b && vJ t && !qA t))
theorem all_both {α:Type}(p q r:α->Bool)(h:∀ x,r x=(p x && q x))(l:List α):l.all r=(l.all p && l.all q):=by
 induction l with
 |nil=>rfl
 |cons a l ih=>
  rw [List.all_cons,List.all_cons,List.all_cons,ih,h]
  cases p a<;>cases q a<;>simp
theorem tagsB_pre (s:List UInt8):nF s true=tJ s:=by
 unfold nF tJ jD preT
 cases s.isEmpty
 ·simp only [Bool.false_or,Bool.true_and,Bool.and_assoc]
  congr 1
  refine all_both _ _ _ (λt=> ?_) _
  cases kR t<;>cases vJ t<;>cases qA t<;>rfl
 ·rfl
theorem tagsB_build (s:List UInt8):nF s false=jD s:=by
 unfold nF jD
 simp
def tagF (b:Bool)(t:List UInt8):Bool:=kR t && !(b && vJ t && !qA t)
theorem tagsB_eq (s:List UInt8)(b:Bool):nF s b=(s.isEmpty||(decide ((pcs s).length<=4) && (pcs s).all (tagF b))):=rfl
theorem all_cut {l:List (List UInt8)}{p:List UInt8->Bool}(k:Nat)(h:k<l.length)(hb:p l[k]=false):l.all p=false:=by
 rw [Bool.eq_false_iff];intro e
 have:=List.all_eq_true.1 e l[k] (List.getElem_mem h)
 rw [this] at hb;cases hb
end
section
end
section
def Cu.short (c:Cu):Prop:=c.v.pre.length<=1000000/\c.v.build.length<=1000000
def Ver.short (v:Ver):Prop:=v.pre.length<=1000000/\v.build.length<=1000000
def Sp.short (s:Sp):Prop:=s.lo.short/\s.hi.short
end
section
def tH:List Sp->Bool
 | []=>true
 | [s]=>s.may
 |s::t::r=>s.may && decide (vW s.hi t.lo<0) && tH (t::r)
def inSp (s:Sp)(c:Cu):Bool:=decide (vW s.lo c<=0) && decide (vW c s.hi<0)
def den (l:List Sp)(c:Cu):Bool:=l.any (inSp · c)
def rowHas (l:List Sp)(v:Ver):Bool:=tH l && l.any (holdsC · v)
def growL (l:List Sp)(c d:Cu):List Sp:=
 match l.getLast? with
 |some s=>if vW s.hi c=0 then l.dropLast++[⟨s.lo,d⟩] else l++[⟨c,d⟩]
 |none=>[⟨c,d⟩]
def buildL (p:Cu->Cu->Bool):List Sp->List Cu->List Sp
 |out,c::d::r=>buildL p (if p c d then growL out c d else out) (d::r)
 |out,_=>out
def pick (p:Cu->Cu->Bool)(x:Cu):List Cu->Bool
 |c::d::r=>(p c d && inSp ⟨c,d⟩ x)||pick p x (d::r)
 |_=>false
def Rise:List Cu->Prop
 |c::d::r=>c.may=true/\vW c d<0/\Rise (d::r)
 | [c]=>c.may=true
 | []=>True
def putL (c:Cu):List Cu->List Cu
 | []=>[c]
 |d::r=>if vW d c<0 then d::putL c r else if vW d c=0 then d::r else c::d::r
def cutsL (l:List Sp):List Cu:=l.foldl (λout s=>putL s.hi (putL s.lo out)) [d9 (-1),d9 1]
def AllMay (l:List Cu):Prop:=∀ x∈l,x.may=true
structure Ends (l:List Cu):Prop where
 rise:Rise l
 head:l.head?=some (d9 (-1))
 last:l.getLast?=some (d9 1)
def inL (l:List Sp)(c d:Cu):Bool:=l.any λs=>decide (vW s.lo c<=0) && decide (vW d s.hi<=0)
def makeL (l:List Sp):List Sp:=buildL (inL l) [] (cutsL l)
def orL (a b:List Sp):List Sp:=makeL (a++b)
def andL (a b:List Sp):List Sp:=buildL (λc d=>inL a c d && inL b c d) [] (cutsL (a++b))
def notL (a:List Sp):List Sp:=buildL (λc d=> !inL a c d) [] (cutsL a)
end
section
def spanC (s:Sp):List Value:=(spanV s).cells.toList
def ShortL (l:List Sp):Prop:=∀ s∈l,s.short
end
section
deriving instance DecidableEq for Sp
end
section
end
section
end
section
def cutC (s:Cu):List Value:=(cutV s).cells.toList
def ShortC (l:List Cu):Prop:=∀ s∈l,s.short
end
section
end
section
section
variable {M:List Nat}{P:Program}{n:Nat}{ops:Array Oper}{W:World}{Q:Exit->Act->World->Prop}{L0 L:List Blk}{f:Nat->Value}{fuel:Nat}{listed:Array Bool}{rest:List Oper}{o:Oper}
end
end
section
def allMay (l:List Sp):Bool:=l.all (·.may)
end
section
end
section
end
section
def minC (a b:Cu):Cu:=if 0<vW a b then b else a
def maxC (a b:Cu):Cu:=if 0<vW a b then a else b
def addL (l:List Sp)(c d:Cu):List Sp:=if (Sp.mk c d).may then l++[⟨c,d⟩] else l
def nstep (p:List Sp×Cu)(s:Sp):List Sp×Cu:=(addL p.1 p.2 s.lo,s.hi)
def notG (l:List Sp):List Sp:=addL (l.foldl nstep ([],d9 (-1))).1 (l.foldl nstep ([],d9 (-1))).2 (d9 1)
def andG:Nat->List Sp->List Sp->List Sp->List Sp
 |n+1,out,s::a,u::b=>if s.hi=minC s.hi u.hi then andG n (addL out (maxC s.lo u.lo) (minC s.hi u.hi)) a (u::b) else andG n (addL out (maxC s.lo u.lo) (minC s.hi u.hi)) (s::a) b
 |_,out,_,_=>out
def mstep (out:List Sp)(s:Sp):List Sp:=
 match out.getLast? with
 |none=>[s]
 |some t=>if vW t.hi s.lo<0 then out++[s] else out.dropLast++[⟨t.lo,maxC t.hi s.hi⟩]
def SortedC:List Sp->Prop
 | []=>True
 |s::r=>(∀ t∈r,vW s.lo t.lo<=0)/\SortedC r
end
section
theorem dA (c:UInt8):∀ s:List UInt8,s.length=(zA c s).1.length+(if (zA c s).2.2 then 1+(zA c s).2.1.length else 0)
 | []=>rfl
 |b::r=>by
  unfold zA
  have ih:=dA c r
  by_cases h:b=c
  ·first|(simp [h];done)|(subst h;simp;omega)|(simp [h];omega)
  ·first|(simp [h] at ih ⊢;omega)|(simp [h,Ne.symm h] at ih ⊢;omega)
theorem cutGo_short:∀ (n:Nat) (s:List UInt8),(gK n s).2=true->s.length<=9*n
 |0,s,h=>by simp [gK] at h
 |n+1,s,h=>by
  have hl:=dA 46 s
  cases ht:kR (zA 46 s).1 with
  |false=>rw [cutGo_bad n s ht] at h;cases h
  |true=>
   have h8:(zA 46 s).1.length<=8:=Nat.le_of_not_lt λh2=>by rw [tagOk_long h2] at ht;cases ht
   cases hm:(zA 46 s).2.2 with
   |false=>rw [hm] at hl;simp at hl;omega
   |true=>
    rw [cutGo_on n s ht hm] at h
    have ih:=cutGo_short n _ h
    rw [hm] at hl;simp at hl;omega
theorem preOk_short {s:List UInt8}(h:tJ s=true):s.length<=36:=by
 rw [preOk_lst,Bool.and_eq_true] at h
 have h1:=h.1
 unfold lst at h1
 split at h1
 ·rename_i h0
  have:s=[]:=by simpa using h0
  subst this;exact Nat.zero_le _
 ·have:=cutGo_short _ _ h1;omega
theorem may_short {v:Ver}(h:v.may=true)(hb:v.build=[]):v.short:=⟨by have:=preOk_short (may_pre h);omega,by rw [hb];exact Nat.zero_le _⟩
structure RF (l:List Sp)(n:Nat):Prop where
 may:tH l=true
 len:l.length<=n
section
variable {a b c:List Sp}(ha:tH a=true)(hb:tH b=true)(hc:tH c=true)
include ha in
end
end
section
def bH (b:UInt8):Nat->List UInt8->List (List UInt8)
 |0,s=>[s]
 |k+1,s=>if (zA b s).2.2 then (zA b s).1::bH b k (zA b s).2.1 else [s]
theorem split_one (b:UInt8){s:List UInt8}(h:(zA b s).2.2=false):zD b [] s=[s]:=by
 have hb:=mC b s
 rw [h,if_neg Bool.false_ne_true] at hb
 rw [x9,h,if_neg Bool.false_ne_true,List.nil_append]
 simpa using hb.symm
theorem pcsB_is (b:UInt8):∀ (k:Nat) (s:List UInt8),bH b k s=if (zD b [] s).length<=k then zD b [] s else (zD b [] s).take k++[zG b ((zD b [] s).drop k)]
 |0,s=>by
  have h1:¬ (zD b [] s).length<=0:=λh=>qR b s [] (List.eq_nil_of_length_eq_zero (Nat.le_zero.1 h))
  rw [if_neg h1,List.drop_zero,join_split b s [],List.nil_append];rfl
 |k+1,s=>by
  unfold bH
  cases hq:(zA b s).2.2 with
  |false=>
   rw [if_neg Bool.false_ne_true,split_one b hq,if_pos (by simp)]
  |true=>
   have hsp:zD b [] s=(zA b s).1::zD b [] (zA b s).2.1:=by rw [x9,hq,if_pos rfl,List.nil_append]
   rw [if_pos rfl,pcsB_is b k (zA b s).2.1,hsp,List.length_cons,List.take_succ_cons,List.drop_succ_cons]
   by_cases h:(zD b [] (zA b s).2.1).length<=k
   ·rw [if_pos h,if_pos Om]
   ·rw [if_neg h,if_neg Om];rfl
structure La where
 kind:Nat
 word:List UInt8
 lo:Nat
 hi:Nat
 parts:Nat
 opn:Bool
 more:Bool
deriving DecidableEq
def lays:List La:=[⟨1,bG,0,0,3,false,false⟩,⟨2,bQ,1,5,1,false,false⟩,⟨3,nD,2,3,5,true,false⟩,⟨4,vQ,2,3,2,true,false⟩,⟨5,wOpt,2,4,2,false,false⟩,⟨6,mZ,1,7,3,true,false⟩,⟨7,vQ,6,6,2,true,false⟩,⟨8,xB,1,8,2,false,true⟩]
def xE (l:La)(s:List UInt8):List (List UInt8):=if l.opn then bH 32 (l.parts-1) s else zD 32 [] s
def dV (l:La)(s:List UInt8):Bool:=(decide ((xE l s).length=l.parts)||(l.more && decide (l.parts<(xE l s).length))) && decide ((xE l s).getD 0 []=l.word) && noE (xE l s)
def mH (x:Rt)(kind:Nat)(p:List (List UInt8)):Rt×Bool:=
 match kind with
 |1=>({x with name:=p.getD 1 [],ver:=dR (p.getD 2 [])},decide (parE (p.getD 2 [])=0))
 |2=>({x with needs:=x.needs++[⟨[],[],[]⟩]},true)
 |3=>({x with needs:=yW (λn=>{n with any:=n.any++[anyW p (p.getD 4 [])]}) x.needs},decide (p.getD 3 []=vN)||decide (p.getD 3 []=fG))
 |4=>({x with needs:=yW (λn=>{n with wh:=p.getD 1 []}) x.needs},true)
 |5=>({x with needs:=yW (λn=>{n with opt:=p.getD 1 []}) x.needs},true)
 |6=>({x with bars:=x.bars++[⟨p.getD 1 [],p.getD 2 [],[]⟩]},true)
 |7=>({x with bars:=yW (λb=>{b with wh:=p.getD 1 []}) x.bars},true)
 |8=>({x with fts:=x.fts++[⟨p.getD 1 [],p.drop 2⟩]},true)
 |_=>(x,true)
def xP (x:Rt)(last:Nat)(s:List UInt8):List La->Option (Rt×Nat)
 | []=>none
 |l::r=>if l.lo<=last/\last<=l.hi/\dV l s=true then (if (mH x l.kind (xE l s)).2 then some ((mH x l.kind (xE l s)).1,l.kind) else none) else xP x last s r
def stg:Nat->Int
 |0=>0|1=>1|2=>2|3=>2|4=>3|5=>4|6=>5|7=>6|_=>7
structure InvA (x:Rt)(k:Nat):Prop where
 le:k<=8
 z:k=0->x=fI
 n:2<=k->k<=5->x.needs≠[]
 b:6<=k->k<=7->x.bars≠[]
theorem open_ok {l:La}{s:List UInt8}(ho:l.opn=true)(hm:l.more=false){k:Nat}(hk:l.parts=k+1):dV l s=true↔∃ w t,bR s k=some (w,t)/\xE l s=w++[t]/\(w++[t]).getD 0 []=l.word:=by
 have hP:xE l s=if (zD 32 [] s).length<=k then zD 32 [] s else (zD 32 [] s).take k++[zG 32 ((zD 32 [] s).drop k)]:=by
  unfold xE;rw [if_pos ho,hk];exact pcsB_is 32 k s
 unfold dV bR
 rw [hm,hk]
 simp only [Bool.false_and,Bool.or_false,Bool.and_eq_true,decide_eq_true_eq]
 by_cases hl:(zD 32 [] s).length<=k
 ·rw [if_pos hl] at hP ⊢
  rw [hP]
  constructor
  ·rintro ⟨⟨h1,_⟩,_⟩;omega
  ·rintro ⟨w,t,h,_⟩;cases h
 ·rw [if_neg hl] at hP ⊢
  rw [hP]
  have hlen:((zD 32 [] s).take k++[zG 32 ((zD 32 [] s).drop k)]).length=k+1:=by simp;omega
  have hno:noE ((zD 32 [] s).take k++[zG 32 ((zD 32 [] s).drop k)])=(noE ((zD 32 [] s).take k) && decide (zG 32 ((zD 32 [] s).drop k)≠[])):=by unfold noE;simp [List.all_append]
  rw [hno,hlen]
  cases h2:noE ((zD 32 [] s).take k) with
  |false=>simp
  |true=>
   by_cases h3:zG 32 ((zD 32 [] s).drop k)=[]
   ·simp [h3]
   ·simp only [h3,true_and,decide_true,ne_eq,not_false_eq_true,Bool.and_self,and_true,if_false,Bool.true_eq_false,Option.some.injEq,Prod.mk.injEq]
    constructor
    ·intro h;exact ⟨_,_,⟨rfl,rfl⟩,rfl,h⟩
    ·rintro ⟨w,t,⟨rfl,rfl⟩,_,h⟩;exact h
theorem nJ {s:List UInt8}{k:Nat}{w:List (List UInt8)}{t:List UInt8}(h:bR s (k+1)=some (w,t)):(w++[t]).getD 0 []=(zD 32 [] s).getD 0 []/\w.length=k+1:=by
 unfold bR at h
 split at h
 ·cases h
 ·split at h
  ·cases h
  ·split at h
   ·cases h
   ·rename_i h1 h2 h3
    simp only [Option.some.injEq,Prod.mk.injEq] at h
    obtain ⟨rfl,rfl⟩:=h
    cases hs:zD 32 [] s with
    |nil=>exact absurd hs (qR 32 _ _)
    |cons a r=>rw [hs] at h1;simp only [List.length_cons] at h1;simp;omega
theorem mM {l:La}{s:List UInt8}(ho:l.opn=false):xE l s=zD 32 [] s:=by unfold xE;rw [if_neg (by rw [ho];simp)]
theorem la_word {l:La}{s:List UInt8}(hp:l.opn=true->2<=l.parts)(h:dV l s=true):(zD 32 [] s).getD 0 []=l.word:=by
 have hw:(xE l s).getD 0 []=l.word:=by
  unfold dV at h;simp only [Bool.and_eq_true,decide_eq_true_eq] at h;exact h.1.2
 rw [←hw]
 unfold xE
 split
 ·rename_i ho
  have h2:=hp ho
  obtain ⟨k,hk⟩:∃ k,l.parts-1=k+1:=⟨l.parts-2,by omega⟩
  rw [hk,pcsB_is]
  split
  ·rfl
  ·cases hs:zD 32 [] s with
   |nil=>exact absurd hs (qR 32 _ _)
   |cons a r=>simp
 ·rfl
theorem lays_open:∀ l∈lays,l.opn=true->2<=l.parts:=by decide
abbrev pP (l:La)(last:Nat)(s:List UInt8):Prop:=l.lo<=last/\last<=l.hi/\dV l s=true
def outA (x:Rt)(s:List UInt8)(l:La):Option (Rt×Nat):=if (mH x l.kind (xE l s)).2 then some ((mH x l.kind (xE l s)).1,l.kind) else none
theorem qE {x:Rt}{last:Nat}{s:List UInt8}:∀ {L:List La},(∀ l∈L,¬ pP l last s)->xP x last s L=none
 | [],_=>rfl
 |l::r,h=>by rw [xP,if_neg (h l (List.mem_cons_self ..)),qE λy hy=>h y (List.mem_cons_of_mem _ hy)]
theorem jL {x:Rt}{last:Nat}{s:List UInt8}{l:La}(hf:pP l last s):∀ {L:List La},(∀ y∈L,pP y last s->y=l)->l∈L->xP x last s L=outA x s l
 |y::r,h,hl=>by
  by_cases hy:pP y last s
  ·obtain rfl:=h y (List.mem_cons_self ..) hy
   rw [xP,if_pos hy];rfl
  ·rw [xP,if_neg hy]
   rcases List.mem_cons.1 hl with rfl|hl
   ·exact absurd hf hy
   ·exact jL hf (λz hz=>h z (List.mem_cons_of_mem _ hz)) hl
theorem pN {last:Nat}{s:List UInt8}{l:La}(hw:(zD 32 [] s).getD 0 []=l.word)(h:∀ y∈lays,y.word=l.word->y.lo<=last->last<=y.hi->y=l):∀ y∈lays,pP y last s->y=l:=λy hy hf=>h y hy ((la_word (lays_open y hy) hf.2.2).symm.trans hw) hf.1 hf.2.1
def SameA (a:Option (Rt×Nat))(b:Option Rs):Prop:=match a,b with
 |none,none=>True
 |some (x,k),some y=>y=⟨x,stg k⟩/\InvA x k
 |_,_=>False
theorem pF {α:Type}{f:α->α}{l:List α}(h:l≠[]):yW f l≠[]:=by
 match l,h with
 | [a],_=>simp [yW]
 |a::b::r,_=>simp [yW]
theorem noE_three {l:List (List UInt8)}(h:l.length=3):noE l=true↔l.getD 0 []≠[]/\l.getD 1 []≠[]/\l.getD 2 []≠[]:=by
 match l,h with
 | [a,b,c],_=>simp [noE]
theorem stg_pos {k:Nat}(h:1<=k):stg k≠0:=by
 match k,h with
 |1,_=>decide
 |2,_=>decide
 |3,_=>decide
 |4,_=>decide
 |5,_=>decide
 |6,_=>decide
 |7,_=>decide
 |k+8,_=>exact (by show (7:Int)≠0;decide)
theorem stg_two {k:Nat}(h:k<=8):(stg k=2↔2<=k/\k<=3)/\(stg k=5↔k=6)/\(stg k<5↔k<=5)/\(stg k<=6↔k<=7)/\(stg k=3↔k=4):=by
 have:∀ j,j<=8->(stg j=2↔2<=j/\j<=3)/\(stg j=5↔j=6)/\(stg j<5↔j<=5)/\(stg j<=6↔j<=7)/\(stg j=3↔j=4):=by decide
 exact this k h
theorem parE_nil:parE []≠0:=by decide+kernel
theorem la_rest {l:La}{s:List UInt8}{k:Nat}{w:List (List UInt8)}{t:List UInt8}(ho:l.opn=true)(hk:l.parts=k+1)(h:bR s k=some (w,t)):xE l s=w++[t]:=by
 unfold xE
 rw [if_pos ho,hk]
 show bH 32 k s=_
 rw [pcsB_is]
 unfold bR at h
 split at h
 ·cases h
 ·split at h
  ·cases h
  ·split at h
   ·cases h
   ·simp only [Option.some.injEq,Prod.mk.injEq] at h
    obtain ⟨rfl,rfl⟩:=h
    rw [if_neg (by assumption)]
theorem anyS_of {x:Rs}{s:List UInt8}{w:List (List UInt8)}{t:List UInt8}(h:bR s 4=some (w,t)):anyS x s=if x.st=2/\(w.getD 3 []=vN\/w.getD 3 []=fG) then some ⟨{x.rc with needs:=yW (λn=>{n with any:=n.any++[anyW w t]}) x.rc.needs},2⟩ else none:=by unfold anyS;rw [h]
theorem whenS_of {x:Rs}{s:List UInt8}{w:List (List UInt8)}{t:List UInt8}(h:bR s 1=some (w,t)):whenS x s=if x.st=2 then some ⟨{x.rc with needs:=yW (λn=>{n with wh:=t}) x.rc.needs},3⟩ else if x.st=5 then some ⟨{x.rc with bars:=yW (λb=>{b with wh:=t}) x.rc.bars},6⟩ else none:=by unfold whenS;rw [h]
theorem barS_of {x:Rs}{s:List UInt8}{w:List (List UInt8)}{t:List UInt8}(h:bR s 2=some (w,t)):barS x s=if x.st<=6 then some ⟨{x.rc with bars:=x.rc.bars++[⟨w.getD 1 [],t,[]⟩]},5⟩ else none:=by unfold barS;rw [h]
theorem S_none {x:Rs}{s:List UInt8}:(bR s 4=none->anyS x s=none)/\(bR s 1=none->whenS x s=none)/\(bR s 2=none->barS x s=none):=
 ⟨λh=>by unfold anyS;rw [h],λh=>by unfold whenS;rw [h],λh=>by unfold barS;rw [h]⟩
theorem take_line {x:Rt}{k:Nat}(hI:InvA x k)(s:List UInt8):SameA (xP x k s lays) (tQ ⟨x,stg k⟩ s):=by
 obtain ⟨P,hP⟩:∃ P,zD 32 [] s=P:=⟨_,rfl⟩
 have h8:=hI.le
 have hs:=stg_two h8
 by_cases h0:k=0
 ·subst h0
  obtain rfl:=hI.z rfl
  have hone:∀ y∈lays,pP y 0 s->y=⟨1,bG,0,0,3,false,false⟩:=λy hy hf=>by
   simp only [lays,List.mem_cons,List.not_mem_nil,or_false] at hy
   rcases hy with rfl|rfl|rfl|rfl|rfl|rfl|rfl|rfl
   ·rfl
   all_goals exact absurd hf.1 (by decide)
  have hl:tQ ⟨fI,stg 0⟩ s=headS P:=by unfold tQ;rw [if_pos (show Rs.st ⟨fI,stg 0⟩=0 from rfl),hP]
  rw [hl]
  by_cases hf:pP ⟨1,bG,0,0,3,false,false⟩ 0 s
  ·rw [jL hf hone (by decide)]
   have hk:=hf.2.2
   unfold dV at hk
   rw [mM rfl,hP] at hk
   simp only [Bool.false_and,Bool.or_false,Bool.and_eq_true,decide_eq_true_eq] at hk
   obtain ⟨⟨h1,h2⟩,h3⟩:=hk
   have h4:=(noE_three h1).1 h3
   unfold outA headS
   rw [mM rfl,hP]
   by_cases h5:parE (P.getD 2 [])=0
   ·rw [if_pos (by simpa [mH] using h5),if_pos ⟨h1,h2,h4.2.1,h5⟩]
    exact ⟨rfl,⟨by decide,λh=>absurd h (by decide),λh=>absurd h (by decide),λh=>absurd h (by decide)⟩⟩
   ·rw [if_neg (by simpa [mH] using h5),if_neg (λq=>h5 q.2.2.2)];trivial
  ·rw [qE λy hy hq=>hf (hone y hy hq▸hq)]
   unfold headS
   rw [if_neg];· trivial
   rintro ⟨h1,h2,h3,h4⟩
   refine hf ⟨Nat.le_refl _,Nat.le_refl _, ?_⟩
   unfold dV
   rw [mM rfl,hP,(noE_three h1).2 ⟨by rw [h2];decide,h3,λe=>parE_nil (by rw [←e];exact h4)⟩]
   simp only [h1,h2,decide_true,Bool.true_or,Bool.and_self]
 have h1:1<=k:=by omega
 have hne:=stg_pos h1
 have hL:tQ ⟨x,stg k⟩ s=if P.getD 0 []=bQ then needS ⟨x,stg k⟩ P else if P.getD 0 []=nD then anyS ⟨x,stg k⟩ s else if P.getD 0 []=vQ then whenS ⟨x,stg k⟩ s else if P.getD 0 []=wOpt then optS ⟨x,stg k⟩ P else if P.getD 0 []=mZ then barS ⟨x,stg k⟩ s else if P.getD 0 []=xB then featS ⟨x,stg k⟩ P else none:=by
  unfold tQ;rw [if_neg hne,hP]
 rw [hL]
 clear hL
 have lays_cases:∀ {Q:La->Prop},Q ⟨1,bG,0,0,3,false,false⟩->Q ⟨2,bQ,1,5,1,false,false⟩->Q ⟨3,nD,2,3,5,true,false⟩->Q ⟨4,vQ,2,3,2,true,false⟩->Q ⟨5,wOpt,2,4,2,false,false⟩->Q ⟨6,mZ,1,7,3,true,false⟩->Q ⟨7,vQ,6,6,2,true,false⟩->Q ⟨8,xB,1,8,2,false,true⟩→∀ y∈lays,Q y:=λ{Q} q1 q2 q3 q4 q5 q6 q7 q8 y hy=>by
  simp only [lays,List.mem_cons,List.not_mem_nil,or_false] at hy
  rcases hy with rfl|rfl|rfl|rfl|rfl|rfl|rfl|rfl<;>assumption
 by_cases w2:P.getD 0 []=bQ
 ·rw [if_pos w2]
  have hone:∀ y∈lays,pP y k s->y=⟨2,bQ,1,5,1,false,false⟩:=pN (by rw [hP];exact w2) (lays_cases (λh=>absurd h (by decide)) (λ_ _ _=>rfl) (λh=>absurd h (by decide)) (λh=>absurd h (by decide)) (λh=>absurd h (by decide)) (λh=>absurd h (by decide)) (λh=>absurd h (by decide)) (λh=>absurd h (by decide)))
  have hk:dV ⟨2,bQ,1,5,1,false,false⟩ s=true↔P.length=1:=by
   unfold dV
   rw [mM rfl,hP]
   simp only [Bool.false_and,Bool.or_false,Bool.and_eq_true,decide_eq_true_eq]
   refine ⟨λh=>h.1.1,λh=>⟨⟨h,w2⟩, ?_⟩⟩
   match P,h,w2 with
   | [a],_,w2=>
    have:a=bQ:=w2
    subst this;decide
  unfold needS
  by_cases hf:pP ⟨2,bQ,1,5,1,false,false⟩ k s
  ·rw [jL hf hone (by decide),if_pos ⟨hk.1 hf.2.2,hs.2.2.1.2 hf.2.1⟩]
   exact ⟨rfl,⟨by decide,λh=>absurd h (by decide),λ_ _=>by simp [mH],λh=>absurd h (by decide)⟩⟩
  ·rw [qE λy hy hq=>hf (hone y hy hq▸hq),if_neg λq=>hf ⟨h1,hs.2.2.1.1 q.2,hk.2 q.1⟩];trivial
 rw [if_neg w2]
 by_cases w3:P.getD 0 []=nD
 ·rw [if_pos w3]
  have hone:∀ y∈lays,pP y k s->y=⟨3,nD,2,3,5,true,false⟩:=pN (by rw [hP];exact w3) (lays_cases (λh=>absurd h (by decide)) (λh=>absurd h (by decide)) (λ_ _ _=>rfl) (λh=>absurd h (by decide)) (λh=>absurd h (by decide)) (λh=>absurd h (by decide)) (λh=>absurd h (by decide)) (λh=>absurd h (by decide)))
  have hk:=open_ok (l:=⟨3,nD,2,3,5,true,false⟩) (s:=s) rfl rfl (k:=4) rfl
  by_cases hf:pP ⟨3,nD,2,3,5,true,false⟩ k s
  ·rw [jL hf hone (by decide)]
   obtain ⟨w,t,e1,e2,e3⟩:=hk.1 hf.2.2
   have hw:=(nJ e1).2
   rw [anyS_of e1]
   unfold outA
   rw [e2]
   match w,hw with
   | [a,b,c,d],_=>
    by_cases h5:d=vN\/d=fG
    ·rw [if_pos (by simpa [mH] using h5),if_pos ⟨hs.1.2 ⟨hf.1,hf.2.1⟩,h5⟩]
     exact ⟨rfl,⟨by decide,λh=>absurd h (by decide),λ_ _=>pF (hI.n hf.1 (by have:=hf.2.1;simp only at this;omega)),λh=>absurd h (by decide)⟩⟩
    ·rw [if_neg (by simpa [mH] using h5),if_neg λq=>h5 q.2];trivial
  ·rw [qE λy hy hq=>hf (hone y hy hq▸hq)]
   cases e1:bR s 4 with
   |none=>rw [S_none.1 e1];trivial
   |some p=>
    obtain ⟨w,t⟩:=p
    rw [anyS_of e1,if_neg];· trivial
    intro q
    have h23:=hs.1.1 q.1
    exact hf ⟨h23.1,h23.2,hk.2 ⟨w,t,e1,la_rest rfl rfl e1,by rw [(nJ e1).1,hP];exact w3⟩⟩
 rw [if_neg w3]
 by_cases w4:P.getD 0 []=vQ
 ·rw [if_pos w4]
  have hk4:=open_ok (l:=⟨4,vQ,2,3,2,true,false⟩) (s:=s) rfl rfl (k:=1) rfl
  have hk7:=open_ok (l:=⟨7,vQ,6,6,2,true,false⟩) (s:=s) rfl rfl (k:=1) rfl
  have hone4:k<=5→∀ y∈lays,pP y k s->y=⟨4,vQ,2,3,2,true,false⟩:=λh5=>pN (by rw [hP];exact w4) (lays_cases (λh=>absurd h (by decide)) (λh=>absurd h (by decide)) (λh=>absurd h (by decide)) (λ_ _ _=>rfl) (λh=>absurd h (by decide)) (λh=>absurd h (by decide)) (λ_ h _=>absurd (show 6<=k from h) Om) (λh=>absurd h (by decide)))
  have hone7:4<=k→∀ y∈lays,pP y k s->y=⟨7,vQ,6,6,2,true,false⟩:=λh5=>pN (by rw [hP];exact w4) (lays_cases (λh=>absurd h (by decide)) (λh=>absurd h (by decide)) (λh=>absurd h (by decide)) (λ_ _ h=>absurd (show k<=3 from h) Om) (λh=>absurd h (by decide)) (λh=>absurd h (by decide)) (λ_ _ _=>rfl) (λh=>absurd h (by decide)))
  cases e1:bR s 1 with
  |none=>
   rw [S_none.2.1 e1,qE];· trivial
   intro y hy hf
   by_cases h5:k<=5
   ·obtain rfl:=hone4 h5 y hy hf
    obtain ⟨w,t,e,_⟩:=hk4.1 hf.2.2
    rw [e1] at e;cases e
   ·obtain rfl:=hone7 Om y hy hf
    obtain ⟨w,t,e,_⟩:=hk7.1 hf.2.2
    rw [e1] at e;cases e
  |some p=>
   obtain ⟨w,t⟩:=p
   have hw:=(nJ e1).2
   have hw0:(w++[t]).getD 0 []=vQ:=by rw [(nJ e1).1,hP];exact w4
   rw [whenS_of e1]
   match w,hw with
   | [a],_=>
    by_cases h2:stg k=2
    ·have h23:=hs.1.1 h2
     rw [if_pos h2,jL (l:=⟨4,vQ,2,3,2,true,false⟩) ⟨h23.1,h23.2,hk4.2 ⟨_,t,e1,la_rest rfl rfl e1,hw0⟩⟩ (hone4 Om) (by decide)]
     unfold outA
     rw [la_rest (l:=⟨4,vQ,2,3,2,true,false⟩) rfl rfl e1]
     exact ⟨rfl,⟨by decide,λh=>absurd h (by decide),λ_ _=>pF (hI.n h23.1 Om),λh=>absurd h (by decide)⟩⟩
    ·rw [if_neg h2]
     by_cases h5:stg k=5
     ·have h6:=hs.2.1.1 h5
      subst h6
      rw [if_pos h5,jL (l:=⟨7,vQ,6,6,2,true,false⟩) ⟨Nat.le_refl _,Nat.le_refl _,hk7.2 ⟨_,t,e1,la_rest rfl rfl e1,hw0⟩⟩ (hone7 Om) (by decide)]
      unfold outA
      rw [la_rest (l:=⟨7,vQ,6,6,2,true,false⟩) rfl rfl e1]
      exact ⟨rfl,⟨by decide,λh=>absurd h (by decide),λ_ h=>absurd h (by decide),λ_ _=>pF (hI.b Om Om)⟩⟩
     ·rw [if_neg h5,qE];· trivial
      intro y hy hf
      by_cases h9:k<=5
      ·obtain rfl:=hone4 h9 y hy hf
       exact h2 (hs.1.2 ⟨hf.1,hf.2.1⟩)
      ·obtain rfl:=hone7 Om y hy hf
       have q1:6<=k:=hf.1
       have q2:k<=6:=hf.2.1
       exact h5 (hs.2.1.2 Om)
 rw [if_neg w4]
 by_cases w5:P.getD 0 []=wOpt
 ·rw [if_pos w5]
  have hone:∀ y∈lays,pP y k s->y=⟨5,wOpt,2,4,2,false,false⟩:=pN (by rw [hP];exact w5) (lays_cases (λh=>absurd h (by decide)) (λh=>absurd h (by decide)) (λh=>absurd h (by decide)) (λh=>absurd h (by decide)) (λ_ _ _=>rfl) (λh=>absurd h (by decide)) (λh=>absurd h (by decide)) (λh=>absurd h (by decide)))
  have hk:dV ⟨5,wOpt,2,4,2,false,false⟩ s=true↔P.length=2/\noE P=true:=by
   unfold dV
   rw [mM rfl,hP]
   simp only [Bool.false_and,Bool.or_false,Bool.and_eq_true,decide_eq_true_eq]
   exact ⟨λh=>⟨h.1.1,h.2⟩,λh=>⟨⟨h.1,w5⟩,h.2⟩⟩
  have h24:(stg k=2\/stg k=3)↔2<=k/\k<=4:=by rw [hs.1,hs.2.2.2.2];omega
  unfold optS
  by_cases hf:pP ⟨5,wOpt,2,4,2,false,false⟩ k s
  ·obtain ⟨h2,h3⟩:=hk.1 hf.2.2
   rw [jL hf hone (by decide),if_pos ⟨h2,h3,h24.2 ⟨hf.1,hf.2.1⟩⟩]
   unfold outA
   rw [mM rfl,hP]
   exact ⟨rfl,⟨by decide,λh=>absurd h (by decide),λ_ _=>pF (hI.n hf.1 (by have:=hf.2.1;simp only at this;omega)),λh=>absurd h (by decide)⟩⟩
  ·rw [qE λy hy hq=>hf (hone y hy hq▸hq),if_neg λq=>hf ⟨(h24.1 q.2.2).1,(h24.1 q.2.2).2,hk.2 ⟨q.1,q.2.1⟩⟩];trivial
 rw [if_neg w5]
 by_cases w6:P.getD 0 []=mZ
 ·rw [if_pos w6]
  have hone:∀ y∈lays,pP y k s->y=⟨6,mZ,1,7,3,true,false⟩:=pN (by rw [hP];exact w6) (lays_cases (λh=>absurd h (by decide)) (λh=>absurd h (by decide)) (λh=>absurd h (by decide)) (λh=>absurd h (by decide)) (λh=>absurd h (by decide)) (λ_ _ _=>rfl) (λh=>absurd h (by decide)) (λh=>absurd h (by decide)))
  have hk:=open_ok (l:=⟨6,mZ,1,7,3,true,false⟩) (s:=s) rfl rfl (k:=2) rfl
  by_cases hf:pP ⟨6,mZ,1,7,3,true,false⟩ k s
  ·rw [jL hf hone (by decide)]
   obtain ⟨w,t,e1,e2,e3⟩:=hk.1 hf.2.2
   have hw:=(nJ e1).2
   rw [barS_of e1,if_pos (hs.2.2.2.1.2 hf.2.1)]
   unfold outA
   rw [e2]
   match w,hw with
   | [a,b],_=>exact ⟨rfl,⟨by decide,λh=>absurd h (by decide),λ_ h=>absurd h (by decide),λ_ _=>by simp [mH]⟩⟩
  ·rw [qE λy hy hq=>hf (hone y hy hq▸hq)]
   cases e1:bR s 2 with
   |none=>rw [S_none.2.2 e1];trivial
   |some p=>
    obtain ⟨w,t⟩:=p
    rw [barS_of e1,if_neg];· trivial
    intro q
    exact hf ⟨h1,hs.2.2.2.1.1 q,hk.2 ⟨w,t,e1,la_rest rfl rfl e1,by rw [(nJ e1).1,hP];exact w6⟩⟩
 rw [if_neg w6]
 by_cases w8:P.getD 0 []=xB
 ·rw [if_pos w8]
  have hone:∀ y∈lays,pP y k s->y=⟨8,xB,1,8,2,false,true⟩:=pN (by rw [hP];exact w8) (lays_cases (λh=>absurd h (by decide)) (λh=>absurd h (by decide)) (λh=>absurd h (by decide)) (λh=>absurd h (by decide)) (λh=>absurd h (by decide)) (λh=>absurd h (by decide)) (λh=>absurd h (by decide)) (λ_ _ _=>rfl))
  have hk:dV ⟨8,xB,1,8,2,false,true⟩ s=true↔2<=P.length/\noE P=true:=by
   unfold dV
   rw [mM rfl,hP]
   simp only [Bool.true_and,Bool.and_eq_true,Bool.or_eq_true,decide_eq_true_eq]
   exact ⟨λh=>⟨by omega,h.2⟩,λh=>⟨⟨by omega,w8⟩,h.2⟩⟩
  unfold featS
  by_cases hf:pP ⟨8,xB,1,8,2,false,true⟩ k s
  ·rw [jL hf hone (by decide),if_pos (hk.1 hf.2.2)]
   unfold outA
   rw [mM rfl,hP]
   exact ⟨rfl,⟨by decide,λh=>absurd h (by decide),λ_ h=>absurd h (by decide),λ_ h=>absurd h (by decide)⟩⟩
  ·rw [qE λy hy hq=>hf (hone y hy hq▸hq),if_neg λq=>hf ⟨h1,h8,hk.2 q⟩];trivial
 rw [if_neg w8,qE];· trivial
 intro y hy hf
 have hw:=la_word (lays_open y hy) hf.2.2
 rw [hP] at hw
 have:y.word=bG\/y.word=bQ\/y.word=nD\/y.word=vQ\/y.word=wOpt\/y.word=mZ\/y.word=xB:=lays_cases (Q:=λy=>y.word=bG\/y.word=bQ\/y.word=nD\/y.word=vQ\/y.word=wOpt\/y.word=mZ\/y.word=xB) (by simp) (by simp) (by simp) (by simp) (by simp) (by simp) (by simp) (by simp) y hy
 rcases this with e|e|e|e|e|e|e
 ·have hy1:y=⟨1,bG,0,0,3,false,false⟩:=by
   revert e
   exact lays_cases (Q:=λy=>y.word=bG->y=⟨1,bG,0,0,3,false,false⟩) (λ_=>rfl) (λh=>absurd h (by decide)) (λh=>absurd h (by decide)) (λh=>absurd h (by decide)) (λh=>absurd h (by decide)) (λh=>absurd h (by decide)) (λh=>absurd h (by decide)) (λh=>absurd h (by decide)) y hy
  subst hy1
  exact h0 (Nat.le_zero.1 hf.2.1)
 ·exact w2 (hw.trans e)
 ·exact w3 (hw.trans e)
 ·exact w4 (hw.trans e)
 ·exact w5 (hw.trans e)
 ·exact w6 (hw.trans e)
 ·exact w8 (hw.trans e)
end
section
def idxP (v:Ver):List Sp->Int->Int
 | [],_=> -1
 |s::r,k=>if holdsC s v then k else idxP v r (k+1)
end
section
end
section
end
section
def leastV (v:Ver):Bool:=decide (v.maj=0) && decide (v.min=0) && decide (v.pat=0)
def rightC (c:Cu):Bool:=decide (¬ c.e=0)||(!c.aft && decide (c.v.pre=[]) && !leastV c.v)
def AllRight (l:List Sp):Prop:=∀ s∈l,rightC s.lo=true/\rightC s.hi=true
def valC (c:Cu):Int:=if c.e= -1 then 0 else if c.e=1 then 1000000000000 else c.v.code
def muI (v:Ver):Int:=if v.pre=[] then v.code else v.code-1
def mu (x:Cu):Int:=if x.e=0 then (if muI x.v<0 then 0 else muI x.v) else 0
def denN (l:List Sp)(n:Int):Bool:=l.any λs=>decide (valC s.lo<=n) && decide (n<valC s.hi)
end
section
def relV (v:Ver):Ver:=Ver.rel v.maj v.min v.pat
def relA (v:Ver):Cu:=if leastV v then d9 (-1) else ⟨0,relV v,false⟩
def relB (v:Ver):Cu:=if nextOk (relV v) then ⟨0,nextV (relV v),false⟩ else d9 1
def turnC (c:Cu):Cu:=if ¬ c.e=0 then c else if c.aft=true/\c.v.pre=[] then relB c.v else relA c.v
def turnS (s:Sp):Sp:=⟨turnC s.lo,turnC s.hi⟩
def makeRel (l:List Sp):List Sp:=makeL ((l.map turnS).filter (·.may))
def oneRel (v:Ver):List Sp:=[⟨relA v,relB v⟩]
def onePre (v:Ver):List Sp:=[⟨⟨0,wG v,false⟩,⟨0,wG v,true⟩⟩]
end
section
structure St where
 rel:List Sp
 pre:List Sp
def St.may (s:St):Bool:=tH s.rel && tH s.pre && s.rel.all λx=>rightC x.lo && rightC x.hi
structure SF (s:St)(n:Nat):Prop where
 rel:RF s.rel n
 pre:RF s.pre n
 right:AllRight s.rel
def setHas (s:St)(v:Ver):Bool:=s.may && v.may && (if v.pre=[] then rowHas s.rel v else rowHas s.pre v)
def noneT:St:=⟨[],[]⟩
def wholeL:List Sp:=[⟨d9 (-1),d9 1⟩]
def allT:St:=⟨wholeL,wholeL⟩
def orT (a b:St):St:=⟨orL a.rel b.rel,orL a.pre b.pre⟩
def andT (a b:St):St:=⟨andL a.rel b.rel,andL a.pre b.pre⟩
def notT (a:St):St:=⟨notL a.rel,notL a.pre⟩
def minusT (a b:St):St:=andT a (notT b)
def exactT (v:Ver):St:=if v.may then (if v.pre=[] then ⟨oneRel v,[]⟩ else ⟨[],onePre v⟩) else noneT
section
variable {a b:St}{n m:Nat}{v:Ver}(ha:SF a n)(hb:SF b m)(hv:v.may=true)
include ha hb hv
end
def edgeN (l:List Sp):List Int:=l.flatMap λs=>[s.lo,s.hi].filterMap λc=>if c.e=0 then some c.v.code else none
end
section
end
section
def highC (v:Ver):Nat->Cu
 |0=>if mG v 0 then ⟨0,bumpV v 0,false⟩ else d9 1
 |k+1=>if mG v ((k+1:Nat):Int) then ⟨0,bumpV v ((k+1:Nat):Int),false⟩ else highC v k
def turnsK (c:Co):Nat:=if 0<c.v.maj\/c.parts=1 then 0 else if 0<c.v.min\/c.parts=2 then 1 else 2
def Co.low (c:Co):Cu:=⟨0,wG c.v,false⟩
def Co.aft (c:Co):Cu:=if c.parts<3/\0<c.parts then highC c.v (c.parts-1).toNat else ⟨0,wG c.v,true⟩
def Co.span (c:Co):Cu×Cu:=
 if c.op=1\/c.op=2 then (c.low,c.aft) else if c.op=3 then (d9 (-1),c.low) else if c.op=4 then (d9 (-1),c.aft) else if c.op=5 then (c.aft,d9 1) else if c.op=6 then (c.low,d9 1)
 else if c.op=7 then (c.low,highC c.v (turnsK c)) else if c.op=8 then (c.low,highC c.v (min (c.parts-1) 1).toNat) else if c.parts=0 then (d9 (-1),d9 1) else (c.low,highC c.v (c.parts-1).toNat)
def oneRow (lo hi:Cu):List Sp:=addL [] lo hi
def Co.region (c:Co):List Sp:=if c.may then (if c.op=2 then notL (oneRow c.span.1 c.span.2) else oneRow c.span.1 c.span.2) else []
def Co.zone (c:Co):List Sp:=if c.may && !decide (c.v.pre=[]) then [⟨⟨0,{c.v with pre:=[48],build:=[]},false⟩,⟨0,{c.v with pre:=[],build:=[]},false⟩⟩] else []
def upN (v:Ver)(k:Nat):Int:=if k=0 then (v.maj+1)*100000000 else if k=1 then v.maj*100000000+(v.min+1)*10000 else v.code+1
def ordB (op n:Int):Bool:=if op=1 then decide (n=0) else if op=2 then decide (¬ n=0) else if op=3 then decide (n<0) else if op=4 then decide (n<=0) else if op=5 then decide (0<n) else decide (0<=n)
end
section
def fQ (c:Co)(v:Ver)(p:Int):Bool:=(decide (p<1)||decide (v.maj=c.v.maj)) && (decide (p<2)||decide (v.min=c.v.min)) && (decide (p<3)||decide (v.pat=c.v.pat))
def overB (c:Co)(v:Ver):Bool:=if ¬ v.maj=c.v.maj\/c.parts=1 then decide (c.v.maj<v.maj) else if ¬ v.min=c.v.min\/c.parts=2 then decide (c.v.min<v.min) else decide (c.v.pat<v.pat)
def saysN (c:Co):Int:=if 0<c.v.maj\/c.parts=1 then 1 else if 0<c.v.min\/c.parts=2 then 2 else 3
def saysB (c:Co)(v:Ver):Bool:=
 if c.op=1\/c.op=9 then fQ c v c.parts else if c.op=2 then !fQ c v c.parts else if c.op=3 then !fQ c v c.parts && !overB c v else if c.op=4 then fQ c v c.parts||!overB c v
 else if c.op=5 then overB c v else if c.op=6 then fQ c v c.parts||overB c v else if c.op=8 then fQ c v (min c.parts 2) && (fQ c v c.parts||overB c v)
 else fQ c v (saysN c) && (fQ c v c.parts||overB c v)
def truncN (v:Ver)(q:Nat):Int:=if q=1 then v.maj*100000000 else if q=2 then v.maj*100000000+v.min*10000 else v.code
end
section
theorem pcs_ne (p:List UInt8):pcs p≠[]:=qR 46 p []
def leastP (v:Ver):Ver:={v with pre:=[48],build:=[]}
def bareV (v:Ver):Ver:={v with pre:=[],build:=[]}
def withO (c:Co)(o:Int):Co:={c with op:=o}
end
section
def flatC:List Sp->List Cu
 | []=>[]
 |s::l=>s.lo::s.hi::flatC l
def altRel (a:List Co):List Sp:=a.foldl (λl c=>andL l c.region) wholeL
def altZone (a:List Co):List Sp:=a.foldl (λl c=>orL l c.zone) []
def altSet (a:List Co):St:=⟨makeRel (altRel a),andL (altRel a) (altZone a)⟩
def orAll (r:List (List Co)):St:=r.foldl (λs a=>orT s (altSet a)) noneT
def rgSet (r:List (List Co)):St:=if rgMay r then orAll r else noneT
end
section
theorem altsL_index:∀ (s acc:List UInt8),xM acc s=if Lib.index s [124,124]= -1 then [acc++s] else (acc++s.take (Lib.index s [124,124]).toNat)::xM [] (s.drop ((Lib.index s [124,124]).toNat+2))
 | [],acc=>by simp [xM,Lib.index]
 | [c],acc=>by simp [xM,Lib.index,List.isPrefixOf]
 |c::d::r,acc=>by
  by_cases h:c=124/\d=124
  ·obtain ⟨rfl,rfl⟩:=h
   have e:Lib.index (124::124::r) [124,124]=0:=by simp [Lib.index,List.isPrefixOf]
   rw [e,xM,if_pos ⟨rfl,rfl⟩,if_neg (by decide)];simp
  ·have hp:List.isPrefixOf ([124,124]:List UInt8) (c::d::r)=false:=by
    rw [List.isPrefixOf,List.isPrefixOf,List.isPrefixOf]
    by_cases hc:c=124
    ·have hd:¬ d=124:=λq=>h ⟨hc,q⟩
     have:((124:UInt8)==d)=false:=beq_eq_false_iff_ne.2 (Ne.symm hd)
     simp [this]
    ·have:((124:UInt8)==c)=false:=beq_eq_false_iff_ne.2 (Ne.symm hc)
     simp [this]
   have ge:=Lib.index_ge (d::r) [124,124]
   rw [xM,if_neg h,altsL_index (d::r) (acc++[c])]
   have e:Lib.index (c::d::r) [124,124]=if Lib.index (d::r) [124,124]= -1 then-1 else Lib.index (d::r) [124,124]+1:=by
    conv=>lhs;rw [Lib.index]
    rw [hp,if_neg (by decide)]
    simp
   rw [e]
   generalize Lib.index (d::r) [124,124]=n at ge
   by_cases hn:n= -1
   ·subst hn;simp
   ·rw [if_neg hn,if_neg hn,if_neg Om]
    have e2:(n+1).toNat=n.toNat+1:=by omega
    rw [e2,List.take_succ_cons,show n.toNat+1+2=(n.toNat+2)+1 from by omega,List.drop_succ_cons]
    simp
theorem splitK_from (sep:List UInt8):∀ (f:Nat) (s:List UInt8),s.length<f->Lib.splitK sep 0 (Lib.countFrom sep f s) s=if Lib.index s sep= -1 then [s] else s.take (Lib.index s sep).toNat::Lib.splitK sep 0 (Lib.countFrom sep (f-1) (s.drop ((Lib.index s sep).toNat+sep.length))) (s.drop ((Lib.index s sep).toNat+sep.length))
 |f+1,s,h=>by
  rw [Lib.countFrom]
  by_cases q:Lib.index s sep= -1
  ·rw [if_pos (by simp [q]),if_pos q,Lib.splitK]
  ·rw [if_neg (by simp [q]),if_neg q,Nat.add_comm 1,Lib.splitK,if_neg (by simp [q]),Nat.add_zero];rfl
theorem alts_from:∀ (f:Nat) (s:List UInt8),s.length<f->Lib.splitK [124,124] 0 (Lib.countFrom [124,124] f s) s=xM [] s
 |f+1,s,h=>by
  rw [splitK_from _ _ _ h,altsL_index s []]
  by_cases q:Lib.index s [124,124]= -1
  ·rw [if_pos q,if_pos q];rfl
  ·have hr:=Lib.index_room s [124,124] (by have:=Lib.index_ge s [124,124];omega)
   rw [if_neg q,if_neg q]
   show _::Lib.splitK [124,124] 0 (Lib.countFrom [124,124] f _) _=_
   rw [alts_from f _ (by rw [List.length_drop];simp only [List.length_cons,List.length_nil];simp only [List.length_cons,List.length_nil] at hr;have:=Lib.index_ge s [124,124];omega)]
   rfl
theorem split_alts (s:List UInt8):Lib.splitK [124,124] 0 (Lib.count s [124,124]) s=xM [] s:=alts_from _ s (Nat.lt_succ_self _)
theorem cut_index (b:UInt8)(s:List UInt8):zD b [] s=if Lib.index s [b]= -1 then [s] else s.take (Lib.index s [b]).toNat::zD b [] (s.drop ((Lib.index s [b]).toNat+1)):=by
 have hc:=cutAt_cut b s
 have hge:=Lib.index_ge s [b]
 rw [x9,←hc]
 unfold Lib.cut
 by_cases h:Lib.index s [b]= -1
 ·have h2:¬ 0<=Lib.index s [b]:=by omega
  simp [h]
 ·have h2:0<=Lib.index s [b]:=by omega
  simp [h,h2]
theorem cuts_from (b:UInt8):∀ (f:Nat) (s:List UInt8),s.length<f->Lib.splitK [b] 0 (Lib.countFrom [b] f s) s=zD b [] s
 |f+1,s,h=>by
  rw [splitK_from _ _ _ h,cut_index b s]
  by_cases q:Lib.index s [b]= -1
  ·rw [if_pos q,if_pos q]
  ·have hr:=Lib.index_room s [b] (by have:=Lib.index_ge s [b];omega)
   rw [if_neg q,if_neg q]
   show _::Lib.splitK [b] 0 (Lib.countFrom [b] f _) _=_
   rw [cuts_from b f _ (by rw [List.length_drop];simp only [List.length_cons,List.length_nil];simp only [List.length_cons,List.length_nil] at hr;have:=Lib.index_ge s [b];omega)]
   rfl
theorem pB (b:UInt8)(s:List UInt8):Lib.splitK [b] 0 (Lib.count s [b]) s=zD b [] s:=cuts_from b _ s (Nat.lt_succ_self _)
theorem tG (sep:List UInt8)(k:Nat)(s:List UInt8):Lib.splitB (mkS sep) 0 k (mkS s)=(Lib.splitK sep 0 k s).map mkS:=by
 have h:=Lib.splitB_data (mkS sep) 0 k (mkS s)
 rw [mk_data,mk_data] at h
 rw [←h,List.map_map]
 refine ((List.map_congr_left λx _=> ?_).trans (List.map_id _)).symm
 exact Lib.mk_data x
theorem splitB_alts (s:List UInt8):Lib.splitB (mkS [124,124]) 0 (Lib.countB (mkS s) (mkS [124,124])) (mkS s)=(xM [] s).map mkS:=by
 rw [tG,show Lib.countB (mkS s) (mkS [124,124])=Lib.count s [124,124] from by unfold Lib.countB;rw [mk_data,mk_data],split_alts]
theorem splitB_cuts (b:UInt8)(s:List UInt8):Lib.splitB (mkS [b]) 0 (Lib.countB (mkS s) (mkS [b])) (mkS s)=(zD b [] s).map mkS:=by
 rw [tG,show Lib.countB (mkS s) (mkS [b])=Lib.count s [b] from by unfold Lib.countB;rw [mk_data,mk_data],pB]
theorem bareF_drop:∀ (s:List UInt8),Lib.trimLeftB s 32=yG s
 | []=>rfl
 |c::l=>by
  unfold Lib.trimLeftB
  rw [yG,List.dropWhile_cons]
  by_cases h:c=32
  ·subst h
   rw [if_pos (by decide),if_pos rfl];exact bareF_drop l
  ·rw [if_neg (by simp [h]),if_neg h]
def bareR (s:List UInt8):List UInt8:=(yG s.reverse).reverse
theorem bareF_snoc {c:UInt8}(h:c≠32):∀ (x:List UInt8),yG (x++[c])=yG x++[c]
 | []=>by
  show yG [c]=[c]
  rw [yG];exact if_neg h
 |d::x=>by
  rw [List.cons_append,yG,yG]
  by_cases q:d=32
  ·rw [if_pos q,if_pos q,bareF_snoc h x]
  ·rw [if_neg q,if_neg q];rfl
theorem bareF_snoc32:∀ (x:List UInt8),yG (x++[32])=if yG x=[] then [] else yG x++[32]
 | []=>by simp [yG]
 |d::x=>by
  rw [List.cons_append,yG,yG]
  by_cases q:d=32
  ·rw [if_pos q,if_pos q,bareF_snoc32 x]
  ·rw [if_neg q,if_neg q,if_neg (by simp)];rfl
theorem bare_swap:∀ (s:List UInt8),yG (bareR s)=bareR (yG s)
 | []=>rfl
 |c::l=>by
  have ih:=bare_swap l
  by_cases h:c=32
  ·subst h
   rw [show yG (32::l)=yG l from by rw [yG,if_pos rfl],←ih]
   unfold bareR
   rw [List.reverse_cons,bareF_snoc32]
   by_cases q:yG l.reverse=[]
   ·rw [if_pos q,q]
   ·rw [if_neg q,List.reverse_append]
    show yG (32::(yG l.reverse).reverse)=_
    rw [yG,if_pos rfl]
  ·rw [show yG (c::l)=c::l from by rw [yG,if_neg h]]
   unfold bareR
   rw [List.reverse_cons,bareF_snoc h,List.reverse_append]
   show yG (c::(yG l.reverse).reverse)=c::(yG l.reverse).reverse
   rw [yG,if_neg h]
theorem trim_bare (s:List UInt8):Lib.trimB s 32=yD s:=by
 unfold Lib.trimB Lib.trimRightB
 have e:∀ l:List UInt8,l.dropWhile (·==32)=yG l:=bareF_drop
 rw [e,bareF_drop]
 exact bare_swap s
def fM (r:List (List Co)):List UInt8:=if fewR r then kF r else []
theorem altText_ne {a:List Co}(h:fewA a=true):xF a≠[]:=by
 obtain ⟨h1,h2⟩:=fewA.facts h
 cases a with
 |nil=>exact absurd h1.1 (by decide)
 |cons c l=>
  have hc:c.print≠[]:=by
   rw [v6 (h2 c (List.mem_cons_self ..))]
   exact text_ne (h2 c (List.mem_cons_self ..))
  unfold xF
  cases l with
  |nil=>exact hc
  |cons d l=>
   rw [List.map_cons,List.map_cons,joinB_two]
   intro e
   exact hc (List.append_eq_nil_iff.1 (List.append_eq_nil_iff.1 e).1).1
theorem rgText_ne {r:List (List Co)}(h:fewR r=true):kF r≠[]:=by
 obtain ⟨h1,h2⟩:=fewR.facts h
 cases r with
 |nil=>exact absurd h1.1 (by decide)
 |cons a l=>
  have hc:=altText_ne (h2 a (List.mem_cons_self ..))
  unfold kF
  cases l with
  |nil=>exact hc
  |cons d l=>
   rw [List.map_cons,List.map_cons,joinB_two]
   intro e
   exact hc (List.append_eq_nil_iff.1 (List.append_eq_nil_iff.1 e).1).1
theorem textR_nil {r:List (List Co)}:fM r=[]↔fewR r=false:=by
 unfold fM
 cases h:fewR r with
 |false=>simp
 |true=>simp [rgText_ne h]
theorem print_text (r:List (List Co)):jN r=if 96<(fM r).length then [] else fM r:=by
 unfold jN rgMay fM
 cases fewR r with
 |false=>simp
 |true=>
  by_cases h:(kF r).length<=96
  ·simp [h,Nat.not_lt.2 h]
  ·simp [h,Nat.lt_of_not_le h]
end
section
def dO:Nat->List UInt8->List (List UInt8)
 |0,s=>[s]
 |k+1,s=>if (zA 46 s).2.2 then (zA 46 s).1::dO k (zA 46 s).2.1 else [s]
theorem pcsK_len:∀ (k:Nat) (s:List UInt8),1<=(dO k s).length/\(dO k s).length<=k+1
 |0,s=>⟨Nat.le_refl _,Nat.le_refl _⟩
 |k+1,s=>by
  have h:=pcsK_len k (zA 46 s).2.1
  unfold dO
  split
  ·simp only [List.length_cons];omega
  ·simp only [List.length_cons,List.length_nil];omega
theorem pcsK_mem:∀ (k:Nat) (s:List UInt8),∀ x∈dO k s,x.length<=s.length
 |0,s,x,hx=>by rw [List.mem_singleton.1 hx];exact Nat.le_refl _
 |k+1,s,x,hx=>by
  unfold dO at hx
  have hl:=bM 46 s
  split at hx
  ·rcases List.mem_cons.1 hx with e|hx
   ·rw [e];omega
   ·have:=pcsK_mem k (zA 46 s).2.1 x hx;omega
  ·rw [List.mem_singleton.1 hx];exact Nat.le_refl _
theorem pcsK_join:∀ (k:Nat) (l:List (List UInt8)),l≠[]->l.length<=k+1->(∀ x∈l,(46:UInt8)∉x)->dO k (zG 46 l)=l
 |_,[],h,_,_=>absurd rfl h
 |0,[x],_,_,_=>rfl
 |k+1,[x],_,_,h=>by
  unfold dO
  show (if (zA 46 x).2.2=true then _ else _)=_
  rw [jH 46 x (h x (List.mem_singleton.2 rfl))]
  exact if_neg Bool.false_ne_true
 |0,x::y::r,_,hl,_=>by simp at hl
 |k+1,x::y::r,_,hl,h=>by
  have ih:=pcsK_join k (y::r) (by simp) (by simpa using hl) λz hz=>h z (List.mem_cons_of_mem _ hz)
  unfold dO
  rw [zG,bC 46 _ _ (h x (List.mem_cons_self ..)),if_pos rfl]
  dsimp only
  rw [ih]
def sgo (s:List UInt8):Nat->Int×List UInt8
 |0=>(7,s)
 |k+1=>if yL s (y7 ((k+1:Nat):Int))=true/\(s.drop (y7 ((k+1:Nat):Int)).length).length<(sgo s k).2.length then (((k+1:Nat):Int),s.drop (y7 ((k+1:Nat):Int)).length) else sgo s k
theorem sgo_le (s:List UInt8):∀ k,(sgo s k).2.length<=s.length
 |0=>Nat.le_refl _
 |k+1=>by
  unfold sgo
  split
  ·show (s.drop _).length<=_;rw [List.length_drop];omega
  ·exact sgo_le s k
def dC (s:List UInt8):List (List UInt8):=dO 2 (zA 45 (sgo s 8).2).1
def starP (s:List UInt8):Bool:=decide ((dC s).getLast?=some [42])
def jZ (s:List UInt8):Co:=⟨if starP s then 9 else (sgo s 8).1,if starP s then ((dC s).length:Int) -1 else ((dC s).length:Int),⟨zI (tg (dC s) 0),zI (tg (dC s) 1),zI (tg (dC s) 2),(zA 45 (sgo s 8).2).2.1,[]⟩⟩
theorem nob {d a:UInt8}{r t:List UInt8}(h:d≠a):¬ (yL (d::r) (a::t)=true):=by rw [vF h];decide
theorem sgo_plain {d:UInt8}{r:List UInt8}(h:yJ d.toNat=true\/d=42):sgo (d::r) 8=(7,d::r):=by
 have hd:∀ a:UInt8,yJ a.toNat=false->a≠42->d≠a:=λa ha h42 e=>by
  subst e
  rcases h with h|h
  ·rw [ha] at h;cases h
  ·exact h42 h
 have hb:∀ k:Nat,1<=k->k<=8→¬ (yL (d::r) (y7 (k:Int))=true):=λk h1 h8=>by
  have hk:k=1\/k=2\/k=3\/k=4\/k=5\/k=6\/k=7\/k=8:=by omega
  rcases hk with rfl|rfl|rfl|rfl|rfl|rfl|rfl|rfl
  ·exact nob (hd 61 (by decide) (by decide))
  ·exact nob (hd 33 (by decide) (by decide))
  ·exact nob (hd 60 (by decide) (by decide))
  ·exact nob (hd 60 (by decide) (by decide))
  ·exact nob (hd 62 (by decide) (by decide))
  ·exact nob (hd 62 (by decide) (by decide))
  ·exact nob (hd 94 (by decide) (by decide))
  ·exact nob (hd 126 (by decide) (by decide))
 have:∀ k:Nat,k<=8->sgo (d::r) k=(7,d::r):=λk=>by
  induction k with
  |zero=>intro _;rfl
  |succ k ih=>
   intro h8
   unfold sgo
   rw [if_neg (λq=>hb (k+1) Om h8 q.1)]
   exact ih Om
 exact this 8 (by decide)
theorem sgo_sign {op:Int}(h1:1<=op)(h8:op<=8){d:UInt8}{r:List UInt8}(hd:yJ d.toNat=true):sgo (y7 op++d::r) 8=(op,d::r):=by
 have h61:d≠61:=λe=>by subst e;revert hd;decide
 have hop:op=1\/op=2\/op=3\/op=4\/op=5\/op=6\/op=7\/op=8:=by omega
 rcases hop with rfl|rfl|rfl|rfl|rfl|rfl|rfl|rfl<;>simp [y7,sgo,yL,h61]
theorem numD_star:zI [42]=0:=by decide
theorem tg_star {v:Ver}(hv:v.may=true){n:Nat}(h:n<=2)(h0:0<n\/v.maj=0)(h1:1<n\/v.min=0)(h2:2<n\/v.pat=0):zI (tg (zZ v n++[[42]]) 0)=v.maj/\zI (tg (zZ v n++[[42]]) 1)=v.min/\zI (tg (zZ v n++[[42]]) 2)=v.pat:=by
 obtain ⟨m1,m2,m3⟩:=qB hv
 have e1:=qV m1
 have e2:=qV m2
 match n,h with
 |0,_=>exact ⟨numD_star.trans (h0.resolve_left (by decide)).symm,(h1.resolve_left (by decide)).symm,(h2.resolve_left (by decide)).symm⟩
 |1,_=>exact ⟨e1,numD_star.trans (h1.resolve_left (by decide)).symm,(h2.resolve_left (by decide)).symm⟩
 |2,_=>exact ⟨e1,e2,numD_star.trans (h2.resolve_left (by decide)).symm⟩
theorem rest_pieces {c:Co}(h:c.may=true):dO 2 (zA 45 c.rest).1=(if c.op=9 then zZ c.v c.parts.toNat++[[42]] else zZ c.v c.parts.toNat)/\(zA 45 c.rest).2.1=c.v.pre:=by
 obtain ⟨_,hv,hb,h9,hn,hp,k0,k1,k2⟩:=Co.facts h
 unfold Co.rest
 by_cases e:c.op=9
 ·rw [if_pos e,if_pos e]
  have f:∀ b:UInt8,yJ b.toNat=false->b≠42→∀ x∈zZ c.v c.parts.toNat++[[42]],b∉x:=λb hb hb2 x hx=>by
   rcases List.mem_append.1 hx with hx|hx
   ·exact wX hv b hb x hx
   ·rw [List.mem_singleton.1 hx]
    intro hm
    exact hb2 (List.mem_singleton.1 hm)
  rw [jH 45 _ (fT 45 (by decide) _ (f 45 (by decide) (by decide)))]
  have hq:=h9 e
  have hpre:c.v.pre=[]:=hp.resolve_left Om
  refine ⟨?_,hpre.symm⟩
  refine pcsK_join 2 _ (by simp) ?_ (f 46 (by decide) (by decide))
  rw [List.length_append,jP c.v Om]
  simp only [List.length_cons,List.length_nil];omega
 ·rw [if_neg e,if_neg e]
  have hq:=hn e
  have hlen:=jP c.v (n:=c.parts.toNat) Om
  have hne:zZ c.v c.parts.toNat≠[]:=λh0=>by
   rw [h0] at hlen
   simp at hlen;omega
  rw [cut_tail 45 _ _ (fT 45 (by decide) _ (wX hv 45 (by decide)))]
  exact ⟨pcsK_join 2 _ hne Om (wX hv 46 (by decide)),rfl⟩
theorem nums_last {c:Co}(h:c.may=true)(hn:¬ c.op=9):¬ (zZ c.v c.parts.toNat).getLast?=some [42]:=λhl=>by
 have hv:=(Co.facts h).2.1
 have:=wX hv 42 (by decide) _ (List.mem_of_getLast? hl)
 exact this (List.mem_singleton.2 rfl)
theorem guess_of {c:Co}{s:List UInt8}(h:c.may=true)(hs:(sgo s 8).2=c.rest)(ho:c.op=9\/(sgo s 8).1=c.op):jZ s=c:=by
 obtain ⟨_,hv,hb,h9,hn,hp,k0,k1,k2⟩:=Co.facts h
 obtain ⟨p1,p2⟩:=rest_pieces h
 have hpc:dC s=if c.op=9 then zZ c.v c.parts.toNat++[[42]] else zZ c.v c.parts.toNat:=by unfold dC;rw [hs];exact p1
 unfold jZ
 rw [hs,p2]
 by_cases e:c.op=9
 ·have hq:=h9 e
  rw [if_pos e] at hpc
  have hst:starP s=true:=by unfold starP;rw [hpc,List.getLast?_concat];exact decide_eq_true rfl
  obtain ⟨e1,e2,e3⟩:=tg_star hv (n:=c.parts.toNat) Om Om Om Om
  rw [hst,hpc,if_pos rfl,if_pos rfl,e1,e2,e3,List.length_append,jP c.v Om,List.length_singleton]
  obtain ⟨op,parts,a,b,d,q,r⟩:=c
  simp only at hb e hq ⊢
  rw [hb,e]
  congr 1
  omega
 ·have hq:=hn e
  rw [if_neg e] at hpc
  have hst:starP s=false:=by unfold starP;rw [hpc];exact decide_eq_false (nums_last h e)
  obtain ⟨e1,e2,e3⟩:=nums_back hv (n:=c.parts.toNat) Om Om Om Om
  rw [hst,hpc,if_neg (by decide),if_neg (by decide),e1,e2,e3,jP c.v Om,ho.resolve_left e]
  obtain ⟨op,parts,a,b,d,q,r⟩:=c
  simp only at hb hq ⊢
  rw [hb]
  congr 1
  omega
theorem guess_co {c:Co}{s:List UInt8}(h:c.may=true)(hs:c.text=s\/c.text=94::s):jZ s=c:=by
 obtain ⟨ho,_⟩:=Co.facts h
 by_cases hn:c.op=9
 ·obtain ⟨d,r,e,hd⟩:=star_head h hn
  have ht:c.text=d::r:=by unfold Co.text;rw [hn,show y7 9=[] from rfl,List.nil_append,e]
  rcases hs with hs|hs
  ·rw [ht] at hs
   rw [←hs]
   exact guess_of h (by rw [sgo_plain hd,e]) (.inl hn)
  ·rw [ht] at hs
   injection hs with e1 _
   rw [e1] at hd
   exact absurd hd (by decide)
 ·obtain ⟨d,r,e,hd⟩:=nI h hn
  have ht:c.text=y7 c.op++d::r:=by unfold Co.text;rw [e]
  have hs8:=sgo_sign ho.1 Om (r:=r) hd
  rcases hs with hs|hs
  ·rw [ht] at hs
   rw [←hs]
   exact guess_of h (by rw [hs8,e]) (.inr (by rw [hs8]))
  ·rw [ht] at hs
   have hop:c.op=1\/c.op=2\/c.op=3\/c.op=4\/c.op=5\/c.op=6\/c.op=7\/c.op=8:=by omega
   have h7:c.op=7:=by rcases hop with e2|e2|e2|e2|e2|e2|e2|e2<;>rw [e2] at hs<;>first|exact e2|simp [y7] at hs
   rw [h7] at hs
   have hs2:d::r=s:=by injection hs
   rw [←hs2]
   exact guess_of h (by rw [sgo_plain (.inl hd),e]) (.inr (by rw [sgo_plain (.inl hd),h7]))
theorem guess_nil:jZ []=⟨7,1,⟨0,0,0,[],[]⟩⟩:=by decide
theorem fits_may {s:List UInt8}(h:(jZ s).print=s\/(jZ s).print=94::s):(jZ s).may=true:=by
 refine print_may λe=> ?_
 rw [e] at h
 rcases h with h|h
 ·subst h
  revert e
  rw [guess_nil]
  decide+kernel
 ·cases h
theorem prog_some {s:List UInt8}(h:(jZ s).print=s\/(jZ s).print=94::s):g0 s=some (jZ s):=by
 have hm:=fits_may h
 rw [v6 hm] at h
 exact (pL s _).2 ⟨hm,h⟩
theorem prog_none {s:List UInt8}(h:¬ ((jZ s).print=s\/(jZ s).print=94::s)):g0 s=none:=by
 cases hp:g0 s with
 |none=>rfl
 |some c=>
  obtain ⟨hm,ht⟩:=(pL s c).1 hp
  have hg:=guess_co hm ht
  rw [hg,v6 hm] at h
  exact absurd ht h
def behC (c:Co):Cu:=if c.parts=3 then ⟨0,c.v,true⟩ else if c.parts=0 then d9 1 else highC c.v (c.parts-1).toNat
def leadK (c:Co):Int:=if ¬ c.v.maj=0 then 0 else if ¬ c.v.min=0 then 1 else if ¬ c.v.pat=0 then 2 else c.parts-1
def boundC (c:Co):Cu×Cu:=
 if c.op=3 then (d9 (-1),⟨0,c.v,false⟩) else if c.op=4 then (d9 (-1),behC c) else if c.op=5 then (behC c,d9 1) else if c.op=6 then (⟨0,c.v,false⟩,d9 1)
 else if c.op=7 then (⟨0,c.v,false⟩,highC c.v (leadK c).toNat) else if c.op=8 then (⟨0,c.v,false⟩,highC c.v (min (c.parts-1) 1).toNat) else if c.parts=0 then (d9 (-1),d9 1) else (⟨0,c.v,false⟩,behC c)
end
section
theorem rjoin_any (v:Value)(l:List (List UInt8))(b:UInt8)(w:World)(hv:ReadsT w w.heap.size v l)(hl:(zG b l).length<=1000000000)(hn:l.length<=1000000000):
  YC 119 #[v,.int .u8 b.toNat] w (YR (.string (mkS (zG b l))) w):=by
 have hcv:=λ(w:World) (x:Int)=>conv1 w x
 obtain ⟨A,cap,rfl,hcell⟩:=hv
 go_enter Tryz.func119,Tryz.ntmps119
 go_wp2
 go_loopw [5,6] (λsv iv wr=>∃ (k:Nat),iv=YI k/\k<=l.length/\sv= .string (mkS (zG b (l.take k)))/\Below w.heap.size w wr) (λ_ iv _=>l.length-(intOf iv).toNat)
 case atStart=>exact ⟨0,rfl,Nat.zero_le _,rfl,Below.refl _ _⟩
 case round=>
  obtain ⟨k,rfl,hk,rfl,hb⟩:=hrel
  have hsz:=hb.size
  by_cases hp:k<l.length
  ·obtain ⟨ad,rfl,hlt,hc⟩:=hcell Om
   have hck:wr.cell? (ad.add k)=some (.string (mkS l[k])):=(hb.cell (by rw [pV];exact hlt)).trans (hc k hp)
   have hln:(zG b (l.take (k+1))).length<=1000000000:=Nat.le_trans (joinL_take_le b l (k+1)) hl
   have HJ:=Lib.hid (joinL_snoc b (l.take k) l[k])
   rw [←take_snocL l k hp] at HJ
   clear hc hcell
   by_cases h0:k=0
   ·subst h0
    have hx1:(mkS (zG b [])).size<=0:=by rw [bI];simp [zG]
    have hx2:(mkS l[0]).size<=1000000000:=by
     rw [bI];rw [HJ.out,if_pos List.take_zero] at hln;exact hln
    have hck0:wr.cell? ad=some (.string (mkS l[0])):=hck
    clear hck
    go_wp2
    go_roundw
    case rel=>exact ⟨0+1,by go_num,by omega,by rw [HJ.out,if_pos List.take_zero,yZ];rfl,hb⟩
    case measure=>simp [intOf];omega
   ·have h0p:0<k:=by omega
    have hlen:(zG b (l.take k)).length+(l[k].length+1)<=1000000000:=by
     rw [HJ.out,if_neg (fN l k hp h0p),List.length_append,List.length_cons] at hln;exact hln
    have hx1:(mkS (zG b (l.take k))).size+((mkS l[k]).size+1)<=1000000000:=by rw [bI,bI];exact hlen
    have hx2:(one (b.toNat:Int)).size<=1:=Nat.le_refl _
    have hx3:(mkS (zG b (l.take k))++one (b.toNat:Int)).size<=(mkS (zG b (l.take k))).size+1:=by rw [ByteArray.size_append];omega
    clear hlen
    have hck2:=λo=>(World.cell?_alloc_lt wr o (ad.add k) (by rw [pV];omega)).trans hck
    clear hck
    go_wp2
    go_roundw
    case rel=>exact ⟨k+1,by go_num,by omega,by rw [HJ.out,if_neg (fN l k hp h0p),one_mk,yZ,yZ,List.append_assoc];rfl,hb.alloc hsz _⟩
    case measure=>simp [intOf];omega
  ·obtain rfl:k=l.length:=by omega
   go_wp2
   go_ret
   exact ⟨wI (by rw [List.take_length]),hb⟩
end
section
section
variable {M:List Nat}{P:Program}{n:Nat}{ops:Array Oper}{W:World}{L0:List Blk}{Q:Exit->Act->World->Prop}{fuel:Nat}{listed:Array Bool}{L:List Blk}{f:Nat->Value}
end
theorem mP {M:List Nat}{W w:World}{L:List Blk}(h:Own M W w L):Own M W w []:=h.sublist (List.nil_sublist _)
end
section
theorem rsplit_own (s:List UInt8)(W:World)(hs:s.length<=1000000):
  YC 127 #[.string (mkS s),.int .u8 46] W λe w'=>∃ v' ob',e= .returned v'/\SlT v' (pcs s) ob'/\Own [] W w' ob':=
 (rsplit_mk s W hs).mono λe w' ⟨v,h1,h2,h3⟩=>by
  obtain ⟨ob,k1,k2⟩:=Own.row h2 h3
  exact ⟨v,ob,h1,k1,k2⟩
end
section
def cpL (s t:List UInt8):List UInt8:=if yL s t=true then s.drop t.length else s
theorem prefix_begins:∀ (t s:List UInt8),t.isPrefixOf s=yL s t
 | [],s=>by simp [yL]
 |a::t,[]=>by simp [yL,List.isPrefixOf]
 |a::t,b::s=>by
  have ih:=prefix_begins t s
  unfold yL at ih ⊢
  rw [List.isPrefixOf,ih,List.length_cons,List.take_succ_cons]
  by_cases h:a=b
  ·subst h;simp
  ·simp [h,Ne.symm h]
theorem cutpre_any (s t:List UInt8)(w:World):YC 161 #[.string (mkS s),.string (mkS t)] w (YR (.tuple #[.string (mkS (cpL s t)),.bool (yL s t)]) w):=
 (Tryz.strings_CutPrefix (mkS s) (mkS t) w).mono λe w' ⟨he,hw⟩=>by
  subst hw
  refine ⟨?_,Below.refl _ _⟩
  rw [he,mk_data,mk_data]
  unfold Lib.trimPrefix Lib.hasPrefix cpL
  rw [prefix_begins];rfl
theorem splitK_pcs:∀ (k:Nat) (s:List UInt8),Lib.splitK [46] 0 k s=dO k s
 |0,s=>rfl
 |k+1,s=>by
  have hc:=cutAt_cut 46 s
  have hge:=Lib.index_ge s [46]
  unfold Lib.splitK dO
  rw [←hc]
  unfold Lib.cut
  by_cases h:Lib.index s [46]= -1
  ·have h2:¬ 0<=Lib.index s [46]:=by omega
   simp [h]
  ·have h2:0<=Lib.index s [46]:=by omega
   simp [h,h2,splitK_pcs k]
theorem pcsK_more:∀ (k:Nat) (s:List UInt8),s.length<=k->dO k s=dO (k+1) s
 |0,s,h=>by
  obtain rfl:=List.eq_nil_of_length_eq_zero (Nat.le_zero.1 h)
  rfl
 |k+1,s,h=>by
  have hl:=dA 46 s
  rw [dO]
  conv=>rhs;rw [dO]
  cases hq:(zA 46 s).2.2 with
  |false=>rw [if_neg Bool.false_ne_true,if_neg Bool.false_ne_true]
  |true=>
   rw [hq,if_pos rfl] at hl
   rw [if_pos rfl,if_pos rfl,pcsK_more k _ Om]
theorem pcsK_min (s:List UInt8):dO (min 3 (s.length+1) -1) s=dO 2 s:=by
 by_cases h0:s.length=0
 ·rw [h0,show min 3 (0+1) -1=0 from rfl,pcsK_more 0 s Om,pcsK_more 1 s Om]
 ·by_cases h1:s.length=1
  ·rw [h1,show min 3 (1+1) -1=1 from rfl,pcsK_more 1 s Om]
  ·rw [show min 3 (s.length+1) -1=2 by omega]
theorem splitB_pcs (k:Nat)(s:List UInt8):Lib.splitB ⟨#[46]⟩ 0 k (mkS s)=(dO k s).map mkS:=by
 have h:=Lib.splitB_data ⟨#[46]⟩ 0 k (mkS s)
 rw [mk_data,show (⟨#[46]⟩:ByteArray).data.toList=[46] from rfl,splitK_pcs] at h
 rw [←h,List.map_map]
 refine ((List.map_congr_left λx _=> ?_).trans (List.map_id _)).symm
 exact Lib.mk_data x
theorem split3_any (s:List UInt8)(W:World)(hs:s.length<=1000000):
  YC 235 #[.string (mkS s),.string ⟨#[46]⟩,YI 0,YI 3] W λe w'=>∃ v' ob',e= .returned v'/\SlT v' (dO 2 s) ob'/\Own [] W w' ob':=by
 have hsz:=zQ s
 have hI:∀ (x:ByteArray) (c:Array Value),x.size<=(mkS s).size->YC 283 #[.string x,.string ⟨#[46]⟩] (W.alloc (.cells c 9)) λe w'=>e= .returned (YI (Lib.indexB x ⟨#[46]⟩))/\w'=W.alloc (.cells c 9):=
  λx c _=>(Tryz.strings_Index_one x 46 _).mono λe w' ⟨he,hw⟩=>⟨by rw [he,dD];try rfl,hw⟩
 have hC:YC 282 #[.string (mkS s),.string ⟨#[46]⟩] W λe w'=>e= .returned (YI (Lib.countB (mkS s) ⟨#[46]⟩))/\w'=W:=
  (Tryz.strings_Count_one (mkS s) 46 W).mono λe w' ⟨he,hw⟩=>⟨by rw [he];show _=Ending.returned (Value.int .i64 ((Lib.count (mkS s).data.toList [46]:Nat):Int));rw [Lib.count_one];rfl,hw⟩
 have c:=Any.strings_genSplit_core Tryz.lays221 Kr (mkS s) ⟨#[46]⟩ 0 3 (min 3 ((mkS s).size+1)) W Om (by decide) (Nat.zero_le _) hI hC (by decide) (by decide) (by rw [if_neg (by decide)];omega)
 rw [hsz,splitB_pcs,pcsK_min] at c
 obtain ⟨hl1,hl3⟩:=pcsK_len 2 s
 have hle:(dO 2 s).length<=min 3 (s.length+1):=by
  have h:=Lib.splitB_length_le ⟨#[46]⟩ 0 (min 3 (s.length+1) -1) (mkS s)
  rw [splitB_pcs,pcsK_min,List.length_map] at h
  omega
 rw [List.length_map] at c
 refine Calls.mono c λe w' ⟨he,hw⟩=> ?_
 subst hw
 refine ⟨_,_,he,⟨by rw [wT];omega,.inr ⟨W.heap.size,min 3 (s.length+1),_,rfl,rfl,hle,by unfold maxLen;omega,by rw [Lib.cellsOf_size (by rw [List.length_map];exact hle),Nat.mul_one], ?_⟩⟩,(Own.start [] W).alloc _ _⟩
 unfold Lib.cellsOf
 rw [List.map_map,List.take_append_of_le_length (by rw [List.length_map];omega),List.take_of_length_le (by rw [List.length_map];omega)]
 rfl
end
section
section
variable {M:List Nat}{P:Program}{n:Nat}{W:World}{L:List Blk}{f:Nat->Value}
theorem fin_ret3 {fn:Func}{R:Ending->World->Prop}{t u s:Tmp}(v v' v2:Value)(hres:fn.results= #[.tmp t,.tmp u,.tmp s])(hv:ev n f (.tmp t)=v)(hv':ev n f (.tmp u)=v')(hv2:ev n f (.tmp s)=v2)(hR:∀ w,Own M W w L->R (.returned (.tuple #[v,v',v2])) w):Fin M n W (bodyPost P fn R) .ret L f:=⟨λw hO=>by
 have e1:(Fr n f).tmps.getD t undef=v:=(kT n f t).trans hv
 have e2:(Fr n f).tmps.getD u undef=v':=(kT n f u).trans hv'
 have e3:(Fr n f).tmps.getD s undef=v2:=(kT n f s).trans hv2
 have hr:∀ tm:Array Value,(results fn tm).run P w= .ok (.tuple #[tm.getD t undef,tm.getD u undef,tm.getD s undef]) w:=λtm=>by simp [results,hres]
 refine bodyPost_ret (v:= .tuple #[v,v',v2]) ?_ rfl (hR w hO)
 rw [hr,e1,e2,e3]⟩
end
end
section
section
variable {M:List Nat}{P:Program}{n:Nat}{ops:Array Oper}{W:World}{Q:Exit->Act->World->Prop}{L:List Blk}{f:Nat->Value}{rest:List Oper}{o:Oper}
def RoundW (n:Nat)(Inv:World->(Nat->Value)->Nat->Prop)(m:Nat)(Q:Exit->Act->World->Prop):Exit->Act->World->Prop:=
 Exit.then (λa w=>∃ f m',m'<m/\Inv w f m'/\a=Fr n f) Q
theorem fin_roundW {Inv:World->(Nat->Value)->Nat->Prop}{m m':Nat}(hlt:m'<m)(hI:∀ w,Own M W w L->Inv w f m'):Fin M n W (RoundW n Inv m Q) .normal L f:=⟨λw hO=>⟨f,m',hlt,hI w hO,rfl⟩⟩
end
structure RdT (w:World)(v:Value)(l:List (List UInt8)):Prop where
 ex:∃ A cap,v= .slice A l.length cap/\Reads yV w w.heap.size A l/\(A=none->cap=0)
end
section
section
variable {P:Program}{md:Region.Mode}{l:List Oper}{m:Nat}
theorem upon_then {o:Oper}{a:Act}{K K':Act->World->Prop}{Q:Exit->Act->World->Prop}{r:Result Next}:o.upon P a K (Exit.then K' Q) r=o.upon P a K Q r:=by
 cases r with
 |ok x w=>cases x<;>rfl
 |halt x w=>cases x<;>rfl
theorem wpOp_take (hp:PreOk md l m){Q:Exit->Act->World->Prop}{K':Act->World->Prop}{i:Nat}(hi:i<m){K:Act->World->Prop}{a:Act}{w:World}(h:wpOp P (l.take m).toArray (Exit.then K' Q) i K a w):wpOp P l.toArray Q i K a w:=by
 unfold wpOp at h ⊢
 rw [take_at hi] at h
 cases ho:l.toArray[i]? with
 |none=>rw [ho] at h;exact h
 |some o=>
  rw [ho] at h
  have ho':l[i]?=some o:=by simpa using ho
  dsimp only at h ⊢
  rw [want_take hp hi ho'] at h
  split
  ·rename_i hw
   rw [if_pos hw] at h
   unfold Oper.wp at h ⊢
   rw [upon_then] at h
   exact h
  ·rename_i hw
   rw [if_neg hw] at h
   exact h
theorem any_comp (hp:PreOk md l m){Q:Exit->Act->World->Prop}{K':Act->World->Prop}{g:Nat}(H:∀ (fuel:Nat) (listed:Array Bool) (a:Act) (w:World),g<=fuel->Upto l.length m listed->K' a w->wpAny P md l.toArray Q fuel listed a w):
  ∀ (fuel:Nat) (listed' listed:Array Bool) (a:Act) (w:World),Part l.length m listed' listed->wpAny P md (l.take m).toArray (Exit.then K' Q) fuel listed' a w->wpAny P md l.toArray Q (fuel+g) listed a w:=by
 have full:∀ (listed' listed:Array Bool),Part l.length m listed' listed->(¬ ∃ i,i<m/\listed'.getD i true=false)->Upto l.length m listed:=by
  intro listed' listed h hno
  refine ⟨h.size,λi hi=> ?_⟩
  by_cases him:i<m
  ·rw [h.same i him,decide_eq_true him]
   obtain ⟨b,e⟩:=h.get him
   rw [e]
   cases b with
   |true=>rfl
   |false=>exact absurd ⟨i,him,by rw [Array.getD_eq_getD_getElem?,e];rfl⟩ hno
  ·rw [decide_eq_false him];exact h.rest i Om hi
 have some_ready:∀ (listed' listed:Array Bool),Part l.length m listed' listed->(∃ i,i<m/\listed'.getD i true=false)→∃ k,k<m/\k∈Region.ready md l.toArray listed:=by
  intro listed' listed h hun
  obtain ⟨k,hk,hf,hall⟩:=least_false (λi=>listed'.getD i true) m hun
  refine ⟨k,hk,(part_ready hp h hk).2 (mem_ready.2 ⟨hf,l[k]'(by have:=hp.le;omega), ?_,λe he hb=> ?_⟩)⟩
  ·rw [take_at hk];simp
  ·have:=hp.back k _ (List.getElem?_eq_getElem (by have:=hp.le;omega)) e he hb
   have h2:=hall e.on this
   obtain ⟨b,e2⟩:=h.get (i:=e.on) Om
   rw [Array.getD_eq_getD_getElem?,e2] at h2 ⊢
   simpa using h2
 intro fuel
 induction fuel with
 |zero=>
  intro listed' listed a w h hq
  have hno:¬ ∃ i,i<m/\listed'.getD i true=false:=λhun=>by
   obtain ⟨k,hk,hr⟩:=some_ready _ _ h hun
   have:=(part_ready hp h hk).1 hr
   rw [hq.1] at this;cases this
  exact H _ listed a w Om (full _ _ h hno) hq.2
 |succ f ih=>
  intro listed' listed a w h hq
  by_cases hun:∃ i,i<m/\listed'.getD i true=false
  ·rw [show f+1+g=(f+g)+1 from by omega]
   refine ⟨λhr=> ?_,λi hi=> ?_⟩
   ·obtain ⟨k,hk,hr2⟩:=some_ready _ _ h hun
    rw [hr] at hr2;cases hr2
   ·have him:=part_in hp h hun i hi
    have h1:=hq.2 i ((part_ready hp h him).1 hi)
    exact wpOp_mono (λa' w' hk=>ih _ _ a' w' (h.set him) hk) (wpOp_take hp him h1)
  ·have hr:Region.ready md (l.take m).toArray listed'=[]:=by
    apply List.eq_nil_iff_forall_not_mem.2
    intro i hi
    have h1:=(mem_ready.1 hi).1
    obtain ⟨_,o,ho,_⟩:=mem_ready.1 hi
    have:i<m:=by
     have:=(Array.getElem?_eq_some_iff.1 ho).1
     simp at this;omega
    exact hun ⟨i,this,h1⟩
   exact H _ listed a w Om (full _ _ h hun) (hq.1 hr)
end
section
variable {M:List Nat}{P:Program}{n:Nat}{W:World}{Q:Exit->Act->World->Prop}{L:List Blk}{f:Nat->Value}
theorem ok_drawh {id:Nat}{l:List Oper}(m:Nat)(L0:List Blk)(hm:P.follows .mixedOrders=true)(hP:preB .any l m=true)(h:p6 M P n (l.take m).toArray W L0 (Exit.then (wpList P l.toArray Q (l.drop m)) Q) m (Array.replicate m false) L f):Ok M P n W Q (.region id l.toArray true) L f:=⟨λw hO=>by
 have hp:=preB_ok hP
 have hle:(l.take m).length=m:=by rw [List.length_take];have:=hp.le;omega
 refine wp_region_any hm ?_
 have hq:=wpAny_of_held _ _ _ _ (h.go _ hO.drew)
 have hres:=any_comp (P:=P) (md:= .any) hp (Q:=Q) (g:=l.length-m) (K':=wpList P l.toArray Q (l.drop m)) (λfuel listed a w hf hu hk=>any_tail hp (l.length-m) m fuel listed _ w rfl (Nat.le_refl _) hp.le hf hu hk) m (Array.replicate m false) (Array.replicate l.toArray.size false) (Fr n f) {w with drawn:=w.drawn+1}
  ⟨by simp,by simp,λi hi=>by
   have:=hp.le
   rw [Array.getElem?_replicate,Array.getElem?_replicate,if_pos (by simp;omega),if_pos hi],λt _ ht=>by rw [Array.getElem?_replicate,if_pos (by simpa using ht)]⟩ hq
 rw [show m+(l.length-m)=l.toArray.size from by have:=hp.le;simp;omega] at hres
 exact hres⟩
end
end
end Go.Proofs.YteghandhpbmpgaaGreatDoor
