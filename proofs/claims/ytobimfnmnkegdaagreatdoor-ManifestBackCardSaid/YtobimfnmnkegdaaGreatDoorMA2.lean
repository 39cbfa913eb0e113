import Derived.Lib.OthersKept
import Derived.Lib.Strings
import Derived.Lib.Slices
import Derived.Lib.Walk
import Derived.Lib.Builder
import Derived.Lib.AppendStr
import Derived.Lib.UnsafeStr
import Derived.WalkKit
import Derived.Laws.Externs
import Derived.Shelf.RegionOpenPlain
import Derived.Lib.AppendIntMem
import Derived.Lib.ItoaLen
import Derived.Lib.SliceRun
import Derived.Outline
import Derived.Lib.Small
import Derived.LoopN
import Derived.Deep.RegionHeld3
import Derived.IntWalk
import Derived.StillTailTactics
import Derived.Test.YtobimfnmnkegdaaGreatDoorMA1
set_option maxRecDepth 1000000
set_option maxHeartbeats 8000000
set_option linter.unusedVariables false
set_option linter.unusedSimpArgs false
set_option linter.unnecessarySimpa false
namespace Go.Proofs.YtobimfnmnkegdaaGreatDoor
open Go.RowKit

section
theorem numV_mk (t:YL):numV (mkS t)=xD t:=by unfold numV numB xD;rw [mk_data]
theorem numOk_mk (t:YL):numOk (mkS t)=jH t:=by unfold numOk numB jH;rw [mk_data]
theorem pF (t:YL)(b:Bool)(hb:jH t=b)(w:World)(ht:t.length<=maxLen):
  YC 156 #[.string (mkS t)] w (YR (.tuple #[YI (xD t),.bool b]) w):=by
 have:=number_any (mkS t) w (by rw [y7];exact ht)
 rw [numV_mk,numOk_mk,hb] at this
 exact this
theorem tO (t:YL)(b:Bool)(hb:qK t=b)(w:World)(ht:t.length<=maxLen):
  YC 157 #[.string (mkS t)] w (YR (.bool b) w):=by
 have:=vnumeric_any (mkS t) w (by rw [y7];exact ht)
 rw [mk_data,hb] at this
 exact this
theorem list_lit (s:YL)(w:World)(hs:s.length<4294967281):
  YC 112 #[.string (mkS s)] w (YR (.tuple #[.agg #[.string (mkS (tg (lst s).1 0)),.string (mkS (tg (lst s).1 1)),.string (mkS (tg (lst s).1 2)),.string (mkS (tg (lst s).1 3))],.bool (lst s).2]) w):=list_any s w hs
theorem ix_tag0 (a b c d:Value)(w:World):(Instr.index 173 (.agg #[a,b,c,d]) (YI 0)).run YP w= .ok a w:=by kernel_rfl
theorem ix_tag1 (a b c d:Value)(w:World):(Instr.index 173 (.agg #[a,b,c,d]) (YI 1)).run YP w= .ok b w:=by kernel_rfl
theorem ix_tag2 (a b c d:Value)(w:World):(Instr.index 173 (.agg #[a,b,c,d]) (YI 2)).run YP w= .ok c w:=by kernel_rfl
theorem ix_tag3 (a b c d:Value)(w:World):(Instr.index 173 (.agg #[a,b,c,d]) (YI 3)).run YP w= .ok d w:=by kernel_rfl
theorem ix_tag (l:List YL)(k:Nat)(hk:k<4)(w:World):
  (Instr.index 173 (.agg #[.string (mkS (tg l 0)),.string (mkS (tg l 1)),.string (mkS (tg l 2)),.string (mkS (tg l 3))]) (YI k)).run YP w= .ok (.string (mkS (tg l k))) w:=by
 match k,hk with
 |0,_=>exact ix_tag0 _ _ _ _ w
 |1,_=>exact ix_tag1 _ _ _ _ w
 |2,_=>exact ix_tag2 _ _ _ _ w
 |3,_=>exact ix_tag3 _ _ _ _ w
theorem all_four (l:List YL)(h4:l.length<=4)(h:∀ j,j<4->preT (tg l j)=true):l.all preT=true:=by
 rw [←tg_all preT_nil l h4,h 0 Om,h 1 Om,h 2 Om,h 3 Om];rfl
theorem not_four (l:List YL)(h4:l.length<=4)(j:Nat)(hj:j<4)(h:preT (tg l j)=false):l.all preT=false:=by
 rw [←tg_all preT_nil l h4]
 match j,hj with
 |0,_=>rw [h];rfl
 |1,_=>rw [h];simp
 |2,_=>rw [h];simp
 |3,_=>rw [h];simp
theorem mayPre_any (s:YL)(w:World)(hs:s.length<4294967281):
  YC 113 #[.string (mkS s)] w (YR (.bool (preOk s)) w):=by
 have hl4:=lst_len s
 have hl8:=tg_len s
 have hP:=preOk_lst s
 obtain ⟨L,hL⟩:∃ L,(lst s).1=L:=⟨_,rfl⟩
 obtain ⟨o,ho⟩:∃ o,(lst s).2=o:=⟨_,rfl⟩
 have cL:=list_lit s w hs
 rw [hL,ho] at cL
 rw [hL] at hl4 hl8 hP
 rw [ho] at hP
 have HP:=Lib.hid hP
 have H8:=Lib.hid hl8
 clear hP hl8 hL ho
 go_enter Tryz.func113,Tryz.ntmps113
 go_wp2_with (go_at_call 112;refine cL.mono ?_;rintro e w1 ⟨rfl,hb1⟩)
 go_loopw [15] (λv wr=>∃ k:Nat,k<=4/\v=YI k/\YB w wr/\Hid (∀ j,j<k->preT (tg L j)=true)) (λv _=>4-(intOf v).toNat)
 case atStart=>exact ⟨0,by omega,rfl,hb1.alloc hb1.size _,λj hj=>by omega⟩
 case round=>
  obtain ⟨k,hk,rfl,hbel,HR⟩:=hrel
  by_cases hk4:k<4
  ·have hki:(k:Int)<4:=by omega
   have hix:∀ w,(Instr.index 173 (.agg #[.string (mkS (tg L 0)),.string (mkS (tg L 1)),.string (mkS (tg L 2)),.string (mkS (tg L 3))]) (YI k)).run YP w= .ok (.string (mkS (tg L k))) w:=ix_tag L k hk4
   have h8:(tg L k).length<=8:=H8.out k
   have hm:(tg L k).length<=maxLen:=by unfold maxLen;omega
   cases hi:jH (tg L k) with
   |true=>
    have HI:=Lib.hid hi
    clear hi
    cases hn:qK (tg L k)
    all_goals
     have HN:=Lib.hid hn
     clear hn
     go_wp2_with (first
      |(go_at_call 156;refine (pF _ true HI.out _ hm).mono ?_;rintro e w2 ⟨rfl,hb2⟩)
      |(go_at_call 157;refine (tO _ _ HN.out _ hm).mono ?_;rintro e w3 ⟨rfl,hb3⟩))
     go_roundw
     case rel=>exact ⟨k+1,by omega,by go_num,(hbel.trans (hb2.mono hbel.size)).trans (hb3.mono (by have:=hb2.size;have:=hbel.size;omega)),λj hj=>by
      by_cases h:j<k
      ·exact HR.out j h
      ·obtain rfl:j=k:=by omega
       unfold preT;rw [HI.out];simp⟩
     case measure=>simp [intOf];omega
   |false=>
    have HI:=Lib.hid hi
    clear hi
    cases hn:qK (tg L k) with
    |true=>
     have HN:=Lib.hid hn
     clear hn
     go_wp2_with (first
      |(go_at_call 156;refine (pF _ false HI.out _ hm).mono ?_;rintro e w2 ⟨rfl,hb2⟩)
      |(go_at_call 157;refine (tO _ _ HN.out _ hm).mono ?_;rintro e w3 ⟨rfl,hb3⟩))
     go_ret
     exact ⟨zZ (by rw [HP.out,not_four L hl4 k hk4 (by unfold preT;rw [HN.out,HI.out];rfl),Bool.and_false]),(hbel.trans (hb2.mono hbel.size)).trans (hb3.mono (by have:=hb2.size;have:=hbel.size;omega))⟩
    |false=>
     have HN:=Lib.hid hn
     clear hn
     go_wp2_with (first
      |(go_at_call 156;refine (pF _ false HI.out _ hm).mono ?_;rintro e w2 ⟨rfl,hb2⟩)
      |(go_at_call 157;refine (tO _ _ HN.out _ hm).mono ?_;rintro e w3 ⟨rfl,hb3⟩))
     go_roundw
     case rel=>exact ⟨k+1,by omega,by go_num,(hbel.trans (hb2.mono hbel.size)).trans (hb3.mono (by have:=hb2.size;have:=hbel.size;omega)),λj hj=>by
      by_cases h:j<k
      ·exact HR.out j h
      ·obtain rfl:j=k:=by omega
       unfold preT;rw [HN.out];simp⟩
     case measure=>simp [intOf];omega
  ·have hki:¬ (k:Int)<4:=by omega
   go_wp2
   go_ret
   exact ⟨zZ (by rw [HP.out,all_four L hl4 (λj hj=>HR.out j Om),Bool.and_true]),hbel⟩
abbrev ZP (x:Ver):Array Value:= #[YI x.maj,YI x.min,YI x.pat,.string (mkS x.pre),.string (mkS x.build)]
def kY (v:Ver):Value:= .agg #[YI v.maj,YI v.min,YI v.pat,.string (mkS v.pre),.string (mkS v.build)]
theorem numbers_any (v:Ver)(w:World):
  YC 111 #[kY v] w (YR (.agg #[YI v.maj,YI v.min,YI v.pat]) w):=by
 obtain ⟨a,b,c,p,q⟩:=v
 unfold kY
 dsimp only
 go_enter Tryz.func111,Tryz.ntmps111
 go_wp2
 exact bodyPost_ret (v:= .agg #[YI a,YI b,YI c]) (by simp [results,Tryz.results111,go_sem]) rfl ⟨rfl,((Below.refl _ _).alloc (Nat.le_refl _) _).alloc (by simp) _⟩
theorem release_any (a b c:Int)(w:World):
  YC 152 #[.agg #[YI a,YI b,YI c]] w (YR (kY (Ver.rel a b c)) w):=by
 go_enter Tryz.func152,Tryz.ntmps152
 go_wp2
 exact bodyPost_ret (v:= .agg #[YI a,YI b,YI c,.string ⟨#[]⟩,.string ⟨#[]⟩]) (by simp [results,Tryz.results152,go_sem]) rfl ⟨rfl,((Below.refl _ _).alloc (Nat.le_refl _) _).alloc (by simp) _⟩
theorem nF (t:YL)(w:World)(ht:t.length<=maxLen):
  YC 153 #[.string (mkS t)] w (YR (YI (xD t)) w):=by
 go_enter Tryz.func153,Tryz.ntmps153
 go_wp2_with (go_at_call 156;refine (pF t _ rfl _ ht).mono ?_;rintro e w2 ⟨rfl,hb2⟩)
 go_ret
 exact ⟨rfl,hb2⟩
theorem ix_num0 (a b c:Value)(w:World):(Instr.index 171 (.agg #[a,b,c]) (YI 0)).run YP w= .ok a w:=by kernel_rfl
theorem ix_num1 (a b c:Value)(w:World):(Instr.index 171 (.agg #[a,b,c]) (YI 1)).run YP w= .ok b w:=by kernel_rfl
theorem ix_num2 (a b c:Value)(w:World):(Instr.index 171 (.agg #[a,b,c]) (YI 2)).run YP w= .ok c w:=by kernel_rfl
def n9 (a b c:Int)(k:Nat):Int:=if k=0 then a else if k=1 then b else c
theorem ix_num (a b c:Int)(k:Nat)(hk:k<3)(w:World):
  (Instr.index 171 (.agg #[YI a,YI b,YI c]) (YI k)).run YP w= .ok (YI (n9 a b c k)) w:=by
 match k,hk with
 |0,_=>exact ix_num0 _ _ _ w
 |1,_=>exact ix_num1 _ _ _ w
 |2,_=>exact ix_num2 _ _ _ w
theorem nth3_all {a b c:Int}(h:∀ j,j<3->zP (n9 a b c j)=true):(zP a && zP b && zP c)=true:=by
 have h0:=h 0 Om;have h1:=h 1 Om;have h2:=h 2 Om
 unfold n9 at h0 h1 h2
 simp at h0 h1 h2
 rw [h0,h1,h2];rfl
theorem nth3_not {a b c:Int}(j:Nat)(hj:j<3)(h:zP (n9 a b c j)=false):(zP a && zP b && zP c)=false:=by
 match j,hj with
 |0,_=>rw [show zP a=false from h];rfl
 |1,_=>rw [show zP b=false from h];simp
 |2,_=>rw [show zP c=false from h];simp
theorem may_eq (v:Ver):v.may=((zP v.maj && zP v.min && zP v.pat) && (preOk v.pre && qX v.build)):=by
 unfold Ver.may;rw [Bool.and_assoc]
theorem box_cells {w w1:World}{T:TypeId}{cs:Array Value}(hb:Below (w.alloc (.cells cs T)).heap.size (w.alloc (.cells cs T)) w1)(j:Nat)(hj:j<cs.size):w1.cell? ⟨w.heap.size,j,none⟩=some cs[j]/\w1.frozen? ⟨w.heap.size,j,none⟩=false:=by
 have h:w1.heap[w.heap.size]?=some (.cells cs T):=(hb.block _ (by simp)).trans (wR w _)
 exact gJ h hj
theorem vL (w:World)(o:Obj):(w.alloc o).heap.size=w.heap.size+1:=by simp
theorem may_any (v:Ver)(w:World)(hp:v.pre.length<4294967281)(hq:v.build.length<4294967281):
  YC 64 #[kY v] w (YR (.bool v.may) w):=by
 have hM:=may_eq v
 have cN:=λw'=>numbers_any v w'
 obtain ⟨a,b,c,p,q⟩:=v
 unfold kY at cN ⊢
 dsimp only at cN hM hp hq ⊢
 have HM:=Lib.hid hM
 clear hM
 go_enter Tryz.func64,Tryz.ntmps64
 go_wp2_with (go_at_call 111;refine (cN _).mono ?_;rintro e w1 ⟨rfl,hb1⟩)
 obtain ⟨c3,f3⟩:=box_cells hb1 3 (by simp)
 obtain ⟨c4,f4⟩:=box_cells hb1 4 (by simp)
 have hs1:w.heap.size<w1.heap.size:=by have:=hb1.size;rw [vL] at this;omega
 have hbw:YB w w1:=((Below.refl _ _).alloc (Nat.le_refl _) _).trans (hb1.mono (by simp))
 simp only [List.getElem_toArray,List.getElem_cons_succ,List.getElem_cons_zero] at c3 c4
 go_loop [9] (λx=>∃ k:Nat,k<=3/\x=YI k/\Hid (∀ j,j<k->zP (n9 a b c j)=true)) (λx=>3-(intOf x).toNat)
 case atStart=>exact ⟨0,by omega,rfl,λj hj=>by omega⟩
 case round=>
  obtain ⟨k,hk,rfl,HR⟩:=hrel
  by_cases hk3:k<3
  ·have hki:(k:Int)<3:=by omega
   have hix:∀ w,(Instr.index 171 (.agg #[YI a,YI b,YI c]) (YI k)).run YP w= .ok (YI (n9 a b c k)) w:=ix_num a b c k hk3
   by_cases h0:n9 a b c k<0
   ·have hbad:zP (n9 a b c k)=false:=by unfold zP;simp;omega
    have HB:=Lib.hid hbad
    clear hbad
    go_wp2
    go_ret
    exact ⟨zZ (by rw [HM.out,nth3_not k hk3 HB.out];rfl),hbw⟩
   ·by_cases h9:9999<n9 a b c k
    ·have hbad:zP (n9 a b c k)=false:=by unfold zP;simp;omega
     have HB:=Lib.hid hbad
     clear hbad
     go_wp2
     go_ret
     exact ⟨zZ (by rw [HM.out,nth3_not k hk3 HB.out];rfl),hbw⟩
    ·have hok:zP (n9 a b c k)=true:=by unfold zP;simp;omega
     have HB:=Lib.hid hok
     clear hok
     go_wp2
     go_round
     case rel=>exact ⟨k+1,by omega,by go_num,λj hj=>by
      by_cases h:j<k
      ·exact HR.out j h
      ·obtain rfl:j=k:=by omega
       exact HB.out⟩
     case measure=>simp [intOf];omega
  ·have hki:¬ (k:Int)<3:=by omega
   have h3:=Lib.hid (nth3_all λj hj=>HR.out j Om)
   have cL:=list_lit q w1 hq
   rw [lst_ok] at cL
   cases ho:qX q with
   |true=>
    rw [ho] at cL
    have HO:=Lib.hid ho
    clear ho
    go_wp2_with (first
     |(go_at_call 112;refine cL.mono ?_;rintro e w2 ⟨rfl,hb2⟩;have c32:=(hb2.cell (p:=⟨w.heap.size,3,none⟩) hs1).trans c3;have hs2:w.heap.size<w2.heap.size:=Nat.lt_of_lt_of_le hs1 hb2.size)
     |(go_at_call 113;refine (mayPre_any p _ hp).mono ?_;rintro e w3 ⟨rfl,hb3⟩))
    go_ret
    exact ⟨zZ (by rw [HM.out,h3.out,HO.out];simp),((hbw.trans (hb2.mono hbw.size)).alloc Om _).trans (hb3.mono (by simp;omega))⟩
   |false=>
    rw [ho] at cL
    have HO:=Lib.hid ho
    clear ho
    go_wp2_with (go_at_call 112;refine cL.mono ?_;rintro e w2 ⟨rfl,hb2⟩;have c32:=(hb2.cell (p:=⟨w.heap.size,3,none⟩) hs1).trans c3;have hs2:w.heap.size<w2.heap.size:=Nat.lt_of_lt_of_le hs1 hb2.size)
    go_ret
    exact ⟨zZ (by rw [HM.out,h3.out,HO.out];simp),(hbw.trans (hb2.mono hbw.size)).alloc Om _⟩
end
section
theorem ownsRow_iterAt {w:World}{B:Nat}{e:TypeId}{size:Nat}{v:Value}{n:Nat}{xs:List Value}(h:w.ownsRow B e size v n xs){k:Nat}{s:ByteArray}{pos:Nat}(hk:w.heap[k]?=some (.stringIter s pos))(pos':Nat):
  (w.iterAt k s pos').ownsRow B e size v n xs:=by
 obtain ⟨h1,h2⟩:=h
 refine ⟨h1, ?_⟩
 rcases h2 with h2|⟨g,cap,cur,hv,hg,hh,r⟩
 ·exact Or.inl h2
 ·refine Or.inr ⟨g,cap,cur,hv,hg, ?_,r⟩
  rw [Lib.iterAt_other _ _ _ _ _ (λe=>by subst e;rw [hk] at hh;cases hh)]
  exact hh
theorem ownsRow_ne {w:World}{B:Nat}{e:TypeId}{size:Nat}{v:Value}{n:Nat}{xs:List Value}(h:w.ownsRow B e size v n xs){k:Nat}{s:ByteArray}{pos:Nat}(hk:w.heap[k]?=some (.stringIter s pos)):some k≠v.ownBlock:=by
 obtain ⟨h1,h2⟩:=h
 rcases h2 with ⟨rfl,_⟩|⟨g,cap,cur,rfl,hg,hh,r⟩
 ·simp [Value.ownBlock]
 ·intro he
  have:k=g:=by simpa [Value.ownBlock] using he
  subst this
  rw [hk] at hh;cases hh
theorem dU {w w':World}{B:Nat}{e:TypeId}{size:Nat}{v:Value}{n:Nat}{xs:List Value}(h:w.ownsRow B e size v n xs)(hb:YB w w'):w'.ownsRow B e size v n xs:=by
 obtain ⟨h1,h2⟩:=h
 refine ⟨h1, ?_⟩
 rcases h2 with h2|⟨g,cap,cur,hv,hg,hh,r⟩
 ·exact Or.inl h2
 ·exact Or.inr ⟨g,cap,cur,hv,hg,by rw [hb.block g (Array.getElem?_eq_some_iff.1 hh).1];exact hh,r⟩
theorem iter_below {w w':World}{k:Nat}{s:ByteArray}{pos:Nat}(h:w.heap[k]?=some (.stringIter s pos))(hb:YB w w'):w'.heap[k]?=some (.stringIter s pos):=by
 rw [hb.block k (Array.getElem?_eq_some_iff.1 h).1];exact h
end
section
theorem mJ (w:World)(a:Addr)(m:Nat):(w.freeze a m).drawn=w.drawn:=by unfold World.freeze;split<;>rfl
theorem wp_append_text {P:Program}{w:World}{ops:Array Oper}{rest:List Oper}{o:Oper}{a:Act}{Q:Exit->Act->World->Prop}(hgd:o.guard=none)(sl x:Operand)(t u:TypeId)
  (ho:o.op= .call {callee:= .builtin .append,args:= #[sl,x],argTypes:= #[t,u]})
  (B:Nat) (e:TypeId) (i:TypeInfo) (ht:P.underlying t=some (.slice e)) (hu:P.underlying u=some .string) (hi:P.info? e=some i) (hz:i.zero=some (.int .u8 0)) (h1:i.size=1) (h2:i.bytes=1)
  (v:Value) (n:Nat) (xs:List Value) (hs:a.eval sl=v) (hown:w.ownsRow B e 1 v n xs) (s:ByteArray) (hx:a.eval x= .string s) (h63:n+s.size<=maxLen) (hb:n+s.size<=140737488355328) (hB:B<=w.heap.size)
  (h:∀ v' w',w'.ownsRow B e 1 v' (n+s.size) (xs++Lib.strCells s)->GrownD w w' v.ownBlock->wpList P ops Q rest (a.put o.dst v') w'):wpList P ops Q (o::rest) a w:=
 wpList_plain hgd λK hK=>by
  obtain ⟨v',w',hr,k2,k3,_⟩:=Lib.run_append_own_string (P:=P) (w:=w) B t u o.type e i ht hu hi hz h1 h2 v n xs hown s h63 hb hB
  unfold Oper.wp execOp
  simp only [ho,resolve,invoke,builtin,Sem.run_bind,Sem.run_pure,Result.andThen_ok,List.map_toArray,List.map_cons,List.map_nil,hs,hx,hr]
  exact hK _ _ (h v' w' k2 ⟨k3,p8 P _ _ hr⟩)
theorem sizeBuilder:(Tryz.prog.info? 98).map (·.size)=some 2:=by kernel_rfl
theorem liesBuilder:liesAt YP Tryz.prog.depth 98 (2/Tryz.prog.cellsOf 98) 0 98 1=true:=by kernel_rfl
theorem infoByte:(Tryz.prog.info? 5).map (λi=>(i.zero,i.size,i.bytes))=some (some (.int .u8 0),1,1):=by kernel_rfl
theorem d9 (b:Nat)(w:World)(h0:w.cell? ⟨b,0,none⟩=some (.pointer (some ⟨b,0,none⟩))):
  YC 89 #[.pointer (some ⟨b,0,none⟩)] w λe w'=>e= .returned (.tuple #[])/\w'=w:=by
 obtain ⟨j,hj,_⟩:=Option.map_eq_some_iff.1 sizeBuilder
 go_enter Tryz.func89,Tryz.ntmps89
 go_wp2
 rw [Lib.run_neq_ptr_same w _ Tryz.underlying95 hj]
 go_wp2
 go_end0
 exact ⟨rfl,rfl⟩
theorem n6 (b:Nat)(w:World)(h0:w.cell? ⟨b,0,none⟩=some (.pointer none))(hsh:w.shape? b=some (98,2))(hfz:w.frozen? ⟨b,0,none⟩=false):
  YC 89 #[.pointer (some ⟨b,0,none⟩)] w λe w'=>e= .returned (.tuple #[])/\w'=w.setCell ⟨b,0,none⟩ (.pointer (some ⟨b,0,none⟩)):=by
 obtain ⟨j,hj,hjs⟩:=Option.map_eq_some_iff.1 sizeBuilder
 go_enter Tryz.func89,Tryz.ntmps89
 go_wp2
 rw [Lib.run_to_unsafe w ⟨b,0,none⟩ Tryz.underlying95 Tryz.underlying196 hj (by rw [hjs];decide) hsh (Nat.zero_lt_succ 1)]
 simp only [Result.andThen]
 rw [Oper.upon_value]
 go_wp2
 rw [run_callFunc_extern Tryz.func140 Kr Kr Kr (e:=Extern.AbiNoEscape.same) Kr]
 rw [Lib.run_noEscape]
 simp only [Result.andThen]
 rw [Oper.upon_value]
 go_wp2
 rw [Lib.run_from_unsafe w ⟨b,0,none⟩ Tryz.underlying196 Tryz.underlying95 hj hsh liesBuilder]
 simp only [Result.andThen]
 rw [Oper.upon_value]
 go_wp2
 go_end0
 exact ⟨rfl,rfl⟩
theorem tA (B b:Nat)(bs:List Value)(w:World)(h:Lib.IsBuilder 98 5 B b bs w):
  YC 89 #[.pointer (some ⟨b,0,none⟩)] w λe w'=>e= .returned (.tuple #[])/\(Lib.BuilderAt 98 5 B b (.pointer (some ⟨b,0,none⟩)) bs w'/\Below B w w'):=by
 rcases h with h|h
 ·refine (n6 b w h.cell0 h.shape h.frozen0).mono ?_
  rintro e w' ⟨rfl,rfl⟩
  exact ⟨rfl,h.used _,(Below.refl B w).setCell (p:=⟨b,0,none⟩) h.1 _⟩
 ·refine (d9 b w h.cell0).mono ?_
  rintro e w' ⟨rfl,rfl⟩
  exact ⟨rfl,h,Below.refl B _⟩
theorem writeByte_any (B b:Nat)(bs:List Value)(c:Int)(w:World)(h:Lib.IsBuilder 98 5 B b bs w)(hlen:bs.length+1<=140737488355328)(hBw:B<=w.heap.size):
  YC 147 #[.pointer (some ⟨b,0,none⟩),.int .u8 c] w λe w'=>e= .returned .nilIface/\(Lib.BuilderAt 98 5 B b (.pointer (some ⟨b,0,none⟩)) (bs++[.int .u8 c]) w'/\Below B w w'):=by
 obtain ⟨i0,hi,hz0,hz1,hz2⟩:=info_parts infoByte
 go_enter Tryz.func147,Tryz.ntmps147
 go_wp2_with (go_at_call 89;refine (tA B b bs _ h).mono ?_)
 rintro e w1 ⟨rfl,h1,hb1⟩
 obtain ⟨hB,v,hbk,hown,hne⟩:=h1
 have c0:w1.cell? ⟨b,0,none⟩=some (.pointer (some ⟨b,0,none⟩)):=by rw [Lib.cell_of_heap hbk];rfl
 have c1:w1.cell? ⟨b,1,none⟩=some v:=by rw [Lib.cell_of_heap hbk];rfl
 go_wp2_with (at_builtin;refine kI _ rfl _ _ 96 rfl B 5 i0 (.int .u8 0) 1 1 Tryz.underlying96 hi hz0 hz1 hz2 rfl (by decide) _ _ _ rfl (hown.alloc _) ⟨w1.heap.size,0,none⟩ 1 1 [.int .u8 c] rfl rfl ?c1 ?c2 ?c3 ?c4 ?c5 ?_)
 case c1=>
  intro j u hj
  match j,hj with
  |0,hj=>simp at hj;subst hj;simp [Addr.add]
 case c2=>intro u hu;simp at hu;subst hu;rfl
 case c3=>unfold maxLen;omega
 case c4=>omega
 case c5=>have:=hb1.size;simp;omega
 intro v' w2 hown' hgrow _
 have hlt:b<w1.heap.size:=by
  rcases Nat.lt_or_ge b w1.heap.size with h'|h'
  ·exact h'
  ·simp [Array.getElem?_eq_none h'] at hbk
 have hb2:w2.heap[b]?=some (.cells #[.pointer (some ⟨b,0,none⟩),v] 98 (0,0)):=by
  rw [hgrow.old.block b (by simp;omega) (λe=>hne e.symm),Lib.alloc_old w1 _ b hlt]
  exact hbk
 have d0:w2.cell? ⟨b,0,none⟩=some (.pointer (some ⟨b,0,none⟩)):=by rw [Lib.cell_of_heap hb2];rfl
 have d1:w2.cell? ⟨b,1,none⟩=some v:=by rw [Lib.cell_of_heap hb2];rfl
 have f1:w2.frozen? ⟨b,1,none⟩=false:=Lib.frozen_of_heap hb2 1
 obtain ⟨g,cap,rfl⟩:∃ g cap,v'= .slice (some ⟨g,0,none⟩) (bs.length+1) cap:=by
  rcases hown'.2 with ⟨_,h0⟩|⟨g,cap,cur,hv,_⟩
  ·omega
  ·exact ⟨g,cap,hv⟩
 go_wp2
 go_ret
 refine ⟨rfl, ?_, ?_⟩
 ·exact Lib.BuilderAt.put (T:=98) (e:=5) hB hb2 (bs':=bs++[.int .u8 c]) (by simpa using hown') (by decide)
 ·exact ((hb1.alloc (by have:=hb1.size;omega) _).grown hgrow (by have:=hb1.size;simp;omega) (λk hk=>(hown.lt k hk).1)).setCell (p:=⟨b,1,none⟩) hB _
theorem xH (B b:Nat)(bs:List Value)(s:ByteArray)(w:World)(h:Lib.IsBuilder 98 5 B b bs w)(hlen:bs.length+s.size<=140737488355328)(hBw:B<=w.heap.size):
  YC 49 #[.pointer (some ⟨b,0,none⟩),.string s] w λe w'=>e= .returned (.tuple #[YI s.size,.nilIface])/\(Lib.BuilderAt 98 5 B b (.pointer (some ⟨b,0,none⟩)) (bs++Lib.strCells s) w'/\Below B w w'):=by
 obtain ⟨i0,hi,hz0,hz1,hz2⟩:=info_parts infoByte
 go_enter Tryz.func49,Tryz.ntmps49
 go_wp2_with (go_at_call 89;refine (tA B b bs _ h).mono ?_)
 rintro e w1 ⟨rfl,h1,hb1⟩
 obtain ⟨hB,v,hbk,hown,hne⟩:=h1
 have c0:w1.cell? ⟨b,0,none⟩=some (.pointer (some ⟨b,0,none⟩)):=by rw [Lib.cell_of_heap hbk];rfl
 have c1:w1.cell? ⟨b,1,none⟩=some v:=by rw [Lib.cell_of_heap hbk];rfl
 go_wp2_with (at_builtin;refine wp_append_text rfl _ _ 96 9 rfl B 5 i0 Tryz.underlying96 Tryz.underlying9 hi hz0 hz1 hz2 _ _ _ rfl hown s rfl ?c3 ?c4 ?c5 ?_)
 case c3=>unfold maxLen;omega
 case c4=>omega
 case c5=>have:=hb1.size;omega
 intro v' w2 hown' hgrow
 have hlt:b<w1.heap.size:=by
  rcases Nat.lt_or_ge b w1.heap.size with h'|h'
  ·exact h'
  ·simp [Array.getElem?_eq_none h'] at hbk
 have hb2:w2.heap[b]?=some (.cells #[.pointer (some ⟨b,0,none⟩),v] 98 (0,0)):=by
  rw [hgrow.old.block b hlt (λe=>hne e.symm)]
  exact hbk
 have d0:w2.cell? ⟨b,0,none⟩=some (.pointer (some ⟨b,0,none⟩)):=by rw [Lib.cell_of_heap hb2];rfl
 have d1:w2.cell? ⟨b,1,none⟩=some v:=by rw [Lib.cell_of_heap hb2];rfl
 have f1:w2.frozen? ⟨b,1,none⟩=false:=Lib.frozen_of_heap hb2 1
 obtain ⟨ao,n',cap,rfl⟩:∃ ao n' cap,v'= .slice ao n' cap:=by
  rcases hown'.2 with ⟨hv,_⟩|⟨g,cap,cur,hv,_⟩
  ·exact ⟨_,_,_,hv⟩
  ·exact ⟨_,_,_,hv⟩
 go_wp2
 go_ret2
 refine ⟨rfl, ?_, ?_⟩
 ·exact Lib.BuilderAt.put (T:=98) (e:=5) hB hb2 (bs':=bs++Lib.strCells s) (by simpa [Lib.strCells_length] using hown') (by decide)
 ·exact (hb1.grown hgrow (by have:=hb1.size;omega) (λk hk=>(hown.lt k hk).1)).setCell (p:=⟨b,1,none⟩) hB _
theorem mO {l:YL}(h:l≠[]):(Lib.byteCells l).length≠0:=by
 rw [Lib.byteCells_length];exact λe=>h (List.eq_nil_of_length_eq_zero e)
theorem tI (B b:Nat)(l:YL)(w:World)(h:Lib.IsBuilder 98 5 B b (Lib.byteCells l) w)(h0:l≠[]):
  YC 50 #[.pointer (some ⟨b,0,none⟩)] w λe w'=>e= .returned (.string ⟨l.toArray⟩)/\Below B w w':=by
 obtain ⟨p,hB,v,hbk,hown,hne⟩:∃ p,Lib.BuilderAt 98 5 B b p (Lib.byteCells l) w:=h.elim (λq=>⟨_,q⟩) (λq=>⟨_,q⟩)
 rcases hown.2 with ⟨_,hz⟩|⟨g,cap,cur,rfl,hbg,hg,hnc,hcm,hcs,htake⟩
 ·exact absurd hz (mO h0)
 rw [Lib.byteCells_length] at hown hnc hbk htake
 have hl0:l.length≠0:=λe=>h0 (List.eq_nil_of_length_eq_zero e)
 have hg':w.drew.heap[g]?=some (.cells cur 5 (0,0)):=hg
 have c1:w.drew.cell? ⟨b,1,none⟩=some (.slice (some ⟨g,0,none⟩) l.length cap):=by
  rw [Lib.cell_of_heap (show w.drew.heap[b]?=_ from hbk)];rfl
 have hSD:=Lib.run_unsafeSliceData_row (P:=YP) w.drew #[96] 146 ⟨g,0,none⟩ l.length cap Om
 have hUS:=Lib.run_unsafeString_row (P:=YP) w.drew 146 3 9 5 Tryz.underlying146 Kr g cur.size (by unfold World.shape?;rw [hg']) l h0 Om (by unfold maxLen at hcm;omega)
  (λj x hx=>hown.cells (g:=g) rfl j (.int .u8 x.toNat) (by simp [Lib.byteCells,hx]))
 go_enter Tryz.func50,Tryz.ntmps50
 go_wp2
 have mixed:Tryz.prog.follows .mixedOrders=true:=by kernel_rfl
 go_region_o
 all_goals
  go_wp2
  go_ret
  have hf:=Lib.below_freeze (Go.RowKit.Below.drew (Go.RowKit.Below.refl B w)) (p:=⟨g,0,none⟩) hbg l.length
  exact ⟨rfl,hf.os,hf.tape,hf.output,hf.size,by rw [mJ];exact Nat.le_succ _,hf.block⟩
end
section
def HasTab (w : World) : Prop := Lib.TabBelow YP w.heap.size w "internal/strconv.uint64pow10" .u64 Lib.pow10Tab
theorem HasTab.on {w w':World}(h:HasTab w)(hb:YB w w'):HasTab w':=λw2 hb2=>h w2 (hb.old.trans (hb2.mono hb.size))
theorem below_growD (w:World)(k:Nat)(os:Array Obj):Below w.heap.size w (Go.Sort.grow (w.drewN k) os):=
 have h:=Lib.below_grow w.heap.size w (Nat.le_refl _) k os
 ⟨h.os,h.tape,h.output,h.size,(below_drewN (Below.refl w.heap.size w) k).drawn,h.block⟩
def digS (n:Int):ByteArray:=⟨(Lib.itoa n).toArray⟩
theorem digits_any (n:Int)(h0: -9223372036854775808<=n)(h1:n<=9223372036854775807)(w:World)(ht:HasTab w):
  YC 148 #[YI n] w (YR (.string (digS n)) w):=by
 have H:=Lib.hid ht
 clear ht
 go_enter Tryz.func148,Tryz.ntmps148
 go_wp2_with (go_at_call 189;refine (Tryz.strconv_Itoa n h0 h1 _ H.out.here).mono ?_;rintro e w' ⟨rfl,k,os,rfl⟩)
 go_ret
 exact ⟨rfl,below_growD _ _ _⟩
theorem vU {a b:ByteArray}(h:a=b):Ending.returned (.string a)= .returned (.string b):=by rw [h]
theorem of_list {t:ByteArray}{l:YL}(h:l=t.data.toList):t=⟨l.toArray⟩:=by subst h;rfl
def one (x:Int):ByteArray:=⟨#[UInt8.ofNat x.toNat]⟩
theorem one_list (n:Nat):(one (48+(n:Int) % 10)).data.toList=[UInt8.ofNat (48+n % 10)]:=by
 unfold one
 rw [show (48+(n:Int) % 10).toNat=48+n % 10 from by omega]
theorem conv1 (w:World)(x:Int):(convert 96 9 (.slice (some ⟨w.heap.size,0,none⟩) 1 1)).run YP (w.alloc (.cells #[.int .u8 x] 5))= .ok (.string (one x)) (w.alloc (.cells #[.int .u8 x] 5)):=by
 refine (run_convert_bytes_arg (P:=YP) _ 96 5 Tryz.underlying96 Tryz.underlying5 w.heap.size 0 1 1 [x] rfl ?_ 9 Tryz.underlying9).trans ?_
 ·intro i hi
  obtain rfl:i=0:=by omega
  simp
 ·rfl
theorem dec_start (n:Nat):Lib.decDigits n=(if n<10 then [] else Lib.decDigits (n/10))++[UInt8.ofNat (48+n % 10)]:=by
 rw [Lib.decDigits]
 by_cases h:n<10
 ·rw [dif_pos h,if_pos h,Nat.mod_eq_of_lt h];rfl
 ·rw [dif_neg h,if_neg h]
def decS (n:Nat):ByteArray:=⟨(Lib.decDigits n).toArray⟩
theorem whole_any (n:Nat)(hn:n<=18446744073709551615)(w:World):
  YC 205 #[.int .u64 n] w (YR (.string (decS n)) w):=by
 have hcv:=λ(w:World) (x:Int)=>conv1 w x
 go_enter Tryz.func205,Tryz.ntmps205
 go_wp2
 go_loopw [0,3] (λv s wr=>∃ (m:Nat) (t:ByteArray),v= .int .u64 m/\s= .string t/\m<=18446744073709551615/\YB w wr/\t.size<=20/\Hid (Lib.decDigits n=(if m<10 then [] else Lib.decDigits (m/10))++t.data.toList)) (λv _ _=>(intOf v).toNat)
 case atStart=>exact ⟨n,_,rfl,rfl,hn,(Below.refl _ w).alloc (Nat.le_refl _) _,by show 1<=20;omega,by show _=_;rw [one_list];exact dec_start n⟩
 case round=>
  obtain ⟨m,t,rfl,rfl,hm,hb,ht,HR⟩:=hrel
  have hsz:=hb.size
  by_cases h9:9<m
  ·have hos:(one (48+(m:Int)/10 % 10)).size<=1:=Nat.le_of_eq rfl
   go_wp2
   go_roundw
   case rel=>
    have HE:Lib.decDigits n=(if m/10<10 then [] else Lib.decDigits (m/10/10))++(one (48+((m/10:Nat):Int) % 10)++t).data.toList:=by
     rw [HR.out,if_neg Om,dec_start (m/10),ByteArray.data_append,Array.toList_append,one_list,List.append_assoc]
    rw [show ((m/10:Nat):Int)=(m:Int)/10 from by omega] at HE
    refine ⟨m/10,_,by go_num,rfl,by omega,hb.alloc hsz _, ?_,HE⟩
    have hl:=congrArg List.length HE
    rw [Lib.decDigits_length,List.length_append] at hl
    have:=Lib.nDigits_le20 n Om
    have hz:(one (48+(m:Int)/10 % 10)++t).data.toList.length=(one (48+(m:Int)/10 % 10)++t).size:=by simp
    omega
   case measure=>simp [intOf];omega
  ·go_wp2
   go_ret
   have HE:=HR.out
   rw [if_pos Om,List.nil_append] at HE
   exact ⟨vU (of_list HE),hb⟩
theorem rdigits_any (n:Int)(h0: -9223372036854775808<=n)(h1:n<=9223372036854775807)(w:World):
  YC 175 #[YI n] w (YR (.string (digS n)) w):=by
 by_cases hn:n<0
 ·obtain ⟨u,hu1,rfl⟩:∃ u:Nat,1<=u/\n= -(u:Int):=⟨n.natAbs,by omega,by omega⟩
  go_enter Tryz.func175,Tryz.ntmps175
  go_wp2_with fail
  rw [show (-(-(u:Int)+1)+1)=(u:Int) from by omega]
  refine (whole_any u Om _).mono ?_
  rintro e w' ⟨rfl,hb⟩
  have hl:(decS u).size<=20:=by
   show (Lib.decDigits u).toArray.size<=20
   rw [List.size_toArray,Lib.decDigits_length]
   exact Lib.nDigits_le20 u Om
  go_wp2
  go_ret
  exact ⟨vU (by unfold decS digS;rw [Lib.itoa_neg u Om];apply ByteArray.ext;simp),hb⟩
 ·obtain ⟨u,rfl⟩:∃ u:Nat,n=(u:Int):=⟨n.toNat,by omega⟩
  go_enter Tryz.func175,Tryz.ntmps175
  go_wp2_with (go_at_call 205;refine (whole_any u Om _).mono ?_;rintro e w' ⟨rfl,hb⟩)
  go_ret
  exact ⟨vU (by unfold decS digS;rw [Lib.itoa_nonneg]),hb⟩
end
section
theorem joinL_snoc (b:UInt8)(P:List YL)(x:YL):zD b (P++[x])=if P=[] then x else zD b P++b::x:=by
 induction P with
 |nil=>rfl
 |cons y r ih=>
  rw [if_neg (by simp)]
  cases r with
  |nil=>rfl
  |cons z r2=>
   rw [List.cons_append,List.cons_append,zD,←List.cons_append,ih,if_neg (by simp),zD,List.append_assoc];rfl
theorem t8 (b:UInt8)(l:List YL):∀ k,(zD b (l.take k)).length<=(zD b l).length:=by
 intro k
 induction l generalizing k with
 |nil=>simp
 |cons y r ih=>
  cases k with
  |zero=>simp [zD]
  |succ k=>
   cases r with
   |nil=>simp
   |cons z r2=>
    cases k with
    |zero=>simp [zD]
    |succ k=>
     have:=ih (k+1)
     rw [List.take_succ_cons] at this ⊢
     rw [List.take_succ_cons,zD,zD]
     simp only [List.length_append,List.length_cons]
     omega
def ReadsT (w:World)(B:Nat)(v:Value)(l:List YL):Prop:=
 ∃ A cap,v= .slice A l.length cap/\(0<l.length→∃ ad:Addr,A=some ad/\ad.block<B∧∀ j (h:j<l.length),w.cell? (ad.add j)=some (.string (mkS l[j])))
theorem mS (a:Addr)(n:Nat):(a.add n).block=a.block:=by unfold Addr.add;split<;>rfl
theorem ReadsT.of_own {w:World}{base:Nat}{e:TypeId}{v:Value}{l:List YL}(h:w.ownsRow base e 1 v l.length (vV l)):ReadsT w w.heap.size v l:=by
 rcases h.2 with ⟨rfl,h0⟩|⟨g,cap,cur,rfl,hg,hh,hn,_⟩
 ·exact ⟨none,0,by rw [h0],λhpos=>by omega⟩
 ·refine ⟨some ⟨g,0,none⟩,cap,rfl,λhpos=>⟨⟨g,0,none⟩,rfl,(Array.getElem?_eq_some_iff.1 hh).1,λj hj=> ?_⟩⟩
  exact h.cells (g:=g) rfl j _ (by unfold vV;rw [List.getElem?_map,List.getElem?_eq_getElem hj];rfl)
theorem one_mk (b:UInt8):one (b.toNat:Int)=mkS [b]:=by
 unfold one mkS
 simp
theorem take_snocL (l:List YL)(k:Nat)(h:k<l.length):l.take (k+1)=l.take k++[l[k]]:=by
 rw [List.take_succ_eq_append_getElem h]
theorem bF (l:List YL)(k:Nat)(h:k<l.length)(h0:0<k):l.take k≠[]:=by
 intro e;have:=congrArg List.length e;rw [List.length_take,List.length_nil] at this;omega
theorem byteCells_one (c:UInt8):Lib.byteCells [c]=[.int .u8 (c.toNat:Int)]:=rfl
theorem qV (l:YL):Lib.strCells (mkS l)=Lib.byteCells l:=rfl
theorem bc_join (x y:YL)(b:UInt8):Lib.byteCells (x++b::y)=Lib.byteCells x++[.int .u8 (b.toNat:Int)]++Lib.strCells (mkS y):=by
 rw [qV,←byteCells_one,←Lib.byteCells_append,←Lib.byteCells_append,List.append_assoc];rfl
theorem bZ (v:Value)(l:List YL)(b:UInt8)(w:World)(hv:ReadsT w w.heap.size v l)(hl:(zD b l).length<=1000000000)(hn:l.length<=1000000000)(hne:zD b l≠[]):
  YC 146 #[v,.int .u8 b.toNat] w (YR (.string (mkS (zD b l))) w):=by
 obtain ⟨A,cap,rfl,hcell⟩:=hv
 go_enter Tryz.func146,Tryz.ntmps146
 go_wp2
 go_loopw [10] (λiv wr=>∃ (k:Nat),iv=YI k/\k<=l.length/\Lib.IsBuilder 98 5 w.heap.size w.heap.size (Lib.byteCells (zD b (l.take k))) wr/\YB w wr) (λiv _=>l.length-(intOf iv).toNat)
 case atStart=>exact ⟨0,rfl,Nat.zero_le _,Lib.fresh_isBuilder 98 5 w,(Below.refl _ _).alloc (Nat.le_refl _) _⟩
 case round=>
  obtain ⟨k,rfl,hk,hI,hb⟩:=hrel
  have hsz:=hb.size
  by_cases hp:k<l.length
  ·obtain ⟨ad,rfl,hlt,hc⟩:=hcell Om
   have hck:wr.cell? (ad.add k)=some (.string (mkS l[k])):=(hb.cell (by rw [mS];exact hlt)).trans (hc k hp)
   have hln:(zD b (l.take (k+1))).length<=1000000000:=Nat.le_trans (t8 b l (k+1)) hl
   have HJ:=Lib.hid (joinL_snoc b (l.take k) l[k])
   rw [←take_snocL l k hp] at HJ
   clear hc hcell
   by_cases h0:k=0
   ·subst h0
    have hx2:(mkS l[0]).size<=1000000000:=by
     rw [jJ];rw [HJ.out,if_pos List.take_zero] at hln;exact hln
    have hck0:wr.cell? ad=some (.string (mkS l[0])):=hck
    clear hck
    go_wp2_with (go_at_call 49;refine (xH w.heap.size w.heap.size _ (mkS l[0]) _ hI ?_ hsz).mono ?_)
    ·rw [Lib.byteCells_length];simp [zD];omega
    rintro e w1 ⟨rfl,h1,hb1⟩
    go_wp2
    go_roundw
    case rel=>exact ⟨0+1,by go_num,by omega,by rw [HJ.out,if_pos List.take_zero];exact Or.inr h1,hb.trans hb1⟩
    case measure=>simp [intOf];omega
   ·have h0p:0<k:=by omega
    have hlen:(zD b (l.take k)).length+(l[k].length+1)<=1000000000:=by
     rw [HJ.out,if_neg (bF l k hp h0p),List.length_append,List.length_cons] at hln;exact hln
    go_wp2_with (go_at_call 147;refine (writeByte_any w.heap.size w.heap.size _ _ _ hI ?_ hsz).mono ?_)
    ·rw [Lib.byteCells_length];omega
    rintro e w1 ⟨rfl,h1,hb1⟩
    have hsz1:=(hb.trans hb1).size
    go_wp2_with (go_at_call 49;refine (xH w.heap.size w.heap.size _ (mkS l[k]) _ (Or.inr h1) ?_ hsz1).mono ?_)
    ·rw [List.length_append,Lib.byteCells_length,jJ];simp;omega
    rintro e w2 ⟨rfl,h2,hb2⟩
    go_wp2
    go_roundw
    case rel=>exact ⟨k+1,by go_num,by omega,by rw [HJ.out,if_neg (bF l k hp h0p),bc_join];exact Or.inr h2,(hb.trans hb1).trans hb2⟩
    case measure=>simp [intOf];omega
  ·obtain rfl:k=l.length:=by omega
   go_wp2_with (go_at_call 50;refine (tI w.heap.size w.heap.size _ _ hI (by rw [List.take_length];exact hne)).mono ?_)
   rintro e w1 ⟨rfl,hb1⟩
   go_wp2
   go_ret
   exact ⟨vU rfl,hb.trans hb1⟩
theorem SlT.readsT {v:Value}{l:List YL}{ob L:List Blk}{M:List Nat}{W w:World}(h:SlT v l ob)(hO:Own M W w L)(hs:∀ x∈ob,x∈L):ReadsT w w.heap.size v l:=by
 obtain ⟨A,cap,rfl⟩:=h.form
 refine ⟨A,cap,rfl,λh0=> ?_⟩
 obtain ⟨b,off,e,hlt,hc⟩:=SlT.reads h rfl hO hs h0
 refine ⟨⟨b,off,none⟩,e,hlt,λj hj=> ?_⟩
 rw [yX]
 refine hc j _ ?_
 rw [←x6]
 unfold vV
 rw [List.getElem?_map,List.getElem?_eq_getElem hj];rfl
end
section
theorem infoByte9:(Tryz.prog.info? 5).map (λi=>(i.zero.map (·.cells.size),i.size,i.bytes))=some (some 1,1,1):=by kernel_rfl
theorem byte_info:∃ i z,Tryz.prog.info? 5=some i/\i.zero=some z/\i.size=1/\z.cells.size=1/\i.bytes=1:=by
 have h:=infoByte9
 cases hi:Tryz.prog.info? 5 with
 |none=>rw [hi] at h;cases h
 |some i=>
  rw [hi] at h
  simp only [Option.map_some,Option.some.injEq,Prod.mk.injEq] at h
  cases hz:i.zero with
  |none=>rw [hz] at h;simp at h
  |some z=>rw [hz] at h;simp at h;exact ⟨i,z,rfl,hz,h.2.1,h.1,h.2.2⟩
theorem empty_of {s:ByteArray}(h:(s.size:Int)=0):s=⟨#[]⟩:=by
 have h2:s.data.size=0:=Int.ofNat.inj h
 exact ByteArray.ext (Array.eq_empty_of_size_eq_zero h2)
theorem sclone_any (s:ByteArray)(w:World)(hs:s.size<=281474976710656):
  YC 60 #[.string s] w (YR (.string s) w):=by
 refine Z2 (n:=18) Tryz.func60 rfl (ZO (Zv (.string ⟨#[]⟩) (ZN (ok_seq (ZO (Zv (.string s) (Zv (YI ((s).size)) ?_)))))))
 by_cases h1:((s).size:Int)=0
 ·refine Zg h1 (ZY (ZO (Zv (.string ⟨#[]⟩) (ZN (wX (wS (ZF (.string ⟨#[]⟩) Tryz.results60 ?_)))))))
  exact λw hO=>⟨by rw [empty_of (s:=s) (by assumption)],hO.below⟩
 refine Zh h1 (ZX (ZB (ZO (Zv (.string s) (Zv (YI ((s).size)) ?_)))))
 obtain ⟨i,z,e1,e2,e3,e4,e5⟩:=byte_info
 refine s_make (kl:= .i64) (kc:= .i64) (l:=(s.size:Int)) (c:=(s.size:Int)) Kr rfl Kr Kr Tryz.underlying96 e1 e2 Om Om (by rw [e5];omega) Om (λb=> ?_)
 rw [show ((s.size:Nat):Int).toNat=s.size from rfl]
 obtain ⟨cs,hcs⟩:∃ cs,cs=madeCells z.cells (s.size*i.size):=⟨_,rfl⟩
 have hcz:cs.size=s.size:=by rw [hcs,size_madeCells,e3];simp
 rw [←hcs]
 refine Zv (.slice (some ⟨b,0,none⟩) s.size s.size) (ZR (Zv (.slice (some ⟨b,0,none⟩) s.size s.size) (Zv (.string s) (s_copyS (b:=b) (cap:=s.size) (s:=s) (cs:=cs) Kr rfl Kr Kr Tryz.underlying96 Kr hcz (ZN (ok_seq (ok_region ?_)))))))
 exact Zv (.slice (some ⟨b,0,none⟩) s.size s.size) (s_val (Zp b 0) Kr (ZV (b:=b) (off:=0) (n:=s.size) (c:=s.size) (k:= .i64) (j:=0) (e:=5) (sz:=1)) (Zv (.slice (some ⟨b,0,none⟩) s.size s.size) (Zv (YI (s.size:Int)) (s_ustr (s:=s) Kr rfl Kr Kr Tryz.underlying146 (by unfold Program.cellsOf;simp [e1,e3]) Om Om (Zv (.string s) (ZN (wX (ZF (.string s) Tryz.results60 (λw hO=>⟨rfl,hO.below⟩)))))))))
theorem fW (s:ByteArray)(w:World)(hs:s.size<=281474976710656):
  YC 31 #[.string s] w (YR (.string s) w):=by
 refine Z2 (n:=5) Tryz.func31 rfl (ZO (Zv (.string ⟨#[]⟩) (ZR (Zv (.string s) (Zc (k:=60) (args:= #[.string s]) (.string s) (λw _=>sclone_any s w hs) (Zv (.string s) (s_nil ?_)))))))
 exact fin_seq (wX (ZF (.string s) Tryz.results31 (λw hO=>⟨rfl,hO.below⟩)))
end
section
def nV (a b c:Int):List YL:=[Lib.itoa a,Lib.itoa b,Lib.itoa c]
theorem digs_snoc (a b c:Int)(k:Nat)(hk:k<3):(nV a b c).take (k+1)=(nV a b c).take k++[Lib.itoa (n9 a b c k)]:=by
 match k,hk with
 |0,_=>rfl
 |1,_=>rfl
 |2,_=>rfl
theorem fO (a b c:Int):zD 46 (nV a b c)=Lib.itoa a++46::(Lib.itoa b++46::Lib.itoa c):=rfl
theorem digits_mk (n:Int)(h0: -9223372036854775808<=n)(h1:n<=9223372036854775807)(w:World)(ht:HasTab w):
  YC 148 #[YI n] w (YR (.string (mkS (Lib.itoa n))) w):=digits_any n h0 h1 w ht
theorem dec_len (n:Nat)(h:n<=9999):(Lib.decDigits n).length<=4:=by
 rw [Lib.decDigits_length]
 unfold Lib.nDigits
 split
 ·omega
 ·unfold Lib.nDigits
  split
  ·omega
  ·unfold Lib.nDigits
   split
   ·omega
   ·rw [Lib.nDigits_small Om];omega
theorem d7 {n:Int}(h:zP n=true):(Lib.itoa n).length<=4:=by
 rw [itoa_nat h]
 apply dec_len
 unfold zP at h;simp at h;omega
theorem nums_len {a b c:Int}(h1:zP a=true)(h2:zP b=true)(h3:zP c=true):(zD 46 (nV a b c)).length<=14:=by
 rw [fO]
 have:=d7 h1;have:=d7 h2;have:=d7 h3
 simp;omega
theorem print_good (v:Ver)(w:World)(hp:v.pre.length<=1048576)(hq:v.build.length<=1048576)(hm:v.may=true)(ht:HasTab w):
  YC 99 #[kY v] w (YR (.string (mkS v.text)) w):=by
 obtain ⟨i0,hi,hz0,hz1,hz2⟩:=info_parts infoStr
 have cM:=λw'=>may_any v w' Om Om
 have cN:=λw'=>numbers_any v w'
 obtain ⟨n1,n2,n3⟩:=jK hm
 have hT:v.text=zD 46 (nV v.maj v.min v.pat)++x8 45 v.pre++x8 43 v.build:=rfl
 obtain ⟨a,b,c,p,q⟩:=v
 rw [hm] at cM
 unfold kY at cN cM ⊢
 dsimp only at cN cM hp hq n1 n2 n3 hT ⊢
 have hjl:=nums_len n1 n2 n3
 have HT:=Lib.hid hT
 have H1:=Lib.hid n1
 have H2:=Lib.hid n2
 have H3:=Lib.hid n3
 clear hT hm n1 n2 n3
 go_enter Tryz.func99,Tryz.ntmps99
 go_wp2_with (first
  |(go_at_call 64;refine (cM _).mono ?_;rintro e w1 ⟨rfl,hb1⟩;have hg1:=Lib.hid ((hb1.block w.heap.size (by simp)).trans (wR w _)))
  |(refine wpList_load_row rfl 24 _ rfl w.heap.size rfl _ _ _ _ hg1.out Tryz.underlying24 rfl Kr ?_)
  |(go_at_call 111;refine (cN _).mono ?_;rintro e w2 ⟨rfl,hb2⟩))
 have hbw1:YB w w1:=((Below.refl _ _).alloc (Nat.le_refl _) _).trans (hb1.mono (by simp))
 have hsw:w.heap.size<w1.heap.size:=by have:=hb1.size;rw [vL] at this;omega
 have hsw2:w.heap.size<w2.heap.size:=Nat.lt_of_lt_of_le hsw hb2.size
 have hg2:=Lib.hid ((hb2.block w.heap.size hsw).trans hg1.out)
 have ht2:HasTab w2:=(ht.on hbw1).on hb2
 go_loopw [3,12] (λv x wr=>∃ k:Nat,k<=3/\x=YI k/\wr.ownsRow w2.heap.size 9 1 v k (vV ((nV a b c).take k))/\YB w2 wr) (λ_ x _=>3-(intOf x).toNat)
 case atStart=>exact ⟨0,by omega,rfl,⟨rfl,Or.inl ⟨rfl,rfl⟩⟩,Below.refl _ _⟩
 case round=>
  obtain ⟨k,hk,rfl,hown,hbel⟩:=hrel
  have hsz:=hbel.size
  by_cases hk3:k<3
  ·have hki:(k:Int)<3:=by omega
   have hix:∀ w,(Instr.index 171 (.agg #[YI a,YI b,YI c]) (YI k)).run YP w= .ok (YI (n9 a b c k)) w:=ix_num a b c k hk3
   have hnb:0<=n9 a b c k/\n9 a b c k<=9999:=by
    have h1:=H1.out;have h2:=H2.out;have h3:=H3.out
    unfold zP at h1 h2 h3;simp at h1 h2 h3
    unfold n9;split
    ·exact h1
    ·split
     ·exact h2
     ·exact h3
   obtain ⟨hn0,hn9⟩:=hnb
   go_wp2_with (first
    |(go_at_call 148;refine (digits_mk _ Om Om _ (ht2.on hbel)).mono ?_;rintro e w3 ⟨rfl,hb3⟩;have hown3:=dU hown hb3;have hsz3:=hb3.size)
    |(at_builtin;refine kI _ rfl _ _ 66 rfl w2.heap.size 9 i0 (.string ByteArray.empty) 1 16 Tryz.underlying66 hi hz0 hz1 hz2 rfl (by decide) _ _ _ rfl (hown3.alloc _) ⟨w3.heap.size,0,none⟩ 1 1 [.string (mkS (Lib.itoa (n9 a b c k)))] rfl rfl ?c1 ?c2 ?c3 ?c4 ?c5 ?_))
   case c1=>
    intro j u hj
    match j,hj with
    |0,hj=>simp at hj;subst hj;simp [Addr.add]
   case c2=>intro u hu;simp at hu;subst hu;rfl
   case c3=>unfold maxLen;omega
   case c4=>omega
   case c5=>simp;omega
   intro v' w5 hown' hgrow _
   go_wp2
   go_roundw
   case rel=>
    refine ⟨k+1,by omega,by go_num, ?_,((hbel.trans (hb3.mono hsz)).alloc Om _).grown hgrow (by simp;omega) (λk hk=>(hown3.lt k hk).1)⟩
    rw [digs_snoc a b c k hk3,fG];exact hown'
   case measure=>simp [intOf];omega
  ·obtain rfl:k=3:=by omega
   have hki:¬ (((3:Nat):Int)<3):=by omega
   have hrd:=ReadsT.of_own (l:=nV a b c) hown
   have hg3:=Lib.hid ((hbel.block w.heap.size hsw2).trans hg2.out)
   have hbww:YB w w2:=hbw1.trans (hb2.mono Om)
   have hj0:(mkS (zD 46 (nV a b c))).size<=14:=by rw [y7];exact hjl
   have hp0:(mkS p).size<=1048576:=by rw [y7];exact hp
   have hq0:(mkS q).size<=1048576:=by rw [y7];exact hq
   have hp1:((⟨#[45]⟩:ByteArray)++mkS p).size<=1048577:=by rw [ByteArray.size_append];show 1+_<=_;omega
   have hq1:((⟨#[43]⟩:ByteArray)++mkS q).size<=1048577:=by rw [ByteArray.size_append];show 1+_<=_;omega
   have hjp:(mkS (zD 46 (nV a b c))++((⟨#[45]⟩:ByteArray)++mkS p)).size<=1048591:=by rw [ByteArray.size_append];omega
   by_cases hpe:p=[]
   ·have hpb:(mkS p).toList.isEmpty=true:=by rw [Lib.toList_data,mk_data,hpe];rfl
    have HPT:=Lib.hid (show x8 45 p=[] by rw [hpe];rfl)
    clear hpe
    by_cases hqe:q=[]
    ·have hqb:(mkS q).toList.isEmpty=true:=by rw [Lib.toList_data,mk_data,hqe];rfl
     have HQT:=Lib.hid (show x8 43 q=[] by rw [hqe];rfl)
     clear hqe
     go_wp2_with (go_at_call 146;refine (bZ _ (nV a b c) 46 _ hrd Om (by simp [nV]) (by rw [fO];simp)).mono ?_;rintro e w4 ⟨rfl,hb4⟩;obtain ⟨c3,f3⟩:=gJ (j:=3) ((hb4.block w.heap.size Om).trans hg3.out) (by simp);obtain ⟨c4,f4⟩:=gJ (j:=4) ((hb4.block w.heap.size Om).trans hg3.out) (by simp);simp only [List.getElem_toArray,List.getElem_cons_succ,List.getElem_cons_zero] at c3 c4)
     go_ret
     exact ⟨vU (by rw [HT.out,HPT.out,HQT.out];simp),(hbww.trans (hbel.mono Om)).trans (hb4.mono Om)⟩
    ·have hqb:(mkS q).toList.isEmpty=false:=by rw [Lib.toList_data,mk_data];exact List.isEmpty_eq_false_iff.2 hqe
     have HQT:=Lib.hid (show x8 43 q=43::q by unfold x8;rw [if_neg (by simpa using hqe)])
     clear hqe
     go_wp2_with (go_at_call 146;refine (bZ _ (nV a b c) 46 _ hrd Om (by simp [nV]) (by rw [fO];simp)).mono ?_;rintro e w4 ⟨rfl,hb4⟩;obtain ⟨c3,f3⟩:=gJ (j:=3) ((hb4.block w.heap.size Om).trans hg3.out) (by simp);obtain ⟨c4,f4⟩:=gJ (j:=4) ((hb4.block w.heap.size Om).trans hg3.out) (by simp);simp only [List.getElem_toArray,List.getElem_cons_succ,List.getElem_cons_zero] at c3 c4)
     go_ret
     exact ⟨vU (by rw [HT.out,HPT.out,HQT.out,show (⟨#[43]⟩:ByteArray)=mkS [43] from rfl,yU,yU];simp),(hbww.trans (hbel.mono Om)).trans (hb4.mono Om)⟩
   ·have hpb:(mkS p).toList.isEmpty=false:=by rw [Lib.toList_data,mk_data];exact List.isEmpty_eq_false_iff.2 hpe
    have HPT:=Lib.hid (show x8 45 p=45::p by unfold x8;rw [if_neg (by simpa using hpe)])
    clear hpe
    by_cases hqe:q=[]
    ·have hqb:(mkS q).toList.isEmpty=true:=by rw [Lib.toList_data,mk_data,hqe];rfl
     have HQT:=Lib.hid (show x8 43 q=[] by rw [hqe];rfl)
     clear hqe
     go_wp2_with (go_at_call 146;refine (bZ _ (nV a b c) 46 _ hrd Om (by simp [nV]) (by rw [fO];simp)).mono ?_;rintro e w4 ⟨rfl,hb4⟩;obtain ⟨c3,f3⟩:=gJ (j:=3) ((hb4.block w.heap.size Om).trans hg3.out) (by simp);obtain ⟨c4,f4⟩:=gJ (j:=4) ((hb4.block w.heap.size Om).trans hg3.out) (by simp);simp only [List.getElem_toArray,List.getElem_cons_succ,List.getElem_cons_zero] at c3 c4)
     go_ret
     exact ⟨vU (by rw [HT.out,HPT.out,HQT.out,show (⟨#[45]⟩:ByteArray)=mkS [45] from rfl,yU,yU];simp),(hbww.trans (hbel.mono Om)).trans (hb4.mono Om)⟩
    ·have hqb:(mkS q).toList.isEmpty=false:=by rw [Lib.toList_data,mk_data];exact List.isEmpty_eq_false_iff.2 hqe
     have HQT:=Lib.hid (show x8 43 q=43::q by unfold x8;rw [if_neg (by simpa using hqe)])
     clear hqe
     go_wp2_with (go_at_call 146;refine (bZ _ (nV a b c) 46 _ hrd Om (by simp [nV]) (by rw [fO];simp)).mono ?_;rintro e w4 ⟨rfl,hb4⟩;obtain ⟨c3,f3⟩:=gJ (j:=3) ((hb4.block w.heap.size Om).trans hg3.out) (by simp);obtain ⟨c4,f4⟩:=gJ (j:=4) ((hb4.block w.heap.size Om).trans hg3.out) (by simp);simp only [List.getElem_toArray,List.getElem_cons_succ,List.getElem_cons_zero] at c3 c4)
     go_ret
     exact ⟨vU (by rw [HT.out,HPT.out,HQT.out,show (⟨#[45]⟩:ByteArray)=mkS [45] from rfl,show (⟨#[43]⟩:ByteArray)=mkS [43] from rfl,yU,yU,yU,yU];simp),(hbww.trans (hbel.mono Om)).trans (hb4.mono Om)⟩
theorem print_none (v:Ver)(w:World)(hp:v.pre.length<=1048576)(hq:v.build.length<=1048576)(hm:v.may=false):
  YC 99 #[kY v] w (YR (.string (mkS [])) w):=by
 have cM:=λw'=>may_any v w' Om Om
 rw [hm] at cM
 obtain ⟨a,b,c,p,q⟩:=v
 unfold kY at cM ⊢
 dsimp only at cM ⊢
 clear hm
 go_enter Tryz.func99,Tryz.ntmps99
 go_wp2_with (go_at_call 64;refine (cM _).mono ?_;rintro e w1 ⟨rfl,hb1⟩)
 go_ret
 exact ⟨rfl,((Below.refl _ _).alloc (Nat.le_refl _) _).trans (hb1.mono (by simp))⟩
theorem vprint_any (v:Ver)(w:World)(hp:v.pre.length<=1048576)(hq:v.build.length<=1048576)(ht:HasTab w):
  YC 99 #[kY v] w (YR (.string (mkS v.print)) w):=by
 cases hm:v.may with
 |true=>rw [fJ hm];exact print_good v w hp hq hm ht
 |false=>rw [print_bad hm];exact print_none v w hp hq hm
end
section
def bG (s:YL):Ver:=(mD s).getD Ver.zero
def pU (s:YL):Int:=if (mD s).isSome then 0 else 5
theorem mkS_ne {a b:YL}(h:a≠b):((mkS a).toList==(mkS b).toList)=false:=by
 rw [Lib.toList_data,Lib.toList_data,mk_data,mk_data];simpa using h
theorem mkS_eq {a b:YL}(h:a=b):((mkS a).toList==(mkS b).toList)=true:=by
 subst h;simp
theorem par_hit {s:YL}(h:(fP s).print=s):bG s=fP s/\pU s=0:=by
 have:=parse_eq s
 unfold parseI at this
 rw [if_pos h] at this
 unfold bG pU
 rw [←this];exact ⟨rfl,rfl⟩
theorem par_miss {s:YL}(h:¬ (fP s).print=s):bG s=Ver.zero/\pU s=5:=by
 have:=parse_eq s
 unfold parseI at this
 rw [if_neg h] at this
 unfold bG pU
 rw [←this];exact ⟨rfl,rfl⟩
def PEnd (s:YL)(w:World)(e:Ending)(w':World):Prop:=e= .returned (.tuple #[kY (bG s),YI (pU s)])/\YB w w'
theorem ver_one (a b c:Int)(p q:ByteArray):(#[YI a,YI b,YI c,.string p,.string q]:Array Value).all (·.oneCell')=true:=by simp [Value.oneCell']
theorem parse_done {s:YL}{w wr:World}{v:Ver}{n:Int}{tmps:Array Value}{old:Array Value}(h2:tmps.getD 2 undef= .pointer (some ⟨w.heap.size,0,none⟩))(h3:tmps.getD 3 undef=YI n)
  (hg:wr.heap[w.heap.size]?=some (.cells old 24)) (hbel:YB w wr) (hv:bG s=v) (hn:pU s=n):
  bodyPost YP Tryz.f105 (PEnd s w) .ret ⟨tmps,[]⟩ (wr.setRow w.heap.size (ZP v)):=by
 have hrow:=setRow_heap wr w.heap.size _ (ZP v) _ _ hg
 have hr:=run_loadVar_row (P:=YP) _ w.heap.size 24 24 _ _ _ hrow Tryz.underlying24 rfl Kr
 have h2':tmps[2]?.getD undef= .pointer (some ⟨w.heap.size,0,none⟩):=by simpa using h2
 have h3':tmps[3]?.getD undef=YI n:=by simpa using h3
 refine bodyPost_ret (v:= .tuple #[kY v,YI n]) (by simp [results,Tryz.results105,asAddr,h2',h3',hr,kY]) rfl ⟨by rw [hv,hn],mQ hbel (Nat.le_refl _) _⟩
theorem parse_any0 (s:YL)(w:World)(hs:s.length<=1048576)(ht:HasTab w):
  YC 105 #[.string (mkS s)] w (PEnd s w):=by
 obtain ⟨s1,bl,f1,h1⟩:∃ a b c,zA 43 s=(a,b,c):=⟨_,_,_,rfl⟩
 obtain ⟨s2,pr,f2,h2⟩:∃ a b c,zA 45 s1=(a,b,c):=⟨_,_,_,rfl⟩
 obtain ⟨ma,s3,f3,h3⟩:∃ a b c,zA 46 s2=(a,b,c):=⟨_,_,_,rfl⟩
 obtain ⟨mi,pa,f4,h4⟩:∃ a b c,zA 46 s3=(a,b,c):=⟨_,_,_,rfl⟩
 have l1:=wU 43 s
 have l2:=wU 45 s1
 have l3:=wU 46 s2
 have l4:=wU 46 s3
 rw [h1] at l1
 rw [h2] at l2
 rw [h3] at l3
 rw [h4] at l4
 dsimp only at l1 l2 l3 l4
 have hG:fP s=⟨xD ma,xD mi,xD pa,pr,bl⟩:=by
  unfold fP;simp only [h1,h2,h3,h4]
 have c1:=λw'=>vP s 43 w' Om
 have c2:=λw'=>vP s1 45 w' Om
 have c3:=λw'=>vP s2 46 w' Om
 have c4:=λw'=>vP s3 46 w' Om
 rw [h1] at c1
 rw [h2] at c2
 rw [h3] at c3
 rw [h4] at c4
 dsimp only at c1 c2 c3 c4
 have cP:=λw' (h:HasTab w')=>vprint_any (fP s) w' (by rw [hG];show pr.length<=_;omega) (by rw [hG];show bl.length<=_;omega) h
 obtain ⟨P,hP⟩:∃ P,(fP s).print=P:=⟨_,rfl⟩
 rw [hP,hG] at cP
 unfold kY at cP
 dsimp only at cP
 have HG:=Lib.hid hG
 have HP:=Lib.hid hP
 clear hG hP h1 h2 h3 h4
 have la:ma.length<=maxLen:=by unfold maxLen;omega
 have lb:mi.length<=maxLen:=by unfold maxLen;omega
 have lc:pa.length<=maxLen:=by unfold maxLen;omega
 obtain ⟨na,hna⟩:∃ n,xD ma=n:=⟨_,rfl⟩
 obtain ⟨nb,hnb⟩:∃ n,xD mi=n:=⟨_,rfl⟩
 obtain ⟨nc,hnc⟩:∃ n,xD pa=n:=⟨_,rfl⟩
 have n1:=λw'=>nF ma w' la
 have n2:=λw'=>nF mi w' lb
 have n3:=λw'=>nF pa w' lc
 rw [hna] at n1
 rw [hnb] at n2
 rw [hnc] at n3
 rw [hna,hnb,hnc] at cP HG
 clear hna hnb hnc
 have cR:=λw'=>release_any na nb nc w'
 unfold kY Ver.rel at cR
 dsimp only at cR
 go_enter Tryz.func105,Tryz.ntmps105
 go_wp2_with fail
 refine (c1 _).mono ?_
 rintro e w1 ⟨rfl,hb1⟩
 go_wp2_with fail
 refine (c2 _).mono ?_
 rintro e w2 ⟨rfl,hb2⟩
 go_wp2_with fail
 refine (c3 _).mono ?_
 rintro e w3 ⟨rfl,hb3⟩
 go_wp2_with fail
 refine (c4 _).mono ?_
 rintro e w4 ⟨rfl,hb4⟩
 go_wp2_with fail
 refine (n1 _).mono ?_
 rintro e w5 ⟨rfl,hb5⟩
 go_wp2_with fail
 refine (n2 _).mono ?_
 rintro e w6 ⟨rfl,hb6⟩
 go_wp2_with fail
 refine (n3 _).mono ?_
 rintro e w7 ⟨rfl,hb7⟩
 go_wp2_with fail
 refine (cR _).mono ?_
 rintro e w8 ⟨rfl,hb8⟩
 have hz1:=hb1.size
 have hz2:=hb2.size
 have hz3:=hb3.size
 have hz4:=hb4.size
 have hz5:=hb5.size
 have hz6:=hb6.size
 have hz7:=hb7.size
 have hz8:=hb8.size
 rw [vL] at hz1
 have hbv:Below (w.heap.size+1) (w.alloc (.cells #[YI 0,YI 0,YI 0,.string ⟨#[]⟩,.string ⟨#[]⟩] 24)) w8:=
  (((((((hb1.mono (by rw [vL];omega)).trans (hb2.mono Om)).trans (hb3.mono Om)).trans (hb4.mono Om)).trans (hb5.mono Om)).trans (hb6.mono Om)).trans (hb7.mono Om)).trans (hb8.mono Om)
 have hbw:YB w w8:=((Below.refl _ _).alloc (Nat.le_refl _) _).trans (hbv.mono Om)
 have hg8:=Lib.hid ((hbv.block w.heap.size Om).trans (wR w _))
 have hsw:w.heap.size<w8.heap.size:=by omega
 clear hz1 hz2 hz3 hz4 hz5 hz6 hz7 hz8 hbv
 go_wp2_with fail
 refine (cP _ (ht.on (hbw.alloc Om _))).mono ?_
 rintro e w9 ⟨rfl,hb9⟩
 have hz9:=hb9.size
 rw [vL] at hz9
 have hg9:=Lib.hid (((hb9.block w.heap.size (by rw [vL];omega)).trans (heap_old w8 _ hsw)).trans hg8.out)
 have hgv:=Lib.hid ((hb9.block w8.heap.size (by rw [vL];omega)).trans (wR w8 _))
 have hbw9:YB w w9:=(hbw.alloc Om _).trans (hb9.mono (by rw [vL];omega))
 by_cases hPs:P=s
 ·have hne:=mkS_eq hPs
  have hne2:((mkS P).toList !=(mkS s).toList)=false:=by rw [bne,hne];rfl
  have HPS:=Lib.hid hPs
  clear hPs
  go_wp2_with fail
  refine (fW (mkS pr) _ (by rw [y7];omega)).mono ?_
  rintro e w10 ⟨rfl,hb10⟩
  go_wp2_with fail
  refine (fW (mkS bl) _ (by rw [y7];omega)).mono ?_
  rintro e w11 ⟨rfl,hb11⟩
  have hz10:=hb10.size
  have hz11:=hb11.size
  have hg11:=Lib.hid ((hb11.block w.heap.size Om).trans ((hb10.block w.heap.size Om).trans hg9.out))
  have hgv11:=Lib.hid ((hb11.block w8.heap.size Om).trans ((hb10.block w8.heap.size Om).trans hgv.out))
  have hbw11:YB w w11:=(hbw9.trans (hb10.mono Om)).trans (hb11.mono Om)
  obtain ⟨c3,f3⟩:=gJ (j:=3) hgv11.out (by simp)
  obtain ⟨c4,f4⟩:=gJ (j:=4) hgv11.out (by simp)
  have e3:=setCell_eq_setRow w11 w8.heap.size 3 _ _ _ (.string (mkS pr)) hgv11.out
  have hq3:=setRow_heap w11 w8.heap.size _ #[YI na,YI nb,YI nc,.string (mkS pr),.string (mkS bl)] _ _ hgv11.out
  have e4:=setCell_eq_setRow _ w8.heap.size 4 _ _ _ (.string (mkS bl)) hq3
  have hwv:(w11.setCell ⟨w8.heap.size,3,none⟩ (.string (mkS pr))).setCell ⟨w8.heap.size,4,none⟩ (.string (mkS bl))=(w11.setRow w8.heap.size #[YI na,YI nb,YI nc,.string (mkS pr),.string (mkS bl)]).setRow w8.heap.size #[YI na,YI nb,YI nc,.string (mkS pr),.string (mkS bl)]:=by rw [e3];exact e4
  have hL:((w11.setCell ⟨w8.heap.size,3,none⟩ (.string (mkS pr))).setCell ⟨w8.heap.size,4,none⟩ (.string (mkS bl))).heap[w8.heap.size]?=some (.cells #[YI na,YI nb,YI nc,.string (mkS pr),.string (mkS bl)] 24):=by
   rw [hwv];exact setRow_heap _ _ _ _ _ _ hq3
  have hL0:((w11.setCell ⟨w8.heap.size,3,none⟩ (.string (mkS pr))).setCell ⟨w8.heap.size,4,none⟩ (.string (mkS bl))).heap[w.heap.size]?=some (.cells #[YI 0,YI 0,YI 0,.string ⟨#[]⟩,.string ⟨#[]⟩] 24):=by
   rw [hwv,m7 _ _ _ _ Om,m7 _ _ _ _ Om];exact hg11.out
  have hbL:Below w.heap.size w ((w11.setCell ⟨w8.heap.size,3,none⟩ (.string (mkS pr))).setCell ⟨w8.heap.size,4,none⟩ (.string (mkS bl))):=(hbw11.setCell (by simp;omega) _).setCell (by simp;omega) _
  have HL:=Lib.hid hL
  have HL0:=Lib.hid hL0
  clear e3 hq3 e4 hwv hL hL0
  go_wp2_with (first
   |(refine wpList_load_row rfl 24 _ rfl w8.heap.size rfl _ _ _ _ HL.out Tryz.underlying24 rfl Kr ?_)
   |(refine wpList_store_row rfl 24 _ _ rfl w.heap.size #[.int .i64 na,.int .i64 nb,.int .i64 nc,.string (mkS pr),.string (mkS bl)] rfl rfl _ _ HL0.out Kr rfl (ver_one _ _ _ _ _) ?_))
  have hit:=par_hit (HP.out.trans HPS.out)
  exact parse_done (v:=⟨na,nb,nc,pr,bl⟩) rfl rfl HL0.out hbL (hit.1.trans HG.out) hit.2
 ·have hne:=mkS_ne hPs
  have hne2:((mkS P).toList !=(mkS s).toList)=true:=by rw [bne,hne];rfl
  go_wp2_with (refine wpList_store_row rfl 24 _ _ rfl w.heap.size #[YI 0,YI 0,YI 0,.string ⟨#[]⟩,.string ⟨#[]⟩] rfl rfl _ _ hg9.out Kr rfl (ver_one _ _ _ _ _) ?_)
  exact parse_done (v:=Ver.zero) rfl rfl hg9.out hbw9 (par_miss (λe=>hPs (HP.out.symm.trans e))).1 (par_miss (λe=>hPs (HP.out.symm.trans e))).2
theorem parse_any (s:YL)(w:World)(hs:s.length<=1048576)(ht:HasTab w):
  YC 105 #[.string (mkS s)] w (YR (.tuple #[kY (bG s),YI (pU s)]) w):=parse_any0 s w hs ht
end
section
def bumpN (v:Ver)(k:Nat):Ver:=if k=0 then Ver.rel (v.maj+1) 0 0 else if k=1 then Ver.rel v.maj (v.min+1) 0 else Ver.rel v.maj v.min (v.pat+1)
def dB (v:Ver)(part:Int):Bool:=v.may && decide (0<=part/\part<3) && !(n9 v.maj v.min v.pat part.toNat==9999)
def bumpV (v:Ver)(part:Int):Ver:=if dB v part then bumpN v part.toNat else Ver.zero
def BEnd (v:Ver)(part:Int)(w:World)(e:Ending)(w':World):Prop:=e= .returned (.tuple #[kY (bumpV v part),.bool (dB v part)])/\YB w w'
def nextOk (v:Ver):Bool:=v.may && (!v.pre.isEmpty||dB v 2||dB v 1||dB v 0)
def nextV (v:Ver):Ver:=
 if v.may then (if v.pre.isEmpty then (if dB v 2 then bumpV v 2 else if dB v 1 then bumpV v 1 else if dB v 0 then bumpV v 0 else Ver.zero) else Ver.rel v.maj v.min v.pat) else Ver.zero
def NEnd (v:Ver)(w:World)(e:Ending)(w':World):Prop:=e= .returned (.tuple #[kY (nextV v),.bool (nextOk v)])/\YB w w'
def findB (v:Ver):Nat->Ver×Bool
 |0=>(Ver.zero,false)
 |k+1=>if dB v k then (bumpV v k,true) else findB v k
end
section
def k8:List Nat->List Nat->Int
 | [],[]=>0
 | [],_::_=> -1
 |_::_,[]=>1
 |a::l,b::m=>if a<b then-1 else if b<a then 1 else k8 l m
theorem cmpL_cons (a b:Nat)(l m:List Nat):k8 (a::l) (b::m)=if a<b then-1 else if b<a then 1 else k8 l m:=rfl
theorem cmpL_self (a:List Nat):k8 a a=0:=by
 induction a with
 |nil=>rfl
 |cons x l ih=>rw [k8,if_neg Om,if_neg Om];exact ih
theorem cmpL_anti (a:List Nat):∀ b,k8 b a= -k8 a b:=by
 induction a with
 |nil=>intro b;cases b<;>rfl
 |cons x l ih=>
  intro b
  cases b with
  |nil=>rfl
  |cons y m=>
   rw [k8,k8]
   by_cases h1:x<y
   ·rw [if_neg Om,if_pos h1,if_pos h1];rfl
   ·by_cases h2:y<x
    ·rw [if_pos h2,if_neg h1,if_pos h2]
    ·rw [if_neg h2,if_neg h1,if_neg h1,if_neg h2];exact ih m
theorem cmpL_range (a:List Nat):∀ b,k8 a b= -1\/k8 a b=0\/k8 a b=1:=by
 induction a with
 |nil=>intro b;cases b<;>simp [k8]
 |cons x l ih=>
  intro b
  cases b with
  |nil=>simp [k8]
  |cons y m=>
   rw [k8]
   split
   ·simp
   ·split
    ·simp
    ·exact ih m
theorem cmpL_zero (a:List Nat):∀ b,k8 a b=0->a=b:=by
 induction a with
 |nil=>intro b;cases b<;>simp [k8]
 |cons x l ih=>
  intro b
  cases b with
  |nil=>simp [k8]
  |cons y m=>
   rw [k8]
   split
   ·intro h;omega
   ·split
    ·intro h;omega
    ·intro h;rw [ih m h,show x=y from by omega]
theorem cmpL_trans (a:List Nat):∀ b c,k8 a b<=0->k8 b c<=0->k8 a c<=0/\(k8 a c=0->k8 a b=0/\k8 b c=0):=by
 induction a with
 |nil=>
  intro b c h1 h2
  cases b with
  |nil=>cases c<;>simp [k8]
  |cons y m=>
   cases c with
   |nil=>simp [k8] at h2
   |cons z n=>simp [k8]
 |cons x l ih=>
  intro b c h1 h2
  cases b with
  |nil=>simp [k8] at h1
  |cons y m=>
   cases c with
   |nil=>simp [k8] at h2
   |cons z n=>
    simp only [cmpL_cons] at h1 h2 ⊢
    by_cases a1:x<y
    ·simp only [if_pos a1] at h1 ⊢
     by_cases a2:y<z
     ·have:x<z:=by omega
      simp only [if_pos this];omega
     ·by_cases a3:z<y
      ·simp only [if_neg a2,if_pos a3] at h2;omega
      ·have:x<z:=by omega
       simp only [if_pos this];omega
    ·by_cases a1':y<x
     ·simp only [if_neg a1,if_pos a1'] at h1;omega
     ·simp only [if_neg a1,if_neg a1'] at h1 ⊢
      obtain rfl:x=y:=by omega
      by_cases a2:x<z
      ·simp only [if_pos a2];omega
      ·by_cases a3:z<x
       ·simp only [if_neg a2,if_pos a3] at h2;omega
       ·simp only [if_neg a2,if_neg a3] at h2 ⊢
        exact ih m n h1 h2
def oneR (a b:YL):Int:=
 if qK a && qK b then Lib.compareInt (xD a) (xD b) else if qK a then-1 else if qK b then 1 else Lib.compareBytes a b
def presL:List YL->List YL->Int
 | [],[]=>0
 | [],_::_=> -1
 |_::_,[]=>1
 |a::l,b::m=>if oneR a b≠0 then oneR a b else presL l m
def presR (a b:YL):Int:=if a=b then 0 else if a=[] then 1 else if b=[] then-1 else presL (pcs a) (pcs b)
def tH (t:YL):List Nat:=if qK t then [1,(xD t).toNat] else 2::(t.map (λc=>c.toNat+1)++[0])
def dF (l:List YL):List Nat:=l.flatMap tH++[0]
def preKey (p:YL):List Nat:=if p=[] then [3] else dF (pcs p)
def Ver.key (v:Ver):List Nat:=v.maj.toNat::v.min.toNat::v.pat.toNat::preKey v.pre
theorem numD_nat (t:YL):0<=xD t:=by unfold xD;omega
theorem cmpL_bytes (a:YL):∀ (b:YL) (x y:List Nat),k8 (a.map (λc=>c.toNat+1)++0::x) (b.map (λc=>c.toNat+1)++0::y)=if Lib.compareBytes a b≠0 then Lib.compareBytes a b else k8 x y:=by
 induction a with
 |nil=>
  intro b x y
  cases b with
  |nil=>simp [k8,Lib.compareBytes]
  |cons c r=>simp [k8,Lib.compareBytes]
 |cons c r ih=>
  intro b x y
  cases b with
  |nil=>simp [k8,Lib.compareBytes]
  |cons d q=>
   simp only [List.map_cons,List.cons_append,cmpL_cons]
   by_cases h1:c<d
   ·have h1':c.toNat<d.toNat:=UInt8.lt_iff_toNat_lt.1 h1
    have e:Lib.compareBytes (c::r) (d::q)= -1:=by rw [Lib.compareBytes,if_pos h1]
    rw [e,if_pos Om];rfl
   ·by_cases h2:d<c
    ·have h2':d.toNat<c.toNat:=UInt8.lt_iff_toNat_lt.1 h2
     have e:Lib.compareBytes (c::r) (d::q)=1:=by rw [Lib.compareBytes,if_neg h1,if_pos h2]
     rw [e,if_neg Om,if_pos Om];rfl
    ·have a1:¬ c.toNat<d.toNat:=λh=>h1 (UInt8.lt_iff_toNat_lt.2 h)
     have a2:¬ d.toNat<c.toNat:=λh=>h2 (UInt8.lt_iff_toNat_lt.2 h)
     have e:Lib.compareBytes (c::r) (d::q)=Lib.compareBytes r q:=by rw [Lib.compareBytes,if_neg h1,if_neg h2]
     rw [e,if_neg Om,if_neg Om]
     exact ih q x y
theorem cmpL_tag (a b:YL)(x y:List Nat):k8 (tH a++x) (tH b++y)=if oneR a b≠0 then oneR a b else k8 x y:=by
 unfold tH oneR
 cases ha:qK a<;>cases hb:qK b
 ·have:=cmpL_bytes a b x y
  simpa [k8] using this
 ·simp [k8]
 ·simp [k8]
 ·have h1:=numD_nat a
  have h2:=numD_nat b
  simp only [Bool.and_true,if_true,List.cons_append,List.nil_append,k8,Lib.compareInt]
  by_cases h:xD a<xD b
  ·rw [if_pos h,if_pos (by omega:(xD a).toNat<(xD b).toNat)];rfl
  ·by_cases h':xD b<xD a
   ·rw [if_neg h,if_pos h',if_neg (by omega:¬ (xD a).toNat<(xD b).toNat),if_pos (by omega:(xD b).toNat<(xD a).toNat)];rfl
   ·rw [if_neg h,if_neg h',if_neg (by omega:¬ (xD a).toNat<(xD b).toNat),if_neg (by omega:¬ (xD b).toNat<(xD a).toNat)];rfl
theorem tag_cons (a:YL):∃ k r,tH a=k::r/\0<k/\k<3:=by
 unfold tH;split
 ·exact ⟨_,_,rfl,by omega,by omega⟩
 ·exact ⟨_,_,rfl,by omega,by omega⟩
theorem cmpL_tail (l:List YL):∀ m,k8 (dF l) (dF m)=presL l m:=by
 induction l with
 |nil=>
  intro m
  cases m with
  |nil=>rfl
  |cons b m=>
   obtain ⟨k,r,e,h,_⟩:=tag_cons b
   unfold dF
   rw [List.flatMap_cons,e]
   simp [k8,presL,h]
 |cons a l ih=>
  intro m
  cases m with
  |nil=>
   obtain ⟨k,r,e,h,_⟩:=tag_cons a
   unfold dF
   rw [List.flatMap_cons,e]
   simp [k8,presL,h]
  |cons b m=>
   have:=ih m
   unfold dF at this ⊢
   rw [List.flatMap_cons,List.flatMap_cons,List.append_assoc,List.append_assoc,cmpL_tag,this,presL]
theorem tail_small (l:List YL):∃ k r,dF l=k::r/\k<3:=by
 unfold dF
 cases l with
 |nil=>exact ⟨0,[],rfl,by omega⟩
 |cons a l=>
  obtain ⟨k,r,e,_,h⟩:=tag_cons a
  exact ⟨k,r++(l.flatMap tH++[0]),by rw [List.flatMap_cons,e];simp,h⟩
theorem presR_key (a b:YL):presR a b=k8 (preKey a) (preKey b):=by
 unfold presR
 by_cases h:a=b
 ·rw [if_pos h,h,cmpL_self]
 ·rw [if_neg h]
  unfold preKey
  by_cases ha:a=[]
  ·have hb:b≠[]:=λe=>h (ha.trans e.symm)
   rw [if_pos ha,if_pos ha,if_neg hb]
   obtain ⟨k,r,e,hk⟩:=tail_small (pcs b)
   rw [e,k8,if_neg Om,if_pos hk]
  ·rw [if_neg ha,if_neg ha]
   by_cases hb:b=[]
   ·rw [if_pos hb,if_pos hb]
    obtain ⟨k,r,e,hk⟩:=tail_small (pcs a)
    rw [e,k8,if_pos hk]
   ·rw [if_neg hb,if_neg hb];exact (cmpL_tail _ _).symm
def cmpN (v w:Ver):Int:=
 if Lib.compareInt v.maj w.maj≠0 then Lib.compareInt v.maj w.maj
 else if Lib.compareInt v.min w.min≠0 then Lib.compareInt v.min w.min
 else Lib.compareInt v.pat w.pat
def dA (v w:Ver):Int:=if v.may && w.may then (if cmpN v w≠0 then cmpN v w else presR v.pre w.pre) else 0
theorem may_nat {v:Ver}(h:v.may=true):(0<=v.maj/\v.maj<=9999)/\(0<=v.min/\v.min<=9999)/\(0<=v.pat/\v.pat<=9999):=by
 obtain ⟨h1,h2,h3⟩:=jK h
 unfold zP at h1 h2 h3;simp at h1 h2 h3
 exact ⟨h1,h2,h3⟩
theorem cmpL_num {a b:Int}(ha:0<=a)(hb:0<=b)(x y:List Nat):k8 (a.toNat::x) (b.toNat::y)=if Lib.compareInt a b≠0 then Lib.compareInt a b else k8 x y:=by
 rw [k8]
 unfold Lib.compareInt
 by_cases h:a<b
 ·rw [if_pos h,if_pos Om];rfl
 ·by_cases h':b<a
  ·rw [if_neg h,if_pos h',if_neg Om,if_pos Om];rfl
  ·rw [if_neg h,if_neg h',if_neg Om,if_neg Om];rfl
theorem fV {v w:Ver}(hv:v.may=true)(hw:w.may=true):dA v w=k8 v.key w.key:=by
 obtain ⟨v1,v2,v3⟩:=may_nat hv
 obtain ⟨w1,w2,w3⟩:=may_nat hw
 unfold dA
 rw [hv,hw,presR_key]
 unfold Ver.key
 rw [cmpL_num v1.1 w1.1,cmpL_num v2.1 w2.1,cmpL_num v3.1 w3.1]
 unfold cmpN
 simp only [Bool.and_true,if_true]
 by_cases h1:Lib.compareInt v.maj w.maj=0
 ·by_cases h2:Lib.compareInt v.min w.min=0
  ·simp [h1,h2]
  ·simp [h1,h2]
 ·simp [h1]
def oneP (a b:YL):Int:=
 if jH a && jH b then Lib.compareInt (xD a) (xD b) else if jH a && !b.isEmpty then-1 else if jH b && !a.isEmpty then 1 else Lib.compareBytes a b
def seqP:Nat->List YL->List YL->Int
 |0,_,_=>0
 |n+1,l,m=>if oneP (tg l 0) (tg m 0)≠0 then oneP (tg l 0) (tg m 0) else seqP n l.tail m.tail
def fine (t:YL):Bool:=kW t && preT t
def cpre (a b:YL):Int:=if a=[] then 1 else if b=[] then-1 else seqP 4 (lst a).1 (lst b).1
theorem cmpR_bad {v w:Ver}(h:v.may=false\/w.may=false):dA v w=0:=by
 unfold dA
 rw [if_neg]
 rcases h with h|h<;>simp [h]
def vQ (v:Ver):Ver:={v with build:=[]}
theorem n7 (x:Int):Lib.compareInt x x=0:=by unfold Lib.compareInt;simp
theorem cmpR_core {v w:Ver}(h:vQ v=vQ w):dA v w=0:=by
 unfold vQ at h
 simp only [Ver.mk.injEq,and_true] at h
 obtain ⟨h1,h2,h3,h4⟩:=h
 unfold dA cmpN presR
 rw [h1,h2,h3,h4]
 simp [n7]
end
section
theorem core_may {v:Ver}(h:v.may=true):(vQ v).may=true:=by
 have e:qX []=true:=by decide
 unfold Ver.may at h ⊢;simp only [Bool.and_eq_true] at h ⊢
 exact ⟨⟨h.1.1,h.1.2⟩,e⟩
theorem order_self {a:Ver}:dA a a=0:=cmpR_core rfl
theorem order_core {a b:Ver}(ha:a.may=true)(hb:b.may=true):dA (vQ a) b=dA a b:=by
 rw [fV (core_may ha) hb,fV ha hb];rfl
def Ver.code (v:Ver):Int:=(v.maj*10000+v.min)*10000+v.pat
end
section
end
section
structure Co where
 op:Int
 parts:Int
 v:Ver
deriving DecidableEq
def jU (op:Int):YL:=if op=1 then [61] else if op=2 then [33,61] else if op=3 then [60] else if op=4 then [60,61] else if op=5 then [62] else if op=6 then [62,61] else if op=7 then [94] else if op=8 then [126] else []
def Co.may (c:Co):Bool:=decide (1<=c.op/\c.op<=9) && c.v.may && decide (c.v.build=[]) && (if c.op=9 then decide (0<=c.parts/\c.parts<=2) else decide (1<=c.parts/\c.parts<=3)) && decide (3<=c.parts\/c.v.pre=[]) && decide (0<c.parts\/c.v.maj=0) && decide (1<c.parts\/c.v.min=0) && decide (2<c.parts\/c.v.pat=0)
theorem Co.facts {c:Co}(h:c.may=true):(1<=c.op/\c.op<=9)/\c.v.may=true/\c.v.build=[]/\(c.op=9->0<=c.parts/\c.parts<=2)/\(¬ c.op=9->1<=c.parts/\c.parts<=3)/\(3<=c.parts\/c.v.pre=[])/\(0<c.parts\/c.v.maj=0)/\(1<c.parts\/c.v.min=0)/\(2<c.parts\/c.v.pat=0):=by
 unfold Co.may at h
 simp only [Bool.and_eq_true,decide_eq_true_eq] at h
 obtain ⟨⟨⟨⟨⟨⟨⟨h1,h2⟩,h3⟩,h4⟩,h5⟩,h6⟩,h7⟩,h8⟩:=h
 refine ⟨h1,h2,h3,λe=> ?_,λe=> ?_,h5,h6,h7,h8⟩
 ·rw [if_pos e] at h4;exact of_decide_eq_true h4
 ·rw [if_neg e] at h4;exact of_decide_eq_true h4
theorem Co.may_iff {c:Co}:c.may=true↔(1<=c.op/\c.op<=9)/\c.v.may=true/\c.v.build=[]/\(c.op=9->0<=c.parts/\c.parts<=2)/\(¬ c.op=9->1<=c.parts/\c.parts<=3)/\(3<=c.parts\/c.v.pre=[])/\(0<c.parts\/c.v.maj=0)/\(1<c.parts\/c.v.min=0)/\(2<c.parts\/c.v.pat=0):=by
 refine ⟨Co.facts,λ⟨h1,h2,h3,k9,kn,h5,h6,h7,h8⟩=> ?_⟩
 unfold Co.may
 rw [decide_eq_true h1,h2,decide_eq_true h3,decide_eq_true h5,decide_eq_true h6,decide_eq_true h7,decide_eq_true h8]
 by_cases e:c.op=9
 ·rw [if_pos e,decide_eq_true (k9 e)];rfl
 ·rw [if_neg e,decide_eq_true (kn e)];rfl
def gQ (v:Ver)(n:Nat):List YL:=[Lib.itoa v.maj,Lib.itoa v.min,Lib.itoa v.pat].take n
def Co.rest (c:Co):YL:=if c.op=9 then zD 46 (gQ c.v c.parts.toNat++[[42]]) else zD 46 (gQ c.v c.parts.toNat)++x8 45 c.v.pre
def Co.text (c:Co):YL:=jU c.op++c.rest
def Co.print (c:Co):YL:=if c.may then c.text else []
def gK (s t:YL):Bool:=decide (s.take t.length=t)
def splitC (s:YL):Int×YL:=
 if gK s [33,61] then (2,s.drop 2) else if gK s [60,61] then (4,s.drop 2) else if gK s [62,61] then (6,s.drop 2) else if gK s [61] then (1,s.drop 1)
 else if gK s [60] then (3,s.drop 1) else if gK s [62] then (5,s.drop 1) else if gK s [94] then (7,s.drop 1) else if gK s [126] then (8,s.drop 1)
 else if s.getLast?=some 42 then (9,s) else (7,s)
def guessL (op:Int)(rest:YL):List YL:=if op=9 then (pcs (zA 45 rest).1).dropLast else pcs (zA 45 rest).1
def guessC (op:Int)(rest:YL):Option Co:=
 if (guessL op rest).length<=3/\(guessL op rest).all jH=true then
  some ⟨op,(guessL op rest).length,⟨xD (tg (guessL op rest) 0),xD (tg (guessL op rest) 1),xD (tg (guessL op rest) 2),(zA 45 rest).2.1,[]⟩⟩
 else none
def fits (s:YL)(c:Co):Bool:= !decide (c.print=[]) && (decide (c.print=s)||decide (c.print=94::s))
def parseC (s:YL):Option Co:=(guessC (splitC s).1 (splitC s).2).filter (fits s)
theorem co_print {c:Co}(h:c.may=true):c.print=c.text:=by unfold Co.print;rw [h];rfl
theorem nums_mem {v:Ver}(hv:v.may=true){n:Nat}{x:YL}(h:x∈gQ v n):∃ k:Int,zP k=true/\x=Lib.itoa k:=by
 obtain ⟨h1,h2,h3⟩:=jK hv
 unfold gQ at h
 have h:=List.mem_of_mem_take h
 simp only [List.mem_cons,List.not_mem_nil,or_false] at h
 rcases h with rfl|rfl|rfl
 ·exact ⟨_,h1,rfl⟩
 ·exact ⟨_,h2,rfl⟩
 ·exact ⟨_,h3,rfl⟩
theorem numsN_len (v:Ver){n:Nat}(h:n<=3):(gQ v n).length=n:=by
 unfold gQ
 rw [List.length_take]
 simp;omega
end
section
def qY (sep:YL):List YL->YL
 | []=>[]
 | [x]=>x
 |x::y::l=>x++sep++qY sep (y::l)
theorem pK (sep x y:YL)(l:List YL):qY sep (x::y::l)=x++sep++qY sep (y::l):=rfl
theorem joinB_snoc (sep x:YL):∀ (l:List YL),qY sep (l++[x])=if l=[] then x else qY sep l++sep++x
 | []=>rfl
 | [y]=>rfl
 |y::z::l=>by
  rw [if_neg (by simp)]
  show y++sep++qY sep ((z::l)++[x])=y++sep++qY sep (z::l)++sep++x
  rw [joinB_snoc sep x (z::l),if_neg (by simp)]
  simp only [List.append_assoc]
theorem joinL_B (b:UInt8):∀ (l:List YL),zD b l=qY [b] l
 | []=>rfl
 | [x]=>rfl
 |x::y::l=>by
  rw [zD,pK,joinL_B b (y::l)];simp
def sumN:List Nat->Nat
 | []=>0
 |n::l=>n+sumN l
def altText (a:List Co):YL:=qY [44,32] (a.map Co.print)
def rgText (r:List (List Co)):YL:=qY [32,124,124,32] (r.map altText)
def fewA (a:List Co):Bool:=decide (1<=a.length/\a.length<=6) && a.all Co.may
def fewR (r:List (List Co)):Bool:=decide (1<=r.length/\r.length<=6) && r.all fewA
def rgMay (r:List (List Co)):Bool:=fewR r && decide ((rgText r).length<=96)
def rgPrint (r:List (List Co)):YL:=if rgMay r then rgText r else []
def kM:YL->YL
 | []=>[]
 |c::l=>if c=32 then kM l else c::l
def bareL (s:YL):YL:=(kM (kM s).reverse).reverse
def wV:YL->YL->List YL
 |acc,[]=>[acc]
 |acc,[c]=>[acc++[c]]
 |acc,c::d::r=>if c=124/\d=124 then acc::wV [] r else wV (acc++[c]) (d::r)
def allO {α β:Type}(f:α->Option β):List α->Option (List β)
 | []=>some []
 |x::l=>match f x,allO f l with
  |some y,some m=>some (y::m)
  |_,_=>none
def parseP (s:YL):Option Co:=parseC (bareL s)
def parseA (s:YL):Option (List Co):=allO parseP (zB 44 [] s)
def parseAll (s:YL):Option (List (List Co)):=allO parseA (wV [] s)
def parseG (s:YL):Option (List (List Co)):=if 96<s.length then none else (parseAll s).filter rgMay
def errG (s:YL):Int:=if 96<s.length then 3 else match parseAll s with
 |none=>6
 |some r=>if fewR r then (if (rgText r).length<=96 then 0 else 3) else 6
def blanks (n:Nat):YL:=List.replicate n 32
inductive Two {α β:Type} (R:α->β->Prop):List α->List β->Prop
 |nil:Two R [] []
 |cons {x:α} {y:β} {l:List α} {m:List β} (h:R x y) (t:Two R l m):Two R (x::l) (y::m)
def SpellC (s:YL)(c:Co):Prop:=∃ n m,s=blanks n++c.text++blanks m
def SpellA (s:YL)(a:List Co):Prop:=∃ ps,s=zD 44 ps/\Two SpellC ps a/\ps≠[]
def SpellR (s:YL)(r:List (List Co)):Prop:=∃ l,s=qY [124,124] l/\Two SpellA l r/\l≠[]
end
section
def leafB (n:Nd):Bool:=decide (n.op=1) && decide (0<=n.key) && decide (n.key<3) && wdL n.text && decide (n.a=0) && decide (n.b=0)
def bareB (n:Nd):Bool:=decide (n.key=0) && decide (n.text=[])
def isNot (st:List (Nat×Tr))(n:Nd):Bool:=match st with
 |p::_=>decide (n.op=2) && bareB n && decide (n.a=(p.1:Int)) && decide (n.b=0)
 | []=>false
def isBin (st:List (Nat×Tr))(n:Nd):Bool:=match st with
 |p::q::_=>(decide (n.op=3)||decide (n.op=4)) && bareB n && decide (n.a=(q.1:Int)) && decide (n.b=(p.1:Int))
 |_=>false
def stp (i:Nat)(st:List (Nat×Tr))(n:Nd):Option (List (Nat×Tr)):=
 if leafB n then some ((i,.is n.key.toNat n.text)::st)
 else if isNot st n then (match st with|p::r=>some ((i,.no p.2)::r)| []=>none)
 else if isBin st n then (match st with|p::q::r=>some ((i,if n.op=3 then .both q.2 p.2 else .one q.2 p.2)::r)|_=>none)
 else none
def runT:Nat->List (Nat×Tr)->List Nd->Option (List (Nat×Tr))
 |_,st,[]=>some st
 |i,st,n::r=>match stp i st n with|some s=>runT (i+1) s r|none=>none
def treeOf (l:List Nd):Option Tr:=match runT 0 [] l with
 |some [p]=>some p.2
 |_=>none
def Lies:List (Nat×Tr)->List Nd->Prop
 | [],l=>l=[]
 |p::r,l=>∃ l0,Lies r l0/\p.2.ok=true/\p.1=l0.length+p.2.sz-1/\l=l0++p.2.enc l0.length
def mayM (l:List Nd):Bool:=match treeOf l with
 |some t=>decide (t.sz<=15) && decide (t.text.length<=96)
 |none=>decide (l=[])
abbrev Pf:=Nat->YL
def evT (e:Pf):Tr->Int
 | .is k t=>if e k=[] then 1 else if e k=t then 2 else 0
 | .no x=>2-evT e x
 | .both x y=>min (evT e x) (evT e y)
 | .one x y=>max (evT e x) (evT e y)
def vlT (e:Pf):Tr->List Int
 | .is k t=>[evT e (.is k t)]
 | .no x=>vlT e x++[evT e (.no x)]
 | .both x y=>vlT e x++vlT e y++[evT e (.both x y)]
 | .one x y=>vlT e x++vlT e y++[evT e (.one x y)]
def Ext (e g:Pf):Prop:=∀ k,e k≠[]->g k=e k
def t7 (e:Pf):Tr->Tr
 | .is k t=> .is k t
 | .no x=> .no (t7 e x)
 | .both x y=>if evT e y≠1 then t7 e x else if evT e x≠1 then t7 e y else .both (t7 e x) (t7 e y)
 | .one x y=>if evT e y≠1 then t7 e x else if evT e x≠1 then t7 e y else .one (t7 e x) (t7 e y)
def Asks (p:Nat->Prop):Tr->Prop
 | .is k _=>p k
 | .no x=>Asks p x
 | .both x y=>Asks p x/\Asks p y
 | .one x y=>Asks p x/\Asks p y
def truthT (e:Pf):Tr->Bool
 | .is k t=>decide (e k=t)
 | .no x=> !truthT e x
 | .both x y=>truthT e x && truthT e y
 | .one x y=>truthT e x||truthT e y
end
section
def tl:List Tok->Nat
 | []=>0
 |x::r=>x.length+1+tl r
def Tr.w (t:Tr):Nat:=tl t.tok
def Tr.w1 (t:Tr):Nat:=t.w+if t.isOne then 4 else 0
def Tr.w2 (t:Tr):Nat:=t.w+if t.isBin then 4 else 0
def printM (l:List Nd):YL:=if mayM l then (match treeOf l with|some t=>t.text|none=>[]) else []
def wordsM (s:YL):List Tok:=zB 32 [] s
def Tr.fit (t:Tr):Bool:=decide (t.sz<=15) && decide (t.text.length<=96)
def readM (s:YL):Option Tr:=match pOr (wordsM s).length (wordsM s) with
 |some (t,[])=>if t.fit then some t else none
 |_=>none
def errM (s:YL):Int:=if 96<s.length then 3 else if s=[] then 0 else match readM s with|some _=>0|none=>7
def nodM (s:YL):List Nd:=if 96<s.length then [] else if s=[] then [] else match readM s with|some t=>t.enc 0|none=>[]
def pfOk (e:Pf):Bool:=(decide (e 0=[])||wdL (e 0)) && (decide (e 1=[])||wdL (e 1)) && (decide (e 2=[])||wdL (e 2))
def evalM (l:List Nd)(e:Pf):Int:=if mayM l && pfOk e then (match treeOf l with|some t=>evT e t|none=>2) else 0
def underM (l:List Nd)(e:Pf):List Nd:=if evalM l e=1 then (match treeOf l with|some t=>(t7 e t).enc 0|none=>[]) else []
theorem vW (b:UInt8):∀ (x acc r:YL),b∉x->zB b acc (x++r)=zB b (acc++x) r
 | [],acc,r,_=>by simp
 |c::x,acc,r,h=>by
  have hc:c≠b:=λe=>h (by rw [e];exact List.mem_cons_self ..)
  rw [List.cons_append,zB,if_neg hc,vW b x (acc++[c]) r (λq=>h (List.mem_cons_of_mem _ q)),List.append_assoc];rfl
theorem jD (b:UInt8):∀ (l:List YL),l≠[]->(∀ x∈l,b∉x)->zB b [] (zD b l)=l
 | [],h,_=>absurd rfl h
 | [x],_,h=>by
  have:=vW b x [] [] (h x (List.mem_singleton.2 rfl))
  rw [List.append_nil] at this
  show zB b [] x=[x]
  rw [this];rfl
 |x::y::r,_,h=>by
  rw [zD,vW b x [] _ (h x (List.mem_cons_self ..)),zB,if_pos rfl,jD b (y::r) (by simp) λz hz=>h z (List.mem_cons_of_mem _ hz)];rfl
theorem wordGo_no {b:UInt8}(hb:wdB b.toNat=false):∀ (l:YL),kZ l=true->b∉l
 | [],_=>by simp
 |c::r,h=>by
  have hc:wdB c.toNat=true:=by
   unfold kZ at h
   unfold wdB
   rw [Bool.and_eq_true] at h;exact h.1
  rw [jY c r hc] at h
  intro hm
  rcases List.mem_cons.1 hm with e|hm
  ·subst e;rw [hb] at hc;cases hc
  ·exact wordGo_no hb r h hm
theorem jB {s:YL}{b:UInt8}(hb:wdB b.toNat=false)(h:wdL s=true):b∉s:=by
 unfold wdL at h
 rw [Bool.and_eq_true] at h;exact wordGo_no hb s h.2
theorem nQ {c:Bool}{l:List Tok}{x:Tok}(h:x∈wrapT c l):x=tOpen\/x=tClose\/x∈l:=by
 unfold wrapT at h
 cases c with
 |false=>exact .inr (.inr h)
 |true=>
  rcases List.mem_cons.1 h with h|h
  ·exact .inl h
  ·rcases List.mem_append.1 h with h|h
   ·exact .inr (.inr h)
   ·exact .inr (.inl (List.mem_singleton.1 h))
def Oks (part:List Tok->Option (Tr×List Tok)):Prop:=∀ ts t r,part ts=some (t,r)->t.ok=true
end
section
def vF (l:List YL)(alone:Bool):Bool:=l.all wdL && decide (l.length<=6) && x9 l && (alone||decide (l=[]))
def kC (own:YL)(x:Wt)(alone:Bool):Int:=
 if nmL x.name=false then 4 else if x.name=own then 8 else if yH x.rng=false then 6 else if vF x.fs alone=false then 11 else 0
def yK {α:Type}(f:α->Int):List α->Int
 | []=>0
 |a::r=>if f a=0 then yK f r else f a
theorem v8 {α:Type}{f:α->Int}:∀ {l:List α},(∀ x∈l,f x=0)->yK f l=0
 | [],_=>rfl
 |a::r,h=>by rw [yK,if_pos (h a (List.mem_cons_self ..)),v8 λx hx=>h x (List.mem_cons_of_mem _ hx)]
theorem fS {α:Type}{f:α->Int}:∀ {l:List α} {i:Nat} (hi:i<l.length),(∀ x∈l.take i,f x=0)->f l[i]≠0->yK f l=f l[i]
 |a::r,0,_,_,h=>by
  have h':f a≠0:=h
  rw [yK,if_neg h'];rfl
 |a::r,i+1,hi,h0,h=>by
  rw [yK,if_pos (h0 a (by simp))]
  exact fS (l:=r) (i:=i) (by simpa using hi) (λx hx=>h0 x (by rw [List.take_succ_cons];exact List.mem_cons_of_mem _ hx)) h
theorem firstE_map {α β:Type}(f:β->Int)(g:α->β):∀ l:List α,yK f (l.map g)=yK (λx=>f (g x)) l
 | []=>rfl
 |a::r=>by rw [List.map_cons,yK,yK,firstE_map f g r]
def kP {α:Type}(f:α->Int):Nat->List α->Int×Int
 |_,[]=>(0,0)
 |k,a::r=>if f a=0 then kP f (k+1) r else (f a,(k:Int))
theorem kU {α:Type}{f:α->Int}:∀ {l:List α} {k:Nat},(∀ x∈l,f x=0)->kP f k l=(0,0)
 | [],_,_=>rfl
 |a::r,k,h=>by rw [kP,if_pos (h a (List.mem_cons_self ..)),kU λx hx=>h x (List.mem_cons_of_mem _ hx)]
theorem wH {α:Type}{f:α->Int}:∀ {l:List α} {i:Nat} (k:Nat) (hi:i<l.length),(∀ x∈l.take i,f x=0)->f l[i]≠0->kP f k l=(f l[i],((k+i:Nat):Int))
 |a::r,0,k,_,_,h=>by
  have h':f a≠0:=h
  rw [kP,if_neg h'];rfl
 |a::r,i+1,k,hi,h0,h=>by
  rw [kP,if_pos (h0 a (by simp)),wH (l:=r) (i:=i) (k+1) (by simpa using hi) (λx hx=>h0 x (by rw [List.take_succ_cons];exact List.mem_cons_of_mem _ hx)) h,show k+1+i=k+(i+1) by omega];rfl
theorem mL {α β:Type}(f:β->Int)(g:α->β):∀ (l:List α) (k:Nat),kP f k (l.map g)=kP (λx=>f (g x)) k l
 | [],_=>rfl
 |a::r,k=>by rw [List.map_cons,kP,kP,mL f g r]
def xR (own:YL)(n:Nt):Int:=
 if n.any=[] then 9 else if 3<n.any.length then 3 else if yK (λx=>kC own x (decide (n.any.length=1))) n.any≠0 then yK (λx=>kC own x (decide (n.any.length=1))) n.any
 else if yT n.wh=false then 7 else if n.opt≠[]/\wdL n.opt=false then 14 else 0
def qM (own:YL)(b:Bt):Int:=
 if nmL b.name=false then 4 else if b.name=own then 8 else if yH b.rng=false then 6 else if yT b.wh=false then 7 else 0
def optR (l:List Nt)(s:YL):Bool:=l.any λn=>decide (n.opt=s)
def pulN (s:YL)(n:Nt):Bool:=match n.any with
 | [x]=>decide (x.name=s)
 |_=>false
def pulR (l:List Nt)(s:YL):Bool:=l.any (pulN s)
def yY (l:List Nt)(s:YL):Int:=
 if (zJ s).1=2/\optR l (wordOf s)=false then 14 else if (zJ s).1=3/\pulR l (wordOf s)=false then 16 else 0
def kF (r:Rt):Int×Int:=
 if (kP (xR r.name) 0 r.needs).1≠0 then kP (xR r.name) 0 r.needs
 else if (kP (qM r.name) 0 r.bars).1≠0 then kP (qM r.name) 0 r.bars
 else if vM r.fts=false then (11,0)
 else kP (λf:Ft=>yK (yY r.needs) f.of) 0 r.fts
def zM (r:Rt):Int×Int:=
 if nmL r.name=false then (4,0) else if r.ver.may=false then (5,0) else if 8<r.needs.length\/8<r.bars.length then (3,0)
 else if (kF r).1≠0 then kF r else if 4096<(yV r).length then (3,0) else (0,0)
end
section
theorem firstE_zero {α:Type}{f:α->Int}:∀ {l:List α},yK f l=0→∀ x∈l,f x=0
 | [],_,x,h=>by cases h
 |a::r,h,x,hx=>by
  by_cases h0:f a=0
  ·rw [yK,if_pos h0] at h
   rcases List.mem_cons.1 hx with rfl|hx
   ·exact h0
   ·exact firstE_zero h x hx
  ·rw [yK,if_neg h0] at h;exact absurd h h0
theorem dM {α:Type}{f:α->Int}:∀ {l:List α} {k:Nat},(kP f k l).1=0→∀ x∈l,f x=0
 | [],_,_,x,h=>by cases h
 |a::r,k,h,x,hx=>by
  by_cases h0:f a=0
  ·rw [kP,if_pos h0] at h
   rcases List.mem_cons.1 hx with rfl|hx
   ·exact h0
   ·exact dM h x hx
  ·rw [kP,if_neg h0] at h;exact absurd h h0
theorem dL {α:Type}(f:α->YL)(k:Nat):∀ {l:List α},(∀ x∈l,(f x).length<=k)->(l.flatMap f).length<=l.length*k
 | [],_=>by simp
 |a::r,h=>by
  have h1:=h a (List.mem_cons_self ..)
  have h2:=dL f k (l:=r) λx hx=>h x (List.mem_cons_of_mem _ hx)
  rw [List.flatMap_cons,List.length_append,List.length_cons,Nat.add_mul];omega
theorem jn_most (b:UInt8)(k:Nat):∀ {l:List YL},(∀ x∈l,x.length<=k)->(zD b l).length<=l.length*(k+1)
 | [],_=>by simp [zD]
 | [a],h=>by
  have h1:=h a (List.mem_cons_self ..)
  rw [zD];simp only [List.length_cons,List.length_nil];omega
 |a::c::r,h=>by
  have h1:=h a (List.mem_cons_self ..)
  have h2:=jn_most b k (l:=c::r) λx hx=>h x (List.mem_cons_of_mem _ hx)
  rw [zD,List.length_append,List.length_cons,List.length_cons,Nat.add_mul];omega
theorem kR {s:YL}(h:nmL s=true):s.length<=16:=by
 unfold nmL bB at h
 simp only [Bool.and_eq_true,decide_eq_true_eq] at h
 have:=h.1
 rwa [jJ] at this
theorem nE {s:YL}(h:wdL s=true):s.length<=12:=by unfold wdL at h;simp only [Bool.and_eq_true,decide_eq_true_eq] at h;omega
theorem whenT_short {s:YL}(h:yT s=true):(gP s).length<=102:=by
 have:=pm_short h
 unfold gP
 split
 ·simp
 ·simp only [List.length_append,m4,List.length_cons,List.length_nil];omega
theorem fC {own:YL}{x:Wt}{al:Bool}(h:kC own x al=0):nmL x.name=true/\yH x.rng=true/\vF x.fs al=true:=by
 unfold kC at h
 cases h1:nmL x.name
 ·rw [if_pos h1] at h;simp at h
 ·rw [if_neg (by simp [h1])] at h
  split at h
  ·simp at h
  ·cases h2:yH x.rng
   ·rw [if_pos h2] at h;simp at h
   ·rw [if_neg (by simp [h2])] at h
    cases h3:vF x.fs al
    ·rw [if_pos h3] at h;simp at h
    ·exact ⟨rfl,rfl,rfl⟩
theorem wishT_short {own:YL}{x:Wt}{al:Bool}(h:kC own x al=0):(xP x).length<=250:=by
 obtain ⟨h1,h2,h3⟩:=fC h
 have k1:=kR h1
 have k2:=nN h2
 have k3:(gV x.fs).length<=79:=by
  unfold vF at h3
  simp only [Bool.and_eq_true,decide_eq_true_eq,List.all_eq_true] at h3
  unfold gV
  split
  ·simp
  ·have:=jn_most 44 12 (l:=x.fs) λs hs=>nE (h3.1.1.1 s hs)
   have:=h3.1.1.2;omega
 have k4:(gH x.bare).length=4:=by unfold gH;cases x.bare<;>rfl
 unfold xP
 simp only [List.length_append,txAny,List.length_cons,List.length_nil];omega
theorem bM {own:YL}{n:Nt}(h:xR own n=0):n.any≠[]/\n.any.length<=3/\(∀ x∈n.any,kC own x (decide (n.any.length=1))=0)/\yT n.wh=true/\(n.opt=[]\/wdL n.opt=true):=by
 unfold xR at h
 by_cases h1:n.any=[]
 ·rw [if_pos h1] at h;simp at h
 ·rw [if_neg h1] at h
  by_cases h2:3<n.any.length
  ·rw [if_pos h2] at h;simp at h
  ·rw [if_neg h2] at h
   by_cases h3:yK (λx=>kC own x (decide (n.any.length=1))) n.any=0
   ·rw [if_neg (by simp [h3])] at h
    cases h4:yT n.wh
    ·rw [if_pos h4] at h;simp at h
    ·rw [if_neg (by simp [h4])] at h
     refine ⟨h1,by omega,firstE_zero h3,rfl, ?_⟩
     by_cases h5:n.opt=[]
     ·exact .inl h5
     ·cases h6:wdL n.opt
      ·rw [if_pos ⟨h5,h6⟩] at h;simp at h
      ·exact .inr rfl
   ·rw [if_pos h3] at h;exact absurd h h3
theorem needT_short {own:YL}{n:Nt}(h:xR own n=0):(xE n).length<=900:=by
 obtain ⟨_,h2,h3,h4,h5⟩:=bM h
 have k1:=dL xP 250 (l:=n.any) λx hx=>wishT_short (h3 x hx)
 have k2:=whenT_short h4
 have k3:(fL n.opt).length<=20:=by
  unfold fL
  split
  ·simp
  ·rcases h5 with e|e
   ·contradiction
   ·have:=nE e
    simp only [List.length_append,txOpt,List.length_cons,List.length_nil];omega
 unfold xE
 simp only [List.length_append,txNeed,List.length_cons,List.length_nil];omega
theorem bar_fine {own:YL}{b:Bt}(h:qM own b=0):nmL b.name=true/\yH b.rng=true/\yT b.wh=true:=by
 unfold qM at h
 cases h1:nmL b.name
 ·rw [if_pos h1] at h;simp at h
 ·rw [if_neg (by simp [h1])] at h
  split at h
  ·simp at h
  ·cases h2:yH b.rng
   ·rw [if_pos h2] at h;simp at h
   ·rw [if_neg (by simp [h2])] at h
    cases h3:yT b.wh
    ·rw [if_pos h3] at h;simp at h
    ·exact ⟨rfl,rfl,rfl⟩
theorem barT_short {own:YL}{b:Bt}(h:qM own b=0):(vB b).length<=300:=by
 obtain ⟨h1,h2,h3⟩:=bar_fine h
 have k1:=kR h1
 have k2:=nN h2
 have k3:=whenT_short h3
 unfold vB
 simp only [List.length_append,txBar,List.length_cons,List.length_nil];omega
theorem bU {r:Rt}(h:(kF r).1=0):(∀ n∈r.needs,xR r.name n=0)/\(∀ b∈r.bars,qM r.name b=0)/\vM r.fts=true∧∀ f∈r.fts,yK (yY r.needs) f.of=0:=by
 unfold kF at h
 by_cases h1:(kP (xR r.name) 0 r.needs).1=0
 ·rw [if_neg (by simp [h1])] at h
  by_cases h2:(kP (qM r.name) 0 r.bars).1=0
  ·rw [if_neg (by simp [h2])] at h
   cases h3:vM r.fts
   ·rw [if_pos h3] at h;simp at h
   ·rw [if_neg (by simp [h3])] at h
    exact ⟨dM h1,dM h2,rfl,dM h⟩
  ·rw [if_pos h2] at h;exact absurd h h2
 ·rw [if_pos h1] at h;exact absurd h h1
theorem rec_small {r:Rt}(hn:r.name.length<=1048576)(hv:r.ver.print.length<=3145728)(h8:r.needs.length<=8)(hb8:r.bars.length<=8)(hp:(kF r).1=0)(hf:∀ f∈r.fts,∀ s∈f.of,s.length<=1048576):(yV r).length<=100000000:=by
 obtain ⟨h1,h2,h3,_⟩:=bU hp
 unfold vM at h3
 simp only [Bool.and_eq_true,decide_eq_true_eq,List.all_eq_true] at h3
 have k1:=dL xE 900 (l:=r.needs) λn hx=>needT_short (h1 n hx)
 have k2:=dL vB 300 (l:=r.bars) λn hx=>barT_short (h2 n hx)
 have k3:=dL kL 9000000 (l:=r.fts) λf hx=>by
  have e1:=h3.2 f hx
  unfold xF at e1
  simp only [Bool.and_eq_true,decide_eq_true_eq] at e1
  have e2:=jn_most 32 1048576 (l:=y9::f.name::f.of) λs hs=>by
   rcases List.mem_cons.1 hs with rfl|hs
   ·decide
   ·rcases List.mem_cons.1 hs with rfl|hs
    ·have:=nE (h3.1.1.2 f hx);omega
    ·exact hf f hx s hs
  unfold kL
  simp only [List.length_append,List.length_cons,List.length_nil] at e2 ⊢
  have:=e1.1.1;omega
 have k4:=h3.1.1.1
 unfold yV gX
 simp only [List.length_append,txPack,List.length_cons,List.length_nil];omega
theorem gN {r:Rt}(h:(zM r).1=0):nmL r.name=true/\r.ver.may=true/\r.needs.length<=8/\r.bars.length<=8/\(kF r).1=0/\(yV r).length<=4096:=by
 unfold zM at h
 cases h1:nmL r.name
 ·rw [if_pos h1] at h;simp at h
 ·rw [if_neg (by simp [h1])] at h
  cases h2:r.ver.may
  ·rw [if_pos h2] at h;simp at h
  ·rw [if_neg (by simp [h2])] at h
   by_cases h3:8<r.needs.length\/8<r.bars.length
   ·rw [if_pos h3] at h;simp at h
   ·rw [if_neg h3] at h
    by_cases h4:(kF r).1=0
    ·rw [if_neg (by simp [h4])] at h
     by_cases h5:4096<(yV r).length
     ·rw [if_pos h5] at h;simp at h
     ·exact ⟨rfl,rfl,by omega,by omega,h4,by omega⟩
    ·rw [if_pos h4] at h;exact absurd h h4
def nM (r:Rt):YL:=if (zM r).1=0 then yV r else []
end
section
def dK:UInt64:=0xFF51AFD7ED558CCD
def dI:UInt64:=0x9E3779B97F4A7C15
def rot13 (x:UInt64):UInt64:=x<<<13|||x>>>51
def dStep (h:UInt64)(b:UInt8):UInt64:=rot13 (h^^^b.toUInt64)*dK
def dMix (l:YL):UInt64:=l.foldl dStep dI
def dEnd (h:UInt64):UInt64:=h^^^h>>>29
def dSum (l:YL):UInt64:=dEnd (dMix l)
def dBytes (n:UInt64):YL:=([56,48,40,32,24,16,8,0]:List UInt64).map λk=>(n>>>k).toUInt8
def dPair (a b:UInt64):UInt64:=dSum (dBytes a++dBytes b)
def dRoot (l:List UInt64):UInt64:=l.foldl dPair (dSum [])
end
section
def sumR (r:Rt):Int:=if (zM r).1=0 then ((dSum (yV r)).toNat:Int) else 0
structure Et where
 rc:Rt
 sum:Int
 yk:Bool
deriving DecidableEq
structure Sh where
 name:YL
 es:List Et
deriving DecidableEq
def t6:Sh:=⟨[],[]⟩
def oneV (a v:Ver):Bool:=a.may && v.may && decide (dA a v=0)
def hitE (n:YL)(v:Ver)(e:Et):Bool:=decide (e.rc.name=n) && oneV e.rc.ver v
def placeE (l:List Et)(n:YL)(v:Ver):Int:=match l.findIdx? (hitE n v) with
 |some i=>(i:Int)
 |none=> -1
def okE (e:Et):Prop:=(zM e.rc).1=0/\sumR e.rc=e.sum
def sumU (e:Et):UInt64:=UInt64.ofNat e.sum.toNat
structure MayS (s:Sh):Prop where
 name:nmL s.name=true
 few:s.es.length<=64
 ok:∀ e∈s.es,okE e
 apart:s.es.Pairwise λa b=>hitE b.rc.name b.rc.ver a=false
instance:DecidablePred okE:=λe=>by unfold okE;infer_instance
instance:DecidablePred MayS:=λs=>decidable_of_iff (nmL s.name=true/\s.es.length<=64/\(∀ e∈s.es,okE e)/\s.es.Pairwise λa b=>hitE b.rc.name b.rc.ver a=false) ⟨λ⟨a,b,c,d⟩=>⟨a,b,c,d⟩,λh=>⟨h.name,h.few,h.ok,h.apart⟩⟩
def markY:List Et->Nat->Bool->List Et
 | [],_,_=>[]
 |e::r,0,on=>{e with yk:=on}::r
 |e::r,i+1,on=>e::markY r i on
def coreE (e:Et):Rt×Int:=(e.rc,e.sum)
def putS (s:Sh)(r:Rt):Sh×Int:=
 if MayS s then if (zM r).1=0 then if placeE s.es r.name r.ver= -1 then if s.es.length=64 then (t6,10) else (⟨s.name,s.es++[⟨r,sumR r,false⟩]⟩,0) else (t6,8) else (t6,(zM r).1) else (t6,1)
def yankS (s:Sh)(n:YL)(v:Ver)(on:Bool):Sh×Int:=
 if MayS s then if placeE s.es n v= -1 then (t6,9) else (⟨s.name,markY s.es (placeE s.es n v).toNat on⟩,0) else (t6,1)
def findS (s:Sh)(n:YL)(v:Ver):Int:=if MayS s then placeE s.es n v else-1
def GrownS (a b:Sh):Prop:=MayS a/\MayS b/\a.name=b.name/\a.es.length<=b.es.length/\a.es.map Et.rc=(b.es.take a.es.length).map Et.rc
instance (a b:Sh):Decidable (GrownS a b):=by unfold GrownS;infer_instance
end
section
structure Rs where
 rc:Rt
 st:Int
def jI:Rt:=⟨[],Ver.zero,[],[],[]⟩
def vG:YL:=[112,97,99,107,97,103,101]
def qH:YL:=[110,101,101,100]
def jO:YL:=[97,110,121]
def kD:YL:=[119,104,101,110]
def wW:YL:=[111,112,116,105,111,110]
def j7:YL:=[98,97,114]
def noE (l:List YL):Bool:=l.all λs=>decide (s≠[])
def qW (s:YL)(k:Nat):Option (List YL×YL):=
 if (zB 32 [] s).length<=k then none else if noE ((zB 32 [] s).take k)=false then none else if zD 32 ((zB 32 [] s).drop k)=[] then none else some ((zB 32 [] s).take k,zD 32 ((zB 32 [] s).drop k))
def yM {α:Type}(f:α->α):List α->List α
 | []=>[]
 | [a]=>[f a]
 |a::b::r=>a::yM f (b::r)
theorem qB {α:Type}(f:α->α):∀ (l:List α) (a:α),yM f (l++[a])=l++[f a]
 | [],a=>rfl
 | [b],a=>rfl
 |b::c::r,a=>by
  rw [List.cons_append,List.cons_append,yM,←List.cons_append,qB f (c::r) a];rfl
def headS (l:List YL):Option Rs:=
 if l.length=3/\l.getD 0 []=vG/\l.getD 1 []≠[]/\pU (l.getD 2 [])=0 then some ⟨⟨l.getD 1 [],bG (l.getD 2 []),[],[],[]⟩,1⟩ else none
def anyW (w:List YL)(t:YL):Wt:=⟨w.getD 1 [],t,if w.getD 2 []=[45] then [] else zB 44 [] (w.getD 2 []),decide (w.getD 3 []=g0)⟩
def anyS (x:Rs)(s:YL):Option Rs:=match qW s 4 with
 |none=>none
 |some (w,t)=>if x.st=2/\(w.getD 3 []=g0\/w.getD 3 []=jC) then some ⟨{x.rc with needs:=yM (λn=>{n with any:=n.any++[anyW w t]}) x.rc.needs},2⟩ else none
def whenS (x:Rs)(s:YL):Option Rs:=match qW s 1 with
 |none=>none
 |some (_,t)=>if x.st=2 then some ⟨{x.rc with needs:=yM (λn=>{n with wh:=t}) x.rc.needs},3⟩ else if x.st=5 then some ⟨{x.rc with bars:=yM (λb=>{b with wh:=t}) x.rc.bars},6⟩ else none
def optS (x:Rs)(l:List YL):Option Rs:=
 if l.length=2/\noE l=true/\(x.st=2\/x.st=3) then some ⟨{x.rc with needs:=yM (λn=>{n with opt:=l.getD 1 []}) x.rc.needs},4⟩ else none
def barS (x:Rs)(s:YL):Option Rs:=match qW s 2 with
 |none=>none
 |some (w,t)=>if x.st<=6 then some ⟨{x.rc with bars:=x.rc.bars++[⟨w.getD 1 [],t,[]⟩]},5⟩ else none
def featS (x:Rs)(l:List YL):Option Rs:=
 if 2<=l.length/\noE l=true then some ⟨{x.rc with fts:=x.rc.fts++[⟨l.getD 1 [],l.drop 2⟩]},7⟩ else none
def needS (x:Rs)(l:List YL):Option Rs:=if l.length=1/\x.st<5 then some ⟨{x.rc with needs:=x.rc.needs++[⟨[],[],[]⟩]},2⟩ else none
def gR (x:Rs)(s:YL):Option Rs:=
 if x.st=0 then headS (zB 32 [] s)
 else if (zB 32 [] s).getD 0 []=qH then needS x (zB 32 [] s)
 else if (zB 32 [] s).getD 0 []=jO then anyS x s
 else if (zB 32 [] s).getD 0 []=kD then whenS x s
 else if (zB 32 [] s).getD 0 []=wW then optS x (zB 32 [] s)
 else if (zB 32 [] s).getD 0 []=j7 then barS x s
 else if (zB 32 [] s).getD 0 []=y9 then featS x (zB 32 [] s)
 else none
def jQ:Rs->List YL->Option Rs
 |x,[]=>some x
 |x,s::r=>match gR x s with
  |some y=>jQ y r
  |none=>none
def badS:Rs->Nat->List YL->Int
 |_,_,[]=>0
 |x,k,s::r=>match gR x s with
  |some y=>badS y (k+1) r
  |none=>((k+1:Nat):Int)
def linesOf (s:YL):List YL×Bool:=if (zB 10 [] s).getLast?=some [] then ((zB 10 [] s).dropLast,true) else (zB 10 [] s,false)
def doneS (x:Rs):Rt×Int×Int:=if x.st=0 then (jI,2,1) else if (zM x.rc).1≠0 then (jI,(zM x.rc).1,0) else (x.rc,0,0)
def gG (s:YL):Rt×Int×Int:=
 if 4096<s.length then (jI,3,0)
 else match jQ ⟨jI,0⟩ (zB 10 [] s).dropLast with
  |none=>(jI,2,badS ⟨jI,0⟩ 0 (zB 10 [] s).dropLast)
  |some x=>if (zB 10 [] s).getLast?=some [] then doneS x else (jI,2,((zB 10 [] s).length:Int))
theorem nJ:∀ (a b:List YL) (x:Rs),jQ x (a++b)=(jQ x a).bind λy=>jQ y b
 | [],b,x=>rfl
 |s::a,b,x=>by
  rw [List.cons_append,jQ,jQ]
  cases gR x s with
  |none=>rfl
  |some y=>exact nJ a b y
def headL (r:Rt):YL:=zD 32 [vG,r.name,r.ver.print]
def wishL (x:Wt):YL:=zD 32 [jO,x.name,gV x.fs,gH x.bare,x.rng]
def nD (s:YL):List YL:=if s=[] then [] else [zD 32 [kD,s]]
def optnL (s:YL):List YL:=if s=[] then [] else [zD 32 [wW,s]]
def nP (n:Nt):List YL:=qH::(n.any.map wishL++nD n.wh++optnL n.opt)
def barLs (b:Bt):List YL:=zD 32 [j7,b.name,b.rng]::nD b.wh
def featL (f:Ft):YL:=zD 32 (y9::f.name::f.of)
def jV (r:Rt):List YL:=headL r::(r.needs.flatMap nP++r.bars.flatMap barLs++r.fts.map featL)
def unL (l:List YL):YL:=l.flatMap λs=>s++[10]
theorem hZ (a b:List YL):unL (a++b)=unL a++unL b:=List.flatMap_append ..
theorem bR (a:YL)(b:List YL):unL (a::b)=(a++[10])++unL b:=List.flatMap_cons ..
theorem unL_fm {α:Type}(f:α->List YL):∀ l:List α,unL (l.flatMap f)=l.flatMap λx=>unL (f x)
 | []=>rfl
 |a::r=>by rw [List.flatMap_cons,List.flatMap_cons,hZ,unL_fm f r]
theorem unL_map {α:Type}(f:α->YL):∀ l:List α,unL (l.map f)=l.flatMap λx=>f x++[10]
 | []=>rfl
 |a::r=>by rw [List.map_cons,bR,List.flatMap_cons,unL_map f r]
theorem whenL_text (s:YL):unL (nD s)=gP s:=by
 unfold nD gP
 split
 ·rfl
 ·show (zD 32 [kD,s]++[10])++[]=_
  simp only [zD,List.append_nil];rfl
theorem optnL_text (s:YL):unL (optnL s)=fL s:=by
 unfold optnL fL
 split
 ·rfl
 ·show (zD 32 [wW,s]++[10])++[]=_
  simp only [zD,List.append_nil];rfl
theorem wishL_text (x:Wt):wishL x++[10]=xP x:=by
 unfold wishL xP
 simp only [zD,jO,txAny,List.append_assoc,List.cons_append,List.nil_append]
theorem needLs_text (n:Nt):unL (nP n)=xE n:=by
 unfold nP xE
 rw [bR,hZ,hZ,unL_map,whenL_text,optnL_text,show (λx=>wishL x++[10])=xP from funext wishL_text]
 simp only [List.append_assoc];rfl
theorem barLs_text (b:Bt):unL (barLs b)=vB b:=by
 unfold barLs vB
 rw [bR,whenL_text]
 simp only [zD,j7,txBar,List.append_assoc,List.cons_append,List.nil_append]
theorem mB (r:Rt):unL (jV r)=yV r:=by
 unfold jV yV
 rw [bR,hZ,hZ,unL_fm,unL_fm,unL_map,show (λx=>unL (nP x))=xE from funext needLs_text,show (λx=>unL (barLs x))=vB from funext barLs_text]
 unfold gX headL
 simp only [zD,vG,txPack,List.append_assoc,List.cons_append,List.nil_append];rfl
theorem split_unL:∀ (l:List YL) (p:YL),(∀ x∈l,(10:UInt8)∉x)->(10:UInt8)∉p->zB 10 [] (unL l++p)=l++[p]
 | [],p,_,hp=>by
  have:=vW 10 p [] [] hp
  rw [List.append_nil] at this
  show zB 10 [] p=[p]
  rw [this];rfl
 |x::l,p,h,hp=>by
  rw [bR,List.append_assoc,List.append_assoc,vW 10 x [] _ (h x (List.mem_cons_self ..))]
  show zB 10 ([]++x) (10::(unL l++p))=_
  rw [zB,if_pos rfl,split_unL l p (λy hy=>h y (List.mem_cons_of_mem _ hy)) hp];rfl
end
section
theorem joinB_no (b:UInt8){sep:YL}(hs:b∉sep):∀ (l:List YL),(∀ x∈l,b∉x)->b∉qY sep l
 | [],_=>by simp [qY]
 | [x],h=>h x (List.mem_singleton.2 rfl)
 |x::y::r,h=>by
  rw [pK]
  simp only [List.mem_append,not_or]
  exact ⟨⟨h x (List.mem_cons_self ..),hs⟩,joinB_no b hs (y::r) λz hz=>h z (List.mem_cons_of_mem _ hz)⟩
theorem d6 (b c:UInt8)(hb:b≠c){l:List YL}(h:∀ x∈l,b∉x):b∉zD c l:=by
 rw [joinL_B];exact joinB_no b (by simpa using hb) l h
theorem tok10:∀ t:Tr,t.ok=true→∀ x∈t.tok,(10:UInt8)∉x:=by
 have key10:∀ k,(10:UInt8)∉dD k:=λk=>by
  unfold dD
  split
  ·decide
  ·split<;>decide
 have one10:∀ k (v:YL),wdL v=true→∀ y:Tok,(10:UInt8)∉y→∀ x∈[dD k,y,v],(10:UInt8)∉x:=λk v h y hy x hx=>by
  simp only [List.mem_cons,List.not_mem_nil,or_false] at hx
  rcases hx with rfl|rfl|rfl
  ·exact key10 k
  ·exact hy
  ·exact jB (by decide) h
 intro t
 induction t with
 |is k v=>
  intro h x hx
  unfold Tr.ok at h
  simp only [Bool.and_eq_true,decide_eq_true_eq] at h
  rw [Tr.tok] at hx
  exact one10 k v h.2 tEq (by decide) x hx
 |no y ih=>
  intro h x hx
  have hy:y.ok=true:=h
  cases y with
  |is k v=>
   unfold Tr.ok at hy
   simp only [Bool.and_eq_true,decide_eq_true_eq] at hy
   rw [Tr.tok] at hx
   exact one10 k v hy.2 tNe (by decide) x hx
  |no z=>
   rw [Tr.tok] at hx
   rcases List.mem_cons.1 hx with rfl|hx
   ·decide
   ·exact ih hy x hx
  |both z u=>
   rw [Tr.tok] at hx
   rcases List.mem_cons.1 hx with rfl|hx
   ·decide
   ·rcases nQ hx with rfl|rfl|hx
    ·decide
    ·decide
    ·exact ih hy x hx
  |one z u=>
   rw [Tr.tok] at hx
   rcases List.mem_cons.1 hx with rfl|hx
   ·decide
   ·rcases nQ hx with rfl|rfl|hx
    ·decide
    ·decide
    ·exact ih hy x hx
 |both y z ihy ihz=>
  intro h x hx
  unfold Tr.ok at h
  rw [Bool.and_eq_true] at h
  rw [Tr.tok] at hx
  rcases List.mem_append.1 hx with hx|hx
  ·rcases nQ hx with rfl|rfl|hx
   ·decide
   ·decide
   ·exact ihy h.1 x hx
  ·rcases List.mem_cons.1 hx with rfl|hx
   ·decide
   ·rcases nQ hx with rfl|rfl|hx
    ·decide
    ·decide
    ·exact ihz h.2 x hx
 |one y z ihy ihz=>
  intro h x hx
  unfold Tr.ok at h
  rw [Bool.and_eq_true] at h
  rw [Tr.tok] at hx
  rcases List.mem_append.1 hx with hx|hx
  ·exact ihy h.1 x hx
  ·rcases List.mem_cons.1 hx with rfl|hx
   ·decide
   ·rcases nQ hx with rfl|rfl|hx
    ·decide
    ·decide
    ·exact ihz h.2 x hx
theorem pI {b:UInt8}(h1:g7 b.toNat=false)(h2:yP b.toNat=false)(h3:(b.toNat:Int)≠45):∀ (l:YL) (f:Bool) (z:Int),xM f z l=true->b∉l
 | [],_,_,_=>by simp
 |c::r,f,z,h=>by
  have hc:c≠b:=λe=>by
   subst e
   unfold xM at h
   rw [h1,h2] at h
   simp [h3] at h
  intro hm
  rcases List.mem_cons.1 hm with e|hm
  ·exact hc e.symm
  ·unfold xM at h
   split at h
   ·exact pI h1 h2 h3 r _ _ h hm
   ·split at h
    ·split at h
     ·cases h
     ·exact pI h1 h2 h3 r _ _ h hm
    ·split at h
     ·split at h
      ·cases h
      ·exact pI h1 h2 h3 r _ _ h hm
     ·cases h
theorem dH {s:YL}(h:nmL s=true){b:UInt8}(h1:g7 b.toNat=false)(h2:yP b.toNat=false)(h3:(b.toNat:Int)≠45):b∉s:=by
 unfold nmL bB at h
 rw [Bool.and_eq_true] at h
 have:=pI h1 h2 h3 _ _ _ h.2
 simpa [mkS] using this
theorem nm_ne {s:YL}(h:nmL s=true):s≠[]:=λe=>by subst e;exact absurd h (by decide)
theorem wd_ne {s:YL}(h:wdL s=true):s≠[]:=λe=>by subst e;exact absurd h (by decide)
theorem item_free {s:YL}(h:(zJ s).1≠0):(10:UInt8)∉s/\(32:UInt8)∉s/\s≠[]:=by
 unfold zJ at h
 cases h1:wdL s
 ·rw [if_neg (by simp [h1])] at h
  by_cases h2:(decide (s.head?=some 63) && wdL (s.drop 1))=true
  ·simp only [Bool.and_eq_true,decide_eq_true_eq] at h2
   obtain ⟨h2,h3⟩:=h2
   cases s with
   |nil=>cases h2
   |cons c r=>
    have hc:c=63:=by simpa using h2
    have hr:wdL r=true:=h3
    subst hc
    refine ⟨?_, ?_,by simp⟩
    ·intro hm
     rcases List.mem_cons.1 hm with e|hm
     ·exact absurd e (by decide)
     ·exact jB (by decide) hr hm
    ·intro hm
     rcases List.mem_cons.1 hm with e|hm
     ·exact absurd e (by decide)
     ·exact jB (by decide) hr hm
  ·rw [if_neg h2] at h
   split at h
   case h_1 a b e=>
    have hj:=mH 47 s []
    rw [e] at hj
    have hs:s=a++47::b:=by simpa [zD] using hj.symm
    cases h3:nmL a && wdL b
    ·rw [h3] at h;simp at h
    ·rw [Bool.and_eq_true] at h3
     have n1:=dH h3.1 (b:=10) (by decide) (by decide) (by decide)
     have n2:=dH h3.1 (b:=32) (by decide) (by decide) (by decide)
     have m1:=jB (b:=10) (by decide) h3.2
     have m2:=jB (b:=32) (by decide) h3.2
     rw [hs]
     simp only [List.mem_append,List.mem_cons,not_or]
     exact ⟨⟨n1,by decide,m1⟩,⟨n2,by decide,m2⟩,by simp⟩
   case h_2=>simp at h
 ·exact ⟨jB (by decide) h1,jB (by decide) h1,wd_ne h1⟩
theorem lst_no {s:YL}(h:qX s=true){b:UInt8}(h1:wL b=false)(h2:b≠46):b∉s:=by
 intro hm
 unfold qX at h
 rcases splitL_mem 46 s [] b hm with e|⟨x,hx,hc⟩
 ·exact h2 e
 ·have hne:s.isEmpty=false:=by cases s with
   |nil=>cases hm
   |cons _ _=>rfl
  rw [hne,Bool.false_or,Bool.and_eq_true] at h
  have:=List.all_eq_true.1 h.2 x hx
  unfold kW at this
  rw [Bool.and_eq_true] at this
  have:=List.all_eq_true.1 this.2 _ hc
  rw [h1] at this;cases this
theorem tail_no {c b:UInt8}(hb:b≠c){s:YL}(h:b∉s):b∉x8 c s:=by
 unfold x8
 split
 ·simp
 ·intro hm
  rcases List.mem_cons.1 hm with e|hm
  ·exact hb e
  ·exact h hm
theorem ver_no {v:Ver}(h:v.may=true){b:UInt8}(h1:wL b=false)(h2:b≠46)(h3:b≠45)(h4:b≠43):b∉v.print:=by
 have hd:yP b.toNat=false:=by
  unfold wL at h1
  rw [Bool.or_eq_false_iff,Bool.or_eq_false_iff] at h1
  exact h1.1.2
 have hm:=h
 unfold Ver.may at hm
 simp only [Bool.and_eq_true] at hm
 have hp:qX v.pre=true:=by
  have:=hm.1.2
  unfold preOk at this
  exact (Bool.and_eq_true_iff.1 this).1
 rw [fJ h]
 unfold Ver.text
 simp only [List.mem_append,not_or]
 exact ⟨⟨tN h b hd h2,tail_no h3 (lst_no hp h1 h2)⟩,tail_no h4 (lst_no hm.2 h1 h2)⟩
theorem ver_back {v:Ver}(h:v.may=true):bG v.print=v/\pU v.print=0:=by
 unfold bG pU
 rw [parseR_print h];exact ⟨rfl,rfl⟩
theorem split_front (b:UInt8)(t:YL):∀ (w:List YL),(∀ x∈w,b∉x)->zB b [] (zD b (w++[t]))=w++zB b [] t
 | [],_=>rfl
 |x::w,h=>by
  have e:zD b (x::(w++[t]))=x++b::zD b (w++[t]):=by
   cases w with
   |nil=>rfl
   |cons y w=>rfl
  rw [List.cons_append,e,vW b x [] _ (h x (List.mem_cons_self ..)),zB,if_pos rfl,split_front b t w λy hy=>h y (List.mem_cons_of_mem _ hy)];rfl
theorem rest_back {w:List YL}{t:YL}(hw:∀ x∈w,(32:UInt8)∉x)(hn:∀ x∈w,x≠[])(ht:t≠[]){k:Nat}(hk:w.length=k):qW (zD 32 (w++[t])) k=some (w,t):=by
 subst hk
 unfold qW
 have hj:zD 32 (zB 32 [] t)=t:=by rw [mH];rfl
 have hl:0<(zB 32 [] t).length:=List.length_pos_iff.2 (vE 32 t [])
 rw [split_front 32 t w hw,List.take_left,List.drop_left,hj,if_neg (by rw [List.length_append];omega),if_neg (by
  unfold noE
  rw [List.all_eq_true.2 λx hx=>decide_eq_true (hn x hx)];simp),if_neg ht]
theorem first_back {w:List YL}{t x:YL}(hx:(32:UInt8)∉x):(zB 32 [] (zD 32 ((x::w)++[t]))).getD 0 []=x:=by
 have e:zD 32 (x::(w++[t]))=x++32::zD 32 (w++[t]):=by
  cases w with
  |nil=>rfl
  |cons y w=>rfl
 rw [List.cons_append,e,vW 32 x [] _ hx,zB,if_pos rfl];rfl
theorem head_line {r:Rt}(h1:nmL r.name=true)(h2:r.ver.may=true):gR ⟨jI,0⟩ (headL r)=some ⟨⟨r.name,r.ver,[],[],[]⟩,1⟩:=by
 have hs:zB 32 [] (headL r)=[vG,r.name,r.ver.print]:=jD 32 _ (by simp) λx hx=>by
  simp only [List.mem_cons,List.not_mem_nil,or_false] at hx
  rcases hx with rfl|rfl|rfl
  ·decide
  ·exact dH h1 (by decide) (by decide) (by decide)
  ·exact ver_no h2 (by decide) (by decide) (by decide) (by decide)
 unfold gR
 rw [if_pos rfl,hs]
 unfold headS
 have hb:=ver_back h2
 rw [if_pos ⟨rfl,rfl,nm_ne h1,hb.2⟩]
 show some (Rs.mk ⟨r.name,bG r.ver.print,[],[],[]⟩ 1)=_
 rw [hb.1]
theorem need_line {x:Rt}{st:Int}(h1:1<=st)(h5:st<5):gR ⟨x,st⟩ qH=some ⟨{x with needs:=x.needs++[⟨[],[],[]⟩]},2⟩:=by
 have hs:zB 32 [] qH=[qH]:=by decide
 unfold gR
 rw [if_neg (show ¬ st=0 by omega),hs]
 show (if qH=qH then _ else _)=_
 rw [if_pos rfl]
 unfold needS
 rw [if_pos ⟨rfl,h5⟩]
theorem wfs_free {l:List YL}(h:∀ x∈l,wdL x=true){b:UInt8}(hb:wdB b.toNat=false)(h44:b≠44)(h45:b≠45):b∉gV l:=by
 unfold gV
 split
 ·intro hm;exact h45 (List.mem_singleton.1 hm)
 ·exact d6 b 44 h44 λx hx=>jB hb (h x hx)
theorem wfs_back {l:List YL}(h:∀ x∈l,wdL x=true):gV l≠[]/\(if gV l=[45] then [] else zB 44 [] (gV l))=l:=by
 cases l with
 |nil=>exact ⟨by decide,rfl⟩
 |cons a r=>
  have e:gV (a::r)=zD 44 (a::r):=if_neg (by simp)
  have hs:zB 44 [] (zD 44 (a::r))=a::r:=jD 44 _ (by simp) λx hx=>jB (by decide) (h x hx)
  have ha:=h a (List.mem_cons_self ..)
  rw [e]
  refine ⟨λq=> ?_, ?_⟩
  ·rw [q] at hs
   have:([[]]:List YL)=a::r:=hs
   injection this with e1 _
   exact wd_ne ha e1.symm
  ·rw [if_neg (λq=> ?_),hs]
   rw [q] at hs
   have:([[45]]:List YL)=a::r:=hs
   injection this with e1 _
   rw [←e1] at ha
   exact absurd ha (by decide)
theorem any_line {x:Rt}{w:Wt}{own:YL}{al:Bool}(h:kC own w al=0):gR ⟨x,2⟩ (wishL w)=some ⟨{x with needs:=yM (λn=>{n with any:=n.any++[w]}) x.needs},2⟩:=by
 obtain ⟨h1,h2,h3⟩:=fC h
 have hf:∀ y∈w.fs,wdL y=true:=by
  unfold vF at h3
  simp only [Bool.and_eq_true] at h3
  exact List.all_eq_true.1 h3.1.1.1
 have hb:=wfs_back hf
 have hk:(32:UInt8)∉gH w.bare/\gH w.bare≠[]/\(gH w.bare=g0\/gH w.bare=jC)/\decide (gH w.bare=g0)=w.bare:=by
  cases w.bare<;>decide
 have hr:qW (wishL w) 4=some ([jO,w.name,gV w.fs,gH w.bare],w.rng):=rest_back (w:=[jO,w.name,gV w.fs,gH w.bare]) (λy hy=>by
   simp only [List.mem_cons,List.not_mem_nil,or_false] at hy
   rcases hy with rfl|rfl|rfl|rfl
   ·decide
   ·exact dH h1 (by decide) (by decide) (by decide)
   ·exact wfs_free hf (by decide) (by decide) (by decide)
   ·exact hk.1) (λy hy=>by
   simp only [List.mem_cons,List.not_mem_nil,or_false] at hy
   rcases hy with rfl|rfl|rfl|rfl
   ·decide
   ·exact nm_ne h1
   ·exact hb.1
   ·exact hk.2.1) (pD h2).2 rfl
 have h0:(zB 32 [] (wishL w)).getD 0 []=jO:=first_back (w:=[w.name,gV w.fs,gH w.bare]) (t:=w.rng) (x:=jO) (by decide)
 unfold gR
 rw [if_neg (show ¬ (2:Int)=0 by decide),h0,if_neg (by decide),if_pos rfl]
 unfold anyS
 rw [hr]
 show (if (2:Int)=2/\(gH w.bare=g0\/gH w.bare=jC) then some _ else none)=_
 rw [if_pos ⟨rfl,hk.2.2.1⟩]
 have e:anyW [jO,w.name,gV w.fs,gH w.bare] w.rng=w:=by
  unfold anyW
  show Wt.mk w.name w.rng (if gV w.fs=[45] then [] else zB 44 [] (gV w.fs)) (decide (gH w.bare=g0))=w
  rw [hb.2,hk.2.2.2]
 rw [e]
theorem when_rest {s:YL}(hs:s≠[]):qW (zD 32 [kD,s]) 1=some ([kD],s)/\(zB 32 [] (zD 32 [kD,s])).getD 0 []=kD:=
 ⟨rest_back (w:=[kD]) (λy hy=>by rw [List.mem_singleton.1 hy];decide) (λy hy=>by rw [List.mem_singleton.1 hy];decide) hs rfl,first_back (w:=[]) (by decide)⟩
theorem when_need {x:Rt}{s:YL}(hs:s≠[]):gR ⟨x,2⟩ (zD 32 [kD,s])=some ⟨{x with needs:=yM (λn=>{n with wh:=s}) x.needs},3⟩:=by
 obtain ⟨h1,h0⟩:=when_rest hs
 unfold gR
 rw [if_neg (show ¬ (2:Int)=0 by decide),h0,if_neg (by decide),if_neg (by decide),if_pos rfl]
 unfold whenS
 rw [h1]
 exact if_pos rfl
theorem when_bar {x:Rt}{s:YL}(hs:s≠[]):gR ⟨x,5⟩ (zD 32 [kD,s])=some ⟨{x with bars:=yM (λb=>{b with wh:=s}) x.bars},6⟩:=by
 obtain ⟨h1,h0⟩:=when_rest hs
 unfold gR
 rw [if_neg (show ¬ (5:Int)=0 by decide),h0,if_neg (by decide),if_neg (by decide),if_pos rfl]
 unfold whenS
 rw [h1]
 rfl
theorem opt_line {x:Rt}{st:Int}{s:YL}(hs:wdL s=true)(hst:st=2\/st=3):gR ⟨x,st⟩ (zD 32 [wW,s])=some ⟨{x with needs:=yM (λn=>{n with opt:=s}) x.needs},4⟩:=by
 have h1:zB 32 [] (zD 32 [wW,s])=[wW,s]:=jD 32 _ (by simp) λx hx=>by
  simp only [List.mem_cons,List.not_mem_nil,or_false] at hx
  rcases hx with rfl|rfl
  ·decide
  ·exact jB (by decide) hs
 unfold gR
 rw [if_neg (show ¬ st=0 by omega),h1]
 show (if wW=qH then _ else if wW=jO then _ else if wW=kD then _ else if wW=wW then _ else _)=_
 rw [if_neg (by decide),if_neg (by decide),if_neg (by decide),if_pos rfl]
 unfold optS
 rw [if_pos ⟨rfl,by
  unfold noE
  exact List.all_eq_true.2 λy hy=>decide_eq_true (by
   simp only [List.mem_cons,List.not_mem_nil,or_false] at hy
   rcases hy with rfl|rfl
   ·decide
   ·exact wd_ne hs),hst⟩]
 rfl
theorem bar_line {x:Rt}{st:Int}{b:Bt}{own:YL}(h:qM own b=0)(h1:1<=st)(h6:st<=6):gR ⟨x,st⟩ (zD 32 [j7,b.name,b.rng])=some ⟨{x with bars:=x.bars++[⟨b.name,b.rng,[]⟩]},5⟩:=by
 obtain ⟨k1,k2,k3⟩:=bar_fine h
 have hr:qW (zD 32 [j7,b.name,b.rng]) 2=some ([j7,b.name],b.rng):=rest_back (w:=[j7,b.name]) (λy hy=>by
   simp only [List.mem_cons,List.not_mem_nil,or_false] at hy
   rcases hy with rfl|rfl
   ·decide
   ·exact dH k1 (by decide) (by decide) (by decide)) (λy hy=>by
   simp only [List.mem_cons,List.not_mem_nil,or_false] at hy
   rcases hy with rfl|rfl
   ·decide
   ·exact nm_ne k1) (pD k2).2 rfl
 have h0:(zB 32 [] (zD 32 [j7,b.name,b.rng])).getD 0 []=j7:=first_back (w:=[b.name]) (by decide)
 unfold gR
 rw [if_neg (show ¬ st=0 by omega),h0,if_neg (by decide),if_neg (by decide),if_neg (by decide),if_neg (by decide),if_pos rfl]
 unfold barS
 rw [hr]
 exact if_pos h6
theorem feat_line {x:Rt}{st:Int}{f:Ft}(h1:1<=st)(hn:wdL f.name=true)(hi:∀ s∈f.of,(zJ s).1≠0):gR ⟨x,st⟩ (featL f)=some ⟨{x with fts:=x.fts++[f]},7⟩:=by
 have hs:zB 32 [] (featL f)=y9::f.name::f.of:=jD 32 _ (by simp) λx hx=>by
  rcases List.mem_cons.1 hx with rfl|hx
  ·decide
  ·rcases List.mem_cons.1 hx with rfl|hx
   ·exact jB (by decide) hn
   ·exact (item_free (hi x hx)).2.1
 unfold gR
 rw [if_neg (show ¬ st=0 by omega),hs]
 show (if y9=qH then _ else if y9=jO then _ else if y9=kD then _ else if y9=wW then _ else if y9=j7 then _ else if y9=y9 then _ else _)=_
 rw [if_neg (by decide),if_neg (by decide),if_neg (by decide),if_neg (by decide),if_neg (by decide),if_pos rfl]
 unfold featS
 rw [if_pos ⟨by simp only [List.length_cons];omega,by
  unfold noE
  exact List.all_eq_true.2 λy hy=>decide_eq_true (by
   rcases List.mem_cons.1 hy with rfl|hy
   ·decide
   ·rcases List.mem_cons.1 hy with rfl|hy
    ·exact wd_ne hn
    ·exact (item_free (hi y hy)).2.2)⟩]
 rfl
theorem run_any {own:YL}{al:Bool}(x:Rt)(L:List Nt)(w0 o0:YL):∀ (l done:List Wt),(∀ w∈l,kC own w al=0)->jQ ⟨{x with needs:=L++[⟨done,w0,o0⟩]},2⟩ (l.map wishL)=some ⟨{x with needs:=L++[⟨done++l,w0,o0⟩]},2⟩
 | [],done,_=>by rw [List.append_nil];rfl
 |w::l,done,h=>by
  rw [List.map_cons,jQ,any_line (h w (List.mem_cons_self ..))]
  simp only [qB]
  rw [run_any x L w0 o0 l (done++[w]) λy hy=>h y (List.mem_cons_of_mem _ hy),List.append_assoc];rfl
theorem run_need {x:Rt}{n:Nt}{own:YL}{st:Int}(h1:1<=st)(h5:st<5)(h:xR own n=0):∃ st',1<=st'/\st'<5/\jQ ⟨x,st⟩ (nP n)=some ⟨{x with needs:=x.needs++[n]},st'⟩:=by
 obtain ⟨_,_,k3,k4,k5⟩:=bM h
 unfold nP
 rw [jQ,need_line h1 h5]
 simp only [nJ]
 rw [show (⟨[],[],[]⟩:Nt)=⟨[],[],[]⟩ from rfl,run_any x x.needs [] [] n.any [] k3]
 simp only [Option.bind_some,List.nil_append]
 obtain ⟨st2,hst2,hw⟩:∃ st2,(st2=2\/st2=3)/\jQ ⟨{x with needs:=x.needs++[⟨n.any,[],[]⟩]},2⟩ (nD n.wh)=some ⟨{x with needs:=x.needs++[⟨n.any,n.wh,[]⟩]},st2⟩:=by
  unfold nD
  by_cases hw:n.wh=[]
  ·rw [if_pos hw,hw];exact ⟨2,.inl rfl,rfl⟩
  ·rw [if_neg hw,jQ,when_need hw]
   simp only [qB]
   exact ⟨3,.inr rfl,rfl⟩
 rw [hw]
 simp only [Option.bind_some]
 unfold optnL
 by_cases ho:n.opt=[]
 ·rw [if_pos ho]
  exact ⟨st2,by omega,by omega,by rw [←ho];rfl⟩
 ·rw [if_neg ho,jQ,opt_line (k5.resolve_left ho) hst2]
  simp only [qB]
  exact ⟨4,by decide,by decide,rfl⟩
theorem run_needs {own:YL}:∀ (l:List Nt) (x:Rt) (st:Int),1<=st->st<5->(∀ n∈l,xR own n=0)→∃ st',1<=st'/\st'<5/\jQ ⟨x,st⟩ (l.flatMap nP)=some ⟨{x with needs:=x.needs++l},st'⟩
 | [],x,st,h1,h5,_=>⟨st,h1,h5,by rw [List.append_nil];rfl⟩
 |n::l,x,st,h1,h5,h=>by
  obtain ⟨s1,a1,a2,a3⟩:=run_need (x:=x) h1 h5 (h n (List.mem_cons_self ..))
  obtain ⟨s2,b1,b2,b3⟩:=run_needs l {x with needs:=x.needs++[n]} s1 a1 a2 λy hy=>h y (List.mem_cons_of_mem _ hy)
  refine ⟨s2,b1,b2, ?_⟩
  rw [List.flatMap_cons,nJ,a3,Option.bind_some,b3]
  simp only [List.append_assoc,List.cons_append,List.nil_append]
theorem run_bar {x:Rt}{b:Bt}{own:YL}{st:Int}(h1:1<=st)(h6:st<=6)(h:qM own b=0):∃ st',1<=st'/\st'<=6/\jQ ⟨x,st⟩ (barLs b)=some ⟨{x with bars:=x.bars++[b]},st'⟩:=by
 unfold barLs
 rw [jQ,bar_line h h1 h6]
 unfold nD
 by_cases hw:b.wh=[]
 ·rw [if_pos hw]
  exact ⟨5,by decide,by decide,by rw [←hw];rfl⟩
 ·rw [if_neg hw]
  simp only [jQ]
  rw [when_bar hw]
  simp only [qB]
  exact ⟨6,by decide,by decide,rfl⟩
theorem run_bars {own:YL}:∀ (l:List Bt) (x:Rt) (st:Int),1<=st->st<=6->(∀ b∈l,qM own b=0)→∃ st',1<=st'/\jQ ⟨x,st⟩ (l.flatMap barLs)=some ⟨{x with bars:=x.bars++l},st'⟩
 | [],x,st,h1,h5,_=>⟨st,h1,by rw [List.append_nil];rfl⟩
 |b::l,x,st,h1,h6,h=>by
  obtain ⟨s1,a1,a2,a3⟩:=run_bar (x:=x) h1 h6 (h b (List.mem_cons_self ..))
  obtain ⟨s2,b1,b3⟩:=run_bars l {x with bars:=x.bars++[b]} s1 a1 a2 λy hy=>h y (List.mem_cons_of_mem _ hy)
  refine ⟨s2,b1, ?_⟩
  rw [List.flatMap_cons,nJ,a3,Option.bind_some,b3]
  simp only [List.append_assoc,List.cons_append,List.nil_append]
theorem run_feats:∀ (l:List Ft) (x:Rt) (st:Int),1<=st->(∀ f∈l,wdL f.name=true∧∀ s∈f.of,(zJ s).1≠0)→∃ st',1<=st'/\jQ ⟨x,st⟩ (l.map featL)=some ⟨{x with fts:=x.fts++l},st'⟩
 | [],x,st,h1,_=>⟨st,h1,by rw [List.append_nil];rfl⟩
 |f::l,x,st,h1,h=>by
  have hf:=h f (List.mem_cons_self ..)
  obtain ⟨s2,b1,b3⟩:=run_feats l {x with fts:=x.fts++[f]} 7 (by decide) λy hy=>h y (List.mem_cons_of_mem _ hy)
  refine ⟨s2,b1, ?_⟩
  rw [List.map_cons,jQ,feat_line h1 hf.1 hf.2]
  simp only []
  rw [b3]
  simp only [List.append_assoc,List.cons_append,List.nil_append]
theorem may_feats {l:List Ft}(h:vM l=true):∀ f∈l,wdL f.name=true∧∀ s∈f.of,(zJ s).1≠0:=λf hf=>by
 unfold vM at h
 simp only [Bool.and_eq_true,List.all_eq_true] at h
 refine ⟨h.1.1.2 f hf,λs hs=> ?_⟩
 have h1:=h.2 f hf
 unfold xF at h1
 simp only [Bool.and_eq_true,List.all_eq_true] at h1
 have h2:=h1.2 s hs
 unfold qN at h2
 simp only [Bool.and_eq_true,decide_eq_true_eq] at h2
 exact h2.1
theorem run_rec {r:Rt}(h:(zM r).1=0):∃ st,1<=st/\jQ ⟨jI,0⟩ (jV r)=some ⟨r,st⟩:=by
 obtain ⟨h1,h2,_,_,h5,_⟩:=gN h
 obtain ⟨k1,k2,k3,_⟩:=bU h5
 obtain ⟨s1,a1,a2,a3⟩:=run_needs r.needs ⟨r.name,r.ver,[],[],[]⟩ 1 (by decide) (by decide) k1
 obtain ⟨s2,b1,b3⟩:=run_bars r.bars {(⟨r.name,r.ver,[],[],[]⟩:Rt) with needs:=[]++r.needs} s1 a1 Om k2
 obtain ⟨s3,c1,c3⟩:=run_feats r.fts {(⟨r.name,r.ver,[]++r.needs,[],[]⟩:Rt) with bars:=[]++r.bars} s2 b1 (may_feats k3)
 refine ⟨s3,c1, ?_⟩
 unfold jV
 rw [jQ,head_line h1 h2]
 simp only [nJ]
 rw [a3,Option.bind_some,b3,Option.bind_some,c3]
 simp only [List.nil_append]
theorem recLs_free {r:Rt}(h:(zM r).1=0):∀ x∈jV r,(10:UInt8)∉x:=λx hx=>by
 obtain ⟨h1,h2,_,_,h5,_⟩:=gN h
 obtain ⟨k1,k2,k3,_⟩:=bU h5
 have hwhen:∀ s,yT s=true→∀ y∈nD s,(10:UInt8)∉y:=λs hs y hy=>by
  unfold nD at hy
  split at hy
  ·cases hy
  ·rw [List.mem_singleton.1 hy]
   exact d6 10 32 (by decide) λz hz=>by
    simp only [List.mem_cons,List.not_mem_nil,or_false] at hz
    rcases hz with rfl|rfl
    ·decide
    ·exact pm_free hs
 unfold jV at hx
 rcases List.mem_cons.1 hx with rfl|hx
 ·exact d6 10 32 (by decide) λz hz=>by
   simp only [List.mem_cons,List.not_mem_nil,or_false] at hz
   rcases hz with rfl|rfl|rfl
   ·decide
   ·exact dH h1 (by decide) (by decide) (by decide)
   ·exact ver_no h2 (by decide) (by decide) (by decide) (by decide)
 rcases List.mem_append.1 hx with hx|hx
 ·rcases List.mem_append.1 hx with hx|hx
  ·obtain ⟨n,hn,hx⟩:=List.mem_flatMap.1 hx
   obtain ⟨_,_,q3,q4,q5⟩:=bM (k1 n hn)
   unfold nP at hx
   rcases List.mem_cons.1 hx with rfl|hx
   ·decide
   rcases List.mem_append.1 hx with hx|hx
   ·rcases List.mem_append.1 hx with hx|hx
    ·obtain ⟨w,hw,rfl⟩:=List.mem_map.1 hx
     obtain ⟨w1,w2,w3⟩:=fC (q3 w hw)
     have hf:∀ y∈w.fs,wdL y=true:=by
      unfold vF at w3
      simp only [Bool.and_eq_true] at w3
      exact List.all_eq_true.1 w3.1.1.1
     exact d6 10 32 (by decide) λz hz=>by
      simp only [List.mem_cons,List.not_mem_nil,or_false] at hz
      rcases hz with rfl|rfl|rfl|rfl|rfl
      ·decide
      ·exact dH w1 (by decide) (by decide) (by decide)
      ·exact wfs_free hf (by decide) (by decide) (by decide)
      ·cases w.bare<;>decide
      ·exact (pD w2).1
    ·exact hwhen _ q4 x hx
   ·unfold optnL at hx
    split at hx
    ·cases hx
    ·rename_i ho
     rw [List.mem_singleton.1 hx]
     exact d6 10 32 (by decide) λz hz=>by
      simp only [List.mem_cons,List.not_mem_nil,or_false] at hz
      rcases hz with rfl|rfl
      ·decide
      ·exact jB (by decide) (q5.resolve_left ho)
  ·obtain ⟨b,hb,hx⟩:=List.mem_flatMap.1 hx
   obtain ⟨b1,b2,b3⟩:=bar_fine (k2 b hb)
   unfold barLs at hx
   rcases List.mem_cons.1 hx with rfl|hx
   ·exact d6 10 32 (by decide) λz hz=>by
     simp only [List.mem_cons,List.not_mem_nil,or_false] at hz
     rcases hz with rfl|rfl|rfl
     ·decide
     ·exact dH b1 (by decide) (by decide) (by decide)
     ·exact (pD b2).1
   ·exact hwhen _ b3 x hx
 ·obtain ⟨f,hf,rfl⟩:=List.mem_map.1 hx
  have q:=may_feats k3 f hf
  exact d6 10 32 (by decide) λz hz=>by
   rcases List.mem_cons.1 hz with rfl|hz
   ·decide
   ·rcases List.mem_cons.1 hz with rfl|hz
    ·exact jB (by decide) q.1
    ·exact (item_free (q.2 z hz)).1
theorem rec_split {r:Rt}(h:(zM r).1=0):zB 10 [] (yV r)=jV r++[[]]:=by
 have:=split_unL (jV r) [] (recLs_free h) (by simp)
 rw [List.append_nil,mB] at this;exact this
theorem read_back {r:Rt}(h:(zM r).1=0):gG (yV r)=(r,0,0):=by
 obtain ⟨st,h1,h2⟩:=run_rec h
 have h3:=(gN h).2.2.2.2.2
 unfold gG
 rw [if_neg Om,rec_split h,List.dropLast_concat,h2,List.getLast?_concat]
 show (if some ([]:YL)=some [] then doneS ⟨r,st⟩ else _)=_
 rw [if_pos rfl]
 unfold doneS
 rw [if_neg (show ¬ st=0 by omega),if_neg (by simp [h])]
end
section
def hexD (d:Nat):UInt8:=if d<10 then UInt8.ofNat (48+d) else UInt8.ofNat (87+d)
def hexV (c:UInt8):Option Nat:=if 48<=c.toNat/\c.toNat<=57 then some (c.toNat-48) else if 97<=c.toNat/\c.toNat<=102 then some (c.toNat-87) else none
def hexT (n:Nat)(k:Nat):YL:=(List.range k).map λi=>hexD (n/16^(15-i) % 16)
def dText (n:UInt64):YL:=hexT n.toNat 16
def hexN:Nat->YL->Option Nat
 |n,[]=>some n
 |n,c::r=>match hexV c with
  |some d=>hexN (n*16+d) r
  |none=>none
def dReadN (s:YL):Option Nat:=if s.length=16 then hexN 0 s else none
def dReadV (s:YL):UInt64:=UInt64.ofNat ((dReadN s).getD 0)
def dReadB (s:YL):Bool:=(dReadN s).isSome
end
section
set_option linter.unnecessarySimpa false
def wShelf:YL:=[115,104,101,108,102]
def wEnt:YL:=[101,110,116,114,121]
def wOff:YL:=[111,102,102]
def wOn:YL:=[111,110]
def onW (b:Bool):YL:=if b then wOff else wOn
def entH (d:YL)(y:Bool):YL:=zD 32 [wEnt,d,onW y]
def entLs (e:Et):List YL:=entH (dText (sumU e)) e.yk::jV e.rc
def entT (e:Et):YL:=(entH (dText (sumU e)) e.yk++[10])++yV e.rc
def shH (n:YL):YL:=zD 32 [wShelf,n]
def shT (s:Sh):YL:=(shH s.name++[10])++s.es.flatMap entT
def yL:YL->YL->List YL
 |p,[]=>if p=[] then [] else [p]
 |p,c::r=>if c=10 then (p++[10])::yL [] r else yL (p++[c]) r
theorem lnsP_run:∀ (x p s:YL),(10:UInt8)∉x->yL p (x++s)=yL (p++x) s
 | [],p,s,_=>by simp
 |c::x,p,s,h=>by
  rw [List.cons_append,yL,if_neg λe=>h (by rw [e];exact List.mem_cons_self ..),lnsP_run x (p++[c]) s λq=>h (List.mem_cons_of_mem _ q),List.append_assoc];rfl
theorem lnsP_unL:∀ (l:List YL) (t:YL),(∀ x∈l,(10:UInt8)∉x)->yL [] (unL l++t)=l.map (·++[10])++yL [] t
 | [],t,_=>rfl
 |x::l,t,h=>by
  rw [bR,List.append_assoc,List.append_assoc,lnsP_run x [] _ (h x (List.mem_cons_self ..))]
  show yL x (10::(unL l++t))=_
  rw [yL,if_pos rfl,lnsP_unL l t λy hy=>h y (List.mem_cons_of_mem _ hy)];rfl
def pV (p:YL):Bool:=decide (p.getLast?=some 10)
def bC (p:YL):YL:=if pV p then p.dropLast else p
def bQ (p:YL):List YL:=if pV p then zB 32 [] p.dropLast else []
theorem endP_nl (x:YL):pV (x++[10])=true:=by simp [pV]
theorem bodyP_nl (x:YL):bC (x++[10])=x:=by simp [bC,endP_nl]
def isEnt (p:YL):Bool:=decide ((zB 32 [] (bC p)).getD 0 []=wEnt)
def headE (p:YL):Option (UInt64×Bool):=
 if (bQ p).length=3/\(bQ p).getD 0 []=wEnt/\((bQ p).getD 2 []=wOff\/(bQ p).getD 2 []=wOn)/\dReadB ((bQ p).getD 1 [])=true then some (dReadV ((bQ p).getD 1 []),decide ((bQ p).getD 2 []=wOff)) else none
def headN (p:YL):Option YL:=
 if (bQ p).length=2/\(bQ p).getD 0 []=wShelf/\nmL ((bQ p).getD 1 [])=true then some ((bQ p).getD 1 []) else none
def nilE:Et:=⟨jI,0,false⟩
def entE (p b:YL):Int×Et:=match headE p with
 |none=>(2,nilE)
 |some x=>if (gG b).2.1≠0 then ((gG b).2.1,nilE) else if sumR (gG b).1≠(x.1.toNat:Int) then (13,nilE) else (0,⟨(gG b).1,(x.1.toNat:Int),x.2⟩)
def addE (l:List Et)(x:Et):Int:=if placeE l x.rc.name x.rc.ver≠ -1 then 8 else if l.length=64 then 10 else 0
def ext:List YL->Nat
 | []=>0
 |p::r=>if isEnt p then 0 else ext r+1
def readE:Nat->List YL->Nat->List Et->List Et×Int×Nat
 |0,_,k,l=>(l,0,k)
 |_+1,[],k,l=>(l,0,k)
 |f+1,p::r,k,l=>
  if (entE p (r.take (ext r)).flatten).1≠0 then (l,(entE p (r.take (ext r)).flatten).1,k)
  else if addE l (entE p (r.take (ext r)).flatten).2≠0 then (l,addE l (entE p (r.take (ext r)).flatten).2,k)
  else readE f (r.drop (ext r)) (k+(ext r+1)) (l++[(entE p (r.take (ext r)).flatten).2])
def outI (n:YL)(x:List Et×Int×Nat):Sh×Int×Int:=if x.2.1≠0 then (t6,x.2.1,(x.2.2:Int)+2) else (⟨n,x.1⟩,0,0)
def readL:List YL->Sh×Int×Int
 | []=>(t6,2,1)
 |p::r=>match headN p with
  |none=>(t6,2,1)
  |some n=>outI n (readE r.length r 0 [])
def readI (s:YL):Sh×Int×Int:=if 524288<s.length then (t6,3,0) else readL (yL [] s)
abbrev nlL (l:List YL):List YL:=l.map (·++[10])
theorem nl_flat (l:List YL):(nlL l).flatten=unL l:=rfl
end
section
section
variable {M:List Nat}{P:Program}{n:Nat}{W:World}{L:List Blk}{f:Nat->Value}
theorem fin_ret3 {fn:Func}{R:Ending->World->Prop}{t u s:Tmp}(v v' v2:Value)(hres:fn.results= #[.tmp t,.tmp u,.tmp s])(hv:ev n f (.tmp t)=v)(hv':ev n f (.tmp u)=v')(hv2:ev n f (.tmp s)=v2)(hR:∀ w,Own M W w L->R (.returned (.tuple #[v,v',v2])) w):Fin M n W (bodyPost P fn R) .ret L f:=⟨λw hO=>by
 have e1:(Fr n f).tmps.getD t undef=v:=(kK n f t).trans hv
 have e2:(Fr n f).tmps.getD u undef=v':=(kK n f u).trans hv'
 have e3:(Fr n f).tmps.getD s undef=v2:=(kK n f s).trans hv2
 have hr:∀ tm:Array Value,(results fn tm).run P w= .ok (.tuple #[tm.getD t undef,tm.getD u undef,tm.getD s undef]) w:=λtm=>by simp [results,hres]
 refine bodyPost_ret (v:= .tuple #[v,v',v2]) ?_ rfl (hR w hO)
 rw [hr,e1,e2,e3]⟩
end
end
section
section
variable {M:List Nat}{P:Program}{n:Nat}{ops:Array Oper}{W:World}{Q:Exit->Act->World->Prop}{L:List Blk}{f:Nat->Value}{rest:List Oper}{o:Oper}
def RoundW (n:Nat)(Inv:World->(Nat->Value)->Nat->Prop)(m:Nat)(Q:Exit->Act->World->Prop):Exit->Act->World->Prop:=
 Exit.then (λa w=>∃ f m',m'<m/\Inv w f m'/\a=Fr n f) Q
theorem fin_roundW {Inv:World->(Nat->Value)->Nat->Prop}{m m':Nat}(hlt:m'<m)(hI:∀ w,Own M W w L->Inv w f m'):Fin M n W (RoundW n Inv m Q) .normal L f:=⟨λw hO=>⟨f,m',hlt,hI w hO,rfl⟩⟩
end
structure RdT (w:World)(v:Value)(l:List YL):Prop where
 ex:∃ A cap,v= .slice A l.length cap/\Reads zW w w.heap.size A l/\(A=none->cap=0)
end
section
section
variable {P:Program}{md:Region.Mode}{l:List Oper}{m:Nat}
theorem upon_then {o:Oper}{a:Act}{K K':Act->World->Prop}{Q:Exit->Act->World->Prop}{r:Result Next}:o.upon P a K (Exit.then K' Q) r=o.upon P a K Q r:=by
 cases r with
 |ok x w=>cases x<;>rfl
 |halt x w=>cases x<;>rfl
theorem wpOp_take (hp:PreOk md l m){Q:Exit->Act->World->Prop}{K':Act->World->Prop}{i:Nat}(hi:i<m){K:Act->World->Prop}{a:Act}{w:World}(h:wpOp P (l.take m).toArray (Exit.then K' Q) i K a w):wpOp P l.toArray Q i K a w:=by
 unfold wpOp at h ⊢
 rw [take_at hi] at h
 cases ho:l.toArray[i]? with
 |none=>rw [ho] at h;exact h
 |some o=>
  rw [ho] at h
  have ho':l[i]?=some o:=by simpa using ho
  dsimp only at h ⊢
  rw [want_take hp hi ho'] at h
  split
  ·rename_i hw
   rw [if_pos hw] at h
   unfold Oper.wp at h ⊢
   rw [upon_then] at h
   exact h
  ·rename_i hw
   rw [if_neg hw] at h
   exact h
theorem any_comp (hp:PreOk md l m){Q:Exit->Act->World->Prop}{K':Act->World->Prop}{g:Nat}(H:∀ (fuel:Nat) (listed:Array Bool) (a:Act) (w:World),g<=fuel->Upto l.length m listed->K' a w->wpAny P md l.toArray Q fuel listed a w):
  ∀ (fuel:Nat) (listed' listed:Array Bool) (a:Act) (w:World),Part l.length m listed' listed->wpAny P md (l.take m).toArray (Exit.then K' Q) fuel listed' a w->wpAny P md l.toArray Q (fuel+g) listed a w:=by
 have full:∀ (listed' listed:Array Bool),Part l.length m listed' listed->(¬ ∃ i,i<m/\listed'.getD i true=false)->Upto l.length m listed:=by
  intro listed' listed h hno
  refine ⟨h.size,λi hi=> ?_⟩
  by_cases him:i<m
  ·rw [h.same i him,decide_eq_true him]
   obtain ⟨b,e⟩:=h.get him
   rw [e]
   cases b with
   |true=>rfl
   |false=>exact absurd ⟨i,him,by rw [Array.getD_eq_getD_getElem?,e];rfl⟩ hno
  ·rw [decide_eq_false him];exact h.rest i Om hi
 have some_ready:∀ (listed' listed:Array Bool),Part l.length m listed' listed->(∃ i,i<m/\listed'.getD i true=false)→∃ k,k<m/\k∈Region.ready md l.toArray listed:=by
  intro listed' listed h hun
  obtain ⟨k,hk,hf,hall⟩:=least_false (λi=>listed'.getD i true) m hun
  refine ⟨k,hk,(tM hp h hk).2 (mem_ready.2 ⟨hf,l[k]'(by have:=hp.le;omega), ?_,λe he hb=> ?_⟩)⟩
  ·rw [take_at hk];simp
  ·have:=hp.back k _ (List.getElem?_eq_getElem (by have:=hp.le;omega)) e he hb
   have h2:=hall e.on this
   obtain ⟨b,e2⟩:=h.get (i:=e.on) Om
   rw [Array.getD_eq_getD_getElem?,e2] at h2 ⊢
   simpa using h2
 intro fuel
 induction fuel with
 |zero=>
  intro listed' listed a w h hq
  have hno:¬ ∃ i,i<m/\listed'.getD i true=false:=λhun=>by
   obtain ⟨k,hk,hr⟩:=some_ready _ _ h hun
   have:=(tM hp h hk).1 hr
   rw [hq.1] at this;cases this
  exact H _ listed a w Om (full _ _ h hno) hq.2
 |succ f ih=>
  intro listed' listed a w h hq
  by_cases hun:∃ i,i<m/\listed'.getD i true=false
  ·rw [show f+1+g=(f+g)+1 from by omega]
   refine ⟨λhr=> ?_,λi hi=> ?_⟩
   ·obtain ⟨k,hk,hr2⟩:=some_ready _ _ h hun
    rw [hr] at hr2;cases hr2
   ·have him:=part_in hp h hun i hi
    have h1:=hq.2 i ((tM hp h him).1 hi)
    exact wpOp_mono (λa' w' hk=>ih _ _ a' w' (h.set him) hk) (wpOp_take hp him h1)
  ·have hr:Region.ready md (l.take m).toArray listed'=[]:=by
    apply List.eq_nil_iff_forall_not_mem.2
    intro i hi
    have h1:=(mem_ready.1 hi).1
    obtain ⟨_,o,ho,_⟩:=mem_ready.1 hi
    have:i<m:=by
     have:=(Array.getElem?_eq_some_iff.1 ho).1
     simp at this;omega
    exact hun ⟨i,this,h1⟩
   exact H _ listed a w Om (full _ _ h hun) (hq.1 hr)
end
section
variable {M:List Nat}{P:Program}{n:Nat}{W:World}{Q:Exit->Act->World->Prop}{L:List Blk}{f:Nat->Value}
theorem ok_drawh {id:Nat}{l:List Oper}(m:Nat)(L0:List Blk)(hm:P.follows .mixedOrders=true)(hP:preB .any l m=true)(h:jN M P n (l.take m).toArray W L0 (Exit.then (wpList P l.toArray Q (l.drop m)) Q) m (Array.replicate m false) L f):Ok M P n W Q (.region id l.toArray true) L f:=⟨λw hO=>by
 have hp:=preB_ok hP
 have hle:(l.take m).length=m:=by rw [List.length_take];have:=hp.le;omega
 refine wp_region_any hm ?_
 have hq:=wpAny_of_held _ _ _ _ (h.go _ hO.drew)
 have hres:=any_comp (P:=P) (md:= .any) hp (Q:=Q) (g:=l.length-m) (K':=wpList P l.toArray Q (l.drop m)) (λfuel listed a w hf hu hk=>any_tail hp (l.length-m) m fuel listed _ w rfl (Nat.le_refl _) hp.le hf hu hk) m (Array.replicate m false) (Array.replicate l.toArray.size false) (Fr n f) {w with drawn:=w.drawn+1}
  ⟨by simp,by simp,λi hi=>by
   have:=hp.le
   rw [Array.getElem?_replicate,Array.getElem?_replicate,if_pos (by simp;omega),if_pos hi],λt _ ht=>by rw [Array.getElem?_replicate,if_pos (by simpa using ht)]⟩ hq
 rw [show m+(l.length-m)=l.toArray.size from by have:=hp.le;simp;omega] at hres
 exact hres⟩
end
end
section
inductive XTop where
 |ops (a:Array Oper) (r:List Oper)
 |qps (a:Array Oper) (r:List Oper)
 |hps (a:Array Oper) (s:Array Bool) (u:Nat) (L0:List Blk)
 |hst (a:Array Oper) (s:Array Bool) (u:Nat) (L0:List Blk) (i:Nat)
 |code (c:Code)
 |fin (e:Exit)
inductive XIt where
 |code (c:Code)
 |blk (id:Nat)
 |lp (I:List Blk->(Nat->Value)->Nat->Prop) (m:Nat)
 |tl (a:Array Oper) (r:List Oper)
 |rd (c:Code) (m:Nat)
structure Xc where
 top:XTop
 k:List XIt
 L:List Blk
 f:Nat->Value
def KQ (M:List Nat)(P:Program)(n:Nat)(W:World)(Q:Exit->Act->World->Prop):List XIt->Exit->Act->World->Prop
 | []=>Q
 | .code c::k=>Exit.then (Code.wp P c (KQ M P n W Q k)) (KQ M P n W Q k)
 | .blk id::k=>Exit.inBlock id (KQ M P n W Q k)
 | .lp I m::k=>Round M n W I m (KQ M P n W Q k)
 | .tl a r::k=>Exit.then (wpList P a (KQ M P n W Q k) r) (KQ M P n W Q k)
 | .rd c m::k=>Exit.then (Code.rounds P c (KQ M P n W Q k) m) (KQ M P n W Q k)
theorem pZ {M:List Nat}{P:Program}{n:Nat}{W:World}{Q:Exit->Act->World->Prop}(h:PQ Q):∀ k:List XIt,PQ (KQ M P n W Q k)
 | []=>h
 | .code _::k=>dT (pZ h k)
 | .blk _::k=>bS (pZ h k)
 | .lp _ _::k=>pq_round (pZ h k)
 | .tl _ _::k=>dT (pZ h k)
 | .rd _ _::k=>dT (pZ h k)
structure zE (M:List Nat)(P:Program)(n:Nat)(W:World)(Q:Exit->Act->World->Prop)(c:Xc):Prop where
 go:PQ Q->match c.top with
  | .ops a r=>Seg M P n a W (KQ M P n W Q c.k) r c.L c.f
  | .qps a r=>jS M P n a W (Fin M n W (KQ M P n W Q c.k) .normal) r c.L c.f
  | .hps a s u L0=>(∀ w,Own M W w c.L->Own M W w L0)->jN M P n a W L0 (KQ M P n W Q c.k) u s c.L c.f
  | .hst a s u L0 i=>(∀ w,Own M W w c.L->Own M W w L0)->dC M P n a W L0 (KQ M P n W Q c.k) u s i c.L c.f
  | .code x=>Ok M P n W (KQ M P n W Q c.k) x c.L c.f
  | .fin e=>Fin M n W (KQ M P n W Q c.k) e c.L c.f
def xPure:Op->Bool
 | .move _| .assign _| .pick _ _ _| .build _ _| .binOp _ _ _ _ _| .unOp _ _ _| .convert _ _ _| .fieldAddr _ _ _| .field _ _ _| .indexAddr _ _ _| .index _ _ _| .extract _ _| .slice _ _ _ _ _| .nilCheck _=>true
 | .call c=>match c.callee with
  | .builtin .len| .builtin .cap| .builtin .max| .builtin .min=>true
  |_=>false
 |_=>false
def xQuiet (o:Oper):Bool:=
 match o.op with
 | .load _ _=>true
 | .call c=>match c.callee with
  | .builtin .append=>false
  |_=>true
 |op=>xPure op
abbrev XR:Type:=World->Result Next
inductive XK where
 |no
 |r (g:XR)
 |ld (p:Value) (x:Option Blk) (v:Option Value)
 |st (p:Value) (x:Option Blk) (a:Option Bool) (b:Bool)
 |h (a b:Bool) (k:XK)
def xVal (P:Program)(n:Nat)(f:Nat->Value)(o:Oper):Value:=
 match (execOp (ev n f) o).run P default with
 | .ok (.value v) _=>v
 |_=>undef
def xOff:Value->Nat
 | .pointer (some a)=>a.off
 |_=>0
def qG (L:List Blk)(i:Nat):Blk:=L.getD i ⟨0, #[],0⟩
structure XS where
 go:Bool
 c:Xc
 h:List Nat
 l:XK
 r:XK
def xhd (h:List Nat):Nat:=h.headD 0
def xop (P:Program)(n:Nat)(q:Bool)(a:Array Oper)(o:Oper)(r:List Oper)(c:Xc)(h:List Nat):XS:=
 let nx (L:List Blk) (f:Nat->Value):Xc:=⟨bif q then .qps a r else .ops a r,c.k,L,f⟩
 match zR a n c.f o with
 |false=>⟨true,nx c.L (upd c.f o.dst undef),h,.no,.no⟩
 |true=>
  match o.op with
  | .load ty p=>
   let x:=qG c.L (xhd h)
   let v:=yS P ty x.cs (xOff (ev n c.f p))
   ⟨true,nx c.L (upd c.f o.dst (v.getD undef)),h.tail,.ld (ev n c.f p) (c.L[xhd h]?) v,.ld (.pointer (some ⟨x.b,xOff (ev n c.f p),none⟩)) (some x) (some (v.getD undef))⟩
  | .store T p y=>
   match q,o.dst with
   |false,none=>
    let x:=qG c.L (xhd h)
    let v:=ev n c.f y
    ⟨true,nx (c.L.set (xhd h) ⟨x.b,zT x.cs (xOff (ev n c.f p)) v.cells,x.ty⟩) c.f,h.tail,.st (ev n c.f p) (c.L[xhd h]?) ((P.info? T).map λt=>Nat.beq v.cells.size t.size && Nat.ble (xOff (ev n c.f p)+t.size) x.cs.size) (v.cells.toList.all λu=>u.oneCell'),
     .st (.pointer (some ⟨x.b,xOff (ev n c.f p),none⟩)) (some x) (some true) true⟩
   |_,_=>⟨false,c,h,.no,.no⟩
  |op=>
   match xPure op with
   |true=>⟨true,nx c.L (upd c.f o.dst (xVal P n c.f o)),h,.r (λw=>(execOp (ev n c.f) o).run P w),.r (λw=> .ok (.value (xVal P n c.f o)) w)⟩
   |false=>⟨false,c,h,.no,.no⟩
def xTak (n:Nat)(a:Array Oper)(f:Nat->Value)(i:Nat):Bool:=
 match a[i]? with
 |none=>false
 |some o=>
  match zR a n f o with
  |false=>true
  |true=>
   match o.op with
   | .load _ _=>true
   |op=>xPure op
def xhp (P:Program)(n:Nat)(a:Array Oper)(s:Array Bool)(u:Nat)(L0:List Blk)(i:Nat)(o:Oper)(c:Xc)(h:List Nat):XS:=
 let nx (f:Nat->Value):Xc:=⟨.hps a (s.setIfInBounds i true) u L0,c.k,c.L,f⟩
 let fr:Bool:=Region.noSelect a && Region.free .any a s i && (Region.ready .any a s).contains i
 match zR a n c.f o with
 |false=>⟨true,nx (upd c.f o.dst undef),h,.h fr true .no,.h true true .no⟩
 |true=>
  match o.op with
  | .load ty p=>
   let x:=qG L0 (xhd h)
   let v:=yS P ty x.cs (xOff (ev n c.f p))
   ⟨true,nx (upd c.f o.dst (v.getD undef)),h.tail,.h fr true (.ld (ev n c.f p) (L0[xhd h]?) v),.h true true (.ld (.pointer (some ⟨x.b,xOff (ev n c.f p),none⟩)) (some x) (some (v.getD undef)))⟩
  |op=>⟨true,nx (upd c.f o.dst (xVal P n c.f o)),h,.h fr true (.r (λw=>(execOp (ev n c.f) o).run P w)),.h true true (.r (λw=> .ok (.value (xVal P n c.f o)) w))⟩
def xhs (P:Program)(n:Nat)(a:Array Oper)(s:Array Bool)(u:Nat)(L0:List Blk)(c:Xc)(h:List Nat):XS:=
 match Region.ready .any a s with
 | []=>⟨true,{c with top:= .fin .normal},h,.no,.no⟩
 |_=>
  match u,(Region.ready .any a s).find? (xTak n a c.f) with
  |u'+1,some i=>
   match a[i]? with
   |some o=>xhp P n a s u' L0 i o c h
   |none=>⟨false,c,h,.no,.no⟩
  |_,_=>⟨false,c,h,.no,.no⟩
def xcode (P:Program)(n:Nat)(x:Code)(c:Xc):Bool×Xc:=
 match x with
 | .skip=>(true,{c with top:= .fin .normal})
 | .region _ a false=>(true,{c with top:= .ops a a.toList})
 | .region _ a true=>bif P.follows .mixedOrders && Region.lexB .any a && a.toList.all xQuiet then (true,{c with top:= .qps a a.toList}) else (false,c)
 | .seq a b=>(true,{c with top:= .code a,k:= .code b::c.k})
 | .block id b=>(true,{c with top:= .code b,k:= .blk id::c.k})
 | .exit id=>(true,{c with top:= .fin (.exit id)})
 | .ret=>(true,{c with top:= .fin .ret})
 | .cond o a b=>
  match ev n c.f o with
  | .bool true=>(true,{c with top:= .code a})
  | .bool false=>(true,{c with top:= .code b})
  |_=>(false,c)
 |_=>(false,c)
def xfin (e:Exit)(c:Xc):Bool×Xc:=
 match c.k,e with
 | .code b::k,.normal=>(true,{c with top:= .code b,k:=k})
 | .code _::k,.exit id=>(true,{c with top:= .fin (.exit id),k:=k})
 | .code _::k,.ret=>(true,{c with top:= .fin .ret,k:=k})
 | .blk _::k,.normal=>(true,{c with top:= .fin .normal,k:=k})
 | .blk id::k,.exit id'=>(true,{c with top:= .fin (bif Nat.beq id' id then .normal else .exit id'),k:=k})
 | .blk _::k,.ret=>(true,{c with top:= .fin .ret,k:=k})
 | .lp _ _::k,.exit id=>(true,{c with top:= .fin (.exit id),k:=k})
 | .lp _ _::k,.ret=>(true,{c with top:= .fin .ret,k:=k})
 | .tl a r::k,.normal=>(true,{c with top:= .ops a r,k:=k})
 | .rd b (m+1)::k,.normal=>(true,{c with top:= .code b,k:= .rd b m::k})
 | .rd _ _::k,.exit id=>(true,{c with top:= .fin (.exit id),k:=k})
 | .rd _ _::k,.ret=>(true,{c with top:= .fin .ret,k:=k})
 |_,_=>(false,c)
def wZ (P:Program)(n:Nat)(c:Xc)(h:List Nat):XS:=
 match c.top with
 | .ops _ []=>⟨true,{c with top:= .fin .normal},h,.no,.no⟩
 | .ops a (o::r)=>xop P n false a o r c h
 | .qps _ []=>⟨true,{c with top:= .fin .normal},h,.no,.no⟩
 | .qps a (o::r)=>xop P n true a o r c h
 | .hps a s u L0=>xhs P n a s u L0 c h
 | .hst _ _ _ _ _=>⟨false,c,h,.no,.no⟩
 | .code x=>⟨(xcode P n x c).1,(xcode P n x c).2,h,.no,.no⟩
 | .fin e=>⟨(xfin e c).1,(xfin e c).2,h,.no,.no⟩
def xdst (n:Nat)(c:Xc):Option Tmp:=
 match c.top with
 | .ops _ (o::_)=>o.dst
 | .qps _ (o::_)=>o.dst
 | .hps a s _ _=>
  match (Region.ready .any a s).find? (xTak n a c.f) with
  |some i=>(a.getD i default).dst
  |none=>none
 |_=>none
def xisd (d:Option Tmp)(t:Nat):Bool:=match d with
 |some d=>Nat.beq d t
 |none=>false
def xhit (n t:Nat)(c:Xc):Bool:=xisd (xdst n c) t
def xlen:List XIt->Nat
 | []=>0
 |_::k=>xlen k+1
def xAt (m:Nat):Nat:=Nat.add m 90000
def xCt (d:Nat):Nat:=Nat.add d 70000
def xend (t:Nat)(c:Xc):Bool:=
 match c.top with
 | .fin .normal=>Nat.beq (xAt (xlen c.k)) t
 |_=>false
def xcnd (t:Nat)(c:Xc):Bool:=
 match c.top with
 | .code (.cond (.tmp d) _ _)=>Nat.beq d t
 |_=>false
noncomputable def xpre (n t:Nat)(c:Xc):Bool:= @Bool.rec (λ_=>Bool) false (@Bool.rec (λ_=>Bool) (@Bool.rec (λ_=>Bool) (xisd (xdst n c) (t-50000)) (xcnd (t-70000) c) (Nat.ble 70000 t)) (xend t c) (Nat.ble 90000 t)) (Nat.ble 50000 t)
inductive Fuel1 where
 |z
 |s (m:Fuel1)
def fuel5 (m:Fuel1):Fuel1:= .s (.s (.s (.s (.s m))))
def fuel25 (m:Fuel1):Fuel1:=fuel5 (fuel5 (fuel5 (fuel5 (fuel5 m))))
def fuel125 (m:Fuel1):Fuel1:=fuel25 (fuel25 (fuel25 (fuel25 (fuel25 m))))
def fuelA:Fuel1:=fuel125 (fuel125 (fuel125 .z))
inductive Fuel2 where
 |z
 |s (m:Fuel2)
def tZ:Fuel1->Fuel2
 | .z=> .z
 | .s m=> .s (tZ m)
def fuelB:Fuel2:=tZ fuelA
noncomputable def xY (P:Program)(n t:Nat):Fuel1->List Nat->Xc->Xc
 | .z,_,c=>c
 | .s m,h,c=> @Bool.rec (λ_=>Xc) (@Bool.rec (λ_=>Xc) (wZ P n c h).c (xY P n t m (wZ P n c h).h (wZ P n c h).c) ((wZ P n c h).go && !xhit n t c)) c (xpre n t c)
noncomputable def xl (P:Program)(n t:Nat):Fuel1->List Nat->Xc->List XK
 | .z,_,_=>[]
 | .s m,h,c=> @Bool.rec (λ_=>List XK) ((wZ P n c h).l:: @Bool.rec (λ_=>List XK) [] (xl P n t m (wZ P n c h).h (wZ P n c h).c) ((wZ P n c h).go && !xhit n t c)) [] (xpre n t c)
noncomputable def xr (P:Program)(n t:Nat):Fuel2->List Nat->Xc->List XK
 | .z,_,_=>[]
 | .s m,h,c=> @Bool.rec (λ_=>List XK) ((wZ P n c h).r:: @Bool.rec (λ_=>List XK) [] (xr P n t m (wZ P n c h).h (wZ P n c h).c) ((wZ P n c h).go && !xhit n t c)) [] (xpre n t c)
section
variable {M:List Nat}{P:Program}{n:Nat}{W:World}{Q:Exit->Act->World->Prop}
theorem xop_ok {a:Array Oper}{o:Oper}{r:List Oper}{k:List XIt}{L:List Blk}{f:Nat->Value}{h:List Nat}(hk:(xop P n false a o r ⟨.ops a (o::r),k,L,f⟩ h).l=(xop P n false a o r ⟨.ops a (o::r),k,L,f⟩ h).r)
  (hg:zE M P n W Q (xop P n false a o r ⟨.ops a (o::r),k,L,f⟩ h).c):zE M P n W Q ⟨.ops a (o::r),k,L,f⟩:=by
 unfold xop at hk hg
 cases hw:zR a n f o with
 |false=>rw [hw] at hk hg;exact ⟨λhq=>s_skip hw (hg.go hq)⟩
 |true=>
  rw [hw] at hk hg
  cases ho:o.op with
  |load ty p=>
   rw [ho] at hk hg
   simp only [XK.ld.injEq] at hk
   exact ⟨λhq=>s_load (xhd h) _ _ hw ho hk.2.1 hk.1 hk.2.2 (hg.go hq)⟩
  |store T p y=>
   rw [ho] at hk hg
   cases hd:o.dst with
   |some d=>rw [hd] at hg;exact hg
   |none=>
    rw [hd] at hk hg
    simp only [XK.st.injEq] at hk
    exact ⟨λhq=>s_store_at (xhd h) _ (ev n f y) hw ho hd hk.2.1 hk.1 rfl hk.2.2.1 hk.2.2.2 (hg.go hq)⟩
  |_=>
   rw [ho] at hk hg
   dsimp only at hk hg
   split at hk
   ·rename_i hp
    rw [hp] at hg
    exact ⟨λhq=>s_val _ hw (λw=>congrFun (XK.r.inj hk) w) (hg.go hq)⟩
   ·rename_i hp
    rw [hp] at hg
    exact hg
theorem xqp_ok {a:Array Oper}{o:Oper}{r:List Oper}{k:List XIt}{L:List Blk}{f:Nat->Value}{h:List Nat}(hk:(xop P n true a o r ⟨.qps a (o::r),k,L,f⟩ h).l=(xop P n true a o r ⟨.qps a (o::r),k,L,f⟩ h).r)
  (hg:zE M P n W Q (xop P n true a o r ⟨.qps a (o::r),k,L,f⟩ h).c):zE M P n W Q ⟨.qps a (o::r),k,L,f⟩:=by
 unfold xop at hk hg
 cases hw:zR a n f o with
 |false=>rw [hw] at hk hg;exact ⟨λhq=>q_skip hw (hg.go hq)⟩
 |true=>
  rw [hw] at hk hg
  cases ho:o.op with
  |load ty p=>
   rw [ho] at hk hg
   simp only [XK.ld.injEq] at hk
   exact ⟨λhq=>q_load (xhd h) _ _ hw ho hk.2.1 hk.1 hk.2.2 (hg.go hq)⟩
  |store T p y=>rw [ho] at hk hg;exact hg
  |_=>
   rw [ho] at hk hg
   dsimp only at hk hg
   split at hk
   ·rename_i hp
    rw [hp] at hg
    exact ⟨λhq=>q_val _ hw (λw=>congrFun (XK.r.inj hk) w) (hg.go hq)⟩
   ·rename_i hp
    rw [hp] at hg
    exact hg
theorem ok_drawA {id:Nat}{a:Array Oper}{L:List Blk}{f:Nat->Value}{Q:Exit->Act->World->Prop}(hm:P.follows .mixedOrders=true)(hB:Region.lexB .any a=true)(h:jS M P n a W (Fin M n W Q .normal) a.toList L f):Ok M P n W Q (.region id a true) L f:=by
 obtain ⟨l,rfl⟩:∃ l:List Oper,a=l.toArray:=⟨a.toList,by simp⟩
 exact ok_draw hm hB (by simpa using h)
theorem ok_regA {id:Nat}{a:Array Oper}{L:List Blk}{f:Nat->Value}{Q:Exit->Act->World->Prop}(h:Seg M P n a W Q a.toList L f):Ok M P n W Q (.region id a false) L f:=by
 obtain ⟨l,rfl⟩:∃ l:List Oper,a=l.toArray:=⟨a.toList,by simp⟩
 exact ok_region (by simpa using h)
theorem xcode_ok {x:Code}{k:List XIt}{L:List Blk}{f:Nat->Value}(hg:zE M P n W Q (xcode P n x ⟨.code x,k,L,f⟩).2):zE M P n W Q ⟨.code x,k,L,f⟩:=by
 cases x with
 |skip=>exact ⟨λhq=>ok_skip (hg.go hq)⟩
 |region id a d=>
  cases d with
  |false=>exact ⟨λhq=>ok_regA (hg.go hq)⟩
  |true=>
   unfold xcode at hg
   dsimp only at hg
   revert hg
   cases hb:(P.follows .mixedOrders && Region.lexB .any a && a.toList.all xQuiet) with
   |false=>exact λhg=>hg
   |true=>
    intro hg
    rw [Bool.and_eq_true,Bool.and_eq_true] at hb
    exact ⟨λhq=>ok_drawA hb.1.1 hb.1.2 (hg.go hq)⟩
 |seq a b=>exact ⟨λhq=>ok_seq (hg.go hq)⟩
 |cond o a b=>
  unfold xcode at hg
  dsimp only at hg
  split at hg
  ·rename_i e;exact ⟨λhq=>ok_true e (hg.go hq)⟩
  ·rename_i e;exact ⟨λhq=>ok_false e (hg.go hq)⟩
  ·exact hg
 |block id b=>exact ⟨λhq=>ok_block (hg.go hq)⟩
 |exit id=>exact ⟨λhq=>ok_exit (hg.go hq)⟩
 |ret=>exact ⟨λhq=>wX (hg.go hq)⟩
 |_=>exact hg
theorem xfin_ok {e:Exit}{k:List XIt}{L:List Blk}{f:Nat->Value}(hg:zE M P n W Q (xfin e ⟨.fin e,k,L,f⟩).2):zE M P n W Q ⟨.fin e,k,L,f⟩:=by
 cases k with
 |nil=>exact hg
 |cons i k=>
  cases i with
  |code b=>cases e with
   |normal=>exact ⟨λhq=>fin_seq (hg.go hq)⟩
   |exit id=>exact ⟨λhq=>mM (hg.go hq)⟩
   |ret=>exact ⟨λhq=>wS (hg.go hq)⟩
   |_=>exact hg
  |blk id=>cases e with
   |normal=>exact ⟨λhq=>fin_block (hg.go hq)⟩
   |exit id'=>
    cases hb:Nat.beq id' id with
    |true=>
     obtain rfl:=Nat.eq_of_beq_eq_true hb
     have hg':=hg.go
     simp only [xfin,hb,cond_true] at hg'
     exact ⟨λhq=>fin_block_exit (hg' hq)⟩
    |false=>
     have hne:id'≠id:=λe=>by rw [e,Nat.beq_refl] at hb;cases hb
     have hg':=hg.go
     simp only [xfin,hb,cond_false] at hg'
     exact ⟨λhq=>fin_block_other hne (hg' hq)⟩
   |ret=>exact ⟨λhq=>fin_block_ret (hg.go hq)⟩
   |_=>exact hg
  |lp I m=>cases e with
   |exit id=>exact ⟨λhq=>fin_round_exit (hg.go hq)⟩
   |ret=>exact ⟨λhq=>fin_round_ret (hg.go hq)⟩
   |_=>exact hg
  |tl a r=>cases e with
   |normal=>exact ⟨λhq=>⟨(hg.go hq).go⟩⟩
   |_=>exact hg
  |rd b m=>cases m with
   |zero=>cases e with
    |exit id=>exact ⟨λhq=>mM (hg.go hq)⟩
    |ret=>exact ⟨λhq=>wS (hg.go hq)⟩
    |_=>exact hg
   |succ m=>cases e with
    |normal=>exact ⟨λhq=>⟨(hg.go hq).go⟩⟩
    |exit id=>exact ⟨λhq=>mM (hg.go hq)⟩
    |ret=>exact ⟨λhq=>wS (hg.go hq)⟩
    |_=>exact hg
theorem xhs_ok {a:Array Oper}{s:Array Bool}{u:Nat}{L0:List Blk}{k:List XIt}{L:List Blk}{f:Nat->Value}{h:List Nat}(hk:(xhs P n a s u L0 ⟨.hps a s u L0,k,L,f⟩ h).l=(xhs P n a s u L0 ⟨.hps a s u L0,k,L,f⟩ h).r)
  (hg:zE M P n W Q (xhs P n a s u L0 ⟨.hps a s u L0,k,L,f⟩ h).c):zE M P n W Q ⟨.hps a s u L0,k,L,f⟩:=by
 unfold xhs at hk hg
 split at hk
 ·rename_i hr
  rw [hr] at hg
  exact ⟨λhq hs=>h_done hr (hg.go hq)⟩
 ·rename_i hr
  split at hg
  ·rename_i e;exact absurd e hr
  split at hk
  ·rename_i u' i hf
   rw [hf] at hg
   dsimp only at hg
   have ht:=List.find?_some hf
   unfold xTak at ht
   cases ho:a[i]? with
   |none=>rw [ho] at hg;exact hg
   |some o=>
    rw [ho] at hk hg ht
    dsimp only at hk hg ht
    unfold xhp at hk hg
    have fin3:∀ {b1 b2 b3:Bool},(b1 && b2 && b3)=true->b1=true/\b2=true/\b3=true:=λ{b1 b2 b3} h=>by cases b1<;>cases b2<;>cases b3<;>simp_all
    cases hw:zR a n f o with
    |false=>
     rw [hw] at hk hg
     simp only [XK.h.injEq] at hk
     obtain ⟨e1,e2,e3⟩:=fin3 hk.1
     exact ⟨λhq hs=>hl_skip i o ho e1 e2 e3 (pZ hq k) hs hw (hg.go hq hs)⟩
    |true=>
     rw [hw] at hk hg ht
     dsimp only at ht
     cases hop:o.op with
     |load ty p=>
      rw [hop] at hk hg
      simp only [XK.h.injEq,XK.ld.injEq] at hk
      obtain ⟨e1,e2,e3⟩:=fin3 hk.1
      exact ⟨λhq hs=>hl_load i o (xhd h) _ _ ho e1 e2 e3 (pZ hq k) hs hw hop hk.2.2.2.1 hk.2.2.1 hk.2.2.2.2 (hg.go hq hs)⟩
     |_=>
      rw [hop] at hk hg
      dsimp only at hk hg
      have e0:=XK.h.inj hk
      obtain ⟨e1,e2,e3⟩:=fin3 e0.1
      exact ⟨λhq hs=>pL i o _ ho e1 e2 e3 (pZ hq k) hs hw (λw _=>congrFun (XK.r.inj e0.2.2) w) (hg.go hq hs)⟩
  ·rename_i hno
   split at hg
   ·rename_i u' i hf;exact absurd hf (hno u' i rfl)
   ·exact hg
theorem xstep_ok {c:Xc}{h:List Nat}(hk:(wZ P n c h).l=(wZ P n c h).r)(hg:zE M P n W Q (wZ P n c h).c):zE M P n W Q c:=by
 obtain ⟨top,k,L,f⟩:=c
 cases top with
 |ops a r=>cases r with
  |nil=>exact ⟨λhq=>s_nil (hg.go hq)⟩
  |cons o r=>exact xop_ok hk hg
 |qps a r=>cases r with
  |nil=>exact ⟨λhq=>q_nil (hg.go hq)⟩
  |cons o r=>exact xqp_ok hk hg
 |hps a s u L0=>
  change (xhs P n a s u L0 ⟨.hps a s u L0,k,L,f⟩ h).l=(xhs P n a s u L0 ⟨.hps a s u L0,k,L,f⟩ h).r at hk
  change zE M P n W Q (xhs P n a s u L0 ⟨.hps a s u L0,k,L,f⟩ h).c at hg
  exact xhs_ok hk hg
 |hst a s u L0 i=>exact hg
 |code x=>exact xcode_ok hg
 |fin e=>exact xfin_ok hg
theorem xrun_ok {t:Nat}:∀ (m:Fuel1) (h:List Nat) (c:Xc),xl P n t m h c=xr P n t (tZ m) h c->zE M P n W Q (xY P n t m h c)->zE M P n W Q c
 | .z,_,_,_,hg=>hg
 | .s m,h,c,hk,hg=>by
  unfold xl tZ xr at hk
  unfold xY at hg
  cases hp:xpre n t c with
  |true=>simp only [hp] at hg;exact hg
  |false=>
   simp only [hp] at hk hg
   cases hb:(wZ P n c h).go && !xhit n t c with
   |true=>
    simp only [hb] at hk hg
    have h2:=List.cons.inj hk
    exact xstep_ok h2.1 (xrun_ok m _ _ h2.2 hg)
   |false=>
    simp only [hb] at hk hg
    exact xstep_ok (List.cons.inj hk).1 hg
end
end
section
abbrev nS:Nat:=40000
noncomputable def xgo (P:Program)(n t:Nat)(h:List Nat)(c:Xc):Xc:=xY P n t fuelA h c
noncomputable def xgl (P:Program)(n t:Nat)(h:List Nat)(c:Xc):List XK:=xl P n t fuelA h c
noncomputable def xgr (P:Program)(n t:Nat)(h:List Nat)(c:Xc):List XK:=xr P n t fuelB h c
theorem zK {M:List Nat}{P:Program}{n t:Nat}{W:World}{Q:Exit->Act->World->Prop}(h:List Nat)(c:Xc)(hk:xgl P n t h c=xgr P n t h c)(hg:zE M P n W Q (xgo P n t h c)):zE M P n W Q c:=xrun_ok fuelA h c hk hg
def xA (c:Xc):Array Oper:=match c.top with
 | .ops a _=>a
 | .qps a _=>a
 | .hps a _ _ _=>a
 | .hst a _ _ _ _=>a
 |_=> #[]
def xL (c:Xc):List Oper:=match c.top with
 | .ops _ r=>r
 | .qps _ r=>r
 |_=>[]
def xO (c:Xc):Oper:=match c.top with
 | .hst a _ _ _ i=>a.getD i default
 |_=>(xL c).headD default
def xT (c:Xc):List Oper:=(xL c).tail
def xC (c:Xc):Code:=match c.top with
 | .code x=>x
 |_=> .skip
def mZ (c:Xc):Code:=match xC c with
 | .loop b=>b
 |_=> .skip
def xTy (o:Oper):TypeId:=match o.op with
 | .alloc T=>T
 | .box T _=>T
 |_=>0
def xZ (P:Program)(o:Oper):Value:=((P.info? (xTy o)).bind (·.zero)).getD undef
def xX (n:Nat)(f:Nat->Value)(o:Oper):Value:=match o.op with
 | .box _ x=>ev n f x
 |_=>undef
def xBx (o:Oper):Operand:=match o.op with
 | .box _ x=>x
 |_=> .tmp 0
def Xc.st (c:Xc)(t:Nat)(v:Value):Xc:={c with f:=upd c.f (some t) v}
def Xc.put (c:Xc)(v:Value):Xc:=match c.top with
 | .ops a (o::r)=>⟨.ops a r,c.k,c.L,upd c.f o.dst v⟩
 | .qps a (o::r)=>⟨.qps a r,c.k,c.L,upd c.f o.dst v⟩
 | .hst a s u L0 i=>⟨.hps a (s.setIfInBounds i true) u L0,c.k,c.L,upd c.f (a.getD i default).dst v⟩
 |_=>c
def xEnt (P:Program)(n:Nat)(c:Xc):XR:=match c.top with
 | .ops a (o::_)=>bif zR a n c.f o then (λw=>(execOp (ev n c.f) o).run P w) else λw=> .ok .skip w
 | .qps a (o::_)=>bif zR a n c.f o then (λw=>(execOp (ev n c.f) o).run P w) else λw=> .ok .skip w
 | .hst a _ _ _ i=>bif zR a n c.f (a.getD i default) then (λw=>(execOp (ev n c.f) (a.getD i default)).run P w) else λw=> .ok .skip w
 |_=>λw=> .ok .skip w
def xNew (c:Xc)(x:Blk):Xc:=⟨.ops (xA c) (xT c),c.k,x::c.L,upd c.f (xO c).dst (.pointer (some ⟨x.b,0,none⟩))⟩
def xQ (c:Xc):Bool:=match c.top with
 | .qps _ _=>true
 | .hps _ _ _ _=>true
 | .hst _ _ _ _ _=>true
 |_=>false
def xAdd (c:Xc)(ob:List Blk):Xc:={c with L:=c.L++ob}
section
variable {M:List Nat}{P:Program}{n:Nat}{W:World}{Q:Exit->Act->World->Prop}{c:Xc}
theorem ent_ne {k:FuncId}{args:Array Value}(h:(λw:World=>(Result.ok Next.skip w))=λw=> .ok (.enter k args) w):False:=by
 have:=congrFun h default
 simp at this
theorem no_ent {P:Program}{n:Nat}{f:Nat->Value}{k:FuncId}{args:Array Value}(h:(λw:World=>(execOp (ev n f) (default:Oper)).run P w)=λw=> .ok (.enter k args) w):False:=by
 have:=congrFun h default
 unfold execOp at this
 simp [default,instInhabitedOper.default,instInhabitedOp.default] at this
theorem xput_call {k:FuncId}{args:Array Value}{v:Value}(hc:∀ w,Own M W w c.L->Calls P k args w (YR v w))(hg:zE M P n W Q (c.put v))
  (he:xEnt P n c=λw=> .ok (.enter k args) w):zE M P n W Q c:=by
 obtain ⟨top,kk,L,f⟩:=c
 unfold xEnt at he
 unfold Xc.put at hg
 dsimp only at he hg hc
 cases top with
 |ops a r=>cases r with
  |nil=>exact (ent_ne he).elim
  |cons o r=>
   dsimp only at he hg
   cases hw:zR a n f o with
   |false=>rw [hw] at he;exact (ent_ne he).elim
   |true=>rw [hw] at he;exact ⟨λhq=>s_call v hw (λw=>congrFun he w) hc (hg.go hq)⟩
 |qps a r=>cases r with
  |nil=>exact (ent_ne he).elim
  |cons o r=>
   dsimp only at he hg
   cases hw:zR a n f o with
   |false=>rw [hw] at he;exact (ent_ne he).elim
   |true=>rw [hw] at he;exact ⟨λhq=>q_call v hw (λw=>congrFun he w) hc (hg.go hq)⟩
 |hst a s u L0 i=>
  dsimp only at he hg
  cases hw:zR a n f (a.getD i default) with
  |false=>rw [hw] at he;exact (ent_ne he).elim
  |true=>
   rw [hw] at he
   cases ha:a[i]? with
   |none=>
    have hd:a.getD i default=default:=by rw [Array.getD_eq_getD_getElem?,ha];rfl
    rw [hd] at he
    exact (no_ent (P:=P) (n:=n) he).elim
   |some o=>
    have hd:a.getD i default=o:=by rw [Array.getD_eq_getD_getElem?,ha];rfl
    rw [hd] at he hg hw
    exact ⟨λhq hs=>hl_call o v ha hw hs (λw=>congrFun he w) hc (hg.go hq hs)⟩
 |_=>exact (ent_ne he).elim
theorem z7 {k:FuncId}{args:Array Value}{v:Value}(h:List Nat)(hc:∀ w,Own M W w (xgo P n nS h c).L->Calls P k args w (YR v w))(hg:zE M P n W Q ((xgo P n nS h c).put v))
  (hkt:(xgl P n nS h c,xEnt P n (xgo P n nS h c))=(xgr P n nS h c,(λw=> .ok (.enter k args) w)):=by kernel_rfl):zE M P n W Q c:=by
 obtain ⟨hk,he⟩:=Prod.mk.inj hkt
 exact zK h c hk (xput_call hc hg he)
theorem k7 {k:FuncId}{args:Array Value}{R:Value->List Blk->Prop}(h:List Nat)(hc:∀ w,Own M W w (xgo P n nS h c).L->Calls P k args w λe w'=>∃ v ob,e= .returned v/\R v ob/\Own [] w w' ob)
  (hg:∀ v ob,R v ob->zE M P n W Q (xAdd ((xgo P n nS h c).put v) ob)) (hkt:(xgl P n nS h c,((xgo P n nS h c).top,zR (xA (xgo P n nS h c)) n (xgo P n nS h c).f (xO (xgo P n nS h c))))=(xgr P n nS h c,(.ops (xA (xgo P n nS h c)) (xO (xgo P n nS h c)::xT (xgo P n nS h c)),true)):=by kernel_rfl)
  (he:xEnt P n (xgo P n nS h c)=(λw=> .ok (.enter k args) w):=by kernel_rfl):zE M P n W Q c:=by
 obtain ⟨hk,ht⟩:=Prod.mk.inj hkt
 refine zK h c hk ?_
 generalize xgo P n nS h c=d at hc hg ht he ⊢
 obtain ⟨top,kk,L,f⟩:=d
 generalize hA:xA ⟨top,kk,L,f⟩=a at ht
 generalize hO:xO ⟨top,kk,L,f⟩=o at ht
 generalize hT:xT ⟨top,kk,L,f⟩=r at ht
 simp only [Prod.mk.injEq] at ht
 obtain ⟨rfl,hw⟩:=ht
 have hg':∀ v ob,R v ob->zE M P n W Q ⟨.ops a r,kk,L++ob,upd f o.dst v⟩:=hg
 simp only [xEnt,hw,cond_true] at he
 refine ⟨λhq=>s_callx (λv L'=>∃ ob,L'=L++ob/\R v ob) hw (λw=>congrFun he w) (λw hO=>((hc w hO).mono λe w' ⟨v,ob,e1,e2,e3⟩=>⟨v,L++ob,e1,⟨ob,rfl,e2⟩,(Own.joinN hO e3).perm List.perm_append_comm⟩)) ?_⟩
 rintro v L' ⟨ob,rfl,hR⟩
 exact (hg' v ob hR).go hq
def xW0 (n:Nat)(c:Xc):Bool:=match c.top with
 | .ops a (o::_)=>zR a n c.f o
 | .hst a _ _ _ i=>zR a n c.f (a.getD i default) && decide (i<a.size)
 |_=>false
theorem bD {k:FuncId}{args:Array Value}{R:Value->Prop}(h:List Nat)(hc:∀ w,Own M W w (xgo P n nS h c).L->Calls P k args w λe w'=>∃ v,e= .returned v/\R v/\YB w w')(hg:∀ v,R v->zE M P n W Q ((xgo P n nS h c).put v))
  (hkt:(xgl P n nS h c,xW0 n (xgo P n nS h c),xEnt P n (xgo P n nS h c))=(xgr P n nS h c,true,λw=> .ok (.enter k args) w):=by kernel_rfl):zE M P n W Q c:=by
 simp only [Prod.mk.injEq] at hkt
 obtain ⟨hk,e1,e2⟩:=hkt
 refine zK h c hk ?_
 generalize xgo P n nS h c=d at*
 obtain ⟨top,kk,L,f⟩:=d
 unfold xW0 at e1
 unfold xEnt at e2
 cases top with
 |ops a r=>cases r with
  |nil=>cases e1
  |cons o r=>
   dsimp only at e1 e2
   rw [e1] at e2
   have hg':∀ v,R v->zE M P n W Q ⟨.ops a r,kk,L,upd f o.dst v⟩:=hg
   refine ⟨λhq=>s_callx (λv L'=>L'=L/\R v) e1 (λw=>congrFun e2 w) (λw hO=>(hc w hO).mono λe w' ⟨v,q1,q2,q3⟩=>⟨v,L,q1,⟨rfl,q2⟩,hO.on q3⟩) ?_⟩
   rintro v L' ⟨rfl,hR⟩
   exact (hg' v hR).go hq
 |hst a s u L0 i=>
  dsimp only at e1 e2
  rw [Bool.and_eq_true] at e1
  obtain ⟨hw,hi⟩:=e1
  have hi':i<a.size:=of_decide_eq_true hi
  rw [hw] at e2
  have hd:a[i]?=some (a.getD i default):=by rw [Array.getElem?_eq_getElem hi'];simp [Array.getD,hi']
  have hg':∀ v,R v->zE M P n W Q ⟨.hps a (s.setIfInBounds i true) u L0,kk,L,upd f (a.getD i default).dst v⟩:=hg
  refine ⟨λhq hs=>hl_callx (a.getD i default) (λv L'=>L'=L/\R v) hd hw (λw=>congrFun e2 w) (λw hO=>(hc w hO).mono λe w' ⟨v,q1,q2,q3⟩=>⟨v,L,q1,⟨rfl,q2⟩,hO.on q3⟩) (λv L' ⟨e,_⟩ w hO=>by subst e;exact hs w hO) ?_⟩
  rintro v L' ⟨rfl,hR⟩
  exact (hg' v hR).go hq hs
 |_=>cases e1
theorem mW (t:Nat)(h:List Nat)(v:Value)(hv:(xgo P n t h c).f t=v)(hg:zE M P n W Q ((xgo P n t h c).st t v))(hk:xgl P n t h c=xgr P n t h c:=by kernel_rfl):zE M P n W Q c:=by
 refine zK h c hk ?_
 unfold Xc.st at hg
 rw [←fE hv] at hg
 exact hg
theorem zG (t:Nat)(h:List Nat)(p:Prop)[Decidable p](h1:p->zE M P n W Q ((xgo P n t h c).st t (.bool true)))(h2:¬ p->zE M P n W Q ((xgo P n t h c).st t (.bool false)))
  (hkt:(xgl P n t h c,(xgo P n t h c).f t)=(xgr P n t h c,.bool (decide p)):=by kernel_rfl):zE M P n W Q c:=by
 obtain ⟨hk,hv⟩:=Prod.mk.inj hkt
 by_cases hp:p
 ·exact mW t h _ (hv.trans (by rw [decide_eq_true hp])) (h1 hp) hk
 ·exact mW t h _ (hv.trans (by rw [decide_eq_false hp])) (h2 hp) hk
theorem vK (t:Nat)(h:List Nat)(p:Prop)[Decidable p](h1:p->zE M P n W Q ((xgo P n t h c).st t (.bool false)))(h2:¬ p->zE M P n W Q ((xgo P n t h c).st t (.bool true)))
  (hkt:(xgl P n t h c,(xgo P n t h c).f t)=(xgr P n t h c,.bool (!decide p)):=by kernel_rfl):zE M P n W Q c:=by
 obtain ⟨hk,hv⟩:=Prod.mk.inj hkt
 by_cases hp:p
 ·exact mW t h _ (hv.trans (by rw [decide_eq_true hp];rfl)) (h1 hp) hk
 ·exact mW t h _ (hv.trans (by rw [decide_eq_false hp];rfl)) (h2 hp) hk
theorem pQ (t:Nat)(h:List Nat)(b:Bool)(h1:b=true->zE M P n W Q ((xgo P n t h c).st t (.bool true)))(h2:b=false->zE M P n W Q ((xgo P n t h c).st t (.bool false)))
  (hkt:(xgl P n t h c,(xgo P n t h c).f t)=(xgr P n t h c,.bool b):=by kernel_rfl):zE M P n W Q c:=by
 obtain ⟨hk,hv⟩:=Prod.mk.inj hkt
 cases b with
 |true=>exact mW t h _ hv (h1 rfl) hk
 |false=>exact mW t h _ hv (h2 rfl) hk
theorem x_sum {k:IntKind}(t:Nat)(h:List Nat)(z:Int)(hz:k.wrap z=z)(hg:zE M P n W Q ((xgo P n t h c).st t (.int k z)))
  (hkt:(xgl P n t h c,(xgo P n t h c).f t)=(xgr P n t h c,.int k (k.wrap z)):=by kernel_rfl):zE M P n W Q c:=by
 obtain ⟨hk,hv⟩:=Prod.mk.inj hkt
 exact mW t h _ (hv.trans (by rw [hz])) hg hk
theorem zV (h:List Nat)(L':List Blk)(hs:∀ w,Own M W w (xgo P n nS h c).L->Own M W w L')(hg:zE M P n W Q {xgo P n nS h c with L:=L'})(hk:xgl P n nS h c=xgr P n nS h c:=by kernel_rfl)(hqq:xQ (xgo P n nS h c)=false:=by kernel_rfl):zE M P n W Q c:=by
 refine zK h c hk ?_
 generalize xgo P n nS h c=d at hs hg hqq ⊢
 obtain ⟨top,kk,L,f⟩:=d
 cases top with
 |ops a r=>exact ⟨λhq=>s_take hs (hg.go hq)⟩
 |code x=>exact ⟨λhq=>ok_take hs (hg.go hq)⟩
 |fin e=>exact ⟨λhq=>fin_take hs (hg.go hq)⟩
 |_=>cases hqq
theorem zQ (h:List Nat)(hg:∀ b,zE M P n W Q (xNew (xgo P n nS h c) ⟨b,(xZ P (xO (xgo P n nS h c))).cells,xTy (xO (xgo P n nS h c))⟩))(hkt:(xgl P n nS h c,((xgo P n nS h c).top,zR (xA (xgo P n nS h c)) n (xgo P n nS h c).f (xO (xgo P n nS h c)),(xO (xgo P n nS h c)).op,(P.info? (xTy (xO (xgo P n nS h c)))).map (·.zero)))=(xgr P n nS h c,(.ops (xA (xgo P n nS h c)) (xO (xgo P n nS h c)::xT (xgo P n nS h c)),true,.alloc (xTy (xO (xgo P n nS h c))),some (some (xZ P (xO (xgo P n nS h c)))))):=by kernel_rfl):zE M P n W Q c:=by
 obtain ⟨hk,ht⟩:=Prod.mk.inj hkt
 refine zK h c hk ?_
 generalize xgo P n nS h c=d at hg ht ⊢
 simp only [Prod.mk.injEq] at ht
 obtain ⟨e1,e2,e3,e4⟩:=ht
 have key:=λhq=>s_alloc_at (M:=M) (W:=W) (Q:=KQ M P n W Q d.k) (rest:=xT d) (L:=d.L) _ e2 e3 e4 λb=>(hg b).go hq
 have:d=⟨.ops (xA d) (xO d::xT d),d.k,d.L,d.f⟩:=by rw [←e1]
 rw [this]
 exact ⟨key⟩
theorem x1 (h:List Nat)(hg:∀ b,zE M P n W Q (xNew (xgo P n nS h c) ⟨b,(xX n (xgo P n nS h c).f (xO (xgo P n nS h c))).cells,xTy (xO (xgo P n nS h c))⟩))
  (hkt:(xgl P n nS h c,(xgo P n nS h c).top,zR (xA (xgo P n nS h c)) n (xgo P n nS h c).f (xO (xgo P n nS h c)),(xO (xgo P n nS h c)).op)
   =(xgr P n nS h c,.ops (xA (xgo P n nS h c)) (xO (xgo P n nS h c)::xT (xgo P n nS h c)),true,.box (xTy (xO (xgo P n nS h c))) (xBx (xO (xgo P n nS h c)))):=by kernel_rfl):zE M P n W Q c:=by
 simp only [Prod.mk.injEq] at hkt
 obtain ⟨hk,e1,e2,e3⟩:=hkt
 refine zK h c hk ?_
 generalize xgo P n nS h c=d at*
 have hx:xX n d.f (xO d)=ev n d.f (xBx (xO d)):=by unfold xX;rw [e3]
 rw [hx] at hg
 have key:=λhq=>s_box (M:=M) (W:=W) (Q:=KQ M P n W Q d.k) (rest:=xT d) (L:=d.L) (ev n d.f (xBx (xO d))) e2 e3 rfl λb=>(hg b).go hq
 have:d=⟨.ops (xA d) (xO d::xT d),d.k,d.L,d.f⟩:=by rw [←e1]
 rw [this]
 exact ⟨key⟩
def xDr (c:Xc):Array Oper:=match xC c with
 | .region _ a true=>a
 |_=> #[]
def xId (c:Xc):Nat:=match xC c with
 | .region i _ _=>i
 |_=>0
theorem dS (m:Nat)(h:List Nat)(hg:zE M P n W Q ⟨.hps ((xDr (xgo P n nS h c)).toList.take m).toArray (Array.replicate m false) m (xgo P n nS h c).L,.tl (xDr (xgo P n nS h c)) ((xDr (xgo P n nS h c)).toList.drop m)::(xgo P n nS h c).k,(xgo P n nS h c).L,(xgo P n nS h c).f⟩)
  (hkt:(xgl P n nS h c,(xgo P n nS h c).top,P.follows .mixedOrders,preB .any (xDr (xgo P n nS h c)).toList m)=(xgr P n nS h c,.code (.region (xId (xgo P n nS h c)) (xDr (xgo P n nS h c)) true),true,true):=by kernel_rfl):zE M P n W Q c:=by
 simp only [Prod.mk.injEq] at hkt
 obtain ⟨hk,e1,e2,e3⟩:=hkt
 refine zK h c hk ?_
 generalize xgo P n nS h c=d at hg e1 e3 ⊢
 generalize xDr d=a at hg e1 e3
 obtain ⟨l,rfl⟩:∃ l:List Oper,a=l.toArray:=⟨a.toList,by simp⟩
 have:d=⟨.code (.region (xId d) l.toArray true),d.k,d.L,d.f⟩:=by rw [←e1]
 rw [this]
 have hg':zE M P n W Q ⟨.hps (l.take m).toArray (Array.replicate m false) m d.L,.tl l.toArray (l.drop m)::d.k,d.L,d.f⟩:=by simpa using hg
 exact ⟨λhq=>ok_drawh m d.L e2 (by simpa using e3) (hg'.go hq λ_ h=>h)⟩
theorem kS (m:Nat)(h:List Nat)(L0:List Blk)(hs:∀ w,Own M W w (xgo P n nS h c).L->Own M W w L0)(hg:zE M P n W Q ⟨.hps ((xDr (xgo P n nS h c)).toList.take m).toArray (Array.replicate m false) m L0,.tl (xDr (xgo P n nS h c)) ((xDr (xgo P n nS h c)).toList.drop m)::(xgo P n nS h c).k,(xgo P n nS h c).L,(xgo P n nS h c).f⟩)
  (hkt:(xgl P n nS h c,(xgo P n nS h c).top,P.follows .mixedOrders,preB .any (xDr (xgo P n nS h c)).toList m)=(xgr P n nS h c,.code (.region (xId (xgo P n nS h c)) (xDr (xgo P n nS h c)) true),true,true):=by kernel_rfl):zE M P n W Q c:=by
 simp only [Prod.mk.injEq] at hkt
 obtain ⟨hk,e1,e2,e3⟩:=hkt
 refine zK h c hk ?_
 generalize xgo P n nS h c=d at hs hg e1 e3 ⊢
 generalize xDr d=a at hg e1 e3
 obtain ⟨l,rfl⟩:∃ l:List Oper,a=l.toArray:=⟨a.toList,by simp⟩
 have:d=⟨.code (.region (xId d) l.toArray true),d.k,d.L,d.f⟩:=by rw [←e1]
 rw [this]
 have hg':zE M P n W Q ⟨.hps (l.take m).toArray (Array.replicate m false) m L0,.tl l.toArray (l.drop m)::d.k,d.L,d.f⟩:=by simpa using hg
 exact ⟨λhq=>ok_drawh m L0 e2 (by simpa using e3) (hg'.go hq hs)⟩
def xS (c:Xc):Array Bool:=match c.top with
 | .hps _ s _ _=>s
 |_=> #[]
def xU (c:Xc):Nat:=match c.top with
 | .hps _ _ u _=>u.pred
 |_=>0
def xL0 (c:Xc):List Blk:=match c.top with
 | .hps _ _ _ l=>l
 |_=>[]
def xHs (c:Xc)(i:Nat):Xc:={c with top:= .hst (xA c) (xS c) (xU c) (xL0 c) i}
theorem yJ (h:List Nat)(i:Nat)(hg:zE M P n W Q (xHs (xgo P n nS h c) i))
  (hkt:(xgl P n nS h c,(xgo P n nS h c).top,Region.ready .any (xA (xgo P n nS h c)) (xS (xgo P n nS h c)))=(xgr P n nS h c,.hps (xA (xgo P n nS h c)) (xS (xgo P n nS h c)) (xU (xgo P n nS h c)+1) (xL0 (xgo P n nS h c)),[i]):=by kernel_rfl):zE M P n W Q c:=by
 simp only [Prod.mk.injEq] at hkt
 obtain ⟨hk,e1,e2⟩:=hkt
 refine zK h c hk ?_
 generalize xgo P n nS h c=d at hg e1 e2 ⊢
 have:d=⟨.hps (xA d) (xS d) (xU d+1) (xL0 d),d.k,d.L,d.f⟩:=by rw [←e1]
 rw [this]
 exact ⟨λhq hs=>h_one i e2 (hg.go hq hs)⟩
theorem x_h2 (h:List Nat)(i j:Nat)(hg:zE M P n W Q (xHs (xgo P n nS h c) i))(hg':zE M P n W Q (xHs (xgo P n nS h c) j))
  (hkt:(xgl P n nS h c,(xgo P n nS h c).top,Region.ready .any (xA (xgo P n nS h c)) (xS (xgo P n nS h c)))=(xgr P n nS h c,.hps (xA (xgo P n nS h c)) (xS (xgo P n nS h c)) (xU (xgo P n nS h c)+1) (xL0 (xgo P n nS h c)),[i,j]):=by kernel_rfl):zE M P n W Q c:=by
 simp only [Prod.mk.injEq] at hkt
 obtain ⟨hk,e1,e2⟩:=hkt
 refine zK h c hk ?_
 generalize xgo P n nS h c=d at hg hg' e1 e2 ⊢
 have:d=⟨.hps (xA d) (xS d) (xU d+1) (xL0 d),d.k,d.L,d.f⟩:=by rw [←e1]
 rw [this]
 exact ⟨λhq hs=>h_two i j e2 (hg.go hq hs) (hg'.go hq hs)⟩
def hS (c:Xc):Array Bool:=match c.top with
 | .hst _ s _ _ _=>s
 |_=> #[]
def hU (c:Xc):Nat:=match c.top with
 | .hst _ _ u _ _=>u
 |_=>0
def hL (c:Xc):List Blk:=match c.top with
 | .hst _ _ _ l _=>l
 |_=>[]
def hI (c:Xc):Nat:=match c.top with
 | .hst _ _ _ _ i=>i
 |_=>0
def hNew (c:Xc)(x:Blk)(v:Value):Xc:=⟨.hps (xA c) ((hS c).setIfInBounds (hI c) true) (hU c) (hL c),c.k,x::c.L,upd c.f (xO c).dst v⟩
theorem Own.left {L ob:List Blk}{w:World}(h:Own M W w (L++ob)):Own M W w L:=Own.sub ob (h.perm List.perm_append_comm)
theorem xh_alloc (hg:∀ b,zE M P n W Q (hNew c ⟨b,(xZ P (xO c)).cells,xTy (xO c)⟩ (.pointer (some ⟨b,0,none⟩))))
  (hkt:(c.top,(xA c)[hI c]?,zR (xA c) n c.f (xO c),(xO c).op,(P.info? (xTy (xO c))).map (·.zero))=(.hst (xA c) (hS c) (hU c) (hL c) (hI c),some (xO c),true,.alloc (xTy (xO c)),some (some (xZ P (xO c)))):=by kernel_rfl):zE M P n W Q c:=by
 simp only [Prod.mk.injEq] at hkt
 obtain ⟨e1,e2,e3,e4,e5⟩:=hkt
 have:c=⟨.hst (xA c) (hS c) (hU c) (hL c) (hI c),c.k,c.L,c.f⟩:=by rw [←e1]
 rw [this]
 refine ⟨λhq hs=>hl_step (xO c) e2 e3 (λ_ _ _=>True) λw hO=> ?_⟩
 cases hi:P.info? (xTy (xO c)) with
 |none=>rw [hi] at e5;cases e5
 |some i=>
  rw [hi] at e5
  have hz:i.zero=some (xZ P (xO c)):=Option.some.inj e5
  refine kA (Zp w.heap.size 0) (w':=w.alloc (.cells (xZ P (xO c)).cells (xTy (xO c)))) ?_ ⟨_,_,rfl,hO.alloc _ _,hs _ (Own.sub [_] (hO.alloc _ _)),(hg w.heap.size).go hq λw hO=>hs w (Own.sub [_] hO)⟩
  unfold execOp
  simp [e4,Instr.alloc,zeroValue,typeInfo,hi,hz,newVar,newRow,Sem.run_bind]
theorem gZ (len:Nat)(T:TypeId)(cs:Array Value)(hg:∀ b,zE M P n W Q (hNew c ⟨b,cs,T⟩ (.slice (some ⟨b,0,none⟩) len len)))
  (hkt:(c.top,(xA c)[hI c]?,zR (xA c) n c.f (xO c),λw=>(execOp (ev n c.f) (xO c)).run P w)=(.hst (xA c) (hS c) (hU c) (hL c) (hI c),some (xO c),true,λw=> .ok (.value (.slice (some ⟨w.heap.size,0,none⟩) len len)) (w.alloc (.cells cs T))):=by kernel_rfl):zE M P n W Q c:=by
 simp only [Prod.mk.injEq] at hkt
 obtain ⟨e1,e2,e3,e4⟩:=hkt
 have:c=⟨.hst (xA c) (hS c) (hU c) (hL c) (hI c),c.k,c.L,c.f⟩:=by rw [←e1]
 rw [this]
 exact ⟨λhq hs=>hl_step (xO c) e2 e3 (λ_ _ _=>True) λw hO=>kA _ (congrFun e4 w) ⟨_,_,rfl,hO.alloc _ _,hs _ (Own.sub [_] (hO.alloc _ _)),(hg w.heap.size).go hq λw hO=>hs w (Own.sub [_] hO)⟩⟩
theorem jT (h:List Nat)(len:Nat)(T:TypeId)(cs:Array Value)(hg:∀ b,zE M P n W Q ⟨.ops (xA (xgo P n nS h c)) (xT (xgo P n nS h c)),(xgo P n nS h c).k,⟨b,cs,T⟩::(xgo P n nS h c).L,upd (xgo P n nS h c).f (xO (xgo P n nS h c)).dst (.slice (some ⟨b,0,none⟩) len len)⟩)
  (hkt:(xgl P n nS h c,(xgo P n nS h c).top,zR (xA (xgo P n nS h c)) n (xgo P n nS h c).f (xO (xgo P n nS h c)),λw=>(execOp (ev n (xgo P n nS h c).f) (xO (xgo P n nS h c))).run P w)
   =(xgr P n nS h c,.ops (xA (xgo P n nS h c)) (xO (xgo P n nS h c)::xT (xgo P n nS h c)),true,λw=> .ok (.value (.slice (some ⟨w.heap.size,0,none⟩) len len)) (w.alloc (.cells cs T))):=by kernel_rfl):zE M P n W Q c:=by
 simp only [Prod.mk.injEq] at hkt
 obtain ⟨hk,e1,e3,e4⟩:=hkt
 refine zK h c hk ?_
 generalize xgo P n nS h c=d at*
 have:d=⟨.ops (xA d) (xO d::xT d),d.k,d.L,d.f⟩:=by rw [←e1]
 rw [this]
 exact ⟨λhq=>gM e3 λw hO=>kA _ (congrFun e4 w) (((hg w.heap.size).go hq).go _ (hO.alloc _ _))⟩
theorem qE {k:FuncId}{args:Array Value}{R:Value->List Blk->Prop}(hc:∀ w,Own M W w c.L->Calls P k args w λe w'=>∃ v ob,e= .returned v/\R v ob/\Own [] w w' ob)
  (hg:∀ v ob,R v ob->zE M P n W Q (xAdd (c.put v) ob))
  (hkt:(c.top,(xA c)[hI c]?,zR (xA c) n c.f (xO c),λw=>(execOp (ev n c.f) (xO c)).run P w)=(.hst (xA c) (hS c) (hU c) (hL c) (hI c),some (xO c),true,λw=> .ok (.enter k args) w):=by kernel_rfl):zE M P n W Q c:=by
 simp only [Prod.mk.injEq] at hkt
 obtain ⟨e1,e2,e3,e4⟩:=hkt
 have hc':c=⟨.hst (xA c) (hS c) (hU c) (hL c) (hI c),c.k,c.L,c.f⟩:=by rw [←e1]
 have hg':∀ v ob,R v ob->zE M P n W Q ⟨.hps (xA c) ((hS c).setIfInBounds (hI c) true) (hU c) (hL c),c.k,c.L++ob,upd c.f (xO c).dst v⟩:=λv ob h=>by
  have hp:xAdd (c.put v) ob=⟨.hps (xA c) ((hS c).setIfInBounds (hI c) true) (hU c) (hL c),c.k,c.L++ob,upd c.f (xO c).dst v⟩:=by
   have ho:xO c=(xA c).getD (hI c) default:=by unfold xO;rw [e1]
   unfold Xc.put
   rw [e1,ho]
   rfl
  rw [←hp];exact hg v ob h
 rw [hc']
 refine ⟨λhq hs=>hl_callx (xO c) (λv L'=>∃ ob,L'=c.L++ob/\R v ob) e2 e3 (λw=>congrFun e4 w) (λw hO=>((hc w hO).mono λe w' ⟨v,ob,q1,q2,q3⟩=>⟨v,c.L++ob,q1,⟨ob,rfl,q2⟩,(Own.joinN hO q3).perm List.perm_append_comm⟩)) (λv L' ⟨ob,e,_⟩ w hO=>by subst e;exact hs w hO.left) ?_⟩
 rintro v L' ⟨ob,rfl,hR⟩
 exact (hg' v ob hR).go hq λw hO=>hs w hO.left
def xV (f:Nat->Value)(l:List (Nat×Value)):List Value:=l.map λp=>f p.1
theorem kV {f:Nat->Value}:∀ {l:List (Nat×Value)},xV f l=l.map Prod.snd->Agrees f l
 | [],_=>trivial
 |p::r,h=>⟨(List.cons.inj h).1,kV (List.cons.inj h).2⟩
def xJ {α:Type}(lv:α->List (Nat×Value))(Lf:α->List Blk)(rel:α->Prop):List Blk->(Nat->Value)->Prop:=λL f=>∃ x,rel x/\L=Lf x/\Agrees f (lv x)
def Nj (M:List Nat)(P:Program)(n:Nat)(W:World){α:Type}(lv:α->List (Nat×Value))(Lf:α->List Blk)(rel:α->Prop):Prop:=
 ∀ (x':α) (h:List Nat) {c':Xc},rel x'->(xgl P n nS h c',(xgo P n nS h c').top,(xgo P n nS h c').k,(xgo P n nS h c').L,xV (xgo P n nS h c').f (lv x'))=(xgr P n nS h c',.fin .normal,[],Lf x',(lv x').map Prod.snd)->zE M P n W (JoinQ M n W (xJ lv Lf rel)) c'
theorem x_join {α:Type}(lv:α->List (Nat×Value))(Lf:α->List Blk)(rel:α->Prop)(h:List Nat)(h1:Nj M P n W lv Lf rel->zE M P n W (JoinQ M n W (xJ lv Lf rel)) ⟨.code (xC (xgo P n nS h c)),[],(xgo P n nS h c).L,(xgo P n nS h c).f⟩)
  (h2:∀ x g,rel x->zE M P n W Q ⟨.fin .normal,(xgo P n nS h c).k,Lf x,jP g (lv x)⟩) (hkt:(xgl P n nS h c,(xgo P n nS h c).top)=(xgr P n nS h c,.code (xC (xgo P n nS h c))):=by kernel_rfl):zE M P n W Q c:=by
 obtain ⟨hk,e1⟩:=Prod.mk.inj hkt
 refine zK h c hk ?_
 generalize xgo P n nS h c=d at*
 have:d=⟨.code (xC d),d.k,d.L,d.f⟩:=by rw [←e1]
 rw [this]
 refine ⟨λhq=>ok_join (xJ lv Lf rel) ((h1 λx' h c' hr hkt'=> ?_).go pq_join) λL f ⟨x,hr,hL,hA⟩=> ?_⟩
 ·simp only [Prod.mk.injEq] at hkt'
  obtain ⟨hk',f1,f2,f3,f4⟩:=hkt'
  refine zK h c' hk' ?_
  generalize xgo P n nS h c'=d' at*
  have:d'=⟨.fin .normal,[],d'.L,d'.f⟩:=by rw [←f1,←f2]
  rw [this]
  exact ⟨λ_=>fin_join ⟨x',hr,f3,kV f4⟩⟩
 ·subst hL
  rw [g8 _ hA]
  exact (h2 x f hr).go hq
theorem vS {α:Type}(d0:Nat)(lv:α->List (Nat×Value))(Lf:α->List Blk)(rel:α->Prop)(h:List Nat)(h1:Nj M P n W lv Lf rel->zE M P n W (JoinQ M n W (xJ lv Lf rel)) ⟨.code (xC (xgo P n (xCt d0) h c)),[],(xgo P n (xCt d0) h c).L,(xgo P n (xCt d0) h c).f⟩)
  (h2:∀ x g,rel x->zE M P n W Q ⟨.fin .normal,(xgo P n (xCt d0) h c).k,Lf x,jP g (lv x)⟩) (hkt:(xgl P n (xCt d0) h c,(xgo P n (xCt d0) h c).top)=(xgr P n (xCt d0) h c,.code (xC (xgo P n (xCt d0) h c))):=by kernel_rfl):zE M P n W Q c:=by
 obtain ⟨hk,e1⟩:=Prod.mk.inj hkt
 refine zK h c hk ?_
 generalize xgo P n (xCt d0) h c=d at*
 have:d=⟨.code (xC d),d.k,d.L,d.f⟩:=by rw [←e1]
 rw [this]
 refine ⟨λhq=>ok_join (xJ lv Lf rel) ((h1 λx' h c' hr hkt'=> ?_).go pq_join) λL f ⟨x,hr,hL,hA⟩=> ?_⟩
 ·simp only [Prod.mk.injEq] at hkt'
  obtain ⟨hk',f1,f2,f3,f4⟩:=hkt'
  refine zK h c' hk' ?_
  generalize xgo P n nS h c'=d' at*
  have:d'=⟨.fin .normal,[],d'.L,d'.f⟩:=by rw [←f1,←f2]
  rw [this]
  exact ⟨λ_=>fin_join ⟨x',hr,f3,kV f4⟩⟩
 ·subst hL
  rw [g8 _ hA]
  exact (h2 x f hr).go hq
theorem bO (t:Nat)(p:Prop)[Decidable p](h1:p->zE M P n W Q (c.st t (.bool true)))(h2:¬ p->zE M P n W Q (c.st t (.bool false)))(hv:c.f t= .bool (decide p):=by kernel_rfl):zE M P n W Q c:=by
 by_cases hp:p
 ·have h:=h1 hp
  unfold Xc.st at h
  rw [←fE (hv.trans (by rw [decide_eq_true hp]))] at h
  exact h
 ·have h:=h2 hp
  unfold Xc.st at h
  rw [←fE (hv.trans (by rw [decide_eq_false hp]))] at h
  exact h
def xI {α:Type}(lv:α->List (Nat×Value))(Lf:α->List Blk)(rel:α->Nat->Prop):List Blk->(Nat->Value)->Nat->Prop:=λL f m=>∃ x,rel x m/\L=Lf x/\Agrees f (lv x)
def Nx (M:List Nat)(P:Program)(n:Nat)(W:World)(Q:Exit->Act->World->Prop){α:Type}(lv:α->List (Nat×Value))(Lf:α->List Blk)(rel:α->Nat->Prop)(kk:List XIt)(k:Nat):Prop:=
 ∀ (x':α) (k':Nat) (h:List Nat) {c':Xc},k'<k->rel x' k'->xgl P n nS h c'=xgr P n nS h c'->((xgo P n nS h c').top,(xgo P n nS h c').k,(xgo P n nS h c').L,xV (xgo P n nS h c').f (lv x'))=(.fin .normal,kk,Lf x',(lv x').map Prod.snd)->zE M P n W Q c'
theorem zX {α:Type}(lv:α->List (Nat×Value))(Lf:α->List Blk)(rel:α->Nat->Prop)(x0:α)(m0:Nat)(h:List Nat)(h0:rel x0 m0)
  (hg:∀ x k g kk,rel x k->Nx M P n W Q lv Lf rel (kk::(xgo P n nS h c).k) k->kk= .lp (xI lv Lf rel) k->zE M P n W Q ⟨.code (mZ (xgo P n nS h c)),.lp (xI lv Lf rel) k::(xgo P n nS h c).k,Lf x,jP g (lv x)⟩)
  (hkt:(xgl P n nS h c,((xgo P n nS h c).top,(xgo P n nS h c).L,xV (xgo P n nS h c).f (lv x0)))=(xgr P n nS h c,(.code (.loop (mZ (xgo P n nS h c))),Lf x0,(lv x0).map Prod.snd)):=by kernel_rfl):zE M P n W Q c:=by
 obtain ⟨hk,ht⟩:=Prod.mk.inj hkt
 refine zK h c hk ?_
 generalize xgo P n nS h c=d at hg ht ⊢
 simp only [Prod.mk.injEq] at ht
 obtain ⟨e1,e2,e3⟩:=ht
 have:d=⟨.code (.loop (mZ d)),d.k,d.L,d.f⟩:=by rw [←e1]
 rw [this]
 refine ⟨λhq=>ok_loop (xI lv Lf rel) m0 ⟨x0,h0,e2,kV e3⟩ λL f k ⟨x,hr,hL,hA⟩=> ?_⟩
 subst hL
 rw [g8 _ hA]
 refine (hg x k f _ hr (λx' k' h c' hlt hr' hk' ht'=>zK h c' hk' ?_) rfl).go hq
 generalize xgo P n nS h c'=d' at ht' ⊢
 simp only [Prod.mk.injEq] at ht'
 obtain ⟨f1,f2,f3,f4⟩:=ht'
 have:d'=⟨.fin .normal,.lp (xI lv Lf rel) k::d.k,d'.L,d'.f⟩:=by rw [←f1,←f2]
 rw [this]
 exact ⟨λ_=>fin_round hlt ⟨x',hr',f3,kV f4⟩⟩
theorem fin_at {kk:List XIt}{L':List Blk}{lv:List (Nat×Value)}{d:Xc}(hg:∀ g,zE M P n W Q ⟨.fin .normal,kk,L',jP g lv⟩)(e1:d.top= .fin .normal)(e2:d.k=kk)(e3:d.L=L')(e4:xV d.f lv=lv.map Prod.snd):zE M P n W Q d:=by
 have hgo:=hg d.f
 rw [←g8 _ (kV e4)] at hgo
 have:d=⟨.fin .normal,kk,L',d.f⟩:=by rw [←e1,←e2,←e3]
 rw [this]
 exact hgo
def Nex (M:List Nat)(P:Program)(n:Nat)(W:World)(Q:Exit->Act->World->Prop){β:Type}(lv:β->List (Nat×Value))(Lf:β->List Blk)(rel:β->Prop)(kk:List XIt):Prop:=
 ∀ (y:β) (h:List Nat) {c':Xc},rel y->(xgl P n (xAt (xlen kk)) h c',(xgo P n (xAt (xlen kk)) h c').top,(xgo P n (xAt (xlen kk)) h c').k,(xgo P n (xAt (xlen kk)) h c').L,xV (xgo P n (xAt (xlen kk)) h c').f (lv y))=(xgr P n (xAt (xlen kk)) h c',.fin .normal,kk,Lf y,(lv y).map Prod.snd)->zE M P n W Q c'
theorem x_loopE {α β:Type}(lv:α->List (Nat×Value))(Lf:α->List Blk)(rel:α->Nat->Prop)(x0:α)(m0:Nat)(lvE:β->List (Nat×Value))(LfE:β->List Blk)(relE:β->Prop)(h:List Nat)(h0:rel x0 m0)
  (hg:∀ x k g,rel x k->Nx M P n W Q lv Lf rel (.lp (xI lv Lf rel) k::(xgo P n nS h c).k) k->Nex M P n W Q lvE LfE relE (xgo P n nS h c).k.tail->zE M P n W Q ⟨.code (mZ (xgo P n nS h c)),.lp (xI lv Lf rel) k::(xgo P n nS h c).k,Lf x,jP g (lv x)⟩)
  (he:∀ y g,relE y->zE M P n W Q ⟨.fin .normal,(xgo P n nS h c).k.tail,LfE y,jP g (lvE y)⟩)
  (hkt:(xgl P n nS h c,(xgo P n nS h c).top,(xgo P n nS h c).L,xV (xgo P n nS h c).f (lv x0))=(xgr P n nS h c,.code (.loop (mZ (xgo P n nS h c))),Lf x0,(lv x0).map Prod.snd):=by kernel_rfl):zE M P n W Q c:=by
 refine zX lv Lf rel x0 m0 h h0 (λx k g kk hr nx hkk=> ?_) hkt
 subst hkk
 refine hg x k g hr nx λy h' c' hy hkt'=> ?_
 simp only [Prod.mk.injEq] at hkt'
 obtain ⟨hk,e1,e2,e3,e4⟩:=hkt'
 exact zK h' c' hk (fin_at (λg=>he y g hy) e1 e2 e3 e4)
theorem x_rounds (m:Nat)(h:List Nat)(hg:zE M P n W Q ⟨.code (mZ (xgo P n nS h c)),.rd (mZ (xgo P n nS h c)) m::(xgo P n nS h c).k,(xgo P n nS h c).L,(xgo P n nS h c).f⟩)
  (hkt:(xgl P n nS h c,(xgo P n nS h c).top)=(xgr P n nS h c,.code (.loop (mZ (xgo P n nS h c)))):=by kernel_rfl):zE M P n W Q c:=by
 obtain ⟨hk,e1⟩:=Prod.mk.inj hkt
 refine zK h c hk ?_
 generalize xgo P n nS h c=d at*
 have:d=⟨.code (.loop (mZ d)),d.k,d.L,d.f⟩:=by rw [←e1]
 rw [this]
 exact ⟨λhq=>⟨λw hO=>wp_loop_rounds (m+1) ((hg.go hq).go w hO)⟩⟩
theorem zF {k:FuncId}{fn:Func}{args:Array Value}{R:Ending->World->Prop}(hf:P.funcs[k]?=some fn)(hg:zE [] P fn.ntmps W (bodyPost P fn R) ⟨.code (fn.body.getD .skip),[],[],λt=>args.getD t undef⟩)
  (hb:fn.body.isSome=true:=by kernel_rfl) (hle:Nat.ble args.size fn.ntmps=true:=by kernel_rfl):Calls P k args W R:=by
 cases hb':fn.body with
 |none=>rw [hb'] at hb;cases hb
 |some b=>rw [hb'] at hg;exact calls_ok hf hb' rfl hle (hg.go pq_body)
def xRt (fn:Func)(i:Nat):Tmp:=match fn.results[i]? with
 |some (.tmp t)=>t
 |some (.cell t _)=>t
 |_=>0
def xRy (fn:Func)(i:Nat):TypeId:=match fn.results[i]? with
 |some (.cell _ y)=>y
 |_=>0
theorem z8 {fn:Func}{R:Ending->World->Prop}(h:List Nat)(v:Value)(hR:∀ w,Own M W w (xgo P n nS h c).L->R (.returned v) w)(hkt:(xgl P n nS h c,((xgo P n nS h c).top,(xgo P n nS h c).k,fn.results,ev n (xgo P n nS h c).f (.tmp (xRt fn 0))))=(xgr P n nS h c,(.fin .ret,[], #[.tmp (xRt fn 0)],v)):=by kernel_rfl):zE M P n W (bodyPost P fn R) c:=by
 obtain ⟨hk,ht⟩:=Prod.mk.inj hkt
 refine zK h c hk ?_
 generalize xgo P n nS h c=d at hR ht ⊢
 obtain ⟨top,kk,L,f⟩:=d
 simp only [Prod.mk.injEq] at ht
 obtain ⟨rfl,rfl,e3,e4⟩:=ht
 exact ⟨λ_=>fin_ret v e3 e4 hR⟩
theorem yG {fn:Func}{R:Ending->World->Prop}(h:List Nat)(v v':Value)(hR:∀ w,Own M W w (xgo P n nS h c).L->R (.returned (.tuple #[v,v'])) w)(hkt:(xgl P n nS h c,((xgo P n nS h c).top,(xgo P n nS h c).k,fn.results,ev n (xgo P n nS h c).f (.tmp (xRt fn 0)),ev n (xgo P n nS h c).f (.tmp (xRt fn 1))))=(xgr P n nS h c,(.fin .ret,[], #[.tmp (xRt fn 0),.tmp (xRt fn 1)],v,v')):=by kernel_rfl):zE M P n W (bodyPost P fn R) c:=by
 obtain ⟨hk,ht⟩:=Prod.mk.inj hkt
 refine zK h c hk ?_
 generalize xgo P n nS h c=d at hR ht ⊢
 obtain ⟨top,kk,L,f⟩:=d
 simp only [Prod.mk.injEq] at ht
 obtain ⟨rfl,rfl,e3,e4,e5⟩:=ht
 exact ⟨λ_=>fin_ret2 v v' e3 e4 e5 hR⟩
theorem dR {fn:Func}{R:Ending->World->Prop}(h:List Nat)(i:Nat)(v:Value)(hR:∀ w,Own M W w (xgo P n nS h c).L->R (.returned v) w)(hkt:(xgl P n nS h c,((xgo P n nS h c).top,(xgo P n nS h c).k,fn.results,(xgo P n nS h c).L[i]?,ev n (xgo P n nS h c).f (.tmp (xRt fn 0)),yS P (xRy fn 0) (qG (xgo P n nS h c).L i).cs 0))=(xgr P n nS h c,(.fin .ret,[], #[.cell (xRt fn 0) (xRy fn 0)],some (qG (xgo P n nS h c).L i),.pointer (some ⟨(qG (xgo P n nS h c).L i).b,0,none⟩),some v)):=by kernel_rfl):zE M P n W (bodyPost P fn R) c:=by
 obtain ⟨hk,ht⟩:=Prod.mk.inj hkt
 refine zK h c hk ?_
 generalize xgo P n nS h c=d at hR ht ⊢
 obtain ⟨top,kk,L,f⟩:=d
 simp only [Prod.mk.injEq] at ht
 obtain ⟨rfl,rfl,e3,e4,e5,e6⟩:=ht
 exact ⟨λ_=>fin_cell i _ v e3 e4 e5 e6 hR⟩
end
end
section
section
variable {M:List Nat}{P:Program}{n:Nat}{ops:Array Oper}{W:World}{L0:List Blk}{Q:Exit->Act->World->Prop}{fuel:Nat}{listed:Array Bool}{L:List Blk}{f:Nat->Value}
end
end
section
theorem mk_take (s:YL)(j:Nat):(mkS s).extract 0 j=mkS (s.take j):=by rw [wI,mk_data];simp
theorem mk_drop (s:YL)(j:Nat):(mkS s).extract j (mkS s).size=mkS (s.drop j):=by
 rw [wI,mk_data,y7]
 congr 1
 exact List.take_of_length_le (by rw [List.length_drop];omega)
theorem run_strhi {P:Program}{ρ:Operand->Value}{o:Oper}{t:TypeId}{x z:Operand}{s:YL}{k:IntKind}{j:Int}(ho:o.op= .slice t x none (some z) none)(hx:ρ x= .string (mkS s))(hz:ρ z= .int k j)
  (hu:P.underlying t=some .string) (h0:0<=j) (h1:j<=s.length) (w:World):(execOp ρ o).run P w= .ok (.value (.string (mkS (s.take j.toNat)))) w:=by
 unfold execOp
 have h2:j<=((mkS s).size:Int):=by rw [y7];exact h1
 simp [ho,hx,hz,Instr.sliceAt,Instr.slice,Instr.sliceBounds,Instr.sliceBound,Sem.run_bind,asIntOf,run_underlying hu,h0,h2,mk_take]
theorem run_strlo {P:Program}{ρ:Operand->Value}{o:Oper}{t:TypeId}{x y:Operand}{s:YL}{k:IntKind}{j:Int}(ho:o.op= .slice t x (some y) none none)(hx:ρ x= .string (mkS s))(hy:ρ y= .int k j)
  (hu:P.underlying t=some .string) (h0:0<=j) (h1:j<=s.length) (w:World):(execOp ρ o).run P w= .ok (.value (.string (mkS (s.drop j.toNat)))) w:=by
 unfold execOp
 have h2:j<=((mkS s).size:Int):=by rw [y7];exact h1
 simp [ho,hx,hy,Instr.sliceAt,Instr.slice,Instr.sliceBounds,Instr.sliceBound,Sem.run_bind,asIntOf,run_underlying hu,h0,h2,mk_drop]
theorem mk_get (s:YL)(k:Nat)(h:k<s.length):(mkS s)[k]?=some s[k]:=by
 have h2:k<(mkS s).size:=by rw [y7];exact h
 rw [getElem?_pos (mkS s) k h2]
 congr 1
theorem run_stridx {P:Program}{ρ:Operand->Value}{o:Oper}{t:TypeId}{x y:Operand}{s:YL}{k:IntKind}{j:Int}(ho:o.op= .index t x y)(hx:ρ x= .string (mkS s))(hy:ρ y= .int k j)
  (hu:P.underlying t=some .string) (h0:0<=j) (h1:j.toNat<s.length) (w:World):(execOp ρ o).run P w= .ok (.value (.int .u8 (s[j.toNat].toNat:Int))) w:=by
 unfold execOp
 have e:=mk_get s j.toNat h1
 simp [ho,hx,hy,Instr.index,Sem.run_bind,asIntOf,run_underlying hu,h0,e]
theorem run_slhm {P:Program}{ρ:Operand->Value}{o:Oper}{t e:TypeId}{x z y:Operand}{b n c sz:Nat}{k q:IntKind}{j m:Int}(ho:o.op= .slice t x none (some z) (some y))(hx:ρ x= .slice (some ⟨b,0,none⟩) n c)(hz:ρ z= .int k j)(hy:ρ y= .int q m)
  (hu:P.underlying t=some (.slice e)) (hs:(P.info? e).map (·.size)=some sz) (h0:0<=j) (h1:j<=m) (h2:m<=c) (w:World):(execOp ρ o).run P w= .ok (.value (.slice (some ⟨b,0,none⟩) j.toNat m.toNat)) w:=by
 cases he:P.info? e with
 |none=>rw [he] at hs;cases hs
 |some i=>
  rw [he] at hs
  obtain rfl:=Option.some.inj hs
  have h3:0<=m:=Int.le_trans h0 h1
  unfold execOp
  simp [ho,hx,hz,hy,Instr.sliceAt,Instr.slice,Instr.sliceBounds,Instr.sliceBound,Sem.run_bind,asIntOf,run_underlying hu,h0,h1,h2,h3,sizeOf,typeInfo,he,yX]
  try (first|omega|(rw [if_pos Om];simp [yX]))
theorem m9 {P:Program}{ρ:Operand->Value}{o:Oper}{t t':TypeId}{x y:Operand}{a b:YL}(ho:o.op= .binOp .add t x y t')(hx:ρ x= .string (mkS a))(hy:ρ y= .string (mkS b))(hb:a.length+b.length<=4000000000)(w:World):(execOp ρ o).run P w= .ok (.value (.string (mkS (a++b)))) w:=by
 unfold execOp
 have h1:¬ (9223372036854775807:Int)<((mkS a).size:Int)+((mkS b).size:Int):=by rw [y7,y7];omega
 simp [ho,hx,hy,Sem.run_bind,eqGuard,binOp,Op.stringOp,yU,h1]
section
variable {M:List Nat}{P:Program}{n0:Nat}{ops:Array Oper}{W:World}{Q:Exit->Act->World->Prop}{rest:List Oper}{o:Oper}{L:List Blk}{f:Nat->Value}
theorem s_appendF {t T:TypeId}{s x:Operand}{i:TypeInfo}{z:Value}{sz:Nat}(hw:zR ops n0 f o=true)(ho:o.op= .call {callee:= .builtin .append,args:= #[s,x],argTypes:= #[t,t]})
  (ht:P.underlying t=some (.slice T)) (hi:P.info? T=some i) (hz:i.zero=some z) (hsz:i.size=sz) (hzs:z.cells.size=sz)
  {b:Addr} {n cap:Nat} {xs:List Value} (hs:ev n0 f s= .slice (some b) n cap) (hxl:xs.length=n*sz) (hxs:∀ w,Own M W w L→∀ j u,xs[j]?=some u->w.cell? (b.add j)=some u)
  {a:Addr} {m c:Nat} {news:List Value} (hx:ev n0 f x= .slice (some a) m c) (hl:news.length=m*sz) (hnews:∀ w,Own M W w L→∀ j u,news[j]?=some u->w.cell? (a.add j)=some u)
  (hroom:cap<n+m) (h63:n+m<=maxLen) (hbytes:(n+m)*i.bytes<=140737488355328)
  (h:∀ v' ob',Sl T sz v' (n+m) (xs++news) ob'->Seg M P n0 ops W Q rest (ob'++L) (upd f o.dst v')):Seg M P n0 ops W Q (o::rest) L f:=
 gM hw λw hO=>by
  subst hsz
  have hsmall:n+m<=9223372036854775807:=by simp only [maxLen] at h63;omega
  have hlen:(xs++news).length=(n+m)*i.size:=by rw [List.length_append,hxl,hl,Nat.add_mul]
  have hr:=run_append_grow (P:=P) w t o.type T i z ht hi hz b n cap xs hxl (hxs w hO) a m c news hl (hnews w hO) Om Om (growslice_fits Om hbytes)
  have hge:=grownCap_ge w (n+m) cap T
  have hcm:=grownCap_le_maxLen w (n+m) cap T h63
  refine kA _ (w':=_) ?_ ((h _ [⟨w.heap.size,xs.toArray++news.toArray++Builtin.zeroCells z.cells (grownCap w (n+m) cap T-(n+m)),T⟩] ⟨hlen,.inr ⟨w.heap.size,grownCap w (n+m) cap T,_,rfl,rfl,hge,hcm, ?_, ?_⟩⟩).go _ ((fU hO).alloc (xs.toArray++news.toArray++Builtin.zeroCells z.cells (grownCap w (n+m) cap T-(n+m))) T))
  ·unfold execOp
   simp only [ho,resolve,invoke,builtin,Sem.run_bind,Sem.run_pure,Result.andThen_ok,List.map_toArray,List.map_cons,List.map_nil,hs,hx,hr]
  ·simp only [Array.size_append,List.size_toArray,size_zeroCells,hzs,hxl,hl,←Nat.add_mul]
   congr 1
   omega
  ·simp only [Array.toList_append,List.append_assoc]
   rw [←List.append_assoc,←hlen]
   exact List.take_left
end
section
variable {M:List Nat}{P:Program}{n:Nat}{ops:Array Oper}{W:World}{L0:List Blk}{Q:Exit->Act->World->Prop}{fuel:Nat}{listed:Array Bool}{f:Nat->Value}
end
end
section
section
variable {M:List Nat}{P:Program}{n:Nat}{ops:Array Oper}{W:World}{L0:List Blk}{Q:Exit->Act->World->Prop}{fuel:Nat}{listed:Array Bool}{f:Nat->Value}
end
end
section
end
section
section
variable {M:List Nat}{P:Program}{n:Nat}{ops:Array Oper}{W:World}{L0:List Blk}{Q:Exit->Act->World->Prop}{fuel:Nat}{listed:Array Bool}{f:Nat->Value}
theorem x2 {L L':List Blk}{w:World}(D:List Blk)(h:Own M W w L)(e:∀ p:Blk->Bool,L.countP p=(D++L').countP p):Own M W w L':=by
 classical
 refine Own.sub D (h.perm ?_)
 rw [List.perm_iff_count]
 intro a
 exact e λx=>x==a
end
end
section
structure Fv where
 name:YL
 A:Option Addr
 of:List YL
 cap:Nat
def fvC (x:Fv):List Value:=[.string (mkS x.name),.slice x.A x.of.length x.cap]
theorem qQ (x:Fv):(fvC x).length=2:=rfl
def fvV (x:Fv):Value:= .agg #[.string (mkS x.name),.slice x.A x.of.length x.cap]
def Fv.ft (x:Fv):Ft:=⟨x.name,x.of⟩
def yC (xs:List Fv):List Ft:=xs.map Fv.ft
theorem v7 (xs:List Fv):(yC xs).length=xs.length:=List.length_map ..
theorem fR (xs:List Fv)(k:Nat):yC (xs.take k)=(yC xs).take k:=by unfold yC;rw [List.map_take]
theorem ftOf_get {xs:List Fv}{i:Nat}(hi:i<xs.length){x:Fv}(h:xs[i]=x):(yC xs)[i]'(by rw [v7];exact hi)=x.ft:=by
 unfold yC;rw [List.getElem_map,h]
structure FtIn (w:World)(B:Nat)(A:Option Addr)(xs:List Fv):Prop where
 top:Reads fvC w B A xs
 each:∀ x∈xs,Reads zW w B x.A x.of
 n:xs.length<=5000
 m:∀ x∈xs,x.of.length<=5000
 name:∀ x∈xs,x.name.length<=1048576
 text:∀ x∈xs,∀ s∈x.of,s.length<=1048576
theorem FtIn.on {w w':World}{B B':Nat}{A:Option Addr}{xs:List Fv}(h:FtIn w B A xs)(hb:Below B w w')(hB:B<=B'):FtIn w' B' A xs:=⟨h.top.on hb hB,λx hx=>(h.each x hx).on hb hB,h.n,h.m,h.name,h.text⟩
def jW (l:List Ft)(n:YL):Int:=match findT l n with
 |some i=>(i:Int)
 |none=> -1
theorem findI_at {l:List Ft}{n:YL}{i:Nat}(hi:i<l.length)(h:l[i].name=n)(h0:∀ f∈l.take i,¬ f.name=n):findT l n=some i:=by
 unfold findT
 rw [List.findIdx?_eq_some_iff_getElem]
 refine ⟨hi,decide_eq_true h,λj hj=> ?_⟩
 simpa using h0 l[j] (List.mem_take_iff_getElem.2 ⟨j,by omega,rfl⟩)
theorem findI_none {l:List Ft}{n:YL}(h0:∀ f∈l,¬ f.name=n):findT l n=none:=by
 unfold findT
 rw [List.findIdx?_eq_none_iff]
 exact λx hx=>decide_eq_false (h0 x hx)
theorem fT {l:List Ft}{n:YL}:isT l n=(decide (n=dfl)||decide (0<=jW l n)):=by
 unfold isT jW
 cases findT l n<;>simp
theorem run_strlss {P:Program}{ρ:Operand->Value}{o:Oper}{t t':TypeId}{x y:Operand}{a b:YL}{r:Bool}(ho:o.op= .binOp .lss t x y t')(hx:ρ x= .string (mkS a))(hy:ρ y= .string (mkS b))(h:Op.bytesLess a b=r)(w:World):(execOp ρ o).run P w= .ok (.value (.bool r)) w:=by
 have e:binOp .lss t (.string (mkS a)) (.string (mkS b))=pure (.bool (Op.bytesLess a b)):=by
  have:binOp .lss t (.string (mkS a)) (.string (mkS b))=pure (.bool (Op.bytesLess (mkS a).toList (mkS b).toList)):=by simp [binOp,Op.stringOp]
  rw [this,Lib.toList_data,Lib.toList_data,mk_data,mk_data]
 unfold execOp
 simp only [ho,hx,hy,Sem.run_bind,fQ,Result.andThen_ok,e,Sem.run_pure,h]
theorem run_strgeq {P:Program}{ρ:Operand->Value}{o:Oper}{t t':TypeId}{x y:Operand}{a b:YL}{r:Bool}(ho:o.op= .binOp .geq t x y t')(hx:ρ x= .string (mkS a))(hy:ρ y= .string (mkS b))(h:Op.bytesLess a b=r)(w:World):(execOp ρ o).run P w= .ok (.value (.bool (!r))) w:=by
 have e:binOp .geq t (.string (mkS a)) (.string (mkS b))=pure (.bool (!Op.bytesLess a b)):=by
  have:binOp .geq t (.string (mkS a)) (.string (mkS b))=pure (.bool (!Op.bytesLess (mkS a).toList (mkS b).toList)):=by simp [binOp,Op.stringOp]
  rw [this,Lib.toList_data,Lib.toList_data,mk_data,mk_data]
 unfold execOp
 simp only [ho,hx,hy,Sem.run_bind,fQ,Result.andThen_ok,e,Sem.run_pure,h]
end
section
def plc (v n:Int):Int:=if v.tmod n<0 then v.tmod n+n else v.tmod n
theorem tmod_in (v n:Int)(hn:0<n): -n<v.tmod n/\v.tmod n<n:=by
 rcases Int.lt_or_le v 0 with h|h
 ·have h3:=Int.tmod_lt_of_pos (-v) hn
  have h4:=Int.tmod_nonneg n (show 0<= -v by omega)
  rw [Int.neg_tmod] at h3 h4;omega
 ·have h3:=Int.tmod_lt_of_pos v hn
  have h4:=Int.tmod_nonneg n h
  omega
theorem plc_in (v n:Int)(hn:0<n):0<=plc v n/\plc v n<n:=by
 obtain ⟨h1,h2⟩:=tmod_in v n hn
 unfold plc
 split<;>omega
theorem fK (v n:Int)(w:World)(hn:0<n)(hn2:n<=1048576):
  YC 16 #[YI v,YI n] w λe w'=>e= .returned (YI (plc v n))/\w=w':=by
 obtain ⟨h1,h2⟩:=tmod_in v n hn
 have HP:Hid (plc v n=if v.tmod n<0 then v.tmod n+n else v.tmod n):=rfl
 have hn0:(n==0)=false:=by simp;omega
 have hw:IntKind.i64.wrap (v.tmod n)=v.tmod n:=IntWalk.i64_in _ Om
 obtain ⟨m,hm⟩:∃ m,v.tmod n=m:=⟨_,rfl⟩
 rw [hm] at h1 h2 HP hw
 by_cases h0:m<0
 ·have hs:0<=m+n:=by omega
  have hs2:m+n<=1048576:=by omega
  go_enter Tryz.func16,Tryz.ntmps16
  go_wp2
  go_ret
  exact ⟨mA (by rw [HP.out,if_pos h0]),rfl⟩
 ·go_enter Tryz.func16,Tryz.ntmps16
  go_wp2
  go_ret
  exact ⟨mA (by rw [HP.out,if_neg Om]),rfl⟩
end
section
def ReadsI (w:World)(B:Nat)(v:Value)(l:List Int):Prop:=
 ∃ A cap,v= .slice A l.length cap/\(0<l.length→∃ ad:Addr,A=some ad/\ad.block<B∧∀ j (h:j<l.length),w.cell? (ad.add j)=some (YI l[j]))
theorem add_block (a:Addr)(n:Nat):(a.add n).block=a.block:=by unfold Addr.add;split<;>rfl
theorem ReadsI.below {w w':World}{B:Nat}{v:Value}{l:List Int}(h:ReadsI w B v l)(hb:Below B w w'):ReadsI w' B v l:=by
 obtain ⟨A,cap,hv,hc⟩:=h
 exact ⟨A,cap,hv,λhpos=>by
  obtain ⟨ad,hA,hlt,hcc⟩:=hc hpos
  exact ⟨ad,hA,hlt,λj hj=>(hb.cell (by rw [add_block];exact hlt)).trans (hcc j hj)⟩⟩
theorem ReadsI.more {w:World}{B B':Nat}{v:Value}{l:List Int}(h:ReadsI w B v l)(hB:B<=B'):ReadsI w B' v l:=by
 obtain ⟨A,cap,hv,hc⟩:=h
 exact ⟨A,cap,hv,λhpos=>by
  obtain ⟨ad,hA,hlt,hcc⟩:=hc hpos
  exact ⟨ad,hA,Nat.lt_of_lt_of_le hlt hB,hcc⟩⟩
def atL (l:List Int)(i:Nat):Int:=(l[i]?).getD 0
theorem at_any (v:Value)(l:List Int)(i:Nat)(w:World)(hv:ReadsI w w.heap.size v l)(hl:l.length<=9223372036854775807)(hi:i<=1048576):
  YC 57 #[v,YI i] w λe w'=>e= .returned (YI (atL l i))/\w=w':=by
 obtain ⟨A,cap,rfl,hc⟩:=hv
 by_cases h:i<l.length
 ·obtain ⟨ad,rfl,hlt,hcc⟩:=hc Om
  have hcell:=hcc i h
  have hi1:(i:Int)<l.length:=by omega
  have hi2:¬ (l.length:Int)<=i:=by omega
  have HA:Hid (atL l i=l[i]):=by show _=_;unfold atL;rw [List.getElem?_eq_getElem h];rfl
  clear hc hcc
  go_enter Tryz.func57,Tryz.ntmps57
  go_wp2
  go_ret
  exact ⟨mA HA.out.symm,rfl⟩
 ·have hi1:(l.length:Int)<=i:=by omega
  have HA:Hid (atL l i=0):=by show _=_;unfold atL;rw [List.getElem?_eq_none Om];rfl
  clear hc
  go_enter Tryz.func57,Tryz.ntmps57
  go_wp2
  go_ret
  exact ⟨mA HA.out.symm,rfl⟩
def i64in (n:Int):Prop:= -9223372036854775808<=n/\n<=9223372036854775807
theorem from_any (v:Value)(l:List Int)(i:Nat)(n:Int)(w:World)(hv:ReadsI w w.heap.size v l)(hl:l.length<=9223372036854775807)(hi:i<=1048576)(hn:0<n)(hn2:n<=1048576):
  YC 27 #[v,YI i,YI n] w λe w'=>e= .returned (YI (plc (atL l i) n))/\w=w':=by
 have cA:=at_any v l i w hv hl hi
 obtain ⟨A,cap,rfl,hc⟩:=hv
 clear hc
 go_enter Tryz.func27,Tryz.ntmps27
 go_wp2_with fail
 refine cA.mono ?_
 rintro e w1 ⟨rfl,rfl⟩
 go_wp2_with fail
 refine (fK _ n _ hn hn2).mono ?_
 rintro e w1 ⟨rfl,rfl⟩
 go_wp2
 go_ret
 exact ⟨rfl,rfl⟩
theorem xG {W:World}{v:Value}{l:List Int}(hv:ReadsI W W.heap.size v l)(hl:l.length<=9223372036854775807)(i:Nat)(n:Int)(hi:i<=1048576)(hn:0<n)(hn2:n<=1048576){k:Int}(hk:plc (atL l i) n=k):
  ∀ w,YB W w->YC 27 #[v,YI i,YI n] w (YR (YI k) w):=λw hb=>by
 have h:=from_any v l i n w ((hv.below hb).more hb.size) hl hi hn hn2
 rw [hk] at h
 exact h.mono λ_ _ ⟨e1,e2⟩=>⟨e1,e2▸Below.refl _ _⟩
theorem yO (v:Int)(n:Nat)(hn:0<n):∃ k:Nat,plc v n=(k:Int)/\k<n:=by
 have h:=plc_in v n Om
 exact ⟨(plc v n).toNat,(Int.toNat_of_nonneg h.1).symm,by omega⟩
end
section
set_option linter.unnecessarySimpa false
theorem fH {P:Program}{ρ:Operand->Value}{o:Oper}{t e:TypeId}{x y:Operand}{n k:Nat}{vals:Array Value}(g:Nat->YL)(hk:k<n)(ho:o.op= .index t x y)(hx:ρ x= .agg vals)(hy:ρ y=YI (k:Int))
  (hu:P.underlying t=some (.array n e)) (hp:∀ i,i<n→∀ w,(part e vals i).run P w= .ok (.string (mkS (g i))) w) (hs:(P.info? e).map (·.size)=some 1) (w:World):(execOp ρ o).run P w= .ok (.value (.string (mkS (g k)))) w:=by
 cases he:P.info? e with
 |none=>rw [he] at hs;cases hs
 |some i=>
  rw [he] at hs
  have hs1:i.size=1:=Option.some.inj hs
  unfold execOp
  have h2:=hp k hk
  have hkn:¬ n<=k:=by omega
  simp [ho,hx,hy,Instr.index,Sem.run_bind,asIntOf,run_underlying hu,sizeOf,typeInfo,he,hs1,h2,hk,hkn]
def gW (k:Nat):YL:=if k=0 then [120] else if k=1 then [121] else if k=2 then [122] else [119,95,49]
theorem wordT_ok (k:Nat):wdL (gW k)=true:=by
 unfold gW
 split
 ·decide
 ·split
  ·decide
  ·split<;>decide
def zN (k:Nat):YL:=if k=0 then [97,112,112] else if k=1 then [98] else if k=2 then [99] else if k=3 then [100] else [101,45,50]
theorem wP (k:Nat):nmL (zN k)=true:=by
 unfold zN
 split
 ·kernel_rfl
 ·split
  ·kernel_rfl
  ·split
   ·kernel_rfl
   ·split<;>kernel_rfl
theorem wordT_part:∀ (i:Nat),i<4→∀ w,(part 9 #[.string ⟨#[120]⟩,.string ⟨#[121]⟩,.string ⟨#[122]⟩,.string ⟨#[119,95,49]⟩] i).run YP w= .ok (.string (mkS (gW i))) w
 |0,_,w=>by kernel_rfl
 |1,_,w=>by kernel_rfl
 |2,_,w=>by kernel_rfl
 |3,_,w=>by kernel_rfl
theorem wordT_any (z:Int):∃ k,k<4∧∀ W:World,YC 84 #[YI z] W (YR (.string (mkS (gW k))) W):=by
 obtain ⟨k,hkz,hk⟩:=yO z 4 (by decide)
 refine ⟨k,hk,λW=> ?_⟩
 refine Z2 (n:=7) Tryz.func84 rfl (ZO (Zv (.string ⟨#[]⟩) (ZR (Zv (.agg #[.string ⟨#[120]⟩,.string ⟨#[121]⟩,.string ⟨#[122]⟩,.string ⟨#[119,95,49]⟩]) (Zv (YI z) (Zc (k:=16) (args:= #[YI z,YI 4]) (YI (k:Int)) (λw _=>(fK z 4 w (by decide) (by decide)).mono λ_ _ ⟨e1,e2⟩=>⟨by rw [e1,show plc z 4=(k:Int) from hkz],e2▸Below.refl _ _⟩) (s_val (.string (mkS (gW k))) Kr (fH gW hk rfl Kr Kr Tryz.underlying143 (λi hi w=>wordT_part i hi w) Kr) ?_)))))))
 exact Zv (.string (mkS (gW k))) (ZN (wX (ZF (.string (mkS (gW k))) Tryz.results84 (λw hO=>⟨rfl,hO.below⟩))))
theorem nameT_part:∀ (i:Nat),i<5→∀ w,(part 9 #[.string ⟨#[97,112,112]⟩,.string ⟨#[98]⟩,.string ⟨#[99]⟩,.string ⟨#[100]⟩,.string ⟨#[101,45,50]⟩] i).run YP w= .ok (.string (mkS (zN i))) w
 |0,_,w=>by kernel_rfl
 |1,_,w=>by kernel_rfl
 |2,_,w=>by kernel_rfl
 |3,_,w=>by kernel_rfl
 |4,_,w=>by kernel_rfl
theorem nameT_any (z:Int):∃ k,k<5∧∀ W:World,YC 28 #[YI z] W (YR (.string (mkS (zN k))) W):=by
 obtain ⟨k,hkz,hk⟩:=yO z 5 (by decide)
 refine ⟨k,hk,λW=> ?_⟩
 refine Z2 (n:=7) Tryz.func28 rfl (ZO (Zv (.string ⟨#[]⟩) (ZR (Zv (.agg #[.string ⟨#[97,112,112]⟩,.string ⟨#[98]⟩,.string ⟨#[99]⟩,.string ⟨#[100]⟩,.string ⟨#[101,45,50]⟩]) (Zv (YI z) (Zc (k:=16) (args:= #[YI z,YI 5]) (YI (k:Int)) (λw _=>(fK z 5 w (by decide) (by decide)).mono λ_ _ ⟨e1,e2⟩=>⟨by rw [e1,show plc z 5=(k:Int) from hkz],e2▸Below.refl _ _⟩) (s_val (.string (mkS (zN k))) Kr (fH zN hk rfl Kr Kr Tryz.underlying115 (λi hi w=>nameT_part i hi w) Kr) ?_)))))))
 exact Zv (.string (mkS (zN k))) (ZN (wX (ZF (.string (mkS (zN k))) Tryz.results28 (λw hO=>⟨rfl,hO.below⟩))))
end
end Go.Proofs.YtobimfnmnkegdaaGreatDoor
