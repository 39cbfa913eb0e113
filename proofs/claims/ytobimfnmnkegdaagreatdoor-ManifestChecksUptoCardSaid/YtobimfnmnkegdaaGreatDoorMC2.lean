import Derived.Lib.OthersKept
import Derived.Lib.Strings
import Derived.Lib.Slices
import Derived.Lib.Walk
import Derived.Lib.Builder
import Derived.Lib.AppendStr
import Derived.Lib.UnsafeStr
import Derived.WalkKit
import Derived.Laws.Externs
import Derived.Shelf.RegionOpenPlain
import Derived.Lib.AppendIntMem
import Derived.Lib.ItoaLen
import Derived.Lib.SliceRun
import Derived.Outline
import Derived.Lib.Small
import Derived.LoopN
import Derived.Deep.RegionHeld3
import Derived.IntWalk
import Derived.StillTailTactics
import Derived.Test.YtobimfnmnkegdaaGreatDoorMC1
set_option maxRecDepth 1000000
set_option maxHeartbeats 8000000
set_option linter.unusedVariables false
set_option linter.unusedSimpArgs false
set_option linter.unnecessarySimpa false
namespace Go.Proofs.YtobimfnmnkegdaaGreatDoor
open Go.RowKit

section
theorem numV_mk (t:YL):numV (mkS t)=zK t:=by unfold numV numB zK;rw [mk_data]
theorem numOk_mk (t:YL):numOk (mkS t)=qM t:=by unfold numOk numB qM;rw [mk_data]
theorem pB (t:YL)(b:Bool)(hb:qM t=b)(w:World)(ht:t.length<=maxLen):
  YC 156 #[.string (mkS t)] w (YR (.tuple #[YI (zK t),.bool b]) w):=by
 have:=number_any (mkS t) w (by rw [zQ];exact ht)
 rw [numV_mk,numOk_mk,hb] at this
 exact this
theorem numeric_mk (t:YL)(b:Bool)(hb:vY t=b)(w:World)(ht:t.length<=maxLen):
  YC 157 #[.string (mkS t)] w (YR (.bool b) w):=by
 have:=vnumeric_any (mkS t) w (by rw [zQ];exact ht)
 rw [mk_data,hb] at this
 exact this
theorem list_lit (s:YL)(w:World)(hs:s.length<4294967281):
  YC 112 #[.string (mkS s)] w (YR (.tuple #[.agg #[.string (mkS (tg (lst s).1 0)),.string (mkS (tg (lst s).1 1)),.string (mkS (tg (lst s).1 2)),.string (mkS (tg (lst s).1 3))],.bool (lst s).2]) w):=list_any s w hs
theorem ix_tag0 (a b c d:Value)(w:World):(Instr.index 173 (.agg #[a,b,c,d]) (YI 0)).run YP w= .ok a w:=by kernel_rfl
theorem ix_tag1 (a b c d:Value)(w:World):(Instr.index 173 (.agg #[a,b,c,d]) (YI 1)).run YP w= .ok b w:=by kernel_rfl
theorem ix_tag2 (a b c d:Value)(w:World):(Instr.index 173 (.agg #[a,b,c,d]) (YI 2)).run YP w= .ok c w:=by kernel_rfl
theorem ix_tag3 (a b c d:Value)(w:World):(Instr.index 173 (.agg #[a,b,c,d]) (YI 3)).run YP w= .ok d w:=by kernel_rfl
theorem ix_tag (l:List YL)(k:Nat)(hk:k<4)(w:World):
  (Instr.index 173 (.agg #[.string (mkS (tg l 0)),.string (mkS (tg l 1)),.string (mkS (tg l 2)),.string (mkS (tg l 3))]) (YI k)).run YP w= .ok (.string (mkS (tg l k))) w:=by
 match k,hk with
 |0,_=>exact ix_tag0 _ _ _ _ w
 |1,_=>exact ix_tag1 _ _ _ _ w
 |2,_=>exact ix_tag2 _ _ _ _ w
 |3,_=>exact ix_tag3 _ _ _ _ w
theorem all_four (l:List YL)(h4:l.length<=4)(h:∀ j,j<4->preT (tg l j)=true):l.all preT=true:=by
 rw [←tg_all preT_nil l h4,h 0 Om,h 1 Om,h 2 Om,h 3 Om];rfl
theorem not_four (l:List YL)(h4:l.length<=4)(j:Nat)(hj:j<4)(h:preT (tg l j)=false):l.all preT=false:=by
 rw [←tg_all preT_nil l h4]
 match j,hj with
 |0,_=>rw [h];rfl
 |1,_=>rw [h];simp
 |2,_=>rw [h];simp
 |3,_=>rw [h];simp
theorem mayPre_any (s:YL)(w:World)(hs:s.length<4294967281):
  YC 113 #[.string (mkS s)] w (YR (.bool (preOk s)) w):=by
 have hl4:=lst_len s
 have hl8:=tg_len s
 have hP:=preOk_lst s
 obtain ⟨L,hL⟩:∃ L,(lst s).1=L:=⟨_,rfl⟩
 obtain ⟨o,ho⟩:∃ o,(lst s).2=o:=⟨_,rfl⟩
 have cL:=list_lit s w hs
 rw [hL,ho] at cL
 rw [hL] at hl4 hl8 hP
 rw [ho] at hP
 have HP:=Lib.hid hP
 have H8:=Lib.hid hl8
 clear hP hl8 hL ho
 go_enter Tryz.func113,Tryz.ntmps113
 go_wp2_with (go_at_call 112;refine cL.mono ?_;rintro e w1 ⟨rfl,hb1⟩)
 go_loopw [15] (λv wr=>∃ k:Nat,k<=4/\v=YI k/\YB w wr/\Hid (∀ j,j<k->preT (tg L j)=true)) (λv _=>4-(intOf v).toNat)
 case atStart=>exact ⟨0,by omega,rfl,hb1.alloc hb1.size _,λj hj=>by omega⟩
 case round=>
  obtain ⟨k,hk,rfl,hbel,HR⟩:=hrel
  by_cases hk4:k<4
  ·have hki:(k:Int)<4:=by omega
   have hix:∀ w,(Instr.index 173 (.agg #[.string (mkS (tg L 0)),.string (mkS (tg L 1)),.string (mkS (tg L 2)),.string (mkS (tg L 3))]) (YI k)).run YP w= .ok (.string (mkS (tg L k))) w:=ix_tag L k hk4
   have h8:(tg L k).length<=8:=H8.out k
   have hm:(tg L k).length<=maxLen:=by unfold maxLen;omega
   cases hi:qM (tg L k) with
   |true=>
    have HI:=Lib.hid hi
    clear hi
    cases hn:vY (tg L k)
    all_goals
     have HN:=Lib.hid hn
     clear hn
     go_wp2_with (first
      |(go_at_call 156;refine (pB _ true HI.out _ hm).mono ?_;rintro e w2 ⟨rfl,hb2⟩)
      |(go_at_call 157;refine (numeric_mk _ _ HN.out _ hm).mono ?_;rintro e w3 ⟨rfl,hb3⟩))
     go_roundw
     case rel=>exact ⟨k+1,by omega,by go_num,(hbel.trans (hb2.mono hbel.size)).trans (hb3.mono (by have:=hb2.size;have:=hbel.size;omega)),λj hj=>by
      by_cases h:j<k
      ·exact HR.out j h
      ·obtain rfl:j=k:=by omega
       unfold preT;rw [HI.out];simp⟩
     case measure=>simp [intOf];omega
   |false=>
    have HI:=Lib.hid hi
    clear hi
    cases hn:vY (tg L k) with
    |true=>
     have HN:=Lib.hid hn
     clear hn
     go_wp2_with (first
      |(go_at_call 156;refine (pB _ false HI.out _ hm).mono ?_;rintro e w2 ⟨rfl,hb2⟩)
      |(go_at_call 157;refine (numeric_mk _ _ HN.out _ hm).mono ?_;rintro e w3 ⟨rfl,hb3⟩))
     go_ret
     exact ⟨yB (by rw [HP.out,not_four L hl4 k hk4 (by unfold preT;rw [HN.out,HI.out];rfl),Bool.and_false]),(hbel.trans (hb2.mono hbel.size)).trans (hb3.mono (by have:=hb2.size;have:=hbel.size;omega))⟩
    |false=>
     have HN:=Lib.hid hn
     clear hn
     go_wp2_with (first
      |(go_at_call 156;refine (pB _ false HI.out _ hm).mono ?_;rintro e w2 ⟨rfl,hb2⟩)
      |(go_at_call 157;refine (numeric_mk _ _ HN.out _ hm).mono ?_;rintro e w3 ⟨rfl,hb3⟩))
     go_roundw
     case rel=>exact ⟨k+1,by omega,by go_num,(hbel.trans (hb2.mono hbel.size)).trans (hb3.mono (by have:=hb2.size;have:=hbel.size;omega)),λj hj=>by
      by_cases h:j<k
      ·exact HR.out j h
      ·obtain rfl:j=k:=by omega
       unfold preT;rw [HN.out];simp⟩
     case measure=>simp [intOf];omega
  ·have hki:¬ (k:Int)<4:=by omega
   go_wp2
   go_ret
   exact ⟨yB (by rw [HP.out,all_four L hl4 (λj hj=>HR.out j Om),Bool.and_true]),hbel⟩
abbrev ZP (x:Ver):Array Value:= #[YI x.maj,YI x.min,YI x.pat,.string (mkS x.pre),.string (mkS x.build)]
def kJ (v:Ver):Value:= .agg #[YI v.maj,YI v.min,YI v.pat,.string (mkS v.pre),.string (mkS v.build)]
theorem numbers_any (v:Ver)(w:World):
  YC 111 #[kJ v] w (YR (.agg #[YI v.maj,YI v.min,YI v.pat]) w):=by
 obtain ⟨a,b,c,p,q⟩:=v
 unfold kJ
 dsimp only
 go_enter Tryz.func111,Tryz.ntmps111
 go_wp2
 exact bodyPost_ret (v:= .agg #[YI a,YI b,YI c]) (by simp [results,Tryz.results111,go_sem]) rfl ⟨rfl,((Below.refl _ _).alloc (Nat.le_refl _) _).alloc (by simp) _⟩
theorem release_any (a b c:Int)(w:World):
  YC 152 #[.agg #[YI a,YI b,YI c]] w (YR (kJ (Ver.rel a b c)) w):=by
 go_enter Tryz.func152,Tryz.ntmps152
 go_wp2
 exact bodyPost_ret (v:= .agg #[YI a,YI b,YI c,.string ⟨#[]⟩,.string ⟨#[]⟩]) (by simp [results,Tryz.results152,go_sem]) rfl ⟨rfl,((Below.refl _ _).alloc (Nat.le_refl _) _).alloc (by simp) _⟩
theorem tX (t:YL)(w:World)(ht:t.length<=maxLen):
  YC 153 #[.string (mkS t)] w (YR (YI (zK t)) w):=by
 go_enter Tryz.func153,Tryz.ntmps153
 go_wp2_with (go_at_call 156;refine (pB t _ rfl _ ht).mono ?_;rintro e w2 ⟨rfl,hb2⟩)
 go_ret
 exact ⟨rfl,hb2⟩
theorem ix_num0 (a b c:Value)(w:World):(Instr.index 171 (.agg #[a,b,c]) (YI 0)).run YP w= .ok a w:=by kernel_rfl
theorem ix_num1 (a b c:Value)(w:World):(Instr.index 171 (.agg #[a,b,c]) (YI 1)).run YP w= .ok b w:=by kernel_rfl
theorem ix_num2 (a b c:Value)(w:World):(Instr.index 171 (.agg #[a,b,c]) (YI 2)).run YP w= .ok c w:=by kernel_rfl
def bQ (a b c:Int)(k:Nat):Int:=if k=0 then a else if k=1 then b else c
theorem ix_num (a b c:Int)(k:Nat)(hk:k<3)(w:World):
  (Instr.index 171 (.agg #[YI a,YI b,YI c]) (YI k)).run YP w= .ok (YI (bQ a b c k)) w:=by
 match k,hk with
 |0,_=>exact ix_num0 _ _ _ w
 |1,_=>exact ix_num1 _ _ _ w
 |2,_=>exact ix_num2 _ _ _ w
theorem nth3_all {a b c:Int}(h:∀ j,j<3->zT (bQ a b c j)=true):(zT a && zT b && zT c)=true:=by
 have h0:=h 0 Om;have h1:=h 1 Om;have h2:=h 2 Om
 unfold bQ at h0 h1 h2
 simp at h0 h1 h2
 rw [h0,h1,h2];rfl
theorem nth3_not {a b c:Int}(j:Nat)(hj:j<3)(h:zT (bQ a b c j)=false):(zT a && zT b && zT c)=false:=by
 match j,hj with
 |0,_=>rw [show zT a=false from h];rfl
 |1,_=>rw [show zT b=false from h];simp
 |2,_=>rw [show zT c=false from h];simp
theorem may_eq (v:Ver):v.may=((zT v.maj && zT v.min && zT v.pat) && (preOk v.pre && jQ v.build)):=by
 unfold Ver.may;rw [Bool.and_assoc]
theorem box_cells {w w1:World}{T:TypeId}{cs:Array Value}(hb:Below (w.alloc (.cells cs T)).heap.size (w.alloc (.cells cs T)) w1)(j:Nat)(hj:j<cs.size):w1.cell? ⟨w.heap.size,j,none⟩=some cs[j]/\w1.frozen? ⟨w.heap.size,j,none⟩=false:=by
 have h:w1.heap[w.heap.size]?=some (.cells cs T):=(hb.block _ (by simp)).trans (fL w _)
 exact qP h hj
theorem wN (w:World)(o:Obj):(w.alloc o).heap.size=w.heap.size+1:=by simp
theorem may_any (v:Ver)(w:World)(hp:v.pre.length<4294967281)(hq:v.build.length<4294967281):
  YC 64 #[kJ v] w (YR (.bool v.may) w):=by
 have hM:=may_eq v
 have cN:=λw'=>numbers_any v w'
 obtain ⟨a,b,c,p,q⟩:=v
 unfold kJ at cN ⊢
 dsimp only at cN hM hp hq ⊢
 have HM:=Lib.hid hM
 clear hM
 go_enter Tryz.func64,Tryz.ntmps64
 go_wp2_with (go_at_call 111;refine (cN _).mono ?_;rintro e w1 ⟨rfl,hb1⟩)
 obtain ⟨c3,f3⟩:=box_cells hb1 3 (by simp)
 obtain ⟨c4,f4⟩:=box_cells hb1 4 (by simp)
 have hs1:w.heap.size<w1.heap.size:=by have:=hb1.size;rw [wN] at this;omega
 have hbw:YB w w1:=((Below.refl _ _).alloc (Nat.le_refl _) _).trans (hb1.mono (by simp))
 simp only [List.getElem_toArray,List.getElem_cons_succ,List.getElem_cons_zero] at c3 c4
 go_loop [9] (λx=>∃ k:Nat,k<=3/\x=YI k/\Hid (∀ j,j<k->zT (bQ a b c j)=true)) (λx=>3-(intOf x).toNat)
 case atStart=>exact ⟨0,by omega,rfl,λj hj=>by omega⟩
 case round=>
  obtain ⟨k,hk,rfl,HR⟩:=hrel
  by_cases hk3:k<3
  ·have hki:(k:Int)<3:=by omega
   have hix:∀ w,(Instr.index 171 (.agg #[YI a,YI b,YI c]) (YI k)).run YP w= .ok (YI (bQ a b c k)) w:=ix_num a b c k hk3
   by_cases h0:bQ a b c k<0
   ·have hbad:zT (bQ a b c k)=false:=by unfold zT;simp;omega
    have HB:=Lib.hid hbad
    clear hbad
    go_wp2
    go_ret
    exact ⟨yB (by rw [HM.out,nth3_not k hk3 HB.out];rfl),hbw⟩
   ·by_cases h9:9999<bQ a b c k
    ·have hbad:zT (bQ a b c k)=false:=by unfold zT;simp;omega
     have HB:=Lib.hid hbad
     clear hbad
     go_wp2
     go_ret
     exact ⟨yB (by rw [HM.out,nth3_not k hk3 HB.out];rfl),hbw⟩
    ·have hok:zT (bQ a b c k)=true:=by unfold zT;simp;omega
     have HB:=Lib.hid hok
     clear hok
     go_wp2
     go_round
     case rel=>exact ⟨k+1,by omega,by go_num,λj hj=>by
      by_cases h:j<k
      ·exact HR.out j h
      ·obtain rfl:j=k:=by omega
       exact HB.out⟩
     case measure=>simp [intOf];omega
  ·have hki:¬ (k:Int)<3:=by omega
   have h3:=Lib.hid (nth3_all λj hj=>HR.out j Om)
   have cL:=list_lit q w1 hq
   rw [lst_ok] at cL
   cases ho:jQ q with
   |true=>
    rw [ho] at cL
    have HO:=Lib.hid ho
    clear ho
    go_wp2_with (first
     |(go_at_call 112;refine cL.mono ?_;rintro e w2 ⟨rfl,hb2⟩;have c32:=(hb2.cell (p:=⟨w.heap.size,3,none⟩) hs1).trans c3;have hs2:w.heap.size<w2.heap.size:=Nat.lt_of_lt_of_le hs1 hb2.size)
     |(go_at_call 113;refine (mayPre_any p _ hp).mono ?_;rintro e w3 ⟨rfl,hb3⟩))
    go_ret
    exact ⟨yB (by rw [HM.out,h3.out,HO.out];simp),((hbw.trans (hb2.mono hbw.size)).alloc Om _).trans (hb3.mono (by simp;omega))⟩
   |false=>
    rw [ho] at cL
    have HO:=Lib.hid ho
    clear ho
    go_wp2_with (go_at_call 112;refine cL.mono ?_;rintro e w2 ⟨rfl,hb2⟩;have c32:=(hb2.cell (p:=⟨w.heap.size,3,none⟩) hs1).trans c3;have hs2:w.heap.size<w2.heap.size:=Nat.lt_of_lt_of_le hs1 hb2.size)
    go_ret
    exact ⟨yB (by rw [HM.out,h3.out,HO.out];simp),(hbw.trans (hb2.mono hbw.size)).alloc Om _⟩
end
section
theorem ownsRow_iterAt {w:World}{B:Nat}{e:TypeId}{size:Nat}{v:Value}{n:Nat}{xs:List Value}(h:w.ownsRow B e size v n xs){k:Nat}{s:ByteArray}{pos:Nat}(hk:w.heap[k]?=some (.stringIter s pos))(pos':Nat):
  (w.iterAt k s pos').ownsRow B e size v n xs:=by
 obtain ⟨h1,h2⟩:=h
 refine ⟨h1, ?_⟩
 rcases h2 with h2|⟨g,cap,cur,hv,hg,hh,r⟩
 ·exact Or.inl h2
 ·refine Or.inr ⟨g,cap,cur,hv,hg, ?_,r⟩
  rw [Lib.iterAt_other _ _ _ _ _ (λe=>by subst e;rw [hk] at hh;cases hh)]
  exact hh
theorem ownsRow_ne {w:World}{B:Nat}{e:TypeId}{size:Nat}{v:Value}{n:Nat}{xs:List Value}(h:w.ownsRow B e size v n xs){k:Nat}{s:ByteArray}{pos:Nat}(hk:w.heap[k]?=some (.stringIter s pos)):some k≠v.ownBlock:=by
 obtain ⟨h1,h2⟩:=h
 rcases h2 with ⟨rfl,_⟩|⟨g,cap,cur,rfl,hg,hh,r⟩
 ·simp [Value.ownBlock]
 ·intro he
  have:k=g:=by simpa [Value.ownBlock] using he
  subst this
  rw [hk] at hh;cases hh
theorem nI {w w':World}{B:Nat}{e:TypeId}{size:Nat}{v:Value}{n:Nat}{xs:List Value}(h:w.ownsRow B e size v n xs)(hb:YB w w'):w'.ownsRow B e size v n xs:=by
 obtain ⟨h1,h2⟩:=h
 refine ⟨h1, ?_⟩
 rcases h2 with h2|⟨g,cap,cur,hv,hg,hh,r⟩
 ·exact Or.inl h2
 ·exact Or.inr ⟨g,cap,cur,hv,hg,by rw [hb.block g (Array.getElem?_eq_some_iff.1 hh).1];exact hh,r⟩
theorem iter_below {w w':World}{k:Nat}{s:ByteArray}{pos:Nat}(h:w.heap[k]?=some (.stringIter s pos))(hb:YB w w'):w'.heap[k]?=some (.stringIter s pos):=by
 rw [hb.block k (Array.getElem?_eq_some_iff.1 h).1];exact h
end
section
theorem tD (w:World)(a:Addr)(m:Nat):(w.freeze a m).drawn=w.drawn:=by unfold World.freeze;split<;>rfl
theorem wp_append_text {P:Program}{w:World}{ops:Array Oper}{rest:List Oper}{o:Oper}{a:Act}{Q:Exit->Act->World->Prop}(hgd:o.guard=none)(sl x:Operand)(t u:TypeId)
  (ho:o.op= .call {callee:= .builtin .append,args:= #[sl,x],argTypes:= #[t,u]})
  (B:Nat) (e:TypeId) (i:TypeInfo) (ht:P.underlying t=some (.slice e)) (hu:P.underlying u=some .string) (hi:P.info? e=some i) (hz:i.zero=some (.int .u8 0)) (h1:i.size=1) (h2:i.bytes=1)
  (v:Value) (n:Nat) (xs:List Value) (hs:a.eval sl=v) (hown:w.ownsRow B e 1 v n xs) (s:ByteArray) (hx:a.eval x= .string s) (h63:n+s.size<=maxLen) (hb:n+s.size<=140737488355328) (hB:B<=w.heap.size)
  (h:∀ v' w',w'.ownsRow B e 1 v' (n+s.size) (xs++Lib.strCells s)->GrownD w w' v.ownBlock->wpList P ops Q rest (a.put o.dst v') w'):wpList P ops Q (o::rest) a w:=
 wpList_plain hgd λK hK=>by
  obtain ⟨v',w',hr,k2,k3,_⟩:=Lib.run_append_own_string (P:=P) (w:=w) B t u o.type e i ht hu hi hz h1 h2 v n xs hown s h63 hb hB
  unfold Oper.wp execOp
  simp only [ho,resolve,invoke,builtin,Sem.run_bind,Sem.run_pure,Result.andThen_ok,List.map_toArray,List.map_cons,List.map_nil,hs,hx,hr]
  exact hK _ _ (h v' w' k2 ⟨k3,run_drawn P _ _ hr⟩)
theorem sizeBuilder:(Tryz.prog.info? 98).map (·.size)=some 2:=by kernel_rfl
theorem liesBuilder:liesAt YP Tryz.prog.depth 98 (2/Tryz.prog.cellsOf 98) 0 98 1=true:=by kernel_rfl
theorem infoByte:(Tryz.prog.info? 5).map (λi=>(i.zero,i.size,i.bytes))=some (some (.int .u8 0),1,1):=by kernel_rfl
theorem mR (b:Nat)(w:World)(h0:w.cell? ⟨b,0,none⟩=some (.pointer (some ⟨b,0,none⟩))):
  YC 89 #[.pointer (some ⟨b,0,none⟩)] w λe w'=>e= .returned (.tuple #[])/\w'=w:=by
 obtain ⟨j,hj,_⟩:=Option.map_eq_some_iff.1 sizeBuilder
 go_enter Tryz.func89,Tryz.ntmps89
 go_wp2
 rw [Lib.run_neq_ptr_same w _ Tryz.underlying95 hj]
 go_wp2
 go_end0
 exact ⟨rfl,rfl⟩
theorem tR (b:Nat)(w:World)(h0:w.cell? ⟨b,0,none⟩=some (.pointer none))(hsh:w.shape? b=some (98,2))(hfz:w.frozen? ⟨b,0,none⟩=false):
  YC 89 #[.pointer (some ⟨b,0,none⟩)] w λe w'=>e= .returned (.tuple #[])/\w'=w.setCell ⟨b,0,none⟩ (.pointer (some ⟨b,0,none⟩)):=by
 obtain ⟨j,hj,hjs⟩:=Option.map_eq_some_iff.1 sizeBuilder
 go_enter Tryz.func89,Tryz.ntmps89
 go_wp2
 rw [Lib.run_to_unsafe w ⟨b,0,none⟩ Tryz.underlying95 Tryz.underlying196 hj (by rw [hjs];decide) hsh (Nat.zero_lt_succ 1)]
 simp only [Result.andThen]
 rw [Oper.upon_value]
 go_wp2
 rw [run_callFunc_extern Tryz.func140 Kr Kr Kr (e:=Extern.AbiNoEscape.same) Kr]
 rw [Lib.run_noEscape]
 simp only [Result.andThen]
 rw [Oper.upon_value]
 go_wp2
 rw [Lib.run_from_unsafe w ⟨b,0,none⟩ Tryz.underlying196 Tryz.underlying95 hj hsh liesBuilder]
 simp only [Result.andThen]
 rw [Oper.upon_value]
 go_wp2
 go_end0
 exact ⟨rfl,rfl⟩
theorem copyCheck_any (B b:Nat)(bs:List Value)(w:World)(h:Lib.IsBuilder 98 5 B b bs w):
  YC 89 #[.pointer (some ⟨b,0,none⟩)] w λe w'=>e= .returned (.tuple #[])/\(Lib.BuilderAt 98 5 B b (.pointer (some ⟨b,0,none⟩)) bs w'/\Below B w w'):=by
 rcases h with h|h
 ·refine (tR b w h.cell0 h.shape h.frozen0).mono ?_
  rintro e w' ⟨rfl,rfl⟩
  exact ⟨rfl,h.used _,(Below.refl B w).setCell (p:=⟨b,0,none⟩) h.1 _⟩
 ·refine (mR b w h.cell0).mono ?_
  rintro e w' ⟨rfl,rfl⟩
  exact ⟨rfl,h,Below.refl B _⟩
theorem writeByte_any (B b:Nat)(bs:List Value)(c:Int)(w:World)(h:Lib.IsBuilder 98 5 B b bs w)(hlen:bs.length+1<=140737488355328)(hBw:B<=w.heap.size):
  YC 147 #[.pointer (some ⟨b,0,none⟩),.int .u8 c] w λe w'=>e= .returned .nilIface/\(Lib.BuilderAt 98 5 B b (.pointer (some ⟨b,0,none⟩)) (bs++[.int .u8 c]) w'/\Below B w w'):=by
 obtain ⟨i0,hi,hz0,hz1,hz2⟩:=info_parts infoByte
 go_enter Tryz.func147,Tryz.ntmps147
 go_wp2_with (go_at_call 89;refine (copyCheck_any B b bs _ h).mono ?_)
 rintro e w1 ⟨rfl,h1,hb1⟩
 obtain ⟨hB,v,hbk,hown,hne⟩:=h1
 have c0:w1.cell? ⟨b,0,none⟩=some (.pointer (some ⟨b,0,none⟩)):=by rw [Lib.cell_of_heap hbk];rfl
 have c1:w1.cell? ⟨b,1,none⟩=some v:=by rw [Lib.cell_of_heap hbk];rfl
 go_wp2_with (at_builtin;refine kY _ rfl _ _ 96 rfl B 5 i0 (.int .u8 0) 1 1 Tryz.underlying96 hi hz0 hz1 hz2 rfl (by decide) _ _ _ rfl (hown.alloc _) ⟨w1.heap.size,0,none⟩ 1 1 [.int .u8 c] rfl rfl ?c1 ?c2 ?c3 ?c4 ?c5 ?_)
 case c1=>
  intro j u hj
  match j,hj with
  |0,hj=>simp at hj;subst hj;simp [Addr.add]
 case c2=>intro u hu;simp at hu;subst hu;rfl
 case c3=>unfold maxLen;omega
 case c4=>omega
 case c5=>have:=hb1.size;simp;omega
 intro v' w2 hown' hgrow _
 have hlt:b<w1.heap.size:=by
  rcases Nat.lt_or_ge b w1.heap.size with h'|h'
  ·exact h'
  ·simp [Array.getElem?_eq_none h'] at hbk
 have hb2:w2.heap[b]?=some (.cells #[.pointer (some ⟨b,0,none⟩),v] 98 (0,0)):=by
  rw [hgrow.old.block b (by simp;omega) (λe=>hne e.symm),Lib.alloc_old w1 _ b hlt]
  exact hbk
 have d0:w2.cell? ⟨b,0,none⟩=some (.pointer (some ⟨b,0,none⟩)):=by rw [Lib.cell_of_heap hb2];rfl
 have d1:w2.cell? ⟨b,1,none⟩=some v:=by rw [Lib.cell_of_heap hb2];rfl
 have f1:w2.frozen? ⟨b,1,none⟩=false:=Lib.frozen_of_heap hb2 1
 obtain ⟨g,cap,rfl⟩:∃ g cap,v'= .slice (some ⟨g,0,none⟩) (bs.length+1) cap:=by
  rcases hown'.2 with ⟨_,h0⟩|⟨g,cap,cur,hv,_⟩
  ·omega
  ·exact ⟨g,cap,hv⟩
 go_wp2
 go_ret
 refine ⟨rfl, ?_, ?_⟩
 ·exact Lib.BuilderAt.put (T:=98) (e:=5) hB hb2 (bs':=bs++[.int .u8 c]) (by simpa using hown') (by decide)
 ·exact ((hb1.alloc (by have:=hb1.size;omega) _).grown hgrow (by have:=hb1.size;simp;omega) (λk hk=>(hown.lt k hk).1)).setCell (p:=⟨b,1,none⟩) hB _
theorem kF (B b:Nat)(bs:List Value)(s:ByteArray)(w:World)(h:Lib.IsBuilder 98 5 B b bs w)(hlen:bs.length+s.size<=140737488355328)(hBw:B<=w.heap.size):
  YC 49 #[.pointer (some ⟨b,0,none⟩),.string s] w λe w'=>e= .returned (.tuple #[YI s.size,.nilIface])/\(Lib.BuilderAt 98 5 B b (.pointer (some ⟨b,0,none⟩)) (bs++Lib.strCells s) w'/\Below B w w'):=by
 obtain ⟨i0,hi,hz0,hz1,hz2⟩:=info_parts infoByte
 go_enter Tryz.func49,Tryz.ntmps49
 go_wp2_with (go_at_call 89;refine (copyCheck_any B b bs _ h).mono ?_)
 rintro e w1 ⟨rfl,h1,hb1⟩
 obtain ⟨hB,v,hbk,hown,hne⟩:=h1
 have c0:w1.cell? ⟨b,0,none⟩=some (.pointer (some ⟨b,0,none⟩)):=by rw [Lib.cell_of_heap hbk];rfl
 have c1:w1.cell? ⟨b,1,none⟩=some v:=by rw [Lib.cell_of_heap hbk];rfl
 go_wp2_with (at_builtin;refine wp_append_text rfl _ _ 96 9 rfl B 5 i0 Tryz.underlying96 Tryz.underlying9 hi hz0 hz1 hz2 _ _ _ rfl hown s rfl ?c3 ?c4 ?c5 ?_)
 case c3=>unfold maxLen;omega
 case c4=>omega
 case c5=>have:=hb1.size;omega
 intro v' w2 hown' hgrow
 have hlt:b<w1.heap.size:=by
  rcases Nat.lt_or_ge b w1.heap.size with h'|h'
  ·exact h'
  ·simp [Array.getElem?_eq_none h'] at hbk
 have hb2:w2.heap[b]?=some (.cells #[.pointer (some ⟨b,0,none⟩),v] 98 (0,0)):=by
  rw [hgrow.old.block b hlt (λe=>hne e.symm)]
  exact hbk
 have d0:w2.cell? ⟨b,0,none⟩=some (.pointer (some ⟨b,0,none⟩)):=by rw [Lib.cell_of_heap hb2];rfl
 have d1:w2.cell? ⟨b,1,none⟩=some v:=by rw [Lib.cell_of_heap hb2];rfl
 have f1:w2.frozen? ⟨b,1,none⟩=false:=Lib.frozen_of_heap hb2 1
 obtain ⟨ao,n',cap,rfl⟩:∃ ao n' cap,v'= .slice ao n' cap:=by
  rcases hown'.2 with ⟨hv,_⟩|⟨g,cap,cur,hv,_⟩
  ·exact ⟨_,_,_,hv⟩
  ·exact ⟨_,_,_,hv⟩
 go_wp2
 go_ret2
 refine ⟨rfl, ?_, ?_⟩
 ·exact Lib.BuilderAt.put (T:=98) (e:=5) hB hb2 (bs':=bs++Lib.strCells s) (by simpa [Lib.strCells_length] using hown') (by decide)
 ·exact (hb1.grown hgrow (by have:=hb1.size;omega) (λk hk=>(hown.lt k hk).1)).setCell (p:=⟨b,1,none⟩) hB _
theorem tH {l:YL}(h:l≠[]):(Lib.byteCells l).length≠0:=by
 rw [Lib.byteCells_length];exact λe=>h (List.eq_nil_of_length_eq_zero e)
theorem string_any (B b:Nat)(l:YL)(w:World)(h:Lib.IsBuilder 98 5 B b (Lib.byteCells l) w)(h0:l≠[]):
  YC 50 #[.pointer (some ⟨b,0,none⟩)] w λe w'=>e= .returned (.string ⟨l.toArray⟩)/\Below B w w':=by
 obtain ⟨p,hB,v,hbk,hown,hne⟩:∃ p,Lib.BuilderAt 98 5 B b p (Lib.byteCells l) w:=h.elim (λq=>⟨_,q⟩) (λq=>⟨_,q⟩)
 rcases hown.2 with ⟨_,hz⟩|⟨g,cap,cur,rfl,hbg,hg,hnc,hcm,hcs,htake⟩
 ·exact absurd hz (tH h0)
 rw [Lib.byteCells_length] at hown hnc hbk htake
 have hl0:l.length≠0:=λe=>h0 (List.eq_nil_of_length_eq_zero e)
 have hg':w.drew.heap[g]?=some (.cells cur 5 (0,0)):=hg
 have c1:w.drew.cell? ⟨b,1,none⟩=some (.slice (some ⟨g,0,none⟩) l.length cap):=by
  rw [Lib.cell_of_heap (show w.drew.heap[b]?=_ from hbk)];rfl
 have hSD:=Lib.run_unsafeSliceData_row (P:=YP) w.drew #[96] 146 ⟨g,0,none⟩ l.length cap Om
 have hUS:=Lib.run_unsafeString_row (P:=YP) w.drew 146 3 9 5 Tryz.underlying146 Kr g cur.size (by unfold World.shape?;rw [hg']) l h0 Om (by unfold maxLen at hcm;omega)
  (λj x hx=>hown.cells (g:=g) rfl j (.int .u8 x.toNat) (by simp [Lib.byteCells,hx]))
 go_enter Tryz.func50,Tryz.ntmps50
 go_wp2
 have mixed:Tryz.prog.follows .mixedOrders=true:=by kernel_rfl
 go_region_o
 all_goals
  go_wp2
  go_ret
  have hf:=Lib.below_freeze (Go.RowKit.Below.drew (Go.RowKit.Below.refl B w)) (p:=⟨g,0,none⟩) hbg l.length
  exact ⟨rfl,hf.os,hf.tape,hf.output,hf.size,by rw [tD];exact Nat.le_succ _,hf.block⟩
end
section
def HasTab (w : World) : Prop := Lib.TabBelow YP w.heap.size w "internal/strconv.uint64pow10" .u64 Lib.pow10Tab
theorem HasTab.on {w w':World}(h:HasTab w)(hb:YB w w'):HasTab w':=λw2 hb2=>h w2 (hb.old.trans (hb2.mono hb.size))
theorem below_growD (w:World)(k:Nat)(os:Array Obj):Below w.heap.size w (Go.Sort.grow (w.drewN k) os):=
 have h:=Lib.below_grow w.heap.size w (Nat.le_refl _) k os
 ⟨h.os,h.tape,h.output,h.size,(below_drewN (Below.refl w.heap.size w) k).drawn,h.block⟩
def digS (n:Int):ByteArray:=⟨(Lib.itoa n).toArray⟩
theorem digits_any (n:Int)(h0: -9223372036854775808<=n)(h1:n<=9223372036854775807)(w:World)(ht:HasTab w):
  YC 148 #[YI n] w (YR (.string (digS n)) w):=by
 have H:=Lib.hid ht
 clear ht
 go_enter Tryz.func148,Tryz.ntmps148
 go_wp2_with (go_at_call 189;refine (Tryz.strconv_Itoa n h0 h1 _ H.out.here).mono ?_;rintro e w' ⟨rfl,k,os,rfl⟩)
 go_ret
 exact ⟨rfl,below_growD _ _ _⟩
theorem wS {a b:ByteArray}(h:a=b):Ending.returned (.string a)= .returned (.string b):=by rw [h]
theorem of_list {t:ByteArray}{l:YL}(h:l=t.data.toList):t=⟨l.toArray⟩:=by subst h;rfl
def one (x:Int):ByteArray:=⟨#[UInt8.ofNat x.toNat]⟩
theorem one_list (n:Nat):(one (48+(n:Int) % 10)).data.toList=[UInt8.ofNat (48+n % 10)]:=by
 unfold one
 rw [show (48+(n:Int) % 10).toNat=48+n % 10 from by omega]
theorem conv1 (w:World)(x:Int):(convert 96 9 (.slice (some ⟨w.heap.size,0,none⟩) 1 1)).run YP (w.alloc (.cells #[.int .u8 x] 5))= .ok (.string (one x)) (w.alloc (.cells #[.int .u8 x] 5)):=by
 refine (run_convert_bytes_arg (P:=YP) _ 96 5 Tryz.underlying96 Tryz.underlying5 w.heap.size 0 1 1 [x] rfl ?_ 9 Tryz.underlying9).trans ?_
 ·intro i hi
  obtain rfl:i=0:=by omega
  simp
 ·rfl
theorem dec_start (n:Nat):Lib.decDigits n=(if n<10 then [] else Lib.decDigits (n/10))++[UInt8.ofNat (48+n % 10)]:=by
 rw [Lib.decDigits]
 by_cases h:n<10
 ·rw [dif_pos h,if_pos h,Nat.mod_eq_of_lt h];rfl
 ·rw [dif_neg h,if_neg h]
def decS (n:Nat):ByteArray:=⟨(Lib.decDigits n).toArray⟩
theorem whole_any (n:Nat)(hn:n<=18446744073709551615)(w:World):
  YC 205 #[.int .u64 n] w (YR (.string (decS n)) w):=by
 have hcv:=λ(w:World) (x:Int)=>conv1 w x
 go_enter Tryz.func205,Tryz.ntmps205
 go_wp2
 go_loopw [0,3] (λv s wr=>∃ (m:Nat) (t:ByteArray),v= .int .u64 m/\s= .string t/\m<=18446744073709551615/\YB w wr/\t.size<=20/\Hid (Lib.decDigits n=(if m<10 then [] else Lib.decDigits (m/10))++t.data.toList)) (λv _ _=>(intOf v).toNat)
 case atStart=>exact ⟨n,_,rfl,rfl,hn,(Below.refl _ w).alloc (Nat.le_refl _) _,by show 1<=20;omega,by show _=_;rw [one_list];exact dec_start n⟩
 case round=>
  obtain ⟨m,t,rfl,rfl,hm,hb,ht,HR⟩:=hrel
  have hsz:=hb.size
  by_cases h9:9<m
  ·have hos:(one (48+(m:Int)/10 % 10)).size<=1:=Nat.le_of_eq rfl
   go_wp2
   go_roundw
   case rel=>
    have HE:Lib.decDigits n=(if m/10<10 then [] else Lib.decDigits (m/10/10))++(one (48+((m/10:Nat):Int) % 10)++t).data.toList:=by
     rw [HR.out,if_neg Om,dec_start (m/10),ByteArray.data_append,Array.toList_append,one_list,List.append_assoc]
    rw [show ((m/10:Nat):Int)=(m:Int)/10 from by omega] at HE
    refine ⟨m/10,_,by go_num,rfl,by omega,hb.alloc hsz _, ?_,HE⟩
    have hl:=congrArg List.length HE
    rw [Lib.decDigits_length,List.length_append] at hl
    have:=Lib.nDigits_le20 n Om
    have hz:(one (48+(m:Int)/10 % 10)++t).data.toList.length=(one (48+(m:Int)/10 % 10)++t).size:=by simp
    omega
   case measure=>simp [intOf];omega
  ·go_wp2
   go_ret
   have HE:=HR.out
   rw [if_pos Om,List.nil_append] at HE
   exact ⟨wS (of_list HE),hb⟩
theorem rdigits_any (n:Int)(h0: -9223372036854775808<=n)(h1:n<=9223372036854775807)(w:World):
  YC 175 #[YI n] w (YR (.string (digS n)) w):=by
 by_cases hn:n<0
 ·obtain ⟨u,hu1,rfl⟩:∃ u:Nat,1<=u/\n= -(u:Int):=⟨n.natAbs,by omega,by omega⟩
  go_enter Tryz.func175,Tryz.ntmps175
  go_wp2_with fail
  rw [show (-(-(u:Int)+1)+1)=(u:Int) from by omega]
  refine (whole_any u Om _).mono ?_
  rintro e w' ⟨rfl,hb⟩
  have hl:(decS u).size<=20:=by
   show (Lib.decDigits u).toArray.size<=20
   rw [List.size_toArray,Lib.decDigits_length]
   exact Lib.nDigits_le20 u Om
  go_wp2
  go_ret
  exact ⟨wS (by unfold decS digS;rw [Lib.itoa_neg u Om];apply ByteArray.ext;simp),hb⟩
 ·obtain ⟨u,rfl⟩:∃ u:Nat,n=(u:Int):=⟨n.toNat,by omega⟩
  go_enter Tryz.func175,Tryz.ntmps175
  go_wp2_with (go_at_call 205;refine (whole_any u Om _).mono ?_;rintro e w' ⟨rfl,hb⟩)
  go_ret
  exact ⟨wS (by unfold decS digS;rw [Lib.itoa_nonneg]),hb⟩
end
section
theorem joinL_snoc (b:UInt8)(P:List YL)(x:YL):zG b (P++[x])=if P=[] then x else zG b P++b::x:=by
 induction P with
 |nil=>rfl
 |cons y r ih=>
  rw [if_neg (by simp)]
  cases r with
  |nil=>rfl
  |cons z r2=>
   rw [List.cons_append,List.cons_append,zG,←List.cons_append,ih,if_neg (by simp),zG,List.append_assoc];rfl
theorem joinL_take_le (b:UInt8)(l:List YL):∀ k,(zG b (l.take k)).length<=(zG b l).length:=by
 intro k
 induction l generalizing k with
 |nil=>simp
 |cons y r ih=>
  cases k with
  |zero=>simp [zG]
  |succ k=>
   cases r with
   |nil=>simp
   |cons z r2=>
    cases k with
    |zero=>simp [zG]
    |succ k=>
     have:=ih (k+1)
     rw [List.take_succ_cons] at this ⊢
     rw [List.take_succ_cons,zG,zG]
     simp only [List.length_append,List.length_cons]
     omega
def ReadsT (w:World)(B:Nat)(v:Value)(l:List YL):Prop:=
 ∃ A cap,v= .slice A l.length cap/\(0<l.length→∃ ad:Addr,A=some ad/\ad.block<B∧∀ j (h:j<l.length),w.cell? (ad.add j)=some (.string (mkS l[j])))
theorem tL (a:Addr)(n:Nat):(a.add n).block=a.block:=by unfold Addr.add;split<;>rfl
theorem ReadsT.of_own {w:World}{base:Nat}{e:TypeId}{v:Value}{l:List YL}(h:w.ownsRow base e 1 v l.length (jD l)):ReadsT w w.heap.size v l:=by
 rcases h.2 with ⟨rfl,h0⟩|⟨g,cap,cur,rfl,hg,hh,hn,_⟩
 ·exact ⟨none,0,by rw [h0],λhpos=>by omega⟩
 ·refine ⟨some ⟨g,0,none⟩,cap,rfl,λhpos=>⟨⟨g,0,none⟩,rfl,(Array.getElem?_eq_some_iff.1 hh).1,λj hj=> ?_⟩⟩
  exact h.cells (g:=g) rfl j _ (by unfold jD;rw [List.getElem?_map,List.getElem?_eq_getElem hj];rfl)
theorem one_mk (b:UInt8):one (b.toNat:Int)=mkS [b]:=by
 unfold one mkS
 simp
theorem take_snocL (l:List YL)(k:Nat)(h:k<l.length):l.take (k+1)=l.take k++[l[k]]:=by
 rw [List.take_succ_eq_append_getElem h]
theorem fY (l:List YL)(k:Nat)(h:k<l.length)(h0:0<k):l.take k≠[]:=by
 intro e;have:=congrArg List.length e;rw [List.length_take,List.length_nil] at this;omega
theorem byteCells_one (c:UInt8):Lib.byteCells [c]=[.int .u8 (c.toNat:Int)]:=rfl
theorem jL (l:YL):Lib.strCells (mkS l)=Lib.byteCells l:=rfl
theorem bc_join (x y:YL)(b:UInt8):Lib.byteCells (x++b::y)=Lib.byteCells x++[.int .u8 (b.toNat:Int)]++Lib.strCells (mkS y):=by
 rw [jL,←byteCells_one,←Lib.byteCells_append,←Lib.byteCells_append,List.append_assoc];rfl
theorem d2 (v:Value)(l:List YL)(b:UInt8)(w:World)(hv:ReadsT w w.heap.size v l)(hl:(zG b l).length<=1000000000)(hn:l.length<=1000000000)(hne:zG b l≠[]):
  YC 146 #[v,.int .u8 b.toNat] w (YR (.string (mkS (zG b l))) w):=by
 obtain ⟨A,cap,rfl,hcell⟩:=hv
 go_enter Tryz.func146,Tryz.ntmps146
 go_wp2
 go_loopw [10] (λiv wr=>∃ (k:Nat),iv=YI k/\k<=l.length/\Lib.IsBuilder 98 5 w.heap.size w.heap.size (Lib.byteCells (zG b (l.take k))) wr/\YB w wr) (λiv _=>l.length-(intOf iv).toNat)
 case atStart=>exact ⟨0,rfl,Nat.zero_le _,Lib.fresh_isBuilder 98 5 w,(Below.refl _ _).alloc (Nat.le_refl _) _⟩
 case round=>
  obtain ⟨k,rfl,hk,hI,hb⟩:=hrel
  have hsz:=hb.size
  by_cases hp:k<l.length
  ·obtain ⟨ad,rfl,hlt,hc⟩:=hcell Om
   have hck:wr.cell? (ad.add k)=some (.string (mkS l[k])):=(hb.cell (by rw [tL];exact hlt)).trans (hc k hp)
   have hln:(zG b (l.take (k+1))).length<=1000000000:=Nat.le_trans (joinL_take_le b l (k+1)) hl
   have HJ:=Lib.hid (joinL_snoc b (l.take k) l[k])
   rw [←take_snocL l k hp] at HJ
   clear hc hcell
   by_cases h0:k=0
   ·subst h0
    have hx2:(mkS l[0]).size<=1000000000:=by
     rw [bY];rw [HJ.out,if_pos List.take_zero] at hln;exact hln
    have hck0:wr.cell? ad=some (.string (mkS l[0])):=hck
    clear hck
    go_wp2_with (go_at_call 49;refine (kF w.heap.size w.heap.size _ (mkS l[0]) _ hI ?_ hsz).mono ?_)
    ·rw [Lib.byteCells_length];simp [zG];omega
    rintro e w1 ⟨rfl,h1,hb1⟩
    go_wp2
    go_roundw
    case rel=>exact ⟨0+1,by go_num,by omega,by rw [HJ.out,if_pos List.take_zero];exact Or.inr h1,hb.trans hb1⟩
    case measure=>simp [intOf];omega
   ·have h0p:0<k:=by omega
    have hlen:(zG b (l.take k)).length+(l[k].length+1)<=1000000000:=by
     rw [HJ.out,if_neg (fY l k hp h0p),List.length_append,List.length_cons] at hln;exact hln
    go_wp2_with (go_at_call 147;refine (writeByte_any w.heap.size w.heap.size _ _ _ hI ?_ hsz).mono ?_)
    ·rw [Lib.byteCells_length];omega
    rintro e w1 ⟨rfl,h1,hb1⟩
    have hsz1:=(hb.trans hb1).size
    go_wp2_with (go_at_call 49;refine (kF w.heap.size w.heap.size _ (mkS l[k]) _ (Or.inr h1) ?_ hsz1).mono ?_)
    ·rw [List.length_append,Lib.byteCells_length,bY];simp;omega
    rintro e w2 ⟨rfl,h2,hb2⟩
    go_wp2
    go_roundw
    case rel=>exact ⟨k+1,by go_num,by omega,by rw [HJ.out,if_neg (fY l k hp h0p),bc_join];exact Or.inr h2,(hb.trans hb1).trans hb2⟩
    case measure=>simp [intOf];omega
  ·obtain rfl:k=l.length:=by omega
   go_wp2_with (go_at_call 50;refine (string_any w.heap.size w.heap.size _ _ hI (by rw [List.take_length];exact hne)).mono ?_)
   rintro e w1 ⟨rfl,hb1⟩
   go_wp2
   go_ret
   exact ⟨wS rfl,hb.trans hb1⟩
theorem SlT.readsT {v:Value}{l:List YL}{ob L:List Blk}{M:List Nat}{W w:World}(h:SlT v l ob)(hO:Own M W w L)(hs:∀ x∈ob,x∈L):ReadsT w w.heap.size v l:=by
 obtain ⟨A,cap,rfl⟩:=h.form
 refine ⟨A,cap,rfl,λh0=> ?_⟩
 obtain ⟨b,off,e,hlt,hc⟩:=SlT.reads h rfl hO hs h0
 refine ⟨⟨b,off,none⟩,e,hlt,λj hj=> ?_⟩
 rw [xP]
 refine hc j _ ?_
 rw [←kL]
 unfold jD
 rw [List.getElem?_map,List.getElem?_eq_getElem hj];rfl
end
section
theorem infoByte9:(Tryz.prog.info? 5).map (λi=>(i.zero.map (·.cells.size),i.size,i.bytes))=some (some 1,1,1):=by kernel_rfl
theorem byte_info:∃ i z,Tryz.prog.info? 5=some i/\i.zero=some z/\i.size=1/\z.cells.size=1/\i.bytes=1:=by
 have h:=infoByte9
 cases hi:Tryz.prog.info? 5 with
 |none=>rw [hi] at h;cases h
 |some i=>
  rw [hi] at h
  simp only [Option.map_some,Option.some.injEq,Prod.mk.injEq] at h
  cases hz:i.zero with
  |none=>rw [hz] at h;simp at h
  |some z=>rw [hz] at h;simp at h;exact ⟨i,z,rfl,hz,h.2.1,h.1,h.2.2⟩
theorem empty_of {s:ByteArray}(h:(s.size:Int)=0):s=⟨#[]⟩:=by
 have h2:s.data.size=0:=Int.ofNat.inj h
 exact ByteArray.ext (Array.eq_empty_of_size_eq_zero h2)
theorem sclone_any (s:ByteArray)(w:World)(hs:s.size<=281474976710656):
  YC 60 #[.string s] w (YR (.string s) w):=by
 refine Z2 (n:=18) Tryz.func60 rfl (ZO (Zv (.string ⟨#[]⟩) (ZN (kA (ZO (Zv (.string s) (Zv (YI ((s).size)) ?_)))))))
 by_cases h1:((s).size:Int)=0
 ·refine Zg h1 (ZY (ZO (Zv (.string ⟨#[]⟩) (ZN (gG (yH (ZF (.string ⟨#[]⟩) Tryz.results60 ?_)))))))
  exact λw hO=>⟨by rw [empty_of (s:=s) (by assumption)],hO.below⟩
 refine Zh h1 (ZX (ZB (ZO (Zv (.string s) (Zv (YI ((s).size)) ?_)))))
 obtain ⟨i,z,e1,e2,e3,e4,e5⟩:=byte_info
 refine s_make (kl:= .i64) (kc:= .i64) (l:=(s.size:Int)) (c:=(s.size:Int)) Kr rfl Kr Kr Tryz.underlying96 e1 e2 Om Om (by rw [e5];omega) Om (λb=> ?_)
 rw [show ((s.size:Nat):Int).toNat=s.size from rfl]
 obtain ⟨cs,hcs⟩:∃ cs,cs=madeCells z.cells (s.size*i.size):=⟨_,rfl⟩
 have hcz:cs.size=s.size:=by rw [hcs,size_madeCells,e3];simp
 rw [←hcs]
 refine Zv (.slice (some ⟨b,0,none⟩) s.size s.size) (ZR (Zv (.slice (some ⟨b,0,none⟩) s.size s.size) (Zv (.string s) (s_copyS (b:=b) (cap:=s.size) (s:=s) (cs:=cs) Kr rfl Kr Kr Tryz.underlying96 Kr hcz (ZN (kA (kO ?_)))))))
 exact Zv (.slice (some ⟨b,0,none⟩) s.size s.size) (bU (Zp b 0) Kr (ZV (b:=b) (off:=0) (n:=s.size) (c:=s.size) (k:= .i64) (j:=0) (e:=5) (sz:=1)) (Zv (.slice (some ⟨b,0,none⟩) s.size s.size) (Zv (YI (s.size:Int)) (s_ustr (s:=s) Kr rfl Kr Kr Tryz.underlying146 (by unfold Program.cellsOf;simp [e1,e3]) Om Om (Zv (.string s) (ZN (gG (ZF (.string s) Tryz.results60 (λw hO=>⟨rfl,hO.below⟩)))))))))
theorem pO (s:ByteArray)(w:World)(hs:s.size<=281474976710656):
  YC 31 #[.string s] w (YR (.string s) w):=by
 refine Z2 (n:=5) Tryz.func31 rfl (ZO (Zv (.string ⟨#[]⟩) (ZR (Zv (.string s) (Zc (k:=60) (args:= #[.string s]) (.string s) (λw _=>sclone_any s w hs) (Zv (.string s) (nW ?_)))))))
 exact vV (gG (ZF (.string s) Tryz.results31 (λw hO=>⟨rfl,hO.below⟩)))
end
section
def digs (a b c:Int):List YL:=[Lib.itoa a,Lib.itoa b,Lib.itoa c]
theorem digs_snoc (a b c:Int)(k:Nat)(hk:k<3):(digs a b c).take (k+1)=(digs a b c).take k++[Lib.itoa (bQ a b c k)]:=by
 match k,hk with
 |0,_=>rfl
 |1,_=>rfl
 |2,_=>rfl
theorem pD (a b c:Int):zG 46 (digs a b c)=Lib.itoa a++46::(Lib.itoa b++46::Lib.itoa c):=rfl
theorem digits_mk (n:Int)(h0: -9223372036854775808<=n)(h1:n<=9223372036854775807)(w:World)(ht:HasTab w):
  YC 148 #[YI n] w (YR (.string (mkS (Lib.itoa n))) w):=digits_any n h0 h1 w ht
theorem dec_len (n:Nat)(h:n<=9999):(Lib.decDigits n).length<=4:=by
 rw [Lib.decDigits_length]
 unfold Lib.nDigits
 split
 ·omega
 ·unfold Lib.nDigits
  split
  ·omega
  ·unfold Lib.nDigits
   split
   ·omega
   ·rw [Lib.nDigits_small Om];omega
theorem mP {n:Int}(h:zT n=true):(Lib.itoa n).length<=4:=by
 rw [itoa_nat h]
 apply dec_len
 unfold zT at h;simp at h;omega
theorem nums_len {a b c:Int}(h1:zT a=true)(h2:zT b=true)(h3:zT c=true):(zG 46 (digs a b c)).length<=14:=by
 rw [pD]
 have:=mP h1;have:=mP h2;have:=mP h3
 simp;omega
theorem print_good (v:Ver)(w:World)(hp:v.pre.length<=1048576)(hq:v.build.length<=1048576)(hm:v.may=true)(ht:HasTab w):
  YC 99 #[kJ v] w (YR (.string (mkS v.text)) w):=by
 obtain ⟨i0,hi,hz0,hz1,hz2⟩:=info_parts infoStr
 have cM:=λw'=>may_any v w' Om Om
 have cN:=λw'=>numbers_any v w'
 obtain ⟨n1,n2,n3⟩:=qN hm
 have hT:v.text=zG 46 (digs v.maj v.min v.pat)++xH 45 v.pre++xH 43 v.build:=rfl
 obtain ⟨a,b,c,p,q⟩:=v
 rw [hm] at cM
 unfold kJ at cN cM ⊢
 dsimp only at cN cM hp hq n1 n2 n3 hT ⊢
 have hjl:=nums_len n1 n2 n3
 have HT:=Lib.hid hT
 have H1:=Lib.hid n1
 have H2:=Lib.hid n2
 have H3:=Lib.hid n3
 clear hT hm n1 n2 n3
 go_enter Tryz.func99,Tryz.ntmps99
 go_wp2_with (first
  |(go_at_call 64;refine (cM _).mono ?_;rintro e w1 ⟨rfl,hb1⟩;have hg1:=Lib.hid ((hb1.block w.heap.size (by simp)).trans (fL w _)))
  |(refine wpList_load_row rfl 24 _ rfl w.heap.size rfl _ _ _ _ hg1.out Tryz.underlying24 rfl Kr ?_)
  |(go_at_call 111;refine (cN _).mono ?_;rintro e w2 ⟨rfl,hb2⟩))
 have hbw1:YB w w1:=((Below.refl _ _).alloc (Nat.le_refl _) _).trans (hb1.mono (by simp))
 have hsw:w.heap.size<w1.heap.size:=by have:=hb1.size;rw [wN] at this;omega
 have hsw2:w.heap.size<w2.heap.size:=Nat.lt_of_lt_of_le hsw hb2.size
 have hg2:=Lib.hid ((hb2.block w.heap.size hsw).trans hg1.out)
 have ht2:HasTab w2:=(ht.on hbw1).on hb2
 go_loopw [3,12] (λv x wr=>∃ k:Nat,k<=3/\x=YI k/\wr.ownsRow w2.heap.size 9 1 v k (jD ((digs a b c).take k))/\YB w2 wr) (λ_ x _=>3-(intOf x).toNat)
 case atStart=>exact ⟨0,by omega,rfl,⟨rfl,Or.inl ⟨rfl,rfl⟩⟩,Below.refl _ _⟩
 case round=>
  obtain ⟨k,hk,rfl,hown,hbel⟩:=hrel
  have hsz:=hbel.size
  by_cases hk3:k<3
  ·have hki:(k:Int)<3:=by omega
   have hix:∀ w,(Instr.index 171 (.agg #[YI a,YI b,YI c]) (YI k)).run YP w= .ok (YI (bQ a b c k)) w:=ix_num a b c k hk3
   have hnb:0<=bQ a b c k/\bQ a b c k<=9999:=by
    have h1:=H1.out;have h2:=H2.out;have h3:=H3.out
    unfold zT at h1 h2 h3;simp at h1 h2 h3
    unfold bQ;split
    ·exact h1
    ·split
     ·exact h2
     ·exact h3
   obtain ⟨hn0,hn9⟩:=hnb
   go_wp2_with (first
    |(go_at_call 148;refine (digits_mk _ Om Om _ (ht2.on hbel)).mono ?_;rintro e w3 ⟨rfl,hb3⟩;have hown3:=nI hown hb3;have hsz3:=hb3.size)
    |(at_builtin;refine kY _ rfl _ _ 66 rfl w2.heap.size 9 i0 (.string ByteArray.empty) 1 16 Tryz.underlying66 hi hz0 hz1 hz2 rfl (by decide) _ _ _ rfl (hown3.alloc _) ⟨w3.heap.size,0,none⟩ 1 1 [.string (mkS (Lib.itoa (bQ a b c k)))] rfl rfl ?c1 ?c2 ?c3 ?c4 ?c5 ?_))
   case c1=>
    intro j u hj
    match j,hj with
    |0,hj=>simp at hj;subst hj;simp [Addr.add]
   case c2=>intro u hu;simp at hu;subst hu;rfl
   case c3=>unfold maxLen;omega
   case c4=>omega
   case c5=>simp;omega
   intro v' w5 hown' hgrow _
   go_wp2
   go_roundw
   case rel=>
    refine ⟨k+1,by omega,by go_num, ?_,((hbel.trans (hb3.mono hsz)).alloc Om _).grown hgrow (by simp;omega) (λk hk=>(hown3.lt k hk).1)⟩
    rw [digs_snoc a b c k hk3,nU];exact hown'
   case measure=>simp [intOf];omega
  ·obtain rfl:k=3:=by omega
   have hki:¬ (((3:Nat):Int)<3):=by omega
   have hrd:=ReadsT.of_own (l:=digs a b c) hown
   have hg3:=Lib.hid ((hbel.block w.heap.size hsw2).trans hg2.out)
   have hbww:YB w w2:=hbw1.trans (hb2.mono Om)
   have hj0:(mkS (zG 46 (digs a b c))).size<=14:=by rw [zQ];exact hjl
   have hp0:(mkS p).size<=1048576:=by rw [zQ];exact hp
   have hq0:(mkS q).size<=1048576:=by rw [zQ];exact hq
   have hp1:((⟨#[45]⟩:ByteArray)++mkS p).size<=1048577:=by rw [ByteArray.size_append];show 1+_<=_;omega
   have hq1:((⟨#[43]⟩:ByteArray)++mkS q).size<=1048577:=by rw [ByteArray.size_append];show 1+_<=_;omega
   have hjp:(mkS (zG 46 (digs a b c))++((⟨#[45]⟩:ByteArray)++mkS p)).size<=1048591:=by rw [ByteArray.size_append];omega
   by_cases hpe:p=[]
   ·have hpb:(mkS p).toList.isEmpty=true:=by rw [Lib.toList_data,mk_data,hpe];rfl
    have HPT:=Lib.hid (show xH 45 p=[] by rw [hpe];rfl)
    clear hpe
    by_cases hqe:q=[]
    ·have hqb:(mkS q).toList.isEmpty=true:=by rw [Lib.toList_data,mk_data,hqe];rfl
     have HQT:=Lib.hid (show xH 43 q=[] by rw [hqe];rfl)
     clear hqe
     go_wp2_with (go_at_call 146;refine (d2 _ (digs a b c) 46 _ hrd Om (by simp [digs]) (by rw [pD];simp)).mono ?_;rintro e w4 ⟨rfl,hb4⟩;obtain ⟨c3,f3⟩:=qP (j:=3) ((hb4.block w.heap.size Om).trans hg3.out) (by simp);obtain ⟨c4,f4⟩:=qP (j:=4) ((hb4.block w.heap.size Om).trans hg3.out) (by simp);simp only [List.getElem_toArray,List.getElem_cons_succ,List.getElem_cons_zero] at c3 c4)
     go_ret
     exact ⟨wS (by rw [HT.out,HPT.out,HQT.out];simp),(hbww.trans (hbel.mono Om)).trans (hb4.mono Om)⟩
    ·have hqb:(mkS q).toList.isEmpty=false:=by rw [Lib.toList_data,mk_data];exact List.isEmpty_eq_false_iff.2 hqe
     have HQT:=Lib.hid (show xH 43 q=43::q by unfold xH;rw [if_neg (by simpa using hqe)])
     clear hqe
     go_wp2_with (go_at_call 146;refine (d2 _ (digs a b c) 46 _ hrd Om (by simp [digs]) (by rw [pD];simp)).mono ?_;rintro e w4 ⟨rfl,hb4⟩;obtain ⟨c3,f3⟩:=qP (j:=3) ((hb4.block w.heap.size Om).trans hg3.out) (by simp);obtain ⟨c4,f4⟩:=qP (j:=4) ((hb4.block w.heap.size Om).trans hg3.out) (by simp);simp only [List.getElem_toArray,List.getElem_cons_succ,List.getElem_cons_zero] at c3 c4)
     go_ret
     exact ⟨wS (by rw [HT.out,HPT.out,HQT.out,show (⟨#[43]⟩:ByteArray)=mkS [43] from rfl,x2,x2];simp),(hbww.trans (hbel.mono Om)).trans (hb4.mono Om)⟩
   ·have hpb:(mkS p).toList.isEmpty=false:=by rw [Lib.toList_data,mk_data];exact List.isEmpty_eq_false_iff.2 hpe
    have HPT:=Lib.hid (show xH 45 p=45::p by unfold xH;rw [if_neg (by simpa using hpe)])
    clear hpe
    by_cases hqe:q=[]
    ·have hqb:(mkS q).toList.isEmpty=true:=by rw [Lib.toList_data,mk_data,hqe];rfl
     have HQT:=Lib.hid (show xH 43 q=[] by rw [hqe];rfl)
     clear hqe
     go_wp2_with (go_at_call 146;refine (d2 _ (digs a b c) 46 _ hrd Om (by simp [digs]) (by rw [pD];simp)).mono ?_;rintro e w4 ⟨rfl,hb4⟩;obtain ⟨c3,f3⟩:=qP (j:=3) ((hb4.block w.heap.size Om).trans hg3.out) (by simp);obtain ⟨c4,f4⟩:=qP (j:=4) ((hb4.block w.heap.size Om).trans hg3.out) (by simp);simp only [List.getElem_toArray,List.getElem_cons_succ,List.getElem_cons_zero] at c3 c4)
     go_ret
     exact ⟨wS (by rw [HT.out,HPT.out,HQT.out,show (⟨#[45]⟩:ByteArray)=mkS [45] from rfl,x2,x2];simp),(hbww.trans (hbel.mono Om)).trans (hb4.mono Om)⟩
    ·have hqb:(mkS q).toList.isEmpty=false:=by rw [Lib.toList_data,mk_data];exact List.isEmpty_eq_false_iff.2 hqe
     have HQT:=Lib.hid (show xH 43 q=43::q by unfold xH;rw [if_neg (by simpa using hqe)])
     clear hqe
     go_wp2_with (go_at_call 146;refine (d2 _ (digs a b c) 46 _ hrd Om (by simp [digs]) (by rw [pD];simp)).mono ?_;rintro e w4 ⟨rfl,hb4⟩;obtain ⟨c3,f3⟩:=qP (j:=3) ((hb4.block w.heap.size Om).trans hg3.out) (by simp);obtain ⟨c4,f4⟩:=qP (j:=4) ((hb4.block w.heap.size Om).trans hg3.out) (by simp);simp only [List.getElem_toArray,List.getElem_cons_succ,List.getElem_cons_zero] at c3 c4)
     go_ret
     exact ⟨wS (by rw [HT.out,HPT.out,HQT.out,show (⟨#[45]⟩:ByteArray)=mkS [45] from rfl,show (⟨#[43]⟩:ByteArray)=mkS [43] from rfl,x2,x2,x2,x2];simp),(hbww.trans (hbel.mono Om)).trans (hb4.mono Om)⟩
theorem print_none (v:Ver)(w:World)(hp:v.pre.length<=1048576)(hq:v.build.length<=1048576)(hm:v.may=false):
  YC 99 #[kJ v] w (YR (.string (mkS [])) w):=by
 have cM:=λw'=>may_any v w' Om Om
 rw [hm] at cM
 obtain ⟨a,b,c,p,q⟩:=v
 unfold kJ at cM ⊢
 dsimp only at cM ⊢
 clear hm
 go_enter Tryz.func99,Tryz.ntmps99
 go_wp2_with (go_at_call 64;refine (cM _).mono ?_;rintro e w1 ⟨rfl,hb1⟩)
 go_ret
 exact ⟨rfl,((Below.refl _ _).alloc (Nat.le_refl _) _).trans (hb1.mono (by simp))⟩
theorem vprint_any (v:Ver)(w:World)(hp:v.pre.length<=1048576)(hq:v.build.length<=1048576)(ht:HasTab w):
  YC 99 #[kJ v] w (YR (.string (mkS v.print)) w):=by
 cases hm:v.may with
 |true=>rw [print_eq hm];exact print_good v w hp hq hm ht
 |false=>rw [print_bad hm];exact print_none v w hp hq hm
end
section
def nG (s:YL):Ver:=(parseR s).getD Ver.zero
def parE (s:YL):Int:=if (parseR s).isSome then 0 else 5
theorem mkS_ne {a b:YL}(h:a≠b):((mkS a).toList==(mkS b).toList)=false:=by
 rw [Lib.toList_data,Lib.toList_data,mk_data,mk_data];simpa using h
theorem mkS_eq {a b:YL}(h:a=b):((mkS a).toList==(mkS b).toList)=true:=by
 subst h;simp
theorem par_hit {s:YL}(h:(pG s).print=s):nG s=pG s/\parE s=0:=by
 have:=parse_eq s
 unfold parseI at this
 rw [if_pos h] at this
 unfold nG parE
 rw [←this];exact ⟨rfl,rfl⟩
theorem par_miss {s:YL}(h:¬ (pG s).print=s):nG s=Ver.zero/\parE s=5:=by
 have:=parse_eq s
 unfold parseI at this
 rw [if_neg h] at this
 unfold nG parE
 rw [←this];exact ⟨rfl,rfl⟩
def PEnd (s:YL)(w:World)(e:Ending)(w':World):Prop:=e= .returned (.tuple #[kJ (nG s),YI (parE s)])/\YB w w'
theorem ver_one (a b c:Int)(p q:ByteArray):(#[YI a,YI b,YI c,.string p,.string q]:Array Value).all (·.oneCell')=true:=by simp [Value.oneCell']
theorem parse_done {s:YL}{w wr:World}{v:Ver}{n:Int}{tmps:Array Value}{old:Array Value}(h2:tmps.getD 2 undef= .pointer (some ⟨w.heap.size,0,none⟩))(h3:tmps.getD 3 undef=YI n)
  (hg:wr.heap[w.heap.size]?=some (.cells old 24)) (hbel:YB w wr) (hv:nG s=v) (hn:parE s=n):
  bodyPost YP Tryz.f105 (PEnd s w) .ret ⟨tmps,[]⟩ (wr.setRow w.heap.size (ZP v)):=by
 have hrow:=setRow_heap wr w.heap.size _ (ZP v) _ _ hg
 have hr:=run_loadVar_row (P:=YP) _ w.heap.size 24 24 _ _ _ hrow Tryz.underlying24 rfl Kr
 have h2':tmps[2]?.getD undef= .pointer (some ⟨w.heap.size,0,none⟩):=by simpa using h2
 have h3':tmps[3]?.getD undef=YI n:=by simpa using h3
 refine bodyPost_ret (v:= .tuple #[kJ v,YI n]) (by simp [results,Tryz.results105,asAddr,h2',h3',hr,kJ]) rfl ⟨by rw [hv,hn],tI hbel (Nat.le_refl _) _⟩
theorem parse_any0 (s:YL)(w:World)(hs:s.length<=1048576)(ht:HasTab w):
  YC 105 #[.string (mkS s)] w (PEnd s w):=by
 obtain ⟨s1,bl,f1,h1⟩:∃ a b c,zA 43 s=(a,b,c):=⟨_,_,_,rfl⟩
 obtain ⟨s2,pr,f2,h2⟩:∃ a b c,zA 45 s1=(a,b,c):=⟨_,_,_,rfl⟩
 obtain ⟨ma,s3,f3,h3⟩:∃ a b c,zA 46 s2=(a,b,c):=⟨_,_,_,rfl⟩
 obtain ⟨mi,pa,f4,h4⟩:∃ a b c,zA 46 s3=(a,b,c):=⟨_,_,_,rfl⟩
 have l1:=jX 43 s
 have l2:=jX 45 s1
 have l3:=jX 46 s2
 have l4:=jX 46 s3
 rw [h1] at l1
 rw [h2] at l2
 rw [h3] at l3
 rw [h4] at l4
 dsimp only at l1 l2 l3 l4
 have hG:pG s=⟨zK ma,zK mi,zK pa,pr,bl⟩:=by
  unfold pG;simp only [h1,h2,h3,h4]
 have c1:=λw'=>jV s 43 w' Om
 have c2:=λw'=>jV s1 45 w' Om
 have c3:=λw'=>jV s2 46 w' Om
 have c4:=λw'=>jV s3 46 w' Om
 rw [h1] at c1
 rw [h2] at c2
 rw [h3] at c3
 rw [h4] at c4
 dsimp only at c1 c2 c3 c4
 have cP:=λw' (h:HasTab w')=>vprint_any (pG s) w' (by rw [hG];show pr.length<=_;omega) (by rw [hG];show bl.length<=_;omega) h
 obtain ⟨P,hP⟩:∃ P,(pG s).print=P:=⟨_,rfl⟩
 rw [hP,hG] at cP
 unfold kJ at cP
 dsimp only at cP
 have HG:=Lib.hid hG
 have HP:=Lib.hid hP
 clear hG hP h1 h2 h3 h4
 have la:ma.length<=maxLen:=by unfold maxLen;omega
 have lb:mi.length<=maxLen:=by unfold maxLen;omega
 have lc:pa.length<=maxLen:=by unfold maxLen;omega
 obtain ⟨na,hna⟩:∃ n,zK ma=n:=⟨_,rfl⟩
 obtain ⟨nb,hnb⟩:∃ n,zK mi=n:=⟨_,rfl⟩
 obtain ⟨nc,hnc⟩:∃ n,zK pa=n:=⟨_,rfl⟩
 have n1:=λw'=>tX ma w' la
 have n2:=λw'=>tX mi w' lb
 have n3:=λw'=>tX pa w' lc
 rw [hna] at n1
 rw [hnb] at n2
 rw [hnc] at n3
 rw [hna,hnb,hnc] at cP HG
 clear hna hnb hnc
 have cR:=λw'=>release_any na nb nc w'
 unfold kJ Ver.rel at cR
 dsimp only at cR
 go_enter Tryz.func105,Tryz.ntmps105
 go_wp2_with fail
 refine (c1 _).mono ?_
 rintro e w1 ⟨rfl,hb1⟩
 go_wp2_with fail
 refine (c2 _).mono ?_
 rintro e w2 ⟨rfl,hb2⟩
 go_wp2_with fail
 refine (c3 _).mono ?_
 rintro e w3 ⟨rfl,hb3⟩
 go_wp2_with fail
 refine (c4 _).mono ?_
 rintro e w4 ⟨rfl,hb4⟩
 go_wp2_with fail
 refine (n1 _).mono ?_
 rintro e w5 ⟨rfl,hb5⟩
 go_wp2_with fail
 refine (n2 _).mono ?_
 rintro e w6 ⟨rfl,hb6⟩
 go_wp2_with fail
 refine (n3 _).mono ?_
 rintro e w7 ⟨rfl,hb7⟩
 go_wp2_with fail
 refine (cR _).mono ?_
 rintro e w8 ⟨rfl,hb8⟩
 have hz1:=hb1.size
 have hz2:=hb2.size
 have hz3:=hb3.size
 have hz4:=hb4.size
 have hz5:=hb5.size
 have hz6:=hb6.size
 have hz7:=hb7.size
 have hz8:=hb8.size
 rw [wN] at hz1
 have hbv:Below (w.heap.size+1) (w.alloc (.cells #[YI 0,YI 0,YI 0,.string ⟨#[]⟩,.string ⟨#[]⟩] 24)) w8:=
  (((((((hb1.mono (by rw [wN];omega)).trans (hb2.mono Om)).trans (hb3.mono Om)).trans (hb4.mono Om)).trans (hb5.mono Om)).trans (hb6.mono Om)).trans (hb7.mono Om)).trans (hb8.mono Om)
 have hbw:YB w w8:=((Below.refl _ _).alloc (Nat.le_refl _) _).trans (hbv.mono Om)
 have hg8:=Lib.hid ((hbv.block w.heap.size Om).trans (fL w _))
 have hsw:w.heap.size<w8.heap.size:=by omega
 clear hz1 hz2 hz3 hz4 hz5 hz6 hz7 hz8 hbv
 go_wp2_with fail
 refine (cP _ (ht.on (hbw.alloc Om _))).mono ?_
 rintro e w9 ⟨rfl,hb9⟩
 have hz9:=hb9.size
 rw [wN] at hz9
 have hg9:=Lib.hid (((hb9.block w.heap.size (by rw [wN];omega)).trans (heap_old w8 _ hsw)).trans hg8.out)
 have hgv:=Lib.hid ((hb9.block w8.heap.size (by rw [wN];omega)).trans (fL w8 _))
 have hbw9:YB w w9:=(hbw.alloc Om _).trans (hb9.mono (by rw [wN];omega))
 by_cases hPs:P=s
 ·have hne:=mkS_eq hPs
  have hne2:((mkS P).toList !=(mkS s).toList)=false:=by rw [bne,hne];rfl
  have HPS:=Lib.hid hPs
  clear hPs
  go_wp2_with fail
  refine (pO (mkS pr) _ (by rw [zQ];omega)).mono ?_
  rintro e w10 ⟨rfl,hb10⟩
  go_wp2_with fail
  refine (pO (mkS bl) _ (by rw [zQ];omega)).mono ?_
  rintro e w11 ⟨rfl,hb11⟩
  have hz10:=hb10.size
  have hz11:=hb11.size
  have hg11:=Lib.hid ((hb11.block w.heap.size Om).trans ((hb10.block w.heap.size Om).trans hg9.out))
  have hgv11:=Lib.hid ((hb11.block w8.heap.size Om).trans ((hb10.block w8.heap.size Om).trans hgv.out))
  have hbw11:YB w w11:=(hbw9.trans (hb10.mono Om)).trans (hb11.mono Om)
  obtain ⟨c3,f3⟩:=qP (j:=3) hgv11.out (by simp)
  obtain ⟨c4,f4⟩:=qP (j:=4) hgv11.out (by simp)
  have e3:=setCell_eq_setRow w11 w8.heap.size 3 _ _ _ (.string (mkS pr)) hgv11.out
  have hq3:=setRow_heap w11 w8.heap.size _ #[YI na,YI nb,YI nc,.string (mkS pr),.string (mkS bl)] _ _ hgv11.out
  have e4:=setCell_eq_setRow _ w8.heap.size 4 _ _ _ (.string (mkS bl)) hq3
  have hwv:(w11.setCell ⟨w8.heap.size,3,none⟩ (.string (mkS pr))).setCell ⟨w8.heap.size,4,none⟩ (.string (mkS bl))=(w11.setRow w8.heap.size #[YI na,YI nb,YI nc,.string (mkS pr),.string (mkS bl)]).setRow w8.heap.size #[YI na,YI nb,YI nc,.string (mkS pr),.string (mkS bl)]:=by rw [e3];exact e4
  have hL:((w11.setCell ⟨w8.heap.size,3,none⟩ (.string (mkS pr))).setCell ⟨w8.heap.size,4,none⟩ (.string (mkS bl))).heap[w8.heap.size]?=some (.cells #[YI na,YI nb,YI nc,.string (mkS pr),.string (mkS bl)] 24):=by
   rw [hwv];exact setRow_heap _ _ _ _ _ _ hq3
  have hL0:((w11.setCell ⟨w8.heap.size,3,none⟩ (.string (mkS pr))).setCell ⟨w8.heap.size,4,none⟩ (.string (mkS bl))).heap[w.heap.size]?=some (.cells #[YI 0,YI 0,YI 0,.string ⟨#[]⟩,.string ⟨#[]⟩] 24):=by
   rw [hwv,pV _ _ _ _ Om,pV _ _ _ _ Om];exact hg11.out
  have hbL:Below w.heap.size w ((w11.setCell ⟨w8.heap.size,3,none⟩ (.string (mkS pr))).setCell ⟨w8.heap.size,4,none⟩ (.string (mkS bl))):=(hbw11.setCell (by simp;omega) _).setCell (by simp;omega) _
  have HL:=Lib.hid hL
  have HL0:=Lib.hid hL0
  clear e3 hq3 e4 hwv hL hL0
  go_wp2_with (first
   |(refine wpList_load_row rfl 24 _ rfl w8.heap.size rfl _ _ _ _ HL.out Tryz.underlying24 rfl Kr ?_)
   |(refine wpList_store_row rfl 24 _ _ rfl w.heap.size #[.int .i64 na,.int .i64 nb,.int .i64 nc,.string (mkS pr),.string (mkS bl)] rfl rfl _ _ HL0.out Kr rfl (ver_one _ _ _ _ _) ?_))
  have hit:=par_hit (HP.out.trans HPS.out)
  exact parse_done (v:=⟨na,nb,nc,pr,bl⟩) rfl rfl HL0.out hbL (hit.1.trans HG.out) hit.2
 ·have hne:=mkS_ne hPs
  have hne2:((mkS P).toList !=(mkS s).toList)=true:=by rw [bne,hne];rfl
  go_wp2_with (refine wpList_store_row rfl 24 _ _ rfl w.heap.size #[YI 0,YI 0,YI 0,.string ⟨#[]⟩,.string ⟨#[]⟩] rfl rfl _ _ hg9.out Kr rfl (ver_one _ _ _ _ _) ?_)
  exact parse_done (v:=Ver.zero) rfl rfl hg9.out hbw9 (par_miss (λe=>hPs (HP.out.symm.trans e))).1 (par_miss (λe=>hPs (HP.out.symm.trans e))).2
theorem parse_any (s:YL)(w:World)(hs:s.length<=1048576)(ht:HasTab w):
  YC 105 #[.string (mkS s)] w (YR (.tuple #[kJ (nG s),YI (parE s)]) w):=parse_any0 s w hs ht
end
section
def bumpN (v:Ver)(k:Nat):Ver:=if k=0 then Ver.rel (v.maj+1) 0 0 else if k=1 then Ver.rel v.maj (v.min+1) 0 else Ver.rel v.maj v.min (v.pat+1)
def mU (v:Ver)(part:Int):Bool:=v.may && decide (0<=part/\part<3) && !(bQ v.maj v.min v.pat part.toNat==9999)
def bumpV (v:Ver)(part:Int):Ver:=if mU v part then bumpN v part.toNat else Ver.zero
def BEnd (v:Ver)(part:Int)(w:World)(e:Ending)(w':World):Prop:=e= .returned (.tuple #[kJ (bumpV v part),.bool (mU v part)])/\YB w w'
def nextOk (v:Ver):Bool:=v.may && (!v.pre.isEmpty||mU v 2||mU v 1||mU v 0)
def nextV (v:Ver):Ver:=
 if v.may then (if v.pre.isEmpty then (if mU v 2 then bumpV v 2 else if mU v 1 then bumpV v 1 else if mU v 0 then bumpV v 0 else Ver.zero) else Ver.rel v.maj v.min v.pat) else Ver.zero
def NEnd (v:Ver)(w:World)(e:Ending)(w':World):Prop:=e= .returned (.tuple #[kJ (nextV v),.bool (nextOk v)])/\YB w w'
def findB (v:Ver):Nat->Ver×Bool
 |0=>(Ver.zero,false)
 |k+1=>if mU v k then (bumpV v k,true) else findB v k
end
section
def kT:List Nat->List Nat->Int
 | [],[]=>0
 | [],_::_=> -1
 |_::_,[]=>1
 |a::l,b::m=>if a<b then-1 else if b<a then 1 else kT l m
theorem cmpL_cons (a b:Nat)(l m:List Nat):kT (a::l) (b::m)=if a<b then-1 else if b<a then 1 else kT l m:=rfl
theorem cmpL_self (a:List Nat):kT a a=0:=by
 induction a with
 |nil=>rfl
 |cons x l ih=>rw [kT,if_neg Om,if_neg Om];exact ih
theorem cmpL_anti (a:List Nat):∀ b,kT b a= -kT a b:=by
 induction a with
 |nil=>intro b;cases b<;>rfl
 |cons x l ih=>
  intro b
  cases b with
  |nil=>rfl
  |cons y m=>
   rw [kT,kT]
   by_cases h1:x<y
   ·rw [if_neg Om,if_pos h1,if_pos h1];rfl
   ·by_cases h2:y<x
    ·rw [if_pos h2,if_neg h1,if_pos h2]
    ·rw [if_neg h2,if_neg h1,if_neg h1,if_neg h2];exact ih m
theorem cmpL_range (a:List Nat):∀ b,kT a b= -1\/kT a b=0\/kT a b=1:=by
 induction a with
 |nil=>intro b;cases b<;>simp [kT]
 |cons x l ih=>
  intro b
  cases b with
  |nil=>simp [kT]
  |cons y m=>
   rw [kT]
   split
   ·simp
   ·split
    ·simp
    ·exact ih m
theorem cmpL_zero (a:List Nat):∀ b,kT a b=0->a=b:=by
 induction a with
 |nil=>intro b;cases b<;>simp [kT]
 |cons x l ih=>
  intro b
  cases b with
  |nil=>simp [kT]
  |cons y m=>
   rw [kT]
   split
   ·intro h;omega
   ·split
    ·intro h;omega
    ·intro h;rw [ih m h,show x=y from by omega]
theorem cmpL_trans (a:List Nat):∀ b c,kT a b<=0->kT b c<=0->kT a c<=0/\(kT a c=0->kT a b=0/\kT b c=0):=by
 induction a with
 |nil=>
  intro b c h1 h2
  cases b with
  |nil=>cases c<;>simp [kT]
  |cons y m=>
   cases c with
   |nil=>simp [kT] at h2
   |cons z n=>simp [kT]
 |cons x l ih=>
  intro b c h1 h2
  cases b with
  |nil=>simp [kT] at h1
  |cons y m=>
   cases c with
   |nil=>simp [kT] at h2
   |cons z n=>
    simp only [cmpL_cons] at h1 h2 ⊢
    by_cases a1:x<y
    ·simp only [if_pos a1] at h1 ⊢
     by_cases a2:y<z
     ·have:x<z:=by omega
      simp only [if_pos this];omega
     ·by_cases a3:z<y
      ·simp only [if_neg a2,if_pos a3] at h2;omega
      ·have:x<z:=by omega
       simp only [if_pos this];omega
    ·by_cases a1':y<x
     ·simp only [if_neg a1,if_pos a1'] at h1;omega
     ·simp only [if_neg a1,if_neg a1'] at h1 ⊢
      obtain rfl:x=y:=by omega
      by_cases a2:x<z
      ·simp only [if_pos a2];omega
      ·by_cases a3:z<x
       ·simp only [if_neg a2,if_pos a3] at h2;omega
       ·simp only [if_neg a2,if_neg a3] at h2 ⊢
        exact ih m n h1 h2
def oneR (a b:YL):Int:=
 if vY a && vY b then Lib.compareInt (zK a) (zK b) else if vY a then-1 else if vY b then 1 else Lib.compareBytes a b
def presL:List YL->List YL->Int
 | [],[]=>0
 | [],_::_=> -1
 |_::_,[]=>1
 |a::l,b::m=>if oneR a b≠0 then oneR a b else presL l m
def presR (a b:YL):Int:=if a=b then 0 else if a=[] then 1 else if b=[] then-1 else presL (pcs a) (pcs b)
def tagKey (t:YL):List Nat:=if vY t then [1,(zK t).toNat] else 2::(t.map (λc=>c.toNat+1)++[0])
def n4 (l:List YL):List Nat:=l.flatMap tagKey++[0]
def preKey (p:YL):List Nat:=if p=[] then [3] else n4 (pcs p)
def Ver.key (v:Ver):List Nat:=v.maj.toNat::v.min.toNat::v.pat.toNat::preKey v.pre
theorem numD_nat (t:YL):0<=zK t:=by unfold zK;omega
theorem cmpL_bytes (a:YL):∀ (b:YL) (x y:List Nat),kT (a.map (λc=>c.toNat+1)++0::x) (b.map (λc=>c.toNat+1)++0::y)=if Lib.compareBytes a b≠0 then Lib.compareBytes a b else kT x y:=by
 induction a with
 |nil=>
  intro b x y
  cases b with
  |nil=>simp [kT,Lib.compareBytes]
  |cons c r=>simp [kT,Lib.compareBytes]
 |cons c r ih=>
  intro b x y
  cases b with
  |nil=>simp [kT,Lib.compareBytes]
  |cons d q=>
   simp only [List.map_cons,List.cons_append,cmpL_cons]
   by_cases h1:c<d
   ·have h1':c.toNat<d.toNat:=UInt8.lt_iff_toNat_lt.1 h1
    have e:Lib.compareBytes (c::r) (d::q)= -1:=by rw [Lib.compareBytes,if_pos h1]
    rw [e,if_pos Om];rfl
   ·by_cases h2:d<c
    ·have h2':d.toNat<c.toNat:=UInt8.lt_iff_toNat_lt.1 h2
     have e:Lib.compareBytes (c::r) (d::q)=1:=by rw [Lib.compareBytes,if_neg h1,if_pos h2]
     rw [e,if_neg Om,if_pos Om];rfl
    ·have a1:¬ c.toNat<d.toNat:=λh=>h1 (UInt8.lt_iff_toNat_lt.2 h)
     have a2:¬ d.toNat<c.toNat:=λh=>h2 (UInt8.lt_iff_toNat_lt.2 h)
     have e:Lib.compareBytes (c::r) (d::q)=Lib.compareBytes r q:=by rw [Lib.compareBytes,if_neg h1,if_neg h2]
     rw [e,if_neg Om,if_neg Om]
     exact ih q x y
theorem cmpL_tag (a b:YL)(x y:List Nat):kT (tagKey a++x) (tagKey b++y)=if oneR a b≠0 then oneR a b else kT x y:=by
 unfold tagKey oneR
 cases ha:vY a<;>cases hb:vY b
 ·have:=cmpL_bytes a b x y
  simpa [kT] using this
 ·simp [kT]
 ·simp [kT]
 ·have h1:=numD_nat a
  have h2:=numD_nat b
  simp only [Bool.and_true,if_true,List.cons_append,List.nil_append,kT,Lib.compareInt]
  by_cases h:zK a<zK b
  ·rw [if_pos h,if_pos (by omega:(zK a).toNat<(zK b).toNat)];rfl
  ·by_cases h':zK b<zK a
   ·rw [if_neg h,if_pos h',if_neg (by omega:¬ (zK a).toNat<(zK b).toNat),if_pos (by omega:(zK b).toNat<(zK a).toNat)];rfl
   ·rw [if_neg h,if_neg h',if_neg (by omega:¬ (zK a).toNat<(zK b).toNat),if_neg (by omega:¬ (zK b).toNat<(zK a).toNat)];rfl
theorem tag_cons (a:YL):∃ k r,tagKey a=k::r/\0<k/\k<3:=by
 unfold tagKey;split
 ·exact ⟨_,_,rfl,by omega,by omega⟩
 ·exact ⟨_,_,rfl,by omega,by omega⟩
theorem cmpL_tail (l:List YL):∀ m,kT (n4 l) (n4 m)=presL l m:=by
 induction l with
 |nil=>
  intro m
  cases m with
  |nil=>rfl
  |cons b m=>
   obtain ⟨k,r,e,h,_⟩:=tag_cons b
   unfold n4
   rw [List.flatMap_cons,e]
   simp [kT,presL,h]
 |cons a l ih=>
  intro m
  cases m with
  |nil=>
   obtain ⟨k,r,e,h,_⟩:=tag_cons a
   unfold n4
   rw [List.flatMap_cons,e]
   simp [kT,presL,h]
  |cons b m=>
   have:=ih m
   unfold n4 at this ⊢
   rw [List.flatMap_cons,List.flatMap_cons,List.append_assoc,List.append_assoc,cmpL_tag,this,presL]
theorem tail_small (l:List YL):∃ k r,n4 l=k::r/\k<3:=by
 unfold n4
 cases l with
 |nil=>exact ⟨0,[],rfl,by omega⟩
 |cons a l=>
  obtain ⟨k,r,e,_,h⟩:=tag_cons a
  exact ⟨k,r++(l.flatMap tagKey++[0]),by rw [List.flatMap_cons,e];simp,h⟩
theorem presR_key (a b:YL):presR a b=kT (preKey a) (preKey b):=by
 unfold presR
 by_cases h:a=b
 ·rw [if_pos h,h,cmpL_self]
 ·rw [if_neg h]
  unfold preKey
  by_cases ha:a=[]
  ·have hb:b≠[]:=λe=>h (ha.trans e.symm)
   rw [if_pos ha,if_pos ha,if_neg hb]
   obtain ⟨k,r,e,hk⟩:=tail_small (pcs b)
   rw [e,kT,if_neg Om,if_pos hk]
  ·rw [if_neg ha,if_neg ha]
   by_cases hb:b=[]
   ·rw [if_pos hb,if_pos hb]
    obtain ⟨k,r,e,hk⟩:=tail_small (pcs a)
    rw [e,kT,if_pos hk]
   ·rw [if_neg hb,if_neg hb];exact (cmpL_tail _ _).symm
def cmpN (v w:Ver):Int:=
 if Lib.compareInt v.maj w.maj≠0 then Lib.compareInt v.maj w.maj
 else if Lib.compareInt v.min w.min≠0 then Lib.compareInt v.min w.min
 else Lib.compareInt v.pat w.pat
def mS (v w:Ver):Int:=if v.may && w.may then (if cmpN v w≠0 then cmpN v w else presR v.pre w.pre) else 0
theorem may_nat {v:Ver}(h:v.may=true):(0<=v.maj/\v.maj<=9999)/\(0<=v.min/\v.min<=9999)/\(0<=v.pat/\v.pat<=9999):=by
 obtain ⟨h1,h2,h3⟩:=qN h
 unfold zT at h1 h2 h3;simp at h1 h2 h3
 exact ⟨h1,h2,h3⟩
theorem cmpL_num {a b:Int}(ha:0<=a)(hb:0<=b)(x y:List Nat):kT (a.toNat::x) (b.toNat::y)=if Lib.compareInt a b≠0 then Lib.compareInt a b else kT x y:=by
 rw [kT]
 unfold Lib.compareInt
 by_cases h:a<b
 ·rw [if_pos h,if_pos Om];rfl
 ·by_cases h':b<a
  ·rw [if_neg h,if_pos h',if_neg Om,if_pos Om];rfl
  ·rw [if_neg h,if_neg h',if_neg Om,if_neg Om];rfl
theorem pN {v w:Ver}(hv:v.may=true)(hw:w.may=true):mS v w=kT v.key w.key:=by
 obtain ⟨v1,v2,v3⟩:=may_nat hv
 obtain ⟨w1,w2,w3⟩:=may_nat hw
 unfold mS
 rw [hv,hw,presR_key]
 unfold Ver.key
 rw [cmpL_num v1.1 w1.1,cmpL_num v2.1 w2.1,cmpL_num v3.1 w3.1]
 unfold cmpN
 simp only [Bool.and_true,if_true]
 by_cases h1:Lib.compareInt v.maj w.maj=0
 ·by_cases h2:Lib.compareInt v.min w.min=0
  ·simp [h1,h2]
  ·simp [h1,h2]
 ·simp [h1]
def oneP (a b:YL):Int:=
 if qM a && qM b then Lib.compareInt (zK a) (zK b) else if qM a && !b.isEmpty then-1 else if qM b && !a.isEmpty then 1 else Lib.compareBytes a b
def seqP:Nat->List YL->List YL->Int
 |0,_,_=>0
 |n+1,l,m=>if oneP (tg l 0) (tg m 0)≠0 then oneP (tg l 0) (tg m 0) else seqP n l.tail m.tail
def fine (t:YL):Bool:=kZ t && preT t
def cpre (a b:YL):Int:=if a=[] then 1 else if b=[] then-1 else seqP 4 (lst a).1 (lst b).1
theorem cmpR_bad {v w:Ver}(h:v.may=false\/w.may=false):mS v w=0:=by
 unfold mS
 rw [if_neg]
 rcases h with h|h<;>simp [h]
def wQ (v:Ver):Ver:={v with build:=[]}
theorem tS (x:Int):Lib.compareInt x x=0:=by unfold Lib.compareInt;simp
theorem cmpR_core {v w:Ver}(h:wQ v=wQ w):mS v w=0:=by
 unfold wQ at h
 simp only [Ver.mk.injEq,and_true] at h
 obtain ⟨h1,h2,h3,h4⟩:=h
 unfold mS cmpN presR
 rw [h1,h2,h3,h4]
 simp [tS]
end
section
theorem may_pre {v:Ver}(h:v.may=true):preOk v.pre=true:=by
 unfold Ver.may at h;simp only [Bool.and_eq_true] at h;exact h.1.2
theorem core_may {v:Ver}(h:v.may=true):(wQ v).may=true:=by
 have e:jQ []=true:=by decide
 unfold Ver.may at h ⊢;simp only [Bool.and_eq_true] at h ⊢
 exact ⟨⟨h.1.1,h.1.2⟩,e⟩
theorem order_self {a:Ver}:mS a a=0:=cmpR_core rfl
theorem order_core {a b:Ver}(ha:a.may=true)(hb:b.may=true):mS (wQ a) b=mS a b:=by
 rw [pN (core_may ha) hb,pN ha hb];rfl
def Ver.code (v:Ver):Int:=(v.maj*10000+v.min)*10000+v.pat
end
section
end
section
structure Co where
 op:Int
 parts:Int
 v:Ver
deriving DecidableEq
def y9 (op:Int):YL:=if op=1 then [61] else if op=2 then [33,61] else if op=3 then [60] else if op=4 then [60,61] else if op=5 then [62] else if op=6 then [62,61] else if op=7 then [94] else if op=8 then [126] else []
def Co.may (c:Co):Bool:=decide (1<=c.op/\c.op<=9) && c.v.may && decide (c.v.build=[]) && (if c.op=9 then decide (0<=c.parts/\c.parts<=2) else decide (1<=c.parts/\c.parts<=3)) && decide (3<=c.parts\/c.v.pre=[]) && decide (0<c.parts\/c.v.maj=0) && decide (1<c.parts\/c.v.min=0) && decide (2<c.parts\/c.v.pat=0)
theorem Co.facts {c:Co}(h:c.may=true):(1<=c.op/\c.op<=9)/\c.v.may=true/\c.v.build=[]/\(c.op=9->0<=c.parts/\c.parts<=2)/\(¬ c.op=9->1<=c.parts/\c.parts<=3)/\(3<=c.parts\/c.v.pre=[])/\(0<c.parts\/c.v.maj=0)/\(1<c.parts\/c.v.min=0)/\(2<c.parts\/c.v.pat=0):=by
 unfold Co.may at h
 simp only [Bool.and_eq_true,decide_eq_true_eq] at h
 obtain ⟨⟨⟨⟨⟨⟨⟨h1,h2⟩,h3⟩,h4⟩,h5⟩,h6⟩,h7⟩,h8⟩:=h
 refine ⟨h1,h2,h3,λe=> ?_,λe=> ?_,h5,h6,h7,h8⟩
 ·rw [if_pos e] at h4;exact of_decide_eq_true h4
 ·rw [if_neg e] at h4;exact of_decide_eq_true h4
theorem Co.may_iff {c:Co}:c.may=true↔(1<=c.op/\c.op<=9)/\c.v.may=true/\c.v.build=[]/\(c.op=9->0<=c.parts/\c.parts<=2)/\(¬ c.op=9->1<=c.parts/\c.parts<=3)/\(3<=c.parts\/c.v.pre=[])/\(0<c.parts\/c.v.maj=0)/\(1<c.parts\/c.v.min=0)/\(2<c.parts\/c.v.pat=0):=by
 refine ⟨Co.facts,λ⟨h1,h2,h3,k9,kn,h5,h6,h7,h8⟩=> ?_⟩
 unfold Co.may
 rw [decide_eq_true h1,h2,decide_eq_true h3,decide_eq_true h5,decide_eq_true h6,decide_eq_true h7,decide_eq_true h8]
 by_cases e:c.op=9
 ·rw [if_pos e,decide_eq_true (k9 e)];rfl
 ·rw [if_neg e,decide_eq_true (kn e)];rfl
def y7 (v:Ver)(n:Nat):List YL:=[Lib.itoa v.maj,Lib.itoa v.min,Lib.itoa v.pat].take n
def Co.rest (c:Co):YL:=if c.op=9 then zG 46 (y7 c.v c.parts.toNat++[[42]]) else zG 46 (y7 c.v c.parts.toNat)++xH 45 c.v.pre
def Co.text (c:Co):YL:=y9 c.op++c.rest
def Co.print (c:Co):YL:=if c.may then c.text else []
def yO (s t:YL):Bool:=decide (s.take t.length=t)
def qB (s:YL):Int×YL:=
 if yO s [33,61] then (2,s.drop 2) else if yO s [60,61] then (4,s.drop 2) else if yO s [62,61] then (6,s.drop 2) else if yO s [61] then (1,s.drop 1)
 else if yO s [60] then (3,s.drop 1) else if yO s [62] then (5,s.drop 1) else if yO s [94] then (7,s.drop 1) else if yO s [126] then (8,s.drop 1)
 else if s.getLast?=some 42 then (9,s) else (7,s)
def qD (op:Int)(rest:YL):List YL:=if op=9 then (pcs (zA 45 rest).1).dropLast else pcs (zA 45 rest).1
def guessC (op:Int)(rest:YL):Option Co:=
 if (qD op rest).length<=3/\(qD op rest).all qM=true then
  some ⟨op,(qD op rest).length,⟨zK (tg (qD op rest) 0),zK (tg (qD op rest) 1),zK (tg (qD op rest) 2),(zA 45 rest).2.1,[]⟩⟩
 else none
def fits (s:YL)(c:Co):Bool:= !decide (c.print=[]) && (decide (c.print=s)||decide (c.print=94::s))
def gF (s:YL):Option Co:=(guessC (qB s).1 (qB s).2).filter (fits s)
theorem print_may {c:Co}(h:¬ c.print=[]):c.may=true:=by
 cases hm:c.may with
 |true=>rfl
 |false=>exact absurd (show c.print=[] by unfold Co.print;rw [hm];rfl) h
theorem vK {c:Co}(h:c.may=true):c.print=c.text:=by unfold Co.print;rw [h];rfl
theorem parseC_back {s:YL}{c:Co}(h:gF s=some c):c.may=true/\(c.text=s\/c.text=94::s):=by
 unfold gF at h
 obtain ⟨_,h⟩:=Option.filter_eq_some_iff.1 h
 unfold fits at h
 simp only [Bool.and_eq_true,Bool.not_eq_true',decide_eq_false_iff_not,Bool.or_eq_true,decide_eq_true_eq] at h
 have hm:=print_may h.1
 rw [vK hm] at h
 exact ⟨hm,h.2⟩
theorem pcs_cons {x y:YL}(h:(46:UInt8)∉x):pcs (x++46::y)=x::pcs y:=by
 unfold pcs
 rw [xG,bM 46 _ _ h]
 simp
theorem pcs_one {x:YL}(h:(46:UInt8)∉x):pcs x=[x]:=by
 unfold pcs
 rw [xG,jW 46 _ h]
 simp
theorem pcs_join:∀ (l:List YL),l≠[]->(∀ x∈l,(46:UInt8)∉x)->pcs (zG 46 l)=l
 | [],h,_=>absurd rfl h
 | [x],_,h=>pcs_one (h x (List.mem_singleton.2 rfl))
 |x::y::r,_,h=>by
  rw [zG,pcs_cons (h x (List.mem_cons_self ..)),pcs_join (y::r) (by simp) λz hz=>h z (List.mem_cons_of_mem _ hz)]
theorem nums_mem {v:Ver}(hv:v.may=true){n:Nat}{x:YL}(h:x∈y7 v n):∃ k:Int,zT k=true/\x=Lib.itoa k:=by
 obtain ⟨h1,h2,h3⟩:=qN hv
 unfold y7 at h
 have h:=List.mem_of_mem_take h
 simp only [List.mem_cons,List.not_mem_nil,or_false] at h
 rcases h with rfl|rfl|rfl
 ·exact ⟨_,h1,rfl⟩
 ·exact ⟨_,h2,rfl⟩
 ·exact ⟨_,h3,rfl⟩
theorem bJ {v:Ver}(hv:v.may=true){n:Nat}(b:UInt8)(hb:yL b.toNat=false):∀ x∈y7 v n,b∉x:=λx hx=>by
 obtain ⟨k,hk,rfl⟩:=nums_mem hv hx
 exact d6 hk b hb
theorem m7 (b:UInt8)(hb:b≠46):∀ (l:List YL),(∀ x∈l,b∉x)->b∉zG 46 l
 | [],_=>by simp [zG]
 | [x],h=>h x (List.mem_singleton.2 rfl)
 |x::y::r,h=>by
  rw [zG]
  simp only [List.mem_append,List.mem_cons,not_or]
  exact ⟨h x (List.mem_cons_self ..),hb,m7 b hb (y::r) λz hz=>h z (List.mem_cons_of_mem _ hz)⟩
theorem wD (v:Ver){n:Nat}(h:n<=3):(y7 v n).length=n:=by
 unfold y7
 rw [List.length_take]
 simp;omega
theorem nums_num {v:Ver}(hv:v.may=true)(n:Nat):(y7 v n).all qM=true:=List.all_eq_true.2 λx hx=>by
 obtain ⟨k,hk,rfl⟩:=nums_mem hv hx
 exact numI_itoa hk
theorem nums_back {v:Ver}(hv:v.may=true){n:Nat}(h:n<=3)(h0:0<n\/v.maj=0)(h1:1<n\/v.min=0)(h2:2<n\/v.pat=0):zK (tg (y7 v n) 0)=v.maj/\zK (tg (y7 v n) 1)=v.min/\zK (tg (y7 v n) 2)=v.pat:=by
 obtain ⟨m1,m2,m3⟩:=qN hv
 have e1:=vI m1
 have e2:=vI m2
 have e3:=vI m3
 match n,h with
 |0,_=>exact ⟨(h0.resolve_left (by decide)).symm,(h1.resolve_left (by decide)).symm,(h2.resolve_left (by decide)).symm⟩
 |1,_=>exact ⟨e1,(h1.resolve_left (by decide)).symm,(h2.resolve_left (by decide)).symm⟩
 |2,_=>exact ⟨e1,e2,(h2.resolve_left (by decide)).symm⟩
 |3,_=>exact ⟨e1,e2,e3⟩
theorem guess_rest {c:Co}(h:c.may=true):guessC c.op c.rest=some c:=by
 obtain ⟨_,hv,hb,h9,hn,hp,k0,k1,k2⟩:=Co.facts h
 obtain ⟨op,parts,v⟩:=c
 simp only at hv hb h9 hn hp k0 k1 k2 ⊢
 have hparts:(parts.toNat:Int)=parts/\parts.toNat<=3:=by
  by_cases e:op=9
  ·have:=h9 e;omega
  ·have:=hn e;omega
 have key:qD op (Co.rest ⟨op,parts,v⟩)=y7 v parts.toNat/\(zA 45 (Co.rest ⟨op,parts,v⟩)).2.1=v.pre:=by
  unfold qD Co.rest
  by_cases e:op=9
  ·rw [if_pos e]
   dsimp only
   rw [if_pos e]
   have f:∀ b:UInt8,yL b.toNat=false->b≠42→∀ x∈y7 v parts.toNat++[[42]],b∉x:=λb hb hb2 x hx=>by
    rcases List.mem_append.1 hx with hx|hx
    ·exact bJ hv b hb x hx
    ·rw [List.mem_singleton.1 hx]
     intro hm
     exact hb2 (List.mem_singleton.1 hm)
   rw [jW 45 _ (m7 45 (by decide) _ (f 45 (by decide) (by decide)))]
   have hpre:v.pre=[]:=hp.resolve_left (by have:=h9 e;omega)
   exact ⟨by
    show (pcs (zG 46 (y7 v parts.toNat++[[42]]))).dropLast=_
    rw [pcs_join _ (by simp) (f 46 (by decide) (by decide)),List.dropLast_concat],hpre.symm⟩
  ·rw [if_neg e]
   dsimp only
   rw [if_neg e]
   have hne:y7 v parts.toNat≠[]:=λh0=>by
    have:=wD v hparts.2
    rw [h0] at this
    have:=hn e
    simp at*;omega
   rw [cut_tail 45 _ _ (m7 45 (by decide) _ (bJ hv 45 (by decide)))]
   exact ⟨pcs_join _ hne (bJ hv 46 (by decide)),rfl⟩
 unfold guessC
 rw [key.1,key.2,if_pos ⟨by rw [wD v hparts.2];exact hparts.2,nums_num hv _⟩]
 obtain ⟨e1,e2,e3⟩:=nums_back hv hparts.2 Om Om Om
 rw [e1,e2,e3,wD v hparts.2,hparts.1]
 obtain ⟨a,b,p,q,r⟩:=v
 simp only at hb
 rw [hb]
theorem itoa_head {k:Int}(h:zT k=true):∃ d r,Lib.itoa k=d::r/\yL d.toNat=true:=by
 have hm:=num_itoa h
 cases e:Lib.itoa k with
 |nil=>rw [e] at hm;cases hm
 |cons d r=>exact ⟨d,r,rfl,by
   have:=dig_mem k.toNat d (by rw [←itoa_nat h,e];exact List.mem_cons_self)
   exact this⟩
theorem join_head {x:YL}{l:List YL}{d:UInt8}{r:YL}(h:x=d::r):∃ r',zG 46 (x::l)=d::r':=by
 subst h
 cases l with
 |nil=>exact ⟨r,rfl⟩
 |cons y t=>exact ⟨_,rfl⟩
theorem nY {c:Co}(h:c.may=true)(hn:¬ c.op=9):∃ d r,c.rest=d::r/\yL d.toNat=true:=by
 obtain ⟨_,hv,_,_,h9,_⟩:=Co.facts h
 obtain ⟨d,r,e,hd⟩:=itoa_head (qN hv).1
 obtain ⟨n,en⟩:∃ n,c.parts.toNat=n+1:=⟨c.parts.toNat-1,by have:=h9 hn;omega⟩
 obtain ⟨r',e'⟩:=join_head (l:=[Lib.itoa c.v.min,Lib.itoa c.v.pat].take n) e
 refine ⟨d,r'++xH 45 c.v.pre, ?_,hd⟩
 unfold Co.rest y7
 rw [if_neg hn,en,List.take_succ_cons,e'];rfl
theorem star_head {c:Co}(h:c.may=true)(hn:c.op=9):∃ d r,c.rest=d::r/\(yL d.toNat=true\/d=42):=by
 obtain ⟨_,hv,_,h9,_⟩:=Co.facts h
 obtain ⟨d,r,e,hd⟩:=itoa_head (qN hv).1
 unfold Co.rest y7
 rw [if_pos hn]
 cases hp:c.parts.toNat with
 |zero=>exact ⟨42,[],rfl,.inr rfl⟩
 |succ n=>
  obtain ⟨r',e'⟩:=join_head (l:=[Lib.itoa c.v.min,Lib.itoa c.v.pat].take n++[[42]]) e
  exact ⟨d,r',by rw [List.take_succ_cons,List.cons_append,e'],.inl hd⟩
theorem vT {d:UInt8}{r:YL}{a:UInt8}{t:YL}(h:d≠a):yO (d::r) (a::t)=false:=decide_eq_false λe=>by
 rw [List.length_cons,List.take_succ_cons] at e
 injection e with e1 _
 exact h e1
theorem split_plain {d:UInt8}{r:YL}(h:yL d.toNat=true\/d=42):qB (d::r)=if (d::r).getLast?=some 42 then (9,d::r) else (7,d::r):=by
 have hd:∀ a:UInt8,yL a.toNat=false->a≠42->d≠a:=λa ha h42 e=>by
  subst e
  rcases h with h|h
  ·rw [ha] at h;cases h
  ·exact h42 h
 unfold qB
 rw [vT (hd 33 (by decide) (by decide)),vT (hd 60 (by decide) (by decide)),vT (hd 62 (by decide) (by decide)),vT (hd 61 (by decide) (by decide)),vT (hd 60 (by decide) (by decide)),vT (hd 62 (by decide) (by decide)),vT (hd 94 (by decide) (by decide)),vT (hd 126 (by decide) (by decide))]
 rfl
theorem split_sign {op:Int}(h1:1<=op)(h8:op<=8){d:UInt8}{r:YL}(hd:yL d.toNat=true):qB (y9 op++d::r)=(op,d::r):=by
 have h61:d≠61:=λe=>by subst e;revert hd;decide
 have hop:op=1\/op=2\/op=3\/op=4\/op=5\/op=6\/op=7\/op=8:=by omega
 rcases hop with rfl|rfl|rfl|rfl|rfl|rfl|rfl|rfl<;>simp [y9,qB,yO,h61]
theorem last_join (x:YL):∀ (l:List YL),(zG 46 (l++[x++[42]])).getLast?=some 42
 | []=>by simp [zG]
 | [y]=>by
  show (y++46::(x++[42])).getLast?=some 42
  rw [show y++46::(x++[42])=(y++46::x)++[42] from by simp,List.getLast?_concat]
 |y::z::r=>by
  have:=last_join x (z::r)
  show (y++46::zG 46 (z::r++[x++[42]])).getLast?=some 42
  rw [List.getLast?_append]
  cases hj:zG 46 (z::r++[x++[42]]) with
  |nil=>rw [hj] at this;cases this
  |cons a b=>rw [hj] at this;rw [List.getLast?_cons_cons,this];rfl
theorem star_free (s:YL)(h:jQ s=true):(42:UInt8)∉s:=by
 intro hm
 unfold jQ at h
 rcases splitL_mem 46 s [] 42 hm with e|⟨x,hx,hc⟩
 ·revert e;decide
 ·have hne:s.isEmpty=false:=by cases s with
   |nil=>cases hm
   |cons _ _=>rfl
  rw [hne,Bool.false_or,Bool.and_eq_true] at h
  have:=List.all_eq_true.1 h.2 x hx
  unfold kZ at this
  rw [Bool.and_eq_true] at this
  have:=List.all_eq_true.1 this.2 _ hc
  revert this;decide
theorem rest_star {c:Co}(h:c.may=true)(hn:¬ c.op=9):(42:UInt8)∉c.rest:=by
 obtain ⟨_,hv,_⟩:=Co.facts h
 have hl:jQ c.v.pre=true:=by
  have:=may_pre hv
  unfold preOk at this
  exact (Bool.and_eq_true_iff.1 this).1
 unfold Co.rest
 rw [if_neg hn]
 intro hm
 rcases List.mem_append.1 hm with hm|hm
 ·exact m7 42 (by decide) _ (bJ hv 42 (by decide)) hm
 ·unfold xH at hm
  split at hm
  ·cases hm
  ·rcases List.mem_cons.1 hm with e|hm
   ·revert e;decide
   ·exact star_free _ hl hm
theorem split_text {c:Co}(h:c.may=true):qB c.text=(c.op,c.rest):=by
 obtain ⟨ho,_⟩:=Co.facts h
 unfold Co.text
 by_cases hn:c.op=9
 ·obtain ⟨d,r,e,hd⟩:=star_head h hn
  have hl:c.rest.getLast?=some 42:=by unfold Co.rest;rw [if_pos hn];exact last_join [] _
  rw [hn,show y9 9=[] from rfl,List.nil_append]
  rw [e] at hl ⊢
  rw [split_plain hd,if_pos hl]
 ·obtain ⟨d,r,e,hd⟩:=nY h hn
  rw [e]
  exact split_sign ho.1 Om hd
theorem parseC_text {c:Co}(h:c.may=true):gF c.text=some c:=by
 unfold gF
 rw [split_text h,guess_rest h]
 refine Option.filter_eq_some_iff.2 ⟨rfl, ?_⟩
 have hne:¬ c.text=[]:=λe=>by
  unfold Co.text at e
  have e2:=(List.append_eq_nil_iff.1 e).2
  by_cases hn:c.op=9
  ·obtain ⟨d,r,e3,_⟩:=star_head h hn;rw [e3] at e2;cases e2
  ·obtain ⟨d,r,e3,_⟩:=nY h hn;rw [e3] at e2;cases e2
 unfold fits
 rw [vK h,decide_eq_false hne,decide_eq_true rfl];rfl
theorem parseC_caret {c:Co}{s:YL}(h:c.may=true)(hs:c.text=94::s):gF s=some c:=by
 obtain ⟨ho,_⟩:=Co.facts h
 have hop:c.op=7/\c.rest=s:=by
  unfold Co.text at hs
  by_cases hn:c.op=9
  ·obtain ⟨d,r,e,hd⟩:=star_head h hn
   rw [hn,show y9 9=[] from rfl,List.nil_append,e] at hs
   injection hs with e1 _
   rw [e1] at hd
   exact absurd hd (by decide)
  ·have hop:c.op=1\/c.op=2\/c.op=3\/c.op=4\/c.op=5\/c.op=6\/c.op=7\/c.op=8:=by omega
   rcases hop with e|e|e|e|e|e|e|e<;>rw [e] at hs<;>simp [y9] at hs
   exact ⟨e,hs⟩
 obtain ⟨d,r,e,hd⟩:=nY h Om
 have h42:¬ s.getLast?=some 42:=λhl=>by
  have:=List.mem_of_getLast? hl
  rw [←hop.2] at this
  exact rest_star h Om this
 unfold gF
 have hsp:qB s=(7,s):=by
  rw [←hop.2,e,split_plain (.inl hd),if_neg (by rw [←e,hop.2];exact h42)]
 rw [hsp]
 have hg:=guess_rest h
 rw [hop.1,hop.2] at hg
 rw [hg]
 refine Option.filter_eq_some_iff.2 ⟨rfl, ?_⟩
 unfold fits
 rw [vK h,hs,decide_eq_false (by simp),decide_eq_true rfl,Bool.or_true];rfl
theorem t7 (s:YL)(c:Co):gF s=some c↔c.may=true/\(c.text=s\/c.text=94::s):=
 ⟨parseC_back,λ⟨hm,h⟩=>h.elim (λe=>e▸parseC_text hm) (λe=>parseC_caret hm e)⟩
end
section
def vN (sep:YL):List YL->YL
 | []=>[]
 | [x]=>x
 |x::y::l=>x++sep++vN sep (y::l)
theorem pE (sep x y:YL)(l:List YL):vN sep (x::y::l)=x++sep++vN sep (y::l):=rfl
theorem joinB_snoc (sep x:YL):∀ (l:List YL),vN sep (l++[x])=if l=[] then x else vN sep l++sep++x
 | []=>rfl
 | [y]=>rfl
 |y::z::l=>by
  rw [if_neg (by simp)]
  show y++sep++vN sep ((z::l)++[x])=y++sep++vN sep (z::l)++sep++x
  rw [joinB_snoc sep x (z::l),if_neg (by simp)]
  simp only [List.append_assoc]
def sumN:List Nat->Nat
 | []=>0
 |n::l=>n+sumN l
theorem joinB_len (sep:YL):∀ (l:List YL),(vN sep l).length=sumN (l.map (·.length))+(l.length-1)*sep.length
 | []=>by simp [vN,sumN]
 | [x]=>by simp [vN,sumN]
 |x::y::l=>by
  rw [pE,List.length_append,List.length_append,joinB_len sep (y::l)]
  show x.length+sep.length+(sumN ((y::l).map (·.length))+((y::l).length-1)*sep.length)=x.length+sumN ((y::l).map (·.length))+((y::l).length+1-1)*sep.length
  have e:((y::l).length+1-1)*sep.length=((y::l).length-1)*sep.length+sep.length:=by
   rw [show (y::l).length+1-1=((y::l).length-1)+1 from by simp,Nat.add_mul,Nat.one_mul]
  omega
def xN (a:List Co):YL:=vN [44,32] (a.map Co.print)
def kN (r:List (List Co)):YL:=vN [32,124,124,32] (r.map xN)
def fewA (a:List Co):Bool:=decide (1<=a.length/\a.length<=6) && a.all Co.may
def fewR (r:List (List Co)):Bool:=decide (1<=r.length/\r.length<=6) && r.all fewA
def rgMay (r:List (List Co)):Bool:=fewR r && decide ((kN r).length<=96)
def wB (r:List (List Co)):YL:=if rgMay r then kN r else []
theorem fewA.facts {a:List Co}(h:fewA a=true):(1<=a.length/\a.length<=6)∧∀ c∈a,c.may=true:=by
 unfold fewA at h
 rw [Bool.and_eq_true,decide_eq_true_eq] at h
 exact ⟨h.1,List.all_eq_true.1 h.2⟩
theorem fewR.facts {r:List (List Co)}(h:fewR r=true):(1<=r.length/\r.length<=6)∧∀ a∈r,fewA a=true:=by
 unfold fewR at h
 rw [Bool.and_eq_true,decide_eq_true_eq] at h
 exact ⟨h.1,List.all_eq_true.1 h.2⟩
theorem rgMay.facts {r:List (List Co)}(h:rgMay r=true):fewR r=true/\(kN r).length<=96:=by
 unfold rgMay at h
 rw [Bool.and_eq_true,decide_eq_true_eq] at h
 exact h
def yI:YL->YL
 | []=>[]
 |c::l=>if c=32 then yI l else c::l
def yE (s:YL):YL:=(yI (yI s).reverse).reverse
def kB:YL->YL->List YL
 |acc,[]=>[acc]
 |acc,[c]=>[acc++[c]]
 |acc,c::d::r=>if c=124/\d=124 then acc::kB [] r else kB (acc++[c]) (d::r)
def fP {α β:Type}(f:α->Option β):List α->Option (List β)
 | []=>some []
 |x::l=>match f x,fP f l with
  |some y,some m=>some (y::m)
  |_,_=>none
theorem allO_cons {α β:Type}{f:α->Option β}{x:α}{l:List α}{y:β}{m:List β}(h1:f x=some y)(h2:fP f l=some m):fP f (x::l)=some (y::m):=by
 show (match f x,fP f l with|some y,some m=>some (y::m)|_,_=>none)=_
 rw [h1,h2]
theorem allO_inv {α β:Type}{f:α->Option β}{x:α}{l:List α}{m:List β}(h:fP f (x::l)=some m):∃ y m',m=y::m'/\f x=some y/\fP f l=some m':=by
 have h:(match f x,fP f l with|some y,some m=>some (y::m)|_,_=>none)=some m:=h
 cases h1:f x with
 |none=>rw [h1] at h;cases h
 |some y=>
  cases h2:fP f l with
  |none=>rw [h1,h2] at h;cases h
  |some m'=>rw [h1,h2] at h;injection h with h;exact ⟨y,m',h.symm,rfl,rfl⟩
theorem allO_none {α β:Type}{f:α->Option β}:∀ {l:List α} {x:α},x∈l->f x=none->fP f l=none
 |y::l,x,hx,h=>by
  show (match f y,fP f l with|some y,some m=>some (y::m)|_,_=>none)=_
  rcases List.mem_cons.1 hx with rfl|hx
  ·rw [h]
  ·rw [allO_none hx h];cases f y<;>rfl
theorem fO {α β:Type}{f:α->Option β}:∀ {l:List α} {m:List β},fP f l=some m->m.length=l.length
 | [],m,h=>by injection h with h;subst h;rfl
 |x::l,m,h=>by
  obtain ⟨y,m',rfl,_,h2⟩:=allO_inv h
  rw [List.length_cons,List.length_cons,fO h2]
theorem allO_app {α β:Type}{f:α->Option β}{b:List α}{n:List β}(hb:fP f b=some n):∀ {a:List α} {m:List β},fP f a=some m->fP f (a++b)=some (m++n)
 | [],m,h=>by injection h with h;subst h;exact hb
 |x::a,m,h=>by
  obtain ⟨y,m',rfl,h1,h2⟩:=allO_inv h
  exact allO_cons h1 (allO_app hb h2)
theorem allO_snoc {α β:Type}{f:α->Option β}{a:List α}{m:List β}{x:α}{y:β}(h:fP f a=some m)(h1:f x=some y):fP f (a++[x])=some (m++[y]):=allO_app (allO_cons h1 rfl) h
theorem allO_back {α β:Type}{f:α->Option β}:∀ {l:List α} {m:List β},fP f l=some m→∀ y∈m,∃ x∈l,f x=some y
 | [],m,h,y,hy=>by injection h with h;subst h;cases hy
 |z::l,m,h,y,hy=>by
  obtain ⟨w,m',rfl,h1,h2⟩:=allO_inv h
  rcases List.mem_cons.1 hy with rfl|hy
  ·exact ⟨z,List.mem_cons_self ..,h1⟩
  ·obtain ⟨x,hx,e⟩:=allO_back h2 y hy
   exact ⟨x,List.mem_cons_of_mem _ hx,e⟩
def parseP (s:YL):Option Co:=gF (yE s)
def parseA (s:YL):Option (List Co):=fP parseP (zE 44 [] s)
def vG (s:YL):Option (List (List Co)):=fP parseA (kB [] s)
def kV (s:YL):Option (List (List Co)):=if 96<s.length then none else (vG s).filter rgMay
def d5 (s:YL):Int:=if 96<s.length then 3 else match vG s with
 |none=>6
 |some r=>if fewR r then (if (kN r).length<=96 then 0 else 3) else 6
def blanks (n:Nat):YL:=List.replicate n 32
theorem altsL_ne:∀ (s acc:YL),kB acc s≠[]
 | [],acc=>by simp [kB]
 | [c],acc=>by simp [kB]
 |c::d::r,acc=>by
  rw [kB]
  split
  ·simp
  ·exact altsL_ne (d::r) _
theorem altsL_le:∀ (s acc:YL),∀ x∈kB acc s,x.length<=acc.length+s.length
 | [],acc,x,hx=>by
  have:x=acc:=by simpa [kB] using hx
  subst this;simp
 | [c],acc,x,hx=>by
  have:x=acc++[c]:=by simpa [kB] using hx
  subst this;simp
 |c::d::r,acc,x,hx=>by
  rw [kB] at hx
  split at hx
  ·rcases List.mem_cons.1 hx with rfl|hx
   ·simp only [List.length_cons];omega
   ·have:=altsL_le r [] x hx
    simp only [List.length_cons,List.length_nil] at this ⊢;omega
  ·have:=altsL_le (d::r) (acc++[c]) x hx
   simp only [List.length_append,List.length_cons,List.length_nil] at this ⊢;omega
theorem tJ:∀ (s acc:YL),(kB acc s).length<=s.length+1
 | [],acc=>by simp [kB]
 | [c],acc=>by simp [kB]
 |c::d::r,acc=>by
  rw [kB]
  split
  ·have:=tJ r [];simp only [List.length_cons];omega
  ·have:=tJ (d::r) (acc++[c]);simp only [List.length_cons] at this ⊢;omega
inductive Two {α β:Type} (R:α->β->Prop):List α->List β->Prop
 |nil:Two R [] []
 |cons {x:α} {y:β} {l:List α} {m:List β} (h:R x y) (t:Two R l m):Two R (x::l) (y::m)
def SpellC (s:YL)(c:Co):Prop:=∃ n m,s=blanks n++c.text++blanks m
def SpellA (s:YL)(a:List Co):Prop:=∃ ps,s=zG 44 ps/\Two SpellC ps a/\ps≠[]
def SpellR (s:YL)(r:List (List Co)):Prop:=∃ l,s=vN [124,124] l/\Two SpellA l r/\l≠[]
theorem text_ne {c:Co}(h:c.may=true):c.text≠[]:=by
 intro e
 have:=(t7 c.text c).2 ⟨h,.inl rfl⟩
 rw [e] at this
 revert this
 have:gF []=none:=by decide
 rw [this];simp
theorem err_some {s:YL}{r:List (List Co)}(h:kV s=some r):d5 s=0/\rgMay r=true/\vG s=some r/\s.length<=96:=by
 unfold kV at h
 split at h
 ·cases h
 ·rename_i hl
  cases hp:vG s with
  |none=>rw [hp] at h;cases h
  |some q=>
   rw [hp] at h
   unfold Option.filter at h
   simp only at h
   split at h
   ·rename_i hm
    injection h with h
    subst h
    obtain ⟨k1,k2⟩:=rgMay.facts hm
    refine ⟨?_,hm,rfl,by omega⟩
    unfold d5
    rw [if_neg hl,hp]
    simp only
    rw [if_pos k1,if_pos k2]
   ·cases h
theorem err_none {s:YL}(h:kV s=none):d5 s=3\/d5 s=6:=by
 unfold kV at h
 unfold d5
 split at h
 ·rename_i hl;rw [if_pos hl];exact .inl rfl
 ·rename_i hl
  rw [if_neg hl]
  cases hp:vG s with
  |none=>exact .inr rfl
  |some q=>
   rw [hp] at h
   simp only
   cases h1:fewR q with
   |false=>exact .inr rfl
   |true=>
    rw [if_pos rfl]
    by_cases h2:(kN q).length<=96
    ·exfalso
     have:rgMay q=true:=by unfold rgMay;rw [h1,decide_eq_true h2];rfl
     simp [Option.filter,this] at h
    ·rw [if_neg h2];exact .inl rfl
end
section
def xK (n:Nd):Bool:=decide (n.op=1) && decide (0<=n.key) && decide (n.key<3) && wdL n.text && decide (n.a=0) && decide (n.b=0)
def fN (n:Nd):Bool:=decide (n.key=0) && decide (n.text=[])
def jR (st:List (Nat×Tr))(n:Nd):Bool:=match st with
 |p::_=>decide (n.op=2) && fN n && decide (n.a=(p.1:Int)) && decide (n.b=0)
 | []=>false
def isBin (st:List (Nat×Tr))(n:Nd):Bool:=match st with
 |p::q::_=>(decide (n.op=3)||decide (n.op=4)) && fN n && decide (n.a=(q.1:Int)) && decide (n.b=(p.1:Int))
 |_=>false
def stp (i:Nat)(st:List (Nat×Tr))(n:Nd):Option (List (Nat×Tr)):=
 if xK n then some ((i,.is n.key.toNat n.text)::st)
 else if jR st n then (match st with|p::r=>some ((i,.no p.2)::r)| []=>none)
 else if isBin st n then (match st with|p::q::r=>some ((i,if n.op=3 then .both q.2 p.2 else .one q.2 p.2)::r)|_=>none)
 else none
def vS:Nat->List (Nat×Tr)->List Nd->Option (List (Nat×Tr))
 |_,st,[]=>some st
 |i,st,n::r=>match stp i st n with|some s=>vS (i+1) s r|none=>none
def jJ (l:List Nd):Option Tr:=match vS 0 [] l with
 |some [p]=>some p.2
 |_=>none
theorem nX:∀ (a b:List Nd) (i:Nat) (st s:List (Nat×Tr)),vS i st a=some s->vS i st (a++b)=vS (i+a.length) s b
 | [],b,i,st,s,h=>by rw [vS] at h;obtain rfl:=Option.some.inj h;rfl
 |n::a,b,i,st,s,h=>by
  rw [vS] at h
  rw [List.cons_append,vS]
  cases hs:stp i st n with
  |none=>rw [hs] at h;cases h
  |some s'=>
   rw [hs] at h
   have:=nX a b (i+1) s' s h
   show vS (i+1) s' (a++b)=_
   rw [this,List.length_cons,show i+1+a.length=i+(a.length+1) by omega]
theorem stp_bare {o i j:Nat}{st:List (Nat×Tr)}{n:Nd}(h:n.op≠1):xK n=false:=by
 unfold xK;rw [decide_eq_false h];rfl
theorem pY:∀ (t:Tr) (o:Nat) (st:List (Nat×Tr)),t.ok=true->vS o st (t.enc o)=some ((o+t.sz-1,t)::st)
 | .is k v,o,st,h=>by
  unfold Tr.ok at h
  simp only [Bool.and_eq_true,decide_eq_true_eq] at h
  have hl:xK ⟨1,0,0,(k:Int),v⟩=true:=by unfold xK;simp [h.2];omega
  show vS o st [⟨1,0,0,(k:Int),v⟩]=_
  have hs:stp o st ⟨1,0,0,(k:Int),v⟩=some ((o,.is k v)::st):=by unfold stp;rw [if_pos hl];simp
  rw [vS,hs]
  simp [vS,Tr.sz]
 | .no x,o,st,h=>by
  have hx:x.ok=true:=h
  have ih:=pY x o st hx
  have hz:=x.sz_pos
  rw [Tr.enc,nX _ _ _ _ _ ih,Tr.enc_len,vS,stp,if_neg (by rw [stp_bare (o:=0) (i:=0) (j:=0) (st:=[])]<;>simp)]
  have hn:jR ((o+x.sz-1,x)::st) ⟨2,((o+x.sz-1:Nat):Int),0,0,[]⟩=true:=by unfold jR fN;simp
  rw [if_pos hn]
  show vS _ _ []=_
  rw [vS,show o+x.sz=o+(Tr.no x).sz-1 from by show _=o+(x.sz+1) -1;omega]
 | .both x y,o,st,h=>by
  unfold Tr.ok at h
  rw [Bool.and_eq_true] at h
  have hx:=pY x o st h.1
  have hy:=pY y (o+x.sz) ((o+x.sz-1,x)::st) h.2
  have hz:=x.sz_pos
  have hz2:=y.sz_pos
  rw [Tr.enc,List.append_assoc,nX _ _ _ _ _ hx,Tr.enc_len,nX _ _ _ _ _ hy,Tr.enc_len,vS,stp,if_neg (by rw [stp_bare (o:=0) (i:=0) (j:=0) (st:=[])]<;>simp)]
  have hn:jR ((o+x.sz+y.sz-1,y)::(o+x.sz-1,x)::st) ⟨3,((o+x.sz-1:Nat):Int),((o+x.sz+y.sz-1:Nat):Int),0,[]⟩=false:=by unfold jR;simp
  have hb:isBin ((o+x.sz+y.sz-1,y)::(o+x.sz-1,x)::st) ⟨3,((o+x.sz-1:Nat):Int),((o+x.sz+y.sz-1:Nat):Int),0,[]⟩=true:=by unfold isBin fN;simp
  rw [if_neg (by rw [hn];simp),if_pos hb]
  show vS _ _ []=_
  rw [vS,show o+x.sz+y.sz=o+(Tr.both x y).sz-1 from by show _=o+(x.sz+y.sz+1) -1;omega];rfl
 | .one x y,o,st,h=>by
  unfold Tr.ok at h
  rw [Bool.and_eq_true] at h
  have hx:=pY x o st h.1
  have hy:=pY y (o+x.sz) ((o+x.sz-1,x)::st) h.2
  have hz:=x.sz_pos
  have hz2:=y.sz_pos
  rw [Tr.enc,List.append_assoc,nX _ _ _ _ _ hx,Tr.enc_len,nX _ _ _ _ _ hy,Tr.enc_len,vS,stp,if_neg (by rw [stp_bare (o:=0) (i:=0) (j:=0) (st:=[])]<;>simp)]
  have hn:jR ((o+x.sz+y.sz-1,y)::(o+x.sz-1,x)::st) ⟨4,((o+x.sz-1:Nat):Int),((o+x.sz+y.sz-1:Nat):Int),0,[]⟩=false:=by unfold jR;simp
  have hb:isBin ((o+x.sz+y.sz-1,y)::(o+x.sz-1,x)::st) ⟨4,((o+x.sz-1:Nat):Int),((o+x.sz+y.sz-1:Nat):Int),0,[]⟩=true:=by unfold isBin fN;simp
  rw [if_neg (by rw [hn];simp),if_pos hb]
  show vS _ _ []=_
  rw [vS,show o+x.sz+y.sz=o+(Tr.one x y).sz-1 from by show _=o+(x.sz+y.sz+1) -1;omega];rfl
def Lies:List (Nat×Tr)->List Nd->Prop
 | [],l=>l=[]
 |p::r,l=>∃ l0,Lies r l0/\p.2.ok=true/\p.1=l0.length+p.2.sz-1/\l=l0++p.2.enc l0.length
theorem stp_lies {st s:List (Nat×Tr)}{l:List Nd}{n:Nd}(h:Lies st l)(hs:stp l.length st n=some s):Lies s (l++[n]):=by
 unfold stp at hs
 split at hs
 ·rename_i hl
  obtain rfl:=Option.some.inj hs
  unfold xK at hl
  simp only [Bool.and_eq_true,decide_eq_true_eq] at hl
  obtain ⟨⟨⟨⟨⟨h1,h2⟩,h3⟩,h4⟩,h5⟩,h6⟩:=hl
  refine ⟨l,h, ?_, ?_, ?_⟩
  ·show Tr.ok (.is n.key.toNat n.text)=true
   unfold Tr.ok;simp [h4];omega
  ·show l.length=l.length+1-1;omega
  ·show l++[n]=l++[⟨1,0,0,((n.key.toNat:Nat):Int),n.text⟩]
   obtain ⟨op,a,b,key,text⟩:=n
   simp only at h1 h2 h3 h4 h5 h6
   subst h1;subst h5;subst h6
   rw [Int.toNat_of_nonneg h2]
 ·split at hs
  ·rename_i hl
   match st,hs,hl,h with
   |p::r,hs,hl,h=>
    simp only [Option.some.injEq] at hs
    subst hs
    unfold jR fN at hl
    simp only [Bool.and_eq_true,decide_eq_true_eq] at hl
    obtain ⟨⟨⟨h1,h2,h3⟩,h4⟩,h5⟩:=hl
    obtain ⟨l0,hr,hok,hp,rfl⟩:=h
    refine ⟨l0,hr,hok, ?_, ?_⟩
    ·show (l0++p.2.enc l0.length).length=l0.length+(p.2.sz+1) -1
     rw [List.length_append,Tr.enc_len];omega
    ·show l0++p.2.enc l0.length++[n]=l0++(p.2.enc l0.length++[⟨2,((l0.length+p.2.sz-1:Nat):Int),0,0,[]⟩])
     obtain ⟨op,a,b,key,text⟩:=n
     simp only at h1 h2 h3 h4 h5
     subst h1;subst h2;subst h3;subst h4;subst h5
     rw [List.append_assoc,hp]
  ·split at hs
   ·rename_i hl
    match st,hs,hl,h with
    |p::q::r,hs,hl,h=>
     simp only [Option.some.injEq] at hs
     subst hs
     unfold isBin fN at hl
     simp only [Bool.and_eq_true,Bool.or_eq_true,decide_eq_true_eq] at hl
     obtain ⟨⟨⟨h1,h2,h3⟩,h4⟩,h5⟩:=hl
     obtain ⟨l1,⟨l0,hr,hok,hq,rfl⟩,hok2,hp,rfl⟩:=h
     have hz:=q.2.sz_pos
     have hl1:(l0++q.2.enc l0.length).length=l0.length+q.2.sz:=by rw [List.length_append,Tr.enc_len]
     rw [hl1] at hp ⊢
     obtain ⟨op,a,b,key,text⟩:=n
     simp only at h1 h2 h3 h4 h5
     subst h2;subst h3;subst h4;subst h5
     rcases h1 with h1|h1
     ·subst h1
      refine ⟨l0,hr, ?_, ?_, ?_⟩
      ·show (Tr.both q.2 p.2).ok=true
       unfold Tr.ok;rw [hok,hok2];rfl
      ·show (l0++q.2.enc l0.length++p.2.enc (l0.length+q.2.sz)).length=l0.length+(q.2.sz+p.2.sz+1) -1
       rw [List.length_append,List.length_append,Tr.enc_len,Tr.enc_len];omega
      ·show l0++q.2.enc l0.length++p.2.enc (l0.length+q.2.sz)++[_]=l0++(q.2.enc l0.length++p.2.enc (l0.length+q.2.sz)++[_])
       rw [hq,hp];simp
     ·subst h1
      refine ⟨l0,hr, ?_, ?_, ?_⟩
      ·show (Tr.one q.2 p.2).ok=true
       unfold Tr.ok;rw [hok,hok2];rfl
      ·show (l0++q.2.enc l0.length++p.2.enc (l0.length+q.2.sz)).length=l0.length+(q.2.sz+p.2.sz+1) -1
       rw [List.length_append,List.length_append,Tr.enc_len,Tr.enc_len];omega
      ·show l0++q.2.enc l0.length++p.2.enc (l0.length+q.2.sz)++[_]=l0++(q.2.enc l0.length++p.2.enc (l0.length+q.2.sz)++[_])
       rw [hq,hp];simp
   ·cases hs
theorem run_lies:∀ (r l:List Nd) (st s:List (Nat×Tr)),Lies st l->vS l.length st r=some s->Lies s (l++r)
 | [],l,st,s,h,hs=>by rw [vS] at hs;obtain rfl:=Option.some.inj hs;rw [List.append_nil];exact h
 |n::r,l,st,s,h,hs=>by
  rw [vS] at hs
  cases hq:stp l.length st n with
  |none=>rw [hq] at hs;cases hs
  |some s1=>
   rw [hq] at hs
   have h1:=stp_lies h hq
   have:=run_lies r (l++[n]) s1 s h1 (by rw [List.length_append];exact hs)
   rw [List.append_assoc] at this
   exact this
theorem treeOf_iff {l:List Nd}{t:Tr}:jJ l=some t↔t.ok=true/\l=t.enc 0:=by
 constructor
 ·intro h
  unfold jJ at h
  cases hr:vS 0 [] l with
  |none=>rw [hr] at h;cases h
  |some s=>
   rw [hr] at h
   match s,h with
   | [p],h=>
    obtain rfl:=Option.some.inj h
    obtain ⟨l0,hl0,hok,_,e⟩:=run_lies l [] [] [p] rfl hr
    have:l0=[]:=hl0
    subst this
    exact ⟨hok,e⟩
 ·rintro ⟨h,rfl⟩
  unfold jJ
  rw [pY t 0 [] h]
theorem mD {t:Tr}(h:t.ok=true):jJ (t.enc 0)=some t:=treeOf_iff.2 ⟨h,rfl⟩
def fH (l:List Nd):Bool:=match jJ l with
 |some t=>decide (t.sz<=15) && decide (t.text.length<=96)
 |none=>decide (l=[])
theorem tB {l:List Nd}(h:fH l=true):l=[]∨∃ t:Tr,t.ok=true/\l=t.enc 0/\t.sz<=15/\t.text.length<=96:=by
 unfold fH at h
 cases ht:jJ l with
 |none=>rw [ht] at h;exact .inl (of_decide_eq_true h)
 |some t=>
  rw [ht] at h
  simp only [Bool.and_eq_true,decide_eq_true_eq] at h
  have:=treeOf_iff.1 ht
  exact .inr ⟨t,this.1,this.2,h.1,h.2⟩
theorem mayM_enc {t:Tr}(h:t.ok=true):fH (t.enc 0)=(decide (t.sz<=15) && decide (t.text.length<=96)):=by unfold fH;rw [mD h]
abbrev Pf:=Nat->YL
def evT (e:Pf):Tr->Int
 | .is k t=>if e k=[] then 1 else if e k=t then 2 else 0
 | .no x=>2-evT e x
 | .both x y=>min (evT e x) (evT e y)
 | .one x y=>max (evT e x) (evT e y)
def vlT (e:Pf):Tr->List Int
 | .is k t=>[evT e (.is k t)]
 | .no x=>vlT e x++[evT e (.no x)]
 | .both x y=>vlT e x++vlT e y++[evT e (.both x y)]
 | .one x y=>vlT e x++vlT e y++[evT e (.one x y)]
def Ext (e g:Pf):Prop:=∀ k,e k≠[]->g k=e k
def leftT (e:Pf):Tr->Tr
 | .is k t=> .is k t
 | .no x=> .no (leftT e x)
 | .both x y=>if evT e y≠1 then leftT e x else if evT e x≠1 then leftT e y else .both (leftT e x) (leftT e y)
 | .one x y=>if evT e y≠1 then leftT e x else if evT e x≠1 then leftT e y else .one (leftT e x) (leftT e y)
def Asks (p:Nat->Prop):Tr->Prop
 | .is k _=>p k
 | .no x=>Asks p x
 | .both x y=>Asks p x/\Asks p y
 | .one x y=>Asks p x/\Asks p y
def truthT (e:Pf):Tr->Bool
 | .is k t=>decide (e k=t)
 | .no x=> !truthT e x
 | .both x y=>truthT e x && truthT e y
 | .one x y=>truthT e x||truthT e y
end
section
def tl:List Tok->Nat
 | []=>0
 |x::r=>x.length+1+tl r
theorem tl_app:∀ a b:List Tok,tl (a++b)=tl a+tl b
 | [],b=>by simp [tl]
 |x::a,b=>by rw [List.cons_append,tl,tl,tl_app a b];omega
theorem tl_join:∀ l:List Tok,l≠[]->(zG 32 l).length+1=tl l
 | [],h=>absurd rfl h
 | [x],_=>by simp [zG,tl]
 |x::y::r,_=>by
  have:=tl_join (y::r) (by simp)
  rw [zG,tl,←this];simp;omega
theorem tl_wrap (c:Bool)(l:List Tok):tl (qK c l)=tl l+if c then 4 else 0:=by
 unfold qK
 cases c with
 |false=>simp
 |true=>simp [tl,tl_app,x8,xB];omega
def Tr.w (t:Tr):Nat:=tl t.tok
def Tr.w1 (t:Tr):Nat:=t.w+if t.isOne then 4 else 0
def Tr.w2 (t:Tr):Nat:=t.w+if t.isBin then 4 else 0
theorem Tr.text_w (t:Tr):t.text.length+1=t.w:=tl_join _ t.tok_ne
theorem Tr.w_le (t:Tr):t.w<=t.w1/\t.w1<=t.w2/\t.w2<=t.w+4:=by
 unfold Tr.w1 Tr.w2
 cases t<;>simp [Tr.isOne,Tr.isBin]
theorem w_both (x y:Tr):(Tr.both x y).w=x.w1+4+y.w2:=by
 unfold Tr.w Tr.w1 Tr.w2 Tr.w
 rw [Tr.tok,tl_app,tl_wrap,tl,tl_wrap];simp [d9];omega
theorem w_one (x y:Tr):(Tr.one x y).w=x.w+3+y.w1:=by
 unfold Tr.w Tr.w1 Tr.w
 rw [Tr.tok,tl_app,tl,tl_wrap];simp [tOr];omega
theorem w_is (k:Nat)(t:Tok):(Tr.is k t).w=(x3 k).length+t.length+4:=by
 unfold Tr.w
 rw [Tr.tok];simp [tl,tEq];omega
theorem w_no (x:Tr):(Tr.no x).w<=x.w2+4/\x.w+1<=(Tr.no x).w:=by
 cases x with
 |is k t=>
  have:=w_is k t
  unfold Tr.w2
  have e:(Tr.no (.is k t)).w=(x3 k).length+t.length+5:=by unfold Tr.w;rw [Tr.tok];simp [tl,tNe];omega
  simp [Tr.isBin];omega
 |no y=>unfold Tr.w2 Tr.w;rw [show (Tr.no (.no y)).tok=qY::(Tr.no y).tok from rfl,tl];simp [Tr.isBin,qY];omega
 |both y z=>unfold Tr.w2 Tr.w;rw [show (Tr.no (.both y z)).tok=qY::qK true (Tr.both y z).tok from rfl,tl,tl_wrap];simp [Tr.isBin,qY];omega
 |one y z=>unfold Tr.w2 Tr.w;rw [show (Tr.no (.one y z)).tok=qY::qK true (Tr.one y z).tok from rfl,tl,tl_wrap];simp [Tr.isBin,qY];omega
def qS (l:List Nd):YL:=if fH l then (match jJ l with|some t=>t.text|none=>[]) else []
def zY (s:YL):List Tok:=zE 32 [] s
def Tr.fit (t:Tr):Bool:=decide (t.sz<=15) && decide (t.text.length<=96)
def gP (s:YL):Option Tr:=match pOr (zY s).length (zY s) with
 |some (t,[])=>if t.fit then some t else none
 |_=>none
def pL (s:YL):Int:=if 96<s.length then 3 else if s=[] then 0 else match gP s with|some _=>0|none=>7
def gR (s:YL):List Nd:=if 96<s.length then [] else if s=[] then [] else match gP s with|some t=>t.enc 0|none=>[]
def pfOk (e:Pf):Bool:=(decide (e 0=[])||wdL (e 0)) && (decide (e 1=[])||wdL (e 1)) && (decide (e 2=[])||wdL (e 2))
def evalM (l:List Nd)(e:Pf):Int:=if fH l && pfOk e then (match jJ l with|some t=>evT e t|none=>2) else 0
def underM (l:List Nd)(e:Pf):List Nd:=if evalM l e=1 then (match jJ l with|some t=>(leftT e t).enc 0|none=>[]) else []
theorem fit_may {t:Tr}(h:t.ok=true):fH (t.enc 0)=t.fit:=by rw [mayM_enc h];rfl
theorem printM_enc {t:Tr}(h:t.ok=true)(hf:t.fit=true):qS (t.enc 0)=t.text:=by
 unfold qS
 rw [fit_may h,hf,mD h];rfl
theorem wordGo_no {b:UInt8}(hb:wdB b.toNat=false):∀ (l:YL),qA l=true->b∉l
 | [],_=>by simp
 |c::r,h=>by
  have hc:wdB c.toNat=true:=by
   unfold qA at h
   unfold wdB
   rw [Bool.and_eq_true] at h;exact h.1
  rw [dG c r hc] at h
  intro hm
  rcases List.mem_cons.1 hm with e|hm
  ·subst e;rw [hb] at hc;cases hc
  ·exact wordGo_no hb r h hm
theorem wdL_no {s:YL}{b:UInt8}(hb:wdB b.toNat=false)(h:wdL s=true):b∉s:=by
 unfold wdL at h
 rw [Bool.and_eq_true] at h;exact wordGo_no hb s h.2
theorem text10_ne (t:Tr):t.text≠[]:=by
 intro e
 have h:=t.text_w
 rw [e] at h
 have:∀ t:Tr,5<=t.w:=λt=>by
  induction t with
  |is k v=>rw [w_is];unfold x3;split<;>(try split)<;>simp<;>omega
  |no x ih=>have:=(w_no x).2;omega
  |both x y ihx ihy=>rw [w_both];have:=y.w_le;omega
  |one x y ihx ihy=>rw [w_one];omega
 have:=this t
 simp at h;omega
def Oks (part:List Tok->Option (Tr×List Tok)):Prop:=∀ ts t r,part ts=some (t,r)->t.ok=true
theorem pLoop_ok {part:List Tok->Option (Tr×List Tok)}(hp:Oks part)(w:Tok){mk:Tr->Tr->Tr}(hmk:∀ a b,a.ok=true->b.ok=true->(mk a b).ok=true):∀ (k:Nat) (a:Tr) (ts:List Tok) (t:Tr) (r:List Tok),a.ok=true->wH part w mk k a ts=some (t,r)->t.ok=true
 |0,a,ts,t,r,ha,h=>by simp only [wH,Option.some.injEq,Prod.mk.injEq] at h;rw [←h.1];exact ha
 |k+1,a,[],t,r,ha,h=>by simp only [wH,Option.some.injEq,Prod.mk.injEq] at h;rw [←h.1];exact ha
 |k+1,a,c::q,t,r,ha,h=>by
  rw [wH] at h
  split at h
  ·cases hq:part q with
   |none=>rw [hq] at h;cases h
   |some x=>
    obtain ⟨b,r'⟩:=x
    rw [hq] at h
    exact pLoop_ok hp w hmk k (mk a b) r' t r (hmk a b ha (hp _ _ _ hq)) h
  ·simp only [Option.some.injEq,Prod.mk.injEq] at h;rw [←h.1];exact ha
theorem pChain_ok {part:List Tok->Option (Tr×List Tok)}(hp:Oks part)(w:Tok){mk:Tr->Tr->Tr}(hmk:∀ a b,a.ok=true->b.ok=true->(mk a b).ok=true):Oks (gQ part w mk):=λts t r h=>by
 unfold gQ at h
 cases hq:part ts with
 |none=>rw [hq] at h;cases h
 |some x=>
  obtain ⟨a,r'⟩:=x
  rw [hq] at h
  exact pLoop_ok hp w hmk _ _ _ _ _ (hp _ _ _ hq) h
theorem both_ok {a b:Tr}(ha:a.ok=true)(hb:b.ok=true):(Tr.both a b).ok=true:=by unfold Tr.ok;rw [ha,hb];rfl
theorem one_ok {a b:Tr}(ha:a.ok=true)(hb:b.ok=true):(Tr.one a b).ok=true:=by unfold Tr.ok;rw [ha,hb];rfl
theorem keyN_lt {c:Tok}{n:Nat}(h:keyN c=some n):n<3/\x3 n=c:=by
 unfold keyN at h
 split at h
 ·rename_i e;obtain rfl:=Option.some.inj h;exact ⟨by decide,e.symm⟩
 ·split at h
  ·rename_i e;obtain rfl:=Option.some.inj h;exact ⟨by decide,e.symm⟩
  ·split at h
   ·rename_i e;obtain rfl:=Option.some.inj h;exact ⟨by decide,e.symm⟩
   ·cases h
theorem atom_ok {k s v:Tok}{t:Tr}(h:bN k s v=some t):t.ok=true:=by
 unfold bN at h
 cases hk:keyN k with
 |none=>rw [hk] at h;cases h
 |some n=>
  rw [hk] at h
  have hn:=(keyN_lt hk).1
  simp only at h
  split at h
  ·rename_i hv
   have ho:(Tr.is n v).ok=true:=by unfold Tr.ok;rw [decide_eq_true hn,hv];rfl
   split at h
   ·obtain rfl:=Option.some.inj h;exact ho
   ·split at h
    ·obtain rfl:=Option.some.inj h;exact ho
    ·cases h
  ·cases h
theorem pFac_ok:∀ n,Oks (vH n)
 |0=>λts t r h=>by cases h
 |n+1=>λts t r h=>by
  have ih:=pFac_ok n
  cases ts with
  |nil=>cases h
  |cons c q=>
   rw [vH] at h
   split at h
   ·cases hq:vH n q with
    |none=>rw [hq] at h;cases h
    |some x=>
     obtain ⟨a,r'⟩:=x
     rw [hq] at h
     simp only [pNo,Option.some.injEq,Prod.mk.injEq] at h
     have ha:a.ok=true:=ih _ _ _ hq
     rw [←h.1];exact ha
   ·split at h
    ·cases hq:gQ (gQ (vH n) d9 .both) tOr .one q with
     |none=>rw [hq] at h;cases h
     |some x=>
      obtain ⟨a,r'⟩:=x
      rw [hq] at h
      have h1:=pChain_ok (pChain_ok ih d9 (λa b=>both_ok)) tOr (λa b=>one_ok) _ _ _ hq
      cases r' with
      |nil=>cases h
      |cons d r2=>
       rw [nH] at h
       split at h
       ·simp only [Option.some.injEq,Prod.mk.injEq] at h;rw [←h.1];exact h1
       ·cases h
    ·match q,h with
     |s::v::q,h=>
      rw [vX] at h
      cases ha:bN c s v with
      |none=>rw [ha] at h;cases h
      |some x=>rw [ha] at h;simp only [Option.some.injEq,Prod.mk.injEq] at h;rw [←h.1];exact atom_ok ha
     | [],h=>cases h
     | [s],h=>cases h
theorem pOr_ok (n:Nat):Oks (pOr n):=pChain_ok (pChain_ok (pFac_ok n) d9 (λa b=>both_ok)) tOr (λa b=>one_ok)
theorem readM_ok {s:YL}{t:Tr}(h:gP s=some t):t.ok=true/\t.fit=true:=by
 unfold gP at h
 split at h
 ·rename_i t' hq
  split at h
  ·rename_i hf;obtain rfl:=Option.some.inj h;exact ⟨pOr_ok _ _ _ _ hq,hf⟩
  ·cases h
 ·cases h
theorem fK (b:UInt8):∀ (x y:List YL),x≠[]->y≠[]->zG b (x++y)=zG b x++b::zG b y
 | [],_,h,_=>absurd rfl h
 | [a],[],_,h=>absurd rfl h
 | [a],c::y,_,_=>rfl
 |a::a2::x,y,_,h=>by
  rw [List.cons_append,List.cons_append,zG,←List.cons_append,fK b (a2::x) y (by simp) h,zG];simp
end
section
def yG (s:YL):Bool:=decide (d5 s=0) && decide (wB ((kV s).getD [])=s)
def x1 (s:YL):Bool:=decide (pL s=0) && decide (qS (gR s)=s)
def dB (l:List YL)(alone:Bool):Bool:=l.all wdL && decide (l.length<=6) && qX l && (alone||decide (l=[]))
def gX (own:YL)(x:Wt)(alone:Bool):Int:=
 if nmL x.name=false then 4 else if x.name=own then 8 else if yG x.rng=false then 6 else if dB x.fs alone=false then 11 else 0
def yV {α:Type}(f:α->Int):List α->Int
 | []=>0
 |a::r=>if f a=0 then yV f r else f a
theorem fM {α:Type}{f:α->Int}:∀ {l:List α},(∀ x∈l,f x=0)->yV f l=0
 | [],_=>rfl
 |a::r,h=>by rw [yV,if_pos (h a (List.mem_cons_self ..)),fM λx hx=>h x (List.mem_cons_of_mem _ hx)]
theorem pI {α:Type}{f:α->Int}:∀ {l:List α} {i:Nat} (hi:i<l.length),(∀ x∈l.take i,f x=0)->f l[i]≠0->yV f l=f l[i]
 |a::r,0,_,_,h=>by
  have h':f a≠0:=h
  rw [yV,if_neg h'];rfl
 |a::r,i+1,hi,h0,h=>by
  rw [yV,if_pos (h0 a (by simp))]
  exact pI (l:=r) (i:=i) (by simpa using hi) (λx hx=>h0 x (by rw [List.take_succ_cons];exact List.mem_cons_of_mem _ hx)) h
theorem firstE_map {α β:Type}(f:β->Int)(g:α->β):∀ l:List α,yV f (l.map g)=yV (λx=>f (g x)) l
 | []=>rfl
 |a::r=>by rw [List.map_cons,yV,yV,firstE_map f g r]
def g8 {α:Type}(f:α->Int):Nat->List α->Int×Int
 |_,[]=>(0,0)
 |k,a::r=>if f a=0 then g8 f (k+1) r else (f a,(k:Int))
theorem jU {α:Type}{f:α->Int}:∀ {l:List α} {k:Nat},(∀ x∈l,f x=0)->g8 f k l=(0,0)
 | [],_,_=>rfl
 |a::r,k,h=>by rw [g8,if_pos (h a (List.mem_cons_self ..)),jU λx hx=>h x (List.mem_cons_of_mem _ hx)]
theorem dU {α:Type}{f:α->Int}:∀ {l:List α} {i:Nat} (k:Nat) (hi:i<l.length),(∀ x∈l.take i,f x=0)->f l[i]≠0->g8 f k l=(f l[i],((k+i:Nat):Int))
 |a::r,0,k,_,_,h=>by
  have h':f a≠0:=h
  rw [g8,if_neg h'];rfl
 |a::r,i+1,k,hi,h0,h=>by
  rw [g8,if_pos (h0 a (by simp)),dU (l:=r) (i:=i) (k+1) (by simpa using hi) (λx hx=>h0 x (by rw [List.take_succ_cons];exact List.mem_cons_of_mem _ hx)) h,show k+1+i=k+(i+1) by omega];rfl
theorem tF {α β:Type}(f:β->Int)(g:α->β):∀ (l:List α) (k:Nat),g8 f k (l.map g)=g8 (λx=>f (g x)) k l
 | [],_=>rfl
 |a::r,k=>by rw [List.map_cons,g8,g8,tF f g r]
def gZ (own:YL)(n:Nt):Int:=
 if n.any=[] then 9 else if 3<n.any.length then 3 else if yV (λx=>gX own x (decide (n.any.length=1))) n.any≠0 then yV (λx=>gX own x (decide (n.any.length=1))) n.any
 else if x1 n.wh=false then 7 else if n.opt≠[]/\wdL n.opt=false then 14 else 0
def bD (own:YL)(b:Bt):Int:=
 if nmL b.name=false then 4 else if b.name=own then 8 else if yG b.rng=false then 6 else if x1 b.wh=false then 7 else 0
def optR (l:List Nt)(s:YL):Bool:=l.any λn=>decide (n.opt=s)
def pulN (s:YL)(n:Nt):Bool:=match n.any with
 | [x]=>decide (x.name=s)
 |_=>false
def pulR (l:List Nt)(s:YL):Bool:=l.any (pulN s)
def xY (l:List Nt)(s:YL):Int:=
 if (zO s).1=2/\optR l (wordOf s)=false then 14 else if (zO s).1=3/\pulR l (wordOf s)=false then 16 else 0
def gE (r:Rt):Int×Int:=
 if (g8 (gZ r.name) 0 r.needs).1≠0 then g8 (gZ r.name) 0 r.needs
 else if (g8 (bD r.name) 0 r.bars).1≠0 then g8 (bD r.name) 0 r.bars
 else if dP r.fts=false then (11,0)
 else g8 (λf:Ft=>yV (xY r.needs) f.of) 0 r.fts
def zV (r:Rt):Int×Int:=
 if nmL r.name=false then (4,0) else if r.ver.may=false then (5,0) else if 8<r.needs.length\/8<r.bars.length then (3,0)
 else if (gE r).1≠0 then gE r else if 4096<(kS r).length then (3,0) else (0,0)
end
section
abbrev GdR (s:YL):Prop:=s.length<=5000
abbrev GdM (s:YL):Prop:=s.length<=5000
abbrev GqR (s:YL):Prop:=s.length<=1048576
abbrev GqM (s:YL):Prop:=s.length<=1048576
theorem gqR_of {s:YL}(h:GdR s):GqR s:=Nat.le_trans h (by decide)
theorem gqM_of {s:YL}(h:GdM s):GqM s:=Nat.le_trans h (by decide)
theorem gqR_len {s:YL}(h:GqR s):s.length<=1048576:=h
theorem gqM_len {s:YL}(h:GqM s):s.length<=1048576:=h
end
section
theorem firstE_zero {α:Type}{f:α->Int}:∀ {l:List α},yV f l=0→∀ x∈l,f x=0
 | [],_,x,h=>by cases h
 |a::r,h,x,hx=>by
  by_cases h0:f a=0
  ·rw [yV,if_pos h0] at h
   rcases List.mem_cons.1 hx with rfl|hx
   ·exact h0
   ·exact firstE_zero h x hx
  ·rw [yV,if_neg h0] at h;exact absurd h h0
theorem nB {α:Type}{f:α->Int}:∀ {l:List α} {k:Nat},(g8 f k l).1=0→∀ x∈l,f x=0
 | [],_,_,x,h=>by cases h
 |a::r,k,h,x,hx=>by
  by_cases h0:f a=0
  ·rw [g8,if_pos h0] at h
   rcases List.mem_cons.1 hx with rfl|hx
   ·exact h0
   ·exact nB h x hx
  ·rw [g8,if_neg h0] at h;exact absurd h h0
theorem fm_most {α:Type}(f:α->YL)(k:Nat):∀ {l:List α},(∀ x∈l,(f x).length<=k)->(l.flatMap f).length<=l.length*k
 | [],_=>by simp
 |a::r,h=>by
  have h1:=h a (List.mem_cons_self ..)
  have h2:=fm_most f k (l:=r) λx hx=>h x (List.mem_cons_of_mem _ hx)
  rw [List.flatMap_cons,List.length_append,List.length_cons,Nat.add_mul];omega
theorem jn_most (b:UInt8)(k:Nat):∀ {l:List YL},(∀ x∈l,x.length<=k)->(zG b l).length<=l.length*(k+1)
 | [],_=>by simp [zG]
 | [a],h=>by
  have h1:=h a (List.mem_cons_self ..)
  rw [zG];simp only [List.length_cons,List.length_nil];omega
 |a::c::r,h=>by
  have h1:=h a (List.mem_cons_self ..)
  have h2:=jn_most b k (l:=c::r) λx hx=>h x (List.mem_cons_of_mem _ hx)
  rw [zG,List.length_append,List.length_cons,List.length_cons,Nat.add_mul];omega
theorem fG {s:YL}(h:nmL s=true):s.length<=16:=by
 unfold nmL mM at h
 simp only [Bool.and_eq_true,decide_eq_true_eq] at h
 have:=h.1
 rwa [bY] at this
theorem tW {s:YL}(h:wdL s=true):s.length<=12:=by unfold wdL at h;simp only [Bool.and_eq_true,decide_eq_true_eq] at h;omega
theorem pg_short {s:YL}(h:yG s=true):s.length<=96:=by
 unfold yG d5 at h
 simp only [Bool.and_eq_true,decide_eq_true_eq] at h
 have h1:=h.1
 split at h1
 ·exact absurd h1 (by decide)
 ·omega
theorem pm_short {s:YL}(h:x1 s=true):s.length<=96:=by
 unfold x1 pL at h
 simp only [Bool.and_eq_true,decide_eq_true_eq] at h
 have h1:=h.1
 split at h1
 ·exact absurd h1 (by decide)
 ·omega
theorem gdR_of {s:YL}(h:yG s=true):GdR s:=Nat.le_trans (pg_short h) (by decide)
theorem gdM_of {s:YL}(h:x1 s=true):GdM s:=Nat.le_trans (pm_short h) (by decide)
theorem whenT_short {s:YL}(h:x1 s=true):(vM s).length<=102:=by
 have:=pm_short h
 unfold vM
 split
 ·simp
 ·simp only [List.length_append,pT,List.length_cons,List.length_nil];omega
theorem wish_fine {own:YL}{x:Wt}{al:Bool}(h:gX own x al=0):nmL x.name=true/\yG x.rng=true/\dB x.fs al=true:=by
 unfold gX at h
 cases h1:nmL x.name
 ·rw [if_pos h1] at h;simp at h
 ·rw [if_neg (by simp [h1])] at h
  split at h
  ·simp at h
  ·cases h2:yG x.rng
   ·rw [if_pos h2] at h;simp at h
   ·rw [if_neg (by simp [h2])] at h
    cases h3:dB x.fs al
    ·rw [if_pos h3] at h;simp at h
    ·exact ⟨rfl,rfl,rfl⟩
theorem wishT_short {own:YL}{x:Wt}{al:Bool}(h:gX own x al=0):(kQ x).length<=250:=by
 obtain ⟨h1,h2,h3⟩:=wish_fine h
 have k1:=fG h1
 have k2:=pg_short h2
 have k3:(bS x.fs).length<=79:=by
  unfold dB at h3
  simp only [Bool.and_eq_true,decide_eq_true_eq,List.all_eq_true] at h3
  unfold bS
  split
  ·simp
  ·have:=jn_most 44 12 (l:=x.fs) λs hs=>tW (h3.1.1.1 s hs)
   have:=h3.1.1.2;omega
 have k4:(fJ x.bare).length=4:=by unfold fJ;cases x.bare<;>rfl
 unfold kQ
 simp only [List.length_append,txAny,List.length_cons,List.length_nil];omega
theorem need_fine {own:YL}{n:Nt}(h:gZ own n=0):n.any≠[]/\n.any.length<=3/\(∀ x∈n.any,gX own x (decide (n.any.length=1))=0)/\x1 n.wh=true/\(n.opt=[]\/wdL n.opt=true):=by
 unfold gZ at h
 by_cases h1:n.any=[]
 ·rw [if_pos h1] at h;simp at h
 ·rw [if_neg h1] at h
  by_cases h2:3<n.any.length
  ·rw [if_pos h2] at h;simp at h
  ·rw [if_neg h2] at h
   by_cases h3:yV (λx=>gX own x (decide (n.any.length=1))) n.any=0
   ·rw [if_neg (by simp [h3])] at h
    cases h4:x1 n.wh
    ·rw [if_pos h4] at h;simp at h
    ·rw [if_neg (by simp [h4])] at h
     refine ⟨h1,by omega,firstE_zero h3,rfl, ?_⟩
     by_cases h5:n.opt=[]
     ·exact .inl h5
     ·cases h6:wdL n.opt
      ·rw [if_pos ⟨h5,h6⟩] at h;simp at h
      ·exact .inr rfl
   ·rw [if_pos h3] at h;exact absurd h h3
theorem needT_short {own:YL}{n:Nt}(h:gZ own n=0):(kW n).length<=900:=by
 obtain ⟨_,h2,h3,h4,h5⟩:=need_fine h
 have k1:=fm_most kQ 250 (l:=n.any) λx hx=>wishT_short (h3 x hx)
 have k2:=whenT_short h4
 have k3:(optnT n.opt).length<=20:=by
  unfold optnT
  split
  ·simp
  ·rcases h5 with e|e
   ·contradiction
   ·have:=tW e
    simp only [List.length_append,txOpt,List.length_cons,List.length_nil];omega
 unfold kW
 simp only [List.length_append,txNeed,List.length_cons,List.length_nil];omega
theorem bar_fine {own:YL}{b:Bt}(h:bD own b=0):nmL b.name=true/\yG b.rng=true/\x1 b.wh=true:=by
 unfold bD at h
 cases h1:nmL b.name
 ·rw [if_pos h1] at h;simp at h
 ·rw [if_neg (by simp [h1])] at h
  split at h
  ·simp at h
  ·cases h2:yG b.rng
   ·rw [if_pos h2] at h;simp at h
   ·rw [if_neg (by simp [h2])] at h
    cases h3:x1 b.wh
    ·rw [if_pos h3] at h;simp at h
    ·exact ⟨rfl,rfl,rfl⟩
theorem barT_short {own:YL}{b:Bt}(h:bD own b=0):(bC b).length<=300:=by
 obtain ⟨h1,h2,h3⟩:=bar_fine h
 have k1:=fG h1
 have k2:=pg_short h2
 have k3:=whenT_short h3
 unfold bC
 simp only [List.length_append,txBar,List.length_cons,List.length_nil];omega
theorem parts_fine {r:Rt}(h:(gE r).1=0):(∀ n∈r.needs,gZ r.name n=0)/\(∀ b∈r.bars,bD r.name b=0)/\dP r.fts=true∧∀ f∈r.fts,yV (xY r.needs) f.of=0:=by
 unfold gE at h
 by_cases h1:(g8 (gZ r.name) 0 r.needs).1=0
 ·rw [if_neg (by simp [h1])] at h
  by_cases h2:(g8 (bD r.name) 0 r.bars).1=0
  ·rw [if_neg (by simp [h2])] at h
   cases h3:dP r.fts
   ·rw [if_pos h3] at h;simp at h
   ·rw [if_neg (by simp [h3])] at h
    exact ⟨nB h1,nB h2,rfl,nB h⟩
  ·rw [if_pos h2] at h;exact absurd h h2
 ·rw [if_pos h1] at h;exact absurd h h1
theorem rec_small {r:Rt}(hn:r.name.length<=1048576)(hv:r.ver.print.length<=3145728)(h8:r.needs.length<=8)(hb8:r.bars.length<=8)(hp:(gE r).1=0)(hf:∀ f∈r.fts,∀ s∈f.of,s.length<=1048576):(kS r).length<=100000000:=by
 obtain ⟨h1,h2,h3,_⟩:=parts_fine hp
 unfold dP at h3
 simp only [Bool.and_eq_true,decide_eq_true_eq,List.all_eq_true] at h3
 have k1:=fm_most kW 900 (l:=r.needs) λn hx=>needT_short (h1 n hx)
 have k2:=fm_most bC 300 (l:=r.bars) λn hx=>barT_short (h2 n hx)
 have k3:=fm_most gK 9000000 (l:=r.fts) λf hx=>by
  have e1:=h3.2 f hx
  unfold kP at e1
  simp only [Bool.and_eq_true,decide_eq_true_eq] at e1
  have e2:=jn_most 32 1048576 (l:=x6::f.name::f.of) λs hs=>by
   rcases List.mem_cons.1 hs with rfl|hs
   ·decide
   ·rcases List.mem_cons.1 hs with rfl|hs
    ·have:=tW (h3.1.1.2 f hx);omega
    ·exact hf f hx s hs
  unfold gK
  simp only [List.length_append,List.length_cons,List.length_nil] at e2 ⊢
  have:=e1.1.1;omega
 have k4:=h3.1.1.1
 unfold kS jB
 simp only [List.length_append,txPack,List.length_cons,List.length_nil];omega
theorem dW {r:Rt}(h:(zV r).1=0):nmL r.name=true/\r.ver.may=true/\r.needs.length<=8/\r.bars.length<=8/\(gE r).1=0/\(kS r).length<=4096:=by
 unfold zV at h
 cases h1:nmL r.name
 ·rw [if_pos h1] at h;simp at h
 ·rw [if_neg (by simp [h1])] at h
  cases h2:r.ver.may
  ·rw [if_pos h2] at h;simp at h
  ·rw [if_neg (by simp [h2])] at h
   by_cases h3:8<r.needs.length\/8<r.bars.length
   ·rw [if_pos h3] at h;simp at h
   ·rw [if_neg h3] at h
    by_cases h4:(gE r).1=0
    ·rw [if_neg (by simp [h4])] at h
     by_cases h5:4096<(kS r).length
     ·rw [if_pos h5] at h;simp at h
     ·exact ⟨rfl,rfl,by omega,by omega,h4,by omega⟩
    ·rw [if_pos h4] at h;exact absurd h h4
def printR (r:Rt):YL:=if (zV r).1=0 then kS r else []
end
section
def dK:UInt64:=0xFF51AFD7ED558CCD
def dI:UInt64:=0x9E3779B97F4A7C15
def rot13 (x:UInt64):UInt64:=x<<<13|||x>>>51
def dStep (h:UInt64)(b:UInt8):UInt64:=rot13 (h^^^b.toUInt64)*dK
def dMix (l:YL):UInt64:=l.foldl dStep dI
def dEnd (h:UInt64):UInt64:=h^^^h>>>29
def dSum (l:YL):UInt64:=dEnd (dMix l)
def dBytes (n:UInt64):YL:=([56,48,40,32,24,16,8,0]:List UInt64).map λk=>(n>>>k).toUInt8
def dPair (a b:UInt64):UInt64:=dSum (dBytes a++dBytes b)
def dRoot (l:List UInt64):UInt64:=l.foldl dPair (dSum [])
end
section
def sumR (r:Rt):Int:=if (zV r).1=0 then ((dSum (kS r)).toNat:Int) else 0
structure Et where
 rc:Rt
 sum:Int
 yk:Bool
deriving DecidableEq
structure Sh where
 name:YL
 es:List Et
deriving DecidableEq
def nilSh:Sh:=⟨[],[]⟩
def oneV (a v:Ver):Bool:=a.may && v.may && decide (mS a v=0)
def hitE (n:YL)(v:Ver)(e:Et):Bool:=decide (e.rc.name=n) && oneV e.rc.ver v
def placeE (l:List Et)(n:YL)(v:Ver):Int:=match l.findIdx? (hitE n v) with
 |some i=>(i:Int)
 |none=> -1
def okE (e:Et):Prop:=(zV e.rc).1=0/\sumR e.rc=e.sum
def sumU (e:Et):UInt64:=UInt64.ofNat e.sum.toNat
structure MayS (s:Sh):Prop where
 name:nmL s.name=true
 few:s.es.length<=64
 ok:∀ e∈s.es,okE e
 apart:s.es.Pairwise λa b=>hitE b.rc.name b.rc.ver a=false
instance:DecidablePred okE:=λe=>by unfold okE;infer_instance
instance:DecidablePred MayS:=λs=>decidable_of_iff (nmL s.name=true/\s.es.length<=64/\(∀ e∈s.es,okE e)/\s.es.Pairwise λa b=>hitE b.rc.name b.rc.ver a=false) ⟨λ⟨a,b,c,d⟩=>⟨a,b,c,d⟩,λh=>⟨h.name,h.few,h.ok,h.apart⟩⟩
def markY:List Et->Nat->Bool->List Et
 | [],_,_=>[]
 |e::r,0,on=>{e with yk:=on}::r
 |e::r,i+1,on=>e::markY r i on
def coreE (e:Et):Rt×Int:=(e.rc,e.sum)
def putS (s:Sh)(r:Rt):Sh×Int:=
 if MayS s then if (zV r).1=0 then if placeE s.es r.name r.ver= -1 then if s.es.length=64 then (nilSh,10) else (⟨s.name,s.es++[⟨r,sumR r,false⟩]⟩,0) else (nilSh,8) else (nilSh,(zV r).1) else (nilSh,1)
def yankS (s:Sh)(n:YL)(v:Ver)(on:Bool):Sh×Int:=
 if MayS s then if placeE s.es n v= -1 then (nilSh,9) else (⟨s.name,markY s.es (placeE s.es n v).toNat on⟩,0) else (nilSh,1)
def findS (s:Sh)(n:YL)(v:Ver):Int:=if MayS s then placeE s.es n v else-1
def GrownS (a b:Sh):Prop:=MayS a/\MayS b/\a.name=b.name/\a.es.length<=b.es.length/\a.es.map Et.rc=(b.es.take a.es.length).map Et.rc
instance (a b:Sh):Decidable (GrownS a b):=by unfold GrownS;infer_instance
end
section
structure Rs where
 rc:Rt
 st:Int
def dO:Rt:=⟨[],Ver.zero,[],[],[]⟩
def bT:YL:=[112,97,99,107,97,103,101]
def dC:YL:=[110,101,101,100]
def nQ:YL:=[97,110,121]
def j7:YL:=[119,104,101,110]
def wOpt:YL:=[111,112,116,105,111,110]
def nF:YL:=[98,97,114]
def noE (l:List YL):Bool:=l.all λs=>decide (s≠[])
def dD (s:YL)(k:Nat):Option (List YL×YL):=
 if (zE 32 [] s).length<=k then none else if noE ((zE 32 [] s).take k)=false then none else if zG 32 ((zE 32 [] s).drop k)=[] then none else some ((zE 32 [] s).take k,zG 32 ((zE 32 [] s).drop k))
def x7 {α:Type}(f:α->α):List α->List α
 | []=>[]
 | [a]=>[f a]
 |a::b::r=>a::x7 f (b::r)
theorem pW {α:Type}(f:α->α):∀ (l:List α) (a:α),x7 f (l++[a])=l++[f a]
 | [],a=>rfl
 | [b],a=>rfl
 |b::c::r,a=>by
  rw [List.cons_append,List.cons_append,x7,←List.cons_append,pW f (c::r) a];rfl
def headS (l:List YL):Option Rs:=
 if l.length=3/\l.getD 0 []=bT/\l.getD 1 []≠[]/\parE (l.getD 2 [])=0 then some ⟨⟨l.getD 1 [],nG (l.getD 2 []),[],[],[]⟩,1⟩ else none
def anyW (w:List YL)(t:YL):Wt:=⟨w.getD 1 [],t,if w.getD 2 []=[45] then [] else zE 44 [] (w.getD 2 []),decide (w.getD 3 []=j6)⟩
def anyS (x:Rs)(s:YL):Option Rs:=match dD s 4 with
 |none=>none
 |some (w,t)=>if x.st=2/\(w.getD 3 []=j6\/w.getD 3 []=fS) then some ⟨{x.rc with needs:=x7 (λn=>{n with any:=n.any++[anyW w t]}) x.rc.needs},2⟩ else none
def whenS (x:Rs)(s:YL):Option Rs:=match dD s 1 with
 |none=>none
 |some (_,t)=>if x.st=2 then some ⟨{x.rc with needs:=x7 (λn=>{n with wh:=t}) x.rc.needs},3⟩ else if x.st=5 then some ⟨{x.rc with bars:=x7 (λb=>{b with wh:=t}) x.rc.bars},6⟩ else none
def optS (x:Rs)(l:List YL):Option Rs:=
 if l.length=2/\noE l=true/\(x.st=2\/x.st=3) then some ⟨{x.rc with needs:=x7 (λn=>{n with opt:=l.getD 1 []}) x.rc.needs},4⟩ else none
def barS (x:Rs)(s:YL):Option Rs:=match dD s 2 with
 |none=>none
 |some (w,t)=>if x.st<=6 then some ⟨{x.rc with bars:=x.rc.bars++[⟨w.getD 1 [],t,[]⟩]},5⟩ else none
def featS (x:Rs)(l:List YL):Option Rs:=
 if 2<=l.length/\noE l=true then some ⟨{x.rc with fts:=x.rc.fts++[⟨l.getD 1 [],l.drop 2⟩]},7⟩ else none
def needS (x:Rs)(l:List YL):Option Rs:=if l.length=1/\x.st<5 then some ⟨{x.rc with needs:=x.rc.needs++[⟨[],[],[]⟩]},2⟩ else none
def lineS (x:Rs)(s:YL):Option Rs:=
 if x.st=0 then headS (zE 32 [] s)
 else if (zE 32 [] s).getD 0 []=dC then needS x (zE 32 [] s)
 else if (zE 32 [] s).getD 0 []=nQ then anyS x s
 else if (zE 32 [] s).getD 0 []=j7 then whenS x s
 else if (zE 32 [] s).getD 0 []=wOpt then optS x (zE 32 [] s)
 else if (zE 32 [] s).getD 0 []=nF then barS x s
 else if (zE 32 [] s).getD 0 []=x6 then featS x (zE 32 [] s)
 else none
def runS:Rs->List YL->Option Rs
 |x,[]=>some x
 |x,s::r=>match lineS x s with
  |some y=>runS y r
  |none=>none
def badS:Rs->Nat->List YL->Int
 |_,_,[]=>0
 |x,k,s::r=>match lineS x s with
  |some y=>badS y (k+1) r
  |none=>((k+1:Nat):Int)
def linesOf (s:YL):List YL×Bool:=if (zE 10 [] s).getLast?=some [] then ((zE 10 [] s).dropLast,true) else (zE 10 [] s,false)
def doneS (x:Rs):Rt×Int×Int:=if x.st=0 then (dO,2,1) else if (zV x.rc).1≠0 then (dO,(zV x.rc).1,0) else (x.rc,0,0)
def vD (s:YL):Rt×Int×Int:=
 if 4096<s.length then (dO,3,0)
 else match runS ⟨dO,0⟩ (zE 10 [] s).dropLast with
  |none=>(dO,2,badS ⟨dO,0⟩ 0 (zE 10 [] s).dropLast)
  |some x=>if (zE 10 [] s).getLast?=some [] then doneS x else (dO,2,((zE 10 [] s).length:Int))
def headL (r:Rt):YL:=zG 32 [bT,r.name,r.ver.print]
def wishL (x:Wt):YL:=zG 32 [nQ,x.name,bS x.fs,fJ x.bare,x.rng]
def whenL (s:YL):List YL:=if s=[] then [] else [zG 32 [j7,s]]
def optnL (s:YL):List YL:=if s=[] then [] else [zG 32 [wOpt,s]]
def needLs (n:Nt):List YL:=dC::(n.any.map wishL++whenL n.wh++optnL n.opt)
def barLs (b:Bt):List YL:=zG 32 [nF,b.name,b.rng]::whenL b.wh
def featL (f:Ft):YL:=zG 32 (x6::f.name::f.of)
def recLs (r:Rt):List YL:=headL r::(r.needs.flatMap needLs++r.bars.flatMap barLs++r.fts.map featL)
def unL (l:List YL):YL:=l.flatMap λs=>s++[10]
theorem wishL_text (x:Wt):wishL x++[10]=kQ x:=by
 unfold wishL kQ
 simp only [zG,nQ,txAny,List.append_assoc,List.cons_append,List.nil_append]
end
section
theorem nm_ne {s:YL}(h:nmL s=true):s≠[]:=λe=>by subst e;exact absurd h (by decide)
end
section
def hexD (d:Nat):UInt8:=if d<10 then UInt8.ofNat (48+d) else UInt8.ofNat (87+d)
def hexV (c:UInt8):Option Nat:=if 48<=c.toNat/\c.toNat<=57 then some (c.toNat-48) else if 97<=c.toNat/\c.toNat<=102 then some (c.toNat-87) else none
def hexT (n:Nat)(k:Nat):YL:=(List.range k).map λi=>hexD (n/16^(15-i) % 16)
def dText (n:UInt64):YL:=hexT n.toNat 16
def hexN:Nat->YL->Option Nat
 |n,[]=>some n
 |n,c::r=>match hexV c with
  |some d=>hexN (n*16+d) r
  |none=>none
def dReadN (s:YL):Option Nat:=if s.length=16 then hexN 0 s else none
def dReadV (s:YL):UInt64:=UInt64.ofNat ((dReadN s).getD 0)
def dReadB (s:YL):Bool:=(dReadN s).isSome
end
section
set_option linter.unnecessarySimpa false
def wShelf:YL:=[115,104,101,108,102]
def wEnt:YL:=[101,110,116,114,121]
def wOff:YL:=[111,102,102]
def wOn:YL:=[111,110]
def onW (b:Bool):YL:=if b then wOff else wOn
def entH (d:YL)(y:Bool):YL:=zG 32 [wEnt,d,onW y]
def entLs (e:Et):List YL:=entH (dText (sumU e)) e.yk::recLs e.rc
def entT (e:Et):YL:=(entH (dText (sumU e)) e.yk++[10])++kS e.rc
def shH (n:YL):YL:=zG 32 [wShelf,n]
def shT (s:Sh):YL:=(shH s.name++[10])++s.es.flatMap entT
def xD:YL->YL->List YL
 |p,[]=>if p=[] then [] else [p]
 |p,c::r=>if c=10 then (p++[10])::xD [] r else xD (p++[c]) r
def endP (p:YL):Bool:=decide (p.getLast?=some 10)
def nD (p:YL):YL:=if endP p then p.dropLast else p
def mC (p:YL):List YL:=if endP p then zE 32 [] p.dropLast else []
theorem endP_nl (x:YL):endP (x++[10])=true:=by simp [endP]
def isEnt (p:YL):Bool:=decide ((zE 32 [] (nD p)).getD 0 []=wEnt)
def headE (p:YL):Option (UInt64×Bool):=
 if (mC p).length=3/\(mC p).getD 0 []=wEnt/\((mC p).getD 2 []=wOff\/(mC p).getD 2 []=wOn)/\dReadB ((mC p).getD 1 [])=true then some (dReadV ((mC p).getD 1 []),decide ((mC p).getD 2 []=wOff)) else none
def headN (p:YL):Option YL:=
 if (mC p).length=2/\(mC p).getD 0 []=wShelf/\nmL ((mC p).getD 1 [])=true then some ((mC p).getD 1 []) else none
def nilE:Et:=⟨dO,0,false⟩
def entE (p b:YL):Int×Et:=match headE p with
 |none=>(2,nilE)
 |some x=>if (vD b).2.1≠0 then ((vD b).2.1,nilE) else if sumR (vD b).1≠(x.1.toNat:Int) then (13,nilE) else (0,⟨(vD b).1,(x.1.toNat:Int),x.2⟩)
def addE (l:List Et)(x:Et):Int:=if placeE l x.rc.name x.rc.ver≠ -1 then 8 else if l.length=64 then 10 else 0
def ext:List YL->Nat
 | []=>0
 |p::r=>if isEnt p then 0 else ext r+1
def readE:Nat->List YL->Nat->List Et->List Et×Int×Nat
 |0,_,k,l=>(l,0,k)
 |_+1,[],k,l=>(l,0,k)
 |f+1,p::r,k,l=>
  if (entE p (r.take (ext r)).flatten).1≠0 then (l,(entE p (r.take (ext r)).flatten).1,k)
  else if addE l (entE p (r.take (ext r)).flatten).2≠0 then (l,addE l (entE p (r.take (ext r)).flatten).2,k)
  else readE f (r.drop (ext r)) (k+(ext r+1)) (l++[(entE p (r.take (ext r)).flatten).2])
def outI (n:YL)(x:List Et×Int×Nat):Sh×Int×Int:=if x.2.1≠0 then (nilSh,x.2.1,(x.2.2:Int)+2) else (⟨n,x.1⟩,0,0)
def readL:List YL->Sh×Int×Int
 | []=>(nilSh,2,1)
 |p::r=>match headN p with
  |none=>(nilSh,2,1)
  |some n=>outI n (readE r.length r 0 [])
def readI (s:YL):Sh×Int×Int:=if 524288<s.length then (nilSh,3,0) else readL (xD [] s)
abbrev nlL (l:List YL):List YL:=l.map (·++[10])
end
section
section
variable {M:List Nat}{P:Program}{n:Nat}{W:World}{L:List Blk}{f:Nat->Value}
theorem fin_ret3 {fn:Func}{R:Ending->World->Prop}{t u s:Tmp}(v v' v2:Value)(hres:fn.results= #[.tmp t,.tmp u,.tmp s])(hv:ev n f (.tmp t)=v)(hv':ev n f (.tmp u)=v')(hv2:ev n f (.tmp s)=v2)(hR:∀ w,Own M W w L->R (.returned (.tuple #[v,v',v2])) w):Fin M n W (bodyPost P fn R) .ret L f:=⟨λw hO=>by
 have e1:(Fr n f).tmps.getD t undef=v:=(g0 n f t).trans hv
 have e2:(Fr n f).tmps.getD u undef=v':=(g0 n f u).trans hv'
 have e3:(Fr n f).tmps.getD s undef=v2:=(g0 n f s).trans hv2
 have hr:∀ tm:Array Value,(results fn tm).run P w= .ok (.tuple #[tm.getD t undef,tm.getD u undef,tm.getD s undef]) w:=λtm=>by simp [results,hres]
 refine bodyPost_ret (v:= .tuple #[v,v',v2]) ?_ rfl (hR w hO)
 rw [hr,e1,e2,e3]⟩
end
end
section
section
variable {M:List Nat}{P:Program}{n:Nat}{ops:Array Oper}{W:World}{Q:Exit->Act->World->Prop}{L:List Blk}{f:Nat->Value}{rest:List Oper}{o:Oper}
def RoundW (n:Nat)(Inv:World->(Nat->Value)->Nat->Prop)(m:Nat)(Q:Exit->Act->World->Prop):Exit->Act->World->Prop:=
 Exit.then (λa w=>∃ f m',m'<m/\Inv w f m'/\a=Fr n f) Q
theorem fin_roundW {Inv:World->(Nat->Value)->Nat->Prop}{m m':Nat}(hlt:m'<m)(hI:∀ w,Own M W w L->Inv w f m'):Fin M n W (RoundW n Inv m Q) .normal L f:=⟨λw hO=>⟨f,m',hlt,hI w hO,rfl⟩⟩
end
structure RdT (w:World)(v:Value)(l:List YL):Prop where
 ex:∃ A cap,v= .slice A l.length cap/\Reads yY w w.heap.size A l/\(A=none->cap=0)
end
section
section
variable {P:Program}{md:Region.Mode}{l:List Oper}{m:Nat}
theorem upon_then {o:Oper}{a:Act}{K K':Act->World->Prop}{Q:Exit->Act->World->Prop}{r:Result Next}:o.upon P a K (Exit.then K' Q) r=o.upon P a K Q r:=by
 cases r with
 |ok x w=>cases x<;>rfl
 |halt x w=>cases x<;>rfl
theorem wpOp_take (hp:PreOk md l m){Q:Exit->Act->World->Prop}{K':Act->World->Prop}{i:Nat}(hi:i<m){K:Act->World->Prop}{a:Act}{w:World}(h:wpOp P (l.take m).toArray (Exit.then K' Q) i K a w):wpOp P l.toArray Q i K a w:=by
 unfold wpOp at h ⊢
 rw [take_at hi] at h
 cases ho:l.toArray[i]? with
 |none=>rw [ho] at h;exact h
 |some o=>
  rw [ho] at h
  have ho':l[i]?=some o:=by simpa using ho
  dsimp only at h ⊢
  rw [want_take hp hi ho'] at h
  split
  ·rename_i hw
   rw [if_pos hw] at h
   unfold Oper.wp at h ⊢
   rw [upon_then] at h
   exact h
  ·rename_i hw
   rw [if_neg hw] at h
   exact h
theorem any_comp (hp:PreOk md l m){Q:Exit->Act->World->Prop}{K':Act->World->Prop}{g:Nat}(H:∀ (fuel:Nat) (listed:Array Bool) (a:Act) (w:World),g<=fuel->Upto l.length m listed->K' a w->wpAny P md l.toArray Q fuel listed a w):
  ∀ (fuel:Nat) (listed' listed:Array Bool) (a:Act) (w:World),Part l.length m listed' listed->wpAny P md (l.take m).toArray (Exit.then K' Q) fuel listed' a w->wpAny P md l.toArray Q (fuel+g) listed a w:=by
 have full:∀ (listed' listed:Array Bool),Part l.length m listed' listed->(¬ ∃ i,i<m/\listed'.getD i true=false)->Upto l.length m listed:=by
  intro listed' listed h hno
  refine ⟨h.size,λi hi=> ?_⟩
  by_cases him:i<m
  ·rw [h.same i him,decide_eq_true him]
   obtain ⟨b,e⟩:=h.get him
   rw [e]
   cases b with
   |true=>rfl
   |false=>exact absurd ⟨i,him,by rw [Array.getD_eq_getD_getElem?,e];rfl⟩ hno
  ·rw [decide_eq_false him];exact h.rest i Om hi
 have some_ready:∀ (listed' listed:Array Bool),Part l.length m listed' listed->(∃ i,i<m/\listed'.getD i true=false)→∃ k,k<m/\k∈Region.ready md l.toArray listed:=by
  intro listed' listed h hun
  obtain ⟨k,hk,hf,hall⟩:=least_false (λi=>listed'.getD i true) m hun
  refine ⟨k,hk,(part_ready hp h hk).2 (mem_ready.2 ⟨hf,l[k]'(by have:=hp.le;omega), ?_,λe he hb=> ?_⟩)⟩
  ·rw [take_at hk];simp
  ·have:=hp.back k _ (List.getElem?_eq_getElem (by have:=hp.le;omega)) e he hb
   have h2:=hall e.on this
   obtain ⟨b,e2⟩:=h.get (i:=e.on) Om
   rw [Array.getD_eq_getD_getElem?,e2] at h2 ⊢
   simpa using h2
 intro fuel
 induction fuel with
 |zero=>
  intro listed' listed a w h hq
  have hno:¬ ∃ i,i<m/\listed'.getD i true=false:=λhun=>by
   obtain ⟨k,hk,hr⟩:=some_ready _ _ h hun
   have:=(part_ready hp h hk).1 hr
   rw [hq.1] at this;cases this
  exact H _ listed a w Om (full _ _ h hno) hq.2
 |succ f ih=>
  intro listed' listed a w h hq
  by_cases hun:∃ i,i<m/\listed'.getD i true=false
  ·rw [show f+1+g=(f+g)+1 from by omega]
   refine ⟨λhr=> ?_,λi hi=> ?_⟩
   ·obtain ⟨k,hk,hr2⟩:=some_ready _ _ h hun
    rw [hr] at hr2;cases hr2
   ·have him:=part_in hp h hun i hi
    have h1:=hq.2 i ((part_ready hp h him).1 hi)
    exact wpOp_mono (λa' w' hk=>ih _ _ a' w' (h.set him) hk) (wpOp_take hp him h1)
  ·have hr:Region.ready md (l.take m).toArray listed'=[]:=by
    apply List.eq_nil_iff_forall_not_mem.2
    intro i hi
    have h1:=(mem_ready.1 hi).1
    obtain ⟨_,o,ho,_⟩:=mem_ready.1 hi
    have:i<m:=by
     have:=(Array.getElem?_eq_some_iff.1 ho).1
     simp at this;omega
    exact hun ⟨i,this,h1⟩
   exact H _ listed a w Om (full _ _ h hun) (hq.1 hr)
end
section
variable {M:List Nat}{P:Program}{n:Nat}{W:World}{Q:Exit->Act->World->Prop}{L:List Blk}{f:Nat->Value}
theorem ok_drawh {id:Nat}{l:List Oper}(m:Nat)(L0:List Blk)(hm:P.follows .mixedOrders=true)(hP:preB .any l m=true)(h:pQ M P n (l.take m).toArray W L0 (Exit.then (wpList P l.toArray Q (l.drop m)) Q) m (Array.replicate m false) L f):Ok M P n W Q (.region id l.toArray true) L f:=⟨λw hO=>by
 have hp:=preB_ok hP
 have hle:(l.take m).length=m:=by rw [List.length_take];have:=hp.le;omega
 refine wp_region_any hm ?_
 have hq:=wpAny_of_held _ _ _ _ (h.go _ hO.drew)
 have hres:=any_comp (P:=P) (md:= .any) hp (Q:=Q) (g:=l.length-m) (K':=wpList P l.toArray Q (l.drop m)) (λfuel listed a w hf hu hk=>any_tail hp (l.length-m) m fuel listed _ w rfl (Nat.le_refl _) hp.le hf hu hk) m (Array.replicate m false) (Array.replicate l.toArray.size false) (Fr n f) {w with drawn:=w.drawn+1}
  ⟨by simp,by simp,λi hi=>by
   have:=hp.le
   rw [Array.getElem?_replicate,Array.getElem?_replicate,if_pos (by simp;omega),if_pos hi],λt _ ht=>by rw [Array.getElem?_replicate,if_pos (by simpa using ht)]⟩ hq
 rw [show m+(l.length-m)=l.toArray.size from by have:=hp.le;simp;omega] at hres
 exact hres⟩
end
end
section
inductive XTop where
 |ops (a:Array Oper) (r:List Oper)
 |qps (a:Array Oper) (r:List Oper)
 |hps (a:Array Oper) (s:Array Bool) (u:Nat) (L0:List Blk)
 |hst (a:Array Oper) (s:Array Bool) (u:Nat) (L0:List Blk) (i:Nat)
 |code (c:Code)
 |fin (e:Exit)
inductive XIt where
 |code (c:Code)
 |blk (id:Nat)
 |lp (I:List Blk->(Nat->Value)->Nat->Prop) (m:Nat)
 |tl (a:Array Oper) (r:List Oper)
 |rd (c:Code) (m:Nat)
structure Xc where
 top:XTop
 k:List XIt
 L:List Blk
 f:Nat->Value
def KQ (M:List Nat)(P:Program)(n:Nat)(W:World)(Q:Exit->Act->World->Prop):List XIt->Exit->Act->World->Prop
 | []=>Q
 | .code c::k=>Exit.then (Code.wp P c (KQ M P n W Q k)) (KQ M P n W Q k)
 | .blk id::k=>Exit.inBlock id (KQ M P n W Q k)
 | .lp I m::k=>Round M n W I m (KQ M P n W Q k)
 | .tl a r::k=>Exit.then (wpList P a (KQ M P n W Q k) r) (KQ M P n W Q k)
 | .rd c m::k=>Exit.then (Code.rounds P c (KQ M P n W Q k) m) (KQ M P n W Q k)
theorem pq_KQ {M:List Nat}{P:Program}{n:Nat}{W:World}{Q:Exit->Act->World->Prop}(h:PQ Q):∀ k:List XIt,PQ (KQ M P n W Q k)
 | []=>h
 | .code _::k=>pq_seq (pq_KQ h k)
 | .blk _::k=>p6 (pq_KQ h k)
 | .lp _ _::k=>pq_round (pq_KQ h k)
 | .tl _ _::k=>pq_seq (pq_KQ h k)
 | .rd _ _::k=>pq_seq (pq_KQ h k)
structure zF (M:List Nat)(P:Program)(n:Nat)(W:World)(Q:Exit->Act->World->Prop)(c:Xc):Prop where
 go:PQ Q->match c.top with
  | .ops a r=>Seg M P n a W (KQ M P n W Q c.k) r c.L c.f
  | .qps a r=>mW M P n a W (Fin M n W (KQ M P n W Q c.k) .normal) r c.L c.f
  | .hps a s u L0=>(∀ w,Own M W w c.L->Own M W w L0)->pQ M P n a W L0 (KQ M P n W Q c.k) u s c.L c.f
  | .hst a s u L0 i=>(∀ w,Own M W w c.L->Own M W w L0)->tU M P n a W L0 (KQ M P n W Q c.k) u s i c.L c.f
  | .code x=>Ok M P n W (KQ M P n W Q c.k) x c.L c.f
  | .fin e=>Fin M n W (KQ M P n W Q c.k) e c.L c.f
def xPure:Op->Bool
 | .move _| .assign _| .pick _ _ _| .build _ _| .binOp _ _ _ _ _| .unOp _ _ _| .convert _ _ _| .fieldAddr _ _ _| .field _ _ _| .indexAddr _ _ _| .index _ _ _| .extract _ _| .slice _ _ _ _ _| .nilCheck _=>true
 | .call c=>match c.callee with
  | .builtin .len| .builtin .cap| .builtin .max| .builtin .min=>true
  |_=>false
 |_=>false
def xQuiet (o:Oper):Bool:=
 match o.op with
 | .load _ _=>true
 | .call c=>match c.callee with
  | .builtin .append=>false
  |_=>true
 |op=>xPure op
abbrev XR:Type:=World->Result Next
inductive XK where
 |no
 |r (g:XR)
 |ld (p:Value) (x:Option Blk) (v:Option Value)
 |st (p:Value) (x:Option Blk) (a:Option Bool) (b:Bool)
 |h (a b:Bool) (k:XK)
def xVal (P:Program)(n:Nat)(f:Nat->Value)(o:Oper):Value:=
 match (execOp (ev n f) o).run P default with
 | .ok (.value v) _=>v
 |_=>undef
def xOff:Value->Nat
 | .pointer (some a)=>a.off
 |_=>0
def vQ (L:List Blk)(i:Nat):Blk:=L.getD i ⟨0, #[],0⟩
structure XS where
 go:Bool
 c:Xc
 h:List Nat
 l:XK
 r:XK
def xhd (h:List Nat):Nat:=h.headD 0
def xop (P:Program)(n:Nat)(q:Bool)(a:Array Oper)(o:Oper)(r:List Oper)(c:Xc)(h:List Nat):XS:=
 let nx (L:List Blk) (f:Nat->Value):Xc:=⟨bif q then .qps a r else .ops a r,c.k,L,f⟩
 match zU a n c.f o with
 |false=>⟨true,nx c.L (upd c.f o.dst undef),h,.no,.no⟩
 |true=>
  match o.op with
  | .load ty p=>
   let x:=vQ c.L (xhd h)
   let v:=yZ P ty x.cs (xOff (ev n c.f p))
   ⟨true,nx c.L (upd c.f o.dst (v.getD undef)),h.tail,.ld (ev n c.f p) (c.L[xhd h]?) v,.ld (.pointer (some ⟨x.b,xOff (ev n c.f p),none⟩)) (some x) (some (v.getD undef))⟩
  | .store T p y=>
   match q,o.dst with
   |false,none=>
    let x:=vQ c.L (xhd h)
    let v:=ev n c.f y
    ⟨true,nx (c.L.set (xhd h) ⟨x.b,zW x.cs (xOff (ev n c.f p)) v.cells,x.ty⟩) c.f,h.tail,.st (ev n c.f p) (c.L[xhd h]?) ((P.info? T).map λt=>Nat.beq v.cells.size t.size && Nat.ble (xOff (ev n c.f p)+t.size) x.cs.size) (v.cells.toList.all λu=>u.oneCell'),
     .st (.pointer (some ⟨x.b,xOff (ev n c.f p),none⟩)) (some x) (some true) true⟩
   |_,_=>⟨false,c,h,.no,.no⟩
  |op=>
   match xPure op with
   |true=>⟨true,nx c.L (upd c.f o.dst (xVal P n c.f o)),h,.r (λw=>(execOp (ev n c.f) o).run P w),.r (λw=> .ok (.value (xVal P n c.f o)) w)⟩
   |false=>⟨false,c,h,.no,.no⟩
def xTak (n:Nat)(a:Array Oper)(f:Nat->Value)(i:Nat):Bool:=
 match a[i]? with
 |none=>false
 |some o=>
  match zU a n f o with
  |false=>true
  |true=>
   match o.op with
   | .load _ _=>true
   |op=>xPure op
def xhp (P:Program)(n:Nat)(a:Array Oper)(s:Array Bool)(u:Nat)(L0:List Blk)(i:Nat)(o:Oper)(c:Xc)(h:List Nat):XS:=
 let nx (f:Nat->Value):Xc:=⟨.hps a (s.setIfInBounds i true) u L0,c.k,c.L,f⟩
 let fr:Bool:=Region.noSelect a && Region.free .any a s i && (Region.ready .any a s).contains i
 match zU a n c.f o with
 |false=>⟨true,nx (upd c.f o.dst undef),h,.h fr true .no,.h true true .no⟩
 |true=>
  match o.op with
  | .load ty p=>
   let x:=vQ L0 (xhd h)
   let v:=yZ P ty x.cs (xOff (ev n c.f p))
   ⟨true,nx (upd c.f o.dst (v.getD undef)),h.tail,.h fr true (.ld (ev n c.f p) (L0[xhd h]?) v),.h true true (.ld (.pointer (some ⟨x.b,xOff (ev n c.f p),none⟩)) (some x) (some (v.getD undef)))⟩
  |op=>⟨true,nx (upd c.f o.dst (xVal P n c.f o)),h,.h fr true (.r (λw=>(execOp (ev n c.f) o).run P w)),.h true true (.r (λw=> .ok (.value (xVal P n c.f o)) w))⟩
def xhs (P:Program)(n:Nat)(a:Array Oper)(s:Array Bool)(u:Nat)(L0:List Blk)(c:Xc)(h:List Nat):XS:=
 match Region.ready .any a s with
 | []=>⟨true,{c with top:= .fin .normal},h,.no,.no⟩
 |_=>
  match u,(Region.ready .any a s).find? (xTak n a c.f) with
  |u'+1,some i=>
   match a[i]? with
   |some o=>xhp P n a s u' L0 i o c h
   |none=>⟨false,c,h,.no,.no⟩
  |_,_=>⟨false,c,h,.no,.no⟩
def xcode (P:Program)(n:Nat)(x:Code)(c:Xc):Bool×Xc:=
 match x with
 | .skip=>(true,{c with top:= .fin .normal})
 | .region _ a false=>(true,{c with top:= .ops a a.toList})
 | .region _ a true=>bif P.follows .mixedOrders && Region.lexB .any a && a.toList.all xQuiet then (true,{c with top:= .qps a a.toList}) else (false,c)
 | .seq a b=>(true,{c with top:= .code a,k:= .code b::c.k})
 | .block id b=>(true,{c with top:= .code b,k:= .blk id::c.k})
 | .exit id=>(true,{c with top:= .fin (.exit id)})
 | .ret=>(true,{c with top:= .fin .ret})
 | .cond o a b=>
  match ev n c.f o with
  | .bool true=>(true,{c with top:= .code a})
  | .bool false=>(true,{c with top:= .code b})
  |_=>(false,c)
 |_=>(false,c)
def xfin (e:Exit)(c:Xc):Bool×Xc:=
 match c.k,e with
 | .code b::k,.normal=>(true,{c with top:= .code b,k:=k})
 | .code _::k,.exit id=>(true,{c with top:= .fin (.exit id),k:=k})
 | .code _::k,.ret=>(true,{c with top:= .fin .ret,k:=k})
 | .blk _::k,.normal=>(true,{c with top:= .fin .normal,k:=k})
 | .blk id::k,.exit id'=>(true,{c with top:= .fin (bif Nat.beq id' id then .normal else .exit id'),k:=k})
 | .blk _::k,.ret=>(true,{c with top:= .fin .ret,k:=k})
 | .lp _ _::k,.exit id=>(true,{c with top:= .fin (.exit id),k:=k})
 | .lp _ _::k,.ret=>(true,{c with top:= .fin .ret,k:=k})
 | .tl a r::k,.normal=>(true,{c with top:= .ops a r,k:=k})
 | .rd b (m+1)::k,.normal=>(true,{c with top:= .code b,k:= .rd b m::k})
 | .rd _ _::k,.exit id=>(true,{c with top:= .fin (.exit id),k:=k})
 | .rd _ _::k,.ret=>(true,{c with top:= .fin .ret,k:=k})
 |_,_=>(false,c)
def fW (P:Program)(n:Nat)(c:Xc)(h:List Nat):XS:=
 match c.top with
 | .ops _ []=>⟨true,{c with top:= .fin .normal},h,.no,.no⟩
 | .ops a (o::r)=>xop P n false a o r c h
 | .qps _ []=>⟨true,{c with top:= .fin .normal},h,.no,.no⟩
 | .qps a (o::r)=>xop P n true a o r c h
 | .hps a s u L0=>xhs P n a s u L0 c h
 | .hst _ _ _ _ _=>⟨false,c,h,.no,.no⟩
 | .code x=>⟨(xcode P n x c).1,(xcode P n x c).2,h,.no,.no⟩
 | .fin e=>⟨(xfin e c).1,(xfin e c).2,h,.no,.no⟩
def xdst (n:Nat)(c:Xc):Option Tmp:=
 match c.top with
 | .ops _ (o::_)=>o.dst
 | .qps _ (o::_)=>o.dst
 | .hps a s _ _=>
  match (Region.ready .any a s).find? (xTak n a c.f) with
  |some i=>(a.getD i default).dst
  |none=>none
 |_=>none
def xisd (d:Option Tmp)(t:Nat):Bool:=match d with
 |some d=>Nat.beq d t
 |none=>false
def xhit (n t:Nat)(c:Xc):Bool:=xisd (xdst n c) t
def xlen:List XIt->Nat
 | []=>0
 |_::k=>xlen k+1
def xAt (m:Nat):Nat:=Nat.add m 90000
def xCt (d:Nat):Nat:=Nat.add d 70000
def xend (t:Nat)(c:Xc):Bool:=
 match c.top with
 | .fin .normal=>Nat.beq (xAt (xlen c.k)) t
 |_=>false
def xcnd (t:Nat)(c:Xc):Bool:=
 match c.top with
 | .code (.cond (.tmp d) _ _)=>Nat.beq d t
 |_=>false
noncomputable def xpre (n t:Nat)(c:Xc):Bool:= @Bool.rec (λ_=>Bool) false (@Bool.rec (λ_=>Bool) (@Bool.rec (λ_=>Bool) (xisd (xdst n c) (t-50000)) (xcnd (t-70000) c) (Nat.ble 70000 t)) (xend t c) (Nat.ble 90000 t)) (Nat.ble 50000 t)
inductive Fuel1 where
 |z
 |s (m:Fuel1)
def fuel5 (m:Fuel1):Fuel1:= .s (.s (.s (.s (.s m))))
def fuel25 (m:Fuel1):Fuel1:=fuel5 (fuel5 (fuel5 (fuel5 (fuel5 m))))
def fuel125 (m:Fuel1):Fuel1:=fuel25 (fuel25 (fuel25 (fuel25 (fuel25 m))))
def fuelA:Fuel1:=fuel125 (fuel125 (fuel125 .z))
inductive Fuel2 where
 |z
 |s (m:Fuel2)
def fuel12:Fuel1->Fuel2
 | .z=> .z
 | .s m=> .s (fuel12 m)
def fuelB:Fuel2:=fuel12 fuelA
noncomputable def x9 (P:Program)(n t:Nat):Fuel1->List Nat->Xc->Xc
 | .z,_,c=>c
 | .s m,h,c=> @Bool.rec (λ_=>Xc) (@Bool.rec (λ_=>Xc) (fW P n c h).c (x9 P n t m (fW P n c h).h (fW P n c h).c) ((fW P n c h).go && !xhit n t c)) c (xpre n t c)
noncomputable def xl (P:Program)(n t:Nat):Fuel1->List Nat->Xc->List XK
 | .z,_,_=>[]
 | .s m,h,c=> @Bool.rec (λ_=>List XK) ((fW P n c h).l:: @Bool.rec (λ_=>List XK) [] (xl P n t m (fW P n c h).h (fW P n c h).c) ((fW P n c h).go && !xhit n t c)) [] (xpre n t c)
noncomputable def xr (P:Program)(n t:Nat):Fuel2->List Nat->Xc->List XK
 | .z,_,_=>[]
 | .s m,h,c=> @Bool.rec (λ_=>List XK) ((fW P n c h).r:: @Bool.rec (λ_=>List XK) [] (xr P n t m (fW P n c h).h (fW P n c h).c) ((fW P n c h).go && !xhit n t c)) [] (xpre n t c)
section
variable {M:List Nat}{P:Program}{n:Nat}{W:World}{Q:Exit->Act->World->Prop}
theorem xop_ok {a:Array Oper}{o:Oper}{r:List Oper}{k:List XIt}{L:List Blk}{f:Nat->Value}{h:List Nat}(hk:(xop P n false a o r ⟨.ops a (o::r),k,L,f⟩ h).l=(xop P n false a o r ⟨.ops a (o::r),k,L,f⟩ h).r)
  (hg:zF M P n W Q (xop P n false a o r ⟨.ops a (o::r),k,L,f⟩ h).c):zF M P n W Q ⟨.ops a (o::r),k,L,f⟩:=by
 unfold xop at hk hg
 cases hw:zU a n f o with
 |false=>rw [hw] at hk hg;exact ⟨λhq=>s_skip hw (hg.go hq)⟩
 |true=>
  rw [hw] at hk hg
  cases ho:o.op with
  |load ty p=>
   rw [ho] at hk hg
   simp only [XK.ld.injEq] at hk
   exact ⟨λhq=>s_load (xhd h) _ _ hw ho hk.2.1 hk.1 hk.2.2 (hg.go hq)⟩
  |store T p y=>
   rw [ho] at hk hg
   cases hd:o.dst with
   |some d=>rw [hd] at hg;exact hg
   |none=>
    rw [hd] at hk hg
    simp only [XK.st.injEq] at hk
    exact ⟨λhq=>s_store_at (xhd h) _ (ev n f y) hw ho hd hk.2.1 hk.1 rfl hk.2.2.1 hk.2.2.2 (hg.go hq)⟩
  |_=>
   rw [ho] at hk hg
   dsimp only at hk hg
   split at hk
   ·rename_i hp
    rw [hp] at hg
    exact ⟨λhq=>bU _ hw (λw=>congrFun (XK.r.inj hk) w) (hg.go hq)⟩
   ·rename_i hp
    rw [hp] at hg
    exact hg
theorem xqp_ok {a:Array Oper}{o:Oper}{r:List Oper}{k:List XIt}{L:List Blk}{f:Nat->Value}{h:List Nat}(hk:(xop P n true a o r ⟨.qps a (o::r),k,L,f⟩ h).l=(xop P n true a o r ⟨.qps a (o::r),k,L,f⟩ h).r)
  (hg:zF M P n W Q (xop P n true a o r ⟨.qps a (o::r),k,L,f⟩ h).c):zF M P n W Q ⟨.qps a (o::r),k,L,f⟩:=by
 unfold xop at hk hg
 cases hw:zU a n f o with
 |false=>rw [hw] at hk hg;exact ⟨λhq=>q_skip hw (hg.go hq)⟩
 |true=>
  rw [hw] at hk hg
  cases ho:o.op with
  |load ty p=>
   rw [ho] at hk hg
   simp only [XK.ld.injEq] at hk
   exact ⟨λhq=>q_load (xhd h) _ _ hw ho hk.2.1 hk.1 hk.2.2 (hg.go hq)⟩
  |store T p y=>rw [ho] at hk hg;exact hg
  |_=>
   rw [ho] at hk hg
   dsimp only at hk hg
   split at hk
   ·rename_i hp
    rw [hp] at hg
    exact ⟨λhq=>q_val _ hw (λw=>congrFun (XK.r.inj hk) w) (hg.go hq)⟩
   ·rename_i hp
    rw [hp] at hg
    exact hg
theorem ok_drawA {id:Nat}{a:Array Oper}{L:List Blk}{f:Nat->Value}{Q:Exit->Act->World->Prop}(hm:P.follows .mixedOrders=true)(hB:Region.lexB .any a=true)(h:mW M P n a W (Fin M n W Q .normal) a.toList L f):Ok M P n W Q (.region id a true) L f:=by
 obtain ⟨l,rfl⟩:∃ l:List Oper,a=l.toArray:=⟨a.toList,by simp⟩
 exact ok_draw hm hB (by simpa using h)
theorem ok_regA {id:Nat}{a:Array Oper}{L:List Blk}{f:Nat->Value}{Q:Exit->Act->World->Prop}(h:Seg M P n a W Q a.toList L f):Ok M P n W Q (.region id a false) L f:=by
 obtain ⟨l,rfl⟩:∃ l:List Oper,a=l.toArray:=⟨a.toList,by simp⟩
 exact kO (by simpa using h)
theorem xcode_ok {x:Code}{k:List XIt}{L:List Blk}{f:Nat->Value}(hg:zF M P n W Q (xcode P n x ⟨.code x,k,L,f⟩).2):zF M P n W Q ⟨.code x,k,L,f⟩:=by
 cases x with
 |skip=>exact ⟨λhq=>ok_skip (hg.go hq)⟩
 |region id a d=>
  cases d with
  |false=>exact ⟨λhq=>ok_regA (hg.go hq)⟩
  |true=>
   unfold xcode at hg
   dsimp only at hg
   revert hg
   cases hb:(P.follows .mixedOrders && Region.lexB .any a && a.toList.all xQuiet) with
   |false=>exact λhg=>hg
   |true=>
    intro hg
    rw [Bool.and_eq_true,Bool.and_eq_true] at hb
    exact ⟨λhq=>ok_drawA hb.1.1 hb.1.2 (hg.go hq)⟩
 |seq a b=>exact ⟨λhq=>kA (hg.go hq)⟩
 |cond o a b=>
  unfold xcode at hg
  dsimp only at hg
  split at hg
  ·rename_i e;exact ⟨λhq=>ok_true e (hg.go hq)⟩
  ·rename_i e;exact ⟨λhq=>ok_false e (hg.go hq)⟩
  ·exact hg
 |block id b=>exact ⟨λhq=>mJ (hg.go hq)⟩
 |exit id=>exact ⟨λhq=>ok_exit (hg.go hq)⟩
 |ret=>exact ⟨λhq=>gG (hg.go hq)⟩
 |_=>exact hg
theorem xfin_ok {e:Exit}{k:List XIt}{L:List Blk}{f:Nat->Value}(hg:zF M P n W Q (xfin e ⟨.fin e,k,L,f⟩).2):zF M P n W Q ⟨.fin e,k,L,f⟩:=by
 cases k with
 |nil=>exact hg
 |cons i k=>
  cases i with
  |code b=>cases e with
   |normal=>exact ⟨λhq=>vV (hg.go hq)⟩
   |exit id=>exact ⟨λhq=>wF (hg.go hq)⟩
   |ret=>exact ⟨λhq=>yH (hg.go hq)⟩
   |_=>exact hg
  |blk id=>cases e with
   |normal=>exact ⟨λhq=>fin_block (hg.go hq)⟩
   |exit id'=>
    cases hb:Nat.beq id' id with
    |true=>
     obtain rfl:=Nat.eq_of_beq_eq_true hb
     have hg':=hg.go
     simp only [xfin,hb,cond_true] at hg'
     exact ⟨λhq=>d4 (hg' hq)⟩
    |false=>
     have hne:id'≠id:=λe=>by rw [e,Nat.beq_refl] at hb;cases hb
     have hg':=hg.go
     simp only [xfin,hb,cond_false] at hg'
     exact ⟨λhq=>fin_block_other hne (hg' hq)⟩
   |ret=>exact ⟨λhq=>qW (hg.go hq)⟩
   |_=>exact hg
  |lp I m=>cases e with
   |exit id=>exact ⟨λhq=>d3 (hg.go hq)⟩
   |ret=>exact ⟨λhq=>dZ (hg.go hq)⟩
   |_=>exact hg
  |tl a r=>cases e with
   |normal=>exact ⟨λhq=>⟨(hg.go hq).go⟩⟩
   |_=>exact hg
  |rd b m=>cases m with
   |zero=>cases e with
    |exit id=>exact ⟨λhq=>wF (hg.go hq)⟩
    |ret=>exact ⟨λhq=>yH (hg.go hq)⟩
    |_=>exact hg
   |succ m=>cases e with
    |normal=>exact ⟨λhq=>⟨(hg.go hq).go⟩⟩
    |exit id=>exact ⟨λhq=>wF (hg.go hq)⟩
    |ret=>exact ⟨λhq=>yH (hg.go hq)⟩
    |_=>exact hg
theorem xhs_ok {a:Array Oper}{s:Array Bool}{u:Nat}{L0:List Blk}{k:List XIt}{L:List Blk}{f:Nat->Value}{h:List Nat}(hk:(xhs P n a s u L0 ⟨.hps a s u L0,k,L,f⟩ h).l=(xhs P n a s u L0 ⟨.hps a s u L0,k,L,f⟩ h).r)
  (hg:zF M P n W Q (xhs P n a s u L0 ⟨.hps a s u L0,k,L,f⟩ h).c):zF M P n W Q ⟨.hps a s u L0,k,L,f⟩:=by
 unfold xhs at hk hg
 split at hk
 ·rename_i hr
  rw [hr] at hg
  exact ⟨λhq hs=>h_done hr (hg.go hq)⟩
 ·rename_i hr
  split at hg
  ·rename_i e;exact absurd e hr
  split at hk
  ·rename_i u' i hf
   rw [hf] at hg
   dsimp only at hg
   have ht:=List.find?_some hf
   unfold xTak at ht
   cases ho:a[i]? with
   |none=>rw [ho] at hg;exact hg
   |some o=>
    rw [ho] at hk hg ht
    dsimp only at hk hg ht
    unfold xhp at hk hg
    have fin3:∀ {b1 b2 b3:Bool},(b1 && b2 && b3)=true->b1=true/\b2=true/\b3=true:=λ{b1 b2 b3} h=>by cases b1<;>cases b2<;>cases b3<;>simp_all
    cases hw:zU a n f o with
    |false=>
     rw [hw] at hk hg
     simp only [XK.h.injEq] at hk
     obtain ⟨e1,e2,e3⟩:=fin3 hk.1
     exact ⟨λhq hs=>hl_skip i o ho e1 e2 e3 (pq_KQ hq k) hs hw (hg.go hq hs)⟩
    |true=>
     rw [hw] at hk hg ht
     dsimp only at ht
     cases hop:o.op with
     |load ty p=>
      rw [hop] at hk hg
      simp only [XK.h.injEq,XK.ld.injEq] at hk
      obtain ⟨e1,e2,e3⟩:=fin3 hk.1
      exact ⟨λhq hs=>hl_load i o (xhd h) _ _ ho e1 e2 e3 (pq_KQ hq k) hs hw hop hk.2.2.2.1 hk.2.2.1 hk.2.2.2.2 (hg.go hq hs)⟩
     |_=>
      rw [hop] at hk hg
      dsimp only at hk hg
      have e0:=XK.h.inj hk
      obtain ⟨e1,e2,e3⟩:=fin3 e0.1
      exact ⟨λhq hs=>hl_take i o _ ho e1 e2 e3 (pq_KQ hq k) hs hw (λw _=>congrFun (XK.r.inj e0.2.2) w) (hg.go hq hs)⟩
  ·rename_i hno
   split at hg
   ·rename_i u' i hf;exact absurd hf (hno u' i rfl)
   ·exact hg
theorem xstep_ok {c:Xc}{h:List Nat}(hk:(fW P n c h).l=(fW P n c h).r)(hg:zF M P n W Q (fW P n c h).c):zF M P n W Q c:=by
 obtain ⟨top,k,L,f⟩:=c
 cases top with
 |ops a r=>cases r with
  |nil=>exact ⟨λhq=>nW (hg.go hq)⟩
  |cons o r=>exact xop_ok hk hg
 |qps a r=>cases r with
  |nil=>exact ⟨λhq=>q_nil (hg.go hq)⟩
  |cons o r=>exact xqp_ok hk hg
 |hps a s u L0=>
  change (xhs P n a s u L0 ⟨.hps a s u L0,k,L,f⟩ h).l=(xhs P n a s u L0 ⟨.hps a s u L0,k,L,f⟩ h).r at hk
  change zF M P n W Q (xhs P n a s u L0 ⟨.hps a s u L0,k,L,f⟩ h).c at hg
  exact xhs_ok hk hg
 |hst a s u L0 i=>exact hg
 |code x=>exact xcode_ok hg
 |fin e=>exact xfin_ok hg
theorem xrun_ok {t:Nat}:∀ (m:Fuel1) (h:List Nat) (c:Xc),xl P n t m h c=xr P n t (fuel12 m) h c->zF M P n W Q (x9 P n t m h c)->zF M P n W Q c
 | .z,_,_,_,hg=>hg
 | .s m,h,c,hk,hg=>by
  unfold xl fuel12 xr at hk
  unfold x9 at hg
  cases hp:xpre n t c with
  |true=>simp only [hp] at hg;exact hg
  |false=>
   simp only [hp] at hk hg
   cases hb:(fW P n c h).go && !xhit n t c with
   |true=>
    simp only [hb] at hk hg
    have h2:=List.cons.inj hk
    exact xstep_ok h2.1 (xrun_ok m _ _ h2.2 hg)
   |false=>
    simp only [hb] at hk hg
    exact xstep_ok (List.cons.inj hk).1 hg
end
end
section
abbrev nS:Nat:=40000
noncomputable def xgo (P:Program)(n t:Nat)(h:List Nat)(c:Xc):Xc:=x9 P n t fuelA h c
noncomputable def xgl (P:Program)(n t:Nat)(h:List Nat)(c:Xc):List XK:=xl P n t fuelA h c
noncomputable def xgr (P:Program)(n t:Nat)(h:List Nat)(c:Xc):List XK:=xr P n t fuelB h c
theorem zL {M:List Nat}{P:Program}{n t:Nat}{W:World}{Q:Exit->Act->World->Prop}(h:List Nat)(c:Xc)(hk:xgl P n t h c=xgr P n t h c)(hg:zF M P n W Q (xgo P n t h c)):zF M P n W Q c:=xrun_ok fuelA h c hk hg
def xA (c:Xc):Array Oper:=match c.top with
 | .ops a _=>a
 | .qps a _=>a
 | .hps a _ _ _=>a
 | .hst a _ _ _ _=>a
 |_=> #[]
def xL (c:Xc):List Oper:=match c.top with
 | .ops _ r=>r
 | .qps _ r=>r
 |_=>[]
def xO (c:Xc):Oper:=match c.top with
 | .hst a _ _ _ i=>a.getD i default
 |_=>(xL c).headD default
def xT (c:Xc):List Oper:=(xL c).tail
def xC (c:Xc):Code:=match c.top with
 | .code x=>x
 |_=> .skip
def tO (c:Xc):Code:=match xC c with
 | .loop b=>b
 |_=> .skip
def xTy (o:Oper):TypeId:=match o.op with
 | .alloc T=>T
 | .box T _=>T
 |_=>0
def xZ (P:Program)(o:Oper):Value:=((P.info? (xTy o)).bind (·.zero)).getD undef
def xX (n:Nat)(f:Nat->Value)(o:Oper):Value:=match o.op with
 | .box _ x=>ev n f x
 |_=>undef
def xBx (o:Oper):Operand:=match o.op with
 | .box _ x=>x
 |_=> .tmp 0
def Xc.st (c:Xc)(t:Nat)(v:Value):Xc:={c with f:=upd c.f (some t) v}
def Xc.put (c:Xc)(v:Value):Xc:=match c.top with
 | .ops a (o::r)=>⟨.ops a r,c.k,c.L,upd c.f o.dst v⟩
 | .qps a (o::r)=>⟨.qps a r,c.k,c.L,upd c.f o.dst v⟩
 | .hst a s u L0 i=>⟨.hps a (s.setIfInBounds i true) u L0,c.k,c.L,upd c.f (a.getD i default).dst v⟩
 |_=>c
def mB (P:Program)(n:Nat)(c:Xc):XR:=match c.top with
 | .ops a (o::_)=>bif zU a n c.f o then (λw=>(execOp (ev n c.f) o).run P w) else λw=> .ok .skip w
 | .qps a (o::_)=>bif zU a n c.f o then (λw=>(execOp (ev n c.f) o).run P w) else λw=> .ok .skip w
 | .hst a _ _ _ i=>bif zU a n c.f (a.getD i default) then (λw=>(execOp (ev n c.f) (a.getD i default)).run P w) else λw=> .ok .skip w
 |_=>λw=> .ok .skip w
def xNew (c:Xc)(x:Blk):Xc:=⟨.ops (xA c) (xT c),c.k,x::c.L,upd c.f (xO c).dst (.pointer (some ⟨x.b,0,none⟩))⟩
def xQ (c:Xc):Bool:=match c.top with
 | .qps _ _=>true
 | .hps _ _ _ _=>true
 | .hst _ _ _ _ _=>true
 |_=>false
def xAdd (c:Xc)(ob:List Blk):Xc:={c with L:=c.L++ob}
section
variable {M:List Nat}{P:Program}{n:Nat}{W:World}{Q:Exit->Act->World->Prop}{c:Xc}
theorem ent_ne {k:FuncId}{args:Array Value}(h:(λw:World=>(Result.ok Next.skip w))=λw=> .ok (.enter k args) w):False:=by
 have:=congrFun h default
 simp at this
theorem no_ent {P:Program}{n:Nat}{f:Nat->Value}{k:FuncId}{args:Array Value}(h:(λw:World=>(execOp (ev n f) (default:Oper)).run P w)=λw=> .ok (.enter k args) w):False:=by
 have:=congrFun h default
 unfold execOp at this
 simp [default,instInhabitedOper.default,instInhabitedOp.default] at this
theorem xput_call {k:FuncId}{args:Array Value}{v:Value}(hc:∀ w,Own M W w c.L->Calls P k args w (YR v w))(hg:zF M P n W Q (c.put v))
  (he:mB P n c=λw=> .ok (.enter k args) w):zF M P n W Q c:=by
 obtain ⟨top,kk,L,f⟩:=c
 unfold mB at he
 unfold Xc.put at hg
 dsimp only at he hg hc
 cases top with
 |ops a r=>cases r with
  |nil=>exact (ent_ne he).elim
  |cons o r=>
   dsimp only at he hg
   cases hw:zU a n f o with
   |false=>rw [hw] at he;exact (ent_ne he).elim
   |true=>rw [hw] at he;exact ⟨λhq=>s_call v hw (λw=>congrFun he w) hc (hg.go hq)⟩
 |qps a r=>cases r with
  |nil=>exact (ent_ne he).elim
  |cons o r=>
   dsimp only at he hg
   cases hw:zU a n f o with
   |false=>rw [hw] at he;exact (ent_ne he).elim
   |true=>rw [hw] at he;exact ⟨λhq=>q_call v hw (λw=>congrFun he w) hc (hg.go hq)⟩
 |hst a s u L0 i=>
  dsimp only at he hg
  cases hw:zU a n f (a.getD i default) with
  |false=>rw [hw] at he;exact (ent_ne he).elim
  |true=>
   rw [hw] at he
   cases ha:a[i]? with
   |none=>
    have hd:a.getD i default=default:=by rw [Array.getD_eq_getD_getElem?,ha];rfl
    rw [hd] at he
    exact (no_ent (P:=P) (n:=n) he).elim
   |some o=>
    have hd:a.getD i default=o:=by rw [Array.getD_eq_getD_getElem?,ha];rfl
    rw [hd] at he hg hw
    exact ⟨λhq hs=>hl_call o v ha hw hs (λw=>congrFun he w) hc (hg.go hq hs)⟩
 |_=>exact (ent_ne he).elim
theorem z8 {k:FuncId}{args:Array Value}{v:Value}(h:List Nat)(hc:∀ w,Own M W w (xgo P n nS h c).L->Calls P k args w (YR v w))(hg:zF M P n W Q ((xgo P n nS h c).put v))
  (hkt:(xgl P n nS h c,mB P n (xgo P n nS h c))=(xgr P n nS h c,(λw=> .ok (.enter k args) w)):=by kernel_rfl):zF M P n W Q c:=by
 obtain ⟨hk,he⟩:=Prod.mk.inj hkt
 exact zL h c hk (xput_call hc hg he)
theorem k8 {k:FuncId}{args:Array Value}{R:Value->List Blk->Prop}(h:List Nat)(hc:∀ w,Own M W w (xgo P n nS h c).L->Calls P k args w λe w'=>∃ v ob,e= .returned v/\R v ob/\Own [] w w' ob)
  (hg:∀ v ob,R v ob->zF M P n W Q (xAdd ((xgo P n nS h c).put v) ob)) (hkt:(xgl P n nS h c,((xgo P n nS h c).top,zU (xA (xgo P n nS h c)) n (xgo P n nS h c).f (xO (xgo P n nS h c))))=(xgr P n nS h c,(.ops (xA (xgo P n nS h c)) (xO (xgo P n nS h c)::xT (xgo P n nS h c)),true)):=by kernel_rfl)
  (he:mB P n (xgo P n nS h c)=(λw=> .ok (.enter k args) w):=by kernel_rfl):zF M P n W Q c:=by
 obtain ⟨hk,ht⟩:=Prod.mk.inj hkt
 refine zL h c hk ?_
 generalize xgo P n nS h c=d at hc hg ht he ⊢
 obtain ⟨top,kk,L,f⟩:=d
 generalize hA:xA ⟨top,kk,L,f⟩=a at ht
 generalize hO:xO ⟨top,kk,L,f⟩=o at ht
 generalize hT:xT ⟨top,kk,L,f⟩=r at ht
 simp only [Prod.mk.injEq] at ht
 obtain ⟨rfl,hw⟩:=ht
 have hg':∀ v ob,R v ob->zF M P n W Q ⟨.ops a r,kk,L++ob,upd f o.dst v⟩:=hg
 simp only [mB,hw,cond_true] at he
 refine ⟨λhq=>s_callx (λv L'=>∃ ob,L'=L++ob/\R v ob) hw (λw=>congrFun he w) (λw hO=>((hc w hO).mono λe w' ⟨v,ob,e1,e2,e3⟩=>⟨v,L++ob,e1,⟨ob,rfl,e2⟩,(Own.joinN hO e3).perm List.perm_append_comm⟩)) ?_⟩
 rintro v L' ⟨ob,rfl,hR⟩
 exact (hg' v ob hR).go hq
def xW0 (n:Nat)(c:Xc):Bool:=match c.top with
 | .ops a (o::_)=>zU a n c.f o
 | .hst a _ _ _ i=>zU a n c.f (a.getD i default) && decide (i<a.size)
 |_=>false
theorem x_callE {k:FuncId}{args:Array Value}{R:Value->Prop}(h:List Nat)(hc:∀ w,Own M W w (xgo P n nS h c).L->Calls P k args w λe w'=>∃ v,e= .returned v/\R v/\YB w w')(hg:∀ v,R v->zF M P n W Q ((xgo P n nS h c).put v))
  (hkt:(xgl P n nS h c,xW0 n (xgo P n nS h c),mB P n (xgo P n nS h c))=(xgr P n nS h c,true,λw=> .ok (.enter k args) w):=by kernel_rfl):zF M P n W Q c:=by
 simp only [Prod.mk.injEq] at hkt
 obtain ⟨hk,e1,e2⟩:=hkt
 refine zL h c hk ?_
 generalize xgo P n nS h c=d at*
 obtain ⟨top,kk,L,f⟩:=d
 unfold xW0 at e1
 unfold mB at e2
 cases top with
 |ops a r=>cases r with
  |nil=>cases e1
  |cons o r=>
   dsimp only at e1 e2
   rw [e1] at e2
   have hg':∀ v,R v->zF M P n W Q ⟨.ops a r,kk,L,upd f o.dst v⟩:=hg
   refine ⟨λhq=>s_callx (λv L'=>L'=L/\R v) e1 (λw=>congrFun e2 w) (λw hO=>(hc w hO).mono λe w' ⟨v,q1,q2,q3⟩=>⟨v,L,q1,⟨rfl,q2⟩,hO.on q3⟩) ?_⟩
   rintro v L' ⟨rfl,hR⟩
   exact (hg' v hR).go hq
 |hst a s u L0 i=>
  dsimp only at e1 e2
  rw [Bool.and_eq_true] at e1
  obtain ⟨hw,hi⟩:=e1
  have hi':i<a.size:=of_decide_eq_true hi
  rw [hw] at e2
  have hd:a[i]?=some (a.getD i default):=by rw [Array.getElem?_eq_getElem hi'];simp [Array.getD,hi']
  have hg':∀ v,R v->zF M P n W Q ⟨.hps a (s.setIfInBounds i true) u L0,kk,L,upd f (a.getD i default).dst v⟩:=hg
  refine ⟨λhq hs=>hl_callx (a.getD i default) (λv L'=>L'=L/\R v) hd hw (λw=>congrFun e2 w) (λw hO=>(hc w hO).mono λe w' ⟨v,q1,q2,q3⟩=>⟨v,L,q1,⟨rfl,q2⟩,hO.on q3⟩) (λv L' ⟨e,_⟩ w hO=>by subst e;exact hs w hO) ?_⟩
  rintro v L' ⟨rfl,hR⟩
  exact (hg' v hR).go hq hs
 |_=>cases e1
theorem x_set (t:Nat)(h:List Nat)(v:Value)(hv:(xgo P n t h c).f t=v)(hg:zF M P n W Q ((xgo P n t h c).st t v))(hk:xgl P n t h c=xgr P n t h c:=by kernel_rfl):zF M P n W Q c:=by
 refine zL h c hk ?_
 unfold Xc.st at hg
 rw [←nR hv] at hg
 exact hg
theorem zB (t:Nat)(h:List Nat)(p:Prop)[Decidable p](h1:p->zF M P n W Q ((xgo P n t h c).st t (.bool true)))(h2:¬ p->zF M P n W Q ((xgo P n t h c).st t (.bool false)))
  (hkt:(xgl P n t h c,(xgo P n t h c).f t)=(xgr P n t h c,.bool (decide p)):=by kernel_rfl):zF M P n W Q c:=by
 obtain ⟨hk,hv⟩:=Prod.mk.inj hkt
 by_cases hp:p
 ·exact x_set t h _ (hv.trans (by rw [decide_eq_true hp])) (h1 hp) hk
 ·exact x_set t h _ (hv.trans (by rw [decide_eq_false hp])) (h2 hp) hk
theorem vP (t:Nat)(h:List Nat)(p:Prop)[Decidable p](h1:p->zF M P n W Q ((xgo P n t h c).st t (.bool false)))(h2:¬ p->zF M P n W Q ((xgo P n t h c).st t (.bool true)))
  (hkt:(xgl P n t h c,(xgo P n t h c).f t)=(xgr P n t h c,.bool (!decide p)):=by kernel_rfl):zF M P n W Q c:=by
 obtain ⟨hk,hv⟩:=Prod.mk.inj hkt
 by_cases hp:p
 ·exact x_set t h _ (hv.trans (by rw [decide_eq_true hp];rfl)) (h1 hp) hk
 ·exact x_set t h _ (hv.trans (by rw [decide_eq_false hp];rfl)) (h2 hp) hk
theorem x_bb (t:Nat)(h:List Nat)(b:Bool)(h1:b=true->zF M P n W Q ((xgo P n t h c).st t (.bool true)))(h2:b=false->zF M P n W Q ((xgo P n t h c).st t (.bool false)))
  (hkt:(xgl P n t h c,(xgo P n t h c).f t)=(xgr P n t h c,.bool b):=by kernel_rfl):zF M P n W Q c:=by
 obtain ⟨hk,hv⟩:=Prod.mk.inj hkt
 cases b with
 |true=>exact x_set t h _ hv (h1 rfl) hk
 |false=>exact x_set t h _ hv (h2 rfl) hk
theorem x_sum {k:IntKind}(t:Nat)(h:List Nat)(z:Int)(hz:k.wrap z=z)(hg:zF M P n W Q ((xgo P n t h c).st t (.int k z)))
  (hkt:(xgl P n t h c,(xgo P n t h c).f t)=(xgr P n t h c,.int k (k.wrap z)):=by kernel_rfl):zF M P n W Q c:=by
 obtain ⟨hk,hv⟩:=Prod.mk.inj hkt
 exact x_set t h _ (hv.trans (by rw [hz])) hg hk
theorem y8 (h:List Nat)(L':List Blk)(hs:∀ w,Own M W w (xgo P n nS h c).L->Own M W w L')(hg:zF M P n W Q {xgo P n nS h c with L:=L'})(hk:xgl P n nS h c=xgr P n nS h c:=by kernel_rfl)(hqq:xQ (xgo P n nS h c)=false:=by kernel_rfl):zF M P n W Q c:=by
 refine zL h c hk ?_
 generalize xgo P n nS h c=d at hs hg hqq ⊢
 obtain ⟨top,kk,L,f⟩:=d
 cases top with
 |ops a r=>exact ⟨λhq=>mG hs (hg.go hq)⟩
 |code x=>exact ⟨λhq=>ok_take hs (hg.go hq)⟩
 |fin e=>exact ⟨λhq=>fin_take hs (hg.go hq)⟩
 |_=>cases hqq
theorem zJ (h:List Nat)(hg:∀ b,zF M P n W Q (xNew (xgo P n nS h c) ⟨b,(xZ P (xO (xgo P n nS h c))).cells,xTy (xO (xgo P n nS h c))⟩))(hkt:(xgl P n nS h c,((xgo P n nS h c).top,zU (xA (xgo P n nS h c)) n (xgo P n nS h c).f (xO (xgo P n nS h c)),(xO (xgo P n nS h c)).op,(P.info? (xTy (xO (xgo P n nS h c)))).map (·.zero)))=(xgr P n nS h c,(.ops (xA (xgo P n nS h c)) (xO (xgo P n nS h c)::xT (xgo P n nS h c)),true,.alloc (xTy (xO (xgo P n nS h c))),some (some (xZ P (xO (xgo P n nS h c)))))):=by kernel_rfl):zF M P n W Q c:=by
 obtain ⟨hk,ht⟩:=Prod.mk.inj hkt
 refine zL h c hk ?_
 generalize xgo P n nS h c=d at hg ht ⊢
 simp only [Prod.mk.injEq] at ht
 obtain ⟨e1,e2,e3,e4⟩:=ht
 have key:=λhq=>s_alloc_at (M:=M) (W:=W) (Q:=KQ M P n W Q d.k) (rest:=xT d) (L:=d.L) _ e2 e3 e4 λb=>(hg b).go hq
 have:d=⟨.ops (xA d) (xO d::xT d),d.k,d.L,d.f⟩:=by rw [←e1]
 rw [this]
 exact ⟨key⟩
theorem yK (h:List Nat)(hg:∀ b,zF M P n W Q (xNew (xgo P n nS h c) ⟨b,(xX n (xgo P n nS h c).f (xO (xgo P n nS h c))).cells,xTy (xO (xgo P n nS h c))⟩))
  (hkt:(xgl P n nS h c,(xgo P n nS h c).top,zU (xA (xgo P n nS h c)) n (xgo P n nS h c).f (xO (xgo P n nS h c)),(xO (xgo P n nS h c)).op)
   =(xgr P n nS h c,.ops (xA (xgo P n nS h c)) (xO (xgo P n nS h c)::xT (xgo P n nS h c)),true,.box (xTy (xO (xgo P n nS h c))) (xBx (xO (xgo P n nS h c)))):=by kernel_rfl):zF M P n W Q c:=by
 simp only [Prod.mk.injEq] at hkt
 obtain ⟨hk,e1,e2,e3⟩:=hkt
 refine zL h c hk ?_
 generalize xgo P n nS h c=d at*
 have hx:xX n d.f (xO d)=ev n d.f (xBx (xO d)):=by unfold xX;rw [e3]
 rw [hx] at hg
 have key:=λhq=>s_box (M:=M) (W:=W) (Q:=KQ M P n W Q d.k) (rest:=xT d) (L:=d.L) (ev n d.f (xBx (xO d))) e2 e3 rfl λb=>(hg b).go hq
 have:d=⟨.ops (xA d) (xO d::xT d),d.k,d.L,d.f⟩:=by rw [←e1]
 rw [this]
 exact ⟨key⟩
def xDr (c:Xc):Array Oper:=match xC c with
 | .region _ a true=>a
 |_=> #[]
def xId (c:Xc):Nat:=match xC c with
 | .region i _ _=>i
 |_=>0
theorem x_draw (m:Nat)(h:List Nat)(hg:zF M P n W Q ⟨.hps ((xDr (xgo P n nS h c)).toList.take m).toArray (Array.replicate m false) m (xgo P n nS h c).L,.tl (xDr (xgo P n nS h c)) ((xDr (xgo P n nS h c)).toList.drop m)::(xgo P n nS h c).k,(xgo P n nS h c).L,(xgo P n nS h c).f⟩)
  (hkt:(xgl P n nS h c,(xgo P n nS h c).top,P.follows .mixedOrders,preB .any (xDr (xgo P n nS h c)).toList m)=(xgr P n nS h c,.code (.region (xId (xgo P n nS h c)) (xDr (xgo P n nS h c)) true),true,true):=by kernel_rfl):zF M P n W Q c:=by
 simp only [Prod.mk.injEq] at hkt
 obtain ⟨hk,e1,e2,e3⟩:=hkt
 refine zL h c hk ?_
 generalize xgo P n nS h c=d at hg e1 e3 ⊢
 generalize xDr d=a at hg e1 e3
 obtain ⟨l,rfl⟩:∃ l:List Oper,a=l.toArray:=⟨a.toList,by simp⟩
 have:d=⟨.code (.region (xId d) l.toArray true),d.k,d.L,d.f⟩:=by rw [←e1]
 rw [this]
 have hg':zF M P n W Q ⟨.hps (l.take m).toArray (Array.replicate m false) m d.L,.tl l.toArray (l.drop m)::d.k,d.L,d.f⟩:=by simpa using hg
 exact ⟨λhq=>ok_drawh m d.L e2 (by simpa using e3) (hg'.go hq λ_ h=>h)⟩
theorem qJ (m:Nat)(h:List Nat)(L0:List Blk)(hs:∀ w,Own M W w (xgo P n nS h c).L->Own M W w L0)(hg:zF M P n W Q ⟨.hps ((xDr (xgo P n nS h c)).toList.take m).toArray (Array.replicate m false) m L0,.tl (xDr (xgo P n nS h c)) ((xDr (xgo P n nS h c)).toList.drop m)::(xgo P n nS h c).k,(xgo P n nS h c).L,(xgo P n nS h c).f⟩)
  (hkt:(xgl P n nS h c,(xgo P n nS h c).top,P.follows .mixedOrders,preB .any (xDr (xgo P n nS h c)).toList m)=(xgr P n nS h c,.code (.region (xId (xgo P n nS h c)) (xDr (xgo P n nS h c)) true),true,true):=by kernel_rfl):zF M P n W Q c:=by
 simp only [Prod.mk.injEq] at hkt
 obtain ⟨hk,e1,e2,e3⟩:=hkt
 refine zL h c hk ?_
 generalize xgo P n nS h c=d at hs hg e1 e3 ⊢
 generalize xDr d=a at hg e1 e3
 obtain ⟨l,rfl⟩:∃ l:List Oper,a=l.toArray:=⟨a.toList,by simp⟩
 have:d=⟨.code (.region (xId d) l.toArray true),d.k,d.L,d.f⟩:=by rw [←e1]
 rw [this]
 have hg':zF M P n W Q ⟨.hps (l.take m).toArray (Array.replicate m false) m L0,.tl l.toArray (l.drop m)::d.k,d.L,d.f⟩:=by simpa using hg
 exact ⟨λhq=>ok_drawh m L0 e2 (by simpa using e3) (hg'.go hq hs)⟩
def xS (c:Xc):Array Bool:=match c.top with
 | .hps _ s _ _=>s
 |_=> #[]
def xU (c:Xc):Nat:=match c.top with
 | .hps _ _ u _=>u.pred
 |_=>0
def xL0 (c:Xc):List Blk:=match c.top with
 | .hps _ _ _ l=>l
 |_=>[]
def xHs (c:Xc)(i:Nat):Xc:={c with top:= .hst (xA c) (xS c) (xU c) (xL0 c) i}
theorem gD (h:List Nat)(i:Nat)(hg:zF M P n W Q (xHs (xgo P n nS h c) i))
  (hkt:(xgl P n nS h c,(xgo P n nS h c).top,Region.ready .any (xA (xgo P n nS h c)) (xS (xgo P n nS h c)))=(xgr P n nS h c,.hps (xA (xgo P n nS h c)) (xS (xgo P n nS h c)) (xU (xgo P n nS h c)+1) (xL0 (xgo P n nS h c)),[i]):=by kernel_rfl):zF M P n W Q c:=by
 simp only [Prod.mk.injEq] at hkt
 obtain ⟨hk,e1,e2⟩:=hkt
 refine zL h c hk ?_
 generalize xgo P n nS h c=d at hg e1 e2 ⊢
 have:d=⟨.hps (xA d) (xS d) (xU d+1) (xL0 d),d.k,d.L,d.f⟩:=by rw [←e1]
 rw [this]
 exact ⟨λhq hs=>h_one i e2 (hg.go hq hs)⟩
def hS (c:Xc):Array Bool:=match c.top with
 | .hst _ s _ _ _=>s
 |_=> #[]
def hU (c:Xc):Nat:=match c.top with
 | .hst _ _ u _ _=>u
 |_=>0
def hL (c:Xc):List Blk:=match c.top with
 | .hst _ _ _ l _=>l
 |_=>[]
def hI (c:Xc):Nat:=match c.top with
 | .hst _ _ _ _ i=>i
 |_=>0
def hNew (c:Xc)(x:Blk)(v:Value):Xc:=⟨.hps (xA c) ((hS c).setIfInBounds (hI c) true) (hU c) (hL c),c.k,x::c.L,upd c.f (xO c).dst v⟩
theorem Own.left {L ob:List Blk}{w:World}(h:Own M W w (L++ob)):Own M W w L:=Own.sub ob (h.perm List.perm_append_comm)
theorem xh_alloc (hg:∀ b,zF M P n W Q (hNew c ⟨b,(xZ P (xO c)).cells,xTy (xO c)⟩ (.pointer (some ⟨b,0,none⟩))))
  (hkt:(c.top,(xA c)[hI c]?,zU (xA c) n c.f (xO c),(xO c).op,(P.info? (xTy (xO c))).map (·.zero))=(.hst (xA c) (hS c) (hU c) (hL c) (hI c),some (xO c),true,.alloc (xTy (xO c)),some (some (xZ P (xO c)))):=by kernel_rfl):zF M P n W Q c:=by
 simp only [Prod.mk.injEq] at hkt
 obtain ⟨e1,e2,e3,e4,e5⟩:=hkt
 have:c=⟨.hst (xA c) (hS c) (hU c) (hL c) (hI c),c.k,c.L,c.f⟩:=by rw [←e1]
 rw [this]
 refine ⟨λhq hs=>hl_step (xO c) e2 e3 (λ_ _ _=>True) λw hO=> ?_⟩
 cases hi:P.info? (xTy (xO c)) with
 |none=>rw [hi] at e5;cases e5
 |some i=>
  rw [hi] at e5
  have hz:i.zero=some (xZ P (xO c)):=Option.some.inj e5
  refine vA (Zp w.heap.size 0) (w':=w.alloc (.cells (xZ P (xO c)).cells (xTy (xO c)))) ?_ ⟨_,_,rfl,hO.alloc _ _,hs _ (Own.sub [_] (hO.alloc _ _)),(hg w.heap.size).go hq λw hO=>hs w (Own.sub [_] hO)⟩
  unfold execOp
  simp [e4,Instr.alloc,zeroValue,typeInfo,hi,hz,newVar,newRow,Sem.run_bind]
theorem fQ (len:Nat)(T:TypeId)(cs:Array Value)(hg:∀ b,zF M P n W Q (hNew c ⟨b,cs,T⟩ (.slice (some ⟨b,0,none⟩) len len)))
  (hkt:(c.top,(xA c)[hI c]?,zU (xA c) n c.f (xO c),λw=>(execOp (ev n c.f) (xO c)).run P w)=(.hst (xA c) (hS c) (hU c) (hL c) (hI c),some (xO c),true,λw=> .ok (.value (.slice (some ⟨w.heap.size,0,none⟩) len len)) (w.alloc (.cells cs T))):=by kernel_rfl):zF M P n W Q c:=by
 simp only [Prod.mk.injEq] at hkt
 obtain ⟨e1,e2,e3,e4⟩:=hkt
 have:c=⟨.hst (xA c) (hS c) (hU c) (hL c) (hI c),c.k,c.L,c.f⟩:=by rw [←e1]
 rw [this]
 exact ⟨λhq hs=>hl_step (xO c) e2 e3 (λ_ _ _=>True) λw hO=>vA _ (congrFun e4 w) ⟨_,_,rfl,hO.alloc _ _,hs _ (Own.sub [_] (hO.alloc _ _)),(hg w.heap.size).go hq λw hO=>hs w (Own.sub [_] hO)⟩⟩
theorem gM (h:List Nat)(len:Nat)(T:TypeId)(cs:Array Value)(hg:∀ b,zF M P n W Q ⟨.ops (xA (xgo P n nS h c)) (xT (xgo P n nS h c)),(xgo P n nS h c).k,⟨b,cs,T⟩::(xgo P n nS h c).L,upd (xgo P n nS h c).f (xO (xgo P n nS h c)).dst (.slice (some ⟨b,0,none⟩) len len)⟩)
  (hkt:(xgl P n nS h c,(xgo P n nS h c).top,zU (xA (xgo P n nS h c)) n (xgo P n nS h c).f (xO (xgo P n nS h c)),λw=>(execOp (ev n (xgo P n nS h c).f) (xO (xgo P n nS h c))).run P w)
   =(xgr P n nS h c,.ops (xA (xgo P n nS h c)) (xO (xgo P n nS h c)::xT (xgo P n nS h c)),true,λw=> .ok (.value (.slice (some ⟨w.heap.size,0,none⟩) len len)) (w.alloc (.cells cs T))):=by kernel_rfl):zF M P n W Q c:=by
 simp only [Prod.mk.injEq] at hkt
 obtain ⟨hk,e1,e3,e4⟩:=hkt
 refine zL h c hk ?_
 generalize xgo P n nS h c=d at*
 have:d=⟨.ops (xA d) (xO d::xT d),d.k,d.L,d.f⟩:=by rw [←e1]
 rw [this]
 exact ⟨λhq=>vC e3 λw hO=>vA _ (congrFun e4 w) (((hg w.heap.size).go hq).go _ (hO.alloc _ _))⟩
theorem nN {k:FuncId}{args:Array Value}{R:Value->List Blk->Prop}(hc:∀ w,Own M W w c.L->Calls P k args w λe w'=>∃ v ob,e= .returned v/\R v ob/\Own [] w w' ob)
  (hg:∀ v ob,R v ob->zF M P n W Q (xAdd (c.put v) ob))
  (hkt:(c.top,(xA c)[hI c]?,zU (xA c) n c.f (xO c),λw=>(execOp (ev n c.f) (xO c)).run P w)=(.hst (xA c) (hS c) (hU c) (hL c) (hI c),some (xO c),true,λw=> .ok (.enter k args) w):=by kernel_rfl):zF M P n W Q c:=by
 simp only [Prod.mk.injEq] at hkt
 obtain ⟨e1,e2,e3,e4⟩:=hkt
 have hc':c=⟨.hst (xA c) (hS c) (hU c) (hL c) (hI c),c.k,c.L,c.f⟩:=by rw [←e1]
 have hg':∀ v ob,R v ob->zF M P n W Q ⟨.hps (xA c) ((hS c).setIfInBounds (hI c) true) (hU c) (hL c),c.k,c.L++ob,upd c.f (xO c).dst v⟩:=λv ob h=>by
  have hp:xAdd (c.put v) ob=⟨.hps (xA c) ((hS c).setIfInBounds (hI c) true) (hU c) (hL c),c.k,c.L++ob,upd c.f (xO c).dst v⟩:=by
   have ho:xO c=(xA c).getD (hI c) default:=by unfold xO;rw [e1]
   unfold Xc.put
   rw [e1,ho]
   rfl
  rw [←hp];exact hg v ob h
 rw [hc']
 refine ⟨λhq hs=>hl_callx (xO c) (λv L'=>∃ ob,L'=c.L++ob/\R v ob) e2 e3 (λw=>congrFun e4 w) (λw hO=>((hc w hO).mono λe w' ⟨v,ob,q1,q2,q3⟩=>⟨v,c.L++ob,q1,⟨ob,rfl,q2⟩,(Own.joinN hO q3).perm List.perm_append_comm⟩)) (λv L' ⟨ob,e,_⟩ w hO=>by subst e;exact hs w hO.left) ?_⟩
 rintro v L' ⟨ob,rfl,hR⟩
 exact (hg' v ob hR).go hq λw hO=>hs w hO.left
def xV (f:Nat->Value)(l:List (Nat×Value)):List Value:=l.map λp=>f p.1
theorem gL {f:Nat->Value}:∀ {l:List (Nat×Value)},xV f l=l.map Prod.snd->Agrees f l
 | [],_=>trivial
 |p::r,h=>⟨(List.cons.inj h).1,gL (List.cons.inj h).2⟩
def xJ {α:Type}(lv:α->List (Nat×Value))(Lf:α->List Blk)(rel:α->Prop):List Blk->(Nat->Value)->Prop:=λL f=>∃ x,rel x/\L=Lf x/\Agrees f (lv x)
def Nj (M:List Nat)(P:Program)(n:Nat)(W:World){α:Type}(lv:α->List (Nat×Value))(Lf:α->List Blk)(rel:α->Prop):Prop:=
 ∀ (x':α) (h:List Nat) {c':Xc},rel x'->(xgl P n nS h c',(xgo P n nS h c').top,(xgo P n nS h c').k,(xgo P n nS h c').L,xV (xgo P n nS h c').f (lv x'))=(xgr P n nS h c',.fin .normal,[],Lf x',(lv x').map Prod.snd)->zF M P n W (JoinQ M n W (xJ lv Lf rel)) c'
theorem x_join {α:Type}(lv:α->List (Nat×Value))(Lf:α->List Blk)(rel:α->Prop)(h:List Nat)(h1:Nj M P n W lv Lf rel->zF M P n W (JoinQ M n W (xJ lv Lf rel)) ⟨.code (xC (xgo P n nS h c)),[],(xgo P n nS h c).L,(xgo P n nS h c).f⟩)
  (h2:∀ x g,rel x->zF M P n W Q ⟨.fin .normal,(xgo P n nS h c).k,Lf x,wV g (lv x)⟩) (hkt:(xgl P n nS h c,(xgo P n nS h c).top)=(xgr P n nS h c,.code (xC (xgo P n nS h c))):=by kernel_rfl):zF M P n W Q c:=by
 obtain ⟨hk,e1⟩:=Prod.mk.inj hkt
 refine zL h c hk ?_
 generalize xgo P n nS h c=d at*
 have:d=⟨.code (xC d),d.k,d.L,d.f⟩:=by rw [←e1]
 rw [this]
 refine ⟨λhq=>ok_join (xJ lv Lf rel) ((h1 λx' h c' hr hkt'=> ?_).go pq_join) λL f ⟨x,hr,hL,hA⟩=> ?_⟩
 ·simp only [Prod.mk.injEq] at hkt'
  obtain ⟨hk',f1,f2,f3,f4⟩:=hkt'
  refine zL h c' hk' ?_
  generalize xgo P n nS h c'=d' at*
  have:d'=⟨.fin .normal,[],d'.L,d'.f⟩:=by rw [←f1,←f2]
  rw [this]
  exact ⟨λ_=>fin_join ⟨x',hr,f3,gL f4⟩⟩
 ·subst hL
  rw [qE _ hA]
  exact (h2 x f hr).go hq
theorem bR {α:Type}(d0:Nat)(lv:α->List (Nat×Value))(Lf:α->List Blk)(rel:α->Prop)(h:List Nat)(h1:Nj M P n W lv Lf rel->zF M P n W (JoinQ M n W (xJ lv Lf rel)) ⟨.code (xC (xgo P n (xCt d0) h c)),[],(xgo P n (xCt d0) h c).L,(xgo P n (xCt d0) h c).f⟩)
  (h2:∀ x g,rel x->zF M P n W Q ⟨.fin .normal,(xgo P n (xCt d0) h c).k,Lf x,wV g (lv x)⟩) (hkt:(xgl P n (xCt d0) h c,(xgo P n (xCt d0) h c).top)=(xgr P n (xCt d0) h c,.code (xC (xgo P n (xCt d0) h c))):=by kernel_rfl):zF M P n W Q c:=by
 obtain ⟨hk,e1⟩:=Prod.mk.inj hkt
 refine zL h c hk ?_
 generalize xgo P n (xCt d0) h c=d at*
 have:d=⟨.code (xC d),d.k,d.L,d.f⟩:=by rw [←e1]
 rw [this]
 refine ⟨λhq=>ok_join (xJ lv Lf rel) ((h1 λx' h c' hr hkt'=> ?_).go pq_join) λL f ⟨x,hr,hL,hA⟩=> ?_⟩
 ·simp only [Prod.mk.injEq] at hkt'
  obtain ⟨hk',f1,f2,f3,f4⟩:=hkt'
  refine zL h c' hk' ?_
  generalize xgo P n nS h c'=d' at*
  have:d'=⟨.fin .normal,[],d'.L,d'.f⟩:=by rw [←f1,←f2]
  rw [this]
  exact ⟨λ_=>fin_join ⟨x',hr,f3,gL f4⟩⟩
 ·subst hL
  rw [qE _ hA]
  exact (h2 x f hr).go hq
theorem x_now (t:Nat)(p:Prop)[Decidable p](h1:p->zF M P n W Q (c.st t (.bool true)))(h2:¬ p->zF M P n W Q (c.st t (.bool false)))(hv:c.f t= .bool (decide p):=by kernel_rfl):zF M P n W Q c:=by
 by_cases hp:p
 ·have h:=h1 hp
  unfold Xc.st at h
  rw [←nR (hv.trans (by rw [decide_eq_true hp]))] at h
  exact h
 ·have h:=h2 hp
  unfold Xc.st at h
  rw [←nR (hv.trans (by rw [decide_eq_false hp]))] at h
  exact h
def xI {α:Type}(lv:α->List (Nat×Value))(Lf:α->List Blk)(rel:α->Nat->Prop):List Blk->(Nat->Value)->Nat->Prop:=λL f m=>∃ x,rel x m/\L=Lf x/\Agrees f (lv x)
def Nx (M:List Nat)(P:Program)(n:Nat)(W:World)(Q:Exit->Act->World->Prop){α:Type}(lv:α->List (Nat×Value))(Lf:α->List Blk)(rel:α->Nat->Prop)(kk:List XIt)(k:Nat):Prop:=
 ∀ (x':α) (k':Nat) (h:List Nat) {c':Xc},k'<k->rel x' k'->xgl P n nS h c'=xgr P n nS h c'->((xgo P n nS h c').top,(xgo P n nS h c').k,(xgo P n nS h c').L,xV (xgo P n nS h c').f (lv x'))=(.fin .normal,kk,Lf x',(lv x').map Prod.snd)->zF M P n W Q c'
theorem zM {α:Type}(lv:α->List (Nat×Value))(Lf:α->List Blk)(rel:α->Nat->Prop)(x0:α)(m0:Nat)(h:List Nat)(h0:rel x0 m0)
  (hg:∀ x k g kk,rel x k->Nx M P n W Q lv Lf rel (kk::(xgo P n nS h c).k) k->kk= .lp (xI lv Lf rel) k->zF M P n W Q ⟨.code (tO (xgo P n nS h c)),.lp (xI lv Lf rel) k::(xgo P n nS h c).k,Lf x,wV g (lv x)⟩)
  (hkt:(xgl P n nS h c,((xgo P n nS h c).top,(xgo P n nS h c).L,xV (xgo P n nS h c).f (lv x0)))=(xgr P n nS h c,(.code (.loop (tO (xgo P n nS h c))),Lf x0,(lv x0).map Prod.snd)):=by kernel_rfl):zF M P n W Q c:=by
 obtain ⟨hk,ht⟩:=Prod.mk.inj hkt
 refine zL h c hk ?_
 generalize xgo P n nS h c=d at hg ht ⊢
 simp only [Prod.mk.injEq] at ht
 obtain ⟨e1,e2,e3⟩:=ht
 have:d=⟨.code (.loop (tO d)),d.k,d.L,d.f⟩:=by rw [←e1]
 rw [this]
 refine ⟨λhq=>ok_loop (xI lv Lf rel) m0 ⟨x0,h0,e2,gL e3⟩ λL f k ⟨x,hr,hL,hA⟩=> ?_⟩
 subst hL
 rw [qE _ hA]
 refine (hg x k f _ hr (λx' k' h c' hlt hr' hk' ht'=>zL h c' hk' ?_) rfl).go hq
 generalize xgo P n nS h c'=d' at ht' ⊢
 simp only [Prod.mk.injEq] at ht'
 obtain ⟨f1,f2,f3,f4⟩:=ht'
 have:d'=⟨.fin .normal,.lp (xI lv Lf rel) k::d.k,d'.L,d'.f⟩:=by rw [←f1,←f2]
 rw [this]
 exact ⟨λ_=>fin_round hlt ⟨x',hr',f3,gL f4⟩⟩
theorem fin_at {kk:List XIt}{L':List Blk}{lv:List (Nat×Value)}{d:Xc}(hg:∀ g,zF M P n W Q ⟨.fin .normal,kk,L',wV g lv⟩)(e1:d.top= .fin .normal)(e2:d.k=kk)(e3:d.L=L')(e4:xV d.f lv=lv.map Prod.snd):zF M P n W Q d:=by
 have hgo:=hg d.f
 rw [←qE _ (gL e4)] at hgo
 have:d=⟨.fin .normal,kk,L',d.f⟩:=by rw [←e1,←e2,←e3]
 rw [this]
 exact hgo
def Nex (M:List Nat)(P:Program)(n:Nat)(W:World)(Q:Exit->Act->World->Prop){β:Type}(lv:β->List (Nat×Value))(Lf:β->List Blk)(rel:β->Prop)(kk:List XIt):Prop:=
 ∀ (y:β) (h:List Nat) {c':Xc},rel y->(xgl P n (xAt (xlen kk)) h c',(xgo P n (xAt (xlen kk)) h c').top,(xgo P n (xAt (xlen kk)) h c').k,(xgo P n (xAt (xlen kk)) h c').L,xV (xgo P n (xAt (xlen kk)) h c').f (lv y))=(xgr P n (xAt (xlen kk)) h c',.fin .normal,kk,Lf y,(lv y).map Prod.snd)->zF M P n W Q c'
theorem x_loopE {α β:Type}(lv:α->List (Nat×Value))(Lf:α->List Blk)(rel:α->Nat->Prop)(x0:α)(m0:Nat)(lvE:β->List (Nat×Value))(LfE:β->List Blk)(relE:β->Prop)(h:List Nat)(h0:rel x0 m0)
  (hg:∀ x k g,rel x k->Nx M P n W Q lv Lf rel (.lp (xI lv Lf rel) k::(xgo P n nS h c).k) k->Nex M P n W Q lvE LfE relE (xgo P n nS h c).k.tail->zF M P n W Q ⟨.code (tO (xgo P n nS h c)),.lp (xI lv Lf rel) k::(xgo P n nS h c).k,Lf x,wV g (lv x)⟩)
  (he:∀ y g,relE y->zF M P n W Q ⟨.fin .normal,(xgo P n nS h c).k.tail,LfE y,wV g (lvE y)⟩)
  (hkt:(xgl P n nS h c,(xgo P n nS h c).top,(xgo P n nS h c).L,xV (xgo P n nS h c).f (lv x0))=(xgr P n nS h c,.code (.loop (tO (xgo P n nS h c))),Lf x0,(lv x0).map Prod.snd):=by kernel_rfl):zF M P n W Q c:=by
 refine zM lv Lf rel x0 m0 h h0 (λx k g kk hr nx hkk=> ?_) hkt
 subst hkk
 refine hg x k g hr nx λy h' c' hy hkt'=> ?_
 simp only [Prod.mk.injEq] at hkt'
 obtain ⟨hk,e1,e2,e3,e4⟩:=hkt'
 exact zL h' c' hk (fin_at (λg=>he y g hy) e1 e2 e3 e4)
theorem mA (m:Nat)(h:List Nat)(hg:zF M P n W Q ⟨.code (tO (xgo P n nS h c)),.rd (tO (xgo P n nS h c)) m::(xgo P n nS h c).k,(xgo P n nS h c).L,(xgo P n nS h c).f⟩)
  (hkt:(xgl P n nS h c,(xgo P n nS h c).top)=(xgr P n nS h c,.code (.loop (tO (xgo P n nS h c)))):=by kernel_rfl):zF M P n W Q c:=by
 obtain ⟨hk,e1⟩:=Prod.mk.inj hkt
 refine zL h c hk ?_
 generalize xgo P n nS h c=d at*
 have:d=⟨.code (.loop (tO d)),d.k,d.L,d.f⟩:=by rw [←e1]
 rw [this]
 exact ⟨λhq=>⟨λw hO=>wp_loop_rounds (m+1) ((hg.go hq).go w hO)⟩⟩
theorem zD {k:FuncId}{fn:Func}{args:Array Value}{R:Ending->World->Prop}(hf:P.funcs[k]?=some fn)(hg:zF [] P fn.ntmps W (bodyPost P fn R) ⟨.code (fn.body.getD .skip),[],[],λt=>args.getD t undef⟩)
  (hb:fn.body.isSome=true:=by kernel_rfl) (hle:Nat.ble args.size fn.ntmps=true:=by kernel_rfl):Calls P k args W R:=by
 cases hb':fn.body with
 |none=>rw [hb'] at hb;cases hb
 |some b=>rw [hb'] at hg;exact calls_ok hf hb' rfl hle (hg.go pq_body)
def xRt (fn:Func)(i:Nat):Tmp:=match fn.results[i]? with
 |some (.tmp t)=>t
 |some (.cell t _)=>t
 |_=>0
def xRy (fn:Func)(i:Nat):TypeId:=match fn.results[i]? with
 |some (.cell _ y)=>y
 |_=>0
theorem z7 {fn:Func}{R:Ending->World->Prop}(h:List Nat)(v:Value)(hR:∀ w,Own M W w (xgo P n nS h c).L->R (.returned v) w)(hkt:(xgl P n nS h c,((xgo P n nS h c).top,(xgo P n nS h c).k,fn.results,ev n (xgo P n nS h c).f (.tmp (xRt fn 0))))=(xgr P n nS h c,(.fin .ret,[], #[.tmp (xRt fn 0)],v)):=by kernel_rfl):zF M P n W (bodyPost P fn R) c:=by
 obtain ⟨hk,ht⟩:=Prod.mk.inj hkt
 refine zL h c hk ?_
 generalize xgo P n nS h c=d at hR ht ⊢
 obtain ⟨top,kk,L,f⟩:=d
 simp only [Prod.mk.injEq] at ht
 obtain ⟨rfl,rfl,e3,e4⟩:=ht
 exact ⟨λ_=>fin_ret v e3 e4 hR⟩
theorem zS {fn:Func}{R:Ending->World->Prop}(h:List Nat)(v v':Value)(hR:∀ w,Own M W w (xgo P n nS h c).L->R (.returned (.tuple #[v,v'])) w)(hkt:(xgl P n nS h c,((xgo P n nS h c).top,(xgo P n nS h c).k,fn.results,ev n (xgo P n nS h c).f (.tmp (xRt fn 0)),ev n (xgo P n nS h c).f (.tmp (xRt fn 1))))=(xgr P n nS h c,(.fin .ret,[], #[.tmp (xRt fn 0),.tmp (xRt fn 1)],v,v')):=by kernel_rfl):zF M P n W (bodyPost P fn R) c:=by
 obtain ⟨hk,ht⟩:=Prod.mk.inj hkt
 refine zL h c hk ?_
 generalize xgo P n nS h c=d at hR ht ⊢
 obtain ⟨top,kk,L,f⟩:=d
 simp only [Prod.mk.injEq] at ht
 obtain ⟨rfl,rfl,e3,e4,e5⟩:=ht
 exact ⟨λ_=>fin_ret2 v v' e3 e4 e5 hR⟩
end
end
section
section
variable {M:List Nat}{P:Program}{n:Nat}{ops:Array Oper}{W:World}{L0:List Blk}{Q:Exit->Act->World->Prop}{fuel:Nat}{listed:Array Bool}{L:List Blk}{f:Nat->Value}
end
theorem n7 {M:List Nat}{W w:World}{L:List Blk}(h:Own M W w L):Own M W w []:=h.sublist (List.nil_sublist _)
end
section
theorem mk_take (s:YL)(j:Nat):(mkS s).extract 0 j=mkS (s.take j):=by rw [bB,mk_data];simp
theorem mk_drop (s:YL)(j:Nat):(mkS s).extract j (mkS s).size=mkS (s.drop j):=by
 rw [bB,mk_data,zQ]
 congr 1
 exact List.take_of_length_le (by rw [List.length_drop];omega)
theorem run_strhi {P:Program}{ρ:Operand->Value}{o:Oper}{t:TypeId}{x z:Operand}{s:YL}{k:IntKind}{j:Int}(ho:o.op= .slice t x none (some z) none)(hx:ρ x= .string (mkS s))(hz:ρ z= .int k j)
  (hu:P.underlying t=some .string) (h0:0<=j) (h1:j<=s.length) (w:World):(execOp ρ o).run P w= .ok (.value (.string (mkS (s.take j.toNat)))) w:=by
 unfold execOp
 have h2:j<=((mkS s).size:Int):=by rw [zQ];exact h1
 simp [ho,hx,hz,Instr.sliceAt,Instr.slice,Instr.sliceBounds,Instr.sliceBound,Sem.run_bind,asIntOf,run_underlying hu,h0,h2,mk_take]
theorem run_strlo {P:Program}{ρ:Operand->Value}{o:Oper}{t:TypeId}{x y:Operand}{s:YL}{k:IntKind}{j:Int}(ho:o.op= .slice t x (some y) none none)(hx:ρ x= .string (mkS s))(hy:ρ y= .int k j)
  (hu:P.underlying t=some .string) (h0:0<=j) (h1:j<=s.length) (w:World):(execOp ρ o).run P w= .ok (.value (.string (mkS (s.drop j.toNat)))) w:=by
 unfold execOp
 have h2:j<=((mkS s).size:Int):=by rw [zQ];exact h1
 simp [ho,hx,hy,Instr.sliceAt,Instr.slice,Instr.sliceBounds,Instr.sliceBound,Sem.run_bind,asIntOf,run_underlying hu,h0,h2,mk_drop]
theorem mk_get (s:YL)(k:Nat)(h:k<s.length):(mkS s)[k]?=some s[k]:=by
 have h2:k<(mkS s).size:=by rw [zQ];exact h
 rw [getElem?_pos (mkS s) k h2]
 congr 1
theorem run_stridx {P:Program}{ρ:Operand->Value}{o:Oper}{t:TypeId}{x y:Operand}{s:YL}{k:IntKind}{j:Int}(ho:o.op= .index t x y)(hx:ρ x= .string (mkS s))(hy:ρ y= .int k j)
  (hu:P.underlying t=some .string) (h0:0<=j) (h1:j.toNat<s.length) (w:World):(execOp ρ o).run P w= .ok (.value (.int .u8 (s[j.toNat].toNat:Int))) w:=by
 unfold execOp
 have e:=mk_get s j.toNat h1
 simp [ho,hx,hy,Instr.index,Sem.run_bind,asIntOf,run_underlying hu,h0,e]
theorem run_slhm {P:Program}{ρ:Operand->Value}{o:Oper}{t e:TypeId}{x z y:Operand}{b n c sz:Nat}{k q:IntKind}{j m:Int}(ho:o.op= .slice t x none (some z) (some y))(hx:ρ x= .slice (some ⟨b,0,none⟩) n c)(hz:ρ z= .int k j)(hy:ρ y= .int q m)
  (hu:P.underlying t=some (.slice e)) (hs:(P.info? e).map (·.size)=some sz) (h0:0<=j) (h1:j<=m) (h2:m<=c) (w:World):(execOp ρ o).run P w= .ok (.value (.slice (some ⟨b,0,none⟩) j.toNat m.toNat)) w:=by
 cases he:P.info? e with
 |none=>rw [he] at hs;cases hs
 |some i=>
  rw [he] at hs
  obtain rfl:=Option.some.inj hs
  have h3:0<=m:=Int.le_trans h0 h1
  unfold execOp
  simp [ho,hx,hz,hy,Instr.sliceAt,Instr.slice,Instr.sliceBounds,Instr.sliceBound,Sem.run_bind,asIntOf,run_underlying hu,h0,h1,h2,h3,sizeOf,typeInfo,he,xP]
  try (first|omega|(rw [if_pos Om];simp [xP]))
theorem run_stradd {P:Program}{ρ:Operand->Value}{o:Oper}{t t':TypeId}{x y:Operand}{a b:YL}(ho:o.op= .binOp .add t x y t')(hx:ρ x= .string (mkS a))(hy:ρ y= .string (mkS b))(hb:a.length+b.length<=4000000000)(w:World):(execOp ρ o).run P w= .ok (.value (.string (mkS (a++b)))) w:=by
 unfold execOp
 have h1:¬ (9223372036854775807:Int)<((mkS a).size:Int)+((mkS b).size:Int):=by rw [zQ,zQ];omega
 simp [ho,hx,hy,Sem.run_bind,eqGuard,binOp,Op.stringOp,x2,h1]
section
variable {M:List Nat}{P:Program}{n0:Nat}{ops:Array Oper}{W:World}{Q:Exit->Act->World->Prop}{rest:List Oper}{o:Oper}{L:List Blk}{f:Nat->Value}
theorem s_appendF {t T:TypeId}{s x:Operand}{i:TypeInfo}{z:Value}{sz:Nat}(hw:zU ops n0 f o=true)(ho:o.op= .call {callee:= .builtin .append,args:= #[s,x],argTypes:= #[t,t]})
  (ht:P.underlying t=some (.slice T)) (hi:P.info? T=some i) (hz:i.zero=some z) (hsz:i.size=sz) (hzs:z.cells.size=sz)
  {b:Addr} {n cap:Nat} {xs:List Value} (hs:ev n0 f s= .slice (some b) n cap) (hxl:xs.length=n*sz) (hxs:∀ w,Own M W w L→∀ j u,xs[j]?=some u->w.cell? (b.add j)=some u)
  {a:Addr} {m c:Nat} {news:List Value} (hx:ev n0 f x= .slice (some a) m c) (hl:news.length=m*sz) (hnews:∀ w,Own M W w L→∀ j u,news[j]?=some u->w.cell? (a.add j)=some u)
  (hroom:cap<n+m) (h63:n+m<=maxLen) (hbytes:(n+m)*i.bytes<=140737488355328)
  (h:∀ v' ob',Sl T sz v' (n+m) (xs++news) ob'->Seg M P n0 ops W Q rest (ob'++L) (upd f o.dst v')):Seg M P n0 ops W Q (o::rest) L f:=
 vC hw λw hO=>by
  subst hsz
  have hsmall:n+m<=9223372036854775807:=by simp only [maxLen] at h63;omega
  have hlen:(xs++news).length=(n+m)*i.size:=by rw [List.length_append,hxl,hl,Nat.add_mul]
  have hr:=run_append_grow (P:=P) w t o.type T i z ht hi hz b n cap xs hxl (hxs w hO) a m c news hl (hnews w hO) Om Om (growslice_fits Om hbytes)
  have hge:=grownCap_ge w (n+m) cap T
  have hcm:=grownCap_le_maxLen w (n+m) cap T h63
  refine vA _ (w':=_) ?_ ((h _ [⟨w.heap.size,xs.toArray++news.toArray++Builtin.zeroCells z.cells (grownCap w (n+m) cap T-(n+m)),T⟩] ⟨hlen,.inr ⟨w.heap.size,grownCap w (n+m) cap T,_,rfl,rfl,hge,hcm, ?_, ?_⟩⟩).go _ ((drew_own hO).alloc (xs.toArray++news.toArray++Builtin.zeroCells z.cells (grownCap w (n+m) cap T-(n+m))) T))
  ·unfold execOp
   simp only [ho,resolve,invoke,builtin,Sem.run_bind,Sem.run_pure,Result.andThen_ok,List.map_toArray,List.map_cons,List.map_nil,hs,hx,hr]
  ·simp only [Array.size_append,List.size_toArray,size_zeroCells,hzs,hxl,hl,←Nat.add_mul]
   congr 1
   omega
  ·simp only [Array.toList_append,List.append_assoc]
   rw [←List.append_assoc,←hlen]
   exact List.take_left
end
section
variable {M:List Nat}{P:Program}{n:Nat}{ops:Array Oper}{W:World}{L0:List Blk}{Q:Exit->Act->World->Prop}{fuel:Nat}{listed:Array Bool}{f:Nat->Value}
end
end
section
section
variable {M:List Nat}{P:Program}{n:Nat}{ops:Array Oper}{W:World}{L0:List Blk}{Q:Exit->Act->World->Prop}{fuel:Nat}{listed:Array Bool}{f:Nat->Value}
end
end
section
theorem mk_mid (s:YL)(i j:Nat):(mkS s).extract i j=mkS ((s.drop i).take (j-i)):=by rw [bB,mk_data]
theorem run_strmid {P:Program}{ρ:Operand->Value}{o:Oper}{t:TypeId}{x y z:Operand}{s:YL}{k q:IntKind}{i j:Int}(ho:o.op= .slice t x (some y) (some z) none)(hx:ρ x= .string (mkS s))(hy:ρ y= .int k i)(hz:ρ z= .int q j)
  (hu:P.underlying t=some .string) (h0:0<=i) (h1:i<=j) (h3:j<=s.length) (w:World):(execOp ρ o).run P w= .ok (.value (.string (mkS ((s.drop i.toNat).take (j.toNat-i.toNat))))) w:=by
 unfold execOp
 have h2:j<=((mkS s).size:Int):=by rw [zQ];exact h3
 have h4:0<=j:=Int.le_trans h0 h1
 simp [ho,hx,hy,hz,Instr.sliceAt,Instr.slice,Instr.sliceBounds,Instr.sliceBound,Sem.run_bind,asIntOf,run_underlying hu,h0,h1,h2,h4,mk_mid]
 try (intro h9;exfalso;omega)
end
section
section
variable {M:List Nat}{P:Program}{n:Nat}{ops:Array Oper}{W:World}{L0:List Blk}{Q:Exit->Act->World->Prop}{fuel:Nat}{listed:Array Bool}{f:Nat->Value}
theorem kE {L L':List Blk}{w:World}(D:List Blk)(h:Own M W w L)(e:∀ p:Blk->Bool,L.countP p=(D++L').countP p):Own M W w L':=by
 classical
 refine Own.sub D (h.perm ?_)
 rw [List.perm_iff_count]
 intro a
 exact e λx=>x==a
end
end
section
structure Fv where
 name:YL
 A:Option Addr
 of:List YL
 cap:Nat
def fvC (x:Fv):List Value:=[.string (mkS x.name),.slice x.A x.of.length x.cap]
theorem wE (x:Fv):(fvC x).length=2:=rfl
def fvV (x:Fv):Value:= .agg #[.string (mkS x.name),.slice x.A x.of.length x.cap]
def Fv.ft (x:Fv):Ft:=⟨x.name,x.of⟩
def yT (xs:List Fv):List Ft:=xs.map Fv.ft
theorem wO (xs:List Fv):(yT xs).length=xs.length:=List.length_map ..
theorem pH (xs:List Fv)(k:Nat):yT (xs.take k)=(yT xs).take k:=by unfold yT;rw [List.map_take]
theorem ftOf_get {xs:List Fv}{i:Nat}(hi:i<xs.length){x:Fv}(h:xs[i]=x):(yT xs)[i]'(by rw [wO];exact hi)=x.ft:=by
 unfold yT;rw [List.getElem_map,h]
structure FtIn (w:World)(B:Nat)(A:Option Addr)(xs:List Fv):Prop where
 top:Reads fvC w B A xs
 each:∀ x∈xs,Reads yY w B x.A x.of
 n:xs.length<=1048576
 m:∀ x∈xs,x.of.length<=1048576
 name:∀ x∈xs,x.name.length<=1048576
 text:∀ x∈xs,∀ s∈x.of,s.length<=1048576
theorem FtIn.on {w w':World}{B B':Nat}{A:Option Addr}{xs:List Fv}(h:FtIn w B A xs)(hb:Below B w w')(hB:B<=B'):FtIn w' B' A xs:=⟨h.top.on hb hB,λx hx=>(h.each x hx).on hb hB,h.n,h.m,h.name,h.text⟩
def dE (l:List Ft)(n:YL):Int:=match findT l n with
 |some i=>(i:Int)
 |none=> -1
theorem findI_at {l:List Ft}{n:YL}{i:Nat}(hi:i<l.length)(h:l[i].name=n)(h0:∀ f∈l.take i,¬ f.name=n):findT l n=some i:=by
 unfold findT
 rw [List.findIdx?_eq_some_iff_getElem]
 refine ⟨hi,decide_eq_true h,λj hj=> ?_⟩
 simpa using h0 l[j] (List.mem_take_iff_getElem.2 ⟨j,by omega,rfl⟩)
theorem findI_none {l:List Ft}{n:YL}(h0:∀ f∈l,¬ f.name=n):findT l n=none:=by
 unfold findT
 rw [List.findIdx?_eq_none_iff]
 exact λx hx=>decide_eq_false (h0 x hx)
theorem pJ {l:List Ft}{n:YL}:isT l n=(decide (n=dfl)||decide (0<=dE l n)):=by
 unfold isT dE
 cases findT l n<;>simp
theorem run_strgeq {P:Program}{ρ:Operand->Value}{o:Oper}{t t':TypeId}{x y:Operand}{a b:YL}{r:Bool}(ho:o.op= .binOp .geq t x y t')(hx:ρ x= .string (mkS a))(hy:ρ y= .string (mkS b))(h:Op.bytesLess a b=r)(w:World):(execOp ρ o).run P w= .ok (.value (.bool (!r))) w:=by
 have e:binOp .geq t (.string (mkS a)) (.string (mkS b))=pure (.bool (!Op.bytesLess a b)):=by
  have:binOp .geq t (.string (mkS a)) (.string (mkS b))=pure (.bool (!Op.bytesLess (mkS a).toList (mkS b).toList)):=by simp [binOp,Op.stringOp]
  rw [this,Lib.toList_data,Lib.toList_data,mk_data,mk_data]
 unfold execOp
 simp only [ho,hx,hy,Sem.run_bind,guard_str,Result.andThen_ok,e,Sem.run_pure,h]
end
section
def plc (v n:Int):Int:=if v.tmod n<0 then v.tmod n+n else v.tmod n
end
section
def ReadsI (w:World)(B:Nat)(v:Value)(l:List Int):Prop:=
 ∃ A cap,v= .slice A l.length cap/\(0<l.length→∃ ad:Addr,A=some ad/\ad.block<B∧∀ j (h:j<l.length),w.cell? (ad.add j)=some (YI l[j]))
def atL (l:List Int)(i:Nat):Int:=(l[i]?).getD 0
def i64in (n:Int):Prop:= -9223372036854775808<=n/\n<=9223372036854775807
end
section
set_option linter.unnecessarySimpa false
def wordT (k:Nat):YL:=if k=0 then [120] else if k=1 then [121] else if k=2 then [122] else [119,95,49]
def nameT (k:Nat):YL:=if k=0 then [97,112,112] else if k=1 then [98] else if k=2 then [99] else if k=3 then [100] else [101,45,50]
end
section
def oT (o:Oper):TypeId:=match o.op with
 | .index t _ _=>t
 | .indexAddr t _ _=>t
 | .binOp _ t _ _ _=>t
 | .load t _=>t
 |_=>0
def oU (o:Oper):TypeId:=match o.op with
 | .binOp _ _ _ _ t=>t
 |_=>0
def oX (o:Oper):Operand:=match o.op with
 | .index _ x _=>x
 | .indexAddr _ x _=>x
 | .binOp _ _ x _ _=>x
 | .load _ x=>x
 |_=> .tmp 0
def oY (o:Oper):Operand:=match o.op with
 | .index _ _ y=>y
 | .indexAddr _ _ y=>y
 | .binOp _ _ _ y _=>y
 |_=> .tmp 0
def xAg:Value->Array Value
 | .agg vs=>vs
 |_=> #[]
def xEl (P:Program)(t:TypeId):TypeId:=match P.underlying t with
 |some (.array _ e)=>e
 |some (.slice e)=>e
 |_=>0
def xW (n:Nat)(c:Xc):Bool:=match c.top with
 | .ops a (o::_)=>zU a n c.f o
 | .qps a (o::_)=>zU a n c.f o
 |_=>false
section
variable {M:List Nat}{P:Program}{n:Nat}{W:World}{Q:Exit->Act->World->Prop}{c:Xc}
theorem v8 (t:Nat)(h:List Nat)(v0 v:Value)(e:v0=v)(hg:zF M P n W Q ((xgo P n t h c).st t v))(hkt:(xgl P n t h c,(xgo P n t h c).f t)=(xgr P n t h c,v0):=by kernel_rfl):zF M P n W Q c:=by
 obtain ⟨hk,hv⟩:=Prod.mk.inj hkt
 exact x_set t h v (hv.trans e) hg hk
theorem x_i (t:Nat)(h:List Nat)(z:Int)(hg:zF M P n W Q ((xgo P n t h c).st t (YI z)))(hz: -9223372036854775808<=z/\z<=9223372036854775807:=by omega)
  (hkt:(xgl P n t h c,(xgo P n t h c).f t)=(xgr P n t h c,YI (IntKind.i64.wrap z)):=by kernel_rfl):zF M P n W Q c:=by
 obtain ⟨hk,hv⟩:=Prod.mk.inj hkt
 exact x_sum t h z (IntWalk.i64_in _ hz) hg hkt
theorem Own.nth {L:List Blk}{w:World}(i:Nat)(x:Blk)(hO:Own M W w L)(h:L[i]?=some x:=by kernel_rfl):Own M W w [x]:=hO.take (λy hy=>by rw [List.mem_singleton.1 hy];exact List.mem_of_getElem? h) (by simp)
theorem Own.past {L:List Blk}{w:World}(i:Nat)(L':List Blk)(hO:Own M W w L)(h:L.drop i=L':=by kernel_rfl):Own M W w L':=by
 rw [←h]
 exact Own.sub (L.take i) (by rw [List.take_append_drop];exact hO)
theorem Own.cast {L L':List Blk}{w:World}(hO:Own M W w L)(e:L=L'):Own M W w L':=e▸hO
theorem Own.no {L:List Blk}{w:World}(hO:Own M W w L):Own M W w []:=hO.take (λy hy=>by simp at hy) (by simp)
theorem kH {v:Value}(hw:xW n c=true)(hr:∀ w,(execOp (ev n c.f) (xO c)).run P w= .ok (.value v) w)(hg:zF M P n W Q (c.put v)):zF M P n W Q c:=by
 obtain ⟨top,kk,L,f⟩:=c
 unfold xW at hw
 unfold Xc.put at hg
 cases top with
 |ops a r=>cases r with
  |nil=>cases hw
  |cons o r=>exact ⟨λhq=>bU v hw hr (hg.go hq)⟩
 |qps a r=>cases r with
  |nil=>cases hw
  |cons o r=>exact ⟨λhq=>q_val v hw hr (hg.go hq)⟩
 |_=>cases hw
theorem m9 (d:Nat)(h:List Nat)(v:Value)(hr:∀ w,(execOp (ev n (xgo P n (d+50000) h c).f) (xO (xgo P n (d+50000) h c))).run P w= .ok (.value v) w)(hg:zF M P n W Q ((xgo P n (d+50000) h c).put v))
  (hkt:(xgl P n (d+50000) h c,xW n (xgo P n (d+50000) h c))=(xgr P n (d+50000) h c,true):=by kernel_rfl):zF M P n W Q c:=by
 obtain ⟨hk,hw⟩:=Prod.mk.inj hkt
 exact zL h c hk (kH hw hr hg)
theorem zR (d:Nat)(h:List Nat)(a b:YL)(hg:zF M P n W Q ((xgo P n (d+50000) h c).put (.string (mkS (a++b)))))(hb:a.length+b.length<=4000000000:=by (try simp only [List.length_append,List.length_cons,List.length_nil]);omega)
  (hkt:(xgl P n (d+50000) h c,(xW n (xgo P n (d+50000) h c),(xO (xgo P n (d+50000) h c)).op,ev n (xgo P n (d+50000) h c).f (oX (xO (xgo P n (d+50000) h c))),ev n (xgo P n (d+50000) h c).f (oY (xO (xgo P n (d+50000) h c)))))=(xgr P n (d+50000) h c,(true,.binOp .add (oT (xO (xgo P n (d+50000) h c))) (oX (xO (xgo P n (d+50000) h c))) (oY (xO (xgo P n (d+50000) h c))) (oU (xO (xgo P n (d+50000) h c))),.string (mkS a),.string (mkS b))):=by kernel_rfl):zF M P n W Q c:=by
 obtain ⟨hk,ht⟩:=Prod.mk.inj hkt
 simp only [Prod.mk.injEq] at ht
 exact zL h c hk (kH ht.1 (run_stradd ht.2.1 ht.2.2.1 ht.2.2.2 hb) hg)
def xPb:Value->Nat
 | .pointer (some a)=>a.block
 |_=>0
def xOi (i:Nat)(c:Xc):Oper:=(xA c).getD i default
def xHn (c:Xc)(i:Nat)(v:Value):Xc:=⟨.hps (xA c) ((xS c).setIfInBounds i true) (xU c) (xL0 c),c.k,c.L,upd c.f (xOi i c).dst v⟩
def tN (n:Nat)(i:Nat)(c:Xc):XTop×Option Oper×Bool×Bool×Bool×Bool:=
 (c.top,(xA c)[i]?,zU (xA c) n c.f (xOi i c),Region.noSelect (xA c),Region.free .any (xA c) (xS c) i,(Region.ready .any (xA c) (xS c)).contains i)
def fR (i:Nat)(c:Xc):XTop×Option Oper×Bool×Bool×Bool×Bool:=(.hps (xA c) (xS c) (xU c+1) (xL0 c),some (xOi i c),true,true,true,true)
theorem xtake {i:Nat}{v:Value}(hv:∀ w,Own M W w (xL0 c)->(execOp (ev n c.f) (xOi i c)).run P w= .ok (.value v) w)(hg:zF M P n W Q (xHn c i v))(hf:tN n i c=fR i c):zF M P n W Q c:=by
 simp only [tN,fR,Prod.mk.injEq] at hf
 obtain ⟨e1,e2,e3,e4,e5,e6⟩:=hf
 have:c=⟨.hps (xA c) (xS c) (xU c+1) (xL0 c),c.k,c.L,c.f⟩:=by rw [←e1]
 rw [this]
 exact ⟨λhq hs=>hl_take i _ v e2 e4 e5 e6 (pq_KQ hq c.k) hs e3 hv (hg.go hq hs)⟩
theorem xh_ixa (t:Nat)(h:List Nat)(i N k sz:Nat)(hN:k<N)(hg:zF M P n W Q (xHn (xgo P n t h c) i (.pointer (some ⟨xPb (ev n (xgo P n t h c).f (oX (xOi i (xgo P n t h c)))),xOff (ev n (xgo P n t h c).f (oX (xOi i (xgo P n t h c))))+(k:Int).toNat*sz,none⟩))))
  (hkt:(xgl P n t h c,tN n i (xgo P n t h c),(xOi i (xgo P n t h c)).op,ev n (xgo P n t h c).f (oX (xOi i (xgo P n t h c))),ev n (xgo P n t h c).f (oY (xOi i (xgo P n t h c))),P.underlying (oT (xOi i (xgo P n t h c))),(P.info? (xEl P (oT (xOi i (xgo P n t h c))))).map (·.size))
   =(xgr P n t h c,fR i (xgo P n t h c),.indexAddr (oT (xOi i (xgo P n t h c))) (oX (xOi i (xgo P n t h c))) (oY (xOi i (xgo P n t h c))),.pointer (some ⟨xPb (ev n (xgo P n t h c).f (oX (xOi i (xgo P n t h c)))),xOff (ev n (xgo P n t h c).f (oX (xOi i (xgo P n t h c)))),none⟩),YI (k:Int),some (.array N (xEl P (oT (xOi i (xgo P n t h c))))),some sz):=by kernel_rfl):zF M P n W Q c:=by
 simp only [Prod.mk.injEq] at hkt
 obtain ⟨hk,e1,e2,e3,e4,e5,e6⟩:=hkt
 exact zL h c hk (xtake (λw _=>run_ixarr e2 e3 e4 e5 e6 Om Om rfl w) hg e1)
theorem xh_ldk (t:Nat)(h:List Nat)(i q:Nat)(cs:Array Value)(off:Nat)(ty:TypeId)(v:Value)(hv:yZ P ty cs off=some v)(hg:zF M P n W Q (xHn (xgo P n t h c) i v))
  (hkt:(xgl P n t h c,tN n i (xgo P n t h c),(xOi i (xgo P n t h c)).op,(xL0 (xgo P n t h c))[q]?,(vQ (xL0 (xgo P n t h c)) q).cs,ev n (xgo P n t h c).f (oX (xOi i (xgo P n t h c))))
   =(xgr P n t h c,fR i (xgo P n t h c),.load ty (oX (xOi i (xgo P n t h c))),some (vQ (xL0 (xgo P n t h c)) q),cs,.pointer (some ⟨(vQ (xL0 (xgo P n t h c)) q).b,off,none⟩)):=by kernel_rfl):zF M P n W Q c:=by
 simp only [Prod.mk.injEq] at hkt
 obtain ⟨hk,e1,e2,e3,e4,e5⟩:=hkt
 exact zL h c hk (xtake (λw hO=>qL e2 e5 (yU (by rw [e4];exact hv) (hO.get e3))) hg e1)
def aT (o:Oper):TypeId:=match o.op with
 | .call c=>c.argTypes.getD 0 0
 |_=>0
def aX (o:Oper)(i:Nat):Operand:=match o.op with
 | .call c=>c.args.getD i (.tmp 0)
 |_=> .tmp 0
def aOp (o:Oper):Op:= .call {callee:= .builtin .append,args:= #[aX o 0,aX o 1],argTypes:= #[aT o,aT o]}
def aInfo (P:Program)(T:TypeId):Option (Bool×Nat×Option Nat):=(P.info? T).map λi=>(Nat.ble i.bytes 1048576,i.size,i.zero.map λz=>z.cells.size)
def aNext (c:Xc)(L:List Blk)(v:Value):Xc:=⟨.hps (xA c) ((hS c).setIfInBounds (hI c) true) (hU c) (hL c),c.k,L,upd c.f (xO c).dst v⟩
theorem hs_take' {ops:Array Oper}{L L' L0:List Blk}{u i:Nat}{s:Array Bool}{f:Nat->Value}(hs:∀ w,Own M W w L->Own M W w L')(h:tU M P n ops W L0 Q u s i L' f):tU M P n ops W L0 Q u s i L f:=⟨λw hO=>h.go w (hs w hO)⟩
theorem aInfo_is {T:TypeId}{sz:Nat}(h:aInfo P T=some (true,sz,some sz)):∃ i z,P.info? T=some i/\i.zero=some z/\i.size=sz/\z.cells.size=sz/\i.bytes<=1048576:=by
 unfold aInfo at h
 cases hi:P.info? T with
 |none=>rw [hi] at h;cases h
 |some i=>
  rw [hi] at h
  simp only [Option.map_some,Option.some.injEq,Prod.mk.injEq] at h
  obtain ⟨h1,h2,h3⟩:=h
  cases hz:i.zero with
  |none=>rw [hz] at h3;cases h3
  |some z=>rw [hz] at h3;exact ⟨i,z,rfl,hz,h2,Option.some.inj h3,Nat.le_of_ble_eq_true h1⟩
theorem pR {T:TypeId}{sz k m cp:Nat}{v:Value}{xs:List Value}(E ob R:List Blk)(q:Nat)(L1 L0:List Blk)(hs:∀ w,Own M W w L1->Own M W w (E++ob++R))(hsub:∀ ob' w,Own M W w (E++ob'++R)->Own M W w L0)(hv:Sl T sz v k xs ob)(hN:k+m<=1048576)
  (hg:∀ v' ob',Sl T sz v' (k+m) (xs++(vQ E q).cs.toList) ob'->zF M P n W Q (aNext c (E++ob'++R) v'))
  (hkt:(c.L,hL c,c.top,(xA c)[hI c]?,zU (xA c) n c.f (xO c),(xO c).op,ev n c.f (aX (xO c) 0),ev n c.f (aX (xO c) 1),E[q]?,P.underlying (aT (xO c)),aInfo P T,(vQ E q).cs.toList.length,(vQ E q).cs.toList.all λu=>u.oneCell')
   =(L1,L0,.hst (xA c) (hS c) (hU c) (hL c) (hI c),some (xO c),true,aOp (xO c),v,.slice (some ⟨(vQ E q).b,0,none⟩) m cp,some (vQ E q),some (.slice T),some (true,sz,some sz),m*sz,true):=by kernel_rfl):zF M P n W Q c:=by
 simp only [Prod.mk.injEq] at hkt
 obtain ⟨f1,f2,e1,e2,e3,e4,e5,e6,e7,e8,e9,e10,e11⟩:=hkt
 rw [←f1] at hs
 rw [←f2] at hsub
 have:c=⟨.hst (xA c) (hS c) (hU c) (hL c) (hI c),c.k,c.L,c.f⟩:=by rw [←e1]
 rw [this]
 obtain ⟨i,z,hi,hz,hsz,hzs,hby⟩:=aInfo_is e9
 refine ⟨λhq hs0=>hs_take' hs (hl_append (E:=E) (ob:=ob) (R:=R) (xO c) e2 e3 e4 e8 hi hz hsz hzs e5 hv e6 e10 (λw hO j u hj=> ?_) (List.all_eq_true.1 e11) ?_ ?_ hsub λv' ob' h=>(hg v' ob' h).go hq (hsub ob'))⟩
 ·have hmem:vQ E q∈E++ob++R:=List.mem_append_left _ (List.mem_append_left _ (List.mem_of_getElem? e7))
  rw [xP,cell_of_row w _ _ _ _ _ (hO.held _ hmem),Nat.zero_add]
  simpa using hj
 ·unfold maxLen;omega
 ·have:=Nat.mul_le_mul hN hby;omega
theorem put_read {v:Value}(hw:xW n c=true)(hr:∀ w,Own M W w c.L->(execOp (ev n c.f) (xO c)).run P w= .ok (.value v) w)(hg:zF M P n W Q (c.put v)):zF M P n W Q c:=by
 obtain ⟨top,kk,L,f⟩:=c
 unfold xW at hw
 unfold Xc.put at hg
 cases top with
 |ops a r=>cases r with
  |nil=>cases hw
  |cons o r=>exact ⟨λhq=>s_read v hw hr (hg.go hq)⟩
 |qps a r=>cases r with
  |nil=>cases hw
  |cons o r=>exact ⟨λhq=>q_read v hw hr (hg.go hq)⟩
 |_=>cases hw
theorem zI (d:Nat)(h:List Nat){A:Option Addr}{b off:Nat}(hA:A=some ⟨b,off,none⟩)(N cp j sz:Nat)(hj:j<N)(hg:zF M P n W Q ((xgo P n (d+50000) h c).put (.pointer (some ⟨b,off+(j:Int).toNat*sz,none⟩))))
  (hkt:(xgl P n (d+50000) h c,xW n (xgo P n (d+50000) h c),(xO (xgo P n (d+50000) h c)).op,ev n (xgo P n (d+50000) h c).f (oX (xO (xgo P n (d+50000) h c))),ev n (xgo P n (d+50000) h c).f (oY (xO (xgo P n (d+50000) h c))),P.underlying (oT (xO (xgo P n (d+50000) h c))),(P.info? (xEl P (oT (xO (xgo P n (d+50000) h c))))).map (·.size))
   =(xgr P n (d+50000) h c,true,.indexAddr (oT (xO (xgo P n (d+50000) h c))) (oX (xO (xgo P n (d+50000) h c))) (oY (xO (xgo P n (d+50000) h c))),.slice A N cp,YI (j:Int),some (.slice (xEl P (oT (xO (xgo P n (d+50000) h c))))),some sz):=by kernel_rfl):zF M P n W Q c:=by
 simp only [Prod.mk.injEq] at hkt
 obtain ⟨hk,e1,e2,e3,e4,e5,e6⟩:=hkt
 exact zL h c hk (kH e1 (λw=>run_ixA e2 e3 hA e4 e5 e6 Om Om rfl w) hg)
theorem zH (d:Nat)(h:List Nat)(ty:TypeId)(b o:Nat)(v:Value)(hv:∀ w,Own M W w (xgo P n (d+50000) h c).L->(loadVar ty ⟨b,o,none⟩).run P w= .ok v w)(hg:zF M P n W Q ((xgo P n (d+50000) h c).put v))
  (hkt:(xgl P n (d+50000) h c,xW n (xgo P n (d+50000) h c),(xO (xgo P n (d+50000) h c)).op,ev n (xgo P n (d+50000) h c).f (oX (xO (xgo P n (d+50000) h c))))=(xgr P n (d+50000) h c,true,.load ty (oX (xO (xgo P n (d+50000) h c))),.pointer (some ⟨b,o,none⟩)):=by kernel_rfl):zF M P n W Q c:=by
 simp only [Prod.mk.injEq] at hkt
 obtain ⟨hk,e1,e2,e3⟩:=hkt
 exact zL h c hk (put_read e1 (λw hO=>qL e2 e3 (hv w hO)) hg)
theorem x4 (d:Nat)(h:List Nat)(s u:YL)(h1:s=u->zF M P n W Q ((xgo P n (d+50000) h c).put (.bool true)))(h2:¬ s=u->zF M P n W Q ((xgo P n (d+50000) h c).put (.bool false)))
  (hkt:(xgl P n (d+50000) h c,xW n (xgo P n (d+50000) h c),(xO (xgo P n (d+50000) h c)).op,ev n (xgo P n (d+50000) h c).f (oX (xO (xgo P n (d+50000) h c))),ev n (xgo P n (d+50000) h c).f (oY (xO (xgo P n (d+50000) h c))))=(xgr P n (d+50000) h c,true,.binOp .eql (oT (xO (xgo P n (d+50000) h c))) (oX (xO (xgo P n (d+50000) h c))) (oY (xO (xgo P n (d+50000) h c))) (oU (xO (xgo P n (d+50000) h c))),.string (mkS s),.string (mkS u)):=by kernel_rfl):zF M P n W Q c:=by
 simp only [Prod.mk.injEq] at hkt
 obtain ⟨hk,e1,e2,e3,e4⟩:=hkt
 by_cases hp:s=u
 ·exact zL h c hk (kH e1 (λw=>gN e2 e3 e4 (decide_eq_true hp) w) (h1 hp))
 ·exact zL h c hk (kH e1 (λw=>gN e2 e3 e4 (decide_eq_false hp) w) (h2 hp))
theorem gA (d:Nat)(h:List Nat)(s u:YL)(h1:s=u->zF M P n W Q ((xgo P n (d+50000) h c).put (.bool false)))(h2:¬ s=u->zF M P n W Q ((xgo P n (d+50000) h c).put (.bool true)))
  (hkt:(xgl P n (d+50000) h c,xW n (xgo P n (d+50000) h c),(xO (xgo P n (d+50000) h c)).op,ev n (xgo P n (d+50000) h c).f (oX (xO (xgo P n (d+50000) h c))),ev n (xgo P n (d+50000) h c).f (oY (xO (xgo P n (d+50000) h c))))=(xgr P n (d+50000) h c,true,.binOp .neq (oT (xO (xgo P n (d+50000) h c))) (oX (xO (xgo P n (d+50000) h c))) (oY (xO (xgo P n (d+50000) h c))) (oU (xO (xgo P n (d+50000) h c))),.string (mkS s),.string (mkS u)):=by kernel_rfl):zF M P n W Q c:=by
 simp only [Prod.mk.injEq] at hkt
 obtain ⟨hk,e1,e2,e3,e4⟩:=hkt
 by_cases hp:s=u
 ·exact zL h c hk (kH e1 (λw=>run_strneq e2 e3 e4 (decide_eq_true hp) w) (h1 hp))
 ·exact zL h c hk (kH e1 (λw=>run_strneq e2 e3 e4 (decide_eq_false hp) w) (h2 hp))
def xBo:Value->Bool
 | .bool b=>b
 |_=>false
theorem tM (t:Nat)(h:List Nat)(h1:zF M P n W Q ((xgo P n t h c).st t (.bool true)))(h2:zF M P n W Q ((xgo P n t h c).st t (.bool false)))
  (hkt:(xgl P n t h c,(xgo P n t h c).f t)=(xgr P n t h c,.bool (xBo ((xgo P n t h c).f t))):=by kernel_rfl):zF M P n W Q c:=by
 obtain ⟨hk,hv⟩:=Prod.mk.inj hkt
 cases hb:xBo ((xgo P n t h c).f t) with
 |true=>rw [hb] at hv;exact x_set t h _ hv h1 hk
 |false=>rw [hb] at hv;exact x_set t h _ hv h2 hk
theorem wU (t:Nat)(h:List Nat)(i:Nat){A:Option Addr}{b off:Nat}(hA:A=some ⟨b,off,none⟩)(N cp j sz:Nat)(hj:j<N)(hg:zF M P n W Q (xHn (xgo P n t h c) i (.pointer (some ⟨b,off+(j:Int).toNat*sz,none⟩))))
  (hkt:(xgl P n t h c,tN n i (xgo P n t h c),(xOi i (xgo P n t h c)).op,ev n (xgo P n t h c).f (oX (xOi i (xgo P n t h c))),ev n (xgo P n t h c).f (oY (xOi i (xgo P n t h c))),P.underlying (oT (xOi i (xgo P n t h c))),(P.info? (xEl P (oT (xOi i (xgo P n t h c))))).map (·.size))
   =(xgr P n t h c,fR i (xgo P n t h c),.indexAddr (oT (xOi i (xgo P n t h c))) (oX (xOi i (xgo P n t h c))) (oY (xOi i (xgo P n t h c))),.slice A N cp,YI (j:Int),some (.slice (xEl P (oT (xOi i (xgo P n t h c))))),some sz):=by kernel_rfl):zF M P n W Q c:=by
 simp only [Prod.mk.injEq] at hkt
 obtain ⟨hk,e1,e2,e3,e4,e5,e6⟩:=hkt
 exact zL h c hk (xtake (λw _=>run_ixA e2 e3 hA e4 e5 e6 Om Om rfl w) hg e1)
theorem wJ (t:Nat)(h:List Nat)(i:Nat)(ty:TypeId)(b o:Nat)(v:Value)(hv:∀ w,Own M W w (xL0 (xgo P n t h c))->(loadVar ty ⟨b,o,none⟩).run P w= .ok v w)(hg:zF M P n W Q (xHn (xgo P n t h c) i v))
  (hkt:(xgl P n t h c,tN n i (xgo P n t h c),(xOi i (xgo P n t h c)).op,ev n (xgo P n t h c).f (oX (xOi i (xgo P n t h c))))=(xgr P n t h c,fR i (xgo P n t h c),.load ty (oX (xOi i (xgo P n t h c))),.pointer (some ⟨b,o,none⟩)):=by kernel_rfl):zF M P n W Q c:=by
 simp only [Prod.mk.injEq] at hkt
 obtain ⟨hk,e1,e2,e3⟩:=hkt
 exact zL h c hk (xtake (λw hO=>qL e2 e3 (hv w hO)) hg e1)
theorem xh_cat (t:Nat)(h:List Nat)(i:Nat)(a b:YL)(hg:zF M P n W Q (xHn (xgo P n t h c) i (.string (mkS (a++b)))))(hb:a.length+b.length<=4000000000:=by (try simp only [List.length_append,List.length_cons,List.length_nil]);omega)
  (hkt:(xgl P n t h c,tN n i (xgo P n t h c),(xOi i (xgo P n t h c)).op,ev n (xgo P n t h c).f (oX (xOi i (xgo P n t h c))),ev n (xgo P n t h c).f (oY (xOi i (xgo P n t h c))))
   =(xgr P n t h c,fR i (xgo P n t h c),.binOp .add (oT (xOi i (xgo P n t h c))) (oX (xOi i (xgo P n t h c))) (oY (xOi i (xgo P n t h c))) (oU (xOi i (xgo P n t h c))),.string (mkS a),.string (mkS b)):=by kernel_rfl):zF M P n W Q c:=by
 simp only [Prod.mk.injEq] at hkt
 obtain ⟨hk,e1,e2,e3,e4⟩:=hkt
 exact zL h c hk (xtake (λw _=>run_stradd e2 e3 e4 hb w) hg e1)
theorem Reads.elem {α:Type}{g:α->List Value}{sz:Nat}(hg:∀ x,(g x).length=sz){A:Option Addr}{l:List α}{B:Nat}(h:Reads g W B A l)(j:Nat)(hj:j<l.length):∃ b off,A=some ⟨b,off,none⟩∧∀ w,Below B W w→∀ (ty:TypeId) (fo:Nat) (v:Value),yZ P ty ((g l[j]).drop fo).toArray 0=some v->(loadVar ty ⟨b,off+j*sz+fo,none⟩).run P w= .ok v w:=by
 obtain ⟨b,off,e,hb,hc⟩:=h Om
 refine ⟨b,off,e,λw hw ty fo v hr=>wG hg (λk u hu=> ?_) j fo hj rfl v hr⟩
 have:=hc k u hu
 rw [←this]
 unfold World.cell?
 rw [hw.block b hb]
theorem x_ixa (d:Nat)(h:List Nat)(N k sz:Nat)(hN:k<N)(hg:zF M P n W Q ((xgo P n (d+50000) h c).put (.pointer (some ⟨xPb (ev n (xgo P n (d+50000) h c).f (oX (xO (xgo P n (d+50000) h c)))),xOff (ev n (xgo P n (d+50000) h c).f (oX (xO (xgo P n (d+50000) h c))))+(k:Int).toNat*sz,none⟩))))
  (hkt:(xgl P n (d+50000) h c,xW n (xgo P n (d+50000) h c),(xO (xgo P n (d+50000) h c)).op,ev n (xgo P n (d+50000) h c).f (oX (xO (xgo P n (d+50000) h c))),ev n (xgo P n (d+50000) h c).f (oY (xO (xgo P n (d+50000) h c))),P.underlying (oT (xO (xgo P n (d+50000) h c))),(P.info? (xEl P (oT (xO (xgo P n (d+50000) h c))))).map (·.size))
   =(xgr P n (d+50000) h c,true,.indexAddr (oT (xO (xgo P n (d+50000) h c))) (oX (xO (xgo P n (d+50000) h c))) (oY (xO (xgo P n (d+50000) h c))),.pointer (some ⟨xPb (ev n (xgo P n (d+50000) h c).f (oX (xO (xgo P n (d+50000) h c)))),xOff (ev n (xgo P n (d+50000) h c).f (oX (xO (xgo P n (d+50000) h c)))),none⟩),YI (k:Int),some (.array N (xEl P (oT (xO (xgo P n (d+50000) h c))))),some sz):=by kernel_rfl):zF M P n W Q c:=by
 simp only [Prod.mk.injEq] at hkt
 obtain ⟨hk,e1,e2,e3,e4,e5,e6⟩:=hkt
 exact zL h c hk (kH e1 (λw=>run_ixarr e2 e3 e4 e5 e6 Om Om rfl w) hg)
theorem jH (d:Nat)(h:List Nat)(q:Nat)(cs:Array Value)(off:Nat)(ty:TypeId)(v:Value)(hv:yZ P ty cs off=some v)(hg:zF M P n W Q ((xgo P n (d+50000) h c).put v))
  (hkt:(xgl P n (d+50000) h c,xW n (xgo P n (d+50000) h c),(xO (xgo P n (d+50000) h c)).op,(xgo P n (d+50000) h c).L[q]?,(vQ (xgo P n (d+50000) h c).L q).cs,ev n (xgo P n (d+50000) h c).f (oX (xO (xgo P n (d+50000) h c))))=(xgr P n (d+50000) h c,true,.load ty (oX (xO (xgo P n (d+50000) h c))),some (vQ (xgo P n (d+50000) h c).L q),cs,.pointer (some ⟨(vQ (xgo P n (d+50000) h c).L q).b,off,none⟩)):=by kernel_rfl):zF M P n W Q c:=by
 simp only [Prod.mk.injEq] at hkt
 obtain ⟨hk,e1,e2,e3,e4,e5⟩:=hkt
 exact zL h c hk (put_read e1 (λw hO=>qL e2 e5 (yU (by rw [e4];exact hv) (hO.get e3))) hg)
theorem wM {T:TypeId}{sz k m cp:Nat}{v:Value}{xs:List Value}(h:List Nat)(E ob R:List Blk)(q:Nat)(L1:List Blk)(hs:∀ w,Own M W w L1->Own M W w (E++ob++R))(hv:Sl T sz v k xs ob)(hN:k+m<=1048576)
  (hg:∀ v' ob',Sl T sz v' (k+m) (xs++(vQ E q).cs.toList) ob'->zF M P n W Q ⟨.ops (xA (xgo P n nS h c)) (xT (xgo P n nS h c)),(xgo P n nS h c).k,E++ob'++R,upd (xgo P n nS h c).f (xO (xgo P n nS h c)).dst v'⟩)
  (hkt:(xgl P n nS h c,(xgo P n nS h c).L,(xgo P n nS h c).top,zU (xA (xgo P n nS h c)) n (xgo P n nS h c).f (xO (xgo P n nS h c)),(xO (xgo P n nS h c)).op,ev n (xgo P n nS h c).f (aX (xO (xgo P n nS h c)) 0),ev n (xgo P n nS h c).f (aX (xO (xgo P n nS h c)) 1),E[q]?,P.underlying (aT (xO (xgo P n nS h c))),aInfo P T,(vQ E q).cs.toList.length,(vQ E q).cs.toList.all λu=>u.oneCell')
   =(xgr P n nS h c,L1,.ops (xA (xgo P n nS h c)) (xO (xgo P n nS h c)::xT (xgo P n nS h c)),true,aOp (xO (xgo P n nS h c)),v,.slice (some ⟨(vQ E q).b,0,none⟩) m cp,some (vQ E q),some (.slice T),some (true,sz,some sz),m*sz,true):=by kernel_rfl):zF M P n W Q c:=by
 simp only [Prod.mk.injEq] at hkt
 obtain ⟨hk,f1,e1,e3,e4,e5,e6,e7,e8,e9,e10,e11⟩:=hkt
 refine zL h c hk ?_
 generalize (xgo P n nS h c)=d at*
 rw [←f1] at hs
 have:d=⟨.ops (xA d) (xO d::xT d),d.k,d.L,d.f⟩:=by rw [←e1]
 rw [this]
 obtain ⟨i,z,hi,hz,hsz,hzs,hby⟩:=aInfo_is e9
 refine ⟨λhq=>mG hs (s_append (E:=E) (ob:=ob) (L0:=R) e3 e4 e8 hi hz hsz hzs e5 hv e6 e10 (λw hO j u hj=> ?_) (List.all_eq_true.1 e11) ?_ ?_ λv' ob' h=>(hg v' ob' h).go hq)⟩
 ·have hmem:vQ E q∈E++ob++R:=List.mem_append_left _ (List.mem_append_left _ (List.mem_of_getElem? e7))
  rw [xP,cell_of_row w _ _ _ _ _ (hO.held _ hmem),Nat.zero_add]
  simpa using hj
 ·unfold maxLen;omega
 ·have:=Nat.mul_le_mul hN hby;omega
end
end
end Go.Proofs.YtobimfnmnkegdaaGreatDoor
