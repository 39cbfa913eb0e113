import Derived.Lib.OthersKept
import Derived.Lib.IndexBytes
import Derived.Laws.OwnMore
import Derived.Test.YtflhcaljcoekpaaGreatDoorIG4
set_option maxRecDepth 1000000
set_option maxHeartbeats 8000000
set_option linter.unusedVariables false
set_option linter.unusedSimpArgs false
set_option linter.unnecessarySimpa false
namespace Go.Proofs.YtflhcaljcoekpaaGreatDoor
open Go.RowKit

section
theorem below_moved {B:Nat}{a w:World}(h:Below B a w){k:Nat}(hk:B<=k)(s:ByteArray)(pos:Nat):Below B a (w.iterAt k s pos):=
 h.trans ⟨rfl,rfl,rfl,by rw [Lib.iterAt_size];exact Nat.le_refl _,Nat.le_refl _,λi hi=>Lib.iterAt_other w k i s pos Om⟩
theorem piece_any (s:ByteArray)(f k:Nat)(w:World)(hs:s.size<=1000000)(hfk:f<=k)(hk:k<=s.size):
  YC 178 #[.string s,YI f,YI k] w (YR (.string (s.extract f k)) w):=by
 have hz:(s.extract f k).size<=281474976710656:=by
  rw [ByteArray.size_extract];omega
 go_enter Tryz.func178,Tryz.ntmps178
 go_wp2_with (go_at_call 147;refine (fH _ _ hz).mono ?_;rintro e w' ⟨rfl,hb⟩)
 go_ret
 exact ⟨rfl,hb⟩
theorem width_any (t:ByteArray)(r n:Nat)(hne:t.data.toList≠[])(hd:Lib.decodeL t.data.toList=(r,n))(w:World):
  YC 177 #[.string t,.int .i32 r] w λe w'=>e= .returned (YI n)/\w=w':=by
 have HD:=Lib.hid hd
 clear hd
 have HNE:=Lib.hid hne
 clear hne
 by_cases h:r=65533
 ·by_cases hp:Lib.hasPrefix t.data.toList [239,191,189]=true
  ·have HP:=Lib.hid hp
   clear hp
   have hb:((r:Int)==65533)=true:=by simp [h]
   have HR:=Lib.hid h
   clear h
   go_enter Tryz.func177,Tryz.ntmps177
   go_wp2_with (first|(go_at_call 225;refine (Tryz.strings_HasPrefix t ⟨#[239,191,189]⟩ _).mono ?_;rw [HP.out];rintro e w' ⟨rfl,rfl⟩)|(go_at_call 226;refine (Tryz.utf8_RuneLen _ _).mono ?_;rintro e w' ⟨rfl,rfl⟩))
   go_ret
   refine ⟨wW ?_,rfl⟩
   have h3:=wide_err _ HP.out
   rw [HD.out] at h3
   rw [HR.out,show n=3 from h3]
   decide
  ·have HP:=Lib.hid (Bool.eq_false_iff.2 hp)
   clear hp
   have hb:((r:Int)==65533)=true:=by simp [h]
   have HR:=Lib.hid h
   clear h
   go_enter Tryz.func177,Tryz.ntmps177
   go_wp2_with (go_at_call 225;refine (Tryz.strings_HasPrefix t ⟨#[239,191,189]⟩ _).mono ?_;rw [HP.out];rintro e w' ⟨rfl,rfl⟩)
   go_ret
   refine ⟨wW ?_,rfl⟩
   have h1:=wide_bad _ HNE.out (by rw [HD.out];exact HR.out) HP.out
   rw [HD.out] at h1
   rw [show n=1 from h1]
   rfl
 ·have hb:((r:Int)==65533)=false:=wA Om
  go_enter Tryz.func177,Tryz.ntmps177
  go_wp2_with (go_at_call 226;refine (Tryz.utf8_RuneLen _ _).mono ?_;rintro e w' ⟨rfl,rfl⟩)
  go_ret
  refine ⟨wW ?_,rfl⟩
  have h2:=wide_other t.data.toList (by rw [HD.out];exact h)
  rw [HD.out] at h2
  exact h2
theorem split_any (s:ByteArray)(b:UInt8)(w:World)(hs:s.size<=1000000):
  YC 131 #[.string s,.int .u8 b.toNat] w λe w'=>∃ v,e= .returned v/\w'.ownsRow w.heap.size 9 1 v (qW s b).length (jQ (qW s b))/\YB w w':=by
 obtain ⟨i0,hi,hz0,hz1,hz2⟩:=info_parts infoStr
 go_enter Tryz.func131,Tryz.ntmps131
 go_wp2
 go_loopw [5,6] (λv fv wr=>∃ (pos f:Nat) (P:List YL),fv=YI f/\f<=pos/\pos<=s.size/\P.length<=pos/\wr.heap[w.heap.size]?=some (.stringIter s pos)/\wr.ownsRow w.heap.size 9 1 v P.length (jQ P)/\YB w wr/\Hid (P++zA b ((s.data.toList.drop f).take (pos-f)) (s.data.toList.drop pos)=qW s b)) (λ_ _ wr=>s.size-wr.iterPos w.heap.size)
 case atStart=>exact ⟨0,0,[],rfl,Nat.le_refl _,Nat.zero_le _,Nat.zero_le _,World.iter_heap _ _ _,⟨rfl,Or.inl ⟨rfl,rfl⟩⟩,yC _ _ _,rfl⟩
 case round=>
  obtain ⟨pos,f,P,rfl,hfp,hple,hP,hit,hown,hb,HR⟩:=hrel
  have hsz:=hb.size
  by_cases hp:pos<s.size
  ·obtain ⟨r,n,hdec⟩:∃ r n,Utf8.decode s pos=(r,n):=⟨_,_,rfl⟩
   have hnx:∀ ty,(Instr.next (.pointer (some ⟨w.heap.size,0,none⟩)) true ty).run YP wr=_:=λty=>Lib.run_next_any_at wr w.heap.size s pos ty hit hp
   rw [hdec] at hnx
   have hn1:1<=n:=by
    by_cases ha:(s[pos]'hp).toNat<128
    ·have:=decode_ascii s pos hp ha
     rw [hdec] at this
     have:n=1:=congrArg Prod.snd this
     omega
    ·have:=(decode_high s pos hp Om).2
     rw [hdec] at this
     exact this
   have hdl:Lib.decodeL (s.extract pos s.size).data.toList=(r,n):=by rw [Lib.extract_to_end,Lib.decodeL_drop,hdec]
   have hne:(s.extract pos s.size).data.toList≠[]:=by
    rw [Lib.extract_to_end];intro h;have:=congrArg List.length h;simp at this;omega
   have hnle:pos+n<=s.size:=by
    have:=Lib.decodeL_le _ hne
    rw [hdl,Lib.extract_to_end] at this
    simp at this;omega
   have HDL:=Lib.hid hdl
   have HNE:=Lib.hid hne
   have HIT:=Lib.hid hit
   have hown1:=ownsRow_iterAt hown hit (pos+n)
   have hit1:=Lib.iterAt_heap wr w.heap.size s pos (pos+n) hit
   have hb1:Below w.heap.size w (wr.iterAt w.heap.size s (pos+n)):=below_moved hb (Nat.le_refl _) s (pos+n)
   have HIT1:=Lib.hid hit1
   clear hdl hne hdec hit1
   obtain ⟨wo,rfl⟩:∃ wo:World,wo=wr:=⟨_,rfl⟩
   go_wp2_with (go_at_call 177;refine (width_any _ r n HNE.out HDL.out _).mono ?_;rintro e w' ⟨rfl,rfl⟩)
   go_loopw [5,6,10] (λv fv iv wi=>∃ (k f:Nat) (P:List YL),iv=YI k/\fv=YI f/\f<=k/\pos<=k/\k<=pos+n/\P.length<=k/\wi.heap[w.heap.size]?=some (.stringIter s (pos+n))/\wi.ownsRow w.heap.size 9 1 v P.length (jQ P)/\YB w wi/\Hid (P++zA b ((s.data.toList.drop f).take (k-f)) (s.data.toList.drop k)=qW s b)) (λ_ _ iv _=>pos+n-(intOf iv).toNat)
   case atStart=>exact ⟨pos,f,P,rfl,rfl,hfp,Nat.le_refl _,by omega,hP,HIT1.out,hown1,hb1,HR⟩
   case round=>
    clear HR hown hb hit hsz hnx hown1 hb1
    obtain ⟨k,f2,P2,rfl,rfl,hfk,hpk,hkn,hP2,hit2,hown2,hb2,HR2⟩:=hrel
    have hsz2:=hb2.size
    have HIT2:=Lib.hid hit2
    clear hit2
    by_cases hlt:k<pos+n
    ·have hks:k<s.size:=by omega
     have HD:=Lib.hid (gJ s k hks)
     by_cases hc:s[k]=b
     ·have HC:=Lib.hid hc
      have hcb:((s[k].toNat:Int)==(b.toNat:Int))=true:=by rw [hc];simp
      clear hc
      go_wp2_with (go_at_call 178;refine (piece_any s f2 k _ hs hfk Om).mono ?_)
      rintro e w3 ⟨rfl,hb3⟩
      have hown3:=mH hown2 hb3
      have hsz3:=hb3.size
      have hb4:YB w w3:=hb2.trans (hb3.mono hsz2)
      have HIT3:=Lib.hid (iter_below HIT2.out hb3)
      go_wp2_with (at_builtin;refine kX _ rfl _ _ 85 rfl w.heap.size 9 i0 (.string ByteArray.empty) 1 16 Tryz.underlying85 hi hz0 hz1 hz2 rfl (by decide) _ _ _ rfl (hown3.alloc _) ⟨w3.heap.size,0,none⟩ 1 1 [.string (s.extract f2 k)] rfl rfl ?c1 ?c2 ?c3 ?c4 ?c5 ?_)
      case c1=>
       intro j u hj
       match j,hj with
       |0,hj=>simp at hj;subst hj;simp [Addr.add]
      case c2=>intro u hu;simp at hu;subst hu;rfl
      case c3=>unfold maxLen;omega
      case c4=>omega
      case c5=>simp;omega
      intro v' w5 hown' hgrow _
      go_wp2
      go_roundw
      case rel=>
       refine ⟨k+1,k+1,P2++[(s.data.toList.drop f2).take (k-f2)],by go_num,by go_num,Nat.le_refl _,by omega,by omega,by simp;omega, ?_, ?_,(hb4.alloc (by omega) _).grown hgrow (by simp;omega) (λk hk=>(hown3.lt k hk).1), ?_⟩
       ·have ha:(w3.alloc (.cells #[.string (s.extract f2 k)] 9)).heap[w.heap.size]?=some (.stringIter s (pos+n)):=by
         rw [Below.heap_alloc _ _ _ (Array.getElem?_eq_some_iff.1 HIT3.out).1];exact HIT3.out
        rw [hgrow.1.block _ (Array.getElem?_eq_some_iff.1 ha).1 (ownsRow_ne (hown3.alloc _) ha)]
        exact ha
       ·rw [mU,←wH,List.length_append];exact hown'
       ·show _=_
        rw [←HR2.out,HD.out,split_hit _ _ _ _ HC.out,List.append_assoc,Nat.sub_self,List.take_zero];rfl
      case measure=>simp [intOf];omega
     ·have hcb:((s[k].toNat:Int)==(b.toNat:Int))=false:=wA (λe=>hc (UInt8.toNat_inj.1 Om))
      go_wp2
      go_roundw
      case rel=>exact ⟨k+1,f2,P2,by go_num,rfl,by omega,by omega,by omega,by omega,HIT2.out,hown2,hb2,by show _=_;rw [←HR2.out,HD.out,split_miss _ _ _ _ hc,take_more s f2 k hfk hks]⟩
      case measure=>simp [intOf];omega
    ·obtain rfl:k=pos+n:=by omega
     go_wp2
     go_roundw
     case rel=>exact ⟨pos+n,f2,P2,rfl,hfk,hnle,hP2,HIT2.out,hown2,hb2,HR2⟩
     case measure=>
      simp only [World.iterPos,HIT2.out,HIT.out]
      omega
  ·have hnx:∀ ty,(Instr.next (.pointer (some ⟨w.heap.size,0,none⟩)) true ty).run YP wr=_:=λty=>Lib.run_next_end_at wr w.heap.size s pos ty hit hp
   have HD:=Lib.hid (jB s pos hp)
   have hk2:pos=s.size:=by omega
   have HE:Hid (P++[(s.data.toList.drop f).take (s.size-f)]=qW s b):=by
    show _=_
    rw [←HR.out,HD.out,hk2];rfl
   clear hk2
   have hfs:f<=s.size:=by omega
   go_wp2_with (go_at_call 178;refine (piece_any s f s.size _ hs hfs (Nat.le_refl _)).mono ?_)
   rintro e w3 ⟨rfl,hb3⟩
   have hown3:=mH hown hb3
   have hsz3:=hb3.size
   have hb4:YB w w3:=hb.trans (hb3.mono hsz)
   go_wp2_with (at_builtin;refine kX _ rfl _ _ 85 rfl w.heap.size 9 i0 (.string ByteArray.empty) 1 16 Tryz.underlying85 hi hz0 hz1 hz2 rfl (by decide) _ _ _ rfl (hown3.alloc _) ⟨w3.heap.size,0,none⟩ 1 1 [.string (s.extract f s.size)] rfl rfl ?c1 ?c2 ?c3 ?c4 ?c5 ?_)
   case c1=>
    intro j u hj
    match j,hj with
    |0,hj=>simp at hj;subst hj;simp [Addr.add]
   case c2=>intro u hu;simp at hu;subst hu;rfl
   case c3=>unfold maxLen;omega
   case c4=>omega
   case c5=>simp;omega
   intro v' w2 hown' hgrow _
   go_wp2
   go_ret
   refine ⟨v',rfl, ?_,(hb4.alloc Om _).grown hgrow (by simp;omega) (λk hk=>(hown3.lt k hk).1)⟩
   rw [←HE.out,mU,←wH,List.length_append];exact hown'
end
section
set_option linter.unnecessarySimpa false
theorem bV (s:YL)(W:World)(hs:s.length<=1000000):YC 162 #[.string (mkS s)] W (YR (.bool (wdL s)) W):=
 (word_any (mkS s) W (by rw [y7];unfold maxLen;omega)).mono λe w' ⟨h,e2⟩=>⟨by rw [h];unfold wordB wdL;rw [y7,mk_data],e2⟩
theorem fG (s:YL)(W:World)(hs:s.length<=1000000):YC 69 #[.string (mkS s)] W (YR (.bool (nmL s)) W):=
 name_any (mkS s) W (by rw [y7];unfold maxLen;omega)
theorem yQ (s:YL)(W:World)(hs:s.length<=1000000):YC 147 #[.string (mkS s)] W (YR (.string (mkS s)) W):=fH (mkS s) W (by rw [y7];omega)
theorem iCut_any (s:YL)(w:World):YC 213 #[.string (mkS s),.string ⟨#[63]⟩] w (YR (.tuple #[.string (mkS (if s.head?=some 63 then s.drop 1 else s)),.bool (decide (s.head?=some 63))]) w):=
 (Tryz.strings_CutPrefix (mkS s) ⟨#[63]⟩ w).mono λe w' ⟨he,hw⟩=>by
  subst hw
  refine ⟨?_,Below.refl _ _⟩
  rw [he,mk_data]
  show Ending.returned (Value.tuple #[.string ⟨(Lib.trimPrefix s [63]).toArray⟩,.bool (Lib.hasPrefix s [63])])=_
  unfold Lib.trimPrefix Lib.hasPrefix
  cases s with
  |nil=>rfl
  |cons c r=>
   by_cases h:c=63
   ·subst h;simp [List.isPrefixOf,mkS]
   ·have h2:¬ 63=c:=λq=>h q.symm
    simp [List.isPrefixOf,mkS,h,h2]
theorem kind_cut {s:YL}(h:wdL s=false)(hno:¬ (s.head?=some 63/\wdL (s.drop 1)=true)):zO s=if (zB 47 s).2.2 && nmL (zB 47 s).1 && wdL (zB 47 s).2.1 then (3,(zB 47 s).1,(zB 47 s).2.1) else (0,[],[]):=by
 unfold zO
 rw [if_neg (by rw [h];simp),if_neg (by rw [Bool.and_eq_true,decide_eq_true_eq];exact hno),yX 47 s [],List.nil_append]
 cases hc:(zB 47 s).2.2 with
 |false=>simp
 |true=>
  rw [if_pos rfl]
  cases hw:wdL (zB 47 s).2.1 with
  |true=>
   have hf:(47:UInt8)∉(zB 47 s).2.1:=wT (by decide) hw
   rw [yX 47 _ [],pB 47 _ hf]
   simp [hw]
  |false=>
   rw [yX 47 _ [],List.nil_append]
   cases hc2:(zB 47 (zB 47 s).2.1).2.2 with
   |true=>
    rw [if_pos rfl]
    cases hs:zA 47 [] (zB 47 (zB 47 s).2.1).2.1 with
    |nil=>exact absurd hs (jG 47 _ _)
    |cons y t=>simp
   |false=>
    have hb:=fV 47 (zB 47 s).2.1
    rw [hc2,if_neg (by simp),List.append_nil] at hb
    rw [←hb]
    simp [hw]
theorem fItem_at (s:YL)(W:World)(hs:s.length<=1000000):YC 164 #[.string (mkS s)] W (YR (.tuple #[YI (zO s).1,.string (mkS (zO s).2.1),.string (mkS (zO s).2.2)]) W):=by
 have hcl:=nL 47 s
 refine zD Tryz.func164 (z7 (v:= .bool (wdL s)) [] (λw _=>bV s w hs) (zV 11 (wdL s) (λh1=> ?_) (λh1=> ?_)))
 ·refine z7 (v:= .string (mkS s)) [] (λw _=>yQ s w hs) (gL [] (YI 1) (.string (mkS s)) (.string ⟨#[]⟩) λw hO=>⟨?_,hO.below⟩)
  rw [show zO s=(1,s,[]) from by unfold zO;rw [if_pos h1]];rfl
 have zero:∀ {w:World} {L:List Blk},¬ (s.head?=some 63/\wdL (s.drop 1)=true)->((zB 47 s).2.2 && nmL (zB 47 s).1 && wdL (zB 47 s).2.1)=false->Own [] W w L->(Ending.returned (.tuple #[YI 0,.string ⟨#[]⟩,.string ⟨#[]⟩])= .returned (.tuple #[YI (zO s).1,.string (mkS (zO s).2.1),.string (mkS (zO s).2.2)]))/\YB W w:=λh2 h3 hO=>by
  refine ⟨?_,hO.below⟩
  rw [kind_cut h1 h2,h3];rfl
 have three:∀ {w:World} {L:List Blk},¬ (s.head?=some 63/\wdL (s.drop 1)=true)->((zB 47 s).2.2 && nmL (zB 47 s).1 && wdL (zB 47 s).2.1)=true->Own [] W w L->(Ending.returned (.tuple #[YI 3,.string (mkS (zB 47 s).1),.string (mkS (zB 47 s).2.1)])= .returned (.tuple #[YI (zO s).1,.string (mkS (zO s).2.1),.string (mkS (zO s).2.2)]))/\YB W w:=λh2 h3 hO=>by
  refine ⟨?_,hO.below⟩
  rw [kind_cut h1 h2,h3];rfl
 by_cases hq:s.head?=some 63
 ·have hcp:∀ w,YC 213 #[.string (mkS s),.string ⟨#[63]⟩] w (YR (.tuple #[.string (mkS (s.drop 1)),.bool true]) w):=λw=>(iCut_any s w).mono λe w' ⟨e1,e2⟩=>⟨by rw [e1,if_pos hq,decide_eq_true hq],e2⟩
  refine z7 (v:= .tuple #[.string (mkS (s.drop 1)),.bool true]) [] (λw _=>hcp w) (z7 (v:= .bool (wdL (s.drop 1))) [] (λw _=>bV _ w (by rw [List.length_drop];omega)) (nP 23 [] (wdL (s.drop 1)) (λh2=> ?_) (λh2=> ?_)))
  ·refine z7 (v:= .string (mkS (s.drop 1))) [] (λw _=>yQ _ w (by rw [List.length_drop];omega)) (gL [] (YI 2) (.string (mkS (s.drop 1))) (.string ⟨#[]⟩) λw hO=>⟨?_,hO.below⟩)
   rw [show zO s=(2,s.drop 1,[]) from by unfold zO;rw [if_neg (by rw [h1];simp),if_pos (by rw [hq,h2];rfl)]];rfl
  have hno:¬ (s.head?=some 63/\wdL (s.drop 1)=true):=λq=>by rw [h2] at q;cases q.2
  refine z7 (v:= .tuple #[.string (mkS (zB 47 s).1),.string (mkS (zB 47 s).2.1),.bool (zB 47 s).2.2]) [] (λw _=>dG s 47 w (by omega)) (nP 33 [] (zB 47 s).2.2 (λh3=> ?_) (λh3=> ?_))
  ·refine z7 (v:= .bool (nmL (zB 47 s).1)) [] (λw _=>fG _ w (by omega)) (nP 37 [] (nmL (zB 47 s).1) (λh4=> ?_) (λh4=> ?_))
   ·refine z7 (v:= .bool (wdL (zB 47 s).2.1)) [] (λw _=>bV _ w (by omega)) (nP 40 [] (wdL (zB 47 s).2.1) (λh5=> ?_) (λh5=> ?_))
    ·exact z7 (v:= .string (mkS (zB 47 s).1)) [] (λw _=>yQ _ w Om) (z7 (v:= .string (mkS (zB 47 s).2.1)) [] (λw _=>yQ _ w Om) (gL [] (YI 3) (.string (mkS (zB 47 s).1)) (.string (mkS (zB 47 s).2.1)) λw hO=>three hno (by rw [h3,h4,h5];rfl) hO))
    ·exact gL [] (YI 0) (.string ⟨#[]⟩) (.string ⟨#[]⟩) λw hO=>zero hno (by rw [h3,h4,h5];rfl) hO
   ·exact gL [] (YI 0) (.string ⟨#[]⟩) (.string ⟨#[]⟩) λw hO=>zero hno (by rw [h3,h4];rfl) hO
  ·exact gL [] (YI 0) (.string ⟨#[]⟩) (.string ⟨#[]⟩) λw hO=>zero hno (by rw [h3];rfl) hO
 ·have hcp:∀ w,YC 213 #[.string (mkS s),.string ⟨#[63]⟩] w (YR (.tuple #[.string (mkS s),.bool false]) w):=λw=>(iCut_any s w).mono λe w' ⟨e1,e2⟩=>⟨by rw [e1,if_neg hq,decide_eq_false hq],e2⟩
  have hno:¬ (s.head?=some 63/\wdL (s.drop 1)=true):=λq=>hq q.1
  refine z7 (v:= .tuple #[.string (mkS s),.bool false]) [] (λw _=>hcp w) (z7 (v:= .tuple #[.string (mkS (zB 47 s).1),.string (mkS (zB 47 s).2.1),.bool (zB 47 s).2.2]) [] (λw _=>dG s 47 w (by omega)) (nP 33 [] (zB 47 s).2.2 (λh3=> ?_) (λh3=> ?_)))
  ·refine z7 (v:= .bool (nmL (zB 47 s).1)) [] (λw _=>fG _ w (by omega)) (nP 37 [] (nmL (zB 47 s).1) (λh4=> ?_) (λh4=> ?_))
   ·refine z7 (v:= .bool (wdL (zB 47 s).2.1)) [] (λw _=>bV _ w (by omega)) (nP 40 [] (wdL (zB 47 s).2.1) (λh5=> ?_) (λh5=> ?_))
    ·exact z7 (v:= .string (mkS (zB 47 s).1)) [] (λw _=>yQ _ w Om) (z7 (v:= .string (mkS (zB 47 s).2.1)) [] (λw _=>yQ _ w Om) (gL [] (YI 3) (.string (mkS (zB 47 s).1)) (.string (mkS (zB 47 s).2.1)) λw hO=>three hno (by rw [h3,h4,h5];rfl) hO))
    ·exact gL [] (YI 0) (.string ⟨#[]⟩) (.string ⟨#[]⟩) λw hO=>zero hno (by rw [h3,h4,h5];rfl) hO
   ·exact gL [] (YI 0) (.string ⟨#[]⟩) (.string ⟨#[]⟩) λw hO=>zero hno (by rw [h3,h4];rfl) hO
  ·exact gL [] (YI 0) (.string ⟨#[]⟩) (.string ⟨#[]⟩) λw hO=>zero hno (by rw [h3];rfl) hO
end
section
structure PV (W:World) where
 k:FuncId
 f:List Value->Option Value
 ok:∀ args v,f args=some v→∀ w,YB W w->Calls YP k args.toArray w λen w'=>en= .returned v/\YB w w'
structure PS (W:World) where
 k:FuncId
 f:List YL->List Value->Option Value
 ok:∀ l A cap rest v,f l rest=some v->l.length<=cap→∀ w,YB W w->Reads zW w w.heap.size A l->Calls YP k (Value.slice A l.length cap::rest).toArray w λen w'=>en= .returned v/\YB w w'
structure PL (W:World) where
 k:FuncId
 f:List Value->Option (List YL)
 ok:∀ args l,f args=some l→∀ w,YB W w->Calls YP k args.toArray w λen w'=>∃ v ob,en= .returned v/\SlT v l ob/\Own [] w w' ob
def strsQ:List Value->Option (List YL)
 | []=>some []
 | .string s::r=>match strsQ r with
  |some l=>some (s.data.toList::l)
  |none=>none
 |_=>none
theorem strsQ_ok:∀ {xs:List Value} {l:List YL},strsQ xs=some l->xs=l.flatMap zW/\xs.length=l.length
 | [],l,h=>by cases h;exact ⟨rfl,rfl⟩
 |x::r,l,h=>by
  cases x with
  |string s=>
   unfold strsQ at h
   cases hr:strsQ r with
   |none=>rw [hr] at h;cases h
   |some l'=>
    rw [hr] at h;cases h
    obtain ⟨h1,h2⟩:=strsQ_ok hr
    refine ⟨?_,by simp [h2]⟩
    rw [List.flatMap_cons,←h1];rfl
  |_=>unfold strsQ at h;cases h
section
variable {W:World}
def prL (vs:List (PV W))(ss:List (PS W))(ls:List (PL W)):Prm where
 sa k:=bif ss.any λp=>Nat.beq p.k k then some 0 else none
 val k args xs:=match ss.find? λp=>Nat.beq p.k k with
  |some p=>match strsQ xs,args.toList with
   |some l,_::rest=>p.f l rest
   |_,_=>none
  |none=>match vs.find? λp=>Nat.beq p.k k with
   |some p=>p.f args.toList
   |none=>none
 lst k args:=match ls.find? λp=>Nat.beq p.k k with
  |some p=>match p.f args.toList with
   |some l=>some (9,l.map λs=> .string (mkS s))
   |none=>none
  |none=>none
theorem prL_ok (vs:List (PV W))(ss:List (PS W))(ls:List (PL W)):PrOk YP (prL vs ss ls) [] W:=by
 have hsa:∀ {k:FuncId} {a:Nat},(prL vs ss ls).sa k=some a->a=0:=λ{k a} h=>by
  unfold prL at h
  dsimp only at h
  cases hb:ss.any λp=>Nat.beq p.k k with
  |true=>rw [hb] at h;exact (Option.some.inj h).symm
  |false=>rw [hb] at h;cases h
 have key:∀ {k:FuncId} {args:Array Value} {v:Value} {xs:List Value} {A:Option Addr} {n cap:Nat},(prL vs ss ls).sa k=some 0->args.getD 0 undef= .slice A n cap->n<=cap->xs.length=n->(prL vs ss ls).val k args xs=some v→∀ w,Own [] W w []->(0<n→∃ b o,A=some ⟨b,o,none⟩/\b<w.heap.size∧∀ j u,xs[j]?=some u->w.cell? ⟨b,o+j,none⟩=some u)->Calls YP k args w λen w'=>en= .returned v/\YB w w':=λ{k args v xs A n cap} hs ha hcap hl hv w hO hc=>by
  obtain ⟨ar⟩:=args
  unfold prL at hv hs
  dsimp only at hv hs
  cases hf:ss.find? λp=>Nat.beq p.k k with
  |none=>
   rw [List.find?_eq_none] at hf
   cases hb:ss.any λp=>Nat.beq p.k k with
   |true=>
    obtain ⟨p,hp,hq⟩:=List.any_eq_true.1 hb
    exact absurd hq (hf p hp)
   |false=>rw [hb] at hs;cases hs
  |some p=>
   rw [hf] at hv
   dsimp only at hv
   have hk:=Nat.eq_of_beq_eq_true (List.find?_some (p:=λp:PS W=>Nat.beq p.k k) hf)
   cases h1:strsQ xs with
   |none=>rw [h1] at hv;cases hv
   |some l=>
    rw [h1] at hv
    cases ar with
    |nil=>cases hv
    |cons a0 rest=>
     obtain ⟨e1,e2⟩:=strsQ_ok h1
     have ha:a0= .slice A n cap:=ha
     subst ha
     have hln:l.length=n:=by rw [←e2,hl]
     subst hln
     rw [←hk]
     exact p.ok l A cap rest v hv hcap w hO.below λh0=>by
      obtain ⟨b,o,q1,q2,q3⟩:=hc h0
      exact ⟨b,o,q1,q2,by rw [←e1];exact q3⟩
 refine ⟨λ{k args v} hs hv w hO=> ?_,λ{k a args v} hs ha hv w hO=> ?_,λ{k a args v b o n c xs} hs ha hnc hl hv w hO hb hc=> ?_,λ{k args T xs} hv w hO=> ?_⟩
 ·obtain ⟨ar⟩:=args
  unfold prL at hv hs
  dsimp only at hv hs
  have hn:ss.find? (λp=>Nat.beq p.k k)=none:=by
   rw [List.find?_eq_none]
   intro p hp hq
   rw [List.any_eq_true.2 ⟨p,hp,hq⟩] at hs;cases hs
  rw [hn] at hv
  dsimp only at hv
  cases hf:vs.find? λp=>Nat.beq p.k k with
  |none=>rw [hf] at hv;cases hv
  |some p=>
   rw [hf] at hv
   rw [←Nat.eq_of_beq_eq_true (List.find?_some (p:=λp:PV W=>Nat.beq p.k k) hf)]
   exact p.ok ar v hv w hO.below
 ·obtain rfl:=hsa hs
  exact key (xs:=[]) hs ha (Nat.le_refl _) rfl hv w hO λh=>absurd h (by decide)
 ·obtain rfl:=hsa hs
  exact key (n:=n) hs ha hnc hl hv w hO λ_=>⟨b,o,rfl,hb,hc⟩
 ·obtain ⟨ar⟩:=args
  unfold prL at hv
  dsimp only at hv
  cases hf:ls.find? λp=>Nat.beq p.k k with
  |none=>rw [hf] at hv;cases hv
  |some p=>
   rw [hf] at hv
   dsimp only at hv
   cases hl:p.f ar with
   |none=>rw [hl] at hv;cases hv
   |some l=>
    rw [hl] at hv
    cases hv
    rw [←Nat.eq_of_beq_eq_true (List.find?_some (p:=λp:PL W=>Nat.beq p.k k) hf)]
    refine (p.ok ar l hl w hO.below).mono λen w' ⟨v,ob,e1,e2,e3⟩=>⟨v,ob,e1, ?_,e3⟩
    rw [List.length_map]
    exact e2
end
def bsQ (s:ByteArray):YL:=s.data.toList
theorem bs_mk (s:ByteArray):mkS (bsQ s)=s:=rfl
section
variable (W:World)
def peTrim:PV W:=⟨279,fun
 | [.string s,.string ⟨⟨[32]⟩⟩]=>bif Nat.ble s.size 1000 then some (.string (mkS (bareL (bsQ s)))) else none
 |_=>none,λargs v h w hb=>by
  split at h
  ·rename_i s
   cases hc:Nat.ble s.size 1000 with
   |false=>rw [hc] at h;cases h
   |true=>
    rw [hc] at h;cases h
    exact trim_any (bsQ s) w (by have:=Nat.le_of_ble_eq_true hc;rw [←y7,bs_mk];omega)
  ·cases h⟩
def peCutPre:PV W:=⟨213,fun
 | [.string s,.string t]=>some (.tuple #[.string (mkS (cpL (bsQ s) (bsQ t))),.bool (qI (bsQ s) (bsQ t))])
 |_=>none,λargs v h w hb=>by
  split at h
  ·rename_i s t
   cases h
   exact cutpre_any (bsQ s) (bsQ t) w
  ·cases h⟩
def peCut:PV W:=⟨132,fun
 | [.string s,.string ⟨⟨[c]⟩⟩]=>bif Nat.ble s.size 1000 then some (.tuple #[.string (mkS (zB c (bsQ s)).1),.string (mkS (zB c (bsQ s)).2.1),.bool (zB c (bsQ s)).2.2]) else none
 |_=>none,λargs v h w hb=>by
  split at h
  ·rename_i s c
   cases hc:Nat.ble s.size 1000 with
   |false=>rw [hc] at h;cases h
   |true=>
    rw [hc] at h;cases h
    refine (cut_any (bsQ s) c w (by have:=Nat.le_of_ble_eq_true hc;rw [←y7,bs_mk];omega)).mono λen w' ⟨e1,n,e2⟩=>⟨e1, ?_⟩
    subst e2
    exact ⟨rfl,rfl,rfl,Nat.le_refl _,Nat.le_add_right _ _,λ_ _=>rfl⟩
  ·cases h⟩
def peClone:PV W:=⟨147,fun
 | [.string s]=>bif Nat.ble s.size 1000 then some (.string s) else none
 |_=>none,λargs v h w hb=>by
  split at h
  ·rename_i s
   cases hc:Nat.ble s.size 1000 with
   |false=>rw [hc] at h;cases h
   |true=>
    rw [hc] at h;cases h
    exact fH s w (by have:=Nat.le_of_ble_eq_true hc;omega)
  ·cases h⟩
def peNumber:PV W:=⟨187,fun
 | [.string s]=>bif Nat.ble s.size 1000 then some (.tuple #[.int .i64 (numV s),.bool (numOk s)]) else none
 |_=>none,λargs v h w hb=>by
  split at h
  ·rename_i s
   cases hc:Nat.ble s.size 1000 with
   |false=>rw [hc] at h;cases h
   |true=>
    rw [hc] at h;cases h
    exact number_any s w (by have:=Nat.le_of_ble_eq_true hc;unfold maxLen;omega)
  ·cases h⟩
def peWord:PV W:=⟨162,fun
 | [.string s]=>bif Nat.ble s.size 1000 then some (.bool (wordB s)) else none
 |_=>none,λargs v h w hb=>by
  split at h
  ·rename_i s
   cases hc:Nat.ble s.size 1000 with
   |false=>rw [hc] at h;cases h
   |true=>
    rw [hc] at h;cases h
    exact word_any s w (by have:=Nat.le_of_ble_eq_true hc;unfold maxLen;omega)
  ·cases h⟩
def peDigits (ht:HasTab W)(on:∀ w,YB W w->HasTab w):PV W:=⟨168,fun
 | [.int .i64 (.ofNat n)]=>bif Nat.ble n 100000 then some (.string (digS (.ofNat n))) else none
 |_=>none,λargs v h w hb=>by
  split at h
  ·rename_i n
   cases hc:Nat.ble n 100000 with
   |false=>rw [hc] at h;cases h
   |true=>
    rw [hc] at h;cases h
    have:=Nat.le_of_ble_eq_true hc
    exact digits_any (.ofNat n) (by show _<=(n:Int);omega) (by show (n:Int)<=_;omega) w (on w hb)
  ·cases h⟩
def peMayV:PV W:=⟨91,fun
 | [.agg ⟨[.int .i64 a,.int .i64 b,.int .i64 c,.string p,.string q]⟩]=>bif Nat.ble p.size 1000 && Nat.ble q.size 1000 then some (.bool (Ver.may ⟨a,b,c,bsQ p,bsQ q⟩)) else none
 |_=>none,λargs v h w hb=>by
  split at h
  ·rename_i a b c p q
   cases hc:(Nat.ble p.size 1000 && Nat.ble q.size 1000) with
   |false=>rw [hc] at h;cases h
   |true=>
    rw [hc] at h;cases h
    rw [Bool.and_eq_true] at hc
    have h1:=Nat.le_of_ble_eq_true hc.1
    have h2:=Nat.le_of_ble_eq_true hc.2
    exact p5 ⟨a,b,c,bsQ p,bsQ q⟩ w (by rw [←y7,bs_mk];omega) (by rw [←y7,bs_mk];omega)
  ·cases h⟩
def peGen:PL W:=⟨300,fun
 | [.string s,.string ⟨⟨[c]⟩⟩,.int .i64 0,.int .i64 n]=>bif Nat.ble s.size 1000 && (decide (n= -1)||decide (1<=n/\n<=1000)) then some (if n<0 then zA c [] (bsQ s) else bI c (n.toNat-1) (bsQ s)) else none
 |_=>none,λargs l h w hb=>by
  split at h
  ·rename_i s c n
   cases hc:(Nat.ble s.size 1000 && (decide (n= -1)||decide (1<=n/\n<=1000))) with
   |false=>rw [hc] at h;cases h
   |true=>
    rw [hc] at h;cases h
    rw [Bool.and_eq_true,Bool.or_eq_true,decide_eq_true_eq,decide_eq_true_eq] at hc
    exact splitC_any c (bsQ s) n w (by have:=Nat.le_of_ble_eq_true hc.1;rw [←y7,bs_mk];omega) hc.2
  ·cases h⟩
def peBars (ht:∀ w,YB W w->HasLib w):PL W:=⟨277,fun
 | [.string s,.string ⟨⟨[124,124]⟩⟩]=>bif Nat.ble s.size 1000 then some (dH [] (bsQ s)) else none
 |_=>none,λargs l h w hb=>by
  split at h
  ·rename_i s
   cases hc:Nat.ble s.size 1000 with
   |false=>rw [hc] at h;cases h
   |true=>
    rw [hc] at h;cases h
    exact split_bars (bsQ s) w (by have:=Nat.le_of_ble_eq_true hc;rw [←y7,bs_mk];omega) (ht w hb)
  ·cases h⟩
def peSplit:PL W:=⟨131,fun
 | [.string s,.int .u8 (.ofNat b)]=>bif Nat.ble s.size 1000 && Nat.ble b 255 then some (zA (UInt8.ofNat b) [] (bsQ s)) else none
 |_=>none,λargs l h w hb=>by
  split at h
  ·rename_i s b
   cases hc:(Nat.ble s.size 1000 && Nat.ble b 255) with
   |false=>rw [hc] at h;cases h
   |true=>
    rw [hc] at h;cases h
    rw [Bool.and_eq_true] at hc
    have h1:=Nat.le_of_ble_eq_true hc.1
    have h2:=Nat.le_of_ble_eq_true hc.2
    have e:(UInt8.ofNat b).toNat=b:=by rw [UInt8.toNat_ofNat'];omega
    have:=split_any s (UInt8.ofNat b) w Om
    rw [e] at this
    refine this.mono λen w' ⟨v,q1,q2,q3⟩=> ?_
    obtain ⟨ob,k1,k2⟩:=Own.row q2 q3
    unfold qW at k1
    exact ⟨v,ob,q1,k1,k2⟩
  ·cases h⟩
def peJoin:PS W:=⟨72,λl r=>match r with
 | [.int .u8 (.ofNat b)]=>bif Nat.ble b 255 && Nat.ble (zE (UInt8.ofNat b) l).length 10000 && Nat.ble l.length 10000 && !(zE (UInt8.ofNat b) l).isEmpty then some (.string (mkS (zE (UInt8.ofNat b) l))) else none
 |_=>none,λl A cap rest v h hcp w hb hv=>by
  split at h
  ·rename_i b
   cases hc:(Nat.ble b 255 && Nat.ble (zE (UInt8.ofNat b) l).length 10000 && Nat.ble l.length 10000 && !(zE (UInt8.ofNat b) l).isEmpty) with
   |false=>rw [hc] at h;cases h
   |true=>
    rw [hc] at h;cases h
    simp only [Bool.and_eq_true] at hc
    obtain ⟨⟨⟨h1,h2⟩,h3⟩,h4⟩:=hc
    have h1:=Nat.le_of_ble_eq_true h1
    have h2:=Nat.le_of_ble_eq_true h2
    have h3:=Nat.le_of_ble_eq_true h3
    have e:(UInt8.ofNat b).toNat=b:=by rw [UInt8.toNat_ofNat'];omega
    have:=dD (.slice A l.length cap) l (UInt8.ofNat b) w ⟨A,cap,rfl,λh0=>by
     obtain ⟨b,o,q1,q2,q3⟩:=hv h0
     refine ⟨⟨b,o,none⟩,q1,q2,λj hj=> ?_⟩
     rw [yJ]
     refine q3 j _ ?_
     rw [←xK]
     unfold jQ
     rw [List.getElem?_map,List.getElem?_eq_getElem hj];rfl⟩ (by omega) (by omega) (by intro q;rw [q] at h4;exact absurd h4 (by decide))
    rw [e] at this
    exact this
  ·cases h⟩
def peSJoin:PS W:=⟨136,λl r=>match r with
 | [.string ⟨⟨c::t⟩⟩]=>bif Nat.ble t.length 50 && Nat.ble l.length 1000 && l.all (λx=>Nat.ble x.length 1000) then some (.string (mkS (vZ (c::t) l))) else none
 |_=>none,λl A cap rest v h hcp w hb hv=>by
  split at h
  ·rename_i c t
   cases hc:(Nat.ble t.length 50 && Nat.ble l.length 1000 && l.all (λx=>Nat.ble x.length 1000)) with
   |false=>rw [hc] at h;cases h
   |true=>
    rw [hc] at h;cases h
    simp only [Bool.and_eq_true] at hc
    obtain ⟨⟨h1,h2⟩,h3⟩:=hc
    exact sjoin_any (c::t) l A cap w hv (by simp) (by have:=Nat.le_of_ble_eq_true h1;simp only [List.length_cons];omega) (Nat.le_of_ble_eq_true h2) (λx hx=>Nat.le_trans (Nat.le_of_ble_eq_true (List.all_eq_true.1 h3 x hx)) (by decide)) hcp
  ·cases h⟩
end
end
section
set_option linter.unnecessarySimpa false
def rt (st:List (Nat×Tr)):List Int:=(st.map λp=>((p.1:Nat):Int)).reverse
def treeB (l:List Nd):Bool:=match runT 0 [] l with|some s=>decide (l=[])||decide (s.length=1)|none=>false
end
section
set_option linter.unnecessarySimpa false
def Tr.opc:Tr->Int
 | .is _ _=>1
 | .no _=>2
 | .both _ _=>3
 | .one _ _=>4
def TextAt (A:Option Addr)(cap:Nat)(l:List Nd)(a:Nat)(t:Tr):Prop:=∀ W:World,Reads nC W W.heap.size A l->YC 327 #[.slice A l.length cap,YI (a:Int)] W (YR (.string (mkS t.text)) W)
def Stands (l:List Nd)(o:Nat)(t:Tr):Prop:=∀ i x,(t.enc o)[i]?=some x->l[o+i]?=some x
def whole10 (l:List Nd):YL:=match treeOf l with|some t=>t.text|none=>[]
end
section
set_option linter.unnecessarySimpa false
def valN (e:Pf)(n:Nd)(vs:List Int):Int:=
 if n.op=1 then (if e n.key.toNat=[] then 1 else if e n.key.toNat=n.text then 2 else 0)
 else if n.op=2 then 2-vs.getD n.a.toNat 0
 else if n.op=3 then min (vs.getD n.a.toNat 0) (vs.getD n.b.toNat 0) else max (vs.getD n.a.toNat 0) (vs.getD n.b.toNat 0)
structure NdOk (n:Nd)(m:Nat):Prop where
 is:n.op=1->0<=n.key/\n.key<3
 a:n.op≠1->0<=n.a/\n.a<m
 b:n.op≠1->n.op≠2->0<=n.b/\n.b<m
end
section
set_option linter.unnecessarySimpa false
theorem Own.lentR {ob R:List Blk}{M:List Nat}{W w:World}(h:Own M W w (R++ob)):Own (ob.map Blk.b) w w ob:=Own.lend (h.sublist (List.sublist_append_right _ _))
end
section
set_option linter.unnecessarySimpa false
def VStands (e:Pf)(vs:List Int)(o:Nat)(t:Tr):Prop:=∀ i z,(vlT e t)[i]?=some z->vs[o+i]?=some z
end
section
set_option linter.unnecessarySimpa false
def Rd (b:Nat)(A:Option Addr)(cap:Nat)(ws:List Tok)(ts:List Tok)(nd:List Nd)(bad:Bool)(ob:List Blk):Prop:=
 ∃ pre C cc g,ws=pre++ts/\ob=⟨b, #[.slice A ws.length cap,YI ((pre.length:Nat):Int),.slice C nd.length cc,.bool bad],314⟩::g/\SlN (.slice C nd.length cc) nd g
structure Lent (B b:Nat)(A:Option Addr)(cap:Nat)(ws ts:List Tok)(nd:List Nd)(bad:Bool)(ob:List Blk)(W:World):Prop where
 rd:Rd b A cap ws ts nd bad ob
 own:Own (ob.map Blk.b) W W ob
 ge:∀ x∈ob,B<=x.b
 le:B<=W.heap.size
 words:Reads zW W B A ws
 short:∀ x∈ws,x.length<=1000000
 few:ws.length<=10000
 small:nd.length+ts.length<=10000
structure Back (b:Nat)(A:Option Addr)(cap:Nat)(ws ts:List Tok)(nd:List Nd)(bad:Bool)(ob ob':List Blk)(W w':World):Prop where
 rd:Rd b A cap ws ts nd bad ob'
 own:Own (ob.map Blk.b) W w' ob'
def nextB (x:Tok)(ts:List Tok):Bool:=decide (ts.head?=some x)
def nextR (x:Tok)(ts:List Tok):List Tok:=if nextB x ts then ts.tail else ts
end
section
set_option linter.unnecessarySimpa false
def Got (part:List Tok->Option (Tr×List Tok))(ts:List Tok)(nd:List Nd)(z:Int)(ts':List Tok)(nd':List Nd)(bad':Bool):Prop:=
 nd'.length+ts'.length<=nd.length+ts.length/\ts'.length<=ts.length∧
  match part ts with
  |some (t,r)=>bad'=false/\ts'=r/\nd'=nd++t.enc nd.length/\z=((nd.length+t.sz-1:Nat):Int)
  |none=>bad'=true
def ChI (part:List Tok->Option (Tr×List Tok))(c:Tok)(mk:Tr->Tr->Tr)(ts:List Tok)(nd:List Nd)(z:Int)(tq:List Tok)(nq:List Nd)(bq:Bool):Prop:=
 nq.length+tq.length<=nd.length+ts.length/\tq.length<=ts.length∧
  (if bq=true then tA part c mk ts=none else ∃ t,tA part c mk ts=pLoop part c mk tq.length t tq/\nq=nd++t.enc nd.length/\z=((nd.length+t.sz-1:Nat):Int))
structure MkOf (op:Int)(mk:Tr->Tr->Tr):Prop where
 enc:∀ a b o,(mk a b).enc o=a.enc o++b.enc (o+a.sz)++[⟨op,((o+a.sz-1:Nat):Int),((o+a.sz+b.sz-1:Nat):Int),0,[]⟩]
 sz:∀ a b,(mk a b).sz=a.sz+b.sz+1
structure PartC (f:FuncId)(n:Nat)(part:List Tok->Option (Tr×List Tok)):Prop where
 go:∀ {B b:Nat} {A:Option Addr} {cap:Nat} {ws ts:List Tok} {nd:List Nd} {ob:List Blk} {W:World},Lent B b A cap ws ts nd false ob W->ts.length<=n→
  Calls YP f #[.pointer (some ⟨b,0,none⟩)] W λe w'=>∃ z ts' nd' bad' ob',e= .returned (YI z)/\Back b A cap ws ts' nd' bad' ob ob' W w'/\Got part ts nd z ts' nd' bad'
end
section
set_option linter.unnecessarySimpa false
def keyZ (c:Tok):Nat->Int
 |0=> -1
 |i+1=>if m4 i=c then (i:Int) else keyZ c i
end
section
set_option linter.unnecessarySimpa false
end
section
set_option linter.unnecessarySimpa false
def Tr.sts:Nat->Tr->List Nat
 |o,.is _ _=>[o]
 |o,.no x=>x.sts o++[o]
 |o,.both x y=>x.sts o++y.sts (o+x.sz)++[o]
 |o,.one x y=>x.sts o++y.sts (o+x.sz)++[o]
def FS:List (Nat×Tr)->Nat->List Nat->Prop
 | [],i,F=>i=0/\F=[]
 |p::r,i,F=>∃ i0 F0,FS r i0 F0/\i=i0+p.2.sz/\p.1=i-1/\F=F0++p.2.sts i0
def treeOk (l:List Nd):Bool:=decide (l.length<=15) && (treeOf l).isSome
def keyI (c:Tok):Int:=match keyN c with|some n=>(n:Int)|none=> -1
def Bd (nd:List Nd)(bad:Bool):Prop:=bad=true∨∃ n∈nd,n.op=1/\leafB n=false
def GotL (part:List Tok->Option (Tr×List Tok))(ts:List Tok)(nd:List Nd)(bad:Bool)(ts':List Tok)(nd':List Nd)(bad':Bool):Prop:=
 nd'.length+ts'.length<=nd.length+ts.length/\ts'.length<=ts.length/\(Bd nd bad->Bd nd' bad')∧
  match part ts with
  |some (t,r)=>ts'=r/\nd'=nd++t.enc nd.length/\bad'=bad
  |none=>Bd nd' bad'
def ChL (part:List Tok->Option (Tr×List Tok))(c:Tok)(mk:Tr->Tr->Tr)(ts:List Tok)(nd:List Nd)(bad:Bool)(tq:List Tok)(nq:List Nd)(bq:Bool):Prop:=
 nq.length+tq.length<=nd.length+ts.length/\tq.length<=ts.length/\(Bd nd bad->Bd nq bq)∧
  ((tA part c mk ts=none/\Bd nq bq)∨∃ t,tA part c mk ts=pLoop part c mk tq.length t tq/\nq=nd++t.enc nd.length/\bq=bad)
end
section
set_option linter.unnecessarySimpa false
structure MkAt (B:Nat)(W:World):Prop where
 lt:2<B
 held:∃ T,W.heap[(2:Nat)]?=some (.cells #[.string ⟨#[111,115]⟩,.string ⟨#[97,114,99,104]⟩,.string ⟨#[97,98,105]⟩] T)
def MkLib (W:World):Prop:=MkAt W.heap.size W
theorem MkAt.on {B B':Nat}{W w:World}(h:MkAt B W)(hb:Below B W w)(hB:B<=B'):MkAt B' w:=
 ⟨Nat.lt_of_lt_of_le h.lt hB,by obtain ⟨T,q⟩:=h.held;exact ⟨T,by rw [hb.block _ h.lt];exact q⟩⟩
theorem MkLib.on {W w:World}(h:MkLib W)(hb:YB W w):MkLib w:=MkAt.on h hb hb.size
end
section
set_option linter.unnecessarySimpa false
def intA (zs:List Int):Array Value:=(zs.flatMap zC).toArray
theorem int_made:∃ i,Tryz.prog.info? 3=some i/\i.zero=some (YI 0)/\i.size=1/\i.bytes=8:=by
 have h:(Tryz.prog.info? 3).map (λi=>(i.zero,i.size,i.bytes))=some (some (YI 0),1,8):=by kernel_rfl
 cases hi:Tryz.prog.info? 3 with
 |none=>rw [hi] at h;cases h
 |some i=>
  rw [hi] at h
  simp only [Option.map_some,Option.some.injEq,Prod.mk.injEq] at h
  exact ⟨i,rfl,h.1,h.2.1,h.2.2⟩
def padF (F:List Nat)(n:Nat):List Int:=F.map (λ(k:Nat)=>(k:Int))++List.replicate (n-F.length) 0
end
section
set_option linter.unnecessarySimpa false
def Nb (b:Nat)(nd:List Nd)(ob:List Blk):Prop:=∃ C cc g,ob=⟨b, #[.slice C nd.length cc],271⟩::g/\SlN (.slice C nd.length cc) nd g
def Rb (b:Nat)(A:Option Addr)(m cap:Nat)(bad:Bool)(nd:List Nd)(ob:List Blk):Prop:=∃ C cc g,ob=⟨b, #[.slice C nd.length cc,.slice A m cap,.bool bad],273⟩::g/\SlN (.slice C nd.length cc) nd g
end
section
set_option linter.unnecessarySimpa false
theorem flat_len10 {α:Type}{g:α->List Value}{sz:Nat}(hg:∀ x,(g x).length=sz):∀ l:List α,(l.flatMap g).length=l.length*sz
 | []=>by simp
 |a::l=>by rw [List.flatMap_cons,List.length_append,flat_len10 hg l,hg,List.length_cons,Nat.succ_mul];omega
theorem Reads.from_ {α:Type}{g:α->List Value}{sz:Nat}(hg:∀ x,(g x).length=sz){w:World}{B b off c:Nat}{l:List α}(h:Reads g w B (some ⟨b,off,none⟩) l)(hc:l.length<=c)(k:Nat):Reads g w B (some ⟨b,off+(if c=k then 0 else k*sz),none⟩) (l.drop k):=λh0=>by
 rw [List.length_drop] at h0
 obtain ⟨b',off',e,hlt,hcell⟩:=h Om
 obtain ⟨rfl,rfl⟩:b=b'/\off=off':=by simp at e;exact e
 refine ⟨b,_,rfl,hlt,λj u hj=> ?_⟩
 rw [if_neg Om]
 have e2:l.flatMap g=(l.take k).flatMap g++(l.drop k).flatMap g:=by rw [←List.flatMap_append,List.take_append_drop]
 have hl:((l.take k).flatMap g).length=k*sz:=by rw [flat_len10 hg,List.length_take,Nat.min_eq_left Om]
 have:=hcell (k*sz+j) u (by rw [e2,List.getElem?_append_right Om,hl,Nat.add_sub_cancel_left];exact hj)
 rw [←Nat.add_assoc] at this;exact this
def Rdr (W:World)(B b:Nat)(ts:List Tok)(nd:List Nd)(bad:Bool)(ob:List Blk):Prop:=∃ A cap,Reads zW W B A ts/\ts.length<=cap/\Rb b A ts.length cap bad nd ob
structure LentL (B b:Nat)(ts:List Tok)(nd:List Nd)(bad:Bool)(ob:List Blk)(W:World):Prop where
 rd:Rdr W B b ts nd bad ob
 own:Own (ob.map Blk.b) W W ob
 ge:∀ x∈ob,B<=x.b
 le:B<=W.heap.size
 short:∀ x∈ts,x.length<=1000000
 texts:∀ n∈nd,n.text.length<=1000000
 small:nd.length+ts.length<=10000
 lib:MkAt B W
structure BackL (B b:Nat)(ts:List Tok)(nd:List Nd)(bad:Bool)(ob ob':List Blk)(W w':World):Prop where
 rd:Rdr W B b ts nd bad ob'
 own:Own (ob.map Blk.b) W w' ob'
 short:∀ x∈ts,x.length<=1000000
 texts:∀ n∈nd,n.text.length<=1000000
structure PartL (f:FuncId)(n:Nat)(part:List Tok->Option (Tr×List Tok)):Prop where
 go:∀ {B b:Nat} {ts:List Tok} {nd:List Nd} {bad:Bool} {ob:List Blk} {W:World},LentL B b ts nd bad ob W->ts.length<=n→
  Calls YP f #[.pointer (some ⟨b,0,none⟩)] W λe w'=>∃ ts' nd' bad' ob',e= .returned (.tuple #[])/\BackL B b ts' nd' bad' ob ob' W w'/\GotL part ts nd bad ts' nd' bad'
end
section
set_option linter.unnecessarySimpa false
def Wr (b:Nat)(A:Option Addr)(n cap:Nat)(ws:List Tok)(ob:List Blk):Prop:=∃ C cc g,ob=⟨b, #[.slice A n cap,.slice C ws.length cc],277⟩::g/\SlT (.slice C ws.length cc) ws g
structure LentW (B b:Nat)(A:Option Addr)(cap:Nat)(l:List Nd)(ws:List Tok)(ob:List Blk)(W:World):Prop where
 rd:Wr b A l.length cap ws ob
 own:Own (ob.map Blk.b) W W ob
 ge:∀ x∈ob,B<=x.b
 le:B<=W.heap.size
 nodes:Reads nC W B A l
 lib:MkAt B W
structure BackW (b:Nat)(A:Option Addr)(n cap:Nat)(ws:List Tok)(ob ob':List Blk)(W w':World):Prop where
 rd:Wr b A n cap ws ob'
 own:Own (ob.map Blk.b) W w' ob'
def NodeW (A:Option Addr)(cap:Nat)(l:List Nd)(a:Nat)(X:List Tok):Prop:=∀ (B b:Nat) (ws:List Tok) (ob:List Blk) (W:World),LentW B b A cap l ws ob W->ws.length+X.length<=100000→
 YC 250 #[.pointer (some ⟨b,0,none⟩),YI (a:Int)] W λe w'=>∃ ob',e= .returned (.tuple #[])/\BackW b A l.length cap (ws++X) ob ob' W w'
def OperW (A:Option Addr)(cap:Nat)(l:List Nd)(a:Nat)(z:Int)(X:List Tok):Prop:=∀ (B b:Nat) (ws:List Tok) (ob:List Blk) (W:World),LentW B b A cap l ws ob W->ws.length+X.length<=100000→
 YC 284 #[.pointer (some ⟨b,0,none⟩),YI (a:Int),YI z] W λe w'=>∃ ob',e= .returned (.tuple #[])/\BackW b A l.length cap (ws++X) ob ob' W w'
end
section
set_option linter.unnecessarySimpa false
end
section
set_option linter.unnecessarySimpa false
def padV (xs:List Int)(n:Nat):List Int:=xs++List.replicate (n-xs.length) 0
end
section
set_option linter.unnecessarySimpa false
def ReadsA {α:Type}(M:List Nat)(g:α->List Value)(W:World)(A:Option Addr)(l:List α):Prop:=
 0<l.length→∃ b off,A=some ⟨b,off,none⟩/\b<W.heap.size/\b∉M∧∀ k u,(l.flatMap g)[k]?=some u->W.cell? ⟨b,off+k,none⟩=some u
theorem cell_heap {w W:World}{b k:Nat}(h:w.heap[b]?=W.heap[b]?):w.cell? ⟨b,k,none⟩=W.cell? ⟨b,k,none⟩:=by unfold World.cell?;simp only [h]
theorem ReadsA.at {α:Type}{M:List Nat}{g:α->List Value}{W w:World}{A:Option Addr}{l:List α}{L:List Blk}(h:ReadsA M g W A l)(hO:Own M W w L):Reads g w w.heap.size A l:=λh0=>by
 obtain ⟨b,off,e,hlt,hm,hc⟩:=h h0
 exact ⟨b,off,e,Nat.lt_of_lt_of_le hlt hO.size,λk u hk=>by rw [cell_heap (hO.kept b hlt hm)];exact hc k u hk⟩
structure LentN (b:Nat)(A V:Option Addr)(l:List Nd)(vs:List Int)(nd:List Nd)(ob:List Blk)(W:World):Prop where
 rd:Nb b nd ob
 own:Own (ob.map Blk.b) W W ob
 nodes:ReadsA (ob.map Blk.b) nC W A l
 vals:ReadsA (ob.map Blk.b) zC W V vs
structure BackN (b:Nat)(nd:List Nd)(ob ob':List Blk)(W w':World):Prop where
 rd:Nb b nd ob'
 own:Own (ob.map Blk.b) W w' ob'
end
section
set_option linter.unnecessarySimpa false
structure ChainL (n:Nat)(word:Tok)(op:Int)(k:FuncId)(part:List Tok->Option (Tr×List Tok)):Prop where
 go:∀ {B b:Nat} {ts:List Tok} {nd:List Nd} {bad:Bool} {ob:List Blk} {W:World},LentL B b ts nd bad ob W->ts.length<=n→
  YC 281 #[.pointer (some ⟨b,0,none⟩),.string (mkS word),YI op,.func (.func k) #[] #[]] W λe w'=>∃ ts' nd' bad' ob',e= .returned (.tuple #[])/\BackL B b ts' nd' bad' ob ob' W w'/\GotL part ts nd bad ts' nd' bad'
end
section
set_option linter.unnecessarySimpa false
theorem isplit_own (s:YL)(W:World)(hs:s.length<=1000000):YC 131 #[.string (mkS s),.int .u8 32] W λe w'=>∃ v' ob',e= .returned v'/\SlT v' (wordsM s) ob'/\Own [] W w' ob':=
 (split_any (mkS s) 32 W (by rw [y7];exact hs)).mono λe w' ⟨v,h1,h2,h3⟩=>by
  obtain ⟨ob,k1,k2⟩:=Own.row h2 h3
  unfold qW at k1
  rw [mk_data] at k1
  exact ⟨v,ob,h1,k1,k2⟩
end
section
structure RecLib (W:World):Prop where
 lib:HasLib W
 keys:MkLib W
theorem RecLib.on {W w:World}(h:RecLib W)(hb:YB W w):RecLib w:=⟨h.lib.on hb,h.keys.on hb⟩
noncomputable def prF (W:World)(ht:∀ w,YB W w->HasLib w):Prm:=prL [peTrim W,peCutPre W,peCut W,peClone W,peNumber W,peWord W,peDigits W (ht W (Below.refl _ _)).tab (λw h=>(ht w h).tab),peMayV W] [peJoin W,peSJoin W] [peGen W,peBars W ht,peSplit W]
def kyB (T:TypeId):Blk:=⟨2, #[.string ⟨#[111,115]⟩,.string ⟨#[97,114,99,104]⟩,.string ⟨#[97,98,105]⟩],T⟩
theorem zN {k:FuncId}{s:YL}{W:World}(hK:RecLib W)(h:∀ T ht e,(runA YP [kyB T] (prF W ht) k #[.string (mkS s)] e).l=(runA YP [kyB T] (prF W ht) k #[.string (mkS s)] e).r):Calls YP k #[.string (mkS s)] W λen w'=>en= .returned (.bool true)/\YB W w':=by
 obtain ⟨T,q⟩:=hK.keys.held
 refine run_true (G:=[kyB T]) (pr:=prF W (λw hb=>hK.lib.on hb)) (λw hO x hx=> ?_) (prL_ok _ _ _) (h T _)
 rw [List.mem_singleton.1 hx]
 exact (hO.kept 2 hK.keys.lt (by simp)).trans q
end
end Go.Proofs.YtflhcaljcoekpaaGreatDoor
