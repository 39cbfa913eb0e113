import Derived.WalkKit
import Derived.Lib.Hide
import Derived.Lib.SliceRun
import Derived.Outline
import Derived.Deep.RegionHeld3
import Derived.IntWalk
import Derived.StillTailTactics
import Derived.Laws.StructEq
import Derived.Test.YtdafengdngglpaaGreatDoorSU2
set_option maxRecDepth 1000000
set_option maxHeartbeats 8000000
set_option linter.unusedVariables false
set_option linter.unusedSimpArgs false
set_option linter.unnecessarySimpa false
namespace Go.Proofs.YtdafengdngglpaaGreatDoor
open Go.RowKit

section
set_option linter.unnecessarySimpa false
theorem wdB_or {c:Int}:wdB c=(qR c||yJ c||decide (c=95)):=rfl
theorem r1low_any (c:UInt8)(W:World):YC 133 #[.int .u8 (c.toNat:Int)] W (YR (.bool (qR (c.toNat:Int))) W):=by
 refine z8 Tryz.func133 ?_
 by_cases h1:(97:Int)<=(c.toNat:Int)
 ·refine zA 4 [] ((97:Int)<=(c.toNat:Int)) (λ_=> ?_) (λhq=>absurd (h1) hq)
  by_cases h2:(c.toNat:Int)<=122
  ·refine zA 7 [] ((c.toNat:Int)<=122) (λ_=> ?_) (λhq=>absurd (h2) hq)
   exact z7 [] Z4 (λw hO=>⟨by rw [show qR (c.toNat:Int)=true from by unfold qR;simp;try omega],hO.below⟩)
  exact zA 7 [] ((c.toNat:Int)<=122) (λhq=>absurd hq (h2)) (λ_=>z7 [] Z5 (λw hO=>⟨by rw [show qR (c.toNat:Int)=false from by unfold qR;simp;try omega],hO.below⟩))
 exact zA 4 [] ((97:Int)<=(c.toNat:Int)) (λhq=>absurd hq (h1)) (λ_=>z7 [] Z5 (λw hO=>⟨by rw [show qR (c.toNat:Int)=false from by unfold qR;simp;try omega],hO.below⟩))
theorem r1digit_any (c:UInt8)(W:World):YC 134 #[.int .u8 (c.toNat:Int)] W (YR (.bool (yJ (c.toNat:Int))) W):=by
 refine z8 Tryz.func134 ?_
 by_cases h1:(48:Int)<=(c.toNat:Int)
 ·refine zA 4 [] ((48:Int)<=(c.toNat:Int)) (λ_=> ?_) (λhq=>absurd (h1) hq)
  by_cases h2:(c.toNat:Int)<=57
  ·refine zA 7 [] ((c.toNat:Int)<=57) (λ_=> ?_) (λhq=>absurd (h2) hq)
   exact z7 [] Z4 (λw hO=>⟨by rw [show yJ (c.toNat:Int)=true from by unfold yJ;simp;try omega],hO.below⟩)
  exact zA 7 [] ((c.toNat:Int)<=57) (λhq=>absurd hq (h2)) (λ_=>z7 [] Z5 (λw hO=>⟨by rw [show yJ (c.toNat:Int)=false from by unfold yJ;simp;try omega],hO.below⟩))
 exact zA 4 [] ((48:Int)<=(c.toNat:Int)) (λhq=>absurd hq (h1)) (λ_=>z7 [] Z5 (λw hO=>⟨by rw [show yJ (c.toNat:Int)=false from by unfold yJ;simp;try omega],hO.below⟩))
theorem jM (s:YL)(W:World)(hs:s.length<=1000000):YC 245 #[.string (mkS s)] W (YR (.bool (wdL s)) W):=by
 have hsz:=zW s
 refine z8 Tryz.func245 ?_
 by_cases h1:((mkS s).size:Int)<1
 ·refine zA 6 [] (((mkS s).size:Int)<1) (λ_=> ?_) (λhq=>absurd (h1) hq)
  exact z7 [] Z5 (λw hO=>⟨by rw [show wdL s=false from by unfold wdL;rw [decide_eq_false Om];rfl],hO.below⟩)
 refine zA 6 [] (((mkS s).size:Int)<1) (λhq=>absurd hq (h1)) (λ_=> ?_)
 by_cases h2:(12:Int)<(mkS s).size
 ·refine zA 10 [] ((12:Int)<(mkS s).size) (λ_=> ?_) (λhq=>absurd (h2) hq)
  exact z7 [] Z5 (λw hO=>⟨by rw [show wdL s=false from by unfold wdL;rw [decide_eq_false Om];rfl],hO.below⟩)
 refine zA 10 [] ((12:Int)<(mkS s).size) (λhq=>absurd hq (h2)) (λ_=>zL (α:=Nat) (λi=>[(0,.string (mkS s)),(3,YI (i:Int))]) (λi=>[]) (λi m=>(i<=s.length/\qA (s.drop i)=qA s)/\m=s.length-i) (0) (s.length-0) [] ⟨⟨Nat.zero_le _,by rw [List.drop_zero]⟩,rfl⟩ ?_)
 rintro i m g kk ⟨hrel,hmm⟩ nx hkk
 subst hkk
 have hi6:=hrel.1
 by_cases h3:(i:Int)<(mkS s).size
 ·have hi:i<s.length:=by omega
  obtain ⟨c,hc⟩:∃ c,s[i]=c:=⟨_,rfl⟩
  have hdr:s.drop i=c::s.drop (i+1):=by rw [←hc];exact List.drop_eq_getElem_cons hi
  refine zA 15 [] ((i:Int)<(mkS s).size) (λ_=> ?_) (λhq=>absurd (h3) hq)
  refine bU 20 [] s i Om c hc (z6 (k:=133) (args:= #[.int .u8 (c.toNat:Int)]) (v:= .bool (qR (c.toNat:Int))) [] (λw _=>r1low_any c w) ?_)
  cases h4:qR (c.toNat:Int) with
  |true=>
   refine x_i 17 [] (((i+1:Nat):Int)) ?_
   have hnext:qA (s.drop (i+1))=qA s:=by rw [←hrel.2,hdr];refine (bV c _ ?_).symm;rw [wdB_or];simp [h1,h2,h3,h4]
   exact nx (i+1) (s.length-(i+1)) [] Om ⟨⟨by omega,hnext⟩,rfl⟩ Kr Kr
  |false=>
   refine bU 26 [] s i Om c hc (z6 (k:=134) (args:= #[.int .u8 (c.toNat:Int)]) (v:= .bool (yJ (c.toNat:Int))) [] (λw _=>r1digit_any c w) ?_)
   cases h5:yJ (c.toNat:Int) with
   |true=>
    refine x_i 17 [] (((i+1:Nat):Int)) ?_
    have hnext:qA (s.drop (i+1))=qA s:=by rw [←hrel.2,hdr];refine (bV c _ ?_).symm;rw [wdB_or];simp [h1,h2,h3,h4,h5]
    exact nx (i+1) (s.length-(i+1)) [] Om ⟨⟨by omega,hnext⟩,rfl⟩ Kr Kr
   |false=>
    refine bU 33 [] s i Om c hc ?_
    by_cases h6:(c.toNat:Int)=95
    ·refine kW 34 [] ((c.toNat:Int)=95) (λ_=> ?_) (λhq=>absurd (h6) hq)
     refine x_i 17 [] (((i+1:Nat):Int)) ?_
     have hnext:qA (s.drop (i+1))=qA s:=by rw [←hrel.2,hdr];refine (bV c _ ?_).symm;rw [wdB_or];simp [h1,h2,h3,h4,h5,h6]
     exact nx (i+1) (s.length-(i+1)) [] Om ⟨⟨by omega,hnext⟩,rfl⟩ Kr Kr
    exact kW 34 [] ((c.toNat:Int)=95) (λhq=>absurd hq (h6)) (λ_=>z7 [] Z5 (λw hO=>⟨by rw [show wdL s=false from by unfold wdL;rw [←hrel.2,hdr,wordGo_bad c _ (by rw [wdB_or];simp [h1,h2,h3,h4,h5,h6];try omega)];simp],hO.below⟩))
 exact zA 15 [] ((i:Int)<(mkS s).size) (λhq=>absurd hq (h3)) (λ_=>z7 [] Z4 (λw hO=>⟨by rw [show wdL s=true from by unfold wdL;rw [←hrel.2,List.drop_of_length_le Om];simp [qA];omega],hO.below⟩))
theorem r10leaf_any (n:Nd)(W:World)(hs:n.text.length<=1000000):YC 373 #[ndV n] W (YR (.bool (xR n)) W):=by
 refine z8 Tryz.func373 (zQ [] λb1=> ?_)
 by_cases h1:(n.op:Int)=1
 ·refine zA 5 [0] ((n.op:Int)=1) (λ_=> ?_) (λhq=>absurd (h1) hq)
  by_cases h2:(0:Int)<=n.key
  ·refine zA 9 [0] ((0:Int)<=n.key) (λ_=> ?_) (λhq=>absurd (h2) hq)
   by_cases h3:(n.key:Int)<3
   ·refine zA 14 [0] ((n.key:Int)<3) (λ_=> ?_) (λhq=>absurd (h3) hq)
    refine z6 (k:=245) (args:= #[.string (mkS n.text)]) (v:= .bool (wdL n.text)) [0] (λw _=>jM n.text w hs) ?_
    cases h4:wdL n.text with
    |true=>
     by_cases h5:(n.a:Int)=0
     ·refine zA 24 [0] ((n.a:Int)=0) (λ_=> ?_) (λhq=>absurd (h5) hq)
      by_cases h6:(n.b:Int)=0
      ·refine zA 29 [0] ((n.b:Int)=0) (λ_=> ?_) (λhq=>absurd (h6) hq)
       exact z7 [] Z4 (λw hO=>⟨by rw [show xR n=true from by unfold xR;simp [h1,h2,h3,h4,h5,h6];try omega],hO.below⟩)
      exact zA 29 [0] ((n.b:Int)=0) (λhq=>absurd hq (h6)) (λ_=>z7 [] Z5 (λw hO=>⟨by rw [show xR n=false from by unfold xR;simp [h1,h2,h3,h4,h5,h6];try omega],hO.below⟩))
     exact zA 24 [0] ((n.a:Int)=0) (λhq=>absurd hq (h5)) (λ_=>z7 [] Z5 (λw hO=>⟨by rw [show xR n=false from by unfold xR;simp [h1,h2,h3,h4,h5];try omega],hO.below⟩))
    |false=>
     exact z7 [] Z5 (λw hO=>⟨by rw [show xR n=false from by unfold xR;simp [h1,h2,h3,h4];try omega],hO.below⟩)
   exact zA 14 [0] ((n.key:Int)<3) (λhq=>absurd hq (h3)) (λ_=>z7 [] Z5 (λw hO=>⟨by rw [show xR n=false from by unfold xR;simp [h1,h2,h3];try omega],hO.below⟩))
  exact zA 9 [0] ((0:Int)<=n.key) (λhq=>absurd hq (h2)) (λ_=>z7 [] Z5 (λw hO=>⟨by rw [show xR n=false from by unfold xR;simp [h1,h2];try omega],hO.below⟩))
 exact zA 5 [0] ((n.op:Int)=1) (λhq=>absurd hq (h1)) (λ_=>z7 [] Z5 (λw hO=>⟨by rw [show xR n=false from by unfold xR;simp [h1];try omega],hO.below⟩))
theorem rd_key:∀ (k:Nat),k<3->xD YP 9 #[.string ⟨#[111,115]⟩,.string ⟨#[97,114,99,104]⟩,.string ⟨#[97,98,105]⟩] (0+k*1)=some (.string (mkS (yR k)))
 |0,_=>by kernel_rfl
 |1,_=>by kernel_rfl
 |2,_=>by kernel_rfl
theorem r10key_any (k:Nat)(hk:k<3)(W:World):YC 374 #[YI (k:Int)] W (YR (.string (mkS (yR k))) W):=by
 exact z8 Tryz.func374 (kD [] 3 9 #[.string ⟨#[111,115]⟩,.string ⟨#[97,114,99,104]⟩,.string ⟨#[97,98,105]⟩] λb1=>(zH 5 [] (A:=some ⟨b1,0,none⟩) rfl 3 3 k 1 (by first|omega|(simp;omega)) (j7 6 [] 0 #[.string ⟨#[111,115]⟩,.string ⟨#[97,114,99,104]⟩,.string ⟨#[97,98,105]⟩] (0+k*1) 9 (.string (mkS (yR k))) (rd_key k hk) (z7 [] (.string (mkS (yR k))) (λw hO=>⟨rfl,hO.below⟩)))))
def yP (c:Bool)(s:YL):YL:=if c then [40,32]++s++[32,41] else s
theorem kK (s:YL)(c:Bool)(W:World)(hs:s.length<=1000000):YC 375 #[.string (mkS s),.bool c] W (YR (.string (mkS (yP c s))) W):=by
 refine z8 Tryz.func375 ?_
 cases h1:c with
 |true=>
  exact zZ 7 [] ([40,32]) s (zZ 8 [] ([40,32]++s) ([32,41]) (z7 [] (.string (mkS (([40,32]++s)++[32,41]))) (λw hO=>⟨rfl,hO.below⟩)))
 |false=>
  exact z7 [] (.string (mkS s)) (λw hO=>⟨rfl,hO.below⟩)
end
section
theorem qG (r:Int)(b:Bool)(hb:qR r=b)(w:World):
  YC 129 #[.int .i32 r] w λe w'=>e= .returned (.bool b)/\w=w':=by
 subst hb
 unfold qR
 go_enter Tryz.func129,Tryz.ntmps129
 go_wp2
 all_goals go_ret
 all_goals exact ⟨y0 (by simp;try omega),rfl⟩
theorem name_any (s:ByteArray)(w:World)(hs:s.size<=maxLen):
  YC 69 #[.string s] w (YR (.bool (fY s)) w):=by
 unfold maxLen at hs
 by_cases h16:s.size<=16
 ·go_enter Tryz.func69,Tryz.ntmps69
  go_wp2
  go_loopw [3] (λv wr=>∃ (pos:Nat) (l:Int),wr=w.iter s pos/\pos<=s.size/\v= .int .i32 l/\Hid (gI (decide (pos=0)) l (s.data.toList.drop pos)=gI true 45 s.data.toList)) (λ_ wr=>s.size-wr.iterPos w.heap.size)
  case atStart=>exact ⟨0,45,rfl,Nat.zero_le _,rfl,rfl⟩
  case round=>
   obtain ⟨pos,l,rfl,hple,rfl,HR⟩:=hrel
   by_cases hp:pos<s.size
   ·have HD:=Lib.hid (gV s pos hp)
    by_cases ha:(s[pos]'hp).toNat<128
    ·have hnx:∀ ty,(Instr.next (.pointer (some ⟨w.heap.size,0,none⟩)) true ty).run YP (w.iter s pos)=_:=λty=>run_next_ascii w s pos ty hp ha
     by_cases hl:qR (s[pos]'hp).toNat=true
     ·have HL:=Lib.hid hl
      clear hl
      go_wp2_with (go_at_call 129;refine (qG _ true HL.out _).mono ?_;rintro e w' ⟨rfl,rfl⟩)
      go_roundw
      case rel=>exact ⟨pos+1,_,rfl,by omega,rfl,by rw [←HR.out,HD.out,nameGo_let _ _ _ _ HL.out];rfl⟩
      case measure=>simp;omega
     ·have HL:=Lib.hid (Bool.eq_false_iff.2 hl)
      clear hl
      by_cases hd:yJ (s[pos]'hp).toNat=true
      ·have HG:=Lib.hid hd
       clear hd
       by_cases h0:pos=0
       ·subst h0
        go_wp2_with (first|(go_at_call 129;refine (qG _ false HL.out _).mono ?_;rintro e w' ⟨rfl,rfl⟩)|(go_at_call 130;refine (gA _ true HG.out _).mono ?_;rintro e w' ⟨rfl,rfl⟩))
        go_ret
        exact ⟨y0 (by unfold fY;rw [←HR.out,HD.out,nameGo_dig _ _ _ _ HL.out HG.out];simp),yB _ _ _⟩
       ·have hpi:((pos:Int)==0)=false:=by simp;omega
        go_wp2_with (first|(go_at_call 129;refine (qG _ false HL.out _).mono ?_;rintro e w' ⟨rfl,rfl⟩)|(go_at_call 130;refine (gA _ true HG.out _).mono ?_;rintro e w' ⟨rfl,rfl⟩))
        go_roundw
        case rel=>exact ⟨pos+1,_,rfl,by omega,rfl,by rw [←HR.out,HD.out,nameGo_dig _ _ _ _ HL.out HG.out];simp [h0,Hid]⟩
        case measure=>simp;omega
      ·have HG:=Lib.hid (Bool.eq_false_iff.2 hd)
       clear hd
       by_cases h3:((s[pos]'hp).toNat:Int)=45
       ·have H3:=Lib.hid h3
        have h3b:(((s[pos]'hp).toNat:Int)==45)=true:=by simp [h3]
        clear h3
        by_cases h4:l=45
        ·have h4b:(l==45)=true:=by simp [h4]
         have H4:=Lib.hid h4
         clear h4
         go_wp2_with (first|(go_at_call 129;refine (qG _ false HL.out _).mono ?_;rintro e w' ⟨rfl,rfl⟩)|(go_at_call 130;refine (gA _ false HG.out _).mono ?_;rintro e w' ⟨rfl,rfl⟩))
         go_ret
         exact ⟨y0 (by unfold fY;rw [←HR.out,HD.out,nameGo_dash _ _ _ _ HL.out HG.out H3.out,if_pos H4.out];simp),yB _ _ _⟩
        ·have h4b:(l==45)=false:=by simp [h4]
         go_wp2_with (first|(go_at_call 129;refine (qG _ false HL.out _).mono ?_;rintro e w' ⟨rfl,rfl⟩)|(go_at_call 130;refine (gA _ false HG.out _).mono ?_;rintro e w' ⟨rfl,rfl⟩))
         go_roundw
         case rel=>exact ⟨pos+1,_,rfl,by omega,rfl,by rw [←HR.out,HD.out,nameGo_dash _ _ _ _ HL.out HG.out H3.out,if_neg h4];rfl⟩
         case measure=>simp;omega
       ·have h3b:(((s[pos]'hp).toNat:Int)==45)=false:=by simpa using h3
        go_wp2_with (first|(go_at_call 129;refine (qG _ false HL.out _).mono ?_;rintro e w' ⟨rfl,rfl⟩)|(go_at_call 130;refine (gA _ false HG.out _).mono ?_;rintro e w' ⟨rfl,rfl⟩))
        go_ret
        exact ⟨y0 (by unfold fY;rw [←HR.out,HD.out,nameGo_else _ _ _ _ HL.out HG.out h3];simp),yB _ _ _⟩
    ·have hnx:∀ ty,(Instr.next (.pointer (some ⟨w.heap.size,0,none⟩)) true ty).run YP (w.iter s pos)=_:=λty=>run_next_any w s pos ty hp
     have hhi:=(decode_high s pos hp Om).1
     have HL:=Lib.hid (letB_hi _ hhi)
     have HG:=Lib.hid (digB_hi _ hhi)
     have h3b:(((Utf8.decode s pos).1:Int)==45)=false:=by simp;omega
     go_wp2_with (first|(go_at_call 129;refine (qG _ false HL.out _).mono ?_;rintro e w' ⟨rfl,rfl⟩)|(go_at_call 130;refine (gA _ false HG.out _).mono ?_;rintro e w' ⟨rfl,rfl⟩))
     go_ret
     exact ⟨y0 (by unfold fY;rw [←HR.out,HD.out,nameGo_hi _ _ _ _ Om];simp),yB _ _ _⟩
   ·have hnx:∀ ty,(Instr.next (.pointer (some ⟨w.heap.size,0,none⟩)) true ty).run YP (w.iter s pos)=_:=λty=>run_next_end w s pos ty hp
    have HD:=Lib.hid (jU s pos hp)
    go_wp2
    go_ret
    exact ⟨y0 (by unfold fY;rw [←HR.out,HD.out,gI];by_cases hq:l=45<;>simp [h16,hq]),yB _ _ _⟩
 ·go_enter Tryz.func69,Tryz.ntmps69
  go_wp2
  go_ret
  exact ⟨y0 (by unfold fY;simp [h16]),Below.refl _ _⟩
theorem word_any (s:ByteArray)(w:World)(hs:s.size<=maxLen):
  YC 173 #[.string s] w (YR (.bool (wordB s)) w):=by
 unfold maxLen at hs
 by_cases h0:s.size=0
 ·have H0:=Lib.hid h0
  have hz:((s.size:Int)==0)=true:=by simp [h0]
  clear h0
  go_enter Tryz.func173,Tryz.ntmps173
  go_wp2
  go_ret
  exact ⟨y0 (by unfold wordB;simp [H0.out]),Below.refl _ _⟩
 ·have hz:((s.size:Int)==0)=false:=wL Om
  by_cases h12:s.size<=12
  ·go_enter Tryz.func173,Tryz.ntmps173
   go_wp2
   go_loopw [] (λwr=>∃ (pos:Nat),wr=w.iter s pos/\pos<=s.size/\Hid (qA (s.data.toList.drop pos)=qA s.data.toList)) (λwr=>s.size-wr.iterPos w.heap.size)
   case atStart=>exact ⟨0,rfl,Nat.zero_le _,rfl⟩
   case round=>
    obtain ⟨pos,rfl,hple,HR⟩:=hrel
    by_cases hp:pos<s.size
    ·have HD:=Lib.hid (gV s pos hp)
     by_cases ha:(s[pos]'hp).toNat<128
     ·have hnx:∀ ty,(Instr.next (.pointer (some ⟨w.heap.size,0,none⟩)) true ty).run YP (w.iter s pos)=_:=λty=>run_next_ascii w s pos ty hp ha
      by_cases hl:qR (s[pos]'hp).toNat=true
      ·have HL:=Lib.hid hl
       clear hl
       go_wp2_with (go_at_call 129;refine (qG _ true HL.out _).mono ?_;rintro e w' ⟨rfl,rfl⟩)
       go_roundw
       case rel=>exact ⟨pos+1,rfl,by omega,by rw [←HR.out,HD.out,bV _ _ (by unfold wdB;rw [HL.out];rfl)];rfl⟩
       case measure=>simp;omega
      ·have HL:=Lib.hid (Bool.eq_false_iff.2 hl)
       clear hl
       by_cases hd:yJ (s[pos]'hp).toNat=true
       ·have HG:=Lib.hid hd
        clear hd
        go_wp2_with (first|(go_at_call 129;refine (qG _ false HL.out _).mono ?_;rintro e w' ⟨rfl,rfl⟩)|(go_at_call 130;refine (gA _ true HG.out _).mono ?_;rintro e w' ⟨rfl,rfl⟩))
        go_roundw
        case rel=>exact ⟨pos+1,rfl,by omega,by rw [←HR.out,HD.out,bV _ _ (by unfold wdB;rw [HL.out,HG.out];rfl)];rfl⟩
        case measure=>simp;omega
       ·have HG:=Lib.hid (Bool.eq_false_iff.2 hd)
        clear hd
        by_cases h3:((s[pos]'hp).toNat:Int)=95
        ·have H3:=Lib.hid h3
         have h3b:(((s[pos]'hp).toNat:Int) !=95)=false:=by simp [h3]
         clear h3
         go_wp2_with (first|(go_at_call 129;refine (qG _ false HL.out _).mono ?_;rintro e w' ⟨rfl,rfl⟩)|(go_at_call 130;refine (gA _ false HG.out _).mono ?_;rintro e w' ⟨rfl,rfl⟩))
         go_roundw
         case rel=>exact ⟨pos+1,rfl,by omega,by rw [←HR.out,HD.out,bV _ _ (by unfold wdB;rw [HL.out,HG.out,H3.out];rfl)];rfl⟩
         case measure=>simp;omega
        ·have h3b:(((s[pos]'hp).toNat:Int) !=95)=true:=by simpa using h3
         go_wp2_with (first|(go_at_call 129;refine (qG _ false HL.out _).mono ?_;rintro e w' ⟨rfl,rfl⟩)|(go_at_call 130;refine (gA _ false HG.out _).mono ?_;rintro e w' ⟨rfl,rfl⟩))
         go_ret
         exact ⟨y0 (by unfold wordB;rw [←HR.out,HD.out,wordGo_bad _ _ (by unfold wdB;rw [HL.out,HG.out];simpa using h3)];simp),yB _ _ _⟩
     ·have hnx:∀ ty,(Instr.next (.pointer (some ⟨w.heap.size,0,none⟩)) true ty).run YP (w.iter s pos)=_:=λty=>run_next_any w s pos ty hp
      have hhi:=(decode_high s pos hp Om).1
      have HL:=Lib.hid (letB_hi _ hhi)
      have HG:=Lib.hid (digB_hi _ hhi)
      have h3b:(((Utf8.decode s pos).1:Int) !=95)=true:=by simp;omega
      go_wp2_with (first|(go_at_call 129;refine (qG _ false HL.out _).mono ?_;rintro e w' ⟨rfl,rfl⟩)|(go_at_call 130;refine (gA _ false HG.out _).mono ?_;rintro e w' ⟨rfl,rfl⟩))
      go_ret
      exact ⟨y0 (by unfold wordB;rw [←HR.out,HD.out,wordGo_bad _ _ (by unfold wdB;rw [letB_hi8 _ Om,tR _ Om];simp;omega)];simp),yB _ _ _⟩
    ·have hnx:∀ ty,(Instr.next (.pointer (some ⟨w.heap.size,0,none⟩)) true ty).run YP (w.iter s pos)=_:=λty=>run_next_end w s pos ty hp
     have HD:=Lib.hid (jU s pos hp)
     go_wp2
     go_ret
     exact ⟨y0 (by unfold wordB;rw [←HR.out,HD.out,qA];simp;omega),yB _ _ _⟩
  ·go_enter Tryz.func173,Tryz.ntmps173
   go_wp2
   go_ret
   exact ⟨y0 (by unfold wordB;simp [h12]),Below.refl _ _⟩
end
section
theorem tP (r:Int)(b:Bool)(hb:qR r=b)(w:World):
  YC 133 #[.int .u8 r] w λe w'=>e= .returned (.bool b)/\w=w':=by
 subst hb
 unfold qR
 go_enter Tryz.func133,Tryz.ntmps133
 go_wp2
 all_goals go_ret
 all_goals exact ⟨y0 (by simp;try omega),rfl⟩
end
section
theorem nameB_short (s:ByteArray)(h:s.size<1):fY s=false:=by
 have:s.data.toList=[]:=by have:=jU s 0 Om;simpa using this
 unfold fY;rw [this];simp [gI]
theorem rname_any (s:ByteArray)(w:World)(hs:s.size<=maxLen):
  YC 73 #[.string s] w λe w'=>e= .returned (.bool (fY s))/\w=w':=by
 unfold maxLen at hs
 by_cases h0:s.size<1
 ·go_enter Tryz.func73,Tryz.ntmps73
  go_wp2
  go_ret
  exact ⟨y0 (by rw [nameB_short s h0]),rfl⟩
 ·have hp0:0<s.size:=by omega
  by_cases h16:s.size<=16
  ·have HB:=Lib.hid (nameB_ref s hp0 h16)
   by_cases hl:qR s[0].toNat=true
   ·have HL:=Lib.hid hl
    clear hl
    by_cases h45:(s[s.size-1].toNat:Int)=45
    ·have H45:=Lib.hid h45
     have h45b:((s[s.size-1].toNat:Int)==45)=true:=by simp [h45]
     clear h45
     go_enter Tryz.func73,Tryz.ntmps73
     go_wp2_with (go_at_call 133;refine (tP _ true HL.out _).mono ?_;rintro e w' ⟨rfl,rfl⟩)
     go_ret
     exact ⟨y0 (by rw [HB.out,HL.out,H45.out];rfl),rfl⟩
    ·have h45b:((s[s.size-1].toNat:Int)==45)=false:=by simpa using h45
     go_enter Tryz.func73,Tryz.ntmps73
     go_wp2_with (go_at_call 133;refine (tP _ true HL.out _).mono ?_;rintro e w' ⟨rfl,rfl⟩)
     go_loop [3] (λi=>∃ (k:Nat) (hk:k<s.size),i=YI (k+1:Nat)/\Hid (vN s[k].toNat (s.data.toList.drop (k+1))=vN s[0].toNat (s.data.toList.drop 1))) (λi=>s.size-(intOf i).toNat)
     case atStart=>exact ⟨0,hp0,rfl,rfl⟩
     case round=>
      obtain ⟨k,hk,rfl,HR⟩:=hrel
      by_cases hp:k+1<s.size
      ·have HD:=Lib.hid (gV s (k+1) hp)
       by_cases hl2:qR s[k+1].toNat=true
       ·have HL2:=Lib.hid hl2
        have hne:¬ (s[k+1].toNat:Int)=45:=by unfold qR at hl2;simp at hl2;omega
        have hcb:((s[k+1].toNat:Int)==45)=false:=by simpa using hne
        have HN:=Lib.hid hne
        clear hl2 hne
        go_wp2_with (go_at_call 133;refine (tP _ true HL2.out _).mono ?_;rintro e w' ⟨rfl,rfl⟩)
        go_round
        case rel=>exact ⟨k+1,hp,by go_num,by rw [←HR.out,HD.out,nameRef_ok _ _ _ (by rw [HL2.out];rfl) (by simp [HN.out])];rfl⟩
        case measure=>simp [intOf];omega
       ·have HL2:=Lib.hid (Bool.eq_false_iff.2 hl2)
        clear hl2
        by_cases hd2:yJ s[k+1].toNat=true
        ·have HG2:=Lib.hid hd2
         have hne:¬ (s[k+1].toNat:Int)=45:=by unfold yJ at hd2;simp at hd2;omega
         have hcb:((s[k+1].toNat:Int)==45)=false:=by simpa using hne
         have HN:=Lib.hid hne
         clear hd2 hne
         go_wp2_with (first|(go_at_call 133;refine (tP _ false HL2.out _).mono ?_;rintro e w' ⟨rfl,rfl⟩)|(go_at_call 134;refine (wZ _ true HG2.out _).mono ?_;rintro e w' ⟨rfl,rfl⟩))
         go_round
         case rel=>exact ⟨k+1,hp,by go_num,by rw [←HR.out,HD.out,nameRef_ok _ _ _ (by rw [HL2.out,HG2.out];rfl) (by simp [HN.out])];rfl⟩
         case measure=>simp [intOf];omega
        ·have HG2:=Lib.hid (Bool.eq_false_iff.2 hd2)
         clear hd2
         by_cases h3:(s[k+1].toNat:Int)=45
         ·have H3:=Lib.hid h3
          have hcb:((s[k+1].toNat:Int)==45)=true:=by simp [h3]
          have hcn:((s[k+1].toNat:Int) !=45)=false:=by simp [h3]
          clear h3
          by_cases h4:(s[k].toNat:Int)=45
          ·have H4:=Lib.hid h4
           have hpb:((s[k].toNat:Int)==45)=true:=by simp [h4]
           clear h4
           go_wp2_with (first|(go_at_call 133;refine (tP _ false HL2.out _).mono ?_;rintro e w' ⟨rfl,rfl⟩)|(go_at_call 134;refine (wZ _ false HG2.out _).mono ?_;rintro e w' ⟨rfl,rfl⟩))
           go_ret
           exact ⟨y0 (by rw [HB.out,←HR.out,HD.out,nameRef_two _ _ _ H3.out H4.out];simp),rfl⟩
          ·have hpb:((s[k].toNat:Int)==45)=false:=by simpa using h4
           go_wp2_with (first|(go_at_call 133;refine (tP _ false HL2.out _).mono ?_;rintro e w' ⟨rfl,rfl⟩)|(go_at_call 134;refine (wZ _ false HG2.out _).mono ?_;rintro e w' ⟨rfl,rfl⟩))
           go_round
           case rel=>exact ⟨k+1,hp,by go_num,by rw [←HR.out,HD.out,nameRef_ok _ _ _ (by rw [H3.out];simp) (by simp [h4])];rfl⟩
           case measure=>simp [intOf];omega
         ·have hcn:((s[k+1].toNat:Int) !=45)=true:=by simpa using h3
          go_wp2_with (first|(go_at_call 133;refine (tP _ false HL2.out _).mono ?_;rintro e w' ⟨rfl,rfl⟩)|(go_at_call 134;refine (wZ _ false HG2.out _).mono ?_;rintro e w' ⟨rfl,rfl⟩))
          go_ret
          exact ⟨y0 (by rw [HB.out,←HR.out,HD.out,nameRef_bad _ _ _ (by rw [HL2.out,HG2.out];simpa using h3)];simp),rfl⟩
      ·have HD:=Lib.hid (jU s (k+1) hp)
       go_wp2
       go_ret
       exact ⟨y0 (by rw [HB.out,←HR.out,HD.out,HL.out,vN];simp [h45]),rfl⟩
   ·have HL:=Lib.hid (Bool.eq_false_iff.2 hl)
    clear hl
    go_enter Tryz.func73,Tryz.ntmps73
    go_wp2_with (go_at_call 133;refine (tP _ false HL.out _).mono ?_;rintro e w' ⟨rfl,rfl⟩)
    go_ret
    exact ⟨y0 (by rw [HB.out,HL.out];rfl),rfl⟩
  ·go_enter Tryz.func73,Tryz.ntmps73
   go_wp2
   go_ret
   exact ⟨y0 (by unfold fY;simp [h16]),rfl⟩
end
section
set_option linter.unnecessarySimpa false
theorem fU (s:YL)(W:World)(hs:s.length<=1000000):YC 73 #[.string (mkS s)] W (YR (.bool (nmL s)) W):=
 (rname_any (mkS s) W (by rw [zW];unfold maxLen;omega)).mono λe w' ⟨h,e2⟩=>⟨h,e2▸Below.refl _ _⟩
theorem kind_w {s:YL}(h:wdL s=true):zM s=(1,s,[]):=by unfold zM;rw [if_pos h]
theorem kind_o {s:YL}{c:UInt8}(h:wdL s=false)(h0:s.head?=some c)(hc:(c.toNat:Int)=63)(h2:wdL (s.drop 1)=true):zM s=(2,s.drop 1,[]):=by
 have:c=63:=UInt8.toNat_inj.1 (by simp;omega)
 unfold zM
 rw [if_neg (by rw [h];simp),if_pos (by rw [h0,this,h2];rfl)]
theorem kind_two' {s a b:YL}(h:wdL s=false)(hno:¬ (s.head?=some 63/\wdL (s.drop 1)=true))(hl:zI 47 [] s=[a,b]):zM s=if nmL a && wdL b then (3,a,b) else (0,[],[]):=by
 unfold zM
 rw [if_neg (by rw [h];simp),if_neg (by rw [Bool.and_eq_true,decide_eq_true_eq];exact hno),hl]
theorem kind_not {s:YL}(h:wdL s=false)(hno:¬ (s.head?=some 63/\wdL (s.drop 1)=true))(hl:¬ (zI 47 [] s).length=2):zM s=(0,[],[]):=by
 unfold zM
 rw [if_neg (by rw [h];simp),if_neg (by rw [Bool.and_eq_true,decide_eq_true_eq];exact hno)]
 split
 ·rename_i a b e;rw [e] at hl;exact absurd rfl hl
 ·rfl
theorem two11_of {l:List YL}(h:l.length=2):∃ a b,l=[a,b]:=by
 match l,h with
 | [a,b],_=>exact ⟨a,b,rfl⟩
theorem r11Item_any (s:YL)(W:World)(hs:s.length<=1000000):YC 248 #[.string (mkS s)] W (YR (.tuple #[YI (zM s).1,.string (mkS (zM s).2.1),.string (mkS (zM s).2.2)]) W):=by
 have hK:=λ{z:Int} {a b:YL} (h:zM s=(z,a,b)) (w:World) (hb:YB W w)=>show Ending.returned (.tuple #[YI z,.string (mkS a),.string (mkS b)])= .returned (.tuple #[YI (zM s).1,.string (mkS (zM s).2.1),.string (mkS (zM s).2.2)])/\YB W w from ⟨by rw [h],hb⟩
 refine z8 Tryz.func248 (z6 (k:=245) (args:= #[.string (mkS s)]) (v:= .bool (wdL s)) [] (λw _=>jM s w hs) ?_)
 cases h1:wdL s with
 |true=>exact wC [] (.int .i64 1) (.string (mkS s)) (.string (mkS [])) λw hO=>hK (kind_w h1) w hO.below
 |false=>
  refine x_joinF (.s (.s (.s (.s (.s (.s (.s .z))))))) (α:=Bool) (λd=>[(0,.string (mkS s)),(21,.bool d)]) (λ_=>[]) (λd=>d=(decide (s.head?=some 63) && wdL (s.drop 1))) [] (λnj=> ?_) (λd g hd=> ?_)
  ·refine zA 11 [] ((0:Int)<(s.length:Int)) (λh2=> ?_) (λh2=>nj false [] (by rw [List.eq_nil_of_length_eq_zero (by omega:s.length=0)];rfl) Kr)
   have h0s:0<s.length:=by omega
   have hhd:s.head?=some s[0]:=by rw [List.head?_eq_getElem?,List.getElem?_eq_getElem h0s]
   exact bU 14 [] s 0 h0s s[0] rfl (zA 15 [] ((s[0].toNat:Int)=63) (λh3=>x_slo 19 [] s 1 Om Om (.string (mkS (s.drop 1))) rfl (z6 (k:=245) (args:= #[.string (mkS (s.drop 1))]) (v:= .bool (wdL (s.drop 1))) [] (λw _=>jM (s.drop 1) w (by rw [List.length_drop];omega)) (nj (wdL (s.drop 1)) [] (by rw [hhd,show s[0]=63 from UInt8.toNat_inj.1 (by simp;omega)];simp) Kr))) (λh3=>nj false [] (by rw [hhd,decide_eq_false (λq=>h3 (by rw [Option.some.inj q];rfl))];rfl) Kr))
  cases d with
  |true=>
   have hy:=hd.symm
   rw [Bool.and_eq_true,decide_eq_true_eq] at hy
   exact x_slo 23 [] s 1 Om (by cases s with|nil=>cases hy.1|cons a r=>simp;omega) (.string (mkS (s.drop 1))) rfl (wC [] (YI 2) (.string (mkS (s.drop 1))) (.string (mkS [])) λw hO=>hK (kind_o h1 hy.1 (by decide) hy.2) w hO.below)
  |false=>
   have hno:¬ (s.head?=some 63/\wdL (s.drop 1)=true):=λq=>by rw [q.1,q.2] at hd;cases hd
   refine yC (R:=λv' ob'=>SlT v' (zI 47 [] s) ob') [] (λw hO=>rsplitB_own s 47 w hs) ?_
   intro vw ow hsw
   obtain ⟨AW,cw,rfl⟩:=hsw.form
   refine zA 28 [] (((zI 47 [] s).length:Int)=2) (λh5=> ?_) (λh5=>wC [] (YI 0) (.string (mkS [])) (.string (mkS [])) λw hO=>hK (kind_not h1 hno Om) w hO.below)
   obtain ⟨x,y,hxy⟩:=two11_of (l:=(zI 47 [] s)) Om
   obtain ⟨gb,hgb,hcb⟩:=Sl.at0 hsw Om
   have hxl:x.length<=1000000:=Nat.le_trans (tG 47 s [] x (by rw [hxy];simp)) (by simpa using hs)
   have hyl:y.length<=1000000:=Nat.le_trans (tG 47 s [] y (by rw [hxy];simp)) (by simpa using hs)
   have hl0:∀ w,Own [] W w ow->(loadVar 9 ⟨gb,0+0*1,none⟩).run YP w= .ok (.string (mkS x)) w:=λw hO=>Reads.load zO (SlT.reads hsw rfl hO (λx hx=>hx)) hgb 0 0 (by rw [hxy];show 0<2;omega) rfl _ (by simp only [hxy];kernel_rfl)
   have hl1:∀ w,Own [] W w ow->(loadVar 9 ⟨gb,0+1*1,none⟩).run YP w= .ok (.string (mkS y)) w:=λw hO=>Reads.load zO (SlT.reads hsw rfl hO (λx hx=>hx)) hgb 1 0 (by rw [hxy];show 1<2;omega) rfl _ (by simp only [hxy];kernel_rfl)
   have hk:=kind_two' h1 hno hxy
   refine zH 31 [] hgb (zI 47 [] s).length cw 0 1 Om (zG 32 [] 9 gb (0+0*1) (.string (mkS x)) (λw hO=>hl0 w (hO.past 0 ow)) (z6 (k:=73) (args:= #[.string (mkS x)]) (v:= .bool (nmL x)) [] (λw _=>fU x w hxl) ?_))
   cases h6:nmL x with
   |false=>exact wC [] (.int .i64 0) (.string (mkS [])) (.string (mkS [])) λw hO=>hK (by rw [hk,if_neg (by simp [h6])]) w hO.below
   |true=>
    refine zH 37 [] hgb (zI 47 [] s).length cw 1 1 Om (zG 38 [] 9 gb (0+1*1) (.string (mkS y)) (λw hO=>hl1 w (hO.past 0 ow)) (z6 (k:=245) (args:= #[.string (mkS y)]) (v:= .bool (wdL y)) [] (λw _=>jM y w hyl) ?_))
    cases h7:wdL y with
    |false=>exact wC [] (.int .i64 0) (.string (mkS [])) (.string (mkS [])) λw hO=>hK (by rw [hk,if_neg (by simp [h7])]) w hO.below
    |true=>exact zH 42 [] hgb (zI 47 [] s).length cw 0 1 Om (zG 43 [] 9 gb (0+0*1) (.string (mkS x)) (λw hO=>hl0 w (hO.past 0 ow)) (zH 45 [] hgb (zI 47 [] s).length cw 1 1 Om (zG 46 [] 9 gb (0+1*1) (.string (mkS y)) (λw hO=>hl1 w (hO.past 0 ow)) (wC [] (.int .i64 3) (.string (mkS x)) (.string (mkS y)) λw hO=>hK (by rw [hk,if_pos (by rw [h6,h7];rfl)]) w hO.below))))
end
section
set_option linter.unnecessarySimpa false
theorem rise_iff:∀ {l:List YL},kE l=true↔∀ i (h:i+1<l.length),Op.bytesLess (l[i]'Om) l[i+1]=true
 | []=>⟨λ_ i h=>by simp at h,λ_=>rfl⟩
 | [a]=>⟨λ_ i h=>by simp at h,λ_=>rfl⟩
 |a::b::r=>by
  rw [kE,Bool.and_eq_true,rise_iff (l:=b::r)]
  constructor
  ·rintro ⟨h1,h2⟩ i h
   cases i with
   |zero=>exact h1
   |succ i=>exact h2 i (by simpa using h)
  ·intro h
   exact ⟨h 0 (by simp),λi hi=>h (i+1) (by simpa using hi)⟩
theorem yL {α:Type}{p:α->Prop}{l:List α}{i:Nat}(hi:i<l.length)(h:∀ x∈l.take i,p x)(hp:p l[i]):∀ y∈l.take (i+1),p y:=λy hy=>by
 rw [List.take_succ_eq_append_getElem hi] at hy
 rcases List.mem_append.1 hy with hy|hy
 ·exact h y hy
 ·rw [List.mem_singleton.1 hy];exact hp
theorem xM {α:Type}{p:α->Prop}{l:List α}{i:Nat}(hi:l.length<=i)(h:∀ x∈l.take i,p x):∀ y∈l,p y:=by rwa [List.take_of_length_le hi] at h
theorem d7 {l:List Ft}{of:List YL}(h:¬ of.length<=6\/kE of=false∨∃ s∈of,jO l s=false):kO l of=false:=by
 unfold kO
 rcases h with h|h|⟨s,hs,h⟩
 ·rw [decide_eq_false h];rfl
 ·rw [h];simp
 ·rw [show of.all (jO l)=false from by rw [List.all_eq_false];exact ⟨s,hs,by rw [h];simp⟩];simp
theorem items_yes {l:List Ft}{of:List YL}(h:of.length<=6)(h2:kE of=true)(h3:∀ s∈of,jO l s=true):kO l of=true:=by
 unfold kO
 rw [decide_eq_true h,h2,List.all_eq_true.2 h3];rfl
theorem nN {l:List Ft}(h:¬ l.length<=8\/(∃ f∈l,wdL f.name=false)\/kE (l.map Ft.name)=false∨∃ f∈l,kO l f.of=false):bH l=false:=by
 unfold bH
 rcases h with h|⟨f,hf,h⟩|h|⟨f,hf,h⟩
 ·rw [decide_eq_false h];rfl
 ·rw [show l.all (λf=>wdL f.name)=false from by rw [List.all_eq_false];exact ⟨f,hf,by rw [h];simp⟩];simp
 ·rw [h];simp
 ·rw [show l.all (λf=>kO l f.of)=false from by rw [List.all_eq_false];exact ⟨f,hf,by rw [h];simp⟩];simp
theorem may_yes {l:List Ft}(h:l.length<=8)(h2:∀ f∈l,wdL f.name=true)(h3:kE (l.map Ft.name)=true)(h4:∀ f∈l,kO l f.of=true):bH l=true:=by
 unfold bH
 rw [decide_eq_true h,List.all_eq_true.2 h2,h3,List.all_eq_true.2 h4];rfl
theorem ft_mem {xs:List Fv}{x:Fv}(h:x∈xs):x.ft∈yI xs:=List.mem_map.2 ⟨x,h,rfl⟩
theorem ft_rise {xs:List Fv}:kE ((yI xs).map Ft.name)=true↔∀ i (h:i+1<xs.length),Op.bytesLess (xs[i]'Om).name xs[i+1].name=true:=by
 rw [rise_iff]
 constructor
 ·intro h i hi
  have:=h i (by rw [List.length_map,wK];exact hi)
  simpa [yI,Fv.ft] using this
 ·intro h i hi
  rw [List.length_map,wK] at hi
  simpa [yI,Fv.ft] using h i hi
theorem r1Rising_any (A:Option Addr)(cap:Nat)(l:List YL)(W:World)(hv:Reads y7 W W.heap.size A l)(hn:l.length<=1000000):YC 287 #[.slice A l.length cap] W (YR (.bool (kE l)) W):=by
 refine z8 Tryz.func287 (zL (α:=Nat) (λi=>[(0,.slice A l.length cap),(3,YI ((i+1:Nat):Int))]) (λi=>[]) (λi m=>(i<=l.length∧∀ z (hz:z+1<l.length),z<i->Op.bytesLess (l[z]'Om) l[z+1]=true)/\m=l.length-i) (0) (l.length-0) [] ⟨⟨Nat.zero_le _,λz hz hzi=>absurd hzi (Nat.not_lt_zero _)⟩,rfl⟩ ?_)
 rintro i m g kk ⟨hrel,hmm⟩ nx hkk
 subst hkk
 have hj6:=hrel.1
 by_cases h1:((i+1:Nat):Int)<(l.length:Int)
 ·have hjl:i+1<l.length:=by omega
  obtain ⟨bp,off,hA,hlt,hcell⟩:=hv Om
  obtain ⟨x,hx⟩:∃ x,l[i]=x:=⟨_,rfl⟩
  obtain ⟨y,hy⟩:∃ y,l[i+1]=y:=⟨_,rfl⟩
  refine zA 7 [] (((i+1:Nat):Int)<(l.length:Int)) (λ_=> ?_) (λhq=>absurd (h1) hq)
  refine j6 12 [] (YI (IntKind.i64.wrap (((i+1:Nat):Int) -1))) (YI (i:Int)) (by rw [IntWalk.i64_in _ Om,show ((i+1:Nat):Int) -1=(i:Int) by omega]) (zH 13 [] hA l.length cap i 1 (by first|omega|(simp;omega)) (zG 14 [] 9 bp (off+i*1) (.string (mkS x)) (λw hO=>Reads.load zO (hv.on hO.below hO.size) hA i 0 Om Om _ (by rw [hx];kernel_rfl)) (zH 17 [] hA l.length cap (i+1) 1 (by first|omega|(simp;omega)) (zG 18 [] 9 bp (off+(i+1)*1) (.string (mkS y)) (λw hO=>Reads.load zO (hv.on hO.below hO.size) hA (i+1) 0 Om Om _ (by rw [hy];kernel_rfl)) ?_))))
  cases h2:Op.bytesLess x y with
  |true=>
   refine x_sge 19 [] x y (λ_=> ?_) (λhq=>absurd (hq.symm.trans h2) (by decide))
   exact x_i 9 [] (((i+1+1:Nat):Int)) (nx (i+1) (l.length-(i+1)) [] Om ⟨⟨by omega,λz hz hzi=>by rcases Nat.lt_succ_iff_lt_or_eq.1 hzi with q|rfl;exact hrel.2 z hz q;rw [hx,hy];exact h2⟩,rfl⟩ Kr Kr)
  |false=>
   exact x_sge 19 [] x y (λhq=>absurd (hq.symm.trans h2) (by decide)) (λ_=>z7 [] Z5 (λw hO=>⟨by rw [show kE l=false from by cases hq:kE l with|false=>rfl|true=>have q:=rise_iff.1 hq i hjl;rw [hx,hy,h2] at q;cases q],hO.below⟩))
 exact zA 7 [] (((i+1:Nat):Int)<(l.length:Int)) (λhq=>absurd hq (h1)) (λ_=>z7 [] Z4 (λw hO=>⟨by rw [show kE l=true from rise_iff.2 λz hz=>hrel.2 z hz Om],hO.below⟩))
theorem r11Find_any (A:Option Addr)(cap:Nat)(xs:List Fv)(n:YL)(W:World)(hv:FtIn W W.heap.size A xs):YC 327 #[.slice A xs.length cap,.string (mkS n)] W (YR (YI (bT (yI xs) n)) W):=by
 refine z8 Tryz.func327 (zL (α:=Nat) (λi=>[(0,.slice A xs.length cap),(1,.string (mkS n)),(5,YI (i:Int))]) (λi=>[]) (λi m=>(i<=xs.length∧∀ f∈yI (xs.take i),¬ f.name=n)/\m=xs.length-i) (0) (xs.length-0) [] ⟨⟨Nat.zero_le _,λf hf=>by simp [yI] at hf⟩,rfl⟩ ?_)
 rintro i m g kk ⟨hrel,hmm⟩ nx hkk
 subst hkk
 have hi6:=hrel.1;have hxn:=hv.n
 by_cases h1:(i:Int)<(xs.length:Int)
 ·have hil:i<xs.length:=by omega
  obtain ⟨bp,off,hA,hlt,hcell⟩:=hv.top Om
  obtain ⟨x,hx⟩:∃ x,xs[i]=x:=⟨_,rfl⟩
  refine zA 9 [] ((i:Int)<(xs.length:Int)) (λ_=> ?_) (λhq=>absurd (h1) hq)
  refine zH 14 [] hA xs.length cap i 2 (by first|omega|(simp;omega)) (zG 16 [] 9 bp (off+i*2+0) (.string (mkS x.name)) (λw hO=>Reads.load vP (hv.top.on hO.below hO.size) hA i 0 hil Om _ (by rw [hx];kernel_rfl)) ?_)
  by_cases h2:(x.name:YL)=n
  ·refine yS 18 [] x.name n (λ_=> ?_) (λhq=>absurd (h2) hq)
   exact z7 [] (YI (i:Int)) (λw hO=>⟨by rw [show bT (yI xs) n=(i:Int) from by unfold bT;rw [findI_at (i:=i) (by rw [wK];exact hil) (by rw [ftOf_get hil hx];exact h2) (by rw [←nU];exact hrel.2)]],hO.below⟩)
  exact yS 18 [] x.name n (λhq=>absurd hq (h2)) (λ_=>x_i 11 [] (((i+1:Nat):Int)) (nx (i+1) (xs.length-(i+1)) [] Om ⟨⟨by omega,by rw [nU];exact yL (by rw [wK];exact hil) (by rw [←nU];exact hrel.2) (by rw [ftOf_get hil hx];exact h2)⟩,rfl⟩ Kr Kr))
 exact zA 9 [] ((i:Int)<(xs.length:Int)) (λhq=>absurd hq (h1)) (λ_=>z7 [] (YI (-1)) (λw hO=>⟨by rw [show bT (yI xs) n= -1 from by unfold bT;rw [findI_none (xM (i:=i) (by rw [wK];omega) (by rw [←nU];exact hrel.2))]],hO.below⟩))
theorem r11Is_any (A:Option Addr)(cap:Nat)(xs:List Fv)(n:YL)(W:World)(hv:FtIn W W.heap.size A xs):YC 288 #[.slice A xs.length cap,.string (mkS n)] W (YR (.bool (isT (yI xs) n)) W):=by
 refine z8 Tryz.func288 ?_
 by_cases h1:(n:YL)=[100,101,102,97,117,108,116]
 ·refine yS 6 [] n ([100,101,102,97,117,108,116]) (λ_=> ?_) (λhq=>absurd (h1) hq)
  exact z7 [] Z4 (λw hO=>⟨by rw [nW];unfold dfl;simp [h1],hO.below⟩)
 refine yS 6 [] n ([100,101,102,97,117,108,116]) (λhq=>absurd hq (h1)) (λ_=>z6 (k:=327) (args:= #[.slice A xs.length cap,.string (mkS n)]) (v:=YI (bT (yI xs) n)) [] (λw hO=>r11Find_any A cap xs n w (hv.on hO.below hO.size)) ?_)
 by_cases h2:(0:Int)<=bT (yI xs) n
 ·refine zA 11 [] ((0:Int)<=bT (yI xs) n) (λ_=> ?_) (λhq=>absurd (h2) hq)
  exact z7 [] Z4 (λw hO=>⟨by rw [nW];unfold dfl;simp [h1,h2],hO.below⟩)
 exact zA 11 [] ((0:Int)<=bT (yI xs) n) (λhq=>absurd hq (h2)) (λ_=>z7 [] Z5 (λw hO=>⟨by rw [nW];unfold dfl;simp [h1,h2],hO.below⟩))
theorem r11items_any (A:Option Addr)(cap:Nat)(xs:List Fv)(B:Option Addr)(capb:Nat)(of:List YL)(W:World)(hv:FtIn W W.heap.size A xs)(hu:Reads y7 W W.heap.size B of)(hn:of.length<=5000)(ht:∀ s∈of,s.length<=1000000):YC 247 #[.slice A xs.length cap,.slice B of.length capb] W (YR (.bool (kO (yI xs) of)) W):=by
 refine z8 Tryz.func247 ?_
 by_cases h1:(6:Int)<(of.length:Int)
 ·refine zA 11 [] ((6:Int)<(of.length:Int)) (λ_=> ?_) (λhq=>absurd (h1) hq)
  exact z7 [] Z5 (λw hO=>⟨by rw [show kO (yI xs) of=false from d7 (.inl Om)],hO.below⟩)
 refine zA 11 [] ((6:Int)<(of.length:Int)) (λhq=>absurd hq (h1)) (λ_=>z6 (k:=287) (args:= #[.slice B of.length capb]) (v:= .bool (kE of)) [] (λw hO=>r1Rising_any B capb of w (hu.on hO.below hO.size) Om) ?_)
 cases h2:kE of with
 |true=>
  refine zL (α:=Nat) (λk=>[(0,.slice A xs.length cap),(1,.slice B of.length capb),(5,YI (k:Int))]) (λk=>[]) (λk m=>(k<=of.length∧∀ s∈of.take k,jO (yI xs) s=true)/\m=of.length-k) (0) (of.length-0) [] ⟨⟨Nat.zero_le _,λs hs=>by simp at hs⟩,rfl⟩ ?_
  rintro k m g kk ⟨hrel,hmm⟩ nx hkk
  subst hkk
  have hk6:=hrel.1
  by_cases h3:(k:Int)<(of.length:Int)
  ·have hkl:k<of.length:=by omega
   obtain ⟨bp,off,hB,hlt,hcell⟩:=hu Om
   obtain ⟨s,hs⟩:∃ s,of[k]=s:=⟨_,rfl⟩
   have hsm:s∈of:=hs▸List.getElem_mem hkl
   refine zA 20 [] ((k:Int)<(of.length:Int)) (λ_=> ?_) (λhq=>absurd (h3) hq)
   refine zH 26 [] hB of.length capb k 1 (by first|omega|(simp;omega)) (zG 27 [] 9 bp (off+k*1) (.string (mkS s)) (λw hO=>Reads.load zO (hu.on hO.below hO.size) hB k 0 hkl Om _ (by rw [hs];kernel_rfl)) (z6 (k:=248) (args:= #[.string (mkS s)]) (v:= .tuple #[YI ((zM s).1),.string (mkS (zM s).2.1),.string (mkS (zM s).2.2)]) [] (λw hO=>r11Item_any s w (ht s hsm)) ?_))
   by_cases h4:((zM s).1:Int)=0
   ·refine zA 33 [] (((zM s).1:Int)=0) (λ_=> ?_) (λhq=>absurd (h4) hq)
    exact z7 [] Z5 (λw hO=>⟨by rw [show kO (yI xs) of=false from d7 (.inr (.inr ⟨s,hsm,by unfold jO;simp [h4]⟩))],hO.below⟩)
   refine zA 33 [] (((zM s).1:Int)=0) (λhq=>absurd hq (h4)) (λ_=> ?_)
   by_cases h5:((zM s).1:Int)=1
   ·refine zA 36 [] (((zM s).1:Int)=1) (λ_=> ?_) (λhq=>absurd (h5) hq)
    refine z6 (k:=288) (args:= #[.slice A xs.length cap,.string (mkS (zM s).2.1)]) (v:= .bool (isT (yI xs) (zM s).2.1)) [] (λw hO=>r11Is_any A cap xs (zM s).2.1 w (hv.on hO.below hO.size)) ?_
    cases h6:isT (yI xs) (zM s).2.1 with
    |true=>
     exact x_i 22 [] (((k+1:Nat):Int)) (nx (k+1) (of.length-(k+1)) [] Om ⟨⟨by omega,yL hkl hrel.2 (by rw [hs];exact by unfold jO;simp [h4,h5,h6])⟩,rfl⟩ Kr Kr)
    |false=>
     exact z7 [] Z5 (λw hO=>⟨by rw [show kO (yI xs) of=false from d7 (.inr (.inr ⟨s,hsm,by unfold jO;simp [h4,h5,h6]⟩))],hO.below⟩)
   exact zA 36 [] (((zM s).1:Int)=1) (λhq=>absurd hq (h5)) (λ_=>x_i 22 [] (((k+1:Nat):Int)) (nx (k+1) (of.length-(k+1)) [] Om ⟨⟨by omega,yL hkl hrel.2 (by rw [hs];exact by unfold jO;simp [h4,h5])⟩,rfl⟩ Kr Kr))
  exact zA 20 [] ((k:Int)<(of.length:Int)) (λhq=>absurd hq (h3)) (λ_=>z7 [] Z4 (λw hO=>⟨by rw [show kO (yI xs) of=true from items_yes Om h2 (xM (i:=k) Om hrel.2)],hO.below⟩))
 |false=>
  exact z7 [] Z5 (λw hO=>⟨by rw [show kO (yI xs) of=false from d7 (.inr (.inl h2))],hO.below⟩)
end
section
theorem nZ {k:FuncId}{args:Array Value}{w:World}{v:Value}(h:Calls YP k args w λe w'=>e= .returned v/\w=w'):Calls YP k args w (YR v w):=h.mono λe w' ⟨q1,q2⟩=>⟨q1,q2▸Below.refl _ _⟩
theorem num_q (n:Int)(W:World):YC 180 #[YI n] W (YR (.bool (zU n)) W):=by
 unfold zU
 refine z8 Tryz.func180 (zA 4 [] (n>=0) (λh=>zA 7 [] (n<=9999) (λh2=> ?_) (λh2=> ?_)) (λh=> ?_))
 ·exact z7 [] Z4 λw hO=>⟨by rw [decide_eq_true ⟨h,h2⟩],hO.below⟩
 ·exact z7 [] Z5 λw hO=>⟨by rw [decide_eq_false λq=>h2 q.2],hO.below⟩
 ·exact z7 [] Z5 λw hO=>⟨by rw [decide_eq_false λq=>h q.1],hO.below⟩
theorem numer_q (t:YL)(W:World)(ht:t.length<=1000000):YC 242 #[.string (mkS t)] W (YR (.bool (kI t)) W):=by
 have hno:∀ c∈t,yJ c.toNat=false->kI t=false:=λc hc h=>by
  unfold kI yG
  rw [List.all_eq_false.2 ⟨c,hc,by rw [h];decide⟩,Bool.and_false]
 refine z8 Tryz.func242 (zL (α:=Nat) (λi=>[(0,.string (mkS t)),(3,YI (i:Int))]) (λ_=>[]) (λi m=>(i<=t.length∧∀ c∈t.take i,yJ c.toNat=true)/\m=t.length-i) 0 t.length [] ⟨⟨Nat.zero_le _,λc h=>by simp at h⟩,rfl⟩ ?_)
 rintro i mm g kk ⟨⟨hi,hd⟩,hmm⟩ nx hkk
 subst hkk
 refine zA 7 [] ((i:Int)<(t.length:Int)) (λh7=> ?_) (λh7=> ?_)
 rotate_left
 ·refine z7 [] (.bool (decide ((t.length:Int)>0))) λw hO=>⟨?_,hO.below⟩
  have ha:=xM (p:=λc:UInt8=>yJ c.toNat=true) (show t.length<=i by omega) hd
  unfold kI yG
  rw [List.all_eq_true.2 ha]
  cases t<;>simp
 have hj:i<t.length:=by omega
 have hst:=yL (p:=λc:UInt8=>yJ c.toNat=true) hj hd
 have hn:=hno _ (List.getElem_mem hj)
 obtain ⟨c,hc⟩:∃ c,t[i]=c:=⟨_,rfl⟩
 rw [hc] at hst hn
 refine bU 12 [] t i hj c hc (zA 13 [] ((c.toNat:Int)<48) (λh=> ?_) (λh=>bU 17 [] t i hj c hc (zA 18 [] ((c.toNat:Int)>57) (λh2=> ?_) (λh2=> ?_))))
 ·exact z7 [] Z5 λw hO=>⟨by rw [hn (by unfold yJ;simp;omega)],hO.below⟩
 ·exact z7 [] Z5 λw hO=>⟨by rw [hn (by unfold yJ;simp;omega)],hO.below⟩
 ·exact x_i 9 [] ((i+1:Nat):Int) (nx (i+1) (t.length-(i+1)) [] Om ⟨⟨hj,hst (by unfold yJ;simp;omega)⟩,rfl⟩ Kr Kr)
theorem tag_q (t:YL)(W:World):YC 240 #[.string (mkS t)] W (YR (.bool (gN t)) W):=by
 have hno:∀ c∈t,fR c=false->gN t=false:=λc hc h=>by
  unfold gN
  rw [List.all_eq_false.2 ⟨c,hc,by rw [h];decide⟩,Bool.and_false]
 refine z8 Tryz.func240 (zA 7 [] ((t.length:Int)<1) (λh=> ?_) (λh=>zA 11 [] ((t.length:Int)>8) (λh2=> ?_) (λh2=> ?_)))
 ·exact z7 [] Z5 λw hO=>⟨by unfold gN;rw [decide_eq_false Om];rfl,hO.below⟩
 ·exact z7 [] Z5 λw hO=>⟨by unfold gN;rw [decide_eq_false Om];rfl,hO.below⟩
 refine zL (α:=Nat) (λi=>[(0,.string (mkS t)),(3,YI (i:Int))]) (λ_=>[]) (λi m=>(i<=t.length∧∀ c∈t.take i,fR c=true)/\m=t.length-i) 0 t.length [] ⟨⟨Nat.zero_le _,λc h=>by simp at h⟩,rfl⟩ ?_
 rintro i mm g kk ⟨⟨hi,hd⟩,hmm⟩ nx hkk
 subst hkk
 refine zA 16 [] ((i:Int)<(t.length:Int)) (λh7=> ?_) (λh7=> ?_)
 rotate_left
 ·refine z7 [] Z4 λw hO=>⟨?_,hO.below⟩
  unfold gN
  rw [decide_eq_true Om,List.all_eq_true.2 (xM (p:=λc:UInt8=>fR c=true) (show t.length<=i by omega) hd)];rfl
 have hj:i<t.length:=by omega
 have hst:=yL (p:=λc:UInt8=>fR c=true) hj hd
 have hn:=hno _ (List.getElem_mem hj)
 obtain ⟨c,hc⟩:∃ c,t[i]=c:=⟨_,rfl⟩
 rw [hc] at hst hn
 have hC:fR c=(decide (97<=(c.toNat:Int)/\(c.toNat:Int)<=122)||decide (48<=(c.toNat:Int)/\(c.toNat:Int)<=57)||decide ((c.toNat:Int)=45)):=rfl
 rw [hC] at hst hn
 generalize (c.toNat:Int)=z at*
 have good:∀ m',m'=t.length-(i+1)->(decide (97<=z/\z<=122)||decide (48<=z/\z<=57)||decide (z=45))=true->(i+1<=t.length∧∀ c∈t.take (i+1),fR c=true)/\m'=t.length-(i+1):=λm' e q=>⟨⟨hj,hst q⟩,e⟩
 refine bU 21 [] t i hj c hc (zA 23 [] (z<97) (λh1=>zA 30 [] (z<48) (λh3=>kW 38 [] (z=45) (λh5=> ?_) (λh5=> ?_)) (λh3=>zA 33 [] (z>57) (λh4=>kW 38 [] (z=45) (λh5=>absurd h5 (by omega)) (λh5=> ?_)) (λh4=> ?_))) (λh1=>zA 26 [] (z>122) (λh2=>zA 30 [] (z<48) (λh3=>absurd h3 (by omega)) (λh3=>zA 33 [] (z>57) (λh4=>kW 38 [] (z=45) (λh5=>absurd h5 (by omega)) (λh5=> ?_)) (λh4=>absurd h4 (by omega)))) (λh2=> ?_)))
 ·exact x_i 18 [] ((i+1:Nat):Int) (nx (i+1) _ [] Om (good _ rfl (by simp;omega)) Kr Kr)
 ·exact z7 [] Z5 λw hO=>⟨by rw [hn (by simp;omega)],hO.below⟩
 ·exact z7 [] Z5 λw hO=>⟨by rw [hn (by simp;omega)],hO.below⟩
 ·exact x_i 18 [] ((i+1:Nat):Int) (nx (i+1) _ [] Om (good _ rfl (by simp;omega)) Kr Kr)
 ·exact z7 [] Z5 λw hO=>⟨by rw [hn (by simp;omega)],hO.below⟩
 ·exact x_i 18 [] ((i+1:Nat):Int) (nx (i+1) _ [] Om (good _ rfl (by simp;omega)) Kr Kr)
theorem slt_elem {A:Option Addr}{cap:Nat}{l:List YL}{ob:List Blk}(h:SlT (.slice A l.length cap) l ob){i:Nat}(hi:i<l.length):∃ g,A=some ⟨g,0,none⟩∧∀ {M:List Nat} {W:World} {L:List Blk} (w:World),Own M W w L->(∀ x∈ob,x∈L)->(loadVar 9 ⟨g,0+i*1+0,none⟩).run YP w= .ok (.string (mkS l[i])) w:=by
 obtain ⟨g,cur,rfl,_⟩:=Sl.block h Om
 refine ⟨g,rfl,λw hO hs=> ?_⟩
 obtain ⟨b,o,e,hel⟩:=(SlT.reads h rfl hO hs).elem zO i hi
 simp only [Option.some.injEq,Addr.mk.injEq,and_true] at e
 obtain ⟨rfl,rfl⟩:=e
 exact hel w (Below.refl _ _) _ 0 _ Kr
theorem rnum_q (t:YL)(W:World)(ht:t.length<=1000000):YC 241 #[.string (mkS t)] W (YR (.tuple #[YI (zJ t),.bool (g7 t)]) W):=nZ (pG t W (by unfold maxLen;omega))
theorem tags_q (s:YL)(b:Bool)(W:World)(hs:s.length<=1000000):YC 181 #[.string (mkS s),.bool b] W (YR (.bool (n8 s b)) W):=by
 have hT:s≠[]->n8 s b=(decide ((pcs s).length<=4) && (pcs s).all (tagF b)):=λh=>by
  rw [tagsB_eq];cases s with
  |nil=>exact absurd rfl h
  |cons x r=>rfl
 have hln:=mE s
 refine z8 Tryz.func181 (yS 10 [] s [] (λh=> ?_) (λh=> ?_))
 ·exact z7 [] Z4 λw hO=>⟨by rw [h];rfl,hO.below⟩
 have hT:=hT h
 rw [hT]
 refine yC (R:=λv ob=>SlT v (pcs s) ob) [] (λw hO=>(pF s w hs).mono λe w' ⟨v,ob,q1,q2,q3⟩=>⟨v,ob,q1,q2,q3⟩) ?_
 intro v ob hS
 obtain ⟨A,cap,rfl⟩:=SlT.form hS
 clear hT
 generalize pcs s=l at*
 refine zA 15 [] ((l.length:Int)>4) (λh4=> ?_) (λh4=> ?_)
 ·exact z7 [] Z5 λw hO=>⟨by rw [decide_eq_false Om];rfl,hO.below⟩
 rw [decide_eq_true (show l.length<=4 by omega),Bool.true_and]
 refine zK [] ([]++ob) (λw hO=>hO.past 0 _) (zL (α:=Nat) (λi=>[(1,.bool b),(5,.slice A l.length cap),(6,YI (i:Int))]) (λ_=>[]++ob) (λi m=>(i<=l.length∧∀ t∈l.take i,tagF b t=true)/\m=l.length-i) 0 l.length [] ⟨⟨Nat.zero_le _,λc h=>by simp at h⟩,rfl⟩ ?_)
 rintro i mm g kk ⟨⟨hi,hd⟩,hmm⟩ nx hkk
 subst hkk
 refine zA 19 [] ((i:Int)<(l.length:Int)) (λh7=> ?_) (λh7=> ?_)
 rotate_left
 ·exact z7 [] Z4 λw hO=>⟨by rw [List.all_eq_true.2 (xM (p:=λt=>tagF b t=true) (show l.length<=i by omega) hd)],hO.below⟩
 have hj:i<l.length:=by omega
 have hst:=yL (p:=λt=>tagF b t=true) hj hd
 have hn:tagF b l[i]=false->l.all (tagF b)=false:=λq=>all_cut i hj q
 have htl:l[i].length<=1000000:=by have:=hln _ (List.getElem_mem hj);omega
 obtain ⟨ga,rfl,hel⟩:=slt_elem hS hj
 have hF:tagF b l[i]=(gN l[i] && !(b && kI l[i] && !g7 l[i])):=rfl
 rw [hF] at hst hn
 generalize l[i]=t at*
 have ld:∀ w,Own [] W w ([]++ob)->(loadVar 9 ⟨ga,0+i*1+0,none⟩).run YP w= .ok (.string (mkS t)) w:=λw hO=>hel w hO (λx hx=>hx)
 refine zH 24 [] (b:=ga) (off:=0) rfl l.length cap i 1 hj (zG 25 [] 9 ga (0+i*1+0) (.string (mkS t)) (λw hO=>ld w (hO.past 0 _)) (z6 (v:= .bool (gN t)) [] (λw hO=>tag_q t w) (zX 26 (gN t) (λg1=> ?_) (λg1=> ?_))))
 rotate_left
 ·exact z7 [] Z5 λw hO=>⟨by rw [hn (by rw [g1];rfl)],hO.below⟩
 refine zH 31 [] (b:=ga) (off:=0) rfl l.length cap i 1 hj (zG 32 [] 9 ga (0+i*1+0) (.string (mkS t)) (λw hO=>ld w (hO.past 0 _)) (z6 (v:= .tuple #[YI (zJ t),.bool (g7 t)]) [] (λw hO=>rnum_q t w htl) (x_bb 37 [] b (λg2=> ?_) (λg2=> ?_))))
 rotate_left
 ·exact x_i 21 [] ((i+1:Nat):Int) (nx (i+1) (l.length-(i+1)) [] Om ⟨⟨hj,hst (by rw [g1,g2];rfl)⟩,rfl⟩ Kr Kr)
 refine zH 40 [] (b:=ga) (off:=0) rfl l.length cap i 1 hj (zG 41 [] 9 ga (0+i*1+0) (.string (mkS t)) (λw hO=>ld w (hO.past 0 _)) (z6 (v:= .bool (kI t)) [] (λw hO=>numer_q t w htl) (x_bb 43 [] (kI t) (λg3=>x_bb 46 [] (!g7 t) (λg4=> ?_) (λg4=> ?_)) (λg3=> ?_))))
 ·exact z7 [] Z5 λw hO=>⟨by rw [hn (by rw [g1,g2,g3,g4];rfl)],hO.below⟩
 ·exact x_i 21 [] ((i+1:Nat):Int) (nx (i+1) (l.length-(i+1)) [] Om ⟨⟨hj,hst (by rw [g1,g2,g3,g4];rfl)⟩,rfl⟩ Kr Kr)
 ·exact x_i 21 [] ((i+1:Nat):Int) (nx (i+1) (l.length-(i+1)) [] Om ⟨⟨hj,hst (by rw [g1,g2,g3];rfl)⟩,rfl⟩ Kr Kr)
theorem wY (v:Ver)(W:World)(hp:v.pre.length<=1000000)(hq:v.build.length<=1000000):YC 114 #[yN v] W (YR (.bool v.may) W):=by
 have hM:v.may=(zU v.maj && zU v.min && zU v.pat && n8 v.pre true && n8 v.build false):=by rw [tagsB_pre,tagsB_build];rfl
 rw [hM]
 have cP:=λw=>tags_q v.pre true w hp
 have cQ:=λw=>tags_q v.build false w hq
 have hno:∀ w,YB W w→∀ b,b=false->Ending.returned (.bool false)= .returned (.bool b)/\YB W w:=λw hb b e=>⟨by rw [e],hb⟩
 refine z8 Tryz.func114 (zQ [] λb1=>z6 (v:= .bool (zU v.maj)) [0] (λw hO=>num_q v.maj w) (zX 5 (zU v.maj) (λg1=>z6 (v:= .bool (zU v.min)) [0] (λw hO=>num_q v.min w) (zX 9 (zU v.min) (λg2=>z6 (v:= .bool (zU v.pat)) [0] (λw hO=>num_q v.pat w) (zX 14 (zU v.pat) (λg3=>z6 (v:= .bool (n8 v.pre true)) [0] (λw hO=>cP w) (zX 19 (n8 v.pre true) (λg4=>z6 (v:= .bool (n8 v.build false)) [0] (λw hO=>cQ w) (z7 [] (.bool (n8 v.build false)) λw hO=>⟨by rw [g1,g2,g3,g4];rfl,hO.below⟩)) (λg4=> ?_))) (λg3=> ?_))) (λg2=> ?_))) (λg1=> ?_)))
 ·exact z7 [] Z5 λw hO=>hno w hO.below _ (by rw [g4];simp)
 ·exact z7 [] Z5 λw hO=>hno w hO.below _ (by rw [g3];simp)
 ·exact z7 [] Z5 λw hO=>hno w hO.below _ (by rw [g2];simp)
 ·exact z7 [] Z5 λw hO=>hno w hO.below _ (by rw [g1];simp)
theorem rpres_q (a b:YL)(W:World)(ha:a.length<=1000000)(hb:b.length<=1000000):YC 143 #[.string (mkS a),.string (mkS b)] W (YR (YI (presR a b)) W):=by
 have hR:presR a b=if a=b then 0 else if a=[] then 1 else if b=[] then-1 else wG (pcs a) (pcs b):=rfl
 rw [hR]
 have hla:=mE a
 have hlb:=mE b
 have hna:=pcs_len a
 have hnb:=pcs_len b
 refine z8 Tryz.func143 (yS 12 [] a b (λh=>z7 [] (YI 0) λw hO=>⟨by rw [if_pos h],hO.below⟩) (λh=>yS 15 [] a [] (λh2=>z7 [] (YI 1) λw hO=>⟨by rw [if_neg h,if_pos h2],hO.below⟩) (λh2=>yS 18 [] b [] (λh3=>z7 [] (YI (-1)) λw hO=>⟨by rw [if_neg h,if_neg h2,if_pos h3],hO.below⟩) (λh3=> ?_))))
 rw [if_neg h,if_neg h2,if_neg h3]
 refine yC (R:=λv ob=>SlT v (pcs a) ob) [] (λw hO=>(pF a w ha).mono λe w' ⟨v,ob,q1,q2,q3⟩=>⟨v,ob,q1,q2,q3⟩) ?_
 intro v oa hSa
 obtain ⟨A,cap,rfl⟩:=SlT.form hSa
 refine yC (R:=λv ob=>SlT v (pcs b) ob) [] (λw hO=>(pF b w hb).mono λe w' ⟨v,ob,q1,q2,q3⟩=>⟨v,ob,q1,q2,q3⟩) ?_
 intro v ob hSb
 obtain ⟨B,capb,rfl⟩:=SlT.form hSb
 generalize pcs a=l at*
 generalize pcs b=m at*
 refine zK [] (([]++oa)++ob) (λw hO=>hO.past 0 _) (zL (α:=Nat) (λi=>[(5,.slice A l.length cap),(6,.slice B m.length capb),(7,YI (i:Int))]) (λ_=>([]++oa)++ob) (λi k=>(i<=l.length/\i<=m.length/\wG (l.drop i) (m.drop i)=wG l m)/\k=l.length-i) 0 l.length [] ⟨⟨Nat.zero_le _,Nat.zero_le _,rfl⟩,rfl⟩ ?_)
 rintro i mm g kk ⟨⟨hi,hi2,hp⟩,hmm⟩ nx hkk
 subst hkk
 have hint:=λw=>nZ (nH (l.length:Int) (m.length:Int) w)
 have hend:¬ (i<l.length/\i<m.length)->wG l m=Lib.compareInt l.length m.length:=λq=>by rw [←hp];exact presL_end l m i hi hi2 q
 refine zA 26 [] ((i:Int)<(l.length:Int)) (λh26=>zA 31 [] ((i:Int)<(m.length:Int)) (λh31=> ?_) (λh31=> ?_)) (λh26=> ?_)
 rotate_left
 ·exact z6 (v:=YI (Lib.compareInt (l.length:Int) (m.length:Int))) [] (λw hO=>hint w) (z7 [] (YI (Lib.compareInt (l.length:Int) (m.length:Int))) λw hO=>⟨by rw [hend Om],hO.below⟩)
 ·exact z6 (v:=YI (Lib.compareInt (l.length:Int) (m.length:Int))) [] (λw hO=>hint w) (z7 [] (YI (Lib.compareInt (l.length:Int) (m.length:Int))) λw hO=>⟨by rw [hend Om],hO.below⟩)
 have hj:i<l.length:=by omega
 have hj2:i<m.length:=by omega
 have hon:=presL_on l m i hj hj2
 have hoff:=presL_off l m i hj hj2
 have hs1:l[i].length<=1000000:=by have:=hla _ (List.getElem_mem hj);omega
 have hs2:m[i].length<=1000000:=by have:=hlb _ (List.getElem_mem hj2);omega
 obtain ⟨ga,rfl,hel⟩:=slt_elem hSa hj
 obtain ⟨gb,rfl,hel2⟩:=slt_elem hSb hj2
 rw [hp] at hon hoff
 generalize l[i]=u at*
 generalize m[i]=v at*
 have hone:=λw=>nZ (rone_any u v w hs1 hs2)
 generalize oneR u v=z at*
 have ld:∀ w,Own [] W w (([]++oa)++ob)->(loadVar 9 ⟨ga,0+i*1+0,none⟩).run YP w= .ok (.string (mkS u)) w:=λw hO=>hel w hO (λx hx=>List.mem_append_left _ hx)
 have ld2:∀ w,Own [] W w (([]++oa)++ob)->(loadVar 9 ⟨gb,0+i*1+0,none⟩).run YP w= .ok (.string (mkS v)) w:=λw hO=>hel2 w hO (λx hx=>List.mem_append_right _ hx)
 refine zH 37 [] (b:=ga) (off:=0) rfl l.length cap i 1 hj (zG 38 [] 9 ga (0+i*1+0) (.string (mkS u)) (λw hO=>ld w (hO.past 0 _)) (zH 41 [] (b:=gb) (off:=0) rfl m.length capb i 1 hj2 (zG 42 [] 9 gb (0+i*1+0) (.string (mkS v)) (λw hO=>ld2 w (hO.past 0 _)) (z6 (v:=YI z) [] (λw hO=>hone w) (kW 45 [] (z=0) (λhz=> ?_) (λhz=> ?_))))))
 ·exact x_i 34 [] ((i+1:Nat):Int) (nx (i+1) (l.length-(i+1)) [] Om ⟨⟨hj,hj2,(hon hz).symm⟩,rfl⟩ Kr Kr)
 ·exact z7 [] (YI z) λw hO=>⟨by rw [hoff hz],hO.below⟩
theorem rcompareQ_any (v u:Ver)(W:World)(h1:v.pre.length<=1000000)(h2:v.build.length<=1000000)(h3:u.pre.length<=1000000)(h4:u.build.length<=1000000):YC 78 #[yN v,yN u] W (YR (YI (vQ v u)) W):=by
 have cV:=λw=>wY v w h1 h2
 have cU:=λw=>wY u w h3 h4
 have cP:=λw=>rpres_q v.pre u.pre w h1 h3
 have c1:=λw=>nZ (nH v.maj u.maj w)
 have c2:=λw=>nZ (nH v.min u.min w)
 have c3:=λw=>nZ (nH v.pat u.pat w)
 rw [cmpR_split]
 generalize Lib.compareInt v.maj u.maj=x at*
 generalize Lib.compareInt v.min u.min=y at*
 generalize Lib.compareInt v.pat u.pat=z at*
 generalize presR v.pre u.pre=p at*
 refine z8 Tryz.func78 (zQ [] λb2=>zQ [] λb3=>z6 (v:= .bool v.may) [1] (λw hO=>cV w) (zX 9 v.may (λe1=>z6 (v:= .bool u.may) [0] (λw hO=>cU w) (zX 13 u.may (λe2=> ?_) (λe2=> ?_))) (λe1=> ?_)))
 rotate_left
 ·exact z7 [] (YI 0) λw hO=>⟨by rw [e1,e2];rfl,hO.below⟩
 ·exact z7 [] (YI 0) λw hO=>⟨by rw [e1];rfl,hO.below⟩
 rw [e1,e2,if_pos (by rfl)]
 refine z6 (v:=YI x) [1,0] (λw hO=>c1 w) (kW 22 [] (x=0) (λhx=>z6 (v:=YI y) [1,0] (λw hO=>c2 w) (kW 30 [] (y=0) (λhy=>z6 (v:=YI z) [1,0] (λw hO=>c3 w) (kW 38 [] (z=0) (λhz=> ?_) (λhz=> ?_))) (λhy=> ?_))) (λhx=> ?_))
 ·exact z6 (v:=YI p) [1,0] (λw hO=>cP w) (z7 [] (YI p) λw hO=>⟨by rw [if_neg (λq=>q hx),if_neg (λq=>q hy),if_neg (λq=>q hz)],hO.below⟩)
 ·exact z7 [] (YI z) λw hO=>⟨by rw [if_neg (λq=>q hx),if_neg (λq=>q hy),if_pos hz],hO.below⟩
 ·exact z7 [] (YI y) λw hO=>⟨by rw [if_neg (λq=>q hx),if_pos hy],hO.below⟩
 ·exact z7 [] (YI x) λw hO=>⟨by rw [if_pos hx],hO.below⟩
end
section
def bumpN (v:Ver)(k:Nat):Ver:=if k=0 then Ver.rel (v.maj+1) 0 0 else if k=1 then Ver.rel v.maj (v.min+1) 0 else Ver.rel v.maj v.min (v.pat+1)
def m6 (v:Ver)(part:Int):Bool:=v.may && decide (0<=part/\part<3) && !(bG v.maj v.min v.pat part.toNat==9999)
def bumpV (v:Ver)(part:Int):Ver:=if m6 v part then bumpN v part.toNat else Ver.zero
def BEnd (v:Ver)(part:Int)(w:World)(e:Ending)(w':World):Prop:=e= .returned (.tuple #[yN (bumpV v part),.bool (m6 v part)])/\YB w w'
def nextOk (v:Ver):Bool:=v.may && (!v.pre.isEmpty||m6 v 2||m6 v 1||m6 v 0)
def nextV (v:Ver):Ver:=
 if v.may then (if v.pre.isEmpty then (if m6 v 2 then bumpV v 2 else if m6 v 1 then bumpV v 1 else if m6 v 0 then bumpV v 0 else Ver.zero) else Ver.rel v.maj v.min v.pat) else Ver.zero
def NEnd (v:Ver)(w:World)(e:Ending)(w':World):Prop:=e= .returned (.tuple #[yN (nextV v),.bool (nextOk v)])/\YB w w'
def findB (v:Ver):Nat->Ver×Bool
 |0=>(Ver.zero,false)
 |k+1=>if m6 v k then (bumpV v k,true) else findB v k
end
section
theorem may_pre {v:Ver}(h:v.may=true):fV v.pre=true:=by
 unfold Ver.may at h;simp only [Bool.and_eq_true] at h;exact h.1.2
theorem core_may {v:Ver}(h:v.may=true):(q8 v).may=true:=by
 have e:jR []=true:=by decide
 unfold Ver.may at h ⊢;simp only [Bool.and_eq_true] at h ⊢
 exact ⟨⟨h.1.1,h.1.2⟩,e⟩
theorem pK {a:Ver}:vQ a a=0:=cmpR_core rfl
theorem order_core {a b:Ver}(ha:a.may=true)(hb:b.may=true):vQ (q8 a) b=vQ a b:=by
 rw [p6 (core_may ha) hb,p6 ha hb];rfl
def Ver.code (v:Ver):Int:=(v.maj*10000+v.min)*10000+v.pat
end
section
end
section
structure Co where
 op:Int
 parts:Int
 v:Ver
deriving DecidableEq
def y9 (op:Int):YL:=if op=1 then [61] else if op=2 then [33,61] else if op=3 then [60] else if op=4 then [60,61] else if op=5 then [62] else if op=6 then [62,61] else if op=7 then [94] else if op=8 then [126] else []
def Co.may (c:Co):Bool:=decide (1<=c.op/\c.op<=9) && c.v.may && decide (c.v.build=[]) && (if c.op=9 then decide (0<=c.parts/\c.parts<=2) else decide (1<=c.parts/\c.parts<=3)) && decide (3<=c.parts\/c.v.pre=[]) && decide (0<c.parts\/c.v.maj=0) && decide (1<c.parts\/c.v.min=0) && decide (2<c.parts\/c.v.pat=0)
theorem Co.facts {c:Co}(h:c.may=true):(1<=c.op/\c.op<=9)/\c.v.may=true/\c.v.build=[]/\(c.op=9->0<=c.parts/\c.parts<=2)/\(¬ c.op=9->1<=c.parts/\c.parts<=3)/\(3<=c.parts\/c.v.pre=[])/\(0<c.parts\/c.v.maj=0)/\(1<c.parts\/c.v.min=0)/\(2<c.parts\/c.v.pat=0):=by
 unfold Co.may at h
 simp only [Bool.and_eq_true,decide_eq_true_eq] at h
 obtain ⟨⟨⟨⟨⟨⟨⟨h1,h2⟩,h3⟩,h4⟩,h5⟩,h6⟩,h7⟩,h8⟩:=h
 refine ⟨h1,h2,h3,λe=> ?_,λe=> ?_,h5,h6,h7,h8⟩
 ·rw [if_pos e] at h4;exact of_decide_eq_true h4
 ·rw [if_neg e] at h4;exact of_decide_eq_true h4
theorem Co.may_iff {c:Co}:c.may=true↔(1<=c.op/\c.op<=9)/\c.v.may=true/\c.v.build=[]/\(c.op=9->0<=c.parts/\c.parts<=2)/\(¬ c.op=9->1<=c.parts/\c.parts<=3)/\(3<=c.parts\/c.v.pre=[])/\(0<c.parts\/c.v.maj=0)/\(1<c.parts\/c.v.min=0)/\(2<c.parts\/c.v.pat=0):=by
 refine ⟨Co.facts,λ⟨h1,h2,h3,k9,kn,h5,h6,h7,h8⟩=> ?_⟩
 unfold Co.may
 rw [decide_eq_true h1,h2,decide_eq_true h3,decide_eq_true h5,decide_eq_true h6,decide_eq_true h7,decide_eq_true h8]
 by_cases e:c.op=9
 ·rw [if_pos e,decide_eq_true (k9 e)];rfl
 ·rw [if_neg e,decide_eq_true (kn e)];rfl
def y8 (v:Ver)(n:Nat):List YL:=[Lib.itoa v.maj,Lib.itoa v.min,Lib.itoa v.pat].take n
def Co.rest (c:Co):YL:=if c.op=9 then zF 46 (y8 c.v c.parts.toNat++[[42]]) else zF 46 (y8 c.v c.parts.toNat)++kJ 45 c.v.pre
def Co.text (c:Co):YL:=y9 c.op++c.rest
def Co.print (c:Co):YL:=if c.may then c.text else []
def yO (s t:YL):Bool:=decide (s.take t.length=t)
def qB (s:YL):Int×YL:=
 if yO s [33,61] then (2,s.drop 2) else if yO s [60,61] then (4,s.drop 2) else if yO s [62,61] then (6,s.drop 2) else if yO s [61] then (1,s.drop 1)
 else if yO s [60] then (3,s.drop 1) else if yO s [62] then (5,s.drop 1) else if yO s [94] then (7,s.drop 1) else if yO s [126] then (8,s.drop 1)
 else if s.getLast?=some 42 then (9,s) else (7,s)
def qD (op:Int)(rest:YL):List YL:=if op=9 then (pcs (zD 45 rest).1).dropLast else pcs (zD 45 rest).1
def guessC (op:Int)(rest:YL):Option Co:=
 if (qD op rest).length<=3/\(qD op rest).all g7=true then
  some ⟨op,(qD op rest).length,⟨zJ (tg (qD op rest) 0),zJ (tg (qD op rest) 1),zJ (tg (qD op rest) 2),(zD 45 rest).2.1,[]⟩⟩
 else none
def fits (s:YL)(c:Co):Bool:= !decide (c.print=[]) && (decide (c.print=s)||decide (c.print=94::s))
def gP (s:YL):Option Co:=(guessC (qB s).1 (qB s).2).filter (fits s)
theorem print_may {c:Co}(h:¬ c.print=[]):c.may=true:=by
 cases hm:c.may with
 |true=>rfl
 |false=>exact absurd (show c.print=[] by unfold Co.print;rw [hm];rfl) h
theorem v8 {c:Co}(h:c.may=true):c.print=c.text:=by unfold Co.print;rw [h];rfl
theorem parseC_back {s:YL}{c:Co}(h:gP s=some c):c.may=true/\(c.text=s\/c.text=94::s):=by
 unfold gP at h
 obtain ⟨_,h⟩:=Option.filter_eq_some_iff.1 h
 unfold fits at h
 simp only [Bool.and_eq_true,Bool.not_eq_true',decide_eq_false_iff_not,Bool.or_eq_true,decide_eq_true_eq] at h
 have hm:=print_may h.1
 rw [v8 hm] at h
 exact ⟨hm,h.2⟩
theorem pcs_cons {x y:YL}(h:(46:UInt8)∉x):pcs (x++46::y)=x::pcs y:=by
 unfold pcs
 rw [vH,cutAt_hit 46 _ _ h]
 simp
theorem pcs_one {x:YL}(h:(46:UInt8)∉x):pcs x=[x]:=by
 unfold pcs
 rw [vH,wV 46 _ h]
 simp
theorem pcs_join:∀ (l:List YL),l≠[]->(∀ x∈l,(46:UInt8)∉x)->pcs (zF 46 l)=l
 | [],h,_=>absurd rfl h
 | [x],_,h=>pcs_one (h x (List.mem_singleton.2 rfl))
 |x::y::r,_,h=>by
  rw [zF,pcs_cons (h x (List.mem_cons_self ..)),pcs_join (y::r) (by simp) λz hz=>h z (List.mem_cons_of_mem _ hz)]
theorem nums_mem {v:Ver}(hv:v.may=true){n:Nat}{x:YL}(h:x∈y8 v n):∃ k:Int,zU k=true/\x=Lib.itoa k:=by
 obtain ⟨h1,h2,h3⟩:=jQ hv
 unfold y8 at h
 have h:=List.mem_of_mem_take h
 simp only [List.mem_cons,List.not_mem_nil,or_false] at h
 rcases h with rfl|rfl|rfl
 ·exact ⟨_,h1,rfl⟩
 ·exact ⟨_,h2,rfl⟩
 ·exact ⟨_,h3,rfl⟩
theorem bD {v:Ver}(hv:v.may=true){n:Nat}(b:UInt8)(hb:yJ b.toNat=false):∀ x∈y8 v n,b∉x:=λx hx=>by
 obtain ⟨k,hk,rfl⟩:=nums_mem hv hx
 exact dig_free hk b hb
theorem fM (b:UInt8)(hb:b≠46):∀ (l:List YL),(∀ x∈l,b∉x)->b∉zF 46 l
 | [],_=>by simp [zF]
 | [x],h=>h x (List.mem_singleton.2 rfl)
 |x::y::r,h=>by
  rw [zF]
  simp only [List.mem_append,List.mem_cons,not_or]
  exact ⟨h x (List.mem_cons_self ..),hb,fM b hb (y::r) λz hz=>h z (List.mem_cons_of_mem _ hz)⟩
theorem w7 (v:Ver){n:Nat}(h:n<=3):(y8 v n).length=n:=by
 unfold y8
 rw [List.length_take]
 simp;omega
theorem nums_num {v:Ver}(hv:v.may=true)(n:Nat):(y8 v n).all g7=true:=List.all_eq_true.2 λx hx=>by
 obtain ⟨k,hk,rfl⟩:=nums_mem hv hx
 exact numI_itoa hk
theorem nums_back {v:Ver}(hv:v.may=true){n:Nat}(h:n<=3)(h0:0<n\/v.maj=0)(h1:1<n\/v.min=0)(h2:2<n\/v.pat=0):zJ (tg (y8 v n) 0)=v.maj/\zJ (tg (y8 v n) 1)=v.min/\zJ (tg (y8 v n) 2)=v.pat:=by
 obtain ⟨m1,m2,m3⟩:=jQ hv
 have e1:=nM m1
 have e2:=nM m2
 have e3:=nM m3
 match n,h with
 |0,_=>exact ⟨(h0.resolve_left (by decide)).symm,(h1.resolve_left (by decide)).symm,(h2.resolve_left (by decide)).symm⟩
 |1,_=>exact ⟨e1,(h1.resolve_left (by decide)).symm,(h2.resolve_left (by decide)).symm⟩
 |2,_=>exact ⟨e1,e2,(h2.resolve_left (by decide)).symm⟩
 |3,_=>exact ⟨e1,e2,e3⟩
theorem guess_rest {c:Co}(h:c.may=true):guessC c.op c.rest=some c:=by
 obtain ⟨_,hv,hb,h9,hn,hp,k0,k1,k2⟩:=Co.facts h
 obtain ⟨op,parts,v⟩:=c
 simp only at hv hb h9 hn hp k0 k1 k2 ⊢
 have hparts:(parts.toNat:Int)=parts/\parts.toNat<=3:=by
  by_cases e:op=9
  ·have:=h9 e;omega
  ·have:=hn e;omega
 have key:qD op (Co.rest ⟨op,parts,v⟩)=y8 v parts.toNat/\(zD 45 (Co.rest ⟨op,parts,v⟩)).2.1=v.pre:=by
  unfold qD Co.rest
  by_cases e:op=9
  ·rw [if_pos e]
   dsimp only
   rw [if_pos e]
   have f:∀ b:UInt8,yJ b.toNat=false->b≠42→∀ x∈y8 v parts.toNat++[[42]],b∉x:=λb hb hb2 x hx=>by
    rcases List.mem_append.1 hx with hx|hx
    ·exact bD hv b hb x hx
    ·rw [List.mem_singleton.1 hx]
     intro hm
     exact hb2 (List.mem_singleton.1 hm)
   rw [wV 45 _ (fM 45 (by decide) _ (f 45 (by decide) (by decide)))]
   have hpre:v.pre=[]:=hp.resolve_left (by have:=h9 e;omega)
   exact ⟨by
    show (pcs (zF 46 (y8 v parts.toNat++[[42]]))).dropLast=_
    rw [pcs_join _ (by simp) (f 46 (by decide) (by decide)),List.dropLast_concat],hpre.symm⟩
  ·rw [if_neg e]
   dsimp only
   rw [if_neg e]
   have hne:y8 v parts.toNat≠[]:=λh0=>by
    have:=w7 v hparts.2
    rw [h0] at this
    have:=hn e
    simp at*;omega
   rw [cut_tail 45 _ _ (fM 45 (by decide) _ (bD hv 45 (by decide)))]
   exact ⟨pcs_join _ hne (bD hv 46 (by decide)),rfl⟩
 unfold guessC
 rw [key.1,key.2,if_pos ⟨by rw [w7 v hparts.2];exact hparts.2,nums_num hv _⟩]
 obtain ⟨e1,e2,e3⟩:=nums_back hv hparts.2 Om Om Om
 rw [e1,e2,e3,w7 v hparts.2,hparts.1]
 obtain ⟨a,b,p,q,r⟩:=v
 simp only at hb
 rw [hb]
theorem itoa_head {k:Int}(h:zU k=true):∃ d r,Lib.itoa k=d::r/\yJ d.toNat=true:=by
 have hm:=num_itoa h
 cases e:Lib.itoa k with
 |nil=>rw [e] at hm;cases hm
 |cons d r=>exact ⟨d,r,rfl,by
   have:=dig_mem k.toNat d (by rw [←itoa_nat h,e];exact List.mem_cons_self)
   exact this⟩
theorem join_head {x:YL}{l:List YL}{d:UInt8}{r:YL}(h:x=d::r):∃ r',zF 46 (x::l)=d::r':=by
 subst h
 cases l with
 |nil=>exact ⟨r,rfl⟩
 |cons y t=>exact ⟨_,rfl⟩
theorem nI {c:Co}(h:c.may=true)(hn:¬ c.op=9):∃ d r,c.rest=d::r/\yJ d.toNat=true:=by
 obtain ⟨_,hv,_,_,h9,_⟩:=Co.facts h
 obtain ⟨d,r,e,hd⟩:=itoa_head (jQ hv).1
 obtain ⟨n,en⟩:∃ n,c.parts.toNat=n+1:=⟨c.parts.toNat-1,by have:=h9 hn;omega⟩
 obtain ⟨r',e'⟩:=join_head (l:=[Lib.itoa c.v.min,Lib.itoa c.v.pat].take n) e
 refine ⟨d,r'++kJ 45 c.v.pre, ?_,hd⟩
 unfold Co.rest y8
 rw [if_neg hn,en,List.take_succ_cons,e'];rfl
theorem star_head {c:Co}(h:c.may=true)(hn:c.op=9):∃ d r,c.rest=d::r/\(yJ d.toNat=true\/d=42):=by
 obtain ⟨_,hv,_,h9,_⟩:=Co.facts h
 obtain ⟨d,r,e,hd⟩:=itoa_head (jQ hv).1
 unfold Co.rest y8
 rw [if_pos hn]
 cases hp:c.parts.toNat with
 |zero=>exact ⟨42,[],rfl,.inr rfl⟩
 |succ n=>
  obtain ⟨r',e'⟩:=join_head (l:=[Lib.itoa c.v.min,Lib.itoa c.v.pat].take n++[[42]]) e
  exact ⟨d,r',by rw [List.take_succ_cons,List.cons_append,e'],.inl hd⟩
theorem vM {d:UInt8}{r:YL}{a:UInt8}{t:YL}(h:d≠a):yO (d::r) (a::t)=false:=decide_eq_false λe=>by
 rw [List.length_cons,List.take_succ_cons] at e
 injection e with e1 _
 exact h e1
theorem split_plain {d:UInt8}{r:YL}(h:yJ d.toNat=true\/d=42):qB (d::r)=if (d::r).getLast?=some 42 then (9,d::r) else (7,d::r):=by
 have hd:∀ a:UInt8,yJ a.toNat=false->a≠42->d≠a:=λa ha h42 e=>by
  subst e
  rcases h with h|h
  ·rw [ha] at h;cases h
  ·exact h42 h
 unfold qB
 rw [vM (hd 33 (by decide) (by decide)),vM (hd 60 (by decide) (by decide)),vM (hd 62 (by decide) (by decide)),vM (hd 61 (by decide) (by decide)),vM (hd 60 (by decide) (by decide)),vM (hd 62 (by decide) (by decide)),vM (hd 94 (by decide) (by decide)),vM (hd 126 (by decide) (by decide))]
 rfl
theorem split_sign {op:Int}(h1:1<=op)(h8:op<=8){d:UInt8}{r:YL}(hd:yJ d.toNat=true):qB (y9 op++d::r)=(op,d::r):=by
 have h61:d≠61:=λe=>by subst e;revert hd;decide
 have hop:op=1\/op=2\/op=3\/op=4\/op=5\/op=6\/op=7\/op=8:=by omega
 rcases hop with rfl|rfl|rfl|rfl|rfl|rfl|rfl|rfl<;>simp [y9,qB,yO,h61]
theorem last_join (x:YL):∀ (l:List YL),(zF 46 (l++[x++[42]])).getLast?=some 42
 | []=>by simp [zF]
 | [y]=>by
  show (y++46::(x++[42])).getLast?=some 42
  rw [show y++46::(x++[42])=(y++46::x)++[42] from by simp,List.getLast?_concat]
 |y::z::r=>by
  have:=last_join x (z::r)
  show (y++46::zF 46 (z::r++[x++[42]])).getLast?=some 42
  rw [List.getLast?_append]
  cases hj:zF 46 (z::r++[x++[42]]) with
  |nil=>rw [hj] at this;cases this
  |cons a b=>rw [hj] at this;rw [List.getLast?_cons_cons,this];rfl
theorem star_free (s:YL)(h:jR s=true):(42:UInt8)∉s:=by
 intro hm
 unfold jR at h
 rcases splitL_mem 46 s [] 42 hm with e|⟨x,hx,hc⟩
 ·revert e;decide
 ·have hne:s.isEmpty=false:=by cases s with
   |nil=>cases hm
   |cons _ _=>rfl
  rw [hne,Bool.false_or,Bool.and_eq_true] at h
  have:=List.all_eq_true.1 h.2 x hx
  unfold gN at this
  rw [Bool.and_eq_true] at this
  have:=List.all_eq_true.1 this.2 _ hc
  revert this;decide
theorem rest_star {c:Co}(h:c.may=true)(hn:¬ c.op=9):(42:UInt8)∉c.rest:=by
 obtain ⟨_,hv,_⟩:=Co.facts h
 have hl:jR c.v.pre=true:=by
  have:=may_pre hv
  unfold fV at this
  exact (Bool.and_eq_true_iff.1 this).1
 unfold Co.rest
 rw [if_neg hn]
 intro hm
 rcases List.mem_append.1 hm with hm|hm
 ·exact fM 42 (by decide) _ (bD hv 42 (by decide)) hm
 ·unfold kJ at hm
  split at hm
  ·cases hm
  ·rcases List.mem_cons.1 hm with e|hm
   ·revert e;decide
   ·exact star_free _ hl hm
theorem split_text {c:Co}(h:c.may=true):qB c.text=(c.op,c.rest):=by
 obtain ⟨ho,_⟩:=Co.facts h
 unfold Co.text
 by_cases hn:c.op=9
 ·obtain ⟨d,r,e,hd⟩:=star_head h hn
  have hl:c.rest.getLast?=some 42:=by unfold Co.rest;rw [if_pos hn];exact last_join [] _
  rw [hn,show y9 9=[] from rfl,List.nil_append]
  rw [e] at hl ⊢
  rw [split_plain hd,if_pos hl]
 ·obtain ⟨d,r,e,hd⟩:=nI h hn
  rw [e]
  exact split_sign ho.1 Om hd
theorem parseC_text {c:Co}(h:c.may=true):gP c.text=some c:=by
 unfold gP
 rw [split_text h,guess_rest h]
 refine Option.filter_eq_some_iff.2 ⟨rfl, ?_⟩
 have hne:¬ c.text=[]:=λe=>by
  unfold Co.text at e
  have e2:=(List.append_eq_nil_iff.1 e).2
  by_cases hn:c.op=9
  ·obtain ⟨d,r,e3,_⟩:=star_head h hn;rw [e3] at e2;cases e2
  ·obtain ⟨d,r,e3,_⟩:=nI h hn;rw [e3] at e2;cases e2
 unfold fits
 rw [v8 h,decide_eq_false hne,decide_eq_true rfl];rfl
theorem parseC_caret {c:Co}{s:YL}(h:c.may=true)(hs:c.text=94::s):gP s=some c:=by
 obtain ⟨ho,_⟩:=Co.facts h
 have hop:c.op=7/\c.rest=s:=by
  unfold Co.text at hs
  by_cases hn:c.op=9
  ·obtain ⟨d,r,e,hd⟩:=star_head h hn
   rw [hn,show y9 9=[] from rfl,List.nil_append,e] at hs
   injection hs with e1 _
   rw [e1] at hd
   exact absurd hd (by decide)
  ·have hop:c.op=1\/c.op=2\/c.op=3\/c.op=4\/c.op=5\/c.op=6\/c.op=7\/c.op=8:=by omega
   rcases hop with e|e|e|e|e|e|e|e<;>rw [e] at hs<;>simp [y9] at hs
   exact ⟨e,hs⟩
 obtain ⟨d,r,e,hd⟩:=nI h Om
 have h42:¬ s.getLast?=some 42:=λhl=>by
  have:=List.mem_of_getLast? hl
  rw [←hop.2] at this
  exact rest_star h Om this
 unfold gP
 have hsp:qB s=(7,s):=by
  rw [←hop.2,e,split_plain (.inl hd),if_neg (by rw [←e,hop.2];exact h42)]
 rw [hsp]
 have hg:=guess_rest h
 rw [hop.1,hop.2] at hg
 rw [hg]
 refine Option.filter_eq_some_iff.2 ⟨rfl, ?_⟩
 unfold fits
 rw [v8 h,hs,decide_eq_false (by simp),decide_eq_true rfl,Bool.or_true];rfl
theorem pI (s:YL)(c:Co):gP s=some c↔c.may=true/\(c.text=s\/c.text=94::s):=
 ⟨parseC_back,λ⟨hm,h⟩=>h.elim (λe=>e▸parseC_text hm) (λe=>parseC_caret hm e)⟩
end
section
def numT (k:Nat):Int:=(([0,1,2,3,0,1,10,9999]:List Int)[k]?).getD 0
def preT14 (k:Nat):YL:=(([[],[],[],[],[48],[49],[50],[49,49],[97],[97,46,49],[97,46,98],[98],[48,46,48],[114,99,46,49]]:List YL)[k]?).getD []
def bldT (k:Nat):YL:=(([[],[],[],[],[48,48,55],[120,46,49]]:List YL)[k]?).getD []
def genV (l:List Int)(i:Nat):Ver:=⟨numT (plc (atL l i) 8).toNat,numT (plc (atL l (i+1)) 8).toNat,numT (plc (atL l (i+2)) 8).toNat,preT14 (plc (atL l (i+3)) 14).toNat,bldT (plc (atL l (i+4)) 6).toNat⟩
def GEnd (u:Ver)(w:World)(e:Ending)(w':World):Prop:=e= .returned (yN u)/\YB w w'
end
section
end
section
structure Cu where
 e:Int
 v:Ver
 aft:Bool
deriving DecidableEq
def Cu.may (c:Cu):Bool:=if c.e=0 then c.v.may && c.v.build.isEmpty else decide (c.e= -1\/c.e=1) && decide (c.v=Ver.zero) && !c.aft
def b01 (b:Bool):Int:=if b then 1 else 0
def lex (x y:Int):Int:=if x=0 then y else x
def jE (a b:Cu):Int:=if a.may && b.may then lex (Lib.compareInt a.e b.e) (lex (vQ a.v b.v) (Lib.compareInt (b01 a.aft) (b01 b.aft))) else 0
theorem zero_may:Ver.zero.may=true:=by decide
theorem may_v {c:Cu}(h:c.may=true):c.v.may=true:=by
 unfold Cu.may at h
 split at h
 ·rw [Bool.and_eq_true] at h;exact h.1
 ·simp only [Bool.and_eq_true,decide_eq_true_eq] at h;rw [h.1.2];exact zero_may
theorem may_e {c:Cu}(h:c.may=true):(c.e=0/\c.v.build=[])\/((c.e= -1\/c.e=1)/\c.v=Ver.zero/\c.aft=false):=by
 unfold Cu.may at h
 split at h
 ·rename_i h0;rw [Bool.and_eq_true] at h;exact .inl ⟨h0,List.isEmpty_iff.1 h.2⟩
 ·simp only [Bool.and_eq_true,decide_eq_true_eq,Bool.not_eq_true'] at h;exact .inr ⟨h.1.1,h.1.2,h.2⟩
theorem cmpR_range {v w:Ver}:vQ v w= -1\/vQ v w=0\/vQ v w=1:=by
 by_cases hv:v.may=true
 ·by_cases hw:w.may=true
  ·rw [p6 hv hw];exact cmpL_range _ _
  ·exact .inr (.inl (cmpR_bad (.inr (by simpa using hw))))
 ·exact .inr (.inl (cmpR_bad (.inl (by simpa using hv))))
theorem ci_range (x y:Int):Lib.compareInt x y= -1\/Lib.compareInt x y=0\/Lib.compareInt x y=1:=by
 unfold Lib.compareInt
 by_cases h:x<y
 ·rw [if_pos h];simp
 ·rw [if_neg h]
  by_cases h2:y<x
  ·rw [if_pos h2];simp
  ·rw [if_neg h2];simp
theorem cmpC_good {a b:Cu}(ha:a.may=true)(hb:b.may=true):jE a b=lex (Lib.compareInt a.e b.e) (lex (vQ a.v b.v) (Lib.compareInt (b01 a.aft) (b01 b.aft))):=by
 unfold jE;rw [ha,hb];rfl
theorem cmpC_range (a b:Cu):jE a b= -1\/jE a b=0\/jE a b=1:=by
 unfold jE lex
 have h1:=ci_range a.e b.e
 have h2:=cmpR_range (v:=a.v) (w:=b.v)
 have h3:=ci_range (b01 a.aft) (b01 b.aft)
 split
 ·split
  ·split
   ·exact h3
   ·exact h2
  ·exact h1
 ·simp
structure Ord3 {α:Type}(c:α->α->Int):Prop where
 anti:∀ x y,c y x= -c x y
 on:∀ x y z,c x y<=0->c y z<=0->c x z<=0/\(c x z=0->c x y=0/\c y z=0)
 same:∀ x y z,c x y=0->c y z=0->c x z=0
theorem lex_ord {α:Type}{c d:α->α->Int}(hc:Ord3 c)(hd:Ord3 d):Ord3 (λx y=>lex (c x y) (d x y)):=by
 refine ⟨λx y=> ?_,λx y z h1 h2=> ?_,λx y z h1 h2=> ?_⟩
 ·have a:=hc.anti x y;have b:=hd.anti x y
  show lex (c y x) (d y x)= -lex (c x y) (d x y)
  unfold lex
  by_cases h:c x y=0
  ·rw [if_pos h,if_pos Om];exact b
  ·rw [if_neg h,if_neg Om];exact a
 ·have a:=hc.on x y z;have b:=hd.on x y z;have s:=hc.same x y z
  show lex _ _<=0/\(lex _ _=0->lex _ _=0/\lex _ _=0)
  replace h1:lex (c x y) (d x y)<=0:=h1
  replace h2:lex (c y z) (d y z)<=0:=h2
  unfold lex at h1 h2 ⊢
  by_cases p:c x y=0
  ·by_cases q:c y z=0
   ·rw [if_pos p] at h1 ⊢;rw [if_pos q] at h2 ⊢;rw [if_pos (s p q)];exact b h1 h2
   ·rw [if_pos p] at h1 ⊢;rw [if_neg q] at h2 ⊢
    obtain ⟨a1,a2⟩:=a Om h2
    have:c x z≠0:=λe=>q (a2 e).2
    rw [if_neg this];exact ⟨a1,λe=>absurd e this⟩
  ·rw [if_neg p] at h1 ⊢
   have h2':c y z<=0:=by
    by_cases q:c y z=0
    ·omega
    ·rw [if_neg q] at h2;exact h2
   obtain ⟨a1,a2⟩:=a h1 h2'
   have:c x z≠0:=λe=>p (a2 e).1
   rw [if_neg this];exact ⟨a1,λe=>absurd e this⟩
 ·have s:=hc.same x y z;have t:=hd.same x y z
  show lex _ _=0
  replace h1:lex (c x y) (d x y)=0:=h1
  replace h2:lex (c y z) (d y z)=0:=h2
  unfold lex at h1 h2 ⊢
  by_cases p:c x y=0
  ·by_cases q:c y z=0
   ·rw [if_pos p] at h1;rw [if_pos q] at h2;rw [if_pos (s p q)];exact t h1 h2
   ·rw [if_neg q] at h2;exact absurd h2 q
  ·rw [if_neg p] at h1;exact absurd h1 p
theorem ci_ord {α:Type}(f:α->Int):Ord3 (λx y=>Lib.compareInt (f x) (f y)):=by
 refine ⟨λx y=> ?_,λx y z=> ?_,λx y z=> ?_⟩<;>unfold Lib.compareInt<;>(repeat' split)<;>omega
theorem cmpL_ord {α:Type}(f:α->List Nat):Ord3 (λx y=>kY (f x) (f y)):=by
 refine ⟨λx y=>cmpL_anti _ _,λx y z=>cmpL_trans _ _ _,λx y z h1 h2=> ?_⟩
 show kY (f x) (f z)=0
 rw [cmpL_zero _ _ h1,cmpL_zero _ _ h2];exact cmpL_self _
def cmpK (a b:Cu):Int:=lex (Lib.compareInt a.e b.e) (lex (kY a.v.key b.v.key) (Lib.compareInt (b01 a.aft) (b01 b.aft)))
theorem cmpK_ord:Ord3 cmpK:=lex_ord (ci_ord (λc:Cu=>c.e)) (lex_ord (cmpL_ord (λc:Cu=>c.v.key)) (ci_ord (λc:Cu=>b01 c.aft)))
theorem cmpC_K {a b:Cu}(ha:a.may=true)(hb:b.may=true):jE a b=cmpK a b:=by
 rw [cmpC_good ha hb,p6 (may_v ha) (may_v hb)];rfl
theorem cmpC_bad {a b:Cu}(h:a.may=false\/b.may=false):jE a b=0:=by
 unfold jE
 rcases h with h|h<;>rw [h]<;>simp
theorem cut_anti {a b:Cu}:jE b a= -jE a b:=by
 cases ha:a.may with
 |true=>
  cases hb:b.may with
  |true=>rw [cmpC_K ha hb,cmpC_K hb ha];exact cmpK_ord.anti _ _
  |false=>rw [cmpC_bad (.inl hb),cmpC_bad (.inr hb)];rfl
 |false=>rw [cmpC_bad (a:=a) (.inl ha),cmpC_bad (b:=a) (.inr ha)];rfl
theorem cut_on {a b c:Cu}(ha:a.may=true)(hb:b.may=true)(hc:c.may=true)(h1:jE a b<=0)(h2:jE b c<=0):jE a c<=0/\(jE a c=0->jE a b=0/\jE b c=0):=by
 rw [cmpC_K ha hb] at h1 ⊢;rw [cmpC_K hb hc] at h2 ⊢;rw [cmpC_K ha hc];exact cmpK_ord.on _ _ _ h1 h2
def dA (e:Int):Cu:=⟨e,Ver.zero,false⟩
def posC (v:Ver):Cu:=⟨0,q8 v,false⟩
theorem posC_may {v:Ver}(h:v.may=true):(posC v).may=true:=by
 unfold posC Cu.may
 rw [if_pos rfl,core_may h];rfl
def pU (c:Cu)(v:Ver):Bool:=c.may && v.may && (if c.e=0 then decide (vQ c.v v<0\/(vQ c.v v=0/\c.aft=false)) else decide (c.e<0))
theorem cmpR_coreR {a v:Ver}(ha:a.may=true)(hv:v.may=true):vQ a (q8 v)=vQ a v:=by
 rw [p6 ha (core_may hv),p6 ha hv];rfl
theorem ahead_pos {c:Cu}{v:Ver}(hc:c.may=true)(hv:v.may=true):pU c v=decide (jE c (posC v)<=0):=by
 rw [cmpC_good hc (posC_may hv)]
 unfold pU
 rw [hc,hv]
 show (true && true && _)=decide (lex (Lib.compareInt c.e 0) (lex (vQ c.v (q8 v)) (Lib.compareInt (b01 c.aft) (b01 false)))<=0)
 rw [cmpR_coreR (may_v hc) hv]
 rcases may_e hc with ⟨h,_⟩|⟨h,h2,h3⟩
 ·rw [if_pos h,h,t7]
  unfold lex
  rw [if_pos rfl]
  rcases cmpR_range (v:=c.v) (w:=v) with e|e|e<;>rw [e]<;>cases c.aft<;>decide
 ·rw [if_neg Om]
  rcases h with h|h<;>rw [h]
  ·rw [show Lib.compareInt (-1) 0= -1 from by decide];unfold lex;simp
  ·rw [show Lib.compareInt 1 0=1 from by decide];unfold lex;simp
theorem ahead_on {a b:Cu}{v:Ver}(ha:a.may=true)(hb:b.may=true)(hv:v.may=true)(h:jE a b<=0)(h2:pU b v=true):pU a v=true:=by
 rw [ahead_pos hb hv,decide_eq_true_eq] at h2
 rw [ahead_pos ha hv,decide_eq_true_eq]
 exact (cut_on ha hb (posC_may hv) h h2).1
def lessC (a b:Cu):Bool:=if a.e=b.e then (if vQ a.v b.v= -1 then true else if vQ a.v b.v=1 then false else !a.aft && b.aft) else decide (a.e<b.e)
structure Sp where
 lo:Cu
 hi:Cu
def Sp.may (s:Sp):Bool:=decide (jE s.lo s.hi= -1)
def holdsC (s:Sp)(v:Ver):Bool:=s.may && pU s.lo v && !pU s.hi v
theorem beside {v w:Ver}(hv:v.may=true)(hw:w.may=true):(Sp.mk ⟨0,q8 v,false⟩ ⟨0,q8 v,true⟩).may=true/\holdsC ⟨⟨0,q8 v,false⟩,⟨0,q8 v,true⟩⟩ w=decide (vQ v w=0):=by
 have m1:(Cu.mk 0 (q8 v) false).may=true:=posC_may hv
 have m2:(Cu.mk 0 (q8 v) true).may=true:=by unfold Cu.may;rw [if_pos rfl,core_may hv];rfl
 have hs:(Sp.mk ⟨0,q8 v,false⟩ ⟨0,q8 v,true⟩).may=true:=by
  unfold Sp.may
  rw [cmpC_good m1 m2]
  dsimp only
  rw [pK];rfl
 refine ⟨hs, ?_⟩
 unfold holdsC pU
 rw [hs,m1,m2,hw]
 dsimp only
 rw [if_pos rfl,if_pos rfl,order_core hv hw]
 rcases cmpR_range (v:=v) (w:=w) with e|e|e<;>rw [e]<;>rfl
theorem between {a b:Cu}{v:Ver}(ha:a.may=true)(hb:b.may=true)(hv:v.may=true)(h1:pU a v=true)(h2:pU b v=false):jE a b= -1:=by
 have h3:¬ jE b a<=0:=λh=>by rw [ahead_on hb ha hv h h1] at h2;cases h2
 have:=cut_anti (a:=a) (b:=b)
 rcases cmpC_range a b with e|e|e<;>omega
def genC (l:List Int)(i:Nat):Cu:=
 if plc (atL l (i+5)) 9<2 then dA (2*plc (atL l (i+5)) 9-1) else ⟨0,q8 (genV l i),decide (plc (atL l (i+5)) 2=1)⟩
end
section
theorem ver_dec (u v:Ver):decide (u=v)=(decide (u.maj=v.maj) && (decide (u.min=v.min) && (decide (u.pat=v.pat) && (decide (u.pre=v.pre) && decide (u.build=v.build))))):=by
 obtain ⟨a,b,c,d,e⟩:=u
 obtain ⟨a',b',c',d',e'⟩:=v
 simp only [Ver.mk.injEq,Bool.decide_and]
theorem eq_ver (u v:Ver)(d:Nat)(w:World):(Op.equalIn (d+1+1) 24 (yN u) (yN v)).run YP w= .ok (decide (u=v)) w:=by
  have h:=eq_agg (P:=YP) (d:=d+1) (t:=24) (xs:=(yN u).cells) (ys:=(yN v).cells) (bs:=[u.maj==v.maj,u.min==v.min,u.pat==v.pat,(mkS u.pre).toList==(mkS v.pre).toList,(mkS u.build).toList==(mkS v.build).toList]) Tryz.underlying24 Kr
    ⟨by decide,⟨YI u.maj,YI v.maj,λw=>⟨by kernel_rfl,by kernel_rfl,run_equalIn_int w d _ _ _ _ _ Tryz.underlying3⟩⟩,
     by decide,⟨YI u.min,YI v.min,λw=>⟨by kernel_rfl,by kernel_rfl,run_equalIn_int w d _ _ _ _ _ Tryz.underlying3⟩⟩,
     by decide,⟨YI u.pat,YI v.pat,λw=>⟨by kernel_rfl,by kernel_rfl,run_equalIn_int w d _ _ _ _ _ Tryz.underlying3⟩⟩,
     by decide,⟨.string (mkS u.pre),.string (mkS v.pre),λw=>⟨by kernel_rfl,by kernel_rfl,run_equalIn_string w d _ _ _ Tryz.underlying9⟩⟩,
     by decide,⟨.string (mkS u.build),.string (mkS v.build),λw=>⟨by kernel_rfl,by kernel_rfl,run_equalIn_string w d _ _ _ Tryz.underlying9⟩⟩,trivial⟩ w
  rw [all5,fC,fC,pO,pO,pO,←ver_dec] at h
  exact h
abbrev ZJ2 (x y:Cu):Array Value:= #[YI x.e,YI x.v.maj,YI x.v.min,YI x.v.pat,.string (mkS x.v.pre),.string (mkS x.v.build),.bool x.aft,YI y.e,YI y.v.maj,YI y.v.min,YI y.v.pat,.string (mkS y.v.pre),.string (mkS y.v.build),.bool y.aft]
abbrev ZJ (x:Cu):Array Value:= #[YI x.e,YI x.v.maj,YI x.v.min,YI x.v.pat,.string (mkS x.v.pre),.string (mkS x.v.build),.bool x.aft]
def cutV (c:Cu):Value:= .agg #[YI c.e,YI c.v.maj,YI c.v.min,YI c.v.pat,.string (mkS c.v.pre),.string (mkS c.v.build),.bool c.aft]
def spanV (s:Sp):Value:= .agg (ZJ2 s.lo s.hi)
theorem guard_ver:Tryz.prog.eqGuardType Tryz.prog.depth 24=false:=by kernel_rfl
end
section
theorem ret_i64 {a b:Int}(h:a=b):Ending.returned (YI a)= .returned (YI b):=by rw [h]
theorem empty_mk (b:YL):(mkS b).toList.isEmpty=b.isEmpty:=by rw [Lib.toList_data,mk_data]
theorem compareTag_any (a b:YL)(w:World)(ha:a.length<=1000000)(hb:b.length<=1000000):
  YC 202 #[.string (mkS a),.string (mkS b)] w (YR (YI (oneP a b)) w):=by
 have la:a.length<=maxLen:=by unfold maxLen;omega
 have lb:b.length<=maxLen:=by unfold maxLen;omega
 have HO:Hid (oneP a b=if g7 a && g7 b then Lib.compareInt (zJ a) (zJ b) else if g7 a && !b.isEmpty then-1 else if g7 b && !a.isEmpty then 1 else Lib.compareBytes a b):=rfl
 have ea:=empty_mk a
 have eb:=empty_mk b
 obtain ⟨na,hna⟩:∃ n,zJ a=n:=⟨_,rfl⟩
 obtain ⟨nb,hnb⟩:∃ n,zJ b=n:=⟨_,rfl⟩
 have cC:=λw'=>Tryz.strings_Compare (mkS a) (mkS b) w'
 rw [mk_data,mk_data] at cC
 obtain ⟨x,hx⟩:∃ n,Lib.compareBytes a b=n:=⟨_,rfl⟩
 have cI:=λw'=>Tryz.cmp_Compare_int na nb w'
 obtain ⟨y,hy⟩:∃ n,Lib.compareInt na nb=n:=⟨_,rfl⟩
 rw [hx] at cC HO
 rw [hna,hnb,hy] at HO
 rw [hy] at cI
 clear hx hy
 cases hi:g7 a<;>cases hj:g7 b<;>cases ga:a.isEmpty<;>cases gb:b.isEmpty
 all_goals
  rw [hi,hj,ga,gb] at HO
  have cA:=λw'=>fK a _ hi w' la
  have cB:=λw'=>fK b _ hj w' lb
  rw [hna] at cA
  rw [hnb] at cB
  rw [ga] at ea
  rw [gb] at eb
  clear hi hj ga gb
  go_enter Tryz.func202,Tryz.ntmps202
  go_wp2_with fail
  refine (cA _).mono ?_
  rintro e w1 ⟨rfl,hb1⟩
  go_wp2_with fail
  refine (cB _).mono ?_
  rintro e w2 ⟨rfl,hb2⟩
  have hbw:YB w w2:=hb1.trans (hb2.mono hb1.size)
  go_wp2_with (first
   |(go_at_call 140;refine (cI _).mono ?_;rintro e w3 ⟨rfl,rfl⟩)
   |(go_at_call 257;refine (cC _).mono ?_;rintro e w3 ⟨rfl,rfl⟩))
  go_ret
  exact ⟨ret_i64 (by rw [HO.out];simp),hbw⟩
def or3 (x y z:Int):Int:=if x≠0 then x else if y≠0 then y else z
def nthI (x y z:Int)(k:Nat):Int:=if k=0 then x else if k=1 then y else z
end
section
end
section
def Cu.short (c:Cu):Prop:=c.v.pre.length<=1000000/\c.v.build.length<=1000000
def Ver.short (v:Ver):Prop:=v.pre.length<=1000000/\v.build.length<=1000000
def Sp.short (s:Sp):Prop:=s.lo.short/\s.hi.short
end
section
def tI:List Sp->Bool
 | []=>true
 | [s]=>s.may
 |s::t::r=>s.may && decide (jE s.hi t.lo<0) && tI (t::r)
def inSp (s:Sp)(c:Cu):Bool:=decide (jE s.lo c<=0) && decide (jE c s.hi<0)
def den (l:List Sp)(c:Cu):Bool:=l.any (inSp · c)
def rowHas (l:List Sp)(v:Ver):Bool:=tI l && l.any (holdsC · v)
def growL (l:List Sp)(c d:Cu):List Sp:=
 match l.getLast? with
 |some s=>if jE s.hi c=0 then l.dropLast++[⟨s.lo,d⟩] else l++[⟨c,d⟩]
 |none=>[⟨c,d⟩]
def buildL (p:Cu->Cu->Bool):List Sp->List Cu->List Sp
 |out,c::d::r=>buildL p (if p c d then growL out c d else out) (d::r)
 |out,_=>out
def pick (p:Cu->Cu->Bool)(x:Cu):List Cu->Bool
 |c::d::r=>(p c d && inSp ⟨c,d⟩ x)||pick p x (d::r)
 |_=>false
def Rise:List Cu->Prop
 |c::d::r=>c.may=true/\jE c d<0/\Rise (d::r)
 | [c]=>c.may=true
 | []=>True
def putL (c:Cu):List Cu->List Cu
 | []=>[c]
 |d::r=>if jE d c<0 then d::putL c r else if jE d c=0 then d::r else c::d::r
def cutsL (l:List Sp):List Cu:=l.foldl (λout s=>putL s.hi (putL s.lo out)) [dA (-1),dA 1]
def AllMay (l:List Cu):Prop:=∀ x∈l,x.may=true
structure Ends (l:List Cu):Prop where
 rise:Rise l
 head:l.head?=some (dA (-1))
 last:l.getLast?=some (dA 1)
def inL (l:List Sp)(c d:Cu):Bool:=l.any λs=>decide (jE s.lo c<=0) && decide (jE d s.hi<=0)
def makeL (l:List Sp):List Sp:=buildL (inL l) [] (cutsL l)
def orL (a b:List Sp):List Sp:=makeL (a++b)
def andL (a b:List Sp):List Sp:=buildL (λc d=>inL a c d && inL b c d) [] (cutsL (a++b))
def notL (a:List Sp):List Sp:=buildL (λc d=> !inL a c d) [] (cutsL a)
end
section
def spanC (s:Sp):List Value:=(spanV s).cells.toList
def ShortL (l:List Sp):Prop:=∀ s∈l,s.short
end
section
deriving instance DecidableEq for Sp
end
section
end
section
end
section
def cutC (s:Cu):List Value:=(cutV s).cells.toList
def ShortC (l:List Cu):Prop:=∀ s∈l,s.short
end
section
end
section
section
variable {M:List Nat}{P:Program}{n:Nat}{ops:Array Oper}{W:World}{Q:Exit->Act->World->Prop}{L0 L:List Blk}{f:Nat->Value}{fuel:Nat}{listed:Array Bool}{rest:List Oper}{o:Oper}
end
end
section
def allMay (l:List Sp):Bool:=l.all (·.may)
end
section
end
section
end
section
def minC (a b:Cu):Cu:=if 0<jE a b then b else a
def maxC (a b:Cu):Cu:=if 0<jE a b then a else b
def addL (l:List Sp)(c d:Cu):List Sp:=if (Sp.mk c d).may then l++[⟨c,d⟩] else l
def nstep (p:List Sp×Cu)(s:Sp):List Sp×Cu:=(addL p.1 p.2 s.lo,s.hi)
def notG (l:List Sp):List Sp:=addL (l.foldl nstep ([],dA (-1))).1 (l.foldl nstep ([],dA (-1))).2 (dA 1)
def andG:Nat->List Sp->List Sp->List Sp->List Sp
 |n+1,out,s::a,u::b=>if s.hi=minC s.hi u.hi then andG n (addL out (maxC s.lo u.lo) (minC s.hi u.hi)) a (u::b) else andG n (addL out (maxC s.lo u.lo) (minC s.hi u.hi)) (s::a) b
 |_,out,_,_=>out
def mstep (out:List Sp)(s:Sp):List Sp:=
 match out.getLast? with
 |none=>[s]
 |some t=>if jE t.hi s.lo<0 then out++[s] else out.dropLast++[⟨t.lo,maxC t.hi s.hi⟩]
def SortedC:List Sp->Prop
 | []=>True
 |s::r=>(∀ t∈r,jE s.lo t.lo<=0)/\SortedC r
end
section
theorem cutAt_len (c:UInt8):∀ s:YL,s.length=(zD c s).1.length+(if (zD c s).2.2 then 1+(zD c s).2.1.length else 0)
 | []=>rfl
 |b::r=>by
  unfold zD
  have ih:=cutAt_len c r
  by_cases h:b=c
  ·first|(simp [h];done)|(subst h;simp;omega)|(simp [h];omega)
  ·first|(simp [h] at ih ⊢;omega)|(simp [h,Ne.symm h] at ih ⊢;omega)
theorem cutGo_short:∀ (n:Nat) (s:YL),(q6 n s).2=true->s.length<=9*n
 |0,s,h=>by simp [q6] at h
 |n+1,s,h=>by
  have hl:=cutAt_len 46 s
  cases ht:gN (zD 46 s).1 with
  |false=>rw [cutGo_bad n s ht] at h;cases h
  |true=>
   have h8:(zD 46 s).1.length<=8:=Nat.le_of_not_lt λh2=>by rw [tagOk_long h2] at ht;cases ht
   cases hm:(zD 46 s).2.2 with
   |false=>rw [hm] at hl;simp at hl;omega
   |true=>
    rw [cutGo_on n s ht hm] at h
    have ih:=cutGo_short n _ h
    rw [hm] at hl;simp at hl;omega
theorem preOk_short {s:YL}(h:fV s=true):s.length<=36:=by
 rw [preOk_lst,Bool.and_eq_true] at h
 have h1:=h.1
 unfold lst at h1
 split at h1
 ·rename_i h0
  have:s=[]:=by simpa using h0
  subst this;exact Nat.zero_le _
 ·have:=cutGo_short _ _ h1;omega
theorem may_short {v:Ver}(h:v.may=true)(hb:v.build=[]):v.short:=⟨by have:=preOk_short (may_pre h);omega,by rw [hb];exact Nat.zero_le _⟩
structure RF (l:List Sp)(n:Nat):Prop where
 may:tI l=true
 len:l.length<=n
section
variable {a b c:List Sp}(ha:tI a=true)(hb:tI b=true)(hc:tI c=true)
include ha in
end
end
section
def idxP (v:Ver):List Sp->Int->Int
 | [],_=> -1
 |s::r,k=>if holdsC s v then k else idxP v r (k+1)
end
section
end
section
end
section
def leastV (v:Ver):Bool:=decide (v.maj=0) && decide (v.min=0) && decide (v.pat=0)
def rightC (c:Cu):Bool:=decide (¬ c.e=0)||(!c.aft && decide (c.v.pre=[]) && !leastV c.v)
def AllRight (l:List Sp):Prop:=∀ s∈l,rightC s.lo=true/\rightC s.hi=true
def valC (c:Cu):Int:=if c.e= -1 then 0 else if c.e=1 then 1000000000000 else c.v.code
def muI (v:Ver):Int:=if v.pre=[] then v.code else v.code-1
def mu (x:Cu):Int:=if x.e=0 then (if muI x.v<0 then 0 else muI x.v) else 0
def denN (l:List Sp)(n:Int):Bool:=l.any λs=>decide (valC s.lo<=n) && decide (n<valC s.hi)
end
section
def relV (v:Ver):Ver:=Ver.rel v.maj v.min v.pat
def relA (v:Ver):Cu:=if leastV v then dA (-1) else ⟨0,relV v,false⟩
def relB (v:Ver):Cu:=if nextOk (relV v) then ⟨0,nextV (relV v),false⟩ else dA 1
def turnC (c:Cu):Cu:=if ¬ c.e=0 then c else if c.aft=true/\c.v.pre=[] then relB c.v else relA c.v
def turnS (s:Sp):Sp:=⟨turnC s.lo,turnC s.hi⟩
def makeRel (l:List Sp):List Sp:=makeL ((l.map turnS).filter (·.may))
def oneRel (v:Ver):List Sp:=[⟨relA v,relB v⟩]
def onePre (v:Ver):List Sp:=[⟨⟨0,q8 v,false⟩,⟨0,q8 v,true⟩⟩]
end
section
structure St where
 rel:List Sp
 pre:List Sp
def St.may (s:St):Bool:=tI s.rel && tI s.pre && s.rel.all λx=>rightC x.lo && rightC x.hi
structure SF (s:St)(n:Nat):Prop where
 rel:RF s.rel n
 pre:RF s.pre n
 right:AllRight s.rel
def setHas (s:St)(v:Ver):Bool:=s.may && v.may && (if v.pre=[] then rowHas s.rel v else rowHas s.pre v)
def noneT:St:=⟨[],[]⟩
def wholeL:List Sp:=[⟨dA (-1),dA 1⟩]
def allT:St:=⟨wholeL,wholeL⟩
def orT (a b:St):St:=⟨orL a.rel b.rel,orL a.pre b.pre⟩
def andT (a b:St):St:=⟨andL a.rel b.rel,andL a.pre b.pre⟩
def notT (a:St):St:=⟨notL a.rel,notL a.pre⟩
def minusT (a b:St):St:=andT a (notT b)
def exactT (v:Ver):St:=if v.may then (if v.pre=[] then ⟨oneRel v,[]⟩ else ⟨[],onePre v⟩) else noneT
section
variable {a b:St}{n m:Nat}{v:Ver}(ha:SF a n)(hb:SF b m)(hv:v.may=true)
include ha hb hv
end
def edgeN (l:List Sp):List Int:=l.flatMap λs=>[s.lo,s.hi].filterMap λc=>if c.e=0 then some c.v.code else none
end
section
end
section
def highC (v:Ver):Nat->Cu
 |0=>if m6 v 0 then ⟨0,bumpV v 0,false⟩ else dA 1
 |k+1=>if m6 v ((k+1:Nat):Int) then ⟨0,bumpV v ((k+1:Nat):Int),false⟩ else highC v k
def turnsK (c:Co):Nat:=if 0<c.v.maj\/c.parts=1 then 0 else if 0<c.v.min\/c.parts=2 then 1 else 2
def Co.low (c:Co):Cu:=⟨0,q8 c.v,false⟩
def Co.aft (c:Co):Cu:=if c.parts<3/\0<c.parts then highC c.v (c.parts-1).toNat else ⟨0,q8 c.v,true⟩
def Co.span (c:Co):Cu×Cu:=
 if c.op=1\/c.op=2 then (c.low,c.aft) else if c.op=3 then (dA (-1),c.low) else if c.op=4 then (dA (-1),c.aft) else if c.op=5 then (c.aft,dA 1) else if c.op=6 then (c.low,dA 1)
 else if c.op=7 then (c.low,highC c.v (turnsK c)) else if c.op=8 then (c.low,highC c.v (min (c.parts-1) 1).toNat) else if c.parts=0 then (dA (-1),dA 1) else (c.low,highC c.v (c.parts-1).toNat)
def oneRow (lo hi:Cu):List Sp:=addL [] lo hi
def Co.region (c:Co):List Sp:=if c.may then (if c.op=2 then notL (oneRow c.span.1 c.span.2) else oneRow c.span.1 c.span.2) else []
def Co.zone (c:Co):List Sp:=if c.may && !decide (c.v.pre=[]) then [⟨⟨0,{c.v with pre:=[48],build:=[]},false⟩,⟨0,{c.v with pre:=[],build:=[]},false⟩⟩] else []
def upN (v:Ver)(k:Nat):Int:=if k=0 then (v.maj+1)*100000000 else if k=1 then v.maj*100000000+(v.min+1)*10000 else v.code+1
def ordB (op n:Int):Bool:=if op=1 then decide (n=0) else if op=2 then decide (¬ n=0) else if op=3 then decide (n<0) else if op=4 then decide (n<=0) else if op=5 then decide (0<n) else decide (0<=n)
end
section
def fG (c:Co)(v:Ver)(p:Int):Bool:=(decide (p<1)||decide (v.maj=c.v.maj)) && (decide (p<2)||decide (v.min=c.v.min)) && (decide (p<3)||decide (v.pat=c.v.pat))
def overB (c:Co)(v:Ver):Bool:=if ¬ v.maj=c.v.maj\/c.parts=1 then decide (c.v.maj<v.maj) else if ¬ v.min=c.v.min\/c.parts=2 then decide (c.v.min<v.min) else decide (c.v.pat<v.pat)
def saysN (c:Co):Int:=if 0<c.v.maj\/c.parts=1 then 1 else if 0<c.v.min\/c.parts=2 then 2 else 3
def saysB (c:Co)(v:Ver):Bool:=
 if c.op=1\/c.op=9 then fG c v c.parts else if c.op=2 then !fG c v c.parts else if c.op=3 then !fG c v c.parts && !overB c v else if c.op=4 then fG c v c.parts||!overB c v
 else if c.op=5 then overB c v else if c.op=6 then fG c v c.parts||overB c v else if c.op=8 then fG c v (min c.parts 2) && (fG c v c.parts||overB c v)
 else fG c v (saysN c) && (fG c v c.parts||overB c v)
def truncN (v:Ver)(q:Nat):Int:=if q=1 then v.maj*100000000 else if q=2 then v.maj*100000000+v.min*10000 else v.code
end
section
theorem pcs_ne (p:YL):pcs p≠[]:=nF 46 p []
def leastP (v:Ver):Ver:={v with pre:=[48],build:=[]}
def bareV (v:Ver):Ver:={v with pre:=[],build:=[]}
def withO (c:Co)(o:Int):Co:={c with op:=o}
end
section
end
section
abbrev ZQ (x:Co):Array Value:= #[YI x.op,YI x.parts,YI x.v.maj,YI x.v.min,YI x.v.pat,.string (mkS x.v.pre),.string (mkS x.v.build)]
def coV (c:Co):Value:= .agg #[YI c.op,YI c.parts,YI c.v.maj,YI c.v.min,YI c.v.pat,.string (mkS c.v.pre),.string (mkS c.v.build)]
def Co.short (c:Co):Prop:=c.v.short
def toldV (p:Int)(v:Ver):Ver:=⟨if p<1 then 0 else v.maj,if p<2 then 0 else v.min,if p<3 then 0 else v.pat,if p<3 then [] else v.pre,[]⟩
def genCo (l:List Int)(i:Nat):Co:=
 ⟨1+plc (atL l (i+5)) 9,if 1+plc (atL l (i+5)) 9=9 then plc (atL l (i+6)) 3 else 1+plc (atL l (i+6)) 3,toldV (if 1+plc (atL l (i+5)) 9=9 then plc (atL l (i+6)) 3 else 1+plc (atL l (i+6)) 3) (genV l i)⟩
end
section
end
section
def ordSp (c d:Cu):Sp:=if 0<jE c d then ⟨d,c⟩ else ⟨c,d⟩
def spG (l:List Int)(i n:Nat):Sp:=ordSp (genC l (i+12*n-11)) (genC l (i+12*n-5))
def spansG (l:List Int)(i:Nat):Nat->List Sp
 |0=>[]
 |n+1=>(if (spG l i (n+1)).may then [spG l i (n+1)] else [])++spansG l i n
end
section
def rowG (l:List Int)(i:Nat):List Sp:=makeL (spansG l i (plc (atL l i) (4+1:Nat)).toNat)
end
section
end
section
end
section
def highZ (v:Ver)(z:Int):Cu:=if z<0 then dA 1 else highC v z.toNat
theorem rcMay_any (c:Co)(W:World)(hc:c.short):YC 187 #[coV c] W (YR (.bool c.may) W):=by
 obtain ⟨op,parts,v⟩:=c
 have hm:= @Co.may_iff ⟨op,parts,v⟩
 simp only at hm
 have no:∀ w,YB W w→¬ (Co.may ⟨op,parts,v⟩=true)->Ending.returned (.bool false)= .returned (.bool (Co.may ⟨op,parts,v⟩))/\YB W w:=λw hb h=>⟨by rw [Bool.eq_false_iff.2 h],hb⟩
 have hmay:∀ w,YC 114 #[yN v] w (YR (.bool v.may) w):=λw=>wY v w hc.1 hc.2
 refine z8 Tryz.func187 (zQ [] λb1=>zA 7 [0] (op<1) (λh1=>(z7 [] Z5 λw hO=>no w hO.below λq=>by have:=hm.1 q;grind)) (λh1=>zA 11 [0] (op>9) (λh2=>(z7 [] Z5 λw hO=>no w hO.below λq=>by have:=hm.1 q;grind)) (λh2=>z6 (v:= .bool v.may) [0] (λw hO=>hmay w) (zX 16 v.may (λe3=>gR 23 [0] v.build [] (λh4=> ?_) (λh4=>(z7 [] Z5 λw hO=>no w hO.below λq=>by have:=hm.1 q;grind))) (λe3=>(z7 [] Z5 λw hO=>no w hO.below λq=>by have:=hm.1 q;grind))))))
 refine jX 27 (α:=Int×Int) (λq=>[(1,Zp b1 0),(3,YI q.1),(4,YI q.2)]) (λ_=>[⟨b1,(coV ⟨op,parts,v⟩).cells,155⟩]) (λq=>(op=9->q.1=0/\q.2=2)/\(¬ op=9->q.1=1/\q.2=3)) [0] (λnj=>qT 27 (op=9) (λh=>nj (0,2) [] ⟨λ_=>⟨rfl,rfl⟩,λq=>absurd h q⟩ Kr) (λh=>nj (1,3) [] ⟨λq=>absurd q h,λ_=>⟨rfl,rfl⟩⟩ Kr)) ?_
 rintro ⟨lo,hi⟩ g hr
 simp only at hr
 refine zA 31 [0] (parts<lo) (λh5=>(z7 [] Z5 λw hO=>no w hO.below λq=>by have:=hm.1 q;grind)) (λh5=>zA 36 [0] (parts>hi) (λh6=>(z7 [] Z5 λw hO=>no w hO.below λq=>by have:=hm.1 q;grind)) (λh6=> ?_))
 rcases (by omega:parts=0\/parts=1\/parts=2\/parts=3) with rfl|rfl|rfl|rfl
 ·exact gR 46 [0,0] v.pre [] (λh8=>zA 56 [0,0] (v.maj=0) (λa1=>zA 66 [0,0] (v.min=0) (λa2=>zA 77 [0,0] (v.pat=0) (λa3=>(z7 [] Z4 λw hO=>⟨by rw [hm.2 ⟨by omega,e3,h4,by omega,by omega,by first|exact .inl Om|exact .inr h8,by omega,by omega,by omega⟩],hO.below⟩)) (λa3=>(z7 [] Z5 λw hO=>no w hO.below λq=>by have:=hm.1 q;grind))) (λa2=>(z7 [] Z5 λw hO=>no w hO.below λq=>by have:=hm.1 q;grind))) (λa1=>(z7 [] Z5 λw hO=>no w hO.below λq=>by have:=hm.1 q;grind))) (λh8=>(z7 [] Z5 λw hO=>no w hO.below λq=>by have:=hm.1 q;grind))
 ·exact gR 46 [0,0] v.pre [] (λh8=>zA 66 [0,0,0] (v.min=0) (λa2=>zA 77 [0,0] (v.pat=0) (λa3=>(z7 [] Z4 λw hO=>⟨by rw [hm.2 ⟨by omega,e3,h4,by omega,by omega,by first|exact .inl Om|exact .inr h8,by omega,by omega,by omega⟩],hO.below⟩)) (λa3=>(z7 [] Z5 λw hO=>no w hO.below λq=>by have:=hm.1 q;grind))) (λa2=>(z7 [] Z5 λw hO=>no w hO.below λq=>by have:=hm.1 q;grind))) (λh8=>(z7 [] Z5 λw hO=>no w hO.below λq=>by have:=hm.1 q;grind))
 ·exact gR 46 [0,0] v.pre [] (λh8=>zA 77 [0,0,0,0] (v.pat=0) (λa3=>(z7 [] Z4 λw hO=>⟨by rw [hm.2 ⟨by omega,e3,h4,by omega,by omega,by first|exact .inl Om|exact .inr h8,by omega,by omega,by omega⟩],hO.below⟩)) (λa3=>(z7 [] Z5 λw hO=>no w hO.below λq=>by have:=hm.1 q;grind))) (λh8=>(z7 [] Z5 λw hO=>no w hO.below λq=>by have:=hm.1 q;grind))
 ·exact z7 [0,0,0,0] Z4 λw hO=>⟨by rw [hm.2 ⟨by omega,e3,h4,by omega,by omega,by first|exact .inl Om|exact .inr h8,by omega,by omega,by omega⟩],hO.below⟩
theorem rcsign_any (op:Int)(W:World):YC 189 #[YI op] W (YR (.string (mkS (y9 op))) W):=by
 exact z8 Tryz.func189 (zA 5 [] (op=1) (λh=>z7 [] (.string (mkS [61])) λw hO=>⟨by subst h;rfl,hO.below⟩) (λh1=>zA 7 [] (op=2) (λh=>z7 [] (.string (mkS [33,61])) λw hO=>⟨by subst h;rfl,hO.below⟩) (λh2=>zA 9 [] (op=3) (λh=>z7 [] (.string (mkS [60])) λw hO=>⟨by subst h;rfl,hO.below⟩) (λh3=>zA 11 [] (op=4) (λh=>z7 [] (.string (mkS [60,61])) λw hO=>⟨by subst h;rfl,hO.below⟩) (λh4=>zA 13 [] (op=5) (λh=>z7 [] (.string (mkS [62])) λw hO=>⟨by subst h;rfl,hO.below⟩) (λh5=>zA 15 [] (op=6) (λh=>z7 [] (.string (mkS [62,61])) λw hO=>⟨by subst h;rfl,hO.below⟩) (λh6=>zA 17 [] (op=7) (λh=>z7 [] (.string (mkS [94])) λw hO=>⟨by subst h;rfl,hO.below⟩) (λh7=>zA 19 [] (op=8) (λh=>z7 [] (.string (mkS [126])) λw hO=>⟨by subst h;rfl,hO.below⟩) (λh8=>z7 [] (.string (mkS [])) λw hO=>⟨by unfold y9;rw [if_neg h1,if_neg h2,if_neg h3,if_neg h4,if_neg h5,if_neg h6,if_neg h7,if_neg h8],hO.below⟩)))))))))
theorem rcbegins_any (s t:YL)(W:World):YC 376 #[.string (mkS s),.string (mkS t)] W (YR (.bool (yO s t)) W):=by
 have hs:=zW s
 have ht:=zW t
 refine Z2 (n:=18) Tryz.func376 rfl (ZO (Zv Z5 (ZR (Zv (.string (mkS s)) (Zv (YI ((mkS s).size)) (Zv (.string (mkS t)) (Zv (YI ((mkS t).size)) ?_)))))))
 by_cases h1:((mkS t).size:Int)<=(mkS s).size
 ·refine Zg h1 (Zv Z4 (Zv (.string (mkS s)) (Zv (.string (mkS t)) (Zv (YI ((mkS t).size)) (yW (.string (mkS (s.take (mkS t).size))) Kr (run_strhi (s:=s) (k:= .i64) (j:=((mkS t).size:Int)) rfl Kr Kr Tryz.underlying9 Om Om) (Zv (.string (mkS t)) ?_))))))
  by_cases h2:((s.take (mkS t).size):YL)=t
  ·exact yW Z4 Kr (qN (a:=(s.take (mkS t).size)) (b:=t) rfl Kr Kr (decide_eq_true (h2))) (Zv Z4 (Zv Z4 (ZN (xK (ZF Z4 Tryz.results376 (λw hO=>⟨by rw [show yO s t=true from decide_eq_true (by rw [←ht];assumption)],hO.below⟩))))))
  exact yW Z5 Kr (qN (a:=(s.take (mkS t).size)) (b:=t) rfl Kr Kr (decide_eq_false (h2))) (Zv Z5 (Zv Z5 (ZN (xK (ZF Z5 Tryz.results376 (λw hO=>⟨by rw [show yO s t=false from decide_eq_false (by rw [←ht];assumption)],hO.below⟩))))))
 refine Zh h1 (Zv Z5 (Zk (Zk (Zk (Zk (Zk (Zk (Zv Z5 (Zv Z5 (vF (x3 ?_)))))))))))
 exact xK (ZF Z5 Tryz.results376 (λw hO=>⟨by rw [show yO s t=false from decide_eq_false λq0=>by have q1:=congrArg List.length q0;rw [List.length_take] at q1;omega],hO.below⟩))
end
section
end
section
def triV (l:List YL):Ver:=if l.length=3 then ⟨zJ (tg l 0),zJ (tg l 1),zJ (tg l 2),[],[]⟩ else Ver.zero
def triB (l:List YL):Bool:=decide (l.length=3) && (g7 (tg l 0) && g7 (tg l 1) && g7 (tg l 2))
theorem one_keep {w w' w2:World}{v1 v2 v3:Value}(hS:w'.cell? ⟨w.heap.size,0,none⟩=some v1/\w'.cell? ⟨w.heap.size,1,none⟩=some v2/\w'.cell? ⟨w.heap.size,2,none⟩=some v3/\YB w w'/\w.heap.size<w'.heap.size)(hb:Below w'.heap.size w' w2):w2.cell? ⟨w.heap.size,0,none⟩=some v1/\w2.cell? ⟨w.heap.size,1,none⟩=some v2/\w2.cell? ⟨w.heap.size,2,none⟩=some v3/\YB w w2/\w.heap.size<w2.heap.size:=by
 obtain ⟨a0,a1,a2,h,hA⟩:=hS
 have k:∀ C i v,C<w'.heap.size->w'.cell? ⟨C,i,none⟩=some v->w2.cell? ⟨C,i,none⟩=some v:=λC i v hC e=>(hb.cell (p:=⟨C,i,none⟩) hC).trans e
 exact ⟨k _ _ _ hA a0,k _ _ _ hA a1,k _ _ _ hA a2,h.trans (hb.mono h.size),Nat.lt_of_lt_of_le hA hb.size⟩
theorem one_start (w:World)(v1 v2 v3 v4 v5:Value)(T:TypeId):(w.alloc (.cells #[v1,v2,v3,v4,v5] T)).drew.cell? ⟨w.heap.size,0,none⟩=some v1/\(w.alloc (.cells #[v1,v2,v3,v4,v5] T)).drew.cell? ⟨w.heap.size,1,none⟩=some v2/\(w.alloc (.cells #[v1,v2,v3,v4,v5] T)).drew.cell? ⟨w.heap.size,2,none⟩=some v3/\Below w.heap.size w (w.alloc (.cells #[v1,v2,v3,v4,v5] T)).drew/\w.heap.size<(w.alloc (.cells #[v1,v2,v3,v4,v5] T)).drew.heap.size:=by
 have h0:(w.alloc (.cells #[v1,v2,v3,v4,v5] T)).drew.heap[w.heap.size]?=some (.cells #[v1,v2,v3,v4,v5] T):=nR w _
 have k0:∀ i v,(#[v1,v2,v3,v4,v5]:Array Value)[i]?=some v->(w.alloc (.cells #[v1,v2,v3,v4,v5] T)).drew.cell? ⟨w.heap.size,i,none⟩=some v:=λi v e=>(cell_of_row _ _ i _ _ _ h0).trans e
 have hs:(w.alloc (.cells #[v1,v2,v3,v4,v5] T)).drew.heap.size=w.heap.size+1:=size_box w _
 have hB:Below w.heap.size w (w.alloc (.cells #[v1,v2,v3,v4,v5] T)):=(Below.refl _ w).alloc (Nat.le_refl _) _
 exact ⟨k0 0 _ rfl,k0 1 _ rfl,k0 2 _ rfl,hB.drew,by omega⟩
theorem d3 (n:Int)(h:zU n=true)(w:World):
  YC 251 #[YI n] w (YR (.string (mkS (Lib.itoa n))) w):=by
 unfold zU at h;simp at h
 exact rdigits_any n Om Om w
theorem numsL_mk (a b c:Int)(p q:YL):mkS (numsL ⟨a,b,c,p,q⟩)=mkS (Lib.itoa a)++⟨#[46]⟩++mkS (Lib.itoa b)++⟨#[46]⟩++mkS (Lib.itoa c):=by
 rw [show (⟨#[46]⟩:ByteArray)=mkS [46] from rfl,x8,x8,x8,x8]
 congr 1
 unfold numsL
 simp
theorem rnumbers_any (v:Ver)(w:World)(h1:zU v.maj=true)(h2:zU v.min=true)(h3:zU v.pat=true):
  YC 186 #[yN v] w (YR (.string (mkS (numsL v))) w):=by
 obtain ⟨a,b,c,p,q⟩:=v
 have HN:=Lib.hid (numsL_mk a b c p q)
 dsimp only at h1 h2 h3
 have cA:=λw'=>d3 a h1 w'
 have cB:=λw'=>d3 b h2 w'
 have cC:=λw'=>d3 c h3 w'
 have la:=hD h1
 have lb:=hD h2
 have lc:=hD h3
 rw [←zW] at la lb lc
 unfold yN
 dsimp only
 obtain ⟨x,hx⟩:∃ x,mkS (Lib.itoa a)=x:=⟨_,rfl⟩
 obtain ⟨y,hy⟩:∃ x,mkS (Lib.itoa b)=x:=⟨_,rfl⟩
 obtain ⟨z,hz⟩:∃ x,mkS (Lib.itoa c)=x:=⟨_,rfl⟩
 rw [hx] at cA la HN
 rw [hy] at cB lb HN
 rw [hz] at cC lc HN
 clear hx hy hz h1 h2 h3
 have s1:(x++(⟨#[46]⟩:ByteArray)).size<=5:=by rw [ByteArray.size_append];show x.size+1<=5;omega
 have s2:(x++(⟨#[46]⟩:ByteArray)++y).size<=9:=by rw [ByteArray.size_append];omega
 have s3:(x++(⟨#[46]⟩:ByteArray)++y++(⟨#[46]⟩:ByteArray)).size<=10:=by rw [ByteArray.size_append];show _+1<=10;omega
 go_enter Tryz.func186,Tryz.ntmps186
 go_wp2_with fail
 have hS0:=one_start w (YI a) (YI b) (YI c) (.string (mkS p)) (.string (mkS q)) 24
 go_region_with (first
   |(go_at_call 251;with_reducible refine (cA _).mono ?_;rintro e w1 ⟨rfl,hb1⟩;have hS1:=one_keep ‹_› hb1)
   |(go_at_call 251;with_reducible refine (cB _).mono ?_;rintro e w2 ⟨rfl,hb2⟩;have hS2:=one_keep ‹_› hb2))
 all_goals
  obtain ⟨_,_,k1,hbk1,_⟩:=hS1
  obtain ⟨_,_,k2,hbk2,_⟩:=hS2
  go_wp2_with (go_at_call 251;refine (cC _).mono ?_;rintro e w3 ⟨rfl,hb3⟩)
  go_ret
  first
   |exact ⟨wN HN.out.symm,hbk2.trans (hb3.mono hbk2.size)⟩
   |exact ⟨wN HN.out.symm,hbk1.trans (hb3.mono hbk1.size)⟩
theorem rprint_good (v:Ver)(w:World)(hp:v.pre.length<=1000000)(hq:v.build.length<=1000000)(hm:v.may=true):
  YC 117 #[yN v] w (YR (.string (mkS v.text)) w):=by
 have cM:=λw'=>wY v w' hp hq
 obtain ⟨n1,n2,n3⟩:=jQ hm
 have cN:=λw'=>rnumbers_any v w' n1 n2 n3
 have hT:v.text=numsL v++kJ 45 v.pre++kJ 43 v.build:=rfl
 have hnl:(numsL v).length<=14:=nums_len n1 n2 n3
 obtain ⟨J,hJ⟩:∃ J,numsL v=J:=⟨_,rfl⟩
 rw [hJ] at cN hT hnl
 obtain ⟨a,b,c,p,q⟩:=v
 rw [hm] at cM
 unfold yN at cN cM ⊢
 dsimp only at cN cM hp hq hT ⊢
 have HT:=Lib.hid hT
 clear hT hm n1 n2 n3 hJ
 have hj0:(mkS J).size<=14:=by rw [zW];exact hnl
 have hp0:(mkS p).size<=1000000:=by rw [zW];exact hp
 have hq0:(mkS q).size<=1000000:=by rw [zW];exact hq
 have hj1:(mkS J++(⟨#[45]⟩:ByteArray)).size<=15:=by rw [ByteArray.size_append];show _+1<=_;omega
 have hj2:(mkS J++(⟨#[45]⟩:ByteArray)++mkS p).size<=1000015:=by rw [ByteArray.size_append];omega
 have hj3:(mkS J++(⟨#[45]⟩:ByteArray)++mkS p++(⟨#[43]⟩:ByteArray)).size<=1000016:=by rw [ByteArray.size_append];show _+1<=_;omega
 have hj4:(mkS J++(⟨#[43]⟩:ByteArray)).size<=15:=by rw [ByteArray.size_append];show _+1<=_;omega
 have hpe0:(mkS p).toList.isEmpty=p.isEmpty:=by rw [Lib.toList_data,mk_data]
 have hqe0:(mkS q).toList.isEmpty=q.isEmpty:=by rw [Lib.toList_data,mk_data]
 have hcase:(p.isEmpty=true/\kJ 45 p=[]\/p.isEmpty=false/\kJ 45 p=45::p)/\(q.isEmpty=true/\kJ 43 q=[]\/q.isEmpty=false/\kJ 43 q=43::q):=by
  unfold kJ;cases p<;>cases q<;>simp
 obtain ⟨hc1,hc2⟩:=hcase
 rcases hc1 with ⟨e1,t1⟩|⟨e1,t1⟩<;>rcases hc2 with ⟨e2,t2⟩|⟨e2,t2⟩
 all_goals
  rw [e1] at hpe0
  rw [e2] at hqe0
  have T1:=Lib.hid t1
  have T2:=Lib.hid t2
  clear t1 t2 e1 e2
  go_enter Tryz.func117,Tryz.ntmps117
  go_wp2_with fail
  refine (cM _).mono ?_
  rintro e w1 ⟨rfl,hb1⟩
  have hg1:=Lib.hid ((hb1.block w.heap.size (by simp)).trans (nR w _))
  have hbw1:YB w w1:=((Below.refl _ _).alloc (Nat.le_refl _) _).trans (hb1.mono (by simp))
  have hsw:w.heap.size<w1.heap.size:=by have:=hb1.size;rw [size_box] at this;omega
  go_wp2_with (first
   |(refine wpList_load_row rfl 24 _ rfl w.heap.size rfl _ _ _ _ hg1.out Tryz.underlying24 rfl Kr ?_)
   |(go_at_call 186;refine (cN _).mono ?_;rintro e w2 ⟨rfl,hb2⟩;obtain ⟨c3,f3⟩:=vU (j:=3) ((hb2.block w.heap.size hsw).trans hg1.out) (by simp);obtain ⟨c4,f4⟩:=vU (j:=4) ((hb2.block w.heap.size hsw).trans hg1.out) (by simp);simp only [List.getElem_toArray,List.getElem_cons_succ,List.getElem_cons_zero] at c3 c4))
  go_ret
  exact ⟨wN (by
   rw [HT.out,T1.out,T2.out];try rw [show (⟨#[45]⟩:ByteArray)=mkS [45] from rfl]
   try rw [show (⟨#[43]⟩:ByteArray)=mkS [43] from rfl]
   simp [x8]),hbw1.trans (hb2.mono hbw1.size)⟩
theorem rprint_none (v:Ver)(w:World)(hp:v.pre.length<=1000000)(hq:v.build.length<=1000000)(hm:v.may=false):
  YC 117 #[yN v] w (YR (.string (mkS [])) w):=by
 have cM:=λw'=>wY v w' hp hq
 rw [hm] at cM
 obtain ⟨a,b,c,p,q⟩:=v
 unfold yN at cM ⊢
 dsimp only at cM ⊢
 clear hm
 go_enter Tryz.func117,Tryz.ntmps117
 go_wp2_with (go_at_call 114;refine (cM _).mono ?_;rintro e w1 ⟨rfl,hb1⟩)
 go_ret
 exact ⟨rfl,((Below.refl _ _).alloc (Nat.le_refl _) _).trans (hb1.mono (by simp))⟩
theorem rprint_any (v:Ver)(w:World)(hp:v.pre.length<=1000000)(hq:v.build.length<=1000000):
  YC 117 #[yN v] w (YR (.string (mkS v.print)) w):=by
 cases hm:v.may with
 |true=>rw [print_eq hm];exact rprint_good v w hp hq hm
 |false=>rw [print_bad hm];exact rprint_none v w hp hq hm
end
section
theorem signL_len (op:Int):(y9 op).length<=2:=by
 unfold y9
 repeat' split
 all_goals decide
theorem join_len (b:UInt8)(m:Nat):∀ (l:List YL),(∀ x∈l,x.length<=m)->(zF b l).length<=l.length*(m+1)
 | [],_=>by simp [zF]
 | [x],h=>by
  have:=h x (List.mem_singleton.2 rfl)
  simp [zF];omega
 |x::y::r,h=>by
  have h1:=h x (List.mem_cons_self ..)
  have h2:=join_len b m (y::r) λz hz=>h z (List.mem_cons_of_mem _ hz)
  rw [zF,List.length_append,List.length_cons]
  simp only [List.length_cons,Nat.add_mul] at h2 ⊢
  omega
theorem nums_len9 {v:Ver}(hv:v.may=true){n:Nat}:∀ x∈y8 v n,x.length<=21:=λx hx=>by
 obtain ⟨k,hk,rfl⟩:=nums_mem hv hx
 have:=hD hk
 omega
theorem tN (v:Ver)(n:Nat):(y8 v n).length<=3:=by unfold y8;rw [List.length_take];simp;omega
theorem njoin_len {v:Ver}(hv:v.may=true)(n:Nat):(zF 46 (y8 v n)).length<=100:=by
 have h:=join_len 46 21 (y8 v n) (nums_len9 hv)
 have:=tN v n
 omega
theorem sjoin_len {v:Ver}(hv:v.may=true)(n:Nat):(zF 46 (y8 v n++[[42]])).length<=200:=by
 have h:=join_len 46 21 (y8 v n++[[42]]) (λx hx=>by
  rcases List.mem_append.1 hx with hx|hx
  ·exact nums_len9 hv x hx
  ·rw [List.mem_singleton.1 hx];decide)
 have:=tN v n
 rw [List.length_append] at h
 simp at h;omega
def tE (v:Ver):Array Value:= #[.string (mkS (Lib.itoa v.maj)),.string (mkS (Lib.itoa v.min)),.string (mkS (Lib.itoa v.pat))]
theorem told_take (v:Ver){n:Nat}(h:n<=3):(tE v).toList.take (n*1)=jK (y8 v n):=by
 rw [Nat.mul_one]
 unfold jK y8
 rw [List.map_take];rfl
theorem told_slt (v:Ver){n:Nat}(h:n<=3)(g:Nat):SlT (.slice (some ⟨g,0,none⟩) n 3) (y8 v n) [⟨g,tE v,9⟩]:=by
 have e:=w7 v h
 refine ⟨by rw [dG,e];omega,.inr ⟨g,3,tE v,by rw [e],rfl,by rw [e];exact h,by decide,rfl, ?_⟩⟩
 rw [e];exact told_take v h
theorem parts_nat {c:Co}(h:c.may=true):((c.parts.toNat:Nat):Int)=c.parts/\c.parts.toNat<=3:=by
 obtain ⟨_,_,_,h9,hn,_⟩:=Co.facts h
 by_cases e:c.op=9
 ·have:=h9 e;omega
 ·have:=hn e;omega
theorem star_text {c:Co}(h9:c.op=9):zF 46 (y8 c.v c.parts.toNat++[[42]])=c.text:=by
 unfold Co.text Co.rest
 rw [h9,if_pos rfl];rfl
theorem text_pre {c:Co}(h9:¬ c.op=9)(hp:¬ c.v.pre=[]):y9 c.op++zF 46 (y8 c.v c.parts.toNat)++[45]++c.v.pre=c.text:=by
 unfold Co.text Co.rest kJ
 rw [if_neg h9]
 cases hq:c.v.pre with
 |nil=>exact absurd hq hp
 |cons a r=>simp
theorem text_bare {c:Co}(h9:¬ c.op=9)(hp:c.v.pre=[]):y9 c.op++zF 46 (y8 c.v c.parts.toNat)=c.text:=by
 unfold Co.text Co.rest kJ
 rw [if_neg h9,hp];simp
theorem rctold_any (c:Co)(W:World)(hc:c.short)(hm:c.may=true):YC 188 #[coV c] W λe w'=>∃ v' ob',e= .returned v'/\(∃ g,v'= .slice (some ⟨g,0,none⟩) c.parts.toNat 3/\ob'=[⟨g,tE c.v,9⟩])/\Own [] W w' ob':=by
 obtain ⟨m1,m2,m3⟩:=jQ (Co.facts hm).2.1
 have hpn:=parts_nat hm
 exact z8 Tryz.func188 (zQ [] λb1=>mN 13 [] (zY [0,0,0] 3 (z6 (k:=251) (args:= #[YI c.v.maj]) (v:= .string (mkS (Lib.itoa c.v.maj))) [] (λw _=>d3 c.v.maj m1 w) (zY [] 7 (z6 (k:=251) (args:= #[YI c.v.min]) (v:= .string (mkS (Lib.itoa c.v.min))) [] (λw _=>d3 c.v.min m2 w) (zY [] 11 (z6 (k:=251) (args:= #[YI c.v.pat]) (v:= .string (mkS (Lib.itoa c.v.pat))) [] (λw _=>d3 c.v.pat m3 w) (zY [] 12 (gF 3 9 (tE c.v) λb2=>x_slhi 20 [1] (A:=some ⟨b2,0,none⟩) rfl 3 3 1 c.parts Om Om (.slice (some ⟨b2,0,none⟩) c.parts.toNat 3) rfl (z7 [] (.slice (some ⟨b2,0,none⟩) c.parts.toNat 3) λw hO=>⟨_,_,rfl,⟨b2,rfl,rfl⟩,Own.nth 0 ⟨b2,tE c.v,9⟩ hO⟩))))))))))
theorem tK (c:Co)(W:World)(hc:c.short):YC 124 #[coV c] W (YR (.string (mkS c.print)) W):=by
 refine z8 Tryz.func124 (zQ [] λb1=>z6 (k:=187) (args:= #[coV c]) (v:= .bool c.may) [0] (λw _=>rcMay_any c w hc) ?_)
 cases hcm:c.may with
 |false=>exact z7 [] (.string (mkS [])) λw hO=>⟨by unfold Co.print;simp [hcm],hO.below⟩
 |true=>
  have hcv:=(Co.facts hcm).2.1
  have hpn:=parts_nat hcm
  have q1:=signL_len c.op
  have q2:=njoin_len hcv c.parts.toNat
  have q3:=hc.1
  refine yC (R:=λv' ob'=>∃ g,v'= .slice (some ⟨g,0,none⟩) c.parts.toNat 3/\ob'=[⟨g,tE c.v,9⟩]) [0] (λw hO=>rctold_any c w hc hcm) ?_
  rintro v' ob' ⟨g1,rfl,rfl⟩
  refine zA 12 [0] (c.op=9) (λh2=> ?_) (λh2=> ?_)
  ·refine x_slhm 18 [0,0] g1 c.parts.toNat 3 1 c.parts c.parts Om (.slice (some ⟨g1,0,none⟩) c.parts.toNat c.parts.toNat) rfl (kD [] 1 9 #[.string ⟨#[42]⟩] λb2=>x_appF (N:=c.parts.toNat) (cap:=c.parts.toNat) (m:=1) (cp:=1) (sz:=1) (T:=9) [] 2 0 [⟨b2, #[.string ⟨#[42]⟩],9⟩,⟨b1,(coV c).cells,155⟩,⟨g1,tE c.v,9⟩] (by show c.parts.toNat*1<=3;omega) Om Om λva oa hva0=> ?_)
   have hva:SlT va (y8 c.v c.parts.toNat++[[42]]) oa:=Sl.to hva0 (by rw [List.length_append,w7 c.v hpn.2];rfl) (by show (tE c.v).toList.take _++_=_;rw [told_take c.v hpn.2];unfold jK;rw [List.map_append];rfl)
   exact z6 (k:=120) (args:= #[va,.int .u8 46]) (v:= .string (mkS (zF 46 (y8 c.v c.parts.toNat++[[42]])))) [] (λw hO=>rjoin_any va _ 46 w (SlT.readsT hva (hO.past 0 (oa++[⟨b2, #[.string ⟨#[42]⟩],9⟩,⟨b1,(coV c).cells,155⟩,⟨g1,tE c.v,9⟩])) (λx hx=>List.mem_append_left _ hx)) (Nat.le_trans (sjoin_len hcv _) (by decide)) (by rw [List.length_append];have:=tN c.v c.parts.toNat;simp;omega)) (z7 [] (.string (mkS (zF 46 (y8 c.v c.parts.toNat++[[42]])))) λw hO=>⟨by rw [v8 hcm,←star_text h2],hO.below⟩)
  ·refine z6 (k:=189) (args:= #[YI c.op]) (v:= .string (mkS (y9 c.op))) [0] (λw _=>rcsign_any c.op w) (z6 (k:=120) (args:= #[.slice (some ⟨g1,0,none⟩) c.parts.toNat 3,.int .u8 46]) (v:= .string (mkS (zF 46 (y8 c.v c.parts.toNat)))) [] (λw hO=>rjoin_any _ _ 46 w (SlT.readsT (told_slt c.v hpn.2 g1) (hO.past 1 [⟨g1,tE c.v,9⟩]) (λx hx=>hx)) (Nat.le_trans q2 (by decide)) (Nat.le_trans (tN _ _) (by decide))) (zZ 27 [] (y9 c.op) (zF 46 (y8 c.v c.parts.toNat)) (gR 31 [0] c.v.pre [] (λh3=>z7 [] (.string (mkS (y9 c.op++zF 46 (y8 c.v c.parts.toNat)))) λw hO=>⟨by rw [v8 hcm,←text_bare h2 h3],hO.below⟩) (λh3=> ?_))))
   exact zZ 33 [] (y9 c.op++zF 46 (y8 c.v c.parts.toNat)) [45] (zZ 37 [0] (y9 c.op++zF 46 (y8 c.v c.parts.toNat)++[45]) c.v.pre (z7 [] (.string (mkS (y9 c.op++zF 46 (y8 c.v c.parts.toNat)++[45]++c.v.pre))) λw hO=>⟨by rw [v8 hcm,←text_pre h2 h3],hO.below⟩))
end
section
def opF (k:Nat):Int:=if k=0 then 9 else if k=1 then 7 else if k=2 then 6 else if k=3 then 3 else if k=4 then 1 else 2
structure FewC (c:Co):Prop where
 op:c.op=7\/c.op=6\/c.op=3\/c.op=1\/c.op=2
 parts:c.parts=3
 v:∃ a b:Nat,a<3/\b<2/\c.v=⟨a,b,0,[],[]⟩
def FewT (t:YL):Prop:=t=[42]∨∃ c,FewC c/\t=c.print
theorem opF_few {k:Nat}(h:k<6)(h9:¬ opF k=9):opF k=7\/opF k=6\/opF k=3\/opF k=1\/opF k=2:=by
 unfold opF at*
 repeat (first|split at* |omega)
theorem few_rd:∀ k:Nat,k<6->xD YP 3 #[YI 9,YI 7,YI 6,YI 3,YI 1,YI 2] (0+(k:Int).toNat*1)=some (YI (opF k))
 |0,_=>by kernel_rfl
 |1,_=>by kernel_rfl
 |2,_=>by kernel_rfl
 |3,_=>by kernel_rfl
 |4,_=>by kernel_rfl
 |5,_=>by kernel_rfl
theorem few_gen (v:Value)(l:List Int)(i:Nat)(W:World)(hv:ReadsI W W.heap.size v l)(hl:l.length<=9223372036854775807)(hi:i<=100000):YC 62 #[v,YI (i:Int)] W λe w'=>∃ t,FewT t/\e= .returned (.string (mkS t))/\YB W w':=by
 obtain ⟨k,hk,hk6⟩:=xN (atL l i) 6 (by decide)
 obtain ⟨a,ha,ha3⟩:=xN (atL l (i+1)) 3 (by decide)
 obtain ⟨b,hb,hb2⟩:=xN (atL l (i+2)) 2 (by decide)
 have f1:=gD hv hl i 6 Om (by decide) (by decide) hk
 have f2:=gD hv hl (i+1) 3 Om (by decide) (by decide) ha
 have f3:=gD hv hl (i+2) 2 Om (by decide) (by decide) hb
 have hrd:=few_rd k hk6
 refine z8 Tryz.func62 (zB [] λb1=>x_join (α:=Nat) (λb2=>[(6,Zp b2 0)])
  (λb2=>[⟨b2,(coV ⟨opF k,3,⟨a,b,0,[],[]⟩⟩).cells,155⟩,⟨b1, #[YI 9,YI 7,YI 6,YI 3,YI 1,YI 2],153⟩]) (λ_=>True) [0]
  (λnj=>mN 16 [] (x_i 15 [] ((i+1:Nat):Int) (x_i 19 [] ((i+2:Nat):Int) (x_h2 [] 2 15
    (z6 [] (λw hO=>f1 w hO.below) (xh_ixa 50011 [] 3 6 k 1 hk6 (xh_ldk 50012 [] 4 0 _ _ 3 _ hrd (x_h2 [] 8 15
    (z6 [] (λw hO=>f2 w hO.below) (x_h2 [] 12 15
    (z6 [] (λw hO=>f3 w hO.below) (zY [] 15 (n5 λb2=>(nj b2 [0] trivial Kr))))
    (n5 λb2=>(zY [] 12 (z6 [] (λw hO=>f3 w hO.below) (nj b2 [0] trivial Kr))))))
    (n5 λb2=>(zY [] 8 (z6 [] (λw hO=>f2 w hO.below) (zY [] 12 (z6 [] (λw hO=>f3 w hO.below) (nj b2 [0] trivial Kr))))))))))
    (n5 λb2=>(zY [] 2 (z6 [] (λw hO=>f1 w hO.below) (xh_ixa 50011 [] 3 6 k 1 hk6 (xh_ldk 50012 [] 4 0 _ _ 3 _ hrd (zY [] 8 (z6 [] (λw hO=>f2 w hO.below) (zY [] 12 (z6 [] (λw hO=>f3 w hO.below) (nj b2 [0] trivial Kr))))))))))))))
  (λb2 g _=>zA 25 [0] (opF k=9) (λh=>z7 [] (.string ⟨#[42]⟩) λw hO=>⟨[42],.inl rfl,rfl,hO.below⟩) (λh=> ?_)))
 exact z6 [0] (λw hO=>tK ⟨opF k,3,⟨a,b,0,[],[]⟩⟩ w (by constructor<;>simp)) (z7 [] _ λw hO=>⟨_,.inr ⟨⟨opF k,3,⟨a,b,0,[],[]⟩⟩,⟨opF_few hk6 h,rfl,a,b,ha3,hb2,rfl⟩,rfl⟩,rfl,hO.below⟩)
end
section
theorem plc_mod (z n:Nat)(h:0<n):plc (z:Int) (n:Int)=((z % n:Nat):Int):=by
 have e:(z:Int).tmod n=((z % n:Nat):Int):=rfl
 unfold plc
 rw [e,if_neg Om]
theorem name_at (z:Nat)(W:World):YC 59 #[YI (z:Int)] W (YR (.string (mkS (x4 (z % 5)))) W):=by
 have hp:=plc_mod z 5 (by decide)
 refine z8 Tryz.func59 (z6 [] (λw _=>(place_any z 5 w (by decide) (by decide)).mono λ_ _ ⟨e1,e2⟩=>⟨by rw [e1,show plc (z:Int) 5=((z % 5:Nat):Int) from hp],e2▸Below.refl _ _⟩) ?_)
 exact x_idx 6 [] x4 (z % 5) 5 Om (z7 [] _ λw hO=>⟨rfl,hO.below⟩)
structure Wv where
 name:YL
 rng:YL
 A:Option Addr
 cap:Nat
 fs:List YL
 bare:Bool
def wvC (x:Wv):List Value:=[.string (mkS x.name),.string (mkS x.rng),.slice x.A x.fs.length x.cap,.bool x.bare]
def wvV (x:Wv):Value:= .agg #[.string (mkS x.name),.string (mkS x.rng),.slice x.A x.fs.length x.cap,.bool x.bare]
structure WishG (own:Nat)(alone:Bool)(x:Wv):Prop where
 name:∃ k,k<4/\x.name=x4 ((own+1+k) % 5)
 rng:FewT x.rng
 fs:x.fs=[]\/alone=true/\(x.fs=[[120]]\/x.fs=[[120],[121]])
theorem wish_gen (v:Value)(l:List Int)(i own:Nat)(alone:Bool)(W:World)(hv:ReadsI W W.heap.size v l)(hl:l.length<=9223372036854775807)(hi:i<=50000)(ho:own<=50000):YC 122 #[v,YI (i:Int),YI (own:Int),.bool alone] W λe w'=>∃ x ob,e= .returned (wvV x)/\(WishG own alone x/\SlT (.slice x.A x.fs.length x.cap) x.fs ob)/\Own [] W w' ob:=by
 obtain ⟨k,hk,hk4⟩:=xN (atL l i) 4 (by decide)
 obtain ⟨b,hb,_⟩:=xN (atL l (i+4)) 3 (by decide)
 obtain ⟨m,hm,hm5⟩:=xN (atL l (i+5)) 5 (by decide)
 have f1:=gD hv hl i 4 Om (by decide) (by decide) hk
 have f2:=gD hv hl (i+4) 3 Om (by decide) (by decide) hb
 have f3:=gD hv hl (i+5) 5 Om (by decide) (by decide) hm
 refine z8 Tryz.func122 (zB [] λb1=>x_i 12 [] ((own+1:Nat):Int) (z6 [] (λw hO=>f1 w hO.below) (x_i 16 [] ((own+1+k:Nat):Int) (z6 [] (λw hO=>name_at (own+1+k) w) (x_i 20 [] ((i+1:Nat):Int) (mA (R:=λv=>∃ t,FewT t/\v= .string (mkS t)) [] (λw hO=>(few_gen v l (i+1) w ((hv.below hO.below).more hO.size) hl Om).mono λe w' ⟨t,h1,h2,h3⟩=>⟨_,h2,⟨t,h1,rfl⟩,h3⟩) ?_))))))
 rintro _ ⟨t,ht,rfl⟩
 refine x_i 24 [] ((i+4:Nat):Int) (z6 [] (λw hO=>f2 w hO.below) ?_)
 refine pX 26 [] (.bool (decide ((b:Int)=0))) Kr (zB [] λb2=>x_i 30 [0] ((i+5:Nat):Int) (z6 [] (λw hO=>f3 w hO.below) ?_))
 have fin:∀ (fs:List YL) (A:Option Addr) (cap:Nat),(fs=[]\/alone=true/\(fs=[[120]]\/fs=[[120],[121]]))->WishG own alone ⟨x4 ((own+1+k) % 5),t,A,cap,fs,decide ((b:Int)=0)⟩:=λfs A cap h=>⟨⟨k,hk4,rfl⟩,ht,h⟩
 refine x_bb 33 [] alone (λh=>zA 35 [] ((2:Int)<m) (λh2=> ?_) (λh2=> ?_)) (λh=> ?_)
 ·have hm2:m=3\/m=4:=by omega
  rcases hm2 with rfl|rfl
  ·exact kD [] 2 9 #[.string (mkS [120]),.string (mkS [121])] (λb3=>qL [1,1,2] 2 (wvV ⟨x4 ((own+1+k) % 5),t,some ⟨b3,0,none⟩,2,[[120]],decide ((b:Int)=0)⟩) λw hO=>⟨_,_,rfl,⟨fin _ _ _ (.inr ⟨h,.inl rfl⟩),⟨rfl,.inr ⟨b3,2, #[.string (mkS [120]),.string (mkS [121])],rfl,rfl,by simp,by decide,rfl,rfl⟩⟩⟩,hO.nth 0 _⟩)
  ·exact kD [] 2 9 #[.string (mkS [120]),.string (mkS [121])] (λb3=>qL [1,1,2] 2 (wvV ⟨x4 ((own+1+k) % 5),t,some ⟨b3,0,none⟩,2,[[120],[121]],decide ((b:Int)=0)⟩) λw hO=>⟨_,_,rfl,⟨fin _ _ _ (.inr ⟨h,.inr rfl⟩),⟨rfl,.inr ⟨b3,2, #[.string (mkS [120]),.string (mkS [121])],rfl,rfl,by simp,by decide,rfl,rfl⟩⟩⟩,hO.nth 0 _⟩)
 ·exact qL [0,1] 1 (wvV ⟨x4 ((own+1+k) % 5),t,none,0,[],decide ((b:Int)=0)⟩) λw hO=>⟨_,[],rfl,⟨fin _ _ _ (.inl rfl),Sl.nil _ _⟩,hO.no⟩
 ·exact qL [0,1] 1 (wvV ⟨x4 ((own+1+k) % 5),t,none,0,[],decide ((b:Int)=0)⟩) λw hO=>⟨_,[],rfl,⟨fin _ _ _ (.inl rfl),Sl.nil _ _⟩,hO.no⟩
end
section
set_option linter.unnecessarySimpa false
def sepT (c:Nat):YL:=if c=0 then [32,61,32] else [32,33,61,32]
theorem keyL_part:∀ (i:Nat),i<3→∀ w,(part 9 #[.string ⟨#[111,115]⟩,.string ⟨#[97,114,99,104]⟩,.string ⟨#[97,98,105]⟩] i).run YP w= .ok (.string (mkS (yR i))) w
 |0,_,w=>by kernel_rfl
 |1,_,w=>by kernel_rfl
 |2,_,w=>by kernel_rfl
theorem sepT_part:∀ (i:Nat),i<2→∀ w,(part 9 #[.string ⟨#[32,61,32]⟩,.string ⟨#[32,33,61,32]⟩] i).run YP w= .ok (.string (mkS (sepT i))) w
 |0,_,w=>by kernel_rfl
 |1,_,w=>by kernel_rfl
theorem keyL_four (k:Nat):(yR k).length<=4:=by unfold yR;split<;>(try split)<;>simp
theorem sepT_four (k:Nat):(sepT k).length<=4:=by unfold sepT;split<;>simp
theorem wordT_four (k:Nat):(vD k).length<=4:=by unfold vD;split<;>(try split)<;>(try split)<;>simp
def WhenT (t:YL):Prop:=t=[]∨∃ k c j,k<3/\t=yR k++sepT c++vD j
theorem when_gen (v:Value)(l:List Int)(i:Nat)(W:World)(hv:ReadsI W W.heap.size v l)(hl:l.length<=9223372036854775807)(hi:i<=10000):YC 63 #[v,YI (i:Int)] W λe w'=>∃ t,WhenT t/\e= .returned (.string (mkS t))/\YB W w':=by
 obtain ⟨k,hk,hk6⟩:=xN (atL l i) 6 (by decide)
 obtain ⟨c,hc,hc2⟩:=xN (atL l (i+1)) 2 (by decide)
 obtain ⟨b,hb,hb3⟩:=xN (atL l (i+1)) 3 (by decide)
 obtain ⟨j,hj4,hj⟩:=wordT_any ((1:Int)+(b:Int))
 have hf6:=gD hv hl i 6 Om (by decide) (by decide) hk
 have hf2:=gD hv hl (i+1) 2 Om (by decide) (by decide) hc
 have hf3:=gD hv hl (i+1) 3 Om (by decide) (by decide) hb
 refine Z2 (n:=28) Tryz.func63 rfl (ZO (Zv (.string ⟨#[]⟩) (ZR (Zv (v) (Zv (YI (i:Int)) (Zc (k:=60) (args:= #[v,YI (i:Int),YI 6]) (YI (k:Int)) (λw hO=>hf6 w hO.below) (Zv (YI (k:Int)) ?_)))))))
 refine ZN (zV (ZO (Zv (YI (k:Int)) ?_)))
 by_cases h1:(2:Int)<(k:Int)
 ·refine Zg h1 (ZY (ZO (Zv (.string ⟨#[]⟩) (ZN (xK (yD (ZF (.string ⟨#[]⟩) Tryz.results63 ?_)))))))
  exact λw hO=>⟨[],.inl rfl,rfl,hO.below⟩
 have hk3:k<3:=by omega
 have q1:=keyL_four k;have q2:=sepT_four c;have q3:=wordT_four j
 refine Zh h1 (ZX (ZB (zV (ok_draw Kr Kr (Zw (.agg #[.string ⟨#[111,115]⟩,.string ⟨#[97,114,99,104]⟩,.string ⟨#[97,98,105]⟩]) (Zw (YI (k:Int)) (q_val (.string (mkS (yR k))) Kr (run_idxg yR hk3 rfl Kr Kr Tryz.underlying157 (λi hi w=>keyL_part i hi w) Kr) (Zw (.agg #[.string ⟨#[32,61,32]⟩,.string ⟨#[32,33,61,32]⟩]) ?_))))))))
 refine Zw (v) (Zw (YI (i:Int)) (q_sum (k:= .i64) (((i+1:Nat):Int)) Kr (λ_=>Kr) (IntWalk.i64_in _ Om) (Zq (k:=60) (args:= #[v,YI ((i+1:Nat):Int),YI 2]) (YI (c:Int)) (λw hO=>hf2 w hO.below) (q_val (.string (mkS (sepT c))) Kr (run_idxg sepT hc2 rfl Kr Kr Tryz.underlying158 (λi hi w=>sepT_part i hi w) Kr) (q_val (.string (mkS ((yR k)++(sepT c)))) Kr (pD (a:=(yR k)) (b:=(sepT c)) rfl Kr Kr (by first|omega|(simp only [List.length_append,List.length_cons,List.length_nil];omega))) (Zw (v) (Zw (YI (i:Int)) (q_sum (k:= .i64) (((i+1:Nat):Int)) Kr (λ_=>Kr) (IntWalk.i64_in _ Om) (Zq (k:=60) (args:= #[v,YI ((i+1:Nat):Int),YI 3]) (YI (b:Int)) (λw hO=>hf3 w hO.below) (q_sum (k:= .i64) ((1:Int)+(b:Int)) Kr (λ_=>Kr) (IntWalk.i64_in _ Om) (Zq (k:=123) (args:= #[YI ((1:Int)+(b:Int))]) (.string (mkS (vD j))) (λw hO=>hj w) ?_)))))))))))
 exact q_val (.string (mkS (((yR k)++(sepT c))++(vD j)))) Kr (pD (a:=((yR k)++(sepT c))) (b:=(vD j)) rfl Kr Kr (by first|omega|(simp only [List.length_append,List.length_cons,List.length_nil];omega))) (Zw (.string (mkS (((yR k)++(sepT c))++(vD j)))) (q_nil (x3 (xK (ZF (.string (mkS (((yR k)++(sepT c))++(vD j)))) Tryz.results63 (λw hO=>⟨_,.inr ⟨k,c,j,hk3,rfl⟩,rfl,hO.below⟩))))))
end
section
structure Nv where
 A:Option Addr
 cap:Nat
 any:List Wv
 wh:YL
 opt:YL
def nvC (x:Nv):List Value:=[.slice x.A x.any.length x.cap,.string (mkS x.wh),.string (mkS x.opt)]
def nvV (x:Nv):Value:= .agg #[.slice x.A x.any.length x.cap,.string (mkS x.wh),.string (mkS x.opt)]
structure WsO (A:Option Addr)(cap:Nat)(xs:List Wv)(ob:List Blk):Prop where
 ex:∃ o1 o2,ob=o1++o2/\Sl 146 4 (.slice A xs.length cap) xs.length (xs.flatMap wvC) o1∧∀ x∈xs,∃ o,SlT (.slice x.A x.fs.length x.cap) x.fs o∧∀ b∈o,b∈o2
structure NeedG (own:Nat)(x:Nv):Prop where
 any:(∃ w,x.any=[w]/\WishG own true w)∨∃ w u,x.any=[w,u]/\WishG own false w/\WishG own false u
 wh:WhenT x.wh
 opt:x.opt=[]∨∃ j,j<4/\x.opt=vD j
def WishR (own:Nat)(alone:Bool)(v:Value)(ob:List Blk):Prop:=∃ x,v=wvV x/\WishG own alone x/\SlT (.slice x.A x.fs.length x.cap) x.fs ob
theorem wish_R {v:Value}{l:List Int}{i own:Nat}{alone:Bool}{W w:World}(hb:YB W w)(hv:ReadsI W W.heap.size v l)(hl:l.length<=9223372036854775807)(hi:i<=50000)(ho:own<=50000):YC 122 #[v,YI (i:Int),YI (own:Int),.bool alone] w λe w'=>∃ v ob,e= .returned v/\WishR own alone v ob/\Own [] w w' ob:=
 (wish_gen v l i own alone w ((hv.below hb).more hb.size) hl hi ho).mono λe w' ⟨x,ob,h1,h2,h3⟩=>⟨_,ob,h1,⟨x,rfl,h2⟩,h3⟩
theorem need_gen (v:Value)(l:List Int)(i own:Nat)(W:World)(hv:ReadsI W W.heap.size v l)(hl:l.length<=9223372036854775807)(hi:i<=5000)(ho:own<=5000):YC 61 #[v,YI (i:Int),YI (own:Int)] W λe w'=>∃ x ob,e= .returned (nvV x)/\(NeedG own x/\WsO x.A x.cap x.any ob)/\Own [] W w' ob:=by
 obtain ⟨m,hm,hm5⟩:=xN (atL l i) 5 (by decide)
 obtain ⟨q,hq,hq4⟩:=xN (atL l (i+16)) 4 (by decide)
 obtain ⟨j,hj4,hj⟩:=wordT_any (atL l (i+17))
 have f1:=gD hv hl i 5 Om (by decide) (by decide) hm
 have f2:=gD hv hl (i+16) 4 Om (by decide) (by decide) hq
 have fa:∀ w,YB W w->YC 121 #[v,YI ((i+17:Nat):Int)] w (YR (YI (atL l (i+17))) w):=λw hb=>(at_any v l (i+17) w ((hv.below hb).more hb.size) hl Om).mono λ_ _ ⟨e1,e2⟩=>⟨e1,e2▸Below.refl _ _⟩
 have ho':own<=50000:=by omega
 refine z8 Tryz.func61 (zB [] λb1=>zB [] λb2=>z6 [] (λw hO=>f1 w hO.below) (zA 13 [] ((m:Int)=1) (λh1=> ?_) (λh1=> ?_)))
 ·refine jG 2 [] (x5 14 [] [⟨b2,Z0,83⟩] (λw hO=>hO.nth 0 _) (x_i 23 [0] ((i+1:Nat):Int) (x_i 26 [] ((i+1:Nat):Int) (zY [] 11 (x6 (R:=WishR own false) (λw hO=>wish_R (i:=i+1) hO.below hv hl Om ho') ?_)))))
  rintro _ ob ⟨x,rfl,hx,hxs⟩
  refine zY [] 12 (gF 1 146 (wvV x).cells λb3=>zY [] 13 (vZ [⟨b3,(wvV x).cells,146⟩,⟨b2,Z0,83⟩,⟨b1,Z0,83⟩] [] (ob) 0 ([⟨b3,(wvV x).cells,146⟩,⟨b2,Z0,83⟩,⟨b1,Z0,83⟩]++ob) [⟨b2,Z0,83⟩] (λw hO=>by simpa using hO) (λo w hO=>hO.nth 1 _) (Sl.nil 146 4) (m:=1) (cp:=1) Om λv' o' h=> ?_))
  obtain ⟨A',c',rfl⟩:=Sl.form h
  refine (x5 14 [1] [⟨b2, #[.slice A' 1 c',.string ⟨#[]⟩,.string ⟨#[]⟩],83⟩] (λw hO=>hO.nth 1 _) (x_i 23 [0] ((i+1:Nat):Int) (x_i 26 [] ((i+7:Nat):Int) (zY [] 11 (x6 (R:=WishR own false) (λw hO=>wish_R (i:=i+7) hO.below hv hl Om ho') ?_)))))
  rintro _ ob2 ⟨y,rfl,hy,hys⟩
  refine zY [] 12 (gF 1 146 (wvV y).cells λb4=>zY [] 13 (vZ [⟨b4,(wvV y).cells,146⟩,⟨b3,(wvV x).cells,146⟩,⟨b2, #[.slice A' 1 c',.string ⟨#[]⟩,.string ⟨#[]⟩],83⟩,⟨b1,Z0,83⟩] o' (ob++ob2) 0 (⟨b4,(wvV y).cells,146⟩::(([⟨b3,(wvV x).cells,146⟩,⟨b2, #[.slice A' 1 c',.string ⟨#[]⟩,.string ⟨#[]⟩],83⟩,⟨b1,Z0,83⟩]++o'++ob)++ob2)) [⟨b2, #[.slice A' 1 c',.string ⟨#[]⟩,.string ⟨#[]⟩],83⟩] (λw hO=>by simpa [List.append_assoc] using hO) (λo w hO=>hO.nth 2 _) h (m:=1) (cp:=1) Om λv2 o2 h'=> ?_))
  obtain ⟨A2,c2,rfl⟩:=Sl.form h'
  refine x_i 36 [2] ((i+14:Nat):Int) (mA (R:=λv=>∃ t,WhenT t/\v= .string (mkS t)) [] (λw hO=>(when_gen v l (i+14) w ((hv.below hO.below).more hO.size) hl Om).mono λe w' ⟨t,h1,h2,h3⟩=>⟨_,h2,⟨t,h1,rfl⟩,h3⟩) ?_)
  rintro _ ⟨t,ht,rfl⟩
  refine x_i 41 [2] ((i+16:Nat):Int) (z6 [] (λw hO=>f2 w hO.below) (zA 43 [] ((q:Int)=1) (λh2=> ?_) (λh2=> ?_)))
  ·exact x_i 46 [] ((i+17:Nat):Int) (z6 [] (λw hO=>fa w hO.below) (z6 [] (λw hO=>hj w) (qL [2,2,3] 3 (nvV ⟨A2,c2,[x,y],t,vD j⟩) λw hO=>⟨_,_,rfl,⟨⟨.inr ⟨x,y,rfl,hx,hy⟩,ht,.inr ⟨j,hj4,rfl⟩⟩,⟨o2,ob++ob2,rfl,h',λz hz=>by
    rcases List.mem_cons.1 hz with rfl|hz
    ·exact ⟨ob,hxs,λb hb=>List.mem_append_left _ hb⟩
    ·rw [List.mem_singleton.1 hz];exact ⟨ob2,hys,λb hb=>List.mem_append_right _ hb⟩⟩⟩,hO.past 4 _⟩)))
  ·exact qL [2,3] 3 (nvV ⟨A2,c2,[x,y],t,[]⟩) λw hO=>⟨_,_,rfl,⟨⟨.inr ⟨x,y,rfl,hx,hy⟩,ht,.inl rfl⟩,⟨o2,ob++ob2,rfl,h',λz hz=>by
    rcases List.mem_cons.1 hz with rfl|hz
    ·exact ⟨ob,hxs,λb hb=>List.mem_append_left _ hb⟩
    ·rw [List.mem_singleton.1 hz];exact ⟨ob2,hys,λb hb=>List.mem_append_right _ hb⟩⟩⟩,hO.past 4 _⟩
 ·refine jG 1 [] (x5 14 [] [⟨b2,Z0,83⟩] (λw hO=>hO.nth 0 _) (x_i 23 [0] ((i+1:Nat):Int) (x_i 26 [] ((i+1:Nat):Int) (zY [] 11 (x6 (R:=WishR own true) (λw hO=>wish_R (i:=i+1) hO.below hv hl Om ho') ?_)))))
  rintro _ ob ⟨x,rfl,hx,hxs⟩
  refine zY [] 12 (gF 1 146 (wvV x).cells λb3=>zY [] 13 (vZ [⟨b3,(wvV x).cells,146⟩,⟨b2,Z0,83⟩,⟨b1,Z0,83⟩] [] (ob) 0 ([⟨b3,(wvV x).cells,146⟩,⟨b2,Z0,83⟩,⟨b1,Z0,83⟩]++ob) [⟨b2,Z0,83⟩] (λw hO=>by simpa using hO) (λo w hO=>hO.nth 1 _) (Sl.nil 146 4) (m:=1) (cp:=1) Om λv' o' h=> ?_))
  obtain ⟨A',c',rfl⟩:=Sl.form h
  refine x_i 36 [1] ((i+14:Nat):Int) (mA (R:=λv=>∃ t,WhenT t/\v= .string (mkS t)) [] (λw hO=>(when_gen v l (i+14) w ((hv.below hO.below).more hO.size) hl Om).mono λe w' ⟨t,h1,h2,h3⟩=>⟨_,h2,⟨t,h1,rfl⟩,h3⟩) ?_)
  rintro _ ⟨t,ht,rfl⟩
  refine x_i 41 [1] ((i+16:Nat):Int) (z6 [] (λw hO=>f2 w hO.below) (zA 43 [] ((q:Int)=1) (λh2=> ?_) (λh2=> ?_)))
  ·exact x_i 46 [] ((i+17:Nat):Int) (z6 [] (λw hO=>fa w hO.below) (z6 [] (λw hO=>hj w) (qL [1,1,2] 2 (nvV ⟨A',c',[x],t,vD j⟩) λw hO=>⟨_,_,rfl,⟨⟨.inl ⟨x,rfl,hx⟩,ht,.inr ⟨j,hj4,rfl⟩⟩,⟨o',ob,rfl,h,λy hy=>⟨ob,by rw [List.mem_singleton.1 hy];exact hxs,λb hb=>hb⟩⟩⟩,hO.past 3 _⟩)))
  ·exact qL [1,2] 2 (nvV ⟨A',c',[x],t,[]⟩) λw hO=>⟨_,_,rfl,⟨⟨.inl ⟨x,rfl,hx⟩,ht,.inl rfl⟩,⟨o',ob,rfl,h,λy hy=>⟨ob,by rw [List.mem_singleton.1 hy];exact hxs,λb hb=>hb⟩⟩⟩,hO.past 3 _⟩
end
section
set_option linter.unnecessarySimpa false
structure UpTo (xs:List Fv)(i:Nat):Prop where
 le:i<=xs.length
 wd:∀ x∈xs.take i,wdL x.name=true
 up:∀ z (hz:z+1<xs.length),z+1<i->Op.bytesLess (xs[z]'Om).name xs[z+1].name=true
 it:∀ x∈xs.take i,kO (yI xs) x.of=true
theorem UpTo.zero (xs:List Fv):UpTo xs 0:=⟨Nat.zero_le _,λx hx=>by simp at hx,λz hz h=>by omega,λx hx=>by simp at hx⟩
theorem UpTo.next {xs:List Fv}{i:Nat}(h:UpTo xs i)(hi:i<xs.length)(h1:wdL xs[i].name=true)(h2:∀ h0:0<i,Op.bytesLess (xs[i-1]'Om).name xs[i].name=true)(h3:kO (yI xs) xs[i].of=true):UpTo xs (i+1):=by
 refine ⟨hi,yL hi h.wd h1,λz hz hzi=> ?_,yL hi h.it h3⟩
 rcases Nat.lt_succ_iff_lt_or_eq.1 hzi with q|q
 ·exact h.up z hz q
 ·subst q;exact h2 Om
theorem UpTo.may {xs:List Fv}{i:Nat}(h:UpTo xs i)(hi:xs.length<=i)(h8:xs.length<=8):bH (yI xs)=true:=by
 refine may_yes (by rw [wK];exact h8) (λf hf=> ?_) (ft_rise.2 λz hz=>h.up z hz (by omega)) λf hf=> ?_
 ·obtain ⟨x,hx,rfl⟩:=List.mem_map.1 hf;exact xM hi h.wd x hx
 ·obtain ⟨x,hx,rfl⟩:=List.mem_map.1 hf;exact xM hi h.it x hx
theorem may_no1 {xs:List Fv}{x:Fv}(hx:x∈xs)(h:wdL x.name=false):bH (yI xs)=false:=nN (.inr (.inl ⟨x.ft,ft_mem hx,h⟩))
theorem may_no2 {xs:List Fv}{z:Nat}(hz:z+1<xs.length)(h:Op.bytesLess (xs[z]'Om).name xs[z+1].name=false):bH (yI xs)=false:=nN (.inr (.inr (.inl (by
 cases hq:kE ((yI xs).map Ft.name) with
 |false=>rfl
 |true=>have q:=ft_rise.1 hq z hz;rw [h] at q;cases q))))
theorem may_no3 {xs:List Fv}{x:Fv}(hx:x∈xs)(h:kO (yI xs) x.of=false):bH (yI xs)=false:=nN (.inr (.inr (.inr ⟨x.ft,ft_mem hx,h⟩)))
theorem r11May_any (A:Option Addr)(cap:Nat)(xs:List Fv)(W:World)(hv:FtIn W W.heap.size A xs):YC 184 #[.slice A xs.length cap] W (YR (.bool (bH (yI xs))) W):=by
 refine z8 Tryz.func184 ?_
 by_cases h1:(8:Int)<(xs.length:Int)
 ·refine zA 6 [] ((8:Int)<(xs.length:Int)) (λ_=> ?_) (λhq=>absurd (h1) hq)
  exact z7 [] Z5 (λw hO=>⟨by rw [show bH (yI xs)=false from nN (.inl (by rw [wK];omega))],hO.below⟩)
 refine zA 6 [] ((8:Int)<(xs.length:Int)) (λhq=>absurd hq (h1)) (λ_=>zL (α:=Nat) (λi=>[(0,.slice A xs.length cap),(3,YI (i:Int))]) (λi=>[]) (λi m=>(UpTo xs i)/\m=xs.length-i) (0) (xs.length-0) [] ⟨UpTo.zero xs,rfl⟩ ?_)
 rintro i m g kk ⟨hrel,hmm⟩ nx hkk
 subst hkk
 have hi6:=hrel.le;have hxn:=hv.n
 by_cases h2:(i:Int)<(xs.length:Int)
 ·have hil:i<xs.length:=by omega
  obtain ⟨bp,off,hA,hlt,hcell⟩:=hv.top Om
  obtain ⟨x,hx⟩:∃ x,xs[i]=x:=⟨_,rfl⟩
  have hxm:x∈xs:=hx▸List.getElem_mem hil
  refine zA 10 [] ((i:Int)<(xs.length:Int)) (λ_=> ?_) (λhq=>absurd (h2) hq)
  refine zH 15 [] hA xs.length cap i 2 (by first|omega|(simp;omega)) (zG 17 [] 9 bp (off+i*2+0) (.string (mkS x.name)) (λw hO=>Reads.load vP (hv.top.on hO.below hO.size) hA i 0 Om Om _ (by rw [hx];kernel_rfl)) (z6 (k:=245) (args:= #[.string (mkS x.name)]) (v:= .bool (wdL x.name)) [] (λw hO=>jM x.name w (hv.name x hxm)) ?_))
  cases h3:wdL x.name with
  |true=>
   by_cases h4:(0:Int)<(i:Int)
   ·have hi0:0<i:=by omega
    obtain ⟨y,hy⟩:∃ y,xs[i-1]'Om=y:=⟨_,rfl⟩
    refine zA 22 [] ((0:Int)<(i:Int)) (λ_=> ?_) (λhq=>absurd (h4) hq)
    refine j6 26 [] (YI (IntKind.i64.wrap ((i:Int) -1))) (YI ((i-1:Nat):Int)) (by rw [IntWalk.i64_in _ Om,show (i:Int) -1=((i-1:Nat):Int) by omega]) (zH 27 [] hA xs.length cap (i-1) 2 (by first|omega|(simp;omega)) (zG 29 [] 9 bp (off+(i-1)*2+0) (.string (mkS y.name)) (λw hO=>Reads.load vP (hv.top.on hO.below hO.size) hA (i-1) 0 Om Om _ (by rw [hy];kernel_rfl)) (zH 32 [] hA xs.length cap i 2 (by first|omega|(simp;omega)) (zG 34 [] 9 bp (off+i*2+0) (.string (mkS x.name)) (λw hO=>Reads.load vP (hv.top.on hO.below hO.size) hA i 0 Om Om _ (by rw [hx];kernel_rfl)) ?_))))
    cases h5:Op.bytesLess y.name x.name with
    |true=>
     refine x_sge 35 [] y.name x.name (λ_=> ?_) (λhq=>absurd (hq.symm.trans h5) (by decide))
     refine zH 42 [] hA xs.length cap i 2 (by first|omega|(simp;omega)) (zG 44 [] 74 bp (off+i*2+1) (.slice x.A x.of.length x.cap) (λw hO=>Reads.load vP (hv.top.on hO.below hO.size) hA i 1 Om Om _ (by rw [hx];kernel_rfl)) (z6 (k:=247) (args:= #[.slice A xs.length cap,.slice x.A x.of.length x.cap]) (v:= .bool (kO (yI xs) x.of)) [] (λw hO=>r11items_any A cap xs x.A x.cap x.of w (hv.on hO.below hO.size) ((hv.each x hxm).on hO.below hO.size) (hv.m x hxm) (hv.text x hxm)) ?_))
     cases h6:kO (yI xs) x.of with
     |true=>
      exact x_i 12 [] (((i+1:Nat):Int)) (nx (i+1) (xs.length-(i+1)) [] Om ⟨hrel.next hil (by rw [hx];exact h3) (λh0=>by rw [hx,hy];exact h5) (by rw [hx];exact h6),rfl⟩ Kr Kr)
     |false=>
      exact z7 [] Z5 (λw hO=>⟨by rw [show bH (yI xs)=false from may_no3 hxm h6],hO.below⟩)
    |false=>
     exact x_sge 35 [] y.name x.name (λhq=>absurd (hq.symm.trans h5) (by decide)) (λ_=>z7 [] Z5 (λw hO=>⟨by rw [show bH (yI xs)=false from may_no2 (z:=i-1) Om (by simp only [show i-1+1=i by omega,hx,hy];exact h5)],hO.below⟩))
   refine zA 22 [] ((0:Int)<(i:Int)) (λhq=>absurd hq (h4)) (λ_=>zH 42 [] hA xs.length cap i 2 (by first|omega|(simp;omega)) (zG 44 [] 74 bp (off+i*2+1) (.slice x.A x.of.length x.cap) (λw hO=>Reads.load vP (hv.top.on hO.below hO.size) hA i 1 Om Om _ (by rw [hx];kernel_rfl)) (z6 (k:=247) (args:= #[.slice A xs.length cap,.slice x.A x.of.length x.cap]) (v:= .bool (kO (yI xs) x.of)) [] (λw hO=>r11items_any A cap xs x.A x.cap x.of w (hv.on hO.below hO.size) ((hv.each x hxm).on hO.below hO.size) (hv.m x hxm) (hv.text x hxm)) ?_)))
   cases h7:kO (yI xs) x.of with
   |true=>
    exact x_i 12 [] (((i+1:Nat):Int)) (nx (i+1) (xs.length-(i+1)) [] Om ⟨hrel.next hil (by rw [hx];exact h3) (λh0=>absurd h0 Om) (by rw [hx];exact h7),rfl⟩ Kr Kr)
   |false=>
    exact z7 [] Z5 (λw hO=>⟨by rw [show bH (yI xs)=false from may_no3 hxm h7],hO.below⟩)
  |false=>
   exact z7 [] Z5 (λw hO=>⟨by rw [show bH (yI xs)=false from may_no1 hxm h3],hO.below⟩)
 exact zA 10 [] ((i:Int)<(xs.length:Int)) (λhq=>absurd hq (h2)) (λ_=>z7 [] Z4 (λw hO=>⟨by rw [hrel.may Om Om],hO.below⟩))
end
section
set_option linter.unnecessarySimpa false
theorem put_new {l:List YL}{s:YL}{k:Nat}(hk:k<=l.length)(h:∀ x∈l.take k,Op.bytesLess x s=true)(h2:∀ hk:k<l.length,Op.bytesLess l[k] s=false∧¬ l[k]=s):x2 l s=l.take k++[s]++l.drop k:=by
 rw [put_at k h,List.append_assoc]
 congr 1
 by_cases hl:k<l.length
 ·rw [List.drop_eq_getElem_cons hl,x2,if_neg (by rw [(h2 hl).1];simp),if_neg (h2 hl).2];rfl
 ·rw [List.drop_of_length_le Om];rfl
theorem put_old {l:List YL}{s:YL}{k:Nat}(hk:k<l.length)(h:∀ x∈l.take k,Op.bytesLess x s=true)(h2:Op.bytesLess l[k] s=false)(h3:l[k]=s):x2 l s=l:=by
 rw [put_at k h,List.drop_eq_getElem_cons hk,x2,if_neg (by rw [h2];simp),if_pos h3,←List.drop_eq_getElem_cons hk,List.take_append_drop]
structure RdP (w:World)(v:Value)(l:List YL):Prop where
 ex:∃ A cap,v= .slice A l.length cap/\Reads y7 w w.heap.size A l/\l.length<=cap/\(l=[]->A=none/\cap=0)
end
section
section
variable {M:List Nat}{P:Program}{n:Nat}{ops:Array Oper}{W:World}{L0:List Blk}{Q:Exit->Act->World->Prop}{fuel:Nat}{listed:Array Bool}{f:Nat->Value}
theorem hl_appendR {α:Type}{g:α->List Value}{i0:Nat}{E ob R:List Blk}(oi:Oper){t T:TypeId}{s x:Operand}{i:TypeInfo}{z:Value}{sz:Nat}(hg:∀ y,(g y).length=sz)(hi0:ops[i0]?=some oi)(hw:y5 ops n f oi=true)(ho:oi.op= .call {callee:= .builtin .append,args:= #[s,x],argTypes:= #[t,t]})
  (ht:P.underlying t=some (.slice T)) (hi:P.info? T=some i) (hz:i.zero=some z) (hsz:i.size=sz) (hzs:z.cells.size=sz)
  {v:Value} {m0:Nat} {xs:List Value} (hs:ev n f s=v) (hv:Sl T sz v m0 xs ob) {A:Option Addr} {c:Nat} {l:List α} (hx:ev n f x= .slice A l.length c)
  (hR:∀ w,Own M W w (E++ob++R)->Reads g w w.heap.size A l) (h1:∀ y,∀ u∈g y,u.oneCell'=true)
  (h63:m0+l.length<=maxLen) (hbytes:(m0+l.length)*i.bytes<=140737488355328) (hsub:∀ ob' w,Own M W w (E++ob'++R)->Own M W w L0)
  (h:∀ v' ob',Sl T sz v' (m0+l.length) (xs++l.flatMap g) ob'->m9 M P n ops W L0 Q fuel (listed.setIfInBounds i0 true) (E++ob'++R) (upd f oi.dst v')):mM M P n ops W L0 Q fuel listed i0 (E++ob++R) f:=
 hs_step hi0 hw λw hO=>by
  have hone:∀ u∈l.flatMap g,u.oneCell'=true:=λu hu=>by
   obtain ⟨y,_,hy⟩:=List.mem_flatMap.1 hu
   exact h1 y u hy
  cases A with
  |none=>
   have h0:l=[]:=by
    cases l with
    |nil=>rfl
    |cons y l=>obtain ⟨b,off,e,_⟩:=hR w hO (by simp);cases e
   subst h0
   have hv':Sl T sz v (m0+([]:List α).length) (xs++([]:List α).flatMap g) ob:=by simpa using hv
   refine qM v (w':=w) ?_ ⟨hsub ob w hO,(h v ob hv').go w hO⟩
   have hx':ev n f x= .slice none 0 c:=hx
   unfold execOp
   simp only [ho,resolve,invoke,builtin,Sem.run_bind,Sem.run_pure,Result.andThen_ok,List.map_toArray,List.map_cons,List.map_nil,hs,hx',pZ ht hi hv c]
  |some a=>
   have hnews:∀ j u,(l.flatMap g)[j]?=some u->w.cell? (a.add j)=some u:=λj u hj=>by
    have h0:0<l.length:=by
     cases l with
     |nil=>simp at hj
     |cons y l=>simp
    obtain ⟨b,off,e,_,hc⟩:=hR w hO h0
    obtain rfl:=Option.some.inj e
    rw [yY]
    exact hc j u hj
   obtain ⟨v',w',ob',hr,h2,h3⟩:=pJ (P:=P) (ty:=oi.type) (c:=c) ht hi hz hsz hzs hv hO (dT hg l) hnews hone h63 hbytes
   refine qM v' (w':=w') ?_ ⟨hsub ob' w' h3,(h v' ob' h2).go w' h3⟩
   unfold execOp
   simp only [ho,resolve,invoke,builtin,Sem.run_bind,Sem.run_pure,Result.andThen_ok,List.map_toArray,List.map_cons,List.map_nil,hs,hx,hr]
end
section
variable {M:List Nat}{P:Program}{n:Nat}{W:World}{Q:Exit->Act->World->Prop}{c:Xc}
theorem vI {α:Type}{g:α->List Value}{T:TypeId}{sz k cp:Nat}{v:Value}{xs:List Value}{A:Option Addr}(l:List α)(E ob R:List Blk)(L1 L0:List Blk)(hs:∀ w,Own M W w L1->Own M W w (E++ob++R))(hsub:∀ ob' w,Own M W w (E++ob'++R)->Own M W w L0)
  (hgl:∀ y,(g y).length=sz) (h1:∀ y,∀ u∈g y,u.oneCell'=true) (hR:∀ w,Own M W w (E++ob++R)->Reads g w w.heap.size A l) (hv:Sl T sz v k xs ob) (hN:k+l.length<=1000000)
  (hg:∀ v' ob',Sl T sz v' (k+l.length) (xs++l.flatMap g) ob'->zE M P n W Q (aNext c (E++ob'++R) v'))
  (hkt:(c.L,hL c,c.top,(xA c)[hI c]?,y5 (xA c) n c.f (xO c),(xO c).op,ev n c.f (aX (xO c) 0),ev n c.f (aX (xO c) 1),P.underlying (aT (xO c)),aInfo P T)
   =(L1,L0,.hst (xA c) (hS c) (hU c) (hL c) (hI c),some (xO c),true,aOp (xO c),v,.slice A l.length cp,some (.slice T),some (true,sz,some sz)):=by kernel_rfl):zE M P n W Q c:=by
 simp only [Prod.mk.injEq] at hkt
 obtain ⟨f1,f2,e1,e2,e3,e4,e5,e6,e8,e9⟩:=hkt
 rw [←f1] at hs
 rw [←f2] at hsub
 have:c=⟨.hst (xA c) (hS c) (hU c) (hL c) (hI c),c.k,c.L,c.f⟩:=by rw [←e1]
 rw [this]
 obtain ⟨i,z,hi,hz,hsz,hzs,hby⟩:=m7 e9
 refine ⟨λhq hs0=>hs_take' hs (hl_appendR (E:=E) (ob:=ob) (R:=R) (xO c) hgl e2 e3 e4 e8 hi hz hsz hzs e5 hv e6 hR h1 ?_ ?_ hsub λv' ob' h=>(hg v' ob' h).go hq (hsub ob'))⟩
 ·unfold maxLen;omega
 ·have:=Nat.mul_le_mul hN hby;omega
theorem sl_block {T:TypeId}{b N sz:Nat}{cs:Array Value}(h:cs.size=N*sz)(hN:N<=maxLen):Sl T sz (.slice (some ⟨b,0,none⟩) N N) N cs.toList [⟨b,cs,T⟩]:=
 ⟨by rw [Array.length_toList];exact h,.inr ⟨b,N,cs,rfl,rfl,Nat.le_refl _,hN,h,by rw [List.take_of_length_le (by rw [Array.length_toList,h];exact Nat.le_refl _)]⟩⟩
end
end
section
def xIns (ρ:Operand->Value)(o:Oper):Option (Sem Value):=match o.op with
 | .makeMap t none=>some (Instr.makeMap t none)
 | .lookup t m x c=>some (Instr.lookup t (ρ m) (ρ x) c)
 | .range t x=>some (Instr.range t (ρ x))
 | .next it s=>some (Instr.next (ρ it) s o.type)
 | .entry it=>some (Instr.entry (ρ it))
 |_=>none
def xUpd (ρ:Operand->Value)(o:Oper):Option (Sem Unit):=match o.op with
 | .mapUpdate t m k x=>some (Instr.mapUpdate t (ρ m) (ρ k) (ρ x))
 |_=>none
section
variable {M:List Nat}{P:Program}{n:Nat}{W:World}{Q:Exit->Act->World->Prop}{c:Xc}
theorem x_drawF (fu:Fuel1)(m:Nat)(h:List Nat)(hg:zE M P n W Q ⟨.hps ((xDr (jF P n nS fu h c)).toList.take m).toArray (Array.replicate m false) m (jF P n nS fu h c).L,.tl (xDr (jF P n nS fu h c)) ((xDr (jF P n nS fu h c)).toList.drop m)::(jF P n nS fu h c).k,(jF P n nS fu h c).L,(jF P n nS fu h c).f⟩)
  (hkt:(xl P n nS fu h c,(jF P n nS fu h c).top,P.follows .mixedOrders,preB .any (xDr (jF P n nS fu h c)).toList m)=(xr P n nS (fuel12 fu) h c,.code (.region (xId (jF P n nS fu h c)) (xDr (jF P n nS fu h c)) true),true,true):=by kernel_rfl):zE M P n W Q c:=by
 simp only [Prod.mk.injEq] at hkt
 obtain ⟨hk,e1,e2,e3⟩:=hkt
 refine xrun_ok fu h c hk ?_
 generalize jF P n nS fu h c=d at hg e1 e3 ⊢
 generalize xDr d=a at hg e1 e3
 obtain ⟨l,rfl⟩:∃ l:List Oper,a=l.toArray:=⟨a.toList,by simp⟩
 have:d=⟨.code (.region (xId d) l.toArray true),d.k,d.L,d.f⟩:=by rw [←e1]
 rw [this]
 have hg':zE M P n W Q ⟨.hps (l.take m).toArray (Array.replicate m false) m d.L,.tl l.toArray (l.drop m)::d.k,d.L,d.f⟩:=by simpa using hg
 exact ⟨λhq=>ok_drawh m d.L e2 (by simpa using e3) (hg'.go hq λ_ h=>h)⟩
end
end
section
section
variable {M:List Nat}{P:Program}{n:Nat}{W:World}{Q:Exit->Act->World->Prop}{c:Xc}
theorem x_callO {k:FuncId}{args:Array Value}{Rr:Value->List Blk->Prop}(h:List Nat)(L1:List Blk)(hc:∀ w,Own M W w L1->Calls P k args w λe w'=>∃ v L',e= .returned v/\Rr v L'/\Own M W w' L')
  (hg:∀ v L',Rr v L'->zE M P n W Q ⟨.ops (xA (xgo P n nS h c)) (xT (xgo P n nS h c)),(xgo P n nS h c).k,L',upd (xgo P n nS h c).f (xO (xgo P n nS h c)).dst v⟩)
  (hkt:(xgl P n nS h c,(xgo P n nS h c).L,(xgo P n nS h c).top,y5 (xA (xgo P n nS h c)) n (xgo P n nS h c).f (xO (xgo P n nS h c)),mO P n (xgo P n nS h c))=(xgr P n nS h c,L1,.ops (xA (xgo P n nS h c)) (xO (xgo P n nS h c)::xT (xgo P n nS h c)),true,λw=> .ok (.enter k args) w):=by kernel_rfl):zE M P n W Q c:=by
 simp only [Prod.mk.injEq] at hkt
 obtain ⟨hk,f1,e1,e3,e4⟩:=hkt
 refine zN h c hk ?_
 generalize xgo P n nS h c=d at*
 have e5:∀ w,(execOp (ev n d.f) (xO d)).run P w= .ok (.enter k args) w:=λw=>by
  have h1:=congrFun e4 w
  unfold mO at h1
  rw [e1] at h1
  dsimp only at h1
  rw [e3] at h1
  exact h1
 have:d=⟨.ops (xA d) (xO d::xT d),d.k,d.L,d.f⟩:=by rw [←e1]
 rw [this]
 rw [←f1] at hc
 exact ⟨λhq=>s_callo Rr e3 e5 hc λv L' k2=>(hg v L' k2).go hq⟩
theorem kG {k:FuncId}{args:Array Value}{Rr:Value->List Blk->Prop}(h:List Nat)(L1 R ob:List Blk)(hs:∀ w,Own M W w L1->Own M W w (R++ob))(hc:∀ w,Own M W w (R++ob)->Calls P k args w λe w'=>∃ v ob',e= .returned v/\Rr v ob'/\Own (ob.map Blk.b) w w' ob')
  (hg:∀ v ob',Rr v ob'->zE M P n W Q ⟨.ops (xA (xgo P n nS h c)) (xT (xgo P n nS h c)),(xgo P n nS h c).k,R++ob',upd (xgo P n nS h c).f (xO (xgo P n nS h c)).dst v⟩)
  (hkt:(xgl P n nS h c,(xgo P n nS h c).L,(xgo P n nS h c).top,y5 (xA (xgo P n nS h c)) n (xgo P n nS h c).f (xO (xgo P n nS h c)),mO P n (xgo P n nS h c))=(xgr P n nS h c,L1,.ops (xA (xgo P n nS h c)) (xO (xgo P n nS h c)::xT (xgo P n nS h c)),true,λw=> .ok (.enter k args) w):=by kernel_rfl):zE M P n W Q c:=by
 simp only [Prod.mk.injEq] at hkt
 obtain ⟨hk,f1,e1,e3,e4⟩:=hkt
 refine zN h c hk ?_
 generalize xgo P n nS h c=d at*
 have e5:∀ w,(execOp (ev n d.f) (xO d)).run P w= .ok (.enter k args) w:=λw=>by
  have h1:=congrFun e4 w
  unfold mO at h1
  rw [e1] at h1
  dsimp only at h1
  rw [e3] at h1
  exact h1
 have:d=⟨.ops (xA d) (xO d::xT d),d.k,d.L,d.f⟩:=by rw [←e1]
 rw [this]
 rw [←f1] at hs
 refine ⟨λhq=>wS hs (s_callo (λv L'=>∃ ob',Rr v ob'/\L'=R++ob') e3 e5 (λw hO=>(hc w hO).mono λe w' ⟨v,ob',k1,k2,k3⟩=>⟨v,_,k1,⟨ob',k2,rfl⟩,(Own.back (hO.perm List.perm_append_comm) k3).perm List.perm_append_comm⟩) λv L' ⟨ob',k2,k3⟩=> ?_)⟩
 subst k3
 exact (hg v ob' k2).go hq
theorem xh_callL {k:FuncId}{args:Array Value}{Rr:Value->List Blk->Prop}(L1 R ob L0:List Blk)(hs:∀ w,Own M W w L1->Own M W w (R++ob))(hsub:∀ ob' w,Own M W w (R++ob')->Own M W w L0)(hc:∀ w,Own M W w (R++ob)->Calls P k args w λe w'=>∃ v ob',e= .returned v/\Rr v ob'/\Own (ob.map Blk.b) w w' ob')
  (hg:∀ v ob',Rr v ob'->zE M P n W Q (aNext c (R++ob') v))
  (hkt:(c.L,hL c,c.top,(xA c)[hI c]?,y5 (xA c) n c.f (xO c),λw=>(execOp (ev n c.f) (xO c)).run P w)=(L1,L0,.hst (xA c) (hS c) (hU c) (hL c) (hI c),some (xO c),true,λw=> .ok (.enter k args) w):=by kernel_rfl):zE M P n W Q c:=by
 simp only [Prod.mk.injEq] at hkt
 obtain ⟨f1,f2,e1,e2,e3,e4⟩:=hkt
 rw [←f1] at hs
 rw [←f2] at hsub
 have:c=⟨.hst (xA c) (hS c) (hU c) (hL c) (hI c),c.k,c.L,c.f⟩:=by rw [←e1]
 rw [this]
 refine ⟨λhq hs0=>hs_take' hs (hl_callx (xO c) (λv L'=>∃ ob',Rr v ob'/\L'=R++ob') e2 e3 (λw=>congrFun e4 w) (λw hO=>(hc w hO).mono λe w' ⟨v,ob',k1,k2,k3⟩=>⟨v,_,k1,⟨ob',k2,rfl⟩,(Own.back (hO.perm List.perm_append_comm) k3).perm List.perm_append_comm⟩) (λv L' ⟨ob',_,k3⟩ w hO=>hsub ob' w (k3▸hO)) λv L' ⟨ob',k2,k3⟩=> ?_)⟩
 subst k3
 exact (hg v ob' k2).go hq (hsub ob')
theorem x_drawLF (fu:Fuel1)(m:Nat)(h:List Nat)(L0:List Blk)(hs:∀ w,Own M W w (jF P n nS fu h c).L->Own M W w L0)(hg:zE M P n W Q ⟨.hps ((xDr (jF P n nS fu h c)).toList.take m).toArray (Array.replicate m false) m L0,.tl (xDr (jF P n nS fu h c)) ((xDr (jF P n nS fu h c)).toList.drop m)::(jF P n nS fu h c).k,(jF P n nS fu h c).L,(jF P n nS fu h c).f⟩)
  (hkt:(xl P n nS fu h c,(jF P n nS fu h c).top,P.follows .mixedOrders,preB .any (xDr (jF P n nS fu h c)).toList m)=(xr P n nS (fuel12 fu) h c,.code (.region (xId (jF P n nS fu h c)) (xDr (jF P n nS fu h c)) true),true,true):=by kernel_rfl):zE M P n W Q c:=by
 simp only [Prod.mk.injEq] at hkt
 obtain ⟨hk,e1,e2,e3⟩:=hkt
 refine xrun_ok fu h c hk ?_
 generalize jF P n nS fu h c=d at hg hs e1 e3 ⊢
 generalize xDr d=a at hg e1 e3
 obtain ⟨l,rfl⟩:∃ l:List Oper,a=l.toArray:=⟨a.toList,by simp⟩
 have:d=⟨.code (.region (xId d) l.toArray true),d.k,d.L,d.f⟩:=by rw [←e1]
 rw [this]
 have hg':zE M P n W Q ⟨.hps (l.take m).toArray (Array.replicate m false) m L0,.tl l.toArray (l.drop m)::d.k,d.L,d.f⟩:=by simpa using hg
 exact ⟨λhq=>ok_drawh m L0 e2 (by simpa using e3) (hg'.go hq hs)⟩
theorem x_appR {α:Type}{g:α->List Value}{T:TypeId}{sz k cp:Nat}{v:Value}{xs:List Value}{A:Option Addr}(h:List Nat)(l:List α)(E ob R:List Blk)(L1:List Blk)(hs:∀ w,Own M W w L1->Own M W w (E++ob++R))
  (hgl:∀ y,(g y).length=sz) (h1:∀ y,∀ u∈g y,u.oneCell'=true) (hR:∀ w,Own M W w (E++ob++R)->Reads g w w.heap.size A l) (hv:Sl T sz v k xs ob) (hN:k+l.length<=1000000)
  (hg:∀ v' ob',Sl T sz v' (k+l.length) (xs++l.flatMap g) ob'->zE M P n W Q ⟨.ops (xA (xgo P n nS h c)) (xT (xgo P n nS h c)),(xgo P n nS h c).k,E++ob'++R,upd (xgo P n nS h c).f (xO (xgo P n nS h c)).dst v'⟩)
  (hkt:(xgl P n nS h c,(xgo P n nS h c).L,(xgo P n nS h c).top,y5 (xA (xgo P n nS h c)) n (xgo P n nS h c).f (xO (xgo P n nS h c)),(xO (xgo P n nS h c)).op,ev n (xgo P n nS h c).f (aX (xO (xgo P n nS h c)) 0),ev n (xgo P n nS h c).f (aX (xO (xgo P n nS h c)) 1),P.underlying (aT (xO (xgo P n nS h c))),aInfo P T)
   =(xgr P n nS h c,L1,.ops (xA (xgo P n nS h c)) (xO (xgo P n nS h c)::xT (xgo P n nS h c)),true,aOp (xO (xgo P n nS h c)),v,.slice A l.length cp,some (.slice T),some (true,sz,some sz)):=by kernel_rfl):zE M P n W Q c:=by
 simp only [Prod.mk.injEq] at hkt
 obtain ⟨hk,f1,e1,e3,e4,e5,e6,e8,e9⟩:=hkt
 refine zN h c hk ?_
 generalize xgo P n nS h c=d at*
 rw [←f1] at hs
 have:d=⟨.ops (xA d) (xO d::xT d),d.k,d.L,d.f⟩:=by rw [←e1]
 rw [this]
 obtain ⟨i,z,hi,hz,hsz,hzs,hby⟩:=m7 e9
 have h63:k+l.length<=maxLen:=by unfold maxLen;omega
 have hbytes:(k+l.length)*i.bytes<=140737488355328:=by have:=Nat.mul_le_mul hN hby;omega
 have hone:∀ u∈l.flatMap g,u.oneCell'=true:=λu hu=>by
  obtain ⟨y,_,hy⟩:=List.mem_flatMap.1 hu
  exact h1 y u hy
 refine ⟨λhq=>wS hs (j0 e3 λw hO=> ?_)⟩
 cases A with
 |none=>
  have h0:l=[]:=by
   cases l with
   |nil=>rfl
   |cons y l=>obtain ⟨b,off,e,_⟩:=hR w hO (by simp);cases e
  subst h0
  have hv':Sl T sz v (k+([]:List α).length) (xs++([]:List α).flatMap g) ob:=by simpa using hv
  refine qM v (w':=w) ?_ (((hg v ob hv').go hq).go w hO)
  have hx':ev n d.f (aX (xO d) 1)= .slice none 0 cp:=e6
  unfold execOp
  rw [e4]
  simp only [aOp,resolve,invoke,builtin,Sem.run_bind,Sem.run_pure,Result.andThen_ok,List.map_toArray,List.map_cons,List.map_nil,e5,hx',pZ e8 hi hv cp]
 |some a=>
  have hnews:∀ j u,(l.flatMap g)[j]?=some u->w.cell? (a.add j)=some u:=λj u hj=>by
   have h0:0<l.length:=by
    cases l with
    |nil=>simp at hj
    |cons y l=>simp
   obtain ⟨b,off,e,_,hc⟩:=hR w hO h0
   obtain rfl:=Option.some.inj e
   rw [yY]
   exact hc j u hj
  obtain ⟨v',w',ob',hr,h2,h3⟩:=pJ (P:=P) (ty:=(xO d).type) (c:=cp) e8 hi hz hsz hzs hv hO (dT hgl l) hnews hone h63 hbytes
  refine qM v' (w':=w') ?_ (((hg v' ob' h2).go hq).go w' h3)
  unfold execOp
  rw [e4]
  simp only [aOp,resolve,invoke,builtin,Sem.run_bind,Sem.run_pure,Result.andThen_ok,List.map_toArray,List.map_cons,List.map_nil,e5,e6,hr]
end
end
section
def sT (o:Oper):TypeId:=match o.op with
 | .store T _ _=>T
 |_=>0
def sP (o:Oper):Operand:=match o.op with
 | .store _ p _=>p
 |_=> .tmp 0
def sQ (o:Oper):Operand:=match o.op with
 | .store _ _ q=>q
 |_=> .tmp 0
def sDn (o:Oper):Bool:=o.dst.isNone
theorem sDn_is {o:Oper}(h:sDn o=true):o.dst=none:=by
 unfold sDn at h
 cases hd:o.dst with
 |none=>rfl
 |some d=>rw [hd] at h;cases h
section
variable {M:List Nat}{P:Program}{n:Nat}{ops:Array Oper}{W:World}{L L0:List Blk}{Q:Exit->Act->World->Prop}{fuel:Nat}{listed:Array Bool}{f:Nat->Value}
end
section
variable {M:List Nat}{P:Program}{n:Nat}{W:World}{Q:Exit->Act->World->Prop}{c:Xc}
theorem x_sto (q:Nat)(x:Blk)(off sz:Nat)(v:Value)(L1:List Blk)(hle:off+sz<=x.cs.size)(hg:zE M P n W Q ⟨.ops (xA c) (xT c),c.k,L1.set q ⟨x.b,yK x.cs off v.cells,x.ty⟩,c.f⟩)
  (hkt:(c.L,c.top,y5 (xA c) n c.f (xO c),(xO c).op,sDn (xO c),ev n c.f (sP (xO c)),ev n c.f (sQ (xO c)),L1[q]?,(P.info? (sT (xO c))).map (·.size),v.cells.size,v.cells.toList.all λu=>u.oneCell')
   =(L1,.ops (xA c) (xO c::xT c),true,.store (sT (xO c)) (sP (xO c)) (sQ (xO c)),true,.pointer (some ⟨x.b,off,none⟩),v,some x,some sz,sz,true):=by kernel_rfl):zE M P n W Q c:=by
 simp only [Prod.mk.injEq] at hkt
 obtain ⟨f1,e1,e2,e3,e4,e5,e6,e7,e8,e9,e10⟩:=hkt
 have:c=⟨.ops (xA c) (xO c::xT c),c.k,L1,c.f⟩:=by rw [←e1,←f1]
 rw [this]
 exact ⟨λhq=>s_storeS q x v sz e2 e3 (sDn_is e4) e7 e5 e6 e8 e9 hle e10 (hg.go hq)⟩
theorem xh_sllo (t:Nat)(h:List Nat)(i:Nat){A:Option Addr}{b off:Nat}(hA:A=some ⟨b,off,none⟩)(N cp sz:Nat)(j:Int)(h0:0<=j)(h1:j<=N)(v:Value)(hv: .slice (some ⟨b,off+(if cp=j.toNat then 0 else j.toNat*sz),none⟩) (N-j.toNat) (cp-j.toNat)=v)(hg:zE M P n W Q (xHn (xgo P n t h c) i v))
  (hkt:(xgl P n t h c,xFree n i (xgo P n t h c),(slQ (xOi i (xgo P n t h c))).2.2.2,ev n (xgo P n t h c).f (slQ (xOi i (xgo P n t h c))).2.1,ev n (xgo P n t h c).f (slQ (xOi i (xgo P n t h c))).2.2.1,P.underlying (slQ (xOi i (xgo P n t h c))).1,(P.info? (xEl P (slQ (xOi i (xgo P n t h c))).1)).map (·.size))
   =(xgr P n t h c,p9 i (xgo P n t h c),true,.slice A N cp,YI j,some (.slice (xEl P (slQ (xOi i (xgo P n t h c))).1)),some sz):=by kernel_rfl):zE M P n W Q c:=by
 simp only [Prod.mk.injEq] at hkt
 obtain ⟨hk,e1,e2,e3,e4,e5,e6⟩:=hkt
 subst hA
 exact zN h c hk (xtake (λw _=>by rw [run_sllo (slQ_op e2) e3 e4 e5 e6 h0 h1 w,hv]) hg e1)
theorem xh_slhi (t:Nat)(h:List Nat)(i:Nat){A:Option Addr}{b off:Nat}(hA:A=some ⟨b,off,none⟩)(N cp sz:Nat)(j:Int)(h0:0<=j)(h1:j<=cp)(v:Value)(hv: .slice (some ⟨b,off,none⟩) j.toNat cp=v)(hg:zE M P n W Q (xHn (xgo P n t h c) i v))
  (hkt:(xgl P n t h c,xFree n i (xgo P n t h c),(shQ (xOi i (xgo P n t h c))).2.2.2,ev n (xgo P n t h c).f (shQ (xOi i (xgo P n t h c))).2.1,ev n (xgo P n t h c).f (shQ (xOi i (xgo P n t h c))).2.2.1,P.underlying (shQ (xOi i (xgo P n t h c))).1,(P.info? (xEl P (shQ (xOi i (xgo P n t h c))).1)).map (·.size))
   =(xgr P n t h c,p9 i (xgo P n t h c),true,.slice A N cp,YI j,some (.slice (xEl P (shQ (xOi i (xgo P n t h c))).1)),some sz):=by kernel_rfl):zE M P n W Q c:=by
 simp only [Prod.mk.injEq] at hkt
 obtain ⟨hk,e1,e2,e3,e4,e5,e6⟩:=hkt
 subst hA
 exact zN h c hk (xtake (λw _=>by rw [run_slhi (shQ_op e2) e3 e4 e5 e6 h0 h1 w,hv]) hg e1)
end
end
section
set_option linter.unnecessarySimpa false
def PutR (v:Value)(l:List YL)(s:YL)(v':Value)(ob:List Blk):Prop:=(v'=v/\x2 l s=l/\ob=[])\/SlT v' (x2 l s) ob
theorem gG (s:YL):∀ u∈y7 s,u.oneCell'=true:=λu hu=>by rw [List.mem_singleton.1 hu];rfl
theorem reads_take11 {w:World}{B b off:Nat}{l:List YL}(h:Reads y7 w B (some ⟨b,off,none⟩) l)(k:Nat):Reads y7 w B (some ⟨b,off,none⟩) (l.take k):=λh0=>by
 obtain ⟨b',off',e,hlt,hc⟩:=h (by rw [List.length_take] at h0;omega)
 cases e
 refine ⟨b,off,rfl,hlt,λj u hj=>hc j u ?_⟩
 have:l.flatMap y7=(l.take k).flatMap y7++(l.drop k).flatMap y7:=by rw [←List.flatMap_append,List.take_append_drop]
 rw [this,List.getElem?_append_left (List.getElem?_eq_some_iff.1 hj).1];exact hj
theorem reads_drop11 {w:World}{B b off cap:Nat}{l:List YL}(h:Reads y7 w B (some ⟨b,off,none⟩) l)(hcap:l.length<=cap)(k:Nat):Reads y7 w B (some ⟨b,off+(if cap=k then 0 else k*1),none⟩) (l.drop k):=λh0=>by
 rw [List.length_drop] at h0
 obtain ⟨b',off',e,hlt,hc⟩:=h Om
 cases e
 rw [if_neg Om]
 refine ⟨b,off+k*1,rfl,hlt,λj u hj=> ?_⟩
 have h1:l.flatMap y7=(l.take k).flatMap y7++(l.drop k).flatMap y7:=by rw [←List.flatMap_append,List.take_append_drop]
 have h2:((l.take k).flatMap y7).length=k:=by rw [dT zO,List.length_take];omega
 rw [Nat.add_assoc]
 refine hc (k*1+j) u ?_
 rw [h1,List.getElem?_append_right Om,h2,show k*1+j-k=j by omega];exact hj
theorem g11put_cons (A:Option Addr)(cap bp off:Nat)(l:List YL)(s:YL)(W:World)(hA:A=some ⟨bp,off,none⟩)(hl0:l≠[])(hcap:l.length<=cap)(hv:Reads y7 W W.heap.size A l)(hn:l.length<=900000):YC 125 #[.slice A l.length cap,.string (mkS s)] W λe w'=>∃ v' ob,e= .returned v'/\PutR (.slice A l.length cap) l s v' ob/\Own [] W w' ob:=by
 subst hA
 have hlp:0<l.length:=List.length_pos_iff.2 hl0
 have hTk:∀ k w,Own [] W w []->Reads y7 w w.heap.size (some ⟨bp,off,none⟩) (l.take k):=λk w hO=>reads_take11 (hv.on hO.below hO.size) k
 have hDk:∀ k w,Own [] W w []->Reads y7 w w.heap.size (some ⟨bp,off+(if cap=k then 0 else k*1),none⟩) (l.drop k):=λk w hO=>reads_drop11 (hv.on hO.below hO.size) hcap k
 have hA:(some ⟨bp,off,none⟩:Option Addr)=some ⟨bp,off,none⟩:=rfl
 have hld:∀ (k:Nat) (hk:k<l.length) x,l[k]=x→∀ w,Own [] W w []->(loadVar 9 ⟨bp,off+k*1+0,none⟩).run YP w= .ok (.string (mkS x)) w:=λk hk x hx w hO=>by
  obtain ⟨b',off',e,hel⟩:=hv.elem zO k hk
  cases e
  exact hel w hO.below _ 0 _ (by rw [hx];kernel_rfl)
 refine z8 Tryz.func125 (x_loopE (α:=Nat) (β:=Nat) (λk=>[(0,.slice (some ⟨bp,off,none⟩) l.length cap),(1,.string (mkS s)),(5,YI (k:Int))]) (λ_=>[]) (λk m=>(k<=l.length∧∀ x∈l.take k,Op.bytesLess x s=true)/\m=l.length-k) 0 l.length (λk=>[(0,.slice (some ⟨bp,off,none⟩) l.length cap),(1,.string (mkS s)),(5,YI (k:Int))]) (λ_=>[]) (λk=>k<=l.length/\(∀ x∈l.take k,Op.bytesLess x s=true)∧∀ hk:k<l.length,Op.bytesLess l[k] s=false) [] ⟨⟨Nat.zero_le _,λx h=>by simp at h⟩,rfl⟩ ?_ ?_)
 ·rintro k mm g ⟨⟨hk,hno⟩,hmm⟩ nx nex
  refine zA 9 [] ((k:Int)<(l.length:Int)) (λh9=> ?_) (λh9=>nex k [] ⟨hk,hno,λq=>absurd q Om⟩ Kr)
  have hj:k<l.length:=by omega
  obtain ⟨x,hx⟩:∃ x,l[k]=x:=⟨_,rfl⟩
  have hgo:=yL (p:=λx=>Op.bytesLess x s=true) hj hno
  rw [hx] at hgo
  refine zH 13 [] hA l.length cap k 1 hj (zG 14 [] 9 bp (off+k*1+0) (.string (mkS x)) (λw hO=>hld k hj x hx w hO.no) (x_slt 16 [] x s (λh16=> ?_) (λh16=>nex k [] ⟨hk,hno,λq=>by rw [hx];exact h16⟩ Kr)))
  exact x_i 19 [] ((k+1:Nat):Int) (nx (k+1) (l.length-(k+1)) [] Om ⟨⟨hj,hgo h16⟩,rfl⟩ Kr Kr)
 ·rintro k g ⟨hk,hno,hge⟩
  have hlt:(l.take k).length=k:=by rw [List.length_take];omega
  refine zA 23 [] ((k:Int)<(l.length:Int)) (λh23=> ?_) (λh23=> ?_)
  ·have hj:k<l.length:=by omega
   obtain ⟨x,hx⟩:∃ x,l[k]=x:=⟨_,rfl⟩
   refine zH 27 [] hA l.length cap k 1 hj (zG 28 [] 9 bp (off+k*1+0) (.string (mkS x)) (λw hO=>hld k hj x hx w hO.no) (yS 30 [] x s (λh30=> ?_) (λh30=> ?_)))
   ·exact z7 [] (.slice (some ⟨bp,off,none⟩) l.length cap) λw hO=>⟨_,[],rfl,.inl ⟨rfl,put_old hj hno (hge hj) (hx.trans h30),rfl⟩,hO.no⟩
   have hq:x2 l s=l.take k++[s]++l.drop k:=put_new hk hno λq=>⟨hge q,by rw [hx];exact h30⟩
   refine x5 11 [] [] (λw hO=>hO.no) (xh_slhi 50035 [] 2 hA l.length cap 1 (k:Int) (by omega) (by omega) (.slice (some ⟨bp,off,none⟩) (l.take k).length cap) (by rw [hlt];rfl) (xh_sllo 50042 [] 9 hA l.length cap 1 (k:Int) (by omega) (by omega) (.slice (some ⟨bp,off+(if cap=k then 0 else k*1),none⟩) (l.drop k).length (cap-k)) (by rw [List.length_drop];rfl) (x_h2 [] 3 5 (vI (g:=y7) (T:=9) (k:=0) (v:= .slice none 0 0) (xs:=[]) (l.take k) [] [] [] ([]) [] (cp:=cap) (λw hO=>hO) (λo w hO=>hO.no) zO gG (λw hO=>hTk k w hO.no) (Sl.nil _ _) (by simp only [List.length_take,List.length_nil];omega) λv1 o1 h1=> ?_) (gF 1 9 #[.string (mkS s)] λb=>zY [] 3 (vI (g:=y7) (T:=9) (k:=0) (v:= .slice none 0 0) (xs:=[]) (l.take k) [⟨b, #[.string (mkS s)],9⟩] [] [] ([⟨b, #[.string (mkS s)],9⟩]) [] (cp:=cap) (λw hO=>hO) (λo w hO=>hO.no) zO gG (λw hO=>hTk k w hO.no) (Sl.nil _ _) (by simp only [List.length_take,List.length_nil];omega) λv1 o1 h1=> ?_)))))
   ·obtain ⟨V1,c1,rfl⟩:=h1.form
    refine zY [] 5 (gF 1 9 #[.string (mkS s)] λb=>zY [] 6 (vZ (m:=1) (cp:=1) [⟨b, #[.string (mkS s)],9⟩] o1 [] 0 (⟨b, #[.string (mkS s)],9⟩::([]++o1++[])) [] (λw hO=>hO.cast (by simp)) (λo w hO=>hO.no) h1 (by simp only [List.length_take,List.length_nil];omega) λv2 o2 h2=> ?_))
    obtain ⟨V2,c2,rfl⟩:=h2.form
    refine zY [] 10 (vI (g:=y7) (l.drop k) [⟨b, #[.string (mkS s)],9⟩] o2 [] ([⟨b, #[.string (mkS s)],9⟩]++o2++[]) [] (cp:=cap-k) (λw hO=>hO) (λo w hO=>hO.no) zO gG (λw hO=>hDk k w hO.no) h2 (by simp only [List.length_take,List.length_drop,List.length_nil];omega) λv3 o3 h3=> ?_)
    have hs3:SlT v3 (l.take k++[s]++l.drop k) o3:=Sl.to (show Sl 9 1 v3 (0+(l.take k).length+1+(l.drop k).length) (([]++(l.take k).flatMap y7)++y7 s++(l.drop k).flatMap y7) o3 from h3) (by first|(simp;done)|(simp;omega)) (by rw [xB];simp)
    exact z7 [] v3 λw hO=>⟨_,o3,rfl,.inr (by rw [hq];exact hs3),(hO.past 1 (o3++[])).cast (by simp)⟩
   ·obtain ⟨V1,c1,rfl⟩:=h1.form
    refine zY [] 6 (vZ (m:=1) (cp:=1) [⟨b, #[.string (mkS s)],9⟩] o1 [] 0 ([⟨b, #[.string (mkS s)],9⟩]++o1++[]) [] (λw hO=>hO) (λo w hO=>hO.no) h1 (by simp only [List.length_take,List.length_nil];omega) λv2 o2 h2=> ?_)
    obtain ⟨V2,c2,rfl⟩:=h2.form
    refine zY [] 10 (vI (g:=y7) (l.drop k) [⟨b, #[.string (mkS s)],9⟩] o2 [] ([⟨b, #[.string (mkS s)],9⟩]++o2++[]) [] (cp:=cap-k) (λw hO=>hO) (λo w hO=>hO.no) zO gG (λw hO=>hDk k w hO.no) h2 (by simp only [List.length_take,List.length_drop,List.length_nil];omega) λv3 o3 h3=> ?_)
    have hs3:SlT v3 (l.take k++[s]++l.drop k) o3:=Sl.to (show Sl 9 1 v3 (0+(l.take k).length+1+(l.drop k).length) (([]++(l.take k).flatMap y7)++y7 s++(l.drop k).flatMap y7) o3 from h3) (by first|(simp;done)|(simp;omega)) (by rw [xB];simp)
    exact z7 [] v3 λw hO=>⟨_,o3,rfl,.inr (by rw [hq];exact hs3),(hO.past 1 (o3++[])).cast (by simp)⟩
  ·have hq:x2 l s=l.take k++[s]++l.drop k:=put_new hk hno λq=>absurd q Om
   refine x5 11 [] [] (λw hO=>hO.no) (xh_slhi 50035 [] 2 hA l.length cap 1 (k:Int) (by omega) (by omega) (.slice (some ⟨bp,off,none⟩) (l.take k).length cap) (by rw [hlt];rfl) (xh_sllo 50042 [] 9 hA l.length cap 1 (k:Int) (by omega) (by omega) (.slice (some ⟨bp,off+(if cap=k then 0 else k*1),none⟩) (l.drop k).length (cap-k)) (by rw [List.length_drop];rfl) (x_h2 [] 3 5 (vI (g:=y7) (T:=9) (k:=0) (v:= .slice none 0 0) (xs:=[]) (l.take k) [] [] [] ([]) [] (cp:=cap) (λw hO=>hO) (λo w hO=>hO.no) zO gG (λw hO=>hTk k w hO.no) (Sl.nil _ _) (by simp only [List.length_take,List.length_nil];omega) λv1 o1 h1=> ?_) (gF 1 9 #[.string (mkS s)] λb=>zY [] 3 (vI (g:=y7) (T:=9) (k:=0) (v:= .slice none 0 0) (xs:=[]) (l.take k) [⟨b, #[.string (mkS s)],9⟩] [] [] ([⟨b, #[.string (mkS s)],9⟩]) [] (cp:=cap) (λw hO=>hO) (λo w hO=>hO.no) zO gG (λw hO=>hTk k w hO.no) (Sl.nil _ _) (by simp only [List.length_take,List.length_nil];omega) λv1 o1 h1=> ?_)))))
   ·obtain ⟨V1,c1,rfl⟩:=h1.form
    refine zY [] 5 (gF 1 9 #[.string (mkS s)] λb=>zY [] 6 (vZ (m:=1) (cp:=1) [⟨b, #[.string (mkS s)],9⟩] o1 [] 0 (⟨b, #[.string (mkS s)],9⟩::([]++o1++[])) [] (λw hO=>hO.cast (by simp)) (λo w hO=>hO.no) h1 (by simp only [List.length_take,List.length_nil];omega) λv2 o2 h2=> ?_))
    obtain ⟨V2,c2,rfl⟩:=h2.form
    refine zY [] 10 (vI (g:=y7) (l.drop k) [⟨b, #[.string (mkS s)],9⟩] o2 [] ([⟨b, #[.string (mkS s)],9⟩]++o2++[]) [] (cp:=cap-k) (λw hO=>hO) (λo w hO=>hO.no) zO gG (λw hO=>hDk k w hO.no) h2 (by simp only [List.length_take,List.length_drop,List.length_nil];omega) λv3 o3 h3=> ?_)
    have hs3:SlT v3 (l.take k++[s]++l.drop k) o3:=Sl.to (show Sl 9 1 v3 (0+(l.take k).length+1+(l.drop k).length) (([]++(l.take k).flatMap y7)++y7 s++(l.drop k).flatMap y7) o3 from h3) (by first|(simp;done)|(simp;omega)) (by rw [xB];simp)
    exact z7 [] v3 λw hO=>⟨_,o3,rfl,.inr (by rw [hq];exact hs3),(hO.past 1 (o3++[])).cast (by simp)⟩
   ·obtain ⟨V1,c1,rfl⟩:=h1.form
    refine zY [] 6 (vZ (m:=1) (cp:=1) [⟨b, #[.string (mkS s)],9⟩] o1 [] 0 ([⟨b, #[.string (mkS s)],9⟩]++o1++[]) [] (λw hO=>hO) (λo w hO=>hO.no) h1 (by simp only [List.length_take,List.length_nil];omega) λv2 o2 h2=> ?_)
    obtain ⟨V2,c2,rfl⟩:=h2.form
    refine zY [] 10 (vI (g:=y7) (l.drop k) [⟨b, #[.string (mkS s)],9⟩] o2 [] ([⟨b, #[.string (mkS s)],9⟩]++o2++[]) [] (cp:=cap-k) (λw hO=>hO) (λo w hO=>hO.no) zO gG (λw hO=>hDk k w hO.no) h2 (by simp only [List.length_take,List.length_drop,List.length_nil];omega) λv3 o3 h3=> ?_)
    have hs3:SlT v3 (l.take k++[s]++l.drop k) o3:=Sl.to (show Sl 9 1 v3 (0+(l.take k).length+1+(l.drop k).length) (([]++(l.take k).flatMap y7)++y7 s++(l.drop k).flatMap y7) o3 from h3) (by first|(simp;done)|(simp;omega)) (by rw [xB];simp)
    exact z7 [] v3 λw hO=>⟨_,o3,rfl,.inr (by rw [hq];exact hs3),(hO.past 1 (o3++[])).cast (by simp)⟩
theorem g11put_nil (s:YL)(W:World):YC 125 #[.slice none 0 0,.string (mkS s)] W λe w'=>∃ v' ob,e= .returned v'/\PutR (.slice none 0 0) [] s v' ob/\Own [] W w' ob:=by
 have hN:∀ w,Own [] W w []->Reads y7 w w.heap.size none ([]:List YL):=λw hO h0=>absurd h0 (Nat.lt_irrefl 0)
 have hq:x2 [] s=([]:List YL)++[s]++[]:=rfl
 refine z8 Tryz.func125 (jG 0 [] (x5 11 [] [] (λw hO=>hO.no) (x_h2 [] 3 5 (vI (g:=y7) (T:=9) (k:=0) (v:= .slice none 0 0) (xs:=[]) (([]:List YL)) [] [] [] ([]) [] (cp:=0) (λw hO=>hO) (λo w hO=>hO.no) zO gG (λw hO=>hN w hO.no) (Sl.nil _ _) (by simp only [List.length_take,List.length_nil];omega) λv1 o1 h1=> ?_) (gF 1 9 #[.string (mkS s)] λb=>zY [] 3 (vI (g:=y7) (T:=9) (k:=0) (v:= .slice none 0 0) (xs:=[]) (([]:List YL)) [⟨b, #[.string (mkS s)],9⟩] [] [] ([⟨b, #[.string (mkS s)],9⟩]) [] (cp:=0) (λw hO=>hO) (λo w hO=>hO.no) zO gG (λw hO=>hN w hO.no) (Sl.nil _ _) (by simp only [List.length_take,List.length_nil];omega) λv1 o1 h1=> ?_)))))
 ·obtain ⟨V1,c1,rfl⟩:=h1.form
  refine zY [] 5 (gF 1 9 #[.string (mkS s)] λb=>zY [] 6 (vZ (m:=1) (cp:=1) [⟨b, #[.string (mkS s)],9⟩] o1 [] 0 (⟨b, #[.string (mkS s)],9⟩::([]++o1++[])) [] (λw hO=>hO.cast (by simp)) (λo w hO=>hO.no) h1 (by simp only [List.length_take,List.length_nil];omega) λv2 o2 h2=> ?_))
  obtain ⟨V2,c2,rfl⟩:=h2.form
  refine zY [] 10 (vI (g:=y7) (([]:List YL)) [⟨b, #[.string (mkS s)],9⟩] o2 [] ([⟨b, #[.string (mkS s)],9⟩]++o2++[]) [] (cp:=0) (λw hO=>hO) (λo w hO=>hO.no) zO gG (λw hO=>hN w hO.no) h2 (by simp only [List.length_take,List.length_drop,List.length_nil];omega) λv3 o3 h3=> ?_)
  have hs3:SlT v3 (([]:List YL)++[s]++([]:List YL)) o3:=Sl.to (show Sl 9 1 v3 (0+(([]:List YL)).length+1+(([]:List YL)).length) (([]++(([]:List YL)).flatMap y7)++y7 s++(([]:List YL)).flatMap y7) o3 from h3) (by first|(simp;done)|(simp;omega)) (by rw [xB];simp)
  exact z7 [] v3 λw hO=>⟨_,o3,rfl,.inr (by rw [hq];exact hs3),(hO.past 1 (o3++[])).cast (by simp)⟩
 ·obtain ⟨V1,c1,rfl⟩:=h1.form
  refine zY [] 6 (vZ (m:=1) (cp:=1) [⟨b, #[.string (mkS s)],9⟩] o1 [] 0 ([⟨b, #[.string (mkS s)],9⟩]++o1++[]) [] (λw hO=>hO) (λo w hO=>hO.no) h1 (by simp only [List.length_take,List.length_nil];omega) λv2 o2 h2=> ?_)
  obtain ⟨V2,c2,rfl⟩:=h2.form
  refine zY [] 10 (vI (g:=y7) (([]:List YL)) [⟨b, #[.string (mkS s)],9⟩] o2 [] ([⟨b, #[.string (mkS s)],9⟩]++o2++[]) [] (cp:=0) (λw hO=>hO) (λo w hO=>hO.no) zO gG (λw hO=>hN w hO.no) h2 (by simp only [List.length_take,List.length_drop,List.length_nil];omega) λv3 o3 h3=> ?_)
  have hs3:SlT v3 (([]:List YL)++[s]++([]:List YL)) o3:=Sl.to (show Sl 9 1 v3 (0+(([]:List YL)).length+1+(([]:List YL)).length) (([]++(([]:List YL)).flatMap y7)++y7 s++(([]:List YL)).flatMap y7) o3 from h3) (by first|(simp;done)|(simp;omega)) (by rw [xB];simp)
  exact z7 [] v3 λw hO=>⟨_,o3,rfl,.inr (by rw [hq];exact hs3),(hO.past 1 (o3++[])).cast (by simp)⟩
theorem vO {A:Option Addr}{cap:Nat}{l:List YL}{ob L:List Blk}{M:List Nat}{W0:World}(s:YL)(W:World)(hv:SlT (.slice A l.length cap) l ob)(h0:l=[]->A=none/\cap=0)(hO:Own M W0 W L)(hs:∀ x∈ob,x∈L)(hn:l.length<=900000):YC 125 #[.slice A l.length cap,.string (mkS s)] W λe w'=>∃ v' ob',e= .returned v'/\PutR (.slice A l.length cap) l s v' ob'/\Own [] W w' ob':=by
 by_cases hl:l=[]
 ·obtain ⟨rfl,rfl⟩:=h0 hl
  subst hl
  exact g11put_nil s W
 ·have h1:Reads y7 W W.heap.size A l:=SlT.reads hv rfl hO hs
  rcases hv.2 with ⟨e,h0,_⟩|⟨g,c,cur,e,_,h2,_⟩
  ·exact absurd (List.eq_nil_of_length_eq_zero h0) hl
  ·injection e with e1 e2 e3
   subst e3
   exact g11put_cons A cap g 0 l s W e1 hl h2 h1 hn
end
section
def nmF (k:Nat):YL:=if k=0 then dfl else if k=1 then [120] else if k=2 then [121] else [122]
def ItemG (needs:List Nv)(keep:Nat->Bool)(s:YL):Prop:=
 (∃ m∈needs,¬ m.opt=[]/\s=[63]++m.opt)\/(∃ m∈needs,∃ w,m.any=[w]/\s=w.name++[47]++[120])∨∃ j,j<4/\keep j=true/\s=nmF j
structure OfG (needs:List Nv)(keep:Nat->Bool)(l:List YL)(b:Nat):Prop where
 rise:kE l=true
 len:l.length<=b
 all:∀ s∈l,ItemG needs keep s
theorem OfG.nil (needs:List Nv)(keep:Nat->Bool):OfG needs keep [] 0:=⟨rfl,Nat.le_refl _,λs h=>by simp at h⟩
theorem OfG.more {needs:List Nv}{keep:Nat->Bool}{l:List YL}{b b':Nat}(h:OfG needs keep l b)(hb:b<=b'):OfG needs keep l b':=⟨h.rise,Nat.le_trans h.len hb,h.all⟩
theorem OfG.put {needs:List Nv}{keep:Nat->Bool}{l:List YL}{b:Nat}(h:OfG needs keep l b){s:YL}(hs:ItemG needs keep s):OfG needs keep (x2 l s) (b+1):=
 ⟨put_rise h.rise,Nat.le_trans put_len (Nat.add_le_add_right h.len 1),λx hx=>by
  rcases put_mem.1 hx with rfl|hx
  ·exact hs
  ·exact h.all x hx⟩
structure FeatsG (needs:List Nv)(keep:Nat->Bool)(k:Nat)(xs:List Fv):Prop where
 names:xs.map Fv.name=((List.range k).filter keep).map nmF
 each:∀ x∈xs,OfG needs keep x.of 5
theorem FeatsG.nil (needs:List Nv)(keep:Nat->Bool):FeatsG needs keep 0 []:=⟨rfl,λx h=>by simp at h⟩
theorem FeatsG.skip {needs:List Nv}{keep:Nat->Bool}{k:Nat}{xs:List Fv}(h:FeatsG needs keep k xs)(hk:keep k=false):FeatsG needs keep (k+1) xs:=
 ⟨by rw [List.range_succ,List.filter_append,List.map_append,←h.names];simp [hk],h.each⟩
theorem FeatsG.add {needs:List Nv}{keep:Nat->Bool}{k:Nat}{xs:List Fv}(h:FeatsG needs keep k xs)(hk:keep k=true){x:Fv}(hn:x.name=nmF k)(ho:OfG needs keep x.of 5):FeatsG needs keep (k+1) (xs++[x]):=
 ⟨by rw [List.range_succ,List.filter_append,List.map_append,List.map_append,←h.names];simp [hk,hn],λy hy=>by
  rcases List.mem_append.1 hy with hy|hy
  ·exact h.each y hy
  ·rw [List.mem_singleton.1 hy];exact ho⟩
structure OfS (A:Option Addr)(c:Nat)(l:List YL)(o3:List Blk):Prop where
 ex:∃ o,SlT (.slice A l.length c) l o∧∀ b∈o,b∈o3
 bare:l=[]->A=none/\c=0
theorem OfS.nil:OfS none 0 [] []:=⟨⟨[],Sl.nil _ _,λb h=>h⟩,λ_=>⟨rfl,rfl⟩⟩
theorem OfS.more {A:Option Addr}{c:Nat}{l:List YL}{o o':List Blk}(h:OfS A c l o)(hs:∀ b∈o,b∈o'):OfS A c l o':=by
 obtain ⟨⟨q,h1,h2⟩,h3⟩:=h
 exact ⟨⟨q,h1,λb hb=>hs b (h2 b hb)⟩,h3⟩
theorem put_ne (l:List YL)(s:YL):x2 l s≠[]:=λe=>by
 have:s∈x2 l s:=put_mem.2 (.inl rfl)
 rw [e] at this;simp at this
theorem OfS.put {A:Option Addr}{c:Nat}{l:List YL}{o3 ob:List Blk}{s:YL}{v:Value}(h:OfS A c l o3)(hp:PutR (.slice A l.length c) l s v ob):∃ A' c',v= .slice A' (x2 l s).length c'/\OfS A' c' (x2 l s) (o3++ob):=by
 rcases hp with ⟨rfl,e,rfl⟩|hp
 ·refine ⟨A,c,by rw [e], ?_⟩
  rw [e]
  exact h.more λb hb=>by simpa using hb
 ·obtain ⟨A',c',rfl⟩:=SlT.form hp
  exact ⟨A',c',rfl,⟨⟨ob,hp,λb hb=>List.mem_append_right _ hb⟩,λe=>absurd e (put_ne l s)⟩⟩
structure FtO (A:Option Addr)(c:Nat)(xs:List Fv)(o7 o2:List Blk):Prop where
 top:Sl 87 2 (.slice A xs.length c) xs.length (xs.flatMap fvC) o7
 each:∀ x∈xs,∃ o,SlT (.slice x.A x.of.length x.cap) x.of o∧∀ b∈o,b∈o2
theorem FtO.nil:FtO none 0 [] [] []:=⟨Sl.nil _ _,λx h=>by simp at h⟩
theorem FtO.more {A:Option Addr}{c:Nat}{xs:List Fv}{o7 o2 o2':List Blk}(h:FtO A c xs o7 o2)(hs:∀ b∈o2,b∈o2'):FtO A c xs o7 o2':=⟨h.top,λx hx=>by
 obtain ⟨o,h1,h2⟩:=h.each x hx
 exact ⟨o,h1,λb hb=>hs b (h2 b hb)⟩⟩
theorem FtO.add {A A':Option Addr}{c c':Nat}{xs:List Fv}{o7 o7' o2:List Blk}{x:Fv}(h:FtO A c xs o7 o2)(ht:Sl 87 2 (.slice A' (xs.length+1) c') (xs.length+1) (xs.flatMap fvC++fvC x) o7')(hx:∃ o,SlT (.slice x.A x.of.length x.cap) x.of o∧∀ b∈o,b∈o2):FtO A' c' (xs++[x]) o7' o2:=
 ⟨by rw [List.length_append,List.length_singleton,List.flatMap_append,List.flatMap_singleton];exact ht,λy hy=>by
  rcases List.mem_append.1 hy with hy|hy
  ·exact h.each y hy
  ·rw [List.mem_singleton.1 hy];exact hx⟩
end
end Go.Proofs.YtdafengdngglpaaGreatDoor
