import Derived.WalkKit
import Derived.Lib.Hide
import Derived.Lib.SliceRun
import Derived.Outline
import Derived.Deep.RegionHeld3
import Derived.IntWalk
import Derived.StillTailTactics
import Derived.Laws.StructEq
import Derived.Test.YtflhcaljcoekpaaGreatDoorIG2
set_option maxRecDepth 1000000
set_option maxHeartbeats 8000000
set_option linter.unusedVariables false
set_option linter.unusedSimpArgs false
set_option linter.unnecessarySimpa false
namespace Go.Proofs.YtflhcaljcoekpaaGreatDoor
open Go.RowKit

section
theorem gY (r:Int)(b:Bool)(hb:gU r=b)(w:World):
  YC 108 #[.int .i32 r] w λe w'=>e= .returned (.bool b)/\w=w':=by
 subst hb
 unfold gU
 go_enter Tryz.func108,Tryz.ntmps108
 go_wp2
 all_goals go_ret
 all_goals exact ⟨zZ (by simp;try omega),rfl⟩
theorem name_any (s:ByteArray)(w:World)(hs:s.size<=maxLen):
  YC 69 #[.string s] w (YR (.bool (dR s)) w):=by
 unfold maxLen at hs
 by_cases h16:s.size<=16
 ·go_enter Tryz.func69,Tryz.ntmps69
  go_wp2
  go_loopw [3] (λv wr=>∃ (pos:Nat) (l:Int),wr=w.iter s pos/\pos<=s.size/\v= .int .i32 l/\Hid (kF (decide (pos=0)) l (s.data.toList.drop pos)=kF true 45 s.data.toList)) (λ_ wr=>s.size-wr.iterPos w.heap.size)
  case atStart=>exact ⟨0,45,rfl,Nat.zero_le _,rfl,rfl⟩
  case round=>
   obtain ⟨pos,l,rfl,hple,rfl,HR⟩:=hrel
   by_cases hp:pos<s.size
   ·have HD:=Lib.hid (gJ s pos hp)
    by_cases ha:(s[pos]'hp).toNat<128
    ·have hnx:∀ ty,(Instr.next (.pointer (some ⟨w.heap.size,0,none⟩)) true ty).run YP (w.iter s pos)=_:=λty=>run_next_ascii w s pos ty hp ha
     by_cases hl:gU (s[pos]'hp).toNat=true
     ·have HL:=Lib.hid hl
      clear hl
      go_wp2_with (go_at_call 108;refine (gY _ true HL.out _).mono ?_;rintro e w' ⟨rfl,rfl⟩)
      go_roundw
      case rel=>exact ⟨pos+1,_,rfl,by omega,rfl,by rw [←HR.out,HD.out,nameGo_let _ _ _ _ HL.out];rfl⟩
      case measure=>simp;omega
     ·have HL:=Lib.hid (Bool.eq_false_iff.2 hl)
      clear hl
      by_cases hd:yW (s[pos]'hp).toNat=true
      ·have HG:=Lib.hid hd
       clear hd
       by_cases h0:pos=0
       ·subst h0
        go_wp2_with (first|(go_at_call 108;refine (gY _ false HL.out _).mono ?_;rintro e w' ⟨rfl,rfl⟩)|(go_at_call 109;refine (kT _ true HG.out _).mono ?_;rintro e w' ⟨rfl,rfl⟩))
        go_ret
        exact ⟨zZ (by unfold dR;rw [←HR.out,HD.out,nameGo_dig _ _ _ _ HL.out HG.out];simp),yC _ _ _⟩
       ·have hpi:((pos:Int)==0)=false:=by simp;omega
        go_wp2_with (first|(go_at_call 108;refine (gY _ false HL.out _).mono ?_;rintro e w' ⟨rfl,rfl⟩)|(go_at_call 109;refine (kT _ true HG.out _).mono ?_;rintro e w' ⟨rfl,rfl⟩))
        go_roundw
        case rel=>exact ⟨pos+1,_,rfl,by omega,rfl,by rw [←HR.out,HD.out,nameGo_dig _ _ _ _ HL.out HG.out];simp [h0,Hid]⟩
        case measure=>simp;omega
      ·have HG:=Lib.hid (Bool.eq_false_iff.2 hd)
       clear hd
       by_cases h3:((s[pos]'hp).toNat:Int)=45
       ·have H3:=Lib.hid h3
        have h3b:(((s[pos]'hp).toNat:Int)==45)=true:=by simp [h3]
        clear h3
        by_cases h4:l=45
        ·have h4b:(l==45)=true:=by simp [h4]
         have H4:=Lib.hid h4
         clear h4
         go_wp2_with (first|(go_at_call 108;refine (gY _ false HL.out _).mono ?_;rintro e w' ⟨rfl,rfl⟩)|(go_at_call 109;refine (kT _ false HG.out _).mono ?_;rintro e w' ⟨rfl,rfl⟩))
         go_ret
         exact ⟨zZ (by unfold dR;rw [←HR.out,HD.out,nameGo_dash _ _ _ _ HL.out HG.out H3.out,if_pos H4.out];simp),yC _ _ _⟩
        ·have h4b:(l==45)=false:=by simp [h4]
         go_wp2_with (first|(go_at_call 108;refine (gY _ false HL.out _).mono ?_;rintro e w' ⟨rfl,rfl⟩)|(go_at_call 109;refine (kT _ false HG.out _).mono ?_;rintro e w' ⟨rfl,rfl⟩))
         go_roundw
         case rel=>exact ⟨pos+1,_,rfl,by omega,rfl,by rw [←HR.out,HD.out,nameGo_dash _ _ _ _ HL.out HG.out H3.out,if_neg h4];rfl⟩
         case measure=>simp;omega
       ·have h3b:(((s[pos]'hp).toNat:Int)==45)=false:=by simpa using h3
        go_wp2_with (first|(go_at_call 108;refine (gY _ false HL.out _).mono ?_;rintro e w' ⟨rfl,rfl⟩)|(go_at_call 109;refine (kT _ false HG.out _).mono ?_;rintro e w' ⟨rfl,rfl⟩))
        go_ret
        exact ⟨zZ (by unfold dR;rw [←HR.out,HD.out,nameGo_else _ _ _ _ HL.out HG.out h3];simp),yC _ _ _⟩
    ·have hnx:∀ ty,(Instr.next (.pointer (some ⟨w.heap.size,0,none⟩)) true ty).run YP (w.iter s pos)=_:=λty=>run_next_any w s pos ty hp
     have hhi:=(decode_high s pos hp Om).1
     have HL:=Lib.hid (letB_hi _ hhi)
     have HG:=Lib.hid (digB_hi _ hhi)
     have h3b:(((Utf8.decode s pos).1:Int)==45)=false:=by simp;omega
     go_wp2_with (first|(go_at_call 108;refine (gY _ false HL.out _).mono ?_;rintro e w' ⟨rfl,rfl⟩)|(go_at_call 109;refine (kT _ false HG.out _).mono ?_;rintro e w' ⟨rfl,rfl⟩))
     go_ret
     exact ⟨zZ (by unfold dR;rw [←HR.out,HD.out,nameGo_hi _ _ _ _ Om];simp),yC _ _ _⟩
   ·have hnx:∀ ty,(Instr.next (.pointer (some ⟨w.heap.size,0,none⟩)) true ty).run YP (w.iter s pos)=_:=λty=>run_next_end w s pos ty hp
    have HD:=Lib.hid (jB s pos hp)
    go_wp2
    go_ret
    exact ⟨zZ (by unfold dR;rw [←HR.out,HD.out,kF];by_cases hq:l=45<;>simp [h16,hq]),yC _ _ _⟩
 ·go_enter Tryz.func69,Tryz.ntmps69
  go_wp2
  go_ret
  exact ⟨zZ (by unfold dR;simp [h16]),Below.refl _ _⟩
theorem word_any (s:ByteArray)(w:World)(hs:s.size<=maxLen):
  YC 162 #[.string s] w (YR (.bool (wordB s)) w):=by
 unfold maxLen at hs
 by_cases h0:s.size=0
 ·have H0:=Lib.hid h0
  have hz:((s.size:Int)==0)=true:=by simp [h0]
  clear h0
  go_enter Tryz.func162,Tryz.ntmps162
  go_wp2
  go_ret
  exact ⟨zZ (by unfold wordB;simp [H0.out]),Below.refl _ _⟩
 ·have hz:((s.size:Int)==0)=false:=wA Om
  by_cases h12:s.size<=12
  ·go_enter Tryz.func162,Tryz.ntmps162
   go_wp2
   go_loopw [] (λwr=>∃ (pos:Nat),wr=w.iter s pos/\pos<=s.size/\Hid (gS (s.data.toList.drop pos)=gS s.data.toList)) (λwr=>s.size-wr.iterPos w.heap.size)
   case atStart=>exact ⟨0,rfl,Nat.zero_le _,rfl⟩
   case round=>
    obtain ⟨pos,rfl,hple,HR⟩:=hrel
    by_cases hp:pos<s.size
    ·have HD:=Lib.hid (gJ s pos hp)
     by_cases ha:(s[pos]'hp).toNat<128
     ·have hnx:∀ ty,(Instr.next (.pointer (some ⟨w.heap.size,0,none⟩)) true ty).run YP (w.iter s pos)=_:=λty=>run_next_ascii w s pos ty hp ha
      by_cases hl:gU (s[pos]'hp).toNat=true
      ·have HL:=Lib.hid hl
       clear hl
       go_wp2_with (go_at_call 108;refine (gY _ true HL.out _).mono ?_;rintro e w' ⟨rfl,rfl⟩)
       go_roundw
       case rel=>exact ⟨pos+1,rfl,by omega,by rw [←HR.out,HD.out,bP _ _ (by unfold wdB;rw [HL.out];rfl)];rfl⟩
       case measure=>simp;omega
      ·have HL:=Lib.hid (Bool.eq_false_iff.2 hl)
       clear hl
       by_cases hd:yW (s[pos]'hp).toNat=true
       ·have HG:=Lib.hid hd
        clear hd
        go_wp2_with (first|(go_at_call 108;refine (gY _ false HL.out _).mono ?_;rintro e w' ⟨rfl,rfl⟩)|(go_at_call 109;refine (kT _ true HG.out _).mono ?_;rintro e w' ⟨rfl,rfl⟩))
        go_roundw
        case rel=>exact ⟨pos+1,rfl,by omega,by rw [←HR.out,HD.out,bP _ _ (by unfold wdB;rw [HL.out,HG.out];rfl)];rfl⟩
        case measure=>simp;omega
       ·have HG:=Lib.hid (Bool.eq_false_iff.2 hd)
        clear hd
        by_cases h3:((s[pos]'hp).toNat:Int)=95
        ·have H3:=Lib.hid h3
         have h3b:(((s[pos]'hp).toNat:Int) !=95)=false:=by simp [h3]
         clear h3
         go_wp2_with (first|(go_at_call 108;refine (gY _ false HL.out _).mono ?_;rintro e w' ⟨rfl,rfl⟩)|(go_at_call 109;refine (kT _ false HG.out _).mono ?_;rintro e w' ⟨rfl,rfl⟩))
         go_roundw
         case rel=>exact ⟨pos+1,rfl,by omega,by rw [←HR.out,HD.out,bP _ _ (by unfold wdB;rw [HL.out,HG.out,H3.out];rfl)];rfl⟩
         case measure=>simp;omega
        ·have h3b:(((s[pos]'hp).toNat:Int) !=95)=true:=by simpa using h3
         go_wp2_with (first|(go_at_call 108;refine (gY _ false HL.out _).mono ?_;rintro e w' ⟨rfl,rfl⟩)|(go_at_call 109;refine (kT _ false HG.out _).mono ?_;rintro e w' ⟨rfl,rfl⟩))
         go_ret
         exact ⟨zZ (by unfold wordB;rw [←HR.out,HD.out,wordGo_bad _ _ (by unfold wdB;rw [HL.out,HG.out];simpa using h3)];simp),yC _ _ _⟩
     ·have hnx:∀ ty,(Instr.next (.pointer (some ⟨w.heap.size,0,none⟩)) true ty).run YP (w.iter s pos)=_:=λty=>run_next_any w s pos ty hp
      have hhi:=(decode_high s pos hp Om).1
      have HL:=Lib.hid (letB_hi _ hhi)
      have HG:=Lib.hid (digB_hi _ hhi)
      have h3b:(((Utf8.decode s pos).1:Int) !=95)=true:=by simp;omega
      go_wp2_with (first|(go_at_call 108;refine (gY _ false HL.out _).mono ?_;rintro e w' ⟨rfl,rfl⟩)|(go_at_call 109;refine (kT _ false HG.out _).mono ?_;rintro e w' ⟨rfl,rfl⟩))
      go_ret
      exact ⟨zZ (by unfold wordB;rw [←HR.out,HD.out,wordGo_bad _ _ (by unfold wdB;rw [letB_hi8 _ Om,tJ _ Om];simp;omega)];simp),yC _ _ _⟩
    ·have hnx:∀ ty,(Instr.next (.pointer (some ⟨w.heap.size,0,none⟩)) true ty).run YP (w.iter s pos)=_:=λty=>run_next_end w s pos ty hp
     have HD:=Lib.hid (jB s pos hp)
     go_wp2
     go_ret
     exact ⟨zZ (by unfold wordB;rw [←HR.out,HD.out,gS];simp;omega),yC _ _ _⟩
  ·go_enter Tryz.func162,Tryz.ntmps162
   go_wp2
   go_ret
   exact ⟨zZ (by unfold wordB;simp [h12]),Below.refl _ _⟩
end
section
theorem tE (r:Int)(b:Bool)(hb:gU r=b)(w:World):
  YC 120 #[.int .u8 r] w λe w'=>e= .returned (.bool b)/\w=w':=by
 subst hb
 unfold gU
 go_enter Tryz.func120,Tryz.ntmps120
 go_wp2
 all_goals go_ret
 all_goals exact ⟨zZ (by simp;try omega),rfl⟩
end
section
theorem nameB_short (s:ByteArray)(h:s.size<1):dR s=false:=by
 have:s.data.toList=[]:=by have:=jB s 0 Om;simpa using this
 unfold dR;rw [this];simp [kF]
theorem rname_any (s:ByteArray)(w:World)(hs:s.size<=maxLen):
  YC 76 #[.string s] w λe w'=>e= .returned (.bool (dR s))/\w=w':=by
 unfold maxLen at hs
 by_cases h0:s.size<1
 ·go_enter Tryz.func76,Tryz.ntmps76
  go_wp2
  go_ret
  exact ⟨zZ (by rw [nameB_short s h0]),rfl⟩
 ·have hp0:0<s.size:=by omega
  by_cases h16:s.size<=16
  ·have HB:=Lib.hid (nameB_ref s hp0 h16)
   by_cases hl:gU s[0].toNat=true
   ·have HL:=Lib.hid hl
    clear hl
    by_cases h45:(s[s.size-1].toNat:Int)=45
    ·have H45:=Lib.hid h45
     have h45b:((s[s.size-1].toNat:Int)==45)=true:=by simp [h45]
     clear h45
     go_enter Tryz.func76,Tryz.ntmps76
     go_wp2_with (go_at_call 120;refine (tE _ true HL.out _).mono ?_;rintro e w' ⟨rfl,rfl⟩)
     go_ret
     exact ⟨zZ (by rw [HB.out,HL.out,H45.out];rfl),rfl⟩
    ·have h45b:((s[s.size-1].toNat:Int)==45)=false:=by simpa using h45
     go_enter Tryz.func76,Tryz.ntmps76
     go_wp2_with (go_at_call 120;refine (tE _ true HL.out _).mono ?_;rintro e w' ⟨rfl,rfl⟩)
     go_loop [3] (λi=>∃ (k:Nat) (hk:k<s.size),i=YI (k+1:Nat)/\Hid (vE s[k].toNat (s.data.toList.drop (k+1))=vE s[0].toNat (s.data.toList.drop 1))) (λi=>s.size-(intOf i).toNat)
     case atStart=>exact ⟨0,hp0,rfl,rfl⟩
     case round=>
      obtain ⟨k,hk,rfl,HR⟩:=hrel
      by_cases hp:k+1<s.size
      ·have HD:=Lib.hid (gJ s (k+1) hp)
       by_cases hl2:gU s[k+1].toNat=true
       ·have HL2:=Lib.hid hl2
        have hne:¬ (s[k+1].toNat:Int)=45:=by unfold gU at hl2;simp at hl2;omega
        have hcb:((s[k+1].toNat:Int)==45)=false:=by simpa using hne
        have HN:=Lib.hid hne
        clear hl2 hne
        go_wp2_with (go_at_call 120;refine (tE _ true HL2.out _).mono ?_;rintro e w' ⟨rfl,rfl⟩)
        go_round
        case rel=>exact ⟨k+1,hp,by go_num,by rw [←HR.out,HD.out,nameRef_ok _ _ _ (by rw [HL2.out];rfl) (by simp [HN.out])];rfl⟩
        case measure=>simp [intOf];omega
       ·have HL2:=Lib.hid (Bool.eq_false_iff.2 hl2)
        clear hl2
        by_cases hd2:yW s[k+1].toNat=true
        ·have HG2:=Lib.hid hd2
         have hne:¬ (s[k+1].toNat:Int)=45:=by unfold yW at hd2;simp at hd2;omega
         have hcb:((s[k+1].toNat:Int)==45)=false:=by simpa using hne
         have HN:=Lib.hid hne
         clear hd2 hne
         go_wp2_with (first|(go_at_call 120;refine (tE _ false HL2.out _).mono ?_;rintro e w' ⟨rfl,rfl⟩)|(go_at_call 121;refine (wJ _ true HG2.out _).mono ?_;rintro e w' ⟨rfl,rfl⟩))
         go_round
         case rel=>exact ⟨k+1,hp,by go_num,by rw [←HR.out,HD.out,nameRef_ok _ _ _ (by rw [HL2.out,HG2.out];rfl) (by simp [HN.out])];rfl⟩
         case measure=>simp [intOf];omega
        ·have HG2:=Lib.hid (Bool.eq_false_iff.2 hd2)
         clear hd2
         by_cases h3:(s[k+1].toNat:Int)=45
         ·have H3:=Lib.hid h3
          have hcb:((s[k+1].toNat:Int)==45)=true:=by simp [h3]
          have hcn:((s[k+1].toNat:Int) !=45)=false:=by simp [h3]
          clear h3
          by_cases h4:(s[k].toNat:Int)=45
          ·have H4:=Lib.hid h4
           have hpb:((s[k].toNat:Int)==45)=true:=by simp [h4]
           clear h4
           go_wp2_with (first|(go_at_call 120;refine (tE _ false HL2.out _).mono ?_;rintro e w' ⟨rfl,rfl⟩)|(go_at_call 121;refine (wJ _ false HG2.out _).mono ?_;rintro e w' ⟨rfl,rfl⟩))
           go_ret
           exact ⟨zZ (by rw [HB.out,←HR.out,HD.out,nameRef_two _ _ _ H3.out H4.out];simp),rfl⟩
          ·have hpb:((s[k].toNat:Int)==45)=false:=by simpa using h4
           go_wp2_with (first|(go_at_call 120;refine (tE _ false HL2.out _).mono ?_;rintro e w' ⟨rfl,rfl⟩)|(go_at_call 121;refine (wJ _ false HG2.out _).mono ?_;rintro e w' ⟨rfl,rfl⟩))
           go_round
           case rel=>exact ⟨k+1,hp,by go_num,by rw [←HR.out,HD.out,nameRef_ok _ _ _ (by rw [H3.out];simp) (by simp [h4])];rfl⟩
           case measure=>simp [intOf];omega
         ·have hcn:((s[k+1].toNat:Int) !=45)=true:=by simpa using h3
          go_wp2_with (first|(go_at_call 120;refine (tE _ false HL2.out _).mono ?_;rintro e w' ⟨rfl,rfl⟩)|(go_at_call 121;refine (wJ _ false HG2.out _).mono ?_;rintro e w' ⟨rfl,rfl⟩))
          go_ret
          exact ⟨zZ (by rw [HB.out,←HR.out,HD.out,nameRef_bad _ _ _ (by rw [HL2.out,HG2.out];simpa using h3)];simp),rfl⟩
      ·have HD:=Lib.hid (jB s (k+1) hp)
       go_wp2
       go_ret
       exact ⟨zZ (by rw [HB.out,←HR.out,HD.out,HL.out,vE];simp [h45]),rfl⟩
   ·have HL:=Lib.hid (Bool.eq_false_iff.2 hl)
    clear hl
    go_enter Tryz.func76,Tryz.ntmps76
    go_wp2_with (go_at_call 120;refine (tE _ false HL.out _).mono ?_;rintro e w' ⟨rfl,rfl⟩)
    go_ret
    exact ⟨zZ (by rw [HB.out,HL.out];rfl),rfl⟩
  ·go_enter Tryz.func76,Tryz.ntmps76
   go_wp2
   go_ret
   exact ⟨zZ (by unfold dR;simp [h16]),rfl⟩
end
section
set_option linter.unnecessarySimpa false
theorem fK (s:YL)(W:World)(hs:s.length<=1000000):YC 76 #[.string (mkS s)] W (YR (.bool (nmL s)) W):=
 (rname_any (mkS s) W (by rw [y7];unfold maxLen;omega)).mono λe w' ⟨h,e2⟩=>⟨h,e2▸Below.refl _ _⟩
theorem kind_w {s:YL}(h:wdL s=true):zO s=(1,s,[]):=by unfold zO;rw [if_pos h]
theorem kind_o {s:YL}{c:UInt8}(h:wdL s=false)(h0:s.head?=some c)(hc:(c.toNat:Int)=63)(h2:wdL (s.drop 1)=true):zO s=(2,s.drop 1,[]):=by
 have:c=63:=UInt8.toNat_inj.1 (by simp;omega)
 unfold zO
 rw [if_neg (by rw [h];simp),if_pos (by rw [h0,this,h2];rfl)]
theorem kind_two' {s a b:YL}(h:wdL s=false)(hno:¬ (s.head?=some 63/\wdL (s.drop 1)=true))(hl:zA 47 [] s=[a,b]):zO s=if nmL a && wdL b then (3,a,b) else (0,[],[]):=by
 unfold zO
 rw [if_neg (by rw [h];simp),if_neg (by rw [Bool.and_eq_true,decide_eq_true_eq];exact hno),hl]
theorem kind_not {s:YL}(h:wdL s=false)(hno:¬ (s.head?=some 63/\wdL (s.drop 1)=true))(hl:¬ (zA 47 [] s).length=2):zO s=(0,[],[]):=by
 unfold zO
 rw [if_neg (by rw [h];simp),if_neg (by rw [Bool.and_eq_true,decide_eq_true_eq];exact hno)]
 split
 ·rename_i a b e;rw [e] at hl;exact absurd rfl hl
 ·rfl
theorem two11_of {l:List YL}(h:l.length=2):∃ a b,l=[a,b]:=by
 match l,h with
 | [a,b],_=>exact ⟨a,b,rfl⟩
theorem r11Item_any (s:YL)(W:World)(hs:s.length<=1000000):YC 221 #[.string (mkS s)] W (YR (.tuple #[YI (zO s).1,.string (mkS (zO s).2.1),.string (mkS (zO s).2.2)]) W):=by
 have hK:=λ{z:Int} {a b:YL} (h:zO s=(z,a,b)) (w:World) (hb:YB W w)=>show Ending.returned (.tuple #[YI z,.string (mkS a),.string (mkS b)])= .returned (.tuple #[YI (zO s).1,.string (mkS (zO s).2.1),.string (mkS (zO s).2.2)])/\YB W w from ⟨by rw [h],hb⟩
 refine zD Tryz.func221 (z7 (k:=218) (args:= #[.string (mkS s)]) (v:= .bool (wdL s)) [] (λw _=>bR s w hs) ?_)
 cases h1:wdL s with
 |true=>exact gL [] (.int .i64 1) (.string (mkS s)) (.string (mkS [])) λw hO=>hK (kind_w h1) w hO.below
 |false=>
  refine x_joinF (.s (.s (.s (.s (.s (.s (.s .z))))))) (α:=Bool) (λd=>[(0,.string (mkS s)),(21,.bool d)]) (λ_=>[]) (λd=>d=(decide (s.head?=some 63) && wdL (s.drop 1))) [] (λnj=> ?_) (λd g hd=> ?_)
  ·refine zG 11 [] ((0:Int)<(s.length:Int)) (λh2=> ?_) (λh2=>nj false [] (by rw [List.eq_nil_of_length_eq_zero (by omega:s.length=0)];rfl) Kr)
   have h0s:0<s.length:=by omega
   have hhd:s.head?=some s[0]:=by rw [List.head?_eq_getElem?,List.getElem?_eq_getElem h0s]
   exact nO 14 [] s 0 h0s s[0] rfl (zG 15 [] ((s[0].toNat:Int)=63) (λh3=>x_slo 19 [] s 1 Om Om (.string (mkS (s.drop 1))) rfl (z7 (k:=218) (args:= #[.string (mkS (s.drop 1))]) (v:= .bool (wdL (s.drop 1))) [] (λw _=>bR (s.drop 1) w (by rw [List.length_drop];omega)) (nj (wdL (s.drop 1)) [] (by rw [hhd,show s[0]=63 from UInt8.toNat_inj.1 (by simp;omega)];simp) Kr))) (λh3=>nj false [] (by rw [hhd,decide_eq_false (λq=>h3 (by rw [Option.some.inj q];rfl))];rfl) Kr))
  cases d with
  |true=>
   have hy:=hd.symm
   rw [Bool.and_eq_true,decide_eq_true_eq] at hy
   exact x_slo 23 [] s 1 Om (by cases s with|nil=>cases hy.1|cons a r=>simp;omega) (.string (mkS (s.drop 1))) rfl (gL [] (YI 2) (.string (mkS (s.drop 1))) (.string (mkS [])) λw hO=>hK (kind_o h1 hy.1 (by decide) hy.2) w hO.below)
  |false=>
   have hno:¬ (s.head?=some 63/\wdL (s.drop 1)=true):=λq=>by rw [q.1,q.2] at hd;cases hd
   refine yB (R:=λv' ob'=>SlT v' (zA 47 [] s) ob') [] (λw hO=>rsplitB_own s 47 w hs) ?_
   intro vw ow hsw
   obtain ⟨AW,cw,rfl⟩:=hsw.form
   refine zG 28 [] (((zA 47 [] s).length:Int)=2) (λh5=> ?_) (λh5=>gL [] (YI 0) (.string (mkS [])) (.string (mkS [])) λw hO=>hK (kind_not h1 hno Om) w hO.below)
   obtain ⟨x,y,hxy⟩:=two11_of (l:=(zA 47 [] s)) Om
   obtain ⟨gb,hgb,hcb⟩:=Sl.at0 hsw Om
   have hxl:x.length<=1000000:=Nat.le_trans (split_le 47 s [] x (by rw [hxy];simp)) (by simpa using hs)
   have hyl:y.length<=1000000:=Nat.le_trans (split_le 47 s [] y (by rw [hxy];simp)) (by simpa using hs)
   have hl0:∀ w,Own [] W w ow->(loadVar 9 ⟨gb,0+0*1,none⟩).run YP w= .ok (.string (mkS x)) w:=λw hO=>Reads.load zR (SlT.reads hsw rfl hO (λx hx=>hx)) hgb 0 0 (by rw [hxy];show 0<2;omega) rfl _ (by simp only [hxy];kernel_rfl)
   have hl1:∀ w,Own [] W w ow->(loadVar 9 ⟨gb,0+1*1,none⟩).run YP w= .ok (.string (mkS y)) w:=λw hO=>Reads.load zR (SlT.reads hsw rfl hO (λx hx=>hx)) hgb 1 0 (by rw [hxy];show 1<2;omega) rfl _ (by simp only [hxy];kernel_rfl)
   have hk:=kind_two' h1 hno hxy
   refine zL 31 [] hgb (zA 47 [] s).length cw 0 1 Om (zI 32 [] 9 gb (0+0*1) (.string (mkS x)) (λw hO=>hl0 w (hO.past 0 ow)) (z7 (k:=76) (args:= #[.string (mkS x)]) (v:= .bool (nmL x)) [] (λw _=>fK x w hxl) ?_))
   cases h6:nmL x with
   |false=>exact gL [] (.int .i64 0) (.string (mkS [])) (.string (mkS [])) λw hO=>hK (by rw [hk,if_neg (by simp [h6])]) w hO.below
   |true=>
    refine zL 37 [] hgb (zA 47 [] s).length cw 1 1 Om (zI 38 [] 9 gb (0+1*1) (.string (mkS y)) (λw hO=>hl1 w (hO.past 0 ow)) (z7 (k:=218) (args:= #[.string (mkS y)]) (v:= .bool (wdL y)) [] (λw _=>bR y w hyl) ?_))
    cases h7:wdL y with
    |false=>exact gL [] (.int .i64 0) (.string (mkS [])) (.string (mkS [])) λw hO=>hK (by rw [hk,if_neg (by simp [h7])]) w hO.below
    |true=>exact zL 42 [] hgb (zA 47 [] s).length cw 0 1 Om (zI 43 [] 9 gb (0+0*1) (.string (mkS x)) (λw hO=>hl0 w (hO.past 0 ow)) (zL 45 [] hgb (zA 47 [] s).length cw 1 1 Om (zI 46 [] 9 gb (0+1*1) (.string (mkS y)) (λw hO=>hl1 w (hO.past 0 ow)) (gL [] (.int .i64 3) (.string (mkS x)) (.string (mkS y)) λw hO=>hK (by rw [hk,if_pos (by rw [h6,h7];rfl)]) w hO.below))))
end
section
set_option linter.unnecessarySimpa false
theorem rise_iff:∀ {l:List YL},xR l=true↔∀ i (h:i+1<l.length),Op.bytesLess (l[i]'Om) l[i+1]=true
 | []=>⟨λ_ i h=>by simp at h,λ_=>rfl⟩
 | [a]=>⟨λ_ i h=>by simp at h,λ_=>rfl⟩
 |a::b::r=>by
  rw [xR,Bool.and_eq_true,rise_iff (l:=b::r)]
  constructor
  ·rintro ⟨h1,h2⟩ i h
   cases i with
   |zero=>exact h1
   |succ i=>exact h2 i (by simpa using h)
  ·intro h
   exact ⟨h 0 (by simp),λi hi=>h (i+1) (by simpa using hi)⟩
theorem tx_step {a b:List YL}{k:Nat}(ha:k<a.length)(hb:k<b.length)(h:a.take k=b.take k)(e:a[k]=b[k]):a.take (k+1)=b.take (k+1):=by
 rw [List.take_succ_eq_append_getElem ha,List.take_succ_eq_append_getElem hb,h,e]
theorem yH {α:Type}{p:α->Prop}{l:List α}{i:Nat}(hi:i<l.length)(h:∀ x∈l.take i,p x)(hp:p l[i]):∀ y∈l.take (i+1),p y:=λy hy=>by
 rw [List.take_succ_eq_append_getElem hi] at hy
 rcases List.mem_append.1 hy with hy|hy
 ·exact h y hy
 ·rw [List.mem_singleton.1 hy];exact hp
theorem xE {α:Type}{p:α->Prop}{l:List α}{i:Nat}(hi:l.length<=i)(h:∀ x∈l.take i,p x):∀ y∈l,p y:=by rwa [List.take_of_length_le hi] at h
theorem bU {l:List Ft}{of:List YL}(h:¬ of.length<=6\/xR of=false∨∃ s∈of,vR l s=false):kA l of=false:=by
 unfold kA
 rcases h with h|h|⟨s,hs,h⟩
 ·rw [decide_eq_false h];rfl
 ·rw [h];simp
 ·rw [show of.all (vR l)=false from by rw [List.all_eq_false];exact ⟨s,hs,by rw [h];simp⟩];simp
theorem items_yes {l:List Ft}{of:List YL}(h:of.length<=6)(h2:xR of=true)(h3:∀ s∈of,vR l s=true):kA l of=true:=by
 unfold kA
 rw [decide_eq_true h,h2,List.all_eq_true.2 h3];rfl
theorem n7 {l:List Ft}(h:¬ l.length<=8\/(∃ f∈l,wdL f.name=false)\/xR (l.map Ft.name)=false∨∃ f∈l,kA l f.of=false):jU l=false:=by
 unfold jU
 rcases h with h|⟨f,hf,h⟩|h|⟨f,hf,h⟩
 ·rw [decide_eq_false h];rfl
 ·rw [show l.all (λf=>wdL f.name)=false from by rw [List.all_eq_false];exact ⟨f,hf,by rw [h];simp⟩];simp
 ·rw [h];simp
 ·rw [show l.all (λf=>kA l f.of)=false from by rw [List.all_eq_false];exact ⟨f,hf,by rw [h];simp⟩];simp
theorem may_yes {l:List Ft}(h:l.length<=8)(h2:∀ f∈l,wdL f.name=true)(h3:xR (l.map Ft.name)=true)(h4:∀ f∈l,kA l f.of=true):jU l=true:=by
 unfold jU
 rw [decide_eq_true h,List.all_eq_true.2 h2,h3,List.all_eq_true.2 h4];rfl
theorem ft_mem {xs:List Fv}{x:Fv}(h:x∈xs):x.ft∈yI xs:=List.mem_map.2 ⟨x,h,rfl⟩
theorem ft_rise {xs:List Fv}:xR ((yI xs).map Ft.name)=true↔∀ i (h:i+1<xs.length),Op.bytesLess (xs[i]'Om).name xs[i+1].name=true:=by
 rw [rise_iff]
 constructor
 ·intro h i hi
  have:=h i (by rw [List.length_map,j7];exact hi)
  simpa [yI,Fv.ft] using this
 ·intro h i hi
  rw [List.length_map,j7] at hi
  simpa [yI,Fv.ft] using h i hi
theorem r1Rising_any (A:Option Addr)(cap:Nat)(l:List YL)(W:World)(hv:Reads zW W W.heap.size A l)(hn:l.length<=1000000):YC 259 #[.slice A l.length cap] W (YR (.bool (xR l)) W):=by
 refine zD Tryz.func259 (zT (α:=Nat) (λi=>[(0,.slice A l.length cap),(3,YI ((i+1:Nat):Int))]) (λi=>[]) (λi m=>(i<=l.length∧∀ z (hz:z+1<l.length),z<i->Op.bytesLess (l[z]'Om) l[z+1]=true)/\m=l.length-i) (0) (l.length-0) [] ⟨⟨Nat.zero_le _,λz hz hzi=>absurd hzi (Nat.not_lt_zero _)⟩,rfl⟩ ?_)
 rintro i m g kk ⟨hrel,hmm⟩ nx hkk
 subst hkk
 have hj6:=hrel.1
 by_cases h1:((i+1:Nat):Int)<(l.length:Int)
 ·have hjl:i+1<l.length:=by omega
  obtain ⟨bp,off,hA,hlt,hcell⟩:=hv Om
  obtain ⟨x,hx⟩:∃ x,l[i]=x:=⟨_,rfl⟩
  obtain ⟨y,hy⟩:∃ y,l[i+1]=y:=⟨_,rfl⟩
  refine zG 7 [] (((i+1:Nat):Int)<(l.length:Int)) (λ_=> ?_) (λhq=>absurd (h1) hq)
  refine xY 12 [] (YI (IntKind.i64.wrap (((i+1:Nat):Int) -1))) (YI (i:Int)) (by rw [IntWalk.i64_in _ Om,show ((i+1:Nat):Int) -1=(i:Int) by omega]) (zL 13 [] hA l.length cap i 1 (by first|omega|(simp;omega)) (zI 14 [] 9 bp (off+i*1) (.string (mkS x)) (λw hO=>Reads.load zR (hv.on hO.below hO.size) hA i 0 Om Om _ (by rw [hx];kernel_rfl)) (zL 17 [] hA l.length cap (i+1) 1 (by first|omega|(simp;omega)) (zI 18 [] 9 bp (off+(i+1)*1) (.string (mkS y)) (λw hO=>Reads.load zR (hv.on hO.below hO.size) hA (i+1) 0 Om Om _ (by rw [hy];kernel_rfl)) ?_))))
  cases h2:Op.bytesLess x y with
  |true=>
   refine x_sge 19 [] x y (λ_=> ?_) (λhq=>absurd (hq.symm.trans h2) (by decide))
   exact x_i 9 [] (((i+1+1:Nat):Int)) (nx (i+1) (l.length-(i+1)) [] Om ⟨⟨by omega,λz hz hzi=>by rcases Nat.lt_succ_iff_lt_or_eq.1 hzi with q|rfl;exact hrel.2 z hz q;rw [hx,hy];exact h2⟩,rfl⟩ Kr Kr)
  |false=>
   exact x_sge 19 [] x y (λhq=>absurd (hq.symm.trans h2) (by decide)) (λ_=>z8 [] Z5 (λw hO=>⟨by rw [show xR l=false from by cases hq:xR l with|false=>rfl|true=>have q:=rise_iff.1 hq i hjl;rw [hx,hy,h2] at q;cases q],hO.below⟩))
 exact zG 7 [] (((i+1:Nat):Int)<(l.length:Int)) (λhq=>absurd hq (h1)) (λ_=>z8 [] Z4 (λw hO=>⟨by rw [show xR l=true from rise_iff.2 λz hz=>hrel.2 z hz Om],hO.below⟩))
theorem r1Texts_any (A B:Option Addr)(capa capb:Nat)(a b:List YL)(W:World)(hv:Reads zW W W.heap.size A a)(hu:Reads zW W W.heap.size B b)(hn:a.length<=1000000)(hm:b.length<=1000000):YC 139 #[.slice A a.length capa,.slice B b.length capb] W (YR (.bool (decide (a=b))) W):=by
 refine zD Tryz.func139 ?_
 by_cases h1:(a.length:Int)=(b.length:Int)
 ·refine gE 10 [] ((a.length:Int)=(b.length:Int)) (λ_=> ?_) (λhq=>absurd (h1) hq)
  refine zT (α:=Nat) (λk=>[(0,.slice A a.length capa),(1,.slice B b.length capb),(5,YI (k:Int))]) (λk=>[]) (λk m=>(k<=a.length/\a.take k=b.take k)/\m=a.length-k) (0) (a.length-0) [] ⟨⟨Nat.zero_le _,rfl⟩,rfl⟩ ?_
  rintro k m g kk ⟨hrel,hmm⟩ nx hkk
  subst hkk
  have hk6:=hrel.1
  by_cases h2:(k:Int)<(a.length:Int)
  ·have hka:k<a.length:=by omega
   have hkb:k<b.length:=by omega
   obtain ⟨ba,oa,hA,hlta,hcella⟩:=hv Om
   obtain ⟨bb,ob,hB,hltb,hcellb⟩:=hu Om
   obtain ⟨x,hx⟩:∃ x,a[k]=x:=⟨_,rfl⟩
   obtain ⟨y,hy⟩:∃ y,b[k]=y:=⟨_,rfl⟩
   refine zG 14 [] ((k:Int)<(a.length:Int)) (λ_=> ?_) (λhq=>absurd (h2) hq)
   refine zL 19 [] hA a.length capa k 1 (by first|omega|(simp;omega)) (zI 20 [] 9 ba (oa+k*1) (.string (mkS x)) (λw hO=>Reads.load zR (hv.on hO.below hO.size) hA k 0 hka Om _ (by rw [hx];kernel_rfl)) (zL 23 [] hB b.length capb k 1 (by first|omega|(simp;omega)) (zI 24 [] 9 bb (ob+k*1) (.string (mkS y)) (λw hO=>Reads.load zR (hu.on hO.below hO.size) hB k 0 hkb Om _ (by rw [hy];kernel_rfl)) ?_)))
   by_cases h3:(x:YL)=y
   ·refine jJ 25 [] x y (λ_=> ?_) (λhq=>absurd (h3) hq)
    exact x_i 16 [] (((k+1:Nat):Int)) (nx (k+1) (a.length-(k+1)) [] Om ⟨⟨by omega,tx_step hka hkb hrel.2 (by rw [hx,hy];exact h3)⟩,rfl⟩ Kr Kr)
   exact jJ 25 [] x y (λhq=>absurd hq (h3)) (λ_=>z8 [] Z5 (λw hO=>⟨by rw [show decide (a=b)=false from decide_eq_false λq=>h3 (by rw [←hx,←hy];simp only [q])],hO.below⟩))
  exact zG 14 [] ((k:Int)<(a.length:Int)) (λhq=>absurd hq (h2)) (λ_=>z8 [] Z4 (λw hO=>⟨by rw [show a=b from by have q:=hrel.2;rw [List.take_of_length_le Om,List.take_of_length_le Om] at q;exact q];simp,hO.below⟩))
 exact gE 10 [] ((a.length:Int)=(b.length:Int)) (λhq=>absurd hq (h1)) (λ_=>z8 [] Z5 (λw hO=>⟨by rw [show decide (a=b)=false from decide_eq_false λq=>h1 (by rw [q])],hO.below⟩))
theorem r11Find_any (A:Option Addr)(cap:Nat)(xs:List Fv)(n:YL)(W:World)(hv:FtIn W W.heap.size A xs):YC 298 #[.slice A xs.length cap,.string (mkS n)] W (YR (YI (bN (yI xs) n)) W):=by
 refine zD Tryz.func298 (zT (α:=Nat) (λi=>[(0,.slice A xs.length cap),(1,.string (mkS n)),(5,YI (i:Int))]) (λi=>[]) (λi m=>(i<=xs.length∧∀ f∈yI (xs.take i),¬ f.name=n)/\m=xs.length-i) (0) (xs.length-0) [] ⟨⟨Nat.zero_le _,λf hf=>by simp [yI] at hf⟩,rfl⟩ ?_)
 rintro i m g kk ⟨hrel,hmm⟩ nx hkk
 subst hkk
 have hi6:=hrel.1;have hxn:=hv.n
 by_cases h1:(i:Int)<(xs.length:Int)
 ·have hil:i<xs.length:=by omega
  obtain ⟨bp,off,hA,hlt,hcell⟩:=hv.top Om
  obtain ⟨x,hx⟩:∃ x,xs[i]=x:=⟨_,rfl⟩
  refine zG 9 [] ((i:Int)<(xs.length:Int)) (λ_=> ?_) (λhq=>absurd (h1) hq)
  refine zL 14 [] hA xs.length cap i 2 (by first|omega|(simp;omega)) (zI 16 [] 9 bp (off+i*2+0) (.string (mkS x.name)) (λw hO=>Reads.load vH (hv.top.on hO.below hO.size) hA i 0 hil Om _ (by rw [hx];kernel_rfl)) ?_)
  by_cases h2:(x.name:YL)=n
  ·refine xH 18 [] x.name n (λ_=> ?_) (λhq=>absurd (h2) hq)
   exact z8 [] (YI (i:Int)) (λw hO=>⟨by rw [show bN (yI xs) n=(i:Int) from by unfold bN;rw [findI_at (i:=i) (by rw [j7];exact hil) (by rw [ftOf_get hil hx];exact h2) (by rw [←nF];exact hrel.2)]],hO.below⟩)
  exact xH 18 [] x.name n (λhq=>absurd hq (h2)) (λ_=>x_i 11 [] (((i+1:Nat):Int)) (nx (i+1) (xs.length-(i+1)) [] Om ⟨⟨by omega,by rw [nF];exact yH (by rw [j7];exact hil) (by rw [←nF];exact hrel.2) (by rw [ftOf_get hil hx];exact h2)⟩,rfl⟩ Kr Kr))
 exact zG 9 [] ((i:Int)<(xs.length:Int)) (λhq=>absurd hq (h1)) (λ_=>z8 [] (YI (-1)) (λw hO=>⟨by rw [show bN (yI xs) n= -1 from by unfold bN;rw [findI_none (xE (i:=i) (by rw [j7];omega) (by rw [←nF];exact hrel.2))]],hO.below⟩))
theorem r11Is_any (A:Option Addr)(cap:Nat)(xs:List Fv)(n:YL)(W:World)(hv:FtIn W W.heap.size A xs):YC 260 #[.slice A xs.length cap,.string (mkS n)] W (YR (.bool (isT (yI xs) n)) W):=by
 refine zD Tryz.func260 ?_
 by_cases h1:(n:YL)=[100,101,102,97,117,108,116]
 ·refine xH 6 [] n ([100,101,102,97,117,108,116]) (λ_=> ?_) (λhq=>absurd (h1) hq)
  exact z8 [] Z4 (λw hO=>⟨by rw [nH];unfold dfl;simp [h1],hO.below⟩)
 refine xH 6 [] n ([100,101,102,97,117,108,116]) (λhq=>absurd hq (h1)) (λ_=>z7 (k:=298) (args:= #[.slice A xs.length cap,.string (mkS n)]) (v:=YI (bN (yI xs) n)) [] (λw hO=>r11Find_any A cap xs n w (hv.on hO.below hO.size)) ?_)
 by_cases h2:(0:Int)<=bN (yI xs) n
 ·refine zG 11 [] ((0:Int)<=bN (yI xs) n) (λ_=> ?_) (λhq=>absurd (h2) hq)
  exact z8 [] Z4 (λw hO=>⟨by rw [nH];unfold dfl;simp [h1,h2],hO.below⟩)
 exact zG 11 [] ((0:Int)<=bN (yI xs) n) (λhq=>absurd hq (h2)) (λ_=>z8 [] Z5 (λw hO=>⟨by rw [nH];unfold dfl;simp [h1,h2],hO.below⟩))
theorem r11items_any (A:Option Addr)(cap:Nat)(xs:List Fv)(B:Option Addr)(capb:Nat)(of:List YL)(W:World)(hv:FtIn W W.heap.size A xs)(hu:Reads zW W W.heap.size B of)(hn:of.length<=5000)(ht:∀ s∈of,s.length<=1000000):YC 220 #[.slice A xs.length cap,.slice B of.length capb] W (YR (.bool (kA (yI xs) of)) W):=by
 refine zD Tryz.func220 ?_
 by_cases h1:(6:Int)<(of.length:Int)
 ·refine zG 11 [] ((6:Int)<(of.length:Int)) (λ_=> ?_) (λhq=>absurd (h1) hq)
  exact z8 [] Z5 (λw hO=>⟨by rw [show kA (yI xs) of=false from bU (.inl Om)],hO.below⟩)
 refine zG 11 [] ((6:Int)<(of.length:Int)) (λhq=>absurd hq (h1)) (λ_=>z7 (k:=259) (args:= #[.slice B of.length capb]) (v:= .bool (xR of)) [] (λw hO=>r1Rising_any B capb of w (hu.on hO.below hO.size) Om) ?_)
 cases h2:xR of with
 |true=>
  refine zT (α:=Nat) (λk=>[(0,.slice A xs.length cap),(1,.slice B of.length capb),(5,YI (k:Int))]) (λk=>[]) (λk m=>(k<=of.length∧∀ s∈of.take k,vR (yI xs) s=true)/\m=of.length-k) (0) (of.length-0) [] ⟨⟨Nat.zero_le _,λs hs=>by simp at hs⟩,rfl⟩ ?_
  rintro k m g kk ⟨hrel,hmm⟩ nx hkk
  subst hkk
  have hk6:=hrel.1
  by_cases h3:(k:Int)<(of.length:Int)
  ·have hkl:k<of.length:=by omega
   obtain ⟨bp,off,hB,hlt,hcell⟩:=hu Om
   obtain ⟨s,hs⟩:∃ s,of[k]=s:=⟨_,rfl⟩
   have hsm:s∈of:=hs▸List.getElem_mem hkl
   refine zG 20 [] ((k:Int)<(of.length:Int)) (λ_=> ?_) (λhq=>absurd (h3) hq)
   refine zL 26 [] hB of.length capb k 1 (by first|omega|(simp;omega)) (zI 27 [] 9 bp (off+k*1) (.string (mkS s)) (λw hO=>Reads.load zR (hu.on hO.below hO.size) hB k 0 hkl Om _ (by rw [hs];kernel_rfl)) (z7 (k:=221) (args:= #[.string (mkS s)]) (v:= .tuple #[YI ((zO s).1),.string (mkS (zO s).2.1),.string (mkS (zO s).2.2)]) [] (λw hO=>r11Item_any s w (ht s hsm)) ?_))
   by_cases h4:((zO s).1:Int)=0
   ·refine zG 33 [] (((zO s).1:Int)=0) (λ_=> ?_) (λhq=>absurd (h4) hq)
    exact z8 [] Z5 (λw hO=>⟨by rw [show kA (yI xs) of=false from bU (.inr (.inr ⟨s,hsm,by unfold vR;simp [h4]⟩))],hO.below⟩)
   refine zG 33 [] (((zO s).1:Int)=0) (λhq=>absurd hq (h4)) (λ_=> ?_)
   by_cases h5:((zO s).1:Int)=1
   ·refine zG 36 [] (((zO s).1:Int)=1) (λ_=> ?_) (λhq=>absurd (h5) hq)
    refine z7 (k:=260) (args:= #[.slice A xs.length cap,.string (mkS (zO s).2.1)]) (v:= .bool (isT (yI xs) (zO s).2.1)) [] (λw hO=>r11Is_any A cap xs (zO s).2.1 w (hv.on hO.below hO.size)) ?_
    cases h6:isT (yI xs) (zO s).2.1 with
    |true=>
     exact x_i 22 [] (((k+1:Nat):Int)) (nx (k+1) (of.length-(k+1)) [] Om ⟨⟨by omega,yH hkl hrel.2 (by rw [hs];exact by unfold vR;simp [h4,h5,h6])⟩,rfl⟩ Kr Kr)
    |false=>
     exact z8 [] Z5 (λw hO=>⟨by rw [show kA (yI xs) of=false from bU (.inr (.inr ⟨s,hsm,by unfold vR;simp [h4,h5,h6]⟩))],hO.below⟩)
   exact zG 36 [] (((zO s).1:Int)=1) (λhq=>absurd hq (h5)) (λ_=>x_i 22 [] (((k+1:Nat):Int)) (nx (k+1) (of.length-(k+1)) [] Om ⟨⟨by omega,yH hkl hrel.2 (by rw [hs];exact by unfold vR;simp [h4,h5])⟩,rfl⟩ Kr Kr))
  exact zG 20 [] ((k:Int)<(of.length:Int)) (λhq=>absurd hq (h3)) (λ_=>z8 [] Z4 (λw hO=>⟨by rw [show kA (yI xs) of=true from items_yes Om h2 (xE (i:=k) Om hrel.2)],hO.below⟩))
 |false=>
  exact z8 [] Z5 (λw hO=>⟨by rw [show kA (yI xs) of=false from bU (.inr (.inl h2))],hO.below⟩)
end
section
theorem nK {k:FuncId}{args:Array Value}{w:World}{v:Value}(h:Calls YP k args w λe w'=>e= .returned v/\w=w'):Calls YP k args w (YR v w):=h.mono λe w' ⟨q1,q2⟩=>⟨q1,q2▸Below.refl _ _⟩
theorem num_q (n:Int)(W:World):YC 155 #[YI n] W (YR (.bool (zU n)) W):=by
 unfold zU
 refine zD Tryz.func155 (zG 4 [] (n>=0) (λh=>zG 7 [] (n<=9999) (λh2=> ?_) (λh2=> ?_)) (λh=> ?_))
 ·exact z8 [] Z4 λw hO=>⟨by rw [decide_eq_true ⟨h,h2⟩],hO.below⟩
 ·exact z8 [] Z5 λw hO=>⟨by rw [decide_eq_false λq=>h2 q.2],hO.below⟩
 ·exact z8 [] Z5 λw hO=>⟨by rw [decide_eq_false λq=>h q.1],hO.below⟩
theorem numer_q (t:YL)(W:World)(ht:t.length<=1000000):YC 207 #[.string (mkS t)] W (YR (.bool (k7 t)) W):=by
 have hno:∀ c∈t,yW c.toNat=false->k7 t=false:=λc hc h=>by
  unfold k7 yG
  rw [List.all_eq_false.2 ⟨c,hc,by rw [h];decide⟩,Bool.and_false]
 refine zD Tryz.func207 (zT (α:=Nat) (λi=>[(0,.string (mkS t)),(3,YI (i:Int))]) (λ_=>[]) (λi m=>(i<=t.length∧∀ c∈t.take i,yW c.toNat=true)/\m=t.length-i) 0 t.length [] ⟨⟨Nat.zero_le _,λc h=>by simp at h⟩,rfl⟩ ?_)
 rintro i mm g kk ⟨⟨hi,hd⟩,hmm⟩ nx hkk
 subst hkk
 refine zG 7 [] ((i:Int)<(t.length:Int)) (λh7=> ?_) (λh7=> ?_)
 rotate_left
 ·refine z8 [] (.bool (decide ((t.length:Int)>0))) λw hO=>⟨?_,hO.below⟩
  have ha:=xE (p:=λc:UInt8=>yW c.toNat=true) (show t.length<=i by omega) hd
  unfold k7 yG
  rw [List.all_eq_true.2 ha]
  cases t<;>simp
 have hj:i<t.length:=by omega
 have hst:=yH (p:=λc:UInt8=>yW c.toNat=true) hj hd
 have hn:=hno _ (List.getElem_mem hj)
 obtain ⟨c,hc⟩:∃ c,t[i]=c:=⟨_,rfl⟩
 rw [hc] at hst hn
 refine nO 12 [] t i hj c hc (zG 13 [] ((c.toNat:Int)<48) (λh=> ?_) (λh=>nO 17 [] t i hj c hc (zG 18 [] ((c.toNat:Int)>57) (λh2=> ?_) (λh2=> ?_))))
 ·exact z8 [] Z5 λw hO=>⟨by rw [hn (by unfold yW;simp;omega)],hO.below⟩
 ·exact z8 [] Z5 λw hO=>⟨by rw [hn (by unfold yW;simp;omega)],hO.below⟩
 ·exact x_i 9 [] ((i+1:Nat):Int) (nx (i+1) (t.length-(i+1)) [] Om ⟨⟨hj,hst (by unfold yW;simp;omega)⟩,rfl⟩ Kr Kr)
theorem tag_q (t:YL)(W:World):YC 205 #[.string (mkS t)] W (YR (.bool (gM t)) W):=by
 have hno:∀ c∈t,d7 c=false->gM t=false:=λc hc h=>by
  unfold gM
  rw [List.all_eq_false.2 ⟨c,hc,by rw [h];decide⟩,Bool.and_false]
 refine zD Tryz.func205 (zG 7 [] ((t.length:Int)<1) (λh=> ?_) (λh=>zG 11 [] ((t.length:Int)>8) (λh2=> ?_) (λh2=> ?_)))
 ·exact z8 [] Z5 λw hO=>⟨by unfold gM;rw [decide_eq_false Om];rfl,hO.below⟩
 ·exact z8 [] Z5 λw hO=>⟨by unfold gM;rw [decide_eq_false Om];rfl,hO.below⟩
 refine zT (α:=Nat) (λi=>[(0,.string (mkS t)),(3,YI (i:Int))]) (λ_=>[]) (λi m=>(i<=t.length∧∀ c∈t.take i,d7 c=true)/\m=t.length-i) 0 t.length [] ⟨⟨Nat.zero_le _,λc h=>by simp at h⟩,rfl⟩ ?_
 rintro i mm g kk ⟨⟨hi,hd⟩,hmm⟩ nx hkk
 subst hkk
 refine zG 16 [] ((i:Int)<(t.length:Int)) (λh7=> ?_) (λh7=> ?_)
 rotate_left
 ·refine z8 [] Z4 λw hO=>⟨?_,hO.below⟩
  unfold gM
  rw [decide_eq_true Om,List.all_eq_true.2 (xE (p:=λc:UInt8=>d7 c=true) (show t.length<=i by omega) hd)];rfl
 have hj:i<t.length:=by omega
 have hst:=yH (p:=λc:UInt8=>d7 c=true) hj hd
 have hn:=hno _ (List.getElem_mem hj)
 obtain ⟨c,hc⟩:∃ c,t[i]=c:=⟨_,rfl⟩
 rw [hc] at hst hn
 have hC:d7 c=(decide (97<=(c.toNat:Int)/\(c.toNat:Int)<=122)||decide (48<=(c.toNat:Int)/\(c.toNat:Int)<=57)||decide ((c.toNat:Int)=45)):=rfl
 rw [hC] at hst hn
 generalize (c.toNat:Int)=z at*
 have good:∀ m',m'=t.length-(i+1)->(decide (97<=z/\z<=122)||decide (48<=z/\z<=57)||decide (z=45))=true->(i+1<=t.length∧∀ c∈t.take (i+1),d7 c=true)/\m'=t.length-(i+1):=λm' e q=>⟨⟨hj,hst q⟩,e⟩
 refine nO 21 [] t i hj c hc (zG 23 [] (z<97) (λh1=>zG 30 [] (z<48) (λh3=>gE 38 [] (z=45) (λh5=> ?_) (λh5=> ?_)) (λh3=>zG 33 [] (z>57) (λh4=>gE 38 [] (z=45) (λh5=>absurd h5 (by omega)) (λh5=> ?_)) (λh4=> ?_))) (λh1=>zG 26 [] (z>122) (λh2=>zG 30 [] (z<48) (λh3=>absurd h3 (by omega)) (λh3=>zG 33 [] (z>57) (λh4=>gE 38 [] (z=45) (λh5=>absurd h5 (by omega)) (λh5=> ?_)) (λh4=>absurd h4 (by omega)))) (λh2=> ?_)))
 ·exact x_i 18 [] ((i+1:Nat):Int) (nx (i+1) _ [] Om (good _ rfl (by simp;omega)) Kr Kr)
 ·exact z8 [] Z5 λw hO=>⟨by rw [hn (by simp;omega)],hO.below⟩
 ·exact z8 [] Z5 λw hO=>⟨by rw [hn (by simp;omega)],hO.below⟩
 ·exact x_i 18 [] ((i+1:Nat):Int) (nx (i+1) _ [] Om (good _ rfl (by simp;omega)) Kr Kr)
 ·exact z8 [] Z5 λw hO=>⟨by rw [hn (by simp;omega)],hO.below⟩
 ·exact x_i 18 [] ((i+1:Nat):Int) (nx (i+1) _ [] Om (good _ rfl (by simp;omega)) Kr Kr)
theorem slt_elem {A:Option Addr}{cap:Nat}{l:List YL}{ob:List Blk}(h:SlT (.slice A l.length cap) l ob){i:Nat}(hi:i<l.length):∃ g,A=some ⟨g,0,none⟩∧∀ {M:List Nat} {W:World} {L:List Blk} (w:World),Own M W w L->(∀ x∈ob,x∈L)->(loadVar 9 ⟨g,0+i*1+0,none⟩).run YP w= .ok (.string (mkS l[i])) w:=by
 obtain ⟨g,cur,rfl,_⟩:=Sl.block h Om
 refine ⟨g,rfl,λw hO hs=> ?_⟩
 obtain ⟨b,o,e,hel⟩:=(SlT.reads h rfl hO hs).elem zR i hi
 simp only [Option.some.injEq,Addr.mk.injEq,and_true] at e
 obtain ⟨rfl,rfl⟩:=e
 exact hel w (Below.refl _ _) _ 0 _ Kr
theorem rnum_q (t:YL)(W:World)(ht:t.length<=1000000):YC 206 #[.string (mkS t)] W (YR (.tuple #[YI (x8 t),.bool (v6 t)]) W):=nK (rnumber_mk t W (by unfold maxLen;omega))
theorem tags_q (s:YL)(b:Bool)(W:World)(hs:s.length<=1000000):YC 156 #[.string (mkS s),.bool b] W (YR (.bool (mS s b)) W):=by
 have hT:s≠[]->mS s b=(decide ((pcs s).length<=4) && (pcs s).all (tagF b)):=λh=>by
  rw [tagsB_eq];cases s with
  |nil=>exact absurd rfl h
  |cons x r=>rfl
 have hln:=t8 s
 refine zD Tryz.func156 (xH 10 [] s [] (λh=> ?_) (λh=> ?_))
 ·exact z8 [] Z4 λw hO=>⟨by rw [h];rfl,hO.below⟩
 have hT:=hT h
 rw [hT]
 refine yB (R:=λv ob=>SlT v (pcs s) ob) [] (λw hO=>(rsplit_own s w hs).mono λe w' ⟨v,ob,q1,q2,q3⟩=>⟨v,ob,q1,q2,q3⟩) ?_
 intro v ob hS
 obtain ⟨A,cap,rfl⟩:=SlT.form hS
 clear hT
 generalize pcs s=l at*
 refine zG 15 [] ((l.length:Int)>4) (λh4=> ?_) (λh4=> ?_)
 ·exact z8 [] Z5 λw hO=>⟨by rw [decide_eq_false Om];rfl,hO.below⟩
 rw [decide_eq_true (show l.length<=4 by omega),Bool.true_and]
 refine zQ [] ([]++ob) (λw hO=>hO.past 0 _) (zT (α:=Nat) (λi=>[(1,.bool b),(5,.slice A l.length cap),(6,YI (i:Int))]) (λ_=>[]++ob) (λi m=>(i<=l.length∧∀ t∈l.take i,tagF b t=true)/\m=l.length-i) 0 l.length [] ⟨⟨Nat.zero_le _,λc h=>by simp at h⟩,rfl⟩ ?_)
 rintro i mm g kk ⟨⟨hi,hd⟩,hmm⟩ nx hkk
 subst hkk
 refine zG 19 [] ((i:Int)<(l.length:Int)) (λh7=> ?_) (λh7=> ?_)
 rotate_left
 ·exact z8 [] Z4 λw hO=>⟨by rw [List.all_eq_true.2 (xE (p:=λt=>tagF b t=true) (show l.length<=i by omega) hd)],hO.below⟩
 have hj:i<l.length:=by omega
 have hst:=yH (p:=λt=>tagF b t=true) hj hd
 have hn:tagF b l[i]=false->l.all (tagF b)=false:=λq=>all_cut i hj q
 have htl:l[i].length<=1000000:=by have:=hln _ (List.getElem_mem hj);omega
 obtain ⟨ga,rfl,hel⟩:=slt_elem hS hj
 have hF:tagF b l[i]=(gM l[i] && !(b && k7 l[i] && !v6 l[i])):=rfl
 rw [hF] at hst hn
 generalize l[i]=t at*
 have ld:∀ w,Own [] W w ([]++ob)->(loadVar 9 ⟨ga,0+i*1+0,none⟩).run YP w= .ok (.string (mkS t)) w:=λw hO=>hel w hO (λx hx=>hx)
 refine zL 24 [] (b:=ga) (off:=0) rfl l.length cap i 1 hj (zI 25 [] 9 ga (0+i*1+0) (.string (mkS t)) (λw hO=>ld w (hO.past 0 _)) (z7 (v:= .bool (gM t)) [] (λw hO=>tag_q t w) (zV 26 (gM t) (λg1=> ?_) (λg1=> ?_))))
 rotate_left
 ·exact z8 [] Z5 λw hO=>⟨by rw [hn (by rw [g1];rfl)],hO.below⟩
 refine zL 31 [] (b:=ga) (off:=0) rfl l.length cap i 1 hj (zI 32 [] 9 ga (0+i*1+0) (.string (mkS t)) (λw hO=>ld w (hO.past 0 _)) (z7 (v:= .tuple #[YI (x8 t),.bool (v6 t)]) [] (λw hO=>rnum_q t w htl) (nP 37 [] b (λg2=> ?_) (λg2=> ?_))))
 rotate_left
 ·exact x_i 21 [] ((i+1:Nat):Int) (nx (i+1) (l.length-(i+1)) [] Om ⟨⟨hj,hst (by rw [g1,g2];rfl)⟩,rfl⟩ Kr Kr)
 refine zL 40 [] (b:=ga) (off:=0) rfl l.length cap i 1 hj (zI 41 [] 9 ga (0+i*1+0) (.string (mkS t)) (λw hO=>ld w (hO.past 0 _)) (z7 (v:= .bool (k7 t)) [] (λw hO=>numer_q t w htl) (nP 43 [] (k7 t) (λg3=>nP 46 [] (!v6 t) (λg4=> ?_) (λg4=> ?_)) (λg3=> ?_))))
 ·exact z8 [] Z5 λw hO=>⟨by rw [hn (by rw [g1,g2,g3,g4];rfl)],hO.below⟩
 ·exact x_i 21 [] ((i+1:Nat):Int) (nx (i+1) (l.length-(i+1)) [] Om ⟨⟨hj,hst (by rw [g1,g2,g3,g4];rfl)⟩,rfl⟩ Kr Kr)
 ·exact x_i 21 [] ((i+1:Nat):Int) (nx (i+1) (l.length-(i+1)) [] Om ⟨⟨hj,hst (by rw [g1,g2,g3];rfl)⟩,rfl⟩ Kr Kr)
theorem wI (v:Ver)(W:World)(hp:v.pre.length<=1000000)(hq:v.build.length<=1000000):YC 105 #[yT v] W (YR (.bool v.may) W):=by
 have hM:v.may=(zU v.maj && zU v.min && zU v.pat && mS v.pre true && mS v.build false):=by rw [tagsB_pre,tagsB_build];rfl
 rw [hM]
 have cP:=λw=>tags_q v.pre true w hp
 have cQ:=λw=>tags_q v.build false w hq
 have hno:∀ w,YB W w→∀ b,b=false->Ending.returned (.bool false)= .returned (.bool b)/\YB W w:=λw hb b e=>⟨by rw [e],hb⟩
 refine zD Tryz.func105 (zY [] λb1=>z7 (v:= .bool (zU v.maj)) [0] (λw hO=>num_q v.maj w) (zV 5 (zU v.maj) (λg1=>z7 (v:= .bool (zU v.min)) [0] (λw hO=>num_q v.min w) (zV 9 (zU v.min) (λg2=>z7 (v:= .bool (zU v.pat)) [0] (λw hO=>num_q v.pat w) (zV 14 (zU v.pat) (λg3=>z7 (v:= .bool (mS v.pre true)) [0] (λw hO=>cP w) (zV 19 (mS v.pre true) (λg4=>z7 (v:= .bool (mS v.build false)) [0] (λw hO=>cQ w) (z8 [] (.bool (mS v.build false)) λw hO=>⟨by rw [g1,g2,g3,g4];rfl,hO.below⟩)) (λg4=> ?_))) (λg3=> ?_))) (λg2=> ?_))) (λg1=> ?_)))
 ·exact z8 [] Z5 λw hO=>hno w hO.below _ (by rw [g4];simp)
 ·exact z8 [] Z5 λw hO=>hno w hO.below _ (by rw [g3];simp)
 ·exact z8 [] Z5 λw hO=>hno w hO.below _ (by rw [g2];simp)
 ·exact z8 [] Z5 λw hO=>hno w hO.below _ (by rw [g1];simp)
theorem rpres_q (a b:YL)(W:World)(ha:a.length<=1000000)(hb:b.length<=1000000):YC 107 #[.string (mkS a),.string (mkS b)] W (YR (YI (presR a b)) W):=by
 have hR:presR a b=if a=b then 0 else if a=[] then 1 else if b=[] then-1 else jT (pcs a) (pcs b):=rfl
 rw [hR]
 have hla:=t8 a
 have hlb:=t8 b
 have hna:=pcs_len a
 have hnb:=pcs_len b
 refine zD Tryz.func107 (xH 12 [] a b (λh=>z8 [] (YI 0) λw hO=>⟨by rw [if_pos h],hO.below⟩) (λh=>xH 15 [] a [] (λh2=>z8 [] (YI 1) λw hO=>⟨by rw [if_neg h,if_pos h2],hO.below⟩) (λh2=>xH 18 [] b [] (λh3=>z8 [] (YI (-1)) λw hO=>⟨by rw [if_neg h,if_neg h2,if_pos h3],hO.below⟩) (λh3=> ?_))))
 rw [if_neg h,if_neg h2,if_neg h3]
 refine yB (R:=λv ob=>SlT v (pcs a) ob) [] (λw hO=>(rsplit_own a w ha).mono λe w' ⟨v,ob,q1,q2,q3⟩=>⟨v,ob,q1,q2,q3⟩) ?_
 intro v oa hSa
 obtain ⟨A,cap,rfl⟩:=SlT.form hSa
 refine yB (R:=λv ob=>SlT v (pcs b) ob) [] (λw hO=>(rsplit_own b w hb).mono λe w' ⟨v,ob,q1,q2,q3⟩=>⟨v,ob,q1,q2,q3⟩) ?_
 intro v ob hSb
 obtain ⟨B,capb,rfl⟩:=SlT.form hSb
 generalize pcs a=l at*
 generalize pcs b=m at*
 refine zQ [] (([]++oa)++ob) (λw hO=>hO.past 0 _) (zT (α:=Nat) (λi=>[(5,.slice A l.length cap),(6,.slice B m.length capb),(7,YI (i:Int))]) (λ_=>([]++oa)++ob) (λi k=>(i<=l.length/\i<=m.length/\jT (l.drop i) (m.drop i)=jT l m)/\k=l.length-i) 0 l.length [] ⟨⟨Nat.zero_le _,Nat.zero_le _,rfl⟩,rfl⟩ ?_)
 rintro i mm g kk ⟨⟨hi,hi2,hp⟩,hmm⟩ nx hkk
 subst hkk
 have hint:=λw=>nK (mW (l.length:Int) (m.length:Int) w)
 have hend:¬ (i<l.length/\i<m.length)->jT l m=Lib.compareInt l.length m.length:=λq=>by rw [←hp];exact presL_end l m i hi hi2 q
 refine zG 26 [] ((i:Int)<(l.length:Int)) (λh26=>zG 31 [] ((i:Int)<(m.length:Int)) (λh31=> ?_) (λh31=> ?_)) (λh26=> ?_)
 rotate_left
 ·exact z7 (v:=YI (Lib.compareInt (l.length:Int) (m.length:Int))) [] (λw hO=>hint w) (z8 [] (YI (Lib.compareInt (l.length:Int) (m.length:Int))) λw hO=>⟨by rw [hend Om],hO.below⟩)
 ·exact z7 (v:=YI (Lib.compareInt (l.length:Int) (m.length:Int))) [] (λw hO=>hint w) (z8 [] (YI (Lib.compareInt (l.length:Int) (m.length:Int))) λw hO=>⟨by rw [hend Om],hO.below⟩)
 have hj:i<l.length:=by omega
 have hj2:i<m.length:=by omega
 have hon:=presL_on l m i hj hj2
 have hoff:=presL_off l m i hj hj2
 have hs1:l[i].length<=1000000:=by have:=hla _ (List.getElem_mem hj);omega
 have hs2:m[i].length<=1000000:=by have:=hlb _ (List.getElem_mem hj2);omega
 obtain ⟨ga,rfl,hel⟩:=slt_elem hSa hj
 obtain ⟨gb,rfl,hel2⟩:=slt_elem hSb hj2
 rw [hp] at hon hoff
 generalize l[i]=u at*
 generalize m[i]=v at*
 have hone:=λw=>nK (rone_any u v w hs1 hs2)
 generalize oneR u v=z at*
 have ld:∀ w,Own [] W w (([]++oa)++ob)->(loadVar 9 ⟨ga,0+i*1+0,none⟩).run YP w= .ok (.string (mkS u)) w:=λw hO=>hel w hO (λx hx=>List.mem_append_left _ hx)
 have ld2:∀ w,Own [] W w (([]++oa)++ob)->(loadVar 9 ⟨gb,0+i*1+0,none⟩).run YP w= .ok (.string (mkS v)) w:=λw hO=>hel2 w hO (λx hx=>List.mem_append_right _ hx)
 refine zL 37 [] (b:=ga) (off:=0) rfl l.length cap i 1 hj (zI 38 [] 9 ga (0+i*1+0) (.string (mkS u)) (λw hO=>ld w (hO.past 0 _)) (zL 41 [] (b:=gb) (off:=0) rfl m.length capb i 1 hj2 (zI 42 [] 9 gb (0+i*1+0) (.string (mkS v)) (λw hO=>ld2 w (hO.past 0 _)) (z7 (v:=YI z) [] (λw hO=>hone w) (gE 45 [] (z=0) (λhz=> ?_) (λhz=> ?_))))))
 ·exact x_i 34 [] ((i+1:Nat):Int) (nx (i+1) (l.length-(i+1)) [] Om ⟨⟨hj,hj2,(hon hz).symm⟩,rfl⟩ Kr Kr)
 ·exact z8 [] (YI z) λw hO=>⟨by rw [hoff hz],hO.below⟩
theorem rcompareQ_any (v u:Ver)(W:World)(h1:v.pre.length<=1000000)(h2:v.build.length<=1000000)(h3:u.pre.length<=1000000)(h4:u.build.length<=1000000):YC 68 #[yT v,yT u] W (YR (YI (qQ v u)) W):=by
 have cV:=λw=>wI v w h1 h2
 have cU:=λw=>wI u w h3 h4
 have cP:=λw=>rpres_q v.pre u.pre w h1 h3
 have c1:=λw=>nK (mW v.maj u.maj w)
 have c2:=λw=>nK (mW v.min u.min w)
 have c3:=λw=>nK (mW v.pat u.pat w)
 rw [cmpR_split]
 generalize Lib.compareInt v.maj u.maj=x at*
 generalize Lib.compareInt v.min u.min=y at*
 generalize Lib.compareInt v.pat u.pat=z at*
 generalize presR v.pre u.pre=p at*
 refine zD Tryz.func68 (zY [] λb2=>zY [] λb3=>z7 (v:= .bool v.may) [1] (λw hO=>cV w) (zV 9 v.may (λe1=>z7 (v:= .bool u.may) [0] (λw hO=>cU w) (zV 13 u.may (λe2=> ?_) (λe2=> ?_))) (λe1=> ?_)))
 rotate_left
 ·exact z8 [] (YI 0) λw hO=>⟨by rw [e1,e2];rfl,hO.below⟩
 ·exact z8 [] (YI 0) λw hO=>⟨by rw [e1];rfl,hO.below⟩
 rw [e1,e2,if_pos (by rfl)]
 refine z7 (v:=YI x) [1,0] (λw hO=>c1 w) (gE 22 [] (x=0) (λhx=>z7 (v:=YI y) [1,0] (λw hO=>c2 w) (gE 30 [] (y=0) (λhy=>z7 (v:=YI z) [1,0] (λw hO=>c3 w) (gE 38 [] (z=0) (λhz=> ?_) (λhz=> ?_))) (λhy=> ?_))) (λhx=> ?_))
 ·exact z7 (v:=YI p) [1,0] (λw hO=>cP w) (z8 [] (YI p) λw hO=>⟨by rw [if_neg (λq=>q hx),if_neg (λq=>q hy),if_neg (λq=>q hz)],hO.below⟩)
 ·exact z8 [] (YI z) λw hO=>⟨by rw [if_neg (λq=>q hx),if_neg (λq=>q hy),if_pos hz],hO.below⟩
 ·exact z8 [] (YI y) λw hO=>⟨by rw [if_neg (λq=>q hx),if_pos hy],hO.below⟩
 ·exact z8 [] (YI x) λw hO=>⟨by rw [if_pos hx],hO.below⟩
end
section
def bumpN (v:Ver)(k:Nat):Ver:=if k=0 then Ver.rel (v.maj+1) 0 0 else if k=1 then Ver.rel v.maj (v.min+1) 0 else Ver.rel v.maj v.min (v.pat+1)
def fX (v:Ver)(part:Int):Bool:=v.may && decide (0<=part/\part<3) && !(pO v.maj v.min v.pat part.toNat==9999)
def bumpV (v:Ver)(part:Int):Ver:=if fX v part then bumpN v part.toNat else Ver.zero
def BEnd (v:Ver)(part:Int)(w:World)(e:Ending)(w':World):Prop:=e= .returned (.tuple #[yT (bumpV v part),.bool (fX v part)])/\YB w w'
def nextOk (v:Ver):Bool:=v.may && (!v.pre.isEmpty||fX v 2||fX v 1||fX v 0)
def nextV (v:Ver):Ver:=
 if v.may then (if v.pre.isEmpty then (if fX v 2 then bumpV v 2 else if fX v 1 then bumpV v 1 else if fX v 0 then bumpV v 0 else Ver.zero) else Ver.rel v.maj v.min v.pat) else Ver.zero
def NEnd (v:Ver)(w:World)(e:Ending)(w':World):Prop:=e= .returned (.tuple #[yT (nextV v),.bool (nextOk v)])/\YB w w'
def findB (v:Ver):Nat->Ver×Bool
 |0=>(Ver.zero,false)
 |k+1=>if fX v k then (bumpV v k,true) else findB v k
end
section
theorem core_may {v:Ver}(h:v.may=true):(gQ v).may=true:=by
 have e:vF []=true:=by decide
 unfold Ver.may at h ⊢;simp only [Bool.and_eq_true] at h ⊢
 exact ⟨⟨h.1.1,h.1.2⟩,e⟩
theorem order_self {a:Ver}:qQ a a=0:=cmpR_core rfl
theorem order_core {a b:Ver}(ha:a.may=true)(hb:b.may=true):qQ (gQ a) b=qQ a b:=by
 rw [nM (core_may ha) hb,nM ha hb];rfl
def Ver.code (v:Ver):Int:=(v.maj*10000+v.min)*10000+v.pat
end
section
end
section
structure Co where
 op:Int
 parts:Int
 v:Ver
deriving DecidableEq
def bM (op:Int):YL:=if op=1 then [61] else if op=2 then [33,61] else if op=3 then [60] else if op=4 then [60,61] else if op=5 then [62] else if op=6 then [62,61] else if op=7 then [94] else if op=8 then [126] else []
def Co.may (c:Co):Bool:=decide (1<=c.op/\c.op<=9) && c.v.may && decide (c.v.build=[]) && (if c.op=9 then decide (0<=c.parts/\c.parts<=2) else decide (1<=c.parts/\c.parts<=3)) && decide (3<=c.parts\/c.v.pre=[]) && decide (0<c.parts\/c.v.maj=0) && decide (1<c.parts\/c.v.min=0) && decide (2<c.parts\/c.v.pat=0)
theorem Co.facts {c:Co}(h:c.may=true):(1<=c.op/\c.op<=9)/\c.v.may=true/\c.v.build=[]/\(c.op=9->0<=c.parts/\c.parts<=2)/\(¬ c.op=9->1<=c.parts/\c.parts<=3)/\(3<=c.parts\/c.v.pre=[])/\(0<c.parts\/c.v.maj=0)/\(1<c.parts\/c.v.min=0)/\(2<c.parts\/c.v.pat=0):=by
 unfold Co.may at h
 simp only [Bool.and_eq_true,decide_eq_true_eq] at h
 obtain ⟨⟨⟨⟨⟨⟨⟨h1,h2⟩,h3⟩,h4⟩,h5⟩,h6⟩,h7⟩,h8⟩:=h
 refine ⟨h1,h2,h3,λe=> ?_,λe=> ?_,h5,h6,h7,h8⟩
 ·rw [if_pos e] at h4;exact of_decide_eq_true h4
 ·rw [if_neg e] at h4;exact of_decide_eq_true h4
theorem Co.may_iff {c:Co}:c.may=true↔(1<=c.op/\c.op<=9)/\c.v.may=true/\c.v.build=[]/\(c.op=9->0<=c.parts/\c.parts<=2)/\(¬ c.op=9->1<=c.parts/\c.parts<=3)/\(3<=c.parts\/c.v.pre=[])/\(0<c.parts\/c.v.maj=0)/\(1<c.parts\/c.v.min=0)/\(2<c.parts\/c.v.pat=0):=by
 refine ⟨Co.facts,λ⟨h1,h2,h3,k9,kn,h5,h6,h7,h8⟩=> ?_⟩
 unfold Co.may
 rw [decide_eq_true h1,h2,decide_eq_true h3,decide_eq_true h5,decide_eq_true h6,decide_eq_true h7,decide_eq_true h8]
 by_cases e:c.op=9
 ·rw [if_pos e,decide_eq_true (k9 e)];rfl
 ·rw [if_neg e,decide_eq_true (kn e)];rfl
def qN (v:Ver)(n:Nat):List YL:=[Lib.itoa v.maj,Lib.itoa v.min,Lib.itoa v.pat].take n
def Co.rest (c:Co):YL:=if c.op=9 then zE 46 (qN c.v c.parts.toNat++[[42]]) else zE 46 (qN c.v c.parts.toNat)++xP 45 c.v.pre
def Co.text (c:Co):YL:=bM c.op++c.rest
def Co.print (c:Co):YL:=if c.may then c.text else []
def qI (s t:YL):Bool:=decide (s.take t.length=t)
def splitC (s:YL):Int×YL:=
 if qI s [33,61] then (2,s.drop 2) else if qI s [60,61] then (4,s.drop 2) else if qI s [62,61] then (6,s.drop 2) else if qI s [61] then (1,s.drop 1)
 else if qI s [60] then (3,s.drop 1) else if qI s [62] then (5,s.drop 1) else if qI s [94] then (7,s.drop 1) else if qI s [126] then (8,s.drop 1)
 else if s.getLast?=some 42 then (9,s) else (7,s)
def guessL (op:Int)(rest:YL):List YL:=if op=9 then (pcs (zB 45 rest).1).dropLast else pcs (zB 45 rest).1
def guessC (op:Int)(rest:YL):Option Co:=
 if (guessL op rest).length<=3/\(guessL op rest).all v6=true then
  some ⟨op,(guessL op rest).length,⟨x8 (tg (guessL op rest) 0),x8 (tg (guessL op rest) 1),x8 (tg (guessL op rest) 2),(zB 45 rest).2.1,[]⟩⟩
 else none
def fits (s:YL)(c:Co):Bool:= !decide (c.print=[]) && (decide (c.print=s)||decide (c.print=94::s))
def parseC (s:YL):Option Co:=(guessC (splitC s).1 (splitC s).2).filter (fits s)
theorem co_print {c:Co}(h:c.may=true):c.print=c.text:=by unfold Co.print;rw [h];rfl
theorem nums_mem {v:Ver}(hv:v.may=true){n:Nat}{x:YL}(h:x∈qN v n):∃ k:Int,zU k=true/\x=Lib.itoa k:=by
 obtain ⟨h1,h2,h3⟩:=bD hv
 unfold qN at h
 have h:=List.mem_of_mem_take h
 simp only [List.mem_cons,List.not_mem_nil,or_false] at h
 rcases h with rfl|rfl|rfl
 ·exact ⟨_,h1,rfl⟩
 ·exact ⟨_,h2,rfl⟩
 ·exact ⟨_,h3,rfl⟩
theorem numsN_len (v:Ver){n:Nat}(h:n<=3):(qN v n).length=n:=by
 unfold qN
 rw [List.length_take]
 simp;omega
end
section
def numT (k:Nat):Int:=(([0,1,2,3,0,1,10,9999]:List Int)[k]?).getD 0
def preT14 (k:Nat):YL:=(([[],[],[],[],[48],[49],[50],[49,49],[97],[97,46,49],[97,46,98],[98],[48,46,48],[114,99,46,49]]:List YL)[k]?).getD []
def bldT (k:Nat):YL:=(([[],[],[],[],[48,48,55],[120,46,49]]:List YL)[k]?).getD []
def genV (l:List Int)(i:Nat):Ver:=⟨numT (plc (atL l i) 8).toNat,numT (plc (atL l (i+1)) 8).toNat,numT (plc (atL l (i+2)) 8).toNat,preT14 (plc (atL l (i+3)) 14).toNat,bldT (plc (atL l (i+4)) 6).toNat⟩
def GEnd (u:Ver)(w:World)(e:Ending)(w':World):Prop:=e= .returned (yT u)/\YB w w'
end
section
end
section
structure Cu where
 e:Int
 v:Ver
 aft:Bool
deriving DecidableEq
def Cu.may (c:Cu):Bool:=if c.e=0 then c.v.may && c.v.build.isEmpty else decide (c.e= -1\/c.e=1) && decide (c.v=Ver.zero) && !c.aft
def b01 (b:Bool):Int:=if b then 1 else 0
def lex (x y:Int):Int:=if x=0 then y else x
def vU (a b:Cu):Int:=if a.may && b.may then lex (Lib.compareInt a.e b.e) (lex (qQ a.v b.v) (Lib.compareInt (b01 a.aft) (b01 b.aft))) else 0
theorem zero_may:Ver.zero.may=true:=by decide
theorem may_v {c:Cu}(h:c.may=true):c.v.may=true:=by
 unfold Cu.may at h
 split at h
 ·rw [Bool.and_eq_true] at h;exact h.1
 ·simp only [Bool.and_eq_true,decide_eq_true_eq] at h;rw [h.1.2];exact zero_may
theorem may_e {c:Cu}(h:c.may=true):(c.e=0/\c.v.build=[])\/((c.e= -1\/c.e=1)/\c.v=Ver.zero/\c.aft=false):=by
 unfold Cu.may at h
 split at h
 ·rename_i h0;rw [Bool.and_eq_true] at h;exact .inl ⟨h0,List.isEmpty_iff.1 h.2⟩
 ·simp only [Bool.and_eq_true,decide_eq_true_eq,Bool.not_eq_true'] at h;exact .inr ⟨h.1.1,h.1.2,h.2⟩
theorem cmpR_range {v w:Ver}:qQ v w= -1\/qQ v w=0\/qQ v w=1:=by
 by_cases hv:v.may=true
 ·by_cases hw:w.may=true
  ·rw [nM hv hw];exact cmpL_range _ _
  ·exact .inr (.inl (cmpR_bad (.inr (by simpa using hw))))
 ·exact .inr (.inl (cmpR_bad (.inl (by simpa using hv))))
theorem ci_range (x y:Int):Lib.compareInt x y= -1\/Lib.compareInt x y=0\/Lib.compareInt x y=1:=by
 unfold Lib.compareInt
 by_cases h:x<y
 ·rw [if_pos h];simp
 ·rw [if_neg h]
  by_cases h2:y<x
  ·rw [if_pos h2];simp
  ·rw [if_neg h2];simp
theorem cmpC_good {a b:Cu}(ha:a.may=true)(hb:b.may=true):vU a b=lex (Lib.compareInt a.e b.e) (lex (qQ a.v b.v) (Lib.compareInt (b01 a.aft) (b01 b.aft))):=by
 unfold vU;rw [ha,hb];rfl
theorem cmpC_range (a b:Cu):vU a b= -1\/vU a b=0\/vU a b=1:=by
 unfold vU lex
 have h1:=ci_range a.e b.e
 have h2:=cmpR_range (v:=a.v) (w:=b.v)
 have h3:=ci_range (b01 a.aft) (b01 b.aft)
 split
 ·split
  ·split
   ·exact h3
   ·exact h2
  ·exact h1
 ·simp
structure Ord3 {α:Type}(c:α->α->Int):Prop where
 anti:∀ x y,c y x= -c x y
 on:∀ x y z,c x y<=0->c y z<=0->c x z<=0/\(c x z=0->c x y=0/\c y z=0)
 same:∀ x y z,c x y=0->c y z=0->c x z=0
theorem lex_ord {α:Type}{c d:α->α->Int}(hc:Ord3 c)(hd:Ord3 d):Ord3 (λx y=>lex (c x y) (d x y)):=by
 refine ⟨λx y=> ?_,λx y z h1 h2=> ?_,λx y z h1 h2=> ?_⟩
 ·have a:=hc.anti x y;have b:=hd.anti x y
  show lex (c y x) (d y x)= -lex (c x y) (d x y)
  unfold lex
  by_cases h:c x y=0
  ·rw [if_pos h,if_pos Om];exact b
  ·rw [if_neg h,if_neg Om];exact a
 ·have a:=hc.on x y z;have b:=hd.on x y z;have s:=hc.same x y z
  show lex _ _<=0/\(lex _ _=0->lex _ _=0/\lex _ _=0)
  replace h1:lex (c x y) (d x y)<=0:=h1
  replace h2:lex (c y z) (d y z)<=0:=h2
  unfold lex at h1 h2 ⊢
  by_cases p:c x y=0
  ·by_cases q:c y z=0
   ·rw [if_pos p] at h1 ⊢;rw [if_pos q] at h2 ⊢;rw [if_pos (s p q)];exact b h1 h2
   ·rw [if_pos p] at h1 ⊢;rw [if_neg q] at h2 ⊢
    obtain ⟨a1,a2⟩:=a Om h2
    have:c x z≠0:=λe=>q (a2 e).2
    rw [if_neg this];exact ⟨a1,λe=>absurd e this⟩
  ·rw [if_neg p] at h1 ⊢
   have h2':c y z<=0:=by
    by_cases q:c y z=0
    ·omega
    ·rw [if_neg q] at h2;exact h2
   obtain ⟨a1,a2⟩:=a h1 h2'
   have:c x z≠0:=λe=>p (a2 e).1
   rw [if_neg this];exact ⟨a1,λe=>absurd e this⟩
 ·have s:=hc.same x y z;have t:=hd.same x y z
  show lex _ _=0
  replace h1:lex (c x y) (d x y)=0:=h1
  replace h2:lex (c y z) (d y z)=0:=h2
  unfold lex at h1 h2 ⊢
  by_cases p:c x y=0
  ·by_cases q:c y z=0
   ·rw [if_pos p] at h1;rw [if_pos q] at h2;rw [if_pos (s p q)];exact t h1 h2
   ·rw [if_neg q] at h2;exact absurd h2 q
  ·rw [if_neg p] at h1;exact absurd h1 p
theorem ci_ord {α:Type}(f:α->Int):Ord3 (λx y=>Lib.compareInt (f x) (f y)):=by
 refine ⟨λx y=> ?_,λx y z=> ?_,λx y z=> ?_⟩<;>unfold Lib.compareInt<;>(repeat' split)<;>omega
theorem cmpL_ord {α:Type}(f:α->List Nat):Ord3 (λx y=>kP (f x) (f y)):=by
 refine ⟨λx y=>cmpL_anti _ _,λx y z=>cmpL_trans _ _ _,λx y z h1 h2=> ?_⟩
 show kP (f x) (f z)=0
 rw [cmpL_zero _ _ h1,cmpL_zero _ _ h2];exact cmpL_self _
def cmpK (a b:Cu):Int:=lex (Lib.compareInt a.e b.e) (lex (kP a.v.key b.v.key) (Lib.compareInt (b01 a.aft) (b01 b.aft)))
theorem cmpK_ord:Ord3 cmpK:=lex_ord (ci_ord (λc:Cu=>c.e)) (lex_ord (cmpL_ord (λc:Cu=>c.v.key)) (ci_ord (λc:Cu=>b01 c.aft)))
theorem cmpC_K {a b:Cu}(ha:a.may=true)(hb:b.may=true):vU a b=cmpK a b:=by
 rw [cmpC_good ha hb,nM (may_v ha) (may_v hb)];rfl
theorem cmpC_bad {a b:Cu}(h:a.may=false\/b.may=false):vU a b=0:=by
 unfold vU
 rcases h with h|h<;>rw [h]<;>simp
theorem cut_anti {a b:Cu}:vU b a= -vU a b:=by
 cases ha:a.may with
 |true=>
  cases hb:b.may with
  |true=>rw [cmpC_K ha hb,cmpC_K hb ha];exact cmpK_ord.anti _ _
  |false=>rw [cmpC_bad (.inl hb),cmpC_bad (.inr hb)];rfl
 |false=>rw [cmpC_bad (a:=a) (.inl ha),cmpC_bad (b:=a) (.inr ha)];rfl
theorem cut_on {a b c:Cu}(ha:a.may=true)(hb:b.may=true)(hc:c.may=true)(h1:vU a b<=0)(h2:vU b c<=0):vU a c<=0/\(vU a c=0->vU a b=0/\vU b c=0):=by
 rw [cmpC_K ha hb] at h1 ⊢;rw [cmpC_K hb hc] at h2 ⊢;rw [cmpC_K ha hc];exact cmpK_ord.on _ _ _ h1 h2
def bX (e:Int):Cu:=⟨e,Ver.zero,false⟩
def posC (v:Ver):Cu:=⟨0,gQ v,false⟩
theorem posC_may {v:Ver}(h:v.may=true):(posC v).may=true:=by
 unfold posC Cu.may
 rw [if_pos rfl,core_may h];rfl
def pE (c:Cu)(v:Ver):Bool:=c.may && v.may && (if c.e=0 then decide (qQ c.v v<0\/(qQ c.v v=0/\c.aft=false)) else decide (c.e<0))
theorem cmpR_coreR {a v:Ver}(ha:a.may=true)(hv:v.may=true):qQ a (gQ v)=qQ a v:=by
 rw [nM ha (core_may hv),nM ha hv];rfl
theorem ahead_pos {c:Cu}{v:Ver}(hc:c.may=true)(hv:v.may=true):pE c v=decide (vU c (posC v)<=0):=by
 rw [cmpC_good hc (posC_may hv)]
 unfold pE
 rw [hc,hv]
 show (true && true && _)=decide (lex (Lib.compareInt c.e 0) (lex (qQ c.v (gQ v)) (Lib.compareInt (b01 c.aft) (b01 false)))<=0)
 rw [cmpR_coreR (may_v hc) hv]
 rcases may_e hc with ⟨h,_⟩|⟨h,h2,h3⟩
 ·rw [if_pos h,h,pN]
  unfold lex
  rw [if_pos rfl]
  rcases cmpR_range (v:=c.v) (w:=v) with e|e|e<;>rw [e]<;>cases c.aft<;>decide
 ·rw [if_neg Om]
  rcases h with h|h<;>rw [h]
  ·rw [show Lib.compareInt (-1) 0= -1 from by decide];unfold lex;simp
  ·rw [show Lib.compareInt 1 0=1 from by decide];unfold lex;simp
theorem ahead_on {a b:Cu}{v:Ver}(ha:a.may=true)(hb:b.may=true)(hv:v.may=true)(h:vU a b<=0)(h2:pE b v=true):pE a v=true:=by
 rw [ahead_pos hb hv,decide_eq_true_eq] at h2
 rw [ahead_pos ha hv,decide_eq_true_eq]
 exact (cut_on ha hb (posC_may hv) h h2).1
def lessC (a b:Cu):Bool:=if a.e=b.e then (if qQ a.v b.v= -1 then true else if qQ a.v b.v=1 then false else !a.aft && b.aft) else decide (a.e<b.e)
structure Sp where
 lo:Cu
 hi:Cu
def Sp.may (s:Sp):Bool:=decide (vU s.lo s.hi= -1)
def holdsC (s:Sp)(v:Ver):Bool:=s.may && pE s.lo v && !pE s.hi v
theorem beside {v w:Ver}(hv:v.may=true)(hw:w.may=true):(Sp.mk ⟨0,gQ v,false⟩ ⟨0,gQ v,true⟩).may=true/\holdsC ⟨⟨0,gQ v,false⟩,⟨0,gQ v,true⟩⟩ w=decide (qQ v w=0):=by
 have m1:(Cu.mk 0 (gQ v) false).may=true:=posC_may hv
 have m2:(Cu.mk 0 (gQ v) true).may=true:=by unfold Cu.may;rw [if_pos rfl,core_may hv];rfl
 have hs:(Sp.mk ⟨0,gQ v,false⟩ ⟨0,gQ v,true⟩).may=true:=by
  unfold Sp.may
  rw [cmpC_good m1 m2]
  dsimp only
  rw [order_self];rfl
 refine ⟨hs, ?_⟩
 unfold holdsC pE
 rw [hs,m1,m2,hw]
 dsimp only
 rw [if_pos rfl,if_pos rfl,order_core hv hw]
 rcases cmpR_range (v:=v) (w:=w) with e|e|e<;>rw [e]<;>rfl
theorem between {a b:Cu}{v:Ver}(ha:a.may=true)(hb:b.may=true)(hv:v.may=true)(h1:pE a v=true)(h2:pE b v=false):vU a b= -1:=by
 have h3:¬ vU b a<=0:=λh=>by rw [ahead_on hb ha hv h h1] at h2;cases h2
 have:=cut_anti (a:=a) (b:=b)
 rcases cmpC_range a b with e|e|e<;>omega
def genC (l:List Int)(i:Nat):Cu:=
 if plc (atL l (i+5)) 9<2 then bX (2*plc (atL l (i+5)) 9-1) else ⟨0,gQ (genV l i),decide (plc (atL l (i+5)) 2=1)⟩
end
section
theorem ver_dec (u v:Ver):decide (u=v)=(decide (u.maj=v.maj) && (decide (u.min=v.min) && (decide (u.pat=v.pat) && (decide (u.pre=v.pre) && decide (u.build=v.build))))):=by
 obtain ⟨a,b,c,d,e⟩:=u
 obtain ⟨a',b',c',d',e'⟩:=v
 simp only [Ver.mk.injEq,Bool.decide_and]
theorem eq_ver (u v:Ver)(d:Nat)(w:World):(Op.equalIn (d+1+1) 42 (yT u) (yT v)).run YP w= .ok (decide (u=v)) w:=by
  have h:=eq_agg (P:=YP) (d:=d+1) (t:=42) (xs:=(yT u).cells) (ys:=(yT v).cells) (bs:=[u.maj==v.maj,u.min==v.min,u.pat==v.pat,(mkS u.pre).toList==(mkS v.pre).toList,(mkS u.build).toList==(mkS v.build).toList]) Tryz.underlying42 Kr
    ⟨by decide,⟨YI u.maj,YI v.maj,λw=>⟨by kernel_rfl,by kernel_rfl,run_equalIn_int w d _ _ _ _ _ Tryz.underlying3⟩⟩,
     by decide,⟨YI u.min,YI v.min,λw=>⟨by kernel_rfl,by kernel_rfl,run_equalIn_int w d _ _ _ _ _ Tryz.underlying3⟩⟩,
     by decide,⟨YI u.pat,YI v.pat,λw=>⟨by kernel_rfl,by kernel_rfl,run_equalIn_int w d _ _ _ _ _ Tryz.underlying3⟩⟩,
     by decide,⟨.string (mkS u.pre),.string (mkS v.pre),λw=>⟨by kernel_rfl,by kernel_rfl,run_equalIn_string w d _ _ _ Tryz.underlying9⟩⟩,
     by decide,⟨.string (mkS u.build),.string (mkS v.build),λw=>⟨by kernel_rfl,by kernel_rfl,run_equalIn_string w d _ _ _ Tryz.underlying9⟩⟩,trivial⟩ w
  rw [all5,m8,m8,int_beq,int_beq,int_beq,←ver_dec] at h
  exact h
abbrev ZJ2 (x y:Cu):Array Value:= #[YI x.e,YI x.v.maj,YI x.v.min,YI x.v.pat,.string (mkS x.v.pre),.string (mkS x.v.build),.bool x.aft,YI y.e,YI y.v.maj,YI y.v.min,YI y.v.pat,.string (mkS y.v.pre),.string (mkS y.v.build),.bool y.aft]
abbrev ZJ (x:Cu):Array Value:= #[YI x.e,YI x.v.maj,YI x.v.min,YI x.v.pat,.string (mkS x.v.pre),.string (mkS x.v.build),.bool x.aft]
def cutV (c:Cu):Value:= .agg #[YI c.e,YI c.v.maj,YI c.v.min,YI c.v.pat,.string (mkS c.v.pre),.string (mkS c.v.build),.bool c.aft]
def spanV (s:Sp):Value:= .agg (ZJ2 s.lo s.hi)
theorem guard_ver:Tryz.prog.eqGuardType Tryz.prog.depth 42=false:=by kernel_rfl
end
section
theorem ret_i64 {a b:Int}(h:a=b):Ending.returned (YI a)= .returned (YI b):=by rw [h]
theorem empty_mk (b:YL):(mkS b).toList.isEmpty=b.isEmpty:=by rw [Lib.toList_data,mk_data]
theorem compareTag_any (a b:YL)(w:World)(ha:a.length<=1000000)(hb:b.length<=1000000):
  YC 191 #[.string (mkS a),.string (mkS b)] w (YR (YI (oneP a b)) w):=by
 have la:a.length<=maxLen:=by unfold maxLen;omega
 have lb:b.length<=maxLen:=by unfold maxLen;omega
 have HO:Hid (oneP a b=if v6 a && v6 b then Lib.compareInt (x8 a) (x8 b) else if v6 a && !b.isEmpty then-1 else if v6 b && !a.isEmpty then 1 else Lib.compareBytes a b):=rfl
 have ea:=empty_mk a
 have eb:=empty_mk b
 obtain ⟨na,hna⟩:∃ n,x8 a=n:=⟨_,rfl⟩
 obtain ⟨nb,hnb⟩:∃ n,x8 b=n:=⟨_,rfl⟩
 have cC:=λw'=>Tryz.strings_Compare (mkS a) (mkS b) w'
 rw [mk_data,mk_data] at cC
 obtain ⟨x,hx⟩:∃ n,Lib.compareBytes a b=n:=⟨_,rfl⟩
 have cI:=λw'=>Tryz.cmp_Compare_int na nb w'
 obtain ⟨y,hy⟩:∃ n,Lib.compareInt na nb=n:=⟨_,rfl⟩
 rw [hx] at cC HO
 rw [hna,hnb,hy] at HO
 rw [hy] at cI
 clear hx hy
 cases hi:v6 a<;>cases hj:v6 b<;>cases ga:a.isEmpty<;>cases gb:b.isEmpty
 all_goals
  rw [hi,hj,ga,gb] at HO
  have cA:=λw'=>fC a _ hi w' la
  have cB:=λw'=>fC b _ hj w' lb
  rw [hna] at cA
  rw [hnb] at cB
  rw [ga] at ea
  rw [gb] at eb
  clear hi hj ga gb
  go_enter Tryz.func191,Tryz.ntmps191
  go_wp2_with fail
  refine (cA _).mono ?_
  rintro e w1 ⟨rfl,hb1⟩
  go_wp2_with fail
  refine (cB _).mono ?_
  rintro e w2 ⟨rfl,hb2⟩
  have hbw:YB w w2:=hb1.trans (hb2.mono hb1.size)
  go_wp2_with (first
   |(go_at_call 145;refine (cI _).mono ?_;rintro e w3 ⟨rfl,rfl⟩)
   |(go_at_call 231;refine (cC _).mono ?_;rintro e w3 ⟨rfl,rfl⟩))
  go_ret
  exact ⟨ret_i64 (by rw [HO.out];simp),hbw⟩
def or3 (x y z:Int):Int:=if x≠0 then x else if y≠0 then y else z
def nthI (x y z:Int)(k:Nat):Int:=if k=0 then x else if k=1 then y else z
end
section
end
section
def Cu.short (c:Cu):Prop:=c.v.pre.length<=1000000/\c.v.build.length<=1000000
def Ver.short (v:Ver):Prop:=v.pre.length<=1000000/\v.build.length<=1000000
def Sp.short (s:Sp):Prop:=s.lo.short/\s.hi.short
end
section
def t6:List Sp->Bool
 | []=>true
 | [s]=>s.may
 |s::t::r=>s.may && decide (vU s.hi t.lo<0) && t6 (t::r)
def inSp (s:Sp)(c:Cu):Bool:=decide (vU s.lo c<=0) && decide (vU c s.hi<0)
def den (l:List Sp)(c:Cu):Bool:=l.any (inSp · c)
def rowHas (l:List Sp)(v:Ver):Bool:=t6 l && l.any (holdsC · v)
def growL (l:List Sp)(c d:Cu):List Sp:=
 match l.getLast? with
 |some s=>if vU s.hi c=0 then l.dropLast++[⟨s.lo,d⟩] else l++[⟨c,d⟩]
 |none=>[⟨c,d⟩]
def buildL (p:Cu->Cu->Bool):List Sp->List Cu->List Sp
 |out,c::d::r=>buildL p (if p c d then growL out c d else out) (d::r)
 |out,_=>out
def pick (p:Cu->Cu->Bool)(x:Cu):List Cu->Bool
 |c::d::r=>(p c d && inSp ⟨c,d⟩ x)||pick p x (d::r)
 |_=>false
def Rise:List Cu->Prop
 |c::d::r=>c.may=true/\vU c d<0/\Rise (d::r)
 | [c]=>c.may=true
 | []=>True
def putL (c:Cu):List Cu->List Cu
 | []=>[c]
 |d::r=>if vU d c<0 then d::putL c r else if vU d c=0 then d::r else c::d::r
def cutsL (l:List Sp):List Cu:=l.foldl (λout s=>putL s.hi (putL s.lo out)) [bX (-1),bX 1]
def AllMay (l:List Cu):Prop:=∀ x∈l,x.may=true
structure Ends (l:List Cu):Prop where
 rise:Rise l
 head:l.head?=some (bX (-1))
 last:l.getLast?=some (bX 1)
def inL (l:List Sp)(c d:Cu):Bool:=l.any λs=>decide (vU s.lo c<=0) && decide (vU d s.hi<=0)
def makeL (l:List Sp):List Sp:=buildL (inL l) [] (cutsL l)
def orL (a b:List Sp):List Sp:=makeL (a++b)
def andL (a b:List Sp):List Sp:=buildL (λc d=>inL a c d && inL b c d) [] (cutsL (a++b))
def notL (a:List Sp):List Sp:=buildL (λc d=> !inL a c d) [] (cutsL a)
end
section
def spanC (s:Sp):List Value:=(spanV s).cells.toList
def ShortL (l:List Sp):Prop:=∀ s∈l,s.short
end
section
deriving instance DecidableEq for Sp
end
section
end
section
end
section
def cutC (s:Cu):List Value:=(cutV s).cells.toList
def ShortC (l:List Cu):Prop:=∀ s∈l,s.short
end
section
end
section
section
variable {M:List Nat}{P:Program}{n:Nat}{ops:Array Oper}{W:World}{Q:Exit->Act->World->Prop}{L0 L:List Blk}{f:Nat->Value}{fuel:Nat}{listed:Array Bool}{rest:List Oper}{o:Oper}
end
end
section
def allMay (l:List Sp):Bool:=l.all (·.may)
end
section
end
section
end
section
def minC (a b:Cu):Cu:=if 0<vU a b then b else a
def maxC (a b:Cu):Cu:=if 0<vU a b then a else b
def addL (l:List Sp)(c d:Cu):List Sp:=if (Sp.mk c d).may then l++[⟨c,d⟩] else l
def nstep (p:List Sp×Cu)(s:Sp):List Sp×Cu:=(addL p.1 p.2 s.lo,s.hi)
def notG (l:List Sp):List Sp:=addL (l.foldl nstep ([],bX (-1))).1 (l.foldl nstep ([],bX (-1))).2 (bX 1)
def andG:Nat->List Sp->List Sp->List Sp->List Sp
 |n+1,out,s::a,u::b=>if s.hi=minC s.hi u.hi then andG n (addL out (maxC s.lo u.lo) (minC s.hi u.hi)) a (u::b) else andG n (addL out (maxC s.lo u.lo) (minC s.hi u.hi)) (s::a) b
 |_,out,_,_=>out
def mstep (out:List Sp)(s:Sp):List Sp:=
 match out.getLast? with
 |none=>[s]
 |some t=>if vU t.hi s.lo<0 then out++[s] else out.dropLast++[⟨t.lo,maxC t.hi s.hi⟩]
def SortedC:List Sp->Prop
 | []=>True
 |s::r=>(∀ t∈r,vU s.lo t.lo<=0)/\SortedC r
end
section
theorem cutAt_len (c:UInt8):∀ s:YL,s.length=(zB c s).1.length+(if (zB c s).2.2 then 1+(zB c s).2.1.length else 0)
 | []=>rfl
 |b::r=>by
  unfold zB
  have ih:=cutAt_len c r
  by_cases h:b=c
  ·first|(simp [h];done)|(subst h;simp;omega)|(simp [h];omega)
  ·first|(simp [h] at ih ⊢;omega)|(simp [h,Ne.symm h] at ih ⊢;omega)
structure RF (l:List Sp)(n:Nat):Prop where
 may:t6 l=true
 len:l.length<=n
section
variable {a b c:List Sp}(ha:t6 a=true)(hb:t6 b=true)(hc:t6 c=true)
include ha in
end
end
section
def idxP (v:Ver):List Sp->Int->Int
 | [],_=> -1
 |s::r,k=>if holdsC s v then k else idxP v r (k+1)
end
section
end
section
end
section
def leastV (v:Ver):Bool:=decide (v.maj=0) && decide (v.min=0) && decide (v.pat=0)
def rightC (c:Cu):Bool:=decide (¬ c.e=0)||(!c.aft && decide (c.v.pre=[]) && !leastV c.v)
def AllRight (l:List Sp):Prop:=∀ s∈l,rightC s.lo=true/\rightC s.hi=true
def valC (c:Cu):Int:=if c.e= -1 then 0 else if c.e=1 then 1000000000000 else c.v.code
def muI (v:Ver):Int:=if v.pre=[] then v.code else v.code-1
def mu (x:Cu):Int:=if x.e=0 then (if muI x.v<0 then 0 else muI x.v) else 0
def denN (l:List Sp)(n:Int):Bool:=l.any λs=>decide (valC s.lo<=n) && decide (n<valC s.hi)
end
section
def relV (v:Ver):Ver:=Ver.rel v.maj v.min v.pat
def relA (v:Ver):Cu:=if leastV v then bX (-1) else ⟨0,relV v,false⟩
def relB (v:Ver):Cu:=if nextOk (relV v) then ⟨0,nextV (relV v),false⟩ else bX 1
def turnC (c:Cu):Cu:=if ¬ c.e=0 then c else if c.aft=true/\c.v.pre=[] then relB c.v else relA c.v
def turnS (s:Sp):Sp:=⟨turnC s.lo,turnC s.hi⟩
def makeRel (l:List Sp):List Sp:=makeL ((l.map turnS).filter (·.may))
def oneRel (v:Ver):List Sp:=[⟨relA v,relB v⟩]
def onePre (v:Ver):List Sp:=[⟨⟨0,gQ v,false⟩,⟨0,gQ v,true⟩⟩]
end
section
structure St where
 rel:List Sp
 pre:List Sp
def St.may (s:St):Bool:=t6 s.rel && t6 s.pre && s.rel.all λx=>rightC x.lo && rightC x.hi
structure SF (s:St)(n:Nat):Prop where
 rel:RF s.rel n
 pre:RF s.pre n
 right:AllRight s.rel
def setHas (s:St)(v:Ver):Bool:=s.may && v.may && (if v.pre=[] then rowHas s.rel v else rowHas s.pre v)
def noneT:St:=⟨[],[]⟩
def wholeL:List Sp:=[⟨bX (-1),bX 1⟩]
def allT:St:=⟨wholeL,wholeL⟩
def orT (a b:St):St:=⟨orL a.rel b.rel,orL a.pre b.pre⟩
def andT (a b:St):St:=⟨andL a.rel b.rel,andL a.pre b.pre⟩
def notT (a:St):St:=⟨notL a.rel,notL a.pre⟩
def minusT (a b:St):St:=andT a (notT b)
def exactT (v:Ver):St:=if v.may then (if v.pre=[] then ⟨oneRel v,[]⟩ else ⟨[],onePre v⟩) else noneT
section
variable {a b:St}{n m:Nat}{v:Ver}(ha:SF a n)(hb:SF b m)(hv:v.may=true)
include ha hb hv
end
def edgeN (l:List Sp):List Int:=l.flatMap λs=>[s.lo,s.hi].filterMap λc=>if c.e=0 then some c.v.code else none
end
section
end
section
def highC (v:Ver):Nat->Cu
 |0=>if fX v 0 then ⟨0,bumpV v 0,false⟩ else bX 1
 |k+1=>if fX v ((k+1:Nat):Int) then ⟨0,bumpV v ((k+1:Nat):Int),false⟩ else highC v k
def turnsK (c:Co):Nat:=if 0<c.v.maj\/c.parts=1 then 0 else if 0<c.v.min\/c.parts=2 then 1 else 2
def Co.low (c:Co):Cu:=⟨0,gQ c.v,false⟩
def Co.aft (c:Co):Cu:=if c.parts<3/\0<c.parts then highC c.v (c.parts-1).toNat else ⟨0,gQ c.v,true⟩
def Co.span (c:Co):Cu×Cu:=
 if c.op=1\/c.op=2 then (c.low,c.aft) else if c.op=3 then (bX (-1),c.low) else if c.op=4 then (bX (-1),c.aft) else if c.op=5 then (c.aft,bX 1) else if c.op=6 then (c.low,bX 1)
 else if c.op=7 then (c.low,highC c.v (turnsK c)) else if c.op=8 then (c.low,highC c.v (min (c.parts-1) 1).toNat) else if c.parts=0 then (bX (-1),bX 1) else (c.low,highC c.v (c.parts-1).toNat)
def oneRow (lo hi:Cu):List Sp:=addL [] lo hi
def Co.region (c:Co):List Sp:=if c.may then (if c.op=2 then notL (oneRow c.span.1 c.span.2) else oneRow c.span.1 c.span.2) else []
def Co.zone (c:Co):List Sp:=if c.may && !decide (c.v.pre=[]) then [⟨⟨0,{c.v with pre:=[48],build:=[]},false⟩,⟨0,{c.v with pre:=[],build:=[]},false⟩⟩] else []
def upN (v:Ver)(k:Nat):Int:=if k=0 then (v.maj+1)*100000000 else if k=1 then v.maj*100000000+(v.min+1)*10000 else v.code+1
def ordB (op n:Int):Bool:=if op=1 then decide (n=0) else if op=2 then decide (¬ n=0) else if op=3 then decide (n<0) else if op=4 then decide (n<=0) else if op=5 then decide (0<n) else decide (0<=n)
end
section
def dZ (c:Co)(v:Ver)(p:Int):Bool:=(decide (p<1)||decide (v.maj=c.v.maj)) && (decide (p<2)||decide (v.min=c.v.min)) && (decide (p<3)||decide (v.pat=c.v.pat))
def overB (c:Co)(v:Ver):Bool:=if ¬ v.maj=c.v.maj\/c.parts=1 then decide (c.v.maj<v.maj) else if ¬ v.min=c.v.min\/c.parts=2 then decide (c.v.min<v.min) else decide (c.v.pat<v.pat)
def saysN (c:Co):Int:=if 0<c.v.maj\/c.parts=1 then 1 else if 0<c.v.min\/c.parts=2 then 2 else 3
def saysB (c:Co)(v:Ver):Bool:=
 if c.op=1\/c.op=9 then dZ c v c.parts else if c.op=2 then !dZ c v c.parts else if c.op=3 then !dZ c v c.parts && !overB c v else if c.op=4 then dZ c v c.parts||!overB c v
 else if c.op=5 then overB c v else if c.op=6 then dZ c v c.parts||overB c v else if c.op=8 then dZ c v (min c.parts 2) && (dZ c v c.parts||overB c v)
 else dZ c v (saysN c) && (dZ c v c.parts||overB c v)
def truncN (v:Ver)(q:Nat):Int:=if q=1 then v.maj*100000000 else if q=2 then v.maj*100000000+v.min*10000 else v.code
end
section
def leastP (v:Ver):Ver:={v with pre:=[48],build:=[]}
def bareV (v:Ver):Ver:={v with pre:=[],build:=[]}
def withO (c:Co)(o:Int):Co:={c with op:=o}
end
section
end
section
abbrev ZQ (x:Co):Array Value:= #[YI x.op,YI x.parts,YI x.v.maj,YI x.v.min,YI x.v.pat,.string (mkS x.v.pre),.string (mkS x.v.build)]
def coV (c:Co):Value:= .agg #[YI c.op,YI c.parts,YI c.v.maj,YI c.v.min,YI c.v.pat,.string (mkS c.v.pre),.string (mkS c.v.build)]
def Co.short (c:Co):Prop:=c.v.short
def toldV (p:Int)(v:Ver):Ver:=⟨if p<1 then 0 else v.maj,if p<2 then 0 else v.min,if p<3 then 0 else v.pat,if p<3 then [] else v.pre,[]⟩
def genCo (l:List Int)(i:Nat):Co:=
 ⟨1+plc (atL l (i+5)) 9,if 1+plc (atL l (i+5)) 9=9 then plc (atL l (i+6)) 3 else 1+plc (atL l (i+6)) 3,toldV (if 1+plc (atL l (i+5)) 9=9 then plc (atL l (i+6)) 3 else 1+plc (atL l (i+6)) 3) (genV l i)⟩
end
section
end
section
def ordSp (c d:Cu):Sp:=if 0<vU c d then ⟨d,c⟩ else ⟨c,d⟩
def spG (l:List Int)(i n:Nat):Sp:=ordSp (genC l (i+12*n-11)) (genC l (i+12*n-5))
def spansG (l:List Int)(i:Nat):Nat->List Sp
 |0=>[]
 |n+1=>(if (spG l i (n+1)).may then [spG l i (n+1)] else [])++spansG l i n
end
section
def rowG (l:List Int)(i:Nat):List Sp:=makeL (spansG l i (plc (atL l i) (4+1:Nat)).toNat)
end
section
end
section
end
section
def highZ (v:Ver)(z:Int):Cu:=if z<0 then bX 1 else highC v z.toNat
theorem rcMay_any (c:Co)(W:World)(hc:c.short):YC 150 #[coV c] W (YR (.bool c.may) W):=by
 obtain ⟨op,parts,v⟩:=c
 have hm:= @Co.may_iff ⟨op,parts,v⟩
 simp only at hm
 have no:∀ w,YB W w→¬ (Co.may ⟨op,parts,v⟩=true)->Ending.returned (.bool false)= .returned (.bool (Co.may ⟨op,parts,v⟩))/\YB W w:=λw hb h=>⟨by rw [Bool.eq_false_iff.2 h],hb⟩
 have hmay:∀ w,YC 105 #[yT v] w (YR (.bool v.may) w):=λw=>wI v w hc.1 hc.2
 refine zD Tryz.func150 (zY [] λb1=>zG 7 [0] (op<1) (λh1=>(z8 [] Z5 λw hO=>no w hO.below λq=>by have:=hm.1 q;grind)) (λh1=>zG 11 [0] (op>9) (λh2=>(z8 [] Z5 λw hO=>no w hO.below λq=>by have:=hm.1 q;grind)) (λh2=>z7 (v:= .bool v.may) [0] (λw hO=>hmay w) (zV 16 v.may (λe3=>jJ 23 [0] v.build [] (λh4=> ?_) (λh4=>(z8 [] Z5 λw hO=>no w hO.below λq=>by have:=hm.1 q;grind))) (λe3=>(z8 [] Z5 λw hO=>no w hO.below λq=>by have:=hm.1 q;grind))))))
 refine d6 27 (α:=Int×Int) (λq=>[(1,Zp b1 0),(3,YI q.1),(4,YI q.2)]) (λ_=>[⟨b1,(coV ⟨op,parts,v⟩).cells,143⟩]) (λq=>(op=9->q.1=0/\q.2=2)/\(¬ op=9->q.1=1/\q.2=3)) [0] (λnj=>fI 27 (op=9) (λh=>nj (0,2) [] ⟨λ_=>⟨rfl,rfl⟩,λq=>absurd h q⟩ Kr) (λh=>nj (1,3) [] ⟨λq=>absurd q h,λ_=>⟨rfl,rfl⟩⟩ Kr)) ?_
 rintro ⟨lo,hi⟩ g hr
 simp only at hr
 refine zG 31 [0] (parts<lo) (λh5=>(z8 [] Z5 λw hO=>no w hO.below λq=>by have:=hm.1 q;grind)) (λh5=>zG 36 [0] (parts>hi) (λh6=>(z8 [] Z5 λw hO=>no w hO.below λq=>by have:=hm.1 q;grind)) (λh6=> ?_))
 rcases (by omega:parts=0\/parts=1\/parts=2\/parts=3) with rfl|rfl|rfl|rfl
 ·exact jJ 46 [0,0] v.pre [] (λh8=>zG 56 [0,0] (v.maj=0) (λa1=>zG 66 [0,0] (v.min=0) (λa2=>zG 77 [0,0] (v.pat=0) (λa3=>(z8 [] Z4 λw hO=>⟨by rw [hm.2 ⟨by omega,e3,h4,by omega,by omega,by first|exact .inl Om|exact .inr h8,by omega,by omega,by omega⟩],hO.below⟩)) (λa3=>(z8 [] Z5 λw hO=>no w hO.below λq=>by have:=hm.1 q;grind))) (λa2=>(z8 [] Z5 λw hO=>no w hO.below λq=>by have:=hm.1 q;grind))) (λa1=>(z8 [] Z5 λw hO=>no w hO.below λq=>by have:=hm.1 q;grind))) (λh8=>(z8 [] Z5 λw hO=>no w hO.below λq=>by have:=hm.1 q;grind))
 ·exact jJ 46 [0,0] v.pre [] (λh8=>zG 66 [0,0,0] (v.min=0) (λa2=>zG 77 [0,0] (v.pat=0) (λa3=>(z8 [] Z4 λw hO=>⟨by rw [hm.2 ⟨by omega,e3,h4,by omega,by omega,by first|exact .inl Om|exact .inr h8,by omega,by omega,by omega⟩],hO.below⟩)) (λa3=>(z8 [] Z5 λw hO=>no w hO.below λq=>by have:=hm.1 q;grind))) (λa2=>(z8 [] Z5 λw hO=>no w hO.below λq=>by have:=hm.1 q;grind))) (λh8=>(z8 [] Z5 λw hO=>no w hO.below λq=>by have:=hm.1 q;grind))
 ·exact jJ 46 [0,0] v.pre [] (λh8=>zG 77 [0,0,0,0] (v.pat=0) (λa3=>(z8 [] Z4 λw hO=>⟨by rw [hm.2 ⟨by omega,e3,h4,by omega,by omega,by first|exact .inl Om|exact .inr h8,by omega,by omega,by omega⟩],hO.below⟩)) (λa3=>(z8 [] Z5 λw hO=>no w hO.below λq=>by have:=hm.1 q;grind))) (λh8=>(z8 [] Z5 λw hO=>no w hO.below λq=>by have:=hm.1 q;grind))
 ·exact z8 [0,0,0,0] Z4 λw hO=>⟨by rw [hm.2 ⟨by omega,e3,h4,by omega,by omega,by first|exact .inl Om|exact .inr h8,by omega,by omega,by omega⟩],hO.below⟩
theorem rcsign_any (op:Int)(W:World):YC 152 #[YI op] W (YR (.string (mkS (bM op))) W):=by
 exact zD Tryz.func152 (zG 5 [] (op=1) (λh=>z8 [] (.string (mkS [61])) λw hO=>⟨by subst h;rfl,hO.below⟩) (λh1=>zG 7 [] (op=2) (λh=>z8 [] (.string (mkS [33,61])) λw hO=>⟨by subst h;rfl,hO.below⟩) (λh2=>zG 9 [] (op=3) (λh=>z8 [] (.string (mkS [60])) λw hO=>⟨by subst h;rfl,hO.below⟩) (λh3=>zG 11 [] (op=4) (λh=>z8 [] (.string (mkS [60,61])) λw hO=>⟨by subst h;rfl,hO.below⟩) (λh4=>zG 13 [] (op=5) (λh=>z8 [] (.string (mkS [62])) λw hO=>⟨by subst h;rfl,hO.below⟩) (λh5=>zG 15 [] (op=6) (λh=>z8 [] (.string (mkS [62,61])) λw hO=>⟨by subst h;rfl,hO.below⟩) (λh6=>zG 17 [] (op=7) (λh=>z8 [] (.string (mkS [94])) λw hO=>⟨by subst h;rfl,hO.below⟩) (λh7=>zG 19 [] (op=8) (λh=>z8 [] (.string (mkS [126])) λw hO=>⟨by subst h;rfl,hO.below⟩) (λh8=>z8 [] (.string (mkS [])) λw hO=>⟨by unfold bM;rw [if_neg h1,if_neg h2,if_neg h3,if_neg h4,if_neg h5,if_neg h6,if_neg h7,if_neg h8],hO.below⟩)))))))))
end
section
end
section
def triV (l:List YL):Ver:=if l.length=3 then ⟨x8 (tg l 0),x8 (tg l 1),x8 (tg l 2),[],[]⟩ else Ver.zero
def triB (l:List YL):Bool:=decide (l.length=3) && (v6 (tg l 0) && v6 (tg l 1) && v6 (tg l 2))
theorem one_keep {w w' w2:World}{v1 v2 v3:Value}(hS:w'.cell? ⟨w.heap.size,0,none⟩=some v1/\w'.cell? ⟨w.heap.size,1,none⟩=some v2/\w'.cell? ⟨w.heap.size,2,none⟩=some v3/\YB w w'/\w.heap.size<w'.heap.size)(hb:Below w'.heap.size w' w2):w2.cell? ⟨w.heap.size,0,none⟩=some v1/\w2.cell? ⟨w.heap.size,1,none⟩=some v2/\w2.cell? ⟨w.heap.size,2,none⟩=some v3/\YB w w2/\w.heap.size<w2.heap.size:=by
 obtain ⟨a0,a1,a2,h,hA⟩:=hS
 have k:∀ C i v,C<w'.heap.size->w'.cell? ⟨C,i,none⟩=some v->w2.cell? ⟨C,i,none⟩=some v:=λC i v hC e=>(hb.cell (p:=⟨C,i,none⟩) hC).trans e
 exact ⟨k _ _ _ hA a0,k _ _ _ hA a1,k _ _ _ hA a2,h.trans (hb.mono h.size),Nat.lt_of_lt_of_le hA hb.size⟩
theorem one_start (w:World)(v1 v2 v3 v4 v5:Value)(T:TypeId):(w.alloc (.cells #[v1,v2,v3,v4,v5] T)).drew.cell? ⟨w.heap.size,0,none⟩=some v1/\(w.alloc (.cells #[v1,v2,v3,v4,v5] T)).drew.cell? ⟨w.heap.size,1,none⟩=some v2/\(w.alloc (.cells #[v1,v2,v3,v4,v5] T)).drew.cell? ⟨w.heap.size,2,none⟩=some v3/\Below w.heap.size w (w.alloc (.cells #[v1,v2,v3,v4,v5] T)).drew/\w.heap.size<(w.alloc (.cells #[v1,v2,v3,v4,v5] T)).drew.heap.size:=by
 have h0:(w.alloc (.cells #[v1,v2,v3,v4,v5] T)).drew.heap[w.heap.size]?=some (.cells #[v1,v2,v3,v4,v5] T):=dE w _
 have k0:∀ i v,(#[v1,v2,v3,v4,v5]:Array Value)[i]?=some v->(w.alloc (.cells #[v1,v2,v3,v4,v5] T)).drew.cell? ⟨w.heap.size,i,none⟩=some v:=λi v e=>(cell_of_row _ _ i _ _ _ h0).trans e
 have hs:(w.alloc (.cells #[v1,v2,v3,v4,v5] T)).drew.heap.size=w.heap.size+1:=jR w _
 have hB:Below w.heap.size w (w.alloc (.cells #[v1,v2,v3,v4,v5] T)):=(Below.refl _ w).alloc (Nat.le_refl _) _
 exact ⟨k0 0 _ rfl,k0 1 _ rfl,k0 2 _ rfl,hB.drew,by omega⟩
theorem bQ (n:Int)(h:zU n=true)(w:World):
  YC 194 #[YI n] w (YR (.string (mkS (Lib.itoa n))) w):=by
 unfold zU at h;simp at h
 exact rdigits_any n Om Om w
theorem numsL_mk (a b c:Int)(p q:YL):mkS (wZ ⟨a,b,c,p,q⟩)=mkS (Lib.itoa a)++⟨#[46]⟩++mkS (Lib.itoa b)++⟨#[46]⟩++mkS (Lib.itoa c):=by
 rw [show (⟨#[46]⟩:ByteArray)=mkS [46] from rfl,x9,x9,x9,x9]
 congr 1
 unfold wZ
 simp
theorem rnumbers_any (v:Ver)(w:World)(h1:zU v.maj=true)(h2:zU v.min=true)(h3:zU v.pat=true):
  YC 174 #[yT v] w (YR (.string (mkS (wZ v))) w):=by
 obtain ⟨a,b,c,p,q⟩:=v
 have HN:=Lib.hid (numsL_mk a b c p q)
 dsimp only at h1 h2 h3
 have cA:=λw'=>bQ a h1 w'
 have cB:=λw'=>bQ b h2 w'
 have cC:=λw'=>bQ c h3 w'
 have la:=fS h1
 have lb:=fS h2
 have lc:=fS h3
 rw [←y7] at la lb lc
 unfold yT
 dsimp only
 obtain ⟨x,hx⟩:∃ x,mkS (Lib.itoa a)=x:=⟨_,rfl⟩
 obtain ⟨y,hy⟩:∃ x,mkS (Lib.itoa b)=x:=⟨_,rfl⟩
 obtain ⟨z,hz⟩:∃ x,mkS (Lib.itoa c)=x:=⟨_,rfl⟩
 rw [hx] at cA la HN
 rw [hy] at cB lb HN
 rw [hz] at cC lc HN
 clear hx hy hz h1 h2 h3
 have s1:(x++(⟨#[46]⟩:ByteArray)).size<=5:=by rw [ByteArray.size_append];show x.size+1<=5;omega
 have s2:(x++(⟨#[46]⟩:ByteArray)++y).size<=9:=by rw [ByteArray.size_append];omega
 have s3:(x++(⟨#[46]⟩:ByteArray)++y++(⟨#[46]⟩:ByteArray)).size<=10:=by rw [ByteArray.size_append];show _+1<=10;omega
 go_enter Tryz.func174,Tryz.ntmps174
 go_wp2_with fail
 have hS0:=one_start w (YI a) (YI b) (YI c) (.string (mkS p)) (.string (mkS q)) 42
 go_region_with (first
   |(go_at_call 194;with_reducible refine (cA _).mono ?_;rintro e w1 ⟨rfl,hb1⟩;have hS1:=one_keep ‹_› hb1)
   |(go_at_call 194;with_reducible refine (cB _).mono ?_;rintro e w2 ⟨rfl,hb2⟩;have hS2:=one_keep ‹_› hb2))
 all_goals
  obtain ⟨_,_,k1,hbk1,_⟩:=hS1
  obtain ⟨_,_,k2,hbk2,_⟩:=hS2
  go_wp2_with (go_at_call 194;refine (cC _).mono ?_;rintro e w3 ⟨rfl,hb3⟩)
  go_ret
  first
   |exact ⟨wB HN.out.symm,hbk2.trans (hb3.mono hbk2.size)⟩
   |exact ⟨wB HN.out.symm,hbk1.trans (hb3.mono hbk1.size)⟩
theorem rprint_good (v:Ver)(w:World)(hp:v.pre.length<=1000000)(hq:v.build.length<=1000000)(hm:v.may=true):
  YC 125 #[yT v] w (YR (.string (mkS v.text)) w):=by
 have cM:=λw'=>wI v w' hp hq
 obtain ⟨n1,n2,n3⟩:=bD hm
 have cN:=λw'=>rnumbers_any v w' n1 n2 n3
 have hT:v.text=wZ v++xP 45 v.pre++xP 43 v.build:=rfl
 have hnl:(wZ v).length<=14:=nums_len n1 n2 n3
 obtain ⟨J,hJ⟩:∃ J,wZ v=J:=⟨_,rfl⟩
 rw [hJ] at cN hT hnl
 obtain ⟨a,b,c,p,q⟩:=v
 rw [hm] at cM
 unfold yT at cN cM ⊢
 dsimp only at cN cM hp hq hT ⊢
 have HT:=Lib.hid hT
 clear hT hm n1 n2 n3 hJ
 have hj0:(mkS J).size<=14:=by rw [y7];exact hnl
 have hp0:(mkS p).size<=1000000:=by rw [y7];exact hp
 have hq0:(mkS q).size<=1000000:=by rw [y7];exact hq
 have hj1:(mkS J++(⟨#[45]⟩:ByteArray)).size<=15:=by rw [ByteArray.size_append];show _+1<=_;omega
 have hj2:(mkS J++(⟨#[45]⟩:ByteArray)++mkS p).size<=1000015:=by rw [ByteArray.size_append];omega
 have hj3:(mkS J++(⟨#[45]⟩:ByteArray)++mkS p++(⟨#[43]⟩:ByteArray)).size<=1000016:=by rw [ByteArray.size_append];show _+1<=_;omega
 have hj4:(mkS J++(⟨#[43]⟩:ByteArray)).size<=15:=by rw [ByteArray.size_append];show _+1<=_;omega
 have hpe0:(mkS p).toList.isEmpty=p.isEmpty:=by rw [Lib.toList_data,mk_data]
 have hqe0:(mkS q).toList.isEmpty=q.isEmpty:=by rw [Lib.toList_data,mk_data]
 have hcase:(p.isEmpty=true/\xP 45 p=[]\/p.isEmpty=false/\xP 45 p=45::p)/\(q.isEmpty=true/\xP 43 q=[]\/q.isEmpty=false/\xP 43 q=43::q):=by
  unfold xP;cases p<;>cases q<;>simp
 obtain ⟨hc1,hc2⟩:=hcase
 rcases hc1 with ⟨e1,t1⟩|⟨e1,t1⟩<;>rcases hc2 with ⟨e2,t2⟩|⟨e2,t2⟩
 all_goals
  rw [e1] at hpe0
  rw [e2] at hqe0
  have T1:=Lib.hid t1
  have T2:=Lib.hid t2
  clear t1 t2 e1 e2
  go_enter Tryz.func125,Tryz.ntmps125
  go_wp2_with fail
  refine (cM _).mono ?_
  rintro e w1 ⟨rfl,hb1⟩
  have hg1:=Lib.hid ((hb1.block w.heap.size (by simp)).trans (dE w _))
  have hbw1:YB w w1:=((Below.refl _ _).alloc (Nat.le_refl _) _).trans (hb1.mono (by simp))
  have hsw:w.heap.size<w1.heap.size:=by have:=hb1.size;rw [jR] at this;omega
  go_wp2_with (first
   |(refine wpList_load_row rfl 42 _ rfl w.heap.size rfl _ _ _ _ hg1.out Tryz.underlying42 rfl Kr ?_)
   |(go_at_call 174;refine (cN _).mono ?_;rintro e w2 ⟨rfl,hb2⟩;obtain ⟨c3,f3⟩:=qH (j:=3) ((hb2.block w.heap.size hsw).trans hg1.out) (by simp);obtain ⟨c4,f4⟩:=qH (j:=4) ((hb2.block w.heap.size hsw).trans hg1.out) (by simp);simp only [List.getElem_toArray,List.getElem_cons_succ,List.getElem_cons_zero] at c3 c4))
  go_ret
  exact ⟨wB (by
   rw [HT.out,T1.out,T2.out];try rw [show (⟨#[45]⟩:ByteArray)=mkS [45] from rfl]
   try rw [show (⟨#[43]⟩:ByteArray)=mkS [43] from rfl]
   simp [x9]),hbw1.trans (hb2.mono hbw1.size)⟩
theorem rprint_none (v:Ver)(w:World)(hp:v.pre.length<=1000000)(hq:v.build.length<=1000000)(hm:v.may=false):
  YC 125 #[yT v] w (YR (.string (mkS [])) w):=by
 have cM:=λw'=>wI v w' hp hq
 rw [hm] at cM
 obtain ⟨a,b,c,p,q⟩:=v
 unfold yT at cM ⊢
 dsimp only at cM ⊢
 clear hm
 go_enter Tryz.func125,Tryz.ntmps125
 go_wp2_with (go_at_call 105;refine (cM _).mono ?_;rintro e w1 ⟨rfl,hb1⟩)
 go_ret
 exact ⟨rfl,((Below.refl _ _).alloc (Nat.le_refl _) _).trans (hb1.mono (by simp))⟩
theorem rprint_any (v:Ver)(w:World)(hp:v.pre.length<=1000000)(hq:v.build.length<=1000000):
  YC 125 #[yT v] w (YR (.string (mkS v.print)) w):=by
 cases hm:v.may with
 |true=>rw [n5 hm];exact rprint_good v w hp hq hm
 |false=>rw [print_bad hm];exact rprint_none v w hp hq hm
end
section
theorem signL_len (op:Int):(bM op).length<=2:=by
 unfold bM
 repeat' split
 all_goals decide
theorem join_len (b:UInt8)(m:Nat):∀ (l:List YL),(∀ x∈l,x.length<=m)->(zE b l).length<=l.length*(m+1)
 | [],_=>by simp [zE]
 | [x],h=>by
  have:=h x (List.mem_singleton.2 rfl)
  simp [zE];omega
 |x::y::r,h=>by
  have h1:=h x (List.mem_cons_self ..)
  have h2:=join_len b m (y::r) λz hz=>h z (List.mem_cons_of_mem _ hz)
  rw [zE,List.length_append,List.length_cons]
  simp only [List.length_cons,Nat.add_mul] at h2 ⊢
  omega
theorem nums_len9 {v:Ver}(hv:v.may=true){n:Nat}:∀ x∈qN v n,x.length<=21:=λx hx=>by
 obtain ⟨k,hk,rfl⟩:=nums_mem hv hx
 have:=fS hk
 omega
theorem numsN_le (v:Ver)(n:Nat):(qN v n).length<=3:=by unfold qN;rw [List.length_take];simp;omega
theorem njoin_len {v:Ver}(hv:v.may=true)(n:Nat):(zE 46 (qN v n)).length<=100:=by
 have h:=join_len 46 21 (qN v n) (nums_len9 hv)
 have:=numsN_le v n
 omega
theorem sjoin_len {v:Ver}(hv:v.may=true)(n:Nat):(zE 46 (qN v n++[[42]])).length<=200:=by
 have h:=join_len 46 21 (qN v n++[[42]]) (λx hx=>by
  rcases List.mem_append.1 hx with hx|hx
  ·exact nums_len9 hv x hx
  ·rw [List.mem_singleton.1 hx];decide)
 have:=numsN_le v n
 rw [List.length_append] at h
 simp at h;omega
def pU (v:Ver):Array Value:= #[.string (mkS (Lib.itoa v.maj)),.string (mkS (Lib.itoa v.min)),.string (mkS (Lib.itoa v.pat))]
theorem told_take (v:Ver){n:Nat}(h:n<=3):(pU v).toList.take (n*1)=jQ (qN v n):=by
 rw [Nat.mul_one]
 unfold jQ qN
 rw [List.map_take];rfl
theorem told_slt (v:Ver){n:Nat}(h:n<=3)(g:Nat):SlT (.slice (some ⟨g,0,none⟩) n 3) (qN v n) [⟨g,pU v,9⟩]:=by
 have e:=numsN_len v h
 refine ⟨by rw [d8,e];omega,.inr ⟨g,3,pU v,by rw [e],rfl,by rw [e];exact h,by decide,rfl, ?_⟩⟩
 rw [e];exact told_take v h
theorem parts_nat {c:Co}(h:c.may=true):((c.parts.toNat:Nat):Int)=c.parts/\c.parts.toNat<=3:=by
 obtain ⟨_,_,_,h9,hn,_⟩:=Co.facts h
 by_cases e:c.op=9
 ·have:=h9 e;omega
 ·have:=hn e;omega
theorem star_text {c:Co}(h9:c.op=9):zE 46 (qN c.v c.parts.toNat++[[42]])=c.text:=by
 unfold Co.text Co.rest
 rw [h9,if_pos rfl];rfl
theorem text_pre {c:Co}(h9:¬ c.op=9)(hp:¬ c.v.pre=[]):bM c.op++zE 46 (qN c.v c.parts.toNat)++[45]++c.v.pre=c.text:=by
 unfold Co.text Co.rest xP
 rw [if_neg h9]
 cases hq:c.v.pre with
 |nil=>exact absurd hq hp
 |cons a r=>simp
theorem text_bare {c:Co}(h9:¬ c.op=9)(hp:c.v.pre=[]):bM c.op++zE 46 (qN c.v c.parts.toNat)=c.text:=by
 unfold Co.text Co.rest xP
 rw [if_neg h9,hp];simp
theorem rctold_any (c:Co)(W:World)(hc:c.short)(hm:c.may=true):YC 151 #[coV c] W λe w'=>∃ v' ob',e= .returned v'/\(∃ g,v'= .slice (some ⟨g,0,none⟩) c.parts.toNat 3/\ob'=[⟨g,pU c.v,9⟩])/\Own [] W w' ob':=by
 obtain ⟨m1,m2,m3⟩:=bD (Co.facts hm).2.1
 have hpn:=parts_nat hm
 exact zD Tryz.func151 (zY [] λb1=>dJ 13 [] (zX [0,0,0] 3 (z7 (k:=194) (args:= #[YI c.v.maj]) (v:= .string (mkS (Lib.itoa c.v.maj))) [] (λw _=>bQ c.v.maj m1 w) (zX [] 7 (z7 (k:=194) (args:= #[YI c.v.min]) (v:= .string (mkS (Lib.itoa c.v.min))) [] (λw _=>bQ c.v.min m2 w) (zX [] 11 (z7 (k:=194) (args:= #[YI c.v.pat]) (v:= .string (mkS (Lib.itoa c.v.pat))) [] (λw _=>bQ c.v.pat m3 w) (zX [] 12 (gR 3 9 (pU c.v) λb2=>x_slhi 20 [1] (A:=some ⟨b2,0,none⟩) rfl 3 3 1 c.parts Om Om (.slice (some ⟨b2,0,none⟩) c.parts.toNat 3) rfl (z8 [] (.slice (some ⟨b2,0,none⟩) c.parts.toNat 3) λw hO=>⟨_,_,rfl,⟨b2,rfl,rfl⟩,Own.nth 0 ⟨b2,pU c.v,9⟩ hO⟩))))))))))
theorem rcPrint_any (c:Co)(W:World)(hc:c.short):YC 98 #[coV c] W (YR (.string (mkS c.print)) W):=by
 refine zD Tryz.func98 (zY [] λb1=>z7 (k:=150) (args:= #[coV c]) (v:= .bool c.may) [0] (λw _=>rcMay_any c w hc) ?_)
 cases hcm:c.may with
 |false=>exact z8 [] (.string (mkS [])) λw hO=>⟨by unfold Co.print;simp [hcm],hO.below⟩
 |true=>
  have hcv:=(Co.facts hcm).2.1
  have hpn:=parts_nat hcm
  have q1:=signL_len c.op
  have q2:=njoin_len hcv c.parts.toNat
  have q3:=hc.1
  refine yB (R:=λv' ob'=>∃ g,v'= .slice (some ⟨g,0,none⟩) c.parts.toNat 3/\ob'=[⟨g,pU c.v,9⟩]) [0] (λw hO=>rctold_any c w hc hcm) ?_
  rintro v' ob' ⟨g1,rfl,rfl⟩
  refine zG 12 [0] (c.op=9) (λh2=> ?_) (λh2=> ?_)
  ·refine x_slhm 18 [0,0] g1 c.parts.toNat 3 1 c.parts c.parts Om (.slice (some ⟨g1,0,none⟩) c.parts.toNat c.parts.toNat) rfl (vL [] 1 9 #[.string ⟨#[42]⟩] λb2=>x_appF (N:=c.parts.toNat) (cap:=c.parts.toNat) (m:=1) (cp:=1) (sz:=1) (T:=9) [] 2 0 [⟨b2, #[.string ⟨#[42]⟩],9⟩,⟨b1,(coV c).cells,143⟩,⟨g1,pU c.v,9⟩] (by show c.parts.toNat*1<=3;omega) Om Om λva oa hva0=> ?_)
   have hva:SlT va (qN c.v c.parts.toNat++[[42]]) oa:=Sl.to hva0 (by rw [List.length_append,numsN_len c.v hpn.2];rfl) (by show (pU c.v).toList.take _++_=_;rw [told_take c.v hpn.2];unfold jQ;rw [List.map_append];rfl)
   exact z7 (k:=128) (args:= #[va,.int .u8 46]) (v:= .string (mkS (zE 46 (qN c.v c.parts.toNat++[[42]])))) [] (λw hO=>tT va _ 46 w (SlT.readsT hva (hO.past 0 (oa++[⟨b2, #[.string ⟨#[42]⟩],9⟩,⟨b1,(coV c).cells,143⟩,⟨g1,pU c.v,9⟩])) (λx hx=>List.mem_append_left _ hx)) (Nat.le_trans (sjoin_len hcv _) (by decide)) (by rw [List.length_append];have:=numsN_le c.v c.parts.toNat;simp;omega)) (z8 [] (.string (mkS (zE 46 (qN c.v c.parts.toNat++[[42]])))) λw hO=>⟨by rw [co_print hcm,←star_text h2],hO.below⟩)
  ·refine z7 (k:=152) (args:= #[YI c.op]) (v:= .string (mkS (bM c.op))) [0] (λw _=>rcsign_any c.op w) (z7 (k:=128) (args:= #[.slice (some ⟨g1,0,none⟩) c.parts.toNat 3,.int .u8 46]) (v:= .string (mkS (zE 46 (qN c.v c.parts.toNat)))) [] (λw hO=>tT _ _ 46 w (SlT.readsT (told_slt c.v hpn.2 g1) (hO.past 1 [⟨g1,pU c.v,9⟩]) (λx hx=>hx)) (Nat.le_trans q2 (by decide)) (Nat.le_trans (numsN_le _ _) (by decide))) (gD 27 [] (bM c.op) (zE 46 (qN c.v c.parts.toNat)) (jJ 31 [0] c.v.pre [] (λh3=>z8 [] (.string (mkS (bM c.op++zE 46 (qN c.v c.parts.toNat)))) λw hO=>⟨by rw [co_print hcm,←text_bare h2 h3],hO.below⟩) (λh3=> ?_))))
   exact gD 33 [] (bM c.op++zE 46 (qN c.v c.parts.toNat)) [45] (gD 37 [0] (bM c.op++zE 46 (qN c.v c.parts.toNat)++[45]) c.v.pre (z8 [] (.string (mkS (bM c.op++zE 46 (qN c.v c.parts.toNat)++[45]++c.v.pre))) λw hO=>⟨by rw [co_print hcm,←text_pre h2 h3],hO.below⟩))
end
section
def opF (k:Nat):Int:=if k=0 then 9 else if k=1 then 7 else if k=2 then 6 else if k=3 then 3 else if k=4 then 1 else 2
structure FewC (c:Co):Prop where
 op:c.op=7\/c.op=6\/c.op=3\/c.op=1\/c.op=2
 parts:c.parts=3
 v:∃ a b:Nat,a<3/\b<2/\c.v=⟨a,b,0,[],[]⟩
def FewT (t:YL):Prop:=t=[42]∨∃ c,FewC c/\t=c.print
theorem opF_few {k:Nat}(h:k<6)(h9:¬ opF k=9):opF k=7\/opF k=6\/opF k=3\/opF k=1\/opF k=2:=by
 unfold opF at*
 repeat (first|split at* |omega)
theorem few_rd:∀ k:Nat,k<6->yZ YP 3 #[YI 9,YI 7,YI 6,YI 3,YI 1,YI 2] (0+(k:Int).toNat*1)=some (YI (opF k))
 |0,_=>by kernel_rfl
 |1,_=>by kernel_rfl
 |2,_=>by kernel_rfl
 |3,_=>by kernel_rfl
 |4,_=>by kernel_rfl
 |5,_=>by kernel_rfl
theorem few_gen (v:Value)(l:List Int)(i:Nat)(W:World)(hv:ReadsI W W.heap.size v l)(hl:l.length<=9223372036854775807)(hi:i<=100000):YC 54 #[v,YI (i:Int)] W λe w'=>∃ t,FewT t/\e= .returned (.string (mkS t))/\YB W w':=by
 obtain ⟨k,hk,hk6⟩:=x6 (atL l i) 6 (by decide)
 obtain ⟨a,ha,ha3⟩:=x6 (atL l (i+1)) 3 (by decide)
 obtain ⟨b,hb,hb2⟩:=x6 (atL l (i+2)) 2 (by decide)
 have f1:=kZ hv hl i 6 Om (by decide) (by decide) hk
 have f2:=kZ hv hl (i+1) 3 Om (by decide) (by decide) ha
 have f3:=kZ hv hl (i+2) 2 Om (by decide) (by decide) hb
 have hrd:=few_rd k hk6
 refine zD Tryz.func54 (zH [] λb1=>x_join (α:=Nat) (λb2=>[(6,Zp b2 0)])
  (λb2=>[⟨b2,(coV ⟨opF k,3,⟨a,b,0,[],[]⟩⟩).cells,143⟩,⟨b1, #[YI 9,YI 7,YI 6,YI 3,YI 1,YI 2],141⟩]) (λ_=>True) [0]
  (λnj=>dJ 16 [] (x_i 15 [] ((i+1:Nat):Int) (x_i 19 [] ((i+2:Nat):Int) (x_h2 [] 2 15
    (z7 [] (λw hO=>f1 w hO.below) (xh_ixa 50011 [] 3 6 k 1 hk6 (xh_ldk 50012 [] 4 0 _ _ 3 _ hrd (x_h2 [] 8 15
    (z7 [] (λw hO=>f2 w hO.below) (x_h2 [] 12 15
    (z7 [] (λw hO=>f3 w hO.below) (zX [] 15 (wR λb2=>(nj b2 [0] trivial Kr))))
    (wR λb2=>(zX [] 12 (z7 [] (λw hO=>f3 w hO.below) (nj b2 [0] trivial Kr))))))
    (wR λb2=>(zX [] 8 (z7 [] (λw hO=>f2 w hO.below) (zX [] 12 (z7 [] (λw hO=>f3 w hO.below) (nj b2 [0] trivial Kr))))))))))
    (wR λb2=>(zX [] 2 (z7 [] (λw hO=>f1 w hO.below) (xh_ixa 50011 [] 3 6 k 1 hk6 (xh_ldk 50012 [] 4 0 _ _ 3 _ hrd (zX [] 8 (z7 [] (λw hO=>f2 w hO.below) (zX [] 12 (z7 [] (λw hO=>f3 w hO.below) (nj b2 [0] trivial Kr))))))))))))))
  (λb2 g _=>zG 25 [0] (opF k=9) (λh=>z8 [] (.string ⟨#[42]⟩) λw hO=>⟨[42],.inl rfl,rfl,hO.below⟩) (λh=> ?_)))
 exact z7 [0] (λw hO=>rcPrint_any ⟨opF k,3,⟨a,b,0,[],[]⟩⟩ w (by constructor<;>simp)) (z8 [] _ λw hO=>⟨_,.inr ⟨⟨opF k,3,⟨a,b,0,[],[]⟩⟩,⟨opF_few hk6 h,rfl,a,b,ha3,hb2,rfl⟩,rfl⟩,rfl,hO.below⟩)
end
section
theorem plc_mod (z n:Nat)(h:0<n):plc (z:Int) (n:Int)=((z % n:Nat):Int):=by
 have e:(z:Int).tmod n=((z % n:Nat):Int):=rfl
 unfold plc
 rw [e,if_neg Om]
theorem name_at (z:Nat)(W:World):YC 31 #[YI (z:Int)] W (YR (.string (mkS (x2 (z % 5)))) W):=by
 have hp:=plc_mod z 5 (by decide)
 refine zD Tryz.func31 (z7 [] (λw _=>(fB z 5 w (by decide) (by decide)).mono λ_ _ ⟨e1,e2⟩=>⟨by rw [e1,show plc (z:Int) 5=((z % 5:Nat):Int) from hp],e2▸Below.refl _ _⟩) ?_)
 exact x_idx 6 [] x2 (z % 5) 5 Om (z8 [] _ λw hO=>⟨rfl,hO.below⟩)
structure Wv where
 name:YL
 rng:YL
 A:Option Addr
 cap:Nat
 fs:List YL
 bare:Bool
def wvC (x:Wv):List Value:=[.string (mkS x.name),.string (mkS x.rng),.slice x.A x.fs.length x.cap,.bool x.bare]
def wvV (x:Wv):Value:= .agg #[.string (mkS x.name),.string (mkS x.rng),.slice x.A x.fs.length x.cap,.bool x.bare]
structure WishG (own:Nat)(alone:Bool)(x:Wv):Prop where
 name:∃ k,k<4/\x.name=x2 ((own+1+k) % 5)
 rng:FewT x.rng
 fs:x.fs=[]\/alone=true/\(x.fs=[[120]]\/x.fs=[[120],[121]])
theorem wish_gen (v:Value)(l:List Int)(i own:Nat)(alone:Bool)(W:World)(hv:ReadsI W W.heap.size v l)(hl:l.length<=9223372036854775807)(hi:i<=50000)(ho:own<=50000):YC 96 #[v,YI (i:Int),YI (own:Int),.bool alone] W λe w'=>∃ x ob,e= .returned (wvV x)/\(WishG own alone x/\SlT (.slice x.A x.fs.length x.cap) x.fs ob)/\Own [] W w' ob:=by
 obtain ⟨k,hk,hk4⟩:=x6 (atL l i) 4 (by decide)
 obtain ⟨b,hb,_⟩:=x6 (atL l (i+4)) 3 (by decide)
 obtain ⟨m,hm,hm5⟩:=x6 (atL l (i+5)) 5 (by decide)
 have f1:=kZ hv hl i 4 Om (by decide) (by decide) hk
 have f2:=kZ hv hl (i+4) 3 Om (by decide) (by decide) hb
 have f3:=kZ hv hl (i+5) 5 Om (by decide) (by decide) hm
 refine zD Tryz.func96 (zH [] λb1=>x_i 12 [] ((own+1:Nat):Int) (z7 [] (λw hO=>f1 w hO.below) (x_i 16 [] ((own+1+k:Nat):Int) (z7 [] (λw hO=>name_at (own+1+k) w) (x_i 20 [] ((i+1:Nat):Int) (wS (R:=λv=>∃ t,FewT t/\v= .string (mkS t)) [] (λw hO=>(few_gen v l (i+1) w ((hv.below hO.below).more hO.size) hl Om).mono λe w' ⟨t,h1,h2,h3⟩=>⟨_,h2,⟨t,h1,rfl⟩,h3⟩) ?_))))))
 rintro _ ⟨t,ht,rfl⟩
 refine x_i 24 [] ((i+4:Nat):Int) (z7 [] (λw hO=>f2 w hO.below) ?_)
 refine pH 26 [] (.bool (decide ((b:Int)=0))) Kr (zH [] λb2=>x_i 30 [0] ((i+5:Nat):Int) (z7 [] (λw hO=>f3 w hO.below) ?_))
 have fin:∀ (fs:List YL) (A:Option Addr) (cap:Nat),(fs=[]\/alone=true/\(fs=[[120]]\/fs=[[120],[121]]))->WishG own alone ⟨x2 ((own+1+k) % 5),t,A,cap,fs,decide ((b:Int)=0)⟩:=λfs A cap h=>⟨⟨k,hk4,rfl⟩,ht,h⟩
 refine nP 33 [] alone (λh=>zG 35 [] ((2:Int)<m) (λh2=> ?_) (λh2=> ?_)) (λh=> ?_)
 ·have hm2:m=3\/m=4:=by omega
  rcases hm2 with rfl|rfl
  ·exact vL [] 2 9 #[.string (mkS [120]),.string (mkS [121])] (λb3=>qK [1,1,2] 2 (wvV ⟨x2 ((own+1+k) % 5),t,some ⟨b3,0,none⟩,2,[[120]],decide ((b:Int)=0)⟩) λw hO=>⟨_,_,rfl,⟨fin _ _ _ (.inr ⟨h,.inl rfl⟩),⟨rfl,.inr ⟨b3,2, #[.string (mkS [120]),.string (mkS [121])],rfl,rfl,by simp,by decide,rfl,rfl⟩⟩⟩,hO.nth 0 _⟩)
  ·exact vL [] 2 9 #[.string (mkS [120]),.string (mkS [121])] (λb3=>qK [1,1,2] 2 (wvV ⟨x2 ((own+1+k) % 5),t,some ⟨b3,0,none⟩,2,[[120],[121]],decide ((b:Int)=0)⟩) λw hO=>⟨_,_,rfl,⟨fin _ _ _ (.inr ⟨h,.inr rfl⟩),⟨rfl,.inr ⟨b3,2, #[.string (mkS [120]),.string (mkS [121])],rfl,rfl,by simp,by decide,rfl,rfl⟩⟩⟩,hO.nth 0 _⟩)
 ·exact qK [0,1] 1 (wvV ⟨x2 ((own+1+k) % 5),t,none,0,[],decide ((b:Int)=0)⟩) λw hO=>⟨_,[],rfl,⟨fin _ _ _ (.inl rfl),Sl.nil _ _⟩,hO.no⟩
 ·exact qK [0,1] 1 (wvV ⟨x2 ((own+1+k) % 5),t,none,0,[],decide ((b:Int)=0)⟩) λw hO=>⟨_,[],rfl,⟨fin _ _ _ (.inl rfl),Sl.nil _ _⟩,hO.no⟩
end
section
set_option linter.unnecessarySimpa false
def sepT (c:Nat):YL:=if c=0 then [32,61,32] else [32,33,61,32]
theorem keyL_part:∀ (i:Nat),i<3→∀ w,(part 9 #[.string ⟨#[111,115]⟩,.string ⟨#[97,114,99,104]⟩,.string ⟨#[97,98,105]⟩] i).run YP w= .ok (.string (mkS (m4 i))) w
 |0,_,w=>by kernel_rfl
 |1,_,w=>by kernel_rfl
 |2,_,w=>by kernel_rfl
theorem sepT_part:∀ (i:Nat),i<2→∀ w,(part 9 #[.string ⟨#[32,61,32]⟩,.string ⟨#[32,33,61,32]⟩] i).run YP w= .ok (.string (mkS (sepT i))) w
 |0,_,w=>by kernel_rfl
 |1,_,w=>by kernel_rfl
theorem keyL_four (k:Nat):(m4 k).length<=4:=by unfold m4;split<;>(try split)<;>simp
theorem sepT_four (k:Nat):(sepT k).length<=4:=by unfold sepT;split<;>simp
theorem wordT_four (k:Nat):(v7 k).length<=4:=by unfold v7;split<;>(try split)<;>(try split)<;>simp
def WhenT (t:YL):Prop:=t=[]∨∃ k c j,k<3/\t=m4 k++sepT c++v7 j
theorem when_gen (v:Value)(l:List Int)(i:Nat)(W:World)(hv:ReadsI W W.heap.size v l)(hl:l.length<=9223372036854775807)(hi:i<=10000):YC 55 #[v,YI (i:Int)] W λe w'=>∃ t,WhenT t/\e= .returned (.string (mkS t))/\YB W w':=by
 obtain ⟨k,hk,hk6⟩:=x6 (atL l i) 6 (by decide)
 obtain ⟨c,hc,hc2⟩:=x6 (atL l (i+1)) 2 (by decide)
 obtain ⟨b,hb,hb3⟩:=x6 (atL l (i+1)) 3 (by decide)
 obtain ⟨j,hj4,hj⟩:=wordT_any ((1:Int)+(b:Int))
 have hf6:=kZ hv hl i 6 Om (by decide) (by decide) hk
 have hf2:=kZ hv hl (i+1) 2 Om (by decide) (by decide) hc
 have hf3:=kZ hv hl (i+1) 3 Om (by decide) (by decide) hb
 refine Z2 (n:=28) Tryz.func55 rfl (ZO (Zv (.string ⟨#[]⟩) (ZR (Zv (v) (Zv (YI (i:Int)) (Zc (k:=43) (args:= #[v,YI (i:Int),YI 6]) (YI (k:Int)) (λw hO=>hf6 w hO.below) (Zv (YI (k:Int)) ?_)))))))
 refine ZN (k6 (ZO (Zv (YI (k:Int)) ?_)))
 by_cases h1:(2:Int)<(k:Int)
 ·refine Zg h1 (ZY (ZO (Zv (.string ⟨#[]⟩) (ZN (qX (qG (ZF (.string ⟨#[]⟩) Tryz.results55 ?_)))))))
  exact λw hO=>⟨[],.inl rfl,rfl,hO.below⟩
 have hk3:k<3:=by omega
 have q1:=keyL_four k;have q2:=sepT_four c;have q3:=wordT_four j
 refine Zh h1 (ZX (ZB (k6 (ok_draw Kr Kr (Zw (.agg #[.string ⟨#[111,115]⟩,.string ⟨#[97,114,99,104]⟩,.string ⟨#[97,98,105]⟩]) (Zw (YI (k:Int)) (q_val (.string (mkS (m4 k))) Kr (run_idxg m4 hk3 rfl Kr Kr Tryz.underlying112 (λi hi w=>keyL_part i hi w) Kr) (Zw (.agg #[.string ⟨#[32,61,32]⟩,.string ⟨#[32,33,61,32]⟩]) ?_))))))))
 refine Zw (v) (Zw (YI (i:Int)) (q_sum (k:= .i64) (((i+1:Nat):Int)) Kr (λ_=>Kr) (IntWalk.i64_in _ Om) (Zq (k:=43) (args:= #[v,YI ((i+1:Nat):Int),YI 2]) (YI (c:Int)) (λw hO=>hf2 w hO.below) (q_val (.string (mkS (sepT c))) Kr (run_idxg sepT hc2 rfl Kr Kr Tryz.underlying145 (λi hi w=>sepT_part i hi w) Kr) (q_val (.string (mkS ((m4 k)++(sepT c)))) Kr (nW (a:=(m4 k)) (b:=(sepT c)) rfl Kr Kr (by first|omega|(simp only [List.length_append,List.length_cons,List.length_nil];omega))) (Zw (v) (Zw (YI (i:Int)) (q_sum (k:= .i64) (((i+1:Nat):Int)) Kr (λ_=>Kr) (IntWalk.i64_in _ Om) (Zq (k:=43) (args:= #[v,YI ((i+1:Nat):Int),YI 3]) (YI (b:Int)) (λw hO=>hf3 w hO.below) (q_sum (k:= .i64) ((1:Int)+(b:Int)) Kr (λ_=>Kr) (IntWalk.i64_in _ Om) (Zq (k:=97) (args:= #[YI ((1:Int)+(b:Int))]) (.string (mkS (v7 j))) (λw hO=>hj w) ?_)))))))))))
 exact q_val (.string (mkS (((m4 k)++(sepT c))++(v7 j)))) Kr (nW (a:=((m4 k)++(sepT c))) (b:=(v7 j)) rfl Kr Kr (by first|omega|(simp only [List.length_append,List.length_cons,List.length_nil];omega))) (Zw (.string (mkS (((m4 k)++(sepT c))++(v7 j)))) (q_nil (vS (qX (ZF (.string (mkS (((m4 k)++(sepT c))++(v7 j)))) Tryz.results55 (λw hO=>⟨_,.inr ⟨k,c,j,hk3,rfl⟩,rfl,hO.below⟩))))))
end
section
structure Nv where
 A:Option Addr
 cap:Nat
 any:List Wv
 wh:YL
 opt:YL
def nvC (x:Nv):List Value:=[.slice x.A x.any.length x.cap,.string (mkS x.wh),.string (mkS x.opt)]
def nvV (x:Nv):Value:= .agg #[.slice x.A x.any.length x.cap,.string (mkS x.wh),.string (mkS x.opt)]
structure WsO (A:Option Addr)(cap:Nat)(xs:List Wv)(ob:List Blk):Prop where
 ex:∃ o1 o2,ob=o1++o2/\Sl 139 4 (.slice A xs.length cap) xs.length (xs.flatMap wvC) o1∧∀ x∈xs,∃ o,SlT (.slice x.A x.fs.length x.cap) x.fs o∧∀ b∈o,b∈o2
structure NeedG (own:Nat)(x:Nv):Prop where
 any:(∃ w,x.any=[w]/\WishG own true w)∨∃ w u,x.any=[w,u]/\WishG own false w/\WishG own false u
 wh:WhenT x.wh
 opt:x.opt=[]∨∃ j,j<4/\x.opt=v7 j
def WishR (own:Nat)(alone:Bool)(v:Value)(ob:List Blk):Prop:=∃ x,v=wvV x/\WishG own alone x/\SlT (.slice x.A x.fs.length x.cap) x.fs ob
theorem wish_R {v:Value}{l:List Int}{i own:Nat}{alone:Bool}{W w:World}(hb:YB W w)(hv:ReadsI W W.heap.size v l)(hl:l.length<=9223372036854775807)(hi:i<=50000)(ho:own<=50000):YC 96 #[v,YI (i:Int),YI (own:Int),.bool alone] w λe w'=>∃ v ob,e= .returned v/\WishR own alone v ob/\Own [] w w' ob:=
 (wish_gen v l i own alone w ((hv.below hb).more hb.size) hl hi ho).mono λe w' ⟨x,ob,h1,h2,h3⟩=>⟨_,ob,h1,⟨x,rfl,h2⟩,h3⟩
theorem need_gen (v:Value)(l:List Int)(i own:Nat)(W:World)(hv:ReadsI W W.heap.size v l)(hl:l.length<=9223372036854775807)(hi:i<=5000)(ho:own<=5000):YC 53 #[v,YI (i:Int),YI (own:Int)] W λe w'=>∃ x ob,e= .returned (nvV x)/\(NeedG own x/\WsO x.A x.cap x.any ob)/\Own [] W w' ob:=by
 obtain ⟨m,hm,hm5⟩:=x6 (atL l i) 5 (by decide)
 obtain ⟨q,hq,hq4⟩:=x6 (atL l (i+16)) 4 (by decide)
 obtain ⟨j,hj4,hj⟩:=wordT_any (atL l (i+17))
 have f1:=kZ hv hl i 5 Om (by decide) (by decide) hm
 have f2:=kZ hv hl (i+16) 4 Om (by decide) (by decide) hq
 have fa:∀ w,YB W w->YC 81 #[v,YI ((i+17:Nat):Int)] w (YR (YI (atL l (i+17))) w):=λw hb=>(at_any v l (i+17) w ((hv.below hb).more hb.size) hl Om).mono λ_ _ ⟨e1,e2⟩=>⟨e1,e2▸Below.refl _ _⟩
 have ho':own<=50000:=by omega
 refine zD Tryz.func53 (zH [] λb1=>zH [] λb2=>z7 [] (λw hO=>f1 w hO.below) (zG 13 [] ((m:Int)=1) (λh1=> ?_) (λh1=> ?_)))
 ·refine x_rounds 2 [] (x4 14 [] [⟨b2,Z0,72⟩] (λw hO=>hO.nth 0 _) (x_i 23 [0] ((i+1:Nat):Int) (x_i 26 [] ((i+1:Nat):Int) (zX [] 11 (yU (R:=WishR own false) (λw hO=>wish_R (i:=i+1) hO.below hv hl Om ho') ?_)))))
  rintro _ ob ⟨x,rfl,hx,hxs⟩
  refine zX [] 12 (gR 1 139 (wvV x).cells λb3=>zX [] 13 (wD [⟨b3,(wvV x).cells,139⟩,⟨b2,Z0,72⟩,⟨b1,Z0,72⟩] [] (ob) 0 ([⟨b3,(wvV x).cells,139⟩,⟨b2,Z0,72⟩,⟨b1,Z0,72⟩]++ob) [⟨b2,Z0,72⟩] (λw hO=>by simpa using hO) (λo w hO=>hO.nth 1 _) (Sl.nil 139 4) (m:=1) (cp:=1) Om λv' o' h=> ?_))
  obtain ⟨A',c',rfl⟩:=Sl.form h
  refine (x4 14 [1] [⟨b2, #[.slice A' 1 c',.string ⟨#[]⟩,.string ⟨#[]⟩],72⟩] (λw hO=>hO.nth 1 _) (x_i 23 [0] ((i+1:Nat):Int) (x_i 26 [] ((i+7:Nat):Int) (zX [] 11 (yU (R:=WishR own false) (λw hO=>wish_R (i:=i+7) hO.below hv hl Om ho') ?_)))))
  rintro _ ob2 ⟨y,rfl,hy,hys⟩
  refine zX [] 12 (gR 1 139 (wvV y).cells λb4=>zX [] 13 (wD [⟨b4,(wvV y).cells,139⟩,⟨b3,(wvV x).cells,139⟩,⟨b2, #[.slice A' 1 c',.string ⟨#[]⟩,.string ⟨#[]⟩],72⟩,⟨b1,Z0,72⟩] o' (ob++ob2) 0 (⟨b4,(wvV y).cells,139⟩::(([⟨b3,(wvV x).cells,139⟩,⟨b2, #[.slice A' 1 c',.string ⟨#[]⟩,.string ⟨#[]⟩],72⟩,⟨b1,Z0,72⟩]++o'++ob)++ob2)) [⟨b2, #[.slice A' 1 c',.string ⟨#[]⟩,.string ⟨#[]⟩],72⟩] (λw hO=>by simpa [List.append_assoc] using hO) (λo w hO=>hO.nth 2 _) h (m:=1) (cp:=1) Om λv2 o2 h'=> ?_))
  obtain ⟨A2,c2,rfl⟩:=Sl.form h'
  refine x_i 36 [2] ((i+14:Nat):Int) (wS (R:=λv=>∃ t,WhenT t/\v= .string (mkS t)) [] (λw hO=>(when_gen v l (i+14) w ((hv.below hO.below).more hO.size) hl Om).mono λe w' ⟨t,h1,h2,h3⟩=>⟨_,h2,⟨t,h1,rfl⟩,h3⟩) ?_)
  rintro _ ⟨t,ht,rfl⟩
  refine x_i 41 [2] ((i+16:Nat):Int) (z7 [] (λw hO=>f2 w hO.below) (zG 43 [] ((q:Int)=1) (λh2=> ?_) (λh2=> ?_)))
  ·exact x_i 46 [] ((i+17:Nat):Int) (z7 [] (λw hO=>fa w hO.below) (z7 [] (λw hO=>hj w) (qK [2,2,3] 3 (nvV ⟨A2,c2,[x,y],t,v7 j⟩) λw hO=>⟨_,_,rfl,⟨⟨.inr ⟨x,y,rfl,hx,hy⟩,ht,.inr ⟨j,hj4,rfl⟩⟩,⟨o2,ob++ob2,rfl,h',λz hz=>by
    rcases List.mem_cons.1 hz with rfl|hz
    ·exact ⟨ob,hxs,λb hb=>List.mem_append_left _ hb⟩
    ·rw [List.mem_singleton.1 hz];exact ⟨ob2,hys,λb hb=>List.mem_append_right _ hb⟩⟩⟩,hO.past 4 _⟩)))
  ·exact qK [2,3] 3 (nvV ⟨A2,c2,[x,y],t,[]⟩) λw hO=>⟨_,_,rfl,⟨⟨.inr ⟨x,y,rfl,hx,hy⟩,ht,.inl rfl⟩,⟨o2,ob++ob2,rfl,h',λz hz=>by
    rcases List.mem_cons.1 hz with rfl|hz
    ·exact ⟨ob,hxs,λb hb=>List.mem_append_left _ hb⟩
    ·rw [List.mem_singleton.1 hz];exact ⟨ob2,hys,λb hb=>List.mem_append_right _ hb⟩⟩⟩,hO.past 4 _⟩
 ·refine x_rounds 1 [] (x4 14 [] [⟨b2,Z0,72⟩] (λw hO=>hO.nth 0 _) (x_i 23 [0] ((i+1:Nat):Int) (x_i 26 [] ((i+1:Nat):Int) (zX [] 11 (yU (R:=WishR own true) (λw hO=>wish_R (i:=i+1) hO.below hv hl Om ho') ?_)))))
  rintro _ ob ⟨x,rfl,hx,hxs⟩
  refine zX [] 12 (gR 1 139 (wvV x).cells λb3=>zX [] 13 (wD [⟨b3,(wvV x).cells,139⟩,⟨b2,Z0,72⟩,⟨b1,Z0,72⟩] [] (ob) 0 ([⟨b3,(wvV x).cells,139⟩,⟨b2,Z0,72⟩,⟨b1,Z0,72⟩]++ob) [⟨b2,Z0,72⟩] (λw hO=>by simpa using hO) (λo w hO=>hO.nth 1 _) (Sl.nil 139 4) (m:=1) (cp:=1) Om λv' o' h=> ?_))
  obtain ⟨A',c',rfl⟩:=Sl.form h
  refine x_i 36 [1] ((i+14:Nat):Int) (wS (R:=λv=>∃ t,WhenT t/\v= .string (mkS t)) [] (λw hO=>(when_gen v l (i+14) w ((hv.below hO.below).more hO.size) hl Om).mono λe w' ⟨t,h1,h2,h3⟩=>⟨_,h2,⟨t,h1,rfl⟩,h3⟩) ?_)
  rintro _ ⟨t,ht,rfl⟩
  refine x_i 41 [1] ((i+16:Nat):Int) (z7 [] (λw hO=>f2 w hO.below) (zG 43 [] ((q:Int)=1) (λh2=> ?_) (λh2=> ?_)))
  ·exact x_i 46 [] ((i+17:Nat):Int) (z7 [] (λw hO=>fa w hO.below) (z7 [] (λw hO=>hj w) (qK [1,1,2] 2 (nvV ⟨A',c',[x],t,v7 j⟩) λw hO=>⟨_,_,rfl,⟨⟨.inl ⟨x,rfl,hx⟩,ht,.inr ⟨j,hj4,rfl⟩⟩,⟨o',ob,rfl,h,λy hy=>⟨ob,by rw [List.mem_singleton.1 hy];exact hxs,λb hb=>hb⟩⟩⟩,hO.past 3 _⟩)))
  ·exact qK [1,2] 2 (nvV ⟨A',c',[x],t,[]⟩) λw hO=>⟨_,_,rfl,⟨⟨.inl ⟨x,rfl,hx⟩,ht,.inl rfl⟩,⟨o',ob,rfl,h,λy hy=>⟨ob,by rw [List.mem_singleton.1 hy];exact hxs,λb hb=>hb⟩⟩⟩,hO.past 3 _⟩
end
section
set_option linter.unnecessarySimpa false
structure UpTo (xs:List Fv)(i:Nat):Prop where
 le:i<=xs.length
 wd:∀ x∈xs.take i,wdL x.name=true
 up:∀ z (hz:z+1<xs.length),z+1<i->Op.bytesLess (xs[z]'Om).name xs[z+1].name=true
 it:∀ x∈xs.take i,kA (yI xs) x.of=true
theorem UpTo.zero (xs:List Fv):UpTo xs 0:=⟨Nat.zero_le _,λx hx=>by simp at hx,λz hz h=>by omega,λx hx=>by simp at hx⟩
theorem UpTo.next {xs:List Fv}{i:Nat}(h:UpTo xs i)(hi:i<xs.length)(h1:wdL xs[i].name=true)(h2:∀ h0:0<i,Op.bytesLess (xs[i-1]'Om).name xs[i].name=true)(h3:kA (yI xs) xs[i].of=true):UpTo xs (i+1):=by
 refine ⟨hi,yH hi h.wd h1,λz hz hzi=> ?_,yH hi h.it h3⟩
 rcases Nat.lt_succ_iff_lt_or_eq.1 hzi with q|q
 ·exact h.up z hz q
 ·subst q;exact h2 Om
theorem UpTo.may {xs:List Fv}{i:Nat}(h:UpTo xs i)(hi:xs.length<=i)(h8:xs.length<=8):jU (yI xs)=true:=by
 refine may_yes (by rw [j7];exact h8) (λf hf=> ?_) (ft_rise.2 λz hz=>h.up z hz (by omega)) λf hf=> ?_
 ·obtain ⟨x,hx,rfl⟩:=List.mem_map.1 hf;exact xE hi h.wd x hx
 ·obtain ⟨x,hx,rfl⟩:=List.mem_map.1 hf;exact xE hi h.it x hx
theorem may_no1 {xs:List Fv}{x:Fv}(hx:x∈xs)(h:wdL x.name=false):jU (yI xs)=false:=n7 (.inr (.inl ⟨x.ft,ft_mem hx,h⟩))
theorem may_no2 {xs:List Fv}{z:Nat}(hz:z+1<xs.length)(h:Op.bytesLess (xs[z]'Om).name xs[z+1].name=false):jU (yI xs)=false:=n7 (.inr (.inr (.inl (by
 cases hq:xR ((yI xs).map Ft.name) with
 |false=>rfl
 |true=>have q:=ft_rise.1 hq z hz;rw [h] at q;cases q))))
theorem may_no3 {xs:List Fv}{x:Fv}(hx:x∈xs)(h:kA (yI xs) x.of=false):jU (yI xs)=false:=n7 (.inr (.inr (.inr ⟨x.ft,ft_mem hx,h⟩)))
theorem r11May_any (A:Option Addr)(cap:Nat)(xs:List Fv)(W:World)(hv:FtIn W W.heap.size A xs):YC 172 #[.slice A xs.length cap] W (YR (.bool (jU (yI xs))) W):=by
 refine zD Tryz.func172 ?_
 by_cases h1:(8:Int)<(xs.length:Int)
 ·refine zG 6 [] ((8:Int)<(xs.length:Int)) (λ_=> ?_) (λhq=>absurd (h1) hq)
  exact z8 [] Z5 (λw hO=>⟨by rw [show jU (yI xs)=false from n7 (.inl (by rw [j7];omega))],hO.below⟩)
 refine zG 6 [] ((8:Int)<(xs.length:Int)) (λhq=>absurd hq (h1)) (λ_=>zT (α:=Nat) (λi=>[(0,.slice A xs.length cap),(3,YI (i:Int))]) (λi=>[]) (λi m=>(UpTo xs i)/\m=xs.length-i) (0) (xs.length-0) [] ⟨UpTo.zero xs,rfl⟩ ?_)
 rintro i m g kk ⟨hrel,hmm⟩ nx hkk
 subst hkk
 have hi6:=hrel.le;have hxn:=hv.n
 by_cases h2:(i:Int)<(xs.length:Int)
 ·have hil:i<xs.length:=by omega
  obtain ⟨bp,off,hA,hlt,hcell⟩:=hv.top Om
  obtain ⟨x,hx⟩:∃ x,xs[i]=x:=⟨_,rfl⟩
  have hxm:x∈xs:=hx▸List.getElem_mem hil
  refine zG 10 [] ((i:Int)<(xs.length:Int)) (λ_=> ?_) (λhq=>absurd (h2) hq)
  refine zL 15 [] hA xs.length cap i 2 (by first|omega|(simp;omega)) (zI 17 [] 9 bp (off+i*2+0) (.string (mkS x.name)) (λw hO=>Reads.load vH (hv.top.on hO.below hO.size) hA i 0 Om Om _ (by rw [hx];kernel_rfl)) (z7 (k:=218) (args:= #[.string (mkS x.name)]) (v:= .bool (wdL x.name)) [] (λw hO=>bR x.name w (hv.name x hxm)) ?_))
  cases h3:wdL x.name with
  |true=>
   by_cases h4:(0:Int)<(i:Int)
   ·have hi0:0<i:=by omega
    obtain ⟨y,hy⟩:∃ y,xs[i-1]'Om=y:=⟨_,rfl⟩
    refine zG 22 [] ((0:Int)<(i:Int)) (λ_=> ?_) (λhq=>absurd (h4) hq)
    refine xY 26 [] (YI (IntKind.i64.wrap ((i:Int) -1))) (YI ((i-1:Nat):Int)) (by rw [IntWalk.i64_in _ Om,show (i:Int) -1=((i-1:Nat):Int) by omega]) (zL 27 [] hA xs.length cap (i-1) 2 (by first|omega|(simp;omega)) (zI 29 [] 9 bp (off+(i-1)*2+0) (.string (mkS y.name)) (λw hO=>Reads.load vH (hv.top.on hO.below hO.size) hA (i-1) 0 Om Om _ (by rw [hy];kernel_rfl)) (zL 32 [] hA xs.length cap i 2 (by first|omega|(simp;omega)) (zI 34 [] 9 bp (off+i*2+0) (.string (mkS x.name)) (λw hO=>Reads.load vH (hv.top.on hO.below hO.size) hA i 0 Om Om _ (by rw [hx];kernel_rfl)) ?_))))
    cases h5:Op.bytesLess y.name x.name with
    |true=>
     refine x_sge 35 [] y.name x.name (λ_=> ?_) (λhq=>absurd (hq.symm.trans h5) (by decide))
     refine zL 42 [] hA xs.length cap i 2 (by first|omega|(simp;omega)) (zI 44 [] 85 bp (off+i*2+1) (.slice x.A x.of.length x.cap) (λw hO=>Reads.load vH (hv.top.on hO.below hO.size) hA i 1 Om Om _ (by rw [hx];kernel_rfl)) (z7 (k:=220) (args:= #[.slice A xs.length cap,.slice x.A x.of.length x.cap]) (v:= .bool (kA (yI xs) x.of)) [] (λw hO=>r11items_any A cap xs x.A x.cap x.of w (hv.on hO.below hO.size) ((hv.each x hxm).on hO.below hO.size) (hv.m x hxm) (hv.text x hxm)) ?_))
     cases h6:kA (yI xs) x.of with
     |true=>
      exact x_i 12 [] (((i+1:Nat):Int)) (nx (i+1) (xs.length-(i+1)) [] Om ⟨hrel.next hil (by rw [hx];exact h3) (λh0=>by rw [hx,hy];exact h5) (by rw [hx];exact h6),rfl⟩ Kr Kr)
     |false=>
      exact z8 [] Z5 (λw hO=>⟨by rw [show jU (yI xs)=false from may_no3 hxm h6],hO.below⟩)
    |false=>
     exact x_sge 35 [] y.name x.name (λhq=>absurd (hq.symm.trans h5) (by decide)) (λ_=>z8 [] Z5 (λw hO=>⟨by rw [show jU (yI xs)=false from may_no2 (z:=i-1) Om (by simp only [show i-1+1=i by omega,hx,hy];exact h5)],hO.below⟩))
   refine zG 22 [] ((0:Int)<(i:Int)) (λhq=>absurd hq (h4)) (λ_=>zL 42 [] hA xs.length cap i 2 (by first|omega|(simp;omega)) (zI 44 [] 85 bp (off+i*2+1) (.slice x.A x.of.length x.cap) (λw hO=>Reads.load vH (hv.top.on hO.below hO.size) hA i 1 Om Om _ (by rw [hx];kernel_rfl)) (z7 (k:=220) (args:= #[.slice A xs.length cap,.slice x.A x.of.length x.cap]) (v:= .bool (kA (yI xs) x.of)) [] (λw hO=>r11items_any A cap xs x.A x.cap x.of w (hv.on hO.below hO.size) ((hv.each x hxm).on hO.below hO.size) (hv.m x hxm) (hv.text x hxm)) ?_)))
   cases h7:kA (yI xs) x.of with
   |true=>
    exact x_i 12 [] (((i+1:Nat):Int)) (nx (i+1) (xs.length-(i+1)) [] Om ⟨hrel.next hil (by rw [hx];exact h3) (λh0=>absurd h0 Om) (by rw [hx];exact h7),rfl⟩ Kr Kr)
   |false=>
    exact z8 [] Z5 (λw hO=>⟨by rw [show jU (yI xs)=false from may_no3 hxm h7],hO.below⟩)
  |false=>
   exact z8 [] Z5 (λw hO=>⟨by rw [show jU (yI xs)=false from may_no1 hxm h3],hO.below⟩)
 exact zG 10 [] ((i:Int)<(xs.length:Int)) (λhq=>absurd hq (h2)) (λ_=>z8 [] Z4 (λw hO=>⟨by rw [hrel.may Om Om],hO.below⟩))
end
section
set_option linter.unnecessarySimpa false
theorem put_new {l:List YL}{s:YL}{k:Nat}(hk:k<=l.length)(h:∀ x∈l.take k,Op.bytesLess x s=true)(h2:∀ hk:k<l.length,Op.bytesLess l[k] s=false∧¬ l[k]=s):x1 l s=l.take k++[s]++l.drop k:=by
 rw [put_at k h,List.append_assoc]
 congr 1
 by_cases hl:k<l.length
 ·rw [List.drop_eq_getElem_cons hl,x1,if_neg (by rw [(h2 hl).1];simp),if_neg (h2 hl).2];rfl
 ·rw [List.drop_of_length_le Om];rfl
theorem put_old {l:List YL}{s:YL}{k:Nat}(hk:k<l.length)(h:∀ x∈l.take k,Op.bytesLess x s=true)(h2:Op.bytesLess l[k] s=false)(h3:l[k]=s):x1 l s=l:=by
 rw [put_at k h,List.drop_eq_getElem_cons hk,x1,if_neg (by rw [h2];simp),if_pos h3,←List.drop_eq_getElem_cons hk,List.take_append_drop]
structure RdP (w:World)(v:Value)(l:List YL):Prop where
 ex:∃ A cap,v= .slice A l.length cap/\Reads zW w w.heap.size A l/\l.length<=cap/\(l=[]->A=none/\cap=0)
end
section
section
variable {M:List Nat}{P:Program}{n:Nat}{ops:Array Oper}{W:World}{L0:List Blk}{Q:Exit->Act->World->Prop}{fuel:Nat}{listed:Array Bool}{f:Nat->Value}
theorem hl_appendR {α:Type}{g:α->List Value}{i0:Nat}{E ob R:List Blk}(oi:Oper){t T:TypeId}{s x:Operand}{i:TypeInfo}{z:Value}{sz:Nat}(hg:∀ y,(g y).length=sz)(hi0:ops[i0]?=some oi)(hw:zS ops n f oi=true)(ho:oi.op= .call {callee:= .builtin .append,args:= #[s,x],argTypes:= #[t,t]})
  (ht:P.underlying t=some (.slice T)) (hi:P.info? T=some i) (hz:i.zero=some z) (hsz:i.size=sz) (hzs:z.cells.size=sz)
  {v:Value} {m0:Nat} {xs:List Value} (hs:ev n f s=v) (hv:Sl T sz v m0 xs ob) {A:Option Addr} {c:Nat} {l:List α} (hx:ev n f x= .slice A l.length c)
  (hR:∀ w,Own M W w (E++ob++R)->Reads g w w.heap.size A l) (h1:∀ y,∀ u∈g y,u.oneCell'=true)
  (h63:m0+l.length<=maxLen) (hbytes:(m0+l.length)*i.bytes<=140737488355328) (hsub:∀ ob' w,Own M W w (E++ob'++R)->Own M W w L0)
  (h:∀ v' ob',Sl T sz v' (m0+l.length) (xs++l.flatMap g) ob'->wP M P n ops W L0 Q fuel (listed.setIfInBounds i0 true) (E++ob'++R) (upd f oi.dst v')):dT M P n ops W L0 Q fuel listed i0 (E++ob++R) f:=
 mB hi0 hw λw hO=>by
  have hone:∀ u∈l.flatMap g,u.oneCell'=true:=λu hu=>by
   obtain ⟨y,_,hy⟩:=List.mem_flatMap.1 hu
   exact h1 y u hy
  cases A with
  |none=>
   have h0:l=[]:=by
    cases l with
    |nil=>rfl
    |cons y l=>obtain ⟨b,off,e,_⟩:=hR w hO (by simp);cases e
   subst h0
   have hv':Sl T sz v (m0+([]:List α).length) (xs++([]:List α).flatMap g) ob:=by simpa using hv
   refine kN v (w':=w) ?_ ⟨hsub ob w hO,(h v ob hv').go w hO⟩
   have hx':ev n f x= .slice none 0 c:=hx
   unfold execOp
   simp only [ho,resolve,invoke,builtin,Sem.run_bind,Sem.run_pure,Result.andThen_ok,List.map_toArray,List.map_cons,List.map_nil,hs,hx',pK ht hi hv c]
  |some a=>
   have hnews:∀ j u,(l.flatMap g)[j]?=some u->w.cell? (a.add j)=some u:=λj u hj=>by
    have h0:0<l.length:=by
     cases l with
     |nil=>simp at hj
     |cons y l=>simp
    obtain ⟨b,off,e,_,hc⟩:=hR w hO h0
    obtain rfl:=Option.some.inj e
    rw [yJ]
    exact hc j u hj
   obtain ⟨v',w',ob',hr,h2,h3⟩:=fP (P:=P) (ty:=oi.type) (c:=c) ht hi hz hsz hzs hv hO (jX hg l) hnews hone h63 hbytes
   refine kN v' (w':=w') ?_ ⟨hsub ob' w' h3,(h v' ob' h2).go w' h3⟩
   unfold execOp
   simp only [ho,resolve,invoke,builtin,Sem.run_bind,Sem.run_pure,Result.andThen_ok,List.map_toArray,List.map_cons,List.map_nil,hs,hx,hr]
end
section
variable {M:List Nat}{P:Program}{n:Nat}{W:World}{Q:Exit->Act->World->Prop}{c:Xc}
theorem qR {α:Type}{g:α->List Value}{T:TypeId}{sz k cp:Nat}{v:Value}{xs:List Value}{A:Option Addr}(l:List α)(E ob R:List Blk)(L1 L0:List Blk)(hs:∀ w,Own M W w L1->Own M W w (E++ob++R))(hsub:∀ ob' w,Own M W w (E++ob'++R)->Own M W w L0)
  (hgl:∀ y,(g y).length=sz) (h1:∀ y,∀ u∈g y,u.oneCell'=true) (hR:∀ w,Own M W w (E++ob++R)->Reads g w w.heap.size A l) (hv:Sl T sz v k xs ob) (hN:k+l.length<=1000000)
  (hg:∀ v' ob',Sl T sz v' (k+l.length) (xs++l.flatMap g) ob'->zF M P n W Q (aNext c (E++ob'++R) v'))
  (hkt:(c.L,hL c,c.top,(xA c)[hI c]?,zS (xA c) n c.f (xO c),(xO c).op,ev n c.f (aX (xO c) 0),ev n c.f (aX (xO c) 1),P.underlying (aT (xO c)),aInfo P T)
   =(L1,L0,.hst (xA c) (hS c) (hU c) (hL c) (hI c),some (xO c),true,aOp (xO c),v,.slice A l.length cp,some (.slice T),some (true,sz,some sz)):=by kernel_rfl):zF M P n W Q c:=by
 simp only [Prod.mk.injEq] at hkt
 obtain ⟨f1,f2,e1,e2,e3,e4,e5,e6,e8,e9⟩:=hkt
 rw [←f1] at hs
 rw [←f2] at hsub
 have:c=⟨.hst (xA c) (hS c) (hU c) (hL c) (hI c),c.k,c.L,c.f⟩:=by rw [←e1]
 rw [this]
 obtain ⟨i,z,hi,hz,hsz,hzs,hby⟩:=fZ e9
 refine ⟨λhq hs0=>hs_take' hs (hl_appendR (E:=E) (ob:=ob) (R:=R) (xO c) hgl e2 e3 e4 e8 hi hz hsz hzs e5 hv e6 hR h1 ?_ ?_ hsub λv' ob' h=>(hg v' ob' h).go hq (hsub ob'))⟩
 ·unfold maxLen;omega
 ·have:=Nat.mul_le_mul hN hby;omega
theorem sl_block {T:TypeId}{b N sz:Nat}{cs:Array Value}(h:cs.size=N*sz)(hN:N<=maxLen):Sl T sz (.slice (some ⟨b,0,none⟩) N N) N cs.toList [⟨b,cs,T⟩]:=
 ⟨by rw [Array.length_toList];exact h,.inr ⟨b,N,cs,rfl,rfl,Nat.le_refl _,hN,h,by rw [List.take_of_length_le (by rw [Array.length_toList,h];exact Nat.le_refl _)]⟩⟩
end
end
section
def xIns (ρ:Operand->Value)(o:Oper):Option (Sem Value):=match o.op with
 | .makeMap t none=>some (Instr.makeMap t none)
 | .lookup t m x c=>some (Instr.lookup t (ρ m) (ρ x) c)
 | .range t x=>some (Instr.range t (ρ x))
 | .next it s=>some (Instr.next (ρ it) s o.type)
 | .entry it=>some (Instr.entry (ρ it))
 |_=>none
def xUpd (ρ:Operand->Value)(o:Oper):Option (Sem Unit):=match o.op with
 | .mapUpdate t m k x=>some (Instr.mapUpdate t (ρ m) (ρ k) (ρ x))
 |_=>none
section
variable {M:List Nat}{P:Program}{n:Nat}{W:World}{Q:Exit->Act->World->Prop}{c:Xc}
end
end
section
section
variable {M:List Nat}{P:Program}{n:Nat}{W:World}{Q:Exit->Act->World->Prop}{c:Xc}
theorem x_callO {k:FuncId}{args:Array Value}{Rr:Value->List Blk->Prop}(h:List Nat)(L1:List Blk)(hc:∀ w,Own M W w L1->Calls P k args w λe w'=>∃ v L',e= .returned v/\Rr v L'/\Own M W w' L')
  (hg:∀ v L',Rr v L'->zF M P n W Q ⟨.ops (xA (xgo P n nS h c)) (xT (xgo P n nS h c)),(xgo P n nS h c).k,L',upd (xgo P n nS h c).f (xO (xgo P n nS h c)).dst v⟩)
  (hkt:(xgl P n nS h c,(xgo P n nS h c).L,(xgo P n nS h c).top,zS (xA (xgo P n nS h c)) n (xgo P n nS h c).f (xO (xgo P n nS h c)),xEnt P n (xgo P n nS h c))=(xgr P n nS h c,L1,.ops (xA (xgo P n nS h c)) (xO (xgo P n nS h c)::xT (xgo P n nS h c)),true,λw=> .ok (.enter k args) w):=by kernel_rfl):zF M P n W Q c:=by
 simp only [Prod.mk.injEq] at hkt
 obtain ⟨hk,f1,e1,e3,e4⟩:=hkt
 refine zJ h c hk ?_
 generalize xgo P n nS h c=d at*
 have e5:∀ w,(execOp (ev n d.f) (xO d)).run P w= .ok (.enter k args) w:=λw=>by
  have h1:=congrFun e4 w
  unfold xEnt at h1
  rw [e1] at h1
  dsimp only at h1
  rw [e3] at h1
  exact h1
 have:d=⟨.ops (xA d) (xO d::xT d),d.k,d.L,d.f⟩:=by rw [←e1]
 rw [this]
 rw [←f1] at hc
 exact ⟨λhq=>s_callo Rr e3 e5 hc λv L' k2=>(hg v L' k2).go hq⟩
theorem kW {k:FuncId}{args:Array Value}{Rr:Value->List Blk->Prop}(h:List Nat)(L1 R ob:List Blk)(hs:∀ w,Own M W w L1->Own M W w (R++ob))(hc:∀ w,Own M W w (R++ob)->Calls P k args w λe w'=>∃ v ob',e= .returned v/\Rr v ob'/\Own (ob.map Blk.b) w w' ob')
  (hg:∀ v ob',Rr v ob'->zF M P n W Q ⟨.ops (xA (xgo P n nS h c)) (xT (xgo P n nS h c)),(xgo P n nS h c).k,R++ob',upd (xgo P n nS h c).f (xO (xgo P n nS h c)).dst v⟩)
  (hkt:(xgl P n nS h c,(xgo P n nS h c).L,(xgo P n nS h c).top,zS (xA (xgo P n nS h c)) n (xgo P n nS h c).f (xO (xgo P n nS h c)),xEnt P n (xgo P n nS h c))=(xgr P n nS h c,L1,.ops (xA (xgo P n nS h c)) (xO (xgo P n nS h c)::xT (xgo P n nS h c)),true,λw=> .ok (.enter k args) w):=by kernel_rfl):zF M P n W Q c:=by
 simp only [Prod.mk.injEq] at hkt
 obtain ⟨hk,f1,e1,e3,e4⟩:=hkt
 refine zJ h c hk ?_
 generalize xgo P n nS h c=d at*
 have e5:∀ w,(execOp (ev n d.f) (xO d)).run P w= .ok (.enter k args) w:=λw=>by
  have h1:=congrFun e4 w
  unfold xEnt at h1
  rw [e1] at h1
  dsimp only at h1
  rw [e3] at h1
  exact h1
 have:d=⟨.ops (xA d) (xO d::xT d),d.k,d.L,d.f⟩:=by rw [←e1]
 rw [this]
 rw [←f1] at hs
 refine ⟨λhq=>pY hs (s_callo (λv L'=>∃ ob',Rr v ob'/\L'=R++ob') e3 e5 (λw hO=>(hc w hO).mono λe w' ⟨v,ob',k1,k2,k3⟩=>⟨v,_,k1,⟨ob',k2,rfl⟩,(Own.back (hO.perm List.perm_append_comm) k3).perm List.perm_append_comm⟩) λv L' ⟨ob',k2,k3⟩=> ?_)⟩
 subst k3
 exact (hg v ob' k2).go hq
theorem xh_callL {k:FuncId}{args:Array Value}{Rr:Value->List Blk->Prop}(L1 R ob L0:List Blk)(hs:∀ w,Own M W w L1->Own M W w (R++ob))(hsub:∀ ob' w,Own M W w (R++ob')->Own M W w L0)(hc:∀ w,Own M W w (R++ob)->Calls P k args w λe w'=>∃ v ob',e= .returned v/\Rr v ob'/\Own (ob.map Blk.b) w w' ob')
  (hg:∀ v ob',Rr v ob'->zF M P n W Q (aNext c (R++ob') v))
  (hkt:(c.L,hL c,c.top,(xA c)[hI c]?,zS (xA c) n c.f (xO c),λw=>(execOp (ev n c.f) (xO c)).run P w)=(L1,L0,.hst (xA c) (hS c) (hU c) (hL c) (hI c),some (xO c),true,λw=> .ok (.enter k args) w):=by kernel_rfl):zF M P n W Q c:=by
 simp only [Prod.mk.injEq] at hkt
 obtain ⟨f1,f2,e1,e2,e3,e4⟩:=hkt
 rw [←f1] at hs
 rw [←f2] at hsub
 have:c=⟨.hst (xA c) (hS c) (hU c) (hL c) (hI c),c.k,c.L,c.f⟩:=by rw [←e1]
 rw [this]
 refine ⟨λhq hs0=>hs_take' hs (hl_callx (xO c) (λv L'=>∃ ob',Rr v ob'/\L'=R++ob') e2 e3 (λw=>congrFun e4 w) (λw hO=>(hc w hO).mono λe w' ⟨v,ob',k1,k2,k3⟩=>⟨v,_,k1,⟨ob',k2,rfl⟩,(Own.back (hO.perm List.perm_append_comm) k3).perm List.perm_append_comm⟩) (λv L' ⟨ob',_,k3⟩ w hO=>hsub ob' w (k3▸hO)) λv L' ⟨ob',k2,k3⟩=> ?_)⟩
 subst k3
 exact (hg v ob' k2).go hq (hsub ob')
theorem x_drawLF (fu:Fuel1)(m:Nat)(h:List Nat)(L0:List Blk)(hs:∀ w,Own M W w (kM P n nS fu h c).L->Own M W w L0)(hg:zF M P n W Q ⟨.hps ((xDr (kM P n nS fu h c)).toList.take m).toArray (Array.replicate m false) m L0,.tl (xDr (kM P n nS fu h c)) ((xDr (kM P n nS fu h c)).toList.drop m)::(kM P n nS fu h c).k,(kM P n nS fu h c).L,(kM P n nS fu h c).f⟩)
  (hkt:(xl P n nS fu h c,(kM P n nS fu h c).top,P.follows .mixedOrders,preB .any (xDr (kM P n nS fu h c)).toList m)=(xr P n nS (fuel12 fu) h c,.code (.region (xId (kM P n nS fu h c)) (xDr (kM P n nS fu h c)) true),true,true):=by kernel_rfl):zF M P n W Q c:=by
 simp only [Prod.mk.injEq] at hkt
 obtain ⟨hk,e1,e2,e3⟩:=hkt
 refine xrun_ok fu h c hk ?_
 generalize kM P n nS fu h c=d at hg hs e1 e3 ⊢
 generalize xDr d=a at hg e1 e3
 obtain ⟨l,rfl⟩:∃ l:List Oper,a=l.toArray:=⟨a.toList,by simp⟩
 have:d=⟨.code (.region (xId d) l.toArray true),d.k,d.L,d.f⟩:=by rw [←e1]
 rw [this]
 have hg':zF M P n W Q ⟨.hps (l.take m).toArray (Array.replicate m false) m L0,.tl l.toArray (l.drop m)::d.k,d.L,d.f⟩:=by simpa using hg
 exact ⟨λhq=>ok_drawh m L0 e2 (by simpa using e3) (hg'.go hq hs)⟩
theorem x_appR {α:Type}{g:α->List Value}{T:TypeId}{sz k cp:Nat}{v:Value}{xs:List Value}{A:Option Addr}(h:List Nat)(l:List α)(E ob R:List Blk)(L1:List Blk)(hs:∀ w,Own M W w L1->Own M W w (E++ob++R))
  (hgl:∀ y,(g y).length=sz) (h1:∀ y,∀ u∈g y,u.oneCell'=true) (hR:∀ w,Own M W w (E++ob++R)->Reads g w w.heap.size A l) (hv:Sl T sz v k xs ob) (hN:k+l.length<=1000000)
  (hg:∀ v' ob',Sl T sz v' (k+l.length) (xs++l.flatMap g) ob'->zF M P n W Q ⟨.ops (xA (xgo P n nS h c)) (xT (xgo P n nS h c)),(xgo P n nS h c).k,E++ob'++R,upd (xgo P n nS h c).f (xO (xgo P n nS h c)).dst v'⟩)
  (hkt:(xgl P n nS h c,(xgo P n nS h c).L,(xgo P n nS h c).top,zS (xA (xgo P n nS h c)) n (xgo P n nS h c).f (xO (xgo P n nS h c)),(xO (xgo P n nS h c)).op,ev n (xgo P n nS h c).f (aX (xO (xgo P n nS h c)) 0),ev n (xgo P n nS h c).f (aX (xO (xgo P n nS h c)) 1),P.underlying (aT (xO (xgo P n nS h c))),aInfo P T)
   =(xgr P n nS h c,L1,.ops (xA (xgo P n nS h c)) (xO (xgo P n nS h c)::xT (xgo P n nS h c)),true,aOp (xO (xgo P n nS h c)),v,.slice A l.length cp,some (.slice T),some (true,sz,some sz)):=by kernel_rfl):zF M P n W Q c:=by
 simp only [Prod.mk.injEq] at hkt
 obtain ⟨hk,f1,e1,e3,e4,e5,e6,e8,e9⟩:=hkt
 refine zJ h c hk ?_
 generalize xgo P n nS h c=d at*
 rw [←f1] at hs
 have:d=⟨.ops (xA d) (xO d::xT d),d.k,d.L,d.f⟩:=by rw [←e1]
 rw [this]
 obtain ⟨i,z,hi,hz,hsz,hzs,hby⟩:=fZ e9
 have h63:k+l.length<=maxLen:=by unfold maxLen;omega
 have hbytes:(k+l.length)*i.bytes<=140737488355328:=by have:=Nat.mul_le_mul hN hby;omega
 have hone:∀ u∈l.flatMap g,u.oneCell'=true:=λu hu=>by
  obtain ⟨y,_,hy⟩:=List.mem_flatMap.1 hu
  exact h1 y u hy
 refine ⟨λhq=>pY hs (qV e3 λw hO=> ?_)⟩
 cases A with
 |none=>
  have h0:l=[]:=by
   cases l with
   |nil=>rfl
   |cons y l=>obtain ⟨b,off,e,_⟩:=hR w hO (by simp);cases e
  subst h0
  have hv':Sl T sz v (k+([]:List α).length) (xs++([]:List α).flatMap g) ob:=by simpa using hv
  refine kN v (w':=w) ?_ (((hg v ob hv').go hq).go w hO)
  have hx':ev n d.f (aX (xO d) 1)= .slice none 0 cp:=e6
  unfold execOp
  rw [e4]
  simp only [aOp,resolve,invoke,builtin,Sem.run_bind,Sem.run_pure,Result.andThen_ok,List.map_toArray,List.map_cons,List.map_nil,e5,hx',pK e8 hi hv cp]
 |some a=>
  have hnews:∀ j u,(l.flatMap g)[j]?=some u->w.cell? (a.add j)=some u:=λj u hj=>by
   have h0:0<l.length:=by
    cases l with
    |nil=>simp at hj
    |cons y l=>simp
   obtain ⟨b,off,e,_,hc⟩:=hR w hO h0
   obtain rfl:=Option.some.inj e
   rw [yJ]
   exact hc j u hj
  obtain ⟨v',w',ob',hr,h2,h3⟩:=fP (P:=P) (ty:=(xO d).type) (c:=cp) e8 hi hz hsz hzs hv hO (jX hgl l) hnews hone h63 hbytes
  refine kN v' (w':=w') ?_ (((hg v' ob' h2).go hq).go w' h3)
  unfold execOp
  rw [e4]
  simp only [aOp,resolve,invoke,builtin,Sem.run_bind,Sem.run_pure,Result.andThen_ok,List.map_toArray,List.map_cons,List.map_nil,e5,e6,hr]
end
end
section
def sT (o:Oper):TypeId:=match o.op with
 | .store T _ _=>T
 |_=>0
def sP (o:Oper):Operand:=match o.op with
 | .store _ p _=>p
 |_=> .tmp 0
def sQ (o:Oper):Operand:=match o.op with
 | .store _ _ q=>q
 |_=> .tmp 0
def sDn (o:Oper):Bool:=o.dst.isNone
theorem sDn_is {o:Oper}(h:sDn o=true):o.dst=none:=by
 unfold sDn at h
 cases hd:o.dst with
 |none=>rfl
 |some d=>rw [hd] at h;cases h
section
variable {M:List Nat}{P:Program}{n:Nat}{ops:Array Oper}{W:World}{L L0:List Blk}{Q:Exit->Act->World->Prop}{fuel:Nat}{listed:Array Bool}{f:Nat->Value}
theorem hl_storeS {i:Nat}(oi:Oper)(k:Nat)(x:Blk){T:TypeId}{p q:Operand}{off:Nat}(v:Value)(sz:Nat)(hi':ops[i]?=some oi)(hw:zS ops n f oi=true)(ho:oi.op= .store T p q)(hd:oi.dst=none)(hL:L[k]?=some x)
  (hp:ev n f p= .pointer (some ⟨x.b,off,none⟩)) (hq:ev n f q=v) (hz:(P.info? T).map (·.size)=some sz) (hs:v.cells.size=sz) (hle:off+sz<=x.cs.size) (h1:(v.cells.toList.all λu=>u.oneCell')=true)
  (hsub:∀ w,Own M W w (L.set k ⟨x.b,zP x.cs off v.cells,x.ty⟩)->Own M W w L0)
  (h:wP M P n ops W L0 Q fuel (listed.setIfInBounds i true) (L.set k ⟨x.b,zP x.cs off v.cells,x.ty⟩) f):dT M P n ops W L0 Q fuel listed i L f:=
 mB hi' hw λw hO=>by
  cases ht:P.info? T with
  |none=>rw [ht] at hz;cases hz
  |some t=>
   rw [ht] at hz
   have et:t.size=sz:=Option.some.inj hz
   have hst:=run_storeCells_at (P:=P) x.b off x.ty v.cells.toList 0 x.cs w (hO.get hL) (by simp;omega) (List.all_eq_true.1 h1)
   have hO':=hO.put hL (zP x.cs off v.cells)
   unfold Oper.wp
   rw [xG]
   have hr:(execOp (ev n f) oi).run P w= .ok .skip (w.setRow x.b (zP x.cs off v.cells)):=by
    unfold execOp
    simp only [ho,hp,hq,Instr.storeAt,Instr.sureAddr,Sem.run_bind,Sem.run_pure,Result.andThen_ok,storeVar,sizeOf,typeInfo,ht,hs,et,run_program]
    simp only [ne_eq,not_true_eq_false,if_false]
    have:(storeCells ⟨x.b,off,none⟩ v.cells.toList).run P w= .ok () (w.setRow x.b (zP x.cs off v.cells)):=by
     rw [hst];unfold zP;simp
    simp [this]
   rw [hr]
   show Own M W _ L0/\wpAnyH P .any ops Q (λw=>Own M W w L0) fuel (listed.setIfInBounds i true) ((Fr n f).put oi.dst undef) _
   rw [gV,hd]
   exact ⟨hsub _ hO',h.go _ hO'⟩
end
section
variable {M:List Nat}{P:Program}{n:Nat}{W:World}{Q:Exit->Act->World->Prop}{c:Xc}
theorem x_sto (q:Nat)(x:Blk)(off sz:Nat)(v:Value)(L1:List Blk)(hle:off+sz<=x.cs.size)(hg:zF M P n W Q ⟨.ops (xA c) (xT c),c.k,L1.set q ⟨x.b,zP x.cs off v.cells,x.ty⟩,c.f⟩)
  (hkt:(c.L,c.top,zS (xA c) n c.f (xO c),(xO c).op,sDn (xO c),ev n c.f (sP (xO c)),ev n c.f (sQ (xO c)),L1[q]?,(P.info? (sT (xO c))).map (·.size),v.cells.size,v.cells.toList.all λu=>u.oneCell')
   =(L1,.ops (xA c) (xO c::xT c),true,.store (sT (xO c)) (sP (xO c)) (sQ (xO c)),true,.pointer (some ⟨x.b,off,none⟩),v,some x,some sz,sz,true):=by kernel_rfl):zF M P n W Q c:=by
 simp only [Prod.mk.injEq] at hkt
 obtain ⟨f1,e1,e2,e3,e4,e5,e6,e7,e8,e9,e10⟩:=hkt
 have:c=⟨.ops (xA c) (xO c::xT c),c.k,L1,c.f⟩:=by rw [←e1,←f1]
 rw [this]
 exact ⟨λhq=>s_storeS q x v sz e2 e3 (sDn_is e4) e7 e5 e6 e8 e9 hle e10 (hg.go hq)⟩
theorem xh_sto (q:Nat)(x:Blk)(off sz:Nat)(v:Value)(L1 L0:List Blk)(hle:off+sz<=x.cs.size)(hsub:∀ w,Own M W w (L1.set q ⟨x.b,zP x.cs off v.cells,x.ty⟩)->Own M W w L0)
  (hg:zF M P n W Q ⟨.hps (xA c) ((hS c).setIfInBounds (hI c) true) (hU c) (hL c),c.k,L1.set q ⟨x.b,zP x.cs off v.cells,x.ty⟩,c.f⟩)
  (hkt:(c.L,hL c,c.top,(xA c)[hI c]?,zS (xA c) n c.f (xO c),(xO c).op,sDn (xO c),ev n c.f (sP (xO c)),ev n c.f (sQ (xO c)),L1[q]?,(P.info? (sT (xO c))).map (·.size),v.cells.size,v.cells.toList.all λu=>u.oneCell')
   =(L1,L0,.hst (xA c) (hS c) (hU c) (hL c) (hI c),some (xO c),true,.store (sT (xO c)) (sP (xO c)) (sQ (xO c)),true,.pointer (some ⟨x.b,off,none⟩),v,some x,some sz,sz,true):=by kernel_rfl):zF M P n W Q c:=by
 simp only [Prod.mk.injEq] at hkt
 obtain ⟨f1,f2,e1,e0,e2,e3,e4,e5,e6,e7,e8,e9,e10⟩:=hkt
 have:c=⟨.hst (xA c) (hS c) (hU c) (hL c) (hI c),c.k,L1,c.f⟩:=by rw [←e1,←f1]
 rw [←f2] at hsub
 rw [this]
 exact ⟨λhq hs=>hl_storeS (xO c) q x v sz e0 e2 e3 (sDn_is e4) e7 e5 e6 e8 e9 hle e10 hsub (hg.go hq hsub)⟩
theorem xh_seqv (t:Nat)(h:List Nat)(i:Nat)(a b:YL)(hg:zF M P n W Q (xHn (xgo P n t h c) i (.bool (decide (a=b)))))
  (hkt:(xgl P n t h c,mN n i (xgo P n t h c),(xOi i (xgo P n t h c)).op,ev n (xgo P n t h c).f (oX (xOi i (xgo P n t h c))),ev n (xgo P n t h c).f (oY (xOi i (xgo P n t h c))))
   =(xgr P n t h c,bO i (xgo P n t h c),.binOp .eql (oT (xOi i (xgo P n t h c))) (oX (xOi i (xgo P n t h c))) (oY (xOi i (xgo P n t h c))) (oU (xOi i (xgo P n t h c))),.string (mkS a),.string (mkS b)):=by kernel_rfl):zF M P n W Q c:=by
 simp only [Prod.mk.injEq] at hkt
 obtain ⟨hk,e1,e2,e3,e4⟩:=hkt
 exact zJ h c hk (pQ (λw _=>run_streql e2 e3 e4 rfl w) hg e1)
theorem xh_sllo (t:Nat)(h:List Nat)(i:Nat){A:Option Addr}{b off:Nat}(hA:A=some ⟨b,off,none⟩)(N cp sz:Nat)(j:Int)(h0:0<=j)(h1:j<=N)(v:Value)(hv: .slice (some ⟨b,off+(if cp=j.toNat then 0 else j.toNat*sz),none⟩) (N-j.toNat) (cp-j.toNat)=v)(hg:zF M P n W Q (xHn (xgo P n t h c) i v))
  (hkt:(xgl P n t h c,mN n i (xgo P n t h c),(slQ (xOi i (xgo P n t h c))).2.2.2,ev n (xgo P n t h c).f (slQ (xOi i (xgo P n t h c))).2.1,ev n (xgo P n t h c).f (slQ (xOi i (xgo P n t h c))).2.2.1,P.underlying (slQ (xOi i (xgo P n t h c))).1,(P.info? (xEl P (slQ (xOi i (xgo P n t h c))).1)).map (·.size))
   =(xgr P n t h c,bO i (xgo P n t h c),true,.slice A N cp,YI j,some (.slice (xEl P (slQ (xOi i (xgo P n t h c))).1)),some sz):=by kernel_rfl):zF M P n W Q c:=by
 simp only [Prod.mk.injEq] at hkt
 obtain ⟨hk,e1,e2,e3,e4,e5,e6⟩:=hkt
 subst hA
 exact zJ h c hk (pQ (λw _=>by rw [run_sllo (slQ_op e2) e3 e4 e5 e6 h0 h1 w,hv]) hg e1)
theorem xh_slhi (t:Nat)(h:List Nat)(i:Nat){A:Option Addr}{b off:Nat}(hA:A=some ⟨b,off,none⟩)(N cp sz:Nat)(j:Int)(h0:0<=j)(h1:j<=cp)(v:Value)(hv: .slice (some ⟨b,off,none⟩) j.toNat cp=v)(hg:zF M P n W Q (xHn (xgo P n t h c) i v))
  (hkt:(xgl P n t h c,mN n i (xgo P n t h c),(shQ (xOi i (xgo P n t h c))).2.2.2,ev n (xgo P n t h c).f (shQ (xOi i (xgo P n t h c))).2.1,ev n (xgo P n t h c).f (shQ (xOi i (xgo P n t h c))).2.2.1,P.underlying (shQ (xOi i (xgo P n t h c))).1,(P.info? (xEl P (shQ (xOi i (xgo P n t h c))).1)).map (·.size))
   =(xgr P n t h c,bO i (xgo P n t h c),true,.slice A N cp,YI j,some (.slice (xEl P (shQ (xOi i (xgo P n t h c))).1)),some sz):=by kernel_rfl):zF M P n W Q c:=by
 simp only [Prod.mk.injEq] at hkt
 obtain ⟨hk,e1,e2,e3,e4,e5,e6⟩:=hkt
 subst hA
 exact zJ h c hk (pQ (λw _=>by rw [run_slhi (shQ_op e2) e3 e4 e5 e6 h0 h1 w,hv]) hg e1)
end
end
section
set_option linter.unnecessarySimpa false
def PutR (v:Value)(l:List YL)(s:YL)(v':Value)(ob:List Blk):Prop:=(v'=v/\x1 l s=l/\ob=[])\/SlT v' (x1 l s) ob
theorem g8 (s:YL):∀ u∈zW s,u.oneCell'=true:=λu hu=>by rw [List.mem_singleton.1 hu];rfl
theorem reads_take11 {w:World}{B b off:Nat}{l:List YL}(h:Reads zW w B (some ⟨b,off,none⟩) l)(k:Nat):Reads zW w B (some ⟨b,off,none⟩) (l.take k):=λh0=>by
 obtain ⟨b',off',e,hlt,hc⟩:=h (by rw [List.length_take] at h0;omega)
 cases e
 refine ⟨b,off,rfl,hlt,λj u hj=>hc j u ?_⟩
 have:l.flatMap zW=(l.take k).flatMap zW++(l.drop k).flatMap zW:=by rw [←List.flatMap_append,List.take_append_drop]
 rw [this,List.getElem?_append_left (List.getElem?_eq_some_iff.1 hj).1];exact hj
theorem reads_drop11 {w:World}{B b off cap:Nat}{l:List YL}(h:Reads zW w B (some ⟨b,off,none⟩) l)(hcap:l.length<=cap)(k:Nat):Reads zW w B (some ⟨b,off+(if cap=k then 0 else k*1),none⟩) (l.drop k):=λh0=>by
 rw [List.length_drop] at h0
 obtain ⟨b',off',e,hlt,hc⟩:=h Om
 cases e
 rw [if_neg Om]
 refine ⟨b,off+k*1,rfl,hlt,λj u hj=> ?_⟩
 have h1:l.flatMap zW=(l.take k).flatMap zW++(l.drop k).flatMap zW:=by rw [←List.flatMap_append,List.take_append_drop]
 have h2:((l.take k).flatMap zW).length=k:=by rw [jX zR,List.length_take];omega
 rw [Nat.add_assoc]
 refine hc (k*1+j) u ?_
 rw [h1,List.getElem?_append_right Om,h2,show k*1+j-k=j by omega];exact hj
theorem g11put_cons (A:Option Addr)(cap bp off:Nat)(l:List YL)(s:YL)(W:World)(hA:A=some ⟨bp,off,none⟩)(hl0:l≠[])(hcap:l.length<=cap)(hv:Reads zW W W.heap.size A l)(hn:l.length<=900000):YC 99 #[.slice A l.length cap,.string (mkS s)] W λe w'=>∃ v' ob,e= .returned v'/\PutR (.slice A l.length cap) l s v' ob/\Own [] W w' ob:=by
 subst hA
 have hlp:0<l.length:=List.length_pos_iff.2 hl0
 have hTk:∀ k w,Own [] W w []->Reads zW w w.heap.size (some ⟨bp,off,none⟩) (l.take k):=λk w hO=>reads_take11 (hv.on hO.below hO.size) k
 have hDk:∀ k w,Own [] W w []->Reads zW w w.heap.size (some ⟨bp,off+(if cap=k then 0 else k*1),none⟩) (l.drop k):=λk w hO=>reads_drop11 (hv.on hO.below hO.size) hcap k
 have hA:(some ⟨bp,off,none⟩:Option Addr)=some ⟨bp,off,none⟩:=rfl
 have hld:∀ (k:Nat) (hk:k<l.length) x,l[k]=x→∀ w,Own [] W w []->(loadVar 9 ⟨bp,off+k*1+0,none⟩).run YP w= .ok (.string (mkS x)) w:=λk hk x hx w hO=>by
  obtain ⟨b',off',e,hel⟩:=hv.elem zR k hk
  cases e
  exact hel w hO.below _ 0 _ (by rw [hx];kernel_rfl)
 refine zD Tryz.func99 (x_loopE (α:=Nat) (β:=Nat) (λk=>[(0,.slice (some ⟨bp,off,none⟩) l.length cap),(1,.string (mkS s)),(5,YI (k:Int))]) (λ_=>[]) (λk m=>(k<=l.length∧∀ x∈l.take k,Op.bytesLess x s=true)/\m=l.length-k) 0 l.length (λk=>[(0,.slice (some ⟨bp,off,none⟩) l.length cap),(1,.string (mkS s)),(5,YI (k:Int))]) (λ_=>[]) (λk=>k<=l.length/\(∀ x∈l.take k,Op.bytesLess x s=true)∧∀ hk:k<l.length,Op.bytesLess l[k] s=false) [] ⟨⟨Nat.zero_le _,λx h=>by simp at h⟩,rfl⟩ ?_ ?_)
 ·rintro k mm g ⟨⟨hk,hno⟩,hmm⟩ nx nex
  refine zG 9 [] ((k:Int)<(l.length:Int)) (λh9=> ?_) (λh9=>nex k [] ⟨hk,hno,λq=>absurd q Om⟩ Kr)
  have hj:k<l.length:=by omega
  obtain ⟨x,hx⟩:∃ x,l[k]=x:=⟨_,rfl⟩
  have hgo:=yH (p:=λx=>Op.bytesLess x s=true) hj hno
  rw [hx] at hgo
  refine zL 13 [] hA l.length cap k 1 hj (zI 14 [] 9 bp (off+k*1+0) (.string (mkS x)) (λw hO=>hld k hj x hx w hO.no) (x_slt 16 [] x s (λh16=> ?_) (λh16=>nex k [] ⟨hk,hno,λq=>by rw [hx];exact h16⟩ Kr)))
  exact x_i 19 [] ((k+1:Nat):Int) (nx (k+1) (l.length-(k+1)) [] Om ⟨⟨hj,hgo h16⟩,rfl⟩ Kr Kr)
 ·rintro k g ⟨hk,hno,hge⟩
  have hlt:(l.take k).length=k:=by rw [List.length_take];omega
  refine zG 23 [] ((k:Int)<(l.length:Int)) (λh23=> ?_) (λh23=> ?_)
  ·have hj:k<l.length:=by omega
   obtain ⟨x,hx⟩:∃ x,l[k]=x:=⟨_,rfl⟩
   refine zL 27 [] hA l.length cap k 1 hj (zI 28 [] 9 bp (off+k*1+0) (.string (mkS x)) (λw hO=>hld k hj x hx w hO.no) (xH 30 [] x s (λh30=> ?_) (λh30=> ?_)))
   ·exact z8 [] (.slice (some ⟨bp,off,none⟩) l.length cap) λw hO=>⟨_,[],rfl,.inl ⟨rfl,put_old hj hno (hge hj) (hx.trans h30),rfl⟩,hO.no⟩
   have hq:x1 l s=l.take k++[s]++l.drop k:=put_new hk hno λq=>⟨hge q,by rw [hx];exact h30⟩
   refine x4 11 [] [] (λw hO=>hO.no) (xh_slhi 50035 [] 2 hA l.length cap 1 (k:Int) (by omega) (by omega) (.slice (some ⟨bp,off,none⟩) (l.take k).length cap) (by rw [hlt];rfl) (xh_sllo 50042 [] 9 hA l.length cap 1 (k:Int) (by omega) (by omega) (.slice (some ⟨bp,off+(if cap=k then 0 else k*1),none⟩) (l.drop k).length (cap-k)) (by rw [List.length_drop];rfl) (x_h2 [] 3 5 (qR (g:=zW) (T:=9) (k:=0) (v:= .slice none 0 0) (xs:=[]) (l.take k) [] [] [] ([]) [] (cp:=cap) (λw hO=>hO) (λo w hO=>hO.no) zR g8 (λw hO=>hTk k w hO.no) (Sl.nil _ _) (by simp only [List.length_take,List.length_nil];omega) λv1 o1 h1=> ?_) (gR 1 9 #[.string (mkS s)] λb=>zX [] 3 (qR (g:=zW) (T:=9) (k:=0) (v:= .slice none 0 0) (xs:=[]) (l.take k) [⟨b, #[.string (mkS s)],9⟩] [] [] ([⟨b, #[.string (mkS s)],9⟩]) [] (cp:=cap) (λw hO=>hO) (λo w hO=>hO.no) zR g8 (λw hO=>hTk k w hO.no) (Sl.nil _ _) (by simp only [List.length_take,List.length_nil];omega) λv1 o1 h1=> ?_)))))
   ·obtain ⟨V1,c1,rfl⟩:=h1.form
    refine zX [] 5 (gR 1 9 #[.string (mkS s)] λb=>zX [] 6 (wD (m:=1) (cp:=1) [⟨b, #[.string (mkS s)],9⟩] o1 [] 0 (⟨b, #[.string (mkS s)],9⟩::([]++o1++[])) [] (λw hO=>hO.cast (by simp)) (λo w hO=>hO.no) h1 (by simp only [List.length_take,List.length_nil];omega) λv2 o2 h2=> ?_))
    obtain ⟨V2,c2,rfl⟩:=h2.form
    refine zX [] 10 (qR (g:=zW) (l.drop k) [⟨b, #[.string (mkS s)],9⟩] o2 [] ([⟨b, #[.string (mkS s)],9⟩]++o2++[]) [] (cp:=cap-k) (λw hO=>hO) (λo w hO=>hO.no) zR g8 (λw hO=>hDk k w hO.no) h2 (by simp only [List.length_take,List.length_drop,List.length_nil];omega) λv3 o3 h3=> ?_)
    have hs3:SlT v3 (l.take k++[s]++l.drop k) o3:=Sl.to (show Sl 9 1 v3 (0+(l.take k).length+1+(l.drop k).length) (([]++(l.take k).flatMap zW)++zW s++(l.drop k).flatMap zW) o3 from h3) (by first|(simp;done)|(simp;omega)) (by rw [xK];simp)
    exact z8 [] v3 λw hO=>⟨_,o3,rfl,.inr (by rw [hq];exact hs3),(hO.past 1 (o3++[])).cast (by simp)⟩
   ·obtain ⟨V1,c1,rfl⟩:=h1.form
    refine zX [] 6 (wD (m:=1) (cp:=1) [⟨b, #[.string (mkS s)],9⟩] o1 [] 0 ([⟨b, #[.string (mkS s)],9⟩]++o1++[]) [] (λw hO=>hO) (λo w hO=>hO.no) h1 (by simp only [List.length_take,List.length_nil];omega) λv2 o2 h2=> ?_)
    obtain ⟨V2,c2,rfl⟩:=h2.form
    refine zX [] 10 (qR (g:=zW) (l.drop k) [⟨b, #[.string (mkS s)],9⟩] o2 [] ([⟨b, #[.string (mkS s)],9⟩]++o2++[]) [] (cp:=cap-k) (λw hO=>hO) (λo w hO=>hO.no) zR g8 (λw hO=>hDk k w hO.no) h2 (by simp only [List.length_take,List.length_drop,List.length_nil];omega) λv3 o3 h3=> ?_)
    have hs3:SlT v3 (l.take k++[s]++l.drop k) o3:=Sl.to (show Sl 9 1 v3 (0+(l.take k).length+1+(l.drop k).length) (([]++(l.take k).flatMap zW)++zW s++(l.drop k).flatMap zW) o3 from h3) (by first|(simp;done)|(simp;omega)) (by rw [xK];simp)
    exact z8 [] v3 λw hO=>⟨_,o3,rfl,.inr (by rw [hq];exact hs3),(hO.past 1 (o3++[])).cast (by simp)⟩
  ·have hq:x1 l s=l.take k++[s]++l.drop k:=put_new hk hno λq=>absurd q Om
   refine x4 11 [] [] (λw hO=>hO.no) (xh_slhi 50035 [] 2 hA l.length cap 1 (k:Int) (by omega) (by omega) (.slice (some ⟨bp,off,none⟩) (l.take k).length cap) (by rw [hlt];rfl) (xh_sllo 50042 [] 9 hA l.length cap 1 (k:Int) (by omega) (by omega) (.slice (some ⟨bp,off+(if cap=k then 0 else k*1),none⟩) (l.drop k).length (cap-k)) (by rw [List.length_drop];rfl) (x_h2 [] 3 5 (qR (g:=zW) (T:=9) (k:=0) (v:= .slice none 0 0) (xs:=[]) (l.take k) [] [] [] ([]) [] (cp:=cap) (λw hO=>hO) (λo w hO=>hO.no) zR g8 (λw hO=>hTk k w hO.no) (Sl.nil _ _) (by simp only [List.length_take,List.length_nil];omega) λv1 o1 h1=> ?_) (gR 1 9 #[.string (mkS s)] λb=>zX [] 3 (qR (g:=zW) (T:=9) (k:=0) (v:= .slice none 0 0) (xs:=[]) (l.take k) [⟨b, #[.string (mkS s)],9⟩] [] [] ([⟨b, #[.string (mkS s)],9⟩]) [] (cp:=cap) (λw hO=>hO) (λo w hO=>hO.no) zR g8 (λw hO=>hTk k w hO.no) (Sl.nil _ _) (by simp only [List.length_take,List.length_nil];omega) λv1 o1 h1=> ?_)))))
   ·obtain ⟨V1,c1,rfl⟩:=h1.form
    refine zX [] 5 (gR 1 9 #[.string (mkS s)] λb=>zX [] 6 (wD (m:=1) (cp:=1) [⟨b, #[.string (mkS s)],9⟩] o1 [] 0 (⟨b, #[.string (mkS s)],9⟩::([]++o1++[])) [] (λw hO=>hO.cast (by simp)) (λo w hO=>hO.no) h1 (by simp only [List.length_take,List.length_nil];omega) λv2 o2 h2=> ?_))
    obtain ⟨V2,c2,rfl⟩:=h2.form
    refine zX [] 10 (qR (g:=zW) (l.drop k) [⟨b, #[.string (mkS s)],9⟩] o2 [] ([⟨b, #[.string (mkS s)],9⟩]++o2++[]) [] (cp:=cap-k) (λw hO=>hO) (λo w hO=>hO.no) zR g8 (λw hO=>hDk k w hO.no) h2 (by simp only [List.length_take,List.length_drop,List.length_nil];omega) λv3 o3 h3=> ?_)
    have hs3:SlT v3 (l.take k++[s]++l.drop k) o3:=Sl.to (show Sl 9 1 v3 (0+(l.take k).length+1+(l.drop k).length) (([]++(l.take k).flatMap zW)++zW s++(l.drop k).flatMap zW) o3 from h3) (by first|(simp;done)|(simp;omega)) (by rw [xK];simp)
    exact z8 [] v3 λw hO=>⟨_,o3,rfl,.inr (by rw [hq];exact hs3),(hO.past 1 (o3++[])).cast (by simp)⟩
   ·obtain ⟨V1,c1,rfl⟩:=h1.form
    refine zX [] 6 (wD (m:=1) (cp:=1) [⟨b, #[.string (mkS s)],9⟩] o1 [] 0 ([⟨b, #[.string (mkS s)],9⟩]++o1++[]) [] (λw hO=>hO) (λo w hO=>hO.no) h1 (by simp only [List.length_take,List.length_nil];omega) λv2 o2 h2=> ?_)
    obtain ⟨V2,c2,rfl⟩:=h2.form
    refine zX [] 10 (qR (g:=zW) (l.drop k) [⟨b, #[.string (mkS s)],9⟩] o2 [] ([⟨b, #[.string (mkS s)],9⟩]++o2++[]) [] (cp:=cap-k) (λw hO=>hO) (λo w hO=>hO.no) zR g8 (λw hO=>hDk k w hO.no) h2 (by simp only [List.length_take,List.length_drop,List.length_nil];omega) λv3 o3 h3=> ?_)
    have hs3:SlT v3 (l.take k++[s]++l.drop k) o3:=Sl.to (show Sl 9 1 v3 (0+(l.take k).length+1+(l.drop k).length) (([]++(l.take k).flatMap zW)++zW s++(l.drop k).flatMap zW) o3 from h3) (by first|(simp;done)|(simp;omega)) (by rw [xK];simp)
    exact z8 [] v3 λw hO=>⟨_,o3,rfl,.inr (by rw [hq];exact hs3),(hO.past 1 (o3++[])).cast (by simp)⟩
theorem g11put_nil (s:YL)(W:World):YC 99 #[.slice none 0 0,.string (mkS s)] W λe w'=>∃ v' ob,e= .returned v'/\PutR (.slice none 0 0) [] s v' ob/\Own [] W w' ob:=by
 have hN:∀ w,Own [] W w []->Reads zW w w.heap.size none ([]:List YL):=λw hO h0=>absurd h0 (Nat.lt_irrefl 0)
 have hq:x1 [] s=([]:List YL)++[s]++[]:=rfl
 refine zD Tryz.func99 (x_rounds 0 [] (x4 11 [] [] (λw hO=>hO.no) (x_h2 [] 3 5 (qR (g:=zW) (T:=9) (k:=0) (v:= .slice none 0 0) (xs:=[]) (([]:List YL)) [] [] [] ([]) [] (cp:=0) (λw hO=>hO) (λo w hO=>hO.no) zR g8 (λw hO=>hN w hO.no) (Sl.nil _ _) (by simp only [List.length_take,List.length_nil];omega) λv1 o1 h1=> ?_) (gR 1 9 #[.string (mkS s)] λb=>zX [] 3 (qR (g:=zW) (T:=9) (k:=0) (v:= .slice none 0 0) (xs:=[]) (([]:List YL)) [⟨b, #[.string (mkS s)],9⟩] [] [] ([⟨b, #[.string (mkS s)],9⟩]) [] (cp:=0) (λw hO=>hO) (λo w hO=>hO.no) zR g8 (λw hO=>hN w hO.no) (Sl.nil _ _) (by simp only [List.length_take,List.length_nil];omega) λv1 o1 h1=> ?_)))))
 ·obtain ⟨V1,c1,rfl⟩:=h1.form
  refine zX [] 5 (gR 1 9 #[.string (mkS s)] λb=>zX [] 6 (wD (m:=1) (cp:=1) [⟨b, #[.string (mkS s)],9⟩] o1 [] 0 (⟨b, #[.string (mkS s)],9⟩::([]++o1++[])) [] (λw hO=>hO.cast (by simp)) (λo w hO=>hO.no) h1 (by simp only [List.length_take,List.length_nil];omega) λv2 o2 h2=> ?_))
  obtain ⟨V2,c2,rfl⟩:=h2.form
  refine zX [] 10 (qR (g:=zW) (([]:List YL)) [⟨b, #[.string (mkS s)],9⟩] o2 [] ([⟨b, #[.string (mkS s)],9⟩]++o2++[]) [] (cp:=0) (λw hO=>hO) (λo w hO=>hO.no) zR g8 (λw hO=>hN w hO.no) h2 (by simp only [List.length_take,List.length_drop,List.length_nil];omega) λv3 o3 h3=> ?_)
  have hs3:SlT v3 (([]:List YL)++[s]++([]:List YL)) o3:=Sl.to (show Sl 9 1 v3 (0+(([]:List YL)).length+1+(([]:List YL)).length) (([]++(([]:List YL)).flatMap zW)++zW s++(([]:List YL)).flatMap zW) o3 from h3) (by first|(simp;done)|(simp;omega)) (by rw [xK];simp)
  exact z8 [] v3 λw hO=>⟨_,o3,rfl,.inr (by rw [hq];exact hs3),(hO.past 1 (o3++[])).cast (by simp)⟩
 ·obtain ⟨V1,c1,rfl⟩:=h1.form
  refine zX [] 6 (wD (m:=1) (cp:=1) [⟨b, #[.string (mkS s)],9⟩] o1 [] 0 ([⟨b, #[.string (mkS s)],9⟩]++o1++[]) [] (λw hO=>hO) (λo w hO=>hO.no) h1 (by simp only [List.length_take,List.length_nil];omega) λv2 o2 h2=> ?_)
  obtain ⟨V2,c2,rfl⟩:=h2.form
  refine zX [] 10 (qR (g:=zW) (([]:List YL)) [⟨b, #[.string (mkS s)],9⟩] o2 [] ([⟨b, #[.string (mkS s)],9⟩]++o2++[]) [] (cp:=0) (λw hO=>hO) (λo w hO=>hO.no) zR g8 (λw hO=>hN w hO.no) h2 (by simp only [List.length_take,List.length_drop,List.length_nil];omega) λv3 o3 h3=> ?_)
  have hs3:SlT v3 (([]:List YL)++[s]++([]:List YL)) o3:=Sl.to (show Sl 9 1 v3 (0+(([]:List YL)).length+1+(([]:List YL)).length) (([]++(([]:List YL)).flatMap zW)++zW s++(([]:List YL)).flatMap zW) o3 from h3) (by first|(simp;done)|(simp;omega)) (by rw [xK];simp)
  exact z8 [] v3 λw hO=>⟨_,o3,rfl,.inr (by rw [hq];exact hs3),(hO.past 1 (o3++[])).cast (by simp)⟩
theorem vG {A:Option Addr}{cap:Nat}{l:List YL}{ob L:List Blk}{M:List Nat}{W0:World}(s:YL)(W:World)(hv:SlT (.slice A l.length cap) l ob)(h0:l=[]->A=none/\cap=0)(hO:Own M W0 W L)(hs:∀ x∈ob,x∈L)(hn:l.length<=900000):YC 99 #[.slice A l.length cap,.string (mkS s)] W λe w'=>∃ v' ob',e= .returned v'/\PutR (.slice A l.length cap) l s v' ob'/\Own [] W w' ob':=by
 by_cases hl:l=[]
 ·obtain ⟨rfl,rfl⟩:=h0 hl
  subst hl
  exact g11put_nil s W
 ·have h1:Reads zW W W.heap.size A l:=SlT.reads hv rfl hO hs
  rcases hv.2 with ⟨e,h0,_⟩|⟨g,c,cur,e,_,h2,_⟩
  ·exact absurd (List.eq_nil_of_length_eq_zero h0) hl
  ·injection e with e1 e2 e3
   subst e3
   exact g11put_cons A cap g 0 l s W e1 hl h2 h1 hn
end
section
def nmF (k:Nat):YL:=if k=0 then dfl else if k=1 then [120] else if k=2 then [121] else [122]
def ItemG (needs:List Nv)(keep:Nat->Bool)(s:YL):Prop:=
 (∃ m∈needs,¬ m.opt=[]/\s=[63]++m.opt)\/(∃ m∈needs,∃ w,m.any=[w]/\s=w.name++[47]++[120])∨∃ j,j<4/\keep j=true/\s=nmF j
structure OfG (needs:List Nv)(keep:Nat->Bool)(l:List YL)(b:Nat):Prop where
 rise:xR l=true
 len:l.length<=b
 all:∀ s∈l,ItemG needs keep s
theorem OfG.nil (needs:List Nv)(keep:Nat->Bool):OfG needs keep [] 0:=⟨rfl,Nat.le_refl _,λs h=>by simp at h⟩
theorem OfG.more {needs:List Nv}{keep:Nat->Bool}{l:List YL}{b b':Nat}(h:OfG needs keep l b)(hb:b<=b'):OfG needs keep l b':=⟨h.rise,Nat.le_trans h.len hb,h.all⟩
theorem OfG.put {needs:List Nv}{keep:Nat->Bool}{l:List YL}{b:Nat}(h:OfG needs keep l b){s:YL}(hs:ItemG needs keep s):OfG needs keep (x1 l s) (b+1):=
 ⟨put_rise h.rise,Nat.le_trans put_len (Nat.add_le_add_right h.len 1),λx hx=>by
  rcases put_mem.1 hx with rfl|hx
  ·exact hs
  ·exact h.all x hx⟩
structure FeatsG (needs:List Nv)(keep:Nat->Bool)(k:Nat)(xs:List Fv):Prop where
 names:xs.map Fv.name=((List.range k).filter keep).map nmF
 each:∀ x∈xs,OfG needs keep x.of 5
theorem FeatsG.nil (needs:List Nv)(keep:Nat->Bool):FeatsG needs keep 0 []:=⟨rfl,λx h=>by simp at h⟩
theorem FeatsG.skip {needs:List Nv}{keep:Nat->Bool}{k:Nat}{xs:List Fv}(h:FeatsG needs keep k xs)(hk:keep k=false):FeatsG needs keep (k+1) xs:=
 ⟨by rw [List.range_succ,List.filter_append,List.map_append,←h.names];simp [hk],h.each⟩
theorem FeatsG.add {needs:List Nv}{keep:Nat->Bool}{k:Nat}{xs:List Fv}(h:FeatsG needs keep k xs)(hk:keep k=true){x:Fv}(hn:x.name=nmF k)(ho:OfG needs keep x.of 5):FeatsG needs keep (k+1) (xs++[x]):=
 ⟨by rw [List.range_succ,List.filter_append,List.map_append,List.map_append,←h.names];simp [hk,hn],λy hy=>by
  rcases List.mem_append.1 hy with hy|hy
  ·exact h.each y hy
  ·rw [List.mem_singleton.1 hy];exact ho⟩
structure OfS (A:Option Addr)(c:Nat)(l:List YL)(o3:List Blk):Prop where
 ex:∃ o,SlT (.slice A l.length c) l o∧∀ b∈o,b∈o3
 bare:l=[]->A=none/\c=0
theorem OfS.nil:OfS none 0 [] []:=⟨⟨[],Sl.nil _ _,λb h=>h⟩,λ_=>⟨rfl,rfl⟩⟩
theorem OfS.more {A:Option Addr}{c:Nat}{l:List YL}{o o':List Blk}(h:OfS A c l o)(hs:∀ b∈o,b∈o'):OfS A c l o':=by
 obtain ⟨⟨q,h1,h2⟩,h3⟩:=h
 exact ⟨⟨q,h1,λb hb=>hs b (h2 b hb)⟩,h3⟩
theorem put_ne (l:List YL)(s:YL):x1 l s≠[]:=λe=>by
 have:s∈x1 l s:=put_mem.2 (.inl rfl)
 rw [e] at this;simp at this
theorem OfS.put {A:Option Addr}{c:Nat}{l:List YL}{o3 ob:List Blk}{s:YL}{v:Value}(h:OfS A c l o3)(hp:PutR (.slice A l.length c) l s v ob):∃ A' c',v= .slice A' (x1 l s).length c'/\OfS A' c' (x1 l s) (o3++ob):=by
 rcases hp with ⟨rfl,e,rfl⟩|hp
 ·refine ⟨A,c,by rw [e], ?_⟩
  rw [e]
  exact h.more λb hb=>by simpa using hb
 ·obtain ⟨A',c',rfl⟩:=SlT.form hp
  exact ⟨A',c',rfl,⟨⟨ob,hp,λb hb=>List.mem_append_right _ hb⟩,λe=>absurd e (put_ne l s)⟩⟩
structure FtO (A:Option Addr)(c:Nat)(xs:List Fv)(o7 o2:List Blk):Prop where
 top:Sl 148 2 (.slice A xs.length c) xs.length (xs.flatMap fvC) o7
 each:∀ x∈xs,∃ o,SlT (.slice x.A x.of.length x.cap) x.of o∧∀ b∈o,b∈o2
theorem FtO.nil:FtO none 0 [] [] []:=⟨Sl.nil _ _,λx h=>by simp at h⟩
theorem FtO.more {A:Option Addr}{c:Nat}{xs:List Fv}{o7 o2 o2':List Blk}(h:FtO A c xs o7 o2)(hs:∀ b∈o2,b∈o2'):FtO A c xs o7 o2':=⟨h.top,λx hx=>by
 obtain ⟨o,h1,h2⟩:=h.each x hx
 exact ⟨o,h1,λb hb=>hs b (h2 b hb)⟩⟩
theorem FtO.add {A A':Option Addr}{c c':Nat}{xs:List Fv}{o7 o7' o2:List Blk}{x:Fv}(h:FtO A c xs o7 o2)(ht:Sl 148 2 (.slice A' (xs.length+1) c') (xs.length+1) (xs.flatMap fvC++fvC x) o7')(hx:∃ o,SlT (.slice x.A x.of.length x.cap) x.of o∧∀ b∈o,b∈o2):FtO A' c' (xs++[x]) o7' o2:=
 ⟨by rw [List.length_append,List.length_singleton,List.flatMap_append,List.flatMap_singleton];exact ht,λy hy=>by
  rcases List.mem_append.1 hy with hy|hy
  ·exact h.each y hy
  ·rw [List.mem_singleton.1 hy];exact hx⟩
end
section
theorem qD (x:Nv):(nvC x).length=3:=rfl
theorem v8 (x:Wv):(wvC x).length=4:=rfl
theorem nmF_rd:∀ k:Nat,k<4->yZ YP 9 #[.string (mkS dfl),.string (mkS [120]),.string (mkS [121]),.string (mkS [122])] (0+(k:Int).toNat*1)=some (.string (mkS (nmF k)))
 |0,_=>by kernel_rfl
 |1,_=>by kernel_rfl
 |2,_=>by kernel_rfl
 |3,_=>by kernel_rfl
abbrev G8b (b:Nat):Blk:=⟨b, #[.string (mkS dfl),.string (mkS [120]),.string (mkS [121]),.string (mkS [122])],146⟩
abbrev G0b (b:Nat)(nm pre bld:YL)(a1 a2 a3:Int)(nA:Option Addr)(nc:Nat)(needs:List Nv)(vb vf:Value):Blk:=⟨b, #[.string (mkS nm),YI a1,YI a2,YI a3,.string (mkS pre),.string (mkS bld),.slice nA needs.length nc,vb,vf],47⟩
abbrev GBb (b k:Nat)(A:Option Addr)(n c:Nat):Blk:=⟨b, #[.string (mkS (nmF k)),.slice A n c],148⟩
theorem features_gen (v:Value)(l:List Int)(i:Nat)(nm pre bld:YL)(a1 a2 a3:Int)(nA:Option Addr)(nc:Nat)(needs:List Nv)(vb vf:Value)(W:World)(hv:ReadsI W W.heap.size v l)(hl:l.length<=9223372036854775807)(hi:i<=5000)
  (hN:Reads nvC W W.heap.size nA needs) (hWs:∀ m∈needs,Reads wvC W W.heap.size m.A m.any) (hlen:needs.length<=1000) (hopt:∀ m∈needs,m.opt.length<=1000) (hnm:∀ m∈needs,∀ w∈m.any,w.name.length<=1000):
  YC 56 #[v,YI (i:Int),.agg #[.string (mkS nm),YI a1,YI a2,YI a3,.string (mkS pre),.string (mkS bld),.slice nA needs.length nc,vb,vf]] W λe w'=>∃ A c xs o7 o2,e= .returned (.slice A xs.length c)/\(FtO A c xs o7 o2/\FeatsG needs (λj=>decide (plc (atL l (i+j)) 3≠0)) 4 xs)/\Own [] W w' (o7++o2):=by
 have fa:∀ (j:Nat),j<=100→∀ w,YB W w->YC 81 #[v,YI ((i+j:Nat):Int)] w (YR (YI (atL l (i+j))) w):=λj hj w hb=>(at_any v l (i+j) w ((hv.below hb).more hb.size) hl Om).mono λ_ _ ⟨e1,e2⟩=>⟨e1,e2▸Below.refl _ _⟩
 have fp:∀ (z:Int) w,YC 18 #[YI z,YI 3] w (YR (YI (plc z 3)) w):=λz w=>(fB z 3 w (by decide) (by decide)).mono λ_ _ ⟨e1,e2⟩=>⟨e1,e2▸Below.refl _ _⟩
 generalize hkeep:(λj=>decide (plc (atL l (i+j)) 3≠0))=keep
 have hk1:∀ j,plc (atL l (i+j)) 3=0->keep j=false:=λj h=>by rw [←hkeep];simp [h]
 have hk2:∀ j,¬ plc (atL l (i+j)) 3=0->keep j=true:=λj h=>by rw [←hkeep];simp [h]
 refine zD Tryz.func56 (zY [] (λb0=>zH [] λb8=> ?_))
 refine zT (α:=Nat×List Fv×Option Addr×Nat×List Blk×List Blk) (λ(k,xs,A7,c7,_,_)=>[(0,v),(1,YI (i:Int)),(5,Zp b0 0),(7,.slice A7 xs.length c7),(8,Zp b8 0),(9,YI (k:Int))])
  (λ(_,_,_,_,o7,o2)=>[G8b b8,G0b b0 nm pre bld a1 a2 a3 nA nc needs vb vf]++(o7++o2)) (λ(k,xs,A7,c7,o7,o2) m=>k<=4/\m=4-k/\FtO A7 c7 xs o7 o2/\FeatsG needs keep k xs) (0,[],none,0,[],[]) 4 [0] ⟨by omega,rfl,FtO.nil,FeatsG.nil _ _⟩ ?_
 rintro ⟨k,xs,A7,c7,o7,o2⟩ mm g kk ⟨hk4,hmm,hO7,hG⟩ nx hkk
 subst hkk
 refine zG 16 [] ((k:Int)<4) (λh4=> ?_) (λh4=> ?_)
 rotate_left
 ·obtain rfl:k=4:=by omega
  exact z8 [] _ λw hO=>⟨A7,c7,xs,o7,o2,rfl,⟨hO7,hG⟩,hO.past 2 _⟩
 have hkl:k<4:=by omega
 refine x_i 22 [] ((i+k:Nat):Int) (z7 [] (λw hO=>fa k (by omega) w hO.below) (z7 [] (λw hO=>fp (atL l (i+k)) w) (zG 26 [] (plc (atL l (i+k)) 3=0) (λh3=> ?_) (λh3=> ?_))))
 ·refine x_i 18 [] ((k+1:Nat):Int) (nx (k+1,xs,A7,c7,o7,o2) (4-(k+1)) [] Om ⟨by omega,rfl,hO7,hG.skip (hk1 k h3)⟩ Kr Kr)
 have hxl:xs.length<=4:=by
  have e:=congrArg List.length hG.names
  rw [List.length_map,List.length_map] at e
  have:=List.length_filter_le keep (List.range k)
  rw [List.length_range] at this;omega
 refine x_ixa 28 [] 4 k 1 hkl (x_ldk 29 [] 0 _ _ 9 _ (nmF_rd k hkl) (zH [] λb11=> ?_))
 refine zQ [0] ([GBb b11 k none 0 0,G8b b8,G0b b0 nm pre bld a1 a2 a3 nA nc needs vb vf]++(o7++o2++[])) (λw hO=>(hO.past 0 ([GBb b11 k none 0 0,G8b b8,G0b b0 nm pre bld a1 a2 a3 nA nc needs vb vf]++(o7++o2))).cast (by simp)) ?_
 refine x_loopE (α:=Nat×List YL×Option Addr×Nat×List Blk) (β:=List YL×Option Addr×Nat×List Blk) (λ(j,_,_,_,_)=>[(0,v),(1,YI (i:Int)),(5,Zp b0 0),(7,.slice A7 xs.length c7),(8,Zp b8 0),(9,YI (k:Int)),(10,YI (atL l (i+k))),(11,Zp b11 0),(12,YI (j:Int))]) (λ(_,lst,A,c,o3)=>[GBb b11 k A lst.length c,G8b b8,G0b b0 nm pre bld a1 a2 a3 nA nc needs vb vf]++(o7++o2++o3)) (λ(j,lst,A,c,o3) m=>j<=2/\m=2-j/\OfS A c lst o3/\OfG needs keep lst (2*j)) (0,[],none,0,[]) 2
  (λ_=>[(0,v),(1,YI (i:Int)),(5,.pointer (some ⟨b0,0,none⟩)),(7,.slice A7 xs.length c7),(8,.pointer (some ⟨b8,0,none⟩)),(9,YI (k:Int)),(10,YI (atL l (i+k))),(11,.pointer (some ⟨b11,0,none⟩))]) (λ(lst,A,c,o3)=>[GBb b11 k A lst.length c,G8b b8,G0b b0 nm pre bld a1 a2 a3 nA nc needs vb vf]++(o7++o2++o3)) (λ(lst,A,c,o3)=>OfS A c lst o3/\OfG needs keep lst 4) [] ⟨by omega,rfl,OfS.nil,OfG.nil _ _⟩ ?_ ?_
 ·rintro ⟨j,lst,A,c,o3⟩ m2 g2 ⟨hj2,hm2,hf0,hg0⟩ nx2 nex
  refine zG 35 [2] ((j:Int)<needs.length) (λh35=>zG 38 [] ((j:Int)<2) (λh38=> ?_) (λh38=>nex (lst,A,c,o3) [] ⟨hf0,hg0.more Om⟩ Kr)) (λh35=>nex (lst,A,c,o3) [] ⟨hf0,hg0.more Om⟩ Kr)
  obtain rfl|rfl:j=0\/j=1:=by omega
  ·have hJ:0<needs.length:=by omega
   obtain ⟨nb,no,hnA,hnl⟩:=hN.elem qD 0 hJ
   have hmm:needs[0]∈needs:=List.getElem_mem hJ
   generalize needs[0]=md at hnl hmm
   have hol:=hopt md hmm
   refine zL 45 [2] hnA needs.length nc 0 3 hJ (zI 46 [] 72 nb (no+0*3+0) (nvV md) (λw hO=>hnl w hO.below _ 0 _ Kr) (zH [] λb13=>jJ 49 [0,0] md.opt [] (λh49=> ?_) (λh49=>x_tst 57 [] ?_ ?_)))
   ·refine zG 69 [0] ((md.any.length:Int)=1) (λh69=>x_tst 77 [] ?_ ?_) (λh69=> ?_)
    ·obtain ⟨wd,hwd⟩:∃ w,md.any=[w]:=List.length_eq_one_iff.1 Om
     obtain ⟨wb,wo,hwA,hwl⟩:=(hWs md hmm).elem v8 0 Om
     obtain ⟨q0,hs0,hb0⟩:=hf0.ex
     have hwn:wd.name.length<=1000:=hnm md hmm wd (by simp [hwd])
     have hw0:md.any[0]'Om=wd:=by simp [hwd]
     refine dJ 10 [] (qJ 50083 [1,0] 4 hwA md.any.length md.cap 0 4 Om (qT 50085 [] 6 9 wb (wo+0*4+0) (.string (mkS wd.name)) (λw hO=>hwl w hO.below _ 0 _ (by rw [hw0];kernel_rfl)) (wQ 50086 [] 7 wd.name [47] (wQ 50087 [] 8 (wd.name++[47]) [120] (zX [] 9 (yU (R:=PutR (.slice A lst.length c) lst (wd.name++[47]++[120])) (λw hO=>vG (ob:=q0) (wd.name++[47]++[120]) w hs0 hf0.bare (hO.past 4 (o7++o2++o3)) (λb hb=>by have:=hb0 b hb;simp only [List.mem_append] at this ⊢;grind) (by have:=hg0.len;omega)) ?_))))))
     rintro _ ob0b hp0b
     obtain ⟨A0b,c0b,rfl,hf0b⟩:=hf0.put hp0b
     have hg0b:=hg0.put (.inr (.inl ⟨md,hmm,wd,hwd,rfl⟩))
     exact zQ [1] ([GBb b11 k A0b ((x1 lst (wd.name++[47]++[120])).length) c0b,G8b b8,G0b b0 nm pre bld a1 a2 a3 nA nc needs vb vf]++(o7++o2++(o3++ob0b))) (λw hO=>(hO.past 1 (([GBb b11 k A0b ((x1 lst (wd.name++[47]++[120])).length) c0b,G8b b8,G0b b0 nm pre bld a1 a2 a3 nA nc needs vb vf]++(o7++o2++o3))++ob0b)).cast (by simp only [List.append_assoc,List.cons_append,List.nil_append])) (nx2 (1,(x1 lst (wd.name++[47]++[120])),A0b,c0b,(o3++ob0b)) 1 [] Om ⟨by omega,rfl,hf0b,hg0b.more Om⟩ Kr Kr)
    ·exact zQ [] ([GBb b11 k A lst.length c,G8b b8,G0b b0 nm pre bld a1 a2 a3 nA nc needs vb vf]++(o7++o2++o3)) (λw hO=>(hO.past 1 ([GBb b11 k A lst.length c,G8b b8,G0b b0 nm pre bld a1 a2 a3 nA nc needs vb vf]++(o7++o2++o3))).cast (by simp only [List.append_assoc,List.cons_append,List.nil_append])) (nx2 (1,lst,A,c,o3) 1 [] Om ⟨by omega,rfl,hf0,hg0.more Om⟩ Kr Kr)
    ·exact zQ [] ([GBb b11 k A lst.length c,G8b b8,G0b b0 nm pre bld a1 a2 a3 nA nc needs vb vf]++(o7++o2++o3)) (λw hO=>(hO.past 1 ([GBb b11 k A lst.length c,G8b b8,G0b b0 nm pre bld a1 a2 a3 nA nc needs vb vf]++(o7++o2++o3))).cast (by simp only [List.append_assoc,List.cons_append,List.nil_append])) (nx2 (1,lst,A,c,o3) 1 [] Om ⟨by omega,rfl,hf0,hg0.more Om⟩ Kr Kr)
   ·obtain ⟨q0,hs0,hb0⟩:=hf0.ex
    refine gD 63 [1,0] [63] md.opt (yB (R:=PutR (.slice A lst.length c) lst ([63]++md.opt)) [] (λw hO=>vG (ob:=q0) ([63]++md.opt) w hs0 hf0.bare (hO.past 4 (o7++o2++o3)) (λb hb=>by have:=hb0 b hb;simp only [List.mem_append] at this ⊢;grind) (by have:=hg0.len;omega)) ?_)
    rintro _ oba hpa
    obtain ⟨Aa,ca,rfl,hfa⟩:=hf0.put hpa
    have hga:=hg0.put (.inl ⟨md,hmm,h49,rfl⟩)
    refine zG 69 [1,0] ((md.any.length:Int)=1) (λh69=>x_tst 77 [] ?_ ?_) (λh69=> ?_)
    ·obtain ⟨wd,hwd⟩:∃ w,md.any=[w]:=List.length_eq_one_iff.1 Om
     obtain ⟨wb,wo,hwA,hwl⟩:=(hWs md hmm).elem v8 0 Om
     obtain ⟨qa,hsa,hba⟩:=hfa.ex
     have hwn:wd.name.length<=1000:=hnm md hmm wd (by simp [hwd])
     have hw0:md.any[0]'Om=wd:=by simp [hwd]
     refine dJ 10 [] (qJ 50083 [1,0] 4 hwA md.any.length md.cap 0 4 Om (qT 50085 [] 6 9 wb (wo+0*4+0) (.string (mkS wd.name)) (λw hO=>hwl w hO.below _ 0 _ (by rw [hw0];kernel_rfl)) (wQ 50086 [] 7 wd.name [47] (wQ 50087 [] 8 (wd.name++[47]) [120] (zX [] 9 (yU (R:=PutR (.slice Aa (x1 lst ([63]++md.opt)).length ca) (x1 lst ([63]++md.opt)) (wd.name++[47]++[120])) (λw hO=>vG (ob:=qa) (wd.name++[47]++[120]) w hsa hfa.bare (hO.past 4 ((o7++o2++o3)++oba)) (λb hb=>by have:=hba b hb;simp only [List.mem_append] at this ⊢;grind) (by have:=hga.len;omega)) ?_))))))
     rintro _ obab hpab
     obtain ⟨Aab,cab,rfl,hfab⟩:=hfa.put hpab
     have hgab:=hga.put (.inr (.inl ⟨md,hmm,wd,hwd,rfl⟩))
     exact zQ [1] ([GBb b11 k Aab ((x1 (x1 lst ([63]++md.opt)) (wd.name++[47]++[120])).length) cab,G8b b8,G0b b0 nm pre bld a1 a2 a3 nA nc needs vb vf]++(o7++o2++((o3++oba)++obab))) (λw hO=>(hO.past 1 ((([GBb b11 k Aab ((x1 (x1 lst ([63]++md.opt)) (wd.name++[47]++[120])).length) cab,G8b b8,G0b b0 nm pre bld a1 a2 a3 nA nc needs vb vf]++(o7++o2++o3))++oba)++obab)).cast (by simp only [List.append_assoc,List.cons_append,List.nil_append])) (nx2 (1,(x1 (x1 lst ([63]++md.opt)) (wd.name++[47]++[120])),Aab,cab,((o3++oba)++obab)) 1 [] Om ⟨by omega,rfl,hfab,hgab.more Om⟩ Kr Kr)
    ·exact zQ [] ([GBb b11 k Aa ((x1 lst ([63]++md.opt)).length) ca,G8b b8,G0b b0 nm pre bld a1 a2 a3 nA nc needs vb vf]++(o7++o2++(o3++oba))) (λw hO=>(hO.past 1 (([GBb b11 k Aa ((x1 lst ([63]++md.opt)).length) ca,G8b b8,G0b b0 nm pre bld a1 a2 a3 nA nc needs vb vf]++(o7++o2++o3))++oba)).cast (by simp only [List.append_assoc,List.cons_append,List.nil_append])) (nx2 (1,(x1 lst ([63]++md.opt)),Aa,ca,(o3++oba)) 1 [] Om ⟨by omega,rfl,hfa,hga.more Om⟩ Kr Kr)
    ·exact zQ [] ([GBb b11 k Aa ((x1 lst ([63]++md.opt)).length) ca,G8b b8,G0b b0 nm pre bld a1 a2 a3 nA nc needs vb vf]++(o7++o2++(o3++oba))) (λw hO=>(hO.past 1 (([GBb b11 k Aa ((x1 lst ([63]++md.opt)).length) ca,G8b b8,G0b b0 nm pre bld a1 a2 a3 nA nc needs vb vf]++(o7++o2++o3))++oba)).cast (by simp only [List.append_assoc,List.cons_append,List.nil_append])) (nx2 (1,(x1 lst ([63]++md.opt)),Aa,ca,(o3++oba)) 1 [] Om ⟨by omega,rfl,hfa,hga.more Om⟩ Kr Kr)
   ·refine zG 69 [0] ((md.any.length:Int)=1) (λh69=>x_tst 77 [] ?_ ?_) (λh69=> ?_)
    ·obtain ⟨wd,hwd⟩:∃ w,md.any=[w]:=List.length_eq_one_iff.1 Om
     obtain ⟨wb,wo,hwA,hwl⟩:=(hWs md hmm).elem v8 0 Om
     obtain ⟨q0,hs0,hb0⟩:=hf0.ex
     have hwn:wd.name.length<=1000:=hnm md hmm wd (by simp [hwd])
     have hw0:md.any[0]'Om=wd:=by simp [hwd]
     refine dJ 10 [] (qJ 50083 [1,0] 4 hwA md.any.length md.cap 0 4 Om (qT 50085 [] 6 9 wb (wo+0*4+0) (.string (mkS wd.name)) (λw hO=>hwl w hO.below _ 0 _ (by rw [hw0];kernel_rfl)) (wQ 50086 [] 7 wd.name [47] (wQ 50087 [] 8 (wd.name++[47]) [120] (zX [] 9 (yU (R:=PutR (.slice A lst.length c) lst (wd.name++[47]++[120])) (λw hO=>vG (ob:=q0) (wd.name++[47]++[120]) w hs0 hf0.bare (hO.past 4 (o7++o2++o3)) (λb hb=>by have:=hb0 b hb;simp only [List.mem_append] at this ⊢;grind) (by have:=hg0.len;omega)) ?_))))))
     rintro _ ob0b hp0b
     obtain ⟨A0b,c0b,rfl,hf0b⟩:=hf0.put hp0b
     have hg0b:=hg0.put (.inr (.inl ⟨md,hmm,wd,hwd,rfl⟩))
     exact zQ [1] ([GBb b11 k A0b ((x1 lst (wd.name++[47]++[120])).length) c0b,G8b b8,G0b b0 nm pre bld a1 a2 a3 nA nc needs vb vf]++(o7++o2++(o3++ob0b))) (λw hO=>(hO.past 1 (([GBb b11 k A0b ((x1 lst (wd.name++[47]++[120])).length) c0b,G8b b8,G0b b0 nm pre bld a1 a2 a3 nA nc needs vb vf]++(o7++o2++o3))++ob0b)).cast (by simp only [List.append_assoc,List.cons_append,List.nil_append])) (nx2 (1,(x1 lst (wd.name++[47]++[120])),A0b,c0b,(o3++ob0b)) 1 [] Om ⟨by omega,rfl,hf0b,hg0b.more Om⟩ Kr Kr)
    ·exact zQ [] ([GBb b11 k A lst.length c,G8b b8,G0b b0 nm pre bld a1 a2 a3 nA nc needs vb vf]++(o7++o2++o3)) (λw hO=>(hO.past 1 ([GBb b11 k A lst.length c,G8b b8,G0b b0 nm pre bld a1 a2 a3 nA nc needs vb vf]++(o7++o2++o3))).cast (by simp only [List.append_assoc,List.cons_append,List.nil_append])) (nx2 (1,lst,A,c,o3) 1 [] Om ⟨by omega,rfl,hf0,hg0.more Om⟩ Kr Kr)
    ·exact zQ [] ([GBb b11 k A lst.length c,G8b b8,G0b b0 nm pre bld a1 a2 a3 nA nc needs vb vf]++(o7++o2++o3)) (λw hO=>(hO.past 1 ([GBb b11 k A lst.length c,G8b b8,G0b b0 nm pre bld a1 a2 a3 nA nc needs vb vf]++(o7++o2++o3))).cast (by simp only [List.append_assoc,List.cons_append,List.nil_append])) (nx2 (1,lst,A,c,o3) 1 [] Om ⟨by omega,rfl,hf0,hg0.more Om⟩ Kr Kr)
  ·have hJ:1<needs.length:=by omega
   obtain ⟨nb,no,hnA,hnl⟩:=hN.elem qD 1 hJ
   have hmm:needs[1]∈needs:=List.getElem_mem hJ
   generalize needs[1]=md at hnl hmm
   have hol:=hopt md hmm
   refine zL 45 [2] hnA needs.length nc 1 3 hJ (zI 46 [] 72 nb (no+1*3+0) (nvV md) (λw hO=>hnl w hO.below _ 0 _ Kr) (zH [] λb13=>jJ 49 [0,0] md.opt [] (λh49=> ?_) (λh49=>x_tst 57 [] ?_ ?_)))
   ·refine zG 69 [0] ((md.any.length:Int)=1) (λh69=>x_tst 77 [] ?_ ?_) (λh69=> ?_)
    ·obtain ⟨wd,hwd⟩:∃ w,md.any=[w]:=List.length_eq_one_iff.1 Om
     obtain ⟨wb,wo,hwA,hwl⟩:=(hWs md hmm).elem v8 0 Om
     obtain ⟨q0,hs0,hb0⟩:=hf0.ex
     have hwn:wd.name.length<=1000:=hnm md hmm wd (by simp [hwd])
     have hw0:md.any[0]'Om=wd:=by simp [hwd]
     refine dJ 10 [] (qJ 50083 [1,0] 4 hwA md.any.length md.cap 0 4 Om (qT 50085 [] 6 9 wb (wo+0*4+0) (.string (mkS wd.name)) (λw hO=>hwl w hO.below _ 0 _ (by rw [hw0];kernel_rfl)) (wQ 50086 [] 7 wd.name [47] (wQ 50087 [] 8 (wd.name++[47]) [120] (zX [] 9 (yU (R:=PutR (.slice A lst.length c) lst (wd.name++[47]++[120])) (λw hO=>vG (ob:=q0) (wd.name++[47]++[120]) w hs0 hf0.bare (hO.past 4 (o7++o2++o3)) (λb hb=>by have:=hb0 b hb;simp only [List.mem_append] at this ⊢;grind) (by have:=hg0.len;omega)) ?_))))))
     rintro _ ob0b hp0b
     obtain ⟨A0b,c0b,rfl,hf0b⟩:=hf0.put hp0b
     have hg0b:=hg0.put (.inr (.inl ⟨md,hmm,wd,hwd,rfl⟩))
     exact zQ [1] ([GBb b11 k A0b ((x1 lst (wd.name++[47]++[120])).length) c0b,G8b b8,G0b b0 nm pre bld a1 a2 a3 nA nc needs vb vf]++(o7++o2++(o3++ob0b))) (λw hO=>(hO.past 1 (([GBb b11 k A0b ((x1 lst (wd.name++[47]++[120])).length) c0b,G8b b8,G0b b0 nm pre bld a1 a2 a3 nA nc needs vb vf]++(o7++o2++o3))++ob0b)).cast (by simp only [List.append_assoc,List.cons_append,List.nil_append])) (nx2 (2,(x1 lst (wd.name++[47]++[120])),A0b,c0b,(o3++ob0b)) 0 [] Om ⟨by omega,rfl,hf0b,hg0b.more Om⟩ Kr Kr)
    ·exact zQ [] ([GBb b11 k A lst.length c,G8b b8,G0b b0 nm pre bld a1 a2 a3 nA nc needs vb vf]++(o7++o2++o3)) (λw hO=>(hO.past 1 ([GBb b11 k A lst.length c,G8b b8,G0b b0 nm pre bld a1 a2 a3 nA nc needs vb vf]++(o7++o2++o3))).cast (by simp only [List.append_assoc,List.cons_append,List.nil_append])) (nx2 (2,lst,A,c,o3) 0 [] Om ⟨by omega,rfl,hf0,hg0.more Om⟩ Kr Kr)
    ·exact zQ [] ([GBb b11 k A lst.length c,G8b b8,G0b b0 nm pre bld a1 a2 a3 nA nc needs vb vf]++(o7++o2++o3)) (λw hO=>(hO.past 1 ([GBb b11 k A lst.length c,G8b b8,G0b b0 nm pre bld a1 a2 a3 nA nc needs vb vf]++(o7++o2++o3))).cast (by simp only [List.append_assoc,List.cons_append,List.nil_append])) (nx2 (2,lst,A,c,o3) 0 [] Om ⟨by omega,rfl,hf0,hg0.more Om⟩ Kr Kr)
   ·obtain ⟨q0,hs0,hb0⟩:=hf0.ex
    refine gD 63 [1,0] [63] md.opt (yB (R:=PutR (.slice A lst.length c) lst ([63]++md.opt)) [] (λw hO=>vG (ob:=q0) ([63]++md.opt) w hs0 hf0.bare (hO.past 4 (o7++o2++o3)) (λb hb=>by have:=hb0 b hb;simp only [List.mem_append] at this ⊢;grind) (by have:=hg0.len;omega)) ?_)
    rintro _ oba hpa
    obtain ⟨Aa,ca,rfl,hfa⟩:=hf0.put hpa
    have hga:=hg0.put (.inl ⟨md,hmm,h49,rfl⟩)
    refine zG 69 [1,0] ((md.any.length:Int)=1) (λh69=>x_tst 77 [] ?_ ?_) (λh69=> ?_)
    ·obtain ⟨wd,hwd⟩:∃ w,md.any=[w]:=List.length_eq_one_iff.1 Om
     obtain ⟨wb,wo,hwA,hwl⟩:=(hWs md hmm).elem v8 0 Om
     obtain ⟨qa,hsa,hba⟩:=hfa.ex
     have hwn:wd.name.length<=1000:=hnm md hmm wd (by simp [hwd])
     have hw0:md.any[0]'Om=wd:=by simp [hwd]
     refine dJ 10 [] (qJ 50083 [1,0] 4 hwA md.any.length md.cap 0 4 Om (qT 50085 [] 6 9 wb (wo+0*4+0) (.string (mkS wd.name)) (λw hO=>hwl w hO.below _ 0 _ (by rw [hw0];kernel_rfl)) (wQ 50086 [] 7 wd.name [47] (wQ 50087 [] 8 (wd.name++[47]) [120] (zX [] 9 (yU (R:=PutR (.slice Aa (x1 lst ([63]++md.opt)).length ca) (x1 lst ([63]++md.opt)) (wd.name++[47]++[120])) (λw hO=>vG (ob:=qa) (wd.name++[47]++[120]) w hsa hfa.bare (hO.past 4 ((o7++o2++o3)++oba)) (λb hb=>by have:=hba b hb;simp only [List.mem_append] at this ⊢;grind) (by have:=hga.len;omega)) ?_))))))
     rintro _ obab hpab
     obtain ⟨Aab,cab,rfl,hfab⟩:=hfa.put hpab
     have hgab:=hga.put (.inr (.inl ⟨md,hmm,wd,hwd,rfl⟩))
     exact zQ [1] ([GBb b11 k Aab ((x1 (x1 lst ([63]++md.opt)) (wd.name++[47]++[120])).length) cab,G8b b8,G0b b0 nm pre bld a1 a2 a3 nA nc needs vb vf]++(o7++o2++((o3++oba)++obab))) (λw hO=>(hO.past 1 ((([GBb b11 k Aab ((x1 (x1 lst ([63]++md.opt)) (wd.name++[47]++[120])).length) cab,G8b b8,G0b b0 nm pre bld a1 a2 a3 nA nc needs vb vf]++(o7++o2++o3))++oba)++obab)).cast (by simp only [List.append_assoc,List.cons_append,List.nil_append])) (nx2 (2,(x1 (x1 lst ([63]++md.opt)) (wd.name++[47]++[120])),Aab,cab,((o3++oba)++obab)) 0 [] Om ⟨by omega,rfl,hfab,hgab.more Om⟩ Kr Kr)
    ·exact zQ [] ([GBb b11 k Aa ((x1 lst ([63]++md.opt)).length) ca,G8b b8,G0b b0 nm pre bld a1 a2 a3 nA nc needs vb vf]++(o7++o2++(o3++oba))) (λw hO=>(hO.past 1 (([GBb b11 k Aa ((x1 lst ([63]++md.opt)).length) ca,G8b b8,G0b b0 nm pre bld a1 a2 a3 nA nc needs vb vf]++(o7++o2++o3))++oba)).cast (by simp only [List.append_assoc,List.cons_append,List.nil_append])) (nx2 (2,(x1 lst ([63]++md.opt)),Aa,ca,(o3++oba)) 0 [] Om ⟨by omega,rfl,hfa,hga.more Om⟩ Kr Kr)
    ·exact zQ [] ([GBb b11 k Aa ((x1 lst ([63]++md.opt)).length) ca,G8b b8,G0b b0 nm pre bld a1 a2 a3 nA nc needs vb vf]++(o7++o2++(o3++oba))) (λw hO=>(hO.past 1 (([GBb b11 k Aa ((x1 lst ([63]++md.opt)).length) ca,G8b b8,G0b b0 nm pre bld a1 a2 a3 nA nc needs vb vf]++(o7++o2++o3))++oba)).cast (by simp only [List.append_assoc,List.cons_append,List.nil_append])) (nx2 (2,(x1 lst ([63]++md.opt)),Aa,ca,(o3++oba)) 0 [] Om ⟨by omega,rfl,hfa,hga.more Om⟩ Kr Kr)
   ·refine zG 69 [0] ((md.any.length:Int)=1) (λh69=>x_tst 77 [] ?_ ?_) (λh69=> ?_)
    ·obtain ⟨wd,hwd⟩:∃ w,md.any=[w]:=List.length_eq_one_iff.1 Om
     obtain ⟨wb,wo,hwA,hwl⟩:=(hWs md hmm).elem v8 0 Om
     obtain ⟨q0,hs0,hb0⟩:=hf0.ex
     have hwn:wd.name.length<=1000:=hnm md hmm wd (by simp [hwd])
     have hw0:md.any[0]'Om=wd:=by simp [hwd]
     refine dJ 10 [] (qJ 50083 [1,0] 4 hwA md.any.length md.cap 0 4 Om (qT 50085 [] 6 9 wb (wo+0*4+0) (.string (mkS wd.name)) (λw hO=>hwl w hO.below _ 0 _ (by rw [hw0];kernel_rfl)) (wQ 50086 [] 7 wd.name [47] (wQ 50087 [] 8 (wd.name++[47]) [120] (zX [] 9 (yU (R:=PutR (.slice A lst.length c) lst (wd.name++[47]++[120])) (λw hO=>vG (ob:=q0) (wd.name++[47]++[120]) w hs0 hf0.bare (hO.past 4 (o7++o2++o3)) (λb hb=>by have:=hb0 b hb;simp only [List.mem_append] at this ⊢;grind) (by have:=hg0.len;omega)) ?_))))))
     rintro _ ob0b hp0b
     obtain ⟨A0b,c0b,rfl,hf0b⟩:=hf0.put hp0b
     have hg0b:=hg0.put (.inr (.inl ⟨md,hmm,wd,hwd,rfl⟩))
     exact zQ [1] ([GBb b11 k A0b ((x1 lst (wd.name++[47]++[120])).length) c0b,G8b b8,G0b b0 nm pre bld a1 a2 a3 nA nc needs vb vf]++(o7++o2++(o3++ob0b))) (λw hO=>(hO.past 1 (([GBb b11 k A0b ((x1 lst (wd.name++[47]++[120])).length) c0b,G8b b8,G0b b0 nm pre bld a1 a2 a3 nA nc needs vb vf]++(o7++o2++o3))++ob0b)).cast (by simp only [List.append_assoc,List.cons_append,List.nil_append])) (nx2 (2,(x1 lst (wd.name++[47]++[120])),A0b,c0b,(o3++ob0b)) 0 [] Om ⟨by omega,rfl,hf0b,hg0b.more Om⟩ Kr Kr)
    ·exact zQ [] ([GBb b11 k A lst.length c,G8b b8,G0b b0 nm pre bld a1 a2 a3 nA nc needs vb vf]++(o7++o2++o3)) (λw hO=>(hO.past 1 ([GBb b11 k A lst.length c,G8b b8,G0b b0 nm pre bld a1 a2 a3 nA nc needs vb vf]++(o7++o2++o3))).cast (by simp only [List.append_assoc,List.cons_append,List.nil_append])) (nx2 (2,lst,A,c,o3) 0 [] Om ⟨by omega,rfl,hf0,hg0.more Om⟩ Kr Kr)
    ·exact zQ [] ([GBb b11 k A lst.length c,G8b b8,G0b b0 nm pre bld a1 a2 a3 nA nc needs vb vf]++(o7++o2++o3)) (λw hO=>(hO.past 1 ([GBb b11 k A lst.length c,G8b b8,G0b b0 nm pre bld a1 a2 a3 nA nc needs vb vf]++(o7++o2++o3))).cast (by simp only [List.append_assoc,List.cons_append,List.nil_append])) (nx2 (2,lst,A,c,o3) 0 [] Om ⟨by omega,rfl,hf0,hg0.more Om⟩ Kr Kr)
 ·rintro ⟨lst,A,c,o3⟩ g2 ⟨hf0,hg0⟩
  refine zG 91 [] ((k:Int)<3) (λh91=>x_tst 96 [] (x_i 102 [] ((i+k:Nat):Int) (x_i 103 [] ((i+(k+1):Nat):Int) (z7 [] (λw hO=>fa (k+1) (by omega) w hO.below) (z7 [] (λw hO=>fp (atL l (i+(k+1))) w) (gE 106 [] (plc (atL l (i+(k+1))) 3=0) (λh5=> ?_) (λh5=> ?_)))))) ?_) (λh91=> ?_)
  ·refine vL [0] 1 148 #[.string (mkS (nmF k)),.slice A lst.length c] (λb12=>m6 [] [GBb b12 k A lst.length c,GBb b11 k A lst.length c,G8b b8,G0b b0 nm pre bld a1 a2 a3 nA nc needs vb vf] o7 (o2++o3) 0 (GBb b12 k A lst.length c::([GBb b11 k A lst.length c,G8b b8,G0b b0 nm pre bld a1 a2 a3 nA nc needs vb vf]++(o7++o2++o3))) (λw hO=>hO.cast (by simp only [List.append_assoc,List.cons_append,List.nil_append])) hO7.top (m:=1) (cp:=1) Om λv' o7' hS=> ?_)
   obtain ⟨A8,c8,rfl⟩:=Sl.form hS
   obtain ⟨q0,hs0,hb0⟩:=hf0.ex
   exact xY 7 [] (.slice A8 (xs.length+1) c8) (.slice A8 (xs++[(⟨nmF k,A,lst,c⟩:Fv)]).length c8) (by simp) (x_i 18 [] ((k+1:Nat):Int) (zQ [] ([G8b b8,G0b b0 nm pre bld a1 a2 a3 nA nc needs vb vf]++(o7'++(o2++o3))) (λw hO=>(hO.past 2 ([G8b b8,G0b b0 nm pre bld a1 a2 a3 nA nc needs vb vf]++o7'++(o2++o3))).cast (by simp only [List.append_assoc,List.cons_append,List.nil_append])) (nx (k+1,xs++[⟨nmF k,A,lst,c⟩],A8,c8,o7',(o2++o3)) (4-(k+1)) [] Om ⟨by omega,rfl,(hO7.more (o2':=(o2++o3)) (λb hb=>by simp [hb])).add (x:=⟨nmF k,A,lst,c⟩) hS ⟨q0,hs0,λb hb=>by have:=hb0 b hb;simp only [List.mem_append] at this ⊢;grind⟩,hG.add (hk2 k h3) rfl (hg0.more Om)⟩ Kr Kr)))
  ·obtain ⟨q0,hs0,hb0⟩:=hf0.ex
   refine dJ 7 [] (x_i 111 [0] ((k+1:Nat):Int) (xh_ixa 50112 [] 4 4 (k+1) 1 Om (xh_ldk 50113 [] 5 1 _ _ 9 _ (nmF_rd (k+1) Om) (zX [] 6 (yU (R:=PutR (.slice A lst.length c) lst (nmF (k+1))) (λw hO=>vG (ob:=q0) (nmF (k+1)) w hs0 hf0.bare (hO.past 3 (o7++o2++o3)) (λb hb=>by have:=hb0 b hb;simp only [List.mem_append] at this ⊢;grind) (by have:=hg0.len;omega)) ?_)))))
   rintro _ oba hpa
   obtain ⟨Aa,ca,rfl,hfa⟩:=hf0.put hpa
   have hga:=hg0.put (.inr (.inr ⟨k+1,by omega,hk2 (k+1) h5,rfl⟩))
   refine vL [0,0] 1 148 #[.string (mkS (nmF k)),.slice Aa (x1 lst (nmF (k+1))).length ca] (λb12=>m6 [] [GBb b12 k Aa ((x1 lst (nmF (k+1))).length) ca,GBb b11 k Aa ((x1 lst (nmF (k+1))).length) ca,G8b b8,G0b b0 nm pre bld a1 a2 a3 nA nc needs vb vf] o7 (o2++o3++oba) 0 (GBb b12 k Aa ((x1 lst (nmF (k+1))).length) ca::(([GBb b11 k Aa ((x1 lst (nmF (k+1))).length) ca,G8b b8,G0b b0 nm pre bld a1 a2 a3 nA nc needs vb vf]++(o7++o2++o3))++oba)) (λw hO=>hO.cast (by simp only [List.append_assoc,List.cons_append,List.nil_append])) hO7.top (m:=1) (cp:=1) Om λv' o7' hS=> ?_)
   obtain ⟨A8,c8,rfl⟩:=Sl.form hS
   obtain ⟨qa,hsa,hba⟩:=hfa.ex
   exact xY 7 [] (.slice A8 (xs.length+1) c8) (.slice A8 (xs++[(⟨nmF k,Aa,(x1 lst (nmF (k+1))),ca⟩:Fv)]).length c8) (by simp) (x_i 18 [] ((k+1:Nat):Int) (zQ [] ([G8b b8,G0b b0 nm pre bld a1 a2 a3 nA nc needs vb vf]++(o7'++(o2++o3++oba))) (λw hO=>(hO.past 2 ([G8b b8,G0b b0 nm pre bld a1 a2 a3 nA nc needs vb vf]++o7'++(o2++o3++oba))).cast (by simp only [List.append_assoc,List.cons_append,List.nil_append])) (nx (k+1,xs++[⟨nmF k,Aa,(x1 lst (nmF (k+1))),ca⟩],A8,c8,o7',(o2++o3++oba)) (4-(k+1)) [] Om ⟨by omega,rfl,(hO7.more (o2':=(o2++o3++oba)) (λb hb=>by simp [hb])).add (x:=⟨nmF k,Aa,(x1 lst (nmF (k+1))),ca⟩) hS ⟨qa,hsa,λb hb=>by have:=hba b hb;simp only [List.mem_append] at this ⊢;grind⟩,hG.add (hk2 k h3) rfl (hga.more Om)⟩ Kr Kr)))
  ·refine vL [0] 1 148 #[.string (mkS (nmF k)),.slice A lst.length c] (λb12=>m6 [] [GBb b12 k A lst.length c,GBb b11 k A lst.length c,G8b b8,G0b b0 nm pre bld a1 a2 a3 nA nc needs vb vf] o7 (o2++o3) 0 (GBb b12 k A lst.length c::([GBb b11 k A lst.length c,G8b b8,G0b b0 nm pre bld a1 a2 a3 nA nc needs vb vf]++(o7++o2++o3))) (λw hO=>hO.cast (by simp only [List.append_assoc,List.cons_append,List.nil_append])) hO7.top (m:=1) (cp:=1) Om λv' o7' hS=> ?_)
   obtain ⟨A8,c8,rfl⟩:=Sl.form hS
   obtain ⟨q0,hs0,hb0⟩:=hf0.ex
   exact xY 7 [] (.slice A8 (xs.length+1) c8) (.slice A8 (xs++[(⟨nmF k,A,lst,c⟩:Fv)]).length c8) (by simp) (x_i 18 [] ((k+1:Nat):Int) (zQ [] ([G8b b8,G0b b0 nm pre bld a1 a2 a3 nA nc needs vb vf]++(o7'++(o2++o3))) (λw hO=>(hO.past 2 ([G8b b8,G0b b0 nm pre bld a1 a2 a3 nA nc needs vb vf]++o7'++(o2++o3))).cast (by simp only [List.append_assoc,List.cons_append,List.nil_append])) (nx (k+1,xs++[⟨nmF k,A,lst,c⟩],A8,c8,o7',(o2++o3)) (4-(k+1)) [] Om ⟨by omega,rfl,(hO7.more (o2':=(o2++o3)) (λb hb=>by simp [hb])).add (x:=⟨nmF k,A,lst,c⟩) hS ⟨q0,hs0,λb hb=>by have:=hb0 b hb;simp only [List.mem_append] at this ⊢;grind⟩,hG.add (hk2 k h3) rfl (hg0.more Om)⟩ Kr Kr)))
  ·refine vL [0] 1 148 #[.string (mkS (nmF k)),.slice A lst.length c] (λb12=>m6 [] [GBb b12 k A lst.length c,GBb b11 k A lst.length c,G8b b8,G0b b0 nm pre bld a1 a2 a3 nA nc needs vb vf] o7 (o2++o3) 0 (GBb b12 k A lst.length c::([GBb b11 k A lst.length c,G8b b8,G0b b0 nm pre bld a1 a2 a3 nA nc needs vb vf]++(o7++o2++o3))) (λw hO=>hO.cast (by simp only [List.append_assoc,List.cons_append,List.nil_append])) hO7.top (m:=1) (cp:=1) Om λv' o7' hS=> ?_)
   obtain ⟨A8,c8,rfl⟩:=Sl.form hS
   obtain ⟨q0,hs0,hb0⟩:=hf0.ex
   exact xY 7 [] (.slice A8 (xs.length+1) c8) (.slice A8 (xs++[(⟨nmF k,A,lst,c⟩:Fv)]).length c8) (by simp) (x_i 18 [] ((k+1:Nat):Int) (zQ [] ([G8b b8,G0b b0 nm pre bld a1 a2 a3 nA nc needs vb vf]++(o7'++(o2++o3))) (λw hO=>(hO.past 2 ([G8b b8,G0b b0 nm pre bld a1 a2 a3 nA nc needs vb vf]++o7'++(o2++o3))).cast (by simp only [List.append_assoc,List.cons_append,List.nil_append])) (nx (k+1,xs++[⟨nmF k,A,lst,c⟩],A8,c8,o7',(o2++o3)) (4-(k+1)) [] Om ⟨by omega,rfl,(hO7.more (o2':=(o2++o3)) (λb hb=>by simp [hb])).add (x:=⟨nmF k,A,lst,c⟩) hS ⟨q0,hs0,λb hb=>by have:=hb0 b hb;simp only [List.mem_append] at this ⊢;grind⟩,hG.add (hk2 k h3) rfl (hg0.more Om)⟩ Kr Kr)))
end
section
structure Bv where
 name:YL
 rng:YL
 wh:YL
def bvC (x:Bv):List Value:=[.string (mkS x.name),.string (mkS x.rng),.string (mkS x.wh)]
structure BarG (own:Nat)(x:Bv):Prop where
 name:∃ k,k<4/\x.name=x2 ((own+1+k) % 5)
 rng:FewT x.rng
 wh:WhenT x.wh
structure NsO (A:Option Addr)(c:Nat)(xs:List Nv)(o1 o2:List Blk):Prop where
 top:Sl 72 3 (.slice A xs.length c) xs.length (xs.flatMap nvC) o1
 each:∀ x∈xs,∃ o,WsO x.A x.cap x.any o∧∀ b∈o,b∈o2
theorem NsO.nil:NsO none 0 [] [] []:=⟨Sl.nil _ _,λx h=>by simp at h⟩
theorem NsO.add {A A':Option Addr}{c c':Nat}{xs:List Nv}{o1 o1' o2 ob:List Blk}{x:Nv}(h:NsO A c xs o1 o2)(ht:Sl 72 3 (.slice A' (xs.length+1) c') (xs.length+1) (xs.flatMap nvC++nvC x) o1')(hx:WsO x.A x.cap x.any ob):NsO A' c' (xs++[x]) o1' (o2++ob):=
 ⟨by rw [List.length_append,List.length_singleton,List.flatMap_append,List.flatMap_singleton];exact ht,λy hy=>by
  rcases List.mem_append.1 hy with hy|hy
  ·obtain ⟨o,h1,h2⟩:=h.each y hy
   exact ⟨o,h1,λb hb=>List.mem_append_left _ (h2 b hb)⟩
  ·rw [List.mem_singleton.1 hy];exact ⟨ob,hx,λb hb=>List.mem_append_right _ hb⟩⟩
structure Rv where
 name:YL
 maj:Int
 min:Int
 pat:Int
 pre:YL
 bld:YL
 nA:Option Addr
 nc:Nat
 needs:List Nv
 bA:Option Addr
 bc:Nat
 bars:List Bv
 fA:Option Addr
 fc:Nat
 fts:List Fv
def rvC (x:Rv):List Value:=[.string (mkS x.name),YI x.maj,YI x.min,YI x.pat,.string (mkS x.pre),.string (mkS x.bld),.slice x.nA x.needs.length x.nc,.slice x.bA x.bars.length x.bc,.slice x.fA x.fts.length x.fc]
def rvV (x:Rv):Value:= .agg #[.string (mkS x.name),YI x.maj,YI x.min,YI x.pat,.string (mkS x.pre),.string (mkS x.bld),.slice x.nA x.needs.length x.nc,.slice x.bA x.bars.length x.bc,.slice x.fA x.fts.length x.fc]
def PbG (pre bld:YL):Prop:=(pre=[]/\bld=[])\/(pre=[114,99,46,49]/\bld=[])\/(pre=[]/\bld=[55])
structure RecG (own:Nat)(keep:Nat->Bool)(x:Rv):Prop where
 name:x.name=x2 (own % 5)
 ver:∃ a b:Nat,a<3/\b<2/\x.maj=a/\x.min=b/\x.pat=0
 pb:PbG x.pre x.bld
 nlen:x.needs.length<=2
 needs:∀ m∈x.needs,NeedG own m
 blen:x.bars.length<=1
 bars:∀ b∈x.bars,BarG own b
 fts:FeatsG x.needs keep 4 x.fts
structure RecO (x:Rv)(ob:List Blk):Prop where
 ex:∃ o1 o2 o4 o7 o8,ob=o4++(o1++o2)++(o7++o8)/\NsO x.nA x.nc x.needs o1 o2/\Sl 102 3 (.slice x.bA x.bars.length x.bc) x.bars.length (x.bars.flatMap bvC) o4/\FtO x.fA x.fc x.fts o7 o8
theorem nameT_len (k:Nat):(x2 k).length<=3:=by unfold x2;split<;>(try split)<;>(try split)<;>(try split)<;>simp
theorem NsO.reads {A:Option Addr}{c:Nat}{xs:List Nv}{o1 o2 L:List Blk}{M:List Nat}{W w:World}(h:NsO A c xs o1 o2)(hO:Own M W w L)(h1:∀ b∈o1,b∈L)(h2:∀ b∈o2,b∈L):Reads nvC w w.heap.size A xs∧∀ m∈xs,Reads wvC w w.heap.size m.A m.any:=
 ⟨Sl.reads h.top rfl hO h1,λm hm=>by
  obtain ⟨o,⟨⟨p1,p2,rfl,hp,_⟩⟩,ho⟩:=h.each m hm
  exact Sl.reads hp rfl hO λb hb=>h2 b (ho b (List.mem_append_left _ hb))⟩
theorem need_short {own:Nat}{x:Nv}(h:NeedG own x):x.opt.length<=1000∧∀ w∈x.any,w.name.length<=1000:=by
 refine ⟨?_,λw hw=> ?_⟩
 ·rcases h.opt with e|⟨j,_,e⟩
  ·rw [e];simp
  ·rw [e];have:=wordT_four j;omega
 ·have key:∀ (a:Bool) (u:Wv),WishG own a u->u.name.length<=1000:=λa u hu=>by
   obtain ⟨k,_,e⟩:=hu.name
   rw [e];have:=nameT_len ((own+1+k) % 5);omega
  rcases h.any with ⟨u,e,hu⟩|⟨u,z,e,hu,hz⟩
  ·rw [e] at hw;rw [List.mem_singleton.1 hw];exact key _ _ hu
  ·rw [e] at hw
   rcases List.mem_cons.1 hw with rfl|hw
   ·exact key _ _ hu
   ·rw [List.mem_singleton.1 hw];exact key _ _ hz
def NeedR (own:Nat)(v:Value)(ob:List Blk):Prop:=∃ x,v=nvV x/\NeedG own x/\WsO x.A x.cap x.any ob
theorem record_gen (v:Value)(l:List Int)(i own:Nat)(W:World)(hv:ReadsI W W.heap.size v l)(hl:l.length<=9223372036854775807)(hi:i<=1000)(ho:own<=1000):YC 20 #[v,YI (i:Int),YI (own:Int)] W λe w'=>∃ x ob,e= .returned (rvV x)/\(RecG own (λj=>decide (plc (atL l (i+52+j)) 3≠0)) x/\RecO x ob)/\Own [] W w' ob:=by
 obtain ⟨a,ha,ha3⟩:=x6 (atL l i) 3 (by decide)
 obtain ⟨b,hb,hb2⟩:=x6 (atL l (i+1)) 2 (by decide)
 obtain ⟨p,hp,hp9⟩:=x6 (atL l (i+2)) 9 (by decide)
 obtain ⟨n4,hn,hn4⟩:=x6 (atL l (i+3)) 4 (by decide)
 obtain ⟨m5,hm,hm5⟩:=x6 (atL l (i+45)) 5 (by decide)
 obtain ⟨q4,hq,hq4⟩:=x6 (atL l (i+46)) 4 (by decide)
 have f1:=kZ hv hl i 3 Om (by decide) (by decide) ha
 have f2:=kZ hv hl (i+1) 2 Om (by decide) (by decide) hb
 have f3:=kZ hv hl (i+2) 9 Om (by decide) (by decide) hp
 have f4:=kZ hv hl (i+3) 4 Om (by decide) (by decide) hn
 have f5:=kZ hv hl (i+45) 5 Om (by decide) (by decide) hm
 have f6:=kZ hv hl (i+46) 4 Om (by decide) (by decide) hq
 refine zD Tryz.func20 (zH [] λb1=>z7 [] (λw hO=>name_at own w) (z7 [] (λw hO=>f1 w hO.below) (x_i 16 [] ((i+1:Nat):Int) (z7 [] (λw hO=>f2 w hO.below) (zH [] λb2=>x_i 22 [0] ((i+2:Nat):Int) (z7 [] (λw hO=>f3 w hO.below) ?_))))))
 refine d6 (α:=YL) 24 (λ_=>[(0,v),(1,YI (i:Int)),(2,YI (own:Int)),(6,Zp b1 0),(7,Zp b2 0)]) (λpre=>[⟨b2, #[.string (mkS (x2 (own % 5))),YI a,YI b,YI 0,.string (mkS pre),.string (mkS []),.slice none 0 0,.slice none 0 0,.slice none 0 0],47⟩,⟨b1,ZE,47⟩]) (λpre=>(pre=[]∧¬ (p:Int)=1)\/(pre=[114,99,46,49]/\(p:Int)=1)) [] (λnj=>fI 24 ((p:Int)=1) (λh=>nj [114,99,46,49] [0] (.inr ⟨rfl,h⟩) Kr) (λh=>nj [] [] (.inl ⟨rfl,h⟩) Kr)) ?_
 rintro pre g hpre
 refine x_i 29 [] ((i+2:Nat):Int) (z7 [] (λw hO=>f3 w hO.below) ?_)
 refine d6 (α:=YL) 31 (λ_=>[(0,v),(1,YI (i:Int)),(2,YI (own:Int)),(6,Zp b1 0),(7,Zp b2 0)]) (λbld=>[⟨b2, #[.string (mkS (x2 (own % 5))),YI a,YI b,YI 0,.string (mkS pre),.string (mkS bld),.slice none 0 0,.slice none 0 0,.slice none 0 0],47⟩,⟨b1,ZE,47⟩]) (λbld=>PbG pre bld) [] (λnj=>fI 31 ((p:Int)=2) (λh=>nj [55] [0] (hpre.elim (λq=> .inr (.inr ⟨q.1,rfl⟩)) (λq=>absurd q.2 Om)) Kr) (λh=>nj [] [] (hpre.elim (λq=> .inl ⟨q.1,rfl⟩) (λq=> .inr (.inl ⟨q.1,rfl⟩))) Kr)) ?_
 rintro bld g2 hpb
 refine x_i 36 [] ((i+3:Nat):Int) (z7 [] (λw hO=>f4 w hO.below) (pH 38 [] (YI ((n4 % 3:Nat):Int)) Kr ?_))
 refine zQ [] ([⟨b2, #[.string (mkS (x2 (own % 5))),YI a,YI b,YI 0,.string (mkS pre),.string (mkS bld),.slice none 0 0,.slice none 0 0,.slice none 0 0],47⟩,⟨b1,ZE,47⟩]++([]++[])) (λw hO=>hO.past 0 _) ?_
 refine x_loopE (α:=Nat×List Nv×Option Addr×Nat×List Blk×List Blk) (β:=List Nv×Option Addr×Nat×List Blk×List Blk) (λ(k,_,_,_,_,_)=>[(0,v),(1,YI (i:Int)),(2,YI (own:Int)),(6,Zp b1 0),(7,Zp b2 0),(8,YI (k:Int))]) (λ(_,ns,A,c,o1,o2)=>[⟨b2, #[.string (mkS (x2 (own % 5))),YI a,YI b,YI 0,.string (mkS pre),.string (mkS bld),.slice A ns.length c,.slice none 0 0,.slice none 0 0],47⟩,⟨b1,ZE,47⟩]++(o1++o2)) (λ(k,ns,A,c,o1,o2) m=>m=k/\ns.length+k<=2/\NsO A c ns o1 o2∧∀ x∈ns,NeedG own x) (n4 % 3,[],none,0,[],[]) (n4 % 3)
  (λ_=>[(0,v),(1,YI (i:Int)),(2,YI (own:Int)),(6,.pointer (some ⟨b1,0,none⟩)),(7,.pointer (some ⟨b2,0,none⟩))]) (λ(ns,A,c,o1,o2)=>[⟨b2, #[.string (mkS (x2 (own % 5))),YI a,YI b,YI 0,.string (mkS pre),.string (mkS bld),.slice A ns.length c,.slice none 0 0,.slice none 0 0],47⟩,⟨b1,ZE,47⟩]++(o1++o2)) (λ(ns,A,c,o1,o2)=>ns.length<=2/\NsO A c ns o1 o2∧∀ x∈ns,NeedG own x) [] ⟨rfl,by simp;omega,NsO.nil,λx h=>by simp at h⟩ ?_ ?_
 ·rintro ⟨k,ns,A,c,o1,o2⟩ mk g3 ⟨rfl,hlen,hO1,hG⟩ nx nex
  refine zG 40 [] ((0:Int)<mk) (λh40=> ?_) (λh40=>nex (ns,A,c,o1,o2) [] ⟨by omega,hO1,hG⟩ Kr)
  obtain ⟨k,rfl⟩:∃ k,mk=k+1:=⟨mk-1,by omega⟩
  refine x4 13 [] [⟨b2, #[.string (mkS (x2 (own % 5))),YI a,YI b,YI 0,.string (mkS pre),.string (mkS bld),.slice A ns.length c,.slice none 0 0,.slice none 0 0],47⟩] (λw hO=>hO.nth 0 _) (x_i 47 [0] ((i+4:Nat):Int) (x_i 49 [] ((20*(k+1):Nat):Int) (x_i 50 [] ((i+4+20*(k+1):Nat):Int) (xY 51 [] (YI (IntKind.i64.wrap (((i+4+20*(k+1):Nat):Int) -20))) (YI ((i+4+20*k:Nat):Int)) (by rw [IntWalk.i64_in _ Om];congr 1;omega) (zX [] 10 (yU (R:=NeedR own) (λw hO=>(need_gen v l (i+4+20*k) own w ((hv.below hO.below).more hO.size) hl Om Om).mono λe w' ⟨x,ob,h1,h2,h3⟩=>⟨_,ob,h1,⟨x,rfl,h2⟩,h3⟩) ?_))))))
  rintro _ ob ⟨x,rfl,hx,hxo⟩
  refine zX [] 11 (gR 1 72 (nvV x).cells λb3=>zX [] 12 (wD [⟨b3,(nvV x).cells,72⟩,⟨b2, #[.string (mkS (x2 (own % 5))),YI a,YI b,YI 0,.string (mkS pre),.string (mkS bld),.slice A ns.length c,.slice none 0 0,.slice none 0 0],47⟩,⟨b1,ZE,47⟩] o1 (o2++ob) 0 (⟨b3,(nvV x).cells,72⟩::(([⟨b2, #[.string (mkS (x2 (own % 5))),YI a,YI b,YI 0,.string (mkS pre),.string (mkS bld),.slice A ns.length c,.slice none 0 0,.slice none 0 0],47⟩,⟨b1,ZE,47⟩]++(o1++o2))++ob)) [⟨b2, #[.string (mkS (x2 (own % 5))),YI a,YI b,YI 0,.string (mkS pre),.string (mkS bld),.slice A ns.length c,.slice none 0 0,.slice none 0 0],47⟩] (λw hO=>hO.cast (by simp only [List.append_assoc,List.cons_append,List.nil_append])) (λo w hO=>hO.nth 1 _) hO1.top (m:=1) (cp:=1) Om λv' o1' hS=> ?_))
  obtain ⟨A',c',rfl⟩:=Sl.form hS
  refine xY 42 [1] (YI (IntKind.i64.wrap (((k+1:Nat):Int) -1))) (YI (k:Int)) (by rw [IntWalk.i64_in _ Om];congr 1;omega) (zQ [] ([⟨b2, #[.string (mkS (x2 (own % 5))),YI a,YI b,YI 0,.string (mkS pre),.string (mkS bld),.slice A' (ns++[x]).length c',.slice none 0 0,.slice none 0 0],47⟩,⟨b1,ZE,47⟩]++(o1'++(o2++ob))) (λw hO=>(hO.past 1 ([⟨b2, #[.string (mkS (x2 (own % 5))),YI a,YI b,YI 0,.string (mkS pre),.string (mkS bld),.slice A' (ns.length+1) c',.slice none 0 0,.slice none 0 0],47⟩,⟨b1,ZE,47⟩]++o1'++(o2++ob))).cast (by simp only [List.append_assoc,List.cons_append,List.nil_append,List.length_append,List.length_cons,List.length_nil])) ?_)
  exact nx (k,ns++[x],A',c',o1',o2++ob) k [] Om ⟨rfl,by simp;omega,hO1.add hS hxo,λy hy=>by
   rcases List.mem_append.1 hy with hy|hy
   ·exact hG y hy
   ·rw [List.mem_singleton.1 hy];exact hx⟩ Kr Kr
 ·rintro ⟨ns,A,c,o1,o2⟩ g3 ⟨hlen,hO1,hG⟩
  refine x_i 59 [] ((i+45:Nat):Int) (z7 [] (λw hO=>f5 w hO.below) ?_)
  refine d6 (α:=List Bv×Option Addr×Nat×List Blk) 61 (λ_=>[(0,v),(1,YI (i:Int)),(2,YI (own:Int)),(6,Zp b1 0),(7,Zp b2 0)]) (λ(bs,bA,bc,o4)=>[⟨b2, #[.string (mkS (x2 (own % 5))),YI a,YI b,YI 0,.string (mkS pre),.string (mkS bld),.slice A ns.length c,.slice bA bs.length bc,.slice none 0 0],47⟩,⟨b1,ZE,47⟩]++(o4++(o1++o2))) (λ(bs,bA,bc,o4)=>bs.length<=1/\(∀ y∈bs,BarG own y)/\Sl 102 3 (.slice bA bs.length bc) bs.length (bs.flatMap bvC) o4) [] (λnj=>fI 61 ((m5:Int)=1) (λh61=> ?_) (λh61=>nj ([],none,0,[]) [] ⟨by simp,λy h=>by simp at h,Sl.nil _ _⟩ Kr)) ?_
  ·refine x4 21 [] [⟨b2, #[.string (mkS (x2 (own % 5))),YI a,YI b,YI 0,.string (mkS pre),.string (mkS bld),.slice A ns.length c,.slice none 0 0,.slice none 0 0],47⟩] (λw hO=>hO.nth 0 _) (x_i 65 [0] ((own+1:Nat):Int) (x_i 68 [] ((i+46:Nat):Int) (x_i 74 [] ((i+47:Nat):Int) (x_i 78 [] ((i+50:Nat):Int) (zX [] 7 (z7 [] (λw hO=>f6 w hO.below) (x_i 70 [] ((own+1+q4:Nat):Int) (zX [] 9 (z7 [] (λw hO=>name_at (own+1+q4) w) (zX [] 13 (wS (R:=λv=>∃ t,FewT t/\v= .string (mkS t)) [] (λw hO=>(few_gen v l (i+47) w ((hv.below hO.below).more hO.size) hl Om).mono λe w' ⟨t,h1,h2,h3⟩=>⟨_,h2,⟨t,h1,rfl⟩,h3⟩) ?_)))))))))))
   rintro _ ⟨t,ht,rfl⟩
   refine zX [] 17 (wS (R:=λv=>∃ t,WhenT t/\v= .string (mkS t)) [] (λw hO=>(when_gen v l (i+50) w ((hv.below hO.below).more hO.size) hl Om).mono λe w' ⟨t,h1,h2,h3⟩=>⟨_,h2,⟨t,h1,rfl⟩,h3⟩) ?_)
   rintro _ ⟨u,hu,rfl⟩
   refine zX [] 19 (gR 1 102 #[.string (mkS (x2 ((own+1+q4) % 5))),.string (mkS t),.string (mkS u)] λb3=>zX [] 20 (wD [⟨b3, #[.string (mkS (x2 ((own+1+q4) % 5))),.string (mkS t),.string (mkS u)],102⟩,⟨b2, #[.string (mkS (x2 (own % 5))),YI a,YI b,YI 0,.string (mkS pre),.string (mkS bld),.slice A ns.length c,.slice none 0 0,.slice none 0 0],47⟩,⟨b1,ZE,47⟩] [] (o1++o2) 0 (⟨b3, #[.string (mkS (x2 ((own+1+q4) % 5))),.string (mkS t),.string (mkS u)],102⟩::([⟨b2, #[.string (mkS (x2 (own % 5))),YI a,YI b,YI 0,.string (mkS pre),.string (mkS bld),.slice A ns.length c,.slice none 0 0,.slice none 0 0],47⟩,⟨b1,ZE,47⟩]++(o1++o2))) [⟨b2, #[.string (mkS (x2 (own % 5))),YI a,YI b,YI 0,.string (mkS pre),.string (mkS bld),.slice A ns.length c,.slice none 0 0,.slice none 0 0],47⟩] (λw hO=>hO.cast (by simp only [List.append_assoc,List.cons_append,List.nil_append])) (λo w hO=>hO.nth 1 _) (Sl.nil 102 3) (m:=1) (cp:=1) Om λv' o4 hS=> ?_))
   obtain ⟨bA,bc,rfl⟩:=Sl.form hS
   exact zQ [1] ([⟨b2, #[.string (mkS (x2 (own % 5))),YI a,YI b,YI 0,.string (mkS pre),.string (mkS bld),.slice A ns.length c,.slice bA (0+1) bc,.slice none 0 0],47⟩,⟨b1,ZE,47⟩]++(o4++(o1++o2))) (λw hO=>(hO.past 1 ([⟨b2, #[.string (mkS (x2 (own % 5))),YI a,YI b,YI 0,.string (mkS pre),.string (mkS bld),.slice A ns.length c,.slice bA (0+1) bc,.slice none 0 0],47⟩,⟨b1,ZE,47⟩]++o4++(o1++o2))).cast (by simp only [List.append_assoc,List.cons_append,List.nil_append])) (nj ([⟨x2 ((own+1+q4) % 5),t,u⟩],bA,bc,o4) [] ⟨by simp,λy hy=>by rw [List.mem_singleton.1 hy];exact ⟨⟨q4,hq4,rfl⟩,ht,hu⟩,hS⟩ Kr)
  rintro ⟨bs,bA,bc,o4⟩ g4 ⟨hbl,hbG,hbS⟩
  refine x_i 86 [] ((i+52:Nat):Int) (yB (R:=λv ob=>∃ Af cf xs o7 o8,v= .slice Af xs.length cf/\ob=o7++o8/\FtO Af cf xs o7 o8/\FeatsG ns (λj=>decide (plc (atL l (i+52+j)) 3≠0)) 4 xs) [0] (λw hO=>have hr:=hO1.reads (hO.past 2 (o4++(o1++o2))) (λb hb=>by simp [hb]) (λb hb=>by simp [hb]);(features_gen v l (i+52) (x2 (own % 5)) pre bld a b 0 A c ns (.slice bA bs.length bc) (.slice none 0 0) w ((hv.below hO.below).more hO.size) hl Om hr.1 hr.2 Om (λm hm=>(need_short (hG m hm)).1) (λm hm=>(need_short (hG m hm)).2)).mono λe w' ⟨Af,cf,xs,o7,o8,h1,h2,h3⟩=>⟨_,_,h1,⟨Af,cf,xs,o7,o8,rfl,rfl,h2⟩,h3⟩) ?_)
  rintro _ _ ⟨Af,cf,xs,o7,o8,rfl,rfl,hF,hFG⟩
  exact qK [0,0,1] 1 (rvV ⟨x2 (own % 5),a,b,0,pre,bld,A,c,ns,bA,bc,bs,Af,cf,xs⟩) λw hO=>⟨_,_,rfl,⟨⟨rfl,⟨a,b,ha3,hb2,rfl,rfl,rfl⟩,hpb,hlen,hG,hbl,hbG,hFG⟩,⟨o1,o2,o4,o7,o8,rfl,hO1,hbS,hF⟩⟩,hO.past 2 _⟩
end
end Go.Proofs.YtflhcaljcoekpaaGreatDoor
