import Derived.RangeFuncIn
import Derived.RangeFuncLeaves
import Derived.RangeFuncCalls
import Derived.RangeFuncNested
import Derived.Lib.Bytealg
import Derived.Maps.Own
import Derived.Maps.OwnSet
import Derived.Below
import Derived.ChangeSame
import Derived.ProofKit
import Derived.OpenShut
import Derived.LaidSub
import Derived.Carry
import Derived.SliceStrings
import Derived.Lib.LaidTab
import Derived.Deep.DeepHandedRow
import Derived.ChangeArms
import Derived.Deep.Fields
import Derived.DataReads
import Derived.ChangeOld
import Derived.Test.YtobimfnmnkegdaaGreatDoorMC6
set_option maxRecDepth 1000000
set_option maxHeartbeats 8000000
set_option linter.unusedVariables false
set_option linter.unusedSimpArgs false
set_option linter.unnecessarySimpa false
namespace Go.Proofs.YtobimfnmnkegdaaGreatDoor
open Go.RowKit

section
set_option linter.unnecessarySimpa false
theorem add_wish (rb:Nat)(x:Rv)(ps:List YL)(A:Option Addr)(cap:Nat)(ob:List Blk)(W:World)(hR:RdR rb 3 x ob)(hO:Own (ob.map Blk.b) W W ob)(hv:ReadsA (ob.map Blk.b) yY W A ps)(hp:5<=ps.length)(hs:∀ s∈ps,s.length<=1048576)(hF:Few x)(hne:x.needs≠[])(hK:∀ w,Own (ob.map Blk.b) W w []->HasLib w):YC 62 #[.pointer (some ⟨rb,0,none⟩),.slice A ps.length cap] W (AddB rb 3 x ps ob W):=by
 obtain ⟨o1,oa,og,oi,o4,o7,o8,rfl,hN,hB,hT⟩:=hR
 obtain ⟨pb,po,hA,hld⟩:=mI hv Om
 rcases hN.split with ⟨e,_⟩|⟨ini,n,hx,hi,hw,hf⟩
 ·exact absurd e hne
 have hlen:x.needs.length=ini.length+1:=by rw [hx];simp
 obtain ⟨g,cur,hg,rfl⟩:=sl_addr hN.top Om
 have hS:Sl 75 3 (.slice (some ⟨g,0,none⟩) (ini.length+1) x.nc) (ini.length+1) ((ini++[n]).flatMap nvC) [⟨g,cur,75⟩]:=by have:=hN.top;rw [hlen,hx,hg] at this;exact this
 have hFn:=hF.n
 have hFa:n.any.length<=5000:=hF.a n (by rw [hx];simp)
 have hlast:=lastN_at g ini.length x.nc x.needs.length hlen Om
 rw [←hg] at hlast
 obtain ⟨p1,hp1⟩:∃ p,ps.getD 1 []=p:=⟨_,rfl⟩
 obtain ⟨p2,hp2⟩:∃ p,ps.getD 2 []=p:=⟨_,rfl⟩
 obtain ⟨p3,hp3⟩:∃ p,ps.getD 3 []=p:=⟨_,rfl⟩
 obtain ⟨p4,hp4⟩:∃ p,ps.getD 4 []=p:=⟨_,rfl⟩
 have hs2:p2.length<=1048576:=by
  rw [←hp2,List.getD_eq_getElem?_getD,List.getElem?_eq_getElem (by omega)];exact hs _ (List.getElem_mem _)
 obtain ⟨M,hM⟩:∃ M,(rdB x 3 rb::([⟨g,cur,75⟩]++zZ oa og oi o4 o7 o8)).map Blk.b=M:=⟨_,rfl⟩
 rw [hM] at hO hld hK
 have hl1:∀ w,Own M W w []->(loadVar 9 ⟨pb,po+1*1+0,none⟩).run YP w= .ok (.string (mkS p1)) w:=λw hO=>by have:=hld w hO 1 Om;rw [hp1] at this;exact this
 have hl2:∀ w,Own M W w []->(loadVar 9 ⟨pb,po+2*1+0,none⟩).run YP w= .ok (.string (mkS p2)) w:=λw hO=>by have:=hld w hO 2 Om;rw [hp2] at this;exact this
 have hl3:∀ w,Own M W w []->(loadVar 9 ⟨pb,po+3*1+0,none⟩).run YP w= .ok (.string (mkS p3)) w:=λw hO=>by have:=hld w hO 3 Om;rw [hp3] at this;exact this
 have hl4:∀ w,Own M W w []->(loadVar 9 ⟨pb,po+4*1+0,none⟩).run YP w= .ok (.string (mkS p4)) w:=λw hO=>by have:=hld w hO 4 Om;rw [hp4] at this;exact this
 obtain ⟨fs,hfs⟩:∃ fs,(if p2=[45] then [] else zE 44 [] p2)=fs:=⟨_,rfl⟩
 have hc:∀ w,Own M W w []->YC 107 #[.string (mkS p2)] w λe w'=>∃ v ob',e= .returned v/\SlT v fs ob'/\Own [] w w' ob':=λw hO=>hfs▸qFeats_any p2 w hs2 (hK w hO)
 have hrd:cur[ini.length*3+0]?=some (.slice n.A n.any.length n.cap):=hS.lastAt wC 0 (.slice n.A n.any.length n.cap) rfl
 refine zN hO Tryz.func62 (z8 (v:=Zp g (ini.length*3)) [0] (λw hO=>hlast w) ?_)
 refine qJ 22 [] [⟨g,cur,75⟩] (λw hO=>Own.nth 1 ⟨g,cur,75⟩ hO) (xh_ldk 50060 [] 4 0 cur (ini.length*3+0) 73 (.slice n.A n.any.length n.cap) hrd (wU 50062 [] 6 hA ps.length cap 1 1 Om (wJ 50063 [] 7 9 pb (po+1*1+0) (.string (mkS p1)) (λw hO=>hl1 w hO.no) ?_)))
 refine wU 50065 [] 9 hA ps.length cap 2 1 Om (wJ 50066 [] 10 9 pb (po+2*1+0) (.string (mkS p2)) (λw hO=>hl2 w hO.no) ?_)
 refine wU 50069 [] 13 hA ps.length cap 3 1 Om (wJ 50070 [] 14 9 pb (po+3*1+0) (.string (mkS p3)) (λw hO=>hl3 w hO.no) ?_)
 refine xh_seqv 50071 [] 15 p3 j6 (wU 50073 [] 17 hA ps.length cap 4 1 Om (wJ 50074 [] 18 9 pb (po+4*1+0) (.string (mkS p4)) (λw hO=>hl4 w hO.no) ?_))
 refine gD [] 11 (nN (R:=λv ob=>SlT v fs ob) (λw hO=>hc w hO.no) λv obF hF=> ?_)
 obtain ⟨fA,fc,rfl⟩:=hF.form
 refine gD [] 20 (fQ 1 134 #[.string (mkS p1),.string (mkS p4),.slice fA fs.length fc,.bool (decide (p3=j6))] λb=>gD [] 21 ?_)
 refine pR (m:=1) (cp:=1) [⟨b, #[.string (mkS p1),.string (mkS p4),.slice fA fs.length fc,.bool (decide (p3=j6))],134⟩] oa (rdB x 3 rb::⟨g,cur,75⟩::zZ [] (og++obF) oi o4 o7 o8) 0 (⟨b, #[.string (mkS p1),.string (mkS p4),.slice fA fs.length fc,.bool (decide (p3=j6))],134⟩::((rdB x 3 rb::([⟨g,cur,75⟩]++zZ oa og oi o4 o7 o8))++obF)) [⟨g,cur,75⟩] (λw hO=>kE [] hO λp=>by
  simp only [zZ,List.countP_append,List.countP_cons,List.countP_nil,List.cons_append,List.nil_append];omega) (λo w hO=>hO.take (λy hy=>by rw [List.mem_singleton.1 hy];simp) (by simp)) hw Om λv' ob' h=> ?_
 obtain ⟨A',c',rfl⟩:=h.form
 obtain ⟨u,hu⟩:∃ u:Wv,u=⟨p1,p4,fA,fc,fs,decide (p3=j6)⟩:=⟨_,rfl⟩
 have hl:(n.any++[u]).length=n.any.length+1:=by simp
 have hput:=Sl.putLast wC hS {n with A:=A',cap:=c',any:=n.any++[u]} 0 #[.slice A' (n.any.length+1) c'] (by simp) (by unfold nvC;simp only [hl];rfl)
 refine v8 79 [] (Zp g (ini.length*3+0)) (Zp g (ini.length*3+0)) rfl (x_hold ([⟨b, #[.string (mkS p1),.string (mkS p4),.slice fA fs.length fc,.bool (decide (p3=j6))],134⟩]++ob'++(rdB x 3 rb::⟨g,cur,75⟩::zZ [] (og++obF) oi o4 o7 o8)) (rdB x 3 rb::⟨g,cur,75⟩::zZ ob' (og++obF) oi o4 o7 o8) (λw hO=>kE [⟨b, #[.string (mkS p1),.string (mkS p4),.slice fA fs.length fc,.bool (decide (p3=j6))],134⟩] hO λp=>by
  simp only [zZ,List.countP_append,List.countP_cons,List.countP_nil,List.cons_append,List.nil_append];omega) ?_)
 refine x_sto 1 ⟨g,cur,75⟩ (ini.length*3+0) 1 (.slice A' (n.any.length+1) c') (rdB x 3 rb::⟨g,cur,75⟩::zZ ob' (og++obF) oi o4 o7 o8) hput.2 ?_
 have hfin:∀ w,Own M W w (rdB x 3 rb::⟨g,zW cur (ini.length*3+0) #[.slice A' (n.any.length+1) c'],75⟩::zZ ob' (og++obF) oi o4 o7 o8)->AddB rb 3 x ps (rdB x 3 rb::([⟨g,cur,75⟩]++zZ oa og oi o4 o7 o8)) W (.returned (.bool (nM x.rt 3 ps).2)) w:=λw hO=>by
  refine ⟨{x with needs:=ini++[{n with A:=A',cap:=c',any:=n.any++[u]}]},rdB {x with needs:=ini++[{n with A:=A',cap:=c',any:=n.any++[u]}]} 3 rb::([⟨g,zW cur (ini.length*3+0) #[.slice A' (n.any.length+1) c'],75⟩]++zZ ob' (og++obF) oi o4 o7 o8),rfl, ?_,⟨_,ob',og++obF,oi,o4,o7,o8,rfl,⟨⟨?_,.inr ⟨ini,_,rfl,hi, ?_,λy hy=> ?_⟩⟩,hB,hT⟩⟩, ?_⟩
  ·refine rt_lastN hx (f:=λn=>{n with any:=n.any++[anyW ps (ps.getD 4 [])]}) ?_
   unfold Nv.nt anyW
   rw [hp1,hp2,hp3,hp4,hfs,hu];simp [Wv.wt]
  ·exact hg▸sl_len hput.1
  ·show Sl _ 4 (.slice A' (n.any++[u]).length c') _ _ _
   rw [hl,List.flatMap_append,List.flatMap_singleton,hu];exact h
  ·rcases List.mem_append.1 hy with hy|hy
   ·obtain ⟨o,q1,q2⟩:=hf y hy
    exact ⟨o,q1,λb hb=>List.mem_append_left _ (q2 b hb)⟩
   ·rw [List.mem_singleton.1 hy,hu]
    exact ⟨obF,hF,λb hb=>List.mem_append_right _ hb⟩
  ·rw [rd_lastN hx,hM];exact hO
 have hb:(nM x.rt 3 ps).2=(decide (p3=j6)||decide (p3=fS)):=by rw [←hp3];rfl
 refine zI 81 [] hA ps.length cap 3 1 (by omega) (zH 82 [] 9 pb (po+3*1+0) (.string (mkS p3)) (λw hO=>hl3 w hO.no) (x4 83 [] p3 j6 (λq=> ?_) (λq=> ?_)))
 ·refine z7 [] Z4 λw hO=> ?_
  have:=hfin w (hO.past 0 (rdB x 3 rb::⟨g,zW cur (ini.length*3+0) #[.slice A' (n.any.length+1) c'],75⟩::zZ ob' (og++obF) oi o4 o7 o8))
  rw [hb,decide_eq_true q,Bool.true_or] at this;exact this
 ·refine zI 86 [] hA ps.length cap 3 1 (by omega) (zH 87 [] 9 pb (po+3*1+0) (.string (mkS p3)) (λw hO=>hl3 w hO.no) (x4 88 [] p3 fS (λq2=> ?_) (λq2=> ?_)))
  ·refine z7 [] Z4 λw hO=> ?_
   have:=hfin w (hO.past 0 (rdB x 3 rb::⟨g,zW cur (ini.length*3+0) #[.slice A' (n.any.length+1) c'],75⟩::zZ ob' (og++obF) oi o4 o7 o8))
   rw [hb,decide_eq_true q2,Bool.or_true] at this;exact this
  ·refine z7 [] Z5 λw hO=> ?_
   have:=hfin w (hO.past 0 (rdB x 3 rb::⟨g,zW cur (ini.length*3+0) #[.slice A' (n.any.length+1) c'],75⟩::zZ ob' (og++obF) oi o4 o7 o8))
   rw [hb,decide_eq_false q,decide_eq_false q2,Bool.or_false] at this;exact this
end
section
set_option linter.unnecessarySimpa false
theorem pcsB_le (b:UInt8):∀ (k:Nat) (s:YL),∀ x∈dM b k s,x.length<=s.length
 |0,s=>λx hx=>by rw [dM,List.mem_singleton] at hx;rw [hx];exact Nat.le_refl _
 |k+1,s=>λx hx=>by
  have hb:=mQ b s
  unfold dM at hx
  split at hx
  ·rename_i h
   rw [if_pos h] at hb
   have hl:=congrArg List.length hb
   simp only [List.length_append,List.length_cons] at hl
   rcases List.mem_cons.1 hx with rfl|hx
   ·omega
   ·have:=pcsB_le b k _ x hx;omega
  ·rw [List.mem_singleton.1 hx];exact Nat.le_refl _
theorem laPs_le (l:La)(s:YL):∀ p∈xR l s,p.length<=s.length:=λp hp=>by
 unfold xR at hp
 split at hp
 ·exact pcsB_le _ _ _ p hp
 ·have:=nV 32 s [] p hp;simpa using this
theorem laOk_len {l:La}{s:YL}(h:fI l s=true):l.parts<=(xR l s).length:=by
 unfold fI at h
 simp only [Bool.and_eq_true,Bool.or_eq_true,decide_eq_true_eq] at h
 omega
theorem qAdd_any (l:La)(hl:l∈lays)(s:YL)(hls:fI l s=true)(hs:s.length<=90000)(rb:Nat)(x:Rv)(A:Option Addr)(cap:Nat)(ob:List Blk)(W:World)(hR:RdR rb l.kind x ob)(hO:Own (ob.map Blk.b) W W ob)(hv:ReadsA (ob.map Blk.b) yY W A (xR l s))(hcap:(xR l s).length<=cap)(hF:Few x)(hn:3<=l.kind->l.kind<=5->x.needs≠[])(hb:l.kind=7->x.bars≠[])(hK:∀ w,Own (ob.map Blk.b) W w []->HasLib w):YC 62 #[.pointer (some ⟨rb,0,none⟩),.slice A (xR l s).length cap] W (AddB rb l.kind x (xR l s) ob W):=by
 have hle:=laOk_len hls
 have hps:∀ p∈xR l s,p.length<=1048576:=λp hp=>by have:=laPs_le l s p hp;omega
 have hfew:l.parts<=1000->(xR l s).length<=s.length+1001:=laPs_few l s
 clear hls
 generalize xR l s=ps at*
 simp only [lays,List.mem_cons,List.not_mem_nil,or_false] at hl
 rcases hl with rfl|rfl|rfl|rfl|rfl|rfl|rfl|rfl
 ·exact add_head rb x ps A cap ob W hR hO hv hle hps λw hw=>(hK w hw).tab
 ·exact add_need rb x ps A cap ob W hR hO hF
 ·exact add_wish rb x ps A cap ob W hR hO hv hle hps hF (hn (by decide) (by decide)) hK
 ·exact add_when rb x ps A cap ob W hR hO hv hle hF (hn (by decide) (by decide))
 ·exact add_opt rb x ps A cap ob W hR hO hv hle hF (hn (by decide) (by decide))
 ·exact add_bar rb x ps A cap ob W hR hO hv hle hF
 ·exact add_bwhen rb x ps A cap ob W hR hO hv hle hF (hb rfl)
 ·exact add_feat rb x ps A cap ob W hR hO hv ⟨hle,by have:=hfew (by decide);omega⟩ hcap hF
def layC:Array Value:=(lays.flatMap λl=>(laV l).cells.toList).toArray
structure LyAt (W:World):Prop where
 lt:0<W.heap.size
 held:∃ T,W.heap[(0:Nat)]?=some (.cells layC T)
theorem LyAt.on {W w:World}(h:LyAt W)(hb:YB W w):LyAt w:=
 ⟨Nat.lt_of_lt_of_le h.lt hb.size,by obtain ⟨T,q⟩:=h.held;exact ⟨T,by rw [hb.block _ h.lt];exact q⟩⟩
theorem LyAt.all {W:World}(h:LyAt W):(loadVar 121 ⟨0,0,none⟩).run YP W= .ok (.agg layC) W:=by
 obtain ⟨T,q⟩:=h.held
 exact yU Kr q
theorem lay_part:∀ (k:Nat) (l:La),lays[k]?=some l→∀ w,(part 120 layC (k*7)).run YP w= .ok (laV l) w
 |0,_,h,w=>by cases h;kernel_rfl
 |1,_,h,w=>by cases h;kernel_rfl
 |2,_,h,w=>by cases h;kernel_rfl
 |3,_,h,w=>by cases h;kernel_rfl
 |4,_,h,w=>by cases h;kernel_rfl
 |5,_,h,w=>by cases h;kernel_rfl
 |6,_,h,w=>by cases h;kernel_rfl
 |7,_,h,w=>by cases h;kernel_rfl
 |k+8,_,h,w=>by cases h
theorem run_idxS {P:Program}{ρ:Operand->Value}{o:Oper}{t e:TypeId}{x y:Operand}{n k sz:Nat}{vals:Array Value}{v:Value}(hk:k<n)(ho:o.op= .index t x y)(hx:ρ x= .agg vals)(hy:ρ y=YI (k:Int))
  (hu:P.underlying t=some (.array n e)) (hp:∀ w,(part e vals (k*sz)).run P w= .ok v w) (hs:(P.info? e).map (·.size)=some sz) (w:World):(execOp ρ o).run P w= .ok (.value v) w:=by
 cases he:P.info? e with
 |none=>rw [he] at hs;cases hs
 |some i=>
  rw [he] at hs
  have hs1:i.size=sz:=Option.some.inj hs
  unfold execOp
  have hkn:¬ n<=k:=by omega
  simp [ho,hx,hy,Instr.index,Sem.run_bind,asIntOf,run_underlying hu,sizeOf,typeInfo,he,hs1,hp,hk,hkn]
theorem slT_out {M:List Nat}{W w:World}{R ob op:List Blk}{A:Option Addr}{n cap:Nat}{l:List YL}(hO:Own M W w (R++ob))(h:SlT (.slice A n cap) l op)(hn:l.length=n)(hs:∀ b∈op,b∈R):ReadsA (ob.map Blk.b) yY w A l:=λh0=>by
 subst hn
 obtain ⟨g,cur,e1,e2,_⟩:=Sl.block h h0
 obtain ⟨b,off,e3,hlt,hc⟩:=SlT.reads h rfl hO (λx hx=>List.mem_append_left _ (hs x hx)) h0
 refine ⟨b,off,e3,hlt,λhb=> ?_,hc⟩
 rw [e1] at e3
 injection e3 with e3
 injection e3 with e4 _
 have ha:=hO.apart
 rw [List.map_append,List.nodup_append] at ha
 refine ha.2.2 b ?_ b hb rfl
 rw [←e4]
 exact List.mem_map.2 ⟨⟨g,cur,9⟩,hs _ (by rw [e2];exact List.mem_singleton.2 rfl),rfl⟩
end
section
set_option linter.unnecessarySimpa false
section
variable {M:List Nat}{P:Program}{n:Nat}{W:World}{Q:Exit->Act->World->Prop}{c:Xc}
theorem x_idxS (d:Nat)(h:List Nat)(k N sz:Nat)(v:Value)(vals:Array Value)(e:TypeId)(hN:k<N)(hp:∀ w,(part e vals (k*sz)).run P w= .ok v w)(hg:zF M P n W Q ((xgo P n (d+50000) h c).put v))
  (hkt:(xgl P n (d+50000) h c,xW n (xgo P n (d+50000) h c),(xO (xgo P n (d+50000) h c)).op,ev n (xgo P n (d+50000) h c).f (oX (xO (xgo P n (d+50000) h c))),ev n (xgo P n (d+50000) h c).f (oY (xO (xgo P n (d+50000) h c))),P.underlying (oT (xO (xgo P n (d+50000) h c))),(P.info? e).map (·.size))
   =(xgr P n (d+50000) h c,true,.index (oT (xO (xgo P n (d+50000) h c))) (oX (xO (xgo P n (d+50000) h c))) (oY (xO (xgo P n (d+50000) h c))),.agg vals,YI (k:Int),some (.array N e),some sz):=by kernel_rfl):zF M P n W Q c:=by
 simp only [Prod.mk.injEq] at hkt
 obtain ⟨hk,e1,e2,e3,e4,e5,e6⟩:=hkt
 exact zL h c hk (kH e1 (run_idxS hN e2 e3 e4 e5 hp e6) hg)
end
structure TakeB (rb k:Nat)(x:Rv)(s:YL)(ob:List Blk)(W:World)(e:Ending)(w':World):Prop where
 ex:∃ b x' k' ob',e= .returned (.bool b)/\RdR rb k' x' ob'/\Own (ob.map Blk.b) W w' ob'/\(match kK x.rt k s lays with|some (y,kk)=>b=true/\x'.rt=y/\k'=kk|none=>b=false)
theorem lays_at {i:Nat}(h:i<8):∃ l,lays[i]?=some l/\lays.drop i=l::lays.drop (i+1)/\l∈lays:=by
 have h':i<lays.length:=h
 exact ⟨lays[i],List.getElem?_eq_getElem h',List.drop_eq_getElem_cons h',List.getElem_mem h'⟩
theorem lays_fits:∀ l∈lays,(3<=l.kind->l.kind<=5->2<=l.lo/\l.hi<=5)/\(l.kind=7->6<=l.lo/\l.hi<=7)/\1<=l.parts/\l.parts<=1000:=by decide
theorem qTake_any (rb k:Nat)(x:Rv)(s:YL)(ob:List Blk)(W:World)(hR:RdR rb k x ob)(hO:Own (ob.map Blk.b) W W ob)(hs:s.length<=90000)(hF:Few x)(hI:InvA x.rt k)(hK:∀ w,Own (ob.map Blk.b) W w []->HasLib w/\LyAt w):YC 32 #[.pointer (some ⟨rb,0,none⟩),.string (mkS s)] W (TakeB rb k x s ob W):=by
 obtain ⟨o1,oa,og,oi,o4,o7,o8,hob,hQ⟩:=hR
 obtain ⟨T,hT⟩:∃ T,o1++zZ oa og oi o4 o7 o8=T:=⟨_,rfl⟩
 rw [hT] at hob
 subst hob
 have hRd:∀ j,RdR rb j x (rdB x j rb::T):=λj=>⟨o1,oa,og,oi,o4,o7,o8,by rw [hT],hQ⟩
 obtain ⟨M,hM⟩:∃ M,(rdB x k rb::T).map Blk.b=M:=⟨_,rfl⟩
 have hMj:∀ j,(rdB x j rb::T).map Blk.b=M:=λj=>hM
 rw [hM] at hO hK
 refine zN hO Tryz.func32 (zH 9 [] 121 0 0 (.agg layC) (λw hO=>(hK w hO.no).2.all) ?_)
 refine zM (α:=Nat) (λi=>[(0,Zp rb 0),(1,.string (mkS s)),(9,.agg layC),(10,YI (i:Int))]) (λ_=>rdB x k rb::T) (λi m=>(i<=8/\kK x.rt k s lays=kK x.rt k s (lays.drop i))/\m=8-i) 0 8 [] ⟨⟨Nat.zero_le _,rfl⟩,rfl⟩ ?_
 rintro i mm g kk ⟨⟨hi,hE⟩,hmm⟩ nx hkk
 subst hkk
 refine zB 11 [] ((i:Int)<8) (λh11=> ?_) (λh11=> ?_)
 rotate_left
 ·refine z7 [] Z5 λw hO=>⟨false,x,k,rdB x k rb::T,rfl,hRd k,by rw [hM];exact hO.past 0 _, ?_⟩
  rw [hE,List.drop_eq_nil_of_le (by show 8<=i;omega)];rfl
 obtain ⟨l,hl,hd,hlm⟩:=lays_at (show i<8 by omega)
 obtain ⟨hf1,hf2,hp⟩:=lays_fits l hlm
 rw [hd] at hE
 refine x_idxS 12 [] i 8 7 (laV l) layC 120 (by omega) (lay_part i l hl) (zJ [] λb6=>zB 19 [0,1,0] ((k:Int)<(l.lo:Int)) (λh19=> ?_) (λh19=>zB 27 [1,0] ((k:Int)>(l.hi:Int)) (λh27=> ?_) (λh27=> ?_)))
 ·refine x_i 10 [] ((i+1:Nat):Int) (y8 [] (rdB x k rb::T) (λw hO=>hO.past 1 _) (nx (i+1) (8-(i+1)) [] Om ⟨⟨by omega, ?_⟩,rfl⟩ Kr Kr))
  rw [hE,kK,if_neg (λq=>by have:=q.1;omega)]
 ·refine x_i 10 [] ((i+1:Nat):Int) (y8 [] (rdB x k rb::T) (λw hO=>hO.past 1 _) (nx (i+1) (8-(i+1)) [] Om ⟨⟨by omega, ?_⟩,rfl⟩ Kr Kr))
  rw [hE,kK,if_neg (λq=>by have:=q.2.1;omega)]
 have hcut:∀ w,YC 61 #[laV l,.string (mkS s)] w λe w'=>∃ v ob',e= .returned v/\(∃ A cap,v= .tuple #[.slice A (xR l s).length cap,.bool (fI l s)]/\SlT (.slice A (xR l s).length cap) (xR l s) ob'/\(xR l s).length<=cap)/\Own [] w w' ob':=λw=>by
  refine (qCut_any l s w Om hp).mono λe w' ⟨v',ob',k1,k2,k3⟩=> ?_
  obtain ⟨A,cap,rfl⟩:=k2.form
  refine ⟨_,ob',k1,⟨A,cap,rfl,k2, ?_⟩,k3⟩
  rcases k2.2 with ⟨_,q,_⟩|⟨g,cap',cur,e1,e2,e3,_⟩
  ·omega
  ·cases e1;exact e3
 refine k8 (R:=λv ob=>∃ A cap,v= .tuple #[.slice A (xR l s).length cap,.bool (fI l s)]/\SlT (.slice A (xR l s).length cap) (xR l s) ob/\(xR l s).length<=cap) [0] (λw hO=>hcut w) ?_
 rintro v obp ⟨A,cap,rfl,hSl,hcap⟩
 refine x_bb 35 [] (fI l s) (λh35=> ?_) (λh35=> ?_)
 rotate_left
 ·refine x_i 10 [] ((i+1:Nat):Int) (y8 [] (rdB x k rb::T) (λw hO=>kE (laB l b6::obp) (hO.past 0 (laB l b6::rdB x k rb::(T++obp))) λp=>by
   simp only [List.countP_append,List.countP_cons,List.countP_nil,List.cons_append,List.nil_append];omega) (nx (i+1) (8-(i+1)) [] Om ⟨⟨by omega, ?_⟩,rfl⟩ Kr Kr))
  rw [hE,kK,if_neg (λq=>by rw [h35] at q;exact Bool.false_ne_true q.2.2)]
 have hfit:l.lo<=k/\k<=l.hi/\fI l s=true:=⟨by omega,by omega,h35⟩
 refine yN (k:=62) (args:= #[Zp rb 0,.slice A (xR l s).length cap]) (Rr:=λv ob'=>∃ x',v= .bool (nM x.rt l.kind (xR l s)).2/\x'.rt=(nM x.rt l.kind (xR l s)).1/\RdR rb l.kind x' ob') [0,1] (laB l b6::rdB x l.kind rb::(T++obp)) (laB l b6::obp) (rdB x l.kind rb::T) (λw hO=>kE [] hO λp=>by
   simp only [List.countP_append,List.countP_cons,List.countP_nil,List.cons_append,List.nil_append];omega) (λw hO=> ?_) λv ob' ⟨x',k1,k2,k3⟩=> ?_
 ·refine (qAdd_any l hlm s h35 hs rb x A cap (rdB x l.kind rb::T) w (hRd l.kind) (Own.lentR hO) (slT_out hO hSl rfl λb hb=>List.mem_cons_of_mem _ hb) hcap hF (λq1 q2=> ?_) (λq=> ?_) (λw' hw'=>(hK w' (hO.no.and ((hMj l.kind)▸hw'))).1)).mono λe w' ⟨x',ob',q1,q2,q3,q4⟩=>⟨_,ob',q1,⟨x',rfl,q2,q3⟩,q4⟩
  ·have:=hf1 q1 q2
   exact λe=>hI.n Om Om (by show x.needs.map Nv.nt=[];rw [e];rfl)
  ·have:=hf2 q
   exact λe=>hI.b Om Om (by show x.bars.map Bv.bt=[];rw [e];rfl)
 subst k1
 refine z7 [] (.bool (nM x.rt l.kind (xR l s)).2) λw hO=>⟨_,x',l.kind,ob',rfl,k3, ?_, ?_⟩
 ·rw [hM];exact (hO.past 0 ((laB l b6::obp)++ob')).sublist (List.sublist_append_right _ _)
 ·rw [hE,kK,if_pos hfit]
  cases h:(nM x.rt l.kind (xR l s)).2 with
  |true=>rw [if_pos rfl];exact ⟨rfl,k2,rfl⟩
  |false=>rw [if_neg Bool.false_ne_true]
end
section
def noDef (o:Oper):Bool:=match o.op with
 | .defer _=>false
 |_=>true
theorem noDef_is {o:Oper}(h:noDef o=true):∀ c,o.op≠ .defer c:=λc e=>by
 unfold noDef at h;rw [e] at h;cases h
section
variable {M:List Nat}{P:Program}{n:Nat}{W:World}{Q:Exit->Act->World->Prop}{c:Xc}
theorem list_round {l m:Nat}{ops:Array Oper}(hout:¬ LetsOut Q):∀ (rest:List Oper),(rest.all noDef=true)→∀ a w,wpList P ops Q rest a w->wpListIn (Fence.wide.inRound l) m P ops Q rest a w
 | [],_,a,w,h=>h
 |o::rest,hn,a,w,h=>by
  rw [List.all_cons,Bool.and_eq_true] at hn
  have ih:=list_round (l:=l) (m:=m) (ops:=ops) hout rest hn.2
  unfold wpList at h
  unfold wpListIn
  split at h
  ·rename_i hw
   rw [if_pos hw]
   rcases h with h|⟨_,h⟩
   ·refine ⟨λ_ _=>trivial, ?_⟩
    rw [Oper.semAt_eq _ _ _ (noDef_is hn.1)]
    unfold Oper.wp at h
    generalize (execOp a.eval o).run P w=r at h ⊢
    unfold Oper.upon at h
    split at h
    ·exact ih _ _ h
    ·exact ih _ _ h
    ·exact ih _ _ h
    ·refine ⟨λq=>(by cases q),CallsIn.inRound l (callsIn_wide.2 (h.mono λe w' k=> ?_))⟩
     cases e with
     |returned v=>exact ih _ _ k
     |panicked ch=>exact k
     |outgrown=>exact k
    ·refine ⟨λq=>(by cases q),λcc cs _=> ?_⟩
     obtain ⟨v,w',r1,r2⟩:=h cc cs
     exact ⟨v,w',ih _ _ r1,stepsIn_wide.2 r2⟩
    ·exact h
    ·exact h.elim
   ·exact absurd h hout
  ·rename_i hw
   rw [if_neg hw]
   exact ⟨λ_ _=>trivial,ih _ _ h⟩
theorem bW {l m id:Nat}{ops:Array Oper}{L:List Blk}{f:Nat->Value}(hq:PQ Q)(hout:¬ LetsOut Q)(hn:ops.toList.all noDef=true)(hg:zF M P n W Q ⟨.ops ops ops.toList,[],L,f⟩):∀ w,Own M W w L->(Code.region id ops false).wpIn (Fence.wide.inRound l) m P Q (Fr n f) w:=λw hO=>
 wpIn_region_list (list_round hout _ hn _ _ ((hg.go hq).go w hO))
theorem x_fin (h:List Nat)(lv:List (Nat×Value))(hR:∀ w g,Own M W w (xgo P n nS h c).L->Q .normal (Fr n (wV g lv)) w)
  (hkt:(xgl P n nS h c,(xgo P n nS h c).top,(xgo P n nS h c).k,xV (xgo P n nS h c).f lv)=(xgr P n nS h c,.fin .normal,[],lv.map Prod.snd):=by kernel_rfl):zF M P n W Q c:=by
 simp only [Prod.mk.injEq] at hkt
 obtain ⟨hk,e1,e2,e3⟩:=hkt
 refine zL h c hk ?_
 generalize xgo P n nS h c=d at*
 obtain ⟨top,kk,L,f⟩:=d
 dsimp only at e1 e2 e3 hR
 subst e1;subst e2
 exact ⟨λ_=>⟨λw hO=>by have:=hR w f hO;rw [←qE _ (gL e3)] at this;exact this⟩⟩
def xRg (c:Xc):Nat:=match c.top with
 | .code (.region id _ _)=>id
 |_=>0
def yo (c:Xc)(i:Nat):Oper:=match c.top with
 | .code (.region _ a _)=>a.getD i default
 |_=>default
def yF (d:Xc)(v0 v1:Value):Nat->Value:=upd (upd d.f (yo d 0).dst v0) (yo d 1).dst v1
def yF3 (d:Xc)(v0 v1:Value)(b:Bool):Nat->Value:=upd (upd (yF d v0 v1) (yo d 2).dst (.bool b)) (yo d 3).dst (.bool (!b))
def yA (d:Xc):Array Oper:= #[yo d 0,yo d 1,yo d 2,yo d 3]
theorem ok_yield {id l:Nat}{o0 o1 o2 o3:Oper}{L:List Blk}{f:Nat->Value}{s v0 v1:Value}
  (w0:zU #[o0,o1,o2,o3] n f o0=true) (w1:zU #[o0,o1,o2,o3] n (upd f o0.dst v0) o1=true) (w2:zU #[o0,o1,o2,o3] n (upd (upd f o0.dst v0) o1.dst v1) o2=true) (w3:∀ b,zU #[o0,o1,o2,o3] n (upd (upd (upd f o0.dst v0) o1.dst v1) o2.dst (.bool b)) o3=true)
  (q0:∀ w,(execOp (ev n f) o0).run P w= .ok (.value v0) w) (q1:∀ w,(execOp (ev n (upd f o0.dst v0)) o1).run P w= .ok (.value v1) w) (q2:∀ w,(execOp (ev n (upd (upd f o0.dst v0) o1.dst v1)) o2).run P w=(Instr.yield l #[s]).run P w)
  (q3:∀ b w,(execOp (ev n (upd (upd (upd f o0.dst v0) o1.dst v1) o2.dst (.bool b))) o3).run P w= .ok (.value (.bool (!b))) w)
  (hs:∀ w,Own M W w L->YieldAt Fence.wide 1 P l #[s] w λe w'=>∃ b,e= .returned (.bool b)/\Q .normal (Fr n (upd (upd (upd (upd f o0.dst v0) o1.dst v1) o2.dst (.bool b)) o3.dst (.bool (!b)))) w'):Ok M P n W Q (.region id #[o0,o1,o2,o3] false) L f:=by
 refine ⟨λw hO=>(wpIn_wide (n:=2)).1 (wpIn_region_list ?_)⟩
 obtain ⟨fn,tmps,assign,body,hy,hR⟩:=hs w hO
 show wpListIn Fence.wide 2 P #[o0,o1,o2,o3] Q [o0,o1,o2,o3] (Fr n f) w
 unfold wpListIn
 rw [qZ,if_pos w0]
 refine ⟨λ_ _=>trivial, ?_⟩
 rw [show Fence.wide.round=none from rfl,Oper.semAt_none,kU,q0,Oper.uponIn_value,vW]
 unfold wpListIn
 rw [qZ,if_pos w1]
 refine ⟨λ_ _=>trivial, ?_⟩
 rw [show Fence.wide.round=none from rfl,Oper.semAt_none,kU,q1,Oper.uponIn_value,vW]
 unfold wpListIn
 rw [qZ,if_pos w2]
 refine ⟨λ_ _=>trivial, ?_⟩
 rw [show Fence.wide.round=none from rfl,Oper.semAt_none,kU,q2,hy,Oper.uponIn_round]
 refine ⟨λq=>(by cases q),hR.mono λe w' ⟨b,k1,k3⟩=> ?_⟩
 subst k1
 dsimp only
 rw [vW]
 unfold wpListIn
 rw [qZ,if_pos (w3 b)]
 refine ⟨λ_ _=>trivial, ?_⟩
 rw [show Fence.wide.round=none from rfl,Oper.semAt_none,kU,q3,Oper.uponIn_value,vW]
 exact k3
theorem yield_good {d:Xc}(l:Nat)(s v0 v1:Value)
  (hs:∀ w,Own M W w d.L->YieldAt Fence.wide 1 P l #[s] w λe w'=>∃ b M' L',e= .returned (.bool b)/\Own M' w' w' L'/\zF M' P n w' Q ⟨.fin .normal,d.k,L',yF3 d v0 v1 b⟩)
  (e1:d.top= .code (.region (xRg d) (yA d) false)) (e2:xNl d.k=true)
  (hw:(zU (yA d) n d.f (yo d 0),zU (yA d) n (upd d.f (yo d 0).dst v0) (yo d 1),zU (yA d) n (yF d v0 v1) (yo d 2),λb=>zU (yA d) n (upd (yF d v0 v1) (yo d 2).dst (.bool b)) (yo d 3))=(true,true,true,λ_=>true))
  (h0:(λw=>(execOp (ev n d.f) (yo d 0)).run P w)=λw=> .ok (.value v0) w)
  (h1:(λw=>(execOp (ev n (upd d.f (yo d 0).dst v0)) (yo d 1)).run P w)=λw=> .ok (.value v1) w)
  (h2:(λw=>(execOp (ev n (yF d v0 v1)) (yo d 2)).run P w)=λw=>(Instr.yield l #[s]).run P w)
  (h3:(λb w=>(execOp (ev n (upd (yF d v0 v1) (yo d 2).dst (.bool b))) (yo d 3)).run P w)=λb w=> .ok (.value (.bool (!b))) w):zF M P n W Q d:=by
 have:d=⟨.code (.region (xRg d) (yA d) false),d.k,d.L,d.f⟩:=by rw [←e1]
 obtain ⟨w0,hw2⟩:=Prod.mk.inj hw
 obtain ⟨w1,hw3⟩:=Prod.mk.inj hw2
 obtain ⟨w2,w3⟩:=Prod.mk.inj hw3
 have key:PQ Q->Ok M P n W (KQ M P n W Q d.k) (.region (xRg d) (yA d) false) d.L d.f:=λhq=>ok_yield (l:=l) (s:=s) (v0:=v0) (v1:=v1) w0 w1 w2 (λb=>congrFun w3 b) (λw=>congrFun h0 w) (λw=>congrFun h1 w) (λw=>congrFun h2 w) (λb w=>congrFun (congrFun h3 b) w) λw hO=>by
  obtain ⟨fn,tmps,assign,body,hy,hR⟩:=hs w hO
  refine ⟨fn,tmps,assign,body,hy,hR.mono λe w' ⟨b,M',L',k1,k2,k3⟩=>⟨b,k1, ?_⟩⟩
  have:=(k3.go hq).go w' k2
  rw [fV (M:=M) (W:=W) (M':=M') (W':=w') e2];exact this
 generalize xRg d=i at*
 generalize yA d=a at*
 rw [this]
 exact ⟨key⟩
theorem x_yield (fu:Fuel1)(h:List Nat)(l:Nat)(s v0 v1:Value)
  (hs:∀ w,Own M W w (x9 P n nS fu h c).L->YieldAt Fence.wide 1 P l #[s] w λe w'=>∃ b M' L',e= .returned (.bool b)/\Own M' w' w' L'/\zF M' P n w' Q ⟨.fin .normal,(x9 P n nS fu h c).k,L',yF3 (x9 P n nS fu h c) v0 v1 b⟩)
  (hkt:(xl P n nS fu h c,(x9 P n nS fu h c).top,xNl (x9 P n nS fu h c).k)=(xr P n nS (fuel12 fu) h c,.code (.region (xRg (x9 P n nS fu h c)) (yA (x9 P n nS fu h c)) false),true):=by kernel_rfl)
  (hw:(zU (yA (x9 P n nS fu h c)) n (x9 P n nS fu h c).f (yo (x9 P n nS fu h c) 0),zU (yA (x9 P n nS fu h c)) n (upd (x9 P n nS fu h c).f (yo (x9 P n nS fu h c) 0).dst v0) (yo (x9 P n nS fu h c) 1),zU (yA (x9 P n nS fu h c)) n (yF (x9 P n nS fu h c) v0 v1) (yo (x9 P n nS fu h c) 2),λb=>zU (yA (x9 P n nS fu h c)) n (upd (yF (x9 P n nS fu h c) v0 v1) (yo (x9 P n nS fu h c) 2).dst (.bool b)) (yo (x9 P n nS fu h c) 3))=(true,true,true,λ_=>true):=by kernel_rfl)
  (h0:(λw=>(execOp (ev n (x9 P n nS fu h c).f) (yo (x9 P n nS fu h c) 0)).run P w)=λw=> .ok (.value v0) w:=by kernel_rfl)
  (h1:(λw=>(execOp (ev n (upd (x9 P n nS fu h c).f (yo (x9 P n nS fu h c) 0).dst v0)) (yo (x9 P n nS fu h c) 1)).run P w)=λw=> .ok (.value v1) w:=by kernel_rfl)
  (h2:(λw=>(execOp (ev n (yF (x9 P n nS fu h c) v0 v1)) (yo (x9 P n nS fu h c) 2)).run P w)=λw=>(Instr.yield l #[s]).run P w:=by kernel_rfl)
  (h3:(λb w=>(execOp (ev n (upd (yF (x9 P n nS fu h c) v0 v1) (yo (x9 P n nS fu h c) 2).dst (.bool b))) (yo (x9 P n nS fu h c) 3)).run P w)=λb w=> .ok (.value (.bool (!b))) w:=by kernel_rfl):zF M P n W Q c:=by
 obtain ⟨hk,hkt2⟩:=Prod.mk.inj hkt
 obtain ⟨e1,e2⟩:=Prod.mk.inj hkt2
 refine xrun_ok fu h c hk ?_
 clear hk hkt hkt2
 generalize x9 P n nS fu h c=d at*
 exact yield_good l s v0 v1 hs e1 e2 hw h0 h1 h2 h3
end
end
section
def lnH (r:YL):YL:=if (zA 10 r).2.2 then (zA 10 r).1++[10] else r
def lnR (r:YL):YL:=if (zA 10 r).2.2 then (zA 10 r).2.1 else []
theorem ix_cut (c:UInt8):∀ r:YL,((zA c r).2.2=true/\Lib.indexByte r c=((zA c r).1.length:Int)/\r.take ((zA c r).1.length+1)=(zA c r).1++[c]/\r.drop ((zA c r).1.length+1)=(zA c r).2.1/\(zA c r).1.length<r.length)\/((zA c r).2.2=false/\Lib.indexByte r c= -1)
 | []=> .inr ⟨rfl,rfl⟩
 |b::r=>by
  unfold zA Lib.indexByte
  by_cases h:b=c
  ·subst h
   left
   simp
  ·have hb:(b==c)=false:=by simpa using h
   rw [if_neg h,hb,if_neg Bool.false_ne_true]
   rcases ix_cut c r with ⟨h1,h2,h3,h4,h5⟩|⟨h1,h2⟩
   ·left
    rw [h2]
    have hn:(((zA c r).1.length:Int)== -1)=false:=by simp
    rw [hn,if_neg Bool.false_ne_true]
    refine ⟨h1,by simp, ?_, ?_,by simpa using h5⟩
    ·simp only [List.length_cons,List.take_succ_cons,h3,List.cons_append]
    ·simp only [List.length_cons,List.drop_succ_cons,h4]
   ·right
    rw [h2]
    exact ⟨h1,by simp⟩
theorem lnR_len {r:YL}(h:r≠[]):(lnR r).length<r.length:=by
 unfold lnR
 rcases ix_cut 10 r with ⟨h1,_,_,h4,h5⟩|⟨h1,_⟩
 ·rw [if_pos h1,←h4,List.length_drop];omega
 ·rw [h1,if_neg Bool.false_ne_true];exact List.length_pos_iff.2 h
section
variable {M:List Nat}{P:Program}{n:Nat}{W:World}{Q:Exit->Act->World->Prop}{c:Xc}
theorem xh_shi (t:Nat)(h:List Nat)(i:Nat)(s:YL)(j:Int)(h0:0<=j)(h1:j<=s.length)(v:Value)(hv: .string (mkS (s.take j.toNat))=v)(hg:zF M P n W Q (xHn (xgo P n t h c) i v))
  (hkt:(xgl P n t h c,tN n i (xgo P n t h c),(shQ (xOi i (xgo P n t h c))).2.2.2,ev n (xgo P n t h c).f (shQ (xOi i (xgo P n t h c))).2.1,ev n (xgo P n t h c).f (shQ (xOi i (xgo P n t h c))).2.2.1,P.underlying (shQ (xOi i (xgo P n t h c))).1)
   =(xgr P n t h c,fR i (xgo P n t h c),true,.string (mkS s),YI j,some .string):=by kernel_rfl):zF M P n W Q c:=by
 simp only [Prod.mk.injEq] at hkt
 obtain ⟨hk,e1,e2,e3,e4,e5⟩:=hkt
 exact zL h c hk (xtake (λw _=>by rw [run_strhi (shQ_op e2) e3 e4 e5 h0 h1 w,hv]) hg e1)
theorem xh_slo (t:Nat)(h:List Nat)(i:Nat)(s:YL)(j:Int)(h0:0<=j)(h1:j<=s.length)(v:Value)(hv: .string (mkS (s.drop j.toNat))=v)(hg:zF M P n W Q (xHn (xgo P n t h c) i v))
  (hkt:(xgl P n t h c,tN n i (xgo P n t h c),(slQ (xOi i (xgo P n t h c))).2.2.2,ev n (xgo P n t h c).f (slQ (xOi i (xgo P n t h c))).2.1,ev n (xgo P n t h c).f (slQ (xOi i (xgo P n t h c))).2.2.1,P.underlying (slQ (xOi i (xgo P n t h c))).1)
   =(xgr P n t h c,fR i (xgo P n t h c),true,.string (mkS s),YI j,some .string):=by kernel_rfl):zF M P n W Q c:=by
 simp only [Prod.mk.injEq] at hkt
 obtain ⟨hk,e1,e2,e3,e4,e5⟩:=hkt
 exact zL h c hk (xtake (λw _=>by rw [run_strlo (slQ_op e2) e3 e4 e5 h0 h1 w,hv]) hg e1)
end
def yW (B:Nat)(r:YL):Blk:=⟨B, #[.string (mkS r)],9⟩
theorem ixb_any (r:YL)(w:World):YC 97 #[.string (mkS r),.int .u8 10] w (YR (YI (Lib.indexByte r 10)) w):=
 (Tryz.strings_IndexByte _ _ w).mono λe w' ⟨h1,h2⟩=>⟨by rw [h1];rfl,h2▸Below.refl _ _⟩
theorem lines_any (l B:Nat)(J:YL->World->Prop)(K:YL->YL->World->Prop)(Jx:World->Prop)
  (hJ:∀ r w,J r w->Own [B] w w [yW B r])
  (hS:∀ r w w',J r w->Own [B] w w' [yW B r]->J r w')
  (hT:∀ r w w',J r w->r≠[]->Own [B] w w' [yW B (lnR r)]->K (lnH r) (lnR r) w')
  (hX:∀ w w',Jx w->YB w w'->Jx w')
  (hY:∀ p r w,K p r w->YieldAt Fence.wide 1 YP l #[.string (mkS p)] w λe w'=>(e= .returned (.bool true)/\J r w')\/(e= .returned (.bool false)/\Jx w'))
  (s:YL) (W:World) (h0:J s W) (hs:s.length<=1048576):YC 96 #[.func (.yield l) #[] #[],.pointer (some ⟨B,0,none⟩)] W λe w'=>e= .returned (.tuple #[])/\(J [] w'\/Jx w'):=by
 refine zN (hJ s W h0) Tryz.func96 (x_loopW (α:=YL) (λ_=>[(0,.func (.yield l) #[] #[]),(1,Zp B 0)]) (λ_=>[B]) (λr=>[yW B r]) (λr w m=>J r w/\r.length<=1048576/\m=r.length) s s.length [] (λw hO=>⟨⟨hS s W w h0 hO,hs,rfl⟩,(hJ s w (hS s W w h0 hO))⟩) ?_)
 rintro r w mm g ⟨hj,hr,rfl⟩ hO
 refine zB 7 [0] ((r.length:Int)>0) (λh7=> ?_) (λh7=> ?_)
 rotate_left
 ·have hnil:r=[]:=List.eq_nil_of_length_eq_zero Om
  subst hnil
  refine x_outW (.exit 0) [] (kC [] λw3 hO3=>⟨rfl,.inl (hS [] w w3 hj (hO3.past 0 [yW B []]))⟩) rfl
 have hne:r≠[]:=λe=>by rw [e] at h7;exact absurd h7 (by decide)
 have hround:∀ w',Own [B] w w' [yW B (lnR r)]->YieldAt Fence.wide 1 YP l #[.string (mkS (lnH r))] w' λe w2=>(e= .returned (.bool true)/\J (lnR r) w2)\/(e= .returned (.bool false)/\Jx w2):=λw' hO'=>hY _ _ _ (hT r w w' hj hne hO')
 obtain ⟨z,hz⟩:∃ z,Lib.indexByte r 10=z:=⟨_,rfl⟩
 have hix:∀ w,YC 97 #[.string (mkS r),.int .u8 10] w (YR (YI z) w):=λw=>hz▸ixb_any r w
 have hcut:(0<=z/\z<r.length/\r.take (z+1).toNat=lnH r/\r.drop (z+1).toNat=lnR r)\/(z= -1/\lnH r=r/\lnR r=[]):=by
  unfold lnH lnR
  rcases ix_cut 10 r with ⟨c1,c2,c3,c4,c5⟩|⟨c1,c2⟩
  ·left
   rw [hz] at c2
   subst c2
   rw [c1,if_pos rfl,if_pos rfl]
   exact ⟨by omega,by omega,c3,c4⟩
  ·right
   rw [c1]
   exact ⟨hz.symm.trans c2,rfl,rfl⟩
 have hlen:=lnR_len hne
 refine z8 (v:=YI z) [0] (λw hO=>hix w) (zB 11 [] (z>=0) (λh11=> ?_) (λh11=> ?_))
 ·rcases hcut with ⟨q1,q2,q3,q4⟩|⟨q1,_⟩
  rotate_left
  ·exact absurd h11 Om
  refine qJ 9 [] [yW B r] (λw hO=>Own.nth 0 (yW B r) hO) (x_i 14 [0] (z+1) (xh_shi 50015 [] 3 r (z+1) Om Om (.string (mkS (lnH r))) (by rw [q3]) (x_i 18 [0] (z+1) (xh_slo 50019 [] 7 r (z+1) Om Om (.string (mkS (lnR r))) (by rw [q4]) ?_))))
  refine x_yield (.s (.s (.s (.s (.s (.s (.s .z))))))) [0] l (.string (mkS (lnH r))) (.func (.yield l) #[] #[]) (.string (mkS (lnH r))) λw' hO'=> ?_
  obtain ⟨fn,tmps,assign,body,hy,hR⟩:=hround w' (hO'.past 0 [yW B (lnR r)])
  refine ⟨fn,tmps,assign,body,hy,hR.mono λe w2 h=> ?_⟩
  rcases h with ⟨rfl,hJ2⟩|⟨rfl,hx2⟩
  ·exact ⟨true,[B],[yW B (lnR r)],rfl,hJ _ _ hJ2,x_nxW (lnR r) (lnR r).length [] hlen λw3 hO3=>⟨⟨hS _ w2 w3 hJ2 (hO3.past 0 [yW B (lnR r)]),by omega,rfl⟩,hJ _ _ (hS _ w2 w3 hJ2 (hO3.past 0 [yW B (lnR r)]))⟩⟩
  ·exact ⟨false,[],[],rfl,Own.start [] w2,x_outW .ret [] (x_ret0 [] λw3 hO3=>⟨rfl,.inr (hX w2 w3 hx2 (hO3.past 0 []).below)⟩) rfl⟩
 ·rcases hcut with ⟨q1,_⟩|⟨q1,q2,q3⟩
  ·exact absurd h11 Om
  rw [q2,q3] at hround
  rw [q3] at hlen
  refine x_yield (.s (.s (.s (.s (.s (.s (.s (.s (.s (.s .z)))))))))) [0,0] l (.string (mkS r)) (.func (.yield l) #[] #[]) (.string (mkS r)) λw' hO'=> ?_
  obtain ⟨fn,tmps,assign,body,hy,hR⟩:=hround w' (hO'.past 0 [yW B []])
  refine ⟨fn,tmps,assign,body,hy,hR.mono λe w2 h=> ?_⟩
  rcases h with ⟨rfl,hJ2⟩|⟨rfl,hx2⟩
  ·exact ⟨true,[B],[yW B []],rfl,hJ _ _ hJ2,x_nxW [] 0 [] hlen λw3 hO3=>⟨⟨hS _ w2 w3 hJ2 (hO3.past 0 [yW B []]),by simp,rfl⟩,hJ _ _ (hS _ w2 w3 hJ2 (hO3.past 0 [yW B []]))⟩⟩
  ·exact ⟨false,[],[],rfl,Own.start [] w2,x_outW .ret [] (x_ret0 [] λw3 hO3=>⟨rfl,.inr (hX w2 w3 hx2 (hO3.past 0 []).below)⟩) rfl⟩
end
section
theorem Own.turn {M:List Nat}{W w:World}{L:List Blk}(h:Own M W w L){l:Nat}{o:Obj}(hl:W.heap.size<=l)(ho:w.heap[l]?=some o)(hc:o.isCells=false)(o':Obj):Own M W (w.putObj l o') L:=by
 refine ⟨h.os,h.tape,h.output,by rw [World.putObj_size];exact h.size,h.drawn,λk hk hm=>(World.putObj_heap_other Om).trans (h.kept k hk hm),λx hx=> ?_,h.base,h.apart⟩
 have hx':=h.held x hx
 refine (World.putObj_heap_other λe=> ?_).trans hx'
 rw [e,ho] at hx'
 cases hx';cases hc
theorem Own.lay {M:List Nat}{W w:World}{L:List Blk}(h:Own M W w L)(o:Obj):Own M W (w.alloc o) L:=h.on ((Below.refl _ w).alloc (Nat.le_refl _) o)
def mkQ (P:Program)(fn:Func)(R:Ending->World->Prop):Exit->Act->World->Prop
 | .normal,a,w| .ret,a,w=>LeavesInM Fence.wide 0 P fn a.tmps R a.defers .returning w
 |_,_,_=>False
theorem pq_mk {P:Program}{fn:Func}{R:Ending->World->Prop}:PQ (mkQ P fn R):=λc a d v w h=>h
theorem calls_mk {M:List Nat}{P:Program}{n:Nat}{W:World}{L:List Blk}{k:FuncId}{fn:Func}{c:Code}{args:Array Value}{R:Ending->World->Prop}(hO:Own M W W L)(hf:P.funcs[k]?=some fn)(hb:fn.body=some c)(hn:fn.ntmps=n)(hle:Nat.ble args.size n=true)
  (h:Ok M P n W (mkQ P fn R) c L (λt=>args.getD t undef)):Calls P k args W R:=by
 have hle':args.size<=n:=Nat.le_of_ble_eq_true hle
 have e:({tmps:=args++Array.replicate (fn.ntmps-args.size) undef,defers:=[]}:Act)=Fr n (λt=>args.getD t undef):=by
  unfold Fr
  congr 1
  rw [hn]
  apply Array.ext_getElem?
  intro i
  rw [Array.getElem?_ofFn,Array.getElem?_append,Array.getElem?_replicate]
  by_cases hi:i<args.size
  ·rw [if_pos hi,dif_pos Om];simp [Array.getD,hi]
  ·rw [if_neg hi]
   by_cases h2:i<n
   ·rw [dif_pos h2,if_pos Om];simp [Array.getD,hi]
   ·rw [dif_neg h2,if_neg Om]
 refine (callsIn_wide (n:=0)).1 (callsIn_of_wp_marks hf hb trivial (wpIn_wide.2 ?_) rfl)
 rw [e]
 refine wp_mono (h.go W hO) λex a w hq=> ?_
 cases ex with
 |normal=>exact hq
 |ret=>exact hq
 |_=>exact hq.elim
theorem x_enterM {M:List Nat}{P:Program}{W:World}{L:List Blk}{k:FuncId}{fn:Func}{args:Array Value}{R:Ending->World->Prop}(hO:Own M W W L)(hf:P.funcs[k]?=some fn)(hg:zF M P fn.ntmps W (mkQ P fn R) ⟨.code (fn.body.getD .skip),[],L,λt=>args.getD t undef⟩)
  (hb:fn.body.isSome=true:=by kernel_rfl) (hle:Nat.ble args.size fn.ntmps=true:=by kernel_rfl):Calls P k args W R:=by
 cases hb':fn.body with
 |none=>rw [hb'] at hb;cases hb
 |some b=>rw [hb'] at hg;exact calls_mk hO hf hb' rfl hle (hg.go pq_mk)
def rndQ (M1:List Nat)(B:Nat)(r:YL)(rel:YL->List Blk->Prop)(relx:List Blk->Prop)(Wr:World):Exit->Act->World->Prop
 | .normal,_,w=>∃ L',rel r L'/\Own M1 Wr w (yW B r::L')
 | .ret,_,w=>∃ L',relx L'/\Own M1 Wr w L'
 |_,_,_=>False
theorem pq_rnd {M1:List Nat}{B:Nat}{r:YL}{rel:YL->List Blk->Prop}{relx:List Blk->Prop}{Wr:World}:PQ (rndQ M1 B r rel relx Wr):=λc a d v w h=>h
theorem out_rnd {M1:List Nat}{B:Nat}{r:YL}{rel:YL->List Blk->Prop}{relx:List Blk->Prop}{Wr:World}{id:Nat}{K:Act->World->Prop}:¬ LetsOut (Exit.then K (Exit.inBlock id (rndQ M1 B r rel relx Wr))):=λ⟨_,_,h⟩=>h
theorem out_lend {M:List Nat}{W w w':World}{L L':List Blk}(h:Own M W w L)(h':Own (L.map Blk.b) w w' L'):Own M W w' L':=by
 have:=Own.back (R:=[]) (by rw [List.append_nil];exact h) h'
 rwa [List.append_nil] at this
theorem bK {w w':World}{L L':List Blk}{l:Nat}{o:Obj}(hh:∀ x∈L,w.heap[x.b]?=some (.cells x.cs x.ty))(h:Own (L.map Blk.b) w w' L')(ho:w.heap[l]?=some o)(hc:o.isCells=false):w'.heap[l]?=some o:=by
 refine (h.kept l (Array.getElem?_eq_some_iff.1 ho).1 λhm=> ?_).trans ho
 obtain ⟨x,hx,rfl⟩:=List.mem_map.1 hm
 rw [hh x hx] at ho
 cases ho;cases hc
theorem wp_lines {M:List Nat}{n:Nat}{Q:Exit->Act->World->Prop}{W0 w:World}{L0:List Blk}{f:Nat->Value}{g:Operand}{t B:Nat}{assign body:Code}{s:YL}
  (hg:ev n f g= .func (.func 96) #[] #[.pointer (some ⟨B,0,none⟩)])
  (rel:YL->List Blk->Prop) (relx:List Blk->Prop) (f1:YL->Nat->Value)
  (hA:∀ (p:YL) (l:Nat) (w:World) (K:Act->World->Prop),K (Fr n (f1 p)) w->assign.wpIn (Fence.wide.inRound l) 1 YP (Exit.then K (λ_ _ _=>False)) {tmps:=(Fr n f).tmps.setIfInBounds t (.string (mkS p)),defers:=[]} w)
  (hB:∀ (r:YL) (L:List Blk) (l:Nat) (Wr:World),r≠[]->rel r L->Own M W0 Wr (yW B (lnR r)::L)->body.wpIn (Fence.wide.inRound l) 1 YP (rndQ ((yW B (lnR r)::L).map Blk.b) B (lnR r) rel relx Wr) (Fr n (f1 (lnH r))) Wr)
  (h0:rel s L0) (hO:Own M W0 w (yW B s::L0)) (hs:s.length<=1048576)
  (hdone:∀ D L w',W0.heap.size<=D->rel [] L->Own M W0 w' (yW B []::L)->w'.heap[D]?=some (.deferred (some []))->Q .normal {Fr n f with defers:=[{target:= .collected D,args:= #[]}]} w')
  (hret:∀ D L w',W0.heap.size<=D->relx L->Own M W0 w' L->w'.heap[D]?=some (.deferred (some []))->Q .ret {Fr n f with defers:=[{target:= .collected D,args:= #[]}]} w'):
  (Code.rangeFunc g #[t] assign body).wp YP Q (Fr n f) w:=by
 refine (wpIn_wide (n:=1)).1 (wpIn_rangeFunc ?_)
 intro fn hfn
 obtain ⟨rc,hrc⟩:∃ rc:LoopState->Option Code->Loop,rc=λst pe=>{state:=st,pending:=pe,fn,tmps:=(Fr n f).tmps,params:= #[t],assign,body,defers:=w.heap.size}:=⟨_,rfl⟩
 obtain ⟨W1,hW1⟩:∃ W1,(w.alloc (.deferred (some []))).alloc (.loop (rc .ready none))=W1:=⟨_,rfl⟩
 obtain ⟨l,hl⟩:∃ l,w.heap.size+1=l:=⟨_,rfl⟩
 have hWl:W0.heap.size<=l:=by have:=hO.size;omega
 have hL1:W1.heap[l]?=some (.loop (rc .ready none)):=by
  rw [←hW1,←hl];have:=World.alloc_heap_new (w.alloc (.deferred (some []))) (.loop (rc .ready none));rwa [World.size_alloc] at this
 have hK1:W1.heap[w.heap.size]?=some (.deferred (some [])):=by
  rw [←hW1];exact (Below.heap_alloc _ _ _ (by simp)).trans (World.alloc_heap_new w _)
 have hO1:Own M W0 W1 (yW B s::L0):=by rw [←hW1];exact (hO.lay _).lay _
 have hD:=hO.size
 refine ⟨l,[{target:= .collected w.heap.size,args:= #[]}],W1,{target:= .fn (.func 96) #[Zp B 0],args:= #[.func (.yield l) #[] #[]]},W1,96, #[.func (.yield l) #[] #[],Zp B 0],W1, ?_, ?_,λ_ _=>trivial, ?_,λq=>(by cases q), ?_⟩
 ·rw [←hW1,←hl,hrc];exact run_enterLoop_outer _ _ _ _ _
 ·simp only [resolve,kU,hg]
  simp [go_sem]
  rfl
 ·simp [invoke,go_sem,enters_of Tryz.func96 Kr rfl]
 have hlt:∀ {w:World} {k:Nat} {o:Obj},w.heap[k]?=some o->k<w.heap.size:=λh=>(Array.getElem?_eq_some_iff.1 h).1
 refine (callsIn_wide.2 (lines_any l B (λr w'=>(∃ L,rel r L/\Own M W0 w' (yW B r::L))/\w'.heap[l]?=some (.loop (rc .ready none))/\w'.heap[w.heap.size]?=some (.deferred (some [])))
  (λp r' w'=>(∃ r L,r≠[]/\p=lnH r/\r'=lnR r/\rel r L/\Own M W0 w' (yW B (lnR r)::L))/\w'.heap[l]?=some (.loop (rc .ready none))/\w'.heap[w.heap.size]?=some (.deferred (some [])))
  (λw'=>(∃ L,relx L/\Own M W0 w' L)/\w'.heap[l]?=some (.loop (rc .done (some .ret)))/\w'.heap[w.heap.size]?=some (.deferred (some [])))
  (λr w1 ⟨⟨L,_,h⟩,_⟩=>(h.sublist (L':=[yW B r]) (List.cons_sublist_cons.2 (List.nil_sublist _))).lend)
  (λr w1 w2 ⟨⟨L,q,h⟩,h2,h3⟩ h'=>⟨⟨L,q,Own.back (ob:=[yW B r]) (ob':=[yW B r]) (R:=L) h h'⟩,bK (L:=[yW B r]) (λx hx=>h.held x (by rw [List.mem_singleton.1 hx];exact List.mem_cons_self ..)) h' h2 rfl,bK (L:=[yW B r]) (λx hx=>h.held x (by rw [List.mem_singleton.1 hx];exact List.mem_cons_self ..)) h' h3 rfl⟩)
  (λr w1 w2 ⟨⟨L,q,h⟩,h2,h3⟩ hne h'=>⟨⟨r,L,hne,rfl,rfl,q,Own.back (ob:=[yW B r]) (ob':=[yW B (lnR r)]) (R:=L) h h'⟩,bK (L:=[yW B r]) (λx hx=>h.held x (by rw [List.mem_singleton.1 hx];exact List.mem_cons_self ..)) h' h2 rfl,bK (L:=[yW B r]) (λx hx=>h.held x (by rw [List.mem_singleton.1 hx];exact List.mem_cons_self ..)) h' h3 rfl⟩)
  (λw1 w2 ⟨⟨L,q,h⟩,h2,h3⟩ hb=>⟨⟨L,q,h.on hb⟩,(hb.block _ (hlt h2)).trans h2,(hb.block _ (hlt h3)).trans h3⟩)
  ?_ s W1 ⟨⟨L0,h0,hO1⟩,hL1,hK1⟩ hs)).mono ?_
 ·rintro p r' w1 ⟨⟨r,L,hne,rfl,rfl,hrel,h⟩,h2,h3⟩
  have hy:=run_yield (P:=YP) (args:= #[.string (mkS (lnH r))]) h2 (by rw [hrc];rfl)
  rw [hrc] at hy
  refine ⟨fn,(Fr n f).tmps.setIfInBounds t (.string (mkS (lnH r))),assign,body,by rw [hy];simp,roundIn_of_wpIn trivial (hA (lnH r) l w1 _ ?_)⟩
  refine ⟨_,run_beginRound h2 (by rw [hrc]), ?_⟩
  have h4:=h.turn hWl h2 rfl (.loop {rc .ready none with state:= .busy})
  have hl2:(w1.putObj l (.loop {rc .ready none with state:= .busy})).heap[l]?=some (.loop {rc .ready none with state:= .busy}):=World.putObj_heap_same (hlt h2)
  have hk2:(w1.putObj l (.loop {rc .ready none with state:= .busy})).heap[w.heap.size]?=some (.deferred (some [])):=(World.putObj_heap_other Om).trans h3
  refine wpIn_mono (hB r L l _ hne hrel h4) λe a w3 hp=> ?_
  cases e with
  |normal=>
   obtain ⟨L',q1,q2⟩:=hp
   have hl3:=bK h4.held q2 hl2 rfl
   have hk3:=bK h4.held q2 hk2 rfl
   exact ⟨_,_,run_endRound none hl3,.inl ⟨rfl,⟨L',q1,(out_lend h4 q2).turn hWl hl3 rfl _⟩,(World.putObj_heap_same (hlt hl3)).trans (by rw [hrc];rfl),(World.putObj_heap_other Om).trans hk3⟩⟩
  |ret=>
   obtain ⟨L',q1,q2⟩:=hp
   have hl3:=bK h4.held q2 hl2 rfl
   have hk3:=bK h4.held q2 hk2 rfl
   exact ⟨_,_,run_endRound (some .ret) hl3,.inr ⟨rfl,⟨L',q1,(out_lend h4 q2).turn hWl hl3 rfl _⟩,(World.putObj_heap_same (hlt hl3)).trans (by rw [hrc];rfl),(World.putObj_heap_other Om).trans hk3⟩⟩
  |_=>exact hp.elim
 ·rintro e w2 ⟨rfl,(⟨⟨L,q,h⟩,h2,h3⟩|⟨⟨L,q,h⟩,h2,h3⟩)⟩
  ·exact ⟨none,_,by have:=run_endLoop (P:=YP) h2 (by rw [hrc];simp);rw [hrc] at this;exact this,hdone w.heap.size L _ hD q (h.turn hWl h2 rfl _) ((World.putObj_heap_other Om).trans h3)⟩
  ·exact ⟨some .ret,_,by have:=run_endLoop (P:=YP) h2 (by rw [hrc];simp);rw [hrc] at this;exact this,wpIn_ret (hret w.heap.size L _ hD q (h.turn hWl h2 rfl _) ((World.putObj_heap_other Om).trans h3))⟩
end
section
def bO:Nat->Rt->Nat->Nat->YL->Int×Rt×Nat
 |0,x,k,i,_=>(0,x,k)
 |f+1,x,k,i,r=>
  if r=[] then (0,x,k)
  else if (zA 10 r).2.2 then
   match kK x k (zA 10 r).1 lays with
   |some (y,kk)=>bO f y kk (i+1) (zA 10 r).2.1
   |none=>(((i+1:Nat):Int),x,k)
  else (((i+1:Nat):Int),x,k)
structure FewR (x:Rt)(m:Nat):Prop where
 n:x.needs.length<=m
 b:x.bars.length<=m
 f:x.fts.length<=m
 a:∀ n∈x.needs,n.any.length<=m
theorem FewR.up {x:Rt}{m m':Nat}(h:FewR x m)(hm:m<=m'):FewR x m':=⟨Nat.le_trans h.n hm,Nat.le_trans h.b hm,Nat.le_trans h.f hm,λn hn=>Nat.le_trans (h.a n hn) hm⟩
theorem fB {α:Type}(f:α->α):∀ l:List α,(x7 f l).length=l.length
 | []=>rfl
 | [a]=>rfl
 |a::b::r=>by rw [x7,List.length_cons,fB f (b::r)];simp
theorem setLast_all {α:Type}{f:α->α}{p:α->Prop}(hf:∀ y,p y->p (f y)):∀ {l:List α},(∀ y∈l,p y)→∀ y∈x7 f l,p y
 | [],h=>h
 | [a],h=>λy hy=>by
  rw [x7,List.mem_singleton] at hy;rw [hy];exact hf a (h a (List.mem_singleton.2 rfl))
 |a::b::r,h=>λy hy=>by
  rw [x7] at hy
  rcases List.mem_cons.1 hy with rfl|hy
  ·exact h _ (List.mem_cons_self ..)
  ·exact setLast_all hf (λz hz=>h z (List.mem_cons_of_mem _ hz)) y hy
theorem add_few {x:Rt}{m:Nat}(h:FewR x m)(kd:Nat)(ps:List YL):FewR (nM x kd ps).1 (m+1):=by
 have h1:=h.up (Nat.le_succ m)
 unfold nM
 split
 ·exact ⟨h1.n,h1.b,h1.f,h1.a⟩
 ·refine ⟨by rw [List.length_append];exact Nat.succ_le_succ h.n,h1.b,h1.f,λn hn=> ?_⟩
  rcases List.mem_append.1 hn with hn|hn
  ·exact h1.a n hn
  ·rw [List.mem_singleton.1 hn];exact Nat.zero_le _
 ·refine ⟨by rw [fB];exact h1.n,h1.b,h1.f,λn hn=> ?_⟩
  have key:∀ {l:List Nt},(∀ y∈l,y.any.length<=m)→∀ y∈x7 (λn=>{n with any:=n.any++[anyW ps (ps.getD 4 [])]}) l,y.any.length<=m+1:=by
   intro l
   induction l with
   |nil=>intro _ y hy;cases hy
   |cons a r ih=>
    intro hl y hy
    cases r with
    |nil=>
     rw [x7,List.mem_singleton] at hy
     rw [hy];show (a.any++_).length<=_
     rw [List.length_append];exact Nat.succ_le_succ (hl a (List.mem_singleton.2 rfl))
    |cons b r=>
     rw [x7] at hy
     rcases List.mem_cons.1 hy with rfl|hy
     ·exact Nat.le_succ_of_le (hl _ (List.mem_cons_self ..))
     ·exact ih (λz hz=>hl z (List.mem_cons_of_mem _ hz)) y hy
  exact key h.a n hn
 ·exact ⟨by rw [fB];exact h1.n,h1.b,h1.f,setLast_all (f:=λn:Nt=>{n with wh:=ps.getD 1 []}) (p:=λn:Nt=>n.any.length<=m+1) (λy hy=>hy) h1.a⟩
 ·exact ⟨by rw [fB];exact h1.n,h1.b,h1.f,setLast_all (f:=λn:Nt=>{n with opt:=ps.getD 1 []}) (p:=λn:Nt=>n.any.length<=m+1) (λy hy=>hy) h1.a⟩
 ·exact ⟨h1.n,by rw [List.length_append];exact Nat.succ_le_succ h.b,h1.f,h1.a⟩
 ·exact ⟨h1.n,by rw [fB];exact h1.b,h1.f,h1.a⟩
 ·exact ⟨h1.n,h1.b,by rw [List.length_append];exact Nat.succ_le_succ h.f,h1.a⟩
 ·exact h1
theorem take_few {x y:Rt}{m k kk:Nat}{s:YL}(h:FewR x m):∀ {L:List La},kK x k s L=some (y,kk)->FewR y (m+1)
 | [],e=>by cases e
 |l::r,e=>by
  rw [kK] at e
  split at e
  ·split at e
   ·simp only [Option.some.injEq,Prod.mk.injEq] at e
    rw [←e.1];exact add_few h _ _
   ·cases e
  ·exact take_few h e
theorem take_inv {x y:Rt}{k kk:Nat}{s:YL}(hI:InvA x k)(h:kK x k s lays=some (y,kk)):InvA y kk/\lineS ⟨x,stg k⟩ s=some ⟨y,stg kk⟩:=by
 have:=take_line hI s
 rw [h] at this
 cases hl:lineS ⟨x,stg k⟩ s with
 |none=>rw [hl] at this;exact this.elim
 |some z=>rw [hl] at this;exact ⟨this.2,by rw [this.1]⟩
theorem take_not {x:Rt}{k:Nat}{s:YL}(hI:InvA x k)(h:kK x k s lays=none):lineS ⟨x,stg k⟩ s=none:=by
 have:=take_line hI s
 rw [h] at this
 cases hl:lineS ⟨x,stg k⟩ s with
 |none=>rfl
 |some z=>rw [hl] at this;exact this.elim
theorem resA_read:∀ (f:Nat) (x:Rt) (k i:Nat) (r:YL),InvA x k->r.length<=f→
  let ls:=zE 10 [] r
  ((bO f x k i r).1=0->InvA (bO f x k i r).2.1 (bO f x k i r).2.2/\runS ⟨x,stg k⟩ ls.dropLast=some ⟨(bO f x k i r).2.1,stg (bO f x k i r).2.2⟩/\ls.getLast?=some [])
  /\((bO f x k i r).1≠0->(runS ⟨x,stg k⟩ ls.dropLast=none/\(bO f x k i r).1=badS ⟨x,stg k⟩ i ls.dropLast)\/((∃ y,runS ⟨x,stg k⟩ ls.dropLast=some y)/\ls.getLast?≠some []/\(bO f x k i r).1=((i+ls.length:Nat):Int)))
 |f,x,k,i,[],hI,_=>by
  have e:bO f x k i []=(0,x,k):=by cases f with
   |zero=>rfl
   |succ f=>rw [bO,if_pos rfl]
  rw [e]
  exact ⟨λ_=>⟨hI,rfl,rfl⟩,λh=>absurd rfl h⟩
 |0,x,k,i,c::r,hI,h=>by simp at h
 |f+1,x,k,i,c::t,hI,hf=>by
  obtain ⟨r,hr⟩:∃ r,c::t=r:=⟨_,rfl⟩
  have hne:r≠[]:=by rw [←hr];simp
  rw [hr] at hf ⊢
  have hsp:=xG 10 r []
  rw [List.nil_append] at hsp
  rw [bO,if_neg hne]
  cases hq:(zA 10 r).2.2 with
  |false=>
   rw [hq,if_neg Bool.false_ne_true] at hsp
   have hb:=mQ 10 r
   rw [hq,if_neg Bool.false_ne_true,List.append_nil] at hb
   rw [if_neg Bool.false_ne_true,hsp]
   refine ⟨λh=>absurd h (by show ((i+1:Nat):Int)≠0;omega),λ_=> .inr ⟨⟨_,rfl⟩, ?_,rfl⟩⟩
   show some (zA 10 r).1≠some []
   rw [←hb];simpa using hne
  |true=>
   have hl:=m8 10 r
   rw [hq,if_pos rfl] at hl hsp
   rw [if_pos rfl,hsp]
   have hsne:zE 10 [] (zA 10 r).2.1≠[]:=vB 10 _ _
   obtain ⟨L,hL⟩:∃ L,zE 10 [] (zA 10 r).2.1=L:=⟨_,rfl⟩
   have hd:((zA 10 r).1::L).dropLast=(zA 10 r).1::L.dropLast:=List.dropLast_cons_of_ne_nil (hL▸hsne)
   have hg:((zA 10 r).1::L).getLast?=L.getLast?:=by
    rw [hL] at hsne
    cases L with
    |nil=>exact absurd rfl hsne
    |cons a b=>simp [List.getLast?_cons_cons]
   rw [hL]
   dsimp only
   rw [hd,hg]
   cases ht:kK x k (zA 10 r).1 lays with
   |none=>
    have hn:=take_not hI ht
    refine ⟨λh=>absurd h (by show ((i+1:Nat):Int)≠0;omega),λ_=> .inl ⟨?_, ?_⟩⟩
    ·rw [runS,hn]
    ·rw [badS,hn]
   |some yk=>
    obtain ⟨y,kk⟩:=yk
    obtain ⟨hI',hs⟩:=take_inv hI ht
    have ih:=resA_read f y kk (i+1) (zA 10 r).2.1 hI' Om
    rw [hL] at ih
    dsimp only at ih ⊢
    rw [runS,badS,hs]
    refine ⟨ih.1,λh=> ?_⟩
    rcases ih.2 h with ⟨q1,q2⟩|⟨q1,q2,q3⟩
    ·exact .inl ⟨q1,q2⟩
    ·refine .inr ⟨q1,q2, ?_⟩
     rw [q3,List.length_cons];congr 1;omega
theorem inv_nil:InvA dO 0:=⟨by decide,λ_=>rfl,λh=>absurd h (by decide),λh=>absurd h (by decide)⟩
def d8 (s:YL):Int:=if s=[] then 1 else (bO s.length dO 0 0 s).1
def recA (s:YL):Rt:=(bO s.length dO 0 0 s).2.1
theorem stg_zero {k:Nat}(h:k<=8):stg k=0↔k=0:=by
 have:∀ j,j<=8->(stg j=0↔j=0):=by decide
 exact this k h
end
section
set_option linter.unnecessarySimpa false
def findRF:Code->Code×Code
 | .rangeFunc _ _ a b=>(a,b)
 | .seq x y=>match findRF x with
  |(.skip,.skip)=>findRF y
  |r=>r
 | .block _ x=>findRF x
 |_=>(.skip,.skip)
def fU (i:Nat):Code->Array Oper
 | .region j a _=>if j=i then a else #[]
 | .seq x y=>if (fU i x).size=0 then fU i y else fU i x
 | .cond _ x y=>if (fU i x).size=0 then fU i y else fU i x
 | .block _ x=>fU i x
 | .rangeFunc _ _ x y=>if (fU i x).size=0 then fU i y else fU i x
 |_=> #[]
section
variable {M:List Nat}{P:Program}{n:Nat}{W:World}{Q:Exit->Act->World->Prop}{c:Xc}
theorem x_range (h:List Nat){g:Operand}{t:Nat}(assign body rest:Code)(lv:List (Nat×Value))(L1:List Blk)(hs:∀ w f,Own M W w L1->(Code.rangeFunc g #[t] assign body).wp P (Exit.inBlock 0 (Exit.then (rest.wp P Q) Q)) (Fr n (wV f lv)) w)
  (hkt:(xgl P n nS h c,(xgo P n nS h c).top,(xgo P n nS h c).k,(xgo P n nS h c).L,xV (xgo P n nS h c).f lv)=(xgr P n nS h c,.code (.rangeFunc g #[t] assign body),[.blk 0,.code rest],L1,lv.map Prod.snd):=by kernel_rfl):zF M P n W Q c:=by
 simp only [Prod.mk.injEq] at hkt
 obtain ⟨hk,e1,e2,e3,e4⟩:=hkt
 refine zL h c hk ?_
 generalize xgo P n nS h c=d at*
 obtain ⟨top,kk,L,f⟩:=d
 dsimp only at e1 e2 e3 e4
 subst e1;subst e2;subst e3
 exact ⟨λ_=>⟨λw hO=>by have:=hs w f hO;rw [←qE _ (gL e4)] at this;exact this⟩⟩
theorem x_retM {fn:Func}{R:Ending->World->Prop}(h:List Nat)(i:Nat)(v:Value)(hR:∀ w,Own M W w (xgo P n nS h c).L->R (.returned v) w)(hkt:(xgl P n nS h c,((xgo P n nS h c).top,(xgo P n nS h c).k,fn.results,(xgo P n nS h c).L[i]?,ev n (xgo P n nS h c).f (.tmp (xRt fn 0)),yZ P (xRy fn 0) (vQ (xgo P n nS h c).L i).cs 0))=(xgr P n nS h c,(.fin .ret,[], #[.cell (xRt fn 0) (xRy fn 0)],some (vQ (xgo P n nS h c).L i),.pointer (some ⟨(vQ (xgo P n nS h c).L i).b,0,none⟩),some v)):=by kernel_rfl):zF M P n W (mkQ P fn R) c:=by
 obtain ⟨hk,ht⟩:=Prod.mk.inj hkt
 refine zL h c hk ?_
 generalize xgo P n nS h c=d at hR ht ⊢
 obtain ⟨top,kk,L,f⟩:=d
 simp only [Prod.mk.injEq] at ht
 obtain ⟨rfl,rfl,e3,e4,e5,e6⟩:=ht
 exact ⟨λ_=>⟨λw hO=>(((fin_cell (M:=M) (P:=P) (n:=n) (W:=W) (R:=R) i _ v e3 e4 e5 e6 hR).go w hO).2)⟩⟩
end
theorem results_cellB {P:Program}{n:Nat}{f:Nat->Value}{fn:Func}{p:Tmp}{ty:TypeId}{x:Blk}{v:Value}{w:World}(hres:fn.results= #[.cell p ty])(hp:ev n f (.tmp p)= .pointer (some ⟨x.b,0,none⟩))(hx:w.heap[x.b]?=some (.cells x.cs x.ty))(hv:yZ P ty x.cs 0=some v):(results fn (Fr n f).tmps).run P w= .ok v w:=by
 have e:(Fr n f).tmps.getD p undef= .pointer (some ⟨x.b,0,none⟩):=(g0 n f p).trans hp
 have hr:=yU hv hx
 have e':(Fr n f).tmps[p]?.getD undef= .pointer (some ⟨x.b,0,none⟩):=by simpa using e
 simp [results,hres,e',asAddr,hr]
theorem leave_mark {P:Program}{fn:Func}{R:Ending->World->Prop}{tmps:Array Value}{w:World}{D:Nat}{v:Value}(hK:w.heap[D]?=some (.deferred (some [])))(hres:(results fn tmps).run P (w.putObj D (.deferred none))= .ok v (w.putObj D (.deferred none)))(hR:R (.returned v) (w.putObj D (.deferred none))):LeavesInM Fence.wide 0 P fn tmps R [{target:= .collected D,args:= #[]}] .returning w:=
 ⟨by simp,.inl ⟨_,_,rfl,run_takeDeferred hK,v,hres,hR⟩⟩
theorem store_marks {P:Program}{n id i off:Nat}{f:Nat->Value}{o:Oper}{ds:List Deferred}{Q:Exit->Act->World->Prop}{M:List Nat}{W w:World}{L:List Blk}(x:Blk){T:TypeId}{t:TypeInfo}{p q:Operand}(v:Value)(hw:zU #[o] n f o=true)(ho:o.op= .store T p q)(hd:o.dst=none)(hL:L[i]?=some x)
  (hp:ev n f p= .pointer (some ⟨x.b,off,none⟩)) (hq:ev n f q=v) (hi:P.info? T=some t) (hs:v.cells.size=t.size) (hle:off+t.size<=x.cs.size) (h1:∀ u∈v.cells.toList,u.oneCell'=true) (hO:Own M W w L)
  (h:∀ w',Own M W w' (L.set i ⟨x.b,zW x.cs off v.cells,x.ty⟩)->(∀ k,k≠x.b->w'.heap[k]?=w.heap[k]?)->Q .normal {Fr n f with defers:=ds} w'):(Code.region id #[o] false).wp P Q {Fr n f with defers:=ds} w:=by
 have hst:=run_storeCells_at (P:=P) x.b off x.ty v.cells.toList 0 x.cs w (hO.get hL) (by simp;omega) h1
 have hr:(execOp (ev n f) o).run P w= .ok .skip (w.setRow x.b (zW x.cs off v.cells)):=by
  unfold execOp
  simp only [ho,hp,hq,Instr.storeAt,Instr.sureAddr,Sem.run_bind,Sem.run_pure,Result.andThen_ok,storeVar,sizeOf,typeInfo,hi,hs,run_program]
  simp only [ne_eq,not_true_eq_false,if_false]
  have:(storeCells ⟨x.b,off,none⟩ v.cells.toList).run P w= .ok () (w.setRow x.b (zW x.cs off v.cells)):=by
   rw [hst];unfold zW;simp
  simp [this]
 refine wp_region_list ?_
 show wpList P #[o] Q [o] {Fr n f with defers:=ds} w
 unfold wpList
 have hwt:Region.wanted o (yielded #[o] ({Fr n f with defers:=ds}:Act).tmps)=true:=(qZ #[o] n f o).trans hw
 rw [if_pos hwt]
 refine .inl ?_
 unfold Oper.wp
 have he:({Fr n f with defers:=ds}:Act).eval=ev n f:=kU n f
 rw [he,hr,Oper.upon_skip,show ({Fr n f with defers:=ds}:Act).put o.dst undef={Fr n f with defers:=ds} by rw [hd];rfl]
 unfold wpList
 exact h _ (hO.put hL _) λk hk=>by
  unfold World.setRow
  simp [World.setRow,hk,Array.getElem?_modify,Ne.symm hk]
end
section
set_option linter.unnecessarySimpa false
theorem qLines_any (s:YL)(W:World):YC 53 #[.string (mkS s)] W λe w'=>∃ v ob,e= .returned v/\(∃ B,v= .func (.func 96) #[] #[.pointer (some ⟨B,0,none⟩)]/\ob=[yW B s])/\Own [] W w' ob:=
 zD Tryz.func53 (yK [] λb1=>m9 3 [] (.func (.func 96) #[] #[.pointer (some ⟨b1,0,none⟩)]) (λw=>Kr) (z7 [] (.func (.func 96) #[] #[.pointer (some ⟨b1,0,none⟩)]) λw hO=>⟨_,_,rfl,⟨b1,rfl,rfl⟩,hO.past 0 [yW b1 s]⟩))
theorem suf_cut (r:YL):Lib.hasSuffix (lnH r) [10]=(zA 10 r).2.2/\((zA 10 r).2.2=true->Lib.trimSuffix (lnH r) [10]=(zA 10 r).1):=by
 unfold lnH
 cases hq:(zA 10 r).2.2 with
 |true=>
  rw [if_pos rfl]
  have h1:Lib.hasSuffix ((zA 10 r).1++[10]) [10]=true:=List.isSuffixOf_iff_suffix.2 (List.suffix_append _ _)
  exact ⟨h1,λ_=>by unfold Lib.trimSuffix;rw [if_pos h1];simp⟩
 |false=>
  rw [if_neg Bool.false_ne_true]
  refine ⟨?_,λh=>absurd h Bool.false_ne_true⟩
  have h1:=split_free 10 r [] (by simp) r (by rw [split_one 10 hq];exact List.mem_singleton.2 rfl)
  cases h2:Lib.hasSuffix r [10] with
  |false=>rfl
  |true=>exact absurd ((List.isSuffixOf_iff_suffix.1 h2).subset (List.mem_singleton.2 rfl)) h1
theorem qSuf_any (p:YL)(w:World)(hp:p.length<=1048576):YC 59 #[.string (mkS p),.string ⟨#[10]⟩] w (YR (.tuple #[.string (mkS (Lib.trimSuffix p [10])),.bool (Lib.hasSuffix p [10])]) w):=
 (Tryz.strings_CutSuffix _ _ w (by rw [zQ];omega)).mono λe w' ⟨h1,h2⟩=>⟨by rw [h1];rfl,h2▸Below.refl _ _⟩
def gS (b:Nat)(z:Int):Blk:=⟨b, #[YI z],3⟩
def tkV (rb:Nat):Value:= .func (.func 32) #[.pointer (some ⟨rb,0,none⟩)] #[]
def fnB (b rb:Nat):Blk:=⟨b, #[tkV rb],34⟩
structure RefB (rb:Nat)(s:YL)(ob:List Blk)(W:World)(e:Ending)(w':World):Prop where
 ex:∃ x' k' ob',e= .returned (YI (d8 s))/\RdR rb k' x' ob'/\Own (ob.map Blk.b) W w' ob'/\(s≠[]->d8 s=0->x'.rt=recA s/\FewR x'.rt 4096)
noncomputable abbrev qRF:Code×Code:=findRF (Tryz.f30.body.getD .skip)
noncomputable abbrev qRg (i:Nat):Array Oper:=fU i (Tryz.f30.body.getD .skip)
theorem qBody_is:qRF.2= .block 1 (.seq (.region 6 (qRg 6) false) (.seq (.region 7 (qRg 7) false) (.seq (.region 8 (qRg 8) false) (.cond (.tmp 28) (.seq (.region 9 (qRg 9) false) .ret) .skip)))):=by kernel_rfl
structure RefI (rb b3 b4 b5:Nat)(s r:YL)(L:List Blk):Prop where
 ex:∃ x k i ob fu,L=gS b5 ((i:Nat):Int)::gS b4 0::fnB b3 rb::ob/\RdR rb k x ob/\InvA x.rt k/\FewR x.rt i/\i+r.length<=s.length/\r.length<=fu/\bO fu x.rt k i r=bO s.length dO 0 0 s
structure RefX (rb b3 b4 b5:Nat)(s:YL)(L:List Blk):Prop where
 ex:∃ x k i ob,L=gS b5 i::gS b4 (d8 s)::fnB b3 rb::ob/\RdR rb k x ob/\d8 s≠0
theorem FewR.few {x:Rv}{m:Nat}(h:FewR x.rt m)(hm:m<=5000):Few x:=by
 have h':=h.up hm
 refine ⟨?_, ?_, ?_,λn hn=> ?_⟩
 ·have:=h'.n;unfold Rv.rt at this;simpa using this
 ·have:=h'.b;unfold Rv.rt at this;simpa using this
 ·have:=h'.f;simp only [Rv.rt,yT] at this;simpa using this
 ·have:=h'.a n.nt (by unfold Rv.rt;exact List.mem_map.2 ⟨n,hn,rfl⟩)
  unfold Nv.nt at this;simpa using this
def bLv (b3 b4 b5:Nat):List (Nat×Value):=[(3,.pointer (some ⟨b3,0,none⟩)),(4,.pointer (some ⟨b4,0,none⟩)),(5,.pointer (some ⟨b5,0,none⟩))]
theorem ref_body {M:List Nat}{W0:World}{rb b3 b4 b5 B:Nat}{s:YL}(hs:s.length<=4096)(hne0:s≠[])(hK:∀ w,Own M W0 w []->HasLib w/\LyAt w)(f:Nat->Value)(r:YL)(L:List Blk)(l:Nat)(Wr:World)(hne:r≠[])(hrel:RefI rb b3 b4 b5 s r L)(hOw:Own M W0 Wr (yW B (lnR r)::L)):
  qRF.2.wpIn (Fence.wide.inRound l) 1 YP (rndQ ((yW B (lnR r)::L).map Blk.b) B (lnR r) (RefI rb b3 b4 b5 s) (RefX rb b3 b4 b5 s) Wr) (Fr Tryz.f30.ntmps (upd (wV f (bLv b3 b4 b5)) (some 6) (.string (mkS (lnH r))))) Wr:=by
 obtain ⟨x,k,i,ob,fu,rfl,hR,hI,hF,hi,hfu,hres⟩:=hrel
 have hlen:=lnR_len hne
 obtain ⟨p,hp⟩:∃ p,lnH r=p:=⟨_,rfl⟩
 obtain ⟨rr,hrr⟩:∃ rr,lnR r=rr:=⟨_,rfl⟩
 obtain ⟨hsuf,htrim⟩:=suf_cut r
 have hpl:p.length<=4096:=by
  rw [←hp];unfold lnH
  rcases ix_cut 10 r with ⟨c1,_,c3,_⟩|⟨c1,_⟩
  ·rw [if_pos c1,←c3,List.length_take];omega
  ·rw [c1,if_neg Bool.false_ne_true];omega
 rw [hp] at hsuf htrim ⊢
 rw [hrr] at hOw hlen ⊢
 obtain ⟨M1,hM1⟩:∃ M1,(yW B rr::gS b5 ((i:Nat):Int)::gS b4 0::fnB b3 rb::ob).map Blk.b=M1:=⟨_,rfl⟩
 have hOl:=hOw.lend
 obtain ⟨ln,hln⟩:∃ ln,Lib.trimSuffix p [10]=ln:=⟨_,rfl⟩
 obtain ⟨en,hen⟩:∃ en,Lib.hasSuffix p [10]=en:=⟨_,rfl⟩
 have hcs:∀ w,YC 59 #[.string (mkS p),.string ⟨#[10]⟩] w (YR (.tuple #[.string (mkS ln),.bool en]) w):=λw=>by
  have:=qSuf_any p w Om
  rw [hln,hen] at this;exact this
 have hlnl:ln.length<=4096:=by
  rw [←hln];unfold Lib.trimSuffix
  split
  ·rw [List.length_take];omega
  ·exact hpl
 rw [hM1] at hOl ⊢
 rw [qBody_is]
 refine wpIn_block (wpIn_seq (bW (M:=M1) (W:=Wr) (L:=yW B rr::gS b5 ((i:Nat):Int)::gS b4 0::fnB b3 rb::ob) (pq_seq (p6 pq_rnd)) out_rnd Kr ?_ Wr hOl))
 refine x_i 15 [1] ((i+1:Nat):Int) (x_fin [1] (bLv b3 b4 b5++[(6,.string (mkS p))]) λw6 f6 hO6=> ?_)
 have hO6':=hO6.past 0 (yW B rr::gS b5 ((i+1:Nat):Int)::gS b4 0::fnB b3 rb::ob)
 clear hO6
 refine wpIn_seq (bW (M:=M1) (W:=Wr) (L:=yW B rr::gS b5 ((i+1:Nat):Int)::gS b4 0::fnB b3 rb::ob) (pq_seq (p6 pq_rnd)) out_rnd Kr ?_ w6 hO6')
 refine z8 (v:= .tuple #[.string (mkS ln),.bool en]) [] (λw hO=>hcs w) (x_fin [] (bLv b3 b4 b5++[(7,.string (mkS ln)),(8,.bool en)]) λw7 f7 hO7=> ?_)
 have hO7':=hO7.past 0 (yW B rr::gS b5 ((i+1:Nat):Int)::gS b4 0::fnB b3 rb::ob)
 clear hO7
 refine wpIn_seq (bW (M:=M1) (W:=Wr) (L:=yW B rr::gS b5 ((i+1:Nat):Int)::gS b4 0::fnB b3 rb::ob) (pq_seq (p6 pq_rnd)) out_rnd Kr ?_ w7 hO7')
 have hM0:∀ {w:World} {L':List Blk},Own M1 Wr w L'->Own M W0 w L':=λh=>out_lend hOw (by rw [hM1];exact h)
 have hrefuse:∀ (w8:World) (f8:Nat->Value) (x':Rv) (k':Nat) (ob':List Blk),Own M1 Wr w8 (yW B rr::gS b5 ((i+1:Nat):Int)::gS b4 0::fnB b3 rb::ob')->RdR rb k' x' ob'->(bO fu x.rt k i r).1=((i+1:Nat):Int)->(Code.cond (.tmp 28) (.seq (.region 9 (qRg 9) false) .ret) .skip).wpIn (Fence.wide.inRound l) 1 YP (Exit.inBlock 1 (rndQ M1 B rr (RefI rb b3 b4 b5 s) (RefX rb b3 b4 b5 s) Wr)) (Fr Tryz.f30.ntmps (wV f8 (bLv b3 b4 b5++[(28,.bool true)]))) w8:=λw8 f8 x' k' ob' hO8 hR' hz=>by
  have hbz:d8 s=((i+1:Nat):Int):=by unfold d8;rw [if_neg hne0,←hres];exact hz
  refine wpIn_cond_true (by rw [kU];kernel_rfl) (wpIn_seq (bW (M:=M1) (W:=Wr) (L:=yW B rr::gS b5 ((i+1:Nat):Int)::gS b4 0::fnB b3 rb::ob') (pq_seq (p6 pq_rnd)) out_rnd Kr ?_ w8 hO8))
  refine x_fin [1,2] [] λw9 f9 hO9=>wpIn_ret ⟨gS b5 ((i+1:Nat):Int)::gS b4 (d8 s)::fnB b3 rb::ob',⟨x',k',_,ob',rfl,hR',by rw [hbz];omega⟩, ?_⟩
  rw [hbz]
  exact hO9.past 1 (gS b5 ((i+1:Nat):Int)::gS b4 ((i+1:Nat):Int)::fnB b3 rb::ob')
 refine x_bb 21 [] en (λh21=> ?_) (λh21=> ?_)
 rotate_left
 ·have hc:(zA 10 r).2.2=false:=by rw [←hsuf,hen];exact h21
  refine x_fin [] (bLv b3 b4 b5++[(28,.bool true)]) λw8 f8 hO8=> ?_
  have hO8':=hO8.past 0 (yW B rr::gS b5 ((i+1:Nat):Int)::gS b4 0::fnB b3 rb::ob)
  clear hO8
  refine hrefuse w8 f8 x k ob hO8' hR ?_
  cases fu with
  |zero=>exact absurd (List.eq_nil_of_length_eq_zero (Nat.le_zero.1 hfu)) hne
  |succ fu=>rw [bO,if_neg hne,hc,if_neg Bool.false_ne_true]
 have hc:(zA 10 r).2.2=true:=by rw [←hsuf,hen];exact h21
 have hln1:(zA 10 r).1=ln:=by rw [←htrim hc,hln]
 have hrr1:(zA 10 r).2.1=rr:=by rw [←hrr];unfold lnR;rw [if_pos hc]
 obtain ⟨fu,rfl⟩:∃ f',fu=f'+1:=⟨fu-1,by have:=List.length_pos_iff.2 hne;omega⟩
 have hstep:bO (fu+1) x.rt k i r=match kK x.rt k ln lays with
   |some (y,kk)=>bO fu y kk (i+1) rr
   |none=>(((i+1:Nat):Int),x.rt,k):=by
  rw [bO,if_neg hne,hc,if_pos rfl,hln1,hrr1]
  all_goals (cases kK x.rt k ln lays<;>rfl)
 refine yN (k:=32) (args:= #[Zp rb 0,.string (mkS ln)]) (Rr:=λv ob'=>∃ b x' k',v= .bool b/\RdR rb k' x' ob'/\(match kK x.rt k ln lays with|some (y,kk)=>b=true/\x'.rt=y/\k'=kk|none=>b=false)) [3] (yW B rr::gS b5 ((i+1:Nat):Int)::gS b4 0::fnB b3 rb::ob) [yW B rr,gS b5 ((i+1:Nat):Int),gS b4 0,fnB b3 rb] ob (λw hO=>hO) (λw hO=>(qTake_any rb k x ln ob w hR (Own.lentR hO) (by omega) (hF.few (by omega)) hI λw' hw'=>hK w' ?_).mono λe w' ⟨b,x',k',ob',q1,q2,q3,q4⟩=>⟨_,ob',q1,⟨b,x',k',rfl,q2,q4⟩,q3⟩) λv ob' ⟨b,x',k',q1,hR',hm⟩=> ?_
 ·exact (out_lend ((hM0 hO).sublist (List.sublist_append_right _ _)) hw')
 subst q1
 refine x_fin [] (bLv b3 b4 b5++[(28,.bool (!b))]) λw8 f8 hO8=> ?_
 have hO8':=hO8.past 0 (yW B rr::gS b5 ((i+1:Nat):Int)::gS b4 0::fnB b3 rb::ob')
 clear hO8
 cases ht:kK x.rt k ln lays with
 |none=>
  rw [ht] at hm hstep
  dsimp only at hm
  subst hm
  exact hrefuse w8 f8 x' k' ob' hO8' hR' (by rw [hstep])
 |some yk=>
  obtain ⟨y,kk⟩:=yk
  rw [ht] at hm hstep
  dsimp only at hm hstep
  obtain ⟨rfl,rfl,rfl⟩:=hm
  refine wpIn_cond_false (by rw [kU];kernel_rfl) (wpIn_skip ⟨gS b5 ((i+1:Nat):Int)::gS b4 0::fnB b3 rb::ob',⟨x',k',i+1,ob',fu,rfl,hR',(take_inv hI ht).1,take_few hF ht,by omega,by omega, ?_⟩,hO8'⟩)
  rw [←hstep];exact hres
theorem one_round {P:Program}{n l m id:Nat}{f:Nat->Value}{o:Oper}{v:Value}{K:Act->World->Prop}{Q0:Exit->Act->World->Prop}{w:World}(hw:zU #[o] n f o=true)(hn:noDef o=true)(hr:∀ w,(execOp (ev n f) o).run P w= .ok (.value v) w)(h:K (Fr n (upd f o.dst v)) w):(Code.region id #[o] false).wpIn (Fence.wide.inRound l) m P (Exit.then K Q0) (Fr n f) w:=by
 refine wpIn_region_list ?_
 show wpListIn (Fence.wide.inRound l) m P #[o] (Exit.then K Q0) [o] (Fr n f) w
 unfold wpListIn
 rw [qZ,if_pos hw]
 refine ⟨λ_ _=>trivial, ?_⟩
 rw [Oper.semAt_eq _ _ _ (noDef_is hn),kU,hr,Oper.uponIn_value,vW]
 unfold wpListIn
 exact h
noncomputable abbrev qAs:Oper:=(qRg 5).getD 0 default
noncomputable abbrev qSt:Oper:=(qRg 10).getD 0 default
theorem qAssign_is:qRF.1= .region 5 #[qAs] false:=by kernel_rfl
theorem qStore_is:qRg 10= #[qSt]:=by kernel_rfl
theorem resA_nil (fu:Nat)(x:Rt)(k i:Nat):bO fu x k i []=(0,x,k):=by
 cases fu with
 |zero=>rfl
 |succ f=>rw [bO,if_pos rfl]
def aLv (b3 b4 b5 B:Nat):List (Nat×Value):=[(3,.pointer (some ⟨b3,0,none⟩)),(4,.pointer (some ⟨b4,0,none⟩)),(5,.pointer (some ⟨b5,0,none⟩)),(12,.func (.func 96) #[] #[.pointer (some ⟨B,0,none⟩)])]
theorem qRefused_any (rb:Nat)(x:Rv)(s:YL)(ob:List Blk)(W:World)(hR:RdR rb 0 x ob)(hO:Own (ob.map Blk.b) W W ob)(hx:x.rt=dO)(hs:s.length<=4096)(hK:∀ w,Own (ob.map Blk.b) W w []->HasLib w/\LyAt w):YC 30 #[.string (mkS s),tkV rb] W (RefB rb s ob W):=by
 obtain ⟨M,hM⟩:∃ M,ob.map Blk.b=M:=⟨_,rfl⟩
 rw [hM] at hO hK
 refine x_enterM hO Tryz.func30 (yK [] λb3=>zJ [] λb4=>x4 10 [] s [] (λh=> ?_) (λh=> ?_))
 ·refine x_retM [0] 0 (YI 1) λw hO=>⟨x,0,ob,by rw [d8,if_pos h],hR,by rw [hM];exact hO.past 2 ob,λq=>absurd h q⟩
 refine zJ [] λb5=>k8 (R:=λv ob=>∃ B,v= .func (.func 96) #[] #[Zp B 0]/\ob=[yW B s]) [0] (λw hO=>qLines_any s w) ?_
 rintro v ob2 ⟨B,rfl,rfl⟩
 refine x_range [] (g:= .tmp 12) (t:=13) qRF.1 qRF.2 (.seq (.region 10 (qRg 10) false) .ret) (aLv b3 b4 b5 B) (gS b5 0::gS b4 0::fnB b3 rb::(ob++[yW B s])) λw f hOw=> ?_
 have hO0:Own M W w (yW B s::gS b5 0::gS b4 0::fnB b3 rb::ob):=kE [] hOw λp=>by
  simp only [List.countP_append,List.countP_cons,List.countP_nil,List.cons_append,List.nil_append];omega
 clear hOw
 have hb4:∀ {D:Nat} {z:Int} {w':World} {L:List Blk},Own M W w' L->gS b4 z∈L->w'.heap[D]?=some (.deferred (some []))->D≠b4:=λhO hm hd e=>by
  have:=hO.held _ hm
  rw [show (gS b4 _).b=b4 from rfl,←e,hd] at this;cases this
 have hres4:ev Tryz.f30.ntmps (wV f (aLv b3 b4 b5 B)) (.tmp 4)= .pointer (some ⟨b4,0,none⟩):=by kernel_rfl
 refine wp_lines (B:=B) (s:=s) Kr (RefI rb b3 b4 b5 s) (RefX rb b3 b4 b5 s) (λp=>upd (upd (wV f (aLv b3 b4 b5 B)) (some 13) (.string (mkS p))) (some 6) (.string (mkS p))) (λp l w K hk=> ?_) (λr L l Wr hne hrel hOw=> ?_) ⟨x,0,0,ob,s.length,rfl,hR,by rw [hx];exact inv_nil,by rw [hx];exact ⟨Nat.le_refl _,Nat.le_refl _,Nat.le_refl _,λn hn=>by cases hn⟩,by omega,Nat.le_refl _,by rw [hx]⟩ hO0 (by omega) ?_ ?_
 ·have e:({tmps:=(Fr Tryz.f30.ntmps (wV f (aLv b3 b4 b5 B))).tmps.setIfInBounds 13 (.string (mkS p)),defers:=[]}:Act)=Fr Tryz.f30.ntmps (upd (wV f (aLv b3 b4 b5 B)) (some 13) (.string (mkS p))):=vW _ _ (some 13) _
  rw [e,qAssign_is]
  refine one_round (v:= .string (mkS p)) Kr Kr (λw=>Kr) ?_
  rw [show qAs.dst=some 6 from by kernel_rfl]
  exact hk
 ·have:=ref_body hs h hK (upd (wV f (aLv b3 b4 b5 B)) (some 13) (.string (mkS (lnH r)))) r L l Wr hne hrel hOw
  rw [←qE (bLv b3 b4 b5) (gL Kr)] at this
  exact this
 ·rintro D L w' hD ⟨x',k',i,ob',fu,rfl,hR',hI',hF',hi,hfu,hres⟩ hO' hdf
  rw [resA_nil] at hres
  have hb0:d8 s=0:=by unfold d8;rw [if_neg h,←hres]
  have hr0:recA s=x'.rt:=by unfold recA;rw [←hres]
  show (Code.seq (.region 10 (qRg 10) false) .ret).wp YP (mkQ YP Tryz.f30 (RefB rb s ob W)) _ w'
  refine wp_seq ?_
  rw [qStore_is]
  obtain ⟨ti,hti,_,hsz,_⟩:=int_made
  refine store_marks (i:=2) (off:=0) (gS b4 0) (YI 0) (T:=3) (t:=ti) (p:= .tmp 4) (q:= .const (YI 0)) Kr Kr Kr rfl hres4 Kr hti (by rw [hsz];rfl) (by rw [hsz];exact Nat.le_refl _) (λu hu=>by rw [List.mem_singleton.1 hu];rfl) hO' λw2 hO2 hk2=> ?_
  have hO2':=hO2.past 0 (yW B []::gS b5 ((i:Nat):Int)::gS b4 0::fnB b3 rb::ob')
  clear hO2
  have hd2:w2.heap[D]?=some (.deferred (some [])):=(hk2 D (hb4 (z:=0) hO' (List.mem_cons_of_mem _ (List.mem_cons_of_mem _ (List.mem_cons_self ..))) hdf)).trans hdf
  have hO3:=hO2'.turn hD hd2 rfl (.deferred none)
  refine wp_ret (leave_mark (v:=YI 0) hd2 (results_cellB (ty:=3) (x:=gS b4 0) Kr hres4 (hO3.held (gS b4 0) (List.mem_cons_of_mem _ (List.mem_cons_of_mem _ (List.mem_cons_self ..)))) Kr) ?_)
  exact ⟨x',k',ob',by rw [hb0],hR',by rw [hM];exact hO3.past 4 ob',λ_ _=>⟨hr0.symm,hF'.up Om⟩⟩
 ·rintro D L w' hD ⟨x',k',i,ob',rfl,hR',hbad⟩ hO' hdf
  have hO3:=hO'.turn hD hdf rfl (.deferred none)
  exact leave_mark (v:=YI (d8 s)) hdf (results_cellB (ty:=3) (x:=gS b4 (d8 s)) Kr hres4 (hO3.held (gS b4 (d8 s)) (List.mem_cons_of_mem _ (List.mem_cons_self ..))) Kr) (⟨x',k',ob',rfl,hR',by rw [hM];exact hO3.past 3 ob',λ_ q=>absurd q hbad⟩)
end
section
set_option linter.unnecessarySimpa false
theorem suf_end (p:YL):Lib.hasSuffix p [10]=endP p:=by
 cases h:endP p with
 |true=>
  have h':p.getLast?=some 10:=by unfold endP at h;simpa using h
  obtain ⟨q,rfl⟩:=List.getLast?_eq_some_iff.1 h'
  exact List.isSuffixOf_iff_suffix.2 (List.suffix_append _ _)
 |false=>
  cases h2:Lib.hasSuffix p [10] with
  |false=>rfl
  |true=>
   obtain ⟨q,rfl⟩:=List.isSuffixOf_iff_suffix.1 h2
   rw [endP_nl] at h;cases h
theorem trim_body (p:YL):Lib.trimSuffix p [10]=nD p:=by
 unfold Lib.trimSuffix nD
 rw [suf_end]
 cases endP p<;>simp [List.dropLast_eq_take]
theorem body_le (p:YL):(nD p).length<=p.length:=by
 unfold nD
 split
 ·rw [List.length_dropLast];omega
 ·exact Nat.le_refl _
end
section
set_option linter.unnecessarySimpa false
theorem keyedF:Maps.Keyed YP 9:=Maps.string_keyed Kr
theorem mapTyF:Tryz.prog.underlying 147=some (.map 9 111):=by kernel_rfl
theorem zeroF (w:World):(zeroValue 111).run YP w= .ok .nilFunc w:=by kernel_rfl
theorem mkeyF {s:YL}(hs:s.length<=1048576):keyOf YP 9 (.string (mkS s))=some (.string s):=by
 have:=WideMaps.keyOf_string_mk (P:=YP) (k:=9) Kr (s:=mkS s) (by rw [zQ];unfold maxLen;omega)
 rw [mk_data] at this;exact this
def fnP:Value:= .func (.func 141) #[] #[]
def fnH:Value:= .func (.func 142) #[] #[]
theorem fnPH:fnH≠fnP:=λh=>by
 unfold fnP fnH at h
 injection h with h1
 injection h1 with h2
 exact absurd h2 (by decide)
theorem fnPN:Value.nilFunc≠fnP:=λh=>by unfold fnP at h;cases h
theorem fnHN:Value.nilFunc≠fnH:=λh=>by unfold fnH at h;cases h
noncomputable def FunE (v:Value):Option (DataW Unit×List MemPlace):= @ite _ (v=fnP) (Classical.propDecidable _) (some (.lit (.bool true),[])) (@ite _ (v=fnH) (Classical.propDecidable _) (some (.lit (.bool false),[])) (@ite _ (v= .nilFunc) (Classical.propDecidable _) (some (.lit (.string []),[])) none))
theorem funP:FunE fnP=some (.lit (.bool true),[]):=if_pos rfl
theorem funH:FunE fnH=some (.lit (.bool false),[]):=by unfold FunE;rw [if_neg fnPH,if_pos rfl]
theorem funN:FunE .nilFunc=some (.lit (.string []),[]):=by unfold FunE;rw [if_neg fnPN,if_neg fnHN,if_pos rfl]
theorem funE_inv {v:Value}{z:DataW Unit×List MemPlace}(h:FunE v=some z):(v=fnP/\z=(.lit (.bool true),[]))\/(v=fnH/\z=(.lit (.bool false),[]))\/(v= .nilFunc/\z=(.lit (.string []),[])):=by
 unfold FunE at h
 by_cases h1:v=fnP
 ·rw [if_pos h1] at h;exact .inl ⟨h1,(Option.some.inj h).symm⟩
 rw [if_neg h1] at h
 by_cases h2:v=fnH
 ·rw [if_pos h2] at h;exact .inr (.inl ⟨h2,(Option.some.inj h).symm⟩)
 rw [if_neg h2] at h
 by_cases h3:v= .nilFunc
 ·rw [if_pos h3] at h;exact .inr (.inr ⟨h3,(Option.some.inj h).symm⟩)
 rw [if_neg h3] at h;cases h
noncomputable def datF:DataW Unit:=((DataW.map []).put (.string wPin) (.lit (.bool true))).put (.string nP) (.lit (.bool false))
structure MapF (w:World)(b:Nat):Prop where
 ex:w.ownsMap YP 9 FunE b 2 datF
theorem MapF.lt {w:World}{b:Nat}(h:MapF w b):b<w.heap.size:=h.ex.lt
theorem MapF.kept {w w':World}{b:Nat}(h:MapF w b)(hk:w'.heap[b]?=w.heap[b]?):MapF w' b:=by
 obtain ⟨es,clock,hb,r⟩:=h.ex
 exact ⟨es,clock,hk.trans hb,r⟩
def fnOf (s:YL):Value:=if s=wPin then fnP else if s=nP then fnH else .nilFunc
theorem MapF.look {w:World}{b:Nat}(h:MapF w b){s:YL}(hs:s.length<=1048576):(Instr.lookup 147 (.map (some b)) (.string (mkS s)) false).run YP w= .ok (fnOf s) w:=by
 obtain ⟨v,ps,hrun,hv⟩:=h.ex.lookup keyedF mapTyF (zeroF w) funN (mkeyF hs)
 rw [hrun]
 have hm0:Maps.IsMap (DataW.map []:DataW Unit):=Maps.isMap_empty
 have hm1:Maps.IsMap ((DataW.map []).put (.string wPin) (.lit (.bool true)):DataW Unit):=⟨_,DataW.put_eq _ _ _⟩
 have hat:datF.atKey (.string s) (.lit (.string []))=if s=wPin then .lit (.bool true) else if s=nP then .lit (.bool false) else .lit (.string []):=by
  unfold datF
  by_cases h2:s=nP
  ·subst h2
   rw [Maps.atKey_put_same hm1 (keyedF.key (mkeyF (by decide))),if_neg (by decide),if_pos rfl]
  ·rw [Maps.atKey_put_other (λq=>h2 (by cases q;rfl))]
   by_cases h1:s=wPin
   ·subst h1
    rw [Maps.atKey_put_same hm0 (keyedF.key (mkeyF (by decide))),if_pos rfl]
   ·rw [Maps.atKey_put_other (λq=>h1 (by cases q;rfl)),if_neg h1,if_neg h2];rfl
 rw [hat] at hv
 unfold fnOf
 by_cases h1:s=wPin
 ·rw [if_pos h1] at hv ⊢
  rcases funE_inv hv with ⟨e,q⟩|⟨e,q⟩|⟨e,q⟩<;>first|(rw [e];done)|(injection q with q _;cases q)
 rw [if_neg h1] at hv ⊢
 by_cases h2:s=nP
 ·rw [if_pos h2] at hv ⊢
  rcases funE_inv hv with ⟨e,q⟩|⟨e,q⟩|⟨e,q⟩<;>first|(rw [e];done)|(injection q with q _;cases q)
 rw [if_neg h2] at hv ⊢
 rcases funE_inv hv with ⟨e,q⟩|⟨e,q⟩|⟨e,q⟩<;>first|(rw [e];done)|(injection q with q _;cases q)
theorem below_set {B b:Nat}{W w w':World}(h:Below B W w)(hb:B<=b)(hB:B<=w.heap.size)(hg:w.grownBy w' (some b))(hd:w.drawn<=w'.drawn):Below B W w':=
 ⟨hg.os.trans h.os,hg.tape.trans h.tape,hg.output.trans h.output,Nat.le_trans h.size hg.size,Nat.le_trans h.drawn hd,λk hk=>(hg.block k Om (λe=>by injection e with e;omega)).trans (h.block k hk)⟩
theorem own_re {M:List Nat}{W w w':World}{L:List Blk}(hO:Own M W w L)(hb:YB w w'):Own (L.map Blk.b) w' w' L:=
 ⟨rfl,rfl,rfl,Nat.le_refl _,Nat.le_refl _,λ_ _ _=>rfl,λx hx=>(hb.block x.b (hO.lt hx)).trans (hO.held x hx),λx hx=> .inr (List.mem_map_of_mem hx),hO.apart⟩
theorem own_back {W w' w'':World}{M:List Nat}{L:List Blk}(h1:YB W w')(hM:∀ m∈M,W.heap.size<=m)(h:Own M w' w'' L):Own [] W w'' L:=
 ⟨h.os.trans h1.os,h.tape.trans h1.tape,h.output.trans h1.output,Nat.le_trans h1.size h.size,Nat.le_trans h1.drawn h.drawn,λk hk _=>(h.kept k (Nat.lt_of_lt_of_le hk h1.size) λhm=>absurd (hM k hm) Om).trans (h1.block k hk),h.held,λx hx=> .inl (by
  rcases h.base x hx with q|q
  ·exact Nat.le_trans h1.size q
  ·exact hM _ q),h.apart⟩
theorem adders_any (W:World):YC 90 #[] W λe w'=>∃ b,e= .returned (.map (some b))/\W.heap.size<=b/\MapF w' b/\YB W w':=by
 refine zD Tryz.func90 (x_ins [] (Instr.makeMap 147 none) λw0 hO0=> ?_)
 obtain ⟨b1,e1⟩:∃ b,b=w0.heap.size:=⟨_,rfl⟩
 have hs0:=hO0.below.size
 have hW0:Below W.heap.size W (w0.alloc (.map #[] 0)):=hO0.below.alloc hs0 _
 have hm0:(w0.alloc (.map #[] 0)).ownsMap YP 9 FunE b1 0 (.map []):=e1▸World.ownsMap_made w0 _ _ _
 refine ⟨.map (some b1),_,[],[],by rw [e1];exact run_makeMap _ _,Own.start _ _, ?_⟩
 generalize w0.alloc (.map #[] 0)=w1 at*
 refine x_upd [] (Instr.mapUpdate 147 (.map (some b1)) (.string (mkS wPin)) fnP) λw2 hO2=> ?_
 have hm2:w2.ownsMap YP 9 FunE b1 0 (.map []):=by
  obtain ⟨es,clock,hb,r⟩:=hm0
  exact ⟨es,clock,(hO2.below.block b1 (Array.getElem?_eq_some_iff.1 hb).1).trans hb,r⟩
 have hW2:=hW0.trans (hO2.below.mono hW0.size)
 obtain ⟨w3,hr3,hm3,hg3⟩:=hm2.update keyedF mapTyF (by unfold maxLen;omega) (mkeyF (s:=wPin) (by decide)) funP
 refine ⟨w3,[],[],hr3,Own.start _ _, ?_⟩
 have hW3:=below_set hW2 (show W.heap.size<=b1 by omega) hW2.size hg3 (run_drawn _ _ _ hr3)
 refine x_upd [] (Instr.mapUpdate 147 (.map (some b1)) (.string (mkS nP)) fnH) λw4 hO4=> ?_
 have hm4:w4.ownsMap YP 9 FunE b1 1 ((DataW.map []).put (.string wPin) (.lit (.bool true))):=by
  obtain ⟨es,clock,hb,r⟩:=hm3
  exact ⟨es,clock,(hO4.below.block b1 (Array.getElem?_eq_some_iff.1 hb).1).trans hb,r⟩
 have hW4:=hW3.trans (hO4.below.mono hW3.size)
 obtain ⟨w5,hr5,hm5,hg5⟩:=hm4.update keyedF mapTyF (by unfold maxLen;omega) (mkeyF (s:=nP) (by decide)) funH
 refine ⟨w5,[],[],hr5,Own.start _ _, ?_⟩
 have hW5:=below_set hW4 (show W.heap.size<=b1 by omega) hW4.size hg5 (run_drawn _ _ _ hr5)
 have hm5':MapF w5 b1:=⟨hm5⟩
 exact z7 [] (.map (some b1)) λw6 hO6=>⟨b1,rfl,by omega,hm5'.kept (hO6.below.block b1 hm5'.lt),hW5.trans (hO6.below.mono hW5.size)⟩
theorem idx_mem (c:UInt8):∀ l:YL,decide (0<=Lib.indexByte l c)=decide (c∈l)
 | []=>rfl
 |b::l=>by
  have h1:=Lib.indexByte_ge l c
  have ih:=idx_mem c l
  rw [decide_eq_decide] at ih ⊢
  rw [Lib.indexByte,List.mem_cons]
  by_cases h:b=c
  ·subst h;simp
  ·have hne:¬ c=b:=λe=>h e.symm
   rw [if_neg (by simpa using h)]
   by_cases h2:Lib.indexByte l c= -1
   ·rw [if_pos (by simpa using h2)]
    constructor
    ·intro q;omega
    ·rintro (q|q)
     ·exact absurd q hne
     ·have:=ih.2 q;omega
   ·rw [if_neg (by simpa using h2)]
    constructor
    ·intro q;exact .inr (ih.1 Om)
    ·intro q;omega
theorem mCont_any (t:YL)(w:World):YC 185 #[.string (mkS t),.string ⟨#[32]⟩] w (YR (.bool (decide (32∈t))) w):=
 (Tryz.strings_Contains_one (mkS t) 32 w).mono λe w' ⟨he,hw⟩=>⟨by rw [he,mk_data,idx_mem],hw▸Below.refl _ _⟩
theorem mSplit_any (p:YL)(W:World)(hp:p.length<=1048576):YC 93 #[.string (mkS p)] W (YR (.tuple #[.string (mkS (gW p)),.string (mkS (gY p)),.bool (endP p)]) W):=by
 have hb:=body_le p
 have cS:∀ w,YC 59 #[.string (mkS p),.string ⟨#[10]⟩] w (YR (.tuple #[.string (mkS (nD p)),.bool (endP p)]) w):=λw=>by
  have h:=qSuf_any p w Om
  rw [trim_body,suf_end] at h;exact h
 have cC:∀ w,YC 143 #[.string (mkS (nD p)),.string ⟨#[32]⟩] w (YR (.tuple #[.string (mkS (gW p)),.string (mkS (gY p)),.bool (zA 32 (nD p)).2.2]) w):=λw=>jV (nD p) 32 w Om
 generalize (zA 32 (nD p)).2.2=z at*
 exact zD Tryz.func93 (z8 (v:= .tuple #[.string (mkS (nD p)),.bool (endP p)]) [] (λw hO=>cS w) (z8 (v:= .tuple #[.string (mkS (gW p)),.string (mkS (gY p)),.bool z]) [] (λw hO=>cC w) (jG [] (.string (mkS (gW p))) (.string (mkS (gY p))) (.bool (endP p)) λw hO=>⟨rfl,hO.below⟩)))
theorem word_le (p:YL):(gW p).length<=p.length/\(gY p).length<=p.length:=by
 have h1:=jX 32 (nD p)
 have h2:=body_le p
 unfold gW gY
 omega
abbrev mvL (b:Nat)(x:Mv)(p h:Value):Blk:=⟨b, #[.string (mkS x.rec'.name),YI x.rec'.maj,YI x.rec'.min,YI x.rec'.pat,.string (mkS x.rec'.pre),.string (mkS x.rec'.bld),.slice x.rec'.nA x.rec'.needs.length x.rec'.nc,.slice x.rec'.bA x.rec'.bars.length x.rec'.bc,.slice x.rec'.fA x.rec'.fts.length x.rec'.fc,p,h],44⟩
def AddR (mb:Nat)(x:Mv)(o1 o2 o3:List Blk)(ok:Bool)(m:Mt)(W:World)(e:Ending)(w':World):Prop:=∃ x' o2' o3',e= .returned (.bool ok)/\x'.mt=m/\MnO x' o1 o2' o3'/\Own ((mvB mb x::(o1++(o2++o3))).map Blk.b) W w' (mvB mb x'::(o1++(o2'++o3')))
theorem addPin_any (mb:Nat)(x:Mv)(s:YL)(o1 o2 o3:List Blk)(W:World)(hM:MnO x o1 o2 o3)(hO:Own ((mvB mb x::(o1++(o2++o3))).map Blk.b) W W (mvB mb x::(o1++(o2++o3))))(hs:s.length<=1048576)(hn:x.pins.length<=1000000):YC 141 #[.pointer (some ⟨mb,0,none⟩),.string (mkS s)] W (AddR mb x o1 o2 o3 (pinOk x.mt s) (addP x.mt s) W):=by
 have cC:∀ w,YC 143 #[.string (mkS s),.string ⟨#[32]⟩] w (YR (.tuple #[.string (mkS (zA 32 s).1),.string (mkS (zA 32 s).2.1),.bool (zA 32 s).2.2]) w):=λw=>jV s 32 w Om
 have hP:pinOk x.mt s=(decide ((zA 32 s).1≠[]) && decide ((zA 32 s).2.1≠[]) && !decide (32∈(zA 32 s).2.1) && decide (x.holds=[])):=rfl
 have hA:addP x.mt s=⟨x.rec'.rt,x.pins++[⟨(zA 32 s).1,(zA 32 s).2.1⟩],x.holds⟩:=rfl
 rw [hP,hA]
 generalize (zA 32 s).1=c1 at*
 generalize (zA 32 s).2.1=c2 at*
 generalize (zA 32 s).2.2=c3 at*
 refine zN hO Tryz.func141 (z8 (v:= .tuple #[.string (mkS c1),.string (mkS c2),.bool c3]) [] (λw hO=>cC w) (gM [0] 1 57 #[.string (mkS c1),.string (mkS c2)] λb=> ?_))
 refine wM (m:=1) (cp:=1) [] [⟨b, #[.string (mkS c1),.string (mkS c2)],57⟩] o2 (mvB mb x::(o1++o3)) 0 (⟨b, #[.string (mkS c1),.string (mkS c2)],57⟩::mvB mb x::(o1++(o2++o3))) (λw hO=>kE [] hO λp=>by
  simp only [List.countP_append,List.countP_cons,List.countP_nil,List.cons_append,List.nil_append];omega) hM.pin Om λv' ob' h=> ?_
 obtain ⟨A',c',rfl⟩:=h.form
 refine v8 25 [] (Zp mb 9) (Zp mb 9) rfl (x_hold ([⟨b, #[.string (mkS c1),.string (mkS c2)],57⟩]++ob'++(mvB mb x::(o1++o3))) (mvB mb x::(o1++(ob'++o3))) (λw hO=>kE [⟨b, #[.string (mkS c1),.string (mkS c2)],57⟩] hO λp=>by
  simp only [List.countP_append,List.countP_cons,List.countP_nil,List.cons_append,List.nil_append];omega) ?_)
 have hl:(x.pins++[(⟨c1,c2⟩:Pn)]).length=x.pins.length+1:=by simp
 have hrd:mvB mb {x with pA:=A',pc:=c',pins:=x.pins++[⟨c1,c2⟩]}=mvL mb x (.slice A' (x.pins.length+1) c') (.slice x.hA x.holds.length x.hc):=by
  unfold mvB mvL;simp only [hl]
 have hK:∀ (z:Bool) (w:World),z=(decide (c1≠[]) && decide (c2≠[]) && !decide (32∈c2) && decide (x.holds=[]))->Own ((mvB mb x::(o1++(o2++o3))).map Blk.b) W w (mvL mb x (.slice A' (x.pins.length+1) c') (.slice x.hA x.holds.length x.hc)::(o1++(ob'++o3)))->AddR mb x o1 o2 o3 (decide (c1≠[]) && decide (c2≠[]) && !decide (32∈c2) && decide (x.holds=[])) ⟨x.rec'.rt,x.pins++[⟨c1,c2⟩],x.holds⟩ W (.returned (.bool z)) w:=λz w hz hO=>
  ⟨{x with pA:=A',pc:=c',pins:=x.pins++[⟨c1,c2⟩]},ob',o3,by rw [hz],rfl,⟨hM.rc,(by
   show Sl 57 2 (.slice A' (x.pins++[(⟨c1,c2⟩:Pn)]).length c') (x.pins++[(⟨c1,c2⟩:Pn)]).length ((x.pins++[(⟨c1,c2⟩:Pn)]).flatMap pmC) ob'
   rw [hl,List.flatMap_append,List.flatMap_singleton];exact h),hM.hold⟩,by rw [hrd];exact hO⟩
 refine gA 27 [0] c1 [] (λh1=> ?_) (λh1=> ?_)
 ·exact z7 [] Z5 λw hO=>hK false w (by simp [h1]) (hO.past 0 (mvL mb x (.slice A' (x.pins.length+1) c') (.slice x.hA x.holds.length x.hc)::(o1++(ob'++o3))))
 refine gA 30 [] c2 [] (λh2=> ?_) (λh2=> ?_)
 ·exact z7 [] Z5 λw hO=>hK false w (by simp [h2]) (hO.past 0 (mvL mb x (.slice A' (x.pins.length+1) c') (.slice x.hA x.holds.length x.hc)::(o1++(ob'++o3))))
 refine z8 (v:= .bool (decide (32∈c2))) [] (λw hO=>mCont_any c2 w) (x_now 34 (32∈c2) (λh3=> ?_) (λh3=> ?_))
 ·exact z7 [] Z5 λw hO=>hK false w (by simp [h3]) (hO.past 0 (mvL mb x (.slice A' (x.pins.length+1) c') (.slice x.hA x.holds.length x.hc)::(o1++(ob'++o3))))
 refine zB 43 [0] ((x.holds.length:Int)=0) (λh4=> ?_) (λh4=> ?_)
 ·have h5:x.holds=[]:=List.length_eq_zero_iff.1 Om
  exact z7 [] Z4 λw hO=>hK true w (by simp [h1,h2,h3,h5]) (hO.past 0 (mvL mb x (.slice A' (x.pins.length+1) c') (.slice x.hA x.holds.length x.hc)::(o1++(ob'++o3))))
 ·have h5:¬ x.holds=[]:=λe=>h4 (by rw [e];rfl)
  exact z7 [] Z5 λw hO=>hK false w (by simp [h5]) (hO.past 0 (mvL mb x (.slice A' (x.pins.length+1) c') (.slice x.hA x.holds.length x.hc)::(o1++(ob'++o3))))
theorem addHold_any (mb:Nat)(x:Mv)(s:YL)(o1 o2 o3:List Blk)(W:World)(hM:MnO x o1 o2 o3)(hO:Own ((mvB mb x::(o1++(o2++o3))).map Blk.b) W W (mvB mb x::(o1++(o2++o3))))(hs:s.length<=1048576)(hn:x.holds.length<=1000000):YC 142 #[.pointer (some ⟨mb,0,none⟩),.string (mkS s)] W (AddR mb x o1 o2 o3 (holdOk s) (addHo x.mt s) W):=by
 have cC:∀ w,YC 143 #[.string (mkS s),.string ⟨#[32]⟩] w (YR (.tuple #[.string (mkS (zA 32 s).1),.string (mkS (zA 32 s).2.1),.bool (zA 32 s).2.2]) w):=λw=>jV s 32 w Om
 have hP:holdOk s=(decide ((zA 32 s).1≠[]) && decide ((zA 32 s).2.1≠[])):=rfl
 have hA:addHo x.mt s=⟨x.rec'.rt,x.pins,x.holds++[⟨(zA 32 s).1,(zA 32 s).2.1⟩]⟩:=rfl
 rw [hP,hA]
 generalize (zA 32 s).1=c1 at*
 generalize (zA 32 s).2.1=c2 at*
 generalize (zA 32 s).2.2=c3 at*
 refine zN hO Tryz.func142 (z8 (v:= .tuple #[.string (mkS c1),.string (mkS c2),.bool c3]) [] (λw hO=>cC w) (gM [0] 1 59 #[.string (mkS c1),.string (mkS c2)] λb=> ?_))
 refine wM (m:=1) (cp:=1) [] [⟨b, #[.string (mkS c1),.string (mkS c2)],59⟩] o3 (mvB mb x::(o1++o2)) 0 (⟨b, #[.string (mkS c1),.string (mkS c2)],59⟩::mvB mb x::(o1++(o2++o3))) (λw hO=>kE [] hO λp=>by
  simp only [List.countP_append,List.countP_cons,List.countP_nil,List.cons_append,List.nil_append];omega) hM.hold Om λv' ob' h=> ?_
 obtain ⟨A',c',rfl⟩:=h.form
 refine v8 25 [] (Zp mb 10) (Zp mb 10) rfl (x_hold ([⟨b, #[.string (mkS c1),.string (mkS c2)],59⟩]++ob'++(mvB mb x::(o1++o2))) (mvB mb x::(o1++(o2++ob'))) (λw hO=>kE [⟨b, #[.string (mkS c1),.string (mkS c2)],59⟩] hO λp=>by
  simp only [List.countP_append,List.countP_cons,List.countP_nil,List.cons_append,List.nil_append];omega) ?_)
 have hl:(x.holds++[(⟨c1,c2⟩:Ho)]).length=x.holds.length+1:=by simp
 have hrd:mvB mb {x with hA:=A',hc:=c',holds:=x.holds++[⟨c1,c2⟩]}=mvL mb x (.slice x.pA x.pins.length x.pc) (.slice A' (x.holds.length+1) c'):=by
  unfold mvB mvL;simp only [hl]
 have hK:∀ (z:Bool) (w:World),z=(decide (c1≠[]) && decide (c2≠[]))->Own ((mvB mb x::(o1++(o2++o3))).map Blk.b) W w (mvL mb x (.slice x.pA x.pins.length x.pc) (.slice A' (x.holds.length+1) c')::(o1++(o2++ob')))->AddR mb x o1 o2 o3 (decide (c1≠[]) && decide (c2≠[])) ⟨x.rec'.rt,x.pins,x.holds++[⟨c1,c2⟩]⟩ W (.returned (.bool z)) w:=λz w hz hO=>
  ⟨{x with hA:=A',hc:=c',holds:=x.holds++[⟨c1,c2⟩]},o2,ob',by rw [hz],rfl,⟨hM.rc,hM.pin,(by
   show Sl 59 2 (.slice A' (x.holds++[(⟨c1,c2⟩:Ho)]).length c') (x.holds++[(⟨c1,c2⟩:Ho)]).length ((x.holds++[(⟨c1,c2⟩:Ho)]).flatMap hoC) ob'
   rw [hl,List.flatMap_append,List.flatMap_singleton];exact h)⟩,by rw [hrd];exact hO⟩
 refine gA 27 [0] c1 [] (λh1=> ?_) (λh1=> ?_)
 ·exact z7 [] Z5 λw hO=>hK false w (by simp [h1]) (hO.past 0 (mvL mb x (.slice x.pA x.pins.length x.pc) (.slice A' (x.holds.length+1) c')::(o1++(o2++ob'))))
 refine gA 30 [] c2 [] (λh2=> ?_) (λh2=> ?_)
 ·exact z7 [] Z5 λw hO=>hK false w (by simp [h2]) (hO.past 0 (mvL mb x (.slice x.pA x.pins.length x.pc) (.slice A' (x.holds.length+1) c')::(o1++(o2++ob'))))
 ·exact z7 [] Z4 λw hO=>hK true w (by simp [h1,h2]) (hO.past 0 (mvL mb x (.slice x.pA x.pins.length x.pc) (.slice A' (x.holds.length+1) c')::(o1++(o2++ob'))))
theorem isTl_of (p:YL):(gW p=wPin/\pF p=true/\fnOf (gW p)=fnP)\/(gW p=nP/\pF p=true/\fnOf (gW p)=fnH)\/(¬ gW p=wPin∧¬ gW p=nP/\pF p=false/\fnOf (gW p)= .nilFunc):=by
 unfold pF fnOf
 by_cases h1:gW p=wPin
 ·exact .inl ⟨h1,by rw [decide_eq_true h1];rfl,if_pos h1⟩
 by_cases h2:gW p=nP
 ·exact .inr (.inl ⟨h2,by rw [decide_eq_true h2,Bool.or_true],by rw [if_neg h1,if_pos h2]⟩)
 ·exact .inr (.inr ⟨h1,h2,by rw [decide_eq_false h1,decide_eq_false h2];rfl,by rw [if_neg h1,if_neg h2]⟩)
theorem mTl_any (p:YL)(c b:Nat)(W:World)(hp:p.length<=1048576)(hc:W.heap[c]?=some (.cells #[.map (some b)] 147))(hm:MapF W b):YC 92 #[.string (mkS p),.pointer (some ⟨c,0,none⟩)] W (YR (.bool (pF p)) W):=by
 have hcl:c<W.heap.size:=(Array.getElem?_eq_some_iff.1 hc).1
 have hw:=(word_le p).1
 refine zD Tryz.func92 (z8 (v:= .tuple #[.string (mkS (gW p)),.string (mkS (gY p)),.bool (endP p)]) [] (λw hO=>mSplit_any p w hp) ?_)
 refine zH 13 [] 147 c 0 (.map (some b)) (λw hO=>yU Kr ((hO.below.block c hcl).trans hc)) (x_rd [] (Instr.lookup 147 (.map (some b)) (.string (mkS (gW p))) false) (fnOf (gW p)) (λw hO=>(hm.kept (hO.below.block b hm.lt)).look Om) ?_)
 rcases isTl_of p with ⟨_,e1,e2⟩|⟨_,e1,e2⟩|⟨_,_,e1,e2⟩
 ·rw [e1,e2]
  exact m9 16 [] Z4 (λw=>Kr) (z7 [] Z4 λw hO=>⟨rfl,hO.below⟩)
 ·rw [e1,e2]
  exact m9 16 [] Z4 (λw=>Kr) (z7 [] Z4 λw hO=>⟨rfl,hO.below⟩)
 ·rw [e1,e2]
  exact m9 16 [] Z5 (λw=>Kr) (z7 [] Z5 λw hO=>⟨rfl,hO.below⟩)
theorem ahead_find:∀ l:List YL,yS l=l.findIdx pF
 | []=>rfl
 |p::r=>by rw [yS,List.findIdx_cons,ahead_find r];cases pF p<;>rfl
theorem ahead_at {l:List YL}{i:Nat}(hi:i<l.length)(h0:∀ y∈l.take i,pF y=false)(h1:pF l[i]=true):yS l=i:=by
 rw [ahead_find]
 refine (List.findIdx_eq hi).2 ⟨h1,λj hj=>h0 _ ?_⟩
 exact List.mem_take_iff_getElem.2 ⟨j,by omega,rfl⟩
theorem ahead_all {l:List YL}(h:∀ y∈l,pF y=false):yS l=l.length:=by
 rw [ahead_find];exact List.findIdx_eq_length_of_false h
def behI (l:List YL):Int:=if yS l<l.length then (yS l:Int) else-1
theorem mIdx_any (A:Option Addr)(cap:Nat)(ls:List YL)(c b:Nat)(W:World)(hx:Reads yY W W.heap.size A ls)(hl:∀ x∈ls,x.length<=1048576)(hn:ls.length<=1048576)(hc:W.heap[c]?=some (.cells #[.map (some b)] 147))(hm:MapF W b):YC 91 #[.slice A ls.length cap,.func (.func 92) #[] #[.pointer (some ⟨c,0,none⟩)]] W (YR (YI (behI ls)) W):=by
 have hcl:c<W.heap.size:=(Array.getElem?_eq_some_iff.1 hc).1
 obtain ⟨z,hz⟩:∃ z,behI ls=z:=⟨_,rfl⟩
 have hno:(∀ y∈ls,pF y=false)->z= -1:=λh=>by rw [←hz];unfold behI;rw [ahead_all h,if_neg (Nat.lt_irrefl _)]
 have hat:∀ i (hi:i<ls.length),(∀ y∈ls.take i,pF y=false)->pF ls[i]=true->z=(i:Int):=λi hi h0 h1=>by rw [←hz];unfold behI;rw [ahead_at hi h0 h1,if_pos hi]
 rw [hz]
 refine zD Tryz.func91 (zM (α:=Nat) (λi=>[(0,.slice A ls.length cap),(1,.func (.func 92) #[] #[Zp c 0]),(7,YI (ls.length:Int)),(8,YI (i:Int))]) (λ_=>[]) (λi m=>(i<=ls.length∧∀ y∈ls.take i,pF y=false)/\m=ls.length-i) 0 ls.length [] ⟨⟨Nat.zero_le _,λy h=>by simp at h⟩,rfl⟩ ?_)
 rintro i mm g kk ⟨⟨hi,hno'⟩,hmm⟩ nx hkk
 subst hkk
 refine zB 9 [] ((i:Int)<(ls.length:Int)) (λh9=> ?_) (λh9=> ?_)
 rotate_left
 ·refine z7 [] (YI (-1)) λw hO=>⟨?_,hO.below⟩
  rw [List.take_of_length_le (show ls.length<=i by omega)] at hno'
  rw [hno hno']
 have hj:i<ls.length:=by omega
 obtain ⟨eb,eo,hA,hel⟩:=hx.elem zX i hj
 have hst:pF ls[i]=false→∀ y∈ls.take (i+1),pF y=false:=λh y hy=>by
  rw [List.take_succ_eq_append_getElem hj] at hy
  rcases List.mem_append.1 hy with hy|hy
  ·exact hno' y hy
  ·rw [List.mem_singleton.1 hy];exact h
 have hat:=hat i hj hno'
 have hel0:∀ w,YB W w->(loadVar 9 ⟨eb,eo+i*1+0,none⟩).run YP w= .ok (.string (mkS ls[i])) w:=λw hw=>hel w hw _ 0 _ Kr
 have hsl:=hl _ (List.getElem_mem hj)
 generalize ls[i]=u at*
 have hcf:∀ w,YB W w->YC 92 #[.string (mkS u),.pointer (some ⟨c,0,none⟩)] w (YR (.bool (pF u)) w):=λw hw=>mTl_any u c b w hsl ((hw.block c hcl).trans hc) (hm.kept (hw.block b hm.lt))
 refine zI 14 [] hA ls.length cap i 1 hj (zH 15 [] 9 eb (eo+i*1+0) (.string (mkS u)) (λw hO=>hel0 w hO.below) (z8 (v:= .bool (pF u)) [] (λw hO=>hcf w hO.below) (zP 16 (pF u) (λh16=> ?_) (λh16=> ?_))))
 ·exact z7 [] (YI (i:Int)) λw hO=>⟨by rw [hat h16],hO.below⟩
 ·exact x_i 18 [] ((i+1:Nat):Int) (nx (i+1) (ls.length-(i+1)) [] Om ⟨⟨hj,hst h16⟩,rfl⟩ Kr Kr)
end
section
structure BndN (n:Nt):Prop where
 wh:GdM n.wh
 opt:n.opt.length<=5000
 any:∀ u∈n.any,u.name.length<=5000/\GdR u.rng/\u.fs.length<=5000∧∀ t∈u.fs,t.length<=5000
structure BndR (x:Rt):Prop where
 name:x.name.length<=5000
 pre:x.ver.pre.length<=1048576
 bld:x.ver.build.length<=1048576
 needs:∀ n∈x.needs,BndN n
 bars:∀ b∈x.bars,b.name.length<=5000/\GdR b.rng/\GdM b.wh
 fts:∀ f∈x.fts,f.name.length<=5000/\f.of.length<=5000∧∀ t∈f.of,t.length<=5000
theorem bnd_nil:BndR dO:=⟨Nat.zero_le _,(by decide),(by decide),(λn h=>by cases h),(λn h=>by cases h),(λn h=>by cases h)⟩
theorem take_kind {x y:Rt}{k kk:Nat}{s:YL}:∀ {L:List La},(∀ l∈L,1<=l.kind)->kK x k s L=some (y,kk)->1<=kk
 | [],_,e=>by cases e
 |l::r,hL,e=>by
  rw [kK] at e
  split at e
  ·split at e
   ·simp only [Option.some.injEq,Prod.mk.injEq] at e
    rw [←e.2];exact hL l (List.mem_cons_self ..)
   ·cases e
  ·exact take_kind (λl hl=>hL l (List.mem_cons_of_mem _ hl)) e
theorem lays_kind:∀ l∈lays,1<=l.kind:=by decide
theorem resA_kind:∀ (f:Nat) (x:Rt) (k i:Nat) (r:YL),(bO f x k i r).1=0->r.length<=f->(1<=k\/r≠[])->1<=(bO f x k i r).2.2
 |0,x,k,i,r,_,hr,h=>by
  rcases h with h|h
  ·exact h
  ·exact absurd (List.eq_nil_of_length_eq_zero (Nat.le_zero.1 hr)) h
 |f+1,x,k,i,r,h0,hr,h=>by
  rw [bO] at h0 ⊢
  by_cases hn:r=[]
  ·rw [if_pos hn]
   rcases h with h|h
   ·exact h
   ·exact absurd hn h
  ·rw [if_neg hn] at h0 ⊢
   have hl:=m8 10 r
   cases hq:(zA 10 r).2.2 with
   |false=>rw [hq,if_neg Bool.false_ne_true] at h0;exact absurd h0 (by show ((i+1:Nat):Int)≠0;omega)
   |true=>
    rw [hq,if_pos rfl] at h0 hl
    rw [if_pos rfl]
    cases ht:kK x k (zA 10 r).1 lays with
    |none=>rw [ht] at h0;exact absurd h0 (by show ((i+1:Nat):Int)≠0;omega)
    |some yk=>
     obtain ⟨y,kk⟩:=yk
     rw [ht] at h0
     exact resA_kind f y kk (i+1) _ h0 Om (.inl (take_kind lays_kind ht))
theorem resA_ge:∀ (f:Nat) (x:Rt) (k i:Nat) (r:YL),0<=(bO f x k i r).1
 |0,x,k,i,r=>Int.le_refl _
 |f+1,x,k,i,r=>by
  rw [bO]
  split
  ·exact Int.le_refl _
  ·split
   ·split
    ·exact resA_ge f _ _ _ _
    ·exact Int.natCast_nonneg _
   ·exact Int.natCast_nonneg _
theorem parse_is {s:YL}(hs:s.length<=4096):vD s=if d8 s≠0 then (dO,2,d8 s) else if (zV (recA s)).1≠0 then (dO,(zV (recA s)).1,0) else (recA s,0,0):=by
 unfold vD
 rw [if_neg Om]
 by_cases h:s=[]
 ·subst h;rfl
 have hr:=resA_read s.length dO 0 0 s inv_nil (Nat.le_refl _)
 dsimp only at hr
 have hb:d8 s=(bO s.length dO 0 0 s).1:=by unfold d8;rw [if_neg h]
 have e0:stg 0=0:=rfl
 rw [e0] at hr
 by_cases hz:d8 s=0
 ·obtain ⟨q1,q2,q3⟩:=hr.1 (hb▸hz)
  rw [if_neg (λq=>q hz)]
  rw [q2]
  dsimp only
  rw [if_pos q3]
  unfold doneS
  dsimp only
  have hk:(bO s.length dO 0 0 s).2.2≠0:=by
   have:=resA_kind s.length dO 0 0 s (hb▸hz) (Nat.le_refl _) (.inr h);omega
  rw [if_neg (λq=>hk ((stg_zero q1.le).1 q))]
  rfl
 ·rw [if_pos hz]
  rcases hr.2 (hb▸hz) with ⟨q1,q2⟩|⟨⟨y,q1⟩,q2,q3⟩
  ·rw [q1];dsimp only;rw [←q2,hb]
  ·rw [q1];dsimp only;rw [if_neg q2,hb,q3];simp
end
section
set_option linter.unnecessarySimpa false
theorem RdQ.nso {x:Rv}{o1 oa og oi o4 o7 o8:List Blk}(h:RdQ x o1 oa og oi o4 o7 o8):NsO x.nA x.nc x.needs o1 (oi++(oa++og)):=by
 refine ⟨h.needs.top,λy hy=> ?_⟩
 rcases h.needs.split with ⟨e,_⟩|⟨ini,n,e,hi,hw,hf⟩
 ·rw [e] at hy;cases hy
 ·rw [e] at hy
  rcases List.mem_append.1 hy with hy|hy
  ·obtain ⟨o,q1,q2⟩:=hi y hy
   exact ⟨o,q1,λb hb=>List.mem_append_left _ (q2 b hb)⟩
  ·rw [List.mem_singleton.1 hy]
   exact ⟨oa++og,⟨oa,og,rfl,hw,hf⟩,λb hb=>List.mem_append_right _ hb⟩
theorem rec_inn {x:Rv}{o1 o2 o4 o7 o8 L:List Blk}{M:List Nat}{W w:World}(h1:NsO x.nA x.nc x.needs o1 o2)(h4:Sl 77 3 (.slice x.bA x.bars.length x.bc) x.bars.length (x.bars.flatMap bvC) o4)(h7:FtO x.fA x.fc x.fts o7 o8)(hO:Own M W w L)(s1:∀ b∈o1,b∈L)(s2:∀ b∈o2,b∈L)(s4:∀ b∈o4,b∈L)(s7:∀ b∈o7,b∈L)(s8:∀ b∈o8,b∈L)(hB:BndR x.rt)(hF:FewR x.rt 4096):RcIn w w.heap.size x:=by
 obtain ⟨r1,r2⟩:=h1.reads hO s1 s2
 have hN:∀ n∈x.needs,BndN n.nt:=λn hn=>hB.needs n.nt (List.mem_map.2 ⟨n,hn,rfl⟩)
 have hA:∀ n∈x.needs,∀ u∈n.any,u.name.length<=5000/\GdR u.rng/\u.fs.length<=5000∧∀ t∈u.fs,t.length<=5000:=λn hn u hu=>(hN n hn).any u.wt (List.mem_map.2 ⟨u,hu,rfl⟩)
 have hBr:∀ b∈x.bars,b.name.length<=5000/\GdR b.rng/\GdM b.wh:=λb hb=>hB.bars b.bt (List.mem_map.2 ⟨b,hb,rfl⟩)
 have hFt:∀ f∈x.fts,f.name.length<=5000/\f.of.length<=5000∧∀ t∈f.of,t.length<=5000:=λf hf=>hB.fts f.ft (List.mem_map.2 ⟨f,hf,rfl⟩)
 have l1:x.needs.length<=4096:=by have:=hF.n;unfold Rv.rt at this;simpa using this
 have l2:x.bars.length<=4096:=by have:=hF.b;unfold Rv.rt at this;simpa using this
 have l3:x.fts.length<=4096:=by have:=hF.f;simp only [Rv.rt,yT] at this;simpa using this
 refine ⟨r1,r2,λn hn u hu=> ?_,Sl.reads h4 rfl hO s4,⟨Sl.reads h7.top rfl hO s7,λf hf=> ?_,by omega,λf hf=>(Nat.le_trans (hFt f hf).2.1 (by decide)),λf hf=>by have:=(hFt f hf).1;omega,λf hf t ht=>by have:=(hFt f hf).2.2 t ht;omega⟩,by omega,λn hn=> ?_,λn hn u hu=>(Nat.le_trans (hA n hn u hu).2.2.1 (by decide)),by omega,⟨by have:=hB.name;show x.name.length<=_;exact Nat.le_trans this (by decide),hB.pre,hB.bld⟩,λn hn=>⟨gqM_of (hN n hn).wh,Nat.le_trans (hN n hn).opt (by decide)⟩,λn hn u hu=>⟨by have:=(hA n hn u hu).1;omega,gqR_of (hA n hn u hu).2.1,λt ht=>by have:=(hA n hn u hu).2.2.2 t ht;omega⟩,λb hb=>by have:=hBr b hb;exact ⟨Nat.le_trans this.1 (by decide),gqR_of this.2.1,gqM_of this.2.2⟩⟩
 ·obtain ⟨o,⟨⟨p1,p2,rfl,hp,he⟩⟩,ho⟩:=h1.each n hn
  obtain ⟨o',q1,q2⟩:=he u hu
  exact SlT.reads q1 rfl hO λb hb=>s2 b (ho b (List.mem_append_right _ (q2 b hb)))
 ·obtain ⟨o,ho,hs⟩:=h7.each f hf
  exact SlT.reads ho rfl hO λb hb=>s8 b (hs b hb)
 ·have:=hF.a n.nt (List.mem_map.2 ⟨n,hn,rfl⟩)
  unfold Nv.nt at this
  simp only [List.length_map] at this
  omega
theorem fin_cell3 {M:List Nat}{P:Program}{n:Nat}{W:World}{L:List Blk}{f:Nat->Value}{fn:Func}{R:Ending->World->Prop}{p u t:Tmp}{ty:TypeId}(i:Nat)(x:Blk)(v v' v2:Value)(hres:fn.results= #[.cell p ty,.tmp u,.tmp t])(hL:L[i]?=some x)(hp:ev n f (.tmp p)= .pointer (some ⟨x.b,0,none⟩))(hv:yZ P ty x.cs 0=some v)(hv':ev n f (.tmp u)=v')(hv2:ev n f (.tmp t)=v2)
  (hR:∀ w,Own M W w L->R (.returned (.tuple #[v,v',v2])) w):Fin M n W (bodyPost P fn R) .ret L f:=⟨λw hO=>by
 refine bodyPost_ret (v:= .tuple #[v,v',v2]) ?_ rfl (hR w hO)
 have e:(Fr n f).tmps.getD p undef= .pointer (some ⟨x.b,0,none⟩):=(g0 n f p).trans hp
 have hr:=yU hv (hO.get hL)
 have e':(Fr n f).tmps[p]?.getD undef= .pointer (some ⟨x.b,0,none⟩):=by simpa using e
 have e2:(Fr n f).tmps.getD u undef=v':=(g0 n f u).trans hv'
 have e2':(Fr n f).tmps[u]?.getD undef=v':=by simpa using e2
 have e3:(Fr n f).tmps.getD t undef=v2:=(g0 n f t).trans hv2
 have e3':(Fr n f).tmps[t]?.getD undef=v2:=by simpa using e3
 simp [results,hres,e',e2',e3',asAddr,hr]⟩
section
variable {M:List Nat}{P:Program}{n:Nat}{W:World}{Q:Exit->Act->World->Prop}{c:Xc}
theorem vO {fn:Func}{R:Ending->World->Prop}(h:List Nat)(i:Nat)(v v' v2:Value)(hR:∀ w,Own M W w (xgo P n nS h c).L->R (.returned (.tuple #[v,v',v2])) w)(hkt:(xgl P n nS h c,((xgo P n nS h c).top,(xgo P n nS h c).k,fn.results,(xgo P n nS h c).L[i]?,ev n (xgo P n nS h c).f (.tmp (xRt fn 0)),yZ P (xRy fn 0) (vQ (xgo P n nS h c).L i).cs 0,ev n (xgo P n nS h c).f (.tmp (xRt fn 1)),ev n (xgo P n nS h c).f (.tmp (xRt fn 2))))=(xgr P n nS h c,(.fin .ret,[], #[.cell (xRt fn 0) (xRy fn 0),.tmp (xRt fn 1),.tmp (xRt fn 2)],some (vQ (xgo P n nS h c).L i),.pointer (some ⟨(vQ (xgo P n nS h c).L i).b,0,none⟩),some v,v',v2)):=by kernel_rfl):zF M P n W (bodyPost P fn R) c:=by
 obtain ⟨hk,ht⟩:=Prod.mk.inj hkt
 refine zL h c hk ?_
 generalize xgo P n nS h c=d at hR ht ⊢
 obtain ⟨top,kk,L,f⟩:=d
 simp only [Prod.mk.injEq] at ht
 obtain ⟨rfl,rfl,e3,e4,e5,e6,e7,e8⟩:=ht
 exact ⟨λ_=>fin_cell3 i _ v v' v2 e3 e4 e5 e6 e7 e8 hR⟩
end
structure ParB (s:YL)(W:World)(e:Ending)(w':World):Prop where
 ex:∃ x ob',e= .returned (.tuple #[rvV x,YI (vD s).2.1,YI (vD s).2.2])/\x.rt=(vD s).1/\RecO x ob'/\BndR x.rt/\FewR x.rt 4096/\Own [] W w' ob'
def rv0:Rv:=⟨[],0,0,0,[],[],none,0,[],none,0,[],none,0,[]⟩
theorem rv0_rt:rv0.rt=dO:=rfl
theorem rec0:RecO rv0 []:=⟨⟨[],[],[],[],[],rfl,NsO.nil,Sl.nil _ _,FtO.nil⟩⟩
theorem few0:FewR dO 4096:=⟨Nat.zero_le _,Nat.zero_le _,Nat.zero_le _,(λn h=>by cases h)⟩
theorem par0 {s:YL}{W w:World}{z k:Int}(h:vD s=(dO,z,k))(hO:Own [] W w []):ParB s W (.returned (.tuple #[rvV rv0,YI z,YI k])) w:=
 ⟨rv0,[],by rw [h],by rw [h,rv0_rt],rec0,by rw [rv0_rt];exact bnd_nil,by rw [rv0_rt];exact few0,hO⟩
theorem rdq0:RdQ rv0 [] [] [] [] [] [] []:=⟨⟨Sl.nil _ _,.inl ⟨rfl,rfl,rfl⟩⟩,Sl.nil _ _,FtO.nil⟩
theorem qParse_any (s:YL)(W:World)(hs:s.length<=1048576)(hK:RecLib W)(hL:LyAt W)(hBn:s.length<=4096->d8 s=0->BndR (recA s)):YC 11 #[.string (mkS s)] W (ParB s W):=by
 refine zD Tryz.func11 (zJ [] λb2=>zB 11 [] ((s.length:Int)>4096) (λh11=> ?_) (λh11=> ?_))
 ·refine vO [0] 0 (rvV rv0) (YI 3) (YI 0) λw hO=>par0 ?_ hO.no
  unfold vD;rw [if_pos Om]
 have hs4:s.length<=4096:=by omega
 have hread:=parse_is hs4
 have hcl:∀ w,YC 31 #[.string (mkS s)] w (YR (.string (mkS s)) w):=λw=>jS s w Om
 refine zJ [] λb5=>z8 (v:= .string (mkS s)) [] (λw hO=>hcl w) (m9 15 [] (tkV b5) (λw=>Kr) ?_)
 refine yN (k:=30) (args:= #[.string (mkS s),tkV b5]) (Rr:=λv ob'=>∃ x' k',v=YI (d8 s)/\RdR b5 k' x' ob'/\(s≠[]->d8 s=0->x'.rt=recA s/\FewR x'.rt 4096)) [] (rdB rv0 0 b5::[rcB rv0 b2]) [rcB rv0 b2] [rdB rv0 0 b5] (λw hO=>hO.swap) (λw hO=> ?_) λv ob' ⟨x',k',q1,hR',hx⟩=> ?_
 ·have hb5:∀ k∈[rdB rv0 0 b5].map Blk.b,W.heap.size<=k:=λk hk=>by
   have h5:=hO.base (rdB rv0 0 b5) (by simp)
   rcases h5 with h5|h5
   ·rw [List.map_singleton,List.mem_singleton] at hk;rw [hk];exact h5
   ·cases h5
  refine (qRefused_any b5 rv0 s [rdB rv0 0 b5] w ⟨[],[],[],[],[],[],[],rfl,rdq0⟩ (Own.lentR hO) rv0_rt hs4 λw' hw'=> ?_).mono λe w' ⟨x',k',ob',q1,q2,q3,q4⟩=>⟨_,ob',q1,⟨x',k',rfl,q2,q4⟩,q3⟩
  have hb:YB W w':=hO.below.trans (hw'.belowB hb5 hO.below.size)
  exact ⟨hK.lib.on hb,hL.on hb⟩
 subst q1
 refine zB 18 [] (d8 s>0) (λh18=> ?_) (λh18=> ?_)
 ·refine vO [0] 0 (rvV rv0) (YI 2) (YI (d8 s)) λw hO=>par0 ?_ hO.no
  rw [hread,if_pos Om]
 have hge:0<=d8 s:=by
  unfold d8
  split
  ·omega
  ·exact resA_ge _ _ _ _ _
 have hz:d8 s=0:=by omega
 have hne:s≠[]:=λe=>by rw [e] at hz;exact absurd hz (by decide)
 obtain ⟨hrt,hF⟩:=hx hne hz
 have hB:BndR x'.rt:=hrt▸hBn hs4 hz
 rw [if_neg (λq=>q hz),←hrt] at hread
 obtain ⟨o1,oa,og,oi,o4,o7,o8,rfl,hQ⟩:=hR'
 obtain ⟨T,hT⟩:∃ T,o1++zZ oa og oi o4 o7 o8=T:=⟨_,rfl⟩
 have sub:∀ b,(b∈o1\/b∈oi++(oa++og)\/b∈o4\/b∈o7\/b∈o8)->b∈T:=λb hb=>by
  rw [←hT];unfold zZ;simp only [List.mem_append] at hb ⊢;grind
 rw [hT]
 obtain ⟨c,hc⟩:∃ c,zV x'.rt=c:=⟨_,rfl⟩
 have hck:∀ w,Own [] W w T->YC 33 #[rvV x'] w (YR (.tuple #[YI c.1,YI c.2]) w):=λw hO=>hc▸qCheck_any x' w (rec_inn hQ.nso hQ.bars hQ.fts hO (λb hb=>sub b (.inl hb)) (λb hb=>sub b (.inr (.inl hb))) (λb hb=>sub b (.inr (.inr (.inl hb)))) (λb hb=>sub b (.inr (.inr (.inr (.inl hb))))) (λb hb=>sub b (.inr (.inr (.inr (.inr hb))))) hB hF) (hK.on hO.below)
 rw [hc] at hread
 refine z8 (v:= .tuple #[YI c.1,YI c.2]) [1] (λw hO=>hck w (hO.past 2 T)) (vP 28 [] (c.1=0) (λh28=> ?_) (λh28=> ?_))
 ·refine vO [1,0] 0 (rvV x') (YI 0) (YI 0) λw hO=> ?_
  rw [if_neg (λq=>q h28)] at hread
  refine ⟨x',o4++(o1++(oi++(oa++og)))++(o7++o8),by rw [hread],by rw [hread],⟨⟨o1,_,o4,o7,o8,rfl,hQ.nso,hQ.bars,hQ.fts⟩⟩,hB,hF,kE [] (hO.past 2 T) λp=> ?_⟩
  rw [←hT]
  simp only [zZ,List.countP_append,List.countP_cons,List.countP_nil,List.cons_append,List.nil_append];omega
 ·refine vO [0] 0 (rvV rv0) (YI c.1) (YI 0) λw hO=>par0 ?_ hO.no
  rw [hread,if_pos h28]
end
section
set_option linter.unnecessarySimpa false
theorem lnsP_cut:∀ (r p:YL),p++r≠[]->xD p r=(if (zA 10 r).2.2 then p++(zA 10 r).1++[10] else p++r)::(if (zA 10 r).2.2 then xD [] (zA 10 r).2.1 else [])
 | [],p,h=>by
  have:p≠[]:=by simpa using h
  rw [xD,if_neg this];simp [zA]
 |c::r,p,_=>by
  rw [xD]
  unfold zA
  by_cases hc:c=10
  ·subst hc;simp
  ·rw [if_neg hc,if_neg hc,lnsP_cut r (p++[c]) (by simp)]
   cases (zA 10 r).2.2<;>simp
theorem lns_step {r:YL}(h:r≠[]):xD [] r=lnH r::xD [] (lnR r):=by
 rw [lnsP_cut r [] (by simpa using h)]
 unfold lnH lnR
 cases (zA 10 r).2.2<;>simp [xD]
theorem lnH_le {r:YL}:(lnH r).length<=r.length:=by
 unfold lnH
 rcases ix_cut 10 r with ⟨c1,_,c3,_⟩|⟨c1,_⟩
 ·rw [if_pos c1,←c3,List.length_take];omega
 ·rw [c1,if_neg Bool.false_ne_true];exact Nat.le_refl _
theorem lns_all:∀ (n:Nat) (r:YL),r.length<=n->(xD [] r).length<=r.length∧∀ x∈xD [] r,x.length<=r.length/\x≠[]
 |0,r,h=>by
  obtain rfl:=List.eq_nil_of_length_eq_zero (Nat.le_zero.1 h)
  exact ⟨by simp [xD],λx hx=>by simp [xD] at hx⟩
 |n+1,r,h=>by
  by_cases h0:r=[]
  ·subst h0;exact ⟨by simp [xD],λx hx=>by simp [xD] at hx⟩
  ·have hl:=lnR_len h0
   obtain ⟨i1,i2⟩:=lns_all n (lnR r) Om
   rw [lns_step h0]
   refine ⟨by rw [List.length_cons];omega,λx hx=> ?_⟩
   rcases List.mem_cons.1 hx with rfl|hx
   ·refine ⟨lnH_le, ?_⟩
    unfold lnH
    split
    ·simp
    ·exact h0
   ·have:=i2 x hx;exact ⟨by omega,this.2⟩
def slsB (b:Nat)(v:Value):Blk:=⟨b, #[v],66⟩
noncomputable abbrev aRF:Code×Code:=findRF (Tryz.f95.body.getD .skip)
noncomputable abbrev aRg (i:Nat):Array Oper:=fU i (Tryz.f95.body.getD .skip)
noncomputable abbrev aAs:Oper:=(aRg 2).getD 0 default
noncomputable abbrev aO1:Oper:=(aRg 4).getD 0 default
noncomputable abbrev aO2:Oper:=(aRg 4).getD 1 default
theorem aBody_is:aRF.2= .block 1 (.region 3 (aRg 3) false):=by kernel_rfl
theorem aAssign_is:aRF.1= .region 2 #[aAs] false:=by kernel_rfl
theorem aEnd_is:aRg 4= #[aO1,aO2]:=by kernel_rfl
structure ColI (b2:Nat)(s r:YL)(L:List Blk):Prop where
 ex:∃ A c ls ob,L=slsB b2 (.slice A ls.length c)::ob/\SlT (.slice A ls.length c) ls ob/\ls++xD [] r=xD [] s/\r.length<=s.length
theorem out_rnd2 {M1:List Nat}{B:Nat}{r:YL}{rel:YL->List Blk->Prop}{relx:List Blk->Prop}{Wr:World}{id:Nat}:¬ LetsOut (Exit.inBlock id (rndQ M1 B r rel relx Wr)):=λ⟨_,_,h⟩=>h
theorem two_marks {P:Program}{n id:Nat}{f:Nat->Value}{o p:Oper}{u v:Value}{ds:List Deferred}{Q:Exit->Act->World->Prop}{w:World}(hw:zU #[o,p] n f o=true)(hr:(execOp (ev n f) o).run P w= .ok (.value u) w)(hw2:zU #[o,p] n (upd f o.dst u) p=true)(hr2:(execOp (ev n (upd f o.dst u)) p).run P w= .ok (.value v) w)
  (h:Q .normal {Fr n (upd (upd f o.dst u) p.dst v) with defers:=ds} w):(Code.region id #[o,p] false).wp P Q {Fr n f with defers:=ds} w:=by
 have hp:∀ (f:Nat->Value) (d:Option Tmp) (x:Value),({Fr n f with defers:=ds}:Act).put d x={Fr n (upd f d x) with defers:=ds}:=λf d x=>by
  have:=vW n f d x
  unfold Act.put at this ⊢
  cases d with
  |none=>exact congrArg (λa:Act=>({a with defers:=ds}:Act)) this
  |some i=>exact congrArg (λa:Act=>({a with defers:=ds}:Act)) this
 refine wp_region_list ?_
 show wpList P #[o,p] Q [o,p] {Fr n f with defers:=ds} w
 unfold wpList
 have hwt:Region.wanted o (yielded #[o,p] ({Fr n f with defers:=ds}:Act).tmps)=true:=(qZ #[o,p] n f o).trans hw
 rw [if_pos hwt]
 refine .inl ?_
 unfold Oper.wp
 have he:({Fr n f with defers:=ds}:Act).eval=ev n f:=kU n f
 rw [he,hr,Oper.upon_value,hp]
 unfold wpList
 have hwt2:Region.wanted p (yielded #[o,p] ({Fr n (upd f o.dst u) with defers:=ds}:Act).tmps)=true:=(qZ #[o,p] n (upd f o.dst u) p).trans hw2
 rw [if_pos hwt2]
 refine .inl ?_
 unfold Oper.wp
 have he2:({Fr n (upd f o.dst u) with defers:=ds}:Act).eval=ev n (upd f o.dst u):=kU n _
 rw [he2,hr2,Oper.upon_value,hp]
 unfold wpList
 exact h
theorem slt_add {ls:List YL}{x:YL}{v:Value}{ob:List Blk}(h:Sl 9 1 v (ls.length+1) (jD ls++ #[(.string (mkS x):Value)].toList) ob):SlT v (ls++[x]) ob:=SlT.add h
theorem col_body {M:List Nat}{W0:World}{b2 B:Nat}{s:YL}(hs:s.length<=600000)(f:Nat->Value)(r:YL)(L:List Blk)(l:Nat)(Wr:World)(hne:r≠[])(hrel:ColI b2 s r L)(hOw:Own M W0 Wr (yW B (lnR r)::L)):
  aRF.2.wpIn (Fence.wide.inRound l) 1 YP (rndQ ((yW B (lnR r)::L).map Blk.b) B (lnR r) (ColI b2 s) (λ_=>False) Wr) (Fr Tryz.f95.ntmps (upd (wV f [(2,.pointer (some ⟨b2,0,none⟩))]) (some 5) (.string (mkS (lnH r))))) Wr:=by
 obtain ⟨A,c,ls,ob,rfl,hS,hres,hrl⟩:=hrel
 have hlen:=lnR_len hne
 have hst:=lns_step hne
 have hl1:=(lns_all s.length s (Nat.le_refl _)).1
 have hl2:ls.length<=s.length:=by have:=congrArg List.length hres;rw [List.length_append] at this;omega
 rw [hst] at hres
 generalize lnH r=p at*
 generalize lnR r=rr at*
 obtain ⟨M1,hM1⟩:∃ M1,(yW B rr::slsB b2 (.slice A ls.length c)::ob).map Blk.b=M1:=⟨_,rfl⟩
 have hOl:=hOw.lend
 rw [hM1] at hOl ⊢
 rw [aBody_is]
 refine wpIn_block (bW (M:=M1) (W:=Wr) (L:=yW B rr::slsB b2 (.slice A ls.length c)::ob) (p6 pq_rnd) out_rnd2 Kr ?_ Wr hOl)
 refine gM [1] 1 9 #[.string (mkS p)] λg=>(wM (T:=9) (sz:=1) (m:=1) (cp:=1) [] [⟨g, #[.string (mkS p)],9⟩,yW B rr,slsB b2 (.slice A ls.length c)] ob [] 0 (⟨g, #[.string (mkS p)],9⟩::yW B rr::slsB b2 (.slice A ls.length c)::ob) (λw hO=>hO.cast (by simp)) hS Om λv' ob' hS'=> ?_)
 have hS2:SlT v' (ls++[p]) ob':=slt_add hS'
 obtain ⟨A2,c2,rfl⟩:=hS2.form
 refine x_fin [2] [] λw6 f6 hO6=> ?_
 have hO7:=hO6.past 1 (yW B rr::slsB b2 (.slice A2 (ls++[p]).length c2)::(ob'++[]))
 clear hO6
 refine ⟨slsB b2 (.slice A2 (ls++[p]).length c2)::ob',⟨A2,c2,ls++[p],ob',rfl,hS2,by rw [List.append_assoc];exact hres,by omega⟩,hO7.cast (by simp)⟩
theorem apq_any (B:Nat)(s:YL)(W:World)(hO:Own [B] W W [yW B s])(hs:s.length<=600000):YC 95 #[.slice none 0 0,.func (.func 96) #[] #[.pointer (some ⟨B,0,none⟩)]] W λe w'=>∃ v ob,e= .returned v/\SlT v (xD [] s) ob/\Own [B] W w' (yW B []::ob):=by
 refine x_enterM hO Tryz.func95 (yK [] λb2=> ?_)
 refine x_range [] (g:= .tmp 6) (t:=7) aRF.1 aRF.2 (.seq (.region 4 (aRg 4) false) .ret) [(2,Zp b2 0),(6,.func (.func 96) #[] #[Zp B 0])] (slsB b2 (.slice none 0 0)::[yW B s]) λw f hOw=> ?_
 have hO0:Own [B] W w (yW B s::[slsB b2 (.slice none 0 0)]):=hOw.swap
 clear hOw
 have hres2:ev Tryz.f95.ntmps (wV f [(2,.pointer (some ⟨b2,0,none⟩)),(6,.func (.func 96) #[] #[.pointer (some ⟨B,0,none⟩)])]) (.tmp 2)= .pointer (some ⟨b2,0,none⟩):=by kernel_rfl
 refine wp_lines (B:=B) (s:=s) Kr (ColI b2 s) (λ_=>False) (λp=>upd (upd (wV f [(2,Zp b2 0),(6,.func (.func 96) #[] #[Zp B 0])]) (some 7) (.string (mkS p))) (some 5) (.string (mkS p))) (λp l w K hk=> ?_) (λr L l Wr hne hrel hOw=> ?_) ⟨none,0,[],[],rfl,Sl.nil _ _,rfl,Nat.le_refl _⟩ hO0 (by omega) ?_ (λD L w' hD h=>h.elim)
 ·have e:({tmps:=(Fr Tryz.f95.ntmps (wV f [(2,.pointer (some ⟨b2,0,none⟩)),(6,.func (.func 96) #[] #[.pointer (some ⟨B,0,none⟩)])])).tmps.setIfInBounds 7 (.string (mkS p)),defers:=[]}:Act)=Fr Tryz.f95.ntmps (upd (wV f [(2,.pointer (some ⟨b2,0,none⟩)),(6,.func (.func 96) #[] #[.pointer (some ⟨B,0,none⟩)])]) (some 7) (.string (mkS p))):=vW _ _ (some 7) _
  rw [e,aAssign_is]
  refine one_round (v:= .string (mkS p)) Kr Kr (λw=>Kr) ?_
  rw [show aAs.dst=some 5 from by kernel_rfl]
  exact hk
 ·have:=col_body hs (upd (wV f [(2,.pointer (some ⟨b2,0,none⟩)),(6,.func (.func 96) #[] #[.pointer (some ⟨B,0,none⟩)])]) (some 7) (.string (mkS (lnH r)))) r L l Wr hne hrel hOw
  rw [←qE [(2,.pointer (some ⟨b2,0,none⟩))] (gL Kr)] at this
  exact this
 ·rintro D L w' hD ⟨A,c,ls,ob,rfl,hS,hres,_⟩ hO' hdf
  have hls:ls=xD [] s:=by rw [←hres];simp [xD]
  show (Code.seq (.region 4 (aRg 4) false) .ret).wp YP (mkQ YP Tryz.f95 _) _ w'
  refine wp_seq ?_
  rw [aEnd_is]
  have hg:=hO'.held (slsB b2 (.slice A ls.length c)) (List.mem_cons_of_mem _ (List.mem_cons_self ..))
  refine two_marks (u:= .slice A ls.length c) (v:= .slice A ls.length c) Kr ?_ Kr Kr ?_
  ·exact qL (ty:=66) (x:= .tmp 2) (a:=⟨b2,0,none⟩) Kr hres2 (yU Kr hg)
  have hO3:=hO'.turn hD hdf rfl (.deferred none)
  refine wp_ret (leave_mark (v:= .slice A ls.length c) hdf Kr ?_)
  exact ⟨_,ob,rfl,hls▸hS,hO3.swap.past 1 (yW B []::ob)⟩
theorem col_any (B:Nat)(s:YL)(W:World)(hO:Own [B] W W [yW B s])(hs:s.length<=600000):YC 52 #[.func (.func 96) #[] #[.pointer (some ⟨B,0,none⟩)]] W λe w'=>∃ v ob,e= .returned v/\SlT v (xD [] s) ob/\Own [B] W w' (yW B []::ob):=by
 refine zN hO Tryz.func52 (yN (k:=95) (args:= #[.slice none 0 0,.func (.func 96) #[] #[Zp B 0]]) (Rr:=λv ob'=>∃ o,ob'=yW B []::o/\SlT v (xD [] s) o) [] [yW B s] [] [yW B s] (λw hO=>hO) (λw hO=>(apq_any B s w (Own.lentR (R:=[]) hO) hs).mono λe w' ⟨v,o,q1,q2,q3⟩=>⟨v,_,q1,⟨o,rfl,q2⟩,q3⟩) ?_)
 rintro v _ ⟨o,rfl,hS⟩
 exact z7 [] v λw hO=>⟨v,o,rfl,hS,hO.past 0 (yW B []::o)⟩
end
section
theorem join_flat (x0:YL)(r:List YL)(b off cap:Nat)(w:World)(hc:∀ j (h:j<(x0::r).length),w.cell? ⟨b,off+j,none⟩=some (.string (mkS ((x0::r)[j]))))
  (hb:b<w.heap.size) (hr:1<=r.length) (hn:r.length<=5000) (h0:x0≠[]) (hx:∀ x∈x0::r,x.length<=1048576) (hcap:r.length+1<=cap):
  YC 94 #[.slice (some ⟨b,off,none⟩) (r.length+1) cap,.string ⟨#[]⟩] w (YR (.string (mkS (vN [] (x0::r)))) w):=by
 have HT:=Lib.hid (show ∀ k,(x0++qO [] (r.take k)).length<=6000000000 from λk=>by
  have h1:=joinT_len (sep:=[]) (by decide) (r:=r.take k) λx hm=>hx x (List.mem_cons_of_mem _ (List.mem_of_mem_take hm))
  have h2:=hx x0 (List.mem_cons_self ..)
  have h3:(r.take k).length<=5000:=Nat.le_trans (by rw [List.length_take];exact Nat.min_le_right ..) hn
  rw [List.length_append];omega)
 have HC:=Lib.hid hc
 have HX:=Lib.hid hx
 have HJ:=Lib.hid (joinB_T [] r x0)
 have hx0:(mkS x0).size<=1048576:=by rw [zQ];exact hx x0 (List.mem_cons_self ..)
 obtain ⟨N,hN⟩:∃ q,q=r.length+1:=⟨_,rfl⟩
 rw [←hN] at hcap ⊢
 have hne0:((N:Int)==0)=false:=beq_eq_false_iff_ne.2 Om
 have hne1:((N:Int)==1)=false:=beq_eq_false_iff_ne.2 Om
 have hN2:2<=N:=by omega
 have hN9:N<=5001:=by omega
 have HN:=Lib.hid hN
 have H0:=Lib.hid h0
 clear hc hx h0 hN hr hn
 go_enter Tryz.func94,Tryz.ntmps94
 go_wp2
 go_loop [5,41] (λn i=>∃ (k t:Nat),k<=N/\i=YI k/\n=YI t/\t<=k*1048576) (λ_ i=>N-(intOf i).toNat)
 case atStart=>exact ⟨0,0,Nat.zero_le _,rfl,rfl,by omega⟩
 case round=>
  obtain ⟨k,t,hk,rfl,rfl,ht⟩:=hrel
  by_cases hkn:k<N
  ·have hkl:k<(x0::r).length:=by have:=HN.out;rw [List.length_cons];omega
   obtain ⟨y,hy⟩:∃ q,q=mkS ((x0::r)[k]):=⟨_,rfl⟩
   have hyz:y.size<=1048576:=by rw [hy,zQ];exact HX.out _ (List.getElem_mem hkl)
   have hck:w.cell? ⟨b,off+k,none⟩=some (.string y):=by rw [hy];exact HC.out k hkl
   clear hy hkl
   go_wp2
   exact ⟨⟨k+1,t+y.size,by omega,by go_num,by go_num,by omega⟩,by simp [intOf];omega⟩
  ·obtain rfl:k=N:=by omega
   go_wp2_with (go_at_call 144;refine (grow_fresh w.heap.size w.heap.size t _ (Nat.le_refl _) (heap_alloc_new w _) (by simp) Om).mono ?_)
   rintro e w1 rfl h1 hb1
   have hb1':YB w w1:=((Below.refl w.heap.size w).alloc (Nat.le_refl _) _).trans hb1
   have hsz1:=hb1'.size
   have hc0:w1.cell? ⟨b,off,none⟩=some (.string (mkS x0)):=by
    rw [hb1'.cell (p:=⟨b,off,none⟩) hb]
    exact HC.out 0 (by simp)
   have H1:=Lib.hid (Or.inr h1:Lib.IsBuilder 98 5 w.heap.size w.heap.size [] w1)
   have HB1:=Lib.hid hb1'
   clear h1 hb1 hb1' ht hkn hk
   obtain ⟨X,hX⟩:∃ q,q=mkS x0:=⟨_,rfl⟩
   rw [←hX] at hc0 hx0
   have HX0:=Lib.hid hX
   clear hX
   go_wp2_with (go_at_call 49;refine (kF w.heap.size w.heap.size [] X w1 H1.out ?_ hsz1).mono ?_)
   ·simp;omega
   rintro e w2 ⟨rfl,h2,hb2⟩
   have H2:=Lib.hid (show Lib.IsBuilder 98 5 w.heap.size w.heap.size (Lib.byteCells (x0++qO [] (r.take 0))) w2 from by
    rw [HX0.out,jL,List.nil_append] at h2
    rw [List.take_zero,qO,List.append_nil];exact Or.inr h2)
   have HB2:=Lib.hid (HB1.out.trans hb2)
   clear h2 hb2 hsz1 hc0
   have hrk:k-1=r.length:=by have:=HN.out;omega
   go_wp2
   go_loopw [65] (λi wr=>∃ j:Nat,j<=r.length/\i=YI j/\Hid (Lib.IsBuilder 98 5 w.heap.size w.heap.size (Lib.byteCells (x0++qO [] (r.take j))) wr)/\Hid (YB w wr)) (λi _=>r.length-(intOf i).toNat)
   case atStart=>exact ⟨0,Nat.zero_le _,rfl,H2,HB2⟩
   case round=>
    obtain ⟨j,hj,rfl,HB,HW⟩:=hrel
    have hsz:=HW.out.size
    by_cases hjr:j<r.length
    ·obtain ⟨y,hy⟩:∃ q,q=mkS r[j]:=⟨_,rfl⟩
     have hyz:y.size<=1048576:=by rw [hy,zQ];exact HX.out _ (List.mem_cons_of_mem _ (List.getElem_mem hjr))
     have hck:wr.cell? ⟨b,off+1+j,none⟩=some (.string y):=by
      rw [HW.out.cell (p:=⟨b,off+1+j,none⟩) hb,hy,show off+1+j=off+(j+1) from by omega]
      exact HC.out (j+1) (by simp;omega)
     have HY:=Lib.hid hy
     have hlen:(Lib.byteCells (x0++qO [] (r.take j))).length<=6000000000:=by rw [Lib.byteCells_length];exact HT.out j
     have HE:=Lib.hid (show Lib.byteCells (x0++qO [] (r.take j))++Lib.strCells ⟨#[]⟩++Lib.strCells y=Lib.byteCells (x0++qO [] (r.take (j+1))) from by
      rw [show (⟨#[]⟩:ByteArray)=mkS [] from rfl,HY.out,List.take_succ_eq_append_getElem hjr,joinT_snoc,←List.append_assoc,bc_two])
     clear hy
     go_wp2_with (go_at_call 49;refine (kF w.heap.size w.heap.size _ ⟨#[]⟩ wr HB.out ?_ hsz).mono ?_)
     ·show _+0<=_;omega
     rintro e w3 ⟨rfl,h3,hb3⟩
     have hsz3:=Nat.le_trans hsz hb3.size
     have H3:=Lib.hid h3
     have HB3:=Lib.hid hb3
     clear h3 hb3
     go_wp2_with (go_at_call 49;refine (kF w.heap.size w.heap.size _ y w3 (Or.inr H3.out) ?_ hsz3).mono ?_)
     ·rw [List.length_append,Lib.strCells_length,show (⟨#[]⟩:ByteArray).size=0 from rfl];omega
     rintro e w4 ⟨rfl,h4,hb4⟩
     rw [HE.out] at h4
     have H4:=Lib.hid (Or.inr h4:Lib.IsBuilder 98 5 w.heap.size w.heap.size (Lib.byteCells (x0++qO [] (r.take (j+1)))) w4)
     have HB4:=Lib.hid ((HW.out.trans HB3.out).trans hb4)
     clear h4 hb4
     go_wp2
     go_roundw
     case rel=>exact ⟨j+1,by omega,by go_num,H4,HB4⟩
     case measure=>simp [intOf];omega
    ·obtain rfl:j=r.length:=by omega
     have HB':=HB.out
     rw [List.take_length,←HJ.out] at HB'
     have hne:vN [] (x0::r)≠[]:=by
      rw [HJ.out]
      intro q;exact H0.out (List.append_eq_nil_iff.1 q).1
     have HBF:=Lib.hid HB'
     clear HB'
     go_wp2_with (go_at_call 50;refine (string_any w.heap.size w.heap.size _ _ HBF.out hne).mono ?_)
     rintro e w5 ⟨rfl,hb5⟩
     go_wp2
     go_ret
     exact ⟨rfl,HW.out.trans hb5⟩
theorem joinB_flat:∀ l:List YL,vN [] l=l.flatten
 | []=>rfl
 | [x]=>by simp [vN]
 |x::y::r=>by rw [pE,joinB_flat (y::r)];simp
theorem flat_any (l:List YL)(A:Option Addr)(cap:Nat)(w:World)(hv:Reads yY w w.heap.size A l)(hn:l.length<=5000)(hx:∀ x∈l,x.length<=1048576)(h0:∀ x∈l,x≠[])(hcap:l.length<=cap):
  YC 94 #[.slice A l.length cap,.string ⟨#[]⟩] w (YR (.string (mkS l.flatten)) w):=by
 rw [←joinB_flat]
 match l,hv,hn,hx,h0,hcap with
 | [],_,_,_,_,_=>exact join_none [] A cap w
 | [x],hv,_,_,_,hcap=>exact join_one [] x A cap w hv hcap
 |x::y::r,hv,hn,hx,h0,hcap=>
  obtain ⟨b,off,rfl,hb,hcell⟩:=hv (by simp)
  refine join_flat x (y::r) b off cap w (λj hj=> ?_) hb (by simp) (by simp at hn ⊢;omega) (h0 x (List.mem_cons_self ..)) hx hcap
  refine hcell j _ ?_
  rw [←kL];unfold jD
  rw [List.getElem?_map,List.getElem?_eq_getElem hj];rfl
end
section
set_option linter.unnecessarySimpa false
end
section
set_option linter.unnecessarySimpa false
section
variable {M:List Nat}{n:Nat}{W:World}{Q:Exit->Act->World->Prop}{c:Xc}
end
def stV (s:YL):Value:= .string (mkS s)
end
section
set_option linter.unnecessarySimpa false
theorem RecO.inn {x:Rv}{ob L:List Blk}{M:List Nat}{W w:World}(h:RecO x ob)(hO:Own M W w L)(hs:∀ b∈ob,b∈L)(hB:BndR x.rt)(hF:FewR x.rt 4096):RcIn w w.heap.size x:=by
 obtain ⟨o1,o2,o4,o7,o8,rfl,h1,h4,h7⟩:=h
 exact rec_inn h1 h4 h7 hO (λb hb=>hs b (by simp [hb])) (λb hb=>hs b (by simp [hb])) (λb hb=>hs b (by simp [hb])) (λb hb=>hs b (by simp [hb])) (λb hb=>hs b (by simp [hb])) hB hF
def ParV (s:YL)(v:Value)(ob:List Blk):Prop:=∃ x,v= .tuple #[rvV x,YI (vD s).2.1,YI (vD s).2.2]/\x.rt=(vD s).1/\RecO x ob/\BndR x.rt/\FewR x.rt 4096
def awS1:YL:=[112,97,99,107,97,103,101,32,97,112,112,32,49,46,48,46,48,10,110,101,101,100,10,97,110,121,32,98,32,120,32,102,117,108,108,32,94,49,10,119,104,101,110,32,111,115,32,61,32,120,10,98,97,114,32,99,32,42,10,102,101,97,116,117,114,101,32,121,32,98,47,122,10]
def awS2:YL:=[112,97,99,107,97,103,101,32,97,112,112,32,49,46,48,46,48,10,97,110,121,32,98,32,45,32,102,117,108,108,32,42,10]
end
section
section
variable {M:List Nat}{P:Program}{n:Nat}{W:World}{Q:Exit->Act->World->Prop}{c:Xc}
end
section
variable {M:List Nat}{P:Program}{n:Nat}{ops:Array Oper}{W:World}{L0:List Blk}{Q:Exit->Act->World->Prop}{fuel:Nat}{listed:Array Bool}{L:List Blk}{f:Nat->Value}
end
section
variable {M:List Nat}{P:Program}{n:Nat}{W:World}{Q:Exit->Act->World->Prop}{c:Xc}
end
theorem Reads.fst {α:Type}{g:α->List Value}{w:World}{B:Nat}{A:Option Addr}{l:List α}(h:Reads g w B A l)(k:Nat):Reads g w B A (l.take k):=λh0=>by
 rw [List.length_take] at h0
 obtain ⟨b,off,e,hlt,hc⟩:=h Om
 refine ⟨b,off,e,hlt,λj u hj=>hc j u ?_⟩
 have e2:l.flatMap g=(l.take k).flatMap g++(l.drop k).flatMap g:=by rw [←List.flatMap_append,List.take_append_drop]
 rw [e2,List.getElem?_append_left (by
  have:=List.getElem?_eq_some_iff.1 hj
  exact this.1)]
 exact hj
end
section
set_option linter.unnecessarySimpa false
structure ShortM (m:Mt)(B:Nat):Prop where
 pins:∀ p∈m.pins,p.name.length<=B/\p.shelf.length<=B
 holds:∀ x∈m.holds,x.name.length<=B/\x.rg.length<=B
theorem cut_le {s:YL}{B:Nat}(h:s.length<=B):(zA 32 s).1.length<=B/\(zA 32 s).2.1.length<=B:=by
 have:=jX 32 s
 omega
theorem add_short {m x:Mt}{p:YL}{B:Nat}(h:ShortM m B)(hp:p.length<=B)(e:addT m p=some x):ShortM x B/\x.pins.length+x.holds.length=m.pins.length+m.holds.length+1:=by
 have hc:=cut_le (Nat.le_trans (word_le p).2 hp)
 unfold addT at e
 split at e
 ·cases e
 split at e
 ·split at e
  ·obtain rfl:=Option.some.inj e
   exact ⟨⟨λy hy=>by
    rcases List.mem_append.1 hy with hy|hy
    ·exact h.pins y hy
    ·rw [List.mem_singleton.1 hy];exact hc,h.holds⟩,by unfold addP;simp only [List.length_append,List.length_cons,List.length_nil];omega⟩
  ·cases e
 split at e
 ·split at e
  ·obtain rfl:=Option.some.inj e
   exact ⟨⟨h.pins,λy hy=>by
    rcases List.mem_append.1 hy with hy|hy
    ·exact h.holds y hy
    ·rw [List.mem_singleton.1 hy];exact hc⟩,by unfold addHo;simp only [List.length_append,List.length_cons,List.length_nil];omega⟩
  ·cases e
 ·cases e
theorem tl_short {B:Nat}:∀ (l:List YL) (m:Mt) (k:Nat),ShortM m B->(∀ x∈l,x.length<=B)→∀ y,(tlT m k l).1=some y->ShortM y B/\y.pins.length+y.holds.length<=m.pins.length+m.holds.length+l.length
 | [],m,k,h,_,y,e=>by
  obtain rfl:=Option.some.inj e
  exact ⟨h,Nat.le_add_right _ _⟩
 |p::r,m,k,h,hl,y,e=>by
  rw [tlT] at e
  cases ha:addT m p with
  |none=>rw [ha] at e;cases e
  |some x=>
   rw [ha] at e
   obtain ⟨h1,h2⟩:=add_short h (hl p (List.mem_cons_self ..)) ha
   obtain ⟨h3,h4⟩:=tl_short r x (k+1) h1 (λz hz=>hl z (List.mem_cons_of_mem _ hz)) y e
   refine ⟨h3, ?_⟩
   rw [List.length_cons];omega
theorem read_short {ls:List YL}{B:Nat}(hl:∀ x∈ls,x.length<=B):ShortM (jE ls).1 B/\(jE ls).1.pins.length+(jE ls).1.holds.length<=ls.length:=by
 have hnil:ShortM nilM B/\nilM.pins.length+nilM.holds.length<=ls.length:=⟨⟨(λp hp=>by cases hp),(λp hp=>by cases hp)⟩,Nat.zero_le _⟩
 unfold jE
 split
 ·exact hnil
 unfold outM
 cases h:(tlT ⟨(headM ls).1,[],[]⟩ (yS ls) (ls.drop (yS ls))).1 with
 |none=>exact hnil
 |some y=>
  obtain ⟨h1,h2⟩:=tl_short _ _ _ ⟨(λp hp=>by cases hp),(λp hp=>by cases hp)⟩ (λx hx=>hl x (List.mem_of_mem_drop hx)) y h
  refine ⟨h1,Nat.le_trans h2 ?_⟩
  rw [List.length_drop]
  show 0+0+_<=_
  omega
theorem read_zero {ls:List YL}(h:(jE ls).2.1=0):(jE ls).2.2=0:=by
 unfold jE at h ⊢
 split
 ·next q=>rw [if_pos q] at h;exact absurd h q
 ·next q=>
  rw [if_neg q] at h
  unfold outM at h ⊢
  split
  ·rfl
  ·next q2=>rw [q2] at h;exact absurd h (show ¬ (2:Int)=0 by decide)
theorem MnO.inn {x:Mv}{o1 o2 o3 L:List Blk}{M:List Nat}{W w:World}(h:MnO x o1 o2 o3)(hO:Own M W w L)(hs:∀ b∈o1++(o2++o3),b∈L)(hB:BndR x.rec'.rt)(hF:FewR x.rec'.rt 4096)(hS:ShortM x.mt 1048576)(hn:x.pins.length+x.holds.length<=1048576)(hg:∀ y∈x.holds,GqR y.rg):MnIn w w.heap.size x:=
 ⟨h.rc.inn hO (λb hb=>hs b (List.mem_append_left _ hb)) hB hF,⟨Sl.reads h.pin rfl hO λb hb=>hs b (List.mem_append_right _ (List.mem_append_left _ hb)),hS.pins,by omega⟩,⟨Sl.reads h.hold rfl hO λb hb=>hs b (List.mem_append_right _ (List.mem_append_right _ hb)),λy hy=>⟨(hS.holds y hy).1,hg y hy⟩,by omega⟩⟩
def ReadM (ls:List YL)(v:Value)(ob:List Blk):Prop:=∃ (x:Mv) (o1 o2 o3:List Blk),v= .tuple #[mvV x,YI (jE ls).2.1,YI (jE ls).2.2]/\x.mt=(jE ls).1/\ob=o1++(o2++o3)/\MnO x o1 o2 o3/\BndR x.rec'.rt/\FewR x.rec'.rt 4096
theorem read_out {ls:List YL}{W w:World}{z k:Int}(h:jE ls=(nilM,z,k))(hO:Own [] W w []):∃ v ob,Ending.returned (.tuple #[mvV mv0,YI z,YI k])= .returned v/\ReadM ls v ob/\Own [] W w ob:=
 ⟨_,[],rfl,⟨mv0,[],[],[],by rw [h],by rw [h];rfl,rfl,mv0_o,bnd_nil,few0⟩,hO⟩
abbrev mpB (b5 b:Nat):Blk:=⟨b5, #[.map (some b)],147⟩
structure RnI (ls:List YL)(k:Nat)(R0:Option Mt×Nat)(j:Nat)(x:Mv)(o1 o2 o3:List Blk):Prop where
 le:j<=ls.length-k
 res:tlT x.mt (k+j) (ls.drop (k+j))=R0
 own:MnO x o1 o2 o3
 bnd:BndR x.rec'.rt/\FewR x.rec'.rt 4096
 cnt:x.pins.length+x.holds.length<=j
theorem mRead_any (pb po cap:Nat)(ls:List YL)(W:World)(hv:Reads yY W W.heap.size (some ⟨pb,po,none⟩) ls)(hcap:ls.length<=cap)(hn:ls.length<=600000)(hx:∀ x∈ls,x.length<=600000/\x≠[])(hK:RecLib W)(hL:LyAt W)(hk5:yS ls<=5000)(hfl:((ls.take (yS ls)).flatten).length<=1048576)(hBn:((ls.take (yS ls)).flatten).length<=4096->d8 ((ls.take (yS ls)).flatten)=0->BndR (recA ((ls.take (yS ls)).flatten))):YC 51 #[.slice (some ⟨pb,po,none⟩) ls.length cap] W λe w'=>∃ v ob,e= .returned v/\ReadM ls v ob/\Own [] W w' ob:=by
 have hkl:=ahead_le ls
 have hRd:jE ls=if (vD (ls.take (yS ls)).flatten).2.1≠0 then (nilM,(vD (ls.take (yS ls)).flatten).2.1,(vD (ls.take (yS ls)).flatten).2.2) else outM (tlT ⟨(vD (ls.take (yS ls)).flatten).1,[],[]⟩ (yS ls) (ls.drop (yS ls))):=rfl
 have hbe:behI ls=if yS ls<ls.length then (yS ls:Int) else-1:=rfl
 have hlk:(ls.take (yS ls)).length=yS ls:=by rw [List.length_take];omega
 have hJ:∀ w,Reads yY w w.heap.size (some ⟨pb,po,none⟩) ls->YC 94 #[.slice (some ⟨pb,po,none⟩) (yS ls) cap,.string ⟨#[]⟩] w (YR (.string (mkS (ls.take (yS ls)).flatten)) w):=λw h=>by
  have q:=flat_any (ls.take (yS ls)) (some ⟨pb,po,none⟩) cap w (h.fst _) Om (λx hx'=>Nat.le_trans (hx x (List.mem_of_mem_take hx')).1 (by decide)) (λx hx'=>(hx x (List.mem_of_mem_take hx')).2) Om
  rw [hlk] at q;exact q
 have hvr:=Reads.from_ zX hv hcap (yS ls)
 generalize yS ls=k at*
 generalize (ls.take k).flatten=part at*
 refine zD Tryz.func51 (zJ [] λb2=>x_callW (k:=90) (args:= #[]) [] λw0 hO0=> ?_)
 have hO0':Own [] W w0 [mvB b2 mv0]:=hO0.past 0 [mvB b2 mv0]
 refine (adders_any w0).mono λe w1 hq=> ?_
 obtain ⟨b,q1,q2,q3,q4⟩:=hq
 refine ⟨.map (some b),[b2],[mvB b2 mv0],q1,own_re hO0' q4, ?_⟩
 have hb2:b2<w0.heap.size:=hO0'.lt (x:=mvB b2 mv0) (by simp)
 have hbW:W.heap.size<=b2:=by
  rcases hO0'.base (mvB b2 mv0) (by simp) with h|h
  ·exact h
  ·cases h
 have hWw:YB W w1:=hO0'.below.trans (q4.mono hO0'.below.size)
 have hMb:∀ m∈[b2],W.heap.size<=m:=λm hm=>by rw [List.mem_singleton.1 hm];exact hbW
 have hbk:∀ {w:World} {L:List Blk},Own [b2] w1 w L->Own [] W w L:=λh=>own_back hWw hMb h
 have hmk:∀ {w:World} {L:List Blk},Own [b2] w1 w L->MapF w b:=λh=>q3.kept (h.kept b q3.lt (by simp only [List.mem_singleton];omega))
 have hvw:∀ {w:World} {L:List Blk},Own [b2] w1 w L->Reads yY w w.heap.size (some ⟨pb,po,none⟩) ls:=λh=>hv.on (hbk h).below (hbk h).below.size
 clear hO0 hO0' q4 hb2
 refine zJ [] λb5=>m9 18 [0] (.func (.func 92) #[] #[Zp b5 0]) (λw=>Kr) (z8 (v:=YI (behI ls)) [] (λw hO=>mIdx_any (some ⟨pb,po,none⟩) cap ls b5 b w (hvw hO) (λx hx'=>Nat.le_trans (hx x hx').1 (by decide)) Om ((hO.nth 0 (mpB b5 b)).get (i:=0) rfl) (hmk hO)) ?_)
 refine bR (α:=Int) 21 (λz=>[(0,.slice (some ⟨pb,po,none⟩) ls.length cap),(2,Zp b2 0),(5,Zp b5 0),(6,YI z)]) (λ_=>[mpB b5 b,mvB b2 mv0]) (λz=>z=(k:Int)) [] (λnj=>x_now 21 (behI ls<0) (λh=>nj (ls.length:Int) [] (by
  rw [hbe] at h
  split at h
  ·omega
  ·omega) Kr) (λh=>nj (behI ls) [] (by
  rw [hbe] at h ⊢
  split at h
  ·next q=>rw [if_pos q]
  ·omega) Kr)) (λz g hz=> ?_)
 subst hz
 refine x_slhi 27 [] rfl ls.length cap 1 (k:Int) (by omega) (by omega) (.slice (some ⟨pb,po,none⟩) k cap) (by rw [Int.toNat_natCast]) (z8 (v:= .string (mkS part)) [] (λw hO=>hJ w (hvw hO)) (k8 (k:=11) (args:= #[.string (mkS part)]) (R:=λv ob=>∃ x:Rv,v= .tuple #[rvV x,YI (vD part).2.1,YI (vD part).2.2]/\x.rt=(vD part).1/\RecO x ob/\BndR x.rt/\FewR x.rt 4096) [] (λw hO=>(qParse_any part w hfl (hK.on (hbk hO).below) (hL.on (hbk hO).below) hBn).mono λe w' h=> ?_) ?_))
 ·obtain ⟨x,ob',h1,h2,h3,h4,h5,h6⟩:=h.ex
  exact ⟨_,ob',h1,⟨x,rfl,h2,h3,h4,h5⟩,h6⟩
 rintro _ o1 ⟨x,rfl,hrt,hRo,hB,hF⟩
 refine zJ [] λb7=>vP 34 [0] ((vD part).2.1=0) (λh34=> ?_) (λh34=> ?_)
 rotate_left
 ·exact vO [2] 2 (mvV mv0) (YI (vD part).2.1) (YI (vD part).2.2) λw hO=>read_out (by rw [hRd,if_pos h34]) (hbk hO.no)
 rw [if_neg (λq=>q h34),←hrt] at hRd
 obtain ⟨R0,hR0⟩:∃ R,tlT ⟨x.rt,[],[]⟩ k (ls.drop k)=R:=⟨_,rfl⟩
 rw [hR0] at hRd
 refine zJ [0] λb10=>x_sllo 42 [0] rfl ls.length cap 1 (k:Int) Om Om (.slice (some ⟨pb,po+(if cap=k then 0 else k*1),none⟩) (ls.length-k) (cap-k)) (by rw [Int.toNat_natCast]) ?_
 refine y8 [] (mvB b10 ⟨x,none,0,[],none,0,[]⟩::mpB b5 b::mvB b2 mv0::(o1++([]++[]))) (λw hO=>kE [rvB b7 x] (hO.past 0 (mvB b10 ⟨x,none,0,[],none,0,[]⟩::rvB b7 x::mpB b5 b::mvB b2 mv0::o1)) λp=>by
  simp only [List.countP_append,List.countP_cons,List.countP_nil,List.cons_append,List.nil_append];omega) ?_
 refine zM (α:=Nat×Mv×List Blk×List Blk×List Blk) (λ(j,x,o1,o2,o3)=>[(2,Zp b2 0),(5,Zp b5 0),(6,YI (k:Int)),(10,Zp b10 0),(42,.slice (some ⟨pb,po+(if cap=k then 0 else k*1),none⟩) (ls.length-k) (cap-k)),(43,YI ((ls.length-k:Nat):Int)),(44,YI (j:Int))]) (λ(j,x,o1,o2,o3)=>mvB b10 x::mpB b5 b::mvB b2 mv0::(o1++(o2++o3))) (λ(j,x,o1,o2,o3) m=>RnI ls k R0 j x o1 o2 o3/\m=ls.length-k-j) (0,⟨x,none,0,[],none,0,[]⟩,o1,[],[]) (ls.length-k) [] ⟨⟨Nat.zero_le _,hR0,⟨hRo,Sl.nil _ _,Sl.nil _ _⟩,⟨hB,hF⟩,Nat.zero_le _⟩,rfl⟩ ?_
 clear hRo hB hF hrt hR0
 rintro ⟨j,x,o1,o2,o3⟩ mm g kk ⟨⟨hj,hres,hM,hbd,hcn⟩,hmm⟩ nx hkk
 subst hkk
 replace hj:j<=ls.length-k:=hj
 refine zB 45 [] ((j:Int)<((ls.length-k:Nat):Int)) (λh45=> ?_) (λh45=> ?_)
 rotate_left
 ·have hd:ls.drop (k+j)=[]:=List.drop_of_length_le Om
  rw [hd] at hres
  have hR:jE ls=(x.mt,0,0):=by rw [hRd,←hres];rfl
  exact vO [0,2] 2 (mvV x) (YI 0) (YI 0) λw hO=>⟨_,o1++(o2++o3),rfl,⟨x,o1,o2,o3,by rw [hR],by rw [hR],rfl,hM,hbd.1,hbd.2⟩,hbk (hO.past 3 (o1++(o2++o3)))⟩
 have hjl:j<ls.length-k:=by omega
 have hjd:j<(ls.drop k).length:=by rw [List.length_drop];exact hjl
 obtain ⟨eb,eo,hA2,hel⟩:=hvr.elem zX j hjd
 have hdr:ls.drop (k+j)=(ls.drop k)[j]::ls.drop (k+j+1):=by
  rw [List.getElem_drop]
  exact List.drop_eq_getElem_cons Om
 have hpx:=hx _ (List.mem_of_mem_drop (List.getElem_mem hjd))
 have hel0:∀ w,YB W w->(loadVar 9 ⟨eb,eo+j*1+0,none⟩).run YP w= .ok (.string (mkS (ls.drop k)[j])) w:=λw hw=>hel w hw _ 0 _ Kr
 generalize (ls.drop k)[j]=p at*
 have hwl:=word_le p
 rw [hdr,tlT] at hres
 have hbad:addT x.mt p=none→∀ (w:World) (L:List Blk),Own [b2] w1 w L→∃ v ob,Ending.returned (.tuple #[mvV mv0,YI 2,YI ((k+j+1:Nat):Int)])= .returned v/\ReadM ls v ob/\Own [] W w ob:=λh w L hO=>read_out (by rw [h] at hres;rw [hRd,←hres];rfl) (hbk hO.no)
 refine zI 47 [] hA2 (ls.length-k) (cap-k) j 1 hjl (zH 48 [] 9 eb (eo+j*1+0) (.string (mkS p)) (λw hO=>hel0 w (hbk hO).below) (z8 (v:= .tuple #[.string (mkS (gW p)),.string (mkS (gY p)),.bool (endP p)]) [] (λw hO=>mSplit_any p w (by omega)) (x_bb 54 [] (endP p) (λhend=> ?_) (λhend=> ?_))))
 rotate_left
 ·have ha:addT x.mt p=none:=by unfold addT;rw [if_pos hend]
  exact x_i 74 [] ((k+j:Nat):Int) (x_i 75 [] ((k+j+1:Nat):Int) (vO [2] 2 (mvV mv0) (YI 2) (YI ((k+j+1:Nat):Int)) λw hO=>hbad ha w _ hO))
 refine x_rd [1] (Instr.lookup 147 (.map (some b)) (.string (mkS (gW p))) false) (fnOf (gW p)) (λw hO=>(hmk hO).look Om) ?_
 rcases isTl_of p with ⟨hw,_,e2⟩|⟨hw,_,e2⟩|⟨hw1,hw2,_,e2⟩
 ·rw [e2]
  refine m9 61 [] Z5 (λw=>Kr) (x_rd [1] (Instr.lookup 147 (.map (some b)) (.string (mkS (gW p))) false) (fnOf (gW p)) (λw hO=>(hmk hO).look Om) ?_)
  rw [e2]
  have ha:addT x.mt p=if pinOk x.mt (gY p) then some (addP x.mt (gY p)) else none:=by unfold addT;rw [hend,if_neg Bool.noConfusion,if_pos hw]
  refine yN (k:=141) (args:= #[Zp b10 0,.string (mkS (gY p))]) (Rr:=λv ob'=>∃ x' o2' o3',v= .bool (pinOk x.mt (gY p))/\x'.mt=addP x.mt (gY p)/\MnO x' o1 o2' o3'/\ob'=mvB b10 x'::(o1++(o2'++o3'))) [] (mvB b10 x::mpB b5 b::mvB b2 mv0::(o1++(o2++o3))) [mpB b5 b,mvB b2 mv0] (mvB b10 x::(o1++(o2++o3))) (λw hO=>kE [] hO λp=>by
   simp only [List.countP_append,List.countP_cons,List.countP_nil,List.cons_append,List.nil_append];omega) (λw hO=>(addPin_any b10 x (gY p) o1 o2 o3 w hM (Own.lentR hO) (by omega) (by omega)).mono λe w' h=> ?_) ?_
  ·obtain ⟨x',o2',o3',h1,h2,h3,h4⟩:=h
   exact ⟨_,_,h1,⟨x',o2',o3',rfl,h2,h3,rfl⟩,h4⟩
  rintro _ _ ⟨x',o2',o3',rfl,hmt,hM',rfl⟩
  refine zP 68 (pinOk x.mt (gY p)) (λhok=> ?_) (λhok=> ?_)
  ·rw [hok,if_pos rfl] at ha
   rw [ha] at hres
   have hrc:x'.rec'.rt=x.rec'.rt:=congrArg Mt.rc hmt
   have hcn':x'.pins.length+x'.holds.length<=j+1:=by
    have h1:x'.pins=(addP x.mt (gY p)).pins:=congrArg Mt.pins hmt
    have h2:x'.holds=(addP x.mt (gY p)).holds:=congrArg Mt.holds hmt
    rw [h1,h2]
    show (x.pins++[_]).length+x.holds.length<=_
    rw [List.length_append,List.length_singleton];omega
   exact x_i 44 [] ((j+1:Nat):Int) (y8 [] (mvB b10 x'::mpB b5 b::mvB b2 mv0::(o1++(o2'++o3'))) (λw hO=>kE [] (hO.past 0 (mpB b5 b::mvB b2 mv0::mvB b10 x'::(o1++(o2'++o3')))) λp=>by
    simp only [List.countP_append,List.countP_cons,List.countP_nil,List.cons_append,List.nil_append];omega) (nx (j+1,x',o1,o2',o3') (ls.length-k-(j+1)) [] Om ⟨⟨hjl,by rw [hmt];exact hres,hM',by rw [hrc];exact hbd,hcn'⟩,rfl⟩ Kr Kr))
  ·rw [hok,if_neg Bool.false_ne_true] at ha
   exact x_i 74 [] ((k+j:Nat):Int) (x_i 75 [] ((k+j+1:Nat):Int) (vO [1] 1 (mvV mv0) (YI 2) (YI ((k+j+1:Nat):Int)) λw hO=>hbad ha w _ hO))
 ·rw [e2]
  refine m9 61 [] Z5 (λw=>Kr) (x_rd [1] (Instr.lookup 147 (.map (some b)) (.string (mkS (gW p))) false) (fnOf (gW p)) (λw hO=>(hmk hO).look Om) ?_)
  rw [e2]
  have hnp:¬ gW p=wPin:=λq=>by rw [hw] at q;exact absurd q (by decide)
  have ha:addT x.mt p=if holdOk (gY p) then some (addHo x.mt (gY p)) else none:=by unfold addT;rw [hend,if_neg Bool.noConfusion,if_neg hnp,if_pos hw]
  refine yN (k:=142) (args:= #[Zp b10 0,.string (mkS (gY p))]) (Rr:=λv ob'=>∃ x' o2' o3',v= .bool (holdOk (gY p))/\x'.mt=addHo x.mt (gY p)/\MnO x' o1 o2' o3'/\ob'=mvB b10 x'::(o1++(o2'++o3'))) [] (mvB b10 x::mpB b5 b::mvB b2 mv0::(o1++(o2++o3))) [mpB b5 b,mvB b2 mv0] (mvB b10 x::(o1++(o2++o3))) (λw hO=>kE [] hO λp=>by
   simp only [List.countP_append,List.countP_cons,List.countP_nil,List.cons_append,List.nil_append];omega) (λw hO=>(addHold_any b10 x (gY p) o1 o2 o3 w hM (Own.lentR hO) (by omega) (by omega)).mono λe w' h=> ?_) ?_
  ·obtain ⟨x',o2',o3',h1,h2,h3,h4⟩:=h
   exact ⟨_,_,h1,⟨x',o2',o3',rfl,h2,h3,rfl⟩,h4⟩
  rintro _ _ ⟨x',o2',o3',rfl,hmt,hM',rfl⟩
  refine zP 68 (holdOk (gY p)) (λhok=> ?_) (λhok=> ?_)
  ·rw [hok,if_pos rfl] at ha
   rw [ha] at hres
   have hrc:x'.rec'.rt=x.rec'.rt:=congrArg Mt.rc hmt
   have hcn':x'.pins.length+x'.holds.length<=j+1:=by
    have h1:x'.pins=(addHo x.mt (gY p)).pins:=congrArg Mt.pins hmt
    have h2:x'.holds=(addHo x.mt (gY p)).holds:=congrArg Mt.holds hmt
    rw [h1,h2]
    show x.pins.length+(x.holds++[_]).length<=_
    rw [List.length_append,List.length_singleton];omega
   exact x_i 44 [] ((j+1:Nat):Int) (y8 [] (mvB b10 x'::mpB b5 b::mvB b2 mv0::(o1++(o2'++o3'))) (λw hO=>kE [] (hO.past 0 (mpB b5 b::mvB b2 mv0::mvB b10 x'::(o1++(o2'++o3')))) λp=>by
    simp only [List.countP_append,List.countP_cons,List.countP_nil,List.cons_append,List.nil_append];omega) (nx (j+1,x',o1,o2',o3') (ls.length-k-(j+1)) [] Om ⟨⟨hjl,by rw [hmt];exact hres,hM',by rw [hrc];exact hbd,hcn'⟩,rfl⟩ Kr Kr))
  ·rw [hok,if_neg Bool.false_ne_true] at ha
   exact x_i 74 [] ((k+j:Nat):Int) (x_i 75 [] ((k+j+1:Nat):Int) (vO [1] 1 (mvV mv0) (YI 2) (YI ((k+j+1:Nat):Int)) λw hO=>hbad ha w _ hO))
 ·rw [e2]
  have ha:addT x.mt p=none:=by unfold addT;rw [hend,if_neg Bool.noConfusion,if_neg hw1,if_neg hw2]
  exact m9 61 [] Z4 (λw=>Kr) (x_i 74 [] ((k+j:Nat):Int) (x_i 75 [] ((k+j+1:Nat):Int) (vO [2] 2 (mvV mv0) (YI 2) (YI ((k+j+1:Nat):Int)) λw hO=>hbad ha w _ hO)))
end
section
set_option linter.unnecessarySimpa false
theorem mRead0_any (W:World)(hK:RecLib W)(hL:LyAt W):YC 51 #[.slice none 0 0] W λe w'=>∃ v ob,e= .returned v/\ReadM [] v ob/\Own [] W w' ob:=by
 have hRd:jE []=(nilM,2,1):=by decide+kernel
 have hr:(vD []).2.1=2/\(vD []).2.2=1:=by decide+kernel
 have hJ:∀ w,YC 94 #[.slice none 0 0,.string ⟨#[]⟩] w (YR (.string (mkS [])) w):=λw=>join_none [] none 0 w
 refine zD Tryz.func51 (zJ [] λb2=>x_callW (k:=90) (args:= #[]) [] λw0 hO0=> ?_)
 have hO0':Own [] W w0 [mvB b2 mv0]:=hO0.past 0 [mvB b2 mv0]
 refine (adders_any w0).mono λe w1 hq=> ?_
 obtain ⟨b,q1,q2,q3,q4⟩:=hq
 refine ⟨.map (some b),[b2],[mvB b2 mv0],q1,own_re hO0' q4, ?_⟩
 have hb2:b2<w0.heap.size:=hO0'.lt (x:=mvB b2 mv0) (by simp)
 have hbW:W.heap.size<=b2:=by
  rcases hO0'.base (mvB b2 mv0) (by simp) with h|h
  ·exact h
  ·cases h
 have hWw:YB W w1:=hO0'.below.trans (q4.mono hO0'.below.size)
 have hMb:∀ m∈[b2],W.heap.size<=m:=λm hm=>by rw [List.mem_singleton.1 hm];exact hbW
 have hbk:∀ {w:World} {L:List Blk},Own [b2] w1 w L->Own [] W w L:=λh=>own_back hWw hMb h
 have hmk:∀ {w:World} {L:List Blk},Own [b2] w1 w L->MapF w b:=λh=>q3.kept (h.kept b q3.lt (by simp only [List.mem_singleton];omega))
 clear hO0 hO0' q4 hb2
 refine zJ [] λb5=>m9 18 [0] (.func (.func 92) #[] #[Zp b5 0]) (λw=>Kr) (z8 (v:=YI (-1)) [] (λw hO=>mIdx_any none 0 [] b5 b w (λh=>by simp at h) (λx hx=>by cases hx) (by decide) ((hO.nth 0 (mpB b5 b)).get (i:=0) rfl) (hmk hO)) (m9 27 [] (.slice none 0 0) (λw=>Kr) (z8 (v:= .string (mkS [])) [] (λw hO=>hJ w) ?_)))
 refine k8 (k:=11) (args:= #[.string (mkS [])]) (R:=λv ob=>∃ x:Rv,v= .tuple #[rvV x,YI 2,YI 1]) [] (λw hO=>(qParse_any [] w (by decide) (hK.on (hbk hO).below) (hL.on (hbk hO).below) (λ_ h=>absurd h (by decide))).mono λe w' h=> ?_) ?_
 ·obtain ⟨x,ob',h1,_,_,_,_,h6⟩:=h.ex
  rw [hr.1,hr.2] at h1
  exact ⟨_,ob',h1,⟨x,rfl⟩,h6⟩
 rintro _ o1 ⟨x,rfl⟩
 exact zJ [] λb7=>vO [0,2] 2 (mvV mv0) (YI 2) (YI 1) λw hO=>read_out hRd (hbk hO.no)
def ParM (s:YL)(v:Value)(ob:List Blk):Prop:=∃ (x:Mv) (o1 o2 o3:List Blk),v= .tuple #[mvV x,YI (vF s).2.1,YI (vF s).2.2]/\x.mt=(vF s).1/\ob=o1++(o2++o3)/\MnO x o1 o2 o3/\BndR x.rec'.rt/\FewR x.rec'.rt 4096
theorem mParse_any (s:YL)(W:World)(hs:s.length<=1048576)(hK:RecLib W)(hL:LyAt W)(hk5:yS (xD [] s)<=5000)(hBn:(((xD [] s).take (yS (xD [] s))).flatten).length<=4096->d8 (((xD [] s).take (yS (xD [] s))).flatten)=0->BndR (recA (((xD [] s).take (yS (xD [] s))).flatten)))(hH:(jE (xD [] s)).2.1=0→∀ y∈(jE (xD [] s)).1.holds,GqR y.rg):YC 23 #[.string (mkS s)] W λe w'=>∃ v ob,e= .returned v/\ParM s v ob/\Own [] W w' ob:=by
 have hout:∀ (z k:Int) (w:World),vF s=(nilM,z,k)->Own [] W w []→∃ v ob,Ending.returned (.tuple #[mvV mv0,YI z,YI k])= .returned v/\ParM s v ob/\Own [] W w ob:=λz k w e hO=>⟨_,[],rfl,⟨mv0,[],[],[],by rw [e],by rw [e];rfl,rfl,mv0_o,bnd_nil,few0⟩,hO⟩
 refine zD Tryz.func23 (zJ [] λb2=>zB 10 [] ((s.length:Int)>8192) (λh10=> ?_) (λh10=> ?_))
 ·exact vO [0] 0 (mvV mv0) (YI 3) (YI 0) λw hO=>hout 3 0 w (by unfold vF;rw [if_pos Om]) hO.no
 have hs5:s.length<=8192:=by omega
 have hI:vF s=if (jE (xD [] s)).2.1≠0 then jE (xD [] s) else if (yJ (jE (xD [] s)).1).1≠0 then (nilM,(yJ (jE (xD [] s)).1).1,0) else ((jE (xD [] s)).1,0,0):=by unfold vF;rw [if_neg Om]
 have hRn:(jE (xD [] s)).2.1≠0->(jE (xD [] s)).1=nilM:=λh=>by
  unfold jE at h ⊢
  split
  ·rfl
  ·next q=>
   rw [if_neg q] at h
   unfold outM at h ⊢
   split
   ·next q2=>rw [q2] at h;exact absurd rfl h
   ·rfl
 obtain ⟨hl1,hl2⟩:=lns_all s.length s (Nat.le_refl _)
 have hcl:∀ w,YC 31 #[.string (mkS s)] w (YR (.string (mkS s)) w):=λw=>jS s w Om
 refine z8 (v:= .string (mkS s)) [] (λw hO=>hcl w) (k8 (R:=λv ob=>∃ B,v= .func (.func 96) #[] #[Zp B 0]/\ob=[yW B s]) [] (λw hO=>qLines_any s w) ?_)
 rintro v ob2 ⟨B,rfl,rfl⟩
 refine yN (k:=52) (args:= #[.func (.func 96) #[] #[Zp B 0]]) (Rr:=λv ob'=>∃ o,ob'=yW B []::o/\SlT v (xD [] s) o) [] (mvB b2 mv0::[yW B s]) [mvB b2 mv0] [yW B s] (λw hO=>hO) (λw hO=>(col_any B s w (Own.lentR hO) Om).mono λe w' ⟨v,o,q1,q2,q3⟩=>⟨v,_,q1,⟨o,rfl,q2⟩,q3⟩) ?_
 rintro v _ ⟨o,rfl,hS⟩
 have hfl:(((xD [] s).take (yS (xD [] s))).flatten).length<=1048576:=by
  have h1:((xD [] s).flatten).length<=s.length:=by rw [lnsP_flat];exact Nat.le_refl _
  have h2:=congrArg List.length (congrArg List.flatten (List.take_append_drop (yS (xD [] s)) (xD [] s)))
  rw [List.flatten_append,List.length_append] at h2
  omega
 have hsh:=read_short (ls:=xD [] s) (B:=1048576) λx hx=>Nat.le_trans (hl2 x hx).1 Om
 have hz:=read_zero (ls:=xD [] s)
 have hread:∀ w,Own [] W w o->YC 51 #[v] w λe w'=>∃ v ob,e= .returned v/\ReadM (xD [] s) v ob/\Own [] w w' ob:=λw hO=>by
  have hS':=hS
  rcases hS'.2 with ⟨h1,h2,_⟩|⟨g,cap,cur,h1,h2,h3,_⟩
  ·have h0:xD [] s=[]:=List.length_eq_zero_iff.1 (by simpa using h2)
   rw [h0,h1]
   exact mRead0_any w (hK.on hO.below) (hL.on hO.below)
  ·rw [h1]
   rw [h1] at hS
   exact mRead_any g 0 cap (xD [] s) w (SlT.reads hS rfl hO λb h=>h) (SlT.caps hS).2 Om (λx hx=>⟨by have:=(hl2 x hx).1;omega,(hl2 x hx).2⟩) (hK.on hO.below) (hL.on hO.below) hk5 hfl hBn
 refine k8 (k:=51) (args:= #[v]) (R:=ReadM (xD [] s)) [] (λw hO=>hread w (hO.past 2 o)) ?_
 rintro _ _ ⟨x,o1,o2,o3,rfl,hmt,rfl,hM,hB,hF⟩
 have hpair:jE (xD [] s)=(x.mt,(jE (xD [] s)).2.1,(jE (xD [] s)).2.2):=by rw [hmt]
 rw [←hmt] at hI hH hsh hRn
 generalize (jE (xD [] s)).2.1=z1 at*
 generalize (jE (xD [] s)).2.2=z2 at*
 refine zJ [] λb5=>zB 22 [0] (z1=0) (λh22=> ?_) (λh22=> ?_)
 ·obtain rfl:z2=0:=hz h22
  have hH':=hH h22
  have hck:∀ w,Own [] W w (mvB b5 x::mvB b2 mv0::yW B []::(o++(o1++(o2++o3))))->YC 19 #[mvV x] w (YR (.tuple #[YI (yJ x.mt).1,YI (yJ x.mt).2]) w):=λw hO=>
   mCheck_any x w (hM.inn hO (λb hb=>by simp only [List.mem_cons,List.mem_append] at hb ⊢;exact .inr (.inr (.inr (.inr hb)))) hB hF hsh.1 (by have:=hsh.2;have e:x.pins.length+x.holds.length=x.mt.pins.length+x.mt.holds.length:=rfl;omega) hH') (hK.on hO.below)
  refine z8 (v:= .tuple #[YI (yJ x.mt).1,YI (yJ x.mt).2]) [0] (λw hO=>hck w (hO.past 0 (mvB b5 x::mvB b2 mv0::yW B []::(o++(o1++(o2++o3)))))) (vP 29 [] ((yJ x.mt).1=0) (λh29=> ?_) (λh29=> ?_))
  ·have e:vF s=(x.mt,0,0):=by rw [hI,if_neg (λq=>q h22),if_neg (λq=>q h29)]
   exact vO [0,1] 1 (mvV x) (YI 0) (YI 0) λw hO=>⟨_,o1++(o2++o3),rfl,⟨x,o1,o2,o3,by rw [e],by rw [e],rfl,hM,hB,hF⟩,(hO.past 3 (o++(o1++(o2++o3)))).sublist (List.sublist_append_right _ _)⟩
  ·exact vO [1] 1 (mvV mv0) (YI (yJ x.mt).1) (YI 0) λw hO=>hout _ _ w (by rw [hI,if_neg (λq=>q h22),if_pos h29]) hO.no
 ·have e:vF s=(nilM,z1,z2):=by rw [hI,if_pos h22,hpair,hRn h22]
  exact vP 29 [] (z1=0) (λh=>absurd h h22) λ_=>vO [1] 1 (mvV mv0) (YI z1) (YI z2) λw hO=>hout _ _ w e hO.no
end
section
theorem fm_count {α:Type}(f:α->YL)(h:∀ x,1<=(f x).length):∀ l:List α,l.length<=(l.flatMap f).length
 | []=>Nat.zero_le _
 |x::l=>by
  have:=fm_count f h l
  have:=h x
  rw [List.flatMap_cons,List.length_append,List.length_cons];omega
theorem chk_bnd {r:Rt}(h:(zV r).1=0):BndR r/\FewR r 4096:=by
 obtain ⟨h1,h2,h3,h4,h5,h6⟩:=dW h
 obtain ⟨pn,pb,_,_⟩:=parts_fine h5
 have hl:(jB r).length+(r.fts.flatMap gK).length<=4096:=by
  unfold kS at h6
  simp only [List.length_append] at h6;omega
 have hv:r.ver.pre.length<=4096/\r.ver.build.length<=4096:=by
  have e:r.ver.print=bX r.ver++xH 45 r.ver.pre++xH 43 r.ver.build:=by unfold Ver.print Ver.text;rw [if_pos h2]
  have hh:(jB r).length<=4096:=by omega
  unfold jB at hh
  rw [e] at hh
  have ht:∀ (c:UInt8) (l:YL),l.length<=(xH c l).length:=λc l=>by
   unfold xH;cases l<;>simp
  have a:=ht 45 r.ver.pre
  have b:=ht 43 r.ver.build
  simp only [List.length_append] at hh
  omega
 have hf:∀ f∈r.fts,(gK f).length<=4096:=λf hf=>Nat.le_trans (fm_one gK hf) Om
 refine ⟨⟨Nat.le_trans (fG h1) (by decide),by omega,by omega,λn hn=> ?_,λb hb=> ?_,λf hm=> ?_⟩,⟨by omega,by omega,Nat.le_trans (fm_count gK (λf=>by unfold gK;simp) r.fts) (by omega),λn hn=>by have:=(need_fine (pn n hn)).2.1;omega⟩⟩
 ·obtain ⟨_,_,q3,q4,q5⟩:=need_fine (pn n hn)
  refine ⟨gdM_of q4, ?_,λu hu=> ?_⟩
  ·rcases q5 with e|e
   ·rw [e];exact Nat.zero_le _
   ·exact Nat.le_trans (tW e) (by decide)
  ·obtain ⟨u1,u2,u3⟩:=wish_fine (q3 u hu)
   unfold dB at u3
   simp only [Bool.and_eq_true,decide_eq_true_eq,List.all_eq_true] at u3
   exact ⟨Nat.le_trans (fG u1) (by decide),gdR_of u2,by omega,λt ht=>Nat.le_trans (tW (u3.1.1.1 t ht)) (by decide)⟩
 ·obtain ⟨q1,q2,q3⟩:=bar_fine (pb b hb)
  exact ⟨Nat.le_trans (fG q1) (by decide),gdR_of q2,gdM_of q3⟩
 ·have hq:=hf f hm
  unfold gK at hq
  rw [List.length_append,List.length_singleton] at hq
  have hp:=λx (hx:x∈x6::f.name::f.of)=>jn_part 32 hx
  have hc:=jn_many 32 (l:=x6::f.name::f.of)
  simp only [List.length_cons] at hc
  refine ⟨by have:=hp f.name (by simp);omega,by omega,λt ht=>by have:=hp t (by simp [ht]);omega⟩
end
section
set_option linter.unnecessarySimpa false
def awA:YL:=[112,97,99,107,97,103,101,32,97,112,112,32,49,46,48,46,48,10,112,105,110,32,98,32,111,110,101,10,104,111,108,100,32,98,32,60,50,10]
def awB:YL:=[112,97,99,107,97,103,101,32,97,112,112,32,49,46,48,46,48,10,104,111,108,100,32,98,32,60,50,10,112,105,110,32,98,32,111,110,101,10]
theorem awA_is:(vF awA).2.1=0/\(vF awA).2.2=0/\(vF awA).1.pins.length=1/\(vF awA).1.holds.length=1/\(yJ (vF awA).1).1=0/\(manT (vF awA).1).length=38:=by decide+kernel
theorem awA_short:(∀ p∈(vF awA).1.pins,p.name.length<=1048576/\p.shelf.length<=1048576)∧∀ y∈(vF awA).1.holds,(y.name.length<=1048576/\y.rg.length<=1048576)/\yG y.rg=true:=by decide+kernel
theorem awB_is:(vF awB).2.1=2/\(vF awB).2.2=3:=by decide+kernel
theorem bnd_of {s:YL}(h:(zV (recA s)).1=0):s.length<=4096->d8 s=0->BndR (recA s):=λ_ _=>(chk_bnd h).1
theorem parA_any (W:World)(hK:RecLib W)(hL:LyAt W):YC 23 #[.string (mkS awA)] W λe w'=>∃ v ob,e= .returned v/\(∃ (x:Mv) (o1 o2 o3:List Blk),v= .tuple #[mvV x,YI 0,YI 0]/\x.mt=(vF awA).1/\ob=o1++(o2++o3)/\MnO x o1 o2 o3/\BndR x.rec'.rt/\FewR x.rec'.rt 4096)/\Own [] W w' ob:=
 (mParse_any awA W (by decide) hK hL (by decide+kernel) (bnd_of (by decide+kernel)) (λ_ y hy=>gqR_of (gdR_of ((show ∀ y∈(jE (xD [] awA)).1.holds,yG y.rg=true by decide+kernel) y hy)))).mono λe w' ⟨v,ob,h1,⟨x,o1,o2,o3,h2,h3,h4,h5,h6,h7⟩,h8⟩=>⟨v,ob,h1,⟨x,o1,o2,o3,by rw [h2,awA_is.1,awA_is.2.1],h3,h4,h5,h6,h7⟩,h8⟩
theorem parB_any (W:World)(hK:RecLib W)(hL:LyAt W):YC 23 #[.string (mkS awB)] W λe w'=>∃ v ob,e= .returned v/\(∃ x:Mv,v= .tuple #[mvV x,YI 2,YI 3])/\Own [] W w' ob:=
 (mParse_any awB W (by decide) hK hL (by decide+kernel) (bnd_of (by decide+kernel)) (λ_ y hy=>gqR_of (gdR_of ((show ∀ y∈(jE (xD [] awB)).1.holds,yG y.rg=true by decide+kernel) y hy)))).mono λe w' ⟨v,ob,h1,⟨x,o1,o2,o3,h2,h3,h4,h5,h6,h7⟩,h8⟩=>⟨v,ob,h1,⟨x,by rw [h2,awB_is.1,awB_is.2]⟩,h8⟩
theorem awake16_any (W:World)(hK:RecLib W)(hL:LyAt W):YC 18 #[] W (YR (.bool true) W):=by
 refine zD Tryz.func18 (k8 (k:=23) (args:= #[.string (mkS awA)]) [] (λw hO=>parA_any w (hK.on hO.below) (hL.on hO.below)) ?_)
 rintro _ _ ⟨x,o1,o2,o3,rfl,hmt,rfl,hM,hB,hF⟩
 obtain ⟨_,_,hp1,hh1,hck,hlen⟩:=awA_is
 have hsh:=awA_short
 rw [←hmt] at hp1 hh1 hck hlen hsh
 replace hp1:x.pins.length=1:=hp1
 replace hh1:x.holds.length=1:=hh1
 have hin:∀ w,Own [] W w (o1++(o2++o3))->MnIn w w.heap.size x:=λw hO=>hM.inn hO (λb hb=>hb) hB hF ⟨hsh.1,λy hy=>(hsh.2 y hy).1⟩ Om λy hy=>gqR_of (gdR_of (hsh.2 y hy).2)
 have hpr:prMn x.mt=manT x.mt:=if_pos hck
 have cP:∀ w,Own [] W w (o1++(o2++o3))->YC 21 #[mvV x] w (YR (.tuple #[.string (mkS (manT x.mt)),YI 0]) w):=λw hO=>by
  have h:=mPrint_any x w (hin w hO) (hK.on hO.below)
  rw [hpr,hck] at h;exact h
 generalize manT x.mt=T at*
 clear hin hM hB hF hsh
 refine zJ [] λb1=>z8 (v:= .tuple #[.string (mkS T),YI 0]) [0,0] (λw hO=>cP w (hO.past 1 (o1++(o2++o3)))) (k8 (k:=23) (args:= #[.string (mkS awB)]) [] (λw hO=>parB_any w (hK.on hO.below) (hL.on hO.below)) ?_)
 rintro _ ob2 ⟨y,rfl⟩
 refine zJ [] λb6=>zB 38 [0,1] ((x.pins.length:Int)=1) (λ_=> ?_) (λh=>absurd Om h)
 refine zB 44 [1] ((x.holds.length:Int)=1) (λ_=> ?_) (λh=>absurd Om h)
 refine zB 49 [] ((T.length:Int)=38) (λ_=> ?_) (λh=>absurd Om h)
 exact z7 [] Z4 λw hO=>⟨rfl,hO.below⟩
end
section
set_option linter.unnecessarySimpa false
def p7 (l:List Pn):Int×Int:=if tV l<l.length then (15,(tV l:Int)) else (0,0)
theorem pinsZ_at {l:List Pn}{i:Nat}(hi:i<l.length)(h0:∀ j,j<i->okP l j=true)(h1:okP l i=false):p7 l=(15,(i:Int)):=by
 have e:tV l=i:=fbad_at hi h0 h1
 unfold p7
 rw [e,if_pos hi]
theorem pinsZ_all {l:List Pn}(h:∀ j,j<l.length->okP l j=true):p7 l=(0,0):=by
 have e:tV l=l.length:=fbad_all h
 unfold p7
 rw [e,if_neg (Nat.lt_irrefl _)]
theorem r16pins_any (A:Option Addr)(cap:Nat)(ps:List Pn)(W:World)(hx:PmIn W W.heap.size A ps):YC 47 #[.slice A ps.length cap] W (YR (.tuple #[YI (p7 ps).1,YI (p7 ps).2]) W):=by
 have hn5:=hx.n
 obtain ⟨r,hr⟩:∃ r,p7 ps=r:=⟨_,rfl⟩
 have hend:(∀ j,j<ps.length->okP ps j=true)->r=(0,0):=λh=>hr▸pinsZ_all h
 have hat:∀ i,i<ps.length->(∀ j,j<i->okP ps j=true)->okP ps i=false->r=(15,(i:Int)):=λi hi h0 h1=>hr▸pinsZ_at hi h0 h1
 rw [hr]
 refine zD Tryz.func47 (zM (α:=Nat) (λi=>[(0,.slice A ps.length cap),(4,YI (i:Int))]) (λ_=>[]) (λi m=>(i<=ps.length∧∀ j,j<i->okP ps j=true)/\m=ps.length-i) 0 ps.length [] ⟨⟨Nat.zero_le _,λj h=>by omega⟩,rfl⟩ ?_)
 rintro i mm g kk ⟨⟨hi,hok⟩,hmm⟩ nx hkk
 subst hkk
 refine zB 8 [] ((i:Int)<(ps.length:Int)) (λh9=> ?_) (λh9=> ?_)
 rotate_left
 ·exact zS [] (YI 0) (YI 0) λw hO=>⟨by rw [hend λj hj=>hok j Om],hO.below⟩
 have hj:i<ps.length:=by omega
 have hno:∀ z:Int,r=(z,(i:Int))→∀ w,YB W w->(Ending.returned (.tuple #[YI z,YI (i:Int)])= .returned (.tuple #[YI r.1,YI r.2]))/\YB W w:=λz h w hb=>⟨by rw [h],hb⟩
 have hat:=hat i hj hok
 obtain ⟨eb,eo,hA,hel⟩:=hx.top.elem pZ i hj
 have hel0:∀ w,YB W w->(loadVar 9 ⟨eb,eo+i*2+0,none⟩).run YP w= .ok (.string (mkS ps[i].name)) w:=λw hw=>hel w hw _ 0 _ Kr
 have hel1:∀ w,YB W w->(loadVar 9 ⟨eb,eo+i*2+1,none⟩).run YP w= .ok (.string (mkS ps[i].shelf)) w:=λw hw=>hel w hw _ 1 _ Kr
 have hq:okP ps i=(nmL ps[i].name && nmL ps[i].shelf && Op.bytesLess (yR (ps.map Pn.name) i) ps[i].name):=by unfold okP;rw [List.getElem?_eq_getElem hj]
 have hsn:=hx.sn _ (List.getElem_mem hj)
 have hprev:0<i→∃ fb fo,A=some ⟨fb,fo,none⟩∧∀ w,YB W w->(loadVar 9 ⟨fb,fo+(i-1)*2+0,none⟩).run YP w= .ok (.string (mkS (yR (ps.map Pn.name) i))) w:=λh0=>by
  obtain ⟨fb,fo,hB,hel2⟩:=hx.top.elem pZ (i-1) Om
  refine ⟨fb,fo,hB,λw hw=> ?_⟩
  have e:yR (ps.map Pn.name) i=(ps[i-1]'Om).name:=by
   unfold yR
   rw [dif_pos ⟨h0,by rw [List.length_map];omega⟩,List.getElem_map]
  rw [e]
  exact hel2 w hw _ 0 _ Kr
 have hstep:okP ps i=true→∀ j,j<i+1->okP ps j=true:=λh j hji=>by
  rcases Nat.lt_succ_iff_lt_or_eq.1 hji with h2|h2
  ·exact hok j h2
  ·rw [h2];exact h
 have hl0:i=0->yR (ps.map Pn.name) i=[]:=by rintro rfl;rfl
 generalize okP ps i=o at*
 generalize yR (ps.map Pn.name) i=la at*
 have hz:i=0->la=[]->Op.bytesLess la ps[i].name=true\/nmL ps[i].name=false:=λ_ h=>by
  cases h2:nmL ps[i].name with
  |false=>exact .inr rfl
  |true=>exact .inl (by rw [h];exact nil_less _ (nm_ne h2))
 generalize ps[i].name=pn at*
 generalize ps[i].shelf=pf at*
 have cN:∀ w,YC 76 #[.string (mkS pn)] w (YR (.bool (nmL pn)) w):=λw=>wY pn w hsn.1
 have cS:∀ w,YC 76 #[.string (mkS pf)] w (YR (.bool (nmL pf)) w):=λw=>wY pf w hsn.2
 refine zI 13 [] hA ps.length cap i 2 hj (zH 15 [] 9 eb (eo+i*2+0) (.string (mkS pn)) (λw hO=>hel0 w hO.below) (z8 (v:= .bool (nmL pn)) [] (λw hO=>cN w) (zP 16 (nmL pn) (λh15=> ?_) (λh15=> ?_))))
 rotate_left
 ·exact zS [] (YI 15) (YI (i:Int)) λw hO=>hno 15 (hat (by rw [hq,h15];rfl)) w hO.below
 refine zI 21 [] hA ps.length cap i 2 hj (zH 23 [] 9 eb (eo+i*2+1) (.string (mkS pf)) (λw hO=>hel1 w hO.below) (z8 (v:= .bool (nmL pf)) [] (λw hO=>cS w) (zP 24 (nmL pf) (λh23=> ?_) (λh23=> ?_))))
 rotate_left
 ·exact zS [] (YI 15) (YI (i:Int)) λw hO=>hno 15 (hat (by rw [hq,h15,h23];rfl)) w hO.below
 refine zB 29 [] ((i:Int)>0) (λh28=> ?_) (λh28=> ?_)
 ·obtain ⟨fb,fo,hB,hel2⟩:=hprev Om
  refine v8 33 [] (YI (IntKind.i64.wrap ((i:Int) -1))) (YI ((i-1:Nat):Int)) (by rw [IntWalk.i64_in _ (by omega)];congr 1;omega) (zI 34 [] hB ps.length cap (i-1) 2 (by omega) (zH 36 [] 9 fb (fo+(i-1)*2+0) (.string (mkS la)) (λw hO=>hel2 w hO.below) (zI 39 [] hA ps.length cap i 2 hj (zH 41 [] 9 eb (eo+i*2+0) (.string (mkS pn)) (λw hO=>hel0 w hO.below) (x_sge 42 [] la pn (λh41=> ?_) (λh41=> ?_))))))
  ·exact x_i 4 [] ((i+1:Nat):Int) (nx (i+1) (ps.length-(i+1)) [] Om ⟨⟨hj,hstep (by rw [hq,h15,h23,h41];rfl)⟩,rfl⟩ Kr Kr)
  ·exact zS [] (YI 15) (YI (i:Int)) λw hO=>hno 15 (hat (by rw [hq,h15,h23,h41];rfl)) w hO.below
 ·have hi0:i=0:=by omega
  have hbl:Op.bytesLess la pn=true:=(hz hi0 (hl0 hi0)).resolve_right λq=>by rw [h15] at q;cases q
  exact x_i 4 [] ((i+1:Nat):Int) (nx (i+1) (ps.length-(i+1)) [] Om ⟨⟨hj,hstep (by rw [hq,h15,h23,hbl];rfl)⟩,rfl⟩ Kr Kr)
theorem r16holds_any (A:Option Addr)(cap:Nat)(ps:List Ho)(W:World)(hx:HoIn W W.heap.size A ps):YC 48 #[.slice A ps.length cap] W (YR (.tuple #[YI (d7 ps).1,YI (d7 ps).2]) W):=by
 have hn5:=hx.n
 obtain ⟨r,hr⟩:∃ r,d7 ps=r:=⟨_,rfl⟩
 have hend:(∀ j,j<ps.length->(bP ps j && mK ps j)=true)->r=(0,0):=λh=>hr▸badH_all h
 have hat:∀ i,i<ps.length->(∀ j,j<i->(bP ps j && mK ps j)=true)->(bP ps i && mK ps i)=false->r=(if bP ps i then 6 else 4,(i:Int)):=λi hi h0 h1=>hr▸badH_at hi h0 h1
 rw [hr]
 refine zD Tryz.func48 (zM (α:=Nat) (λi=>[(0,.slice A ps.length cap),(4,YI (i:Int))]) (λ_=>[]) (λi m=>(i<=ps.length∧∀ j,j<i->(bP ps j && mK ps j)=true)/\m=ps.length-i) 0 ps.length [] ⟨⟨Nat.zero_le _,λj h=>by omega⟩,rfl⟩ ?_)
 rintro i mm g kk ⟨⟨hi,hok⟩,hmm⟩ nx hkk
 subst hkk
 refine zB 8 [] ((i:Int)<(ps.length:Int)) (λh9=> ?_) (λh9=> ?_)
 rotate_left
 ·exact zS [] (YI 0) (YI 0) λw hO=>⟨by rw [hend λj hj=>hok j Om],hO.below⟩
 have hj:i<ps.length:=by omega
 have hno:∀ z:Int,r=(z,(i:Int))→∀ w,YB W w->(Ending.returned (.tuple #[YI z,YI (i:Int)])= .returned (.tuple #[YI r.1,YI r.2]))/\YB W w:=λz h w hb=>⟨by rw [h],hb⟩
 have hat:=hat i hj hok
 obtain ⟨eb,eo,hA,hel⟩:=hx.top.elem tC i hj
 have hel0:∀ w,YB W w->(loadVar 9 ⟨eb,eo+i*2+0,none⟩).run YP w= .ok (.string (mkS ps[i].name)) w:=λw hw=>hel w hw _ 0 _ Kr
 have hel1:∀ w,YB W w->(loadVar 9 ⟨eb,eo+i*2+1,none⟩).run YP w= .ok (.string (mkS ps[i].rg)) w:=λw hw=>hel w hw _ 1 _ Kr
 have hq:bP ps i=(nmL ps[i].name && Op.bytesLess (yR (ps.map Ho.name) i) ps[i].name):=by unfold bP;rw [List.getElem?_eq_getElem hj]
 have hq2:mK ps i=yG ps[i].rg:=by unfold mK;rw [List.getElem?_eq_getElem hj]
 have hsn:=hx.sn _ (List.getElem_mem hj)
 have hprev:0<i→∃ fb fo,A=some ⟨fb,fo,none⟩∧∀ w,YB W w->(loadVar 9 ⟨fb,fo+(i-1)*2+0,none⟩).run YP w= .ok (.string (mkS (yR (ps.map Ho.name) i))) w:=λh0=>by
  obtain ⟨fb,fo,hB,hel2⟩:=hx.top.elem tC (i-1) Om
  refine ⟨fb,fo,hB,λw hw=> ?_⟩
  have e:yR (ps.map Ho.name) i=(ps[i-1]'Om).name:=by
   unfold yR
   rw [dif_pos ⟨h0,by rw [List.length_map];omega⟩,List.getElem_map]
  rw [e]
  exact hel2 w hw _ 0 _ Kr
 have hstep:(bP ps i && mK ps i)=true→∀ j,j<i+1->(bP ps j && mK ps j)=true:=λh j hji=>by
  rcases Nat.lt_succ_iff_lt_or_eq.1 hji with h2|h2
  ·exact hok j h2
  ·rw [h2];exact h
 have hl0:i=0->yR (ps.map Ho.name) i=[]:=by rintro rfl;rfl
 generalize bP ps i=o at*
 generalize mK ps i=o2 at*
 generalize yR (ps.map Ho.name) i=la at*
 have hz:i=0->la=[]->Op.bytesLess la ps[i].name=true\/nmL ps[i].name=false:=λ_ h=>by
  cases h2:nmL ps[i].name with
  |false=>exact .inr rfl
  |true=>exact .inl (by rw [h];exact nil_less _ (nm_ne h2))
 generalize ps[i].name=pn at*
 generalize ps[i].rg=pf at*
 have cN:∀ w,YC 76 #[.string (mkS pn)] w (YR (.bool (nmL pn)) w):=λw=>wY pn w hsn.1
 have cS:∀ w,YC 88 #[.string (mkS pf)] w (YR (.bool (yG pf)) w):=λw=>r7Plain_any pf w hsn.2
 have h4:o=false->r=(4,(i:Int)):=λh=>by have h2:=hat (by rw [h];rfl);rw [h] at h2;exact h2
 refine zI 13 [] hA ps.length cap i 2 hj (zH 15 [] 9 eb (eo+i*2+0) (.string (mkS pn)) (λw hO=>hel0 w hO.below) (z8 (v:= .bool (nmL pn)) [] (λw hO=>cN w) (zP 16 (nmL pn) (λh15=> ?_) (λh15=> ?_))))
 rotate_left
 ·exact zS [] (YI 4) (YI (i:Int)) λw hO=>hno 4 (h4 (by rw [hq,h15];rfl)) w hO.below
 refine zB 20 [] ((i:Int)>0) (λh28=> ?_) (λh28=> ?_)
 ·obtain ⟨fb,fo,hB,hel2⟩:=hprev Om
  refine v8 24 [] (YI (IntKind.i64.wrap ((i:Int) -1))) (YI ((i-1:Nat):Int)) (by rw [IntWalk.i64_in _ (by omega)];congr 1;omega) (zI 25 [] hB ps.length cap (i-1) 2 (by omega) (zH 27 [] 9 fb (fo+(i-1)*2+0) (.string (mkS la)) (λw hO=>hel2 w hO.below) (zI 30 [] hA ps.length cap i 2 hj (zH 32 [] 9 eb (eo+i*2+0) (.string (mkS pn)) (λw hO=>hel0 w hO.below) (x_sge 33 [] la pn (λh41=> ?_) (λh41=> ?_))))))
  rotate_left
  ·exact zS [] (YI 4) (YI (i:Int)) λw hO=>hno 4 (h4 (by rw [hq,h15,h41];rfl)) w hO.below
  have ho:o=true:=by rw [hq,h15,h41];rfl
  refine zI 39 [] hA ps.length cap i 2 hj (zH 41 [] 9 eb (eo+i*2+1) (.string (mkS pf)) (λw hO=>hel1 w hO.below) (z8 (v:= .bool (yG pf)) [] (λw hO=>cS w) (zP 42 (yG pf) (λh42=> ?_) (λh42=> ?_))))
  ·exact x_i 4 [] ((i+1:Nat):Int) (nx (i+1) (ps.length-(i+1)) [] Om ⟨⟨hj,hstep (by rw [ho,hq2,h42];rfl)⟩,rfl⟩ Kr Kr)
  ·exact zS [] (YI 6) (YI (i:Int)) λw hO=>hno 6 (by have h:=hat (by rw [ho,hq2,h42];rfl);rw [ho] at h;exact h) w hO.below
 ·have hi0:i=0:=by omega
  have hbl:Op.bytesLess la pn=true:=(hz hi0 (hl0 hi0)).resolve_right λq=>by rw [h15] at q;cases q
  have ho:o=true:=by rw [hq,h15,hbl];rfl
  refine zI 39 [] hA ps.length cap i 2 hj (zH 41 [] 9 eb (eo+i*2+1) (.string (mkS pf)) (λw hO=>hel1 w hO.below) (z8 (v:= .bool (yG pf)) [] (λw hO=>cS w) (zP 42 (yG pf) (λh42=> ?_) (λh42=> ?_))))
  ·exact x_i 4 [] ((i+1:Nat):Int) (nx (i+1) (ps.length-(i+1)) [] Om ⟨⟨hj,hstep (by rw [ho,hq2,h42];rfl)⟩,rfl⟩ Kr Kr)
  ·exact zS [] (YI 6) (YI (i:Int)) λw hO=>hno 6 (by have h:=hat (by rw [ho,hq2,h42];rfl);rw [ho] at h;exact h) w hO.below
theorem r16Check_any (x:Mv)(W:World)(hx:MnIn W W.heap.size x):YC 20 #[mvV x] W (YR (.tuple #[YI (yJ x.mt).1,YI (yJ x.mt).2]) W):=by
 have hp:=hx.pin.n
 have hh:=hx.hold.n
 have cR:∀ w,YB W w->YC 36 #[rvV x.rec'] w (YR (.tuple #[YI (zV x.rec'.rt).1,YI (zV x.rec'.rt).2]) w):=λw hb=>r12Check_any x.rec' w (hx.rc.on hb hb.size)
 have cP:∀ w,YB W w->YC 47 #[.slice x.pA x.pins.length x.pc] w (YR (.tuple #[YI (p7 x.pins).1,YI (p7 x.pins).2]) w):=λw hb=>r16pins_any x.pA x.pc x.pins w (hx.pin.on hb hb.size)
 have cH:∀ w,YB W w->YC 48 #[.slice x.hA x.holds.length x.hc] w (YR (.tuple #[YI (d7 x.holds).1,YI (d7 x.holds).2]) w):=λw hb=>r16holds_any x.hA x.hc x.holds w (hx.hold.on hb hb.size)
 have hE:yJ x.mt=if (zV x.rec'.rt).1≠0 then zV x.rec'.rt else if 8<x.pins.length\/8<x.holds.length then (3,0) else if (p7 x.pins).1≠0 then p7 x.pins else d7 x.holds:=by
  show (if (zV x.rec'.rt).1≠0 then zV x.rec'.rt else if 8<x.pins.length\/8<x.holds.length then (3,0) else if tV x.pins<x.pins.length then (15,(tV x.pins:Int)) else d7 x.holds)=_
  unfold p7
  by_cases q:tV x.pins<x.pins.length
  ·simp [q]
  ·simp [q]
 rw [hE]
 generalize p7 x.pins=pz at*
 refine zD Tryz.func20 (yK [] λb1=>z8 (v:= .tuple #[YI (zV x.rec'.rt).1,YI (zV x.rec'.rt).2]) [0] (λw hO=>cR w hO.below) (vP 15 [] ((zV x.rec'.rt).1=0) (λh=> ?_) (λh=> ?_)))
 rotate_left
 ·exact zS [] (YI (zV x.rec'.rt).1) (YI (zV x.rec'.rt).2) λw hO=>⟨by rw [if_pos h],hO.below⟩
 rw [if_neg (λq=>q h)]
 refine zB 21 [0] ((x.pins.length:Int)>8) (λh1=> ?_) (λh1=> ?_)
 ·exact zS [] (YI 3) (YI 0) λw hO=>⟨by rw [if_pos (.inl Om)],hO.below⟩
 refine zB 26 [0] ((x.holds.length:Int)>8) (λh2=> ?_) (λh2=> ?_)
 ·exact zS [] (YI 3) (YI 0) λw hO=>⟨by rw [if_pos (.inr Om)],hO.below⟩
 rw [if_neg (show ¬ (8<x.pins.length\/8<x.holds.length) by omega)]
 refine z8 (v:= .tuple #[YI pz.1,YI pz.2]) [0] (λw hO=>cP w hO.below) (vP 35 [] (pz.1=0) (λh3=> ?_) (λh3=> ?_))
 rotate_left
 ·exact zS [] (YI pz.1) (YI pz.2) λw hO=>⟨by rw [if_pos h3],hO.below⟩
 rw [if_neg (λq=>q h3)]
 exact z8 (v:= .tuple #[YI (d7 x.holds).1,YI (d7 x.holds).2]) [0] (λw hO=>cH w hO.below) (zS [] (YI (d7 x.holds).1) (YI (d7 x.holds).2) λw hO=>⟨rfl,hO.below⟩)
end
section
set_option linter.unnecessarySimpa false
theorem r16Print_any (x:Mv)(W:World)(hx:MnIn W W.heap.size x):YC 22 #[mvV x] W (YR (.tuple #[.string (mkS (prMn x.mt)),YI (yJ x.mt).1]) W):=by
 have cC:∀ w,YB W w->YC 20 #[mvV x] w (YR (.tuple #[YI (yJ x.mt).1,YI (yJ x.mt).2]) w):=λw hb=>r16Check_any x w (hx.on hb hb.size)
 refine zD Tryz.func22 (yK [] λb1=>z8 (v:= .tuple #[YI (yJ x.mt).1,YI (yJ x.mt).2]) [0] (λw hO=>cC w hO.below) (vP 16 [] ((yJ x.mt).1=0) (λh=> ?_) (λh=> ?_)))
 rotate_left
 ·exact zS [] (.string ⟨#[]⟩) (YI (yJ x.mt).1) λw hO=>⟨by rw [show prMn x.mt=[] from if_neg h];rfl,hO.below⟩
 have hn5:=hx.pin.n
 have hh5:=hx.hold.n
 obtain ⟨_,hg⟩:=check_zeroM h
 have hrc:(zV x.rec'.rt).1=0:=hg.rc
 have hrl:=(dW hrc).2.2.2.2.2
 have hpl:∀ i,((x.pins.take i).flatMap pnT).length<=8*38:=fm_tk (λp hp=>pnT_len (hg.pin p hp)) hg.np
 have hhl:∀ i,((x.holds.take i).flatMap gT).length<=8*119:=fm_tk (λp hp=>holdT_len (hg.hold p hp)) hg.nh
 have cP:∀ w,YB W w->YC 14 #[rvV x.rec'] w (YR (.tuple #[.string (mkS (kS x.rec'.rt)),YI 0]) w):=λw hb=>by
  have h:=r12Print_any x.rec' w (hx.rc.on hb hb.size)
  rw [show printR x.rec'.rt=kS x.rec'.rt from if_pos hrc,hrc] at h;exact h
 rw [show prMn x.mt=manT x.mt from if_pos h,h]
 have hT:manT x.mt=kS x.rec'.rt++x.pins.flatMap pnT++x.holds.flatMap gT:=rfl
 rw [hT]
 generalize kS x.rec'.rt=front at*
 refine z8 (v:= .tuple #[.string (mkS front),YI 0]) [0] (λw hO=>cP w hO.below) (v8 6 [] (.string (mkS front)) (.string (mkS (front++(x.pins.take 0).flatMap pnT))) (by rw [List.take_zero,List.flatMap_nil,List.append_nil]) ?_)
 refine zM (α:=Nat) (λi=>[(1,Zp b1 0),(6,.string (mkS (front++(x.pins.take i).flatMap pnT))),(8,YI (i:Int))]) (λ_=>[mvB b1 x]) (λi m=>i<=x.pins.length/\m=x.pins.length-i) 0 x.pins.length [] ⟨Nat.zero_le _,rfl⟩ ?_
 rintro i mm gg kk ⟨hi,hmm⟩ nx hkk
 subst hkk
 refine zB 28 [0] ((i:Int)<(x.pins.length:Int)) (λh33=> ?_) (λh33=> ?_)
 ·have hj:i<x.pins.length:=by omega
  obtain ⟨eb,eo,hA,hel⟩:=hx.pin.top.elem pZ i hj
  have hel0:∀ w,YB W w->(loadVar 9 ⟨eb,eo+i*2+0,none⟩).run YP w= .ok (.string (mkS x.pins[i].name)) w:=λw hw=>hel w hw _ 0 _ Kr
  have hel1:∀ w,YB W w->(loadVar 9 ⟨eb,eo+i*2+1,none⟩).run YP w= .ok (.string (mkS x.pins[i].shelf)) w:=λw hw=>hel w hw _ 1 _ Kr
  have hsn:=(hx.pin.sn _ (List.getElem_mem hj))
  have hw2:front++(x.pins.take i).flatMap pnT++[112,105,110,32]++x.pins[i].name++[32]++x.pins[i].shelf++[10]=front++(x.pins.take (i+1)).flatMap pnT:=by rw [v7 pnT hj];unfold pnT;simp only [List.append_assoc]
  have hdl:=hpl i
  generalize x.pins[i]=u at*
  have hdl2:(front++(x.pins.take i).flatMap pnT).length<=330000:=by rw [List.length_append];omega
  generalize front++(x.pins.take i).flatMap pnT=done at*
  refine zR 32 [] done [112,105,110,32] (zI 36 [0] hA x.pins.length x.pc i 2 hj (zH 38 [] 9 eb (eo+i*2+0) (.string (mkS u.name)) (λw hO=>hel0 w hO.below) (zR 39 [] (done++[112,105,110,32]) u.name (zR 40 [] (done++[112,105,110,32]++u.name) [32] (zI 44 [0] hA x.pins.length x.pc i 2 hj (zH 46 [] 9 eb (eo+i*2+1) (.string (mkS u.shelf)) (λw hO=>hel1 w hO.below) (zR 47 [] (done++[112,105,110,32]++u.name++[32]) u.shelf (zR 48 [] (done++[112,105,110,32]++u.name++[32]++u.shelf) [10] ?_))))))))
  exact v8 6 [] (.string (mkS (done++[112,105,110,32]++u.name++[32]++u.shelf++[10]))) (.string (mkS (front++(x.pins.take (i+1)).flatMap pnT))) (by rw [hw2]) (x_i 8 [] ((i+1:Nat):Int) (y8 [] [mvB b1 x] (λw hO=>hO.past 0 _) (nx (i+1) (x.pins.length-(i+1)) [] Om ⟨hj,rfl⟩ Kr Kr)))
 rw [List.take_of_length_le (show x.pins.length<=i by omega)]
 have hfl:(front++x.pins.flatMap pnT).length<=5000:=by
  have:=hpl x.pins.length
  rw [List.take_length] at this
  rw [List.length_append];omega
 generalize front++x.pins.flatMap pnT=front2 at*
 clear nx
 refine v8 6 [] (.string (mkS front2)) (.string (mkS (front2++(x.holds.take 0).flatMap gT))) (by rw [List.take_zero,List.flatMap_nil,List.append_nil]) (zM (α:=Nat) (λi=>[(1,Zp b1 0),(6,.string (mkS (front2++(x.holds.take i).flatMap gT))),(9,YI (i:Int))]) (λ_=>[mvB b1 x]) (λi m=>i<=x.holds.length/\m=x.holds.length-i) 0 x.holds.length [] ⟨Nat.zero_le _,rfl⟩ ?_)
 rintro i mm gg kk ⟨hi,hmm⟩ nx hkk
 subst hkk
 refine zB 53 [0] ((i:Int)<(x.holds.length:Int)) (λh33=> ?_) (λh33=> ?_)
 ·have hj:i<x.holds.length:=by omega
  obtain ⟨eb,eo,hA,hel⟩:=hx.hold.top.elem tC i hj
  have hel0:∀ w,YB W w->(loadVar 9 ⟨eb,eo+i*2+0,none⟩).run YP w= .ok (.string (mkS x.holds[i].name)) w:=λw hw=>hel w hw _ 0 _ Kr
  have hel1:∀ w,YB W w->(loadVar 9 ⟨eb,eo+i*2+1,none⟩).run YP w= .ok (.string (mkS x.holds[i].rg)) w:=λw hw=>hel w hw _ 1 _ Kr
  have hsn:=(show x.holds[i].name.length<=1048576/\x.holds[i].rg.length<=1048576 from ⟨(hx.hold.sn _ (List.getElem_mem hj)).1,gqR_len (hx.hold.sn _ (List.getElem_mem hj)).2⟩)
  have hw2:front2++(x.holds.take i).flatMap gT++[104,111,108,100,32]++x.holds[i].name++[32]++x.holds[i].rg++[10]=front2++(x.holds.take (i+1)).flatMap gT:=by rw [v7 gT hj];unfold gT;simp only [List.append_assoc]
  have hdl:=hhl i
  generalize x.holds[i]=u at*
  have hdl2:(front2++(x.holds.take i).flatMap gT).length<=330000:=by rw [List.length_append];omega
  generalize front2++(x.holds.take i).flatMap gT=done at*
  refine zR 57 [] done [104,111,108,100,32] (zI 61 [0] hA x.holds.length x.hc i 2 hj (zH 63 [] 9 eb (eo+i*2+0) (.string (mkS u.name)) (λw hO=>hel0 w hO.below) (zR 64 [] (done++[104,111,108,100,32]) u.name (zR 65 [] (done++[104,111,108,100,32]++u.name) [32] (zI 69 [0] hA x.holds.length x.hc i 2 hj (zH 71 [] 9 eb (eo+i*2+1) (.string (mkS u.rg)) (λw hO=>hel1 w hO.below) (zR 72 [] (done++[104,111,108,100,32]++u.name++[32]) u.rg (zR 73 [] (done++[104,111,108,100,32]++u.name++[32]++u.rg) [10] ?_))))))))
  exact v8 6 [] (.string (mkS (done++[104,111,108,100,32]++u.name++[32]++u.rg++[10]))) (.string (mkS (front2++(x.holds.take (i+1)).flatMap gT))) (by rw [hw2]) (x_i 9 [] ((i+1:Nat):Int) (y8 [] [mvB b1 x] (λw hO=>hO.past 0 _) (nx (i+1) (x.holds.length-(i+1)) [] Om ⟨hj,rfl⟩ Kr Kr)))
 rw [List.take_of_length_le (show x.holds.length<=i by omega)]
 exact zS [] (.string (mkS (front2++x.holds.flatMap gT))) (YI 0) λw hO=>⟨rfl,hO.below⟩
end
section
set_option linter.unnecessarySimpa false
def AnyB (W:World)(e:Ending)(w':World):Prop:=∃ v,e= .returned v/\(∃ b,v= .bool b)/\YB W w'
theorem anyB {W w:World}(b:Bool)(h:YB W w):AnyB W (.returned (.bool b)) w:=⟨_,rfl,⟨b,rfl⟩,h⟩
theorem few13_any (x:Hv)(W:World)(hx:ShIn W W.heap.size x):YC 44 #[hvV x] W (AnyB W):=by
 have hn:=hx.es.n
 refine zD Tryz.func44 (yK [] λb1=>tM 9 [0] (z7 [] Z5 λw hO=>anyB _ hO.below) (tM 14 [0] (z7 [] Z5 λw hO=>anyB _ hO.below) ?_))
 refine zM (α:=Nat) (λi=>[(1,Zp b1 0),(3,YI (i:Int))]) (λ_=>[hvB b1 x]) (λi m=>i<=x.es.length/\m=x.es.length-i) 0 x.es.length [] ⟨Nat.zero_le _,rfl⟩ ?_
 rintro i mm g kk ⟨hi,hmm⟩ nx hkk
 subst hkk
 refine zB 20 [0] ((i:Int)<(x.es.length:Int)) (λh20=> ?_) (λh20=> ?_)
 rotate_left
 ·exact z7 [] Z4 λw hO=>anyB _ hO.below
 have hj:i<x.es.length:=by omega
 obtain ⟨eb,eo,hA,hel⟩:=hx.es.top.elem evC_len i hj
 have hel0:∀ w,YB W w->(loadVar 29 ⟨eb,eo+i*11+0,none⟩).run YP w= .ok (rvV x.es[i].rec') w:=λw hw=>hel w hw _ 0 _ Kr
 have hR:=hx.es.each _ (List.getElem_mem hj)
 generalize x.es[i]=u at*
 have hnn:=hR.nn
 refine zI 26 [0] hA x.es.length x.cap i 11 hj (zH 28 [] 29 eb (eo+i*11+0) (rvV u.rec') (λw hO=>hel0 w hO.below) (zJ [] λb4=> ?_))
 refine tM 42 [0,0,0,0] (z7 [] Z5 λw hO=>anyB _ hO.below) (tM 47 [0] (z7 [] Z5 λw hO=>anyB _ hO.below) (tM 53 [0] (z7 [] Z5 λw hO=>anyB _ hO.below) (tM 59 [0] (z7 [] Z5 λw hO=>anyB _ hO.below) ?_)))
 refine zM (α:=Nat) (λk=>[(1,Zp b1 0),(3,YI (i:Int)),(4,Zp b4 0),(5,YI (k:Int))]) (λ_=>[rvB b4 u.rec',hvB b1 x]) (λk m=>k<=u.rec'.needs.length/\m=u.rec'.needs.length-k) 0 u.rec'.needs.length [] ⟨Nat.zero_le _,rfl⟩ ?_
 rintro k mm2 g2 kk2 ⟨hk,hmm2⟩ nx2 hkk
 subst hkk
 refine zB 65 [0] ((k:Int)<(u.rec'.needs.length:Int)) (λh65=> ?_) (λh65=> ?_)
 rotate_left
 ·exact x_i 3 [] ((i+1:Nat):Int) (y8 [] [hvB b1 x] (λw hO=>hO.past 1 _) (nx (i+1) (x.es.length-(i+1)) [] Om ⟨hj,rfl⟩ Kr Kr))
 have hj2:k<u.rec'.needs.length:=by omega
 obtain ⟨fb,fo,hA2,hel2⟩:=hR.needs.elem wC k hj2
 have l0:∀ w,YB W w->(loadVar 73 ⟨fb,fo+k*3+0,none⟩).run YP w= .ok (.slice u.rec'.needs[k].A u.rec'.needs[k].any.length u.rec'.needs[k].cap) w:=λw hw=>hel2 w hw _ 0 _ Kr
 have l1:∀ w,YB W w->(loadVar 9 ⟨fb,fo+k*3+1,none⟩).run YP w= .ok (.string (mkS u.rec'.needs[k].wh)) w:=λw hw=>hel2 w hw _ 1 _ Kr
 have l2:∀ w,YB W w->(loadVar 9 ⟨fb,fo+k*3+2,none⟩).run YP w= .ok (.string (mkS u.rec'.needs[k].opt)) w:=λw hw=>hel2 w hw _ 2 _ Kr
 generalize u.rec'.needs[k]=n at*
 refine zI 71 [0] hA2 u.rec'.needs.length u.rec'.nc k 3 hj2 (zH 73 [] 73 fb (fo+k*3+0) (.slice n.A n.any.length n.cap) (λw hO=>l0 w hO.below) (tM 75 [] (z7 [] Z5 λw hO=>anyB _ hO.below) ?_))
 refine zI 80 [0] hA2 u.rec'.needs.length u.rec'.nc k 3 hj2 (zH 82 [] 9 fb (fo+k*3+1) (.string (mkS n.wh)) (λw hO=>l1 w hO.below) (zI 87 [0] hA2 u.rec'.needs.length u.rec'.nc k 3 hj2 (zH 89 [] 9 fb (fo+k*3+2) (.string (mkS n.opt)) (λw hO=>l2 w hO.below) (tM 92 [] (z7 [] Z5 λw hO=>anyB _ hO.below) ?_))))
 exact x_i 5 [] ((k+1:Nat):Int) (nx2 (k+1) (u.rec'.needs.length-(k+1)) [] Om ⟨hj2,rfl⟩ Kr Kr)
theorem few16_any (x:Mv)(W:World)(hx:MnIn W W.heap.size x):YC 17 #[mvV x] W (AnyB W):=by
 have hpn:=hx.pin.n
 have hhn:=hx.hold.n
 refine zD Tryz.func17 (yK [] λb1=>tM 8 [0] (z7 [] Z5 λw hO=>anyB _ hO.below) (tM 13 [0] (z7 [] Z5 λw hO=>anyB _ hO.below) ?_))
 refine gM [0] 1 88 (evV ⟨x.rec',0,false⟩).cells λg=> ?_
 have hS:Sl 88 11 (.slice (some ⟨g,0,none⟩) 1 1) 1 ([(⟨x.rec',0,false⟩:Ev)].flatMap evC) [⟨g,(evV ⟨x.rec',0,false⟩).cells,88⟩]:=sl_lit rfl rfl (by decide)
 refine x_callE (k:=44) (args:= #[hvV ⟨[],some ⟨g,0,none⟩,1,[⟨x.rec',0,false⟩]⟩]) (R:=λv=>∃ b,v= .bool b) [] (λw hO=> ?_) ?_
 ·have h1:=hO.past 0 [⟨g,(evV ⟨x.rec',0,false⟩).cells,88⟩,mvB b1 x]
  clear hO
  exact few13_any ⟨[],some ⟨g,0,none⟩,1,[⟨x.rec',0,false⟩]⟩ w ⟨⟨Sl.reads hS rfl h1 (λb hb=>by rw [List.mem_singleton.1 hb];simp),(λe he=>by rw [List.mem_singleton.1 he];exact hx.rc.on h1.below h1.below.size),(show 1<=5000 by decide)⟩,Nat.le_refl _,Nat.zero_le _⟩
 rintro _ ⟨bb,rfl⟩
 refine zP 21 bb (λh21=> ?_) (λh21=> ?_)
 rotate_left
 ·exact z7 [] Z5 λw hO=>anyB _ hO.below
 refine y8 [] [mvB b1 x] (λw hO=>hO.past 1 _) (zM (α:=Nat) (λi=>[(1,Zp b1 0),(3,YI (i:Int))]) (λ_=>[mvB b1 x]) (λi m=>i<=x.pins.length/\m=x.pins.length-i) 0 x.pins.length [] ⟨Nat.zero_le _,rfl⟩ ?_)
 rintro i mm g1 kk ⟨hi,hmm⟩ nx hkk
 subst hkk
 refine zB 28 [0] ((i:Int)<(x.pins.length:Int)) (λh28=> ?_) (λh28=> ?_)
 ·have hj:i<x.pins.length:=by omega
  obtain ⟨eb,eo,hA,hel⟩:=hx.pin.top.elem pZ i hj
  have l0:∀ w,YB W w->(loadVar 9 ⟨eb,eo+i*2+0,none⟩).run YP w= .ok (.string (mkS x.pins[i].name)) w:=λw hw=>hel w hw _ 0 _ Kr
  have l1:∀ w,YB W w->(loadVar 9 ⟨eb,eo+i*2+1,none⟩).run YP w= .ok (.string (mkS x.pins[i].shelf)) w:=λw hw=>hel w hw _ 1 _ Kr
  generalize x.pins[i]=u at*
  refine zI 34 [0] hA x.pins.length x.pc i 2 hj (zH 36 [] 9 eb (eo+i*2+0) (.string (mkS u.name)) (λw hO=>l0 w hO.below) (zI 41 [0] hA x.pins.length x.pc i 2 hj (zH 43 [] 9 eb (eo+i*2+1) (.string (mkS u.shelf)) (λw hO=>l1 w hO.below) (tM 46 [] (z7 [] Z5 λw hO=>anyB _ hO.below) ?_))))
  exact x_i 3 [] ((i+1:Nat):Int) (nx (i+1) (x.pins.length-(i+1)) [] Om ⟨hj,rfl⟩ Kr Kr)
 clear nx
 refine zM (α:=Nat) (λi=>[(1,Zp b1 0),(4,YI (i:Int))]) (λ_=>[mvB b1 x]) (λi m=>i<=x.holds.length/\m=x.holds.length-i) 0 x.holds.length [] ⟨Nat.zero_le _,rfl⟩ ?_
 rintro i2 mm2 g2 kk2 ⟨hi2,hmm2⟩ nx hkk
 subst hkk
 refine zB 51 [0] ((i2:Int)<(x.holds.length:Int)) (λh51=> ?_) (λh51=> ?_)
 rotate_left
 ·exact z7 [] Z4 λw hO=>anyB _ hO.below
 have hj:i2<x.holds.length:=by omega
 obtain ⟨eb,eo,hA,hel⟩:=hx.hold.top.elem tC i2 hj
 have l0:∀ w,YB W w->(loadVar 9 ⟨eb,eo+i2*2+0,none⟩).run YP w= .ok (.string (mkS x.holds[i2].name)) w:=λw hw=>hel w hw _ 0 _ Kr
 have l1:∀ w,YB W w->(loadVar 9 ⟨eb,eo+i2*2+1,none⟩).run YP w= .ok (.string (mkS x.holds[i2].rg)) w:=λw hw=>hel w hw _ 1 _ Kr
 generalize x.holds[i2]=u at*
 refine zI 57 [0] hA x.holds.length x.hc i2 2 hj (zH 59 [] 9 eb (eo+i2*2+0) (.string (mkS u.name)) (λw hO=>l0 w hO.below) (zI 64 [0] hA x.holds.length x.hc i2 2 hj (zH 66 [] 9 eb (eo+i2*2+1) (.string (mkS u.rg)) (λw hO=>l1 w hO.below) (tM 69 [] (z7 [] Z5 λw hO=>anyB _ hO.below) ?_))))
 exact x_i 4 [] ((i2+1:Nat):Int) (nx (i2+1) (x.holds.length-(i2+1)) [] Om ⟨hj,rfl⟩ Kr Kr)
end
section
open Go.ChangeShapes Go.WideShapes Go.ChangeAt Go.RowKit
theorem open_texts {H:Type}{enc:TypeId×Value->H}{W:World}{base:Nat}{v:Value}{d:DataW H}{ps:List MemPlace}(hval:Value.okWide YP W .any base 66 v)
  (h:DataW.Trod enc YP W 0 (λ_=>true) true 66 v d ps):∃ l:List YL,ReadsT W W.heap.size v l/\l.length<=maxLen∧∀ x∈l,x.length<=maxLen:=by
 obtain ⟨A,len,cap,rfl⟩:=okWide_slice Tryz.underlying66 hval
 obtain ⟨fuel,hf⟩:=h
 rcases open_strings Tryz.underlying66 Tryz.underlying9 strCells1 hf with ⟨hcs,_⟩|⟨a,len',cap',ss,hcs,_,hl,hm,hz,_,hcell,hws⟩
 ·simp [Value.cells] at hcs
  obtain ⟨rfl,rfl,rfl⟩:=hcs
  exact ⟨[],⟨none,0,rfl,λh=>by cases h⟩,by simp,by simp⟩
 ·simp [Value.cells] at hcs
  obtain ⟨rfl,rfl,rfl⟩:=hcs
  simp only [if_true] at hz
  have hlen:((ss.take len).map (·.data.toList)).length=len:=by rw [List.length_map,List.length_take];omega
  refine ⟨(ss.take len).map (·.data.toList),⟨some a,cap,by rw [hlen],λh0=>⟨a,rfl, ?_,λj hj=> ?_⟩⟩,by rw [hlen];omega,λx hx=> ?_⟩
  ·have:=cell_lt (hcell 0 Om)
   rwa [tL] at this
  ·have hj2:j<ss.length:=by omega
   rw [hcell j hj2,List.getElem_map,List.getElem_take]
   simp only [List.getD,List.getElem?_eq_getElem hj2,Option.getD_some]
   rfl
  ·obtain ⟨s,hs,rfl⟩:=List.mem_map.1 hx
   have:=hws s (List.mem_of_mem_take hs)
   rw [bZ];exact this
theorem powType:(Tryz.prog.globals[5]?).map (·.type)=some 295:=by kernel_rfl
theorem powNamed : Tryz.prog.globalNamed "internal/strconv.uint64pow10" = some 5 := by kernel_rfl
theorem powCells:Tryz.prog.cellsOf 295=20:=by kernel_rfl
theorem u64Cells:Tryz.prog.cellsOf 86=1:=by kernel_rfl
theorem hasTab_of {W : World} {l : List (String × DataW Unit)} (h : laidMetH YP l W) (e : (l.filter fun x => x.1 == "internal/strconv.uint64pow10") = [("internal/strconv.uint64pow10", Lib.tabData .u64 Lib.pow10Tab)]) : HasTab W := by
 have h2 := h.filter (fun x => x.1 == "internal/strconv.uint64pow10")
 rw [e] at h2
 exact Lib.tabBelow_of_tabIs (Lib.tabIs_of_head (rest:=[]) powNamed powType Tryz.underlying295 Tryz.underlying86 u64Cells powCells h2)
end
section
open Go.ChangeShapes Go.WideShapes Go.ChangeAt Go.RowKit
theorem cells_of_strs {H:Type}{enc:TypeId×Value->H}{P:Program}{w:World}{base:Nat}{sp:Nat->Bool}{held:Bool}{fuel:Nat}{t e:TypeId}{n:Nat}{cs:List Value}{ss:List YL}{p:List MemPlace}
  (ht:P.underlying t=some (.array n e)) (he:P.underlying e=some .string) (hce:P.cellsOf e=1) (hct:P.cellsOf t=n)
  (h:DataW.trod enc P w base sp held fuel t cs=some (.agg (ss.map λs=> .lit (.string s)),p)):cs=ss.map λs=>Value.string (mkS s):=by
 cases fuel with
 |zero=>simp [DataW.trod] at h
 |succ fuel=>
  simp only [DataW.trod,ht,hce,hct,Nat.mul_one] at h
  split at h
  ·rename_i hl
   obtain ⟨xs,hm,hx⟩:=Option.map_eq_some_iff.1 h
   have hxs:xs.map (·.1)=ss.map λs=>(DataW.lit (.string s):DataW H):=by
    have:=congrArg Prod.fst hx
    simpa using this
   have hxl:xs.length=n:=by simpa using Lib.mapM_length hm
   have hzl:ss.length=n:=by
    have:=congrArg List.length hxs
    simp at this
    omega
   apply List.ext_getElem?
   intro i
   by_cases hi:i<n
   ·obtain ⟨b,hb,hf⟩:=Lib.mapM_at hm i i (by simp [hi])
    obtain ⟨s,hc,rfl,_⟩:=DataW.trod_string he hf
    have h1:cs[i]?=some (.string s):=by
     have:=congrArg (·[0]?) hc
     simpa [List.getElem?_take,List.getElem?_drop] using this
    have h2:(xs.map (·.1))[i]?=some (DataW.lit (.string s.data.toList):DataW H):=by simp [hb]
    rw [hxs] at h2
    simp only [List.getElem?_map,Option.map_eq_some_iff,DataW.lit.injEq,Lit.string.injEq] at h2
    obtain ⟨z',hz',e9⟩:=h2
    rw [h1,List.getElem?_map,hz',e9]
    show some (Value.string s)=some (Value.string (mkS s.data.toList))
    rw [show mkS s.data.toList=s from by cases s;unfold mkS;simp]
   ·rw [List.getElem?_eq_none (by omega),List.getElem?_eq_none (by simp;omega)]
  ·cases h
theorem keysType:(Tryz.prog.globals[2]?).map (·.type)=some 142:=by kernel_rfl
theorem keysNamed : Tryz.prog.globalNamed "linchpin/mark.keys" = some 2 := by kernel_rfl
theorem keysCells:Tryz.prog.cellsOf 142=3:=by kernel_rfl
theorem mkLib_of {W : World} {l : List (String × DataW Unit)} (h : laidMetH YP l W) (e : (l.filter fun x => x.1 == "linchpin/mark.keys") = [("linchpin/mark.keys", .agg [.lit (.string [111, 115]), .lit (.string [97, 114, 99, 104]), .lit (.string [97, 98, 105])])]) : MkLib W := by
 have h2 := h.filter (fun x => x.1 == "linchpin/mark.keys")
 rw [e] at h2
 obtain ⟨ps,⟨g',t',cs,fuel,p,q,hg',ht',hvar,hd,_,hps⟩,_,hcell⟩:=h2
 obtain rfl:=Option.some.inj (keysNamed.symm.trans hg')
 obtain rfl:=Option.some.inj (keysType.symm.trans ht')
 have hcs:cs.toList=[[111,115],[97,114,99,104],[97,98,105]].map λs=>Value.string (mkS s):=cells_of_strs (n:=3) Tryz.underlying142 Tryz.underlying9 strCells1 keysCells hd
 have hsz:cs.size=3:=by rw [←Array.length_toList,hcs];rfl
 have hm:MemPlace.cell 2 0∈ps:=by
  rw [hps]
  refine List.mem_append_left _ (List.mem_append_left _ ?_)
  exact MemPlace.mem_row.2 ⟨0,by rw [hsz];decide,rfl⟩
 obtain ⟨⟨c,t,hb⟩,_⟩:=hcell _ _ hm
 have hv : W.var? YP "linchpin/mark.keys" = some c := by
  unfold World.var?
  rw [keysNamed]
  simp only [Option.bind_some,hb]
 have hcc:c=cs:=Option.some.inj (hv.symm.trans hvar)
 refine ⟨(Array.getElem?_eq_some_iff.1 hb).1,t, ?_⟩
 rw [hb,hcc]
 congr 2
 apply Array.toList_inj.1
 rw [hcs]
 rfl
end
section
open Go.ChangeShapes Go.WideShapes Go.ChangeAt Go.RowKit
def layR (l:La):DataW Unit:= .agg [.lit (.int .i64 (l.kind:Int)),.lit (.string l.word),.lit (.int .i64 (l.lo:Int)),.lit (.int .i64 (l.hi:Int)),.lit (.int .i64 (l.parts:Int)),.lit (.bool l.opn),.lit (.bool l.more)]
def layD:DataW Unit:= .agg (lays.map layR)
theorem size_lay12:Tryz.prog.cellsOf 120=7:=by kernel_rfl
theorem size_lays12:Tryz.prog.cellsOf 121=56:=by kernel_rfl
theorem laysType:(Tryz.prog.globals[0]?).map (·.type)=some 121:=by kernel_rfl
theorem laysNamed : Tryz.prog.globalNamed "linchpin/record.layouts" = some 0 := by kernel_rfl
theorem lay_row {enc:TypeId×Value->Unit}{w:World}{base:Nat}{sp:Nat->Bool}{held:Bool}{fuel:Nat}{cs:List Value}{p:List MemPlace}{l:La}(h:DataW.trod enc YP w base sp held fuel 120 cs=some (layR l,p)):cs=(laV l).cells.toList:=by
 obtain ⟨xs,n,_,hx,hl,hxl,hg⟩:=DataW.trod_struct Tryz.underlying120 h
 rw [size_lay12] at hl
 have hx1:DataW.agg (xs.map (·.1))=layR l:=(congrArg Prod.fst hx).symm
 unfold layR at hx1
 injection hx1 with hx1
 match cs,hl with
 | [c0,c1,c2,c3,c4,c5,c6],_=>
  have g:∀ i,i<7→∃ y,xs[i]?=some y:=λi hi=>⟨_,List.getElem?_eq_getElem (by rw [hxl];exact hi)⟩
  obtain ⟨y0,e0⟩:=g 0 Om
  obtain ⟨y1,e1⟩:=g 1 Om
  obtain ⟨y2,e2⟩:=g 2 Om
  obtain ⟨y3,e3⟩:=g 3 Om
  obtain ⟨y4,e4⟩:=g 4 Om
  obtain ⟨y5,e5⟩:=g 5 Om
  obtain ⟨y6,e6⟩:=g 6 Om
  have q:∀ (i:Nat) (y:DataW Unit×List MemPlace),xs[i]?=some y->(xs.map (·.1))[i]?=some y.1:=λi y hy=>by rw [List.getElem?_map,hy];rfl
  have q0:=q 0 _ e0;have q1:=q 1 _ e1;have q2:=q 2 _ e2;have q3:=q 3 _ e3;have q4:=q 4 _ e4;have q5:=q 5 _ e5;have q6:=q 6 _ e6
  rw [hx1] at q0 q1 q2 q3 q4 q5 q6
  obtain ⟨a0,h0,z0,_⟩:=DataW.trod_int Tryz.underlying3 ((hg 0 _ rfl).trans e0)
  obtain ⟨a1,h1,z1,_⟩:=DataW.trod_string Tryz.underlying9 ((hg 1 _ rfl).trans e1)
  obtain ⟨a2,h2,z2,_⟩:=DataW.trod_int Tryz.underlying3 ((hg 2 _ rfl).trans e2)
  obtain ⟨a3,h3,z3,_⟩:=DataW.trod_int Tryz.underlying3 ((hg 3 _ rfl).trans e3)
  obtain ⟨a4,h4,z4,_⟩:=DataW.trod_int Tryz.underlying3 ((hg 4 _ rfl).trans e4)
  obtain ⟨a5,h5,z5⟩:=DataW.trod_bool Tryz.underlying4 ((hg 5 _ rfl).trans e5)
  obtain ⟨a6,h6,z6⟩:=DataW.trod_bool Tryz.underlying4 ((hg 6 _ rfl).trans e6)
  have r0:List.take (Tryz.prog.cellsOf 3) (List.drop 0 [c0,c1,c2,c3,c4,c5,c6])=_:=h0
  have r1:List.take (Tryz.prog.cellsOf 9) (List.drop 1 [c0,c1,c2,c3,c4,c5,c6])=_:=h1
  have r2:List.take (Tryz.prog.cellsOf 3) (List.drop 2 [c0,c1,c2,c3,c4,c5,c6])=_:=h2
  have r3:List.take (Tryz.prog.cellsOf 3) (List.drop 3 [c0,c1,c2,c3,c4,c5,c6])=_:=h3
  have r4:List.take (Tryz.prog.cellsOf 3) (List.drop 4 [c0,c1,c2,c3,c4,c5,c6])=_:=h4
  have r5:List.take (Tryz.prog.cellsOf 4) (List.drop 5 [c0,c1,c2,c3,c4,c5,c6])=_:=h5
  have r6:List.take (Tryz.prog.cellsOf 4) (List.drop 6 [c0,c1,c2,c3,c4,c5,c6])=_:=h6
  rw [show Tryz.prog.cellsOf 3=1 by kernel_rfl] at r0 r2 r3 r4
  rw [strCells1] at r1
  rw [show Tryz.prog.cellsOf 4=1 by kernel_rfl] at r5 r6
  obtain rfl:c0=_:=List.singleton_inj.1 r0
  obtain rfl:c1=_:=List.singleton_inj.1 r1
  obtain rfl:c2=_:=List.singleton_inj.1 r2
  obtain rfl:c3=_:=List.singleton_inj.1 r3
  obtain rfl:c4=_:=List.singleton_inj.1 r4
  obtain rfl:c5=_:=List.singleton_inj.1 r5
  obtain rfl:c6=_:=List.singleton_inj.1 r6
  rw [z0] at q0;rw [z1] at q1;rw [z2] at q2;rw [z3] at q3;rw [z4] at q4;rw [z5] at q5;rw [z6] at q6
  have i0:a0=(l.kind:Int):=by injection q0 with q;injection q with q;injection q with _ q;exact q.symm
  have i1:a1.data.toList=l.word:=by injection q1 with q;injection q with q;injection q with q;exact q.symm
  have i2:a2=(l.lo:Int):=by injection q2 with q;injection q with q;injection q with _ q;exact q.symm
  have i3:a3=(l.hi:Int):=by injection q3 with q;injection q with q;injection q with _ q;exact q.symm
  have i4:a4=(l.parts:Int):=by injection q4 with q;injection q with q;injection q with _ q;exact q.symm
  have i5:a5=l.opn:=by injection q5 with q;injection q with q;injection q with q;exact q.symm
  have i6:a6=l.more:=by injection q6 with q;injection q with q;injection q with q;exact q.symm
  have i1':a1=mkS l.word:=by rw [←i1];cases a1;unfold mkS;simp
  rw [i0,i1',i2,i3,i4,i5,i6]
  rfl
theorem chunk7 {f:La->List Value}(hf:∀ l,(f l).length=7):∀ (ls:List La) (cs:List Value),cs.length=ls.length*7->(∀ i (h:i<ls.length),(cs.drop (i*7)).take 7=f ls[i])->cs=ls.flatMap f
 | [],cs,hl,_=>by simpa using hl
 |l::ls,cs,hl,h=>by
  have h0:(cs.drop (0*7)).take 7=f l:=h 0 (by simp)
  rw [Nat.zero_mul,List.drop_zero] at h0
  have:=chunk7 hf ls (cs.drop 7) (by rw [List.length_drop,hl,List.length_cons];omega) λi hi=>by
   rw [List.drop_drop,show 7+i*7=(i+1)*7 by omega]
   exact h (i+1) (by simpa using hi)
  rw [List.flatMap_cons,←h0,←this,List.take_append_drop]
theorem lay_cells {enc:TypeId×Value->Unit}{w:World}{base:Nat}{sp:Nat->Bool}{held:Bool}{fuel:Nat}{cs:List Value}{p:List MemPlace}(h:DataW.trod enc YP w base sp held fuel 121 cs=some (layD,p)):cs=layC.toList:=by
 obtain ⟨xs,n,_,hx,hl,hxl,hg⟩:=DataW.trod_array Tryz.underlying121 h
 rw [size_lays12] at hl
 have hx1:DataW.agg (xs.map (·.1))=layD:=(congrArg Prod.fst hx).symm
 unfold layD at hx1
 injection hx1 with hx1
 have h8:lays.length=8:=rfl
 have:=chunk7 (f:=λl=>(laV l).cells.toList) (λl=>rfl) lays cs (by rw [hl,h8]) λi hi=>by
  have hx2:i<xs.length:=by omega
  have h1:=hg i Om
  rw [List.getElem?_eq_getElem hx2,size_lay12] at h1
  have h2:(xs.map (·.1))[i]?=(lays.map layR)[i]?:=by rw [hx1]
  rw [List.getElem?_map,List.getElem?_map,List.getElem?_eq_getElem hx2,List.getElem?_eq_getElem hi] at h2
  have h3:xs[i].1=layR lays[i]:=Option.some.inj h2
  obtain ⟨a,b⟩:∃ b,xs[i]=(layR lays[i],b):=⟨xs[i].2,by rw [←h3]⟩
  rw [b] at h1
  exact lay_row h1
 rw [this]
 unfold layC
 rfl
theorem lyAt_of {W : World} {l : List (String × DataW Unit)} (h : laidMetH YP l W) (e : (l.filter fun x => x.1 == "linchpin/record.layouts") = [("linchpin/record.layouts", layD)]) : LyAt W := by
 have h2 := h.filter (fun x => x.1 == "linchpin/record.layouts")
 rw [e] at h2
 obtain ⟨ps,⟨g',t',cs,fuel,p,q,hg',ht',hvar,hd,_,hps⟩,_,hcell⟩:=h2
 obtain rfl:=Option.some.inj (laysNamed.symm.trans hg')
 obtain rfl:=Option.some.inj (laysType.symm.trans ht')
 have hcs:cs.toList=layC.toList:=lay_cells hd
 have hsz:cs.size=56:=by rw [←Array.length_toList,hcs];rfl
 have hm:MemPlace.cell 0 0∈ps:=by
  rw [hps]
  refine List.mem_append_left _ (List.mem_append_left _ ?_)
  exact MemPlace.mem_row.2 ⟨0,by rw [hsz];decide,rfl⟩
 obtain ⟨⟨c,t,hb⟩,_⟩:=hcell _ _ hm
 have hv : W.var? YP "linchpin/record.layouts" = some c := by
  unfold World.var?
  rw [laysNamed]
  simp only [Option.bind_some,hb]
 have hcc:c=cs:=Option.some.inj (hv.symm.trans hvar)
 refine ⟨(Array.getElem?_eq_some_iff.1 hb).1,t, ?_⟩
 rw [hb,hcc]
 congr 2
 exact Array.toList_inj.1 hcs
end
section
open Go.ChangeShapes Go.WideShapes Go.ChangeAt Go.RowKit Go.Deep
theorem mk_self10 (p:ByteArray):mkS p.data.toList=p:=by unfold mkS;simp
theorem list_of10 {α:Type}{p:Nat->α->Prop}:∀ (n:Nat),(∀ i,i<n→∃ x,p i x)→∃ l:List α,l.length=n∧∀ i (h:i<l.length),p i l[i]
 |0,_=>⟨[],rfl,λi h=>absurd h (Nat.not_lt_zero _)⟩
 |n+1,h=>by
  obtain ⟨l,hl,hp⟩:=list_of10 n λi hi=>h i (Nat.lt_succ_of_lt hi)
  obtain ⟨x,hx⟩:=h n (Nat.lt_succ_self n)
  refine ⟨l++[x],by simp [hl],λi hi=> ?_⟩
  by_cases h1:i<l.length
  ·rw [List.getElem_append_left h1];exact hp i h1
  ·have:i=n:=by simp at hi;omega
   subst this
   rw [List.getElem_append_right Om]
   simpa [hl] using hx
theorem cell_spot10 {w:World}{a:Addr}{v:Value}(h:w.cell? a=some v):a.spot=none:=by
 unfold World.cell? at h
 split at h
 ·split at h
  ·cases h
  ·rename_i hs;simpa using hs
 ·cases h
theorem addr_at10 {a:Addr}(h:a.spot=none)(k:Nat):a.add k=⟨a.block,a.off+k,none⟩:=by
 obtain ⟨b,o,s⟩:=a
 obtain rfl:s=none:=h
 exact xP b o k
theorem qR {α:Type}{g:α->List Value}{sz:Nat}(h0:0<sz)(hg:∀ x,(g x).length=sz){p:α->Prop}{W:World}{a:Addr}{len:Nat}(hel:∀ i,i<len→∃ x,p x/\W.cells? 0 (a.add (i*sz)) sz=some (g x)):
  ∃ l:List α,l.length=len/\Reads g W W.heap.size (some a) l∧∀ x∈l,p x:=by
 obtain ⟨l,hll,hp⟩:=list_of10 (p:=λi (x:α)=>p x/\W.cells? 0 (a.add (i*sz)) sz=some (g x)) len hel
 refine ⟨l,hll,λhl0=> ?_,λx hx=> ?_⟩
 ·have c0:=(hp 0 hl0).2
  have hc:∀ i (hi:i<l.length) j u,(g l[i])[j]?=some u->W.cell? ((a.add (i*sz)).add j)=some u:=λi hi j u hj=>by
   obtain ⟨_,hn,hx⟩:=World.cells?_some (hp i hi).2
   have hjs:j<sz:=by have:=(List.getElem?_eq_some_iff.1 hj).1;rwa [hg] at this
   first|rw [hx j hjs,hj]|(have:=hx j hjs;rw [this];exact hj)
  have s0:(g l[0])[0]?=some ((g l[0])[0]'(by rw [hg];exact h0)):=List.getElem?_eq_getElem _
  have sp:a.spot=none:=by
   have:=cell_spot10 (hc 0 hl0 0 _ s0)
   simpa [Addr.add] using this
  refine ⟨a.block,a.off, ?_, ?_,λk u hk=> ?_⟩
  ·obtain ⟨b,o,s⟩:=a
   obtain rfl:s=none:=sp
   rfl
  ·have:=World.cells?_block c0 h0
   rwa [addr_at10 sp] at this
  ·have hkl:k<l.length*sz:=by have:=(List.getElem?_eq_some_iff.1 hk).1;rwa [jT hg] at this
   have hi:k/sz<l.length:=Nat.div_lt_of_lt_mul (by rwa [Nat.mul_comm] at hkl)
   have e:k/sz*sz+k % sz=k:=Nat.div_add_mod' k sz
   have hms:k % sz<sz:=Nat.mod_lt _ h0
   have h2:=flat_at hg l (k/sz) hi
   have h3:(g l[k/sz])[k % sz]?=some u:=by
    rw [←h2,List.getElem?_take,if_pos hms,List.getElem?_drop,e];exact hk
   have:=hc (k/sz) hi (k % sz) u h3
   rw [addr_at10 sp,xP,Nat.add_assoc,e] at this
   exact this
 ·obtain ⟨i,hi,rfl⟩:=List.mem_iff_getElem.1 hx
  exact (hp i hi).1
theorem back10 {v:Value}{cs:Array Value}{l:List Value}(h:v= .agg cs)(e:v.cells.toList=l):v= .agg l.toArray:=by
 subst h
 have:cs.toList=l:=e
 rw [←this]
section
variable {H:Type}{enc:TypeId×Value->H}{W:World}
theorem cells_int10 {fuel:Nat}{cs:List Value}{x:DataW H×List MemPlace}(h:DataW.trod enc YP W 0 (λ_=>true) true fuel 3 cs=some x):∃ a,cs=[.int .i64 a]:=by
 obtain ⟨a,e,_,hw⟩:=DataW.trod_int Tryz.underlying3 h
 exact ⟨a,e⟩
theorem size_int10:Tryz.prog.cellsOf 3=1:=by kernel_rfl
theorem size_str10:Tryz.prog.cellsOf 9=1:=by kernel_rfl
end
end
section
open Go.ChangeShapes Go.WideShapes Go.ChangeAt Go.RowKit Go.Deep
section
variable {H:Type}{enc:TypeId×Value->H}{W:World}
theorem size_txs11:Tryz.prog.cellsOf 66=1:=by kernel_rfl
theorem kD:Tryz.prog.cellsOf 9=1:=by kernel_rfl
theorem size_fv11:Tryz.prog.cellsOf 79=2:=by kernel_rfl
end
end
section
open Go.ChangeShapes Go.WideShapes Go.ChangeAt Go.RowKit Go.Deep
def Ver.wide (v:Ver):Prop:=v.pre.length<=maxLen/\v.build.length<=maxLen
def Ver.i64 (v:Ver):Prop:=((-9223372036854775808<=v.maj/\v.maj<=9223372036854775807)/\(-9223372036854775808<=v.min/\v.min<=9223372036854775807))/\(-9223372036854775808<=v.pat/\v.pat<=9223372036854775807)
section
variable {H:Type}{enc:TypeId×Value->H}{W:World}
theorem cells_bool {fuel:Nat}{cs:List Value}{x:DataW H×List MemPlace}(h:DataW.trod enc YP W 0 (λ_=>true) true fuel 4 cs=some x):∃ a,cs=[.bool a]:=by
 obtain ⟨a,e,_⟩:=DataW.trod_bool Tryz.underlying4 h
 exact ⟨a,e⟩
theorem size_ver:Tryz.prog.cellsOf 24=5:=by kernel_rfl
def Cu.wide (c:Cu):Prop:=c.v.wide/\c.v.i64/\(-9223372036854775808<=c.e/\c.e<=9223372036854775807)
def Sp.wide (s:Sp):Prop:=s.lo.wide/\s.hi.wide
end
end
section
open Go.ChangeShapes Go.WideShapes Go.ChangeAt Go.RowKit Go.Deep
structure RcRd (w:World)(B:Nat)(x:Rv):Prop where
 needs:Reads nvC w B x.nA x.needs
 any:∀ n∈x.needs,Reads wvC w B n.A n.any
 wfs:∀ n∈x.needs,∀ u∈n.any,Reads yY w B u.A u.fs
 bars:Reads bvC w B x.bA x.bars
 ftop:Reads fvC w B x.fA x.fts
 feach:∀ y∈x.fts,Reads yY w B y.A y.of
theorem wvC_length (x:Wv):(wvC x).length=4:=rfl
theorem nvC_length (x:Nv):(nvC x).length=3:=rfl
section
variable {H:Type}{enc:TypeId×Value->H}{W:World}
theorem size_bool12:Tryz.prog.cellsOf 4=1:=by kernel_rfl
theorem size_wv12:Tryz.prog.cellsOf 134=4:=by kernel_rfl
theorem size_wvs12:Tryz.prog.cellsOf 73=1:=by kernel_rfl
theorem size_nv12:Tryz.prog.cellsOf 75=3:=by kernel_rfl
theorem size_nvs12:Tryz.prog.cellsOf 25=1:=by kernel_rfl
theorem size_bv12:Tryz.prog.cellsOf 77=3:=by kernel_rfl
theorem size_bvs12:Tryz.prog.cellsOf 26=1:=by kernel_rfl
theorem size_fvs12:Tryz.prog.cellsOf 27=1:=by kernel_rfl
theorem size_ver12:Tryz.prog.cellsOf 24=5:=by kernel_rfl
theorem size_rv12:Tryz.prog.cellsOf 29=9:=by kernel_rfl
def NvRd (W:World)(y:Nv):Prop:=Reads wvC W W.heap.size y.A y.any∧∀ u∈y.any,Reads yY W W.heap.size u.A u.fs
end
end
section
open Go.ChangeShapes Go.WideShapes Go.ChangeAt Go.RowKit Go.Deep
structure RcBk (K:Nat)(x:Rv):Prop where
 name:x.name.length<=K
 pre:x.pre.length<=K
 bld:x.bld.length<=K
 needs:∀ n∈x.needs,n.wh.length<=K/\n.opt.length<=K
section
variable {H:Type}{enc:TypeId×Value->H}{W:World}
theorem bulk_in:∀ {l:List (DataW H)} {d:DataW H},d∈l->Rows.uptoBulk d<=Rows.uptoBulkAll l
 |x::l,d,h=>by
  rw [Rows.uptoBulkAll]
  rcases List.mem_cons.1 h with rfl|h
  ·omega
  ·have:=bulk_in h;omega
theorem bulk_le {l:List (DataW H)}{d:DataW H}(h:Rows.uptoSmall H l=true)(hd:d∈l):Rows.uptoBulk d<=1048576:=Nat.le_trans (bulk_in hd) (of_decide_eq_true h)
theorem xM {xs:List (DataW H×List MemPlace)}{i:Nat}{y:DataW H×List MemPlace}(h:xs[i]?=some y):Rows.uptoBulk y.1<=Rows.uptoBulk (DataW.agg (xs.map (·.1))):=by
 have:=bulk_in (List.mem_map_of_mem (f:=λz:DataW H×List MemPlace=>z.1) (List.mem_of_getElem? h))
 rw [Rows.uptoBulk];omega
theorem tG {elems rest:List (DataW H×List MemPlace)}{i:Nat}(h:i<elems.length):Rows.uptoBulk (elems[i]).1<=Rows.uptoBulk (DataW.slice (elems.map (·.1)) (rest.map (·.1))):=by
 have:=bulk_in (List.mem_map_of_mem (f:=λz:DataW H×List MemPlace=>z.1) (List.getElem_mem h))
 rw [Rows.uptoBulk];omega
theorem xE {K:Nat}{fuel:Nat}{cs:List Value}{x:DataW H×List MemPlace}(h:DataW.trod enc YP W 0 (λ_=>true) true fuel 9 cs=some x)(hK:Rows.uptoBulk x.1<=K):∃ p:YL,cs=[.string (mkS p)]/\p.length<=K:=by
 obtain ⟨p,e,rfl,hw⟩:=DataW.trod_string Tryz.underlying9 h
 refine ⟨p.data.toList,by rw [mk_self10];exact e, ?_⟩
 simp only [Rows.uptoBulk] at hK;omega
theorem cells_verB {K:Nat}{fuel:Nat}{cs:List Value}{x:DataW H×List MemPlace}(h:DataW.trod enc YP W 0 (λ_=>true) true fuel 24 cs=some x)(hK:Rows.uptoBulk x.1<=K):∃ v:Ver,cs=(kJ v).cells.toList/\v.pre.length<=K/\v.build.length<=K:=by
 obtain ⟨xs,n,_,rfl,hl,hxl,hg⟩:=DataW.trod_struct Tryz.underlying24 h
 rw [size_ver] at hl
 match cs,hl with
 | [c0,c1,c2,c3,c4],_=>
  have g:∀ i,i<5→∃ y,xs[i]?=some y:=λi hi=>⟨_,List.getElem?_eq_getElem (by rw [hxl];exact hi)⟩
  obtain ⟨y0,e0⟩:=g 0 Om
  obtain ⟨y1,e1⟩:=g 1 Om
  obtain ⟨y2,e2⟩:=g 2 Om
  obtain ⟨y3,e3⟩:=g 3 Om
  obtain ⟨y4,e4⟩:=g 4 Om
  obtain ⟨a,ha⟩:=cells_int10 ((hg 0 _ rfl).trans e0)
  obtain ⟨b,hb⟩:=cells_int10 ((hg 1 _ rfl).trans e1)
  obtain ⟨c,hc⟩:=cells_int10 ((hg 2 _ rfl).trans e2)
  obtain ⟨p,hp,kp⟩:=xE ((hg 3 _ rfl).trans e3) (Nat.le_trans (xM e3) hK)
  obtain ⟨q,hq,kq⟩:=xE ((hg 4 _ rfl).trans e4) (Nat.le_trans (xM e4) hK)
  have ha2:List.take (Tryz.prog.cellsOf 3) (List.drop 0 [c0,c1,c2,c3,c4])=_:=ha
  have hb2:List.take (Tryz.prog.cellsOf 3) (List.drop 1 [c0,c1,c2,c3,c4])=_:=hb
  have hc2:List.take (Tryz.prog.cellsOf 3) (List.drop 2 [c0,c1,c2,c3,c4])=_:=hc
  have hp2:List.take (Tryz.prog.cellsOf 9) (List.drop 3 [c0,c1,c2,c3,c4])=_:=hp
  have hq2:List.take (Tryz.prog.cellsOf 9) (List.drop 4 [c0,c1,c2,c3,c4])=_:=hq
  rw [size_int10] at ha2 hb2 hc2
  rw [size_str10] at hp2 hq2
  obtain rfl:c0=_:=List.singleton_inj.1 ha2
  obtain rfl:c1=_:=List.singleton_inj.1 hb2
  obtain rfl:c2=_:=List.singleton_inj.1 hc2
  obtain rfl:c3=_:=List.singleton_inj.1 hp2
  obtain rfl:c4=_:=List.singleton_inj.1 hq2
  exact ⟨⟨a,b,c,p,q⟩,rfl,kp,kq⟩
end
end
section
open Go.ChangeShapes Go.WideShapes Go.ChangeAt Go.RowKit Go.Deep
section
variable {H:Type}{enc:TypeId×Value->H}{W:World}
def StK (K:Nat)(s:YL):Prop:=s.length<=K
def WvK (W:World)(K:Nat)(y:Wv):Prop:=Reads yY W W.heap.size y.A y.fs/\y.name.length<=K/\y.rng.length<=K/\y.fs.length<=K∧∀ s∈y.fs,s.length<=K
def NvK (W:World)(K:Nat)(y:Nv):Prop:=Reads wvC W W.heap.size y.A y.any/\y.any.length<=K/\(∀ u∈y.any,WvK W K u)/\y.wh.length<=K/\y.opt.length<=K
def BvK (K:Nat)(y:Bv):Prop:=y.name.length<=K/\y.rng.length<=K/\y.wh.length<=K
def FvK (W:World)(K:Nat)(y:Fv):Prop:=Reads yY W W.heap.size y.A y.of/\y.name.length<=K/\y.of.length<=K∧∀ s∈y.of,s.length<=K
structure RvK (W:World)(K:Nat)(x:Rv):Prop where
 name:x.name.length<=K
 pre:x.pre.length<=K
 bld:x.bld.length<=K
 needs:Reads nvC W W.heap.size x.nA x.needs
 nn:x.needs.length<=K
 ns:∀ n∈x.needs,NvK W K n
 bars:Reads bvC W W.heap.size x.bA x.bars
 nb:x.bars.length<=K
 bs:∀ b∈x.bars,BvK K b
 fts:Reads fvC W W.heap.size x.fA x.fts
 nf:x.fts.length<=K
 fs:∀ f∈x.fts,FvK W K f
theorem bulk_pos (d:DataW H):1<=Rows.uptoBulk d:=by
 cases d with
 |lit l=>cases l<;>simp [Rows.uptoBulk]
 |_=>simp [Rows.uptoBulk]
theorem bulk_len:∀ l:List (DataW H),l.length<=Rows.uptoBulkAll l
 | []=>Nat.zero_le _
 |d::l=>by
  have h1:=bulk_pos d
  have h2:=bulk_len l
  rw [Rows.uptoBulkAll,List.length_cons];omega
theorem wX {elems rest:List (DataW H×List MemPlace)}:elems.length<=Rows.uptoBulk (DataW.slice (elems.map (·.1)) (rest.map (·.1))):=by
 have:=bulk_len (elems.map (·.1))
 rw [List.length_map] at this
 rw [Rows.uptoBulk];omega
theorem cells_txsK {K:Nat}{fuel:Nat}{cs:List Value}{x:DataW H×List MemPlace}(h:DataW.trod enc YP W 0 (λ_=>true) true fuel 66 cs=some x)(hK:Rows.uptoBulk x.1<=K):∃ (A:Option Addr) (cap:Nat) (l:List _),cs=[.slice A l.length cap]/\Reads yY W W.heap.size A l/\l.length<=K∧∀ u∈l,(StK K) u:=by
 rcases DataW.trod_slice Tryz.underlying66 h with ⟨hcs,_⟩|⟨a,len,cap,elems,rest,n,_,hcs,rfl,hb,hl,hm,hlen,hel,_,_⟩
 ·exact ⟨none,0,[],hcs,λh=>by simp at h,Nat.zero_le _,λu hu=>by cases hu⟩
 ·subst hcs
  rw [kD] at hel
  have hn:=Nat.le_trans (wX (elems:=elems) (rest:=rest)) hK
  obtain ⟨l,hll,hr,he⟩:=qR (g:=yY) (sz:=1) (p:=(StK K)) (by decide) zX (W:=W) (a:=a) (len:=len) λi hi=>by
   have h1:=hel i hi
   rw [List.getElem?_eq_getElem Om] at h1
   obtain ⟨cs,e1,e2⟩:=Option.bind_eq_some_iff.1 h1
   obtain ⟨c,e3,e4⟩:=xE (K:=K) e2 (Nat.le_trans (tG Om) hK)
   exact ⟨c,e4,by rw [e1,e3];rfl⟩
  exact ⟨some a,cap,l,by rw [hll],hr,by omega,he⟩
theorem cells_wvK {K:Nat}{fuel:Nat}{cs:List Value}{x:DataW H×List MemPlace}(h:DataW.trod enc YP W 0 (λ_=>true) true fuel 134 cs=some x)(hK:Rows.uptoBulk x.1<=K):∃ y:Wv,cs=wvC y/\WvK W K y:=by
 obtain ⟨xs,n,_,rfl,hl,hxl,hg⟩:=DataW.trod_struct Tryz.underlying134 h
 rw [size_wv12] at hl
 match cs,hl with
 | [c0,c1,c2,c3],_=>
  have g:∀ i,i<4→∃ y,xs[i]?=some y:=λi hi=>⟨_,List.getElem?_eq_getElem (by rw [hxl];exact hi)⟩
  obtain ⟨y0,e0⟩:=g 0 Om
  obtain ⟨y1,e1⟩:=g 1 Om
  obtain ⟨y2,e2⟩:=g 2 Om
  obtain ⟨y3,e3⟩:=g 3 Om
  obtain ⟨s0,h0,k0⟩:=xE ((hg 0 _ rfl).trans e0) (Nat.le_trans (xM e0) hK)
  obtain ⟨s1,h1,k1⟩:=xE ((hg 1 _ rfl).trans e1) (Nat.le_trans (xM e1) hK)
  obtain ⟨A,c,l,h2,r2,k2,t2⟩:=cells_txsK ((hg 2 _ rfl).trans e2) (Nat.le_trans (xM e2) hK)
  obtain ⟨d,h3⟩:=cells_bool ((hg 3 _ rfl).trans e3)
  have q0:List.take (Tryz.prog.cellsOf 9) (List.drop 0 [c0,c1,c2,c3])=_:=h0
  rw [kD] at q0
  have q1:List.take (Tryz.prog.cellsOf 9) (List.drop 1 [c0,c1,c2,c3])=_:=h1
  rw [kD] at q1
  have q2:List.take (Tryz.prog.cellsOf 66) (List.drop 2 [c0,c1,c2,c3])=_:=h2
  rw [size_txs11] at q2
  have q3:List.take (Tryz.prog.cellsOf 4) (List.drop 3 [c0,c1,c2,c3])=_:=h3
  rw [size_bool12] at q3
  obtain rfl:c0=_:=List.singleton_inj.1 q0
  obtain rfl:c1=_:=List.singleton_inj.1 q1
  obtain rfl:c2=_:=List.singleton_inj.1 q2
  obtain rfl:c3=_:=List.singleton_inj.1 q3
  exact ⟨⟨s0,s1,A,c,l,d⟩,rfl,⟨r2,k0,k1,k2,t2⟩⟩
theorem cells_wvsK {K:Nat}{fuel:Nat}{cs:List Value}{x:DataW H×List MemPlace}(h:DataW.trod enc YP W 0 (λ_=>true) true fuel 73 cs=some x)(hK:Rows.uptoBulk x.1<=K):∃ (A:Option Addr) (cap:Nat) (l:List _),cs=[.slice A l.length cap]/\Reads wvC W W.heap.size A l/\l.length<=K∧∀ u∈l,(WvK W K) u:=by
 rcases DataW.trod_slice Tryz.underlying73 h with ⟨hcs,_⟩|⟨a,len,cap,elems,rest,n,_,hcs,rfl,hb,hl,hm,hlen,hel,_,_⟩
 ·exact ⟨none,0,[],hcs,λh=>by simp at h,Nat.zero_le _,λu hu=>by cases hu⟩
 ·subst hcs
  rw [size_wv12] at hel
  have hn:=Nat.le_trans (wX (elems:=elems) (rest:=rest)) hK
  obtain ⟨l,hll,hr,he⟩:=qR (g:=wvC) (sz:=4) (p:=(WvK W K)) (by decide) wvC_length (W:=W) (a:=a) (len:=len) λi hi=>by
   have h1:=hel i hi
   rw [List.getElem?_eq_getElem Om] at h1
   obtain ⟨cs,e1,e2⟩:=Option.bind_eq_some_iff.1 h1
   obtain ⟨c,e3,e4⟩:=cells_wvK (K:=K) e2 (Nat.le_trans (tG Om) hK)
   exact ⟨c,e4,by rw [e1,e3]⟩
  exact ⟨some a,cap,l,by rw [hll],hr,by omega,he⟩
theorem cells_nvK {K:Nat}{fuel:Nat}{cs:List Value}{x:DataW H×List MemPlace}(h:DataW.trod enc YP W 0 (λ_=>true) true fuel 75 cs=some x)(hK:Rows.uptoBulk x.1<=K):∃ y:Nv,cs=nvC y/\NvK W K y:=by
 obtain ⟨xs,n,_,rfl,hl,hxl,hg⟩:=DataW.trod_struct Tryz.underlying75 h
 rw [size_nv12] at hl
 match cs,hl with
 | [c0,c1,c2],_=>
  have g:∀ i,i<3→∃ y,xs[i]?=some y:=λi hi=>⟨_,List.getElem?_eq_getElem (by rw [hxl];exact hi)⟩
  obtain ⟨y0,e0⟩:=g 0 Om
  obtain ⟨y1,e1⟩:=g 1 Om
  obtain ⟨y2,e2⟩:=g 2 Om
  obtain ⟨A,c,l,h0,r0,k0,t0⟩:=cells_wvsK ((hg 0 _ rfl).trans e0) (Nat.le_trans (xM e0) hK)
  obtain ⟨s1,h1,k1⟩:=xE ((hg 1 _ rfl).trans e1) (Nat.le_trans (xM e1) hK)
  obtain ⟨s2,h2,k2⟩:=xE ((hg 2 _ rfl).trans e2) (Nat.le_trans (xM e2) hK)
  have q0:List.take (Tryz.prog.cellsOf 73) (List.drop 0 [c0,c1,c2])=_:=h0
  rw [size_wvs12] at q0
  have q1:List.take (Tryz.prog.cellsOf 9) (List.drop 1 [c0,c1,c2])=_:=h1
  rw [kD] at q1
  have q2:List.take (Tryz.prog.cellsOf 9) (List.drop 2 [c0,c1,c2])=_:=h2
  rw [kD] at q2
  obtain rfl:c0=_:=List.singleton_inj.1 q0
  obtain rfl:c1=_:=List.singleton_inj.1 q1
  obtain rfl:c2=_:=List.singleton_inj.1 q2
  exact ⟨⟨A,c,l,s1,s2⟩,rfl,⟨r0,k0,t0,k1,k2⟩⟩
theorem cells_nvsK {K:Nat}{fuel:Nat}{cs:List Value}{x:DataW H×List MemPlace}(h:DataW.trod enc YP W 0 (λ_=>true) true fuel 25 cs=some x)(hK:Rows.uptoBulk x.1<=K):∃ (A:Option Addr) (cap:Nat) (l:List _),cs=[.slice A l.length cap]/\Reads nvC W W.heap.size A l/\l.length<=K∧∀ u∈l,(NvK W K) u:=by
 rcases DataW.trod_slice Tryz.underlying25 h with ⟨hcs,_⟩|⟨a,len,cap,elems,rest,n,_,hcs,rfl,hb,hl,hm,hlen,hel,_,_⟩
 ·exact ⟨none,0,[],hcs,λh=>by simp at h,Nat.zero_le _,λu hu=>by cases hu⟩
 ·subst hcs
  rw [size_nv12] at hel
  have hn:=Nat.le_trans (wX (elems:=elems) (rest:=rest)) hK
  obtain ⟨l,hll,hr,he⟩:=qR (g:=nvC) (sz:=3) (p:=(NvK W K)) (by decide) nvC_length (W:=W) (a:=a) (len:=len) λi hi=>by
   have h1:=hel i hi
   rw [List.getElem?_eq_getElem Om] at h1
   obtain ⟨cs,e1,e2⟩:=Option.bind_eq_some_iff.1 h1
   obtain ⟨c,e3,e4⟩:=cells_nvK (K:=K) e2 (Nat.le_trans (tG Om) hK)
   exact ⟨c,e4,by rw [e1,e3]⟩
  exact ⟨some a,cap,l,by rw [hll],hr,by omega,he⟩
theorem cells_bvK {K:Nat}{fuel:Nat}{cs:List Value}{x:DataW H×List MemPlace}(h:DataW.trod enc YP W 0 (λ_=>true) true fuel 77 cs=some x)(hK:Rows.uptoBulk x.1<=K):∃ y:Bv,cs=bvC y/\BvK K y:=by
 obtain ⟨xs,n,_,rfl,hl,hxl,hg⟩:=DataW.trod_struct Tryz.underlying77 h
 rw [size_bv12] at hl
 match cs,hl with
 | [c0,c1,c2],_=>
  have g:∀ i,i<3→∃ y,xs[i]?=some y:=λi hi=>⟨_,List.getElem?_eq_getElem (by rw [hxl];exact hi)⟩
  obtain ⟨y0,e0⟩:=g 0 Om
  obtain ⟨y1,e1⟩:=g 1 Om
  obtain ⟨y2,e2⟩:=g 2 Om
  obtain ⟨s0,h0,k0⟩:=xE ((hg 0 _ rfl).trans e0) (Nat.le_trans (xM e0) hK)
  obtain ⟨s1,h1,k1⟩:=xE ((hg 1 _ rfl).trans e1) (Nat.le_trans (xM e1) hK)
  obtain ⟨s2,h2,k2⟩:=xE ((hg 2 _ rfl).trans e2) (Nat.le_trans (xM e2) hK)
  have q0:List.take (Tryz.prog.cellsOf 9) (List.drop 0 [c0,c1,c2])=_:=h0
  rw [kD] at q0
  have q1:List.take (Tryz.prog.cellsOf 9) (List.drop 1 [c0,c1,c2])=_:=h1
  rw [kD] at q1
  have q2:List.take (Tryz.prog.cellsOf 9) (List.drop 2 [c0,c1,c2])=_:=h2
  rw [kD] at q2
  obtain rfl:c0=_:=List.singleton_inj.1 q0
  obtain rfl:c1=_:=List.singleton_inj.1 q1
  obtain rfl:c2=_:=List.singleton_inj.1 q2
  exact ⟨⟨s0,s1,s2⟩,rfl,⟨k0,k1,k2⟩⟩
theorem cells_bvsK {K:Nat}{fuel:Nat}{cs:List Value}{x:DataW H×List MemPlace}(h:DataW.trod enc YP W 0 (λ_=>true) true fuel 26 cs=some x)(hK:Rows.uptoBulk x.1<=K):∃ (A:Option Addr) (cap:Nat) (l:List _),cs=[.slice A l.length cap]/\Reads bvC W W.heap.size A l/\l.length<=K∧∀ u∈l,(BvK K) u:=by
 rcases DataW.trod_slice Tryz.underlying26 h with ⟨hcs,_⟩|⟨a,len,cap,elems,rest,n,_,hcs,rfl,hb,hl,hm,hlen,hel,_,_⟩
 ·exact ⟨none,0,[],hcs,λh=>by simp at h,Nat.zero_le _,λu hu=>by cases hu⟩
 ·subst hcs
  rw [size_bv12] at hel
  have hn:=Nat.le_trans (wX (elems:=elems) (rest:=rest)) hK
  obtain ⟨l,hll,hr,he⟩:=qR (g:=bvC) (sz:=3) (p:=(BvK K)) (by decide) bvC_len (W:=W) (a:=a) (len:=len) λi hi=>by
   have h1:=hel i hi
   rw [List.getElem?_eq_getElem Om] at h1
   obtain ⟨cs,e1,e2⟩:=Option.bind_eq_some_iff.1 h1
   obtain ⟨c,e3,e4⟩:=cells_bvK (K:=K) e2 (Nat.le_trans (tG Om) hK)
   exact ⟨c,e4,by rw [e1,e3]⟩
  exact ⟨some a,cap,l,by rw [hll],hr,by omega,he⟩
theorem cells_fvK {K:Nat}{fuel:Nat}{cs:List Value}{x:DataW H×List MemPlace}(h:DataW.trod enc YP W 0 (λ_=>true) true fuel 79 cs=some x)(hK:Rows.uptoBulk x.1<=K):∃ y:Fv,cs=fvC y/\FvK W K y:=by
 obtain ⟨xs,n,_,rfl,hl,hxl,hg⟩:=DataW.trod_struct Tryz.underlying79 h
 rw [size_fv11] at hl
 match cs,hl with
 | [c0,c1],_=>
  have g:∀ i,i<2→∃ y,xs[i]?=some y:=λi hi=>⟨_,List.getElem?_eq_getElem (by rw [hxl];exact hi)⟩
  obtain ⟨y0,e0⟩:=g 0 Om
  obtain ⟨y1,e1⟩:=g 1 Om
  obtain ⟨s0,h0,k0⟩:=xE ((hg 0 _ rfl).trans e0) (Nat.le_trans (xM e0) hK)
  obtain ⟨A,c,l,h1,r1,k1,t1⟩:=cells_txsK ((hg 1 _ rfl).trans e1) (Nat.le_trans (xM e1) hK)
  have q0:List.take (Tryz.prog.cellsOf 9) (List.drop 0 [c0,c1])=_:=h0
  rw [kD] at q0
  have q1:List.take (Tryz.prog.cellsOf 66) (List.drop 1 [c0,c1])=_:=h1
  rw [size_txs11] at q1
  obtain rfl:c0=_:=List.singleton_inj.1 q0
  obtain rfl:c1=_:=List.singleton_inj.1 q1
  exact ⟨⟨s0,A,l,c⟩,rfl,⟨r1,k0,k1,t1⟩⟩
theorem cells_fvsK {K:Nat}{fuel:Nat}{cs:List Value}{x:DataW H×List MemPlace}(h:DataW.trod enc YP W 0 (λ_=>true) true fuel 27 cs=some x)(hK:Rows.uptoBulk x.1<=K):∃ (A:Option Addr) (cap:Nat) (l:List _),cs=[.slice A l.length cap]/\Reads fvC W W.heap.size A l/\l.length<=K∧∀ u∈l,(FvK W K) u:=by
 rcases DataW.trod_slice Tryz.underlying27 h with ⟨hcs,_⟩|⟨a,len,cap,elems,rest,n,_,hcs,rfl,hb,hl,hm,hlen,hel,_,_⟩
 ·exact ⟨none,0,[],hcs,λh=>by simp at h,Nat.zero_le _,λu hu=>by cases hu⟩
 ·subst hcs
  rw [size_fv11] at hel
  have hn:=Nat.le_trans (wX (elems:=elems) (rest:=rest)) hK
  obtain ⟨l,hll,hr,he⟩:=qR (g:=fvC) (sz:=2) (p:=(FvK W K)) (by decide) wE (W:=W) (a:=a) (len:=len) λi hi=>by
   have h1:=hel i hi
   rw [List.getElem?_eq_getElem Om] at h1
   obtain ⟨cs,e1,e2⟩:=Option.bind_eq_some_iff.1 h1
   obtain ⟨c,e3,e4⟩:=cells_fvK (K:=K) e2 (Nat.le_trans (tG Om) hK)
   exact ⟨c,e4,by rw [e1,e3]⟩
  exact ⟨some a,cap,l,by rw [hll],hr,by omega,he⟩
theorem cells_rvK {K:Nat}{fuel:Nat}{cs:List Value}{x:DataW H×List MemPlace}(h:DataW.trod enc YP W 0 (λ_=>true) true fuel 29 cs=some x)(hK:Rows.uptoBulk x.1<=K):∃ y:Rv,cs=rvC y/\RvK W K y:=by
 obtain ⟨xs,n,_,rfl,hl,hxl,hg⟩:=DataW.trod_struct Tryz.underlying29 h
 rw [size_rv12] at hl
 match cs,hl with
 | [c0,c1,c2,c3,c4,c5,c6,c7,c8],_=>
  have g:∀ i,i<5→∃ y,xs[i]?=some y:=λi hi=>⟨_,List.getElem?_eq_getElem (by rw [hxl];exact hi)⟩
  obtain ⟨y0,e0⟩:=g 0 Om
  obtain ⟨y1,e1⟩:=g 1 Om
  obtain ⟨y2,e2⟩:=g 2 Om
  obtain ⟨y3,e3⟩:=g 3 Om
  obtain ⟨y4,e4⟩:=g 4 Om
  obtain ⟨a,ha,ka⟩:=xE ((hg 0 _ rfl).trans e0) (Nat.le_trans (xM e0) hK)
  obtain ⟨u,hu,kp,kq⟩:=cells_verB ((hg 1 _ rfl).trans e1) (Nat.le_trans (xM e1) hK)
  obtain ⟨nA,nc,ns,hn,rn,kn,tn⟩:=cells_nvsK ((hg 2 _ rfl).trans e2) (Nat.le_trans (xM e2) hK)
  obtain ⟨bA,bc,bs,hb,rb,kb,tb⟩:=cells_bvsK ((hg 3 _ rfl).trans e3) (Nat.le_trans (xM e3) hK)
  obtain ⟨fA,fc,fs,hq,rf,kf,tf⟩:=cells_fvsK ((hg 4 _ rfl).trans e4) (Nat.le_trans (xM e4) hK)
  have ha2:List.take (Tryz.prog.cellsOf 9) (List.drop 0 [c0,c1,c2,c3,c4,c5,c6,c7,c8])=_:=ha
  have hu2:List.take (Tryz.prog.cellsOf 24) (List.drop 1 [c0,c1,c2,c3,c4,c5,c6,c7,c8])=_:=hu
  have hn2:List.take (Tryz.prog.cellsOf 25) (List.drop 6 [c0,c1,c2,c3,c4,c5,c6,c7,c8])=_:=hn
  have hb2:List.take (Tryz.prog.cellsOf 26) (List.drop 7 [c0,c1,c2,c3,c4,c5,c6,c7,c8])=_:=hb
  have hq2:List.take (Tryz.prog.cellsOf 27) (List.drop 8 [c0,c1,c2,c3,c4,c5,c6,c7,c8])=_:=hq
  rw [kD] at ha2
  rw [size_ver12] at hu2
  rw [size_nvs12] at hn2
  rw [size_bvs12] at hb2
  rw [size_fvs12] at hq2
  refine ⟨⟨a,u.maj,u.min,u.pat,u.pre,u.build,nA,nc,ns,bA,bc,bs,fA,fc,fs⟩, ?_,⟨ka,kp,kq,rn,kn,tn,rb,kb,tb,rf,kf,tf⟩⟩
  obtain rfl:c0=_:=List.singleton_inj.1 ha2
  obtain rfl:c6=_:=List.singleton_inj.1 hn2
  obtain rfl:c7=_:=List.singleton_inj.1 hb2
  obtain rfl:c8=_:=List.singleton_inj.1 hq2
  have hu3:[c1,c2,c3,c4,c5]=(kJ u).cells.toList:=hu2
  show _::([c1,c2,c3,c4,c5]++_)=_
  rw [hu3];rfl
theorem RvK.inn {x:Rv}(h:RvK W 1048576 x):RcIn W W.heap.size x:=
 ⟨h.needs,λn hn=>(h.ns n hn).1,λn hn u hu=>((h.ns n hn).2.2.1 u hu).1,h.bars,⟨h.fts,λf hf=>(h.fs f hf).1,h.nf,λf hf=>(h.fs f hf).2.2.1,λf hf=>(h.fs f hf).2.1,λf hf=>(h.fs f hf).2.2.2⟩,h.nn,λn hn=>(h.ns n hn).2.1,λn hn u hu=>((h.ns n hn).2.2.1 u hu).2.2.2.1,h.nb,⟨h.name,h.pre,h.bld⟩,λn hn=>⟨(h.ns n hn).2.2.2.1,(h.ns n hn).2.2.2.2⟩,λn hn u hu=>⟨((h.ns n hn).2.2.1 u hu).2.1,((h.ns n hn).2.2.1 u hu).2.2.1,((h.ns n hn).2.2.1 u hu).2.2.2.2⟩,λb hb=>h.bs b hb⟩
end
end
end Go.Proofs.YtobimfnmnkegdaaGreatDoor
