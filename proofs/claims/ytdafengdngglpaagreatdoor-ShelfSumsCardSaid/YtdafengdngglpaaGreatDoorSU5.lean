import Derived.Laws.OwnMore
import Derived.Test.YtdafengdngglpaaGreatDoorSU4
set_option maxRecDepth 1000000
set_option maxHeartbeats 8000000
set_option linter.unusedVariables false
set_option linter.unusedSimpArgs false
set_option linter.unnecessarySimpa false
namespace Go.Proofs.YtdafengdngglpaaGreatDoor
open Go.RowKit

section
theorem rsParse_any (s:YL)(W:World)(hs:s.length<=1000000):YC 285 #[.string (mkS s)] W λe w'=>∃ v' ob',e= .returned (.tuple #[v',YI (bP s)])/\RgO v' ((g6 s).getD []) ob'/\Own [] W w' ob':=by
 have hZ:=λ{z:Int} (h:bP s=z/\g6 s=none) (w:World) (hb:Own [] W w [])=>show ∃ v' ob',Ending.returned (.tuple #[.agg #[.slice none 0 0],YI z])= .returned (.tuple #[v',YI (bP s)])/\RgO v' ((g6 s).getD []) ob'/\Own [] W w ob' from ⟨_,[],by rw [h.1],by rw [h.2];exact RgO.nil,hb⟩
 refine z8 Tryz.func285 (zB [] λb1=>zA 14 [] ((96:Int)<(s.length:Int)) (λh1=>zS [0] 0 (.agg #[.slice none 0 0]) (YI 3) λw hO=>hZ (errG_long Om) w (mG hO)) (λh1=>zB [] λb2=>yC (R:=λv' ob'=>SlT v' (kF [] s) ob') [] (λw hO=>rsalts_any s w hs) ?_))
 intro lv ol hol
 have hs6:s.length<=96:=by omega
 obtain ⟨l,hll⟩:∃ l,l=kF [] s:=⟨_,rfl⟩
 rw [←hll] at hol
 have hln:l.length<=97:=by rw [hll];have:=pT s [];omega
 have hlm:∀ x∈l,x.length<=96:=λx hx=>by have:=tV s [] x (hll▸hx);simp at this;omega
 obtain ⟨g,cur,lcap,rfl,rfl,hcur⟩:=SlT.blk hol (by rw [hll];exact altsL_ne s [])
 refine zL (α:=Nat×Option Addr×Nat×List Al×List Blk×List Blk) (λ(i,_,_,_,_,_)=>[(2,Zp b1 0),(4,Zp b2 0),(5,.slice (some ⟨g,0,none⟩) l.length lcap),(6,YI (i:Int))]) (λ(_,A,cap,xs,o1,o2)=>⟨b2, #[.slice A xs.length cap],279⟩::⟨b1, #[.slice none 0 0],279⟩::⟨g,cur,9⟩::(o1++o2)) (λ(i,A,cap,xs,o1,o2) m=>(i<=l.length/\RgA (.slice A xs.length cap) xs o1 o2/\dW parseA (l.take i)=some (x1 xs))/\m=l.length-i) (0,none,0,[],[],[]) (l.length-0) [] ⟨⟨Nat.zero_le _,RgA.nil,rfl⟩,rfl⟩ ?_
 rintro ⟨i,A,cap,xs,o1,o2⟩ m gg kk ⟨⟨hil,hra,hal⟩,hmm⟩ nx hkk
 subst hkk
 by_cases h2:(i:Int)<(l.length:Int)
 ·have hi:i<l.length:=by omega
  obtain ⟨y,hy⟩:∃ y,l[i]=y:=⟨_,rfl⟩
  have hyl:y.length<=96:=hlm y (hy▸List.getElem_mem hi)
  have hxl:xs.length<=97:=by have q:=dV hal;rw [List.length_take,gW] at q;omega
  refine zA 21 [] ((i:Int)<(l.length:Int)) (λ_=>jH 26 [] (A:=some ⟨g,0,none⟩) rfl l.length lcap (i:Int) 1 (i*1) Om (j7 27 [] 2 cur (i*1) 9 (.string (mkS y)) (nJ zO hcur i 0 Om Om _ (by rw [hy];kernel_rfl)) (yC (R:=λv' ob'=>SlT v' (zI 44 [] y) ob') [] (λw hO=>rsplit44_own y w Om) ?_))) (λh=>absurd h2 h)
  intro mv om hom
  obtain ⟨m',hml⟩:∃ m',m'=zI 44 [] y:=⟨_,rfl⟩
  rw [←hml] at hom
  have hmn:m'.length<=97:=by rw [hml];exact (pH hyl).1
  have hmm':∀ x∈m',x.length<=96:=λx hx=>(pH hyl).2 x (hml▸hx)
  obtain ⟨g2,cur2,mcap,rfl,rfl,hcur2⟩:=SlT.blk hom (by rw [hml];exact nF 44 y [])
  refine zK [] (⟨g2,cur2,9⟩::⟨b2, #[.slice A xs.length cap],279⟩::⟨b1, #[.slice none 0 0],279⟩::⟨g,cur,9⟩::(o1++o2)) (λw hO=>(hO.past 0 ((⟨b2, #[.slice A xs.length cap],279⟩::⟨b1, #[.slice none 0 0],279⟩::⟨g,cur,9⟩::(o1++o2))++[⟨g2,cur2,9⟩])).perm List.perm_append_comm) (zL (α:=Nat×Option Addr×Nat×List Co×List Blk) (λ(k,B,cb,a,_)=>[(2,Zp b1 0),(4,Zp b2 0),(5,.slice (some ⟨g,0,none⟩) l.length lcap),(6,YI (i:Int)),(7,.slice B a.length cb),(8,.slice (some ⟨g2,0,none⟩) m'.length mcap),(9,YI (k:Int))]) (λ(_,_,_,_,oa)=>⟨g2,cur2,9⟩::⟨b2, #[.slice A xs.length cap],279⟩::⟨b1, #[.slice none 0 0],279⟩::⟨g,cur,9⟩::(oa++(o1++o2))) (λ(k,B,cb,a,oa) m=>(k<=m'.length/\SlCo (.slice B a.length cb) a oa/\dW parseP (m'.take k)=some a)/\m=m'.length-k) (0,none,0,[],[]) (m'.length-0) [] ⟨⟨Nat.zero_le _,Sl.nil _ _,rfl⟩,rfl⟩ ?_)
  rintro ⟨k,B,cb,a,oa⟩ m2 g3 kk2 ⟨⟨hkl,hsl,hak⟩,hmk⟩ nxk hkk2
  subst hkk2
  have hal2:a.length<=97:=by have q:=dV hak;rw [List.length_take] at q;omega
  by_cases h3:(k:Int)<(m'.length:Int)
  ·have hk:k<m'.length:=by omega
   obtain ⟨z,hz⟩:∃ z,m'[k]=z:=⟨_,rfl⟩
   have hzl:z.length<=96:=hmm' z (hz▸List.getElem_mem hk)
   have hbz:=bareL_len z
   refine zA 32 [] ((k:Int)<(m'.length:Int)) (λ_=>jH 38 [] (A:=some ⟨g2,0,none⟩) rfl m'.length mcap (k:Int) 1 (k*1) Om (j7 39 [] 0 cur2 (k*1) 9 (.string (mkS z)) (nJ zO hcur2 k 0 Om Om _ (by rw [hz];kernel_rfl)) (z6 (k:=323) (args:= #[.string (mkS z)]) (v:= .string (mkS (yE z))) [] (λw _=>rsbare_any z w Om) (z6 (k:=322) (args:= #[.string (mkS (yE z))]) (v:= .tuple #[coV (pcV (yE z)),YI (pcE (yE z))]) [] (λw _=>rcParse_any (yE z) w Om) (zB [] λb3=>kW 45 [0] (pcE (yE z)=0) (λh4=> ?_) (λh4=>zS [3] 3 (.agg #[.slice none 0 0]) (YI 6) λw hO=>hZ (errG_none hs6 (all_fails hll hi hy hml hk hz h4)) w (mG hO))))))) (λh=>absurd h3 h)
   refine kD [0] 1 155 (coV (pcV (yE z))).cells λb4=>qJ (m:=1) (cp:=1) [] [⟨b4,(coV (pcV (yE z))).cells,155⟩,⟨b3,(coV (pcV (yE z))).cells,155⟩,⟨g2,cur2,9⟩,⟨b2, #[.slice A xs.length cap],279⟩,⟨b1, #[.slice none 0 0],279⟩,⟨g,cur,9⟩] oa (o1++o2) 0 (⟨b4,(coV (pcV (yE z))).cells,155⟩::⟨b3,(coV (pcV (yE z))).cells,155⟩::⟨g2,cur2,9⟩::⟨b2, #[.slice A xs.length cap],279⟩::⟨b1, #[.slice none 0 0],279⟩::⟨g,cur,9⟩::(oa++(o1++o2))) (λw hO=>hO.cast (by simp)) hsl Om λu2 ob2 hu2=> ?_
   have hu3:SlCo u2 (a++[pcV (yE z)]) ob2:=(show Sl 155 7 u2 (a.length+1) (a.flatMap coC++coC (pcV (yE z))) ob2 from hu2).to (by simp) (by simp)
   obtain ⟨B2,cb2,rfl⟩:=Sl.form hu3
   exact x_i 34 [] ((k+1:Nat):Int) (zK [] (⟨g2,cur2,9⟩::⟨b2, #[.slice A xs.length cap],279⟩::⟨b1, #[.slice none 0 0],279⟩::⟨g,cur,9⟩::(ob2++(o1++o2))) (λw hO=>hO.past 2 _) (nxk (k+1,B2,cb2,a++[pcV (yE z)],ob2) (m'.length-(k+1)) [] Om ⟨⟨by omega,hu3,allO_next hk hz hak (pc_ok h4)⟩,rfl⟩ Kr Kr))
  ·refine zA 32 [] ((k:Int)<(m'.length:Int)) (λh=>absurd h h3) (λ_=>kD [1] 1 305 #[.slice B a.length cb] λb3=>qJ (m:=1) (cp:=1) [] ([⟨b3, #[.slice B a.length cb],305⟩,⟨g2,cur2,9⟩,⟨b2, #[.slice A xs.length cap],279⟩,⟨b1, #[.slice none 0 0],279⟩,⟨g,cur,9⟩]++oa) o1 o2 0 (⟨b3, #[.slice B a.length cb],305⟩::⟨g2,cur2,9⟩::⟨b2, #[.slice A xs.length cap],279⟩::⟨b1, #[.slice none 0 0],279⟩::⟨g,cur,9⟩::(oa++(o1++o2))) (λw hO=>hO.cast (by simp)) hra.top Om λu2 ob2 hu2=> ?_)
   have hra2:RgA u2 (xs++[(⟨B,a,cb⟩:Al)]) ob2 (oa++o2):=hra.add hu2 hsl
   obtain ⟨A2,cap2,rfl⟩:=Sl.form hra2.top
   exact x_i 23 [2] ((i+1:Nat):Int) (zK [] (⟨b2, #[.slice A2 (xs++[(⟨B,a,cb⟩:Al)]).length cap2],279⟩::⟨b1, #[.slice none 0 0],279⟩::⟨g,cur,9⟩::(ob2++(oa++o2))) (λw hO=>own_turn (hO.past 0 (([⟨b3, #[.slice B a.length cb],305⟩,⟨g2,cur2,9⟩,⟨b2, #[.slice A2 (xs++[(⟨B,a,cb⟩:Al)]).length cap2],279⟩,⟨b1, #[.slice none 0 0],279⟩,⟨g,cur,9⟩]++oa)++ob2++o2))) (nx (i+1,A2,cap2,xs++[(⟨B,a,cb⟩:Al)],ob2,oa++o2) (l.length-(i+1)) [] Om ⟨⟨by omega,hra2,by rw [show x1 (xs++[(⟨B,a,cb⟩:Al)])=x1 xs++[a] from by simp [x1]];exact allO_next hi hy hal (by have q:=hak;rw [List.take_of_length_le Om,hml] at q;exact q)⟩,rfl⟩ Kr Kr))
 ·have hall:qZ s=some (x1 xs):=by have q:=hal;rw [List.take_of_length_le Om,hll] at q;exact q
  have hfine:FineR (x1 xs):=fine_part hs6 (λx hx=>hll▸hx) hln (by rw [hll];exact hall)
  have hin:∀ w,Own [] W w (o1++o2)->RgIn w w.heap.size A xs:=λw hO=>hra.inn rfl hO (λx hx=>List.mem_append_left _ hx) (λx hx=>List.mem_append_right _ hx) hfine
  refine zA 21 [] ((i:Int)<(l.length:Int)) (λh=>absurd h h2) (λ_=>z6 (k:=324) (args:= #[.agg #[.slice A xs.length cap]]) (v:= .bool (fewR (x1 xs))) [0] (λw hO=>rsfew_any A cap xs w (hin w (hO.past 3 (o1++o2)))) ?_)
  cases h5:fewR (x1 xs) with
  |false=>exact zS [1] 1 (.agg #[.slice none 0 0]) (.int .i64 6) λw hO=>hZ (errG_few hs6 hall h5) w (mG hO)
  |true=>exact z6 (k:=325) (args:= #[.agg #[.slice A xs.length cap]]) (v:= .string (mkS (kR (x1 xs)))) [0] (λw hO=>rstext_any A cap xs w (hin w (hO.past 3 (o1++o2))) h5) (zA 64 [] ((96:Int)<((kR (x1 xs)).length:Int)) (λh6=>zS [1] 1 (.agg #[.slice none 0 0]) (.int .i64 3) λw hO=>hZ (errG_big hs6 hall h5 Om) w (mG hO)) (λh6=>zS [0,1] 1 (.agg #[.slice A xs.length cap]) (.int .i64 0) λw hO=>⟨.agg #[.slice A xs.length cap],o1++o2,by rw [(errG_fine hs6 hall h5 Om).1],by rw [(errG_fine hs6 hall h5 Om).2];exact ⟨xs,_,o1,o2,rfl,rfl,rfl,hra⟩,hO.past 3 (o1++o2)⟩))
end
section
end
section
def turnL (l:List Sp)(k:Nat):List Sp:=((l.take k).map turnS).filter (·.may)
end
section
section
variable {M:List Nat}{W w:World}
end
theorem fine_get {s:YL}(h:bP s=0):FineR ((g6 s).getD []):=by
 cases hp:g6 s with
 |none=>rcases err_none hp with e|e<;>rw [e] at h<;>exact absurd h (by decide)
 |some r=>exact fine_few (rgMay.facts (err_some hp).2.1).1
theorem rsParse_tup (s:YL)(W:World)(hs:s.length<=1000000):YC 285 #[.string (mkS s)] W λe w'=>∃ v' ob',e= .returned v'/\(∃ rv,v'=Value.tuple #[rv,YI (bP s)]/\RgO rv ((g6 s).getD []) ob')/\Own [] W w' ob':=
 (rsParse_any s W hs).mono λe w' ⟨v',ob',k1,k2,k3⟩=>⟨_,ob',k1,⟨v',rfl,k2⟩,k3⟩
end
section
theorem fewR_text {r:List (List Co)}(h:r≠[]){t:YL}(ht:f9 r=t):(t=[]->fewR r=false)/\(¬ t=[]->fewR r=true/\kR r=t):=by
 refine ⟨λq=>textR_nil.1 (ht.trans q),λq=> ?_⟩
 cases hf:fewR r with
 |false=>exact absurd (ht.symm.trans (textR_nil.2 hf)) q
 |true=>refine ⟨rfl, ?_⟩;unfold f9 at ht;rw [hf] at ht;exact ht
theorem all_ne {s:YL}{r:List (List Co)}(h:qZ s=some r):r≠[]:=λe=>by
 have h2:=dV h
 rw [e] at h2
 exact altsL_ne s [] (List.eq_nil_of_length_eq_zero h2.symm)
theorem gParse_any (s:YL)(W:World)(hs:s.length<=1000000)(ht:HasLib W):YC 274 #[.string (mkS s)] W λe w'=>∃ v' ob',e= .returned (.tuple #[v',YI (bP s)])/\RgO v' ((g6 s).getD []) ob'/\Own [] W w' ob':=by
 have hsz:=zW s
 refine Z2 (n:=62) Tryz.func274 rfl (ZO (Za (.agg #[.slice none 0 0]) (λb1=>Zv (YI 0) (ZN (zV (ZO (Zv (.string (mkS s)) (Zv (YI ((mkS s).size)) ?_))))))))
 by_cases h1:(96:Int)<(mkS s).size
 ·refine Zg h1 (ZY (ZO (Zv (.agg #[.slice none 0 0]) (Zs 0 ⟨b1, #[.slice none 0 0],279⟩ (off:=0) (.agg #[.slice none 0 0]) (Zv (YI 3) (ZN (xK ?_)))))))
  exact yD (ZD 0 ⟨b1, #[.slice none 0 0],279⟩ (off:=0) (.agg #[.slice none 0 0]) (YI 3) Tryz.results274 (λw hO=>⟨.agg #[.slice none 0 0],[],by rw [(errG_long (s:=s) Om).1],by rw [(errG_long (s:=s) Om).2];exact RgO.nil,mG hO⟩))
 have hs6:s.length<=96:=by omega
 refine Zh h1 (ZX (ZB (ZO (Za (.agg #[.slice none 0 0]) (λb2=>ZN (zV ?_))))))
 refine ZO (Zv (.string (mkS s)) (Zr (k:=228) (args:= #[.string (mkS s),.string ⟨#[124,124]⟩]) (λv' L'=>∃ ob',L'=ob'++([⟨b2, #[.slice none 0 0],279⟩,⟨b1, #[.slice none 0 0],279⟩])/\SlT v' (kF [] s) ob') (λw hO=>(split_bars s w hs (ht.on hO.below)).mono λe w' ⟨v',ob',k1,k2,k3⟩=>⟨v',_,k1,⟨ob',rfl,k2⟩,Own.joinN hO k3⟩) (λlv L2 hv2=> ?_)))
 obtain ⟨ol,rfl,hol⟩:=hv2
 obtain ⟨l,hll⟩:∃ l,l=kF [] s:=⟨_,rfl⟩
 rw [←hll] at hol
 have hln:l.length<=97:=by rw [hll];have:=pT s [];omega
 have hlm:∀ x∈l,x.length<=96:=λx hx=>by have:=tV s [] x (hll▸hx);simp at this;omega
 obtain ⟨g,cur,lcap,rfl,rfl,hcur⟩:=SlT.blk hol (by rw [hll];exact altsL_ne s [])
 refine Zv (YI (l.length:Int)) (Zv (YI 0) (ZN (kH (pL (L':=⟨g,cur,9⟩::⟨b2, #[.slice none 0 0],279⟩::⟨b1, #[.slice none 0 0],279⟩::([]++[])) rfl (dD (λL f m=>∃ (i:Nat) (A:Option Addr) (cap:Nat) (xs:List Al) (o1:List Blk) (o2:List Blk) (j:Nat->Value),(i<=l.length/\RgA (.slice A xs.length cap) xs o1 o2/\dW parseA (l.take i)=some (x1 xs))/\L=⟨g,cur,9⟩::⟨b2, #[.slice A xs.length cap],279⟩::⟨b1, #[.slice none 0 0],279⟩::(o1++o2)/\f=mP j [(2,Zp b1 0),(4,Zp b2 0),(18,.slice (some ⟨g,0,none⟩) l.length lcap),(19,YI (l.length:Int)),(20,YI (i:Int))]/\m=l.length-i) (l.length-0) ⟨0,none,0,[],[],[],_,⟨Nat.zero_le _,RgA.nil,rfl⟩,rfl,ZU,rfl⟩ ?_)))))
 rintro L f m ⟨i,A,cap,xs,o1,o2,j,hrel,rfl,rfl,rfl⟩
 have hrel0:=hrel;have hra:=hrel.2.1;have hil:=hrel.1
 refine zV (zT ?_)
 by_cases h2:(i:Int)<(l.length:Int)
 ·have hi:i<l.length:=by omega
  obtain ⟨y,hy⟩:∃ y,l[i]=y:=⟨_,rfl⟩
  have hyl:y.length<=96:=hlm y (hy▸List.getElem_mem hi)
  refine Zg h2 (ZN (zV (Zt (ZB (zV (kH (ZO (yW (Zp g (i*1)) Kr (ZV (b:=g) (off:=0) (n:=l.length) (c:=lcap) (k:= .i64) (j:=(i:Int)) (e:=9) (sz:=1)) ?_))))))))
  refine s_load 0 ⟨g,cur,9⟩ (off:=i*1) (.string (mkS y)) Kr rfl Kr Kr (nJ zO hcur i 0 Om Om _ (by rw [hy];kernel_rfl)) (Zv (.string (mkS y)) (ZR (Zv (.slice none 0 0) (ZN (zV (zV (zT ?_)))))))
  refine Zv (.string (mkS y)) (Zr (k:=228) (args:= #[.string (mkS y),.string ⟨#[44]⟩]) (λv' L'=>∃ ob',L'=ob'++(⟨g,cur,9⟩::(⟨b2, #[.slice A xs.length cap],279⟩::(⟨b1, #[.slice none 0 0],279⟩::((o1++o2)))))/\SlT v' (zI 44 [] y) ob') (λw hO=>(split_comma y w Om (ht.on hO.below)).mono λe w' ⟨v',ob',k1,k2,k3⟩=>⟨v',_,k1,⟨ob',rfl,k2⟩,Own.joinN hO k3⟩) (λmv L2 hv2=> ?_))
  obtain ⟨om,rfl,hom⟩:=hv2
  obtain ⟨m',hml⟩:∃ m',m'=zI 44 [] y:=⟨_,rfl⟩
  rw [←hml] at hom
  have hmn:m'.length<=97:=by rw [hml];exact (pH hyl).1
  have hmm:∀ x∈m',x.length<=96:=λx hx=>(pH hyl).2 x (hml▸hx)
  obtain ⟨g2,cur2,mcap,rfl,rfl,hcur2⟩:=SlT.blk hom (by rw [hml];exact nF 44 y [])
  refine Zv (YI (m'.length:Int)) (Zv (YI 0) (ZN (kH (pL (L':=⟨g2,cur2,9⟩::⟨g,cur,9⟩::⟨b2, #[.slice A xs.length cap],279⟩::⟨b1, #[.slice none 0 0],279⟩::([]++(o1++o2))) rfl (dD (λL f m=>∃ (k:Nat) (B:Option Addr) (cb:Nat) (a:List Co) (oa:List Blk) (j:Nat->Value),(k<=m'.length/\SlCo (.slice B a.length cb) a oa/\dW parseP (m'.take k)=some a)/\L=⟨g2,cur2,9⟩::⟨g,cur,9⟩::⟨b2, #[.slice A xs.length cap],279⟩::⟨b1, #[.slice none 0 0],279⟩::(oa++(o1++o2))/\f=mP j [(2,Zp b1 0),(4,Zp b2 0),(18,.slice (some ⟨g,0,none⟩) l.length lcap),(19,YI (l.length:Int)),(20,YI (i:Int)),(7,.slice B a.length cb),(25,.slice (some ⟨g2,0,none⟩) m'.length mcap),(26,YI (m'.length:Int)),(27,YI (k:Int))]/\m=m'.length-k) (m'.length-0) ⟨0,none,0,[],[],_,⟨Nat.zero_le _,Sl.nil _ _,rfl⟩,rfl,ZU,rfl⟩ ?_)))))
  rintro L f m ⟨k,B,cb,a,oa,j,hrel,rfl,rfl,rfl⟩
  have hkl:=hrel.1
  refine zV (zT ?_)
  by_cases h3:(k:Int)<(m'.length:Int)
  ·have hk:k<m'.length:=by omega
   obtain ⟨z,hz⟩:∃ z,m'[k]=z:=⟨_,rfl⟩
   have hzl:z.length<=96:=hmm z (hz▸List.getElem_mem hk)
   have hbz:=bareL_len z
   refine Zg h3 (ZN (zV (Zt (ZB (zV (kH (ZO (yW (Zp g2 (k*1)) Kr (ZV (b:=g2) (off:=0) (n:=m'.length) (c:=mcap) (k:= .i64) (j:=(k:Int)) (e:=9) (sz:=1)) ?_))))))))
   refine s_load 0 ⟨g2,cur2,9⟩ (off:=k*1) (.string (mkS z)) Kr rfl Kr Kr (nJ zO hcur2 k 0 Om Om _ (by rw [hz];kernel_rfl)) (Zv (.string (mkS z)) (ZR (Zv (.string (mkS z)) (Zc (k:=308) (args:= #[.string (mkS z),.string ⟨#[32]⟩]) (.string (mkS (yE z))) (λw _=>trim_any z w Om) (Zc (k:=307) (args:= #[.string (mkS (yE z))]) (.tuple #[coV (pcV (yE z)),YI (pcE (yE z))]) (λw hO=>cParse_any (yE z) w Om (ht.tab.on hO.below)) (Zv (.tuple #[coV (pcV (yE z)),YI (pcE (yE z))]) (Zv (coV (pcV (yE z))) (Zv (YI (pcE (yE z))) ?_))))))))
   refine Za (.agg #[YI 0,YI 0,YI 0,YI 0,YI 0,.string ⟨#[]⟩,.string ⟨#[]⟩]) (λb3=>Zs 0 ⟨b3, #[YI 0,YI 0,YI 0,YI 0,YI 0,.string ⟨#[]⟩,.string ⟨#[]⟩],155⟩ (off:=0) (coV (pcV (yE z))) (Zv (YI (pcE (yE z))) (ZN (zV (ZO (Zv (YI (pcE (yE z))) ?_))))))
   by_cases h4:((pcE (yE z)):Int)=0
   ·refine Zn (p:=((pcE (yE z)):Int)=0) true (decide_eq_true (h4)) (ZX (ZB (zT (Zv (.slice B a.length cb) (Zl 0 ⟨b3,(coV (pcV (yE z))).cells,155⟩ (off:=0) (coV (pcV (yE z))) (s_lit 155 #[YI ((pcV (yE z)).op),YI ((pcV (yE z)).parts),YI ((pcV (yE z)).v.maj),YI ((pcV (yE z)).v.min),YI ((pcV (yE z)).v.pat),.string (mkS (pcV (yE z)).v.pre),.string (mkS (pcV (yE z)).v.build)] Kr rfl (λ_=>Kr) (λb4=> ?_)))))))
    obtain ⟨i0,z0,e1,e2,e3,e4,e5⟩:=co_info
    have hal:a.length<=97:=by have q:=dV hrel.2.2;rw [List.length_take] at q;omega
    refine wD (L':=[⟨b4, #[YI ((pcV (yE z)).op),YI ((pcV (yE z)).parts),YI ((pcV (yE z)).v.maj),YI ((pcV (yE z)).v.min),YI ((pcV (yE z)).v.pat),.string (mkS (pcV (yE z)).v.pre),.string (mkS (pcV (yE z)).v.build)],155⟩,⟨b3,(coV (pcV (yE z))).cells,155⟩,⟨g2,cur2,9⟩,⟨g,cur,9⟩,⟨b2, #[.slice A xs.length cap],279⟩,⟨b1, #[.slice none 0 0],279⟩]++oa++(o1++o2)) (by rw [List.append_assoc];kernel_rfl) (fS (sz:=7) Kr rfl Tryz.underlying305 e1 e2 e3 e4 Kr hrel.2.1 (a:=⟨b4,0,none⟩) (m:=1) (c:=1) (news:=coC (pcV (yE z))) Kr rfl (λw hO j u hj=> ?_) (co_cells _) (by unfold maxLen;omega) (by rw [e5];omega) (λu2 ob2 hu2=> ?_))
    ·rw [yY,cell_of_row w b4 (0+j) (coC (pcV (yE z))).toArray 155 _ (hO.held ⟨b4,(coC (pcV (yE z))).toArray,155⟩ (List.mem_append_left _ (List.mem_append_left _ (List.mem_cons_self ..))))];simpa using hj
    have hu3:SlCo u2 (a++[(pcV (yE z))]) ob2:=hu2.to (by simp) (by simp)
    obtain ⟨B2,cb2,rfl⟩:=Sl.form hu3
    exact wS (L':=⟨g2,cur2,9⟩::(⟨g,cur,9⟩::(⟨b2, #[.slice A xs.length cap],279⟩::(⟨b1, #[.slice none 0 0],279⟩::(ob2++((o1++o2))))))) (λw hO=>own_two (by simpa using hO)) (Zv (.slice B2 ((a++[(pcV (yE z))]).length) cb2) (vF (vY (x3 (zT (Zu (k:= .i64) (((k+1:Nat):Int)) (IntWalk.i64_in _ Om) (Zv (YI ((k+1:Nat):Int)) (vF (vX (m':=m'.length-(k+1)) Om ⟨k+1,B2,cb2,_,ob2,_,⟨by omega,hu3,allO_next hk hz hrel.2.2 (pc_ok (by assumption))⟩,rfl,ZU,rfl⟩)))))))))
   refine Zn (p:=((pcE (yE z)):Int)=0) false (decide_eq_false (h4)) (ZY (ZO (Zv (.agg #[.slice none 0 0]) (Zs 4 ⟨b1, #[.slice none 0 0],279⟩ (off:=0) (.agg #[.slice none 0 0]) (Zv (YI 6) (ZN (xK ?_)))))))
   refine yD (qS (yD (dF (qS (yD (qS (yD (dF (qS (yD (ZD 4 ⟨b1, #[.slice none 0 0],279⟩ (off:=0) (.agg #[.slice none 0 0]) (YI 6) Tryz.results274 ?_)))))))))))
   exact λw hO=>⟨.agg #[.slice none 0 0],[],by rw [(errG_none hs6 (all_fails hll hi hy hml hk hz (by assumption))).1],by rw [(errG_none hs6 (all_fails hll hi hy hml hk hz (by assumption))).2];exact RgO.nil,mG hO⟩
  refine Zh h3 (ZN (zV (Zf (dE (kB (xY (k8 (x3 (zT (Zv (Zp b2 0) ?_))))))))))
  refine Zl 2 ⟨b2, #[.slice A xs.length cap],279⟩ (off:=0) (.slice A xs.length cap) (Zv (.slice B a.length cb) (s_lit 305 #[.slice B a.length cb] Kr rfl (λ_=>Kr) (λb3=> ?_)))
  obtain ⟨i0,z0,e1,e2,e3,e4,e5⟩:=al_info
  have hal:xs.length<=97:=by have q:=dV hrel0.2.2;rw [List.length_take,gW] at q;omega
  refine wD (L':=([⟨b3, #[.slice B a.length cb],305⟩,⟨g2,cur2,9⟩,⟨g,cur,9⟩,⟨b2, #[.slice A xs.length cap],279⟩,⟨b1, #[.slice none 0 0],279⟩]++oa)++o1++o2) (by rw [List.append_assoc,List.append_assoc];kernel_rfl) (fS (sz:=1) Kr rfl Tryz.underlying277 e1 e2 e3 e4 Kr hra.top (a:=⟨b3,0,none⟩) (m:=1) (c:=1) (news:=alC (Al.mk B a cb)) Kr rfl (λw hO j u hj=> ?_) (al_cells _) (by unfold maxLen;omega) (by rw [e5];omega) (λu2 ob2 hu2=> ?_))
  ·rw [yY,cell_of_row w b3 (0+j) (alC (Al.mk B a cb)).toArray 305 _ (hO.held ⟨b3,(alC (Al.mk B a cb)).toArray,305⟩ (by simp [alC]))];simpa using hj
  have hra2:=hra.add hu2 hrel.2.1
  obtain ⟨A2,cap2,rfl⟩:=Sl.form hra2.top
  exact wS (L':=⟨g,cur,9⟩::(⟨b2, #[.slice A xs.length cap],279⟩::(⟨b1, #[.slice none 0 0],279⟩::((ob2++(oa++o2)))))) (λw hO=>own_turn hO) (Zv (Zp b2 0) (Zs 1 ⟨b2, #[.slice A xs.length cap],279⟩ (off:=0) (.slice A2 ((xs++[(Al.mk B a cb)]).length) cap2) (vF (vY (x3 (zT (Zu (k:= .i64) (((i+1:Nat):Int)) (IntWalk.i64_in _ Om) (Zv (YI ((i+1:Nat):Int)) (vF (vX (m':=l.length-(i+1)) Om ⟨i+1,A2,cap2,_,ob2,(oa++o2),_,⟨by omega,hra2,by rw [show x1 (xs++[Al.mk B a cb])=x1 xs++[a] from by simp [x1]];exact allO_next hi hy hrel0.2.2 (by have q:=hrel.2.2;rw [List.take_of_length_le Om,hml] at q;exact q)⟩,rfl,ZU,rfl⟩))))))))))
 have hall:qZ s=some (x1 xs):=by have q:=hrel0.2.2;rw [List.take_of_length_le Om,hll] at q;exact q
 have hfine:FineR (x1 xs):=fine_part hs6 (λx hx=>hll▸hx) hln (by rw [hll];exact hall)
 obtain ⟨t,et⟩:∃ t,f9 (x1 xs)=t:=⟨_,rfl⟩
 obtain ⟨htn,hty⟩:=fewR_text (all_ne hall) et
 have htz:=zW t
 refine Zh h2 (ZN (zV (Zf (dE (kB (xY (k8 (x3 (zV (zT ?_))))))))))
 refine Zl 1 ⟨b2, #[.slice A xs.length cap],279⟩ (off:=0) (.agg #[.slice A xs.length cap]) (Zc (k:=309) (args:= #[.agg #[.slice A xs.length cap]]) (.string (mkS t)) (λw hO=>ret_v (by rw [et]) (gtext_any A cap xs w (hra.inn rfl hO (λx hx=>by simp [hx]) (λx hx=>by simp [hx]) hfine) (ht.on hO.below))) (Zv (.string (mkS t)) (ZN (zV (ZO (Zv (.string (mkS t)) ?_))))))
 by_cases h5:(t:YL)=[]
 ·refine yW Z4 Kr (qN (a:=t) (b:=([])) rfl Kr Kr (decide_eq_true (h5))) (ZY (ZO (Zv (.agg #[.slice none 0 0]) (Zs 2 ⟨b1, #[.slice none 0 0],279⟩ (off:=0) (.agg #[.slice none 0 0]) (Zv (YI 6) (ZN (xK ?_)))))))
  exact yD (ZD 2 ⟨b1, #[.slice none 0 0],279⟩ (off:=0) (.agg #[.slice none 0 0]) (YI 6) Tryz.results274 (λw hO=>⟨.agg #[.slice none 0 0],[],by rw [(errG_few hs6 hall (htn (by assumption))).1],by rw [(errG_few hs6 hall (htn (by assumption))).2];exact RgO.nil,mG hO⟩))
 obtain ⟨hfw,htx⟩:=hty h5
 refine yW Z5 Kr (qN (a:=t) (b:=([])) rfl Kr Kr (decide_eq_false (h5))) (ZX (ZB (zV (ZO (Zv (.string (mkS t)) (Zv (YI ((mkS t).size)) ?_))))))
 by_cases h6:(96:Int)<(mkS t).size
 ·refine Zg h6 (ZY (ZO (Zv (.agg #[.slice none 0 0]) (Zs 2 ⟨b1, #[.slice none 0 0],279⟩ (off:=0) (.agg #[.slice none 0 0]) (Zv (YI 3) (ZN (xK ?_)))))))
  exact yD (ZD 2 ⟨b1, #[.slice none 0 0],279⟩ (off:=0) (.agg #[.slice none 0 0]) (YI 3) Tryz.results274 (λw hO=>⟨.agg #[.slice none 0 0],[],by rw [(errG_big hs6 hall hfw (by rw [htx];omega)).1],by rw [(errG_big hs6 hall hfw (by rw [htx];omega)).2];exact RgO.nil,mG hO⟩))
 refine Zh h6 (ZX (ZB (ZO (Zl 1 ⟨b2, #[.slice A xs.length cap],279⟩ (off:=0) (.agg #[.slice A xs.length cap]) (Zs 2 ⟨b1, #[.slice none 0 0],279⟩ (off:=0) (.agg #[.slice A xs.length cap]) (Zv (YI 0) (vF ?_)))))))
 exact x3 (xK (ZD 2 ⟨b1, #[.slice A xs.length cap],279⟩ (off:=0) (.agg #[.slice A xs.length cap]) (YI 0) Tryz.results274 (λw hO=>⟨.agg #[.slice A xs.length cap],o1++o2,by rw [(errG_fine hs6 hall hfw (by rw [htx];omega)).1],by rw [(errG_fine hs6 hall hfw (by rw [htx];omega)).2];exact ⟨xs,_,o1,o2,rfl,rfl,rfl,hra⟩,Own.sub [_,_,_] hO⟩)))
end
section
set_option linter.unnecessarySimpa false
def rt (st:List (Nat×Tr)):List Int:=(st.map λp=>((p.1:Nat):Int)).reverse
theorem j8 (p:Nat×Tr)(st:List (Nat×Tr)):rt (p::st)=rt st++[(p.1:Int)]:=by unfold rt;simp
theorem jL (st:List (Nat×Tr)):(rt st).length=st.length:=by unfold rt;simp
theorem rt_take (p:Nat×Tr)(st:List (Nat×Tr)):(rt (p::st)).take st.length=rt st:=by rw [j8,←jL st];simp
theorem rt_take2 (p q:Nat×Tr)(st:List (Nat×Tr)):(rt (p::q::st)).take st.length=rt st:=by rw [j8,j8,←jL st];simp
theorem rt_last (p:Nat×Tr)(st:List (Nat×Tr))(h:st.length<(rt (p::st)).length):(rt (p::st))[st.length]=(p.1:Int):=by
 have e:=j8 p st
 have h2:(rt (p::st))[st.length]?=some (p.1:Int):=by rw [e,←jL st];simp
 rw [List.getElem?_eq_getElem h] at h2
 exact Option.some.inj h2
theorem rt_prev (p q:Nat×Tr)(st:List (Nat×Tr))(h:st.length<(rt (p::q::st)).length):(rt (p::q::st))[st.length]=(q.1:Int):=by
 have h2:(rt (p::q::st))[st.length]?=some (q.1:Int):=by rw [j8,j8,←jL st];simp
 rw [List.getElem?_eq_getElem h] at h2
 exact Option.some.inj h2
def fQ (l:List Nd):Bool:=match vL 0 [] l with|some s=>decide (l=[])||decide (s.length=1)|none=>false
theorem bZ {i:Nat}{st s:List (Nat×Tr)}{n:Nd}{r:List Nd}(h:stp i st n=some s):vL i st (n::r)=vL (i+1) s r:=by rw [vL,h]
theorem kQ {i:Nat}{st:List (Nat×Tr)}{n:Nd}{r:List Nd}(h:stp i st n=none):vL i st (n::r)=none:=by rw [vL,h]
theorem stp_leaf {i:Nat}{st:List (Nat×Tr)}{n:Nd}(h:xR n=true):stp i st n=some ((i,.is n.key.toNat n.text)::st):=by unfold stp;rw [if_pos h]
theorem stp_not {i:Nat}{p:Nat×Tr}{st:List (Nat×Tr)}{n:Nd}(h:xR n=false)(h1:jS (p::st) n=true):stp i (p::st) n=some ((i,.no p.2)::st):=by unfold stp;rw [if_neg (by rw [h];simp),if_pos h1]
theorem stp_bin {i:Nat}{p q:Nat×Tr}{st:List (Nat×Tr)}{n:Nd}(h:xR n=false)(h1:jS (p::q::st) n=false)(h2:isBin (p::q::st) n=true):stp i (p::q::st) n=some ((i,if n.op=3 then .both q.2 p.2 else .one q.2 p.2)::st):=by unfold stp;rw [if_neg (by rw [h];simp),if_neg (by rw [h1];simp),if_pos h2]
theorem tF {i:Nat}{st:List (Nat×Tr)}{n:Nd}(h:xR n=false)(h1:jS st n=false)(h2:isBin st n=false):stp i st n=none:=by unfold stp;rw [if_neg (by rw [h];simp),if_neg (by rw [h1];simp),if_neg (by rw [h2];simp)]
theorem isNot_cons {st:List (Nat×Tr)}{n:Nd}(h:jS st n=true):∃ p r,st=p::r:=by cases st with|nil=>cases h|cons p r=>exact ⟨p,r,rfl⟩
theorem isBin_cons {st:List (Nat×Tr)}{n:Nd}(h:isBin st n=true):∃ p q r,st=p::q::r:=by
 match st,h with
 |p::q::r,_=>exact ⟨p,q,r,rfl⟩
theorem st_one {st:List (Nat×Tr)}(h:0<st.length):∃ p r,st=p::r:=by cases st with|nil=>cases h|cons p r=>exact ⟨p,r,rfl⟩
theorem st_two {st:List (Nat×Tr)}(h:1<st.length):∃ p q r,st=p::q::r:=by
 match st,h with
 |p::q::r,_=>exact ⟨p,q,r,rfl⟩
theorem st_none {st:List (Nat×Tr)}(h:¬ 0<st.length):st=[]:=List.eq_nil_of_length_eq_zero Om
theorem bin_short {st:List (Nat×Tr)}{n:Nd}(h:¬ 1<st.length):isBin st n=false:=by
 match st,h with
 | [],_=>rfl
 | [p],_=>rfl
 |p::q::r,h=>simp at h
theorem op_not {st:List (Nat×Tr)}{n:Nd}(h:¬ n.op=2):jS st n=false:=by cases st with|nil=>rfl|cons p r=>unfold jS;rw [decide_eq_false h];rfl
theorem op_bin {st:List (Nat×Tr)}{n:Nd}(h:¬ n.op=3)(h2:¬ n.op=4):isBin st n=false:=by
 match st with
 | []=>rfl
 | [p]=>rfl
 |p::q::r=>unfold isBin;rw [decide_eq_false h,decide_eq_false h2];rfl
theorem bare_not {st:List (Nat×Tr)}{n:Nd}(h:dU n=false):jS st n=false:=by cases st with|nil=>rfl|cons p r=>unfold jS;rw [h];simp
theorem bare_bin {st:List (Nat×Tr)}{n:Nd}(h:dU n=false):isBin st n=false:=by
 match st with
 | []=>rfl
 | [p]=>rfl
 |p::q::r=>unfold isBin;rw [h];simp
theorem r10tree_any (A:Option Addr)(cap0:Nat)(l:List Nd)(W:World)(hv:Reads nC W W.heap.size A l)(hn0:l.length<=1000)(ht:∀ n∈l,n.text.length<=1000000):YC 355 #[.slice A l.length cap0] W (YR (.bool (fQ l)) W):=by
 refine z8 Tryz.func355 (zL (α:=Nat×List (Nat×Tr)×Option Addr×Nat×List Blk) (λ(i,st,B,cap,oc)=>[(0,.slice A l.length cap0),(3,.slice B (rt st).length cap),(4,YI (i:Int))]) (λ(i,st,B,cap,oc)=>oc) (λ(i,st,B,cap,oc) m=>(i<=l.length/\vL 0 [] l=vL i st (l.drop i)/\SlZ (.slice B (rt st).length cap) (rt st) oc/\st.length<=i)/\m=l.length-i) (0,[],none,0,[]) (l.length-0) [] ⟨⟨Nat.zero_le _,rfl,Sl.nil _ _,Nat.le_refl _⟩,rfl⟩ ?_)
 rintro ⟨i,st,B,cap,oc⟩ m g kk ⟨⟨hi6,hrun,hsl,hstl⟩,hmm⟩ nx hkk
 subst hkk
 have hrtl:=jL st
 by_cases h1:(i:Int)<(l.length:Int)
 ·have hil:i<l.length:=by omega
  obtain ⟨bp,off,hA,hlt,hcell⟩:=hv Om
  obtain ⟨n,hn⟩:∃ n,l[i]=n:=⟨_,rfl⟩
  have hnt:=hn▸ht l[i] (List.getElem_mem hil)
  have hdr:l.drop i=n::l.drop (i+1):=by rw [←hn];exact List.drop_eq_getElem_cons hil
  refine zA 11 [] ((i:Int)<(l.length:Int)) (λ_=> ?_) (λhq=>absurd h1 hq)
  refine zH 16 [] hA l.length cap0 i 5 hil (zG 17 [] 312 bp (off+i*5) (ndV n) (λw hO=>Reads.load qQ (hv.on hO.below hO.size) hA i 0 hil Om _ (by rw [hn];kernel_rfl)) (zB [] λb1=> ?_))
  refine x_joinF (.s (.s (.s (.s (.s .z))))) (α:=Bool) (λc=>[(0,.slice A l.length cap0),(3,.slice B (rt st).length cap),(4,YI (i:Int)),(5,Zp b1 0),(6,YI ((rt st).length:Int)),(7,.bool c)]) (λ_=>⟨b1,(ndV n).cells,312⟩::oc) (λc=>c=dU n) [0] (λnj=> ?_) (λc gg hc=> ?_)
  ·exact zA 22 [0] (n.key=0) (λh2=>yS 26 [0] n.text [] (λh3=>nj true [] (by unfold dU;simp [h2,h3]) Kr) (λh3=>nj false [] (by unfold dU;simp [h2,h3]) Kr)) (λh2=>nj false [] (by unfold dU;simp [h2]) Kr)
  refine z6 (k:=373) (args:= #[ndV n]) (v:= .bool (xR n)) [0] (λw _=>r10leaf_any n w hnt) ?_
  cases h4:xR n with
  |true=>
   refine kD [] 1 3 #[YI (i:Int)] λb2=>qJ (m:=1) (cp:=1) [] [⟨b2, #[YI (i:Int)],3⟩,⟨b1,(ndV n).cells,312⟩] oc [] 0 (⟨b2, #[YI (i:Int)],3⟩::⟨b1,(ndV n).cells,312⟩::oc) (λw hO=>(hO.cast (by simp))) hsl Om λu2 ob2 hu2=> ?_
   have hu2s:SlZ u2 (rt st++[(i:Int)]) ob2:=SlZ.add hu2
   obtain ⟨B2,cb2,rfl⟩:=Sl.form hu2s
   have hrl2:(rt ((i,Tr.is n.key.toNat n.text)::st)).length=(rt st++[(i:Int)]).length:=by rw [j8]
   rw [←hrl2]
   exact x_i 13 [] ((i+1:Nat):Int) (zK [] ob2 (λw hO=>(hO.past 2 (ob2++[])).cast (by simp)) (nx (i+1,((i,Tr.is n.key.toNat n.text)::st),B2,cb2,ob2) (l.length-(i+1)) [] Om ⟨⟨by omega,by rw [hrun,hdr,bZ (stp_leaf h4)],by rw [j8];exact hu2s,by first|(rw [hst] at hstl;simp only [List.length_cons] at hstl ⊢;omega)|(simp only [List.length_cons];omega)⟩,rfl⟩ Kr Kr))
  |false=>
   refine x_joinF (.s (.s (.s (.s (.s .z))))) (α:=Bool) (λd=>[(0,.slice A l.length cap0),(3,.slice B (rt st).length cap),(4,YI (i:Int)),(5,Zp b1 0),(6,YI ((rt st).length:Int)),(7,.bool c),(31,.bool d)]) (λ_=>⟨b1,(ndV n).cells,312⟩::oc) (λd=>d=jS st n) [] (λnj=> ?_) (λd gg hd=> ?_)
   ·refine zA 34 [0] (n.op=2) (λh5=> ?_) (λh5=>nj false [] (op_not h5).symm Kr)
    cases c with
    |false=>exact nj false [] (bare_not hc.symm).symm Kr
    |true=>
     refine zA 40 [] ((0:Int)<((rt st).length:Int)) (λh7=> ?_) (λh7=>nj false [] (by rw [st_none (st:=st) (by rw [←jL];omega)];rfl) Kr)
     obtain ⟨p,r,hst⟩:=st_one (st:=st) Om
     obtain ⟨g,hg,hcap⟩:=Sl.at0 hsl Om
     have hrl:(rt st).length=r.length+1:=by rw [jL,hst];rfl
     have hlast:∀ h:r.length<(rt st).length,(rt st)[r.length]=(p.1:Int):=by subst hst;exact λh=>rt_last p r h
     have hY:=λ(b:Bool) (hb:(decide (n.a=(p.1:Int)) && decide (n.b=0))=b)=>show b=jS st n by rw [hst,←hb];unfold jS;simp [h5,←hc]
     exact x_i 47 [0] (((rt st).length:Int) -1) (jH 48 [] hg (rt st).length cap (((rt st).length:Int) -1) 1 (0+r.length*1) Om (zG 49 [] 3 g (0+r.length*1) (YI (p.1:Int)) (λw hO=>Reads.load zC_len (Sl.reads hsl rfl (hO.past 1 oc) (λx hx=>hx)) hg (r.length) 0 Om Om _ (by rw [hlast];kernel_rfl)) (zA 50 [] (n.a=(p.1:Int)) (λh8=>zA 55 [0] (n.b=0) (λh9=>nj true [] (hY _ (by simp [h8,h9])) Kr) (λh9=>nj false [] (hY _ (by simp [h9])) Kr)) (λh8=>nj false [] (hY _ (by simp [h8])) Kr))))
   cases d with
   |true=>
    obtain ⟨p,r,hst⟩:=isNot_cons hd.symm
    obtain ⟨g,hgB,hcap⟩:=Sl.at0 hsl (by rw [jL,hst];simp)
    have hrl:(rt st).length=r.length+1:=by rw [jL,hst];rfl
    have hrr:=jL r
    have hsl2:SlZ (.slice (some ⟨g,0,none⟩) (rt r).length cap) (rt r) oc:=by
     subst hst;subst hgB
     have q9:=Sl.front zC_len hsl (by rw [j8];simp) (k:=r.length) Om
     rw [rt_take] at q9
     unfold SlZ;rw [show (rt r).length=r.length from jL r] at q9 ⊢;exact q9
    refine x_i 59 [] (((rt st).length:Int) -1) (x_slhi 60 [] hgB (rt st).length cap 1 (((rt st).length:Int) -1) Om Om (.slice (some ⟨g,0,none⟩) (rt r).length cap) (by rw [show (((rt st).length:Int) -1).toNat=(rt r).length by omega]) ?_)
    refine kD [] 1 3 #[YI (i:Int)] λb2=>qJ (m:=1) (cp:=1) [] [⟨b2, #[YI (i:Int)],3⟩,⟨b1,(ndV n).cells,312⟩] oc [] 0 (⟨b2, #[YI (i:Int)],3⟩::⟨b1,(ndV n).cells,312⟩::oc) (λw hO=>(hO.cast (by simp))) hsl2 Om λu2 ob2 hu2=> ?_
    have hu2s:SlZ u2 (rt r++[(i:Int)]) ob2:=SlZ.add hu2
    obtain ⟨B2,cb2,rfl⟩:=Sl.form hu2s
    have hrl2:(rt ((i,Tr.no p.2)::r)).length=(rt r++[(i:Int)]).length:=by rw [j8]
    rw [←hrl2]
    exact x_i 13 [] ((i+1:Nat):Int) (zK [] ob2 (λw hO=>(hO.past 2 (ob2++[])).cast (by simp)) (nx (i+1,((i,Tr.no p.2)::r),B2,cb2,ob2) (l.length-(i+1)) [] Om ⟨⟨by omega,by rw [hrun,hdr,bZ (hst▸stp_not h4 (hst▸hd.symm))],by rw [j8];exact hu2s,by first|(rw [hst] at hstl;simp only [List.length_cons] at hstl ⊢;omega)|(simp only [List.length_cons];omega)⟩,rfl⟩ Kr Kr))
   |false=>
    refine x_joinF (.s (.s (.s .z))) (α:=Bool) (λd=>[(0,.slice A l.length cap0),(3,.slice B (rt st).length cap),(4,YI (i:Int)),(5,Zp b1 0),(6,YI ((rt st).length:Int)),(7,.bool c),(61,.bool d)]) (λ_=>⟨b1,(ndV n).cells,312⟩::oc) (λd=>d=isBin st n) [] (λnj=> ?_) (λd' gg hd'=> ?_)
    ·by_cases h11:n.op=3\/n.op=4
     ·cases c with
      |false=>exact zA 64 [0] (n.op=3) (λ_=>nj false [] (bare_bin hc.symm).symm Kr) (λh=>zA 68 [0] (n.op=4) (λ_=>nj false [] (bare_bin hc.symm).symm Kr) (λ_=>nj false [] (bare_bin hc.symm).symm Kr))
      |true=>
       by_cases h13:(1:Int)<((rt st).length:Int)
       ·obtain ⟨p,q,r,hst⟩:=st_two (st:=st) Om
        obtain ⟨g,hg,hcap⟩:=Sl.at0 hsl Om
        have hrl:(rt st).length=r.length+2:=by rw [jL,hst];rfl
        have hlast:∀ h:r.length+1<(rt st).length,(rt st)[r.length+1]=(p.1:Int):=by subst hst;exact λh=>rt_last p (q::r) h
        have hprev:∀ h:r.length<(rt st).length,(rt st)[r.length]=(q.1:Int):=by subst hst;exact λh=>rt_prev p q r h
        have hY:=λ(b:Bool) (hb:(decide (n.a=(q.1:Int)) && decide (n.b=(p.1:Int)))=b)=>show b=isBin st n by rw [hst,←hb];unfold isBin;rcases h11 with h|h<;>simp [h,←hc]
        by_cases h3:n.op=3
        ·exact zA 64 [0] (n.op=3) (λ_=>zA 75 [] ((1:Int)<((rt st).length:Int)) (λ_=>x_i 82 [0] (((rt st).length:Int) -2) (jH 83 [] hg (rt st).length cap (((rt st).length:Int) -2) 1 (0+r.length*1) Om (zG 84 [] 3 g (0+r.length*1) (YI (q.1:Int)) (λw hO=>Reads.load zC_len (Sl.reads hsl rfl (hO.past 1 oc) (λx hx=>hx)) hg (r.length) 0 Om Om _ (by rw [hprev];kernel_rfl)) (zA 85 [] (n.a=(q.1:Int)) (λh8=>x_i 92 [0] (((rt st).length:Int) -1) (jH 93 [] hg (rt st).length cap (((rt st).length:Int) -1) 1 (0+(r.length+1)*1) Om (zG 94 [] 3 g (0+(r.length+1)*1) (YI (p.1:Int)) (λw hO=>Reads.load zC_len (Sl.reads hsl rfl (hO.past 1 oc) (λx hx=>hx)) hg ((r.length+1)) 0 Om Om _ (by rw [hlast];kernel_rfl)) (zA 95 [] (n.b=(p.1:Int)) (λh9=>nj true [] (hY _ (by simp [h8,h9])) Kr) (λh9=>nj false [] (hY _ (by simp [h9])) Kr))))) (λh8=>nj false [] (hY _ (by simp [h8])) Kr))))) (λh=>absurd h13 h)) (λh=>absurd h3 h)
        ·exact zA 64 [0] (n.op=3) (λh=>absurd h h3) (λ_=>zA 68 [0] (n.op=4) (λ_=>zA 75 [] ((1:Int)<((rt st).length:Int)) (λ_=>x_i 82 [0] (((rt st).length:Int) -2) (jH 83 [] hg (rt st).length cap (((rt st).length:Int) -2) 1 (0+r.length*1) Om (zG 84 [] 3 g (0+r.length*1) (YI (q.1:Int)) (λw hO=>Reads.load zC_len (Sl.reads hsl rfl (hO.past 1 oc) (λx hx=>hx)) hg (r.length) 0 Om Om _ (by rw [hprev];kernel_rfl)) (zA 85 [] (n.a=(q.1:Int)) (λh8=>x_i 92 [0] (((rt st).length:Int) -1) (jH 93 [] hg (rt st).length cap (((rt st).length:Int) -1) 1 (0+(r.length+1)*1) Om (zG 94 [] 3 g (0+(r.length+1)*1) (YI (p.1:Int)) (λw hO=>Reads.load zC_len (Sl.reads hsl rfl (hO.past 1 oc) (λx hx=>hx)) hg ((r.length+1)) 0 Om Om _ (by rw [hlast];kernel_rfl)) (zA 95 [] (n.b=(p.1:Int)) (λh9=>nj true [] (hY _ (by simp [h8,h9])) Kr) (λh9=>nj false [] (hY _ (by simp [h9])) Kr))))) (λh8=>nj false [] (hY _ (by simp [h8])) Kr))))) (λh=>absurd h13 h)) (λh=>absurd (h11.resolve_left h3) h))
       ·have hN:=bin_short (n:=n) (st:=st) (by rw [←jL];omega)
        exact zA 64 [0] (n.op=3) (λ_=>zA 75 [] ((1:Int)<((rt st).length:Int)) (λh=>absurd h h13) (λ_=>nj false [] hN.symm Kr)) (λ_=>zA 68 [0] (n.op=4) (λ_=>zA 75 [] ((1:Int)<((rt st).length:Int)) (λh=>absurd h h13) (λ_=>nj false [] hN.symm Kr)) (λ_=>nj false [] hN.symm Kr))
     ·exact zA 64 [0] (n.op=3) (λh=>absurd (.inl h) h11) (λh=>zA 68 [0] (n.op=4) (λh=>absurd (.inr h) h11) (λh'=>nj false [] (op_bin h h').symm Kr))
    cases d' with
    |true=>
     obtain ⟨p,q,r,hst⟩:=isBin_cons hd'.symm
     obtain ⟨g,hgB,hcap⟩:=Sl.at0 hsl (by rw [jL,hst];simp)
     have hrl:(rt st).length=r.length+2:=by rw [jL,hst];rfl
     have hrr:=jL r
     have hsl2:SlZ (.slice (some ⟨g,0,none⟩) (rt r).length cap) (rt r) oc:=by
      subst hst;subst hgB
      have q9:=Sl.front zC_len hsl (by rw [j8];simp) (k:=r.length) Om
      rw [rt_take2] at q9
      unfold SlZ;rw [show (rt r).length=r.length from jL r] at q9 ⊢;exact q9
     refine x_i 99 [] (((rt st).length:Int) -2) (x_slhi 100 [] hgB (rt st).length cap 1 (((rt st).length:Int) -2) Om Om (.slice (some ⟨g,0,none⟩) (rt r).length cap) (by rw [show (((rt st).length:Int) -2).toNat=(rt r).length by omega]) ?_)
     refine kD [] 1 3 #[YI (i:Int)] λb2=>qJ (m:=1) (cp:=1) [] [⟨b2, #[YI (i:Int)],3⟩,⟨b1,(ndV n).cells,312⟩] oc [] 0 (⟨b2, #[YI (i:Int)],3⟩::⟨b1,(ndV n).cells,312⟩::oc) (λw hO=>(hO.cast (by simp))) hsl2 Om λu2 ob2 hu2=> ?_
     have hu2s:SlZ u2 (rt r++[(i:Int)]) ob2:=SlZ.add hu2
     obtain ⟨B2,cb2,rfl⟩:=Sl.form hu2s
     have hrl2:(rt ((i,if n.op=3 then Tr.both q.2 p.2 else Tr.one q.2 p.2)::r)).length=(rt r++[(i:Int)]).length:=by rw [j8]
     rw [←hrl2]
     exact x_i 13 [] ((i+1:Nat):Int) (zK [] ob2 (λw hO=>(hO.past 2 (ob2++[])).cast (by simp)) (nx (i+1,((i,if n.op=3 then Tr.both q.2 p.2 else Tr.one q.2 p.2)::r),B2,cb2,ob2) (l.length-(i+1)) [] Om ⟨⟨by omega,by rw [hrun,hdr,bZ (hst▸stp_bin h4 (hst▸hd.symm) (hst▸hd'.symm))],by rw [j8];exact hu2s,by first|(rw [hst] at hstl;simp only [List.length_cons] at hstl ⊢;omega)|(simp only [List.length_cons];omega)⟩,rfl⟩ Kr Kr))
    |false=>
     exact z7 [] Z5 (λw hO=>⟨by rw [show fQ l=false from by unfold fQ;rw [hrun,hdr,kQ (tF h4 hd.symm hd'.symm)]],(hO.past 0 (⟨b1,(ndV n).cells,312⟩::oc)).below⟩)
 ·have hil:l.drop i=[]:=List.drop_of_length_le Om
  have hY:=λ(b:Bool) (hb:(decide (l=[])||decide (st.length=1))=b) (w:World) (hO:Own [] W w oc)=>show Ending.returned (.bool b)= .returned (.bool (fQ l))/\YB W w from ⟨by rw [show fQ l=b from by unfold fQ;rw [hrun,hil];exact hb],hO.below⟩
  exact zA 11 [] ((i:Int)<(l.length:Int)) (λhq=>absurd hq h1) (λ_=>zA 107 [] ((l.length:Int)=0) (λh=>z7 [] Z4 (λw hO=>hY _ (by rw [List.length_eq_zero_iff.1 (by omega:l.length=0)];rfl) w (hO.past 0 oc))) (λh=>zA 111 [] (((rt st).length:Int)=1) (λh'=>z7 [] Z4 (λw hO=>hY _ (by simp;omega) w (hO.past 0 oc))) (λh'=>z7 [] Z5 (λw hO=>hY _ (by simp;exact ⟨λe=>h (by rw [e];rfl),by omega⟩) w (hO.past 0 oc)))))
end
section
set_option linter.unnecessarySimpa false
theorem join_wrap (c:Bool){l:List Tok}(h:l≠[]):zF 32 (qK c l)=yP c (zF 32 l):=by
 unfold qK yP
 cases c with
 |false=>rfl
 |true=>
  show zF 32 ([xF]++(l++[xH]))=_
  rw [dS 32 [xF] _ (by simp) (by simp),dS 32 l [xH] h (by simp)]
  simp [zF,xF,xH]
theorem wrapT_ne {c:Bool}{l:List Tok}(h:l≠[]):qK c l≠[]:=by unfold qK;cases c<;>simp [h]
theorem text_is (k:Nat)(t:YL):(Tr.is k t).text=yR k++[32,61,32]++t:=by
 unfold Tr.text;rw [Tr.tok];simp [zF,tEq]
theorem text_no_is (k:Nat)(t:YL):(Tr.no (.is k t)).text=yR k++[32,33,61,32]++t:=by
 unfold Tr.text;rw [Tr.tok];simp [zF,tNe]
theorem text_no {x:Tr}(h:∀ k t,x≠ .is k t):(Tr.no x).text=[110,111,116,32]++yP x.isBin x.text:=by
 unfold Tr.text
 rw [Tr.tok_no h,show qV::qK x.isBin x.tok=[qV]++qK x.isBin x.tok from rfl,dS 32 _ _ (by simp) (wrapT_ne x.tok_ne),join_wrap _ x.tok_ne];simp [zF,qV]
theorem fJ (x y:Tr):(Tr.both x y).text=yP x.isOne x.text++[32,97,110,100,32]++yP y.isBin y.text:=by
 unfold Tr.text
 rw [Tr.tok,show bQ::qK y.isBin y.tok=[bQ]++qK y.isBin y.tok from rfl,dS 32 _ _ (wrapT_ne x.tok_ne) (by simp),dS 32 [bQ] _ (by simp) (wrapT_ne y.tok_ne),join_wrap _ x.tok_ne,join_wrap _ y.tok_ne];simp [zF,bQ]
theorem text_one (x y:Tr):(Tr.one x y).text=x.text++[32,111,114,32]++yP y.isOne y.text:=by
 unfold Tr.text
 rw [Tr.tok,show tOr::qK y.isOne y.tok=[tOr]++qK y.isOne y.tok from rfl,dS 32 _ _ x.tok_ne (by simp),dS 32 [tOr] _ (by simp) (wrapT_ne y.tok_ne),join_wrap _ y.tok_ne];simp [zF,tOr]
def Tr.opc:Tr->Int
 | .is _ _=>1
 | .no _=>2
 | .both _ _=>3
 | .one _ _=>4
theorem opc_14 (t:Tr):1<=t.opc/\t.opc<=4:=by cases t<;>simp [Tr.opc]
theorem bC (t:Tr):t.isOne=decide (t.opc=4):=by cases t<;>rfl
theorem mL (t:Tr):t.isBin=(decide (t.opc=4)||decide (t.opc=3)):=by cases t<;>rfl
theorem tZ:∀ t:Tr,t.ok=true->t.w<=20*t.sz
 | .is k v,h=>by
  unfold Tr.ok at h
  simp only [Bool.and_eq_true,decide_eq_true_eq] at h
  have hv:=h.2
  unfold wdL at hv
  simp only [Bool.and_eq_true,decide_eq_true_eq] at hv
  rw [w_is]
  have:(yR k).length<=4:=by unfold yR;split<;>(try split)<;>simp
  show _<=20;omega
 | .no x,h=>by have:=tZ x h;have:=(w_no x).1;have:=x.w_le;show _<=20*(x.sz+1);omega
 | .both x y,h=>by
  unfold Tr.ok at h;rw [Bool.and_eq_true] at h
  have:=tZ x h.1;have:=tZ y h.2;have:=x.w_le;have:=y.w_le
  rw [w_both];show _<=20*(x.sz+y.sz+1);omega
 | .one x y,h=>by
  unfold Tr.ok at h;rw [Bool.and_eq_true] at h
  have:=tZ x h.1;have:=tZ y h.2;have:=x.w_le;have:=y.w_le
  rw [w_one];show _<=20*(x.sz+y.sz+1);omega
def jW (A:Option Addr)(cap:Nat)(l:List Nd)(a:Nat)(t:Tr):Prop:=∀ W:World,Reads nC W W.heap.size A l->YC 356 #[.slice A l.length cap,YI (a:Int)] W (YR (.string (mkS t.text)) W)
theorem vV (c:Bool)(s:YL):(yP c s).length<=s.length+4:=by unfold yP;cases c<;>simp
theorem v7 {α:Type}{l:List α}{r:Nat}{x:α}(h:l[r]?=some x):∃ hr:r<l.length,l[r]=x:=List.getElem?_eq_some_iff.1 h
theorem tx_is {A:Option Addr}{cap:Nat}{l:List Nd}(hn:l.length<=1000){r:Nat}{k:Nat}{t:YL}(hk:k<3)(ht:t.length<=1000)(hr:l[r]?=some ⟨1,0,0,(k:Int),t⟩):jW A cap l r (.is k t):=λW hv=>by
 obtain ⟨hr,er⟩:=v7 hr
 obtain ⟨bp,off,hA,hlt,hcell⟩:=hv Om
 have hkl:(yR k).length<=4:=by unfold yR;split<;>(try split)<;>simp
 exact z8 Tryz.func356 (zH 11 [] hA l.length cap r 5 Om (zG 12 [] 312 bp (off+r*5) (ndV ⟨1,0,0,k,t⟩) (λw hO=>Reads.load qQ (hv.on hO.below hO.size) hA r 0 hr Om _ (by rw [er];kernel_rfl)) (zB [] λb1=>(z6 (k:=374) (args:= #[YI (k:Int)]) (v:= .string (mkS (yR k))) [0,0,0] (λw _=>r10key_any k hk w) (zZ 20 [] (yR k) ([32,61,32]) (zZ 23 [0] ((yR k)++[32,61,32]) t (z7 [] (.string (mkS (((yR k)++[32,61,32])++t))) (λw hO=>⟨by rw [text_is],hO.below⟩))))))))
theorem tx_no_is {A:Option Addr}{cap:Nat}{l:List Nd}(hn:l.length<=1000){r:Nat}{a k:Nat}{t:YL}(hk:k<3)(ht:t.length<=1000)(hr:l[r]?=some ⟨2,(a:Int),0,0,[]⟩)(ha:l[a]?=some ⟨1,0,0,(k:Int),t⟩):jW A cap l r (.no (.is k t)):=λW hv=>by
 obtain ⟨hr,er⟩:=v7 hr
 obtain ⟨ha,ea⟩:=v7 ha
 obtain ⟨bp,off,hA,hlt,hcell⟩:=hv Om
 have hkl:(yR k).length<=4:=by unfold yR;split<;>(try split)<;>simp
 exact z8 Tryz.func356 (zH 11 [] hA l.length cap r 5 Om (zG 12 [] 312 bp (off+r*5) (ndV ⟨2,a,0,0,[]⟩) (λw hO=>Reads.load qQ (hv.on hO.below hO.size) hA r 0 hr Om _ (by rw [er];kernel_rfl)) (zB [] λb1=>(zH 29 [0,0,0] hA l.length cap a 5 Om (zG 30 [] 312 bp (off+a*5) (ndV ⟨1,0,0,k,t⟩) (λw hO=>Reads.load qQ (hv.on hO.below hO.size) hA a 0 ha Om _ (by rw [ea];kernel_rfl)) (zB [] λb2=>(z6 (k:=374) (args:= #[YI (k:Int)]) (v:= .string (mkS (yR k))) [0,0,0] (λw _=>r10key_any k hk w) (zZ 37 [] (yR k) ([32,33,61,32]) (zZ 40 [0] ((yR k)++[32,33,61,32]) t (z7 [] (.string (mkS (((yR k)++[32,33,61,32])++t))) (λw hO=>⟨by rw [text_no_is],hO.below⟩)))))))))))
theorem tx_no {A:Option Addr}{cap:Nat}{l:List Nd}(hn:l.length<=1000){r:Nat}{a:Nat}{na:Nd}{x:Tr}(hne:∀ k t,x≠ .is k t)(hxl:x.text.length<=100000)(hr:l[r]?=some ⟨2,(a:Int),0,0,[]⟩)(ha:l[a]?=some na)(ha':jW A cap l a x)(hxo:na.op=x.opc)(hx1:¬ na.op=1)(hx5:1<=na.op/\na.op<=4):jW A cap l r (.no x):=λW hv=>by
 obtain ⟨hr,er⟩:=v7 hr
 obtain ⟨ha,ea⟩:=v7 ha
 obtain ⟨bp,off,hA,hlt,hcell⟩:=hv Om
 have hw1:=vV true x.text
 have hw2:=vV false x.text
 refine z8 Tryz.func356 (zH 11 [] hA l.length cap r 5 Om (zG 12 [] 312 bp (off+r*5) (ndV ⟨2,a,0,0,[]⟩) (λw hO=>Reads.load qQ (hv.on hO.below hO.size) hA r 0 hr Om _ (by rw [er];kernel_rfl)) (zB [] λb1=>(zH 29 [0,0,0] hA l.length cap a 5 Om (zG 30 [] 312 bp (off+a*5) (ndV na) (λw hO=>Reads.load qQ (hv.on hO.below hO.size) hA a 0 ha Om _ (by rw [ea];kernel_rfl)) (zB [] λb2=>(zA 33 [0,0] ((na.op:Int)=1) (λhq=>absurd hq (hx1)) (λ_=>z6 (k:=356) (args:= #[.slice A l.length cap,YI (a:Int)]) (v:= .string (mkS x.text)) [1] (λw hO=>ha' w (hv.on hO.below hO.size)) ?_))))))))
 by_cases h1:(na.op:Int)=2
 ·refine kW 47 [0] ((na.op:Int)=2) (λ_=> ?_) (λhq=>absurd (h1) hq)
  exact z6 (k:=375) (args:= #[.string (mkS x.text),.bool false]) (v:= .string (mkS (yP false x.text))) [] (λw _=>kK x.text false w Om) (zZ 49 [] ([110,111,116,32]) (yP false x.text) (z7 [] (.string (mkS ([110,111,116,32]++(yP false x.text)))) (λw hO=>⟨by rw [text_no hne,show x.isBin=false from by rw [mL];simp [←hxo];omega],hO.below⟩)))
 exact kW 47 [0] ((na.op:Int)=2) (λhq=>absurd hq (h1)) (λ_=>z6 (k:=375) (args:= #[.string (mkS x.text),.bool true]) (v:= .string (mkS (yP true x.text))) [] (λw _=>kK x.text true w Om) (zZ 49 [] ([110,111,116,32]) (yP true x.text) (z7 [] (.string (mkS ([110,111,116,32]++(yP true x.text)))) (λw hO=>⟨by rw [text_no hne,show x.isBin=true from by rw [mL];simp [←hxo];omega],hO.below⟩))))
theorem tx_both {A:Option Addr}{cap:Nat}{l:List Nd}(hn:l.length<=1000){r:Nat}{a b:Nat}{na nb:Nd}{x y:Tr}(hxl:x.text.length<=100000)(hyl:y.text.length<=100000)(hr:l[r]?=some ⟨3,(a:Int),(b:Int),0,[]⟩)(ha:l[a]?=some na)(hb:l[b]?=some nb)(ha':jW A cap l a x)(hb':jW A cap l b y)(hxo:na.op=x.opc)(hyo:nb.op=y.opc):jW A cap l r (.both x y):=λW hv=>by
 obtain ⟨hr,er⟩:=v7 hr
 obtain ⟨ha,ea⟩:=v7 ha
 obtain ⟨hb,eb⟩:=v7 hb
 obtain ⟨bp,off,hA,hlt,hcell⟩:=hv Om
 have hw0:=vV true x.text
 have hw1:=vV false x.text
 have hw2:=vV true y.text
 have hw3:=vV false y.text
 refine z8 Tryz.func356 (zH 11 [] hA l.length cap r 5 Om (zG 12 [] 312 bp (off+r*5) (ndV ⟨3,a,b,0,[]⟩) (λw hO=>Reads.load qQ (hv.on hO.below hO.size) hA r 0 hr Om _ (by rw [er];kernel_rfl)) (zB [] λb1=>(zH 55 [0,0,0] hA l.length cap a 5 Om (zG 57 [] 3 bp (off+a*5+0) (YI na.op) (λw hO=>Reads.load qQ (hv.on hO.below hO.size) hA a 0 ha Om _ (by rw [ea];kernel_rfl)) (zH 61 [0] hA l.length cap b 5 Om (zG 63 [] 3 bp (off+b*5+0) (YI nb.op) (λw hO=>Reads.load qQ (hv.on hO.below hO.size) hA b 0 hb Om _ (by rw [eb];kernel_rfl)) (z6 (k:=356) (args:= #[.slice A l.length cap,YI (a:Int)]) (v:= .string (mkS x.text)) [0] (λw hO=>ha' w (hv.on hO.below hO.size)) ?_))))))))
 by_cases h1:(na.op:Int)=4
 ·refine zA 69 [] ((na.op:Int)=4) (λ_=> ?_) (λhq=>absurd (h1) hq)
  refine z6 (k:=375) (args:= #[.string (mkS x.text),.bool true]) (v:= .string (mkS (yP true x.text))) [] (λw _=>kK x.text true w Om) (zZ 71 [] (yP true x.text) ([32,97,110,100,32]) (z6 (k:=356) (args:= #[.slice A l.length cap,YI (b:Int)]) (v:= .string (mkS y.text)) [0] (λw hO=>hb' w (hv.on hO.below hO.size)) ?_))
  by_cases h2:(nb.op:Int)=4
  ·refine zA 77 [] ((nb.op:Int)=4) (λ_=> ?_) (λhq=>absurd (h2) hq)
   exact z6 (k:=375) (args:= #[.string (mkS y.text),.bool true]) (v:= .string (mkS (yP true y.text))) [] (λw _=>kK y.text true w Om) (zZ 83 [] ((yP true x.text)++[32,97,110,100,32]) (yP true y.text) (z7 [] (.string (mkS (((yP true x.text)++[32,97,110,100,32])++(yP true y.text)))) (λw hO=>⟨by rw [fJ,show x.isOne=true from by rw [bC,←hxo];simp;omega,show y.isBin=true from by rw [mL,←hyo];simp;omega],hO.below⟩)))
  refine zA 77 [] ((nb.op:Int)=4) (λhq=>absurd hq (h2)) (λ_=> ?_)
  by_cases h3:(nb.op:Int)=3
  ·refine zA 80 [] ((nb.op:Int)=3) (λ_=> ?_) (λhq=>absurd (h3) hq)
   exact z6 (k:=375) (args:= #[.string (mkS y.text),.bool true]) (v:= .string (mkS (yP true y.text))) [] (λw _=>kK y.text true w Om) (zZ 83 [] ((yP true x.text)++[32,97,110,100,32]) (yP true y.text) (z7 [] (.string (mkS (((yP true x.text)++[32,97,110,100,32])++(yP true y.text)))) (λw hO=>⟨by rw [fJ,show x.isOne=true from by rw [bC,←hxo];simp;omega,show y.isBin=true from by rw [mL,←hyo];simp;omega],hO.below⟩)))
  exact zA 80 [] ((nb.op:Int)=3) (λhq=>absurd hq (h3)) (λ_=>z6 (k:=375) (args:= #[.string (mkS y.text),.bool false]) (v:= .string (mkS (yP false y.text))) [] (λw _=>kK y.text false w Om) (zZ 83 [] ((yP true x.text)++[32,97,110,100,32]) (yP false y.text) (z7 [] (.string (mkS (((yP true x.text)++[32,97,110,100,32])++(yP false y.text)))) (λw hO=>⟨by rw [fJ,show x.isOne=true from by rw [bC,←hxo];simp;omega,show y.isBin=false from by rw [mL,←hyo];simp;omega],hO.below⟩))))
 refine zA 69 [] ((na.op:Int)=4) (λhq=>absurd hq (h1)) (λ_=>z6 (k:=375) (args:= #[.string (mkS x.text),.bool false]) (v:= .string (mkS (yP false x.text))) [] (λw _=>kK x.text false w Om) (zZ 71 [] (yP false x.text) ([32,97,110,100,32]) (z6 (k:=356) (args:= #[.slice A l.length cap,YI (b:Int)]) (v:= .string (mkS y.text)) [0] (λw hO=>hb' w (hv.on hO.below hO.size)) ?_)))
 by_cases h4:(nb.op:Int)=4
 ·refine zA 77 [] ((nb.op:Int)=4) (λ_=> ?_) (λhq=>absurd (h4) hq)
  exact z6 (k:=375) (args:= #[.string (mkS y.text),.bool true]) (v:= .string (mkS (yP true y.text))) [] (λw _=>kK y.text true w Om) (zZ 83 [] ((yP false x.text)++[32,97,110,100,32]) (yP true y.text) (z7 [] (.string (mkS (((yP false x.text)++[32,97,110,100,32])++(yP true y.text)))) (λw hO=>⟨by rw [fJ,show x.isOne=false from by rw [bC,←hxo];simp;omega,show y.isBin=true from by rw [mL,←hyo];simp;omega],hO.below⟩)))
 refine zA 77 [] ((nb.op:Int)=4) (λhq=>absurd hq (h4)) (λ_=> ?_)
 by_cases h5:(nb.op:Int)=3
 ·refine zA 80 [] ((nb.op:Int)=3) (λ_=> ?_) (λhq=>absurd (h5) hq)
  exact z6 (k:=375) (args:= #[.string (mkS y.text),.bool true]) (v:= .string (mkS (yP true y.text))) [] (λw _=>kK y.text true w Om) (zZ 83 [] ((yP false x.text)++[32,97,110,100,32]) (yP true y.text) (z7 [] (.string (mkS (((yP false x.text)++[32,97,110,100,32])++(yP true y.text)))) (λw hO=>⟨by rw [fJ,show x.isOne=false from by rw [bC,←hxo];simp;omega,show y.isBin=true from by rw [mL,←hyo];simp;omega],hO.below⟩)))
 exact zA 80 [] ((nb.op:Int)=3) (λhq=>absurd hq (h5)) (λ_=>z6 (k:=375) (args:= #[.string (mkS y.text),.bool false]) (v:= .string (mkS (yP false y.text))) [] (λw _=>kK y.text false w Om) (zZ 83 [] ((yP false x.text)++[32,97,110,100,32]) (yP false y.text) (z7 [] (.string (mkS (((yP false x.text)++[32,97,110,100,32])++(yP false y.text)))) (λw hO=>⟨by rw [fJ,show x.isOne=false from by rw [bC,←hxo];simp;omega,show y.isBin=false from by rw [mL,←hyo];simp;omega],hO.below⟩))))
theorem tx_one {A:Option Addr}{cap:Nat}{l:List Nd}(hn:l.length<=1000){r:Nat}{a b:Nat}{na nb:Nd}{x y:Tr}(hxl:x.text.length<=100000)(hyl:y.text.length<=100000)(hr:l[r]?=some ⟨4,(a:Int),(b:Int),0,[]⟩)(ha:l[a]?=some na)(hb:l[b]?=some nb)(ha':jW A cap l a x)(hb':jW A cap l b y)(hxo:na.op=x.opc)(hyo:nb.op=y.opc):jW A cap l r (.one x y):=λW hv=>by
 obtain ⟨hr,er⟩:=v7 hr
 obtain ⟨ha,ea⟩:=v7 ha
 obtain ⟨hb,eb⟩:=v7 hb
 obtain ⟨bp,off,hA,hlt,hcell⟩:=hv Om
 have hw0:=vV true x.text
 have hw1:=vV false x.text
 have hw2:=vV true y.text
 have hw3:=vV false y.text
 refine z8 Tryz.func356 (zH 11 [] hA l.length cap r 5 Om (zG 12 [] 312 bp (off+r*5) (ndV ⟨4,a,b,0,[]⟩) (λw hO=>Reads.load qQ (hv.on hO.below hO.size) hA r 0 hr Om _ (by rw [er];kernel_rfl)) (zB [] λb1=>(z6 (k:=356) (args:= #[.slice A l.length cap,YI (a:Int)]) (v:= .string (mkS x.text)) [0,0,0] (λw hO=>ha' w (hv.on hO.below hO.size)) (zZ 88 [] x.text ([32,111,114,32]) (z6 (k:=356) (args:= #[.slice A l.length cap,YI (b:Int)]) (v:= .string (mkS y.text)) [0] (λw hO=>hb' w (hv.on hO.below hO.size)) (zH 96 [0] hA l.length cap b 5 Om (zG 98 [] 3 bp (off+b*5+0) (YI nb.op) (λw hO=>Reads.load qQ (hv.on hO.below hO.size) hA b 0 hb Om _ (by rw [eb];kernel_rfl)) ?_))))))))
 by_cases h1:(nb.op:Int)=4
 ·refine zA 99 [] ((nb.op:Int)=4) (λ_=> ?_) (λhq=>absurd (h1) hq)
  exact z6 (k:=375) (args:= #[.string (mkS y.text),.bool true]) (v:= .string (mkS (yP true y.text))) [] (λw _=>kK y.text true w Om) (zZ 101 [] (x.text++[32,111,114,32]) (yP true y.text) (z7 [] (.string (mkS ((x.text++[32,111,114,32])++(yP true y.text)))) (λw hO=>⟨by rw [text_one,show y.isOne=true from by rw [bC,←hyo];simp;omega],hO.below⟩)))
 exact zA 99 [] ((nb.op:Int)=4) (λhq=>absurd hq (h1)) (λ_=>z6 (k:=375) (args:= #[.string (mkS y.text),.bool false]) (v:= .string (mkS (yP false y.text))) [] (λw _=>kK y.text false w Om) (zZ 101 [] (x.text++[32,111,114,32]) (yP false y.text) (z7 [] (.string (mkS ((x.text++[32,111,114,32])++(yP false y.text)))) (λw hO=>⟨by rw [text_one,show y.isOne=false from by rw [bC,←hyo];simp;omega],hO.below⟩))))
def wW (l:List Nd)(o:Nat)(t:Tr):Prop:=∀ i x,(t.enc o)[i]?=some x->l[o+i]?=some x
theorem gT {l:List Nd}{o:Nat}{p q:List Nd}(h:∀ i x,(p++q)[i]?=some x->l[o+i]?=some x):∀ i x,p[i]?=some x->l[o+i]?=some x:=λi x hi=>h i x (by rw [List.getElem?_append_left (List.getElem?_eq_some_iff.1 hi).1];exact hi)
theorem kX {l:List Nd}{o k:Nat}{p q:List Nd}(hk:p.length=k)(h:∀ i x,(p++q)[i]?=some x->l[o+i]?=some x):∀ i x,q[i]?=some x->l[o+k+i]?=some x:=λi x hi=>by
 have:=h (k+i) x (by rw [List.getElem?_append_right Om,hk,Nat.add_sub_cancel_left];exact hi)
 rw [←Nat.add_assoc] at this;exact this
theorem root_op:∀ (t:Tr) (o:Nat),∃ n,(t.enc o)[t.sz-1]?=some n/\n.op=t.opc
 | .is k v,o=>⟨_,rfl,rfl⟩
 | .no x,o=>⟨⟨2,((o+x.sz-1:Nat):Int),0,0,[]⟩,by rw [Tr.enc,List.getElem?_append_right (by rw [Tr.enc_len];show x.sz<=x.sz+1-1;omega),Tr.enc_len];show [_][x.sz+1-1-x.sz]?=_;rw [show x.sz+1-1-x.sz=0 by omega];rfl,rfl⟩
 | .both x y,o=>⟨⟨3,((o+x.sz-1:Nat):Int),((o+x.sz+y.sz-1:Nat):Int),0,[]⟩,by rw [Tr.enc,List.getElem?_append_right (by rw [List.length_append,Tr.enc_len,Tr.enc_len];show x.sz+y.sz<=x.sz+y.sz+1-1;omega),List.length_append,Tr.enc_len,Tr.enc_len];show [_][x.sz+y.sz+1-1-(x.sz+y.sz)]?=_;rw [show x.sz+y.sz+1-1-(x.sz+y.sz)=0 by omega];rfl,rfl⟩
 | .one x y,o=>⟨⟨4,((o+x.sz-1:Nat):Int),((o+x.sz+y.sz-1:Nat):Int),0,[]⟩,by rw [Tr.enc,List.getElem?_append_right (by rw [List.length_append,Tr.enc_len,Tr.enc_len];show x.sz+y.sz<=x.sz+y.sz+1-1;omega),List.length_append,Tr.enc_len,Tr.enc_len];show [_][x.sz+y.sz+1-1-(x.sz+y.sz)]?=_;rw [show x.sz+y.sz+1-1-(x.sz+y.sz)=0 by omega];rfl,rfl⟩
theorem gS {l:List Nd}{o:Nat}{t:Tr}(h:wW l o t):∃ n,l[o+t.sz-1]?=some n/\n.op=t.opc:=by
 obtain ⟨n,h1,h2⟩:=root_op t o
 have hz:=t.sz_pos
 have:=h _ _ h1
 rw [←Nat.add_sub_assoc Om] at this
 exact ⟨n,this,h2⟩
theorem bX {t:Tr}(h:t.ok=true)(hs:t.sz<=1000):t.text.length<=100000:=by have:=tZ t h;have:=t.text_w;omega
theorem word_short {v:YL}(h:wdL v=true):v.length<=12:=by unfold wdL at h;simp only [Bool.and_eq_true,decide_eq_true_eq] at h;omega
theorem bB {A:Option Addr}{cap:Nat}{l:List Nd}(hn:l.length<=1000):∀ (t:Tr) (o:Nat),t.ok=true->wW l o t->t.sz<=1000->jW A cap l (o+t.sz-1) t
 | .is k v,o,h,hs,_=>by
  unfold Tr.ok at h
  simp only [Bool.and_eq_true,decide_eq_true_eq] at h
  exact tx_is hn h.1 (by have:=word_short h.2;omega) (hs 0 _ rfl)
 | .no x,o,h,hs,hz=>by
  have hx:x.ok=true:=h
  have hzx:x.sz+1<=1000:=hz
  have hxz:=x.sz_pos
  have hs1:wW l o x:=gT hs
  have hr:=kX (k:=x.sz) (Tr.enc_len x o) hs 0 _ rfl
  have ih:=bB (A:=A) (cap:=cap) hn x o hx hs1 Om
  obtain ⟨na,hna,hop⟩:=gS hs1
  rw [Nat.add_zero] at hr
  have goal:jW A cap l (o+x.sz) (.no x):=by
   by_cases hi:∃ k v,x= .is k v
   ·obtain ⟨k,v,rfl⟩:=hi
    unfold Tr.ok at hx
    simp only [Bool.and_eq_true,decide_eq_true_eq] at hx
    exact tx_no_is hn hx.1 (by have:=word_short hx.2;omega) hr (hs1 0 _ rfl)
   ·refine tx_no hn (λk v q=>hi ⟨k,v,q⟩) (bX hx (by omega)) hr hna ih hop ?_ ?_
    ·rw [hop];cases x<;>first|exact absurd ⟨_,_,rfl⟩ hi|(intro q;cases q)
    ·rw [hop];exact opc_14 x
  show jW A cap l (o+(x.sz+1) -1) _
  rw [show o+(x.sz+1) -1=o+x.sz by omega];exact goal
 | .both x y,o,h,hs,hz=>by
  unfold Tr.ok at h
  rw [Bool.and_eq_true] at h
  have hzx:x.sz+y.sz+1<=1000:=hz
  have hs0:∀ i u,(x.enc o++y.enc (o+x.sz))[i]?=some u->l[o+i]?=some u:=gT hs
  have hs1:wW l o x:=gT hs0
  have hs2:wW l (o+x.sz) y:=kX (Tr.enc_len x o) hs0
  have hr:=kX (k:=x.sz+y.sz) (by rw [List.length_append,Tr.enc_len,Tr.enc_len]) hs 0 _ rfl
  obtain ⟨na,hna,hop⟩:=gS hs1
  obtain ⟨nb,hnb,hopb⟩:=gS hs2
  have goal:jW A cap l (o+(x.sz+y.sz)+0) (.both x y):=tx_both hn (bX h.1 Om) (bX h.2 Om) hr hna hnb (bB hn x o h.1 hs1 Om) (bB hn y (o+x.sz) h.2 hs2 Om) hop hopb
  show jW A cap l (o+(x.sz+y.sz+1) -1) _
  rw [show o+(x.sz+y.sz+1) -1=o+(x.sz+y.sz)+0 by omega];exact goal
 | .one x y,o,h,hs,hz=>by
  unfold Tr.ok at h
  rw [Bool.and_eq_true] at h
  have hzx:x.sz+y.sz+1<=1000:=hz
  have hs0:∀ i u,(x.enc o++y.enc (o+x.sz))[i]?=some u->l[o+i]?=some u:=gT hs
  have hs1:wW l o x:=gT hs0
  have hs2:wW l (o+x.sz) y:=kX (Tr.enc_len x o) hs0
  have hr:=kX (k:=x.sz+y.sz) (by rw [List.length_append,Tr.enc_len,Tr.enc_len]) hs 0 _ rfl
  obtain ⟨na,hna,hop⟩:=gS hs1
  obtain ⟨nb,hnb,hopb⟩:=gS hs2
  have goal:jW A cap l (o+(x.sz+y.sz)+0) (.one x y):=tx_one hn (bX h.1 Om) (bX h.2 Om) hr hna hnb (bB hn x o h.1 hs1 Om) (bB hn y (o+x.sz) h.2 hs2 Om) hop hopb
  show jW A cap l (o+(x.sz+y.sz+1) -1) _
  rw [show o+(x.sz+y.sz+1) -1=o+(x.sz+y.sz)+0 by omega];exact goal
theorem treeB_cases {l:List Nd}(h:fQ l=true):l=[]∨∃ t:Tr,t.ok=true/\l=t.enc 0:=by
 unfold fQ at h
 cases hr:vL 0 [] l with
 |none=>rw [hr] at h;cases h
 |some s=>
  rw [hr] at h
  simp only [Bool.or_eq_true,decide_eq_true_eq] at h
  rcases h with h|h
  ·exact .inl h
  ·match s,h,hr with
   | [p],_,hr=>
    obtain ⟨l0,hl0,hok,_,e⟩:=run_lies l [] [] [p] rfl hr
    have:l0=[]:=hl0
    subst this
    exact .inr ⟨p.2,hok,e⟩
theorem treeB_enc {t:Tr}(h:t.ok=true):fQ (t.enc 0)=true:=by unfold fQ;rw [pE t 0 [] h];simp
theorem stands_self (t:Tr):wW (t.enc 0) 0 t:=λi x h=>by rw [Nat.zero_add];exact h
def vK (l:List Nd):YL:=match jI l with|some t=>t.text|none=>[]
theorem wholeL_enc {t:Tr}(h:t.ok=true):vK (t.enc 0)=t.text:=by unfold vK;rw [fP h]
theorem tO (l:List Nd):dQ l=(decide (l.length<=15) && (fQ l && decide ((vK l).length<=96))):=by
 cases h:fQ l with
 |false=>
  cases hm:dQ l with
  |false=>simp
  |true=>
   rcases pN hm with rfl|⟨t,hok,rfl,_,_⟩
   ·cases h
   ·rw [treeB_enc hok] at h;cases h
 |true=>
  rcases treeB_cases h with rfl|⟨t,hok,rfl⟩
  ·rfl
  ·rw [mayM_enc hok,wholeL_enc hok,Tr.enc_len];simp
theorem r10whole_any (A:Option Addr)(cap:Nat)(l:List Nd)(W:World)(hv:Reads nC W W.heap.size A l)(hn:l.length<=1000)(ht:fQ l=true):YC 320 #[.slice A l.length cap] W (YR (.string (mkS (vK l))) W):=by
 refine z8 Tryz.func320 ?_
 by_cases h1:(l.length:Int)=0
 ·have hl0:l=[]:=List.eq_nil_of_length_eq_zero Om
  refine zA 5 [] ((l.length:Int)=0) (λ_=> ?_) (λhq=>absurd (h1) hq)
  exact z7 [] (.string ⟨#[]⟩) (λw hO=>⟨by rw [show vK l=[] from by rw [hl0];rfl];rfl,hO.below⟩)
 obtain ⟨t,hok,hl⟩:=(treeB_cases ht).resolve_left (λq=>h1 (by rw [q];rfl))
 have hlen:l.length=t.sz:=by rw [hl,Tr.enc_len]
 have hpos:=t.sz_pos
 exact zA 5 [] ((l.length:Int)=0) (λhq=>absurd hq (h1)) (λ_=>x_i 9 [] ((l.length:Int) -1) (z6 (k:=356) (args:= #[.slice A l.length cap,YI ((l.length:Int) -1)]) (v:= .string (mkS t.text)) [] (λw hO=>by have q:=bB (A:=A) (cap:=cap) hn t 0 hok (hl▸stands_self t) Om w (hv.on hO.below hO.size);rw [show ((0+t.sz-1:Nat):Int)=(l.length:Int) -1 by omega] at q;exact q) (z7 [] (.string (mkS t.text)) (λw hO=>⟨by rw [show vK l=t.text from by rw [hl,wholeL_enc hok]],hO.below⟩))))
theorem r10May_any (A:Option Addr)(cap:Nat)(l:List Nd)(W:World)(hv:Reads nC W W.heap.size A l)(hn:l.length<=1000)(ht:∀ n∈l,n.text.length<=1000000):YC 319 #[.agg #[.slice A l.length cap]] W (YR (.bool (dQ l)) W):=by
 have hsz:=zW (vK l)
 refine z8 Tryz.func319 (zQ [] λb1=> ?_)
 by_cases h1:(l.length:Int)<=15
 ·refine zA 6 [0] ((l.length:Int)<=15) (λ_=> ?_) (λhq=>absurd (h1) hq)
  refine z6 (k:=355) (args:= #[.slice A l.length cap]) (v:= .bool (fQ l)) [0] (λw hO=>r10tree_any A cap l w (hv.on hO.below hO.size) hn ht) ?_
  cases h2:fQ l with
  |true=>
   refine z6 (k:=320) (args:= #[.slice A l.length cap]) (v:= .string (mkS (vK l))) [0] (λw hO=>r10whole_any A cap l w (hv.on hO.below hO.size) hn h2) ?_
   by_cases h3:((mkS (vK l)).size:Int)<=96
   ·refine zA 17 [] (((mkS (vK l)).size:Int)<=96) (λ_=> ?_) (λhq=>absurd (h3) hq)
    exact z7 [] Z4 (λw hO=>⟨by rw [tO];simp [h1,h2,h3,zW];try omega,hO.below⟩)
   exact zA 17 [] (((mkS (vK l)).size:Int)<=96) (λhq=>absurd hq (h3)) (λ_=>z7 [] Z5 (λw hO=>⟨by rw [tO];simp [h1,h2,h3,zW];try omega,hO.below⟩))
  |false=>
   exact z7 [] Z5 (λw hO=>⟨by rw [tO];simp [h1,h2,zW];try omega,hO.below⟩)
 exact zA 6 [0] ((l.length:Int)<=15) (λhq=>absurd hq (h1)) (λ_=>z7 [] Z5 (λw hO=>⟨by rw [tO];simp [h1,zW];try omega,hO.below⟩))
end
section
set_option linter.unnecessarySimpa false
def valN (e:Pf)(n:Nd)(vs:List Int):Int:=
 if n.op=1 then (if e n.key.toNat=[] then 1 else if e n.key.toNat=n.text then 2 else 0)
 else if n.op=2 then 2-vs.getD n.a.toNat 0
 else if n.op=3 then min (vs.getD n.a.toNat 0) (vs.getD n.b.toNat 0) else max (vs.getD n.a.toNat 0) (vs.getD n.b.toNat 0)
structure NdOk (n:Nd)(m:Nat):Prop where
 is:n.op=1->0<=n.key/\n.key<3
 a:n.op≠1->0<=n.a/\n.a<m
 b:n.op≠1->n.op≠2->0<=n.b/\n.b<m
end
section
set_option linter.unnecessarySimpa false
theorem Own.lentR {ob R:List Blk}{M:List Nat}{W w:World}(h:Own M W w (R++ob)):Own (ob.map Blk.b) w w ob:=Own.lend (h.sublist (List.sublist_append_right _ _))
end
section
set_option linter.unnecessarySimpa false
def VStands (e:Pf)(vs:List Int)(o:Nat)(t:Tr):Prop:=∀ i z,(vlT e t)[i]?=some z->vs[o+i]?=some z
theorem nd_dec (u v:Nd):decide (u=v)=(decide (u.op=v.op) && (decide (u.a=v.a) && (decide (u.b=v.b) && (decide (u.key=v.key) && decide (u.text=v.text))))):=by
 obtain ⟨a,b,c,d,e⟩:=u
 obtain ⟨a',b',c',d',e'⟩:=v
 simp only [Nd.mk.injEq,Bool.decide_and]
theorem eq_nd (u v:Nd)(d:Nat)(w:World):(Op.equalIn (d+1+1) 312 (ndV u) (ndV v)).run YP w= .ok (decide (u=v)) w:=by
  have h:=eq_agg (P:=YP) (d:=d+1) (t:=312) (xs:=(ndV u).cells) (ys:=(ndV v).cells) (bs:=[u.op==v.op,u.a==v.a,u.b==v.b,u.key==v.key,(mkS u.text).toList==(mkS v.text).toList]) Tryz.underlying312 Kr
    ⟨by decide,⟨YI u.op,YI v.op,λw=>⟨by kernel_rfl,by kernel_rfl,run_equalIn_int w d _ _ _ _ _ Tryz.underlying3⟩⟩,
     by decide,⟨YI u.a,YI v.a,λw=>⟨by kernel_rfl,by kernel_rfl,run_equalIn_int w d _ _ _ _ _ Tryz.underlying3⟩⟩,
     by decide,⟨YI u.b,YI v.b,λw=>⟨by kernel_rfl,by kernel_rfl,run_equalIn_int w d _ _ _ _ _ Tryz.underlying3⟩⟩,
     by decide,⟨YI u.key,YI v.key,λw=>⟨by kernel_rfl,by kernel_rfl,run_equalIn_int w d _ _ _ _ _ Tryz.underlying3⟩⟩,
     by decide,⟨.string (mkS u.text),.string (mkS v.text),λw=>⟨by kernel_rfl,by kernel_rfl,run_equalIn_string w d _ _ _ Tryz.underlying9⟩⟩,trivial⟩ w
  rw [all5,fC,pO,pO,pO,pO,←nd_dec] at h
  exact h
theorem guard_nd:Tryz.prog.eqGuardType Tryz.prog.depth 312=false:=by kernel_rfl
theorem nL {ρ:Operand->Value}{o:Oper}{t':TypeId}{x y:Operand}{u v:Nd}{b:Bool}(ho:o.op= .binOp .neq 312 x y t')(hx:ρ x=ndV u)(hy:ρ y=ndV v)(hb:decide (u=v)=b)(w:World):(execOp ρ o).run YP w= .ok (.value (.bool (!b))) w:=
 run_ne_op ho hx hy guard_nd (λw=>hb▸eq_nd u v 9998 w) w
end
section
set_option linter.unnecessarySimpa false
def Rd (b:Nat)(A:Option Addr)(cap:Nat)(ws:List Tok)(ts:List Tok)(nd:List Nd)(bad:Bool)(ob:List Blk):Prop:=
 ∃ pre C cc g,ws=pre++ts/\ob=⟨b, #[.slice A ws.length cap,YI ((pre.length:Nat):Int),.slice C nd.length cc,.bool bad],320⟩::g/\SlN (.slice C nd.length cc) nd g
structure Lent (B b:Nat)(A:Option Addr)(cap:Nat)(ws ts:List Tok)(nd:List Nd)(bad:Bool)(ob:List Blk)(W:World):Prop where
 rd:Rd b A cap ws ts nd bad ob
 own:Own (ob.map Blk.b) W W ob
 ge:∀ x∈ob,B<=x.b
 le:B<=W.heap.size
 words:Reads y7 W B A ws
 short:∀ x∈ws,x.length<=1000000
 few:ws.length<=10000
 small:nd.length+ts.length<=10000
structure Back (b:Nat)(A:Option Addr)(cap:Nat)(ws ts:List Tok)(nd:List Nd)(bad:Bool)(ob ob':List Blk)(W w':World):Prop where
 rd:Rd b A cap ws ts nd bad ob'
 own:Own (ob.map Blk.b) W w' ob'
def kP (x:Tok)(ts:List Tok):Bool:=decide (ts.head?=some x)
def wA (x:Tok)(ts:List Tok):List Tok:=if kP x ts then ts.tail else ts
theorem next_yes {x:Tok}{r:List Tok}:kP x (x::r)=true/\wA x (x::r)=r:=by
 have h:kP x (x::r)=true:=by unfold kP;simp
 exact ⟨h,by unfold wA;rw [h];rfl⟩
theorem jB {x:Tok}{ts:List Tok}(h:ts.head?≠some x):kP x ts=false/\wA x ts=ts:=by
 have h1:kP x ts=false:=decide_eq_false h
 exact ⟨h1,by unfold wA;rw [h1];rfl⟩
theorem r10next_any {B b:Nat}{A:Option Addr}{cap:Nat}{ws ts:List Tok}{nd:List Nd}{bad:Bool}{ob:List Blk}{W:World}(hL:Lent B b A cap ws ts nd bad ob W)(x:Tok):YC 353 #[.pointer (some ⟨b,0,none⟩),.string (mkS x)] W λe w'=>∃ ob',e= .returned (.bool (kP x ts))/\Back b A cap ws (wA x ts) nd bad ob ob' W w':=by
 have hM':=qC hL.ge
 have hBW:=hL.le
 have hw:=hL.words
 have hfw:=hL.few
 have hO:=hL.own
 obtain ⟨pre,C,cc,g,hws,rfl,hsl⟩:=hL.rd
 have hwl:ws.length=pre.length+ts.length:=by rw [hws,List.length_append]
 by_cases h1:((pre.length:Nat):Int)<(ws.length:Int)
 ·obtain ⟨c,r,rfl⟩:∃ c r,ts=c::r:=by cases ts with|nil=>simp at hwl;omega|cons c r=>exact ⟨c,r,rfl⟩
  obtain ⟨bp,off,hA,hlt,hcell⟩:=hw Om
  have hc:∀ h:pre.length<ws.length,ws[pre.length]=c:=by subst hws;intro h;simp
  have hld:∀ w,Own ((⟨b, #[.slice A ws.length cap,YI ((pre.length:Nat):Int),.slice C nd.length cc,.bool bad],320⟩::g).map Blk.b) W w []->(loadVar 9 ⟨bp,off+pre.length*1,none⟩).run YP w= .ok (.string (mkS c)) w:=λw hO=>Reads.load zO (hw.on (hO.belowB hM' hBW) (Nat.le_refl _)) hA pre.length 0 Om Om _ (by rw [hc];kernel_rfl)
  refine y6 hO Tryz.func353 (zA 14 [0,0] (((pre.length:Nat):Int)<(ws.length:Int)) (λ_=>zH 24 [0,0] hA ws.length cap pre.length 1 (by omega) (zG 25 [] 9 bp (off+pre.length*1) (.string (mkS c)) (λw hO=>hld w hO.no) (yS 27 [] c x (λh2=> ?_) (λh2=> ?_)))) (λh=>absurd h1 h))
  ·subst h2;exact x_i 33 [0] ((pre.length+1:Nat):Int) (z7 [0] (.bool true) (λw hO=>⟨⟨b, #[.slice A ws.length cap,YI ((pre.length+1:Nat):Int),.slice C nd.length cc,.bool bad],320⟩::g,congrArg (λz=>Ending.returned (.bool z)) next_yes.1.symm,⟨by rw [next_yes.2];exact ⟨pre++[c],C,cc,g,by rw [hws];simp,by rw [show (pre++[c]).length=pre.length+1 from by simp],hsl⟩,hO.past 0 (⟨b, #[.slice A ws.length cap,YI ((pre.length+1:Nat):Int),.slice C nd.length cc,.bool bad],320⟩::g)⟩⟩))
  ·have hn:=jB (x:=x) (ts:=c::r) (by simp;exact h2)
   exact z7 [] Z5 (λw hO=>⟨⟨b, #[.slice A ws.length cap,YI ((pre.length:Nat):Int),.slice C nd.length cc,.bool bad],320⟩::g,congrArg (λz=>Ending.returned (.bool z)) hn.1.symm,⟨by rw [hn.2];exact ⟨pre,C,cc,g,hws,rfl,hsl⟩,hO.past 0 (⟨b, #[.slice A ws.length cap,YI ((pre.length:Nat):Int),.slice C nd.length cc,.bool bad],320⟩::g)⟩⟩)
 ·obtain rfl:ts=[]:=by cases ts with|nil=>rfl|cons c r=>simp at hwl;omega
  have hn:=jB (x:=x) (ts:=([]:List Tok)) (by simp)
  exact y6 hO Tryz.func353 (zA 14 [0,0] (((pre.length:Nat):Int)<(ws.length:Int)) (λh=>absurd h h1) (λ_=>z7 [] Z5 (λw hO=>⟨⟨b, #[.slice A ws.length cap,YI ((pre.length:Nat):Int),.slice C nd.length cc,.bool bad],320⟩::g,congrArg (λz=>Ending.returned (.bool z)) hn.1.symm,⟨by rw [hn.2];exact ⟨pre,C,cc,g,hws,rfl,hsl⟩,hO.past 0 (⟨b, #[.slice A ws.length cap,YI ((pre.length:Nat):Int),.slice C nd.length cc,.bool bad],320⟩::g)⟩⟩)))
theorem r10take_any {B b:Nat}{A:Option Addr}{cap:Nat}{ws ts:List Tok}{nd:List Nd}{bad:Bool}{ob:List Blk}{W:World}(hL:Lent B b A cap ws ts nd bad ob W):YC 389 #[.pointer (some ⟨b,0,none⟩)] W λe w'=>∃ ob',e= .returned (.string (mkS (ts.headD [])))/\Back b A cap ws ts.tail nd (bad||decide (ts=[])) ob ob' W w':=by
 have hM':=qC hL.ge
 have hBW:=hL.le
 have hw:=hL.words
 have hfw:=hL.few
 have hO:=hL.own
 obtain ⟨pre,C,cc,g,hws,rfl,hsl⟩:=hL.rd
 have hwl:ws.length=pre.length+ts.length:=by rw [hws,List.length_append]
 by_cases h1:(ws.length:Int)<=((pre.length:Nat):Int)
 ·obtain rfl:ts=[]:=by cases ts with|nil=>rfl|cons c r=>simp at hwl;omega
  exact y6 hO Tryz.func389 (zA 12 [0,0] ((ws.length:Int)<=((pre.length:Nat):Int)) (λ_=>z7 [0] (.string (mkS [])) (λw hO=>⟨⟨b, #[.slice A ws.length cap,YI ((pre.length:Nat):Int),.slice C nd.length cc,.bool true],320⟩::g,rfl,⟨by rw [show (bad||decide (([]:List Tok)=[]))=true from by simp];exact ⟨pre,C,cc,g,hws,rfl,hsl⟩,hO.past 0 (⟨b, #[.slice A ws.length cap,YI ((pre.length:Nat):Int),.slice C nd.length cc,.bool true],320⟩::g)⟩⟩)) (λh=>absurd h1 h))
 ·obtain ⟨c,r,rfl⟩:∃ c r,ts=c::r:=by cases ts with|nil=>simp at hwl;omega|cons c r=>exact ⟨c,r,rfl⟩
  obtain ⟨bp,off,hA,hlt,hcell⟩:=hw Om
  have hc:∀ h:pre.length<ws.length,ws[pre.length]=c:=by subst hws;intro h;simp
  have hld:∀ w,Own ((⟨b, #[.slice A ws.length cap,YI ((pre.length:Nat):Int),.slice C nd.length cc,.bool bad],320⟩::g).map Blk.b) W w []->(loadVar 9 ⟨bp,off+pre.length*1,none⟩).run YP w= .ok (.string (mkS c)) w:=λw hO=>Reads.load zO (hw.on (hO.belowB hM' hBW) (Nat.le_refl _)) hA pre.length 0 Om Om _ (by rw [hc];kernel_rfl)
  exact y6 hO Tryz.func389 (zA 12 [0,0] ((ws.length:Int)<=((pre.length:Nat):Int)) (λh=>absurd h h1) (λ_=>x_i 20 [0] ((pre.length+1:Nat):Int) (x_i 31 [0,0,0] (((pre.length+1:Nat):Int) -1) (jH 32 [] hA ws.length cap (((pre.length+1:Nat):Int) -1) 1 (off+pre.length*1) Om (zG 33 [] 9 bp (off+pre.length*1) (.string (mkS c)) (λw hO=>hld w hO.no) (z7 [] (.string (mkS c)) (λw hO=>⟨⟨b, #[.slice A ws.length cap,YI ((pre.length+1:Nat):Int),.slice C nd.length cc,.bool bad],320⟩::g,rfl,⟨by rw [show (bad||decide ((c::r)=([]:List Tok)))=bad from by simp];exact ⟨pre++[c],C,cc,g,by rw [hws];simp,by rw [show (pre++[c]).length=pre.length+1 from by simp],hsl⟩,hO.past 0 (⟨b, #[.slice A ws.length cap,YI ((pre.length+1:Nat):Int),.slice C nd.length cc,.bool bad],320⟩::g)⟩⟩)))))))
theorem r10put_any {B b:Nat}{A:Option Addr}{cap:Nat}{ws ts:List Tok}{nd:List Nd}{bad:Bool}{ob:List Blk}{W:World}(hL:Lent B b A cap ws ts nd bad ob W)(n:Nd)(hn9:nd.length<=1000000):YC 354 #[.pointer (some ⟨b,0,none⟩),ndV n] W λe w'=>∃ ob',e= .returned (YI (nd.length:Int))/\Back b A cap ws ts (nd++[n]) bad ob ob' W w':=by
 have hO:=hL.own
 have hsm:=hL.small
 obtain ⟨pre,C,cc,g,hws,rfl,hsl⟩:=hL.rd
 have hnl:(nd++[n]).length=nd.length+1:=by simp
 refine y6 hO Tryz.func354 (zQ [] λb1=>x5 8 [] [⟨b1,(ndV n).cells,312⟩,⟨b, #[.slice A ws.length cap,YI ((pre.length:Nat):Int),.slice C nd.length cc,.bool bad],320⟩] (λw hO=>(hO.past 0 (⟨b1,(ndV n).cells,312⟩::⟨b, #[.slice A ws.length cap,YI ((pre.length:Nat):Int),.slice C nd.length cc,.bool bad],320⟩::g)).sublist (by simp)) (zY [1,0] 6 (gF 1 312 (ndV n).cells λb2=>zY [] 7 (vZ (m:=1) (cp:=1) [⟨b2,(ndV n).cells,312⟩,⟨b1,(ndV n).cells,312⟩,⟨b, #[.slice A ws.length cap,YI ((pre.length:Nat):Int),.slice C nd.length cc,.bool bad],320⟩] g [] 0 (⟨b2,(ndV n).cells,312⟩::⟨b1,(ndV n).cells,312⟩::⟨b, #[.slice A ws.length cap,YI ((pre.length:Nat):Int),.slice C nd.length cc,.bool bad],320⟩::g) [⟨b1,(ndV n).cells,312⟩,⟨b, #[.slice A ws.length cap,YI ((pre.length:Nat):Int),.slice C nd.length cc,.bool bad],320⟩] (λw hO=>hO.cast (by simp)) (λo w hO=>hO.sublist (List.Sublist.cons _ (List.Sublist.cons_cons _ (List.Sublist.cons_cons _ (List.nil_sublist _))))) hsl Om λv' ob' h=> ?_))))
 obtain ⟨B2,cb2,rfl⟩:=h.form
 exact x_i 20 [2,2] (((nd.length+1:Nat):Int) -1) (z7 [] (YI (((nd.length+1:Nat):Int) -1)) (λw hO=>⟨⟨b, #[.slice A ws.length cap,YI ((pre.length:Nat):Int),.slice B2 (nd.length+1) cb2,.bool bad],320⟩::ob',by rw [show (nd.length:Int)=((nd.length+1:Nat):Int) -1 from by omega],⟨⟨pre,B2,cb2,ob',hws,by rw [hnl],by rw [hnl];exact SlN.add h⟩,(hO.past 2 (⟨b, #[.slice A ws.length cap,YI ((pre.length:Nat):Int),.slice B2 (nd.length+1) cb2,.bool bad],320⟩::(ob'++[]))).cast (by simp)⟩⟩))
end
section
set_option linter.unnecessarySimpa false
theorem Lent.at {B b:Nat}{A:Option Addr}{cap:Nat}{ws ts ts':List Tok}{nd nd':List Nd}{bad bad':Bool}{ob ob' R:List Blk}{W w:World}(h:Lent B b A cap ws ts nd bad ob W)(hR:Rd b A cap ws ts' nd' bad' ob')(hs:nd'.length+ts'.length<=10000)(hO:Own (ob.map Blk.b) W w (ob'++R)):Lent B b A cap ws ts' nd' bad' ob' w:=
 ⟨hR,Own.lent hO,λx hx=>hO.allB (qC h.ge) h.le x (List.mem_append_left _ hx),Nat.le_trans h.le hO.size,h.words.on (hO.belowB (qC h.ge) h.le) (Nat.le_refl _),h.short,h.few,hs⟩
theorem Rd.load {b:Nat}{A:Option Addr}{cap:Nat}{ws ts:List Tok}{nd:List Nd}{bad:Bool}{ob L:List Blk}{M:List Nat}{W w:World}(h:Rd b A cap ws ts nd bad ob)(hO:Own M W w L)(hs:∀ x∈ob,x∈L):(loadVar 4 ⟨b,3,none⟩).run YP w= .ok (.bool bad) w:=by
 obtain ⟨pre,C,cc,g,hws,rfl,hsl⟩:=h
 exact x7 Kr (hO.held _ (hs _ (List.mem_cons_self ..)))
def Got (part:List Tok->Option (Tr×List Tok))(ts:List Tok)(nd:List Nd)(z:Int)(ts':List Tok)(nd':List Nd)(bad':Bool):Prop:=
 nd'.length+ts'.length<=nd.length+ts.length/\ts'.length<=ts.length∧
  match part ts with
  |some (t,r)=>bad'=false/\ts'=r/\nd'=nd++t.enc nd.length/\z=((nd.length+t.sz-1:Nat):Int)
  |none=>bad'=true
def ChI (part:List Tok->Option (Tr×List Tok))(c:Tok)(mk:Tr->Tr->Tr)(ts:List Tok)(nd:List Nd)(z:Int)(tq:List Tok)(nq:List Nd)(bq:Bool):Prop:=
 nq.length+tq.length<=nd.length+ts.length/\tq.length<=ts.length∧
  (if bq=true then gY part c mk ts=none else ∃ t,gY part c mk ts=w8 part c mk tq.length t tq/\nq=nd++t.enc nd.length/\z=((nd.length+t.sz-1:Nat):Int))
structure MkOf (op:Int)(mk:Tr->Tr->Tr):Prop where
 enc:∀ a b o,(mk a b).enc o=a.enc o++b.enc (o+a.sz)++[⟨op,((o+a.sz-1:Nat):Int),((o+a.sz+b.sz-1:Nat):Int),0,[]⟩]
 sz:∀ a b,(mk a b).sz=a.sz+b.sz+1
theorem mk_both:MkOf 3 .both:=⟨λ_ _ _=>rfl,λ_ _=>rfl⟩
theorem mk_one:MkOf 4 .one:=⟨λ_ _ _=>rfl,λ_ _=>rfl⟩
theorem ch_start {part:List Tok->Option (Tr×List Tok)}{c:Tok}{mk:Tr->Tr->Tr}{ts ts':List Tok}{nd nd':List Nd}{z:Int}{bad':Bool}(h:Got part ts nd z ts' nd' bad'):ChI part c mk ts nd z ts' nd' bad':=by
 obtain ⟨h1,h2,h3⟩:=h
 refine ⟨h1,h2, ?_⟩
 cases hp:part ts with
 |none=>rw [hp] at h3;rw [if_pos h3];unfold gY;rw [hp]
 |some x=>
  obtain ⟨t,r⟩:=x
  rw [hp] at h3
  obtain ⟨hb,hr,hn,hz⟩:=h3
  rw [if_neg (by rw [hb];simp)]
  exact ⟨t,by unfold gY;rw [hp,hr],hn,hz⟩
theorem ch_stop {part:List Tok->Option (Tr×List Tok)}{c:Tok}{mk:Tr->Tr->Tr}{ts tq:List Tok}{nd nq:List Nd}{z:Int}(h:ChI part c mk ts nd z tq nq false)(hc:kP c tq=false):Got (gY part c mk) ts nd z tq nq false:=by
 obtain ⟨h1,h2,h3⟩:=h
 rw [if_neg (by simp)] at h3
 obtain ⟨t,e,hn,hz⟩:=h3
 rw [pLoop_stop _ _ _ _ _ _ (of_decide_eq_false hc)] at e
 refine ⟨h1,h2, ?_⟩
 rw [e]
 exact ⟨rfl,rfl,hn,hz⟩
theorem ch_fell {part:List Tok->Option (Tr×List Tok)}{c:Tok}{mk:Tr->Tr->Tr}{ts tq:List Tok}{nd nq:List Nd}{z:Int}(h:ChI part c mk ts nd z tq nq true):Got (gY part c mk) ts nd z tq nq true:=by
 obtain ⟨h1,h2,h3⟩:=h
 rw [if_pos rfl] at h3
 refine ⟨h1,h2, ?_⟩
 rw [h3]
theorem qP {c:Tok}{ts:List Tok}(h:kP c ts=true):∃ r,ts=c::r/\wA c ts=r:=by
 unfold kP at h
 have:=of_decide_eq_true h
 cases ts with
 |nil=>cases this
 |cons d r=>simp only [List.head?_cons,Option.some.injEq] at this;subst this;exact ⟨r,rfl,next_yes.2⟩
theorem ch_step {part:List Tok->Option (Tr×List Tok)}(hp:Eats part){op:Int}{c:Tok}{mk:Tr->Tr->Tr}(hmk:MkOf op mk){ts tq r ts2:List Tok}{nd nq nd2:List Nd}{z z2:Int}{bad2:Bool}(h:ChI part c mk ts nd z tq nq false)(htq:tq=c::r)(h2:Got part r nq z2 ts2 nd2 bad2):
  ChI part c mk ts nd (nd2.length:Int) ts2 (nd2++[⟨op,z,z2,0,[]⟩]) bad2:=by
 obtain ⟨h1,h3,h4⟩:=h
 rw [if_neg (by simp)] at h4
 obtain ⟨t,e,hn,hz⟩:=h4
 obtain ⟨g1,g2,g3⟩:=h2
 subst htq
 simp only [List.length_cons] at h1 h3
 refine ⟨by rw [List.length_append,List.length_singleton];omega,by omega, ?_⟩
 rw [List.length_cons,w8,if_pos rfl] at e
 cases hq:part r with
 |none=>
  rw [hq] at g3 e
  rw [if_pos g3,e]
 |some y=>
  obtain ⟨u,r'⟩:=y
  rw [hq] at g3 e
  obtain ⟨hb,hr,hn2,hz2⟩:=g3
  rw [if_neg (by rw [hb];simp)]
  have hl:=hp _ _ _ hq
  have hz1:=t.sz_pos
  have hz3:=u.sz_pos
  subst hr
  have hnl:nq.length=nd.length+t.sz:=by rw [hn,List.length_append,Tr.enc_len]
  refine ⟨mk t u, ?_, ?_, ?_⟩
  ·rw [e];exact pLoop_fuel hp _ _ _ _ _ _ Om (Nat.le_refl _)
  ·rw [hmk.enc,hn2,hz2,hz,hnl]
   rw [show nd++(t.enc nd.length++u.enc (nd.length+t.sz)++[(⟨op,((nd.length+t.sz-1:Nat):Int),((nd.length+t.sz+u.sz-1:Nat):Int),0,[]⟩:Nd)])=nq++u.enc (nd.length+t.sz)++[(⟨op,((nd.length+t.sz-1:Nat):Int),((nd.length+t.sz+u.sz-1:Nat):Int),0,[]⟩:Nd)] from by rw [hn];simp]
  ·rw [hmk.sz,hn2,List.length_append,Tr.enc_len,hnl];congr 1;omega
structure tX (f:FuncId)(n:Nat)(part:List Tok->Option (Tr×List Tok)):Prop where
 go:∀ {B b:Nat} {A:Option Addr} {cap:Nat} {ws ts:List Tok} {nd:List Nd} {ob:List Blk} {W:World},Lent B b A cap ws ts nd false ob W->ts.length<=n→
  Calls YP f #[.pointer (some ⟨b,0,none⟩)] W λe w'=>∃ z ts' nd' bad' ob',e= .returned (YI z)/\Back b A cap ws ts' nd' bad' ob ob' W w'/\Got part ts nd z ts' nd' bad'
theorem pfac_atom {n:Nat}{ts:List Tok}(h1:kP qV ts=false)(h2:kP xF ts=false)(hn:ts.length<=n):v6 n ts=vS ts:=by
 cases ts with
 |nil=>cases n<;>rfl
 |cons c r=>
  cases n with
  |zero=>simp at hn
  |succ n=>
   have q1:=of_decide_eq_false h1
   have q2:=of_decide_eq_false h2
   simp only [List.head?_cons,Option.some.injEq] at q1 q2
   rw [v6,if_neg q1,if_neg q2]
theorem x_rdC {k:FuncId}{args:Array Value}{Rv:Value->List Tok->List Nd->Bool->Prop}{B b:Nat}{A:Option Addr}{cap:Nat}{ws ts tq:List Tok}{nd nq:List Nd}{bad bq:Bool}{ob oq:List Blk}{W:World}{Q:Exit->Act->World->Prop}{n:Nat}{c:Xc}(hL:Lent B b A cap ws ts nd bad ob W)(h:List Nat)(R:List Blk)(hR:Rd b A cap ws tq nq bq oq)(hs:nq.length+tq.length<=10000)
  (hc:∀ w,Lent B b A cap ws tq nq bq oq w->Calls YP k args w λe w'=>∃ v ts' nd' bad' ob',e= .returned v/\Rv v ts' nd' bad'/\Back b A cap ws ts' nd' bad' oq ob' w w')
  (hg:∀ v ts' nd' bad' ob',Rv v ts' nd' bad'->Rd b A cap ws ts' nd' bad' ob'->zE (ob.map Blk.b) YP n W Q (xNx (xgo YP n nS h c) (R++ob') v)) (hkt:(xgl YP n nS h c,(xgo YP n nS h c).L,(xgo YP n nS h c).top,y5 (xA (xgo YP n nS h c)) n (xgo YP n nS h c).f (xO (xgo YP n nS h c)),mO YP n (xgo YP n nS h c))=(xgr YP n nS h c,R++oq,.ops (xA (xgo YP n nS h c)) (xO (xgo YP n nS h c)::xT (xgo YP n nS h c)),true,λw=> .ok (.enter k args) w):=by kernel_rfl):zE (ob.map Blk.b) YP n W Q c:=
 kG (Rr:=λv ob'=>∃ ts' nd' bad',Rv v ts' nd' bad'/\Rd b A cap ws ts' nd' bad' ob') h (R++oq) R oq (λw hO=>hO) (λw hO=>(hc w (hL.at (R:=R) hR hs (hO.perm List.perm_append_comm))).mono λe w' ⟨v,ts',nd',bad',ob',k1,k2,k3⟩=>⟨v,ob',k1,⟨ts',nd',bad',k2,k3.rd⟩,k3.own⟩) (λv ob' ⟨ts',nd',bad',k2,k3⟩=>hg v ts' nd' bad' ob' k2 k3) hkt
theorem x_part {k:FuncId}{m:Nat}{part:List Tok->Option (Tr×List Tok)}(hp:tX k m part){B b:Nat}{A:Option Addr}{cap:Nat}{ws ts tq:List Tok}{nd nq:List Nd}{bad:Bool}{ob oq:List Blk}{W:World}{Q:Exit->Act->World->Prop}{n:Nat}{c:Xc}(hL:Lent B b A cap ws ts nd bad ob W)(h:List Nat)(R:List Blk)(hR:Rd b A cap ws tq nq false oq)(hs:nq.length+tq.length<=10000)(hm:tq.length<=m)
  (hg:∀ z ts' nd' bad' ob',Rd b A cap ws ts' nd' bad' ob'->Got part tq nq z ts' nd' bad'->zE (ob.map Blk.b) YP n W Q (xNx (xgo YP n nS h c) (R++ob') (YI z))) (hkt:(xgl YP n nS h c,(xgo YP n nS h c).L,(xgo YP n nS h c).top,y5 (xA (xgo YP n nS h c)) n (xgo YP n nS h c).f (xO (xgo YP n nS h c)),mO YP n (xgo YP n nS h c))=(xgr YP n nS h c,R++oq,.ops (xA (xgo YP n nS h c)) (xO (xgo YP n nS h c)::xT (xgo YP n nS h c)),true,λw=> .ok (.enter k #[.pointer (some ⟨b,0,none⟩)]) w):=by kernel_rfl):zE (ob.map Blk.b) YP n W Q c:=
 x_rdC (Rv:=λv ts' nd' bad'=>∃ z,v=YI z/\Got part tq nq z ts' nd' bad') hL h R hR hs (λw hl=>(hp.go hl hm).mono λe w' ⟨z,ts',nd',bad',ob',k1,k2,k3⟩=>⟨_,ts',nd',bad',ob',k1,⟨z,rfl,k3⟩,k2⟩) (λv ts' nd' bad' ob' ⟨z,e,k3⟩ k2=>by subst e;exact hg z ts' nd' bad' ob' k2 k3) hkt
theorem x_next {B b:Nat}{A:Option Addr}{cap:Nat}{ws ts tq:List Tok}{nd nq:List Nd}{bad bq:Bool}{ob oq:List Blk}{W:World}{Q:Exit->Act->World->Prop}{n:Nat}{c:Xc}(hL:Lent B b A cap ws ts nd bad ob W)(h:List Nat)(R:List Blk)(x:Tok)(hR:Rd b A cap ws tq nq bq oq)(hs:nq.length+tq.length<=10000)
  (hg:∀ ob',Rd b A cap ws (wA x tq) nq bq ob'->zE (ob.map Blk.b) YP n W Q (xNx (xgo YP n nS h c) (R++ob') (.bool (kP x tq)))) (hkt:(xgl YP n nS h c,(xgo YP n nS h c).L,(xgo YP n nS h c).top,y5 (xA (xgo YP n nS h c)) n (xgo YP n nS h c).f (xO (xgo YP n nS h c)),mO YP n (xgo YP n nS h c))=(xgr YP n nS h c,R++oq,.ops (xA (xgo YP n nS h c)) (xO (xgo YP n nS h c)::xT (xgo YP n nS h c)),true,λw=> .ok (.enter 353 #[.pointer (some ⟨b,0,none⟩),.string (mkS x)]) w):=by kernel_rfl):zE (ob.map Blk.b) YP n W Q c:=
 x_rdC (Rv:=λv ts' nd' bad'=>v= .bool (kP x tq)/\ts'=wA x tq/\nd'=nq/\bad'=bq) hL h R hR hs (λw hl=>(r10next_any hl x).mono λe w' ⟨ob',k1,k2⟩=>⟨_,_,_,_,ob',k1,⟨rfl,rfl,rfl,rfl⟩,k2⟩) (λv ts' nd' bad' ob' ⟨e1,e2,e3,e4⟩ k2=>by subst e1;subst e2;subst e3;subst e4;exact hg ob' k2) hkt
theorem x_takeC {B b:Nat}{A:Option Addr}{cap:Nat}{ws ts tq:List Tok}{nd nq:List Nd}{bad bq:Bool}{ob oq:List Blk}{W:World}{Q:Exit->Act->World->Prop}{n:Nat}{c:Xc}(hL:Lent B b A cap ws ts nd bad ob W)(h:List Nat)(R:List Blk)(hR:Rd b A cap ws tq nq bq oq)(hs:nq.length+tq.length<=10000)
  (hg:∀ ob',Rd b A cap ws tq.tail nq ((bq||decide (tq=[]))) ob'->zE (ob.map Blk.b) YP n W Q (xNx (xgo YP n nS h c) (R++ob') (.string (mkS (tq.headD []))))) (hkt:(xgl YP n nS h c,(xgo YP n nS h c).L,(xgo YP n nS h c).top,y5 (xA (xgo YP n nS h c)) n (xgo YP n nS h c).f (xO (xgo YP n nS h c)),mO YP n (xgo YP n nS h c))=(xgr YP n nS h c,R++oq,.ops (xA (xgo YP n nS h c)) (xO (xgo YP n nS h c)::xT (xgo YP n nS h c)),true,λw=> .ok (.enter 389 #[.pointer (some ⟨b,0,none⟩)]) w):=by kernel_rfl):zE (ob.map Blk.b) YP n W Q c:=
 x_rdC (Rv:=λv ts' nd' bad'=>v= .string (mkS (tq.headD []))/\ts'=tq.tail/\nd'=nq/\bad'=(bq||decide (tq=[]))) hL h R hR hs (λw hl=>(r10take_any hl).mono λe w' ⟨ob',k1,k2⟩=>⟨_,_,_,_,ob',k1,⟨rfl,rfl,rfl,rfl⟩,k2⟩) (λv ts' nd' bad' ob' ⟨e1,e2,e3,e4⟩ k2=>by subst e1;subst e2;subst e3;subst e4;exact hg ob' k2) hkt
theorem x_put {B b:Nat}{A:Option Addr}{cap:Nat}{ws ts tq:List Tok}{nd nq:List Nd}{bad bq:Bool}{ob oq:List Blk}{W:World}{Q:Exit->Act->World->Prop}{n:Nat}{c:Xc}(hL:Lent B b A cap ws ts nd bad ob W)(h:List Nat)(R:List Blk)(x:Nd)(hR:Rd b A cap ws tq nq bq oq)(hs:nq.length+tq.length<=10000)
  (hg:∀ ob',Rd b A cap ws tq (nq++[x]) bq ob'->zE (ob.map Blk.b) YP n W Q (xNx (xgo YP n nS h c) (R++ob') (YI (nq.length:Int)))) (hkt:(xgl YP n nS h c,(xgo YP n nS h c).L,(xgo YP n nS h c).top,y5 (xA (xgo YP n nS h c)) n (xgo YP n nS h c).f (xO (xgo YP n nS h c)),mO YP n (xgo YP n nS h c))=(xgr YP n nS h c,R++oq,.ops (xA (xgo YP n nS h c)) (xO (xgo YP n nS h c)::xT (xgo YP n nS h c)),true,λw=> .ok (.enter 354 #[.pointer (some ⟨b,0,none⟩),ndV x]) w):=by kernel_rfl):zE (ob.map Blk.b) YP n W Q c:=
 x_rdC (Rv:=λv ts' nd' bad'=>v=YI (nq.length:Int)/\ts'=tq/\nd'=nq++[x]/\bad'=bq) hL h R hR hs (λw hl=>(r10put_any hl x Om).mono λe w' ⟨ob',k1,k2⟩=>⟨_,_,_,_,ob',k1,⟨rfl,rfl,rfl,rfl⟩,k2⟩) (λv ts' nd' bad' ob' ⟨e1,e2,e3,e4⟩ k2=>by subst e1;subst e2;subst e3;subst e4;exact hg ob' k2) hkt
theorem r10both_any (n:Nat)(hp:tX 372 n (v6 n)):tX 352 n (pAnd n):=by
 refine ⟨λ{B b A cap ws ts nd ob W} hL hln=> ?_⟩
 have hsm:=hL.small
 refine y6 hL.own Tryz.func352 (x_part hp hL [] [] hL.rd hsm hln λz1 ts1 nd1 bd1 ob1 hR1 hG1=> ?_)
 refine zL (α:=Int×List Tok×List Nd×Bool×List Blk) (λ(z,tq,nq,bq,oq)=>[(0,Zp b 0),(3,YI z)]) (λ(z,tq,nq,bq,oq)=>oq) (λ(z,tq,nq,bq,oq) m=>(ChI (v6 n) bQ .both ts nd z tq nq bq/\Rd b A cap ws tq nq bq oq/\nq.length+tq.length<=10000)/\m=tq.length) (z1,ts1,nd1,bd1,ob1) ts1.length [] ⟨⟨ch_start hG1,hR1,Nat.le_trans hG1.1 hsm⟩,rfl⟩ ?_
 rintro ⟨z,tq,nq,bq,oq⟩ m g kk ⟨⟨hch,hRq,hsq⟩,hmm⟩ nx hkk
 subst hkk
 refine zG 10 [] 4 b 3 (.bool bq) (λw hO=>hRq.load (hO.past 0 oq) (λx hx=>hx)) ?_
 cases bq with
 |true=>exact z7 [] (.int .i64 z) (λw hO=>⟨z,tq,nq,true,oq,rfl,⟨hRq,hO.past 0 oq⟩,ch_fell hch⟩)
 |false=>
  refine x_next hL [] [] bQ hRq hsq λob2 hR2=> ?_
  cases h2:kP bQ tq with
  |true=>
   obtain ⟨r,htq,hnr⟩:=qP h2
   have htl:tq.length=r.length+1:=by rw [htq];rfl
   have hnl9:=congrArg List.length hnr
   have h21:=hch.2.1
   refine x_part hp hL [] [] hR2 Om Om λz3 ts3 nd3 bd3 ob3 hR3 hG3=> ?_
   have h31:=hG3.1
   have h32:=hG3.2.1
   exact x_put hL [] [] ⟨3,z,z3,0,[]⟩ hR3 Om λob4 hR4=>(nx ((nd3.length:Int),ts3,nd3++[⟨3,z,z3,0,[]⟩],bd3,ob4) ts3.length [] Om ⟨⟨ch_step (pFac_eats n) mk_both hch htq (hnr▸hG3),hR4,by rw [List.length_append,List.length_singleton];omega⟩,rfl⟩ Kr Kr)
  |false=>exact z7 [] (.int .i64 z) (λw hO=>⟨z,tq,nq,false,ob2,rfl,⟨(jB (of_decide_eq_false h2)).2▸hR2,hO.past 0 ob2⟩,ch_stop hch h2⟩)
theorem r10either_any (n:Nat)(hp:tX 352 n (pAnd n)):tX 318 n (pOr n):=by
 refine ⟨λ{B b A cap ws ts nd ob W} hL hln=> ?_⟩
 have hsm:=hL.small
 refine y6 hL.own Tryz.func318 (x_part hp hL [] [] hL.rd hsm hln λz1 ts1 nd1 bd1 ob1 hR1 hG1=> ?_)
 refine zL (α:=Int×List Tok×List Nd×Bool×List Blk) (λ(z,tq,nq,bq,oq)=>[(0,Zp b 0),(3,YI z)]) (λ(z,tq,nq,bq,oq)=>oq) (λ(z,tq,nq,bq,oq) m=>(ChI (pAnd n) tOr .one ts nd z tq nq bq/\Rd b A cap ws tq nq bq oq/\nq.length+tq.length<=10000)/\m=tq.length) (z1,ts1,nd1,bd1,ob1) ts1.length [] ⟨⟨ch_start hG1,hR1,Nat.le_trans hG1.1 hsm⟩,rfl⟩ ?_
 rintro ⟨z,tq,nq,bq,oq⟩ m g kk ⟨⟨hch,hRq,hsq⟩,hmm⟩ nx hkk
 subst hkk
 refine zG 10 [] 4 b 3 (.bool bq) (λw hO=>hRq.load (hO.past 0 oq) (λx hx=>hx)) ?_
 cases bq with
 |true=>exact z7 [] (.int .i64 z) (λw hO=>⟨z,tq,nq,true,oq,rfl,⟨hRq,hO.past 0 oq⟩,ch_fell hch⟩)
 |false=>
  refine x_next hL [] [] tOr hRq hsq λob2 hR2=> ?_
  cases h2:kP tOr tq with
  |true=>
   obtain ⟨r,htq,hnr⟩:=qP h2
   have htl:tq.length=r.length+1:=by rw [htq];rfl
   have hnl9:=congrArg List.length hnr
   have h21:=hch.2.1
   refine x_part hp hL [] [] hR2 Om Om λz3 ts3 nd3 bd3 ob3 hR3 hG3=> ?_
   have h31:=hG3.1
   have h32:=hG3.2.1
   exact x_put hL [] [] ⟨4,z,z3,0,[]⟩ hR3 Om λob4 hR4=>(nx ((nd3.length:Int),ts3,nd3++[⟨4,z,z3,0,[]⟩],bd3,ob4) ts3.length [] Om ⟨⟨ch_step (pAnd_eats n) mk_one hch htq (hnr▸hG3),hR4,by rw [List.length_append,List.length_singleton];omega⟩,rfl⟩ Kr Kr)
  |false=>exact z7 [] (.int .i64 z) (λw hO=>⟨z,tq,nq,false,ob2,rfl,⟨(jB (of_decide_eq_false h2)).2▸hR2,hO.past 0 ob2⟩,ch_stop hch h2⟩)
end
section
set_option linter.unnecessarySimpa false
def mU (c:Tok):Nat->Int
 |0=> -1
 |i+1=>if yR i=c then (i:Int) else mU c i
theorem keyZ_3 (c:Tok):(keyN c=none/\mU c 3= -1)∨∃ n,keyN c=some n/\mU c 3=(n:Int):=by
 have e:mU c 3=if yR 2=c then (2:Int) else if yR 1=c then (1:Int) else if yR 0=c then (0:Int) else-1:=rfl
 by_cases h0:c=yR 0
 ·subst h0;exact .inr ⟨0,rfl,by decide⟩
 ·by_cases h1:c=yR 1
  ·subst h1;exact .inr ⟨1,rfl,by decide⟩
  ·by_cases h2:c=yR 2
   ·subst h2;exact .inr ⟨2,rfl,by decide⟩
   ·refine .inl ⟨by unfold keyN;rw [if_neg h0,if_neg h1,if_neg h2], ?_⟩
    rw [e,if_neg (λq=>h2 q.symm),if_neg (λq=>h1 q.symm),if_neg (λq=>h0 q.symm)]
theorem keyZ_low (c:Tok):∀ i, -1<=mU c i/\mU c i<3\/3<i
 |0=> .inl ⟨by show (-1:Int)<= -1;omega,by show (-1:Int)<3;omega⟩
 |i+1=>by
  rcases keyZ_low c i with h|h
  ·by_cases hi:3<i+1
   ·exact .inr hi
   ·left
    show-1<=(if yR i=c then (i:Int) else mU c i)/\(if yR i=c then (i:Int) else mU c i)<3
    split<;>omega
  ·exact .inr Om
theorem atom_words {ts:List Tok}(h:wdL (ts.tail.tail.headD [])=true):∃ k s v r,ts=k::s::v::r:=by
 match ts,h with
 | [],h=>cases h
 | [a],h=>cases h
 | [a,b],h=>cases h
 |a::b::c::r,_=>exact ⟨a,b,c,r,rfl⟩
theorem atom_none {ts:List Tok}(h:mU (ts.headD []) 3<0\/wdL (ts.tail.tail.headD [])=false\/(ts.tail.headD []≠tEq/\ts.tail.headD []≠tNe)):vS ts=none:=by
 match ts,h with
 | [],_=>rfl
 | [a],_=>rfl
 | [a,b],_=>rfl
 |k::s::v::r,h=>
  have h':mU k 3<0\/wdL v=false\/(s≠tEq/\s≠tNe):=h
  have:bF k s v=none:=by
   unfold bF
   rcases keyZ_3 k with ⟨q,_⟩|⟨n,q,e⟩
   ·rw [q]
   ·rw [q]
    rcases h' with h'|h'|⟨h1,h2⟩
    ·omega
    ·simp only;rw [if_neg (by rw [h'];simp)]
    ·simp [h1,h2]
  rw [vS,this]
theorem got_none {ts:List Tok}{nd:List Nd}{z:Int}(h:vS ts=none):Got vS ts nd z ts.tail.tail.tail nd true:=by
 refine ⟨?_, ?_,by rw [h]⟩
 ·simp only [List.length_tail];omega
 ·simp only [List.length_tail];omega
theorem atom_key {k:Tok}(h:¬ mU k 3<0):∃ n,keyN k=some n/\mU k 3=(n:Int):=by
 rcases keyZ_3 k with ⟨_,q⟩|h'
 ·omega
 ·exact h'
theorem got_is {ts:List Tok}{nd:List Nd}(h:¬ mU (ts.headD []) 3<0)(hv:wdL (ts.tail.tail.headD [])=true)(hs:ts.tail.headD []=tEq):
  Got vS ts nd (nd.length:Int) ts.tail.tail.tail (nd++[⟨1,0,0,mU (ts.headD []) 3,ts.tail.tail.headD []⟩]) (((false||decide (ts=[]))||decide (ts.tail=[]))||decide (ts.tail.tail=[])):=by
 obtain ⟨k,s,v,r,rfl⟩:=atom_words hv
 obtain ⟨n,h1,h2⟩:=atom_key h
 have hv:wdL v=true:=hv
 have hs:s=tEq:=hs
 have e:bF k s v=some (.is n v):=by
  unfold bF
  rw [show keyN k=some n from h1]
  simp only
  rw [if_pos hv,if_pos hs]
 refine ⟨by simp;omega,by simp;omega, ?_⟩
 rw [vS,e]
 refine ⟨by simp,rfl,by rw [h2];rfl, ?_⟩
 show (nd.length:Int)=((nd.length+1-1:Nat):Int)
 rw [Nat.add_sub_cancel]
theorem got_isnot {ts:List Tok}{nd:List Nd}(h:¬ mU (ts.headD []) 3<0)(hv:wdL (ts.tail.tail.headD [])=true)(hs:ts.tail.headD []=tNe):
  Got vS ts nd ((nd++[(⟨1,0,0,mU (ts.headD []) 3,ts.tail.tail.headD []⟩:Nd)]).length:Int) ts.tail.tail.tail (nd++[⟨1,0,0,mU (ts.headD []) 3,ts.tail.tail.headD []⟩]++[⟨2,(nd.length:Int),0,0,[]⟩]) (((false||decide (ts=[]))||decide (ts.tail=[]))||decide (ts.tail.tail=[])):=by
 obtain ⟨k,s,v,r,rfl⟩:=atom_words hv
 obtain ⟨n,h1,h2⟩:=atom_key h
 have hv:wdL v=true:=hv
 have hs:s=tNe:=hs
 have e:bF k s v=some (.no (.is n v)):=by
  unfold bF
  rw [show keyN k=some n from h1]
  simp only
  rw [if_pos hv,if_neg (by rw [show s=tNe from hs];decide),if_pos hs]
 refine ⟨by simp;omega,by simp;omega, ?_⟩
 rw [vS,e]
 refine ⟨by simp,rfl, ?_, ?_⟩
 ·rw [h2]
  show _=nd++([⟨1,0,0,(n:Int),v⟩]++[⟨2,((nd.length+1-1:Nat):Int),0,0,[]⟩])
  rw [Nat.add_sub_cancel];simp
 ·show ((nd++[_]).length:Int)=((nd.length+(1+1) -1:Nat):Int)
  rw [List.length_append];simp;try omega
theorem got_not {n:Nat}{ts r ts2:List Tok}{nd nd2:List Nd}{z:Int}{bad2:Bool}(htq:ts=qV::r)(h:Got (v6 n) r nd z ts2 nd2 bad2):Got (v6 (n+1)) ts nd (nd2.length:Int) ts2 (nd2++[⟨2,z,0,0,[]⟩]) bad2:=by
 subst htq
 obtain ⟨h1,h2,h3⟩:=h
 refine ⟨by rw [List.length_append,List.length_singleton,List.length_cons];omega,by rw [List.length_cons];omega, ?_⟩
 rw [pFac_not]
 cases hp:v6 n r with
 |none=>rw [hp] at h3;exact h3
 |some x=>
  obtain ⟨t,r'⟩:=x
  rw [hp] at h3
  obtain ⟨hb,hr,hn,hz⟩:=h3
  have hz1:=t.sz_pos
  refine ⟨hb,hr, ?_, ?_⟩
  ·rw [hn,hz];show _=nd++(t.enc nd.length++[⟨2,((nd.length+t.sz-1:Nat):Int),0,0,[]⟩]);simp
  ·rw [hn,List.length_append,Tr.enc_len];show ((nd.length+t.sz:Nat):Int)=((nd.length+(t.sz+1) -1:Nat):Int);congr 1
theorem got_close {n:Nat}{ts r ts2:List Tok}{nd nd2:List Nd}{z:Int}{bad2:Bool}(htq:ts=xF::r)(h:Got (pOr n) r nd z ts2 nd2 bad2)(hc:kP xH ts2=true):Got (v6 (n+1)) ts nd z (wA xH ts2) nd2 bad2:=by
 subst htq
 obtain ⟨h1,h2,h3⟩:=h
 obtain ⟨r2,e1,e2⟩:=qP hc
 rw [e2]
 have hl:ts2.length=r2.length+1:=by rw [e1];rfl
 refine ⟨by rw [List.length_cons];omega,by rw [List.length_cons];omega, ?_⟩
 rw [nK]
 cases hp:pOr n r with
 |none=>rw [hp] at h3;exact h3
 |some x=>
  obtain ⟨t,r'⟩:=x
  rw [hp] at h3
  obtain ⟨hb,hr,hn,hz⟩:=h3
  have:r'=xH::r2:=by rw [←hr,e1]
  subst this
  rw [show mQ (some (t,xH::r2))=some (t,r2) from by rw [mQ,if_pos rfl]]
  exact ⟨hb,rfl,hn,hz⟩
theorem got_unclosed {n:Nat}{ts r ts2:List Tok}{nd nd2:List Nd}{z:Int}{bad2:Bool}(htq:ts=xF::r)(h:Got (pOr n) r nd z ts2 nd2 bad2)(hc:kP xH ts2=false):Got (v6 (n+1)) ts nd z (wA xH ts2) nd2 true:=by
 subst htq
 obtain ⟨h1,h2,h3⟩:=h
 have hne:=of_decide_eq_false hc
 rw [(jB hne).2]
 refine ⟨by rw [List.length_cons];omega,by rw [List.length_cons];omega, ?_⟩
 rw [nK]
 cases hp:pOr n r with
 |none=>rfl
 |some x=>
  obtain ⟨t,r'⟩:=x
  rw [hp] at h3
  obtain ⟨hb,hr,hn,hz⟩:=h3
  subst hr
  cases ts2 with
  |nil=>rfl
  |cons d q=>
   rw [mQ,if_neg (λe=>hne (by rw [e];rfl))]
theorem r10atom_any (n:Nat):tX 385 n vS:=by
 refine ⟨λ{B b A cap ws ts nd ob W} hL hln=> ?_⟩
 have hwl:∀ x:Tok,x=ts.tail.tail.headD []->x.length<=1000000:=λx hx=>by
  subst hx
  obtain ⟨pre,C,cc,g,hws,_,_⟩:=hL.rd
  match ts,hws with
  | [],_=>simp
  | [a],_=>simp
  | [a,b],_=>simp
  |a::b::c::r,hws=>exact hL.short c (by rw [hws];simp)
 have hsm:=hL.small
 have l1:=List.length_tail (l:=ts)
 have l2:=List.length_tail (l:=ts.tail)
 have l3:=List.length_tail (l:=ts.tail.tail)
 refine y6 hL.own Tryz.func385 (x_takeC hL [] [] hL.rd hsm λob1 hR1=>x_takeC hL [] [] hR1 Om λob2 hR2=>x_takeC hL [] [] hR2 Om λob3 hR3=>zB [] λb1=> ?_)
 obtain ⟨pre9,C9,c9,g9,hws9,rfl,hsl9⟩:=hR3
 refine zL (α:=Nat×Int) (λ(i,q)=>[(0,Zp b 0),(3,.string (mkS (ts.headD []))),(4,.string (mkS (ts.tail.headD []))),(5,.string (mkS (ts.tail.tail.headD []))),(6,Zp b1 0),(7,YI (i:Int))]) (λ(i,q)=>⟨b1, #[YI 1,YI 0,YI 0,YI q,.string (mkS (ts.tail.tail.headD []))],312⟩::⟨b, #[.slice A ws.length cap,YI ((pre9.length:Nat):Int),.slice C9 nd.length c9,.bool (((false||decide (ts=[]))||decide (ts.tail=[]))||decide (ts.tail.tail=[]))],320⟩::g9) (λ(i,q) m=>(i<=3/\q=mU (ts.headD []) i)/\m=3-i) (0, -1) (3-0) [0] ⟨⟨by omega,rfl⟩,rfl⟩ ?_
 rintro ⟨i,q⟩ m g kk ⟨⟨hi6,hq⟩,hmm⟩ nx hkk
 subst hkk
 by_cases h1:(i:Int)<3
 ·have hi3:i<3:=by omega
  have hE:∀ z:Int,z=(if yR i=ts.headD [] then (i:Int) else mU (ts.headD []) i)->z=mU (ts.headD []) (i+1):=λz h=>h
  exact zA 18 [] ((i:Int)<3) (λ_=>z6 (k:=374) (args:= #[YI (i:Int)]) (v:= .string (mkS (yR i))) [] (λw _=>r10key_any i hi3 w) (yS 24 [] (yR i) (ts.headD []) (λh2=>x_i 20 [0] ((i+1:Nat):Int) (nx (i+1,(i:Int)) (3-(i+1)) [] Om ⟨⟨by omega,hE _ (if_pos h2).symm⟩,rfl⟩ Kr Kr)) (λh2=>x_i 20 [] ((i+1:Nat):Int) (nx (i+1,q) (3-(i+1)) [] Om ⟨⟨by omega,hE _ (by rw [if_neg h2,hq])⟩,rfl⟩ Kr Kr)))) (λh=>absurd h1 h)
 ·obtain rfl:i=3:=by omega
  have hF:(mU (ts.headD []) 3<0\/wdL (ts.tail.tail.headD [])=false\/(ts.tail.headD []≠tEq/\ts.tail.headD []≠tNe))→∀ w,Own (ob.map Blk.b) W w (⟨b1, #[YI 1,YI 0,YI 0,YI q,.string (mkS (ts.tail.tail.headD []))],312⟩::⟨b, #[.slice A ws.length cap,YI ((pre9.length:Nat):Int),.slice C9 nd.length c9,.bool true],320⟩::g9)→∃ z ts' nd' bad' ob',Ending.returned (YI 0)= .returned (YI z)/\Back b A cap ws ts' nd' bad' ob ob' W w/\Got vS ts nd z ts' nd' bad':=λh w hO=>⟨0,_,_,true,⟨b, #[.slice A ws.length cap,YI ((pre9.length:Nat):Int),.slice C9 nd.length c9,.bool true],320⟩::g9,rfl,⟨⟨pre9,C9,c9,g9,hws9,rfl,hsl9⟩,hO.past 1 _⟩,got_none (atom_none h)⟩
  refine zA 18 [] (((3:Nat):Int)<3) (λh=>absurd h h1) (λ_=>zA 29 [0] (q<0) (λh3=>z7 [1] (YI 0) (λw hO=>hF (.inl (by rw [←hq];exact h3)) w (hO.past 0 (⟨b1, #[YI 1,YI 0,YI 0,YI q,.string (mkS (ts.tail.tail.headD []))],312⟩::⟨b, #[.slice A ws.length cap,YI ((pre9.length:Nat):Int),.slice C9 nd.length c9,.bool true],320⟩::g9)))) (λh3=>z6 (k:=245) (args:= #[.string (mkS (ts.tail.tail.headD []))]) (v:= .bool (wdL (ts.tail.tail.headD []))) [] (λw _=>jM _ w (hwl _ rfl)) ?_))
  cases h4:wdL (ts.tail.tail.headD []) with
  |false=>exact z7 [1] (.int .i64 0) (λw hO=>hF (.inr (.inl h4)) w (hO.past 0 (⟨b1, #[.int .i64 1,.int .i64 0,.int .i64 0,.int .i64 q,.string (mkS (ts.tail.tail.headD []))],312⟩::⟨b, #[.slice A ws.length cap,.int .i64 ((pre9.length:Nat):Int),.slice C9 nd.length c9,.bool true],320⟩::g9)))
  |true=>
   have h3w:3<=ts.length:=by obtain ⟨k9,s9,v9,r9,e9⟩:=atom_words h4;rw [e9];simp
   refine gR 37 [] (ts.tail.headD []) [61] (λh5=> ?_) (λh5=>gR 40 [] (ts.tail.headD []) [33,61] (λh7=> ?_) (λh7=>z7 [1] (YI 0) (λw hO=>hF (.inr (.inr ⟨h5,h7⟩)) w (hO.past 0 (⟨b1, #[YI 1,YI 0,YI 0,YI q,.string (mkS (ts.tail.tail.headD []))],312⟩::⟨b, #[.slice A ws.length cap,YI ((pre9.length:Nat):Int),.slice C9 nd.length c9,.bool true],320⟩::g9)))))
   ·exact x_put hL [0] [⟨b1, #[YI 1,YI 0,YI 0,YI q,.string (mkS (ts.tail.tail.headD []))],312⟩] ⟨1,0,0,q,ts.tail.tail.headD []⟩ ⟨pre9,C9,c9,g9,hws9,rfl,hsl9⟩ Om λob4 hR4=>yS 50 [] (ts.tail.headD []) [33,61] (λh6=>absurd (h5.symm.trans h6) (by decide)) (λ_=>z7 [] (YI (nd.length:Int)) (λw hO=>⟨_,_,_,_,ob4,rfl,⟨hR4,hO.past 1 ob4⟩,by rw [hq];exact got_is (by rw [←hq];exact h3) h4 h5⟩))
   ·refine x_put hL [0] [⟨b1, #[YI 1,YI 0,YI 0,YI q,.string (mkS (ts.tail.tail.headD []))],312⟩] ⟨1,0,0,q,ts.tail.tail.headD []⟩ ⟨pre9,C9,c9,g9,hws9,rfl,hsl9⟩ Om λob4 hR4=>yS 50 [] (ts.tail.headD []) [33,61] (λ_=>x_put hL [] [⟨b1, #[YI 1,YI 0,YI 0,YI q,.string (mkS (ts.tail.tail.headD []))],312⟩] ⟨2,(nd.length:Int),0,0,[]⟩ hR4 (by rw [List.length_append,List.length_singleton];omega) λob5 hR5=>z7 [] (YI ((nd++[(⟨1,0,0,q,ts.tail.tail.headD []⟩:Nd)]).length:Int)) (λw hO=>⟨_,_,_,_,ob5,rfl,⟨hR5,hO.past 1 ob5⟩,by rw [hq];exact got_isnot (by rw [←hq];exact h3) h4 h7⟩)) (λh=>absurd h7 h)
theorem r10fac_step (n:Nat)(hf:∀ k,k+1=n->tX 372 k (v6 k))(he:∀ k,k+1=n->tX 318 k (pOr k)):tX 372 n (v6 n):=by
 refine ⟨λ{B b A cap ws ts nd ob W} hL hln=> ?_⟩
 have hsm:=hL.small
 refine y6 hL.own Tryz.func372 (zG 8 [] 4 b 3 Z5 (λw hO=>hL.rd.load (hO.past 0 ob) (λx hx=>hx)) (x_next hL [] [] qV hL.rd hsm λob1 hR1=> ?_))
 cases h1:kP qV ts with
 |true=>
  obtain ⟨r,htq,hnr⟩:=qP h1
  have htl:ts.length=r.length+1:=by rw [htq];rfl
  have hnl9:=congrArg List.length hnr
  obtain ⟨k,rfl⟩:∃ k,n=k+1:=⟨n-1,by omega⟩
  refine x_part (hf k rfl) hL [] [] hR1 Om Om λz2 ts2 nd2 bd2 ob2 hR2 hG2=> ?_
  have h21:=hG2.1
  have h22:=hG2.2.1
  exact x_put hL [] [] ⟨2,z2,0,0,[]⟩ hR2 Om λob3 hR3=>z7 [] (YI (nd2.length:Int)) (λw hO=>⟨_,_,_,_,ob3,rfl,⟨hR3,hO.past 0 ob3⟩,got_not htq (hnr▸hG2)⟩)
 |false=>
  rw [(jB (of_decide_eq_false h1)).2] at hR1
  refine x_next hL [] [] xF hR1 hsm λob2 hR2=> ?_
  cases h2:kP xF ts with
  |true=>
   obtain ⟨r,htq,hnr⟩:=qP h2
   have htl:ts.length=r.length+1:=by rw [htq];rfl
   have hnl9:=congrArg List.length hnr
   obtain ⟨k,rfl⟩:∃ k,n=k+1:=⟨n-1,by omega⟩
   refine x_part (he k rfl) hL [] [] hR2 Om Om λz3 ts3 nd3 bd3 ob3 hR3 hG3=> ?_
   have h31:=hG3.1
   refine x_next hL [] [] xH hR3 Om λob4 hR4=> ?_
   obtain ⟨pre9,C9,c9,g9,hws9,rfl,hsl9⟩:=hR4
   cases h3:kP xH ts3 with
   |true=>exact z7 [] (.int .i64 z3) (λw hO=>⟨_,_,_,_,⟨b, #[.slice A ws.length cap,.int .i64 ((pre9.length:Nat):Int),.slice C9 nd3.length c9,.bool bd3],320⟩::g9,rfl,⟨⟨pre9,C9,c9,g9,hws9,rfl,hsl9⟩,hO.past 0 _⟩,got_close htq (hnr▸hG3) h3⟩)
   |false=>exact z7 [0] (.int .i64 z3) (λw hO=>⟨_,_,_,true,⟨b, #[.slice A ws.length cap,.int .i64 ((pre9.length:Nat):Int),.slice C9 nd3.length c9,.bool true],320⟩::g9,rfl,⟨⟨pre9,C9,c9,g9,hws9,rfl,hsl9⟩,hO.past 0 _⟩,got_unclosed htq (hnr▸hG3) h3⟩)
  |false=>
   rw [(jB (of_decide_eq_false h2)).2] at hR2
   exact x_part (r10atom_any n) hL [] [] hR2 hsm hln λz3 ts3 nd3 bd3 ob3 hR3 hG3=>z7 [] (YI z3) (λw hO=>⟨_,_,_,_,ob3,rfl,⟨hR3,hO.past 0 ob3⟩,by unfold Got at hG3 ⊢;rw [pfac_atom h1 h2 hln];exact hG3⟩)
theorem r10fac_any:∀ n,tX 372 n (v6 n)
 |0=>r10fac_step 0 (λk h=>absurd h Om) (λk h=>absurd h Om)
 |n+1=>by
  have ih:=r10fac_any n
  refine r10fac_step (n+1) (λk h=> ?_) (λk h=> ?_)
  ·obtain rfl:k=n:=by omega
   exact ih
  ·obtain rfl:k=n:=by omega
   exact r10either_any k (r10both_any k ih)
theorem r10eitherP (n:Nat):tX 318 n (pOr n):=r10either_any n (r10both_any n (r10fac_any n))
end
section
set_option linter.unnecessarySimpa false
theorem bE:∀ (t:Tr) (o:Nat),t.ok=true→∀ n∈t.enc o,n.text.length<=12
 | .is k v,o,h,n,hn=>by
  unfold Tr.ok at h
  simp only [Bool.and_eq_true,decide_eq_true_eq] at h
  rw [Tr.enc,List.mem_singleton] at hn
  rw [hn];exact word_short h.2
 | .no x,o,h,n,hn=>by
  rw [Tr.enc] at hn
  rcases List.mem_append.1 hn with hn|hn
  ·exact bE x o h n hn
  ·rw [List.mem_singleton.1 hn];simp
 | .both x y,o,h,n,hn=>by
  unfold Tr.ok at h
  rw [Bool.and_eq_true] at h
  rw [Tr.enc] at hn
  rcases List.mem_append.1 hn with hn|hn
  ·rcases List.mem_append.1 hn with hn|hn
   ·exact bE x o h.1 n hn
   ·exact bE y _ h.2 n hn
  ·rw [List.mem_singleton.1 hn];simp
 | .one x y,o,h,n,hn=>by
  unfold Tr.ok at h
  rw [Bool.and_eq_true] at h
  rw [Tr.enc] at hn
  rcases List.mem_append.1 hn with hn|hn
  ·rcases List.mem_append.1 hn with hn|hn
   ·exact bE x o h.1 n hn
   ·exact bE y _ h.2 n hn
  ·rw [List.mem_singleton.1 hn];simp
theorem words_short {s:YL}:∀ x∈y4 s,x.length<=s.length:=λx hx=>by have:=tG 32 s [] x hx;simpa using this
theorem gO {s:YL}(h1:¬ 96<s.length)(h2:¬ s=[]):nY s=(match gX s with|some _=>0|none=>7)/\gZ s=(match gX s with|some t=>t.enc 0|none=>[]):=by
 unfold nY gZ
 rw [if_neg h1,if_neg h1,if_neg h2,if_neg h2];exact ⟨rfl,rfl⟩
theorem got_fell {s:YL}{z:Int}{ts':List Tok}{nd':List Nd}(h:Got (pOr (y4 s).length) (y4 s) [] z ts' nd' true):gX s=none:=by
 unfold gX
 obtain ⟨_,_,h3⟩:=h
 cases hp:pOr (y4 s).length (y4 s) with
 |none=>rfl
 |some x=>rw [hp] at h3;cases h3.1
theorem got_more {s:YL}{z:Int}{ts':List Tok}{nd':List Nd}{bad':Bool}(h:Got (pOr (y4 s).length) (y4 s) [] z ts' nd' bad')(hn:ts'≠[]):gX s=none:=by
 unfold gX
 obtain ⟨_,_,h3⟩:=h
 cases hp:pOr (y4 s).length (y4 s) with
 |none=>rfl
 |some x=>
  obtain ⟨t,r⟩:=x
  rw [hp] at h3
  obtain ⟨_,hr,_⟩:=h3
  subst hr
  cases ts' with
  |nil=>exact absurd rfl hn
  |cons c q=>rfl
theorem got_all {s:YL}{z:Int}{nd':List Nd}(h:Got (pOr (y4 s).length) (y4 s) [] z [] nd' false):∃ t:Tr,t.ok=true/\nd'=t.enc 0/\gX s=if t.fit then some t else none:=by
 unfold gX
 obtain ⟨_,_,h3⟩:=h
 cases hp:pOr (y4 s).length (y4 s) with
 |none=>rw [hp] at h3;cases h3
 |some x=>
  obtain ⟨t,r⟩:=x
  rw [hp] at h3
  obtain ⟨_,hr,hn,_⟩:=h3
  subst hr
  exact ⟨t,pOr_ok _ _ _ _ hp,by simpa using hn,rfl⟩
theorem r10Parse_any (s:YL)(W:World)(hs:s.length<=1000000):YC 283 #[.string (mkS s)] W λe w'=>∃ v' ob',e= .returned (.tuple #[.agg #[v'],YI (nY s)])/\SlN v' (gZ s) ob'/\Own [] W w' ob':=by
 have hwn:(y4 s).length<=s.length+1:=splitL_many10 32 s []
 have hZ:=λ{z:Int} (h1:nY s=z) (h2:gZ s=[]) (w:World) (hb:Own [] W w [])=>show ∃ v' ob',Ending.returned (.tuple #[.agg #[.slice none 0 0],YI z])= .returned (.tuple #[.agg #[v'],YI (nY s)])/\SlN v' (gZ s) ob'/\Own [] W w ob' from ⟨_,[],by rw [h1],by rw [h2];exact Sl.nil _ _,hb⟩
 refine z8 Tryz.func283 (zB [] λb1=>zA 8 [] ((96:Int)<(s.length:Int)) (λh1=>zS [0] 0 (.agg #[.slice none 0 0]) (YI 3) λw hO=>hZ (show nY s=3 from if_pos Om) (show gZ s=[] from if_pos Om) w (hO.no)) (λh1=>yS 11 [] s [] (λh2=>zS [0] 0 (.agg #[.slice none 0 0]) (YI 0) λw hO=>hZ (show nY s=0 from by unfold nY;rw [if_neg Om,if_pos h2]) (show gZ s=[] from by unfold gZ;rw [if_neg Om,if_pos h2]) w (hO.no)) (λh2=>yC (R:=λv' ob'=>SlT v' (y4 s) ob') [] (λw hO=>rsplitB_own s 32 w hs) ?_)))
 intro vw ow hsw
 have h96:¬ 96<s.length:=by omega
 obtain ⟨AW,cw,rfl⟩:=SlT.form hsw
 refine x_in [] (λ_=>((⟨b1, #[.slice none 0 0],254⟩::ow).map Blk.b)) (⟨b1, #[.slice none 0 0],254⟩::ow) (λw1 hO1=> ?_)
 have hO2:=hO1.past 0 (⟨b1, #[.slice none 0 0],254⟩::ow)
 clear hO1
 refine ⟨Own.lend hO2, ?_⟩
 have hw1:Reads y7 w1 w1.heap.size AW (y4 s):=SlT.reads hsw rfl hO2 (λx hx=>List.mem_cons_of_mem _ hx)
 have hJ:∀ w L,Own ((⟨b1, #[.slice none 0 0],254⟩::ow).map Blk.b) w1 w L->Own [] W w L:=λw L hO=>by have q:=Own.join (R:=[]) (by rw [List.append_nil];exact hO2) hO;rwa [List.append_nil] at q
 refine zQ [] λb2=> ?_
 have hRd0:Rd b2 AW cw (y4 s) (y4 s) [] false [⟨b2, #[.slice AW (y4 s).length cw,YI 0,.slice none 0 0,.bool false],320⟩]:=⟨[],none,0,[],rfl,rfl,Sl.nil _ _⟩
 refine x_callO (k:=318) (args:= #[Zp b2 0]) (Rr:=λv' L'=>∃ z ts' nd' bad' ob',v'=YI z/\L'=ob'++(⟨b1, #[.slice none 0 0],254⟩::ow)/\Rd b2 AW cw (y4 s) ts' nd' bad' ob'/\Got (pOr (y4 s).length) (y4 s) [] z ts' nd' bad') [] (⟨b2, #[.slice AW (y4 s).length cw,YI 0,.slice none 0 0,.bool false],320⟩::⟨b1, #[.slice none 0 0],254⟩::ow) (λw hO=> ?_) ?_
 ·have hO':Own ((⟨b1, #[.slice none 0 0],254⟩::ow).map Blk.b) w1 w ([⟨b2, #[.slice AW (y4 s).length cw,YI 0,.slice none 0 0,.bool false],320⟩]++(⟨b1, #[.slice none 0 0],254⟩::ow)):=hO
  exact ((r10eitherP (y4 s).length).go (⟨hRd0,Own.lent hO',own_new hO',hO'.size,Reads.bound (SlT.reads hsw rfl hO' (λx hx=>List.mem_append_right _ (List.mem_cons_of_mem _ hx))) hw1,λx hx=>Nat.le_trans (words_short x hx) hs,by omega,by simp only [List.length_nil];omega⟩:Lent w1.heap.size b2 AW cw (y4 s) (y4 s) [] false [⟨b2, #[.slice AW (y4 s).length cw,YI 0,.slice none 0 0,.bool false],320⟩] w) (Nat.le_refl _)).mono λe w' ⟨z,ts',nd',bad',ob',k1,k2,k3⟩=>⟨_,_,k1,⟨z,ts',nd',bad',ob',rfl,rfl,k2.rd,k3⟩,Own.join hO' k2.own⟩
 rintro ve Le ⟨z,ts2,nd2,bd,obe,rfl,rfl,⟨pre,C,cc,g,hpw,rfl,hsl⟩,hG⟩
 have hnw:nd2.length<=1000:=by have q:=hG.1;simp only [List.length_nil] at q;omega
 refine zK [0] (⟨b1, #[.slice none 0 0],254⟩::⟨b2, #[.slice AW (y4 s).length cw,YI ((pre.length:Nat):Int),.slice C nd2.length cc,.bool bd],320⟩::(g++ow)) (λw hO=>(hO.past 0 (⟨b2, #[.slice AW (y4 s).length cw,YI ((pre.length:Nat):Int),.slice C nd2.length cc,.bool bd],320⟩::(g++⟨b1, #[.slice none 0 0],254⟩::ow))).perm (List.Perm.trans (List.Perm.cons _ List.perm_middle) (List.Perm.swap _ _ _))) (zB [] λb3=> ?_)
 cases bd with
 |true=>exact zS [0,2,1] 1 (.agg #[.slice none 0 0]) (.int .i64 7) λw hO=>hZ (by rw [(gO h96 h2).1,show gX s=none from got_fell hG]) (by rw [(gO h96 h2).2,show gX s=none from got_fell hG]) w (hJ w _ hO.no)
 |false=>
  refine zA 38 [0,2,2,2] (((pre.length:Nat):Int)<((y4 s).length:Int)) (λh4=> ?_) (λh4=> ?_)
  ·have hne:ts2≠[]:=λq=>by rw [q] at hpw;have:=congrArg List.length hpw;simp at this;omega
   exact zS [1] 1 (.agg #[.slice none 0 0]) (YI 7) λw hO=>hZ (by rw [(gO h96 h2).1,show gX s=none from got_more hG hne]) (by rw [(gO h96 h2).2,show gX s=none from got_more hG hne]) w (hJ w _ hO.no)
  ·have hts:ts2=[]:=by cases ts2 with|nil=>rfl|cons c r=>have:=congrArg List.length hpw;simp at this;omega
   rw [hts] at hG
   obtain ⟨t,hok,hnd,hrd⟩:=got_all hG
   have hnt:∀ n∈nd2,n.text.length<=1000000:=λn hn=>by rw [hnd] at hn;have:=bE t 0 hok n hn;omega
   refine z6 (k:=319) (args:= #[.agg #[.slice C nd2.length cc]]) (v:= .bool (dQ nd2)) [0] (λw hO=>r10May_any C cc nd2 w (Sl.reads hsl rfl (hO.past 3 (g++ow)) (λx hx=>List.mem_append_left _ hx)) hnw hnt) ?_
   cases h5:dQ nd2 with
   |false=>exact zS [1] 1 (.agg #[.slice none 0 0]) (.int .i64 7) λw hO=>hZ (by rw [(gO h96 h2).1,show gX s=none from by rw [hrd,if_neg (by rw [←fit_may hok,←hnd,h5];simp)]]) (by rw [(gO h96 h2).2,show gX s=none from by rw [hrd,if_neg (by rw [←fit_may hok,←hnd,h5];simp)]]) w (hJ w _ hO.no)
   |true=>
    have hr:gX s=some t:=by rw [hrd,if_pos (by rw [←fit_may hok,←hnd];exact h5)]
    exact zS [0,1] 1 (.agg #[.slice C nd2.length cc]) (YI 0) λw hO=>⟨_,g,by rw [(gO h96 h2).1,hr],by rw [(gO h96 h2).2,hr];show SlN _ (t.enc 0) g;rw [←hnd];exact hsl,(hJ w _ (hO.past 3 (g++ow))).sublist (List.sublist_append_left _ _)⟩
end
section
set_option linter.unnecessarySimpa false
def Tr.sts:Nat->Tr->List Nat
 |o,.is _ _=>[o]
 |o,.no x=>x.sts o++[o]
 |o,.both x y=>x.sts o++y.sts (o+x.sz)++[o]
 |o,.one x y=>x.sts o++y.sts (o+x.sz)++[o]
theorem Tr.sts_len:∀ (t:Tr) (o:Nat),(t.sts o).length=t.sz
 | .is _ _,_=>rfl
 | .no x,o=>by rw [sts,List.length_append,sts_len x o];rfl
 | .both x y,o=>by rw [sts,List.length_append,List.length_append,sts_len x o,sts_len y _];rfl
 | .one x y,o=>by rw [sts,List.length_append,List.length_append,sts_len x o,sts_len y _];rfl
theorem snoc_last {α:Type}(l:List α)(x:α){k:Nat}(h:k=l.length):(l++[x])[k]?=some x:=by subst h;simp
theorem Tr.sts_last:∀ (t:Tr) (o:Nat),(t.sts o)[t.sz-1]?=some o
 | .is _ _,_=>rfl
 | .no x,o=>snoc_last _ _ (by rw [sts_len];rfl)
 | .both x y,o=>snoc_last _ _ (by rw [List.length_append,sts_len,sts_len];rfl)
 | .one x y,o=>snoc_last _ _ (by rw [List.length_append,sts_len,sts_len];rfl)
def FS:List (Nat×Tr)->Nat->List Nat->Prop
 | [],i,F=>i=0/\F=[]
 |p::r,i,F=>∃ i0 F0,FS r i0 F0/\i=i0+p.2.sz/\p.1=i-1/\F=F0++p.2.sts i0
theorem FS.len:∀ {st:List (Nat×Tr)} {i:Nat} {F:List Nat},FS st i F->F.length=i
 | [],i,F,h=>by obtain ⟨rfl,rfl⟩:=h;rfl
 |p::r,i,F,h=>by
  obtain ⟨i0,F0,h0,rfl,_,rfl⟩:=h
  rw [List.length_append,Tr.sts_len,h0.len]
theorem fs_last {F0:List Nat}{t:Tr}{i0:Nat}(h:F0.length=i0):(F0++t.sts i0)[i0+t.sz-1]?=some i0:=by
 have hz:=t.sz_pos
 rw [List.getElem?_append_right Om,h,show i0+t.sz-1-i0=t.sz-1 by omega,Tr.sts_last]
theorem FS.cons {st:List (Nat×Tr)}{i:Nat}{F:List Nat}(h:FS st i F)(hi:¬ i=0):∃ p r,st=p::r:=by
 cases st with
 |nil=>exact absurd h.1 hi
 |cons p r=>exact ⟨p,r,rfl⟩
theorem FS.top {p:Nat×Tr}{r:List (Nat×Tr)}{i:Nat}{F:List Nat}(h:FS (p::r) i F):∃ i0 F0,FS r i0 F0/\i=i0+p.2.sz/\p.1=i-1/\F=F0++p.2.sts i0/\F[i-1]?=some i0:=by
 obtain ⟨i0,F0,h0,rfl,h1,rfl⟩:=h
 exact ⟨i0,F0,h0,rfl,h1,rfl,fs_last h0.len⟩
theorem FS.two {p:Nat×Tr}{r:List (Nat×Tr)}{i i0:Nat}{F:List Nat}(h:FS (p::r) i F)(hi:F[i-1]?=some i0)(h0:¬ i0=0):∃ q s j,r=q::s/\q.1=i0-1/\F[i0-1]?=some j∧∀ t:Tr,t.sts j=q.2.sts j++p.2.sts i0++[j]->t.sz=q.2.sz+p.2.sz+1->FS ((i,t)::s) (i+1) (F++[j]):=by
 obtain ⟨k,F0,h1,h2,h3,h4,h5⟩:=h.top
 rw [h5] at hi
 obtain rfl:=Option.some.inj hi
 cases r with
 |nil=>exact absurd h1.1 h0
 |cons q s=>
  obtain ⟨j,F1,g1,g2,g3,g4,g5⟩:=h1.top
  have hk:=h1.len
  have hz:=p.2.sz_pos
  refine ⟨q,s,j,rfl,g3, ?_,λt ht hs=>⟨j,F1,g1, ?_,rfl, ?_⟩⟩
  ·have hz2:=q.2.sz_pos
   rw [h4,List.getElem?_append_left Om];exact g5
  ·show i+1=j+t.sz;omega
  ·show F++[j]=F1++t.sts j
   rw [ht,h4,g4];simp
theorem FS.leaf {st:List (Nat×Tr)}{i:Nat}{F:List Nat}(h:FS st i F)(k:Nat)(v:YL):FS ((i,.is k v)::st) (i+1) (F++[i]):=⟨i,F,h,rfl,rfl,rfl⟩
theorem FS.no {p:Nat×Tr}{r:List (Nat×Tr)}{i i0:Nat}{F:List Nat}(h:FS (p::r) i F)(hi:F[i-1]?=some i0):FS ((i,.no p.2)::r) (i+1) (F++[i0]):=by
 obtain ⟨k,F0,h1,h2,h3,h4,h5⟩:=h.top
 rw [h5] at hi
 obtain rfl:=Option.some.inj hi
 refine ⟨k,F0,h1, ?_,rfl, ?_⟩
 ·show i+1=k+(p.2.sz+1);omega
 ·show F++[k]=F0++(p.2.sts k++[k]);rw [h4];simp
def wR (l:List Nd):Bool:=decide (l.length<=15) && (jI l).isSome
theorem mI {n:Nd}(h:¬ n.op=1):xR n=false:=stp_bare (o:=0) (i:=0) (j:=0) (st:=[]) h
theorem ck_leaf {st:List (Nat×Tr)}{i:Nat}{n:Nd}{F:List Nat}(h:FS st i F)(hl:xR n=true):∃ s,stp i st n=some s/\FS s (i+1) (F++[i]):=⟨_,stp_leaf hl,h.leaf _ _⟩
theorem ck_bad {st:List (Nat×Tr)}{i:Nat}{n:Nd}(ho:n.op=1)(hl:xR n=false):stp i st n=none:=tF hl (op_not Om) (op_bin Om Om)
theorem ck_else {st:List (Nat×Tr)}{i:Nat}{n:Nd}(h1:¬ n.op=1)(h2:¬ n.op=2)(h3:¬ n.op=3)(h4:¬ n.op=4):stp i st n=none:=tF (mI h1) (op_not h2) (op_bin h3 h4)
theorem ck_not0 {st:List (Nat×Tr)}{i:Nat}{n:Nd}{F:List Nat}(h:FS st i F)(ho:n.op=2)(hi:i=0):stp i st n=none:=by
 cases st with
 |nil=>exact tF (mI Om) rfl rfl
 |cons p r=>obtain ⟨k,F0,h1,h2,_⟩:=h.top;have:=p.2.sz_pos;omega
theorem ck_not {st:List (Nat×Tr)}{i i0:Nat}{n:Nd}{F:List Nat}(h:FS st i F)(ho:n.op=2)(hi:¬ i=0)(hF:F[i-1]?=some i0)(he:n=⟨n.op,(i:Int) -1,0,0,[]⟩):∃ s,stp i st n=some s/\FS s (i+1) (F++[i0]):=by
 obtain ⟨p,r,rfl⟩:=h.cons hi
 obtain ⟨k,F0,h1,h2,h3,_⟩:=h.top
 have hb:jS (p::r) n=true:=by
  rw [he];unfold jS dU;simp [ho];omega
 exact ⟨_,stp_not (mI Om) hb,h.no hF⟩
theorem ck_notno {st:List (Nat×Tr)}{i:Nat}{n:Nd}{F:List Nat}(h:FS st i F)(ho:n.op=2)(hi:¬ i=0)(he:¬ n=⟨n.op,(i:Int) -1,0,0,[]⟩):stp i st n=none:=by
 obtain ⟨p,r,rfl⟩:=h.cons hi
 obtain ⟨k,F0,h1,h2,h3,_⟩:=h.top
 refine tF (mI Om) ?_ (op_bin Om Om)
 cases hb:jS (p::r) n with
 |false=>rfl
 |true=>
  exfalso;apply he
  unfold jS dU at hb
  simp only [Bool.and_eq_true,decide_eq_true_eq] at hb
  obtain ⟨⟨⟨q1,q2,q3⟩,q4⟩,q5⟩:=hb
  obtain ⟨op,a,b,key,text⟩:=n
  simp only at q1 q2 q3 q4 q5 ho
  subst q2;subst q3;subst q5
  rw [Nd.mk.injEq];exact ⟨rfl,by omega,rfl,rfl,rfl⟩
theorem ck_bin0 {st:List (Nat×Tr)}{i:Nat}{n:Nd}{F:List Nat}(h:FS st i F)(ho:n.op=3\/n.op=4)(hi:i=0):stp i st n=none:=by
 cases st with
 |nil=>exact tF (mI Om) rfl rfl
 |cons p r=>obtain ⟨k,F0,h1,h2,_⟩:=h.top;have:=p.2.sz_pos;omega
theorem ck_bin1 {st:List (Nat×Tr)}{i i0:Nat}{n:Nd}{F:List Nat}(h:FS st i F)(ho:n.op=3\/n.op=4)(hi:¬ i=0)(hF:F[i-1]?=some i0)(h0:i0=0):stp i st n=none:=by
 obtain ⟨p,r,rfl⟩:=h.cons hi
 obtain ⟨k,F0,h1,h2,h3,h4,h5⟩:=h.top
 rw [h5] at hF
 obtain rfl:=Option.some.inj hF
 subst h0
 cases r with
 |nil=>exact tF (mI Om) (op_not Om) rfl
 |cons q s=>obtain ⟨j,F1,g1,g2,_⟩:=h1.top;have:=q.2.sz_pos;omega
theorem ck_bin {st:List (Nat×Tr)}{i i0:Nat}{n:Nd}{F:List Nat}(h:FS st i F)(ho:n.op=3\/n.op=4)(hi:¬ i=0)(hF:F[i-1]?=some i0)(h0:¬ i0=0)(he:n=⟨n.op,(i0:Int) -1,(i:Int) -1,0,[]⟩):∃ s j,stp i st n=some s/\F[i0-1]?=some j/\FS s (i+1) (F++[j]):=by
 obtain ⟨p,r,rfl⟩:=h.cons hi
 obtain ⟨k,F0,h1,h2,h3,_,hk⟩:=h.top
 obtain ⟨q,s,j,rfl,g1,g2,g3⟩:=h.two hF h0
 have hb:isBin (p::q::s) n=true:=by
  rw [he];unfold isBin dU
  rcases ho with ho|ho<;>simp [ho]<;>omega
 rw [hk] at hF
 obtain rfl:=Option.some.inj hF
 refine ⟨_,j,stp_bin (mI (by omega)) (op_not (by omega)) hb,g2,g3 _ ?_ ?_⟩
 ·obtain ⟨k2,F2,f1,f2,f3,f4,f5⟩:=h1.top
  have hj:k2=j:=by
   have hl:=h1.len
   have hz:=q.2.sz_pos
   obtain ⟨k3,F3,e1,e2,e3,e4,_⟩:=h.top
   have e5:k3=k:=by omega
   subst e5
   have e6:F3=F0:=by
    have q1:=e1.len
    have q2:=hl
    have q3:F=F0++p.2.sts k3:=by assumption
    exact (List.append_inj (e4.symm.trans q3) Om).1
   subst e6
   rw [e4,List.getElem?_append_left Om,f5] at g2
   exact Option.some.inj g2
  subst hj
  have hk3:k2+q.2.sz=k:=f2.symm
  split
  ·show q.2.sts k2++p.2.sts (k2+q.2.sz)++[k2]=_;rw [hk3]
  ·show q.2.sts k2++p.2.sts (k2+q.2.sz)++[k2]=_;rw [hk3]
 ·split<;>rfl
theorem ck_binno {st:List (Nat×Tr)}{i i0:Nat}{n:Nd}{F:List Nat}(h:FS st i F)(ho:n.op=3\/n.op=4)(hi:¬ i=0)(hF:F[i-1]?=some i0)(h0:¬ i0=0)(he:¬ n=⟨n.op,(i0:Int) -1,(i:Int) -1,0,[]⟩):stp i st n=none:=by
 obtain ⟨p,r,rfl⟩:=h.cons hi
 obtain ⟨k,F0,h1,h2,h3,_⟩:=h.top
 obtain ⟨q,s,j,rfl,g1,g2,g3⟩:=h.two hF h0
 refine tF (mI Om) (op_not Om) ?_
 cases hb:isBin (p::q::s) n with
 |false=>rfl
 |true=>
  exfalso;apply he
  unfold isBin dU at hb
  simp only [Bool.and_eq_true,decide_eq_true_eq] at hb
  obtain ⟨⟨⟨q1,q2,q3⟩,q4⟩,q5⟩:=hb
  obtain ⟨op,a,b,key,text⟩:=n
  simp only at q1 q2 q3 q4 q5 ho
  subst q2;subst q3
  rw [Nd.mk.injEq];exact ⟨rfl,by omega,by omega,rfl,rfl⟩
theorem ck_end {st:List (Nat×Tr)}{l:List Nd}{F:List Nat}{i0:Nat}(h:FS st l.length F)(hr:vL 0 [] l=some st)(hl:l≠[])(hF:F[l.length-1]?=some i0):(jI l).isSome=decide (i0=0):=by
 have hn:¬ l.length=0:=λq=>hl (List.eq_nil_of_length_eq_zero q)
 obtain ⟨p,r,rfl⟩:=h.cons hn
 obtain ⟨k,F0,h1,h2,h3,h4,h5⟩:=h.top
 rw [h5] at hF
 obtain rfl:=Option.some.inj hF
 cases r with
 |nil=>unfold jI;rw [hr];simp [h1.1]
 |cons q s=>
  obtain ⟨j,F1,g1,g2,_⟩:=h1.top
  have hz:=q.2.sz_pos
  unfold jI;rw [hr];simp;omega
theorem jD {l:List Nd}(h:vL 0 [] l=none):(jI l).isSome=false:=by unfold jI;rw [h];rfl
def bR (c:Tok):Int:=match keyN c with|some n=>(n:Int)|none=> -1
def Bd (nd:List Nd)(bad:Bool):Prop:=bad=true∨∃ n∈nd,n.op=1/\xR n=false
theorem Bd.add {nd:List Nd}{bad:Bool}(h:Bd nd bad)(xs:List Nd):Bd (nd++xs) bad:=h.imp id λ⟨n,h1,h2⟩=>⟨n,List.mem_append_left _ h1,h2⟩
theorem Bd.mark (nd:List Nd):Bd nd true:= .inl rfl
theorem p3:∀ (t:Tr) (o:Nat),t.ok=true→∀ n∈t.enc o,n.op=1->xR n=true
 | .is k v,o,h,n,hn,h1=>by
  unfold Tr.ok at h
  simp only [Bool.and_eq_true,decide_eq_true_eq] at h
  rw [Tr.enc,List.mem_singleton] at hn
  rw [hn];unfold xR;simp [h.2];omega
 | .no x,o,h,n,hn,h1=>by
  rw [Tr.enc] at hn
  rcases List.mem_append.1 hn with hn|hn
  ·exact p3 x o h n hn h1
  ·rw [List.mem_singleton.1 hn] at h1;simp at h1
 | .both x y,o,h,n,hn,h1=>by
  unfold Tr.ok at h
  rw [Bool.and_eq_true] at h
  rw [Tr.enc] at hn
  rcases List.mem_append.1 hn with hn|hn
  ·rcases List.mem_append.1 hn with hn|hn
   ·exact p3 x o h.1 n hn h1
   ·exact p3 y _ h.2 n hn h1
  ·rw [List.mem_singleton.1 hn] at h1;simp at h1
 | .one x y,o,h,n,hn,h1=>by
  unfold Tr.ok at h
  rw [Bool.and_eq_true] at h
  rw [Tr.enc] at hn
  rcases List.mem_append.1 hn with hn|hn
  ·rcases List.mem_append.1 hn with hn|hn
   ·exact p3 x o h.1 n hn h1
   ·exact p3 y _ h.2 n hn h1
  ·rw [List.mem_singleton.1 hn] at h1;simp at h1
theorem bd_may {nd:List Nd}(h:Bd nd false):dQ nd=false:=by
 cases hm:dQ nd with
 |false=>rfl
 |true=>
  rcases h with h|⟨n,h1,h2,h3⟩
  ·cases h
  ·rcases pN hm with rfl|⟨t,hok,rfl,_⟩
   ·cases h1
   ·rw [p3 t 0 hok n h1 h2] at h3;cases h3
def GotL (part:List Tok->Option (Tr×List Tok))(ts:List Tok)(nd:List Nd)(bad:Bool)(ts':List Tok)(nd':List Nd)(bad':Bool):Prop:=
 nd'.length+ts'.length<=nd.length+ts.length/\ts'.length<=ts.length/\(Bd nd bad->Bd nd' bad')∧
  match part ts with
  |some (t,r)=>ts'=r/\nd'=nd++t.enc nd.length/\bad'=bad
  |none=>Bd nd' bad'
theorem GotL.mk' {part:List Tok->Option (Tr×List Tok)}{ts ts':List Tok}{nd nd':List Nd}{bad bad':Bool}(h1:nd'.length+ts'.length<=nd.length+ts.length)(h2:ts'.length<=ts.length)(h3:Bd nd bad->Bd nd' bad')(hs:∀ t r,part ts=some (t,r)->ts'=r/\nd'=nd++t.enc nd.length/\bad'=bad)(hn:part ts=none->Bd nd' bad'):GotL part ts nd bad ts' nd' bad':=by
 refine ⟨h1,h2,h3, ?_⟩
 cases h:part ts with
 |none=>exact hn h
 |some x=>exact hs x.1 x.2 h
theorem GotL.yes {part:List Tok->Option (Tr×List Tok)}{ts ts':List Tok}{nd nd':List Nd}{bad bad':Bool}(h:GotL part ts nd bad ts' nd' bad'){t:Tr}{r:List Tok}(hp:part ts=some (t,r)):ts'=r/\nd'=nd++t.enc nd.length/\bad'=bad:=by
 have:=h.2.2.2;rw [hp] at this;exact this
theorem GotL.nay {part:List Tok->Option (Tr×List Tok)}{ts ts':List Tok}{nd nd':List Nd}{bad bad':Bool}(h:GotL part ts nd bad ts' nd' bad')(hp:part ts=none):Bd nd' bad':=by
 have:=h.2.2.2;rw [hp] at this;exact this
theorem gl_short {ts:List Tok}{nd:List Nd}{bad:Bool}(h:ts.length<3):GotL vS ts nd bad ts nd true:=by
 refine GotL.mk' (Nat.le_refl _) (Nat.le_refl _) (λ_=>Bd.mark _) (λt r hp=> ?_) (λ_=>Bd.mark _)
 match ts,h,hp with
 | [],_,hp=>cases hp
 | [a],_,hp=>cases hp
 | [a,b],_,hp=>cases hp
theorem leaf_is {k:Int}{v:Tok}:xR ⟨1,0,0,k,v⟩=(decide (0<=k) && decide (k<3) && wdL v):=by unfold xR;simp
theorem atom_some {k s v:Tok}{t:Tr}(h:bF k s v=some t):(s=tEq/\t= .is (bR k).toNat v/\0<=bR k)\/(s≠tEq/\s=tNe/\t= .no (.is (bR k).toNat v)/\0<=bR k):=by
 unfold bF at h
 unfold bR
 cases hk:keyN k with
 |none=>rw [hk] at h;cases h
 |some n=>
  rw [hk] at h
  simp only at h ⊢
  split at h
  ·split at h
   ·rename_i e;exact .inl ⟨e,(Option.some.inj h).symm,by omega⟩
   ·rename_i e
    split at h
    ·rename_i e2;exact .inr ⟨e,e2,(Option.some.inj h).symm,by omega⟩
    ·cases h
  ·cases h
theorem atom_bad {k s v:Tok}(h:bF k s v=none)(hs:s=tEq\/s=tNe):xR ⟨1,0,0,bR k,v⟩=false:=by
 rw [leaf_is]
 unfold bF at h
 unfold bR
 cases hk:keyN k with
 |none=>simp
 |some n=>
  rw [hk] at h
  simp only at h ⊢
  split at h
  ·rcases hs with hs|hs
   ·rw [if_pos hs] at h;cases h
   ·split at h
    ·cases h
    ·first|cases h|(rw [if_pos hs] at h;cases h)
  ·rename_i hv;simp [hv]
theorem gl_eq {k s v:Tok}{r:List Tok}{nd:List Nd}{bad:Bool}(hs:s=tEq):GotL vS (k::s::v::r) nd bad r (nd++[⟨1,0,0,bR k,v⟩]) bad:=by
 refine GotL.mk' (by simp;omega) (by simp;omega) (λh=>h.add _) (λt q hp=> ?_) (λhp=> ?_)
 ·rw [vS] at hp
  cases ha:bF k s v with
  |none=>rw [ha] at hp;cases hp
  |some u=>
   rw [ha] at hp
   simp only [Option.some.injEq,Prod.mk.injEq] at hp
   obtain ⟨rfl,rfl⟩:=hp
   rcases atom_some ha with ⟨_,rfl,h0⟩|⟨h1,_⟩
   ·refine ⟨rfl, ?_,rfl⟩
    show _=nd++[⟨1,0,0,(((bR k).toNat:Nat):Int),v⟩]
    rw [Int.toNat_of_nonneg h0]
   ·exact absurd hs h1
 ·rw [vS] at hp
  cases ha:bF k s v with
  |none=>exact .inr ⟨_,List.mem_append_right _ (List.mem_singleton.2 rfl),rfl,atom_bad ha (.inl hs)⟩
  |some u=>rw [ha] at hp;cases hp
theorem gl_ne {k s v:Tok}{r:List Tok}{nd:List Nd}{bad:Bool}(h0:¬ s=tEq)(hs:s=tNe):GotL vS (k::s::v::r) nd bad r (nd++[⟨1,0,0,bR k,v⟩]++[⟨2,((nd++[(⟨1,0,0,bR k,v⟩:Nd)]).length:Int) -1,0,0,[]⟩]) bad:=by
 refine GotL.mk' (by simp;omega) (by simp;omega) (λh=>(h.add _).add _) (λt q hp=> ?_) (λhp=> ?_)
 ·rw [vS] at hp
  cases ha:bF k s v with
  |none=>rw [ha] at hp;cases hp
  |some u=>
   rw [ha] at hp
   simp only [Option.some.injEq,Prod.mk.injEq] at hp
   obtain ⟨rfl,rfl⟩:=hp
   rcases atom_some ha with ⟨h1,_⟩|⟨_,_,rfl,h2⟩
   ·exact absurd h1 h0
   ·refine ⟨rfl, ?_,rfl⟩
    show _=nd++([⟨1,0,0,(((bR k).toNat:Nat):Int),v⟩]++[⟨2,((nd.length+1-1:Nat):Int),0,0,[]⟩])
    rw [Int.toNat_of_nonneg h2,List.append_assoc,List.length_append,List.length_singleton]
    congr 4;omega
 ·rw [vS] at hp
  cases ha:bF k s v with
  |none=>exact .inr ⟨_,List.mem_append_left _ (List.mem_append_right _ (List.mem_singleton.2 rfl)),rfl,atom_bad ha (.inr hs)⟩
  |some u=>rw [ha] at hp;cases hp
theorem gl_sign {k s v:Tok}{r:List Tok}{nd:List Nd}{bad:Bool}(h0:¬ s=tEq)(hs:¬ s=tNe):GotL vS (k::s::v::r) nd bad r (nd++[⟨1,0,0,bR k,v⟩]) true:=by
 refine GotL.mk' (by simp;omega) (by simp;omega) (λh=>Bd.mark _) (λt q hp=> ?_) (λhp=>Bd.mark _)
 rw [vS] at hp
 cases ha:bF k s v with
 |none=>rw [ha] at hp;cases hp
 |some u=>rcases atom_some ha with ⟨h1,_⟩|⟨_,h1,_⟩<;>contradiction
theorem gl_not {k:Nat}{ts r ts2:List Tok}{nd nd2:List Nd}{bad bad2:Bool}(hts:ts=qV::r)(h:GotL (v6 k) r nd bad ts2 nd2 bad2):GotL (v6 (k+1)) ts nd bad ts2 (nd2++[⟨2,(nd2.length:Int) -1,0,0,[]⟩]) bad2:=by
 subst hts
 have g1:=h.1
 have g2:=h.2.1
 refine GotL.mk' (by simp;omega) (by simp;omega) (λq=>(h.2.2.1 q).add _) (λt q hp=> ?_) (λhp=> ?_)
 ·rw [pFac_not] at hp
  cases hq:v6 k r with
  |none=>rw [hq] at hp;cases hp
  |some x=>
   obtain ⟨u,r'⟩:=x
   rw [hq] at hp
   simp only [pNo,Option.some.injEq,Prod.mk.injEq] at hp
   obtain ⟨rfl,rfl⟩:=hp
   obtain ⟨rfl,e2,rfl⟩:=h.yes hq
   refine ⟨rfl, ?_,rfl⟩
   have hz:=u.sz_pos
   show _=nd++(u.enc nd.length++[⟨2,((nd.length+u.sz-1:Nat):Int),0,0,[]⟩])
   rw [←List.append_assoc,←e2]
   have hl:nd2.length=nd.length+u.sz:=by rw [e2,List.length_append,Tr.enc_len]
   congr 3;rw [hl];omega
 ·rw [pFac_not] at hp
  cases hq:v6 k r with
  |none=>exact (h.nay hq).add _
  |some x=>rw [hq] at hp;cases hp
theorem gl_open {k:Nat}{ts r ts2:List Tok}{nd nd2:List Nd}{bad bad2:Bool}(hts:ts=xF::r)(h:GotL (pOr k) r nd bad ts2 nd2 bad2)(hc:kP xH ts2=true):GotL (v6 (k+1)) ts nd bad (wA xH ts2) nd2 bad2:=by
 subst hts
 obtain ⟨r2,rfl,hr2⟩:=qP hc
 rw [hr2]
 have g1:=h.1
 have g2:=h.2.1
 simp only [List.length_cons] at g1 g2
 refine GotL.mk' (by simp;omega) (by simp;omega) h.2.2.1 (λt q hp=> ?_) (λhp=> ?_)
 ·rw [nK] at hp
  cases hq:pOr k r with
  |none=>rw [hq] at hp;cases hp
  |some x=>
   obtain ⟨u,r'⟩:=x
   rw [hq] at hp
   obtain ⟨e1,e2,e3⟩:=h.yes hq
   subst e1
   rw [mQ,if_pos rfl] at hp
   simp only [Option.some.injEq,Prod.mk.injEq] at hp
   obtain ⟨rfl,rfl⟩:=hp
   exact ⟨rfl,e2,e3⟩
 ·rw [nK] at hp
  cases hq:pOr k r with
  |none=>exact h.nay hq
  |some x=>
   obtain ⟨u,r'⟩:=x
   rw [hq] at hp
   obtain ⟨e1,e2,e3⟩:=h.yes hq
   subst e1
   rw [mQ,if_pos rfl] at hp;cases hp
theorem gl_unclosed {k:Nat}{ts r ts2:List Tok}{nd nd2:List Nd}{bad bad2:Bool}(hts:ts=xF::r)(h:GotL (pOr k) r nd bad ts2 nd2 bad2)(hc:kP xH ts2=false):GotL (v6 (k+1)) ts nd bad ts2 nd2 true:=by
 subst hts
 have g1:=h.1
 have g2:=h.2.1
 refine GotL.mk' (by simp;omega) (by simp;omega) (λ_=>Bd.mark _) (λt q hp=> ?_) (λhp=>Bd.mark _)
 rw [nK] at hp
 cases hq:pOr k r with
 |none=>rw [hq] at hp;cases hp
 |some x=>
  obtain ⟨u,r'⟩:=x
  rw [hq] at hp
  obtain ⟨e1,e2,e3⟩:=h.yes hq
  subst e1
  cases ts2 with
  |nil=>cases hp
  |cons c q=>
   have:=of_decide_eq_false hc
   simp only [List.head?_cons,Option.some.injEq] at this
   rw [mQ,if_neg this] at hp;cases hp
theorem gl_atom {n:Nat}{ts ts2:List Tok}{nd nd2:List Nd}{bad bad2:Bool}(h1:kP qV ts=false)(h2:kP xF ts=false)(hn:ts.length<=n)(h:GotL vS ts nd bad ts2 nd2 bad2):GotL (v6 n) ts nd bad ts2 nd2 bad2:=by
 unfold GotL at h ⊢;rw [pfac_atom h1 h2 hn];exact h
def ChL (part:List Tok->Option (Tr×List Tok))(c:Tok)(mk:Tr->Tr->Tr)(ts:List Tok)(nd:List Nd)(bad:Bool)(tq:List Tok)(nq:List Nd)(bq:Bool):Prop:=
 nq.length+tq.length<=nd.length+ts.length/\tq.length<=ts.length/\(Bd nd bad->Bd nq bq)∧
  ((gY part c mk ts=none/\Bd nq bq)∨∃ t,gY part c mk ts=w8 part c mk tq.length t tq/\nq=nd++t.enc nd.length/\bq=bad)
theorem cl_start {part:List Tok->Option (Tr×List Tok)}{c:Tok}{mk:Tr->Tr->Tr}{ts ts':List Tok}{nd nd':List Nd}{bad bad':Bool}(h:GotL part ts nd bad ts' nd' bad'):ChL part c mk ts nd bad ts' nd' bad':=by
 refine ⟨h.1,h.2.1,h.2.2.1, ?_⟩
 cases hp:part ts with
 |none=>exact .inl ⟨by unfold gY;rw [hp],h.nay hp⟩
 |some x=>
  obtain ⟨t,r⟩:=x
  obtain ⟨e1,e2,e3⟩:=h.yes hp
  exact .inr ⟨t,by unfold gY;rw [hp,e1],e2,e3⟩
theorem cl_stop {part:List Tok->Option (Tr×List Tok)}{c:Tok}{mk:Tr->Tr->Tr}{ts tq:List Tok}{nd nq:List Nd}{bad bq:Bool}(h:ChL part c mk ts nd bad tq nq bq)(hc:kP c tq=false):GotL (gY part c mk) ts nd bad tq nq bq:=by
 obtain ⟨h1,h2,h3,h4⟩:=h
 refine GotL.mk' h1 h2 h3 (λt r hp=> ?_) (λhp=> ?_)
 ·rcases h4 with ⟨q,_⟩|⟨u,q,e2,e3⟩
  ·rw [hp] at q;cases q
  ·rw [pLoop_stop _ _ _ _ _ _ (of_decide_eq_false hc)] at q
   rw [hp] at q
   simp only [Option.some.injEq,Prod.mk.injEq] at q
   obtain ⟨rfl,rfl⟩:=q
   exact ⟨rfl,e2,e3⟩
 ·rcases h4 with ⟨_,q⟩|⟨u,q,e2,e3⟩
  ·exact q
  ·rw [pLoop_stop _ _ _ _ _ _ (of_decide_eq_false hc),hp] at q;cases q
theorem cl_step {part:List Tok->Option (Tr×List Tok)}(hp:Eats part){op:Int}{c:Tok}{mk:Tr->Tr->Tr}(hmk:MkOf op mk){ts tq r ts2:List Tok}{nd nq nd2:List Nd}{bad bq bad2:Bool}(h:ChL part c mk ts nd bad tq nq bq)(htq:tq=c::r)(h2:GotL part r nq bq ts2 nd2 bad2):
  ChL part c mk ts nd bad ts2 (nd2++[⟨op,(nq.length:Int) -1,(nd2.length:Int) -1,0,[]⟩]) bad2:=by
 obtain ⟨h1,h3,h4,h5⟩:=h
 have g1:=h2.1
 have g2:=h2.2.1
 subst htq
 simp only [List.length_cons] at h1 h3
 refine ⟨by rw [List.length_append,List.length_singleton];omega,by omega,λq=>(h2.2.2.1 (h4 q)).add _, ?_⟩
 rcases h5 with ⟨e,hb⟩|⟨t,e,hn,hb⟩
 ·exact .inl ⟨e,(h2.2.2.1 hb).add _⟩
 ·rw [List.length_cons,w8,if_pos rfl] at e
  cases hq:part r with
  |none=>
   rw [hq] at e
   exact .inl ⟨e,(h2.nay hq).add _⟩
  |some y=>
   obtain ⟨u,r'⟩:=y
   rw [hq] at e
   obtain ⟨rfl,e2,e3⟩:=h2.yes hq
   have hl:=hp _ _ _ hq
   have hz1:=t.sz_pos
   have hz3:=u.sz_pos
   have hnl:nq.length=nd.length+t.sz:=by rw [hn,List.length_append,Tr.enc_len]
   have hnl2:nd2.length=nd.length+t.sz+u.sz:=by rw [e2,List.length_append,Tr.enc_len,hnl]
   refine .inr ⟨mk t u, ?_, ?_,e3.trans hb⟩
   ·rw [e];exact pLoop_fuel hp _ _ _ _ _ _ Om (Nat.le_refl _)
   ·rw [hmk.enc,hnl2,hnl,e2,hnl,hn]
    rw [show ((nd.length+t.sz:Nat):Int) -1=((nd.length+t.sz-1:Nat):Int) by omega,show ((nd.length+t.sz+u.sz:Nat):Int) -1=((nd.length+t.sz+u.sz-1:Nat):Int) by omega]
    simp
theorem gl_none {s:YL}{ts':List Tok}{nd':List Nd}{bad':Bool}(h:GotL (pOr (y4 s).length) (y4 s) [] false ts' nd' bad')(hb:bad'=true\/ts'≠[]\/dQ nd'=false):gX s=none:=by
 unfold gX
 cases hp:pOr (y4 s).length (y4 s) with
 |none=>rfl
 |some x=>
  obtain ⟨t,r⟩:=x
  obtain ⟨e1,e2,e3⟩:=h.yes hp
  subst e1;subst e3
  rcases hb with hb|hb|hb
  ·cases hb
  ·cases ts' with
   |nil=>exact absurd rfl hb
   |cons c q=>rfl
  ·cases ts' with
   |cons c q=>rfl
   |nil=>
    have hok:=pOr_ok _ _ _ _ hp
    rw [e2,show ([]:List Nd)++t.enc ([]:List Nd).length=t.enc 0 from rfl,fit_may hok] at hb
    simp [hb]
theorem gl_some {s:YL}{nd':List Nd}(h:GotL (pOr (y4 s).length) (y4 s) [] false [] nd' false)(hm:dQ nd'=true):∃ t:Tr,t.ok=true/\nd'=t.enc 0/\gX s=some t:=by
 unfold gX
 cases hp:pOr (y4 s).length (y4 s) with
 |none=>have:=bd_may (h.nay hp);rw [hm] at this;cases this
 |some x=>
  obtain ⟨t,r⟩:=x
  obtain ⟨e1,e2,_⟩:=h.yes hp
  subst e1
  have hok:=pOr_ok _ _ _ _ hp
  have e3:nd'=t.enc 0:=e2
  refine ⟨t,hok,e3, ?_⟩
  rw [e3,fit_may hok] at hm
  simp [hm]
theorem print_no {l:List Nd}(h:wR l=false):qO l=[]:=by
 unfold qO
 cases hm:dQ l with
 |false=>rfl
 |true=>
  rcases pN hm with rfl|⟨t,hok,rfl,hs,_⟩
  ·rfl
  ·unfold wR at h
   rw [fP hok,Tr.enc_len,decide_eq_true hs] at h;cases h
theorem treeOk_yes {l:List Nd}(h:wR l=true):∃ t:Tr,t.ok=true/\l=t.enc 0/\t.sz<=15:=by
 unfold wR at h
 rw [Bool.and_eq_true,decide_eq_true_eq] at h
 obtain ⟨t,ht⟩:=Option.isSome_iff_exists.1 h.2
 obtain ⟨h1,h2⟩:=treeOf_iff.1 ht
 exact ⟨t,h1,h2,by rw [h2,Tr.enc_len] at h;exact h.1⟩
theorem print_long {t:Tr}(h:t.ok=true)(hl:96<t.text.length):qO (t.enc 0)=[]:=by
 unfold qO
 rw [mayM_enc h,decide_eq_false (p:=t.text.length<=96) Om];simp
theorem print_yes {t:Tr}(h:t.ok=true)(hs:t.sz<=15)(hl:¬ 96<t.text.length):qO (t.enc 0)=t.text:=printM_enc h (by unfold Tr.fit;rw [decide_eq_true hs,decide_eq_true Om];rfl)
theorem may_print {l:List Nd}(h:¬ l=[]):dQ l= !decide (qO l=[]):=by
 unfold qO
 cases hm:dQ l with
 |false=>simp
 |true=>
  rcases pN hm with rfl|⟨t,hok,rfl,_⟩
  ·exact absurd rfl h
  ·rw [fP hok];simp [text10_ne]
end
section
set_option linter.unnecessarySimpa false
theorem run_idx10 {P:Program}{ρ:Operand->Value}{o:Oper}{t e:TypeId}{x y:Operand}{n k:Nat}{vals:Array Value}(g:Nat->YL)(hk:k<n)(ho:o.op= .index t x y)(hx:ρ x= .agg vals)(hy:ρ y=YI (k:Int))
  (hu:P.underlying t=some (.array n e)) (hp:∀ i,i<n→∀ w,(part e vals i).run P w= .ok (.string (mkS (g i))) w) (hs:(P.info? e).map (·.size)=some 1) (w:World):(execOp ρ o).run P w= .ok (.value (.string (mkS (g k)))) w:=by
 cases he:P.info? e with
 |none=>rw [he] at hs;cases hs
 |some i=>
  rw [he] at hs
  have hs1:i.size=1:=Option.some.inj hs
  unfold execOp
  have h2:=hp k hk
  have hkn:¬ n<=k:=by omega
  simp [ho,hx,hy,Instr.index,Sem.run_bind,asIntOf,run_underlying hu,sizeOf,typeInfo,he,hs1,h2,hk,hkn]
structure MkAt (B:Nat)(W:World):Prop where
 lt:2<B
 held:∃ T,W.heap[(2:Nat)]?=some (.cells #[.string ⟨#[111,115]⟩,.string ⟨#[97,114,99,104]⟩,.string ⟨#[97,98,105]⟩] T)
def MkLib (W:World):Prop:=MkAt W.heap.size W
theorem MkAt.on {B B':Nat}{W w:World}(h:MkAt B W)(hb:Below B W w)(hB:B<=B'):MkAt B' w:=
 ⟨Nat.lt_of_lt_of_le h.lt hB,by obtain ⟨T,q⟩:=h.held;exact ⟨T,by rw [hb.block _ h.lt];exact q⟩⟩
theorem MkLib.on {W w:World}(h:MkLib W)(hb:YB W w):MkLib w:=MkAt.on h hb hb.size
theorem MkAt.all {B:Nat}{W:World}(h:MkAt B W):(loadVar 157 ⟨2,0,none⟩).run YP W= .ok (.agg #[.string ⟨#[111,115]⟩,.string ⟨#[97,114,99,104]⟩,.string ⟨#[97,98,105]⟩]) W:=by
 obtain ⟨T,q⟩:=h.held
 exact x7 Kr q
theorem MkAt.one {B:Nat}{W:World}(h:MkAt B W)(k:Nat)(hk:k<3):(loadVar 9 ⟨2,0+k*1,none⟩).run YP W= .ok (.string (mkS (yR k))) W:=by
 obtain ⟨T,q⟩:=h.held
 exact x7 (rd_key k hk) q
theorem key_part:∀ (i:Nat),i<3→∀ w,(part 9 #[.string ⟨#[111,115]⟩,.string ⟨#[97,114,99,104]⟩,.string ⟨#[97,98,105]⟩] i).run YP w= .ok (.string (mkS (yR i))) w
 |0,_,w=>by kernel_rfl
 |1,_,w=>by kernel_rfl
 |2,_,w=>by kernel_rfl
theorem word10_any (s:YL)(W:World)(hs:s.length<=1000000):YC 173 #[.string (mkS s)] W (YR (.bool (wdL s)) W):=
 ret_b (wd_mk s) (word_any (mkS s) W (by rw [zW];unfold maxLen;omega))
theorem key_at {c:Tok}{k:Nat}(hk:k<3)(h:∀ i,i<k->yR i≠c)(e:yR k=c):bR c=(k:Int):=by
 unfold bR keyN
 match k,hk with
 |0,_=>rw [if_pos e.symm]
 |1,_=>rw [if_neg (λq=>h 0 Om q.symm),if_pos e.symm]
 |2,_=>rw [if_neg (λq=>h 0 Om q.symm),if_neg (λq=>h 1 Om q.symm),if_pos e.symm]
theorem key_not {c:Tok}(h:∀ i,i<3->yR i≠c):bR c= -1:=by
 unfold bR keyN
 rw [if_neg (λq=>h 0 Om q.symm),if_neg (λq=>h 1 Om q.symm),if_neg (λq=>h 2 Om q.symm)]
theorem keyOf_any (c:YL)(B:Nat)(W:World)(hK:MkAt B W)(hB:B<=W.heap.size):YC 384 #[.string (mkS c)] W λx w'=>x= .returned (YI (bR c))/\YB W w':=by
 have hK:MkAt W.heap.size W:=⟨Nat.lt_of_lt_of_le hK.lt hB,hK.held⟩
 refine Z2 (n:=15) Tryz.func384 rfl (ZO (Zv (YI 0) (ZN (zV (ZO (Zo (.agg #[.string ⟨#[111,115]⟩,.string ⟨#[97,114,99,104]⟩,.string ⟨#[97,98,105]⟩]) (a:=⟨2,0,none⟩) (λw hO=>(hK.on hO.below hO.size).all) (Zv (YI 0) (vF ?_))))))))
 refine x3 (kH (dD (λL f m=>∃ (k:Nat) (j:Nat->Value),(k<=3∧∀ i,i<k->yR i≠c)/\L=[]/\f=mP j [(0,.string (mkS c)),(5,.agg #[.string ⟨#[111,115]⟩,.string ⟨#[97,114,99,104]⟩,.string ⟨#[97,98,105]⟩]),(6,YI (k:Int))]/\m=3-k) (3-0) ⟨0,_,⟨by omega,λi hi=>absurd hi (Nat.not_lt_zero _)⟩,rfl,ZU,rfl⟩ ?_))
 rintro L f m ⟨k,j,hrel,rfl,rfl,rfl⟩
 have hk6:=hrel.1
 refine zV (zT ?_)
 by_cases h1:(k:Int)<3
 ·have hk3:k<3:=by omega
  refine Zg h1 (ZN (zV (Zt (ZB (zV (kH (ZO (Zv (YI (k:Int)) ?_))))))))
  refine yW (.string (mkS (yR k))) Kr (run_idx10 yR hk3 rfl Kr Kr Tryz.underlying157 key_part Kr) (Zv (YI (k:Int)) (Zv (.string (mkS (yR k))) (ZR (Zv (.string (mkS (yR k))) (Zv (.string (mkS c)) ?_)))))
  by_cases h2:((yR k):YL)=c
  ·refine yW Z4 Kr (qN (a:=(yR k)) (b:=c) rfl Kr Kr (decide_eq_true (h2))) (ZY (ZO (Zv (YI (k:Int)) (Zv (YI (k:Int)) (ZN (xK (qS ?_)))))))
   exact yD (dF (qS (yD (ZF (YI (k:Int)) Tryz.results384 (λw hO=>⟨by rw [key_at hk3 hrel.2 h2],hO.below⟩)))))
  exact yW Z5 Kr (qN (a:=(yR k)) (b:=c) rfl Kr Kr (decide_eq_false (h2))) (ZX (ok_skip (vY (x3 (zT (Zu (k:= .i64) (((k+1:Nat):Int)) (IntWalk.i64_in _ Om) (Zv (YI ((k+1:Nat):Int)) (vF (vX (m':=3-(k+1)) Om ⟨k+1,_,⟨by omega,λi hi=>by rcases Nat.lt_succ_iff_lt_or_eq.1 hi with q|rfl;exact hrel.2 i q;exact h2⟩,rfl,ZU,rfl⟩)))))))))
 refine Zh h1 (ZN (zV (Zf (dE (kB (xY (k8 (x3 (zV (zT ?_))))))))))
 exact Zv (YI (-1)) (ZN (xK (ZF (YI (-1)) Tryz.results384 (λw hO=>⟨by rw [key_not λi hi=>hrel.2 i Om],hO.below⟩))))
end
section
set_option linter.unnecessarySimpa false
def vC (zs:List Int):Array Value:=(zs.flatMap zC).toArray
theorem z_flat (zs:List Int):zs.flatMap zC=zs.map λz=>Value.int .i64 z:=by
 induction zs with
 |nil=>rfl
 |cons a l ih=>rw [List.flatMap_cons,ih];rfl
theorem intA_size (zs:List Int):(vC zs).size=zs.length:=by unfold vC;rw [z_flat];simp
theorem intA_set {zs:List Int}{k:Nat}(hk:k<zs.length)(z:Int):yK (vC zs) k (Value.int .i64 z).cells=vC (zs.set k z):=by
 unfold yK vC
 rw [z_flat,z_flat,List.map_set,List.set_eq_take_append_cons_drop,if_pos (by rw [List.length_map];exact hk)]
 simp [Value.cells]
theorem intA_made (n:Nat):madeCells #[YI 0] n=vC (List.replicate n 0):=by
 apply Array.toList_inj.1
 rw [toList_madeCells_one]
 unfold vC
 rw [z_flat];simp
theorem tJ {zs:List Int}{k:Nat}{z:Int}(h:zs[k]?=some z):xD YP 3 (vC zs) k=some (YI z):=by
 show (vC zs)[k]?=_
 unfold vC
 rw [z_flat];simp [h]
def jN (F:List Nat)(n:Nat):List Int:=F.map (λ(k:Nat)=>(k:Int))++List.replicate (n-F.length) 0
theorem dO {F:List Nat}{n:Nat}(h:F.length<=n):(jN F n).length=n:=by unfold jN;simp;omega
theorem padF_set {F:List Nat}{n:Nat}(h:F.length<n)(k:Nat):(jN F n).set F.length (k:Int)=jN (F++[k]) n:=by
 unfold jN
 obtain ⟨m,hm⟩:∃ m,n-F.length=m+1:=⟨n-F.length-1,by omega⟩
 rw [hm,List.length_append,List.length_singleton,show n-(F.length+1)=m by omega,List.set_append_right _ _ (by simp)]
 simp [List.replicate_succ]
theorem mF {F:List Nat}{n j k:Nat}(h:F[j]?=some k):(jN F n)[j]?=some (k:Int):=by
 unfold jN
 rw [List.getElem?_append_left (by rw [List.length_map];exact (List.getElem?_eq_some_iff.1 h).1),List.getElem?_map,h];rfl
theorem fs_lt {st:List (Nat×Tr)}{i i0:Nat}{F:List Nat}(h:FS st i F)(hi:¬ i=0)(hF:F[i-1]?=some i0):i0<i:=by
 obtain ⟨p,r,rfl⟩:=h.cons hi
 obtain ⟨k,F0,h1,h2,h3,h4,h5⟩:=h.top
 rw [h5] at hF
 have:=Option.some.inj hF
 have:=p.2.sz_pos
 omega
theorem mH {l:List Nd}(h:(jI l).isSome=false):wR l=false:=by unfold wR;rw [h];simp
theorem tree10_any (A:Option Addr)(cap0:Nat)(l:List Nd)(W:World)(hv:Reads nC W W.heap.size A l)(hne:l≠[])(hn0:l.length<=1000)(ht:∀ n∈l,n.text.length<=1000000):YC 278 #[.slice A l.length cap0] W (YR (.bool (wR l)) W):=by
 have hlp:0<l.length:=List.length_pos_iff.2 hne
 refine z8 Tryz.func278 ?_
 by_cases h1:(15:Int)<(l.length:Int)
 ·refine zA 8 [] ((15:Int)<(l.length:Int)) (λ_=> ?_) (λhq=>absurd (h1) hq)
  exact z7 [] Z5 (λw hO=>⟨by rw [show wR l=false from by unfold wR;rw [decide_eq_false Om];rfl],hO.below⟩)
 have hl15:l.length<=15:=by omega
 refine zA 8 [] ((15:Int)<(l.length:Int)) (λhq=>absurd hq (h1)) (λ_=>x_make 11 [] l.length 1 8 (YI 0) (vC (jN [] l.length)) (by rw [Nat.mul_one];exact intA_made _) Om λb=>(zL (α:=Nat×(List (Nat×Tr))×(List Nat)) (λ(i,st,F)=>[(0,.slice A l.length cap0),(3,.slice (some ⟨b,0,none⟩) l.length l.length),(12,.slice A l.length cap0),(13,YI (l.length:Int)),(14,YI (i:Int))]) (λ(i,st,F)=>[⟨b,vC (jN F l.length),3⟩]) (λ(i,st,F) m=>(i<=l.length/\vL 0 [] l=vL i st (l.drop i)/\FS st i F)/\m=l.length-i) (0,[],[]) (l.length-0) [] ⟨⟨Nat.zero_le _,rfl,rfl,rfl⟩,rfl⟩ ?_))
 rintro ⟨i,st,F⟩ m g kk ⟨hrel,hmm⟩ nx hkk
 subst hkk
 try simp only at hrel hmm
 obtain ⟨hi6,hrun,hfs⟩:=hrel;have hFl:=hfs.len
 by_cases h2:(i:Int)<(l.length:Int)
 ·have hil:i<l.length:=by omega
  obtain ⟨bp,off,hA,hlt,hcell⟩:=hv Om
  obtain ⟨n,hn⟩:∃ n,l[i]=n:=⟨_,rfl⟩
  have hnt:=hn▸ht l[i] (List.getElem_mem hil)
  have hdr:l.drop i=n::l.drop (i+1):=by rw [←hn];exact List.drop_eq_getElem_cons hil
  have hset:∀ k:Nat,(jN F l.length).set i (k:Int)=jN (F++[k]) l.length:=λk=>by have q:=padF_set (F:=F) (n:=l.length) Om k;rw [hFl] at q;exact q
  refine zA 15 [] ((i:Int)<(l.length:Int)) (λ_=> ?_) (λhq=>absurd (h2) hq)
  refine zH 17 [] hA l.length cap0 i 5 (by first|omega|(simp;omega)) (zG 18 [] 312 bp (off+i*5) (ndV n) (λw hO=>Reads.load qQ (hv.on hO.below hO.size) hA i 0 hil Om _ (by rw [hn];kernel_rfl)) (zB [] λb1=> ?_))
  by_cases h3:(n.op:Int)=1
  ·refine zA 22 [0,0] ((n.op:Int)=1) (λ_=> ?_) (λhq=>absurd (h3) hq)
   by_cases h4:(n.key:Int)<0
   ·refine zA 25 [0] ((n.key:Int)<0) (λ_=> ?_) (λhq=>absurd (h4) hq)
    exact z7 [] Z5 (λw hO=>⟨by rw [mH (jD (by rw [hrun,hdr,kQ (ck_bad h3 (by unfold xR;simp [h3,h4];try omega))]))],hO.below⟩)
   refine zA 25 [0] ((n.key:Int)<0) (λhq=>absurd hq (h4)) (λ_=> ?_)
   by_cases h5:(3:Int)<=n.key
   ·refine zA 29 [0] ((3:Int)<=n.key) (λ_=> ?_) (λhq=>absurd (h5) hq)
    exact z7 [] Z5 (λw hO=>⟨by rw [mH (jD (by rw [hrun,hdr,kQ (ck_bad h3 (by unfold xR;simp [h3,h4,h5];try omega))]))],hO.below⟩)
   refine zA 29 [0] ((3:Int)<=n.key) (λhq=>absurd hq (h5)) (λ_=> ?_)
   by_cases h6:(n.a:Int)=0
   ·refine kW 34 [0] ((n.a:Int)=0) (λ_=> ?_) (λhq=>absurd (h6) hq)
    by_cases h7:(n.b:Int)=0
    ·refine kW 39 [0] ((n.b:Int)=0) (λ_=> ?_) (λhq=>absurd (h7) hq)
     refine z6 (k:=173) (args:= #[.string (mkS n.text)]) (v:= .bool (wdL n.text)) [0] (λw _=>word10_any n.text w hnt) ?_
     cases h8:wdL n.text with
     |true=>
      have hlf:xR n=true:=by unfold xR;simp [h1,h2,h3,h4,h5,h6,h7,h8];omega
      obtain ⟨s9,hstp,hfs9⟩:=ck_leaf hfs hlf
      refine jH 50 [] (A:=some ⟨b,0,none⟩) rfl l.length l.length (i:Int) 1 i (by omega) (x_sto 1 ⟨b,vC (jN F l.length),3⟩ i 1 (YI (i:Int)) [⟨b1,(ndV n).cells,312⟩,⟨b,vC (jN F l.length),3⟩] (by show _+1<=(vC _).size;rw [intA_size,dO (by omega)];omega) (x_i 108 [] (((i+1:Nat):Int)) (zK [] [⟨b,vC (jN (F++[i]) l.length),3⟩] (λw hO=> ?_) ?_)))
      ·exact (hO.past 1 [⟨b,yK (vC (jN F l.length)) i (Value.int .i64 (i:Int)).cells,3⟩]).cast (by rw [←hset i,←intA_set (by rw [dO Om];omega)])
      exact nx (i+1,s9,(F++[i])) (l.length-(i+1)) [] Om ⟨⟨by omega,by rw [hrun,hdr,bZ hstp],hfs9⟩,rfl⟩ Kr Kr
     |false=>
      exact z7 [] Z5 (λw hO=>⟨by rw [mH (jD (by rw [hrun,hdr,kQ (ck_bad h3 (by unfold xR;simp [h3,h4,h5,h6,h7,h8];try omega))]))],hO.below⟩)
    exact kW 39 [0] ((n.b:Int)=0) (λhq=>absurd hq (h7)) (λ_=>z7 [] Z5 (λw hO=>⟨by rw [mH (jD (by rw [hrun,hdr,kQ (ck_bad h3 (by unfold xR;simp [h3,h4,h5,h6,h7];try omega))]))],hO.below⟩))
   exact kW 34 [0] ((n.a:Int)=0) (λhq=>absurd hq (h6)) (λ_=>z7 [] Z5 (λw hO=>⟨by rw [mH (jD (by rw [hrun,hdr,kQ (ck_bad h3 (by unfold xR;simp [h3,h4,h5,h6];try omega))]))],hO.below⟩))
  refine zA 22 [0,0] ((n.op:Int)=1) (λhq=>absurd hq (h3)) (λ_=> ?_)
  by_cases h9:(n.op:Int)=2
  ·refine zA 52 [] ((n.op:Int)=2) (λ_=> ?_) (λhq=>absurd (h9) hq)
   by_cases h10:(i:Int)=0
   ·have hi0:i=0:=by omega
    refine zA 54 [] ((i:Int)=0) (λ_=> ?_) (λhq=>absurd (h10) hq)
    exact z7 [] Z5 (λw hO=>⟨by rw [mH (jD (by rw [hrun,hdr,kQ (ck_not0 hfs h9 hi0)]))],hO.below⟩)
   have hi0:¬ i=0:=by omega
   obtain ⟨i0,hF0⟩:∃ i0,F[i-1]?=some i0:=⟨_,List.getElem?_eq_getElem Om⟩
   have hi0l:=fs_lt hfs hi0 hF0
   refine zA 54 [] ((i:Int)=0) (λhq=>absurd hq (h10)) (λ_=>x_i 60 [0,0] ((i:Int) -1) ?_)
   by_cases h11:n=(⟨n.op,(i:Int) -1,0,0,[]⟩:Nd)
   ·have hna:n.a=(i:Int) -1:=congrArg Nd.a h11
    obtain ⟨s9,hstp,hfs9⟩:=ck_not hfs h9 hi0 hF0 h11
    refine x_nea (p:=λu v:Nd=>u=v) 312 ndV nL 62 [] n (⟨n.op,(i:Int) -1,0,0,[]⟩:Nd) (λ_=> ?_) (λhq=>absurd h11 hq)
    refine jH 69 [0] (A:=some ⟨b,0,none⟩) rfl l.length l.length n.a 1 (i-1) (by omega) (j7 70 [] 1 (vC (jN F l.length)) ((i-1)) 3 (YI (i0:Int)) (tJ (mF hF0)) (jH 71 [] (A:=some ⟨b,0,none⟩) rfl l.length l.length (i:Int) 1 i (by omega) (x_sto 1 ⟨b,vC (jN F l.length),3⟩ i 1 (YI (i0:Int)) [⟨b1,(ndV n).cells,312⟩,⟨b,vC (jN F l.length),3⟩] (by show _+1<=(vC _).size;rw [intA_size,dO (by omega)];omega) (x_i 108 [] (((i+1:Nat):Int)) (zK [] [⟨b,vC (jN (F++[i0]) l.length),3⟩] (λw hO=> ?_) ?_)))))
    ·exact (hO.past 1 [⟨b,yK (vC (jN F l.length)) i (Value.int .i64 (i0:Int)).cells,3⟩]).cast (by rw [←hset i0,←intA_set (by rw [dO Om];omega)])
    exact nx (i+1,s9,(F++[i0])) (l.length-(i+1)) [] Om ⟨⟨by omega,by rw [hrun,hdr,bZ hstp],hfs9⟩,rfl⟩ Kr Kr
   exact x_nea (p:=λu v:Nd=>u=v) 312 ndV nL 62 [] n (⟨n.op,(i:Int) -1,0,0,[]⟩:Nd) (λhq=>absurd hq h11) (λ_=>z7 [] Z5 (λw hO=>⟨by rw [mH (jD (by rw [hrun,hdr,kQ (ck_notno hfs h9 hi0 h11)]))],hO.below⟩))
  refine zA 52 [] ((n.op:Int)=2) (λhq=>absurd hq (h9)) (λ_=> ?_)
  by_cases h12:(n.op:Int)=3
  ·refine zA 73 [] ((n.op:Int)=3) (λ_=> ?_) (λhq=>absurd (h12) hq)
   by_cases h13:(i:Int)=0
   ·have hi0:i=0:=by omega
    refine zA 76 [] ((i:Int)=0) (λ_=> ?_) (λhq=>absurd (h13) hq)
    exact z7 [] Z5 (λw hO=>⟨by rw [mH (jD (by rw [hrun,hdr,kQ (ck_bin0 hfs (.inl h12) hi0)]))],hO.below⟩)
   have hi0:¬ i=0:=by omega
   obtain ⟨i0,hF0⟩:∃ i0,F[i-1]?=some i0:=⟨_,List.getElem?_eq_getElem Om⟩
   have hi0l:=fs_lt hfs hi0 hF0
   refine zA 76 [] ((i:Int)=0) (λhq=>absurd hq (h13)) (λ_=>x_i 80 [] ((i:Int) -1) (jH 81 [] (A:=some ⟨b,0,none⟩) rfl l.length l.length ((i:Int) -1) 1 (i-1) Om (j7 82 [] 1 (vC (jN F l.length)) ((i-1)) 3 (YI (i0:Int)) (tJ (mF hF0)) ?_)))
   by_cases h14:(i0:Int)=0
   ·have hz0:i0=0:=by omega
    refine zA 83 [] ((i0:Int)=0) (λ_=> ?_) (λhq=>absurd (h14) hq)
    exact z7 [] Z5 (λw hO=>⟨by rw [mH (jD (by rw [hrun,hdr,kQ (ck_bin1 hfs (.inl h12) hi0 hF0 hz0)]))],hO.below⟩)
   have hz0:¬ i0=0:=by omega
   refine zA 83 [] ((i0:Int)=0) (λhq=>absurd hq (h14)) (λ_=>x_i 91 [0,0] ((i:Int) -1) (jH 92 [] (A:=some ⟨b,0,none⟩) rfl l.length l.length ((i:Int) -1) 1 (i-1) Om (j7 93 [] 1 (vC (jN F l.length)) ((i-1)) 3 (YI (i0:Int)) (tJ (mF hF0)) (x_i 94 [] ((i0:Int) -1) (x_i 96 [] ((i:Int) -1) ?_)))))
   by_cases h15:n=(⟨n.op,(i0:Int) -1,(i:Int) -1,0,[]⟩:Nd)
   ·have hna:n.a=(i0:Int) -1:=congrArg Nd.a h15
    obtain ⟨s9,j9,hstp,hj9,hfs9⟩:=ck_bin hfs (.inl h12) hi0 hF0 hz0 h15
    refine x_nea (p:=λu v:Nd=>u=v) 312 ndV nL 98 [] n (⟨n.op,(i0:Int) -1,(i:Int) -1,0,[]⟩:Nd) (λ_=> ?_) (λhq=>absurd h15 hq)
    refine jH 105 [0] (A:=some ⟨b,0,none⟩) rfl l.length l.length n.a 1 (i0-1) (by omega) (j7 106 [] 1 (vC (jN F l.length)) ((i0-1)) 3 (YI (j9:Int)) (tJ (mF hj9)) (jH 107 [] (A:=some ⟨b,0,none⟩) rfl l.length l.length (i:Int) 1 i (by omega) (x_sto 1 ⟨b,vC (jN F l.length),3⟩ i 1 (YI (j9:Int)) [⟨b1,(ndV n).cells,312⟩,⟨b,vC (jN F l.length),3⟩] (by show _+1<=(vC _).size;rw [intA_size,dO (by omega)];omega) (x_i 108 [] (((i+1:Nat):Int)) (zK [] [⟨b,vC (jN (F++[j9]) l.length),3⟩] (λw hO=> ?_) ?_)))))
    ·exact (hO.past 1 [⟨b,yK (vC (jN F l.length)) i (Value.int .i64 (j9:Int)).cells,3⟩]).cast (by rw [←hset j9,←intA_set (by rw [dO Om];omega)])
    exact nx (i+1,s9,(F++[j9])) (l.length-(i+1)) [] Om ⟨⟨by omega,by rw [hrun,hdr,bZ hstp],hfs9⟩,rfl⟩ Kr Kr
   exact x_nea (p:=λu v:Nd=>u=v) 312 ndV nL 98 [] n (⟨n.op,(i0:Int) -1,(i:Int) -1,0,[]⟩:Nd) (λhq=>absurd hq h15) (λ_=>z7 [] Z5 (λw hO=>⟨by rw [mH (jD (by rw [hrun,hdr,kQ (ck_binno hfs (.inl h12) hi0 hF0 hz0 h15)]))],hO.below⟩))
  refine zA 73 [] ((n.op:Int)=3) (λhq=>absurd hq (h12)) (λ_=> ?_)
  by_cases h16:(n.op:Int)=4
  ·refine zA 74 [] ((n.op:Int)=4) (λ_=> ?_) (λhq=>absurd (h16) hq)
   by_cases h17:(i:Int)=0
   ·have hi0:i=0:=by omega
    refine zA 76 [] ((i:Int)=0) (λ_=> ?_) (λhq=>absurd (h17) hq)
    exact z7 [] Z5 (λw hO=>⟨by rw [mH (jD (by rw [hrun,hdr,kQ (ck_bin0 hfs (.inr h16) hi0)]))],hO.below⟩)
   have hi0:¬ i=0:=by omega
   obtain ⟨i0,hF0⟩:∃ i0,F[i-1]?=some i0:=⟨_,List.getElem?_eq_getElem Om⟩
   have hi0l:=fs_lt hfs hi0 hF0
   refine zA 76 [] ((i:Int)=0) (λhq=>absurd hq (h17)) (λ_=>x_i 80 [] ((i:Int) -1) (jH 81 [] (A:=some ⟨b,0,none⟩) rfl l.length l.length ((i:Int) -1) 1 (i-1) Om (j7 82 [] 1 (vC (jN F l.length)) ((i-1)) 3 (YI (i0:Int)) (tJ (mF hF0)) ?_)))
   by_cases h18:(i0:Int)=0
   ·have hz0:i0=0:=by omega
    refine zA 83 [] ((i0:Int)=0) (λ_=> ?_) (λhq=>absurd (h18) hq)
    exact z7 [] Z5 (λw hO=>⟨by rw [mH (jD (by rw [hrun,hdr,kQ (ck_bin1 hfs (.inr h16) hi0 hF0 hz0)]))],hO.below⟩)
   have hz0:¬ i0=0:=by omega
   refine zA 83 [] ((i0:Int)=0) (λhq=>absurd hq (h18)) (λ_=>x_i 91 [0,0] ((i:Int) -1) (jH 92 [] (A:=some ⟨b,0,none⟩) rfl l.length l.length ((i:Int) -1) 1 (i-1) Om (j7 93 [] 1 (vC (jN F l.length)) ((i-1)) 3 (YI (i0:Int)) (tJ (mF hF0)) (x_i 94 [] ((i0:Int) -1) (x_i 96 [] ((i:Int) -1) ?_)))))
   by_cases h19:n=(⟨n.op,(i0:Int) -1,(i:Int) -1,0,[]⟩:Nd)
   ·have hna:n.a=(i0:Int) -1:=congrArg Nd.a h19
    obtain ⟨s9,j9,hstp,hj9,hfs9⟩:=ck_bin hfs (.inr h16) hi0 hF0 hz0 h19
    refine x_nea (p:=λu v:Nd=>u=v) 312 ndV nL 98 [] n (⟨n.op,(i0:Int) -1,(i:Int) -1,0,[]⟩:Nd) (λ_=> ?_) (λhq=>absurd h19 hq)
    refine jH 105 [0] (A:=some ⟨b,0,none⟩) rfl l.length l.length n.a 1 (i0-1) (by omega) (j7 106 [] 1 (vC (jN F l.length)) ((i0-1)) 3 (YI (j9:Int)) (tJ (mF hj9)) (jH 107 [] (A:=some ⟨b,0,none⟩) rfl l.length l.length (i:Int) 1 i (by omega) (x_sto 1 ⟨b,vC (jN F l.length),3⟩ i 1 (YI (j9:Int)) [⟨b1,(ndV n).cells,312⟩,⟨b,vC (jN F l.length),3⟩] (by show _+1<=(vC _).size;rw [intA_size,dO (by omega)];omega) (x_i 108 [] (((i+1:Nat):Int)) (zK [] [⟨b,vC (jN (F++[j9]) l.length),3⟩] (λw hO=> ?_) ?_)))))
    ·exact (hO.past 1 [⟨b,yK (vC (jN F l.length)) i (Value.int .i64 (j9:Int)).cells,3⟩]).cast (by rw [←hset j9,←intA_set (by rw [dO Om];omega)])
    exact nx (i+1,s9,(F++[j9])) (l.length-(i+1)) [] Om ⟨⟨by omega,by rw [hrun,hdr,bZ hstp],hfs9⟩,rfl⟩ Kr Kr
   exact x_nea (p:=λu v:Nd=>u=v) 312 ndV nL 98 [] n (⟨n.op,(i0:Int) -1,(i:Int) -1,0,[]⟩:Nd) (λhq=>absurd hq h19) (λ_=>z7 [] Z5 (λw hO=>⟨by rw [mH (jD (by rw [hrun,hdr,kQ (ck_binno hfs (.inr h16) hi0 hF0 hz0 h19)]))],hO.below⟩))
  exact zA 74 [] ((n.op:Int)=4) (λhq=>absurd hq (h16)) (λ_=>z7 [] Z5 (λw hO=>⟨by rw [mH (jD (by rw [hrun,hdr,kQ (ck_else h3 h9 h12 h16)]))],hO.below⟩))
 have hil:i=l.length:=by omega
 skip;rw [List.drop_of_length_le Om,hil] at hrun
 skip;rw [hil] at hfs
 obtain ⟨i0,hF0⟩:∃ i0,F[l.length-1]?=some i0:=⟨_,List.getElem?_eq_getElem Om⟩
 have hend:=ck_end hfs hrun hne hF0
 refine zA 15 [] ((i:Int)<(l.length:Int)) (λhq=>absurd hq (h2)) (λ_=>x_i 112 [] ((l.length:Int) -1) (jH 113 [] (A:=some ⟨b,0,none⟩) rfl l.length l.length ((l.length:Int) -1) 1 (l.length-1) Om (j7 114 [] 0 (vC (jN F l.length)) ((l.length-1)) 3 (YI (i0:Int)) (tJ (mF hF0)) ?_)))
 by_cases h20:(i0:Int)=0
 ·have hz0:i0=0:=by omega
  refine zA 115 [] ((i0:Int)=0) (λ_=> ?_) (λhq=>absurd (h20) hq)
  exact z7 [] Z4 (λw hO=>⟨by rw [show wR l=true from by unfold wR;rw [hend,decide_eq_true hl15];simp;omega],hO.below⟩)
 have hz0:¬ i0=0:=by omega
 exact zA 115 [] ((i0:Int)=0) (λhq=>absurd hq (h20)) (λ_=>z7 [] Z5 (λw hO=>⟨by rw [show wR l=false from by unfold wR;rw [hend,decide_eq_true hl15];simp;omega],hO.below⟩))
end
section
set_option linter.unnecessarySimpa false
def Nb (b:Nat)(nd:List Nd)(ob:List Blk):Prop:=∃ C cc g,ob=⟨b, #[.slice C nd.length cc],284⟩::g/\SlN (.slice C nd.length cc) nd g
def Rb (b:Nat)(A:Option Addr)(m cap:Nat)(bad:Bool)(nd:List Nd)(ob:List Blk):Prop:=∃ C cc g,ob=⟨b, #[.slice C nd.length cc,.slice A m cap,.bool bad],286⟩::g/\SlN (.slice C nd.length cc) nd g
theorem fZ {b n cc:Nat}{C:Option Addr}{cs:Array Value}{T:TypeId}(W:World)(hb:W.heap[b]?=some (.cells cs T))(hc:xD YP 252 cs 0=some (.slice C n cc))(hn:n<=1000000):YC 349 #[.pointer (some ⟨b,0,none⟩)] W (YR (YI ((n:Int) -1)) W):=by
 refine Z2 (n:=9) Tryz.func349 rfl (ZO (Zv (YI 0) (ZR (Zv (Zp b 0) (Zv (Zp b 0) (Zv (Zp b 0) (Zo (.slice C n cc) (a:=⟨b,0,none⟩) (λw hO=>x7 hc ((hO.below.block b (Array.getElem?_eq_some_iff.1 hb).1).trans hb)) ?_)))))))
 exact Zv (YI (n:Int)) (Zu (k:= .i64) (((n:Int):Int) -1) (IntWalk.i64_in _ Om) (Zv (YI (((n:Int):Int) -1)) (ZN (xK (ZF (YI (((n:Int):Int) -1)) Tryz.results349 (λw hO=>⟨rfl,hO.below⟩))))))
theorem nis10_any {b:Nat}{nd:List Nd}{ob:List Blk}{W:World}(hb:Nb b nd ob)(hO:Own (ob.map Blk.b) W W ob)(hn9:nd.length<=999999)(k:Int)(v:YL):YC 383 #[.pointer (some ⟨b,0,none⟩),YI k,.string (mkS v)] W λe w'=>∃ ob',e= .returned (.tuple #[])/\Nb b (nd++[(⟨1,0,0,k,v⟩:Nd)]) ob'/\Own (ob.map Blk.b) W w' ob':=by
 obtain ⟨C,cc,g,rfl,hsl⟩:=hb
 have hnl:(nd++[(⟨1,0,0,k,v⟩:Nd)]).length=nd.length+1:=by simp
 refine y6 hO Tryz.func383 (kD [0] 1 312 #[YI 1,YI 0,YI 0,YI k,.string (mkS v)] λb1=>qJ (m:=1) (cp:=1) [] [⟨b1, #[YI 1,YI 0,YI 0,YI k,.string (mkS v)],312⟩,⟨b, #[.slice C nd.length cc],284⟩] g [] 0 (⟨b1, #[YI 1,YI 0,YI 0,YI k,.string (mkS v)],312⟩::⟨b, #[.slice C nd.length cc],284⟩::g) (λw hO=>(hO.cast (by simp))) hsl Om λv' ob' h=> ?_)
 obtain ⟨B2,cb2,rfl⟩:=h.form
 refine kM [1] λw hO=>⟨⟨b, #[.slice B2 (nd++[(⟨1,0,0,k,v⟩:Nd)]).length cb2],284⟩::ob',rfl,⟨B2,cb2,ob',rfl,by rw [hnl];exact SlN.add h⟩, ?_⟩
 rw [hnl];exact (hO.past 1 (⟨b, #[.slice B2 (nd.length+1) cb2],284⟩::(ob'++[]))).cast (by simp)
theorem nnot10_any {b:Nat}{nd:List Nd}{ob:List Blk}{W:World}(hb:Nb b nd ob)(hO:Own (ob.map Blk.b) W W ob)(hn9:nd.length<=999999):YC 370 #[.pointer (some ⟨b,0,none⟩)] W λe w'=>∃ ob',e= .returned (.tuple #[])/\Nb b (nd++[(⟨2,(nd.length:Int) -1,0,0,[]⟩:Nd)]) ob'/\Own (ob.map Blk.b) W w' ob':=by
 obtain ⟨C,cc,g,rfl,hsl⟩:=hb
 have hnl:(nd++[(⟨2,(nd.length:Int) -1,0,0,[]⟩:Nd)]).length=nd.length+1:=by simp
 have hlast:∀ w,Own ((⟨b, #[.slice C nd.length cc],284⟩::g).map Blk.b) W w [⟨b, #[.slice C nd.length cc],284⟩]->YC 349 #[.pointer (some ⟨b,0,none⟩)] w (YR (YI ((nd.length:Int) -1)) w):=λw hO=>fZ (C:=C) (cc:=cc) w (hO.held ⟨b, #[.slice C nd.length cc],284⟩ (by simp)) Kr Om
 refine y6 hO Tryz.func370 (x5 10 [] [⟨b, #[.slice C nd.length cc],284⟩] (λw hO=>Own.nth 0 ⟨b, #[.slice C nd.length cc],284⟩ hO) (zY [0] 6 (z6 (v:=YI ((nd.length:Int) -1)) [] (λw hO=>hlast w (Own.nth 0 ⟨b, #[.slice C nd.length cc],284⟩ hO)) (zY [] 8 (gF 1 312 #[YI 2,YI ((nd.length:Int) -1),YI 0,YI 0,.string (mkS [])] λb1=>zY [] 9 (vZ (m:=1) (cp:=1) [⟨b1, #[YI 2,YI ((nd.length:Int) -1),YI 0,YI 0,.string (mkS [])],312⟩,⟨b, #[.slice C nd.length cc],284⟩] g [] 0 (⟨b1, #[YI 2,YI ((nd.length:Int) -1),YI 0,YI 0,.string (mkS [])],312⟩::⟨b, #[.slice C nd.length cc],284⟩::g) [⟨b, #[.slice C nd.length cc],284⟩] (λw hO=>(hO.cast (by simp))) (λo w hO=>hO.take (λy hy=>by rw [List.mem_singleton.1 hy];simp) (by simp)) hsl Om λv' ob' h=> ?_))))))
 obtain ⟨B2,cb2,rfl⟩:=h.form
 refine kM [1] λw hO=>⟨⟨b, #[.slice B2 (nd++[(⟨2,(nd.length:Int) -1,0,0,[]⟩:Nd)]).length cb2],284⟩::ob',rfl,⟨B2,cb2,ob',rfl,by rw [hnl];exact SlN.add h⟩, ?_⟩
 rw [hnl];exact (hO.past 1 (⟨b, #[.slice B2 (nd.length+1) cb2],284⟩::(ob'++[]))).cast (by simp)
theorem njoin10_any {b:Nat}{nd:List Nd}{ob:List Blk}{W:World}(hb:Nb b nd ob)(hO:Own (ob.map Blk.b) W W ob)(hn9:nd.length<=999999)(op a:Int):YC 350 #[.pointer (some ⟨b,0,none⟩),YI op,YI a] W λe w'=>∃ ob',e= .returned (.tuple #[])/\Nb b (nd++[(⟨op,a,(nd.length:Int) -1,0,[]⟩:Nd)]) ob'/\Own (ob.map Blk.b) W w' ob':=by
 obtain ⟨C,cc,g,rfl,hsl⟩:=hb
 have hnl:(nd++[(⟨op,a,(nd.length:Int) -1,0,[]⟩:Nd)]).length=nd.length+1:=by simp
 have hlast:∀ w,Own ((⟨b, #[.slice C nd.length cc],284⟩::g).map Blk.b) W w [⟨b, #[.slice C nd.length cc],284⟩]->YC 349 #[.pointer (some ⟨b,0,none⟩)] w (YR (YI ((nd.length:Int) -1)) w):=λw hO=>fZ (C:=C) (cc:=cc) w (hO.held ⟨b, #[.slice C nd.length cc],284⟩ (by simp)) Kr Om
 refine y6 hO Tryz.func350 (x5 12 [] [⟨b, #[.slice C nd.length cc],284⟩] (λw hO=>Own.nth 0 ⟨b, #[.slice C nd.length cc],284⟩ hO) (zY [0] 8 (z6 (v:=YI ((nd.length:Int) -1)) [] (λw hO=>hlast w (Own.nth 0 ⟨b, #[.slice C nd.length cc],284⟩ hO)) (zY [] 10 (gF 1 312 #[YI op,YI a,YI ((nd.length:Int) -1),YI 0,.string (mkS [])] λb1=>zY [] 11 (vZ (m:=1) (cp:=1) [⟨b1, #[YI op,YI a,YI ((nd.length:Int) -1),YI 0,.string (mkS [])],312⟩,⟨b, #[.slice C nd.length cc],284⟩] g [] 0 (⟨b1, #[YI op,YI a,YI ((nd.length:Int) -1),YI 0,.string (mkS [])],312⟩::⟨b, #[.slice C nd.length cc],284⟩::g) [⟨b, #[.slice C nd.length cc],284⟩] (λw hO=>(hO.cast (by simp))) (λo w hO=>hO.take (λy hy=>by rw [List.mem_singleton.1 hy];simp) (by simp)) hsl Om λv' ob' h=> ?_))))))
 obtain ⟨B2,cb2,rfl⟩:=h.form
 refine kM [1] λw hO=>⟨⟨b, #[.slice B2 (nd++[(⟨op,a,(nd.length:Int) -1,0,[]⟩:Nd)]).length cb2],284⟩::ob',rfl,⟨B2,cb2,ob',rfl,by rw [hnl];exact SlN.add h⟩, ?_⟩
 rw [hnl];exact (hO.past 1 (⟨b, #[.slice B2 (nd.length+1) cb2],284⟩::(ob'++[]))).cast (by simp)
theorem ris10_any {b m cap:Nat}{A:Option Addr}{bad:Bool}{nd:List Nd}{ob:List Blk}{W:World}(hb:Rb b A m cap bad nd ob)(hO:Own (ob.map Blk.b) W W ob)(hn9:nd.length<=999999)(k:Int)(v:YL):YC 383 #[.pointer (some ⟨b,0,none⟩),YI k,.string (mkS v)] W λe w'=>∃ ob',e= .returned (.tuple #[])/\Rb b A m cap bad (nd++[(⟨1,0,0,k,v⟩:Nd)]) ob'/\Own (ob.map Blk.b) W w' ob':=by
 obtain ⟨C,cc,g,rfl,hsl⟩:=hb
 have hnl:(nd++[(⟨1,0,0,k,v⟩:Nd)]).length=nd.length+1:=by simp
 refine y6 hO Tryz.func383 (kD [0] 1 312 #[YI 1,YI 0,YI 0,YI k,.string (mkS v)] λb1=>qJ (m:=1) (cp:=1) [] [⟨b1, #[YI 1,YI 0,YI 0,YI k,.string (mkS v)],312⟩,⟨b, #[.slice C nd.length cc,.slice A m cap,.bool bad],286⟩] g [] 0 (⟨b1, #[YI 1,YI 0,YI 0,YI k,.string (mkS v)],312⟩::⟨b, #[.slice C nd.length cc,.slice A m cap,.bool bad],286⟩::g) (λw hO=>(hO.cast (by simp))) hsl Om λv' ob' h=> ?_)
 obtain ⟨B2,cb2,rfl⟩:=h.form
 refine kM [1] λw hO=>⟨⟨b, #[.slice B2 (nd++[(⟨1,0,0,k,v⟩:Nd)]).length cb2,.slice A m cap,.bool bad],286⟩::ob',rfl,⟨B2,cb2,ob',rfl,by rw [hnl];exact SlN.add h⟩, ?_⟩
 rw [hnl];exact (hO.past 1 (⟨b, #[.slice B2 (nd.length+1) cb2,.slice A m cap,.bool bad],286⟩::(ob'++[]))).cast (by simp)
theorem rnot10_any {b m cap:Nat}{A:Option Addr}{bad:Bool}{nd:List Nd}{ob:List Blk}{W:World}(hb:Rb b A m cap bad nd ob)(hO:Own (ob.map Blk.b) W W ob)(hn9:nd.length<=999999):YC 370 #[.pointer (some ⟨b,0,none⟩)] W λe w'=>∃ ob',e= .returned (.tuple #[])/\Rb b A m cap bad (nd++[(⟨2,(nd.length:Int) -1,0,0,[]⟩:Nd)]) ob'/\Own (ob.map Blk.b) W w' ob':=by
 obtain ⟨C,cc,g,rfl,hsl⟩:=hb
 have hnl:(nd++[(⟨2,(nd.length:Int) -1,0,0,[]⟩:Nd)]).length=nd.length+1:=by simp
 have hlast:∀ w,Own ((⟨b, #[.slice C nd.length cc,.slice A m cap,.bool bad],286⟩::g).map Blk.b) W w [⟨b, #[.slice C nd.length cc,.slice A m cap,.bool bad],286⟩]->YC 349 #[.pointer (some ⟨b,0,none⟩)] w (YR (YI ((nd.length:Int) -1)) w):=λw hO=>fZ (C:=C) (cc:=cc) w (hO.held ⟨b, #[.slice C nd.length cc,.slice A m cap,.bool bad],286⟩ (by simp)) Kr Om
 refine y6 hO Tryz.func370 (x5 10 [] [⟨b, #[.slice C nd.length cc,.slice A m cap,.bool bad],286⟩] (λw hO=>Own.nth 0 ⟨b, #[.slice C nd.length cc,.slice A m cap,.bool bad],286⟩ hO) (zY [0] 6 (z6 (v:=YI ((nd.length:Int) -1)) [] (λw hO=>hlast w (Own.nth 0 ⟨b, #[.slice C nd.length cc,.slice A m cap,.bool bad],286⟩ hO)) (zY [] 8 (gF 1 312 #[YI 2,YI ((nd.length:Int) -1),YI 0,YI 0,.string (mkS [])] λb1=>zY [] 9 (vZ (m:=1) (cp:=1) [⟨b1, #[YI 2,YI ((nd.length:Int) -1),YI 0,YI 0,.string (mkS [])],312⟩,⟨b, #[.slice C nd.length cc,.slice A m cap,.bool bad],286⟩] g [] 0 (⟨b1, #[YI 2,YI ((nd.length:Int) -1),YI 0,YI 0,.string (mkS [])],312⟩::⟨b, #[.slice C nd.length cc,.slice A m cap,.bool bad],286⟩::g) [⟨b, #[.slice C nd.length cc,.slice A m cap,.bool bad],286⟩] (λw hO=>(hO.cast (by simp))) (λo w hO=>hO.take (λy hy=>by rw [List.mem_singleton.1 hy];simp) (by simp)) hsl Om λv' ob' h=> ?_))))))
 obtain ⟨B2,cb2,rfl⟩:=h.form
 refine kM [1] λw hO=>⟨⟨b, #[.slice B2 (nd++[(⟨2,(nd.length:Int) -1,0,0,[]⟩:Nd)]).length cb2,.slice A m cap,.bool bad],286⟩::ob',rfl,⟨B2,cb2,ob',rfl,by rw [hnl];exact SlN.add h⟩, ?_⟩
 rw [hnl];exact (hO.past 1 (⟨b, #[.slice B2 (nd.length+1) cb2,.slice A m cap,.bool bad],286⟩::(ob'++[]))).cast (by simp)
theorem rjoin10_any {b m cap:Nat}{A:Option Addr}{bad:Bool}{nd:List Nd}{ob:List Blk}{W:World}(hb:Rb b A m cap bad nd ob)(hO:Own (ob.map Blk.b) W W ob)(hn9:nd.length<=999999)(op a:Int):YC 350 #[.pointer (some ⟨b,0,none⟩),YI op,YI a] W λe w'=>∃ ob',e= .returned (.tuple #[])/\Rb b A m cap bad (nd++[(⟨op,a,(nd.length:Int) -1,0,[]⟩:Nd)]) ob'/\Own (ob.map Blk.b) W w' ob':=by
 obtain ⟨C,cc,g,rfl,hsl⟩:=hb
 have hnl:(nd++[(⟨op,a,(nd.length:Int) -1,0,[]⟩:Nd)]).length=nd.length+1:=by simp
 have hlast:∀ w,Own ((⟨b, #[.slice C nd.length cc,.slice A m cap,.bool bad],286⟩::g).map Blk.b) W w [⟨b, #[.slice C nd.length cc,.slice A m cap,.bool bad],286⟩]->YC 349 #[.pointer (some ⟨b,0,none⟩)] w (YR (YI ((nd.length:Int) -1)) w):=λw hO=>fZ (C:=C) (cc:=cc) w (hO.held ⟨b, #[.slice C nd.length cc,.slice A m cap,.bool bad],286⟩ (by simp)) Kr Om
 refine y6 hO Tryz.func350 (x5 12 [] [⟨b, #[.slice C nd.length cc,.slice A m cap,.bool bad],286⟩] (λw hO=>Own.nth 0 ⟨b, #[.slice C nd.length cc,.slice A m cap,.bool bad],286⟩ hO) (zY [0] 8 (z6 (v:=YI ((nd.length:Int) -1)) [] (λw hO=>hlast w (Own.nth 0 ⟨b, #[.slice C nd.length cc,.slice A m cap,.bool bad],286⟩ hO)) (zY [] 10 (gF 1 312 #[YI op,YI a,YI ((nd.length:Int) -1),YI 0,.string (mkS [])] λb1=>zY [] 11 (vZ (m:=1) (cp:=1) [⟨b1, #[YI op,YI a,YI ((nd.length:Int) -1),YI 0,.string (mkS [])],312⟩,⟨b, #[.slice C nd.length cc,.slice A m cap,.bool bad],286⟩] g [] 0 (⟨b1, #[YI op,YI a,YI ((nd.length:Int) -1),YI 0,.string (mkS [])],312⟩::⟨b, #[.slice C nd.length cc,.slice A m cap,.bool bad],286⟩::g) [⟨b, #[.slice C nd.length cc,.slice A m cap,.bool bad],286⟩] (λw hO=>(hO.cast (by simp))) (λo w hO=>hO.take (λy hy=>by rw [List.mem_singleton.1 hy];simp) (by simp)) hsl Om λv' ob' h=> ?_))))))
 obtain ⟨B2,cb2,rfl⟩:=h.form
 refine kM [1] λw hO=>⟨⟨b, #[.slice B2 (nd++[(⟨op,a,(nd.length:Int) -1,0,[]⟩:Nd)]).length cb2,.slice A m cap,.bool bad],286⟩::ob',rfl,⟨B2,cb2,ob',rfl,by rw [hnl];exact SlN.add h⟩, ?_⟩
 rw [hnl];exact (hO.past 1 (⟨b, #[.slice B2 (nd.length+1) cb2,.slice A m cap,.bool bad],286⟩::(ob'++[]))).cast (by simp)
end
section
set_option linter.unnecessarySimpa false
theorem flat_len10 {α:Type}{g:α->List Value}{sz:Nat}(hg:∀ x,(g x).length=sz):∀ l:List α,(l.flatMap g).length=l.length*sz
 | []=>by simp
 |a::l=>by rw [List.flatMap_cons,List.length_append,flat_len10 hg l,hg,List.length_cons,Nat.succ_mul];omega
theorem Reads.from_ {α:Type}{g:α->List Value}{sz:Nat}(hg:∀ x,(g x).length=sz){w:World}{B b off c:Nat}{l:List α}(h:Reads g w B (some ⟨b,off,none⟩) l)(hc:l.length<=c)(k:Nat):Reads g w B (some ⟨b,off+(if c=k then 0 else k*sz),none⟩) (l.drop k):=λh0=>by
 rw [List.length_drop] at h0
 obtain ⟨b',off',e,hlt,hcell⟩:=h Om
 obtain ⟨rfl,rfl⟩:b=b'/\off=off':=by simp at e;exact e
 refine ⟨b,_,rfl,hlt,λj u hj=> ?_⟩
 rw [if_neg Om]
 have e2:l.flatMap g=(l.take k).flatMap g++(l.drop k).flatMap g:=by rw [←List.flatMap_append,List.take_append_drop]
 have hl:((l.take k).flatMap g).length=k*sz:=by rw [flat_len10 hg,List.length_take,Nat.min_eq_left Om]
 have:=hcell (k*sz+j) u (by rw [e2,List.getElem?_append_right Om,hl,Nat.add_sub_cancel_left];exact hj)
 rw [←Nat.add_assoc] at this;exact this
theorem Reads.back {α:Type}{g:α->List Value}{w w':World}{B:Nat}{A:Option Addr}{l:List α}(h:Reads g w' B A l)(hb:Below B w w'):Reads g w B A l:=λh0=>by
 obtain ⟨b,off,e,hlt,hc⟩:=h h0
 exact ⟨b,off,e,hlt,λk u hk=>(hb.cell (p:=⟨b,off+k,none⟩) hlt).symm.trans (hc k u hk)⟩
def Rdr (W:World)(B b:Nat)(ts:List Tok)(nd:List Nd)(bad:Bool)(ob:List Blk):Prop:=∃ A cap,Reads y7 W B A ts/\ts.length<=cap/\Rb b A ts.length cap bad nd ob
structure LentL (B b:Nat)(ts:List Tok)(nd:List Nd)(bad:Bool)(ob:List Blk)(W:World):Prop where
 rd:Rdr W B b ts nd bad ob
 own:Own (ob.map Blk.b) W W ob
 ge:∀ x∈ob,B<=x.b
 le:B<=W.heap.size
 short:∀ x∈ts,x.length<=1000000
 texts:∀ n∈nd,n.text.length<=1000000
 small:nd.length+ts.length<=10000
 lib:MkAt B W
structure BackL (B b:Nat)(ts:List Tok)(nd:List Nd)(bad:Bool)(ob ob':List Blk)(W w':World):Prop where
 rd:Rdr W B b ts nd bad ob'
 own:Own (ob.map Blk.b) W w' ob'
 short:∀ x∈ts,x.length<=1000000
 texts:∀ n∈nd,n.text.length<=1000000
theorem Rdr.on {W w:World}{B b:Nat}{ts:List Tok}{nd:List Nd}{bad:Bool}{ob:List Blk}(h:Rdr W B b ts nd bad ob)(hb:Below B W w):Rdr w B b ts nd bad ob:=by
 obtain ⟨A,cap,h1,h2,h3⟩:=h
 exact ⟨A,cap,h1.on hb (Nat.le_refl _),h2,h3⟩
theorem Rdr.back {W w:World}{B b:Nat}{ts:List Tok}{nd:List Nd}{bad:Bool}{ob:List Blk}(h:Rdr w B b ts nd bad ob)(hb:Below B W w):Rdr W B b ts nd bad ob:=by
 obtain ⟨A,cap,h1,h2,h3⟩:=h
 exact ⟨A,cap,h1.back hb,h2,h3⟩
theorem LentL.at {B b:Nat}{ts ts':List Tok}{nd nd':List Nd}{bad bad':Bool}{ob ob' R:List Blk}{W w:World}(h:LentL B b ts nd bad ob W)(hR:Rdr W B b ts' nd' bad' ob')(hx:(∀ x∈ts',x.length<=1000000)∧∀ n∈nd',n.text.length<=1000000)(hs:nd'.length+ts'.length<=10000)(hO:Own (ob.map Blk.b) W w (ob'++R)):LentL B b ts' nd' bad' ob' w:=
 ⟨hR.on (hO.belowB (qC h.ge) h.le),Own.lent hO,λx hx=>hO.allB (qC h.ge) h.le x (List.mem_append_left _ hx),Nat.le_trans h.le hO.size,hx.1,hx.2,hs,h.lib.on (hO.belowB (qC h.ge) h.le) (Nat.le_refl _)⟩
theorem rlast10 {W w:World}{B b:Nat}{ts:List Tok}{nd:List Nd}{bad:Bool}{ob L:List Blk}{M:List Nat}{W0:World}(h:Rdr W B b ts nd bad ob)(hO:Own M W0 w L)(hs:∀ x∈ob,x∈L)(hn:nd.length<=1000000):YC 349 #[.pointer (some ⟨b,0,none⟩)] w (YR (YI ((nd.length:Int) -1)) w):=by
 obtain ⟨A,cap,h1,h2,C,cc,g,rfl,hsl⟩:=h
 exact fZ (C:=C) (cc:=cc) w (hO.held _ (hs _ (List.mem_cons_self ..))) Kr hn
theorem texts_add {nd:List Nd}{n:Nd}(h:∀ x∈nd,x.text.length<=1000000)(hn:n.text.length<=1000000):∀ x∈nd++[n],x.text.length<=1000000:=λx hx=>by
 rcases List.mem_append.1 hx with q|q
 ·exact h x q
 ·rw [List.mem_singleton.1 q];exact hn
theorem skip_tail {x:Tok}{ts:List Tok}(h:∀ y∈ts,y.length<=1000000):∀ y∈wA x ts,y.length<=1000000:=λy hy=>by
 unfold wA at hy
 split at hy
 ·exact h y (List.mem_of_mem_tail hy)
 ·exact h y hy
theorem skip10_any {B b:Nat}{ts:List Tok}{nd:List Nd}{bad:Bool}{ob:List Blk}{W:World}(hL:LentL B b ts nd bad ob W)(x:Tok):YC 348 #[.pointer (some ⟨b,0,none⟩),.string (mkS x)] W λe w'=>∃ ob',e= .returned (.bool (kP x ts))/\BackL B b (wA x ts) nd bad ob ob' W w':=by
 have hM':=qC hL.ge
 have hBW:=hL.le
 have hsm:=hL.small
 have hO:=hL.own
 obtain ⟨A,cap,hw,hcap,C,cc,g,rfl,hsl⟩:=hL.rd
 have hno:=λ(hn:kP x ts=false/\wA x ts=ts) (w:World) (hO:Own ((⟨b, #[.slice C nd.length cc,.slice A ts.length cap,.bool bad],286⟩::g).map Blk.b) W w (⟨b, #[.slice C nd.length cc,.slice A ts.length cap,.bool bad],286⟩::g))=>show ∃ ob',Ending.returned (.bool false)= .returned (.bool (kP x ts))/\BackL B b (wA x ts) nd bad (⟨b, #[.slice C nd.length cc,.slice A ts.length cap,.bool bad],286⟩::g) ob' W w from ⟨_,by rw [hn.1],⟨by rw [hn.2];exact ⟨A,cap,hw,hcap,C,cc,g,rfl,hsl⟩,hO,skip_tail hL.short,hL.texts⟩⟩
 refine y6 hO Tryz.func348 (zA 10 [0] ((ts.length:Int)=0) (λh1=>z7 [] Z5 λw hO=>hno (jB (by rw [List.eq_nil_of_length_eq_zero (by omega:ts.length=0)];simp)) w (hO.past 0 _)) (λh1=> ?_))
 obtain ⟨c,r,hts⟩:∃ c r,ts=c::r:=by cases ts with|nil=>exact absurd rfl h1|cons c r=>exact ⟨c,r,rfl⟩
 obtain ⟨bp,off,hA,hlt,hcell⟩:=hw Om
 have hws0:∀ h:0<ts.length,ts[0]=c:=by rw [hts];intro h;rfl
 have htl:ts.length=r.length+1:=by rw [hts];rfl
 have hld:∀ w,Own ((⟨b, #[.slice C nd.length cc,.slice A ts.length cap,.bool bad],286⟩::g).map Blk.b) W w []->(loadVar 9 ⟨bp,off+0*1,none⟩).run YP w= .ok (.string (mkS c)) w:=λw hO=>Reads.load zO (hw.on (hO.belowB hM' hBW) (Nat.le_refl _)) hA 0 0 Om Om _ (by rw [hws0];kernel_rfl)
 refine zH 16 [0] hA ts.length cap 0 1 Om (zG 17 [] 9 bp (off+0*1) (.string (mkS c)) (λw hO=>hld w hO.no) (gR 19 [] c x (λh2=> ?_) (λh2=>z7 [] Z5 λw hO=>hno (jB (by rw [hts];simp;exact h2)) w (hO.past 0 _))))
 have hnx:kP x ts=true/\wA x ts=r:=by rw [hts,h2];exact next_yes
 have q9:=Reads.from_ zO (hA▸hw) hcap 1
 rw [show ts.drop 1=r from by rw [hts];rfl] at q9
 exact x_sllo 26 [0] hA ts.length cap 1 1 Om Om (.slice (some ⟨bp,off+(if cap=1 then 0 else 1*1),none⟩) r.length (cap-1)) (by rw [htl];rfl) (z7 [0] Z4 λw hO=>⟨⟨b, #[.slice C nd.length cc,.slice (some ⟨bp,off+(if cap=1 then 0 else 1*1),none⟩) r.length (cap-1),.bool bad],286⟩::g,by rw [hnx.1],⟨by rw [hnx.2];exact ⟨_,cap-1,q9,by omega,C,cc,g,rfl,hsl⟩,hO.past 0 (⟨b, #[.slice C nd.length cc,.slice (some ⟨bp,off+(if cap=1 then 0 else 1*1),none⟩) r.length (cap-1),.bool bad],286⟩::g),skip_tail hL.short,hL.texts⟩⟩)
structure p7 (f:FuncId)(n:Nat)(part:List Tok->Option (Tr×List Tok)):Prop where
 go:∀ {B b:Nat} {ts:List Tok} {nd:List Nd} {bad:Bool} {ob:List Blk} {W:World},LentL B b ts nd bad ob W->ts.length<=n→
  Calls YP f #[.pointer (some ⟨b,0,none⟩)] W λe w'=>∃ ts' nd' bad' ob',e= .returned (.tuple #[])/\BackL B b ts' nd' bad' ob ob' W w'/\GotL part ts nd bad ts' nd' bad'
theorem comparison10_any (n:Nat):p7 371 n vS:=by
 refine ⟨λ{B b ts nd bad ob W} hL hln=> ?_⟩
 have hM':=qC hL.ge
 have hBW:=hL.le
 have hsm:=hL.small
 have hO:=hL.own
 obtain ⟨A,cap,hw,hcap,C,cc,g,rfl,hsl⟩:=hL.rd
 refine y6 hO Tryz.func371 (zA 10 [0] ((ts.length:Int)<3) (λh1=>x_ret0 [0] λw hO=>⟨ts,nd,true,⟨b, #[.slice C nd.length cc,.slice A ts.length cap,.bool true],286⟩::g,rfl,⟨⟨A,cap,hw,hcap,C,cc,g,rfl,hsl⟩,hO.past 0 _,hL.short,hL.texts⟩,gl_short Om⟩) (λh1=> ?_))
 obtain ⟨k,s,v,r,hts⟩:∃ k s v r,ts=k::s::v::r:=by match ts,h1 with|k::s::v::r,_=>exact ⟨k,s,v,r,rfl⟩| [],h=>simp at h| [a],h=>simp at h| [a,c],h=>simp at h
 obtain ⟨bp,off,hA,hlt,hcell⟩:=hw Om
 have hws0:∀ h:0<ts.length,ts[0]=k:=by rw [hts];intro h;rfl
 have hws1:∀ h:1<ts.length,ts[1]=s:=by rw [hts];intro h;rfl
 have hws2:∀ h:2<ts.length,ts[2]=v:=by rw [hts];intro h;rfl
 have htl:ts.length=r.length+3:=by rw [hts];rfl
 have hvs:v.length<=1000000:=hL.short v (by rw [hts];simp)
 have hrs:∀ x∈r,x.length<=1000000:=λx hx=>hL.short x (by rw [hts];simp [hx])
 have htx:∀ n∈(nd++[(⟨1,0,0,bR k,v⟩:Nd)]),n.text.length<=1000000:=texts_add hL.texts hvs
 have hld0:∀ w,Own ((⟨b, #[.slice C nd.length cc,.slice A ts.length cap,.bool bad],286⟩::g).map Blk.b) W w []->(loadVar 9 ⟨bp,off+0*1,none⟩).run YP w= .ok (.string (mkS k)) w:=λw hO=>Reads.load zO (hw.on (hO.belowB hM' hBW) (Nat.le_refl _)) hA 0 0 Om Om _ (by rw [hws0];kernel_rfl)
 have hld1:∀ w,Own ((⟨b, #[.slice C nd.length cc,.slice A ts.length cap,.bool bad],286⟩::g).map Blk.b) W w []->(loadVar 9 ⟨bp,off+1*1,none⟩).run YP w= .ok (.string (mkS s)) w:=λw hO=>Reads.load zO (hw.on (hO.belowB hM' hBW) (Nat.le_refl _)) hA 1 0 Om Om _ (by rw [hws1];kernel_rfl)
 have hld2:∀ w,Own ((⟨b, #[.slice C nd.length cc,.slice A ts.length cap,.bool bad],286⟩::g).map Blk.b) W w []->(loadVar 9 ⟨bp,off+2*1,none⟩).run YP w= .ok (.string (mkS v)) w:=λw hO=>Reads.load zO (hw.on (hO.belowB hM' hBW) (Nat.le_refl _)) hA 2 0 Om Om _ (by rw [hws2];kernel_rfl)
 have q9:=Reads.from_ zO (hA▸hw) hcap 3
 rw [show ts.drop 3=r from by rw [hts];rfl] at q9
 have hlib:=hL.lib
 refine zH 18 [0] hA ts.length cap 0 1 Om (zG 19 [] 9 bp (off+0*1) (.string (mkS k)) (λw hO=>hld0 w hO.no) (zH 24 [0] hA ts.length cap 1 1 Om (zG 25 [] 9 bp (off+1*1) (.string (mkS s)) (λw hO=>hld1 w hO.no) (zH 30 [0] hA ts.length cap 2 1 Om (zG 31 [] 9 bp (off+2*1) (.string (mkS v)) (λw hO=>hld2 w hO.no) (x_sllo 37 [0] hA ts.length cap 1 3 Om Om (.slice (some ⟨bp,off+(if cap=3 then 0 else 3*1),none⟩) r.length (cap-3)) (by rw [htl];rfl) ?_))))))
 refine x_drawLF (.s (.s (.s (.s (.s (.s .z)))))) 7 [0] [] (λw hO=>hO.no) (zY [] 4 (z6 (k:=384) (args:= #[.string (mkS k)]) (v:=YI (bR k)) [] (λw hO=>keyOf_any k B w (hlib.on (hO.belowB hM' hBW) (Nat.le_refl _)) (Nat.le_trans hBW hO.size)) (zY [] 6 (xh_callL (Rr:=λv' ob'=>v'= .tuple #[]/\Rb b (some ⟨bp,off+(if cap=3 then 0 else 3*1),none⟩) r.length (cap-3) bad (nd++[(⟨1,0,0,bR k,v⟩:Nd)]) ob') (⟨b, #[.slice C nd.length cc,.slice (some ⟨bp,off+(if cap=3 then 0 else 3*1),none⟩) r.length (cap-3),.bool bad],286⟩::g) [] (⟨b, #[.slice C nd.length cc,.slice (some ⟨bp,off+(if cap=3 then 0 else 3*1),none⟩) r.length (cap-3),.bool bad],286⟩::g) [] (λw hO=>hO) (λob' w hO=>hO.no) (λw hO=>(ris10_any ⟨C,cc,g,rfl,hsl⟩ (Own.lent (R:=[]) (hO.cast (by simp))) Om (bR k) v).mono λe w' ⟨ob',k1,k2,k3⟩=>⟨_,ob',k1,⟨rfl,k2⟩,k3⟩) ?_))))
 rintro v' ob' ⟨rfl,C2,cc2,g2,rfl,hsl2⟩
 refine yS 52 [] s [61] (λh2=>kM [] λw hO=>⟨r,_,bad,⟨b, #[.slice C2 (nd++[(⟨1,0,0,bR k,v⟩:Nd)]).length cc2,.slice (some ⟨bp,off+(if cap=3 then 0 else 3*1),none⟩) r.length (cap-3),.bool bad],286⟩::g2,rfl,⟨⟨(some ⟨bp,off+(if cap=3 then 0 else 3*1),none⟩),cap-3,q9,by omega,C2,cc2,g2,rfl,hsl2⟩,hO.past 0 _,hrs,htx⟩,by rw [hts];exact gl_eq h2⟩) (λh2=>yS 54 [] s [33,61] (λh3=> ?_) (λh3=>kM [0] λw hO=>⟨r,_,true,⟨b, #[.slice C2 (nd++[(⟨1,0,0,bR k,v⟩:Nd)]).length cc2,.slice (some ⟨bp,off+(if cap=3 then 0 else 3*1),none⟩) r.length (cap-3),.bool true],286⟩::g2,rfl,⟨⟨(some ⟨bp,off+(if cap=3 then 0 else 3*1),none⟩),cap-3,q9,by omega,C2,cc2,g2,rfl,hsl2⟩,hO.past 0 _,hrs,htx⟩,by rw [hts];exact gl_sign h2 h3⟩))
 refine kG (Rr:=λv' ob'=>v'= .tuple #[]/\Rb b (some ⟨bp,off+(if cap=3 then 0 else 3*1),none⟩) r.length (cap-3) bad ((nd++[(⟨1,0,0,bR k,v⟩:Nd)])++[(⟨2,((nd++[(⟨1,0,0,bR k,v⟩:Nd)]).length:Int) -1,0,0,[]⟩:Nd)]) ob') [] (⟨b, #[.slice C2 (nd++[(⟨1,0,0,bR k,v⟩:Nd)]).length cc2,.slice (some ⟨bp,off+(if cap=3 then 0 else 3*1),none⟩) r.length (cap-3),.bool bad],286⟩::g2) [] (⟨b, #[.slice C2 (nd++[(⟨1,0,0,bR k,v⟩:Nd)]).length cc2,.slice (some ⟨bp,off+(if cap=3 then 0 else 3*1),none⟩) r.length (cap-3),.bool bad],286⟩::g2) (λw hO=>hO) (λw hO=>(rnot10_any ⟨C2,cc2,g2,rfl,hsl2⟩ (Own.lent (R:=[]) (hO.cast (by simp))) (by rw [List.length_append,List.length_singleton];omega)).mono λe w' ⟨ob',k1,k2,k3⟩=>⟨_,ob',k1,⟨rfl,k2⟩,k3⟩) ?_
 rintro v' ob' ⟨rfl,hb3⟩
 exact kM [] λw hO=>⟨r,_,bad,ob',rfl,⟨⟨_,cap-3,q9,by omega,hb3⟩,hO.past 0 _,hrs,texts_add htx (by simp)⟩,by rw [hts];exact gl_ne h2 h3⟩
end
end Go.Proofs.YtdafengdngglpaaGreatDoor
