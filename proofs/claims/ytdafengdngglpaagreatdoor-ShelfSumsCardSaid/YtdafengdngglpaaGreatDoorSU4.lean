import Derived.Lib.SplitLaws
import Derived.Lib.TrimByte
import Derived.Lib.Join
import Derived.Shelf.Strings.SplitCore
import Derived.Lib.MakeNoZero
import Derived.Laws.IdiomCopy
import Derived.Test.YtdafengdngglpaaGreatDoorSU3
set_option maxRecDepth 1000000
set_option maxHeartbeats 8000000
set_option linter.unusedVariables false
set_option linter.unusedSimpArgs false
set_option linter.unnecessarySimpa false
namespace Go.Proofs.YtdafengdngglpaaGreatDoor
open Go.RowKit

section
theorem w6 (x:Nv):(nvC x).length=3:=rfl
theorem vJ (x:Wv):(wvC x).length=4:=rfl
theorem nmF_rd:∀ k:Nat,k<4->xD YP 9 #[.string (mkS dfl),.string (mkS [120]),.string (mkS [121]),.string (mkS [122])] (0+(k:Int).toNat*1)=some (.string (mkS (nmF k)))
 |0,_=>by kernel_rfl
 |1,_=>by kernel_rfl
 |2,_=>by kernel_rfl
 |3,_=>by kernel_rfl
abbrev G8b (b:Nat):Blk:=⟨b, #[.string (mkS dfl),.string (mkS [120]),.string (mkS [121]),.string (mkS [122])],159⟩
abbrev G0b (b:Nat)(nm pre bld:YL)(a1 a2 a3:Int)(nA:Option Addr)(nc:Nat)(needs:List Nv)(vb vf:Value):Blk:=⟨b, #[.string (mkS nm),YI a1,YI a2,YI a3,.string (mkS pre),.string (mkS bld),.slice nA needs.length nc,vb,vf],29⟩
abbrev GBb (b k:Nat)(A:Option Addr)(n c:Nat):Blk:=⟨b, #[.string (mkS (nmF k)),.slice A n c],87⟩
theorem features_gen (v:Value)(l:List Int)(i:Nat)(nm pre bld:YL)(a1 a2 a3:Int)(nA:Option Addr)(nc:Nat)(needs:List Nv)(vb vf:Value)(W:World)(hv:ReadsI W W.heap.size v l)(hl:l.length<=9223372036854775807)(hi:i<=5000)
  (hN:Reads nvC W W.heap.size nA needs) (hWs:∀ m∈needs,Reads wvC W W.heap.size m.A m.any) (hlen:needs.length<=1000) (hopt:∀ m∈needs,m.opt.length<=1000) (hnm:∀ m∈needs,∀ w∈m.any,w.name.length<=1000):
  YC 64 #[v,YI (i:Int),.agg #[.string (mkS nm),YI a1,YI a2,YI a3,.string (mkS pre),.string (mkS bld),.slice nA needs.length nc,vb,vf]] W λe w'=>∃ A c xs o7 o2,e= .returned (.slice A xs.length c)/\(FtO A c xs o7 o2/\FeatsG needs (λj=>decide (plc (atL l (i+j)) 3≠0)) 4 xs)/\Own [] W w' (o7++o2):=by
 have fa:∀ (j:Nat),j<=100→∀ w,YB W w->YC 121 #[v,YI ((i+j:Nat):Int)] w (YR (YI (atL l (i+j))) w):=λj hj w hb=>(at_any v l (i+j) w ((hv.below hb).more hb.size) hl Om).mono λ_ _ ⟨e1,e2⟩=>⟨e1,e2▸Below.refl _ _⟩
 have fp:∀ (z:Int) w,YC 21 #[YI z,YI 3] w (YR (YI (plc z 3)) w):=λz w=>(place_any z 3 w (by decide) (by decide)).mono λ_ _ ⟨e1,e2⟩=>⟨e1,e2▸Below.refl _ _⟩
 generalize hkeep:(λj=>decide (plc (atL l (i+j)) 3≠0))=keep
 have hk1:∀ j,plc (atL l (i+j)) 3=0->keep j=false:=λj h=>by rw [←hkeep];simp [h]
 have hk2:∀ j,¬ plc (atL l (i+j)) 3=0->keep j=true:=λj h=>by rw [←hkeep];simp [h]
 refine z8 Tryz.func64 (zQ [] (λb0=>zB [] λb8=> ?_))
 refine zL (α:=Nat×List Fv×Option Addr×Nat×List Blk×List Blk) (λ(k,xs,A7,c7,_,_)=>[(0,v),(1,YI (i:Int)),(5,Zp b0 0),(7,.slice A7 xs.length c7),(8,Zp b8 0),(9,YI (k:Int))])
  (λ(_,_,_,_,o7,o2)=>[G8b b8,G0b b0 nm pre bld a1 a2 a3 nA nc needs vb vf]++(o7++o2)) (λ(k,xs,A7,c7,o7,o2) m=>k<=4/\m=4-k/\FtO A7 c7 xs o7 o2/\FeatsG needs keep k xs) (0,[],none,0,[],[]) 4 [0] ⟨by omega,rfl,FtO.nil,FeatsG.nil _ _⟩ ?_
 rintro ⟨k,xs,A7,c7,o7,o2⟩ mm g kk ⟨hk4,hmm,hO7,hG⟩ nx hkk
 subst hkk
 refine zA 16 [] ((k:Int)<4) (λh4=> ?_) (λh4=> ?_)
 rotate_left
 ·obtain rfl:k=4:=by omega
  exact z7 [] _ λw hO=>⟨A7,c7,xs,o7,o2,rfl,⟨hO7,hG⟩,hO.past 2 _⟩
 have hkl:k<4:=by omega
 refine x_i 22 [] ((i+k:Nat):Int) (z6 [] (λw hO=>fa k (by omega) w hO.below) (z6 [] (λw hO=>fp (atL l (i+k)) w) (zA 26 [] (plc (atL l (i+k)) 3=0) (λh3=> ?_) (λh3=> ?_))))
 ·refine x_i 18 [] ((k+1:Nat):Int) (nx (k+1,xs,A7,c7,o7,o2) (4-(k+1)) [] Om ⟨by omega,rfl,hO7,hG.skip (hk1 k h3)⟩ Kr Kr)
 have hxl:xs.length<=4:=by
  have e:=congrArg List.length hG.names
  rw [List.length_map,List.length_map] at e
  have:=List.length_filter_le keep (List.range k)
  rw [List.length_range] at this;omega
 refine x_ixa 28 [] 4 k 1 hkl (j7 29 [] 0 _ _ 9 _ (nmF_rd k hkl) (zB [] λb11=> ?_))
 refine zK [0] ([GBb b11 k none 0 0,G8b b8,G0b b0 nm pre bld a1 a2 a3 nA nc needs vb vf]++(o7++o2++[])) (λw hO=>(hO.past 0 ([GBb b11 k none 0 0,G8b b8,G0b b0 nm pre bld a1 a2 a3 nA nc needs vb vf]++(o7++o2))).cast (by simp)) ?_
 refine x_loopE (α:=Nat×List YL×Option Addr×Nat×List Blk) (β:=List YL×Option Addr×Nat×List Blk) (λ(j,_,_,_,_)=>[(0,v),(1,YI (i:Int)),(5,Zp b0 0),(7,.slice A7 xs.length c7),(8,Zp b8 0),(9,YI (k:Int)),(10,YI (atL l (i+k))),(11,Zp b11 0),(12,YI (j:Int))]) (λ(_,lst,A,c,o3)=>[GBb b11 k A lst.length c,G8b b8,G0b b0 nm pre bld a1 a2 a3 nA nc needs vb vf]++(o7++o2++o3)) (λ(j,lst,A,c,o3) m=>j<=2/\m=2-j/\OfS A c lst o3/\OfG needs keep lst (2*j)) (0,[],none,0,[]) 2
  (λ_=>[(0,v),(1,YI (i:Int)),(5,.pointer (some ⟨b0,0,none⟩)),(7,.slice A7 xs.length c7),(8,.pointer (some ⟨b8,0,none⟩)),(9,YI (k:Int)),(10,YI (atL l (i+k))),(11,.pointer (some ⟨b11,0,none⟩))]) (λ(lst,A,c,o3)=>[GBb b11 k A lst.length c,G8b b8,G0b b0 nm pre bld a1 a2 a3 nA nc needs vb vf]++(o7++o2++o3)) (λ(lst,A,c,o3)=>OfS A c lst o3/\OfG needs keep lst 4) [] ⟨by omega,rfl,OfS.nil,OfG.nil _ _⟩ ?_ ?_
 ·rintro ⟨j,lst,A,c,o3⟩ m2 g2 ⟨hj2,hm2,hf0,hg0⟩ nx2 nex
  refine zA 35 [2] ((j:Int)<needs.length) (λh35=>zA 38 [] ((j:Int)<2) (λh38=> ?_) (λh38=>nex (lst,A,c,o3) [] ⟨hf0,hg0.more Om⟩ Kr)) (λh35=>nex (lst,A,c,o3) [] ⟨hf0,hg0.more Om⟩ Kr)
  obtain rfl|rfl:j=0\/j=1:=by omega
  ·have hJ:0<needs.length:=by omega
   obtain ⟨nb,no,hnA,hnl⟩:=hN.elem w6 0 hJ
   have hmm:needs[0]∈needs:=List.getElem_mem hJ
   generalize needs[0]=md at hnl hmm
   have hol:=hopt md hmm
   refine zH 45 [2] hnA needs.length nc 0 3 hJ (zG 46 [] 83 nb (no+0*3+0) (nvV md) (λw hO=>hnl w hO.below _ 0 _ Kr) (zB [] λb13=>gR 49 [0,0] md.opt [] (λh49=> ?_) (λh49=>x_tst 57 [] ?_ ?_)))
   ·refine zA 69 [0] ((md.any.length:Int)=1) (λh69=>x_tst 77 [] ?_ ?_) (λh69=> ?_)
    ·obtain ⟨wd,hwd⟩:∃ w,md.any=[w]:=List.length_eq_one_iff.1 Om
     obtain ⟨wb,wo,hwA,hwl⟩:=(hWs md hmm).elem vJ 0 Om
     obtain ⟨q0,hs0,hb0⟩:=hf0.ex
     have hwn:wd.name.length<=1000:=hnm md hmm wd (by simp [hwd])
     have hw0:md.any[0]'Om=wd:=by simp [hwd]
     refine mN 10 [] (fO 50083 [1,0] 4 hwA md.any.length md.cap 0 4 Om (fN 50085 [] 6 9 wb (wo+0*4+0) (.string (mkS wd.name)) (λw hO=>hwl w hO.below _ 0 _ (by rw [hw0];kernel_rfl)) (bJ 50086 [] 7 wd.name [47] (bJ 50087 [] 8 (wd.name++[47]) [120] (zY [] 9 (x6 (R:=PutR (.slice A lst.length c) lst (wd.name++[47]++[120])) (λw hO=>vO (ob:=q0) (wd.name++[47]++[120]) w hs0 hf0.bare (hO.past 4 (o7++o2++o3)) (λb hb=>by have:=hb0 b hb;simp only [List.mem_append] at this ⊢;grind) (by have:=hg0.len;omega)) ?_))))))
     rintro _ ob0b hp0b
     obtain ⟨A0b,c0b,rfl,hf0b⟩:=hf0.put hp0b
     have hg0b:=hg0.put (.inr (.inl ⟨md,hmm,wd,hwd,rfl⟩))
     exact zK [1] ([GBb b11 k A0b ((x2 lst (wd.name++[47]++[120])).length) c0b,G8b b8,G0b b0 nm pre bld a1 a2 a3 nA nc needs vb vf]++(o7++o2++(o3++ob0b))) (λw hO=>(hO.past 1 (([GBb b11 k A0b ((x2 lst (wd.name++[47]++[120])).length) c0b,G8b b8,G0b b0 nm pre bld a1 a2 a3 nA nc needs vb vf]++(o7++o2++o3))++ob0b)).cast (by simp only [List.append_assoc,List.cons_append,List.nil_append])) (nx2 (1,(x2 lst (wd.name++[47]++[120])),A0b,c0b,(o3++ob0b)) 1 [] Om ⟨by omega,rfl,hf0b,hg0b.more Om⟩ Kr Kr)
    ·exact zK [] ([GBb b11 k A lst.length c,G8b b8,G0b b0 nm pre bld a1 a2 a3 nA nc needs vb vf]++(o7++o2++o3)) (λw hO=>(hO.past 1 ([GBb b11 k A lst.length c,G8b b8,G0b b0 nm pre bld a1 a2 a3 nA nc needs vb vf]++(o7++o2++o3))).cast (by simp only [List.append_assoc,List.cons_append,List.nil_append])) (nx2 (1,lst,A,c,o3) 1 [] Om ⟨by omega,rfl,hf0,hg0.more Om⟩ Kr Kr)
    ·exact zK [] ([GBb b11 k A lst.length c,G8b b8,G0b b0 nm pre bld a1 a2 a3 nA nc needs vb vf]++(o7++o2++o3)) (λw hO=>(hO.past 1 ([GBb b11 k A lst.length c,G8b b8,G0b b0 nm pre bld a1 a2 a3 nA nc needs vb vf]++(o7++o2++o3))).cast (by simp only [List.append_assoc,List.cons_append,List.nil_append])) (nx2 (1,lst,A,c,o3) 1 [] Om ⟨by omega,rfl,hf0,hg0.more Om⟩ Kr Kr)
   ·obtain ⟨q0,hs0,hb0⟩:=hf0.ex
    refine zZ 63 [1,0] [63] md.opt (yC (R:=PutR (.slice A lst.length c) lst ([63]++md.opt)) [] (λw hO=>vO (ob:=q0) ([63]++md.opt) w hs0 hf0.bare (hO.past 4 (o7++o2++o3)) (λb hb=>by have:=hb0 b hb;simp only [List.mem_append] at this ⊢;grind) (by have:=hg0.len;omega)) ?_)
    rintro _ oba hpa
    obtain ⟨Aa,ca,rfl,hfa⟩:=hf0.put hpa
    have hga:=hg0.put (.inl ⟨md,hmm,h49,rfl⟩)
    refine zA 69 [1,0] ((md.any.length:Int)=1) (λh69=>x_tst 77 [] ?_ ?_) (λh69=> ?_)
    ·obtain ⟨wd,hwd⟩:∃ w,md.any=[w]:=List.length_eq_one_iff.1 Om
     obtain ⟨wb,wo,hwA,hwl⟩:=(hWs md hmm).elem vJ 0 Om
     obtain ⟨qa,hsa,hba⟩:=hfa.ex
     have hwn:wd.name.length<=1000:=hnm md hmm wd (by simp [hwd])
     have hw0:md.any[0]'Om=wd:=by simp [hwd]
     refine mN 10 [] (fO 50083 [1,0] 4 hwA md.any.length md.cap 0 4 Om (fN 50085 [] 6 9 wb (wo+0*4+0) (.string (mkS wd.name)) (λw hO=>hwl w hO.below _ 0 _ (by rw [hw0];kernel_rfl)) (bJ 50086 [] 7 wd.name [47] (bJ 50087 [] 8 (wd.name++[47]) [120] (zY [] 9 (x6 (R:=PutR (.slice Aa (x2 lst ([63]++md.opt)).length ca) (x2 lst ([63]++md.opt)) (wd.name++[47]++[120])) (λw hO=>vO (ob:=qa) (wd.name++[47]++[120]) w hsa hfa.bare (hO.past 4 ((o7++o2++o3)++oba)) (λb hb=>by have:=hba b hb;simp only [List.mem_append] at this ⊢;grind) (by have:=hga.len;omega)) ?_))))))
     rintro _ obab hpab
     obtain ⟨Aab,cab,rfl,hfab⟩:=hfa.put hpab
     have hgab:=hga.put (.inr (.inl ⟨md,hmm,wd,hwd,rfl⟩))
     exact zK [1] ([GBb b11 k Aab ((x2 (x2 lst ([63]++md.opt)) (wd.name++[47]++[120])).length) cab,G8b b8,G0b b0 nm pre bld a1 a2 a3 nA nc needs vb vf]++(o7++o2++((o3++oba)++obab))) (λw hO=>(hO.past 1 ((([GBb b11 k Aab ((x2 (x2 lst ([63]++md.opt)) (wd.name++[47]++[120])).length) cab,G8b b8,G0b b0 nm pre bld a1 a2 a3 nA nc needs vb vf]++(o7++o2++o3))++oba)++obab)).cast (by simp only [List.append_assoc,List.cons_append,List.nil_append])) (nx2 (1,(x2 (x2 lst ([63]++md.opt)) (wd.name++[47]++[120])),Aab,cab,((o3++oba)++obab)) 1 [] Om ⟨by omega,rfl,hfab,hgab.more Om⟩ Kr Kr)
    ·exact zK [] ([GBb b11 k Aa ((x2 lst ([63]++md.opt)).length) ca,G8b b8,G0b b0 nm pre bld a1 a2 a3 nA nc needs vb vf]++(o7++o2++(o3++oba))) (λw hO=>(hO.past 1 (([GBb b11 k Aa ((x2 lst ([63]++md.opt)).length) ca,G8b b8,G0b b0 nm pre bld a1 a2 a3 nA nc needs vb vf]++(o7++o2++o3))++oba)).cast (by simp only [List.append_assoc,List.cons_append,List.nil_append])) (nx2 (1,(x2 lst ([63]++md.opt)),Aa,ca,(o3++oba)) 1 [] Om ⟨by omega,rfl,hfa,hga.more Om⟩ Kr Kr)
    ·exact zK [] ([GBb b11 k Aa ((x2 lst ([63]++md.opt)).length) ca,G8b b8,G0b b0 nm pre bld a1 a2 a3 nA nc needs vb vf]++(o7++o2++(o3++oba))) (λw hO=>(hO.past 1 (([GBb b11 k Aa ((x2 lst ([63]++md.opt)).length) ca,G8b b8,G0b b0 nm pre bld a1 a2 a3 nA nc needs vb vf]++(o7++o2++o3))++oba)).cast (by simp only [List.append_assoc,List.cons_append,List.nil_append])) (nx2 (1,(x2 lst ([63]++md.opt)),Aa,ca,(o3++oba)) 1 [] Om ⟨by omega,rfl,hfa,hga.more Om⟩ Kr Kr)
   ·refine zA 69 [0] ((md.any.length:Int)=1) (λh69=>x_tst 77 [] ?_ ?_) (λh69=> ?_)
    ·obtain ⟨wd,hwd⟩:∃ w,md.any=[w]:=List.length_eq_one_iff.1 Om
     obtain ⟨wb,wo,hwA,hwl⟩:=(hWs md hmm).elem vJ 0 Om
     obtain ⟨q0,hs0,hb0⟩:=hf0.ex
     have hwn:wd.name.length<=1000:=hnm md hmm wd (by simp [hwd])
     have hw0:md.any[0]'Om=wd:=by simp [hwd]
     refine mN 10 [] (fO 50083 [1,0] 4 hwA md.any.length md.cap 0 4 Om (fN 50085 [] 6 9 wb (wo+0*4+0) (.string (mkS wd.name)) (λw hO=>hwl w hO.below _ 0 _ (by rw [hw0];kernel_rfl)) (bJ 50086 [] 7 wd.name [47] (bJ 50087 [] 8 (wd.name++[47]) [120] (zY [] 9 (x6 (R:=PutR (.slice A lst.length c) lst (wd.name++[47]++[120])) (λw hO=>vO (ob:=q0) (wd.name++[47]++[120]) w hs0 hf0.bare (hO.past 4 (o7++o2++o3)) (λb hb=>by have:=hb0 b hb;simp only [List.mem_append] at this ⊢;grind) (by have:=hg0.len;omega)) ?_))))))
     rintro _ ob0b hp0b
     obtain ⟨A0b,c0b,rfl,hf0b⟩:=hf0.put hp0b
     have hg0b:=hg0.put (.inr (.inl ⟨md,hmm,wd,hwd,rfl⟩))
     exact zK [1] ([GBb b11 k A0b ((x2 lst (wd.name++[47]++[120])).length) c0b,G8b b8,G0b b0 nm pre bld a1 a2 a3 nA nc needs vb vf]++(o7++o2++(o3++ob0b))) (λw hO=>(hO.past 1 (([GBb b11 k A0b ((x2 lst (wd.name++[47]++[120])).length) c0b,G8b b8,G0b b0 nm pre bld a1 a2 a3 nA nc needs vb vf]++(o7++o2++o3))++ob0b)).cast (by simp only [List.append_assoc,List.cons_append,List.nil_append])) (nx2 (1,(x2 lst (wd.name++[47]++[120])),A0b,c0b,(o3++ob0b)) 1 [] Om ⟨by omega,rfl,hf0b,hg0b.more Om⟩ Kr Kr)
    ·exact zK [] ([GBb b11 k A lst.length c,G8b b8,G0b b0 nm pre bld a1 a2 a3 nA nc needs vb vf]++(o7++o2++o3)) (λw hO=>(hO.past 1 ([GBb b11 k A lst.length c,G8b b8,G0b b0 nm pre bld a1 a2 a3 nA nc needs vb vf]++(o7++o2++o3))).cast (by simp only [List.append_assoc,List.cons_append,List.nil_append])) (nx2 (1,lst,A,c,o3) 1 [] Om ⟨by omega,rfl,hf0,hg0.more Om⟩ Kr Kr)
    ·exact zK [] ([GBb b11 k A lst.length c,G8b b8,G0b b0 nm pre bld a1 a2 a3 nA nc needs vb vf]++(o7++o2++o3)) (λw hO=>(hO.past 1 ([GBb b11 k A lst.length c,G8b b8,G0b b0 nm pre bld a1 a2 a3 nA nc needs vb vf]++(o7++o2++o3))).cast (by simp only [List.append_assoc,List.cons_append,List.nil_append])) (nx2 (1,lst,A,c,o3) 1 [] Om ⟨by omega,rfl,hf0,hg0.more Om⟩ Kr Kr)
  ·have hJ:1<needs.length:=by omega
   obtain ⟨nb,no,hnA,hnl⟩:=hN.elem w6 1 hJ
   have hmm:needs[1]∈needs:=List.getElem_mem hJ
   generalize needs[1]=md at hnl hmm
   have hol:=hopt md hmm
   refine zH 45 [2] hnA needs.length nc 1 3 hJ (zG 46 [] 83 nb (no+1*3+0) (nvV md) (λw hO=>hnl w hO.below _ 0 _ Kr) (zB [] λb13=>gR 49 [0,0] md.opt [] (λh49=> ?_) (λh49=>x_tst 57 [] ?_ ?_)))
   ·refine zA 69 [0] ((md.any.length:Int)=1) (λh69=>x_tst 77 [] ?_ ?_) (λh69=> ?_)
    ·obtain ⟨wd,hwd⟩:∃ w,md.any=[w]:=List.length_eq_one_iff.1 Om
     obtain ⟨wb,wo,hwA,hwl⟩:=(hWs md hmm).elem vJ 0 Om
     obtain ⟨q0,hs0,hb0⟩:=hf0.ex
     have hwn:wd.name.length<=1000:=hnm md hmm wd (by simp [hwd])
     have hw0:md.any[0]'Om=wd:=by simp [hwd]
     refine mN 10 [] (fO 50083 [1,0] 4 hwA md.any.length md.cap 0 4 Om (fN 50085 [] 6 9 wb (wo+0*4+0) (.string (mkS wd.name)) (λw hO=>hwl w hO.below _ 0 _ (by rw [hw0];kernel_rfl)) (bJ 50086 [] 7 wd.name [47] (bJ 50087 [] 8 (wd.name++[47]) [120] (zY [] 9 (x6 (R:=PutR (.slice A lst.length c) lst (wd.name++[47]++[120])) (λw hO=>vO (ob:=q0) (wd.name++[47]++[120]) w hs0 hf0.bare (hO.past 4 (o7++o2++o3)) (λb hb=>by have:=hb0 b hb;simp only [List.mem_append] at this ⊢;grind) (by have:=hg0.len;omega)) ?_))))))
     rintro _ ob0b hp0b
     obtain ⟨A0b,c0b,rfl,hf0b⟩:=hf0.put hp0b
     have hg0b:=hg0.put (.inr (.inl ⟨md,hmm,wd,hwd,rfl⟩))
     exact zK [1] ([GBb b11 k A0b ((x2 lst (wd.name++[47]++[120])).length) c0b,G8b b8,G0b b0 nm pre bld a1 a2 a3 nA nc needs vb vf]++(o7++o2++(o3++ob0b))) (λw hO=>(hO.past 1 (([GBb b11 k A0b ((x2 lst (wd.name++[47]++[120])).length) c0b,G8b b8,G0b b0 nm pre bld a1 a2 a3 nA nc needs vb vf]++(o7++o2++o3))++ob0b)).cast (by simp only [List.append_assoc,List.cons_append,List.nil_append])) (nx2 (2,(x2 lst (wd.name++[47]++[120])),A0b,c0b,(o3++ob0b)) 0 [] Om ⟨by omega,rfl,hf0b,hg0b.more Om⟩ Kr Kr)
    ·exact zK [] ([GBb b11 k A lst.length c,G8b b8,G0b b0 nm pre bld a1 a2 a3 nA nc needs vb vf]++(o7++o2++o3)) (λw hO=>(hO.past 1 ([GBb b11 k A lst.length c,G8b b8,G0b b0 nm pre bld a1 a2 a3 nA nc needs vb vf]++(o7++o2++o3))).cast (by simp only [List.append_assoc,List.cons_append,List.nil_append])) (nx2 (2,lst,A,c,o3) 0 [] Om ⟨by omega,rfl,hf0,hg0.more Om⟩ Kr Kr)
    ·exact zK [] ([GBb b11 k A lst.length c,G8b b8,G0b b0 nm pre bld a1 a2 a3 nA nc needs vb vf]++(o7++o2++o3)) (λw hO=>(hO.past 1 ([GBb b11 k A lst.length c,G8b b8,G0b b0 nm pre bld a1 a2 a3 nA nc needs vb vf]++(o7++o2++o3))).cast (by simp only [List.append_assoc,List.cons_append,List.nil_append])) (nx2 (2,lst,A,c,o3) 0 [] Om ⟨by omega,rfl,hf0,hg0.more Om⟩ Kr Kr)
   ·obtain ⟨q0,hs0,hb0⟩:=hf0.ex
    refine zZ 63 [1,0] [63] md.opt (yC (R:=PutR (.slice A lst.length c) lst ([63]++md.opt)) [] (λw hO=>vO (ob:=q0) ([63]++md.opt) w hs0 hf0.bare (hO.past 4 (o7++o2++o3)) (λb hb=>by have:=hb0 b hb;simp only [List.mem_append] at this ⊢;grind) (by have:=hg0.len;omega)) ?_)
    rintro _ oba hpa
    obtain ⟨Aa,ca,rfl,hfa⟩:=hf0.put hpa
    have hga:=hg0.put (.inl ⟨md,hmm,h49,rfl⟩)
    refine zA 69 [1,0] ((md.any.length:Int)=1) (λh69=>x_tst 77 [] ?_ ?_) (λh69=> ?_)
    ·obtain ⟨wd,hwd⟩:∃ w,md.any=[w]:=List.length_eq_one_iff.1 Om
     obtain ⟨wb,wo,hwA,hwl⟩:=(hWs md hmm).elem vJ 0 Om
     obtain ⟨qa,hsa,hba⟩:=hfa.ex
     have hwn:wd.name.length<=1000:=hnm md hmm wd (by simp [hwd])
     have hw0:md.any[0]'Om=wd:=by simp [hwd]
     refine mN 10 [] (fO 50083 [1,0] 4 hwA md.any.length md.cap 0 4 Om (fN 50085 [] 6 9 wb (wo+0*4+0) (.string (mkS wd.name)) (λw hO=>hwl w hO.below _ 0 _ (by rw [hw0];kernel_rfl)) (bJ 50086 [] 7 wd.name [47] (bJ 50087 [] 8 (wd.name++[47]) [120] (zY [] 9 (x6 (R:=PutR (.slice Aa (x2 lst ([63]++md.opt)).length ca) (x2 lst ([63]++md.opt)) (wd.name++[47]++[120])) (λw hO=>vO (ob:=qa) (wd.name++[47]++[120]) w hsa hfa.bare (hO.past 4 ((o7++o2++o3)++oba)) (λb hb=>by have:=hba b hb;simp only [List.mem_append] at this ⊢;grind) (by have:=hga.len;omega)) ?_))))))
     rintro _ obab hpab
     obtain ⟨Aab,cab,rfl,hfab⟩:=hfa.put hpab
     have hgab:=hga.put (.inr (.inl ⟨md,hmm,wd,hwd,rfl⟩))
     exact zK [1] ([GBb b11 k Aab ((x2 (x2 lst ([63]++md.opt)) (wd.name++[47]++[120])).length) cab,G8b b8,G0b b0 nm pre bld a1 a2 a3 nA nc needs vb vf]++(o7++o2++((o3++oba)++obab))) (λw hO=>(hO.past 1 ((([GBb b11 k Aab ((x2 (x2 lst ([63]++md.opt)) (wd.name++[47]++[120])).length) cab,G8b b8,G0b b0 nm pre bld a1 a2 a3 nA nc needs vb vf]++(o7++o2++o3))++oba)++obab)).cast (by simp only [List.append_assoc,List.cons_append,List.nil_append])) (nx2 (2,(x2 (x2 lst ([63]++md.opt)) (wd.name++[47]++[120])),Aab,cab,((o3++oba)++obab)) 0 [] Om ⟨by omega,rfl,hfab,hgab.more Om⟩ Kr Kr)
    ·exact zK [] ([GBb b11 k Aa ((x2 lst ([63]++md.opt)).length) ca,G8b b8,G0b b0 nm pre bld a1 a2 a3 nA nc needs vb vf]++(o7++o2++(o3++oba))) (λw hO=>(hO.past 1 (([GBb b11 k Aa ((x2 lst ([63]++md.opt)).length) ca,G8b b8,G0b b0 nm pre bld a1 a2 a3 nA nc needs vb vf]++(o7++o2++o3))++oba)).cast (by simp only [List.append_assoc,List.cons_append,List.nil_append])) (nx2 (2,(x2 lst ([63]++md.opt)),Aa,ca,(o3++oba)) 0 [] Om ⟨by omega,rfl,hfa,hga.more Om⟩ Kr Kr)
    ·exact zK [] ([GBb b11 k Aa ((x2 lst ([63]++md.opt)).length) ca,G8b b8,G0b b0 nm pre bld a1 a2 a3 nA nc needs vb vf]++(o7++o2++(o3++oba))) (λw hO=>(hO.past 1 (([GBb b11 k Aa ((x2 lst ([63]++md.opt)).length) ca,G8b b8,G0b b0 nm pre bld a1 a2 a3 nA nc needs vb vf]++(o7++o2++o3))++oba)).cast (by simp only [List.append_assoc,List.cons_append,List.nil_append])) (nx2 (2,(x2 lst ([63]++md.opt)),Aa,ca,(o3++oba)) 0 [] Om ⟨by omega,rfl,hfa,hga.more Om⟩ Kr Kr)
   ·refine zA 69 [0] ((md.any.length:Int)=1) (λh69=>x_tst 77 [] ?_ ?_) (λh69=> ?_)
    ·obtain ⟨wd,hwd⟩:∃ w,md.any=[w]:=List.length_eq_one_iff.1 Om
     obtain ⟨wb,wo,hwA,hwl⟩:=(hWs md hmm).elem vJ 0 Om
     obtain ⟨q0,hs0,hb0⟩:=hf0.ex
     have hwn:wd.name.length<=1000:=hnm md hmm wd (by simp [hwd])
     have hw0:md.any[0]'Om=wd:=by simp [hwd]
     refine mN 10 [] (fO 50083 [1,0] 4 hwA md.any.length md.cap 0 4 Om (fN 50085 [] 6 9 wb (wo+0*4+0) (.string (mkS wd.name)) (λw hO=>hwl w hO.below _ 0 _ (by rw [hw0];kernel_rfl)) (bJ 50086 [] 7 wd.name [47] (bJ 50087 [] 8 (wd.name++[47]) [120] (zY [] 9 (x6 (R:=PutR (.slice A lst.length c) lst (wd.name++[47]++[120])) (λw hO=>vO (ob:=q0) (wd.name++[47]++[120]) w hs0 hf0.bare (hO.past 4 (o7++o2++o3)) (λb hb=>by have:=hb0 b hb;simp only [List.mem_append] at this ⊢;grind) (by have:=hg0.len;omega)) ?_))))))
     rintro _ ob0b hp0b
     obtain ⟨A0b,c0b,rfl,hf0b⟩:=hf0.put hp0b
     have hg0b:=hg0.put (.inr (.inl ⟨md,hmm,wd,hwd,rfl⟩))
     exact zK [1] ([GBb b11 k A0b ((x2 lst (wd.name++[47]++[120])).length) c0b,G8b b8,G0b b0 nm pre bld a1 a2 a3 nA nc needs vb vf]++(o7++o2++(o3++ob0b))) (λw hO=>(hO.past 1 (([GBb b11 k A0b ((x2 lst (wd.name++[47]++[120])).length) c0b,G8b b8,G0b b0 nm pre bld a1 a2 a3 nA nc needs vb vf]++(o7++o2++o3))++ob0b)).cast (by simp only [List.append_assoc,List.cons_append,List.nil_append])) (nx2 (2,(x2 lst (wd.name++[47]++[120])),A0b,c0b,(o3++ob0b)) 0 [] Om ⟨by omega,rfl,hf0b,hg0b.more Om⟩ Kr Kr)
    ·exact zK [] ([GBb b11 k A lst.length c,G8b b8,G0b b0 nm pre bld a1 a2 a3 nA nc needs vb vf]++(o7++o2++o3)) (λw hO=>(hO.past 1 ([GBb b11 k A lst.length c,G8b b8,G0b b0 nm pre bld a1 a2 a3 nA nc needs vb vf]++(o7++o2++o3))).cast (by simp only [List.append_assoc,List.cons_append,List.nil_append])) (nx2 (2,lst,A,c,o3) 0 [] Om ⟨by omega,rfl,hf0,hg0.more Om⟩ Kr Kr)
    ·exact zK [] ([GBb b11 k A lst.length c,G8b b8,G0b b0 nm pre bld a1 a2 a3 nA nc needs vb vf]++(o7++o2++o3)) (λw hO=>(hO.past 1 ([GBb b11 k A lst.length c,G8b b8,G0b b0 nm pre bld a1 a2 a3 nA nc needs vb vf]++(o7++o2++o3))).cast (by simp only [List.append_assoc,List.cons_append,List.nil_append])) (nx2 (2,lst,A,c,o3) 0 [] Om ⟨by omega,rfl,hf0,hg0.more Om⟩ Kr Kr)
 ·rintro ⟨lst,A,c,o3⟩ g2 ⟨hf0,hg0⟩
  refine zA 91 [] ((k:Int)<3) (λh91=>x_tst 96 [] (x_i 102 [] ((i+k:Nat):Int) (x_i 103 [] ((i+(k+1):Nat):Int) (z6 [] (λw hO=>fa (k+1) (by omega) w hO.below) (z6 [] (λw hO=>fp (atL l (i+(k+1))) w) (kW 106 [] (plc (atL l (i+(k+1))) 3=0) (λh5=> ?_) (λh5=> ?_)))))) ?_) (λh91=> ?_)
  ·refine kD [0] 1 87 #[.string (mkS (nmF k)),.slice A lst.length c] (λb12=>qJ [] [GBb b12 k A lst.length c,GBb b11 k A lst.length c,G8b b8,G0b b0 nm pre bld a1 a2 a3 nA nc needs vb vf] o7 (o2++o3) 0 (GBb b12 k A lst.length c::([GBb b11 k A lst.length c,G8b b8,G0b b0 nm pre bld a1 a2 a3 nA nc needs vb vf]++(o7++o2++o3))) (λw hO=>hO.cast (by simp only [List.append_assoc,List.cons_append,List.nil_append])) hO7.top (m:=1) (cp:=1) Om λv' o7' hS=> ?_)
   obtain ⟨A8,c8,rfl⟩:=Sl.form hS
   obtain ⟨q0,hs0,hb0⟩:=hf0.ex
   exact j6 7 [] (.slice A8 (xs.length+1) c8) (.slice A8 (xs++[(⟨nmF k,A,lst,c⟩:Fv)]).length c8) (by simp) (x_i 18 [] ((k+1:Nat):Int) (zK [] ([G8b b8,G0b b0 nm pre bld a1 a2 a3 nA nc needs vb vf]++(o7'++(o2++o3))) (λw hO=>(hO.past 2 ([G8b b8,G0b b0 nm pre bld a1 a2 a3 nA nc needs vb vf]++o7'++(o2++o3))).cast (by simp only [List.append_assoc,List.cons_append,List.nil_append])) (nx (k+1,xs++[⟨nmF k,A,lst,c⟩],A8,c8,o7',(o2++o3)) (4-(k+1)) [] Om ⟨by omega,rfl,(hO7.more (o2':=(o2++o3)) (λb hb=>by simp [hb])).add (x:=⟨nmF k,A,lst,c⟩) hS ⟨q0,hs0,λb hb=>by have:=hb0 b hb;simp only [List.mem_append] at this ⊢;grind⟩,hG.add (hk2 k h3) rfl (hg0.more Om)⟩ Kr Kr)))
  ·obtain ⟨q0,hs0,hb0⟩:=hf0.ex
   refine mN 7 [] (x_i 111 [0] ((k+1:Nat):Int) (xh_ixa 50112 [] 4 4 (k+1) 1 Om (xh_ldk 50113 [] 5 1 _ _ 9 _ (nmF_rd (k+1) Om) (zY [] 6 (x6 (R:=PutR (.slice A lst.length c) lst (nmF (k+1))) (λw hO=>vO (ob:=q0) (nmF (k+1)) w hs0 hf0.bare (hO.past 3 (o7++o2++o3)) (λb hb=>by have:=hb0 b hb;simp only [List.mem_append] at this ⊢;grind) (by have:=hg0.len;omega)) ?_)))))
   rintro _ oba hpa
   obtain ⟨Aa,ca,rfl,hfa⟩:=hf0.put hpa
   have hga:=hg0.put (.inr (.inr ⟨k+1,by omega,hk2 (k+1) h5,rfl⟩))
   refine kD [0,0] 1 87 #[.string (mkS (nmF k)),.slice Aa (x2 lst (nmF (k+1))).length ca] (λb12=>qJ [] [GBb b12 k Aa ((x2 lst (nmF (k+1))).length) ca,GBb b11 k Aa ((x2 lst (nmF (k+1))).length) ca,G8b b8,G0b b0 nm pre bld a1 a2 a3 nA nc needs vb vf] o7 (o2++o3++oba) 0 (GBb b12 k Aa ((x2 lst (nmF (k+1))).length) ca::(([GBb b11 k Aa ((x2 lst (nmF (k+1))).length) ca,G8b b8,G0b b0 nm pre bld a1 a2 a3 nA nc needs vb vf]++(o7++o2++o3))++oba)) (λw hO=>hO.cast (by simp only [List.append_assoc,List.cons_append,List.nil_append])) hO7.top (m:=1) (cp:=1) Om λv' o7' hS=> ?_)
   obtain ⟨A8,c8,rfl⟩:=Sl.form hS
   obtain ⟨qa,hsa,hba⟩:=hfa.ex
   exact j6 7 [] (.slice A8 (xs.length+1) c8) (.slice A8 (xs++[(⟨nmF k,Aa,(x2 lst (nmF (k+1))),ca⟩:Fv)]).length c8) (by simp) (x_i 18 [] ((k+1:Nat):Int) (zK [] ([G8b b8,G0b b0 nm pre bld a1 a2 a3 nA nc needs vb vf]++(o7'++(o2++o3++oba))) (λw hO=>(hO.past 2 ([G8b b8,G0b b0 nm pre bld a1 a2 a3 nA nc needs vb vf]++o7'++(o2++o3++oba))).cast (by simp only [List.append_assoc,List.cons_append,List.nil_append])) (nx (k+1,xs++[⟨nmF k,Aa,(x2 lst (nmF (k+1))),ca⟩],A8,c8,o7',(o2++o3++oba)) (4-(k+1)) [] Om ⟨by omega,rfl,(hO7.more (o2':=(o2++o3++oba)) (λb hb=>by simp [hb])).add (x:=⟨nmF k,Aa,(x2 lst (nmF (k+1))),ca⟩) hS ⟨qa,hsa,λb hb=>by have:=hba b hb;simp only [List.mem_append] at this ⊢;grind⟩,hG.add (hk2 k h3) rfl (hga.more Om)⟩ Kr Kr)))
  ·refine kD [0] 1 87 #[.string (mkS (nmF k)),.slice A lst.length c] (λb12=>qJ [] [GBb b12 k A lst.length c,GBb b11 k A lst.length c,G8b b8,G0b b0 nm pre bld a1 a2 a3 nA nc needs vb vf] o7 (o2++o3) 0 (GBb b12 k A lst.length c::([GBb b11 k A lst.length c,G8b b8,G0b b0 nm pre bld a1 a2 a3 nA nc needs vb vf]++(o7++o2++o3))) (λw hO=>hO.cast (by simp only [List.append_assoc,List.cons_append,List.nil_append])) hO7.top (m:=1) (cp:=1) Om λv' o7' hS=> ?_)
   obtain ⟨A8,c8,rfl⟩:=Sl.form hS
   obtain ⟨q0,hs0,hb0⟩:=hf0.ex
   exact j6 7 [] (.slice A8 (xs.length+1) c8) (.slice A8 (xs++[(⟨nmF k,A,lst,c⟩:Fv)]).length c8) (by simp) (x_i 18 [] ((k+1:Nat):Int) (zK [] ([G8b b8,G0b b0 nm pre bld a1 a2 a3 nA nc needs vb vf]++(o7'++(o2++o3))) (λw hO=>(hO.past 2 ([G8b b8,G0b b0 nm pre bld a1 a2 a3 nA nc needs vb vf]++o7'++(o2++o3))).cast (by simp only [List.append_assoc,List.cons_append,List.nil_append])) (nx (k+1,xs++[⟨nmF k,A,lst,c⟩],A8,c8,o7',(o2++o3)) (4-(k+1)) [] Om ⟨by omega,rfl,(hO7.more (o2':=(o2++o3)) (λb hb=>by simp [hb])).add (x:=⟨nmF k,A,lst,c⟩) hS ⟨q0,hs0,λb hb=>by have:=hb0 b hb;simp only [List.mem_append] at this ⊢;grind⟩,hG.add (hk2 k h3) rfl (hg0.more Om)⟩ Kr Kr)))
  ·refine kD [0] 1 87 #[.string (mkS (nmF k)),.slice A lst.length c] (λb12=>qJ [] [GBb b12 k A lst.length c,GBb b11 k A lst.length c,G8b b8,G0b b0 nm pre bld a1 a2 a3 nA nc needs vb vf] o7 (o2++o3) 0 (GBb b12 k A lst.length c::([GBb b11 k A lst.length c,G8b b8,G0b b0 nm pre bld a1 a2 a3 nA nc needs vb vf]++(o7++o2++o3))) (λw hO=>hO.cast (by simp only [List.append_assoc,List.cons_append,List.nil_append])) hO7.top (m:=1) (cp:=1) Om λv' o7' hS=> ?_)
   obtain ⟨A8,c8,rfl⟩:=Sl.form hS
   obtain ⟨q0,hs0,hb0⟩:=hf0.ex
   exact j6 7 [] (.slice A8 (xs.length+1) c8) (.slice A8 (xs++[(⟨nmF k,A,lst,c⟩:Fv)]).length c8) (by simp) (x_i 18 [] ((k+1:Nat):Int) (zK [] ([G8b b8,G0b b0 nm pre bld a1 a2 a3 nA nc needs vb vf]++(o7'++(o2++o3))) (λw hO=>(hO.past 2 ([G8b b8,G0b b0 nm pre bld a1 a2 a3 nA nc needs vb vf]++o7'++(o2++o3))).cast (by simp only [List.append_assoc,List.cons_append,List.nil_append])) (nx (k+1,xs++[⟨nmF k,A,lst,c⟩],A8,c8,o7',(o2++o3)) (4-(k+1)) [] Om ⟨by omega,rfl,(hO7.more (o2':=(o2++o3)) (λb hb=>by simp [hb])).add (x:=⟨nmF k,A,lst,c⟩) hS ⟨q0,hs0,λb hb=>by have:=hb0 b hb;simp only [List.mem_append] at this ⊢;grind⟩,hG.add (hk2 k h3) rfl (hg0.more Om)⟩ Kr Kr)))
end
section
structure Bv where
 name:YL
 rng:YL
 wh:YL
def bvC (x:Bv):List Value:=[.string (mkS x.name),.string (mkS x.rng),.string (mkS x.wh)]
structure BarG (own:Nat)(x:Bv):Prop where
 name:∃ k,k<4/\x.name=x4 ((own+1+k) % 5)
 rng:FewT x.rng
 wh:WhenT x.wh
structure NsO (A:Option Addr)(c:Nat)(xs:List Nv)(o1 o2:List Blk):Prop where
 top:Sl 83 3 (.slice A xs.length c) xs.length (xs.flatMap nvC) o1
 each:∀ x∈xs,∃ o,WsO x.A x.cap x.any o∧∀ b∈o,b∈o2
theorem NsO.nil:NsO none 0 [] [] []:=⟨Sl.nil _ _,λx h=>by simp at h⟩
theorem NsO.add {A A':Option Addr}{c c':Nat}{xs:List Nv}{o1 o1' o2 ob:List Blk}{x:Nv}(h:NsO A c xs o1 o2)(ht:Sl 83 3 (.slice A' (xs.length+1) c') (xs.length+1) (xs.flatMap nvC++nvC x) o1')(hx:WsO x.A x.cap x.any ob):NsO A' c' (xs++[x]) o1' (o2++ob):=
 ⟨by rw [List.length_append,List.length_singleton,List.flatMap_append,List.flatMap_singleton];exact ht,λy hy=>by
  rcases List.mem_append.1 hy with hy|hy
  ·obtain ⟨o,h1,h2⟩:=h.each y hy
   exact ⟨o,h1,λb hb=>List.mem_append_left _ (h2 b hb)⟩
  ·rw [List.mem_singleton.1 hy];exact ⟨ob,hx,λb hb=>List.mem_append_right _ hb⟩⟩
structure Rv where
 name:YL
 maj:Int
 min:Int
 pat:Int
 pre:YL
 bld:YL
 nA:Option Addr
 nc:Nat
 needs:List Nv
 bA:Option Addr
 bc:Nat
 bars:List Bv
 fA:Option Addr
 fc:Nat
 fts:List Fv
def rvC (x:Rv):List Value:=[.string (mkS x.name),YI x.maj,YI x.min,YI x.pat,.string (mkS x.pre),.string (mkS x.bld),.slice x.nA x.needs.length x.nc,.slice x.bA x.bars.length x.bc,.slice x.fA x.fts.length x.fc]
def rvV (x:Rv):Value:= .agg #[.string (mkS x.name),YI x.maj,YI x.min,YI x.pat,.string (mkS x.pre),.string (mkS x.bld),.slice x.nA x.needs.length x.nc,.slice x.bA x.bars.length x.bc,.slice x.fA x.fts.length x.fc]
def PbG (pre bld:YL):Prop:=(pre=[]/\bld=[])\/(pre=[114,99,46,49]/\bld=[])\/(pre=[]/\bld=[55])
structure RecG (own:Nat)(keep:Nat->Bool)(x:Rv):Prop where
 name:x.name=x4 (own % 5)
 ver:∃ a b:Nat,a<3/\b<2/\x.maj=a/\x.min=b/\x.pat=0
 pb:PbG x.pre x.bld
 nlen:x.needs.length<=2
 needs:∀ m∈x.needs,NeedG own m
 blen:x.bars.length<=1
 bars:∀ b∈x.bars,BarG own b
 fts:FeatsG x.needs keep 4 x.fts
structure RecO (x:Rv)(ob:List Blk):Prop where
 ex:∃ o1 o2 o4 o7 o8,ob=o4++(o1++o2)++(o7++o8)/\NsO x.nA x.nc x.needs o1 o2/\Sl 85 3 (.slice x.bA x.bars.length x.bc) x.bars.length (x.bars.flatMap bvC) o4/\FtO x.fA x.fc x.fts o7 o8
theorem nameT_len (k:Nat):(x4 k).length<=3:=by unfold x4;split<;>(try split)<;>(try split)<;>(try split)<;>simp
theorem NsO.reads {A:Option Addr}{c:Nat}{xs:List Nv}{o1 o2 L:List Blk}{M:List Nat}{W w:World}(h:NsO A c xs o1 o2)(hO:Own M W w L)(h1:∀ b∈o1,b∈L)(h2:∀ b∈o2,b∈L):Reads nvC w w.heap.size A xs∧∀ m∈xs,Reads wvC w w.heap.size m.A m.any:=
 ⟨Sl.reads h.top rfl hO h1,λm hm=>by
  obtain ⟨o,⟨⟨p1,p2,rfl,hp,_⟩⟩,ho⟩:=h.each m hm
  exact Sl.reads hp rfl hO λb hb=>h2 b (ho b (List.mem_append_left _ hb))⟩
theorem need_short {own:Nat}{x:Nv}(h:NeedG own x):x.opt.length<=1000∧∀ w∈x.any,w.name.length<=1000:=by
 refine ⟨?_,λw hw=> ?_⟩
 ·rcases h.opt with e|⟨j,_,e⟩
  ·rw [e];simp
  ·rw [e];have:=wordT_four j;omega
 ·have key:∀ (a:Bool) (u:Wv),WishG own a u->u.name.length<=1000:=λa u hu=>by
   obtain ⟨k,_,e⟩:=hu.name
   rw [e];have:=nameT_len ((own+1+k) % 5);omega
  rcases h.any with ⟨u,e,hu⟩|⟨u,z,e,hu,hz⟩
  ·rw [e] at hw;rw [List.mem_singleton.1 hw];exact key _ _ hu
  ·rw [e] at hw
   rcases List.mem_cons.1 hw with rfl|hw
   ·exact key _ _ hu
   ·rw [List.mem_singleton.1 hw];exact key _ _ hz
def NeedR (own:Nat)(v:Value)(ob:List Blk):Prop:=∃ x,v=nvV x/\NeedG own x/\WsO x.A x.cap x.any ob
theorem record_gen (v:Value)(l:List Int)(i own:Nat)(W:World)(hv:ReadsI W W.heap.size v l)(hl:l.length<=9223372036854775807)(hi:i<=1000)(ho:own<=1000):YC 20 #[v,YI (i:Int),YI (own:Int)] W λe w'=>∃ x ob,e= .returned (rvV x)/\(RecG own (λj=>decide (plc (atL l (i+52+j)) 3≠0)) x/\RecO x ob)/\Own [] W w' ob:=by
 obtain ⟨a,ha,ha3⟩:=xN (atL l i) 3 (by decide)
 obtain ⟨b,hb,hb2⟩:=xN (atL l (i+1)) 2 (by decide)
 obtain ⟨p,hp,hp9⟩:=xN (atL l (i+2)) 9 (by decide)
 obtain ⟨n4,hn,hn4⟩:=xN (atL l (i+3)) 4 (by decide)
 obtain ⟨m5,hm,hm5⟩:=xN (atL l (i+45)) 5 (by decide)
 obtain ⟨q4,hq,hq4⟩:=xN (atL l (i+46)) 4 (by decide)
 have f1:=gD hv hl i 3 Om (by decide) (by decide) ha
 have f2:=gD hv hl (i+1) 2 Om (by decide) (by decide) hb
 have f3:=gD hv hl (i+2) 9 Om (by decide) (by decide) hp
 have f4:=gD hv hl (i+3) 4 Om (by decide) (by decide) hn
 have f5:=gD hv hl (i+45) 5 Om (by decide) (by decide) hm
 have f6:=gD hv hl (i+46) 4 Om (by decide) (by decide) hq
 refine z8 Tryz.func20 (zB [] λb1=>z6 [] (λw hO=>name_at own w) (z6 [] (λw hO=>f1 w hO.below) (x_i 16 [] ((i+1:Nat):Int) (z6 [] (λw hO=>f2 w hO.below) (zB [] λb2=>x_i 22 [0] ((i+2:Nat):Int) (z6 [] (λw hO=>f3 w hO.below) ?_))))))
 refine jX (α:=YL) 24 (λ_=>[(0,v),(1,YI (i:Int)),(2,YI (own:Int)),(6,Zp b1 0),(7,Zp b2 0)]) (λpre=>[⟨b2, #[.string (mkS (x4 (own % 5))),YI a,YI b,YI 0,.string (mkS pre),.string (mkS []),.slice none 0 0,.slice none 0 0,.slice none 0 0],29⟩,⟨b1,ZE,29⟩]) (λpre=>(pre=[]∧¬ (p:Int)=1)\/(pre=[114,99,46,49]/\(p:Int)=1)) [] (λnj=>qT 24 ((p:Int)=1) (λh=>nj [114,99,46,49] [0] (.inr ⟨rfl,h⟩) Kr) (λh=>nj [] [] (.inl ⟨rfl,h⟩) Kr)) ?_
 rintro pre g hpre
 refine x_i 29 [] ((i+2:Nat):Int) (z6 [] (λw hO=>f3 w hO.below) ?_)
 refine jX (α:=YL) 31 (λ_=>[(0,v),(1,YI (i:Int)),(2,YI (own:Int)),(6,Zp b1 0),(7,Zp b2 0)]) (λbld=>[⟨b2, #[.string (mkS (x4 (own % 5))),YI a,YI b,YI 0,.string (mkS pre),.string (mkS bld),.slice none 0 0,.slice none 0 0,.slice none 0 0],29⟩,⟨b1,ZE,29⟩]) (λbld=>PbG pre bld) [] (λnj=>qT 31 ((p:Int)=2) (λh=>nj [55] [0] (hpre.elim (λq=> .inr (.inr ⟨q.1,rfl⟩)) (λq=>absurd q.2 Om)) Kr) (λh=>nj [] [] (hpre.elim (λq=> .inl ⟨q.1,rfl⟩) (λq=> .inr (.inl ⟨q.1,rfl⟩))) Kr)) ?_
 rintro bld g2 hpb
 refine x_i 36 [] ((i+3:Nat):Int) (z6 [] (λw hO=>f4 w hO.below) (pX 38 [] (YI ((n4 % 3:Nat):Int)) Kr ?_))
 refine zK [] ([⟨b2, #[.string (mkS (x4 (own % 5))),YI a,YI b,YI 0,.string (mkS pre),.string (mkS bld),.slice none 0 0,.slice none 0 0,.slice none 0 0],29⟩,⟨b1,ZE,29⟩]++([]++[])) (λw hO=>hO.past 0 _) ?_
 refine x_loopE (α:=Nat×List Nv×Option Addr×Nat×List Blk×List Blk) (β:=List Nv×Option Addr×Nat×List Blk×List Blk) (λ(k,_,_,_,_,_)=>[(0,v),(1,YI (i:Int)),(2,YI (own:Int)),(6,Zp b1 0),(7,Zp b2 0),(8,YI (k:Int))]) (λ(_,ns,A,c,o1,o2)=>[⟨b2, #[.string (mkS (x4 (own % 5))),YI a,YI b,YI 0,.string (mkS pre),.string (mkS bld),.slice A ns.length c,.slice none 0 0,.slice none 0 0],29⟩,⟨b1,ZE,29⟩]++(o1++o2)) (λ(k,ns,A,c,o1,o2) m=>m=k/\ns.length+k<=2/\NsO A c ns o1 o2∧∀ x∈ns,NeedG own x) (n4 % 3,[],none,0,[],[]) (n4 % 3)
  (λ_=>[(0,v),(1,YI (i:Int)),(2,YI (own:Int)),(6,.pointer (some ⟨b1,0,none⟩)),(7,.pointer (some ⟨b2,0,none⟩))]) (λ(ns,A,c,o1,o2)=>[⟨b2, #[.string (mkS (x4 (own % 5))),YI a,YI b,YI 0,.string (mkS pre),.string (mkS bld),.slice A ns.length c,.slice none 0 0,.slice none 0 0],29⟩,⟨b1,ZE,29⟩]++(o1++o2)) (λ(ns,A,c,o1,o2)=>ns.length<=2/\NsO A c ns o1 o2∧∀ x∈ns,NeedG own x) [] ⟨rfl,by simp;omega,NsO.nil,λx h=>by simp at h⟩ ?_ ?_
 ·rintro ⟨k,ns,A,c,o1,o2⟩ mk g3 ⟨rfl,hlen,hO1,hG⟩ nx nex
  refine zA 40 [] ((0:Int)<mk) (λh40=> ?_) (λh40=>nex (ns,A,c,o1,o2) [] ⟨by omega,hO1,hG⟩ Kr)
  obtain ⟨k,rfl⟩:∃ k,mk=k+1:=⟨mk-1,by omega⟩
  refine x5 13 [] [⟨b2, #[.string (mkS (x4 (own % 5))),YI a,YI b,YI 0,.string (mkS pre),.string (mkS bld),.slice A ns.length c,.slice none 0 0,.slice none 0 0],29⟩] (λw hO=>hO.nth 0 _) (x_i 47 [0] ((i+4:Nat):Int) (x_i 49 [] ((20*(k+1):Nat):Int) (x_i 50 [] ((i+4+20*(k+1):Nat):Int) (j6 51 [] (YI (IntKind.i64.wrap (((i+4+20*(k+1):Nat):Int) -20))) (YI ((i+4+20*k:Nat):Int)) (by rw [IntWalk.i64_in _ Om];congr 1;omega) (zY [] 10 (x6 (R:=NeedR own) (λw hO=>(need_gen v l (i+4+20*k) own w ((hv.below hO.below).more hO.size) hl Om Om).mono λe w' ⟨x,ob,h1,h2,h3⟩=>⟨_,ob,h1,⟨x,rfl,h2⟩,h3⟩) ?_))))))
  rintro _ ob ⟨x,rfl,hx,hxo⟩
  refine zY [] 11 (gF 1 83 (nvV x).cells λb3=>zY [] 12 (vZ [⟨b3,(nvV x).cells,83⟩,⟨b2, #[.string (mkS (x4 (own % 5))),YI a,YI b,YI 0,.string (mkS pre),.string (mkS bld),.slice A ns.length c,.slice none 0 0,.slice none 0 0],29⟩,⟨b1,ZE,29⟩] o1 (o2++ob) 0 (⟨b3,(nvV x).cells,83⟩::(([⟨b2, #[.string (mkS (x4 (own % 5))),YI a,YI b,YI 0,.string (mkS pre),.string (mkS bld),.slice A ns.length c,.slice none 0 0,.slice none 0 0],29⟩,⟨b1,ZE,29⟩]++(o1++o2))++ob)) [⟨b2, #[.string (mkS (x4 (own % 5))),YI a,YI b,YI 0,.string (mkS pre),.string (mkS bld),.slice A ns.length c,.slice none 0 0,.slice none 0 0],29⟩] (λw hO=>hO.cast (by simp only [List.append_assoc,List.cons_append,List.nil_append])) (λo w hO=>hO.nth 1 _) hO1.top (m:=1) (cp:=1) Om λv' o1' hS=> ?_))
  obtain ⟨A',c',rfl⟩:=Sl.form hS
  refine j6 42 [1] (YI (IntKind.i64.wrap (((k+1:Nat):Int) -1))) (YI (k:Int)) (by rw [IntWalk.i64_in _ Om];congr 1;omega) (zK [] ([⟨b2, #[.string (mkS (x4 (own % 5))),YI a,YI b,YI 0,.string (mkS pre),.string (mkS bld),.slice A' (ns++[x]).length c',.slice none 0 0,.slice none 0 0],29⟩,⟨b1,ZE,29⟩]++(o1'++(o2++ob))) (λw hO=>(hO.past 1 ([⟨b2, #[.string (mkS (x4 (own % 5))),YI a,YI b,YI 0,.string (mkS pre),.string (mkS bld),.slice A' (ns.length+1) c',.slice none 0 0,.slice none 0 0],29⟩,⟨b1,ZE,29⟩]++o1'++(o2++ob))).cast (by simp only [List.append_assoc,List.cons_append,List.nil_append,List.length_append,List.length_cons,List.length_nil])) ?_)
  exact nx (k,ns++[x],A',c',o1',o2++ob) k [] Om ⟨rfl,by simp;omega,hO1.add hS hxo,λy hy=>by
   rcases List.mem_append.1 hy with hy|hy
   ·exact hG y hy
   ·rw [List.mem_singleton.1 hy];exact hx⟩ Kr Kr
 ·rintro ⟨ns,A,c,o1,o2⟩ g3 ⟨hlen,hO1,hG⟩
  refine x_i 59 [] ((i+45:Nat):Int) (z6 [] (λw hO=>f5 w hO.below) ?_)
  refine jX (α:=List Bv×Option Addr×Nat×List Blk) 61 (λ_=>[(0,v),(1,YI (i:Int)),(2,YI (own:Int)),(6,Zp b1 0),(7,Zp b2 0)]) (λ(bs,bA,bc,o4)=>[⟨b2, #[.string (mkS (x4 (own % 5))),YI a,YI b,YI 0,.string (mkS pre),.string (mkS bld),.slice A ns.length c,.slice bA bs.length bc,.slice none 0 0],29⟩,⟨b1,ZE,29⟩]++(o4++(o1++o2))) (λ(bs,bA,bc,o4)=>bs.length<=1/\(∀ y∈bs,BarG own y)/\Sl 85 3 (.slice bA bs.length bc) bs.length (bs.flatMap bvC) o4) [] (λnj=>qT 61 ((m5:Int)=1) (λh61=> ?_) (λh61=>nj ([],none,0,[]) [] ⟨by simp,λy h=>by simp at h,Sl.nil _ _⟩ Kr)) ?_
  ·refine x5 21 [] [⟨b2, #[.string (mkS (x4 (own % 5))),YI a,YI b,YI 0,.string (mkS pre),.string (mkS bld),.slice A ns.length c,.slice none 0 0,.slice none 0 0],29⟩] (λw hO=>hO.nth 0 _) (x_i 65 [0] ((own+1:Nat):Int) (x_i 68 [] ((i+46:Nat):Int) (x_i 74 [] ((i+47:Nat):Int) (x_i 78 [] ((i+50:Nat):Int) (zY [] 7 (z6 [] (λw hO=>f6 w hO.below) (x_i 70 [] ((own+1+q4:Nat):Int) (zY [] 9 (z6 [] (λw hO=>name_at (own+1+q4) w) (zY [] 13 (mA (R:=λv=>∃ t,FewT t/\v= .string (mkS t)) [] (λw hO=>(few_gen v l (i+47) w ((hv.below hO.below).more hO.size) hl Om).mono λe w' ⟨t,h1,h2,h3⟩=>⟨_,h2,⟨t,h1,rfl⟩,h3⟩) ?_)))))))))))
   rintro _ ⟨t,ht,rfl⟩
   refine zY [] 17 (mA (R:=λv=>∃ t,WhenT t/\v= .string (mkS t)) [] (λw hO=>(when_gen v l (i+50) w ((hv.below hO.below).more hO.size) hl Om).mono λe w' ⟨t,h1,h2,h3⟩=>⟨_,h2,⟨t,h1,rfl⟩,h3⟩) ?_)
   rintro _ ⟨u,hu,rfl⟩
   refine zY [] 19 (gF 1 85 #[.string (mkS (x4 ((own+1+q4) % 5))),.string (mkS t),.string (mkS u)] λb3=>zY [] 20 (vZ [⟨b3, #[.string (mkS (x4 ((own+1+q4) % 5))),.string (mkS t),.string (mkS u)],85⟩,⟨b2, #[.string (mkS (x4 (own % 5))),YI a,YI b,YI 0,.string (mkS pre),.string (mkS bld),.slice A ns.length c,.slice none 0 0,.slice none 0 0],29⟩,⟨b1,ZE,29⟩] [] (o1++o2) 0 (⟨b3, #[.string (mkS (x4 ((own+1+q4) % 5))),.string (mkS t),.string (mkS u)],85⟩::([⟨b2, #[.string (mkS (x4 (own % 5))),YI a,YI b,YI 0,.string (mkS pre),.string (mkS bld),.slice A ns.length c,.slice none 0 0,.slice none 0 0],29⟩,⟨b1,ZE,29⟩]++(o1++o2))) [⟨b2, #[.string (mkS (x4 (own % 5))),YI a,YI b,YI 0,.string (mkS pre),.string (mkS bld),.slice A ns.length c,.slice none 0 0,.slice none 0 0],29⟩] (λw hO=>hO.cast (by simp only [List.append_assoc,List.cons_append,List.nil_append])) (λo w hO=>hO.nth 1 _) (Sl.nil 85 3) (m:=1) (cp:=1) Om λv' o4 hS=> ?_))
   obtain ⟨bA,bc,rfl⟩:=Sl.form hS
   exact zK [1] ([⟨b2, #[.string (mkS (x4 (own % 5))),YI a,YI b,YI 0,.string (mkS pre),.string (mkS bld),.slice A ns.length c,.slice bA (0+1) bc,.slice none 0 0],29⟩,⟨b1,ZE,29⟩]++(o4++(o1++o2))) (λw hO=>(hO.past 1 ([⟨b2, #[.string (mkS (x4 (own % 5))),YI a,YI b,YI 0,.string (mkS pre),.string (mkS bld),.slice A ns.length c,.slice bA (0+1) bc,.slice none 0 0],29⟩,⟨b1,ZE,29⟩]++o4++(o1++o2))).cast (by simp only [List.append_assoc,List.cons_append,List.nil_append])) (nj ([⟨x4 ((own+1+q4) % 5),t,u⟩],bA,bc,o4) [] ⟨by simp,λy hy=>by rw [List.mem_singleton.1 hy];exact ⟨⟨q4,hq4,rfl⟩,ht,hu⟩,hS⟩ Kr)
  rintro ⟨bs,bA,bc,o4⟩ g4 ⟨hbl,hbG,hbS⟩
  refine x_i 86 [] ((i+52:Nat):Int) (yC (R:=λv ob=>∃ Af cf xs o7 o8,v= .slice Af xs.length cf/\ob=o7++o8/\FtO Af cf xs o7 o8/\FeatsG ns (λj=>decide (plc (atL l (i+52+j)) 3≠0)) 4 xs) [0] (λw hO=>have hr:=hO1.reads (hO.past 2 (o4++(o1++o2))) (λb hb=>by simp [hb]) (λb hb=>by simp [hb]);(features_gen v l (i+52) (x4 (own % 5)) pre bld a b 0 A c ns (.slice bA bs.length bc) (.slice none 0 0) w ((hv.below hO.below).more hO.size) hl Om hr.1 hr.2 Om (λm hm=>(need_short (hG m hm)).1) (λm hm=>(need_short (hG m hm)).2)).mono λe w' ⟨Af,cf,xs,o7,o8,h1,h2,h3⟩=>⟨_,_,h1,⟨Af,cf,xs,o7,o8,rfl,rfl,h2⟩,h3⟩) ?_)
  rintro _ _ ⟨Af,cf,xs,o7,o8,rfl,rfl,hF,hFG⟩
  exact qL [0,0,1] 1 (rvV ⟨x4 (own % 5),a,b,0,pre,bld,A,c,ns,bA,bc,bs,Af,cf,xs⟩) λw hO=>⟨_,_,rfl,⟨⟨rfl,⟨a,b,ha3,hb2,rfl,rfl,rfl⟩,hpb,hlen,hG,hbl,hbG,hFG⟩,⟨o1,o2,o4,o7,o8,rfl,hO1,hbS,hF⟩⟩,hO.past 2 _⟩
end
section
def Wv.wt (x:Wv):Wt:=⟨x.name,x.rng,x.fs,x.bare⟩
def Nv.nt (x:Nv):Nt:=⟨x.any.map Wv.wt,x.wh,x.opt⟩
theorem pR (x:Bv):(bvC x).length=3:=rfl
def bvV (x:Bv):Value:= .agg #[.string (mkS x.name),.string (mkS x.rng),.string (mkS x.wh)]
def Bv.bt (x:Bv):Bt:=⟨x.name,x.rng,x.wh⟩
def Rv.ver (x:Rv):Ver:=⟨x.maj,x.min,x.pat,x.pre,x.bld⟩
def Rv.rt (x:Rv):Rt:=⟨x.name,x.ver,x.needs.map Nv.nt,x.bars.map Bv.bt,yI x.fts⟩
structure RcIn (w:World)(B:Nat)(x:Rv):Prop where
 needs:Reads nvC w B x.nA x.needs
 any:∀ n∈x.needs,Reads wvC w B n.A n.any
 wfs:∀ n∈x.needs,∀ u∈n.any,Reads y7 w B u.A u.fs
 bars:Reads bvC w B x.bA x.bars
 fts:FtIn w B x.fA x.fts
 nn:x.needs.length<=5000
 na:∀ n∈x.needs,n.any.length<=5000
 nf:∀ n∈x.needs,∀ u∈n.any,u.fs.length<=5000
 nb:x.bars.length<=5000
 sn:x.name.length<=1000000/\x.pre.length<=1000000/\x.bld.length<=1000000
 sw:∀ n∈x.needs,n.wh.length<=1000000/\n.opt.length<=1000000
 su:∀ n∈x.needs,∀ u∈n.any,u.name.length<=1000000/\u.rng.length<=1000000∧∀ s∈u.fs,s.length<=1000000
 sb:∀ b∈x.bars,b.name.length<=1000000/\b.rng.length<=1000000/\b.wh.length<=1000000
theorem RcIn.on {w w':World}{B B':Nat}{x:Rv}(h:RcIn w B x)(hb:Below B w w')(hB:B<=B'):RcIn w' B' x:=
 ⟨h.needs.on hb hB,λn hn=>(h.any n hn).on hb hB,λn hn u hu=>(h.wfs n hn u hu).on hb hB,h.bars.on hb hB,h.fts.on hb hB,h.nn,h.na,h.nf,h.nb,h.sn,h.sw,h.su,h.sb⟩
structure RcSm (w:World)(B:Nat)(x:Rv):Prop where
 needs:Reads nvC w B x.nA x.needs
 any:∀ n∈x.needs,Reads wvC w B n.A n.any
 wfs:∀ n∈x.needs,∀ u∈n.any,Reads y7 w B u.A u.fs
 bars:Reads bvC w B x.bA x.bars
 fts:FtIn w B x.fA x.fts
 nn:x.needs.length<=5000
 na:∀ n∈x.needs,n.any.length<=5000
 nf:∀ n∈x.needs,∀ u∈n.any,u.fs.length<=5000
 nb:x.bars.length<=5000
theorem RcIn.sm {w:World}{B:Nat}{x:Rv}(h:RcIn w B x):RcSm w B x:=⟨h.needs,h.any,h.wfs,h.bars,h.fts,h.nn,h.na,h.nf,h.nb⟩
theorem RcSm.on {w w':World}{B B':Nat}{x:Rv}(h:RcSm w B x)(hb:Below B w w')(hB:B<=B'):RcSm w' B' x:=
 ⟨h.needs.on hb hB,λn hn=>(h.any n hn).on hb hB,λn hn u hu=>(h.wfs n hn u hu).on hb hB,h.bars.on hb hB,h.fts.on hb hB,h.nn,h.na,h.nf,h.nb⟩
end
section
def wB (sep:YL):List YL->YL
 | []=>[]
 | [x]=>x
 |x::y::l=>x++sep++wB sep (y::l)
theorem joinB_two (sep x y:YL)(l:List YL):wB sep (x::y::l)=x++sep++wB sep (y::l):=rfl
theorem joinB_snoc (sep x:YL):∀ (l:List YL),wB sep (l++[x])=if l=[] then x else wB sep l++sep++x
 | []=>rfl
 | [y]=>rfl
 |y::z::l=>by
  rw [if_neg (by simp)]
  show y++sep++wB sep ((z::l)++[x])=y++sep++wB sep (z::l)++sep++x
  rw [joinB_snoc sep x (z::l),if_neg (by simp)]
  simp only [List.append_assoc]
def sumN:List Nat->Nat
 | []=>0
 |n::l=>n+sumN l
theorem joinB_len (sep:YL):∀ (l:List YL),(wB sep l).length=sumN (l.map (·.length))+(l.length-1)*sep.length
 | []=>by simp [wB,sumN]
 | [x]=>by simp [wB,sumN]
 |x::y::l=>by
  rw [joinB_two,List.length_append,List.length_append,joinB_len sep (y::l)]
  show x.length+sep.length+(sumN ((y::l).map (·.length))+((y::l).length-1)*sep.length)=x.length+sumN ((y::l).map (·.length))+((y::l).length+1-1)*sep.length
  have e:((y::l).length+1-1)*sep.length=((y::l).length-1)*sep.length+sep.length:=by
   rw [show (y::l).length+1-1=((y::l).length-1)+1 from by simp,Nat.add_mul,Nat.one_mul]
  omega
def kC (a:List Co):YL:=wB [44,32] (a.map Co.print)
def kR (r:List (List Co)):YL:=wB [32,124,124,32] (r.map kC)
def fewA (a:List Co):Bool:=decide (1<=a.length/\a.length<=6) && a.all Co.may
def fewR (r:List (List Co)):Bool:=decide (1<=r.length/\r.length<=6) && r.all fewA
def rgMay (r:List (List Co)):Bool:=fewR r && decide ((kR r).length<=96)
def jZ (r:List (List Co)):YL:=if rgMay r then kR r else []
theorem fewA.facts {a:List Co}(h:fewA a=true):(1<=a.length/\a.length<=6)∧∀ c∈a,c.may=true:=by
 unfold fewA at h
 rw [Bool.and_eq_true,decide_eq_true_eq] at h
 exact ⟨h.1,List.all_eq_true.1 h.2⟩
theorem fewR.facts {r:List (List Co)}(h:fewR r=true):(1<=r.length/\r.length<=6)∧∀ a∈r,fewA a=true:=by
 unfold fewR at h
 rw [Bool.and_eq_true,decide_eq_true_eq] at h
 exact ⟨h.1,List.all_eq_true.1 h.2⟩
theorem rgMay.facts {r:List (List Co)}(h:rgMay r=true):fewR r=true/\(kR r).length<=96:=by
 unfold rgMay at h
 rw [Bool.and_eq_true,decide_eq_true_eq] at h
 exact h
def yH:YL->YL
 | []=>[]
 |c::l=>if c=32 then yH l else c::l
def yE (s:YL):YL:=(yH (yH s).reverse).reverse
def kF:YL->YL->List YL
 |acc,[]=>[acc]
 |acc,[c]=>[acc++[c]]
 |acc,c::d::r=>if c=124/\d=124 then acc::kF [] r else kF (acc++[c]) (d::r)
def dW {α β:Type}(f:α->Option β):List α->Option (List β)
 | []=>some []
 |x::l=>match f x,dW f l with
  |some y,some m=>some (y::m)
  |_,_=>none
theorem allO_cons {α β:Type}{f:α->Option β}{x:α}{l:List α}{y:β}{m:List β}(h1:f x=some y)(h2:dW f l=some m):dW f (x::l)=some (y::m):=by
 show (match f x,dW f l with|some y,some m=>some (y::m)|_,_=>none)=_
 rw [h1,h2]
theorem allO_inv {α β:Type}{f:α->Option β}{x:α}{l:List α}{m:List β}(h:dW f (x::l)=some m):∃ y m',m=y::m'/\f x=some y/\dW f l=some m':=by
 have h:(match f x,dW f l with|some y,some m=>some (y::m)|_,_=>none)=some m:=h
 cases h1:f x with
 |none=>rw [h1] at h;cases h
 |some y=>
  cases h2:dW f l with
  |none=>rw [h1,h2] at h;cases h
  |some m'=>rw [h1,h2] at h;injection h with h;exact ⟨y,m',h.symm,rfl,rfl⟩
theorem allO_none {α β:Type}{f:α->Option β}:∀ {l:List α} {x:α},x∈l->f x=none->dW f l=none
 |y::l,x,hx,h=>by
  show (match f y,dW f l with|some y,some m=>some (y::m)|_,_=>none)=_
  rcases List.mem_cons.1 hx with rfl|hx
  ·rw [h]
  ·rw [allO_none hx h];cases f y<;>rfl
theorem dV {α β:Type}{f:α->Option β}:∀ {l:List α} {m:List β},dW f l=some m->m.length=l.length
 | [],m,h=>by injection h with h;subst h;rfl
 |x::l,m,h=>by
  obtain ⟨y,m',rfl,_,h2⟩:=allO_inv h
  rw [List.length_cons,List.length_cons,dV h2]
theorem allO_app {α β:Type}{f:α->Option β}{b:List α}{n:List β}(hb:dW f b=some n):∀ {a:List α} {m:List β},dW f a=some m->dW f (a++b)=some (m++n)
 | [],m,h=>by injection h with h;subst h;exact hb
 |x::a,m,h=>by
  obtain ⟨y,m',rfl,h1,h2⟩:=allO_inv h
  exact allO_cons h1 (allO_app hb h2)
theorem allO_snoc {α β:Type}{f:α->Option β}{a:List α}{m:List β}{x:α}{y:β}(h:dW f a=some m)(h1:f x=some y):dW f (a++[x])=some (m++[y]):=allO_app (allO_cons h1 rfl) h
theorem allO_back {α β:Type}{f:α->Option β}:∀ {l:List α} {m:List β},dW f l=some m→∀ y∈m,∃ x∈l,f x=some y
 | [],m,h,y,hy=>by injection h with h;subst h;cases hy
 |z::l,m,h,y,hy=>by
  obtain ⟨w,m',rfl,h1,h2⟩:=allO_inv h
  rcases List.mem_cons.1 hy with rfl|hy
  ·exact ⟨z,List.mem_cons_self ..,h1⟩
  ·obtain ⟨x,hx,e⟩:=allO_back h2 y hy
   exact ⟨x,List.mem_cons_of_mem _ hx,e⟩
def parseP (s:YL):Option Co:=gP (yE s)
def parseA (s:YL):Option (List Co):=dW parseP (zI 44 [] s)
def qZ (s:YL):Option (List (List Co)):=dW parseA (kF [] s)
def g6 (s:YL):Option (List (List Co)):=if 96<s.length then none else (qZ s).filter rgMay
def bP (s:YL):Int:=if 96<s.length then 3 else match qZ s with
 |none=>6
 |some r=>if fewR r then (if (kR r).length<=96 then 0 else 3) else 6
def blanks (n:Nat):YL:=List.replicate n 32
theorem altsL_ne:∀ (s acc:YL),kF acc s≠[]
 | [],acc=>by simp [kF]
 | [c],acc=>by simp [kF]
 |c::d::r,acc=>by
  rw [kF]
  split
  ·simp
  ·exact altsL_ne (d::r) _
theorem tV:∀ (s acc:YL),∀ x∈kF acc s,x.length<=acc.length+s.length
 | [],acc,x,hx=>by
  have:x=acc:=by simpa [kF] using hx
  subst this;simp
 | [c],acc,x,hx=>by
  have:x=acc++[c]:=by simpa [kF] using hx
  subst this;simp
 |c::d::r,acc,x,hx=>by
  rw [kF] at hx
  split at hx
  ·rcases List.mem_cons.1 hx with rfl|hx
   ·simp only [List.length_cons];omega
   ·have:=tV r [] x hx
    simp only [List.length_cons,List.length_nil] at this ⊢;omega
  ·have:=tV (d::r) (acc++[c]) x hx
   simp only [List.length_append,List.length_cons,List.length_nil] at this ⊢;omega
theorem pT:∀ (s acc:YL),(kF acc s).length<=s.length+1
 | [],acc=>by simp [kF]
 | [c],acc=>by simp [kF]
 |c::d::r,acc=>by
  rw [kF]
  split
  ·have:=pT r [];simp only [List.length_cons];omega
  ·have:=pT (d::r) (acc++[c]);simp only [List.length_cons] at this ⊢;omega
inductive Two {α β:Type} (R:α->β->Prop):List α->List β->Prop
 |nil:Two R [] []
 |cons {x:α} {y:β} {l:List α} {m:List β} (h:R x y) (t:Two R l m):Two R (x::l) (y::m)
def SpellC (s:YL)(c:Co):Prop:=∃ n m,s=blanks n++c.text++blanks m
def SpellA (s:YL)(a:List Co):Prop:=∃ ps,s=zF 44 ps/\Two SpellC ps a/\ps≠[]
def SpellR (s:YL)(r:List (List Co)):Prop:=∃ l,s=wB [124,124] l/\Two SpellA l r/\l≠[]
theorem text_ne {c:Co}(h:c.may=true):c.text≠[]:=by
 intro e
 have:=(pI c.text c).2 ⟨h,.inl rfl⟩
 rw [e] at this
 revert this
 have:gP []=none:=by decide
 rw [this];simp
theorem err_some {s:YL}{r:List (List Co)}(h:g6 s=some r):bP s=0/\rgMay r=true/\qZ s=some r/\s.length<=96:=by
 unfold g6 at h
 split at h
 ·cases h
 ·rename_i hl
  cases hp:qZ s with
  |none=>rw [hp] at h;cases h
  |some q=>
   rw [hp] at h
   unfold Option.filter at h
   simp only at h
   split at h
   ·rename_i hm
    injection h with h
    subst h
    obtain ⟨k1,k2⟩:=rgMay.facts hm
    refine ⟨?_,hm,rfl,by omega⟩
    unfold bP
    rw [if_neg hl,hp]
    simp only
    rw [if_pos k1,if_pos k2]
   ·cases h
theorem err_none {s:YL}(h:g6 s=none):bP s=3\/bP s=6:=by
 unfold g6 at h
 unfold bP
 split at h
 ·rename_i hl;rw [if_pos hl];exact .inl rfl
 ·rename_i hl
  rw [if_neg hl]
  cases hp:qZ s with
  |none=>exact .inr rfl
  |some q=>
   rw [hp] at h
   simp only
   cases h1:fewR q with
   |false=>exact .inr rfl
   |true=>
    rw [if_pos rfl]
    by_cases h2:(kR q).length<=96
    ·exfalso
     have:rgMay q=true:=by unfold rgMay;rw [h1,decide_eq_true h2];rfl
     simp [Option.filter,this] at h
    ·rw [if_neg h2];exact .inl rfl
end
section
def xP (s:YL):Bool:=decide (bP s=0) && decide (jZ ((g6 s).getD [])=s)
def yX (s:YL):Bool:=decide (nY s=0) && decide (qO (gZ s)=s)
def wX (l:List YL)(alone:Bool):Bool:=l.all wdL && decide (l.length<=6) && kE l && (alone||decide (l=[]))
def gM (own:YL)(x:Wt)(alone:Bool):Int:=
 if nmL x.name=false then 4 else if x.name=own then 8 else if xP x.rng=false then 6 else if wX x.fs alone=false then 11 else 0
def yQ {α:Type}(f:α->Int):List α->Int
 | []=>0
 |a::r=>if f a=0 then yQ f r else f a
theorem jT {α:Type}{f:α->Int}:∀ {l:List α},(∀ x∈l,f x=0)->yQ f l=0
 | [],_=>rfl
 |a::r,h=>by rw [yQ,if_pos (h a (List.mem_cons_self ..)),jT λx hx=>h x (List.mem_cons_of_mem _ hx)]
theorem nV {α:Type}{f:α->Int}:∀ {l:List α} {i:Nat} (hi:i<l.length),(∀ x∈l.take i,f x=0)->f l[i]≠0->yQ f l=f l[i]
 |a::r,0,_,_,h=>by
  have h':f a≠0:=h
  rw [yQ,if_neg h'];rfl
 |a::r,i+1,hi,h0,h=>by
  rw [yQ,if_pos (h0 a (by simp))]
  exact nV (l:=r) (i:=i) (by simpa using hi) (λx hx=>h0 x (by rw [List.take_succ_cons];exact List.mem_cons_of_mem _ hx)) h
theorem firstE_map {α β:Type}(f:β->Int)(g:α->β):∀ l:List α,yQ f (l.map g)=yQ (λx=>f (g x)) l
 | []=>rfl
 |a::r=>by rw [List.map_cons,yQ,yQ,firstE_map f g r]
def gJ {α:Type}(f:α->Int):Nat->List α->Int×Int
 |_,[]=>(0,0)
 |k,a::r=>if f a=0 then gJ f (k+1) r else (f a,(k:Int))
theorem gU {α:Type}{f:α->Int}:∀ {l:List α} {k:Nat},(∀ x∈l,f x=0)->gJ f k l=(0,0)
 | [],_,_=>rfl
 |a::r,k,h=>by rw [gJ,if_pos (h a (List.mem_cons_self ..)),gU λx hx=>h x (List.mem_cons_of_mem _ hx)]
theorem d9 {α:Type}{f:α->Int}:∀ {l:List α} {i:Nat} (k:Nat) (hi:i<l.length),(∀ x∈l.take i,f x=0)->f l[i]≠0->gJ f k l=(f l[i],((k+i:Nat):Int))
 |a::r,0,k,_,_,h=>by
  have h':f a≠0:=h
  rw [gJ,if_neg h'];rfl
 |a::r,i+1,k,hi,h0,h=>by
  rw [gJ,if_pos (h0 a (by simp)),d9 (l:=r) (i:=i) (k+1) (by simpa using hi) (λx hx=>h0 x (by rw [List.take_succ_cons];exact List.mem_cons_of_mem _ hx)) h,show k+1+i=k+(i+1) by omega];rfl
theorem pP {α β:Type}(f:β->Int)(g:α->β):∀ (l:List α) (k:Nat),gJ f k (l.map g)=gJ (λx=>f (g x)) k l
 | [],_=>rfl
 |a::r,k=>by rw [List.map_cons,gJ,gJ,pP f g r]
def g8 (own:YL)(n:Nt):Int:=
 if n.any=[] then 9 else if 3<n.any.length then 3 else if yQ (λx=>gM own x (decide (n.any.length=1))) n.any≠0 then yQ (λx=>gM own x (decide (n.any.length=1))) n.any
 else if yX n.wh=false then 7 else if n.opt≠[]/\wdL n.opt=false then 14 else 0
def jV (own:YL)(b:Bt):Int:=
 if nmL b.name=false then 4 else if b.name=own then 8 else if xP b.rng=false then 6 else if yX b.wh=false then 7 else 0
def optR (l:List Nt)(s:YL):Bool:=l.any λn=>decide (n.opt=s)
def pulN (s:YL)(n:Nt):Bool:=match n.any with
 | [x]=>decide (x.name=s)
 |_=>false
def pulR (l:List Nt)(s:YL):Bool:=l.any (pulN s)
def xG (l:List Nt)(s:YL):Int:=
 if (zM s).1=2/\optR l (wordOf s)=false then 14 else if (zM s).1=3/\pulR l (wordOf s)=false then 16 else 0
def kZ (r:Rt):Int×Int:=
 if (gJ (g8 r.name) 0 r.needs).1≠0 then gJ (g8 r.name) 0 r.needs
 else if (gJ (jV r.name) 0 r.bars).1≠0 then gJ (jV r.name) 0 r.bars
 else if bH r.fts=false then (11,0)
 else gJ (λf:Ft=>yQ (xG r.needs) f.of) 0 r.fts
def zP (r:Rt):Int×Int:=
 if nmL r.name=false then (4,0) else if r.ver.may=false then (5,0) else if 8<r.needs.length\/8<r.bars.length then (3,0)
 else if (kZ r).1≠0 then kZ r else if 4096<(kA r).length then (3,0) else (0,0)
end
section
theorem firstE_zero {α:Type}{f:α->Int}:∀ {l:List α},yQ f l=0→∀ x∈l,f x=0
 | [],_,x,h=>by cases h
 |a::r,h,x,hx=>by
  by_cases h0:f a=0
  ·rw [yQ,if_pos h0] at h
   rcases List.mem_cons.1 hx with rfl|hx
   ·exact h0
   ·exact firstE_zero h x hx
  ·rw [yQ,if_neg h0] at h;exact absurd h h0
theorem mK {α:Type}{f:α->Int}:∀ {l:List α} {k:Nat},(gJ f k l).1=0→∀ x∈l,f x=0
 | [],_,_,x,h=>by cases h
 |a::r,k,h,x,hx=>by
  by_cases h0:f a=0
  ·rw [gJ,if_pos h0] at h
   rcases List.mem_cons.1 hx with rfl|hx
   ·exact h0
   ·exact mK h x hx
  ·rw [gJ,if_neg h0] at h;exact absurd h h0
theorem mJ {α:Type}(f:α->YL)(k:Nat):∀ {l:List α},(∀ x∈l,(f x).length<=k)->(l.flatMap f).length<=l.length*k
 | [],_=>by simp
 |a::r,h=>by
  have h1:=h a (List.mem_cons_self ..)
  have h2:=mJ f k (l:=r) λx hx=>h x (List.mem_cons_of_mem _ hx)
  rw [List.flatMap_cons,List.length_append,List.length_cons,Nat.add_mul];omega
theorem jn_most (b:UInt8)(k:Nat):∀ {l:List YL},(∀ x∈l,x.length<=k)->(zF b l).length<=l.length*(k+1)
 | [],_=>by simp [zF]
 | [a],h=>by
  have h1:=h a (List.mem_cons_self ..)
  rw [zF];simp only [List.length_cons,List.length_nil];omega
 |a::c::r,h=>by
  have h1:=h a (List.mem_cons_self ..)
  have h2:=jn_most b k (l:=c::r) λx hx=>h x (List.mem_cons_of_mem _ hx)
  rw [zF,List.length_append,List.length_cons,List.length_cons,Nat.add_mul];omega
theorem fX {s:YL}(h:nmL s=true):s.length<=16:=by
 unfold nmL fY at h
 simp only [Bool.and_eq_true,decide_eq_true_eq] at h
 have:=h.1
 rwa [bM] at this
theorem tB {s:YL}(h:wdL s=true):s.length<=12:=by unfold wdL at h;simp only [Bool.and_eq_true,decide_eq_true_eq] at h;omega
theorem pg_short {s:YL}(h:xP s=true):s.length<=96:=by
 unfold xP bP at h
 simp only [Bool.and_eq_true,decide_eq_true_eq] at h
 have h1:=h.1
 split at h1
 ·exact absurd h1 (by decide)
 ·omega
theorem pm_short {s:YL}(h:yX s=true):s.length<=96:=by
 unfold yX nY at h
 simp only [Bool.and_eq_true,decide_eq_true_eq] at h
 have h1:=h.1
 split at h1
 ·exact absurd h1 (by decide)
 ·omega
theorem whenT_short {s:YL}(h:yX s=true):(vE s).length<=102:=by
 have:=pm_short h
 unfold vE
 split
 ·simp
 ·simp only [List.length_append,pB,List.length_cons,List.length_nil];omega
theorem wish_fine {own:YL}{x:Wt}{al:Bool}(h:gM own x al=0):nmL x.name=true/\xP x.rng=true/\wX x.fs al=true:=by
 unfold gM at h
 cases h1:nmL x.name
 ·rw [if_pos h1] at h;simp at h
 ·rw [if_neg (by simp [h1])] at h
  split at h
  ·simp at h
  ·cases h2:xP x.rng
   ·rw [if_pos h2] at h;simp at h
   ·rw [if_neg (by simp [h2])] at h
    cases h3:wX x.fs al
    ·rw [if_pos h3] at h;simp at h
    ·exact ⟨rfl,rfl,rfl⟩
theorem wishT_short {own:YL}{x:Wt}{al:Bool}(h:gM own x al=0):(kS x).length<=250:=by
 obtain ⟨h1,h2,h3⟩:=wish_fine h
 have k1:=fX h1
 have k2:=pg_short h2
 have k3:(bK x.fs).length<=79:=by
  unfold wX at h3
  simp only [Bool.and_eq_true,decide_eq_true_eq,List.all_eq_true] at h3
  unfold bK
  split
  ·simp
  ·have:=jn_most 44 12 (l:=x.fs) λs hs=>tB (h3.1.1.1 s hs)
   have:=h3.1.1.2;omega
 have k4:(dR x.bare).length=4:=by unfold dR;cases x.bare<;>rfl
 unfold kS
 simp only [List.length_append,txAny,List.length_cons,List.length_nil];omega
theorem need_fine {own:YL}{n:Nt}(h:g8 own n=0):n.any≠[]/\n.any.length<=3/\(∀ x∈n.any,gM own x (decide (n.any.length=1))=0)/\yX n.wh=true/\(n.opt=[]\/wdL n.opt=true):=by
 unfold g8 at h
 by_cases h1:n.any=[]
 ·rw [if_pos h1] at h;simp at h
 ·rw [if_neg h1] at h
  by_cases h2:3<n.any.length
  ·rw [if_pos h2] at h;simp at h
  ·rw [if_neg h2] at h
   by_cases h3:yQ (λx=>gM own x (decide (n.any.length=1))) n.any=0
   ·rw [if_neg (by simp [h3])] at h
    cases h4:yX n.wh
    ·rw [if_pos h4] at h;simp at h
    ·rw [if_neg (by simp [h4])] at h
     refine ⟨h1,by omega,firstE_zero h3,rfl, ?_⟩
     by_cases h5:n.opt=[]
     ·exact .inl h5
     ·cases h6:wdL n.opt
      ·rw [if_pos ⟨h5,h6⟩] at h;simp at h
      ·exact .inr rfl
   ·rw [if_pos h3] at h;exact absurd h h3
theorem needT_short {own:YL}{n:Nt}(h:g8 own n=0):(kT n).length<=900:=by
 obtain ⟨_,h2,h3,h4,h5⟩:=need_fine h
 have k1:=mJ kS 250 (l:=n.any) λx hx=>wishT_short (h3 x hx)
 have k2:=whenT_short h4
 have k3:(tM n.opt).length<=20:=by
  unfold tM
  split
  ·simp
  ·rcases h5 with e|e
   ·contradiction
   ·have:=tB e
    simp only [List.length_append,txOpt,List.length_cons,List.length_nil];omega
 unfold kT
 simp only [List.length_append,txNeed,List.length_cons,List.length_nil];omega
theorem bar_fine {own:YL}{b:Bt}(h:jV own b=0):nmL b.name=true/\xP b.rng=true/\yX b.wh=true:=by
 unfold jV at h
 cases h1:nmL b.name
 ·rw [if_pos h1] at h;simp at h
 ·rw [if_neg (by simp [h1])] at h
  split at h
  ·simp at h
  ·cases h2:xP b.rng
   ·rw [if_pos h2] at h;simp at h
   ·rw [if_neg (by simp [h2])] at h
    cases h3:yX b.wh
    ·rw [if_pos h3] at h;simp at h
    ·exact ⟨rfl,rfl,rfl⟩
theorem barT_short {own:YL}{b:Bt}(h:jV own b=0):(wM b).length<=300:=by
 obtain ⟨h1,h2,h3⟩:=bar_fine h
 have k1:=fX h1
 have k2:=pg_short h2
 have k3:=whenT_short h3
 unfold wM
 simp only [List.length_append,txBar,List.length_cons,List.length_nil];omega
theorem parts_fine {r:Rt}(h:(kZ r).1=0):(∀ n∈r.needs,g8 r.name n=0)/\(∀ b∈r.bars,jV r.name b=0)/\bH r.fts=true∧∀ f∈r.fts,yQ (xG r.needs) f.of=0:=by
 unfold kZ at h
 by_cases h1:(gJ (g8 r.name) 0 r.needs).1=0
 ·rw [if_neg (by simp [h1])] at h
  by_cases h2:(gJ (jV r.name) 0 r.bars).1=0
  ·rw [if_neg (by simp [h2])] at h
   cases h3:bH r.fts
   ·rw [if_pos h3] at h;simp at h
   ·rw [if_neg (by simp [h3])] at h
    exact ⟨mK h1,mK h2,rfl,mK h⟩
  ·rw [if_pos h2] at h;exact absurd h h2
 ·rw [if_pos h1] at h;exact absurd h h1
theorem rec_small {r:Rt}(hn:r.name.length<=1000000)(hv:r.ver.print.length<=3000000)(h8:r.needs.length<=8)(hb8:r.bars.length<=8)(hp:(kZ r).1=0)(hf:∀ f∈r.fts,∀ s∈f.of,s.length<=1000000):(kA r).length<=100000000:=by
 obtain ⟨h1,h2,h3,_⟩:=parts_fine hp
 unfold bH at h3
 simp only [Bool.and_eq_true,decide_eq_true_eq,List.all_eq_true] at h3
 have k1:=mJ kT 900 (l:=r.needs) λn hx=>needT_short (h1 n hx)
 have k2:=mJ wM 300 (l:=r.bars) λn hx=>barT_short (h2 n hx)
 have k3:=mJ gE 9000000 (l:=r.fts) λf hx=>by
  have e1:=h3.2 f hx
  unfold kO at e1
  simp only [Bool.and_eq_true,decide_eq_true_eq] at e1
  have e2:=jn_most 32 1000000 (l:=kN::f.name::f.of) λs hs=>by
   rcases List.mem_cons.1 hs with rfl|hs
   ·decide
   ·rcases List.mem_cons.1 hs with rfl|hs
    ·have:=tB (h3.1.1.2 f hx);omega
    ·exact hf f hx s hs
  unfold gE
  simp only [List.length_append,List.length_cons,List.length_nil] at e2 ⊢
  have:=e1.1.1;omega
 have k4:=h3.1.1.1
 unfold kA jC
 simp only [List.length_append,txPack,List.length_cons,List.length_nil];omega
theorem gK {r:Rt}(h:(zP r).1=0):nmL r.name=true/\r.ver.may=true/\r.needs.length<=8/\r.bars.length<=8/\(kZ r).1=0/\(kA r).length<=4096:=by
 unfold zP at h
 cases h1:nmL r.name
 ·rw [if_pos h1] at h;simp at h
 ·rw [if_neg (by simp [h1])] at h
  cases h2:r.ver.may
  ·rw [if_pos h2] at h;simp at h
  ·rw [if_neg (by simp [h2])] at h
   by_cases h3:8<r.needs.length\/8<r.bars.length
   ·rw [if_pos h3] at h;simp at h
   ·rw [if_neg h3] at h
    by_cases h4:(kZ r).1=0
    ·rw [if_neg (by simp [h4])] at h
     by_cases h5:4096<(kA r).length
     ·rw [if_pos h5] at h;simp at h
     ·exact ⟨rfl,rfl,by omega,by omega,h4,by omega⟩
    ·rw [if_pos h4] at h;exact absurd h h4
def dX (r:Rt):YL:=if (zP r).1=0 then kA r else []
end
section
def dK:UInt64:=0xFF51AFD7ED558CCD
def dI:UInt64:=0x9E3779B97F4A7C15
def fT (x:UInt64):UInt64:=x<<<13|||x>>>51
def dStep (h:UInt64)(b:UInt8):UInt64:=fT (h^^^b.toUInt64)*dK
def dMix (l:YL):UInt64:=l.foldl dStep dI
def dEnd (h:UInt64):UInt64:=h^^^h>>>29
def bI (l:YL):UInt64:=dEnd (dMix l)
def qE (n:UInt64):YL:=([56,48,40,32,24,16,8,0]:List UInt64).map λk=>(n>>>k).toUInt8
def kL (a b:UInt64):UInt64:=bI (qE a++qE b)
def tS (l:List UInt64):UInt64:=l.foldl kL (bI [])
theorem dRoot_snoc (l:List UInt64)(n:UInt64):tS (l++[n])=kL (tS l) n:=by unfold tS;rw [List.foldl_append];rfl
end
section
def yZ (r:Rt):Int:=if (zP r).1=0 then ((bI (kA r)).toNat:Int) else 0
structure Et where
 rc:Rt
 sum:Int
 yk:Bool
deriving DecidableEq
structure Sh where
 name:YL
 es:List Et
deriving DecidableEq
def w9:Sh:=⟨[],[]⟩
def oneV (a v:Ver):Bool:=a.may && v.may && decide (vQ a v=0)
def bS (n:YL)(v:Ver)(e:Et):Bool:=decide (e.rc.name=n) && oneV e.rc.ver v
def zR (l:List Et)(n:YL)(v:Ver):Int:=match l.findIdx? (bS n v) with
 |some i=>(i:Int)
 |none=> -1
theorem place_none {l:List Et}{n:YL}{v:Ver}:zR l n v= -1↔∀ e∈l,bS n v e=false:=by
 unfold zR
 rw [←List.findIdx?_eq_none_iff]
 cases h:l.findIdx? (bS n v) with
 |none=>simp
 |some i=>simp
theorem place_at {l:List Et}{n:YL}{v:Ver}{i:Nat}(hi:i<l.length)(h0:∀ e∈l.take i,bS n v e=false)(h1:bS n v l[i]=true):zR l n v=(i:Int):=by
 unfold zR
 have:l.findIdx? (bS n v)=some i:=List.findIdx?_eq_some_iff_getElem.2 ⟨hi,h1,λj hj=>by
  have:=h0 l[j] (List.mem_take_iff_getElem.2 ⟨j,by omega,rfl⟩)
  simp [this]⟩
 rw [this]
theorem place_some {l:List Et}{n:YL}{v:Ver}(h:zR l n v≠ -1):∃ i,∃ hi:i<l.length,zR l n v=(i:Int)/\bS n v l[i]=true∧∀ e∈l.take i,bS n v e=false:=by
 unfold zR at h ⊢
 cases hq:l.findIdx? (bS n v) with
 |none=>rw [hq] at h;exact absurd rfl h
 |some i=>
  obtain ⟨hi,h1,h2⟩:=List.findIdx?_eq_some_iff_getElem.1 hq
  refine ⟨i,hi,rfl,h1,λe he=> ?_⟩
  obtain ⟨j,hj,rfl⟩:=List.mem_take_iff_getElem.1 he
  have:=h2 j Om
  simpa using this
theorem place_ge (l:List Et)(n:YL)(v:Ver):zR l n v= -1\/0<=zR l n v:=by
 by_cases h:zR l n v= -1
 ·exact .inl h
 ·obtain ⟨i,_,e,_⟩:=place_some h
  exact .inr Om
def okE (e:Et):Prop:=(zP e.rc).1=0/\yZ e.rc=e.sum
def n9 (e:Et):UInt64:=UInt64.ofNat e.sum.toNat
theorem sumU_ok {e:Et}(h:okE e):e.sum=((n9 e).toNat:Int):=by
 have h1:e.sum=((bI (kA e.rc)).toNat:Int):=by
  rw [←h.2]
  exact if_pos h.1
 unfold n9
 rw [h1,Int.toNat_natCast]
 simp
theorem hit_self {e:Et}(h:(zP e.rc).1=0):bS e.rc.name e.rc.ver e=true:=by
 unfold bS oneV
 rw [(gK h).2.1,pK]
 simp
structure yT (s:Sh):Prop where
 name:nmL s.name=true
 few:s.es.length<=64
 ok:∀ e∈s.es,okE e
 apart:s.es.Pairwise λa b=>bS b.rc.name b.rc.ver a=false
instance:DecidablePred okE:=λe=>by unfold okE;infer_instance
instance:DecidablePred yT:=λs=>decidable_of_iff (nmL s.name=true/\s.es.length<=64/\(∀ e∈s.es,okE e)/\s.es.Pairwise λa b=>bS b.rc.name b.rc.ver a=false) ⟨λ⟨a,b,c,d⟩=>⟨a,b,c,d⟩,λh=>⟨h.name,h.few,h.ok,h.apart⟩⟩
def bN:List Et->Nat->Bool->List Et
 | [],_,_=>[]
 |e::r,0,on=>{e with yk:=on}::r
 |e::r,i+1,on=>e::bN r i on
theorem mark_is:∀ (l:List Et) (i:Nat) (hi:i<l.length) (on:Bool),bN l i on=l.take i++{l[i] with yk:=on}::l.drop (i+1)
 |e::r,0,_,on=>rfl
 |e::r,i+1,hi,on=>by
  have hi':i<r.length:=by simpa using hi
  show e::bN r i on=_
  rw [mark_is r i hi' on];rfl
def p5 (e:Et):Rt×Int:=(e.rc,e.sum)
theorem mark_core:∀ (l:List Et) (i:Nat) (on:Bool),(bN l i on).map p5=l.map p5
 | [],_,_=>rfl
 |e::r,0,on=>rfl
 |e::r,i+1,on=>by rw [bN,List.map_cons,mark_core r i on];rfl
theorem may_core {s t:Sh}(hn:s.name=t.name)(he:s.es.map p5=t.es.map p5)(h:yT s):yT t:=by
 have hl:s.es.length=t.es.length:=by have:=congrArg List.length he;simpa using this
 refine ⟨hn▸h.name,by have:=h.few;omega,λe he'=> ?_, ?_⟩
 ·have:p5 e∈s.es.map p5:=he▸List.mem_map_of_mem he'
  obtain ⟨a,ha,q⟩:=List.mem_map.1 this
  have h1:=h.ok a ha
  have e1:a.rc=e.rc:=congrArg Prod.fst q
  have e2:a.sum=e.sum:=congrArg Prod.snd q
  unfold okE at h1 ⊢
  rw [e1,e2] at h1;exact h1
 ·have key:∀ l:List Et,(l.Pairwise λa b=>bS b.rc.name b.rc.ver a=false)↔(l.map p5).Pairwise λa b=>(decide (a.1.name=b.1.name) && oneV a.1.ver b.1.ver)=false:=λl=>by
   rw [List.pairwise_map];rfl
  rw [key,←he,←key];exact h.apart
theorem mark_may {s:Sh}{i:Nat}{on:Bool}(h:yT s):yT ⟨s.name,bN s.es i on⟩:=may_core (s:=s) rfl (mark_core s.es i on).symm h
theorem put_may {s:Sh}{r:Rt}(h:yT s)(hr:(zP r).1=0)(hp:zR s.es r.name r.ver= -1)(hl:s.es.length<64):yT ⟨s.name,s.es++[⟨r,yZ r,false⟩]⟩:=by
 refine ⟨h.name,by rw [List.length_append,List.length_singleton];omega,λe he=> ?_, ?_⟩
 ·rcases List.mem_append.1 he with he|he
  ·exact h.ok e he
  ·rw [List.mem_singleton.1 he];exact ⟨hr,rfl⟩
 ·rw [List.pairwise_append]
  refine ⟨h.apart,List.pairwise_singleton _ _,λa ha b hb=> ?_⟩
  rw [List.mem_singleton.1 hb]
  exact place_none.1 hp a ha
def fE (s:Sh)(r:Rt):Sh×Int:=
 if yT s then if (zP r).1=0 then if zR s.es r.name r.ver= -1 then if s.es.length=64 then (w9,10) else (⟨s.name,s.es++[⟨r,yZ r,false⟩]⟩,0) else (w9,8) else (w9,(zP r).1) else (w9,1)
def yankS (s:Sh)(n:YL)(v:Ver)(on:Bool):Sh×Int:=
 if yT s then if zR s.es n v= -1 then (w9,9) else (⟨s.name,bN s.es (zR s.es n v).toNat on⟩,0) else (w9,1)
def findS (s:Sh)(n:YL)(v:Ver):Int:=if yT s then zR s.es n v else-1
def pW (a b:Sh):Prop:=yT a/\yT b/\a.name=b.name/\a.es.length<=b.es.length/\a.es.map Et.rc=(b.es.take a.es.length).map Et.rc
instance (a b:Sh):Decidable (pW a b):=by unfold pW;infer_instance
theorem grown_nil {s:Sh}{t:Sh}(h:yT s)(h0:s.es=[])(ht:yT t)(hn:s.name=t.name):pW s t:=
 ⟨h,ht,hn,by rw [h0];exact Nat.zero_le _,by rw [h0];rfl⟩
end
section
structure LsO {α:Type}(T:TypeId)(k:Nat)(C:α->List Value)(O:α->List Blk->Prop)(A:Option Addr)(c:Nat)(xs:List α)(o1 o2:List Blk):Prop where
 top:Sl T k (.slice A xs.length c) xs.length (xs.flatMap C) o1
 each:∀ x∈xs,∃ o,O x o∧∀ b∈o,b∈o2
section
variable {α:Type}{T:TypeId}{k:Nat}{C:α->List Value}{O:α->List Blk->Prop}
theorem LsO.nil:LsO T k C O none 0 [] [] []:=⟨Sl.nil _ _,λx h=>by simp at h⟩
theorem LsO.add {A A':Option Addr}{c c':Nat}{xs:List α}{o1 o1' o2 ob:List Blk}{x:α}(h:LsO T k C O A c xs o1 o2)(ht:Sl T k (.slice A' (xs.length+1) c') (xs.length+1) (xs.flatMap C++C x) o1')(hx:O x ob):LsO T k C O A' c' (xs++[x]) o1' (o2++ob):=
 ⟨by rw [List.length_append,List.length_singleton,List.flatMap_append,List.flatMap_singleton];exact ht,λy hy=>by
  rcases List.mem_append.1 hy with hy|hy
  ·obtain ⟨o,h1,h2⟩:=h.each y hy
   exact ⟨o,h1,λb hb=>List.mem_append_left _ (h2 b hb)⟩
  ·rw [List.mem_singleton.1 hy];exact ⟨ob,hx,λb hb=>List.mem_append_right _ hb⟩⟩
end
structure Ev where
 rec':Rv
 sum:Int
 yk:Bool
def evC (x:Ev):List Value:=rvC x.rec'++[.int .u64 x.sum,.bool x.yk]
theorem qX (x:Ev):(evC x).length=11:=rfl
def evV (x:Ev):Value:= .agg #[.string (mkS x.rec'.name),YI x.rec'.maj,YI x.rec'.min,YI x.rec'.pat,.string (mkS x.rec'.pre),.string (mkS x.rec'.bld),.slice x.rec'.nA x.rec'.needs.length x.rec'.nc,.slice x.rec'.bA x.rec'.bars.length x.rec'.bc,.slice x.rec'.fA x.rec'.fts.length x.rec'.fc,.int .u64 x.sum,.bool x.yk]
def Ev.et (x:Ev):Et:=⟨x.rec'.rt,x.sum,x.yk⟩
structure Hv where
 name:YL
 A:Option Addr
 cap:Nat
 es:List Ev
def hvV (x:Hv):Value:= .agg #[.string (mkS x.name),.slice x.A x.es.length x.cap]
def Hv.sh (x:Hv):Sh:=⟨x.name,x.es.map Ev.et⟩
abbrev hvB (b:Nat)(x:Hv):Blk:=⟨b, #[.string (mkS x.name),.slice x.A x.es.length x.cap],43⟩
abbrev rvB (b:Nat)(x:Rv):Blk:=⟨b, #[.string (mkS x.name),YI x.maj,YI x.min,YI x.pat,.string (mkS x.pre),.string (mkS x.bld),.slice x.nA x.needs.length x.nc,.slice x.bA x.bars.length x.bc,.slice x.fA x.fts.length x.fc],29⟩
abbrev evB (b:Nat)(u:Ev):Blk:=⟨b, #[.string (mkS u.rec'.name),YI u.rec'.maj,YI u.rec'.min,YI u.rec'.pat,.string (mkS u.rec'.pre),.string (mkS u.rec'.bld),.slice u.rec'.nA u.rec'.needs.length u.rec'.nc,.slice u.rec'.bA u.rec'.bars.length u.rec'.bc,.slice u.rec'.fA u.rec'.fts.length u.rec'.fc,.int .u64 u.sum,.bool u.yk],53⟩
structure EsIn (w:World)(B:Nat)(A:Option Addr)(es:List Ev):Prop where
 top:Reads evC w B A es
 each:∀ e∈es,RcIn w B e.rec'
 n:es.length<=5000
theorem EsIn.on {w w':World}{B B':Nat}{A:Option Addr}{es:List Ev}(h:EsIn w B A es)(hb:Below B w w')(hB:B<=B'):EsIn w' B' A es:=⟨h.top.on hb hB,λe he=>(h.each e he).on hb hB,h.n⟩
structure ShIn (w:World)(B:Nat)(x:Hv):Prop where
 es:EsIn w B x.A x.es
 le:x.es.length<=x.cap
 sn:x.name.length<=1000000
theorem ShIn.on {w w':World}{B B':Nat}{x:Hv}(h:ShIn w B x)(hb:Below B w w')(hB:B<=B'):ShIn w' B' x:=⟨h.es.on hb hB,h.le,h.sn⟩
def ShO (x:Hv)(ob:List Blk):Prop:=∃ o1 o2,ob=o1++o2/\LsO 53 11 evC (λe o=>RecO e.rec' o) x.A x.cap x.es o1 o2
end
section
structure Rs where
 rc:Rt
 st:Int
def nilT:Rt:=⟨[],Ver.zero,[],[],[]⟩
def tC:YL:=[112,97,99,107,97,103,101]
def wNeed:YL:=[110,101,101,100]
def wAny:YL:=[97,110,121]
def wWhen:YL:=[119,104,101,110]
def wOpt:YL:=[111,112,116,105,111,110]
def wBar:YL:=[98,97,114]
def noE (l:List YL):Bool:=l.all λs=>decide (s≠[])
def restW (s:YL)(k:Nat):Option (List YL×YL):=
 if (zI 32 [] s).length<=k then none else if noE ((zI 32 [] s).take k)=false then none else if zF 32 ((zI 32 [] s).drop k)=[] then none else some ((zI 32 [] s).take k,zF 32 ((zI 32 [] s).drop k))
def fD {α:Type}(f:α->α):List α->List α
 | []=>[]
 | [a]=>[f a]
 |a::b::r=>a::fD f (b::r)
def headS (l:List YL):Option Rs:=
 if l.length=3/\l.getD 0 []=tC/\l.getD 1 []≠[]/\parE (l.getD 2 [])=0 then some ⟨⟨l.getD 1 [],parV (l.getD 2 []),[],[],[]⟩,1⟩ else none
def anyW (w:List YL)(t:YL):Wt:=⟨w.getD 1 [],t,if w.getD 2 []=[45] then [] else zI 44 [] (w.getD 2 []),decide (w.getD 3 []=txBare)⟩
def anyS (x:Rs)(s:YL):Option Rs:=match restW s 4 with
 |none=>none
 |some (w,t)=>if x.st=2/\(w.getD 3 []=txBare\/w.getD 3 []=tD) then some ⟨{x.rc with needs:=fD (λn=>{n with any:=n.any++[anyW w t]}) x.rc.needs},2⟩ else none
def whenS (x:Rs)(s:YL):Option Rs:=match restW s 1 with
 |none=>none
 |some (_,t)=>if x.st=2 then some ⟨{x.rc with needs:=fD (λn=>{n with wh:=t}) x.rc.needs},3⟩ else if x.st=5 then some ⟨{x.rc with bars:=fD (λb=>{b with wh:=t}) x.rc.bars},6⟩ else none
def optS (x:Rs)(l:List YL):Option Rs:=
 if l.length=2/\noE l=true/\(x.st=2\/x.st=3) then some ⟨{x.rc with needs:=fD (λn=>{n with opt:=l.getD 1 []}) x.rc.needs},4⟩ else none
def barS (x:Rs)(s:YL):Option Rs:=match restW s 2 with
 |none=>none
 |some (w,t)=>if x.st<=6 then some ⟨{x.rc with bars:=x.rc.bars++[⟨w.getD 1 [],t,[]⟩]},5⟩ else none
def featS (x:Rs)(l:List YL):Option Rs:=
 if 2<=l.length/\noE l=true then some ⟨{x.rc with fts:=x.rc.fts++[⟨l.getD 1 [],l.drop 2⟩]},7⟩ else none
def needS (x:Rs)(l:List YL):Option Rs:=if l.length=1/\x.st<5 then some ⟨{x.rc with needs:=x.rc.needs++[⟨[],[],[]⟩]},2⟩ else none
def lineS (x:Rs)(s:YL):Option Rs:=
 if x.st=0 then headS (zI 32 [] s)
 else if (zI 32 [] s).getD 0 []=wNeed then needS x (zI 32 [] s)
 else if (zI 32 [] s).getD 0 []=wAny then anyS x s
 else if (zI 32 [] s).getD 0 []=wWhen then whenS x s
 else if (zI 32 [] s).getD 0 []=wOpt then optS x (zI 32 [] s)
 else if (zI 32 [] s).getD 0 []=wBar then barS x s
 else if (zI 32 [] s).getD 0 []=kN then featS x (zI 32 [] s)
 else none
def runS:Rs->List YL->Option Rs
 |x,[]=>some x
 |x,s::r=>match lineS x s with
  |some y=>runS y r
  |none=>none
def badS:Rs->Nat->List YL->Int
 |_,_,[]=>0
 |x,k,s::r=>match lineS x s with
  |some y=>badS y (k+1) r
  |none=>((k+1:Nat):Int)
def linesOf (s:YL):List YL×Bool:=if (zI 10 [] s).getLast?=some [] then ((zI 10 [] s).dropLast,true) else (zI 10 [] s,false)
def doneS (x:Rs):Rt×Int×Int:=if x.st=0 then (nilT,2,1) else if (zP x.rc).1≠0 then (nilT,(zP x.rc).1,0) else (x.rc,0,0)
def readT (s:YL):Rt×Int×Int:=
 if 4096<s.length then (nilT,3,0)
 else match runS ⟨nilT,0⟩ (zI 10 [] s).dropLast with
  |none=>(nilT,2,badS ⟨nilT,0⟩ 0 (zI 10 [] s).dropLast)
  |some x=>if (zI 10 [] s).getLast?=some [] then doneS x else (nilT,2,((zI 10 [] s).length:Int))
def headL (r:Rt):YL:=zF 32 [tC,r.name,r.ver.print]
def wishL (x:Wt):YL:=zF 32 [wAny,x.name,bK x.fs,dR x.bare,x.rng]
def whenL (s:YL):List YL:=if s=[] then [] else [zF 32 [wWhen,s]]
def optnL (s:YL):List YL:=if s=[] then [] else [zF 32 [wOpt,s]]
def needLs (n:Nt):List YL:=wNeed::(n.any.map wishL++whenL n.wh++optnL n.opt)
def barLs (b:Bt):List YL:=zF 32 [wBar,b.name,b.rng]::whenL b.wh
def featL (f:Ft):YL:=zF 32 (kN::f.name::f.of)
def recLs (r:Rt):List YL:=headL r::(r.needs.flatMap needLs++r.bars.flatMap barLs++r.fts.map featL)
def unL (l:List YL):YL:=l.flatMap λs=>s++[10]
theorem wishL_text (x:Wt):wishL x++[10]=kS x:=by
 unfold wishL kS
 simp only [zF,wAny,txAny,List.append_assoc,List.cons_append,List.nil_append]
end
section
end
section
end
section
def pcsB (b:UInt8):Nat->YL->List YL
 |0,s=>[s]
 |k+1,s=>if (zD b s).2.2 then (zD b s).1::pcsB b k (zD b s).2.1 else [s]
structure La where
 kind:Nat
 word:YL
 lo:Nat
 hi:Nat
 parts:Nat
 opn:Bool
 more:Bool
deriving DecidableEq
def lays:List La:=[⟨1,tC,0,0,3,false,false⟩,⟨2,wNeed,1,5,1,false,false⟩,⟨3,wAny,2,3,5,true,false⟩,⟨4,wWhen,2,3,2,true,false⟩,⟨5,wOpt,2,4,2,false,false⟩,⟨6,wBar,1,7,3,true,false⟩,⟨7,wWhen,6,6,2,true,false⟩,⟨8,kN,1,8,2,false,true⟩]
def laPs (l:La)(s:YL):List YL:=if l.opn then pcsB 32 (l.parts-1) s else zI 32 [] s
def laOk (l:La)(s:YL):Bool:=(decide ((laPs l s).length=l.parts)||(l.more && decide (l.parts<(laPs l s).length))) && decide ((laPs l s).getD 0 []=l.word) && noE (laPs l s)
def addA (x:Rt)(kind:Nat)(p:List YL):Rt×Bool:=
 match kind with
 |1=>({x with name:=p.getD 1 [],ver:=parV (p.getD 2 [])},decide (parE (p.getD 2 [])=0))
 |2=>({x with needs:=x.needs++[⟨[],[],[]⟩]},true)
 |3=>({x with needs:=fD (λn=>{n with any:=n.any++[anyW p (p.getD 4 [])]}) x.needs},decide (p.getD 3 []=txBare)||decide (p.getD 3 []=tD))
 |4=>({x with needs:=fD (λn=>{n with wh:=p.getD 1 []}) x.needs},true)
 |5=>({x with needs:=fD (λn=>{n with opt:=p.getD 1 []}) x.needs},true)
 |6=>({x with bars:=x.bars++[⟨p.getD 1 [],p.getD 2 [],[]⟩]},true)
 |7=>({x with bars:=fD (λb=>{b with wh:=p.getD 1 []}) x.bars},true)
 |8=>({x with fts:=x.fts++[⟨p.getD 1 [],p.drop 2⟩]},true)
 |_=>(x,true)
def takeIn (x:Rt)(last:Nat)(s:YL):List La->Option (Rt×Nat)
 | []=>none
 |l::r=>if l.lo<=last/\last<=l.hi/\laOk l s=true then (if (addA x l.kind (laPs l s)).2 then some ((addA x l.kind (laPs l s)).1,l.kind) else none) else takeIn x last s r
def stg:Nat->Int
 |0=>0|1=>1|2=>2|3=>2|4=>3|5=>4|6=>5|7=>6|_=>7
structure InvA (x:Rt)(k:Nat):Prop where
 le:k<=8
 z:k=0->x=nilT
 n:2<=k->k<=5->x.needs≠[]
 b:6<=k->k<=7->x.bars≠[]
abbrev fitA (l:La)(last:Nat)(s:YL):Prop:=l.lo<=last/\last<=l.hi/\laOk l s=true
def outA (x:Rt)(s:YL)(l:La):Option (Rt×Nat):=if (addA x l.kind (laPs l s)).2 then some ((addA x l.kind (laPs l s)).1,l.kind) else none
def SameA (a:Option (Rt×Nat))(b:Option Rs):Prop:=match a,b with
 |none,none=>True
 |some (x,k),some y=>y=⟨x,stg k⟩/\InvA x k
 |_,_=>False
end
section
def flatC:List Sp->List Cu
 | []=>[]
 |s::l=>s.lo::s.hi::flatC l
def altRel (a:List Co):List Sp:=a.foldl (λl c=>andL l c.region) wholeL
def altZone (a:List Co):List Sp:=a.foldl (λl c=>orL l c.zone) []
def altSet (a:List Co):St:=⟨makeRel (altRel a),andL (altRel a) (altZone a)⟩
def orAll (r:List (List Co)):St:=r.foldl (λs a=>orT s (altSet a)) noneT
def rgSet (r:List (List Co)):St:=if rgMay r then orAll r else noneT
end
section
theorem altsL_index:∀ (s acc:YL),kF acc s=if Lib.index s [124,124]= -1 then [acc++s] else (acc++s.take (Lib.index s [124,124]).toNat)::kF [] (s.drop ((Lib.index s [124,124]).toNat+2))
 | [],acc=>by simp [kF,Lib.index]
 | [c],acc=>by simp [kF,Lib.index,List.isPrefixOf]
 |c::d::r,acc=>by
  by_cases h:c=124/\d=124
  ·obtain ⟨rfl,rfl⟩:=h
   have e:Lib.index (124::124::r) [124,124]=0:=by simp [Lib.index,List.isPrefixOf]
   rw [e,kF,if_pos ⟨rfl,rfl⟩,if_neg (by decide)];simp
  ·have hp:List.isPrefixOf ([124,124]:YL) (c::d::r)=false:=by
    rw [List.isPrefixOf,List.isPrefixOf,List.isPrefixOf]
    by_cases hc:c=124
    ·have hd:¬ d=124:=λq=>h ⟨hc,q⟩
     have:((124:UInt8)==d)=false:=beq_eq_false_iff_ne.2 (Ne.symm hd)
     simp [this]
    ·have:((124:UInt8)==c)=false:=beq_eq_false_iff_ne.2 (Ne.symm hc)
     simp [this]
   have ge:=Lib.index_ge (d::r) [124,124]
   rw [kF,if_neg h,altsL_index (d::r) (acc++[c])]
   have e:Lib.index (c::d::r) [124,124]=if Lib.index (d::r) [124,124]= -1 then-1 else Lib.index (d::r) [124,124]+1:=by
    conv=>lhs;rw [Lib.index]
    rw [hp,if_neg (by decide)]
    simp
   rw [e]
   generalize Lib.index (d::r) [124,124]=n at ge
   by_cases hn:n= -1
   ·subst hn;simp
   ·rw [if_neg hn,if_neg hn,if_neg Om]
    have e2:(n+1).toNat=n.toNat+1:=by omega
    rw [e2,List.take_succ_cons,show n.toNat+1+2=(n.toNat+2)+1 from by omega,List.drop_succ_cons]
    simp
theorem splitK_from (sep:YL):∀ (f:Nat) (s:YL),s.length<f->Lib.splitK sep 0 (Lib.countFrom sep f s) s=if Lib.index s sep= -1 then [s] else s.take (Lib.index s sep).toNat::Lib.splitK sep 0 (Lib.countFrom sep (f-1) (s.drop ((Lib.index s sep).toNat+sep.length))) (s.drop ((Lib.index s sep).toNat+sep.length))
 |f+1,s,h=>by
  rw [Lib.countFrom]
  by_cases q:Lib.index s sep= -1
  ·rw [if_pos (by simp [q]),if_pos q,Lib.splitK]
  ·rw [if_neg (by simp [q]),if_neg q,Nat.add_comm 1,Lib.splitK,if_neg (by simp [q]),Nat.add_zero];rfl
theorem alts_from:∀ (f:Nat) (s:YL),s.length<f->Lib.splitK [124,124] 0 (Lib.countFrom [124,124] f s) s=kF [] s
 |f+1,s,h=>by
  rw [splitK_from _ _ _ h,altsL_index s []]
  by_cases q:Lib.index s [124,124]= -1
  ·rw [if_pos q,if_pos q];rfl
  ·have hr:=Lib.index_room s [124,124] (by have:=Lib.index_ge s [124,124];omega)
   rw [if_neg q,if_neg q]
   show _::Lib.splitK [124,124] 0 (Lib.countFrom [124,124] f _) _=_
   rw [alts_from f _ (by rw [List.length_drop];simp only [List.length_cons,List.length_nil];simp only [List.length_cons,List.length_nil] at hr;have:=Lib.index_ge s [124,124];omega)]
   rfl
theorem split_alts (s:YL):Lib.splitK [124,124] 0 (Lib.count s [124,124]) s=kF [] s:=alts_from _ s (Nat.lt_succ_self _)
theorem cut_index (b:UInt8)(s:YL):zI b [] s=if Lib.index s [b]= -1 then [s] else s.take (Lib.index s [b]).toNat::zI b [] (s.drop ((Lib.index s [b]).toNat+1)):=by
 have hc:=cutAt_cut b s
 have hge:=Lib.index_ge s [b]
 rw [vH,←hc]
 unfold Lib.cut
 by_cases h:Lib.index s [b]= -1
 ·have h2:¬ 0<=Lib.index s [b]:=by omega
  simp [h]
 ·have h2:0<=Lib.index s [b]:=by omega
  simp [h,h2]
theorem cuts_from (b:UInt8):∀ (f:Nat) (s:YL),s.length<f->Lib.splitK [b] 0 (Lib.countFrom [b] f s) s=zI b [] s
 |f+1,s,h=>by
  rw [splitK_from _ _ _ h,cut_index b s]
  by_cases q:Lib.index s [b]= -1
  ·rw [if_pos q,if_pos q]
  ·have hr:=Lib.index_room s [b] (by have:=Lib.index_ge s [b];omega)
   rw [if_neg q,if_neg q]
   show _::Lib.splitK [b] 0 (Lib.countFrom [b] f _) _=_
   rw [cuts_from b f _ (by rw [List.length_drop];simp only [List.length_cons,List.length_nil];simp only [List.length_cons,List.length_nil] at hr;have:=Lib.index_ge s [b];omega)]
   rfl
theorem split_cuts (b:UInt8)(s:YL):Lib.splitK [b] 0 (Lib.count s [b]) s=zI b [] s:=cuts_from b _ s (Nat.lt_succ_self _)
theorem splitB_list (sep:YL)(k:Nat)(s:YL):Lib.splitB (mkS sep) 0 k (mkS s)=(Lib.splitK sep 0 k s).map mkS:=by
 have h:=Lib.splitB_data (mkS sep) 0 k (mkS s)
 rw [mk_data,mk_data] at h
 rw [←h,List.map_map]
 refine ((List.map_congr_left λx _=> ?_).trans (List.map_id _)).symm
 exact Lib.mk_data x
theorem splitB_alts (s:YL):Lib.splitB (mkS [124,124]) 0 (Lib.countB (mkS s) (mkS [124,124])) (mkS s)=(kF [] s).map mkS:=by
 rw [splitB_list,show Lib.countB (mkS s) (mkS [124,124])=Lib.count s [124,124] from by unfold Lib.countB;rw [mk_data,mk_data],split_alts]
theorem splitB_cuts (b:UInt8)(s:YL):Lib.splitB (mkS [b]) 0 (Lib.countB (mkS s) (mkS [b])) (mkS s)=(zI b [] s).map mkS:=by
 rw [splitB_list,show Lib.countB (mkS s) (mkS [b])=Lib.count s [b] from by unfold Lib.countB;rw [mk_data,mk_data],split_cuts]
theorem bareF_drop:∀ (s:YL),Lib.trimLeftB s 32=yH s
 | []=>rfl
 |c::l=>by
  unfold Lib.trimLeftB
  rw [yH,List.dropWhile_cons]
  by_cases h:c=32
  ·subst h
   rw [if_pos (by decide),if_pos rfl];exact bareF_drop l
  ·rw [if_neg (by simp [h]),if_neg h]
def bareR (s:YL):YL:=(yH s.reverse).reverse
theorem bareF_snoc {c:UInt8}(h:c≠32):∀ (x:YL),yH (x++[c])=yH x++[c]
 | []=>by
  show yH [c]=[c]
  rw [yH];exact if_neg h
 |d::x=>by
  rw [List.cons_append,yH,yH]
  by_cases q:d=32
  ·rw [if_pos q,if_pos q,bareF_snoc h x]
  ·rw [if_neg q,if_neg q];rfl
theorem bareF_snoc32:∀ (x:YL),yH (x++[32])=if yH x=[] then [] else yH x++[32]
 | []=>by simp [yH]
 |d::x=>by
  rw [List.cons_append,yH,yH]
  by_cases q:d=32
  ·rw [if_pos q,if_pos q,bareF_snoc32 x]
  ·rw [if_neg q,if_neg q,if_neg (by simp)];rfl
theorem bare_swap:∀ (s:YL),yH (bareR s)=bareR (yH s)
 | []=>rfl
 |c::l=>by
  have ih:=bare_swap l
  by_cases h:c=32
  ·subst h
   rw [show yH (32::l)=yH l from by rw [yH,if_pos rfl],←ih]
   unfold bareR
   rw [List.reverse_cons,bareF_snoc32]
   by_cases q:yH l.reverse=[]
   ·rw [if_pos q,q]
   ·rw [if_neg q,List.reverse_append]
    show yH (32::(yH l.reverse).reverse)=_
    rw [yH,if_pos rfl]
  ·rw [show yH (c::l)=c::l from by rw [yH,if_neg h]]
   unfold bareR
   rw [List.reverse_cons,bareF_snoc h,List.reverse_append]
   show yH (c::(yH l.reverse).reverse)=c::(yH l.reverse).reverse
   rw [yH,if_neg h]
theorem trim_bare (s:YL):Lib.trimB s 32=yE s:=by
 unfold Lib.trimB Lib.trimRightB
 have e:∀ l:YL,l.dropWhile (·==32)=yH l:=bareF_drop
 rw [e,bareF_drop]
 exact bare_swap s
def f9 (r:List (List Co)):YL:=if fewR r then kR r else []
theorem altText_ne {a:List Co}(h:fewA a=true):kC a≠[]:=by
 obtain ⟨h1,h2⟩:=fewA.facts h
 cases a with
 |nil=>exact absurd h1.1 (by decide)
 |cons c l=>
  have hc:c.print≠[]:=by
   rw [v8 (h2 c (List.mem_cons_self ..))]
   exact text_ne (h2 c (List.mem_cons_self ..))
  unfold kC
  cases l with
  |nil=>exact hc
  |cons d l=>
   rw [List.map_cons,List.map_cons,joinB_two]
   intro e
   exact hc (List.append_eq_nil_iff.1 (List.append_eq_nil_iff.1 e).1).1
theorem rgText_ne {r:List (List Co)}(h:fewR r=true):kR r≠[]:=by
 obtain ⟨h1,h2⟩:=fewR.facts h
 cases r with
 |nil=>exact absurd h1.1 (by decide)
 |cons a l=>
  have hc:=altText_ne (h2 a (List.mem_cons_self ..))
  unfold kR
  cases l with
  |nil=>exact hc
  |cons d l=>
   rw [List.map_cons,List.map_cons,joinB_two]
   intro e
   exact hc (List.append_eq_nil_iff.1 (List.append_eq_nil_iff.1 e).1).1
theorem textR_nil {r:List (List Co)}:f9 r=[]↔fewR r=false:=by
 unfold f9
 cases h:fewR r with
 |false=>simp
 |true=>simp [rgText_ne h]
theorem print_text (r:List (List Co)):jZ r=if 96<(f9 r).length then [] else f9 r:=by
 unfold jZ rgMay f9
 cases fewR r with
 |false=>simp
 |true=>
  by_cases h:(kR r).length<=96
  ·simp [h,Nat.not_lt.2 h]
  ·simp [h,Nat.lt_of_not_le h]
end
section
def dL:Nat->YL->List YL
 |0,s=>[s]
 |k+1,s=>if (zD 46 s).2.2 then (zD 46 s).1::dL k (zD 46 s).2.1 else [s]
theorem pcsK_len:∀ (k:Nat) (s:YL),1<=(dL k s).length/\(dL k s).length<=k+1
 |0,s=>⟨Nat.le_refl _,Nat.le_refl _⟩
 |k+1,s=>by
  have h:=pcsK_len k (zD 46 s).2.1
  unfold dL
  split
  ·simp only [List.length_cons];omega
  ·simp only [List.length_cons,List.length_nil];omega
theorem pcsK_mem:∀ (k:Nat) (s:YL),∀ x∈dL k s,x.length<=s.length
 |0,s,x,hx=>by rw [List.mem_singleton.1 hx];exact Nat.le_refl _
 |k+1,s,x,hx=>by
  unfold dL at hx
  have hl:=tT 46 s
  split at hx
  ·rcases List.mem_cons.1 hx with e|hx
   ·rw [e];omega
   ·have:=pcsK_mem k (zD 46 s).2.1 x hx;omega
  ·rw [List.mem_singleton.1 hx];exact Nat.le_refl _
theorem pcsK_join:∀ (k:Nat) (l:List YL),l≠[]->l.length<=k+1->(∀ x∈l,(46:UInt8)∉x)->dL k (zF 46 l)=l
 |_,[],h,_,_=>absurd rfl h
 |0,[x],_,_,_=>rfl
 |k+1,[x],_,_,h=>by
  unfold dL
  show (if (zD 46 x).2.2=true then _ else _)=_
  rw [wV 46 x (h x (List.mem_singleton.2 rfl))]
  exact if_neg Bool.false_ne_true
 |0,x::y::r,_,hl,_=>by simp at hl
 |k+1,x::y::r,_,hl,h=>by
  have ih:=pcsK_join k (y::r) (by simp) (by simpa using hl) λz hz=>h z (List.mem_cons_of_mem _ hz)
  unfold dL
  rw [zF,cutAt_hit 46 _ _ (h x (List.mem_cons_self ..)),if_pos rfl]
  dsimp only
  rw [ih]
def sgo (s:YL):Nat->Int×YL
 |0=>(7,s)
 |k+1=>if yO s (y9 ((k+1:Nat):Int))=true/\(s.drop (y9 ((k+1:Nat):Int)).length).length<(sgo s k).2.length then (((k+1:Nat):Int),s.drop (y9 ((k+1:Nat):Int)).length) else sgo s k
theorem sgo_le (s:YL):∀ k,(sgo s k).2.length<=s.length
 |0=>Nat.le_refl _
 |k+1=>by
  unfold sgo
  split
  ·show (s.drop _).length<=_;rw [List.length_drop];omega
  ·exact sgo_le s k
def dC (s:YL):List YL:=dL 2 (zD 45 (sgo s 8).2).1
def starP (s:YL):Bool:=decide ((dC s).getLast?=some [42])
def wE (s:YL):Co:=⟨if starP s then 9 else (sgo s 8).1,if starP s then ((dC s).length:Int) -1 else ((dC s).length:Int),⟨zJ (tg (dC s) 0),zJ (tg (dC s) 1),zJ (tg (dC s) 2),(zD 45 (sgo s 8).2).2.1,[]⟩⟩
theorem nob {d a:UInt8}{r t:YL}(h:d≠a):¬ (yO (d::r) (a::t)=true):=by rw [vM h];decide
theorem sgo_plain {d:UInt8}{r:YL}(h:yJ d.toNat=true\/d=42):sgo (d::r) 8=(7,d::r):=by
 have hd:∀ a:UInt8,yJ a.toNat=false->a≠42->d≠a:=λa ha h42 e=>by
  subst e
  rcases h with h|h
  ·rw [ha] at h;cases h
  ·exact h42 h
 have hb:∀ k:Nat,1<=k->k<=8→¬ (yO (d::r) (y9 (k:Int))=true):=λk h1 h8=>by
  have hk:k=1\/k=2\/k=3\/k=4\/k=5\/k=6\/k=7\/k=8:=by omega
  rcases hk with rfl|rfl|rfl|rfl|rfl|rfl|rfl|rfl
  ·exact nob (hd 61 (by decide) (by decide))
  ·exact nob (hd 33 (by decide) (by decide))
  ·exact nob (hd 60 (by decide) (by decide))
  ·exact nob (hd 60 (by decide) (by decide))
  ·exact nob (hd 62 (by decide) (by decide))
  ·exact nob (hd 62 (by decide) (by decide))
  ·exact nob (hd 94 (by decide) (by decide))
  ·exact nob (hd 126 (by decide) (by decide))
 have:∀ k:Nat,k<=8->sgo (d::r) k=(7,d::r):=λk=>by
  induction k with
  |zero=>intro _;rfl
  |succ k ih=>
   intro h8
   unfold sgo
   rw [if_neg (λq=>hb (k+1) Om h8 q.1)]
   exact ih Om
 exact this 8 (by decide)
theorem sgo_sign {op:Int}(h1:1<=op)(h8:op<=8){d:UInt8}{r:YL}(hd:yJ d.toNat=true):sgo (y9 op++d::r) 8=(op,d::r):=by
 have h61:d≠61:=λe=>by subst e;revert hd;decide
 have hop:op=1\/op=2\/op=3\/op=4\/op=5\/op=6\/op=7\/op=8:=by omega
 rcases hop with rfl|rfl|rfl|rfl|rfl|rfl|rfl|rfl<;>simp [y9,sgo,yO,h61]
theorem numD_star:zJ [42]=0:=by decide
theorem tg_star {v:Ver}(hv:v.may=true){n:Nat}(h:n<=2)(h0:0<n\/v.maj=0)(h1:1<n\/v.min=0)(h2:2<n\/v.pat=0):zJ (tg (y8 v n++[[42]]) 0)=v.maj/\zJ (tg (y8 v n++[[42]]) 1)=v.min/\zJ (tg (y8 v n++[[42]]) 2)=v.pat:=by
 obtain ⟨m1,m2,m3⟩:=jQ hv
 have e1:=nM m1
 have e2:=nM m2
 match n,h with
 |0,_=>exact ⟨numD_star.trans (h0.resolve_left (by decide)).symm,(h1.resolve_left (by decide)).symm,(h2.resolve_left (by decide)).symm⟩
 |1,_=>exact ⟨e1,numD_star.trans (h1.resolve_left (by decide)).symm,(h2.resolve_left (by decide)).symm⟩
 |2,_=>exact ⟨e1,e2,numD_star.trans (h2.resolve_left (by decide)).symm⟩
theorem rest_pieces {c:Co}(h:c.may=true):dL 2 (zD 45 c.rest).1=(if c.op=9 then y8 c.v c.parts.toNat++[[42]] else y8 c.v c.parts.toNat)/\(zD 45 c.rest).2.1=c.v.pre:=by
 obtain ⟨_,hv,hb,h9,hn,hp,k0,k1,k2⟩:=Co.facts h
 unfold Co.rest
 by_cases e:c.op=9
 ·rw [if_pos e,if_pos e]
  have f:∀ b:UInt8,yJ b.toNat=false->b≠42→∀ x∈y8 c.v c.parts.toNat++[[42]],b∉x:=λb hb hb2 x hx=>by
   rcases List.mem_append.1 hx with hx|hx
   ·exact bD hv b hb x hx
   ·rw [List.mem_singleton.1 hx]
    intro hm
    exact hb2 (List.mem_singleton.1 hm)
  rw [wV 45 _ (fM 45 (by decide) _ (f 45 (by decide) (by decide)))]
  have hq:=h9 e
  have hpre:c.v.pre=[]:=hp.resolve_left Om
  refine ⟨?_,hpre.symm⟩
  refine pcsK_join 2 _ (by simp) ?_ (f 46 (by decide) (by decide))
  rw [List.length_append,w7 c.v Om]
  simp only [List.length_cons,List.length_nil];omega
 ·rw [if_neg e,if_neg e]
  have hq:=hn e
  have hlen:=w7 c.v (n:=c.parts.toNat) Om
  have hne:y8 c.v c.parts.toNat≠[]:=λh0=>by
   rw [h0] at hlen
   simp at hlen;omega
  rw [cut_tail 45 _ _ (fM 45 (by decide) _ (bD hv 45 (by decide)))]
  exact ⟨pcsK_join 2 _ hne Om (bD hv 46 (by decide)),rfl⟩
theorem nums_last {c:Co}(h:c.may=true)(hn:¬ c.op=9):¬ (y8 c.v c.parts.toNat).getLast?=some [42]:=λhl=>by
 have hv:=(Co.facts h).2.1
 have:=bD hv 42 (by decide) _ (List.mem_of_getLast? hl)
 exact this (List.mem_singleton.2 rfl)
theorem guess_of {c:Co}{s:YL}(h:c.may=true)(hs:(sgo s 8).2=c.rest)(ho:c.op=9\/(sgo s 8).1=c.op):wE s=c:=by
 obtain ⟨_,hv,hb,h9,hn,hp,k0,k1,k2⟩:=Co.facts h
 obtain ⟨p1,p2⟩:=rest_pieces h
 have hpc:dC s=if c.op=9 then y8 c.v c.parts.toNat++[[42]] else y8 c.v c.parts.toNat:=by unfold dC;rw [hs];exact p1
 unfold wE
 rw [hs,p2]
 by_cases e:c.op=9
 ·have hq:=h9 e
  rw [if_pos e] at hpc
  have hst:starP s=true:=by unfold starP;rw [hpc,List.getLast?_concat];exact decide_eq_true rfl
  obtain ⟨e1,e2,e3⟩:=tg_star hv (n:=c.parts.toNat) Om Om Om Om
  rw [hst,hpc,if_pos rfl,if_pos rfl,e1,e2,e3,List.length_append,w7 c.v Om,List.length_singleton]
  obtain ⟨op,parts,a,b,d,q,r⟩:=c
  simp only at hb e hq ⊢
  rw [hb,e]
  congr 1
  omega
 ·have hq:=hn e
  rw [if_neg e] at hpc
  have hst:starP s=false:=by unfold starP;rw [hpc];exact decide_eq_false (nums_last h e)
  obtain ⟨e1,e2,e3⟩:=nums_back hv (n:=c.parts.toNat) Om Om Om Om
  rw [hst,hpc,if_neg (by decide),if_neg (by decide),e1,e2,e3,w7 c.v Om,ho.resolve_left e]
  obtain ⟨op,parts,a,b,d,q,r⟩:=c
  simp only at hb hq ⊢
  rw [hb]
  congr 1
  omega
theorem guess_co {c:Co}{s:YL}(h:c.may=true)(hs:c.text=s\/c.text=94::s):wE s=c:=by
 obtain ⟨ho,_⟩:=Co.facts h
 by_cases hn:c.op=9
 ·obtain ⟨d,r,e,hd⟩:=star_head h hn
  have ht:c.text=d::r:=by unfold Co.text;rw [hn,show y9 9=[] from rfl,List.nil_append,e]
  rcases hs with hs|hs
  ·rw [ht] at hs
   rw [←hs]
   exact guess_of h (by rw [sgo_plain hd,e]) (.inl hn)
  ·rw [ht] at hs
   injection hs with e1 _
   rw [e1] at hd
   exact absurd hd (by decide)
 ·obtain ⟨d,r,e,hd⟩:=nI h hn
  have ht:c.text=y9 c.op++d::r:=by unfold Co.text;rw [e]
  have hs8:=sgo_sign ho.1 Om (r:=r) hd
  rcases hs with hs|hs
  ·rw [ht] at hs
   rw [←hs]
   exact guess_of h (by rw [hs8,e]) (.inr (by rw [hs8]))
  ·rw [ht] at hs
   have hop:c.op=1\/c.op=2\/c.op=3\/c.op=4\/c.op=5\/c.op=6\/c.op=7\/c.op=8:=by omega
   have h7:c.op=7:=by rcases hop with e2|e2|e2|e2|e2|e2|e2|e2<;>rw [e2] at hs<;>first|exact e2|simp [y9] at hs
   rw [h7] at hs
   have hs2:d::r=s:=by injection hs
   rw [←hs2]
   exact guess_of h (by rw [sgo_plain (.inl hd),e]) (.inr (by rw [sgo_plain (.inl hd),h7]))
theorem guess_nil:wE []=⟨7,1,⟨0,0,0,[],[]⟩⟩:=by decide
theorem fits_may {s:YL}(h:(wE s).print=s\/(wE s).print=94::s):(wE s).may=true:=by
 refine print_may λe=> ?_
 rw [e] at h
 rcases h with h|h
 ·subst h
  revert e
  rw [guess_nil]
  decide+kernel
 ·cases h
theorem prog_some {s:YL}(h:(wE s).print=s\/(wE s).print=94::s):gP s=some (wE s):=by
 have hm:=fits_may h
 rw [v8 hm] at h
 exact (pI s _).2 ⟨hm,h⟩
theorem prog_none {s:YL}(h:¬ ((wE s).print=s\/(wE s).print=94::s)):gP s=none:=by
 cases hp:gP s with
 |none=>rfl
 |some c=>
  obtain ⟨hm,ht⟩:=(pI s c).1 hp
  have hg:=guess_co hm ht
  rw [hg,v8 hm] at h
  exact absurd ht h
def behC (c:Co):Cu:=if c.parts=3 then ⟨0,c.v,true⟩ else if c.parts=0 then dA 1 else highC c.v (c.parts-1).toNat
def leadK (c:Co):Int:=if ¬ c.v.maj=0 then 0 else if ¬ c.v.min=0 then 1 else if ¬ c.v.pat=0 then 2 else c.parts-1
def boundC (c:Co):Cu×Cu:=
 if c.op=3 then (dA (-1),⟨0,c.v,false⟩) else if c.op=4 then (dA (-1),behC c) else if c.op=5 then (behC c,dA 1) else if c.op=6 then (⟨0,c.v,false⟩,dA 1)
 else if c.op=7 then (⟨0,c.v,false⟩,highC c.v (leadK c).toNat) else if c.op=8 then (⟨0,c.v,false⟩,highC c.v (min (c.parts-1) 1).toNat) else if c.parts=0 then (dA (-1),dA 1) else (⟨0,c.v,false⟩,behC c)
end
section
def cpL (s t:YL):YL:=if yO s t=true then s.drop t.length else s
theorem prefix_begins:∀ (t s:YL),t.isPrefixOf s=yO s t
 | [],s=>by simp [yO]
 |a::t,[]=>by simp [yO,List.isPrefixOf]
 |a::t,b::s=>by
  have ih:=prefix_begins t s
  unfold yO at ih ⊢
  rw [List.isPrefixOf,ih,List.length_cons,List.take_succ_cons]
  by_cases h:a=b
  ·subst h;simp
  ·simp [h,Ne.symm h]
theorem cutpre_any (s t:YL)(w:World):YC 236 #[.string (mkS s),.string (mkS t)] w (YR (.tuple #[.string (mkS (cpL s t)),.bool (yO s t)]) w):=
 (Tryz.strings_CutPrefix (mkS s) (mkS t) w).mono λe w' ⟨he,hw⟩=>by
  subst hw
  refine ⟨?_,Below.refl _ _⟩
  rw [he,mk_data,mk_data]
  unfold Lib.trimPrefix Lib.hasPrefix cpL
  rw [prefix_begins];rfl
theorem splitK_pcs:∀ (k:Nat) (s:YL),Lib.splitK [46] 0 k s=dL k s
 |0,s=>rfl
 |k+1,s=>by
  have hc:=cutAt_cut 46 s
  have hge:=Lib.index_ge s [46]
  unfold Lib.splitK dL
  rw [←hc]
  unfold Lib.cut
  by_cases h:Lib.index s [46]= -1
  ·have h2:¬ 0<=Lib.index s [46]:=by omega
   simp [h]
  ·have h2:0<=Lib.index s [46]:=by omega
   simp [h,h2,splitK_pcs k]
theorem pcsK_more:∀ (k:Nat) (s:YL),s.length<=k->dL k s=dL (k+1) s
 |0,s,h=>by
  obtain rfl:=List.eq_nil_of_length_eq_zero (Nat.le_zero.1 h)
  rfl
 |k+1,s,h=>by
  have hl:=cutAt_len 46 s
  rw [dL]
  conv=>rhs;rw [dL]
  cases hq:(zD 46 s).2.2 with
  |false=>rw [if_neg Bool.false_ne_true,if_neg Bool.false_ne_true]
  |true=>
   rw [hq,if_pos rfl] at hl
   rw [if_pos rfl,if_pos rfl,pcsK_more k _ Om]
theorem pcsK_min (s:YL):dL (min 3 (s.length+1) -1) s=dL 2 s:=by
 by_cases h0:s.length=0
 ·rw [h0,show min 3 (0+1) -1=0 from rfl,pcsK_more 0 s Om,pcsK_more 1 s Om]
 ·by_cases h1:s.length=1
  ·rw [h1,show min 3 (1+1) -1=1 from rfl,pcsK_more 1 s Om]
  ·rw [show min 3 (s.length+1) -1=2 by omega]
theorem splitB_pcs (k:Nat)(s:YL):Lib.splitB ⟨#[46]⟩ 0 k (mkS s)=(dL k s).map mkS:=by
 have h:=Lib.splitB_data ⟨#[46]⟩ 0 k (mkS s)
 rw [mk_data,show (⟨#[46]⟩:ByteArray).data.toList=[46] from rfl,splitK_pcs] at h
 rw [←h,List.map_map]
 refine ((List.map_congr_left λx _=> ?_).trans (List.map_id _)).symm
 exact Lib.mk_data x
theorem split3_any (s:YL)(W:World)(hs:s.length<=1000000):
  YC 224 #[.string (mkS s),.string ⟨#[46]⟩,YI 0,YI 3] W λe w'=>∃ v' ob',e= .returned v'/\SlT v' (dL 2 s) ob'/\Own [] W w' ob':=by
 have hsz:=zW s
 have hI:∀ (x:ByteArray) (c:Array Value),x.size<=(mkS s).size->YC 273 #[.string x,.string ⟨#[46]⟩] (W.alloc (.cells c 9)) λe w'=>e= .returned (YI (Lib.indexB x ⟨#[46]⟩))/\w'=W.alloc (.cells c 9):=
  λx c _=>(Tryz.strings_Index_one x 46 _).mono λe w' ⟨he,hw⟩=>⟨by rw [he,mV];try rfl,hw⟩
 have hC:YC 272 #[.string (mkS s),.string ⟨#[46]⟩] W λe w'=>e= .returned (YI (Lib.countB (mkS s) ⟨#[46]⟩))/\w'=W:=
  (Tryz.strings_Count_one (mkS s) 46 W).mono λe w' ⟨he,hw⟩=>⟨by rw [he];show _=Ending.returned (Value.int .i64 ((Lib.count (mkS s).data.toList [46]:Nat):Int));rw [Lib.count_one];rfl,hw⟩
 have c:=Any.strings_genSplit_core Tryz.lays221 Kr (mkS s) ⟨#[46]⟩ 0 3 (min 3 ((mkS s).size+1)) W Om (by decide) (Nat.zero_le _) hI hC (by decide) (by decide) (by rw [if_neg (by decide)];omega)
 rw [hsz,splitB_pcs,pcsK_min] at c
 obtain ⟨hl1,hl3⟩:=pcsK_len 2 s
 have hle:(dL 2 s).length<=min 3 (s.length+1):=by
  have h:=Lib.splitB_length_le ⟨#[46]⟩ 0 (min 3 (s.length+1) -1) (mkS s)
  rw [splitB_pcs,pcsK_min,List.length_map] at h
  omega
 rw [List.length_map] at c
 refine Calls.mono c λe w' ⟨he,hw⟩=> ?_
 subst hw
 refine ⟨_,_,he,⟨by rw [dG];omega,.inr ⟨W.heap.size,min 3 (s.length+1),_,rfl,rfl,hle,by unfold maxLen;omega,by rw [Lib.cellsOf_size (by rw [List.length_map];exact hle),Nat.mul_one], ?_⟩⟩,(Own.start [] W).alloc _ _⟩
 unfold Lib.cellsOf
 rw [List.map_map,List.take_append_of_le_length (by rw [List.length_map];omega),List.take_of_length_le (by rw [List.length_map];omega)]
 rfl
end
section
set_option linter.unnecessarySimpa false
theorem reads_t {w:World}{A:Option Addr}{cap:Nat}{l:List YL}{B:Nat}(h:Reads y7 w B A l)(hB:B<=B):ReadsT w B (.slice A l.length cap) l:=
 ⟨A,cap,rfl,λh0=>by
  obtain ⟨b,off,e,hlt,hc⟩:=h h0
  refine ⟨⟨b,off,none⟩,e,hlt,λj hj=> ?_⟩
  rw [yY]
  refine hc j _ ?_
  rw [←xB]
  unfold jK
  rw [List.getElem?_map,List.getElem?_eq_getElem hj];rfl⟩
theorem r12when_any (s:YL)(W:World)(hs:s.length<=1000000):YC 119 #[.string (mkS s)] W (YR (.string (mkS (vE s))) W):=by
 refine z8 Tryz.func119 (yS 4 [] s [] (λh=> ?_) (λh=> ?_))
 ·exact z7 [] (.string ⟨#[]⟩) λw hO=>⟨by rw [show vE s=[] from if_pos h];rfl,hO.below⟩
 ·refine zZ 6 [] pB s (zZ 7 [] (pB++s) [10] ?_ ?_) ?_
  ·exact z7 [] (.string (mkS (pB++s++[10]))) λw hO=>⟨by rw [show vE s=pB++s++[10] from if_neg h],hO.below⟩
  ·unfold pB;simp only [List.length_append,List.length_cons,List.length_nil];omega
  ·unfold pB;simp only [List.length_cons,List.length_nil];omega
theorem r12wished_any (x:Wv)(W:World)(hv:Reads y7 W W.heap.size x.A x.fs)(hn:x.fs.length<=5000)(ht:(kS x.wt).length<=100000000):YC 118 #[wvV x] W (YR (.string (mkS (kS x.wt))) W):=by
 have hT:(kS x.wt).length=4+x.name.length+1+(bK x.fs).length+1+4+1+x.rng.length+1:=by
  unfold kS dR txAny txBare tD Wv.wt
  cases x.bare<;>simp only [List.length_append,List.length_cons,List.length_nil,if_true,Bool.false_eq_true,if_false]
 rw [hT] at ht
 have main:∀ (fl kd:YL),fl=bK x.fs->kd=dR x.bare->txAny++x.name++[32]++fl++[32]++kd++[32]++x.rng++[10]=kS x.wt:=λfl kd h1 h2=>by rw [h1,h2];rfl
 have hk4:(dR x.bare).length=4:=by unfold dR;cases x.bare<;>rfl
 have hJ:∀ w,YB W w->x.fs≠[]->YC 120 #[.slice x.A x.fs.length x.cap,.int .u8 44] w (YR (.string (mkS (bK x.fs))) w):=λw hb hne=>by
  have hw:bK x.fs=zF 44 x.fs:=if_neg hne
  rw [hw]
  exact rjoin_any _ x.fs 44 w (reads_t (hv.on hb hb.size) (Nat.le_refl _)) (by rw [←hw];omega) Om
 refine z8 Tryz.func118 (zQ [] λb1=>jX 8 (α:=YL) (λfl=>[(1,Zp b1 0),(3,.string (mkS fl)),(4,.string (mkS tD))]) (λ_=>[⟨b1, #[.string (mkS x.name),.string (mkS x.rng),.slice x.A x.fs.length x.cap,.bool x.bare],146⟩]) (λfl=>fl=bK x.fs) [0] (λnj=>qT 8 ((0:Int)<(x.fs.length:Int)) (λh=> ?_) (λh=> ?_)) (λfl g hfl=> ?_))
 ·refine z6 (v:= .string (mkS (bK x.fs))) [0] (λw hO=>hJ w hO.below (λe=>by rw [e] at h;simp at h)) (nj (bK x.fs) [] rfl Kr)
 ·exact nj [45] [] (show [45]=bK x.fs from by unfold bK;rw [if_pos (List.eq_nil_of_length_eq_zero Om)]) Kr
 refine jX 13 (α:=YL) (λkd=>[(1,Zp b1 0),(3,.string (mkS fl)),(4,.string (mkS kd))]) (λ_=>[⟨b1, #[.string (mkS x.name),.string (mkS x.rng),.slice x.A x.fs.length x.cap,.bool x.bare],146⟩]) (λkd=>kd=dR x.bare) [0] (λnj=>zX 13 x.bare (λh=>nj txBare [] (by rw [h];rfl) Kr) (λh=>nj tD [] (by rw [h];rfl) Kr)) (λkd g2 hkd=> ?_)
 have hfl':fl.length=(bK x.fs).length:=by rw [hfl]
 have hkd':kd.length=4:=by rw [hkd];exact hk4
 have ha:txAny.length=4:=rfl
 refine zZ 16 [0] txAny x.name (zZ 17 [] (txAny++x.name) [32] (zZ 19 [] (txAny++x.name++[32]) fl (zZ 20 [] (txAny++x.name++[32]++fl) [32] (zZ 22 [] (txAny++x.name++[32]++fl++[32]) kd (zZ 23 [] (txAny++x.name++[32]++fl++[32]++kd) [32] (zZ 26 [0] (txAny++x.name++[32]++fl++[32]++kd++[32]) x.rng (zZ 27 [] (txAny++x.name++[32]++fl++[32]++kd++[32]++x.rng) [10] ?_)))))))
 exact z7 [] (.string (mkS (txAny++x.name++[32]++fl++[32]++kd++[32]++x.rng++[10]))) λw hO=>⟨by rw [main fl kd hfl hkd],hO.below⟩
end
section
end
section
theorem grow_inner (B b n:Nat)(w:World)(hB:B<=b)(hbk:w.heap[b]?=some (.cells #[.pointer (some ⟨b,0,none⟩),.slice none 0 0] 108 (0,0)))(hBw:B<=w.heap.size)(hn:n<=281474976710656):
  YC 302 #[.pointer (some ⟨b,0,none⟩),YI n] w λe w'=>e= .returned (.tuple #[])/\(Lib.BuilderAt 108 5 B b (.pointer (some ⟨b,0,none⟩)) [] w'/\Below B w w'):=by
 obtain ⟨cs,hrun,hle,hmax⟩:=Lib.run_makeNoZero (P:=YP) w.drew #[3] 66 5 Tryz.underlying66 n hn
 have hlt:b<w.heap.size:=by
  rcases Nat.lt_or_ge b w.heap.size with h|h
  ·exact h
  ·simp [Array.getElem?_eq_none h] at hbk
 have hw:IntKind.i64.wrap (IntKind.i64.wrap 0+(n:Int))=n:=by
  rw [IntKind.wrap_i64,IntKind.wrap_i64];omega
 have hcall:(callFunc 335 #[YI (IntKind.i64.wrap (IntKind.i64.wrap 0+(n:Int)))]).run YP w.drew= .ok (.value (.slice (some ⟨w.drew.heap.size,0,none⟩) n cs.size)) (w.drew.drew.drew.alloc (.cells cs 5)):=by
  rw [hw,run_callFunc_extern Tryz.func335 Kr Kr Kr (e:=Extern.BytealgMakeNoZero.makeNoZero #[3] #[66]) Kr,hrun]
  rfl
 have c1:w.drew.cell? ⟨b,1,none⟩=some (.slice none 0 0):=by
  have:w.drew.heap[b]?=_:=hbk
  rw [Lib.cell_of_heap this];rfl
 have hb2:(w.alloc (.cells cs 5)).heap[b]?=_:=(Lib.alloc_old w _ b hlt).trans hbk
 have c2:(w.alloc (.cells cs 5)).cell? ⟨b,1,none⟩=some (.slice none 0 0):=by rw [Lib.cell_of_heap hb2];rfl
 have f2:(w.alloc (.cells cs 5)).frozen? ⟨b,1,none⟩=false:=Lib.frozen_of_heap hb2 1
 have hcopy:∀ W:World,(Builtin.copy_ #[66,66] 3 #[.slice (some ⟨w.heap.size,0,none⟩) 0 cs.size,.slice none 0 0]).run YP W= .ok (goInt 0) W:=
  λW=>run_copy_none W 66 66 3 5 _ _ 0 cs.size 0 0 Tryz.underlying66 Kr rfl
 clear hw hlt hb2
 have mixed:Tryz.prog.follows .mixedOrders=true:=by kernel_rfl
 go_enter Tryz.func302,Tryz.ntmps302
 go_wp2
 have hfin:=Lib.grown_fresh (T:=108) (e:=5) (cs:=cs) hB hbk hBw (hmax (by unfold maxLen;omega)) (by decide)
 have hbel:Below B w ((w.alloc (.cells cs 5)).setCell ⟨b,1,none⟩ (.slice (some ⟨w.heap.size,0,none⟩) 0 cs.size)).drew.drew.drew:=((((Below.refl B w).alloc hBw _).setCell (p:=⟨b,1,none⟩) hB _).drew).drew.drew
 go_region_o
 all_goals (go_wp2;go_end0;exact ⟨rfl,hfin.1,hbel⟩)
theorem grow_fresh (B b n:Nat)(w:World)(hB:B<=b)(hbk:w.heap[b]?=some (.cells #[.pointer none,.slice none 0 0] 108 (0,0)))(hBw:B<=w.heap.size)(hn:n<=281474976710656):
  YC 269 #[.pointer (some ⟨b,0,none⟩),YI n] w λe w'=>e= .returned (.tuple #[])/\(Lib.BuilderAt 108 5 B b (.pointer (some ⟨b,0,none⟩)) [] w'/\Below B w w'):=by
 obtain ⟨w1,hw1⟩:∃ x,x=w.setCell ⟨b,0,none⟩ (.pointer (some ⟨b,0,none⟩)):=⟨_,rfl⟩
 have hbk1:w1.heap[b]?=some (.cells #[.pointer (some ⟨b,0,none⟩),.slice none 0 0] 108 (0,0)):=by
  rw [hw1];simp [World.setCell,Array.getElem?_modify,hbk]
 have hs1:B<=w1.heap.size:=by rw [hw1];simpa [World.setCell] using hBw
 have hb1:Below B w w1:=by rw [hw1];exact (Below.refl B w).setCell (p:=⟨b,0,none⟩) hB _
 have hc:YC 146 #[.pointer (some ⟨b,0,none⟩)] w λe w'=>e= .returned (.tuple #[])/\w'=w1:=by
  rw [hw1]
  exact t6 b w (by rw [Lib.cell_of_heap hbk];rfl) (by simp [World.shape?,hbk]) (Lib.frozen_of_heap hbk 0)
 clear hw1
 have c1:w1.cell? ⟨b,1,none⟩=some (.slice none 0 0):=by rw [Lib.cell_of_heap hbk1];rfl
 have c1':w1.drew.cell? ⟨b,1,none⟩=some (.slice none 0 0):=c1
 have hU:Lib.BuilderAt 108 5 B b (.pointer (some ⟨b,0,none⟩)) [] w1:=⟨hB,.slice none 0 0,hbk1,World.ownsRow_nil _ _ _ _,by simp [Value.ownBlock]⟩
 have mixed:Tryz.prog.follows .mixedOrders=true:=by kernel_rfl
 go_enter Tryz.func269,Tryz.ntmps269
 go_wp2_with (go_at_call 146;refine hc.mono ?_;rintro e w' ⟨rfl,hw⟩;rw [hw])
 go_region_o
 all_goals go_wp2_with (go_at_call 302;refine (grow_inner B b n w1.drew hB hbk1 hs1 hn).mono ?_;rintro e w' ⟨rfl,h1,h2⟩)
 all_goals first
  |(go_end0;exact ⟨rfl,h1,hb1.drew.trans h2⟩)
  |(go_end0;exact ⟨rfl,hU.drew,hb1.drew⟩)
end
section
structure HasLib (w:World):Prop where
 tab:HasTab w
 max:∃ m,w.cell? ⟨1,0,none⟩=some (YI m)
theorem HasLib.on {w w':World}(h:HasLib w)(hb:YB w w'):HasLib w':=
 ⟨h.tab.on hb,let ⟨m,hm⟩:=h.max;⟨m,(hb.cell (World.block_lt_of_cell? _ _ hm)).trans hm⟩⟩
theorem hasLib_of {W:World}(ht:HasTab W)(hS:W.ShapedOpen YP):HasLib W:=⟨ht,Tryz.laysM143.s1_3 W hS⟩
theorem split_own (s sep:YL)(l:List YL)(W:World)(h0:1<=sep.length)(hs:s.length<=1000000)(hl:Lib.splitB (mkS sep) 0 (Lib.countB (mkS s) (mkS sep)) (mkS s)=l.map mkS)(ht:HasLib W):
  YC 228 #[.string (mkS s),.string (mkS sep)] W λe w'=>∃ v' ob',e= .returned v'/\SlT v' l ob'/\Own [] W w' ob':=by
 obtain ⟨m,hm⟩:=ht.max
 have hz:(mkS sep).size=sep.length:=zW sep
 have hlen:=Lib.splitB_all (mkS sep) Om 0 _ (mkS s) rfl
 have hle:=Lib.countB_le (mkS sep) Om (mkS s).size (mkS s) (Nat.le_refl _)
 rw [zW] at hle
 rw [hl,List.length_map] at hlen
 refine (Tryz.strings_Split (mkS s) (mkS sep) m W (by rw [zW];omega) hm Om).mono λe w' ⟨he,hw⟩=> ?_
 subst hw
 rw [hl,List.map_map] at*
 rw [←hlen] at he
 refine ⟨_,_,he,slt_lit l W.heap.size _ (by unfold jK;rfl) (by unfold maxLen;omega),(Own.start [] W).alloc _ _⟩
theorem split_bars (s:YL)(W:World)(hs:s.length<=1000000)(ht:HasLib W):
  YC 228 #[.string (mkS s),.string ⟨#[124,124]⟩] W λe w'=>∃ v' ob',e= .returned v'/\SlT v' (kF [] s) ob'/\Own [] W w' ob':=
 split_own s [124,124] (kF [] s) W (by decide) hs (splitB_alts s) ht
theorem split_comma (s:YL)(W:World)(hs:s.length<=1000000)(ht:HasLib W):
  YC 228 #[.string (mkS s),.string ⟨#[44]⟩] W λe w'=>∃ v' ob',e= .returned v'/\SlT v' (zI 44 [] s) ob'/\Own [] W w' ob':=
 split_own s [44] (zI 44 [] s) W (by decide) hs (splitB_cuts 44 s) ht
theorem trim_any (s:YL)(W:World)(hs:s.length<=1000000):
  YC 308 #[.string (mkS s),.string ⟨#[32]⟩] W (YR (.string (mkS (yE s))) W):=
 (Tryz.strings_Trim_one (mkS s) 32 (by decide) W (by rw [zW];omega)).mono λe w' ⟨he,hw⟩=>
  ⟨by rw [he,mk_data,trim_bare];rfl,hw.elim (λq=>q▸Below.refl _ _) (λq=>q▸(Below.refl _ _).drew)⟩
def wJ (sep:YL):List YL->YL
 | []=>[]
 |x::r=>sep++x++wJ sep r
theorem joinB_T (sep:YL):∀ (r:List YL) (x:YL),wB sep (x::r)=x++wJ sep r
 | [],x=>by simp [wB,wJ]
 |y::r,x=>by rw [joinB_two,joinB_T sep r y,wJ];simp only [List.append_assoc]
theorem joinT_snoc (sep x:YL):∀ (r:List YL),wJ sep (r++[x])=wJ sep r++(sep++x)
 | []=>by simp [wJ]
 |y::r=>by rw [List.cons_append,wJ,wJ,joinT_snoc sep x r];simp only [List.append_assoc]
theorem joinT_len {sep:YL}(hs:sep.length<=100):∀ {r:List YL},(∀ x∈r,x.length<=1000000)->(wJ sep r).length<=r.length*1000100
 | [],_=>by simp [wJ]
 |y::r,h=>by
  have h1:=joinT_len hs (r:=r) λx hx=>h x (List.mem_cons_of_mem _ hx)
  have h2:=h y (List.mem_cons_self ..)
  rw [wJ];simp only [List.length_append,List.length_cons];omega
theorem bc_two (x y z:YL):Lib.byteCells (x++(y++z))=Lib.byteCells x++Lib.strCells (mkS y)++Lib.strCells (mkS z):=by
 rw [dH,dH,←Lib.byteCells_append,←Lib.byteCells_append,List.append_assoc]
theorem join_many (sep x0:YL)(r:List YL)(b off cap:Nat)(w:World)(hc:∀ j (h:j<(x0::r).length),w.cell? ⟨b,off+j,none⟩=some (.string (mkS ((x0::r)[j]))))
  (hb:b<w.heap.size) (hr:1<=r.length) (hn:r.length<=1000) (h0:sep≠[]) (hs:sep.length<=100) (hx:∀ x∈x0::r,x.length<=1000000) (hcap:r.length+1<=cap):
  YC 218 #[.slice (some ⟨b,off,none⟩) (r.length+1) cap,.string (mkS sep)] w (YR (.string (mkS (wB sep (x0::r)))) w):=by
 have HT:=Lib.hid (show ∀ k,(x0++wJ sep (r.take k)).length<=2000000000 from λk=>by
  have h1:=joinT_len hs (r:=r.take k) λx hm=>hx x (List.mem_cons_of_mem _ (List.mem_of_mem_take hm))
  have h2:=hx x0 (List.mem_cons_self ..)
  have h3:(r.take k).length<=1000:=Nat.le_trans (by rw [List.length_take];exact Nat.min_le_right ..) hn
  rw [List.length_append];omega)
 have HC:=Lib.hid hc
 have HX:=Lib.hid hx
 have HJ:=Lib.hid (joinB_T sep r x0)
 have hx0:(mkS x0).size<=1000000:=by rw [zW];exact hx x0 (List.mem_cons_self ..)
 obtain ⟨S,hS⟩:∃ q,q=mkS sep:=⟨_,rfl⟩
 have hSz:S.size=sep.length:=by rw [hS,zW]
 have hS1:1<=S.size:=by cases sep with
  |nil=>exact absurd rfl h0
  |cons _ _=>rw [hSz];simp
 have hS9:S.size<=100:=by omega
 rw [←hS]
 have HS:=Lib.hid hS
 obtain ⟨N,hN⟩:∃ q,q=r.length+1:=⟨_,rfl⟩
 rw [←hN] at hcap ⊢
 have hcast:((N:Int) -1)=(r.length:Int):=by omega
 have hmul:S.size*r.length<=100000:=Nat.le_trans (Nat.mul_le_mul hS9 hn) (by decide)
 have hdv:¬ (9223372036854775807/((N:Int) -1)<=(S.size:Int)):=by
  rw [hcast]
  intro q
  have h1:(9223372036854775807:Int)<((S.size:Int)+1)*(r.length:Int):=
   Int.lt_mul_of_ediv_lt Om (Int.lt_add_one_of_le q)
  have h2:((S.size:Int)+1)*(r.length:Int)=((S.size*r.length+r.length:Nat):Int):=by rw [Int.add_mul,Int.one_mul];push_cast;rfl
  omega
 have hprod:wrap64 ((S.size:Int)*((N:Int) -1))=((S.size*r.length:Nat):Int):=by
  rw [hcast,show (S.size:Int)*(r.length:Int)=((S.size*r.length:Nat):Int) from by push_cast;rfl]
  exact IntWalk.wrap64_in _ ⟨by omega,by omega⟩
 generalize S.size*r.length=M at hmul hprod
 have hne0:((N:Int)==0)=false:=beq_eq_false_iff_ne.2 Om
 have hne1:((N:Int)==1)=false:=beq_eq_false_iff_ne.2 Om
 have hN2:2<=N:=by omega
 have hN9:N<=1001:=by omega
 have HN:=Lib.hid hN
 have H0:=Lib.hid h0
 clear hc hx hs h0 hS hSz hcast hN hr hn
 go_enter Tryz.func218,Tryz.ntmps218
 go_wp2
 go_loop [5,41] (λn i=>∃ (k t:Nat),k<=N/\i=YI k/\n=YI t/\t<=100000+k*1000000) (λ_ i=>N-(intOf i).toNat)
 case atStart=>exact ⟨0,M,Nat.zero_le _,rfl,rfl,by omega⟩
 case round=>
  obtain ⟨k,t,hk,rfl,rfl,ht⟩:=hrel
  by_cases hkn:k<N
  ·have hkl:k<(x0::r).length:=by have:=HN.out;rw [List.length_cons];omega
   obtain ⟨y,hy⟩:∃ q,q=mkS ((x0::r)[k]):=⟨_,rfl⟩
   have hyz:y.size<=1000000:=by rw [hy,zW];exact HX.out _ (List.getElem_mem hkl)
   have hck:w.cell? ⟨b,off+k,none⟩=some (.string y):=by rw [hy];exact HC.out k hkl
   clear hy hkl
   go_wp2
   exact ⟨⟨k+1,t+y.size,by omega,by go_num,by go_num,by omega⟩,by simp [intOf];omega⟩
  ·obtain rfl:k=N:=by omega
   go_wp2_with (go_at_call 269;refine (grow_fresh w.heap.size w.heap.size t _ (Nat.le_refl _) (heap_alloc_new w _) (by simp) Om).mono ?_)
   rintro e w1 rfl h1 hb1
   have hb1':YB w w1:=((Below.refl w.heap.size w).alloc (Nat.le_refl _) _).trans hb1
   have hsz1:=hb1'.size
   have hc0:w1.cell? ⟨b,off,none⟩=some (.string (mkS x0)):=by
    rw [hb1'.cell (p:=⟨b,off,none⟩) hb]
    exact HC.out 0 (by simp)
   have H1:=Lib.hid (Or.inr h1:Lib.IsBuilder 108 5 w.heap.size w.heap.size [] w1)
   have HB1:=Lib.hid hb1'
   clear h1 hb1 hb1' ht hprod hmul hdv hkn hk
   obtain ⟨X,hX⟩:∃ q,q=mkS x0:=⟨_,rfl⟩
   rw [←hX] at hc0 hx0
   have HX0:=Lib.hid hX
   clear hX
   go_wp2_with (go_at_call 83;refine (vR w.heap.size w.heap.size [] X w1 H1.out ?_ hsz1).mono ?_)
   ·simp;omega
   rintro e w2 ⟨rfl,h2,hb2⟩
   have H2:=Lib.hid (show Lib.IsBuilder 108 5 w.heap.size w.heap.size (Lib.byteCells (x0++wJ sep (r.take 0))) w2 from by
    rw [HX0.out,dH,List.nil_append] at h2
    rw [List.take_zero,wJ,List.append_nil];exact Or.inr h2)
   have HB2:=Lib.hid (HB1.out.trans hb2)
   clear h2 hb2 hsz1 hc0
   have hrk:k-1=r.length:=by have:=HN.out;omega
   go_wp2
   go_loopw [65] (λi wr=>∃ j:Nat,j<=r.length/\i=YI j/\Hid (Lib.IsBuilder 108 5 w.heap.size w.heap.size (Lib.byteCells (x0++wJ sep (r.take j))) wr)/\Hid (YB w wr)) (λi _=>r.length-(intOf i).toNat)
   case atStart=>exact ⟨0,Nat.zero_le _,rfl,H2,HB2⟩
   case round=>
    obtain ⟨j,hj,rfl,HB,HW⟩:=hrel
    have hsz:=HW.out.size
    by_cases hjr:j<r.length
    ·obtain ⟨y,hy⟩:∃ q,q=mkS r[j]:=⟨_,rfl⟩
     have hyz:y.size<=1000000:=by rw [hy,zW];exact HX.out _ (List.mem_cons_of_mem _ (List.getElem_mem hjr))
     have hck:wr.cell? ⟨b,off+1+j,none⟩=some (.string y):=by
      rw [HW.out.cell (p:=⟨b,off+1+j,none⟩) hb,hy,show off+1+j=off+(j+1) from by omega]
      exact HC.out (j+1) (by simp;omega)
     have HY:=Lib.hid hy
     have hlen:(Lib.byteCells (x0++wJ sep (r.take j))).length<=2000000000:=by rw [Lib.byteCells_length];exact HT.out j
     have HE:=Lib.hid (show Lib.byteCells (x0++wJ sep (r.take j))++Lib.strCells S++Lib.strCells y=Lib.byteCells (x0++wJ sep (r.take (j+1))) from by
      rw [HS.out,HY.out,List.take_succ_eq_append_getElem hjr,joinT_snoc,←List.append_assoc,bc_two])
     clear hy
     go_wp2_with (go_at_call 83;refine (vR w.heap.size w.heap.size _ S wr HB.out ?_ hsz).mono ?_)
     ·omega
     rintro e w3 ⟨rfl,h3,hb3⟩
     have hsz3:=Nat.le_trans hsz hb3.size
     have H3:=Lib.hid h3
     have HB3:=Lib.hid hb3
     clear h3 hb3
     go_wp2_with (go_at_call 83;refine (vR w.heap.size w.heap.size _ y w3 (Or.inr H3.out) ?_ hsz3).mono ?_)
     ·rw [List.length_append,Lib.strCells_length];omega
     rintro e w4 ⟨rfl,h4,hb4⟩
     rw [HE.out] at h4
     have H4:=Lib.hid (Or.inr h4:Lib.IsBuilder 108 5 w.heap.size w.heap.size (Lib.byteCells (x0++wJ sep (r.take (j+1)))) w4)
     have HB4:=Lib.hid ((HW.out.trans HB3.out).trans hb4)
     clear h4 hb4
     go_wp2
     go_roundw
     case rel=>exact ⟨j+1,by omega,by go_num,H4,HB4⟩
     case measure=>simp [intOf];omega
    ·obtain rfl:j=r.length:=by omega
     have HB':=HB.out
     rw [List.take_length,←HJ.out] at HB'
     have hne:wB sep (x0::r)≠[]:=by
      rw [HJ.out]
      cases r with
      |nil=>simp at hrk;omega
      |cons y r=>rw [wJ];intro q;exact H0.out (List.append_eq_nil_iff.1 (List.append_eq_nil_iff.1 (List.append_eq_nil_iff.1 q).2).1).1
     have HBF:=Lib.hid HB'
     clear HB'
     go_wp2_with (go_at_call 86;refine (string_any w.heap.size w.heap.size _ _ HBF.out hne).mono ?_)
     rintro e w5 ⟨rfl,hb5⟩
     go_wp2
     go_ret
     exact ⟨rfl,HW.out.trans hb5⟩
theorem join_one (sep x:YL)(A:Option Addr)(cap:Nat)(w:World)(hv:Reads y7 w w.heap.size A [x])(hcap:1<=cap):
  YC 218 #[.slice A 1 cap,.string (mkS sep)] w (YR (.string (mkS x)) w):=by
 obtain ⟨b,off,rfl,hb,hcell⟩:=hv (by simp)
 have hc:w.cell? ⟨b,off,none⟩=some (.string (mkS x)):=hcell 0 _ rfl
 go_enter Tryz.func218,Tryz.ntmps218
 go_wp2
 go_ret
 exact ⟨rfl,Below.refl _ _⟩
theorem join_none (sep:YL)(A:Option Addr)(cap:Nat)(w:World):
  YC 218 #[.slice A 0 cap,.string (mkS sep)] w (YR (.string (mkS [])) w):=by
 go_enter Tryz.func218,Tryz.ntmps218
 go_wp2
 go_ret
 exact ⟨rfl,Below.refl _ _⟩
theorem sjoin_any (sep:YL)(l:List YL)(A:Option Addr)(cap:Nat)(w:World)(hv:Reads y7 w w.heap.size A l)(h0:sep≠[])(hs:sep.length<=100)(hn:l.length<=1000)(hx:∀ x∈l,x.length<=1000000)(hcap:l.length<=cap):
  YC 218 #[.slice A l.length cap,.string (mkS sep)] w (YR (.string (mkS (wB sep l))) w):=by
 match l,hv,hn,hx,hcap with
 | [],_,_,_,_=>exact join_none sep A cap w
 | [x],hv,_,_,hcap=>exact join_one sep x A cap w hv hcap
 |x::y::r,hv,hn,hx,hcap=>
  obtain ⟨b,off,rfl,hb,hcell⟩:=hv (by simp)
  refine join_many sep x (y::r) b off cap w (λj hj=> ?_) hb (by simp) (by simp at hn ⊢;omega) h0 hs hx hcap
  refine hcell j _ ?_
  rw [←xB];unfold jK
  rw [List.getElem?_map,List.getElem?_eq_getElem hj];rfl
theorem SlT.caps {A:Option Addr}{n cap:Nat}{l:List YL}{ob:List Blk}(h:SlT (.slice A n cap) l ob):n=l.length/\l.length<=cap:=by
 rcases h.2 with ⟨h1,h2,_⟩|⟨g,c,cur,h1,_,h3,_⟩
 ·injection h1 with q1 q2 q3
  exact ⟨by omega,by omega⟩
 ·injection h1 with q1 q2 q3
  exact ⟨q2,by omega⟩
end
section
structure SetIn (w:World)(B:Nat)(A A':Option Addr)(a:St):Prop where
 rel:Reads spanC w B A a.rel
 pre:Reads spanC w B A' a.pre
 lr:a.rel.length<=100000
 lp:a.pre.length<=100000
 sr:ShortL a.rel
 sp:ShortL a.pre
end
section
end
section
def ordC:List Nat:=[2,4,6,1,3,5,7,8]
def fndC (s:YL):List Nat->Int×YL
 | []=>if s.getLast?=some 42 then (9,s) else (7,s)
 |k::r=>if yO s (y9 k) then ((k:Int),s.drop (y9 k).length) else fndC s r
theorem begins_le {s t:YL}(h:yO s t=true):t.length<=s.length:=by
 have q:=congrArg List.length (of_decide_eq_true h)
 rw [List.length_take] at q;omega
theorem pre_hit {s:YL}{k:Nat}(hk:k<s.length)(h:s[k]=45)(hf:(45:UInt8)∉s.take k):zD 45 s=(s.take k,s.drop (k+1),true):=by
 have e:s=s.take k++45::s.drop (k+1):=by
  have:=(List.take_append_drop k s).symm
  rw [List.drop_eq_getElem_cons hk,h] at this;exact this
 conv=>lhs;rw [e]
 exact cutAt_hit 45 _ _ hf
theorem pre_on {s:YL}{k:Nat}(hk:k<s.length)(h:¬ s[k]=45)(hf:(45:UInt8)∉s.take k):(45:UInt8)∉s.take (k+1):=by
 rw [List.take_succ_eq_append_getElem hk]
 intro hm
 rcases List.mem_append.1 hm with hm|hm
 ·exact hf hm
 ·exact h (List.mem_singleton.1 hm).symm
theorem wP {c:UInt8}{n:Nat}(hn:n<256):(c.toNat:Int)=(n:Int)↔c=UInt8.ofNat n:=by
 constructor
 ·intro h
  apply UInt8.toNat_inj.1
  rw [UInt8.toNat_ofNat']
  omega
 ·intro h
  rw [h,UInt8.toNat_ofNat'];omega
theorem last_is {s:YL}(h:0<s.length){c:UInt8}(hc:s[s.length-1]'Om=c):s.getLast?=some c:=by
 rw [List.getLast?_eq_getElem?,List.getElem?_eq_getElem (by omega),hc]
def jP (l:List YL):Bool:=decide (l.length<=3) && l.all g7
def q7 (l:List YL):Ver:=if jP l then ⟨zJ (tg l 0),zJ (tg l 1),zJ (tg l 2),[],[]⟩ else Ver.zero
theorem tgi_get {l:List YL}{i:Nat}(h:i<l.length):l[i]=tg l i:=by
 unfold tg
 rw [List.getElem?_eq_getElem h];rfl
theorem nums_bad {l:List YL}{i:Nat}(h:i<l.length)(hb:g7 (tg l i)=false):jP l=false:=by
 unfold jP
 cases hq:l.all g7 with
 |false=>simp
 |true=>rw [←tgi_get h,List.all_eq_true.1 hq _ (List.getElem_mem h)] at hb;cases hb
theorem nums_big {l:List YL}(h:3<l.length):jP l=false:=by unfold jP;rw [decide_eq_false Om];rfl
theorem nums_all {l:List YL}(h3:l.length<=3)(h:∀ i,i<l.length->g7 (tg l i)=true):jP l=true:=by
 unfold jP
 rw [decide_eq_true h3,List.all_eq_true.2];· rfl
 intro x hx
 obtain ⟨i,hi,rfl⟩:=List.mem_iff_getElem.1 hx
 rw [tgi_get hi];exact h i hi
theorem tgi_out {l:List YL}{i:Nat}(h:l.length<=i):zJ (tg l i)=0:=by
 unfold tg
 rw [List.getElem?_eq_none h];rfl
theorem rcpre_any (s:YL)(W:World)(hs:s.length<=1000000):YC 358 #[.string (mkS s)] W (YR (.tuple #[.string (mkS (zD 45 s).1),.string (mkS (zD 45 s).2.1)]) W):=by
 refine z8 Tryz.func358 (zL (α:=Nat) (λk=>[(0,.string (mkS s)),(4,YI (k:Int))]) (λ_=>[]) (λk m=>(k<=s.length/\(45:UInt8)∉s.take k)/\m=s.length-k) 0 (s.length-0) [] ⟨⟨Nat.zero_le _,by simp⟩,rfl⟩ ?_)
 rintro k m g kk ⟨hrel,hmm⟩ nx hkk
 subst hkk
 have hkl:=hrel.1
 refine zA 8 [] ((k:Int)<(s.length:Int)) (λh1=> ?_) (λh1=> ?_)
 ·have hk:k<s.length:=by omega
  exact bU 13 [] s k hk s[k] rfl (zA 14 [] ((s[k].toNat:Int)=45) (λh2=>x_shi 17 [] s (k:Int) Om Om (.string (mkS (s.take k))) rfl (x_i 20 [] ((k+1:Nat):Int) (x_slo 21 [] s ((k+1:Nat):Int) Om Om (.string (mkS (s.drop (k+1)))) rfl (yU [] (.string (mkS (s.take k))) (.string (mkS (s.drop (k+1)))) λw hO=>⟨by rw [pre_hit hk ((wP (n:=45) (by decide)).1 h2) hrel.2],hO.below⟩)))) (λh2=>x_i 10 [] ((k+1:Nat):Int) (nx (k+1) (s.length-(k+1)) [] Om ⟨⟨by omega,pre_on hk (λq0=>h2 ((wP (n:=45) (by decide)).2 q0)) hrel.2⟩,rfl⟩ Kr Kr)))
 ·exact yU [] (.string (mkS s)) (.string (mkS [])) λw hO=>⟨by rw [wV 45 s (by have q0:=hrel.2;rwa [List.take_of_length_le Om] at q0)],hO.below⟩
theorem rcsplit_any (s:YL)(W:World)(hs:s.length<=1000000):YC 357 #[.string (mkS s)] W (YR (.tuple #[YI (qB s).1,.string (mkS (qB s).2)]) W):=by
 refine z8 Tryz.func357 (kD [] 8 3 Z1 λb1=>zL (α:=Nat) (λi=>[(0,.string (mkS s)),(4,.slice (some ⟨b1,0,none⟩) 8 8),(5,YI (i:Int))]) (λ_=>[⟨b1,Z1,3⟩]) (λi m=>(i<=8/\qB s=fndC s (ordC.drop i))/\m=8-i) 0 (8-0) [] ⟨⟨by omega,rfl⟩,rfl⟩ ?_)
 rintro i m g kk ⟨⟨hi,hf⟩,hmm⟩ nx hkk
 subst hkk
 by_cases h1:(i:Int)<8
 ·obtain ⟨o,hrd,hd⟩:∃ o:Nat,xD YP 3 Z1 i=some (YI (o:Int))/\ordC.drop i=o::ordC.drop (i+1):=by
   rcases (by omega:i=0\/i=1\/i=2\/i=3\/i=4\/i=5\/i=6\/i=7) with rfl|rfl|rfl|rfl|rfl|rfl|rfl|rfl<;>refine ⟨_, ?_,rfl⟩<;>kernel_rfl
  rw [hd] at hf
  unfold fndC at hf
  refine zA 11 [] ((i:Int)<8) (λ_=>jH 16 [] (A:=some ⟨b1,0,none⟩) rfl 8 8 (i:Int) 1 i Om (j7 17 [] 0 Z1 i 3 (YI (o:Int)) hrd (z6 (k:=189) (args:= #[YI (o:Int)]) (v:= .string (mkS (y9 o))) [] (λw _=>rcsign_any o w) (z6 (k:=376) (args:= #[.string (mkS s),.string (mkS (y9 o))]) (v:= .bool (yO s (y9 o))) [] (λw _=>rcbegins_any s (y9 o) w) ?_)))) (λh=>absurd h1 h)
  cases hb:yO s (y9 o) with
  |true=>
   have hble:=begins_le hb
   rw [if_pos hb] at hf
   exact jH 24 [] (A:=some ⟨b1,0,none⟩) rfl 8 8 (i:Int) 1 i Om (j7 25 [] 0 Z1 i 3 (YI (o:Int)) hrd (x_slo 29 [] s ((y9 o).length:Int) Om Om (.string (mkS (s.drop (y9 o).length))) rfl (yU [] (YI (o:Int)) (.string (mkS (s.drop (y9 o).length))) λw hO=>⟨by rw [hf],hO.below⟩)))
  |false=>
   rw [if_neg (by rw [hb];decide)] at hf
   exact x_i 13 [] ((i+1:Nat):Int) (nx (i+1) (8-(i+1)) [] Om ⟨⟨by omega,hf⟩,rfl⟩ Kr Kr)
 ·obtain rfl:i=8:=by omega
  have hf:qB s=if s.getLast?=some 42 then (9,s) else (7,s):=hf
  have h9:=λ(h:s.getLast?=some 42) (w:World) (hb:YB W w)=>show Ending.returned (.tuple #[YI 9,.string (mkS s)])= .returned (.tuple #[YI (qB s).1,.string (mkS (qB s).2)])/\YB W w from ⟨by rw [hf,if_pos h],hb⟩
  have h7:=λ(h:¬ s.getLast?=some 42) (w:World) (hb:YB W w)=>show Ending.returned (.tuple #[YI 7,.string (mkS s)])= .returned (.tuple #[YI (qB s).1,.string (mkS (qB s).2)])/\YB W w from ⟨by rw [hf,if_neg h],hb⟩
  refine zA 11 [] (((8:Nat):Int)<8) (λh=>absurd h h1) (λ_=>zA 32 [] ((0:Int)<(s.length:Int)) (λh0=> ?_) (λh0=> ?_))
  ·have hk:s.length-1<s.length:=by omega
   exact j6 37 [] (YI (IntKind.i64.wrap ((s.length:Int) -1))) (YI ((s.length-1:Nat):Int)) (by rw [IntWalk.i64_in _ Om,show (s.length:Int) -1=((s.length-1:Nat):Int) by omega]) (bU 38 [] s (s.length-1) hk s[s.length-1] rfl (zA 39 [] ((s[s.length-1].toNat:Int)=42) (λh=>yU [] (YI 9) (.string (mkS s)) λw hO=>h9 (by rw [last_is Om rfl,(wP (n:=42) (by decide)).1 h];rfl) w hO.below) (λh=>yU [] (YI 7) (.string (mkS s)) λw hO=>h7 (by rw [last_is Om rfl];intro q9;exact h ((wP (n:=42) (by decide)).2 (Option.some.inj q9))) w hO.below)))
  ·exact yU [] (YI 7) (.string (mkS s)) λw hO=>h7 (by rw [List.eq_nil_of_length_eq_zero (by omega:s.length=0)];decide) w hO.below
end
section
def nuZ (l:List YL)(i k:Nat):Int:=if k<i then zJ (tg l k) else 0
def nuA (l:List YL)(i:Nat):Array Value:= #[YI (nuZ l i 0),YI (nuZ l i 1),YI (nuZ l i 2)]
theorem nuA_set {l:List YL}{i:Nat}(h:i<3):yK (nuA l i) (0+i*1) (Value.int .i64 (zJ (tg l i))).cells=nuA l (i+1):=by
 rcases (by omega:i=0\/i=1\/i=2) with rfl|rfl|rfl<;>rfl
theorem nuZ_end (l:List YL)(k:Nat):nuZ l l.length k=zJ (tg l k):=by
 unfold nuZ
 split
 ·rfl
 ·rw [tgi_out Om]
theorem rcnumbers_any (A:Option Addr)(n cap:Nat)(l:List YL)(W:World)(hv:Reads y7 W W.heap.size A l)(hn:n=l.length)(htl:∀ i,(tg l i).length<=1000000)(hmx:l.length<=4000000):YC 359 #[.slice A n cap] W (YR (.tuple #[yN (q7 l),.bool (jP l)]) W):=by
 subst hn
 have hno:=λ(h:jP l=false) (w:World) (hb:YB W w)=>show Ending.returned (.tuple #[yN Ver.zero,.bool false])= .returned (.tuple #[yN (q7 l),.bool (jP l)])/\YB W w from ⟨by rw [show q7 l=Ver.zero from if_neg (by rw [h];decide),h],hb⟩
 refine z8 Tryz.func359 (zB [] λb1=>zB [] λb2=>zA 10 [] ((3:Int)<(l.length:Int)) (λh=>zS [1] 1 (yN Ver.zero) Z5 λw hO=>hno (nums_big Om) w hO.below) (λh1=> ?_))
 refine zL (α:=Nat) (λi=>[(0,.slice A l.length cap),(2,Zp b1 0),(4,Zp b2 0),(5,YI (i:Int))]) (λi=>[⟨b2,nuA l i,199⟩,⟨b1,(yN Ver.zero).cells,24⟩]) (λi m=>(i<=l.length∧∀ j,j<i->g7 (tg l j)=true)/\m=l.length-i) 0 (l.length-0) [] ⟨⟨Nat.zero_le _,λj h=>absurd h (Nat.not_lt_zero _)⟩,rfl⟩ ?_
 rintro i m g kk ⟨⟨hi,hall⟩,hmm⟩ nx hkk
 subst hkk
 by_cases h2:(i:Int)<(l.length:Int)
 ·have hk:i<l.length:=by omega
  obtain ⟨b,off,hA,hlt,hcell⟩:=hv Om
  refine zA 15 [] ((i:Int)<(l.length:Int)) (λ_=>zH 21 [] hA l.length cap i 1 hk (zG 22 [] 9 b (off+i*1) (.string (mkS (tg l i))) (λw hO=>qI zO (λj u h=>(hO.below.cell (p:=⟨b,off+j,none⟩) hlt).trans (hcell j u h)) i 0 hk Om _ (by rw [tgi_get hk];kernel_rfl)) (z6 (k:=241) (args:= #[.string (mkS (tg l i))]) (v:= .tuple #[YI (zJ (tg l i)),.bool (g7 (tg l i))]) [] (λw _=>(pG (tg l i) w (Nat.le_trans (htl i) (by decide))).mono λe w' ⟨q1,q2⟩=>⟨q1,q2▸Below.refl _ _⟩) ?_))) (λh=>absurd h2 h)
  cases h3:g7 (tg l i) with
  |true=>
   refine x_ixa 31 [] 3 i 1 Om (x_sto 0 ⟨b2,nuA l i,199⟩ (0+i*1) 1 (YI (zJ (tg l i))) [⟨b2,nuA l i,199⟩,⟨b1,(yN Ver.zero).cells,24⟩] (by show 0+i*1+1<=3;omega) (x_i 17 [] ((i+1:Nat):Int) (zK [] [⟨b2,nuA l (i+1),199⟩,⟨b1,(yN Ver.zero).cells,24⟩] (λw hO=>(hO.past 0 [⟨b2,yK (nuA l i) (0+i*1) (Value.int .i64 (zJ (tg l i))).cells,199⟩,⟨b1,(yN Ver.zero).cells,24⟩]).cast (by rw [nuA_set Om])) (nx (i+1) (l.length-(i+1)) [] Om ⟨⟨by omega,λj hj=> ?_⟩,rfl⟩ Kr Kr))))
   rcases Nat.lt_succ_iff_lt_or_eq.1 hj with h|rfl
   ·exact hall j h
   ·exact h3
  |false=>exact zS [1] 1 (yN Ver.zero) (.bool false) λw hO=>hno (nums_bad hk h3) w hO.below
 ·obtain rfl:i=l.length:=by omega
  exact zA 15 [] ((l.length:Int)<(l.length:Int)) (λh=>absurd h h2) (λ_=>zS [0,0,0,1] 1 (yN ⟨nuZ l l.length 0,nuZ l l.length 1,nuZ l l.length 2,[],[]⟩) Z4 λw hO=>⟨by have h:=nums_all Om hall;rw [show q7 l=⟨zJ (tg l 0),zJ (tg l 1),zJ (tg l 2),[],[]⟩ from if_pos h,h,nuZ_end,nuZ_end,nuZ_end],hO.below⟩)
end
section
def pcV (s:YL):Co:=(gP s).getD ⟨0,0,Ver.zero⟩
def pcE (s:YL):Int:=if (gP s).isSome then 0 else 6
theorem guess_nums (op:Int)(r:YL):guessC op r=if jP (qD op r) then some ⟨op,((qD op r).length:Int),{q7 (qD op r) with pre:=(zD 45 r).2.1}⟩ else none:=by
 unfold guessC q7
 by_cases h:jP (qD op r)=true
 ·have h2:=h
  unfold jP at h2
  rw [Bool.and_eq_true,decide_eq_true_eq] at h2
  rw [if_pos h2,if_pos h,if_pos h]
 ·have h2:¬ ((qD op r).length<=3/\(qD op r).all g7=true):=λq=>h (by unfold jP;rw [decide_eq_true q.1,q.2];rfl)
  rw [if_neg h2,if_neg h]
theorem dN {s r tl:YL}{op:Int}{gl:List YL}(h1:(qB s).1=op)(h2:(qB s).2=r)(h3:qD op r=gl)(h4:(zD 45 r).2.1=tl):
  gP s=(if jP gl then some ⟨op,(gl.length:Int),{q7 gl with pre:=tl}⟩ else none:Option Co).filter (fits s):=by
 unfold gP
 rw [h1,h2,guess_nums,h3,h4]
theorem pc_none {s:YL}(h:gP s=none):pcV s=⟨0,0,Ver.zero⟩/\pcE s=6:=by unfold pcV pcE;rw [h];exact ⟨rfl,rfl⟩
theorem pc_some {s:YL}{c:Co}(h:gP s=some c):pcV s=c/\pcE s=0:=by unfold pcV pcE;rw [h];exact ⟨rfl,rfl⟩
theorem split6_le (s:YL):(qB s).2.length<=s.length:=by
 unfold qB
 repeat' split
 all_goals first|exact Nat.le_refl _|(rw [List.length_drop];omega)
theorem guess_take {op:Int}{r ah:YL}(h:(zD 45 r).1=ah):qD op r=(pcs ah).take (qD op r).length/\(qD op r).length<=(pcs ah).length:=by
 unfold qD
 rw [h]
 split
 ·rw [List.length_dropLast]
  exact ⟨List.dropLast_eq_take,by omega⟩
 ·exact ⟨(List.take_of_length_le (Nat.le_refl _)).symm,Nat.le_refl _⟩
theorem Reads.front {α:Type}{g:α->List Value}{w:World}{B:Nat}{A:Option Addr}{l:List α}(h:Reads g w B A l)(k:Nat):Reads g w B A (l.take k):=λh0=>by
 rw [List.length_take] at h0
 obtain ⟨b,off,e,hlt,hc⟩:=h Om
 refine ⟨b,off,e,hlt,λj u hj=>hc j u ?_⟩
 have e2:l.flatMap g=(l.take k).flatMap g++(l.drop k).flatMap g:=by rw [←List.flatMap_append,List.take_append_drop]
 rw [e2,List.getElem?_append_left (List.getElem?_eq_some_iff.1 hj).1]
 exact hj
theorem pcs_pos6 (s:YL):0<(pcs s).length:=List.length_pos_iff.2 (pcs_ne s)
theorem tg_short {l:List YL}(h:∀ x∈l,x.length<=1000000)(i:Nat):(tg l i).length<=1000000:=by
 unfold tg
 cases hq:l[i]? with
 |none=>exact Nat.zero_le _
 |some x=>exact h x (List.mem_of_getElem? hq)
theorem pcs_count (s:YL):(pcs s).length<=s.length+1:=by
 unfold pcs
 rw [nE]
 have:=List.length_filter_le (·==(46:UInt8)) s
 omega
theorem rcParse_any (s:YL)(W:World)(hs:s.length<=1000000):YC 322 #[.string (mkS s)] W (YR (.tuple #[coV (pcV s),YI (pcE s)]) W):=by
 obtain ⟨op,hop⟩:∃ x,(qB s).1=x:=⟨_,rfl⟩
 obtain ⟨r,hr⟩:∃ x,(qB s).2=x:=⟨_,rfl⟩
 obtain ⟨ah,hah⟩:∃ x,(zD 45 r).1=x:=⟨_,rfl⟩
 obtain ⟨tl,htl⟩:∃ x,(zD 45 r).2.1=x:=⟨_,rfl⟩
 obtain ⟨gl,hgl⟩:∃ x,qD op r=x:=⟨_,rfl⟩
 have hrl:r.length<=s.length:=hr▸split6_le s
 have hal:ah.length+tl.length<=r.length:=by rw [←hah,←htl];exact tT 45 r
 have hpl:=pcs_count ah
 have hp0:=pcs_pos6 ah
 have hbad:=λ(h:gP s=none) (w:World) (hb:YB W w)=>show Ending.returned (.tuple #[(coV ⟨0,0,Ver.zero⟩),YI 6])= .returned (.tuple #[coV (pcV s),YI (pcE s)])/\YB W w from ⟨by rw [(pc_none h).1,(pc_none h).2],hb⟩
 refine z8 Tryz.func322 (zB [] λb1=>z6 (k:=357) (args:= #[.string (mkS s)]) (v:= .tuple #[YI op,.string (mkS r)]) [] (λw _=>ret_v (by rw [hop,hr]) (rcsplit_any s w hs)) (z6 (k:=358) (args:= #[.string (mkS r)]) (v:= .tuple #[.string (mkS ah),.string (mkS tl)]) [] (λw _=>ret_v (by rw [hah,htl]) (rcpre_any r w Om)) (yC (R:=λv' ob'=>SlT v' (pcs ah) ob') [] (λw hO=>pF ah w Om) ?_)))
 intro v1 o1 hsl
 obtain ⟨A1,c1,rfl⟩:=hsl.form
 obtain ⟨g1,cur1,rfl,rfl,hc1,hm1,hz1,ht1⟩:=Sl.block hsl (pcs_pos6 ah)
 refine jX 26 (α:=Nat) (λn=>[(0,.string (mkS s)),(2,Zp b1 0),(4,YI op),(7,.string (mkS tl)),(8,.slice (some ⟨g1,0,none⟩) n c1)]) (λ_=>[⟨b1,(coV ⟨0,0,Ver.zero⟩).cells,155⟩,⟨g1,cur1,9⟩]) (λn=>n=gl.length) [] (λnj=>qT 26 (op=9) (λh1=> ?_) (λh1=>nj (pcs ah).length [] (by rw [←hgl];unfold qD;rw [hah,if_neg h1]) Kr)) (λn gg hng=> ?_)
 ·have hgn:(((pcs ah).length:Int) -1).toNat=gl.length:=by rw [←hgl];unfold qD;rw [hah,if_pos h1,List.length_dropLast];omega
  exact x_i 30 [] (((pcs ah).length:Int) -1) (x_slhi 31 [] (A:=some ⟨g1,0,none⟩) rfl (pcs ah).length c1 1 (((pcs ah).length:Int) -1) Om Om (.slice (some ⟨g1,0,none⟩) gl.length c1) (by rw [hgn]) (nj gl.length [] rfl Kr))
 have hglt:(pcs ah).take n=gl:=by rw [hng,←hgl];exact (guess_take hah).1.symm
 have hgn:gl.length<=(pcs ah).length:=by rw [←hgl];exact (guess_take hah).2
 have hgs:∀ x∈gl,x.length<=1000000:=λx hx=>by rw [←hglt] at hx;exact Nat.le_trans (mE ah x (List.mem_of_mem_take hx)) Om
 refine z6 (k:=359) (args:= #[.slice (some ⟨g1,0,none⟩) n c1]) (v:= .tuple #[yN (q7 gl),.bool (jP gl)]) [] (λw hO=>rcnumbers_any (some ⟨g1,0,none⟩) n c1 gl w (hglt▸(SlT.reads hsl rfl (hO.past 1 [⟨g1,cur1,9⟩]) (λx hx=>hx)).front n) hng (tg_short hgs) Om) (zB [] λb2=> ?_)
 cases h2:jP gl with
 |false=>exact zS [0,1] 1 (coV ⟨0,0,Ver.zero⟩) (.int .i64 6) λw hO=>hbad (by rw [dN hop hr hgl htl,h2];rfl) w hO.below
 |true=>
  have hcs:((⟨op,(n:Int),{q7 gl with pre:=tl}⟩:Co)).short:=⟨by show tl.length<=_;omega,by show (q7 gl).build.length<=_;unfold q7;split<;>exact Nat.zero_le _⟩
  obtain ⟨pt,hpt⟩:∃ x,Co.print (⟨op,(n:Int),{q7 gl with pre:=tl}⟩:Co)=x:=⟨_,rfl⟩
  have hgood:=λ(h:gP s=some (⟨op,(n:Int),{q7 gl with pre:=tl}⟩:Co)) (w:World) (hb:YB W w)=>show Ending.returned (.tuple #[coV (⟨op,(n:Int),{q7 gl with pre:=tl}⟩:Co),YI 0])= .returned (.tuple #[coV (pcV s),YI (pcE s)])/\YB W w from ⟨by rw [(pc_some h).1,(pc_some h).2],hb⟩
  refine zB [0,0,0] λb3=>z6 (k:=124) (args:= #[coV (⟨op,(n:Int),{q7 gl with pre:=tl}⟩:Co)]) (v:= .string (mkS pt)) [0,0] (λw _=>ret_v (by rw [←hpt]) (tK (⟨op,(n:Int),{q7 gl with pre:=tl}⟩:Co) w hcs)) (yS 50 [] pt [] (λh3=>(zS [2] 2 (coV ⟨0,0,Ver.zero⟩) (YI 6) λw hO=>hbad (by rw [dN hop hr hgl htl,h2,←hng];exact Option.filter_eq_none_iff.2 λq0 q1=>by obtain rfl:=Option.some.inj q1;unfold fits;rw [hpt,decide_eq_true (show pt=[] from h3)];simp) w hO.below)) (λh3=>gR 54 [] pt s (λh4=>(zS [0,2] 2 (coV (⟨op,(n:Int),{q7 gl with pre:=tl}⟩:Co)) (YI 0) λw hO=>hgood (by rw [dN hop hr hgl htl,h2,←hng];exact Option.filter_eq_some_iff.2 ⟨rfl,by unfold fits;rw [hpt,decide_eq_false (show ¬ pt=[] from h3),decide_eq_true (show pt=s from h4)];simp⟩) w hO.below)) (λh4=>zZ 58 [] [94] s (gR 59 [] pt ([94]++s) (λh5=>(zS [0,2] 2 (coV (⟨op,(n:Int),{q7 gl with pre:=tl}⟩:Co)) (YI 0) λw hO=>hgood (by rw [dN hop hr hgl htl,h2,←hng];exact Option.filter_eq_some_iff.2 ⟨rfl,by unfold fits;rw [hpt,decide_eq_false (show ¬ pt=[] from h3),decide_eq_false (show ¬ pt=s from h4),decide_eq_true (show pt=94::s from h5)];simp⟩) w hO.below)) (λh5=>(zS [2] 2 (coV ⟨0,0,Ver.zero⟩) (YI 6) λw hO=>hbad (by rw [dN hop hr hgl htl,h2,←hng];exact Option.filter_eq_none_iff.2 λq0 q1=>by obtain rfl:=Option.some.inj q1;unfold fits;rw [hpt,decide_eq_false (show ¬ pt=[] from h3),decide_eq_false (show ¬ pt=s from h4),decide_eq_false (show ¬ pt=94::s from h5)];simp) w hO.below))))))
end
section
def coC (c:Co):List Value:=(coV c).cells.toList
theorem coC_len (c:Co):(coC c).length=7:=rfl
theorem co_cells (c:Co):∀ u∈coC c,u.oneCell'=true:=by
 intro u hu
 unfold coC coV at hu
 simp only [Value.cells,List.mem_cons,List.not_mem_nil,or_false] at hu
 rcases hu with rfl|rfl|rfl|rfl|rfl|rfl|rfl<;>rfl
structure Al where
 A:Option Addr
 l:List Co
 cap:Nat
def alC (x:Al):List Value:=[.slice x.A x.l.length x.cap]
theorem alC_len (x:Al):(alC x).length=1:=rfl
theorem al_cells (x:Al):∀ u∈alC x,u.oneCell'=true:=λu hu=>by rw [List.mem_singleton.1 hu];rfl
def x1 (xs:List Al):List (List Co):=xs.map Al.l
theorem gW (xs:List Al):(x1 xs).length=xs.length:=List.length_map ..
theorem rgOf_get {xs:List Al}{i:Nat}(hi:i<xs.length){x:Al}(h:xs[i]=x):(x1 xs)[i]'(by rw [gW];exact hi)=x.l:=by
 unfold x1;rw [List.getElem_map,h]
def ShortA (l:List Co):Prop:=∀ c∈l,c.short
structure RgIn (w:World)(B:Nat)(A:Option Addr)(xs:List Al):Prop where
 top:Reads alC w B A xs
 each:∀ x∈xs,Reads coC w B x.A x.l
 n:xs.length<=1000
 m:∀ x∈xs,x.l.length<=1000
 short:∀ x∈xs,ShortA x.l
theorem RgIn.on {w w':World}{B B':Nat}{A:Option Addr}{xs:List Al}(h:RgIn w B A xs)(hb:Below B w w')(hB:B<=B'):RgIn w' B' A xs:=⟨h.top.on hb hB,λx hx=>(h.each x hx).on hb hB,h.n,h.m,h.short⟩
theorem take_all {α:Type}{p:α->Prop}{l:List α}{i:Nat}(h:∀ x∈l.take i,p x)(hi:i<l.length){x:α}(hx:l[i]=x)(hp:p x):∀ y∈l.take (i+1),p y:=λy hy=>by
 rw [List.take_succ_eq_append_getElem hi] at hy
 rcases List.mem_append.1 hy with hy|hy
 ·exact h y hy
 ·rw [List.mem_singleton.1 hy,hx];exact hp
theorem take_end {α:Type}{p:α->Prop}{l:List α}{i:Nat}(h:∀ x∈l.take i,p x)(hi:l.length<=i):∀ y∈l,p y:=by rwa [List.take_of_length_le hi] at h
theorem fewA_len {l:List Co}(h:¬ (1<=l.length/\l.length<=6)):fewA l=false:=by unfold fewA;rw [decide_eq_false h];rfl
theorem fewA_one {l:List Co}{c:Co}(hm:c∈l)(h:c.may=false):fewA l=false:=by
 cases hf:fewA l with
 |false=>rfl
 |true=>rw [(fewA.facts hf).2 c hm] at h;cases h
theorem fewA_all {l:List Co}(h1:1<=l.length/\l.length<=6)(h:∀ c∈l,c.may=true):fewA l=true:=by
 unfold fewA;rw [decide_eq_true h1,List.all_eq_true.2 h];rfl
theorem few_len {xs:List Al}(h:¬ (1<=xs.length/\xs.length<=6)):fewR (x1 xs)=false:=by unfold fewR;rw [gW,decide_eq_false h];rfl
theorem few_one {xs:List Al}{x:Al}(hm:x∈xs)(h:fewA x.l=false):fewR (x1 xs)=false:=by
 cases hf:fewR (x1 xs) with
 |false=>rfl
 |true=>rw [(fewR.facts hf).2 x.l (List.mem_map.2 ⟨x,hm,rfl⟩)] at h;cases h
theorem few_all {xs:List Al}(h1:1<=xs.length/\xs.length<=6)(h:∀ x∈xs,fewA x.l=true):fewR (x1 xs)=true:=by
 unfold fewR;rw [gW,decide_eq_true h1,List.all_eq_true.2 λa ha=>by obtain ⟨x,hx,rfl⟩:=List.mem_map.1 ha;exact h x hx];rfl
theorem few_mem {xs:List Al}(h:fewR (x1 xs)=true):(1<=xs.length/\xs.length<=6)∧∀ x∈xs,(1<=x.l.length/\x.l.length<=6)∧∀ c∈x.l,c.may=true:=by
 obtain ⟨h1,h2⟩:=fewR.facts h
 rw [gW] at h1
 exact ⟨h1,λx hx=>fewA.facts (h2 x.l (List.mem_map.2 ⟨x,hx,rfl⟩))⟩
theorem joinB_step (sep:YL){l:List YL}{i:Nat}(hi:i<l.length):wB sep (l.take (i+1))=(if i=0 then [] else wB sep (l.take i)++sep)++l[i]:=by
 rw [List.take_succ_eq_append_getElem hi,joinB_snoc]
 by_cases h:i=0
 ·subst h;rfl
 ·have hne:l.take i≠[]:=λe=>by
   have h3:(l.take i).length=0:=by rw [e];rfl
   rw [List.length_take] at h3;omega
  rw [if_neg hne,if_neg h]
theorem altText_step {l:List Co}{k:Nat}(hk:k<l.length){c:Co}(hc:l[k]=c):kC (l.take (k+1))=(if k=0 then [] else kC (l.take k)++[44,32])++c.print:=by
 unfold kC
 rw [List.map_take,List.map_take,joinB_step _ (by rw [List.length_map];exact hk),List.getElem_map,hc]
theorem rgText_step {r:List (List Co)}{i:Nat}(hi:i<r.length){a:List Co}(ha:r[i]=a):kR (r.take (i+1))=(if i=0 then [] else kR (r.take i)++[32,124,124,32])++kC a:=by
 unfold kR
 rw [List.map_take,List.map_take,joinB_step _ (by rw [List.length_map];exact hi),List.getElem_map,ha]
theorem co_len {c:Co}(h:c.may=true):c.print.length<=300:=by
 obtain ⟨_,hv,_⟩:=Co.facts h
 have hp:=preOk_short (may_pre hv)
 rw [v8 h]
 unfold Co.text Co.rest
 rw [List.length_append]
 have h1:(y9 c.op).length<=2:=by
  unfold y9
  repeat' split
  all_goals decide
 split
 ·have:=sjoin_len hv c.parts.toNat;omega
 ·rw [List.length_append]
  have:=njoin_len hv c.parts.toNat
  have:(kJ 45 c.v.pre).length<=37:=by
   unfold kJ
   split
   ·exact Nat.zero_le _
   ·rw [List.length_cons];omega
  omega
end
section
theorem coInfo:(Tryz.prog.info? 155).map (λi=>(i.zero.map (·.cells.size),i.size,i.bytes))=some (some 7,7,72):=by kernel_rfl
theorem co_info:∃ i z,Tryz.prog.info? 155=some i/\i.zero=some z/\i.size=7/\z.cells.size=7/\i.bytes=72:=by
 have h:=coInfo
 cases hi:Tryz.prog.info? 155 with
 |none=>rw [hi] at h;cases h
 |some i=>
  rw [hi] at h
  simp only [Option.map_some,Option.some.injEq,Prod.mk.injEq] at h
  cases hz:i.zero with
  |none=>rw [hz] at h;simp at h
  |some z=>rw [hz] at h;simp at h;exact ⟨i,z,rfl,hz,h.2.1,h.1,h.2.2⟩
theorem alInfo:(Tryz.prog.info? 305).map (λi=>(i.zero.map (·.cells.size),i.size,i.bytes))=some (some 1,1,24):=by kernel_rfl
theorem al_info:∃ i z,Tryz.prog.info? 305=some i/\i.zero=some z/\i.size=1/\z.cells.size=1/\i.bytes=24:=by
 have h:=alInfo
 cases hi:Tryz.prog.info? 305 with
 |none=>rw [hi] at h;cases h
 |some i=>
  rw [hi] at h
  simp only [Option.map_some,Option.some.injEq,Prod.mk.injEq] at h
  cases hz:i.zero with
  |none=>rw [hz] at h;simp at h
  |some z=>rw [hz] at h;simp at h;exact ⟨i,z,rfl,hz,h.2.1,h.1,h.2.2⟩
def SlCo (v:Value)(l:List Co)(ob:List Blk):Prop:=Sl 155 7 v l.length (l.flatMap coC) ob
structure RgA (u:Value)(xs:List Al)(o1 o2:List Blk):Prop where
 top:Sl 305 1 u xs.length (xs.flatMap alC) o1
 each:∀ x∈xs,∃ o,(∀ b∈o,b∈o2)/\SlCo (.slice x.A x.l.length x.cap) x.l o
def RgO (v:Value)(r:List (List Co))(ob:List Blk):Prop:=∃ xs u o1 o2,v= .agg #[u]/\ob=o1++o2/\x1 xs=r/\RgA u xs o1 o2
theorem RgA.nil:RgA (.slice none 0 0) [] [] []:=⟨Sl.nil _ _,λx hx=>by simp at hx⟩
theorem RgO.nil:RgO (.agg #[.slice none 0 0]) [] []:=⟨[],_,[],[],rfl,rfl,rfl,RgA.nil⟩
theorem RgA.add {u u2:Value}{xs:List Al}{o1 o2 o3 oa:List Blk}{A:Option Addr}{cap:Nat}{a:List Co}(h:RgA u xs o1 o2)(h2:Sl 305 1 u2 (xs.length+1) (xs.flatMap alC++alC ⟨A,a,cap⟩) o3)(ha:SlCo (.slice A a.length cap) a oa):RgA u2 (xs++[⟨A,a,cap⟩]) o3 (oa++o2):=
 ⟨h2.to (by simp) (by simp),λx hx=>by
  rcases List.mem_append.1 hx with hx|hx
  ·obtain ⟨o,k1,k2⟩:=h.each x hx
   exact ⟨o,λb hb=>List.mem_append_right _ (k1 b hb),k2⟩
  ·obtain rfl:=List.mem_singleton.1 hx
   exact ⟨oa,λb hb=>List.mem_append_left _ hb,ha⟩⟩
structure FineR (r:List (List Co)):Prop where
 n:r.length<=1000
 m:∀ a∈r,a.length<=1000/\ShortA a
theorem RgA.inn {A:Option Addr}{n cap:Nat}{xs:List Al}{o1 o2 L:List Blk}{M:List Nat}{W w:World}(h:RgA (.slice A n cap) xs o1 o2)(hn:xs.length=n)(hO:Own M W w L)(h1:∀ x∈o1,x∈L)(h2:∀ x∈o2,x∈L)(hf:FineR (x1 xs)):RgIn w w.heap.size A xs:=by
 subst hn
 refine ⟨Sl.reads h.top rfl hO h1,λx hx=> ?_,by have:=hf.n;rwa [gW] at this,λx hx=>(hf.m x.l (List.mem_map.2 ⟨x,hx,rfl⟩)).1,λx hx=>(hf.m x.l (List.mem_map.2 ⟨x,hx,rfl⟩)).2⟩
 obtain ⟨o,k1,k2⟩:=h.each x hx
 exact Sl.reads k2 rfl hO λb hb=>h2 b (k1 b hb)
theorem SlT.blk {v:Value}{l:List YL}{ob:List Blk}(h:SlT v l ob)(hn:l≠[]):∃ g cur cap,v= .slice (some ⟨g,0,none⟩) l.length cap/\ob=[⟨g,cur,9⟩]/\cur.toList.take (l.length*1)=l.flatMap y7:=by
 obtain ⟨A,cap,rfl⟩:=h.form
 have h0:0<l.length:=by cases l with
  |nil=>exact absurd rfl hn
  |cons _ _=>simp
 obtain ⟨g,cur,rfl,e,_,_,_,e2⟩:=Sl.block h h0
 exact ⟨g,cur,cap,rfl,e,by rw [e2,xB]⟩
theorem pc_ok {s:YL}(h:pcE s=0):gP s=some (pcV s):=by
 cases hp:gP s with
 |none=>rw [(pc_none hp).2] at h;exact absurd h (by decide)
 |some c=>rw [(pc_some hp).1]
theorem pc_err {s:YL}(h:¬ pcE s=0):gP s=none:=by
 cases hp:gP s with
 |none=>rfl
 |some c=>exact absurd (pc_some hp).2 h
theorem parseP_may {s:YL}{c:Co}(h:parseP s=some c):c.may=true:=((pI _ c).1 h).1
theorem co_short {c:Co}(h:c.may=true):c.short:=by
 obtain ⟨_,hv,hb,_⟩:=Co.facts h
 exact may_short hv hb
theorem parseA_fine {s:YL}{a:List Co}(h:parseA s=some a)(hs:s.length<=100):a.length<=1000∧∀ c∈a,c.may=true:=by
 refine ⟨?_,λc hc=> ?_⟩
 ·rw [dV h,nE]
  have:=List.length_filter_le (λx:UInt8=>x==44) s
  omega
 ·obtain ⟨x,_,e⟩:=allO_back h c hc
  exact parseP_may e
theorem fine_part {s:YL}(hs:s.length<=96){l:List YL}(hl:∀ x∈l,x∈kF [] s)(hn:l.length<=97){r:List (List Co)}(h:dW parseA l=some r):FineR r:=by
 refine ⟨by rw [dV h];omega,λa ha=> ?_⟩
 obtain ⟨x,hx,e⟩:=allO_back h a ha
 have:=tV s [] x (hl x hx)
 have:=parseA_fine e (by simp at this;omega)
 exact ⟨this.1,λc hc=>co_short (this.2 c hc)⟩
theorem fine_few {r:List (List Co)}(h:fewR r=true):FineR r:=by
 obtain ⟨h1,h2⟩:=fewR.facts h
 refine ⟨by omega,λa ha=> ?_⟩
 obtain ⟨k1,k2⟩:=fewA.facts (h2 a ha)
 exact ⟨by omega,λc hc=>co_short (k2 c hc)⟩
theorem allO_next {α β:Type}{f:α->Option β}{l:List α}{i:Nat}(hi:i<l.length){y:α}(hy:l[i]=y){m:List β}{z:β}(h:dW f (l.take i)=some m)(hz:f y=some z):dW f (l.take (i+1))=some (m++[z]):=by
 rw [List.take_succ_eq_append_getElem hi,hy]
 exact allO_snoc h hz
theorem all_fails {s:YL}{l m:List YL}(hl:l=kF [] s){i k:Nat}(hi:i<l.length){y z:YL}(hy:l[i]=y)(hm:m=zI 44 [] y)(hk:k<m.length)(hz:m[k]=z)(h:¬ pcE (yE z)=0):qZ s=none:=by
 have h1:parseA y=none:=allO_none (x:=z) (by rw [←hm,←hz];exact List.getElem_mem hk) (pc_err h)
 exact allO_none (x:=y) (by rw [←hl,←hy];exact List.getElem_mem hi) h1
theorem errG_none {s:YL}(hs:s.length<=96)(h:qZ s=none):bP s=6/\g6 s=none:=by
 unfold bP g6
 rw [if_neg Om,if_neg Om,h];exact ⟨rfl,rfl⟩
theorem errG_few {s:YL}(hs:s.length<=96){r:List (List Co)}(h:qZ s=some r)(hf:fewR r=false):bP s=6/\g6 s=none:=by
 unfold bP g6
 rw [if_neg Om,if_neg Om,h]
 simp [hf,rgMay,Option.filter]
theorem errG_big {s:YL}(hs:s.length<=96){r:List (List Co)}(h:qZ s=some r)(hf:fewR r=true)(hb:96<(kR r).length):bP s=3/\g6 s=none:=by
 unfold bP g6
 rw [if_neg Om,if_neg Om,h]
 simp [hf,rgMay,Option.filter];omega
theorem errG_fine {s:YL}(hs:s.length<=96){r:List (List Co)}(h:qZ s=some r)(hf:fewR r=true)(hb:(kR r).length<=96):bP s=0/\g6 s=some r:=by
 unfold bP g6
 rw [if_neg Om,if_neg Om,h]
 simp [hf,rgMay,Option.filter,hb]
theorem errG_long {s:YL}(hs:96<s.length):bP s=3/\g6 s=none:=by
 unfold bP g6
 rw [if_pos hs,if_pos hs];exact ⟨rfl,rfl⟩
theorem rsplit44_own (s:YL)(W:World)(hs:s.length<=1000000):
  YC 107 #[.string (mkS s),.int .u8 44] W λe w'=>∃ v' ob',e= .returned v'/\SlT v' (zI 44 [] s) ob'/\Own [] W w' ob':=
 (rsplit_any (mkS s) 44 W (by rw [zW];exact hs)).mono λe w' ⟨v,h1,h2,h3⟩=>by
  unfold qY at h2
  rw [mk_data] at h2
  obtain ⟨ob,k1,k2⟩:=Own.row h2 h3
  exact ⟨v,ob,h1,k1,k2⟩
theorem bareF_len:∀ (s:YL),(yH s).length<=s.length
 | []=>Nat.le_refl _
 |c::l=>by
  rw [yH]
  split
  ·have:=bareF_len l;rw [List.length_cons];omega
  ·exact Nat.le_refl _
theorem bareL_len (s:YL):(yE s).length<=s.length:=by
 unfold yE
 rw [List.length_reverse]
 have h1:=bareF_len (yH s).reverse
 rw [List.length_reverse] at h1
 have:=bareF_len s
 omega
theorem pH {y:YL}(h:y.length<=96):(zI 44 [] y).length<=97∧∀ z∈zI 44 [] y,z.length<=96:=by
 refine ⟨?_,λz hz=>by have:=tG 44 y [] z hz;simp at this;omega⟩
 rw [nE]
 have:=List.length_filter_le (λx:UInt8=>x==44) y
 omega
section
variable {M:List Nat}{W w:World}
theorem own_two {x y:Blk}{A:List Blk}(h:Own M W w (x::y::A)):Own M W w A:=h.sublist ((List.sublist_cons_self y A).trans (List.sublist_cons_self x (y::A)))
theorem own_turn {x y r t g:Blk}{oa o1 o2:List Blk}(h:Own M W w (([x,y,g,r,t]++oa)++o1++o2)):Own M W w (g::r::t::(o1++(oa++o2))):=by
 have h1:Own M W w (x::y::g::r::t::((oa++o1)++o2)):=by simpa [List.append_assoc] using h
 refine (own_two h1).perm (List.Perm.cons _ (List.Perm.cons _ (List.Perm.cons _ ?_)))
 rw [←List.append_assoc]
 exact List.Perm.append_right _ List.perm_append_comm
end
end
section
def dP (v:Ver):Array Value:= #[YI v.maj,YI v.min,YI v.pat]
theorem cnums_any (v:Ver)(W:World):YC 366 #[yN v] W λe w'=>∃ v' ob',e= .returned v'/\(∃ g,v'= .slice (some ⟨g,0,none⟩) 3 3/\ob'=[⟨g,dP v,3⟩])/\Own [] W w' ob':=by
 exact z8 Tryz.func366 (zQ [] λb1=>kD [0,0,0] 3 3 #[YI v.maj,YI v.min,YI v.pat] λb2=>z7 [] (.slice (some ⟨b2,0,none⟩) 3 3) λw hO=>⟨_,_,rfl,⟨b2,rfl,rfl⟩,Own.nth 0 ⟨b2,dP v,3⟩ hO⟩)
theorem cMay_any (c:Co)(W:World)(hc:c.short):YC 347 #[coV c] W (YR (.bool c.may) W):=by
 obtain ⟨op,parts,v⟩:=c
 have hm:= @Co.may_iff ⟨op,parts,v⟩
 simp only at hm
 have no:∀ w,YB W w→¬ (Co.may ⟨op,parts,v⟩=true)->Ending.returned (.bool false)= .returned (.bool (Co.may ⟨op,parts,v⟩))/\YB W w:=λw hb h=>⟨by rw [Bool.eq_false_iff.2 h],hb⟩
 have hmay:∀ w,YC 102 #[yN v] w (YR (.bool v.may) w):=λw=>pM v w (Nat.lt_of_le_of_lt hc.1 (by decide)) (Nat.lt_of_le_of_lt hc.2 (by decide))
 have hnum:∀ w,YC 366 #[yN v] w λe w'=>∃ v' ob',e= .returned v'/\(∃ g,v'= .slice (some ⟨g,0,none⟩) 3 3/\ob'=[⟨g,dP v,3⟩])/\Own [] w w' ob':=λw=>cnums_any v w
 refine z8 Tryz.func347 (zQ [] λb1=>jX 9 (α:=Int×Int) (λq=>[(1,Zp b1 0),(3,YI q.1),(4,YI q.2)]) (λ_=>[⟨b1,(coV ⟨op,parts,v⟩).cells,155⟩]) (λq=>(op=9->q.1=0/\q.2=2)/\(¬ op=9->q.1=1/\q.2=3)) [0] (λnj=>qT 9 (op=9) (λh=>nj (0,2) [] ⟨λ_=>⟨rfl,rfl⟩,λq=>absurd h q⟩ Kr) (λh=>nj (1,3) [] ⟨λq=>absurd q h,λ_=>⟨rfl,rfl⟩⟩ Kr)) ?_)
 rintro ⟨lo,hi⟩ g hr
 simp only at hr
 refine zA 12 [0] (op<1) (λh1=>(z7 [] Z5 λw hO=>no w hO.below λq=>by have:=hm.1 q;grind)) (λh1=>zA 16 [0] (op>9) (λh2=>(z7 [] Z5 λw hO=>no w hO.below λq=>by have:=hm.1 q;grind)) (λh2=>zA 22 [0] (parts<lo) (λh5=>(z7 [] Z5 λw hO=>no w hO.below λq=>by have:=hm.1 q;grind)) (λh5=>zA 28 [0] (parts>hi) (λh6=>(z7 [] Z5 λw hO=>no w hO.below λq=>by have:=hm.1 q;grind)) (λh6=> ?_))))
 rcases (by omega:parts=0\/parts=1\/parts=2\/parts=3) with rfl|rfl|rfl|rfl
 ·refine x_drawF (.s (.s (.s (.s (.s (.s (.s (.s .z)))))))) 8 [] (zY [0,0] 2 (x6 (R:=λv' ob'=>∃ g,v'= .slice (some ⟨g,0,none⟩) 3 3/\ob'=[⟨g,dP v,3⟩]) (λw hO=>hnum w) ?_))
  rintro v' ob' ⟨gb,rfl,rfl⟩
  exact jG 3 [] (kW 42 [1] (v.maj=0) (λa1=>kW 42 [1] (v.min=0) (λa2=>kW 42 [1] (v.pat=0) (λa3=>z6 (v:= .bool v.may) [0] (λw hO=>hmay w) (zX 46 v.may (λe3=>yS 51 [0] v.build [] (λh4=>yS 57 [0] v.pre [] (λh8=>(z7 [] Z4 λw hO=>⟨by rw [hm.2 ⟨by omega,e3,h4,by omega,by omega,by first|exact .inr h8|exact .inl Om,by omega,by omega,by omega⟩],hO.below⟩)) (λh8=>(z7 [0] Z5 λw hO=>no w hO.below λq=>by have:=hm.1 q;grind))) (λh4=>(z7 [] Z5 λw hO=>no w hO.below λq=>by have:=hm.1 q;grind))) (λe3=>(z7 [] Z5 λw hO=>no w hO.below λq=>by have:=hm.1 q;grind)))) (λa3=>(z7 [] Z5 λw hO=>no w hO.below λq=>by have:=hm.1 q;grind))) (λa2=>(z7 [] Z5 λw hO=>no w hO.below λq=>by have:=hm.1 q;grind))) (λa1=>(z7 [] Z5 λw hO=>no w hO.below λq=>by have:=hm.1 q;grind)))
 ·refine x_drawF (.s (.s (.s (.s (.s (.s (.s (.s .z)))))))) 8 [] (zY [0,0] 2 (x6 (R:=λv' ob'=>∃ g,v'= .slice (some ⟨g,0,none⟩) 3 3/\ob'=[⟨g,dP v,3⟩]) (λw hO=>hnum w) ?_))
  rintro v' ob' ⟨gb,rfl,rfl⟩
  exact jG 3 [] (kW 42 [1] (v.min=0) (λa2=>kW 42 [1] (v.pat=0) (λa3=>z6 (v:= .bool v.may) [0] (λw hO=>hmay w) (zX 46 v.may (λe3=>yS 51 [0] v.build [] (λh4=>yS 57 [0] v.pre [] (λh8=>(z7 [] Z4 λw hO=>⟨by rw [hm.2 ⟨by omega,e3,h4,by omega,by omega,by first|exact .inr h8|exact .inl Om,by omega,by omega,by omega⟩],hO.below⟩)) (λh8=>(z7 [0] Z5 λw hO=>no w hO.below λq=>by have:=hm.1 q;grind))) (λh4=>(z7 [] Z5 λw hO=>no w hO.below λq=>by have:=hm.1 q;grind))) (λe3=>(z7 [] Z5 λw hO=>no w hO.below λq=>by have:=hm.1 q;grind)))) (λa3=>(z7 [] Z5 λw hO=>no w hO.below λq=>by have:=hm.1 q;grind))) (λa2=>(z7 [] Z5 λw hO=>no w hO.below λq=>by have:=hm.1 q;grind)))
 ·refine x_drawF (.s (.s (.s (.s (.s (.s (.s (.s .z)))))))) 8 [] (zY [0,0] 2 (x6 (R:=λv' ob'=>∃ g,v'= .slice (some ⟨g,0,none⟩) 3 3/\ob'=[⟨g,dP v,3⟩]) (λw hO=>hnum w) ?_))
  rintro v' ob' ⟨gb,rfl,rfl⟩
  exact jG 3 [] (kW 42 [1] (v.pat=0) (λa3=>z6 (v:= .bool v.may) [0] (λw hO=>hmay w) (zX 46 v.may (λe3=>yS 51 [0] v.build [] (λh4=>yS 57 [0] v.pre [] (λh8=>(z7 [] Z4 λw hO=>⟨by rw [hm.2 ⟨by omega,e3,h4,by omega,by omega,by first|exact .inr h8|exact .inl Om,by omega,by omega,by omega⟩],hO.below⟩)) (λh8=>(z7 [0] Z5 λw hO=>no w hO.below λq=>by have:=hm.1 q;grind))) (λh4=>(z7 [] Z5 λw hO=>no w hO.below λq=>by have:=hm.1 q;grind))) (λe3=>(z7 [] Z5 λw hO=>no w hO.below λq=>by have:=hm.1 q;grind)))) (λa3=>(z7 [] Z5 λw hO=>no w hO.below λq=>by have:=hm.1 q;grind)))
 ·refine x_drawF (.s (.s (.s (.s (.s (.s (.s (.s .z)))))))) 8 [] (zY [0,0] 2 (x6 (R:=λv' ob'=>∃ g,v'= .slice (some ⟨g,0,none⟩) 3 3/\ob'=[⟨g,dP v,3⟩]) (λw hO=>hnum w) ?_))
  rintro v' ob' ⟨gb,rfl,rfl⟩
  exact jG 3 [] (z6 (v:= .bool v.may) [0] (λw hO=>hmay w) (zX 46 v.may (λe3=>yS 51 [0] v.build [] (λh4=>yS 57 [0] v.pre [] (λh8=>(z7 [] Z4 λw hO=>⟨by rw [hm.2 ⟨by omega,e3,h4,by omega,by omega,by first|exact .inr h8|exact .inl Om,by omega,by omega,by omega⟩],hO.below⟩)) (λh8=>(z7 [0] Z4 λw hO=>⟨by rw [hm.2 ⟨by omega,e3,h4,by omega,by omega,by first|exact .inr h8|exact .inl Om,by omega,by omega,by omega⟩],hO.below⟩))) (λh4=>(z7 [] Z5 λw hO=>no w hO.below λq=>by have:=hm.1 q;grind))) (λe3=>(z7 [] Z5 λw hO=>no w hO.below λq=>by have:=hm.1 q;grind))))
theorem csign_any (op:Int)(W:World):YC 365 #[YI op] W (YR (.string (mkS (y9 op))) W):=by
 exact z8 Tryz.func365 (zA 7 [] (op=2) (λh=>zZ 24 [] [33] [61] (z7 [] (.string (mkS ([33]++[61]))) λw hO=>⟨by subst h;rfl,hO.below⟩)) (λh2=>zA 9 [] (op=1) (λh=>zZ 24 [] [] [61] (z7 [] (.string (mkS ([]++[61]))) λw hO=>⟨by subst h;rfl,hO.below⟩)) (λh1=>zA 11 [] (op=4) (λh=>zZ 24 [] [60] [61] (z7 [] (.string (mkS ([60]++[61]))) λw hO=>⟨by subst h;rfl,hO.below⟩)) (λh4=>zA 13 [] (op=3) (λh=>zZ 24 [] [60] [] (z7 [] (.string (mkS ([60]++[]))) λw hO=>⟨by subst h;rfl,hO.below⟩)) (λh3=>zA 15 [] (op=6) (λh=>zZ 24 [] [62] [61] (z7 [] (.string (mkS ([62]++[61]))) λw hO=>⟨by subst h;rfl,hO.below⟩)) (λh6=>zA 17 [] (op=5) (λh=>zZ 24 [] [62] [] (z7 [] (.string (mkS ([62]++[]))) λw hO=>⟨by subst h;rfl,hO.below⟩)) (λh5=>zA 19 [] (op=7) (λh=>zZ 24 [] [94] [] (z7 [] (.string (mkS ([94]++[]))) λw hO=>⟨by subst h;rfl,hO.below⟩)) (λh7=>zA 21 [] (op=8) (λh=>zZ 24 [] [126] [] (z7 [] (.string (mkS ([126]++[]))) λw hO=>⟨by subst h;rfl,hO.below⟩)) (λh8=>zZ 24 [] [] [] (z7 [] (.string (mkS ([]++[]))) λw hO=>⟨by unfold y9;rw [if_neg h1,if_neg h2,if_neg h3,if_neg h4,if_neg h5,if_neg h6,if_neg h7,if_neg h8];rfl,hO.below⟩))))))))))
end
section
theorem splitn_any (s:YL)(W:World)(hs:s.length<=1000000):YC 161 #[.string (mkS s),.string ⟨#[46]⟩,YI 3] W λe w'=>∃ v' ob',e= .returned v'/\SlT v' (dL 2 s) ob'/\Own [] W w' ob':=by
 exact z8 Tryz.func161 (yC (R:=λv' ob'=>SlT v' (dL 2 s) ob') [] (λw hO=>split3_any s w hs) λv1 o1 h=>z7 [] v1 λw hO=>⟨v1,o1,rfl,h,hO.past 0 o1⟩)
theorem sgo_take {s r:YL}{k:Nat}{op:Int}(h:sgo s k=(op,r))(hb:yO s (y9 ((k+1:Nat):Int))=true)(hl:((mkS (cpL s (y9 ((k+1:Nat):Int)))).size:Int)<((mkS r).size:Int)):sgo s (k+1)=(((k+1:Nat):Int),cpL s (y9 ((k+1:Nat):Int))):=by
 rw [zW,zW] at hl
 unfold cpL at hl ⊢
 rw [if_pos hb] at hl ⊢
 unfold sgo
 rw [h,if_pos ⟨hb,by show _<r.length;omega⟩]
theorem sgo_not {s r:YL}{k:Nat}{op:Int}(h:sgo s k=(op,r))(hb:yO s (y9 ((k+1:Nat):Int))=false):sgo s (k+1)=(op,r):=by
 unfold sgo
 rw [h,if_neg (λq=>by rw [hb] at q;exact Bool.false_ne_true q.1)]
theorem sgo_long {s r:YL}{k:Nat}{op:Int}(h:sgo s k=(op,r))(hb:yO s (y9 ((k+1:Nat):Int))=true)(hl:¬ ((mkS (cpL s (y9 ((k+1:Nat):Int)))).size:Int)<((mkS r).size:Int)):sgo s (k+1)=(op,r):=by
 rw [zW,zW] at hl
 unfold cpL at hl
 rw [if_pos hb] at hl
 unfold sgo
 rw [h,if_neg (λq=>hl (by have q2:_<r.length:=q.2;omega))]
theorem ccut_any (s:YL)(W:World)(hs:s.length<=1000000):YC 338 #[.string (mkS s)] W (YR (.tuple #[YI (sgo s 8).1,.string (mkS (sgo s 8).2)]) W):=by
 refine z8 Tryz.func338 (zL (α:=Nat×Int×YL) (λ(k,op,r)=>[(0,.string (mkS s)),(4,YI op),(5,.string (mkS r)),(6,YI ((k+1:Nat):Int))]) (λ_=>[]) (λ(k,op,r) m=>(k<=8/\sgo s k=(op,r))/\m=8-k) (0,7,s) (8-0) [] ⟨⟨by omega,rfl⟩,rfl⟩ ?_)
 rintro ⟨k,op,r⟩ m g kk ⟨⟨hkl,hrel⟩,hmm⟩ nx hkk
 subst hkk
 by_cases h1:((k+1:Nat):Int)<9
 ·refine zA 11 [] (((k+1:Nat):Int)<9) (λ_=>z6 (k:=365) (args:= #[YI ((k+1:Nat):Int)]) (v:= .string (mkS (y9 ((k+1:Nat):Int)))) [] (λw _=>csign_any _ w) (z6 (k:=236) (args:= #[.string (mkS s),.string (mkS (y9 ((k+1:Nat):Int)))]) (v:= .tuple #[.string (mkS (cpL s (y9 ((k+1:Nat):Int)))),.bool (yO s (y9 ((k+1:Nat):Int)))]) [] (λw _=>cutpre_any s (y9 ((k+1:Nat):Int)) w) ?_)) (λh=>absurd h1 h)
  cases h2:yO s (y9 ((k+1:Nat):Int)) with
  |true=>exact zA 27 [] (((cpL s (y9 ((k+1:Nat):Int))).length:Int)<(r.length:Int)) (λh3=>x_i 13 [] ((k+1+1:Nat):Int) (nx (k+1,((k+1:Nat):Int),(cpL s (y9 ((k+1:Nat):Int)))) (8-(k+1)) [] Om ⟨⟨by omega,sgo_take hrel h2 (by rw [zW,zW];exact h3)⟩,rfl⟩ Kr Kr)) (λh3=>x_i 13 [] ((k+1+1:Nat):Int) (nx (k+1,op,r) (8-(k+1)) [] Om ⟨⟨by omega,sgo_long hrel h2 (by rw [zW,zW];exact h3)⟩,rfl⟩ Kr Kr))
  |false=>exact x_i 13 [] ((k+1+1:Nat):Int) (nx (k+1,op,r) (8-(k+1)) [] Om ⟨⟨by omega,sgo_not hrel h2⟩,rfl⟩ Kr Kr)
 ·obtain rfl:k=8:=by omega
  exact zA 11 [] (((8+1:Nat):Int)<9) (λh=>absurd h h1) (λ_=>yU [] (YI op) (.string (mkS r)) λw hO=>⟨by rw [hrel],hO.below⟩)
theorem nth_ok {v:Ver}(h:v.may=true){k:Nat}(hk:k<3):zU (bG v.maj v.min v.pat k)=true:=by
 obtain ⟨m1,m2,m3⟩:=jQ h
 have hj:k=0\/k=1\/k=2:=by omega
 rcases hj with rfl|rfl|rfl
 ·exact m1
 ·exact m2
 ·exact m3
theorem nth_in {v:Ver}(h:v.may=true){k:Nat}(hk:k<3): -9223372036854775808<=bG v.maj v.min v.pat k/\bG v.maj v.min v.pat k<=9223372036854775807:=by
 have q:=nth_ok h hk
 unfold zU at q;simp at q;omega
theorem nums_next (v:Ver){k:Nat}(hk:k<3):y8 v (k+1)=y8 v k++[Lib.itoa (bG v.maj v.min v.pat k)]:=by
 have hj:k=0\/k=1\/k=2:=by omega
 rcases hj with rfl|rfl|rfl<;>rfl
theorem star_ne {l:List YL}:zF 46 (l++[[42]])≠[]:=λe=>by
 have h:=last_join [] l
 rw [show ([]:YL)++[42]=[42] from rfl,e] at h
 cases h
theorem nums_ne {c:Co}(h:c.may=true)(hn:¬ c.op=9):zF 46 (y8 c.v c.parts.toNat)≠[]:=λe=>by
 obtain ⟨d,r,e2,hd⟩:=nI h hn
 unfold Co.rest at e2
 rw [if_neg hn,e,List.nil_append] at e2
 unfold kJ at e2
 split at e2
 ·cases e2
 ·injection e2 with e3 _
  rw [←e3] at hd
  revert hd;decide
theorem text_pre2 {c:Co}(h9:¬ c.op=9)(hp:¬ c.v.pre=[]):y9 c.op++zF 46 (y8 c.v c.parts.toNat)++([45]++c.v.pre)=c.text:=by
 rw [←text_pre h9 hp];simp
theorem star_text2 {c:Co}(h9:c.op=9):y9 c.op++zF 46 (y8 c.v c.parts.toNat++[[42]])=c.text:=by
 rw [←star_text h9,h9];rfl
theorem star_pre {c:Co}(h:c.may=true)(h9:c.op=9):c.v.pre=[]:=by
 obtain ⟨_,_,_,k9,_,hp,_⟩:=Co.facts h
 have:=k9 h9
 exact hp.resolve_left Om
theorem cPrint_any (c:Co)(W:World)(hc:c.short)(ht:HasTab W):YC 339 #[coV c] W (YR (.string (mkS c.print)) W):=by
 refine z8 Tryz.func339 (zQ [] λb1=>z6 (k:=347) (args:= #[coV c]) (v:= .bool c.may) [0] (λw _=>cMay_any c w hc) ?_)
 cases hcm:c.may with
 |false=>exact z7 [] (.string (mkS [])) λw hO=>⟨by unfold Co.print;simp [hcm],hO.below⟩
 |true=>
  have hcv:=(Co.facts hcm).2.1
  have hpn:=parts_nat hcm
  have hpr:=hpn.2
  have hpc:=hpn.1
  have q1:=signL_len c.op
  have q2:=njoin_len hcv c.parts.toNat
  have q4:=sjoin_len hcv c.parts.toNat
  have q3:=hc.1
  refine x_drawF (.s (.s (.s (.s (.s (.s (.s (.s (.s (.s (.s (.s (.s .z))))))))))))) 8 [] (zY [0,0] 2 (x6 (R:=λv' ob'=>∃ g,v'= .slice (some ⟨g,0,none⟩) 3 3/\ob'=[⟨g,dP c.v,3⟩]) (λw hO=>cnums_any c.v w) ?_))
  rintro v' ob' ⟨g1,rfl,rfl⟩
  refine xh_slhi 50015 [] 5 (A:=some ⟨g1,0,none⟩) rfl 3 3 1 c.parts Om Om (.slice (some ⟨g1,0,none⟩) c.parts.toNat 3) rfl (zL (α:=Nat×Value×List Blk) (λ(k,va,_)=>[(1,Zp b1 0),(3,va),(15,.slice (some ⟨g1,0,none⟩) c.parts.toNat 3),(16,YI (c.parts.toNat:Int)),(17,YI (k:Int))]) (λ(_,_,oa)=>⟨b1,(coV c).cells,155⟩::⟨g1,dP c.v,3⟩::oa) (λ(k,va,oa) m=>(k<=c.parts.toNat/\SlT va (y8 c.v k) oa)/\m=c.parts.toNat-k) (0,.slice none 0 0,[]) (c.parts.toNat-0) [] ⟨⟨Nat.zero_le _,Sl.nil _ _⟩,rfl⟩ ?_)
  rintro ⟨k,va,oa⟩ m g kk ⟨⟨hkl,hva⟩,hmm⟩ nx hkk
  subst hkk
  have hlk:(y8 c.v k).length<=3:=by have:=tN c.v k;omega
  by_cases h2:(k:Int)<(c.parts.toNat:Int)
  ·have hrd:xD YP 3 (dP c.v) k=some (YI (bG c.v.maj c.v.min c.v.pat k)):=by rcases (by omega:k=0\/k=1\/k=2) with rfl|rfl|rfl<;>kernel_rfl
   have hni:=nth_in hcv (show k<3 by omega)
   refine zA 18 [] ((k:Int)<(c.parts.toNat:Int)) (λ_=>jH 19 [] (A:=some ⟨g1,0,none⟩) rfl c.parts.toNat 3 (k:Int) 1 k Om (j7 20 [] 1 (dP c.v) k 3 (YI (bG c.v.maj c.v.min c.v.pat k)) hrd (z6 (k:=222) (args:= #[YI (bG c.v.maj c.v.min c.v.pat k)]) (v:= .string (mkS (Lib.itoa (bG c.v.maj c.v.min c.v.pat k)))) [] (λw hO=>digits_mk _ hni.1 hni.2 w (ht.on hO.below)) (kD [] 1 9 #[.string (mkS (Lib.itoa (bG c.v.maj c.v.min c.v.pat k)))] λb2=>qJ (m:=1) (cp:=1) [] [⟨b2, #[.string (mkS (Lib.itoa (bG c.v.maj c.v.min c.v.pat k)))],9⟩,⟨b1,(coV c).cells,155⟩,⟨g1,dP c.v,3⟩] oa [] 0 (⟨b2, #[.string (mkS (Lib.itoa (bG c.v.maj c.v.min c.v.pat k)))],9⟩::⟨b1,(coV c).cells,155⟩::⟨g1,dP c.v,3⟩::oa) (λw hO=>hO.cast (by simp)) hva Om λva2 oa2 hva0=> ?_)))) (λh=>absurd h2 h)
   have hva2:SlT va2 (y8 c.v k++[Lib.itoa (bG c.v.maj c.v.min c.v.pat k)]) oa2:=SlT.add hva0
   exact x_i 26 [] ((k+1:Nat):Int) (zK [] (⟨b1,(coV c).cells,155⟩::⟨g1,dP c.v,3⟩::oa2) (λw hO=>(hO.past 1 (⟨b1,(coV c).cells,155⟩::⟨g1,dP c.v,3⟩::(oa2++[]))).cast (by simp)) (nx (k+1,va2,oa2) (c.parts.toNat-(k+1)) [] Om ⟨⟨by omega,by rw [nums_next c.v Om];exact hva2⟩,rfl⟩ Kr Kr))
  ·obtain rfl:k=c.parts.toNat:=by omega
   refine zA 18 [] ((c.parts.toNat:Int)<(c.parts.toNat:Int)) (λh=>absurd h h2) (λ_=>zA 29 [0] (c.op=9) (λh3=> ?_) (λh3=> ?_))
   ·refine kD [] 1 9 #[.string ⟨#[42]⟩] λb2=>qJ (m:=1) (cp:=1) [] [⟨b2, #[.string ⟨#[42]⟩],9⟩,⟨b1,(coV c).cells,155⟩,⟨g1,dP c.v,3⟩] oa [] 0 (⟨b2, #[.string ⟨#[42]⟩],9⟩::⟨b1,(coV c).cells,155⟩::⟨g1,dP c.v,3⟩::oa) (λw hO=>hO.cast (by simp)) hva Om λva2 oa2 hva0=> ?_
    have hva2:SlT va2 (y8 c.v c.parts.toNat++[[42]]) oa2:=SlT.add hva0
    exact z6 (k:=365) (args:= #[YI c.op]) (v:= .string (mkS (y9 c.op))) [1] (λw _=>csign_any c.op w) (z6 (k:=147) (args:= #[va2,.int .u8 46]) (v:= .string (mkS (zF 46 (y8 c.v c.parts.toNat++[[42]])))) [] (λw hO=>bO va2 _ 46 w (SlT.readsT hva2 (hO.past 3 (oa2++[])) (λx hx=>List.mem_append_left _ hx)) (Nat.le_trans q4 (by decide)) (by rw [List.length_append];simp;omega) star_ne) (zZ 38 [] (y9 c.op) (zF 46 (y8 c.v c.parts.toNat++[[42]])) (gR 42 [1] c.v.pre [] (λh4=>z7 [] (.string (mkS (y9 c.op++(zF 46 (y8 c.v c.parts.toNat++[[42]]))))) λw hO=>⟨by rw [v8 hcm,←star_text2 h3],hO.below⟩) (λh4=>absurd (star_pre hcm h3) h4))))
   ·exact z6 (k:=365) (args:= #[YI c.op]) (v:= .string (mkS (y9 c.op))) [0] (λw _=>csign_any c.op w) (z6 (k:=147) (args:= #[va,.int .u8 46]) (v:= .string (mkS (zF 46 (y8 c.v c.parts.toNat)))) [] (λw hO=>bO va _ 46 w (SlT.readsT hva (hO.past 2 oa) (λx hx=>hx)) (Nat.le_trans q2 (by decide)) (Nat.le_trans hlk (by decide)) (nums_ne hcm h3)) (zZ 38 [] (y9 c.op) (zF 46 (y8 c.v c.parts.toNat)) (gR 42 [0] c.v.pre [] (λh4=>z7 [] (.string (mkS (y9 c.op++(zF 46 (y8 c.v c.parts.toNat))))) λw hO=>⟨by rw [v8 hcm,←text_bare h3 h4],hO.below⟩) (λh4=>zZ 47 [0] [45] c.v.pre (zZ 48 [] (y9 c.op++(zF 46 (y8 c.v c.parts.toNat))) ([45]++c.v.pre) (z7 [] (.string (mkS (y9 c.op++(zF 46 (y8 c.v c.parts.toNat))++([45]++c.v.pre)))) λw hO=>⟨by rw [v8 hcm,←text_pre2 h3 h4],hO.below⟩))))))
end
section
theorem last_pl {l:List YL}(h:1<=l.length){x:YL}(hx:tg l (l.length-1)=x):l.getLast?=some x:=by
 rw [List.getLast?_eq_getElem?,List.getElem?_eq_getElem (by omega),tgi_get (by omega),hx]
theorem guess_is {s r ah tl:YL}{op:Int}{pl:List YL}(h1:(sgo s 8).1=op)(h2:(sgo s 8).2=r)(h3:(zD 45 r).1=ah)(h4:(zD 45 r).2.1=tl)(h5:dL 2 ah=pl){x:YL}(hx:tg pl (pl.length-1)=x)(hl:1<=pl.length):
  wE s=if x=[42] then (⟨9,((pl.length:Int) -1),⟨zJ (tg pl 0),zJ (tg pl 1),zJ (tg pl 2),tl,[]⟩⟩:Co) else (⟨op,(pl.length:Int),⟨zJ (tg pl 0),zJ (tg pl 1),zJ (tg pl 2),tl,[]⟩⟩:Co):=by
 have hp:dC s=pl:=by unfold dC;rw [h2,h3,h5]
 unfold wE starP
 rw [hp,h2,h4,h1,last_pl hl hx]
 by_cases q:x=[42]
 ·rw [if_pos q,q,decide_eq_true rfl];rfl
 ·rw [if_neg q,decide_eq_false (λe=>q (Option.some.inj e))];rfl
theorem dY {s pt:YL}{c:Co}(hg:wE s=c)(hp:c.print=pt)(h:pt=s\/pt=[94]++s):pcV s=c/\pcE s=0:=by
 have h2:=prog_some (s:=s) (by rw [hg,hp];exact h)
 rw [hg] at h2
 exact pc_some h2
theorem fit_no {s pt:YL}{c:Co}(hg:wE s=c)(hp:c.print=pt)(h1:¬ pt=s)(h2:¬ pt=[94]++s):pcV s=⟨0,0,Ver.zero⟩/\pcE s=6:=
 pc_none (prog_none (by rw [hg,hp];exact λq=>q.elim h1 h2))
theorem cParse_any (s:YL)(W:World)(hs:s.length<=1000000)(ht:HasTab W):YC 307 #[.string (mkS s)] W (YR (.tuple #[coV (pcV s),YI (pcE s)]) W):=by
 obtain ⟨op,hop⟩:∃ x,(sgo s 8).1=x:=⟨_,rfl⟩
 obtain ⟨r,hr⟩:∃ x,(sgo s 8).2=x:=⟨_,rfl⟩
 obtain ⟨ah,hah⟩:∃ x,(zD 45 r).1=x:=⟨_,rfl⟩
 obtain ⟨tl,htl⟩:∃ x,(zD 45 r).2.1=x:=⟨_,rfl⟩
 obtain ⟨fd,hfd⟩:∃ x,(zD 45 r).2.2=x:=⟨_,rfl⟩
 obtain ⟨pl,hpl⟩:∃ x,dL 2 ah=x:=⟨_,rfl⟩
 have hrl:r.length<=s.length:=hr▸sgo_le s 8
 have hal:ah.length+tl.length<=r.length:=by rw [←hah,←htl];exact tT 45 r
 obtain ⟨hp1,hp3⟩:1<=pl.length/\pl.length<=3:=hpl▸pcsK_len 2 ah
 have htp:∀ x∈pl,x.length<=1000000:=λx hx=>by rw [←hpl] at hx;exact Nat.le_trans (pcsK_mem 2 ah x hx) Om
 have hgu:=λ{x} (hx:tg pl (pl.length-1)=x)=>guess_is hop hr hah htl hpl hx Om
 have hcs:∀ w,YC 338 #[.string (mkS s)] w (YR (.tuple #[YI op,.string (mkS r)]) w):=λw=>by have:=ccut_any s w hs;rw [hop,hr] at this;exact this
 have hct:∀ w,YC 215 #[.string (mkS r),.string ⟨#[45]⟩] w (YR (.tuple #[.string (mkS ah),.string (mkS tl),.bool fd]) w):=λw=>ret_v (by rw [hah,htl,hfd]) (cutb_any r 45 w Om)
 have hsp:∀ w,YC 161 #[.string (mkS ah),.string ⟨#[46]⟩,YI 3] w λe w'=>∃ v' ob',e= .returned v'/\SlT v' pl ob'/\Own [] w w' ob':=λw=>by have:=splitn_any ah w Om;rw [hpl] at this;exact this
 have hnu:∀ x∈pl,∀ w,YC 230 #[.string (mkS x)] w (YR (.tuple #[YI (zJ x),.bool (g7 x)]) w):=λx hx w=>fK x _ rfl w (Nat.le_trans (htp x hx) (by decide))
 have hcl:∀ w,YC 50 #[.string (mkS tl)] w (YR (.string (mkS tl)) w):=λw=>clone_any (mkS tl) w (by rw [zW];omega)
 have hpr:∀ (c:Co) w,c.short->YB W w->YC 339 #[coV c] w (YR (.string (mkS c.print)) w):=λc w hc hb=>cPrint_any c w hc (ht.on hb)
 have hsh:∀ a b c d e,(⟨a,b,⟨c,d,e,tl,[]⟩⟩:Co).short:=λa b c d e=>⟨by show tl.length<=_;omega,Nat.zero_le _⟩
 refine z8 Tryz.func307 (zB [] λb2=>z6 (v:= .tuple #[YI op,.string (mkS r)]) [] (λw _=>hcs w) (z6 (v:= .tuple #[.string (mkS ah),.string (mkS tl),.bool fd]) [] (λw _=>hct w) (zB [] λb8=>yC (R:=λv ob=>SlT v pl ob) [] (λw _=>hsp w) ?_)))
 rintro v ob hsl
 obtain ⟨A1,c1,rfl⟩:=hsl.form
 obtain ⟨g1,cur1,rfl,rfl,hc1,hm1,hz1,ht1⟩:=Sl.block hsl Om
 rw [xB] at ht1
 have hrd:∀ i x,i<pl.length->tg pl i=x->xD YP 9 cur1 (i*1+0)=some (.string (mkS x)):=λi x hi hx=>nJ zO ht1 i 0 hi (by decide) _ (by rw [tgi_get hi,hx];kernel_rfl)
 clear hcs hct hsp ht1 hsl
 obtain ⟨p0,rfl⟩|⟨p0,p1,rfl⟩|⟨p0,p1,p2,rfl⟩:(∃ p0,pl=[p0])\/(∃ p0 p1,pl=[p0,p1])∨∃ p0 p1 p2,pl=[p0,p1,p2]:=by
  match pl,hp1,hp3 with
  | [p0],_,_=>exact .inl ⟨p0,rfl⟩
  | [p0,p1],_,_=>exact .inr (.inl ⟨p0,p1,rfl⟩)
  | [p0,p1,p2],_,_=>exact .inr (.inr ⟨p0,p1,p2,rfl⟩)
 ·refine jG 3 [] (j7 33 [] 2 cur1 (0*1+0) 9 (.string (mkS p0)) (hrd 0 _ (by simp) rfl) (z6 (v:= .tuple #[YI (zJ p0),.bool (g7 p0)]) [] (λw _=>hnu p0 (by simp) w) (zB [0] λb12=>j7 51 [0] 3 cur1 (0*1+0) 9 (.string (mkS p0)) (hrd 0 _ (by simp) rfl) (yS 52 [] p0 [42] (λh3=> ?_) (λh3=> ?_)))))
  ·obtain ⟨pt,hpt⟩:∃ x,Co.print ⟨9,0,⟨zJ p0,0,0,tl,[]⟩⟩=x:=⟨_,rfl⟩
   have hp:=λw hb=>hpt▸hpr ⟨9,0,⟨zJ p0,0,0,tl,[]⟩⟩ w (hsh _ _ _ _ _) hb
   refine z6 (v:= .string (mkS pt)) [0,0,0,1,1,1,0,0] (λw hO=>hp w hO.below) (gR 71 [] pt s (λh4=> ?_) (λh4=>zZ 75 [] [94] s (gR 76 [] pt ([94]++s) (λh5=> ?_) (λh5=> ?_))))
   ·exact z6 (v:= .string (mkS tl)) [] (λw _=>hcl w) (zS [0,0,2] 2 (coV (⟨9,0,⟨zJ p0,0,0,tl,[]⟩⟩:Co)) (YI 0) λw hO=>⟨by have q:=dY (c:=⟨9,0,⟨zJ p0,0,0,tl,[]⟩⟩) ((hgu (x:=p0) rfl).trans (if_pos h3)) hpt (.inl h4);rw [q.1,q.2],hO.below⟩)
   ·exact z6 (v:= .string (mkS tl)) [] (λw _=>hcl w) (zS [0,0,2] 2 (coV (⟨9,0,⟨zJ p0,0,0,tl,[]⟩⟩:Co)) (YI 0) λw hO=>⟨by have q:=dY (c:=⟨9,0,⟨zJ p0,0,0,tl,[]⟩⟩) ((hgu (x:=p0) rfl).trans (if_pos h3)) hpt (.inr h5);rw [q.1,q.2],hO.below⟩)
   ·exact zS [2] 2 (coV ⟨0,0,Ver.zero⟩) (YI 6) λw hO=>⟨by have q:=fit_no (c:=⟨9,0,⟨zJ p0,0,0,tl,[]⟩⟩) ((hgu (x:=p0) rfl).trans (if_pos h3)) hpt h4 h5;rw [q.1,q.2],hO.below⟩
  obtain ⟨pt,hpt⟩:∃ x,Co.print ⟨op,1,⟨zJ p0,0,0,tl,[]⟩⟩=x:=⟨_,rfl⟩
  have hp:=λw hb=>hpt▸hpr ⟨op,1,⟨zJ p0,0,0,tl,[]⟩⟩ w (hsh _ _ _ _ _) hb
  refine z6 (v:= .string (mkS pt)) [1,1,1,0,0] (λw hO=>hp w hO.below) (gR 71 [] pt s (λh4=> ?_) (λh4=>zZ 75 [] [94] s (gR 76 [] pt ([94]++s) (λh5=> ?_) (λh5=> ?_))))
  ·exact z6 (v:= .string (mkS tl)) [] (λw _=>hcl w) (zS [0,0,2] 2 (coV (⟨op,1,⟨zJ p0,0,0,tl,[]⟩⟩:Co)) (YI 0) λw hO=>⟨by have q:=dY (c:=⟨op,1,⟨zJ p0,0,0,tl,[]⟩⟩) ((hgu (x:=p0) rfl).trans (if_neg h3)) hpt (.inl h4);rw [q.1,q.2],hO.below⟩)
  ·exact z6 (v:= .string (mkS tl)) [] (λw _=>hcl w) (zS [0,0,2] 2 (coV (⟨op,1,⟨zJ p0,0,0,tl,[]⟩⟩:Co)) (YI 0) λw hO=>⟨by have q:=dY (c:=⟨op,1,⟨zJ p0,0,0,tl,[]⟩⟩) ((hgu (x:=p0) rfl).trans (if_neg h3)) hpt (.inr h5);rw [q.1,q.2],hO.below⟩)
  ·exact zS [2] 2 (coV ⟨0,0,Ver.zero⟩) (YI 6) λw hO=>⟨by have q:=fit_no (c:=⟨op,1,⟨zJ p0,0,0,tl,[]⟩⟩) ((hgu (x:=p0) rfl).trans (if_neg h3)) hpt h4 h5;rw [q.1,q.2],hO.below⟩
 ·refine jG 3 [] (j7 33 [] 2 cur1 (0*1+0) 9 (.string (mkS p0)) (hrd 0 _ (by simp) rfl) (z6 (v:= .tuple #[YI (zJ p0),.bool (g7 p0)]) [] (λw _=>hnu p0 (by simp) w) (j7 33 [0] 2 cur1 (1*1+0) 9 (.string (mkS p1)) (hrd 1 _ (by simp) rfl) (z6 (v:= .tuple #[YI (zJ p1),.bool (g7 p1)]) [] (λw _=>hnu p1 (by simp) w) (zB [0] λb12=>j7 51 [0] 3 cur1 (1*1+0) 9 (.string (mkS p1)) (hrd 1 _ (by simp) rfl) (yS 52 [] p1 [42] (λh3=> ?_) (λh3=> ?_)))))))
  ·obtain ⟨pt,hpt⟩:∃ x,Co.print ⟨9,1,⟨zJ p0,zJ p1,0,tl,[]⟩⟩=x:=⟨_,rfl⟩
   have hp:=λw hb=>hpt▸hpr ⟨9,1,⟨zJ p0,zJ p1,0,tl,[]⟩⟩ w (hsh _ _ _ _ _) hb
   refine z6 (v:= .string (mkS pt)) [0,0,0,1,1,1,0,0] (λw hO=>hp w hO.below) (gR 71 [] pt s (λh4=> ?_) (λh4=>zZ 75 [] [94] s (gR 76 [] pt ([94]++s) (λh5=> ?_) (λh5=> ?_))))
   ·exact z6 (v:= .string (mkS tl)) [] (λw _=>hcl w) (zS [0,0,2] 2 (coV (⟨9,1,⟨zJ p0,zJ p1,0,tl,[]⟩⟩:Co)) (YI 0) λw hO=>⟨by have q:=dY (c:=⟨9,1,⟨zJ p0,zJ p1,0,tl,[]⟩⟩) ((hgu (x:=p1) rfl).trans (if_pos h3)) hpt (.inl h4);rw [q.1,q.2],hO.below⟩)
   ·exact z6 (v:= .string (mkS tl)) [] (λw _=>hcl w) (zS [0,0,2] 2 (coV (⟨9,1,⟨zJ p0,zJ p1,0,tl,[]⟩⟩:Co)) (YI 0) λw hO=>⟨by have q:=dY (c:=⟨9,1,⟨zJ p0,zJ p1,0,tl,[]⟩⟩) ((hgu (x:=p1) rfl).trans (if_pos h3)) hpt (.inr h5);rw [q.1,q.2],hO.below⟩)
   ·exact zS [2] 2 (coV ⟨0,0,Ver.zero⟩) (YI 6) λw hO=>⟨by have q:=fit_no (c:=⟨9,1,⟨zJ p0,zJ p1,0,tl,[]⟩⟩) ((hgu (x:=p1) rfl).trans (if_pos h3)) hpt h4 h5;rw [q.1,q.2],hO.below⟩
  obtain ⟨pt,hpt⟩:∃ x,Co.print ⟨op,2,⟨zJ p0,zJ p1,0,tl,[]⟩⟩=x:=⟨_,rfl⟩
  have hp:=λw hb=>hpt▸hpr ⟨op,2,⟨zJ p0,zJ p1,0,tl,[]⟩⟩ w (hsh _ _ _ _ _) hb
  refine z6 (v:= .string (mkS pt)) [1,1,1,0,0] (λw hO=>hp w hO.below) (gR 71 [] pt s (λh4=> ?_) (λh4=>zZ 75 [] [94] s (gR 76 [] pt ([94]++s) (λh5=> ?_) (λh5=> ?_))))
  ·exact z6 (v:= .string (mkS tl)) [] (λw _=>hcl w) (zS [0,0,2] 2 (coV (⟨op,2,⟨zJ p0,zJ p1,0,tl,[]⟩⟩:Co)) (YI 0) λw hO=>⟨by have q:=dY (c:=⟨op,2,⟨zJ p0,zJ p1,0,tl,[]⟩⟩) ((hgu (x:=p1) rfl).trans (if_neg h3)) hpt (.inl h4);rw [q.1,q.2],hO.below⟩)
  ·exact z6 (v:= .string (mkS tl)) [] (λw _=>hcl w) (zS [0,0,2] 2 (coV (⟨op,2,⟨zJ p0,zJ p1,0,tl,[]⟩⟩:Co)) (YI 0) λw hO=>⟨by have q:=dY (c:=⟨op,2,⟨zJ p0,zJ p1,0,tl,[]⟩⟩) ((hgu (x:=p1) rfl).trans (if_neg h3)) hpt (.inr h5);rw [q.1,q.2],hO.below⟩)
  ·exact zS [2] 2 (coV ⟨0,0,Ver.zero⟩) (YI 6) λw hO=>⟨by have q:=fit_no (c:=⟨op,2,⟨zJ p0,zJ p1,0,tl,[]⟩⟩) ((hgu (x:=p1) rfl).trans (if_neg h3)) hpt h4 h5;rw [q.1,q.2],hO.below⟩
 ·refine jG 3 [] (j7 33 [] 2 cur1 (0*1+0) 9 (.string (mkS p0)) (hrd 0 _ (by simp) rfl) (z6 (v:= .tuple #[YI (zJ p0),.bool (g7 p0)]) [] (λw _=>hnu p0 (by simp) w) (j7 33 [0] 2 cur1 (1*1+0) 9 (.string (mkS p1)) (hrd 1 _ (by simp) rfl) (z6 (v:= .tuple #[YI (zJ p1),.bool (g7 p1)]) [] (λw _=>hnu p1 (by simp) w) (j7 33 [0] 2 cur1 (2*1+0) 9 (.string (mkS p2)) (hrd 2 _ (by simp) rfl) (z6 (v:= .tuple #[YI (zJ p2),.bool (g7 p2)]) [] (λw _=>hnu p2 (by simp) w) (zB [0] λb12=>j7 51 [0] 3 cur1 (2*1+0) 9 (.string (mkS p2)) (hrd 2 _ (by simp) rfl) (yS 52 [] p2 [42] (λh3=> ?_) (λh3=> ?_)))))))))
  ·obtain ⟨pt,hpt⟩:∃ x,Co.print ⟨9,2,⟨zJ p0,zJ p1,zJ p2,tl,[]⟩⟩=x:=⟨_,rfl⟩
   have hp:=λw hb=>hpt▸hpr ⟨9,2,⟨zJ p0,zJ p1,zJ p2,tl,[]⟩⟩ w (hsh _ _ _ _ _) hb
   refine z6 (v:= .string (mkS pt)) [0,0,0,1,1,1,0,0] (λw hO=>hp w hO.below) (gR 71 [] pt s (λh4=> ?_) (λh4=>zZ 75 [] [94] s (gR 76 [] pt ([94]++s) (λh5=> ?_) (λh5=> ?_))))
   ·exact z6 (v:= .string (mkS tl)) [] (λw _=>hcl w) (zS [0,0,2] 2 (coV (⟨9,2,⟨zJ p0,zJ p1,zJ p2,tl,[]⟩⟩:Co)) (YI 0) λw hO=>⟨by have q:=dY (c:=⟨9,2,⟨zJ p0,zJ p1,zJ p2,tl,[]⟩⟩) ((hgu (x:=p2) rfl).trans (if_pos h3)) hpt (.inl h4);rw [q.1,q.2],hO.below⟩)
   ·exact z6 (v:= .string (mkS tl)) [] (λw _=>hcl w) (zS [0,0,2] 2 (coV (⟨9,2,⟨zJ p0,zJ p1,zJ p2,tl,[]⟩⟩:Co)) (YI 0) λw hO=>⟨by have q:=dY (c:=⟨9,2,⟨zJ p0,zJ p1,zJ p2,tl,[]⟩⟩) ((hgu (x:=p2) rfl).trans (if_pos h3)) hpt (.inr h5);rw [q.1,q.2],hO.below⟩)
   ·exact zS [2] 2 (coV ⟨0,0,Ver.zero⟩) (YI 6) λw hO=>⟨by have q:=fit_no (c:=⟨9,2,⟨zJ p0,zJ p1,zJ p2,tl,[]⟩⟩) ((hgu (x:=p2) rfl).trans (if_pos h3)) hpt h4 h5;rw [q.1,q.2],hO.below⟩
  obtain ⟨pt,hpt⟩:∃ x,Co.print ⟨op,3,⟨zJ p0,zJ p1,zJ p2,tl,[]⟩⟩=x:=⟨_,rfl⟩
  have hp:=λw hb=>hpt▸hpr ⟨op,3,⟨zJ p0,zJ p1,zJ p2,tl,[]⟩⟩ w (hsh _ _ _ _ _) hb
  refine z6 (v:= .string (mkS pt)) [1,1,1,0,0] (λw hO=>hp w hO.below) (gR 71 [] pt s (λh4=> ?_) (λh4=>zZ 75 [] [94] s (gR 76 [] pt ([94]++s) (λh5=> ?_) (λh5=> ?_))))
  ·exact z6 (v:= .string (mkS tl)) [] (λw _=>hcl w) (zS [0,0,2] 2 (coV (⟨op,3,⟨zJ p0,zJ p1,zJ p2,tl,[]⟩⟩:Co)) (YI 0) λw hO=>⟨by have q:=dY (c:=⟨op,3,⟨zJ p0,zJ p1,zJ p2,tl,[]⟩⟩) ((hgu (x:=p2) rfl).trans (if_neg h3)) hpt (.inl h4);rw [q.1,q.2],hO.below⟩)
  ·exact z6 (v:= .string (mkS tl)) [] (λw _=>hcl w) (zS [0,0,2] 2 (coV (⟨op,3,⟨zJ p0,zJ p1,zJ p2,tl,[]⟩⟩:Co)) (YI 0) λw hO=>⟨by have q:=dY (c:=⟨op,3,⟨zJ p0,zJ p1,zJ p2,tl,[]⟩⟩) ((hgu (x:=p2) rfl).trans (if_neg h3)) hpt (.inr h5);rw [q.1,q.2],hO.below⟩)
  ·exact zS [2] 2 (coV ⟨0,0,Ver.zero⟩) (YI 6) λw hO=>⟨by have q:=fit_no (c:=⟨op,3,⟨zJ p0,zJ p1,zJ p2,tl,[]⟩⟩) ((hgu (x:=p2) rfl).trans (if_neg h3)) hpt h4 h5;rw [q.1,q.2],hO.below⟩
end
section
theorem textR_few {xs:List Al}(h1:xs.length<=6)(h:∀ x∈xs,fewA x.l=true):f9 (x1 xs)=kR (x1 xs):=by
 unfold f9
 cases hf:fewR (x1 xs) with
 |true=>rfl
 |false=>
  cases xs with
  |nil=>rfl
  |cons x xs=>rw [few_all ⟨by simp,h1⟩ h] at hf;cases hf
theorem textR_bad {xs:List Al}{x:Al}(hm:x∈xs)(h:fewA x.l=false):f9 (x1 xs)=[]:=textR_nil.2 (few_one hm h)
theorem textR_big {xs:List Al}(h:6<xs.length):f9 (x1 xs)=[]:=textR_nil.2 (few_len Om)
theorem own_tx2 {M:List Nat}{W w:World}{x z:Blk}{A B:List Blk}(h:Own M W w ([x,z]++A++B)):Own M W w (z::A):=by
 exact (Own.sub [x] (by simpa using h:Own M W w (x::(z::A++B)))).sublist (by simp)
theorem own_tx3 {M:List Nat}{W w:World}{x y:Blk}{A B:List Blk}(h:Own M W w (x::y::(A++B))):Own M W w (x::y::(B++A)):=
 h.perm (List.Perm.cons x (List.Perm.cons y List.perm_append_comm))
theorem alts_le {l:List (List Co)}{i:Nat}(h:∀ a∈l.take i,fewA a=true):∀ t∈(l.take i).map kC,t.length<=1000000:=λt ht=>by
 obtain ⟨a,ha,rfl⟩:=List.mem_map.1 ht
 obtain ⟨h1,h2⟩:=fewA.facts (h a ha)
 unfold kC
 rw [joinB_len,List.length_map]
 have:∀ (l:List Co),(∀ c∈l,c.may=true)->sumN ((l.map Co.print).map (·.length))<=l.length*300:=by
  intro l hl
  induction l with
  |nil=>simp [sumN]
  |cons c l ih=>
   have h3:=co_len (hl c (List.mem_cons_self ..))
   have h4:=ih λd hd=>hl d (List.mem_cons_of_mem _ hd)
   rw [List.map_cons,List.map_cons,sumN,List.length_cons];omega
 have:=this a h2
 have h5:(a.length-1)*([44,32]:YL).length<=5*2:=Nat.mul_le_mul Om (by simp)
 omega
theorem gtext_any (A:Option Addr)(cap:Nat)(xs:List Al)(W:World)(hv:RgIn W W.heap.size A xs)(ht:HasLib W):YC 309 #[.agg #[.slice A xs.length cap]] W (YR (.string (mkS (f9 (x1 xs)))) W):=by
 have hn:=hv.n
 have hno:=λ(h:f9 (x1 xs)=[]) (w:World) (hb:YB W w)=>show Ending.returned (.string (mkS []))= .returned (.string (mkS (f9 (x1 xs))))/\YB W w from ⟨by rw [h],hb⟩
 refine z8 Tryz.func309 (zQ [] λb1=>zA 12 [0] ((6:Int)<(xs.length:Int)) (λh1=>z7 [] (.string (mkS [])) λw hO=>hno (textR_big Om) w hO.below) (λh1=> ?_))
 refine zL (α:=Nat×Option Addr×Nat×Nat×List Blk) (λ(i,U,n,cu,_)=>[(1,Zp b1 0),(3,.slice U n cu),(14,.slice A xs.length cap),(15,YI (xs.length:Int)),(16,YI (i:Int))]) (λ(_,_,_,_,ob)=>⟨b1, #[.slice A xs.length cap],279⟩::ob) (λ(i,U,n,cu,ob) m=>(i<=xs.length/\(∀ x∈xs.take i,fewA x.l=true)/\SlT (.slice U n cu) (((x1 xs).take i).map kC) ob)/\m=xs.length-i) (0,none,0,0,[]) (xs.length-0) [0] ⟨⟨Nat.zero_le _,by simp,Sl.nil _ _⟩,rfl⟩ ?_
 rintro ⟨i,U,n,cu,ob⟩ m g kk ⟨⟨hil,hff,hT⟩,hmm⟩ nx hkk
 subst hkk
 by_cases h2:(i:Int)<(xs.length:Int)
 ·have hi:i<xs.length:=by omega
  obtain ⟨bp,off,hA,hlt,hcell⟩:=hv.top Om
  obtain ⟨x,hx⟩:∃ x,xs[i]=x:=⟨_,rfl⟩
  have hxm:x∈xs:=hx▸List.getElem_mem hi
  have hxn:=hv.m x hxm
  have hxr:(x1 xs)[i]'(by rw [gW];exact hi)=x.l:=rgOf_get hi hx
  have hrow:∀ w,YB W w->(loadVar 305 ⟨bp,off+i*1,none⟩).run YP w= .ok (.slice x.A x.l.length x.cap) w:=λw hb=>qI alC_len (λj u h=>(hb.cell (p:=⟨bp,off+j,none⟩) hlt).trans (hcell j u h)) i 0 hi Om _ (by rw [hx];kernel_rfl)
  refine zA 17 [] ((i:Int)<(xs.length:Int)) (λ_=>zH 18 [] hA xs.length cap i 1 hi (zG 19 [] 305 bp (off+i*1) (.slice x.A x.l.length x.cap) (λw hO=>hrow w hO.below) (zA 22 [] ((x.l.length:Int)=0) (λh3=>z7 [] (.string (mkS [])) λw hO=>hno (textR_bad hxm (fewA_len Om)) w hO.below) (λh3=>zA 26 [] ((6:Int)<(x.l.length:Int)) (λh4=>z7 [] (.string (mkS [])) λw hO=>hno (textR_bad hxm (fewA_len Om)) w hO.below) (λh4=> ?_))))) (λh=>absurd h2 h)
  refine zL (α:=Nat×Option Addr×Nat×Nat×List Blk) (λ(k,V,np,cv,_)=>[(1,Zp b1 0),(3,.slice U n cu),(14,.slice A xs.length cap),(15,YI (xs.length:Int)),(16,YI (i:Int)),(6,.slice V np cv),(28,.slice x.A x.l.length x.cap),(29,YI (x.l.length:Int)),(30,YI (k:Int))]) (λ(_,_,_,_,oa)=>⟨b1, #[.slice A xs.length cap],279⟩::(oa++ob)) (λ(k,V,np,cv,oa) m=>(k<=x.l.length/\(∀ c∈x.l.take k,c.may=true)/\SlT (.slice V np cv) ((x.l.take k).map Co.print) oa)/\m=x.l.length-k) (0,none,0,0,[]) (x.l.length-0) [] ⟨⟨Nat.zero_le _,by simp,Sl.nil _ _⟩,rfl⟩ ?_
  rintro ⟨k,V,np,cv,oa⟩ m2 g2 kk2 ⟨⟨hkl,hcf,hP⟩,hmk⟩ nxk hkk2
  subst hkk2
  by_cases h5:(k:Int)<(x.l.length:Int)
  ·have hk:k<x.l.length:=by omega
   obtain ⟨bq,off2,hA2,hlt2,hcell2⟩:=hv.each x hxm Om
   obtain ⟨c,hc⟩:∃ c,x.l[k]=c:=⟨_,rfl⟩
   have hcm:c∈x.l:=hc▸List.getElem_mem hk
   have hcS:c.short:=hv.short x hxm c hcm
   have hco:∀ w,YB W w->(loadVar 155 ⟨bq,off2+k*7,none⟩).run YP w= .ok (coV c) w:=λw hb=>qI coC_len (λj u h=>(hb.cell (p:=⟨bq,off2+j,none⟩) hlt2).trans (hcell2 j u h)) k 0 hk Om _ (by rw [hc];kernel_rfl)
   have hpl0:((x.l.take k).map Co.print).length<=6:=by rw [List.length_map,List.length_take];omega
   refine zA 31 [] ((k:Int)<(x.l.length:Int)) (λ_=>zH 32 [] hA2 x.l.length x.cap k 7 hk (zG 33 [] 155 bq (off2+k*7) (coV c) (λw hO=>hco w hO.below) (zB [] λb2=>z6 (k:=347) (args:= #[coV c]) (v:= .bool c.may) [0,0] (λw _=>cMay_any c w hcS) ?_))) (λh=>absurd h5 h)
   cases h6:c.may with
   |false=>exact z7 [] (.string (mkS [])) λw hO=>hno (textR_bad hxm (fewA_one hcm h6)) w hO.below
   |true=>
    refine z6 (k:=339) (args:= #[coV c]) (v:= .string (mkS c.print)) [0] (λw hO=>cPrint_any c w hcS (ht.tab.on hO.below)) (kD [] 1 9 #[.string (mkS c.print)] λb3=>qJ (m:=1) (cp:=1) [] [⟨b3, #[.string (mkS c.print)],9⟩,⟨b2,(coV c).cells,155⟩,⟨b1, #[.slice A xs.length cap],279⟩] oa ob 0 (⟨b3, #[.string (mkS c.print)],9⟩::⟨b2,(coV c).cells,155⟩::⟨b1, #[.slice A xs.length cap],279⟩::(oa++ob)) (λw hO=>hO.cast (by simp)) hP Om λw1 oa2 hu1=> ?_)
    have hP2:SlT w1 (((x.l.take k).map Co.print)++[c.print]) oa2:=SlT.add hu1
    obtain ⟨V2,cv2,rfl⟩:=hP2.form
    exact x_i 42 [] ((k+1:Nat):Int) (zK [] (⟨b1, #[.slice A xs.length cap],279⟩::(oa2++ob)) (λw hO=>hO.past 2 _) (nxk (k+1,V2,(((x.l.take k).map Co.print)++[c.print]).length,cv2,oa2) (x.l.length-(k+1)) [] Om ⟨⟨by omega,take_all hcf hk hc h6,by rw [List.take_succ_eq_append_getElem hk,hc,List.map_append];exact hP2⟩,rfl⟩ Kr Kr))
  ·have hal2:∀ c∈x.l,c.may=true:=by have q:=hcf;rwa [List.take_of_length_le Om] at q
   have hfx:fewA x.l=true:=fewA_all ⟨by omega,by omega⟩ hal2
   have hpl:=hP.caps
   rw [List.take_of_length_le (by omega:x.l.length<=k)] at hP hpl
   have hal0:(((x1 xs).take i).map kC).length<=6:=by rw [List.length_map,List.length_take,gW];omega
   refine zA 31 [] ((k:Int)<(x.l.length:Int)) (λh=>absurd h h5) (λ_=>z6 (k:=218) (args:= #[.slice V np cv,.string (mkS [44,32])]) (v:= .string (mkS (kC x.l))) [] (λw hO=>by rw [hpl.1];exact sjoin_any [44,32] (x.l.map Co.print) V cv w (SlT.reads hP hpl.1.symm (hO.past 1 (oa++ob)) (λx hx=>List.mem_append_left _ hx)) (by decide) (by decide) (by rw [List.length_map];omega) (λt ht=>by obtain ⟨c,hc,rfl⟩:=List.mem_map.1 ht;exact Nat.le_trans (co_len (hal2 c hc)) (by decide)) hpl.2) (kD [] 1 9 #[.string (mkS (kC x.l))] λb2=>qJ (m:=1) (cp:=1) [] [⟨b2, #[.string (mkS (kC x.l))],9⟩,⟨b1, #[.slice A xs.length cap],279⟩] ob oa 0 (⟨b2, #[.string (mkS (kC x.l))],9⟩::⟨b1, #[.slice A xs.length cap],279⟩::(oa++ob)) (λw hO=>(own_tx3 hO).cast (by simp)) hT Om λw2 ob2 hu2=> ?_))
   have hT2:SlT w2 ((((x1 xs).take i).map kC)++[kC x.l]) ob2:=SlT.add hu2
   obtain ⟨U2,cu2,rfl⟩:=hT2.form
   exact x_i 48 [] ((i+1:Nat):Int) (zK [] (⟨b1, #[.slice A xs.length cap],279⟩::ob2) (λw hO=>own_tx2 (hO.past 0 ([⟨b2, #[.string (mkS (kC x.l))],9⟩,⟨b1, #[.slice A xs.length cap],279⟩]++ob2++oa))) (nx (i+1,U2,((((x1 xs).take i).map kC)++[kC x.l]).length,cu2,ob2) (xs.length-(i+1)) [] Om ⟨⟨by omega,take_all hff hi hx hfx,by rw [List.take_succ_eq_append_getElem (by rw [gW];exact hi),hxr,List.map_append];exact hT2⟩,rfl⟩ Kr Kr))
 ·have hall:∀ x∈xs,fewA x.l=true:=by have q:=hff;rwa [List.take_of_length_le Om] at q
  have htl:=hT.caps
  rw [show (x1 xs).take i=x1 xs from List.take_of_length_le (by rw [gW];omega)] at hT htl
  exact zA 17 [] ((i:Int)<(xs.length:Int)) (λh=>absurd h h2) (λ_=>z6 (k:=218) (args:= #[.slice U n cu,.string (mkS [32,124,124,32])]) (v:= .string (mkS (kR (x1 xs)))) [] (λw hO=>by rw [htl.1];exact sjoin_any [32,124,124,32] ((x1 xs).map kC) U cu w (SlT.reads hT htl.1.symm (hO.past 1 ob) (λx hx=>hx)) (by decide) (by decide) (by rw [List.length_map,gW];omega) (by have q:=alts_le (l:=x1 xs) (i:=xs.length) (λa ha=>by obtain ⟨x,hx,rfl⟩:=List.mem_map.1 (List.mem_of_mem_take ha);exact hall x hx);rwa [List.take_of_length_le (by rw [gW];exact Nat.le_refl _)] at q) htl.2) (z7 [] (.string (mkS (kR (x1 xs)))) λw hO=>⟨by rw [textR_few Om hall],hO.below⟩))
theorem gPrint_any (A:Option Addr)(cap:Nat)(xs:List Al)(W:World)(hv:RgIn W W.heap.size A xs)(ht:HasLib W):YC 275 #[.agg #[.slice A xs.length cap]] W (YR (.string (mkS (jZ (x1 xs)))) W):=by
 obtain ⟨t,et⟩:∃ t,f9 (x1 xs)=t:=⟨_,rfl⟩
 exact z8 Tryz.func275 (zQ [] λb1=>z6 (k:=309) (args:= #[.agg #[.slice A xs.length cap]]) (v:= .string (mkS t)) [0] (λw hO=>ret_v (by rw [et]) (gtext_any A cap xs w (hv.on hO.below hO.below.size) (ht.on hO.below))) (zA 8 [] ((96:Int)<(t.length:Int)) (λh1=>z7 [] (.string (mkS [])) λw hO=>⟨by rw [print_text,et,if_pos Om],hO.below⟩) (λh1=>z7 [] (.string (mkS t)) λw hO=>⟨by rw [print_text,et,if_neg Om],hO.below⟩)))
end
section
theorem rsfew_any (A:Option Addr)(cap:Nat)(xs:List Al)(W:World)(hv:RgIn W W.heap.size A xs):YC 324 #[.agg #[.slice A xs.length cap]] W (YR (.bool (fewR (x1 xs))) W):=by
 have hno:=λ(h:fewR (x1 xs)=false) (w:World) (hb:YB W w)=>show Ending.returned (.bool false)= .returned (.bool (fewR (x1 xs)))/\YB W w from ⟨by rw [h],hb⟩
 refine z8 Tryz.func324 (zQ [] λb1=>zA 8 [0] ((xs.length:Int)<1) (λh=>z7 [] Z5 λw hO=>hno (few_len Om) w hO.below) (λh1=>zA 13 [0] ((6:Int)<(xs.length:Int)) (λh=>z7 [] Z5 λw hO=>hno (few_len Om) w hO.below) (λh2=> ?_)))
 refine zL (α:=Nat) (λi=>[(1,Zp b1 0),(3,YI (i:Int))]) (λ_=>[⟨b1, #[.slice A xs.length cap],279⟩]) (λi m=>(i<=xs.length∧∀ x∈xs.take i,fewA x.l=true)/\m=xs.length-i) 0 (xs.length-0) [] ⟨⟨Nat.zero_le _,by simp⟩,rfl⟩ ?_
 rintro i m g kk ⟨hrel,hmm⟩ nx hkk
 subst hkk
 have hil:=hrel.1
 by_cases h3:(i:Int)<(xs.length:Int)
 ·have hi:i<xs.length:=by omega
  obtain ⟨b,off,hA,hlt,hcell⟩:=hv.top Om
  obtain ⟨x,hx⟩:∃ x,xs[i]=x:=⟨_,rfl⟩
  have hxm:x∈xs:=hx▸List.getElem_mem hi
  have hrow:∀ w,YB W w->(loadVar 305 ⟨b,off+i*1,none⟩).run YP w= .ok (.slice x.A x.l.length x.cap) w:=λw hb=>qI alC_len (λj u h=>(hb.cell (p:=⟨b,off+j,none⟩) hlt).trans (hcell j u h)) i 0 hi Om _ (by rw [hx];kernel_rfl)
  refine zA 19 [0] ((i:Int)<(xs.length:Int)) (λ_=>zH 25 [0] hA xs.length cap i 1 hi (zG 26 [] 305 b (off+i*1) (.slice x.A x.l.length x.cap) (λw hO=>hrow w hO.below) (zA 28 [] ((x.l.length:Int)<1) (λh=>z7 [] Z5 λw hO=>hno (few_one hxm (fewA_len Om)) w hO.below) (λh4=>zH 33 [0] hA xs.length cap i 1 hi (zG 34 [] 305 b (off+i*1) (.slice x.A x.l.length x.cap) (λw hO=>hrow w hO.below) (zA 36 [] ((6:Int)<(x.l.length:Int)) (λh=>z7 [] Z5 λw hO=>hno (few_one hxm (fewA_len Om)) w hO.below) (λh5=> ?_))))))) (λh=>absurd h3 h)
  refine zL (α:=Nat) (λk=>[(1,Zp b1 0),(3,YI (i:Int)),(4,YI (k:Int))]) (λ_=>[⟨b1, #[.slice A xs.length cap],279⟩]) (λk m=>(k<=x.l.length∧∀ c∈x.l.take k,c.may=true)/\m=x.l.length-k) 0 (x.l.length-0) [] ⟨⟨Nat.zero_le _,by simp⟩,rfl⟩ ?_
  rintro k m2 g2 kk2 ⟨hrk,hmk⟩ nxk hkk2
  subst hkk2
  have hkl:=hrk.1
  refine zH 42 [0] hA xs.length cap i 1 hi (zG 43 [] 305 b (off+i*1) (.slice x.A x.l.length x.cap) (λw hO=>hrow w hO.below) (zA 45 [] ((k:Int)<(x.l.length:Int)) (λh6=> ?_) (λh6=>x_i 21 [] ((i+1:Nat):Int) (nx (i+1) (xs.length-(i+1)) [] Om ⟨⟨by omega,take_all hrel.2 hi hx (fewA_all Om (take_end hrk.2 Om))⟩,rfl⟩ Kr Kr))))
  have hk:k<x.l.length:=by omega
  obtain ⟨b2,off2,hA2,hlt2,hcell2⟩:=hv.each x hxm Om
  obtain ⟨c,hc⟩:∃ c,x.l[k]=c:=⟨_,rfl⟩
  have hcm:c∈x.l:=hc▸List.getElem_mem hk
  have hcS:c.short:=hv.short x hxm c hcm
  have hco:∀ w,YB W w->(loadVar 155 ⟨b2,off2+k*7,none⟩).run YP w= .ok (coV c) w:=λw hb=>qI coC_len (λj u h=>(hb.cell (p:=⟨b2,off2+j,none⟩) hlt2).trans (hcell2 j u h)) k 0 hk Om _ (by rw [hc];kernel_rfl)
  refine zH 51 [0] hA xs.length cap i 1 hi (zG 52 [] 305 b (off+i*1) (.slice x.A x.l.length x.cap) (λw hO=>hrow w hO.below) (zH 54 [] hA2 x.l.length x.cap k 7 hk (zG 55 [] 155 b2 (off2+k*7) (coV c) (λw hO=>hco w hO.below) (z6 (k:=187) (args:= #[coV c]) (v:= .bool c.may) [] (λw _=>rcMay_any c w hcS) ?_))))
  cases h7:c.may with
  |true=>exact x_i 47 [] ((k+1:Nat):Int) (nxk (k+1) (x.l.length-(k+1)) [] Om ⟨⟨by omega,take_all hrk.2 hk hc h7⟩,rfl⟩ Kr Kr)
  |false=>exact z7 [] (.bool false) λw hO=>hno (few_one hxm (fewA_one hcm h7)) w hO.below
 ·exact zA 19 [0] ((i:Int)<(xs.length:Int)) (λh=>absurd h h3) (λ_=>z7 [] Z4 λw hO=>⟨by rw [few_all Om (take_end hrel.2 Om)],hO.below⟩)
theorem rstext_any (A:Option Addr)(cap:Nat)(xs:List Al)(W:World)(hv:RgIn W W.heap.size A xs)(hf:fewR (x1 xs)=true):YC 325 #[.agg #[.slice A xs.length cap]] W (YR (.string (mkS (kR (x1 xs)))) W):=by
 have hn:=(few_mem hf).1.2
 refine z8 Tryz.func325 (zQ [] λb1=>zL (α:=Nat×YL) (λ(i,s)=>[(1,Zp b1 0),(3,.string (mkS s)),(4,YI (i:Int))]) (λ_=>[⟨b1, #[.slice A xs.length cap],279⟩]) (λ(i,s) m=>(i<=xs.length/\s=kR ((x1 xs).take i)/\s.length<=i*3000)/\m=xs.length-i) (0,[]) (xs.length-0) [] ⟨⟨Nat.zero_le _,rfl,Nat.zero_le _⟩,rfl⟩ ?_)
 rintro ⟨i,s⟩ m g kk ⟨⟨hil,hs,hsl⟩,hmm⟩ nx hkk
 subst hkk
 by_cases h1:(i:Int)<(xs.length:Int)
 ·have hi:i<xs.length:=by omega
  obtain ⟨b,off,hA,hlt,hcell⟩:=hv.top Om
  obtain ⟨x,hx⟩:∃ x,xs[i]=x:=⟨_,rfl⟩
  have hxm:x∈xs:=hx▸List.getElem_mem hi
  have hrow:∀ w,YB W w->(loadVar 305 ⟨b,off+i*1,none⟩).run YP w= .ok (.slice x.A x.l.length x.cap) w:=λw hb=>qI alC_len (λj u h=>(hb.cell (p:=⟨b,off+j,none⟩) hlt).trans (hcell j u h)) i 0 hi Om _ (by rw [hx];kernel_rfl)
  have hxf:=(few_mem hf).2 x hxm
  have hx6:=hxf.1.2
  refine zA 10 [0] ((i:Int)<(xs.length:Int)) (λ_=> ?_) (λh=>absurd h1 h)
  refine jX 14 (α:=YL) (λp=>[(1,Zp b1 0),(3,.string (mkS p)),(4,YI (i:Int))]) (λ_=>[⟨b1, #[.slice A xs.length cap],279⟩]) (λp=>(if i=0 then [] else kR ((x1 xs).take i)++[32,124,124,32])=p/\p.length<=i*3000+4) [] (λnj=>qT 14 ((0:Int)<(i:Int)) (λh2=>zZ 16 [] s [32,124,124,32] (nj (s++[32,124,124,32]) [] ⟨by rw [if_neg Om,←hs],by simp only [List.length_append,List.length_cons,List.length_nil];omega⟩ Kr)) (λh2=>nj s [] ⟨by rw [if_pos Om,hs,show i=0 by omega];rfl,by omega⟩ Kr)) (λp g2 hp=> ?_)
  have hpl:=hp.2
  refine zL (α:=Nat×YL) (λ(k,t)=>[(1,Zp b1 0),(3,.string (mkS t)),(4,YI (i:Int)),(5,YI (k:Int))]) (λ_=>[⟨b1, #[.slice A xs.length cap],279⟩]) (λ(k,t) m=>(k<=x.l.length/\t=p++kC (x.l.take k)/\t.length<=p.length+k*400)/\m=x.l.length-k) (0,p) (x.l.length-0) [] ⟨⟨Nat.zero_le _,by simp [kC,wB],by omega⟩,rfl⟩ ?_
  rintro ⟨k,t⟩ m2 g3 kk2 ⟨⟨hkl,ht,htl⟩,hmk⟩ nxk hkk2
  subst hkk2
  refine zH 21 [0] hA xs.length cap i 1 hi (zG 22 [] 305 b (off+i*1) (.slice x.A x.l.length x.cap) (λw hO=>hrow w hO.below) (zA 24 [] ((k:Int)<(x.l.length:Int)) (λh3=> ?_) (λh3=>x_i 12 [] ((i+1:Nat):Int) (nx (i+1,t) (xs.length-(i+1)) [] Om ⟨⟨by omega,by rw [ht,List.take_of_length_le (by omega:x.l.length<=k),rgText_step (by rw [gW];exact hi) (rgOf_get hi hx),hp.1],by omega⟩,rfl⟩ Kr Kr))))
  have hk:k<x.l.length:=by omega
  obtain ⟨b2,off2,hA2,hlt2,hcell2⟩:=hv.each x hxm Om
  obtain ⟨c,hc⟩:∃ c,x.l[k]=c:=⟨_,rfl⟩
  have hcm:c∈x.l:=hc▸List.getElem_mem hk
  have hcS:c.short:=hv.short x hxm c hcm
  have hco:∀ w,YB W w->(loadVar 155 ⟨b2,off2+k*7,none⟩).run YP w= .ok (coV c) w:=λw hb=>qI coC_len (λj u h=>(hb.cell (p:=⟨b2,off2+j,none⟩) hlt2).trans (hcell2 j u h)) k 0 hk Om _ (by rw [hc];kernel_rfl)
  have hcl:=co_len (hxf.2 c hcm)
  refine jX 28 (α:=YL) (λq=>[(1,Zp b1 0),(3,.string (mkS q)),(4,YI (i:Int)),(5,YI (k:Int))]) (λ_=>[⟨b1, #[.slice A xs.length cap],279⟩]) (λq=>q++c.print=p++kC (x.l.take (k+1))/\q.length<=t.length+2) [] (λnj=>qT 28 ((0:Int)<(k:Int)) (λh4=>zZ 30 [] t [44,32] (nj (t++[44,32]) [] ⟨by rw [ht,altText_step hk hc,if_neg Om];simp only [List.append_assoc],by simp⟩ Kr)) (λh4=>nj t [] ⟨by rw [ht,altText_step hk hc,if_pos Om,show k=0 by omega];simp [kC,wB],by omega⟩ Kr)) (λq g4 hq=> ?_)
  have hql:=hq.2
  exact zH 35 [0] hA xs.length cap i 1 hi (zG 36 [] 305 b (off+i*1) (.slice x.A x.l.length x.cap) (λw hO=>hrow w hO.below) (zH 38 [] hA2 x.l.length x.cap k 7 hk (zG 39 [] 155 b2 (off2+k*7) (coV c) (λw hO=>hco w hO.below) (z6 (k:=124) (args:= #[coV c]) (v:= .string (mkS c.print)) [] (λw _=>tK c w hcS) (zZ 41 [] q c.print (x_i 26 [] ((k+1:Nat):Int) (nxk (k+1,q++c.print) (x.l.length-(k+1)) [] Om ⟨⟨by omega,hq.1,by rw [List.length_append];omega⟩,rfl⟩ Kr Kr)))))))
 ·exact zA 10 [0] ((i:Int)<(xs.length:Int)) (λh=>absurd h h1) (λ_=>z7 [] (.string (mkS s)) λw hO=>⟨by rw [hs,List.take_of_length_le (by rw [gW];omega)],hO.below⟩)
theorem rsMay_any (A:Option Addr)(cap:Nat)(xs:List Al)(W:World)(hv:RgIn W W.heap.size A xs):YC 326 #[.agg #[.slice A xs.length cap]] W (YR (.bool (rgMay (x1 xs))) W):=by
 refine z8 Tryz.func326 (zQ [] λb1=>z6 (k:=324) (args:= #[.agg #[.slice A xs.length cap]]) (v:= .bool (fewR (x1 xs))) [0] (λw hO=>rsfew_any A cap xs w (hv.on hO.below hO.below.size)) ?_)
 cases h1:fewR (x1 xs) with
 |false=>exact z7 [] (.bool false) λw hO=>⟨by unfold rgMay;rw [h1];rfl,hO.below⟩
 |true=>exact z6 (k:=325) (args:= #[.agg #[.slice A xs.length cap]]) (v:= .string (mkS (kR (x1 xs)))) [0] (λw hO=>rstext_any A cap xs w (hv.on hO.below hO.below.size) h1) (zA 9 [] (((kR (x1 xs)).length:Int)<=96) (λh2=>z7 [] (.bool true) λw hO=>⟨by unfold rgMay;rw [h1,decide_eq_true Om];rfl,hO.below⟩) (λh2=>z7 [] (.bool false) λw hO=>⟨by unfold rgMay;rw [h1,decide_eq_false Om];rfl,hO.below⟩))
theorem rsPrint_any (A:Option Addr)(cap:Nat)(xs:List Al)(W:World)(hv:RgIn W W.heap.size A xs):YC 286 #[.agg #[.slice A xs.length cap]] W (YR (.string (mkS (jZ (x1 xs)))) W):=by
 refine z8 Tryz.func286 (zQ [] λb1=>z6 (k:=326) (args:= #[.agg #[.slice A xs.length cap]]) (v:= .bool (rgMay (x1 xs))) [0] (λw hO=>rsMay_any A cap xs w (hv.on hO.below hO.below.size)) ?_)
 cases h1:rgMay (x1 xs) with
 |false=>exact z7 [] (.string (mkS [])) λw hO=>⟨by unfold jZ;rw [h1];rfl,hO.below⟩
 |true=>exact z6 (k:=325) (args:= #[.agg #[.slice A xs.length cap]]) (v:= .string (mkS (kR (x1 xs)))) [0] (λw hO=>rstext_any A cap xs w (hv.on hO.below hO.below.size) (rgMay.facts h1).1) (z7 [] (.string (mkS (kR (x1 xs)))) λw hO=>⟨by unfold jZ;rw [h1];rfl,hO.below⟩)
end
section
theorem bareF_len0 {u:YL}(h:u.length=0):yH u=u:=by rw [List.eq_nil_of_length_eq_zero h];rfl
theorem cons_of {u:YL}(h:0<u.length){c:UInt8}(hc:u[0]=c):u=c::u.drop 1:=by
 have:=List.drop_eq_getElem_cons h
 rw [List.drop_zero,hc] at this;exact this
theorem bareF_stop {u:YL}(h:0<u.length){c:UInt8}(hc:u[0]=c)(hn:¬ (c.toNat:Int)=32):yH u=u:=by
 rw [cons_of h hc,yH,if_neg λe:c=32=>hn ((wP (n:=32) (by decide)).2 e)]
theorem bareF_go {u:YL}(h:0<u.length){c:UInt8}(hc:u[0]=c)(hn:(c.toNat:Int)=32):yH (u.drop 1)=yH u:=by
 conv=>rhs;rw [cons_of h hc,yH,if_pos (show c=32 from (wP (n:=32) (by decide)).1 hn)]
theorem snoc_of {u:YL}(h:0<u.length){c:UInt8}(hc:u[u.length-1]'Om=c):u=u.take (u.length-1)++[c]:=by
 have:=List.take_succ_eq_append_getElem (l:=u) (i:=u.length-1) Om
 rw [hc,show u.length-1+1=u.length from by omega,List.take_length] at this;exact this
theorem rev_of {u:YL}(h:0<u.length){c:UInt8}(hc:u[u.length-1]'Om=c):u.reverse=c::(u.take (u.length-1)).reverse:=by
 conv=>lhs;rw [snoc_of h hc]
 rw [List.reverse_append];rfl
theorem rev_stop {u:YL}(h:0<u.length){c:UInt8}(hc:u[u.length-1]'Om=c)(hn:¬ (c.toNat:Int)=32):yH u.reverse=u.reverse:=by
 rw [rev_of h hc,yH,if_neg λe:c=32=>hn ((wP (n:=32) (by decide)).2 e)]
theorem rev_go {u:YL}(h:0<u.length){c:UInt8}(hc:u[u.length-1]'Om=c)(hn:(c.toNat:Int)=32):yH (u.take (u.length-1)).reverse=yH u.reverse:=by
 conv=>rhs;rw [rev_of h hc,yH,if_pos (show c=32 from (wP (n:=32) (by decide)).1 hn)]
theorem bareL_end {s u v:YL}(h1:yH s=u)(h2:yH v.reverse=yH u.reverse)(h3:yH v.reverse=v.reverse):yE s=v:=by
 unfold yE
 rw [h1,←h2,h3,List.reverse_reverse]
structure AlI (s:YL)(i f:Nat)(u:Value)(P:List YL)(ob:List Blk):Prop where
 fi:f<=i+1
 il:i<=s.length
 fl:f<=s.length
 sl:SlT u P ob
 eq:P++kF ((s.drop f).take (i-f)) (s.drop (max i f))=kF [] s
 pl:2*P.length<=f
theorem AlI.start (s:YL):AlI s 0 0 (.slice none 0 0) [] []:=⟨by omega,by omega,by omega,Sl.nil _ _,by simp,Nat.le_refl _⟩
theorem two_of {s:YL}{i:Nat}(h:i+1<s.length){c d:UInt8}(hc:s[i]'Om=c)(hd:s[i+1]=d):s.drop i=c::d::s.drop (i+2):=by
 rw [List.drop_eq_getElem_cons (show i<s.length by omega),hc,List.drop_eq_getElem_cons h,hd]
theorem AlI.on {s:YL}{i f:Nat}{u:Value}{P:List YL}{ob:List Blk}(h:AlI s i f u P ob)(hi:i+1<s.length){c d:UInt8}(hc:s[i]'Om=c)(hd:s[i+1]=d)(hn:¬ ((c.toNat:Int)=124/\(d.toNat:Int)=124/\f<=i)):AlI s (i+1) f u P ob:=by
 have hfi:=h.fi
 refine ⟨by omega,by omega,h.fl,h.sl, ?_,by have:=h.pl;omega⟩
 rw [←h.eq]
 congr 1
 by_cases hf:f<=i
 ·rw [show max (i+1) f=i+1 by omega,show max i f=i by omega,two_of hi hc hd,kF,if_neg λe:c=124/\d=124=>hn ⟨(wP (n:=124) (by decide)).2 e.1,(wP (n:=124) (by decide)).2 e.2,hf⟩]
  congr 1
  ·rw [show i+1-f=(i-f)+1 by omega,List.take_succ_eq_append_getElem (by rw [List.length_drop];omega)]
   congr 1
   rw [List.getElem_drop]
   congr 1
   rw [←hc]
   congr 1
   omega
  ·rw [List.drop_eq_getElem_cons hi,hd]
 ·rw [show i+1-f=0 by omega,show i-f=0 by omega,show max (i+1) f=f by omega,show max i f=f by omega]
theorem AlI.hit {s:YL}{i f:Nat}{u:Value}{P:List YL}{ob:List Blk}(h:AlI s i f u P ob)(hi:i+1<s.length){c d:UInt8}(hc:s[i]'Om=c)(hd:s[i+1]=d)(h1:(c.toNat:Int)=124)(h2:(d.toNat:Int)=124)(hf:f<=i){u2:Value}{ob2:List Blk}
  (hu:Sl 9 1 u2 (P.length+1) (jK P++y7 ((s.drop f).take (i-f))) ob2):AlI s (i+1) (i+2) u2 (P++[(s.drop f).take (i-f)]) ob2:=by
 refine ⟨by omega,by omega,by omega,hu.to (by simp) (by simp [jK,y7]), ?_,by have:=h.pl;rw [List.length_append];simp;omega⟩
 rw [←h.eq,List.append_assoc]
 congr 1
 rw [show max i f=i by omega,two_of hi hc hd,kF,if_pos ⟨(wP (n:=124) (by decide)).1 h1,(wP (n:=124) (by decide)).1 h2⟩,show i+1-(i+2)=0 by omega,show max (i+1) (i+2)=i+2 by omega]
 rfl
theorem altsL_short {x acc:YL}(h:x.length<=1):kF acc x=[acc++x]:=by
 match x,h with
 | [],_=>simp [kF]
 | [c],_=>rfl
theorem AlI.fin {s:YL}{i f:Nat}{u:Value}{P:List YL}{ob:List Blk}(h:AlI s i f u P ob)(hi:¬ i+1<s.length):P++[s.drop f]=kF [] s:=by
 rw [←h.eq,altsL_short (by rw [List.length_drop];omega)]
 congr 2
 by_cases hf:f<=i
 ·rw [show max i f=i by omega]
  conv=>lhs;rw [←List.take_append_drop (i-f) (s.drop f)]
  rw [List.drop_drop,show f+(i-f)=i by omega]
 ·rw [show i-f=0 by omega,show max i f=f by omega];rfl
theorem rsbare_any (s:YL)(W:World)(hs:s.length<=1000000):YC 323 #[.string (mkS s)] W (YR (.string (mkS (yE s))) W):=by
 refine z8 Tryz.func323 (x_loopE (α:=YL) (β:=YL) (λu=>[(0,.string (mkS u))]) (λ_=>[]) (λu m=>(yH u=yH s/\u.length<=s.length)/\m=u.length) s s.length (λu=>[(0,.string (mkS u))]) (λ_=>[]) (λu=>yH s=u/\u.length<=s.length) [] ⟨⟨rfl,Nat.le_refl _⟩,rfl⟩ ?_ ?_)
 ·rintro u m g ⟨⟨hu,hul⟩,hmm⟩ nx ne
  refine zA 5 [] ((0:Int)<(u.length:Int)) (λh1=> ?_) (λh1=>ne u [] ⟨by rw [←hu];exact bareF_len0 Om,hul⟩ Kr)
  have hu0:0<u.length:=by omega
  exact bU 8 [] u 0 hu0 u[0] rfl (zA 9 [] ((u[0].toNat:Int)=32) (λh2=>x_slo 12 [] u 1 Om Om (.string (mkS (u.drop 1))) rfl (nx (u.drop 1) (u.drop 1).length [] (by rw [List.length_drop];omega) ⟨⟨by rw [bareF_go hu0 rfl h2];exact hu,by rw [List.length_drop];omega⟩,rfl⟩ Kr Kr)) (λh2=>ne u [] ⟨by rw [←hu];exact bareF_stop hu0 rfl h2,hul⟩ Kr))
 ·rintro u g ⟨hbu,hul⟩
  refine zL (α:=YL) (λv=>[(0,.string (mkS v))]) (λ_=>[]) (λv m=>(yH v.reverse=yH u.reverse/\v.length<=u.length)/\m=v.length) u u.length [] ⟨⟨rfl,Nat.le_refl _⟩,rfl⟩ ?_
  rintro v m g2 kk ⟨⟨hv,hvl⟩,hmm⟩ nx hkk
  subst hkk
  have hE:=λ(h:yH v.reverse=v.reverse) (w:World) (hb:YB W w)=>show Ending.returned (.string (mkS v))= .returned (.string (mkS (yE s)))/\YB W w from ⟨by rw [bareL_end hbu hv h],hb⟩
  refine zA 15 [] ((0:Int)<(v.length:Int)) (λh3=> ?_) (λh3=>z7 [] (.string (mkS v)) λw hO=>hE (by rw [List.eq_nil_of_length_eq_zero (by omega:v.length=0)];rfl) w hO.below)
  have hv0:0<v.length:=by omega
  obtain ⟨cz,hcz⟩:∃ x,v[v.length-1]'Om=x:=⟨_,rfl⟩
  exact j6 20 [] (YI (IntKind.i64.wrap ((v.length:Int) -1))) (YI ((v.length-1:Nat):Int)) (by rw [IntWalk.i64_in _ Om,show (v.length:Int) -1=((v.length-1:Nat):Int) by omega]) (bU 21 [] v (v.length-1) Om cz hcz (zA 22 [] ((cz.toNat:Int)=32) (λh4=>x_i 27 [] ((v.length:Int) -1) (x_shi 28 [] v ((v.length:Int) -1) Om Om (.string (mkS (v.take (v.length-1)))) (by rw [show ((v.length:Int) -1).toNat=v.length-1 by omega]) (nx (v.take (v.length-1)) (v.take (v.length-1)).length [] (by rw [List.length_take];omega) ⟨⟨by rw [rev_go hv0 hcz h4];exact hv,by rw [List.length_take];omega⟩,rfl⟩ Kr Kr))) (λh4=>z7 [] (.string (mkS v)) λw hO=>hE (rev_stop hv0 hcz h4) w hO.below)))
theorem rsalts_any (s:YL)(W:World)(hs:s.length<=1000000):YC 321 #[.string (mkS s)] W λe w'=>∃ v' ob',e= .returned v'/\SlT v' (kF [] s) ob'/\Own [] W w' ob':=by
 refine z8 Tryz.func321 (zL (α:=Nat×Nat×Value×List YL×List Blk) (λ(i,q,u,_,_)=>[(0,.string (mkS s)),(3,u),(4,YI (q:Int)),(5,YI (i:Int))]) (λ(_,_,_,_,ob)=>ob) (λ(i,q,u,P,ob) m=>AlI s i q u P ob/\m=s.length-i) (0,0,.slice none 0 0,[],[]) (s.length-0) [] ⟨AlI.start s,rfl⟩ ?_)
 rintro ⟨i,q,u,P,ob⟩ m g kk ⟨hrel,hmm⟩ nx hkk
 subst hkk
 have hfi:=hrel.fi
 have hil:=hrel.il
 have hfl:=hrel.fl
 have hpl:=hrel.pl
 by_cases h1:((i+1:Nat):Int)<(s.length:Int)
 ·have hi:i+1<s.length:=by omega
  obtain ⟨c,hc⟩:∃ x,s[i]'Om=x:=⟨_,rfl⟩
  obtain ⟨d,hd⟩:∃ x,s[i+1]=x:=⟨_,rfl⟩
  refine x_i 7 [] ((i+1:Nat):Int) (zA 10 [] (((i+1:Nat):Int)<(s.length:Int)) (λ_=>bU 15 [] s i Om c hc (zA 16 [] ((c.toNat:Int)=124) (λh2=>x_i 20 [] ((i+1:Nat):Int) (bU 21 [] s (i+1) hi d hd (zA 22 [] ((d.toNat:Int)=124) (λh3=>zA 27 [] ((q:Int)<=(i:Int)) (λh4=> ?_) (λh4=>x_i 12 [] ((i+1:Nat):Int) (nx (i+1,q,u,P,ob) (s.length-(i+1)) [] Om ⟨hrel.on hi hc hd Om,rfl⟩ Kr Kr))) (λh3=>x_i 12 [] ((i+1:Nat):Int) (nx (i+1,q,u,P,ob) (s.length-(i+1)) [] Om ⟨hrel.on hi hc hd Om,rfl⟩ Kr Kr))))) (λh2=>x_i 12 [] ((i+1:Nat):Int) (nx (i+1,q,u,P,ob) (s.length-(i+1)) [] Om ⟨hrel.on hi hc hd Om,rfl⟩ Kr Kr)))) (λh=>absurd h1 h))
  exact x_smid 33 [] s (q:Int) (i:Int) Om (.string (mkS ((s.drop q).take (i-q)))) rfl (kD [] 1 9 #[.string (mkS ((s.drop q).take (i-q)))] λb1=>qJ (m:=1) (cp:=1) [] [⟨b1, #[.string (mkS ((s.drop q).take (i-q)))],9⟩] ob [] 0 (⟨b1, #[.string (mkS ((s.drop q).take (i-q)))],9⟩::ob) (λw hO=>hO.cast (by simp)) hrel.sl Om λu2 ob2 hu2=>x_i 37 [] ((i+2:Nat):Int) (x_i 12 [] ((i+1:Nat):Int) (zK [] ob2 (λw hO=>(hO.past 1 (ob2++[])).cast (by simp)) (nx (i+1,i+2,u2,P++[(s.drop q).take (i-q)],ob2) (s.length-(i+1)) [] Om ⟨hrel.hit hi hc hd h2 h3 Om hu2,rfl⟩ Kr Kr))))
 ·exact x_i 7 [] ((i+1:Nat):Int) (zA 10 [] (((i+1:Nat):Int)<(s.length:Int)) (λh=>absurd h h1) (λ_=>x_slo 41 [] s (q:Int) Om Om (.string (mkS (s.drop q))) rfl (kD [] 1 9 #[.string (mkS (s.drop q))] λb1=>qJ (m:=1) (cp:=1) [] [⟨b1, #[.string (mkS (s.drop q))],9⟩] ob [] 0 (⟨b1, #[.string (mkS (s.drop q))],9⟩::ob) (λw hO=>hO.cast (by simp)) hrel.sl Om λu2 ob2 hu2=>z7 [] u2 λw hO=>⟨u2,ob2,rfl,by rw [←hrel.fin Om];exact (show Sl 9 1 u2 (P.length+1) (jK P++y7 (s.drop q)) ob2 from hu2).to (by simp) (by simp [jK,y7]),(hO.past 1 (ob2++[])).cast (by simp)⟩)))
end
end Go.Proofs.YtdafengdngglpaaGreatDoor
