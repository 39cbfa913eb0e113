import Derived.Lib.OthersKept
import Derived.Lib.IndexBytes
import Derived.Laws.IdiomStrings
import Derived.Laws.IdiomCopy
import Derived.Laws.BitsAllLaws
import Derived.Lib.ConvBytes
import Derived.Lib.Builder
import Derived.Laws.Entries
import Derived.Test.YtdafengdngglpaaGreatDoorSU5
set_option maxRecDepth 1000000
set_option maxHeartbeats 8000000
set_option linter.unusedVariables false
set_option linter.unusedSimpArgs false
set_option linter.unnecessarySimpa false
namespace Go.Proofs.YtdafengdngglpaaGreatDoor
open Go.RowKit

section
set_option linter.unnecessarySimpa false
theorem SlT.adds {u:Value}{l xs:List Tok}{ob:List Blk}(h:Sl 9 1 u (l.length+xs.length) (jK l++jK xs) ob):SlT u (l++xs) ob:=Sl.to h (by simp) (by rw [xB,xB,xB,List.flatMap_append])
def Wr (b:Nat)(A:Option Addr)(n cap:Nat)(ws:List Tok)(ob:List Blk):Prop:=∃ C cc g,ob=⟨b, #[.slice A n cap,.slice C ws.length cc],290⟩::g/\SlT (.slice C ws.length cc) ws g
structure LentW (B b:Nat)(A:Option Addr)(cap:Nat)(l:List Nd)(ws:List Tok)(ob:List Blk)(W:World):Prop where
 rd:Wr b A l.length cap ws ob
 own:Own (ob.map Blk.b) W W ob
 ge:∀ x∈ob,B<=x.b
 le:B<=W.heap.size
 nodes:Reads nC W B A l
 lib:MkAt B W
structure BackW (b:Nat)(A:Option Addr)(n cap:Nat)(ws:List Tok)(ob ob':List Blk)(W w':World):Prop where
 rd:Wr b A n cap ws ob'
 own:Own (ob.map Blk.b) W w' ob'
theorem LentW.at {B b cap:Nat}{A:Option Addr}{l:List Nd}{ws ws':List Tok}{ob ob' R:List Blk}{W w:World}(h:LentW B b A cap l ws ob W)(hR:Wr b A l.length cap ws' ob')(hO:Own (ob.map Blk.b) W w (ob'++R)):LentW B b A cap l ws' ob' w:=
 ⟨hR,Own.lent hO,λx hx=>hO.allB (qC h.ge) h.le x (List.mem_append_left _ hx),Nat.le_trans h.le hO.size,h.nodes.on (hO.belowB (qC h.ge) h.le) (Nat.le_refl _),h.lib.on (hO.belowB (qC h.ge) h.le) (Nat.le_refl _)⟩
def m8 (A:Option Addr)(cap:Nat)(l:List Nd)(a:Nat)(X:List Tok):Prop:=∀ (B b:Nat) (ws:List Tok) (ob:List Blk) (W:World),LentW B b A cap l ws ob W->ws.length+X.length<=100000→
 YC 279 #[.pointer (some ⟨b,0,none⟩),YI (a:Int)] W λe w'=>∃ ob',e= .returned (.tuple #[])/\BackW b A l.length cap (ws++X) ob ob' W w'
def OperW (A:Option Addr)(cap:Nat)(l:List Nd)(a:Nat)(z:Int)(X:List Tok):Prop:=∀ (B b:Nat) (ws:List Tok) (ob:List Blk) (W:World),LentW B b A cap l ws ob W->ws.length+X.length<=100000→
 YC 313 #[.pointer (some ⟨b,0,none⟩),YI (a:Int),YI z] W λe w'=>∃ ob',e= .returned (.tuple #[])/\BackW b A l.length cap (ws++X) ob ob' W w'
theorem pY {B b cap:Nat}{A:Option Addr}{l:List Nd}{ws:List Tok}{ob:List Blk}{W:World}(hL:LentW B b A cap l ws ob W)(op a b0:Int)(k:Nat)(hk:k<3)(v sg:Tok)(hn:ws.length+3<=100000):YC 312 #[.pointer (some ⟨b,0,none⟩),ndV ⟨op,a,b0,(k:Int),v⟩,.string (mkS sg)] W λe w'=>∃ ob',e= .returned (.tuple #[])/\BackW b A l.length cap (ws++[yR k,sg,v]) ob ob' W w':=by
 have hM':=qC hL.ge
 have hBW:=hL.le
 have hO:=hL.own
 have hlib:=hL.lib
 obtain ⟨C,cc,g,rfl,hsl⟩:=hL.rd
 have hnl:(ws++[yR k,sg,v]).length=ws.length+3:=by simp
 have hk1:∀ w,Own ((⟨b, #[.slice A l.length cap,.slice C ws.length cc],290⟩::g).map Blk.b) W w []->(loadVar 9 ⟨2,0+k*1,none⟩).run YP w= .ok (.string (mkS (yR k))) w:=λw hO=>(hlib.on (hO.belowB hM' hBW) (Nat.le_refl _)).one k hk
 refine y6 hO Tryz.func312 (zQ [] λb4=>x5 14 [] [⟨b4, #[YI op,YI a,YI b0,YI (k:Int),.string (mkS v)],312⟩,⟨b, #[.slice A l.length cap,.slice C ws.length cc],290⟩] (λw hO=>(hO.past 0 (⟨b4, #[YI op,YI a,YI b0,YI (k:Int),.string (mkS v)],312⟩::⟨b, #[.slice A l.length cap,.slice C ws.length cc],290⟩::g)).sublist (by simp)) ?_)
 refine xh_ixa 50013 [1,0] 7 3 k 1 hk (fN 50014 [] 8 9 2 (0+k*1) (.string (mkS (yR k))) (λw hO=>hk1 w hO.no) (zY [0] 12 (gF 3 9 #[.string (mkS (yR k)),.string (mkS sg),.string (mkS v)] λb1=>zY [] 13 (vZ (m:=3) (cp:=3) [⟨b1, #[.string (mkS (yR k)),.string (mkS sg),.string (mkS v)],9⟩,⟨b4, #[YI op,YI a,YI b0,YI (k:Int),.string (mkS v)],312⟩,⟨b, #[.slice A l.length cap,.slice C ws.length cc],290⟩] g [] 0 (⟨b1, #[.string (mkS (yR k)),.string (mkS sg),.string (mkS v)],9⟩::⟨b4, #[YI op,YI a,YI b0,YI (k:Int),.string (mkS v)],312⟩::⟨b, #[.slice A l.length cap,.slice C ws.length cc],290⟩::g) [⟨b4, #[YI op,YI a,YI b0,YI (k:Int),.string (mkS v)],312⟩,⟨b, #[.slice A l.length cap,.slice C ws.length cc],290⟩] (λw hO=>hO.cast (by simp)) (λo w hO=>hO.sublist (List.Sublist.cons _ (List.Sublist.cons_cons _ (List.Sublist.cons_cons _ (List.nil_sublist _))))) hsl Om λv' ob' h=> ?_))))
 obtain ⟨C2,c2,rfl⟩:=h.form
 refine kM [2] λw hO=>⟨⟨b, #[.slice A l.length cap,.slice C2 (ws++[yR k,sg,v]).length c2],290⟩::ob',rfl,⟨C2,c2,ob',rfl,by rw [hnl];exact SlT.adds (xs:=[yR k,sg,v]) h⟩, ?_⟩
 rw [hnl];exact (hO.past 2 (⟨b, #[.slice A l.length cap,.slice C2 (ws.length+3) c2],290⟩::(ob'++[]))).cast (by simp)
theorem opn_in {A:Option Addr}{cap:Nat}{l:List Nd}(hl9:l.length<=1000){a:Nat}{na:Nd}{z:Int}{X:List Tok}(ha:l[a]?=some na)(hz:na.op<=z)(ha':m8 A cap l a X):OperW A cap l a z X:=by
 intro B b ws ob W hL hn
 have hM':=qC hL.ge
 have hBW:=hL.le
 have hv:=hL.nodes
 have hO:=hL.own
 obtain ⟨ha2,ea⟩:=v7 ha
 obtain ⟨eb,eo,hA,hela⟩:=hv.elem qQ a ha2
 obtain ⟨C,cc,g,rfl,hsl⟩:=hL.rd
 have q:∀ w,Own ((⟨b, #[.slice A l.length cap,.slice C ws.length cc],290⟩::g).map Blk.b) W w []->(loadVar 3 ⟨eb,eo+a*5+0,none⟩).run YP w= .ok (YI na.op) w:=λw hO=>hela w (hO.belowB hM' hBW) _ 0 _ (by rw [ea];kernel_rfl)
 refine y6 hO Tryz.func313 (zH 11 [0] hA l.length cap a 5 ha2 (zG 13 [] 3 eb (eo+a*5+0) (YI na.op) (λw hO=>q w hO.no) (zA 15 [] (na.op<=z) (λ_=> ?_) (λh=>absurd hz h))))
 refine kG (k:=279) (args:= #[Zp b 0,YI (a:Int)]) (Rr:=λv ob'=>v= .tuple #[]/\Wr b A l.length cap (ws++X) ob') [] (⟨b, #[.slice A l.length cap,.slice C ws.length cc],290⟩::g) ([]:List Blk) (⟨b, #[.slice A l.length cap,.slice C ws.length cc],290⟩::g) (λw hO=>hO.cast (by simp)) (λw hO=>(ha' _ _ _ _ _ (hL.at (R:=([]:List Blk)) ⟨C,cc,g,rfl,hsl⟩ (hO.cast (by simp))) hn).mono λe w' ⟨ob',k1,k2⟩=>⟨_,ob',k1,⟨rfl,k2.rd⟩,k2.own⟩) λv1 ob1 hv1=> ?_
 obtain ⟨rfl,C1,c1,g1,rfl,hs1⟩:=hv1
 exact x_ret0 [] λw hO=>⟨_,rfl,⟨C1,c1,g1,rfl,hs1⟩,hO.past 0 (⟨b, #[.slice A l.length cap,.slice C1 (ws++X).length c1],290⟩::g1)⟩
theorem opn_out {A:Option Addr}{cap:Nat}{l:List Nd}(hl9:l.length<=1000){a:Nat}{na:Nd}{z:Int}{X:List Tok}(ha:l[a]?=some na)(hz:¬ na.op<=z)(ha':m8 A cap l a X):OperW A cap l a z (xF::(X++[xH])):=by
 intro B b ws ob W hL hn
 have el:ws++(xF::(X++[xH]))=(ws++[xF]++X)++[xH]:=by simp
 rw [el]
 have hM':=qC hL.ge
 have hBW:=hL.le
 have hv:=hL.nodes
 have hO:=hL.own
 obtain ⟨ha2,ea⟩:=v7 ha
 obtain ⟨eb,eo,hA,hela⟩:=hv.elem qQ a ha2
 obtain ⟨C,cc,g,rfl,hsl⟩:=hL.rd
 have q:∀ w,Own ((⟨b, #[.slice A l.length cap,.slice C ws.length cc],290⟩::g).map Blk.b) W w []->(loadVar 3 ⟨eb,eo+a*5+0,none⟩).run YP w= .ok (YI na.op) w:=λw hO=>hela w (hO.belowB hM' hBW) _ 0 _ (by rw [ea];kernel_rfl)
 refine y6 hO Tryz.func313 (zH 11 [0] hA l.length cap a 5 ha2 (zG 13 [] 3 eb (eo+a*5+0) (YI na.op) (λw hO=>q w hO.no) (zA 15 [] (na.op<=z) (λh=>absurd h hz) (λ_=> ?_))))
 refine kD [0] 1 9 #[.string (mkS xF)] λb1=>qJ (m:=1) (cp:=1) [] [⟨b1, #[.string (mkS xF)],9⟩,⟨b, #[.slice A l.length cap,.slice C ws.length cc],290⟩] g [] 0 (⟨b1, #[.string (mkS xF)],9⟩::⟨b, #[.slice A l.length cap,.slice C ws.length cc],290⟩::g) (λw hO=>hO.cast (by simp)) hsl (by (try simp only [List.length_append,List.length_cons,List.length_nil] at hn ⊢);omega) λv1 o1 h1=> ?_
 obtain ⟨C1,c1,rfl⟩:=h1.form
 have e1:(ws++[xF]).length=ws.length+1:=List.length_append ..
 have hs1:SlT (.slice C1 (ws++[xF]).length c1) (ws++[xF]) o1:=by rw [e1];exact SlT.adds (xs:=[xF]) h1
 rw [←e1]
 refine kG (k:=279) (args:= #[Zp b 0,YI (a:Int)]) (Rr:=λv ob'=>v= .tuple #[]/\Wr b A l.length cap ((ws++[xF])++X) ob') [1] (⟨b1, #[.string (mkS xF)],9⟩::⟨b, #[.slice A l.length cap,.slice C1 (ws++[xF]).length c1],290⟩::(o1++[])) [⟨b1, #[.string (mkS xF)],9⟩] (⟨b, #[.slice A l.length cap,.slice C1 (ws++[xF]).length c1],290⟩::o1) (λw hO=>hO.cast (by simp)) (λw hO=>(ha' _ _ _ _ _ (hL.at (R:=[⟨b1, #[.string (mkS xF)],9⟩]) ⟨C1,c1,o1,rfl,hs1⟩ (hO.perm (List.perm_append_comm (l₁:=[⟨b1, #[.string (mkS xF)],9⟩]) (l₂:=⟨b, #[.slice A l.length cap,.slice C1 (ws++[xF]).length c1],290⟩::o1)))) (by (try simp only [List.length_append,List.length_cons,List.length_nil] at hn ⊢);omega)).mono λe w' ⟨ob',k1,k2⟩=>⟨_,ob',k1,⟨rfl,k2.rd⟩,k2.own⟩) λv2 ob2 hv2=> ?_
 obtain ⟨rfl,C2,c2,g2,rfl,hs2⟩:=hv2
 refine kD [1] 1 9 #[.string (mkS xH)] λb3=>qJ (m:=1) (cp:=1) [] [⟨b3, #[.string (mkS xH)],9⟩,⟨b1, #[.string (mkS xF)],9⟩,⟨b, #[.slice A l.length cap,.slice C2 (ws++[xF]++X).length c2],290⟩] g2 [] 0 (⟨b3, #[.string (mkS xH)],9⟩::⟨b1, #[.string (mkS xF)],9⟩::⟨b, #[.slice A l.length cap,.slice C2 (ws++[xF]++X).length c2],290⟩::g2) (λw hO=>hO.cast (by simp)) hs2 (by (try simp only [List.length_append,List.length_cons,List.length_nil] at hn ⊢);omega) λv3 o3 h3=> ?_
 obtain ⟨C3,c3,rfl⟩:=h3.form
 have e3:((ws++[xF]++X)++[xH]).length=(ws++[xF]++X).length+1:=List.length_append ..
 have hs3:SlT (.slice C3 ((ws++[xF]++X)++[xH]).length c3) ((ws++[xF]++X)++[xH]) o3:=by rw [e3];exact SlT.adds (xs:=[xH]) h3
 rw [←e3]
 exact kM [2] λw hO=>⟨⟨b, #[.slice A l.length cap,.slice C3 ((ws++[xF]++X)++[xH]).length c3],290⟩::o3,rfl,⟨C3,c3,o3,rfl,hs3⟩,(hO.past 2 (⟨b, #[.slice A l.length cap,.slice C3 ((ws++[xF]++X)++[xH]).length c3],290⟩::(o3++[]))).cast (by simp)⟩
theorem wpair_any {B b cap:Nat}{A:Option Addr}{l:List Nd}{ws:List Tok}{ob:List Blk}{W:World}(hL:LentW B b A cap l ws ob W){op:Int}{a b0:Nat}{X Y:List Tok}(ha':OperW A cap l a op X)(hb':OperW A cap l b0 (op-1) Y)(ho1:0<=op)(ho2:op<=10)(wd:Tok)(hn:ws.length+(X++wd::Y).length<=100000):YC 314 #[.pointer (some ⟨b,0,none⟩),ndV ⟨op,(a:Int),(b0:Int),0,[]⟩,.string (mkS wd)] W λe w'=>∃ ob',e= .returned (.tuple #[])/\BackW b A l.length cap (ws++(X++wd::Y)) ob ob' W w':=by
 have el:ws++(X++wd::Y)=(ws++X++[wd])++Y:=by simp
 rw [el]
 have hM':=qC hL.ge
 have hBW:=hL.le
 have hv:=hL.nodes
 have hO:=hL.own
 obtain ⟨C,cc,g,rfl,hsl⟩:=hL.rd
 refine y6 hO Tryz.func314 (zQ [] λb4=> ?_)
 refine kG (k:=313) (args:= #[Zp b 0,YI (a:Int),YI op]) (Rr:=λv ob'=>v= .tuple #[]/\Wr b A l.length cap (ws++X) ob') [0,0] (⟨b4, #[YI op,YI (a:Int),YI (b0:Int),YI 0,.string (mkS [])],312⟩::⟨b, #[.slice A l.length cap,.slice C ws.length cc],290⟩::g) [⟨b4, #[YI op,YI (a:Int),YI (b0:Int),YI 0,.string (mkS [])],312⟩] (⟨b, #[.slice A l.length cap,.slice C ws.length cc],290⟩::g) (λw hO=>hO.cast (by simp)) (λw hO=>(ha' _ _ _ _ _ (hL.at (R:=[⟨b4, #[YI op,YI (a:Int),YI (b0:Int),YI 0,.string (mkS [])],312⟩]) ⟨C,cc,g,rfl,hsl⟩ (hO.perm (List.perm_append_comm (l₁:=[⟨b4, #[YI op,YI (a:Int),YI (b0:Int),YI 0,.string (mkS [])],312⟩]) (l₂:=⟨b, #[.slice A l.length cap,.slice C ws.length cc],290⟩::g)))) (by (try simp only [List.length_append,List.length_cons,List.length_nil] at hn ⊢);omega)).mono λe w' ⟨ob',k1,k2⟩=>⟨_,ob',k1,⟨rfl,k2.rd⟩,k2.own⟩) λv1 ob1 hv1=> ?_
 obtain ⟨rfl,C1,c1,g1,rfl,hs1⟩:=hv1
 refine kD [1] 1 9 #[.string (mkS wd)] λb2=>qJ (m:=1) (cp:=1) [] [⟨b2, #[.string (mkS wd)],9⟩,⟨b4, #[YI op,YI (a:Int),YI (b0:Int),YI 0,.string (mkS [])],312⟩,⟨b, #[.slice A l.length cap,.slice C1 (ws++X).length c1],290⟩] g1 [] 0 (⟨b2, #[.string (mkS wd)],9⟩::⟨b4, #[YI op,YI (a:Int),YI (b0:Int),YI 0,.string (mkS [])],312⟩::⟨b, #[.slice A l.length cap,.slice C1 (ws++X).length c1],290⟩::g1) (λw hO=>hO.cast (by simp)) hs1 (by (try simp only [List.length_append,List.length_cons,List.length_nil] at hn ⊢);omega) λv2 o2 h2=> ?_
 obtain ⟨C2,c2,rfl⟩:=h2.form
 have e2:((ws++X)++[wd]).length=(ws++X).length+1:=List.length_append ..
 have hs2:SlT (.slice C2 ((ws++X)++[wd]).length c2) ((ws++X)++[wd]) o2:=by rw [e2];exact SlT.adds (xs:=[wd]) h2
 rw [←e2]
 refine x_i 27 [2,1,1] (op-1) (kG (k:=313) (args:= #[Zp b 0,YI (b0:Int),YI (op-1)]) (Rr:=λv ob'=>v= .tuple #[]/\Wr b A l.length cap ((ws++X++[wd])++Y) ob') [] (⟨b2, #[.string (mkS wd)],9⟩::⟨b4, #[YI op,YI (a:Int),YI (b0:Int),YI 0,.string (mkS [])],312⟩::⟨b, #[.slice A l.length cap,.slice C2 (ws++X++[wd]).length c2],290⟩::(o2++[])) [⟨b2, #[.string (mkS wd)],9⟩,⟨b4, #[YI op,YI (a:Int),YI (b0:Int),YI 0,.string (mkS [])],312⟩] (⟨b, #[.slice A l.length cap,.slice C2 (ws++X++[wd]).length c2],290⟩::o2) (λw hO=>hO.cast (by simp)) (λw hO=>(hb' _ _ _ _ _ (hL.at (R:=[⟨b2, #[.string (mkS wd)],9⟩,⟨b4, #[YI op,YI (a:Int),YI (b0:Int),YI 0,.string (mkS [])],312⟩]) ⟨C2,c2,o2,rfl,hs2⟩ (hO.perm (List.perm_append_comm (l₁:=[⟨b2, #[.string (mkS wd)],9⟩,⟨b4, #[YI op,YI (a:Int),YI (b0:Int),YI 0,.string (mkS [])],312⟩]) (l₂:=⟨b, #[.slice A l.length cap,.slice C2 (ws++X++[wd]).length c2],290⟩::o2)))) (by (try simp only [List.length_append,List.length_cons,List.length_nil] at hn ⊢);omega)).mono λe w' ⟨ob',k1,k2⟩=>⟨_,ob',k1,⟨rfl,k2.rd⟩,k2.own⟩) λv3 ob3 hv3=> ?_)
 obtain ⟨rfl,C3,c3,g3,rfl,hs3⟩:=hv3
 exact kM [] λw hO=>⟨_,rfl,⟨C3,c3,g3,rfl,hs3⟩,hO.past 2 (⟨b, #[.slice A l.length cap,.slice C3 ((ws++X++[wd])++Y).length c3],290⟩::g3)⟩
theorem nd_is {A:Option Addr}{cap:Nat}{l:List Nd}(hl9:l.length<=1000){r k:Nat}{t:Tok}(hk:k<3)(hr:l[r]?=some ⟨1,0,0,(k:Int),t⟩):m8 A cap l r [yR k,tEq,t]:=by
 intro B b ws ob W hL hn
 have hM':=qC hL.ge
 have hBW:=hL.le
 have hv:=hL.nodes
 have hO:=hL.own
 obtain ⟨hr2,er⟩:=v7 hr
 obtain ⟨eb,eo,hA,helr⟩:=hv.elem qQ r hr2
 obtain ⟨C,cc,g,rfl,hsl⟩:=hL.rd
 have q:∀ w,Own ((⟨b, #[.slice A l.length cap,.slice C ws.length cc],290⟩::g).map Blk.b) W w []->(loadVar 312 ⟨eb,eo+r*5+0,none⟩).run YP w= .ok (ndV ⟨1,0,0,(k:Int),t⟩) w:=λw hO=>helr w (hO.belowB hM' hBW) _ 0 _ (by rw [er];kernel_rfl)
 refine y6 hO Tryz.func279 (zH 11 [0] hA l.length cap r 5 hr2 (zG 12 [] 312 eb (eo+r*5+0) (ndV ⟨1,0,0,(k:Int),t⟩) (λw hO=>q w hO.no) (zB [] λb4=> ?_)))
 refine kG (k:=312) (args:= #[Zp b 0,ndV ⟨1,0,0,(k:Int),t⟩,.string (mkS tEq)]) (Rr:=λv ob'=>v= .tuple #[]/\Wr b A l.length cap (ws++[yR k,tEq,t]) ob') [0,0,0] (⟨b4, #[YI 1,YI 0,YI 0,YI (k:Int),.string (mkS t)],312⟩::⟨b, #[.slice A l.length cap,.slice C ws.length cc],290⟩::g) [⟨b4, #[YI 1,YI 0,YI 0,YI (k:Int),.string (mkS t)],312⟩] (⟨b, #[.slice A l.length cap,.slice C ws.length cc],290⟩::g) (λw hO=>hO.cast (by simp)) (λw hO=>(pY (hL.at (R:=[⟨b4, #[YI 1,YI 0,YI 0,YI (k:Int),.string (mkS t)],312⟩]) ⟨C,cc,g,rfl,hsl⟩ (hO.perm (List.perm_append_comm (l₁:=[⟨b4, #[YI 1,YI 0,YI 0,YI (k:Int),.string (mkS t)],312⟩]) (l₂:=⟨b, #[.slice A l.length cap,.slice C ws.length cc],290⟩::g)))) 1 0 0 k hk t tEq (by (try simp only [List.length_append,List.length_cons,List.length_nil] at hn ⊢);omega)).mono λe w' ⟨ob',k1,k2⟩=>⟨_,ob',k1,⟨rfl,k2.rd⟩,k2.own⟩) λv1 ob1 hv1=> ?_
 obtain ⟨rfl,C1,c1,g1,rfl,hs1⟩:=hv1
 exact kM [] λw hO=>⟨_,rfl,⟨C1,c1,g1,rfl,hs1⟩,hO.past 1 (⟨b, #[.slice A l.length cap,.slice C1 (ws++[yR k,tEq,t]).length c1],290⟩::g1)⟩
theorem nd_no_is {A:Option Addr}{cap:Nat}{l:List Nd}(hl9:l.length<=1000){r a k:Nat}{t:Tok}(hk:k<3)(hr:l[r]?=some ⟨2,(a:Int),0,0,[]⟩)(ha:l[a]?=some ⟨1,0,0,(k:Int),t⟩):m8 A cap l r [yR k,tNe,t]:=by
 intro B b ws ob W hL hn
 have hM':=qC hL.ge
 have hBW:=hL.le
 have hv:=hL.nodes
 have hO:=hL.own
 obtain ⟨hr2,er⟩:=v7 hr
 obtain ⟨eb,eo,hA,helr⟩:=hv.elem qQ r hr2
 obtain ⟨C,cc,g,rfl,hsl⟩:=hL.rd
 have q:∀ w,Own ((⟨b, #[.slice A l.length cap,.slice C ws.length cc],290⟩::g).map Blk.b) W w []->(loadVar 312 ⟨eb,eo+r*5+0,none⟩).run YP w= .ok (ndV ⟨2,(a:Int),0,0,[]⟩) w:=λw hO=>helr w (hO.belowB hM' hBW) _ 0 _ (by rw [er];kernel_rfl)
 obtain ⟨ha2,ea⟩:=v7 ha
 obtain ⟨eb2,eo2,hA2,hela⟩:=hv.elem qQ a ha2
 obtain ⟨rfl,rfl⟩:eb=eb2/\eo=eo2:=by rw [hA] at hA2;cases hA2;exact ⟨rfl,rfl⟩
 have q5:∀ w,Own ((⟨b, #[.slice A l.length cap,.slice C ws.length cc],290⟩::g).map Blk.b) W w []->(loadVar 312 ⟨eb,eo+a*5+0,none⟩).run YP w= .ok (ndV ⟨1,0,0,(k:Int),t⟩) w:=λw hO=>hela w (hO.belowB hM' hBW) _ 0 _ (by rw [ea];kernel_rfl)
 refine y6 hO Tryz.func279 (zH 11 [0] hA l.length cap r 5 hr2 (zG 12 [] 312 eb (eo+r*5+0) (ndV ⟨2,(a:Int),0,0,[]⟩) (λw hO=>q w hO.no) (zB [] λb4=> ?_)))
 refine x5 9 [0,0] [⟨b4, #[YI 2,YI (a:Int),YI 0,YI 0,.string (mkS [])],312⟩,⟨b, #[.slice A l.length cap,.slice C ws.length cc],290⟩] (λw hO=>(hO.past 0 (⟨b4, #[YI 2,YI (a:Int),YI 0,YI 0,.string (mkS [])],312⟩::⟨b, #[.slice A l.length cap,.slice C ws.length cc],290⟩::g)).sublist (by simp)) (fO 50028 [1,0] 6 hA l.length cap a 5 ha2 (fN 50029 [] 7 312 eb (eo+a*5+0) (ndV ⟨1,0,0,(k:Int),t⟩) (λw hO=>q5 w hO.no) (zY [] 8 (n5 λb5=> ?_))))
 refine kG (k:=312) (args:= #[Zp b 0,ndV ⟨1,0,0,(k:Int),t⟩,.string (mkS tNe)]) (Rr:=λv ob'=>v= .tuple #[]/\Wr b A l.length cap (ws++[yR k,tNe,t]) ob') [0,0,0] (⟨b5, #[YI 1,YI 0,YI 0,YI (k:Int),.string (mkS t)],312⟩::⟨b4, #[YI 2,YI (a:Int),YI 0,YI 0,.string (mkS [])],312⟩::⟨b, #[.slice A l.length cap,.slice C ws.length cc],290⟩::g) [⟨b5, #[YI 1,YI 0,YI 0,YI (k:Int),.string (mkS t)],312⟩,⟨b4, #[YI 2,YI (a:Int),YI 0,YI 0,.string (mkS [])],312⟩] (⟨b, #[.slice A l.length cap,.slice C ws.length cc],290⟩::g) (λw hO=>hO.cast (by simp)) (λw hO=>(pY (hL.at (R:=[⟨b5, #[YI 1,YI 0,YI 0,YI (k:Int),.string (mkS t)],312⟩,⟨b4, #[YI 2,YI (a:Int),YI 0,YI 0,.string (mkS [])],312⟩]) ⟨C,cc,g,rfl,hsl⟩ (hO.perm (List.perm_append_comm (l₁:=[⟨b5, #[YI 1,YI 0,YI 0,YI (k:Int),.string (mkS t)],312⟩,⟨b4, #[YI 2,YI (a:Int),YI 0,YI 0,.string (mkS [])],312⟩]) (l₂:=⟨b, #[.slice A l.length cap,.slice C ws.length cc],290⟩::g)))) 1 0 0 k hk t tNe (by (try simp only [List.length_append,List.length_cons,List.length_nil] at hn ⊢);omega)).mono λe w' ⟨ob',k1,k2⟩=>⟨_,ob',k1,⟨rfl,k2.rd⟩,k2.own⟩) λv1 ob1 hv1=> ?_
 obtain ⟨rfl,C1,c1,g1,rfl,hs1⟩:=hv1
 exact x_ret0 [] λw hO=>⟨_,rfl,⟨C1,c1,g1,rfl,hs1⟩,hO.past 2 (⟨b, #[.slice A l.length cap,.slice C1 (ws++[yR k,tNe,t]).length c1],290⟩::g1)⟩
theorem nd_no {A:Option Addr}{cap:Nat}{l:List Nd}(hl9:l.length<=1000){r a:Nat}{na:Nd}{X:List Tok}(hr:l[r]?=some ⟨2,(a:Int),0,0,[]⟩)(ha:l[a]?=some na)(hx1:¬ na.op=1)(ha':OperW A cap l a 2 X):m8 A cap l r (qV::X):=by
 intro B b ws ob W hL hn
 have el:ws++(qV::X)=(ws++[qV])++X:=by simp
 rw [el]
 have hM':=qC hL.ge
 have hBW:=hL.le
 have hv:=hL.nodes
 have hO:=hL.own
 obtain ⟨hr2,er⟩:=v7 hr
 obtain ⟨eb,eo,hA,helr⟩:=hv.elem qQ r hr2
 obtain ⟨C,cc,g,rfl,hsl⟩:=hL.rd
 have q:∀ w,Own ((⟨b, #[.slice A l.length cap,.slice C ws.length cc],290⟩::g).map Blk.b) W w []->(loadVar 312 ⟨eb,eo+r*5+0,none⟩).run YP w= .ok (ndV ⟨2,(a:Int),0,0,[]⟩) w:=λw hO=>helr w (hO.belowB hM' hBW) _ 0 _ (by rw [er];kernel_rfl)
 obtain ⟨ha2,ea⟩:=v7 ha
 obtain ⟨eb2,eo2,hA2,hela⟩:=hv.elem qQ a ha2
 obtain ⟨rfl,rfl⟩:eb=eb2/\eo=eo2:=by rw [hA] at hA2;cases hA2;exact ⟨rfl,rfl⟩
 have q5:∀ w,Own ((⟨b, #[.slice A l.length cap,.slice C ws.length cc],290⟩::g).map Blk.b) W w []->(loadVar 312 ⟨eb,eo+a*5+0,none⟩).run YP w= .ok (ndV na) w:=λw hO=>hela w (hO.belowB hM' hBW) _ 0 _ (by rw [ea];kernel_rfl)
 refine y6 hO Tryz.func279 (zH 11 [0] hA l.length cap r 5 hr2 (zG 12 [] 312 eb (eo+r*5+0) (ndV ⟨2,(a:Int),0,0,[]⟩) (λw hO=>q w hO.no) (zB [] λb4=> ?_)))
 refine x5 9 [0,0] [⟨b4, #[YI 2,YI (a:Int),YI 0,YI 0,.string (mkS [])],312⟩,⟨b, #[.slice A l.length cap,.slice C ws.length cc],290⟩] (λw hO=>(hO.past 0 (⟨b4, #[YI 2,YI (a:Int),YI 0,YI 0,.string (mkS [])],312⟩::⟨b, #[.slice A l.length cap,.slice C ws.length cc],290⟩::g)).sublist (by simp)) (fO 50028 [1,0] 6 hA l.length cap a 5 ha2 (fN 50029 [] 7 312 eb (eo+a*5+0) (ndV na) (λw hO=>q5 w hO.no) (zY [] 8 (n5 λb5=> ?_))))
 refine zA 32 [0,0] (na.op=1) (λh=>absurd h hx1) (λ_=>kD [2] 1 9 #[.string (mkS qV)] λb1=>qJ (m:=1) (cp:=1) [] [⟨b1, #[.string (mkS qV)],9⟩,⟨b5,(ndV na).cells,312⟩,⟨b4, #[YI 2,YI (a:Int),YI 0,YI 0,.string (mkS [])],312⟩,⟨b, #[.slice A l.length cap,.slice C ws.length cc],290⟩] g [] 0 (⟨b1, #[.string (mkS qV)],9⟩::⟨b5,(ndV na).cells,312⟩::⟨b4, #[YI 2,YI (a:Int),YI 0,YI 0,.string (mkS [])],312⟩::⟨b, #[.slice A l.length cap,.slice C ws.length cc],290⟩::g) (λw hO=>hO.cast (by simp)) hsl (by (try simp only [List.length_append,List.length_cons,List.length_nil] at hn ⊢);omega) λv1 o1 h1=> ?_)
 obtain ⟨C1,c1,rfl⟩:=h1.form
 have e1:(ws++[qV]).length=ws.length+1:=List.length_append ..
 have hs1:SlT (.slice C1 (ws++[qV]).length c1) (ws++[qV]) o1:=by rw [e1];exact SlT.adds (xs:=[qV]) h1
 rw [←e1]
 refine kG (k:=313) (args:= #[Zp b 0,YI (a:Int),YI 2]) (Rr:=λv ob'=>v= .tuple #[]/\Wr b A l.length cap ((ws++[qV])++X) ob') [3,2,2] (⟨b1, #[.string (mkS qV)],9⟩::⟨b5,(ndV na).cells,312⟩::⟨b4, #[YI 2,YI (a:Int),YI 0,YI 0,.string (mkS [])],312⟩::⟨b, #[.slice A l.length cap,.slice C1 (ws++[qV]).length c1],290⟩::(o1++[])) [⟨b1, #[.string (mkS qV)],9⟩,⟨b5,(ndV na).cells,312⟩,⟨b4, #[YI 2,YI (a:Int),YI 0,YI 0,.string (mkS [])],312⟩] (⟨b, #[.slice A l.length cap,.slice C1 (ws++[qV]).length c1],290⟩::o1) (λw hO=>hO.cast (by simp)) (λw hO=>(ha' _ _ _ _ _ (hL.at (R:=[⟨b1, #[.string (mkS qV)],9⟩,⟨b5,(ndV na).cells,312⟩,⟨b4, #[YI 2,YI (a:Int),YI 0,YI 0,.string (mkS [])],312⟩]) ⟨C1,c1,o1,rfl,hs1⟩ (hO.perm (List.perm_append_comm (l₁:=[⟨b1, #[.string (mkS qV)],9⟩,⟨b5,(ndV na).cells,312⟩,⟨b4, #[YI 2,YI (a:Int),YI 0,YI 0,.string (mkS [])],312⟩]) (l₂:=⟨b, #[.slice A l.length cap,.slice C1 (ws++[qV]).length c1],290⟩::o1)))) (by (try simp only [List.length_append,List.length_cons,List.length_nil] at hn ⊢);omega)).mono λe w' ⟨ob',k1,k2⟩=>⟨_,ob',k1,⟨rfl,k2.rd⟩,k2.own⟩) λv2 ob2 hv2=> ?_
 obtain ⟨rfl,C2,c2,g2,rfl,hs2⟩:=hv2
 exact kM [] λw hO=>⟨_,rfl,⟨C2,c2,g2,rfl,hs2⟩,hO.past 3 (⟨b, #[.slice A l.length cap,.slice C2 ((ws++[qV])++X).length c2],290⟩::g2)⟩
theorem nd_both {A:Option Addr}{cap:Nat}{l:List Nd}(hl9:l.length<=1000){r a b0:Nat}{X Y:List Tok}(hr:l[r]?=some ⟨3,(a:Int),(b0:Int),0,[]⟩)(ha':OperW A cap l a 3 X)(hb':OperW A cap l b0 (3-1) Y):m8 A cap l r (X++bQ::Y):=by
 intro B b ws ob W hL hn
 have hM':=qC hL.ge
 have hBW:=hL.le
 have hv:=hL.nodes
 have hO:=hL.own
 obtain ⟨hr2,er⟩:=v7 hr
 obtain ⟨eb,eo,hA,helr⟩:=hv.elem qQ r hr2
 obtain ⟨C,cc,g,rfl,hsl⟩:=hL.rd
 have q:∀ w,Own ((⟨b, #[.slice A l.length cap,.slice C ws.length cc],290⟩::g).map Blk.b) W w []->(loadVar 312 ⟨eb,eo+r*5+0,none⟩).run YP w= .ok (ndV ⟨3,(a:Int),(b0:Int),0,[]⟩) w:=λw hO=>helr w (hO.belowB hM' hBW) _ 0 _ (by rw [er];kernel_rfl)
 refine y6 hO Tryz.func279 (zH 11 [0] hA l.length cap r 5 hr2 (zG 12 [] 312 eb (eo+r*5+0) (ndV ⟨3,(a:Int),(b0:Int),0,[]⟩) (λw hO=>q w hO.no) (zB [] λb4=> ?_)))
 refine kG (k:=314) (args:= #[Zp b 0,ndV ⟨3,(a:Int),(b0:Int),0,[]⟩,.string (mkS bQ)]) (Rr:=λv ob'=>v= .tuple #[]/\Wr b A l.length cap (ws++(X++bQ::Y)) ob') [0,0,0] (⟨b4, #[YI 3,YI (a:Int),YI (b0:Int),YI 0,.string (mkS [])],312⟩::⟨b, #[.slice A l.length cap,.slice C ws.length cc],290⟩::g) [⟨b4, #[YI 3,YI (a:Int),YI (b0:Int),YI 0,.string (mkS [])],312⟩] (⟨b, #[.slice A l.length cap,.slice C ws.length cc],290⟩::g) (λw hO=>hO.cast (by simp)) (λw hO=>(wpair_any (hL.at (R:=[⟨b4, #[YI 3,YI (a:Int),YI (b0:Int),YI 0,.string (mkS [])],312⟩]) ⟨C,cc,g,rfl,hsl⟩ (hO.perm (List.perm_append_comm (l₁:=[⟨b4, #[YI 3,YI (a:Int),YI (b0:Int),YI 0,.string (mkS [])],312⟩]) (l₂:=⟨b, #[.slice A l.length cap,.slice C ws.length cc],290⟩::g)))) ha' hb' (by decide) (by decide) bQ (by (try simp only [List.length_append,List.length_cons,List.length_nil] at hn ⊢);omega)).mono λe w' ⟨ob',k1,k2⟩=>⟨_,ob',k1,⟨rfl,k2.rd⟩,k2.own⟩) λv1 ob1 hv1=> ?_
 obtain ⟨rfl,C1,c1,g1,rfl,hs1⟩:=hv1
 exact kM [] λw hO=>⟨_,rfl,⟨C1,c1,g1,rfl,hs1⟩,hO.past 1 (⟨b, #[.slice A l.length cap,.slice C1 (ws++(X++bQ::Y)).length c1],290⟩::g1)⟩
theorem nd_one {A:Option Addr}{cap:Nat}{l:List Nd}(hl9:l.length<=1000){r a b0:Nat}{X Y:List Tok}(hr:l[r]?=some ⟨4,(a:Int),(b0:Int),0,[]⟩)(ha':OperW A cap l a 4 X)(hb':OperW A cap l b0 (4-1) Y):m8 A cap l r (X++tOr::Y):=by
 intro B b ws ob W hL hn
 have hM':=qC hL.ge
 have hBW:=hL.le
 have hv:=hL.nodes
 have hO:=hL.own
 obtain ⟨hr2,er⟩:=v7 hr
 obtain ⟨eb,eo,hA,helr⟩:=hv.elem qQ r hr2
 obtain ⟨C,cc,g,rfl,hsl⟩:=hL.rd
 have q:∀ w,Own ((⟨b, #[.slice A l.length cap,.slice C ws.length cc],290⟩::g).map Blk.b) W w []->(loadVar 312 ⟨eb,eo+r*5+0,none⟩).run YP w= .ok (ndV ⟨4,(a:Int),(b0:Int),0,[]⟩) w:=λw hO=>helr w (hO.belowB hM' hBW) _ 0 _ (by rw [er];kernel_rfl)
 refine y6 hO Tryz.func279 (zH 11 [0] hA l.length cap r 5 hr2 (zG 12 [] 312 eb (eo+r*5+0) (ndV ⟨4,(a:Int),(b0:Int),0,[]⟩) (λw hO=>q w hO.no) (zB [] λb4=> ?_)))
 refine kG (k:=314) (args:= #[Zp b 0,ndV ⟨4,(a:Int),(b0:Int),0,[]⟩,.string (mkS tOr)]) (Rr:=λv ob'=>v= .tuple #[]/\Wr b A l.length cap (ws++(X++tOr::Y)) ob') [0,0,0] (⟨b4, #[YI 4,YI (a:Int),YI (b0:Int),YI 0,.string (mkS [])],312⟩::⟨b, #[.slice A l.length cap,.slice C ws.length cc],290⟩::g) [⟨b4, #[YI 4,YI (a:Int),YI (b0:Int),YI 0,.string (mkS [])],312⟩] (⟨b, #[.slice A l.length cap,.slice C ws.length cc],290⟩::g) (λw hO=>hO.cast (by simp)) (λw hO=>(wpair_any (hL.at (R:=[⟨b4, #[YI 4,YI (a:Int),YI (b0:Int),YI 0,.string (mkS [])],312⟩]) ⟨C,cc,g,rfl,hsl⟩ (hO.perm (List.perm_append_comm (l₁:=[⟨b4, #[YI 4,YI (a:Int),YI (b0:Int),YI 0,.string (mkS [])],312⟩]) (l₂:=⟨b, #[.slice A l.length cap,.slice C ws.length cc],290⟩::g)))) ha' hb' (by decide) (by decide) tOr (by (try simp only [List.length_append,List.length_cons,List.length_nil] at hn ⊢);omega)).mono λe w' ⟨ob',k1,k2⟩=>⟨_,ob',k1,⟨rfl,k2.rd⟩,k2.own⟩) λv1 ob1 hv1=> ?_
 obtain ⟨rfl,C1,c1,g1,rfl,hs1⟩:=hv1
 exact kM [] λw hO=>⟨_,rfl,⟨C1,c1,g1,rfl,hs1⟩,hO.past 1 (⟨b, #[.slice A l.length cap,.slice C1 (ws++(X++tOr::Y)).length c1],290⟩::g1)⟩
end
section
set_option linter.unnecessarySimpa false
theorem mC:∀ t:Tr,t.tok.length+2<=6*t.sz
 | .is k v=>by rw [Tr.tok];show 5<=6;omega
 | .no (.is k v)=>by rw [Tr.tok];show 5<=12;omega
 | .no (.no x)=>by have:=mC (.no x);rw [Tr.tok];simp only [List.length_cons];show _<=6*((Tr.no x).sz+1);omega
 | .no (.both x y)=>by have:=mC (.both x y);rw [Tr.tok];unfold qK;simp only [if_true,List.length_cons,List.length_append,List.length_nil];show _<=6*((Tr.both x y).sz+1);omega
 | .no (.one x y)=>by have:=mC (.one x y);rw [Tr.tok];unfold qK;simp only [if_true,List.length_cons,List.length_append,List.length_nil];show _<=6*((Tr.one x y).sz+1);omega
 | .both x y=>by
  have h1:=mC x;have h2:=mC y
  have w1:∀ (c:Bool) (l:List Tok),(qK c l).length<=l.length+2:=λc l=>by unfold qK;cases c<;>simp
  have:=w1 x.isOne x.tok;have:=w1 y.isBin y.tok
  rw [Tr.tok,List.length_append,List.length_cons];show _<=6*(x.sz+y.sz+1);omega
 | .one x y=>by
  have h1:=mC x;have h2:=mC y
  have w1:∀ (c:Bool) (l:List Tok),(qK c l).length<=l.length+2:=λc l=>by unfold qK;cases c<;>simp
  have:=w1 y.isOne y.tok
  rw [Tr.tok,List.length_append,List.length_cons];show _<=6*(x.sz+y.sz+1);omega
theorem opw {A:Option Addr}{cap:Nat}{l:List Nd}(hl9:l.length<=1000){t:Tr}{a:Nat}{na:Nd}{z:Int}{c:Bool}(hna:l[a]?=some na)(hop:na.op=t.opc)(h:m8 A cap l a t.tok)(hc:c=decide (z<t.opc)):OperW A cap l a z (qK c t.tok):=by
 by_cases hz:na.op<=z
 ·have:c=false:=by rw [hc];exact decide_eq_false Om
  rw [this];exact opn_in hl9 hna hz h
 ·have:c=true:=by rw [hc];exact decide_eq_true Om
  rw [this];exact opn_out hl9 hna hz h
theorem opc_bin (t:Tr):t.isBin=decide (2<t.opc):=by cases t<;>rfl
theorem opc_one (t:Tr):t.isOne=decide (3<t.opc):=by cases t<;>rfl
theorem opc_not (t:Tr):false=decide (4<t.opc):=by cases t<;>rfl
theorem d4 {A:Option Addr}{cap:Nat}{l:List Nd}(hl9:l.length<=1000):∀ (t:Tr) (o:Nat),t.ok=true->wW l o t->m8 A cap l (o+t.sz-1) t.tok
 | .is k v,o,h,hs=>by
  unfold Tr.ok at h
  simp only [Bool.and_eq_true,decide_eq_true_eq] at h
  exact nd_is hl9 h.1 (hs 0 _ rfl)
 | .no x,o,h,hs=>by
  have hx:x.ok=true:=h
  have hxz:=x.sz_pos
  have hs1:wW l o x:=gT hs
  have hr:=kX (k:=x.sz) (Tr.enc_len x o) hs 0 _ rfl
  have ih:=d4 (A:=A) (cap:=cap) hl9 x o hx hs1
  obtain ⟨na,hna,hop⟩:=gS hs1
  rw [Nat.add_zero] at hr
  have goal:m8 A cap l (o+x.sz) (Tr.no x).tok:=by
   by_cases hi:∃ k v,x= .is k v
   ·obtain ⟨k,v,rfl⟩:=hi
    unfold Tr.ok at hx
    simp only [Bool.and_eq_true,decide_eq_true_eq] at hx
    exact nd_no_is hl9 hx.1 hr (hs1 0 _ rfl)
   ·rw [Tr.tok_no (λk v q=>hi ⟨k,v,q⟩)]
    refine nd_no hl9 hr hna ?_ (opw hl9 hna hop ih (opc_bin x))
    rw [hop];cases x<;>first|exact absurd ⟨_,_,rfl⟩ hi|(intro q;cases q)
  show m8 A cap l (o+(x.sz+1) -1) _
  rw [show o+(x.sz+1) -1=o+x.sz by omega];exact goal
 | .both x y,o,h,hs=>by
  unfold Tr.ok at h
  rw [Bool.and_eq_true] at h
  have hs0:∀ i u,(x.enc o++y.enc (o+x.sz))[i]?=some u->l[o+i]?=some u:=gT hs
  have hs1:wW l o x:=gT hs0
  have hs2:wW l (o+x.sz) y:=kX (Tr.enc_len x o) hs0
  have hr:=kX (k:=x.sz+y.sz) (by rw [List.length_append,Tr.enc_len,Tr.enc_len]) hs 0 _ rfl
  obtain ⟨na,hna,hop⟩:=gS hs1
  obtain ⟨nb,hnb,hopb⟩:=gS hs2
  have goal:m8 A cap l (o+(x.sz+y.sz)+0) (Tr.both x y).tok:=by
   rw [Tr.tok]
   exact nd_both hl9 hr (opw hl9 hna hop (d4 hl9 x o h.1 hs1) (opc_one x)) (opw hl9 hnb hopb (d4 hl9 y (o+x.sz) h.2 hs2) (opc_bin y))
  show m8 A cap l (o+(x.sz+y.sz+1) -1) _
  rw [show o+(x.sz+y.sz+1) -1=o+(x.sz+y.sz)+0 by omega];exact goal
 | .one x y,o,h,hs=>by
  unfold Tr.ok at h
  rw [Bool.and_eq_true] at h
  have hs0:∀ i u,(x.enc o++y.enc (o+x.sz))[i]?=some u->l[o+i]?=some u:=gT hs
  have hs1:wW l o x:=gT hs0
  have hs2:wW l (o+x.sz) y:=kX (Tr.enc_len x o) hs0
  have hr:=kX (k:=x.sz+y.sz) (by rw [List.length_append,Tr.enc_len,Tr.enc_len]) hs 0 _ rfl
  obtain ⟨na,hna,hop⟩:=gS hs1
  obtain ⟨nb,hnb,hopb⟩:=gS hs2
  have goal:m8 A cap l (o+(x.sz+y.sz)+0) (Tr.one x y).tok:=by
   rw [Tr.tok]
   exact nd_one hl9 hr (opw hl9 hna hop (d4 hl9 x o h.1 hs1) (opc_not x)) (opw hl9 hnb hopb (d4 hl9 y (o+x.sz) h.2 hs2) (opc_one y))
  show m8 A cap l (o+(x.sz+y.sz+1) -1) _
  rw [show o+(x.sz+y.sz+1) -1=o+(x.sz+y.sz)+0 by omega];exact goal
theorem m10Print_any (A:Option Addr)(cap:Nat)(l:List Nd)(W:World)(hv:Reads nC W W.heap.size A l)(hn:l.length<=1000)(ht:∀ n∈l,n.text.length<=1000000)(hK:MkLib W):YC 234 #[.agg #[.slice A l.length cap]] W (YR (.string (mkS (qO l))) W):=by
 refine z8 Tryz.func234 (zQ [] λb1=>zA 8 [0] ((l.length:Int)=0) (λh1=>z7 [] (.string (mkS [])) λw hO=>⟨by rw [List.eq_nil_of_length_eq_zero (by omega:l.length=0)];rfl,hO.below⟩) (λh1=> ?_))
 have hne:l≠[]:=λq=>h1 (by rw [q];rfl)
 refine z6 (k:=278) (args:= #[.slice A l.length cap]) (v:= .bool (wR l)) [0] (λw hO=>tree10_any A cap l w (hv.on hO.below hO.size) hne hn ht) ?_
 cases h2:wR l with
 |false=>exact z7 [] (.string (mkS [])) λw hO=>⟨by rw [print_no h2],hO.below⟩
 |true=>
  obtain ⟨t,hok,hl,hsz⟩:=treeOk_yes h2
  have hlen:l.length=t.sz:=by rw [hl,Tr.enc_len]
  have hpos:=t.sz_pos
  have hst:wW l 0 t:=hl▸stands_self t
  have htl:=mC t
  have htx:=bX hok Om
  have hjl:(zF 32 t.tok).length<=100000:=htx
  have hnl:((0+t.sz-1:Nat):Int)=(l.length:Int) -1:=by omega
  refine zB [0] λb2=>x_i 21 [0,1] ((l.length:Int) -1) (kG (k:=279) (args:= #[Zp b2 0,YI ((l.length:Int) -1)]) (Rr:=λv' ob'=>v'= .tuple #[]/\Wr b2 A l.length cap t.tok ob') [] [⟨b2, #[.slice A l.length cap,.slice none 0 0],290⟩,⟨b1, #[.slice A l.length cap],254⟩] [⟨b1, #[.slice A l.length cap],254⟩] [⟨b2, #[.slice A l.length cap,.slice none 0 0],290⟩] (λw hO=>hO.perm (List.Perm.swap (⟨b1, #[.slice A l.length cap],254⟩:Blk) (⟨b2, #[.slice A l.length cap,.slice none 0 0],290⟩:Blk) [])) (λw hO=> ?_) ?_)
  ·have hO':Own [] W w ([⟨b2, #[.slice A l.length cap,.slice none 0 0],290⟩]++[⟨b1, #[.slice A l.length cap],254⟩]):=hO.perm List.perm_append_comm
   rw [←hnl]
   exact (d4 hn t 0 hok hst W.heap.size b2 [] [⟨b2, #[.slice A l.length cap,.slice none 0 0],290⟩] w ⟨⟨none,0,[],rfl,Sl.nil _ _⟩,Own.lent hO',λx hx=>(hO'.base x (List.mem_append_left _ hx)).elim id (λq=>absurd q (by simp)),hO'.size,hv.on hO'.below (Nat.le_refl _),MkAt.on hK hO'.below (Nat.le_refl _)⟩ (by simp;omega)).mono λe w' ⟨ob',k1,k2⟩=>⟨_,ob',k1,⟨rfl,k2.rd⟩,k2.own⟩
  rintro v3 ob3 ⟨rfl,C3,cc3,g3,rfl,hsl3⟩
  exact z6 (k:=147) (args:= #[.slice C3 t.tok.length cc3,.int .u8 32]) (v:= .string (mkS t.text)) [1] (λw hO=>bO _ t.tok 32 w (SlT.readsT hsl3 (hO.past 2 g3) (λx hx=>hx)) Om Om (text10_ne t)) (zA 28 [] ((96:Int)<(t.text.length:Int)) (λh3=>z7 [] (.string (mkS [])) λw hO=>⟨by rw [hl,print_long hok Om],hO.below⟩) (λh3=>z7 [] (.string (mkS t.text)) λw hO=>⟨by rw [hl,print_yes hok hsz Om],hO.below⟩))
theorem m10May_any (A:Option Addr)(cap:Nat)(l:List Nd)(W:World)(hv:Reads nC W W.heap.size A l)(hn:l.length<=1000)(ht:∀ n∈l,n.text.length<=1000000)(hK:MkLib W):YC 277 #[.agg #[.slice A l.length cap]] W (YR (.bool (dQ l)) W):=by
 refine z8 Tryz.func277 (zQ [] λb1=>zA 6 [0] ((l.length:Int)=0) (λh1=>z7 [] Z4 λw hO=>⟨by rw [List.eq_nil_of_length_eq_zero (by omega:l.length=0)];rfl,hO.below⟩) (λh1=> ?_))
 have hne:¬ l=[]:=λq=>h1 (by rw [q];rfl)
 exact z6 (k:=234) (args:= #[.agg #[.slice A l.length cap]]) (v:= .string (mkS (qO l))) [0] (λw hO=>m10Print_any A cap l w (hv.on hO.below hO.size) hn ht (hK.on hO.below)) (gR 10 [] (qO l) [] (λh2=>z7 [] Z5 λw hO=>⟨by rw [may_print hne,decide_eq_true h2];rfl,hO.below⟩) (λh2=>z7 [] Z4 λw hO=>⟨by rw [may_print hne,decide_eq_false h2];rfl,hO.below⟩))
end
section
set_option linter.unnecessarySimpa false
def padV (xs:List Int)(n:Nat):List Int:=xs++List.replicate (n-xs.length) 0
end
section
set_option linter.unnecessarySimpa false
def ReadsA {α:Type}(M:List Nat)(g:α->List Value)(W:World)(A:Option Addr)(l:List α):Prop:=
 0<l.length→∃ b off,A=some ⟨b,off,none⟩/\b<W.heap.size/\b∉M∧∀ k u,(l.flatMap g)[k]?=some u->W.cell? ⟨b,off+k,none⟩=some u
structure LentN (b:Nat)(A V:Option Addr)(l:List Nd)(vs:List Int)(nd:List Nd)(ob:List Blk)(W:World):Prop where
 rd:Nb b nd ob
 own:Own (ob.map Blk.b) W W ob
 nodes:ReadsA (ob.map Blk.b) nC W A l
 vals:ReadsA (ob.map Blk.b) zC W V vs
structure BackN (b:Nat)(nd:List Nd)(ob ob':List Blk)(W w':World):Prop where
 rd:Nb b nd ob'
 own:Own (ob.map Blk.b) W w' ob'
end
section
set_option linter.unnecessarySimpa false
theorem rnotL {B b:Nat}{ts:List Tok}{nd:List Nd}{bad:Bool}{ob:List Blk}{W:World}(hL:LentL B b ts nd bad ob W):YC 370 #[.pointer (some ⟨b,0,none⟩)] W λe w'=>∃ ob',e= .returned (.tuple #[])/\BackL B b ts (nd++[⟨2,(nd.length:Int) -1,0,0,[]⟩]) bad ob ob' W w':=by
 obtain ⟨A,cap,hw,hcap,hb⟩:=hL.rd
 exact (rnot10_any hb hL.own (by have:=hL.small;omega)).mono λe w' ⟨ob',k1,k2,k3⟩=>⟨ob',k1,⟨A,cap,hw,hcap,k2⟩,k3,hL.short,texts_add hL.texts (by simp)⟩
theorem rjoinL {B b:Nat}{ts:List Tok}{nd:List Nd}{bad:Bool}{ob:List Blk}{W:World}(hL:LentL B b ts nd bad ob W)(op a:Int):YC 350 #[.pointer (some ⟨b,0,none⟩),YI op,YI a] W λe w'=>∃ ob',e= .returned (.tuple #[])/\BackL B b ts (nd++[⟨op,a,(nd.length:Int) -1,0,[]⟩]) bad ob ob' W w':=by
 obtain ⟨A,cap,hw,hcap,hb⟩:=hL.rd
 exact (rjoin10_any hb hL.own (by have:=hL.small;omega) op a).mono λe w' ⟨ob',k1,k2,k3⟩=>⟨ob',k1,⟨A,cap,hw,hcap,k2⟩,k3,hL.short,texts_add hL.texts (by simp)⟩
structure ChainL (n:Nat)(word:Tok)(op:Int)(k:FuncId)(part:List Tok->Option (Tr×List Tok)):Prop where
 go:∀ {B b:Nat} {ts:List Tok} {nd:List Nd} {bad:Bool} {ob:List Blk} {W:World},LentL B b ts nd bad ob W->ts.length<=n→
  YC 310 #[.pointer (some ⟨b,0,none⟩),.string (mkS word),YI op,.func (.func k) #[] #[]] W λe w'=>∃ ts' nd' bad' ob',e= .returned (.tuple #[])/\BackL B b ts' nd' bad' ob ob' W w'/\GotL part ts nd bad ts' nd' bad'
theorem x_rdL {k:FuncId}{args:Array Value}{Rv:Value->List Tok->List Nd->Bool->Prop}{B b:Nat}{ts tq:List Tok}{nd nq:List Nd}{bad bq:Bool}{ob oq:List Blk}{W:World}{Q:Exit->Act->World->Prop}{n:Nat}{c:Xc}(hL:LentL B b ts nd bad ob W)(h:List Nat)(hR:Rdr W B b tq nq bq oq)(hX:((∀ y∈tq,y.length<=1000000)∧∀ u∈nq,u.text.length<=1000000))(hs:nq.length+tq.length<=10000)
  (hc:∀ w,LentL B b tq nq bq oq w->Calls YP k args w λe w'=>∃ v ts' nd' bad' ob',e= .returned v/\Rv v ts' nd' bad'/\BackL B b ts' nd' bad' oq ob' w w')
  (hg:∀ v ts' nd' bad' ob',Rv v ts' nd' bad'->Rdr W B b ts' nd' bad' ob'->((∀ y∈ts',y.length<=1000000)∧∀ u∈nd',u.text.length<=1000000)->zE (ob.map Blk.b) YP n W Q (xNx (xgo YP n nS h c) ob' v)) (hkt:(xgl YP n nS h c,(xgo YP n nS h c).L,(xgo YP n nS h c).top,y5 (xA (xgo YP n nS h c)) n (xgo YP n nS h c).f (xO (xgo YP n nS h c)),mO YP n (xgo YP n nS h c))=(xgr YP n nS h c,oq,.ops (xA (xgo YP n nS h c)) (xO (xgo YP n nS h c)::xT (xgo YP n nS h c)),true,λw=> .ok (.enter k args) w):=by kernel_rfl):zE (ob.map Blk.b) YP n W Q c:=
 kG (Rr:=λv ob'=>∃ ts' nd' bad',Rv v ts' nd' bad'/\Rdr W B b ts' nd' bad' ob'/\((∀ y∈ts',y.length<=1000000)∧∀ u∈nd',u.text.length<=1000000)) h oq [] oq (λw hO=>hO) (λw hO=>have hO':Own _ W w (oq++[]):=Own.cast hO (List.append_nil _).symm;(hc w (hL.at hR hX hs hO')).mono λe w' ⟨v,ts',nd',bad',ob',k1,k2,k3⟩=>⟨v,ob',k1,⟨ts',nd',bad',k2,k3.rd.back (hO'.belowB (qC hL.ge) hL.le),k3.short,k3.texts⟩,k3.own⟩) (λv ob' ⟨ts',nd',bad',k2,k3,k4⟩=>hg v ts' nd' bad' ob' k2 k3 k4) hkt
theorem p8 {k:FuncId}{m:Nat}{part:List Tok->Option (Tr×List Tok)}(hp:p7 k m part){B b:Nat}{ts tq:List Tok}{nd nq:List Nd}{bad bq:Bool}{ob oq:List Blk}{W:World}{Q:Exit->Act->World->Prop}{n:Nat}{c:Xc}(hL:LentL B b ts nd bad ob W)(h:List Nat)(hR:Rdr W B b tq nq bq oq)(hX:((∀ y∈tq,y.length<=1000000)∧∀ u∈nq,u.text.length<=1000000))(hs:nq.length+tq.length<=10000)(hm:tq.length<=m)
  (hg:∀ ts' nd' bad' ob',Rdr W B b ts' nd' bad' ob'->((∀ y∈ts',y.length<=1000000)∧∀ u∈nd',u.text.length<=1000000)->GotL part tq nq bq ts' nd' bad'->zE (ob.map Blk.b) YP n W Q (xNx (xgo YP n nS h c) ob' (.tuple #[]))) (hkt:(xgl YP n nS h c,(xgo YP n nS h c).L,(xgo YP n nS h c).top,y5 (xA (xgo YP n nS h c)) n (xgo YP n nS h c).f (xO (xgo YP n nS h c)),mO YP n (xgo YP n nS h c))=(xgr YP n nS h c,oq,.ops (xA (xgo YP n nS h c)) (xO (xgo YP n nS h c)::xT (xgo YP n nS h c)),true,λw=> .ok (.enter k #[.pointer (some ⟨b,0,none⟩)]) w):=by kernel_rfl):zE (ob.map Blk.b) YP n W Q c:=
 x_rdL (Rv:=λv ts' nd' bad'=>v= .tuple #[]/\GotL part tq nq bq ts' nd' bad') hL h hR hX hs (λw hl=>(hp.go hl hm).mono λe w' ⟨ts',nd',bad',ob',k1,k2,k3⟩=>⟨_,ts',nd',bad',ob',k1,⟨rfl,k3⟩,k2⟩) (λv ts' nd' bad' ob' ⟨e,k3⟩ k2 k4=>by subst e;exact hg ts' nd' bad' ob' k2 k4 k3) hkt
theorem x_skipL {B b:Nat}{ts tq:List Tok}{nd nq:List Nd}{bad bq:Bool}{ob oq:List Blk}{W:World}{Q:Exit->Act->World->Prop}{n:Nat}{c:Xc}(hL:LentL B b ts nd bad ob W)(h:List Nat)(x:Tok)(hR:Rdr W B b tq nq bq oq)(hX:((∀ y∈tq,y.length<=1000000)∧∀ u∈nq,u.text.length<=1000000))(hs:nq.length+tq.length<=10000)
  (hg:∀ ob',Rdr W B b (wA x tq) nq bq ob'->((∀ y∈(wA x tq),y.length<=1000000)∧∀ u∈nq,u.text.length<=1000000)->zE (ob.map Blk.b) YP n W Q (xNx (xgo YP n nS h c) ob' (.bool (kP x tq)))) (hkt:(xgl YP n nS h c,(xgo YP n nS h c).L,(xgo YP n nS h c).top,y5 (xA (xgo YP n nS h c)) n (xgo YP n nS h c).f (xO (xgo YP n nS h c)),mO YP n (xgo YP n nS h c))=(xgr YP n nS h c,oq,.ops (xA (xgo YP n nS h c)) (xO (xgo YP n nS h c)::xT (xgo YP n nS h c)),true,λw=> .ok (.enter 348 #[.pointer (some ⟨b,0,none⟩),.string (mkS x)]) w):=by kernel_rfl):zE (ob.map Blk.b) YP n W Q c:=
 x_rdL (Rv:=λv ts' nd' bad'=>v= .bool (kP x tq)/\ts'=wA x tq/\nd'=nq/\bad'=bq) hL h hR hX hs (λw hl=>(skip10_any hl x).mono λe w' ⟨ob',k1,k2⟩=>⟨_,_,_,_,ob',k1,⟨rfl,rfl,rfl,rfl⟩,k2⟩) (λv ts' nd' bad' ob' ⟨e1,e2,e3,e4⟩ k2 k4=>by subst e1;subst e2;subst e3;subst e4;exact hg ob' k2 k4) hkt
theorem x_notL {B b:Nat}{ts tq:List Tok}{nd nq:List Nd}{bad bq:Bool}{ob oq:List Blk}{W:World}{Q:Exit->Act->World->Prop}{n:Nat}{c:Xc}(hL:LentL B b ts nd bad ob W)(h:List Nat)(hR:Rdr W B b tq nq bq oq)(hX:((∀ y∈tq,y.length<=1000000)∧∀ u∈nq,u.text.length<=1000000))(hs:nq.length+tq.length<=10000)
  (hg:∀ ob',Rdr W B b tq (nq++[⟨2,(nq.length:Int) -1,0,0,[]⟩]) bq ob'->((∀ y∈tq,y.length<=1000000)∧∀ u∈(nq++[⟨2,(nq.length:Int) -1,0,0,[]⟩]),u.text.length<=1000000)->zE (ob.map Blk.b) YP n W Q (xNx (xgo YP n nS h c) ob' (.tuple #[]))) (hkt:(xgl YP n nS h c,(xgo YP n nS h c).L,(xgo YP n nS h c).top,y5 (xA (xgo YP n nS h c)) n (xgo YP n nS h c).f (xO (xgo YP n nS h c)),mO YP n (xgo YP n nS h c))=(xgr YP n nS h c,oq,.ops (xA (xgo YP n nS h c)) (xO (xgo YP n nS h c)::xT (xgo YP n nS h c)),true,λw=> .ok (.enter 370 #[.pointer (some ⟨b,0,none⟩)]) w):=by kernel_rfl):zE (ob.map Blk.b) YP n W Q c:=
 x_rdL (Rv:=λv ts' nd' bad'=>v= .tuple #[]/\ts'=tq/\nd'=nq++[⟨2,(nq.length:Int) -1,0,0,[]⟩]/\bad'=bq) hL h hR hX hs (λw hl=>(rnotL hl).mono λe w' ⟨ob',k1,k2⟩=>⟨_,_,_,_,ob',k1,⟨rfl,rfl,rfl,rfl⟩,k2⟩) (λv ts' nd' bad' ob' ⟨e1,e2,e3,e4⟩ k2 k4=>by subst e1;subst e2;subst e3;subst e4;exact hg ob' k2 k4) hkt
theorem x_jnL {B b:Nat}{ts tq:List Tok}{nd nq:List Nd}{bad bq:Bool}{ob oq:List Blk}{W:World}{Q:Exit->Act->World->Prop}{n:Nat}{c:Xc}(hL:LentL B b ts nd bad ob W)(h:List Nat)(op a:Int)(hR:Rdr W B b tq nq bq oq)(hX:((∀ y∈tq,y.length<=1000000)∧∀ u∈nq,u.text.length<=1000000))(hs:nq.length+tq.length<=10000)
  (hg:∀ ob',Rdr W B b tq (nq++[⟨op,a,(nq.length:Int) -1,0,[]⟩]) bq ob'->((∀ y∈tq,y.length<=1000000)∧∀ u∈(nq++[⟨op,a,(nq.length:Int) -1,0,[]⟩]),u.text.length<=1000000)->zE (ob.map Blk.b) YP n W Q (xNx (xgo YP n nS h c) ob' (.tuple #[]))) (hkt:(xgl YP n nS h c,(xgo YP n nS h c).L,(xgo YP n nS h c).top,y5 (xA (xgo YP n nS h c)) n (xgo YP n nS h c).f (xO (xgo YP n nS h c)),mO YP n (xgo YP n nS h c))=(xgr YP n nS h c,oq,.ops (xA (xgo YP n nS h c)) (xO (xgo YP n nS h c)::xT (xgo YP n nS h c)),true,λw=> .ok (.enter 350 #[.pointer (some ⟨b,0,none⟩),YI op,YI a]) w):=by kernel_rfl):zE (ob.map Blk.b) YP n W Q c:=
 x_rdL (Rv:=λv ts' nd' bad'=>v= .tuple #[]/\ts'=tq/\nd'=nq++[⟨op,a,(nq.length:Int) -1,0,[]⟩]/\bad'=bq) hL h hR hX hs (λw hl=>(rjoinL hl op a).mono λe w' ⟨ob',k1,k2⟩=>⟨_,_,_,_,ob',k1,⟨rfl,rfl,rfl,rfl⟩,k2⟩) (λv ts' nd' bad' ob' ⟨e1,e2,e3,e4⟩ k2 k4=>by subst e1;subst e2;subst e3;subst e4;exact hg ob' k2 k4) hkt
theorem chain_tAnd (n:Nat)(hp:p7 351 n (v6 n)):ChainL n bQ 3 351 (pAnd n):=by
 refine ⟨λ{B b ts nd bad ob W} hL hln=> ?_⟩
 have hsm:=hL.small
 refine y6 hL.own Tryz.func310 (p8 hp hL [] hL.rd ⟨hL.short,hL.texts⟩ hsm hln λts1 nd1 bd1 ob1 hR1 hX1 hG1=> ?_)
 refine zL (α:=List Tok×List Nd×Bool×List Blk) (λ_=>[(0,Zp b 0),(1,.string (mkS bQ)),(2,YI 3),(3,.func (.func 351) #[] #[])]) (λ(_,_,_,oq)=>oq) (λ(tq,nq,bq,oq) m=>(ChL (v6 n) bQ .both ts nd bad tq nq bq/\Rdr W B b tq nq bq oq/\((∀ y∈tq,y.length<=1000000)∧∀ u∈nq,u.text.length<=1000000)/\nq.length+tq.length<=10000)/\m=tq.length) (ts1,nd1,bd1,ob1) ts1.length [] ⟨⟨cl_start hG1,hR1,hX1,Nat.le_trans hG1.1 hsm⟩,rfl⟩ ?_
 rintro ⟨tq,nq,bq,oq⟩ m g kk ⟨⟨hch,hRq,hXq,hsq⟩,hmm⟩ nx hkk
 subst hkk
 refine x_skipL hL [] bQ hRq hXq hsq λob2 hR2 hX2=> ?_
 cases h1:kP bQ tq with
 |true=>
  obtain ⟨r,htq,hnr⟩:=qP h1
  have htl:tq.length=r.length+1:=by rw [htq];rfl
  have hnl9:=congrArg List.length hnr
  have h21:=hch.2.1
  refine z6 (k:=349) (args:= #[Zp b 0]) (v:=YI ((nq.length:Int) -1)) [] (λw hO=>rlast10 hR2 (hO.past 0 ob2) (λx hx=>hx) Om) (p8 hp hL [] hR2 hX2 Om Om λts3 nd3 bd3 ob3 hR3 hX3 hG3=> ?_)
  have h31:=hG3.1
  have h32:=hG3.2.1
  exact x_jnL hL [] 3 ((nq.length:Int) -1) hR3 hX3 Om λob4 hR4 hX4=>nx (ts3,nd3++[⟨3,(nq.length:Int) -1,(nd3.length:Int) -1,0,[]⟩],bd3,ob4) ts3.length [] Om ⟨⟨cl_step (pFac_eats n) mk_both hch htq (hnr▸hG3),hR4,hX4,by rw [List.length_append,List.length_singleton];omega⟩,rfl⟩ Kr Kr
 |false=>
  have hno:=(jB (of_decide_eq_false h1)).2
  exact kM [] λw hO=>⟨tq,nq,bq,ob2,rfl,⟨hno▸hR2,hO.past 0 ob2,hXq.1,hXq.2⟩,cl_stop hch h1⟩
theorem chain_tOr (n:Nat)(hp:p7 311 n (pAnd n)):ChainL n tOr 4 311 (pOr n):=by
 refine ⟨λ{B b ts nd bad ob W} hL hln=> ?_⟩
 have hsm:=hL.small
 refine y6 hL.own Tryz.func310 (p8 hp hL [] hL.rd ⟨hL.short,hL.texts⟩ hsm hln λts1 nd1 bd1 ob1 hR1 hX1 hG1=> ?_)
 refine zL (α:=List Tok×List Nd×Bool×List Blk) (λ_=>[(0,Zp b 0),(1,.string (mkS tOr)),(2,YI 4),(3,.func (.func 311) #[] #[])]) (λ(_,_,_,oq)=>oq) (λ(tq,nq,bq,oq) m=>(ChL (pAnd n) tOr .one ts nd bad tq nq bq/\Rdr W B b tq nq bq oq/\((∀ y∈tq,y.length<=1000000)∧∀ u∈nq,u.text.length<=1000000)/\nq.length+tq.length<=10000)/\m=tq.length) (ts1,nd1,bd1,ob1) ts1.length [] ⟨⟨cl_start hG1,hR1,hX1,Nat.le_trans hG1.1 hsm⟩,rfl⟩ ?_
 rintro ⟨tq,nq,bq,oq⟩ m g kk ⟨⟨hch,hRq,hXq,hsq⟩,hmm⟩ nx hkk
 subst hkk
 refine x_skipL hL [] tOr hRq hXq hsq λob2 hR2 hX2=> ?_
 cases h1:kP tOr tq with
 |true=>
  obtain ⟨r,htq,hnr⟩:=qP h1
  have htl:tq.length=r.length+1:=by rw [htq];rfl
  have hnl9:=congrArg List.length hnr
  have h21:=hch.2.1
  refine z6 (k:=349) (args:= #[Zp b 0]) (v:=YI ((nq.length:Int) -1)) [] (λw hO=>rlast10 hR2 (hO.past 0 ob2) (λx hx=>hx) Om) (p8 hp hL [] hR2 hX2 Om Om λts3 nd3 bd3 ob3 hR3 hX3 hG3=> ?_)
  have h31:=hG3.1
  have h32:=hG3.2.1
  exact x_jnL hL [] 4 ((nq.length:Int) -1) hR3 hX3 Om λob4 hR4 hX4=>nx (ts3,nd3++[⟨4,(nq.length:Int) -1,(nd3.length:Int) -1,0,[]⟩],bd3,ob4) ts3.length [] Om ⟨⟨cl_step (pAnd_eats n) mk_one hch htq (hnr▸hG3),hR4,hX4,by rw [List.length_append,List.length_singleton];omega⟩,rfl⟩ Kr Kr
 |false=>
  have hno:=(jB (of_decide_eq_false h1)).2
  exact kM [] λw hO=>⟨tq,nq,bq,ob2,rfl,⟨hno▸hR2,hO.past 0 ob2,hXq.1,hXq.2⟩,cl_stop hch h1⟩
theorem product10_any (n:Nat)(hp:p7 351 n (v6 n)):p7 311 n (pAnd n):=by
 refine ⟨λ{B b ts nd bad ob W} hL hln=> ?_⟩
 have hsm:=hL.small
 exact y6 hL.own Tryz.func311 (x_rdL (k:=310) (args:= #[Zp b 0,.string (mkS bQ),YI 3,.func (.func 351) #[] #[]]) (Rv:=λv ts' nd' bad'=>v= .tuple #[]/\GotL (pAnd n) ts nd bad ts' nd' bad') hL [] hL.rd ⟨hL.short,hL.texts⟩ hsm (λw hl=>((chain_tAnd n hp).go hl hln).mono λe w' ⟨ts',nd',bad',ob',k1,k2,k3⟩=>⟨_,ts',nd',bad',ob',k1,⟨rfl,k3⟩,k2⟩) λv ts' nd' bad' ob' hv hR hX=>kM [] λw hO=>⟨ts',nd',bad',ob',rfl,⟨hR,hO.past 0 ob',hX.1,hX.2⟩,hv.2⟩)
theorem nX (n:Nat)(hp:p7 311 n (pAnd n)):p7 276 n (pOr n):=by
 refine ⟨λ{B b ts nd bad ob W} hL hln=> ?_⟩
 have hsm:=hL.small
 exact y6 hL.own Tryz.func276 (x_rdL (k:=310) (args:= #[Zp b 0,.string (mkS tOr),YI 4,.func (.func 311) #[] #[]]) (Rv:=λv ts' nd' bad'=>v= .tuple #[]/\GotL (pOr n) ts nd bad ts' nd' bad') hL [] hL.rd ⟨hL.short,hL.texts⟩ hsm (λw hl=>((chain_tOr n hp).go hl hln).mono λe w' ⟨ts',nd',bad',ob',k1,k2,k3⟩=>⟨_,ts',nd',bad',ob',k1,⟨rfl,k3⟩,k2⟩) λv ts' nd' bad' ob' hv hR hX=>kM [] λw hO=>⟨ts',nd',bad',ob',rfl,⟨hR,hO.past 0 ob',hX.1,hX.2⟩,hv.2⟩)
theorem operand_step (n:Nat)(hf:∀ k,k+1=n->p7 351 k (v6 k))(he:∀ k,k+1=n->p7 276 k (pOr k)):p7 351 n (v6 n):=by
 refine ⟨λ{B b ts nd bad ob W} hL hln=> ?_⟩
 have hsm:=hL.small
 refine y6 hL.own Tryz.func351 (x_skipL hL [] qV hL.rd ⟨hL.short,hL.texts⟩ hsm λob1 hR1 hX1=> ?_)
 cases h1:kP qV ts with
 |true=>
  obtain ⟨r,htq,hnr⟩:=qP h1
  have htl:ts.length=r.length+1:=by rw [htq];rfl
  have hnl9:=congrArg List.length hnr
  obtain ⟨k,rfl⟩:∃ k,n=k+1:=⟨n-1,by omega⟩
  refine p8 (hf k rfl) hL [] hR1 hX1 Om Om λts2 nd2 bd2 ob2 hR2 hX2 hG2=> ?_
  have h21:=hG2.1
  exact x_notL hL [] hR2 hX2 Om λob3 hR3 hX3=>kM [] λw hO=>⟨_,_,_,ob3,rfl,⟨hR3,hO.past 0 ob3,hX3.1,hX3.2⟩,gl_not htq (hnr▸hG2)⟩
 |false=>
  rw [(jB (of_decide_eq_false h1)).2] at hR1 hX1
  refine x_skipL hL [] xF hR1 hX1 hsm λob2 hR2 hX2=> ?_
  cases h2:kP xF ts with
  |true=>
   obtain ⟨r,htq,hnr⟩:=qP h2
   have htl:ts.length=r.length+1:=by rw [htq];rfl
   have hnl9:=congrArg List.length hnr
   obtain ⟨k,rfl⟩:∃ k,n=k+1:=⟨n-1,by omega⟩
   refine p8 (he k rfl) hL [] hR2 hX2 Om Om λts3 nd3 bd3 ob3 hR3 hX3 hG3=> ?_
   have h31:=hG3.1
   refine x_skipL hL [] xH hR3 hX3 Om λob4 hR4 hX4=> ?_
   obtain ⟨A9,cap9,hw9,hcap9,C9,c9,g9,rfl,hsl9⟩:=hR4
   cases h3:kP xH ts3 with
   |true=>exact kM [] λw hO=>⟨_,_,_,⟨b, #[.slice C9 nd3.length c9,.slice A9 (wA xH ts3).length cap9,.bool bd3],286⟩::g9,rfl,⟨⟨A9,cap9,hw9,hcap9,C9,c9,g9,rfl,hsl9⟩,hO.past 0 _,hX4.1,hX4.2⟩,gl_open htq (hnr▸hG3) h3⟩
   |false=>exact kM [0] λw hO=>⟨_,_,true,⟨b, #[.slice C9 nd3.length c9,.slice A9 (wA xH ts3).length cap9,.bool true],286⟩::g9,rfl,⟨⟨A9,cap9,hw9,hcap9,C9,c9,g9,rfl,hsl9⟩,hO.past 0 _,hX4.1,hX4.2⟩,by rw [(jB (of_decide_eq_false h3)).2];exact gl_unclosed htq (hnr▸hG3) h3⟩
  |false=>
   rw [(jB (of_decide_eq_false h2)).2] at hR2 hX2
   exact p8 (comparison10_any n) hL [] hR2 hX2 hsm hln λts3 nd3 bd3 ob3 hR3 hX3 hG3=>kM [] λw hO=>⟨_,_,_,ob3,rfl,⟨hR3,hO.past 0 ob3,hX3.1,hX3.2⟩,gl_atom h1 h2 hln hG3⟩
theorem operand10_any:∀ n,p7 351 n (v6 n)
 |0=>operand_step 0 (λk h=>absurd h Om) (λk h=>absurd h Om)
 |n+1=>by
  have ih:=operand10_any n
  refine operand_step (n+1) (λk h=> ?_) (λk h=> ?_)
  ·obtain rfl:k=n:=by omega
   exact ih
  ·obtain rfl:k=n:=by omega
   exact nX k (product10_any k ih)
theorem expressionP (n:Nat):p7 276 n (pOr n):=nX n (product10_any n (operand10_any n))
end
section
theorem below_moved {B:Nat}{a w:World}(h:Below B a w){k:Nat}(hk:B<=k)(s:ByteArray)(pos:Nat):Below B a (w.iterAt k s pos):=
 h.trans ⟨rfl,rfl,rfl,by rw [Lib.iterAt_size];exact Nat.le_refl _,Nat.le_refl _,λi hi=>Lib.iterAt_other w k i s pos Om⟩
theorem piece_any (s:ByteArray)(f k:Nat)(w:World)(hs:s.size<=1000000)(hfk:f<=k)(hk:k<=s.size):
  YC 265 #[.string s,YI f,YI k] w (YR (.string (s.extract f k)) w):=by
 have hz:(s.extract f k).size<=281474976710656:=by
  rw [ByteArray.size_extract];omega
 go_enter Tryz.func265,Tryz.ntmps265
 go_wp2_with (go_at_call 50;refine (clone_any _ _ hz).mono ?_;rintro e w' ⟨rfl,hb⟩)
 go_ret
 exact ⟨rfl,hb⟩
theorem width_any (t:ByteArray)(r n:Nat)(hne:t.data.toList≠[])(hd:Lib.decodeL t.data.toList=(r,n))(w:World):
  YC 264 #[.string t,.int .i32 r] w λe w'=>e= .returned (YI n)/\w=w':=by
 have HD:=Lib.hid hd
 clear hd
 have HNE:=Lib.hid hne
 clear hne
 by_cases h:r=65533
 ·by_cases hp:Lib.hasPrefix t.data.toList [239,191,189]=true
  ·have HP:=Lib.hid hp
   clear hp
   have hb:((r:Int)==65533)=true:=by simp [h]
   have HR:=Lib.hid h
   clear h
   go_enter Tryz.func264,Tryz.ntmps264
   go_wp2_with (first|(go_at_call 299;refine (Tryz.strings_HasPrefix t ⟨#[239,191,189]⟩ _).mono ?_;rw [HP.out];rintro e w' ⟨rfl,rfl⟩)|(go_at_call 300;refine (Tryz.utf8_RuneLen _ _).mono ?_;rintro e w' ⟨rfl,rfl⟩))
   go_ret
   refine ⟨bL ?_,rfl⟩
   have h3:=wide_err _ HP.out
   rw [HD.out] at h3
   rw [HR.out,show n=3 from h3]
   decide
  ·have HP:=Lib.hid (Bool.eq_false_iff.2 hp)
   clear hp
   have hb:((r:Int)==65533)=true:=by simp [h]
   have HR:=Lib.hid h
   clear h
   go_enter Tryz.func264,Tryz.ntmps264
   go_wp2_with (go_at_call 299;refine (Tryz.strings_HasPrefix t ⟨#[239,191,189]⟩ _).mono ?_;rw [HP.out];rintro e w' ⟨rfl,rfl⟩)
   go_ret
   refine ⟨bL ?_,rfl⟩
   have h1:=wide_bad _ HNE.out (by rw [HD.out];exact HR.out) HP.out
   rw [HD.out] at h1
   rw [show n=1 from h1]
   rfl
 ·have hb:((r:Int)==65533)=false:=wL Om
  go_enter Tryz.func264,Tryz.ntmps264
  go_wp2_with (go_at_call 300;refine (Tryz.utf8_RuneLen _ _).mono ?_;rintro e w' ⟨rfl,rfl⟩)
  go_ret
  refine ⟨bL ?_,rfl⟩
  have h2:=wide_other t.data.toList (by rw [HD.out];exact h)
  rw [HD.out] at h2
  exact h2
theorem split_any (s:ByteArray)(b:UInt8)(w:World)(hs:s.size<=1000000):
  YC 214 #[.string s,.int .u8 b.toNat] w λe w'=>∃ v,e= .returned v/\w'.ownsRow w.heap.size 9 1 v (qY s b).length (jK (qY s b))/\YB w w':=by
 obtain ⟨i0,hi,hz0,hz1,hz2⟩:=info_parts infoStr
 go_enter Tryz.func214,Tryz.ntmps214
 go_wp2
 go_loopw [5,6] (λv fv wr=>∃ (pos f:Nat) (P:List YL),fv=YI f/\f<=pos/\pos<=s.size/\P.length<=pos/\wr.heap[w.heap.size]?=some (.stringIter s pos)/\wr.ownsRow w.heap.size 9 1 v P.length (jK P)/\YB w wr/\Hid (P++zI b ((s.data.toList.drop f).take (pos-f)) (s.data.toList.drop pos)=qY s b)) (λ_ _ wr=>s.size-wr.iterPos w.heap.size)
 case atStart=>exact ⟨0,0,[],rfl,Nat.le_refl _,Nat.zero_le _,Nat.zero_le _,World.iter_heap _ _ _,⟨rfl,Or.inl ⟨rfl,rfl⟩⟩,yB _ _ _,rfl⟩
 case round=>
  obtain ⟨pos,f,P,rfl,hfp,hple,hP,hit,hown,hb,HR⟩:=hrel
  have hsz:=hb.size
  by_cases hp:pos<s.size
  ·obtain ⟨r,n,hdec⟩:∃ r n,Utf8.decode s pos=(r,n):=⟨_,_,rfl⟩
   have hnx:∀ ty,(Instr.next (.pointer (some ⟨w.heap.size,0,none⟩)) true ty).run YP wr=_:=λty=>Lib.run_next_any_at wr w.heap.size s pos ty hit hp
   rw [hdec] at hnx
   have hn1:1<=n:=by
    by_cases ha:(s[pos]'hp).toNat<128
    ·have:=decode_ascii s pos hp ha
     rw [hdec] at this
     have:n=1:=congrArg Prod.snd this
     omega
    ·have:=(decode_high s pos hp Om).2
     rw [hdec] at this
     exact this
   have hdl:Lib.decodeL (s.extract pos s.size).data.toList=(r,n):=by rw [Lib.extract_to_end,Lib.decodeL_drop,hdec]
   have hne:(s.extract pos s.size).data.toList≠[]:=by
    rw [Lib.extract_to_end];intro h;have:=congrArg List.length h;simp at this;omega
   have hnle:pos+n<=s.size:=by
    have:=Lib.decodeL_le _ hne
    rw [hdl,Lib.extract_to_end] at this
    simp at this;omega
   have HDL:=Lib.hid hdl
   have HNE:=Lib.hid hne
   have HIT:=Lib.hid hit
   have hown1:=ownsRow_iterAt hown hit (pos+n)
   have hit1:=Lib.iterAt_heap wr w.heap.size s pos (pos+n) hit
   have hb1:Below w.heap.size w (wr.iterAt w.heap.size s (pos+n)):=below_moved hb (Nat.le_refl _) s (pos+n)
   have HIT1:=Lib.hid hit1
   clear hdl hne hdec hit1
   obtain ⟨wo,rfl⟩:∃ wo:World,wo=wr:=⟨_,rfl⟩
   go_wp2_with (go_at_call 264;refine (width_any _ r n HNE.out HDL.out _).mono ?_;rintro e w' ⟨rfl,rfl⟩)
   go_loopw [5,6,10] (λv fv iv wi=>∃ (k f:Nat) (P:List YL),iv=YI k/\fv=YI f/\f<=k/\pos<=k/\k<=pos+n/\P.length<=k/\wi.heap[w.heap.size]?=some (.stringIter s (pos+n))/\wi.ownsRow w.heap.size 9 1 v P.length (jK P)/\YB w wi/\Hid (P++zI b ((s.data.toList.drop f).take (k-f)) (s.data.toList.drop k)=qY s b)) (λ_ _ iv _=>pos+n-(intOf iv).toNat)
   case atStart=>exact ⟨pos,f,P,rfl,rfl,hfp,Nat.le_refl _,by omega,hP,HIT1.out,hown1,hb1,HR⟩
   case round=>
    clear HR hown hb hit hsz hnx hown1 hb1
    obtain ⟨k,f2,P2,rfl,rfl,hfk,hpk,hkn,hP2,hit2,hown2,hb2,HR2⟩:=hrel
    have hsz2:=hb2.size
    have HIT2:=Lib.hid hit2
    clear hit2
    by_cases hlt:k<pos+n
    ·have hks:k<s.size:=by omega
     have HD:=Lib.hid (gV s k hks)
     by_cases hc:s[k]=b
     ·have HC:=Lib.hid hc
      have hcb:((s[k].toNat:Int)==(b.toNat:Int))=true:=by rw [hc];simp
      clear hc
      go_wp2_with (go_at_call 265;refine (piece_any s f2 k _ hs hfk Om).mono ?_)
      rintro e w3 ⟨rfl,hb3⟩
      have hown3:=mR hown2 hb3
      have hsz3:=hb3.size
      have hb4:YB w w3:=hb2.trans (hb3.mono hsz2)
      have HIT3:=Lib.hid (iter_below HIT2.out hb3)
      go_wp2_with (at_builtin;refine gB _ rfl _ _ 74 rfl w.heap.size 9 i0 (.string ByteArray.empty) 1 16 Tryz.underlying74 hi hz0 hz1 hz2 rfl (by decide) _ _ _ rfl (hown3.alloc _) ⟨w3.heap.size,0,none⟩ 1 1 [.string (s.extract f2 k)] rfl rfl ?c1 ?c2 ?c3 ?c4 ?c5 ?_)
      case c1=>
       intro j u hj
       match j,hj with
       |0,hj=>simp at hj;subst hj;simp [Addr.add]
      case c2=>intro u hu;simp at hu;subst hu;rfl
      case c3=>unfold maxLen;omega
      case c4=>omega
      case c5=>simp;omega
      intro v' w5 hown' hgrow _
      go_wp2
      go_roundw
      case rel=>
       refine ⟨k+1,k+1,P2++[(s.data.toList.drop f2).take (k-f2)],by go_num,by go_num,Nat.le_refl _,by omega,by omega,by simp;omega, ?_, ?_,(hb4.alloc (by omega) _).grown hgrow (by simp;omega) (λk hk=>(hown3.lt k hk).1), ?_⟩
       ·have ha:(w3.alloc (.cells #[.string (s.extract f2 k)] 9)).heap[w.heap.size]?=some (.stringIter s (pos+n)):=by
         rw [Below.heap_alloc _ _ _ (Array.getElem?_eq_some_iff.1 HIT3.out).1];exact HIT3.out
        rw [hgrow.1.block _ (Array.getElem?_eq_some_iff.1 ha).1 (ownsRow_ne (hown3.alloc _) ha)]
        exact ha
       ·rw [nD,←wU,List.length_append];exact hown'
       ·show _=_
        rw [←HR2.out,HD.out,split_hit _ _ _ _ HC.out,List.append_assoc,Nat.sub_self,List.take_zero];rfl
      case measure=>simp [intOf];omega
     ·have hcb:((s[k].toNat:Int)==(b.toNat:Int))=false:=wL (λe=>hc (UInt8.toNat_inj.1 Om))
      go_wp2
      go_roundw
      case rel=>exact ⟨k+1,f2,P2,by go_num,rfl,by omega,by omega,by omega,by omega,HIT2.out,hown2,hb2,by show _=_;rw [←HR2.out,HD.out,split_miss _ _ _ _ hc,take_more s f2 k hfk hks]⟩
      case measure=>simp [intOf];omega
    ·obtain rfl:k=pos+n:=by omega
     go_wp2
     go_roundw
     case rel=>exact ⟨pos+n,f2,P2,rfl,hfk,hnle,hP2,HIT2.out,hown2,hb2,HR2⟩
     case measure=>
      simp only [World.iterPos,HIT2.out,HIT.out]
      omega
  ·have hnx:∀ ty,(Instr.next (.pointer (some ⟨w.heap.size,0,none⟩)) true ty).run YP wr=_:=λty=>Lib.run_next_end_at wr w.heap.size s pos ty hit hp
   have HD:=Lib.hid (jU s pos hp)
   have hk2:pos=s.size:=by omega
   have HE:Hid (P++[(s.data.toList.drop f).take (s.size-f)]=qY s b):=by
    show _=_
    rw [←HR.out,HD.out,hk2];rfl
   clear hk2
   have hfs:f<=s.size:=by omega
   go_wp2_with (go_at_call 265;refine (piece_any s f s.size _ hs hfs (Nat.le_refl _)).mono ?_)
   rintro e w3 ⟨rfl,hb3⟩
   have hown3:=mR hown hb3
   have hsz3:=hb3.size
   have hb4:YB w w3:=hb.trans (hb3.mono hsz)
   go_wp2_with (at_builtin;refine gB _ rfl _ _ 74 rfl w.heap.size 9 i0 (.string ByteArray.empty) 1 16 Tryz.underlying74 hi hz0 hz1 hz2 rfl (by decide) _ _ _ rfl (hown3.alloc _) ⟨w3.heap.size,0,none⟩ 1 1 [.string (s.extract f s.size)] rfl rfl ?c1 ?c2 ?c3 ?c4 ?c5 ?_)
   case c1=>
    intro j u hj
    match j,hj with
    |0,hj=>simp at hj;subst hj;simp [Addr.add]
   case c2=>intro u hu;simp at hu;subst hu;rfl
   case c3=>unfold maxLen;omega
   case c4=>omega
   case c5=>simp;omega
   intro v' w2 hown' hgrow _
   go_wp2
   go_ret
   refine ⟨v',rfl, ?_,(hb4.alloc Om _).grown hgrow (by simp;omega) (λk hk=>(hown3.lt k hk).1)⟩
   rw [←HE.out,nD,←wU,List.length_append];exact hown'
end
section
set_option linter.unnecessarySimpa false
theorem isplit_own (s:YL)(W:World)(hs:s.length<=1000000):YC 214 #[.string (mkS s),.int .u8 32] W λe w'=>∃ v' ob',e= .returned v'/\SlT v' (y4 s) ob'/\Own [] W w' ob':=
 (split_any (mkS s) 32 W (by rw [zW];exact hs)).mono λe w' ⟨v,h1,h2,h3⟩=>by
  obtain ⟨ob,k1,k2⟩:=Own.row h2 h3
  unfold qY at k1
  rw [mk_data] at k1
  exact ⟨v,ob,h1,k1,k2⟩
theorem lib_anew {W w1 w:World}{L L2:List Blk}(hK:MkLib W)(hO1:Own [] W w1 L)(hO:Own (L.map Blk.b) w1 w L2):MkAt w1.heap.size w:=by
 have hlt:=hK.lt
 refine ⟨Nat.lt_of_lt_of_le hlt hO1.size, ?_⟩
 obtain ⟨T,q⟩:=hK.held
 refine ⟨T, ?_⟩
 rw [hO.kept _ (Nat.lt_of_lt_of_le hlt hO1.size) (λhm=> ?_),hO1.kept _ hlt (by simp)]
 ·exact q
 ·obtain ⟨x,hx,ex⟩:=List.mem_map.1 hm
  rcases hO1.base x hx with r|r
  ·omega
  ·cases r
theorem words_len (s:YL):(y4 s).length<=s.length+1:=splitL_many10 32 s []
theorem m10Parse_any (s:YL)(W:World)(hs:s.length<=1000000)(hK:MkLib W):YC 233 #[.string (mkS s)] W λe w'=>∃ v' ob',e= .returned (.tuple #[.agg #[v'],YI (nY s)])/\SlN v' (gZ s) ob'/\Own [] W w' ob':=by
 have hsz:=zW s
 have hwn:=words_len s
 refine Z2 (n:=36) Tryz.func233 rfl (ZO (Za (.agg #[.slice none 0 0]) (λb1=>Zv (YI 0) (ZN (zV (ZO (Zv (.string (mkS s)) (Zv (YI ((mkS s).size)) ?_))))))))
 by_cases h1:(96:Int)<(mkS s).size
 ·have h96:96<s.length:=by omega
  refine Zg h1 (ZY (ZO (Zv (.agg #[.slice none 0 0]) (Zs 0 ⟨b1, #[.slice none 0 0],254⟩ (off:=0) (.agg #[.slice none 0 0]) (Zv (YI 3) (ZN (xK ?_)))))))
  exact yD (ZD 0 ⟨b1, #[.slice none 0 0],254⟩ (off:=0) (.agg #[.slice none 0 0]) (YI 3) Tryz.results233 (λw hO=>⟨_,[],by rw [show nY s=3 from if_pos h96],by rw [show gZ s=[] from if_pos h96];exact Sl.nil _ _,hO.sublist (by simp)⟩))
 have h96:¬ 96<s.length:=by omega
 refine Zh h1 (ZX (ZB (zV (ZO (Zv (.string (mkS s)) ?_)))))
 by_cases h2:(s:YL)=[]
 ·refine yW Z4 Kr (qN (a:=s) (b:=([])) rfl Kr Kr (decide_eq_true (h2))) (ZY (ZO (Zv (.agg #[.slice none 0 0]) (Zs 0 ⟨b1, #[.slice none 0 0],254⟩ (off:=0) (.agg #[.slice none 0 0]) (Zv (YI 0) (ZN (xK ?_)))))))
  exact yD (ZD 0 ⟨b1, #[.slice none 0 0],254⟩ (off:=0) (.agg #[.slice none 0 0]) (YI 0) Tryz.results233 (λw hO=>⟨_,[],by rw [show nY s=0 from by unfold nY;rw [if_neg h96,if_pos h2]],by rw [show gZ s=[] from by unfold gZ;rw [if_neg h96,if_pos h2]];exact Sl.nil _ _,hO.sublist (by simp)⟩))
 refine yW Z5 Kr (qN (a:=s) (b:=([])) rfl Kr Kr (decide_eq_false (h2))) (ZX (ZB (ZO (Zv (.string (mkS s)) (Zr (k:=214) (args:= #[.string (mkS s),.int .u8 32]) (λv' L'=>∃ ob',L'=ob'++[⟨b1, #[.slice none 0 0],254⟩]/\SlT v' (y4 s) ob') (λw hO=>(isplit_own s w hs).mono λe w' ⟨v',ob',k1,k2,k3⟩=>⟨v',_,k1,⟨ob',rfl,k2⟩,Own.joinN hO k3⟩) (λvw Lw hvw=> ?_))))))
 obtain ⟨ow,rfl,hsw⟩:=hvw
 obtain ⟨AW,cw,rfl⟩:=SlT.form hsw
 refine s_anew (λw1 hO1=> ?_)
 have hw1:Reads y7 w1 w1.heap.size AW (y4 s):=SlT.reads hsw rfl hO1 (λx hx=>List.mem_append_left _ hx)
 refine Zv (.agg #[.slice none 0 0,.slice AW ((y4 s).length) cw,.bool false]) ?_
 have hcw:(y4 s).length<=cw:=by obtain ⟨_,q⟩:=hsw;rcases q with ⟨_,q,_⟩|⟨_,c9,_,q1,_,q2,_⟩;omega;injection q1 with _ _ q3;omega
 refine Za (.agg #[.slice none 0 0,.slice none 0 0,.bool false]) (λb2=>Zs 0 ⟨b2, #[.slice none 0 0,.slice none 0 0,.bool false],286⟩ (off:=0) (.agg #[.slice none 0 0,.slice AW ((y4 s).length) cw,.bool false]) (ZR (wD (L':=[⟨b2, #[.slice none 0 0,.slice AW ((y4 s).length) cw,.bool false],286⟩]++(ow++([⟨b1, #[.slice none 0 0],254⟩]))) rfl (Zr (k:=276) (args:= #[Zp b2 0]) (λv' L'=>∃ ts' nd' bad',v'= .tuple #[]∧∃ ob',L'=ob'++(ow++([⟨b1, #[.slice none 0 0],254⟩]))/\(∃ A' cap',Rb b2 A' ts'.length cap' bad' nd' ob')/\(∀ n∈nd',n.text.length<=1000000)/\GotL (pOr (y4 s).length) (y4 s) [] false ts' nd' bad') (λw hO=>((expressionP (y4 s).length).go (⟨⟨AW,cw,Reads.bound (SlT.reads hsw rfl hO (λx hx=>by simp [hx])) hw1,hcw,none,0,[],rfl,Sl.nil _ _⟩,Own.lent hO,own_new hO,hO.size,λx hx=>Nat.le_trans (words_short x hx) hs,λn hn=>absurd hn (by simp),by simp only [List.length_nil];omega,lib_anew hK hO1 hO⟩:LentL w1.heap.size b2 (y4 s) [] false [⟨b2, #[.slice none 0 0,.slice AW ((y4 s).length) cw,.bool false],286⟩] w) (Nat.le_refl _)).mono λe w' ⟨ts',nd',bad',ob',k1,k2,k3⟩=>⟨_,_,k1,⟨ts',nd',bad',rfl,ob',rfl,k2.rd.imp λA' q=>q.imp λcap' q=>q.2.2,k2.texts,k3⟩,Own.join hO k2.own⟩) (λve Le hve=> ?_)))))
 obtain ⟨ts2,nd2,bd,rfl,obe,rfl,⟨A2,cap2,C,cc,g,rfl,hsl⟩,hnt,hG⟩:=hve
 have hnw:nd2.length<=1000:=by have q:=hG.1;simp only [List.length_nil] at q;omega
 refine wD (L':=⟨b2, #[.slice C nd2.length cc,.slice A2 ts2.length cap2,.bool bd],286⟩::(g++(ow++([⟨b1, #[.slice none 0 0],254⟩])))) (by simp) (ZR (Zv (Zp b2 0) (Zv (Zp b2 0) (Zl 0 ⟨b2, #[.slice C nd2.length cc,.slice A2 ts2.length cap2,.bool bd],286⟩ (off:=0) (.slice C nd2.length cc) (Zv (.agg #[.slice C nd2.length cc]) (Za (.agg #[.slice none 0 0]) (λb3=>Zs 0 ⟨b3, #[.slice none 0 0],254⟩ (off:=0) (.agg #[.slice C nd2.length cc]) (vF ?_))))))))
 refine x3 (zV (ZO (Zv (Zp b2 2) (Zl 1 ⟨b2, #[.slice C nd2.length cc,.slice A2 ts2.length cap2,.bool bd],286⟩ (off:=2) (.bool bd) (Zv (.bool bd) ?_)))))
 cases h3:bd with
 |true=>
  rw [h3] at hG
  refine Zk (Zk (Zk (Zk (Zv Z4 (Zv Z4 (Zk (Zk (Zk (Zv Z4 (vF (x3 ?_)))))))))))
  refine Zt (ZO (Zv (.agg #[.slice none 0 0]) (wD (L':=⟨b3, #[.slice C nd2.length cc],254⟩::(⟨b2, #[.slice C nd2.length cc,.slice A2 ts2.length cap2,.bool true],286⟩::(g++(ow++([⟨b1, #[.slice none 0 0],254⟩]))))) rfl (wS (L':=⟨b1, #[.slice none 0 0],254⟩::(⟨b3, #[.slice C nd2.length cc],254⟩::(⟨b2, #[.slice C nd2.length cc,.slice A2 ts2.length cap2,.bool true],286⟩::(g++(ow))))) (λw hO=>hO.perm (by simpa [List.append_assoc] using (List.perm_middle (a:=⟨b1, #[.slice none 0 0],254⟩) (l₁:=(⟨b3, #[.slice C nd2.length cc],254⟩::(⟨b2, #[.slice C nd2.length cc,.slice A2 ts2.length cap2,.bool true],286⟩::(g++(ow++([]:List Blk)))))) (l₂:=([]:List Blk))))) (Zs 0 ⟨b1, #[.slice none 0 0],254⟩ (off:=0) (.agg #[.slice none 0 0]) (Zv (YI 7) (ZN (xK (yD ?_)))))))))
  exact ZD 0 ⟨b1, #[.slice none 0 0],254⟩ (off:=0) (.agg #[.slice none 0 0]) (YI 7) Tryz.results233 (λw hO=>⟨_,[],by rw [(gO h96 h2).1,show gX s=none from gl_none hG (.inl rfl)],by rw [(gO h96 h2).2,show gX s=none from gl_none hG (.inl rfl)];exact Sl.nil _ _,(by have q:=Own.join (R:=[]) (by rw [List.append_nil];exact hO1) hO;rw [List.append_nil] at q;exact q.sublist (List.nil_sublist _))⟩)
 |false=>
  rw [h3] at hG
  refine Zv (Zp b2 1) (Zl 1 ⟨b2, #[.slice C nd2.length cc,.slice A2 ts2.length cap2,.bool false],286⟩ (off:=1) (.slice A2 ts2.length cap2) (Zv (YI (ts2.length:Int)) ?_))
  by_cases h4:(0:Int)<(ts2.length:Int)
  ·have hne:ts2≠[]:=λq=>by rw [q] at h4;simp at h4
   refine Zg h4 (Zv Z4 (Zv Z4 (Zk (Zk (Zk (Zv Z4 (ZY (zV (zT ?_)))))))))
   exact Zv (.agg #[.slice none 0 0]) (wD (L':=⟨b3, #[.slice C nd2.length cc],254⟩::(⟨b2, #[.slice C nd2.length cc,.slice A2 ts2.length cap2,.bool false],286⟩::(g++(ow++([⟨b1, #[.slice none 0 0],254⟩]))))) rfl (wS (L':=⟨b1, #[.slice none 0 0],254⟩::(⟨b3, #[.slice C nd2.length cc],254⟩::(⟨b2, #[.slice C nd2.length cc,.slice A2 ts2.length cap2,.bool false],286⟩::(g++(ow))))) (λw hO=>hO.perm (by simpa [List.append_assoc] using (List.perm_middle (a:=⟨b1, #[.slice none 0 0],254⟩) (l₁:=(⟨b3, #[.slice C nd2.length cc],254⟩::(⟨b2, #[.slice C nd2.length cc,.slice A2 ts2.length cap2,.bool false],286⟩::(g++(ow++([]:List Blk)))))) (l₂:=([]:List Blk))))) (Zs 0 ⟨b1, #[.slice none 0 0],254⟩ (off:=0) (.agg #[.slice none 0 0]) (Zv (YI 7) (ZN (xK (yD (ZD 0 ⟨b1, #[.slice none 0 0],254⟩ (off:=0) (.agg #[.slice none 0 0]) (YI 7) Tryz.results233 (λw hO=>⟨_,[],by rw [(gO h96 h2).1,show gX s=none from gl_none hG (.inr (.inl hne))],by rw [(gO h96 h2).2,show gX s=none from gl_none hG (.inr (.inl hne))];exact Sl.nil _ _,(by have q:=Own.join (R:=[]) (by rw [List.append_nil];exact hO1) hO;rw [List.append_nil] at q;exact q.sublist (List.nil_sublist _))⟩)))))))))
  have hts:ts2=[]:=List.eq_nil_of_length_eq_zero Om
  rw [hts] at hG
  refine Zh h4 (Zv Z5 (Zv Z5 (Zl 0 ⟨b3, #[.slice C nd2.length cc],254⟩ (off:=0) (.agg #[.slice C nd2.length cc]) (Zc (k:=277) (args:= #[.agg #[.slice C nd2.length cc]]) (.bool (dQ nd2)) (λw hO=>m10May_any C cc nd2 w (Sl.reads hsl rfl hO (λx hx=>by simp [hx])) hnw hnt ⟨Nat.lt_of_lt_of_le (lib_anew hK hO1 hO).lt hO.size,(lib_anew hK hO1 hO).held⟩) ?_))))
  cases h5:dQ nd2 with
  |true=>
   obtain ⟨t,hok,hnd,hrd⟩:=gl_some hG h5
   refine Zv Z5 (Zv Z5 (ZX (ZB (ZO (Zl 0 ⟨b3, #[.slice C nd2.length cc],254⟩ (off:=0) (.agg #[.slice C nd2.length cc]) (wD (L':=⟨b3, #[.slice C nd2.length cc],254⟩::(⟨b2, #[.slice C nd2.length cc,.slice A2 ts2.length cap2,.bool false],286⟩::(g++(ow++([⟨b1, #[.slice none 0 0],254⟩]))))) rfl (wS (L':=⟨b1, #[.slice none 0 0],254⟩::(⟨b3, #[.slice C nd2.length cc],254⟩::(⟨b2, #[.slice C nd2.length cc,.slice A2 ts2.length cap2,.bool false],286⟩::(g++(ow))))) (λw hO=>hO.perm (by simpa [List.append_assoc] using (List.perm_middle (a:=⟨b1, #[.slice none 0 0],254⟩) (l₁:=(⟨b3, #[.slice C nd2.length cc],254⟩::(⟨b2, #[.slice C nd2.length cc,.slice A2 ts2.length cap2,.bool false],286⟩::(g++(ow++([]:List Blk)))))) (l₂:=([]:List Blk))))) ?_)))))))
   exact Zs 0 ⟨b1, #[.slice none 0 0],254⟩ (off:=0) (.agg #[.slice C nd2.length cc]) (Zv (YI 0) (ZN (xK (ZD 0 ⟨b1, #[.slice C nd2.length cc],254⟩ (off:=0) (.agg #[.slice C nd2.length cc]) (YI 0) Tryz.results233 (λw hO=>⟨_,g,by rw [(gO h96 h2).1,hrd],by rw [(gO h96 h2).2,hrd];show SlN _ (t.enc 0) g;rw [←hnd];exact hsl,(by have q:=Own.join (R:=[]) (by rw [List.append_nil];exact hO1) hO;rw [List.append_nil] at q;exact q.sublist ((((List.sublist_append_left _ _).cons _).cons _).cons _))⟩)))))
  |false=>
   refine Zv Z4 (Zv Z4 (ZY (ZO (Zv (.agg #[.slice none 0 0]) (wD (L':=⟨b3, #[.slice C nd2.length cc],254⟩::(⟨b2, #[.slice C nd2.length cc,.slice A2 ts2.length cap2,.bool false],286⟩::(g++(ow++([⟨b1, #[.slice none 0 0],254⟩]))))) rfl (wS (L':=⟨b1, #[.slice none 0 0],254⟩::(⟨b3, #[.slice C nd2.length cc],254⟩::(⟨b2, #[.slice C nd2.length cc,.slice A2 ts2.length cap2,.bool false],286⟩::(g++(ow))))) (λw hO=>hO.perm (by simpa [List.append_assoc] using (List.perm_middle (a:=⟨b1, #[.slice none 0 0],254⟩) (l₁:=(⟨b3, #[.slice C nd2.length cc],254⟩::(⟨b2, #[.slice C nd2.length cc,.slice A2 ts2.length cap2,.bool false],286⟩::(g++(ow++([]:List Blk)))))) (l₂:=([]:List Blk))))) (Zs 0 ⟨b1, #[.slice none 0 0],254⟩ (off:=0) (.agg #[.slice none 0 0]) (Zv (YI 7) ?_))))))))
   exact ZN (xK (yD (ZD 0 ⟨b1, #[.slice none 0 0],254⟩ (off:=0) (.agg #[.slice none 0 0]) (YI 7) Tryz.results233 (λw hO=>⟨_,[],by rw [(gO h96 h2).1,show gX s=none from gl_none hG (.inr (.inr h5))],by rw [(gO h96 h2).2,show gX s=none from gl_none hG (.inr (.inr h5))];exact Sl.nil _ _,(by have q:=Own.join (R:=[]) (by rw [List.append_nil];exact hO1) hO;rw [List.append_nil] at q;exact q.sublist (List.nil_sublist _))⟩))))
end
section
set_option linter.unnecessarySimpa false
theorem d8 (s:YL)(W:World)(hs:s.length<=1000000):YC 173 #[.string (mkS s)] W (YR (.bool (wdL s)) W):=
 (word_any (mkS s) W (by rw [zW];unfold maxLen;omega)).mono λe w' ⟨h,e2⟩=>⟨by rw [h];unfold wordB wdL;rw [zW,mk_data],e2⟩
theorem nQ (s:YL)(W:World)(hs:s.length<=1000000):YC 69 #[.string (mkS s)] W (YR (.bool (nmL s)) W):=
 name_any (mkS s) W (by rw [zW];unfold maxLen;omega)
theorem yV (s:YL)(W:World)(hs:s.length<=1000000):YC 50 #[.string (mkS s)] W (YR (.string (mkS s)) W):=clone_any (mkS s) W (by rw [zW];omega)
theorem iCut_any (s:YL)(w:World):YC 236 #[.string (mkS s),.string ⟨#[63]⟩] w (YR (.tuple #[.string (mkS (if s.head?=some 63 then s.drop 1 else s)),.bool (decide (s.head?=some 63))]) w):=
 (Tryz.strings_CutPrefix (mkS s) ⟨#[63]⟩ w).mono λe w' ⟨he,hw⟩=>by
  subst hw
  refine ⟨?_,Below.refl _ _⟩
  rw [he,mk_data]
  show Ending.returned (Value.tuple #[.string ⟨(Lib.trimPrefix s [63]).toArray⟩,.bool (Lib.hasPrefix s [63])])=_
  unfold Lib.trimPrefix Lib.hasPrefix
  cases s with
  |nil=>rfl
  |cons c r=>
   by_cases h:c=63
   ·subst h;simp [List.isPrefixOf,mkS]
   ·have h2:¬ 63=c:=λq=>h q.symm
    simp [List.isPrefixOf,mkS,h,h2]
theorem kind_cut {s:YL}(h:wdL s=false)(hno:¬ (s.head?=some 63/\wdL (s.drop 1)=true)):zM s=if (zD 47 s).2.2 && nmL (zD 47 s).1 && wdL (zD 47 s).2.1 then (3,(zD 47 s).1,(zD 47 s).2.1) else (0,[],[]):=by
 unfold zM
 rw [if_neg (by rw [h];simp),if_neg (by rw [Bool.and_eq_true,decide_eq_true_eq];exact hno),vH 47 s [],List.nil_append]
 cases hc:(zD 47 s).2.2 with
 |false=>simp
 |true=>
  rw [if_pos rfl]
  cases hw:wdL (zD 47 s).2.1 with
  |true=>
   have hf:(47:UInt8)∉(zD 47 s).2.1:=wdL_no (by decide) hw
   rw [vH 47 _ [],wV 47 _ hf]
   simp [hw]
  |false=>
   rw [vH 47 _ [],List.nil_append]
   cases hc2:(zD 47 (zD 47 s).2.1).2.2 with
   |true=>
    rw [if_pos rfl]
    cases hs:zI 47 [] (zD 47 (zD 47 s).2.1).2.1 with
    |nil=>exact absurd hs (nF 47 _ _)
    |cons y t=>simp
   |false=>
    have hb:=cutAt_back 47 (zD 47 s).2.1
    rw [hc2,if_neg (by simp),List.append_nil] at hb
    rw [←hb]
    simp [hw]
theorem fItem_at (s:YL)(W:World)(hs:s.length<=1000000):YC 175 #[.string (mkS s)] W (YR (.tuple #[YI (zM s).1,.string (mkS (zM s).2.1),.string (mkS (zM s).2.2)]) W):=by
 have hcl:=tT 47 s
 refine z8 Tryz.func175 (z6 (v:= .bool (wdL s)) [] (λw _=>d8 s w hs) (zX 11 (wdL s) (λh1=> ?_) (λh1=> ?_)))
 ·refine z6 (v:= .string (mkS s)) [] (λw _=>yV s w hs) (wC [] (YI 1) (.string (mkS s)) (.string ⟨#[]⟩) λw hO=>⟨?_,hO.below⟩)
  rw [show zM s=(1,s,[]) from by unfold zM;rw [if_pos h1]];rfl
 have zero:∀ {w:World} {L:List Blk},¬ (s.head?=some 63/\wdL (s.drop 1)=true)->((zD 47 s).2.2 && nmL (zD 47 s).1 && wdL (zD 47 s).2.1)=false->Own [] W w L->(Ending.returned (.tuple #[YI 0,.string ⟨#[]⟩,.string ⟨#[]⟩])= .returned (.tuple #[YI (zM s).1,.string (mkS (zM s).2.1),.string (mkS (zM s).2.2)]))/\YB W w:=λh2 h3 hO=>by
  refine ⟨?_,hO.below⟩
  rw [kind_cut h1 h2,h3];rfl
 have three:∀ {w:World} {L:List Blk},¬ (s.head?=some 63/\wdL (s.drop 1)=true)->((zD 47 s).2.2 && nmL (zD 47 s).1 && wdL (zD 47 s).2.1)=true->Own [] W w L->(Ending.returned (.tuple #[YI 3,.string (mkS (zD 47 s).1),.string (mkS (zD 47 s).2.1)])= .returned (.tuple #[YI (zM s).1,.string (mkS (zM s).2.1),.string (mkS (zM s).2.2)]))/\YB W w:=λh2 h3 hO=>by
  refine ⟨?_,hO.below⟩
  rw [kind_cut h1 h2,h3];rfl
 by_cases hq:s.head?=some 63
 ·have hcp:∀ w,YC 236 #[.string (mkS s),.string ⟨#[63]⟩] w (YR (.tuple #[.string (mkS (s.drop 1)),.bool true]) w):=λw=>(iCut_any s w).mono λe w' ⟨e1,e2⟩=>⟨by rw [e1,if_pos hq,decide_eq_true hq],e2⟩
  refine z6 (v:= .tuple #[.string (mkS (s.drop 1)),.bool true]) [] (λw _=>hcp w) (z6 (v:= .bool (wdL (s.drop 1))) [] (λw _=>d8 _ w (by rw [List.length_drop];omega)) (x_bb 23 [] (wdL (s.drop 1)) (λh2=> ?_) (λh2=> ?_)))
  ·refine z6 (v:= .string (mkS (s.drop 1))) [] (λw _=>yV _ w (by rw [List.length_drop];omega)) (wC [] (YI 2) (.string (mkS (s.drop 1))) (.string ⟨#[]⟩) λw hO=>⟨?_,hO.below⟩)
   rw [show zM s=(2,s.drop 1,[]) from by unfold zM;rw [if_neg (by rw [h1];simp),if_pos (by rw [hq,h2];rfl)]];rfl
  have hno:¬ (s.head?=some 63/\wdL (s.drop 1)=true):=λq=>by rw [h2] at q;cases q.2
  refine z6 (v:= .tuple #[.string (mkS (zD 47 s).1),.string (mkS (zD 47 s).2.1),.bool (zD 47 s).2.2]) [] (λw _=>cutb_any s 47 w (by omega)) (x_bb 33 [] (zD 47 s).2.2 (λh3=> ?_) (λh3=> ?_))
  ·refine z6 (v:= .bool (nmL (zD 47 s).1)) [] (λw _=>nQ _ w (by omega)) (x_bb 37 [] (nmL (zD 47 s).1) (λh4=> ?_) (λh4=> ?_))
   ·refine z6 (v:= .bool (wdL (zD 47 s).2.1)) [] (λw _=>d8 _ w (by omega)) (x_bb 40 [] (wdL (zD 47 s).2.1) (λh5=> ?_) (λh5=> ?_))
    ·exact z6 (v:= .string (mkS (zD 47 s).1)) [] (λw _=>yV _ w Om) (z6 (v:= .string (mkS (zD 47 s).2.1)) [] (λw _=>yV _ w Om) (wC [] (YI 3) (.string (mkS (zD 47 s).1)) (.string (mkS (zD 47 s).2.1)) λw hO=>three hno (by rw [h3,h4,h5];rfl) hO))
    ·exact wC [] (YI 0) (.string ⟨#[]⟩) (.string ⟨#[]⟩) λw hO=>zero hno (by rw [h3,h4,h5];rfl) hO
   ·exact wC [] (YI 0) (.string ⟨#[]⟩) (.string ⟨#[]⟩) λw hO=>zero hno (by rw [h3,h4];rfl) hO
  ·exact wC [] (YI 0) (.string ⟨#[]⟩) (.string ⟨#[]⟩) λw hO=>zero hno (by rw [h3];rfl) hO
 ·have hcp:∀ w,YC 236 #[.string (mkS s),.string ⟨#[63]⟩] w (YR (.tuple #[.string (mkS s),.bool false]) w):=λw=>(iCut_any s w).mono λe w' ⟨e1,e2⟩=>⟨by rw [e1,if_neg hq,decide_eq_false hq],e2⟩
  have hno:¬ (s.head?=some 63/\wdL (s.drop 1)=true):=λq=>hq q.1
  refine z6 (v:= .tuple #[.string (mkS s),.bool false]) [] (λw _=>hcp w) (z6 (v:= .tuple #[.string (mkS (zD 47 s).1),.string (mkS (zD 47 s).2.1),.bool (zD 47 s).2.2]) [] (λw _=>cutb_any s 47 w (by omega)) (x_bb 33 [] (zD 47 s).2.2 (λh3=> ?_) (λh3=> ?_)))
  ·refine z6 (v:= .bool (nmL (zD 47 s).1)) [] (λw _=>nQ _ w (by omega)) (x_bb 37 [] (nmL (zD 47 s).1) (λh4=> ?_) (λh4=> ?_))
   ·refine z6 (v:= .bool (wdL (zD 47 s).2.1)) [] (λw _=>d8 _ w (by omega)) (x_bb 40 [] (wdL (zD 47 s).2.1) (λh5=> ?_) (λh5=> ?_))
    ·exact z6 (v:= .string (mkS (zD 47 s).1)) [] (λw _=>yV _ w Om) (z6 (v:= .string (mkS (zD 47 s).2.1)) [] (λw _=>yV _ w Om) (wC [] (YI 3) (.string (mkS (zD 47 s).1)) (.string (mkS (zD 47 s).2.1)) λw hO=>three hno (by rw [h3,h4,h5];rfl) hO))
    ·exact wC [] (YI 0) (.string ⟨#[]⟩) (.string ⟨#[]⟩) λw hO=>zero hno (by rw [h3,h4,h5];rfl) hO
   ·exact wC [] (YI 0) (.string ⟨#[]⟩) (.string ⟨#[]⟩) λw hO=>zero hno (by rw [h3,h4];rfl) hO
  ·exact wC [] (YI 0) (.string ⟨#[]⟩) (.string ⟨#[]⟩) λw hO=>zero hno (by rw [h3];rfl) hO
end
section
set_option linter.unnecessarySimpa false
structure At (W:World)(A:Option Addr)(xs:List Fv)(B:Option Addr)(asked:List YL)(w:World):Prop where
 hv:FtIn w w.heap.size A xs
 hu:Reads y7 w w.heap.size B asked
 hb:YB W w
end
section
set_option linter.unnecessarySimpa false
theorem tless_or (a b:YL):(Op.bytesLess a b||decide (a=b))= !Op.bytesLess b a:=by
 cases h:Op.bytesLess b a with
 |true=>rw [lt_asy h,decide_eq_false (λe=>by rw [e,lt_irr] at h;cases h)];rfl
 |false=>
  by_cases e:a=b
  ·rw [decide_eq_true e];simp
  ·rw [lt_tri b a h (λq=>e q.symm)];rfl
theorem run_strleq {P:Program}{ρ:Operand->Value}{o:Oper}{t t':TypeId}{x y:Operand}{a b:YL}(ho:o.op= .binOp .leq t x y t')(hx:ρ x= .string (mkS a))(hy:ρ y= .string (mkS b))(w:World):(execOp ρ o).run P w= .ok (.value (.bool (!Op.bytesLess b a))) w:=by
 have e:binOp .leq t (.string (mkS a)) (.string (mkS b))=pure (.bool (!Op.bytesLess b a)):=by
  have:binOp .leq t (.string (mkS a)) (.string (mkS b))=pure (.bool (Op.bytesLess (mkS a).toList (mkS b).toList||(mkS a).toList==(mkS b).toList)):=by simp [binOp,Op.stringOp]
  rw [this,fC,Lib.toList_data,Lib.toList_data,mk_data,mk_data,tless_or]
 unfold execOp
 simp only [ho,hx,hy,Sem.run_bind,nT,Result.andThen_ok,e,Sem.run_pure]
section
variable {M:List Nat}{P:Program}{n:Nat}{W:World}{Q:Exit->Act->World->Prop}{c:Xc}
def leqOp (o:Oper):Bool:=match o.op with
 | .binOp .leq _ _ _ _=>true
 |_=>false
def leqX (o:Oper)(i:Nat):Operand:=match o.op with
 | .binOp _ _ x y _=>if i=0 then x else y
 |_=> .tmp 0
theorem x_sle (d:Nat)(h:List Nat)(s u:YL)(hg:zE M P n W Q ((xgo P n (d+50000) h c).put (.bool (!Op.bytesLess u s))))
  (hkt:(xgl P n (d+50000) h c,xW n (xgo P n (d+50000) h c),leqOp (xO (xgo P n (d+50000) h c)),ev n (xgo P n (d+50000) h c).f (leqX (xO (xgo P n (d+50000) h c)) 0),ev n (xgo P n (d+50000) h c).f (leqX (xO (xgo P n (d+50000) h c)) 1))=(xgr P n (d+50000) h c,true,true,.string (mkS s),.string (mkS u)):=by kernel_rfl):zE M P n W Q c:=by
 simp only [Prod.mk.injEq] at hkt
 obtain ⟨hk,e1,e2,e3,e4⟩:=hkt
 refine zN h c hk (xE e1 (λw=> ?_) hg)
 generalize xO (xgo P n (d+50000) h c)=o at*
 unfold leqOp at e2
 split at e2
 ·rename_i t x y t' ho
  have hx:leqX o 0=x:=by unfold leqX;rw [ho];rfl
  have hy:leqX o 1=y:=by unfold leqX;rw [ho];rfl
  rw [hx] at e3;rw [hy] at e4
  exact run_strleq ho e3 e4 w
 ·cases e2
end
theorem findfn_any (x:Fv)(n:YL)(b:Nat)(W:World)(hc:W.heap[b]?=some (.cells #[.string (mkS n)] 9)):YC 316 #[fvV x,.pointer (some ⟨b,0,none⟩)] W (YR (.bool (decide (x.name=n))) W):=by
 have hb:b<W.heap.size:=(Array.getElem?_eq_some_iff.1 hc).1
 refine z8 Tryz.func316 (zQ [] λb2=>zG 6 [0] 9 b 0 (.string (mkS n)) (λw hO=>x7 Kr ((hO.below.block b hb).trans hc)) (yS 7 [] x.name n (λh=> ?_) (λh=> ?_)))
 ·exact z7 [] Z4 λw hO=>⟨by rw [decide_eq_true h],hO.below⟩
 ·exact z7 [] Z5 λw hO=>⟨by rw [decide_eq_false h],hO.below⟩
theorem idx11_any (A:Option Addr)(cap:Nat)(xs:List Fv)(n:YL)(b:Nat)(W:World)(hv:FtIn W W.heap.size A xs)(hc:W.heap[b]?=some (.cells #[.string (mkS n)] 9)):YC 315 #[.slice A xs.length cap,.func (.func 316) #[] #[.pointer (some ⟨b,0,none⟩)]] W (YR (YI (bT (yI xs) n)) W):=by
 have hb:b<W.heap.size:=(Array.getElem?_eq_some_iff.1 hc).1
 have hn:=hv.n
 refine z8 Tryz.func315 (zL (α:=Nat) (λi=>[(0,.slice A xs.length cap),(1,.func (.func 316) #[] #[Zp b 0]),(7,YI (xs.length:Int)),(8,YI (i:Int))]) (λ_=>[]) (λi m=>(i<=xs.length∧∀ y∈xs.take i,¬ y.name=n)/\m=xs.length-i) 0 xs.length [] ⟨⟨Nat.zero_le _,λy h=>by simp at h⟩,rfl⟩ ?_)
 rintro i mm g kk ⟨⟨hi,hno⟩,hmm⟩ nx hkk
 subst hkk
 refine zA 9 [] ((i:Int)<(xs.length:Int)) (λh9=> ?_) (λh9=> ?_)
 rotate_left
 ·refine z7 [] (YI (-1)) λw hO=>⟨?_,hO.below⟩
  have hall:=xM (p:=λy:Fv=>¬ y.name=n) (show xs.length<=i by omega) hno
  rw [bT,findI_none (l:=yI xs) λf hf=>by obtain ⟨y,hy,rfl⟩:=List.mem_map.1 hf;exact hall y hy]
 have hj:i<xs.length:=by omega
 obtain ⟨eb,eo,hA,hel⟩:=hv.top.elem vP i hj
 have hgo:=yL (p:=λy:Fv=>¬ y.name=n) hj hno
 have hel0:∀ w,YB W w->(loadVar 87 ⟨eb,eo+i*2+0,none⟩).run YP w= .ok (fvV xs[i]) w:=λw hw=>hel w hw _ 0 _ Kr
 have hcf:∀ w,YB W w->YC 316 #[fvV xs[i],.pointer (some ⟨b,0,none⟩)] w (YR (.bool (decide (xs[i].name=n))) w):=λw hw=>findfn_any xs[i] n b w ((hw.block b hb).trans hc)
 refine zH 14 [] hA xs.length cap i 2 hj (zG 15 [] 87 eb (eo+i*2+0) (fvV xs[i]) (λw hO=>hel0 w hO.below) (z6 (v:= .bool (decide (xs[i].name=n))) [] (λw hO=>hcf w hO.below) (qT 16 (xs[i].name=n) (λh16=> ?_) (λh16=> ?_))))
 ·refine z7 [] (YI (i:Int)) λw hO=>⟨?_,hO.below⟩
  rw [bT,findI_at (l:=yI xs) (i:=i) (by rw [wK];exact hj) (by rw [ftOf_get hj rfl];exact h16) (λf hf=>by rw [←nU] at hf;obtain ⟨y,hy,rfl⟩:=List.mem_map.1 hf;exact hno y hy)]
 ·exact x_i 18 [] ((i+1:Nat):Int) (nx (i+1) (xs.length-(i+1)) [] Om ⟨⟨hj,hgo h16⟩,rfl⟩ Kr Kr)
theorem fFind_at (A:Option Addr)(cap:Nat)(xs:List Fv)(n:YL)(W:World)(hv:FtIn W W.heap.size A xs):YC 280 #[.slice A xs.length cap,.string (mkS n)] W (YR (YI (bT (yI xs) n)) W):=by
 refine z8 Tryz.func280 (zQ [] λb=>x_val 6 [] (.func (.func 316) #[] #[Zp b 0]) (λw=>Kr) (z6 (v:=YI (bT (yI xs) n)) [] (λw hO=>idx11_any A cap xs n b w (hv.on hO.below hO.size) ((hO.past 0 [⟨b, #[.string (mkS n)],9⟩]).get (i:=0) rfl)) (z7 [] _ λw hO=>⟨rfl,hO.below⟩)))
theorem fhas_any (A:Option Addr)(cap:Nat)(xs:List Fv)(n:YL)(W:World)(hv:FtIn W W.heap.size A xs):YC 235 #[.slice A xs.length cap,.string (mkS n)] W (YR (.bool (isT (yI xs) n)) W):=by
 refine z8 Tryz.func235 (yS 6 [] n dfl (λh=> ?_) (λh=> ?_))
 ·exact z7 [] Z4 λw hO=>⟨by rw [nW,decide_eq_true h];rfl,hO.below⟩
 ·exact z6 (v:=YI (bT (yI xs) n)) [] (λw hO=>fFind_at A cap xs n w (hv.on hO.below hO.size)) (z7 [] (.bool (decide (0<=bT (yI xs) n))) λw hO=>⟨by rw [nW,decide_eq_false h];rfl,hO.below⟩)
def qU (l:List YL)(i:Nat):YL:=if h:0<i/\i-1<l.length then l[i-1] else []
theorem lastT_succ {l:List YL}{i:Nat}(hi:i<l.length):qU l (i+1)=l[i]:=by
 unfold qU;rw [dif_pos ⟨Nat.succ_pos _,by simpa using hi⟩];rfl
theorem less_nil {s:YL}(h:s≠[]):Op.bytesLess [] s=true:=by
 cases s with
 |nil=>exact absurd rfl h
 |cons _ _=>rfl
theorem fmayOf_any (A:Option Addr)(cap:Nat)(xs:List Fv)(B:Option Addr)(capb:Nat)(of:List YL)(W:World)(hv:FtIn W W.heap.size A xs)(hu:Reads y7 W W.heap.size B of)(hn:of.length<=5000)(ht:∀ s∈of,s.length<=1000000):YC 174 #[.slice B of.length capb,.slice A xs.length cap] W (YR (.bool (kO (yI xs) of)) W):=by
 refine z8 Tryz.func174 (zA 13 [] ((6:Int)<(of.length:Int)) (λh13=> ?_) (λh13=> ?_))
 ·exact z7 [] Z5 λw hO=>⟨by rw [d7 (.inl Om)],hO.below⟩
 refine zL (α:=Nat) (λi=>[(0,.slice B of.length capb),(1,.slice A xs.length cap),(5,.string (mkS (qU of i))),(14,.slice B of.length capb),(15,YI (of.length:Int)),(16,YI (i:Int))]) (λ_=>[]) (λi m=>(i<=of.length/\(∀ s∈of.take i,jO (yI xs) s=true)∧∀ z (hz:z+1<of.length),z+1<i->Op.bytesLess (of[z]'Om) of[z+1]=true)/\m=of.length-i) 0 of.length [] ⟨⟨Nat.zero_le _,λy h=>by simp at h,λz hz h=>by omega⟩,rfl⟩ ?_
 rintro i mm g kk ⟨⟨hi,hok,hup⟩,hmm⟩ nx hkk
 subst hkk
 refine zA 17 [] ((i:Int)<(of.length:Int)) (λh17=> ?_) (λh17=> ?_)
 rotate_left
 ·exact z7 [] Z4 λw hO=>⟨by rw [items_yes Om (rise_iff.2 λz hz=>hup z hz Om) (xM Om hok)],hO.below⟩
 have hj:i<of.length:=by omega
 have hsm:of[i]∈of:=List.getElem_mem hj
 have hlast:i≠0->qU of i=of[i-1]'Om:=λh=>by unfold qU;rw [dif_pos ⟨by omega,by omega⟩]
 have hgo:=yL (p:=λs=>jO (yI xs) s=true) hj hok
 have hl1:=lastT_succ hj
 obtain ⟨eb,eo,hA,hel⟩:=hu.elem zO i hj
 have hsh:=ht _ hsm
 have hel':=λw hO ty=>hel w hO ty 0 (.string (mkS of[i]))
 have hbig:=hup
 obtain ⟨s,hs⟩:∃ s,of[i]=s:=⟨_,rfl⟩
 simp only [hs] at hsh hsm hgo hl1 hel'
 have hno:jO (yI xs) s=false->kO (yI xs) of=false:=λh=>d7 (.inr (.inr ⟨s,hsm,h⟩))
 refine zH 18 [] hA of.length capb i 1 hj (zG 19 [] 9 eb (eo+i*1+0) (.string (mkS s)) (λw hO=>hel' w hO.below _ Kr) (z6 (v:= .tuple #[YI (zM s).1,.string (mkS (zM s).2.1),.string (mkS (zM s).2.2)]) [] (λw hO=>fItem_at s w hsh) (zA 27 [] ((zM s).1=0) (λh27=> ?_) (λh27=> ?_))))
 ·exact z7 [] Z5 λw hO=>⟨by rw [hno (by unfold jO;simp [h27])],hO.below⟩
 refine x_sle 31 [] s (qU of i) (zX 31 (!Op.bytesLess (qU of i) s) (λh31=> ?_) (λh31=> ?_))
 ·refine z7 [] Z5 λw hO=>⟨?_,hO.below⟩
  have h0:i≠0:=λh0=>by
   subst h0
   have:qU of 0=[]:=by unfold qU;rw [dif_neg Om]
   rw [this,less_nil (λe=>h27 (by rw [e];decide))] at h31;cases h31
  rw [hlast h0] at h31
  have:kE of=false:=by
   cases hr:kE of with
   |false=>rfl
   |true=>
    have q:=rise_iff.1 hr (i-1) Om
    have e2:of[i-1+1]'Om=s:=by rw [←hs];congr 1;omega
    rw [e2] at q
    rw [q] at h31;cases h31
  rw [d7 (.inr (.inl this))]
 have hup2:∀ z (hz:z+1<of.length),z+1<i+1->Op.bytesLess (of[z]'Om) of[z+1]=true:=λz hz hzi=>by
  rcases Nat.lt_succ_iff_lt_or_eq.1 hzi with q|q
  ·exact hup z hz q
  ·have h0:i≠0:=by omega
   rw [hlast h0] at h31
   have e1:of[i-1]'Om=of[z]'Om:=by congr 1;omega
   have e2:of[z+1]=s:=by rw [←hs];congr 1
   rw [←e1,e2];simpa using h31
 refine zA 35 [] ((zM s).1=1) (λh35=> ?_) (λh35=> ?_)
 ·have hc:∀ w,YB W w->YC 235 #[.slice A xs.length cap,.string (mkS (zM s).2.1)] w (YR (.bool (isT (yI xs) (zM s).2.1)) w):=λw hb=>fhas_any A cap xs _ w (hv.on hb hb.size)
  refine z6 (v:= .bool (isT (yI xs) (zM s).2.1)) [] (λw hO=>hc w hO.below) (zX 39 (isT (yI xs) (zM s).2.1) (λh39=> ?_) (λh39=> ?_))
  ·exact x_i 44 [] ((i+1:Nat):Int) (j6 5 [] (.string (mkS s)) (.string (mkS (qU of (i+1)))) (by rw [hl1]) (nx (i+1) (of.length-(i+1)) [] Om ⟨⟨hj,hgo (by unfold jO;simp [h35,h39]),hup2⟩,rfl⟩ Kr Kr))
  ·exact z7 [] Z5 λw hO=>⟨by rw [hno (by unfold jO;simp [h35,h39])],hO.below⟩
 ·exact x_i 44 [] ((i+1:Nat):Int) (j6 5 [] (.string (mkS s)) (.string (mkS (qU of (i+1)))) (by rw [hl1]) (nx (i+1) (of.length-(i+1)) [] Om ⟨⟨hj,hgo (by unfold jO;simp [h27,h35]),hup2⟩,rfl⟩ Kr Kr))
end
section
set_option linter.unnecessarySimpa false
structure RecLib (W:World):Prop where
 lib:HasLib W
 keys:MkLib W
theorem RecLib.on {W w:World}(h:RecLib W)(hb:YB W w):RecLib w:=⟨h.lib.on hb,h.keys.on hb⟩
theorem qRange_any (s:YL)(W:World)(hs:s.length<=1000000)(hK:RecLib W):YC 232 #[.string (mkS s)] W (YR (.bool (xP s)) W):=by
 have hp:∀ w,YB W w->YC 274 #[.string (mkS s)] w λe w'=>∃ v ob,e= .returned v/\(∃ A cap xs o1 o2,v= .tuple #[.agg #[.slice A xs.length cap],YI (bP s)]/\ob=o1++o2/\x1 xs=(g6 s).getD []/\RgA (.slice A xs.length cap) xs o1 o2)/\Own [] w w' ob:=λw hb=>by
  refine (gParse_any s w hs (hK.lib.on hb)).mono λe w' ⟨v',ob',k1,⟨xs,u,o1,o2,k3,k4,k5,k6⟩,k7⟩=> ?_
  obtain ⟨A,cap,rfl⟩:∃ A cap,u= .slice A xs.length cap:=by
   rcases k6.top.2 with ⟨h1,h2,_⟩|⟨g,cap,_,h1,_⟩
   ·exact ⟨none,0,by rw [h1,h2]⟩
   ·exact ⟨_,cap,h1⟩
  exact ⟨_,ob',k1,⟨A,cap,xs,o1,o2,by rw [k3],k4,k5,k6⟩,k7⟩
 refine z8 Tryz.func232 (yC (R:=λv ob=>∃ A cap xs o1 o2,v= .tuple #[.agg #[.slice A xs.length cap],YI (bP s)]/\ob=o1++o2/\x1 xs=(g6 s).getD []/\RgA (.slice A xs.length cap) xs o1 o2) [] (λw hO=>hp w hO.below) ?_)
 rintro v ob ⟨A,cap,xs,o1,o2,rfl,rfl,hx,hR⟩
 refine zB [] λb=>zA 11 [0] (bP s=0) (λh11=> ?_) (λh11=> ?_)
 rotate_left
 ·exact z7 [] Z5 λw hO=>⟨by unfold xP;rw [decide_eq_false h11];rfl,hO.below⟩
 have hf:=fine_get h11
 rw [←hx] at hf
 have hq:∀ w,Own [] W w (o1++o2)->YC 275 #[.agg #[.slice A xs.length cap]] w (YR (.string (mkS (jZ (x1 xs)))) w):=λw hO=>gPrint_any A cap xs w (hR.inn rfl hO (λx hx=>List.mem_append_left _ hx) (λx hx=>List.mem_append_right _ hx) hf) (hK.lib.on hO.below)
 refine z6 (v:= .string (mkS (jZ (x1 xs)))) [0] (λw hO=>hq w (hO.past 1 _)) (yS 16 [] (jZ (x1 xs)) s (λh=> ?_) (λh=> ?_))
 ·exact z7 [] Z4 λw hO=>⟨by unfold xP;rw [decide_eq_true h11,←hx,decide_eq_true h];rfl,hO.below⟩
 ·exact z7 [] Z5 λw hO=>⟨by unfold xP;rw [decide_eq_true h11,←hx,decide_eq_false h];rfl,hO.below⟩
theorem nodL_cases (s:YL):gZ s=[]∨∃ t:Tr,t.ok=true/\t.fit=true/\gZ s=t.enc 0:=by
 unfold gZ
 split
 ·exact .inl rfl
 ·split
  ·exact .inl rfl
  ·cases h:gX s with
   |none=>exact .inl rfl
   |some t=>have:=readM_ok h;exact .inr ⟨t,this.1,this.2,rfl⟩
theorem nodL_fine (s:YL):(gZ s).length<=1000∧∀ n∈gZ s,n.text.length<=1000000:=by
 rcases nodL_cases s with e|⟨t,ho,hf,e⟩
 ·rw [e];simp
 ·rw [e,Tr.enc_len]
  have h15:t.sz<=15:=by unfold Tr.fit at hf;simp at hf;exact hf.1
  exact ⟨by omega,λn hn=>by have:=bE t 0 ho n hn;omega⟩
theorem qMark_any (s:YL)(W:World)(hs:s.length<=1000000)(hK:RecLib W):YC 172 #[.string (mkS s)] W (YR (.bool (yX s)) W):=by
 have hp:∀ w,YB W w->YC 233 #[.string (mkS s)] w λe w'=>∃ v ob,e= .returned v/\(∃ A cap,v= .tuple #[.agg #[.slice A (gZ s).length cap],YI (nY s)]/\SlN (.slice A (gZ s).length cap) (gZ s) ob)/\Own [] w w' ob:=λw hb=>by
  refine (m10Parse_any s w hs (hK.keys.on hb)).mono λe w' ⟨v',ob',k1,k2,k3⟩=> ?_
  obtain ⟨A,cap,rfl⟩:∃ A cap,v'= .slice A (gZ s).length cap:=by
   rcases k2.2 with ⟨h1,h2,_⟩|⟨g,cap,_,h1,_⟩
   ·exact ⟨none,0,by rw [h1,h2]⟩
   ·exact ⟨_,cap,h1⟩
  exact ⟨_,ob',k1,⟨A,cap,rfl,k2⟩,k3⟩
 have hfi:=nodL_fine s
 refine z8 Tryz.func172 (yC (R:=λv ob=>∃ A cap,v= .tuple #[.agg #[.slice A (gZ s).length cap],YI (nY s)]/\SlN (.slice A (gZ s).length cap) (gZ s) ob) [] (λw hO=>hp w hO.below) ?_)
 rintro v ob ⟨A,cap,rfl,hR⟩
 refine zB [] λb=>zA 11 [0] (nY s=0) (λh11=> ?_) (λh11=> ?_)
 rotate_left
 ·exact z7 [] Z5 λw hO=>⟨by unfold yX;rw [decide_eq_false h11];rfl,hO.below⟩
 have hq:∀ w,Own [] W w ob->YC 234 #[.agg #[.slice A (gZ s).length cap]] w (YR (.string (mkS (qO (gZ s)))) w):=λw hO=>m10Print_any A cap (gZ s) w (Sl.reads hR rfl hO λx hx=>hx) hfi.1 hfi.2 (hK.keys.on hO.below)
 refine z6 (v:= .string (mkS (qO (gZ s)))) [0] (λw hO=>hq w (hO.past 1 _)) (yS 16 [] (qO (gZ s)) s (λh=> ?_) (λh=> ?_))
 ·exact z7 [] Z4 λw hO=>⟨by unfold yX;rw [decide_eq_true h11,decide_eq_true h];rfl,hO.below⟩
 ·exact z7 [] Z5 λw hO=>⟨by unfold yX;rw [decide_eq_true h11,decide_eq_false h];rfl,hO.below⟩
def jJ (own name rng:YL):Int:=if nmL name=false then 4 else if name=own then 8 else if xP rng=false then 6 else 0
theorem qTarget_any (n r o:YL)(W:World)(hn:n.length<=1000000)(hr:r.length<=1000000)(hK:RecLib W):YC 170 #[.string (mkS n),.string (mkS r),.string (mkS o)] W (YR (YI (jJ o n r)) W):=by
 have c1:∀ w,YC 69 #[.string (mkS n)] w (YR (.bool (nmL n)) w):=λw=>nQ n w hn
 have c2:∀ w,YB W w->YC 232 #[.string (mkS r)] w (YR (.bool (xP r)) w):=λw hb=>qRange_any r w hr (hK.on hb)
 refine z8 Tryz.func170 (z6 (v:= .bool (nmL n)) [] (λw hO=>c1 w) (zX 9 (nmL n) (λh1=> ?_) (λh1=> ?_)))
 rotate_left
 ·exact z7 [] (YI 4) λw hO=>⟨by rw [jJ,if_pos h1],hO.below⟩
 refine yS 14 [] n o (λh2=> ?_) (λh2=> ?_)
 ·exact z7 [] (YI 8) λw hO=>⟨by rw [jJ,if_neg (by simp [h1]),if_pos h2],hO.below⟩
 refine z6 (v:= .bool (xP r)) [] (λw hO=>c2 w hO.below) (zX 17 (xP r) (λh3=> ?_) (λh3=> ?_))
 ·exact z7 [] (YI 0) λw hO=>⟨by rw [jJ,if_neg (by simp [h1]),if_neg h2,if_neg (by simp [h3])],hO.below⟩
 ·exact z7 [] (YI 6) λw hO=>⟨by rw [jJ,if_neg (by simp [h1]),if_neg h2,if_pos h3],hO.below⟩
theorem barE_targ (own:YL)(b:Bt):jV own b=if jJ own b.name b.rng≠0 then jJ own b.name b.rng else if yX b.wh=false then 7 else 0:=by
 unfold jV jJ
 split
 ·simp
 ·split
  ·simp
  ·split<;>simp
theorem qBar_any (b:Bv)(own:YL)(W:World)(hb:b.name.length<=1000000/\b.rng.length<=1000000/\b.wh.length<=1000000)(hK:RecLib W):YC 104 #[bvV b,.string (mkS own)] W (YR (YI (jV own b.bt)) W):=by
 have hE:jV own b.bt=if jJ own b.name b.rng≠0 then jJ own b.name b.rng else if yX b.wh=false then 7 else 0:=barE_targ own b.bt
 have c1:∀ w,YB W w->YC 170 #[.string (mkS b.name),.string (mkS b.rng),.string (mkS own)] w (YR (YI (jJ own b.name b.rng)) w):=λw h=>qTarget_any b.name b.rng own w hb.1 hb.2.1 (hK.on h)
 have c2:∀ w,YB W w->YC 172 #[.string (mkS b.wh)] w (YR (.bool (yX b.wh)) w):=λw h=>qMark_any b.wh w hb.2.2 (hK.on h)
 refine z8 Tryz.func104 (zQ [] λb1=>z6 (v:=YI (jJ own b.name b.rng)) [0,0] (λw hO=>c1 w hO.below) (kW 13 [] (jJ own b.name b.rng=0) (λh1=> ?_) (λh1=> ?_)))
 rotate_left
 ·exact z7 [] (YI (jJ own b.name b.rng)) λw hO=>⟨by rw [hE,if_pos h1],hO.below⟩
 refine z6 (v:= .bool (yX b.wh)) [0] (λw hO=>c2 w hO.below) (zX 17 (yX b.wh) (λh2=> ?_) (λh2=> ?_))
 ·exact z7 [] (YI 0) λw hO=>⟨by rw [hE,if_neg (λq=>q h1),if_neg (by show ¬ yX b.wh=false;simp [h2])],hO.below⟩
 ·exact z7 [] (YI 7) λw hO=>⟨by rw [hE,if_neg (λq=>q h1),if_pos h2],hO.below⟩
def askB (l:List YL):Bool:=l.all wdL && decide (l.length<=6) && kE l
theorem askB_not {l:List YL}(h:(∃ s∈l,wdL s=false)\/6<l.length\/kE l=false):askB l=false:=by
 unfold askB
 rcases h with ⟨s,hs,h⟩|h|h
 ·rw [show l.all wdL=false from List.all_eq_false.2 ⟨s,hs,by simp [h]⟩];rfl
 ·rw [decide_eq_false Om];simp
 ·rw [h];simp
theorem qAsk_any (A:Option Addr)(cap:Nat)(l:List YL)(W:World)(hv:Reads y7 W W.heap.size A l)(hn:l.length<=5000)(ht:∀ s∈l,s.length<=1000000):YC 171 #[.slice A l.length cap] W (YR (.bool (askB l)) W):=by
 refine z8 Tryz.func171 (zA 8 [] ((6:Int)<(l.length:Int)) (λh8=> ?_) (λh8=> ?_))
 ·exact z7 [] Z5 λw hO=>⟨by rw [askB_not (.inr (.inl Om))],hO.below⟩
 refine zL (α:=Nat) (λi=>[(3,.string (mkS (qU l i))),(9,.slice A l.length cap),(10,YI (l.length:Int)),(11,YI (i:Int))]) (λ_=>[]) (λi m=>(i<=l.length/\(∀ s∈l.take i,wdL s=true)∧∀ z (hz:z+1<l.length),z+1<i->Op.bytesLess (l[z]'Om) l[z+1]=true)/\m=l.length-i) 0 l.length [] ⟨⟨Nat.zero_le _,λy h=>by simp at h,λz hz h=>by omega⟩,rfl⟩ ?_
 rintro i mm g kk ⟨⟨hi,hok,hup⟩,hmm⟩ nx hkk
 subst hkk
 refine zA 12 [] ((i:Int)<(l.length:Int)) (λh12=> ?_) (λh12=> ?_)
 rotate_left
 ·refine z7 [] Z4 λw hO=>⟨?_,hO.below⟩
  have hall:=xM (p:=λs=>wdL s=true) (show l.length<=i by omega) hok
  have:askB l=true:=by
   unfold askB
   rw [List.all_eq_true.2 hall,decide_eq_true Om,rise_iff.2 λz hz=>hup z hz Om];rfl
  rw [this]
 have hj:i<l.length:=by omega
 have hsm:l[i]∈l:=List.getElem_mem hj
 have hlast:i≠0->qU l i=l[i-1]'Om:=λh=>by unfold qU;rw [dif_pos ⟨by omega,by omega⟩]
 have hgo:=yL (p:=λs=>wdL s=true) hj hok
 have hl1:=lastT_succ hj
 obtain ⟨eb,eo,hA,hel⟩:=hv.elem zO i hj
 have hsh:=ht _ hsm
 have hel':=λw hO ty=>hel w hO ty 0 (.string (mkS l[i]))
 obtain ⟨s,hs⟩:∃ s,l[i]=s:=⟨_,rfl⟩
 simp only [hs] at hsh hsm hgo hl1 hel'
 refine zH 13 [] hA l.length cap i 1 hj (zG 14 [] 9 eb (eo+i*1+0) (.string (mkS s)) (λw hO=>hel' w hO.below _ Kr) (z6 (v:= .bool (wdL s)) [] (λw hO=>d8 s w hsh) (zX 16 (wdL s) (λh16=> ?_) (λh16=> ?_))))
 rotate_left
 ·exact z7 [] Z5 λw hO=>⟨by rw [askB_not (.inl ⟨s,hsm,h16⟩)],hO.below⟩
 refine x_sle 21 [] s (qU l i) (zX 21 (!Op.bytesLess (qU l i) s) (λh21=> ?_) (λh21=> ?_))
 ·refine z7 [] Z5 λw hO=>⟨?_,hO.below⟩
  have h0:i≠0:=λh0=>by
   subst h0
   have:qU l 0=[]:=by unfold qU;rw [dif_neg Om]
   rw [this,less_nil (λe=>by rw [e] at h16;exact absurd h16 (by decide))] at h21;cases h21
  rw [hlast h0] at h21
  have:kE l=false:=by
   cases hr:kE l with
   |false=>rfl
   |true=>
    have q:=rise_iff.1 hr (i-1) Om
    have e2:l[i-1+1]'Om=s:=by rw [←hs];congr 1;omega
    rw [e2] at q
    rw [q] at h21;cases h21
  rw [askB_not (.inr (.inr this))]
 have hup2:∀ z (hz:z+1<l.length),z+1<i+1->Op.bytesLess (l[z]'Om) l[z+1]=true:=λz hz hzi=>by
  rcases Nat.lt_succ_iff_lt_or_eq.1 hzi with q|q
  ·exact hup z hz q
  ·have h0:i≠0:=by omega
   rw [hlast h0] at h21
   have e1:l[i-1]'Om=l[z]'Om:=by congr 1;omega
   have e2:l[z+1]=s:=by rw [←hs];congr 1
   rw [←e1,e2];simpa using h21
 refine j6 3 [] (.string (mkS s)) (.string (mkS (qU l (i+1)))) (by rw [hl1]) (x_i 11 [] ((i+1:Nat):Int) (nx (i+1) (l.length-(i+1)) [] Om ⟨⟨hj,hgo h16,hup2⟩,rfl⟩ Kr Kr))
end
section
set_option linter.unnecessarySimpa false
def laV (l:La):Value:= .agg #[YI (l.kind:Int),.string (mkS l.word),YI (l.lo:Int),YI (l.hi:Int),YI (l.parts:Int),.bool l.opn,.bool l.more]
def laB (l:La)(b:Nat):Blk:=⟨b,(laV l).cells,132⟩
end
section
set_option linter.unnecessarySimpa false
theorem Sl.putLast {α:Type}{gC:α->List Value}{T sz g cap:Nat}(hg:∀ x,(gC x).length=sz){cur:Array Value}{ini:List α}{n:α}(h:Sl T sz (.slice (some ⟨g,0,none⟩) (ini.length+1) cap) (ini.length+1) ((ini++[n]).flatMap gC) [⟨g,cur,T⟩])(n':α)(fo:Nat)(vs:Array Value)(hfit:fo+vs.size<=sz)(hy:gC n'=(gC n).take fo++vs.toList++(gC n).drop (fo+vs.size)):
  Sl T sz (.slice (some ⟨g,0,none⟩) (ini.length+1) cap) (ini.length+1) ((ini++[n']).flatMap gC) [⟨g,yK cur (ini.length*sz+fo) vs,T⟩]/\ini.length*sz+fo+vs.size<=cur.size:=by
 obtain ⟨h1,h2⟩:=h
 rcases h2 with ⟨e,_⟩|⟨g',cap',cur',e1,e2,e3,e4,e5,e6⟩
 ·cases e
 ·obtain ⟨rfl,rfl⟩:g=g'/\cap=cap':=by cases e1;exact ⟨rfl,rfl⟩
  obtain rfl:cur=cur':=by cases e2;rfl
  have hk:ini.length<(ini++[n]).length:=by simp
  have hs:=store_elem hg (cur:=cur) (l:=ini++[n]) (by rw [List.length_append];exact e6) ini.length fo hk vs n' hfit (by rw [List.getElem_append_right (Nat.le_refl _)];simpa using hy)
  have hset:(ini++[n]).set ini.length n'=ini++[n']:=by simp
  rw [hset,List.length_append,List.length_singleton] at hs
  have hcap:(ini.length+1)*sz<=cap*sz:=Nat.mul_le_mul_right _ e3
  have hm:(ini.length+1)*sz=ini.length*sz+sz:=Nat.succ_mul ..
  refine ⟨⟨?_,.inr ⟨g,cap,_,rfl,rfl,e3,e4,by rw [hs.2];exact e5,hs.1⟩⟩,by omega⟩
  rw [dT hg];simp
structure NdL (A:Option Addr)(c:Nat)(xs:List Nv)(o1 oa og oi:List Blk):Prop where
 top:Sl 83 3 (.slice A xs.length c) xs.length (xs.flatMap nvC) o1
 split:(xs=[]/\oa=[]/\og=[])∨∃ ini n,xs=ini++[n]/\(∀ x∈ini,∃ o,WsO x.A x.cap x.any o∧∀ b∈o,b∈oi)/\Sl 146 4 (.slice n.A n.any.length n.cap) n.any.length (n.any.flatMap wvC) oa∧∀ u∈n.any,∃ o,SlT (.slice u.A u.fs.length u.cap) u.fs o∧∀ b∈o,b∈og
def rdC (x:Rv)(k:Nat):List Value:=rvC x++[YI (k:Int)]
def rdB (x:Rv)(k rb:Nat):Blk:=⟨rb,(rdC x k).toArray,69⟩
structure RdQ (x:Rv)(o1 oa og oi o4 o7 o8:List Blk):Prop where
 needs:NdL x.nA x.nc x.needs o1 oa og oi
 bars:Sl 85 3 (.slice x.bA x.bars.length x.bc) x.bars.length (x.bars.flatMap bvC) o4
 fts:FtO x.fA x.fc x.fts o7 o8
def rest7 (oa og oi o4 o7 o8:List Blk):List Blk:=oa++(og++(oi++(o4++(o7++o8))))
def RdR (rb k:Nat)(x:Rv)(ob:List Blk):Prop:=∃ o1 oa og oi o4 o7 o8,ob=rdB x k rb::(o1++rest7 oa og oi o4 o7 o8)/\RdQ x o1 oa og oi o4 o7 o8
structure Few (x:Rv):Prop where
 n:x.needs.length<=5000
 b:x.bars.length<=5000
 f:x.fts.length<=5000
 a:∀ n∈x.needs,n.any.length<=5000
structure AddB (rb kd:Nat)(x:Rv)(ps:List YL)(ob:List Blk)(W:World)(e:Ending)(w':World):Prop where
 ex:∃ x' ob',e= .returned (.bool (addA x.rt kd ps).2)/\x'.rt=(addA x.rt kd ps).1/\RdR rb kd x' ob'/\Own (ob.map Blk.b) W w' ob'
section
variable {M:List Nat}{P:Program}{n:Nat}{W:World}{Q:Exit->Act->World->Prop}{c:Xc}
end
end
section
set_option linter.unnecessarySimpa false
end
section
set_option linter.unnecessarySimpa false
def hd (x:Rv)(p2:YL)(ps:List YL):Rv:={x with name:=ps.getD 1 [],maj:=(parV p2).maj,min:=(parV p2).min,pat:=(parV p2).pat,pre:=(parV p2).pre,bld:=(parV p2).build}
end
section
set_option linter.unnecessarySimpa false
theorem r7Plain_any (s:YL)(W:World)(hs:s.length<=1000000):YC 246 #[.string (mkS s)] W (YR (.bool (xP s)) W):=by
 have hp:∀ w,YB W w->YC 285 #[.string (mkS s)] w λe w'=>∃ v ob,e= .returned v/\(∃ A cap xs o1 o2,v= .tuple #[.agg #[.slice A xs.length cap],YI (bP s)]/\ob=o1++o2/\x1 xs=(g6 s).getD []/\RgA (.slice A xs.length cap) xs o1 o2)/\Own [] w w' ob:=λw hb=>by
  refine (rsParse_tup s w hs).mono λe w' ⟨v',ob',k1,⟨rv,k2,xs,u,o1,o2,k3,k4,k5,k6⟩,k7⟩=> ?_
  obtain ⟨A,cap,rfl⟩:∃ A cap,u= .slice A xs.length cap:=by
   rcases k6.top.2 with ⟨h1,h2,_⟩|⟨g,cap,_,h1,_⟩
   ·exact ⟨none,0,by rw [h1,h2]⟩
   ·exact ⟨_,cap,h1⟩
  exact ⟨v',ob',k1,⟨A,cap,xs,o1,o2,by rw [k2,k3],k4,k5,k6⟩,k7⟩
 refine z8 Tryz.func246 (yC (R:=λv ob=>∃ A cap xs o1 o2,v= .tuple #[.agg #[.slice A xs.length cap],YI (bP s)]/\ob=o1++o2/\x1 xs=(g6 s).getD []/\RgA (.slice A xs.length cap) xs o1 o2) [] (λw hO=>hp w hO.below) ?_)
 rintro v ob ⟨A,cap,xs,o1,o2,rfl,rfl,hx,hR⟩
 refine zB [] λb=>zA 11 [0] (bP s=0) (λh11=> ?_) (λh11=> ?_)
 rotate_left
 ·exact z7 [] Z5 λw hO=>⟨by unfold xP;rw [decide_eq_false h11];rfl,hO.below⟩
 have hf:=fine_get h11
 rw [←hx] at hf
 have hq:∀ w,Own [] W w (o1++o2)->YC 286 #[.agg #[.slice A xs.length cap]] w (YR (.string (mkS (jZ (x1 xs)))) w):=λw hO=>rsPrint_any A cap xs w (hR.inn rfl hO (λx hx=>List.mem_append_left _ hx) (λx hx=>List.mem_append_right _ hx) hf)
 refine z6 (v:= .string (mkS (jZ (x1 xs)))) [0] (λw hO=>hq w (hO.past 1 _)) (yS 16 [] (jZ (x1 xs)) s (λh=> ?_) (λh=> ?_))
 ·exact z7 [] Z4 λw hO=>⟨by unfold xP;rw [decide_eq_true h11,←hx,decide_eq_true h];rfl,hO.below⟩
 ·exact z7 [] Z5 λw hO=>⟨by unfold xP;rw [decide_eq_true h11,←hx,decide_eq_false h];rfl,hO.below⟩
theorem printM_is (l:List Nd):qO l=if dQ l then vK l else []:=rfl
theorem r10Print_any (A:Option Addr)(cap:Nat)(l:List Nd)(W:World)(hv:Reads nC W W.heap.size A l)(hn:l.length<=1000)(ht:∀ n∈l,n.text.length<=1000000):YC 284 #[.agg #[.slice A l.length cap]] W (YR (.string (mkS (qO l))) W):=by
 have hm:∀ w,YB W w->YC 319 #[.agg #[.slice A l.length cap]] w (YR (.bool (dQ l)) w):=λw hb=>r10May_any A cap l w (hv.on hb hb.size) hn ht
 refine z8 Tryz.func284 (zQ [] λb1=>z6 (v:= .bool (dQ l)) [0] (λw hO=>hm w hO.below) (zX 4 (dQ l) (λh=> ?_) (λh=> ?_)))
 rotate_left
 ·exact z7 [] (.string ⟨#[]⟩) λw hO=>⟨by rw [printM_is,h];rfl,hO.below⟩
 have hw:∀ w,YB W w->YC 320 #[.slice A l.length cap] w (YR (.string (mkS (vK l))) w):=λw hb=>r10whole_any A cap l w (hv.on hb hb.size) hn (by
  rw [tO] at h;simp only [Bool.and_eq_true] at h;exact h.2.1)
 exact z6 (v:= .string (mkS (vK l))) [0] (λw hO=>hw w hO.below) (z7 [] (.string (mkS (vK l))) λw hO=>⟨by rw [printM_is,h];rfl,hO.below⟩)
theorem nodR_cases (s:YL):gZ s=[]∨∃ t:Tr,t.ok=true/\t.fit=true/\gZ s=t.enc 0:=by
 unfold gZ
 split
 ·exact .inl rfl
 ·split
  ·exact .inl rfl
  ·cases h:gX s with
   |none=>exact .inl rfl
   |some t=>have:=readM_ok h;exact .inr ⟨t,this.1,this.2,rfl⟩
theorem nodR_fine (s:YL):(gZ s).length<=1000∧∀ n∈gZ s,n.text.length<=1000000:=by
 rcases nodR_cases s with e|⟨t,ho,hf,e⟩
 ·rw [e];simp
 ·rw [e,Tr.enc_len]
  have h15:t.sz<=15:=by unfold Tr.fit at hf;simp at hf;exact hf.1
  exact ⟨by omega,λn hn=>by have:=bE t 0 ho n hn;omega⟩
theorem r10Plain_any (s:YL)(W:World)(hs:s.length<=1000000):YC 244 #[.string (mkS s)] W (YR (.bool (yX s)) W):=by
 have hp:∀ w,YB W w->YC 283 #[.string (mkS s)] w λe w'=>∃ v ob,e= .returned v/\(∃ A cap,v= .tuple #[.agg #[.slice A (gZ s).length cap],YI (nY s)]/\SlN (.slice A (gZ s).length cap) (gZ s) ob)/\Own [] w w' ob:=λw hb=>by
  refine (r10Parse_any s w hs).mono λe w' ⟨v',ob',k1,k2,k3⟩=> ?_
  obtain ⟨A,cap,rfl⟩:∃ A cap,v'= .slice A (gZ s).length cap:=by
   rcases k2.2 with ⟨h1,h2,_⟩|⟨g,cap,_,h1,_⟩
   ·exact ⟨none,0,by rw [h1,h2]⟩
   ·exact ⟨_,cap,h1⟩
  exact ⟨_,ob',k1,⟨A,cap,rfl,k2⟩,k3⟩
 have hfi:=nodR_fine s
 refine z8 Tryz.func244 (yC (R:=λv ob=>∃ A cap,v= .tuple #[.agg #[.slice A (gZ s).length cap],YI (nY s)]/\SlN (.slice A (gZ s).length cap) (gZ s) ob) [] (λw hO=>hp w hO.below) ?_)
 rintro v ob ⟨A,cap,rfl,hR⟩
 refine zB [] λb=>zA 11 [0] (nY s=0) (λh11=> ?_) (λh11=> ?_)
 rotate_left
 ·exact z7 [] Z5 λw hO=>⟨by unfold yX;rw [decide_eq_false h11];rfl,hO.below⟩
 have hq:∀ w,Own [] W w ob->YC 284 #[.agg #[.slice A (gZ s).length cap]] w (YR (.string (mkS (qO (gZ s)))) w):=λw hO=>r10Print_any A cap (gZ s) w (Sl.reads hR rfl hO λx hx=>hx) hfi.1 hfi.2
 refine z6 (v:= .string (mkS (qO (gZ s)))) [0] (λw hO=>hq w (hO.past 1 _)) (yS 16 [] (qO (gZ s)) s (λh=> ?_) (λh=> ?_))
 ·exact z7 [] Z4 λw hO=>⟨by unfold yX;rw [decide_eq_true h11,decide_eq_true h];rfl,hO.below⟩
 ·exact z7 [] Z5 λw hO=>⟨by unfold yX;rw [decide_eq_true h11,decide_eq_false h];rfl,hO.below⟩
theorem r12feats_any (A:Option Addr)(cap:Nat)(l:List YL)(al:Bool)(W:World)(hv:Reads y7 W W.heap.size A l)(hn:l.length<=5000)(ht:∀ s∈l,s.length<=1000000):YC 282 #[.slice A l.length cap,.bool al] W (YR (.bool (wX l al)) W):=by
 refine z8 Tryz.func282 (zL (α:=Nat) (λi=>[(0,.slice A l.length cap),(1,.bool al),(5,YI (i:Int))]) (λ_=>[]) (λi m=>(i<=l.length∧∀ s∈l.take i,wdL s=true)/\m=l.length-i) 0 l.length [] ⟨⟨Nat.zero_le _,λy h=>by simp at h⟩,rfl⟩ ?_)
 rintro i mm g kk ⟨⟨hi,hno⟩,hmm⟩ nx hkk
 subst hkk
 refine zA 9 [] ((i:Int)<(l.length:Int)) (λh9=> ?_) (λh9=> ?_)
 ·have hj:i<l.length:=by omega
  obtain ⟨eb,eo,hA,hel⟩:=hv.elem zO i hj
  have hgo:=yL (p:=λs:YL=>wdL s=true) hj hno
  have hsm:l[i]∈l:=List.getElem_mem hj
  have hel0:∀ w,YB W w->(loadVar 9 ⟨eb,eo+i*1+0,none⟩).run YP w= .ok (.string (mkS l[i])) w:=λw hw=>hel w hw _ 0 _ Kr
  generalize l[i]=s at hel0 hgo hsm
  have hW:∀ w,YB W w->YC 245 #[.string (mkS s)] w (YR (.bool (wdL s)) w):=λw hb=>jM s w (ht s hsm)
  refine zH 14 [] hA l.length cap i 1 hj (zG 15 [] 9 eb (eo+i*1+0) (.string (mkS s)) (λw hO=>hel0 w hO.below) (z6 (v:= .bool (wdL s)) [] (λw hO=>hW w hO.below) (zX 16 (wdL s) (λh=> ?_) (λh=> ?_))))
  ·exact x_i 11 [] ((i+1:Nat):Int) (nx (i+1) (l.length-(i+1)) [] Om ⟨⟨hj,hgo h⟩,rfl⟩ Kr Kr)
  ·refine z7 [] Z5 λw hO=>⟨?_,hO.below⟩
   unfold wX
   rw [show l.all wdL=false from by rw [List.all_eq_false];exact ⟨s,hsm,by simp [h]⟩];rfl
 have hall:=xM (p:=λs:YL=>wdL s=true) (show l.length<=i by omega) hno
 have hal:l.all wdL=true:=List.all_eq_true.2 hall
 have hR:∀ w,YB W w->YC 287 #[.slice A l.length cap] w (YR (.bool (kE l)) w):=λw hb=>r1Rising_any A cap l w (hv.on hb hb.size) Om
 refine zA 20 [] ((l.length:Int)<=6) (λh20=> ?_) (λh20=> ?_)
 rotate_left
 ·exact z7 [] Z5 λw hO=>⟨by unfold wX;rw [hal,decide_eq_false (show ¬ l.length<=6 by omega)];rfl,hO.below⟩
 have h6:decide (l.length<=6)=true:=decide_eq_true Om
 refine z6 (v:= .bool (kE l)) [] (λw hO=>hR w hO.below) (zX 23 (kE l) (λh=> ?_) (λh=> ?_))
 rotate_left
 ·exact z7 [] Z5 λw hO=>⟨by unfold wX;rw [hal,h6,h];rfl,hO.below⟩
 cases al with
 |true=>exact z7 [] (.bool true) λw hO=>⟨by unfold wX;rw [hal,h6,h];rfl,hO.below⟩
 |false=>
  refine zA 30 [] ((l.length:Int)=0) (λh30=> ?_) (λh30=> ?_)
  ·exact z7 [] Z4 λw hO=>⟨by unfold wX;rw [hal,h6,h,decide_eq_true (List.eq_nil_of_length_eq_zero Om)];rfl,hO.below⟩
  ·exact z7 [] Z5 λw hO=>⟨by unfold wX;rw [hal,h6,h,decide_eq_false (λe=>h30 (by rw [e];rfl))];rfl,hO.below⟩
theorem r12wish_any (r:Rv)(x:Wv)(al:Bool)(W:World)(hv:Reads y7 W W.heap.size x.A x.fs)(hn:x.fs.length<=5000)(ht:x.name.length<=1000000/\x.rng.length<=1000000∧∀ s∈x.fs,s.length<=1000000):YC 243 #[rvV r,wvV x,.bool al] W (YR (YI (gM r.name x.wt al)) W):=by
 have h1:∀ w,YB W w->YC 73 #[.string (mkS x.name)] w (YR (.bool (nmL x.name)) w):=λw hb=>fU x.name w ht.1
 have h2:∀ w,YB W w->YC 246 #[.string (mkS x.rng)] w (YR (.bool (xP x.rng)) w):=λw hb=>r7Plain_any x.rng w ht.2.1
 have h3:∀ w,YB W w->YC 282 #[.slice x.A x.fs.length x.cap,.bool al] w (YR (.bool (wX x.fs al)) w):=λw hb=>r12feats_any x.A x.cap x.fs al w (hv.on hb hb.size) hn ht.2.2
 have hE:gM r.name x.wt al=if nmL x.name=false then 4 else if x.name=r.name then 8 else if xP x.rng=false then 6 else if wX x.fs al=false then 11 else 0:=rfl
 refine z8 Tryz.func243 (zQ [] λb3=>zQ [] λb4=>z6 (v:= .bool (nmL x.name)) [0] (λw hO=>h1 w hO.below) (zX 10 (nmL x.name) (λe1=> ?_) (λe1=> ?_)))
 rotate_left
 ·exact z7 [] (YI 4) λw hO=>⟨by rw [hE,if_pos e1],hO.below⟩
 refine yS 17 [0,1] x.name r.name (λe2=> ?_) (λe2=> ?_)
 ·exact z7 [] (YI 8) λw hO=>⟨by rw [hE,if_neg (by simp [e1]),if_pos e2],hO.below⟩
 refine z6 (v:= .bool (xP x.rng)) [0] (λw hO=>h2 w hO.below) (zX 21 (xP x.rng) (λe3=> ?_) (λe3=> ?_))
 rotate_left
 ·exact z7 [] (YI 6) λw hO=>⟨by rw [hE,if_neg (by simp [e1]),if_neg e2,if_pos e3],hO.below⟩
 refine z6 (v:= .bool (wX x.fs al)) [0] (λw hO=>h3 w hO.below) (zX 27 (wX x.fs al) (λe4=> ?_) (λe4=> ?_))
 ·exact z7 [] (YI 0) λw hO=>⟨by rw [hE,if_neg (by simp [e1]),if_neg e2,if_neg (by simp [e3]),if_neg (by simp [e4])],hO.below⟩
 ·exact z7 [] (YI 11) λw hO=>⟨by rw [hE,if_neg (by simp [e1]),if_neg e2,if_neg (by simp [e3]),if_pos e4],hO.below⟩
theorem r12bar_any (r:Rv)(x:Bv)(W:World)(ht:x.name.length<=1000000/\x.rng.length<=1000000/\x.wh.length<=1000000):YC 183 #[rvV r,bvV x] W (YR (YI (jV r.name x.bt)) W):=by
 have h1:∀ w,YB W w->YC 73 #[.string (mkS x.name)] w (YR (.bool (nmL x.name)) w):=λw hb=>fU x.name w ht.1
 have h2:∀ w,YB W w->YC 246 #[.string (mkS x.rng)] w (YR (.bool (xP x.rng)) w):=λw hb=>r7Plain_any x.rng w ht.2.1
 have h3:∀ w,YB W w->YC 244 #[.string (mkS x.wh)] w (YR (.bool (yX x.wh)) w):=λw hb=>r10Plain_any x.wh w ht.2.2
 have hE:jV r.name x.bt=if nmL x.name=false then 4 else if x.name=r.name then 8 else if xP x.rng=false then 6 else if yX x.wh=false then 7 else 0:=rfl
 refine z8 Tryz.func183 (zQ [] λb3=>zQ [] λb4=>z6 (v:= .bool (nmL x.name)) [0] (λw hO=>h1 w hO.below) (zX 8 (nmL x.name) (λe1=> ?_) (λe1=> ?_)))
 rotate_left
 ·exact z7 [] (YI 4) λw hO=>⟨by rw [hE,if_pos e1],hO.below⟩
 refine yS 15 [0,1] x.name r.name (λe2=> ?_) (λe2=> ?_)
 ·exact z7 [] (YI 8) λw hO=>⟨by rw [hE,if_neg (by simp [e1]),if_pos e2],hO.below⟩
 refine z6 (v:= .bool (xP x.rng)) [0] (λw hO=>h2 w hO.below) (zX 19 (xP x.rng) (λe3=> ?_) (λe3=> ?_))
 rotate_left
 ·exact z7 [] (YI 6) λw hO=>⟨by rw [hE,if_neg (by simp [e1]),if_neg e2,if_pos e3],hO.below⟩
 refine z6 (v:= .bool (yX x.wh)) [0] (λw hO=>h3 w hO.below) (zX 24 (yX x.wh) (λe4=> ?_) (λe4=> ?_))
 ·exact z7 [] (YI 0) λw hO=>⟨by rw [hE,if_neg (by simp [e1]),if_neg e2,if_neg (by simp [e3]),if_neg (by simp [e4])],hO.below⟩
 ·exact z7 [] (YI 7) λw hO=>⟨by rw [hE,if_neg (by simp [e1]),if_neg e2,if_neg (by simp [e3]),if_pos e4],hO.below⟩
end
section
set_option linter.unnecessarySimpa false
def SuW (x:Wv):Prop:=x.name.length<=1000000/\x.rng.length<=1000000∧∀ s∈x.fs,s.length<=1000000
theorem needE_is (own:YL)(x:Nv):g8 own x.nt=if x.any=[] then 9 else if 3<x.any.length then 3 else if yQ (λu:Wv=>gM own u.wt (decide (x.any.length=1))) x.any≠0 then yQ (λu:Wv=>gM own u.wt (decide (x.any.length=1))) x.any
 else if yX x.wh=false then 7 else if x.opt≠[]/\wdL x.opt=false then 14 else 0:=by
 unfold g8
 simp only [Nv.nt,firstE_map,List.length_map,List.map_eq_nil_iff]
 rfl
theorem r12need_any (r:Rv)(x:Nv)(W:World)(hv:Reads wvC W W.heap.size x.A x.any)(hf:∀ u∈x.any,Reads y7 W W.heap.size u.A u.fs)(hn:x.any.length<=5000)(hnf:∀ u∈x.any,u.fs.length<=5000)(hs:x.wh.length<=1000000/\x.opt.length<=1000000)(hsu:∀ u∈x.any,SuW u):YC 182 #[rvV r,nvV x] W (YR (YI (g8 r.name x.nt)) W):=by
 have hE:=needE_is r.name x
 refine z8 Tryz.func182 (zQ [] λb2=>zQ [] λb3=>zA 10 [0] ((x.any.length:Int)=0) (λh10=> ?_) (λh10=> ?_))
 ·exact z7 [] (YI 9) λw hO=>⟨by rw [hE,if_pos (List.eq_nil_of_length_eq_zero Om)],hO.below⟩
 have h10':¬ x.any=[]:=λe=>h10 (by rw [e];rfl)
 rw [if_neg h10'] at hE
 refine zA 14 [0] ((x.any.length:Int)>3) (λh14=> ?_) (λh14=> ?_)
 ·exact z7 [] (YI 3) λw hO=>⟨by rw [hE,if_pos Om],hO.below⟩
 rw [if_neg (show ¬ 3<x.any.length by omega)] at hE
 refine zL (α:=Nat) (λi=>[(2,Zp b2 0),(3,Zp b3 0),(5,YI (i:Int))]) (λ_=>[⟨b3, #[.slice x.A x.any.length x.cap,.string (mkS x.wh),.string (mkS x.opt)],83⟩,⟨b2,(rvC r).toArray,29⟩]) (λi m=>(i<=x.any.length∧∀ u∈x.any.take i,gM r.name u.wt (decide (x.any.length=1))=0)/\m=x.any.length-i) 0 x.any.length [] ⟨⟨Nat.zero_le _,λy h=>by simp at h⟩,rfl⟩ ?_
 rintro i mm g kk ⟨⟨hi,hno⟩,hmm⟩ nx hkk
 subst hkk
 refine zA 19 [0] ((i:Int)<(x.any.length:Int)) (λh19=> ?_) (λh19=> ?_)
 ·have hj:i<x.any.length:=by omega
  obtain ⟨eb,eo,hA,hel⟩:=hv.elem vJ i hj
  have hgo:=yL (p:=λu:Wv=>gM r.name u.wt (decide (x.any.length=1))=0) hj hno
  have hat:=nV (f:=λu:Wv=>gM r.name u.wt (decide (x.any.length=1))) hj hno
  have hsm:x.any[i]∈x.any:=List.getElem_mem hj
  have hel0:∀ w,YB W w->(loadVar 146 ⟨eb,eo+i*4+0,none⟩).run YP w= .ok (wvV x.any[i]) w:=λw hw=>hel w hw _ 0 _ Kr
  have hru:=hf _ hsm;have hnu:=hnf _ hsm;have hlu:=hsu _ hsm
  generalize x.any[i]=u at hel0 hgo hat hru hnu hlu
  have hc:∀ w,YB W w->YC 243 #[rvV r,wvV u,.bool (decide ((x.any.length:Int)=1))] w (YR (YI (gM r.name u.wt (decide (x.any.length=1)))) w):=λw hb=>by
   rw [show decide (x.any.length=1)=decide ((x.any.length:Int)=1) from decide_eq_decide.2 Om]
   exact r12wish_any r u _ w (hru.on hb hb.size) hnu hlu
  refine zH 26 [1,0] hA x.any.length x.cap i 4 hj (zG 27 [] 146 eb (eo+i*4+0) (wvV u) (λw hO=>hel0 w hO.below) (z6 (v:=YI (gM r.name u.wt (decide (x.any.length=1)))) [0] (λw hO=>hc w hO.below) (kW 34 [] (gM r.name u.wt (decide (x.any.length=1))=0) (λh=> ?_) (λh=> ?_))))
  ·exact x_i 21 [] ((i+1:Nat):Int) (nx (i+1) (x.any.length-(i+1)) [] Om ⟨⟨hj,hgo h⟩,rfl⟩ Kr Kr)
  ·refine z7 [] (YI (gM r.name u.wt (decide (x.any.length=1)))) λw hO=>⟨?_,hO.below⟩
   rw [hE,hat h,if_pos h]
 have hall:=jT (xM (p:=λu:Wv=>gM r.name u.wt (decide (x.any.length=1))=0) (show x.any.length<=i by omega) hno)
 rw [hall,if_neg (by simp)] at hE
 have h2:∀ w,YB W w->YC 244 #[.string (mkS x.wh)] w (YR (.bool (yX x.wh)) w):=λw hb=>r10Plain_any x.wh w hs.1
 have h3:∀ w,YB W w->YC 245 #[.string (mkS x.opt)] w (YR (.bool (wdL x.opt)) w):=λw hb=>jM x.opt w hs.2
 refine z6 (v:= .bool (yX x.wh)) [0] (λw hO=>h2 w hO.below) (zX 38 (yX x.wh) (λe3=> ?_) (λe3=> ?_))
 rotate_left
 ·exact z7 [] (YI 7) λw hO=>⟨by rw [hE,if_pos e3],hO.below⟩
 rw [if_neg (by simp [e3])] at hE
 refine gR 42 [0] x.opt [] (λe4=> ?_) (λe4=> ?_)
 ·exact z7 [] (YI 0) λw hO=>⟨by rw [hE,if_neg (λh=>h.1 e4)],hO.below⟩
 refine z6 (v:= .bool (wdL x.opt)) [0] (λw hO=>h3 w hO.below) (zX 46 (wdL x.opt) (λe5=> ?_) (λe5=> ?_))
 ·exact z7 [] (YI 0) λw hO=>⟨by rw [hE,if_neg (λh=>by rw [e5] at h;simp at h)],hO.below⟩
 ·exact z7 [] (YI 14) λw hO=>⟨by rw [hE,if_pos ⟨e4,e5⟩],hO.below⟩
theorem optR_is (r:Rv)(s:YL):optR r.rt.needs s=r.needs.any λn=>decide (n.opt=s):=by
 unfold optR;simp only [Rv.rt,List.any_map];rfl
theorem r12option_any (r:Rv)(s:YL)(W:World)(hv:Reads nvC W W.heap.size r.nA r.needs)(hn:r.needs.length<=5000):YC 249 #[rvV r,.string (mkS s)] W (YR (.bool (optR r.rt.needs s)) W):=by
 rw [optR_is]
 refine z8 Tryz.func249 (zQ [] λb2=>zL (α:=Nat) (λi=>[(1,.string (mkS s)),(2,Zp b2 0),(5,YI (i:Int))]) (λ_=>[⟨b2,(rvC r).toArray,29⟩]) (λi m=>(i<=r.needs.length∧∀ n∈r.needs.take i,n.opt≠s)/\m=r.needs.length-i) 0 r.needs.length [] ⟨⟨Nat.zero_le _,λy h=>by simp at h⟩,rfl⟩ ?_)
 rintro i mm g kk ⟨⟨hi,hno⟩,hmm⟩ nx hkk
 subst hkk
 refine zA 10 [0] ((i:Int)<(r.needs.length:Int)) (λh10=> ?_) (λh10=> ?_)
 rotate_left
 ·refine z7 [] Z5 λw hO=>⟨?_,hO.below⟩
  have hall:=xM (p:=λn:Nv=>n.opt≠s) (show r.needs.length<=i by omega) hno
  rw [show (r.needs.any λn=>decide (n.opt=s))=false from by rw [List.any_eq_false];exact λn h=>by simpa using hall n h]
 have hj:i<r.needs.length:=by omega
 obtain ⟨eb,eo,hA,hel⟩:=hv.elem w6 i hj
 have hgo:=yL (p:=λn:Nv=>n.opt≠s) hj hno
 have hsm:r.needs[i]∈r.needs:=List.getElem_mem hj
 have hel0:∀ w,YB W w->(loadVar 9 ⟨eb,eo+i*3+2,none⟩).run YP w= .ok (.string (mkS r.needs[i].opt)) w:=λw hw=>hel w hw _ 2 _ Kr
 generalize r.needs[i]=n at hel0 hgo hsm
 refine zH 16 [0] hA r.needs.length r.nc i 3 hj (zG 18 [] 9 eb (eo+i*3+2) (.string (mkS n.opt)) (λw hO=>hel0 w hO.below) (yS 20 [] n.opt s (λh=> ?_) (λh=> ?_)))
 ·refine z7 [] Z4 λw hO=>⟨?_,hO.below⟩
  rw [show (r.needs.any λn=>decide (n.opt=s))=true from List.any_eq_true.2 ⟨n,hsm,decide_eq_true h⟩]
 ·exact x_i 12 [] ((i+1:Nat):Int) (nx (i+1) (r.needs.length-(i+1)) [] Om ⟨⟨hj,hgo h⟩,rfl⟩ Kr Kr)
theorem pulR_is (r:Rv)(s:YL):pulR r.rt.needs s=r.needs.any λn=>pulN s n.nt:=by
 unfold pulR;simp only [Rv.rt,List.any_map];rfl
theorem pulN_one (s:YL)(n:Nv)(h0:0<n.any.length)(h1:n.any.length=1):pulN s n.nt=decide (n.any[0].name=s):=by
 obtain ⟨A,cap,any,wh,opt⟩:=n
 match any,h0,h1 with
 | [u],_,_=>rfl
theorem r12pulled_any (r:Rv)(s:YL)(W:World)(hv:Reads nvC W W.heap.size r.nA r.needs)(hf:∀ n∈r.needs,Reads wvC W W.heap.size n.A n.any)(hn:r.needs.length<=5000):YC 250 #[rvV r,.string (mkS s)] W (YR (.bool (pulR r.rt.needs s)) W):=by
 rw [pulR_is]
 refine z8 Tryz.func250 (zQ [] λb2=>zL (α:=Nat) (λi=>[(1,.string (mkS s)),(2,Zp b2 0),(5,YI (i:Int))]) (λ_=>[⟨b2,(rvC r).toArray,29⟩]) (λi m=>(i<=r.needs.length∧∀ n∈r.needs.take i,pulN s n.nt=false)/\m=r.needs.length-i) 0 r.needs.length [] ⟨⟨Nat.zero_le _,λy h=>by simp at h⟩,rfl⟩ ?_)
 rintro i mm g kk ⟨⟨hi,hno⟩,hmm⟩ nx hkk
 subst hkk
 refine zA 10 [0] ((i:Int)<(r.needs.length:Int)) (λh10=> ?_) (λh10=> ?_)
 rotate_left
 ·refine z7 [] Z5 λw hO=>⟨?_,hO.below⟩
  have hall:=xM (p:=λn:Nv=>pulN s n.nt=false) (show r.needs.length<=i by omega) hno
  rw [show (r.needs.any λn=>pulN s n.nt)=false from by rw [List.any_eq_false];exact λn h=>by simpa using hall n h]
 have hj:i<r.needs.length:=by omega
 obtain ⟨eb,eo,hA,hel⟩:=hv.elem w6 i hj
 have hgo:=yL (p:=λn:Nv=>pulN s n.nt=false) hj hno
 have hsm:r.needs[i]∈r.needs:=List.getElem_mem hj
 have hel0:∀ w,YB W w->(loadVar 81 ⟨eb,eo+i*3+0,none⟩).run YP w= .ok (.slice r.needs[i].A r.needs[i].any.length r.needs[i].cap) w:=λw hw=>hel w hw _ 0 _ Kr
 have hra:=hf _ hsm
 generalize r.needs[i]=n at hel0 hgo hsm hra
 refine zH 16 [0] hA r.needs.length r.nc i 3 hj (zG 18 [] 81 eb (eo+i*3+0) (.slice n.A n.any.length n.cap) (λw hO=>hel0 w hO.below) (zA 20 [] ((n.any.length:Int)=1) (λh20=> ?_) (λh20=> ?_)))
 rotate_left
 ·have hp0:pulN s n.nt=false:=by
   unfold pulN Nv.nt
   match hm:n.any with
   | []=>rfl
   | [_]=>rw [hm] at h20;simp at h20
   |_::_::_=>rfl
  exact x_i 12 [] ((i+1:Nat):Int) (nx (i+1) (r.needs.length-(i+1)) [] Om ⟨⟨hj,hgo hp0⟩,rfl⟩ Kr Kr)
 have h0:0<n.any.length:=by omega
 obtain ⟨fb,fo,hA2,hel2⟩:=hra.elem vJ 0 h0
 have hpu:=pulN_one s n h0 Om
 have l0:∀ w,YB W w->(loadVar 9 ⟨fb,fo+0*4+0,none⟩).run YP w= .ok (.string (mkS n.any[0].name)) w:=λw hw=>hel2 w hw _ 0 _ Kr
 generalize n.any[0]=u at hpu l0
 refine zH 25 [0] hA r.needs.length r.nc i 3 hj (zG 27 [] 81 eb (eo+i*3+0) (.slice n.A n.any.length n.cap) (λw hO=>hel0 w hO.below) (zH 28 [] hA2 n.any.length n.cap 0 4 h0 (zG 30 [] 9 fb (fo+0*4+0) (.string (mkS u.name)) (λw hO=>l0 w hO.below) (yS 32 [] u.name s (λh=> ?_) (λh=> ?_)))))
 ·refine z7 [] Z4 λw hO=>⟨?_,hO.below⟩
  rw [show (r.needs.any λn=>pulN s n.nt)=true from List.any_eq_true.2 ⟨n,hsm,by rw [hpu];exact decide_eq_true h⟩]
 ·exact x_i 12 [] ((i+1:Nat):Int) (nx (i+1) (r.needs.length-(i+1)) [] Om ⟨⟨hj,hgo (by rw [hpu];exact decide_eq_false h)⟩,rfl⟩ Kr Kr)
theorem r12items_any (r:Rv)(A:Option Addr)(cap:Nat)(l:List YL)(W:World)(hr:RcIn W W.heap.size r)(hv:Reads y7 W W.heap.size A l)(hn:l.length<=5000)(ht:∀ s∈l,s.length<=1000000):YC 185 #[rvV r,.slice A l.length cap] W (YR (YI (yQ (xG r.rt.needs) l)) W):=by
 refine z8 Tryz.func185 (zQ [] λb2=>zL (α:=Nat) (λi=>[(1,.slice A l.length cap),(2,Zp b2 0),(5,YI (i:Int))]) (λ_=>[⟨b2,(rvC r).toArray,29⟩]) (λi m=>(i<=l.length∧∀ s∈l.take i,xG r.rt.needs s=0)/\m=l.length-i) 0 l.length [] ⟨⟨Nat.zero_le _,λy h=>by simp at h⟩,rfl⟩ ?_)
 rintro i mm g kk ⟨⟨hi,hno⟩,hmm⟩ nx hkk
 subst hkk
 refine zA 12 [] ((i:Int)<(l.length:Int)) (λh12=> ?_) (λh12=> ?_)
 rotate_left
 ·refine z7 [] (YI 0) λw hO=>⟨?_,hO.below⟩
  rw [jT (xM (p:=λs=>xG r.rt.needs s=0) (show l.length<=i by omega) hno)]
 have hj:i<l.length:=by omega
 obtain ⟨eb,eo,hA,hel⟩:=hv.elem zO i hj
 have hgo:=yL (p:=λs=>xG r.rt.needs s=0) hj hno
 have hat:=nV (f:=xG r.rt.needs) hj hno
 have hsm:l[i]∈l:=List.getElem_mem hj
 have hel0:∀ w,YB W w->(loadVar 9 ⟨eb,eo+i*1+0,none⟩).run YP w= .ok (.string (mkS l[i])) w:=λw hw=>hel w hw _ 0 _ Kr
 have hls:=ht _ hsm
 generalize l[i]=s at hel0 hgo hat hls
 have hE:xG r.rt.needs s=if (zM s).1=2/\optR r.rt.needs (zM s).2.1=false then 14 else if (zM s).1=3/\pulR r.rt.needs (zM s).2.1=false then 16 else 0:=rfl
 have hI:∀ w,YB W w->YC 248 #[.string (mkS s)] w (YR (.tuple #[YI (zM s).1,.string (mkS (zM s).2.1),.string (mkS (zM s).2.2)]) w):=λw hb=>r11Item_any s w hls
 generalize zM s=q at hE hI
 obtain ⟨kd,nm,sf⟩:=q
 have hO1:∀ w,YB W w->YC 249 #[rvV r,.string (mkS nm)] w (YR (.bool (optR r.rt.needs nm)) w):=λw hb=>r12option_any r nm w (hr.needs.on hb hb.size) hr.nn
 have hP1:∀ w,YB W w->YC 250 #[rvV r,.string (mkS nm)] w (YR (.bool (pulR r.rt.needs nm)) w):=λw hb=>r12pulled_any r nm w (hr.needs.on hb hb.size) (λn h=>(hr.any n h).on hb hb.size) hr.nn
 refine zH 18 [] hA l.length cap i 1 hj (zG 19 [] 9 eb (eo+i*1+0) (.string (mkS s)) (λw hO=>hel0 w hO.below) (z6 (v:= .tuple #[YI kd,.string (mkS nm),.string (mkS sf)]) [] (λw hO=>hI w hO.below) (zA 25 [] (kd=2) (λh25=> ?_) (λh25=> ?_))))
 ·subst h25
  refine z6 (v:= .bool (optR r.rt.needs nm)) [0] (λw hO=>hO1 w hO.below) (zX 29 (optR r.rt.needs nm) (λe1=> ?_) (λe1=> ?_))
  ·exact x_i 14 [] ((i+1:Nat):Int) (nx (i+1) (l.length-(i+1)) [] Om ⟨⟨hj,hgo (by rw [hE,if_neg (λh=>by have:=h.2;rw [e1] at this;simp at this),if_neg (λh=>by simp at h)])⟩,rfl⟩ Kr Kr)
  ·have h14:xG r.rt.needs s=14:=by rw [hE,if_pos ⟨rfl,e1⟩]
   exact z7 [] (YI 14) λw hO=>⟨by rw [hat (by rw [h14];decide),h14],hO.below⟩
 refine zA 33 [] (kd=3) (λh33=> ?_) (λh33=> ?_)
 ·subst h33
  refine z6 (v:= .bool (pulR r.rt.needs nm)) [0] (λw hO=>hP1 w hO.below) (zX 37 (pulR r.rt.needs nm) (λe1=> ?_) (λe1=> ?_))
  ·exact x_i 14 [] ((i+1:Nat):Int) (nx (i+1) (l.length-(i+1)) [] Om ⟨⟨hj,hgo (by rw [hE,if_neg (λh=>by simp at h),if_neg (λh=>by have:=h.2;rw [e1] at this;simp at this)])⟩,rfl⟩ Kr Kr)
  ·have h16:xG r.rt.needs s=16:=by rw [hE,if_neg (λh=>by simp at h),if_pos ⟨rfl,e1⟩]
   exact z7 [] (YI 16) λw hO=>⟨by rw [hat (by rw [h16];decide),h16],hO.below⟩
 ·exact x_i 14 [] ((i+1:Nat):Int) (nx (i+1) (l.length-(i+1)) [] Om ⟨⟨hj,hgo (by rw [hE,if_neg (λh=>h25 h.1),if_neg (λh=>h33 h.1)])⟩,rfl⟩ Kr Kr)
end
section
set_option linter.unnecessarySimpa false
theorem wishE_targ (own:YL)(u:Wt)(al:Bool):gM own u al=if jJ own u.name u.rng≠0 then jJ own u.name u.rng else if wX u.fs al=false then 11 else 0:=by
 unfold gM jJ
 split
 ·simp
 ·split
  ·simp
  ·split<;>simp
def needC (n:Nv)(b:Nat):Blk:=⟨b, #[.slice n.A n.any.length n.cap,.string (mkS n.wh),.string (mkS n.opt)],83⟩
theorem qNeed_any (own:YL)(n:Nv)(W:World)(hv:Reads wvC W W.heap.size n.A n.any)(hf:∀ u∈n.any,Reads y7 W W.heap.size u.A u.fs)(hn:n.any.length<=5000)(hnf:∀ u∈n.any,u.fs.length<=5000)(hs:n.wh.length<=1000000/\n.opt.length<=1000000)(hsu:∀ u∈n.any,SuW u)(hK:RecLib W):YC 103 #[nvV n,.string (mkS own)] W (YR (YI (g8 own n.nt)) W):=by
 have hE:=needE_is own n
 refine z8 Tryz.func103 (zQ [] λb2=>zA 11 [0] ((n.any.length:Int)=0) (λh11=> ?_) (λh11=> ?_))
 ·exact z7 [] (YI 9) λw hO=>⟨by rw [hE,if_pos (List.eq_nil_of_length_eq_zero Om)],hO.below⟩
 have h11':¬ n.any=[]:=λe=>h11 (by rw [e];rfl)
 rw [if_neg h11'] at hE
 refine zA 15 [0] ((n.any.length:Int)>3) (λh15=> ?_) (λh15=> ?_)
 ·exact z7 [] (YI 3) λw hO=>⟨by rw [hE,if_pos Om],hO.below⟩
 rw [if_neg (show ¬ 3<n.any.length by omega)] at hE
 refine zL (α:=Nat) (λi=>[(1,.string (mkS own)),(2,Zp b2 0),(17,.slice n.A n.any.length n.cap),(18,YI (n.any.length:Int)),(19,YI (i:Int))]) (λ_=>[needC n b2]) (λi m=>(i<=n.any.length∧∀ u∈n.any.take i,gM own u.wt (decide (n.any.length=1))=0)/\m=n.any.length-i) 0 n.any.length [0] ⟨⟨Nat.zero_le _,λy h=>by simp at h⟩,rfl⟩ ?_
 rintro i mm g kk ⟨⟨hi,hno⟩,hmm⟩ nx hkk
 subst hkk
 refine zA 20 [] ((i:Int)<(n.any.length:Int)) (λh20=> ?_) (λh20=> ?_)
 ·have hj:i<n.any.length:=by omega
  obtain ⟨eb,eo,hA,hel⟩:=hv.elem vJ i hj
  have hgo:=yL (p:=λu:Wv=>gM own u.wt (decide (n.any.length=1))=0) hj hno
  have hat:=nV (f:=λu:Wv=>gM own u.wt (decide (n.any.length=1))) hj hno
  have hsm:n.any[i]∈n.any:=List.getElem_mem hj
  have hel0:∀ w,YB W w->(loadVar 146 ⟨eb,eo+i*4+0,none⟩).run YP w= .ok (wvV n.any[i]) w:=λw hw=>hel w hw _ 0 _ Kr
  have hru:=hf _ hsm;have hnu:=hnf _ hsm;have hlu:=hsu _ hsm
  generalize n.any[i]=u at hel0 hgo hat hru hnu hlu
  have hW:gM own u.wt (decide (n.any.length=1))=if jJ own u.name u.rng≠0 then jJ own u.name u.rng else if (askB u.fs && (decide (n.any.length=1)||decide (u.fs=[])))=false then 11 else 0:=wishE_targ own u.wt _
  have c1:∀ w,YB W w->YC 170 #[.string (mkS u.name),.string (mkS u.rng),.string (mkS own)] w (YR (YI (jJ own u.name u.rng)) w):=λw h=>qTarget_any u.name u.rng own w hlu.1 hlu.2.1 (hK.on h)
  have c2:∀ w,YB W w->YC 171 #[.slice u.A u.fs.length u.cap] w (YR (.bool (askB u.fs)) w):=λw hb=>qAsk_any u.A u.cap u.fs w (hru.on hb hb.size) hnu hlu.2.2
  refine zH 21 [] hA n.any.length n.cap i 4 hj (zG 22 [] 146 eb (eo+i*4+0) (wvV u) (λw hO=>hel0 w hO.below) (zB [] λb6=>z6 (v:=YI (jJ own u.name u.rng)) [0,0,0] (λw hO=>c1 w hO.below) (kW 30 [] (jJ own u.name u.rng=0) (λh1=> ?_) (λh1=> ?_))))
  rotate_left
  ·rw [if_pos h1] at hW
   refine z7 [] (YI (jJ own u.name u.rng)) λw hO=>⟨?_,hO.below⟩
   rw [hE,hat (by rw [hW];exact h1),hW,if_pos h1]
  rw [if_neg (λq=>q h1)] at hW
  have fin:askB u.fs=false->gM own u.wt (decide (n.any.length=1))=11:=λh=>by rw [hW,h];rfl
  have out:gM own u.wt (decide (n.any.length=1))=11->g8 own n.nt=11:=λh=>by
   rw [hE,hat (by rw [h];decide),h];rfl
  refine zA 35 [0] ((u.fs.length:Int)>0) (λh35=> ?_) (λh35=> ?_)
  ·refine zA 40 [1] ((n.any.length:Int)>1) (λh40=> ?_) (λh40=> ?_)
   ·refine z7 [] (YI 11) λw hO=>⟨?_,hO.below⟩
    rw [out (by rw [hW,decide_eq_false (show ¬ n.any.length=1 by omega),decide_eq_false (λe=>by rw [e] at h35;simp at h35)];simp)]
   ·refine z6 (v:= .bool (askB u.fs)) [0] (λw hO=>c2 w hO.below) (zX 45 (askB u.fs) (λh45=> ?_) (λh45=> ?_))
    ·have hz:gM own u.wt (decide (n.any.length=1))=0:=by rw [hW,h45,decide_eq_true (show n.any.length=1 by omega)];rfl
     exact x_i 19 [] ((i+1:Nat):Int) (zK [] [needC n b2] (λw hO=>hO.past 1 _) (nx (i+1) (n.any.length-(i+1)) [] Om ⟨⟨hj,hgo hz⟩,rfl⟩ Kr Kr))
    ·exact z7 [] (YI 11) λw hO=>⟨by rw [out (fin h45)],hO.below⟩
  ·refine z6 (v:= .bool (askB u.fs)) [0] (λw hO=>c2 w hO.below) (zX 45 (askB u.fs) (λh45=> ?_) (λh45=> ?_))
   ·have hz:gM own u.wt (decide (n.any.length=1))=0:=by
     rw [hW,h45,decide_eq_true (show u.fs=[] from List.eq_nil_of_length_eq_zero Om)];simp
    exact x_i 19 [] ((i+1:Nat):Int) (zK [] [needC n b2] (λw hO=>hO.past 1 _) (nx (i+1) (n.any.length-(i+1)) [] Om ⟨⟨hj,hgo hz⟩,rfl⟩ Kr Kr))
   ·exact z7 [] (YI 11) λw hO=>⟨by rw [out (fin h45)],hO.below⟩
 have hall:=jT (xM (p:=λu:Wv=>gM own u.wt (decide (n.any.length=1))=0) (show n.any.length<=i by omega) hno)
 rw [hall,if_neg (by simp)] at hE
 have h2:∀ w,YB W w->YC 172 #[.string (mkS n.wh)] w (YR (.bool (yX n.wh)) w):=λw hb=>qMark_any n.wh w hs.1 (hK.on hb)
 have h3:∀ w,YB W w->YC 173 #[.string (mkS n.opt)] w (YR (.bool (wdL n.opt)) w):=λw hb=>d8 n.opt w hs.2
 refine z6 (v:= .bool (yX n.wh)) [0] (λw hO=>h2 w hO.below) (zX 51 (yX n.wh) (λe3=> ?_) (λe3=> ?_))
 rotate_left
 ·exact z7 [] (YI 7) λw hO=>⟨by rw [hE,if_pos e3],hO.below⟩
 rw [if_neg (by simp [e3])] at hE
 refine gR 55 [0] n.opt [] (λe4=> ?_) (λe4=> ?_)
 ·exact z7 [] (YI 0) λw hO=>⟨by rw [hE,if_neg (λh=>h.1 e4)],hO.below⟩
 refine z6 (v:= .bool (wdL n.opt)) [0] (λw hO=>h3 w hO.below) (zX 59 (wdL n.opt) (λe5=> ?_) (λe5=> ?_))
 ·exact z7 [] (YI 0) λw hO=>⟨by rw [hE,if_neg (λh=>by rw [e5] at h;simp at h)],hO.below⟩
 ·exact z7 [] (YI 14) λw hO=>⟨by rw [hE,if_pos ⟨e4,e5⟩],hO.below⟩
def pulB (s:YL)(n:Nv):Bool:=pulN s n.nt
theorem qOpt_any (n:Nv)(s:YL)(b:Nat)(W:World)(hc:W.heap[b]?=some (.cells #[.string (mkS s)] 9)):YC 176 #[nvV n,.pointer (some ⟨b,0,none⟩)] W (YR (.bool (decide (n.opt=s))) W):=by
 have hb:b<W.heap.size:=(Array.getElem?_eq_some_iff.1 hc).1
 refine z8 Tryz.func176 (zQ [] λb2=>zG 6 [0] 9 b 0 (.string (mkS s)) (λw hO=>x7 Kr ((hO.below.block b hb).trans hc)) (yS 7 [] n.opt s (λh=> ?_) (λh=> ?_)))
 ·exact z7 [] Z4 λw hO=>⟨by rw [decide_eq_true h],hO.below⟩
 ·exact z7 [] Z5 λw hO=>⟨by rw [decide_eq_false h],hO.below⟩
theorem qPul_any (n:Nv)(s:YL)(b:Nat)(W:World)(hv:Reads wvC W W.heap.size n.A n.any)(hc:W.heap[b]?=some (.cells #[.string (mkS s)] 9)):YC 178 #[nvV n,.pointer (some ⟨b,0,none⟩)] W (YR (.bool (pulB s n)) W):=by
 have hb:b<W.heap.size:=(Array.getElem?_eq_some_iff.1 hc).1
 refine z8 Tryz.func178 (zQ [] λb2=>zA 7 [0] ((n.any.length:Int)=1) (λh7=> ?_) (λh7=> ?_))
 rotate_left
 ·refine z7 [] Z5 λw hO=>⟨?_,hO.below⟩
  have:pulB s n=false:=by
   unfold pulB pulN
   split
   ·rename_i x h
    have:=congrArg List.length h
    simp only [Nv.nt,List.length_map,List.length_cons,List.length_nil] at this
    omega
   ·rfl
  rw [this]
 have h1:n.any.length=1:=by omega
 obtain ⟨eb,eo,hA,hel⟩:=hv.elem vJ 0 Om
 have hel0:∀ w,YB W w->(loadVar 9 ⟨eb,eo+0*4+0,none⟩).run YP w= .ok (.string (mkS (n.any[0]'Om).name)) w:=λw hw=>hel w hw _ 0 _ Kr
 have hp:pulB s n=decide ((n.any[0]'Om).name=s):=by
  obtain ⟨x,hx⟩:=List.length_eq_one_iff.1 h1
  have e:n.any[0]'Om=x:=by simp only [hx,List.getElem_cons_zero]
  rw [e]
  unfold pulB pulN
  rw [show n.nt.any=[x.wt] from by show n.any.map Wv.wt=_;rw [hx];rfl];rfl
 generalize n.any[0]=u at hel0 hp
 refine zH 11 [0] hA n.any.length n.cap 0 4 (by omega) (zG 13 [] 9 eb (eo+0*4+0) (.string (mkS u.name)) (λw hO=>hel0 w hO.below) (zG 14 [] 9 b 0 (.string (mkS s)) (λw hO=>x7 Kr ((hO.below.block b hb).trans hc)) (yS 15 [] u.name s (λh=> ?_) (λh=> ?_))))
 ·exact z7 [] Z4 λw hO=>⟨by rw [hp,decide_eq_true h],hO.below⟩
 ·exact z7 [] Z5 λw hO=>⟨by rw [hp,decide_eq_false h],hO.below⟩
theorem qHas1_any (p:Nv->Bool)(A:Option Addr)(cap:Nat)(l:List Nv)(b:Nat)(W:World)(hv:Reads nvC W W.heap.size A l)(hn:l.length<=5000)(hp:∀ n∈l,∀ w,YB W w->YC 176 #[nvV n,.pointer (some ⟨b,0,none⟩)] w (YR (.bool (p n)) w)):YC 177 #[.slice A l.length cap,.func (.func 176) #[] #[.pointer (some ⟨b,0,none⟩)]] W (YR (.bool (l.any p)) W):=by
 have key:∀ w,YB W w->YC 237 #[.slice A l.length cap,.func (.func 176) #[] #[.pointer (some ⟨b,0,none⟩)]] w λe w'=>∃ v,e= .returned v/\(∃ z:Int,v=YI z/\decide (0<=z)=l.any p)/\YB w w':=λw0 hb0=>by
  have hv0:=hv.on hb0 hb0.size
  have hp0:∀ n∈l,∀ w,YB w0 w->YC 176 #[nvV n,.pointer (some ⟨b,0,none⟩)] w (YR (.bool (p n)) w):=λn hn w hb=>hp n hn w (hb0.trans (hb.mono hb0.size))
  clear hp hv hb0
  refine z8 Tryz.func237 (zL (α:=Nat) (λi=>[(0,.slice A l.length cap),(1,.func (.func 176) #[] #[Zp b 0]),(7,YI (l.length:Int)),(8,YI (i:Int))]) (λ_=>[]) (λi m=>(i<=l.length∧∀ y∈l.take i,p y=false)/\m=l.length-i) 0 l.length [] ⟨⟨Nat.zero_le _,λy h=>by simp at h⟩,rfl⟩ ?_)
  rintro i mm g kk ⟨⟨hi,hno⟩,hmm⟩ nx hkk
  subst hkk
  refine zA 9 [] ((i:Int)<(l.length:Int)) (λh9=> ?_) (λh9=> ?_)
  rotate_left
  ·refine z7 [] (YI (-1)) λw hO=>⟨_,rfl,⟨-1,rfl, ?_⟩,hO.below⟩
   have hall:=xM (p:=λy:Nv=>p y=false) (show l.length<=i by omega) hno
   rw [show l.any p=false from List.any_eq_false.2 λy hy=>by rw [hall y hy];decide];rfl
  have hj:i<l.length:=by omega
  obtain ⟨eb,eo,hA,hel⟩:=hv0.elem w6 i hj
  have hgo:=yL (p:=λy:Nv=>p y=false) hj hno
  have hsm:l[i]∈l:=List.getElem_mem hj
  have hel0:∀ w,YB w0 w->(loadVar 83 ⟨eb,eo+i*3+0,none⟩).run YP w= .ok (nvV l[i]) w:=λw hw=>hel w hw _ 0 _ Kr
  have hcf:=hp0 _ hsm
  generalize l[i]=n at hel0 hgo hcf hsm
  refine zH 14 [] hA l.length cap i 3 hj (zG 15 [] 83 eb (eo+i*3+0) (nvV n) (λw hO=>hel0 w hO.below) (z6 (v:= .bool (p n)) [] (λw hO=>hcf w hO.below) (zX 16 (p n) (λh16=> ?_) (λh16=> ?_))))
  ·refine z7 [] (YI (i:Int)) λw hO=>⟨_,rfl,⟨(i:Int),rfl, ?_⟩,hO.below⟩
   rw [show l.any p=true from List.any_eq_true.2 ⟨n,hsm,h16⟩,decide_eq_true Om]
  ·exact x_i 18 [] ((i+1:Nat):Int) (nx (i+1) (l.length-(i+1)) [] Om ⟨⟨hj,hgo h16⟩,rfl⟩ Kr Kr)
 refine z8 Tryz.func177 (mA (R:=λv=>∃ z:Int,v=YI z/\decide (0<=z)=l.any p) [] (λw hO=>key w hO.below) ?_)
 rintro v ⟨z,rfl,hz⟩
 exact z7 [] (.bool (decide (0<=z))) λw hO=>⟨by rw [hz],hO.below⟩
theorem qHas2_any (p:Nv->Bool)(A:Option Addr)(cap:Nat)(l:List Nv)(b:Nat)(W:World)(hv:Reads nvC W W.heap.size A l)(hn:l.length<=5000)(hp:∀ n∈l,∀ w,YB W w->YC 178 #[nvV n,.pointer (some ⟨b,0,none⟩)] w (YR (.bool (p n)) w)):YC 177 #[.slice A l.length cap,.func (.func 178) #[] #[.pointer (some ⟨b,0,none⟩)]] W (YR (.bool (l.any p)) W):=by
 have key:∀ w,YB W w->YC 237 #[.slice A l.length cap,.func (.func 178) #[] #[.pointer (some ⟨b,0,none⟩)]] w λe w'=>∃ v,e= .returned v/\(∃ z:Int,v=YI z/\decide (0<=z)=l.any p)/\YB w w':=λw0 hb0=>by
  have hv0:=hv.on hb0 hb0.size
  have hp0:∀ n∈l,∀ w,YB w0 w->YC 178 #[nvV n,.pointer (some ⟨b,0,none⟩)] w (YR (.bool (p n)) w):=λn hn w hb=>hp n hn w (hb0.trans (hb.mono hb0.size))
  clear hp hv hb0
  refine z8 Tryz.func237 (zL (α:=Nat) (λi=>[(0,.slice A l.length cap),(1,.func (.func 178) #[] #[Zp b 0]),(7,YI (l.length:Int)),(8,YI (i:Int))]) (λ_=>[]) (λi m=>(i<=l.length∧∀ y∈l.take i,p y=false)/\m=l.length-i) 0 l.length [] ⟨⟨Nat.zero_le _,λy h=>by simp at h⟩,rfl⟩ ?_)
  rintro i mm g kk ⟨⟨hi,hno⟩,hmm⟩ nx hkk
  subst hkk
  refine zA 9 [] ((i:Int)<(l.length:Int)) (λh9=> ?_) (λh9=> ?_)
  rotate_left
  ·refine z7 [] (YI (-1)) λw hO=>⟨_,rfl,⟨-1,rfl, ?_⟩,hO.below⟩
   have hall:=xM (p:=λy:Nv=>p y=false) (show l.length<=i by omega) hno
   rw [show l.any p=false from List.any_eq_false.2 λy hy=>by rw [hall y hy];decide];rfl
  have hj:i<l.length:=by omega
  obtain ⟨eb,eo,hA,hel⟩:=hv0.elem w6 i hj
  have hgo:=yL (p:=λy:Nv=>p y=false) hj hno
  have hsm:l[i]∈l:=List.getElem_mem hj
  have hel0:∀ w,YB w0 w->(loadVar 83 ⟨eb,eo+i*3+0,none⟩).run YP w= .ok (nvV l[i]) w:=λw hw=>hel w hw _ 0 _ Kr
  have hcf:=hp0 _ hsm
  generalize l[i]=n at hel0 hgo hcf hsm
  refine zH 14 [] hA l.length cap i 3 hj (zG 15 [] 83 eb (eo+i*3+0) (nvV n) (λw hO=>hel0 w hO.below) (z6 (v:= .bool (p n)) [] (λw hO=>hcf w hO.below) (zX 16 (p n) (λh16=> ?_) (λh16=> ?_))))
  ·refine z7 [] (YI (i:Int)) λw hO=>⟨_,rfl,⟨(i:Int),rfl, ?_⟩,hO.below⟩
   rw [show l.any p=true from List.any_eq_true.2 ⟨n,hsm,h16⟩,decide_eq_true Om]
  ·exact x_i 18 [] ((i+1:Nat):Int) (nx (i+1) (l.length-(i+1)) [] Om ⟨⟨hj,hgo h16⟩,rfl⟩ Kr Kr)
 refine z8 Tryz.func177 (mA (R:=λv=>∃ z:Int,v=YI z/\decide (0<=z)=l.any p) [] (λw hO=>key w hO.below) ?_)
 rintro v ⟨z,rfl,hz⟩
 exact z7 [] (.bool (decide (0<=z))) λw hO=>⟨by rw [hz],hO.below⟩
theorem qItems_any (A:Option Addr)(cap:Nat)(of:List YL)(B:Option Addr)(capb:Nat)(l:List Nv)(W:World)(hu:Reads y7 W W.heap.size A of)(ho:of.length<=5000)(ht:∀ s∈of,s.length<=1000000)(hv:Reads nvC W W.heap.size B l)(hn:l.length<=5000)(hva:∀ n∈l,Reads wvC W W.heap.size n.A n.any):YC 106 #[.slice A of.length cap,.slice B l.length capb] W (YR (YI (yQ (xG (l.map Nv.nt)) of)) W):=by
 refine z8 Tryz.func106 (zL (α:=Nat) (λi=>[(1,.slice B l.length capb),(12,.slice A of.length cap),(13,YI (of.length:Int)),(14,YI (i:Int))]) (λ_=>[]) (λi m=>(i<=of.length∧∀ s∈of.take i,xG (l.map Nv.nt) s=0)/\m=of.length-i) 0 of.length [] ⟨⟨Nat.zero_le _,λy h=>by simp at h⟩,rfl⟩ ?_)
 rintro i mm g kk ⟨⟨hi,hno⟩,hmm⟩ nx hkk
 subst hkk
 refine zA 15 [] ((i:Int)<(of.length:Int)) (λh15=> ?_) (λh15=> ?_)
 rotate_left
 ·refine z7 [] (YI 0) λw hO=>⟨?_,hO.below⟩
  rw [jT (xM (p:=λs=>xG (l.map Nv.nt) s=0) (show of.length<=i by omega) hno)]
 have hj:i<of.length:=by omega
 obtain ⟨eb,eo,hA,hel⟩:=hu.elem zO i hj
 have hgo:=yL (p:=λs=>xG (l.map Nv.nt) s=0) hj hno
 have hat:=nV (f:=xG (l.map Nv.nt)) hj hno
 have hsh:=ht _ (List.getElem_mem hj)
 have hel0:∀ w,YB W w->(loadVar 9 ⟨eb,eo+i*1+0,none⟩).run YP w= .ok (.string (mkS of[i])) w:=λw hw=>hel w hw _ 0 _ Kr
 generalize of[i]=s at hel0 hgo hat hsh
 have hI:xG (l.map Nv.nt) s=if (zM s).1=2/\(l.any λn=>decide (n.opt=(zM s).2.1))=false then 14 else if (zM s).1=3/\l.any (pulB (zM s).2.1)=false then 16 else 0:=by
  unfold xG optR pulR
  simp only [List.any_map];rfl
 refine zH 16 [] hA of.length cap i 1 hj (zG 17 [] 9 eb (eo+i*1+0) (.string (mkS s)) (λw hO=>hel0 w hO.below) (z6 (v:= .tuple #[YI (zM s).1,.string (mkS (zM s).2.1),.string (mkS (zM s).2.2)]) [] (λw hO=>fItem_at s w hsh) (zB [] λb8=> ?_)))
 have hc1:∀ w,Own [] W w [⟨b8, #[.string (mkS (zM s).2.1)],9⟩]->YC 177 #[.slice B l.length capb,.func (.func 176) #[] #[.pointer (some ⟨b8,0,none⟩)]] w (YR (.bool (l.any λn=>decide (n.opt=(zM s).2.1))) w):=λw hO=>by
  have hg:w.heap[b8]?=some (.cells #[.string (mkS (zM s).2.1)] 9):=hO.get (i:=0) rfl
  exact qHas1_any _ B capb l b8 w (hv.on hO.below hO.size) hn λn hn w2 hb=>qOpt_any n (zM s).2.1 b8 w2 ((hb.block b8 (Array.getElem?_eq_some_iff.1 hg).1).trans hg)
 have hc2:∀ w,Own [] W w [⟨b8, #[.string (mkS (zM s).2.1)],9⟩]->YC 177 #[.slice B l.length capb,.func (.func 178) #[] #[.pointer (some ⟨b8,0,none⟩)]] w (YR (.bool (l.any (pulB (zM s).2.1))) w):=λw hO=>by
  have hg:w.heap[b8]?=some (.cells #[.string (mkS (zM s).2.1)] 9):=hO.get (i:=0) rfl
  exact qHas2_any _ B capb l b8 w (hv.on hO.below hO.size) hn λn hn w2 hb=>qPul_any n (zM s).2.1 b8 w2 (((hva n hn).on hO.below hO.size).on hb hb.size) ((hb.block b8 (Array.getElem?_eq_some_iff.1 hg).1).trans hg)
 have next:xG (l.map Nv.nt) s=0→∀ m',m'=of.length-(i+1)->m'<mm/\(i+1<=of.length∧∀ s∈of.take (i+1),xG (l.map Nv.nt) s=0)/\m'=of.length-(i+1):=λh m' e=>⟨by omega,⟨hj,hgo h⟩,e⟩
 refine x_val 24 [0] (.func (.func 176) #[] #[Zp b8 0]) (λw=>Kr) (zA 26 [] ((zM s).1=2) (λh26=> ?_) (λh26=> ?_))
 ·refine z6 (v:= .bool (l.any λn=>decide (n.opt=(zM s).2.1))) [] (λw hO=>hc1 w (hO.past 0 _)) (zX 30 (l.any λn=>decide (n.opt=(zM s).2.1)) (λh30=> ?_) (λh30=> ?_))
  rotate_left
  ·refine z7 [] (YI 14) λw hO=>⟨?_,hO.below⟩
   have:xG (l.map Nv.nt) s=14:=by rw [hI,if_pos ⟨h26,h30⟩]
   rw [hat (by rw [this];decide),this]
  have hz:xG (l.map Nv.nt) s=0:=by rw [hI,if_neg (by rw [h30];simp),if_neg (λq=>by rw [h26] at q;exact absurd q.1 (by decide))]
  obtain ⟨q1,q2,q3⟩:=next hz _ rfl
  exact x_val 33 [] (.func (.func 178) #[] #[Zp b8 0]) (λw=>Kr) (zA 35 [] ((zM s).1=3) (λh=>absurd (h26.symm.trans h) (by decide)) (λh=>x_i 14 [] ((i+1:Nat):Int) (zK [] [] (λw hO=>hO.no) (nx (i+1) _ [] q1 ⟨q2,q3⟩ Kr Kr))))
 ·refine x_val 33 [] (.func (.func 178) #[] #[Zp b8 0]) (λw=>Kr) (zA 35 [] ((zM s).1=3) (λh35=> ?_) (λh35=> ?_))
  rotate_left
  ·have hz:xG (l.map Nv.nt) s=0:=by rw [hI,if_neg (λq=>h26 q.1),if_neg (λq=>h35 q.1)]
   obtain ⟨q1,q2,q3⟩:=next hz _ rfl
   exact x_i 14 [] ((i+1:Nat):Int) (zK [] [] (λw hO=>hO.no) (nx (i+1) _ [] q1 ⟨q2,q3⟩ Kr Kr))
  refine z6 (v:= .bool (l.any (pulB (zM s).2.1))) [] (λw hO=>hc2 w (hO.past 0 _)) (zX 39 (l.any (pulB (zM s).2.1)) (λh39=> ?_) (λh39=> ?_))
  ·have hz:xG (l.map Nv.nt) s=0:=by rw [hI,if_neg (λq=>h26 q.1),if_neg (by rw [h39];simp)]
   obtain ⟨q1,q2,q3⟩:=next hz _ rfl
   exact x_i 14 [] ((i+1:Nat):Int) (zK [] [] (λw hO=>hO.no) (nx (i+1) _ [] q1 ⟨q2,q3⟩ Kr Kr))
  ·refine z7 [] (YI 16) λw hO=>⟨?_,hO.below⟩
   have:xG (l.map Nv.nt) s=16:=by rw [hI,if_neg (λq=>h26 q.1),if_pos ⟨h35,h39⟩]
   rw [hat (by rw [this];decide),this]
end
section
set_option linter.unnecessarySimpa false
theorem strC_one (s:YL):∀ u∈y7 s,u.oneCell'=true:=λu hu=>by rw [List.mem_singleton.1 hu];rfl
theorem r12text_any (r:Rv)(W:World)(hr:RcIn W W.heap.size r)(ht:(kA r.rt).length<=100000000):YC 58 #[rvV r] W (YR (.string (mkS (kA r.rt))) W):=by
 have hT:kA r.rt=jC r.rt++r.needs.flatMap (λn=>kT n.nt)++r.bars.flatMap (λb=>wM b.bt)++r.fts.flatMap (λf=>gE f.ft):=by
  unfold kA;simp only [Rv.rt,yI,List.flatMap_map]
 have hl:=congrArg List.length hT
 simp only [List.length_append] at hl
 have hp8:txPack.length=8:=rfl
 have hn5:txNeed.length=5:=rfl
 have ho7:txOpt.length=7:=rfl
 have hb4:txBar.length=4:=rfl
 have hsn:=hr.sn
 have hnn:=hr.nn;have hnb:=hr.nb;have hfn:=hr.fts.n
 have hH:(jC r.rt).length=8+r.name.length+1+r.ver.print.length+1:=by
  show (txPack++r.name++[32]++r.ver.print++[10]).length=_
  simp only [List.length_append,List.length_cons,List.length_nil,hp8]
 have hP:∀ w,YB W w->YC 117 #[yN r.ver] w (YR (.string (mkS r.ver.print)) w):=λw hb=>rprint_any r.ver w hsn.2.1 hsn.2.2
 refine z8 Tryz.func58 (zQ [] λb1=>zZ 10 [0] txPack r.name (zZ 11 [] (txPack++r.name) [32] (z6 (v:= .string (mkS r.ver.print)) [0] (λw hO=>hP w hO.below) (zZ 15 [] (txPack++r.name++[32]) r.ver.print (zZ 16 [] (txPack++r.name++[32]++r.ver.print) [10] ?_)))))
 refine zL (α:=Nat×YL) (λx=>[(1,Zp b1 0),(3,.string (mkS x.2)),(4,YI (x.1:Int))]) (λ_=>[⟨b1,(rvC r).toArray,29⟩]) (λx m=>(x.1<=r.needs.length/\x.2=jC r.rt++(r.needs.take x.1).flatMap (λn=>kT n.nt))/\m=r.needs.length-x.1) (0,txPack++r.name++[32]++r.ver.print++[10]) r.needs.length [] ⟨⟨Nat.zero_le _,by show _=jC r.rt++[];rw [List.append_nil];rfl⟩,rfl⟩ ?_
 rintro ⟨i,s⟩ mm g kk ⟨⟨hi,hs⟩,hmm⟩ nx hkk
 subst hkk
 replace hi:i<=r.needs.length:=hi
 replace hs:s=jC r.rt++(r.needs.take i).flatMap (λn=>kT n.nt):=hs
 have hsl:s.length<=100000000:=by
  have:=fF (λn:Nv=>kT n.nt) (l:=r.needs) i
  rw [hs,List.length_append];omega
 refine zA 21 [0] ((i:Int)<(r.needs.length:Int)) (λh21=> ?_) (λh21=> ?_)
 ·have hj:i<r.needs.length:=by omega
  obtain ⟨eb,eo,hA,hel⟩:=hr.needs.elem w6 i hj
  have hst:=wO (λn:Nv=>kT n.nt) hj
  have hmem:r.needs[i]∈r.needs:=List.getElem_mem hj
  have hone:=fm_one (λn:Nv=>kT n.nt) hmem
  have la:∀ w,YB W w->(loadVar 81 ⟨eb,eo+i*3+0,none⟩).run YP w= .ok (.slice r.needs[i].A r.needs[i].any.length r.needs[i].cap) w:=λw hw=>hel w hw _ 0 _ Kr
  have lw:∀ w,YB W w->(loadVar 9 ⟨eb,eo+i*3+1,none⟩).run YP w= .ok (.string (mkS r.needs[i].wh)) w:=λw hw=>hel w hw _ 1 _ Kr
  have lo:∀ w,YB W w->(loadVar 9 ⟨eb,eo+i*3+2,none⟩).run YP w= .ok (.string (mkS r.needs[i].opt)) w:=λw hw=>hel w hw _ 2 _ Kr
  have hra:=hr.any _ hmem;have hrf:=hr.wfs _ hmem;have hna:=hr.na _ hmem;have hnf:=hr.nf _ hmem;have hsw:=hr.sw _ hmem
  have hs2:s++kT r.needs[i].nt=jC r.rt++(r.needs.take (i+1)).flatMap (λn=>kT n.nt):=by rw [hst,hs,List.append_assoc]
  generalize r.needs[i]=n at la lw lo hone hra hrf hna hnf hsw hs2
  have hnT:kT n.nt=txNeed++n.any.flatMap (λu=>kS u.wt)++vE n.wh++tM n.opt:=by
   unfold kT;simp only [Nv.nt,List.flatMap_map]
  have hnl:=congrArg List.length hnT
  simp only [List.length_append] at hnl
  rw [hnT] at hs2
  have hWh:∀ w,YB W w->YC 119 #[.string (mkS n.wh)] w (YR (.string (mkS (vE n.wh))) w):=λw hb=>r12when_any n.wh w hsw.1
  refine zZ 25 [] s txNeed (zL (α:=Nat×YL) (λx=>[(1,Zp b1 0),(3,.string (mkS x.2)),(4,YI (i:Int)),(5,YI (x.1:Int))]) (λ_=>[⟨b1,(rvC r).toArray,29⟩]) (λx m=>(x.1<=n.any.length/\x.2=s++txNeed++(n.any.take x.1).flatMap (λu=>kS u.wt))/\m=n.any.length-x.1) (0,s++txNeed) n.any.length [] ⟨⟨Nat.zero_le _,by show _=s++txNeed++[];rw [List.append_nil]⟩,rfl⟩ ?_)
  rintro ⟨k,y⟩ mk gk kk ⟨⟨hk,hy⟩,hmk⟩ ny hkk
  subst hkk
  replace hk:k<=n.any.length:=hk
  replace hy:y=s++txNeed++(n.any.take k).flatMap (λu=>kS u.wt):=hy
  have hyl:y.length<=300000000:=by
   have:=fF (λu:Wv=>kS u.wt) (l:=n.any) k
   rw [hy,List.length_append,List.length_append];omega
  refine zH 30 [0] hA r.needs.length r.nc i 3 hj (zG 32 [] 81 eb (eo+i*3+0) (.slice n.A n.any.length n.cap) (λw hO=>la w hO.below) (zA 34 [] ((k:Int)<(n.any.length:Int)) (λh34=> ?_) (λh34=> ?_)))
  ·have hkj:k<n.any.length:=by omega
   obtain ⟨fb,fo,hA2,hel2⟩:=hra.elem vJ k hkj
   have hst2:=wO (λu:Wv=>kS u.wt) hkj
   have hmem2:n.any[k]∈n.any:=List.getElem_mem hkj
   have hone2:=fm_one (λu:Wv=>kS u.wt) hmem2
   have lu:∀ w,YB W w->(loadVar 146 ⟨fb,fo+k*4+0,none⟩).run YP w= .ok (wvV n.any[k]) w:=λw hw=>hel2 w hw _ 0 _ Kr
   have hru:=hrf _ hmem2;have hnu:=hnf _ hmem2
   have hy2:y++kS n.any[k].wt=s++txNeed++(n.any.take (k+1)).flatMap (λu=>kS u.wt):=by rw [hst2,hy,List.append_assoc]
   generalize n.any[k]=u at lu hone2 hru hnu hy2
   have hc:∀ w,YB W w->YC 118 #[wvV u] w (YR (.string (mkS (kS u.wt))) w):=λw hb=>r12wished_any u w (hru.on hb hb.size) hnu Om
   refine zH 41 [0] hA r.needs.length r.nc i 3 hj (zG 43 [] 81 eb (eo+i*3+0) (.slice n.A n.any.length n.cap) (λw hO=>la w hO.below) (zH 45 [] hA2 n.any.length n.cap k 4 hkj (zG 46 [] 146 fb (fo+k*4+0) (wvV u) (λw hO=>lu w hO.below) (z6 (v:= .string (mkS (kS u.wt))) [] (λw hO=>hc w hO.below) (zZ 48 [] y (kS u.wt) (x_i 36 [] ((k+1:Nat):Int) (ny (k+1,y++kS u.wt) (n.any.length-(k+1)) [] Om ⟨⟨hkj,hy2⟩,rfl⟩ Kr Kr)))))))
  have hy2:y=s++txNeed++n.any.flatMap (λu=>kS u.wt):=by rw [hy,List.take_of_length_le Om]
  clear ny
  refine zH 53 [0] hA r.needs.length r.nc i 3 hj (zG 55 [] 9 eb (eo+i*3+1) (.string (mkS n.wh)) (λw hO=>lw w hO.below) (z6 (v:= .string (mkS (vE n.wh))) [] (λw hO=>hWh w hO.below) (zZ 57 [] y (vE n.wh) (zH 61 [0] hA r.needs.length r.nc i 3 hj (zG 63 [] 9 eb (eo+i*3+2) (.string (mkS n.opt)) (λw hO=>lo w hO.below) (gR 64 [] n.opt [] (λh64=> ?_) (λh64=> ?_)))))))
  ·exact x_i 23 [] ((i+1:Nat):Int) (nx (i+1,y++vE n.wh) (r.needs.length-(i+1)) [] Om ⟨⟨hj,by
    rw [←hs2,show tM n.opt=[] from if_pos h64,hy2,List.append_nil];simp only [List.append_assoc]⟩,rfl⟩ Kr Kr)
  ·have hol:(tM n.opt).length=7+n.opt.length+1:=by
    rw [show tM n.opt=txOpt++n.opt++[10] from if_neg h64];simp only [List.length_append,List.length_cons,List.length_nil,ho7]
   refine zZ 66 [] (y++vE n.wh) txOpt (zH 70 [0] hA r.needs.length r.nc i 3 hj (zG 72 [] 9 eb (eo+i*3+2) (.string (mkS n.opt)) (λw hO=>lo w hO.below) (zZ 73 [] (y++vE n.wh++txOpt) n.opt (zZ 74 [] (y++vE n.wh++txOpt++n.opt) [10] ?_))))
   exact x_i 23 [] ((i+1:Nat):Int) (nx (i+1,y++vE n.wh++txOpt++n.opt++[10]) (r.needs.length-(i+1)) [] Om ⟨⟨hj,by
    rw [←hs2,show tM n.opt=txOpt++n.opt++[10] from if_neg h64,hy2];simp only [List.append_assoc]⟩,rfl⟩ Kr Kr)
 have hs':s=jC r.rt++r.needs.flatMap (λn=>kT n.nt):=by rw [hs,List.take_of_length_le Om]
 clear nx hs
 refine zL (α:=Nat×YL) (λx=>[(1,Zp b1 0),(3,.string (mkS x.2)),(6,YI (x.1:Int))]) (λ_=>[⟨b1,(rvC r).toArray,29⟩]) (λx m=>(x.1<=r.bars.length/\x.2=s++(r.bars.take x.1).flatMap (λb=>wM b.bt))/\m=r.bars.length-x.1) (0,s) r.bars.length [] ⟨⟨Nat.zero_le _,by show _=s++[];rw [List.append_nil]⟩,rfl⟩ ?_
 rintro ⟨i2,z⟩ m2 g2 kk ⟨⟨hi2,hz⟩,hm2⟩ nx hkk
 subst hkk
 replace hi2:i2<=r.bars.length:=hi2
 replace hz:z=s++(r.bars.take i2).flatMap (λb=>wM b.bt):=hz
 have hzl:z.length<=200000000:=by
  have:=fF (λb:Bv=>wM b.bt) (l:=r.bars) i2
  rw [hz,List.length_append];omega
 refine zA 79 [0] ((i2:Int)<(r.bars.length:Int)) (λh79=> ?_) (λh79=> ?_)
 ·have hj:i2<r.bars.length:=by omega
  obtain ⟨eb,eo,hA,hel⟩:=hr.bars.elem pR i2 hj
  have hst:=wO (λb:Bv=>wM b.bt) hj
  have hmem:r.bars[i2]∈r.bars:=List.getElem_mem hj
  have hone:=fm_one (λb:Bv=>wM b.bt) hmem
  have l0:∀ w,YB W w->(loadVar 9 ⟨eb,eo+i2*3+0,none⟩).run YP w= .ok (.string (mkS r.bars[i2].name)) w:=λw hw=>hel w hw _ 0 _ Kr
  have l1:∀ w,YB W w->(loadVar 9 ⟨eb,eo+i2*3+1,none⟩).run YP w= .ok (.string (mkS r.bars[i2].rng)) w:=λw hw=>hel w hw _ 1 _ Kr
  have l2:∀ w,YB W w->(loadVar 9 ⟨eb,eo+i2*3+2,none⟩).run YP w= .ok (.string (mkS r.bars[i2].wh)) w:=λw hw=>hel w hw _ 2 _ Kr
  have hsb:=hr.sb _ hmem
  have hz2:z++wM r.bars[i2].bt=s++(r.bars.take (i2+1)).flatMap (λb=>wM b.bt):=by rw [hst,hz,List.append_assoc]
  generalize r.bars[i2]=b at l0 l1 l2 hone hsb hz2
  have hbT:wM b.bt=txBar++b.name++[32]++b.rng++[10]++vE b.wh:=rfl
  have hbl:=congrArg List.length hbT
  simp only [List.length_append,List.length_cons,List.length_nil] at hbl
  rw [hbT] at hz2
  have hWh:∀ w,YB W w->YC 119 #[.string (mkS b.wh)] w (YR (.string (mkS (vE b.wh))) w):=λw hb=>r12when_any b.wh w hsb.2.2
  refine zZ 83 [] z txBar (zH 87 [0] hA r.bars.length r.bc i2 3 hj (zG 89 [] 9 eb (eo+i2*3+0) (.string (mkS b.name)) (λw hO=>l0 w hO.below) (zZ 90 [] (z++txBar) b.name (zZ 91 [] (z++txBar++b.name) [32] (zH 95 [0] hA r.bars.length r.bc i2 3 hj (zG 97 [] 9 eb (eo+i2*3+1) (.string (mkS b.rng)) (λw hO=>l1 w hO.below) (zZ 98 [] (z++txBar++b.name++[32]) b.rng (zZ 99 [] (z++txBar++b.name++[32]++b.rng) [10] (zH 103 [0] hA r.bars.length r.bc i2 3 hj (zG 105 [] 9 eb (eo+i2*3+2) (.string (mkS b.wh)) (λw hO=>l2 w hO.below) (z6 (v:= .string (mkS (vE b.wh))) [] (λw hO=>hWh w hO.below) (zZ 107 [] (z++txBar++b.name++[32]++b.rng++[10]) (vE b.wh) ?_))))))))))))
  exact x_i 81 [] ((i2+1:Nat):Int) (nx (i2+1,z++txBar++b.name++[32]++b.rng++[10]++vE b.wh) (r.bars.length-(i2+1)) [] Om ⟨⟨hj,by rw [←hz2];simp only [List.append_assoc]⟩,rfl⟩ Kr Kr)
 have hz':z=s++r.bars.flatMap (λb=>wM b.bt):=by rw [hz,List.take_of_length_le Om]
 clear nx hz
 refine zL (α:=Nat×YL) (λx=>[(1,Zp b1 0),(3,.string (mkS x.2)),(7,YI (x.1:Int))]) (λ_=>[⟨b1,(rvC r).toArray,29⟩]) (λx m=>(x.1<=r.fts.length/\x.2=z++(r.fts.take x.1).flatMap (λf=>gE f.ft))/\m=r.fts.length-x.1) (0,z) r.fts.length [] ⟨⟨Nat.zero_le _,by show _=z++[];rw [List.append_nil]⟩,rfl⟩ ?_
 rintro ⟨i3,q⟩ m3 g3 kk ⟨⟨hi3,hq⟩,hm3⟩ nx hkk
 subst hkk
 replace hi3:i3<=r.fts.length:=hi3
 replace hq:q=z++(r.fts.take i3).flatMap (λf=>gE f.ft):=hq
 have hql:q.length<=300000000:=by
  have:=fF (λf:Fv=>gE f.ft) (l:=r.fts) i3
  rw [hq,List.length_append];omega
 refine zA 112 [0] ((i3:Int)<(r.fts.length:Int)) (λh112=> ?_) (λh112=> ?_)
 rotate_left
 ·refine z7 [] (.string (mkS q)) λw hO=>⟨?_,hO.below⟩
  rw [hT,hq,List.take_of_length_le Om,hz',hs']
 have hj:i3<r.fts.length:=by omega
 obtain ⟨eb,eo,hA,hel⟩:=hr.fts.top.elem vP i3 hj
 have hst:=wO (λf:Fv=>gE f.ft) hj
 have hmem:r.fts[i3]∈r.fts:=List.getElem_mem hj
 have hone:=fm_one (λf:Fv=>gE f.ft) hmem
 have l0:∀ w,YB W w->(loadVar 9 ⟨eb,eo+i3*2+0,none⟩).run YP w= .ok (.string (mkS r.fts[i3].name)) w:=λw hw=>hel w hw _ 0 _ Kr
 have l1:∀ w,YB W w->(loadVar 74 ⟨eb,eo+i3*2+1,none⟩).run YP w= .ok (.slice r.fts[i3].A r.fts[i3].of.length r.fts[i3].cap) w:=λw hw=>hel w hw _ 1 _ Kr
 have hru:=hr.fts.each _ hmem;have hmu:=hr.fts.m _ hmem
 have hq2:q++gE r.fts[i3].ft=z++(r.fts.take (i3+1)).flatMap (λf=>gE f.ft):=by rw [hst,hq,List.append_assoc]
 generalize r.fts[i3]=u at l0 l1 hone hru hmu hq2
 have hfT:gE u.ft=zF 32 (kN::u.name::u.of)++[10]:=rfl
 have hfl:=congrArg List.length hfT
 simp only [List.length_append,List.length_cons,List.length_nil] at hfl
 rw [hfT] at hq2
 refine mN 18 [] (fO 50119 [0] 4 hA r.fts.length r.fc i3 2 hj (fN 50121 [] 6 9 eb (eo+i3*2+0) (.string (mkS u.name)) (λw hO=>l0 w hO.below) (fO 50126 [0] 11 hA r.fts.length r.fc i3 2 hj (fN 50128 [] 13 74 eb (eo+i3*2+1) (.slice u.A u.of.length u.cap) (λw hO=>l1 w hO.below) ?_))))
 refine zY [] 7 (gF 2 9 #[.string (mkS kN),.string (mkS u.name)] λb3=>zY [] 14 (vI (g:=y7) u.of [] [⟨b3, #[.string (mkS kN),.string (mkS u.name)],9⟩] [⟨b1,(rvC r).toArray,29⟩] [⟨b3, #[.string (mkS kN),.string (mkS u.name)],9⟩,⟨b1,(rvC r).toArray,29⟩] [⟨b1,(rvC r).toArray,29⟩] (cp:=u.cap) (λw hO=>by simpa using hO) (λo w hO=>Own.sub o (by simpa using hO)) zO strC_one (λw hO=>hru.on hO.below hO.below.size) (sl_block (N:=2) rfl (by unfold maxLen;omega)) Om λv' ob' h=> ?_))
 have hS:SlT v' (kN::u.name::u.of) ob':=by
  unfold SlT
  rw [xB,show (kN::u.name::u.of).length=2+u.of.length by simp only [List.length_cons];omega]
  exact h
 have hJ:∀ w,Own [] W w (ob'++[⟨b1,(rvC r).toArray,29⟩])->YC 120 #[v',.int .u8 32] w (YR (.string (mkS (zF 32 (kN::u.name::u.of)))) w):=λw hO=>rjoin_any v' _ 32 w (hS.readsT hO λx hx=>List.mem_append_left _ hx) Om (by simp only [List.length_cons];omega)
 refine zY [] 15 (z6 (v:= .string (mkS (zF 32 (kN::u.name::u.of)))) [] (λw hO=>hJ w (hO.past 0 _)) (bJ 50131 [] 16 q (zF 32 (kN::u.name::u.of)) (bJ 50132 [] 17 (q++zF 32 (kN::u.name::u.of)) [10] ?_)))
 refine x_i 114 [] ((i3+1:Nat):Int) (zK [] [⟨b1,(rvC r).toArray,29⟩] (λw hO=>Own.sub ob' (hO.past 0 _)) ?_)
 exact (nx (i3+1,q++zF 32 (kN::u.name::u.of)++[10]) (r.fts.length-(i3+1)) [] Om ⟨⟨hj,by rw [←hq2];simp only [List.append_assoc]⟩,rfl⟩ Kr Kr)
end
section
def BuR (b:Nat)(l:YL)(ob:List Blk):Prop:=
 ∃ p v g,ob=⟨b, #[p,v],186⟩::g/\(p= .pointer none\/p= .pointer (some ⟨b,0,none⟩))/\Sl 5 1 v l.length (Lib.byteCells l) g
theorem BuR.new (b:Nat):BuR b [] [⟨b, #[.pointer none,.slice none 0 0],186⟩]:=⟨_,_,[],rfl,.inl rfl,Sl.nil _ _⟩
theorem sizeWriterR:(Tryz.prog.info? 108).map (·.size)=some 2:=by kernel_rfl
theorem liesWriterR:liesAt YP Tryz.prog.depth 186 (2/Tryz.prog.cellsOf 186) 0 108 1=true:=by kernel_rfl
theorem copyCheck_newR (b:Nat)(w:World)(h0:w.cell? ⟨b,0,none⟩=some (.pointer none))(hsh:w.shape? b=some (186,2))(hfz:w.frozen? ⟨b,0,none⟩=false):
  YC 146 #[.pointer (some ⟨b,0,none⟩)] w λe w'=>e= .returned (.tuple #[])/\w'=w.setCell ⟨b,0,none⟩ (.pointer (some ⟨b,0,none⟩)):=by
 obtain ⟨j,hj,hjs⟩:=Option.map_eq_some_iff.1 sizeWriterR
 go_enter Tryz.func146,Tryz.ntmps146
 go_wp2
 rw [Lib.run_to_unsafe w ⟨b,0,none⟩ Tryz.underlying106 Tryz.underlying235 hj (by rw [hjs];decide) hsh (Nat.zero_lt_succ 1)]
 simp only [Result.andThen]
 rw [Oper.upon_value]
 go_wp2
 rw [run_callFunc_extern Tryz.func211 Kr Kr Kr (e:=Extern.AbiNoEscape.same) Kr]
 rw [Lib.run_noEscape]
 simp only [Result.andThen]
 rw [Oper.upon_value]
 go_wp2
 rw [Lib.run_from_unsafe w ⟨b,0,none⟩ Tryz.underlying235 Tryz.underlying106 hj hsh liesWriterR]
 simp only [Result.andThen]
 rw [Oper.upon_value]
 go_wp2
 go_end0
 exact ⟨rfl,rfl⟩
theorem rcheck_any (b:Nat)(p v:Value)(R:List Blk)(M:List Nat)(W w:World)(hp:p= .pointer none\/p= .pointer (some ⟨b,0,none⟩))(hO:Own M W w (⟨b, #[p,v],186⟩::R)):
  YC 146 #[.pointer (some ⟨b,0,none⟩)] w λe w'=>e= .returned (.tuple #[])/\Own M W w' (⟨b, #[.pointer (some ⟨b,0,none⟩),v],186⟩::R):=by
 have hb:w.heap[b]?=some (.cells #[p,v] 186 (0,0)):=hO.held ⟨b, #[p,v],186⟩ (List.mem_cons_self ..)
 have c0:w.cell? ⟨b,0,none⟩=some p:=by rw [Lib.cell_of_heap hb];rfl
 rcases hp with rfl|rfl
 ·refine (copyCheck_newR b w c0 (by simp [World.shape?,hb]) (Lib.frozen_of_heap hb 0)).mono λe w' ⟨he,hw⟩=>⟨he, ?_⟩
  rw [hw,setCell_eq_setRow w b 0 _ _ _ _ hb]
  exact hO.put (i:=0) (x:=⟨b, #[.pointer none,v],186⟩) rfl _
 ·exact (tU b w c0).mono λe w' ⟨he,hw⟩=>⟨he,hw▸hO⟩
theorem infoU8R:∃ i,Tryz.prog.info? 5=some i/\i.zero=some (.int .u8 0)/\i.size=1/\i.bytes=1:=info_parts infoByte
theorem buR_own {B b:Nat}{l:YL}{ob:List Blk}{M:List Nat}{W w:World}(hB:BuR b l ob)(hO:Own M W w ob)(hM:∀ x∈ob,B<=x.b):Lib.IsBuilder 186 5 B b (Lib.byteCells l) w:=by
 obtain ⟨p,v,g,rfl,hp,hv⟩:=hB
 have hb:w.heap[b]?=some (.cells #[p,v] 186 (0,0)):=hO.held ⟨b, #[p,v],186⟩ (List.mem_cons_self ..)
 have key:Lib.BuilderAt 186 5 B b p (Lib.byteCells l) w:=by
  refine ⟨hM ⟨b, #[p,v],186⟩ (List.mem_cons_self ..),v,hb, ?_, ?_⟩
  ·rw [Lib.byteCells_length]
   refine ⟨hv.1, ?_⟩
   rcases hv.2 with ⟨h1,h2,_⟩|⟨k,cap,cur,h1,rfl,h3,h4,h5,h6⟩
   ·exact .inl ⟨h1,h2⟩
   ·exact .inr ⟨k,cap,cur,h1,hM ⟨k,cur,5⟩ (by simp),hO.held ⟨k,cur,5⟩ (by simp),h3,h4,h5,h6⟩
  ·rcases hv.2 with ⟨rfl,_,_⟩|⟨k,cap,cur,rfl,rfl,_⟩
   ·simp [Value.ownBlock]
   ·intro e
    have hk:k=b:=by simpa [Value.ownBlock] using e
    have:=hO.apart
    simp [hk] at this
 rcases hp with rfl|rfl
 ·exact .inl key
 ·exact .inr key
theorem rstring_any0 (B b:Nat)(l:YL)(w:World)(h:Lib.IsBuilder 186 5 B b (Lib.byteCells l) w)(h0:l≠[]):
  YC 86 #[.pointer (some ⟨b,0,none⟩)] w λe w'=>e= .returned (.string ⟨l.toArray⟩)/\Below B w w':=by
 obtain ⟨p,hB,v,hbk,hown,hne⟩:∃ p,Lib.BuilderAt 186 5 B b p (Lib.byteCells l) w:=h.elim (λq=>⟨_,q⟩) (λq=>⟨_,q⟩)
 rcases hown.2 with ⟨_,hz⟩|⟨g,cap,cur,rfl,hbg,hg,hnc,hcm,hcs,htake⟩
 ·exact absurd hz (byteCells_ne h0)
 rw [Lib.byteCells_length] at hown hnc hbk htake
 have hl0:l.length≠0:=λe=>h0 (List.eq_nil_of_length_eq_zero e)
 have hg':w.drew.heap[g]?=some (.cells cur 5 (0,0)):=hg
 have c1:w.drew.cell? ⟨b,1,none⟩=some (.slice (some ⟨g,0,none⟩) l.length cap):=by
  rw [Lib.cell_of_heap (show w.drew.heap[b]?=_ from hbk)];rfl
 have hSD:=Lib.run_unsafeSliceData_row (P:=YP) w.drew #[66] 175 ⟨g,0,none⟩ l.length cap Om
 have hUS:=Lib.run_unsafeString_row (P:=YP) w.drew 175 3 9 5 Tryz.underlying175 Kr g cur.size (by unfold World.shape?;rw [hg']) l h0 Om (by unfold maxLen at hcm;omega)
  (λj x hx=>hown.cells (g:=g) rfl j (.int .u8 x.toNat) (by simp [Lib.byteCells,hx]))
 go_enter Tryz.func86,Tryz.ntmps86
 go_wp2
 have mixed:Tryz.prog.follows .mixedOrders=true:=by kernel_rfl
 go_region_o
 all_goals
  go_wp2
  go_ret
  have hf:=Lib.below_freeze (Go.RowKit.Below.drew (Go.RowKit.Below.refl B w)) (p:=⟨g,0,none⟩) hbg l.length
  exact ⟨rfl,hf.os,hf.tape,hf.output,hf.size,by rw [freeze_draws];exact Nat.le_succ _,hf.block⟩
theorem rstring_any (b:Nat)(l:YL)(ob:List Blk)(W w:World)(hB:BuR b l ob)(hO:Own [] W w ob)(h0:l≠[]):
  YC 86 #[.pointer (some ⟨b,0,none⟩)] w λe w'=>e= .returned (.string (mkS l))/\Own [] W w' []:=
 (rstring_any0 W.heap.size b l w (buR_own hB hO λx hx=>(hO.base x hx).elim id λq=>by simp at q) h0).mono λe w' ⟨he,hb⟩=>by
  have hb2:=hO.below.trans hb
  exact ⟨he,hb2.os,hb2.tape,hb2.output,hb2.size,hb2.drawn,λk hk _=>hb2.block k hk,by simp,by simp,by simp⟩
theorem rWrite_any (b:Nat)(l:YL)(s:YL)(ob:List Blk)(W:World)(hB:BuR b l ob)(hO:Own (ob.map Blk.b) W W ob)(hl:l.length<=1000000000000)(hs:s.length<=1000000000000):
  YC 83 #[.pointer (some ⟨b,0,none⟩),.string (mkS s)] W λe w'=>∃ ob',e= .returned (.tuple #[YI ((mkS s).size:Int),.nilIface])/\BuR b (l++s) ob'/\Own (ob.map Blk.b) W w' ob':=by
 obtain ⟨p,v,g,rfl,hp,hv⟩:=hB
 obtain ⟨A,cap,rfl⟩:=Sl.form hv
 have hsz:=zW s
 refine calls_okL (n:=19) hO Tryz.func83 rfl Kr Kr (ZO (Zv (YI 0) (Zv (.nilIface) (ZR (Zv (Zp b 0) (Zr (k:=146) (args:= #[Zp b 0]) (λv' L'=>v'= .tuple #[]/\L'=⟨b, #[Zp b 0,.slice A l.length cap],186⟩::g) (λw hO=>(rcheck_any b p _ _ _ _ w hp hO).mono λe w' ⟨k1,k2⟩=>⟨_,_,k1,⟨rfl,rfl⟩,k2⟩) (λv0 L0 hv0=> ?_)))))))
 obtain ⟨rfl,rfl⟩:=hv0
 refine ZR (Zv (Zp b 0) (Zv (Zp b 0) (Zv (Zp b 0) (Zv (Zp b 1) (Zl 0 ⟨b, #[Zp b 0,.slice A l.length cap],186⟩ (off:=1) (.slice A l.length cap) (Zv (.string (mkS s)) ?_))))))
 obtain ⟨i0,e1,e2,e3,e4⟩:=infoU8R
 refine wD (L':=[⟨b, #[Zp b 0,.slice A l.length cap],186⟩]++g++[]) (by simp) (s_appstr Kr rfl Tryz.underlying66 Tryz.underlying9 e1 e2 e3 e4 Kr hv (s:=mkS s) Kr (by rw [hsz];unfold maxLen;omega) (by rw [hsz];omega) (λv2 g2 hv2=> ?_))
 have hv3:Sl 5 1 v2 (l++s).length (Lib.byteCells (l++s)) g2:=by rw [List.length_append,Lib.byteCells_append];rw [hsz,dH] at hv2;exact hv2
 obtain ⟨A2,cap2,rfl⟩:=Sl.form hv3
 refine wD (L':=⟨b, #[Zp b 0,.slice A l.length cap],186⟩::(g2)) (by simp) (Zv (Zp b 0) (Zv (Zp b 1) (Zs 0 ⟨b, #[Zp b 0,.slice A l.length cap],186⟩ (off:=1) (.slice A2 ((l++s).length) cap2) (ZR (Zv (.string (mkS s)) (Zv (YI ((mkS s).size)) (Zv (YI ((mkS s).size)) (Zv (.nilIface) ?_))))))))
 exact ZN (xK (ZG (YI ((mkS s).size)) (.nilIface) Tryz.results83 (λw hO=>⟨_,rfl,⟨_,_,g2,rfl,.inr rfl,hv3⟩,hO⟩)))
theorem rByte_any (b:Nat)(l:YL)(c:UInt8)(z:Int)(ob:List Blk)(W:World)(hB:BuR b l ob)(hO:Own (ob.map Blk.b) W W ob)(hl:l.length<=1000000000000)(hz:(c.toNat:Int)=z):
  YC 212 #[.pointer (some ⟨b,0,none⟩),.int .u8 z] W λe w'=>∃ ob',e= .returned (.nilIface)/\BuR b (l++[c]) ob'/\Own (ob.map Blk.b) W w' ob':=by
 obtain ⟨p,v,g,rfl,hp,hv⟩:=hB
 obtain ⟨A,cap,rfl⟩:=Sl.form hv
 subst hz
 refine calls_okL (n:=17) hO Tryz.func212 rfl Kr Kr (ZO (Zv (.nilIface) (ZR (Zv (Zp b 0) (Zr (k:=146) (args:= #[Zp b 0]) (λv' L'=>v'= .tuple #[]/\L'=⟨b, #[Zp b 0,.slice A l.length cap],186⟩::g) (λw hO=>(rcheck_any b p _ _ _ _ w hp hO).mono λe w' ⟨k1,k2⟩=>⟨_,_,k1,⟨rfl,rfl⟩,k2⟩) (λv0 L0 hv0=> ?_))))))
 obtain ⟨rfl,rfl⟩:=hv0
 refine ZR (Zv (Zp b 0) (Zv (Zp b 0) (Zv (Zp b 0) (Zv (Zp b 1) (Zl 0 ⟨b, #[Zp b 0,.slice A l.length cap],186⟩ (off:=1) (.slice A l.length cap) (Zv (.int .u8 (c.toNat:Int)) (s_lit 5 #[.int .u8 (c.toNat:Int)] Kr rfl (λ_=>Kr) (λb1=> ?_))))))))
 obtain ⟨i0,e1,e2,e3,e4⟩:=infoU8R
 refine wD (L':=[⟨b1, #[.int .u8 (c.toNat:Int)],5⟩,⟨b, #[Zp b 0,.slice A l.length cap],186⟩]++g++[]) (by simp) (fS (sz:=1) Kr rfl Tryz.underlying66 e1 e2 e3 rfl Kr hv (a:=⟨b1,0,none⟩) (m:=1) (c:=1) (news:=Lib.byteCells [c]) Kr rfl (λw hO j u hj=> ?_) (λu hu=>by rw [List.mem_singleton.1 hu];rfl) (by unfold maxLen;omega) (by rw [e4];omega) (λv2 g2 hv2=> ?_))
 ·rw [yY,cell_of_row w b1 (0+j) (Lib.byteCells [c]).toArray 5 _ (hO.held ⟨b1,(Lib.byteCells [c]).toArray,5⟩ (List.mem_append_left _ (List.mem_append_left _ (List.mem_cons_self ..))))];simpa using hj
 have hv3:Sl 5 1 v2 (l++[c]).length (Lib.byteCells (l++[c])) g2:=by rw [List.length_append,Lib.byteCells_append];exact hv2
 obtain ⟨A2,cap2,rfl⟩:=Sl.form hv3
 refine wD (L':=⟨b1, #[.int .u8 (c.toNat:Int)],5⟩::(⟨b, #[Zp b 0,.slice A l.length cap],186⟩::(g2))) (by simp) (Zv (Zp b 0) (Zv (Zp b 1) (Zs 1 ⟨b, #[Zp b 0,.slice A l.length cap],186⟩ (off:=1) (.slice A2 ((l++[c]).length) cap2) (ZR (Zv (.nilIface) (ZN (xK ?_)))))))
 exact ZF (.nilIface) Tryz.results212 (λw hO=>⟨_,rfl,⟨_,_,g2,rfl,.inr rfl,hv3⟩,Own.sub [⟨b1, #[.int .u8 (c.toNat:Int)],5⟩] hO⟩)
end
section
set_option linter.unnecessarySimpa false
theorem rq_write (b:Nat)(l s:YL)(R ob:List Blk){M:List Nat}{W:World}(hB:BuR b l ob)(hl:l.length<=1000000000000)(hs:s.length<=1000000000000):∀ w,Own M W w (R++ob)->YC 83 #[.pointer (some ⟨b,0,none⟩),.string (mkS s)] w λe w'=>∃ v ob',e= .returned v/\BuR b (l++s) ob'/\Own (ob.map Blk.b) w w' ob':=
 λw hO=>(rWrite_any b l s ob w hB (Own.lentR hO) hl hs).mono λe w' ⟨ob',k1,k2,k3⟩=>⟨_,ob',k1,k2,k3⟩
theorem qLine_any (b:Nat)(l:YL)(ws:List YL)(v:Value)(wb ob:List Blk)(W:World)(hB:BuR b l ob)(hw:SlT v ws wb)(hO:Own ((wb++ob).map Blk.b) W W (wb++ob))(hl:l.length<=1000000000)(hj:(zF 32 ws).length<=400000000)(hn:ws.length<=1000000)(hne:zF 32 ws≠[]):YC 156 #[.pointer (some ⟨b,0,none⟩),v] W λe w'=>∃ ob',e= .returned (.tuple #[])/\BuR b (l++(zF 32 ws++[10])) ob'/\Own ((wb++ob).map Blk.b) W w' (wb++ob'):=by
 obtain ⟨A,cap,rfl⟩:=SlT.form hw
 have hJ:∀ w,Own ((wb++ob).map Blk.b) W w (wb++ob)->YC 147 #[.slice A ws.length cap,.int .u8 32] w (YR (.string (mkS (zF 32 ws))) w):=λw hO=>bO _ ws 32 w (hw.readsT hO λx hx=>List.mem_append_left _ hx) Om Om hne
 refine y6 hO Tryz.func156 (x_drawLF (.s .z) 6 [] wb (λw hO=>(hO.past 0 (wb++ob)).sublist (List.sublist_append_left _ _)) (zY [] 4 (z6 (v:= .string (mkS (zF 32 ws))) [] (λw hO=>hJ w (hO.past 0 _)) (zY [] 5 ?_))))
 exact xh_callL (Rr:=λ_ ob'=>BuR b (l++zF 32 ws) ob') (wb++ob) wb ob wb (λw hO=>hO) (λo w hO=>hO.sublist (List.sublist_append_left _ _)) (rq_write b l (zF 32 ws) wb ob hB Om Om) λv1 o1 h1=>(kG (k:=212) (args:= #[Zp b 0,.int .u8 10]) (Rr:=λ_ ob'=>BuR b (l++zF 32 ws++[10]) ob') [] (wb++o1) wb o1 (λw hO=>hO) (λw hO=>(rByte_any b (l++zF 32 ws) 10 10 o1 w h1 (Own.lentR hO) (by simp only [List.length_append];omega) rfl).mono λe w' ⟨ob',k1,k2,k3⟩=>⟨_,ob',k1,k2,k3⟩) λv2 o2 h2=>(kM [] λw hO=>⟨o2,rfl,by rw [←List.append_assoc];exact h2,hO.past 0 _⟩))
def mS (w s:YL):YL:=if s=[] then [] else w++[32]++s++[10]
theorem qlit (b N:Nat)(cs:Array Value)(ws:List YL)(hc:cs.toList=jK ws)(hN:ws.length=N)(hM:N<=1000):SlT (.slice (some ⟨b,0,none⟩) N N) ws [⟨b,cs,9⟩]:=by
 subst hN
 unfold SlT
 rw [←hc]
 refine sl_block ?_ (by unfold maxLen;omega)
 rw [←Array.length_toList,hc,xB]
 have:=dT zO ws
 omega
theorem q_line {M:List Nat}{W:World}(b:Nat)(l:YL)(ws:List YL)(v:Value)(R wb ob:List Blk)(hB:BuR b l ob)(hw:SlT v ws wb)(hl:l.length<=1000000000)(hj:(zF 32 ws).length<=400000000)(hn:ws.length<=1000000)(hne:zF 32 ws≠[]):∀ w,Own M W w (R++(wb++ob))->YC 156 #[.pointer (some ⟨b,0,none⟩),v] w λe w'=>∃ v' o,e= .returned v'/\(∃ ob',BuR b (l++(zF 32 ws++[10])) ob'/\o=wb++ob')/\Own ((wb++ob).map Blk.b) w w' o:=
 λw hO=>(qLine_any b l ws v wb ob w hB hw (Own.lentR hO) hl hj hn hne).mono λe w' ⟨ob',k1,k2,k3⟩=>⟨_,_,k1,⟨ob',k2,rfl⟩,k3⟩
theorem qMaybe_any (b:Nat)(l wd s:YL)(ob:List Blk)(W:World)(hB:BuR b l ob)(hO:Own (ob.map Blk.b) W W ob)(hl:l.length<=900000000)(hw:wd≠[]/\wd.length<=100)(hs:s.length<=100000000):YC 159 #[.pointer (some ⟨b,0,none⟩),.string (mkS wd),.string (mkS s)] W λe w'=>∃ ob',e= .returned (.tuple #[])/\BuR b (l++mS wd s) ob'/\Own (ob.map Blk.b) W w' ob':=by
 have hT:zF 32 [wd,s]=wd++32::s:=rfl
 refine y6 hO Tryz.func159 (gR 7 [] s [] (λh=> ?_) (λh=> ?_))
 ·exact kM [] λw hO=>⟨ob,rfl,by rw [mS,if_pos h,List.append_nil];exact hB,hO.past 0 _⟩
 refine kD [] 2 9 #[.string (mkS wd),.string (mkS s)] λg=>(kG [] ([⟨g, #[.string (mkS wd),.string (mkS s)],9⟩]++ob) [] ([⟨g, #[.string (mkS wd),.string (mkS s)],9⟩]++ob) (λw hO=>hO) (q_line b l [wd,s] _ [] _ ob hB (qlit g 2 _ [wd,s] rfl rfl Om) Om (by rw [hT];simp only [List.length_append,List.length_cons];omega) (by simp) (by rw [hT];simp [hw.1])) λv1 o1 ⟨ob',k1,k2⟩=> ?_)
 subst k2
 have hz:l++(zF 32 [wd,s]++[10])=l++mS wd s:=by rw [mS,if_neg h,hT];simp
 rw [hz] at k1
 exact kM [] λw hO=>⟨ob',rfl,k1,hO.past 1 _⟩
theorem q_maybe {M:List Nat}{W:World}(b:Nat)(l wd s:YL)(R ob:List Blk)(hB:BuR b l ob)(hl:l.length<=900000000)(hw:wd≠[]/\wd.length<=100)(hs:s.length<=100000000):∀ w,Own M W w (R++ob)->YC 159 #[.pointer (some ⟨b,0,none⟩),.string (mkS wd),.string (mkS s)] w λe w'=>∃ v' o,e= .returned v'/\BuR b (l++mS wd s) o/\Own (ob.map Blk.b) w w' o:=
 λw hO=>(qMaybe_any b l wd s ob w hB (Own.lentR hO) hl hw hs).mono λe w' ⟨ob',k1,k2,k3⟩=>⟨_,_,k1,k2,k3⟩
theorem maybe_when (s:YL):mS wWhen s=vE s:=by
 unfold mS vE
 split
 ·rfl
 ·simp [wWhen,pB]
theorem maybe_opt (s:YL):mS wOpt s=tM s:=by
 unfold mS tM
 split
 ·rfl
 ·simp [wOpt,txOpt]
theorem joinL_ne (b:UInt8):∀ {l:List YL},l≠[]->(∀ s∈l,s≠[])->zF b l≠[]
 | [],h,_=>absurd rfl h
 | [x],_,h=>h x (List.mem_singleton.2 rfl)
 |x::y::r,_,_=>by rw [zF];simp
theorem own_rot3 {M:List Nat}{W w:World}{x y z:Blk}{L:List Blk}(h:Own M W w (x::y::z::L)):Own M W w (y::z::x::L):=h.perm ((List.Perm.swap ..).trans (List.Perm.cons _ (List.Perm.swap ..)))
def ndB (n:Nv)(b:Nat):Blk:=⟨b, #[.slice n.A n.any.length n.cap,.string (mkS n.wh),.string (mkS n.opt)],83⟩
def wsB (u:Wv)(b:Nat):Blk:=⟨b, #[.string (mkS u.name),.string (mkS u.rng),.slice u.A u.fs.length u.cap,.bool u.bare],146⟩
theorem qNeedW_any (B b:Nat)(l:YL)(n:Nv)(ob:List Blk)(W:World)(hB:BuR b l ob)(hO:Own (ob.map Blk.b) W W ob)(hge:∀ x∈ob,B<=x.b)(hBW:B<=W.heap.size)(hv:Reads wvC W B n.A n.any)(hf:∀ u∈n.any,Reads y7 W B u.A u.fs)(hn:n.any.length<=5000)(hnf:∀ u∈n.any,u.fs.length<=5000)(hfe:∀ u∈n.any,∀ s∈u.fs,s≠[])(hs:n.wh.length<=1000000/\n.opt.length<=1000000)(hl:l.length+(kT n.nt).length<=300000000):YC 158 #[.pointer (some ⟨b,0,none⟩),nvV n] W λe w'=>∃ ob',e= .returned (.tuple #[])/\BuR b (l++kT n.nt) ob'/\Own (ob.map Blk.b) W w' ob':=by
 have hM':∀ k∈ob.map Blk.b,B<=k:=λk hk=>by obtain ⟨x,hx,rfl⟩:=List.mem_map.1 hk;exact hge x hx
 have hnT:kT n.nt=txNeed++n.any.flatMap (λu=>kS u.wt)++vE n.wh++tM n.opt:=by
  unfold kT;simp only [Nv.nt,List.flatMap_map]
 have hnl:=congrArg List.length hnT
 simp only [List.length_append] at hnl
 have hn5:txNeed.length=5:=rfl
 refine y6 hO Tryz.func158 (zQ [] λb3=>kD [] 1 9 #[.string (mkS wNeed)] λg=> ?_)
 refine kG [] (⟨g, #[.string (mkS wNeed)],9⟩::ndB n b3::ob) [ndB n b3] ([⟨g, #[.string (mkS wNeed)],9⟩]++ob) (λw hO=>hO.swap) (q_line b l [wNeed] _ _ _ ob hB (qlit g 1 _ [wNeed] rfl rfl Om) Om (by decide) (by simp) (by decide)) λv1 o1 ⟨ob1,k1,k2⟩=> ?_
 subst k2
 refine zK [0] (ndB n b3::ob1) (λw hO=>(hO.past 0 (ndB n b3::⟨g, #[.string (mkS wNeed)],9⟩::ob1)).swap.past 1 _) (zL (α:=Nat×List Blk) (λx=>[(0,Zp b 0),(3,Zp b3 0),(12,.slice n.A n.any.length n.cap),(13,YI (n.any.length:Int)),(14,YI (x.1:Int))]) (λx=>ndB n b3::x.2) (λx m=>(x.1<=n.any.length/\BuR b (l++txNeed++(n.any.take x.1).flatMap (λu=>kS u.wt)) x.2)/\m=n.any.length-x.1) (0,ob1) n.any.length [] ⟨⟨Nat.zero_le _,by simp only [List.take_zero,List.flatMap_nil,List.append_nil];exact k1⟩,rfl⟩ ?_)
 rintro ⟨i,o⟩ mm gg kk ⟨⟨hi,ho⟩,hmm⟩ nx hkk
 subst hkk
 replace hi:i<=n.any.length:=hi
 replace ho:BuR b (l++txNeed++(n.any.take i).flatMap (λu=>kS u.wt)) o:=ho
 have hpt:=fF (λu:Wv=>kS u.wt) (l:=n.any) i
 have hpl:(l++txNeed++(n.any.take i).flatMap (λu=>kS u.wt)).length<=300000000:=by simp only [List.length_append];omega
 refine zA 15 [] ((i:Int)<(n.any.length:Int)) (λh15=> ?_) (λh15=> ?_)
 ·have hj:i<n.any.length:=by omega
  obtain ⟨eb,eo,hA,hel⟩:=hv.elem vJ i hj
  have hst:=wO (λu:Wv=>kS u.wt) hj
  have hsm:n.any[i]∈n.any:=List.getElem_mem hj
  have hone:=fm_one (λu:Wv=>kS u.wt) hsm
  have hel0:∀ w,Below B W w->(loadVar 146 ⟨eb,eo+i*4+0,none⟩).run YP w= .ok (wvV n.any[i]) w:=λw hw=>hel w hw _ 0 _ Kr
  have hru:=hf _ hsm;have hnu:=hnf _ hsm;have hfu:=hfe _ hsm
  have hw2:l++txNeed++(n.any.take i).flatMap (λu=>kS u.wt)++kS n.any[i].wt=l++txNeed++(n.any.take (i+1)).flatMap (λu=>kS u.wt):=by rw [hst,←List.append_assoc]
  generalize n.any[i]=u at hel0 hone hru hnu hfu hw2
  generalize l++txNeed++(n.any.take i).flatMap (λu=>kS u.wt)=done at*
  have huT:kS u.wt=zF 32 [wAny,u.name,bK u.fs,dR u.bare,u.rng]++[10]:=(wishL_text u.wt).symm
  have hul:=congrArg List.length huT
  rw [List.length_append] at hul
  have hfl:(bK u.fs).length<=(zF 32 [wAny,u.name,bK u.fs,dR u.bare,u.rng]).length:=jn_part 32 (by simp)
  have hJ:∀ w,Below B W w->u.fs≠[]->YC 147 #[.slice u.A u.fs.length u.cap,.int .u8 44] w (YR (.string (mkS (bK u.fs))) w):=λw hb hne=>by
   have hw:bK u.fs=zF 44 u.fs:=if_neg hne
   rw [hw]
   exact bO _ u.fs 44 w (reads_t (hru.on hb (Nat.le_trans hBW hb.size)) (Nat.le_refl _)) (by rw [←hw];omega) Om (joinL_ne 44 hne hfu)
  refine zH 16 [] hA n.any.length n.cap i 4 hj (zG 17 [] 146 eb (eo+i*4+0) (wvV u) (λw hO=>hel0 w (hO.belowB hM' hBW)) (zB [] λb5=>jX 21 (α:=YL) (λfl=>[(0,Zp b 0),(3,Zp b3 0),(5,Zp b5 0),(6,.string (mkS fl)),(7,.string (mkS tD)),(12,.slice n.A n.any.length n.cap),(13,YI (n.any.length:Int)),(14,YI (i:Int))]) (λ_=>wsB u b5::ndB n b3::o) (λfl=>fl=bK u.fs) [0,0] (λnj=>qT 21 ((u.fs.length:Int)>0) (λh=> ?_) (λh=> ?_)) (λfl g1 hfl1=> ?_)))
  ·exact z6 (v:= .string (mkS (bK u.fs))) [0] (λw hO=>hJ w (hO.belowB hM' hBW) (λe=>by rw [e] at h;simp at h)) (nj (bK u.fs) [] rfl Kr)
  ·exact nj [45] [] (show [45]=bK u.fs from by unfold bK;rw [if_pos (List.eq_nil_of_length_eq_zero Om)]) Kr
  refine jX 26 (α:=YL) (λkd=>[(0,Zp b 0),(3,Zp b3 0),(5,Zp b5 0),(6,.string (mkS fl)),(7,.string (mkS kd)),(12,.slice n.A n.any.length n.cap),(13,YI (n.any.length:Int)),(14,YI (i:Int))]) (λ_=>wsB u b5::ndB n b3::o) (λkd=>kd=dR u.bare) [0] (λnj=>zX 26 u.bare (λh=>nj txBare [] (by rw [h];rfl) Kr) (λh=>nj tD [] (by rw [h];rfl) Kr)) (λkd g2 hkd=> ?_)
  subst hfl1;subst hkd
  refine kD [0,0] 5 9 #[.string (mkS wAny),.string (mkS u.name),.string (mkS (bK u.fs)),.string (mkS (dR u.bare)),.string (mkS u.rng)] λg3=>(kG [] (⟨g3, #[.string (mkS wAny),.string (mkS u.name),.string (mkS (bK u.fs)),.string (mkS (dR u.bare)),.string (mkS u.rng)],9⟩::wsB u b5::ndB n b3::o) [wsB u b5,ndB n b3] ([⟨g3, #[.string (mkS wAny),.string (mkS u.name),.string (mkS (bK u.fs)),.string (mkS (dR u.bare)),.string (mkS u.rng)],9⟩]++o) (λw hO=>own_rot3 hO) (q_line b done [wAny,u.name,bK u.fs,dR u.bare,u.rng] _ _ _ o ho (qlit g3 5 _ _ rfl rfl Om) Om Om (by simp) (by simp [zF,wAny])) λv2 o2 ⟨ob2,q1,q2⟩=> ?_)
  subst q2
  rw [←huT,hw2] at q1
  exact x_i 14 [] ((i+1:Nat):Int) (zK [] (ndB n b3::ob2) (λw hO=>(hO.past 1 (ndB n b3::⟨g3, #[.string (mkS wAny),.string (mkS u.name),.string (mkS (bK u.fs)),.string (mkS (dR u.bare)),.string (mkS u.rng)],9⟩::ob2)).swap.past 1 _) (nx (i+1,ob2) (n.any.length-(i+1)) [] Om ⟨⟨hj,q1⟩,rfl⟩ Kr Kr))
 rw [List.take_of_length_le (show n.any.length<=i by omega)] at ho
 clear nx
 have hwl:(vE n.wh).length<=300000000:=by omega
 refine kG [0] (ndB n b3::o) [ndB n b3] o (λw hO=>hO) (q_maybe b _ wWhen n.wh [ndB n b3] o ho (by simp only [List.length_append];omega) (by decide) Om) λv3 o3 h3=> ?_
 rw [maybe_when] at h3
 refine kG [0] (ndB n b3::o3) [ndB n b3] o3 (λw hO=>hO) (q_maybe b _ wOpt n.opt [ndB n b3] o3 h3 (by simp only [List.length_append];omega) (by decide) Om) λv4 o4 h4=> ?_
 rw [maybe_opt] at h4
 refine kM [] λw hO=>⟨o4,rfl, ?_,hO.past 1 _⟩
 rw [hnT]
 simpa only [List.append_assoc] using h4
end
section
set_option linter.unnecessarySimpa false
theorem partsE_is (r:Rv):kZ r.rt=if (gJ (λn:Nv=>g8 r.name n.nt) 0 r.needs).1≠0 then gJ (λn:Nv=>g8 r.name n.nt) 0 r.needs
 else if (gJ (λb:Bv=>jV r.name b.bt) 0 r.bars).1≠0 then gJ (λb:Bv=>jV r.name b.bt) 0 r.bars
 else if bH (yI r.fts)=false then (11,0)
 else gJ (λf:Fv=>yQ (xG r.rt.needs) f.of) 0 r.fts:=by
 unfold kZ
 rw [show r.rt.needs=r.needs.map Nv.nt from rfl,show r.rt.bars=r.bars.map Bv.bt from rfl,show r.rt.fts=r.fts.map Fv.ft from rfl,pP,pP,pP];rfl
theorem r12parts_any (r:Rv)(W:World)(hr:RcIn W W.heap.size r):YC 115 #[rvV r] W (YR (.tuple #[YI (kZ r.rt).1,YI (kZ r.rt).2]) W):=by
 have hE:=partsE_is r
 have hnn:=hr.nn;have hnb:=hr.nb;have hfn:=hr.fts.n
 refine z8 Tryz.func115 (zQ [] λb1=>zL (α:=Nat) (λi=>[(1,Zp b1 0),(4,YI (i:Int))]) (λ_=>[⟨b1,(rvC r).toArray,29⟩]) (λi m=>(i<=r.needs.length∧∀ n∈r.needs.take i,g8 r.name n.nt=0)/\m=r.needs.length-i) 0 r.needs.length [] ⟨⟨Nat.zero_le _,λy h=>by simp at h⟩,rfl⟩ ?_)
 rintro i mm g kk ⟨⟨hi,hno⟩,hmm⟩ nx hkk
 subst hkk
 refine zA 14 [0] ((i:Int)<(r.needs.length:Int)) (λh14=> ?_) (λh14=> ?_)
 ·have hj:i<r.needs.length:=by omega
  obtain ⟨eb,eo,hA,hel⟩:=hr.needs.elem w6 i hj
  have hgo:=yL (p:=λn:Nv=>g8 r.name n.nt=0) hj hno
  have hat:=d9 (f:=λn:Nv=>g8 r.name n.nt) 0 hj hno
  have hsm:r.needs[i]∈r.needs:=List.getElem_mem hj
  have hel0:∀ w,YB W w->(loadVar 83 ⟨eb,eo+i*3+0,none⟩).run YP w= .ok (nvV r.needs[i]) w:=λw hw=>hel w hw _ 0 _ Kr
  have hra:=hr.any _ hsm;have hrf:=hr.wfs _ hsm;have hna:=hr.na _ hsm;have hnf:=hr.nf _ hsm;have hsw:=hr.sw _ hsm;have hsu:=hr.su _ hsm
  generalize r.needs[i]=n at hel0 hgo hat hra hrf hna hnf hsw hsu
  have hc:∀ w,YB W w->YC 182 #[rvV r,nvV n] w (YR (YI (g8 r.name n.nt)) w):=λw hb=>r12need_any r n w (hra.on hb hb.size) (λu hu=>(hrf u hu).on hb hb.size) hna hnf hsw hsu
  refine zH 21 [0,0] hA r.needs.length r.nc i 3 hj (zG 22 [] 83 eb (eo+i*3+0) (nvV n) (λw hO=>hel0 w hO.below) (z6 (v:=YI (g8 r.name n.nt)) [] (λw hO=>hc w hO.below) (kW 25 [] (g8 r.name n.nt=0) (λh=> ?_) (λh=> ?_))))
  ·exact x_i 16 [] ((i+1:Nat):Int) (nx (i+1) (r.needs.length-(i+1)) [] Om ⟨⟨hj,hgo h⟩,rfl⟩ Kr Kr)
  ·refine yU [] (YI (g8 r.name n.nt)) (YI (i:Int)) λw hO=>⟨?_,hO.below⟩
   rw [hE,hat h,if_pos h];simp only [Nat.zero_add]
 have h1:=gU (k:=0) (xM (p:=λn:Nv=>g8 r.name n.nt=0) (show r.needs.length<=i by omega) hno)
 rw [h1,if_neg (by simp)] at hE
 clear nx
 refine zL (α:=Nat) (λi=>[(1,Zp b1 0),(6,YI (i:Int))]) (λ_=>[⟨b1,(rvC r).toArray,29⟩]) (λi m=>(i<=r.bars.length∧∀ b∈r.bars.take i,jV r.name b.bt=0)/\m=r.bars.length-i) 0 r.bars.length [] ⟨⟨Nat.zero_le _,λy h=>by simp at h⟩,rfl⟩ ?_
 rintro i2 m2 g2 kk ⟨⟨hi2,hno2⟩,hmm2⟩ nx hkk
 subst hkk
 refine zA 32 [0] ((i2:Int)<(r.bars.length:Int)) (λh32=> ?_) (λh32=> ?_)
 ·have hj:i2<r.bars.length:=by omega
  obtain ⟨eb,eo,hA,hel⟩:=hr.bars.elem pR i2 hj
  have hgo:=yL (p:=λb:Bv=>jV r.name b.bt=0) hj hno2
  have hat:=d9 (f:=λb:Bv=>jV r.name b.bt) 0 hj hno2
  have hsm:r.bars[i2]∈r.bars:=List.getElem_mem hj
  have hel0:∀ w,YB W w->(loadVar 85 ⟨eb,eo+i2*3+0,none⟩).run YP w= .ok (bvV r.bars[i2]) w:=λw hw=>hel w hw _ 0 _ Kr
  have hsb:=hr.sb _ hsm
  generalize r.bars[i2]=b at hel0 hgo hat hsb
  have hc:∀ w,YB W w->YC 183 #[rvV r,bvV b] w (YR (YI (jV r.name b.bt)) w):=λw hb=>r12bar_any r b w hsb
  refine zH 39 [0,0] hA r.bars.length r.bc i2 3 hj (zG 40 [] 85 eb (eo+i2*3+0) (bvV b) (λw hO=>hel0 w hO.below) (z6 (v:=YI (jV r.name b.bt)) [] (λw hO=>hc w hO.below) (kW 43 [] (jV r.name b.bt=0) (λh=> ?_) (λh=> ?_))))
  ·exact x_i 34 [] ((i2+1:Nat):Int) (nx (i2+1) (r.bars.length-(i2+1)) [] Om ⟨⟨hj,hgo h⟩,rfl⟩ Kr Kr)
  ·refine yU [] (YI (jV r.name b.bt)) (YI (i2:Int)) λw hO=>⟨?_,hO.below⟩
   rw [hE,hat h,if_pos h];simp only [Nat.zero_add]
 have h2:=gU (k:=0) (xM (p:=λb:Bv=>jV r.name b.bt=0) (show r.bars.length<=i2 by omega) hno2)
 rw [h2,if_neg (by simp)] at hE
 clear nx
 have hM:∀ w,YB W w->YC 184 #[.slice r.fA r.fts.length r.fc] w (YR (.bool (bH (yI r.fts))) w):=λw hb=>r11May_any r.fA r.fc r.fts w (hr.fts.on hb hb.size)
 refine z6 (v:= .bool (bH (yI r.fts))) [0] (λw hO=>hM w hO.below) (zX 48 (bH (yI r.fts)) (λe3=> ?_) (λe3=> ?_))
 rotate_left
 ·exact yU [] (YI 11) (YI 0) λw hO=>⟨by rw [hE,if_pos e3],hO.below⟩
 rw [if_neg (by simp [e3])] at hE
 refine zL (α:=Nat) (λi=>[(1,Zp b1 0),(8,YI (i:Int))]) (λ_=>[⟨b1,(rvC r).toArray,29⟩]) (λi m=>(i<=r.fts.length∧∀ f∈r.fts.take i,yQ (xG r.rt.needs) f.of=0)/\m=r.fts.length-i) 0 r.fts.length [] ⟨⟨Nat.zero_le _,λy h=>by simp at h⟩,rfl⟩ ?_
 rintro i3 m3 g3 kk ⟨⟨hi3,hno3⟩,hmm3⟩ nx hkk
 subst hkk
 refine zA 54 [0] ((i3:Int)<(r.fts.length:Int)) (λh54=> ?_) (λh54=> ?_)
 rotate_left
 ·refine yU [] (YI 0) (YI 0) λw hO=>⟨?_,hO.below⟩
  rw [hE,gU (k:=0) (xM (p:=λf:Fv=>yQ (xG r.rt.needs) f.of=0) (show r.fts.length<=i3 by omega) hno3)]
 have hj:i3<r.fts.length:=by omega
 obtain ⟨eb,eo,hA,hel⟩:=hr.fts.top.elem vP i3 hj
 have hgo:=yL (p:=λf:Fv=>yQ (xG r.rt.needs) f.of=0) hj hno3
 have hat:=d9 (f:=λf:Fv=>yQ (xG r.rt.needs) f.of) 0 hj hno3
 have hsm:r.fts[i3]∈r.fts:=List.getElem_mem hj
 have hel0:∀ w,YB W w->(loadVar 74 ⟨eb,eo+i3*2+1,none⟩).run YP w= .ok (.slice r.fts[i3].A r.fts[i3].of.length r.fts[i3].cap) w:=λw hw=>hel w hw _ 1 _ Kr
 have hru:=hr.fts.each _ hsm;have hmu:=hr.fts.m _ hsm;have htu:=hr.fts.text _ hsm
 generalize r.fts[i3]=u at hel0 hgo hat hru hmu htu
 have hc:∀ w,YB W w->YC 185 #[rvV r,.slice u.A u.of.length u.cap] w (YR (YI (yQ (xG r.rt.needs) u.of)) w):=λw hb=>r12items_any r u.A u.cap u.of w (hr.on hb hb.size) (hru.on hb hb.size) Om htu
 refine zH 61 [0,0] hA r.fts.length r.fc i3 2 hj (zG 63 [] 74 eb (eo+i3*2+1) (.slice u.A u.of.length u.cap) (λw hO=>hel0 w hO.below) (z6 (v:=YI (yQ (xG r.rt.needs) u.of)) [] (λw hO=>hc w hO.below) (kW 66 [] (yQ (xG r.rt.needs) u.of=0) (λh=> ?_) (λh=> ?_))))
 ·exact x_i 56 [] ((i3+1:Nat):Int) (nx (i3+1) (r.fts.length-(i3+1)) [] Om ⟨⟨hj,hgo h⟩,rfl⟩ Kr Kr)
 ·refine yU [] (YI (yQ (xG r.rt.needs) u.of)) (YI (i3:Int)) λw hO=>⟨?_,hO.below⟩
  rw [hE,hat h];simp only [Nat.zero_add]
theorem vprint_short {v:Ver}(hp:v.pre.length<=1000000)(hq:v.build.length<=1000000):v.print.length<=3000000:=by
 unfold Ver.print
 split
 case isTrue h=>
  obtain ⟨n1,n2,n3⟩:=jQ h
  have hnl:(numsL v).length<=14:=nums_len n1 n2 n3
  have h1:(kJ 45 v.pre).length<=1000001:=by unfold kJ;split<;>simp<;>omega
  have h2:(kJ 43 v.build).length<=1000001:=by unfold kJ;split<;>simp<;>omega
  unfold Ver.text
  simp only [List.length_append];omega
 case isFalse=>simp
theorem r12Check_any (r:Rv)(W:World)(hr:RcIn W W.heap.size r):YC 55 #[rvV r] W (YR (.tuple #[YI (zP r.rt).1,YI (zP r.rt).2]) W):=by
 have hE:zP r.rt=if nmL r.name=false then (4,0) else if r.ver.may=false then (5,0) else if 8<r.needs.length\/8<r.bars.length then (3,0) else if (kZ r.rt).1≠0 then kZ r.rt else if 4096<(kA r.rt).length then (3,0) else (0,0):=by
  unfold zP;simp only [Rv.rt,List.length_map]
 have hsn:=hr.sn
 have c1:∀ w,YB W w->YC 73 #[.string (mkS r.name)] w (YR (.bool (nmL r.name)) w):=λw hb=>fU r.name w hsn.1
 have c2:∀ w,YB W w->YC 114 #[yN r.ver] w (YR (.bool r.ver.may) w):=λw hb=>wY r.ver w hsn.2.1 hsn.2.2
 have c3:∀ w,YB W w->YC 115 #[rvV r] w (YR (.tuple #[YI (kZ r.rt).1,YI (kZ r.rt).2]) w):=λw hb=>r12parts_any r w (hr.on hb hb.size)
 refine z8 Tryz.func55 (zQ [] λb1=>z6 (v:= .bool (nmL r.name)) [0] (λw hO=>c1 w hO.below) (zX 9 (nmL r.name) (λe1=> ?_) (λe1=> ?_)))
 rotate_left
 ·exact yU [] (YI 4) (YI 0) λw hO=>⟨by rw [hE,if_pos e1],hO.below⟩
 rw [if_neg (by simp [e1])] at hE
 refine z6 (v:= .bool r.ver.may) [0] (λw hO=>c2 w hO.below) (zX 14 r.ver.may (λe2=> ?_) (λe2=> ?_))
 rotate_left
 ·exact yU [] (YI 5) (YI 0) λw hO=>⟨by rw [hE,if_pos e2],hO.below⟩
 rw [if_neg (by simp [e2])] at hE
 refine zA 20 [0] ((r.needs.length:Int)>8) (λh20=> ?_) (λh20=> ?_)
 ·exact yU [] (YI 3) (YI 0) λw hO=>⟨by rw [hE,if_pos (.inl Om)],hO.below⟩
 refine zA 25 [0] ((r.bars.length:Int)>8) (λh25=> ?_) (λh25=> ?_)
 ·exact yU [] (YI 3) (YI 0) λw hO=>⟨by rw [hE,if_pos (.inr Om)],hO.below⟩
 rw [if_neg Om] at hE
 refine z6 (v:= .tuple #[YI (kZ r.rt).1,YI (kZ r.rt).2]) [0] (λw hO=>c3 w hO.below) (kW 33 [] ((kZ r.rt).1=0) (λh33=> ?_) (λh33=> ?_))
 rotate_left
 ·exact yU [] (YI (kZ r.rt).1) (YI (kZ r.rt).2) λw hO=>⟨by rw [hE,if_pos h33],hO.below⟩
 rw [if_neg (λh=>h h33)] at hE
 have hs:(kA r.rt).length<=100000000:=rec_small (r:=r.rt) hsn.1 (vprint_short hsn.2.1 hsn.2.2) (by simp only [Rv.rt,List.length_map];omega) (by simp only [Rv.rt,List.length_map];omega) h33 (λf hf s hs=>by
  obtain ⟨y,hy,rfl⟩:=List.mem_map.1 hf
  exact hr.fts.text y hy s hs)
 have c4:∀ w,YB W w->YC 58 #[rvV r] w (YR (.string (mkS (kA r.rt))) w):=λw hb=>r12text_any r w (hr.on hb hb.size) hs
 have hz:(mkS (kA r.rt)).size=(kA r.rt).length:=bM _
 refine z6 (v:= .string (mkS (kA r.rt))) [0] (λw hO=>c4 w hO.below) (zA 39 [] (((mkS (kA r.rt)).size:Int)>4096) (λh39=> ?_) (λh39=> ?_))
 ·exact yU [] (YI 3) (YI 0) λw hO=>⟨by rw [hE,if_pos Om],hO.below⟩
 ·exact yU [] (YI 0) (YI 0) λw hO=>⟨by rw [hE,if_neg Om],hO.below⟩
theorem r12Print_any (r:Rv)(W:World)(hr:RcIn W W.heap.size r):YC 19 #[rvV r] W (YR (.tuple #[.string (mkS (dX r.rt)),YI (zP r.rt).1]) W):=by
 have c1:∀ w,YB W w->YC 55 #[rvV r] w (YR (.tuple #[YI (zP r.rt).1,YI (zP r.rt).2]) w):=λw hb=>r12Check_any r w (hr.on hb hb.size)
 refine z8 Tryz.func19 (zQ [] λb1=>z6 (v:= .tuple #[YI (zP r.rt).1,YI (zP r.rt).2]) [0] (λw hO=>c1 w hO.below) (kW 12 [] ((zP r.rt).1=0) (λh=> ?_) (λh=> ?_)))
 rotate_left
 ·exact yU [] (.string ⟨#[]⟩) (YI (zP r.rt).1) λw hO=>⟨by rw [show dX r.rt=[] from if_neg h];rfl,hO.below⟩
 have c2:∀ w,YB W w->YC 58 #[rvV r] w (YR (.string (mkS (kA r.rt))) w):=λw hb=>r12text_any r w (hr.on hb hb.size) (by have:=(gK h).2.2.2.2.2;omega)
 exact z6 (v:= .string (mkS (kA r.rt))) [0] (λw hO=>c2 w hO.below) (yU [] (.string (mkS (kA r.rt))) (YI 0) λw hO=>⟨by rw [show dX r.rt=kA r.rt from if_pos h,h],hO.below⟩)
end
section
def BytesAt (w:World)(e:TypeId)(g:Nat)(l:YL):Prop:=
 ∃ row,w.heap[g]?=some (.cells row e (row.size,row.size+1))/\l.length<=row.size∧∀ j (h:j<l.length),row[j]?=some (.int .u8 (l[j].toNat:Int))
theorem BytesAt.lt {w:World}{e:TypeId}{g:Nat}{l:YL}(h:BytesAt w e g l):g<w.heap.size:=by
 obtain ⟨row,h1,_⟩:=h
 exact (Array.getElem?_eq_some_iff.1 h1).1
theorem BytesAt.cell {w:World}{e:TypeId}{g:Nat}{l:YL}(h:BytesAt w e g l){j:Nat}(hj:j<l.length):w.cell? ⟨g,j,none⟩=some (.int .u8 (l[j].toNat:Int)):=by
 obtain ⟨row,h1,_,h3⟩:=h
 rw [Lib.cell_of_heap h1];exact h3 j hj
theorem BytesAt.made (w:World)(e:TypeId)(s:YL):BytesAt (Lib.bytesWorld w e (mkS s)) e w.heap.size s/\Below w.heap.size w (Lib.bytesWorld w e (mkS s))/\w.heap.size<(Lib.bytesWorld w e (mkS s)).heap.size:=by
 have hsz:=Lib.bytesWorld_size w e (mkS s)
 refine ⟨⟨Lib.bytesCells w e (mkS s),Lib.bytesWorld_at_new w e (mkS s), ?_,λj hj=> ?_⟩,⟨?_, ?_, ?_,by omega, ?_,λk hk=>Lib.bytesWorld_at_old w e (mkS s) k hk⟩,by omega⟩
 ·unfold Lib.bytesCells mkS;simp
 ·unfold Lib.bytesCells mkS
  rw [Array.getElem?_append_left (by simpa using hj)]
  simp [hj]
 all_goals
  unfold Lib.bytesWorld World.freeze
  split<;>first|rfl|exact Nat.le_succ _
section
variable {M:List Nat}{P:Program}{n0:Nat}{ops:Array Oper}{W:World}{Q:Exit->Act->World->Prop}{rest:List Oper}{o:Oper}{L:List Blk}{f:Nat->Value}
end
end
section
def u64V (x:UInt64):Value:= .int .u64 (x.toNat:Int)
section
variable {P:Program}{ρ:Operand->Value}{o:Oper}{t t':TypeId}{a b:Operand}
theorem lt64 (x:UInt64):x.toNat<18446744073709551616:=x.toNat_lt
theorem run_xor64 {x y:UInt64}(ho:o.op= .binOp .xor t a b t')(hx:ρ a= .int .u64 (x.toNat:Int))(hy:ρ b= .int .u64 (y.toNat:Int))(w:World):(execOp ρ o).run P w= .ok (.value (.int .u64 ((x^^^y).toNat:Int))) w:=by
 have hb:binOp .xor t (.int .u64 (x.toNat:Int)) (.int .u64 (y.toNat:Int))=pure (.int .u64 ((x^^^y).toNat:Int)):=by
  have e:=u64_xor_nat _ _ (lt64 x) (lt64 y)
  rw [←UInt64.toNat_xor] at e
  rw [←e]
  simp [binOp,intBits_xor]
 have hg:eqGuard .xor t a b (.int .u64 (x.toNat:Int)) (.int .u64 (y.toNat:Int))=pure ():=rfl
 unfold execOp
 simp only [ho,hx,hy,Sem.run_bind,hg,hb,Sem.run_pure,Result.andThen_ok]
theorem run_or64 {x y:UInt64}(ho:o.op= .binOp .or t a b t')(hx:ρ a= .int .u64 (x.toNat:Int))(hy:ρ b= .int .u64 (y.toNat:Int))(w:World):(execOp ρ o).run P w= .ok (.value (.int .u64 ((x|||y).toNat:Int))) w:=by
 have hb:binOp .or t (.int .u64 (x.toNat:Int)) (.int .u64 (y.toNat:Int))=pure (.int .u64 ((x|||y).toNat:Int)):=by
  have e:=u64_or_nat _ _ (lt64 x) (lt64 y)
  rw [←UInt64.toNat_or] at e
  rw [←e]
  simp [binOp,intBits_or]
 have hg:eqGuard .or t a b (.int .u64 (x.toNat:Int)) (.int .u64 (y.toNat:Int))=pure ():=rfl
 unfold execOp
 simp only [ho,hx,hy,Sem.run_bind,hg,hb,Sem.run_pure,Result.andThen_ok]
theorem pA (n:Nat):IntKind.u64.wrap (n:Int)=((n % 18446744073709551616:Nat):Int):=by
 simp [IntKind.wrap,IntKind.bits,IntKind.signed]
theorem run_mul64 {x y:UInt64}(ho:o.op= .binOp .mul t a b t')(hx:ρ a= .int .u64 (x.toNat:Int))(hy:ρ b= .int .u64 (y.toNat:Int))(w:World):(execOp ρ o).run P w= .ok (.value (.int .u64 ((x*y).toNat:Int))) w:=by
 unfold execOp
 have h:=pA (x.toNat*y.toNat)
 rw [Int.natCast_mul] at h
 simp [ho,hx,hy,eqGuard,binOp,Op.intArith,h,UInt64.toNat_mul]
theorem run_shl64 {x:UInt64}{yk:IntKind}{n:Nat}(ho:o.op= .binOp .shl t a b t')(hx:ρ a= .int .u64 (x.toNat:Int))(hy:ρ b= .int yk (n:Int))(hn:n<64)(w:World):(execOp ρ o).run P w= .ok (.value (.int .u64 ((x<<<UInt64.ofNat n).toNat:Int))) w:=by
 have h1:=shift_shl .u64 yk (x.toNat:Int) (n:Int) Om (by show (n:Int)<=64;omega)
 have h2:IntKind.u64.wrap ((x.toNat:Int)*2^(n:Int).toNat)=((x<<<UInt64.ofNat n).toNat:Int):=by
  have h:=pA (x.toNat*2^n)
  rw [Int.toNat_natCast]
  rw [Int.natCast_mul] at h
  rw [show ((2:Int)^n)=((2^n:Nat):Int) from by push_cast;rfl,h,UInt64.toNat_shiftLeft,UInt64.toNat_ofNat',Nat.shiftLeft_eq,show n % 2^64 % 64=n from by omega]
 have hg:eqGuard .shl t a b (.int .u64 (x.toNat:Int)) (.int yk (n:Int))=pure ():=rfl
 unfold execOp
 simp only [ho,hx,hy,Sem.run_bind,hg,binOp,h1,h2,Sem.run_pure,Result.andThen_ok]
theorem bY {x:UInt64}{yk:IntKind}{n:Nat}(ho:o.op= .binOp .shr t a b t')(hx:ρ a= .int .u64 (x.toNat:Int))(hy:ρ b= .int yk (n:Int))(hn:n<64)(w:World):(execOp ρ o).run P w= .ok (.value (.int .u64 ((x>>>UInt64.ofNat n).toNat:Int))) w:=by
 have h1:=shift_shr .u64 yk (x.toNat:Int) (n:Int) Om (by show (n:Int)<=64;omega)
 have h2:(x.toNat:Int)/2^(n:Int).toNat=((x>>>UInt64.ofNat n).toNat:Int):=by
  rw [Int.toNat_natCast,show ((2:Int)^n)=((2^n:Nat):Int) from by push_cast;rfl,UInt64.toNat_shiftRight,UInt64.toNat_ofNat',Nat.shiftRight_eq_div_pow,show n % 2^64 % 64=n from by omega]
  exact (Int.natCast_ediv _ _).symm
 have hg:eqGuard .shr t a b (.int .u64 (x.toNat:Int)) (.int yk (n:Int))=pure ():=rfl
 unfold execOp
 simp only [ho,hx,hy,Sem.run_bind,hg,binOp,h1,h2,Sem.run_pure,Result.andThen_ok]
theorem run_to64 {src dst:TypeId}{x:UInt8}(ho:o.op= .convert src dst a)(hx:ρ a= .int .u8 (x.toNat:Int))(hs:(P.underlying src).isSome=true)(hd:P.underlying dst=some (.int .u64))(w:World):(execOp ρ o).run P w= .ok (.value (.int .u64 (x.toUInt64.toNat:Int))) w:=by
 have hk:P.intKind dst= .u64:=by unfold Program.intKind;rw [hd]
 have h:=run_convert_int (P:=P) w src dst .u8 (x.toNat:Int) hs (by rw [hk];exact hd)
 rw [hk,pA] at h
 have e:x.toNat % 18446744073709551616=x.toUInt64.toNat:=by rw [UInt8.toNat_toUInt64];have:=x.toNat_lt;omega
 rw [e] at h
 unfold execOp
 simp only [ho,hx,Sem.run_bind,h,Sem.run_pure,Result.andThen_ok]
theorem run_to8 {src dst:TypeId}{x:UInt64}(ho:o.op= .convert src dst a)(hx:ρ a= .int .u64 (x.toNat:Int))(hs:(P.underlying src).isSome=true)(hd:P.underlying dst=some (.int .u8))(w:World):(execOp ρ o).run P w= .ok (.value (.int .u8 (x.toUInt8.toNat:Int))) w:=by
 have hk:P.intKind dst= .u8:=by unfold Program.intKind;rw [hd]
 have h:=run_convert_int (P:=P) w src dst .u64 (x.toNat:Int) hs (by rw [hk];exact hd)
 have h8:IntKind.u8.wrap (x.toNat:Int)=(x.toUInt8.toNat:Int):=by
  rw [IntKind.wrap_u8',UInt64.toNat_toUInt8];omega
 rw [hk,h8] at h
 unfold execOp
 simp only [ho,hx,Sem.run_bind,h,Sem.run_pure,Result.andThen_ok]
end
end
section
def hexD (d:Nat):UInt8:=if d<10 then UInt8.ofNat (48+d) else UInt8.ofNat (87+d)
def hexV (c:UInt8):Option Nat:=if 48<=c.toNat/\c.toNat<=57 then some (c.toNat-48) else if 97<=c.toNat/\c.toNat<=102 then some (c.toNat-87) else none
def hexT (n:Nat)(k:Nat):YL:=(List.range k).map λi=>hexD (n/16^(15-i) % 16)
def dText (n:UInt64):YL:=hexT n.toNat 16
def hexN:Nat->YL->Option Nat
 |n,[]=>some n
 |n,c::r=>match hexV c with
  |some d=>hexN (n*16+d) r
  |none=>none
def dReadN (s:YL):Option Nat:=if s.length=16 then hexN 0 s else none
def dReadV (s:YL):UInt64:=UInt64.ofNat ((dReadN s).getD 0)
def dReadB (s:YL):Bool:=(dReadN s).isSome
end
section
def u8C (b:UInt8):List Value:=[.int .u8 (b.toNat:Int)]
def u64C (n:UInt64):List Value:=[.int .u64 (n.toNat:Int)]
theorem u8C_len (b:UInt8):(u8C b).length=1:=rfl
theorem u64C_len (n:UInt64):(u64C n).length=1:=rfl
def SlB (v:Value)(l:YL)(ob:List Blk):Prop:=Sl 5 1 v l.length (l.flatMap u8C) ob
def SlU (v:Value)(l:List UInt64)(ob:List Blk):Prop:=Sl 45 1 v l.length (l.flatMap u64C) ob
theorem u8Info:(Tryz.prog.info? 5).map (λi=>(i.zero.map (·.cells.size),i.size,i.bytes))=some (some 1,1,1):=by kernel_rfl
theorem u8_info:∃ i z,Tryz.prog.info? 5=some i/\i.zero=some z/\i.size=1/\z.cells.size=1/\i.bytes=1:=by
 have h:=u8Info
 cases hi:Tryz.prog.info? 5 with
 |none=>rw [hi] at h;cases h
 |some i=>
  rw [hi] at h
  simp only [Option.map_some,Option.some.injEq,Prod.mk.injEq] at h
  cases hz:i.zero with
  |none=>rw [hz] at h;simp at h
  |some z=>rw [hz] at h;simp at h;exact ⟨i,z,rfl,hz,h.2.1,h.1,h.2.2⟩
theorem Sl.to9 {T:TypeId}{sz:Nat}{v:Value}{n n':Nat}{xs xs':List Value}{ob:List Blk}(h:Sl T sz v n xs ob)(e:n=n')(e':xs=xs'):Sl T sz v n' xs' ob:=by subst e;subst e';exact h
theorem Sl.form9 {T sz n:Nat}{v:Value}{xs:List Value}{ob:List Blk}(h:Sl T sz v n xs ob):∃ A cap,v= .slice A n cap:=by
 rcases h.2 with ⟨h1,h2,_⟩|⟨g,cap,cur,h1,_⟩
 ·exact ⟨none,0,by rw [h1,h2]⟩
 ·exact ⟨_,_,h1⟩
theorem SlB.add {u:Value}{l:YL}{x:UInt8}{ob:List Blk}(h:Sl 5 1 u (l.length+1) (l.flatMap u8C++u8C x) ob):SlB u (l++[x]) ob:=
 Sl.to9 h (by simp) (by simp)
theorem u8_flat (l:YL):l.flatMap u8C=l.map λb=> .int .u8 (b.toNat:Int):=by
 induction l with
 |nil=>rfl
 |cons b l ih=>rw [List.flatMap_cons,List.map_cons,ih];rfl
section
variable {P:Program}{o:Oper}
theorem run_toint {src dst:TypeId}{ρ:Operand->Value}{a:Operand}{k q:IntKind}{x:Int}(ho:o.op= .convert src dst a)(hx:ρ a= .int k x)(hs:(P.underlying src).isSome=true)(hd:P.underlying dst=some (.int q))(hw:q.wrap x=x)(w:World):(execOp ρ o).run P w= .ok (.value (.int q x)) w:=by
 have hk:P.intKind dst=q:=by unfold Program.intKind;rw [hd]
 have h:=run_convert_int (P:=P) w src dst k x hs (by rw [hk];exact hd)
 rw [hk,hw] at h
 unfold execOp
 simp only [ho,hx,Sem.run_bind,h,Sem.run_pure,Result.andThen_ok]
end
theorem wrap_u64 {x:Int}(h0:0<=x)(h1:x<18446744073709551616):IntKind.u64.wrap x=x:=by
 obtain ⟨n,rfl⟩:=Int.eq_ofNat_of_zero_le h0
 have h:=pA n
 rw [show n % 18446744073709551616=n from by omega] at h
 exact h
section
variable {P:Program}{n0:Nat}{ops:Array Oper}{W:World}{Q:Exit->Act->World->Prop}{rest:List Oper}{o:Oper}{L0:List Blk}{f:Nat->Value}
end
theorem Reads.lit9 {α:Type}{g:α->List Value}{w:World}{b:Nat}{cs:Array Value}{T:TypeId}{l:List α}{fr:Nat×Nat}(h:w.heap[b]?=some (.cells cs T fr))(e:cs.toList=l.flatMap g):Reads g w w.heap.size (some ⟨b,0,none⟩) l:=λ_=>
 ⟨b,0,rfl,(Array.getElem?_eq_some_iff.1 h).1,λk u hk=>by
  rw [Nat.zero_add,cell_of_row w b k cs T fr h,←Array.getElem?_toList,e];exact hk⟩
section
variable {M:List Nat}{P:Program}{n0:Nat}{ops:Array Oper}{W:World}{Q:Exit->Act->World->Prop}{rest:List Oper}{o:Oper}{L0:List Blk}{f:Nat->Value}
end
theorem store_byte {cur:Array Value}{l:YL}{k:Nat}(hk:k<l.length)(hsz:l.length<=cur.size)(h:cur.toList.take (l.length*1)=l.flatMap u8C)(c:UInt8):(yK cur k (Value.int .u8 (c.toNat:Int)).cells).toList.take ((l.set k c).length*1)=(l.set k c).flatMap u8C:=by
 rw [Nat.mul_one] at h
 rw [u8_flat] at h ⊢
 rw [List.length_set,Nat.mul_one,List.map_set,←h]
 have h2:cur.toList.length=cur.size:=by simp
 unfold yK
 apply List.ext_getElem?
 intro j
 show ((cur.toList.take k++[Value.int .u8 (c.toNat:Int)]++cur.toList.drop (k+1)).take l.length)[j]?=_
 rw [List.getElem?_take,List.getElem?_set]
 by_cases hj:j<l.length
 ·rw [if_pos hj,List.append_assoc]
  by_cases h3:j<k
  ·rw [List.getElem?_append_left (by simp;omega),if_neg (by omega),List.getElem?_take,if_pos h3,List.getElem?_take,if_pos hj]
  ·rw [List.getElem?_append_right (by simp;omega)]
   have e:(List.take k cur.toList).length=k:=by simp;omega
   rw [e]
   by_cases h4:k=j
   ·subst h4
    rw [if_pos rfl,Nat.sub_self,if_pos (by simp;omega)];rfl
   ·rw [if_neg h4,show j-k=(j-k-1)+1 by omega,List.cons_append,List.getElem?_cons_succ,List.nil_append,List.getElem?_drop,List.getElem?_take,if_pos hj,show k+1+(j-k-1)=j by omega]
 ·rw [if_neg hj,if_neg (by rintro rfl;exact hj hk),List.getElem?_take,if_neg hj]
end
end Go.Proofs.YtdafengdngglpaaGreatDoor
