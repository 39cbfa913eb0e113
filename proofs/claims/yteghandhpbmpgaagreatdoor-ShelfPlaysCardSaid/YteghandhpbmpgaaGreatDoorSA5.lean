/-
 What the statement's proof leans on: the ways of walking, plain mathematics, and what the program's functions return; each theorem says on what conditions.
-/
import Derived.Lib.OthersKept
import Derived.Lib.IndexBytes
import Derived.Laws.IdiomStrings
import Derived.Laws.IdiomCopy
import Derived.Laws.BitsAllLaws
import Derived.Lib.ConvBytes
import Derived.Lib.Builder
import Derived.Laws.Entries
import Derived.RangeFuncIn
import Derived.RangeFuncLeaves
import Derived.RangeFuncCalls
import Derived.RangeFuncNested
import Derived.Lib.Bytealg
import Derived.Test.YteghandhpbmpgaaGreatDoorSA4
set_option maxRecDepth 1000000
set_option maxHeartbeats 8000000
set_option linter.unusedVariables false
set_option linter.unusedSimpArgs false
set_option linter.unnecessarySimpa false
namespace Go.Proofs.YteghandhpbmpgaaGreatDoor
open Go.RowKit

section
set_option linter.unnecessarySimpa false
theorem SlT.adds {u:Value}{l xs:List Tok}{ob:List Blk}(h:Sl 9 1 u (l.length+xs.length) (vD l++vD xs) ob):SlT u (l++xs) ob:=Sl.to h (by simp) (by rw [yL,yL,yL,List.flatMap_append])
def Wr (b:Nat)(A:Option Addr)(n cap:Nat)(ws:List Tok)(ob:List Blk):Prop:=∃ C cc g,ob=⟨b, #[.slice A n cap,.slice C ws.length cc],245⟩::g/\SlT (.slice C ws.length cc) ws g
structure LentW (B b:Nat)(A:Option Addr)(cap:Nat)(l:List Nd)(ws:List Tok)(ob:List Blk)(W:World):Prop where
 rd:Wr b A l.length cap ws ob
 own:Own (ob.map Blk.b) W W ob
 ge:∀ x∈ob,B<=x.b
 le:B<=W.heap.size
 nodes:Reads nC W B A l
 lib:MkAt B W
structure BackW (b:Nat)(A:Option Addr)(n cap:Nat)(ws:List Tok)(ob ob':List Blk)(W w':World):Prop where
 rd:Wr b A n cap ws ob'
 own:Own (ob.map Blk.b) W w' ob'
theorem LentW.at {B b cap:Nat}{A:Option Addr}{l:List Nd}{ws ws':List Tok}{ob ob' R:List Blk}{W w:World}(h:LentW B b A cap l ws ob W)(hR:Wr b A l.length cap ws' ob')(hO:Own (ob.map Blk.b) W w (ob'++R)):LentW B b A cap l ws' ob' w:=
 ⟨hR,Own.lent hO,λx hx=>hO.allB (gU h.ge) h.le x (List.mem_append_left _ hx),Nat.le_trans h.le hO.size,h.nodes.on (hO.belowB (gU h.ge) h.le) (Nat.le_refl _),h.lib.on (hO.belowB (gU h.ge) h.le) (Nat.le_refl _)⟩
def bC (A:Option Addr)(cap:Nat)(l:List Nd)(a:Nat)(X:List Tok):Prop:=∀ (B b:Nat) (ws:List Tok) (ob:List Blk) (W:World),LentW B b A cap l ws ob W->ws.length+X.length<=100000→
 YC 220 #[.pointer (some ⟨b,0,none⟩),YI (a:Int)] W λe w'=>∃ ob',e= .returned (.tuple #[])/\BackW b A l.length cap (ws++X) ob ob' W w'
def nX (A:Option Addr)(cap:Nat)(l:List Nd)(a:Nat)(z:Int)(X:List Tok):Prop:=∀ (B b:Nat) (ws:List Tok) (ob:List Blk) (W:World),LentW B b A cap l ws ob W->ws.length+X.length<=100000→
 YC 262 #[.pointer (some ⟨b,0,none⟩),YI (a:Int),YI z] W λe w'=>∃ ob',e= .returned (.tuple #[])/\BackW b A l.length cap (ws++X) ob ob' W w'
theorem fS {B b cap:Nat}{A:Option Addr}{l:List Nd}{ws:List Tok}{ob:List Blk}{W:World}(hL:LentW B b A cap l ws ob W)(op a b0:Int)(k:Nat)(hk:k<3)(v sg:Tok)(hn:ws.length+3<=100000):YC 261 #[.pointer (some ⟨b,0,none⟩),ndV ⟨op,a,b0,(k:Int),v⟩,.string (mkS sg)] W λe w'=>∃ ob',e= .returned (.tuple #[])/\BackW b A l.length cap (ws++[x1 k,sg,v]) ob ob' W w':=by
 have hM':=gU hL.ge
 have hBW:=hL.le
 have hO:=hL.own
 have hlib:=hL.lib
 obtain ⟨C,cc,g,rfl,hsl⟩:=hL.rd
 have hnl:(ws++[x1 k,sg,v]).length=ws.length+3:=by simp
 have hk1:∀ w,Own ((⟨b, #[.slice A l.length cap,.slice C ws.length cc],245⟩::g).map Blk.b) W w []->(loadVar 9 ⟨2,0+k*1,none⟩).run Tryz.prog w= .ok (.string (mkS (x1 k))) w:=λw hO=>(hlib.on (hO.belowB hM' hBW) (Nat.le_refl _)).one k hk
 refine y6 hO Tryz.func261 (zV [] λb4=>yJ 14 [] [⟨b4, #[YI op,YI a,YI b0,YI (k:Int),.string (mkS v)],275⟩,⟨b, #[.slice A l.length cap,.slice C ws.length cc],245⟩] (λw hO=>(hO.past 0 (⟨b4, #[YI op,YI a,YI b0,YI (k:Int),.string (mkS v)],275⟩::⟨b, #[.slice A l.length cap,.slice C ws.length cc],245⟩::g)).sublist (by simp)) ?_)
 refine xh_ixa 50013 [1,0] 7 3 k 1 hk (dT 50014 [] 8 9 2 (0+k*1) (.string (mkS (x1 k))) (λw hO=>hk1 w hO.no) (zK [0] 12 (kM 3 9 #[.string (mkS (x1 k)),.string (mkS sg),.string (mkS v)] λb1=>zK [] 13 (qS (m:=3) (cp:=3) [⟨b1, #[.string (mkS (x1 k)),.string (mkS sg),.string (mkS v)],9⟩,⟨b4, #[YI op,YI a,YI b0,YI (k:Int),.string (mkS v)],275⟩,⟨b, #[.slice A l.length cap,.slice C ws.length cc],245⟩] g [] 0 (⟨b1, #[.string (mkS (x1 k)),.string (mkS sg),.string (mkS v)],9⟩::⟨b4, #[YI op,YI a,YI b0,YI (k:Int),.string (mkS v)],275⟩::⟨b, #[.slice A l.length cap,.slice C ws.length cc],245⟩::g) [⟨b4, #[YI op,YI a,YI b0,YI (k:Int),.string (mkS v)],275⟩,⟨b, #[.slice A l.length cap,.slice C ws.length cc],245⟩] (λw hO=>hO.cast (by simp)) (λo w hO=>hO.sublist (List.Sublist.cons _ (List.Sublist.cons_cons _ (List.Sublist.cons_cons _ (List.nil_sublist _))))) hsl Om λv' ob' h=> ?_))))
 obtain ⟨C2,c2,rfl⟩:=h.form
 refine yU [2] λw hO=>⟨⟨b, #[.slice A l.length cap,.slice C2 (ws++[x1 k,sg,v]).length c2],245⟩::ob',rfl,⟨C2,c2,ob',rfl,by rw [hnl];exact SlT.adds (xs:=[x1 k,sg,v]) h⟩, ?_⟩
 rw [hnl];exact (hO.past 2 (⟨b, #[.slice A l.length cap,.slice C2 (ws.length+3) c2],245⟩::(ob'++[]))).cast (by simp)
theorem opn_in {A:Option Addr}{cap:Nat}{l:List Nd}(hl9:l.length<=1000){a:Nat}{na:Nd}{z:Int}{X:List Tok}(ha:l[a]?=some na)(hz:na.op<=z)(ha':bC A cap l a X):nX A cap l a z X:=by
 intro B b ws ob W hL hn
 have hM':=gU hL.ge
 have hBW:=hL.le
 have hv:=hL.nodes
 have hO:=hL.own
 obtain ⟨ha2,ea⟩:=fF ha
 obtain ⟨eb,eo,hA,hela⟩:=hv.elem bX a ha2
 obtain ⟨C,cc,g,rfl,hsl⟩:=hL.rd
 have q:∀ w,Own ((⟨b, #[.slice A l.length cap,.slice C ws.length cc],245⟩::g).map Blk.b) W w []->(loadVar 3 ⟨eb,eo+a*5+0,none⟩).run Tryz.prog w= .ok (YI na.op) w:=λw hO=>hela w (hO.belowB hM' hBW) _ 0 _ (by rw [ea];kernel_rfl)
 refine y6 hO Tryz.func262 (zU 11 [0] hA l.length cap a 5 ha2 (zP 13 [] 3 eb (eo+a*5+0) (YI na.op) (λw hO=>q w hO.no) (zE 15 [] (na.op<=z) (λ_=> ?_) (λh=>absurd hz h))))
 refine yW (k:=220) (args:= #[Zp b 0,YI (a:Int)]) (Rr:=λv ob'=>v= .tuple #[]/\Wr b A l.length cap (ws++X) ob') [] (⟨b, #[.slice A l.length cap,.slice C ws.length cc],245⟩::g) ([]:List Blk) (⟨b, #[.slice A l.length cap,.slice C ws.length cc],245⟩::g) (λw hO=>hO.cast (by simp)) (λw hO=>(ha' _ _ _ _ _ (hL.at (R:=([]:List Blk)) ⟨C,cc,g,rfl,hsl⟩ (hO.cast (by simp))) hn).mono λe w' ⟨ob',k1,k2⟩=>⟨_,ob',k1,⟨rfl,k2.rd⟩,k2.own⟩) λv1 ob1 hv1=> ?_
 obtain ⟨rfl,C1,c1,g1,rfl,hs1⟩:=hv1
 exact x_ret0 [] λw hO=>⟨_,rfl,⟨C1,c1,g1,rfl,hs1⟩,hO.past 0 (⟨b, #[.slice A l.length cap,.slice C1 (ws++X).length c1],245⟩::g1)⟩
theorem opn_out {A:Option Addr}{cap:Nat}{l:List Nd}(hl9:l.length<=1000){a:Nat}{na:Nd}{z:Int}{X:List Tok}(ha:l[a]?=some na)(hz:¬ na.op<=z)(ha':bC A cap l a X):nX A cap l a z (yT::(X++[kC])):=by
 intro B b ws ob W hL hn
 have el:ws++(yT::(X++[kC]))=(ws++[yT]++X)++[kC]:=by simp
 rw [el]
 have hM':=gU hL.ge
 have hBW:=hL.le
 have hv:=hL.nodes
 have hO:=hL.own
 obtain ⟨ha2,ea⟩:=fF ha
 obtain ⟨eb,eo,hA,hela⟩:=hv.elem bX a ha2
 obtain ⟨C,cc,g,rfl,hsl⟩:=hL.rd
 have q:∀ w,Own ((⟨b, #[.slice A l.length cap,.slice C ws.length cc],245⟩::g).map Blk.b) W w []->(loadVar 3 ⟨eb,eo+a*5+0,none⟩).run Tryz.prog w= .ok (YI na.op) w:=λw hO=>hela w (hO.belowB hM' hBW) _ 0 _ (by rw [ea];kernel_rfl)
 refine y6 hO Tryz.func262 (zU 11 [0] hA l.length cap a 5 ha2 (zP 13 [] 3 eb (eo+a*5+0) (YI na.op) (λw hO=>q w hO.no) (zE 15 [] (na.op<=z) (λh=>absurd h hz) (λ_=> ?_))))
 refine kG [0] 1 9 #[.string (mkS yT)] λb1=>vJ (m:=1) (cp:=1) [] [⟨b1, #[.string (mkS yT)],9⟩,⟨b, #[.slice A l.length cap,.slice C ws.length cc],245⟩] g [] 0 (⟨b1, #[.string (mkS yT)],9⟩::⟨b, #[.slice A l.length cap,.slice C ws.length cc],245⟩::g) (λw hO=>hO.cast (by simp)) hsl (by (try simp only [List.length_append,List.length_cons,List.length_nil] at hn ⊢);omega) λv1 o1 h1=> ?_
 obtain ⟨C1,c1,rfl⟩:=h1.form
 have e1:(ws++[yT]).length=ws.length+1:=List.length_append ..
 have hs1:SlT (.slice C1 (ws++[yT]).length c1) (ws++[yT]) o1:=by rw [e1];exact SlT.adds (xs:=[yT]) h1
 rw [←e1]
 refine yW (k:=220) (args:= #[Zp b 0,YI (a:Int)]) (Rr:=λv ob'=>v= .tuple #[]/\Wr b A l.length cap ((ws++[yT])++X) ob') [1] (⟨b1, #[.string (mkS yT)],9⟩::⟨b, #[.slice A l.length cap,.slice C1 (ws++[yT]).length c1],245⟩::(o1++[])) [⟨b1, #[.string (mkS yT)],9⟩] (⟨b, #[.slice A l.length cap,.slice C1 (ws++[yT]).length c1],245⟩::o1) (λw hO=>hO.cast (by simp)) (λw hO=>(ha' _ _ _ _ _ (hL.at (R:=[⟨b1, #[.string (mkS yT)],9⟩]) ⟨C1,c1,o1,rfl,hs1⟩ (hO.perm (List.perm_append_comm (l₁:=[⟨b1, #[.string (mkS yT)],9⟩]) (l₂:=⟨b, #[.slice A l.length cap,.slice C1 (ws++[yT]).length c1],245⟩::o1)))) (by (try simp only [List.length_append,List.length_cons,List.length_nil] at hn ⊢);omega)).mono λe w' ⟨ob',k1,k2⟩=>⟨_,ob',k1,⟨rfl,k2.rd⟩,k2.own⟩) λv2 ob2 hv2=> ?_
 obtain ⟨rfl,C2,c2,g2,rfl,hs2⟩:=hv2
 refine kG [1] 1 9 #[.string (mkS kC)] λb3=>vJ (m:=1) (cp:=1) [] [⟨b3, #[.string (mkS kC)],9⟩,⟨b1, #[.string (mkS yT)],9⟩,⟨b, #[.slice A l.length cap,.slice C2 (ws++[yT]++X).length c2],245⟩] g2 [] 0 (⟨b3, #[.string (mkS kC)],9⟩::⟨b1, #[.string (mkS yT)],9⟩::⟨b, #[.slice A l.length cap,.slice C2 (ws++[yT]++X).length c2],245⟩::g2) (λw hO=>hO.cast (by simp)) hs2 (by (try simp only [List.length_append,List.length_cons,List.length_nil] at hn ⊢);omega) λv3 o3 h3=> ?_
 obtain ⟨C3,c3,rfl⟩:=h3.form
 have e3:((ws++[yT]++X)++[kC]).length=(ws++[yT]++X).length+1:=List.length_append ..
 have hs3:SlT (.slice C3 ((ws++[yT]++X)++[kC]).length c3) ((ws++[yT]++X)++[kC]) o3:=by rw [e3];exact SlT.adds (xs:=[kC]) h3
 rw [←e3]
 exact yU [2] λw hO=>⟨⟨b, #[.slice A l.length cap,.slice C3 ((ws++[yT]++X)++[kC]).length c3],245⟩::o3,rfl,⟨C3,c3,o3,rfl,hs3⟩,(hO.past 2 (⟨b, #[.slice A l.length cap,.slice C3 ((ws++[yT]++X)++[kC]).length c3],245⟩::(o3++[]))).cast (by simp)⟩
theorem wpair_any {B b cap:Nat}{A:Option Addr}{l:List Nd}{ws:List Tok}{ob:List Blk}{W:World}(hL:LentW B b A cap l ws ob W){op:Int}{a b0:Nat}{X Y:List Tok}(ha':nX A cap l a op X)(hb':nX A cap l b0 (op-1) Y)(ho1:0<=op)(ho2:op<=10)(wd:Tok)(hn:ws.length+(X++wd::Y).length<=100000):YC 263 #[.pointer (some ⟨b,0,none⟩),ndV ⟨op,(a:Int),(b0:Int),0,[]⟩,.string (mkS wd)] W λe w'=>∃ ob',e= .returned (.tuple #[])/\BackW b A l.length cap (ws++(X++wd::Y)) ob ob' W w':=by
 have el:ws++(X++wd::Y)=(ws++X++[wd])++Y:=by simp
 rw [el]
 have hM':=gU hL.ge
 have hBW:=hL.le
 have hv:=hL.nodes
 have hO:=hL.own
 obtain ⟨C,cc,g,rfl,hsl⟩:=hL.rd
 refine y6 hO Tryz.func263 (zV [] λb4=> ?_)
 refine yW (k:=262) (args:= #[Zp b 0,YI (a:Int),YI op]) (Rr:=λv ob'=>v= .tuple #[]/\Wr b A l.length cap (ws++X) ob') [0,0] (⟨b4, #[YI op,YI (a:Int),YI (b0:Int),YI 0,.string (mkS [])],275⟩::⟨b, #[.slice A l.length cap,.slice C ws.length cc],245⟩::g) [⟨b4, #[YI op,YI (a:Int),YI (b0:Int),YI 0,.string (mkS [])],275⟩] (⟨b, #[.slice A l.length cap,.slice C ws.length cc],245⟩::g) (λw hO=>hO.cast (by simp)) (λw hO=>(ha' _ _ _ _ _ (hL.at (R:=[⟨b4, #[YI op,YI (a:Int),YI (b0:Int),YI 0,.string (mkS [])],275⟩]) ⟨C,cc,g,rfl,hsl⟩ (hO.perm (List.perm_append_comm (l₁:=[⟨b4, #[YI op,YI (a:Int),YI (b0:Int),YI 0,.string (mkS [])],275⟩]) (l₂:=⟨b, #[.slice A l.length cap,.slice C ws.length cc],245⟩::g)))) (by (try simp only [List.length_append,List.length_cons,List.length_nil] at hn ⊢);omega)).mono λe w' ⟨ob',k1,k2⟩=>⟨_,ob',k1,⟨rfl,k2.rd⟩,k2.own⟩) λv1 ob1 hv1=> ?_
 obtain ⟨rfl,C1,c1,g1,rfl,hs1⟩:=hv1
 refine kG [1] 1 9 #[.string (mkS wd)] λb2=>vJ (m:=1) (cp:=1) [] [⟨b2, #[.string (mkS wd)],9⟩,⟨b4, #[YI op,YI (a:Int),YI (b0:Int),YI 0,.string (mkS [])],275⟩,⟨b, #[.slice A l.length cap,.slice C1 (ws++X).length c1],245⟩] g1 [] 0 (⟨b2, #[.string (mkS wd)],9⟩::⟨b4, #[YI op,YI (a:Int),YI (b0:Int),YI 0,.string (mkS [])],275⟩::⟨b, #[.slice A l.length cap,.slice C1 (ws++X).length c1],245⟩::g1) (λw hO=>hO.cast (by simp)) hs1 (by (try simp only [List.length_append,List.length_cons,List.length_nil] at hn ⊢);omega) λv2 o2 h2=> ?_
 obtain ⟨C2,c2,rfl⟩:=h2.form
 have e2:((ws++X)++[wd]).length=(ws++X).length+1:=List.length_append ..
 have hs2:SlT (.slice C2 ((ws++X)++[wd]).length c2) ((ws++X)++[wd]) o2:=by rw [e2];exact SlT.adds (xs:=[wd]) h2
 rw [←e2]
 refine x_i 27 [2,1,1] (op-1) (yW (k:=262) (args:= #[Zp b 0,YI (b0:Int),YI (op-1)]) (Rr:=λv ob'=>v= .tuple #[]/\Wr b A l.length cap ((ws++X++[wd])++Y) ob') [] (⟨b2, #[.string (mkS wd)],9⟩::⟨b4, #[YI op,YI (a:Int),YI (b0:Int),YI 0,.string (mkS [])],275⟩::⟨b, #[.slice A l.length cap,.slice C2 (ws++X++[wd]).length c2],245⟩::(o2++[])) [⟨b2, #[.string (mkS wd)],9⟩,⟨b4, #[YI op,YI (a:Int),YI (b0:Int),YI 0,.string (mkS [])],275⟩] (⟨b, #[.slice A l.length cap,.slice C2 (ws++X++[wd]).length c2],245⟩::o2) (λw hO=>hO.cast (by simp)) (λw hO=>(hb' _ _ _ _ _ (hL.at (R:=[⟨b2, #[.string (mkS wd)],9⟩,⟨b4, #[YI op,YI (a:Int),YI (b0:Int),YI 0,.string (mkS [])],275⟩]) ⟨C2,c2,o2,rfl,hs2⟩ (hO.perm (List.perm_append_comm (l₁:=[⟨b2, #[.string (mkS wd)],9⟩,⟨b4, #[YI op,YI (a:Int),YI (b0:Int),YI 0,.string (mkS [])],275⟩]) (l₂:=⟨b, #[.slice A l.length cap,.slice C2 (ws++X++[wd]).length c2],245⟩::o2)))) (by (try simp only [List.length_append,List.length_cons,List.length_nil] at hn ⊢);omega)).mono λe w' ⟨ob',k1,k2⟩=>⟨_,ob',k1,⟨rfl,k2.rd⟩,k2.own⟩) λv3 ob3 hv3=> ?_)
 obtain ⟨rfl,C3,c3,g3,rfl,hs3⟩:=hv3
 exact yU [] λw hO=>⟨_,rfl,⟨C3,c3,g3,rfl,hs3⟩,hO.past 2 (⟨b, #[.slice A l.length cap,.slice C3 ((ws++X++[wd])++Y).length c3],245⟩::g3)⟩
theorem nd_is {A:Option Addr}{cap:Nat}{l:List Nd}(hl9:l.length<=1000){r k:Nat}{t:Tok}(hk:k<3)(hr:l[r]?=some ⟨1,0,0,(k:Int),t⟩):bC A cap l r [x1 k,tEq,t]:=by
 intro B b ws ob W hL hn
 have hM':=gU hL.ge
 have hBW:=hL.le
 have hv:=hL.nodes
 have hO:=hL.own
 obtain ⟨hr2,er⟩:=fF hr
 obtain ⟨eb,eo,hA,helr⟩:=hv.elem bX r hr2
 obtain ⟨C,cc,g,rfl,hsl⟩:=hL.rd
 have q:∀ w,Own ((⟨b, #[.slice A l.length cap,.slice C ws.length cc],245⟩::g).map Blk.b) W w []->(loadVar 275 ⟨eb,eo+r*5+0,none⟩).run Tryz.prog w= .ok (ndV ⟨1,0,0,(k:Int),t⟩) w:=λw hO=>helr w (hO.belowB hM' hBW) _ 0 _ (by rw [er];kernel_rfl)
 refine y6 hO Tryz.func220 (zU 11 [0] hA l.length cap r 5 hr2 (zP 12 [] 275 eb (eo+r*5+0) (ndV ⟨1,0,0,(k:Int),t⟩) (λw hO=>q w hO.no) (zD [] λb4=> ?_)))
 refine yW (k:=261) (args:= #[Zp b 0,ndV ⟨1,0,0,(k:Int),t⟩,.string (mkS tEq)]) (Rr:=λv ob'=>v= .tuple #[]/\Wr b A l.length cap (ws++[x1 k,tEq,t]) ob') [0,0,0] (⟨b4, #[YI 1,YI 0,YI 0,YI (k:Int),.string (mkS t)],275⟩::⟨b, #[.slice A l.length cap,.slice C ws.length cc],245⟩::g) [⟨b4, #[YI 1,YI 0,YI 0,YI (k:Int),.string (mkS t)],275⟩] (⟨b, #[.slice A l.length cap,.slice C ws.length cc],245⟩::g) (λw hO=>hO.cast (by simp)) (λw hO=>(fS (hL.at (R:=[⟨b4, #[YI 1,YI 0,YI 0,YI (k:Int),.string (mkS t)],275⟩]) ⟨C,cc,g,rfl,hsl⟩ (hO.perm (List.perm_append_comm (l₁:=[⟨b4, #[YI 1,YI 0,YI 0,YI (k:Int),.string (mkS t)],275⟩]) (l₂:=⟨b, #[.slice A l.length cap,.slice C ws.length cc],245⟩::g)))) 1 0 0 k hk t tEq (by (try simp only [List.length_append,List.length_cons,List.length_nil] at hn ⊢);omega)).mono λe w' ⟨ob',k1,k2⟩=>⟨_,ob',k1,⟨rfl,k2.rd⟩,k2.own⟩) λv1 ob1 hv1=> ?_
 obtain ⟨rfl,C1,c1,g1,rfl,hs1⟩:=hv1
 exact yU [] λw hO=>⟨_,rfl,⟨C1,c1,g1,rfl,hs1⟩,hO.past 1 (⟨b, #[.slice A l.length cap,.slice C1 (ws++[x1 k,tEq,t]).length c1],245⟩::g1)⟩
theorem nd_no_is {A:Option Addr}{cap:Nat}{l:List Nd}(hl9:l.length<=1000){r a k:Nat}{t:Tok}(hk:k<3)(hr:l[r]?=some ⟨2,(a:Int),0,0,[]⟩)(ha:l[a]?=some ⟨1,0,0,(k:Int),t⟩):bC A cap l r [x1 k,tNe,t]:=by
 intro B b ws ob W hL hn
 have hM':=gU hL.ge
 have hBW:=hL.le
 have hv:=hL.nodes
 have hO:=hL.own
 obtain ⟨hr2,er⟩:=fF hr
 obtain ⟨eb,eo,hA,helr⟩:=hv.elem bX r hr2
 obtain ⟨C,cc,g,rfl,hsl⟩:=hL.rd
 have q:∀ w,Own ((⟨b, #[.slice A l.length cap,.slice C ws.length cc],245⟩::g).map Blk.b) W w []->(loadVar 275 ⟨eb,eo+r*5+0,none⟩).run Tryz.prog w= .ok (ndV ⟨2,(a:Int),0,0,[]⟩) w:=λw hO=>helr w (hO.belowB hM' hBW) _ 0 _ (by rw [er];kernel_rfl)
 obtain ⟨ha2,ea⟩:=fF ha
 obtain ⟨eb2,eo2,hA2,hela⟩:=hv.elem bX a ha2
 obtain ⟨rfl,rfl⟩:eb=eb2/\eo=eo2:=by rw [hA] at hA2;cases hA2;exact ⟨rfl,rfl⟩
 have q5:∀ w,Own ((⟨b, #[.slice A l.length cap,.slice C ws.length cc],245⟩::g).map Blk.b) W w []->(loadVar 275 ⟨eb,eo+a*5+0,none⟩).run Tryz.prog w= .ok (ndV ⟨1,0,0,(k:Int),t⟩) w:=λw hO=>hela w (hO.belowB hM' hBW) _ 0 _ (by rw [ea];kernel_rfl)
 refine y6 hO Tryz.func220 (zU 11 [0] hA l.length cap r 5 hr2 (zP 12 [] 275 eb (eo+r*5+0) (ndV ⟨2,(a:Int),0,0,[]⟩) (λw hO=>q w hO.no) (zD [] λb4=> ?_)))
 refine yJ 9 [0,0] [⟨b4, #[YI 2,YI (a:Int),YI 0,YI 0,.string (mkS [])],275⟩,⟨b, #[.slice A l.length cap,.slice C ws.length cc],245⟩] (λw hO=>(hO.past 0 (⟨b4, #[YI 2,YI (a:Int),YI 0,YI 0,.string (mkS [])],275⟩::⟨b, #[.slice A l.length cap,.slice C ws.length cc],245⟩::g)).sublist (by simp)) (fX 50028 [1,0] 6 hA l.length cap a 5 ha2 (dT 50029 [] 7 275 eb (eo+a*5+0) (ndV ⟨1,0,0,(k:Int),t⟩) (λw hO=>q5 w hO.no) (zK [] 8 (d4 λb5=> ?_))))
 refine yW (k:=261) (args:= #[Zp b 0,ndV ⟨1,0,0,(k:Int),t⟩,.string (mkS tNe)]) (Rr:=λv ob'=>v= .tuple #[]/\Wr b A l.length cap (ws++[x1 k,tNe,t]) ob') [0,0,0] (⟨b5, #[YI 1,YI 0,YI 0,YI (k:Int),.string (mkS t)],275⟩::⟨b4, #[YI 2,YI (a:Int),YI 0,YI 0,.string (mkS [])],275⟩::⟨b, #[.slice A l.length cap,.slice C ws.length cc],245⟩::g) [⟨b5, #[YI 1,YI 0,YI 0,YI (k:Int),.string (mkS t)],275⟩,⟨b4, #[YI 2,YI (a:Int),YI 0,YI 0,.string (mkS [])],275⟩] (⟨b, #[.slice A l.length cap,.slice C ws.length cc],245⟩::g) (λw hO=>hO.cast (by simp)) (λw hO=>(fS (hL.at (R:=[⟨b5, #[YI 1,YI 0,YI 0,YI (k:Int),.string (mkS t)],275⟩,⟨b4, #[YI 2,YI (a:Int),YI 0,YI 0,.string (mkS [])],275⟩]) ⟨C,cc,g,rfl,hsl⟩ (hO.perm (List.perm_append_comm (l₁:=[⟨b5, #[YI 1,YI 0,YI 0,YI (k:Int),.string (mkS t)],275⟩,⟨b4, #[YI 2,YI (a:Int),YI 0,YI 0,.string (mkS [])],275⟩]) (l₂:=⟨b, #[.slice A l.length cap,.slice C ws.length cc],245⟩::g)))) 1 0 0 k hk t tNe (by (try simp only [List.length_append,List.length_cons,List.length_nil] at hn ⊢);omega)).mono λe w' ⟨ob',k1,k2⟩=>⟨_,ob',k1,⟨rfl,k2.rd⟩,k2.own⟩) λv1 ob1 hv1=> ?_
 obtain ⟨rfl,C1,c1,g1,rfl,hs1⟩:=hv1
 exact x_ret0 [] λw hO=>⟨_,rfl,⟨C1,c1,g1,rfl,hs1⟩,hO.past 2 (⟨b, #[.slice A l.length cap,.slice C1 (ws++[x1 k,tNe,t]).length c1],245⟩::g1)⟩
theorem nd_no {A:Option Addr}{cap:Nat}{l:List Nd}(hl9:l.length<=1000){r a:Nat}{na:Nd}{X:List Tok}(hr:l[r]?=some ⟨2,(a:Int),0,0,[]⟩)(ha:l[a]?=some na)(hx1:¬ na.op=1)(ha':nX A cap l a 2 X):bC A cap l r (gZ::X):=by
 intro B b ws ob W hL hn
 have el:ws++(gZ::X)=(ws++[gZ])++X:=by simp
 rw [el]
 have hM':=gU hL.ge
 have hBW:=hL.le
 have hv:=hL.nodes
 have hO:=hL.own
 obtain ⟨hr2,er⟩:=fF hr
 obtain ⟨eb,eo,hA,helr⟩:=hv.elem bX r hr2
 obtain ⟨C,cc,g,rfl,hsl⟩:=hL.rd
 have q:∀ w,Own ((⟨b, #[.slice A l.length cap,.slice C ws.length cc],245⟩::g).map Blk.b) W w []->(loadVar 275 ⟨eb,eo+r*5+0,none⟩).run Tryz.prog w= .ok (ndV ⟨2,(a:Int),0,0,[]⟩) w:=λw hO=>helr w (hO.belowB hM' hBW) _ 0 _ (by rw [er];kernel_rfl)
 obtain ⟨ha2,ea⟩:=fF ha
 obtain ⟨eb2,eo2,hA2,hela⟩:=hv.elem bX a ha2
 obtain ⟨rfl,rfl⟩:eb=eb2/\eo=eo2:=by rw [hA] at hA2;cases hA2;exact ⟨rfl,rfl⟩
 have q5:∀ w,Own ((⟨b, #[.slice A l.length cap,.slice C ws.length cc],245⟩::g).map Blk.b) W w []->(loadVar 275 ⟨eb,eo+a*5+0,none⟩).run Tryz.prog w= .ok (ndV na) w:=λw hO=>hela w (hO.belowB hM' hBW) _ 0 _ (by rw [ea];kernel_rfl)
 refine y6 hO Tryz.func220 (zU 11 [0] hA l.length cap r 5 hr2 (zP 12 [] 275 eb (eo+r*5+0) (ndV ⟨2,(a:Int),0,0,[]⟩) (λw hO=>q w hO.no) (zD [] λb4=> ?_)))
 refine yJ 9 [0,0] [⟨b4, #[YI 2,YI (a:Int),YI 0,YI 0,.string (mkS [])],275⟩,⟨b, #[.slice A l.length cap,.slice C ws.length cc],245⟩] (λw hO=>(hO.past 0 (⟨b4, #[YI 2,YI (a:Int),YI 0,YI 0,.string (mkS [])],275⟩::⟨b, #[.slice A l.length cap,.slice C ws.length cc],245⟩::g)).sublist (by simp)) (fX 50028 [1,0] 6 hA l.length cap a 5 ha2 (dT 50029 [] 7 275 eb (eo+a*5+0) (ndV na) (λw hO=>q5 w hO.no) (zK [] 8 (d4 λb5=> ?_))))
 refine zE 32 [0,0] (na.op=1) (λh=>absurd h hx1) (λ_=>kG [2] 1 9 #[.string (mkS gZ)] λb1=>vJ (m:=1) (cp:=1) [] [⟨b1, #[.string (mkS gZ)],9⟩,⟨b5,(ndV na).cells,275⟩,⟨b4, #[YI 2,YI (a:Int),YI 0,YI 0,.string (mkS [])],275⟩,⟨b, #[.slice A l.length cap,.slice C ws.length cc],245⟩] g [] 0 (⟨b1, #[.string (mkS gZ)],9⟩::⟨b5,(ndV na).cells,275⟩::⟨b4, #[YI 2,YI (a:Int),YI 0,YI 0,.string (mkS [])],275⟩::⟨b, #[.slice A l.length cap,.slice C ws.length cc],245⟩::g) (λw hO=>hO.cast (by simp)) hsl (by (try simp only [List.length_append,List.length_cons,List.length_nil] at hn ⊢);omega) λv1 o1 h1=> ?_)
 obtain ⟨C1,c1,rfl⟩:=h1.form
 have e1:(ws++[gZ]).length=ws.length+1:=List.length_append ..
 have hs1:SlT (.slice C1 (ws++[gZ]).length c1) (ws++[gZ]) o1:=by rw [e1];exact SlT.adds (xs:=[gZ]) h1
 rw [←e1]
 refine yW (k:=262) (args:= #[Zp b 0,YI (a:Int),YI 2]) (Rr:=λv ob'=>v= .tuple #[]/\Wr b A l.length cap ((ws++[gZ])++X) ob') [3,2,2] (⟨b1, #[.string (mkS gZ)],9⟩::⟨b5,(ndV na).cells,275⟩::⟨b4, #[YI 2,YI (a:Int),YI 0,YI 0,.string (mkS [])],275⟩::⟨b, #[.slice A l.length cap,.slice C1 (ws++[gZ]).length c1],245⟩::(o1++[])) [⟨b1, #[.string (mkS gZ)],9⟩,⟨b5,(ndV na).cells,275⟩,⟨b4, #[YI 2,YI (a:Int),YI 0,YI 0,.string (mkS [])],275⟩] (⟨b, #[.slice A l.length cap,.slice C1 (ws++[gZ]).length c1],245⟩::o1) (λw hO=>hO.cast (by simp)) (λw hO=>(ha' _ _ _ _ _ (hL.at (R:=[⟨b1, #[.string (mkS gZ)],9⟩,⟨b5,(ndV na).cells,275⟩,⟨b4, #[YI 2,YI (a:Int),YI 0,YI 0,.string (mkS [])],275⟩]) ⟨C1,c1,o1,rfl,hs1⟩ (hO.perm (List.perm_append_comm (l₁:=[⟨b1, #[.string (mkS gZ)],9⟩,⟨b5,(ndV na).cells,275⟩,⟨b4, #[YI 2,YI (a:Int),YI 0,YI 0,.string (mkS [])],275⟩]) (l₂:=⟨b, #[.slice A l.length cap,.slice C1 (ws++[gZ]).length c1],245⟩::o1)))) (by (try simp only [List.length_append,List.length_cons,List.length_nil] at hn ⊢);omega)).mono λe w' ⟨ob',k1,k2⟩=>⟨_,ob',k1,⟨rfl,k2.rd⟩,k2.own⟩) λv2 ob2 hv2=> ?_
 obtain ⟨rfl,C2,c2,g2,rfl,hs2⟩:=hv2
 exact yU [] λw hO=>⟨_,rfl,⟨C2,c2,g2,rfl,hs2⟩,hO.past 3 (⟨b, #[.slice A l.length cap,.slice C2 ((ws++[gZ])++X).length c2],245⟩::g2)⟩
theorem nd_both {A:Option Addr}{cap:Nat}{l:List Nd}(hl9:l.length<=1000){r a b0:Nat}{X Y:List Tok}(hr:l[r]?=some ⟨3,(a:Int),(b0:Int),0,[]⟩)(ha':nX A cap l a 3 X)(hb':nX A cap l b0 (3-1) Y):bC A cap l r (X++bV::Y):=by
 intro B b ws ob W hL hn
 have hM':=gU hL.ge
 have hBW:=hL.le
 have hv:=hL.nodes
 have hO:=hL.own
 obtain ⟨hr2,er⟩:=fF hr
 obtain ⟨eb,eo,hA,helr⟩:=hv.elem bX r hr2
 obtain ⟨C,cc,g,rfl,hsl⟩:=hL.rd
 have q:∀ w,Own ((⟨b, #[.slice A l.length cap,.slice C ws.length cc],245⟩::g).map Blk.b) W w []->(loadVar 275 ⟨eb,eo+r*5+0,none⟩).run Tryz.prog w= .ok (ndV ⟨3,(a:Int),(b0:Int),0,[]⟩) w:=λw hO=>helr w (hO.belowB hM' hBW) _ 0 _ (by rw [er];kernel_rfl)
 refine y6 hO Tryz.func220 (zU 11 [0] hA l.length cap r 5 hr2 (zP 12 [] 275 eb (eo+r*5+0) (ndV ⟨3,(a:Int),(b0:Int),0,[]⟩) (λw hO=>q w hO.no) (zD [] λb4=> ?_)))
 refine yW (k:=263) (args:= #[Zp b 0,ndV ⟨3,(a:Int),(b0:Int),0,[]⟩,.string (mkS bV)]) (Rr:=λv ob'=>v= .tuple #[]/\Wr b A l.length cap (ws++(X++bV::Y)) ob') [0,0,0] (⟨b4, #[YI 3,YI (a:Int),YI (b0:Int),YI 0,.string (mkS [])],275⟩::⟨b, #[.slice A l.length cap,.slice C ws.length cc],245⟩::g) [⟨b4, #[YI 3,YI (a:Int),YI (b0:Int),YI 0,.string (mkS [])],275⟩] (⟨b, #[.slice A l.length cap,.slice C ws.length cc],245⟩::g) (λw hO=>hO.cast (by simp)) (λw hO=>(wpair_any (hL.at (R:=[⟨b4, #[YI 3,YI (a:Int),YI (b0:Int),YI 0,.string (mkS [])],275⟩]) ⟨C,cc,g,rfl,hsl⟩ (hO.perm (List.perm_append_comm (l₁:=[⟨b4, #[YI 3,YI (a:Int),YI (b0:Int),YI 0,.string (mkS [])],275⟩]) (l₂:=⟨b, #[.slice A l.length cap,.slice C ws.length cc],245⟩::g)))) ha' hb' (by decide) (by decide) bV (by (try simp only [List.length_append,List.length_cons,List.length_nil] at hn ⊢);omega)).mono λe w' ⟨ob',k1,k2⟩=>⟨_,ob',k1,⟨rfl,k2.rd⟩,k2.own⟩) λv1 ob1 hv1=> ?_
 obtain ⟨rfl,C1,c1,g1,rfl,hs1⟩:=hv1
 exact yU [] λw hO=>⟨_,rfl,⟨C1,c1,g1,rfl,hs1⟩,hO.past 1 (⟨b, #[.slice A l.length cap,.slice C1 (ws++(X++bV::Y)).length c1],245⟩::g1)⟩
theorem nd_one {A:Option Addr}{cap:Nat}{l:List Nd}(hl9:l.length<=1000){r a b0:Nat}{X Y:List Tok}(hr:l[r]?=some ⟨4,(a:Int),(b0:Int),0,[]⟩)(ha':nX A cap l a 4 X)(hb':nX A cap l b0 (4-1) Y):bC A cap l r (X++tOr::Y):=by
 intro B b ws ob W hL hn
 have hM':=gU hL.ge
 have hBW:=hL.le
 have hv:=hL.nodes
 have hO:=hL.own
 obtain ⟨hr2,er⟩:=fF hr
 obtain ⟨eb,eo,hA,helr⟩:=hv.elem bX r hr2
 obtain ⟨C,cc,g,rfl,hsl⟩:=hL.rd
 have q:∀ w,Own ((⟨b, #[.slice A l.length cap,.slice C ws.length cc],245⟩::g).map Blk.b) W w []->(loadVar 275 ⟨eb,eo+r*5+0,none⟩).run Tryz.prog w= .ok (ndV ⟨4,(a:Int),(b0:Int),0,[]⟩) w:=λw hO=>helr w (hO.belowB hM' hBW) _ 0 _ (by rw [er];kernel_rfl)
 refine y6 hO Tryz.func220 (zU 11 [0] hA l.length cap r 5 hr2 (zP 12 [] 275 eb (eo+r*5+0) (ndV ⟨4,(a:Int),(b0:Int),0,[]⟩) (λw hO=>q w hO.no) (zD [] λb4=> ?_)))
 refine yW (k:=263) (args:= #[Zp b 0,ndV ⟨4,(a:Int),(b0:Int),0,[]⟩,.string (mkS tOr)]) (Rr:=λv ob'=>v= .tuple #[]/\Wr b A l.length cap (ws++(X++tOr::Y)) ob') [0,0,0] (⟨b4, #[YI 4,YI (a:Int),YI (b0:Int),YI 0,.string (mkS [])],275⟩::⟨b, #[.slice A l.length cap,.slice C ws.length cc],245⟩::g) [⟨b4, #[YI 4,YI (a:Int),YI (b0:Int),YI 0,.string (mkS [])],275⟩] (⟨b, #[.slice A l.length cap,.slice C ws.length cc],245⟩::g) (λw hO=>hO.cast (by simp)) (λw hO=>(wpair_any (hL.at (R:=[⟨b4, #[YI 4,YI (a:Int),YI (b0:Int),YI 0,.string (mkS [])],275⟩]) ⟨C,cc,g,rfl,hsl⟩ (hO.perm (List.perm_append_comm (l₁:=[⟨b4, #[YI 4,YI (a:Int),YI (b0:Int),YI 0,.string (mkS [])],275⟩]) (l₂:=⟨b, #[.slice A l.length cap,.slice C ws.length cc],245⟩::g)))) ha' hb' (by decide) (by decide) tOr (by (try simp only [List.length_append,List.length_cons,List.length_nil] at hn ⊢);omega)).mono λe w' ⟨ob',k1,k2⟩=>⟨_,ob',k1,⟨rfl,k2.rd⟩,k2.own⟩) λv1 ob1 hv1=> ?_
 obtain ⟨rfl,C1,c1,g1,rfl,hs1⟩:=hv1
 exact yU [] λw hO=>⟨_,rfl,⟨C1,c1,g1,rfl,hs1⟩,hO.past 1 (⟨b, #[.slice A l.length cap,.slice C1 (ws++(X++tOr::Y)).length c1],245⟩::g1)⟩
end
section
set_option linter.unnecessarySimpa false
theorem bJ:∀ t:Tr,t.tok.length+2<=6*t.sz
 | .is k v=>by rw [Tr.tok];show 5<=6;omega
 | .no (.is k v)=>by rw [Tr.tok];show 5<=12;omega
 | .no (.no x)=>by have:=bJ (.no x);rw [Tr.tok];simp only [List.length_cons];show _<=6*((Tr.no x).sz+1);omega
 | .no (.both x y)=>by have:=bJ (.both x y);rw [Tr.tok];unfold vO;simp only [if_true,List.length_cons,List.length_append,List.length_nil];show _<=6*((Tr.both x y).sz+1);omega
 | .no (.one x y)=>by have:=bJ (.one x y);rw [Tr.tok];unfold vO;simp only [if_true,List.length_cons,List.length_append,List.length_nil];show _<=6*((Tr.one x y).sz+1);omega
 | .both x y=>by
  have h1:=bJ x;have h2:=bJ y
  have w1:∀ (c:Bool) (l:List Tok),(vO c l).length<=l.length+2:=λc l=>by unfold vO;cases c<;>simp
  have:=w1 x.isOne x.tok;have:=w1 y.isBin y.tok
  rw [Tr.tok,List.length_append,List.length_cons];show _<=6*(x.sz+y.sz+1);omega
 | .one x y=>by
  have h1:=bJ x;have h2:=bJ y
  have w1:∀ (c:Bool) (l:List Tok),(vO c l).length<=l.length+2:=λc l=>by unfold vO;cases c<;>simp
  have:=w1 y.isOne y.tok
  rw [Tr.tok,List.length_append,List.length_cons];show _<=6*(x.sz+y.sz+1);omega
theorem opw {A:Option Addr}{cap:Nat}{l:List Nd}(hl9:l.length<=1000){t:Tr}{a:Nat}{na:Nd}{z:Int}{c:Bool}(hna:l[a]?=some na)(hop:na.op=t.opc)(h:bC A cap l a t.tok)(hc:c=decide (z<t.opc)):nX A cap l a z (vO c t.tok):=by
 by_cases hz:na.op<=z
 ·have:c=false:=by rw [hc];exact decide_eq_false Om
  rw [this];exact opn_in hl9 hna hz h
 ·have:c=true:=by rw [hc];exact decide_eq_true Om
  rw [this];exact opn_out hl9 hna hz h
theorem opc_bin (t:Tr):t.isBin=decide (2<t.opc):=by cases t<;>rfl
theorem opc_one (t:Tr):t.isOne=decide (3<t.opc):=by cases t<;>rfl
theorem opc_not (t:Tr):false=decide (4<t.opc):=by cases t<;>rfl
theorem j0 {A:Option Addr}{cap:Nat}{l:List Nd}(hl9:l.length<=1000):∀ (t:Tr) (o:Nat),t.ok=true->fQ l o t->bC A cap l (o+t.sz-1) t.tok
 | .is k v,o,h,hs=>by
  unfold Tr.ok at h
  simp only [Bool.and_eq_true,decide_eq_true_eq] at h
  exact nd_is hl9 h.1 (hs 0 _ rfl)
 | .no x,o,h,hs=>by
  have hx:x.ok=true:=h
  have hxz:=x.sz_pos
  have hs1:fQ l o x:=jJ hs
  have hr:=vP (k:=x.sz) (Tr.enc_len x o) hs 0 _ rfl
  have ih:=j0 (A:=A) (cap:=cap) hl9 x o hx hs1
  obtain ⟨na,hna,hop⟩:=jI hs1
  rw [Nat.add_zero] at hr
  have goal:bC A cap l (o+x.sz) (Tr.no x).tok:=by
   by_cases hi:∃ k v,x= .is k v
   ·obtain ⟨k,v,rfl⟩:=hi
    unfold Tr.ok at hx
    simp only [Bool.and_eq_true,decide_eq_true_eq] at hx
    exact nd_no_is hl9 hx.1 hr (hs1 0 _ rfl)
   ·rw [Tr.tok_no (λk v q=>hi ⟨k,v,q⟩)]
    refine nd_no hl9 hr hna ?_ (opw hl9 hna hop ih (opc_bin x))
    rw [hop];cases x<;>first|exact absurd ⟨_,_,rfl⟩ hi|(intro q;cases q)
  show bC A cap l (o+(x.sz+1) -1) _
  rw [show o+(x.sz+1) -1=o+x.sz by omega];exact goal
 | .both x y,o,h,hs=>by
  unfold Tr.ok at h
  rw [Bool.and_eq_true] at h
  have hs0:∀ i u,(x.enc o++y.enc (o+x.sz))[i]?=some u->l[o+i]?=some u:=jJ hs
  have hs1:fQ l o x:=jJ hs0
  have hs2:fQ l (o+x.sz) y:=vP (Tr.enc_len x o) hs0
  have hr:=vP (k:=x.sz+y.sz) (by rw [List.length_append,Tr.enc_len,Tr.enc_len]) hs 0 _ rfl
  obtain ⟨na,hna,hop⟩:=jI hs1
  obtain ⟨nb,hnb,hopb⟩:=jI hs2
  have goal:bC A cap l (o+(x.sz+y.sz)+0) (Tr.both x y).tok:=by
   rw [Tr.tok]
   exact nd_both hl9 hr (opw hl9 hna hop (j0 hl9 x o h.1 hs1) (opc_one x)) (opw hl9 hnb hopb (j0 hl9 y (o+x.sz) h.2 hs2) (opc_bin y))
  show bC A cap l (o+(x.sz+y.sz+1) -1) _
  rw [show o+(x.sz+y.sz+1) -1=o+(x.sz+y.sz)+0 by omega];exact goal
 | .one x y,o,h,hs=>by
  unfold Tr.ok at h
  rw [Bool.and_eq_true] at h
  have hs0:∀ i u,(x.enc o++y.enc (o+x.sz))[i]?=some u->l[o+i]?=some u:=jJ hs
  have hs1:fQ l o x:=jJ hs0
  have hs2:fQ l (o+x.sz) y:=vP (Tr.enc_len x o) hs0
  have hr:=vP (k:=x.sz+y.sz) (by rw [List.length_append,Tr.enc_len,Tr.enc_len]) hs 0 _ rfl
  obtain ⟨na,hna,hop⟩:=jI hs1
  obtain ⟨nb,hnb,hopb⟩:=jI hs2
  have goal:bC A cap l (o+(x.sz+y.sz)+0) (Tr.one x y).tok:=by
   rw [Tr.tok]
   exact nd_one hl9 hr (opw hl9 hna hop (j0 hl9 x o h.1 hs1) (opc_not x)) (opw hl9 hnb hopb (j0 hl9 y (o+x.sz) h.2 hs2) (opc_one y))
  show bC A cap l (o+(x.sz+y.sz+1) -1) _
  rw [show o+(x.sz+y.sz+1) -1=o+(x.sz+y.sz)+0 by omega];exact goal
theorem tI (A:Option Addr)(cap:Nat)(l:List Nd)(W:World)(hv:Reads nC W W.heap.size A l)(hn:l.length<=1000)(ht:∀ n∈l,n.text.length<=1000000)(hK:MkLib W):YC 159 #[.agg #[.slice A l.length cap]] W (YR (.string (mkS (qU l))) W):=by
 refine z8 Tryz.func159 (zV [] λb1=>zE 8 [0] ((l.length:Int)=0) (λh1=>z6 [] (.string (mkS [])) λw hO=>⟨by rw [List.eq_nil_of_length_eq_zero (by omega:l.length=0)];rfl,hO.below⟩) (λh1=> ?_))
 have hne:l≠[]:=λq=>h1 (by rw [q];rfl)
 refine z1 (k:=219) (args:= #[.slice A l.length cap]) (v:= .bool (vC l)) [0] (λw hO=>tree10_any A cap l w (hv.on hO.below hO.size) hne hn ht) ?_
 cases h2:vC l with
 |false=>exact z6 [] (.string (mkS [])) λw hO=>⟨by rw [print_no h2],hO.below⟩
 |true=>
  obtain ⟨t,hok,hl,hsz⟩:=treeOk_yes h2
  have hlen:l.length=t.sz:=by rw [hl,Tr.enc_len]
  have hpos:=t.sz_pos
  have hst:fQ l 0 t:=hl▸stands_self t
  have htl:=bJ t
  have htx:=text_short hok Om
  have hjl:(zB 32 t.tok).length<=100000:=htx
  have hnl:((0+t.sz-1:Nat):Int)=(l.length:Int) -1:=by omega
  refine zD [0] λb2=>x_i 21 [0,1] ((l.length:Int) -1) (yW (k:=220) (args:= #[Zp b2 0,YI ((l.length:Int) -1)]) (Rr:=λv' ob'=>v'= .tuple #[]/\Wr b2 A l.length cap t.tok ob') [] [⟨b2, #[.slice A l.length cap,.slice none 0 0],245⟩,⟨b1, #[.slice A l.length cap],185⟩] [⟨b1, #[.slice A l.length cap],185⟩] [⟨b2, #[.slice A l.length cap,.slice none 0 0],245⟩] (λw hO=>hO.perm (List.Perm.swap (⟨b1, #[.slice A l.length cap],185⟩:Blk) (⟨b2, #[.slice A l.length cap,.slice none 0 0],245⟩:Blk) [])) (λw hO=> ?_) ?_)
  ·have hO':Own [] W w ([⟨b2, #[.slice A l.length cap,.slice none 0 0],245⟩]++[⟨b1, #[.slice A l.length cap],185⟩]):=hO.perm List.perm_append_comm
   rw [←hnl]
   exact (j0 hn t 0 hok hst W.heap.size b2 [] [⟨b2, #[.slice A l.length cap,.slice none 0 0],245⟩] w ⟨⟨none,0,[],rfl,Sl.nil _ _⟩,Own.lent hO',λx hx=>(hO'.base x (List.mem_append_left _ hx)).elim id (λq=>absurd q (by simp)),hO'.size,hv.on hO'.below (Nat.le_refl _),MkAt.on hK hO'.below (Nat.le_refl _)⟩ (by simp;omega)).mono λe w' ⟨ob',k1,k2⟩=>⟨_,ob',k1,⟨rfl,k2.rd⟩,k2.own⟩
  rintro v3 ob3 ⟨rfl,C3,cc3,g3,rfl,hsl3⟩
  exact z1 (k:=164) (args:= #[.slice C3 t.tok.length cc3,.int .u8 32]) (v:= .string (mkS t.text)) [1] (λw hO=>vR _ t.tok 32 w (SlT.readsT hsl3 (hO.past 2 g3) (λx hx=>hx)) Om Om (text10_ne t)) (zE 28 [] ((96:Int)<(t.text.length:Int)) (λh3=>z6 [] (.string (mkS [])) λw hO=>⟨by rw [hl,print_long hok Om],hO.below⟩) (λh3=>z6 [] (.string (mkS t.text)) λw hO=>⟨by rw [hl,print_yes hok hsz Om],hO.below⟩))
theorem m10May_any (A:Option Addr)(cap:Nat)(l:List Nd)(W:World)(hv:Reads nC W W.heap.size A l)(hn:l.length<=1000)(ht:∀ n∈l,n.text.length<=1000000)(hK:MkLib W):YC 218 #[.agg #[.slice A l.length cap]] W (YR (.bool (mD l)) W):=by
 refine z8 Tryz.func218 (zV [] λb1=>zE 6 [0] ((l.length:Int)=0) (λh1=>z6 [] Z4 λw hO=>⟨by rw [List.eq_nil_of_length_eq_zero (by omega:l.length=0)];rfl,hO.below⟩) (λh1=> ?_))
 have hne:¬ l=[]:=λq=>h1 (by rw [q];rfl)
 exact z1 (k:=159) (args:= #[.agg #[.slice A l.length cap]]) (v:= .string (mkS (qU l))) [0] (λw hO=>tI A cap l w (hv.on hO.below hO.size) hn ht (hK.on hO.below)) (g8 10 [] (qU l) [] (λh2=>z6 [] Z5 λw hO=>⟨by rw [may_print hne,decide_eq_true h2];rfl,hO.below⟩) (λh2=>z6 [] Z4 λw hO=>⟨by rw [may_print hne,decide_eq_false h2];rfl,hO.below⟩))
end
section
set_option linter.unnecessarySimpa false
def padV (xs:List Int)(n:Nat):List Int:=xs++List.replicate (n-xs.length) 0
end
section
set_option linter.unnecessarySimpa false
def ReadsA {α:Type}(M:List Nat)(g:α->List Value)(W:World)(A:Option Addr)(l:List α):Prop:=
 0<l.length→∃ b off,A=some ⟨b,off,none⟩/\b<W.heap.size/\b∉M∧∀ k u,(l.flatMap g)[k]?=some u->W.cell? ⟨b,off+k,none⟩=some u
structure LentN (b:Nat)(A V:Option Addr)(l:List Nd)(vs:List Int)(nd:List Nd)(ob:List Blk)(W:World):Prop where
 rd:Nb b nd ob
 own:Own (ob.map Blk.b) W W ob
 nodes:ReadsA (ob.map Blk.b) nC W A l
 vals:ReadsA (ob.map Blk.b) zC W V vs
structure BackN (b:Nat)(nd:List Nd)(ob ob':List Blk)(W w':World):Prop where
 rd:Nb b nd ob'
 own:Own (ob.map Blk.b) W w' ob'
end
section
set_option linter.unnecessarySimpa false
theorem rnotL {B b:Nat}{ts:List Tok}{nd:List Nd}{bad:Bool}{ob:List Blk}{W:World}(hL:LentL B b ts nd bad ob W):YC 336 #[.pointer (some ⟨b,0,none⟩)] W λe w'=>∃ ob',e= .returned (.tuple #[])/\BackL B b ts (nd++[⟨2,(nd.length:Int) -1,0,0,[]⟩]) bad ob ob' W w':=by
 obtain ⟨A,cap,hw,hcap,hb⟩:=hL.rd
 exact (rnot10_any hb hL.own (by have:=hL.small;omega)).mono λe w' ⟨ob',k1,k2,k3⟩=>⟨ob',k1,⟨A,cap,hw,hcap,k2⟩,k3,hL.short,mO hL.texts (by simp)⟩
theorem rjoinL {B b:Nat}{ts:List Tok}{nd:List Nd}{bad:Bool}{ob:List Blk}{W:World}(hL:LentL B b ts nd bad ob W)(op a:Int):YC 311 #[.pointer (some ⟨b,0,none⟩),YI op,YI a] W λe w'=>∃ ob',e= .returned (.tuple #[])/\BackL B b ts (nd++[⟨op,a,(nd.length:Int) -1,0,[]⟩]) bad ob ob' W w':=by
 obtain ⟨A,cap,hw,hcap,hb⟩:=hL.rd
 exact (rjoin10_any hb hL.own (by have:=hL.small;omega) op a).mono λe w' ⟨ob',k1,k2,k3⟩=>⟨ob',k1,⟨A,cap,hw,hcap,k2⟩,k3,hL.short,mO hL.texts (by simp)⟩
structure ChainL (n:Nat)(word:Tok)(op:Int)(k:FuncId)(part:List Tok->Option (Tr×List Tok)):Prop where
 go:∀ {B b:Nat} {ts:List Tok} {nd:List Nd} {bad:Bool} {ob:List Blk} {W:World},LentL B b ts nd bad ob W->ts.length<=n→
  YC 259 #[.pointer (some ⟨b,0,none⟩),.string (mkS word),YI op,.func (.func k) #[] #[]] W λe w'=>∃ ts' nd' bad' ob',e= .returned (.tuple #[])/\BackL B b ts' nd' bad' ob ob' W w'/\GotL part ts nd bad ts' nd' bad'
theorem x_rdL {k:FuncId}{args:Array Value}{Rv:Value->List Tok->List Nd->Bool->Prop}{B b:Nat}{ts tq:List Tok}{nd nq:List Nd}{bad bq:Bool}{ob oq:List Blk}{W:World}{Q:Exit->Act->World->Prop}{n:Nat}{c:Xc}(hL:LentL B b ts nd bad ob W)(h:List Nat)(hR:Rdr W B b tq nq bq oq)(hX:((∀ y∈tq,y.length<=1000000)∧∀ u∈nq,u.text.length<=1000000))(hs:nq.length+tq.length<=10000)
  (hc:∀ w,LentL B b tq nq bq oq w->Calls Tryz.prog k args w λe w'=>∃ v ts' nd' bad' ob',e= .returned v/\Rv v ts' nd' bad'/\BackL B b ts' nd' bad' oq ob' w w')
  (hg:∀ v ts' nd' bad' ob',Rv v ts' nd' bad'->Rdr W B b ts' nd' bad' ob'->((∀ y∈ts',y.length<=1000000)∧∀ u∈nd',u.text.length<=1000000)->zA (ob.map Blk.b) Tryz.prog n W Q (xNx (xgo Tryz.prog n nS h c) ob' v)) (hkt:(xgl Tryz.prog n nS h c,(xgo Tryz.prog n nS h c).L,(xgo Tryz.prog n nS h c).top,zM (xA (xgo Tryz.prog n nS h c)) n (xgo Tryz.prog n nS h c).f (xO (xgo Tryz.prog n nS h c)),nK Tryz.prog n (xgo Tryz.prog n nS h c))=(xgr Tryz.prog n nS h c,oq,.ops (xA (xgo Tryz.prog n nS h c)) (xO (xgo Tryz.prog n nS h c)::xT (xgo Tryz.prog n nS h c)),true,λw=> .ok (.enter k args) w):=by kernel_rfl):zA (ob.map Blk.b) Tryz.prog n W Q c:=
 yW (Rr:=λv ob'=>∃ ts' nd' bad',Rv v ts' nd' bad'/\Rdr W B b ts' nd' bad' ob'/\((∀ y∈ts',y.length<=1000000)∧∀ u∈nd',u.text.length<=1000000)) h oq [] oq (λw hO=>hO) (λw hO=>have hO':Own _ W w (oq++[]):=Own.cast hO (List.append_nil _).symm;(hc w (hL.at hR hX hs hO')).mono λe w' ⟨v,ts',nd',bad',ob',k1,k2,k3⟩=>⟨v,ob',k1,⟨ts',nd',bad',k2,k3.rd.back (hO'.belowB (gU hL.ge) hL.le),k3.short,k3.texts⟩,k3.own⟩) (λv ob' ⟨ts',nd',bad',k2,k3,k4⟩=>hg v ts' nd' bad' ob' k2 k3 k4) hkt
theorem dU {k:FuncId}{m:Nat}{part:List Tok->Option (Tr×List Tok)}(hp:dS k m part){B b:Nat}{ts tq:List Tok}{nd nq:List Nd}{bad bq:Bool}{ob oq:List Blk}{W:World}{Q:Exit->Act->World->Prop}{n:Nat}{c:Xc}(hL:LentL B b ts nd bad ob W)(h:List Nat)(hR:Rdr W B b tq nq bq oq)(hX:((∀ y∈tq,y.length<=1000000)∧∀ u∈nq,u.text.length<=1000000))(hs:nq.length+tq.length<=10000)(hm:tq.length<=m)
  (hg:∀ ts' nd' bad' ob',Rdr W B b ts' nd' bad' ob'->((∀ y∈ts',y.length<=1000000)∧∀ u∈nd',u.text.length<=1000000)->GotL part tq nq bq ts' nd' bad'->zA (ob.map Blk.b) Tryz.prog n W Q (xNx (xgo Tryz.prog n nS h c) ob' (.tuple #[]))) (hkt:(xgl Tryz.prog n nS h c,(xgo Tryz.prog n nS h c).L,(xgo Tryz.prog n nS h c).top,zM (xA (xgo Tryz.prog n nS h c)) n (xgo Tryz.prog n nS h c).f (xO (xgo Tryz.prog n nS h c)),nK Tryz.prog n (xgo Tryz.prog n nS h c))=(xgr Tryz.prog n nS h c,oq,.ops (xA (xgo Tryz.prog n nS h c)) (xO (xgo Tryz.prog n nS h c)::xT (xgo Tryz.prog n nS h c)),true,λw=> .ok (.enter k #[.pointer (some ⟨b,0,none⟩)]) w):=by kernel_rfl):zA (ob.map Blk.b) Tryz.prog n W Q c:=
 x_rdL (Rv:=λv ts' nd' bad'=>v= .tuple #[]/\GotL part tq nq bq ts' nd' bad') hL h hR hX hs (λw hl=>(hp.go hl hm).mono λe w' ⟨ts',nd',bad',ob',k1,k2,k3⟩=>⟨_,ts',nd',bad',ob',k1,⟨rfl,k3⟩,k2⟩) (λv ts' nd' bad' ob' ⟨e,k3⟩ k2 k4=>by subst e;exact hg ts' nd' bad' ob' k2 k4 k3) hkt
theorem pT {B b:Nat}{ts tq:List Tok}{nd nq:List Nd}{bad bq:Bool}{ob oq:List Blk}{W:World}{Q:Exit->Act->World->Prop}{n:Nat}{c:Xc}(hL:LentL B b ts nd bad ob W)(h:List Nat)(x:Tok)(hR:Rdr W B b tq nq bq oq)(hX:((∀ y∈tq,y.length<=1000000)∧∀ u∈nq,u.text.length<=1000000))(hs:nq.length+tq.length<=10000)
  (hg:∀ ob',Rdr W B b (jO x tq) nq bq ob'->((∀ y∈(jO x tq),y.length<=1000000)∧∀ u∈nq,u.text.length<=1000000)->zA (ob.map Blk.b) Tryz.prog n W Q (xNx (xgo Tryz.prog n nS h c) ob' (.bool (gD x tq)))) (hkt:(xgl Tryz.prog n nS h c,(xgo Tryz.prog n nS h c).L,(xgo Tryz.prog n nS h c).top,zM (xA (xgo Tryz.prog n nS h c)) n (xgo Tryz.prog n nS h c).f (xO (xgo Tryz.prog n nS h c)),nK Tryz.prog n (xgo Tryz.prog n nS h c))=(xgr Tryz.prog n nS h c,oq,.ops (xA (xgo Tryz.prog n nS h c)) (xO (xgo Tryz.prog n nS h c)::xT (xgo Tryz.prog n nS h c)),true,λw=> .ok (.enter 309 #[.pointer (some ⟨b,0,none⟩),.string (mkS x)]) w):=by kernel_rfl):zA (ob.map Blk.b) Tryz.prog n W Q c:=
 x_rdL (Rv:=λv ts' nd' bad'=>v= .bool (gD x tq)/\ts'=jO x tq/\nd'=nq/\bad'=bq) hL h hR hX hs (λw hl=>(skip10_any hl x).mono λe w' ⟨ob',k1,k2⟩=>⟨_,_,_,_,ob',k1,⟨rfl,rfl,rfl,rfl⟩,k2⟩) (λv ts' nd' bad' ob' ⟨e1,e2,e3,e4⟩ k2 k4=>by subst e1;subst e2;subst e3;subst e4;exact hg ob' k2 k4) hkt
theorem x_notL {B b:Nat}{ts tq:List Tok}{nd nq:List Nd}{bad bq:Bool}{ob oq:List Blk}{W:World}{Q:Exit->Act->World->Prop}{n:Nat}{c:Xc}(hL:LentL B b ts nd bad ob W)(h:List Nat)(hR:Rdr W B b tq nq bq oq)(hX:((∀ y∈tq,y.length<=1000000)∧∀ u∈nq,u.text.length<=1000000))(hs:nq.length+tq.length<=10000)
  (hg:∀ ob',Rdr W B b tq (nq++[⟨2,(nq.length:Int) -1,0,0,[]⟩]) bq ob'->((∀ y∈tq,y.length<=1000000)∧∀ u∈(nq++[⟨2,(nq.length:Int) -1,0,0,[]⟩]),u.text.length<=1000000)->zA (ob.map Blk.b) Tryz.prog n W Q (xNx (xgo Tryz.prog n nS h c) ob' (.tuple #[]))) (hkt:(xgl Tryz.prog n nS h c,(xgo Tryz.prog n nS h c).L,(xgo Tryz.prog n nS h c).top,zM (xA (xgo Tryz.prog n nS h c)) n (xgo Tryz.prog n nS h c).f (xO (xgo Tryz.prog n nS h c)),nK Tryz.prog n (xgo Tryz.prog n nS h c))=(xgr Tryz.prog n nS h c,oq,.ops (xA (xgo Tryz.prog n nS h c)) (xO (xgo Tryz.prog n nS h c)::xT (xgo Tryz.prog n nS h c)),true,λw=> .ok (.enter 336 #[.pointer (some ⟨b,0,none⟩)]) w):=by kernel_rfl):zA (ob.map Blk.b) Tryz.prog n W Q c:=
 x_rdL (Rv:=λv ts' nd' bad'=>v= .tuple #[]/\ts'=tq/\nd'=nq++[⟨2,(nq.length:Int) -1,0,0,[]⟩]/\bad'=bq) hL h hR hX hs (λw hl=>(rnotL hl).mono λe w' ⟨ob',k1,k2⟩=>⟨_,_,_,_,ob',k1,⟨rfl,rfl,rfl,rfl⟩,k2⟩) (λv ts' nd' bad' ob' ⟨e1,e2,e3,e4⟩ k2 k4=>by subst e1;subst e2;subst e3;subst e4;exact hg ob' k2 k4) hkt
theorem x_jnL {B b:Nat}{ts tq:List Tok}{nd nq:List Nd}{bad bq:Bool}{ob oq:List Blk}{W:World}{Q:Exit->Act->World->Prop}{n:Nat}{c:Xc}(hL:LentL B b ts nd bad ob W)(h:List Nat)(op a:Int)(hR:Rdr W B b tq nq bq oq)(hX:((∀ y∈tq,y.length<=1000000)∧∀ u∈nq,u.text.length<=1000000))(hs:nq.length+tq.length<=10000)
  (hg:∀ ob',Rdr W B b tq (nq++[⟨op,a,(nq.length:Int) -1,0,[]⟩]) bq ob'->((∀ y∈tq,y.length<=1000000)∧∀ u∈(nq++[⟨op,a,(nq.length:Int) -1,0,[]⟩]),u.text.length<=1000000)->zA (ob.map Blk.b) Tryz.prog n W Q (xNx (xgo Tryz.prog n nS h c) ob' (.tuple #[]))) (hkt:(xgl Tryz.prog n nS h c,(xgo Tryz.prog n nS h c).L,(xgo Tryz.prog n nS h c).top,zM (xA (xgo Tryz.prog n nS h c)) n (xgo Tryz.prog n nS h c).f (xO (xgo Tryz.prog n nS h c)),nK Tryz.prog n (xgo Tryz.prog n nS h c))=(xgr Tryz.prog n nS h c,oq,.ops (xA (xgo Tryz.prog n nS h c)) (xO (xgo Tryz.prog n nS h c)::xT (xgo Tryz.prog n nS h c)),true,λw=> .ok (.enter 311 #[.pointer (some ⟨b,0,none⟩),YI op,YI a]) w):=by kernel_rfl):zA (ob.map Blk.b) Tryz.prog n W Q c:=
 x_rdL (Rv:=λv ts' nd' bad'=>v= .tuple #[]/\ts'=tq/\nd'=nq++[⟨op,a,(nq.length:Int) -1,0,[]⟩]/\bad'=bq) hL h hR hX hs (λw hl=>(rjoinL hl op a).mono λe w' ⟨ob',k1,k2⟩=>⟨_,_,_,_,ob',k1,⟨rfl,rfl,rfl,rfl⟩,k2⟩) (λv ts' nd' bad' ob' ⟨e1,e2,e3,e4⟩ k2 k4=>by subst e1;subst e2;subst e3;subst e4;exact hg ob' k2 k4) hkt
theorem chain_tAnd (n:Nat)(hp:dS 312 n (vG n)):ChainL n bV 3 312 (pAnd n):=by
 refine ⟨λ{B b ts nd bad ob W} hL hln=> ?_⟩
 have hsm:=hL.small
 refine y6 hL.own Tryz.func259 (dU hp hL [] hL.rd ⟨hL.short,hL.texts⟩ hsm hln λts1 nd1 bd1 ob1 hR1 hX1 hG1=> ?_)
 refine y4 (α:=List Tok×List Nd×Bool×List Blk) (λ_=>[(0,Zp b 0),(1,.string (mkS bV)),(2,YI 3),(3,.func (.func 312) #[] #[])]) (λ(_,_,_,oq)=>oq) (λ(tq,nq,bq,oq) m=>(ChL (vG n) bV .both ts nd bad tq nq bq/\Rdr W B b tq nq bq oq/\((∀ y∈tq,y.length<=1000000)∧∀ u∈nq,u.text.length<=1000000)/\nq.length+tq.length<=10000)/\m=tq.length) (ts1,nd1,bd1,ob1) ts1.length [] ⟨⟨cl_start hG1,hR1,hX1,Nat.le_trans hG1.1 hsm⟩,rfl⟩ ?_
 rintro ⟨tq,nq,bq,oq⟩ m g kk ⟨⟨hch,hRq,hXq,hsq⟩,hmm⟩ nx hkk
 subst hkk
 refine pT hL [] bV hRq hXq hsq λob2 hR2 hX2=> ?_
 cases h1:gD bV tq with
 |true=>
  obtain ⟨r,htq,hnr⟩:=wV h1
  have htl:tq.length=r.length+1:=by rw [htq];rfl
  have hnl9:=congrArg List.length hnr
  have h21:=hch.2.1
  refine z1 (k:=310) (args:= #[Zp b 0]) (v:=YI ((nq.length:Int) -1)) [] (λw hO=>rlast10 hR2 (hO.past 0 ob2) (λx hx=>hx) Om) (dU hp hL [] hR2 hX2 Om Om λts3 nd3 bd3 ob3 hR3 hX3 hG3=> ?_)
  have h31:=hG3.1
  have h32:=hG3.2.1
  exact x_jnL hL [] 3 ((nq.length:Int) -1) hR3 hX3 Om λob4 hR4 hX4=>nx (ts3,nd3++[⟨3,(nq.length:Int) -1,(nd3.length:Int) -1,0,[]⟩],bd3,ob4) ts3.length [] Om ⟨⟨cl_step (pFac_eats n) mk_both hch htq (hnr▸hG3),hR4,hX4,by rw [List.length_append,List.length_singleton];omega⟩,rfl⟩ Kr Kr
 |false=>
  have hno:=(fG (of_decide_eq_false h1)).2
  exact yU [] λw hO=>⟨tq,nq,bq,ob2,rfl,⟨hno▸hR2,hO.past 0 ob2,hXq.1,hXq.2⟩,cl_stop hch h1⟩
theorem chain_tOr (n:Nat)(hp:dS 260 n (pAnd n)):ChainL n tOr 4 260 (pOr n):=by
 refine ⟨λ{B b ts nd bad ob W} hL hln=> ?_⟩
 have hsm:=hL.small
 refine y6 hL.own Tryz.func259 (dU hp hL [] hL.rd ⟨hL.short,hL.texts⟩ hsm hln λts1 nd1 bd1 ob1 hR1 hX1 hG1=> ?_)
 refine y4 (α:=List Tok×List Nd×Bool×List Blk) (λ_=>[(0,Zp b 0),(1,.string (mkS tOr)),(2,YI 4),(3,.func (.func 260) #[] #[])]) (λ(_,_,_,oq)=>oq) (λ(tq,nq,bq,oq) m=>(ChL (pAnd n) tOr .one ts nd bad tq nq bq/\Rdr W B b tq nq bq oq/\((∀ y∈tq,y.length<=1000000)∧∀ u∈nq,u.text.length<=1000000)/\nq.length+tq.length<=10000)/\m=tq.length) (ts1,nd1,bd1,ob1) ts1.length [] ⟨⟨cl_start hG1,hR1,hX1,Nat.le_trans hG1.1 hsm⟩,rfl⟩ ?_
 rintro ⟨tq,nq,bq,oq⟩ m g kk ⟨⟨hch,hRq,hXq,hsq⟩,hmm⟩ nx hkk
 subst hkk
 refine pT hL [] tOr hRq hXq hsq λob2 hR2 hX2=> ?_
 cases h1:gD tOr tq with
 |true=>
  obtain ⟨r,htq,hnr⟩:=wV h1
  have htl:tq.length=r.length+1:=by rw [htq];rfl
  have hnl9:=congrArg List.length hnr
  have h21:=hch.2.1
  refine z1 (k:=310) (args:= #[Zp b 0]) (v:=YI ((nq.length:Int) -1)) [] (λw hO=>rlast10 hR2 (hO.past 0 ob2) (λx hx=>hx) Om) (dU hp hL [] hR2 hX2 Om Om λts3 nd3 bd3 ob3 hR3 hX3 hG3=> ?_)
  have h31:=hG3.1
  have h32:=hG3.2.1
  exact x_jnL hL [] 4 ((nq.length:Int) -1) hR3 hX3 Om λob4 hR4 hX4=>nx (ts3,nd3++[⟨4,(nq.length:Int) -1,(nd3.length:Int) -1,0,[]⟩],bd3,ob4) ts3.length [] Om ⟨⟨cl_step (pAnd_eats n) mk_one hch htq (hnr▸hG3),hR4,hX4,by rw [List.length_append,List.length_singleton];omega⟩,rfl⟩ Kr Kr
 |false=>
  have hno:=(fG (of_decide_eq_false h1)).2
  exact yU [] λw hO=>⟨tq,nq,bq,ob2,rfl,⟨hno▸hR2,hO.past 0 ob2,hXq.1,hXq.2⟩,cl_stop hch h1⟩
theorem nP (n:Nat)(hp:dS 312 n (vG n)):dS 260 n (pAnd n):=by
 refine ⟨λ{B b ts nd bad ob W} hL hln=> ?_⟩
 have hsm:=hL.small
 exact y6 hL.own Tryz.func260 (x_rdL (k:=259) (args:= #[Zp b 0,.string (mkS bV),YI 3,.func (.func 312) #[] #[]]) (Rv:=λv ts' nd' bad'=>v= .tuple #[]/\GotL (pAnd n) ts nd bad ts' nd' bad') hL [] hL.rd ⟨hL.short,hL.texts⟩ hsm (λw hl=>((chain_tAnd n hp).go hl hln).mono λe w' ⟨ts',nd',bad',ob',k1,k2,k3⟩=>⟨_,ts',nd',bad',ob',k1,⟨rfl,k3⟩,k2⟩) λv ts' nd' bad' ob' hv hR hX=>yU [] λw hO=>⟨ts',nd',bad',ob',rfl,⟨hR,hO.past 0 ob',hX.1,hX.2⟩,hv.2⟩)
theorem dM (n:Nat)(hp:dS 260 n (pAnd n)):dS 217 n (pOr n):=by
 refine ⟨λ{B b ts nd bad ob W} hL hln=> ?_⟩
 have hsm:=hL.small
 exact y6 hL.own Tryz.func217 (x_rdL (k:=259) (args:= #[Zp b 0,.string (mkS tOr),YI 4,.func (.func 260) #[] #[]]) (Rv:=λv ts' nd' bad'=>v= .tuple #[]/\GotL (pOr n) ts nd bad ts' nd' bad') hL [] hL.rd ⟨hL.short,hL.texts⟩ hsm (λw hl=>((chain_tOr n hp).go hl hln).mono λe w' ⟨ts',nd',bad',ob',k1,k2,k3⟩=>⟨_,ts',nd',bad',ob',k1,⟨rfl,k3⟩,k2⟩) λv ts' nd' bad' ob' hv hR hX=>yU [] λw hO=>⟨ts',nd',bad',ob',rfl,⟨hR,hO.past 0 ob',hX.1,hX.2⟩,hv.2⟩)
theorem tD (n:Nat)(hf:∀ k,k+1=n->dS 312 k (vG k))(he:∀ k,k+1=n->dS 217 k (pOr k)):dS 312 n (vG n):=by
 refine ⟨λ{B b ts nd bad ob W} hL hln=> ?_⟩
 have hsm:=hL.small
 refine y6 hL.own Tryz.func312 (pT hL [] gZ hL.rd ⟨hL.short,hL.texts⟩ hsm λob1 hR1 hX1=> ?_)
 cases h1:gD gZ ts with
 |true=>
  obtain ⟨r,htq,hnr⟩:=wV h1
  have htl:ts.length=r.length+1:=by rw [htq];rfl
  have hnl9:=congrArg List.length hnr
  obtain ⟨k,rfl⟩:∃ k,n=k+1:=⟨n-1,by omega⟩
  refine dU (hf k rfl) hL [] hR1 hX1 Om Om λts2 nd2 bd2 ob2 hR2 hX2 hG2=> ?_
  have h21:=hG2.1
  exact x_notL hL [] hR2 hX2 Om λob3 hR3 hX3=>yU [] λw hO=>⟨_,_,_,ob3,rfl,⟨hR3,hO.past 0 ob3,hX3.1,hX3.2⟩,gl_not htq (hnr▸hG2)⟩
 |false=>
  rw [(fG (of_decide_eq_false h1)).2] at hR1 hX1
  refine pT hL [] yT hR1 hX1 hsm λob2 hR2 hX2=> ?_
  cases h2:gD yT ts with
  |true=>
   obtain ⟨r,htq,hnr⟩:=wV h2
   have htl:ts.length=r.length+1:=by rw [htq];rfl
   have hnl9:=congrArg List.length hnr
   obtain ⟨k,rfl⟩:∃ k,n=k+1:=⟨n-1,by omega⟩
   refine dU (he k rfl) hL [] hR2 hX2 Om Om λts3 nd3 bd3 ob3 hR3 hX3 hG3=> ?_
   have h31:=hG3.1
   refine pT hL [] kC hR3 hX3 Om λob4 hR4 hX4=> ?_
   obtain ⟨A9,cap9,hw9,hcap9,C9,c9,g9,rfl,hsl9⟩:=hR4
   cases h3:gD kC ts3 with
   |true=>exact yU [] λw hO=>⟨_,_,_,⟨b, #[.slice C9 nd3.length c9,.slice A9 (jO kC ts3).length cap9,.bool bd3],241⟩::g9,rfl,⟨⟨A9,cap9,hw9,hcap9,C9,c9,g9,rfl,hsl9⟩,hO.past 0 _,hX4.1,hX4.2⟩,gl_open htq (hnr▸hG3) h3⟩
   |false=>exact yU [0] λw hO=>⟨_,_,true,⟨b, #[.slice C9 nd3.length c9,.slice A9 (jO kC ts3).length cap9,.bool true],241⟩::g9,rfl,⟨⟨A9,cap9,hw9,hcap9,C9,c9,g9,rfl,hsl9⟩,hO.past 0 _,hX4.1,hX4.2⟩,by rw [(fG (of_decide_eq_false h3)).2];exact gl_unclosed htq (hnr▸hG3) h3⟩
  |false=>
   rw [(fG (of_decide_eq_false h2)).2] at hR2 hX2
   exact dU (comparison10_any n) hL [] hR2 hX2 hsm hln λts3 nd3 bd3 ob3 hR3 hX3 hG3=>yU [] λw hO=>⟨_,_,_,ob3,rfl,⟨hR3,hO.past 0 ob3,hX3.1,hX3.2⟩,gl_atom h1 h2 hln hG3⟩
theorem nR:∀ n,dS 312 n (vG n)
 |0=>tD 0 (λk h=>absurd h Om) (λk h=>absurd h Om)
 |n+1=>by
  have ih:=nR n
  refine tD (n+1) (λk h=> ?_) (λk h=> ?_)
  ·obtain rfl:k=n:=by omega
   exact ih
  ·obtain rfl:k=n:=by omega
   exact dM k (nP k ih)
theorem expressionP (n:Nat):dS 217 n (pOr n):=dM n (nP n (nR n))
end
section
theorem below_moved {B:Nat}{a w:World}(h:Below B a w){k:Nat}(hk:B<=k)(s:ByteArray)(pos:Nat):Below B a (w.iterAt k s pos):=
 h.trans ⟨rfl,rfl,rfl,by rw [Lib.iterAt_size];exact Nat.le_refl _,Nat.le_refl _,λi hi=>Lib.iterAt_other w k i s pos Om⟩
theorem piece_any (s:ByteArray)(f k:Nat)(w:World)(hs:s.size<=1000000)(hfk:f<=k)(hk:k<=s.size):
  YC 258 #[.string s,YI f,YI k] w (YR (.string (s.extract f k)) w):=by
 have hz:(s.extract f k).size<=281474976710656:=by
  rw [ByteArray.size_extract];omega
 go_enter Tryz.func258,Tryz.ntmps258
 go_wp2_with (go_at_call 66;refine (nJ _ _ hz).mono ?_;rintro e w' ⟨rfl,hb⟩)
 go_ret
 exact ⟨rfl,hb⟩
theorem width_any (t:ByteArray)(r n:Nat)(hne:t.data.toList≠[])(hd:Lib.decodeL t.data.toList=(r,n))(w:World):
  YC 257 #[.string t,.int .i32 r] w λe w'=>e= .returned (YI n)/\w=w':=by
 have HD:=Lib.hid hd
 clear hd
 have HNE:=Lib.hid hne
 clear hne
 by_cases h:r=65533
 ·by_cases hp:Lib.hasPrefix t.data.toList [239,191,189]=true
  ·have HP:=Lib.hid hp
   clear hp
   have hb:((r:Int)==65533)=true:=by simp [h]
   have HR:=Lib.hid h
   clear h
   go_enter Tryz.func257,Tryz.ntmps257
   go_wp2_with (first|(go_at_call 307;refine (Tryz.strings_HasPrefix t ⟨#[239,191,189]⟩ _).mono ?_;rw [HP.out];rintro e w' ⟨rfl,rfl⟩)|(go_at_call 308;refine (Tryz.utf8_RuneLen _ _).mono ?_;rintro e w' ⟨rfl,rfl⟩))
   go_ret
   refine ⟨fB ?_,rfl⟩
   have h3:=wide_err _ HP.out
   rw [HD.out] at h3
   rw [HR.out,show n=3 from h3]
   decide
  ·have HP:=Lib.hid (Bool.eq_false_iff.2 hp)
   clear hp
   have hb:((r:Int)==65533)=true:=by simp [h]
   have HR:=Lib.hid h
   clear h
   go_enter Tryz.func257,Tryz.ntmps257
   go_wp2_with (go_at_call 307;refine (Tryz.strings_HasPrefix t ⟨#[239,191,189]⟩ _).mono ?_;rw [HP.out];rintro e w' ⟨rfl,rfl⟩)
   go_ret
   refine ⟨fB ?_,rfl⟩
   have h1:=wide_bad _ HNE.out (by rw [HD.out];exact HR.out) HP.out
   rw [HD.out] at h1
   rw [show n=1 from h1]
   rfl
 ·have hb:((r:Int)==65533)=false:=v6 Om
  go_enter Tryz.func257,Tryz.ntmps257
  go_wp2_with (go_at_call 308;refine (Tryz.utf8_RuneLen _ _).mono ?_;rintro e w' ⟨rfl,rfl⟩)
  go_ret
  refine ⟨fB ?_,rfl⟩
  have h2:=wide_other t.data.toList (by rw [HD.out];exact h)
  rw [HD.out] at h2
  exact h2
theorem split_any (s:ByteArray)(b:UInt8)(w:World)(hs:s.size<=1000000):
  YC 216 #[.string s,.int .u8 b.toNat] w λe w'=>∃ v,e= .returned v/\w'.ownsRow w.heap.size 9 1 v (qG s b).length (vD (qG s b))/\Below w.heap.size w w':=by
 obtain ⟨i0,hi,hz0,hz1,hz2⟩:=info_parts infoStr
 go_enter Tryz.func216,Tryz.ntmps216
 go_wp2
 go_loopw [5,6] (λv fv wr=>∃ (pos f:Nat) (P:List (List UInt8)),fv=YI f/\f<=pos/\pos<=s.size/\P.length<=pos/\wr.heap[w.heap.size]?=some (.stringIter s pos)/\wr.ownsRow w.heap.size 9 1 v P.length (vD P)/\Below w.heap.size w wr/\Hid (P++zF b ((s.data.toList.drop f).take (pos-f)) (s.data.toList.drop pos)=qG s b)) (λ_ _ wr=>s.size-wr.iterPos w.heap.size)
 case atStart=>exact ⟨0,0,[],rfl,Nat.le_refl _,Nat.zero_le _,Nat.zero_le _,World.iter_heap _ _ _,⟨rfl,Or.inl ⟨rfl,rfl⟩⟩,zS _ _ _,rfl⟩
 case round=>
  obtain ⟨pos,f,P,rfl,hfp,hple,hP,hit,hown,hb,HR⟩:=hrel
  have hsz:=hb.size
  by_cases hp:pos<s.size
  ·obtain ⟨r,n,hdec⟩:∃ r n,Utf8.decode s pos=(r,n):=⟨_,_,rfl⟩
   have hnx:∀ ty,(Instr.next (.pointer (some ⟨w.heap.size,0,none⟩)) true ty).run Tryz.prog wr=_:=λty=>Lib.run_next_any_at wr w.heap.size s pos ty hit hp
   rw [hdec] at hnx
   have hn1:1<=n:=by
    by_cases ha:(s[pos]'hp).toNat<128
    ·have:=decode_ascii s pos hp ha
     rw [hdec] at this
     have:n=1:=congrArg Prod.snd this
     omega
    ·have:=(decode_high s pos hp Om).2
     rw [hdec] at this
     exact this
   have hdl:Lib.decodeL (s.extract pos s.size).data.toList=(r,n):=by rw [Lib.extract_to_end,Lib.decodeL_drop,hdec]
   have hne:(s.extract pos s.size).data.toList≠[]:=by
    rw [Lib.extract_to_end];intro h;have:=congrArg List.length h;simp at this;omega
   have hnle:pos+n<=s.size:=by
    have:=Lib.decodeL_le _ hne
    rw [hdl,Lib.extract_to_end] at this
    simp at this;omega
   have HDL:=Lib.hid hdl
   have HNE:=Lib.hid hne
   have HIT:=Lib.hid hit
   have hown1:=ownsRow_iterAt hown hit (pos+n)
   have hit1:=Lib.iterAt_heap wr w.heap.size s pos (pos+n) hit
   have hb1:Below w.heap.size w (wr.iterAt w.heap.size s (pos+n)):=below_moved hb (Nat.le_refl _) s (pos+n)
   have HIT1:=Lib.hid hit1
   clear hdl hne hdec hit1
   obtain ⟨wo,rfl⟩:∃ wo:World,wo=wr:=⟨_,rfl⟩
   go_wp2_with (go_at_call 257;refine (width_any _ r n HNE.out HDL.out _).mono ?_;rintro e w' ⟨rfl,rfl⟩)
   go_loopw [5,6,10] (λv fv iv wi=>∃ (k f:Nat) (P:List (List UInt8)),iv=YI k/\fv=YI f/\f<=k/\pos<=k/\k<=pos+n/\P.length<=k/\wi.heap[w.heap.size]?=some (.stringIter s (pos+n))/\wi.ownsRow w.heap.size 9 1 v P.length (vD P)/\Below w.heap.size w wi/\Hid (P++zF b ((s.data.toList.drop f).take (k-f)) (s.data.toList.drop k)=qG s b)) (λ_ _ iv _=>pos+n-(intOf iv).toNat)
   case atStart=>exact ⟨pos,f,P,rfl,rfl,hfp,Nat.le_refl _,by omega,hP,HIT1.out,hown1,hb1,HR⟩
   case round=>
    clear HR hown hb hit hsz hnx hown1 hb1
    obtain ⟨k,f2,P2,rfl,rfl,hfk,hpk,hkn,hP2,hit2,hown2,hb2,HR2⟩:=hrel
    have hsz2:=hb2.size
    have HIT2:=Lib.hid hit2
    clear hit2
    by_cases hlt:k<pos+n
    ·have hks:k<s.size:=by omega
     have HD:=Lib.hid (kZ s k hks)
     by_cases hc:s[k]=b
     ·have HC:=Lib.hid hc
      have hcb:((s[k].toNat:Int)==(b.toNat:Int))=true:=by rw [hc];simp
      clear hc
      go_wp2_with (go_at_call 258;refine (piece_any s f2 k _ hs hfk Om).mono ?_)
      rintro e w3 ⟨rfl,hb3⟩
      have hown3:=bW hown2 hb3
      have hsz3:=hb3.size
      have hb4:Below w.heap.size w w3:=hb2.trans (hb3.mono hsz2)
      have HIT3:=Lib.hid (iter_below HIT2.out hb3)
      go_wp2_with (at_builtin;refine x6 _ rfl _ _ 75 rfl w.heap.size 9 i0 (.string ByteArray.empty) 1 16 Tryz.underlying75 hi hz0 hz1 hz2 rfl (by decide) _ _ _ rfl (hown3.alloc _) ⟨w3.heap.size,0,none⟩ 1 1 [.string (s.extract f2 k)] rfl rfl ?c1 ?c2 ?c3 ?c4 ?c5 ?_)
      case c1=>
       intro j u hj
       match j,hj with
       |0,hj=>simp at hj;subst hj;simp [Addr.add]
      case c2=>intro u hu;simp at hu;subst hu;rfl
      case c3=>unfold maxLen;omega
      case c4=>omega
      case c5=>simp;omega
      intro v' w5 hown' hgrow _
      go_wp2
      go_roundw
      case rel=>
       refine ⟨k+1,k+1,P2++[(s.data.toList.drop f2).take (k-f2)],by go_num,by go_num,Nat.le_refl _,by omega,by omega,by simp;omega, ?_, ?_,(hb4.alloc (by omega) _).grown hgrow (by simp;omega) (λk hk=>(hown3.lt k hk).1), ?_⟩
       ·have ha:(w3.alloc (.cells #[.string (s.extract f2 k)] 9)).heap[w.heap.size]?=some (.stringIter s (pos+n)):=by
         rw [Below.heap_alloc _ _ _ (Array.getElem?_eq_some_iff.1 HIT3.out).1];exact HIT3.out
        rw [hgrow.1.block _ (Array.getElem?_eq_some_iff.1 ha).1 (ownsRow_ne (hown3.alloc _) ha)]
        exact ha
       ·rw [d9,←fN,List.length_append];exact hown'
       ·show _=_
        rw [←HR2.out,HD.out,split_hit _ _ _ _ HC.out,List.append_assoc,Nat.sub_self,List.take_zero];rfl
      case measure=>simp [intOf];omega
     ·have hcb:((s[k].toNat:Int)==(b.toNat:Int))=false:=v6 (λe=>hc (UInt8.toNat_inj.1 Om))
      go_wp2
      go_roundw
      case rel=>exact ⟨k+1,f2,P2,by go_num,rfl,by omega,by omega,by omega,by omega,HIT2.out,hown2,hb2,by show _=_;rw [←HR2.out,HD.out,split_miss _ _ _ _ hc,take_more s f2 k hfk hks]⟩
      case measure=>simp [intOf];omega
    ·obtain rfl:k=pos+n:=by omega
     go_wp2
     go_roundw
     case rel=>exact ⟨pos+n,f2,P2,rfl,hfk,hnle,hP2,HIT2.out,hown2,hb2,HR2⟩
     case measure=>
      simp only [World.iterPos,HIT2.out,HIT.out]
      omega
  ·have hnx:∀ ty,(Instr.next (.pointer (some ⟨w.heap.size,0,none⟩)) true ty).run Tryz.prog wr=_:=λty=>Lib.run_next_end_at wr w.heap.size s pos ty hit hp
   have HD:=Lib.hid (vS s pos hp)
   have hk2:pos=s.size:=by omega
   have HE:Hid (P++[(s.data.toList.drop f).take (s.size-f)]=qG s b):=by
    show _=_
    rw [←HR.out,HD.out,hk2];rfl
   clear hk2
   have hfs:f<=s.size:=by omega
   go_wp2_with (go_at_call 258;refine (piece_any s f s.size _ hs hfs (Nat.le_refl _)).mono ?_)
   rintro e w3 ⟨rfl,hb3⟩
   have hown3:=bW hown hb3
   have hsz3:=hb3.size
   have hb4:Below w.heap.size w w3:=hb.trans (hb3.mono hsz)
   go_wp2_with (at_builtin;refine x6 _ rfl _ _ 75 rfl w.heap.size 9 i0 (.string ByteArray.empty) 1 16 Tryz.underlying75 hi hz0 hz1 hz2 rfl (by decide) _ _ _ rfl (hown3.alloc _) ⟨w3.heap.size,0,none⟩ 1 1 [.string (s.extract f s.size)] rfl rfl ?c1 ?c2 ?c3 ?c4 ?c5 ?_)
   case c1=>
    intro j u hj
    match j,hj with
    |0,hj=>simp at hj;subst hj;simp [Addr.add]
   case c2=>intro u hu;simp at hu;subst hu;rfl
   case c3=>unfold maxLen;omega
   case c4=>omega
   case c5=>simp;omega
   intro v' w2 hown' hgrow _
   go_wp2
   go_ret
   refine ⟨v',rfl, ?_,(hb4.alloc Om _).grown hgrow (by simp;omega) (λk hk=>(hown3.lt k hk).1)⟩
   rw [←HE.out,d9,←fN,List.length_append];exact hown'
end
section
set_option linter.unnecessarySimpa false
theorem isplit_own (s:List UInt8)(W:World)(hs:s.length<=1000000):YC 216 #[.string (mkS s),.int .u8 32] W λe w'=>∃ v' ob',e= .returned v'/\SlT v' (xH s) ob'/\Own [] W w' ob':=
 (split_any (mkS s) 32 W (by rw [y0];exact hs)).mono λe w' ⟨v,h1,h2,h3⟩=>by
  obtain ⟨ob,k1,k2⟩:=Own.row h2 h3
  unfold qG at k1
  rw [mk_data] at k1
  exact ⟨v,ob,h1,k1,k2⟩
theorem lib_anew {W w1 w:World}{L L2:List Blk}(hK:MkLib W)(hO1:Own [] W w1 L)(hO:Own (L.map Blk.b) w1 w L2):MkAt w1.heap.size w:=by
 have hlt:=hK.lt
 refine ⟨Nat.lt_of_lt_of_le hlt hO1.size, ?_⟩
 obtain ⟨T,q⟩:=hK.held
 refine ⟨T, ?_⟩
 rw [hO.kept _ (Nat.lt_of_lt_of_le hlt hO1.size) (λhm=> ?_),hO1.kept _ hlt (by simp)]
 ·exact q
 ·obtain ⟨x,hx,ex⟩:=List.mem_map.1 hm
  rcases hO1.base x hx with r|r
  ·omega
  ·cases r
theorem words_len (s:List UInt8):(xH s).length<=s.length+1:=splitL_many10 32 s []
theorem m10Parse_any (s:List UInt8)(W:World)(hs:s.length<=1000000)(hK:MkLib W):YC 158 #[.string (mkS s)] W λe w'=>∃ v' ob',e= .returned (.tuple #[.agg #[v'],YI (errM s)])/\SlN v' (wE s) ob'/\Own [] W w' ob':=by
 have hsz:=y0 s
 have hwn:=words_len s
 refine Z2 (n:=36) Tryz.func158 rfl (ZO (Za (.agg #[.slice none 0 0]) (λb1=>Zv (YI 0) (ZN (y7 (ZO (Zv (.string (mkS s)) (Zv (YI ((mkS s).size)) ?_))))))))
 by_cases h1:(96:Int)<(mkS s).size
 ·have h96:96<s.length:=by omega
  refine Zg h1 (ZY (ZO (Zv (.agg #[.slice none 0 0]) (Zs 0 ⟨b1, #[.slice none 0 0],185⟩ (off:=0) (.agg #[.slice none 0 0]) (Zv (YI 3) (ZN (xB ?_)))))))
  exact zT (ZD 0 ⟨b1, #[.slice none 0 0],185⟩ (off:=0) (.agg #[.slice none 0 0]) (YI 3) Tryz.results158 (λw hO=>⟨_,[],by rw [show errM s=3 from if_pos h96],by rw [show wE s=[] from if_pos h96];exact Sl.nil _ _,hO.sublist (by simp)⟩))
 have h96:¬ 96<s.length:=by omega
 refine Zh h1 (ZX (ZB (y7 (ZO (Zv (.string (mkS s)) ?_)))))
 by_cases h2:(s:List UInt8)=[]
 ·refine gB Z4 Kr (qE (a:=s) (b:=([])) rfl Kr Kr (decide_eq_true (h2))) (ZY (ZO (Zv (.agg #[.slice none 0 0]) (Zs 0 ⟨b1, #[.slice none 0 0],185⟩ (off:=0) (.agg #[.slice none 0 0]) (Zv (YI 0) (ZN (xB ?_)))))))
  exact zT (ZD 0 ⟨b1, #[.slice none 0 0],185⟩ (off:=0) (.agg #[.slice none 0 0]) (YI 0) Tryz.results158 (λw hO=>⟨_,[],by rw [show errM s=0 from by unfold errM;rw [if_neg h96,if_pos h2]],by rw [show wE s=[] from by unfold wE;rw [if_neg h96,if_pos h2]];exact Sl.nil _ _,hO.sublist (by simp)⟩))
 refine gB Z5 Kr (qE (a:=s) (b:=([])) rfl Kr Kr (decide_eq_false (h2))) (ZX (ZB (ZO (Zv (.string (mkS s)) (Zr (k:=216) (args:= #[.string (mkS s),.int .u8 32]) (λv' L'=>∃ ob',L'=ob'++[⟨b1, #[.slice none 0 0],185⟩]/\SlT v' (xH s) ob') (λw hO=>(isplit_own s w hs).mono λe w' ⟨v',ob',k1,k2,k3⟩=>⟨v',_,k1,⟨ob',rfl,k2⟩,Own.joinN hO k3⟩) (λvw Lw hvw=> ?_))))))
 obtain ⟨ow,rfl,hsw⟩:=hvw
 obtain ⟨AW,cw,rfl⟩:=SlT.form hsw
 refine s_anew (λw1 hO1=> ?_)
 have hw1:Reads zW w1 w1.heap.size AW (xH s):=SlT.reads hsw rfl hO1 (λx hx=>List.mem_append_left _ hx)
 refine Zv (.agg #[.slice none 0 0,.slice AW ((xH s).length) cw,.bool false]) ?_
 have hcw:(xH s).length<=cw:=by obtain ⟨_,q⟩:=hsw;rcases q with ⟨_,q,_⟩|⟨_,c9,_,q1,_,q2,_⟩;omega;injection q1 with _ _ q3;omega
 refine Za (.agg #[.slice none 0 0,.slice none 0 0,.bool false]) (λb2=>Zs 0 ⟨b2, #[.slice none 0 0,.slice none 0 0,.bool false],241⟩ (off:=0) (.agg #[.slice none 0 0,.slice AW ((xH s).length) cw,.bool false]) (ZR (jV (L':=[⟨b2, #[.slice none 0 0,.slice AW ((xH s).length) cw,.bool false],241⟩]++(ow++([⟨b1, #[.slice none 0 0],185⟩]))) rfl (Zr (k:=217) (args:= #[Zp b2 0]) (λv' L'=>∃ ts' nd' bad',v'= .tuple #[]∧∃ ob',L'=ob'++(ow++([⟨b1, #[.slice none 0 0],185⟩]))/\(∃ A' cap',Rb b2 A' ts'.length cap' bad' nd' ob')/\(∀ n∈nd',n.text.length<=1000000)/\GotL (pOr (xH s).length) (xH s) [] false ts' nd' bad') (λw hO=>((expressionP (xH s).length).go (⟨⟨AW,cw,Reads.bound (SlT.reads hsw rfl hO (λx hx=>by simp [hx])) hw1,hcw,none,0,[],rfl,Sl.nil _ _⟩,Own.lent hO,own_new hO,hO.size,λx hx=>Nat.le_trans (words_short x hx) hs,λn hn=>absurd hn (by simp),by simp only [List.length_nil];omega,lib_anew hK hO1 hO⟩:LentL w1.heap.size b2 (xH s) [] false [⟨b2, #[.slice none 0 0,.slice AW ((xH s).length) cw,.bool false],241⟩] w) (Nat.le_refl _)).mono λe w' ⟨ts',nd',bad',ob',k1,k2,k3⟩=>⟨_,_,k1,⟨ts',nd',bad',rfl,ob',rfl,k2.rd.imp λA' q=>q.imp λcap' q=>q.2.2,k2.texts,k3⟩,Own.join hO k2.own⟩) (λve Le hve=> ?_)))))
 obtain ⟨ts2,nd2,bd,rfl,obe,rfl,⟨A2,cap2,C,cc,g,rfl,hsl⟩,hnt,hG⟩:=hve
 have hnw:nd2.length<=1000:=by have q:=hG.1;simp only [List.length_nil] at q;omega
 refine jV (L':=⟨b2, #[.slice C nd2.length cc,.slice A2 ts2.length cap2,.bool bd],241⟩::(g++(ow++([⟨b1, #[.slice none 0 0],185⟩])))) (by simp) (ZR (Zv (Zp b2 0) (Zv (Zp b2 0) (Zl 0 ⟨b2, #[.slice C nd2.length cc,.slice A2 ts2.length cap2,.bool bd],241⟩ (off:=0) (.slice C nd2.length cc) (Zv (.agg #[.slice C nd2.length cc]) (Za (.agg #[.slice none 0 0]) (λb3=>Zs 0 ⟨b3, #[.slice none 0 0],185⟩ (off:=0) (.agg #[.slice C nd2.length cc]) (bL ?_))))))))
 refine kK (y7 (ZO (Zv (Zp b2 2) (Zl 1 ⟨b2, #[.slice C nd2.length cc,.slice A2 ts2.length cap2,.bool bd],241⟩ (off:=2) (.bool bd) (Zv (.bool bd) ?_)))))
 cases h3:bd with
 |true=>
  rw [h3] at hG
  refine Zk (Zk (Zk (Zk (Zv Z4 (Zv Z4 (Zk (Zk (Zk (Zv Z4 (bL (kK ?_)))))))))))
  refine Zt (ZO (Zv (.agg #[.slice none 0 0]) (jV (L':=⟨b3, #[.slice C nd2.length cc],185⟩::(⟨b2, #[.slice C nd2.length cc,.slice A2 ts2.length cap2,.bool true],241⟩::(g++(ow++([⟨b1, #[.slice none 0 0],185⟩]))))) rfl (vZ (L':=⟨b1, #[.slice none 0 0],185⟩::(⟨b3, #[.slice C nd2.length cc],185⟩::(⟨b2, #[.slice C nd2.length cc,.slice A2 ts2.length cap2,.bool true],241⟩::(g++(ow))))) (λw hO=>hO.perm (by simpa [List.append_assoc] using (List.perm_middle (a:=⟨b1, #[.slice none 0 0],185⟩) (l₁:=(⟨b3, #[.slice C nd2.length cc],185⟩::(⟨b2, #[.slice C nd2.length cc,.slice A2 ts2.length cap2,.bool true],241⟩::(g++(ow++([]:List Blk)))))) (l₂:=([]:List Blk))))) (Zs 0 ⟨b1, #[.slice none 0 0],185⟩ (off:=0) (.agg #[.slice none 0 0]) (Zv (YI 7) (ZN (xB (zT ?_)))))))))
  exact ZD 0 ⟨b1, #[.slice none 0 0],185⟩ (off:=0) (.agg #[.slice none 0 0]) (YI 7) Tryz.results158 (λw hO=>⟨_,[],by rw [(jT h96 h2).1,show jK s=none from nG hG (.inl rfl)],by rw [(jT h96 h2).2,show jK s=none from nG hG (.inl rfl)];exact Sl.nil _ _,(by have q:=Own.join (R:=[]) (by rw [List.append_nil];exact hO1) hO;rw [List.append_nil] at q;exact q.sublist (List.nil_sublist _))⟩)
 |false=>
  rw [h3] at hG
  refine Zv (Zp b2 1) (Zl 1 ⟨b2, #[.slice C nd2.length cc,.slice A2 ts2.length cap2,.bool false],241⟩ (off:=1) (.slice A2 ts2.length cap2) (Zv (YI (ts2.length:Int)) ?_))
  by_cases h4:(0:Int)<(ts2.length:Int)
  ·have hne:ts2≠[]:=λq=>by rw [q] at h4;simp at h4
   refine Zg h4 (Zv Z4 (Zv Z4 (Zk (Zk (Zk (Zv Z4 (ZY (y7 (yD ?_)))))))))
   exact Zv (.agg #[.slice none 0 0]) (jV (L':=⟨b3, #[.slice C nd2.length cc],185⟩::(⟨b2, #[.slice C nd2.length cc,.slice A2 ts2.length cap2,.bool false],241⟩::(g++(ow++([⟨b1, #[.slice none 0 0],185⟩]))))) rfl (vZ (L':=⟨b1, #[.slice none 0 0],185⟩::(⟨b3, #[.slice C nd2.length cc],185⟩::(⟨b2, #[.slice C nd2.length cc,.slice A2 ts2.length cap2,.bool false],241⟩::(g++(ow))))) (λw hO=>hO.perm (by simpa [List.append_assoc] using (List.perm_middle (a:=⟨b1, #[.slice none 0 0],185⟩) (l₁:=(⟨b3, #[.slice C nd2.length cc],185⟩::(⟨b2, #[.slice C nd2.length cc,.slice A2 ts2.length cap2,.bool false],241⟩::(g++(ow++([]:List Blk)))))) (l₂:=([]:List Blk))))) (Zs 0 ⟨b1, #[.slice none 0 0],185⟩ (off:=0) (.agg #[.slice none 0 0]) (Zv (YI 7) (ZN (xB (zT (ZD 0 ⟨b1, #[.slice none 0 0],185⟩ (off:=0) (.agg #[.slice none 0 0]) (YI 7) Tryz.results158 (λw hO=>⟨_,[],by rw [(jT h96 h2).1,show jK s=none from nG hG (.inr (.inl hne))],by rw [(jT h96 h2).2,show jK s=none from nG hG (.inr (.inl hne))];exact Sl.nil _ _,(by have q:=Own.join (R:=[]) (by rw [List.append_nil];exact hO1) hO;rw [List.append_nil] at q;exact q.sublist (List.nil_sublist _))⟩)))))))))
  have hts:ts2=[]:=List.eq_nil_of_length_eq_zero Om
  rw [hts] at hG
  refine Zh h4 (Zv Z5 (Zv Z5 (Zl 0 ⟨b3, #[.slice C nd2.length cc],185⟩ (off:=0) (.agg #[.slice C nd2.length cc]) (Zc (k:=218) (args:= #[.agg #[.slice C nd2.length cc]]) (.bool (mD nd2)) (λw hO=>m10May_any C cc nd2 w (Sl.reads hsl rfl hO (λx hx=>by simp [hx])) hnw hnt ⟨Nat.lt_of_lt_of_le (lib_anew hK hO1 hO).lt hO.size,(lib_anew hK hO1 hO).held⟩) ?_))))
  cases h5:mD nd2 with
  |true=>
   obtain ⟨t,hok,hnd,hrd⟩:=gl_some hG h5
   refine Zv Z5 (Zv Z5 (ZX (ZB (ZO (Zl 0 ⟨b3, #[.slice C nd2.length cc],185⟩ (off:=0) (.agg #[.slice C nd2.length cc]) (jV (L':=⟨b3, #[.slice C nd2.length cc],185⟩::(⟨b2, #[.slice C nd2.length cc,.slice A2 ts2.length cap2,.bool false],241⟩::(g++(ow++([⟨b1, #[.slice none 0 0],185⟩]))))) rfl (vZ (L':=⟨b1, #[.slice none 0 0],185⟩::(⟨b3, #[.slice C nd2.length cc],185⟩::(⟨b2, #[.slice C nd2.length cc,.slice A2 ts2.length cap2,.bool false],241⟩::(g++(ow))))) (λw hO=>hO.perm (by simpa [List.append_assoc] using (List.perm_middle (a:=⟨b1, #[.slice none 0 0],185⟩) (l₁:=(⟨b3, #[.slice C nd2.length cc],185⟩::(⟨b2, #[.slice C nd2.length cc,.slice A2 ts2.length cap2,.bool false],241⟩::(g++(ow++([]:List Blk)))))) (l₂:=([]:List Blk))))) ?_)))))))
   exact Zs 0 ⟨b1, #[.slice none 0 0],185⟩ (off:=0) (.agg #[.slice C nd2.length cc]) (Zv (YI 0) (ZN (xB (ZD 0 ⟨b1, #[.slice C nd2.length cc],185⟩ (off:=0) (.agg #[.slice C nd2.length cc]) (YI 0) Tryz.results158 (λw hO=>⟨_,g,by rw [(jT h96 h2).1,hrd],by rw [(jT h96 h2).2,hrd];show SlN _ (t.enc 0) g;rw [←hnd];exact hsl,(by have q:=Own.join (R:=[]) (by rw [List.append_nil];exact hO1) hO;rw [List.append_nil] at q;exact q.sublist ((((List.sublist_append_left _ _).cons _).cons _).cons _))⟩)))))
  |false=>
   refine Zv Z4 (Zv Z4 (ZY (ZO (Zv (.agg #[.slice none 0 0]) (jV (L':=⟨b3, #[.slice C nd2.length cc],185⟩::(⟨b2, #[.slice C nd2.length cc,.slice A2 ts2.length cap2,.bool false],241⟩::(g++(ow++([⟨b1, #[.slice none 0 0],185⟩]))))) rfl (vZ (L':=⟨b1, #[.slice none 0 0],185⟩::(⟨b3, #[.slice C nd2.length cc],185⟩::(⟨b2, #[.slice C nd2.length cc,.slice A2 ts2.length cap2,.bool false],241⟩::(g++(ow))))) (λw hO=>hO.perm (by simpa [List.append_assoc] using (List.perm_middle (a:=⟨b1, #[.slice none 0 0],185⟩) (l₁:=(⟨b3, #[.slice C nd2.length cc],185⟩::(⟨b2, #[.slice C nd2.length cc,.slice A2 ts2.length cap2,.bool false],241⟩::(g++(ow++([]:List Blk)))))) (l₂:=([]:List Blk))))) (Zs 0 ⟨b1, #[.slice none 0 0],185⟩ (off:=0) (.agg #[.slice none 0 0]) (Zv (YI 7) ?_))))))))
   exact ZN (xB (zT (ZD 0 ⟨b1, #[.slice none 0 0],185⟩ (off:=0) (.agg #[.slice none 0 0]) (YI 7) Tryz.results158 (λw hO=>⟨_,[],by rw [(jT h96 h2).1,show jK s=none from nG hG (.inr (.inr h5))],by rw [(jT h96 h2).2,show jK s=none from nG hG (.inr (.inr h5))];exact Sl.nil _ _,(by have q:=Own.join (R:=[]) (by rw [List.append_nil];exact hO1) hO;rw [List.append_nil] at q;exact q.sublist (List.nil_sublist _))⟩))))
end
section
set_option linter.unnecessarySimpa false
theorem j8 (s:List UInt8)(W:World)(hs:s.length<=1000000):YC 97 #[.string (mkS s)] W (YR (.bool (wdL s)) W):=
 (word_any (mkS s) W (by rw [y0];unfold maxLen;omega)).mono λe w' ⟨h,e2⟩=>⟨by rw [h];unfold pX wdL;rw [y0,mk_data],e2⟩
theorem dG (s:List UInt8)(W:World)(hs:s.length<=1000000):YC 52 #[.string (mkS s)] W (YR (.bool (nmL s)) W):=
 name_any (mkS s) W (by rw [y0];unfold maxLen;omega)
theorem y5 (s:List UInt8)(W:World)(hs:s.length<=1000000):YC 66 #[.string (mkS s)] W (YR (.string (mkS s)) W):=nJ (mkS s) W (by rw [y0];omega)
theorem iCut_any (s:List UInt8)(w:World):YC 161 #[.string (mkS s),.string ⟨#[63]⟩] w (YR (.tuple #[.string (mkS (if s.head?=some 63 then s.drop 1 else s)),.bool (decide (s.head?=some 63))]) w):=
 (Tryz.strings_CutPrefix (mkS s) ⟨#[63]⟩ w).mono λe w' ⟨he,hw⟩=>by
  subst hw
  refine ⟨?_,Below.refl _ _⟩
  rw [he,mk_data]
  show Ending.returned (Value.tuple #[.string ⟨(Lib.trimPrefix s [63]).toArray⟩,.bool (Lib.hasPrefix s [63])])=_
  unfold Lib.trimPrefix Lib.hasPrefix
  cases s with
  |nil=>rfl
  |cons c r=>
   by_cases h:c=63
   ·subst h;simp [List.isPrefixOf,mkS]
   ·have h2:¬ 63=c:=λq=>h q.symm
    simp [List.isPrefixOf,mkS,h,h2]
theorem kind_cut {s:List UInt8}(h:wdL s=false)(hno:¬ (s.head?=some 63/\wdL (s.drop 1)=true)):zR s=if (z7 47 s).2.2 && nmL (z7 47 s).1 && wdL (z7 47 s).2.1 then (3,(z7 47 s).1,(z7 47 s).2.1) else (0,[],[]):=by
 unfold zR
 rw [if_neg (by rw [h];simp),if_neg (by rw [Bool.and_eq_true,decide_eq_true_eq];exact hno),gG 47 s [],List.nil_append]
 cases hc:(z7 47 s).2.2 with
 |false=>simp
 |true=>
  rw [if_pos rfl]
  cases hw:wdL (z7 47 s).2.1 with
  |true=>
   have hf:(47:UInt8)∉(z7 47 s).2.1:=wdL_no (by decide) hw
   rw [gG 47 _ [],jB 47 _ hf]
   simp [hw]
  |false=>
   rw [gG 47 _ [],List.nil_append]
   cases hc2:(z7 47 (z7 47 s).2.1).2.2 with
   |true=>
    rw [if_pos rfl]
    cases hs:zF 47 [] (z7 47 (z7 47 s).2.1).2.1 with
    |nil=>exact absurd hs (mR 47 _ _)
    |cons y t=>simp
   |false=>
    have hb:=cutAt_back 47 (z7 47 s).2.1
    rw [hc2,if_neg (by simp),List.append_nil] at hb
    rw [←hb]
    simp [hw]
theorem fItem_at (s:List UInt8)(W:World)(hs:s.length<=1000000):YC 99 #[.string (mkS s)] W (YR (.tuple #[YI (zR s).1,.string (mkS (zR s).2.1),.string (mkS (zR s).2.2)]) W):=by
 have hcl:=tV 47 s
 refine z8 Tryz.func99 (z1 (v:= .bool (wdL s)) [] (λw _=>j8 s w hs) (yG 11 (wdL s) (λh1=> ?_) (λh1=> ?_)))
 ·refine z1 (v:= .string (mkS s)) [] (λw _=>y5 s w hs) (bT [] (YI 1) (.string (mkS s)) (.string ⟨#[]⟩) λw hO=>⟨?_,hO.below⟩)
  rw [show zR s=(1,s,[]) from by unfold zR;rw [if_pos h1]];rfl
 have zero:∀ {w:World} {L:List Blk},¬ (s.head?=some 63/\wdL (s.drop 1)=true)->((z7 47 s).2.2 && nmL (z7 47 s).1 && wdL (z7 47 s).2.1)=false->Own [] W w L->(Ending.returned (.tuple #[YI 0,.string ⟨#[]⟩,.string ⟨#[]⟩])= .returned (.tuple #[YI (zR s).1,.string (mkS (zR s).2.1),.string (mkS (zR s).2.2)]))/\Below W.heap.size W w:=λh2 h3 hO=>by
  refine ⟨?_,hO.below⟩
  rw [kind_cut h1 h2,h3];rfl
 have three:∀ {w:World} {L:List Blk},¬ (s.head?=some 63/\wdL (s.drop 1)=true)->((z7 47 s).2.2 && nmL (z7 47 s).1 && wdL (z7 47 s).2.1)=true->Own [] W w L->(Ending.returned (.tuple #[YI 3,.string (mkS (z7 47 s).1),.string (mkS (z7 47 s).2.1)])= .returned (.tuple #[YI (zR s).1,.string (mkS (zR s).2.1),.string (mkS (zR s).2.2)]))/\Below W.heap.size W w:=λh2 h3 hO=>by
  refine ⟨?_,hO.below⟩
  rw [kind_cut h1 h2,h3];rfl
 by_cases hq:s.head?=some 63
 ·have hcp:∀ w,YC 161 #[.string (mkS s),.string ⟨#[63]⟩] w (YR (.tuple #[.string (mkS (s.drop 1)),.bool true]) w):=λw=>(iCut_any s w).mono λe w' ⟨e1,e2⟩=>⟨by rw [e1,if_pos hq,decide_eq_true hq],e2⟩
  refine z1 (v:= .tuple #[.string (mkS (s.drop 1)),.bool true]) [] (λw _=>hcp w) (z1 (v:= .bool (wdL (s.drop 1))) [] (λw _=>j8 _ w (by rw [List.length_drop];omega)) (x_bb 23 [] (wdL (s.drop 1)) (λh2=> ?_) (λh2=> ?_)))
  ·refine z1 (v:= .string (mkS (s.drop 1))) [] (λw _=>y5 _ w (by rw [List.length_drop];omega)) (bT [] (YI 2) (.string (mkS (s.drop 1))) (.string ⟨#[]⟩) λw hO=>⟨?_,hO.below⟩)
   rw [show zR s=(2,s.drop 1,[]) from by unfold zR;rw [if_neg (by rw [h1];simp),if_pos (by rw [hq,h2];rfl)]];rfl
  have hno:¬ (s.head?=some 63/\wdL (s.drop 1)=true):=λq=>by rw [h2] at q;cases q.2
  refine z1 (v:= .tuple #[.string (mkS (z7 47 s).1),.string (mkS (z7 47 s).2.1),.bool (z7 47 s).2.2]) [] (λw _=>tU s 47 w (by omega)) (x_bb 33 [] (z7 47 s).2.2 (λh3=> ?_) (λh3=> ?_))
  ·refine z1 (v:= .bool (nmL (z7 47 s).1)) [] (λw _=>dG _ w (by omega)) (x_bb 37 [] (nmL (z7 47 s).1) (λh4=> ?_) (λh4=> ?_))
   ·refine z1 (v:= .bool (wdL (z7 47 s).2.1)) [] (λw _=>j8 _ w (by omega)) (x_bb 40 [] (wdL (z7 47 s).2.1) (λh5=> ?_) (λh5=> ?_))
    ·exact z1 (v:= .string (mkS (z7 47 s).1)) [] (λw _=>y5 _ w Om) (z1 (v:= .string (mkS (z7 47 s).2.1)) [] (λw _=>y5 _ w Om) (bT [] (YI 3) (.string (mkS (z7 47 s).1)) (.string (mkS (z7 47 s).2.1)) λw hO=>three hno (by rw [h3,h4,h5];rfl) hO))
    ·exact bT [] (YI 0) (.string ⟨#[]⟩) (.string ⟨#[]⟩) λw hO=>zero hno (by rw [h3,h4,h5];rfl) hO
   ·exact bT [] (YI 0) (.string ⟨#[]⟩) (.string ⟨#[]⟩) λw hO=>zero hno (by rw [h3,h4];rfl) hO
  ·exact bT [] (YI 0) (.string ⟨#[]⟩) (.string ⟨#[]⟩) λw hO=>zero hno (by rw [h3];rfl) hO
 ·have hcp:∀ w,YC 161 #[.string (mkS s),.string ⟨#[63]⟩] w (YR (.tuple #[.string (mkS s),.bool false]) w):=λw=>(iCut_any s w).mono λe w' ⟨e1,e2⟩=>⟨by rw [e1,if_neg hq,decide_eq_false hq],e2⟩
  have hno:¬ (s.head?=some 63/\wdL (s.drop 1)=true):=λq=>hq q.1
  refine z1 (v:= .tuple #[.string (mkS s),.bool false]) [] (λw _=>hcp w) (z1 (v:= .tuple #[.string (mkS (z7 47 s).1),.string (mkS (z7 47 s).2.1),.bool (z7 47 s).2.2]) [] (λw _=>tU s 47 w (by omega)) (x_bb 33 [] (z7 47 s).2.2 (λh3=> ?_) (λh3=> ?_)))
  ·refine z1 (v:= .bool (nmL (z7 47 s).1)) [] (λw _=>dG _ w (by omega)) (x_bb 37 [] (nmL (z7 47 s).1) (λh4=> ?_) (λh4=> ?_))
   ·refine z1 (v:= .bool (wdL (z7 47 s).2.1)) [] (λw _=>j8 _ w (by omega)) (x_bb 40 [] (wdL (z7 47 s).2.1) (λh5=> ?_) (λh5=> ?_))
    ·exact z1 (v:= .string (mkS (z7 47 s).1)) [] (λw _=>y5 _ w Om) (z1 (v:= .string (mkS (z7 47 s).2.1)) [] (λw _=>y5 _ w Om) (bT [] (YI 3) (.string (mkS (z7 47 s).1)) (.string (mkS (z7 47 s).2.1)) λw hO=>three hno (by rw [h3,h4,h5];rfl) hO))
    ·exact bT [] (YI 0) (.string ⟨#[]⟩) (.string ⟨#[]⟩) λw hO=>zero hno (by rw [h3,h4,h5];rfl) hO
   ·exact bT [] (YI 0) (.string ⟨#[]⟩) (.string ⟨#[]⟩) λw hO=>zero hno (by rw [h3,h4];rfl) hO
  ·exact bT [] (YI 0) (.string ⟨#[]⟩) (.string ⟨#[]⟩) λw hO=>zero hno (by rw [h3];rfl) hO
end
section
set_option linter.unnecessarySimpa false
structure At (W:World)(A:Option Addr)(xs:List Fv)(B:Option Addr)(asked:List (List UInt8))(w:World):Prop where
 hv:FtIn w w.heap.size A xs
 hu:Reads zW w w.heap.size B asked
 hb:Below W.heap.size W w
end
section
set_option linter.unnecessarySimpa false
theorem tless_or (a b:List UInt8):(Op.bytesLess a b||decide (a=b))= !Op.bytesLess b a:=by
 cases h:Op.bytesLess b a with
 |true=>rw [lt_asy h,decide_eq_false (λe=>by rw [e,lt_irr] at h;cases h)];rfl
 |false=>
  by_cases e:a=b
  ·rw [decide_eq_true e];simp
  ·rw [lt_tri b a h (λq=>e q.symm)];rfl
theorem run_strleq {P:Program}{ρ:Operand->Value}{o:Oper}{t t':TypeId}{x y:Operand}{a b:List UInt8}(ho:o.op= .binOp .leq t x y t')(hx:ρ x= .string (mkS a))(hy:ρ y= .string (mkS b))(w:World):(execOp ρ o).run P w= .ok (.value (.bool (!Op.bytesLess b a))) w:=by
 have e:binOp .leq t (.string (mkS a)) (.string (mkS b))=pure (.bool (!Op.bytesLess b a)):=by
  have:binOp .leq t (.string (mkS a)) (.string (mkS b))=pure (.bool (Op.bytesLess (mkS a).toList (mkS b).toList||(mkS a).toList==(mkS b).toList)):=by simp [binOp,Op.stringOp]
  rw [this,wA,Lib.toList_data,Lib.toList_data,mk_data,mk_data,tless_or]
 unfold execOp
 simp only [ho,hx,hy,Sem.run_bind,nF,Result.andThen_ok,e,Sem.run_pure]
section
variable {M:List Nat}{P:Program}{n:Nat}{W:World}{Q:Exit->Act->World->Prop}{c:Xc}
def leqOp (o:Oper):Bool:=match o.op with
 | .binOp .leq _ _ _ _=>true
 |_=>false
def leqX (o:Oper)(i:Nat):Operand:=match o.op with
 | .binOp _ _ x y _=>if i=0 then x else y
 |_=> .tmp 0
theorem x_sle (d:Nat)(h:List Nat)(s u:List UInt8)(hg:zA M P n W Q ((xgo P n (d+50000) h c).put (.bool (!Op.bytesLess u s))))
  (hkt:(xgl P n (d+50000) h c,xW n (xgo P n (d+50000) h c),leqOp (xO (xgo P n (d+50000) h c)),ev n (xgo P n (d+50000) h c).f (leqX (xO (xgo P n (d+50000) h c)) 0),ev n (xgo P n (d+50000) h c).f (leqX (xO (xgo P n (d+50000) h c)) 1))=(xgr P n (d+50000) h c,true,true,.string (mkS s),.string (mkS u)):=by kernel_rfl):zA M P n W Q c:=by
 simp only [Prod.mk.injEq] at hkt
 obtain ⟨hk,e1,e2,e3,e4⟩:=hkt
 refine zJ h c hk (yZ e1 (λw=> ?_) hg)
 generalize xO (xgo P n (d+50000) h c)=o at*
 unfold leqOp at e2
 split at e2
 ·rename_i t x y t' ho
  have hx:leqX o 0=x:=by unfold leqX;rw [ho];rfl
  have hy:leqX o 1=y:=by unfold leqX;rw [ho];rfl
  rw [hx] at e3;rw [hy] at e4
  exact run_strleq ho e3 e4 w
 ·cases e2
end
theorem findfn_any (x:Fv)(n:List UInt8)(b:Nat)(W:World)(hc:W.heap[b]?=some (.cells #[.string (mkS n)] 9)):YC 265 #[fvV x,.pointer (some ⟨b,0,none⟩)] W (YR (.bool (decide (x.name=n))) W):=by
 have hb:b<W.heap.size:=(Array.getElem?_eq_some_iff.1 hc).1
 refine z8 Tryz.func265 (zV [] λb2=>zP 6 [0] 9 b 0 (.string (mkS n)) (λw hO=>yQ Kr ((hO.below.block b hb).trans hc)) (xN 7 [] x.name n (λh=> ?_) (λh=> ?_)))
 ·exact z6 [] Z4 λw hO=>⟨by rw [decide_eq_true h],hO.below⟩
 ·exact z6 [] Z5 λw hO=>⟨by rw [decide_eq_false h],hO.below⟩
theorem idx11_any (A:Option Addr)(cap:Nat)(xs:List Fv)(n:List UInt8)(b:Nat)(W:World)(hv:FtIn W W.heap.size A xs)(hc:W.heap[b]?=some (.cells #[.string (mkS n)] 9)):YC 264 #[.slice A xs.length cap,.func (.func 265) #[] #[.pointer (some ⟨b,0,none⟩)]] W (YR (YI (tT (x2 xs) n)) W):=by
 have hb:b<W.heap.size:=(Array.getElem?_eq_some_iff.1 hc).1
 have hn:=hv.n
 refine z8 Tryz.func264 (y4 (α:=Nat) (λi=>[(0,.slice A xs.length cap),(1,.func (.func 265) #[] #[Zp b 0]),(7,YI (xs.length:Int)),(8,YI (i:Int))]) (λ_=>[]) (λi m=>(i<=xs.length∧∀ y∈xs.take i,¬ y.name=n)/\m=xs.length-i) 0 xs.length [] ⟨⟨Nat.zero_le _,λy h=>by simp at h⟩,rfl⟩ ?_)
 rintro i mm g kk ⟨⟨hi,hno⟩,hmm⟩ nx hkk
 subst hkk
 refine zE 9 [] ((i:Int)<(xs.length:Int)) (λh9=> ?_) (λh9=> ?_)
 rotate_left
 ·refine z6 [] (YI (-1)) λw hO=>⟨?_,hO.below⟩
  have hall:=qR (p:=λy:Fv=>¬ y.name=n) (show xs.length<=i by omega) hno
  rw [tT,findI_none (l:=x2 xs) λf hf=>by obtain ⟨y,hy,rfl⟩:=List.mem_map.1 hf;exact hall y hy]
 have hj:i<xs.length:=by omega
 obtain ⟨eb,eo,hA,hel⟩:=hv.top.elem fL i hj
 have hgo:=kI (p:=λy:Fv=>¬ y.name=n) hj hno
 have hel0:∀ w,Below W.heap.size W w->(loadVar 82 ⟨eb,eo+i*2+0,none⟩).run Tryz.prog w= .ok (fvV xs[i]) w:=λw hw=>hel w hw _ 0 _ Kr
 have hcf:∀ w,Below W.heap.size W w->YC 265 #[fvV xs[i],.pointer (some ⟨b,0,none⟩)] w (YR (.bool (decide (xs[i].name=n))) w):=λw hw=>findfn_any xs[i] n b w ((hw.block b hb).trans hc)
 refine zU 14 [] hA xs.length cap i 2 hj (zP 15 [] 82 eb (eo+i*2+0) (fvV xs[i]) (λw hO=>hel0 w hO.below) (z1 (v:= .bool (decide (xs[i].name=n))) [] (λw hO=>hcf w hO.below) (gW 16 (xs[i].name=n) (λh16=> ?_) (λh16=> ?_))))
 ·refine z6 [] (YI (i:Int)) λw hO=>⟨?_,hO.below⟩
  rw [tT,findI_at (l:=x2 xs) (i:=i) (by rw [dH];exact hj) (by rw [ftOf_get hj rfl];exact h16) (λf hf=>by rw [←ftOf_take] at hf;obtain ⟨y,hy,rfl⟩:=List.mem_map.1 hf;exact hno y hy)]
 ·exact x_i 18 [] ((i+1:Nat):Int) (nx (i+1) (xs.length-(i+1)) [] Om ⟨⟨hj,hgo h16⟩,rfl⟩ Kr Kr)
theorem fFind_at (A:Option Addr)(cap:Nat)(xs:List Fv)(n:List UInt8)(W:World)(hv:FtIn W W.heap.size A xs):YC 221 #[.slice A xs.length cap,.string (mkS n)] W (YR (YI (tT (x2 xs) n)) W):=by
 refine z8 Tryz.func221 (zV [] λb=>x_val 6 [] (.func (.func 265) #[] #[Zp b 0]) (λw=>Kr) (z1 (v:=YI (tT (x2 xs) n)) [] (λw hO=>idx11_any A cap xs n b w (hv.on hO.below hO.size) ((hO.past 0 [⟨b, #[.string (mkS n)],9⟩]).get (i:=0) rfl)) (z6 [] _ λw hO=>⟨rfl,hO.below⟩)))
theorem fhas_any (A:Option Addr)(cap:Nat)(xs:List Fv)(n:List UInt8)(W:World)(hv:FtIn W W.heap.size A xs):YC 160 #[.slice A xs.length cap,.string (mkS n)] W (YR (.bool (isT (x2 xs) n)) W):=by
 refine z8 Tryz.func160 (xN 6 [] n dfl (λh=> ?_) (λh=> ?_))
 ·exact z6 [] Z4 λw hO=>⟨by rw [findI_isT,decide_eq_true h];rfl,hO.below⟩
 ·exact z1 (v:=YI (tT (x2 xs) n)) [] (λw hO=>fFind_at A cap xs n w (hv.on hO.below hO.size)) (z6 [] (.bool (decide (0<=tT (x2 xs) n))) λw hO=>⟨by rw [findI_isT,decide_eq_false h];rfl,hO.below⟩)
def kQ (l:List (List UInt8))(i:Nat):List UInt8:=if h:0<i/\i-1<l.length then l[i-1] else []
theorem pL {l:List (List UInt8)}{i:Nat}(hi:i<l.length):kQ l (i+1)=l[i]:=by
 unfold kQ;rw [dif_pos ⟨Nat.succ_pos _,by simpa using hi⟩];rfl
theorem less_nil {s:List UInt8}(h:s≠[]):Op.bytesLess [] s=true:=by
 cases s with
 |nil=>exact absurd rfl h
 |cons _ _=>rfl
theorem fmayOf_any (A:Option Addr)(cap:Nat)(xs:List Fv)(B:Option Addr)(capb:Nat)(of:List (List UInt8))(W:World)(hv:FtIn W W.heap.size A xs)(hu:Reads zW W W.heap.size B of)(hn:of.length<=5000)(ht:∀ s∈of,s.length<=1000000):YC 98 #[.slice B of.length capb,.slice A xs.length cap] W (YR (.bool (gV (x2 xs) of)) W):=by
 refine z8 Tryz.func98 (zE 13 [] ((6:Int)<(of.length:Int)) (λh13=> ?_) (λh13=> ?_))
 ·exact z6 [] Z5 λw hO=>⟨by rw [items_not (.inl Om)],hO.below⟩
 refine y4 (α:=Nat) (λi=>[(0,.slice B of.length capb),(1,.slice A xs.length cap),(5,.string (mkS (kQ of i))),(14,.slice B of.length capb),(15,YI (of.length:Int)),(16,YI (i:Int))]) (λ_=>[]) (λi m=>(i<=of.length/\(∀ s∈of.take i,jW (x2 xs) s=true)∧∀ z (hz:z+1<of.length),z+1<i->Op.bytesLess (of[z]'Om) of[z+1]=true)/\m=of.length-i) 0 of.length [] ⟨⟨Nat.zero_le _,λy h=>by simp at h,λz hz h=>by omega⟩,rfl⟩ ?_
 rintro i mm g kk ⟨⟨hi,hok,hup⟩,hmm⟩ nx hkk
 subst hkk
 refine zE 17 [] ((i:Int)<(of.length:Int)) (λh17=> ?_) (λh17=> ?_)
 rotate_left
 ·exact z6 [] Z4 λw hO=>⟨by rw [items_yes Om (rise_iff.2 λz hz=>hup z hz Om) (qR Om hok)],hO.below⟩
 have hj:i<of.length:=by omega
 have hsm:of[i]∈of:=List.getElem_mem hj
 have hlast:i≠0->kQ of i=of[i-1]'Om:=λh=>by unfold kQ;rw [dif_pos ⟨by omega,by omega⟩]
 have hgo:=kI (p:=λs=>jW (x2 xs) s=true) hj hok
 have hl1:=pL hj
 obtain ⟨eb,eo,hA,hel⟩:=hu.elem zN i hj
 have hsh:=ht _ hsm
 have hel':=λw hO ty=>hel w hO ty 0 (.string (mkS of[i]))
 have hbig:=hup
 obtain ⟨s,hs⟩:∃ s,of[i]=s:=⟨_,rfl⟩
 simp only [hs] at hsh hsm hgo hl1 hel'
 have hno:jW (x2 xs) s=false->gV (x2 xs) of=false:=λh=>items_not (.inr (.inr ⟨s,hsm,h⟩))
 refine zU 18 [] hA of.length capb i 1 hj (zP 19 [] 9 eb (eo+i*1+0) (.string (mkS s)) (λw hO=>hel' w hO.below _ Kr) (z1 (v:= .tuple #[YI (zR s).1,.string (mkS (zR s).2.1),.string (mkS (zR s).2.2)]) [] (λw hO=>fItem_at s w hsh) (zE 27 [] ((zR s).1=0) (λh27=> ?_) (λh27=> ?_))))
 ·exact z6 [] Z5 λw hO=>⟨by rw [hno (by unfold jW;simp [h27])],hO.below⟩
 refine x_sle 31 [] s (kQ of i) (yG 31 (!Op.bytesLess (kQ of i) s) (λh31=> ?_) (λh31=> ?_))
 ·refine z6 [] Z5 λw hO=>⟨?_,hO.below⟩
  have h0:i≠0:=λh0=>by
   subst h0
   have:kQ of 0=[]:=by unfold kQ;rw [dif_neg Om]
   rw [this,less_nil (λe=>h27 (by rw [e];decide))] at h31;cases h31
  rw [hlast h0] at h31
  have:xY of=false:=by
   cases hr:xY of with
   |false=>rfl
   |true=>
    have q:=rise_iff.1 hr (i-1) Om
    have e2:of[i-1+1]'Om=s:=by rw [←hs];congr 1;omega
    rw [e2] at q
    rw [q] at h31;cases h31
  rw [items_not (.inr (.inl this))]
 have hup2:∀ z (hz:z+1<of.length),z+1<i+1->Op.bytesLess (of[z]'Om) of[z+1]=true:=λz hz hzi=>by
  rcases Nat.lt_succ_iff_lt_or_eq.1 hzi with q|q
  ·exact hup z hz q
  ·have h0:i≠0:=by omega
   rw [hlast h0] at h31
   have e1:of[i-1]'Om=of[z]'Om:=by congr 1;omega
   have e2:of[z+1]=s:=by rw [←hs];congr 1
   rw [←e1,e2];simpa using h31
 refine zE 35 [] ((zR s).1=1) (λh35=> ?_) (λh35=> ?_)
 ·have hc:∀ w,Below W.heap.size W w->YC 160 #[.slice A xs.length cap,.string (mkS (zR s).2.1)] w (YR (.bool (isT (x2 xs) (zR s).2.1)) w):=λw hb=>fhas_any A cap xs _ w (hv.on hb hb.size)
  refine z1 (v:= .bool (isT (x2 xs) (zR s).2.1)) [] (λw hO=>hc w hO.below) (yG 39 (isT (x2 xs) (zR s).2.1) (λh39=> ?_) (λh39=> ?_))
  ·exact x_i 44 [] ((i+1:Nat):Int) (vV 5 [] (.string (mkS s)) (.string (mkS (kQ of (i+1)))) (by rw [hl1]) (nx (i+1) (of.length-(i+1)) [] Om ⟨⟨hj,hgo (by unfold jW;simp [h35,h39]),hup2⟩,rfl⟩ Kr Kr))
  ·exact z6 [] Z5 λw hO=>⟨by rw [hno (by unfold jW;simp [h35,h39])],hO.below⟩
 ·exact x_i 44 [] ((i+1:Nat):Int) (vV 5 [] (.string (mkS s)) (.string (mkS (kQ of (i+1)))) (by rw [hl1]) (nx (i+1) (of.length-(i+1)) [] Om ⟨⟨hj,hgo (by unfold jW;simp [h27,h35]),hup2⟩,rfl⟩ Kr Kr))
end
section
set_option linter.unnecessarySimpa false
structure RecLib (W:World):Prop where
 lib:HasLib W
 keys:MkLib W
theorem RecLib.on {W w:World}(h:RecLib W)(hb:Below W.heap.size W w):RecLib w:=⟨h.lib.on hb,h.keys.on hb⟩
theorem qRange_any (s:List UInt8)(W:World)(hs:s.length<=1000000)(hK:RecLib W):YC 157 #[.string (mkS s)] W (YR (.bool (kT s)) W):=by
 have hp:∀ w,Below W.heap.size W w->YC 214 #[.string (mkS s)] w λe w'=>∃ v ob,e= .returned v/\(∃ A cap xs o1 o2,v= .tuple #[.agg #[.slice A xs.length cap],YI (bF s)]/\ob=o1++o2/\kR xs=(kW s).getD []/\RgA (.slice A xs.length cap) xs o1 o2)/\Own [] w w' ob:=λw hb=>by
  refine (gParse_any s w hs (hK.lib.on hb)).mono λe w' ⟨v',ob',k1,⟨xs,u,o1,o2,k3,k4,k5,k6⟩,k7⟩=> ?_
  obtain ⟨A,cap,rfl⟩:∃ A cap,u= .slice A xs.length cap:=by
   rcases k6.top.2 with ⟨h1,h2,_⟩|⟨g,cap,_,h1,_⟩
   ·exact ⟨none,0,by rw [h1,h2]⟩
   ·exact ⟨_,cap,h1⟩
  exact ⟨_,ob',k1,⟨A,cap,xs,o1,o2,by rw [k3],k4,k5,k6⟩,k7⟩
 refine z8 Tryz.func157 (yV (R:=λv ob=>∃ A cap xs o1 o2,v= .tuple #[.agg #[.slice A xs.length cap],YI (bF s)]/\ob=o1++o2/\kR xs=(kW s).getD []/\RgA (.slice A xs.length cap) xs o1 o2) [] (λw hO=>hp w hO.below) ?_)
 rintro v ob ⟨A,cap,xs,o1,o2,rfl,rfl,hx,hR⟩
 refine zD [] λb=>zE 11 [0] (bF s=0) (λh11=> ?_) (λh11=> ?_)
 rotate_left
 ·exact z6 [] Z5 λw hO=>⟨by unfold kT;rw [decide_eq_false h11];rfl,hO.below⟩
 have hf:=fine_get h11
 rw [←hx] at hf
 have hq:∀ w,Own [] W w (o1++o2)->YC 215 #[.agg #[.slice A xs.length cap]] w (YR (.string (mkS (f9 (kR xs)))) w):=λw hO=>gPrint_any A cap xs w (hR.inn rfl hO (λx hx=>List.mem_append_left _ hx) (λx hx=>List.mem_append_right _ hx) hf) (hK.lib.on hO.below)
 refine z1 (v:= .string (mkS (f9 (kR xs)))) [0] (λw hO=>hq w (hO.past 1 _)) (xN 16 [] (f9 (kR xs)) s (λh=> ?_) (λh=> ?_))
 ·exact z6 [] Z4 λw hO=>⟨by unfold kT;rw [decide_eq_true h11,←hx,decide_eq_true h];rfl,hO.below⟩
 ·exact z6 [] Z5 λw hO=>⟨by unfold kT;rw [decide_eq_true h11,←hx,decide_eq_false h];rfl,hO.below⟩
theorem nodL_cases (s:List UInt8):wE s=[]∨∃ t:Tr,t.ok=true/\t.fit=true/\wE s=t.enc 0:=by
 unfold wE
 split
 ·exact .inl rfl
 ·split
  ·exact .inl rfl
  ·cases h:jK s with
   |none=>exact .inl rfl
   |some t=>have:=readM_ok h;exact .inr ⟨t,this.1,this.2,rfl⟩
theorem nodL_fine (s:List UInt8):(wE s).length<=1000∧∀ n∈wE s,n.text.length<=1000000:=by
 rcases nodL_cases s with e|⟨t,ho,hf,e⟩
 ·rw [e];simp
 ·rw [e,Tr.enc_len]
  have h15:t.sz<=15:=by unfold Tr.fit at hf;simp at hf;exact hf.1
  exact ⟨by omega,λn hn=>by have:=wN t 0 ho n hn;omega⟩
theorem qMark_any (s:List UInt8)(W:World)(hs:s.length<=1000000)(hK:RecLib W):YC 96 #[.string (mkS s)] W (YR (.bool (yY s)) W):=by
 have hp:∀ w,Below W.heap.size W w->YC 158 #[.string (mkS s)] w λe w'=>∃ v ob,e= .returned v/\(∃ A cap,v= .tuple #[.agg #[.slice A (wE s).length cap],YI (errM s)]/\SlN (.slice A (wE s).length cap) (wE s) ob)/\Own [] w w' ob:=λw hb=>by
  refine (m10Parse_any s w hs (hK.keys.on hb)).mono λe w' ⟨v',ob',k1,k2,k3⟩=> ?_
  obtain ⟨A,cap,rfl⟩:∃ A cap,v'= .slice A (wE s).length cap:=by
   rcases k2.2 with ⟨h1,h2,_⟩|⟨g,cap,_,h1,_⟩
   ·exact ⟨none,0,by rw [h1,h2]⟩
   ·exact ⟨_,cap,h1⟩
  exact ⟨_,ob',k1,⟨A,cap,rfl,k2⟩,k3⟩
 have hfi:=nodL_fine s
 refine z8 Tryz.func96 (yV (R:=λv ob=>∃ A cap,v= .tuple #[.agg #[.slice A (wE s).length cap],YI (errM s)]/\SlN (.slice A (wE s).length cap) (wE s) ob) [] (λw hO=>hp w hO.below) ?_)
 rintro v ob ⟨A,cap,rfl,hR⟩
 refine zD [] λb=>zE 11 [0] (errM s=0) (λh11=> ?_) (λh11=> ?_)
 rotate_left
 ·exact z6 [] Z5 λw hO=>⟨by unfold yY;rw [decide_eq_false h11];rfl,hO.below⟩
 have hq:∀ w,Own [] W w ob->YC 159 #[.agg #[.slice A (wE s).length cap]] w (YR (.string (mkS (qU (wE s)))) w):=λw hO=>tI A cap (wE s) w (Sl.reads hR rfl hO λx hx=>hx) hfi.1 hfi.2 (hK.keys.on hO.below)
 refine z1 (v:= .string (mkS (qU (wE s)))) [0] (λw hO=>hq w (hO.past 1 _)) (xN 16 [] (qU (wE s)) s (λh=> ?_) (λh=> ?_))
 ·exact z6 [] Z4 λw hO=>⟨by unfold yY;rw [decide_eq_true h11,decide_eq_true h];rfl,hO.below⟩
 ·exact z6 [] Z5 λw hO=>⟨by unfold yY;rw [decide_eq_true h11,decide_eq_false h];rfl,hO.below⟩
def qD (own name rng:List UInt8):Int:=if nmL name=false then 4 else if name=own then 8 else if kT rng=false then 6 else 0
theorem qTarget_any (n r o:List UInt8)(W:World)(hn:n.length<=1000000)(hr:r.length<=1000000)(hK:RecLib W):YC 94 #[.string (mkS n),.string (mkS r),.string (mkS o)] W (YR (YI (qD o n r)) W):=by
 have c1:∀ w,YC 52 #[.string (mkS n)] w (YR (.bool (nmL n)) w):=λw=>dG n w hn
 have c2:∀ w,Below W.heap.size W w->YC 157 #[.string (mkS r)] w (YR (.bool (kT r)) w):=λw hb=>qRange_any r w hr (hK.on hb)
 refine z8 Tryz.func94 (z1 (v:= .bool (nmL n)) [] (λw hO=>c1 w) (yG 9 (nmL n) (λh1=> ?_) (λh1=> ?_)))
 rotate_left
 ·exact z6 [] (YI 4) λw hO=>⟨by rw [qD,if_pos h1],hO.below⟩
 refine xN 14 [] n o (λh2=> ?_) (λh2=> ?_)
 ·exact z6 [] (YI 8) λw hO=>⟨by rw [qD,if_neg (by simp [h1]),if_pos h2],hO.below⟩
 refine z1 (v:= .bool (kT r)) [] (λw hO=>c2 w hO.below) (yG 17 (kT r) (λh3=> ?_) (λh3=> ?_))
 ·exact z6 [] (YI 0) λw hO=>⟨by rw [qD,if_neg (by simp [h1]),if_neg h2,if_neg (by simp [h3])],hO.below⟩
 ·exact z6 [] (YI 6) λw hO=>⟨by rw [qD,if_neg (by simp [h1]),if_neg h2,if_pos h3],hO.below⟩
theorem barE_targ (own:List UInt8)(b:Bt):jZ own b=if qD own b.name b.rng≠0 then qD own b.name b.rng else if yY b.wh=false then 7 else 0:=by
 unfold jZ qD
 split
 ·simp
 ·split
  ·simp
  ·split<;>simp
theorem qBar_any (b:Bv)(own:List UInt8)(W:World)(hb:b.name.length<=1000000/\b.rng.length<=1000000/\b.wh.length<=1000000)(hK:RecLib W):YC 55 #[bvV b,.string (mkS own)] W (YR (YI (jZ own b.bt)) W):=by
 have hE:jZ own b.bt=if qD own b.name b.rng≠0 then qD own b.name b.rng else if yY b.wh=false then 7 else 0:=barE_targ own b.bt
 have c1:∀ w,Below W.heap.size W w->YC 94 #[.string (mkS b.name),.string (mkS b.rng),.string (mkS own)] w (YR (YI (qD own b.name b.rng)) w):=λw h=>qTarget_any b.name b.rng own w hb.1 hb.2.1 (hK.on h)
 have c2:∀ w,Below W.heap.size W w->YC 96 #[.string (mkS b.wh)] w (YR (.bool (yY b.wh)) w):=λw h=>qMark_any b.wh w hb.2.2 (hK.on h)
 refine z8 Tryz.func55 (zV [] λb1=>z1 (v:=YI (qD own b.name b.rng)) [0,0] (λw hO=>c1 w hO.below) (qT 13 [] (qD own b.name b.rng=0) (λh1=> ?_) (λh1=> ?_)))
 rotate_left
 ·exact z6 [] (YI (qD own b.name b.rng)) λw hO=>⟨by rw [hE,if_pos h1],hO.below⟩
 refine z1 (v:= .bool (yY b.wh)) [0] (λw hO=>c2 w hO.below) (yG 17 (yY b.wh) (λh2=> ?_) (λh2=> ?_))
 ·exact z6 [] (YI 0) λw hO=>⟨by rw [hE,if_neg (λq=>q h1),if_neg (by show ¬ yY b.wh=false;simp [h2])],hO.below⟩
 ·exact z6 [] (YI 7) λw hO=>⟨by rw [hE,if_neg (λq=>q h1),if_pos h2],hO.below⟩
def askB (l:List (List UInt8)):Bool:=l.all wdL && decide (l.length<=6) && xY l
theorem askB_not {l:List (List UInt8)}(h:(∃ s∈l,wdL s=false)\/6<l.length\/xY l=false):askB l=false:=by
 unfold askB
 rcases h with ⟨s,hs,h⟩|h|h
 ·rw [show l.all wdL=false from List.all_eq_false.2 ⟨s,hs,by simp [h]⟩];rfl
 ·rw [decide_eq_false Om];simp
 ·rw [h];simp
theorem qAsk_any (A:Option Addr)(cap:Nat)(l:List (List UInt8))(W:World)(hv:Reads zW W W.heap.size A l)(hn:l.length<=5000)(ht:∀ s∈l,s.length<=1000000):YC 95 #[.slice A l.length cap] W (YR (.bool (askB l)) W):=by
 refine z8 Tryz.func95 (zE 8 [] ((6:Int)<(l.length:Int)) (λh8=> ?_) (λh8=> ?_))
 ·exact z6 [] Z5 λw hO=>⟨by rw [askB_not (.inr (.inl Om))],hO.below⟩
 refine y4 (α:=Nat) (λi=>[(3,.string (mkS (kQ l i))),(9,.slice A l.length cap),(10,YI (l.length:Int)),(11,YI (i:Int))]) (λ_=>[]) (λi m=>(i<=l.length/\(∀ s∈l.take i,wdL s=true)∧∀ z (hz:z+1<l.length),z+1<i->Op.bytesLess (l[z]'Om) l[z+1]=true)/\m=l.length-i) 0 l.length [] ⟨⟨Nat.zero_le _,λy h=>by simp at h,λz hz h=>by omega⟩,rfl⟩ ?_
 rintro i mm g kk ⟨⟨hi,hok,hup⟩,hmm⟩ nx hkk
 subst hkk
 refine zE 12 [] ((i:Int)<(l.length:Int)) (λh12=> ?_) (λh12=> ?_)
 rotate_left
 ·refine z6 [] Z4 λw hO=>⟨?_,hO.below⟩
  have hall:=qR (p:=λs=>wdL s=true) (show l.length<=i by omega) hok
  have:askB l=true:=by
   unfold askB
   rw [List.all_eq_true.2 hall,decide_eq_true Om,rise_iff.2 λz hz=>hup z hz Om];rfl
  rw [this]
 have hj:i<l.length:=by omega
 have hsm:l[i]∈l:=List.getElem_mem hj
 have hlast:i≠0->kQ l i=l[i-1]'Om:=λh=>by unfold kQ;rw [dif_pos ⟨by omega,by omega⟩]
 have hgo:=kI (p:=λs=>wdL s=true) hj hok
 have hl1:=pL hj
 obtain ⟨eb,eo,hA,hel⟩:=hv.elem zN i hj
 have hsh:=ht _ hsm
 have hel':=λw hO ty=>hel w hO ty 0 (.string (mkS l[i]))
 obtain ⟨s,hs⟩:∃ s,l[i]=s:=⟨_,rfl⟩
 simp only [hs] at hsh hsm hgo hl1 hel'
 refine zU 13 [] hA l.length cap i 1 hj (zP 14 [] 9 eb (eo+i*1+0) (.string (mkS s)) (λw hO=>hel' w hO.below _ Kr) (z1 (v:= .bool (wdL s)) [] (λw hO=>j8 s w hsh) (yG 16 (wdL s) (λh16=> ?_) (λh16=> ?_))))
 rotate_left
 ·exact z6 [] Z5 λw hO=>⟨by rw [askB_not (.inl ⟨s,hsm,h16⟩)],hO.below⟩
 refine x_sle 21 [] s (kQ l i) (yG 21 (!Op.bytesLess (kQ l i) s) (λh21=> ?_) (λh21=> ?_))
 ·refine z6 [] Z5 λw hO=>⟨?_,hO.below⟩
  have h0:i≠0:=λh0=>by
   subst h0
   have:kQ l 0=[]:=by unfold kQ;rw [dif_neg Om]
   rw [this,less_nil (λe=>by rw [e] at h16;exact absurd h16 (by decide))] at h21;cases h21
  rw [hlast h0] at h21
  have:xY l=false:=by
   cases hr:xY l with
   |false=>rfl
   |true=>
    have q:=rise_iff.1 hr (i-1) Om
    have e2:l[i-1+1]'Om=s:=by rw [←hs];congr 1;omega
    rw [e2] at q
    rw [q] at h21;cases h21
  rw [askB_not (.inr (.inr this))]
 have hup2:∀ z (hz:z+1<l.length),z+1<i+1->Op.bytesLess (l[z]'Om) l[z+1]=true:=λz hz hzi=>by
  rcases Nat.lt_succ_iff_lt_or_eq.1 hzi with q|q
  ·exact hup z hz q
  ·have h0:i≠0:=by omega
   rw [hlast h0] at h21
   have e1:l[i-1]'Om=l[z]'Om:=by congr 1;omega
   have e2:l[z+1]=s:=by rw [←hs];congr 1
   rw [←e1,e2];simpa using h21
 refine vV 3 [] (.string (mkS s)) (.string (mkS (kQ l (i+1)))) (by rw [hl1]) (x_i 11 [] ((i+1:Nat):Int) (nx (i+1) (l.length-(i+1)) [] Om ⟨⟨hj,hgo h16,hup2⟩,rfl⟩ Kr Kr))
end
section
set_option linter.unnecessarySimpa false
def laV (l:La):Value:= .agg #[YI (l.kind:Int),.string (mkS l.word),YI (l.lo:Int),YI (l.hi:Int),YI (l.parts:Int),.bool l.opn,.bool l.more]
def laB (l:La)(b:Nat):Blk:=⟨b,(laV l).cells,156⟩
end
section
set_option linter.unnecessarySimpa false
structure NdL (A:Option Addr)(c:Nat)(xs:List Nv)(o1 oa og oi:List Blk):Prop where
 top:Sl 74 3 (.slice A xs.length c) xs.length (xs.flatMap nvC) o1
 split:(xs=[]/\oa=[]/\og=[])∨∃ ini n,xs=ini++[n]/\(∀ x∈ini,∃ o,WsO x.A x.cap x.any o∧∀ b∈o,b∈oi)/\Sl 77 4 (.slice n.A n.any.length n.cap) n.any.length (n.any.flatMap wvC) oa∧∀ u∈n.any,∃ o,SlT (.slice u.A u.fs.length u.cap) u.fs o∧∀ b∈o,b∈og
def rdC (x:Rv)(k:Nat):List Value:=rvC x++[YI (k:Int)]
def rdB (x:Rv)(k rb:Nat):Blk:=⟨rb,(rdC x k).toArray,92⟩
structure RdQ (x:Rv)(o1 oa og oi o4 o7 o8:List Blk):Prop where
 needs:NdL x.nA x.nc x.needs o1 oa og oi
 bars:Sl 80 3 (.slice x.bA x.bars.length x.bc) x.bars.length (x.bars.flatMap bvC) o4
 fts:FtO x.fA x.fc x.fts o7 o8
def rest7 (oa og oi o4 o7 o8:List Blk):List Blk:=oa++(og++(oi++(o4++(o7++o8))))
def RdR (rb k:Nat)(x:Rv)(ob:List Blk):Prop:=∃ o1 oa og oi o4 o7 o8,ob=rdB x k rb::(o1++rest7 oa og oi o4 o7 o8)/\RdQ x o1 oa og oi o4 o7 o8
structure Few (x:Rv):Prop where
 n:x.needs.length<=5000
 b:x.bars.length<=5000
 f:x.fts.length<=5000
 a:∀ n∈x.needs,n.any.length<=5000
structure AddB (rb kd:Nat)(x:Rv)(ps:List (List UInt8))(ob:List Blk)(W:World)(e:Ending)(w':World):Prop where
 ex:∃ x' ob',e= .returned (.bool (addA x.rt kd ps).2)/\x'.rt=(addA x.rt kd ps).1/\RdR rb kd x' ob'/\Own (ob.map Blk.b) W w' ob'
section
variable {M:List Nat}{P:Program}{n:Nat}{W:World}{Q:Exit->Act->World->Prop}{c:Xc}
end
end
section
set_option linter.unnecessarySimpa false
end
section
set_option linter.unnecessarySimpa false
def hd (x:Rv)(p2:List UInt8)(ps:List (List UInt8)):Rv:={x with name:=ps.getD 1 [],maj:=(parV p2).maj,min:=(parV p2).min,pat:=(parV p2).pat,pre:=(parV p2).pre,bld:=(parV p2).build}
end
section
set_option linter.unnecessarySimpa false
end
section
set_option linter.unnecessarySimpa false
def SuW (x:Wv):Prop:=x.name.length<=1000000/\x.rng.length<=1000000∧∀ s∈x.fs,s.length<=1000000
theorem needE_is (own:List UInt8)(x:Nv):gE own x.nt=if x.any=[] then 9 else if 3<x.any.length then 3 else if yN (λu:Wv=>qA own u.wt (decide (x.any.length=1))) x.any≠0 then yN (λu:Wv=>qA own u.wt (decide (x.any.length=1))) x.any
 else if yY x.wh=false then 7 else if x.opt≠[]/\wdL x.opt=false then 14 else 0:=by
 unfold gE
 simp only [Nv.nt,firstE_map,List.length_map,List.map_eq_nil_iff]
 rfl
end
section
set_option linter.unnecessarySimpa false
theorem wishE_targ (own:List UInt8)(u:Wt)(al:Bool):qA own u al=if qD own u.name u.rng≠0 then qD own u.name u.rng else if pZ u.fs al=false then 11 else 0:=by
 unfold qA qD
 split
 ·simp
 ·split
  ·simp
  ·split<;>simp
def needC (n:Nv)(b:Nat):Blk:=⟨b, #[.slice n.A n.any.length n.cap,.string (mkS n.wh),.string (mkS n.opt)],74⟩
theorem qNeed_any (own:List UInt8)(n:Nv)(W:World)(hv:Reads wvC W W.heap.size n.A n.any)(hf:∀ u∈n.any,Reads zW W W.heap.size u.A u.fs)(hn:n.any.length<=5000)(hnf:∀ u∈n.any,u.fs.length<=5000)(hs:n.wh.length<=1000000/\n.opt.length<=1000000)(hsu:∀ u∈n.any,SuW u)(hK:RecLib W):YC 54 #[nvV n,.string (mkS own)] W (YR (YI (gE own n.nt)) W):=by
 have hE:=needE_is own n
 refine z8 Tryz.func54 (zV [] λb2=>zE 11 [0] ((n.any.length:Int)=0) (λh11=> ?_) (λh11=> ?_))
 ·exact z6 [] (YI 9) λw hO=>⟨by rw [hE,if_pos (List.eq_nil_of_length_eq_zero Om)],hO.below⟩
 have h11':¬ n.any=[]:=λe=>h11 (by rw [e];rfl)
 rw [if_neg h11'] at hE
 refine zE 15 [0] ((n.any.length:Int)>3) (λh15=> ?_) (λh15=> ?_)
 ·exact z6 [] (YI 3) λw hO=>⟨by rw [hE,if_pos Om],hO.below⟩
 rw [if_neg (show ¬ 3<n.any.length by omega)] at hE
 refine y4 (α:=Nat) (λi=>[(1,.string (mkS own)),(2,Zp b2 0),(17,.slice n.A n.any.length n.cap),(18,YI (n.any.length:Int)),(19,YI (i:Int))]) (λ_=>[needC n b2]) (λi m=>(i<=n.any.length∧∀ u∈n.any.take i,qA own u.wt (decide (n.any.length=1))=0)/\m=n.any.length-i) 0 n.any.length [0] ⟨⟨Nat.zero_le _,λy h=>by simp at h⟩,rfl⟩ ?_
 rintro i mm g kk ⟨⟨hi,hno⟩,hmm⟩ nx hkk
 subst hkk
 refine zE 20 [] ((i:Int)<(n.any.length:Int)) (λh20=> ?_) (λh20=> ?_)
 ·have hj:i<n.any.length:=by omega
  obtain ⟨eb,eo,hA,hel⟩:=hv.elem v8 i hj
  have hgo:=kI (p:=λu:Wv=>qA own u.wt (decide (n.any.length=1))=0) hj hno
  have hat:=firstE_at (f:=λu:Wv=>qA own u.wt (decide (n.any.length=1))) hj hno
  have hsm:n.any[i]∈n.any:=List.getElem_mem hj
  have hel0:∀ w,Below W.heap.size W w->(loadVar 77 ⟨eb,eo+i*4+0,none⟩).run Tryz.prog w= .ok (wvV n.any[i]) w:=λw hw=>hel w hw _ 0 _ Kr
  have hru:=hf _ hsm;have hnu:=hnf _ hsm;have hlu:=hsu _ hsm
  generalize n.any[i]=u at hel0 hgo hat hru hnu hlu
  have hW:qA own u.wt (decide (n.any.length=1))=if qD own u.name u.rng≠0 then qD own u.name u.rng else if (askB u.fs && (decide (n.any.length=1)||decide (u.fs=[])))=false then 11 else 0:=wishE_targ own u.wt _
  have c1:∀ w,Below W.heap.size W w->YC 94 #[.string (mkS u.name),.string (mkS u.rng),.string (mkS own)] w (YR (YI (qD own u.name u.rng)) w):=λw h=>qTarget_any u.name u.rng own w hlu.1 hlu.2.1 (hK.on h)
  have c2:∀ w,Below W.heap.size W w->YC 95 #[.slice u.A u.fs.length u.cap] w (YR (.bool (askB u.fs)) w):=λw hb=>qAsk_any u.A u.cap u.fs w (hru.on hb hb.size) hnu hlu.2.2
  refine zU 21 [] hA n.any.length n.cap i 4 hj (zP 22 [] 77 eb (eo+i*4+0) (wvV u) (λw hO=>hel0 w hO.below) (zD [] λb6=>z1 (v:=YI (qD own u.name u.rng)) [0,0,0] (λw hO=>c1 w hO.below) (qT 30 [] (qD own u.name u.rng=0) (λh1=> ?_) (λh1=> ?_))))
  rotate_left
  ·rw [if_pos h1] at hW
   refine z6 [] (YI (qD own u.name u.rng)) λw hO=>⟨?_,hO.below⟩
   rw [hE,hat (by rw [hW];exact h1),hW,if_pos h1]
  rw [if_neg (λq=>q h1)] at hW
  have fin:askB u.fs=false->qA own u.wt (decide (n.any.length=1))=11:=λh=>by rw [hW,h];rfl
  have out:qA own u.wt (decide (n.any.length=1))=11->gE own n.nt=11:=λh=>by
   rw [hE,hat (by rw [h];decide),h];rfl
  refine zE 35 [0] ((u.fs.length:Int)>0) (λh35=> ?_) (λh35=> ?_)
  ·refine zE 40 [1] ((n.any.length:Int)>1) (λh40=> ?_) (λh40=> ?_)
   ·refine z6 [] (YI 11) λw hO=>⟨?_,hO.below⟩
    rw [out (by rw [hW,decide_eq_false (show ¬ n.any.length=1 by omega),decide_eq_false (λe=>by rw [e] at h35;simp at h35)];simp)]
   ·refine z1 (v:= .bool (askB u.fs)) [0] (λw hO=>c2 w hO.below) (yG 45 (askB u.fs) (λh45=> ?_) (λh45=> ?_))
    ·have hz:qA own u.wt (decide (n.any.length=1))=0:=by rw [hW,h45,decide_eq_true (show n.any.length=1 by omega)];rfl
     exact x_i 19 [] ((i+1:Nat):Int) (zH [] [needC n b2] (λw hO=>hO.past 1 _) (nx (i+1) (n.any.length-(i+1)) [] Om ⟨⟨hj,hgo hz⟩,rfl⟩ Kr Kr))
    ·exact z6 [] (YI 11) λw hO=>⟨by rw [out (fin h45)],hO.below⟩
  ·refine z1 (v:= .bool (askB u.fs)) [0] (λw hO=>c2 w hO.below) (yG 45 (askB u.fs) (λh45=> ?_) (λh45=> ?_))
   ·have hz:qA own u.wt (decide (n.any.length=1))=0:=by
     rw [hW,h45,decide_eq_true (show u.fs=[] from List.eq_nil_of_length_eq_zero Om)];simp
    exact x_i 19 [] ((i+1:Nat):Int) (zH [] [needC n b2] (λw hO=>hO.past 1 _) (nx (i+1) (n.any.length-(i+1)) [] Om ⟨⟨hj,hgo hz⟩,rfl⟩ Kr Kr))
   ·exact z6 [] (YI 11) λw hO=>⟨by rw [out (fin h45)],hO.below⟩
 have hall:=jS (qR (p:=λu:Wv=>qA own u.wt (decide (n.any.length=1))=0) (show n.any.length<=i by omega) hno)
 rw [hall,if_neg (by simp)] at hE
 have h2:∀ w,Below W.heap.size W w->YC 96 #[.string (mkS n.wh)] w (YR (.bool (yY n.wh)) w):=λw hb=>qMark_any n.wh w hs.1 (hK.on hb)
 have h3:∀ w,Below W.heap.size W w->YC 97 #[.string (mkS n.opt)] w (YR (.bool (wdL n.opt)) w):=λw hb=>j8 n.opt w hs.2
 refine z1 (v:= .bool (yY n.wh)) [0] (λw hO=>h2 w hO.below) (yG 51 (yY n.wh) (λe3=> ?_) (λe3=> ?_))
 rotate_left
 ·exact z6 [] (YI 7) λw hO=>⟨by rw [hE,if_pos e3],hO.below⟩
 rw [if_neg (by simp [e3])] at hE
 refine g8 55 [0] n.opt [] (λe4=> ?_) (λe4=> ?_)
 ·exact z6 [] (YI 0) λw hO=>⟨by rw [hE,if_neg (λh=>h.1 e4)],hO.below⟩
 refine z1 (v:= .bool (wdL n.opt)) [0] (λw hO=>h3 w hO.below) (yG 59 (wdL n.opt) (λe5=> ?_) (λe5=> ?_))
 ·exact z6 [] (YI 0) λw hO=>⟨by rw [hE,if_neg (λh=>by rw [e5] at h;simp at h)],hO.below⟩
 ·exact z6 [] (YI 14) λw hO=>⟨by rw [hE,if_pos ⟨e4,e5⟩],hO.below⟩
def pulB (s:List UInt8)(n:Nv):Bool:=pulN s n.nt
theorem qOpt_any (n:Nv)(s:List UInt8)(b:Nat)(W:World)(hc:W.heap[b]?=some (.cells #[.string (mkS s)] 9)):YC 100 #[nvV n,.pointer (some ⟨b,0,none⟩)] W (YR (.bool (decide (n.opt=s))) W):=by
 have hb:b<W.heap.size:=(Array.getElem?_eq_some_iff.1 hc).1
 refine z8 Tryz.func100 (zV [] λb2=>zP 6 [0] 9 b 0 (.string (mkS s)) (λw hO=>yQ Kr ((hO.below.block b hb).trans hc)) (xN 7 [] n.opt s (λh=> ?_) (λh=> ?_)))
 ·exact z6 [] Z4 λw hO=>⟨by rw [decide_eq_true h],hO.below⟩
 ·exact z6 [] Z5 λw hO=>⟨by rw [decide_eq_false h],hO.below⟩
theorem qPul_any (n:Nv)(s:List UInt8)(b:Nat)(W:World)(hv:Reads wvC W W.heap.size n.A n.any)(hc:W.heap[b]?=some (.cells #[.string (mkS s)] 9)):YC 102 #[nvV n,.pointer (some ⟨b,0,none⟩)] W (YR (.bool (pulB s n)) W):=by
 have hb:b<W.heap.size:=(Array.getElem?_eq_some_iff.1 hc).1
 refine z8 Tryz.func102 (zV [] λb2=>zE 7 [0] ((n.any.length:Int)=1) (λh7=> ?_) (λh7=> ?_))
 rotate_left
 ·refine z6 [] Z5 λw hO=>⟨?_,hO.below⟩
  have:pulB s n=false:=by
   unfold pulB pulN
   split
   ·rename_i x h
    have:=congrArg List.length h
    simp only [Nv.nt,List.length_map,List.length_cons,List.length_nil] at this
    omega
   ·rfl
  rw [this]
 have h1:n.any.length=1:=by omega
 obtain ⟨eb,eo,hA,hel⟩:=hv.elem v8 0 Om
 have hel0:∀ w,Below W.heap.size W w->(loadVar 9 ⟨eb,eo+0*4+0,none⟩).run Tryz.prog w= .ok (.string (mkS (n.any[0]'Om).name)) w:=λw hw=>hel w hw _ 0 _ Kr
 have hp:pulB s n=decide ((n.any[0]'Om).name=s):=by
  obtain ⟨x,hx⟩:=List.length_eq_one_iff.1 h1
  have e:n.any[0]'Om=x:=by simp only [hx,List.getElem_cons_zero]
  rw [e]
  unfold pulB pulN
  rw [show n.nt.any=[x.wt] from by show n.any.map Wv.wt=_;rw [hx];rfl];rfl
 generalize n.any[0]=u at hel0 hp
 refine zU 11 [0] hA n.any.length n.cap 0 4 (by omega) (zP 13 [] 9 eb (eo+0*4+0) (.string (mkS u.name)) (λw hO=>hel0 w hO.below) (zP 14 [] 9 b 0 (.string (mkS s)) (λw hO=>yQ Kr ((hO.below.block b hb).trans hc)) (xN 15 [] u.name s (λh=> ?_) (λh=> ?_))))
 ·exact z6 [] Z4 λw hO=>⟨by rw [hp,decide_eq_true h],hO.below⟩
 ·exact z6 [] Z5 λw hO=>⟨by rw [hp,decide_eq_false h],hO.below⟩
theorem qHas1_any (p:Nv->Bool)(A:Option Addr)(cap:Nat)(l:List Nv)(b:Nat)(W:World)(hv:Reads nvC W W.heap.size A l)(hn:l.length<=5000)(hp:∀ n∈l,∀ w,Below W.heap.size W w->YC 100 #[nvV n,.pointer (some ⟨b,0,none⟩)] w (YR (.bool (p n)) w)):YC 101 #[.slice A l.length cap,.func (.func 100) #[] #[.pointer (some ⟨b,0,none⟩)]] W (YR (.bool (l.any p)) W):=by
 have key:∀ w,Below W.heap.size W w->YC 162 #[.slice A l.length cap,.func (.func 100) #[] #[.pointer (some ⟨b,0,none⟩)]] w λe w'=>∃ v,e= .returned v/\(∃ z:Int,v=YI z/\decide (0<=z)=l.any p)/\Below w.heap.size w w':=λw0 hb0=>by
  have hv0:=hv.on hb0 hb0.size
  have hp0:∀ n∈l,∀ w,Below w0.heap.size w0 w->YC 100 #[nvV n,.pointer (some ⟨b,0,none⟩)] w (YR (.bool (p n)) w):=λn hn w hb=>hp n hn w (hb0.trans (hb.mono hb0.size))
  clear hp hv hb0
  refine z8 Tryz.func162 (y4 (α:=Nat) (λi=>[(0,.slice A l.length cap),(1,.func (.func 100) #[] #[Zp b 0]),(7,YI (l.length:Int)),(8,YI (i:Int))]) (λ_=>[]) (λi m=>(i<=l.length∧∀ y∈l.take i,p y=false)/\m=l.length-i) 0 l.length [] ⟨⟨Nat.zero_le _,λy h=>by simp at h⟩,rfl⟩ ?_)
  rintro i mm g kk ⟨⟨hi,hno⟩,hmm⟩ nx hkk
  subst hkk
  refine zE 9 [] ((i:Int)<(l.length:Int)) (λh9=> ?_) (λh9=> ?_)
  rotate_left
  ·refine z6 [] (YI (-1)) λw hO=>⟨_,rfl,⟨-1,rfl, ?_⟩,hO.below⟩
   have hall:=qR (p:=λy:Nv=>p y=false) (show l.length<=i by omega) hno
   rw [show l.any p=false from List.any_eq_false.2 λy hy=>by rw [hall y hy];decide];rfl
  have hj:i<l.length:=by omega
  obtain ⟨eb,eo,hA,hel⟩:=hv0.elem wD i hj
  have hgo:=kI (p:=λy:Nv=>p y=false) hj hno
  have hsm:l[i]∈l:=List.getElem_mem hj
  have hel0:∀ w,Below w0.heap.size w0 w->(loadVar 74 ⟨eb,eo+i*3+0,none⟩).run Tryz.prog w= .ok (nvV l[i]) w:=λw hw=>hel w hw _ 0 _ Kr
  have hcf:=hp0 _ hsm
  generalize l[i]=n at hel0 hgo hcf hsm
  refine zU 14 [] hA l.length cap i 3 hj (zP 15 [] 74 eb (eo+i*3+0) (nvV n) (λw hO=>hel0 w hO.below) (z1 (v:= .bool (p n)) [] (λw hO=>hcf w hO.below) (yG 16 (p n) (λh16=> ?_) (λh16=> ?_))))
  ·refine z6 [] (YI (i:Int)) λw hO=>⟨_,rfl,⟨(i:Int),rfl, ?_⟩,hO.below⟩
   rw [show l.any p=true from List.any_eq_true.2 ⟨n,hsm,h16⟩,decide_eq_true Om]
  ·exact x_i 18 [] ((i+1:Nat):Int) (nx (i+1) (l.length-(i+1)) [] Om ⟨⟨hj,hgo h16⟩,rfl⟩ Kr Kr)
 refine z8 Tryz.func101 (bH (R:=λv=>∃ z:Int,v=YI z/\decide (0<=z)=l.any p) [] (λw hO=>key w hO.below) ?_)
 rintro v ⟨z,rfl,hz⟩
 exact z6 [] (.bool (decide (0<=z))) λw hO=>⟨by rw [hz],hO.below⟩
theorem qHas2_any (p:Nv->Bool)(A:Option Addr)(cap:Nat)(l:List Nv)(b:Nat)(W:World)(hv:Reads nvC W W.heap.size A l)(hn:l.length<=5000)(hp:∀ n∈l,∀ w,Below W.heap.size W w->YC 102 #[nvV n,.pointer (some ⟨b,0,none⟩)] w (YR (.bool (p n)) w)):YC 101 #[.slice A l.length cap,.func (.func 102) #[] #[.pointer (some ⟨b,0,none⟩)]] W (YR (.bool (l.any p)) W):=by
 have key:∀ w,Below W.heap.size W w->YC 162 #[.slice A l.length cap,.func (.func 102) #[] #[.pointer (some ⟨b,0,none⟩)]] w λe w'=>∃ v,e= .returned v/\(∃ z:Int,v=YI z/\decide (0<=z)=l.any p)/\Below w.heap.size w w':=λw0 hb0=>by
  have hv0:=hv.on hb0 hb0.size
  have hp0:∀ n∈l,∀ w,Below w0.heap.size w0 w->YC 102 #[nvV n,.pointer (some ⟨b,0,none⟩)] w (YR (.bool (p n)) w):=λn hn w hb=>hp n hn w (hb0.trans (hb.mono hb0.size))
  clear hp hv hb0
  refine z8 Tryz.func162 (y4 (α:=Nat) (λi=>[(0,.slice A l.length cap),(1,.func (.func 102) #[] #[Zp b 0]),(7,YI (l.length:Int)),(8,YI (i:Int))]) (λ_=>[]) (λi m=>(i<=l.length∧∀ y∈l.take i,p y=false)/\m=l.length-i) 0 l.length [] ⟨⟨Nat.zero_le _,λy h=>by simp at h⟩,rfl⟩ ?_)
  rintro i mm g kk ⟨⟨hi,hno⟩,hmm⟩ nx hkk
  subst hkk
  refine zE 9 [] ((i:Int)<(l.length:Int)) (λh9=> ?_) (λh9=> ?_)
  rotate_left
  ·refine z6 [] (YI (-1)) λw hO=>⟨_,rfl,⟨-1,rfl, ?_⟩,hO.below⟩
   have hall:=qR (p:=λy:Nv=>p y=false) (show l.length<=i by omega) hno
   rw [show l.any p=false from List.any_eq_false.2 λy hy=>by rw [hall y hy];decide];rfl
  have hj:i<l.length:=by omega
  obtain ⟨eb,eo,hA,hel⟩:=hv0.elem wD i hj
  have hgo:=kI (p:=λy:Nv=>p y=false) hj hno
  have hsm:l[i]∈l:=List.getElem_mem hj
  have hel0:∀ w,Below w0.heap.size w0 w->(loadVar 74 ⟨eb,eo+i*3+0,none⟩).run Tryz.prog w= .ok (nvV l[i]) w:=λw hw=>hel w hw _ 0 _ Kr
  have hcf:=hp0 _ hsm
  generalize l[i]=n at hel0 hgo hcf hsm
  refine zU 14 [] hA l.length cap i 3 hj (zP 15 [] 74 eb (eo+i*3+0) (nvV n) (λw hO=>hel0 w hO.below) (z1 (v:= .bool (p n)) [] (λw hO=>hcf w hO.below) (yG 16 (p n) (λh16=> ?_) (λh16=> ?_))))
  ·refine z6 [] (YI (i:Int)) λw hO=>⟨_,rfl,⟨(i:Int),rfl, ?_⟩,hO.below⟩
   rw [show l.any p=true from List.any_eq_true.2 ⟨n,hsm,h16⟩,decide_eq_true Om]
  ·exact x_i 18 [] ((i+1:Nat):Int) (nx (i+1) (l.length-(i+1)) [] Om ⟨⟨hj,hgo h16⟩,rfl⟩ Kr Kr)
 refine z8 Tryz.func101 (bH (R:=λv=>∃ z:Int,v=YI z/\decide (0<=z)=l.any p) [] (λw hO=>key w hO.below) ?_)
 rintro v ⟨z,rfl,hz⟩
 exact z6 [] (.bool (decide (0<=z))) λw hO=>⟨by rw [hz],hO.below⟩
theorem qItems_any (A:Option Addr)(cap:Nat)(of:List (List UInt8))(B:Option Addr)(capb:Nat)(l:List Nv)(W:World)(hu:Reads zW W W.heap.size A of)(ho:of.length<=5000)(ht:∀ s∈of,s.length<=1000000)(hv:Reads nvC W W.heap.size B l)(hn:l.length<=5000)(hva:∀ n∈l,Reads wvC W W.heap.size n.A n.any):YC 57 #[.slice A of.length cap,.slice B l.length capb] W (YR (YI (yN (kJ (l.map Nv.nt)) of)) W):=by
 refine z8 Tryz.func57 (y4 (α:=Nat) (λi=>[(1,.slice B l.length capb),(12,.slice A of.length cap),(13,YI (of.length:Int)),(14,YI (i:Int))]) (λ_=>[]) (λi m=>(i<=of.length∧∀ s∈of.take i,kJ (l.map Nv.nt) s=0)/\m=of.length-i) 0 of.length [] ⟨⟨Nat.zero_le _,λy h=>by simp at h⟩,rfl⟩ ?_)
 rintro i mm g kk ⟨⟨hi,hno⟩,hmm⟩ nx hkk
 subst hkk
 refine zE 15 [] ((i:Int)<(of.length:Int)) (λh15=> ?_) (λh15=> ?_)
 rotate_left
 ·refine z6 [] (YI 0) λw hO=>⟨?_,hO.below⟩
  rw [jS (qR (p:=λs=>kJ (l.map Nv.nt) s=0) (show of.length<=i by omega) hno)]
 have hj:i<of.length:=by omega
 obtain ⟨eb,eo,hA,hel⟩:=hu.elem zN i hj
 have hgo:=kI (p:=λs=>kJ (l.map Nv.nt) s=0) hj hno
 have hat:=firstE_at (f:=kJ (l.map Nv.nt)) hj hno
 have hsh:=ht _ (List.getElem_mem hj)
 have hel0:∀ w,Below W.heap.size W w->(loadVar 9 ⟨eb,eo+i*1+0,none⟩).run Tryz.prog w= .ok (.string (mkS of[i])) w:=λw hw=>hel w hw _ 0 _ Kr
 generalize of[i]=s at hel0 hgo hat hsh
 have hI:kJ (l.map Nv.nt) s=if (zR s).1=2/\(l.any λn=>decide (n.opt=(zR s).2.1))=false then 14 else if (zR s).1=3/\l.any (pulB (zR s).2.1)=false then 16 else 0:=by
  unfold kJ optR pulR
  simp only [List.any_map];rfl
 refine zU 16 [] hA of.length cap i 1 hj (zP 17 [] 9 eb (eo+i*1+0) (.string (mkS s)) (λw hO=>hel0 w hO.below) (z1 (v:= .tuple #[YI (zR s).1,.string (mkS (zR s).2.1),.string (mkS (zR s).2.2)]) [] (λw hO=>fItem_at s w hsh) (zD [] λb8=> ?_)))
 have hc1:∀ w,Own [] W w [⟨b8, #[.string (mkS (zR s).2.1)],9⟩]->YC 101 #[.slice B l.length capb,.func (.func 100) #[] #[.pointer (some ⟨b8,0,none⟩)]] w (YR (.bool (l.any λn=>decide (n.opt=(zR s).2.1))) w):=λw hO=>by
  have hg:w.heap[b8]?=some (.cells #[.string (mkS (zR s).2.1)] 9):=hO.get (i:=0) rfl
  exact qHas1_any _ B capb l b8 w (hv.on hO.below hO.size) hn λn hn w2 hb=>qOpt_any n (zR s).2.1 b8 w2 ((hb.block b8 (Array.getElem?_eq_some_iff.1 hg).1).trans hg)
 have hc2:∀ w,Own [] W w [⟨b8, #[.string (mkS (zR s).2.1)],9⟩]->YC 101 #[.slice B l.length capb,.func (.func 102) #[] #[.pointer (some ⟨b8,0,none⟩)]] w (YR (.bool (l.any (pulB (zR s).2.1))) w):=λw hO=>by
  have hg:w.heap[b8]?=some (.cells #[.string (mkS (zR s).2.1)] 9):=hO.get (i:=0) rfl
  exact qHas2_any _ B capb l b8 w (hv.on hO.below hO.size) hn λn hn w2 hb=>qPul_any n (zR s).2.1 b8 w2 (((hva n hn).on hO.below hO.size).on hb hb.size) ((hb.block b8 (Array.getElem?_eq_some_iff.1 hg).1).trans hg)
 have next:kJ (l.map Nv.nt) s=0→∀ m',m'=of.length-(i+1)->m'<mm/\(i+1<=of.length∧∀ s∈of.take (i+1),kJ (l.map Nv.nt) s=0)/\m'=of.length-(i+1):=λh m' e=>⟨by omega,⟨hj,hgo h⟩,e⟩
 refine x_val 24 [0] (.func (.func 100) #[] #[Zp b8 0]) (λw=>Kr) (zE 26 [] ((zR s).1=2) (λh26=> ?_) (λh26=> ?_))
 ·refine z1 (v:= .bool (l.any λn=>decide (n.opt=(zR s).2.1))) [] (λw hO=>hc1 w (hO.past 0 _)) (yG 30 (l.any λn=>decide (n.opt=(zR s).2.1)) (λh30=> ?_) (λh30=> ?_))
  rotate_left
  ·refine z6 [] (YI 14) λw hO=>⟨?_,hO.below⟩
   have:kJ (l.map Nv.nt) s=14:=by rw [hI,if_pos ⟨h26,h30⟩]
   rw [hat (by rw [this];decide),this]
  have hz:kJ (l.map Nv.nt) s=0:=by rw [hI,if_neg (by rw [h30];simp),if_neg (λq=>by rw [h26] at q;exact absurd q.1 (by decide))]
  obtain ⟨q1,q2,q3⟩:=next hz _ rfl
  exact x_val 33 [] (.func (.func 102) #[] #[Zp b8 0]) (λw=>Kr) (zE 35 [] ((zR s).1=3) (λh=>absurd (h26.symm.trans h) (by decide)) (λh=>x_i 14 [] ((i+1:Nat):Int) (zH [] [] (λw hO=>hO.no) (nx (i+1) _ [] q1 ⟨q2,q3⟩ Kr Kr))))
 ·refine x_val 33 [] (.func (.func 102) #[] #[Zp b8 0]) (λw=>Kr) (zE 35 [] ((zR s).1=3) (λh35=> ?_) (λh35=> ?_))
  rotate_left
  ·have hz:kJ (l.map Nv.nt) s=0:=by rw [hI,if_neg (λq=>h26 q.1),if_neg (λq=>h35 q.1)]
   obtain ⟨q1,q2,q3⟩:=next hz _ rfl
   exact x_i 14 [] ((i+1:Nat):Int) (zH [] [] (λw hO=>hO.no) (nx (i+1) _ [] q1 ⟨q2,q3⟩ Kr Kr))
  refine z1 (v:= .bool (l.any (pulB (zR s).2.1))) [] (λw hO=>hc2 w (hO.past 0 _)) (yG 39 (l.any (pulB (zR s).2.1)) (λh39=> ?_) (λh39=> ?_))
  ·have hz:kJ (l.map Nv.nt) s=0:=by rw [hI,if_neg (λq=>h26 q.1),if_neg (by rw [h39];simp)]
   obtain ⟨q1,q2,q3⟩:=next hz _ rfl
   exact x_i 14 [] ((i+1:Nat):Int) (zH [] [] (λw hO=>hO.no) (nx (i+1) _ [] q1 ⟨q2,q3⟩ Kr Kr))
  ·refine z6 [] (YI 16) λw hO=>⟨?_,hO.below⟩
   have:kJ (l.map Nv.nt) s=16:=by rw [hI,if_neg (λq=>h26 q.1),if_pos ⟨h35,h39⟩]
   rw [hat (by rw [this];decide),this]
end
section
set_option linter.unnecessarySimpa false
theorem strC_one (s:List UInt8):∀ u∈zW s,u.oneCell'=true:=λu hu=>by rw [List.mem_singleton.1 hu];rfl
end
section
def BuR (b:Nat)(l:List UInt8)(ob:List Blk):Prop:=
 ∃ p v g,ob=⟨b, #[p,v],133⟩::g/\(p= .pointer none\/p= .pointer (some ⟨b,0,none⟩))/\Sl 5 1 v l.length (Lib.byteCells l) g
theorem BuR.new (b:Nat):BuR b [] [⟨b, #[.pointer none,.slice none 0 0],133⟩]:=⟨_,_,[],rfl,.inl rfl,Sl.nil _ _⟩
theorem sizeWriterR:(Tryz.prog.info? 131).map (·.size)=some 2:=by kernel_rfl
theorem liesWriterR:liesAt Tryz.prog Tryz.prog.depth 133 (2/Tryz.prog.cellsOf 133) 0 131 1=true:=by kernel_rfl
theorem copyCheck_newR (b:Nat)(w:World)(h0:w.cell? ⟨b,0,none⟩=some (.pointer none))(hsh:w.shape? b=some (133,2))(hfz:w.frozen? ⟨b,0,none⟩=false):
  YC 223 #[.pointer (some ⟨b,0,none⟩)] w λe w'=>e= .returned (.tuple #[])/\w'=w.setCell ⟨b,0,none⟩ (.pointer (some ⟨b,0,none⟩)):=by
 obtain ⟨j,hj,hjs⟩:=Option.map_eq_some_iff.1 sizeWriterR
 go_enter Tryz.func223,Tryz.ntmps223
 go_wp2
 rw [Lib.run_to_unsafe w ⟨b,0,none⟩ Tryz.underlying129 Tryz.underlying281 hj (by rw [hjs];decide) hsh (Nat.zero_lt_succ 1)]
 simp only [Result.andThen]
 rw [Oper.upon_value]
 go_wp2
 rw [run_callFunc_extern Tryz.func267 Kr Kr Kr (e:=Extern.AbiNoEscape.same) Kr]
 rw [Lib.run_noEscape]
 simp only [Result.andThen]
 rw [Oper.upon_value]
 go_wp2
 rw [Lib.run_from_unsafe w ⟨b,0,none⟩ Tryz.underlying281 Tryz.underlying129 hj hsh liesWriterR]
 simp only [Result.andThen]
 rw [Oper.upon_value]
 go_wp2
 go_end0
 exact ⟨rfl,rfl⟩
theorem rcheck_any (b:Nat)(p v:Value)(R:List Blk)(M:List Nat)(W w:World)(hp:p= .pointer none\/p= .pointer (some ⟨b,0,none⟩))(hO:Own M W w (⟨b, #[p,v],133⟩::R)):
  YC 223 #[.pointer (some ⟨b,0,none⟩)] w λe w'=>e= .returned (.tuple #[])/\Own M W w' (⟨b, #[.pointer (some ⟨b,0,none⟩),v],133⟩::R):=by
 have hb:w.heap[b]?=some (.cells #[p,v] 133 (0,0)):=hO.held ⟨b, #[p,v],133⟩ (List.mem_cons_self ..)
 have c0:w.cell? ⟨b,0,none⟩=some p:=by rw [Lib.cell_of_heap hb];rfl
 rcases hp with rfl|rfl
 ·refine (copyCheck_newR b w c0 (by simp [World.shape?,hb]) (Lib.frozen_of_heap hb 0)).mono λe w' ⟨he,hw⟩=>⟨he, ?_⟩
  rw [hw,setCell_eq_setRow w b 0 _ _ _ _ hb]
  exact hO.put (i:=0) (x:=⟨b, #[.pointer none,v],133⟩) rfl _
 ·exact (mJ b w c0).mono λe w' ⟨he,hw⟩=>⟨he,hw▸hO⟩
theorem infoU8R:∃ i,Tryz.prog.info? 5=some i/\i.zero=some (.int .u8 0)/\i.size=1/\i.bytes=1:=info_parts infoByte
theorem buR_own {B b:Nat}{l:List UInt8}{ob:List Blk}{M:List Nat}{W w:World}(hB:BuR b l ob)(hO:Own M W w ob)(hM:∀ x∈ob,B<=x.b):Lib.IsBuilder 133 5 B b (Lib.byteCells l) w:=by
 obtain ⟨p,v,g,rfl,hp,hv⟩:=hB
 have hb:w.heap[b]?=some (.cells #[p,v] 133 (0,0)):=hO.held ⟨b, #[p,v],133⟩ (List.mem_cons_self ..)
 have key:Lib.BuilderAt 133 5 B b p (Lib.byteCells l) w:=by
  refine ⟨hM ⟨b, #[p,v],133⟩ (List.mem_cons_self ..),v,hb, ?_, ?_⟩
  ·rw [Lib.byteCells_length]
   refine ⟨hv.1, ?_⟩
   rcases hv.2 with ⟨h1,h2,_⟩|⟨k,cap,cur,h1,rfl,h3,h4,h5,h6⟩
   ·exact .inl ⟨h1,h2⟩
   ·exact .inr ⟨k,cap,cur,h1,hM ⟨k,cur,5⟩ (by simp),hO.held ⟨k,cur,5⟩ (by simp),h3,h4,h5,h6⟩
  ·rcases hv.2 with ⟨rfl,_,_⟩|⟨k,cap,cur,rfl,rfl,_⟩
   ·simp [Value.ownBlock]
   ·intro e
    have hk:k=b:=by simpa [Value.ownBlock] using e
    have:=hO.apart
    simp [hk] at this
 rcases hp with rfl|rfl
 ·exact .inl key
 ·exact .inr key
theorem rstring_any0 (B b:Nat)(l:List UInt8)(w:World)(h:Lib.IsBuilder 133 5 B b (Lib.byteCells l) w)(h0:l≠[]):
  YC 107 #[.pointer (some ⟨b,0,none⟩)] w λe w'=>e= .returned (.string ⟨l.toArray⟩)/\Below B w w':=by
 obtain ⟨p,hB,v,hbk,hown,hne⟩:∃ p,Lib.BuilderAt 133 5 B b p (Lib.byteCells l) w:=h.elim (λq=>⟨_,q⟩) (λq=>⟨_,q⟩)
 rcases hown.2 with ⟨_,hz⟩|⟨g,cap,cur,rfl,hbg,hg,hnc,hcm,hcs,htake⟩
 ·exact absurd hz (tY h0)
 rw [Lib.byteCells_length] at hown hnc hbk htake
 have hl0:l.length≠0:=λe=>h0 (List.eq_nil_of_length_eq_zero e)
 have hg':w.drew.heap[g]?=some (.cells cur 5 (0,0)):=hg
 have c1:w.drew.cell? ⟨b,1,none⟩=some (.slice (some ⟨g,0,none⟩) l.length cap):=by
  rw [Lib.cell_of_heap (show w.drew.heap[b]?=_ from hbk)];rfl
 have hSD:=Lib.run_unsafeSliceData_row (P:=Tryz.prog) w.drew #[90] 197 ⟨g,0,none⟩ l.length cap Om
 have hUS:=Lib.run_unsafeString_row (P:=Tryz.prog) w.drew 197 3 9 5 Tryz.underlying197 Kr g cur.size (by unfold World.shape?;rw [hg']) l h0 Om (by unfold maxLen at hcm;omega)
  (λj x hx=>hown.cells (g:=g) rfl j (.int .u8 x.toNat) (by simp [Lib.byteCells,hx]))
 go_enter Tryz.func107,Tryz.ntmps107
 go_wp2
 have mixed:Tryz.prog.follows .mixedOrders=true:=by kernel_rfl
 go_region_o
 all_goals
  go_wp2
  go_ret
  have hf:=Lib.below_freeze (Go.RowKit.Below.drew (Go.RowKit.Below.refl B w)) (p:=⟨g,0,none⟩) hbg l.length
  exact ⟨rfl,hf.os,hf.tape,hf.output,hf.size,by rw [tQ];exact Nat.le_succ _,hf.block⟩
theorem rstring_any (b:Nat)(l:List UInt8)(ob:List Blk)(W w:World)(hB:BuR b l ob)(hO:Own [] W w ob)(h0:l≠[]):
  YC 107 #[.pointer (some ⟨b,0,none⟩)] w λe w'=>e= .returned (.string (mkS l))/\Own [] W w' []:=
 (rstring_any0 W.heap.size b l w (buR_own hB hO λx hx=>(hO.base x hx).elim id λq=>by simp at q) h0).mono λe w' ⟨he,hb⟩=>by
  have hb2:=hO.below.trans hb
  exact ⟨he,hb2.os,hb2.tape,hb2.output,hb2.size,hb2.drawn,λk hk _=>hb2.block k hk,by simp,by simp,by simp⟩
theorem rWrite_any (b:Nat)(l:List UInt8)(s:List UInt8)(ob:List Blk)(W:World)(hB:BuR b l ob)(hO:Own (ob.map Blk.b) W W ob)(hl:l.length<=1000000000000)(hs:s.length<=1000000000000):
  YC 163 #[.pointer (some ⟨b,0,none⟩),.string (mkS s)] W λe w'=>∃ ob',e= .returned (.tuple #[YI ((mkS s).size:Int),.nilIface])/\BuR b (l++s) ob'/\Own (ob.map Blk.b) W w' ob':=by
 obtain ⟨p,v,g,rfl,hp,hv⟩:=hB
 obtain ⟨A,cap,rfl⟩:=Sl.form hv
 have hsz:=y0 s
 refine calls_okL (n:=19) hO Tryz.func163 rfl Kr Kr (ZO (Zv (YI 0) (Zv (.nilIface) (ZR (Zv (Zp b 0) (Zr (k:=223) (args:= #[Zp b 0]) (λv' L'=>v'= .tuple #[]/\L'=⟨b, #[Zp b 0,.slice A l.length cap],133⟩::g) (λw hO=>(rcheck_any b p _ _ _ _ w hp hO).mono λe w' ⟨k1,k2⟩=>⟨_,_,k1,⟨rfl,rfl⟩,k2⟩) (λv0 L0 hv0=> ?_)))))))
 obtain ⟨rfl,rfl⟩:=hv0
 refine ZR (Zv (Zp b 0) (Zv (Zp b 0) (Zv (Zp b 0) (Zv (Zp b 1) (Zl 0 ⟨b, #[Zp b 0,.slice A l.length cap],133⟩ (off:=1) (.slice A l.length cap) (Zv (.string (mkS s)) ?_))))))
 obtain ⟨i0,e1,e2,e3,e4⟩:=infoU8R
 refine jV (L':=[⟨b, #[Zp b 0,.slice A l.length cap],133⟩]++g++[]) (by simp) (s_appstr Kr rfl Tryz.underlying90 Tryz.underlying9 e1 e2 e3 e4 Kr hv (s:=mkS s) Kr (by rw [hsz];unfold maxLen;omega) (by rw [hsz];omega) (λv2 g2 hv2=> ?_))
 have hv3:Sl 5 1 v2 (l++s).length (Lib.byteCells (l++s)) g2:=by rw [List.length_append,Lib.byteCells_append];rw [hsz,jH] at hv2;exact hv2
 obtain ⟨A2,cap2,rfl⟩:=Sl.form hv3
 refine jV (L':=⟨b, #[Zp b 0,.slice A l.length cap],133⟩::(g2)) (by simp) (Zv (Zp b 0) (Zv (Zp b 1) (Zs 0 ⟨b, #[Zp b 0,.slice A l.length cap],133⟩ (off:=1) (.slice A2 ((l++s).length) cap2) (ZR (Zv (.string (mkS s)) (Zv (YI ((mkS s).size)) (Zv (YI ((mkS s).size)) (Zv (.nilIface) ?_))))))))
 exact ZN (xB (ZG (YI ((mkS s).size)) (.nilIface) Tryz.results163 (λw hO=>⟨_,rfl,⟨_,_,g2,rfl,.inr rfl,hv3⟩,hO⟩)))
theorem rByte_any (b:Nat)(l:List UInt8)(c:UInt8)(z:Int)(ob:List Blk)(W:World)(hB:BuR b l ob)(hO:Own (ob.map Blk.b) W W ob)(hl:l.length<=1000000000000)(hz:(c.toNat:Int)=z):
  YC 165 #[.pointer (some ⟨b,0,none⟩),.int .u8 z] W λe w'=>∃ ob',e= .returned (.nilIface)/\BuR b (l++[c]) ob'/\Own (ob.map Blk.b) W w' ob':=by
 obtain ⟨p,v,g,rfl,hp,hv⟩:=hB
 obtain ⟨A,cap,rfl⟩:=Sl.form hv
 subst hz
 refine calls_okL (n:=17) hO Tryz.func165 rfl Kr Kr (ZO (Zv (.nilIface) (ZR (Zv (Zp b 0) (Zr (k:=223) (args:= #[Zp b 0]) (λv' L'=>v'= .tuple #[]/\L'=⟨b, #[Zp b 0,.slice A l.length cap],133⟩::g) (λw hO=>(rcheck_any b p _ _ _ _ w hp hO).mono λe w' ⟨k1,k2⟩=>⟨_,_,k1,⟨rfl,rfl⟩,k2⟩) (λv0 L0 hv0=> ?_))))))
 obtain ⟨rfl,rfl⟩:=hv0
 refine ZR (Zv (Zp b 0) (Zv (Zp b 0) (Zv (Zp b 0) (Zv (Zp b 1) (Zl 0 ⟨b, #[Zp b 0,.slice A l.length cap],133⟩ (off:=1) (.slice A l.length cap) (Zv (.int .u8 (c.toNat:Int)) (s_lit 5 #[.int .u8 (c.toNat:Int)] Kr rfl (λ_=>Kr) (λb1=> ?_))))))))
 obtain ⟨i0,e1,e2,e3,e4⟩:=infoU8R
 refine jV (L':=[⟨b1, #[.int .u8 (c.toNat:Int)],5⟩,⟨b, #[Zp b 0,.slice A l.length cap],133⟩]++g++[]) (by simp) (m6 (sz:=1) Kr rfl Tryz.underlying90 e1 e2 e3 rfl Kr hv (a:=⟨b1,0,none⟩) (m:=1) (c:=1) (news:=Lib.byteCells [c]) Kr rfl (λw hO j u hj=> ?_) (λu hu=>by rw [List.mem_singleton.1 hu];rfl) (by unfold maxLen;omega) (by rw [e4];omega) (λv2 g2 hv2=> ?_))
 ·rw [yE,cell_of_row w b1 (0+j) (Lib.byteCells [c]).toArray 5 _ (hO.held ⟨b1,(Lib.byteCells [c]).toArray,5⟩ (List.mem_append_left _ (List.mem_append_left _ (List.mem_cons_self ..))))];simpa using hj
 have hv3:Sl 5 1 v2 (l++[c]).length (Lib.byteCells (l++[c])) g2:=by rw [List.length_append,Lib.byteCells_append];exact hv2
 obtain ⟨A2,cap2,rfl⟩:=Sl.form hv3
 refine jV (L':=⟨b1, #[.int .u8 (c.toNat:Int)],5⟩::(⟨b, #[Zp b 0,.slice A l.length cap],133⟩::(g2))) (by simp) (Zv (Zp b 0) (Zv (Zp b 1) (Zs 1 ⟨b, #[Zp b 0,.slice A l.length cap],133⟩ (off:=1) (.slice A2 ((l++[c]).length) cap2) (ZR (Zv (.nilIface) (ZN (xB ?_)))))))
 exact ZF (.nilIface) Tryz.results165 (λw hO=>⟨_,rfl,⟨_,_,g2,rfl,.inr rfl,hv3⟩,Own.sub [⟨b1, #[.int .u8 (c.toNat:Int)],5⟩] hO⟩)
end
section
set_option linter.unnecessarySimpa false
theorem rq_write (b:Nat)(l s:List UInt8)(R ob:List Blk){M:List Nat}{W:World}(hB:BuR b l ob)(hl:l.length<=1000000000000)(hs:s.length<=1000000000000):∀ w,Own M W w (R++ob)->YC 163 #[.pointer (some ⟨b,0,none⟩),.string (mkS s)] w λe w'=>∃ v ob',e= .returned v/\BuR b (l++s) ob'/\Own (ob.map Blk.b) w w' ob':=
 λw hO=>(rWrite_any b l s ob w hB (Own.lentR hO) hl hs).mono λe w' ⟨ob',k1,k2,k3⟩=>⟨_,ob',k1,k2,k3⟩
theorem qLine_any (b:Nat)(l:List UInt8)(ws:List (List UInt8))(v:Value)(wb ob:List Blk)(W:World)(hB:BuR b l ob)(hw:SlT v ws wb)(hO:Own ((wb++ob).map Blk.b) W W (wb++ob))(hl:l.length<=1000000000)(hj:(zB 32 ws).length<=400000000)(hn:ws.length<=1000000)(hne:zB 32 ws≠[]):YC 103 #[.pointer (some ⟨b,0,none⟩),v] W λe w'=>∃ ob',e= .returned (.tuple #[])/\BuR b (l++(zB 32 ws++[10])) ob'/\Own ((wb++ob).map Blk.b) W w' (wb++ob'):=by
 obtain ⟨A,cap,rfl⟩:=SlT.form hw
 have hJ:∀ w,Own ((wb++ob).map Blk.b) W w (wb++ob)->YC 164 #[.slice A ws.length cap,.int .u8 32] w (YR (.string (mkS (zB 32 ws))) w):=λw hO=>vR _ ws 32 w (hw.readsT hO λx hx=>List.mem_append_left _ hx) Om Om hne
 refine y6 hO Tryz.func103 (x_drawLF (.s .z) 6 [] wb (λw hO=>(hO.past 0 (wb++ob)).sublist (List.sublist_append_left _ _)) (zK [] 4 (z1 (v:= .string (mkS (zB 32 ws))) [] (λw hO=>hJ w (hO.past 0 _)) (zK [] 5 ?_))))
 exact xh_callL (Rr:=λ_ ob'=>BuR b (l++zB 32 ws) ob') (wb++ob) wb ob wb (λw hO=>hO) (λo w hO=>hO.sublist (List.sublist_append_left _ _)) (rq_write b l (zB 32 ws) wb ob hB Om Om) λv1 o1 h1=>(yW (k:=165) (args:= #[Zp b 0,.int .u8 10]) (Rr:=λ_ ob'=>BuR b (l++zB 32 ws++[10]) ob') [] (wb++o1) wb o1 (λw hO=>hO) (λw hO=>(rByte_any b (l++zB 32 ws) 10 10 o1 w h1 (Own.lentR hO) (by simp only [List.length_append];omega) rfl).mono λe w' ⟨ob',k1,k2,k3⟩=>⟨_,ob',k1,k2,k3⟩) λv2 o2 h2=>(yU [] λw hO=>⟨o2,rfl,by rw [←List.append_assoc];exact h2,hO.past 0 _⟩))
def bY (w s:List UInt8):List UInt8:=if s=[] then [] else w++[32]++s++[10]
theorem qlit (b N:Nat)(cs:Array Value)(ws:List (List UInt8))(hc:cs.toList=vD ws)(hN:ws.length=N)(hM:N<=1000):SlT (.slice (some ⟨b,0,none⟩) N N) ws [⟨b,cs,9⟩]:=by
 subst hN
 unfold SlT
 rw [←hc]
 refine sl_block ?_ (by unfold maxLen;omega)
 rw [←Array.length_toList,hc,yL]
 have:=mG zN ws
 omega
theorem q_line {M:List Nat}{W:World}(b:Nat)(l:List UInt8)(ws:List (List UInt8))(v:Value)(R wb ob:List Blk)(hB:BuR b l ob)(hw:SlT v ws wb)(hl:l.length<=1000000000)(hj:(zB 32 ws).length<=400000000)(hn:ws.length<=1000000)(hne:zB 32 ws≠[]):∀ w,Own M W w (R++(wb++ob))->YC 103 #[.pointer (some ⟨b,0,none⟩),v] w λe w'=>∃ v' o,e= .returned v'/\(∃ ob',BuR b (l++(zB 32 ws++[10])) ob'/\o=wb++ob')/\Own ((wb++ob).map Blk.b) w w' o:=
 λw hO=>(qLine_any b l ws v wb ob w hB hw (Own.lentR hO) hl hj hn hne).mono λe w' ⟨ob',k1,k2,k3⟩=>⟨_,_,k1,⟨ob',k2,rfl⟩,k3⟩
theorem qMaybe_any (b:Nat)(l wd s:List UInt8)(ob:List Blk)(W:World)(hB:BuR b l ob)(hO:Own (ob.map Blk.b) W W ob)(hl:l.length<=900000000)(hw:wd≠[]/\wd.length<=100)(hs:s.length<=100000000):YC 106 #[.pointer (some ⟨b,0,none⟩),.string (mkS wd),.string (mkS s)] W λe w'=>∃ ob',e= .returned (.tuple #[])/\BuR b (l++bY wd s) ob'/\Own (ob.map Blk.b) W w' ob':=by
 have hT:zB 32 [wd,s]=wd++32::s:=rfl
 refine y6 hO Tryz.func106 (g8 7 [] s [] (λh=> ?_) (λh=> ?_))
 ·exact yU [] λw hO=>⟨ob,rfl,by rw [bY,if_pos h,List.append_nil];exact hB,hO.past 0 _⟩
 refine kG [] 2 9 #[.string (mkS wd),.string (mkS s)] λg=>(yW [] ([⟨g, #[.string (mkS wd),.string (mkS s)],9⟩]++ob) [] ([⟨g, #[.string (mkS wd),.string (mkS s)],9⟩]++ob) (λw hO=>hO) (q_line b l [wd,s] _ [] _ ob hB (qlit g 2 _ [wd,s] rfl rfl Om) Om (by rw [hT];simp only [List.length_append,List.length_cons];omega) (by simp) (by rw [hT];simp [hw.1])) λv1 o1 ⟨ob',k1,k2⟩=> ?_)
 subst k2
 have hz:l++(zB 32 [wd,s]++[10])=l++bY wd s:=by rw [bY,if_neg h,hT];simp
 rw [hz] at k1
 exact yU [] λw hO=>⟨ob',rfl,k1,hO.past 1 _⟩
theorem q_maybe {M:List Nat}{W:World}(b:Nat)(l wd s:List UInt8)(R ob:List Blk)(hB:BuR b l ob)(hl:l.length<=900000000)(hw:wd≠[]/\wd.length<=100)(hs:s.length<=100000000):∀ w,Own M W w (R++ob)->YC 106 #[.pointer (some ⟨b,0,none⟩),.string (mkS wd),.string (mkS s)] w λe w'=>∃ v' o,e= .returned v'/\BuR b (l++bY wd s) o/\Own (ob.map Blk.b) w w' o:=
 λw hO=>(qMaybe_any b l wd s ob w hB (Own.lentR hO) hl hw hs).mono λe w' ⟨ob',k1,k2,k3⟩=>⟨_,_,k1,k2,k3⟩
theorem maybe_when (s:List UInt8):bY t1 s=pY s:=by
 unfold bY pY
 split
 ·rfl
 ·simp [t1,txWhen]
theorem maybe_opt (s:List UInt8):bY wOpt s=optnT s:=by
 unfold bY optnT
 split
 ·rfl
 ·simp [wOpt,txOpt]
theorem joinL_ne (b:UInt8):∀ {l:List (List UInt8)},l≠[]->(∀ s∈l,s≠[])->zB b l≠[]
 | [],h,_=>absurd rfl h
 | [x],_,h=>h x (List.mem_singleton.2 rfl)
 |x::y::r,_,_=>by rw [zB];simp
theorem own_rot3 {M:List Nat}{W w:World}{x y z:Blk}{L:List Blk}(h:Own M W w (x::y::z::L)):Own M W w (y::z::x::L):=h.perm ((List.Perm.swap ..).trans (List.Perm.cons _ (List.Perm.swap ..)))
def ndB (n:Nv)(b:Nat):Blk:=⟨b, #[.slice n.A n.any.length n.cap,.string (mkS n.wh),.string (mkS n.opt)],74⟩
def wsB (u:Wv)(b:Nat):Blk:=⟨b, #[.string (mkS u.name),.string (mkS u.rng),.slice u.A u.fs.length u.cap,.bool u.bare],77⟩
theorem qNeedW_any (B b:Nat)(l:List UInt8)(n:Nv)(ob:List Blk)(W:World)(hB:BuR b l ob)(hO:Own (ob.map Blk.b) W W ob)(hge:∀ x∈ob,B<=x.b)(hBW:B<=W.heap.size)(hv:Reads wvC W B n.A n.any)(hf:∀ u∈n.any,Reads zW W B u.A u.fs)(hn:n.any.length<=5000)(hnf:∀ u∈n.any,u.fs.length<=5000)(hfe:∀ u∈n.any,∀ s∈u.fs,s≠[])(hs:n.wh.length<=1000000/\n.opt.length<=1000000)(hl:l.length+(gP n.nt).length<=300000000):YC 105 #[.pointer (some ⟨b,0,none⟩),nvV n] W λe w'=>∃ ob',e= .returned (.tuple #[])/\BuR b (l++gP n.nt) ob'/\Own (ob.map Blk.b) W w' ob':=by
 have hM':∀ k∈ob.map Blk.b,B<=k:=λk hk=>by obtain ⟨x,hx,rfl⟩:=List.mem_map.1 hk;exact hge x hx
 have hnT:gP n.nt=txNeed++n.any.flatMap (λu=>vW u.wt)++pY n.wh++optnT n.opt:=by
  unfold gP;simp only [Nv.nt,List.flatMap_map]
 have hnl:=congrArg List.length hnT
 simp only [List.length_append] at hnl
 have hn5:txNeed.length=5:=rfl
 refine y6 hO Tryz.func105 (zV [] λb3=>kG [] 1 9 #[.string (mkS t6)] λg=> ?_)
 refine yW [] (⟨g, #[.string (mkS t6)],9⟩::ndB n b3::ob) [ndB n b3] ([⟨g, #[.string (mkS t6)],9⟩]++ob) (λw hO=>hO.swap) (q_line b l [t6] _ _ _ ob hB (qlit g 1 _ [t6] rfl rfl Om) Om (by decide) (by simp) (by decide)) λv1 o1 ⟨ob1,k1,k2⟩=> ?_
 subst k2
 refine zH [0] (ndB n b3::ob1) (λw hO=>(hO.past 0 (ndB n b3::⟨g, #[.string (mkS t6)],9⟩::ob1)).swap.past 1 _) (y4 (α:=Nat×List Blk) (λx=>[(0,Zp b 0),(3,Zp b3 0),(12,.slice n.A n.any.length n.cap),(13,YI (n.any.length:Int)),(14,YI (x.1:Int))]) (λx=>ndB n b3::x.2) (λx m=>(x.1<=n.any.length/\BuR b (l++txNeed++(n.any.take x.1).flatMap (λu=>vW u.wt)) x.2)/\m=n.any.length-x.1) (0,ob1) n.any.length [] ⟨⟨Nat.zero_le _,by simp only [List.take_zero,List.flatMap_nil,List.append_nil];exact k1⟩,rfl⟩ ?_)
 rintro ⟨i,o⟩ mm gg kk ⟨⟨hi,ho⟩,hmm⟩ nx hkk
 subst hkk
 replace hi:i<=n.any.length:=hi
 replace ho:BuR b (l++txNeed++(n.any.take i).flatMap (λu=>vW u.wt)) o:=ho
 have hpt:=tS (λu:Wv=>vW u.wt) (l:=n.any) i
 have hpl:(l++txNeed++(n.any.take i).flatMap (λu=>vW u.wt)).length<=300000000:=by simp only [List.length_append];omega
 refine zE 15 [] ((i:Int)<(n.any.length:Int)) (λh15=> ?_) (λh15=> ?_)
 ·have hj:i<n.any.length:=by omega
  obtain ⟨eb,eo,hA,hel⟩:=hv.elem v8 i hj
  have hst:=bP (λu:Wv=>vW u.wt) hj
  have hsm:n.any[i]∈n.any:=List.getElem_mem hj
  have hone:=fm_one (λu:Wv=>vW u.wt) hsm
  have hel0:∀ w,Below B W w->(loadVar 77 ⟨eb,eo+i*4+0,none⟩).run Tryz.prog w= .ok (wvV n.any[i]) w:=λw hw=>hel w hw _ 0 _ Kr
  have hru:=hf _ hsm;have hnu:=hnf _ hsm;have hfu:=hfe _ hsm
  have hw2:l++txNeed++(n.any.take i).flatMap (λu=>vW u.wt)++vW n.any[i].wt=l++txNeed++(n.any.take (i+1)).flatMap (λu=>vW u.wt):=by rw [hst,←List.append_assoc]
  generalize n.any[i]=u at hel0 hone hru hnu hfu hw2
  generalize l++txNeed++(n.any.take i).flatMap (λu=>vW u.wt)=done at*
  have huT:vW u.wt=zB 32 [wAny,u.name,dX u.fs,fU u.bare,u.rng]++[10]:=(wishL_text u.wt).symm
  have hul:=congrArg List.length huT
  rw [List.length_append] at hul
  have hfl:(dX u.fs).length<=(zB 32 [wAny,u.name,dX u.fs,fU u.bare,u.rng]).length:=jn_part 32 (by simp)
  have hJ:∀ w,Below B W w->u.fs≠[]->YC 164 #[.slice u.A u.fs.length u.cap,.int .u8 44] w (YR (.string (mkS (dX u.fs))) w):=λw hb hne=>by
   have hw:dX u.fs=zB 44 u.fs:=if_neg hne
   rw [hw]
   exact vR _ u.fs 44 w (reads_t (hru.on hb (Nat.le_trans hBW hb.size)) (Nat.le_refl _)) (by rw [←hw];omega) Om (joinL_ne 44 hne hfu)
  refine zU 16 [] hA n.any.length n.cap i 4 hj (zP 17 [] 77 eb (eo+i*4+0) (wvV u) (λw hO=>hel0 w (hO.belowB hM' hBW)) (zD [] λb5=>w8 21 (α:=List UInt8) (λfl=>[(0,Zp b 0),(3,Zp b3 0),(5,Zp b5 0),(6,.string (mkS fl)),(7,.string (mkS txFull)),(12,.slice n.A n.any.length n.cap),(13,YI (n.any.length:Int)),(14,YI (i:Int))]) (λ_=>wsB u b5::ndB n b3::o) (λfl=>fl=dX u.fs) [0,0] (λnj=>gW 21 ((u.fs.length:Int)>0) (λh=> ?_) (λh=> ?_)) (λfl g1 hfl1=> ?_)))
  ·exact z1 (v:= .string (mkS (dX u.fs))) [0] (λw hO=>hJ w (hO.belowB hM' hBW) (λe=>by rw [e] at h;simp at h)) (nj (dX u.fs) [] rfl Kr)
  ·exact nj [45] [] (show [45]=dX u.fs from by unfold dX;rw [if_pos (List.eq_nil_of_length_eq_zero Om)]) Kr
  refine w8 26 (α:=List UInt8) (λkd=>[(0,Zp b 0),(3,Zp b3 0),(5,Zp b5 0),(6,.string (mkS fl)),(7,.string (mkS kd)),(12,.slice n.A n.any.length n.cap),(13,YI (n.any.length:Int)),(14,YI (i:Int))]) (λ_=>wsB u b5::ndB n b3::o) (λkd=>kd=fU u.bare) [0] (λnj=>yG 26 u.bare (λh=>nj txBare [] (by rw [h];rfl) Kr) (λh=>nj txFull [] (by rw [h];rfl) Kr)) (λkd g2 hkd=> ?_)
  subst hfl1;subst hkd
  refine kG [0,0] 5 9 #[.string (mkS wAny),.string (mkS u.name),.string (mkS (dX u.fs)),.string (mkS (fU u.bare)),.string (mkS u.rng)] λg3=>(yW [] (⟨g3, #[.string (mkS wAny),.string (mkS u.name),.string (mkS (dX u.fs)),.string (mkS (fU u.bare)),.string (mkS u.rng)],9⟩::wsB u b5::ndB n b3::o) [wsB u b5,ndB n b3] ([⟨g3, #[.string (mkS wAny),.string (mkS u.name),.string (mkS (dX u.fs)),.string (mkS (fU u.bare)),.string (mkS u.rng)],9⟩]++o) (λw hO=>own_rot3 hO) (q_line b done [wAny,u.name,dX u.fs,fU u.bare,u.rng] _ _ _ o ho (qlit g3 5 _ _ rfl rfl Om) Om Om (by simp) (by simp [zB,wAny])) λv2 o2 ⟨ob2,q1,q2⟩=> ?_)
  subst q2
  rw [←huT,hw2] at q1
  exact x_i 14 [] ((i+1:Nat):Int) (zH [] (ndB n b3::ob2) (λw hO=>(hO.past 1 (ndB n b3::⟨g3, #[.string (mkS wAny),.string (mkS u.name),.string (mkS (dX u.fs)),.string (mkS (fU u.bare)),.string (mkS u.rng)],9⟩::ob2)).swap.past 1 _) (nx (i+1,ob2) (n.any.length-(i+1)) [] Om ⟨⟨hj,q1⟩,rfl⟩ Kr Kr))
 rw [List.take_of_length_le (show n.any.length<=i by omega)] at ho
 clear nx
 have hwl:(pY n.wh).length<=300000000:=by omega
 refine yW [0] (ndB n b3::o) [ndB n b3] o (λw hO=>hO) (q_maybe b _ t1 n.wh [ndB n b3] o ho (by simp only [List.length_append];omega) (by decide) Om) λv3 o3 h3=> ?_
 rw [maybe_when] at h3
 refine yW [0] (ndB n b3::o3) [ndB n b3] o3 (λw hO=>hO) (q_maybe b _ wOpt n.opt [ndB n b3] o3 h3 (by simp only [List.length_append];omega) (by decide) Om) λv4 o4 h4=> ?_
 rw [maybe_opt] at h4
 refine yU [] λw hO=>⟨o4,rfl, ?_,hO.past 1 _⟩
 rw [hnT]
 simpa only [List.append_assoc] using h4
end
section
set_option linter.unnecessarySimpa false
theorem partsE_is (r:Rv):vF r.rt=if (xF (λn:Nv=>gE r.name n.nt) 0 r.needs).1≠0 then xF (λn:Nv=>gE r.name n.nt) 0 r.needs
 else if (xF (λb:Bv=>jZ r.name b.bt) 0 r.bars).1≠0 then xF (λb:Bv=>jZ r.name b.bt) 0 r.bars
 else if bZ (x2 r.fts)=false then (11,0)
 else xF (λf:Fv=>yN (kJ r.rt.needs) f.of) 0 r.fts:=by
 unfold vF
 rw [show r.rt.needs=r.needs.map Nv.nt from rfl,show r.rt.bars=r.bars.map Bv.bt from rfl,show r.rt.fts=r.fts.map Fv.ft from rfl,fM,fM,fM];rfl
theorem vprint_short {v:Ver}(hp:v.pre.length<=1000000)(hq:v.build.length<=1000000):v.print.length<=3000000:=by
 unfold Ver.print
 split
 case isTrue h=>
  obtain ⟨n1,n2,n3⟩:=qX h
  have hnl:(numsL v).length<=14:=nums_len n1 n2 n3
  have h1:(xP 45 v.pre).length<=1000001:=by unfold xP;split<;>simp<;>omega
  have h2:(xP 43 v.build).length<=1000001:=by unfold xP;split<;>simp<;>omega
  unfold Ver.text
  simp only [List.length_append];omega
 case isFalse=>simp
end
section
def BytesAt (w:World)(e:TypeId)(g:Nat)(l:List UInt8):Prop:=
 ∃ row,w.heap[g]?=some (.cells row e (row.size,row.size+1))/\l.length<=row.size∧∀ j (h:j<l.length),row[j]?=some (.int .u8 (l[j].toNat:Int))
theorem BytesAt.lt {w:World}{e:TypeId}{g:Nat}{l:List UInt8}(h:BytesAt w e g l):g<w.heap.size:=by
 obtain ⟨row,h1,_⟩:=h
 exact (Array.getElem?_eq_some_iff.1 h1).1
theorem BytesAt.cell {w:World}{e:TypeId}{g:Nat}{l:List UInt8}(h:BytesAt w e g l){j:Nat}(hj:j<l.length):w.cell? ⟨g,j,none⟩=some (.int .u8 (l[j].toNat:Int)):=by
 obtain ⟨row,h1,_,h3⟩:=h
 rw [Lib.cell_of_heap h1];exact h3 j hj
theorem BytesAt.made (w:World)(e:TypeId)(s:List UInt8):BytesAt (Lib.bytesWorld w e (mkS s)) e w.heap.size s/\Below w.heap.size w (Lib.bytesWorld w e (mkS s))/\w.heap.size<(Lib.bytesWorld w e (mkS s)).heap.size:=by
 have hsz:=Lib.bytesWorld_size w e (mkS s)
 refine ⟨⟨Lib.bytesCells w e (mkS s),Lib.bytesWorld_at_new w e (mkS s), ?_,λj hj=> ?_⟩,⟨?_, ?_, ?_,by omega, ?_,λk hk=>Lib.bytesWorld_at_old w e (mkS s) k hk⟩,by omega⟩
 ·unfold Lib.bytesCells mkS;simp
 ·unfold Lib.bytesCells mkS
  rw [Array.getElem?_append_left (by simpa using hj)]
  simp [hj]
 all_goals
  unfold Lib.bytesWorld World.freeze
  split<;>first|rfl|exact Nat.le_succ _
section
variable {M:List Nat}{P:Program}{n0:Nat}{ops:Array Oper}{W:World}{Q:Exit->Act->World->Prop}{rest:List Oper}{o:Oper}{L:List Blk}{f:Nat->Value}
end
end
section
def u64V (x:UInt64):Value:= .int .u64 (x.toNat:Int)
section
variable {P:Program}{ρ:Operand->Value}{o:Oper}{t t':TypeId}{a b:Operand}
theorem lt64 (x:UInt64):x.toNat<18446744073709551616:=x.toNat_lt
theorem run_xor64 {x y:UInt64}(ho:o.op= .binOp .xor t a b t')(hx:ρ a= .int .u64 (x.toNat:Int))(hy:ρ b= .int .u64 (y.toNat:Int))(w:World):(execOp ρ o).run P w= .ok (.value (.int .u64 ((x^^^y).toNat:Int))) w:=by
 have hb:binOp .xor t (.int .u64 (x.toNat:Int)) (.int .u64 (y.toNat:Int))=pure (.int .u64 ((x^^^y).toNat:Int)):=by
  have e:=u64_xor_nat _ _ (lt64 x) (lt64 y)
  rw [←UInt64.toNat_xor] at e
  rw [←e]
  simp [binOp,intBits_xor]
 have hg:eqGuard .xor t a b (.int .u64 (x.toNat:Int)) (.int .u64 (y.toNat:Int))=pure ():=rfl
 unfold execOp
 simp only [ho,hx,hy,Sem.run_bind,hg,hb,Sem.run_pure,Result.andThen_ok]
theorem run_or64 {x y:UInt64}(ho:o.op= .binOp .or t a b t')(hx:ρ a= .int .u64 (x.toNat:Int))(hy:ρ b= .int .u64 (y.toNat:Int))(w:World):(execOp ρ o).run P w= .ok (.value (.int .u64 ((x|||y).toNat:Int))) w:=by
 have hb:binOp .or t (.int .u64 (x.toNat:Int)) (.int .u64 (y.toNat:Int))=pure (.int .u64 ((x|||y).toNat:Int)):=by
  have e:=u64_or_nat _ _ (lt64 x) (lt64 y)
  rw [←UInt64.toNat_or] at e
  rw [←e]
  simp [binOp,intBits_or]
 have hg:eqGuard .or t a b (.int .u64 (x.toNat:Int)) (.int .u64 (y.toNat:Int))=pure ():=rfl
 unfold execOp
 simp only [ho,hx,hy,Sem.run_bind,hg,hb,Sem.run_pure,Result.andThen_ok]
theorem nY (n:Nat):IntKind.u64.wrap (n:Int)=((n % 18446744073709551616:Nat):Int):=by
 simp [IntKind.wrap,IntKind.bits,IntKind.signed]
theorem run_mul64 {x y:UInt64}(ho:o.op= .binOp .mul t a b t')(hx:ρ a= .int .u64 (x.toNat:Int))(hy:ρ b= .int .u64 (y.toNat:Int))(w:World):(execOp ρ o).run P w= .ok (.value (.int .u64 ((x*y).toNat:Int))) w:=by
 unfold execOp
 have h:=nY (x.toNat*y.toNat)
 rw [Int.natCast_mul] at h
 simp [ho,hx,hy,eqGuard,binOp,Op.intArith,h,UInt64.toNat_mul]
theorem run_shl64 {x:UInt64}{yk:IntKind}{n:Nat}(ho:o.op= .binOp .shl t a b t')(hx:ρ a= .int .u64 (x.toNat:Int))(hy:ρ b= .int yk (n:Int))(hn:n<64)(w:World):(execOp ρ o).run P w= .ok (.value (.int .u64 ((x<<<UInt64.ofNat n).toNat:Int))) w:=by
 have h1:=shift_shl .u64 yk (x.toNat:Int) (n:Int) Om (by show (n:Int)<=64;omega)
 have h2:IntKind.u64.wrap ((x.toNat:Int)*2^(n:Int).toNat)=((x<<<UInt64.ofNat n).toNat:Int):=by
  have h:=nY (x.toNat*2^n)
  rw [Int.toNat_natCast]
  rw [Int.natCast_mul] at h
  rw [show ((2:Int)^n)=((2^n:Nat):Int) from by push_cast;rfl,h,UInt64.toNat_shiftLeft,UInt64.toNat_ofNat',Nat.shiftLeft_eq,show n % 2^64 % 64=n from by omega]
 have hg:eqGuard .shl t a b (.int .u64 (x.toNat:Int)) (.int yk (n:Int))=pure ():=rfl
 unfold execOp
 simp only [ho,hx,hy,Sem.run_bind,hg,binOp,h1,h2,Sem.run_pure,Result.andThen_ok]
theorem run_shr64 {x:UInt64}{yk:IntKind}{n:Nat}(ho:o.op= .binOp .shr t a b t')(hx:ρ a= .int .u64 (x.toNat:Int))(hy:ρ b= .int yk (n:Int))(hn:n<64)(w:World):(execOp ρ o).run P w= .ok (.value (.int .u64 ((x>>>UInt64.ofNat n).toNat:Int))) w:=by
 have h1:=shift_shr .u64 yk (x.toNat:Int) (n:Int) Om (by show (n:Int)<=64;omega)
 have h2:(x.toNat:Int)/2^(n:Int).toNat=((x>>>UInt64.ofNat n).toNat:Int):=by
  rw [Int.toNat_natCast,show ((2:Int)^n)=((2^n:Nat):Int) from by push_cast;rfl,UInt64.toNat_shiftRight,UInt64.toNat_ofNat',Nat.shiftRight_eq_div_pow,show n % 2^64 % 64=n from by omega]
  exact (Int.natCast_ediv _ _).symm
 have hg:eqGuard .shr t a b (.int .u64 (x.toNat:Int)) (.int yk (n:Int))=pure ():=rfl
 unfold execOp
 simp only [ho,hx,hy,Sem.run_bind,hg,binOp,h1,h2,Sem.run_pure,Result.andThen_ok]
theorem run_to64 {src dst:TypeId}{x:UInt8}(ho:o.op= .convert src dst a)(hx:ρ a= .int .u8 (x.toNat:Int))(hs:(P.underlying src).isSome=true)(hd:P.underlying dst=some (.int .u64))(w:World):(execOp ρ o).run P w= .ok (.value (.int .u64 (x.toUInt64.toNat:Int))) w:=by
 have hk:P.intKind dst= .u64:=by unfold Program.intKind;rw [hd]
 have h:=run_convert_int (P:=P) w src dst .u8 (x.toNat:Int) hs (by rw [hk];exact hd)
 rw [hk,nY] at h
 have e:x.toNat % 18446744073709551616=x.toUInt64.toNat:=by rw [UInt8.toNat_toUInt64];have:=x.toNat_lt;omega
 rw [e] at h
 unfold execOp
 simp only [ho,hx,Sem.run_bind,h,Sem.run_pure,Result.andThen_ok]
end
end
section
def hexD (d:Nat):UInt8:=if d<10 then UInt8.ofNat (48+d) else UInt8.ofNat (87+d)
def hexV (c:UInt8):Option Nat:=if 48<=c.toNat/\c.toNat<=57 then some (c.toNat-48) else if 97<=c.toNat/\c.toNat<=102 then some (c.toNat-87) else none
def hexT (n:Nat)(k:Nat):List UInt8:=(List.range k).map λi=>hexD (n/16^(15-i) % 16)
def dText (n:UInt64):List UInt8:=hexT n.toNat 16
def hexN:Nat->List UInt8->Option Nat
 |n,[]=>some n
 |n,c::r=>match hexV c with
  |some d=>hexN (n*16+d) r
  |none=>none
def dReadN (s:List UInt8):Option Nat:=if s.length=16 then hexN 0 s else none
def dReadV (s:List UInt8):UInt64:=UInt64.ofNat ((dReadN s).getD 0)
def dReadB (s:List UInt8):Bool:=(dReadN s).isSome
end
section
def u8C (b:UInt8):List Value:=[.int .u8 (b.toNat:Int)]
def u64C (n:UInt64):List Value:=[.int .u64 (n.toNat:Int)]
theorem u8C_len (b:UInt8):(u8C b).length=1:=rfl
def SlB (v:Value)(l:List UInt8)(ob:List Blk):Prop:=Sl 5 1 v l.length (l.flatMap u8C) ob
def SlU (v:Value)(l:List UInt64)(ob:List Blk):Prop:=Sl 36 1 v l.length (l.flatMap u64C) ob
theorem u8_flat (l:List UInt8):l.flatMap u8C=l.map λb=> .int .u8 (b.toNat:Int):=by
 induction l with
 |nil=>rfl
 |cons b l ih=>rw [List.flatMap_cons,List.map_cons,ih];rfl
section
variable {P:Program}{o:Oper}
end
section
variable {P:Program}{n0:Nat}{ops:Array Oper}{W:World}{Q:Exit->Act->World->Prop}{rest:List Oper}{o:Oper}{L0:List Blk}{f:Nat->Value}
end
theorem Reads.lit9 {α:Type}{g:α->List Value}{w:World}{b:Nat}{cs:Array Value}{T:TypeId}{l:List α}{fr:Nat×Nat}(h:w.heap[b]?=some (.cells cs T fr))(e:cs.toList=l.flatMap g):Reads g w w.heap.size (some ⟨b,0,none⟩) l:=λ_=>
 ⟨b,0,rfl,(Array.getElem?_eq_some_iff.1 h).1,λk u hk=>by
  rw [Nat.zero_add,cell_of_row w b k cs T fr h,←Array.getElem?_toList,e];exact hk⟩
section
variable {M:List Nat}{P:Program}{n0:Nat}{ops:Array Oper}{W:World}{Q:Exit->Act->World->Prop}{rest:List Oper}{o:Oper}{L0:List Blk}{f:Nat->Value}
end
end
section
theorem BytesAt.reads {w:World}{e:TypeId}{g:Nat}{l:List UInt8}(h:BytesAt w e g l):Reads u8C w w.heap.size (some ⟨g,0,none⟩) l:=λh0=>⟨g,0,rfl,h.lt,λj u hj=>by
 rw [u8_flat,List.getElem?_map] at hj
 cases hl:l[j]? with
 |none=>rw [hl] at hj;cases hj
 |some b=>
  rw [hl] at hj
  obtain ⟨hlt,hb⟩:=List.getElem?_eq_some_iff.1 hl
  have:=h.cell hlt
  rw [Nat.zero_add,this,hb]
  exact hj⟩
section
variable {M:List Nat}{P:Program}{n:Nat}{W:World}{Q:Exit->Act->World->Prop}{c:Xc}
theorem x_bytes (d:Nat)(h:List Nat)(s:List UInt8){src dst e:TypeId}{x:Operand}(hg:∀ w0 w1 cap,Own M W w0 (xgo P n (d+50000) h c).L->BytesAt w1 e w0.heap.size s->Below w0.heap.size w0 w1->w0.heap.size<w1.heap.size->s.length<=cap->zA [] P n w1 Q (xNx (xgo P n (d+50000) h c) [] (.slice (some ⟨w0.heap.size,0,none⟩) s.length cap)))
  (hkt:(xgl P n (d+50000) h c,(xgo P n (d+50000) h c).top,zM (xA (xgo P n (d+50000) h c)) n (xgo P n (d+50000) h c).f (xO (xgo P n (d+50000) h c)),xNl (xgo P n (d+50000) h c).k,(xO (xgo P n (d+50000) h c)).op,ev n (xgo P n (d+50000) h c).f x,P.underlying src,P.underlying dst,P.underlying e)
   =(xgr P n (d+50000) h c,.ops (xA (xgo P n (d+50000) h c)) (xO (xgo P n (d+50000) h c)::xT (xgo P n (d+50000) h c)),true,true,.convert src dst x,.string (mkS s),some .string,some (.slice e),some (.int .u8)):=by kernel_rfl):zA M P n W Q c:=by
 simp only [Prod.mk.injEq] at hkt
 obtain ⟨hk,e1,e2,e3,e4,e5,e6,e7,e8⟩:=hkt
 refine zJ h c hk ?_
 generalize xgo P n (d+50000) h c=d at*
 have:d=⟨.ops (xA d) (xO d::xT d),d.k,d.L,d.f⟩:=by rw [←e1]
 rw [this]
 refine ⟨λhq=>gT e2 λw hO=> ?_⟩
 obtain ⟨h1,h2,h3⟩:=BytesAt.made w e s
 have hr:=Lib.run_convert_string_bytes (P:=P) w src dst e (mkS s) e6 e7 e8
 rw [y0] at hr
 refine kN (.slice (some ⟨w.heap.size,0,none⟩) s.length (grownCap w s.length 0 e)) (w':=Lib.bytesWorld w e (mkS s)) ?_ ?_
 ·unfold execOp
  simp only [e4,e5,Sem.run_bind,Sem.run_pure,Result.andThen_ok,hr]
 ·have:=((hg w _ (grownCap w s.length 0 e) hO h1 h2 h3 (grownCap_ge w s.length 0 e)).go hq).go _ (Own.start [] _)
  rw [KQ_any (M:=M) (W:=W) (M':=[]) (W':=Lib.bytesWorld w e (mkS s)) e3];exact this
end
end
section
def k8 (l:List UInt8)(k:Nat):UInt64:=(l.take k).foldl dStep dI
theorem dMixK_step {l:List UInt8}{k:Nat}(hk:k<l.length):dStep (k8 l k) l[k]=k8 l (k+1):=by
 unfold k8
 rw [List.take_succ_eq_append_getElem hk,List.foldl_append];rfl
theorem dMixK_all {l:List UInt8}{k:Nat}(hk:k=l.length):k8 l k=dMix l:=by unfold k8 dMix;rw [hk,List.take_length]
def dRootK (l:List UInt64)(k:Nat):UInt64:=(l.take k).foldl dPair (dSum [])
def dig9S:List UInt8:=[48,49,50,51,52,53,54,55,56,57,97,98,99,100,101,102]
def hexI (c:UInt8):Int:=match hexV c with|some d=>(d:Int)|none=> -1
end
section
end
section
set_option linter.unnecessarySimpa false
theorem fMay_at (A:Option Addr)(cap:Nat)(xs:List Fv)(W:World)(hv:FtIn W W.heap.size A xs):YC 56 #[.slice A xs.length cap] W (YR (.bool (bZ (x2 xs))) W):=by
 refine z8 Tryz.func56 (zE 8 [] ((8:Int)<(xs.length:Int)) (λh8=> ?_) (λh8=> ?_))
 ·exact z6 [] Z5 λw hO=>⟨by rw [n8 (.inl (by rw [dH];omega))],hO.below⟩
 refine y4 (α:=Nat) (λi=>[(0,.slice A xs.length cap),(3,.string (mkS (kQ (xs.map Fv.name) i))),(9,.slice A xs.length cap),(10,YI (xs.length:Int)),(11,YI (i:Int))]) (λ_=>[]) (λi m=>UpTo xs i/\m=xs.length-i) 0 xs.length [] ⟨UpTo.zero xs,rfl⟩ ?_
 rintro i mm g kk ⟨hup,hmm⟩ nx hkk
 subst hkk
 refine zE 12 [] ((i:Int)<(xs.length:Int)) (λh12=> ?_) (λh12=> ?_)
 rotate_left
 ·exact z6 [] Z4 λw hO=>⟨by rw [hup.may Om Om],hO.below⟩
 have hj:i<xs.length:=by omega
 have hxm:xs[i]∈xs:=List.getElem_mem hj
 have hnl:i<(xs.map Fv.name).length:=by rw [List.length_map];exact hj
 have hl1:kQ (xs.map Fv.name) (i+1)=xs[i].name:=by rw [pL hnl,List.getElem_map]
 have hlast:∀ h0:0<i,kQ (xs.map Fv.name) i=(xs[i-1]'Om).name:=λh=>by unfold kQ;rw [dif_pos ⟨h,by omega⟩,List.getElem_map]
 obtain ⟨eb,eo,hA,hel⟩:=hv.top.elem fL i hj
 have hnm:=hv.name _ hxm
 refine zU 13 [] hA xs.length cap i 2 hj (zP 14 [] 82 eb (eo+i*2+0) (fvV xs[i]) (λw hO=>hel w hO.below _ 0 _ Kr) (zD [] λb5=>z1 (v:= .bool (wdL xs[i].name)) [0,0] (λw hO=>j8 _ w hnm) (yG 17 (wdL xs[i].name) (λh17=> ?_) (λh17=> ?_))))
 rotate_left
 ·exact z6 [] Z5 λw hO=>⟨by rw [may_no1 hxm h17],hO.below⟩
 refine x_sle 23 [0] xs[i].name (kQ (xs.map Fv.name) i) (yG 23 (!Op.bytesLess (kQ (xs.map Fv.name) i) xs[i].name) (λh23=> ?_) (λh23=> ?_))
 ·refine z6 [] Z5 λw hO=>⟨?_,hO.below⟩
  have h0:0<i:=Nat.pos_of_ne_zero λh0=>by
   subst h0
   have:kQ (xs.map Fv.name) 0=[]:=by unfold kQ;rw [dif_neg Om]
   rw [this,less_nil (λe=>by rw [e] at h17;revert h17;decide)] at h23;cases h23
  rw [hlast h0] at h23
  have e2:xs[i-1+1]'Om=xs[i]:=by congr 1;omega
  rw [may_no2 (z:=i-1) Om (by rw [e2];simpa using h23)]
 have h2:∀ h0:0<i,Op.bytesLess (xs[i-1]'Om).name xs[i].name=true:=λh0=>by rw [←hlast h0];simpa using h23
 have hc:∀ w,Below W.heap.size W w->YC 98 #[.slice xs[i].A xs[i].of.length xs[i].cap,.slice A xs.length cap] w (YR (.bool (gV (x2 xs) xs[i].of)) w):=λw hb=>fmayOf_any A cap xs xs[i].A xs[i].cap xs[i].of w (hv.on hb hb.size) ((hv.each _ hxm).on hb hb.size) (hv.m _ hxm) (hv.text _ hxm)
 refine z1 (v:= .bool (gV (x2 xs) xs[i].of)) [0] (λw hO=>hc w hO.below) (yG 29 (gV (x2 xs) xs[i].of) (λh29=> ?_) (λh29=> ?_))
 rotate_left
 ·exact z6 [] Z5 λw hO=>⟨by rw [may_no3 hxm h29],hO.below⟩
 exact vV 3 [0] (.string (mkS xs[i].name)) (.string (mkS (kQ (xs.map Fv.name) (i+1)))) (by rw [hl1]) (x_i 34 [] ((i+1:Nat):Int) (zH [] [] (λw hO=>hO.no) (nx (i+1) (xs.length-(i+1)) [] Om ⟨hup.next hj h17 h2 h29,rfl⟩ Kr Kr)))
end
section
def byK (n:UInt64)(k:Nat):List UInt8:=(List.range k).map λi=>(n>>>UInt64.ofNat (8*(7-i))).toUInt8
end
section
def rot4 (x:UInt64):UInt64:=x<<<4|||x>>>60
def rotN (n:UInt64):Nat->UInt64
 |0=>n
 |k+1=>rot4 (rotN n k)
def padB (xs:List UInt8)(n:Nat):List UInt8:=xs++List.replicate (n-xs.length) 0
end
section
def arrC (bs:List UInt8):Array Value:=(bs.flatMap u8C).toArray
section
variable {P:Program}{o:Oper}
end
end
section
theorem d9rot13_any (x:UInt64)(W:World):YC 120 #[.int .u64 (x.toNat:Int),YI 13] W (YR (.int .u64 ((rot13 x).toNat:Int)) W):=by
 refine Z2 (n:=17) Tryz.func120 rfl (ZO (Zv (.int .u64 0) (ZR (Zv (YI 13) (Zv (.int .u64 13) (Zv (.int .u64 13) (Zv (.int .u64 13) ?_)))))))
 refine ZR (Zv (.int .u64 (x.toNat:Int)) (Zv (.int .u64 13) (gB (.int .u64 ((x<<<UInt64.ofNat 13).toNat:Int)) Kr (run_shl64 (x:=x) (yk:= .u64) (n:=13) rfl Kr Kr (by decide)) (Zv (.int .u64 (x.toNat:Int)) (Zv (.int .u64 13) (Zv (.int .u64 51) (gB (.int .u64 ((x>>>UInt64.ofNat 51).toNat:Int)) Kr (run_shr64 (x:=x) (yk:= .u64) (n:=51) rfl Kr Kr (by decide)) (gB (.int .u64 (((x<<<UInt64.ofNat 13)|||(x>>>UInt64.ofNat 51)).toNat:Int)) Kr (run_or64 (x:=(x<<<UInt64.ofNat 13)) (y:=(x>>>UInt64.ofNat 51)) rfl Kr Kr) ?_))))))))
 exact Zv (.int .u64 (((x<<<UInt64.ofNat 13)|||(x>>>UInt64.ofNat 51)).toNat:Int)) (ZN (xB (ZF (.int .u64 (((x<<<UInt64.ofNat 13)|||(x>>>UInt64.ofNat 51)).toNat:Int)) Tryz.results120 (λw hO=>⟨by rw [show rot13 x=((x<<<UInt64.ofNat 13)|||(x>>>UInt64.ofNat 51)) from rfl],hO.below⟩))))
theorem d9Sum_any (A:Option Addr)(cap:Nat)(l:List UInt8)(W:World)(hv:Reads u8C W W.heap.size A l)(hn:l.length<=1000000):YC 63 #[.slice A l.length cap] W (YR (.int .u64 ((dSum l).toNat:Int)) W):=by
 refine Z2 (n:=23) Tryz.func63 rfl (ZO (Zv (.int .u64 0) (ZR (Zv (.int .u64 11400714819323198485) (ZN (y7 ?_))))))
 refine ZO (Zv (.slice A l.length cap) (Zv (YI (l.length:Int)) (Zv (YI 0) (ZN (vQ (tE (λL f m=>∃ (k:Nat) (j:Nat->Value),(k<=l.length)/\L=[]/\f=p5 j [(0,.slice A l.length cap),(3,.int .u64 ((k8 l k).toNat:Int)),(6,.slice A l.length cap),(7,YI (l.length:Int)),(8,YI (k:Int))]/\m=l.length-k) (l.length-0) ⟨0,_,Nat.zero_le _,rfl,ZU,rfl⟩ ?_))))))
 rintro L f m ⟨k,j,hrel,rfl,rfl,rfl⟩
 refine y7 (yD ?_)
 by_cases h1:(k:Int)<(l.length:Int)
 ·have hk:k<l.length:=by omega
  obtain ⟨bp,off,hA,hlt,hcell⟩:=hv Om
  obtain ⟨s,hs⟩:∃ s,l[k]=s:=⟨_,rfl⟩
  refine Zg h1 (ZN (y7 (Zt (ZB (y7 (vQ (ZO (gB (Zp bp (off+k*1)) Kr (ZA (b:=bp) (off:=off) (c:=cap) (n:=l.length) (k:= .i64) (j:=(k:Int)) (e:=5) (sz:=1) hA) ?_))))))))
  refine Zo (.int .u8 (s.toNat:Int)) (a:=⟨bp,off+k*1,none⟩) (λw hO=>dO (ty:=5) u8C_len (λj u h=>(hO.below.cell (p:=⟨bp,off+j,none⟩) hlt).trans (hcell j u h)) k 0 hk Om _ (by rw [hs];kernel_rfl)) (Zv (.int .u8 (s.toNat:Int)) (ZN (yD (Zv (.int .u64 ((k8 l k).toNat:Int)) (Zv (.int .u8 (s.toNat:Int)) (gB (.int .u64 (((s).toUInt64).toNat:Int)) Kr (run_to64 (x:=s) rfl Kr (by rw [Tryz.underlying5];rfl) Tryz.underlying36) (gB (.int .u64 (((k8 l k)^^^(s).toUInt64).toNat:Int)) Kr (run_xor64 (x:=(k8 l k)) (y:=(s).toUInt64) rfl Kr Kr) (Zc (k:=120) (args:= #[.int .u64 (((k8 l k)^^^(s).toUInt64).toNat:Int),YI 13]) (.int .u64 ((rot13 ((k8 l k)^^^(s).toUInt64)).toNat:Int)) (λw _=>d9rot13_any ((k8 l k)^^^(s).toUInt64) w) (gB (.int .u64 (((rot13 ((k8 l k)^^^(s).toUInt64))*(18397679294719823053:UInt64)).toNat:Int)) Kr (run_mul64 (x:=(rot13 ((k8 l k)^^^(s).toUInt64))) (y:=(18397679294719823053:UInt64)) rfl Kr Kr) (Zv (.int .u64 (((rot13 ((k8 l k)^^^(s).toUInt64))*(18397679294719823053:UInt64)).toNat:Int)) ?_))))))))))
  refine bL (dL (kK (yD (Zu (k:= .i64) (((k+1:Nat):Int)) (IntWalk.i64_in _ Om) (Zv (YI ((k+1:Nat):Int)) (bL ?_))))))
  have hstep:((rot13 ((k8 l k)^^^(s).toUInt64))*(18397679294719823053:UInt64))=k8 l (k+1):=by rw [←dMixK_step hk,hs];rfl
  rw [hstep]
  exact dJ (m':=l.length-(k+1)) Om ⟨k+1,_,by omega,rfl,ZU,rfl⟩
 refine Zh h1 (ZN (y7 (Zf (tF (gM (qL (qM (kK (y7 (yD ?_))))))))))
 exact Zv (.int .u64 ((k8 l k).toNat:Int)) (Zv (.int .u64 ((k8 l k).toNat:Int)) (gB (.int .u64 (((k8 l k)>>>UInt64.ofNat 29).toNat:Int)) Kr (run_shr64 (x:=(k8 l k)) (yk:= .u64) (n:=29) rfl Kr Kr (by decide)) (gB (.int .u64 (((k8 l k)^^^((k8 l k)>>>UInt64.ofNat 29)).toNat:Int)) Kr (run_xor64 (x:=(k8 l k)) (y:=((k8 l k)>>>UInt64.ofNat 29)) rfl Kr Kr) (Zv (.int .u64 (((k8 l k)^^^((k8 l k)>>>UInt64.ofNat 29)).toNat:Int)) (ZN (xB (ZF (.int .u64 (((k8 l k)^^^((k8 l k)>>>UInt64.ofNat 29)).toNat:Int)) Tryz.results63 (λw hO=>⟨by rw [show dSum l=((k8 l k)^^^((k8 l k)>>>UInt64.ofNat 29)) from by unfold dSum dEnd;rw [←dMixK_all (l:=l) (k:=k) Om];rfl],hO.below⟩))))))))
end
section
set_option linter.unnecessarySimpa false
theorem wd_ne' {s:List UInt8}(h:wdL s=true):s≠[]:=λe=>by subst e;exact absurd h (by decide)
def rcB (r:Rv)(b:Nat):Blk:=⟨b,(rvC r).toArray,28⟩
def brB (x:Bv)(b:Nat):Blk:=⟨b,(bvC x).toArray,80⟩
def ftB (x:Fv)(b:Nat):Blk:=⟨b,(fvC x).toArray,82⟩
theorem ge_of {W w:World}{R o:List Blk}(h:Own [] W w (R++o)):∀ x∈o,W.heap.size<=x.b:=λx hx=>(h.base x (List.mem_append_right _ hx)).elim id λq=>by simp at q
theorem qText_any (r:Rv)(W:World)(hr:RcIn W W.heap.size r)(hfe:∀ n∈r.needs,∀ u∈n.any,∀ s∈u.fs,s≠[])(ht:(g6 r.rt).length<=100000000)(hK:RecLib W):YC 58 #[rvV r] W (YR (.string (mkS (g6 r.rt))) W):=by
 have hT:g6 r.rt=jR r.rt++r.needs.flatMap (λn=>gP n.nt)++r.bars.flatMap (λb=>bG b.bt)++r.fts.flatMap (λf=>gR f.ft):=by
  unfold g6;simp only [Rv.rt,x2,List.flatMap_map]
 have hl:=congrArg List.length hT
 simp only [List.length_append] at hl
 have hsn:=hr.sn
 have hnn:=hr.nn;have hnb:=hr.nb;have hfn:=hr.fts.n
 have hH:jR r.rt=zB 32 [hD,r.name,r.ver.print]++[10]:=by
  show txPack++r.name++[32]++r.ver.print++[10]=_
  simp [zB,txPack,hD]
 have hHl:=congrArg List.length hH
 simp only [List.length_append,List.length_cons,List.length_nil] at hHl
 have hP:∀ w,Below W.heap.size W w->YC 104 #[x5 r.ver] w (YR (.string (mkS r.ver.print)) w):=λw hb=>vprint_any r.ver w hsn.2.1 hsn.2.2 (hK.on hb).lib.tab
 refine z8 Tryz.func58 (zV [] λb1=>zD [] λb3=>yJ 7 [] [rcB r b1] (λw hO=>hO.past 1 _) (zK [0,0] 4 (z1 (v:= .string (mkS r.ver.print)) [] (λw hO=>hP w hO.below) (zK [] 5 (kM 3 9 #[.string (mkS hD),.string (mkS r.name),.string (mkS r.ver.print)] λg=>zK [] 6 ?_)))))
 refine xh_callL [⟨g, #[.string (mkS hD),.string (mkS r.name),.string (mkS r.ver.print)],9⟩,⟨b3, #[.pointer none,.slice none 0 0],133⟩,rcB r b1] [rcB r b1] ([⟨g, #[.string (mkS hD),.string (mkS r.name),.string (mkS r.ver.print)],9⟩]++[⟨b3, #[.pointer none,.slice none 0 0],133⟩]) [rcB r b1] (λw hO=>hO.perm ((List.Perm.cons _ (List.Perm.swap ..)).trans (List.Perm.swap ..))) (λo w hO=>hO.sublist (List.sublist_append_left _ _)) (q_line b3 [] [hD,r.name,r.ver.print] _ [rcB r b1] _ _ (BuR.new b3) (qlit g 3 _ _ rfl rfl Om) (by simp) Om (by simp) (by simp [zB,hD])) λv1 o1 ⟨ob1,k1,k2⟩=> ?_
 subst k2
 rw [List.nil_append,←hH] at k1
 refine zH [0] (rcB r b1::ob1) (λw hO=>(hO.past 0 (rcB r b1::⟨g, #[.string (mkS hD),.string (mkS r.name),.string (mkS r.ver.print)],9⟩::ob1)).swap.past 1 _) (y4 (α:=Nat×List Blk) (λx=>[(1,Zp b1 0),(3,Zp b3 0),(18,.slice r.nA r.needs.length r.nc),(19,YI (r.needs.length:Int)),(20,YI (x.1:Int))]) (λx=>rcB r b1::x.2) (λx m=>(x.1<=r.needs.length/\BuR b3 (jR r.rt++(r.needs.take x.1).flatMap (λn=>gP n.nt)) x.2)/\m=r.needs.length-x.1) (0,ob1) r.needs.length [] ⟨⟨Nat.zero_le _,by simp only [List.take_zero,List.flatMap_nil,List.append_nil];exact k1⟩,rfl⟩ ?_)
 rintro ⟨i,o⟩ mm gg kk ⟨⟨hi,ho⟩,hmm⟩ nx hkk
 subst hkk
 replace hi:i<=r.needs.length:=hi
 replace ho:BuR b3 (jR r.rt++(r.needs.take i).flatMap (λn=>gP n.nt)) o:=ho
 refine zE 21 [] ((i:Int)<(r.needs.length:Int)) (λh21=> ?_) (λh21=> ?_)
 ·have hj:i<r.needs.length:=by omega
  obtain ⟨eb,eo,hA,hel⟩:=hr.needs.elem wD i hj
  have hpt:=tS (λn:Nv=>gP n.nt) (l:=r.needs) (i+1)
  rw [bP (λn:Nv=>gP n.nt) hj,List.length_append] at hpt
  have hst:=bP (λn:Nv=>gP n.nt) hj
  have hsm:r.needs[i]∈r.needs:=List.getElem_mem hj
  have hel0:∀ w,Below W.heap.size W w->(loadVar 74 ⟨eb,eo+i*3+0,none⟩).run Tryz.prog w= .ok (nvV r.needs[i]) w:=λw hw=>hel w hw _ 0 _ Kr
  have hra:=hr.any _ hsm;have hrf:=hr.wfs _ hsm;have hna:=hr.na _ hsm;have hnf:=hr.nf _ hsm;have hsw:=hr.sw _ hsm;have hff:=hfe _ hsm
  have hw2:jR r.rt++(r.needs.take i).flatMap (λn=>gP n.nt)++gP r.needs[i].nt=jR r.rt++(r.needs.take (i+1)).flatMap (λn=>gP n.nt):=by rw [hst,List.append_assoc]
  have hpl:(jR r.rt++(r.needs.take i).flatMap (λn=>gP n.nt)).length+(gP r.needs[i].nt).length<=300000000:=by rw [List.length_append];omega
  generalize r.needs[i]=n at hel0 hra hrf hna hnf hsw hff hw2 hpl
  generalize jR r.rt++(r.needs.take i).flatMap (λn=>gP n.nt)=done at*
  refine zU 22 [] hA r.needs.length r.nc i 3 hj (zP 23 [] 74 eb (eo+i*3+0) (nvV n) (λw hO=>hel0 w hO.below) (zD [] λb5=> ?_))
  have hc:∀ w,Own [] W w ([ndB n b5,rcB r b1]++o)->YC 105 #[.pointer (some ⟨b3,0,none⟩),nvV n] w λe w'=>∃ v o',e= .returned v/\BuR b3 (done++gP n.nt) o'/\Own (o.map Blk.b) w w' o':=λw hO=>(qNeedW_any W.heap.size b3 done n o w ho (Own.lentR hO) (ge_of hO) hO.size (hra.on hO.below (Nat.le_refl _)) (λu hu=>(hrf u hu).on hO.below (Nat.le_refl _)) hna hnf hff hsw hpl).mono λe w' ⟨o',q1,q2,q3⟩=>⟨_,o',q1,q2,q3⟩
  refine yW [0,0] (ndB n b5::rcB r b1::o) [ndB n b5,rcB r b1] o (λw hO=>hO) hc λv2 o2 q1=> ?_
  rw [hw2] at q1
  exact x_i 20 [] ((i+1:Nat):Int) (zH [] (rcB r b1::o2) (λw hO=>hO.past 1 _) (nx (i+1,o2) (r.needs.length-(i+1)) [] Om ⟨⟨hj,q1⟩,rfl⟩ Kr Kr))
 rw [List.take_of_length_le (show r.needs.length<=i by omega)] at ho
 clear nx
 have hNl:(jR r.rt++r.needs.flatMap (λn=>gP n.nt)).length=(jR r.rt).length+(r.needs.flatMap λn=>gP n.nt).length:=List.length_append
 generalize hN:jR r.rt++r.needs.flatMap (λn=>gP n.nt)=front at*
 refine y4 (α:=Nat×List Blk) (λx=>[(1,Zp b1 0),(3,Zp b3 0),(28,.slice r.bA r.bars.length r.bc),(29,YI (r.bars.length:Int)),(30,YI (x.1:Int))]) (λx=>rcB r b1::x.2) (λx m=>(x.1<=r.bars.length/\BuR b3 (front++(r.bars.take x.1).flatMap (λb=>bG b.bt)) x.2)/\m=r.bars.length-x.1) (0,o) r.bars.length [0] ⟨⟨Nat.zero_le _,by simp only [List.take_zero,List.flatMap_nil,List.append_nil];exact ho⟩,rfl⟩ ?_
 clear ho
 rintro ⟨i2,o2⟩ m2 g2 kk ⟨⟨hi2,ho⟩,hm2⟩ nx hkk
 subst hkk
 replace hi2:i2<=r.bars.length:=hi2
 replace ho:BuR b3 (front++(r.bars.take i2).flatMap (λb=>bG b.bt)) o2:=ho
 refine zE 31 [] ((i2:Int)<(r.bars.length:Int)) (λh31=> ?_) (λh31=> ?_)
 ·have hj:i2<r.bars.length:=by omega
  obtain ⟨eb,eo,hA,hel⟩:=hr.bars.elem tZ i2 hj
  have hpt:=tS (λb:Bv=>bG b.bt) (l:=r.bars) (i2+1)
  rw [bP (λb:Bv=>bG b.bt) hj,List.length_append] at hpt
  have hst:=bP (λb:Bv=>bG b.bt) hj
  have hsm:r.bars[i2]∈r.bars:=List.getElem_mem hj
  have hel0:∀ w,Below W.heap.size W w->(loadVar 80 ⟨eb,eo+i2*3+0,none⟩).run Tryz.prog w= .ok (bvV r.bars[i2]) w:=λw hw=>hel w hw _ 0 _ Kr
  have hsb:=hr.sb _ hsm
  have hw2:front++(r.bars.take i2).flatMap (λb=>bG b.bt)++bG r.bars[i2].bt=front++(r.bars.take (i2+1)).flatMap (λb=>bG b.bt):=by rw [hst,List.append_assoc]
  have hpl:(front++(r.bars.take i2).flatMap (λb=>bG b.bt)).length+(bG r.bars[i2].bt).length<=300000000:=by rw [List.length_append];omega
  generalize r.bars[i2]=x at hel0 hsb hw2 hpl
  generalize front++(r.bars.take i2).flatMap (λb=>bG b.bt)=done at*
  have hbT:bG x.bt=zB 32 [wBar,x.name,x.rng]++[10]++bY t1 x.wh:=by
   rw [maybe_when]
   show txBar++x.name++[32]++x.rng++[10]++pY x.wh=_
   simp [zB,txBar,wBar]
  have hbl:=congrArg List.length hbT
  simp only [List.length_append,List.length_cons,List.length_nil] at hbl
  refine zU 32 [] hA r.bars.length r.bc i2 3 hj (zP 33 [] 80 eb (eo+i2*3+0) (bvV x) (λw hO=>hel0 w hO.below) (zD [] λb7=>kG [0,0,0] 3 9 #[.string (mkS wBar),.string (mkS x.name),.string (mkS x.rng)] λg3=> ?_))
  refine yW [] (⟨g3, #[.string (mkS wBar),.string (mkS x.name),.string (mkS x.rng)],9⟩::brB x b7::rcB r b1::o2) [brB x b7,rcB r b1] ([⟨g3, #[.string (mkS wBar),.string (mkS x.name),.string (mkS x.rng)],9⟩]++o2) (λw hO=>own_rot3 hO) (q_line b3 done [wBar,x.name,x.rng] _ _ _ o2 ho (qlit g3 3 _ _ rfl rfl Om) Om Om (by simp) (by simp [zB,wBar])) λv2 o3 ⟨ob3,q1,q2⟩=> ?_
  subst q2
  refine yW [0] (brB x b7::rcB r b1::⟨g3, #[.string (mkS wBar),.string (mkS x.name),.string (mkS x.rng)],9⟩::ob3) [brB x b7,rcB r b1,⟨g3, #[.string (mkS wBar),.string (mkS x.name),.string (mkS x.rng)],9⟩] ob3 (λw hO=>hO) (q_maybe b3 _ t1 x.wh _ ob3 q1 (by simp only [List.length_append,List.length_cons,List.length_nil];omega) (by decide) Om) λv3 o4 q3=> ?_
  rw [List.append_assoc] at q3
  refine x_i 30 [] ((i2+1:Nat):Int) (zH [] (rcB r b1::o4) (λw hO=>(hO.past 1 (rcB r b1::⟨g3, #[.string (mkS wBar),.string (mkS x.name),.string (mkS x.rng)],9⟩::o4)).swap.past 1 _) (nx (i2+1,o4) (r.bars.length-(i2+1)) [] Om ⟨⟨hj, ?_⟩,rfl⟩ Kr Kr))
  show BuR b3 (front++(r.bars.take (i2+1)).flatMap (λb=>bG b.bt)) o4
  rw [←hw2,hbT];exact q3
 rw [List.take_of_length_le (show r.bars.length<=i2 by omega)] at ho
 clear nx
 have hBl:(front++r.bars.flatMap (λb=>bG b.bt)).length=front.length+(r.bars.flatMap λb=>bG b.bt).length:=List.length_append
 generalize hN2:front++r.bars.flatMap (λb=>bG b.bt)=fore at*
 refine y4 (α:=Nat×List Blk) (λx=>[(1,Zp b1 0),(3,Zp b3 0),(45,.slice r.fA r.fts.length r.fc),(46,YI (r.fts.length:Int)),(47,YI (x.1:Int))]) (λx=>rcB r b1::x.2) (λx m=>(x.1<=r.fts.length/\BuR b3 (fore++(r.fts.take x.1).flatMap (λf=>gR f.ft)) x.2)/\m=r.fts.length-x.1) (0,o2) r.fts.length [0] ⟨⟨Nat.zero_le _,by simp only [List.take_zero,List.flatMap_nil,List.append_nil];exact ho⟩,rfl⟩ ?_
 clear ho
 rintro ⟨i3,o3⟩ m3 g3 kk ⟨⟨hi3,ho⟩,hm3⟩ nx hkk
 subst hkk
 replace hi3:i3<=r.fts.length:=hi3
 replace ho:BuR b3 (fore++(r.fts.take i3).flatMap (λf=>gR f.ft)) o3:=ho
 refine zE 48 [] ((i3:Int)<(r.fts.length:Int)) (λh48=> ?_) (λh48=> ?_)
 rotate_left
 ·rw [List.take_of_length_le (show r.fts.length<=i3 by omega)] at ho
  have hR:fore++r.fts.flatMap (λf=>gR f.ft)=g6 r.rt:=hT.symm
  rw [hR] at ho
  refine x_callO [] (rcB r b1::o3) (Rr:=λv L'=>v= .string (mkS (g6 r.rt))/\L'=[]) (λw hO=>(rstring_any b3 (g6 r.rt) o3 W w ho (hO.past 1 _) (λe=>by rw [e] at hl;simp only [List.length_nil] at hl;omega)).mono λe w' ⟨q1,q2⟩=>⟨_,[],q1,⟨rfl,rfl⟩,q2⟩) λv4 L4 ⟨q1,q2⟩=> ?_
  subst q1;subst q2
  exact z6 [] (.string (mkS (g6 r.rt))) λw hO=>⟨rfl,hO.below⟩
 have hj:i3<r.fts.length:=by omega
 obtain ⟨eb,eo,hA,hel⟩:=hr.fts.top.elem fL i3 hj
 have hpt:=tS (λf:Fv=>gR f.ft) (l:=r.fts) (i3+1)
 rw [bP (λf:Fv=>gR f.ft) hj,List.length_append] at hpt
 have hst:=bP (λf:Fv=>gR f.ft) hj
 have hsm:r.fts[i3]∈r.fts:=List.getElem_mem hj
 have hel0:∀ w,Below W.heap.size W w->(loadVar 82 ⟨eb,eo+i3*2+0,none⟩).run Tryz.prog w= .ok (fvV r.fts[i3]) w:=λw hw=>hel w hw _ 0 _ Kr
 have hru:=hr.fts.each _ hsm;have hmu:=hr.fts.m _ hsm
 have hw2:fore++(r.fts.take i3).flatMap (λf=>gR f.ft)++gR r.fts[i3].ft=fore++(r.fts.take (i3+1)).flatMap (λf=>gR f.ft):=by rw [hst,List.append_assoc]
 have hpl:(fore++(r.fts.take i3).flatMap (λf=>gR f.ft)).length+(gR r.fts[i3].ft).length<=300000000:=by rw [List.length_append];omega
 generalize r.fts[i3]=x at hel0 hru hmu hw2 hpl
 generalize fore++(r.fts.take i3).flatMap (λf=>gR f.ft)=done at*
 have hfT:gR x.ft=zB 32 (qB::x.name::x.of)++[10]:=rfl
 have hfl:=congrArg List.length hfT
 simp only [List.length_append,List.length_cons,List.length_nil] at hfl
 refine zU 49 [] hA r.fts.length r.fc i3 2 hj (zP 50 [] 82 eb (eo+i3*2+0) (fvV x) (λw hO=>hel0 w hO.below) (zD [] λb9=>kG [0,0] 2 9 #[.string (mkS qB),.string (mkS x.name)] λg5=> ?_))
 refine x_appR (g:=zW) [1] x.of [] [⟨g5, #[.string (mkS qB),.string (mkS x.name)],9⟩] (ftB x b9::rcB r b1::o3) (⟨g5, #[.string (mkS qB),.string (mkS x.name)],9⟩::ftB x b9::rcB r b1::o3) (cp:=x.cap) (λw hO=>hO) zN strC_one (λw hO=>hru.on hO.below hO.below.size) (sl_block (N:=2) rfl (by unfold maxLen;omega)) Om λv' o' h=> ?_
 have hS:SlT v' (qB::x.name::x.of) o':=by
  unfold SlT
  rw [yL,show (qB::x.name::x.of).length=2+x.of.length by simp only [List.length_cons];omega]
  exact h
 refine yW [] ([]++o'++(ftB x b9::rcB r b1::o3)) [ftB x b9,rcB r b1] (o'++o3) (λw hO=>hO.perm (by
  have:=List.perm_append_comm_assoc o' [ftB x b9,rcB r b1] o3
  simpa using this)) (q_line b3 done (qB::x.name::x.of) v' _ o' o3 ho hS Om Om (by simp only [List.length_cons];omega) (by simp [zB,qB])) λv2 o4 ⟨ob4,q1,q2⟩=> ?_
 subst q2
 rw [←hfT,hw2] at q1
 exact x_i 47 [] ((i3+1:Nat):Int) (zH [] (rcB r b1::ob4) (λw hO=>(hO.past 1 (rcB r b1::(o'++ob4))).sublist (List.Sublist.cons_cons _ (List.sublist_append_right _ _))) (nx (i3+1,ob4) (r.fts.length-(i3+1)) [] Om ⟨⟨hj,q1⟩,rfl⟩ Kr Kr))
theorem parts_ne {r:Rt}(h:(vF r).1=0):∀ n∈r.needs,∀ u∈n.any,∀ s∈u.fs,s≠[]:=λn hn u hu s hs=>by
 have h1:=(pD h).1 n hn
 have h2:=(n7 h1).2.2.1 u hu
 have h3:=(wish_fine h2).2.2
 unfold pZ at h3
 simp only [Bool.and_eq_true] at h3
 exact wd_ne' (List.all_eq_true.1 h3.1.1.1 s hs)
theorem qCheck_any (r:Rv)(W:World)(hr:RcIn W W.heap.size r)(hK:RecLib W):YC 16 #[rvV r] W (YR (.tuple #[YI (zX r.rt).1,YI (zX r.rt).2]) W):=by
 have hE:zX r.rt=if nmL r.name=false then (4,0) else if r.ver.may=false then (5,0) else if 8<r.needs.length\/8<r.bars.length then (3,0) else if (vF r.rt).1≠0 then vF r.rt else if 4096<(g6 r.rt).length then (3,0) else (0,0):=by
  unfold zX;simp only [Rv.rt,List.length_map]
 have hsn:=hr.sn;have hnn:=hr.nn;have hnb:=hr.nb;have hfn:=hr.fts.n
 have c1:∀ w,YC 52 #[.string (mkS r.name)] w (YR (.bool (nmL r.name)) w):=λw=>dG r.name w hsn.1
 have c2:∀ w,YC 53 #[x5 r.ver] w (YR (.bool r.ver.may) w):=λw=>fH r.ver w (by show r.pre.length<_;omega) (by show r.bld.length<_;omega)
 refine z8 Tryz.func16 (zV [] λb1=>z1 (v:= .bool (nmL r.name)) [0] (λw hO=>c1 w) (yG 16 (nmL r.name) (λe1=> ?_) (λe1=> ?_)))
 rotate_left
 ·exact vB [] (YI 4) (YI 0) λw hO=>⟨by rw [hE,if_pos e1],hO.below⟩
 rw [if_neg (by simp [e1])] at hE
 refine z1 (v:= .bool r.ver.may) [0] (λw hO=>c2 w) (yG 21 r.ver.may (λe2=> ?_) (λe2=> ?_))
 rotate_left
 ·exact vB [] (YI 5) (YI 0) λw hO=>⟨by rw [hE,if_pos e2],hO.below⟩
 rw [if_neg (by simp [e2])] at hE
 refine zE 27 [0] ((r.needs.length:Int)>8) (λh27=> ?_) (λh27=> ?_)
 ·exact vB [] (YI 3) (YI 0) λw hO=>⟨by rw [hE,if_pos (.inl Om)],hO.below⟩
 refine zE 32 [0] ((r.bars.length:Int)>8) (λh32=> ?_) (λh32=> ?_)
 ·exact vB [] (YI 3) (YI 0) λw hO=>⟨by rw [hE,if_pos (.inr Om)],hO.below⟩
 rw [if_neg Om] at hE
 have hP:=partsE_is r
 refine y4 (α:=Nat) (λi=>[(1,Zp b1 0),(35,.slice r.nA r.needs.length r.nc),(36,YI (r.needs.length:Int)),(37,YI (i:Int))]) (λ_=>[rcB r b1]) (λi m=>(i<=r.needs.length∧∀ n∈r.needs.take i,gE r.name n.nt=0)/\m=r.needs.length-i) 0 r.needs.length [0] ⟨⟨Nat.zero_le _,λy h=>by simp at h⟩,rfl⟩ ?_
 rintro i mm g kk ⟨⟨hi,hno⟩,hmm⟩ nx hkk
 subst hkk
 refine zE 38 [] ((i:Int)<(r.needs.length:Int)) (λh38=> ?_) (λh38=> ?_)
 ·have hj:i<r.needs.length:=by omega
  obtain ⟨eb,eo,hA,hel⟩:=hr.needs.elem wD i hj
  have hgo:=kI (p:=λn:Nv=>gE r.name n.nt=0) hj hno
  have hat:=nH (f:=λn:Nv=>gE r.name n.nt) 0 hj hno
  have hsm:r.needs[i]∈r.needs:=List.getElem_mem hj
  have hel0:∀ w,Below W.heap.size W w->(loadVar 74 ⟨eb,eo+i*3+0,none⟩).run Tryz.prog w= .ok (nvV r.needs[i]) w:=λw hw=>hel w hw _ 0 _ Kr
  have hra:=hr.any _ hsm;have hrf:=hr.wfs _ hsm;have hna:=hr.na _ hsm;have hnf:=hr.nf _ hsm;have hsw:=hr.sw _ hsm;have hsu:=hr.su _ hsm
  generalize r.needs[i]=n at hel0 hgo hat hra hrf hna hnf hsw hsu
  have hc:∀ w,Below W.heap.size W w->YC 54 #[nvV n,.string (mkS r.name)] w (YR (YI (gE r.name n.nt)) w):=λw hb=>qNeed_any r.name n w (hra.on hb hb.size) (λu hu=>(hrf u hu).on hb hb.size) hna hnf hsw hsu (hK.on hb)
  refine zU 40 [] hA r.needs.length r.nc i 3 hj (zP 41 [] 74 eb (eo+i*3+0) (nvV n) (λw hO=>hel0 w hO.below) (zD [] λb5=>z1 (v:=YI (gE r.name n.nt)) [0,0,1] (λw hO=>hc w hO.below) (qT 47 [] (gE r.name n.nt=0) (λh=> ?_) (λh=> ?_))))
  ·exact x_i 37 [] ((i+1:Nat):Int) (zH [] [rcB r b1] (λw hO=>hO.past 1 _) (nx (i+1) (r.needs.length-(i+1)) [] Om ⟨⟨hj,hgo h⟩,rfl⟩ Kr Kr))
  ·refine vB [] (YI (gE r.name n.nt)) (YI (i:Int)) λw hO=>⟨?_,hO.below⟩
   rw [hat h] at hP
   rw [if_pos h] at hP
   rw [hE,if_pos (by rw [hP];exact h),hP];simp only [Nat.zero_add]
 have h1:=qK (k:=0) (qR (p:=λn:Nv=>gE r.name n.nt=0) (show r.needs.length<=i by omega) hno)
 rw [h1,if_neg (by simp)] at hP
 clear nx
 refine y4 (α:=Nat) (λi=>[(1,Zp b1 0),(52,.slice r.bA r.bars.length r.bc),(53,YI (r.bars.length:Int)),(54,YI (i:Int))]) (λ_=>[rcB r b1]) (λi m=>(i<=r.bars.length∧∀ b∈r.bars.take i,jZ r.name b.bt=0)/\m=r.bars.length-i) 0 r.bars.length [0] ⟨⟨Nat.zero_le _,λy h=>by simp at h⟩,rfl⟩ ?_
 rintro i2 m2 g2 kk ⟨⟨hi2,hno2⟩,hmm2⟩ nx hkk
 subst hkk
 refine zE 55 [] ((i2:Int)<(r.bars.length:Int)) (λh55=> ?_) (λh55=> ?_)
 ·have hj:i2<r.bars.length:=by omega
  obtain ⟨eb,eo,hA,hel⟩:=hr.bars.elem tZ i2 hj
  have hgo:=kI (p:=λb:Bv=>jZ r.name b.bt=0) hj hno2
  have hat:=nH (f:=λb:Bv=>jZ r.name b.bt) 0 hj hno2
  have hsm:r.bars[i2]∈r.bars:=List.getElem_mem hj
  have hel0:∀ w,Below W.heap.size W w->(loadVar 80 ⟨eb,eo+i2*3+0,none⟩).run Tryz.prog w= .ok (bvV r.bars[i2]) w:=λw hw=>hel w hw _ 0 _ Kr
  have hsb:=hr.sb _ hsm
  generalize r.bars[i2]=b at hel0 hgo hat hsb
  have hc:∀ w,Below W.heap.size W w->YC 55 #[bvV b,.string (mkS r.name)] w (YR (YI (jZ r.name b.bt)) w):=λw hb=>qBar_any b r.name w hsb (hK.on hb)
  refine zU 57 [] hA r.bars.length r.bc i2 3 hj (zP 58 [] 80 eb (eo+i2*3+0) (bvV b) (λw hO=>hel0 w hO.below) (zD [] λb8=>z1 (v:=YI (jZ r.name b.bt)) [0,0,1] (λw hO=>hc w hO.below) (qT 64 [] (jZ r.name b.bt=0) (λh=> ?_) (λh=> ?_))))
  ·exact x_i 54 [] ((i2+1:Nat):Int) (zH [] [rcB r b1] (λw hO=>hO.past 1 _) (nx (i2+1) (r.bars.length-(i2+1)) [] Om ⟨⟨hj,hgo h⟩,rfl⟩ Kr Kr))
  ·refine vB [] (YI (jZ r.name b.bt)) (YI (i2:Int)) λw hO=>⟨?_,hO.below⟩
   rw [hat h] at hP
   rw [if_pos h] at hP
   rw [hE,if_pos (by rw [hP];exact h),hP];simp only [Nat.zero_add]
 have h2:=qK (k:=0) (qR (p:=λb:Bv=>jZ r.name b.bt=0) (show r.bars.length<=i2 by omega) hno2)
 rw [h2,if_neg (by simp)] at hP
 clear nx
 have hM:∀ w,Below W.heap.size W w->YC 56 #[.slice r.fA r.fts.length r.fc] w (YR (.bool (bZ (x2 r.fts))) w):=λw hb=>fMay_at r.fA r.fc r.fts w (hr.fts.on hb hb.size)
 refine z1 (v:= .bool (bZ (x2 r.fts))) [0] (λw hO=>hM w hO.below) (yG 70 (bZ (x2 r.fts)) (λe3=> ?_) (λe3=> ?_))
 rotate_left
 ·rw [if_pos e3] at hP
  exact vB [] (YI 11) (YI 0) λw hO=>⟨by rw [hE,if_pos (by rw [hP];decide),hP],hO.below⟩
 rw [if_neg (by simp [e3])] at hP
 refine y4 (α:=Nat) (λi=>[(1,Zp b1 0),(73,.slice r.fA r.fts.length r.fc),(74,YI (r.fts.length:Int)),(75,YI (i:Int))]) (λ_=>[rcB r b1]) (λi m=>(i<=r.fts.length∧∀ f∈r.fts.take i,yN (kJ r.rt.needs) f.of=0)/\m=r.fts.length-i) 0 r.fts.length [0] ⟨⟨Nat.zero_le _,λy h=>by simp at h⟩,rfl⟩ ?_
 rintro i3 m3 g3 kk ⟨⟨hi3,hno3⟩,hmm3⟩ nx hkk
 subst hkk
 refine zE 76 [] ((i3:Int)<(r.fts.length:Int)) (λh76=> ?_) (λh76=> ?_)
 ·have hj:i3<r.fts.length:=by omega
  obtain ⟨eb,eo,hA,hel⟩:=hr.fts.top.elem fL i3 hj
  have hgo:=kI (p:=λf:Fv=>yN (kJ r.rt.needs) f.of=0) hj hno3
  have hat:=nH (f:=λf:Fv=>yN (kJ r.rt.needs) f.of) 0 hj hno3
  have hsm:r.fts[i3]∈r.fts:=List.getElem_mem hj
  have hel0:∀ w,Below W.heap.size W w->(loadVar 82 ⟨eb,eo+i3*2+0,none⟩).run Tryz.prog w= .ok (fvV r.fts[i3]) w:=λw hw=>hel w hw _ 0 _ Kr
  have hru:=hr.fts.each _ hsm;have hmu:=hr.fts.m _ hsm;have htu:=hr.fts.text _ hsm
  generalize r.fts[i3]=u at hel0 hgo hat hru hmu htu
  have hc:∀ w,Below W.heap.size W w->YC 57 #[.slice u.A u.of.length u.cap,.slice r.nA r.needs.length r.nc] w (YR (YI (yN (kJ r.rt.needs) u.of)) w):=λw hb=>qItems_any u.A u.cap u.of r.nA r.nc r.needs w (hru.on hb hb.size) Om htu (hr.needs.on hb hb.size) hnn λn hn=>(hr.any n hn).on hb hb.size
  refine zU 78 [] hA r.fts.length r.fc i3 2 hj (zP 79 [] 82 eb (eo+i3*2+0) (fvV u) (λw hO=>hel0 w hO.below) (zD [] λb9=>z1 (v:=YI (yN (kJ r.rt.needs) u.of)) [0,0,1] (λw hO=>hc w hO.below) (qT 86 [] (yN (kJ r.rt.needs) u.of=0) (λh=> ?_) (λh=> ?_))))
  ·exact x_i 75 [] ((i3+1:Nat):Int) (zH [] [rcB r b1] (λw hO=>hO.past 1 _) (nx (i3+1) (r.fts.length-(i3+1)) [] Om ⟨⟨hj,hgo h⟩,rfl⟩ Kr Kr))
  ·refine vB [] (YI (yN (kJ r.rt.needs) u.of)) (YI (i3:Int)) λw hO=>⟨?_,hO.below⟩
   rw [hat h] at hP
   rw [hE,if_pos (by rw [hP];exact h),hP];simp only [Nat.zero_add]
 rw [qK (k:=0) (qR (p:=λf:Fv=>yN (kJ r.rt.needs) f.of=0) (show r.fts.length<=i3 by omega) hno3)] at hP
 clear nx
 have h33:(vF r.rt).1=0:=by rw [hP]
 rw [if_neg (λh=>h h33)] at hE
 have hs:(g6 r.rt).length<=100000000:=rec_small (r:=r.rt) hsn.1 (vprint_short hsn.2.1 hsn.2.2) (by simp only [Rv.rt,List.length_map];omega) (by simp only [Rv.rt,List.length_map];omega) h33 (λf hf s hs=>by
  obtain ⟨y,hy,rfl⟩:=List.mem_map.1 hf
  exact hr.fts.text y hy s hs)
 have hne:=parts_ne h33
 have c4:∀ w,Below W.heap.size W w->YC 58 #[rvV r] w (YR (.string (mkS (g6 r.rt))) w):=λw hb=>qText_any r w (hr.on hb hb.size) (λn hn u hu=>hne n.nt (List.mem_map.2 ⟨n,hn,rfl⟩) u.wt (List.mem_map.2 ⟨u,hu,rfl⟩)) hs (hK.on hb)
 have hz:(mkS (g6 r.rt)).size=(g6 r.rt).length:=jP _
 refine z1 (v:= .string (mkS (g6 r.rt))) [0] (λw hO=>c4 w hO.below) (zE 93 [] (((mkS (g6 r.rt)).size:Int)>4096) (λh93=> ?_) (λh93=> ?_))
 ·exact vB [] (YI 3) (YI 0) λw hO=>⟨by rw [hE,if_pos Om],hO.below⟩
 ·exact vB [] (YI 0) (YI 0) λw hO=>⟨by rw [hE,if_neg Om],hO.below⟩
theorem qPrint_any (r:Rv)(W:World)(hr:RcIn W W.heap.size r)(hK:RecLib W):YC 18 #[rvV r] W (YR (.tuple #[.string (mkS (printR r.rt)),YI (zX r.rt).1]) W):=by
 have c1:∀ w,Below W.heap.size W w->YC 16 #[rvV r] w (YR (.tuple #[YI (zX r.rt).1,YI (zX r.rt).2]) w):=λw hb=>qCheck_any r w (hr.on hb hb.size) (hK.on hb)
 refine z8 Tryz.func18 (zV [] λb1=>z1 (v:= .tuple #[YI (zX r.rt).1,YI (zX r.rt).2]) [0] (λw hO=>c1 w hO.below) (qT 12 [] ((zX r.rt).1=0) (λh=> ?_) (λh=> ?_)))
 rotate_left
 ·exact vB [] (.string ⟨#[]⟩) (YI (zX r.rt).1) λw hO=>⟨by rw [show printR r.rt=[] from if_neg h];rfl,hO.below⟩
 have hne:=parts_ne (qN h).2.2.2.2.1
 have c2:∀ w,Below W.heap.size W w->YC 58 #[rvV r] w (YR (.string (mkS (g6 r.rt))) w):=λw hb=>qText_any r w (hr.on hb hb.size) (λn hn u hu=>hne n.nt (List.mem_map.2 ⟨n,hn,rfl⟩) u.wt (List.mem_map.2 ⟨u,hu,rfl⟩)) (by have:=(qN h).2.2.2.2.2;omega) (hK.on hb)
 exact z1 (v:= .string (mkS (g6 r.rt))) [0] (λw hO=>c2 w hO.below) (vB [] (.string (mkS (g6 r.rt))) (YI 0) λw hO=>⟨by rw [show printR r.rt=g6 r.rt from if_pos h,h],hO.below⟩)
theorem qSum_any (r:Rv)(W:World)(hr:RcIn W W.heap.size r)(hK:RecLib W):YC 20 #[rvV r] W (YR (.tuple #[.int .u64 (d8 r.rt),YI (zX r.rt).1]) W):=by
 have c1:∀ w,Below W.heap.size W w->YC 18 #[rvV r] w (YR (.tuple #[.string (mkS (printR r.rt)),YI (zX r.rt).1]) w):=λw hb=>qPrint_any r w (hr.on hb hb.size) (hK.on hb)
 refine z8 Tryz.func20 (zV [] λb1=>z1 (v:= .tuple #[.string (mkS (printR r.rt)),YI (zX r.rt).1]) [0] (λw hO=>c1 w hO.below) (qT 12 [] ((zX r.rt).1=0) (λh=> ?_) (λh=> ?_)))
 rotate_left
 ·exact vB [] (.int .u64 0) (YI (zX r.rt).1) λw hO=>⟨by rw [show d8 r.rt=0 from if_neg h],hO.below⟩
 have hl:(g6 r.rt).length<=4096:=(qN h).2.2.2.2.2
 have hp:printR r.rt=g6 r.rt:=if_pos h
 rw [hp]
 refine x_bytes 15 [] (g6 r.rt) (src:=9) (dst:=90) (e:=5) (x:= .tmp 14) λw0 w1 cap hO hB hb hlt hcap=> ?_
 have hb0:=hO.below
 have c2:∀ w,Below w1.heap.size w1 w->YC 63 #[.slice (some ⟨w0.heap.size,0,none⟩) (g6 r.rt).length cap] w (YR (.int .u64 ((dSum (g6 r.rt)).toNat:Int)) w):=λw hw=>d9Sum_any _ cap (g6 r.rt) w (hB.reads.on hw hw.size) Om
 exact z1 (v:= .int .u64 ((dSum (g6 r.rt)).toNat:Int)) [] (λw hO=>c2 w hO.below) (vB [] (.int .u64 ((dSum (g6 r.rt)).toNat:Int)) (YI 0) λw hO2=>⟨by rw [show d8 r.rt=_ from if_pos h,h],hb0.trans ((hb.mono hb0.size).trans (hO2.below.mono (Nat.le_trans hb0.size (Nat.le_of_lt hlt))))⟩)
end
section
set_option linter.unnecessarySimpa false
def rdL (x:Rv)(n1 n2 n3:Value)(k rb:Nat):Blk:=⟨rb, #[.string (mkS x.name),YI x.maj,YI x.min,YI x.pat,.string (mkS x.pre),.string (mkS x.bld),n1,n2,n3,YI (k:Int)],92⟩
end
section
set_option linter.unnecessarySimpa false
end
section
set_option linter.unnecessarySimpa false
def layC:Array Value:=(lays.flatMap λl=>(laV l).cells.toList).toArray
structure LyAt (W:World):Prop where
 lt:0<W.heap.size
 held:∃ T,W.heap[(0:Nat)]?=some (.cells layC T)
end
section
set_option linter.unnecessarySimpa false
section
variable {M:List Nat}{P:Program}{n:Nat}{W:World}{Q:Exit->Act->World->Prop}{c:Xc}
end
structure TakeB (rb k:Nat)(x:Rv)(s:List UInt8)(ob:List Blk)(W:World)(e:Ending)(w':World):Prop where
 ex:∃ b x' k' ob',e= .returned (.bool b)/\RdR rb k' x' ob'/\Own (ob.map Blk.b) W w' ob'/\(match takeIn x.rt k s lays with|some (y,kk)=>b=true/\x'.rt=y/\k'=kk|none=>b=false)
end
section
def noDef (o:Oper):Bool:=match o.op with
 | .defer _=>false
 |_=>true
section
variable {M:List Nat}{P:Program}{n:Nat}{W:World}{Q:Exit->Act->World->Prop}{c:Xc}
def xRg (c:Xc):Nat:=match c.top with
 | .code (.region id _ _)=>id
 |_=>0
def yo (c:Xc)(i:Nat):Oper:=match c.top with
 | .code (.region _ a _)=>a.getD i default
 |_=>default
def yF (d:Xc)(v0 v1:Value):Nat->Value:=upd (upd d.f (yo d 0).dst v0) (yo d 1).dst v1
def yF3 (d:Xc)(v0 v1:Value)(b:Bool):Nat->Value:=upd (upd (yF d v0 v1) (yo d 2).dst (.bool b)) (yo d 3).dst (.bool (!b))
def yA (d:Xc):Array Oper:= #[yo d 0,yo d 1,yo d 2,yo d 3]
end
end
section
def lnH (r:List UInt8):List UInt8:=if (z7 10 r).2.2 then (z7 10 r).1++[10] else r
def lnR (r:List UInt8):List UInt8:=if (z7 10 r).2.2 then (z7 10 r).2.1 else []
section
variable {M:List Nat}{P:Program}{n:Nat}{W:World}{Q:Exit->Act->World->Prop}{c:Xc}
end
def strB (B:Nat)(r:List UInt8):Blk:=⟨B, #[.string (mkS r)],9⟩
end
section
def mkQ (P:Program)(fn:Func)(R:Ending->World->Prop):Exit->Act->World->Prop
 | .normal,a,w| .ret,a,w=>LeavesInM Fence.wide 0 P fn a.tmps R a.defers .returning w
 |_,_,_=>False
def rndQ (M1:List Nat)(B:Nat)(r:List UInt8)(rel:List UInt8->List Blk->Prop)(relx:List Blk->Prop)(Wr:World):Exit->Act->World->Prop
 | .normal,_,w=>∃ L',rel r L'/\Own M1 Wr w (strB B r::L')
 | .ret,_,w=>∃ L',relx L'/\Own M1 Wr w L'
 |_,_,_=>False
end
section
def resA:Nat->Rt->Nat->Nat->List UInt8->Int×Rt×Nat
 |0,x,k,i,_=>(0,x,k)
 |f+1,x,k,i,r=>
  if r=[] then (0,x,k)
  else if (z7 10 r).2.2 then
   match takeIn x k (z7 10 r).1 lays with
   |some (y,kk)=>resA f y kk (i+1) (z7 10 r).2.1
   |none=>(((i+1:Nat):Int),x,k)
  else (((i+1:Nat):Int),x,k)
structure FewR (x:Rt)(m:Nat):Prop where
 n:x.needs.length<=m
 b:x.bars.length<=m
 f:x.fts.length<=m
 a:∀ n∈x.needs,n.any.length<=m
def badA (s:List UInt8):Int:=if s=[] then 1 else (resA s.length nilT 0 0 s).1
def recA (s:List UInt8):Rt:=(resA s.length nilT 0 0 s).2.1
end
section
set_option linter.unnecessarySimpa false
def findRF:Code->Code×Code
 | .rangeFunc _ _ a b=>(a,b)
 | .seq x y=>match findRF x with
  |(.skip,.skip)=>findRF y
  |r=>r
 | .block _ x=>findRF x
 |_=>(.skip,.skip)
def wY (i:Nat):Code->Array Oper
 | .region j a _=>if j=i then a else #[]
 | .seq x y=>if (wY i x).size=0 then wY i y else wY i x
 | .cond _ x y=>if (wY i x).size=0 then wY i y else wY i x
 | .block _ x=>wY i x
 | .rangeFunc _ _ x y=>if (wY i x).size=0 then wY i y else wY i x
 |_=> #[]
section
variable {M:List Nat}{P:Program}{n:Nat}{W:World}{Q:Exit->Act->World->Prop}{c:Xc}
end
end
section
set_option linter.unnecessarySimpa false
def intB (b:Nat)(z:Int):Blk:=⟨b, #[YI z],3⟩
def tkV (rb:Nat):Value:= .func (.func 67) #[.pointer (some ⟨rb,0,none⟩)] #[]
def fnB (b rb:Nat):Blk:=⟨b, #[tkV rb],42⟩
structure RefB (rb:Nat)(s:List UInt8)(ob:List Blk)(W:World)(e:Ending)(w':World):Prop where
 ex:∃ x' k' ob',e= .returned (YI (badA s))/\RdR rb k' x' ob'/\Own (ob.map Blk.b) W w' ob'/\(s≠[]->badA s=0->x'.rt=recA s/\FewR x'.rt 4096)
noncomputable abbrev qRF:Code×Code:=findRF (Tryz.f65.body.getD .skip)
noncomputable abbrev qRg (i:Nat):Array Oper:=wY i (Tryz.f65.body.getD .skip)
structure RefI (rb b3 b4 b5:Nat)(s r:List UInt8)(L:List Blk):Prop where
 ex:∃ x k i ob fu,L=intB b5 ((i:Nat):Int)::intB b4 0::fnB b3 rb::ob/\RdR rb k x ob/\InvA x.rt k/\FewR x.rt i/\i+r.length<=s.length/\r.length<=fu/\resA fu x.rt k i r=resA s.length nilT 0 0 s
structure RefX (rb b3 b4 b5:Nat)(s:List UInt8)(L:List Blk):Prop where
 ex:∃ x k i ob,L=intB b5 i::intB b4 (badA s)::fnB b3 rb::ob/\RdR rb k x ob/\badA s≠0
def bLv (b3 b4 b5:Nat):List (Nat×Value):=[(3,.pointer (some ⟨b3,0,none⟩)),(4,.pointer (some ⟨b4,0,none⟩)),(5,.pointer (some ⟨b5,0,none⟩))]
noncomputable abbrev qAs:Oper:=(qRg 5).getD 0 default
noncomputable abbrev qSt:Oper:=(qRg 10).getD 0 default
def aLv (b3 b4 b5 B:Nat):List (Nat×Value):=[(3,.pointer (some ⟨b3,0,none⟩)),(4,.pointer (some ⟨b4,0,none⟩)),(5,.pointer (some ⟨b5,0,none⟩)),(12,.func (.func 179) #[] #[.pointer (some ⟨B,0,none⟩)])]
end
section
structure BndN (n:Nt):Prop where
 wh:n.wh.length<=5000
 opt:n.opt.length<=5000
 any:∀ u∈n.any,u.name.length<=5000/\u.rng.length<=5000/\u.fs.length<=5000∧∀ t∈u.fs,t.length<=5000
structure BndR (x:Rt):Prop where
 name:x.name.length<=5000
 pre:x.ver.pre.length<=1000000
 bld:x.ver.build.length<=1000000
 needs:∀ n∈x.needs,BndN n
 bars:∀ b∈x.bars,b.name.length<=5000/\b.rng.length<=5000/\b.wh.length<=5000
 fts:∀ f∈x.fts,f.name.length<=5000/\f.of.length<=5000∧∀ t∈f.of,t.length<=5000
end
section
set_option linter.unnecessarySimpa false
theorem rec_inn {x:Rv}{o1 o2 o4 o7 o8 L:List Blk}{M:List Nat}{W w:World}(h1:NsO x.nA x.nc x.needs o1 o2)(h4:Sl 80 3 (.slice x.bA x.bars.length x.bc) x.bars.length (x.bars.flatMap bvC) o4)(h7:FtO x.fA x.fc x.fts o7 o8)(hO:Own M W w L)(s1:∀ b∈o1,b∈L)(s2:∀ b∈o2,b∈L)(s4:∀ b∈o4,b∈L)(s7:∀ b∈o7,b∈L)(s8:∀ b∈o8,b∈L)(hB:BndR x.rt)(hF:FewR x.rt 4096):RcIn w w.heap.size x:=by
 obtain ⟨r1,r2⟩:=h1.reads hO s1 s2
 have hN:∀ n∈x.needs,BndN n.nt:=λn hn=>hB.needs n.nt (List.mem_map.2 ⟨n,hn,rfl⟩)
 have hA:∀ n∈x.needs,∀ u∈n.any,u.name.length<=5000/\u.rng.length<=5000/\u.fs.length<=5000∧∀ t∈u.fs,t.length<=5000:=λn hn u hu=>(hN n hn).any u.wt (List.mem_map.2 ⟨u,hu,rfl⟩)
 have hBr:∀ b∈x.bars,b.name.length<=5000/\b.rng.length<=5000/\b.wh.length<=5000:=λb hb=>hB.bars b.bt (List.mem_map.2 ⟨b,hb,rfl⟩)
 have hFt:∀ f∈x.fts,f.name.length<=5000/\f.of.length<=5000∧∀ t∈f.of,t.length<=5000:=λf hf=>hB.fts f.ft (List.mem_map.2 ⟨f,hf,rfl⟩)
 have l1:x.needs.length<=4096:=by have:=hF.n;unfold Rv.rt at this;simpa using this
 have l2:x.bars.length<=4096:=by have:=hF.b;unfold Rv.rt at this;simpa using this
 have l3:x.fts.length<=4096:=by have:=hF.f;simp only [Rv.rt,x2] at this;simpa using this
 refine ⟨r1,r2,λn hn u hu=> ?_,Sl.reads h4 rfl hO s4,⟨Sl.reads h7.top rfl hO s7,λf hf=> ?_,by omega,λf hf=>(hFt f hf).2.1,λf hf=>by have:=(hFt f hf).1;omega,λf hf t ht=>by have:=(hFt f hf).2.2 t ht;omega⟩,by omega,λn hn=> ?_,λn hn u hu=>(hA n hn u hu).2.2.1,by omega,⟨by have:=hB.name;show x.name.length<=_;exact Nat.le_trans this (by decide),hB.pre,hB.bld⟩,λn hn=>⟨Nat.le_trans (hN n hn).wh (by decide),Nat.le_trans (hN n hn).opt (by decide)⟩,λn hn u hu=>⟨by have:=(hA n hn u hu).1;omega,by have:=(hA n hn u hu).2.1;omega,λt ht=>by have:=(hA n hn u hu).2.2.2 t ht;omega⟩,λb hb=>by have:=hBr b hb;exact ⟨by omega,by omega,by omega⟩⟩
 ·obtain ⟨o,⟨⟨p1,p2,rfl,hp,he⟩⟩,ho⟩:=h1.each n hn
  obtain ⟨o',q1,q2⟩:=he u hu
  exact SlT.reads q1 rfl hO λb hb=>s2 b (ho b (List.mem_append_right _ (q2 b hb)))
 ·obtain ⟨o,ho,hs⟩:=h7.each f hf
  exact SlT.reads ho rfl hO λb hb=>s8 b (hs b hb)
 ·have:=hF.a n.nt (List.mem_map.2 ⟨n,hn,rfl⟩)
  unfold Nv.nt at this
  simp only [List.length_map] at this
  omega
section
variable {M:List Nat}{P:Program}{n:Nat}{W:World}{Q:Exit->Act->World->Prop}{c:Xc}
end
structure ParB (s:List UInt8)(W:World)(e:Ending)(w':World):Prop where
 ex:∃ x ob',e= .returned (.tuple #[rvV x,YI (readT s).2.1,YI (readT s).2.2])/\x.rt=(readT s).1/\RecO x ob'/\BndR x.rt/\FewR x.rt 4096/\Own [] W w' ob'
def rv0:Rv:=⟨[],0,0,0,[],[],none,0,[],none,0,[],none,0,[]⟩
end
end Go.Proofs.YteghandhpbmpgaaGreatDoor
