import Derived.Lib.AppendStr
import Derived.WalkKit
import Derived.Lib.Hide
import Derived.WalkLawsBesides
import Derived.Outline
import Derived.Deep.RegionHeld3
import Derived.IntWalk
import Derived.StillTailTactics
import Derived.Laws.StructEq
import Derived.Test.YtobimfnmnkegdaaGreatDoorMC2
set_option maxRecDepth 1000000
set_option maxHeartbeats 8000000
set_option linter.unusedVariables false
set_option linter.unusedSimpArgs false
set_option linter.unnecessarySimpa false
namespace Go.Proofs.YtobimfnmnkegdaaGreatDoor
open Go.RowKit

section
def xNl:List XIt->Bool
 | []=>true
 | .lp _ _::_=>false
 |_::k=>xNl k
theorem fV {M M':List Nat}{P:Program}{n:Nat}{W W':World}{Q:Exit->Act->World->Prop}:∀ {k:List XIt},xNl k=true->KQ M P n W Q k=KQ M' P n W' Q k
 | [],_=>rfl
 | .lp _ _::_,h=>by cases h
 | .code c::k,h=>by unfold KQ;rw [fV (k:=k) h]
 | .blk _::k,h=>by unfold KQ;rw [fV (k:=k) h]
 | .tl _ _::k,h=>by unfold KQ;rw [fV (k:=k) h]
 | .rd _ _::k,h=>by unfold KQ;rw [fV (k:=k) h]
theorem pq_of {M:List Nat}{P:Program}{n:Nat}{W:World}{Q:Exit->Act->World->Prop}:∀ {k:List XIt},PQ (KQ M P n W Q k)->PQ Q
 | [],h=>h
 | .lp _ _::k,h=>pq_of (k:=k) λc a d v w q=>h c a d v w q
 | .code c::k,h=>pq_of (k:=k) λc a d v w q=>h c a d v w q
 | .blk _::k,h=>pq_of (k:=k) λc a d v w q=>h c a d v w q
 | .tl _ _::k,h=>pq_of (k:=k) λc a d v w q=>h c a d v w q
 | .rd _ _::k,h=>pq_of (k:=k) λc a d v w q=>h c a d v w q
def xOut:Exit->Bool
 | .exit _=>true
 | .ret=>true
 |_=>false
section
variable {M:List Nat}{P:Program}{n:Nat}{W:World}{Q:Exit->Act->World->Prop}{c:Xc}
theorem x_in (h:List Nat)(M':World->List Nat)(L':List Blk)(hs:∀ w,Own M W w (xgo P n nS h c).L->Own (M' w) w w L'/\zF (M' w) P n w Q {xgo P n nS h c with L:=L'})
  (hkt:(xgl P n nS h c,xNl (xgo P n nS h c).k,xQ (xgo P n nS h c))=(xgr P n nS h c,true,false):=by kernel_rfl):zF M P n W Q c:=by
 simp only [Prod.mk.injEq] at hkt
 obtain ⟨hk,e1,e2⟩:=hkt
 refine zL h c hk ?_
 generalize xgo P n nS h c=d at*
 obtain ⟨top,kk,L,f⟩:=d
 cases top with
 |ops a r=>exact ⟨λhq=>⟨λw hO=>by
   have:=((hs w hO).2.go hq).go w (hs w hO).1
   rw [fV (M:=M) (W:=W) (M':=M' w) (W':=w) e1];exact this⟩⟩
 |code x=>exact ⟨λhq=>⟨λw hO=>by
   have:=((hs w hO).2.go hq).go w (hs w hO).1
   rw [fV (M:=M) (W:=W) (M':=M' w) (W':=w) e1];exact this⟩⟩
 |fin x=>exact ⟨λhq=>⟨λw hO=>by
   have:=((hs w hO).2.go hq).go w (hs w hO).1
   rw [fV (M:=M) (W:=W) (M':=M' w) (W':=w) e1];exact this⟩⟩
 |_=>cases e2
theorem wp_skip {K:Act->World->Prop}{o:Oper}{f:Nat->Value}{w w':World}(hr:(execOp (ev n f) o).run P w= .ok .skip w')(h:K (Fr n (upd f o.dst undef)) w'):o.wp P (Fr n f) w K Q:=by
 unfold Oper.wp
 rw [kU,hr]
 show K ((Fr n f).put o.dst undef) w'
 rw [vW];exact h
def xNx (d:Xc)(L':List Blk)(v:Value):Xc:=⟨.ops (xA d) (xT d),d.k,L',upd d.f (xO d).dst v⟩
theorem x_opW (h:List Nat)(hs:∀ w,Own M W w (xgo P n nS h c).L→∃ v w' M' L',(execOp (ev n (xgo P n nS h c).f) (xO (xgo P n nS h c))).run P w= .ok (.value v) w'/\Own M' w' w' L'/\zF M' P n w' Q (xNx (xgo P n nS h c) L' v))
  (hkt:(xgl P n nS h c,(xgo P n nS h c).top,zU (xA (xgo P n nS h c)) n (xgo P n nS h c).f (xO (xgo P n nS h c)),xNl (xgo P n nS h c).k)=(xgr P n nS h c,.ops (xA (xgo P n nS h c)) (xO (xgo P n nS h c)::xT (xgo P n nS h c)),true,true):=by kernel_rfl):zF M P n W Q c:=by
 simp only [Prod.mk.injEq] at hkt
 obtain ⟨hk,e1,e2,e3⟩:=hkt
 refine zL h c hk ?_
 generalize xgo P n nS h c=d at*
 have:d=⟨.ops (xA d) (xO d::xT d),d.k,d.L,d.f⟩:=by rw [←e1]
 rw [this]
 refine ⟨λhq=>vC e2 λw hO=> ?_⟩
 obtain ⟨v,w',M',L',hr,hO',hg⟩:=hs w hO
 refine vA v hr ?_
 have:=(hg.go hq).go w' hO'
 rw [fV (M:=M) (W:=W) (M':=M') (W':=w') e3];exact this
theorem x_opS (h:List Nat)(hs:∀ w,Own M W w (xgo P n nS h c).L→∃ w' M' L',(execOp (ev n (xgo P n nS h c).f) (xO (xgo P n nS h c))).run P w= .ok .skip w'/\Own M' w' w' L'/\zF M' P n w' Q (xNx (xgo P n nS h c) L' undef))
  (hkt:(xgl P n nS h c,(xgo P n nS h c).top,zU (xA (xgo P n nS h c)) n (xgo P n nS h c).f (xO (xgo P n nS h c)),xNl (xgo P n nS h c).k)=(xgr P n nS h c,.ops (xA (xgo P n nS h c)) (xO (xgo P n nS h c)::xT (xgo P n nS h c)),true,true):=by kernel_rfl):zF M P n W Q c:=by
 simp only [Prod.mk.injEq] at hkt
 obtain ⟨hk,e1,e2,e3⟩:=hkt
 refine zL h c hk ?_
 generalize xgo P n nS h c=d at*
 have:d=⟨.ops (xA d) (xO d::xT d),d.k,d.L,d.f⟩:=by rw [←e1]
 rw [this]
 refine ⟨λhq=>vC e2 λw hO=> ?_⟩
 obtain ⟨w',M',L',hr,hO',hg⟩:=hs w hO
 refine wp_skip hr ?_
 have:=(hg.go hq).go w' hO'
 rw [fV (M:=M) (W:=W) (M':=M') (W':=w') e3];exact this
theorem x_callW {k:FuncId}{args:Array Value}(h:List Nat)(hs:∀ w,Own M W w (xgo P n nS h c).L->Calls P k args w λe w'=>∃ v M' L',e= .returned v/\Own M' w' w' L'/\zF M' P n w' Q (xNx (xgo P n nS h c) L' v))
  (hkt:(xgl P n nS h c,(xgo P n nS h c).top,zU (xA (xgo P n nS h c)) n (xgo P n nS h c).f (xO (xgo P n nS h c)),xNl (xgo P n nS h c).k,mB P n (xgo P n nS h c))=(xgr P n nS h c,.ops (xA (xgo P n nS h c)) (xO (xgo P n nS h c)::xT (xgo P n nS h c)),true,true,λw=> .ok (.enter k args) w):=by kernel_rfl):zF M P n W Q c:=by
 simp only [Prod.mk.injEq] at hkt
 obtain ⟨hk,e1,e2,e3,e4⟩:=hkt
 refine zL h c hk ?_
 generalize xgo P n nS h c=d at*
 generalize hA:xA d=a at e1 e2
 generalize hOo:xO d=o at e1 e2
 generalize hT:xT d=r at e1
 obtain ⟨top,kk,L,f⟩:=d
 dsimp only at e1
 subst e1
 unfold mB at e4
 dsimp only at e2 e4
 rw [e2] at e4
 refine ⟨λhq=>vC e2 λw hO=>nO (congrFun e4 w) ((hs w hO).mono λe w' ⟨v,M',L',q1,q2,q3⟩=>⟨v,q1, ?_⟩)⟩
 have:=(q3.go hq).go w' q2
 rw [fV (M:=M) (W:=W) (M':=M') (W':=w') e3]
 rw [←hA,←hOo,←hT];exact this
theorem ok_loopW' {c:Code}{L:List Blk}{f:Nat->Value}(Inv:World->(Nat->Value)->Nat->Prop)(m:Nat)(h0:∀ w,Own M W w L->Inv w f m)(h:∀ w f m,Inv w f m->Code.wp P c (RoundW n Inv m Q) (Fr n f) w):Ok M P n W Q (.loop c) L f:=⟨λw hO=>by
 intro b k cs
 have run:∀ (m:Nat) (f:Nat->Value) (w:World),Inv w f m→∃ e a' w',Q e a' w'/\Arrives P (lone (b.at (Fr n f) (.code c:: .inLoop c::k)) cs w) b k cs e a' w':=by
  intro m
  induction m using Nat.strongRecOn with
  |_ m ih=>
   intro f w hI
   obtain ⟨e,a₁,w₁,hq,harr⟩:=h w f m hI b (.inLoop c::k) cs
   cases e with
   |normal=>
    obtain ⟨f',m',hlt,hI',rfl⟩:=hq
    obtain ⟨e₂,a₂,w₂,hq₂,harr₂⟩:=ih m' hlt f' w₁ hI'
    exact ⟨e₂,a₂,w₂,hq₂,.of_steps (Steps.trans harr (.one step_inLoop)) harr₂⟩
   |exit id=>exact ⟨_,a₁,w₁,hq,.pass (x:= .inLoop c) rfl (λ_ _=> .inl (by simp)) harr⟩
   |goto l=>exact ⟨_,a₁,w₁,hq,.pass (x:= .inLoop c) rfl (λ_ _=> .inl (by simp)) harr⟩
   |ret=>exact ⟨_,a₁,w₁,hq,.pass (x:= .inLoop c) rfl (λ_ _=> .inl (by simp)) harr⟩
   |panic ch=>exact ⟨_,a₁,w₁,hq,.pass (x:= .inLoop c) rfl (λ_ _=> .inl (by simp)) harr⟩
   |outgrown=>exact ⟨_,a₁,w₁,hq,.pass (x:= .inLoop c) rfl (λ_ _=> .inl (by simp)) harr⟩
 obtain ⟨e,a',w',hq,harr⟩:=run m f w (h0 w hO)
 exact ⟨e,a',w',hq,.of_steps (.one step_loop) harr⟩⟩
theorem pq_roundW {Inv:World->(Nat->Value)->Nat->Prop}{m:Nat}(h:PQ Q):PQ (RoundW n Inv m Q):=λc a d v w h2=>h c a d v w h2
def xIW (n:Nat){α:Type}(lv:α->List (Nat×Value))(Mf:α->List Nat)(Lf:α->List Blk)(rel:α->World->Nat->Prop):World->(Nat->Value)->Nat->Prop:=λw f m=>∃ x,rel x w m/\Own (Mf x) w w (Lf x)/\Agrees f (lv x)
theorem x_loopW {α:Type}(lv:α->List (Nat×Value))(Mf:α->List Nat)(Lf:α->List Blk)(rel:α->World->Nat->Prop)(x0:α)(m0:Nat)(h:List Nat)(h0:∀ w,Own M W w (xgo P n nS h c).L->rel x0 w m0/\Own (Mf x0) w w (Lf x0))
  (hg:∀ x w m g,rel x w m->Own (Mf x) w w (Lf x)->zF (Mf x) P n w (RoundW n (xIW n lv Mf Lf rel) m (KQ M P n W Q (xgo P n nS h c).k)) ⟨.code (tO (xgo P n nS h c)),[],Lf x,wV g (lv x)⟩)
  (hkt:(xgl P n nS h c,(xgo P n nS h c).top,xV (xgo P n nS h c).f (lv x0))=(xgr P n nS h c,.code (.loop (tO (xgo P n nS h c))),(lv x0).map Prod.snd):=by kernel_rfl):zF M P n W Q c:=by
 simp only [Prod.mk.injEq] at hkt
 obtain ⟨hk,e1,e2⟩:=hkt
 refine zL h c hk ?_
 generalize xgo P n nS h c=d at*
 have:d=⟨.code (.loop (tO d)),d.k,d.L,d.f⟩:=by rw [←e1]
 rw [this]
 refine ⟨λhq=>ok_loopW' (M:=M) (W:=W) (xIW n lv Mf Lf rel) m0 (λw hO=>⟨x0,(h0 w hO).1,(h0 w hO).2,gL e2⟩) λw f m ⟨x,hr,hO,hA⟩=> ?_⟩
 have hx:=hg x w m f hr hO
 rw [←qE _ hA] at hx
 exact (hx.go (pq_roundW (pq_KQ hq d.k))).go w hO
theorem x_nxW {α:Type}{lv:α->List (Nat×Value)}{Mf:α->List Nat}{Lf:α->List Blk}{rel:α->World->Nat->Prop}{m:Nat}(x':α)(m':Nat)(h:List Nat)(hlt:m'<m)(hs:∀ w,Own M W w (xgo P n nS h c).L->rel x' w m'/\Own (Mf x') w w (Lf x'))
  (hkt:(xgl P n nS h c,(xgo P n nS h c).top,(xgo P n nS h c).k,xV (xgo P n nS h c).f (lv x'))=(xgr P n nS h c,.fin .normal,[],(lv x').map Prod.snd):=by kernel_rfl):zF M P n W (RoundW n (xIW n lv Mf Lf rel) m Q) c:=by
 simp only [Prod.mk.injEq] at hkt
 obtain ⟨hk,e1,e2,e3⟩:=hkt
 refine zL h c hk ?_
 generalize xgo P n nS h c=d at*
 have:d=⟨.fin .normal,[],d.L,d.f⟩:=by rw [←e1,←e2]
 rw [this]
 exact ⟨λ_=>fin_roundW hlt λw hO=>⟨x',(hs w hO).1,(hs w hO).2,gL e3⟩⟩
theorem x_outW {M0:List Nat}{W0:World}{k:List XIt}{Inv:World->(Nat->Value)->Nat->Prop}{m:Nat}(e:Exit)(h:List Nat)(hg:zF M P n W Q ⟨.fin e,k,(xgo P n nS h c).L,(xgo P n nS h c).f⟩)(he:xOut e=true)
  (hkt:(xgl P n nS h c,(xgo P n nS h c).top,(xgo P n nS h c).k,xNl k)=(xgr P n nS h c,.fin e,[],true):=by kernel_rfl):zF M P n W (RoundW n Inv m (KQ M0 P n W0 Q k)) c:=by
 simp only [Prod.mk.injEq] at hkt
 obtain ⟨hk,e1,e2,e3⟩:=hkt
 refine zL h c hk ?_
 generalize xgo P n nS h c=d at*
 have:d=⟨.fin e,[],d.L,d.f⟩:=by rw [←e1,←e2]
 rw [this]
 refine ⟨λhq=>⟨λw hO=> ?_⟩⟩
 have hq':PQ Q:=pq_of (k:=k) (M:=M0) (W:=W0) (P:=P) (n:=n) λc a dd v w h2=>hq c a dd v w h2
 have hf:=(hg.go hq').go w hO
 rw [fV (M:=M) (W:=W) (M':=M0) (W':=W0) e3] at hf
 cases e with
 |exit id=>exact hf
 |ret=>exact hf
 |_=>cases he
end
end
section
section
variable {M:List Nat}{P:Program}{W w:World}{E ob L0:List Blk}
theorem own_append_str {t u ty T:TypeId}{i:TypeInfo}(ht:P.underlying t=some (.slice T))(hu:P.underlying u=some .string)(hi:P.info? T=some i)(hz:i.zero=some (.int .u8 0))(hsz:i.size=1)(hby:i.bytes=1)
  {v:Value} {n:Nat} {xs:List Value} (hv:Sl T 1 v n xs ob) (hO:Own M W w (E++ob++L0)) (s:ByteArray)
  (h63:n+s.size<=maxLen) (hbytes:n+s.size<=140737488355328):
  ∃ v' w' ob',(Builtin.append_ #[t,u] ty #[v,.string s]).run P w= .ok v' w'/\Sl T 1 v' (n+s.size) (xs++Lib.strCells s) ob'/\Own M W w' (E++ob'++L0):=by
 have hsmall:n+s.size<=9223372036854775807:=by simp only [maxLen] at h63;omega
 have hxl:xs.length=n:=by simpa using hv.1
 have hsl:=Lib.strCells_length s
 have hlen:(xs++Lib.strCells s).length=(n+s.size)*1:=by rw [List.length_append,hxl,hsl,Nat.mul_one]
 have hz1:(Value.int IntKind.u8 0).cells.size=1:=rfl
 rcases hv.2 with ⟨rfl,rfl,rfl⟩|⟨g,cap,cur,rfl,rfl,hnc,hcm,hcs,htake⟩
 ·have hx:xs=[]:=List.eq_nil_of_length_eq_zero hxl
  subst hx
  by_cases hm:s.size=0
  ·have hn:Lib.strCells s=[]:=List.eq_nil_of_length_eq_zero (by rw [hsl];exact hm)
   refine ⟨.slice none 0 0,w,[], ?_,by rw [hm,hn];exact Sl.nil T 1,hO⟩
   have hf:=Lib.run_firstCells_string (P:=P) w 1 s
   rw [hm] at hf
   simp [Builtin.append_,run_underlying ht,run_underlying hu,sizeOf,typeInfo,hi,hsz,Builtin.lenOf,hm,hf]
  ·have hr:=run_append_nil_string (P:=P) w t u ty T i (.int .u8 0) ht hu hi hz s Om Om (by rw [hby];omega)
   have e1:(s.data.map λb=>Value.int .u8 b.toNat)=(Lib.strCells s).toArray:=by
    apply Array.ext'
    simp [Lib.strCells]
   rw [e1] at hr
   have hge:=grownCap_ge w s.size 0 T
   have hcm:=grownCap_le_maxLen w s.size 0 T (by simpa using h63)
   refine ⟨_,_,[⟨w.heap.size,(Lib.strCells s).toArray++Builtin.zeroCells (Value.int .u8 0).cells (grownCap w s.size 0 T-s.size),T⟩],hr,⟨by simpa using hlen,.inr ⟨w.heap.size,_,_,by simp,rfl,by simpa using hge,hcm, ?_, ?_⟩⟩, ?_⟩
   ·simp only [Array.size_append,List.size_toArray,size_zeroCells,hz1,hsl]
    omega
   ·simp only [Array.toList_append,Nat.zero_add,List.nil_append,Nat.mul_one]
    rw [←hsl]
    exact List.take_left
   ·have:=(drew_own hO).alloc ((Lib.strCells s).toArray++Builtin.zeroCells (Value.int .u8 0).cells (grownCap w s.size 0 T-s.size)) T
    exact Own.move (ob:=[]) this
 ·have hcs':cur.size=cap:=by simpa using hcs
  have ht':cur.toList.take n=xs:=by simpa using htake
  by_cases hroom:n+s.size<=cap
  ·have hk:(E++[Blk.mk g cur T]++L0)[E.length]?=some ⟨g,cur,T⟩:=by simp
   have hg:=hO.get hk
   have hr:=Lib.run_append_room_string (P:=P) w t u ty T i ht hu hi hsz g n cap cur hg s hroom Om
   refine ⟨_,_,[⟨g,(cur.toList.take n++Lib.strCells s++cur.toList.drop (n+s.size)).toArray,T⟩],hr,⟨hlen,.inr ⟨g,cap,_,rfl,rfl,hroom,hcm, ?_, ?_⟩⟩, ?_⟩
   ·simp only [List.size_toArray,List.length_append,List.length_take,List.length_drop,Array.length_toList,hsl]
    omega
   ·rw [ht',←hlen]
    exact List.take_left
   ·have:=hO.put hk (cur.toList.take n++Lib.strCells s++cur.toList.drop (n+s.size)).toArray
    have e:(E++[Blk.mk g cur T]++L0).set E.length ⟨g,(cur.toList.take n++Lib.strCells s++cur.toList.drop (n+s.size)).toArray,T⟩=E++[⟨g,(cur.toList.take n++Lib.strCells s++cur.toList.drop (n+s.size)).toArray,T⟩]++L0:=by simp
    rw [e] at this;exact this
  ·have hk:(E++[Blk.mk g cur T]++L0)[E.length]?=some ⟨g,cur,T⟩:=by simp
   have hg:=hO.get hk
   have holds:∀ j u,xs[j]?=some u->w.cell? ((⟨g,0,none⟩:Addr).add j)=some u:=λj u hj=>by
    rw [xP,cell_of_row w g (0+j) cur T _ hg]
    rw [←ht',List.getElem?_take] at hj
    split at hj
    ·simpa using hj
    ·cases hj
   have hr:=Lib.run_append_grow_string (P:=P) w t u ty T i (.int .u8 0) ht hu hi hz ⟨g,0,none⟩ n cap xs (by rw [hsz];simpa using hxl) holds s Om Om (by rw [hby];exact growslice_fits Om Om)
   have hge:=grownCap_ge w (n+s.size) cap T
   have hcm:=grownCap_le_maxLen w (n+s.size) cap T h63
   refine ⟨_,_,[⟨w.heap.size,xs.toArray++(Lib.strCells s).toArray++Builtin.zeroCells (Value.int .u8 0).cells (grownCap w (n+s.size) cap T-(n+s.size)),T⟩],hr,⟨hlen,.inr ⟨w.heap.size,_,_,rfl,rfl,hge,hcm, ?_, ?_⟩⟩, ?_⟩
   ·simp only [Array.size_append,List.size_toArray,size_zeroCells,hz1,hxl,hsl]
    omega
   ·simp only [Array.toList_append,List.append_assoc]
    rw [←List.append_assoc,←hlen]
    exact List.take_left
   ·exact Own.move ((drew_own hO).alloc (xs.toArray++(Lib.strCells s).toArray++Builtin.zeroCells (Value.int .u8 0).cells (grownCap w (n+s.size) cap T-(n+s.size))) T)
end
section
variable {M:List Nat}{P:Program}{n0:Nat}{ops:Array Oper}{W:World}{Q:Exit->Act->World->Prop}{rest:List Oper}{o:Oper}{E ob L0:List Blk}{f:Nat->Value}
theorem s_appstr {t u T:TypeId}{x y:Operand}{i:TypeInfo}(hw:zU ops n0 f o=true)(ho:o.op= .call {callee:= .builtin .append,args:= #[x,y],argTypes:= #[t,u]})
  (ht:P.underlying t=some (.slice T)) (hu:P.underlying u=some .string) (hi:P.info? T=some i) (hz:i.zero=some (.int .u8 0)) (hsz:i.size=1) (hby:i.bytes=1)
  {v:Value} {n:Nat} {xs:List Value} (hx:ev n0 f x=v) (hv:Sl T 1 v n xs ob) {s:ByteArray} (hy:ev n0 f y= .string s)
  (h63:n+s.size<=maxLen) (hbytes:n+s.size<=140737488355328)
  (h:∀ v' ob',Sl T 1 v' (n+s.size) (xs++Lib.strCells s) ob'->Seg M P n0 ops W Q rest (E++ob'++L0) (upd f o.dst v')):Seg M P n0 ops W Q (o::rest) (E++ob++L0) f:=
 vC hw λw hO=>by
  obtain ⟨v',w',ob',hr,h2,h3⟩:=own_append_str (P:=P) (ty:=o.type) ht hu hi hz hsz hby hv hO s h63 hbytes
  refine vA v' (w':=w') ?_ ((h v' ob' h2).go w' h3)
  unfold execOp
  simp only [ho,resolve,invoke,builtin,Sem.run_bind,Sem.run_pure,Result.andThen_ok,List.map_toArray,List.map_cons,List.map_nil,hx,hy,hr]
end
section
variable {M:List Nat}{P:Program}{n:Nat}{W:World}{L:List Blk}{f:Nat->Value}
theorem fin_none {fn:Func}{R:Ending->World->Prop}(hres:fn.results= #[])(hR:∀ w,Own M W w L->R (.returned (.tuple #[])) w):Fin M n W (bodyPost P fn R) .normal L f:=⟨λw hO=>
 bodyPost_end (results_none hres _ _ _) rfl (hR w hO)⟩
theorem fin_none_ret {fn:Func}{R:Ending->World->Prop}(hres:fn.results= #[])(hR:∀ w,Own M W w L->R (.returned (.tuple #[])) w):Fin M n W (bodyPost P fn R) .ret L f:=⟨λw hO=>
 bodyPost_ret (results_none hres _ _ _) rfl (hR w hO)⟩
end
end
section
section
variable {M:List Nat}{P:Program}{n:Nat}{W:World}{Q:Exit->Act->World->Prop}{c:Xc}
theorem zN {M:List Nat}{L:List Blk}{k:FuncId}{fn:Func}{args:Array Value}{R:Ending->World->Prop}(hO:Own M W W L)(hf:P.funcs[k]?=some fn)(hg:zF M P fn.ntmps W (bodyPost P fn R) ⟨.code (fn.body.getD .skip),[],L,λt=>args.getD t undef⟩)
  (hb:fn.body.isSome=true:=by kernel_rfl) (hle:Nat.ble args.size fn.ntmps=true:=by kernel_rfl):Calls P k args W R:=by
 cases hb':fn.body with
 |none=>rw [hb'] at hb;cases hb
 |some b=>rw [hb'] at hg;exact calls_okL hO hf hb' rfl hle (hg.go pq_body)
theorem jG {fn:Func}{R:Ending->World->Prop}(h:List Nat)(v v' v2:Value)(hR:∀ w,Own M W w (xgo P n nS h c).L->R (.returned (.tuple #[v,v',v2])) w)
  (hkt:(xgl P n nS h c,((xgo P n nS h c).top,(xgo P n nS h c).k,fn.results,ev n (xgo P n nS h c).f (.tmp (xRt fn 0)),ev n (xgo P n nS h c).f (.tmp (xRt fn 1)),ev n (xgo P n nS h c).f (.tmp (xRt fn 2))))=(xgr P n nS h c,(.fin .ret,[], #[.tmp (xRt fn 0),.tmp (xRt fn 1),.tmp (xRt fn 2)],v,v',v2)):=by kernel_rfl):zF M P n W (bodyPost P fn R) c:=by
 obtain ⟨hk,ht⟩:=Prod.mk.inj hkt
 refine zL h c hk ?_
 generalize xgo P n nS h c=d at hR ht ⊢
 obtain ⟨top,kk,L,f⟩:=d
 simp only [Prod.mk.injEq] at ht
 obtain ⟨rfl,rfl,e3,e4,e5,e6⟩:=ht
 exact ⟨λ_=>fin_ret3 v v' v2 e3 e4 e5 e6 hR⟩
theorem yD {fn:Func}{R:Ending->World->Prop}(h:List Nat)(i:Nat)(v v':Value)(hR:∀ w,Own M W w (xgo P n nS h c).L->R (.returned (.tuple #[v,v'])) w)(hkt:(xgl P n nS h c,((xgo P n nS h c).top,(xgo P n nS h c).k,fn.results,(xgo P n nS h c).L[i]?,ev n (xgo P n nS h c).f (.tmp (xRt fn 0)),yZ P (xRy fn 0) (vQ (xgo P n nS h c).L i).cs 0,ev n (xgo P n nS h c).f (.tmp (xRt fn 1))))=(xgr P n nS h c,(.fin .ret,[], #[.cell (xRt fn 0) (xRy fn 0),.tmp (xRt fn 1)],some (vQ (xgo P n nS h c).L i),.pointer (some ⟨(vQ (xgo P n nS h c).L i).b,0,none⟩),some v,v')):=by kernel_rfl):zF M P n W (bodyPost P fn R) c:=by
 obtain ⟨hk,ht⟩:=Prod.mk.inj hkt
 refine zL h c hk ?_
 generalize xgo P n nS h c=d at hR ht ⊢
 obtain ⟨top,kk,L,f⟩:=d
 simp only [Prod.mk.injEq] at ht
 obtain ⟨rfl,rfl,e3,e4,e5,e6,e7⟩:=ht
 exact ⟨λ_=>fin_cell2 i (vQ L i) v v' e3 e4 e5 e6 e7 hR⟩
theorem x_ret0 {fn:Func}{R:Ending->World->Prop}(h:List Nat)(hR:∀ w,Own M W w (xgo P n nS h c).L->R (.returned (.tuple #[])) w)
  (hkt:(xgl P n nS h c,(xgo P n nS h c).top,(xgo P n nS h c).k,fn.results)=(xgr P n nS h c,.fin .ret,[], #[]):=by kernel_rfl):zF M P n W (bodyPost P fn R) c:=by
 simp only [Prod.mk.injEq] at hkt
 obtain ⟨hk,e1,e2,e3⟩:=hkt
 refine zL h c hk ?_
 generalize xgo P n nS h c=d at*
 obtain ⟨top,kk,L,f⟩:=d
 dsimp only at e1 e2
 subst e1;subst e2
 exact ⟨λ_=>fin_none_ret e3 hR⟩
theorem kC {fn:Func}{R:Ending->World->Prop}(h:List Nat)(hR:∀ w,Own M W w (xgo P n nS h c).L->R (.returned (.tuple #[])) w)
  (hkt:(xgl P n nS h c,(xgo P n nS h c).top,(xgo P n nS h c).k,fn.results)=(xgr P n nS h c,.fin .normal,[], #[]):=by kernel_rfl):zF M P n W (bodyPost P fn R) c:=by
 simp only [Prod.mk.injEq] at hkt
 obtain ⟨hk,e1,e2,e3⟩:=hkt
 refine zL h c hk ?_
 generalize xgo P n nS h c=d at*
 obtain ⟨top,kk,L,f⟩:=d
 dsimp only at e1 e2
 subst e1;subst e2
 exact ⟨λ_=>fin_none e3 hR⟩
theorem zP (t:Nat)(b:Bool)(h1:b=true->zF M P n W Q (c.st t (.bool true)))(h2:b=false->zF M P n W Q (c.st t (.bool false)))(hv:c.f t= .bool b:=by kernel_rfl):zF M P n W Q c:=by
 cases b with
 |true=>
  have h:=h1 rfl
  unfold Xc.st at h
  rw [←nR hv] at h
  exact h
 |false=>
  have h:=h2 rfl
  unfold Xc.st at h
  rw [←nR hv] at h
  exact h
theorem x_yes (t:Nat)(h:List Nat)(p:Prop)[Decidable p](hp:p)(h1:zF M P n W Q ((xgo P n t h c).st t (.bool true)))(hkt:(xgl P n t h c,(xgo P n t h c).f t)=(xgr P n t h c,.bool (decide p)):=by kernel_rfl):zF M P n W Q c:=
 zB t h p (λ_=>h1) (λq=>absurd hp q) hkt
end
theorem Own.and {M:List Nat}{W w w':World}(h:Own M W w [])(h':Own M w w' []):Own M W w' []:=
 ⟨h'.os.trans h.os,h'.tape.trans h.tape,h'.output.trans h.output,Nat.le_trans h.size h'.size,Nat.le_trans h.drawn h'.drawn,λk hk hm=>(h'.kept k (Nat.lt_of_lt_of_le hk h.size) hm).trans (h.kept k hk hm),by simp,by simp,by simp⟩
end
section
theorem qG (r:Int)(b:Bool)(hb:qV r=b)(w:World):
  YC 109 #[.int .i32 r] w λe w'=>e= .returned (.bool b)/\w=w':=by
 subst hb
 unfold qV
 go_enter Tryz.func109,Tryz.ntmps109
 go_wp2
 all_goals go_ret
 all_goals exact ⟨yB (by simp;try omega),rfl⟩
theorem name_any (s:ByteArray)(w:World)(hs:s.size<=maxLen):
  YC 63 #[.string s] w (YR (.bool (mM s)) w):=by
 unfold maxLen at hs
 by_cases h16:s.size<=16
 ·go_enter Tryz.func63,Tryz.ntmps63
  go_wp2
  go_loopw [3] (λv wr=>∃ (pos:Nat) (l:Int),wr=w.iter s pos/\pos<=s.size/\v= .int .i32 l/\Hid (g7 (decide (pos=0)) l (s.data.toList.drop pos)=g7 true 45 s.data.toList)) (λ_ wr=>s.size-wr.iterPos w.heap.size)
  case atStart=>exact ⟨0,45,rfl,Nat.zero_le _,rfl,rfl⟩
  case round=>
   obtain ⟨pos,l,rfl,hple,rfl,HR⟩:=hrel
   by_cases hp:pos<s.size
   ·have HD:=Lib.hid (qI s pos hp)
    by_cases ha:(s[pos]'hp).toNat<128
    ·have hnx:∀ ty,(Instr.next (.pointer (some ⟨w.heap.size,0,none⟩)) true ty).run YP (w.iter s pos)=_:=λty=>run_next_ascii w s pos ty hp ha
     by_cases hl:qV (s[pos]'hp).toNat=true
     ·have HL:=Lib.hid hl
      clear hl
      go_wp2_with (go_at_call 109;refine (qG _ true HL.out _).mono ?_;rintro e w' ⟨rfl,rfl⟩)
      go_roundw
      case rel=>exact ⟨pos+1,_,rfl,by omega,rfl,by rw [←HR.out,HD.out,nameGo_let _ _ _ _ HL.out];rfl⟩
      case measure=>simp;omega
     ·have HL:=Lib.hid (Bool.eq_false_iff.2 hl)
      clear hl
      by_cases hd:yL (s[pos]'hp).toNat=true
      ·have HG:=Lib.hid hd
       clear hd
       by_cases h0:pos=0
       ·subst h0
        go_wp2_with (first|(go_at_call 109;refine (qG _ false HL.out _).mono ?_;rintro e w' ⟨rfl,rfl⟩)|(go_at_call 110;refine (kX _ true HG.out _).mono ?_;rintro e w' ⟨rfl,rfl⟩))
        go_ret
        exact ⟨yB (by unfold mM;rw [←HR.out,HD.out,nameGo_dig _ _ _ _ HL.out HG.out];simp),yC _ _ _⟩
       ·have hpi:((pos:Int)==0)=false:=by simp;omega
        go_wp2_with (first|(go_at_call 109;refine (qG _ false HL.out _).mono ?_;rintro e w' ⟨rfl,rfl⟩)|(go_at_call 110;refine (kX _ true HG.out _).mono ?_;rintro e w' ⟨rfl,rfl⟩))
        go_roundw
        case rel=>exact ⟨pos+1,_,rfl,by omega,rfl,by rw [←HR.out,HD.out,nameGo_dig _ _ _ _ HL.out HG.out];simp [h0,Hid]⟩
        case measure=>simp;omega
      ·have HG:=Lib.hid (Bool.eq_false_iff.2 hd)
       clear hd
       by_cases h3:((s[pos]'hp).toNat:Int)=45
       ·have H3:=Lib.hid h3
        have h3b:(((s[pos]'hp).toNat:Int)==45)=true:=by simp [h3]
        clear h3
        by_cases h4:l=45
        ·have h4b:(l==45)=true:=by simp [h4]
         have H4:=Lib.hid h4
         clear h4
         go_wp2_with (first|(go_at_call 109;refine (qG _ false HL.out _).mono ?_;rintro e w' ⟨rfl,rfl⟩)|(go_at_call 110;refine (kX _ false HG.out _).mono ?_;rintro e w' ⟨rfl,rfl⟩))
         go_ret
         exact ⟨yB (by unfold mM;rw [←HR.out,HD.out,nameGo_dash _ _ _ _ HL.out HG.out H3.out,if_pos H4.out];simp),yC _ _ _⟩
        ·have h4b:(l==45)=false:=by simp [h4]
         go_wp2_with (first|(go_at_call 109;refine (qG _ false HL.out _).mono ?_;rintro e w' ⟨rfl,rfl⟩)|(go_at_call 110;refine (kX _ false HG.out _).mono ?_;rintro e w' ⟨rfl,rfl⟩))
         go_roundw
         case rel=>exact ⟨pos+1,_,rfl,by omega,rfl,by rw [←HR.out,HD.out,nameGo_dash _ _ _ _ HL.out HG.out H3.out,if_neg h4];rfl⟩
         case measure=>simp;omega
       ·have h3b:(((s[pos]'hp).toNat:Int)==45)=false:=by simpa using h3
        go_wp2_with (first|(go_at_call 109;refine (qG _ false HL.out _).mono ?_;rintro e w' ⟨rfl,rfl⟩)|(go_at_call 110;refine (kX _ false HG.out _).mono ?_;rintro e w' ⟨rfl,rfl⟩))
        go_ret
        exact ⟨yB (by unfold mM;rw [←HR.out,HD.out,nameGo_else _ _ _ _ HL.out HG.out h3];simp),yC _ _ _⟩
    ·have hnx:∀ ty,(Instr.next (.pointer (some ⟨w.heap.size,0,none⟩)) true ty).run YP (w.iter s pos)=_:=λty=>run_next_any w s pos ty hp
     have hhi:=(decode_high s pos hp Om).1
     have HL:=Lib.hid (letB_hi _ hhi)
     have HG:=Lib.hid (digB_hi _ hhi)
     have h3b:(((Utf8.decode s pos).1:Int)==45)=false:=by simp;omega
     go_wp2_with (first|(go_at_call 109;refine (qG _ false HL.out _).mono ?_;rintro e w' ⟨rfl,rfl⟩)|(go_at_call 110;refine (kX _ false HG.out _).mono ?_;rintro e w' ⟨rfl,rfl⟩))
     go_ret
     exact ⟨yB (by unfold mM;rw [←HR.out,HD.out,nameGo_hi _ _ _ _ Om];simp),yC _ _ _⟩
   ·have hnx:∀ ty,(Instr.next (.pointer (some ⟨w.heap.size,0,none⟩)) true ty).run YP (w.iter s pos)=_:=λty=>run_next_end w s pos ty hp
    have HD:=Lib.hid (wP s pos hp)
    go_wp2
    go_ret
    exact ⟨yB (by unfold mM;rw [←HR.out,HD.out,g7];by_cases hq:l=45<;>simp [h16,hq]),yC _ _ _⟩
 ·go_enter Tryz.func63,Tryz.ntmps63
  go_wp2
  go_ret
  exact ⟨yB (by unfold mM;simp [h16]),Below.refl _ _⟩
theorem word_any (s:ByteArray)(w:World)(hs:s.size<=maxLen):
  YC 117 #[.string s] w (YR (.bool (wordB s)) w):=by
 unfold maxLen at hs
 by_cases h0:s.size=0
 ·have H0:=Lib.hid h0
  have hz:((s.size:Int)==0)=true:=by simp [h0]
  clear h0
  go_enter Tryz.func117,Tryz.ntmps117
  go_wp2
  go_ret
  exact ⟨yB (by unfold wordB;simp [H0.out]),Below.refl _ _⟩
 ·have hz:((s.size:Int)==0)=false:=wR Om
  by_cases h12:s.size<=12
  ·go_enter Tryz.func117,Tryz.ntmps117
   go_wp2
   go_loopw [] (λwr=>∃ (pos:Nat),wr=w.iter s pos/\pos<=s.size/\Hid (qA (s.data.toList.drop pos)=qA s.data.toList)) (λwr=>s.size-wr.iterPos w.heap.size)
   case atStart=>exact ⟨0,rfl,Nat.zero_le _,rfl⟩
   case round=>
    obtain ⟨pos,rfl,hple,HR⟩:=hrel
    by_cases hp:pos<s.size
    ·have HD:=Lib.hid (qI s pos hp)
     by_cases ha:(s[pos]'hp).toNat<128
     ·have hnx:∀ ty,(Instr.next (.pointer (some ⟨w.heap.size,0,none⟩)) true ty).run YP (w.iter s pos)=_:=λty=>run_next_ascii w s pos ty hp ha
      by_cases hl:qV (s[pos]'hp).toNat=true
      ·have HL:=Lib.hid hl
       clear hl
       go_wp2_with (go_at_call 109;refine (qG _ true HL.out _).mono ?_;rintro e w' ⟨rfl,rfl⟩)
       go_roundw
       case rel=>exact ⟨pos+1,rfl,by omega,by rw [←HR.out,HD.out,dG _ _ (by unfold wdB;rw [HL.out];rfl)];rfl⟩
       case measure=>simp;omega
      ·have HL:=Lib.hid (Bool.eq_false_iff.2 hl)
       clear hl
       by_cases hd:yL (s[pos]'hp).toNat=true
       ·have HG:=Lib.hid hd
        clear hd
        go_wp2_with (first|(go_at_call 109;refine (qG _ false HL.out _).mono ?_;rintro e w' ⟨rfl,rfl⟩)|(go_at_call 110;refine (kX _ true HG.out _).mono ?_;rintro e w' ⟨rfl,rfl⟩))
        go_roundw
        case rel=>exact ⟨pos+1,rfl,by omega,by rw [←HR.out,HD.out,dG _ _ (by unfold wdB;rw [HL.out,HG.out];rfl)];rfl⟩
        case measure=>simp;omega
       ·have HG:=Lib.hid (Bool.eq_false_iff.2 hd)
        clear hd
        by_cases h3:((s[pos]'hp).toNat:Int)=95
        ·have H3:=Lib.hid h3
         have h3b:(((s[pos]'hp).toNat:Int) !=95)=false:=by simp [h3]
         clear h3
         go_wp2_with (first|(go_at_call 109;refine (qG _ false HL.out _).mono ?_;rintro e w' ⟨rfl,rfl⟩)|(go_at_call 110;refine (kX _ false HG.out _).mono ?_;rintro e w' ⟨rfl,rfl⟩))
         go_roundw
         case rel=>exact ⟨pos+1,rfl,by omega,by rw [←HR.out,HD.out,dG _ _ (by unfold wdB;rw [HL.out,HG.out,H3.out];rfl)];rfl⟩
         case measure=>simp;omega
        ·have h3b:(((s[pos]'hp).toNat:Int) !=95)=true:=by simpa using h3
         go_wp2_with (first|(go_at_call 109;refine (qG _ false HL.out _).mono ?_;rintro e w' ⟨rfl,rfl⟩)|(go_at_call 110;refine (kX _ false HG.out _).mono ?_;rintro e w' ⟨rfl,rfl⟩))
         go_ret
         exact ⟨yB (by unfold wordB;rw [←HR.out,HD.out,wordGo_bad _ _ (by unfold wdB;rw [HL.out,HG.out];simpa using h3)];simp),yC _ _ _⟩
     ·have hnx:∀ ty,(Instr.next (.pointer (some ⟨w.heap.size,0,none⟩)) true ty).run YP (w.iter s pos)=_:=λty=>run_next_any w s pos ty hp
      have hhi:=(decode_high s pos hp Om).1
      have HL:=Lib.hid (letB_hi _ hhi)
      have HG:=Lib.hid (digB_hi _ hhi)
      have h3b:(((Utf8.decode s pos).1:Int) !=95)=true:=by simp;omega
      go_wp2_with (first|(go_at_call 109;refine (qG _ false HL.out _).mono ?_;rintro e w' ⟨rfl,rfl⟩)|(go_at_call 110;refine (kX _ false HG.out _).mono ?_;rintro e w' ⟨rfl,rfl⟩))
      go_ret
      exact ⟨yB (by unfold wordB;rw [←HR.out,HD.out,wordGo_bad _ _ (by unfold wdB;rw [letB_hi8 _ Om,digB_hi8 _ Om];simp;omega)];simp),yC _ _ _⟩
    ·have hnx:∀ ty,(Instr.next (.pointer (some ⟨w.heap.size,0,none⟩)) true ty).run YP (w.iter s pos)=_:=λty=>run_next_end w s pos ty hp
     have HD:=Lib.hid (wP s pos hp)
     go_wp2
     go_ret
     exact ⟨yB (by unfold wordB;rw [←HR.out,HD.out,qA];simp;omega),yC _ _ _⟩
  ·go_enter Tryz.func117,Tryz.ntmps117
   go_wp2
   go_ret
   exact ⟨yB (by unfold wordB;simp [h12]),Below.refl _ _⟩
end
section
set_option linter.unnecessarySimpa false
theorem dS (s:YL)(W:World)(hs:s.length<=1048576):YC 117 #[.string (mkS s)] W (YR (.bool (wdL s)) W):=
 (word_any (mkS s) W (by rw [zQ];unfold maxLen;omega)).mono λe w' ⟨h,e2⟩=>⟨by rw [h];unfold wordB wdL;rw [zQ,mk_data],e2⟩
theorem dT (s:YL)(W:World)(hs:s.length<=1048576):YC 63 #[.string (mkS s)] W (YR (.bool (nmL s)) W):=
 name_any (mkS s) W (by rw [zQ];unfold maxLen;omega)
theorem jS (s:YL)(W:World)(hs:s.length<=1048576):YC 31 #[.string (mkS s)] W (YR (.string (mkS s)) W):=pO (mkS s) W (by rw [zQ];omega)
theorem iCut_any (s:YL)(w:World):YC 161 #[.string (mkS s),.string ⟨#[63]⟩] w (YR (.tuple #[.string (mkS (if s.head?=some 63 then s.drop 1 else s)),.bool (decide (s.head?=some 63))]) w):=
 (Tryz.strings_CutPrefix (mkS s) ⟨#[63]⟩ w).mono λe w' ⟨he,hw⟩=>by
  subst hw
  refine ⟨?_,Below.refl _ _⟩
  rw [he,mk_data]
  show Ending.returned (Value.tuple #[.string ⟨(Lib.trimPrefix s [63]).toArray⟩,.bool (Lib.hasPrefix s [63])])=_
  unfold Lib.trimPrefix Lib.hasPrefix
  cases s with
  |nil=>rfl
  |cons c r=>
   by_cases h:c=63
   ·subst h;simp [List.isPrefixOf,mkS]
   ·have h2:¬ 63=c:=λq=>h q.symm
    simp [List.isPrefixOf,mkS,h,h2]
theorem kind_cut {s:YL}(h:wdL s=false)(hno:¬ (s.head?=some 63/\wdL (s.drop 1)=true)):zO s=if (zA 47 s).2.2 && nmL (zA 47 s).1 && wdL (zA 47 s).2.1 then (3,(zA 47 s).1,(zA 47 s).2.1) else (0,[],[]):=by
 unfold zO
 rw [if_neg (by rw [h];simp),if_neg (by rw [Bool.and_eq_true,decide_eq_true_eq];exact hno),xG 47 s [],List.nil_append]
 cases hc:(zA 47 s).2.2 with
 |false=>simp
 |true=>
  rw [if_pos rfl]
  cases hw:wdL (zA 47 s).2.1 with
  |true=>
   have hf:(47:UInt8)∉(zA 47 s).2.1:=wdL_no (by decide) hw
   rw [xG 47 _ [],jW 47 _ hf]
   simp [hw]
  |false=>
   rw [xG 47 _ [],List.nil_append]
   cases hc2:(zA 47 (zA 47 s).2.1).2.2 with
   |true=>
    rw [if_pos rfl]
    cases hs:zE 47 [] (zA 47 (zA 47 s).2.1).2.1 with
    |nil=>exact absurd hs (vB 47 _ _)
    |cons y t=>simp
   |false=>
    have hb:=mQ 47 (zA 47 s).2.1
    rw [hc2,if_neg (by simp),List.append_nil] at hb
    rw [←hb]
    simp [hw]
theorem fItem_at (s:YL)(W:World)(hs:s.length<=1048576):YC 119 #[.string (mkS s)] W (YR (.tuple #[YI (zO s).1,.string (mkS (zO s).2.1),.string (mkS (zO s).2.2)]) W):=by
 have hcl:=jX 47 s
 refine zD Tryz.func119 (z8 (v:= .bool (wdL s)) [] (λw _=>dS s w hs) (zP 11 (wdL s) (λh1=> ?_) (λh1=> ?_)))
 ·refine z8 (v:= .string (mkS s)) [] (λw _=>jS s w hs) (jG [] (YI 1) (.string (mkS s)) (.string ⟨#[]⟩) λw hO=>⟨?_,hO.below⟩)
  rw [show zO s=(1,s,[]) from by unfold zO;rw [if_pos h1]];rfl
 have zero:∀ {w:World} {L:List Blk},¬ (s.head?=some 63/\wdL (s.drop 1)=true)->((zA 47 s).2.2 && nmL (zA 47 s).1 && wdL (zA 47 s).2.1)=false->Own [] W w L->(Ending.returned (.tuple #[YI 0,.string ⟨#[]⟩,.string ⟨#[]⟩])= .returned (.tuple #[YI (zO s).1,.string (mkS (zO s).2.1),.string (mkS (zO s).2.2)]))/\YB W w:=λh2 h3 hO=>by
  refine ⟨?_,hO.below⟩
  rw [kind_cut h1 h2,h3];rfl
 have three:∀ {w:World} {L:List Blk},¬ (s.head?=some 63/\wdL (s.drop 1)=true)->((zA 47 s).2.2 && nmL (zA 47 s).1 && wdL (zA 47 s).2.1)=true->Own [] W w L->(Ending.returned (.tuple #[YI 3,.string (mkS (zA 47 s).1),.string (mkS (zA 47 s).2.1)])= .returned (.tuple #[YI (zO s).1,.string (mkS (zO s).2.1),.string (mkS (zO s).2.2)]))/\YB W w:=λh2 h3 hO=>by
  refine ⟨?_,hO.below⟩
  rw [kind_cut h1 h2,h3];rfl
 by_cases hq:s.head?=some 63
 ·have hcp:∀ w,YC 161 #[.string (mkS s),.string ⟨#[63]⟩] w (YR (.tuple #[.string (mkS (s.drop 1)),.bool true]) w):=λw=>(iCut_any s w).mono λe w' ⟨e1,e2⟩=>⟨by rw [e1,if_pos hq,decide_eq_true hq],e2⟩
  refine z8 (v:= .tuple #[.string (mkS (s.drop 1)),.bool true]) [] (λw _=>hcp w) (z8 (v:= .bool (wdL (s.drop 1))) [] (λw _=>dS _ w (by rw [List.length_drop];omega)) (x_bb 23 [] (wdL (s.drop 1)) (λh2=> ?_) (λh2=> ?_)))
  ·refine z8 (v:= .string (mkS (s.drop 1))) [] (λw _=>jS _ w (by rw [List.length_drop];omega)) (jG [] (YI 2) (.string (mkS (s.drop 1))) (.string ⟨#[]⟩) λw hO=>⟨?_,hO.below⟩)
   rw [show zO s=(2,s.drop 1,[]) from by unfold zO;rw [if_neg (by rw [h1];simp),if_pos (by rw [hq,h2];rfl)]];rfl
  have hno:¬ (s.head?=some 63/\wdL (s.drop 1)=true):=λq=>by rw [h2] at q;cases q.2
  refine z8 (v:= .tuple #[.string (mkS (zA 47 s).1),.string (mkS (zA 47 s).2.1),.bool (zA 47 s).2.2]) [] (λw _=>jV s 47 w (by omega)) (x_bb 33 [] (zA 47 s).2.2 (λh3=> ?_) (λh3=> ?_))
  ·refine z8 (v:= .bool (nmL (zA 47 s).1)) [] (λw _=>dT _ w (by omega)) (x_bb 37 [] (nmL (zA 47 s).1) (λh4=> ?_) (λh4=> ?_))
   ·refine z8 (v:= .bool (wdL (zA 47 s).2.1)) [] (λw _=>dS _ w (by omega)) (x_bb 40 [] (wdL (zA 47 s).2.1) (λh5=> ?_) (λh5=> ?_))
    ·exact z8 (v:= .string (mkS (zA 47 s).1)) [] (λw _=>jS _ w Om) (z8 (v:= .string (mkS (zA 47 s).2.1)) [] (λw _=>jS _ w Om) (jG [] (YI 3) (.string (mkS (zA 47 s).1)) (.string (mkS (zA 47 s).2.1)) λw hO=>three hno (by rw [h3,h4,h5];rfl) hO))
    ·exact jG [] (YI 0) (.string ⟨#[]⟩) (.string ⟨#[]⟩) λw hO=>zero hno (by rw [h3,h4,h5];rfl) hO
   ·exact jG [] (YI 0) (.string ⟨#[]⟩) (.string ⟨#[]⟩) λw hO=>zero hno (by rw [h3,h4];rfl) hO
  ·exact jG [] (YI 0) (.string ⟨#[]⟩) (.string ⟨#[]⟩) λw hO=>zero hno (by rw [h3];rfl) hO
 ·have hcp:∀ w,YC 161 #[.string (mkS s),.string ⟨#[63]⟩] w (YR (.tuple #[.string (mkS s),.bool false]) w):=λw=>(iCut_any s w).mono λe w' ⟨e1,e2⟩=>⟨by rw [e1,if_neg hq,decide_eq_false hq],e2⟩
  have hno:¬ (s.head?=some 63/\wdL (s.drop 1)=true):=λq=>hq q.1
  refine z8 (v:= .tuple #[.string (mkS s),.bool false]) [] (λw _=>hcp w) (z8 (v:= .tuple #[.string (mkS (zA 47 s).1),.string (mkS (zA 47 s).2.1),.bool (zA 47 s).2.2]) [] (λw _=>jV s 47 w (by omega)) (x_bb 33 [] (zA 47 s).2.2 (λh3=> ?_) (λh3=> ?_)))
  ·refine z8 (v:= .bool (nmL (zA 47 s).1)) [] (λw _=>dT _ w (by omega)) (x_bb 37 [] (nmL (zA 47 s).1) (λh4=> ?_) (λh4=> ?_))
   ·refine z8 (v:= .bool (wdL (zA 47 s).2.1)) [] (λw _=>dS _ w (by omega)) (x_bb 40 [] (wdL (zA 47 s).2.1) (λh5=> ?_) (λh5=> ?_))
    ·exact z8 (v:= .string (mkS (zA 47 s).1)) [] (λw _=>jS _ w Om) (z8 (v:= .string (mkS (zA 47 s).2.1)) [] (λw _=>jS _ w Om) (jG [] (YI 3) (.string (mkS (zA 47 s).1)) (.string (mkS (zA 47 s).2.1)) λw hO=>three hno (by rw [h3,h4,h5];rfl) hO))
    ·exact jG [] (YI 0) (.string ⟨#[]⟩) (.string ⟨#[]⟩) λw hO=>zero hno (by rw [h3,h4,h5];rfl) hO
   ·exact jG [] (YI 0) (.string ⟨#[]⟩) (.string ⟨#[]⟩) λw hO=>zero hno (by rw [h3,h4];rfl) hO
  ·exact jG [] (YI 0) (.string ⟨#[]⟩) (.string ⟨#[]⟩) λw hO=>zero hno (by rw [h3];rfl) hO
end
section
section
variable {M:List Nat}{P:Program}{n:Nat}{W:World}{Q:Exit->Act->World->Prop}{c:Xc}
theorem dF (d:Nat)(h:List Nat)(s:YL)(k:Nat)(hk:k<s.length)(b:UInt8)(hb:s[k]=b)(hg:zF M P n W Q ((xgo P n (d+50000) h c).put (.int .u8 (b.toNat:Int))))
  (hkt:(xgl P n (d+50000) h c,xW n (xgo P n (d+50000) h c),(xO (xgo P n (d+50000) h c)).op,ev n (xgo P n (d+50000) h c).f (oX (xO (xgo P n (d+50000) h c))),ev n (xgo P n (d+50000) h c).f (oY (xO (xgo P n (d+50000) h c))),P.underlying (oT (xO (xgo P n (d+50000) h c))))
   =(xgr P n (d+50000) h c,true,.index (oT (xO (xgo P n (d+50000) h c))) (oX (xO (xgo P n (d+50000) h c))) (oY (xO (xgo P n (d+50000) h c))),.string (mkS s),YI (k:Int),some .string):=by kernel_rfl):zF M P n W Q c:=by
 simp only [Prod.mk.injEq] at hkt
 obtain ⟨hk',e1,e2,e3,e4,e5⟩:=hkt
 refine zL h c hk' (kH e1 (λw=> ?_) hg)
 have:=run_stridx e2 e3 e4 e5 (Int.natCast_nonneg k) (by simpa using hk) w
 simp only [Int.toNat_natCast] at this
 rw [hb] at this;exact this
end
def shQ (o:Oper):TypeId×Operand×Operand×Bool:=match o.op with
 | .slice t x none (some y) none=>(t,x,y,true)
 |_=>(0,.tmp 0,.tmp 0,false)
theorem shQ_op {o:Oper}(h:(shQ o).2.2.2=true):o.op= .slice (shQ o).1 (shQ o).2.1 none (some (shQ o).2.2.1) none:=by
 unfold shQ at h ⊢
 split at h
 ·rename_i q;simp only [q]
 ·cases h
def slQ (o:Oper):TypeId×Operand×Operand×Bool:=match o.op with
 | .slice t x (some y) none none=>(t,x,y,true)
 |_=>(0,.tmp 0,.tmp 0,false)
theorem slQ_op {o:Oper}(h:(slQ o).2.2.2=true):o.op= .slice (slQ o).1 (slQ o).2.1 (some (slQ o).2.2.1) none none:=by
 unfold slQ at h ⊢
 split at h
 ·rename_i e;rw [e]
 ·cases h
section
variable {M:List Nat}{P:Program}{n:Nat}{W:World}{Q:Exit->Act->World->Prop}{c:Xc}
theorem x_shi (d:Nat)(h:List Nat)(s:YL)(j:Int)(h0:0<=j)(h1:j<=s.length)(v:Value)(hv: .string (mkS (s.take j.toNat))=v)(hg:zF M P n W Q ((xgo P n (d+50000) h c).put v))
  (hkt:(xgl P n (d+50000) h c,xW n (xgo P n (d+50000) h c),(shQ (xO (xgo P n (d+50000) h c))).2.2.2,ev n (xgo P n (d+50000) h c).f (shQ (xO (xgo P n (d+50000) h c))).2.1,ev n (xgo P n (d+50000) h c).f (shQ (xO (xgo P n (d+50000) h c))).2.2.1,P.underlying (shQ (xO (xgo P n (d+50000) h c))).1)
   =(xgr P n (d+50000) h c,true,true,.string (mkS s),YI j,some .string):=by kernel_rfl):zF M P n W Q c:=by
 simp only [Prod.mk.injEq] at hkt
 obtain ⟨hk,e1,e2,e3,e4,e5⟩:=hkt
 exact zL h c hk (kH e1 (λw=>by rw [run_strhi (shQ_op e2) e3 e4 e5 h0 h1 w,hv]) hg)
theorem x_slo (d:Nat)(h:List Nat)(s:YL)(j:Int)(h0:0<=j)(h1:j<=s.length)(v:Value)(hv: .string (mkS (s.drop j.toNat))=v)(hg:zF M P n W Q ((xgo P n (d+50000) h c).put v))
  (hkt:(xgl P n (d+50000) h c,xW n (xgo P n (d+50000) h c),(slQ (xO (xgo P n (d+50000) h c))).2.2.2,ev n (xgo P n (d+50000) h c).f (slQ (xO (xgo P n (d+50000) h c))).2.1,ev n (xgo P n (d+50000) h c).f (slQ (xO (xgo P n (d+50000) h c))).2.2.1,P.underlying (slQ (xO (xgo P n (d+50000) h c))).1)
   =(xgr P n (d+50000) h c,true,true,.string (mkS s),YI j,some .string):=by kernel_rfl):zF M P n W Q c:=by
 simp only [Prod.mk.injEq] at hkt
 obtain ⟨hk,e1,e2,e3,e4,e5⟩:=hkt
 exact zL h c hk (kH e1 (λw=>by rw [run_strlo (slQ_op e2) e3 e4 e5 h0 h1 w,hv]) hg)
end
def ltB (o:Oper):Bool:=match o.op with
 | .binOp .lss _ _ _ _=>true
 |_=>false
def geB (o:Oper):Bool:=match o.op with
 | .binOp .geq _ _ _ _=>true
 |_=>false
theorem geB_op {o:Oper}(h:geB o=true):o.op= .binOp .geq (oT o) (oX o) (oY o) (oU o):=by
 unfold geB at h
 split at h
 ·rename_i q;simp only [oT,oX,oY,oU,q]
 ·cases h
section
variable {M:List Nat}{P:Program}{n:Nat}{W:World}{Q:Exit->Act->World->Prop}{c:Xc}
theorem x_sge (d:Nat)(h:List Nat)(s u:YL)(h1:Op.bytesLess s u=true->zF M P n W Q ((xgo P n (d+50000) h c).put (.bool false)))(h2:Op.bytesLess s u=false->zF M P n W Q ((xgo P n (d+50000) h c).put (.bool true)))
  (hkt:(xgl P n (d+50000) h c,xW n (xgo P n (d+50000) h c),geB (xO (xgo P n (d+50000) h c)),ev n (xgo P n (d+50000) h c).f (oX (xO (xgo P n (d+50000) h c))),ev n (xgo P n (d+50000) h c).f (oY (xO (xgo P n (d+50000) h c))))=(xgr P n (d+50000) h c,true,true,.string (mkS s),.string (mkS u)):=by kernel_rfl):zF M P n W Q c:=by
 simp only [Prod.mk.injEq] at hkt
 obtain ⟨hk,e1,e2,e3,e4⟩:=hkt
 cases hb:Op.bytesLess s u with
 |true=>exact zL h c hk (kH e1 (λw=>run_strgeq (geB_op e2) e3 e4 hb w) (h1 hb))
 |false=>exact zL h c hk (kH e1 (λw=>run_strgeq (geB_op e2) e3 e4 hb w) (h2 hb))
end
end
section
def mT (o:Oper):TypeId:=match o.op with
 | .makeSlice t _ _=>t
 |_=>0
def mX (o:Oper):Operand:=match o.op with
 | .makeSlice _ x _=>x
 |_=> .tmp 0
def mY (o:Oper):Operand:=match o.op with
 | .makeSlice _ _ y=>y
 |_=> .tmp 0
def skQ (o:Oper):TypeId×Operand×Operand×Operand×Bool:=match o.op with
 | .slice t x none (some y) (some z)=>(t,x,y,z,true)
 |_=>(0,.tmp 0,.tmp 0,.tmp 0,false)
theorem skQ_op {o:Oper}(h:(skQ o).2.2.2.2=true):o.op= .slice (skQ o).1 (skQ o).2.1 none (some (skQ o).2.2.1) (some (skQ o).2.2.2.1):=by
 unfold skQ at h ⊢
 split at h
 ·rename_i e;rw [e]
 ·cases h
def smQ (o:Oper):TypeId×Operand×Operand×Operand×Bool:=match o.op with
 | .slice t x (some y) (some z) none=>(t,x,y,z,true)
 |_=>(0,.tmp 0,.tmp 0,.tmp 0,false)
theorem smQ_op {o:Oper}(h:(smQ o).2.2.2.2=true):o.op= .slice (smQ o).1 (smQ o).2.1 (some (smQ o).2.2.1) (some (smQ o).2.2.2.1) none:=by
 unfold smQ at h ⊢
 split at h
 ·rename_i e;rw [e]
 ·cases h
section
variable {M:List Nat}{P:Program}{n:Nat}{W:World}{Q:Exit->Act->World->Prop}{c:Xc}
theorem x_make (d:Nat)(h:List Nat)(N sz by_:Nat)(z:Value)(cs:Array Value)(hcs:madeCells z.cells (N*sz)=cs)(hb:by_*N<=281474976710656)
  (hg:∀ b,zF M P n W Q ⟨.ops (xA (xgo P n (d+50000) h c)) (xT (xgo P n (d+50000) h c)),(xgo P n (d+50000) h c).k,⟨b,cs,xEl P (mT (xO (xgo P n (d+50000) h c)))⟩::(xgo P n (d+50000) h c).L,upd (xgo P n (d+50000) h c).f (xO (xgo P n (d+50000) h c)).dst (.slice (some ⟨b,0,none⟩) N N)⟩)
  (hkt:(xgl P n (d+50000) h c,(xgo P n (d+50000) h c).top,zU (xA (xgo P n (d+50000) h c)) n (xgo P n (d+50000) h c).f (xO (xgo P n (d+50000) h c)),(xO (xgo P n (d+50000) h c)).op,ev n (xgo P n (d+50000) h c).f (mX (xO (xgo P n (d+50000) h c))),ev n (xgo P n (d+50000) h c).f (mY (xO (xgo P n (d+50000) h c))),P.underlying (mT (xO (xgo P n (d+50000) h c))),(P.info? (xEl P (mT (xO (xgo P n (d+50000) h c))))).map (λi=>(i.zero,i.size,i.bytes)))
   =(xgr P n (d+50000) h c,.ops (xA (xgo P n (d+50000) h c)) (xO (xgo P n (d+50000) h c)::xT (xgo P n (d+50000) h c)),true,.makeSlice (mT (xO (xgo P n (d+50000) h c))) (mX (xO (xgo P n (d+50000) h c))) (mY (xO (xgo P n (d+50000) h c))),YI (N:Int),YI (N:Int),some (.slice (xEl P (mT (xO (xgo P n (d+50000) h c))))),some (some z,sz,by_)):=by kernel_rfl)
  (h1:1<=by_:=by decide):zF M P n W Q c:=by
 simp only [Prod.mk.injEq] at hkt
 obtain ⟨hk,e1,e2,e3,e4,e5,e6,e7⟩:=hkt
 refine zL h c hk ?_
 generalize xgo P n (d+50000) h c=d at*
 cases hi:P.info? (xEl P (mT (xO d))) with
 |none=>rw [hi] at e7;cases e7
 |some i=>
  rw [hi] at e7
  simp only [Option.map_some,Option.some.injEq,Prod.mk.injEq] at e7
  obtain ⟨i1,i2,i3⟩:=e7
  have hN:N<=281474976710656:=Nat.le_trans (Nat.le_mul_of_pos_left N h1) hb
  have:d=⟨.ops (xA d) (xO d::xT d),d.k,d.L,d.f⟩:=by rw [←e1]
  rw [this]
  exact ⟨λhq=>s_make e2 e3 e4 e5 e6 hi i1 Om Om (by rw [i3,←Int.natCast_mul];omega) Om λb=>by
   rw [show ((N:Nat):Int).toNat=N from rfl,i2,hcs]
   exact (hg b).go hq⟩
theorem jI (d:Nat)(h:List Nat){A:Option Addr}{b off:Nat}(hA:A=some ⟨b,off,none⟩)(N cp:Nat)(j:Int)(sz o:Nat)(ho:0<=j/\j<N/\off+j.toNat*sz=o)(hg:zF M P n W Q ((xgo P n (d+50000) h c).put (.pointer (some ⟨b,o,none⟩))))
  (hkt:(xgl P n (d+50000) h c,xW n (xgo P n (d+50000) h c),(xO (xgo P n (d+50000) h c)).op,ev n (xgo P n (d+50000) h c).f (oX (xO (xgo P n (d+50000) h c))),ev n (xgo P n (d+50000) h c).f (oY (xO (xgo P n (d+50000) h c))),P.underlying (oT (xO (xgo P n (d+50000) h c))),(P.info? (xEl P (oT (xO (xgo P n (d+50000) h c))))).map (·.size))
   =(xgr P n (d+50000) h c,true,.indexAddr (oT (xO (xgo P n (d+50000) h c))) (oX (xO (xgo P n (d+50000) h c))) (oY (xO (xgo P n (d+50000) h c))),.slice A N cp,YI j,some (.slice (xEl P (oT (xO (xgo P n (d+50000) h c))))),some sz):=by kernel_rfl):zF M P n W Q c:=by
 simp only [Prod.mk.injEq] at hkt
 obtain ⟨hk,e1,e2,e3,e4,e5,e6⟩:=hkt
 exact zL h c hk (kH e1 (λw=>run_ixA e2 e3 hA e4 e5 e6 ho.1 ho.2.1 ho.2.2 w) hg)
theorem x_slhi (d:Nat)(h:List Nat){A:Option Addr}{b off:Nat}(hA:A=some ⟨b,off,none⟩)(N cp sz:Nat)(j:Int)(h0:0<=j)(h1:j<=cp)(v:Value)(hv: .slice (some ⟨b,off,none⟩) j.toNat cp=v)(hg:zF M P n W Q ((xgo P n (d+50000) h c).put v))
  (hkt:(xgl P n (d+50000) h c,xW n (xgo P n (d+50000) h c),(shQ (xO (xgo P n (d+50000) h c))).2.2.2,ev n (xgo P n (d+50000) h c).f (shQ (xO (xgo P n (d+50000) h c))).2.1,ev n (xgo P n (d+50000) h c).f (shQ (xO (xgo P n (d+50000) h c))).2.2.1,P.underlying (shQ (xO (xgo P n (d+50000) h c))).1,(P.info? (xEl P (shQ (xO (xgo P n (d+50000) h c))).1)).map (·.size))
   =(xgr P n (d+50000) h c,true,true,.slice A N cp,YI j,some (.slice (xEl P (shQ (xO (xgo P n (d+50000) h c))).1)),some sz):=by kernel_rfl):zF M P n W Q c:=by
 simp only [Prod.mk.injEq] at hkt
 obtain ⟨hk,e1,e2,e3,e4,e5,e6⟩:=hkt
 subst hA
 exact zL h c hk (kH e1 (λw=>by rw [run_slhi (shQ_op e2) e3 e4 e5 e6 h0 h1 w,hv]) hg)
theorem x_joinF {α:Type}(fu:Fuel1)(lv:α->List (Nat×Value))(Lf:α->List Blk)(rel:α->Prop)(h:List Nat)(h1:Nj M P n W lv Lf rel->zF M P n W (JoinQ M n W (xJ lv Lf rel)) ⟨.code (xC (x9 P n nS fu h c)),[],(x9 P n nS fu h c).L,(x9 P n nS fu h c).f⟩)
  (h2:∀ x g,rel x->zF M P n W Q ⟨.fin .normal,(x9 P n nS fu h c).k,Lf x,wV g (lv x)⟩) (hkt:(xl P n nS fu h c,(x9 P n nS fu h c).top)=(xr P n nS (fuel12 fu) h c,.code (xC (x9 P n nS fu h c))):=by kernel_rfl):zF M P n W Q c:=by
 obtain ⟨hk,e1⟩:=Prod.mk.inj hkt
 refine xrun_ok fu h c hk ?_
 generalize x9 P n nS fu h c=d at*
 have:d=⟨.code (xC d),d.k,d.L,d.f⟩:=by rw [←e1]
 rw [this]
 refine ⟨λhq=>ok_join (xJ lv Lf rel) ((h1 λx' h c' hr hkt'=> ?_).go pq_join) λL f ⟨x,hr,hL,hA⟩=> ?_⟩
 ·simp only [Prod.mk.injEq] at hkt'
  obtain ⟨hk',f1,f2,f3,f4⟩:=hkt'
  refine zL h c' hk' ?_
  generalize xgo P n nS h c'=d' at*
  have:d'=⟨.fin .normal,[],d'.L,d'.f⟩:=by rw [←f1,←f2]
  rw [this]
  exact ⟨λ_=>fin_join ⟨x',hr,f3,gL f4⟩⟩
 ·subst hL
  rw [qE _ hA]
  exact (h2 x f hr).go hq
theorem x_slhm (d:Nat)(h:List Nat)(b N cp sz:Nat)(j m:Int)(hj:0<=j/\j<=m/\m<=cp)(v:Value)(hv: .slice (some ⟨b,0,none⟩) j.toNat m.toNat=v)(hg:zF M P n W Q ((xgo P n (d+50000) h c).put v))
  (hkt:(xgl P n (d+50000) h c,xW n (xgo P n (d+50000) h c),(skQ (xO (xgo P n (d+50000) h c))).2.2.2.2,ev n (xgo P n (d+50000) h c).f (skQ (xO (xgo P n (d+50000) h c))).2.1,ev n (xgo P n (d+50000) h c).f (skQ (xO (xgo P n (d+50000) h c))).2.2.1,ev n (xgo P n (d+50000) h c).f (skQ (xO (xgo P n (d+50000) h c))).2.2.2.1,P.underlying (skQ (xO (xgo P n (d+50000) h c))).1,(P.info? (xEl P (skQ (xO (xgo P n (d+50000) h c))).1)).map (·.size))
   =(xgr P n (d+50000) h c,true,true,.slice (some ⟨b,0,none⟩) N cp,YI j,YI m,some (.slice (xEl P (skQ (xO (xgo P n (d+50000) h c))).1)),some sz):=by kernel_rfl):zF M P n W Q c:=by
 simp only [Prod.mk.injEq] at hkt
 obtain ⟨hk,e1,e2,e3,e4,e5,e6,e7⟩:=hkt
 exact zL h c hk (kH e1 (λw=>by rw [run_slhm (skQ_op e2) e3 e4 e5 e6 e7 hj.1 hj.2.1 hj.2.2 w,hv]) hg)
theorem x_appF {T:TypeId}{sz N cap m cp:Nat}(h:List Nat)(p q:Nat)(L1:List Blk)(hn:N*sz<=(vQ L1 p).cs.size)(hroom:cap<N+m)(hN:N+m<=1048576)
  (hg:∀ v' ob',Sl T sz v' (N+m) ((vQ L1 p).cs.toList.take (N*sz)++(vQ L1 q).cs.toList) ob'->zF M P n W Q ⟨.ops (xA (xgo P n nS h c)) (xT (xgo P n nS h c)),(xgo P n nS h c).k,ob'++L1,upd (xgo P n nS h c).f (xO (xgo P n nS h c)).dst v'⟩)
  (hkt:(xgl P n nS h c,(xgo P n nS h c).L,(xgo P n nS h c).top,zU (xA (xgo P n nS h c)) n (xgo P n nS h c).f (xO (xgo P n nS h c)),(xO (xgo P n nS h c)).op,ev n (xgo P n nS h c).f (aX (xO (xgo P n nS h c)) 0),ev n (xgo P n nS h c).f (aX (xO (xgo P n nS h c)) 1),L1[p]?,L1[q]?,P.underlying (aT (xO (xgo P n nS h c))),aInfo P T,(vQ L1 q).cs.toList.length)
   =(xgr P n nS h c,L1,.ops (xA (xgo P n nS h c)) (xO (xgo P n nS h c)::xT (xgo P n nS h c)),true,aOp (xO (xgo P n nS h c)),.slice (some ⟨(vQ L1 p).b,0,none⟩) N cap,.slice (some ⟨(vQ L1 q).b,0,none⟩) m cp,some (vQ L1 p),some (vQ L1 q),some (.slice T),some (true,sz,some sz),m*sz):=by kernel_rfl):zF M P n W Q c:=by
 simp only [Prod.mk.injEq] at hkt
 obtain ⟨hk,f1,e1,e3,e4,e5,e6,e7,e7',e8,e9,e10⟩:=hkt
 refine zL h c hk ?_
 generalize (xgo P n nS h c)=d at*
 have:d=⟨.ops (xA d) (xO d::xT d),d.k,L1,d.f⟩:=by rw [←e1,←f1]
 rw [this]
 obtain ⟨i,z,hi,hz,hsz,hzs,hby⟩:=aInfo_is e9
 refine ⟨λhq=>s_appendF e3 e4 e8 hi hz hsz hzs e5 (by rw [List.length_take,Array.length_toList];omega) (λw hO j u hj=> ?_) e6 e10 (λw hO j u hj=> ?_) hroom (by unfold maxLen;omega) (by have:=Nat.mul_le_mul hN hby;omega) λv' ob' h=>(hg v' ob' h).go hq⟩
 ·rw [List.getElem?_take] at hj
  split at hj
  ·rw [xP,cell_of_row w _ _ _ _ _ (hO.held _ (List.mem_of_getElem? e7)),Nat.zero_add]
   simpa using hj
  ·cases hj
 ·rw [xP,cell_of_row w _ _ _ _ _ (hO.held _ (List.mem_of_getElem? e7')),Nat.zero_add]
  simpa using hj
theorem x_smid (d:Nat)(h:List Nat)(s:YL)(i j:Int)(hij:0<=i/\i<=j/\j<=s.length)(v:Value)(hv: .string (mkS ((s.drop i.toNat).take (j.toNat-i.toNat)))=v)(hg:zF M P n W Q ((xgo P n (d+50000) h c).put v))
  (hkt:(xgl P n (d+50000) h c,xW n (xgo P n (d+50000) h c),(smQ (xO (xgo P n (d+50000) h c))).2.2.2.2,ev n (xgo P n (d+50000) h c).f (smQ (xO (xgo P n (d+50000) h c))).2.1,ev n (xgo P n (d+50000) h c).f (smQ (xO (xgo P n (d+50000) h c))).2.2.1,ev n (xgo P n (d+50000) h c).f (smQ (xO (xgo P n (d+50000) h c))).2.2.2.1,P.underlying (smQ (xO (xgo P n (d+50000) h c))).1)
   =(xgr P n (d+50000) h c,true,true,.string (mkS s),YI i,YI j,some .string):=by kernel_rfl):zF M P n W Q c:=by
 simp only [Prod.mk.injEq] at hkt
 obtain ⟨hk,e1,e2,e3,e4,e5,e6⟩:=hkt
 exact zL h c hk (kH e1 (λw=>by rw [run_strmid (smQ_op e2) e3 e4 e5 e6 hij.1 hij.2.1 hij.2.2 w,hv]) hg)
theorem x_sllo (d:Nat)(h:List Nat){A:Option Addr}{b off:Nat}(hA:A=some ⟨b,off,none⟩)(N cp sz:Nat)(j:Int)(h0:0<=j)(h1:j<=N)(v:Value)(hv: .slice (some ⟨b,off+(if cp=j.toNat then 0 else j.toNat*sz),none⟩) (N-j.toNat) (cp-j.toNat)=v)(hg:zF M P n W Q ((xgo P n (d+50000) h c).put v))
  (hkt:(xgl P n (d+50000) h c,xW n (xgo P n (d+50000) h c),(slQ (xO (xgo P n (d+50000) h c))).2.2.2,ev n (xgo P n (d+50000) h c).f (slQ (xO (xgo P n (d+50000) h c))).2.1,ev n (xgo P n (d+50000) h c).f (slQ (xO (xgo P n (d+50000) h c))).2.2.1,P.underlying (slQ (xO (xgo P n (d+50000) h c))).1,(P.info? (xEl P (slQ (xO (xgo P n (d+50000) h c))).1)).map (·.size))
   =(xgr P n (d+50000) h c,true,true,.slice A N cp,YI j,some (.slice (xEl P (slQ (xO (xgo P n (d+50000) h c))).1)),some sz):=by kernel_rfl):zF M P n W Q c:=by
 simp only [Prod.mk.injEq] at hkt
 obtain ⟨hk,e1,e2,e3,e4,e5,e6⟩:=hkt
 subst hA
 exact zL h c hk (kH e1 (λw=>by rw [run_sllo (slQ_op e2) e3 e4 e5 e6 h0 h1 w,hv]) hg)
end
section
variable {M:List Nat}{n:Nat}{W:World}{Q:Exit->Act->World->Prop}{c:Xc}
theorem x_nea {α:Type}{p:α->α->Prop}[∀ u v,Decidable (p u v)](T:TypeId)(enc:α->Value)(hrun:∀ {ρ:Operand->Value} {o:Oper} {t':TypeId} {x y:Operand} {u v:α} {b:Bool},o.op= .binOp .neq T x y t'->ρ x=enc u->ρ y=enc v->decide (p u v)=b→∀ w,(execOp ρ o).run YP w= .ok (.value (.bool (!b))) w)
  (d:Nat) (h:List Nat) (u v:α) (h1:p u v->zF M YP n W Q ((xgo YP n (d+50000) h c).put (.bool false))) (h2:¬ p u v->zF M YP n W Q ((xgo YP n (d+50000) h c).put (.bool true)))
  (hkt:(xgl YP n (d+50000) h c,xW n (xgo YP n (d+50000) h c),(xO (xgo YP n (d+50000) h c)).op,ev n (xgo YP n (d+50000) h c).f (oX (xO (xgo YP n (d+50000) h c))),ev n (xgo YP n (d+50000) h c).f (oY (xO (xgo YP n (d+50000) h c))))=(xgr YP n (d+50000) h c,true,.binOp .neq T (oX (xO (xgo YP n (d+50000) h c))) (oY (xO (xgo YP n (d+50000) h c))) (oU (xO (xgo YP n (d+50000) h c))),enc u,enc v):=by kernel_rfl):zF M YP n W Q c:=by
 simp only [Prod.mk.injEq] at hkt
 obtain ⟨hk,e1,e2,e3,e4⟩:=hkt
 by_cases hp:p u v
 ·exact zL h c hk (kH e1 (λw=>hrun e2 e3 e4 (decide_eq_true hp) w) (h1 hp))
 ·exact zL h c hk (kH e1 (λw=>hrun e2 e3 e4 (decide_eq_false hp) w) (h2 hp))
end
end
section
theorem splitL_many10 (b:UInt8):∀ (s acc:YL),(zE b acc s).length<=s.length+1:=λs acc=>by
 rw [split_len];have:=List.length_filter_le (·==b) s;omega
theorem rsplitB_own (s:YL)(b:UInt8)(W:World)(hs:s.length<=1048576):
  YC 69 #[.string (mkS s),.int .u8 (b.toNat:Int)] W λe w'=>∃ v' ob',e= .returned v'/\SlT v' (zE b [] s) ob'/\Own [] W w' ob':=
 (rsplit_any (mkS s) b W (by rw [zQ];exact hs)).mono λe w' ⟨v,h1,h2,h3⟩=>by
  obtain ⟨ob,k1,k2⟩:=Own.row h2 h3
  unfold vE at k1
  rw [mk_data] at k1
  exact ⟨v,ob,h1,k1,k2⟩
theorem s_anew {M:List Nat}{P:Program}{n:Nat}{ops:Array Oper}{W:World}{Q:Exit->Act->World->Prop}{rest:List Oper}{L:List Blk}{f:Nat->Value}(h:∀ w1,Own M W w1 L->Seg (L.map Blk.b) P n ops w1 Q rest L f):Seg M P n ops W Q rest L f:=⟨λw hO=>(h w hO).go w (Own.lend hO)⟩
theorem own_new {W w:World}{E L0:List Blk}(h:Own (L0.map Blk.b) W w (E++L0)):∀ x∈E,W.heap.size<=x.b:=λx hx=>by
 rcases h.base x (List.mem_append_left _ hx) with q|q
 ·exact q
 ·obtain ⟨y,hy,e⟩:=List.mem_map.1 q
  have ha:=h.apart
  rw [List.map_append,List.nodup_append] at ha
  exact absurd e.symm (ha.2.2 x.b (List.mem_map.2 ⟨x,hx,rfl⟩) y.b (List.mem_map.2 ⟨y,hy,rfl⟩))
theorem Reads.bound {α:Type}{g:α->List Value}{w w1:World}{B1 B2:Nat}{A:Option Addr}{l:List α}(h:Reads g w B1 A l)(h1:Reads g w1 B2 A l):Reads g w B2 A l:=λh0=>by
 obtain ⟨b,off,e,_,hc⟩:=h h0
 obtain ⟨b',off',e',hl,_⟩:=h1 h0
 rw [e] at e'
 injection e' with e'
 injection e' with q1 q2
 subst q1;subst q2
 exact ⟨b,off,e,hl,hc⟩
end
section
def nC (n:Nd):List Value:=[YI n.op,YI n.a,YI n.b,YI n.key,.string (mkS n.text)]
theorem qU (n:Nd):(nC n).length=5:=rfl
def zC (z:Int):List Value:=[YI z]
theorem zC_len (z:Int):(zC z).length=1:=rfl
def SlN (v:Value)(l:List Nd)(ob:List Blk):Prop:=Sl 261 5 v l.length (l.flatMap nC) ob
def SlZ (v:Value)(l:List Int)(ob:List Blk):Prop:=Sl 3 1 v l.length (l.flatMap zC) ob
def ndV (n:Nd):Value:= .agg #[YI n.op,YI n.a,YI n.b,YI n.key,.string (mkS n.text)]
def pfV (e:Pf):Value:= .agg #[.string (mkS (e 0)),.string (mkS (e 1)),.string (mkS (e 2))]
theorem SlN.add {u:Value}{l:List Nd}{x:Nd}{ob:List Blk}(h:Sl 261 5 u (l.length+1) (l.flatMap nC++nC x) ob):SlN u (l++[x]) ob:=Sl.to h (by simp) (by simp)
theorem SlZ.add {u:Value}{l:List Int}{x:Int}{ob:List Blk}(h:Sl 3 1 u (l.length+1) (l.flatMap zC++zC x) ob):SlZ u (l++[x]) ob:=Sl.to h (by simp) (by simp)
theorem Sl.front {α:Type}{g:α->List Value}{T:TypeId}{sz:Nat}(hg:∀ x,(g x).length=sz){A:Option Addr}{cap:Nat}{l:List α}{ob:List Blk}(h:Sl T sz (.slice A l.length cap) l.length (l.flatMap g) ob)(h0:l≠[]){k:Nat}(hk:k<=l.length):
  Sl T sz (.slice A k cap) (l.take k).length ((l.take k).flatMap g) ob:=by
 have hlen:∀ l:List α,(l.flatMap g).length=l.length*sz:=λl=>by
  induction l with
  |nil=>simp
  |cons a l ih=>rw [List.flatMap_cons,List.length_append,ih,hg,List.length_cons,Nat.succ_mul];omega
 have hkl:(l.take k).length=k:=by rw [List.length_take];omega
 have htk:(l.flatMap g).take (k*sz)=(l.take k).flatMap g:=by
  have e:l.flatMap g=(l.take k).flatMap g++(l.drop k).flatMap g:=by rw [←List.flatMap_append,List.take_append_drop]
  rw [e,List.take_append_of_le_length (by rw [hlen,hkl];exact Nat.le_refl _),List.take_of_length_le (by rw [hlen,hkl];exact Nat.le_refl _)]
 refine ⟨hlen _, ?_⟩
 rcases h.2 with ⟨_,h2,_⟩|⟨q,c,cur,h1,h2,h3,h4,h5,h6⟩
 ·exact absurd (List.eq_nil_of_length_eq_zero h2) h0
 ·injection h1 with e1 e2 e3
  subst e1;subst e3
  refine .inr ⟨q,cap,cur,by rw [hkl],h2,by rw [hkl];omega,h4,h5, ?_⟩
  rw [hkl,←htk,←h6,List.take_take]
  congr 1
  have:k*sz<=l.length*sz:=Nat.mul_le_mul_right _ hk
  omega
theorem Sl.at0 {T:TypeId}{sz n m cap:Nat}{A:Option Addr}{xs:List Value}{ob:List Blk}(h:Sl T sz (.slice A n cap) m xs ob)(h0:0<m):∃ g,A=some ⟨g,0,none⟩/\m<=cap:=by
 rcases h.2 with ⟨_,h2,_⟩|⟨q,c,cur,h1,h2,h3,_⟩
 ·omega
 ·injection h1 with e1 e2 e3
  exact ⟨q,e1,by omega⟩
theorem wd_mk (s:YL):wordB (mkS s)=wdL s:=by unfold wordB wdL;rw [zQ,mk_data]
structure PfS (e:Pf):Prop where
 h0:(e 0).length<=1048576
 h1:(e 1).length<=1048576
 h2:(e 2).length<=1048576
end
section
set_option linter.unnecessarySimpa false
theorem wdB_or {c:Int}:wdB c=(qV c||yL c||decide (c=95)):=rfl
theorem r1low_any (c:UInt8)(W:World):YC 124 #[.int .u8 (c.toNat:Int)] W (YR (.bool (qV (c.toNat:Int))) W):=by
 refine zD Tryz.func124 ?_
 by_cases h1:(97:Int)<=(c.toNat:Int)
 ·refine zB 4 [] ((97:Int)<=(c.toNat:Int)) (λ_=> ?_) (λhq=>absurd (h1) hq)
  by_cases h2:(c.toNat:Int)<=122
  ·refine zB 7 [] ((c.toNat:Int)<=122) (λ_=> ?_) (λhq=>absurd (h2) hq)
   exact z7 [] Z4 (λw hO=>⟨by rw [show qV (c.toNat:Int)=true from by unfold qV;simp;try omega],hO.below⟩)
  exact zB 7 [] ((c.toNat:Int)<=122) (λhq=>absurd hq (h2)) (λ_=>z7 [] Z5 (λw hO=>⟨by rw [show qV (c.toNat:Int)=false from by unfold qV;simp;try omega],hO.below⟩))
 exact zB 4 [] ((97:Int)<=(c.toNat:Int)) (λhq=>absurd hq (h1)) (λ_=>z7 [] Z5 (λw hO=>⟨by rw [show qV (c.toNat:Int)=false from by unfold qV;simp;try omega],hO.below⟩))
theorem r1digit_any (c:UInt8)(W:World):YC 125 #[.int .u8 (c.toNat:Int)] W (YR (.bool (yL (c.toNat:Int))) W):=by
 refine zD Tryz.func125 ?_
 by_cases h1:(48:Int)<=(c.toNat:Int)
 ·refine zB 4 [] ((48:Int)<=(c.toNat:Int)) (λ_=> ?_) (λhq=>absurd (h1) hq)
  by_cases h2:(c.toNat:Int)<=57
  ·refine zB 7 [] ((c.toNat:Int)<=57) (λ_=> ?_) (λhq=>absurd (h2) hq)
   exact z7 [] Z4 (λw hO=>⟨by rw [show yL (c.toNat:Int)=true from by unfold yL;simp;try omega],hO.below⟩)
  exact zB 7 [] ((c.toNat:Int)<=57) (λhq=>absurd hq (h2)) (λ_=>z7 [] Z5 (λw hO=>⟨by rw [show yL (c.toNat:Int)=false from by unfold yL;simp;try omega],hO.below⟩))
 exact zB 4 [] ((48:Int)<=(c.toNat:Int)) (λhq=>absurd hq (h1)) (λ_=>z7 [] Z5 (λw hO=>⟨by rw [show yL (c.toNat:Int)=false from by unfold yL;simp;try omega],hO.below⟩))
theorem jN (s:YL)(W:World)(hs:s.length<=1048576):YC 170 #[.string (mkS s)] W (YR (.bool (wdL s)) W):=by
 have hsz:=zQ s
 refine zD Tryz.func170 ?_
 by_cases h1:((mkS s).size:Int)<1
 ·refine zB 6 [] (((mkS s).size:Int)<1) (λ_=> ?_) (λhq=>absurd (h1) hq)
  exact z7 [] Z5 (λw hO=>⟨by rw [show wdL s=false from by unfold wdL;rw [decide_eq_false Om];rfl],hO.below⟩)
 refine zB 6 [] (((mkS s).size:Int)<1) (λhq=>absurd hq (h1)) (λ_=> ?_)
 by_cases h2:(12:Int)<(mkS s).size
 ·refine zB 10 [] ((12:Int)<(mkS s).size) (λ_=> ?_) (λhq=>absurd (h2) hq)
  exact z7 [] Z5 (λw hO=>⟨by rw [show wdL s=false from by unfold wdL;rw [decide_eq_false Om];rfl],hO.below⟩)
 refine zB 10 [] ((12:Int)<(mkS s).size) (λhq=>absurd hq (h2)) (λ_=>zM (α:=Nat) (λi=>[(0,.string (mkS s)),(3,YI (i:Int))]) (λi=>[]) (λi m=>(i<=s.length/\qA (s.drop i)=qA s)/\m=s.length-i) (0) (s.length-0) [] ⟨⟨Nat.zero_le _,by rw [List.drop_zero]⟩,rfl⟩ ?_)
 rintro i m g kk ⟨hrel,hmm⟩ nx hkk
 subst hkk
 have hi6:=hrel.1
 by_cases h3:(i:Int)<(mkS s).size
 ·have hi:i<s.length:=by omega
  obtain ⟨c,hc⟩:∃ c,s[i]=c:=⟨_,rfl⟩
  have hdr:s.drop i=c::s.drop (i+1):=by rw [←hc];exact List.drop_eq_getElem_cons hi
  refine zB 15 [] ((i:Int)<(mkS s).size) (λ_=> ?_) (λhq=>absurd (h3) hq)
  refine dF 20 [] s i Om c hc (z8 (k:=124) (args:= #[.int .u8 (c.toNat:Int)]) (v:= .bool (qV (c.toNat:Int))) [] (λw _=>r1low_any c w) ?_)
  cases h4:qV (c.toNat:Int) with
  |true=>
   refine x_i 17 [] (((i+1:Nat):Int)) ?_
   have hnext:qA (s.drop (i+1))=qA s:=by rw [←hrel.2,hdr];refine (dG c _ ?_).symm;rw [wdB_or];simp [h1,h2,h3,h4]
   exact nx (i+1) (s.length-(i+1)) [] Om ⟨⟨by omega,hnext⟩,rfl⟩ Kr Kr
  |false=>
   refine dF 26 [] s i Om c hc (z8 (k:=125) (args:= #[.int .u8 (c.toNat:Int)]) (v:= .bool (yL (c.toNat:Int))) [] (λw _=>r1digit_any c w) ?_)
   cases h5:yL (c.toNat:Int) with
   |true=>
    refine x_i 17 [] (((i+1:Nat):Int)) ?_
    have hnext:qA (s.drop (i+1))=qA s:=by rw [←hrel.2,hdr];refine (dG c _ ?_).symm;rw [wdB_or];simp [h1,h2,h3,h4,h5]
    exact nx (i+1) (s.length-(i+1)) [] Om ⟨⟨by omega,hnext⟩,rfl⟩ Kr Kr
   |false=>
    refine dF 33 [] s i Om c hc ?_
    by_cases h6:(c.toNat:Int)=95
    ·refine vP 34 [] ((c.toNat:Int)=95) (λ_=> ?_) (λhq=>absurd (h6) hq)
     refine x_i 17 [] (((i+1:Nat):Int)) ?_
     have hnext:qA (s.drop (i+1))=qA s:=by rw [←hrel.2,hdr];refine (dG c _ ?_).symm;rw [wdB_or];simp [h1,h2,h3,h4,h5,h6]
     exact nx (i+1) (s.length-(i+1)) [] Om ⟨⟨by omega,hnext⟩,rfl⟩ Kr Kr
    exact vP 34 [] ((c.toNat:Int)=95) (λhq=>absurd hq (h6)) (λ_=>z7 [] Z5 (λw hO=>⟨by rw [show wdL s=false from by unfold wdL;rw [←hrel.2,hdr,wordGo_bad c _ (by rw [wdB_or];simp [h1,h2,h3,h4,h5,h6];try omega)];simp],hO.below⟩))
 exact zB 15 [] ((i:Int)<(mkS s).size) (λhq=>absurd hq (h3)) (λ_=>z7 [] Z4 (λw hO=>⟨by rw [show wdL s=true from by unfold wdL;rw [←hrel.2,List.drop_of_length_le Om];simp [qA];omega],hO.below⟩))
theorem r10leaf_any (n:Nd)(W:World)(hs:n.text.length<=1048576):YC 271 #[ndV n] W (YR (.bool (xK n)) W):=by
 refine zD Tryz.func271 (yK [] λb1=> ?_)
 by_cases h1:(n.op:Int)=1
 ·refine zB 5 [0] ((n.op:Int)=1) (λ_=> ?_) (λhq=>absurd (h1) hq)
  by_cases h2:(0:Int)<=n.key
  ·refine zB 9 [0] ((0:Int)<=n.key) (λ_=> ?_) (λhq=>absurd (h2) hq)
   by_cases h3:(n.key:Int)<3
   ·refine zB 14 [0] ((n.key:Int)<3) (λ_=> ?_) (λhq=>absurd (h3) hq)
    refine z8 (k:=170) (args:= #[.string (mkS n.text)]) (v:= .bool (wdL n.text)) [0] (λw _=>jN n.text w hs) ?_
    cases h4:wdL n.text with
    |true=>
     by_cases h5:(n.a:Int)=0
     ·refine zB 24 [0] ((n.a:Int)=0) (λ_=> ?_) (λhq=>absurd (h5) hq)
      by_cases h6:(n.b:Int)=0
      ·refine zB 29 [0] ((n.b:Int)=0) (λ_=> ?_) (λhq=>absurd (h6) hq)
       exact z7 [] Z4 (λw hO=>⟨by rw [show xK n=true from by unfold xK;simp [h1,h2,h3,h4,h5,h6];try omega],hO.below⟩)
      exact zB 29 [0] ((n.b:Int)=0) (λhq=>absurd hq (h6)) (λ_=>z7 [] Z5 (λw hO=>⟨by rw [show xK n=false from by unfold xK;simp [h1,h2,h3,h4,h5,h6];try omega],hO.below⟩))
     exact zB 24 [0] ((n.a:Int)=0) (λhq=>absurd hq (h5)) (λ_=>z7 [] Z5 (λw hO=>⟨by rw [show xK n=false from by unfold xK;simp [h1,h2,h3,h4,h5];try omega],hO.below⟩))
    |false=>
     exact z7 [] Z5 (λw hO=>⟨by rw [show xK n=false from by unfold xK;simp [h1,h2,h3,h4];try omega],hO.below⟩)
   exact zB 14 [0] ((n.key:Int)<3) (λhq=>absurd hq (h3)) (λ_=>z7 [] Z5 (λw hO=>⟨by rw [show xK n=false from by unfold xK;simp [h1,h2,h3];try omega],hO.below⟩))
  exact zB 9 [0] ((0:Int)<=n.key) (λhq=>absurd hq (h2)) (λ_=>z7 [] Z5 (λw hO=>⟨by rw [show xK n=false from by unfold xK;simp [h1,h2];try omega],hO.below⟩))
 exact zB 5 [0] ((n.op:Int)=1) (λhq=>absurd hq (h1)) (λ_=>z7 [] Z5 (λw hO=>⟨by rw [show xK n=false from by unfold xK;simp [h1];try omega],hO.below⟩))
theorem rd_key:∀ (k:Nat),k<3->yZ YP 9 #[.string ⟨#[111,115]⟩,.string ⟨#[97,114,99,104]⟩,.string ⟨#[97,98,105]⟩] (0+k*1)=some (.string (mkS (x3 k)))
 |0,_=>by kernel_rfl
 |1,_=>by kernel_rfl
 |2,_=>by kernel_rfl
theorem r10key_any (k:Nat)(hk:k<3)(W:World):YC 272 #[YI (k:Int)] W (YR (.string (mkS (x3 k))) W):=by
 exact zD Tryz.func272 (gM [] 3 9 #[.string ⟨#[111,115]⟩,.string ⟨#[97,114,99,104]⟩,.string ⟨#[97,98,105]⟩] λb1=>(zI 5 [] (A:=some ⟨b1,0,none⟩) rfl 3 3 k 1 (by first|omega|(simp;omega)) (jH 6 [] 0 #[.string ⟨#[111,115]⟩,.string ⟨#[97,114,99,104]⟩,.string ⟨#[97,98,105]⟩] (0+k*1) 9 (.string (mkS (x3 k))) (rd_key k hk) (z7 [] (.string (mkS (x3 k))) (λw hO=>⟨rfl,hO.below⟩)))))
def yP (c:Bool)(s:YL):YL:=if c then [40,32]++s++[32,41] else s
theorem kG (s:YL)(c:Bool)(W:World)(hs:s.length<=1048576):YC 273 #[.string (mkS s),.bool c] W (YR (.string (mkS (yP c s))) W):=by
 refine zD Tryz.func273 ?_
 cases h1:c with
 |true=>
  exact zR 7 [] ([40,32]) s (zR 8 [] ([40,32]++s) ([32,41]) (z7 [] (.string (mkS (([40,32]++s)++[32,41]))) (λw hO=>⟨rfl,hO.below⟩)))
 |false=>
  exact z7 [] (.string (mkS s)) (λw hO=>⟨rfl,hO.below⟩)
end
section
theorem low_is (r:Int)(b:Bool)(hb:qV r=b)(w:World):
  YC 124 #[.int .u8 r] w λe w'=>e= .returned (.bool b)/\w=w':=by
 subst hb
 unfold qV
 go_enter Tryz.func124,Tryz.ntmps124
 go_wp2
 all_goals go_ret
 all_goals exact ⟨yB (by simp;try omega),rfl⟩
end
section
theorem nameB_short (s:ByteArray)(h:s.size<1):mM s=false:=by
 have:s.data.toList=[]:=by have:=wP s 0 Om;simpa using this
 unfold mM;rw [this];simp [g7]
theorem rname_any (s:ByteArray)(w:World)(hs:s.size<=maxLen):
  YC 76 #[.string s] w λe w'=>e= .returned (.bool (mM s))/\w=w':=by
 unfold maxLen at hs
 by_cases h0:s.size<1
 ·go_enter Tryz.func76,Tryz.ntmps76
  go_wp2
  go_ret
  exact ⟨yB (by rw [nameB_short s h0]),rfl⟩
 ·have hp0:0<s.size:=by omega
  by_cases h16:s.size<=16
  ·have HB:=Lib.hid (nameB_ref s hp0 h16)
   by_cases hl:qV s[0].toNat=true
   ·have HL:=Lib.hid hl
    clear hl
    by_cases h45:(s[s.size-1].toNat:Int)=45
    ·have H45:=Lib.hid h45
     have h45b:((s[s.size-1].toNat:Int)==45)=true:=by simp [h45]
     clear h45
     go_enter Tryz.func76,Tryz.ntmps76
     go_wp2_with (go_at_call 124;refine (low_is _ true HL.out _).mono ?_;rintro e w' ⟨rfl,rfl⟩)
     go_ret
     exact ⟨yB (by rw [HB.out,HL.out,H45.out];rfl),rfl⟩
    ·have h45b:((s[s.size-1].toNat:Int)==45)=false:=by simpa using h45
     go_enter Tryz.func76,Tryz.ntmps76
     go_wp2_with (go_at_call 124;refine (low_is _ true HL.out _).mono ?_;rintro e w' ⟨rfl,rfl⟩)
     go_loop [3] (λi=>∃ (k:Nat) (hk:k<s.size),i=YI (k+1:Nat)/\Hid (vU s[k].toNat (s.data.toList.drop (k+1))=vU s[0].toNat (s.data.toList.drop 1))) (λi=>s.size-(intOf i).toNat)
     case atStart=>exact ⟨0,hp0,rfl,rfl⟩
     case round=>
      obtain ⟨k,hk,rfl,HR⟩:=hrel
      by_cases hp:k+1<s.size
      ·have HD:=Lib.hid (qI s (k+1) hp)
       by_cases hl2:qV s[k+1].toNat=true
       ·have HL2:=Lib.hid hl2
        have hne:¬ (s[k+1].toNat:Int)=45:=by unfold qV at hl2;simp at hl2;omega
        have hcb:((s[k+1].toNat:Int)==45)=false:=by simpa using hne
        have HN:=Lib.hid hne
        clear hl2 hne
        go_wp2_with (go_at_call 124;refine (low_is _ true HL2.out _).mono ?_;rintro e w' ⟨rfl,rfl⟩)
        go_round
        case rel=>exact ⟨k+1,hp,by go_num,by rw [←HR.out,HD.out,nameRef_ok _ _ _ (by rw [HL2.out];rfl) (by simp [HN.out])];rfl⟩
        case measure=>simp [intOf];omega
       ·have HL2:=Lib.hid (Bool.eq_false_iff.2 hl2)
        clear hl2
        by_cases hd2:yL s[k+1].toNat=true
        ·have HG2:=Lib.hid hd2
         have hne:¬ (s[k+1].toNat:Int)=45:=by unfold yL at hd2;simp at hd2;omega
         have hcb:((s[k+1].toNat:Int)==45)=false:=by simpa using hne
         have HN:=Lib.hid hne
         clear hd2 hne
         go_wp2_with (first|(go_at_call 124;refine (low_is _ false HL2.out _).mono ?_;rintro e w' ⟨rfl,rfl⟩)|(go_at_call 125;refine (bG _ true HG2.out _).mono ?_;rintro e w' ⟨rfl,rfl⟩))
         go_round
         case rel=>exact ⟨k+1,hp,by go_num,by rw [←HR.out,HD.out,nameRef_ok _ _ _ (by rw [HL2.out,HG2.out];rfl) (by simp [HN.out])];rfl⟩
         case measure=>simp [intOf];omega
        ·have HG2:=Lib.hid (Bool.eq_false_iff.2 hd2)
         clear hd2
         by_cases h3:(s[k+1].toNat:Int)=45
         ·have H3:=Lib.hid h3
          have hcb:((s[k+1].toNat:Int)==45)=true:=by simp [h3]
          have hcn:((s[k+1].toNat:Int) !=45)=false:=by simp [h3]
          clear h3
          by_cases h4:(s[k].toNat:Int)=45
          ·have H4:=Lib.hid h4
           have hpb:((s[k].toNat:Int)==45)=true:=by simp [h4]
           clear h4
           go_wp2_with (first|(go_at_call 124;refine (low_is _ false HL2.out _).mono ?_;rintro e w' ⟨rfl,rfl⟩)|(go_at_call 125;refine (bG _ false HG2.out _).mono ?_;rintro e w' ⟨rfl,rfl⟩))
           go_ret
           exact ⟨yB (by rw [HB.out,←HR.out,HD.out,nameRef_two _ _ _ H3.out H4.out];simp),rfl⟩
          ·have hpb:((s[k].toNat:Int)==45)=false:=by simpa using h4
           go_wp2_with (first|(go_at_call 124;refine (low_is _ false HL2.out _).mono ?_;rintro e w' ⟨rfl,rfl⟩)|(go_at_call 125;refine (bG _ false HG2.out _).mono ?_;rintro e w' ⟨rfl,rfl⟩))
           go_round
           case rel=>exact ⟨k+1,hp,by go_num,by rw [←HR.out,HD.out,nameRef_ok _ _ _ (by rw [H3.out];simp) (by simp [h4])];rfl⟩
           case measure=>simp [intOf];omega
         ·have hcn:((s[k+1].toNat:Int) !=45)=true:=by simpa using h3
          go_wp2_with (first|(go_at_call 124;refine (low_is _ false HL2.out _).mono ?_;rintro e w' ⟨rfl,rfl⟩)|(go_at_call 125;refine (bG _ false HG2.out _).mono ?_;rintro e w' ⟨rfl,rfl⟩))
          go_ret
          exact ⟨yB (by rw [HB.out,←HR.out,HD.out,nameRef_bad _ _ _ (by rw [HL2.out,HG2.out];simpa using h3)];simp),rfl⟩
      ·have HD:=Lib.hid (wP s (k+1) hp)
       go_wp2
       go_ret
       exact ⟨yB (by rw [HB.out,←HR.out,HD.out,HL.out,vU];simp [h45]),rfl⟩
   ·have HL:=Lib.hid (Bool.eq_false_iff.2 hl)
    clear hl
    go_enter Tryz.func76,Tryz.ntmps76
    go_wp2_with (go_at_call 124;refine (low_is _ false HL.out _).mono ?_;rintro e w' ⟨rfl,rfl⟩)
    go_ret
    exact ⟨yB (by rw [HB.out,HL.out];rfl),rfl⟩
  ·go_enter Tryz.func76,Tryz.ntmps76
   go_wp2
   go_ret
   exact ⟨yB (by unfold mM;simp [h16]),rfl⟩
end
section
set_option linter.unnecessarySimpa false
theorem wY (s:YL)(W:World)(hs:s.length<=1048576):YC 76 #[.string (mkS s)] W (YR (.bool (nmL s)) W):=
 (rname_any (mkS s) W (by rw [zQ];unfold maxLen;omega)).mono λe w' ⟨h,e2⟩=>⟨h,e2▸Below.refl _ _⟩
theorem kind_w {s:YL}(h:wdL s=true):zO s=(1,s,[]):=by unfold zO;rw [if_pos h]
theorem kind_o {s:YL}{c:UInt8}(h:wdL s=false)(h0:s.head?=some c)(hc:(c.toNat:Int)=63)(h2:wdL (s.drop 1)=true):zO s=(2,s.drop 1,[]):=by
 have:c=63:=UInt8.toNat_inj.1 (by simp;omega)
 unfold zO
 rw [if_neg (by rw [h];simp),if_pos (by rw [h0,this,h2];rfl)]
theorem kind_two' {s a b:YL}(h:wdL s=false)(hno:¬ (s.head?=some 63/\wdL (s.drop 1)=true))(hl:zE 47 [] s=[a,b]):zO s=if nmL a && wdL b then (3,a,b) else (0,[],[]):=by
 unfold zO
 rw [if_neg (by rw [h];simp),if_neg (by rw [Bool.and_eq_true,decide_eq_true_eq];exact hno),hl]
theorem kind_not {s:YL}(h:wdL s=false)(hno:¬ (s.head?=some 63/\wdL (s.drop 1)=true))(hl:¬ (zE 47 [] s).length=2):zO s=(0,[],[]):=by
 unfold zO
 rw [if_neg (by rw [h];simp),if_neg (by rw [Bool.and_eq_true,decide_eq_true_eq];exact hno)]
 split
 ·rename_i a b e;rw [e] at hl;exact absurd rfl hl
 ·rfl
theorem two11_of {l:List YL}(h:l.length=2):∃ a b,l=[a,b]:=by
 match l,h with
 | [a,b],_=>exact ⟨a,b,rfl⟩
theorem r11Item_any (s:YL)(W:World)(hs:s.length<=1048576):YC 172 #[.string (mkS s)] W (YR (.tuple #[YI (zO s).1,.string (mkS (zO s).2.1),.string (mkS (zO s).2.2)]) W):=by
 have hK:=λ{z:Int} {a b:YL} (h:zO s=(z,a,b)) (w:World) (hb:YB W w)=>show Ending.returned (.tuple #[YI z,.string (mkS a),.string (mkS b)])= .returned (.tuple #[YI (zO s).1,.string (mkS (zO s).2.1),.string (mkS (zO s).2.2)])/\YB W w from ⟨by rw [h],hb⟩
 refine zD Tryz.func172 (z8 (k:=170) (args:= #[.string (mkS s)]) (v:= .bool (wdL s)) [] (λw _=>jN s w hs) ?_)
 cases h1:wdL s with
 |true=>exact jG [] (.int .i64 1) (.string (mkS s)) (.string (mkS [])) λw hO=>hK (kind_w h1) w hO.below
 |false=>
  refine x_joinF (.s (.s (.s (.s (.s (.s (.s .z))))))) (α:=Bool) (λd=>[(0,.string (mkS s)),(21,.bool d)]) (λ_=>[]) (λd=>d=(decide (s.head?=some 63) && wdL (s.drop 1))) [] (λnj=> ?_) (λd g hd=> ?_)
  ·refine zB 11 [] ((0:Int)<(s.length:Int)) (λh2=> ?_) (λh2=>nj false [] (by rw [List.eq_nil_of_length_eq_zero (by omega:s.length=0)];rfl) Kr)
   have h0s:0<s.length:=by omega
   have hhd:s.head?=some s[0]:=by rw [List.head?_eq_getElem?,List.getElem?_eq_getElem h0s]
   exact dF 14 [] s 0 h0s s[0] rfl (zB 15 [] ((s[0].toNat:Int)=63) (λh3=>x_slo 19 [] s 1 Om Om (.string (mkS (s.drop 1))) rfl (z8 (k:=170) (args:= #[.string (mkS (s.drop 1))]) (v:= .bool (wdL (s.drop 1))) [] (λw _=>jN (s.drop 1) w (by rw [List.length_drop];omega)) (nj (wdL (s.drop 1)) [] (by rw [hhd,show s[0]=63 from UInt8.toNat_inj.1 (by simp;omega)];simp) Kr))) (λh3=>nj false [] (by rw [hhd,decide_eq_false (λq=>h3 (by rw [Option.some.inj q];rfl))];rfl) Kr))
  cases d with
  |true=>
   have hy:=hd.symm
   rw [Bool.and_eq_true,decide_eq_true_eq] at hy
   exact x_slo 23 [] s 1 Om (by cases s with|nil=>cases hy.1|cons a r=>simp;omega) (.string (mkS (s.drop 1))) rfl (jG [] (YI 2) (.string (mkS (s.drop 1))) (.string (mkS [])) λw hO=>hK (kind_o h1 hy.1 (by decide) hy.2) w hO.below)
  |false=>
   have hno:¬ (s.head?=some 63/\wdL (s.drop 1)=true):=λq=>by rw [q.1,q.2] at hd;cases hd
   refine k8 (R:=λv' ob'=>SlT v' (zE 47 [] s) ob') [] (λw hO=>rsplitB_own s 47 w hs) ?_
   intro vw ow hsw
   obtain ⟨AW,cw,rfl⟩:=hsw.form
   refine zB 28 [] (((zE 47 [] s).length:Int)=2) (λh5=> ?_) (λh5=>jG [] (YI 0) (.string (mkS [])) (.string (mkS [])) λw hO=>hK (kind_not h1 hno Om) w hO.below)
   obtain ⟨x,y,hxy⟩:=two11_of (l:=(zE 47 [] s)) Om
   obtain ⟨gb,hgb,hcb⟩:=Sl.at0 hsw Om
   have hxl:x.length<=1048576:=Nat.le_trans (nV 47 s [] x (by rw [hxy];simp)) (by simpa using hs)
   have hyl:y.length<=1048576:=Nat.le_trans (nV 47 s [] y (by rw [hxy];simp)) (by simpa using hs)
   have hl0:∀ w,Own [] W w ow->(loadVar 9 ⟨gb,0+0*1,none⟩).run YP w= .ok (.string (mkS x)) w:=λw hO=>Reads.load zX (SlT.reads hsw rfl hO (λx hx=>hx)) hgb 0 0 (by rw [hxy];show 0<2;omega) rfl _ (by simp only [hxy];kernel_rfl)
   have hl1:∀ w,Own [] W w ow->(loadVar 9 ⟨gb,0+1*1,none⟩).run YP w= .ok (.string (mkS y)) w:=λw hO=>Reads.load zX (SlT.reads hsw rfl hO (λx hx=>hx)) hgb 1 0 (by rw [hxy];show 1<2;omega) rfl _ (by simp only [hxy];kernel_rfl)
   have hk:=kind_two' h1 hno hxy
   refine zI 31 [] hgb (zE 47 [] s).length cw 0 1 Om (zH 32 [] 9 gb (0+0*1) (.string (mkS x)) (λw hO=>hl0 w (hO.past 0 ow)) (z8 (k:=76) (args:= #[.string (mkS x)]) (v:= .bool (nmL x)) [] (λw _=>wY x w hxl) ?_))
   cases h6:nmL x with
   |false=>exact jG [] (.int .i64 0) (.string (mkS [])) (.string (mkS [])) λw hO=>hK (by rw [hk,if_neg (by simp [h6])]) w hO.below
   |true=>
    refine zI 37 [] hgb (zE 47 [] s).length cw 1 1 Om (zH 38 [] 9 gb (0+1*1) (.string (mkS y)) (λw hO=>hl1 w (hO.past 0 ow)) (z8 (k:=170) (args:= #[.string (mkS y)]) (v:= .bool (wdL y)) [] (λw _=>jN y w hyl) ?_))
    cases h7:wdL y with
    |false=>exact jG [] (.int .i64 0) (.string (mkS [])) (.string (mkS [])) λw hO=>hK (by rw [hk,if_neg (by simp [h7])]) w hO.below
    |true=>exact zI 42 [] hgb (zE 47 [] s).length cw 0 1 Om (zH 43 [] 9 gb (0+0*1) (.string (mkS x)) (λw hO=>hl0 w (hO.past 0 ow)) (zI 45 [] hgb (zE 47 [] s).length cw 1 1 Om (zH 46 [] 9 gb (0+1*1) (.string (mkS y)) (λw hO=>hl1 w (hO.past 0 ow)) (jG [] (.int .i64 3) (.string (mkS x)) (.string (mkS y)) λw hO=>hK (by rw [hk,if_pos (by rw [h6,h7];rfl)]) w hO.below))))
end
section
set_option linter.unnecessarySimpa false
theorem rise_iff:∀ {l:List YL},qX l=true↔∀ i (h:i+1<l.length),Op.bytesLess (l[i]'Om) l[i+1]=true
 | []=>⟨λ_ i h=>by simp at h,λ_=>rfl⟩
 | [a]=>⟨λ_ i h=>by simp at h,λ_=>rfl⟩
 |a::b::r=>by
  rw [qX,Bool.and_eq_true,rise_iff (l:=b::r)]
  constructor
  ·rintro ⟨h1,h2⟩ i h
   cases i with
   |zero=>exact h1
   |succ i=>exact h2 i (by simpa using h)
  ·intro h
   exact ⟨h 0 (by simp),λi hi=>h (i+1) (by simpa using hi)⟩
theorem yQ {α:Type}{p:α->Prop}{l:List α}{i:Nat}(hi:i<l.length)(h:∀ x∈l.take i,p x)(hp:p l[i]):∀ y∈l.take (i+1),p y:=λy hy=>by
 rw [List.take_succ_eq_append_getElem hi] at hy
 rcases List.mem_append.1 hy with hy|hy
 ·exact h y hy
 ·rw [List.mem_singleton.1 hy];exact hp
theorem xF {α:Type}{p:α->Prop}{l:List α}{i:Nat}(hi:l.length<=i)(h:∀ x∈l.take i,p x):∀ y∈l,p y:=by rwa [List.take_of_length_le hi] at h
theorem dR {l:List Ft}{of:List YL}(h:¬ of.length<=6\/qX of=false∨∃ s∈of,wK l s=false):kP l of=false:=by
 unfold kP
 rcases h with h|h|⟨s,hs,h⟩
 ·rw [decide_eq_false h];rfl
 ·rw [h];simp
 ·rw [show of.all (wK l)=false from by rw [List.all_eq_false];exact ⟨s,hs,by rw [h];simp⟩];simp
theorem items_yes {l:List Ft}{of:List YL}(h:of.length<=6)(h2:qX of=true)(h3:∀ s∈of,wK l s=true):kP l of=true:=by
 unfold kP
 rw [decide_eq_true h,h2,List.all_eq_true.2 h3];rfl
theorem pC {l:List Ft}(h:¬ l.length<=8\/(∃ f∈l,wdL f.name=false)\/qX (l.map Ft.name)=false∨∃ f∈l,kP l f.of=false):dP l=false:=by
 unfold dP
 rcases h with h|⟨f,hf,h⟩|h|⟨f,hf,h⟩
 ·rw [decide_eq_false h];rfl
 ·rw [show l.all (λf=>wdL f.name)=false from by rw [List.all_eq_false];exact ⟨f,hf,by rw [h];simp⟩];simp
 ·rw [h];simp
 ·rw [show l.all (λf=>kP l f.of)=false from by rw [List.all_eq_false];exact ⟨f,hf,by rw [h];simp⟩];simp
theorem may_yes {l:List Ft}(h:l.length<=8)(h2:∀ f∈l,wdL f.name=true)(h3:qX (l.map Ft.name)=true)(h4:∀ f∈l,kP l f.of=true):dP l=true:=by
 unfold dP
 rw [decide_eq_true h,List.all_eq_true.2 h2,h3,List.all_eq_true.2 h4];rfl
theorem ft_mem {xs:List Fv}{x:Fv}(h:x∈xs):x.ft∈yT xs:=List.mem_map.2 ⟨x,h,rfl⟩
theorem ft_rise {xs:List Fv}:qX ((yT xs).map Ft.name)=true↔∀ i (h:i+1<xs.length),Op.bytesLess (xs[i]'Om).name xs[i+1].name=true:=by
 rw [rise_iff]
 constructor
 ·intro h i hi
  have:=h i (by rw [List.length_map,wO];exact hi)
  simpa [yT,Fv.ft] using this
 ·intro h i hi
  rw [List.length_map,wO] at hi
  simpa [yT,Fv.ft] using h i hi
theorem r1Rising_any (A:Option Addr)(cap:Nat)(l:List YL)(W:World)(hv:Reads yY W W.heap.size A l)(hn:l.length<=1048576):YC 203 #[.slice A l.length cap] W (YR (.bool (qX l)) W):=by
 refine zD Tryz.func203 (zM (α:=Nat) (λi=>[(0,.slice A l.length cap),(3,YI ((i+1:Nat):Int))]) (λi=>[]) (λi m=>(i<=l.length∧∀ z (hz:z+1<l.length),z<i->Op.bytesLess (l[z]'Om) l[z+1]=true)/\m=l.length-i) (0) (l.length-0) [] ⟨⟨Nat.zero_le _,λz hz hzi=>absurd hzi (Nat.not_lt_zero _)⟩,rfl⟩ ?_)
 rintro i m g kk ⟨hrel,hmm⟩ nx hkk
 subst hkk
 have hj6:=hrel.1
 by_cases h1:((i+1:Nat):Int)<(l.length:Int)
 ·have hjl:i+1<l.length:=by omega
  obtain ⟨bp,off,hA,hlt,hcell⟩:=hv Om
  obtain ⟨x,hx⟩:∃ x,l[i]=x:=⟨_,rfl⟩
  obtain ⟨y,hy⟩:∃ y,l[i+1]=y:=⟨_,rfl⟩
  refine zB 7 [] (((i+1:Nat):Int)<(l.length:Int)) (λ_=> ?_) (λhq=>absurd (h1) hq)
  refine v8 12 [] (YI (IntKind.i64.wrap (((i+1:Nat):Int) -1))) (YI (i:Int)) (by rw [IntWalk.i64_in _ Om,show ((i+1:Nat):Int) -1=(i:Int) by omega]) (zI 13 [] hA l.length cap i 1 (by first|omega|(simp;omega)) (zH 14 [] 9 bp (off+i*1) (.string (mkS x)) (λw hO=>Reads.load zX (hv.on hO.below hO.size) hA i 0 Om Om _ (by rw [hx];kernel_rfl)) (zI 17 [] hA l.length cap (i+1) 1 (by first|omega|(simp;omega)) (zH 18 [] 9 bp (off+(i+1)*1) (.string (mkS y)) (λw hO=>Reads.load zX (hv.on hO.below hO.size) hA (i+1) 0 Om Om _ (by rw [hy];kernel_rfl)) ?_))))
  cases h2:Op.bytesLess x y with
  |true=>
   refine x_sge 19 [] x y (λ_=> ?_) (λhq=>absurd (hq.symm.trans h2) (by decide))
   exact x_i 9 [] (((i+1+1:Nat):Int)) (nx (i+1) (l.length-(i+1)) [] Om ⟨⟨by omega,λz hz hzi=>by rcases Nat.lt_succ_iff_lt_or_eq.1 hzi with q|rfl;exact hrel.2 z hz q;rw [hx,hy];exact h2⟩,rfl⟩ Kr Kr)
  |false=>
   exact x_sge 19 [] x y (λhq=>absurd (hq.symm.trans h2) (by decide)) (λ_=>z7 [] Z5 (λw hO=>⟨by rw [show qX l=false from by cases hq:qX l with|false=>rfl|true=>have q:=rise_iff.1 hq i hjl;rw [hx,hy,h2] at q;cases q],hO.below⟩))
 exact zB 7 [] (((i+1:Nat):Int)<(l.length:Int)) (λhq=>absurd hq (h1)) (λ_=>z7 [] Z4 (λw hO=>⟨by rw [show qX l=true from rise_iff.2 λz hz=>hrel.2 z hz Om],hO.below⟩))
theorem r11Find_any (A:Option Addr)(cap:Nat)(xs:List Fv)(n:YL)(W:World)(hv:FtIn W W.heap.size A xs):YC 238 #[.slice A xs.length cap,.string (mkS n)] W (YR (YI (dE (yT xs) n)) W):=by
 refine zD Tryz.func238 (zM (α:=Nat) (λi=>[(0,.slice A xs.length cap),(1,.string (mkS n)),(5,YI (i:Int))]) (λi=>[]) (λi m=>(i<=xs.length∧∀ f∈yT (xs.take i),¬ f.name=n)/\m=xs.length-i) (0) (xs.length-0) [] ⟨⟨Nat.zero_le _,λf hf=>by simp [yT] at hf⟩,rfl⟩ ?_)
 rintro i m g kk ⟨hrel,hmm⟩ nx hkk
 subst hkk
 have hi6:=hrel.1;have hxn:=hv.n
 by_cases h1:(i:Int)<(xs.length:Int)
 ·have hil:i<xs.length:=by omega
  obtain ⟨bp,off,hA,hlt,hcell⟩:=hv.top Om
  obtain ⟨x,hx⟩:∃ x,xs[i]=x:=⟨_,rfl⟩
  refine zB 9 [] ((i:Int)<(xs.length:Int)) (λ_=> ?_) (λhq=>absurd (h1) hq)
  refine zI 14 [] hA xs.length cap i 2 (by first|omega|(simp;omega)) (zH 16 [] 9 bp (off+i*2+0) (.string (mkS x.name)) (λw hO=>Reads.load wE (hv.top.on hO.below hO.size) hA i 0 hil Om _ (by rw [hx];kernel_rfl)) ?_)
  by_cases h2:(x.name:YL)=n
  ·refine x4 18 [] x.name n (λ_=> ?_) (λhq=>absurd (h2) hq)
   exact z7 [] (YI (i:Int)) (λw hO=>⟨by rw [show dE (yT xs) n=(i:Int) from by unfold dE;rw [findI_at (i:=i) (by rw [wO];exact hil) (by rw [ftOf_get hil hx];exact h2) (by rw [←pH];exact hrel.2)]],hO.below⟩)
  exact x4 18 [] x.name n (λhq=>absurd hq (h2)) (λ_=>x_i 11 [] (((i+1:Nat):Int)) (nx (i+1) (xs.length-(i+1)) [] Om ⟨⟨by omega,by rw [pH];exact yQ (by rw [wO];exact hil) (by rw [←pH];exact hrel.2) (by rw [ftOf_get hil hx];exact h2)⟩,rfl⟩ Kr Kr))
 exact zB 9 [] ((i:Int)<(xs.length:Int)) (λhq=>absurd hq (h1)) (λ_=>z7 [] (YI (-1)) (λw hO=>⟨by rw [show dE (yT xs) n= -1 from by unfold dE;rw [findI_none (xF (i:=i) (by rw [wO];omega) (by rw [←pH];exact hrel.2))]],hO.below⟩))
theorem r11Is_any (A:Option Addr)(cap:Nat)(xs:List Fv)(n:YL)(W:World)(hv:FtIn W W.heap.size A xs):YC 204 #[.slice A xs.length cap,.string (mkS n)] W (YR (.bool (isT (yT xs) n)) W):=by
 refine zD Tryz.func204 ?_
 by_cases h1:(n:YL)=[100,101,102,97,117,108,116]
 ·refine x4 6 [] n ([100,101,102,97,117,108,116]) (λ_=> ?_) (λhq=>absurd (h1) hq)
  exact z7 [] Z4 (λw hO=>⟨by rw [pJ];unfold dfl;simp [h1],hO.below⟩)
 refine x4 6 [] n ([100,101,102,97,117,108,116]) (λhq=>absurd hq (h1)) (λ_=>z8 (k:=238) (args:= #[.slice A xs.length cap,.string (mkS n)]) (v:=YI (dE (yT xs) n)) [] (λw hO=>r11Find_any A cap xs n w (hv.on hO.below hO.size)) ?_)
 by_cases h2:(0:Int)<=dE (yT xs) n
 ·refine zB 11 [] ((0:Int)<=dE (yT xs) n) (λ_=> ?_) (λhq=>absurd (h2) hq)
  exact z7 [] Z4 (λw hO=>⟨by rw [pJ];unfold dfl;simp [h1,h2],hO.below⟩)
 exact zB 11 [] ((0:Int)<=dE (yT xs) n) (λhq=>absurd hq (h2)) (λ_=>z7 [] Z5 (λw hO=>⟨by rw [pJ];unfold dfl;simp [h1,h2],hO.below⟩))
theorem r11items_any (A:Option Addr)(cap:Nat)(xs:List Fv)(B:Option Addr)(capb:Nat)(of:List YL)(W:World)(hv:FtIn W W.heap.size A xs)(hu:Reads yY W W.heap.size B of)(hn:of.length<=1048576)(ht:∀ s∈of,s.length<=1048576):YC 171 #[.slice A xs.length cap,.slice B of.length capb] W (YR (.bool (kP (yT xs) of)) W):=by
 refine zD Tryz.func171 ?_
 by_cases h1:(6:Int)<(of.length:Int)
 ·refine zB 11 [] ((6:Int)<(of.length:Int)) (λ_=> ?_) (λhq=>absurd (h1) hq)
  exact z7 [] Z5 (λw hO=>⟨by rw [show kP (yT xs) of=false from dR (.inl Om)],hO.below⟩)
 refine zB 11 [] ((6:Int)<(of.length:Int)) (λhq=>absurd hq (h1)) (λ_=>z8 (k:=203) (args:= #[.slice B of.length capb]) (v:= .bool (qX of)) [] (λw hO=>r1Rising_any B capb of w (hu.on hO.below hO.size) Om) ?_)
 cases h2:qX of with
 |true=>
  refine zM (α:=Nat) (λk=>[(0,.slice A xs.length cap),(1,.slice B of.length capb),(5,YI (k:Int))]) (λk=>[]) (λk m=>(k<=of.length∧∀ s∈of.take k,wK (yT xs) s=true)/\m=of.length-k) (0) (of.length-0) [] ⟨⟨Nat.zero_le _,λs hs=>by simp at hs⟩,rfl⟩ ?_
  rintro k m g kk ⟨hrel,hmm⟩ nx hkk
  subst hkk
  have hk6:=hrel.1
  by_cases h3:(k:Int)<(of.length:Int)
  ·have hkl:k<of.length:=by omega
   obtain ⟨bp,off,hB,hlt,hcell⟩:=hu Om
   obtain ⟨s,hs⟩:∃ s,of[k]=s:=⟨_,rfl⟩
   have hsm:s∈of:=hs▸List.getElem_mem hkl
   refine zB 20 [] ((k:Int)<(of.length:Int)) (λ_=> ?_) (λhq=>absurd (h3) hq)
   refine zI 26 [] hB of.length capb k 1 (by first|omega|(simp;omega)) (zH 27 [] 9 bp (off+k*1) (.string (mkS s)) (λw hO=>Reads.load zX (hu.on hO.below hO.size) hB k 0 hkl Om _ (by rw [hs];kernel_rfl)) (z8 (k:=172) (args:= #[.string (mkS s)]) (v:= .tuple #[YI ((zO s).1),.string (mkS (zO s).2.1),.string (mkS (zO s).2.2)]) [] (λw hO=>r11Item_any s w (ht s hsm)) ?_))
   by_cases h4:((zO s).1:Int)=0
   ·refine zB 33 [] (((zO s).1:Int)=0) (λ_=> ?_) (λhq=>absurd (h4) hq)
    exact z7 [] Z5 (λw hO=>⟨by rw [show kP (yT xs) of=false from dR (.inr (.inr ⟨s,hsm,by unfold wK;simp [h4]⟩))],hO.below⟩)
   refine zB 33 [] (((zO s).1:Int)=0) (λhq=>absurd hq (h4)) (λ_=> ?_)
   by_cases h5:((zO s).1:Int)=1
   ·refine zB 36 [] (((zO s).1:Int)=1) (λ_=> ?_) (λhq=>absurd (h5) hq)
    refine z8 (k:=204) (args:= #[.slice A xs.length cap,.string (mkS (zO s).2.1)]) (v:= .bool (isT (yT xs) (zO s).2.1)) [] (λw hO=>r11Is_any A cap xs (zO s).2.1 w (hv.on hO.below hO.size)) ?_
    cases h6:isT (yT xs) (zO s).2.1 with
    |true=>
     exact x_i 22 [] (((k+1:Nat):Int)) (nx (k+1) (of.length-(k+1)) [] Om ⟨⟨by omega,yQ hkl hrel.2 (by rw [hs];exact by unfold wK;simp [h4,h5,h6])⟩,rfl⟩ Kr Kr)
    |false=>
     exact z7 [] Z5 (λw hO=>⟨by rw [show kP (yT xs) of=false from dR (.inr (.inr ⟨s,hsm,by unfold wK;simp [h4,h5,h6]⟩))],hO.below⟩)
   exact zB 36 [] (((zO s).1:Int)=1) (λhq=>absurd hq (h5)) (λ_=>x_i 22 [] (((k+1:Nat):Int)) (nx (k+1) (of.length-(k+1)) [] Om ⟨⟨by omega,yQ hkl hrel.2 (by rw [hs];exact by unfold wK;simp [h4,h5])⟩,rfl⟩ Kr Kr))
  exact zB 20 [] ((k:Int)<(of.length:Int)) (λhq=>absurd hq (h3)) (λ_=>z7 [] Z4 (λw hO=>⟨by rw [show kP (yT xs) of=true from items_yes Om h2 (xF (i:=k) Om hrel.2)],hO.below⟩))
 |false=>
  exact z7 [] Z5 (λw hO=>⟨by rw [show kP (yT xs) of=false from dR (.inr (.inl h2))],hO.below⟩)
end
section
set_option linter.unnecessarySimpa false
structure UpTo (xs:List Fv)(i:Nat):Prop where
 le:i<=xs.length
 wd:∀ x∈xs.take i,wdL x.name=true
 up:∀ z (hz:z+1<xs.length),z+1<i->Op.bytesLess (xs[z]'Om).name xs[z+1].name=true
 it:∀ x∈xs.take i,kP (yT xs) x.of=true
theorem UpTo.zero (xs:List Fv):UpTo xs 0:=⟨Nat.zero_le _,λx hx=>by simp at hx,λz hz h=>by omega,λx hx=>by simp at hx⟩
theorem UpTo.next {xs:List Fv}{i:Nat}(h:UpTo xs i)(hi:i<xs.length)(h1:wdL xs[i].name=true)(h2:∀ h0:0<i,Op.bytesLess (xs[i-1]'Om).name xs[i].name=true)(h3:kP (yT xs) xs[i].of=true):UpTo xs (i+1):=by
 refine ⟨hi,yQ hi h.wd h1,λz hz hzi=> ?_,yQ hi h.it h3⟩
 rcases Nat.lt_succ_iff_lt_or_eq.1 hzi with q|q
 ·exact h.up z hz q
 ·subst q;exact h2 Om
theorem UpTo.may {xs:List Fv}{i:Nat}(h:UpTo xs i)(hi:xs.length<=i)(h8:xs.length<=8):dP (yT xs)=true:=by
 refine may_yes (by rw [wO];exact h8) (λf hf=> ?_) (ft_rise.2 λz hz=>h.up z hz (by omega)) λf hf=> ?_
 ·obtain ⟨x,hx,rfl⟩:=List.mem_map.1 hf;exact xF hi h.wd x hx
 ·obtain ⟨x,hx,rfl⟩:=List.mem_map.1 hf;exact xF hi h.it x hx
theorem may_no1 {xs:List Fv}{x:Fv}(hx:x∈xs)(h:wdL x.name=false):dP (yT xs)=false:=pC (.inr (.inl ⟨x.ft,ft_mem hx,h⟩))
theorem may_no2 {xs:List Fv}{z:Nat}(hz:z+1<xs.length)(h:Op.bytesLess (xs[z]'Om).name xs[z+1].name=false):dP (yT xs)=false:=pC (.inr (.inr (.inl (by
 cases hq:qX ((yT xs).map Ft.name) with
 |false=>rfl
 |true=>have q:=ft_rise.1 hq z hz;rw [h] at q;cases q))))
theorem may_no3 {xs:List Fv}{x:Fv}(hx:x∈xs)(h:kP (yT xs) x.of=false):dP (yT xs)=false:=pC (.inr (.inr (.inr ⟨x.ft,ft_mem hx,h⟩)))
theorem r11May_any (A:Option Addr)(cap:Nat)(xs:List Fv)(W:World)(hv:FtIn W W.heap.size A xs):YC 130 #[.slice A xs.length cap] W (YR (.bool (dP (yT xs))) W):=by
 refine zD Tryz.func130 ?_
 by_cases h1:(8:Int)<(xs.length:Int)
 ·refine zB 6 [] ((8:Int)<(xs.length:Int)) (λ_=> ?_) (λhq=>absurd (h1) hq)
  exact z7 [] Z5 (λw hO=>⟨by rw [show dP (yT xs)=false from pC (.inl (by rw [wO];omega))],hO.below⟩)
 refine zB 6 [] ((8:Int)<(xs.length:Int)) (λhq=>absurd hq (h1)) (λ_=>zM (α:=Nat) (λi=>[(0,.slice A xs.length cap),(3,YI (i:Int))]) (λi=>[]) (λi m=>(UpTo xs i)/\m=xs.length-i) (0) (xs.length-0) [] ⟨UpTo.zero xs,rfl⟩ ?_)
 rintro i m g kk ⟨hrel,hmm⟩ nx hkk
 subst hkk
 have hi6:=hrel.le;have hxn:=hv.n
 by_cases h2:(i:Int)<(xs.length:Int)
 ·have hil:i<xs.length:=by omega
  obtain ⟨bp,off,hA,hlt,hcell⟩:=hv.top Om
  obtain ⟨x,hx⟩:∃ x,xs[i]=x:=⟨_,rfl⟩
  have hxm:x∈xs:=hx▸List.getElem_mem hil
  refine zB 10 [] ((i:Int)<(xs.length:Int)) (λ_=> ?_) (λhq=>absurd (h2) hq)
  refine zI 15 [] hA xs.length cap i 2 (by first|omega|(simp;omega)) (zH 17 [] 9 bp (off+i*2+0) (.string (mkS x.name)) (λw hO=>Reads.load wE (hv.top.on hO.below hO.size) hA i 0 Om Om _ (by rw [hx];kernel_rfl)) (z8 (k:=170) (args:= #[.string (mkS x.name)]) (v:= .bool (wdL x.name)) [] (λw hO=>jN x.name w (hv.name x hxm)) ?_))
  cases h3:wdL x.name with
  |true=>
   by_cases h4:(0:Int)<(i:Int)
   ·have hi0:0<i:=by omega
    obtain ⟨y,hy⟩:∃ y,xs[i-1]'Om=y:=⟨_,rfl⟩
    refine zB 22 [] ((0:Int)<(i:Int)) (λ_=> ?_) (λhq=>absurd (h4) hq)
    refine v8 26 [] (YI (IntKind.i64.wrap ((i:Int) -1))) (YI ((i-1:Nat):Int)) (by rw [IntWalk.i64_in _ Om,show (i:Int) -1=((i-1:Nat):Int) by omega]) (zI 27 [] hA xs.length cap (i-1) 2 (by first|omega|(simp;omega)) (zH 29 [] 9 bp (off+(i-1)*2+0) (.string (mkS y.name)) (λw hO=>Reads.load wE (hv.top.on hO.below hO.size) hA (i-1) 0 Om Om _ (by rw [hy];kernel_rfl)) (zI 32 [] hA xs.length cap i 2 (by first|omega|(simp;omega)) (zH 34 [] 9 bp (off+i*2+0) (.string (mkS x.name)) (λw hO=>Reads.load wE (hv.top.on hO.below hO.size) hA i 0 Om Om _ (by rw [hx];kernel_rfl)) ?_))))
    cases h5:Op.bytesLess y.name x.name with
    |true=>
     refine x_sge 35 [] y.name x.name (λ_=> ?_) (λhq=>absurd (hq.symm.trans h5) (by decide))
     refine zI 42 [] hA xs.length cap i 2 (by first|omega|(simp;omega)) (zH 44 [] 66 bp (off+i*2+1) (.slice x.A x.of.length x.cap) (λw hO=>Reads.load wE (hv.top.on hO.below hO.size) hA i 1 Om Om _ (by rw [hx];kernel_rfl)) (z8 (k:=171) (args:= #[.slice A xs.length cap,.slice x.A x.of.length x.cap]) (v:= .bool (kP (yT xs) x.of)) [] (λw hO=>r11items_any A cap xs x.A x.cap x.of w (hv.on hO.below hO.size) ((hv.each x hxm).on hO.below hO.size) (hv.m x hxm) (hv.text x hxm)) ?_))
     cases h6:kP (yT xs) x.of with
     |true=>
      exact x_i 12 [] (((i+1:Nat):Int)) (nx (i+1) (xs.length-(i+1)) [] Om ⟨hrel.next hil (by rw [hx];exact h3) (λh0=>by rw [hx,hy];exact h5) (by rw [hx];exact h6),rfl⟩ Kr Kr)
     |false=>
      exact z7 [] Z5 (λw hO=>⟨by rw [show dP (yT xs)=false from may_no3 hxm h6],hO.below⟩)
    |false=>
     exact x_sge 35 [] y.name x.name (λhq=>absurd (hq.symm.trans h5) (by decide)) (λ_=>z7 [] Z5 (λw hO=>⟨by rw [show dP (yT xs)=false from may_no2 (z:=i-1) Om (by simp only [show i-1+1=i by omega,hx,hy];exact h5)],hO.below⟩))
   refine zB 22 [] ((0:Int)<(i:Int)) (λhq=>absurd hq (h4)) (λ_=>zI 42 [] hA xs.length cap i 2 (by first|omega|(simp;omega)) (zH 44 [] 66 bp (off+i*2+1) (.slice x.A x.of.length x.cap) (λw hO=>Reads.load wE (hv.top.on hO.below hO.size) hA i 1 Om Om _ (by rw [hx];kernel_rfl)) (z8 (k:=171) (args:= #[.slice A xs.length cap,.slice x.A x.of.length x.cap]) (v:= .bool (kP (yT xs) x.of)) [] (λw hO=>r11items_any A cap xs x.A x.cap x.of w (hv.on hO.below hO.size) ((hv.each x hxm).on hO.below hO.size) (hv.m x hxm) (hv.text x hxm)) ?_)))
   cases h7:kP (yT xs) x.of with
   |true=>
    exact x_i 12 [] (((i+1:Nat):Int)) (nx (i+1) (xs.length-(i+1)) [] Om ⟨hrel.next hil (by rw [hx];exact h3) (λh0=>absurd h0 Om) (by rw [hx];exact h7),rfl⟩ Kr Kr)
   |false=>
    exact z7 [] Z5 (λw hO=>⟨by rw [show dP (yT xs)=false from may_no3 hxm h7],hO.below⟩)
  |false=>
   exact z7 [] Z5 (λw hO=>⟨by rw [show dP (yT xs)=false from may_no1 hxm h3],hO.below⟩)
 exact zB 10 [] ((i:Int)<(xs.length:Int)) (λhq=>absurd hq (h2)) (λ_=>z7 [] Z4 (λw hO=>⟨by rw [hrel.may Om Om],hO.below⟩))
end
section
set_option linter.unnecessarySimpa false
structure RdP (w:World)(v:Value)(l:List YL):Prop where
 ex:∃ A cap,v= .slice A l.length cap/\Reads yY w w.heap.size A l/\l.length<=cap/\(l=[]->A=none/\cap=0)
end
section
set_option linter.unnecessarySimpa false
structure At (W:World)(A:Option Addr)(xs:List Fv)(B:Option Addr)(asked:List YL)(w:World):Prop where
 hv:FtIn w w.heap.size A xs
 hu:Reads yY w w.heap.size B asked
 hb:YB W w
end
section
set_option linter.unnecessarySimpa false
theorem tless_or (a b:YL):(Op.bytesLess a b||decide (a=b))= !Op.bytesLess b a:=by
 cases h:Op.bytesLess b a with
 |true=>rw [lt_asy h,decide_eq_false (λe=>by rw [e,lt_irr] at h;cases h)];rfl
 |false=>
  by_cases e:a=b
  ·rw [decide_eq_true e];simp
  ·rw [lt_tri b a h (λq=>e q.symm)];rfl
theorem run_strleq {P:Program}{ρ:Operand->Value}{o:Oper}{t t':TypeId}{x y:Operand}{a b:YL}(ho:o.op= .binOp .leq t x y t')(hx:ρ x= .string (mkS a))(hy:ρ y= .string (mkS b))(w:World):(execOp ρ o).run P w= .ok (.value (.bool (!Op.bytesLess b a))) w:=by
 have e:binOp .leq t (.string (mkS a)) (.string (mkS b))=pure (.bool (!Op.bytesLess b a)):=by
  have:binOp .leq t (.string (mkS a)) (.string (mkS b))=pure (.bool (Op.bytesLess (mkS a).toList (mkS b).toList||(mkS a).toList==(mkS b).toList)):=by simp [binOp,Op.stringOp]
  rw [this,str_beq,Lib.toList_data,Lib.toList_data,mk_data,mk_data,tless_or]
 unfold execOp
 simp only [ho,hx,hy,Sem.run_bind,guard_str,Result.andThen_ok,e,Sem.run_pure]
section
variable {M:List Nat}{P:Program}{n:Nat}{W:World}{Q:Exit->Act->World->Prop}{c:Xc}
def leqOp (o:Oper):Bool:=match o.op with
 | .binOp .leq _ _ _ _=>true
 |_=>false
def leqX (o:Oper)(i:Nat):Operand:=match o.op with
 | .binOp _ _ x y _=>if i=0 then x else y
 |_=> .tmp 0
theorem x_sle (d:Nat)(h:List Nat)(s u:YL)(hg:zF M P n W Q ((xgo P n (d+50000) h c).put (.bool (!Op.bytesLess u s))))
  (hkt:(xgl P n (d+50000) h c,xW n (xgo P n (d+50000) h c),leqOp (xO (xgo P n (d+50000) h c)),ev n (xgo P n (d+50000) h c).f (leqX (xO (xgo P n (d+50000) h c)) 0),ev n (xgo P n (d+50000) h c).f (leqX (xO (xgo P n (d+50000) h c)) 1))=(xgr P n (d+50000) h c,true,true,.string (mkS s),.string (mkS u)):=by kernel_rfl):zF M P n W Q c:=by
 simp only [Prod.mk.injEq] at hkt
 obtain ⟨hk,e1,e2,e3,e4⟩:=hkt
 refine zL h c hk (kH e1 (λw=> ?_) hg)
 generalize xO (xgo P n (d+50000) h c)=o at*
 unfold leqOp at e2
 split at e2
 ·rename_i t x y t' ho
  have hx:leqX o 0=x:=by unfold leqX;rw [ho];rfl
  have hy:leqX o 1=y:=by unfold leqX;rw [ho];rfl
  rw [hx] at e3;rw [hy] at e4
  exact run_strleq ho e3 e4 w
 ·cases e2
end
theorem findfn_any (x:Fv)(n:YL)(b:Nat)(W:World)(hc:W.heap[b]?=some (.cells #[.string (mkS n)] 9)):YC 233 #[fvV x,.pointer (some ⟨b,0,none⟩)] W (YR (.bool (decide (x.name=n))) W):=by
 have hb:b<W.heap.size:=(Array.getElem?_eq_some_iff.1 hc).1
 refine zD Tryz.func233 (yK [] λb2=>zH 6 [0] 9 b 0 (.string (mkS n)) (λw hO=>yU Kr ((hO.below.block b hb).trans hc)) (x4 7 [] x.name n (λh=> ?_) (λh=> ?_)))
 ·exact z7 [] Z4 λw hO=>⟨by rw [decide_eq_true h],hO.below⟩
 ·exact z7 [] Z5 λw hO=>⟨by rw [decide_eq_false h],hO.below⟩
theorem idx11_any (A:Option Addr)(cap:Nat)(xs:List Fv)(n:YL)(b:Nat)(W:World)(hv:FtIn W W.heap.size A xs)(hc:W.heap[b]?=some (.cells #[.string (mkS n)] 9)):YC 232 #[.slice A xs.length cap,.func (.func 233) #[] #[.pointer (some ⟨b,0,none⟩)]] W (YR (YI (dE (yT xs) n)) W):=by
 have hb:b<W.heap.size:=(Array.getElem?_eq_some_iff.1 hc).1
 have hn:=hv.n
 refine zD Tryz.func232 (zM (α:=Nat) (λi=>[(0,.slice A xs.length cap),(1,.func (.func 233) #[] #[Zp b 0]),(7,YI (xs.length:Int)),(8,YI (i:Int))]) (λ_=>[]) (λi m=>(i<=xs.length∧∀ y∈xs.take i,¬ y.name=n)/\m=xs.length-i) 0 xs.length [] ⟨⟨Nat.zero_le _,λy h=>by simp at h⟩,rfl⟩ ?_)
 rintro i mm g kk ⟨⟨hi,hno⟩,hmm⟩ nx hkk
 subst hkk
 refine zB 9 [] ((i:Int)<(xs.length:Int)) (λh9=> ?_) (λh9=> ?_)
 rotate_left
 ·refine z7 [] (YI (-1)) λw hO=>⟨?_,hO.below⟩
  have hall:=xF (p:=λy:Fv=>¬ y.name=n) (show xs.length<=i by omega) hno
  rw [dE,findI_none (l:=yT xs) λf hf=>by obtain ⟨y,hy,rfl⟩:=List.mem_map.1 hf;exact hall y hy]
 have hj:i<xs.length:=by omega
 obtain ⟨eb,eo,hA,hel⟩:=hv.top.elem wE i hj
 have hgo:=yQ (p:=λy:Fv=>¬ y.name=n) hj hno
 have hel0:∀ w,YB W w->(loadVar 79 ⟨eb,eo+i*2+0,none⟩).run YP w= .ok (fvV xs[i]) w:=λw hw=>hel w hw _ 0 _ Kr
 have hcf:∀ w,YB W w->YC 233 #[fvV xs[i],.pointer (some ⟨b,0,none⟩)] w (YR (.bool (decide (xs[i].name=n))) w):=λw hw=>findfn_any xs[i] n b w ((hw.block b hb).trans hc)
 refine zI 14 [] hA xs.length cap i 2 hj (zH 15 [] 79 eb (eo+i*2+0) (fvV xs[i]) (λw hO=>hel0 w hO.below) (z8 (v:= .bool (decide (xs[i].name=n))) [] (λw hO=>hcf w hO.below) (x_now 16 (xs[i].name=n) (λh16=> ?_) (λh16=> ?_))))
 ·refine z7 [] (YI (i:Int)) λw hO=>⟨?_,hO.below⟩
  rw [dE,findI_at (l:=yT xs) (i:=i) (by rw [wO];exact hj) (by rw [ftOf_get hj rfl];exact h16) (λf hf=>by rw [←pH] at hf;obtain ⟨y,hy,rfl⟩:=List.mem_map.1 hf;exact hno y hy)]
 ·exact x_i 18 [] ((i+1:Nat):Int) (nx (i+1) (xs.length-(i+1)) [] Om ⟨⟨hj,hgo h16⟩,rfl⟩ Kr Kr)
theorem fFind_at (A:Option Addr)(cap:Nat)(xs:List Fv)(n:YL)(W:World)(hv:FtIn W W.heap.size A xs):YC 198 #[.slice A xs.length cap,.string (mkS n)] W (YR (YI (dE (yT xs) n)) W):=by
 refine zD Tryz.func198 (yK [] λb=>m9 6 [] (.func (.func 233) #[] #[Zp b 0]) (λw=>Kr) (z8 (v:=YI (dE (yT xs) n)) [] (λw hO=>idx11_any A cap xs n b w (hv.on hO.below hO.size) ((hO.past 0 [⟨b, #[.string (mkS n)],9⟩]).get (i:=0) rfl)) (z7 [] _ λw hO=>⟨rfl,hO.below⟩)))
theorem fhas_any (A:Option Addr)(cap:Nat)(xs:List Fv)(n:YL)(W:World)(hv:FtIn W W.heap.size A xs):YC 160 #[.slice A xs.length cap,.string (mkS n)] W (YR (.bool (isT (yT xs) n)) W):=by
 refine zD Tryz.func160 (x4 6 [] n dfl (λh=> ?_) (λh=> ?_))
 ·exact z7 [] Z4 λw hO=>⟨by rw [pJ,decide_eq_true h];rfl,hO.below⟩
 ·exact z8 (v:=YI (dE (yT xs) n)) [] (λw hO=>fFind_at A cap xs n w (hv.on hO.below hO.size)) (z7 [] (.bool (decide (0<=dE (yT xs) n))) λw hO=>⟨by rw [pJ,decide_eq_false h];rfl,hO.below⟩)
def yR (l:List YL)(i:Nat):YL:=if h:0<i/\i-1<l.length then l[i-1] else []
theorem mN {l:List YL}{i:Nat}(hi:i<l.length):yR l (i+1)=l[i]:=by
 unfold yR;rw [dif_pos ⟨Nat.succ_pos _,by simpa using hi⟩];rfl
theorem less_nil {s:YL}(h:s≠[]):Op.bytesLess [] s=true:=by
 cases s with
 |nil=>exact absurd rfl h
 |cons _ _=>rfl
theorem fmayOf_any (A:Option Addr)(cap:Nat)(xs:List Fv)(B:Option Addr)(capb:Nat)(of:List YL)(W:World)(hv:FtIn W W.heap.size A xs)(hu:Reads yY W W.heap.size B of)(hn:of.length<=1048576)(ht:∀ s∈of,s.length<=1048576):YC 118 #[.slice B of.length capb,.slice A xs.length cap] W (YR (.bool (kP (yT xs) of)) W):=by
 refine zD Tryz.func118 (zB 13 [] ((6:Int)<(of.length:Int)) (λh13=> ?_) (λh13=> ?_))
 ·exact z7 [] Z5 λw hO=>⟨by rw [dR (.inl Om)],hO.below⟩
 refine zM (α:=Nat) (λi=>[(0,.slice B of.length capb),(1,.slice A xs.length cap),(5,.string (mkS (yR of i))),(14,.slice B of.length capb),(15,YI (of.length:Int)),(16,YI (i:Int))]) (λ_=>[]) (λi m=>(i<=of.length/\(∀ s∈of.take i,wK (yT xs) s=true)∧∀ z (hz:z+1<of.length),z+1<i->Op.bytesLess (of[z]'Om) of[z+1]=true)/\m=of.length-i) 0 of.length [] ⟨⟨Nat.zero_le _,λy h=>by simp at h,λz hz h=>by omega⟩,rfl⟩ ?_
 rintro i mm g kk ⟨⟨hi,hok,hup⟩,hmm⟩ nx hkk
 subst hkk
 refine zB 17 [] ((i:Int)<(of.length:Int)) (λh17=> ?_) (λh17=> ?_)
 rotate_left
 ·exact z7 [] Z4 λw hO=>⟨by rw [items_yes Om (rise_iff.2 λz hz=>hup z hz Om) (xF Om hok)],hO.below⟩
 have hj:i<of.length:=by omega
 have hsm:of[i]∈of:=List.getElem_mem hj
 have hlast:i≠0->yR of i=of[i-1]'Om:=λh=>by unfold yR;rw [dif_pos ⟨by omega,by omega⟩]
 have hgo:=yQ (p:=λs=>wK (yT xs) s=true) hj hok
 have hl1:=mN hj
 obtain ⟨eb,eo,hA,hel⟩:=hu.elem zX i hj
 have hsh:=ht _ hsm
 have hel':=λw hO ty=>hel w hO ty 0 (.string (mkS of[i]))
 have hbig:=hup
 obtain ⟨s,hs⟩:∃ s,of[i]=s:=⟨_,rfl⟩
 simp only [hs] at hsh hsm hgo hl1 hel'
 have hno:wK (yT xs) s=false->kP (yT xs) of=false:=λh=>dR (.inr (.inr ⟨s,hsm,h⟩))
 refine zI 18 [] hA of.length capb i 1 hj (zH 19 [] 9 eb (eo+i*1+0) (.string (mkS s)) (λw hO=>hel' w hO.below _ Kr) (z8 (v:= .tuple #[YI (zO s).1,.string (mkS (zO s).2.1),.string (mkS (zO s).2.2)]) [] (λw hO=>fItem_at s w hsh) (zB 27 [] ((zO s).1=0) (λh27=> ?_) (λh27=> ?_))))
 ·exact z7 [] Z5 λw hO=>⟨by rw [hno (by unfold wK;simp [h27])],hO.below⟩
 refine x_sle 31 [] s (yR of i) (zP 31 (!Op.bytesLess (yR of i) s) (λh31=> ?_) (λh31=> ?_))
 ·refine z7 [] Z5 λw hO=>⟨?_,hO.below⟩
  have h0:i≠0:=λh0=>by
   subst h0
   have:yR of 0=[]:=by unfold yR;rw [dif_neg Om]
   rw [this,less_nil (λe=>h27 (by rw [e];decide))] at h31;cases h31
  rw [hlast h0] at h31
  have:qX of=false:=by
   cases hr:qX of with
   |false=>rfl
   |true=>
    have q:=rise_iff.1 hr (i-1) Om
    have e2:of[i-1+1]'Om=s:=by rw [←hs];congr 1;omega
    rw [e2] at q
    rw [q] at h31;cases h31
  rw [dR (.inr (.inl this))]
 have hup2:∀ z (hz:z+1<of.length),z+1<i+1->Op.bytesLess (of[z]'Om) of[z+1]=true:=λz hz hzi=>by
  rcases Nat.lt_succ_iff_lt_or_eq.1 hzi with q|q
  ·exact hup z hz q
  ·have h0:i≠0:=by omega
   rw [hlast h0] at h31
   have e1:of[i-1]'Om=of[z]'Om:=by congr 1;omega
   have e2:of[z+1]=s:=by rw [←hs];congr 1
   rw [←e1,e2];simpa using h31
 refine zB 35 [] ((zO s).1=1) (λh35=> ?_) (λh35=> ?_)
 ·have hc:∀ w,YB W w->YC 160 #[.slice A xs.length cap,.string (mkS (zO s).2.1)] w (YR (.bool (isT (yT xs) (zO s).2.1)) w):=λw hb=>fhas_any A cap xs _ w (hv.on hb hb.size)
  refine z8 (v:= .bool (isT (yT xs) (zO s).2.1)) [] (λw hO=>hc w hO.below) (zP 39 (isT (yT xs) (zO s).2.1) (λh39=> ?_) (λh39=> ?_))
  ·exact x_i 44 [] ((i+1:Nat):Int) (v8 5 [] (.string (mkS s)) (.string (mkS (yR of (i+1)))) (by rw [hl1]) (nx (i+1) (of.length-(i+1)) [] Om ⟨⟨hj,hgo (by unfold wK;simp [h35,h39]),hup2⟩,rfl⟩ Kr Kr))
  ·exact z7 [] Z5 λw hO=>⟨by rw [hno (by unfold wK;simp [h35,h39])],hO.below⟩
 ·exact x_i 44 [] ((i+1:Nat):Int) (v8 5 [] (.string (mkS s)) (.string (mkS (yR of (i+1)))) (by rw [hl1]) (nx (i+1) (of.length-(i+1)) [] Om ⟨⟨hj,hgo (by unfold wK;simp [h27,h35]),hup2⟩,rfl⟩ Kr Kr))
end
section
structure Pn where
 name:YL
 shelf:YL
def okP (l:List Pn)(i:Nat):Bool:=match l[i]? with
 |some p=>nmL p.name && nmL p.shelf && Op.bytesLess (yR (l.map Pn.name) i) p.name
 |none=>false
end
section
instance:DecidableEq Pn:=λa b=>
 if h:a.name=b.name/\a.shelf=b.shelf then isTrue (by cases a;cases b;cases h.1;cases h.2;rfl) else isFalse λe=>h (by rw [e];exact ⟨rfl,rfl⟩)
structure Ho where
 name:YL
 rg:YL
deriving DecidableEq
structure Mt where
 rc:Rt
 pins:List Pn
 holds:List Ho
deriving DecidableEq
def fbad (f:Nat->Bool)(n:Nat):Nat:=(List.range n).findIdx λi=> !f i
theorem fbad_at {f:Nat->Bool}{n i:Nat}(hi:i<n)(h0:∀ j,j<i->f j=true)(h1:f i=false):fbad f n=i:=by
 have hl:i<(List.range n).length:=by rw [List.length_range];exact hi
 refine (List.findIdx_eq hl).2 ⟨?_,λj hj=> ?_⟩
 ·rw [List.getElem_range,h1];rfl
 ·rw [List.getElem_range,h0 j hj];rfl
theorem fbad_all {f:Nat->Bool}{n:Nat}(h:∀ j,j<n->f j=true):fbad f n=n:=by
 have e:=List.findIdx_eq_length_of_false (p:=λi=> !f i) (xs:=List.range n) (λx hx=>by rw [h x (List.mem_range.1 hx)];rfl)
 rw [List.length_range] at e;exact e
theorem fbad_ok {f:Nat->Bool}{n:Nat}(h:¬ fbad f n<n):∀ j,j<n->f j=true:=λj hj=>by
 cases hf:f j with
 |true=>rfl
 |false=>
  refine absurd ?_ h
  have h1:(List.range n).findIdx (λi=> !f i)<(List.range n).length:=List.findIdx_lt_length_of_exists ⟨j,List.mem_range.2 hj,by rw [hf];rfl⟩
  rw [List.length_range] at h1;exact h1
def tV (l:List Pn):Nat:=fbad (okP l) l.length
def bP (l:List Ho)(i:Nat):Bool:=match l[i]? with
 |some h=>nmL h.name && Op.bytesLess (yR (l.map Ho.name) i) h.name
 |none=>false
def mK (l:List Ho)(i:Nat):Bool:=match l[i]? with
 |some h=>yG h.rg
 |none=>false
def badHi (l:List Ho):Nat:=fbad (λi=>bP l i && mK l i) l.length
def d7 (l:List Ho):Int×Int:=if badHi l<l.length then (if bP l (badHi l) then 6 else 4,(badHi l:Int)) else (0,0)
def yJ (m:Mt):Int×Int:=if (zV m.rc).1≠0 then zV m.rc else if 8<m.pins.length\/8<m.holds.length then (3,0) else if tV m.pins<m.pins.length then (15,(tV m.pins:Int)) else d7 m.holds
theorem badH_zero {l:List Ho}(h:(d7 l).1=0):d7 l=(0,0)∧¬ badHi l<l.length:=by
 unfold d7 at h ⊢
 by_cases q:badHi l<l.length
 ·rw [if_pos q] at h
  cases hq:bP l (badHi l)<;>rw [hq] at h<;>simp at h
 ·rw [if_neg q];exact ⟨rfl,q⟩
theorem nil_less (s:YL)(h:s≠[]):Op.bytesLess [] s=true:=by cases s with|nil=>exact absurd rfl h|cons a r=>rfl
structure GoodM (m:Mt):Prop where
 rc:(zV m.rc).1=0
 np:m.pins.length<=8
 nh:m.holds.length<=8
 pin:∀ p∈m.pins,nmL p.name=true/\nmL p.shelf=true
 hold:∀ x∈m.holds,nmL x.name=true/\yG x.rg=true
theorem check_zeroM {m:Mt}(h:(yJ m).1=0):yJ m=(0,0)/\GoodM m:=by
 unfold yJ at h ⊢
 by_cases h1:(zV m.rc).1≠0
 ·rw [if_pos h1] at h;exact absurd h h1
 rw [if_neg h1] at h ⊢
 by_cases h2:8<m.pins.length\/8<m.holds.length
 ·rw [if_pos h2] at h;exact absurd h (by decide)
 rw [if_neg h2] at h ⊢
 by_cases h3:tV m.pins<m.pins.length
 ·rw [if_pos h3] at h;exact absurd h (show ¬ (15:Int)=0 by decide)
 rw [if_neg h3] at h ⊢
 obtain ⟨h4,h5⟩:=badH_zero h
 refine ⟨h4,Decidable.not_not.1 h1,by omega,by omega,λp hp=> ?_,λx hx=> ?_⟩
 ·obtain ⟨i,hi,rfl⟩:=List.getElem_of_mem hp
  have q:=fbad_ok h3 i hi
  unfold okP at q
  rw [List.getElem?_eq_getElem hi] at q
  dsimp only at q
  rw [Bool.and_eq_true,Bool.and_eq_true] at q
  exact q.1
 ·obtain ⟨i,hi,rfl⟩:=List.getElem_of_mem hx
  have q:=fbad_ok h5 i hi
  unfold bP mK at q
  rw [List.getElem?_eq_getElem hi] at q
  dsimp only at q
  rw [Bool.and_eq_true,Bool.and_eq_true] at q
  exact ⟨q.1.1,q.2⟩
def wPin:YL:=[112,105,110]
def nP:YL:=[104,111,108,100]
def pinL (p:Pn):YL:=wPin++32::(p.name++32::p.shelf)
def holdL (x:Ho):YL:=nP++32::(x.name++32::x.rg)
def pnT (p:Pn):YL:=[112,105,110,32]++p.name++[32]++p.shelf++[10]
def gT (x:Ho):YL:=[104,111,108,100,32]++x.name++[32]++x.rg++[10]
def manT (m:Mt):YL:=kS m.rc++m.pins.flatMap pnT++m.holds.flatMap gT
def prMn (m:Mt):YL:=if (yJ m).1=0 then manT m else []
def manLs (m:Mt):List YL:=recLs m.rc++(m.pins.map pinL++m.holds.map holdL)
theorem fm_le {α:Type}{f:α->YL}{k:Nat}:∀ {l:List α},(∀ x∈l,(f x).length<=k)->(l.flatMap f).length<=l.length*k
 | [],_=>Nat.zero_le _
 |x::l,h=>by
  have h1:=h x (List.mem_cons_self ..)
  have h2:=fm_le λy hy=>h y (List.mem_cons_of_mem x hy)
  rw [List.flatMap_cons,List.length_append,List.length_cons,Nat.add_mul,Nat.one_mul];omega
theorem pnT_len {p:Pn}(h:nmL p.name=true/\nmL p.shelf=true):(pnT p).length<=38:=by
 have h1:=fG h.1
 have h2:=fG h.2
 unfold pnT
 simp only [List.length_append,List.length_cons,List.length_nil];omega
theorem holdT_len {x:Ho}(h:nmL x.name=true/\yG x.rg=true):(gT x).length<=119:=by
 have h1:=fG h.1
 have h2:=pg_short h.2
 unfold gT
 simp only [List.length_append,List.length_cons,List.length_nil];omega
theorem fm_tk {α:Type}{f:α->YL}{k n:Nat}{l:List α}(h:∀ x∈l,(f x).length<=k)(hn:l.length<=n)(i:Nat):((l.take i).flatMap f).length<=n*k:=
 Nat.le_trans (fm_le λx hx=>h x (List.mem_of_mem_take hx)) (Nat.mul_le_mul_right _ (by rw [List.length_take];omega))
def nilM:Mt:=⟨dO,[],[]⟩
def gW (p:YL):YL:=(zA 32 (nD p)).1
def gY (p:YL):YL:=(zA 32 (nD p)).2.1
def pF (p:YL):Bool:=decide (gW p=wPin)||decide (gW p=nP)
def pinOk (m:Mt)(s:YL):Bool:=decide ((zA 32 s).1≠[]) && decide ((zA 32 s).2.1≠[]) && !decide (32∈(zA 32 s).2.1) && decide (m.holds=[])
def holdOk (s:YL):Bool:=decide ((zA 32 s).1≠[]) && decide ((zA 32 s).2.1≠[])
def addP (m:Mt)(s:YL):Mt:={m with pins:=m.pins++[⟨(zA 32 s).1,(zA 32 s).2.1⟩]}
def addHo (m:Mt)(s:YL):Mt:={m with holds:=m.holds++[⟨(zA 32 s).1,(zA 32 s).2.1⟩]}
def addT (m:Mt)(p:YL):Option Mt:=
 if endP p=false then none
 else if gW p=wPin then (if pinOk m (gY p) then some (addP m (gY p)) else none)
 else if gW p=nP then (if holdOk (gY p) then some (addHo m (gY p)) else none)
 else none
def tlT:Mt->Nat->List YL->Option Mt×Nat
 |m,_,[]=>(some m,0)
 |m,k,p::r=>match addT m p with
  |some x=>tlT x (k+1) r
  |none=>(none,k+1)
def yS:List YL->Nat
 | []=>0
 |p::r=>if pF p then 0 else yS r+1
def outM (x:Option Mt×Nat):Mt×Int×Int:=match x.1 with
 |some m=>(m,0,0)
 |none=>(nilM,2,(x.2:Int))
def headM (ls:List YL):Rt×Int×Int:=vD (ls.take (yS ls)).flatten
def jE (ls:List YL):Mt×Int×Int:=
 if (headM ls).2.1≠0 then (nilM,(headM ls).2.1,(headM ls).2.2) else outM (tlT ⟨(headM ls).1,[],[]⟩ (yS ls) (ls.drop (yS ls)))
def vF (s:YL):Mt×Int×Int:=
 if 8192<s.length then (nilM,3,0)
 else if (jE (xD [] s)).2.1≠0 then jE (xD [] s)
 else if (yJ (jE (xD [] s)).1).1≠0 then (nilM,(yJ (jE (xD [] s)).1).1,0) else ((jE (xD [] s)).1,0,0)
theorem lnsP_flatP:∀ (s p:YL),(xD p s).flatten=p++s
 | [],p=>by
  rw [xD]
  split
  ·next h=>rw [h];rfl
  ·simp
 |c::r,p=>by
  rw [xD]
  split
  ·next h=>rw [List.flatten_cons,lnsP_flatP r [],h];simp
  ·rw [lnsP_flatP r (p++[c])];simp
theorem lnsP_flat (s:YL):(xD [] s).flatten=s:=lnsP_flatP s []
theorem ahead_le:∀ l:List YL,yS l<=l.length
 | []=>Nat.le_refl _
 |p::r=>by
  rw [yS]
  split
  ·exact Nat.zero_le _
  ·have:=ahead_le r;rw [List.length_cons];omega
end
section
theorem rnumber_mk (t:YL)(w:World)(ht:t.length<=maxLen):
  YC 166 #[.string (mkS t)] w λe w'=>e= .returned (.tuple #[YI (zK t),.bool (qM t)])/\w=w':=by
 have:=rnumber_any (mkS t) w (by rw [zQ];exact ht)
 rw [numV_mk,numOk_mk] at this
 exact this
theorem rsplit_mk (s:YL)(w:World)(hs:s.length<=1048576):
  YC 69 #[.string (mkS s),.int .u8 46] w λe w'=>∃ v,e= .returned v/\w'.ownsRow w.heap.size 9 1 v (pcs s).length (jD (pcs s))/\YB w w':=by
 have:=rsplit_any (mkS s) 46 w (by rw [zQ];exact hs)
 unfold vE at this
 rw [mk_data] at this
 exact this
theorem pcs_mem_len (s:YL):∀ x∈pcs s,x.length<=s.length:=by
 intro x hx
 have:=nV 46 s [] x hx
 simpa using this
def nT (s:YL)(b:Bool):Bool:=s.isEmpty||(decide ((pcs s).length<=4) && (pcs s).all λt=>kZ t && !(b && vY t && !qM t))
theorem all_both {α:Type}(p q r:α->Bool)(h:∀ x,r x=(p x && q x))(l:List α):l.all r=(l.all p && l.all q):=by
 induction l with
 |nil=>rfl
 |cons a l ih=>
  rw [List.all_cons,List.all_cons,List.all_cons,ih,h]
  cases p a<;>cases q a<;>simp
theorem tagsB_pre (s:YL):nT s true=preOk s:=by
 unfold nT preOk jQ preT
 cases s.isEmpty
 ·simp only [Bool.false_or,Bool.true_and,Bool.and_assoc]
  congr 1
  refine all_both _ _ _ (λt=> ?_) _
  cases kZ t<;>cases vY t<;>cases qM t<;>rfl
 ·rfl
theorem tagsB_build (s:YL):nT s false=jQ s:=by
 unfold nT jQ
 simp
def tagF (b:Bool)(t:YL):Bool:=kZ t && !(b && vY t && !qM t)
theorem tagsB_eq (s:YL)(b:Bool):nT s b=(s.isEmpty||(decide ((pcs s).length<=4) && (pcs s).all (tagF b))):=rfl
theorem all_cut {l:List YL}{p:YL->Bool}(k:Nat)(h:k<l.length)(hb:p l[k]=false):l.all p=false:=by
 rw [Bool.eq_false_iff];intro e
 have:=List.all_eq_true.1 e l[k] (List.getElem_mem h)
 rw [this] at hb;cases hb
end
section
end
section
theorem rjoin_any (v:Value)(l:List YL)(b:UInt8)(w:World)(hv:ReadsT w w.heap.size v l)(hl:(zG b l).length<=1000000000)(hn:l.length<=1000000000):
  YC 55 #[v,.int .u8 b.toNat] w (YR (.string (mkS (zG b l))) w):=by
 have hcv:=λ(w:World) (x:Int)=>conv1 w x
 obtain ⟨A,cap,rfl,hcell⟩:=hv
 go_enter Tryz.func55,Tryz.ntmps55
 go_wp2
 go_loopw [5,6] (λsv iv wr=>∃ (k:Nat),iv=YI k/\k<=l.length/\sv= .string (mkS (zG b (l.take k)))/\YB w wr) (λ_ iv _=>l.length-(intOf iv).toNat)
 case atStart=>exact ⟨0,rfl,Nat.zero_le _,rfl,Below.refl _ _⟩
 case round=>
  obtain ⟨k,rfl,hk,rfl,hb⟩:=hrel
  have hsz:=hb.size
  by_cases hp:k<l.length
  ·obtain ⟨ad,rfl,hlt,hc⟩:=hcell Om
   have hck:wr.cell? (ad.add k)=some (.string (mkS l[k])):=(hb.cell (by rw [tL];exact hlt)).trans (hc k hp)
   have hln:(zG b (l.take (k+1))).length<=1000000000:=Nat.le_trans (joinL_take_le b l (k+1)) hl
   have HJ:=Lib.hid (joinL_snoc b (l.take k) l[k])
   rw [←take_snocL l k hp] at HJ
   clear hc hcell
   by_cases h0:k=0
   ·subst h0
    have hx1:(mkS (zG b [])).size<=0:=by rw [bY];simp [zG]
    have hx2:(mkS l[0]).size<=1000000000:=by
     rw [bY];rw [HJ.out,if_pos List.take_zero] at hln;exact hln
    have hck0:wr.cell? ad=some (.string (mkS l[0])):=hck
    clear hck
    go_wp2
    go_roundw
    case rel=>exact ⟨0+1,by go_num,by omega,by rw [HJ.out,if_pos List.take_zero,x2];rfl,hb⟩
    case measure=>simp [intOf];omega
   ·have h0p:0<k:=by omega
    have hlen:(zG b (l.take k)).length+(l[k].length+1)<=1000000000:=by
     rw [HJ.out,if_neg (fY l k hp h0p),List.length_append,List.length_cons] at hln;exact hln
    have hx1:(mkS (zG b (l.take k))).size+((mkS l[k]).size+1)<=1000000000:=by rw [bY,bY];exact hlen
    have hx2:(one (b.toNat:Int)).size<=1:=Nat.le_refl _
    have hx3:(mkS (zG b (l.take k))++one (b.toNat:Int)).size<=(mkS (zG b (l.take k))).size+1:=by rw [ByteArray.size_append];omega
    clear hlen
    have hck2:=λo=>(World.cell?_alloc_lt wr o (ad.add k) (by rw [tL];omega)).trans hck
    clear hck
    go_wp2
    go_roundw
    case rel=>exact ⟨k+1,by go_num,by omega,by rw [HJ.out,if_neg (fY l k hp h0p),one_mk,x2,x2,List.append_assoc];rfl,hb.alloc hsz _⟩
    case measure=>simp [intOf];omega
  ·obtain rfl:k=l.length:=by omega
   go_wp2
   go_ret
   exact ⟨wS (by rw [List.take_length]),hb⟩
end
section
theorem rsplit_own (s:YL)(W:World)(hs:s.length<=1048576):
  YC 69 #[.string (mkS s),.int .u8 46] W λe w'=>∃ v' ob',e= .returned v'/\SlT v' (pcs s) ob'/\Own [] W w' ob':=
 (rsplit_mk s W hs).mono λe w' ⟨v,h1,h2,h3⟩=>by
  obtain ⟨ob,k1,k2⟩:=Own.row h2 h3
  exact ⟨v,ob,h1,k1,k2⟩
end
section
theorem eq_below {k:FuncId}{args:Array Value}{w:World}{v:Value}(h:Calls YP k args w λe w'=>e= .returned v/\w=w'):Calls YP k args w (YR v w):=h.mono λe w' ⟨q1,q2⟩=>⟨q1,q2▸Below.refl _ _⟩
theorem num_q (n:Int)(W:World):YC 126 #[YI n] W (YR (.bool (zT n)) W):=by
 unfold zT
 refine zD Tryz.func126 (zB 4 [] (n>=0) (λh=>zB 7 [] (n<=9999) (λh2=> ?_) (λh2=> ?_)) (λh=> ?_))
 ·exact z7 [] Z4 λw hO=>⟨by rw [decide_eq_true ⟨h,h2⟩],hO.below⟩
 ·exact z7 [] Z5 λw hO=>⟨by rw [decide_eq_false λq=>h2 q.2],hO.below⟩
 ·exact z7 [] Z5 λw hO=>⟨by rw [decide_eq_false λq=>h q.1],hO.below⟩
theorem numer_q (t:YL)(W:World)(ht:t.length<=1048576):YC 167 #[.string (mkS t)] W (YR (.bool (vY t)) W):=by
 have hno:∀ c∈t,yL c.toNat=false->vY t=false:=λc hc h=>by
  unfold vY yM
  rw [List.all_eq_false.2 ⟨c,hc,by rw [h];decide⟩,Bool.and_false]
 refine zD Tryz.func167 (zM (α:=Nat) (λi=>[(0,.string (mkS t)),(3,YI (i:Int))]) (λ_=>[]) (λi m=>(i<=t.length∧∀ c∈t.take i,yL c.toNat=true)/\m=t.length-i) 0 t.length [] ⟨⟨Nat.zero_le _,λc h=>by simp at h⟩,rfl⟩ ?_)
 rintro i mm g kk ⟨⟨hi,hd⟩,hmm⟩ nx hkk
 subst hkk
 refine zB 7 [] ((i:Int)<(t.length:Int)) (λh7=> ?_) (λh7=> ?_)
 rotate_left
 ·refine z7 [] (.bool (decide ((t.length:Int)>0))) λw hO=>⟨?_,hO.below⟩
  have ha:=xF (p:=λc:UInt8=>yL c.toNat=true) (show t.length<=i by omega) hd
  unfold vY yM
  rw [List.all_eq_true.2 ha]
  cases t<;>simp
 have hj:i<t.length:=by omega
 have hst:=yQ (p:=λc:UInt8=>yL c.toNat=true) hj hd
 have hn:=hno _ (List.getElem_mem hj)
 obtain ⟨c,hc⟩:∃ c,t[i]=c:=⟨_,rfl⟩
 rw [hc] at hst hn
 refine dF 12 [] t i hj c hc (zB 13 [] ((c.toNat:Int)<48) (λh=> ?_) (λh=>dF 17 [] t i hj c hc (zB 18 [] ((c.toNat:Int)>57) (λh2=> ?_) (λh2=> ?_))))
 ·exact z7 [] Z5 λw hO=>⟨by rw [hn (by unfold yL;simp;omega)],hO.below⟩
 ·exact z7 [] Z5 λw hO=>⟨by rw [hn (by unfold yL;simp;omega)],hO.below⟩
 ·exact x_i 9 [] ((i+1:Nat):Int) (nx (i+1) (t.length-(i+1)) [] Om ⟨⟨hj,hst (by unfold yL;simp;omega)⟩,rfl⟩ Kr Kr)
theorem tag_q (t:YL)(W:World):YC 165 #[.string (mkS t)] W (YR (.bool (kZ t)) W):=by
 have hno:∀ c∈t,mF c=false->kZ t=false:=λc hc h=>by
  unfold kZ
  rw [List.all_eq_false.2 ⟨c,hc,by rw [h];decide⟩,Bool.and_false]
 refine zD Tryz.func165 (zB 7 [] ((t.length:Int)<1) (λh=> ?_) (λh=>zB 11 [] ((t.length:Int)>8) (λh2=> ?_) (λh2=> ?_)))
 ·exact z7 [] Z5 λw hO=>⟨by unfold kZ;rw [decide_eq_false Om];rfl,hO.below⟩
 ·exact z7 [] Z5 λw hO=>⟨by unfold kZ;rw [decide_eq_false Om];rfl,hO.below⟩
 refine zM (α:=Nat) (λi=>[(0,.string (mkS t)),(3,YI (i:Int))]) (λ_=>[]) (λi m=>(i<=t.length∧∀ c∈t.take i,mF c=true)/\m=t.length-i) 0 t.length [] ⟨⟨Nat.zero_le _,λc h=>by simp at h⟩,rfl⟩ ?_
 rintro i mm g kk ⟨⟨hi,hd⟩,hmm⟩ nx hkk
 subst hkk
 refine zB 16 [] ((i:Int)<(t.length:Int)) (λh7=> ?_) (λh7=> ?_)
 rotate_left
 ·refine z7 [] Z4 λw hO=>⟨?_,hO.below⟩
  unfold kZ
  rw [decide_eq_true Om,List.all_eq_true.2 (xF (p:=λc:UInt8=>mF c=true) (show t.length<=i by omega) hd)];rfl
 have hj:i<t.length:=by omega
 have hst:=yQ (p:=λc:UInt8=>mF c=true) hj hd
 have hn:=hno _ (List.getElem_mem hj)
 obtain ⟨c,hc⟩:∃ c,t[i]=c:=⟨_,rfl⟩
 rw [hc] at hst hn
 have hC:mF c=(decide (97<=(c.toNat:Int)/\(c.toNat:Int)<=122)||decide (48<=(c.toNat:Int)/\(c.toNat:Int)<=57)||decide ((c.toNat:Int)=45)):=rfl
 rw [hC] at hst hn
 generalize (c.toNat:Int)=z at*
 have good:∀ m',m'=t.length-(i+1)->(decide (97<=z/\z<=122)||decide (48<=z/\z<=57)||decide (z=45))=true->(i+1<=t.length∧∀ c∈t.take (i+1),mF c=true)/\m'=t.length-(i+1):=λm' e q=>⟨⟨hj,hst q⟩,e⟩
 refine dF 21 [] t i hj c hc (zB 23 [] (z<97) (λh1=>zB 30 [] (z<48) (λh3=>vP 38 [] (z=45) (λh5=> ?_) (λh5=> ?_)) (λh3=>zB 33 [] (z>57) (λh4=>vP 38 [] (z=45) (λh5=>absurd h5 (by omega)) (λh5=> ?_)) (λh4=> ?_))) (λh1=>zB 26 [] (z>122) (λh2=>zB 30 [] (z<48) (λh3=>absurd h3 (by omega)) (λh3=>zB 33 [] (z>57) (λh4=>vP 38 [] (z=45) (λh5=>absurd h5 (by omega)) (λh5=> ?_)) (λh4=>absurd h4 (by omega)))) (λh2=> ?_)))
 ·exact x_i 18 [] ((i+1:Nat):Int) (nx (i+1) _ [] Om (good _ rfl (by simp;omega)) Kr Kr)
 ·exact z7 [] Z5 λw hO=>⟨by rw [hn (by simp;omega)],hO.below⟩
 ·exact z7 [] Z5 λw hO=>⟨by rw [hn (by simp;omega)],hO.below⟩
 ·exact x_i 18 [] ((i+1:Nat):Int) (nx (i+1) _ [] Om (good _ rfl (by simp;omega)) Kr Kr)
 ·exact z7 [] Z5 λw hO=>⟨by rw [hn (by simp;omega)],hO.below⟩
 ·exact x_i 18 [] ((i+1:Nat):Int) (nx (i+1) _ [] Om (good _ rfl (by simp;omega)) Kr Kr)
theorem slt_elem {A:Option Addr}{cap:Nat}{l:List YL}{ob:List Blk}(h:SlT (.slice A l.length cap) l ob){i:Nat}(hi:i<l.length):∃ g,A=some ⟨g,0,none⟩∧∀ {M:List Nat} {W:World} {L:List Blk} (w:World),Own M W w L->(∀ x∈ob,x∈L)->(loadVar 9 ⟨g,0+i*1+0,none⟩).run YP w= .ok (.string (mkS l[i])) w:=by
 obtain ⟨g,cur,rfl,_⟩:=Sl.block h Om
 refine ⟨g,rfl,λw hO hs=> ?_⟩
 obtain ⟨b,o,e,hel⟩:=(SlT.reads h rfl hO hs).elem zX i hi
 simp only [Option.some.injEq,Addr.mk.injEq,and_true] at e
 obtain ⟨rfl,rfl⟩:=e
 exact hel w (Below.refl _ _) _ 0 _ Kr
theorem rnum_q (t:YL)(W:World)(ht:t.length<=1048576):YC 166 #[.string (mkS t)] W (YR (.tuple #[YI (zK t),.bool (qM t)]) W):=eq_below (rnumber_mk t W (by unfold maxLen;omega))
theorem tags_q (s:YL)(b:Bool)(W:World)(hs:s.length<=1048576):YC 127 #[.string (mkS s),.bool b] W (YR (.bool (nT s b)) W):=by
 have hT:s≠[]->nT s b=(decide ((pcs s).length<=4) && (pcs s).all (tagF b)):=λh=>by
  rw [tagsB_eq];cases s with
  |nil=>exact absurd rfl h
  |cons x r=>rfl
 have hln:=pcs_mem_len s
 refine zD Tryz.func127 (x4 10 [] s [] (λh=> ?_) (λh=> ?_))
 ·exact z7 [] Z4 λw hO=>⟨by rw [h];rfl,hO.below⟩
 have hT:=hT h
 rw [hT]
 refine k8 (R:=λv ob=>SlT v (pcs s) ob) [] (λw hO=>(rsplit_own s w hs).mono λe w' ⟨v,ob,q1,q2,q3⟩=>⟨v,ob,q1,q2,q3⟩) ?_
 intro v ob hS
 obtain ⟨A,cap,rfl⟩:=SlT.form hS
 clear hT
 generalize pcs s=l at*
 refine zB 15 [] ((l.length:Int)>4) (λh4=> ?_) (λh4=> ?_)
 ·exact z7 [] Z5 λw hO=>⟨by rw [decide_eq_false Om];rfl,hO.below⟩
 rw [decide_eq_true (show l.length<=4 by omega),Bool.true_and]
 refine y8 [] ([]++ob) (λw hO=>hO.past 0 _) (zM (α:=Nat) (λi=>[(1,.bool b),(5,.slice A l.length cap),(6,YI (i:Int))]) (λ_=>[]++ob) (λi m=>(i<=l.length∧∀ t∈l.take i,tagF b t=true)/\m=l.length-i) 0 l.length [] ⟨⟨Nat.zero_le _,λc h=>by simp at h⟩,rfl⟩ ?_)
 rintro i mm g kk ⟨⟨hi,hd⟩,hmm⟩ nx hkk
 subst hkk
 refine zB 19 [] ((i:Int)<(l.length:Int)) (λh7=> ?_) (λh7=> ?_)
 rotate_left
 ·exact z7 [] Z4 λw hO=>⟨by rw [List.all_eq_true.2 (xF (p:=λt=>tagF b t=true) (show l.length<=i by omega) hd)],hO.below⟩
 have hj:i<l.length:=by omega
 have hst:=yQ (p:=λt=>tagF b t=true) hj hd
 have hn:tagF b l[i]=false->l.all (tagF b)=false:=λq=>all_cut i hj q
 have htl:l[i].length<=1048576:=by have:=hln _ (List.getElem_mem hj);omega
 obtain ⟨ga,rfl,hel⟩:=slt_elem hS hj
 have hF:tagF b l[i]=(kZ l[i] && !(b && vY l[i] && !qM l[i])):=rfl
 rw [hF] at hst hn
 generalize l[i]=t at*
 have ld:∀ w,Own [] W w ([]++ob)->(loadVar 9 ⟨ga,0+i*1+0,none⟩).run YP w= .ok (.string (mkS t)) w:=λw hO=>hel w hO (λx hx=>hx)
 refine zI 24 [] (b:=ga) (off:=0) rfl l.length cap i 1 hj (zH 25 [] 9 ga (0+i*1+0) (.string (mkS t)) (λw hO=>ld w (hO.past 0 _)) (z8 (v:= .bool (kZ t)) [] (λw hO=>tag_q t w) (zP 26 (kZ t) (λg1=> ?_) (λg1=> ?_))))
 rotate_left
 ·exact z7 [] Z5 λw hO=>⟨by rw [hn (by rw [g1];rfl)],hO.below⟩
 refine zI 31 [] (b:=ga) (off:=0) rfl l.length cap i 1 hj (zH 32 [] 9 ga (0+i*1+0) (.string (mkS t)) (λw hO=>ld w (hO.past 0 _)) (z8 (v:= .tuple #[YI (zK t),.bool (qM t)]) [] (λw hO=>rnum_q t w htl) (x_bb 37 [] b (λg2=> ?_) (λg2=> ?_))))
 rotate_left
 ·exact x_i 21 [] ((i+1:Nat):Int) (nx (i+1) (l.length-(i+1)) [] Om ⟨⟨hj,hst (by rw [g1,g2];rfl)⟩,rfl⟩ Kr Kr)
 refine zI 40 [] (b:=ga) (off:=0) rfl l.length cap i 1 hj (zH 41 [] 9 ga (0+i*1+0) (.string (mkS t)) (λw hO=>ld w (hO.past 0 _)) (z8 (v:= .bool (vY t)) [] (λw hO=>numer_q t w htl) (x_bb 43 [] (vY t) (λg3=>x_bb 46 [] (!qM t) (λg4=> ?_) (λg4=> ?_)) (λg3=> ?_))))
 ·exact z7 [] Z5 λw hO=>⟨by rw [hn (by rw [g1,g2,g3,g4];rfl)],hO.below⟩
 ·exact x_i 21 [] ((i+1:Nat):Int) (nx (i+1) (l.length-(i+1)) [] Om ⟨⟨hj,hst (by rw [g1,g2,g3,g4];rfl)⟩,rfl⟩ Kr Kr)
 ·exact x_i 21 [] ((i+1:Nat):Int) (nx (i+1) (l.length-(i+1)) [] Om ⟨⟨hj,hst (by rw [g1,g2,g3];rfl)⟩,rfl⟩ Kr Kr)
theorem rmayQ_any (v:Ver)(W:World)(hp:v.pre.length<=1048576)(hq:v.build.length<=1048576):YC 77 #[kJ v] W (YR (.bool v.may) W):=by
 have hM:v.may=(zT v.maj && zT v.min && zT v.pat && nT v.pre true && nT v.build false):=by rw [tagsB_pre,tagsB_build];rfl
 rw [hM]
 have cP:=λw=>tags_q v.pre true w hp
 have cQ:=λw=>tags_q v.build false w hq
 have hno:∀ w,YB W w→∀ b,b=false->Ending.returned (.bool false)= .returned (.bool b)/\YB W w:=λw hb b e=>⟨by rw [e],hb⟩
 refine zD Tryz.func77 (yK [] λb1=>z8 (v:= .bool (zT v.maj)) [0] (λw hO=>num_q v.maj w) (zP 5 (zT v.maj) (λg1=>z8 (v:= .bool (zT v.min)) [0] (λw hO=>num_q v.min w) (zP 9 (zT v.min) (λg2=>z8 (v:= .bool (zT v.pat)) [0] (λw hO=>num_q v.pat w) (zP 14 (zT v.pat) (λg3=>z8 (v:= .bool (nT v.pre true)) [0] (λw hO=>cP w) (zP 19 (nT v.pre true) (λg4=>z8 (v:= .bool (nT v.build false)) [0] (λw hO=>cQ w) (z7 [] (.bool (nT v.build false)) λw hO=>⟨by rw [g1,g2,g3,g4];rfl,hO.below⟩)) (λg4=> ?_))) (λg3=> ?_))) (λg2=> ?_))) (λg1=> ?_)))
 ·exact z7 [] Z5 λw hO=>hno w hO.below _ (by rw [g4];simp)
 ·exact z7 [] Z5 λw hO=>hno w hO.below _ (by rw [g3];simp)
 ·exact z7 [] Z5 λw hO=>hno w hO.below _ (by rw [g2];simp)
 ·exact z7 [] Z5 λw hO=>hno w hO.below _ (by rw [g1];simp)
end
section
def numT (k:Nat):Int:=(([0,1,2,3,0,1,10,9999]:List Int)[k]?).getD 0
def preT14 (k:Nat):YL:=(([[],[],[],[],[48],[49],[50],[49,49],[97],[97,46,49],[97,46,98],[98],[48,46,48],[114,99,46,49]]:List YL)[k]?).getD []
def bldT (k:Nat):YL:=(([[],[],[],[],[48,48,55],[120,46,49]]:List YL)[k]?).getD []
def genV (l:List Int)(i:Nat):Ver:=⟨numT (plc (atL l i) 8).toNat,numT (plc (atL l (i+1)) 8).toNat,numT (plc (atL l (i+2)) 8).toNat,preT14 (plc (atL l (i+3)) 14).toNat,bldT (plc (atL l (i+4)) 6).toNat⟩
def GEnd (u:Ver)(w:World)(e:Ending)(w':World):Prop:=e= .returned (kJ u)/\YB w w'
end
section
end
section
structure Cu where
 e:Int
 v:Ver
 aft:Bool
deriving DecidableEq
def Cu.may (c:Cu):Bool:=if c.e=0 then c.v.may && c.v.build.isEmpty else decide (c.e= -1\/c.e=1) && decide (c.v=Ver.zero) && !c.aft
def b01 (b:Bool):Int:=if b then 1 else 0
def lex (x y:Int):Int:=if x=0 then y else x
def jF (a b:Cu):Int:=if a.may && b.may then lex (Lib.compareInt a.e b.e) (lex (mS a.v b.v) (Lib.compareInt (b01 a.aft) (b01 b.aft))) else 0
theorem zero_may:Ver.zero.may=true:=by decide
theorem may_v {c:Cu}(h:c.may=true):c.v.may=true:=by
 unfold Cu.may at h
 split at h
 ·rw [Bool.and_eq_true] at h;exact h.1
 ·simp only [Bool.and_eq_true,decide_eq_true_eq] at h;rw [h.1.2];exact zero_may
theorem may_e {c:Cu}(h:c.may=true):(c.e=0/\c.v.build=[])\/((c.e= -1\/c.e=1)/\c.v=Ver.zero/\c.aft=false):=by
 unfold Cu.may at h
 split at h
 ·rename_i h0;rw [Bool.and_eq_true] at h;exact .inl ⟨h0,List.isEmpty_iff.1 h.2⟩
 ·simp only [Bool.and_eq_true,decide_eq_true_eq,Bool.not_eq_true'] at h;exact .inr ⟨h.1.1,h.1.2,h.2⟩
theorem cmpR_range {v w:Ver}:mS v w= -1\/mS v w=0\/mS v w=1:=by
 by_cases hv:v.may=true
 ·by_cases hw:w.may=true
  ·rw [pN hv hw];exact cmpL_range _ _
  ·exact .inr (.inl (cmpR_bad (.inr (by simpa using hw))))
 ·exact .inr (.inl (cmpR_bad (.inl (by simpa using hv))))
theorem ci_range (x y:Int):Lib.compareInt x y= -1\/Lib.compareInt x y=0\/Lib.compareInt x y=1:=by
 unfold Lib.compareInt
 by_cases h:x<y
 ·rw [if_pos h];simp
 ·rw [if_neg h]
  by_cases h2:y<x
  ·rw [if_pos h2];simp
  ·rw [if_neg h2];simp
theorem cmpC_good {a b:Cu}(ha:a.may=true)(hb:b.may=true):jF a b=lex (Lib.compareInt a.e b.e) (lex (mS a.v b.v) (Lib.compareInt (b01 a.aft) (b01 b.aft))):=by
 unfold jF;rw [ha,hb];rfl
theorem cmpC_range (a b:Cu):jF a b= -1\/jF a b=0\/jF a b=1:=by
 unfold jF lex
 have h1:=ci_range a.e b.e
 have h2:=cmpR_range (v:=a.v) (w:=b.v)
 have h3:=ci_range (b01 a.aft) (b01 b.aft)
 split
 ·split
  ·split
   ·exact h3
   ·exact h2
  ·exact h1
 ·simp
structure Ord3 {α:Type}(c:α->α->Int):Prop where
 anti:∀ x y,c y x= -c x y
 on:∀ x y z,c x y<=0->c y z<=0->c x z<=0/\(c x z=0->c x y=0/\c y z=0)
 same:∀ x y z,c x y=0->c y z=0->c x z=0
theorem lex_ord {α:Type}{c d:α->α->Int}(hc:Ord3 c)(hd:Ord3 d):Ord3 (λx y=>lex (c x y) (d x y)):=by
 refine ⟨λx y=> ?_,λx y z h1 h2=> ?_,λx y z h1 h2=> ?_⟩
 ·have a:=hc.anti x y;have b:=hd.anti x y
  show lex (c y x) (d y x)= -lex (c x y) (d x y)
  unfold lex
  by_cases h:c x y=0
  ·rw [if_pos h,if_pos Om];exact b
  ·rw [if_neg h,if_neg Om];exact a
 ·have a:=hc.on x y z;have b:=hd.on x y z;have s:=hc.same x y z
  show lex _ _<=0/\(lex _ _=0->lex _ _=0/\lex _ _=0)
  replace h1:lex (c x y) (d x y)<=0:=h1
  replace h2:lex (c y z) (d y z)<=0:=h2
  unfold lex at h1 h2 ⊢
  by_cases p:c x y=0
  ·by_cases q:c y z=0
   ·rw [if_pos p] at h1 ⊢;rw [if_pos q] at h2 ⊢;rw [if_pos (s p q)];exact b h1 h2
   ·rw [if_pos p] at h1 ⊢;rw [if_neg q] at h2 ⊢
    obtain ⟨a1,a2⟩:=a Om h2
    have:c x z≠0:=λe=>q (a2 e).2
    rw [if_neg this];exact ⟨a1,λe=>absurd e this⟩
  ·rw [if_neg p] at h1 ⊢
   have h2':c y z<=0:=by
    by_cases q:c y z=0
    ·omega
    ·rw [if_neg q] at h2;exact h2
   obtain ⟨a1,a2⟩:=a h1 h2'
   have:c x z≠0:=λe=>p (a2 e).1
   rw [if_neg this];exact ⟨a1,λe=>absurd e this⟩
 ·have s:=hc.same x y z;have t:=hd.same x y z
  show lex _ _=0
  replace h1:lex (c x y) (d x y)=0:=h1
  replace h2:lex (c y z) (d y z)=0:=h2
  unfold lex at h1 h2 ⊢
  by_cases p:c x y=0
  ·by_cases q:c y z=0
   ·rw [if_pos p] at h1;rw [if_pos q] at h2;rw [if_pos (s p q)];exact t h1 h2
   ·rw [if_neg q] at h2;exact absurd h2 q
  ·rw [if_neg p] at h1;exact absurd h1 p
theorem ci_ord {α:Type}(f:α->Int):Ord3 (λx y=>Lib.compareInt (f x) (f y)):=by
 refine ⟨λx y=> ?_,λx y z=> ?_,λx y z=> ?_⟩<;>unfold Lib.compareInt<;>(repeat' split)<;>omega
theorem cmpL_ord {α:Type}(f:α->List Nat):Ord3 (λx y=>kT (f x) (f y)):=by
 refine ⟨λx y=>cmpL_anti _ _,λx y z=>cmpL_trans _ _ _,λx y z h1 h2=> ?_⟩
 show kT (f x) (f z)=0
 rw [cmpL_zero _ _ h1,cmpL_zero _ _ h2];exact cmpL_self _
def cmpK (a b:Cu):Int:=lex (Lib.compareInt a.e b.e) (lex (kT a.v.key b.v.key) (Lib.compareInt (b01 a.aft) (b01 b.aft)))
theorem cmpK_ord:Ord3 cmpK:=lex_ord (ci_ord (λc:Cu=>c.e)) (lex_ord (cmpL_ord (λc:Cu=>c.v.key)) (ci_ord (λc:Cu=>b01 c.aft)))
theorem cmpC_K {a b:Cu}(ha:a.may=true)(hb:b.may=true):jF a b=cmpK a b:=by
 rw [cmpC_good ha hb,pN (may_v ha) (may_v hb)];rfl
theorem cmpC_bad {a b:Cu}(h:a.may=false\/b.may=false):jF a b=0:=by
 unfold jF
 rcases h with h|h<;>rw [h]<;>simp
theorem cut_anti {a b:Cu}:jF b a= -jF a b:=by
 cases ha:a.may with
 |true=>
  cases hb:b.may with
  |true=>rw [cmpC_K ha hb,cmpC_K hb ha];exact cmpK_ord.anti _ _
  |false=>rw [cmpC_bad (.inl hb),cmpC_bad (.inr hb)];rfl
 |false=>rw [cmpC_bad (a:=a) (.inl ha),cmpC_bad (b:=a) (.inr ha)];rfl
theorem cut_on {a b c:Cu}(ha:a.may=true)(hb:b.may=true)(hc:c.may=true)(h1:jF a b<=0)(h2:jF b c<=0):jF a c<=0/\(jF a c=0->jF a b=0/\jF b c=0):=by
 rw [cmpC_K ha hb] at h1 ⊢;rw [cmpC_K hb hc] at h2 ⊢;rw [cmpC_K ha hc];exact cmpK_ord.on _ _ _ h1 h2
def dV (e:Int):Cu:=⟨e,Ver.zero,false⟩
def posC (v:Ver):Cu:=⟨0,wQ v,false⟩
theorem posC_may {v:Ver}(h:v.may=true):(posC v).may=true:=by
 unfold posC Cu.may
 rw [if_pos rfl,core_may h];rfl
def tK (c:Cu)(v:Ver):Bool:=c.may && v.may && (if c.e=0 then decide (mS c.v v<0\/(mS c.v v=0/\c.aft=false)) else decide (c.e<0))
theorem cmpR_coreR {a v:Ver}(ha:a.may=true)(hv:v.may=true):mS a (wQ v)=mS a v:=by
 rw [pN ha (core_may hv),pN ha hv];rfl
theorem ahead_pos {c:Cu}{v:Ver}(hc:c.may=true)(hv:v.may=true):tK c v=decide (jF c (posC v)<=0):=by
 rw [cmpC_good hc (posC_may hv)]
 unfold tK
 rw [hc,hv]
 show (true && true && _)=decide (lex (Lib.compareInt c.e 0) (lex (mS c.v (wQ v)) (Lib.compareInt (b01 c.aft) (b01 false)))<=0)
 rw [cmpR_coreR (may_v hc) hv]
 rcases may_e hc with ⟨h,_⟩|⟨h,h2,h3⟩
 ·rw [if_pos h,h,tS]
  unfold lex
  rw [if_pos rfl]
  rcases cmpR_range (v:=c.v) (w:=v) with e|e|e<;>rw [e]<;>cases c.aft<;>decide
 ·rw [if_neg Om]
  rcases h with h|h<;>rw [h]
  ·rw [show Lib.compareInt (-1) 0= -1 from by decide];unfold lex;simp
  ·rw [show Lib.compareInt 1 0=1 from by decide];unfold lex;simp
theorem ahead_on {a b:Cu}{v:Ver}(ha:a.may=true)(hb:b.may=true)(hv:v.may=true)(h:jF a b<=0)(h2:tK b v=true):tK a v=true:=by
 rw [ahead_pos hb hv,decide_eq_true_eq] at h2
 rw [ahead_pos ha hv,decide_eq_true_eq]
 exact (cut_on ha hb (posC_may hv) h h2).1
def lessC (a b:Cu):Bool:=if a.e=b.e then (if mS a.v b.v= -1 then true else if mS a.v b.v=1 then false else !a.aft && b.aft) else decide (a.e<b.e)
structure Sp where
 lo:Cu
 hi:Cu
def Sp.may (s:Sp):Bool:=decide (jF s.lo s.hi= -1)
def holdsC (s:Sp)(v:Ver):Bool:=s.may && tK s.lo v && !tK s.hi v
theorem beside {v w:Ver}(hv:v.may=true)(hw:w.may=true):(Sp.mk ⟨0,wQ v,false⟩ ⟨0,wQ v,true⟩).may=true/\holdsC ⟨⟨0,wQ v,false⟩,⟨0,wQ v,true⟩⟩ w=decide (mS v w=0):=by
 have m1:(Cu.mk 0 (wQ v) false).may=true:=posC_may hv
 have m2:(Cu.mk 0 (wQ v) true).may=true:=by unfold Cu.may;rw [if_pos rfl,core_may hv];rfl
 have hs:(Sp.mk ⟨0,wQ v,false⟩ ⟨0,wQ v,true⟩).may=true:=by
  unfold Sp.may
  rw [cmpC_good m1 m2]
  dsimp only
  rw [order_self];rfl
 refine ⟨hs, ?_⟩
 unfold holdsC tK
 rw [hs,m1,m2,hw]
 dsimp only
 rw [if_pos rfl,if_pos rfl,order_core hv hw]
 rcases cmpR_range (v:=v) (w:=w) with e|e|e<;>rw [e]<;>rfl
theorem between {a b:Cu}{v:Ver}(ha:a.may=true)(hb:b.may=true)(hv:v.may=true)(h1:tK a v=true)(h2:tK b v=false):jF a b= -1:=by
 have h3:¬ jF b a<=0:=λh=>by rw [ahead_on hb ha hv h h1] at h2;cases h2
 have:=cut_anti (a:=a) (b:=b)
 rcases cmpC_range a b with e|e|e<;>omega
def genC (l:List Int)(i:Nat):Cu:=
 if plc (atL l (i+5)) 9<2 then dV (2*plc (atL l (i+5)) 9-1) else ⟨0,wQ (genV l i),decide (plc (atL l (i+5)) 2=1)⟩
end
section
abbrev ZJ2 (x y:Cu):Array Value:= #[YI x.e,YI x.v.maj,YI x.v.min,YI x.v.pat,.string (mkS x.v.pre),.string (mkS x.v.build),.bool x.aft,YI y.e,YI y.v.maj,YI y.v.min,YI y.v.pat,.string (mkS y.v.pre),.string (mkS y.v.build),.bool y.aft]
abbrev ZJ (x:Cu):Array Value:= #[YI x.e,YI x.v.maj,YI x.v.min,YI x.v.pat,.string (mkS x.v.pre),.string (mkS x.v.build),.bool x.aft]
def cutV (c:Cu):Value:= .agg #[YI c.e,YI c.v.maj,YI c.v.min,YI c.v.pat,.string (mkS c.v.pre),.string (mkS c.v.build),.bool c.aft]
def spanV (s:Sp):Value:= .agg (ZJ2 s.lo s.hi)
end
section
def or3 (x y z:Int):Int:=if x≠0 then x else if y≠0 then y else z
def nthI (x y z:Int)(k:Nat):Int:=if k=0 then x else if k=1 then y else z
end
section
end
section
def Cu.short (c:Cu):Prop:=c.v.pre.length<=1048576/\c.v.build.length<=1048576
def Ver.short (v:Ver):Prop:=v.pre.length<=1048576/\v.build.length<=1048576
def Sp.short (s:Sp):Prop:=s.lo.short/\s.hi.short
end
section
def rowMay:List Sp->Bool
 | []=>true
 | [s]=>s.may
 |s::t::r=>s.may && decide (jF s.hi t.lo<0) && rowMay (t::r)
def inSp (s:Sp)(c:Cu):Bool:=decide (jF s.lo c<=0) && decide (jF c s.hi<0)
def den (l:List Sp)(c:Cu):Bool:=l.any (inSp · c)
def rowHas (l:List Sp)(v:Ver):Bool:=rowMay l && l.any (holdsC · v)
def growL (l:List Sp)(c d:Cu):List Sp:=
 match l.getLast? with
 |some s=>if jF s.hi c=0 then l.dropLast++[⟨s.lo,d⟩] else l++[⟨c,d⟩]
 |none=>[⟨c,d⟩]
def buildL (p:Cu->Cu->Bool):List Sp->List Cu->List Sp
 |out,c::d::r=>buildL p (if p c d then growL out c d else out) (d::r)
 |out,_=>out
def pick (p:Cu->Cu->Bool)(x:Cu):List Cu->Bool
 |c::d::r=>(p c d && inSp ⟨c,d⟩ x)||pick p x (d::r)
 |_=>false
def Rise:List Cu->Prop
 |c::d::r=>c.may=true/\jF c d<0/\Rise (d::r)
 | [c]=>c.may=true
 | []=>True
def putL (c:Cu):List Cu->List Cu
 | []=>[c]
 |d::r=>if jF d c<0 then d::putL c r else if jF d c=0 then d::r else c::d::r
def cutsL (l:List Sp):List Cu:=l.foldl (λout s=>putL s.hi (putL s.lo out)) [dV (-1),dV 1]
def AllMay (l:List Cu):Prop:=∀ x∈l,x.may=true
structure Ends (l:List Cu):Prop where
 rise:Rise l
 head:l.head?=some (dV (-1))
 last:l.getLast?=some (dV 1)
def inL (l:List Sp)(c d:Cu):Bool:=l.any λs=>decide (jF s.lo c<=0) && decide (jF d s.hi<=0)
def makeL (l:List Sp):List Sp:=buildL (inL l) [] (cutsL l)
def orL (a b:List Sp):List Sp:=makeL (a++b)
def andL (a b:List Sp):List Sp:=buildL (λc d=>inL a c d && inL b c d) [] (cutsL (a++b))
def notL (a:List Sp):List Sp:=buildL (λc d=> !inL a c d) [] (cutsL a)
end
section
def spanC (s:Sp):List Value:=(spanV s).cells.toList
def ShortL (l:List Sp):Prop:=∀ s∈l,s.short
end
section
deriving instance DecidableEq for Sp
end
section
end
section
end
section
def cutC (s:Cu):List Value:=(cutV s).cells.toList
def ShortC (l:List Cu):Prop:=∀ s∈l,s.short
end
section
end
section
section
variable {M:List Nat}{P:Program}{n:Nat}{ops:Array Oper}{W:World}{Q:Exit->Act->World->Prop}{L0 L:List Blk}{f:Nat->Value}{fuel:Nat}{listed:Array Bool}{rest:List Oper}{o:Oper}
end
end
section
def allMay (l:List Sp):Bool:=l.all (·.may)
end
section
end
section
end
section
def minC (a b:Cu):Cu:=if 0<jF a b then b else a
def maxC (a b:Cu):Cu:=if 0<jF a b then a else b
def addL (l:List Sp)(c d:Cu):List Sp:=if (Sp.mk c d).may then l++[⟨c,d⟩] else l
def nstep (p:List Sp×Cu)(s:Sp):List Sp×Cu:=(addL p.1 p.2 s.lo,s.hi)
def notG (l:List Sp):List Sp:=addL (l.foldl nstep ([],dV (-1))).1 (l.foldl nstep ([],dV (-1))).2 (dV 1)
def andG:Nat->List Sp->List Sp->List Sp->List Sp
 |n+1,out,s::a,u::b=>if s.hi=minC s.hi u.hi then andG n (addL out (maxC s.lo u.lo) (minC s.hi u.hi)) a (u::b) else andG n (addL out (maxC s.lo u.lo) (minC s.hi u.hi)) (s::a) b
 |_,out,_,_=>out
def mstep (out:List Sp)(s:Sp):List Sp:=
 match out.getLast? with
 |none=>[s]
 |some t=>if jF t.hi s.lo<0 then out++[s] else out.dropLast++[⟨t.lo,maxC t.hi s.hi⟩]
def SortedC:List Sp->Prop
 | []=>True
 |s::r=>(∀ t∈r,jF s.lo t.lo<=0)/\SortedC r
end
section
theorem m8 (c:UInt8):∀ s:YL,s.length=(zA c s).1.length+(if (zA c s).2.2 then 1+(zA c s).2.1.length else 0)
 | []=>rfl
 |b::r=>by
  unfold zA
  have ih:=m8 c r
  by_cases h:b=c
  ·first|(simp [h];done)|(subst h;simp;omega)|(simp [h];omega)
  ·first|(simp [h] at ih ⊢;omega)|(simp [h,Ne.symm h] at ih ⊢;omega)
theorem cutGo_short:∀ (n:Nat) (s:YL),(gU n s).2=true->s.length<=9*n
 |0,s,h=>by simp [gU] at h
 |n+1,s,h=>by
  have hl:=m8 46 s
  cases ht:kZ (zA 46 s).1 with
  |false=>rw [cutGo_bad n s ht] at h;cases h
  |true=>
   have h8:(zA 46 s).1.length<=8:=Nat.le_of_not_lt λh2=>by rw [tagOk_long h2] at ht;cases ht
   cases hm:(zA 46 s).2.2 with
   |false=>rw [hm] at hl;simp at hl;omega
   |true=>
    rw [cutGo_on n s ht hm] at h
    have ih:=cutGo_short n _ h
    rw [hm] at hl;simp at hl;omega
theorem preOk_short {s:YL}(h:preOk s=true):s.length<=36:=by
 rw [preOk_lst,Bool.and_eq_true] at h
 have h1:=h.1
 unfold lst at h1
 split at h1
 ·rename_i h0
  have:s=[]:=by simpa using h0
  subst this;exact Nat.zero_le _
 ·have:=cutGo_short _ _ h1;omega
theorem may_short {v:Ver}(h:v.may=true)(hb:v.build=[]):v.short:=⟨by have:=preOk_short (may_pre h);omega,by rw [hb];exact Nat.zero_le _⟩
structure RF (l:List Sp)(n:Nat):Prop where
 may:rowMay l=true
 len:l.length<=n
section
variable {a b c:List Sp}(ha:rowMay a=true)(hb:rowMay b=true)(hc:rowMay c=true)
include ha in
end
end
section
def idxP (v:Ver):List Sp->Int->Int
 | [],_=> -1
 |s::r,k=>if holdsC s v then k else idxP v r (k+1)
end
section
end
section
end
section
def leastV (v:Ver):Bool:=decide (v.maj=0) && decide (v.min=0) && decide (v.pat=0)
def rightC (c:Cu):Bool:=decide (¬ c.e=0)||(!c.aft && decide (c.v.pre=[]) && !leastV c.v)
def AllRight (l:List Sp):Prop:=∀ s∈l,rightC s.lo=true/\rightC s.hi=true
def valC (c:Cu):Int:=if c.e= -1 then 0 else if c.e=1 then 1000000000000 else c.v.code
def muI (v:Ver):Int:=if v.pre=[] then v.code else v.code-1
def mu (x:Cu):Int:=if x.e=0 then (if muI x.v<0 then 0 else muI x.v) else 0
def denN (l:List Sp)(n:Int):Bool:=l.any λs=>decide (valC s.lo<=n) && decide (n<valC s.hi)
end
section
def relV (v:Ver):Ver:=Ver.rel v.maj v.min v.pat
def relA (v:Ver):Cu:=if leastV v then dV (-1) else ⟨0,relV v,false⟩
def relB (v:Ver):Cu:=if nextOk (relV v) then ⟨0,nextV (relV v),false⟩ else dV 1
def turnC (c:Cu):Cu:=if ¬ c.e=0 then c else if c.aft=true/\c.v.pre=[] then relB c.v else relA c.v
def turnS (s:Sp):Sp:=⟨turnC s.lo,turnC s.hi⟩
def makeRel (l:List Sp):List Sp:=makeL ((l.map turnS).filter (·.may))
def oneRel (v:Ver):List Sp:=[⟨relA v,relB v⟩]
def onePre (v:Ver):List Sp:=[⟨⟨0,wQ v,false⟩,⟨0,wQ v,true⟩⟩]
end
section
structure St where
 rel:List Sp
 pre:List Sp
def St.may (s:St):Bool:=rowMay s.rel && rowMay s.pre && s.rel.all λx=>rightC x.lo && rightC x.hi
structure SF (s:St)(n:Nat):Prop where
 rel:RF s.rel n
 pre:RF s.pre n
 right:AllRight s.rel
def setHas (s:St)(v:Ver):Bool:=s.may && v.may && (if v.pre=[] then rowHas s.rel v else rowHas s.pre v)
def noneT:St:=⟨[],[]⟩
def wholeL:List Sp:=[⟨dV (-1),dV 1⟩]
def allT:St:=⟨wholeL,wholeL⟩
def orT (a b:St):St:=⟨orL a.rel b.rel,orL a.pre b.pre⟩
def andT (a b:St):St:=⟨andL a.rel b.rel,andL a.pre b.pre⟩
def notT (a:St):St:=⟨notL a.rel,notL a.pre⟩
def minusT (a b:St):St:=andT a (notT b)
def exactT (v:Ver):St:=if v.may then (if v.pre=[] then ⟨oneRel v,[]⟩ else ⟨[],onePre v⟩) else noneT
section
variable {a b:St}{n m:Nat}{v:Ver}(ha:SF a n)(hb:SF b m)(hv:v.may=true)
include ha hb hv
end
def edgeN (l:List Sp):List Int:=l.flatMap λs=>[s.lo,s.hi].filterMap λc=>if c.e=0 then some c.v.code else none
end
section
end
section
def highC (v:Ver):Nat->Cu
 |0=>if mU v 0 then ⟨0,bumpV v 0,false⟩ else dV 1
 |k+1=>if mU v ((k+1:Nat):Int) then ⟨0,bumpV v ((k+1:Nat):Int),false⟩ else highC v k
def turnsK (c:Co):Nat:=if 0<c.v.maj\/c.parts=1 then 0 else if 0<c.v.min\/c.parts=2 then 1 else 2
def Co.low (c:Co):Cu:=⟨0,wQ c.v,false⟩
def Co.aft (c:Co):Cu:=if c.parts<3/\0<c.parts then highC c.v (c.parts-1).toNat else ⟨0,wQ c.v,true⟩
def Co.span (c:Co):Cu×Cu:=
 if c.op=1\/c.op=2 then (c.low,c.aft) else if c.op=3 then (dV (-1),c.low) else if c.op=4 then (dV (-1),c.aft) else if c.op=5 then (c.aft,dV 1) else if c.op=6 then (c.low,dV 1)
 else if c.op=7 then (c.low,highC c.v (turnsK c)) else if c.op=8 then (c.low,highC c.v (min (c.parts-1) 1).toNat) else if c.parts=0 then (dV (-1),dV 1) else (c.low,highC c.v (c.parts-1).toNat)
def oneRow (lo hi:Cu):List Sp:=addL [] lo hi
def Co.region (c:Co):List Sp:=if c.may then (if c.op=2 then notL (oneRow c.span.1 c.span.2) else oneRow c.span.1 c.span.2) else []
def Co.zone (c:Co):List Sp:=if c.may && !decide (c.v.pre=[]) then [⟨⟨0,{c.v with pre:=[48],build:=[]},false⟩,⟨0,{c.v with pre:=[],build:=[]},false⟩⟩] else []
def upN (v:Ver)(k:Nat):Int:=if k=0 then (v.maj+1)*100000000 else if k=1 then v.maj*100000000+(v.min+1)*10000 else v.code+1
def ordB (op n:Int):Bool:=if op=1 then decide (n=0) else if op=2 then decide (¬ n=0) else if op=3 then decide (n<0) else if op=4 then decide (n<=0) else if op=5 then decide (0<n) else decide (0<=n)
end
section
def m4 (c:Co)(v:Ver)(p:Int):Bool:=(decide (p<1)||decide (v.maj=c.v.maj)) && (decide (p<2)||decide (v.min=c.v.min)) && (decide (p<3)||decide (v.pat=c.v.pat))
def overB (c:Co)(v:Ver):Bool:=if ¬ v.maj=c.v.maj\/c.parts=1 then decide (c.v.maj<v.maj) else if ¬ v.min=c.v.min\/c.parts=2 then decide (c.v.min<v.min) else decide (c.v.pat<v.pat)
def saysN (c:Co):Int:=if 0<c.v.maj\/c.parts=1 then 1 else if 0<c.v.min\/c.parts=2 then 2 else 3
def saysB (c:Co)(v:Ver):Bool:=
 if c.op=1\/c.op=9 then m4 c v c.parts else if c.op=2 then !m4 c v c.parts else if c.op=3 then !m4 c v c.parts && !overB c v else if c.op=4 then m4 c v c.parts||!overB c v
 else if c.op=5 then overB c v else if c.op=6 then m4 c v c.parts||overB c v else if c.op=8 then m4 c v (min c.parts 2) && (m4 c v c.parts||overB c v)
 else m4 c v (saysN c) && (m4 c v c.parts||overB c v)
def truncN (v:Ver)(q:Nat):Int:=if q=1 then v.maj*100000000 else if q=2 then v.maj*100000000+v.min*10000 else v.code
end
section
theorem pcs_ne (p:YL):pcs p≠[]:=vB 46 p []
def leastP (v:Ver):Ver:={v with pre:=[48],build:=[]}
def bareV (v:Ver):Ver:={v with pre:=[],build:=[]}
def withO (c:Co)(o:Int):Co:={c with op:=o}
end
section
end
section
abbrev ZQ (x:Co):Array Value:= #[YI x.op,YI x.parts,YI x.v.maj,YI x.v.min,YI x.v.pat,.string (mkS x.v.pre),.string (mkS x.v.build)]
def coV (c:Co):Value:= .agg #[YI c.op,YI c.parts,YI c.v.maj,YI c.v.min,YI c.v.pat,.string (mkS c.v.pre),.string (mkS c.v.build)]
def Co.short (c:Co):Prop:=c.v.short
def toldV (p:Int)(v:Ver):Ver:=⟨if p<1 then 0 else v.maj,if p<2 then 0 else v.min,if p<3 then 0 else v.pat,if p<3 then [] else v.pre,[]⟩
def genCo (l:List Int)(i:Nat):Co:=
 ⟨1+plc (atL l (i+5)) 9,if 1+plc (atL l (i+5)) 9=9 then plc (atL l (i+6)) 3 else 1+plc (atL l (i+6)) 3,toldV (if 1+plc (atL l (i+5)) 9=9 then plc (atL l (i+6)) 3 else 1+plc (atL l (i+6)) 3) (genV l i)⟩
end
section
end
section
def ordSp (c d:Cu):Sp:=if 0<jF c d then ⟨d,c⟩ else ⟨c,d⟩
def spG (l:List Int)(i n:Nat):Sp:=ordSp (genC l (i+12*n-11)) (genC l (i+12*n-5))
def spansG (l:List Int)(i:Nat):Nat->List Sp
 |0=>[]
 |n+1=>(if (spG l i (n+1)).may then [spG l i (n+1)] else [])++spansG l i n
end
section
def rowG (l:List Int)(i:Nat):List Sp:=makeL (spansG l i (plc (atL l i) (4+1:Nat)).toNat)
end
section
end
section
end
section
def highZ (v:Ver)(z:Int):Cu:=if z<0 then dV 1 else highC v z.toNat
theorem rcMay_any (c:Co)(W:World)(hc:c.short):YC 133 #[coV c] W (YR (.bool c.may) W):=by
 obtain ⟨op,parts,v⟩:=c
 have hm:= @Co.may_iff ⟨op,parts,v⟩
 simp only at hm
 have no:∀ w,YB W w→¬ (Co.may ⟨op,parts,v⟩=true)->Ending.returned (.bool false)= .returned (.bool (Co.may ⟨op,parts,v⟩))/\YB W w:=λw hb h=>⟨by rw [Bool.eq_false_iff.2 h],hb⟩
 have hmay:∀ w,YC 77 #[kJ v] w (YR (.bool v.may) w):=λw=>rmayQ_any v w hc.1 hc.2
 refine zD Tryz.func133 (yK [] λb1=>zB 7 [0] (op<1) (λh1=>(z7 [] Z5 λw hO=>no w hO.below λq=>by have:=hm.1 q;grind)) (λh1=>zB 11 [0] (op>9) (λh2=>(z7 [] Z5 λw hO=>no w hO.below λq=>by have:=hm.1 q;grind)) (λh2=>z8 (v:= .bool v.may) [0] (λw hO=>hmay w) (zP 16 v.may (λe3=>gA 23 [0] v.build [] (λh4=> ?_) (λh4=>(z7 [] Z5 λw hO=>no w hO.below λq=>by have:=hm.1 q;grind))) (λe3=>(z7 [] Z5 λw hO=>no w hO.below λq=>by have:=hm.1 q;grind))))))
 refine bR 27 (α:=Int×Int) (λq=>[(1,Zp b1 0),(3,YI q.1),(4,YI q.2)]) (λ_=>[⟨b1,(coV ⟨op,parts,v⟩).cells,140⟩]) (λq=>(op=9->q.1=0/\q.2=2)/\(¬ op=9->q.1=1/\q.2=3)) [0] (λnj=>x_now 27 (op=9) (λh=>nj (0,2) [] ⟨λ_=>⟨rfl,rfl⟩,λq=>absurd h q⟩ Kr) (λh=>nj (1,3) [] ⟨λq=>absurd q h,λ_=>⟨rfl,rfl⟩⟩ Kr)) ?_
 rintro ⟨lo,hi⟩ g hr
 simp only at hr
 refine zB 31 [0] (parts<lo) (λh5=>(z7 [] Z5 λw hO=>no w hO.below λq=>by have:=hm.1 q;grind)) (λh5=>zB 36 [0] (parts>hi) (λh6=>(z7 [] Z5 λw hO=>no w hO.below λq=>by have:=hm.1 q;grind)) (λh6=> ?_))
 rcases (by omega:parts=0\/parts=1\/parts=2\/parts=3) with rfl|rfl|rfl|rfl
 ·exact gA 46 [0,0] v.pre [] (λh8=>zB 56 [0,0] (v.maj=0) (λa1=>zB 66 [0,0] (v.min=0) (λa2=>zB 77 [0,0] (v.pat=0) (λa3=>(z7 [] Z4 λw hO=>⟨by rw [hm.2 ⟨by omega,e3,h4,by omega,by omega,by first|exact .inl Om|exact .inr h8,by omega,by omega,by omega⟩],hO.below⟩)) (λa3=>(z7 [] Z5 λw hO=>no w hO.below λq=>by have:=hm.1 q;grind))) (λa2=>(z7 [] Z5 λw hO=>no w hO.below λq=>by have:=hm.1 q;grind))) (λa1=>(z7 [] Z5 λw hO=>no w hO.below λq=>by have:=hm.1 q;grind))) (λh8=>(z7 [] Z5 λw hO=>no w hO.below λq=>by have:=hm.1 q;grind))
 ·exact gA 46 [0,0] v.pre [] (λh8=>zB 66 [0,0,0] (v.min=0) (λa2=>zB 77 [0,0] (v.pat=0) (λa3=>(z7 [] Z4 λw hO=>⟨by rw [hm.2 ⟨by omega,e3,h4,by omega,by omega,by first|exact .inl Om|exact .inr h8,by omega,by omega,by omega⟩],hO.below⟩)) (λa3=>(z7 [] Z5 λw hO=>no w hO.below λq=>by have:=hm.1 q;grind))) (λa2=>(z7 [] Z5 λw hO=>no w hO.below λq=>by have:=hm.1 q;grind))) (λh8=>(z7 [] Z5 λw hO=>no w hO.below λq=>by have:=hm.1 q;grind))
 ·exact gA 46 [0,0] v.pre [] (λh8=>zB 77 [0,0,0,0] (v.pat=0) (λa3=>(z7 [] Z4 λw hO=>⟨by rw [hm.2 ⟨by omega,e3,h4,by omega,by omega,by first|exact .inl Om|exact .inr h8,by omega,by omega,by omega⟩],hO.below⟩)) (λa3=>(z7 [] Z5 λw hO=>no w hO.below λq=>by have:=hm.1 q;grind))) (λh8=>(z7 [] Z5 λw hO=>no w hO.below λq=>by have:=hm.1 q;grind))
 ·exact z7 [0,0,0,0] Z4 λw hO=>⟨by rw [hm.2 ⟨by omega,e3,h4,by omega,by omega,by first|exact .inl Om|exact .inr h8,by omega,by omega,by omega⟩],hO.below⟩
theorem rcsign_any (op:Int)(W:World):YC 135 #[YI op] W (YR (.string (mkS (y9 op))) W):=by
 exact zD Tryz.func135 (zB 5 [] (op=1) (λh=>z7 [] (.string (mkS [61])) λw hO=>⟨by subst h;rfl,hO.below⟩) (λh1=>zB 7 [] (op=2) (λh=>z7 [] (.string (mkS [33,61])) λw hO=>⟨by subst h;rfl,hO.below⟩) (λh2=>zB 9 [] (op=3) (λh=>z7 [] (.string (mkS [60])) λw hO=>⟨by subst h;rfl,hO.below⟩) (λh3=>zB 11 [] (op=4) (λh=>z7 [] (.string (mkS [60,61])) λw hO=>⟨by subst h;rfl,hO.below⟩) (λh4=>zB 13 [] (op=5) (λh=>z7 [] (.string (mkS [62])) λw hO=>⟨by subst h;rfl,hO.below⟩) (λh5=>zB 15 [] (op=6) (λh=>z7 [] (.string (mkS [62,61])) λw hO=>⟨by subst h;rfl,hO.below⟩) (λh6=>zB 17 [] (op=7) (λh=>z7 [] (.string (mkS [94])) λw hO=>⟨by subst h;rfl,hO.below⟩) (λh7=>zB 19 [] (op=8) (λh=>z7 [] (.string (mkS [126])) λw hO=>⟨by subst h;rfl,hO.below⟩) (λh8=>z7 [] (.string (mkS [])) λw hO=>⟨by unfold y9;rw [if_neg h1,if_neg h2,if_neg h3,if_neg h4,if_neg h5,if_neg h6,if_neg h7,if_neg h8],hO.below⟩)))))))))
theorem rcbegins_any (s t:YL)(W:World):YC 244 #[.string (mkS s),.string (mkS t)] W (YR (.bool (yO s t)) W):=by
 have hs:=zQ s
 have ht:=zQ t
 refine Z2 (n:=18) Tryz.func244 rfl (ZO (Zv Z5 (ZR (Zv (.string (mkS s)) (Zv (YI ((mkS s).size)) (Zv (.string (mkS t)) (Zv (YI ((mkS t).size)) ?_)))))))
 by_cases h1:((mkS t).size:Int)<=(mkS s).size
 ·refine Zg h1 (Zv Z4 (Zv (.string (mkS s)) (Zv (.string (mkS t)) (Zv (YI ((mkS t).size)) (bU (.string (mkS (s.take (mkS t).size))) Kr (run_strhi (s:=s) (k:= .i64) (j:=((mkS t).size:Int)) rfl Kr Kr Tryz.underlying9 Om Om) (Zv (.string (mkS t)) ?_))))))
  by_cases h2:((s.take (mkS t).size):YL)=t
  ·exact bU Z4 Kr (gN (a:=(s.take (mkS t).size)) (b:=t) rfl Kr Kr (decide_eq_true (h2))) (Zv Z4 (Zv Z4 (ZN (gG (ZF Z4 Tryz.results244 (λw hO=>⟨by rw [show yO s t=true from decide_eq_true (by rw [←ht];assumption)],hO.below⟩))))))
  exact bU Z5 Kr (gN (a:=(s.take (mkS t).size)) (b:=t) rfl Kr Kr (decide_eq_false (h2))) (Zv Z5 (Zv Z5 (ZN (gG (ZF Z5 Tryz.results244 (λw hO=>⟨by rw [show yO s t=false from decide_eq_false (by rw [←ht];assumption)],hO.below⟩))))))
 refine Zh h1 (Zv Z5 (Zk (Zk (Zk (Zk (Zk (Zk (Zv Z5 (Zv Z5 (nW (vV ?_)))))))))))
 exact gG (ZF Z5 Tryz.results244 (λw hO=>⟨by rw [show yO s t=false from decide_eq_false λq0=>by have q1:=congrArg List.length q0;rw [List.length_take] at q1;omega],hO.below⟩))
end
section
end
section
def triV (l:List YL):Ver:=if l.length=3 then ⟨zK (tg l 0),zK (tg l 1),zK (tg l 2),[],[]⟩ else Ver.zero
def triB (l:List YL):Bool:=decide (l.length=3) && (qM (tg l 0) && qM (tg l 1) && qM (tg l 2))
theorem one_keep {w w' w2:World}{v1 v2 v3:Value}(hS:w'.cell? ⟨w.heap.size,0,none⟩=some v1/\w'.cell? ⟨w.heap.size,1,none⟩=some v2/\w'.cell? ⟨w.heap.size,2,none⟩=some v3/\YB w w'/\w.heap.size<w'.heap.size)(hb:Below w'.heap.size w' w2):w2.cell? ⟨w.heap.size,0,none⟩=some v1/\w2.cell? ⟨w.heap.size,1,none⟩=some v2/\w2.cell? ⟨w.heap.size,2,none⟩=some v3/\YB w w2/\w.heap.size<w2.heap.size:=by
 obtain ⟨a0,a1,a2,h,hA⟩:=hS
 have k:∀ C i v,C<w'.heap.size->w'.cell? ⟨C,i,none⟩=some v->w2.cell? ⟨C,i,none⟩=some v:=λC i v hC e=>(hb.cell (p:=⟨C,i,none⟩) hC).trans e
 exact ⟨k _ _ _ hA a0,k _ _ _ hA a1,k _ _ _ hA a2,h.trans (hb.mono h.size),Nat.lt_of_lt_of_le hA hb.size⟩
theorem one_start (w:World)(v1 v2 v3 v4 v5:Value)(T:TypeId):(w.alloc (.cells #[v1,v2,v3,v4,v5] T)).drew.cell? ⟨w.heap.size,0,none⟩=some v1/\(w.alloc (.cells #[v1,v2,v3,v4,v5] T)).drew.cell? ⟨w.heap.size,1,none⟩=some v2/\(w.alloc (.cells #[v1,v2,v3,v4,v5] T)).drew.cell? ⟨w.heap.size,2,none⟩=some v3/\Below w.heap.size w (w.alloc (.cells #[v1,v2,v3,v4,v5] T)).drew/\w.heap.size<(w.alloc (.cells #[v1,v2,v3,v4,v5] T)).drew.heap.size:=by
 have h0:(w.alloc (.cells #[v1,v2,v3,v4,v5] T)).drew.heap[w.heap.size]?=some (.cells #[v1,v2,v3,v4,v5] T):=fL w _
 have k0:∀ i v,(#[v1,v2,v3,v4,v5]:Array Value)[i]?=some v->(w.alloc (.cells #[v1,v2,v3,v4,v5] T)).drew.cell? ⟨w.heap.size,i,none⟩=some v:=λi v e=>(cell_of_row _ _ i _ _ _ h0).trans e
 have hs:(w.alloc (.cells #[v1,v2,v3,v4,v5] T)).drew.heap.size=w.heap.size+1:=wN w _
 have hB:Below w.heap.size w (w.alloc (.cells #[v1,v2,v3,v4,v5] T)):=(Below.refl _ w).alloc (Nat.le_refl _) _
 exact ⟨k0 0 _ rfl,k0 1 _ rfl,k0 2 _ rfl,hB.drew,by omega⟩
theorem dL (n:Int)(h:zT n=true)(w:World):
  YC 175 #[YI n] w (YR (.string (mkS (Lib.itoa n))) w):=by
 unfold zT at h;simp at h
 exact rdigits_any n Om Om w
theorem numsL_mk (a b c:Int)(p q:YL):mkS (bX ⟨a,b,c,p,q⟩)=mkS (Lib.itoa a)++⟨#[46]⟩++mkS (Lib.itoa b)++⟨#[46]⟩++mkS (Lib.itoa c):=by
 rw [show (⟨#[46]⟩:ByteArray)=mkS [46] from rfl,x2,x2,x2,x2]
 congr 1
 unfold bX
 simp
theorem rnumbers_any (v:Ver)(w:World)(h1:zT v.maj=true)(h2:zT v.min=true)(h3:zT v.pat=true):
  YC 132 #[kJ v] w (YR (.string (mkS (bX v))) w):=by
 obtain ⟨a,b,c,p,q⟩:=v
 have HN:=Lib.hid (numsL_mk a b c p q)
 dsimp only at h1 h2 h3
 have cA:=λw'=>dL a h1 w'
 have cB:=λw'=>dL b h2 w'
 have cC:=λw'=>dL c h3 w'
 have la:=mP h1
 have lb:=mP h2
 have lc:=mP h3
 rw [←zQ] at la lb lc
 unfold kJ
 dsimp only
 obtain ⟨x,hx⟩:∃ x,mkS (Lib.itoa a)=x:=⟨_,rfl⟩
 obtain ⟨y,hy⟩:∃ x,mkS (Lib.itoa b)=x:=⟨_,rfl⟩
 obtain ⟨z,hz⟩:∃ x,mkS (Lib.itoa c)=x:=⟨_,rfl⟩
 rw [hx] at cA la HN
 rw [hy] at cB lb HN
 rw [hz] at cC lc HN
 clear hx hy hz h1 h2 h3
 have s1:(x++(⟨#[46]⟩:ByteArray)).size<=5:=by rw [ByteArray.size_append];show x.size+1<=5;omega
 have s2:(x++(⟨#[46]⟩:ByteArray)++y).size<=9:=by rw [ByteArray.size_append];omega
 have s3:(x++(⟨#[46]⟩:ByteArray)++y++(⟨#[46]⟩:ByteArray)).size<=10:=by rw [ByteArray.size_append];show _+1<=10;omega
 go_enter Tryz.func132,Tryz.ntmps132
 go_wp2_with fail
 have hS0:=one_start w (YI a) (YI b) (YI c) (.string (mkS p)) (.string (mkS q)) 24
 go_region_with (first
   |(go_at_call 175;with_reducible refine (cA _).mono ?_;rintro e w1 ⟨rfl,hb1⟩;have hS1:=one_keep ‹_› hb1)
   |(go_at_call 175;with_reducible refine (cB _).mono ?_;rintro e w2 ⟨rfl,hb2⟩;have hS2:=one_keep ‹_› hb2))
 all_goals
  obtain ⟨_,_,k1,hbk1,_⟩:=hS1
  obtain ⟨_,_,k2,hbk2,_⟩:=hS2
  go_wp2_with (go_at_call 175;refine (cC _).mono ?_;rintro e w3 ⟨rfl,hb3⟩)
  go_ret
  first
   |exact ⟨wS HN.out.symm,hbk2.trans (hb3.mono hbk2.size)⟩
   |exact ⟨wS HN.out.symm,hbk1.trans (hb3.mono hbk1.size)⟩
theorem rprint_good (v:Ver)(w:World)(hp:v.pre.length<=1048576)(hq:v.build.length<=1048576)(hm:v.may=true):
  YC 80 #[kJ v] w (YR (.string (mkS v.text)) w):=by
 have cM:=λw'=>rmayQ_any v w' hp hq
 obtain ⟨n1,n2,n3⟩:=qN hm
 have cN:=λw'=>rnumbers_any v w' n1 n2 n3
 have hT:v.text=bX v++xH 45 v.pre++xH 43 v.build:=rfl
 have hnl:(bX v).length<=14:=nums_len n1 n2 n3
 obtain ⟨J,hJ⟩:∃ J,bX v=J:=⟨_,rfl⟩
 rw [hJ] at cN hT hnl
 obtain ⟨a,b,c,p,q⟩:=v
 rw [hm] at cM
 unfold kJ at cN cM ⊢
 dsimp only at cN cM hp hq hT ⊢
 have HT:=Lib.hid hT
 clear hT hm n1 n2 n3 hJ
 have hj0:(mkS J).size<=14:=by rw [zQ];exact hnl
 have hp0:(mkS p).size<=1048576:=by rw [zQ];exact hp
 have hq0:(mkS q).size<=1048576:=by rw [zQ];exact hq
 have hj1:(mkS J++(⟨#[45]⟩:ByteArray)).size<=15:=by rw [ByteArray.size_append];show _+1<=_;omega
 have hj2:(mkS J++(⟨#[45]⟩:ByteArray)++mkS p).size<=1048591:=by rw [ByteArray.size_append];omega
 have hj3:(mkS J++(⟨#[45]⟩:ByteArray)++mkS p++(⟨#[43]⟩:ByteArray)).size<=1048592:=by rw [ByteArray.size_append];show _+1<=_;omega
 have hj4:(mkS J++(⟨#[43]⟩:ByteArray)).size<=15:=by rw [ByteArray.size_append];show _+1<=_;omega
 have hpe0:(mkS p).toList.isEmpty=p.isEmpty:=by rw [Lib.toList_data,mk_data]
 have hqe0:(mkS q).toList.isEmpty=q.isEmpty:=by rw [Lib.toList_data,mk_data]
 have hcase:(p.isEmpty=true/\xH 45 p=[]\/p.isEmpty=false/\xH 45 p=45::p)/\(q.isEmpty=true/\xH 43 q=[]\/q.isEmpty=false/\xH 43 q=43::q):=by
  unfold xH;cases p<;>cases q<;>simp
 obtain ⟨hc1,hc2⟩:=hcase
 rcases hc1 with ⟨e1,t1⟩|⟨e1,t1⟩<;>rcases hc2 with ⟨e2,t2⟩|⟨e2,t2⟩
 all_goals
  rw [e1] at hpe0
  rw [e2] at hqe0
  have T1:=Lib.hid t1
  have T2:=Lib.hid t2
  clear t1 t2 e1 e2
  go_enter Tryz.func80,Tryz.ntmps80
  go_wp2_with fail
  refine (cM _).mono ?_
  rintro e w1 ⟨rfl,hb1⟩
  have hg1:=Lib.hid ((hb1.block w.heap.size (by simp)).trans (fL w _))
  have hbw1:YB w w1:=((Below.refl _ _).alloc (Nat.le_refl _) _).trans (hb1.mono (by simp))
  have hsw:w.heap.size<w1.heap.size:=by have:=hb1.size;rw [wN] at this;omega
  go_wp2_with (first
   |(refine wpList_load_row rfl 24 _ rfl w.heap.size rfl _ _ _ _ hg1.out Tryz.underlying24 rfl Kr ?_)
   |(go_at_call 132;refine (cN _).mono ?_;rintro e w2 ⟨rfl,hb2⟩;obtain ⟨c3,f3⟩:=qP (j:=3) ((hb2.block w.heap.size hsw).trans hg1.out) (by simp);obtain ⟨c4,f4⟩:=qP (j:=4) ((hb2.block w.heap.size hsw).trans hg1.out) (by simp);simp only [List.getElem_toArray,List.getElem_cons_succ,List.getElem_cons_zero] at c3 c4))
  go_ret
  exact ⟨wS (by
   rw [HT.out,T1.out,T2.out];try rw [show (⟨#[45]⟩:ByteArray)=mkS [45] from rfl]
   try rw [show (⟨#[43]⟩:ByteArray)=mkS [43] from rfl]
   simp [x2]),hbw1.trans (hb2.mono hbw1.size)⟩
theorem rprint_none (v:Ver)(w:World)(hp:v.pre.length<=1048576)(hq:v.build.length<=1048576)(hm:v.may=false):
  YC 80 #[kJ v] w (YR (.string (mkS [])) w):=by
 have cM:=λw'=>rmayQ_any v w' hp hq
 rw [hm] at cM
 obtain ⟨a,b,c,p,q⟩:=v
 unfold kJ at cM ⊢
 dsimp only at cM ⊢
 clear hm
 go_enter Tryz.func80,Tryz.ntmps80
 go_wp2_with (go_at_call 77;refine (cM _).mono ?_;rintro e w1 ⟨rfl,hb1⟩)
 go_ret
 exact ⟨rfl,((Below.refl _ _).alloc (Nat.le_refl _) _).trans (hb1.mono (by simp))⟩
theorem rprint_any (v:Ver)(w:World)(hp:v.pre.length<=1048576)(hq:v.build.length<=1048576):
  YC 80 #[kJ v] w (YR (.string (mkS v.print)) w):=by
 cases hm:v.may with
 |true=>rw [print_eq hm];exact rprint_good v w hp hq hm
 |false=>rw [print_bad hm];exact rprint_none v w hp hq hm
end
section
theorem signL_len (op:Int):(y9 op).length<=2:=by
 unfold y9
 repeat' split
 all_goals decide
theorem join_len (b:UInt8)(m:Nat):∀ (l:List YL),(∀ x∈l,x.length<=m)->(zG b l).length<=l.length*(m+1)
 | [],_=>by simp [zG]
 | [x],h=>by
  have:=h x (List.mem_singleton.2 rfl)
  simp [zG];omega
 |x::y::r,h=>by
  have h1:=h x (List.mem_cons_self ..)
  have h2:=join_len b m (y::r) λz hz=>h z (List.mem_cons_of_mem _ hz)
  rw [zG,List.length_append,List.length_cons]
  simp only [List.length_cons,Nat.add_mul] at h2 ⊢
  omega
theorem nums_len9 {v:Ver}(hv:v.may=true){n:Nat}:∀ x∈y7 v n,x.length<=21:=λx hx=>by
 obtain ⟨k,hk,rfl⟩:=nums_mem hv hx
 have:=mP hk
 omega
theorem numsN_le (v:Ver)(n:Nat):(y7 v n).length<=3:=by unfold y7;rw [List.length_take];simp;omega
theorem njoin_len {v:Ver}(hv:v.may=true)(n:Nat):(zG 46 (y7 v n)).length<=100:=by
 have h:=join_len 46 21 (y7 v n) (nums_len9 hv)
 have:=numsN_le v n
 omega
theorem sjoin_len {v:Ver}(hv:v.may=true)(n:Nat):(zG 46 (y7 v n++[[42]])).length<=200:=by
 have h:=join_len 46 21 (y7 v n++[[42]]) (λx hx=>by
  rcases List.mem_append.1 hx with hx|hx
  ·exact nums_len9 hv x hx
  ·rw [List.mem_singleton.1 hx];decide)
 have:=numsN_le v n
 rw [List.length_append] at h
 simp at h;omega
def tY (v:Ver):Array Value:= #[.string (mkS (Lib.itoa v.maj)),.string (mkS (Lib.itoa v.min)),.string (mkS (Lib.itoa v.pat))]
theorem told_take (v:Ver){n:Nat}(h:n<=3):(tY v).toList.take (n*1)=jD (y7 v n):=by
 rw [Nat.mul_one]
 unfold jD y7
 rw [List.map_take];rfl
theorem told_slt (v:Ver){n:Nat}(h:n<=3)(g:Nat):SlT (.slice (some ⟨g,0,none⟩) n 3) (y7 v n) [⟨g,tY v,9⟩]:=by
 have e:=wD v h
 refine ⟨by rw [bF,e];omega,.inr ⟨g,3,tY v,by rw [e],rfl,by rw [e];exact h,by decide,rfl, ?_⟩⟩
 rw [e];exact told_take v h
theorem parts_nat {c:Co}(h:c.may=true):((c.parts.toNat:Nat):Int)=c.parts/\c.parts.toNat<=3:=by
 obtain ⟨_,_,_,h9,hn,_⟩:=Co.facts h
 by_cases e:c.op=9
 ·have:=h9 e;omega
 ·have:=hn e;omega
theorem star_text {c:Co}(h9:c.op=9):zG 46 (y7 c.v c.parts.toNat++[[42]])=c.text:=by
 unfold Co.text Co.rest
 rw [h9,if_pos rfl];rfl
theorem text_pre {c:Co}(h9:¬ c.op=9)(hp:¬ c.v.pre=[]):y9 c.op++zG 46 (y7 c.v c.parts.toNat)++[45]++c.v.pre=c.text:=by
 unfold Co.text Co.rest xH
 rw [if_neg h9]
 cases hq:c.v.pre with
 |nil=>exact absurd hq hp
 |cons a r=>simp
theorem text_bare {c:Co}(h9:¬ c.op=9)(hp:c.v.pre=[]):y9 c.op++zG 46 (y7 c.v c.parts.toNat)=c.text:=by
 unfold Co.text Co.rest xH
 rw [if_neg h9,hp];simp
theorem rctold_any (c:Co)(W:World)(hc:c.short)(hm:c.may=true):YC 134 #[coV c] W λe w'=>∃ v' ob',e= .returned v'/\(∃ g,v'= .slice (some ⟨g,0,none⟩) c.parts.toNat 3/\ob'=[⟨g,tY c.v,9⟩])/\Own [] W w' ob':=by
 obtain ⟨m1,m2,m3⟩:=qN (Co.facts hm).2.1
 have hpn:=parts_nat hm
 exact zD Tryz.func134 (yK [] λb1=>x_draw 13 [] (gD [0,0,0] 3 (z8 (k:=175) (args:= #[YI c.v.maj]) (v:= .string (mkS (Lib.itoa c.v.maj))) [] (λw _=>dL c.v.maj m1 w) (gD [] 7 (z8 (k:=175) (args:= #[YI c.v.min]) (v:= .string (mkS (Lib.itoa c.v.min))) [] (λw _=>dL c.v.min m2 w) (gD [] 11 (z8 (k:=175) (args:= #[YI c.v.pat]) (v:= .string (mkS (Lib.itoa c.v.pat))) [] (λw _=>dL c.v.pat m3 w) (gD [] 12 (fQ 3 9 (tY c.v) λb2=>x_slhi 20 [1] (A:=some ⟨b2,0,none⟩) rfl 3 3 1 c.parts Om Om (.slice (some ⟨b2,0,none⟩) c.parts.toNat 3) rfl (z7 [] (.slice (some ⟨b2,0,none⟩) c.parts.toNat 3) λw hO=>⟨_,_,rfl,⟨b2,rfl,rfl⟩,Own.nth 0 ⟨b2,tY c.v,9⟩ hO⟩))))))))))
theorem rcPrint_any (c:Co)(W:World)(hc:c.short):YC 85 #[coV c] W (YR (.string (mkS c.print)) W):=by
 refine zD Tryz.func85 (yK [] λb1=>z8 (k:=133) (args:= #[coV c]) (v:= .bool c.may) [0] (λw _=>rcMay_any c w hc) ?_)
 cases hcm:c.may with
 |false=>exact z7 [] (.string (mkS [])) λw hO=>⟨by unfold Co.print;simp [hcm],hO.below⟩
 |true=>
  have hcv:=(Co.facts hcm).2.1
  have hpn:=parts_nat hcm
  have q1:=signL_len c.op
  have q2:=njoin_len hcv c.parts.toNat
  have q3:=hc.1
  refine k8 (R:=λv' ob'=>∃ g,v'= .slice (some ⟨g,0,none⟩) c.parts.toNat 3/\ob'=[⟨g,tY c.v,9⟩]) [0] (λw hO=>rctold_any c w hc hcm) ?_
  rintro v' ob' ⟨g1,rfl,rfl⟩
  refine zB 12 [0] (c.op=9) (λh2=> ?_) (λh2=> ?_)
  ·refine x_slhm 18 [0,0] g1 c.parts.toNat 3 1 c.parts c.parts Om (.slice (some ⟨g1,0,none⟩) c.parts.toNat c.parts.toNat) rfl (gM [] 1 9 #[.string ⟨#[42]⟩] λb2=>x_appF (N:=c.parts.toNat) (cap:=c.parts.toNat) (m:=1) (cp:=1) (sz:=1) (T:=9) [] 2 0 [⟨b2, #[.string ⟨#[42]⟩],9⟩,⟨b1,(coV c).cells,140⟩,⟨g1,tY c.v,9⟩] (by show c.parts.toNat*1<=3;omega) Om Om λva oa hva0=> ?_)
   have hva:SlT va (y7 c.v c.parts.toNat++[[42]]) oa:=Sl.to hva0 (by rw [List.length_append,wD c.v hpn.2];rfl) (by show (tY c.v).toList.take _++_=_;rw [told_take c.v hpn.2];unfold jD;rw [List.map_append];rfl)
   exact z8 (k:=55) (args:= #[va,.int .u8 46]) (v:= .string (mkS (zG 46 (y7 c.v c.parts.toNat++[[42]])))) [] (λw hO=>rjoin_any va _ 46 w (SlT.readsT hva (hO.past 0 (oa++[⟨b2, #[.string ⟨#[42]⟩],9⟩,⟨b1,(coV c).cells,140⟩,⟨g1,tY c.v,9⟩])) (λx hx=>List.mem_append_left _ hx)) (Nat.le_trans (sjoin_len hcv _) (by decide)) (by rw [List.length_append];have:=numsN_le c.v c.parts.toNat;simp;omega)) (z7 [] (.string (mkS (zG 46 (y7 c.v c.parts.toNat++[[42]])))) λw hO=>⟨by rw [vK hcm,←star_text h2],hO.below⟩)
  ·refine z8 (k:=135) (args:= #[YI c.op]) (v:= .string (mkS (y9 c.op))) [0] (λw _=>rcsign_any c.op w) (z8 (k:=55) (args:= #[.slice (some ⟨g1,0,none⟩) c.parts.toNat 3,.int .u8 46]) (v:= .string (mkS (zG 46 (y7 c.v c.parts.toNat)))) [] (λw hO=>rjoin_any _ _ 46 w (SlT.readsT (told_slt c.v hpn.2 g1) (hO.past 1 [⟨g1,tY c.v,9⟩]) (λx hx=>hx)) (Nat.le_trans q2 (by decide)) (Nat.le_trans (numsN_le _ _) (by decide))) (zR 27 [] (y9 c.op) (zG 46 (y7 c.v c.parts.toNat)) (gA 31 [0] c.v.pre [] (λh3=>z7 [] (.string (mkS (y9 c.op++zG 46 (y7 c.v c.parts.toNat)))) λw hO=>⟨by rw [vK hcm,←text_bare h2 h3],hO.below⟩) (λh3=> ?_))))
   exact zR 33 [] (y9 c.op++zG 46 (y7 c.v c.parts.toNat)) [45] (zR 37 [0] (y9 c.op++zG 46 (y7 c.v c.parts.toNat)++[45]) c.v.pre (z7 [] (.string (mkS (y9 c.op++zG 46 (y7 c.v c.parts.toNat)++[45]++c.v.pre))) λw hO=>⟨by rw [vK hcm,←text_pre h2 h3],hO.below⟩))
end
section
def opF (k:Nat):Int:=if k=0 then 9 else if k=1 then 7 else if k=2 then 6 else if k=3 then 3 else if k=4 then 1 else 2
structure FewC (c:Co):Prop where
 op:c.op=7\/c.op=6\/c.op=3\/c.op=1\/c.op=2
 parts:c.parts=3
 v:∃ a b:Nat,a<3/\b<2/\c.v=⟨a,b,0,[],[]⟩
def FewT (t:YL):Prop:=t=[42]∨∃ c,FewC c/\t=c.print
end
section
structure Wv where
 name:YL
 rng:YL
 A:Option Addr
 cap:Nat
 fs:List YL
 bare:Bool
def wvC (x:Wv):List Value:=[.string (mkS x.name),.string (mkS x.rng),.slice x.A x.fs.length x.cap,.bool x.bare]
def wvV (x:Wv):Value:= .agg #[.string (mkS x.name),.string (mkS x.rng),.slice x.A x.fs.length x.cap,.bool x.bare]
structure WishG (own:Nat)(alone:Bool)(x:Wv):Prop where
 name:∃ k,k<4/\x.name=nameT ((own+1+k) % 5)
 rng:FewT x.rng
 fs:x.fs=[]\/alone=true/\(x.fs=[[120]]\/x.fs=[[120],[121]])
end
section
set_option linter.unnecessarySimpa false
def sepT (c:Nat):YL:=if c=0 then [32,61,32] else [32,33,61,32]
def WhenT (t:YL):Prop:=t=[]∨∃ k c j,k<3/\t=x3 k++sepT c++wordT j
end
section
structure Nv where
 A:Option Addr
 cap:Nat
 any:List Wv
 wh:YL
 opt:YL
def nvC (x:Nv):List Value:=[.slice x.A x.any.length x.cap,.string (mkS x.wh),.string (mkS x.opt)]
def nvV (x:Nv):Value:= .agg #[.slice x.A x.any.length x.cap,.string (mkS x.wh),.string (mkS x.opt)]
structure WsO (A:Option Addr)(cap:Nat)(xs:List Wv)(ob:List Blk):Prop where
 ex:∃ o1 o2,ob=o1++o2/\Sl 134 4 (.slice A xs.length cap) xs.length (xs.flatMap wvC) o1∧∀ x∈xs,∃ o,SlT (.slice x.A x.fs.length x.cap) x.fs o∧∀ b∈o,b∈o2
structure NeedG (own:Nat)(x:Nv):Prop where
 any:(∃ w,x.any=[w]/\WishG own true w)∨∃ w u,x.any=[w,u]/\WishG own false w/\WishG own false u
 wh:WhenT x.wh
 opt:x.opt=[]∨∃ j,j<4/\x.opt=wordT j
def WishR (own:Nat)(alone:Bool)(v:Value)(ob:List Blk):Prop:=∃ x,v=wvV x/\WishG own alone x/\SlT (.slice x.A x.fs.length x.cap) x.fs ob
end
section
section
variable {M:List Nat}{P:Program}{n:Nat}{ops:Array Oper}{W:World}{L0:List Blk}{Q:Exit->Act->World->Prop}{fuel:Nat}{listed:Array Bool}{f:Nat->Value}
theorem hl_appendR {α:Type}{g:α->List Value}{i0:Nat}{E ob R:List Blk}(oi:Oper){t T:TypeId}{s x:Operand}{i:TypeInfo}{z:Value}{sz:Nat}(hg:∀ y,(g y).length=sz)(hi0:ops[i0]?=some oi)(hw:zU ops n f oi=true)(ho:oi.op= .call {callee:= .builtin .append,args:= #[s,x],argTypes:= #[t,t]})
  (ht:P.underlying t=some (.slice T)) (hi:P.info? T=some i) (hz:i.zero=some z) (hsz:i.size=sz) (hzs:z.cells.size=sz)
  {v:Value} {m0:Nat} {xs:List Value} (hs:ev n f s=v) (hv:Sl T sz v m0 xs ob) {A:Option Addr} {c:Nat} {l:List α} (hx:ev n f x= .slice A l.length c)
  (hR:∀ w,Own M W w (E++ob++R)->Reads g w w.heap.size A l) (h1:∀ y,∀ u∈g y,u.oneCell'=true)
  (h63:m0+l.length<=maxLen) (hbytes:(m0+l.length)*i.bytes<=140737488355328) (hsub:∀ ob' w,Own M W w (E++ob'++R)->Own M W w L0)
  (h:∀ v' ob',Sl T sz v' (m0+l.length) (xs++l.flatMap g) ob'->pQ M P n ops W L0 Q fuel (listed.setIfInBounds i0 true) (E++ob'++R) (upd f oi.dst v')):tU M P n ops W L0 Q fuel listed i0 (E++ob++R) f:=
 hs_step hi0 hw λw hO=>by
  have hone:∀ u∈l.flatMap g,u.oneCell'=true:=λu hu=>by
   obtain ⟨y,_,hy⟩:=List.mem_flatMap.1 hu
   exact h1 y u hy
  cases A with
  |none=>
   have h0:l=[]:=by
    cases l with
    |nil=>rfl
    |cons y l=>obtain ⟨b,off,e,_⟩:=hR w hO (by simp);cases e
   subst h0
   have hv':Sl T sz v (m0+([]:List α).length) (xs++([]:List α).flatMap g) ob:=by simpa using hv
   refine vA v (w':=w) ?_ ⟨hsub ob w hO,(h v ob hv').go w hO⟩
   have hx':ev n f x= .slice none 0 c:=hx
   unfold execOp
   simp only [ho,resolve,invoke,builtin,Sem.run_bind,Sem.run_pure,Result.andThen_ok,List.map_toArray,List.map_cons,List.map_nil,hs,hx',tQ ht hi hv c]
  |some a=>
   have hnews:∀ j u,(l.flatMap g)[j]?=some u->w.cell? (a.add j)=some u:=λj u hj=>by
    have h0:0<l.length:=by
     cases l with
     |nil=>simp at hj
     |cons y l=>simp
    obtain ⟨b,off,e,_,hc⟩:=hR w hO h0
    obtain rfl:=Option.some.inj e
    rw [xP]
    exact hc j u hj
   obtain ⟨v',w',ob',hr,h2,h3⟩:=t8 (P:=P) (ty:=oi.type) (c:=c) ht hi hz hsz hzs hv hO (jT hg l) hnews hone h63 hbytes
   refine vA v' (w':=w') ?_ ⟨hsub ob' w' h3,(h v' ob' h2).go w' h3⟩
   unfold execOp
   simp only [ho,resolve,invoke,builtin,Sem.run_bind,Sem.run_pure,Result.andThen_ok,List.map_toArray,List.map_cons,List.map_nil,hs,hx,hr]
end
section
variable {M:List Nat}{P:Program}{n:Nat}{W:World}{Q:Exit->Act->World->Prop}{c:Xc}
theorem xh_appR {α:Type}{g:α->List Value}{T:TypeId}{sz k cp:Nat}{v:Value}{xs:List Value}{A:Option Addr}(l:List α)(E ob R:List Blk)(L1 L0:List Blk)(hs:∀ w,Own M W w L1->Own M W w (E++ob++R))(hsub:∀ ob' w,Own M W w (E++ob'++R)->Own M W w L0)
  (hgl:∀ y,(g y).length=sz) (h1:∀ y,∀ u∈g y,u.oneCell'=true) (hR:∀ w,Own M W w (E++ob++R)->Reads g w w.heap.size A l) (hv:Sl T sz v k xs ob) (hN:k+l.length<=1049000)
  (hg:∀ v' ob',Sl T sz v' (k+l.length) (xs++l.flatMap g) ob'->zF M P n W Q (aNext c (E++ob'++R) v'))
  (hkt:(c.L,hL c,c.top,(xA c)[hI c]?,zU (xA c) n c.f (xO c),(xO c).op,ev n c.f (aX (xO c) 0),ev n c.f (aX (xO c) 1),P.underlying (aT (xO c)),aInfo P T)
   =(L1,L0,.hst (xA c) (hS c) (hU c) (hL c) (hI c),some (xO c),true,aOp (xO c),v,.slice A l.length cp,some (.slice T),some (true,sz,some sz)):=by kernel_rfl):zF M P n W Q c:=by
 simp only [Prod.mk.injEq] at hkt
 obtain ⟨f1,f2,e1,e2,e3,e4,e5,e6,e8,e9⟩:=hkt
 rw [←f1] at hs
 rw [←f2] at hsub
 have:c=⟨.hst (xA c) (hS c) (hU c) (hL c) (hI c),c.k,c.L,c.f⟩:=by rw [←e1]
 rw [this]
 obtain ⟨i,z,hi,hz,hsz,hzs,hby⟩:=aInfo_is e9
 refine ⟨λhq hs0=>hs_take' hs (hl_appendR (E:=E) (ob:=ob) (R:=R) (xO c) hgl e2 e3 e4 e8 hi hz hsz hzs e5 hv e6 hR h1 ?_ ?_ hsub λv' ob' h=>(hg v' ob' h).go hq (hsub ob'))⟩
 ·unfold maxLen;omega
 ·have:=Nat.mul_le_mul hN hby;omega
theorem sl_block {T:TypeId}{b N sz:Nat}{cs:Array Value}(h:cs.size=N*sz)(hN:N<=maxLen):Sl T sz (.slice (some ⟨b,0,none⟩) N N) N cs.toList [⟨b,cs,T⟩]:=
 ⟨by rw [Array.length_toList];exact h,.inr ⟨b,N,cs,rfl,rfl,Nat.le_refl _,hN,h,by rw [List.take_of_length_le (by rw [Array.length_toList,h];exact Nat.le_refl _)]⟩⟩
end
end
section
def xIns (ρ:Operand->Value)(o:Oper):Option (Sem Value):=match o.op with
 | .makeMap t none=>some (Instr.makeMap t none)
 | .lookup t m x c=>some (Instr.lookup t (ρ m) (ρ x) c)
 | .range t x=>some (Instr.range t (ρ x))
 | .next it s=>some (Instr.next (ρ it) s o.type)
 | .entry it=>some (Instr.entry (ρ it))
 |_=>none
def xUpd (ρ:Operand->Value)(o:Oper):Option (Sem Unit):=match o.op with
 | .mapUpdate t m k x=>some (Instr.mapUpdate t (ρ m) (ρ k) (ρ x))
 | .insert t m k x=>some (Instr.mapUpdate t (ρ m) (ρ k) (ρ x))
 |_=>none
theorem ins_run {P:Program}{ρ:Operand->Value}{o:Oper}{s:Sem Value}(h:xIns ρ o=some s){w w':World}{v:Value}(hr:s.run P w= .ok v w'):(execOp ρ o).run P w= .ok (.value v) w':=by
 unfold xIns at h
 unfold execOp
 cases ho:o.op<;>rw [ho] at h<;>try (cases h;done)
 case makeMap t r=>
  cases r with
  |none=>cases h;simp only [Option.map_none,Sem.run_bind,hr,Result.andThen_ok,Sem.run_pure]
  |some _=>cases h
 all_goals (cases h;simp only [Sem.run_bind,hr,Result.andThen_ok,Sem.run_pure])
theorem upd_run {P:Program}{ρ:Operand->Value}{o:Oper}{s:Sem Unit}(h:xUpd ρ o=some s){w w':World}(hr:s.run P w= .ok () w'):(execOp ρ o).run P w= .ok .skip w':=by
 unfold xUpd at h
 unfold execOp
 cases ho:o.op<;>rw [ho] at h<;>try (cases h;done)
 all_goals (cases h;simp only [Sem.run_bind,hr,Result.andThen_ok,Sem.run_pure])
section
variable {M:List Nat}{P:Program}{n:Nat}{W:World}{Q:Exit->Act->World->Prop}{c:Xc}
theorem x_ins (h:List Nat)(s:Sem Value)(hs:∀ w,Own M W w (xgo P n nS h c).L→∃ v w' M' L',s.run P w= .ok v w'/\Own M' w' w' L'/\zF M' P n w' Q (xNx (xgo P n nS h c) L' v))
  (hkt:(xgl P n nS h c,(xgo P n nS h c).top,zU (xA (xgo P n nS h c)) n (xgo P n nS h c).f (xO (xgo P n nS h c)),xNl (xgo P n nS h c).k,xIns (ev n (xgo P n nS h c).f) (xO (xgo P n nS h c)))=(xgr P n nS h c,.ops (xA (xgo P n nS h c)) (xO (xgo P n nS h c)::xT (xgo P n nS h c)),true,true,some s):=by kernel_rfl):zF M P n W Q c:=by
 simp only [Prod.mk.injEq] at hkt
 obtain ⟨hk,e1,e2,e3,e4⟩:=hkt
 exact x_opW h (λw hO=>by
  obtain ⟨v,w',M',L',h1,h2,h3⟩:=hs w hO
  exact ⟨v,w',M',L',ins_run e4 h1,h2,h3⟩) (by simp only [Prod.mk.injEq];exact ⟨hk,e1,e2,e3⟩)
theorem x_upd (h:List Nat)(s:Sem Unit)(hs:∀ w,Own M W w (xgo P n nS h c).L→∃ w' M' L',s.run P w= .ok () w'/\Own M' w' w' L'/\zF M' P n w' Q (xNx (xgo P n nS h c) L' undef))
  (hkt:(xgl P n nS h c,(xgo P n nS h c).top,zU (xA (xgo P n nS h c)) n (xgo P n nS h c).f (xO (xgo P n nS h c)),xNl (xgo P n nS h c).k,xUpd (ev n (xgo P n nS h c).f) (xO (xgo P n nS h c)))=(xgr P n nS h c,.ops (xA (xgo P n nS h c)) (xO (xgo P n nS h c)::xT (xgo P n nS h c)),true,true,some s):=by kernel_rfl):zF M P n W Q c:=by
 simp only [Prod.mk.injEq] at hkt
 obtain ⟨hk,e1,e2,e3,e4⟩:=hkt
 exact x_opS h (λw hO=>by
  obtain ⟨w',M',L',h1,h2,h3⟩:=hs w hO
  exact ⟨w',M',L',upd_run e4 h1,h2,h3⟩) (by simp only [Prod.mk.injEq];exact ⟨hk,e1,e2,e3⟩)
theorem x_rd (h:List Nat)(s:Sem Value)(v:Value)(hs:∀ w,Own M W w (xgo P n nS h c).L->s.run P w= .ok v w)(hg:zF M P n W Q ((xgo P n nS h c).put v))
  (hkt:(xgl P n nS h c,xW n (xgo P n nS h c),xIns (ev n (xgo P n nS h c).f) (xO (xgo P n nS h c)))=(xgr P n nS h c,true,some s):=by kernel_rfl):zF M P n W Q c:=by
 simp only [Prod.mk.injEq] at hkt
 obtain ⟨hk,e1,e2⟩:=hkt
 exact zL h c hk (put_read e1 (λw hO=>ins_run e2 (hs w hO)) hg)
theorem x_drawF (fu:Fuel1)(m:Nat)(h:List Nat)(hg:zF M P n W Q ⟨.hps ((xDr (x9 P n nS fu h c)).toList.take m).toArray (Array.replicate m false) m (x9 P n nS fu h c).L,.tl (xDr (x9 P n nS fu h c)) ((xDr (x9 P n nS fu h c)).toList.drop m)::(x9 P n nS fu h c).k,(x9 P n nS fu h c).L,(x9 P n nS fu h c).f⟩)
  (hkt:(xl P n nS fu h c,(x9 P n nS fu h c).top,P.follows .mixedOrders,preB .any (xDr (x9 P n nS fu h c)).toList m)=(xr P n nS (fuel12 fu) h c,.code (.region (xId (x9 P n nS fu h c)) (xDr (x9 P n nS fu h c)) true),true,true):=by kernel_rfl):zF M P n W Q c:=by
 simp only [Prod.mk.injEq] at hkt
 obtain ⟨hk,e1,e2,e3⟩:=hkt
 refine xrun_ok fu h c hk ?_
 generalize x9 P n nS fu h c=d at hg e1 e3 ⊢
 generalize xDr d=a at hg e1 e3
 obtain ⟨l,rfl⟩:∃ l:List Oper,a=l.toArray:=⟨a.toList,by simp⟩
 have:d=⟨.code (.region (xId d) l.toArray true),d.k,d.L,d.f⟩:=by rw [←e1]
 rw [this]
 have hg':zF M P n W Q ⟨.hps (l.take m).toArray (Array.replicate m false) m d.L,.tl l.toArray (l.drop m)::d.k,d.L,d.f⟩:=by simpa using hg
 exact ⟨λhq=>ok_drawh m d.L e2 (by simpa using e3) (hg'.go hq λ_ h=>h)⟩
end
end
section
section
variable {M:List Nat}{P:Program}{n:Nat}{W:World}{Q:Exit->Act->World->Prop}{c:Xc}
theorem x_callO {k:FuncId}{args:Array Value}{Rr:Value->List Blk->Prop}(h:List Nat)(L1:List Blk)(hc:∀ w,Own M W w L1->Calls P k args w λe w'=>∃ v L',e= .returned v/\Rr v L'/\Own M W w' L')
  (hg:∀ v L',Rr v L'->zF M P n W Q ⟨.ops (xA (xgo P n nS h c)) (xT (xgo P n nS h c)),(xgo P n nS h c).k,L',upd (xgo P n nS h c).f (xO (xgo P n nS h c)).dst v⟩)
  (hkt:(xgl P n nS h c,(xgo P n nS h c).L,(xgo P n nS h c).top,zU (xA (xgo P n nS h c)) n (xgo P n nS h c).f (xO (xgo P n nS h c)),mB P n (xgo P n nS h c))=(xgr P n nS h c,L1,.ops (xA (xgo P n nS h c)) (xO (xgo P n nS h c)::xT (xgo P n nS h c)),true,λw=> .ok (.enter k args) w):=by kernel_rfl):zF M P n W Q c:=by
 simp only [Prod.mk.injEq] at hkt
 obtain ⟨hk,f1,e1,e3,e4⟩:=hkt
 refine zL h c hk ?_
 generalize xgo P n nS h c=d at*
 have e5:∀ w,(execOp (ev n d.f) (xO d)).run P w= .ok (.enter k args) w:=λw=>by
  have h1:=congrFun e4 w
  unfold mB at h1
  rw [e1] at h1
  dsimp only at h1
  rw [e3] at h1
  exact h1
 have:d=⟨.ops (xA d) (xO d::xT d),d.k,d.L,d.f⟩:=by rw [←e1]
 rw [this]
 rw [←f1] at hc
 exact ⟨λhq=>s_callo Rr e3 e5 hc λv L' k2=>(hg v L' k2).go hq⟩
theorem yN {k:FuncId}{args:Array Value}{Rr:Value->List Blk->Prop}(h:List Nat)(L1 R ob:List Blk)(hs:∀ w,Own M W w L1->Own M W w (R++ob))(hc:∀ w,Own M W w (R++ob)->Calls P k args w λe w'=>∃ v ob',e= .returned v/\Rr v ob'/\Own (ob.map Blk.b) w w' ob')
  (hg:∀ v ob',Rr v ob'->zF M P n W Q ⟨.ops (xA (xgo P n nS h c)) (xT (xgo P n nS h c)),(xgo P n nS h c).k,R++ob',upd (xgo P n nS h c).f (xO (xgo P n nS h c)).dst v⟩)
  (hkt:(xgl P n nS h c,(xgo P n nS h c).L,(xgo P n nS h c).top,zU (xA (xgo P n nS h c)) n (xgo P n nS h c).f (xO (xgo P n nS h c)),mB P n (xgo P n nS h c))=(xgr P n nS h c,L1,.ops (xA (xgo P n nS h c)) (xO (xgo P n nS h c)::xT (xgo P n nS h c)),true,λw=> .ok (.enter k args) w):=by kernel_rfl):zF M P n W Q c:=by
 simp only [Prod.mk.injEq] at hkt
 obtain ⟨hk,f1,e1,e3,e4⟩:=hkt
 refine zL h c hk ?_
 generalize xgo P n nS h c=d at*
 have e5:∀ w,(execOp (ev n d.f) (xO d)).run P w= .ok (.enter k args) w:=λw=>by
  have h1:=congrFun e4 w
  unfold mB at h1
  rw [e1] at h1
  dsimp only at h1
  rw [e3] at h1
  exact h1
 have:d=⟨.ops (xA d) (xO d::xT d),d.k,d.L,d.f⟩:=by rw [←e1]
 rw [this]
 rw [←f1] at hs
 refine ⟨λhq=>mG hs (s_callo (λv L'=>∃ ob',Rr v ob'/\L'=R++ob') e3 e5 (λw hO=>(hc w hO).mono λe w' ⟨v,ob',k1,k2,k3⟩=>⟨v,_,k1,⟨ob',k2,rfl⟩,(Own.back (hO.perm List.perm_append_comm) k3).perm List.perm_append_comm⟩) λv L' ⟨ob',k2,k3⟩=> ?_)⟩
 subst k3
 exact (hg v ob' k2).go hq
theorem xh_callL {k:FuncId}{args:Array Value}{Rr:Value->List Blk->Prop}(L1 R ob L0:List Blk)(hs:∀ w,Own M W w L1->Own M W w (R++ob))(hsub:∀ ob' w,Own M W w (R++ob')->Own M W w L0)(hc:∀ w,Own M W w (R++ob)->Calls P k args w λe w'=>∃ v ob',e= .returned v/\Rr v ob'/\Own (ob.map Blk.b) w w' ob')
  (hg:∀ v ob',Rr v ob'->zF M P n W Q (aNext c (R++ob') v))
  (hkt:(c.L,hL c,c.top,(xA c)[hI c]?,zU (xA c) n c.f (xO c),λw=>(execOp (ev n c.f) (xO c)).run P w)=(L1,L0,.hst (xA c) (hS c) (hU c) (hL c) (hI c),some (xO c),true,λw=> .ok (.enter k args) w):=by kernel_rfl):zF M P n W Q c:=by
 simp only [Prod.mk.injEq] at hkt
 obtain ⟨f1,f2,e1,e2,e3,e4⟩:=hkt
 rw [←f1] at hs
 rw [←f2] at hsub
 have:c=⟨.hst (xA c) (hS c) (hU c) (hL c) (hI c),c.k,c.L,c.f⟩:=by rw [←e1]
 rw [this]
 refine ⟨λhq hs0=>hs_take' hs (hl_callx (xO c) (λv L'=>∃ ob',Rr v ob'/\L'=R++ob') e2 e3 (λw=>congrFun e4 w) (λw hO=>(hc w hO).mono λe w' ⟨v,ob',k1,k2,k3⟩=>⟨v,_,k1,⟨ob',k2,rfl⟩,(Own.back (hO.perm List.perm_append_comm) k3).perm List.perm_append_comm⟩) (λv L' ⟨ob',_,k3⟩ w hO=>hsub ob' w (k3▸hO)) λv L' ⟨ob',k2,k3⟩=> ?_)⟩
 subst k3
 exact (hg v ob' k2).go hq (hsub ob')
theorem x_drawLF (fu:Fuel1)(m:Nat)(h:List Nat)(L0:List Blk)(hs:∀ w,Own M W w (x9 P n nS fu h c).L->Own M W w L0)(hg:zF M P n W Q ⟨.hps ((xDr (x9 P n nS fu h c)).toList.take m).toArray (Array.replicate m false) m L0,.tl (xDr (x9 P n nS fu h c)) ((xDr (x9 P n nS fu h c)).toList.drop m)::(x9 P n nS fu h c).k,(x9 P n nS fu h c).L,(x9 P n nS fu h c).f⟩)
  (hkt:(xl P n nS fu h c,(x9 P n nS fu h c).top,P.follows .mixedOrders,preB .any (xDr (x9 P n nS fu h c)).toList m)=(xr P n nS (fuel12 fu) h c,.code (.region (xId (x9 P n nS fu h c)) (xDr (x9 P n nS fu h c)) true),true,true):=by kernel_rfl):zF M P n W Q c:=by
 simp only [Prod.mk.injEq] at hkt
 obtain ⟨hk,e1,e2,e3⟩:=hkt
 refine xrun_ok fu h c hk ?_
 generalize x9 P n nS fu h c=d at hg hs e1 e3 ⊢
 generalize xDr d=a at hg e1 e3
 obtain ⟨l,rfl⟩:∃ l:List Oper,a=l.toArray:=⟨a.toList,by simp⟩
 have:d=⟨.code (.region (xId d) l.toArray true),d.k,d.L,d.f⟩:=by rw [←e1]
 rw [this]
 have hg':zF M P n W Q ⟨.hps (l.take m).toArray (Array.replicate m false) m L0,.tl l.toArray (l.drop m)::d.k,d.L,d.f⟩:=by simpa using hg
 exact ⟨λhq=>ok_drawh m L0 e2 (by simpa using e3) (hg'.go hq hs)⟩
theorem x_appR {α:Type}{g:α->List Value}{T:TypeId}{sz k cp:Nat}{v:Value}{xs:List Value}{A:Option Addr}(h:List Nat)(l:List α)(E ob R:List Blk)(L1:List Blk)(hs:∀ w,Own M W w L1->Own M W w (E++ob++R))
  (hgl:∀ y,(g y).length=sz) (h1:∀ y,∀ u∈g y,u.oneCell'=true) (hR:∀ w,Own M W w (E++ob++R)->Reads g w w.heap.size A l) (hv:Sl T sz v k xs ob) (hN:k+l.length<=1049000)
  (hg:∀ v' ob',Sl T sz v' (k+l.length) (xs++l.flatMap g) ob'->zF M P n W Q ⟨.ops (xA (xgo P n nS h c)) (xT (xgo P n nS h c)),(xgo P n nS h c).k,E++ob'++R,upd (xgo P n nS h c).f (xO (xgo P n nS h c)).dst v'⟩)
  (hkt:(xgl P n nS h c,(xgo P n nS h c).L,(xgo P n nS h c).top,zU (xA (xgo P n nS h c)) n (xgo P n nS h c).f (xO (xgo P n nS h c)),(xO (xgo P n nS h c)).op,ev n (xgo P n nS h c).f (aX (xO (xgo P n nS h c)) 0),ev n (xgo P n nS h c).f (aX (xO (xgo P n nS h c)) 1),P.underlying (aT (xO (xgo P n nS h c))),aInfo P T)
   =(xgr P n nS h c,L1,.ops (xA (xgo P n nS h c)) (xO (xgo P n nS h c)::xT (xgo P n nS h c)),true,aOp (xO (xgo P n nS h c)),v,.slice A l.length cp,some (.slice T),some (true,sz,some sz)):=by kernel_rfl):zF M P n W Q c:=by
 simp only [Prod.mk.injEq] at hkt
 obtain ⟨hk,f1,e1,e3,e4,e5,e6,e8,e9⟩:=hkt
 refine zL h c hk ?_
 generalize xgo P n nS h c=d at*
 rw [←f1] at hs
 have:d=⟨.ops (xA d) (xO d::xT d),d.k,d.L,d.f⟩:=by rw [←e1]
 rw [this]
 obtain ⟨i,z,hi,hz,hsz,hzs,hby⟩:=aInfo_is e9
 have h63:k+l.length<=maxLen:=by unfold maxLen;omega
 have hbytes:(k+l.length)*i.bytes<=140737488355328:=by have:=Nat.mul_le_mul hN hby;omega
 have hone:∀ u∈l.flatMap g,u.oneCell'=true:=λu hu=>by
  obtain ⟨y,_,hy⟩:=List.mem_flatMap.1 hu
  exact h1 y u hy
 refine ⟨λhq=>mG hs (vC e3 λw hO=> ?_)⟩
 cases A with
 |none=>
  have h0:l=[]:=by
   cases l with
   |nil=>rfl
   |cons y l=>obtain ⟨b,off,e,_⟩:=hR w hO (by simp);cases e
  subst h0
  have hv':Sl T sz v (k+([]:List α).length) (xs++([]:List α).flatMap g) ob:=by simpa using hv
  refine vA v (w':=w) ?_ (((hg v ob hv').go hq).go w hO)
  have hx':ev n d.f (aX (xO d) 1)= .slice none 0 cp:=e6
  unfold execOp
  rw [e4]
  simp only [aOp,resolve,invoke,builtin,Sem.run_bind,Sem.run_pure,Result.andThen_ok,List.map_toArray,List.map_cons,List.map_nil,e5,hx',tQ e8 hi hv cp]
 |some a=>
  have hnews:∀ j u,(l.flatMap g)[j]?=some u->w.cell? (a.add j)=some u:=λj u hj=>by
   have h0:0<l.length:=by
    cases l with
    |nil=>simp at hj
    |cons y l=>simp
   obtain ⟨b,off,e,_,hc⟩:=hR w hO h0
   obtain rfl:=Option.some.inj e
   rw [xP]
   exact hc j u hj
  obtain ⟨v',w',ob',hr,h2,h3⟩:=t8 (P:=P) (ty:=(xO d).type) (c:=cp) e8 hi hz hsz hzs hv hO (jT hgl l) hnews hone h63 hbytes
  refine vA v' (w':=w') ?_ (((hg v' ob' h2).go hq).go w' h3)
  unfold execOp
  rw [e4]
  simp only [aOp,resolve,invoke,builtin,Sem.run_bind,Sem.run_pure,Result.andThen_ok,List.map_toArray,List.map_cons,List.map_nil,e5,e6,hr]
end
end
section
def sT (o:Oper):TypeId:=match o.op with
 | .store T _ _=>T
 |_=>0
def sP (o:Oper):Operand:=match o.op with
 | .store _ p _=>p
 |_=> .tmp 0
def sQ (o:Oper):Operand:=match o.op with
 | .store _ _ q=>q
 |_=> .tmp 0
def sDn (o:Oper):Bool:=o.dst.isNone
theorem sDn_is {o:Oper}(h:sDn o=true):o.dst=none:=by
 unfold sDn at h
 cases hd:o.dst with
 |none=>rfl
 |some d=>rw [hd] at h;cases h
section
variable {M:List Nat}{P:Program}{n:Nat}{ops:Array Oper}{W:World}{L L0:List Blk}{Q:Exit->Act->World->Prop}{fuel:Nat}{listed:Array Bool}{f:Nat->Value}
theorem hl_storeS {i:Nat}(oi:Oper)(k:Nat)(x:Blk){T:TypeId}{p q:Operand}{off:Nat}(v:Value)(sz:Nat)(hi':ops[i]?=some oi)(hw:zU ops n f oi=true)(ho:oi.op= .store T p q)(hd:oi.dst=none)(hL:L[k]?=some x)
  (hp:ev n f p= .pointer (some ⟨x.b,off,none⟩)) (hq:ev n f q=v) (hz:(P.info? T).map (·.size)=some sz) (hs:v.cells.size=sz) (hle:off+sz<=x.cs.size) (h1:(v.cells.toList.all λu=>u.oneCell')=true)
  (hsub:∀ w,Own M W w (L.set k ⟨x.b,zW x.cs off v.cells,x.ty⟩)->Own M W w L0)
  (h:pQ M P n ops W L0 Q fuel (listed.setIfInBounds i true) (L.set k ⟨x.b,zW x.cs off v.cells,x.ty⟩) f):tU M P n ops W L0 Q fuel listed i L f:=
 hs_step hi' hw λw hO=>by
  cases ht:P.info? T with
  |none=>rw [ht] at hz;cases hz
  |some t=>
   rw [ht] at hz
   have et:t.size=sz:=Option.some.inj hz
   have hst:=run_storeCells_at (P:=P) x.b off x.ty v.cells.toList 0 x.cs w (hO.get hL) (by simp;omega) (List.all_eq_true.1 h1)
   have hO':=hO.put hL (zW x.cs off v.cells)
   unfold Oper.wp
   rw [kU]
   have hr:(execOp (ev n f) oi).run P w= .ok .skip (w.setRow x.b (zW x.cs off v.cells)):=by
    unfold execOp
    simp only [ho,hp,hq,Instr.storeAt,Instr.sureAddr,Sem.run_bind,Sem.run_pure,Result.andThen_ok,storeVar,sizeOf,typeInfo,ht,hs,et,run_program]
    simp only [ne_eq,not_true_eq_false,if_false]
    have:(storeCells ⟨x.b,off,none⟩ v.cells.toList).run P w= .ok () (w.setRow x.b (zW x.cs off v.cells)):=by
     rw [hst];unfold zW;simp
    simp [this]
   rw [hr]
   show Own M W _ L0/\wpAnyH P .any ops Q (λw=>Own M W w L0) fuel (listed.setIfInBounds i true) ((Fr n f).put oi.dst undef) _
   rw [vW,hd]
   exact ⟨hsub _ hO',h.go _ hO'⟩
end
section
variable {M:List Nat}{P:Program}{n:Nat}{W:World}{Q:Exit->Act->World->Prop}{c:Xc}
theorem x_sto (q:Nat)(x:Blk)(off sz:Nat)(v:Value)(L1:List Blk)(hle:off+sz<=x.cs.size)(hg:zF M P n W Q ⟨.ops (xA c) (xT c),c.k,L1.set q ⟨x.b,zW x.cs off v.cells,x.ty⟩,c.f⟩)
  (hkt:(c.L,c.top,zU (xA c) n c.f (xO c),(xO c).op,sDn (xO c),ev n c.f (sP (xO c)),ev n c.f (sQ (xO c)),L1[q]?,(P.info? (sT (xO c))).map (·.size),v.cells.size,v.cells.toList.all λu=>u.oneCell')
   =(L1,.ops (xA c) (xO c::xT c),true,.store (sT (xO c)) (sP (xO c)) (sQ (xO c)),true,.pointer (some ⟨x.b,off,none⟩),v,some x,some sz,sz,true):=by kernel_rfl):zF M P n W Q c:=by
 simp only [Prod.mk.injEq] at hkt
 obtain ⟨f1,e1,e2,e3,e4,e5,e6,e7,e8,e9,e10⟩:=hkt
 have:c=⟨.ops (xA c) (xO c::xT c),c.k,L1,c.f⟩:=by rw [←e1,←f1]
 rw [this]
 exact ⟨λhq=>s_storeS q x v sz e2 e3 (sDn_is e4) e7 e5 e6 e8 e9 hle e10 (hg.go hq)⟩
theorem xh_sto (q:Nat)(x:Blk)(off sz:Nat)(v:Value)(L1 L0:List Blk)(hle:off+sz<=x.cs.size)(hsub:∀ w,Own M W w (L1.set q ⟨x.b,zW x.cs off v.cells,x.ty⟩)->Own M W w L0)
  (hg:zF M P n W Q ⟨.hps (xA c) ((hS c).setIfInBounds (hI c) true) (hU c) (hL c),c.k,L1.set q ⟨x.b,zW x.cs off v.cells,x.ty⟩,c.f⟩)
  (hkt:(c.L,hL c,c.top,(xA c)[hI c]?,zU (xA c) n c.f (xO c),(xO c).op,sDn (xO c),ev n c.f (sP (xO c)),ev n c.f (sQ (xO c)),L1[q]?,(P.info? (sT (xO c))).map (·.size),v.cells.size,v.cells.toList.all λu=>u.oneCell')
   =(L1,L0,.hst (xA c) (hS c) (hU c) (hL c) (hI c),some (xO c),true,.store (sT (xO c)) (sP (xO c)) (sQ (xO c)),true,.pointer (some ⟨x.b,off,none⟩),v,some x,some sz,sz,true):=by kernel_rfl):zF M P n W Q c:=by
 simp only [Prod.mk.injEq] at hkt
 obtain ⟨f1,f2,e1,e0,e2,e3,e4,e5,e6,e7,e8,e9,e10⟩:=hkt
 have:c=⟨.hst (xA c) (hS c) (hU c) (hL c) (hI c),c.k,L1,c.f⟩:=by rw [←e1,←f1]
 rw [←f2] at hsub
 rw [this]
 exact ⟨λhq hs=>hl_storeS (xO c) q x v sz e0 e2 e3 (sDn_is e4) e7 e5 e6 e8 e9 hle e10 hsub (hg.go hq hsub)⟩
theorem xh_seqv (t:Nat)(h:List Nat)(i:Nat)(a b:YL)(hg:zF M P n W Q (xHn (xgo P n t h c) i (.bool (decide (a=b)))))
  (hkt:(xgl P n t h c,tN n i (xgo P n t h c),(xOi i (xgo P n t h c)).op,ev n (xgo P n t h c).f (oX (xOi i (xgo P n t h c))),ev n (xgo P n t h c).f (oY (xOi i (xgo P n t h c))))
   =(xgr P n t h c,fR i (xgo P n t h c),.binOp .eql (oT (xOi i (xgo P n t h c))) (oX (xOi i (xgo P n t h c))) (oY (xOi i (xgo P n t h c))) (oU (xOi i (xgo P n t h c))),.string (mkS a),.string (mkS b)):=by kernel_rfl):zF M P n W Q c:=by
 simp only [Prod.mk.injEq] at hkt
 obtain ⟨hk,e1,e2,e3,e4⟩:=hkt
 exact zL h c hk (xtake (λw _=>gN e2 e3 e4 rfl w) hg e1)
theorem xh_sllo (t:Nat)(h:List Nat)(i:Nat){A:Option Addr}{b off:Nat}(hA:A=some ⟨b,off,none⟩)(N cp sz:Nat)(j:Int)(h0:0<=j)(h1:j<=N)(v:Value)(hv: .slice (some ⟨b,off+(if cp=j.toNat then 0 else j.toNat*sz),none⟩) (N-j.toNat) (cp-j.toNat)=v)(hg:zF M P n W Q (xHn (xgo P n t h c) i v))
  (hkt:(xgl P n t h c,tN n i (xgo P n t h c),(slQ (xOi i (xgo P n t h c))).2.2.2,ev n (xgo P n t h c).f (slQ (xOi i (xgo P n t h c))).2.1,ev n (xgo P n t h c).f (slQ (xOi i (xgo P n t h c))).2.2.1,P.underlying (slQ (xOi i (xgo P n t h c))).1,(P.info? (xEl P (slQ (xOi i (xgo P n t h c))).1)).map (·.size))
   =(xgr P n t h c,fR i (xgo P n t h c),true,.slice A N cp,YI j,some (.slice (xEl P (slQ (xOi i (xgo P n t h c))).1)),some sz):=by kernel_rfl):zF M P n W Q c:=by
 simp only [Prod.mk.injEq] at hkt
 obtain ⟨hk,e1,e2,e3,e4,e5,e6⟩:=hkt
 subst hA
 exact zL h c hk (xtake (λw _=>by rw [run_sllo (slQ_op e2) e3 e4 e5 e6 h0 h1 w,hv]) hg e1)
theorem xh_slhi (t:Nat)(h:List Nat)(i:Nat){A:Option Addr}{b off:Nat}(hA:A=some ⟨b,off,none⟩)(N cp sz:Nat)(j:Int)(h0:0<=j)(h1:j<=cp)(v:Value)(hv: .slice (some ⟨b,off,none⟩) j.toNat cp=v)(hg:zF M P n W Q (xHn (xgo P n t h c) i v))
  (hkt:(xgl P n t h c,tN n i (xgo P n t h c),(shQ (xOi i (xgo P n t h c))).2.2.2,ev n (xgo P n t h c).f (shQ (xOi i (xgo P n t h c))).2.1,ev n (xgo P n t h c).f (shQ (xOi i (xgo P n t h c))).2.2.1,P.underlying (shQ (xOi i (xgo P n t h c))).1,(P.info? (xEl P (shQ (xOi i (xgo P n t h c))).1)).map (·.size))
   =(xgr P n t h c,fR i (xgo P n t h c),true,.slice A N cp,YI j,some (.slice (xEl P (shQ (xOi i (xgo P n t h c))).1)),some sz):=by kernel_rfl):zF M P n W Q c:=by
 simp only [Prod.mk.injEq] at hkt
 obtain ⟨hk,e1,e2,e3,e4,e5,e6⟩:=hkt
 subst hA
 exact zL h c hk (xtake (λw _=>by rw [run_slhi (shQ_op e2) e3 e4 e5 e6 h0 h1 w,hv]) hg e1)
end
end
section
set_option linter.unnecessarySimpa false
def PutR (v:Value)(l:List YL)(s:YL)(v':Value)(ob:List Blk):Prop:=(v'=v/\putT l s=l/\ob=[])\/SlT v' (putT l s) ob
end
section
def nmF (k:Nat):YL:=if k=0 then dfl else if k=1 then [120] else if k=2 then [121] else [122]
def ItemG (needs:List Nv)(keep:Nat->Bool)(s:YL):Prop:=
 (∃ m∈needs,¬ m.opt=[]/\s=[63]++m.opt)\/(∃ m∈needs,∃ w,m.any=[w]/\s=w.name++[47]++[120])∨∃ j,j<4/\keep j=true/\s=nmF j
structure OfG (needs:List Nv)(keep:Nat->Bool)(l:List YL)(b:Nat):Prop where
 rise:qX l=true
 len:l.length<=b
 all:∀ s∈l,ItemG needs keep s
structure FeatsG (needs:List Nv)(keep:Nat->Bool)(k:Nat)(xs:List Fv):Prop where
 names:xs.map Fv.name=((List.range k).filter keep).map nmF
 each:∀ x∈xs,OfG needs keep x.of 5
structure OfS (A:Option Addr)(c:Nat)(l:List YL)(o3:List Blk):Prop where
 ex:∃ o,SlT (.slice A l.length c) l o∧∀ b∈o,b∈o3
 bare:l=[]->A=none/\c=0
structure FtO (A:Option Addr)(c:Nat)(xs:List Fv)(o7 o2:List Blk):Prop where
 top:Sl 79 2 (.slice A xs.length c) xs.length (xs.flatMap fvC) o7
 each:∀ x∈xs,∃ o,SlT (.slice x.A x.of.length x.cap) x.of o∧∀ b∈o,b∈o2
theorem FtO.nil:FtO none 0 [] [] []:=⟨Sl.nil _ _,λx h=>by simp at h⟩
theorem FtO.more {A:Option Addr}{c:Nat}{xs:List Fv}{o7 o2 o2':List Blk}(h:FtO A c xs o7 o2)(hs:∀ b∈o2,b∈o2'):FtO A c xs o7 o2':=⟨h.top,λx hx=>by
 obtain ⟨o,h1,h2⟩:=h.each x hx
 exact ⟨o,h1,λb hb=>hs b (h2 b hb)⟩⟩
theorem FtO.add {A A':Option Addr}{c c':Nat}{xs:List Fv}{o7 o7' o2:List Blk}{x:Fv}(h:FtO A c xs o7 o2)(ht:Sl 79 2 (.slice A' (xs.length+1) c') (xs.length+1) (xs.flatMap fvC++fvC x) o7')(hx:∃ o,SlT (.slice x.A x.of.length x.cap) x.of o∧∀ b∈o,b∈o2):FtO A' c' (xs++[x]) o7' o2:=
 ⟨by rw [List.length_append,List.length_singleton,List.flatMap_append,List.flatMap_singleton];exact ht,λy hy=>by
  rcases List.mem_append.1 hy with hy|hy
  ·exact h.each y hy
  ·rw [List.mem_singleton.1 hy];exact hx⟩
end
section
theorem wC (x:Nv):(nvC x).length=3:=rfl
theorem wvC_len (x:Wv):(wvC x).length=4:=rfl
abbrev G8b (b:Nat):Blk:=⟨b, #[.string (mkS dfl),.string (mkS [120]),.string (mkS [121]),.string (mkS [122])],143⟩
abbrev G0b (b:Nat)(nm pre bld:YL)(a1 a2 a3:Int)(nA:Option Addr)(nc:Nat)(needs:List Nv)(vb vf:Value):Blk:=⟨b, #[.string (mkS nm),YI a1,YI a2,YI a3,.string (mkS pre),.string (mkS bld),.slice nA needs.length nc,vb,vf],29⟩
abbrev GBb (b k:Nat)(A:Option Addr)(n c:Nat):Blk:=⟨b, #[.string (mkS (nmF k)),.slice A n c],79⟩
end
section
structure Bv where
 name:YL
 rng:YL
 wh:YL
def bvC (x:Bv):List Value:=[.string (mkS x.name),.string (mkS x.rng),.string (mkS x.wh)]
structure BarG (own:Nat)(x:Bv):Prop where
 name:∃ k,k<4/\x.name=nameT ((own+1+k) % 5)
 rng:FewT x.rng
 wh:WhenT x.wh
structure NsO (A:Option Addr)(c:Nat)(xs:List Nv)(o1 o2:List Blk):Prop where
 top:Sl 75 3 (.slice A xs.length c) xs.length (xs.flatMap nvC) o1
 each:∀ x∈xs,∃ o,WsO x.A x.cap x.any o∧∀ b∈o,b∈o2
theorem NsO.nil:NsO none 0 [] [] []:=⟨Sl.nil _ _,λx h=>by simp at h⟩
structure Rv where
 name:YL
 maj:Int
 min:Int
 pat:Int
 pre:YL
 bld:YL
 nA:Option Addr
 nc:Nat
 needs:List Nv
 bA:Option Addr
 bc:Nat
 bars:List Bv
 fA:Option Addr
 fc:Nat
 fts:List Fv
def rvC (x:Rv):List Value:=[.string (mkS x.name),YI x.maj,YI x.min,YI x.pat,.string (mkS x.pre),.string (mkS x.bld),.slice x.nA x.needs.length x.nc,.slice x.bA x.bars.length x.bc,.slice x.fA x.fts.length x.fc]
def rvV (x:Rv):Value:= .agg #[.string (mkS x.name),YI x.maj,YI x.min,YI x.pat,.string (mkS x.pre),.string (mkS x.bld),.slice x.nA x.needs.length x.nc,.slice x.bA x.bars.length x.bc,.slice x.fA x.fts.length x.fc]
def PbG (pre bld:YL):Prop:=(pre=[]/\bld=[])\/(pre=[114,99,46,49]/\bld=[])\/(pre=[]/\bld=[55])
structure RecG (own:Nat)(keep:Nat->Bool)(x:Rv):Prop where
 name:x.name=nameT (own % 5)
 ver:∃ a b:Nat,a<3/\b<2/\x.maj=a/\x.min=b/\x.pat=0
 pb:PbG x.pre x.bld
 nlen:x.needs.length<=2
 needs:∀ m∈x.needs,NeedG own m
 blen:x.bars.length<=1
 bars:∀ b∈x.bars,BarG own b
 fts:FeatsG x.needs keep 4 x.fts
structure RecO (x:Rv)(ob:List Blk):Prop where
 ex:∃ o1 o2 o4 o7 o8,ob=o4++(o1++o2)++(o7++o8)/\NsO x.nA x.nc x.needs o1 o2/\Sl 77 3 (.slice x.bA x.bars.length x.bc) x.bars.length (x.bars.flatMap bvC) o4/\FtO x.fA x.fc x.fts o7 o8
theorem NsO.reads {A:Option Addr}{c:Nat}{xs:List Nv}{o1 o2 L:List Blk}{M:List Nat}{W w:World}(h:NsO A c xs o1 o2)(hO:Own M W w L)(h1:∀ b∈o1,b∈L)(h2:∀ b∈o2,b∈L):Reads nvC w w.heap.size A xs∧∀ m∈xs,Reads wvC w w.heap.size m.A m.any:=
 ⟨Sl.reads h.top rfl hO h1,λm hm=>by
  obtain ⟨o,⟨⟨p1,p2,rfl,hp,_⟩⟩,ho⟩:=h.each m hm
  exact Sl.reads hp rfl hO λb hb=>h2 b (ho b (List.mem_append_left _ hb))⟩
def NeedR (own:Nat)(v:Value)(ob:List Blk):Prop:=∃ x,v=nvV x/\NeedG own x/\WsO x.A x.cap x.any ob
end
end Go.Proofs.YtobimfnmnkegdaaGreatDoor
