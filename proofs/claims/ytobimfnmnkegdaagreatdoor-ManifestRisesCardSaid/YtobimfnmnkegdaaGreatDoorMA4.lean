import Derived.Laws.BitsAllLaws
import Derived.Laws.Entries
import Derived.Laws.IdiomStrings
import Derived.Scope
import Derived.Lib.SplitLaws
import Derived.Lib.TrimByte
import Derived.Lib.Join
import Derived.Lib.MakeNoZero
import Derived.Laws.IdiomCopy
import Derived.Shelf.Strings.SplitCore
import Derived.Lib.OthersKept
import Derived.Lib.IndexBytes
import Derived.Test.YtobimfnmnkegdaaGreatDoorMA3
set_option maxRecDepth 1000000
set_option maxHeartbeats 8000000
set_option linter.unusedVariables false
set_option linter.unusedSimpArgs false
set_option linter.unnecessarySimpa false
namespace Go.Proofs.YtobimfnmnkegdaaGreatDoor
open Go.RowKit

section
structure Nv where
 A:Option Addr
 cap:Nat
 any:List Wv
 wh:YL
 opt:YL
def nvC (x:Nv):List Value:=[.slice x.A x.any.length x.cap,.string (mkS x.wh),.string (mkS x.opt)]
def nvV (x:Nv):Value:= .agg #[.slice x.A x.any.length x.cap,.string (mkS x.wh),.string (mkS x.opt)]
structure WsO (A:Option Addr)(cap:Nat)(xs:List Wv)(ob:List Blk):Prop where
 ex:∃ o1 o2,ob=o1++o2/\Sl 134 4 (.slice A xs.length cap) xs.length (xs.flatMap wvC) o1∧∀ x∈xs,∃ o,SlT (.slice x.A x.fs.length x.cap) x.fs o∧∀ b∈o,b∈o2
structure NeedG (own:Nat)(x:Nv):Prop where
 any:(∃ w,x.any=[w]/\tB own true w)∨∃ w u,x.any=[w,u]/\tB own false w/\tB own false u
 wh:WhenT x.wh
 opt:x.opt=[]∨∃ j,j<4/\x.opt=gW j
def WishR (own:Nat)(alone:Bool)(v:Value)(ob:List Blk):Prop:=∃ x,v=wvV x/\tB own alone x/\SlT (.slice x.A x.fs.length x.cap) x.fs ob
theorem wish_R {v:Value}{l:List Int}{i own:Nat}{alone:Bool}{W w:World}(hb:YB W w)(hv:ReadsI W W.heap.size v l)(hl:l.length<=9223372036854775807)(hi:i<=50000)(ho:own<=50000):YC 83 #[v,YI (i:Int),YI (own:Int),.bool alone] w λe w'=>∃ v ob,e= .returned v/\WishR own alone v ob/\Own [] w w' ob:=
 (wish_gen v l i own alone w ((hv.below hb).more hb.size) hl hi ho).mono λe w' ⟨x,ob,h1,h2,h3⟩=>⟨_,ob,h1,⟨x,rfl,h2⟩,h3⟩
theorem need_gen (v:Value)(l:List Int)(i own:Nat)(W:World)(hv:ReadsI W W.heap.size v l)(hl:l.length<=9223372036854775807)(hi:i<=5000)(ho:own<=5000):YC 40 #[v,YI (i:Int),YI (own:Int)] W λe w'=>∃ x ob,e= .returned (nvV x)/\(NeedG own x/\WsO x.A x.cap x.any ob)/\Own [] W w' ob:=by
 obtain ⟨m,hm,hm5⟩:=yO (atL l i) 5 (by decide)
 obtain ⟨q,hq,hq4⟩:=yO (atL l (i+16)) 4 (by decide)
 obtain ⟨j,hj4,hj⟩:=wordT_any (atL l (i+17))
 have f1:=xG hv hl i 5 Om (by decide) (by decide) hm
 have f2:=xG hv hl (i+16) 4 Om (by decide) (by decide) hq
 have fa:∀ w,YB W w->YC 57 #[v,YI ((i+17:Nat):Int)] w (YR (YI (atL l (i+17))) w):=λw hb=>(at_any v l (i+17) w ((hv.below hb).more hb.size) hl Om).mono λ_ _ ⟨e1,e2⟩=>⟨e1,e2▸Below.refl _ _⟩
 have ho':own<=50000:=by omega
 refine zF Tryz.func40 (zQ [] λb1=>zQ [] λb2=>z7 [] (λw hO=>f1 w hO.below) (zG 13 [] ((m:Int)=1) (λh1=> ?_) (λh1=> ?_)))
 ·refine x_rounds 2 [] (kS 14 [] [⟨b2,ZM,75⟩] (λw hO=>hO.nth 0 _) (x_i 23 [0] ((i+1:Nat):Int) (x_i 26 [] ((i+1:Nat):Int) (yJ [] 11 (qE (R:=WishR own false) (λw hO=>wish_R (i:=i+1) hO.below hv hl Om ho') ?_)))))
  rintro _ ob ⟨x,rfl,hx,hxs⟩
  refine yJ [] 12 (gZ 1 134 (wvV x).cells λb3=>yJ [] 13 (vH [⟨b3,(wvV x).cells,134⟩,⟨b2,ZM,75⟩,⟨b1,ZM,75⟩] [] (ob) 0 ([⟨b3,(wvV x).cells,134⟩,⟨b2,ZM,75⟩,⟨b1,ZM,75⟩]++ob) [⟨b2,ZM,75⟩] (λw hO=>by simpa using hO) (λo w hO=>hO.nth 1 _) (Sl.nil 134 4) (m:=1) (cp:=1) Om λv' o' h=> ?_))
  obtain ⟨A',c',rfl⟩:=Sl.form h
  refine (kS 14 [1] [⟨b2, #[.slice A' 1 c',.string ⟨#[]⟩,.string ⟨#[]⟩],75⟩] (λw hO=>hO.nth 1 _) (x_i 23 [0] ((i+1:Nat):Int) (x_i 26 [] ((i+7:Nat):Int) (yJ [] 11 (qE (R:=WishR own false) (λw hO=>wish_R (i:=i+7) hO.below hv hl Om ho') ?_)))))
  rintro _ ob2 ⟨y,rfl,hy,hys⟩
  refine yJ [] 12 (gZ 1 134 (wvV y).cells λb4=>yJ [] 13 (vH [⟨b4,(wvV y).cells,134⟩,⟨b3,(wvV x).cells,134⟩,⟨b2, #[.slice A' 1 c',.string ⟨#[]⟩,.string ⟨#[]⟩],75⟩,⟨b1,ZM,75⟩] o' (ob++ob2) 0 (⟨b4,(wvV y).cells,134⟩::(([⟨b3,(wvV x).cells,134⟩,⟨b2, #[.slice A' 1 c',.string ⟨#[]⟩,.string ⟨#[]⟩],75⟩,⟨b1,ZM,75⟩]++o'++ob)++ob2)) [⟨b2, #[.slice A' 1 c',.string ⟨#[]⟩,.string ⟨#[]⟩],75⟩] (λw hO=>by simpa [List.append_assoc] using hO) (λo w hO=>hO.nth 2 _) h (m:=1) (cp:=1) Om λv2 o2 h'=> ?_))
  obtain ⟨A2,c2,rfl⟩:=Sl.form h'
  refine x_i 36 [2] ((i+14:Nat):Int) (bD (R:=λv=>∃ t,WhenT t/\v= .string (mkS t)) [] (λw hO=>(when_gen v l (i+14) w ((hv.below hO.below).more hO.size) hl Om).mono λe w' ⟨t,h1,h2,h3⟩=>⟨_,h2,⟨t,h1,rfl⟩,h3⟩) ?_)
  rintro _ ⟨t,ht,rfl⟩
  refine x_i 41 [2] ((i+16:Nat):Int) (z7 [] (λw hO=>f2 w hO.below) (zG 43 [] ((q:Int)=1) (λh2=> ?_) (λh2=> ?_)))
  ·exact x_i 46 [] ((i+17:Nat):Int) (z7 [] (λw hO=>fa w hO.below) (z7 [] (λw hO=>hj w) (dR [2,2,3] 3 (nvV ⟨A2,c2,[x,y],t,gW j⟩) λw hO=>⟨_,_,rfl,⟨⟨.inr ⟨x,y,rfl,hx,hy⟩,ht,.inr ⟨j,hj4,rfl⟩⟩,⟨o2,ob++ob2,rfl,h',λz hz=>by
    rcases List.mem_cons.1 hz with rfl|hz
    ·exact ⟨ob,hxs,λb hb=>List.mem_append_left _ hb⟩
    ·rw [List.mem_singleton.1 hz];exact ⟨ob2,hys,λb hb=>List.mem_append_right _ hb⟩⟩⟩,hO.past 4 _⟩)))
  ·exact dR [2,3] 3 (nvV ⟨A2,c2,[x,y],t,[]⟩) λw hO=>⟨_,_,rfl,⟨⟨.inr ⟨x,y,rfl,hx,hy⟩,ht,.inl rfl⟩,⟨o2,ob++ob2,rfl,h',λz hz=>by
    rcases List.mem_cons.1 hz with rfl|hz
    ·exact ⟨ob,hxs,λb hb=>List.mem_append_left _ hb⟩
    ·rw [List.mem_singleton.1 hz];exact ⟨ob2,hys,λb hb=>List.mem_append_right _ hb⟩⟩⟩,hO.past 4 _⟩
 ·refine x_rounds 1 [] (kS 14 [] [⟨b2,ZM,75⟩] (λw hO=>hO.nth 0 _) (x_i 23 [0] ((i+1:Nat):Int) (x_i 26 [] ((i+1:Nat):Int) (yJ [] 11 (qE (R:=WishR own true) (λw hO=>wish_R (i:=i+1) hO.below hv hl Om ho') ?_)))))
  rintro _ ob ⟨x,rfl,hx,hxs⟩
  refine yJ [] 12 (gZ 1 134 (wvV x).cells λb3=>yJ [] 13 (vH [⟨b3,(wvV x).cells,134⟩,⟨b2,ZM,75⟩,⟨b1,ZM,75⟩] [] (ob) 0 ([⟨b3,(wvV x).cells,134⟩,⟨b2,ZM,75⟩,⟨b1,ZM,75⟩]++ob) [⟨b2,ZM,75⟩] (λw hO=>by simpa using hO) (λo w hO=>hO.nth 1 _) (Sl.nil 134 4) (m:=1) (cp:=1) Om λv' o' h=> ?_))
  obtain ⟨A',c',rfl⟩:=Sl.form h
  refine x_i 36 [1] ((i+14:Nat):Int) (bD (R:=λv=>∃ t,WhenT t/\v= .string (mkS t)) [] (λw hO=>(when_gen v l (i+14) w ((hv.below hO.below).more hO.size) hl Om).mono λe w' ⟨t,h1,h2,h3⟩=>⟨_,h2,⟨t,h1,rfl⟩,h3⟩) ?_)
  rintro _ ⟨t,ht,rfl⟩
  refine x_i 41 [1] ((i+16:Nat):Int) (z7 [] (λw hO=>f2 w hO.below) (zG 43 [] ((q:Int)=1) (λh2=> ?_) (λh2=> ?_)))
  ·exact x_i 46 [] ((i+17:Nat):Int) (z7 [] (λw hO=>fa w hO.below) (z7 [] (λw hO=>hj w) (dR [1,1,2] 2 (nvV ⟨A',c',[x],t,gW j⟩) λw hO=>⟨_,_,rfl,⟨⟨.inl ⟨x,rfl,hx⟩,ht,.inr ⟨j,hj4,rfl⟩⟩,⟨o',ob,rfl,h,λy hy=>⟨ob,by rw [List.mem_singleton.1 hy];exact hxs,λb hb=>hb⟩⟩⟩,hO.past 3 _⟩)))
  ·exact dR [1,2] 2 (nvV ⟨A',c',[x],t,[]⟩) λw hO=>⟨_,_,rfl,⟨⟨.inl ⟨x,rfl,hx⟩,ht,.inl rfl⟩,⟨o',ob,rfl,h,λy hy=>⟨ob,by rw [List.mem_singleton.1 hy];exact hxs,λb hb=>hb⟩⟩⟩,hO.past 3 _⟩
end
section
section
variable {M:List Nat}{P:Program}{n:Nat}{ops:Array Oper}{W:World}{L0:List Blk}{Q:Exit->Act->World->Prop}{fuel:Nat}{listed:Array Bool}{f:Nat->Value}
theorem hl_appendR {α:Type}{g:α->List Value}{i0:Nat}{E ob R:List Blk}(oi:Oper){t T:TypeId}{s x:Operand}{i:TypeInfo}{z:Value}{sz:Nat}(hg:∀ y,(g y).length=sz)(hi0:ops[i0]?=some oi)(hw:zR ops n f oi=true)(ho:oi.op= .call {callee:= .builtin .append,args:= #[s,x],argTypes:= #[t,t]})
  (ht:P.underlying t=some (.slice T)) (hi:P.info? T=some i) (hz:i.zero=some z) (hsz:i.size=sz) (hzs:z.cells.size=sz)
  {v:Value} {m0:Nat} {xs:List Value} (hs:ev n f s=v) (hv:Sl T sz v m0 xs ob) {A:Option Addr} {c:Nat} {l:List α} (hx:ev n f x= .slice A l.length c)
  (hR:∀ w,Own M W w (E++ob++R)->Reads g w w.heap.size A l) (h1:∀ y,∀ u∈g y,u.oneCell'=true)
  (h63:m0+l.length<=maxLen) (hbytes:(m0+l.length)*i.bytes<=140737488355328) (hsub:∀ ob' w,Own M W w (E++ob'++R)->Own M W w L0)
  (h:∀ v' ob',Sl T sz v' (m0+l.length) (xs++l.flatMap g) ob'->jN M P n ops W L0 Q fuel (listed.setIfInBounds i0 true) (E++ob'++R) (upd f oi.dst v')):dC M P n ops W L0 Q fuel listed i0 (E++ob++R) f:=
 mI hi0 hw λw hO=>by
  have hone:∀ u∈l.flatMap g,u.oneCell'=true:=λu hu=>by
   obtain ⟨y,_,hy⟩:=List.mem_flatMap.1 hu
   exact h1 y u hy
  cases A with
  |none=>
   have h0:l=[]:=by
    cases l with
    |nil=>rfl
    |cons y l=>obtain ⟨b,off,e,_⟩:=hR w hO (by simp);cases e
   subst h0
   have hv':Sl T sz v (m0+([]:List α).length) (xs++([]:List α).flatMap g) ob:=by simpa using hv
   refine kA v (w':=w) ?_ ⟨hsub ob w hO,(h v ob hv').go w hO⟩
   have hx':ev n f x= .slice none 0 c:=hx
   unfold execOp
   simp only [ho,resolve,invoke,builtin,Sem.run_bind,Sem.run_pure,Result.andThen_ok,List.map_toArray,List.map_cons,List.map_nil,hs,hx',n5 ht hi hv c]
  |some a=>
   have hnews:∀ j u,(l.flatMap g)[j]?=some u->w.cell? (a.add j)=some u:=λj u hj=>by
    have h0:0<l.length:=by
     cases l with
     |nil=>simp at hj
     |cons y l=>simp
    obtain ⟨b,off,e,_,hc⟩:=hR w hO h0
    obtain rfl:=Option.some.inj e
    rw [yX]
    exact hc j u hj
   obtain ⟨v',w',ob',hr,h2,h3⟩:=bW (P:=P) (ty:=oi.type) (c:=c) ht hi hz hsz hzs hv hO (vN hg l) hnews hone h63 hbytes
   refine kA v' (w':=w') ?_ ⟨hsub ob' w' h3,(h v' ob' h2).go w' h3⟩
   unfold execOp
   simp only [ho,resolve,invoke,builtin,Sem.run_bind,Sem.run_pure,Result.andThen_ok,List.map_toArray,List.map_cons,List.map_nil,hs,hx,hr]
end
section
variable {M:List Nat}{P:Program}{n:Nat}{W:World}{Q:Exit->Act->World->Prop}{c:Xc}
theorem qO {α:Type}{g:α->List Value}{T:TypeId}{sz k cp:Nat}{v:Value}{xs:List Value}{A:Option Addr}(l:List α)(E ob R:List Blk)(L1 L0:List Blk)(hs:∀ w,Own M W w L1->Own M W w (E++ob++R))(hsub:∀ ob' w,Own M W w (E++ob'++R)->Own M W w L0)
  (hgl:∀ y,(g y).length=sz) (h1:∀ y,∀ u∈g y,u.oneCell'=true) (hR:∀ w,Own M W w (E++ob++R)->Reads g w w.heap.size A l) (hv:Sl T sz v k xs ob) (hN:k+l.length<=1048576)
  (hg:∀ v' ob',Sl T sz v' (k+l.length) (xs++l.flatMap g) ob'->zE M P n W Q (aNext c (E++ob'++R) v'))
  (hkt:(c.L,hL c,c.top,(xA c)[hI c]?,zR (xA c) n c.f (xO c),(xO c).op,ev n c.f (aX (xO c) 0),ev n c.f (aX (xO c) 1),P.underlying (aT (xO c)),aInfo P T)
   =(L1,L0,.hst (xA c) (hS c) (hU c) (hL c) (hI c),some (xO c),true,aOp (xO c),v,.slice A l.length cp,some (.slice T),some (true,sz,some sz)):=by kernel_rfl):zE M P n W Q c:=by
 simp only [Prod.mk.injEq] at hkt
 obtain ⟨f1,f2,e1,e2,e3,e4,e5,e6,e8,e9⟩:=hkt
 rw [←f1] at hs
 rw [←f2] at hsub
 have:c=⟨.hst (xA c) (hS c) (hU c) (hL c) (hI c),c.k,c.L,c.f⟩:=by rw [←e1]
 rw [this]
 obtain ⟨i,z,hi,hz,hsz,hzs,hby⟩:=nZ e9
 refine ⟨λhq hs0=>hs_take' hs (hl_appendR (E:=E) (ob:=ob) (R:=R) (xO c) hgl e2 e3 e4 e8 hi hz hsz hzs e5 hv e6 hR h1 ?_ ?_ hsub λv' ob' h=>(hg v' ob' h).go hq (hsub ob'))⟩
 ·unfold maxLen;omega
 ·have:=Nat.mul_le_mul hN hby;omega
theorem sl_block {T:TypeId}{b N sz:Nat}{cs:Array Value}(h:cs.size=N*sz)(hN:N<=maxLen):Sl T sz (.slice (some ⟨b,0,none⟩) N N) N cs.toList [⟨b,cs,T⟩]:=
 ⟨by rw [Array.length_toList];exact h,.inr ⟨b,N,cs,rfl,rfl,Nat.le_refl _,hN,h,by rw [List.take_of_length_le (by rw [Array.length_toList,h];exact Nat.le_refl _)]⟩⟩
end
end
section
def xIns (ρ:Operand->Value)(o:Oper):Option (Sem Value):=match o.op with
 | .makeMap t none=>some (Instr.makeMap t none)
 | .lookup t m x c=>some (Instr.lookup t (ρ m) (ρ x) c)
 | .range t x=>some (Instr.range t (ρ x))
 | .next it s=>some (Instr.next (ρ it) s o.type)
 | .entry it=>some (Instr.entry (ρ it))
 |_=>none
def xUpd (ρ:Operand->Value)(o:Oper):Option (Sem Unit):=match o.op with
 | .mapUpdate t m k x=>some (Instr.mapUpdate t (ρ m) (ρ k) (ρ x))
 | .insert t m k x=>some (Instr.mapUpdate t (ρ m) (ρ k) (ρ x))
 |_=>none
theorem ins_run {P:Program}{ρ:Operand->Value}{o:Oper}{s:Sem Value}(h:xIns ρ o=some s){w w':World}{v:Value}(hr:s.run P w= .ok v w'):(execOp ρ o).run P w= .ok (.value v) w':=by
 unfold xIns at h
 unfold execOp
 cases ho:o.op<;>rw [ho] at h<;>try (cases h;done)
 case makeMap t r=>
  cases r with
  |none=>cases h;simp only [Option.map_none,Sem.run_bind,hr,Result.andThen_ok,Sem.run_pure]
  |some _=>cases h
 all_goals (cases h;simp only [Sem.run_bind,hr,Result.andThen_ok,Sem.run_pure])
theorem upd_run {P:Program}{ρ:Operand->Value}{o:Oper}{s:Sem Unit}(h:xUpd ρ o=some s){w w':World}(hr:s.run P w= .ok () w'):(execOp ρ o).run P w= .ok .skip w':=by
 unfold xUpd at h
 unfold execOp
 cases ho:o.op<;>rw [ho] at h<;>try (cases h;done)
 all_goals (cases h;simp only [Sem.run_bind,hr,Result.andThen_ok,Sem.run_pure])
section
variable {M:List Nat}{P:Program}{n:Nat}{W:World}{Q:Exit->Act->World->Prop}{c:Xc}
theorem x_ins (h:List Nat)(s:Sem Value)(hs:∀ w,Own M W w (xgo P n nS h c).L→∃ v w' M' L',s.run P w= .ok v w'/\Own M' w' w' L'/\zE M' P n w' Q (xNx (xgo P n nS h c) L' v))
  (hkt:(xgl P n nS h c,(xgo P n nS h c).top,zR (xA (xgo P n nS h c)) n (xgo P n nS h c).f (xO (xgo P n nS h c)),xNl (xgo P n nS h c).k,xIns (ev n (xgo P n nS h c).f) (xO (xgo P n nS h c)))=(xgr P n nS h c,.ops (xA (xgo P n nS h c)) (xO (xgo P n nS h c)::xT (xgo P n nS h c)),true,true,some s):=by kernel_rfl):zE M P n W Q c:=by
 simp only [Prod.mk.injEq] at hkt
 obtain ⟨hk,e1,e2,e3,e4⟩:=hkt
 exact x_opW h (λw hO=>by
  obtain ⟨v,w',M',L',h1,h2,h3⟩:=hs w hO
  exact ⟨v,w',M',L',ins_run e4 h1,h2,h3⟩) (by simp only [Prod.mk.injEq];exact ⟨hk,e1,e2,e3⟩)
theorem x_upd (h:List Nat)(s:Sem Unit)(hs:∀ w,Own M W w (xgo P n nS h c).L→∃ w' M' L',s.run P w= .ok () w'/\Own M' w' w' L'/\zE M' P n w' Q (xNx (xgo P n nS h c) L' undef))
  (hkt:(xgl P n nS h c,(xgo P n nS h c).top,zR (xA (xgo P n nS h c)) n (xgo P n nS h c).f (xO (xgo P n nS h c)),xNl (xgo P n nS h c).k,xUpd (ev n (xgo P n nS h c).f) (xO (xgo P n nS h c)))=(xgr P n nS h c,.ops (xA (xgo P n nS h c)) (xO (xgo P n nS h c)::xT (xgo P n nS h c)),true,true,some s):=by kernel_rfl):zE M P n W Q c:=by
 simp only [Prod.mk.injEq] at hkt
 obtain ⟨hk,e1,e2,e3,e4⟩:=hkt
 exact x_opS h (λw hO=>by
  obtain ⟨w',M',L',h1,h2,h3⟩:=hs w hO
  exact ⟨w',M',L',upd_run e4 h1,h2,h3⟩) (by simp only [Prod.mk.injEq];exact ⟨hk,e1,e2,e3⟩)
theorem x_rd (h:List Nat)(s:Sem Value)(v:Value)(hs:∀ w,Own M W w (xgo P n nS h c).L->s.run P w= .ok v w)(hg:zE M P n W Q ((xgo P n nS h c).put v))
  (hkt:(xgl P n nS h c,xW n (xgo P n nS h c),xIns (ev n (xgo P n nS h c).f) (xO (xgo P n nS h c)))=(xgr P n nS h c,true,some s):=by kernel_rfl):zE M P n W Q c:=by
 simp only [Prod.mk.injEq] at hkt
 obtain ⟨hk,e1,e2⟩:=hkt
 exact zK h c hk (put_read e1 (λw hO=>ins_run e2 (hs w hO)) hg)
end
end
section
section
variable {M:List Nat}{P:Program}{n:Nat}{W:World}{Q:Exit->Act->World->Prop}{c:Xc}
theorem x_callO {k:FuncId}{args:Array Value}{Rr:Value->List Blk->Prop}(h:List Nat)(L1:List Blk)(hc:∀ w,Own M W w L1->Calls P k args w λe w'=>∃ v L',e= .returned v/\Rr v L'/\Own M W w' L')
  (hg:∀ v L',Rr v L'->zE M P n W Q ⟨.ops (xA (xgo P n nS h c)) (xT (xgo P n nS h c)),(xgo P n nS h c).k,L',upd (xgo P n nS h c).f (xO (xgo P n nS h c)).dst v⟩)
  (hkt:(xgl P n nS h c,(xgo P n nS h c).L,(xgo P n nS h c).top,zR (xA (xgo P n nS h c)) n (xgo P n nS h c).f (xO (xgo P n nS h c)),xEnt P n (xgo P n nS h c))=(xgr P n nS h c,L1,.ops (xA (xgo P n nS h c)) (xO (xgo P n nS h c)::xT (xgo P n nS h c)),true,λw=> .ok (.enter k args) w):=by kernel_rfl):zE M P n W Q c:=by
 simp only [Prod.mk.injEq] at hkt
 obtain ⟨hk,f1,e1,e3,e4⟩:=hkt
 refine zK h c hk ?_
 generalize xgo P n nS h c=d at*
 have e5:∀ w,(execOp (ev n d.f) (xO d)).run P w= .ok (.enter k args) w:=λw=>by
  have h1:=congrFun e4 w
  unfold xEnt at h1
  rw [e1] at h1
  dsimp only at h1
  rw [e3] at h1
  exact h1
 have:d=⟨.ops (xA d) (xO d::xT d),d.k,d.L,d.f⟩:=by rw [←e1]
 rw [this]
 rw [←f1] at hc
 exact ⟨λhq=>s_callo Rr e3 e5 hc λv L' k2=>(hg v L' k2).go hq⟩
theorem kH {k:FuncId}{args:Array Value}{Rr:Value->List Blk->Prop}(h:List Nat)(L1 R ob:List Blk)(hs:∀ w,Own M W w L1->Own M W w (R++ob))(hc:∀ w,Own M W w (R++ob)->Calls P k args w λe w'=>∃ v ob',e= .returned v/\Rr v ob'/\Own (ob.map Blk.b) w w' ob')
  (hg:∀ v ob',Rr v ob'->zE M P n W Q ⟨.ops (xA (xgo P n nS h c)) (xT (xgo P n nS h c)),(xgo P n nS h c).k,R++ob',upd (xgo P n nS h c).f (xO (xgo P n nS h c)).dst v⟩)
  (hkt:(xgl P n nS h c,(xgo P n nS h c).L,(xgo P n nS h c).top,zR (xA (xgo P n nS h c)) n (xgo P n nS h c).f (xO (xgo P n nS h c)),xEnt P n (xgo P n nS h c))=(xgr P n nS h c,L1,.ops (xA (xgo P n nS h c)) (xO (xgo P n nS h c)::xT (xgo P n nS h c)),true,λw=> .ok (.enter k args) w):=by kernel_rfl):zE M P n W Q c:=by
 simp only [Prod.mk.injEq] at hkt
 obtain ⟨hk,f1,e1,e3,e4⟩:=hkt
 refine zK h c hk ?_
 generalize xgo P n nS h c=d at*
 have e5:∀ w,(execOp (ev n d.f) (xO d)).run P w= .ok (.enter k args) w:=λw=>by
  have h1:=congrFun e4 w
  unfold xEnt at h1
  rw [e1] at h1
  dsimp only at h1
  rw [e3] at h1
  exact h1
 have:d=⟨.ops (xA d) (xO d::xT d),d.k,d.L,d.f⟩:=by rw [←e1]
 rw [this]
 rw [←f1] at hs
 refine ⟨λhq=>s_take hs (s_callo (λv L'=>∃ ob',Rr v ob'/\L'=R++ob') e3 e5 (λw hO=>(hc w hO).mono λe w' ⟨v,ob',k1,k2,k3⟩=>⟨v,_,k1,⟨ob',k2,rfl⟩,(Own.back (hO.perm List.perm_append_comm) k3).perm List.perm_append_comm⟩) λv L' ⟨ob',k2,k3⟩=> ?_)⟩
 subst k3
 exact (hg v ob' k2).go hq
theorem xh_callL {k:FuncId}{args:Array Value}{Rr:Value->List Blk->Prop}(L1 R ob L0:List Blk)(hs:∀ w,Own M W w L1->Own M W w (R++ob))(hsub:∀ ob' w,Own M W w (R++ob')->Own M W w L0)(hc:∀ w,Own M W w (R++ob)->Calls P k args w λe w'=>∃ v ob',e= .returned v/\Rr v ob'/\Own (ob.map Blk.b) w w' ob')
  (hg:∀ v ob',Rr v ob'->zE M P n W Q (aNext c (R++ob') v))
  (hkt:(c.L,hL c,c.top,(xA c)[hI c]?,zR (xA c) n c.f (xO c),λw=>(execOp (ev n c.f) (xO c)).run P w)=(L1,L0,.hst (xA c) (hS c) (hU c) (hL c) (hI c),some (xO c),true,λw=> .ok (.enter k args) w):=by kernel_rfl):zE M P n W Q c:=by
 simp only [Prod.mk.injEq] at hkt
 obtain ⟨f1,f2,e1,e2,e3,e4⟩:=hkt
 rw [←f1] at hs
 rw [←f2] at hsub
 have:c=⟨.hst (xA c) (hS c) (hU c) (hL c) (hI c),c.k,c.L,c.f⟩:=by rw [←e1]
 rw [this]
 refine ⟨λhq hs0=>hs_take' hs (hl_callx (xO c) (λv L'=>∃ ob',Rr v ob'/\L'=R++ob') e2 e3 (λw=>congrFun e4 w) (λw hO=>(hc w hO).mono λe w' ⟨v,ob',k1,k2,k3⟩=>⟨v,_,k1,⟨ob',k2,rfl⟩,(Own.back (hO.perm List.perm_append_comm) k3).perm List.perm_append_comm⟩) (λv L' ⟨ob',_,k3⟩ w hO=>hsub ob' w (k3▸hO)) λv L' ⟨ob',k2,k3⟩=> ?_)⟩
 subst k3
 exact (hg v ob' k2).go hq (hsub ob')
theorem x_drawLF (fu:Fuel1)(m:Nat)(h:List Nat)(L0:List Blk)(hs:∀ w,Own M W w (xY P n nS fu h c).L->Own M W w L0)(hg:zE M P n W Q ⟨.hps ((xDr (xY P n nS fu h c)).toList.take m).toArray (Array.replicate m false) m L0,.tl (xDr (xY P n nS fu h c)) ((xDr (xY P n nS fu h c)).toList.drop m)::(xY P n nS fu h c).k,(xY P n nS fu h c).L,(xY P n nS fu h c).f⟩)
  (hkt:(xl P n nS fu h c,(xY P n nS fu h c).top,P.follows .mixedOrders,preB .any (xDr (xY P n nS fu h c)).toList m)=(xr P n nS (tZ fu) h c,.code (.region (xId (xY P n nS fu h c)) (xDr (xY P n nS fu h c)) true),true,true):=by kernel_rfl):zE M P n W Q c:=by
 simp only [Prod.mk.injEq] at hkt
 obtain ⟨hk,e1,e2,e3⟩:=hkt
 refine xrun_ok fu h c hk ?_
 generalize xY P n nS fu h c=d at hg hs e1 e3 ⊢
 generalize xDr d=a at hg e1 e3
 obtain ⟨l,rfl⟩:∃ l:List Oper,a=l.toArray:=⟨a.toList,by simp⟩
 have:d=⟨.code (.region (xId d) l.toArray true),d.k,d.L,d.f⟩:=by rw [←e1]
 rw [this]
 have hg':zE M P n W Q ⟨.hps (l.take m).toArray (Array.replicate m false) m L0,.tl l.toArray (l.drop m)::d.k,d.L,d.f⟩:=by simpa using hg
 exact ⟨λhq=>ok_drawh m L0 e2 (by simpa using e3) (hg'.go hq hs)⟩
theorem x_appR {α:Type}{g:α->List Value}{T:TypeId}{sz k cp:Nat}{v:Value}{xs:List Value}{A:Option Addr}(h:List Nat)(l:List α)(E ob R:List Blk)(L1:List Blk)(hs:∀ w,Own M W w L1->Own M W w (E++ob++R))
  (hgl:∀ y,(g y).length=sz) (h1:∀ y,∀ u∈g y,u.oneCell'=true) (hR:∀ w,Own M W w (E++ob++R)->Reads g w w.heap.size A l) (hv:Sl T sz v k xs ob) (hN:k+l.length<=1048576)
  (hg:∀ v' ob',Sl T sz v' (k+l.length) (xs++l.flatMap g) ob'->zE M P n W Q ⟨.ops (xA (xgo P n nS h c)) (xT (xgo P n nS h c)),(xgo P n nS h c).k,E++ob'++R,upd (xgo P n nS h c).f (xO (xgo P n nS h c)).dst v'⟩)
  (hkt:(xgl P n nS h c,(xgo P n nS h c).L,(xgo P n nS h c).top,zR (xA (xgo P n nS h c)) n (xgo P n nS h c).f (xO (xgo P n nS h c)),(xO (xgo P n nS h c)).op,ev n (xgo P n nS h c).f (aX (xO (xgo P n nS h c)) 0),ev n (xgo P n nS h c).f (aX (xO (xgo P n nS h c)) 1),P.underlying (aT (xO (xgo P n nS h c))),aInfo P T)
   =(xgr P n nS h c,L1,.ops (xA (xgo P n nS h c)) (xO (xgo P n nS h c)::xT (xgo P n nS h c)),true,aOp (xO (xgo P n nS h c)),v,.slice A l.length cp,some (.slice T),some (true,sz,some sz)):=by kernel_rfl):zE M P n W Q c:=by
 simp only [Prod.mk.injEq] at hkt
 obtain ⟨hk,f1,e1,e3,e4,e5,e6,e8,e9⟩:=hkt
 refine zK h c hk ?_
 generalize xgo P n nS h c=d at*
 rw [←f1] at hs
 have:d=⟨.ops (xA d) (xO d::xT d),d.k,d.L,d.f⟩:=by rw [←e1]
 rw [this]
 obtain ⟨i,z,hi,hz,hsz,hzs,hby⟩:=nZ e9
 have h63:k+l.length<=maxLen:=by unfold maxLen;omega
 have hbytes:(k+l.length)*i.bytes<=140737488355328:=by have:=Nat.mul_le_mul hN hby;omega
 have hone:∀ u∈l.flatMap g,u.oneCell'=true:=λu hu=>by
  obtain ⟨y,_,hy⟩:=List.mem_flatMap.1 hu
  exact h1 y u hy
 refine ⟨λhq=>s_take hs (gM e3 λw hO=> ?_)⟩
 cases A with
 |none=>
  have h0:l=[]:=by
   cases l with
   |nil=>rfl
   |cons y l=>obtain ⟨b,off,e,_⟩:=hR w hO (by simp);cases e
  subst h0
  have hv':Sl T sz v (k+([]:List α).length) (xs++([]:List α).flatMap g) ob:=by simpa using hv
  refine kA v (w':=w) ?_ (((hg v ob hv').go hq).go w hO)
  have hx':ev n d.f (aX (xO d) 1)= .slice none 0 cp:=e6
  unfold execOp
  rw [e4]
  simp only [aOp,resolve,invoke,builtin,Sem.run_bind,Sem.run_pure,Result.andThen_ok,List.map_toArray,List.map_cons,List.map_nil,e5,hx',n5 e8 hi hv cp]
 |some a=>
  have hnews:∀ j u,(l.flatMap g)[j]?=some u->w.cell? (a.add j)=some u:=λj u hj=>by
   have h0:0<l.length:=by
    cases l with
    |nil=>simp at hj
    |cons y l=>simp
   obtain ⟨b,off,e,_,hc⟩:=hR w hO h0
   obtain rfl:=Option.some.inj e
   rw [yX]
   exact hc j u hj
  obtain ⟨v',w',ob',hr,h2,h3⟩:=bW (P:=P) (ty:=(xO d).type) (c:=cp) e8 hi hz hsz hzs hv hO (vN hgl l) hnews hone h63 hbytes
  refine kA v' (w':=w') ?_ (((hg v' ob' h2).go hq).go w' h3)
  unfold execOp
  rw [e4]
  simp only [aOp,resolve,invoke,builtin,Sem.run_bind,Sem.run_pure,Result.andThen_ok,List.map_toArray,List.map_cons,List.map_nil,e5,e6,hr]
end
end
section
def sT (o:Oper):TypeId:=match o.op with
 | .store T _ _=>T
 |_=>0
def sP (o:Oper):Operand:=match o.op with
 | .store _ p _=>p
 |_=> .tmp 0
def sQ (o:Oper):Operand:=match o.op with
 | .store _ _ q=>q
 |_=> .tmp 0
def sDn (o:Oper):Bool:=o.dst.isNone
theorem sDn_is {o:Oper}(h:sDn o=true):o.dst=none:=by
 unfold sDn at h
 cases hd:o.dst with
 |none=>rfl
 |some d=>rw [hd] at h;cases h
section
variable {M:List Nat}{P:Program}{n:Nat}{ops:Array Oper}{W:World}{L L0:List Blk}{Q:Exit->Act->World->Prop}{fuel:Nat}{listed:Array Bool}{f:Nat->Value}
theorem hl_storeS {i:Nat}(oi:Oper)(k:Nat)(x:Blk){T:TypeId}{p q:Operand}{off:Nat}(v:Value)(sz:Nat)(hi':ops[i]?=some oi)(hw:zR ops n f oi=true)(ho:oi.op= .store T p q)(hd:oi.dst=none)(hL:L[k]?=some x)
  (hp:ev n f p= .pointer (some ⟨x.b,off,none⟩)) (hq:ev n f q=v) (hz:(P.info? T).map (·.size)=some sz) (hs:v.cells.size=sz) (hle:off+sz<=x.cs.size) (h1:(v.cells.toList.all λu=>u.oneCell')=true)
  (hsub:∀ w,Own M W w (L.set k ⟨x.b,zT x.cs off v.cells,x.ty⟩)->Own M W w L0)
  (h:jN M P n ops W L0 Q fuel (listed.setIfInBounds i true) (L.set k ⟨x.b,zT x.cs off v.cells,x.ty⟩) f):dC M P n ops W L0 Q fuel listed i L f:=
 mI hi' hw λw hO=>by
  cases ht:P.info? T with
  |none=>rw [ht] at hz;cases hz
  |some t=>
   rw [ht] at hz
   have et:t.size=sz:=Option.some.inj hz
   have hst:=run_storeCells_at (P:=P) x.b off x.ty v.cells.toList 0 x.cs w (hO.get hL) (by simp;omega) (List.all_eq_true.1 h1)
   have hO':=hO.put hL (zT x.cs off v.cells)
   unfold Oper.wp
   rw [x3]
   have hr:(execOp (ev n f) oi).run P w= .ok .skip (w.setRow x.b (zT x.cs off v.cells)):=by
    unfold execOp
    simp only [ho,hp,hq,Instr.storeAt,Instr.sureAddr,Sem.run_bind,Sem.run_pure,Result.andThen_ok,storeVar,sizeOf,typeInfo,ht,hs,et,run_program]
    simp only [ne_eq,not_true_eq_false,if_false]
    have:(storeCells ⟨x.b,off,none⟩ v.cells.toList).run P w= .ok () (w.setRow x.b (zT x.cs off v.cells)):=by
     rw [hst];unfold zT;simp
    simp [this]
   rw [hr]
   show Own M W _ L0/\wpAnyH P .any ops Q (λw=>Own M W w L0) fuel (listed.setIfInBounds i true) ((Fr n f).put oi.dst undef) _
   rw [gO,hd]
   exact ⟨hsub _ hO',h.go _ hO'⟩
end
section
variable {M:List Nat}{P:Program}{n:Nat}{W:World}{Q:Exit->Act->World->Prop}{c:Xc}
theorem x_sto (q:Nat)(x:Blk)(off sz:Nat)(v:Value)(L1:List Blk)(hle:off+sz<=x.cs.size)(hg:zE M P n W Q ⟨.ops (xA c) (xT c),c.k,L1.set q ⟨x.b,zT x.cs off v.cells,x.ty⟩,c.f⟩)
  (hkt:(c.L,c.top,zR (xA c) n c.f (xO c),(xO c).op,sDn (xO c),ev n c.f (sP (xO c)),ev n c.f (sQ (xO c)),L1[q]?,(P.info? (sT (xO c))).map (·.size),v.cells.size,v.cells.toList.all λu=>u.oneCell')
   =(L1,.ops (xA c) (xO c::xT c),true,.store (sT (xO c)) (sP (xO c)) (sQ (xO c)),true,.pointer (some ⟨x.b,off,none⟩),v,some x,some sz,sz,true):=by kernel_rfl):zE M P n W Q c:=by
 simp only [Prod.mk.injEq] at hkt
 obtain ⟨f1,e1,e2,e3,e4,e5,e6,e7,e8,e9,e10⟩:=hkt
 have:c=⟨.ops (xA c) (xO c::xT c),c.k,L1,c.f⟩:=by rw [←e1,←f1]
 rw [this]
 exact ⟨λhq=>s_storeS q x v sz e2 e3 (sDn_is e4) e7 e5 e6 e8 e9 hle e10 (hg.go hq)⟩
theorem xh_sto (q:Nat)(x:Blk)(off sz:Nat)(v:Value)(L1 L0:List Blk)(hle:off+sz<=x.cs.size)(hsub:∀ w,Own M W w (L1.set q ⟨x.b,zT x.cs off v.cells,x.ty⟩)->Own M W w L0)
  (hg:zE M P n W Q ⟨.hps (xA c) ((hS c).setIfInBounds (hI c) true) (hU c) (hL c),c.k,L1.set q ⟨x.b,zT x.cs off v.cells,x.ty⟩,c.f⟩)
  (hkt:(c.L,hL c,c.top,(xA c)[hI c]?,zR (xA c) n c.f (xO c),(xO c).op,sDn (xO c),ev n c.f (sP (xO c)),ev n c.f (sQ (xO c)),L1[q]?,(P.info? (sT (xO c))).map (·.size),v.cells.size,v.cells.toList.all λu=>u.oneCell')
   =(L1,L0,.hst (xA c) (hS c) (hU c) (hL c) (hI c),some (xO c),true,.store (sT (xO c)) (sP (xO c)) (sQ (xO c)),true,.pointer (some ⟨x.b,off,none⟩),v,some x,some sz,sz,true):=by kernel_rfl):zE M P n W Q c:=by
 simp only [Prod.mk.injEq] at hkt
 obtain ⟨f1,f2,e1,e0,e2,e3,e4,e5,e6,e7,e8,e9,e10⟩:=hkt
 have:c=⟨.hst (xA c) (hS c) (hU c) (hL c) (hI c),c.k,L1,c.f⟩:=by rw [←e1,←f1]
 rw [←f2] at hsub
 rw [this]
 exact ⟨λhq hs=>hl_storeS (xO c) q x v sz e0 e2 e3 (sDn_is e4) e7 e5 e6 e8 e9 hle e10 hsub (hg.go hq hsub)⟩
theorem xh_seqv (t:Nat)(h:List Nat)(i:Nat)(a b:YL)(hg:zE M P n W Q (xHn (xgo P n t h c) i (.bool (decide (a=b)))))
  (hkt:(xgl P n t h c,fB n i (xgo P n t h c),(xOi i (xgo P n t h c)).op,ev n (xgo P n t h c).f (oX (xOi i (xgo P n t h c))),ev n (xgo P n t h c).f (oY (xOi i (xgo P n t h c))))
   =(xgr P n t h c,jX i (xgo P n t h c),.binOp .eql (oT (xOi i (xgo P n t h c))) (oX (xOi i (xgo P n t h c))) (oY (xOi i (xgo P n t h c))) (oU (xOi i (xgo P n t h c))),.string (mkS a),.string (mkS b)):=by kernel_rfl):zE M P n W Q c:=by
 simp only [Prod.mk.injEq] at hkt
 obtain ⟨hk,e1,e2,e3,e4⟩:=hkt
 exact zK h c hk (nB (λw _=>tJ e2 e3 e4 rfl w) hg e1)
theorem xh_sllo (t:Nat)(h:List Nat)(i:Nat){A:Option Addr}{b off:Nat}(hA:A=some ⟨b,off,none⟩)(N cp sz:Nat)(j:Int)(h0:0<=j)(h1:j<=N)(v:Value)(hv: .slice (some ⟨b,off+(if cp=j.toNat then 0 else j.toNat*sz),none⟩) (N-j.toNat) (cp-j.toNat)=v)(hg:zE M P n W Q (xHn (xgo P n t h c) i v))
  (hkt:(xgl P n t h c,fB n i (xgo P n t h c),(slQ (xOi i (xgo P n t h c))).2.2.2,ev n (xgo P n t h c).f (slQ (xOi i (xgo P n t h c))).2.1,ev n (xgo P n t h c).f (slQ (xOi i (xgo P n t h c))).2.2.1,P.underlying (slQ (xOi i (xgo P n t h c))).1,(P.info? (xEl P (slQ (xOi i (xgo P n t h c))).1)).map (·.size))
   =(xgr P n t h c,jX i (xgo P n t h c),true,.slice A N cp,YI j,some (.slice (xEl P (slQ (xOi i (xgo P n t h c))).1)),some sz):=by kernel_rfl):zE M P n W Q c:=by
 simp only [Prod.mk.injEq] at hkt
 obtain ⟨hk,e1,e2,e3,e4,e5,e6⟩:=hkt
 subst hA
 exact zK h c hk (nB (λw _=>by rw [run_sllo (slQ_op e2) e3 e4 e5 e6 h0 h1 w,hv]) hg e1)
theorem xh_slhi (t:Nat)(h:List Nat)(i:Nat){A:Option Addr}{b off:Nat}(hA:A=some ⟨b,off,none⟩)(N cp sz:Nat)(j:Int)(h0:0<=j)(h1:j<=cp)(v:Value)(hv: .slice (some ⟨b,off,none⟩) j.toNat cp=v)(hg:zE M P n W Q (xHn (xgo P n t h c) i v))
  (hkt:(xgl P n t h c,fB n i (xgo P n t h c),(shQ (xOi i (xgo P n t h c))).2.2.2,ev n (xgo P n t h c).f (shQ (xOi i (xgo P n t h c))).2.1,ev n (xgo P n t h c).f (shQ (xOi i (xgo P n t h c))).2.2.1,P.underlying (shQ (xOi i (xgo P n t h c))).1,(P.info? (xEl P (shQ (xOi i (xgo P n t h c))).1)).map (·.size))
   =(xgr P n t h c,jX i (xgo P n t h c),true,.slice A N cp,YI j,some (.slice (xEl P (shQ (xOi i (xgo P n t h c))).1)),some sz):=by kernel_rfl):zE M P n W Q c:=by
 simp only [Prod.mk.injEq] at hkt
 obtain ⟨hk,e1,e2,e3,e4,e5,e6⟩:=hkt
 subst hA
 exact zK h c hk (nB (λw _=>by rw [run_slhi (shQ_op e2) e3 e4 e5 e6 h0 h1 w,hv]) hg e1)
end
end
section
set_option linter.unnecessarySimpa false
def PutR (v:Value)(l:List YL)(s:YL)(v':Value)(ob:List Blk):Prop:=(v'=v/\yR l s=l/\ob=[])\/SlT v' (yR l s) ob
theorem kN (s:YL):∀ u∈zW s,u.oneCell'=true:=λu hu=>by rw [List.mem_singleton.1 hu];rfl
theorem reads_take11 {w:World}{B b off:Nat}{l:List YL}(h:Reads zW w B (some ⟨b,off,none⟩) l)(k:Nat):Reads zW w B (some ⟨b,off,none⟩) (l.take k):=λh0=>by
 obtain ⟨b',off',e,hlt,hc⟩:=h (by rw [List.length_take] at h0;omega)
 cases e
 refine ⟨b,off,rfl,hlt,λj u hj=>hc j u ?_⟩
 have:l.flatMap zW=(l.take k).flatMap zW++(l.drop k).flatMap zW:=by rw [←List.flatMap_append,List.take_append_drop]
 rw [this,List.getElem?_append_left (List.getElem?_eq_some_iff.1 hj).1];exact hj
theorem reads_drop11 {w:World}{B b off cap:Nat}{l:List YL}(h:Reads zW w B (some ⟨b,off,none⟩) l)(hcap:l.length<=cap)(k:Nat):Reads zW w B (some ⟨b,off+(if cap=k then 0 else k*1),none⟩) (l.drop k):=λh0=>by
 rw [List.length_drop] at h0
 obtain ⟨b',off',e,hlt,hc⟩:=h Om
 cases e
 rw [if_neg Om]
 refine ⟨b,off+k*1,rfl,hlt,λj u hj=> ?_⟩
 have h1:l.flatMap zW=(l.take k).flatMap zW++(l.drop k).flatMap zW:=by rw [←List.flatMap_append,List.take_append_drop]
 have h2:((l.take k).flatMap zW).length=k:=by rw [vN zU,List.length_take];omega
 rw [Nat.add_assoc]
 refine hc (k*1+j) u ?_
 rw [h1,List.getElem?_append_right Om,h2,show k*1+j-k=j by omega];exact hj
theorem g11put_cons (A:Option Addr)(cap bp off:Nat)(l:List YL)(s:YL)(W:World)(hA:A=some ⟨bp,off,none⟩)(hl0:l≠[])(hcap:l.length<=cap)(hv:Reads zW W W.heap.size A l)(hn:l.length<=900000):YC 86 #[.slice A l.length cap,.string (mkS s)] W λe w'=>∃ v' ob,e= .returned v'/\PutR (.slice A l.length cap) l s v' ob/\Own [] W w' ob:=by
 subst hA
 have hlp:0<l.length:=List.length_pos_iff.2 hl0
 have hTk:∀ k w,Own [] W w []->Reads zW w w.heap.size (some ⟨bp,off,none⟩) (l.take k):=λk w hO=>reads_take11 (hv.on hO.below hO.size) k
 have hDk:∀ k w,Own [] W w []->Reads zW w w.heap.size (some ⟨bp,off+(if cap=k then 0 else k*1),none⟩) (l.drop k):=λk w hO=>reads_drop11 (hv.on hO.below hO.size) hcap k
 have hA:(some ⟨bp,off,none⟩:Option Addr)=some ⟨bp,off,none⟩:=rfl
 have hld:∀ (k:Nat) (hk:k<l.length) x,l[k]=x→∀ w,Own [] W w []->(loadVar 9 ⟨bp,off+k*1+0,none⟩).run YP w= .ok (.string (mkS x)) w:=λk hk x hx w hO=>by
  obtain ⟨b',off',e,hel⟩:=hv.elem zU k hk
  cases e
  exact hel w hO.below _ 0 _ (by rw [hx];kernel_rfl)
 refine zF Tryz.func86 (x_loopE (α:=Nat) (β:=Nat) (λk=>[(0,.slice (some ⟨bp,off,none⟩) l.length cap),(1,.string (mkS s)),(5,YI (k:Int))]) (λ_=>[]) (λk m=>(k<=l.length∧∀ x∈l.take k,Op.bytesLess x s=true)/\m=l.length-k) 0 l.length (λk=>[(0,.slice (some ⟨bp,off,none⟩) l.length cap),(1,.string (mkS s)),(5,YI (k:Int))]) (λ_=>[]) (λk=>k<=l.length/\(∀ x∈l.take k,Op.bytesLess x s=true)∧∀ hk:k<l.length,Op.bytesLess l[k] s=false) [] ⟨⟨Nat.zero_le _,λx h=>by simp at h⟩,rfl⟩ ?_ ?_)
 ·rintro k mm g ⟨⟨hk,hno⟩,hmm⟩ nx nex
  refine zG 9 [] ((k:Int)<(l.length:Int)) (λh9=> ?_) (λh9=>nex k [] ⟨hk,hno,λq=>absurd q Om⟩ Kr)
  have hj:k<l.length:=by omega
  obtain ⟨x,hx⟩:∃ x,l[k]=x:=⟨_,rfl⟩
  have hgo:=yD (p:=λx=>Op.bytesLess x s=true) hj hno
  rw [hx] at hgo
  refine zO 13 [] hA l.length cap k 1 hj (zL 14 [] 9 bp (off+k*1+0) (.string (mkS x)) (λw hO=>hld k hj x hx w hO.no) (x_slt 16 [] x s (λh16=> ?_) (λh16=>nex k [] ⟨hk,hno,λq=>by rw [hx];exact h16⟩ Kr)))
  exact x_i 19 [] ((k+1:Nat):Int) (nx (k+1) (l.length-(k+1)) [] Om ⟨⟨hj,hgo h16⟩,rfl⟩ Kr Kr)
 ·rintro k g ⟨hk,hno,hge⟩
  have hlt:(l.take k).length=k:=by rw [List.length_take];omega
  refine zG 23 [] ((k:Int)<(l.length:Int)) (λh23=> ?_) (λh23=> ?_)
  ·have hj:k<l.length:=by omega
   obtain ⟨x,hx⟩:∃ x,l[k]=x:=⟨_,rfl⟩
   refine zO 27 [] hA l.length cap k 1 hj (zL 28 [] 9 bp (off+k*1+0) (.string (mkS x)) (λw hO=>hld k hj x hx w hO.no) (qF 30 [] x s (λh30=> ?_) (λh30=> ?_)))
   ·exact z8 [] (.slice (some ⟨bp,off,none⟩) l.length cap) λw hO=>⟨_,[],rfl,.inl ⟨rfl,put_old hj hno (hge hj) (hx.trans h30),rfl⟩,hO.no⟩
   have hq:yR l s=l.take k++[s]++l.drop k:=put_new hk hno λq=>⟨hge q,by rw [hx];exact h30⟩
   refine kS 11 [] [] (λw hO=>hO.no) (xh_slhi 50035 [] 2 hA l.length cap 1 (k:Int) (by omega) (by omega) (.slice (some ⟨bp,off,none⟩) (l.take k).length cap) (by rw [hlt];rfl) (xh_sllo 50042 [] 9 hA l.length cap 1 (k:Int) (by omega) (by omega) (.slice (some ⟨bp,off+(if cap=k then 0 else k*1),none⟩) (l.drop k).length (cap-k)) (by rw [List.length_drop];rfl) (x_h2 [] 3 5 (qO (g:=zW) (T:=9) (k:=0) (v:= .slice none 0 0) (xs:=[]) (l.take k) [] [] [] ([]) [] (cp:=cap) (λw hO=>hO) (λo w hO=>hO.no) zU kN (λw hO=>hTk k w hO.no) (Sl.nil _ _) (by simp only [List.length_take,List.length_nil];omega) λv1 o1 h1=> ?_) (gZ 1 9 #[.string (mkS s)] λb=>yJ [] 3 (qO (g:=zW) (T:=9) (k:=0) (v:= .slice none 0 0) (xs:=[]) (l.take k) [⟨b, #[.string (mkS s)],9⟩] [] [] ([⟨b, #[.string (mkS s)],9⟩]) [] (cp:=cap) (λw hO=>hO) (λo w hO=>hO.no) zU kN (λw hO=>hTk k w hO.no) (Sl.nil _ _) (by simp only [List.length_take,List.length_nil];omega) λv1 o1 h1=> ?_)))))
   ·obtain ⟨V1,c1,rfl⟩:=h1.form
    refine yJ [] 5 (gZ 1 9 #[.string (mkS s)] λb=>yJ [] 6 (vH (m:=1) (cp:=1) [⟨b, #[.string (mkS s)],9⟩] o1 [] 0 (⟨b, #[.string (mkS s)],9⟩::([]++o1++[])) [] (λw hO=>hO.cast (by simp)) (λo w hO=>hO.no) h1 (by simp only [List.length_take,List.length_nil];omega) λv2 o2 h2=> ?_))
    obtain ⟨V2,c2,rfl⟩:=h2.form
    refine yJ [] 10 (qO (g:=zW) (l.drop k) [⟨b, #[.string (mkS s)],9⟩] o2 [] ([⟨b, #[.string (mkS s)],9⟩]++o2++[]) [] (cp:=cap-k) (λw hO=>hO) (λo w hO=>hO.no) zU kN (λw hO=>hDk k w hO.no) h2 (by simp only [List.length_take,List.length_drop,List.length_nil];omega) λv3 o3 h3=> ?_)
    have hs3:SlT v3 (l.take k++[s]++l.drop k) o3:=Sl.to (show Sl 9 1 v3 (0+(l.take k).length+1+(l.drop k).length) (([]++(l.take k).flatMap zW)++zW s++(l.drop k).flatMap zW) o3 from h3) (by first|(simp;done)|(simp;omega)) (by rw [x6];simp)
    exact z8 [] v3 λw hO=>⟨_,o3,rfl,.inr (by rw [hq];exact hs3),(hO.past 1 (o3++[])).cast (by simp)⟩
   ·obtain ⟨V1,c1,rfl⟩:=h1.form
    refine yJ [] 6 (vH (m:=1) (cp:=1) [⟨b, #[.string (mkS s)],9⟩] o1 [] 0 ([⟨b, #[.string (mkS s)],9⟩]++o1++[]) [] (λw hO=>hO) (λo w hO=>hO.no) h1 (by simp only [List.length_take,List.length_nil];omega) λv2 o2 h2=> ?_)
    obtain ⟨V2,c2,rfl⟩:=h2.form
    refine yJ [] 10 (qO (g:=zW) (l.drop k) [⟨b, #[.string (mkS s)],9⟩] o2 [] ([⟨b, #[.string (mkS s)],9⟩]++o2++[]) [] (cp:=cap-k) (λw hO=>hO) (λo w hO=>hO.no) zU kN (λw hO=>hDk k w hO.no) h2 (by simp only [List.length_take,List.length_drop,List.length_nil];omega) λv3 o3 h3=> ?_)
    have hs3:SlT v3 (l.take k++[s]++l.drop k) o3:=Sl.to (show Sl 9 1 v3 (0+(l.take k).length+1+(l.drop k).length) (([]++(l.take k).flatMap zW)++zW s++(l.drop k).flatMap zW) o3 from h3) (by first|(simp;done)|(simp;omega)) (by rw [x6];simp)
    exact z8 [] v3 λw hO=>⟨_,o3,rfl,.inr (by rw [hq];exact hs3),(hO.past 1 (o3++[])).cast (by simp)⟩
  ·have hq:yR l s=l.take k++[s]++l.drop k:=put_new hk hno λq=>absurd q Om
   refine kS 11 [] [] (λw hO=>hO.no) (xh_slhi 50035 [] 2 hA l.length cap 1 (k:Int) (by omega) (by omega) (.slice (some ⟨bp,off,none⟩) (l.take k).length cap) (by rw [hlt];rfl) (xh_sllo 50042 [] 9 hA l.length cap 1 (k:Int) (by omega) (by omega) (.slice (some ⟨bp,off+(if cap=k then 0 else k*1),none⟩) (l.drop k).length (cap-k)) (by rw [List.length_drop];rfl) (x_h2 [] 3 5 (qO (g:=zW) (T:=9) (k:=0) (v:= .slice none 0 0) (xs:=[]) (l.take k) [] [] [] ([]) [] (cp:=cap) (λw hO=>hO) (λo w hO=>hO.no) zU kN (λw hO=>hTk k w hO.no) (Sl.nil _ _) (by simp only [List.length_take,List.length_nil];omega) λv1 o1 h1=> ?_) (gZ 1 9 #[.string (mkS s)] λb=>yJ [] 3 (qO (g:=zW) (T:=9) (k:=0) (v:= .slice none 0 0) (xs:=[]) (l.take k) [⟨b, #[.string (mkS s)],9⟩] [] [] ([⟨b, #[.string (mkS s)],9⟩]) [] (cp:=cap) (λw hO=>hO) (λo w hO=>hO.no) zU kN (λw hO=>hTk k w hO.no) (Sl.nil _ _) (by simp only [List.length_take,List.length_nil];omega) λv1 o1 h1=> ?_)))))
   ·obtain ⟨V1,c1,rfl⟩:=h1.form
    refine yJ [] 5 (gZ 1 9 #[.string (mkS s)] λb=>yJ [] 6 (vH (m:=1) (cp:=1) [⟨b, #[.string (mkS s)],9⟩] o1 [] 0 (⟨b, #[.string (mkS s)],9⟩::([]++o1++[])) [] (λw hO=>hO.cast (by simp)) (λo w hO=>hO.no) h1 (by simp only [List.length_take,List.length_nil];omega) λv2 o2 h2=> ?_))
    obtain ⟨V2,c2,rfl⟩:=h2.form
    refine yJ [] 10 (qO (g:=zW) (l.drop k) [⟨b, #[.string (mkS s)],9⟩] o2 [] ([⟨b, #[.string (mkS s)],9⟩]++o2++[]) [] (cp:=cap-k) (λw hO=>hO) (λo w hO=>hO.no) zU kN (λw hO=>hDk k w hO.no) h2 (by simp only [List.length_take,List.length_drop,List.length_nil];omega) λv3 o3 h3=> ?_)
    have hs3:SlT v3 (l.take k++[s]++l.drop k) o3:=Sl.to (show Sl 9 1 v3 (0+(l.take k).length+1+(l.drop k).length) (([]++(l.take k).flatMap zW)++zW s++(l.drop k).flatMap zW) o3 from h3) (by first|(simp;done)|(simp;omega)) (by rw [x6];simp)
    exact z8 [] v3 λw hO=>⟨_,o3,rfl,.inr (by rw [hq];exact hs3),(hO.past 1 (o3++[])).cast (by simp)⟩
   ·obtain ⟨V1,c1,rfl⟩:=h1.form
    refine yJ [] 6 (vH (m:=1) (cp:=1) [⟨b, #[.string (mkS s)],9⟩] o1 [] 0 ([⟨b, #[.string (mkS s)],9⟩]++o1++[]) [] (λw hO=>hO) (λo w hO=>hO.no) h1 (by simp only [List.length_take,List.length_nil];omega) λv2 o2 h2=> ?_)
    obtain ⟨V2,c2,rfl⟩:=h2.form
    refine yJ [] 10 (qO (g:=zW) (l.drop k) [⟨b, #[.string (mkS s)],9⟩] o2 [] ([⟨b, #[.string (mkS s)],9⟩]++o2++[]) [] (cp:=cap-k) (λw hO=>hO) (λo w hO=>hO.no) zU kN (λw hO=>hDk k w hO.no) h2 (by simp only [List.length_take,List.length_drop,List.length_nil];omega) λv3 o3 h3=> ?_)
    have hs3:SlT v3 (l.take k++[s]++l.drop k) o3:=Sl.to (show Sl 9 1 v3 (0+(l.take k).length+1+(l.drop k).length) (([]++(l.take k).flatMap zW)++zW s++(l.drop k).flatMap zW) o3 from h3) (by first|(simp;done)|(simp;omega)) (by rw [x6];simp)
    exact z8 [] v3 λw hO=>⟨_,o3,rfl,.inr (by rw [hq];exact hs3),(hO.past 1 (o3++[])).cast (by simp)⟩
theorem g11put_nil (s:YL)(W:World):YC 86 #[.slice none 0 0,.string (mkS s)] W λe w'=>∃ v' ob,e= .returned v'/\PutR (.slice none 0 0) [] s v' ob/\Own [] W w' ob:=by
 have hN:∀ w,Own [] W w []->Reads zW w w.heap.size none ([]:List YL):=λw hO h0=>absurd h0 (Nat.lt_irrefl 0)
 have hq:yR [] s=([]:List YL)++[s]++[]:=rfl
 refine zF Tryz.func86 (x_rounds 0 [] (kS 11 [] [] (λw hO=>hO.no) (x_h2 [] 3 5 (qO (g:=zW) (T:=9) (k:=0) (v:= .slice none 0 0) (xs:=[]) (([]:List YL)) [] [] [] ([]) [] (cp:=0) (λw hO=>hO) (λo w hO=>hO.no) zU kN (λw hO=>hN w hO.no) (Sl.nil _ _) (by simp only [List.length_take,List.length_nil];omega) λv1 o1 h1=> ?_) (gZ 1 9 #[.string (mkS s)] λb=>yJ [] 3 (qO (g:=zW) (T:=9) (k:=0) (v:= .slice none 0 0) (xs:=[]) (([]:List YL)) [⟨b, #[.string (mkS s)],9⟩] [] [] ([⟨b, #[.string (mkS s)],9⟩]) [] (cp:=0) (λw hO=>hO) (λo w hO=>hO.no) zU kN (λw hO=>hN w hO.no) (Sl.nil _ _) (by simp only [List.length_take,List.length_nil];omega) λv1 o1 h1=> ?_)))))
 ·obtain ⟨V1,c1,rfl⟩:=h1.form
  refine yJ [] 5 (gZ 1 9 #[.string (mkS s)] λb=>yJ [] 6 (vH (m:=1) (cp:=1) [⟨b, #[.string (mkS s)],9⟩] o1 [] 0 (⟨b, #[.string (mkS s)],9⟩::([]++o1++[])) [] (λw hO=>hO.cast (by simp)) (λo w hO=>hO.no) h1 (by simp only [List.length_take,List.length_nil];omega) λv2 o2 h2=> ?_))
  obtain ⟨V2,c2,rfl⟩:=h2.form
  refine yJ [] 10 (qO (g:=zW) (([]:List YL)) [⟨b, #[.string (mkS s)],9⟩] o2 [] ([⟨b, #[.string (mkS s)],9⟩]++o2++[]) [] (cp:=0) (λw hO=>hO) (λo w hO=>hO.no) zU kN (λw hO=>hN w hO.no) h2 (by simp only [List.length_take,List.length_drop,List.length_nil];omega) λv3 o3 h3=> ?_)
  have hs3:SlT v3 (([]:List YL)++[s]++([]:List YL)) o3:=Sl.to (show Sl 9 1 v3 (0+(([]:List YL)).length+1+(([]:List YL)).length) (([]++(([]:List YL)).flatMap zW)++zW s++(([]:List YL)).flatMap zW) o3 from h3) (by first|(simp;done)|(simp;omega)) (by rw [x6];simp)
  exact z8 [] v3 λw hO=>⟨_,o3,rfl,.inr (by rw [hq];exact hs3),(hO.past 1 (o3++[])).cast (by simp)⟩
 ·obtain ⟨V1,c1,rfl⟩:=h1.form
  refine yJ [] 6 (vH (m:=1) (cp:=1) [⟨b, #[.string (mkS s)],9⟩] o1 [] 0 ([⟨b, #[.string (mkS s)],9⟩]++o1++[]) [] (λw hO=>hO) (λo w hO=>hO.no) h1 (by simp only [List.length_take,List.length_nil];omega) λv2 o2 h2=> ?_)
  obtain ⟨V2,c2,rfl⟩:=h2.form
  refine yJ [] 10 (qO (g:=zW) (([]:List YL)) [⟨b, #[.string (mkS s)],9⟩] o2 [] ([⟨b, #[.string (mkS s)],9⟩]++o2++[]) [] (cp:=0) (λw hO=>hO) (λo w hO=>hO.no) zU kN (λw hO=>hN w hO.no) h2 (by simp only [List.length_take,List.length_drop,List.length_nil];omega) λv3 o3 h3=> ?_)
  have hs3:SlT v3 (([]:List YL)++[s]++([]:List YL)) o3:=Sl.to (show Sl 9 1 v3 (0+(([]:List YL)).length+1+(([]:List YL)).length) (([]++(([]:List YL)).flatMap zW)++zW s++(([]:List YL)).flatMap zW) o3 from h3) (by first|(simp;done)|(simp;omega)) (by rw [x6];simp)
  exact z8 [] v3 λw hO=>⟨_,o3,rfl,.inr (by rw [hq];exact hs3),(hO.past 1 (o3++[])).cast (by simp)⟩
theorem qD {A:Option Addr}{cap:Nat}{l:List YL}{ob L:List Blk}{M:List Nat}{W0:World}(s:YL)(W:World)(hv:SlT (.slice A l.length cap) l ob)(h0:l=[]->A=none/\cap=0)(hO:Own M W0 W L)(hs:∀ x∈ob,x∈L)(hn:l.length<=900000):YC 86 #[.slice A l.length cap,.string (mkS s)] W λe w'=>∃ v' ob',e= .returned v'/\PutR (.slice A l.length cap) l s v' ob'/\Own [] W w' ob':=by
 by_cases hl:l=[]
 ·obtain ⟨rfl,rfl⟩:=h0 hl
  subst hl
  exact g11put_nil s W
 ·have h1:Reads zW W W.heap.size A l:=SlT.reads hv rfl hO hs
  rcases hv.2 with ⟨e,h0,_⟩|⟨g,c,cur,e,_,h2,_⟩
  ·exact absurd (List.eq_nil_of_length_eq_zero h0) hl
  ·injection e with e1 e2 e3
   subst e3
   exact g11put_cons A cap g 0 l s W e1 hl h2 h1 hn
end
section
def nmF (k:Nat):YL:=if k=0 then dfl else if k=1 then [120] else if k=2 then [121] else [122]
def ItemG (needs:List Nv)(keep:Nat->Bool)(s:YL):Prop:=
 (∃ m∈needs,¬ m.opt=[]/\s=[63]++m.opt)\/(∃ m∈needs,∃ w,m.any=[w]/\s=w.name++[47]++[120])∨∃ j,j<4/\keep j=true/\s=nmF j
structure OfG (needs:List Nv)(keep:Nat->Bool)(l:List YL)(b:Nat):Prop where
 rise:x9 l=true
 len:l.length<=b
 all:∀ s∈l,ItemG needs keep s
theorem OfG.nil (needs:List Nv)(keep:Nat->Bool):OfG needs keep [] 0:=⟨rfl,Nat.le_refl _,λs h=>by simp at h⟩
theorem OfG.more {needs:List Nv}{keep:Nat->Bool}{l:List YL}{b b':Nat}(h:OfG needs keep l b)(hb:b<=b'):OfG needs keep l b':=⟨h.rise,Nat.le_trans h.len hb,h.all⟩
theorem OfG.put {needs:List Nv}{keep:Nat->Bool}{l:List YL}{b:Nat}(h:OfG needs keep l b){s:YL}(hs:ItemG needs keep s):OfG needs keep (yR l s) (b+1):=
 ⟨put_rise h.rise,Nat.le_trans put_len (Nat.add_le_add_right h.len 1),λx hx=>by
  rcases put_mem.1 hx with rfl|hx
  ·exact hs
  ·exact h.all x hx⟩
structure FeatsG (needs:List Nv)(keep:Nat->Bool)(k:Nat)(xs:List Fv):Prop where
 names:xs.map Fv.name=((List.range k).filter keep).map nmF
 each:∀ x∈xs,OfG needs keep x.of 5
theorem FeatsG.nil (needs:List Nv)(keep:Nat->Bool):FeatsG needs keep 0 []:=⟨rfl,λx h=>by simp at h⟩
theorem FeatsG.skip {needs:List Nv}{keep:Nat->Bool}{k:Nat}{xs:List Fv}(h:FeatsG needs keep k xs)(hk:keep k=false):FeatsG needs keep (k+1) xs:=
 ⟨by rw [List.range_succ,List.filter_append,List.map_append,←h.names];simp [hk],h.each⟩
theorem FeatsG.add {needs:List Nv}{keep:Nat->Bool}{k:Nat}{xs:List Fv}(h:FeatsG needs keep k xs)(hk:keep k=true){x:Fv}(hn:x.name=nmF k)(ho:OfG needs keep x.of 5):FeatsG needs keep (k+1) (xs++[x]):=
 ⟨by rw [List.range_succ,List.filter_append,List.map_append,List.map_append,←h.names];simp [hk,hn],λy hy=>by
  rcases List.mem_append.1 hy with hy|hy
  ·exact h.each y hy
  ·rw [List.mem_singleton.1 hy];exact ho⟩
structure OfS (A:Option Addr)(c:Nat)(l:List YL)(o3:List Blk):Prop where
 ex:∃ o,SlT (.slice A l.length c) l o∧∀ b∈o,b∈o3
 bare:l=[]->A=none/\c=0
theorem OfS.nil:OfS none 0 [] []:=⟨⟨[],Sl.nil _ _,λb h=>h⟩,λ_=>⟨rfl,rfl⟩⟩
theorem OfS.more {A:Option Addr}{c:Nat}{l:List YL}{o o':List Blk}(h:OfS A c l o)(hs:∀ b∈o,b∈o'):OfS A c l o':=by
 obtain ⟨⟨q,h1,h2⟩,h3⟩:=h
 exact ⟨⟨q,h1,λb hb=>hs b (h2 b hb)⟩,h3⟩
theorem put_ne (l:List YL)(s:YL):yR l s≠[]:=λe=>by
 have:s∈yR l s:=put_mem.2 (.inl rfl)
 rw [e] at this;simp at this
theorem OfS.put {A:Option Addr}{c:Nat}{l:List YL}{o3 ob:List Blk}{s:YL}{v:Value}(h:OfS A c l o3)(hp:PutR (.slice A l.length c) l s v ob):∃ A' c',v= .slice A' (yR l s).length c'/\OfS A' c' (yR l s) (o3++ob):=by
 rcases hp with ⟨rfl,e,rfl⟩|hp
 ·refine ⟨A,c,by rw [e], ?_⟩
  rw [e]
  exact h.more λb hb=>by simpa using hb
 ·obtain ⟨A',c',rfl⟩:=SlT.form hp
  exact ⟨A',c',rfl,⟨⟨ob,hp,λb hb=>List.mem_append_right _ hb⟩,λe=>absurd e (put_ne l s)⟩⟩
structure FtO (A:Option Addr)(c:Nat)(xs:List Fv)(o7 o2:List Blk):Prop where
 top:Sl 79 2 (.slice A xs.length c) xs.length (xs.flatMap fvC) o7
 each:∀ x∈xs,∃ o,SlT (.slice x.A x.of.length x.cap) x.of o∧∀ b∈o,b∈o2
theorem FtO.nil:FtO none 0 [] [] []:=⟨Sl.nil _ _,λx h=>by simp at h⟩
theorem FtO.more {A:Option Addr}{c:Nat}{xs:List Fv}{o7 o2 o2':List Blk}(h:FtO A c xs o7 o2)(hs:∀ b∈o2,b∈o2'):FtO A c xs o7 o2':=⟨h.top,λx hx=>by
 obtain ⟨o,h1,h2⟩:=h.each x hx
 exact ⟨o,h1,λb hb=>hs b (h2 b hb)⟩⟩
theorem FtO.add {A A':Option Addr}{c c':Nat}{xs:List Fv}{o7 o7' o2:List Blk}{x:Fv}(h:FtO A c xs o7 o2)(ht:Sl 79 2 (.slice A' (xs.length+1) c') (xs.length+1) (xs.flatMap fvC++fvC x) o7')(hx:∃ o,SlT (.slice x.A x.of.length x.cap) x.of o∧∀ b∈o,b∈o2):FtO A' c' (xs++[x]) o7' o2:=
 ⟨by rw [List.length_append,List.length_singleton,List.flatMap_append,List.flatMap_singleton];exact ht,λy hy=>by
  rcases List.mem_append.1 hy with hy|hy
  ·exact h.each y hy
  ·rw [List.mem_singleton.1 hy];exact hx⟩
end
section
theorem gT (x:Nv):(nvC x).length=3:=rfl
theorem qP (x:Wv):(wvC x).length=4:=rfl
theorem nmF_rd:∀ k:Nat,k<4->yS YP 9 #[.string (mkS dfl),.string (mkS [120]),.string (mkS [121]),.string (mkS [122])] (0+(k:Int).toNat*1)=some (.string (mkS (nmF k)))
 |0,_=>by kernel_rfl
 |1,_=>by kernel_rfl
 |2,_=>by kernel_rfl
 |3,_=>by kernel_rfl
abbrev G8b (b:Nat):Blk:=⟨b, #[.string (mkS dfl),.string (mkS [120]),.string (mkS [121]),.string (mkS [122])],143⟩
abbrev G0b (b:Nat)(nm pre bld:YL)(a1 a2 a3:Int)(nA:Option Addr)(nc:Nat)(needs:List Nv)(vb vf:Value):Blk:=⟨b, #[.string (mkS nm),YI a1,YI a2,YI a3,.string (mkS pre),.string (mkS bld),.slice nA needs.length nc,vb,vf],29⟩
abbrev GBb (b k:Nat)(A:Option Addr)(n c:Nat):Blk:=⟨b, #[.string (mkS (nmF k)),.slice A n c],79⟩
theorem features_gen (v:Value)(l:List Int)(i:Nat)(nm pre bld:YL)(a1 a2 a3:Int)(nA:Option Addr)(nc:Nat)(needs:List Nv)(vb vf:Value)(W:World)(hv:ReadsI W W.heap.size v l)(hl:l.length<=9223372036854775807)(hi:i<=5000)
  (hN:Reads nvC W W.heap.size nA needs) (hWs:∀ m∈needs,Reads wvC W W.heap.size m.A m.any) (hlen:needs.length<=1000) (hopt:∀ m∈needs,m.opt.length<=1000) (hnm:∀ m∈needs,∀ w∈m.any,w.name.length<=1000):
  YC 43 #[v,YI (i:Int),.agg #[.string (mkS nm),YI a1,YI a2,YI a3,.string (mkS pre),.string (mkS bld),.slice nA needs.length nc,vb,vf]] W λe w'=>∃ A c xs o7 o2,e= .returned (.slice A xs.length c)/\(FtO A c xs o7 o2/\FeatsG needs (λj=>decide (plc (atL l (i+j)) 3≠0)) 4 xs)/\Own [] W w' (o7++o2):=by
 have fa:∀ (j:Nat),j<=100→∀ w,YB W w->YC 57 #[v,YI ((i+j:Nat):Int)] w (YR (YI (atL l (i+j))) w):=λj hj w hb=>(at_any v l (i+j) w ((hv.below hb).more hb.size) hl Om).mono λ_ _ ⟨e1,e2⟩=>⟨e1,e2▸Below.refl _ _⟩
 have fp:∀ (z:Int) w,YC 16 #[YI z,YI 3] w (YR (YI (plc z 3)) w):=λz w=>(fK z 3 w (by decide) (by decide)).mono λ_ _ ⟨e1,e2⟩=>⟨e1,e2▸Below.refl _ _⟩
 generalize hkeep:(λj=>decide (plc (atL l (i+j)) 3≠0))=keep
 have hk1:∀ j,plc (atL l (i+j)) 3=0->keep j=false:=λj h=>by rw [←hkeep];simp [h]
 have hk2:∀ j,¬ plc (atL l (i+j)) 3=0->keep j=true:=λj h=>by rw [←hkeep];simp [h]
 refine zF Tryz.func43 (x1 [] (λb0=>zQ [] λb8=> ?_))
 refine zX (α:=Nat×List Fv×Option Addr×Nat×List Blk×List Blk) (λ(k,xs,A7,c7,_,_)=>[(0,v),(1,YI (i:Int)),(5,Zp b0 0),(7,.slice A7 xs.length c7),(8,Zp b8 0),(9,YI (k:Int))])
  (λ(_,_,_,_,o7,o2)=>[G8b b8,G0b b0 nm pre bld a1 a2 a3 nA nc needs vb vf]++(o7++o2)) (λ(k,xs,A7,c7,o7,o2) m=>k<=4/\m=4-k/\FtO A7 c7 xs o7 o2/\FeatsG needs keep k xs) (0,[],none,0,[],[]) 4 [0] ⟨by omega,rfl,FtO.nil,FeatsG.nil _ _⟩ ?_
 rintro ⟨k,xs,A7,c7,o7,o2⟩ mm g kk ⟨hk4,hmm,hO7,hG⟩ nx hkk
 subst hkk
 refine zG 16 [] ((k:Int)<4) (λh4=> ?_) (λh4=> ?_)
 rotate_left
 ·obtain rfl:k=4:=by omega
  exact z8 [] _ λw hO=>⟨A7,c7,xs,o7,o2,rfl,⟨hO7,hG⟩,hO.past 2 _⟩
 have hkl:k<4:=by omega
 refine x_i 22 [] ((i+k:Nat):Int) (z7 [] (λw hO=>fa k (by omega) w hO.below) (z7 [] (λw hO=>fp (atL l (i+k)) w) (zG 26 [] (plc (atL l (i+k)) 3=0) (λh3=> ?_) (λh3=> ?_))))
 ·refine x_i 18 [] ((k+1:Nat):Int) (nx (k+1,xs,A7,c7,o7,o2) (4-(k+1)) [] Om ⟨by omega,rfl,hO7,hG.skip (hk1 k h3)⟩ Kr Kr)
 have hxl:xs.length<=4:=by
  have e:=congrArg List.length hG.names
  rw [List.length_map,List.length_map] at e
  have:=List.length_filter_le keep (List.range k)
  rw [List.length_range] at this;omega
 refine x_ixa 28 [] 4 k 1 hkl (x_ldk 29 [] 0 _ _ 9 _ (nmF_rd k hkl) (zQ [] λb11=> ?_))
 refine zV [0] ([GBb b11 k none 0 0,G8b b8,G0b b0 nm pre bld a1 a2 a3 nA nc needs vb vf]++(o7++o2++[])) (λw hO=>(hO.past 0 ([GBb b11 k none 0 0,G8b b8,G0b b0 nm pre bld a1 a2 a3 nA nc needs vb vf]++(o7++o2))).cast (by simp)) ?_
 refine x_loopE (α:=Nat×List YL×Option Addr×Nat×List Blk) (β:=List YL×Option Addr×Nat×List Blk) (λ(j,_,_,_,_)=>[(0,v),(1,YI (i:Int)),(5,Zp b0 0),(7,.slice A7 xs.length c7),(8,Zp b8 0),(9,YI (k:Int)),(10,YI (atL l (i+k))),(11,Zp b11 0),(12,YI (j:Int))]) (λ(_,lst,A,c,o3)=>[GBb b11 k A lst.length c,G8b b8,G0b b0 nm pre bld a1 a2 a3 nA nc needs vb vf]++(o7++o2++o3)) (λ(j,lst,A,c,o3) m=>j<=2/\m=2-j/\OfS A c lst o3/\OfG needs keep lst (2*j)) (0,[],none,0,[]) 2
  (λ_=>[(0,v),(1,YI (i:Int)),(5,.pointer (some ⟨b0,0,none⟩)),(7,.slice A7 xs.length c7),(8,.pointer (some ⟨b8,0,none⟩)),(9,YI (k:Int)),(10,YI (atL l (i+k))),(11,.pointer (some ⟨b11,0,none⟩))]) (λ(lst,A,c,o3)=>[GBb b11 k A lst.length c,G8b b8,G0b b0 nm pre bld a1 a2 a3 nA nc needs vb vf]++(o7++o2++o3)) (λ(lst,A,c,o3)=>OfS A c lst o3/\OfG needs keep lst 4) [] ⟨by omega,rfl,OfS.nil,OfG.nil _ _⟩ ?_ ?_
 ·rintro ⟨j,lst,A,c,o3⟩ m2 g2 ⟨hj2,hm2,hf0,hg0⟩ nx2 nex
  refine zG 35 [2] ((j:Int)<needs.length) (λh35=>zG 38 [] ((j:Int)<2) (λh38=> ?_) (λh38=>nex (lst,A,c,o3) [] ⟨hf0,hg0.more Om⟩ Kr)) (λh35=>nex (lst,A,c,o3) [] ⟨hf0,hg0.more Om⟩ Kr)
  obtain rfl|rfl:j=0\/j=1:=by omega
  ·have hJ:0<needs.length:=by omega
   obtain ⟨nb,no,hnA,hnl⟩:=hN.elem gT 0 hJ
   have hmm:needs[0]∈needs:=List.getElem_mem hJ
   generalize needs[0]=md at hnl hmm
   have hol:=hopt md hmm
   refine zO 45 [2] hnA needs.length nc 0 3 hJ (zL 46 [] 75 nb (no+0*3+0) (nvV md) (λw hO=>hnl w hO.below _ 0 _ Kr) (zQ [] λb13=>vJ 49 [0,0] md.opt [] (λh49=> ?_) (λh49=>x_tst 57 [] ?_ ?_)))
   ·refine zG 69 [0] ((md.any.length:Int)=1) (λh69=>x_tst 77 [] ?_ ?_) (λh69=> ?_)
    ·obtain ⟨wd,hwd⟩:∃ w,md.any=[w]:=List.length_eq_one_iff.1 Om
     obtain ⟨wb,wo,hwA,hwl⟩:=(hWs md hmm).elem qP 0 Om
     obtain ⟨q0,hs0,hb0⟩:=hf0.ex
     have hwn:wd.name.length<=1000:=hnm md hmm wd (by simp [hwd])
     have hw0:md.any[0]'Om=wd:=by simp [hwd]
     refine dS 10 [] (q9 50083 [1,0] 4 hwA md.any.length md.cap 0 4 Om (gY 50085 [] 6 9 wb (wo+0*4+0) (.string (mkS wd.name)) (λw hO=>hwl w hO.below _ 0 _ (by rw [hw0];kernel_rfl)) (jA 50086 [] 7 wd.name [47] (jA 50087 [] 8 (wd.name++[47]) [120] (yJ [] 9 (qE (R:=PutR (.slice A lst.length c) lst (wd.name++[47]++[120])) (λw hO=>qD (ob:=q0) (wd.name++[47]++[120]) w hs0 hf0.bare (hO.past 4 (o7++o2++o3)) (λb hb=>by have:=hb0 b hb;simp only [List.mem_append] at this ⊢;grind) (by have:=hg0.len;omega)) ?_))))))
     rintro _ ob0b hp0b
     obtain ⟨A0b,c0b,rfl,hf0b⟩:=hf0.put hp0b
     have hg0b:=hg0.put (.inr (.inl ⟨md,hmm,wd,hwd,rfl⟩))
     exact zV [1] ([GBb b11 k A0b ((yR lst (wd.name++[47]++[120])).length) c0b,G8b b8,G0b b0 nm pre bld a1 a2 a3 nA nc needs vb vf]++(o7++o2++(o3++ob0b))) (λw hO=>(hO.past 1 (([GBb b11 k A0b ((yR lst (wd.name++[47]++[120])).length) c0b,G8b b8,G0b b0 nm pre bld a1 a2 a3 nA nc needs vb vf]++(o7++o2++o3))++ob0b)).cast (by simp only [List.append_assoc,List.cons_append,List.nil_append])) (nx2 (1,(yR lst (wd.name++[47]++[120])),A0b,c0b,(o3++ob0b)) 1 [] Om ⟨by omega,rfl,hf0b,hg0b.more Om⟩ Kr Kr)
    ·exact zV [] ([GBb b11 k A lst.length c,G8b b8,G0b b0 nm pre bld a1 a2 a3 nA nc needs vb vf]++(o7++o2++o3)) (λw hO=>(hO.past 1 ([GBb b11 k A lst.length c,G8b b8,G0b b0 nm pre bld a1 a2 a3 nA nc needs vb vf]++(o7++o2++o3))).cast (by simp only [List.append_assoc,List.cons_append,List.nil_append])) (nx2 (1,lst,A,c,o3) 1 [] Om ⟨by omega,rfl,hf0,hg0.more Om⟩ Kr Kr)
    ·exact zV [] ([GBb b11 k A lst.length c,G8b b8,G0b b0 nm pre bld a1 a2 a3 nA nc needs vb vf]++(o7++o2++o3)) (λw hO=>(hO.past 1 ([GBb b11 k A lst.length c,G8b b8,G0b b0 nm pre bld a1 a2 a3 nA nc needs vb vf]++(o7++o2++o3))).cast (by simp only [List.append_assoc,List.cons_append,List.nil_append])) (nx2 (1,lst,A,c,o3) 1 [] Om ⟨by omega,rfl,hf0,hg0.more Om⟩ Kr Kr)
   ·obtain ⟨q0,hs0,hb0⟩:=hf0.ex
    refine xB 63 [1,0] [63] md.opt (k7 (R:=PutR (.slice A lst.length c) lst ([63]++md.opt)) [] (λw hO=>qD (ob:=q0) ([63]++md.opt) w hs0 hf0.bare (hO.past 4 (o7++o2++o3)) (λb hb=>by have:=hb0 b hb;simp only [List.mem_append] at this ⊢;grind) (by have:=hg0.len;omega)) ?_)
    rintro _ oba hpa
    obtain ⟨Aa,ca,rfl,hfa⟩:=hf0.put hpa
    have hga:=hg0.put (.inl ⟨md,hmm,h49,rfl⟩)
    refine zG 69 [1,0] ((md.any.length:Int)=1) (λh69=>x_tst 77 [] ?_ ?_) (λh69=> ?_)
    ·obtain ⟨wd,hwd⟩:∃ w,md.any=[w]:=List.length_eq_one_iff.1 Om
     obtain ⟨wb,wo,hwA,hwl⟩:=(hWs md hmm).elem qP 0 Om
     obtain ⟨qa,hsa,hba⟩:=hfa.ex
     have hwn:wd.name.length<=1000:=hnm md hmm wd (by simp [hwd])
     have hw0:md.any[0]'Om=wd:=by simp [hwd]
     refine dS 10 [] (q9 50083 [1,0] 4 hwA md.any.length md.cap 0 4 Om (gY 50085 [] 6 9 wb (wo+0*4+0) (.string (mkS wd.name)) (λw hO=>hwl w hO.below _ 0 _ (by rw [hw0];kernel_rfl)) (jA 50086 [] 7 wd.name [47] (jA 50087 [] 8 (wd.name++[47]) [120] (yJ [] 9 (qE (R:=PutR (.slice Aa (yR lst ([63]++md.opt)).length ca) (yR lst ([63]++md.opt)) (wd.name++[47]++[120])) (λw hO=>qD (ob:=qa) (wd.name++[47]++[120]) w hsa hfa.bare (hO.past 4 ((o7++o2++o3)++oba)) (λb hb=>by have:=hba b hb;simp only [List.mem_append] at this ⊢;grind) (by have:=hga.len;omega)) ?_))))))
     rintro _ obab hpab
     obtain ⟨Aab,cab,rfl,hfab⟩:=hfa.put hpab
     have hgab:=hga.put (.inr (.inl ⟨md,hmm,wd,hwd,rfl⟩))
     exact zV [1] ([GBb b11 k Aab ((yR (yR lst ([63]++md.opt)) (wd.name++[47]++[120])).length) cab,G8b b8,G0b b0 nm pre bld a1 a2 a3 nA nc needs vb vf]++(o7++o2++((o3++oba)++obab))) (λw hO=>(hO.past 1 ((([GBb b11 k Aab ((yR (yR lst ([63]++md.opt)) (wd.name++[47]++[120])).length) cab,G8b b8,G0b b0 nm pre bld a1 a2 a3 nA nc needs vb vf]++(o7++o2++o3))++oba)++obab)).cast (by simp only [List.append_assoc,List.cons_append,List.nil_append])) (nx2 (1,(yR (yR lst ([63]++md.opt)) (wd.name++[47]++[120])),Aab,cab,((o3++oba)++obab)) 1 [] Om ⟨by omega,rfl,hfab,hgab.more Om⟩ Kr Kr)
    ·exact zV [] ([GBb b11 k Aa ((yR lst ([63]++md.opt)).length) ca,G8b b8,G0b b0 nm pre bld a1 a2 a3 nA nc needs vb vf]++(o7++o2++(o3++oba))) (λw hO=>(hO.past 1 (([GBb b11 k Aa ((yR lst ([63]++md.opt)).length) ca,G8b b8,G0b b0 nm pre bld a1 a2 a3 nA nc needs vb vf]++(o7++o2++o3))++oba)).cast (by simp only [List.append_assoc,List.cons_append,List.nil_append])) (nx2 (1,(yR lst ([63]++md.opt)),Aa,ca,(o3++oba)) 1 [] Om ⟨by omega,rfl,hfa,hga.more Om⟩ Kr Kr)
    ·exact zV [] ([GBb b11 k Aa ((yR lst ([63]++md.opt)).length) ca,G8b b8,G0b b0 nm pre bld a1 a2 a3 nA nc needs vb vf]++(o7++o2++(o3++oba))) (λw hO=>(hO.past 1 (([GBb b11 k Aa ((yR lst ([63]++md.opt)).length) ca,G8b b8,G0b b0 nm pre bld a1 a2 a3 nA nc needs vb vf]++(o7++o2++o3))++oba)).cast (by simp only [List.append_assoc,List.cons_append,List.nil_append])) (nx2 (1,(yR lst ([63]++md.opt)),Aa,ca,(o3++oba)) 1 [] Om ⟨by omega,rfl,hfa,hga.more Om⟩ Kr Kr)
   ·refine zG 69 [0] ((md.any.length:Int)=1) (λh69=>x_tst 77 [] ?_ ?_) (λh69=> ?_)
    ·obtain ⟨wd,hwd⟩:∃ w,md.any=[w]:=List.length_eq_one_iff.1 Om
     obtain ⟨wb,wo,hwA,hwl⟩:=(hWs md hmm).elem qP 0 Om
     obtain ⟨q0,hs0,hb0⟩:=hf0.ex
     have hwn:wd.name.length<=1000:=hnm md hmm wd (by simp [hwd])
     have hw0:md.any[0]'Om=wd:=by simp [hwd]
     refine dS 10 [] (q9 50083 [1,0] 4 hwA md.any.length md.cap 0 4 Om (gY 50085 [] 6 9 wb (wo+0*4+0) (.string (mkS wd.name)) (λw hO=>hwl w hO.below _ 0 _ (by rw [hw0];kernel_rfl)) (jA 50086 [] 7 wd.name [47] (jA 50087 [] 8 (wd.name++[47]) [120] (yJ [] 9 (qE (R:=PutR (.slice A lst.length c) lst (wd.name++[47]++[120])) (λw hO=>qD (ob:=q0) (wd.name++[47]++[120]) w hs0 hf0.bare (hO.past 4 (o7++o2++o3)) (λb hb=>by have:=hb0 b hb;simp only [List.mem_append] at this ⊢;grind) (by have:=hg0.len;omega)) ?_))))))
     rintro _ ob0b hp0b
     obtain ⟨A0b,c0b,rfl,hf0b⟩:=hf0.put hp0b
     have hg0b:=hg0.put (.inr (.inl ⟨md,hmm,wd,hwd,rfl⟩))
     exact zV [1] ([GBb b11 k A0b ((yR lst (wd.name++[47]++[120])).length) c0b,G8b b8,G0b b0 nm pre bld a1 a2 a3 nA nc needs vb vf]++(o7++o2++(o3++ob0b))) (λw hO=>(hO.past 1 (([GBb b11 k A0b ((yR lst (wd.name++[47]++[120])).length) c0b,G8b b8,G0b b0 nm pre bld a1 a2 a3 nA nc needs vb vf]++(o7++o2++o3))++ob0b)).cast (by simp only [List.append_assoc,List.cons_append,List.nil_append])) (nx2 (1,(yR lst (wd.name++[47]++[120])),A0b,c0b,(o3++ob0b)) 1 [] Om ⟨by omega,rfl,hf0b,hg0b.more Om⟩ Kr Kr)
    ·exact zV [] ([GBb b11 k A lst.length c,G8b b8,G0b b0 nm pre bld a1 a2 a3 nA nc needs vb vf]++(o7++o2++o3)) (λw hO=>(hO.past 1 ([GBb b11 k A lst.length c,G8b b8,G0b b0 nm pre bld a1 a2 a3 nA nc needs vb vf]++(o7++o2++o3))).cast (by simp only [List.append_assoc,List.cons_append,List.nil_append])) (nx2 (1,lst,A,c,o3) 1 [] Om ⟨by omega,rfl,hf0,hg0.more Om⟩ Kr Kr)
    ·exact zV [] ([GBb b11 k A lst.length c,G8b b8,G0b b0 nm pre bld a1 a2 a3 nA nc needs vb vf]++(o7++o2++o3)) (λw hO=>(hO.past 1 ([GBb b11 k A lst.length c,G8b b8,G0b b0 nm pre bld a1 a2 a3 nA nc needs vb vf]++(o7++o2++o3))).cast (by simp only [List.append_assoc,List.cons_append,List.nil_append])) (nx2 (1,lst,A,c,o3) 1 [] Om ⟨by omega,rfl,hf0,hg0.more Om⟩ Kr Kr)
  ·have hJ:1<needs.length:=by omega
   obtain ⟨nb,no,hnA,hnl⟩:=hN.elem gT 1 hJ
   have hmm:needs[1]∈needs:=List.getElem_mem hJ
   generalize needs[1]=md at hnl hmm
   have hol:=hopt md hmm
   refine zO 45 [2] hnA needs.length nc 1 3 hJ (zL 46 [] 75 nb (no+1*3+0) (nvV md) (λw hO=>hnl w hO.below _ 0 _ Kr) (zQ [] λb13=>vJ 49 [0,0] md.opt [] (λh49=> ?_) (λh49=>x_tst 57 [] ?_ ?_)))
   ·refine zG 69 [0] ((md.any.length:Int)=1) (λh69=>x_tst 77 [] ?_ ?_) (λh69=> ?_)
    ·obtain ⟨wd,hwd⟩:∃ w,md.any=[w]:=List.length_eq_one_iff.1 Om
     obtain ⟨wb,wo,hwA,hwl⟩:=(hWs md hmm).elem qP 0 Om
     obtain ⟨q0,hs0,hb0⟩:=hf0.ex
     have hwn:wd.name.length<=1000:=hnm md hmm wd (by simp [hwd])
     have hw0:md.any[0]'Om=wd:=by simp [hwd]
     refine dS 10 [] (q9 50083 [1,0] 4 hwA md.any.length md.cap 0 4 Om (gY 50085 [] 6 9 wb (wo+0*4+0) (.string (mkS wd.name)) (λw hO=>hwl w hO.below _ 0 _ (by rw [hw0];kernel_rfl)) (jA 50086 [] 7 wd.name [47] (jA 50087 [] 8 (wd.name++[47]) [120] (yJ [] 9 (qE (R:=PutR (.slice A lst.length c) lst (wd.name++[47]++[120])) (λw hO=>qD (ob:=q0) (wd.name++[47]++[120]) w hs0 hf0.bare (hO.past 4 (o7++o2++o3)) (λb hb=>by have:=hb0 b hb;simp only [List.mem_append] at this ⊢;grind) (by have:=hg0.len;omega)) ?_))))))
     rintro _ ob0b hp0b
     obtain ⟨A0b,c0b,rfl,hf0b⟩:=hf0.put hp0b
     have hg0b:=hg0.put (.inr (.inl ⟨md,hmm,wd,hwd,rfl⟩))
     exact zV [1] ([GBb b11 k A0b ((yR lst (wd.name++[47]++[120])).length) c0b,G8b b8,G0b b0 nm pre bld a1 a2 a3 nA nc needs vb vf]++(o7++o2++(o3++ob0b))) (λw hO=>(hO.past 1 (([GBb b11 k A0b ((yR lst (wd.name++[47]++[120])).length) c0b,G8b b8,G0b b0 nm pre bld a1 a2 a3 nA nc needs vb vf]++(o7++o2++o3))++ob0b)).cast (by simp only [List.append_assoc,List.cons_append,List.nil_append])) (nx2 (2,(yR lst (wd.name++[47]++[120])),A0b,c0b,(o3++ob0b)) 0 [] Om ⟨by omega,rfl,hf0b,hg0b.more Om⟩ Kr Kr)
    ·exact zV [] ([GBb b11 k A lst.length c,G8b b8,G0b b0 nm pre bld a1 a2 a3 nA nc needs vb vf]++(o7++o2++o3)) (λw hO=>(hO.past 1 ([GBb b11 k A lst.length c,G8b b8,G0b b0 nm pre bld a1 a2 a3 nA nc needs vb vf]++(o7++o2++o3))).cast (by simp only [List.append_assoc,List.cons_append,List.nil_append])) (nx2 (2,lst,A,c,o3) 0 [] Om ⟨by omega,rfl,hf0,hg0.more Om⟩ Kr Kr)
    ·exact zV [] ([GBb b11 k A lst.length c,G8b b8,G0b b0 nm pre bld a1 a2 a3 nA nc needs vb vf]++(o7++o2++o3)) (λw hO=>(hO.past 1 ([GBb b11 k A lst.length c,G8b b8,G0b b0 nm pre bld a1 a2 a3 nA nc needs vb vf]++(o7++o2++o3))).cast (by simp only [List.append_assoc,List.cons_append,List.nil_append])) (nx2 (2,lst,A,c,o3) 0 [] Om ⟨by omega,rfl,hf0,hg0.more Om⟩ Kr Kr)
   ·obtain ⟨q0,hs0,hb0⟩:=hf0.ex
    refine xB 63 [1,0] [63] md.opt (k7 (R:=PutR (.slice A lst.length c) lst ([63]++md.opt)) [] (λw hO=>qD (ob:=q0) ([63]++md.opt) w hs0 hf0.bare (hO.past 4 (o7++o2++o3)) (λb hb=>by have:=hb0 b hb;simp only [List.mem_append] at this ⊢;grind) (by have:=hg0.len;omega)) ?_)
    rintro _ oba hpa
    obtain ⟨Aa,ca,rfl,hfa⟩:=hf0.put hpa
    have hga:=hg0.put (.inl ⟨md,hmm,h49,rfl⟩)
    refine zG 69 [1,0] ((md.any.length:Int)=1) (λh69=>x_tst 77 [] ?_ ?_) (λh69=> ?_)
    ·obtain ⟨wd,hwd⟩:∃ w,md.any=[w]:=List.length_eq_one_iff.1 Om
     obtain ⟨wb,wo,hwA,hwl⟩:=(hWs md hmm).elem qP 0 Om
     obtain ⟨qa,hsa,hba⟩:=hfa.ex
     have hwn:wd.name.length<=1000:=hnm md hmm wd (by simp [hwd])
     have hw0:md.any[0]'Om=wd:=by simp [hwd]
     refine dS 10 [] (q9 50083 [1,0] 4 hwA md.any.length md.cap 0 4 Om (gY 50085 [] 6 9 wb (wo+0*4+0) (.string (mkS wd.name)) (λw hO=>hwl w hO.below _ 0 _ (by rw [hw0];kernel_rfl)) (jA 50086 [] 7 wd.name [47] (jA 50087 [] 8 (wd.name++[47]) [120] (yJ [] 9 (qE (R:=PutR (.slice Aa (yR lst ([63]++md.opt)).length ca) (yR lst ([63]++md.opt)) (wd.name++[47]++[120])) (λw hO=>qD (ob:=qa) (wd.name++[47]++[120]) w hsa hfa.bare (hO.past 4 ((o7++o2++o3)++oba)) (λb hb=>by have:=hba b hb;simp only [List.mem_append] at this ⊢;grind) (by have:=hga.len;omega)) ?_))))))
     rintro _ obab hpab
     obtain ⟨Aab,cab,rfl,hfab⟩:=hfa.put hpab
     have hgab:=hga.put (.inr (.inl ⟨md,hmm,wd,hwd,rfl⟩))
     exact zV [1] ([GBb b11 k Aab ((yR (yR lst ([63]++md.opt)) (wd.name++[47]++[120])).length) cab,G8b b8,G0b b0 nm pre bld a1 a2 a3 nA nc needs vb vf]++(o7++o2++((o3++oba)++obab))) (λw hO=>(hO.past 1 ((([GBb b11 k Aab ((yR (yR lst ([63]++md.opt)) (wd.name++[47]++[120])).length) cab,G8b b8,G0b b0 nm pre bld a1 a2 a3 nA nc needs vb vf]++(o7++o2++o3))++oba)++obab)).cast (by simp only [List.append_assoc,List.cons_append,List.nil_append])) (nx2 (2,(yR (yR lst ([63]++md.opt)) (wd.name++[47]++[120])),Aab,cab,((o3++oba)++obab)) 0 [] Om ⟨by omega,rfl,hfab,hgab.more Om⟩ Kr Kr)
    ·exact zV [] ([GBb b11 k Aa ((yR lst ([63]++md.opt)).length) ca,G8b b8,G0b b0 nm pre bld a1 a2 a3 nA nc needs vb vf]++(o7++o2++(o3++oba))) (λw hO=>(hO.past 1 (([GBb b11 k Aa ((yR lst ([63]++md.opt)).length) ca,G8b b8,G0b b0 nm pre bld a1 a2 a3 nA nc needs vb vf]++(o7++o2++o3))++oba)).cast (by simp only [List.append_assoc,List.cons_append,List.nil_append])) (nx2 (2,(yR lst ([63]++md.opt)),Aa,ca,(o3++oba)) 0 [] Om ⟨by omega,rfl,hfa,hga.more Om⟩ Kr Kr)
    ·exact zV [] ([GBb b11 k Aa ((yR lst ([63]++md.opt)).length) ca,G8b b8,G0b b0 nm pre bld a1 a2 a3 nA nc needs vb vf]++(o7++o2++(o3++oba))) (λw hO=>(hO.past 1 (([GBb b11 k Aa ((yR lst ([63]++md.opt)).length) ca,G8b b8,G0b b0 nm pre bld a1 a2 a3 nA nc needs vb vf]++(o7++o2++o3))++oba)).cast (by simp only [List.append_assoc,List.cons_append,List.nil_append])) (nx2 (2,(yR lst ([63]++md.opt)),Aa,ca,(o3++oba)) 0 [] Om ⟨by omega,rfl,hfa,hga.more Om⟩ Kr Kr)
   ·refine zG 69 [0] ((md.any.length:Int)=1) (λh69=>x_tst 77 [] ?_ ?_) (λh69=> ?_)
    ·obtain ⟨wd,hwd⟩:∃ w,md.any=[w]:=List.length_eq_one_iff.1 Om
     obtain ⟨wb,wo,hwA,hwl⟩:=(hWs md hmm).elem qP 0 Om
     obtain ⟨q0,hs0,hb0⟩:=hf0.ex
     have hwn:wd.name.length<=1000:=hnm md hmm wd (by simp [hwd])
     have hw0:md.any[0]'Om=wd:=by simp [hwd]
     refine dS 10 [] (q9 50083 [1,0] 4 hwA md.any.length md.cap 0 4 Om (gY 50085 [] 6 9 wb (wo+0*4+0) (.string (mkS wd.name)) (λw hO=>hwl w hO.below _ 0 _ (by rw [hw0];kernel_rfl)) (jA 50086 [] 7 wd.name [47] (jA 50087 [] 8 (wd.name++[47]) [120] (yJ [] 9 (qE (R:=PutR (.slice A lst.length c) lst (wd.name++[47]++[120])) (λw hO=>qD (ob:=q0) (wd.name++[47]++[120]) w hs0 hf0.bare (hO.past 4 (o7++o2++o3)) (λb hb=>by have:=hb0 b hb;simp only [List.mem_append] at this ⊢;grind) (by have:=hg0.len;omega)) ?_))))))
     rintro _ ob0b hp0b
     obtain ⟨A0b,c0b,rfl,hf0b⟩:=hf0.put hp0b
     have hg0b:=hg0.put (.inr (.inl ⟨md,hmm,wd,hwd,rfl⟩))
     exact zV [1] ([GBb b11 k A0b ((yR lst (wd.name++[47]++[120])).length) c0b,G8b b8,G0b b0 nm pre bld a1 a2 a3 nA nc needs vb vf]++(o7++o2++(o3++ob0b))) (λw hO=>(hO.past 1 (([GBb b11 k A0b ((yR lst (wd.name++[47]++[120])).length) c0b,G8b b8,G0b b0 nm pre bld a1 a2 a3 nA nc needs vb vf]++(o7++o2++o3))++ob0b)).cast (by simp only [List.append_assoc,List.cons_append,List.nil_append])) (nx2 (2,(yR lst (wd.name++[47]++[120])),A0b,c0b,(o3++ob0b)) 0 [] Om ⟨by omega,rfl,hf0b,hg0b.more Om⟩ Kr Kr)
    ·exact zV [] ([GBb b11 k A lst.length c,G8b b8,G0b b0 nm pre bld a1 a2 a3 nA nc needs vb vf]++(o7++o2++o3)) (λw hO=>(hO.past 1 ([GBb b11 k A lst.length c,G8b b8,G0b b0 nm pre bld a1 a2 a3 nA nc needs vb vf]++(o7++o2++o3))).cast (by simp only [List.append_assoc,List.cons_append,List.nil_append])) (nx2 (2,lst,A,c,o3) 0 [] Om ⟨by omega,rfl,hf0,hg0.more Om⟩ Kr Kr)
    ·exact zV [] ([GBb b11 k A lst.length c,G8b b8,G0b b0 nm pre bld a1 a2 a3 nA nc needs vb vf]++(o7++o2++o3)) (λw hO=>(hO.past 1 ([GBb b11 k A lst.length c,G8b b8,G0b b0 nm pre bld a1 a2 a3 nA nc needs vb vf]++(o7++o2++o3))).cast (by simp only [List.append_assoc,List.cons_append,List.nil_append])) (nx2 (2,lst,A,c,o3) 0 [] Om ⟨by omega,rfl,hf0,hg0.more Om⟩ Kr Kr)
 ·rintro ⟨lst,A,c,o3⟩ g2 ⟨hf0,hg0⟩
  refine zG 91 [] ((k:Int)<3) (λh91=>x_tst 96 [] (x_i 102 [] ((i+k:Nat):Int) (x_i 103 [] ((i+(k+1):Nat):Int) (z7 [] (λw hO=>fa (k+1) (by omega) w hO.below) (z7 [] (λw hO=>fp (atL l (i+(k+1))) w) (vK 106 [] (plc (atL l (i+(k+1))) 3=0) (λh5=> ?_) (λh5=> ?_)))))) ?_) (λh91=> ?_)
  ·refine jT [0] 1 79 #[.string (mkS (nmF k)),.slice A lst.length c] (λb12=>x_app [] [GBb b12 k A lst.length c,GBb b11 k A lst.length c,G8b b8,G0b b0 nm pre bld a1 a2 a3 nA nc needs vb vf] o7 (o2++o3) 0 (GBb b12 k A lst.length c::([GBb b11 k A lst.length c,G8b b8,G0b b0 nm pre bld a1 a2 a3 nA nc needs vb vf]++(o7++o2++o3))) (λw hO=>hO.cast (by simp only [List.append_assoc,List.cons_append,List.nil_append])) hO7.top (m:=1) (cp:=1) Om λv' o7' hS=> ?_)
   obtain ⟨A8,c8,rfl⟩:=Sl.form hS
   obtain ⟨q0,hs0,hb0⟩:=hf0.ex
   exact gU 7 [] (.slice A8 (xs.length+1) c8) (.slice A8 (xs++[(⟨nmF k,A,lst,c⟩:Fv)]).length c8) (by simp) (x_i 18 [] ((k+1:Nat):Int) (zV [] ([G8b b8,G0b b0 nm pre bld a1 a2 a3 nA nc needs vb vf]++(o7'++(o2++o3))) (λw hO=>(hO.past 2 ([G8b b8,G0b b0 nm pre bld a1 a2 a3 nA nc needs vb vf]++o7'++(o2++o3))).cast (by simp only [List.append_assoc,List.cons_append,List.nil_append])) (nx (k+1,xs++[⟨nmF k,A,lst,c⟩],A8,c8,o7',(o2++o3)) (4-(k+1)) [] Om ⟨by omega,rfl,(hO7.more (o2':=(o2++o3)) (λb hb=>by simp [hb])).add (x:=⟨nmF k,A,lst,c⟩) hS ⟨q0,hs0,λb hb=>by have:=hb0 b hb;simp only [List.mem_append] at this ⊢;grind⟩,hG.add (hk2 k h3) rfl (hg0.more Om)⟩ Kr Kr)))
  ·obtain ⟨q0,hs0,hb0⟩:=hf0.ex
   refine dS 7 [] (x_i 111 [0] ((k+1:Nat):Int) (xh_ixa 50112 [] 4 4 (k+1) 1 Om (xh_ldk 50113 [] 5 1 _ _ 9 _ (nmF_rd (k+1) Om) (yJ [] 6 (qE (R:=PutR (.slice A lst.length c) lst (nmF (k+1))) (λw hO=>qD (ob:=q0) (nmF (k+1)) w hs0 hf0.bare (hO.past 3 (o7++o2++o3)) (λb hb=>by have:=hb0 b hb;simp only [List.mem_append] at this ⊢;grind) (by have:=hg0.len;omega)) ?_)))))
   rintro _ oba hpa
   obtain ⟨Aa,ca,rfl,hfa⟩:=hf0.put hpa
   have hga:=hg0.put (.inr (.inr ⟨k+1,by omega,hk2 (k+1) h5,rfl⟩))
   refine jT [0,0] 1 79 #[.string (mkS (nmF k)),.slice Aa (yR lst (nmF (k+1))).length ca] (λb12=>x_app [] [GBb b12 k Aa ((yR lst (nmF (k+1))).length) ca,GBb b11 k Aa ((yR lst (nmF (k+1))).length) ca,G8b b8,G0b b0 nm pre bld a1 a2 a3 nA nc needs vb vf] o7 (o2++o3++oba) 0 (GBb b12 k Aa ((yR lst (nmF (k+1))).length) ca::(([GBb b11 k Aa ((yR lst (nmF (k+1))).length) ca,G8b b8,G0b b0 nm pre bld a1 a2 a3 nA nc needs vb vf]++(o7++o2++o3))++oba)) (λw hO=>hO.cast (by simp only [List.append_assoc,List.cons_append,List.nil_append])) hO7.top (m:=1) (cp:=1) Om λv' o7' hS=> ?_)
   obtain ⟨A8,c8,rfl⟩:=Sl.form hS
   obtain ⟨qa,hsa,hba⟩:=hfa.ex
   exact gU 7 [] (.slice A8 (xs.length+1) c8) (.slice A8 (xs++[(⟨nmF k,Aa,(yR lst (nmF (k+1))),ca⟩:Fv)]).length c8) (by simp) (x_i 18 [] ((k+1:Nat):Int) (zV [] ([G8b b8,G0b b0 nm pre bld a1 a2 a3 nA nc needs vb vf]++(o7'++(o2++o3++oba))) (λw hO=>(hO.past 2 ([G8b b8,G0b b0 nm pre bld a1 a2 a3 nA nc needs vb vf]++o7'++(o2++o3++oba))).cast (by simp only [List.append_assoc,List.cons_append,List.nil_append])) (nx (k+1,xs++[⟨nmF k,Aa,(yR lst (nmF (k+1))),ca⟩],A8,c8,o7',(o2++o3++oba)) (4-(k+1)) [] Om ⟨by omega,rfl,(hO7.more (o2':=(o2++o3++oba)) (λb hb=>by simp [hb])).add (x:=⟨nmF k,Aa,(yR lst (nmF (k+1))),ca⟩) hS ⟨qa,hsa,λb hb=>by have:=hba b hb;simp only [List.mem_append] at this ⊢;grind⟩,hG.add (hk2 k h3) rfl (hga.more Om)⟩ Kr Kr)))
  ·refine jT [0] 1 79 #[.string (mkS (nmF k)),.slice A lst.length c] (λb12=>x_app [] [GBb b12 k A lst.length c,GBb b11 k A lst.length c,G8b b8,G0b b0 nm pre bld a1 a2 a3 nA nc needs vb vf] o7 (o2++o3) 0 (GBb b12 k A lst.length c::([GBb b11 k A lst.length c,G8b b8,G0b b0 nm pre bld a1 a2 a3 nA nc needs vb vf]++(o7++o2++o3))) (λw hO=>hO.cast (by simp only [List.append_assoc,List.cons_append,List.nil_append])) hO7.top (m:=1) (cp:=1) Om λv' o7' hS=> ?_)
   obtain ⟨A8,c8,rfl⟩:=Sl.form hS
   obtain ⟨q0,hs0,hb0⟩:=hf0.ex
   exact gU 7 [] (.slice A8 (xs.length+1) c8) (.slice A8 (xs++[(⟨nmF k,A,lst,c⟩:Fv)]).length c8) (by simp) (x_i 18 [] ((k+1:Nat):Int) (zV [] ([G8b b8,G0b b0 nm pre bld a1 a2 a3 nA nc needs vb vf]++(o7'++(o2++o3))) (λw hO=>(hO.past 2 ([G8b b8,G0b b0 nm pre bld a1 a2 a3 nA nc needs vb vf]++o7'++(o2++o3))).cast (by simp only [List.append_assoc,List.cons_append,List.nil_append])) (nx (k+1,xs++[⟨nmF k,A,lst,c⟩],A8,c8,o7',(o2++o3)) (4-(k+1)) [] Om ⟨by omega,rfl,(hO7.more (o2':=(o2++o3)) (λb hb=>by simp [hb])).add (x:=⟨nmF k,A,lst,c⟩) hS ⟨q0,hs0,λb hb=>by have:=hb0 b hb;simp only [List.mem_append] at this ⊢;grind⟩,hG.add (hk2 k h3) rfl (hg0.more Om)⟩ Kr Kr)))
  ·refine jT [0] 1 79 #[.string (mkS (nmF k)),.slice A lst.length c] (λb12=>x_app [] [GBb b12 k A lst.length c,GBb b11 k A lst.length c,G8b b8,G0b b0 nm pre bld a1 a2 a3 nA nc needs vb vf] o7 (o2++o3) 0 (GBb b12 k A lst.length c::([GBb b11 k A lst.length c,G8b b8,G0b b0 nm pre bld a1 a2 a3 nA nc needs vb vf]++(o7++o2++o3))) (λw hO=>hO.cast (by simp only [List.append_assoc,List.cons_append,List.nil_append])) hO7.top (m:=1) (cp:=1) Om λv' o7' hS=> ?_)
   obtain ⟨A8,c8,rfl⟩:=Sl.form hS
   obtain ⟨q0,hs0,hb0⟩:=hf0.ex
   exact gU 7 [] (.slice A8 (xs.length+1) c8) (.slice A8 (xs++[(⟨nmF k,A,lst,c⟩:Fv)]).length c8) (by simp) (x_i 18 [] ((k+1:Nat):Int) (zV [] ([G8b b8,G0b b0 nm pre bld a1 a2 a3 nA nc needs vb vf]++(o7'++(o2++o3))) (λw hO=>(hO.past 2 ([G8b b8,G0b b0 nm pre bld a1 a2 a3 nA nc needs vb vf]++o7'++(o2++o3))).cast (by simp only [List.append_assoc,List.cons_append,List.nil_append])) (nx (k+1,xs++[⟨nmF k,A,lst,c⟩],A8,c8,o7',(o2++o3)) (4-(k+1)) [] Om ⟨by omega,rfl,(hO7.more (o2':=(o2++o3)) (λb hb=>by simp [hb])).add (x:=⟨nmF k,A,lst,c⟩) hS ⟨q0,hs0,λb hb=>by have:=hb0 b hb;simp only [List.mem_append] at this ⊢;grind⟩,hG.add (hk2 k h3) rfl (hg0.more Om)⟩ Kr Kr)))
end
section
structure Bv where
 name:YL
 rng:YL
 wh:YL
def bvC (x:Bv):List Value:=[.string (mkS x.name),.string (mkS x.rng),.string (mkS x.wh)]
structure BarG (own:Nat)(x:Bv):Prop where
 name:∃ k,k<4/\x.name=zN ((own+1+k) % 5)
 rng:FewT x.rng
 wh:WhenT x.wh
structure NsO (A:Option Addr)(c:Nat)(xs:List Nv)(o1 o2:List Blk):Prop where
 top:Sl 75 3 (.slice A xs.length c) xs.length (xs.flatMap nvC) o1
 each:∀ x∈xs,∃ o,WsO x.A x.cap x.any o∧∀ b∈o,b∈o2
theorem NsO.nil:NsO none 0 [] [] []:=⟨Sl.nil _ _,λx h=>by simp at h⟩
theorem NsO.add {A A':Option Addr}{c c':Nat}{xs:List Nv}{o1 o1' o2 ob:List Blk}{x:Nv}(h:NsO A c xs o1 o2)(ht:Sl 75 3 (.slice A' (xs.length+1) c') (xs.length+1) (xs.flatMap nvC++nvC x) o1')(hx:WsO x.A x.cap x.any ob):NsO A' c' (xs++[x]) o1' (o2++ob):=
 ⟨by rw [List.length_append,List.length_singleton,List.flatMap_append,List.flatMap_singleton];exact ht,λy hy=>by
  rcases List.mem_append.1 hy with hy|hy
  ·obtain ⟨o,h1,h2⟩:=h.each y hy
   exact ⟨o,h1,λb hb=>List.mem_append_left _ (h2 b hb)⟩
  ·rw [List.mem_singleton.1 hy];exact ⟨ob,hx,λb hb=>List.mem_append_right _ hb⟩⟩
structure Rv where
 name:YL
 maj:Int
 min:Int
 pat:Int
 pre:YL
 bld:YL
 nA:Option Addr
 nc:Nat
 needs:List Nv
 bA:Option Addr
 bc:Nat
 bars:List Bv
 fA:Option Addr
 fc:Nat
 fts:List Fv
def rvC (x:Rv):List Value:=[.string (mkS x.name),YI x.maj,YI x.min,YI x.pat,.string (mkS x.pre),.string (mkS x.bld),.slice x.nA x.needs.length x.nc,.slice x.bA x.bars.length x.bc,.slice x.fA x.fts.length x.fc]
def rvV (x:Rv):Value:= .agg #[.string (mkS x.name),YI x.maj,YI x.min,YI x.pat,.string (mkS x.pre),.string (mkS x.bld),.slice x.nA x.needs.length x.nc,.slice x.bA x.bars.length x.bc,.slice x.fA x.fts.length x.fc]
def PbG (pre bld:YL):Prop:=(pre=[]/\bld=[])\/(pre=[114,99,46,49]/\bld=[])\/(pre=[]/\bld=[55])
structure RecG (own:Nat)(keep:Nat->Bool)(x:Rv):Prop where
 name:x.name=zN (own % 5)
 ver:∃ a b:Nat,a<3/\b<2/\x.maj=a/\x.min=b/\x.pat=0
 pb:PbG x.pre x.bld
 nlen:x.needs.length<=2
 needs:∀ m∈x.needs,NeedG own m
 blen:x.bars.length<=1
 bars:∀ b∈x.bars,BarG own b
 fts:FeatsG x.needs keep 4 x.fts
structure RecO (x:Rv)(ob:List Blk):Prop where
 ex:∃ o1 o2 o4 o7 o8,ob=o4++(o1++o2)++(o7++o8)/\NsO x.nA x.nc x.needs o1 o2/\Sl 77 3 (.slice x.bA x.bars.length x.bc) x.bars.length (x.bars.flatMap bvC) o4/\FtO x.fA x.fc x.fts o7 o8
theorem nameT_len (k:Nat):(zN k).length<=3:=by unfold zN;split<;>(try split)<;>(try split)<;>(try split)<;>simp
theorem NsO.reads {A:Option Addr}{c:Nat}{xs:List Nv}{o1 o2 L:List Blk}{M:List Nat}{W w:World}(h:NsO A c xs o1 o2)(hO:Own M W w L)(h1:∀ b∈o1,b∈L)(h2:∀ b∈o2,b∈L):Reads nvC w w.heap.size A xs∧∀ m∈xs,Reads wvC w w.heap.size m.A m.any:=
 ⟨Sl.reads h.top rfl hO h1,λm hm=>by
  obtain ⟨o,⟨⟨p1,p2,rfl,hp,_⟩⟩,ho⟩:=h.each m hm
  exact Sl.reads hp rfl hO λb hb=>h2 b (ho b (List.mem_append_left _ hb))⟩
theorem need_short {own:Nat}{x:Nv}(h:NeedG own x):x.opt.length<=1000∧∀ w∈x.any,w.name.length<=1000:=by
 refine ⟨?_,λw hw=> ?_⟩
 ·rcases h.opt with e|⟨j,_,e⟩
  ·rw [e];simp
  ·rw [e];have:=tD j;omega
 ·have key:∀ (a:Bool) (u:Wv),tB own a u->u.name.length<=1000:=λa u hu=>by
   obtain ⟨k,_,e⟩:=hu.name
   rw [e];have:=nameT_len ((own+1+k) % 5);omega
  rcases h.any with ⟨u,e,hu⟩|⟨u,z,e,hu,hz⟩
  ·rw [e] at hw;rw [List.mem_singleton.1 hw];exact key _ _ hu
  ·rw [e] at hw
   rcases List.mem_cons.1 hw with rfl|hw
   ·exact key _ _ hu
   ·rw [List.mem_singleton.1 hw];exact key _ _ hz
def NeedR (own:Nat)(v:Value)(ob:List Blk):Prop:=∃ x,v=nvV x/\NeedG own x/\WsO x.A x.cap x.any ob
theorem record_gen (v:Value)(l:List Int)(i own:Nat)(W:World)(hv:ReadsI W W.heap.size v l)(hl:l.length<=9223372036854775807)(hi:i<=1000)(ho:own<=1000):YC 15 #[v,YI (i:Int),YI (own:Int)] W λe w'=>∃ x ob,e= .returned (rvV x)/\(RecG own (λj=>decide (plc (atL l (i+52+j)) 3≠0)) x/\RecO x ob)/\Own [] W w' ob:=by
 obtain ⟨a,ha,ha3⟩:=yO (atL l i) 3 (by decide)
 obtain ⟨b,hb,hb2⟩:=yO (atL l (i+1)) 2 (by decide)
 obtain ⟨p,hp,hp9⟩:=yO (atL l (i+2)) 9 (by decide)
 obtain ⟨n4,hn,hn4⟩:=yO (atL l (i+3)) 4 (by decide)
 obtain ⟨m5,hm,hm5⟩:=yO (atL l (i+45)) 5 (by decide)
 obtain ⟨q4,hq,hq4⟩:=yO (atL l (i+46)) 4 (by decide)
 have f1:=xG hv hl i 3 Om (by decide) (by decide) ha
 have f2:=xG hv hl (i+1) 2 Om (by decide) (by decide) hb
 have f3:=xG hv hl (i+2) 9 Om (by decide) (by decide) hp
 have f4:=xG hv hl (i+3) 4 Om (by decide) (by decide) hn
 have f5:=xG hv hl (i+45) 5 Om (by decide) (by decide) hm
 have f6:=xG hv hl (i+46) 4 Om (by decide) (by decide) hq
 refine zF Tryz.func15 (zQ [] λb1=>z7 [] (λw hO=>name_at own w) (z7 [] (λw hO=>f1 w hO.below) (x_i 16 [] ((i+1:Nat):Int) (z7 [] (λw hO=>f2 w hO.below) (zQ [] λb2=>x_i 22 [0] ((i+2:Nat):Int) (z7 [] (λw hO=>f3 w hO.below) ?_))))))
 refine vS (α:=YL) 24 (λ_=>[(0,v),(1,YI (i:Int)),(2,YI (own:Int)),(6,Zp b1 0),(7,Zp b2 0)]) (λpre=>[⟨b2, #[.string (mkS (zN (own % 5))),YI a,YI b,YI 0,.string (mkS pre),.string (mkS []),.slice none 0 0,.slice none 0 0,.slice none 0 0],29⟩,⟨b1,ZE,29⟩]) (λpre=>(pre=[]∧¬ (p:Int)=1)\/(pre=[114,99,46,49]/\(p:Int)=1)) [] (λnj=>bO 24 ((p:Int)=1) (λh=>nj [114,99,46,49] [0] (.inr ⟨rfl,h⟩) Kr) (λh=>nj [] [] (.inl ⟨rfl,h⟩) Kr)) ?_
 rintro pre g hpre
 refine x_i 29 [] ((i+2:Nat):Int) (z7 [] (λw hO=>f3 w hO.below) ?_)
 refine vS (α:=YL) 31 (λ_=>[(0,v),(1,YI (i:Int)),(2,YI (own:Int)),(6,Zp b1 0),(7,Zp b2 0)]) (λbld=>[⟨b2, #[.string (mkS (zN (own % 5))),YI a,YI b,YI 0,.string (mkS pre),.string (mkS bld),.slice none 0 0,.slice none 0 0,.slice none 0 0],29⟩,⟨b1,ZE,29⟩]) (λbld=>PbG pre bld) [] (λnj=>bO 31 ((p:Int)=2) (λh=>nj [55] [0] (hpre.elim (λq=> .inr (.inr ⟨q.1,rfl⟩)) (λq=>absurd q.2 Om)) Kr) (λh=>nj [] [] (hpre.elim (λq=> .inl ⟨q.1,rfl⟩) (λq=> .inr (.inl ⟨q.1,rfl⟩))) Kr)) ?_
 rintro bld g2 hpb
 refine x_i 36 [] ((i+3:Nat):Int) (z7 [] (λw hO=>f4 w hO.below) (mW 38 [] (YI ((n4 % 3:Nat):Int)) Kr ?_))
 refine zV [] ([⟨b2, #[.string (mkS (zN (own % 5))),YI a,YI b,YI 0,.string (mkS pre),.string (mkS bld),.slice none 0 0,.slice none 0 0,.slice none 0 0],29⟩,⟨b1,ZE,29⟩]++([]++[])) (λw hO=>hO.past 0 _) ?_
 refine x_loopE (α:=Nat×List Nv×Option Addr×Nat×List Blk×List Blk) (β:=List Nv×Option Addr×Nat×List Blk×List Blk) (λ(k,_,_,_,_,_)=>[(0,v),(1,YI (i:Int)),(2,YI (own:Int)),(6,Zp b1 0),(7,Zp b2 0),(8,YI (k:Int))]) (λ(_,ns,A,c,o1,o2)=>[⟨b2, #[.string (mkS (zN (own % 5))),YI a,YI b,YI 0,.string (mkS pre),.string (mkS bld),.slice A ns.length c,.slice none 0 0,.slice none 0 0],29⟩,⟨b1,ZE,29⟩]++(o1++o2)) (λ(k,ns,A,c,o1,o2) m=>m=k/\ns.length+k<=2/\NsO A c ns o1 o2∧∀ x∈ns,NeedG own x) (n4 % 3,[],none,0,[],[]) (n4 % 3)
  (λ_=>[(0,v),(1,YI (i:Int)),(2,YI (own:Int)),(6,.pointer (some ⟨b1,0,none⟩)),(7,.pointer (some ⟨b2,0,none⟩))]) (λ(ns,A,c,o1,o2)=>[⟨b2, #[.string (mkS (zN (own % 5))),YI a,YI b,YI 0,.string (mkS pre),.string (mkS bld),.slice A ns.length c,.slice none 0 0,.slice none 0 0],29⟩,⟨b1,ZE,29⟩]++(o1++o2)) (λ(ns,A,c,o1,o2)=>ns.length<=2/\NsO A c ns o1 o2∧∀ x∈ns,NeedG own x) [] ⟨rfl,by simp;omega,NsO.nil,λx h=>by simp at h⟩ ?_ ?_
 ·rintro ⟨k,ns,A,c,o1,o2⟩ mk g3 ⟨rfl,hlen,hO1,hG⟩ nx nex
  refine zG 40 [] ((0:Int)<mk) (λh40=> ?_) (λh40=>nex (ns,A,c,o1,o2) [] ⟨by omega,hO1,hG⟩ Kr)
  obtain ⟨k,rfl⟩:∃ k,mk=k+1:=⟨mk-1,by omega⟩
  refine kS 13 [] [⟨b2, #[.string (mkS (zN (own % 5))),YI a,YI b,YI 0,.string (mkS pre),.string (mkS bld),.slice A ns.length c,.slice none 0 0,.slice none 0 0],29⟩] (λw hO=>hO.nth 0 _) (x_i 47 [0] ((i+4:Nat):Int) (x_i 49 [] ((20*(k+1):Nat):Int) (x_i 50 [] ((i+4+20*(k+1):Nat):Int) (gU 51 [] (YI (IntKind.i64.wrap (((i+4+20*(k+1):Nat):Int) -20))) (YI ((i+4+20*k:Nat):Int)) (by rw [IntWalk.i64_in _ Om];congr 1;omega) (yJ [] 10 (qE (R:=NeedR own) (λw hO=>(need_gen v l (i+4+20*k) own w ((hv.below hO.below).more hO.size) hl Om Om).mono λe w' ⟨x,ob,h1,h2,h3⟩=>⟨_,ob,h1,⟨x,rfl,h2⟩,h3⟩) ?_))))))
  rintro _ ob ⟨x,rfl,hx,hxo⟩
  refine yJ [] 11 (gZ 1 75 (nvV x).cells λb3=>yJ [] 12 (vH [⟨b3,(nvV x).cells,75⟩,⟨b2, #[.string (mkS (zN (own % 5))),YI a,YI b,YI 0,.string (mkS pre),.string (mkS bld),.slice A ns.length c,.slice none 0 0,.slice none 0 0],29⟩,⟨b1,ZE,29⟩] o1 (o2++ob) 0 (⟨b3,(nvV x).cells,75⟩::(([⟨b2, #[.string (mkS (zN (own % 5))),YI a,YI b,YI 0,.string (mkS pre),.string (mkS bld),.slice A ns.length c,.slice none 0 0,.slice none 0 0],29⟩,⟨b1,ZE,29⟩]++(o1++o2))++ob)) [⟨b2, #[.string (mkS (zN (own % 5))),YI a,YI b,YI 0,.string (mkS pre),.string (mkS bld),.slice A ns.length c,.slice none 0 0,.slice none 0 0],29⟩] (λw hO=>hO.cast (by simp only [List.append_assoc,List.cons_append,List.nil_append])) (λo w hO=>hO.nth 1 _) hO1.top (m:=1) (cp:=1) Om λv' o1' hS=> ?_))
  obtain ⟨A',c',rfl⟩:=Sl.form hS
  refine gU 42 [1] (YI (IntKind.i64.wrap (((k+1:Nat):Int) -1))) (YI (k:Int)) (by rw [IntWalk.i64_in _ Om];congr 1;omega) (zV [] ([⟨b2, #[.string (mkS (zN (own % 5))),YI a,YI b,YI 0,.string (mkS pre),.string (mkS bld),.slice A' (ns++[x]).length c',.slice none 0 0,.slice none 0 0],29⟩,⟨b1,ZE,29⟩]++(o1'++(o2++ob))) (λw hO=>(hO.past 1 ([⟨b2, #[.string (mkS (zN (own % 5))),YI a,YI b,YI 0,.string (mkS pre),.string (mkS bld),.slice A' (ns.length+1) c',.slice none 0 0,.slice none 0 0],29⟩,⟨b1,ZE,29⟩]++o1'++(o2++ob))).cast (by simp only [List.append_assoc,List.cons_append,List.nil_append,List.length_append,List.length_cons,List.length_nil])) ?_)
  exact nx (k,ns++[x],A',c',o1',o2++ob) k [] Om ⟨rfl,by simp;omega,hO1.add hS hxo,λy hy=>by
   rcases List.mem_append.1 hy with hy|hy
   ·exact hG y hy
   ·rw [List.mem_singleton.1 hy];exact hx⟩ Kr Kr
 ·rintro ⟨ns,A,c,o1,o2⟩ g3 ⟨hlen,hO1,hG⟩
  refine x_i 59 [] ((i+45:Nat):Int) (z7 [] (λw hO=>f5 w hO.below) ?_)
  refine vS (α:=List Bv×Option Addr×Nat×List Blk) 61 (λ_=>[(0,v),(1,YI (i:Int)),(2,YI (own:Int)),(6,Zp b1 0),(7,Zp b2 0)]) (λ(bs,bA,bc,o4)=>[⟨b2, #[.string (mkS (zN (own % 5))),YI a,YI b,YI 0,.string (mkS pre),.string (mkS bld),.slice A ns.length c,.slice bA bs.length bc,.slice none 0 0],29⟩,⟨b1,ZE,29⟩]++(o4++(o1++o2))) (λ(bs,bA,bc,o4)=>bs.length<=1/\(∀ y∈bs,BarG own y)/\Sl 77 3 (.slice bA bs.length bc) bs.length (bs.flatMap bvC) o4) [] (λnj=>bO 61 ((m5:Int)=1) (λh61=> ?_) (λh61=>nj ([],none,0,[]) [] ⟨by simp,λy h=>by simp at h,Sl.nil _ _⟩ Kr)) ?_
  ·refine kS 21 [] [⟨b2, #[.string (mkS (zN (own % 5))),YI a,YI b,YI 0,.string (mkS pre),.string (mkS bld),.slice A ns.length c,.slice none 0 0,.slice none 0 0],29⟩] (λw hO=>hO.nth 0 _) (x_i 65 [0] ((own+1:Nat):Int) (x_i 68 [] ((i+46:Nat):Int) (x_i 74 [] ((i+47:Nat):Int) (x_i 78 [] ((i+50:Nat):Int) (yJ [] 7 (z7 [] (λw hO=>f6 w hO.below) (x_i 70 [] ((own+1+q4:Nat):Int) (yJ [] 9 (z7 [] (λw hO=>name_at (own+1+q4) w) (yJ [] 13 (bD (R:=λv=>∃ t,FewT t/\v= .string (mkS t)) [] (λw hO=>(few_gen v l (i+47) w ((hv.below hO.below).more hO.size) hl Om).mono λe w' ⟨t,h1,h2,h3⟩=>⟨_,h2,⟨t,h1,rfl⟩,h3⟩) ?_)))))))))))
   rintro _ ⟨t,ht,rfl⟩
   refine yJ [] 17 (bD (R:=λv=>∃ t,WhenT t/\v= .string (mkS t)) [] (λw hO=>(when_gen v l (i+50) w ((hv.below hO.below).more hO.size) hl Om).mono λe w' ⟨t,h1,h2,h3⟩=>⟨_,h2,⟨t,h1,rfl⟩,h3⟩) ?_)
   rintro _ ⟨u,hu,rfl⟩
   refine yJ [] 19 (gZ 1 77 #[.string (mkS (zN ((own+1+q4) % 5))),.string (mkS t),.string (mkS u)] λb3=>yJ [] 20 (vH [⟨b3, #[.string (mkS (zN ((own+1+q4) % 5))),.string (mkS t),.string (mkS u)],77⟩,⟨b2, #[.string (mkS (zN (own % 5))),YI a,YI b,YI 0,.string (mkS pre),.string (mkS bld),.slice A ns.length c,.slice none 0 0,.slice none 0 0],29⟩,⟨b1,ZE,29⟩] [] (o1++o2) 0 (⟨b3, #[.string (mkS (zN ((own+1+q4) % 5))),.string (mkS t),.string (mkS u)],77⟩::([⟨b2, #[.string (mkS (zN (own % 5))),YI a,YI b,YI 0,.string (mkS pre),.string (mkS bld),.slice A ns.length c,.slice none 0 0,.slice none 0 0],29⟩,⟨b1,ZE,29⟩]++(o1++o2))) [⟨b2, #[.string (mkS (zN (own % 5))),YI a,YI b,YI 0,.string (mkS pre),.string (mkS bld),.slice A ns.length c,.slice none 0 0,.slice none 0 0],29⟩] (λw hO=>hO.cast (by simp only [List.append_assoc,List.cons_append,List.nil_append])) (λo w hO=>hO.nth 1 _) (Sl.nil 77 3) (m:=1) (cp:=1) Om λv' o4 hS=> ?_))
   obtain ⟨bA,bc,rfl⟩:=Sl.form hS
   exact zV [1] ([⟨b2, #[.string (mkS (zN (own % 5))),YI a,YI b,YI 0,.string (mkS pre),.string (mkS bld),.slice A ns.length c,.slice bA (0+1) bc,.slice none 0 0],29⟩,⟨b1,ZE,29⟩]++(o4++(o1++o2))) (λw hO=>(hO.past 1 ([⟨b2, #[.string (mkS (zN (own % 5))),YI a,YI b,YI 0,.string (mkS pre),.string (mkS bld),.slice A ns.length c,.slice bA (0+1) bc,.slice none 0 0],29⟩,⟨b1,ZE,29⟩]++o4++(o1++o2))).cast (by simp only [List.append_assoc,List.cons_append,List.nil_append])) (nj ([⟨zN ((own+1+q4) % 5),t,u⟩],bA,bc,o4) [] ⟨by simp,λy hy=>by rw [List.mem_singleton.1 hy];exact ⟨⟨q4,hq4,rfl⟩,ht,hu⟩,hS⟩ Kr)
  rintro ⟨bs,bA,bc,o4⟩ g4 ⟨hbl,hbG,hbS⟩
  refine x_i 86 [] ((i+52:Nat):Int) (k7 (R:=λv ob=>∃ Af cf xs o7 o8,v= .slice Af xs.length cf/\ob=o7++o8/\FtO Af cf xs o7 o8/\FeatsG ns (λj=>decide (plc (atL l (i+52+j)) 3≠0)) 4 xs) [0] (λw hO=>have hr:=hO1.reads (hO.past 2 (o4++(o1++o2))) (λb hb=>by simp [hb]) (λb hb=>by simp [hb]);(features_gen v l (i+52) (zN (own % 5)) pre bld a b 0 A c ns (.slice bA bs.length bc) (.slice none 0 0) w ((hv.below hO.below).more hO.size) hl Om hr.1 hr.2 Om (λm hm=>(need_short (hG m hm)).1) (λm hm=>(need_short (hG m hm)).2)).mono λe w' ⟨Af,cf,xs,o7,o8,h1,h2,h3⟩=>⟨_,_,h1,⟨Af,cf,xs,o7,o8,rfl,rfl,h2⟩,h3⟩) ?_)
  rintro _ _ ⟨Af,cf,xs,o7,o8,rfl,rfl,hF,hFG⟩
  exact dR [0,0,1] 1 (rvV ⟨zN (own % 5),a,b,0,pre,bld,A,c,ns,bA,bc,bs,Af,cf,xs⟩) λw hO=>⟨_,_,rfl,⟨⟨rfl,⟨a,b,ha3,hb2,rfl,rfl,rfl⟩,hpb,hlen,hG,hbl,hbG,hFG⟩,⟨o1,o2,o4,o7,o8,rfl,hO1,hbS,hF⟩⟩,hO.past 2 _⟩
end
section
def Wv.wt (x:Wv):Wt:=⟨x.name,x.rng,x.fs,x.bare⟩
def Nv.nt (x:Nv):Nt:=⟨x.any.map Wv.wt,x.wh,x.opt⟩
theorem mP (x:Bv):(bvC x).length=3:=rfl
def bvV (x:Bv):Value:= .agg #[.string (mkS x.name),.string (mkS x.rng),.string (mkS x.wh)]
def Bv.bt (x:Bv):Bt:=⟨x.name,x.rng,x.wh⟩
def Rv.ver (x:Rv):Ver:=⟨x.maj,x.min,x.pat,x.pre,x.bld⟩
def Rv.rt (x:Rv):Rt:=⟨x.name,x.ver,x.needs.map Nv.nt,x.bars.map Bv.bt,yC x.fts⟩
structure RcIn (w:World)(B:Nat)(x:Rv):Prop where
 needs:Reads nvC w B x.nA x.needs
 any:∀ n∈x.needs,Reads wvC w B n.A n.any
 wfs:∀ n∈x.needs,∀ u∈n.any,Reads zW w B u.A u.fs
 bars:Reads bvC w B x.bA x.bars
 fts:FtIn w B x.fA x.fts
 nn:x.needs.length<=5000
 na:∀ n∈x.needs,n.any.length<=5000
 nf:∀ n∈x.needs,∀ u∈n.any,u.fs.length<=5000
 nb:x.bars.length<=5000
 sn:x.name.length<=1048576/\x.pre.length<=1048576/\x.bld.length<=1048576
 sw:∀ n∈x.needs,GqM n.wh/\n.opt.length<=1048576
 su:∀ n∈x.needs,∀ u∈n.any,u.name.length<=1048576/\GqR u.rng∧∀ s∈u.fs,s.length<=1048576
 sb:∀ b∈x.bars,b.name.length<=1048576/\GqR b.rng/\GqM b.wh
theorem RcIn.on {w w':World}{B B':Nat}{x:Rv}(h:RcIn w B x)(hb:Below B w w')(hB:B<=B'):RcIn w' B' x:=
 ⟨h.needs.on hb hB,λn hn=>(h.any n hn).on hb hB,λn hn u hu=>(h.wfs n hn u hu).on hb hB,h.bars.on hb hB,h.fts.on hb hB,h.nn,h.na,h.nf,h.nb,h.sn,h.sw,h.su,h.sb⟩
structure RcSm (w:World)(B:Nat)(x:Rv):Prop where
 needs:Reads nvC w B x.nA x.needs
 any:∀ n∈x.needs,Reads wvC w B n.A n.any
 wfs:∀ n∈x.needs,∀ u∈n.any,Reads zW w B u.A u.fs
 bars:Reads bvC w B x.bA x.bars
 fts:FtIn w B x.fA x.fts
 nn:x.needs.length<=5000
 na:∀ n∈x.needs,n.any.length<=5000
 nf:∀ n∈x.needs,∀ u∈n.any,u.fs.length<=5000
 nb:x.bars.length<=5000
theorem RcIn.sm {w:World}{B:Nat}{x:Rv}(h:RcIn w B x):RcSm w B x:=⟨h.needs,h.any,h.wfs,h.bars,h.fts,h.nn,h.na,h.nf,h.nb⟩
theorem RcSm.on {w w':World}{B B':Nat}{x:Rv}(h:RcSm w B x)(hb:Below B w w')(hB:B<=B'):RcSm w' B' x:=
 ⟨h.needs.on hb hB,λn hn=>(h.any n hn).on hb hB,λn hn u hu=>(h.wfs n hn u hu).on hb hB,h.bars.on hb hB,h.fts.on hb hB,h.nn,h.na,h.nf,h.nb⟩
end
section
structure LsO {α:Type}(T:TypeId)(k:Nat)(C:α->List Value)(O:α->List Blk->Prop)(A:Option Addr)(c:Nat)(xs:List α)(o1 o2:List Blk):Prop where
 top:Sl T k (.slice A xs.length c) xs.length (xs.flatMap C) o1
 each:∀ x∈xs,∃ o,O x o∧∀ b∈o,b∈o2
section
variable {α:Type}{T:TypeId}{k:Nat}{C:α->List Value}{O:α->List Blk->Prop}
end
structure Ev where
 rec':Rv
 sum:Int
 yk:Bool
def evC (x:Ev):List Value:=rvC x.rec'++[.int .u64 x.sum,.bool x.yk]
def evV (x:Ev):Value:= .agg #[.string (mkS x.rec'.name),YI x.rec'.maj,YI x.rec'.min,YI x.rec'.pat,.string (mkS x.rec'.pre),.string (mkS x.rec'.bld),.slice x.rec'.nA x.rec'.needs.length x.rec'.nc,.slice x.rec'.bA x.rec'.bars.length x.rec'.bc,.slice x.rec'.fA x.rec'.fts.length x.rec'.fc,.int .u64 x.sum,.bool x.yk]
def Ev.et (x:Ev):Et:=⟨x.rec'.rt,x.sum,x.yk⟩
structure Hv where
 name:YL
 A:Option Addr
 cap:Nat
 es:List Ev
def hvV (x:Hv):Value:= .agg #[.string (mkS x.name),.slice x.A x.es.length x.cap]
def Hv.sh (x:Hv):Sh:=⟨x.name,x.es.map Ev.et⟩
abbrev hvB (b:Nat)(x:Hv):Blk:=⟨b, #[.string (mkS x.name),.slice x.A x.es.length x.cap],91⟩
abbrev rvB (b:Nat)(x:Rv):Blk:=⟨b, #[.string (mkS x.name),YI x.maj,YI x.min,YI x.pat,.string (mkS x.pre),.string (mkS x.bld),.slice x.nA x.needs.length x.nc,.slice x.bA x.bars.length x.bc,.slice x.fA x.fts.length x.fc],29⟩
abbrev evB (b:Nat)(u:Ev):Blk:=⟨b, #[.string (mkS u.rec'.name),YI u.rec'.maj,YI u.rec'.min,YI u.rec'.pat,.string (mkS u.rec'.pre),.string (mkS u.rec'.bld),.slice u.rec'.nA u.rec'.needs.length u.rec'.nc,.slice u.rec'.bA u.rec'.bars.length u.rec'.bc,.slice u.rec'.fA u.rec'.fts.length u.rec'.fc,.int .u64 u.sum,.bool u.yk],88⟩
structure EsIn (w:World)(B:Nat)(A:Option Addr)(es:List Ev):Prop where
 top:Reads evC w B A es
 each:∀ e∈es,RcIn w B e.rec'
 n:es.length<=5000
structure ShIn (w:World)(B:Nat)(x:Hv):Prop where
 es:EsIn w B x.A x.es
 le:x.es.length<=x.cap
 sn:x.name.length<=1048576
def ShO (x:Hv)(ob:List Blk):Prop:=∃ o1 o2,ob=o1++o2/\LsO 88 11 evC (λe o=>RecO e.rec' o) x.A x.cap x.es o1 o2
end
section
def pmC (p:Pn):List Value:=[.string (mkS p.name),.string (mkS p.shelf)]
theorem pmC_len (x:Pn):(pmC x).length=2:=rfl
def pmV (p:Pn):Value:= .agg #[.string (mkS p.name),.string (mkS p.shelf)]
def hoC (p:Ho):List Value:=[.string (mkS p.name),.string (mkS p.rg)]
theorem hoC_len (x:Ho):(hoC x).length=2:=rfl
def hoV (p:Ho):Value:= .agg #[.string (mkS p.name),.string (mkS p.rg)]
structure Mv where
 rec':Rv
 pA:Option Addr
 pc:Nat
 pins:List Pn
 hA:Option Addr
 hc:Nat
 holds:List Ho
def mvV (x:Mv):Value:= .agg #[.string (mkS x.rec'.name),YI x.rec'.maj,YI x.rec'.min,YI x.rec'.pat,.string (mkS x.rec'.pre),.string (mkS x.rec'.bld),.slice x.rec'.nA x.rec'.needs.length x.rec'.nc,.slice x.rec'.bA x.rec'.bars.length x.rec'.bc,.slice x.rec'.fA x.rec'.fts.length x.rec'.fc,.slice x.pA x.pins.length x.pc,.slice x.hA x.holds.length x.hc]
abbrev mvB (b:Nat)(x:Mv):Blk:=⟨b, #[.string (mkS x.rec'.name),YI x.rec'.maj,YI x.rec'.min,YI x.rec'.pat,.string (mkS x.rec'.pre),.string (mkS x.rec'.bld),.slice x.rec'.nA x.rec'.needs.length x.rec'.nc,.slice x.rec'.bA x.rec'.bars.length x.rec'.bc,.slice x.rec'.fA x.rec'.fts.length x.rec'.fc,.slice x.pA x.pins.length x.pc,.slice x.hA x.holds.length x.hc],44⟩
def Mv.mt (x:Mv):Mt:=⟨x.rec'.rt,x.pins,x.holds⟩
structure PmIn (w:World)(B:Nat)(A:Option Addr)(ps:List Pn):Prop where
 top:Reads pmC w B A ps
 sn:∀ p∈ps,p.name.length<=1048576/\p.shelf.length<=1048576
 n:ps.length<=1048576
theorem PmIn.on {w w':World}{B B':Nat}{A:Option Addr}{xs:List Pn}(h:PmIn w B A xs)(hb:Below B w w')(hB:B<=B'):PmIn w' B' A xs:=⟨h.top.on hb hB,h.sn,h.n⟩
structure HoIn (w:World)(B:Nat)(A:Option Addr)(ps:List Ho):Prop where
 top:Reads hoC w B A ps
 sn:∀ p∈ps,p.name.length<=1048576/\GqR p.rg
 n:ps.length<=1048576
theorem HoIn.on {w w':World}{B B':Nat}{A:Option Addr}{xs:List Ho}(h:HoIn w B A xs)(hb:Below B w w')(hB:B<=B'):HoIn w' B' A xs:=⟨h.top.on hb hB,h.sn,h.n⟩
structure MnIn (w:World)(B:Nat)(x:Mv):Prop where
 rc:RcIn w B x.rec'
 pin:PmIn w B x.pA x.pins
 hold:HoIn w B x.hA x.holds
theorem MnIn.on {w w':World}{B B':Nat}{x:Mv}(h:MnIn w B x)(hb:Below B w w')(hB:B<=B'):MnIn w' B' x:=⟨h.rc.on hb hB,h.pin.on hb hB,h.hold.on hb hB⟩
structure MnO (x:Mv)(o1 o2 o3:List Blk):Prop where
 rc:RecO x.rec' o1
 pin:Sl 57 2 (.slice x.pA x.pins.length x.pc) x.pins.length (x.pins.flatMap pmC) o2
 hold:Sl 59 2 (.slice x.hA x.holds.length x.hc) x.holds.length (x.holds.flatMap hoC) o3
def mv0:Mv:=⟨⟨[],0,0,0,[],[],none,0,[],none,0,[],none,0,[]⟩,none,0,[],none,0,[]⟩
theorem mv0_o:MnO mv0 [] [] []:=⟨⟨⟨[],[],[],[],[],rfl,NsO.nil,Sl.nil _ _,FtO.nil⟩⟩,Sl.nil _ _,Sl.nil _ _⟩
end
section
section
variable {M:List Nat}{P:Program}{n:Nat}{W:World}{Q:Exit->Act->World->Prop}{c:Xc}
end
section
variable {M:List Nat}{P:Program}{n:Nat}{ops:Array Oper}{W:World}{L0:List Blk}{Q:Exit->Act->World->Prop}{fuel:Nat}{listed:Array Bool}{L:List Blk}{f:Nat->Value}
theorem h_take14 {L':List Blk}(hs:∀ w,Own M W w L->Own M W w L')(h:jN M P n ops W L0 Q fuel listed L' f):jN M P n ops W L0 Q fuel listed L f:=⟨λw hO=>h.go w (hs w hO)⟩
end
section
variable {M:List Nat}{P:Program}{n:Nat}{W:World}{Q:Exit->Act->World->Prop}{c:Xc}
end
theorem Reads.fst {α:Type}{g:α->List Value}{w:World}{B:Nat}{A:Option Addr}{l:List α}(h:Reads g w B A l)(k:Nat):Reads g w B A (l.take k):=λh0=>by
 rw [List.length_take] at h0
 obtain ⟨b,off,e,hlt,hc⟩:=h Om
 refine ⟨b,off,e,hlt,λj u hj=>hc j u ?_⟩
 have e2:l.flatMap g=(l.take k).flatMap g++(l.drop k).flatMap g:=by rw [←List.flatMap_append,List.take_append_drop]
 rw [e2,List.getElem?_append_left (by
  have:=List.getElem?_eq_some_iff.1 hj
  exact this.1)]
 exact hj
end
section
def u64V (x:UInt64):Value:= .int .u64 (x.toNat:Int)
section
variable {P:Program}{ρ:Operand->Value}{o:Oper}{t t':TypeId}{a b:Operand}
end
end
section
def u8C (b:UInt8):List Value:=[.int .u8 (b.toNat:Int)]
def u64C (n:UInt64):List Value:=[.int .u64 (n.toNat:Int)]
def SlB (v:Value)(l:YL)(ob:List Blk):Prop:=Sl 5 1 v l.length (l.flatMap u8C) ob
def SlU (v:Value)(l:List UInt64)(ob:List Blk):Prop:=Sl 86 1 v l.length (l.flatMap u64C) ob
theorem u8_flat (l:YL):l.flatMap u8C=l.map λb=> .int .u8 (b.toNat:Int):=by
 induction l with
 |nil=>rfl
 |cons b l ih=>rw [List.flatMap_cons,List.map_cons,ih];rfl
section
variable {P:Program}{o:Oper}
theorem run_bytes {src dst e:TypeId}{ρ:Operand->Value}{x:Operand}{A:Option Addr}{cap:Nat}{l:YL}{w:World}(ho:o.op= .convert src dst x)(hx:ρ x= .slice A l.length cap)(hs:P.underlying src=some (.slice e))(he:P.underlying e=some (.int .u8))(hd:P.underlying dst=some .string)(h0:0<l.length){B:Nat}(hv:Reads u8C w B A l):(execOp ρ o).run P w= .ok (.value (.string (mkS l))) w:=by
 obtain ⟨b,off,rfl,_,hcell⟩:=hv h0
 have hr:=run_convert_bytes_back (P:=P) w src dst e ⟨b,off,none⟩ cap l hs he hd (λj hj=>by
  rw [yX]
  refine hcell j _ ?_
  rw [u8_flat,List.getElem?_map,List.getElem?_eq_getElem hj];rfl)
 unfold execOp
 simp only [ho,hx,Sem.run_bind,Sem.run_pure,Result.andThen_ok,hr]
 rfl
end
section
variable {P:Program}{n0:Nat}{ops:Array Oper}{W:World}{Q:Exit->Act->World->Prop}{rest:List Oper}{o:Oper}{L0:List Blk}{f:Nat->Value}
end
section
variable {M:List Nat}{P:Program}{n0:Nat}{ops:Array Oper}{W:World}{Q:Exit->Act->World->Prop}{rest:List Oper}{o:Oper}{L0:List Blk}{f:Nat->Value}
end
end
section
structure Nm where
 b:Nat
 c:Nat
 t:List Value
abbrev Env:=Nat->Nm
def agE (i:Nat)(a b:Env):Prop:=∀ j,j<i->a j=b j
theorem agE.refl (i:Nat)(a:Env):agE i a a:=λ_ _=>rfl
theorem agE.trans {i j:Nat}{a b c:Env}(h:agE i a b)(k:agE j b c)(hij:i<=j):agE i a c:=λx hx=>(h x hx).trans (k x (Nat.lt_of_lt_of_le hx hij))
def updE (e:Env)(i:Nat)(x:Nm):Env:=λj=>if j=i then x else e j
theorem updE_at (e:Env)(i:Nat)(x:Nm):updE e i x i=x:=if_pos rfl
theorem bE (e:Env)(i:Nat)(x:Nm):agE i e (updE e i x):=λj hj=>(if_neg (Nat.ne_of_lt hj)).symm
inductive Hs where
 |no
 |at (j:Nat) (h:Hs)
 |dr (l o:List Nat) (h:Hs)
 |vl (v:Value) (h:Hs)
 |two (a b:Hs)
def Hs.hd:Hs->Nat| .at j _=>j|_=>0
def Hs.tl:Hs->Hs| .at _ h=>h| .dr _ _ h=>h| .vl _ h=>h|_=> .no
def Hs.vv:Hs->Value| .vl v _=>v|_=>undef
def Hs.ls:Hs->List Nat| .dr l _ _=>l|_=>[]
def Hs.lo:Hs->List Nat| .dr _ o _=>o|_=>[]
def Hs.l1:Hs->Hs| .two a _=>a|_=> .no
def Hs.l2:Hs->Hs| .two _ b=>b|_=> .no
inductive Res where
 |bad
 |fin
 |ck (a b j:Nat) (r:Res)
 |dr (l o:List Nat) (r:Res)
 |md (a:Nat) (r:Res)
 |vl (v:Value) (r:Res)
 |two (a b:Res)
def Res.good:Res->Prop
 | .bad=>False
 | .fin=>True
 | .ck a b _ r=>a=b/\r.good
 | .dr _ _ r=>r.good
 | .md _ r=>r.good
 | .vl _ r=>r.good
 | .two a b=>a.good/\b.good
def Res.l:Res->List Nat
 | .bad=>[0]
 | .fin=>[]
 | .ck a _ _ r=>a::r.l
 | .dr _ _ r=>r.l
 | .md _ r=>r.l
 | .vl _ r=>r.l
 | .two a b=>a.l++b.l
def Res.r:Res->List Nat
 | .bad=>[1]
 | .fin=>[]
 | .ck _ b _ r=>b::r.r
 | .dr _ _ r=>r.r
 | .md _ r=>r.r
 | .vl _ r=>r.r
 | .two a b=>a.r++b.r
def Res.hs:Res->Hs
 | .ck _ _ j r=> .at j r.hs
 | .dr l o r=> .dr l o r.hs
 | .md _ r=>r.hs
 | .vl v r=> .vl v r.hs
 | .two a b=> .two a.hs b.hs
 |_=> .no
def Res.md':Res->List Nat
 | .ck _ _ _ r=>r.md'
 | .dr _ _ r=>r.md'
 | .vl _ r=>r.md'
 | .md a r=>a::r.md'
 | .two a b=>a.md'++b.md'
 |_=>[]
def Res.vv:Res->Value
 | .ck _ _ _ r=>r.vv
 | .dr _ _ r=>r.vv
 | .md _ r=>r.vv
 | .vl v r=>match r with
  | .fin=>v
  |r=>r.vv
 | .two _ b=>b.vv
 |_=>undef
theorem Res.len:∀ r:Res,r.l.length=r.r.length
 | .bad=>rfl
 | .fin=>rfl
 | .ck _ _ _ r=>congrArg (·+1) r.len
 | .dr _ _ r=>r.len
 | .md _ r=>r.len
 | .vl _ r=>r.len
 | .two a b=>by rw [Res.l,Res.r,List.length_append,List.length_append,a.len,b.len]
theorem Res.good_of:∀ r:Res,r.l=r.r->r.good
 | .bad,h=>by cases h
 | .fin,_=>trivial
 | .ck _ _ _ r,h=>by
  have:=List.cons.inj h
  exact ⟨this.1,r.good_of this.2⟩
 | .dr _ _ r,h=>r.good_of h
 | .md _ r,h=>r.good_of h
 | .vl _ r,h=>r.good_of h
 | .two a b,h=>by
  have:=List.append_inj h a.len
  exact ⟨a.good_of this.1,b.good_of this.2⟩
def capN (c k:Nat):Nat:=(min c maxLen-k)+k
structure Rc where
 x:Nm
 n:Nat
 sz:Nat
 xs:List Value
 T:TypeId
def padN (x:Nm)(k sz:Nat):List Value:=(x.t++List.replicate (capN x.c k*sz) undef).take (capN x.c k*sz-k*sz)
def Rc.blk (r:Rc):Blk:=⟨r.x.b,(r.xs++padN r.x r.n r.sz).toArray,r.T⟩
def Rc.v (r:Rc):Value:= .slice (some ⟨r.x.b,0,none⟩) r.n (capN r.x.c r.n)
theorem le_capN (c k:Nat):k<=capN c k:=Nat.le_add_left ..
theorem padN_len (x:Nm)(k sz:Nat):(padN x k sz).length=capN x.c k*sz-k*sz:=by
 unfold padN
 rw [List.length_take,List.length_append,List.length_replicate];omega
theorem Rc.slTo {r:Rc}{m:Nat}(hl:r.xs.length=r.n*r.sz)(hn:r.n<=maxLen)(hm:m<=r.n):Sl r.T r.sz (.slice (some ⟨r.x.b,0,none⟩) m (capN r.x.c r.n)) m (r.xs.take (m*r.sz)) [r.blk]:=by
 have h1:=Nat.mul_le_mul_right r.sz (le_capN r.x.c r.n)
 have h2:=Nat.mul_le_mul_right r.sz hm
 refine ⟨by rw [List.length_take,hl];omega,.inr ⟨r.x.b,capN r.x.c r.n,(r.xs++padN r.x r.n r.sz).toArray,rfl,rfl,Nat.le_trans hm (le_capN _ _), ?_, ?_, ?_⟩⟩
 ·unfold capN;omega
 ·rw [List.size_toArray,List.length_append,padN_len,hl];omega
 ·show (r.xs++padN r.x r.n r.sz).take (m*r.sz)=_
  exact List.take_append_of_le_length (by rw [hl];exact h2)
theorem Rc.of {T sz:Nat}{v:Value}{n:Nat}{xs:List Value}{ob:List Blk}(h:Sl T sz v n xs ob)(hn:1<=n):∃ x:Nm,v=(Rc.mk x n sz xs T).v/\ob=[(Rc.mk x n sz xs T).blk]:=by
 rcases h.2 with ⟨_,h0,_⟩|⟨g,cap,cur,h1,h2,h3,h4,h5,h6⟩
 ·omega
 ·have hc:capN cap n=cap:=by unfold capN;omega
  have hlen:(cur.toList.drop (n*sz)).length=cap*sz-n*sz:=by rw [List.length_drop,Array.length_toList,h5]
  refine ⟨⟨g,cap,cur.toList.drop (n*sz)⟩, ?_, ?_⟩
  ·rw [h1];unfold Rc.v;rw [hc]
  ·rw [h2];unfold Rc.blk padN
   dsimp only
   rw [hc,←hlen,List.take_left,←h6,List.take_append_drop]
def flEq:Value->Value->Bool
 | .bool a,.bool b=>a==b
 | .int k a,.int k' b=>decide (k=k') && decide (a=b)
 | .string a,.string b=>decide (a=b)
 |_,_=>false
theorem flEq_ok:∀ {a b:Value},flEq a b=true->a=b:=λ{a b} h=>by
 unfold flEq at h
 split at h
 ·rw [beq_iff_eq] at h;rw [h]
 ·rw [Bool.and_eq_true,decide_eq_true_eq,decide_eq_true_eq] at h;rw [h.1,h.2]
 ·rw [decide_eq_true_eq] at h;rw [h]
 ·cases h
def flEqs:List Value->List Value->Bool
 | [],[]=>true
 |a::l,b::r=>flEq a b && flEqs l r
 |_,_=>false
theorem flEqs_ok:∀ {a b:List Value},flEqs a b=true->a=b
 | [],[],_=>rfl
 |a::l,b::r,h=>by
  unfold flEqs at h
  rw [Bool.and_eq_true] at h
  rw [flEq_ok h.1,flEqs_ok h.2]
 | [],b::r,h=>by cases h
 |a::l,[],h=>by cases h
def byQ (xs:List Value):YL:=xs.map λv=>match v with
 | .int _ z=>UInt8.ofNat z.toNat
 |_=>0
def nfN (n:Nat)(K:Nat->Res):Res:=match n with
 |0=>K 0
 |m+1=>K (Nat.succ m)
def nfI (z:Int)(K:Int->Res):Res:=match z with
 | .ofNat n=>nfN n λn=>K (.ofNat n)
 | .negSucc n=>nfN n λn=>K (.negSucc n)
def nfL:YL->(YL->Res)->Res
 | [],K=>K []
 |c::r,K=>nfN c.toNat λn=>nfL r λr=>K (UInt8.ofNat n::r)
def nf0 (v:Value)(K:Value->Res):Res:=match v with
 | .int k z=>nfI z λz=>K (.int k z)
 | .bool true=>K (.bool true)
 | .bool false=>K (.bool false)
 | .string ⟨⟨l⟩⟩=>nfL l λl=>K (.string ⟨⟨l⟩⟩)
 | .slice (some ⟨b,o,s⟩) n c=>nfN o λo=>nfN n λn=>K (.slice (some ⟨b,o,s⟩) n c)
 | .pointer (some ⟨b,o,s⟩)=>nfN o λo=>K (.pointer (some ⟨b,o,s⟩))
 |v=>K v
def nfVs:List Value->(List Value->Res)->Res
 | [],K=>K []
 |v::r,K=>nf0 v λv=>nfVs r λr=>K (v::r)
def nfV (v:Value)(K:Value->Res):Res:=match v with
 | .agg ⟨l⟩=>nfVs l λl=>K (.agg ⟨l⟩)
 | .tuple ⟨l⟩=>nfVs l λl=>K (.tuple ⟨l⟩)
 |v=>nf0 v K
def nfA (cs:Array Value)(K:Array Value->Res):Res:=match cs with
 |⟨l⟩=>nfVs l λl=>K ⟨l⟩
def nfBs:List Blk->(List Blk->Res)->Res
 | [],K=>K []
 |⟨b,cs,ty⟩::r,K=>nfBs r λr=>K (⟨b,cs,ty⟩::r)
theorem nfN_eq (n:Nat)(K:Nat->Res):nfN n K=K n:=by cases n<;>rfl
theorem nfI_eq (z:Int)(K:Int->Res):nfI z K=K z:=by
 cases z with
 |ofNat n=>exact nfN_eq n λn=>K (.ofNat n)
 |negSucc n=>exact nfN_eq n λn=>K (.negSucc n)
theorem nfL_eq:∀ (l:YL) (K:YL->Res),nfL l K=K l
 | [],K=>rfl
 |c::r,K=>by rw [nfL,nfN_eq,nfL_eq r,UInt8.ofNat_toNat]
theorem nf0_eq (v:Value)(K:Value->Res):nf0 v K=K v:=by
 unfold nf0
 split
 ·exact nfI_eq _ _
 ·rfl
 ·rfl
 ·exact nfL_eq _ _
 ·rw [nfN_eq,nfN_eq]
 ·exact nfN_eq _ _
 ·rfl
theorem pH:∀ (l:List Value) (K:List Value->Res),nfVs l K=K l
 | [],K=>rfl
 |v::r,K=>by rw [nfVs,nf0_eq,pH r]
theorem tR (v:Value)(K:Value->Res):nfV v K=K v:=by
 unfold nfV
 split
 ·exact pH _ _
 ·exact pH _ _
 ·exact nf0_eq _ _
theorem nfA_eq (cs:Array Value)(K:Array Value->Res):nfA cs K=K cs:=by cases cs;exact pH _ _
theorem nfBs_eq:∀ (l:List Blk) (K:List Blk->Res),nfBs l K=K l
 | [],K=>rfl
 |⟨b,cs,ty⟩::r,K=>by rw [nfBs,nfBs_eq r]
structure Mm where
 L:List Blk
 O:List Rc
 i:Nat
 h:Hs
def Mm.all (m:Mm)(B:List Blk):List Blk:=m.L++(m.O.map Rc.blk++B)
noncomputable def pT {α:Type}(P:Program):Sem α->Option α
 | .pure a=>some a
 | .program k=>pT P (k P)
 |_=>none
theorem pE {α:Type}{P:Program}{s:Sem α}{a:α}(h:pT P s=some a)(w:World):s.run P w= .ok a w:=by
 induction s with
 |pure x=>unfold pT at h;cases h;rfl
 |program k ih=>unfold pT at h;exact ih P h
 |_=>unfold pT at h;cases h
noncomputable def peel1 {α:Type}(P:Program)(b:Nat):Sem α->Option (Array Value×TypeId×α)
 | .program k=>peel1 P b (k P)
 | .new (.cells cs T (0,0)) k=>(pT P (k b)).map λa=>(cs,T,a)
 |_=>none
theorem peel1_ok {α:Type}{P:Program}{s:Sem α}{w:World}{cs:Array Value}{T:TypeId}{a:α}(h:peel1 P w.heap.size s=some (cs,T,a)):s.run P w= .ok a (w.alloc (.cells cs T)):=by
 induction s with
 |program k ih=>unfold peel1 at h;exact ih P h
 |new o k ih=>
  unfold peel1 at h
  split at h
  ·rename_i e;cases e
  ·rename_i cs' T' k' e
   cases e
   cases hp:pT P (k w.heap.size) with
   |none=>rw [hp] at h;cases h
   |some a'=>
    rw [hp] at h
    cases h
    exact pE hp _
  ·cases h
 |_=>unfold peel1 at h;cases h
def srch (b:Nat):List Blk->Nat
 | []=>0
 |x::L=>bif Nat.beq x.b b then 0 else srch b L+1
structure Prm where
 sa:FuncId->Option Nat
 val:FuncId->Array Value->List Value->Option Value
 lst:FuncId->Array Value->Option (TypeId×List Value)
section
variable (P:Program)(G:List Blk)(pr:Prm)(sh:Bool)
def plA (L:List Blk)(b:Nat)(h:Hs):Nat:=bif sh then srch b L else h.hd
abbrev dQ:=List Blk->FuncId->Array Value->Env->Mm->(Value->Mm->Res)->Res
def Mm.nx (m:Mm):Mm:=⟨m.L,m.O,m.i,m.h.tl⟩
def Mm.add (m:Mm)(x:Blk):Mm:=⟨x::m.L,m.O,m.i+1,m.h⟩
def Mm.own (m:Mm)(r:Rc):Mm:=⟨m.L,r::m.O,m.i+1,m.h⟩
def seeA (L:List Blk)(b:Nat)(m:Mm)(k:Blk->Mm->Res):Res:=match L[plA sh L b m.h]? with
 |some x=> .ck b x.b (plA sh L b m.h) (k x m.nx)
 |none=> .bad
noncomputable def nT (B:List Blk)(ty:TypeId)(p:Value)(m:Mm)(k:Value->Mm->Res):Res:=match p with
 | .pointer (some ⟨b,off,none⟩)=>seeA sh (m.all (B++G)) b m λx m=>match yS P ty x.cs off with
  |some v=>nfV v λv=>k v m
  |none=> .bad
 |_=> .bad
noncomputable def storeA (T:TypeId)(p y:Value)(m:Mm)(k:Mm->Res):Res:=match p with
 | .pointer (some ⟨b,off,none⟩)=>match m.L[plA sh m.L b m.h]? with
  |some x=>match P.info? T with
   |some t=>bif Nat.beq y.cells.size t.size && Nat.ble (off+t.size) x.cs.size && y.cells.toList.all (λu=>u.oneCell') then
     .md b (.ck b x.b (plA sh m.L b m.h) (nfA (zT x.cs off y.cells) λcs=>nfBs (m.L.set (plA sh m.L b m.h) ⟨x.b,cs,x.ty⟩) λL=>k ⟨L,m.O,m.i,m.h.tl⟩)) else .bad
   |none=> .bad
  |none=> .bad
 |_=> .bad
noncomputable def makeA (s:Sem Next)(e:Env)(m:Mm)(k:Value->Mm->Res):Res:=match peel1 P (e m.i).b s with
 |some (cs,T,.value v)=>nfA cs λcs=>nfV v λv=>k v (m.add ⟨(e m.i).b,cs,T⟩)
 |_=> .bad
noncomputable def convA (B:List Blk)(src dst:TypeId)(x:Value)(m:Mm)(k:Value->Mm->Res):Res:=match x with
 | .slice (some ⟨b,o2,none⟩) n2 _=>match P.underlying src with
  |some (.slice e)=>match P.underlying e,P.underlying dst with
   |some (.int .u8),some .string=>seeA sh (m.all (B++G)) b m λy m=>bif Nat.ble 1 n2 && Nat.beq (byQ ((y.cs.toList.drop o2).take n2)).length n2 && flEqs ((y.cs.toList.drop o2).take n2) ((byQ ((y.cs.toList.drop o2).take n2)).flatMap u8C) then k (.string (mkS (byQ ((y.cs.toList.drop o2).take n2)))) m else .bad
   |_,_=> .bad
  |_=> .bad
 |_=> .bad
def plO (O:List Rc)(b:Nat)(h:Hs):Nat:=bif sh then (bif Nat.ble O.length (srch b (O.map Rc.blk)) then 100000 else srch b (O.map Rc.blk)) else h.hd
noncomputable def app3 (B:List Blk)(T:TypeId)(sz n2:Nat)(news:List Value)(b1 o1 n1:Nat)(e:Env)(m:Mm)(k:Value->Mm->Res):Res:=
 seeA sh (m.all (B++G)) b1 m λy m=>bif Nat.beq ((y.cs.toList.drop o1).take (n1*sz)).length (n1*sz) && Nat.ble n1 100000 then
  k (Rc.mk (e m.i) (n1+n2) sz ((y.cs.toList.drop o1).take (n1*sz)++news) T).v (m.own ⟨e m.i,n1+n2,sz,(y.cs.toList.drop o1).take (n1*sz)++news,T⟩) else .bad
noncomputable def app2 (B:List Blk)(T:TypeId)(sz n2:Nat)(news:List Value)(s:Value)(e:Env)(m:Mm)(k:Value->Mm->Res):Res:=match s with
 | .slice none 0 0=>k (Rc.mk (e m.i) n2 sz news T).v (m.own ⟨e m.i,n2,sz,news,T⟩)
 | .slice (some ⟨b1,o1,none⟩) n1 c1=>match m.O[plO sh m.O b1 m.h]? with
  |some r=>bif Nat.beq o1 0 && Nat.ble n1 r.n && Nat.beq r.sz sz && Nat.beq r.T T && Nat.beq r.xs.length (r.n*sz) && Nat.ble r.n 100000 then
    .md b1 (.ck b1 r.x.b (plO sh m.O b1 m.h) (.ck c1 (capN r.x.c r.n) 0 (k (Rc.mk (e m.i) (n1+n2) sz (r.xs.take (n1*sz)++news) T).v ⟨m.L,m.O.set (plO sh m.O b1 m.h) ⟨e m.i,n1+n2,sz,r.xs.take (n1*sz)++news,T⟩,m.i+1,m.h.tl.tl⟩))) else .bad
  |none=>bif Nat.ble (c1+1) (n1+n2) then .ck 0 0 (plO sh m.O b1 m.h) (app3 G sh B T sz n2 news b1 o1 n1 e m.nx k) else .bad
 |_=> .bad
noncomputable def appA (B:List Blk)(t:TypeId)(s x:Value)(e:Env)(m:Mm)(k:Value->Mm->Res):Res:=
 match P.underlying t,x with
 |some (.slice T),.slice (some ⟨b2,o2,none⟩) n2 _=>match P.info? T with
  |some i=>match i.zero with
   |some z=>seeA sh (m.all (B++G)) b2 m λy m=>
    bif Nat.beq z.cells.size i.size && Nat.ble 1 n2 && Nat.beq ((y.cs.toList.drop o2).take (n2*i.size)).length (n2*i.size) && ((y.cs.toList.drop o2).take (n2*i.size)).all (λu=>u.oneCell') && Nat.ble (n2+1) 100000 && Nat.ble i.bytes 1000 then
     app2 G sh B T i.size n2 ((y.cs.toList.drop o2).take (n2*i.size)) s e m k else .bad
   |none=> .bad
  |none=> .bad
 |_,_=> .bad
end
section
variable {M:List Nat}{P:Program}{G:List Blk}{pr:Prm}{sh:Bool}{W:World}{n:Nat}{Q:Exit->Act->World->Prop}{f:Nat->Value}{o:Oper}{K:Act->World->Prop}{e:Env}{m:Mm}{B:List Blk}
def Stp {α:Type}(M:List Nat)(W:World)(B:List Blk)(e:Env)(m:Mm)(run:Env->Mm->(α->Mm->Res)->Res)(goal:(α->World->Prop)->World->Prop):Prop:=
 ∀ (kf:Env->α->Mm->Res),(∀ e',agE m.i e e'->(run e' m (kf e')).good)→
  ∀ K:α->World->Prop,(∀ e1 a m',agE m.i e e1->m.i<=m'.i->(∀ e',agE m'.i e1 e'->(kf e' a m').good)→∀ w,Own M W w (m'.all B)->K a w)→∀ w,Own M W w (m.all B)->goal K w
theorem vI {L:List Blk}{b:Nat}{k:Blk->Mm->Res}(h:(seeA sh L b m k).good):∃ x,L[plA sh L b m.h]?=some x/\b=x.b/\(k x m.nx).good:=by
 unfold seeA at h
 split at h
 ·rename_i x hx;exact ⟨x,hx,h.1,h.2⟩
 ·exact h.elim
theorem pM {w:World}(hG:∀ w,Own M W w []→∀ x∈G,w.heap[x.b]?=some (.cells x.cs x.ty))(hO:Own M W w (m.all B)){j:Nat}{x:Blk}(h:(m.all (B++G))[j]?=some x):w.heap[x.b]?=some (.cells x.cs x.ty):=by
 have hx:=List.mem_of_getElem? h
 unfold Mm.all at hx
 rw [←List.append_assoc,←List.append_assoc] at hx
 rcases List.mem_append.1 hx with hx|hx
 ·exact hO.held x (by unfold Mm.all;rw [←List.append_assoc];exact hx)
 ·exact hG w hO.no x hx
def Kon {α:Type}(M:List Nat)(W:World)(B:List Blk)(e:Env)(m:Mm)(kf:Env->α->Mm->Res)(K:α->World->Prop):Prop:=
 ∀ e1 a m',agE m.i e e1->m.i<=m'.i->(∀ e',agE m'.i e1 e'->(kf e' a m').good)→∀ w,Own M W w (m'.all B)->K a w
theorem Kon.here {α:Type}{kf:Env->α->Mm->Res}{K:α->World->Prop}(h:Kon M W B e m kf K){a:α}{m':Mm}(hi:m'.i=m.i)(hg:∀ e',agE m.i e e'->(kf e' a m').good){w:World}(hO:Own M W w (m'.all B)):K a w:=
 h e a m' (agE.refl _ _) (Nat.le_of_eq hi.symm) (hi▸hg) w hO
theorem load_ok {ty:TypeId}{q:Operand}{kf:Env->Value->Mm->Res}{K:Value->World->Prop}(hG:∀ w,Own M W w []→∀ x∈G,w.heap[x.b]?=some (.cells x.cs x.ty))(ho:o.op= .load ty q)
  (H:∀ e',agE m.i e e'->(nT P G sh B ty (ev n f q) m (kf e')).good) (HK:Kon M W B e m kf K) {w:World} (hO:Own M W w (m.all B)):∃ v w',(execOp (ev n f) o).run P w= .ok (.value v) w'/\K v w':=by
 unfold nT at H
 simp only [tR,nfA_eq,pH,nfBs_eq] at H
 split at H
 ·rename_i b off hq
  obtain ⟨x,hx,hb,h1⟩:=vI (H e (agE.refl _ _))
  cases hv:yS P ty x.cs off with
  |none=>rw [hv] at h1;exact h1.elim
  |some v=>
   refine ⟨v,w,kE ho (by rw [hq,hb]) (yQ hv (pM hG hO hx)),HK.here (m':=m.nx) rfl (λe' he=> ?_) hO⟩
   obtain ⟨y,hy,_,h2⟩:=vI (H e' he)
   rw [hx] at hy
   obtain rfl:=Option.some.inj hy
   rw [hv] at h2;exact h2
 ·exact (H e (agE.refl _ _)).elim
theorem makeA_ok {kf:Env->Value->Mm->Res}{K:Value->World->Prop}{s:Sem Next}
  (H:∀ e',agE m.i e e'->(makeA P s e' m (kf e')).good) (HK:Kon M W B e m kf K) {w:World} (hO:Own M W w (m.all B)):∃ v w',s.run P w= .ok (.value v) w'/\K v w':=by
 have h0:=H (updE e m.i ⟨w.heap.size,0,[]⟩) (bE _ _ _)
 have hE:∀ e',agE (m.i+1) (updE e m.i ⟨w.heap.size,0,[]⟩) e'->(e' m.i).b=w.heap.size/\agE m.i e e':=λe' he=>⟨by rw [←he m.i (Nat.lt_succ_self _),updE_at],(bE e m.i _).trans (λj hj=>he j (Nat.lt_succ_of_lt hj)) (Nat.le_refl _)⟩
 have h1:((updE e m.i ⟨w.heap.size,0,[]⟩) m.i).b=w.heap.size:=by rw [updE_at]
 unfold makeA at h0 H
 simp only [tR,nfA_eq] at h0 H
 rw [h1] at h0
 cases hs:peel1 P w.heap.size s with
 |none=>rw [hs] at h0;exact h0.elim
 |some y=>
  obtain ⟨cs,T,a⟩:=y
  cases a with
  |value v=>
   refine ⟨v,_,peel1_ok hs,HK (updE e m.i ⟨w.heap.size,0,[]⟩) v (m.add ⟨w.heap.size,cs,T⟩) (bE _ _ _) (Nat.le_succ _) (λe' he=> ?_) _ (hO.alloc cs T)⟩
   obtain ⟨q1,q2⟩:=hE e' he
   have:=H e' q2
   rw [q1,hs] at this;exact this
  |_=>rw [hs] at h0;exact h0.elim
theorem store_ok {T:TypeId}{q y:Operand}{kf:Env->Unit->Mm->Res}{K:Unit->World->Prop}(ho:o.op= .store T q y)
  (H:∀ e',agE m.i e e'->(storeA P sh T (ev n f q) (ev n f y) m (kf e' ())).good) (HK:Kon M W B e m kf K) {w:World} (hO:Own M W w (m.all B)):∃ w',(execOp (ev n f) o).run P w= .ok .skip w'/\K () w':=by
 unfold storeA at H
 simp only [nfA_eq,nfBs_eq] at H
 split at H
 ·rename_i b off hq
  have h0:=H e (agE.refl _ _)
  cases hx:m.L[plA sh m.L b m.h]? with
  |none=>rw [hx] at h0;exact h0.elim
  |some x=>
   rw [hx] at h0 H
   cases hi:P.info? T with
   |none=>rw [hi] at h0;exact h0.elim
   |some t=>
    rw [hi] at h0 H
    dsimp only at h0 H
    cases hc:(Nat.beq (ev n f y).cells.size t.size && Nat.ble (off+t.size) x.cs.size && (ev n f y).cells.toList.all λu=>u.oneCell') with
    |false=>rw [hc] at h0;exact h0.elim
    |true=>
     rw [hc] at h0 H
     have hb:b=x.b:=h0.1
     rw [Bool.and_eq_true,Bool.and_eq_true] at hc
     obtain ⟨⟨c1,c2⟩,c3⟩:=hc
     have c1:=Nat.eq_of_beq_eq_true c1
     have c2:=Nat.le_of_ble_eq_true c2
     have hxa:(m.all B)[plA sh m.L b m.h]?=some x:=by
      have hlt:=(List.getElem?_eq_some_iff.1 hx).1
      unfold Mm.all;rw [List.getElem?_append_left hlt];exact hx
     have hst:=run_storeCells_at (P:=P) x.b off x.ty (ev n f y).cells.toList 0 x.cs w (hO.get hxa) (by simp;omega) (List.all_eq_true.1 c3)
     refine ⟨w.setRow x.b (zT x.cs off (ev n f y).cells), ?_,HK.here (m':=⟨m.L.set (plA sh m.L b m.h) ⟨x.b,zT x.cs off (ev n f y).cells,x.ty⟩,m.O,m.i,m.h.tl⟩) rfl (λe' he=>(H e' he).2) ?_⟩
     ·unfold execOp
      simp only [ho,hq,hb,Instr.storeAt,Instr.sureAddr,Sem.run_bind,Sem.run_pure,Result.andThen_ok,storeVar,sizeOf,typeInfo,hi,c1,run_program]
      simp only [ne_eq,not_true_eq_false,if_false]
      have:(storeCells ⟨x.b,off,none⟩ (ev n f y).cells.toList).run P w= .ok () (w.setRow x.b (zT x.cs off (ev n f y).cells)):=by
       rw [hst];unfold zT;simp
      simp [this]
     ·have:=hO.put hxa (zT x.cs off (ev n f y).cells)
      have hlt:=(List.getElem?_eq_some_iff.1 hx).1
      unfold Mm.all at this ⊢
      rw [List.set_append_left _ _ hlt] at this
      exact this
 ·exact (H e (agE.refl _ _)).elim
theorem news_at {w:World}{b o2 k:Nat}{cs:Array Value}{T:TypeId}(hg:w.heap[b]?=some (.cells cs T)):∀ j u,((cs.toList.drop o2).take k)[j]?=some u->w.cell? ((⟨b,o2,none⟩:Addr).add j)=some u:=λj u h=>by
 rw [yX,cell_of_row w b (o2+j) cs T _ hg]
 rw [List.getElem?_take] at h
 split at h
 ·rw [List.getElem?_drop] at h;simpa using h
 ·cases h
theorem yE {c:Bool}{r:Res}(h:(bif c then r else Res.bad).good):c=true/\r.good:=by cases c with|true=>exact ⟨rfl,h⟩|false=>exact h.elim
theorem own_appendF {t ty T:TypeId}{i:TypeInfo}{z:Value}{L:List Blk}{w:World}(ht:P.underlying t=some (.slice T))(hi:P.info? T=some i)(hz:i.zero=some z)(hzs:z.cells.size=i.size)
  {b:Addr} {n cap:Nat} {xs:List Value} (hxl:xs.length=n*i.size) (hxs:∀ j u,xs[j]?=some u->w.cell? (b.add j)=some u)
  {a:Addr} {m c:Nat} {news:List Value} (hl:news.length=m*i.size) (hnews:∀ j u,news[j]?=some u->w.cell? (a.add j)=some u)
  (hroom:cap<n+m) (h63:n+m<=maxLen) (hbytes:(n+m)*i.bytes<=140737488355328) (hO:Own M W w L):
  ∃ v' w' ob',(Builtin.append_ #[t,t] ty #[.slice (some b) n cap,.slice (some a) m c]).run P w= .ok v' w'/\Sl T i.size v' (n+m) (xs++news) ob'/\Own M W w' (ob'++L):=by
 have hsmall:n+m<=9223372036854775807:=by simp only [maxLen] at h63;omega
 have hlen:(xs++news).length=(n+m)*i.size:=by rw [List.length_append,hxl,hl,Nat.add_mul]
 have hr:=run_append_grow (P:=P) w t ty T i z ht hi hz b n cap xs hxl hxs a m c news hl hnews Om Om (growslice_fits Om hbytes)
 have hge:=grownCap_ge w (n+m) cap T
 have hcm:=grownCap_le_maxLen w (n+m) cap T h63
 refine ⟨_,_,[⟨w.heap.size,xs.toArray++news.toArray++Builtin.zeroCells z.cells (grownCap w (n+m) cap T-(n+m)),T⟩],hr,⟨hlen,.inr ⟨w.heap.size,grownCap w (n+m) cap T,_,rfl,rfl,hge,hcm, ?_, ?_⟩⟩,(fU hO).alloc (xs.toArray++news.toArray++Builtin.zeroCells z.cells (grownCap w (n+m) cap T-(n+m))) T⟩
 ·simp only [Array.size_append,List.size_toArray,size_zeroCells,hzs,hxl,hl,←Nat.add_mul]
  congr 1
  omega
 ·simp only [Array.toList_append,List.append_assoc]
  rw [←List.append_assoc,←hlen]
  exact List.take_left
theorem app2_ok {T sz n2:Nat}{news:List Value}{s:Value}{R:Value->World->Prop}{kf:Env->Value->Mm->Res}{K:Value->World->Prop}{w:World}(hn:1<=n2)
  (H:∀ e',agE m.i e e'->(app2 G sh B T sz n2 news s e' m (kf e')).good) (HK:Kon M W B e m kf K) (hO:Own M W w (m.all B))
  (hap:∀ (E ob L0:List Blk) (k:Nat) (xs:List Value),k<=100000->Sl T sz s k xs ob->Own M W w (E++ob++L0)→∃ v' w' ob',R v' w'/\Sl T sz v' (k+n2) (xs++news) ob'/\Own M W w' (E++ob'++L0))
  (hfu:∀ (b1 o1 n1 c1:Nat) (xs:List Value),s= .slice (some ⟨b1,o1,none⟩) n1 c1->n1<=100000->xs.length=n1*sz->(∀ j u,xs[j]?=some u->w.cell? ((⟨b1,o1,none⟩:Addr).add j)=some u)->c1<n1+n2→∃ v' w' ob',R v' w'/\Sl T sz v' (n1+n2) (xs++news) ob'/\Own M W w' (ob'++m.all B)) (hG:∀ w,Own M W w []→∀ x∈G,w.heap[x.b]?=some (.cells x.cs x.ty)):∃ v w',R v w'/\K v w':=by
 have hE:∀ nm e',agE (m.i+1) (updE e m.i nm) e'->e' m.i=nm/\agE m.i e e':=λnm e' he=>⟨by rw [←he m.i (Nat.lt_succ_self _),updE_at],(bE e m.i _).trans (λj hj=>he j (Nat.lt_succ_of_lt hj)) (Nat.le_refl _)⟩
 unfold app2 at H
 split at H
 ·obtain ⟨v',w',ob',hr,hsl,hO'⟩:=hap m.L [] (m.O.map Rc.blk++B) 0 [] Om (Sl.nil T sz) (by rw [List.append_nil];exact hO)
  rw [Nat.zero_add,List.nil_append] at hsl
  obtain ⟨nm,rfl,rfl⟩:=Rc.of hsl hn
  refine ⟨_,w',hr,HK (updE e m.i nm) _ (m.own ⟨nm,n2,sz,news,T⟩) (bE _ _ _) (Nat.le_succ _) (λe' he=> ?_) _ (by have:=hO';rw [List.append_assoc] at this;exact this)⟩
  obtain ⟨q1,q2⟩:=hE nm e' he
  have h3:=H e' q2
  rw [q1] at h3;exact h3
 ·rename_i b1 o1 n1 c1'
  have h1:=H e (agE.refl _ _)
  cases hr:m.O[plO sh m.O b1 m.h]? with
  |none=>
   rw [hr] at h1 H
   obtain ⟨hc,h1⟩:=yE h1
   obtain ⟨y,hy,hb,h2⟩:=vI h1.2
   obtain ⟨hl,_⟩:=yE h2
   rw [Bool.and_eq_true] at hl
   have hh:=pM (m:=m.nx) hG hO hy
   obtain ⟨v',w',ob',hrr,hsl,hO'⟩:=hfu b1 o1 n1 c1' _ rfl (Nat.le_of_ble_eq_true hl.2) (Nat.eq_of_beq_eq_true hl.1) (by rw [hb];exact news_at hh) (Nat.le_of_ble_eq_true hc)
   obtain ⟨nm,rfl,rfl⟩:=Rc.of hsl Om
   refine ⟨_,w',hrr,HK (updE e m.i nm) _ (m.nx.nx.own ⟨nm,n1+n2,sz,_,T⟩) (bE _ _ _) (Nat.le_succ _) (λe' he=> ?_) _ (hO'.perm (List.perm_middle (l₁:=m.L)).symm)⟩
   obtain ⟨q1,q2⟩:=hE nm e' he
   obtain ⟨y',hy',_,h3⟩:=vI (yE (H e' q2)).2.2
   rw [hy] at hy'
   obtain rfl:=Option.some.inj hy'
   have h4:=(yE h3).2
   have h5:(kf e' (Rc.mk (e' m.i) (n1+n2) sz _ T).v (m.nx.nx.own ⟨e' m.i,n1+n2,sz,_,T⟩)).good:=h4
   rw [q1] at h5;exact h5
  |some r=>
   rw [hr] at h1 H
   obtain ⟨hc,h1'⟩:=yE h1
   simp only [Bool.and_eq_true] at hc
   obtain ⟨⟨⟨⟨⟨d0,d1⟩,d2⟩,d3⟩,d4⟩,d5⟩:=hc
   have d0:=Nat.eq_of_beq_eq_true d0
   subst d0
   have d1:=Nat.le_of_ble_eq_true d1
   have d2:=Nat.eq_of_beq_eq_true d2
   have d3:=Nat.eq_of_beq_eq_true d3
   have d4:=Nat.eq_of_beq_eq_true d4
   have d5:=Nat.le_of_ble_eq_true d5
   have hb1:b1=r.x.b:=h1'.1
   have hcc:c1'=capN r.x.c r.n:=h1'.2.1
   have hlt:=(List.getElem?_eq_some_iff.1 hr).1
   have hget:=(List.getElem?_eq_some_iff.1 hr).2
   generalize plO sh m.O b1 m.h=j at*
   have hsl:=Rc.slTo (r:=r) (m:=n1) (by rw [d2];exact d4) (by unfold maxLen;omega) d1
   have hO9:m.O=m.O.take j++r::m.O.drop (j+1):=by rw [←hget,List.getElem_cons_drop,List.take_append_drop]
   have hO8:m.all B=(m.L++(m.O.take j).map Rc.blk)++[r.blk]++((m.O.drop (j+1)).map Rc.blk++B):=by
    unfold Mm.all
    conv=>lhs;rw [hO9]
    simp
   rw [d2,d3,←hb1,←hcc] at hsl
   obtain ⟨v',w',ob',hrr,hsl',hO'⟩:=hap (m.L++(m.O.take j).map Rc.blk) [r.blk] ((m.O.drop (j+1)).map Rc.blk++B) n1 (r.xs.take (n1*sz)) Om hsl (hO8▸hO)
   obtain ⟨nm,rfl,rfl⟩:=Rc.of hsl' Om
   refine ⟨_,w',hrr,HK (updE e m.i nm) _ ⟨m.L,m.O.set j ⟨nm,n1+n2,sz,r.xs.take (n1*sz)++news,T⟩,m.i+1,m.h.tl.tl⟩ (bE _ _ _) (Nat.le_succ _) (λe' he=> ?_) _ ?_⟩
   ·obtain ⟨q1,q2⟩:=hE nm e' he
    have h4:=(yE (H e' q2)).2.2.2
    rw [q1] at h4;exact h4
   ·have:=hO'
    unfold Mm.all
    rw [List.set_eq_take_append_cons_drop,if_pos hlt]
    simpa using this
 ·exact (H e (agE.refl _ _)).elim
theorem app_ok {t:TypeId}{s x:Operand}{kf:Env->Value->Mm->Res}{K:Value->World->Prop}(hG:∀ w,Own M W w []→∀ x∈G,w.heap[x.b]?=some (.cells x.cs x.ty))(ho:o.op= .call {callee:= .builtin .append,args:= #[s,x],argTypes:= #[t,t]})
  (H:∀ e',agE m.i e e'->(appA P G sh B t (ev n f s) (ev n f x) e' m (kf e')).good) (HK:Kon M W B e m kf K) {w:World} (hO:Own M W w (m.all B)):∃ v w',(execOp (ev n f) o).run P w= .ok (.value v) w'/\K v w':=by
 unfold appA at H
 split at H
 rotate_left
 ·exact (H e (agE.refl _ _)).elim
 rename_i T b2 o2 n2 c2 ht hxv
 have h0:=H e (agE.refl _ _)
 cases hi:P.info? T with
 |none=>rw [hi] at h0;exact h0.elim
 |some i=>
 rw [hi] at h0 H
 dsimp only at h0 H
 cases hz:i.zero with
 |none=>rw [hz] at h0;exact h0.elim
 |some z=>
 rw [hz] at h0 H
 dsimp only at h0 H
 obtain ⟨y,hy,hb,h1⟩:=vI h0
 obtain ⟨hc,h1⟩:=yE h1
 simp only [Bool.and_eq_true] at hc
 obtain ⟨⟨⟨⟨⟨c1,c2'⟩,c3⟩,c4⟩,c5⟩,c6⟩:=hc
 have c1:=Nat.eq_of_beq_eq_true c1
 have c2':=Nat.le_of_ble_eq_true c2'
 have c3:=Nat.eq_of_beq_eq_true c3
 have c5:=Nat.le_of_ble_eq_true c5
 have c6:=Nat.le_of_ble_eq_true c6
 have hnw:∀ j u,((y.cs.toList.drop o2).take (n2*i.size))[j]?=some u->w.cell? ((⟨b2,o2,none⟩:Addr).add j)=some u:=by rw [hb];exact news_at (pM hG hO hy)
 refine app2_ok (G:=G) (sh:=sh) (T:=T) (sz:=i.size) (news:=(y.cs.toList.drop o2).take (n2*i.size)) (s:=ev n f s) (m:=m.nx) (R:=λv w'=>(execOp (ev n f) o).run P w= .ok (.value v) w') c2' (λe' he=> ?_) HK hO (λE ob L0 k xs hk hsl hO'=> ?_) (λb1 o1 n1 cc xs hs hk hxl hxs hc=> ?_) hG
 ·obtain ⟨y',hy',_,h2⟩:=vI (H e' he)
  rw [hy] at hy'
  obtain rfl:=Option.some.inj hy'
  exact (yE h2).2
 ·obtain ⟨v',w',ob',hr,h1,h2⟩:=bW (P:=P) (ty:=o.type) (a:=⟨b2,o2,none⟩) (c:=c2) ht hi hz rfl c1 hsl hO' c3 hnw (List.all_eq_true.1 c4) (show k+n2<=maxLen by unfold maxLen;omega) (Nat.le_trans (Nat.mul_le_mul (show k+n2<=200000 by omega) c6) (by decide))
  refine ⟨v',w',ob', ?_,h1,h2⟩
  unfold execOp
  simp only [ho,resolve,invoke,builtin,Sem.run_bind,Sem.run_pure,Result.andThen_ok,List.map_toArray,List.map_cons,List.map_nil,hxv,hr]
 ·obtain ⟨v',w',ob',hr,h1,h2⟩:=own_appendF (P:=P) (M:=M) (W:=W) (L:=m.nx.all B) (ty:=o.type) (b:=⟨b1,o1,none⟩) (cap:=cc) (a:=⟨b2,o2,none⟩) (c:=c2) ht hi hz c1 hxl hxs c3 hnw hc (show n1+n2<=maxLen by unfold maxLen;omega) (Nat.le_trans (Nat.mul_le_mul (show n1+n2<=200000 by omega) c6) (by decide)) hO
  refine ⟨v',w',ob', ?_,h1,h2⟩
  unfold execOp
  simp only [ho,resolve,invoke,builtin,Sem.run_bind,Sem.run_pure,Result.andThen_ok,List.map_toArray,List.map_cons,List.map_nil,hs,hxv,hr]
end
section
variable {M:List Nat}{P:Program}{G:List Blk}{sh:Bool}{W:World}{n:Nat}{f:Nat->Value}{o:Oper}{e:Env}{m:Mm}{B:List Blk}
theorem conv_ok {src dst:TypeId}{x:Operand}{kf:Env->Value->Mm->Res}{K:Value->World->Prop}(hG:∀ w,Own M W w []→∀ x∈G,w.heap[x.b]?=some (.cells x.cs x.ty))(ho:o.op= .convert src dst x)
  (H:∀ e',agE m.i e e'->(convA P G sh B src dst (ev n f x) m (kf e')).good) (HK:Kon M W B e m kf K) {w:World} (hO:Own M W w (m.all B)):∃ v w',(execOp (ev n f) o).run P w= .ok (.value v) w'/\K v w':=by
 unfold convA at H
 split at H
 rotate_left
 ·exact (H e (agE.refl _ _)).elim
 rename_i b o2 n2 c2 hx
 have h0:=H e (agE.refl _ _)
 split at h0
 rotate_left
 ·exact h0.elim
 rename_i el hs
 rw [hs] at H
 dsimp only at H
 split at h0
 rotate_left
 ·exact h0.elim
 rename_i he hd
 rw [he,hd] at H
 dsimp only at H
 obtain ⟨y,hy,hb,h1⟩:=vI h0
 obtain ⟨hc,_⟩:=yE h1
 rw [Bool.and_eq_true,Bool.and_eq_true] at hc
 have hh:=pM hG hO hy
 have hl:=Nat.eq_of_beq_eq_true hc.1.2
 refine ⟨_,w,run_bytes (P:=P) (B:=w.heap.size) (l:=byQ ((y.cs.toList.drop o2).take n2)) ho (by rw [hx,hl]) hs he hd (by rw [hl];exact Nat.le_of_ble_eq_true hc.1.1) (λ_=>⟨b,o2,rfl,hb▸(Array.getElem?_eq_some_iff.1 hh).1,λk u hk=> ?_⟩),HK.here (m':=m.nx) rfl (λe' he'=> ?_) hO⟩
 ·rw [←flEqs_ok hc.2] at hk
  rw [hb,←yX]
  exact news_at hh k u hk
 ·obtain ⟨y',hy',_,h2⟩:=vI (H e' he')
  rw [hy] at hy'
  obtain rfl:=Option.some.inj hy'
  exact (yE h2).2
end
theorem run_slE {P:Program}{ρ:Operand->Value}{o:Oper}{t el:TypeId}{x y:Operand}{b o2 n c sz:Nat}{k:IntKind}(ho:o.op= .slice t x (some y) none none)(hx:ρ x= .slice (some ⟨b,o2,none⟩) n c)(hy:ρ y= .int k (n:Int))
  (hu:P.underlying t=some (.slice el)) (hs:(P.info? el).map (·.size)=some sz) (w:World):(execOp ρ o).run P w= .ok (.value (.slice (some (if c=n then ⟨b,o2,none⟩ else ⟨b,o2+n*sz,none⟩)) 0 (c-n))) w:=by
 cases he:P.info? el with
 |none=>rw [he] at hs;cases hs
 |some i=>
  rw [he] at hs
  obtain rfl:=Option.some.inj hs
  unfold execOp
  simp [ho,hx,hy,Instr.sliceAt,Instr.slice,Instr.sliceBounds,Instr.sliceBound,Sem.run_bind,asIntOf,run_underlying hu,sizeOf,typeInfo,he,yX]
  split<;>rfl
def appQ (c:Call):Option (Operand×Operand×TypeId):=match c.callee,c.args.toList,c.argTypes.toList with
 | .builtin .append,[s,x],[t,t']=>bif Nat.beq t t' then some (s,x,t) else none
 |_,_,_=>none
theorem appQ_op {c:Call}{s x:Operand}{t:TypeId}(h:appQ c=some (s,x,t)):c={callee:= .builtin .append,args:= #[s,x],argTypes:= #[t,t]}:=by
 obtain ⟨ce,⟨xa⟩,⟨ta⟩⟩:=c
 unfold appQ at h
 dsimp only at h
 split at h
 ·rename_i h1 h2 h3
  cases hb:Nat.beq h2 h3 with
  |false=>rw [hb] at h;cases h
  |true=>
   rw [hb] at h
   have:=Nat.eq_of_beq_eq_true hb
   subst this
   cases h;rfl
 ·cases h
section
variable (P:Program)(G:List Blk)(pr:Prm)(sh:Bool)
def valA (k:FuncId)(args:Array Value)(xs:List Value)(m:Mm)(kk:Value->Mm->Res):Res:=match pr.val k args xs with
 |some v=>nfV v λv=>kk v m
 |none=> .bad
noncomputable def mN (call:dQ)(B:List Blk)(k:FuncId)(args:Array Value)(e:Env)(m:Mm)(kk:Value->Mm->Res):Res:=
 match pr.sa k with
 |some a=>match args.getD a undef with
  | .slice none 0 0=>valA pr k args [] m kk
  | .slice (some ⟨b,o,none⟩) n c=>seeA sh (m.all (B++G)) b m λx m=>bif Nat.beq ((x.cs.toList.drop o).take n).length n && Nat.ble n c then valA pr k args ((x.cs.toList.drop o).take n) m kk else .bad
  |_=> .bad
 |none=>match pr.val k args [] with
  |some v=>nfV v λv=>kk v m
  |none=>match pr.lst k args with
   |some (T,xs)=>nfVs xs λxs=>bif Nat.ble 1 xs.length then kk (Rc.mk (e m.i) xs.length 1 xs T).v (m.own ⟨e m.i,xs.length,1,xs,T⟩) else .bad
   |none=>call B k args e m kk
noncomputable def pureA (call:dQ)(B:List Blk)(n:Nat)(f:Nat->Value)(o:Oper)(e:Env)(m:Mm)(k:Value->Mm->Res):Res:=match pT P (execOp (ev n f) o) with
 |some (.value v)=>nfV v λv=>k v m
 |some (.enter g args)=>nfA args λargs=>mN G pr sh call B g args e m k
 |_=> .bad
noncomputable def sliA (t:TypeId)(b o2 n c:Nat)(m:Mm)(k:Value->Mm->Res):Res:=match P.underlying t with
 |some (.slice el)=>match (P.info? el).map (·.size) with
  |some sz=> .two (k (.slice (some ⟨b,o2,none⟩) 0 (c-n)) ⟨m.L,m.O,m.i,m.h.l1⟩) (k (.slice (some ⟨b,o2+n*sz,none⟩) 0 (c-n)) ⟨m.L,m.O,m.i,m.h.l2⟩)
  |none=> .bad
 |_=> .bad
def sliQ (v:Value)(w:Value):Option (Nat×Nat×Nat×Nat):=match v,w with
 | .slice (some ⟨b,o,none⟩) n c,.int _ z=>bif decide (z=(n:Int)) then some (b,o,n,c) else none
 |_,_=>none
theorem sliQ_ok {v w:Value}{b o n c:Nat}(h:sliQ v w=some (b,o,n,c)):v= .slice (some ⟨b,o,none⟩) n c∧∃ k,w= .int k (n:Int):=by
 unfold sliQ at h
 split at h
 ·rename_i z
  cases hd:decide (z=_) with
  |false=>rw [hd] at h;cases h
  |true=>rw [hd] at h;cases h;exact ⟨rfl,_,by rw [of_decide_eq_true hd]⟩
 ·cases h
noncomputable def opA (call:dQ)(B:List Blk)(n:Nat)(f:Nat->Value)(o:Oper)(e:Env)(m:Mm)(k:(Nat->Value)->Mm->Res):Res:=match o.op with
 | .load ty p=>nT P G sh B ty (ev n f p) m λv m=>k (upd f o.dst v) m
 | .store T p y=>match o.dst with
  |none=>storeA P sh T (ev n f p) (ev n f y) m λm=>k f m
  |some _=> .bad
 | .alloc _=>makeA P (execOp (ev n f) o) e m λv m=>k (upd f o.dst v) m
 | .box _ _=>makeA P (execOp (ev n f) o) e m λv m=>k (upd f o.dst v) m
 | .buildSlice _ _ _=>makeA P (execOp (ev n f) o) e m λv m=>k (upd f o.dst v) m
 | .makeSlice _ _ _=>makeA P (execOp (ev n f) o) e m λv m=>k (upd f o.dst v) m
 | .convert s d x=>match ev n f x with
  | .slice (some _) _ _=>convA P G sh B s d (ev n f x) m λv m=>k (upd f o.dst v) m
  |_=>pureA P G pr sh call B n f o e m λv m=>k (upd f o.dst v) m
 | .slice t x (some y) none none=>match sliQ (ev n f x) (ev n f y) with
  |some (b,o2,l,c)=>sliA P t b o2 l c m λv m=>k (upd f o.dst v) m
  |none=>pureA P G pr sh call B n f o e m λv m=>k (upd f o.dst v) m
 | .call c=>match appQ c with
  |some (s,x,t)=>appA P G sh B t (ev n f s) (ev n f x) e m λv m=>k (upd f o.dst v) m
  |none=>pureA P G pr sh call B n f o e m λv m=>k (upd f o.dst v) m
 |_=>pureA P G pr sh call B n f o e m λv m=>k (upd f o.dst v) m
noncomputable def aOps (call:dQ)(B:List Blk)(n:Nat)(a:Array Oper)(e:Env):List Oper->(Nat->Value)->Mm->((Nat->Value)->Mm->Res)->Res
 | [],f,m,k=>k f m
 |o::r,f,m,k=>bif zR a n f o then opA P G pr sh call B n f o e m (λf m=>aOps call B n a e r f m k) else aOps call B n a e r (upd f o.dst undef) m k
end
structure PrOk (P:Program)(pr:Prm)(M:List Nat)(W:World):Prop where
 v0:∀ {k args v},pr.sa k=none->pr.val k args []=some v→∀ w,Own M W w []->Calls P k args w λen w'=>en= .returned v/\YB w w'
 vn:∀ {k a args v},pr.sa k=some a->args.getD a undef= .slice none 0 0->pr.val k args []=some v→∀ w,Own M W w []->Calls P k args w λen w'=>en= .returned v/\YB w w'
 vs:∀ {k a args v b o n c xs},pr.sa k=some a->args.getD a undef= .slice (some ⟨b,o,none⟩) n c->n<=c->xs.length=n->pr.val k args xs=some v→∀ w,Own M W w []->b<w.heap.size->(∀ j u,xs[j]?=some u->w.cell? ⟨b,o+j,none⟩=some u)->Calls P k args w λen w'=>en= .returned v/\YB w w'
 ls:∀ {k args T xs},pr.lst k args=some (T,xs)→∀ w,Own M W w []->Calls P k args w λen w'=>∃ v ob,en= .returned v/\Sl T 1 v xs.length xs ob/\Own [] w w' ob
section
variable {M:List Nat}{P:Program}{G:List Blk}{pr:Prm}{sh:Bool}{W:World}{n:Nat}{Q:Exit->Act->World->Prop}{f:Nat->Value}{o:Oper}{e:Env}{m:Mm}{B:List Blk}{call:dQ}
def GOk (M:List Nat)(W:World)(G:List Blk):Prop:=∀ w,Own M W w []→∀ x∈G,w.heap[x.b]?=some (.cells x.cs x.ty)
def mV (P:Program)(M:List Nat)(W:World)(call:dQ):Prop:=∀ B k args e m kf,(∀ e',agE m.i e e'->(call B k args e' m (kf e')).good)→∀ K,Kon M W B e m kf K→∀ w,Own M W w (m.all B)->Calls P k args w λen w'=>∃ v,en= .returned v/\K v w'
theorem val_ok {k:FuncId}{args:Array Value}{xs:List Value}{kk:Value->Mm->Res}(h:(valA pr k args xs m kk).good):∃ v,pr.val k args xs=some v/\(kk v m).good:=by
 unfold valA at h
 simp only [tR] at h
 split at h
 ·rename_i v hv;exact ⟨v,hv,h⟩
 ·exact h.elim
theorem val_is {k:FuncId}{args:Array Value}{xs:List Value}{v:Value}{kk:Value->Mm->Res}(hv:pr.val k args xs=some v)(h:(valA pr k args xs m kk).good):(kk v m).good:=by
 obtain ⟨u,hu,h1⟩:=val_ok h
 rw [hv] at hu
 exact (Option.some.inj hu)▸h1
theorem enter_ok (hG:GOk M W G)(hP:PrOk P pr M W)(hC:mV P M W call){k:FuncId}{args:Array Value}{kf:Env->Value->Mm->Res}{K:Value->World->Prop}
  (H:∀ e',agE m.i e e'->(mN G pr sh call B k args e' m (kf e')).good) (HK:Kon M W B e m kf K) {w:World} (hO:Own M W w (m.all B)):Calls P k args w λen w'=>∃ v,en= .returned v/\K v w':=by
 have h0:=H e (agE.refl _ _)
 have fin:∀ {v:Value} {m':Mm},m'.i=m.i->m'.all B=m.all B->(∀ e',agE m.i e e'->(kf e' v m').good)->(Calls P k args w λen w'=>en= .returned v/\YB w w')->Calls P k args w λen w'=>∃ v,en= .returned v/\K v w':=λ{v m'} hi hm hg hc=>hc.mono λen w' ⟨e1,e2⟩=>⟨v,e1,HK.here hi hg (hm▸hO.on e2)⟩
 unfold mN at h0 H
 simp only [tR,pH] at h0 H
 cases hs:pr.sa k with
 |some a=>
  rw [hs] at h0 H
  dsimp only at h0 H
  split at h0
  ·rename_i ha
   rw [ha] at H
   obtain ⟨v,hv,_⟩:=val_ok h0
   exact fin rfl rfl (λe' he=>val_is hv (H e' he)) (hP.vn hs ha hv w hO.no)
  ·rename_i b o n c ha
   rw [ha] at H
   obtain ⟨x,hx,hb,h1⟩:=vI h0
   obtain ⟨hl,h1⟩:=yE h1
   rw [Bool.and_eq_true] at hl
   have hh:=pM hG hO hx
   have hnews:=news_at (o2:=o) (k:=n) hh
   obtain ⟨v,hv,_⟩:=val_ok h1
   refine fin (m':=m.nx) rfl rfl (λe' he=> ?_) (hP.vs hs ha (Nat.le_of_ble_eq_true hl.2) (Nat.eq_of_beq_eq_true hl.1) hv w hO.no (hb▸(Array.getElem?_eq_some_iff.1 hh).1) λj u hj=> ?_)
   ·obtain ⟨x',hx',_,h2⟩:=vI (H e' he)
    rw [hx] at hx'
    obtain rfl:=Option.some.inj hx'
    exact val_is hv (yE h2).2
   ·rw [hb,←yX];exact hnews j u hj
  ·exact h0.elim
 |none=>
  rw [hs] at h0 H
  dsimp only at h0 H
  cases hv:pr.val k args [] with
  |some v=>exact fin rfl rfl (λe' he=>by have:=H e' he;rw [hv] at this;exact this) (hP.v0 hs hv w hO.no)
  |none=>
   rw [hv] at h0 H
   dsimp only at h0 H
   cases hl:pr.lst k args with
   |none=>
    rw [hl] at H
    exact hC B k args e m kf H K HK w hO
   |some y=>
    obtain ⟨T,xs⟩:=y
    rw [hl] at h0 H
    dsimp only at h0 H
    obtain ⟨hn,_⟩:=yE h0
    refine (hP.ls hl w hO.no).mono λen w' ⟨v,ob,e1,h2,h3⟩=> ?_
    obtain ⟨nm,rfl,rfl⟩:=Rc.of h2 (Nat.le_of_ble_eq_true hn)
    refine ⟨_,e1,HK (updE e m.i nm) _ (m.own ⟨nm,xs.length,1,xs,T⟩) (bE _ _ _) (Nat.le_succ _) (λe' he=> ?_) _ ?_⟩
    ·have q1:e' m.i=nm:=by rw [←he m.i (Nat.lt_succ_self _),updE_at]
     have:=(yE (H e' ((bE e m.i _).trans (λj hj=>he j (Nat.lt_succ_of_lt hj)) (Nat.le_refl _)))).2
     rw [q1] at this;exact this
    ·have h4:=Own.joinN hO h3
     exact h4.perm (List.perm_middle (l₁:=m.L)).symm
theorem pure_ok (hG:GOk M W G)(hP:PrOk P pr M W)(hC:mV P M W call){kf:Env->Value->Mm->Res}{K:Value->World->Prop}{Q0:Exit->Act->World->Prop}{K0:Act->World->Prop}
  (H:∀ e',agE m.i e e'->(pureA P G pr sh call B n f o e' m (kf e')).good) (HK:Kon M W B e m kf K) (hK:∀ v w,K v w->K0 (Fr n (upd f o.dst v)) w) {w:World} (hO:Own M W w (m.all B)):o.wp P (Fr n f) w K0 Q0:=by
 unfold pureA at H
 simp only [tR,nfA_eq] at H
 have h0:=H e (agE.refl _ _)
 cases hp:pT P (execOp (ev n f) o) with
 |none=>rw [hp] at h0;exact h0.elim
 |some y=>
  rw [hp] at h0 H
  cases y with
  |value v=>exact kA v (pE hp w) (hK v w (HK.here rfl H hO))
  |enter g args=>exact bP (pE hp w) ((enter_ok hG hP hC H HK hO).mono λen w' ⟨v,e1,e2⟩=>⟨v,e1,hK v w' e2⟩)
  |_=>exact h0.elim
theorem sli_ok {t:TypeId}{x y:Operand}{b o2 l c:Nat}{kf:Env->Value->Mm->Res}{K:Value->World->Prop}(ho:o.op= .slice t x (some y) none none)(hq:sliQ (ev n f x) (ev n f y)=some (b,o2,l,c))
  (H:∀ e',agE m.i e e'->(sliA P t b o2 l c m (kf e')).good) (HK:Kon M W B e m kf K) {w:World} (hO:Own M W w (m.all B)):∃ v w',(execOp (ev n f) o).run P w= .ok (.value v) w'/\K v w':=by
 unfold sliA at H
 have h0:=H e (agE.refl _ _)
 obtain ⟨hx,k,hy⟩:=sliQ_ok hq
 split at h0
 ·rename_i el hu
  rw [hu] at H
  dsimp only at h0 H
  split at h0
  ·rename_i sz hs
   rw [hs] at H
   have hr:=run_slE (P:=P) ho hx hy hu hs w
   by_cases hc:c=l
   ·rw [if_pos hc] at hr
    exact ⟨_,w,hr,HK.here (m':=⟨m.L,m.O,m.i,m.h.l1⟩) rfl (λe' he=>(H e' he).1) hO⟩
   ·rw [if_neg hc] at hr
    exact ⟨_,w,hr,HK.here (m':=⟨m.L,m.O,m.i,m.h.l2⟩) rfl (λe' he=>(H e' he).2) hO⟩
  ·exact h0.elim
 ·exact h0.elim
theorem op_ok (hG:GOk M W G)(hP:PrOk P pr M W)(hC:mV P M W call){kf:Env->(Nat->Value)->Mm->Res}{Q0:Exit->Act->World->Prop}{K0:Act->World->Prop}
  (H:∀ e',agE m.i e e'->(opA P G pr sh call B n f o e' m (kf e')).good) (HK:Kon M W B e m kf (λf' w=>K0 (Fr n f') w)) {w:World} (hO:Own M W w (m.all B)):o.wp P (Fr n f) w K0 Q0:=by
 have key:∀ v w,(λv w=>K0 (Fr n (upd f o.dst v)) w) v w->K0 (Fr n (upd f o.dst v)) w:=λ_ _ h=>h
 have HKv:Kon M W B e m (λe' v m=>kf e' (upd f o.dst v) m) (λv w=>K0 (Fr n (upd f o.dst v)) w):=λe1 v m' h1 h2 h3 w hw=>HK e1 _ m' h1 h2 h3 w hw
 have mk:(∀ e',agE m.i e e'->(makeA P (execOp (ev n f) o) e' m λv m=>kf e' (upd f o.dst v) m).good)->o.wp P (Fr n f) w K0 Q0:=λH=>by
  obtain ⟨v,w',h1,h2⟩:=makeA_ok H HKv hO
  exact kA v h1 h2
 have pu:(∀ e',agE m.i e e'->(pureA P G pr sh call B n f o e' m λv m=>kf e' (upd f o.dst v) m).good)->o.wp P (Fr n f) w K0 Q0:=λH=>pure_ok hG hP hC H HKv key hO
 unfold opA at H
 cases ho:o.op with
 |load ty q=>
  rw [ho] at H
  obtain ⟨v,w',h1,h2⟩:=load_ok (hG:=hG) ho H HKv hO
  exact kA v h1 h2
 |store T q y=>
  rw [ho] at H
  dsimp only at H
  cases hd:o.dst with
  |some d=>rw [hd] at H;exact (H e (agE.refl _ _)).elim
  |none=>
   rw [hd] at H
   obtain ⟨w',h1,h2⟩:=store_ok (kf:=λe' _ m=>kf e' f m) (K:=λ_ w=>K0 (Fr n f) w) ho H (λe1 v m' h1 h2 h3 w hw=>HK e1 _ m' h1 h2 h3 w hw) hO
   unfold Oper.wp
   rw [x3,h1]
   show K0 ((Fr n f).put o.dst undef) w'
   rw [gO,hd];exact h2
 |alloc T=>rw [ho] at H;exact mk H
 |box T x=>rw [ho] at H;exact mk H
 |buildSlice t l ps=>rw [ho] at H;exact mk H
 |makeSlice t x y=>rw [ho] at H;exact mk H
 |convert s d x=>
  rw [ho] at H
  dsimp only at H
  split at H
  ·obtain ⟨v,w',h1,h2⟩:=conv_ok (hG:=hG) ho H HKv hO
   exact kA v h1 h2
  ·exact pu H
 |slice t x lo hi mx=>
  rw [ho] at H
  cases lo with
  |none=>exact pu H
  |some y=>cases hi with
   |some z=>exact pu H
   |none=>cases mx with
    |some z=>exact pu H
    |none=>
     dsimp only at H
     cases hq:sliQ (ev n f x) (ev n f y) with
     |none=>rw [hq] at H;exact pu H
     |some q=>
      obtain ⟨b,o2,l,c⟩:=q
      rw [hq] at H
      obtain ⟨v,w',h1,h2⟩:=sli_ok ho hq H HKv hO
      exact kA v h1 h2
 |call c=>
  rw [ho] at H
  dsimp only at H
  cases hq:appQ c with
  |none=>rw [hq] at H;exact pu H
  |some y=>
   obtain ⟨s,x,t⟩:=y
   rw [hq] at H
   obtain ⟨v,w',h1,h2⟩:=app_ok (hG:=hG) (by rw [ho,appQ_op hq]) H HKv hO
   exact kA v h1 h2
 |_=>rw [ho] at H;exact pu H
theorem ops_ok (hG:GOk M W G)(hP:PrOk P pr M W)(hC:mV P M W call){a:Array Oper}{kf:Env->(Nat->Value)->Mm->Res}:∀ (r:List Oper) (f:Nat->Value) (m:Mm) (e:Env),
  (∀ e',agE m.i e e'->(aOps P G pr sh call B n a e' r f m (kf e')).good)->Kon M W B e m kf (λf' w=>Q .normal (Fr n f') w)->Seg M P n a W Q r (m.all B) f
 | [],f,m,e,H,HK=>⟨λw hO=>HK.here rfl H hO⟩
 |o::r,f,m,e,H,HK=>by
  cases hw:zR a n f o with
  |false=>exact s_skip hw (ops_ok hG hP hC r _ m e (λe' he=>by have:=H e' he;rw [aOps,hw] at this;exact this) HK)
  |true=>
   refine gM hw λw hO=>op_ok (kf:=λe' f' m'=>aOps P G pr sh call B n a e' r f' m' (kf e')) hG hP hC (λe' he=>by have:=H e' he;rw [aOps,hw] at this;exact this) (λe1 f' m' h1 h2 h3 w' hO'=> ?_) hO
   exact (ops_ok hG hP hC r f' m' e1 h3 (λe2 f2 m2 g1 g2 g3 w2 hw2=>HK e2 f2 m2 (h1.trans g1 h2) (Nat.le_trans h2 g2) g3 w2 hw2)).go w' hO'
end
section
variable (P:Program)(G:List Blk)(pr:Prm)(sh:Bool)
noncomputable def takeA (B:List Blk)(n:Nat)(f:Nat->Value)(a:Array Oper)(o:Oper)(m:Mm)(k:(Nat->Value)->Mm->Res):Res:=
 bif zR a n f o then (match o.op with
  | .load ty p=>match ev n f p with
   | .pointer (some ⟨b,off,none⟩)=>seeA sh (B++G) b m λx m=>match yS P ty x.cs off with
    |some v=>k (upd f o.dst v) m
    |none=> .bad
   |_=> .bad
  |_=>match pT P (execOp (ev n f) o) with
   |some (.value v)=>k (upd f o.dst v) m
   |_=> .bad)
 else k (upd f o.dst undef) m
noncomputable def aH (call:dQ)(B:List Blk)(n:Nat)(a:Array Oper)(e:Env):Nat->Array Bool->(Nat->Value)->Mm->((Nat->Value)->Mm->Res)->Res
 |u,s,f,m,k=>match Region.ready .any a s with
  | []=>k f m
  |i0::rs=>match u with
   |0=> .bad
   |u+1=>match (i0::rs).find? (λi=>xTak n a f i && Region.free .any a s i) with
    |some i=>match a[i]? with
     |some o=>bif Region.noSelect a && Region.free .any a s i && (Region.ready .any a s).contains i then takeA P G sh B n f a o m (λf m=>aH call B n a e u (s.setIfInBounds i true) f m k) else .bad
     |none=> .bad
    |none=>match rs with
     | []=>match a[i0]? with
      |some o=>bif zR a n f o then opA P G pr sh call B n f o e m (λf m=>aH call B n a e u (s.setIfInBounds i0 true) f m k) else .bad
      |none=> .bad
     | [j0]=>match a[i0]?,a[j0]? with
      |some o,some q=>bif zR a n f o && zR a n f q then .two (opA P G pr sh call B n f o e ⟨m.L,m.O,m.i,m.h.l1⟩ (λf m=>aH call B n a e u (s.setIfInBounds i0 true) f m k)) (opA P G pr sh call B n f q e ⟨m.L,m.O,m.i,m.h.l2⟩ (λf m=>aH call B n a e u (s.setIfInBounds j0 true) f m k)) else .bad
      |_,_=> .bad
     |_=> .bad
end
section
variable {M:List Nat}{P:Program}{G:List Blk}{pr:Prm}{sh:Bool}{W:World}{n:Nat}{Q:Exit->Act->World->Prop}{f:Nat->Value}{o:Oper}{e:Env}{m:Mm}{B:List Blk}{call:dQ}
theorem nX {w:World}(hO:Own M W w (m.all B)):Own M W w B:=Own.sub _ (by have:=hO;unfold Mm.all at this;rw [←List.append_assoc] at this;exact this)
theorem take_ok (hG:GOk M W G){a:Array Oper}{i u:Nat}{s:Array Bool}(hi:a[i]?=some o)(hs:Region.noSelect a=true)(hf:Region.free .any a s i=true)(hr:(Region.ready .any a s).contains i=true)(hQ:PQ Q){kf:Env->(Nat->Value)->Mm->Res}
  (H:∀ e',agE m.i e e'->(takeA P G sh B n f a o m (kf e')).good) (HK:∀ f' m',m'.i=m.i->m'.all B=m.all B->(∀ e',agE m.i e e'->(kf e' f' m').good)->jN M P n a W B Q u (s.setIfInBounds i true) (m'.all B) f'):jN M P n a W B Q (u+1) s (m.all B) f:=by
 unfold takeA at H
 have h0:=H e (agE.refl _ _)
 cases hw:zR a n f o with
 |false=>
  rw [hw] at H
  exact hl_skip i o hi hs hf hr hQ (λw=>nX) hw (HK _ m rfl rfl H)
 |true=>
  rw [hw] at h0 H
  dsimp only [cond_true] at h0 H
  have pu:(∀ e',agE m.i e e'->(match pT P (execOp (ev n f) o) with
   |some (.value v)=>kf e' (upd f o.dst v) m
   |_=>Res.bad:Res).good)->jN M P n a W B Q (u+1) s (m.all B) f:=λH=>by
   have h0:=H e (agE.refl _ _)
   cases hp:pT P (execOp (ev n f) o) with
   |none=>rw [hp] at h0;exact h0.elim
   |some y=>cases y with
    |value v=>rw [hp] at H;exact pL i o v hi hs hf hr hQ (λw=>nX) hw (λw _=>pE hp w) (HK _ m rfl rfl H)
    |_=>rw [hp] at h0;exact h0.elim
  cases ho:o.op with
  |load ty q=>
   rw [ho] at h0 H
   dsimp only at h0 H
   split at h0
   ·rename_i b off hq
    rw [hq] at H
    obtain ⟨x,hx,hb,h1⟩:=vI h0
    cases hv:yS P ty x.cs off with
    |none=>rw [hv] at h1;exact h1.elim
    |some v=>
     refine hl_old i o (a:=⟨b,off,none⟩) v hi hs hf hr hQ (λw=>nX) hw ho hq (λw hO=> ?_) (HK _ m.nx rfl rfl λe' he=> ?_)
     ·rw [hb]
      refine yQ (T:=x.ty) hv ?_
      rcases List.mem_append.1 (List.mem_of_getElem? hx) with hx|hx
      ·exact hO.held x hx
      ·exact hG w hO.no x hx
     ·obtain ⟨y,hy,_,h2⟩:=vI (H e' he)
      rw [hx] at hy
      obtain rfl:=Option.some.inj hy
      rw [hv] at h2;exact h2
   ·exact h0.elim
  |_=>rw [ho] at H;exact pu H
theorem h_ok (hG:GOk M W G)(hP:PrOk P pr M W)(hC:mV P M W call)(hQ:PQ Q){a:Array Oper}{kf:Env->(Nat->Value)->Mm->Res}:∀ (u:Nat) (s:Array Bool) (f:Nat->Value) (m:Mm) (e:Env),
  (∀ e',agE m.i e e'->(aH P G pr sh call B n a e' u s f m (kf e')).good)->Kon M W B e m kf (λf' w=>Q .normal (Fr n f') w)->jN M P n a W B Q u s (m.all B) f:=by
 intro u
 induction u with
 |zero=>
  intro s f m e H HK
  have h0:=H e (agE.refl _ _)
  unfold aH at h0 H
  cases hr:Region.ready .any a s with
  |nil=>rw [hr] at H;exact h_done hr ⟨λw hO=>HK.here rfl H hO⟩
  |cons i rs=>rw [hr] at h0;exact h0.elim
 |succ u ih=>
  intro s f m e H HK
  have h0:=H e (agE.refl _ _)
  unfold aH at h0 H
  have one:∀ {i:Nat} {o:Oper} {m0:Mm},m0.i=m.i->m0.all B=m.all B->a[i]?=some o->zR a n f o=true->(∀ e',agE m.i e e'->(opA P G pr sh call B n f o e' m0 (λf m=>aH P G pr sh call B n a e' u (s.setIfInBounds i true) f m (kf e'))).good)->dC M P n a W B Q u s i (m.all B) f:=λ{i o m0} hmi hma hi hw H1=>by
   refine mI hi hw λw hO=>op_ok (m:=m0) (e:=e) (kf:=λe' f' m'=>aH P G pr sh call B n a e' u (s.setIfInBounds i true) f' m' (kf e')) hG hP hC (hmi▸H1) (λe1 f' m' h1 h2 h3 w' hO'=> ?_) (hma▸hO)
   rw [hmi] at h1 h2
   exact ⟨nX hO',(ih _ f' m' e1 h3 (λe2 f2 m2 g1 g2 g3 w2 hw2=>HK e2 f2 m2 (h1.trans g1 h2) (Nat.le_trans h2 g2) g3 w2 hw2)).go w' hO'⟩
  cases hr:Region.ready .any a s with
  |nil=>rw [hr] at H;exact h_done hr ⟨λw hO=>HK.here rfl H hO⟩
  |cons i0 rs=>
   rw [hr] at h0 H
   dsimp only at h0 H
   cases hf:(i0::rs).find? (λi=>xTak n a f i && Region.free .any a s i) with
   |some i=>
    rw [hf] at h0 H
    dsimp only at h0 H
    cases hi:a[i]? with
    |none=>rw [hi] at h0;exact h0.elim
    |some o=>
     rw [hi] at h0 H
     obtain ⟨hc,_⟩:=yE h0
     rw [Bool.and_eq_true,Bool.and_eq_true] at hc
     exact take_ok hG hi hc.1.1 hc.1.2 (by rw [hr];exact hc.2) hQ (λe' he=>(yE (H e' he)).2) λf' m' h1 h2 h3=>(ih _ f' m' e (h1▸h3) λe2 f2 m2 g1 g2 g3 w2 hw2=>HK e2 f2 m2 (h1▸g1) (h1▸g2) g3 w2 hw2)
   |none=>
    rw [hf] at h0 H
    dsimp only at h0 H
    match rs,h0,H,hr with
    | [],h0,H,hr=>
     dsimp only at h0 H
     cases hi:a[i0]? with
     |none=>rw [hi] at h0;exact h0.elim
     |some o=>
      rw [hi] at h0 H
      obtain ⟨hw,_⟩:=yE h0
      exact h_one i0 hr (one rfl rfl hi hw λe' he=>(yE (H e' he)).2)
    | [j0],h0,H,hr=>
     dsimp only at h0 H
     cases hi:a[i0]? with
     |none=>rw [hi] at h0;exact h0.elim
     |some o=>cases hj:a[j0]? with
      |none=>rw [hi,hj] at h0;exact h0.elim
      |some q=>
       rw [hi,hj] at h0 H
       obtain ⟨hw,_⟩:=yE h0
       rw [Bool.and_eq_true] at hw
       exact h_two i0 j0 hr (one (m0:=⟨m.L,m.O,m.i,m.h.l1⟩) rfl rfl hi hw.1 λe' he=>(yE (H e' he)).2.1) (one (m0:=⟨m.L,m.O,m.i,m.h.l2⟩) rfl rfl hj hw.2 λe' he=>(yE (H e' he)).2.2)
    |_::_::_,h0,H,hr=>exact h0.elim
end
def splA {α:Type}(d:List Nat)(l:List α):List α×List α:=((l.zipIdx.filter λp=>d.contains p.2).map Prod.fst,(l.zipIdx.filter λp=> !d.contains p.2).map Prod.fst)
theorem splA_perm {α:Type}(d:List Nat)(l:List α):((splA d l).1++(splA d l).2).Perm l:=by
 unfold splA
 dsimp only
 rw [←List.map_append]
 have:=(List.filter_append_perm (λp=>d.contains p.2) l.zipIdx).map Prod.fst
 rw [List.zipIdx_map_fst] at this
 exact this
def posA (r l:List Nat):List Nat:=(l.zipIdx.filter λp=>r.contains p.1).map Prod.snd
def stF:List Oper->Nat
 | []=>0
 |o::r=>match o.op with
  | .store _ _ _=>0
  |_=>stF r+1
def stG (l:List Oper):Nat->Nat
 |0=>0
 |m+1=>bif preB .any l (m+1) then m+1 else stG l m
def stA (l:List Oper):Nat:=stG l (stF l)
theorem perm_in {L D R O D' R' B:List Blk}(h1:(D++R).Perm L)(h2:(D'++R').Perm O):(L++(O++B)).Perm (D++(D'++(R++(R'++B)))):=
 (h1.symm.append (h2.symm.append_right B)).trans (by
  rw [List.append_assoc,List.append_assoc]
  exact (List.perm_append_comm_assoc R D' (R'++B)).append_left D)
theorem perm_out (L O R R' B:List Blk):(L++(O++(R++(R'++B)))).Perm ((L++R)++((O++R')++B)):=by
 rw [List.append_assoc,List.append_assoc]
 exact (List.perm_append_comm_assoc O R (R'++B)).append_left L
section
variable (P:Program)(G:List Blk)(pr:Prm)(sh:Bool)
noncomputable def regA (call:dQ)(B:List Blk)(n:Nat)(a:Array Oper)(e:Env)(dl dO:List Nat)(f:Nat->Value)(m:Mm)(k:(Nat->Value)->Mm->Res):Res:=
 bif P.follows .mixedOrders && preB .any a.toList (stA a.toList) then
  .dr dl dO (aH P G pr sh call ((splA dl m.L).2++((splA dO m.O).2.map Rc.blk++B)) n (a.toList.take (stA a.toList)).toArray e (stA a.toList) (Array.replicate (stA a.toList) false) f ⟨(splA dl m.L).1,(splA dO m.O).1,m.i,m.h.tl⟩ λf m'=>
   aOps P G pr sh call B n a e (a.toList.drop (stA a.toList)) f ⟨m'.L++(splA dl m.L).2,m'.O++(splA dO m.O).2,m'.i,m'.h⟩ k)
 else .bad
def quA (o:Oper):Bool:=xQuiet o && match o.op with
 | .call c=>match c.callee with
  | .builtin _=>true
  |_=>match P.underlying o.type with
   |some (.int _)=>true
   |some .string=>true
   |some .bool=>true
   |_=>false
 |_=>true
noncomputable def aQ (call:dQ)(B:List Blk)(n:Nat)(a:Array Oper)(e:Env):List Oper->(Nat->Value)->Mm->((Nat->Value)->Mm->Res)->Res
 | [],f,m,k=>k f m
 |o::r,f,m,k=>bif zR a n f o then (match o.op with
  | .load ty p=>nT P G sh B ty (ev n f p) m λv m=>aQ call B n a e r (upd f o.dst v) m k
  |_=>match pT P (execOp (ev n f) o) with
   |some (.value v)=>aQ call B n a e r (upd f o.dst v) m k
   |some (.enter g args)=>bif sh then
     .vl (mN G pr sh call (m.all B) g args e ⟨[],[],m.i,m.h⟩ (λv _=> .vl v .fin)).vv (.two (mN G pr sh call (m.all B) g args e ⟨[],[],m.i,m.h⟩ (λv _=> .vl v .fin)) (aQ call B n a e r (upd f o.dst (mN G pr sh call (m.all B) g args e ⟨[],[],m.i,m.h⟩ (λv _=> .vl v .fin)).vv) m k))
    else .two (mN G pr sh call (m.all B) g args e ⟨[],[],m.i,m.h.tl.l1⟩ (λv _=>bif flEq v m.h.vv then .fin else .bad)) (aQ call B n a e r (upd f o.dst m.h.vv) ⟨m.L,m.O,m.i,m.h.tl.l2⟩ k)
   |_=> .bad) else aQ call B n a e r (upd f o.dst undef) m k
noncomputable def regB (call:dQ)(B:List Blk)(n:Nat)(a:Array Oper)(e:Env)(f:Nat->Value)(m:Mm)(k:(Nat->Value)->Mm->Res):Res:=
 bif a.toList.all (quA P) then (bif P.follows .mixedOrders && Region.lexB .any a then aQ P G pr sh call B n a e a.toList f m k else .bad)
 else bif sh then regA P G pr sh call B n a e (posA (aOps P G pr sh call B n a e (a.toList.take (stA a.toList)) f m λ_ _=> .fin).md' (m.L.map Blk.b)) (posA (aOps P G pr sh call B n a e (a.toList.take (stA a.toList)) f m λ_ _=> .fin).md' (m.O.map λr=>r.x.b)) f m k
 else regA P G pr sh call B n a e m.h.ls m.h.lo f m k
noncomputable def fX (call:dQ)(B:List Blk)(n:Nat)(e:Env):Fuel1->Code->(Nat->Value)->Mm->(Exit->(Nat->Value)->Mm->Res)->Res
 | .z,_,_,_,_=> .bad
 | .s u,c,f,m,k=>match c with
  | .skip=>k .normal f m
  | .label _=>k .normal f m
  | .exit id=>k (.exit id) f m
  | .ret=>k .ret f m
  | .seq x y=>fX call B n e u x f m λex f m=>match ex with
   | .normal=>fX call B n e u y f m k
   |ex=>k ex f m
  | .cond o x y=>match ev n f o with
   | .bool true=>fX call B n e u x f m k
   | .bool false=>fX call B n e u y f m k
   |_=> .bad
  | .block id x=>fX call B n e u x f m λex f m=>match ex with
   | .exit id'=>bif Nat.beq id' id then k .normal f m else k (.exit id') f m
   |ex=>k ex f m
  | .loop x=>fX call B n e u x f m λex f m=>match ex with
   | .normal=>fX call B n e u (.loop x) f m k
   |ex=>k ex f m
  | .scope x=>fX call B n e u x f m λex f m=>match ex with
   | .goto _=> .bad
   |ex=>k ex f m
  | .region _ a false=>aOps P G pr sh call B n a e a.toList f m (k .normal)
  | .region _ a true=>regB P G pr sh call B n a e f m (k .normal)
  |_=> .bad
noncomputable def cellA (B:List Blk)(ty:TypeId)(p:Value)(m:Mm)(k:Value->Mm->Res):Res:=nT P G sh B ty p m k
noncomputable def resA' (B:List Blk)(n:Nat)(rs:List ResultVar)(f:Nat->Value)(m:Mm)(k:Value->Mm->Res):Res:=match rs with
 | []=>k (.tuple #[]) m
 | [.tmp t]=>k (ev n f (.tmp t)) m
 | [.tmp t,.tmp u]=>k (.tuple #[ev n f (.tmp t),ev n f (.tmp u)]) m
 | [.cell p ty]=>nT P [] sh B ty (ev n f (.tmp p)) m k
 | [.cell p ty,.tmp u]=>nT P [] sh B ty (ev n f (.tmp p)) m λv m=>k (.tuple #[v,ev n f (.tmp u)]) m
 |_=> .bad
noncomputable def aFun:Nat->dQ
 |0=>λ_ _ _ _ _ _=> .bad
 |u+1=>λB k args e m kk=>match P.funcs[k]? with
  |some fn=>match fn.body with
   |some c=>bif Nat.ble args.size fn.ntmps then fX P G pr sh (aFun u) B fn.ntmps e fuelA c (λt=>args.getD t undef) m (λex f m=>match ex with
    | .ret=>resA' P sh B fn.ntmps fn.results.toList f m kk
    | .normal=>(match fn.results.toList with
     | []=>kk (.tuple #[]) m
     |_=> .bad)
    |_=> .bad) else .bad
   |none=> .bad
  |none=> .bad
end
def LoopWp (P:Program)(c:Code)(Q:Exit->Act->World->Prop)(a:Act)(w:World):Prop:=∀ b k cs,∃ e a' w',Q e a' w'/\Arrives P (lone (b.at a (.inLoop c::k)) cs w) b k cs e a' w'
theorem loop_in {P:Program}{c:Code}{Q:Exit->Act->World->Prop}{a:Act}{w:World}(h:c.wp P (Exit.then (LoopWp P c Q) Q) a w):(Code.loop c).wp P Q a w/\LoopWp P c Q a w:=by
 have key:∀ b k cs,∃ e a' w',Q e a' w'/\Arrives P (lone (b.at a (.code c:: .inLoop c::k)) cs w) b k cs e a' w':=λb k cs=>by
  obtain ⟨e,a₁,w₁,hq,harr⟩:=h b (.inLoop c::k) cs
  cases e with
  |normal=>
   obtain ⟨e₂,a₂,w₂,hq₂,harr₂⟩:=hq b k cs
   exact ⟨e₂,a₂,w₂,hq₂,.of_steps harr harr₂⟩
  |exit id=>exact ⟨_,a₁,w₁,hq,.pass (x:= .inLoop c) rfl (λ_ _=> .inl (by simp)) harr⟩
  |goto l=>exact ⟨_,a₁,w₁,hq,.pass (x:= .inLoop c) rfl (λ_ _=> .inl (by simp)) harr⟩
  |ret=>exact ⟨_,a₁,w₁,hq,.pass (x:= .inLoop c) rfl (λ_ _=> .inl (by simp)) harr⟩
  |panic ch=>exact ⟨_,a₁,w₁,hq,.pass (x:= .inLoop c) rfl (λ_ _=> .inl (by simp)) harr⟩
  |outgrown=>exact ⟨_,a₁,w₁,hq,.pass (x:= .inLoop c) rfl (λ_ _=> .inl (by simp)) harr⟩
 refine ⟨λb k cs=> ?_,λb k cs=> ?_⟩
 ·obtain ⟨e,a',w',hq,harr⟩:=key b k cs
  exact ⟨e,a',w',hq,.of_steps (.one step_loop) harr⟩
 ·obtain ⟨e,a',w',hq,harr⟩:=key b k cs
  exact ⟨e,a',w',hq,.of_steps (.one step_inLoop) harr⟩
section
variable {M:List Nat}{P:Program}{G:List Blk}{pr:Prm}{sh:Bool}{W:World}{n:Nat}{Q:Exit->Act->World->Prop}{f:Nat->Value}{e:Env}{m:Mm}{B:List Blk}{call:dQ}
theorem regA_ok (hG:GOk M W G)(hP:PrOk P pr M W)(hC:mV P M W call)(hQ:PQ Q){a:Array Oper}{id:Nat}{dl dO:List Nat}{kf:Env->(Nat->Value)->Mm->Res}
  (H:∀ e',agE m.i e e'->(regA P G pr sh call B n a e' dl dO f m (kf e')).good) (HK:Kon M W B e m kf (λf' w=>Q .normal (Fr n f') w)):Ok M P n W Q (.region id a true) (m.all B) f:=by
 unfold regA at H
 obtain ⟨hc,_⟩:=yE (H e (agE.refl _ _))
 rw [Bool.and_eq_true] at hc
 obtain ⟨l,rfl⟩:∃ l:List Oper,a=l.toArray:=⟨a.toList,by simp⟩
 dsimp only at H hc
 refine ok_drawh (stA l) ((splA dl m.L).2++((splA dO m.O).2.map Rc.blk++B)) hc.1 hc.2 ?_
 have hp1:=splA_perm dl m.L
 have hp2:=(splA_perm dO m.O).map Rc.blk
 rw [List.map_append] at hp2
 generalize splA dl m.L=d1 at*
 generalize splA dO m.O=d2 at*
 refine h_take14 (L':=Mm.all ⟨d1.1,d2.1,m.i,m.h.tl⟩ (d1.2++(d2.2.map Rc.blk++B))) (λw hO=>hO.perm (perm_in hp1 hp2)) (h_ok (m:=⟨d1.1,d2.1,m.i,m.h.tl⟩) (e:=e) (kf:=λe' f' m'=>aOps P G pr sh call B n l.toArray e' (l.drop (stA l)) f' ⟨m'.L++d1.2,m'.O++d2.2,m'.i,m'.h⟩ (kf e')) hG hP hC (dT hQ) _ _ _ (λe' he=>(yE (H e' he)).2) λe1 f' m' h1 h2 h3 w hO=> ?_)
 have:=(ops_ok (M:=M) (W:=W) (B:=B) (n:=n) (Q:=Q) (a:=l.toArray) (kf:=kf) hG hP hC (l.drop (stA l)) f' ⟨m'.L++d1.2,m'.O++d2.2,m'.i,m'.h⟩ e1 h3 λe2 f2 m2 g1 g2 g3 w2 hw2=>HK e2 f2 m2 (h1.trans g1 h2) (Nat.le_trans h2 g2) g3 w2 hw2).go w
 refine this ?_
 have h4:=hO.perm (perm_out m'.L (m'.O.map Rc.blk) d1.2 (d2.2.map Rc.blk) B)
 unfold Mm.all
 rw [List.map_append]
 exact h4
def KonX (M:List Nat)(W:World)(n:Nat)(B:List Blk)(e:Env)(m:Mm)(kf:Env->Exit->(Nat->Value)->Mm->Res)(Q:Exit->Act->World->Prop):Prop:=
 Kon (α:=Exit×(Nat->Value)) M W B e m (λe' p m=>kf e' p.1 p.2 m) (λp w=>Q p.1 (Fr n p.2) w)
theorem nL (hG:GOk M W G)(hP:PrOk P pr M W)(hC:mV P M W call){a:Array Oper}{kf:Env->(Nat->Value)->Mm->Res}:∀ (r:List Oper) (f:Nat->Value) (m:Mm) {L:List Blk},m.all B=L→
  (∀ e',agE m.i e e'->(aQ P G pr false call B n a e' r f m (kf e')).good)->Kon M W B e m kf (λf' w=>Q .normal (Fr n f') w)->jS M P n a W (Fin M n W Q .normal) r L f
 | [],f,m,L,hL,H,HK=>q_nil ⟨λw hO=>HK.here rfl H (hL▸hO)⟩
 |o::r,f,m,L,hL,H,HK=>by
  cases hw:zR a n f o with
  |false=>exact q_skip hw (nL hG hP hC r _ m hL (λe' he=>by have:=H e' he;rw [aQ,hw] at this;exact this) HK)
  |true=>
   have pu:(∀ e',agE m.i e e'->(match pT P (execOp (ev n f) o) with
    |some (.value v)=>aQ P G pr false call B n a e' r (upd f o.dst v) m (kf e')
    |some (.enter g args)=> .two (mN G pr false call (m.all B) g args e' ⟨[],[],m.i,m.h.tl.l1⟩ (λv _=>bif flEq v m.h.vv then .fin else .bad)) (aQ P G pr false call B n a e' r (upd f o.dst m.h.vv) ⟨m.L,m.O,m.i,m.h.tl.l2⟩ (kf e'))
    |_=>Res.bad:Res).good)->jS M P n a W (Fin M n W Q .normal) (o::r) L f:=λH=>by
    have h0:=H e (agE.refl _ _)
    cases hp:pT P (execOp (ev n f) o) with
    |none=>rw [hp] at h0;exact h0.elim
    |some y=>cases y with
     |value v=>
      rw [hp] at H
      exact q_val v hw (λw=>pE hp w) (nL hG hP hC r _ m hL H HK)
     |enter g args=>
      rw [hp] at H
      refine ⟨?_⟩
      have h2:=(nL (L:=L) hG hP hC r (upd f o.dst m.h.vv) ⟨m.L,m.O,m.i,m.h.tl.l2⟩ hL (λe' he=>(H e' he).2) HK).go
      refine BigFrame.wpQuiet_want (by rw [gF];exact hw) λK hK=>⟨m.h.vv,λw hO=> ?_,hK _ ?_⟩
      ·unfold Oper.quietAt
       rw [x3,pE hp w]
       refine ⟨rfl,(enter_ok (B:=m.all B) (m:=⟨[],[],m.i,m.h.tl.l1⟩) (e:=e) (kf:=λ_ v _=>bif flEq v m.h.vv then .fin else .bad) (K:=λv w'=>v=m.h.vv/\Own M W w' L) hG hP hC (λe' he=>(H e' he).1) (λe1 v m' _ _ h3 w' hO'=> ?_) (show Own M W w (m.all B) from hL▸hO)).mono λen w' ⟨v,e1,e2,e3⟩=>⟨by rw [e1,e2],e3⟩⟩
       exact ⟨flEq_ok (yE (h3 e1 (agE.refl _ _))).1,hL▸nX hO'⟩
      ·rw [gO];exact h2
     |_=>rw [hp] at h0;exact h0.elim
   have H1:∀ e',agE m.i e e'->(match o.op with
    | .load ty p=>nT P G false B ty (ev n f p) m λv m=>aQ P G pr false call B n a e' r (upd f o.dst v) m (kf e')
    |_=>match pT P (execOp (ev n f) o) with
     |some (.value v)=>aQ P G pr false call B n a e' r (upd f o.dst v) m (kf e')
     |some (.enter g args)=> .two (mN G pr false call (m.all B) g args e' ⟨[],[],m.i,m.h.tl.l1⟩ (λv _=>bif flEq v m.h.vv then .fin else .bad)) (aQ P G pr false call B n a e' r (upd f o.dst m.h.vv) ⟨m.L,m.O,m.i,m.h.tl.l2⟩ (kf e'))
     |_=>Res.bad:Res).good:=λe' he=>by have:=H e' he;rw [aQ,hw] at this;exact this
   cases ho:o.op with
   |load ty q=>
    rw [ho] at H1
    dsimp only at H1
    unfold nT at H1
    simp only [tR] at H1
    have h0:=H1 e (agE.refl _ _)
    split at h0
    ·rename_i b off hq
     rw [hq] at H1
     obtain ⟨x,hx,hb,h1⟩:=vI h0
     cases hv:yS P ty x.cs off with
     |none=>rw [hv] at h1;exact h1.elim
     |some v=>
      refine q_old (a:=⟨b,off,none⟩) v hw ho hq (λw hO=> ?_) (nL hG hP hC r _ m.nx hL (λe' he=> ?_) HK)
      ·rw [hb];exact yQ hv (pM hG (hL▸hO) hx)
      ·obtain ⟨y,hy,_,h2⟩:=vI (H1 e' he)
       rw [hx] at hy
       obtain rfl:=Option.some.inj hy
       rw [hv] at h2;exact h2
    ·exact h0.elim
   |_=>rw [ho] at H1;exact pu H1
theorem code_ok (hG:GOk M W G)(hP:PrOk P pr M W)(hC:mV P M W call):∀ (u:Fuel1),
  (∀ (c:Code) (f:Nat->Value) (m:Mm) (e:Env) (Q:Exit->Act->World->Prop) (kf:Env->Exit->(Nat->Value)->Mm->Res),PQ Q->(∀ e',agE m.i e e'->(fX P G pr false call B n e' u c f m (kf e')).good)->KonX M W n B e m kf Q→∀ w,Own M W w (m.all B)->c.wp P Q (Fr n f) w)∧
  (∀ (c:Code) (f:Nat->Value) (m:Mm) (e:Env) (Q:Exit->Act->World->Prop) (kf:Env->Exit->(Nat->Value)->Mm->Res),PQ Q->(∀ e',agE m.i e e'->(fX P G pr false call B n e' u (.loop c) f m (kf e')).good)->KonX M W n B e m kf Q→∀ w,Own M W w (m.all B)->LoopWp P c Q (Fr n f) w)
 | .z=>⟨λc f m e Q kf hQ H HK w hO=>(H e (agE.refl _ _)).elim,λc f m e Q kf hQ H HK w hO=>(H e (agE.refl _ _)).elim⟩
 | .s u=>by
  have ih:=code_ok hG hP hC u
  have lp:∀ (c:Code) (f:Nat->Value) (m:Mm) (e:Env) (Q:Exit->Act->World->Prop) (kf:Env->Exit->(Nat->Value)->Mm->Res),PQ Q->(∀ e',agE m.i e e'->(fX P G pr false call B n e' (.s u) (.loop c) f m (kf e')).good)->KonX M W n B e m kf Q→∀ w,Own M W w (m.all B)->(Code.loop c).wp P Q (Fr n f) w/\LoopWp P c Q (Fr n f) w:=λc f m e Q kf hQ H HK w hO=>by
   refine loop_in (ih.1 c f m e (Exit.then (LoopWp P c Q) Q) _ (dT hQ) H (λe1 p m' h1 h2 h3 w' hO'=> ?_) w hO)
   obtain ⟨ex,f'⟩:=p
   cases ex with
   |normal=>exact ih.2 c f' m' e1 Q kf hQ h3 (λe2 p2 m2 g1 g2 g3 w2 hw2=>HK e2 p2 m2 (h1.trans g1 h2) (Nat.le_trans h2 g2) g3 w2 hw2) w' hO'
   |_=>exact HK e1 (_,f') m' h1 h2 h3 w' hO'
  refine ⟨λc f m e Q kf hQ H HK w hO=> ?_,λc f m e Q kf hQ H HK w hO=>(lp c f m e Q kf hQ H HK w hO).2⟩
  have h0:=H e (agE.refl _ _)
  cases c with
  |skip=>exact (ok_skip ⟨λw hO=>HK.here (a:=(.normal,f)) rfl H hO⟩).go w hO
  |label l=>exact wp_label (HK.here (a:=(.normal,f)) rfl H hO)
  |exit id=>exact (ok_exit ⟨λw hO=>HK.here (a:=(.exit id,f)) rfl H hO⟩).go w hO
  |ret=>exact (wX ⟨λw hO=>HK.here (a:=(.ret,f)) rfl H hO⟩).go w hO
  |seq x y=>
   refine wp_seq (ih.1 x f m e (Exit.then (Code.wp P y Q) Q) _ (dT hQ) H (λe1 p m' h1 h2 h3 w' hO'=> ?_) w hO)
   obtain ⟨ex,f'⟩:=p
   cases ex with
   |normal=>exact ih.1 y f' m' e1 Q kf hQ h3 (λe2 p2 m2 g1 g2 g3 w2 hw2=>HK e2 p2 m2 (h1.trans g1 h2) (Nat.le_trans h2 g2) g3 w2 hw2) w' hO'
   |_=>exact HK e1 (_,f') m' h1 h2 h3 w' hO'
  |cond o x y=>
   unfold fX at h0 H
   dsimp only at h0 H
   split at h0
   ·rename_i hb
    rw [hb] at H
    exact wp_cond_true (by rw [x3];exact hb) (ih.1 x f m e Q kf hQ H HK w hO)
   ·rename_i hb
    rw [hb] at H
    exact wp_cond_false (by rw [x3];exact hb) (ih.1 y f m e Q kf hQ H HK w hO)
   ·exact h0.elim
  |block id x=>
   refine wp_block (ih.1 x f m e (Exit.inBlock id Q) _ (bS hQ) H (λe1 p m' h1 h2 h3 w' hO'=> ?_) w hO)
   obtain ⟨ex,f'⟩:=p
   cases ex with
   |exit id'=>
    show if id'=id then Q .normal _ _ else Q (.exit id') _ _
    have h3':∀ e',agE m'.i e1 e'->(bif Nat.beq id' id then kf e' .normal f' m' else kf e' (.exit id') f' m').good:=h3
    cases hb:Nat.beq id' id with
    |true=>
     rw [hb] at h3'
     rw [if_pos (Nat.eq_of_beq_eq_true hb)];exact HK e1 (.normal,f') m' h1 h2 h3' w' hO'
    |false=>
     rw [hb] at h3'
     rw [if_neg (λq=>by rw [q,Nat.beq_refl] at hb;cases hb)];exact HK e1 (.exit id',f') m' h1 h2 h3' w' hO'
   |_=>exact HK e1 (_,f') m' h1 h2 h3 w' hO'
  |loop x=>exact (lp x f m e Q kf hQ H HK w hO).1
  |scope x=>
   refine wp_scope_straight (ih.1 x f m e (Exit.noGoto Q) _ (λc a d v w h=>hQ c a d v w h) H (λe1 p m' h1 h2 h3 w' hO'=> ?_) w hO)
   obtain ⟨ex,f'⟩:=p
   cases ex with
   |goto l=>exact (h3 e1 (agE.refl _ _)).elim
   |_=>exact HK e1 (_,f') m' h1 h2 h3 w' hO'
  |region id a d=>
   cases d with
   |false=>exact (ok_regA (id:=id) (ops_ok hG hP hC a.toList f m e H (λe1 f' m' h1 h2 h3 w' hO'=>HK e1 (.normal,f') m' h1 h2 h3 w' hO'))).go w hO
   |true=>
    have HK':Kon M W B e m (λe' f' m'=>kf e' .normal f' m') (λf' w=>Q .normal (Fr n f') w):=λe1 f' m' h1 h2 h3 w' hO'=>HK e1 (.normal,f') m' h1 h2 h3 w' hO'
    have H':∀ e',agE m.i e e'->(regB P G pr false call B n a e' f m (kf e' .normal)).good:=H
    unfold regB at H'
    cases hq:a.toList.all (quA P) with
    |true=>
     rw [hq] at H'
     have h1:=(yE (H' e (agE.refl _ _))).1
     rw [Bool.and_eq_true] at h1
     exact (ok_drawA (id:=id) h1.1 h1.2 (nL hG hP hC a.toList f m rfl (λe' he=>(yE (H' e' he)).2) HK')).go w hO
    |false=>
     rw [hq] at H'
     exact (regA_ok (id:=id) hG hP hC hQ H' HK').go w hO
  |_=>exact h0.elim
theorem res_ok {fn:Func}{kf:Env->Value->Mm->Res}{K:Value->World->Prop}(H:∀ e',agE m.i e e'->(resA' P sh B n fn.results.toList f m (kf e')).good)(HK:Kon M W B e m kf K){w:World}(hO:Own M W w (m.all B)):bodyPost P fn (λen w'=>∃ v,en= .returned v/\K v w') .ret (Fr n f) w:=by
 have hA:∀ l,fn.results.toList=l->fn.results=l.toArray:=λl h=>by rw [←h]
 have cell:∀ {ty:TypeId} {q:Tmp} {kv:Env->Value->Mm->Res} {R:Value->World->Prop},(∀ e',agE m.i e e'->(nT P [] sh B ty (ev n f (.tmp q)) m (kv e')).good)->Kon M W B e m kv R→∃ (j:Nat) (x:Blk) (off:Nat) (v:Value),(m.all B)[j]?=some x/\ev n f (.tmp q)= .pointer (some ⟨x.b,off,none⟩)/\yS P ty x.cs off=some v∧∀ w,Own M W w (m.all B)->R v w:=λ{ty q kv R} H HK=>by
  unfold nT at H
  simp only [tR] at H
  rw [List.append_nil] at H
  split at H
  ·rename_i b off hq
   obtain ⟨x,hx,hb,h1⟩:=vI (H e (agE.refl _ _))
   cases hv:yS P ty x.cs off with
   |none=>rw [hv] at h1;exact h1.elim
   |some v=>
    refine ⟨_,x,off,v,hx,by rw [hq,hb],hv,λw hO=>HK.here (m':=m.nx) rfl (λe' he=> ?_) hO⟩
    obtain ⟨y,hy,_,h2⟩:=vI (H e' he)
    rw [hx] at hy
    obtain rfl:=Option.some.inj hy
    rw [hv] at h2;exact h2
  ·exact (H e (agE.refl _ _)).elim
 unfold resA' at H
 split at H
 ·rename_i h
  exact (fin_none_ret (hA _ h) λw hO=>⟨_,rfl,HK.here rfl H hO⟩).go w hO
 ·rename_i h
  exact (fin_ret _ (hA _ h) rfl λw hO=>⟨_,rfl,HK.here rfl H hO⟩).go w hO
 ·rename_i h
  exact (fin_ret2 _ _ (hA _ h) rfl rfl λw hO=>⟨_,rfl,HK.here rfl H hO⟩).go w hO
 ·rename_i h
  obtain ⟨j,x,off,v,h1,h2,h3,h4⟩:=cell H HK
  exact (fin_cell j x v (hA _ h) h1 h2 h3 λw hO=>⟨_,rfl,h4 w hO⟩).go w hO
 ·rename_i q ty u h
  obtain ⟨j,x,off,v,h1,h2,h3,h4⟩:=cell (R:=λv w=>K (.tuple #[v,ev n f (.tmp u)]) w) H (λe1 v m' g1 g2 g3 w hw=>HK e1 _ m' g1 g2 g3 w hw)
  exact (fin_cell2 j x v _ (hA _ h) h1 h2 h3 rfl λw hO=>⟨_,rfl,h4 w hO⟩).go w hO
 ·exact (H e (agE.refl _ _)).elim
theorem calls_wpA {k:FuncId}{fn:Func}{c:Code}{args:Array Value}{R:Ending->World->Prop}{w:World}(hf:P.funcs[k]?=some fn)(hb:fn.body=some c)(hle:Nat.ble args.size fn.ntmps=true)
  (h:c.wp P (bodyPost P fn R) (Fr fn.ntmps λt=>args.getD t undef) w):Calls P k args w R:=by
 refine calls_of_wp hf hb ?_
 have hle':args.size<=fn.ntmps:=Nat.le_of_ble_eq_true hle
 have e:({tmps:=args++Array.replicate (fn.ntmps-args.size) undef,defers:=[]}:Act)=Fr fn.ntmps (λt=>args.getD t undef):=by
  unfold Fr
  congr 1
  apply Array.ext_getElem?
  intro i
  rw [Array.getElem?_ofFn,Array.getElem?_append,Array.getElem?_replicate]
  by_cases hi:i<args.size
  ·rw [if_pos hi,dif_pos Om,Array.getElem?_eq_getElem hi]
   simp [Array.getD,hi]
  ·rw [if_neg hi]
   by_cases hin:i<fn.ntmps
   ·rw [if_pos Om,dif_pos hin]
    simp [Array.getD,hi]
   ·rw [if_neg Om,dif_neg hin]
 rw [e];exact h
theorem fun_ok (hG:GOk M W G)(hP:PrOk P pr M W):∀ u:Nat,mV P M W (aFun P G pr false u)
 |0,B,k,args,e,m,kf,H,K,HK,w,hO=>(H e (agE.refl _ _)).elim
 |u+1,B,k,args,e,m,kf,H,K,HK,w,hO=>by
  unfold aFun at H
  have h0:=H e (agE.refl _ _)
  cases hf:P.funcs[k]? with
  |none=>rw [hf] at h0;exact h0.elim
  |some fn=>
   rw [hf] at h0 H
   dsimp only at h0 H
   cases hb:fn.body with
   |none=>rw [hb] at h0;exact h0.elim
   |some c=>
    rw [hb] at h0 H
    dsimp only at h0 H
    obtain ⟨hle,_⟩:=yE h0
    refine calls_wpA hf hb hle ((code_ok hG hP (fun_ok hG hP u) fuelA).1 c _ m e _ (λe' ex f m=>match ex with
     | .ret=>resA' P false B fn.ntmps fn.results.toList f m (kf e')
     | .normal=>(match fn.results.toList with
      | []=>kf e' (.tuple #[]) m
      |_=> .bad)
     |_=> .bad) pq_body (λe' he=>(yE (H e' he)).2) (λe1 p m' h1 h2 h3 w' hO'=> ?_) w hO)
    obtain ⟨ex,f'⟩:=p
    have HK':Kon M W B e1 m' kf K:=λe2 p2 m2 g1 g2 g3 w2 hw2=>HK e2 p2 m2 (h1.trans g1 h2) (Nat.le_trans h2 g2) g3 w2 hw2
    cases ex with
    |ret=>exact res_ok h3 HK' hO'
    |normal=>
     have h3':∀ e',agE m'.i e1 e'->(match fn.results.toList with
      | []=>kf e' (.tuple #[]) m'
      |_=>Res.bad:Res).good:=h3
     cases hr:fn.results.toList with
     |nil=>
      rw [hr] at h3'
      exact (fin_none (by rw [←Array.toArray_toList (xs:=fn.results),hr]) λw hO=>⟨_,rfl,HK'.here rfl h3' hO⟩).go w' hO'
     |cons r rs=>rw [hr] at h3';exact (h3' e1 (agE.refl _ _)).elim
    |_=>exact (h3 e1 (agE.refl _ _)).elim
def finT (v:Value)(_:Mm):Res:=match v with
 | .bool true=> .fin
 |_=> .bad
noncomputable def hintA (P:Program)(G:List Blk)(pr:Prm)(k:FuncId)(args:Array Value):Hs:=(aFun P G pr true 60 [] k args (λi=>⟨1000000+i,0,[]⟩) ⟨[],[],0,.no⟩ finT).hs
noncomputable def runA (P:Program)(G:List Blk)(pr:Prm)(k:FuncId)(args:Array Value)(e:Env):Res:=aFun P G pr false 60 [] k args e ⟨[],[],0,hintA P G pr k args⟩ finT
end
theorem run_true {P:Program}{G:List Blk}{pr:Prm}{W:World}{k:FuncId}{args:Array Value}(hG:GOk [] W G)(hP:PrOk P pr [] W)(h:∀ e,(runA P G pr k args e).l=(runA P G pr k args e).r):Calls P k args W λen w'=>en= .returned (.bool true)/\YB W w':=by
 refine (fun_ok (M:=[]) hG hP 60 [] k args (λ_=>⟨0,0,[]⟩) ⟨[],[],0,hintA P G pr k args⟩ (λ_=>finT) (λe' _=>Res.good_of _ (h e')) (λv w=>v= .bool true/\YB W w) (λe1 v m' h1 h2 h3 w hO=> ?_) W (Own.start [] W)).mono λen w' ⟨v,e1,e2,e3⟩=>⟨by rw [e1,e2],e3⟩
 have h3:(finT v m').good:=h3 e1 (agE.refl _ _)
 unfold finT at h3
 split at h3
 ·exact ⟨rfl,hO.below⟩
 ·exact h3.elim
end
section
def flatC:List Sp->List Cu
 | []=>[]
 |s::l=>s.lo::s.hi::flatC l
def altRel (a:List Co):List Sp:=a.foldl (λl c=>andL l c.region) wholeL
def altZone (a:List Co):List Sp:=a.foldl (λl c=>orL l c.zone) []
def altSet (a:List Co):St:=⟨makeRel (altRel a),andL (altRel a) (altZone a)⟩
def orAll (r:List (List Co)):St:=r.foldl (λs a=>orT s (altSet a)) noneT
def rgSet (r:List (List Co)):St:=if rgMay r then orAll r else noneT
end
section
theorem altsL_index:∀ (s acc:YL),wV acc s=if Lib.index s [124,124]= -1 then [acc++s] else (acc++s.take (Lib.index s [124,124]).toNat)::wV [] (s.drop ((Lib.index s [124,124]).toNat+2))
 | [],acc=>by simp [wV,Lib.index]
 | [c],acc=>by simp [wV,Lib.index,List.isPrefixOf]
 |c::d::r,acc=>by
  by_cases h:c=124/\d=124
  ·obtain ⟨rfl,rfl⟩:=h
   have e:Lib.index (124::124::r) [124,124]=0:=by simp [Lib.index,List.isPrefixOf]
   rw [e,wV,if_pos ⟨rfl,rfl⟩,if_neg (by decide)];simp
  ·have hp:List.isPrefixOf ([124,124]:YL) (c::d::r)=false:=by
    rw [List.isPrefixOf,List.isPrefixOf,List.isPrefixOf]
    by_cases hc:c=124
    ·have hd:¬ d=124:=λq=>h ⟨hc,q⟩
     have:((124:UInt8)==d)=false:=beq_eq_false_iff_ne.2 (Ne.symm hd)
     simp [this]
    ·have:((124:UInt8)==c)=false:=beq_eq_false_iff_ne.2 (Ne.symm hc)
     simp [this]
   have ge:=Lib.index_ge (d::r) [124,124]
   rw [wV,if_neg h,altsL_index (d::r) (acc++[c])]
   have e:Lib.index (c::d::r) [124,124]=if Lib.index (d::r) [124,124]= -1 then-1 else Lib.index (d::r) [124,124]+1:=by
    conv=>lhs;rw [Lib.index]
    rw [hp,if_neg (by decide)]
    simp
   rw [e]
   generalize Lib.index (d::r) [124,124]=n at ge
   by_cases hn:n= -1
   ·subst hn;simp
   ·rw [if_neg hn,if_neg hn,if_neg Om]
    have e2:(n+1).toNat=n.toNat+1:=by omega
    rw [e2,List.take_succ_cons,show n.toNat+1+2=(n.toNat+2)+1 from by omega,List.drop_succ_cons]
    simp
theorem splitK_from (sep:YL):∀ (f:Nat) (s:YL),s.length<f->Lib.splitK sep 0 (Lib.countFrom sep f s) s=if Lib.index s sep= -1 then [s] else s.take (Lib.index s sep).toNat::Lib.splitK sep 0 (Lib.countFrom sep (f-1) (s.drop ((Lib.index s sep).toNat+sep.length))) (s.drop ((Lib.index s sep).toNat+sep.length))
 |f+1,s,h=>by
  rw [Lib.countFrom]
  by_cases q:Lib.index s sep= -1
  ·rw [if_pos (by simp [q]),if_pos q,Lib.splitK]
  ·rw [if_neg (by simp [q]),if_neg q,Nat.add_comm 1,Lib.splitK,if_neg (by simp [q]),Nat.add_zero];rfl
theorem alts_from:∀ (f:Nat) (s:YL),s.length<f->Lib.splitK [124,124] 0 (Lib.countFrom [124,124] f s) s=wV [] s
 |f+1,s,h=>by
  rw [splitK_from _ _ _ h,altsL_index s []]
  by_cases q:Lib.index s [124,124]= -1
  ·rw [if_pos q,if_pos q];rfl
  ·have hr:=Lib.index_room s [124,124] (by have:=Lib.index_ge s [124,124];omega)
   rw [if_neg q,if_neg q]
   show _::Lib.splitK [124,124] 0 (Lib.countFrom [124,124] f _) _=_
   rw [alts_from f _ (by rw [List.length_drop];simp only [List.length_cons,List.length_nil];simp only [List.length_cons,List.length_nil] at hr;have:=Lib.index_ge s [124,124];omega)]
   rfl
theorem split_alts (s:YL):Lib.splitK [124,124] 0 (Lib.count s [124,124]) s=wV [] s:=alts_from _ s (Nat.lt_succ_self _)
theorem cut_index (b:UInt8)(s:YL):zB b [] s=if Lib.index s [b]= -1 then [s] else s.take (Lib.index s [b]).toNat::zB b [] (s.drop ((Lib.index s [b]).toNat+1)):=by
 have hc:=cutAt_cut b s
 have hge:=Lib.index_ge s [b]
 rw [xK,←hc]
 unfold Lib.cut
 by_cases h:Lib.index s [b]= -1
 ·have h2:¬ 0<=Lib.index s [b]:=by omega
  simp [h]
 ·have h2:0<=Lib.index s [b]:=by omega
  simp [h,h2]
theorem cuts_from (b:UInt8):∀ (f:Nat) (s:YL),s.length<f->Lib.splitK [b] 0 (Lib.countFrom [b] f s) s=zB b [] s
 |f+1,s,h=>by
  rw [splitK_from _ _ _ h,cut_index b s]
  by_cases q:Lib.index s [b]= -1
  ·rw [if_pos q,if_pos q]
  ·have hr:=Lib.index_room s [b] (by have:=Lib.index_ge s [b];omega)
   rw [if_neg q,if_neg q]
   show _::Lib.splitK [b] 0 (Lib.countFrom [b] f _) _=_
   rw [cuts_from b f _ (by rw [List.length_drop];simp only [List.length_cons,List.length_nil];simp only [List.length_cons,List.length_nil] at hr;have:=Lib.index_ge s [b];omega)]
   rfl
theorem m6 (b:UInt8)(s:YL):Lib.splitK [b] 0 (Lib.count s [b]) s=zB b [] s:=cuts_from b _ s (Nat.lt_succ_self _)
theorem nH (sep:YL)(k:Nat)(s:YL):Lib.splitB (mkS sep) 0 k (mkS s)=(Lib.splitK sep 0 k s).map mkS:=by
 have h:=Lib.splitB_data (mkS sep) 0 k (mkS s)
 rw [mk_data,mk_data] at h
 rw [←h,List.map_map]
 refine ((List.map_congr_left λx _=> ?_).trans (List.map_id _)).symm
 exact Lib.mk_data x
theorem splitB_alts (s:YL):Lib.splitB (mkS [124,124]) 0 (Lib.countB (mkS s) (mkS [124,124])) (mkS s)=(wV [] s).map mkS:=by
 rw [nH,show Lib.countB (mkS s) (mkS [124,124])=Lib.count s [124,124] from by unfold Lib.countB;rw [mk_data,mk_data],split_alts]
theorem splitB_cuts (b:UInt8)(s:YL):Lib.splitB (mkS [b]) 0 (Lib.countB (mkS s) (mkS [b])) (mkS s)=(zB b [] s).map mkS:=by
 rw [nH,show Lib.countB (mkS s) (mkS [b])=Lib.count s [b] from by unfold Lib.countB;rw [mk_data,mk_data],m6]
theorem bareF_drop:∀ (s:YL),Lib.trimLeftB s 32=kM s
 | []=>rfl
 |c::l=>by
  unfold Lib.trimLeftB
  rw [kM,List.dropWhile_cons]
  by_cases h:c=32
  ·subst h
   rw [if_pos (by decide),if_pos rfl];exact bareF_drop l
  ·rw [if_neg (by simp [h]),if_neg h]
def bareR (s:YL):YL:=(kM s.reverse).reverse
theorem bareF_snoc {c:UInt8}(h:c≠32):∀ (x:YL),kM (x++[c])=kM x++[c]
 | []=>by
  show kM [c]=[c]
  rw [kM];exact if_neg h
 |d::x=>by
  rw [List.cons_append,kM,kM]
  by_cases q:d=32
  ·rw [if_pos q,if_pos q,bareF_snoc h x]
  ·rw [if_neg q,if_neg q];rfl
theorem bareF_snoc32:∀ (x:YL),kM (x++[32])=if kM x=[] then [] else kM x++[32]
 | []=>by simp [kM]
 |d::x=>by
  rw [List.cons_append,kM,kM]
  by_cases q:d=32
  ·rw [if_pos q,if_pos q,bareF_snoc32 x]
  ·rw [if_neg q,if_neg q,if_neg (by simp)];rfl
theorem bare_swap:∀ (s:YL),kM (bareR s)=bareR (kM s)
 | []=>rfl
 |c::l=>by
  have ih:=bare_swap l
  by_cases h:c=32
  ·subst h
   rw [show kM (32::l)=kM l from by rw [kM,if_pos rfl],←ih]
   unfold bareR
   rw [List.reverse_cons,bareF_snoc32]
   by_cases q:kM l.reverse=[]
   ·rw [if_pos q,q]
   ·rw [if_neg q,List.reverse_append]
    show kM (32::(kM l.reverse).reverse)=_
    rw [kM,if_pos rfl]
  ·rw [show kM (c::l)=c::l from by rw [kM,if_neg h]]
   unfold bareR
   rw [List.reverse_cons,bareF_snoc h,List.reverse_append]
   show kM (c::(kM l.reverse).reverse)=c::(kM l.reverse).reverse
   rw [kM,if_neg h]
theorem trim_bare (s:YL):Lib.trimB s 32=bareL s:=by
 unfold Lib.trimB Lib.trimRightB
 have e:∀ l:YL,l.dropWhile (·==32)=kM l:=bareF_drop
 rw [e,bareF_drop]
 exact bare_swap s
def textR (r:List (List Co)):YL:=if fewR r then rgText r else []
end
section
theorem grow_inner (B b n:Nat)(w:World)(hB:B<=b)(hbk:w.heap[b]?=some (.cells #[.pointer (some ⟨b,0,none⟩),.slice none 0 0] 98 (0,0)))(hBw:B<=w.heap.size)(hn:n<=281474976710656):
  YC 187 #[.pointer (some ⟨b,0,none⟩),YI n] w λe w'=>e= .returned (.tuple #[])/\(Lib.BuilderAt 98 5 B b (.pointer (some ⟨b,0,none⟩)) [] w'/\Below B w w'):=by
 obtain ⟨cs,hrun,hle,hmax⟩:=Lib.run_makeNoZero (P:=YP) w.drew #[3] 96 5 Tryz.underlying96 n hn
 have hlt:b<w.heap.size:=by
  rcases Nat.lt_or_ge b w.heap.size with h|h
  ·exact h
  ·simp [Array.getElem?_eq_none h] at hbk
 have hw:IntKind.i64.wrap (IntKind.i64.wrap 0+(n:Int))=n:=by
  rw [IntKind.wrap_i64,IntKind.wrap_i64];omega
 have hcall:(callFunc 220 #[YI (IntKind.i64.wrap (IntKind.i64.wrap 0+(n:Int)))]).run YP w.drew= .ok (.value (.slice (some ⟨w.drew.heap.size,0,none⟩) n cs.size)) (w.drew.drew.drew.alloc (.cells cs 5)):=by
  rw [hw,run_callFunc_extern Tryz.func220 Kr Kr Kr (e:=Extern.BytealgMakeNoZero.makeNoZero #[3] #[96]) Kr,hrun]
  rfl
 have c1:w.drew.cell? ⟨b,1,none⟩=some (.slice none 0 0):=by
  have:w.drew.heap[b]?=_:=hbk
  rw [Lib.cell_of_heap this];rfl
 have hb2:(w.alloc (.cells cs 5)).heap[b]?=_:=(Lib.alloc_old w _ b hlt).trans hbk
 have c2:(w.alloc (.cells cs 5)).cell? ⟨b,1,none⟩=some (.slice none 0 0):=by rw [Lib.cell_of_heap hb2];rfl
 have f2:(w.alloc (.cells cs 5)).frozen? ⟨b,1,none⟩=false:=Lib.frozen_of_heap hb2 1
 have hcopy:∀ W:World,(Builtin.copy_ #[96,96] 3 #[.slice (some ⟨w.heap.size,0,none⟩) 0 cs.size,.slice none 0 0]).run YP W= .ok (goInt 0) W:=
  λW=>run_copy_none W 96 96 3 5 _ _ 0 cs.size 0 0 Tryz.underlying96 Kr rfl
 clear hw hlt hb2
 have mixed:Tryz.prog.follows .mixedOrders=true:=by kernel_rfl
 go_enter Tryz.func187,Tryz.ntmps187
 go_wp2
 have hfin:=Lib.grown_fresh (T:=98) (e:=5) (cs:=cs) hB hbk hBw (hmax (by unfold maxLen;omega)) (by decide)
 have hbel:Below B w ((w.alloc (.cells cs 5)).setCell ⟨b,1,none⟩ (.slice (some ⟨w.heap.size,0,none⟩) 0 cs.size)).drew.drew.drew:=((((Below.refl B w).alloc hBw _).setCell (p:=⟨b,1,none⟩) hB _).drew).drew.drew
 go_region_o
 all_goals (go_wp2;go_end0;exact ⟨rfl,hfin.1,hbel⟩)
theorem grow_fresh (B b n:Nat)(w:World)(hB:B<=b)(hbk:w.heap[b]?=some (.cells #[.pointer none,.slice none 0 0] 98 (0,0)))(hBw:B<=w.heap.size)(hn:n<=281474976710656):
  YC 144 #[.pointer (some ⟨b,0,none⟩),YI n] w λe w'=>e= .returned (.tuple #[])/\(Lib.BuilderAt 98 5 B b (.pointer (some ⟨b,0,none⟩)) [] w'/\Below B w w'):=by
 obtain ⟨w1,hw1⟩:∃ x,x=w.setCell ⟨b,0,none⟩ (.pointer (some ⟨b,0,none⟩)):=⟨_,rfl⟩
 have hbk1:w1.heap[b]?=some (.cells #[.pointer (some ⟨b,0,none⟩),.slice none 0 0] 98 (0,0)):=by
  rw [hw1];simp [World.setCell,Array.getElem?_modify,hbk]
 have hs1:B<=w1.heap.size:=by rw [hw1];simpa [World.setCell] using hBw
 have hb1:Below B w w1:=by rw [hw1];exact (Below.refl B w).setCell (p:=⟨b,0,none⟩) hB _
 have hc:YC 89 #[.pointer (some ⟨b,0,none⟩)] w λe w'=>e= .returned (.tuple #[])/\w'=w1:=by
  rw [hw1]
  exact n6 b w (by rw [Lib.cell_of_heap hbk];rfl) (by simp [World.shape?,hbk]) (Lib.frozen_of_heap hbk 0)
 clear hw1
 have c1:w1.cell? ⟨b,1,none⟩=some (.slice none 0 0):=by rw [Lib.cell_of_heap hbk1];rfl
 have c1':w1.drew.cell? ⟨b,1,none⟩=some (.slice none 0 0):=c1
 have hU:Lib.BuilderAt 98 5 B b (.pointer (some ⟨b,0,none⟩)) [] w1:=⟨hB,.slice none 0 0,hbk1,World.ownsRow_nil _ _ _ _,by simp [Value.ownBlock]⟩
 have mixed:Tryz.prog.follows .mixedOrders=true:=by kernel_rfl
 go_enter Tryz.func144,Tryz.ntmps144
 go_wp2_with (go_at_call 89;refine hc.mono ?_;rintro e w' ⟨rfl,hw⟩;rw [hw])
 go_region_o
 all_goals go_wp2_with (go_at_call 187;refine (grow_inner B b n w1.drew hB hbk1 hs1 hn).mono ?_;rintro e w' ⟨rfl,h1,h2⟩)
 all_goals first
  |(go_end0;exact ⟨rfl,h1,hb1.drew.trans h2⟩)
  |(go_end0;exact ⟨rfl,hU.drew,hb1.drew⟩)
end
section
structure HasLib (w:World):Prop where
 tab:HasTab w
 max:∃ m,w.cell? ⟨1,0,none⟩=some (YI m)
theorem HasLib.on {w w':World}(h:HasLib w)(hb:YB w w'):HasLib w':=
 ⟨h.tab.on hb,let ⟨m,hm⟩:=h.max;⟨m,(hb.cell (World.block_lt_of_cell? _ _ hm)).trans hm⟩⟩
theorem hasLib_of {W:World}(ht:HasTab W)(hS:W.ShapedOpen YP):HasLib W:=⟨ht,Tryz.laysM143.s1_3 W hS⟩
theorem split_own (s sep:YL)(l:List YL)(W:World)(h0:1<=sep.length)(hs:s.length<=1048576)(hl:Lib.splitB (mkS sep) 0 (Lib.countB (mkS s) (mkS sep)) (mkS s)=l.map mkS)(ht:HasLib W):
  YC 154 #[.string (mkS s),.string (mkS sep)] W λe w'=>∃ v' ob',e= .returned v'/\SlT v' l ob'/\Own [] W w' ob':=by
 obtain ⟨m,hm⟩:=ht.max
 have hz:(mkS sep).size=sep.length:=y7 sep
 have hlen:=Lib.splitB_all (mkS sep) Om 0 _ (mkS s) rfl
 have hle:=Lib.countB_le (mkS sep) Om (mkS s).size (mkS s) (Nat.le_refl _)
 rw [y7] at hle
 rw [hl,List.length_map] at hlen
 refine (Tryz.strings_Split (mkS s) (mkS sep) m W (by rw [y7];omega) hm Om).mono λe w' ⟨he,hw⟩=> ?_
 subst hw
 rw [hl,List.map_map] at*
 rw [←hlen] at he
 refine ⟨_,_,he,slt_lit l W.heap.size _ (by unfold vV;rfl) (by unfold maxLen;omega),(Own.start [] W).alloc _ _⟩
theorem split_bars (s:YL)(W:World)(hs:s.length<=1048576)(ht:HasLib W):
  YC 154 #[.string (mkS s),.string ⟨#[124,124]⟩] W λe w'=>∃ v' ob',e= .returned v'/\SlT v' (wV [] s) ob'/\Own [] W w' ob':=
 split_own s [124,124] (wV [] s) W (by decide) hs (splitB_alts s) ht
theorem split_comma (s:YL)(W:World)(hs:s.length<=1048576)(ht:HasLib W):
  YC 154 #[.string (mkS s),.string ⟨#[44]⟩] W λe w'=>∃ v' ob',e= .returned v'/\SlT v' (zB 44 [] s) ob'/\Own [] W w' ob':=
 split_own s [44] (zB 44 [] s) W (by decide) hs (splitB_cuts 44 s) ht
theorem trim_any (s:YL)(W:World)(hs:s.length<=1048576):
  YC 177 #[.string (mkS s),.string ⟨#[32]⟩] W (YR (.string (mkS (bareL s))) W):=
 (Tryz.strings_Trim_one (mkS s) 32 (by decide) W (by rw [y7];omega)).mono λe w' ⟨he,hw⟩=>
  ⟨by rw [he,mk_data,trim_bare];rfl,hw.elim (λq=>q▸Below.refl _ _) (λq=>q▸(Below.refl _ _).drew)⟩
def gI (sep:YL):List YL->YL
 | []=>[]
 |x::r=>sep++x++gI sep r
theorem joinB_T (sep:YL):∀ (r:List YL) (x:YL),qY sep (x::r)=x++gI sep r
 | [],x=>by simp [qY,gI]
 |y::r,x=>by rw [pK,joinB_T sep r y,gI];simp only [List.append_assoc]
theorem tY (sep x:YL):∀ (r:List YL),gI sep (r++[x])=gI sep r++(sep++x)
 | []=>by simp [gI]
 |y::r=>by rw [List.cons_append,gI,gI,tY sep x r];simp only [List.append_assoc]
theorem joinT_len {sep:YL}(hs:sep.length<=100):∀ {r:List YL},(∀ x∈r,x.length<=1048576)->(gI sep r).length<=r.length*1048676
 | [],_=>by simp [gI]
 |y::r,h=>by
  have h1:=joinT_len hs (r:=r) λx hx=>h x (List.mem_cons_of_mem _ hx)
  have h2:=h y (List.mem_cons_self ..)
  rw [gI];simp only [List.length_append,List.length_cons];omega
theorem bc_two (x y z:YL):Lib.byteCells (x++(y++z))=Lib.byteCells x++Lib.strCells (mkS y)++Lib.strCells (mkS z):=by
 rw [qV,qV,←Lib.byteCells_append,←Lib.byteCells_append,List.append_assoc]
theorem join_many (sep x0:YL)(r:List YL)(b off cap:Nat)(w:World)(hc:∀ j (h:j<(x0::r).length),w.cell? ⟨b,off+j,none⟩=some (.string (mkS ((x0::r)[j]))))
  (hb:b<w.heap.size) (hr:1<=r.length) (hn:r.length<=1000) (h0:sep≠[]) (hs:sep.length<=100) (hx:∀ x∈x0::r,x.length<=1048576) (hcap:r.length+1<=cap):
  YC 94 #[.slice (some ⟨b,off,none⟩) (r.length+1) cap,.string (mkS sep)] w (YR (.string (mkS (qY sep (x0::r)))) w):=by
 have HT:=Lib.hid (show ∀ k,(x0++gI sep (r.take k)).length<=2000000000 from λk=>by
  have h1:=joinT_len hs (r:=r.take k) λx hm=>hx x (List.mem_cons_of_mem _ (List.mem_of_mem_take hm))
  have h2:=hx x0 (List.mem_cons_self ..)
  have h3:(r.take k).length<=1000:=Nat.le_trans (by rw [List.length_take];exact Nat.min_le_right ..) hn
  rw [List.length_append];omega)
 have HC:=Lib.hid hc
 have HX:=Lib.hid hx
 have HJ:=Lib.hid (joinB_T sep r x0)
 have hx0:(mkS x0).size<=1048576:=by rw [y7];exact hx x0 (List.mem_cons_self ..)
 obtain ⟨S,hS⟩:∃ q,q=mkS sep:=⟨_,rfl⟩
 have hSz:S.size=sep.length:=by rw [hS,y7]
 have hS1:1<=S.size:=by cases sep with
  |nil=>exact absurd rfl h0
  |cons _ _=>rw [hSz];simp
 have hS9:S.size<=100:=by omega
 rw [←hS]
 have HS:=Lib.hid hS
 obtain ⟨N,hN⟩:∃ q,q=r.length+1:=⟨_,rfl⟩
 rw [←hN] at hcap ⊢
 have hcast:((N:Int) -1)=(r.length:Int):=by omega
 have hmul:S.size*r.length<=100000:=Nat.le_trans (Nat.mul_le_mul hS9 hn) (by decide)
 have hdv:¬ (9223372036854775807/((N:Int) -1)<=(S.size:Int)):=by
  rw [hcast]
  intro q
  have h1:(9223372036854775807:Int)<((S.size:Int)+1)*(r.length:Int):=
   Int.lt_mul_of_ediv_lt Om (Int.lt_add_one_of_le q)
  have h2:((S.size:Int)+1)*(r.length:Int)=((S.size*r.length+r.length:Nat):Int):=by rw [Int.add_mul,Int.one_mul];push_cast;rfl
  omega
 have hprod:wrap64 ((S.size:Int)*((N:Int) -1))=((S.size*r.length:Nat):Int):=by
  rw [hcast,show (S.size:Int)*(r.length:Int)=((S.size*r.length:Nat):Int) from by push_cast;rfl]
  exact IntWalk.wrap64_in _ ⟨by omega,by omega⟩
 generalize S.size*r.length=M at hmul hprod
 have hne0:((N:Int)==0)=false:=beq_eq_false_iff_ne.2 Om
 have hne1:((N:Int)==1)=false:=beq_eq_false_iff_ne.2 Om
 have hN2:2<=N:=by omega
 have hN9:N<=1001:=by omega
 have HN:=Lib.hid hN
 have H0:=Lib.hid h0
 clear hc hx hs h0 hS hSz hcast hN hr hn
 go_enter Tryz.func94,Tryz.ntmps94
 go_wp2
 go_loop [5,41] (λn i=>∃ (k t:Nat),k<=N/\i=YI k/\n=YI t/\t<=100000+k*1048576) (λ_ i=>N-(intOf i).toNat)
 case atStart=>exact ⟨0,M,Nat.zero_le _,rfl,rfl,by omega⟩
 case round=>
  obtain ⟨k,t,hk,rfl,rfl,ht⟩:=hrel
  by_cases hkn:k<N
  ·have hkl:k<(x0::r).length:=by have:=HN.out;rw [List.length_cons];omega
   obtain ⟨y,hy⟩:∃ q,q=mkS ((x0::r)[k]):=⟨_,rfl⟩
   have hyz:y.size<=1048576:=by rw [hy,y7];exact HX.out _ (List.getElem_mem hkl)
   have hck:w.cell? ⟨b,off+k,none⟩=some (.string y):=by rw [hy];exact HC.out k hkl
   clear hy hkl
   go_wp2
   exact ⟨⟨k+1,t+y.size,by omega,by go_num,by go_num,by omega⟩,by simp [intOf];omega⟩
  ·obtain rfl:k=N:=by omega
   go_wp2_with (go_at_call 144;refine (grow_fresh w.heap.size w.heap.size t _ (Nat.le_refl _) (heap_alloc_new w _) (by simp) Om).mono ?_)
   rintro e w1 rfl h1 hb1
   have hb1':YB w w1:=((Below.refl w.heap.size w).alloc (Nat.le_refl _) _).trans hb1
   have hsz1:=hb1'.size
   have hc0:w1.cell? ⟨b,off,none⟩=some (.string (mkS x0)):=by
    rw [hb1'.cell (p:=⟨b,off,none⟩) hb]
    exact HC.out 0 (by simp)
   have H1:=Lib.hid (Or.inr h1:Lib.IsBuilder 98 5 w.heap.size w.heap.size [] w1)
   have HB1:=Lib.hid hb1'
   clear h1 hb1 hb1' ht hprod hmul hdv hkn hk
   obtain ⟨X,hX⟩:∃ q,q=mkS x0:=⟨_,rfl⟩
   rw [←hX] at hc0 hx0
   have HX0:=Lib.hid hX
   clear hX
   go_wp2_with (go_at_call 49;refine (xH w.heap.size w.heap.size [] X w1 H1.out ?_ hsz1).mono ?_)
   ·simp;omega
   rintro e w2 ⟨rfl,h2,hb2⟩
   have H2:=Lib.hid (show Lib.IsBuilder 98 5 w.heap.size w.heap.size (Lib.byteCells (x0++gI sep (r.take 0))) w2 from by
    rw [HX0.out,qV,List.nil_append] at h2
    rw [List.take_zero,gI,List.append_nil];exact Or.inr h2)
   have HB2:=Lib.hid (HB1.out.trans hb2)
   clear h2 hb2 hsz1 hc0
   have hrk:k-1=r.length:=by have:=HN.out;omega
   go_wp2
   go_loopw [65] (λi wr=>∃ j:Nat,j<=r.length/\i=YI j/\Hid (Lib.IsBuilder 98 5 w.heap.size w.heap.size (Lib.byteCells (x0++gI sep (r.take j))) wr)/\Hid (YB w wr)) (λi _=>r.length-(intOf i).toNat)
   case atStart=>exact ⟨0,Nat.zero_le _,rfl,H2,HB2⟩
   case round=>
    obtain ⟨j,hj,rfl,HB,HW⟩:=hrel
    have hsz:=HW.out.size
    by_cases hjr:j<r.length
    ·obtain ⟨y,hy⟩:∃ q,q=mkS r[j]:=⟨_,rfl⟩
     have hyz:y.size<=1048576:=by rw [hy,y7];exact HX.out _ (List.mem_cons_of_mem _ (List.getElem_mem hjr))
     have hck:wr.cell? ⟨b,off+1+j,none⟩=some (.string y):=by
      rw [HW.out.cell (p:=⟨b,off+1+j,none⟩) hb,hy,show off+1+j=off+(j+1) from by omega]
      exact HC.out (j+1) (by simp;omega)
     have HY:=Lib.hid hy
     have hlen:(Lib.byteCells (x0++gI sep (r.take j))).length<=2000000000:=by rw [Lib.byteCells_length];exact HT.out j
     have HE:=Lib.hid (show Lib.byteCells (x0++gI sep (r.take j))++Lib.strCells S++Lib.strCells y=Lib.byteCells (x0++gI sep (r.take (j+1))) from by
      rw [HS.out,HY.out,List.take_succ_eq_append_getElem hjr,tY,←List.append_assoc,bc_two])
     clear hy
     go_wp2_with (go_at_call 49;refine (xH w.heap.size w.heap.size _ S wr HB.out ?_ hsz).mono ?_)
     ·omega
     rintro e w3 ⟨rfl,h3,hb3⟩
     have hsz3:=Nat.le_trans hsz hb3.size
     have H3:=Lib.hid h3
     have HB3:=Lib.hid hb3
     clear h3 hb3
     go_wp2_with (go_at_call 49;refine (xH w.heap.size w.heap.size _ y w3 (Or.inr H3.out) ?_ hsz3).mono ?_)
     ·rw [List.length_append,Lib.strCells_length];omega
     rintro e w4 ⟨rfl,h4,hb4⟩
     rw [HE.out] at h4
     have H4:=Lib.hid (Or.inr h4:Lib.IsBuilder 98 5 w.heap.size w.heap.size (Lib.byteCells (x0++gI sep (r.take (j+1)))) w4)
     have HB4:=Lib.hid ((HW.out.trans HB3.out).trans hb4)
     clear h4 hb4
     go_wp2
     go_roundw
     case rel=>exact ⟨j+1,by omega,by go_num,H4,HB4⟩
     case measure=>simp [intOf];omega
    ·obtain rfl:j=r.length:=by omega
     have HB':=HB.out
     rw [List.take_length,←HJ.out] at HB'
     have hne:qY sep (x0::r)≠[]:=by
      rw [HJ.out]
      cases r with
      |nil=>simp at hrk;omega
      |cons y r=>rw [gI];intro q;exact H0.out (List.append_eq_nil_iff.1 (List.append_eq_nil_iff.1 (List.append_eq_nil_iff.1 q).2).1).1
     have HBF:=Lib.hid HB'
     clear HB'
     go_wp2_with (go_at_call 50;refine (tI w.heap.size w.heap.size _ _ HBF.out hne).mono ?_)
     rintro e w5 ⟨rfl,hb5⟩
     go_wp2
     go_ret
     exact ⟨rfl,HW.out.trans hb5⟩
theorem join_one (sep x:YL)(A:Option Addr)(cap:Nat)(w:World)(hv:Reads zW w w.heap.size A [x])(hcap:1<=cap):
  YC 94 #[.slice A 1 cap,.string (mkS sep)] w (YR (.string (mkS x)) w):=by
 obtain ⟨b,off,rfl,hb,hcell⟩:=hv (by simp)
 have hc:w.cell? ⟨b,off,none⟩=some (.string (mkS x)):=hcell 0 _ rfl
 go_enter Tryz.func94,Tryz.ntmps94
 go_wp2
 go_ret
 exact ⟨rfl,Below.refl _ _⟩
theorem join_none (sep:YL)(A:Option Addr)(cap:Nat)(w:World):
  YC 94 #[.slice A 0 cap,.string (mkS sep)] w (YR (.string (mkS [])) w):=by
 go_enter Tryz.func94,Tryz.ntmps94
 go_wp2
 go_ret
 exact ⟨rfl,Below.refl _ _⟩
theorem sjoin_any (sep:YL)(l:List YL)(A:Option Addr)(cap:Nat)(w:World)(hv:Reads zW w w.heap.size A l)(h0:sep≠[])(hs:sep.length<=100)(hn:l.length<=1000)(hx:∀ x∈l,x.length<=1048576)(hcap:l.length<=cap):
  YC 94 #[.slice A l.length cap,.string (mkS sep)] w (YR (.string (mkS (qY sep l))) w):=by
 match l,hv,hn,hx,hcap with
 | [],_,_,_,_=>exact join_none sep A cap w
 | [x],hv,_,_,hcap=>exact join_one sep x A cap w hv hcap
 |x::y::r,hv,hn,hx,hcap=>
  obtain ⟨b,off,rfl,hb,hcell⟩:=hv (by simp)
  refine join_many sep x (y::r) b off cap w (λj hj=> ?_) hb (by simp) (by simp at hn ⊢;omega) h0 hs hx hcap
  refine hcell j _ ?_
  rw [←x6];unfold vV
  rw [List.getElem?_map,List.getElem?_eq_getElem hj];rfl
theorem SlT.caps {A:Option Addr}{n cap:Nat}{l:List YL}{ob:List Blk}(h:SlT (.slice A n cap) l ob):n=l.length/\l.length<=cap:=by
 rcases h.2 with ⟨h1,h2,_⟩|⟨g,c,cur,h1,_,h3,_⟩
 ·injection h1 with q1 q2 q3
  exact ⟨by omega,by omega⟩
 ·injection h1 with q1 q2 q3
  exact ⟨q2,by omega⟩
end
section
def pcsK:Nat->YL->List YL
 |0,s=>[s]
 |k+1,s=>if (zA 46 s).2.2 then (zA 46 s).1::pcsK k (zA 46 s).2.1 else [s]
def sgo (s:YL):Nat->Int×YL
 |0=>(7,s)
 |k+1=>if gK s (jU ((k+1:Nat):Int))=true/\(s.drop (jU ((k+1:Nat):Int)).length).length<(sgo s k).2.length then (((k+1:Nat):Int),s.drop (jU ((k+1:Nat):Int)).length) else sgo s k
def pC (s:YL):List YL:=pcsK 2 (zA 45 (sgo s 8).2).1
def starP (s:YL):Bool:=decide ((pC s).getLast?=some [42])
def guessP (s:YL):Co:=⟨if starP s then 9 else (sgo s 8).1,if starP s then ((pC s).length:Int) -1 else ((pC s).length:Int),⟨xD (tg (pC s) 0),xD (tg (pC s) 1),xD (tg (pC s) 2),(zA 45 (sgo s 8).2).2.1,[]⟩⟩
def behC (c:Co):Cu:=if c.parts=3 then ⟨0,c.v,true⟩ else if c.parts=0 then wJ 1 else highC c.v (c.parts-1).toNat
def leadK (c:Co):Int:=if ¬ c.v.maj=0 then 0 else if ¬ c.v.min=0 then 1 else if ¬ c.v.pat=0 then 2 else c.parts-1
def boundC (c:Co):Cu×Cu:=
 if c.op=3 then (wJ (-1),⟨0,c.v,false⟩) else if c.op=4 then (wJ (-1),behC c) else if c.op=5 then (behC c,wJ 1) else if c.op=6 then (⟨0,c.v,false⟩,wJ 1)
 else if c.op=7 then (⟨0,c.v,false⟩,highC c.v (leadK c).toNat) else if c.op=8 then (⟨0,c.v,false⟩,highC c.v (min (c.parts-1) 1).toNat) else if c.parts=0 then (wJ (-1),wJ 1) else (⟨0,c.v,false⟩,behC c)
end
section
def cpL (s t:YL):YL:=if gK s t=true then s.drop t.length else s
theorem pY:∀ (t s:YL),t.isPrefixOf s=gK s t
 | [],s=>by simp [gK]
 |a::t,[]=>by simp [gK,List.isPrefixOf]
 |a::t,b::s=>by
  have ih:=pY t s
  unfold gK at ih ⊢
  rw [List.isPrefixOf,ih,List.length_cons,List.take_succ_cons]
  by_cases h:a=b
  ·subst h;simp
  ·simp [h,Ne.symm h]
theorem cutpre_any (s t:YL)(w:World):YC 161 #[.string (mkS s),.string (mkS t)] w (YR (.tuple #[.string (mkS (cpL s t)),.bool (gK s t)]) w):=
 (Tryz.strings_CutPrefix (mkS s) (mkS t) w).mono λe w' ⟨he,hw⟩=>by
  subst hw
  refine ⟨?_,Below.refl _ _⟩
  rw [he,mk_data,mk_data]
  unfold Lib.trimPrefix Lib.hasPrefix cpL
  rw [pY];rfl
end
section
theorem below_moved {B:Nat}{a w:World}(h:Below B a w){k:Nat}(hk:B<=k)(s:ByteArray)(pos:Nat):Below B a (w.iterAt k s pos):=
 h.trans ⟨rfl,rfl,rfl,by rw [Lib.iterAt_size];exact Nat.le_refl _,Nat.le_refl _,λi hi=>Lib.iterAt_other w k i s pos Om⟩
theorem piece_any (s:ByteArray)(f k:Nat)(w:World)(hs:s.size<=1048576)(hfk:f<=k)(hk:k<=s.size):
  YC 226 #[.string s,YI f,YI k] w (YR (.string (s.extract f k)) w):=by
 have hz:(s.extract f k).size<=281474976710656:=by
  rw [ByteArray.size_extract];omega
 go_enter Tryz.func226,Tryz.ntmps226
 go_wp2_with (go_at_call 31;refine (fW _ _ hz).mono ?_;rintro e w' ⟨rfl,hb⟩)
 go_ret
 exact ⟨rfl,hb⟩
theorem width_any (t:ByteArray)(r n:Nat)(hne:t.data.toList≠[])(hd:Lib.decodeL t.data.toList=(r,n))(w:World):
  YC 225 #[.string t,.int .i32 r] w λe w'=>e= .returned (YI n)/\w=w':=by
 have HD:=Lib.hid hd
 clear hd
 have HNE:=Lib.hid hne
 clear hne
 by_cases h:r=65533
 ·by_cases hp:Lib.hasPrefix t.data.toList [239,191,189]=true
  ·have HP:=Lib.hid hp
   clear hp
   have hb:((r:Int)==65533)=true:=by simp [h]
   have HR:=Lib.hid h
   clear h
   go_enter Tryz.func225,Tryz.ntmps225
   go_wp2_with (first|(go_at_call 250;refine (Tryz.strings_HasPrefix t ⟨#[239,191,189]⟩ _).mono ?_;rw [HP.out];rintro e w' ⟨rfl,rfl⟩)|(go_at_call 251;refine (Tryz.utf8_RuneLen _ _).mono ?_;rintro e w' ⟨rfl,rfl⟩))
   go_ret
   refine ⟨mA ?_,rfl⟩
   have h3:=wide_err _ HP.out
   rw [HD.out] at h3
   rw [HR.out,show n=3 from h3]
   decide
  ·have HP:=Lib.hid (Bool.eq_false_iff.2 hp)
   clear hp
   have hb:((r:Int)==65533)=true:=by simp [h]
   have HR:=Lib.hid h
   clear h
   go_enter Tryz.func225,Tryz.ntmps225
   go_wp2_with (go_at_call 250;refine (Tryz.strings_HasPrefix t ⟨#[239,191,189]⟩ _).mono ?_;rw [HP.out];rintro e w' ⟨rfl,rfl⟩)
   go_ret
   refine ⟨mA ?_,rfl⟩
   have h1:=wide_bad _ HNE.out (by rw [HD.out];exact HR.out) HP.out
   rw [HD.out] at h1
   rw [show n=1 from h1]
   rfl
 ·have hb:((r:Int)==65533)=false:=vR Om
  go_enter Tryz.func225,Tryz.ntmps225
  go_wp2_with (go_at_call 251;refine (Tryz.utf8_RuneLen _ _).mono ?_;rintro e w' ⟨rfl,rfl⟩)
  go_ret
  refine ⟨mA ?_,rfl⟩
  have h2:=wide_other t.data.toList (by rw [HD.out];exact h)
  rw [HD.out] at h2
  exact h2
theorem split_any (s:ByteArray)(b:UInt8)(w:World)(hs:s.size<=1048576):
  YC 193 #[.string s,.int .u8 b.toNat] w λe w'=>∃ v,e= .returned v/\w'.ownsRow w.heap.size 9 1 v (qJ s b).length (vV (qJ s b))/\YB w w':=by
 obtain ⟨i0,hi,hz0,hz1,hz2⟩:=info_parts infoStr
 go_enter Tryz.func193,Tryz.ntmps193
 go_wp2
 go_loopw [5,6] (λv fv wr=>∃ (pos f:Nat) (P:List YL),fv=YI f/\f<=pos/\pos<=s.size/\P.length<=pos/\wr.heap[w.heap.size]?=some (.stringIter s pos)/\wr.ownsRow w.heap.size 9 1 v P.length (vV P)/\YB w wr/\Hid (P++zB b ((s.data.toList.drop f).take (pos-f)) (s.data.toList.drop pos)=qJ s b)) (λ_ _ wr=>s.size-wr.iterPos w.heap.size)
 case atStart=>exact ⟨0,0,[],rfl,Nat.le_refl _,Nat.zero_le _,Nat.zero_le _,World.iter_heap _ _ _,⟨rfl,Or.inl ⟨rfl,rfl⟩⟩,y8 _ _ _,rfl⟩
 case round=>
  obtain ⟨pos,f,P,rfl,hfp,hple,hP,hit,hown,hb,HR⟩:=hrel
  have hsz:=hb.size
  by_cases hp:pos<s.size
  ·obtain ⟨r,n,hdec⟩:∃ r n,Utf8.decode s pos=(r,n):=⟨_,_,rfl⟩
   have hnx:∀ ty,(Instr.next (.pointer (some ⟨w.heap.size,0,none⟩)) true ty).run YP wr=_:=λty=>Lib.run_next_any_at wr w.heap.size s pos ty hit hp
   rw [hdec] at hnx
   have hn1:1<=n:=by
    by_cases ha:(s[pos]'hp).toNat<128
    ·have:=decode_ascii s pos hp ha
     rw [hdec] at this
     have:n=1:=congrArg Prod.snd this
     omega
    ·have:=(decode_high s pos hp Om).2
     rw [hdec] at this
     exact this
   have hdl:Lib.decodeL (s.extract pos s.size).data.toList=(r,n):=by rw [Lib.extract_to_end,Lib.decodeL_drop,hdec]
   have hne:(s.extract pos s.size).data.toList≠[]:=by
    rw [Lib.extract_to_end];intro h;have:=congrArg List.length h;simp at this;omega
   have hnle:pos+n<=s.size:=by
    have:=Lib.decodeL_le _ hne
    rw [hdl,Lib.extract_to_end] at this
    simp at this;omega
   have HDL:=Lib.hid hdl
   have HNE:=Lib.hid hne
   have HIT:=Lib.hid hit
   have hown1:=ownsRow_iterAt hown hit (pos+n)
   have hit1:=Lib.iterAt_heap wr w.heap.size s pos (pos+n) hit
   have hb1:Below w.heap.size w (wr.iterAt w.heap.size s (pos+n)):=below_moved hb (Nat.le_refl _) s (pos+n)
   have HIT1:=Lib.hid hit1
   clear hdl hne hdec hit1
   obtain ⟨wo,rfl⟩:∃ wo:World,wo=wr:=⟨_,rfl⟩
   go_wp2_with (go_at_call 225;refine (width_any _ r n HNE.out HDL.out _).mono ?_;rintro e w' ⟨rfl,rfl⟩)
   go_loopw [5,6,10] (λv fv iv wi=>∃ (k f:Nat) (P:List YL),iv=YI k/\fv=YI f/\f<=k/\pos<=k/\k<=pos+n/\P.length<=k/\wi.heap[w.heap.size]?=some (.stringIter s (pos+n))/\wi.ownsRow w.heap.size 9 1 v P.length (vV P)/\YB w wi/\Hid (P++zB b ((s.data.toList.drop f).take (k-f)) (s.data.toList.drop k)=qJ s b)) (λ_ _ iv _=>pos+n-(intOf iv).toNat)
   case atStart=>exact ⟨pos,f,P,rfl,rfl,hfp,Nat.le_refl _,by omega,hP,HIT1.out,hown1,hb1,HR⟩
   case round=>
    clear HR hown hb hit hsz hnx hown1 hb1
    obtain ⟨k,f2,P2,rfl,rfl,hfk,hpk,hkn,hP2,hit2,hown2,hb2,HR2⟩:=hrel
    have hsz2:=hb2.size
    have HIT2:=Lib.hid hit2
    clear hit2
    by_cases hlt:k<pos+n
    ·have hks:k<s.size:=by omega
     have HD:=Lib.hid (gD s k hks)
     by_cases hc:s[k]=b
     ·have HC:=Lib.hid hc
      have hcb:((s[k].toNat:Int)==(b.toNat:Int))=true:=by rw [hc];simp
      clear hc
      go_wp2_with (go_at_call 226;refine (piece_any s f2 k _ hs hfk Om).mono ?_)
      rintro e w3 ⟨rfl,hb3⟩
      have hown3:=dU hown2 hb3
      have hsz3:=hb3.size
      have hb4:YB w w3:=hb2.trans (hb3.mono hsz2)
      have HIT3:=Lib.hid (iter_below HIT2.out hb3)
      go_wp2_with (at_builtin;refine kI _ rfl _ _ 66 rfl w.heap.size 9 i0 (.string ByteArray.empty) 1 16 Tryz.underlying66 hi hz0 hz1 hz2 rfl (by decide) _ _ _ rfl (hown3.alloc _) ⟨w3.heap.size,0,none⟩ 1 1 [.string (s.extract f2 k)] rfl rfl ?c1 ?c2 ?c3 ?c4 ?c5 ?_)
      case c1=>
       intro j u hj
       match j,hj with
       |0,hj=>simp at hj;subst hj;simp [Addr.add]
      case c2=>intro u hu;simp at hu;subst hu;rfl
      case c3=>unfold maxLen;omega
      case c4=>omega
      case c5=>simp;omega
      intro v' w5 hown' hgrow _
      go_wp2
      go_roundw
      case rel=>
       refine ⟨k+1,k+1,P2++[(s.data.toList.drop f2).take (k-f2)],by go_num,by go_num,Nat.le_refl _,by omega,by omega,by simp;omega, ?_, ?_,(hb4.alloc (by omega) _).grown hgrow (by simp;omega) (λk hk=>(hown3.lt k hk).1), ?_⟩
       ·have ha:(w3.alloc (.cells #[.string (s.extract f2 k)] 9)).heap[w.heap.size]?=some (.stringIter s (pos+n)):=by
         rw [Below.heap_alloc _ _ _ (Array.getElem?_eq_some_iff.1 HIT3.out).1];exact HIT3.out
        rw [hgrow.1.block _ (Array.getElem?_eq_some_iff.1 ha).1 (ownsRow_ne (hown3.alloc _) ha)]
        exact ha
       ·rw [fG,←wI,List.length_append];exact hown'
       ·show _=_
        rw [←HR2.out,HD.out,split_hit _ _ _ _ HC.out,List.append_assoc,Nat.sub_self,List.take_zero];rfl
      case measure=>simp [intOf];omega
     ·have hcb:((s[k].toNat:Int)==(b.toNat:Int))=false:=vR (λe=>hc (UInt8.toNat_inj.1 Om))
      go_wp2
      go_roundw
      case rel=>exact ⟨k+1,f2,P2,by go_num,rfl,by omega,by omega,by omega,by omega,HIT2.out,hown2,hb2,by show _=_;rw [←HR2.out,HD.out,split_miss _ _ _ _ hc,take_more s f2 k hfk hks]⟩
      case measure=>simp [intOf];omega
    ·obtain rfl:k=pos+n:=by omega
     go_wp2
     go_roundw
     case rel=>exact ⟨pos+n,f2,P2,rfl,hfk,hnle,hP2,HIT2.out,hown2,hb2,HR2⟩
     case measure=>
      simp only [World.iterPos,HIT2.out,HIT.out]
      omega
  ·have hnx:∀ ty,(Instr.next (.pointer (some ⟨w.heap.size,0,none⟩)) true ty).run YP wr=_:=λty=>Lib.run_next_end_at wr w.heap.size s pos ty hit hp
   have HD:=Lib.hid (vO s pos hp)
   have hk2:pos=s.size:=by omega
   have HE:Hid (P++[(s.data.toList.drop f).take (s.size-f)]=qJ s b):=by
    show _=_
    rw [←HR.out,HD.out,hk2];rfl
   clear hk2
   have hfs:f<=s.size:=by omega
   go_wp2_with (go_at_call 226;refine (piece_any s f s.size _ hs hfs (Nat.le_refl _)).mono ?_)
   rintro e w3 ⟨rfl,hb3⟩
   have hown3:=dU hown hb3
   have hsz3:=hb3.size
   have hb4:YB w w3:=hb.trans (hb3.mono hsz)
   go_wp2_with (at_builtin;refine kI _ rfl _ _ 66 rfl w.heap.size 9 i0 (.string ByteArray.empty) 1 16 Tryz.underlying66 hi hz0 hz1 hz2 rfl (by decide) _ _ _ rfl (hown3.alloc _) ⟨w3.heap.size,0,none⟩ 1 1 [.string (s.extract f s.size)] rfl rfl ?c1 ?c2 ?c3 ?c4 ?c5 ?_)
   case c1=>
    intro j u hj
    match j,hj with
    |0,hj=>simp at hj;subst hj;simp [Addr.add]
   case c2=>intro u hu;simp at hu;subst hu;rfl
   case c3=>unfold maxLen;omega
   case c4=>omega
   case c5=>simp;omega
   intro v' w2 hown' hgrow _
   go_wp2
   go_ret
   refine ⟨v',rfl, ?_,(hb4.alloc Om _).grown hgrow (by simp;omega) (λk hk=>(hown3.lt k hk).1)⟩
   rw [←HE.out,fG,←wI,List.length_append];exact hown'
end
section
end
end Go.Proofs.YtobimfnmnkegdaaGreatDoor
