import Derived.Lib.Bytealg
import Derived.Maps.Own
import Derived.Maps.OwnSet
import Derived.Below
import Derived.ChangeSame
import Derived.ProofKit
import Derived.OpenShut
import Derived.LaidSub
import Derived.Carry
import Derived.SliceStrings
import Derived.Lib.LaidTab
import Derived.Deep.DeepHandedRow
import Derived.ChangeArms
import Derived.ChangeSlices
import Derived.Test.YtobimfnmnkegdaaGreatDoorMA15
set_option maxRecDepth 1000000
set_option maxHeartbeats 8000000
set_option linter.unusedVariables false
set_option linter.unusedSimpArgs false
set_option linter.unnecessarySimpa false
namespace Go.Proofs.YtobimfnmnkegdaaGreatDoor
open Go.RowKit

section
theorem Own.turn {M:List Nat}{W w:World}{L:List Blk}(h:Own M W w L){l:Nat}{o:Obj}(hl:W.heap.size<=l)(ho:w.heap[l]?=some o)(hc:o.isCells=false)(o':Obj):Own M W (w.putObj l o') L:=by
 refine ⟨h.os,h.tape,h.output,by rw [World.putObj_size];exact h.size,h.drawn,λk hk hm=>(World.putObj_heap_other Om).trans (h.kept k hk hm),λx hx=> ?_,h.base,h.apart⟩
 have hx':=h.held x hx
 refine (World.putObj_heap_other λe=> ?_).trans hx'
 rw [e,ho] at hx'
 cases hx';cases hc
theorem Own.lay {M:List Nat}{W w:World}{L:List Blk}(h:Own M W w L)(o:Obj):Own M W (w.alloc o) L:=h.on ((Below.refl _ w).alloc (Nat.le_refl _) o)
def mkQ (P:Program)(fn:Func)(R:Ending->World->Prop):Exit->Act->World->Prop
 | .normal,a,w| .ret,a,w=>LeavesInM Fence.wide 0 P fn a.tmps R a.defers .returning w
 |_,_,_=>False
theorem pq_mk {P:Program}{fn:Func}{R:Ending->World->Prop}:PQ (mkQ P fn R):=λc a d v w h=>h
theorem calls_mk {M:List Nat}{P:Program}{n:Nat}{W:World}{L:List Blk}{k:FuncId}{fn:Func}{c:Code}{args:Array Value}{R:Ending->World->Prop}(hO:Own M W W L)(hf:P.funcs[k]?=some fn)(hb:fn.body=some c)(hn:fn.ntmps=n)(hle:Nat.ble args.size n=true)
  (h:Ok M P n W (mkQ P fn R) c L (λt=>args.getD t undef)):Calls P k args W R:=by
 have hle':args.size<=n:=Nat.le_of_ble_eq_true hle
 have e:({tmps:=args++Array.replicate (fn.ntmps-args.size) undef,defers:=[]}:Act)=Fr n (λt=>args.getD t undef):=by
  unfold Fr
  congr 1
  rw [hn]
  apply Array.ext_getElem?
  intro i
  rw [Array.getElem?_ofFn,Array.getElem?_append,Array.getElem?_replicate]
  by_cases hi:i<args.size
  ·rw [if_pos hi,dif_pos Om];simp [Array.getD,hi]
  ·rw [if_neg hi]
   by_cases h2:i<n
   ·rw [dif_pos h2,if_pos Om];simp [Array.getD,hi]
   ·rw [dif_neg h2,if_neg Om]
 refine (callsIn_wide (n:=0)).1 (callsIn_of_wp_marks hf hb trivial (wpIn_wide.2 ?_) rfl)
 rw [e]
 refine wp_mono (h.go W hO) λex a w hq=> ?_
 cases ex with
 |normal=>exact hq
 |ret=>exact hq
 |_=>exact hq.elim
theorem x_enterM {M:List Nat}{P:Program}{W:World}{L:List Blk}{k:FuncId}{fn:Func}{args:Array Value}{R:Ending->World->Prop}(hO:Own M W W L)(hf:P.funcs[k]?=some fn)(hg:zE M P fn.ntmps W (mkQ P fn R) ⟨.code (fn.body.getD .skip),[],L,λt=>args.getD t undef⟩)
  (hb:fn.body.isSome=true:=by kernel_rfl) (hle:Nat.ble args.size fn.ntmps=true:=by kernel_rfl):Calls P k args W R:=by
 cases hb':fn.body with
 |none=>rw [hb'] at hb;cases hb
 |some b=>rw [hb'] at hg;exact calls_mk hO hf hb' rfl hle (hg.go pq_mk)
def rndQ (M1:List Nat)(B:Nat)(r:YL)(rel:YL->List Blk->Prop)(relx:List Blk->Prop)(Wr:World):Exit->Act->World->Prop
 | .normal,_,w=>∃ L',rel r L'/\Own M1 Wr w (yN B r::L')
 | .ret,_,w=>∃ L',relx L'/\Own M1 Wr w L'
 |_,_,_=>False
theorem pq_rnd {M1:List Nat}{B:Nat}{r:YL}{rel:YL->List Blk->Prop}{relx:List Blk->Prop}{Wr:World}:PQ (rndQ M1 B r rel relx Wr):=λc a d v w h=>h
theorem out_rnd {M1:List Nat}{B:Nat}{r:YL}{rel:YL->List Blk->Prop}{relx:List Blk->Prop}{Wr:World}{id:Nat}{K:Act->World->Prop}:¬ LetsOut (Exit.then K (Exit.inBlock id (rndQ M1 B r rel relx Wr))):=λ⟨_,_,h⟩=>h
theorem out_lend {M:List Nat}{W w w':World}{L L':List Blk}(h:Own M W w L)(h':Own (L.map Blk.b) w w' L'):Own M W w' L':=by
 have:=Own.back (R:=[]) (by rw [List.append_nil];exact h) h'
 rwa [List.append_nil] at this
theorem vZ {w w':World}{L L':List Blk}{l:Nat}{o:Obj}(hh:∀ x∈L,w.heap[x.b]?=some (.cells x.cs x.ty))(h:Own (L.map Blk.b) w w' L')(ho:w.heap[l]?=some o)(hc:o.isCells=false):w'.heap[l]?=some o:=by
 refine (h.kept l (Array.getElem?_eq_some_iff.1 ho).1 λhm=> ?_).trans ho
 obtain ⟨x,hx,rfl⟩:=List.mem_map.1 hm
 rw [hh x hx] at ho
 cases ho;cases hc
theorem wp_lines {M:List Nat}{n:Nat}{Q:Exit->Act->World->Prop}{W0 w:World}{L0:List Blk}{f:Nat->Value}{g:Operand}{t B:Nat}{assign body:Code}{s:YL}
  (hg:ev n f g= .func (.func 96) #[] #[.pointer (some ⟨B,0,none⟩)])
  (rel:YL->List Blk->Prop) (relx:List Blk->Prop) (f1:YL->Nat->Value)
  (hA:∀ (p:YL) (l:Nat) (w:World) (K:Act->World->Prop),K (Fr n (f1 p)) w->assign.wpIn (Fence.wide.inRound l) 1 YP (Exit.then K (λ_ _ _=>False)) {tmps:=(Fr n f).tmps.setIfInBounds t (.string (mkS p)),defers:=[]} w)
  (hB:∀ (r:YL) (L:List Blk) (l:Nat) (Wr:World),r≠[]->rel r L->Own M W0 Wr (yN B (lnR r)::L)->body.wpIn (Fence.wide.inRound l) 1 YP (rndQ ((yN B (lnR r)::L).map Blk.b) B (lnR r) rel relx Wr) (Fr n (f1 (lnH r))) Wr)
  (h0:rel s L0) (hO:Own M W0 w (yN B s::L0)) (hs:s.length<=1048576)
  (hdone:∀ D L w',W0.heap.size<=D->rel [] L->Own M W0 w' (yN B []::L)->w'.heap[D]?=some (.deferred (some []))->Q .normal {Fr n f with defers:=[{target:= .collected D,args:= #[]}]} w')
  (hret:∀ D L w',W0.heap.size<=D->relx L->Own M W0 w' L->w'.heap[D]?=some (.deferred (some []))->Q .ret {Fr n f with defers:=[{target:= .collected D,args:= #[]}]} w'):
  (Code.rangeFunc g #[t] assign body).wp YP Q (Fr n f) w:=by
 refine (wpIn_wide (n:=1)).1 (wpIn_rangeFunc ?_)
 intro fn hfn
 obtain ⟨rc,hrc⟩:∃ rc:LoopState->Option Code->Loop,rc=λst pe=>{state:=st,pending:=pe,fn,tmps:=(Fr n f).tmps,params:= #[t],assign,body,defers:=w.heap.size}:=⟨_,rfl⟩
 obtain ⟨W1,hW1⟩:∃ W1,(w.alloc (.deferred (some []))).alloc (.loop (rc .ready none))=W1:=⟨_,rfl⟩
 obtain ⟨l,hl⟩:∃ l,w.heap.size+1=l:=⟨_,rfl⟩
 have hWl:W0.heap.size<=l:=by have:=hO.size;omega
 have hL1:W1.heap[l]?=some (.loop (rc .ready none)):=by
  rw [←hW1,←hl];have:=World.alloc_heap_new (w.alloc (.deferred (some []))) (.loop (rc .ready none));rwa [World.size_alloc] at this
 have hK1:W1.heap[w.heap.size]?=some (.deferred (some [])):=by
  rw [←hW1];exact (Below.heap_alloc _ _ _ (by simp)).trans (World.alloc_heap_new w _)
 have hO1:Own M W0 W1 (yN B s::L0):=by rw [←hW1];exact (hO.lay _).lay _
 have hD:=hO.size
 refine ⟨l,[{target:= .collected w.heap.size,args:= #[]}],W1,{target:= .fn (.func 96) #[Zp B 0],args:= #[.func (.yield l) #[] #[]]},W1,96, #[.func (.yield l) #[] #[],Zp B 0],W1, ?_, ?_,λ_ _=>trivial, ?_,λq=>(by cases q), ?_⟩
 ·rw [←hW1,←hl,hrc];exact run_enterLoop_outer _ _ _ _ _
 ·simp only [resolve,x3,hg]
  simp [go_sem]
  rfl
 ·simp [invoke,go_sem,enters_of Tryz.func96 Kr rfl]
 have hlt:∀ {w:World} {k:Nat} {o:Obj},w.heap[k]?=some o->k<w.heap.size:=λh=>(Array.getElem?_eq_some_iff.1 h).1
 refine (callsIn_wide.2 (lines_any l B (λr w'=>(∃ L,rel r L/\Own M W0 w' (yN B r::L))/\w'.heap[l]?=some (.loop (rc .ready none))/\w'.heap[w.heap.size]?=some (.deferred (some [])))
  (λp r' w'=>(∃ r L,r≠[]/\p=lnH r/\r'=lnR r/\rel r L/\Own M W0 w' (yN B (lnR r)::L))/\w'.heap[l]?=some (.loop (rc .ready none))/\w'.heap[w.heap.size]?=some (.deferred (some [])))
  (λw'=>(∃ L,relx L/\Own M W0 w' L)/\w'.heap[l]?=some (.loop (rc .done (some .ret)))/\w'.heap[w.heap.size]?=some (.deferred (some [])))
  (λr w1 ⟨⟨L,_,h⟩,_⟩=>(h.sublist (L':=[yN B r]) (List.cons_sublist_cons.2 (List.nil_sublist _))).lend)
  (λr w1 w2 ⟨⟨L,q,h⟩,h2,h3⟩ h'=>⟨⟨L,q,Own.back (ob:=[yN B r]) (ob':=[yN B r]) (R:=L) h h'⟩,vZ (L:=[yN B r]) (λx hx=>h.held x (by rw [List.mem_singleton.1 hx];exact List.mem_cons_self ..)) h' h2 rfl,vZ (L:=[yN B r]) (λx hx=>h.held x (by rw [List.mem_singleton.1 hx];exact List.mem_cons_self ..)) h' h3 rfl⟩)
  (λr w1 w2 ⟨⟨L,q,h⟩,h2,h3⟩ hne h'=>⟨⟨r,L,hne,rfl,rfl,q,Own.back (ob:=[yN B r]) (ob':=[yN B (lnR r)]) (R:=L) h h'⟩,vZ (L:=[yN B r]) (λx hx=>h.held x (by rw [List.mem_singleton.1 hx];exact List.mem_cons_self ..)) h' h2 rfl,vZ (L:=[yN B r]) (λx hx=>h.held x (by rw [List.mem_singleton.1 hx];exact List.mem_cons_self ..)) h' h3 rfl⟩)
  (λw1 w2 ⟨⟨L,q,h⟩,h2,h3⟩ hb=>⟨⟨L,q,h.on hb⟩,(hb.block _ (hlt h2)).trans h2,(hb.block _ (hlt h3)).trans h3⟩)
  ?_ s W1 ⟨⟨L0,h0,hO1⟩,hL1,hK1⟩ hs)).mono ?_
 ·rintro p r' w1 ⟨⟨r,L,hne,rfl,rfl,hrel,h⟩,h2,h3⟩
  have hy:=run_yield (P:=YP) (args:= #[.string (mkS (lnH r))]) h2 (by rw [hrc];rfl)
  rw [hrc] at hy
  refine ⟨fn,(Fr n f).tmps.setIfInBounds t (.string (mkS (lnH r))),assign,body,by rw [hy];simp,roundIn_of_wpIn trivial (hA (lnH r) l w1 _ ?_)⟩
  refine ⟨_,run_beginRound h2 (by rw [hrc]), ?_⟩
  have h4:=h.turn hWl h2 rfl (.loop {rc .ready none with state:= .busy})
  have hl2:(w1.putObj l (.loop {rc .ready none with state:= .busy})).heap[l]?=some (.loop {rc .ready none with state:= .busy}):=World.putObj_heap_same (hlt h2)
  have hk2:(w1.putObj l (.loop {rc .ready none with state:= .busy})).heap[w.heap.size]?=some (.deferred (some [])):=(World.putObj_heap_other Om).trans h3
  refine wpIn_mono (hB r L l _ hne hrel h4) λe a w3 hp=> ?_
  cases e with
  |normal=>
   obtain ⟨L',q1,q2⟩:=hp
   have hl3:=vZ h4.held q2 hl2 rfl
   have hk3:=vZ h4.held q2 hk2 rfl
   exact ⟨_,_,run_endRound none hl3,.inl ⟨rfl,⟨L',q1,(out_lend h4 q2).turn hWl hl3 rfl _⟩,(World.putObj_heap_same (hlt hl3)).trans (by rw [hrc];rfl),(World.putObj_heap_other Om).trans hk3⟩⟩
  |ret=>
   obtain ⟨L',q1,q2⟩:=hp
   have hl3:=vZ h4.held q2 hl2 rfl
   have hk3:=vZ h4.held q2 hk2 rfl
   exact ⟨_,_,run_endRound (some .ret) hl3,.inr ⟨rfl,⟨L',q1,(out_lend h4 q2).turn hWl hl3 rfl _⟩,(World.putObj_heap_same (hlt hl3)).trans (by rw [hrc];rfl),(World.putObj_heap_other Om).trans hk3⟩⟩
  |_=>exact hp.elim
 ·rintro e w2 ⟨rfl,(⟨⟨L,q,h⟩,h2,h3⟩|⟨⟨L,q,h⟩,h2,h3⟩)⟩
  ·exact ⟨none,_,by have:=run_endLoop (P:=YP) h2 (by rw [hrc];simp);rw [hrc] at this;exact this,hdone w.heap.size L _ hD q (h.turn hWl h2 rfl _) ((World.putObj_heap_other Om).trans h3)⟩
  ·exact ⟨some .ret,_,by have:=run_endLoop (P:=YP) h2 (by rw [hrc];simp);rw [hrc] at this;exact this,wpIn_ret (hret w.heap.size L _ hD q (h.turn hWl h2 rfl _) ((World.putObj_heap_other Om).trans h3))⟩
end
section
def j8:Nat->Rt->Nat->Nat->YL->Int×Rt×Nat
 |0,x,k,i,_=>(0,x,k)
 |f+1,x,k,i,r=>
  if r=[] then (0,x,k)
  else if (zA 10 r).2.2 then
   match k6 x k (zA 10 r).1 lays with
   |some (y,kk)=>j8 f y kk (i+1) (zA 10 r).2.1
   |none=>(((i+1:Nat):Int),x,k)
  else (((i+1:Nat):Int),x,k)
structure FewR (x:Rt)(m:Nat):Prop where
 n:x.needs.length<=m
 b:x.bars.length<=m
 f:x.fts.length<=m
 a:∀ n∈x.needs,n.any.length<=m
theorem FewR.up {x:Rt}{m m':Nat}(h:FewR x m)(hm:m<=m'):FewR x m':=⟨Nat.le_trans h.n hm,Nat.le_trans h.b hm,Nat.le_trans h.f hm,λn hn=>Nat.le_trans (h.a n hn) hm⟩
theorem wO {α:Type}(f:α->α):∀ l:List α,(yM f l).length=l.length
 | []=>rfl
 | [a]=>rfl
 |a::b::r=>by rw [yM,List.length_cons,wO f (b::r)];simp
theorem nI {α:Type}{f:α->α}{p:α->Prop}(hf:∀ y,p y->p (f y)):∀ {l:List α},(∀ y∈l,p y)→∀ y∈yM f l,p y
 | [],h=>h
 | [a],h=>λy hy=>by
  rw [yM,List.mem_singleton] at hy;rw [hy];exact hf a (h a (List.mem_singleton.2 rfl))
 |a::b::r,h=>λy hy=>by
  rw [yM] at hy
  rcases List.mem_cons.1 hy with rfl|hy
  ·exact h _ (List.mem_cons_self ..)
  ·exact nI hf (λz hz=>h z (List.mem_cons_of_mem _ hz)) y hy
theorem add_few {x:Rt}{m:Nat}(h:FewR x m)(kd:Nat)(ps:List YL):FewR (dZ x kd ps).1 (m+1):=by
 have h1:=h.up (Nat.le_succ m)
 unfold dZ
 split
 ·exact ⟨h1.n,h1.b,h1.f,h1.a⟩
 ·refine ⟨by rw [List.length_append];exact Nat.succ_le_succ h.n,h1.b,h1.f,λn hn=> ?_⟩
  rcases List.mem_append.1 hn with hn|hn
  ·exact h1.a n hn
  ·rw [List.mem_singleton.1 hn];exact Nat.zero_le _
 ·refine ⟨by rw [wO];exact h1.n,h1.b,h1.f,λn hn=> ?_⟩
  have key:∀ {l:List Nt},(∀ y∈l,y.any.length<=m)→∀ y∈yM (λn=>{n with any:=n.any++[anyW ps (ps.getD 4 [])]}) l,y.any.length<=m+1:=by
   intro l
   induction l with
   |nil=>intro _ y hy;cases hy
   |cons a r ih=>
    intro hl y hy
    cases r with
    |nil=>
     rw [yM,List.mem_singleton] at hy
     rw [hy];show (a.any++_).length<=_
     rw [List.length_append];exact Nat.succ_le_succ (hl a (List.mem_singleton.2 rfl))
    |cons b r=>
     rw [yM] at hy
     rcases List.mem_cons.1 hy with rfl|hy
     ·exact Nat.le_succ_of_le (hl _ (List.mem_cons_self ..))
     ·exact ih (λz hz=>hl z (List.mem_cons_of_mem _ hz)) y hy
  exact key h.a n hn
 ·exact ⟨by rw [wO];exact h1.n,h1.b,h1.f,nI (f:=λn:Nt=>{n with wh:=ps.getD 1 []}) (p:=λn:Nt=>n.any.length<=m+1) (λy hy=>hy) h1.a⟩
 ·exact ⟨by rw [wO];exact h1.n,h1.b,h1.f,nI (f:=λn:Nt=>{n with opt:=ps.getD 1 []}) (p:=λn:Nt=>n.any.length<=m+1) (λy hy=>hy) h1.a⟩
 ·exact ⟨h1.n,by rw [List.length_append];exact Nat.succ_le_succ h.b,h1.f,h1.a⟩
 ·exact ⟨h1.n,by rw [wO];exact h1.b,h1.f,h1.a⟩
 ·exact ⟨h1.n,h1.b,by rw [List.length_append];exact Nat.succ_le_succ h.f,h1.a⟩
 ·exact h1
theorem take_few {x y:Rt}{m k kk:Nat}{s:YL}(h:FewR x m):∀ {L:List La},k6 x k s L=some (y,kk)->FewR y (m+1)
 | [],e=>by cases e
 |l::r,e=>by
  rw [k6] at e
  split at e
  ·split at e
   ·simp only [Option.some.injEq,Prod.mk.injEq] at e
    rw [←e.1];exact add_few h _ _
   ·cases e
  ·exact take_few h e
theorem take_inv {x y:Rt}{k kk:Nat}{s:YL}(hI:InvA x k)(h:k6 x k s lays=some (y,kk)):InvA y kk/\gR ⟨x,stg k⟩ s=some ⟨y,stg kk⟩:=by
 have:=take_line hI s
 rw [h] at this
 cases hl:gR ⟨x,stg k⟩ s with
 |none=>rw [hl] at this;exact this.elim
 |some z=>rw [hl] at this;exact ⟨this.2,by rw [this.1]⟩
theorem take_not {x:Rt}{k:Nat}{s:YL}(hI:InvA x k)(h:k6 x k s lays=none):gR ⟨x,stg k⟩ s=none:=by
 have:=take_line hI s
 rw [h] at this
 cases hl:gR ⟨x,stg k⟩ s with
 |none=>rfl
 |some z=>rw [hl] at this;exact this.elim
theorem resA_read:∀ (f:Nat) (x:Rt) (k i:Nat) (r:YL),InvA x k->r.length<=f→
  let ls:=zB 10 [] r
  ((j8 f x k i r).1=0->InvA (j8 f x k i r).2.1 (j8 f x k i r).2.2/\jQ ⟨x,stg k⟩ ls.dropLast=some ⟨(j8 f x k i r).2.1,stg (j8 f x k i r).2.2⟩/\ls.getLast?=some [])
  /\((j8 f x k i r).1≠0->(jQ ⟨x,stg k⟩ ls.dropLast=none/\(j8 f x k i r).1=badS ⟨x,stg k⟩ i ls.dropLast)\/((∃ y,jQ ⟨x,stg k⟩ ls.dropLast=some y)/\ls.getLast?≠some []/\(j8 f x k i r).1=((i+ls.length:Nat):Int)))
 |f,x,k,i,[],hI,_=>by
  have e:j8 f x k i []=(0,x,k):=by cases f with
   |zero=>rfl
   |succ f=>rw [j8,if_pos rfl]
  rw [e]
  exact ⟨λ_=>⟨hI,rfl,rfl⟩,λh=>absurd rfl h⟩
 |0,x,k,i,c::r,hI,h=>by simp at h
 |f+1,x,k,i,c::t,hI,hf=>by
  obtain ⟨r,hr⟩:∃ r,c::t=r:=⟨_,rfl⟩
  have hne:r≠[]:=by rw [←hr];simp
  rw [hr] at hf ⊢
  have hsp:=xK 10 r []
  rw [List.nil_append] at hsp
  rw [j8,if_neg hne]
  cases hq:(zA 10 r).2.2 with
  |false=>
   rw [hq,if_neg Bool.false_ne_true] at hsp
   have hb:=d8 10 r
   rw [hq,if_neg Bool.false_ne_true,List.append_nil] at hb
   rw [if_neg Bool.false_ne_true,hsp]
   refine ⟨λh=>absurd h (by show ((i+1:Nat):Int)≠0;omega),λ_=> .inr ⟨⟨_,rfl⟩, ?_,rfl⟩⟩
   show some (zA 10 r).1≠some []
   rw [←hb];simpa using hne
  |true=>
   have hl:=pO 10 r
   rw [hq,if_pos rfl] at hl hsp
   rw [if_pos rfl,hsp]
   have hsne:zB 10 [] (zA 10 r).2.1≠[]:=vE 10 _ _
   obtain ⟨L,hL⟩:∃ L,zB 10 [] (zA 10 r).2.1=L:=⟨_,rfl⟩
   have hd:((zA 10 r).1::L).dropLast=(zA 10 r).1::L.dropLast:=List.dropLast_cons_of_ne_nil (hL▸hsne)
   have hg:((zA 10 r).1::L).getLast?=L.getLast?:=by
    rw [hL] at hsne
    cases L with
    |nil=>exact absurd rfl hsne
    |cons a b=>simp [List.getLast?_cons_cons]
   rw [hL]
   dsimp only
   rw [hd,hg]
   cases ht:k6 x k (zA 10 r).1 lays with
   |none=>
    have hn:=take_not hI ht
    refine ⟨λh=>absurd h (by show ((i+1:Nat):Int)≠0;omega),λ_=> .inl ⟨?_, ?_⟩⟩
    ·rw [jQ,hn]
    ·rw [badS,hn]
   |some yk=>
    obtain ⟨y,kk⟩:=yk
    obtain ⟨hI',hs⟩:=take_inv hI ht
    have ih:=resA_read f y kk (i+1) (zA 10 r).2.1 hI' Om
    rw [hL] at ih
    dsimp only at ih ⊢
    rw [jQ,badS,hs]
    refine ⟨ih.1,λh=> ?_⟩
    rcases ih.2 h with ⟨q1,q2⟩|⟨q1,q2,q3⟩
    ·exact .inl ⟨q1,q2⟩
    ·refine .inr ⟨q1,q2, ?_⟩
     rw [q3,List.length_cons];congr 1;omega
theorem inv_nil:InvA jI 0:=⟨by decide,λ_=>rfl,λh=>absurd h (by decide),λh=>absurd h (by decide)⟩
def j9 (s:YL):Int:=if s=[] then 1 else (j8 s.length jI 0 0 s).1
def recA (s:YL):Rt:=(j8 s.length jI 0 0 s).2.1
theorem stg_zero {k:Nat}(h:k<=8):stg k=0↔k=0:=by
 have:∀ j,j<=8->(stg j=0↔j=0):=by decide
 exact this k h
end
section
set_option linter.unnecessarySimpa false
def findRF:Code->Code×Code
 | .rangeFunc _ _ a b=>(a,b)
 | .seq x y=>match findRF x with
  |(.skip,.skip)=>findRF y
  |r=>r
 | .block _ x=>findRF x
 |_=>(.skip,.skip)
def wY (i:Nat):Code->Array Oper
 | .region j a _=>if j=i then a else #[]
 | .seq x y=>if (wY i x).size=0 then wY i y else wY i x
 | .cond _ x y=>if (wY i x).size=0 then wY i y else wY i x
 | .block _ x=>wY i x
 | .rangeFunc _ _ x y=>if (wY i x).size=0 then wY i y else wY i x
 |_=> #[]
section
variable {M:List Nat}{P:Program}{n:Nat}{W:World}{Q:Exit->Act->World->Prop}{c:Xc}
theorem x_range (h:List Nat){g:Operand}{t:Nat}(assign body rest:Code)(lv:List (Nat×Value))(L1:List Blk)(hs:∀ w f,Own M W w L1->(Code.rangeFunc g #[t] assign body).wp P (Exit.inBlock 0 (Exit.then (rest.wp P Q) Q)) (Fr n (jP f lv)) w)
  (hkt:(xgl P n nS h c,(xgo P n nS h c).top,(xgo P n nS h c).k,(xgo P n nS h c).L,xV (xgo P n nS h c).f lv)=(xgr P n nS h c,.code (.rangeFunc g #[t] assign body),[.blk 0,.code rest],L1,lv.map Prod.snd):=by kernel_rfl):zE M P n W Q c:=by
 simp only [Prod.mk.injEq] at hkt
 obtain ⟨hk,e1,e2,e3,e4⟩:=hkt
 refine zK h c hk ?_
 generalize xgo P n nS h c=d at*
 obtain ⟨top,kk,L,f⟩:=d
 dsimp only at e1 e2 e3 e4
 subst e1;subst e2;subst e3
 exact ⟨λ_=>⟨λw hO=>by have:=hs w f hO;rw [←g8 _ (kV e4)] at this;exact this⟩⟩
theorem x_retM {fn:Func}{R:Ending->World->Prop}(h:List Nat)(i:Nat)(v:Value)(hR:∀ w,Own M W w (xgo P n nS h c).L->R (.returned v) w)(hkt:(xgl P n nS h c,((xgo P n nS h c).top,(xgo P n nS h c).k,fn.results,(xgo P n nS h c).L[i]?,ev n (xgo P n nS h c).f (.tmp (xRt fn 0)),yS P (xRy fn 0) (qG (xgo P n nS h c).L i).cs 0))=(xgr P n nS h c,(.fin .ret,[], #[.cell (xRt fn 0) (xRy fn 0)],some (qG (xgo P n nS h c).L i),.pointer (some ⟨(qG (xgo P n nS h c).L i).b,0,none⟩),some v)):=by kernel_rfl):zE M P n W (mkQ P fn R) c:=by
 obtain ⟨hk,ht⟩:=Prod.mk.inj hkt
 refine zK h c hk ?_
 generalize xgo P n nS h c=d at hR ht ⊢
 obtain ⟨top,kk,L,f⟩:=d
 simp only [Prod.mk.injEq] at ht
 obtain ⟨rfl,rfl,e3,e4,e5,e6⟩:=ht
 exact ⟨λ_=>⟨λw hO=>(((fin_cell (M:=M) (P:=P) (n:=n) (W:=W) (R:=R) i _ v e3 e4 e5 e6 hR).go w hO).2)⟩⟩
end
theorem pX {P:Program}{n:Nat}{f:Nat->Value}{fn:Func}{p:Tmp}{ty:TypeId}{x:Blk}{v:Value}{w:World}(hres:fn.results= #[.cell p ty])(hp:ev n f (.tmp p)= .pointer (some ⟨x.b,0,none⟩))(hx:w.heap[x.b]?=some (.cells x.cs x.ty))(hv:yS P ty x.cs 0=some v):(results fn (Fr n f).tmps).run P w= .ok v w:=by
 have e:(Fr n f).tmps.getD p undef= .pointer (some ⟨x.b,0,none⟩):=(kK n f p).trans hp
 have hr:=yQ hv hx
 have e':(Fr n f).tmps[p]?.getD undef= .pointer (some ⟨x.b,0,none⟩):=by simpa using e
 simp [results,hres,e',asAddr,hr]
theorem tX {P:Program}{fn:Func}{R:Ending->World->Prop}{tmps:Array Value}{w:World}{D:Nat}{v:Value}(hK:w.heap[D]?=some (.deferred (some [])))(hres:(results fn tmps).run P (w.putObj D (.deferred none))= .ok v (w.putObj D (.deferred none)))(hR:R (.returned v) (w.putObj D (.deferred none))):LeavesInM Fence.wide 0 P fn tmps R [{target:= .collected D,args:= #[]}] .returning w:=
 ⟨by simp,.inl ⟨_,_,rfl,run_takeDeferred hK,v,hres,hR⟩⟩
theorem store_marks {P:Program}{n id i off:Nat}{f:Nat->Value}{o:Oper}{ds:List Deferred}{Q:Exit->Act->World->Prop}{M:List Nat}{W w:World}{L:List Blk}(x:Blk){T:TypeId}{t:TypeInfo}{p q:Operand}(v:Value)(hw:zR #[o] n f o=true)(ho:o.op= .store T p q)(hd:o.dst=none)(hL:L[i]?=some x)
  (hp:ev n f p= .pointer (some ⟨x.b,off,none⟩)) (hq:ev n f q=v) (hi:P.info? T=some t) (hs:v.cells.size=t.size) (hle:off+t.size<=x.cs.size) (h1:∀ u∈v.cells.toList,u.oneCell'=true) (hO:Own M W w L)
  (h:∀ w',Own M W w' (L.set i ⟨x.b,zT x.cs off v.cells,x.ty⟩)->(∀ k,k≠x.b->w'.heap[k]?=w.heap[k]?)->Q .normal {Fr n f with defers:=ds} w'):(Code.region id #[o] false).wp P Q {Fr n f with defers:=ds} w:=by
 have hst:=run_storeCells_at (P:=P) x.b off x.ty v.cells.toList 0 x.cs w (hO.get hL) (by simp;omega) h1
 have hr:(execOp (ev n f) o).run P w= .ok .skip (w.setRow x.b (zT x.cs off v.cells)):=by
  unfold execOp
  simp only [ho,hp,hq,Instr.storeAt,Instr.sureAddr,Sem.run_bind,Sem.run_pure,Result.andThen_ok,storeVar,sizeOf,typeInfo,hi,hs,run_program]
  simp only [ne_eq,not_true_eq_false,if_false]
  have:(storeCells ⟨x.b,off,none⟩ v.cells.toList).run P w= .ok () (w.setRow x.b (zT x.cs off v.cells)):=by
   rw [hst];unfold zT;simp
  simp [this]
 refine wp_region_list ?_
 show wpList P #[o] Q [o] {Fr n f with defers:=ds} w
 unfold wpList
 have hwt:Region.wanted o (yielded #[o] ({Fr n f with defers:=ds}:Act).tmps)=true:=(gF #[o] n f o).trans hw
 rw [if_pos hwt]
 refine .inl ?_
 unfold Oper.wp
 have he:({Fr n f with defers:=ds}:Act).eval=ev n f:=x3 n f
 rw [he,hr,Oper.upon_skip,show ({Fr n f with defers:=ds}:Act).put o.dst undef={Fr n f with defers:=ds} by rw [hd];rfl]
 unfold wpList
 exact h _ (hO.put hL _) λk hk=>by
  unfold World.setRow
  simp [World.setRow,hk,Array.getElem?_modify,Ne.symm hk]
end
section
set_option linter.unnecessarySimpa false
theorem qLines_any (s:YL)(W:World):YC 53 #[.string (mkS s)] W λe w'=>∃ v ob,e= .returned v/\(∃ B,v= .func (.func 96) #[] #[.pointer (some ⟨B,0,none⟩)]/\ob=[yN B s])/\Own [] W w' ob:=
 zF Tryz.func53 (x1 [] λb1=>bN 3 [] (.func (.func 96) #[] #[.pointer (some ⟨b1,0,none⟩)]) (λw=>Kr) (z8 [] (.func (.func 96) #[] #[.pointer (some ⟨b1,0,none⟩)]) λw hO=>⟨_,_,rfl,⟨b1,rfl,rfl⟩,hO.past 0 [yN b1 s]⟩))
theorem suf_cut (r:YL):Lib.hasSuffix (lnH r) [10]=(zA 10 r).2.2/\((zA 10 r).2.2=true->Lib.trimSuffix (lnH r) [10]=(zA 10 r).1):=by
 unfold lnH
 cases hq:(zA 10 r).2.2 with
 |true=>
  rw [if_pos rfl]
  have h1:Lib.hasSuffix ((zA 10 r).1++[10]) [10]=true:=List.isSuffixOf_iff_suffix.2 (List.suffix_append _ _)
  exact ⟨h1,λ_=>by unfold Lib.trimSuffix;rw [if_pos h1];simp⟩
 |false=>
  rw [if_neg Bool.false_ne_true]
  refine ⟨?_,λh=>absurd h Bool.false_ne_true⟩
  have h1:=split_free 10 r [] (by simp) r (by rw [split_one 10 hq];exact List.mem_singleton.2 rfl)
  cases h2:Lib.hasSuffix r [10] with
  |false=>rfl
  |true=>exact absurd ((List.isSuffixOf_iff_suffix.1 h2).subset (List.mem_singleton.2 rfl)) h1
theorem qSuf_any (p:YL)(w:World)(hp:p.length<=1048576):YC 59 #[.string (mkS p),.string ⟨#[10]⟩] w (YR (.tuple #[.string (mkS (Lib.trimSuffix p [10])),.bool (Lib.hasSuffix p [10])]) w):=
 (Tryz.strings_CutSuffix _ _ w (by rw [y7];omega)).mono λe w' ⟨h1,h2⟩=>⟨by rw [h1];rfl,h2▸Below.refl _ _⟩
def kX (b:Nat)(z:Int):Blk:=⟨b, #[YI z],3⟩
def tkV (rb:Nat):Value:= .func (.func 32) #[.pointer (some ⟨rb,0,none⟩)] #[]
def fnB (b rb:Nat):Blk:=⟨b, #[tkV rb],34⟩
structure RefB (rb:Nat)(s:YL)(ob:List Blk)(W:World)(e:Ending)(w':World):Prop where
 ex:∃ x' k' ob',e= .returned (YI (j9 s))/\RdR rb k' x' ob'/\Own (ob.map Blk.b) W w' ob'/\(s≠[]->j9 s=0->x'.rt=recA s/\FewR x'.rt 4096)
noncomputable abbrev qRF:Code×Code:=findRF (Tryz.f30.body.getD .skip)
noncomputable abbrev qRg (i:Nat):Array Oper:=wY i (Tryz.f30.body.getD .skip)
theorem qBody_is:qRF.2= .block 1 (.seq (.region 6 (qRg 6) false) (.seq (.region 7 (qRg 7) false) (.seq (.region 8 (qRg 8) false) (.cond (.tmp 28) (.seq (.region 9 (qRg 9) false) .ret) .skip)))):=by kernel_rfl
structure RefI (rb b3 b4 b5:Nat)(s r:YL)(L:List Blk):Prop where
 ex:∃ x k i ob fu,L=kX b5 ((i:Nat):Int)::kX b4 0::fnB b3 rb::ob/\RdR rb k x ob/\InvA x.rt k/\FewR x.rt i/\i+r.length<=s.length/\r.length<=fu/\j8 fu x.rt k i r=j8 s.length jI 0 0 s
structure RefX (rb b3 b4 b5:Nat)(s:YL)(L:List Blk):Prop where
 ex:∃ x k i ob,L=kX b5 i::kX b4 (j9 s)::fnB b3 rb::ob/\RdR rb k x ob/\j9 s≠0
theorem FewR.few {x:Rv}{m:Nat}(h:FewR x.rt m)(hm:m<=5000):Few x:=by
 have h':=h.up hm
 refine ⟨?_, ?_, ?_,λn hn=> ?_⟩
 ·have:=h'.n;unfold Rv.rt at this;simpa using this
 ·have:=h'.b;unfold Rv.rt at this;simpa using this
 ·have:=h'.f;simp only [Rv.rt,yC] at this;simpa using this
 ·have:=h'.a n.nt (by unfold Rv.rt;exact List.mem_map.2 ⟨n,hn,rfl⟩)
  unfold Nv.nt at this;simpa using this
def bLv (b3 b4 b5:Nat):List (Nat×Value):=[(3,.pointer (some ⟨b3,0,none⟩)),(4,.pointer (some ⟨b4,0,none⟩)),(5,.pointer (some ⟨b5,0,none⟩))]
theorem ref_body {M:List Nat}{W0:World}{rb b3 b4 b5 B:Nat}{s:YL}(hs:s.length<=4096)(hne0:s≠[])(hK:∀ w,Own M W0 w []->HasLib w/\LyAt w)(f:Nat->Value)(r:YL)(L:List Blk)(l:Nat)(Wr:World)(hne:r≠[])(hrel:RefI rb b3 b4 b5 s r L)(hOw:Own M W0 Wr (yN B (lnR r)::L)):
  qRF.2.wpIn (Fence.wide.inRound l) 1 YP (rndQ ((yN B (lnR r)::L).map Blk.b) B (lnR r) (RefI rb b3 b4 b5 s) (RefX rb b3 b4 b5 s) Wr) (Fr Tryz.f30.ntmps (upd (jP f (bLv b3 b4 b5)) (some 6) (.string (mkS (lnH r))))) Wr:=by
 obtain ⟨x,k,i,ob,fu,rfl,hR,hI,hF,hi,hfu,hres⟩:=hrel
 have hlen:=lnR_len hne
 obtain ⟨p,hp⟩:∃ p,lnH r=p:=⟨_,rfl⟩
 obtain ⟨rr,hrr⟩:∃ rr,lnR r=rr:=⟨_,rfl⟩
 obtain ⟨hsuf,htrim⟩:=suf_cut r
 have hpl:p.length<=4096:=by
  rw [←hp];unfold lnH
  rcases ix_cut 10 r with ⟨c1,_,c3,_⟩|⟨c1,_⟩
  ·rw [if_pos c1,←c3,List.length_take];omega
  ·rw [c1,if_neg Bool.false_ne_true];omega
 rw [hp] at hsuf htrim ⊢
 rw [hrr] at hOw hlen ⊢
 obtain ⟨M1,hM1⟩:∃ M1,(yN B rr::kX b5 ((i:Nat):Int)::kX b4 0::fnB b3 rb::ob).map Blk.b=M1:=⟨_,rfl⟩
 have hOl:=hOw.lend
 obtain ⟨ln,hln⟩:∃ ln,Lib.trimSuffix p [10]=ln:=⟨_,rfl⟩
 obtain ⟨en,hen⟩:∃ en,Lib.hasSuffix p [10]=en:=⟨_,rfl⟩
 have hcs:∀ w,YC 59 #[.string (mkS p),.string ⟨#[10]⟩] w (YR (.tuple #[.string (mkS ln),.bool en]) w):=λw=>by
  have:=qSuf_any p w Om
  rw [hln,hen] at this;exact this
 have hlnl:ln.length<=4096:=by
  rw [←hln];unfold Lib.trimSuffix
  split
  ·rw [List.length_take];omega
  ·exact hpl
 rw [hM1] at hOl ⊢
 rw [qBody_is]
 refine wpIn_block (wpIn_seq (jE (M:=M1) (W:=Wr) (L:=yN B rr::kX b5 ((i:Nat):Int)::kX b4 0::fnB b3 rb::ob) (dT (bS pq_rnd)) out_rnd Kr ?_ Wr hOl))
 refine x_i 15 [1] ((i+1:Nat):Int) (x_fin [1] (bLv b3 b4 b5++[(6,.string (mkS p))]) λw6 f6 hO6=> ?_)
 have hO6':=hO6.past 0 (yN B rr::kX b5 ((i+1:Nat):Int)::kX b4 0::fnB b3 rb::ob)
 clear hO6
 refine wpIn_seq (jE (M:=M1) (W:=Wr) (L:=yN B rr::kX b5 ((i+1:Nat):Int)::kX b4 0::fnB b3 rb::ob) (dT (bS pq_rnd)) out_rnd Kr ?_ w6 hO6')
 refine z7 (v:= .tuple #[.string (mkS ln),.bool en]) [] (λw hO=>hcs w) (x_fin [] (bLv b3 b4 b5++[(7,.string (mkS ln)),(8,.bool en)]) λw7 f7 hO7=> ?_)
 have hO7':=hO7.past 0 (yN B rr::kX b5 ((i+1:Nat):Int)::kX b4 0::fnB b3 rb::ob)
 clear hO7
 refine wpIn_seq (jE (M:=M1) (W:=Wr) (L:=yN B rr::kX b5 ((i+1:Nat):Int)::kX b4 0::fnB b3 rb::ob) (dT (bS pq_rnd)) out_rnd Kr ?_ w7 hO7')
 have hM0:∀ {w:World} {L':List Blk},Own M1 Wr w L'->Own M W0 w L':=λh=>out_lend hOw (by rw [hM1];exact h)
 have hrefuse:∀ (w8:World) (f8:Nat->Value) (x':Rv) (k':Nat) (ob':List Blk),Own M1 Wr w8 (yN B rr::kX b5 ((i+1:Nat):Int)::kX b4 0::fnB b3 rb::ob')->RdR rb k' x' ob'->(j8 fu x.rt k i r).1=((i+1:Nat):Int)->(Code.cond (.tmp 28) (.seq (.region 9 (qRg 9) false) .ret) .skip).wpIn (Fence.wide.inRound l) 1 YP (Exit.inBlock 1 (rndQ M1 B rr (RefI rb b3 b4 b5 s) (RefX rb b3 b4 b5 s) Wr)) (Fr Tryz.f30.ntmps (jP f8 (bLv b3 b4 b5++[(28,.bool true)]))) w8:=λw8 f8 x' k' ob' hO8 hR' hz=>by
  have hbz:j9 s=((i+1:Nat):Int):=by unfold j9;rw [if_neg hne0,←hres];exact hz
  refine wpIn_cond_true (by rw [x3];kernel_rfl) (wpIn_seq (jE (M:=M1) (W:=Wr) (L:=yN B rr::kX b5 ((i+1:Nat):Int)::kX b4 0::fnB b3 rb::ob') (dT (bS pq_rnd)) out_rnd Kr ?_ w8 hO8))
  refine x_fin [1,2] [] λw9 f9 hO9=>wpIn_ret ⟨kX b5 ((i+1:Nat):Int)::kX b4 (j9 s)::fnB b3 rb::ob',⟨x',k',_,ob',rfl,hR',by rw [hbz];omega⟩, ?_⟩
  rw [hbz]
  exact hO9.past 1 (kX b5 ((i+1:Nat):Int)::kX b4 ((i+1:Nat):Int)::fnB b3 rb::ob')
 refine pQ 21 [] en (λh21=> ?_) (λh21=> ?_)
 rotate_left
 ·have hc:(zA 10 r).2.2=false:=by rw [←hsuf,hen];exact h21
  refine x_fin [] (bLv b3 b4 b5++[(28,.bool true)]) λw8 f8 hO8=> ?_
  have hO8':=hO8.past 0 (yN B rr::kX b5 ((i+1:Nat):Int)::kX b4 0::fnB b3 rb::ob)
  clear hO8
  refine hrefuse w8 f8 x k ob hO8' hR ?_
  cases fu with
  |zero=>exact absurd (List.eq_nil_of_length_eq_zero (Nat.le_zero.1 hfu)) hne
  |succ fu=>rw [j8,if_neg hne,hc,if_neg Bool.false_ne_true]
 have hc:(zA 10 r).2.2=true:=by rw [←hsuf,hen];exact h21
 have hln1:(zA 10 r).1=ln:=by rw [←htrim hc,hln]
 have hrr1:(zA 10 r).2.1=rr:=by rw [←hrr];unfold lnR;rw [if_pos hc]
 obtain ⟨fu,rfl⟩:∃ f',fu=f'+1:=⟨fu-1,by have:=List.length_pos_iff.2 hne;omega⟩
 have hstep:j8 (fu+1) x.rt k i r=match k6 x.rt k ln lays with
   |some (y,kk)=>j8 fu y kk (i+1) rr
   |none=>(((i+1:Nat):Int),x.rt,k):=by
  rw [j8,if_neg hne,hc,if_pos rfl,hln1,hrr1]
  all_goals (cases k6 x.rt k ln lays<;>rfl)
 refine kH (k:=32) (args:= #[Zp rb 0,.string (mkS ln)]) (Rr:=λv ob'=>∃ b x' k',v= .bool b/\RdR rb k' x' ob'/\(match k6 x.rt k ln lays with|some (y,kk)=>b=true/\x'.rt=y/\k'=kk|none=>b=false)) [3] (yN B rr::kX b5 ((i+1:Nat):Int)::kX b4 0::fnB b3 rb::ob) [yN B rr,kX b5 ((i+1:Nat):Int),kX b4 0,fnB b3 rb] ob (λw hO=>hO) (λw hO=>(qTake_any rb k x ln ob w hR (Own.lentR hO) (by omega) (hF.few (by omega)) hI λw' hw'=>hK w' ?_).mono λe w' ⟨b,x',k',ob',q1,q2,q3,q4⟩=>⟨_,ob',q1,⟨b,x',k',rfl,q2,q4⟩,q3⟩) λv ob' ⟨b,x',k',q1,hR',hm⟩=> ?_
 ·exact (out_lend ((hM0 hO).sublist (List.sublist_append_right _ _)) hw')
 subst q1
 refine x_fin [] (bLv b3 b4 b5++[(28,.bool (!b))]) λw8 f8 hO8=> ?_
 have hO8':=hO8.past 0 (yN B rr::kX b5 ((i+1:Nat):Int)::kX b4 0::fnB b3 rb::ob')
 clear hO8
 cases ht:k6 x.rt k ln lays with
 |none=>
  rw [ht] at hm hstep
  dsimp only at hm
  subst hm
  exact hrefuse w8 f8 x' k' ob' hO8' hR' (by rw [hstep])
 |some yk=>
  obtain ⟨y,kk⟩:=yk
  rw [ht] at hm hstep
  dsimp only at hm hstep
  obtain ⟨rfl,rfl,rfl⟩:=hm
  refine wpIn_cond_false (by rw [x3];kernel_rfl) (wpIn_skip ⟨kX b5 ((i+1:Nat):Int)::kX b4 0::fnB b3 rb::ob',⟨x',k',i+1,ob',fu,rfl,hR',(take_inv hI ht).1,take_few hF ht,by omega,by omega, ?_⟩,hO8'⟩)
  rw [←hstep];exact hres
theorem one_round {P:Program}{n l m id:Nat}{f:Nat->Value}{o:Oper}{v:Value}{K:Act->World->Prop}{Q0:Exit->Act->World->Prop}{w:World}(hw:zR #[o] n f o=true)(hn:noDef o=true)(hr:∀ w,(execOp (ev n f) o).run P w= .ok (.value v) w)(h:K (Fr n (upd f o.dst v)) w):(Code.region id #[o] false).wpIn (Fence.wide.inRound l) m P (Exit.then K Q0) (Fr n f) w:=by
 refine wpIn_region_list ?_
 show wpListIn (Fence.wide.inRound l) m P #[o] (Exit.then K Q0) [o] (Fr n f) w
 unfold wpListIn
 rw [gF,if_pos hw]
 refine ⟨λ_ _=>trivial, ?_⟩
 rw [Oper.semAt_eq _ _ _ (noDef_is hn),x3,hr,Oper.uponIn_value,gO]
 unfold wpListIn
 exact h
noncomputable abbrev qAs:Oper:=(qRg 5).getD 0 default
noncomputable abbrev qSt:Oper:=(qRg 10).getD 0 default
theorem qAssign_is:qRF.1= .region 5 #[qAs] false:=by kernel_rfl
theorem qStore_is:qRg 10= #[qSt]:=by kernel_rfl
theorem resA_nil (fu:Nat)(x:Rt)(k i:Nat):j8 fu x k i []=(0,x,k):=by
 cases fu with
 |zero=>rfl
 |succ f=>rw [j8,if_pos rfl]
def aLv (b3 b4 b5 B:Nat):List (Nat×Value):=[(3,.pointer (some ⟨b3,0,none⟩)),(4,.pointer (some ⟨b4,0,none⟩)),(5,.pointer (some ⟨b5,0,none⟩)),(12,.func (.func 96) #[] #[.pointer (some ⟨B,0,none⟩)])]
theorem qRefused_any (rb:Nat)(x:Rv)(s:YL)(ob:List Blk)(W:World)(hR:RdR rb 0 x ob)(hO:Own (ob.map Blk.b) W W ob)(hx:x.rt=jI)(hs:s.length<=4096)(hK:∀ w,Own (ob.map Blk.b) W w []->HasLib w/\LyAt w):YC 30 #[.string (mkS s),tkV rb] W (RefB rb s ob W):=by
 obtain ⟨M,hM⟩:∃ M,ob.map Blk.b=M:=⟨_,rfl⟩
 rw [hM] at hO hK
 refine x_enterM hO Tryz.func30 (x1 [] λb3=>zQ [] λb4=>qF 10 [] s [] (λh=> ?_) (λh=> ?_))
 ·refine x_retM [0] 0 (YI 1) λw hO=>⟨x,0,ob,by rw [j9,if_pos h],hR,by rw [hM];exact hO.past 2 ob,λq=>absurd h q⟩
 refine zQ [] λb5=>k7 (R:=λv ob=>∃ B,v= .func (.func 96) #[] #[Zp B 0]/\ob=[yN B s]) [0] (λw hO=>qLines_any s w) ?_
 rintro v ob2 ⟨B,rfl,rfl⟩
 refine x_range [] (g:= .tmp 12) (t:=13) qRF.1 qRF.2 (.seq (.region 10 (qRg 10) false) .ret) (aLv b3 b4 b5 B) (kX b5 0::kX b4 0::fnB b3 rb::(ob++[yN B s])) λw f hOw=> ?_
 have hO0:Own M W w (yN B s::kX b5 0::kX b4 0::fnB b3 rb::ob):=x2 [] hOw λp=>by
  simp only [List.countP_append,List.countP_cons,List.countP_nil,List.cons_append,List.nil_append];omega
 clear hOw
 have hb4:∀ {D:Nat} {z:Int} {w':World} {L:List Blk},Own M W w' L->kX b4 z∈L->w'.heap[D]?=some (.deferred (some []))->D≠b4:=λhO hm hd e=>by
  have:=hO.held _ hm
  rw [show (kX b4 _).b=b4 from rfl,←e,hd] at this;cases this
 have hres4:ev Tryz.f30.ntmps (jP f (aLv b3 b4 b5 B)) (.tmp 4)= .pointer (some ⟨b4,0,none⟩):=by kernel_rfl
 refine wp_lines (B:=B) (s:=s) Kr (RefI rb b3 b4 b5 s) (RefX rb b3 b4 b5 s) (λp=>upd (upd (jP f (aLv b3 b4 b5 B)) (some 13) (.string (mkS p))) (some 6) (.string (mkS p))) (λp l w K hk=> ?_) (λr L l Wr hne hrel hOw=> ?_) ⟨x,0,0,ob,s.length,rfl,hR,by rw [hx];exact inv_nil,by rw [hx];exact ⟨Nat.le_refl _,Nat.le_refl _,Nat.le_refl _,λn hn=>by cases hn⟩,by omega,Nat.le_refl _,by rw [hx]⟩ hO0 (by omega) ?_ ?_
 ·have e:({tmps:=(Fr Tryz.f30.ntmps (jP f (aLv b3 b4 b5 B))).tmps.setIfInBounds 13 (.string (mkS p)),defers:=[]}:Act)=Fr Tryz.f30.ntmps (upd (jP f (aLv b3 b4 b5 B)) (some 13) (.string (mkS p))):=gO _ _ (some 13) _
  rw [e,qAssign_is]
  refine one_round (v:= .string (mkS p)) Kr Kr (λw=>Kr) ?_
  rw [show qAs.dst=some 6 from by kernel_rfl]
  exact hk
 ·have:=ref_body hs h hK (upd (jP f (aLv b3 b4 b5 B)) (some 13) (.string (mkS (lnH r)))) r L l Wr hne hrel hOw
  rw [←g8 (bLv b3 b4 b5) (kV Kr)] at this
  exact this
 ·rintro D L w' hD ⟨x',k',i,ob',fu,rfl,hR',hI',hF',hi,hfu,hres⟩ hO' hdf
  rw [resA_nil] at hres
  have hb0:j9 s=0:=by unfold j9;rw [if_neg h,←hres]
  have hr0:recA s=x'.rt:=by unfold recA;rw [←hres]
  show (Code.seq (.region 10 (qRg 10) false) .ret).wp YP (mkQ YP Tryz.f30 (RefB rb s ob W)) _ w'
  refine wp_seq ?_
  rw [qStore_is]
  obtain ⟨ti,hti,_,hsz,_⟩:=int_made
  refine store_marks (i:=2) (off:=0) (kX b4 0) (YI 0) (T:=3) (t:=ti) (p:= .tmp 4) (q:= .const (YI 0)) Kr Kr Kr rfl hres4 Kr hti (by rw [hsz];rfl) (by rw [hsz];exact Nat.le_refl _) (λu hu=>by rw [List.mem_singleton.1 hu];rfl) hO' λw2 hO2 hk2=> ?_
  have hO2':=hO2.past 0 (yN B []::kX b5 ((i:Nat):Int)::kX b4 0::fnB b3 rb::ob')
  clear hO2
  have hd2:w2.heap[D]?=some (.deferred (some [])):=(hk2 D (hb4 (z:=0) hO' (List.mem_cons_of_mem _ (List.mem_cons_of_mem _ (List.mem_cons_self ..))) hdf)).trans hdf
  have hO3:=hO2'.turn hD hd2 rfl (.deferred none)
  refine wp_ret (tX (v:=YI 0) hd2 (pX (ty:=3) (x:=kX b4 0) Kr hres4 (hO3.held (kX b4 0) (List.mem_cons_of_mem _ (List.mem_cons_of_mem _ (List.mem_cons_self ..)))) Kr) ?_)
  exact ⟨x',k',ob',by rw [hb0],hR',by rw [hM];exact hO3.past 4 ob',λ_ _=>⟨hr0.symm,hF'.up Om⟩⟩
 ·rintro D L w' hD ⟨x',k',i,ob',rfl,hR',hbad⟩ hO' hdf
  have hO3:=hO'.turn hD hdf rfl (.deferred none)
  exact tX (v:=YI (j9 s)) hdf (pX (ty:=3) (x:=kX b4 (j9 s)) Kr hres4 (hO3.held (kX b4 (j9 s)) (List.mem_cons_of_mem _ (List.mem_cons_self ..))) Kr) (⟨x',k',ob',rfl,hR',by rw [hM];exact hO3.past 3 ob',λ_ q=>absurd q hbad⟩)
end
section
set_option linter.unnecessarySimpa false
theorem suf_end (p:YL):Lib.hasSuffix p [10]=pV p:=by
 cases h:pV p with
 |true=>
  have h':p.getLast?=some 10:=by unfold pV at h;simpa using h
  obtain ⟨q,rfl⟩:=List.getLast?_eq_some_iff.1 h'
  exact List.isSuffixOf_iff_suffix.2 (List.suffix_append _ _)
 |false=>
  cases h2:Lib.hasSuffix p [10] with
  |false=>rfl
  |true=>
   obtain ⟨q,rfl⟩:=List.isSuffixOf_iff_suffix.1 h2
   rw [endP_nl] at h;cases h
theorem trim_body (p:YL):Lib.trimSuffix p [10]=bC p:=by
 unfold Lib.trimSuffix bC
 rw [suf_end]
 cases pV p<;>simp [List.dropLast_eq_take]
theorem body_le (p:YL):(bC p).length<=p.length:=by
 unfold bC
 split
 ·rw [List.length_dropLast];omega
 ·exact Nat.le_refl _
end
section
set_option linter.unnecessarySimpa false
theorem keyedF:Maps.Keyed YP 9:=Maps.string_keyed Kr
theorem mapTyF:Tryz.prog.underlying 147=some (.map 9 111):=by kernel_rfl
theorem zeroF (w:World):(zeroValue 111).run YP w= .ok .nilFunc w:=by kernel_rfl
theorem mkeyF {s:YL}(hs:s.length<=1048576):keyOf YP 9 (.string (mkS s))=some (.string s):=by
 have:=WideMaps.keyOf_string_mk (P:=YP) (k:=9) Kr (s:=mkS s) (by rw [y7];unfold maxLen;omega)
 rw [mk_data] at this;exact this
def fnP:Value:= .func (.func 141) #[] #[]
def fnH:Value:= .func (.func 142) #[] #[]
theorem fnPH:fnH≠fnP:=λh=>by
 unfold fnP fnH at h
 injection h with h1
 injection h1 with h2
 exact absurd h2 (by decide)
theorem fnPN:Value.nilFunc≠fnP:=λh=>by unfold fnP at h;cases h
theorem fnHN:Value.nilFunc≠fnH:=λh=>by unfold fnH at h;cases h
noncomputable def FunE (v:Value):Option (DataW Unit×List MemPlace):= @ite _ (v=fnP) (Classical.propDecidable _) (some (.lit (.bool true),[])) (@ite _ (v=fnH) (Classical.propDecidable _) (some (.lit (.bool false),[])) (@ite _ (v= .nilFunc) (Classical.propDecidable _) (some (.lit (.string []),[])) none))
theorem funP:FunE fnP=some (.lit (.bool true),[]):=if_pos rfl
theorem funH:FunE fnH=some (.lit (.bool false),[]):=by unfold FunE;rw [if_neg fnPH,if_pos rfl]
theorem funN:FunE .nilFunc=some (.lit (.string []),[]):=by unfold FunE;rw [if_neg fnPN,if_neg fnHN,if_pos rfl]
theorem funE_inv {v:Value}{z:DataW Unit×List MemPlace}(h:FunE v=some z):(v=fnP/\z=(.lit (.bool true),[]))\/(v=fnH/\z=(.lit (.bool false),[]))\/(v= .nilFunc/\z=(.lit (.string []),[])):=by
 unfold FunE at h
 by_cases h1:v=fnP
 ·rw [if_pos h1] at h;exact .inl ⟨h1,(Option.some.inj h).symm⟩
 rw [if_neg h1] at h
 by_cases h2:v=fnH
 ·rw [if_pos h2] at h;exact .inr (.inl ⟨h2,(Option.some.inj h).symm⟩)
 rw [if_neg h2] at h
 by_cases h3:v= .nilFunc
 ·rw [if_pos h3] at h;exact .inr (.inr ⟨h3,(Option.some.inj h).symm⟩)
 rw [if_neg h3] at h;cases h
noncomputable def datF:DataW Unit:=((DataW.map []).put (.string fD) (.lit (.bool true))).put (.string wK) (.lit (.bool false))
structure MapF (w:World)(b:Nat):Prop where
 ex:w.ownsMap YP 9 FunE b 2 datF
theorem MapF.lt {w:World}{b:Nat}(h:MapF w b):b<w.heap.size:=h.ex.lt
theorem MapF.kept {w w':World}{b:Nat}(h:MapF w b)(hk:w'.heap[b]?=w.heap[b]?):MapF w' b:=by
 obtain ⟨es,clock,hb,r⟩:=h.ex
 exact ⟨es,clock,hk.trans hb,r⟩
def fnOf (s:YL):Value:=if s=fD then fnP else if s=wK then fnH else .nilFunc
theorem MapF.look {w:World}{b:Nat}(h:MapF w b){s:YL}(hs:s.length<=1048576):(Instr.lookup 147 (.map (some b)) (.string (mkS s)) false).run YP w= .ok (fnOf s) w:=by
 obtain ⟨v,ps,hrun,hv⟩:=h.ex.lookup keyedF mapTyF (zeroF w) funN (mkeyF hs)
 rw [hrun]
 have hm0:Maps.IsMap (DataW.map []:DataW Unit):=Maps.isMap_empty
 have hm1:Maps.IsMap ((DataW.map []).put (.string fD) (.lit (.bool true)):DataW Unit):=⟨_,DataW.put_eq _ _ _⟩
 have hat:datF.atKey (.string s) (.lit (.string []))=if s=fD then .lit (.bool true) else if s=wK then .lit (.bool false) else .lit (.string []):=by
  unfold datF
  by_cases h2:s=wK
  ·subst h2
   rw [Maps.atKey_put_same hm1 (keyedF.key (mkeyF (by decide))),if_neg (by decide),if_pos rfl]
  ·rw [Maps.atKey_put_other (λq=>h2 (by cases q;rfl))]
   by_cases h1:s=fD
   ·subst h1
    rw [Maps.atKey_put_same hm0 (keyedF.key (mkeyF (by decide))),if_pos rfl]
   ·rw [Maps.atKey_put_other (λq=>h1 (by cases q;rfl)),if_neg h1,if_neg h2];rfl
 rw [hat] at hv
 unfold fnOf
 by_cases h1:s=fD
 ·rw [if_pos h1] at hv ⊢
  rcases funE_inv hv with ⟨e,q⟩|⟨e,q⟩|⟨e,q⟩<;>first|(rw [e];done)|(injection q with q _;cases q)
 rw [if_neg h1] at hv ⊢
 by_cases h2:s=wK
 ·rw [if_pos h2] at hv ⊢
  rcases funE_inv hv with ⟨e,q⟩|⟨e,q⟩|⟨e,q⟩<;>first|(rw [e];done)|(injection q with q _;cases q)
 rw [if_neg h2] at hv ⊢
 rcases funE_inv hv with ⟨e,q⟩|⟨e,q⟩|⟨e,q⟩<;>first|(rw [e];done)|(injection q with q _;cases q)
theorem below_set {B b:Nat}{W w w':World}(h:Below B W w)(hb:B<=b)(hB:B<=w.heap.size)(hg:w.grownBy w' (some b))(hd:w.drawn<=w'.drawn):Below B W w':=
 ⟨hg.os.trans h.os,hg.tape.trans h.tape,hg.output.trans h.output,Nat.le_trans h.size hg.size,Nat.le_trans h.drawn hd,λk hk=>(hg.block k Om (λe=>by injection e with e;omega)).trans (h.block k hk)⟩
theorem own_re {M:List Nat}{W w w':World}{L:List Blk}(hO:Own M W w L)(hb:YB w w'):Own (L.map Blk.b) w' w' L:=
 ⟨rfl,rfl,rfl,Nat.le_refl _,Nat.le_refl _,λ_ _ _=>rfl,λx hx=>(hb.block x.b (hO.lt hx)).trans (hO.held x hx),λx hx=> .inr (List.mem_map_of_mem hx),hO.apart⟩
theorem own_back {W w' w'':World}{M:List Nat}{L:List Blk}(h1:YB W w')(hM:∀ m∈M,W.heap.size<=m)(h:Own M w' w'' L):Own [] W w'' L:=
 ⟨h.os.trans h1.os,h.tape.trans h1.tape,h.output.trans h1.output,Nat.le_trans h1.size h.size,Nat.le_trans h1.drawn h.drawn,λk hk _=>(h.kept k (Nat.lt_of_lt_of_le hk h1.size) λhm=>absurd (hM k hm) Om).trans (h1.block k hk),h.held,λx hx=> .inl (by
  rcases h.base x hx with q|q
  ·exact Nat.le_trans h1.size q
  ·exact hM _ q),h.apart⟩
theorem adders_any (W:World):YC 90 #[] W λe w'=>∃ b,e= .returned (.map (some b))/\W.heap.size<=b/\MapF w' b/\YB W w':=by
 refine zF Tryz.func90 (x_ins [] (Instr.makeMap 147 none) λw0 hO0=> ?_)
 obtain ⟨b1,e1⟩:∃ b,b=w0.heap.size:=⟨_,rfl⟩
 have hs0:=hO0.below.size
 have hW0:Below W.heap.size W (w0.alloc (.map #[] 0)):=hO0.below.alloc hs0 _
 have hm0:(w0.alloc (.map #[] 0)).ownsMap YP 9 FunE b1 0 (.map []):=e1▸World.ownsMap_made w0 _ _ _
 refine ⟨.map (some b1),_,[],[],by rw [e1];exact run_makeMap _ _,Own.start _ _, ?_⟩
 generalize w0.alloc (.map #[] 0)=w1 at*
 refine x_upd [] (Instr.mapUpdate 147 (.map (some b1)) (.string (mkS fD)) fnP) λw2 hO2=> ?_
 have hm2:w2.ownsMap YP 9 FunE b1 0 (.map []):=by
  obtain ⟨es,clock,hb,r⟩:=hm0
  exact ⟨es,clock,(hO2.below.block b1 (Array.getElem?_eq_some_iff.1 hb).1).trans hb,r⟩
 have hW2:=hW0.trans (hO2.below.mono hW0.size)
 obtain ⟨w3,hr3,hm3,hg3⟩:=hm2.update keyedF mapTyF (by unfold maxLen;omega) (mkeyF (s:=fD) (by decide)) funP
 refine ⟨w3,[],[],hr3,Own.start _ _, ?_⟩
 have hW3:=below_set hW2 (show W.heap.size<=b1 by omega) hW2.size hg3 (p8 _ _ _ hr3)
 refine x_upd [] (Instr.mapUpdate 147 (.map (some b1)) (.string (mkS wK)) fnH) λw4 hO4=> ?_
 have hm4:w4.ownsMap YP 9 FunE b1 1 ((DataW.map []).put (.string fD) (.lit (.bool true))):=by
  obtain ⟨es,clock,hb,r⟩:=hm3
  exact ⟨es,clock,(hO4.below.block b1 (Array.getElem?_eq_some_iff.1 hb).1).trans hb,r⟩
 have hW4:=hW3.trans (hO4.below.mono hW3.size)
 obtain ⟨w5,hr5,hm5,hg5⟩:=hm4.update keyedF mapTyF (by unfold maxLen;omega) (mkeyF (s:=wK) (by decide)) funH
 refine ⟨w5,[],[],hr5,Own.start _ _, ?_⟩
 have hW5:=below_set hW4 (show W.heap.size<=b1 by omega) hW4.size hg5 (p8 _ _ _ hr5)
 have hm5':MapF w5 b1:=⟨hm5⟩
 exact z8 [] (.map (some b1)) λw6 hO6=>⟨b1,rfl,by omega,hm5'.kept (hO6.below.block b1 hm5'.lt),hW5.trans (hO6.below.mono hW5.size)⟩
theorem idx_mem (c:UInt8):∀ l:YL,decide (0<=Lib.indexByte l c)=decide (c∈l)
 | []=>rfl
 |b::l=>by
  have h1:=Lib.indexByte_ge l c
  have ih:=idx_mem c l
  rw [decide_eq_decide] at ih ⊢
  rw [Lib.indexByte,List.mem_cons]
  by_cases h:b=c
  ·subst h;simp
  ·have hne:¬ c=b:=λe=>h e.symm
   rw [if_neg (by simpa using h)]
   by_cases h2:Lib.indexByte l c= -1
   ·rw [if_pos (by simpa using h2)]
    constructor
    ·intro q;omega
    ·rintro (q|q)
     ·exact absurd q hne
     ·have:=ih.2 q;omega
   ·rw [if_neg (by simpa using h2)]
    constructor
    ·intro q;exact .inr (ih.1 Om)
    ·intro q;omega
theorem mCont_any (t:YL)(w:World):YC 185 #[.string (mkS t),.string ⟨#[32]⟩] w (YR (.bool (decide (32∈t))) w):=
 (Tryz.strings_Contains_one (mkS t) 32 w).mono λe w' ⟨he,hw⟩=>⟨by rw [he,mk_data,idx_mem],hw▸Below.refl _ _⟩
theorem mSplit_any (p:YL)(W:World)(hp:p.length<=1048576):YC 93 #[.string (mkS p)] W (YR (.tuple #[.string (mkS (kB p)),.string (mkS (kJ p)),.bool (pV p)]) W):=by
 have hb:=body_le p
 have cS:∀ w,YC 59 #[.string (mkS p),.string ⟨#[10]⟩] w (YR (.tuple #[.string (mkS (bC p)),.bool (pV p)]) w):=λw=>by
  have h:=qSuf_any p w Om
  rw [trim_body,suf_end] at h;exact h
 have cC:∀ w,YC 143 #[.string (mkS (bC p)),.string ⟨#[32]⟩] w (YR (.tuple #[.string (mkS (kB p)),.string (mkS (kJ p)),.bool (zA 32 (bC p)).2.2]) w):=λw=>vP (bC p) 32 w Om
 generalize (zA 32 (bC p)).2.2=z at*
 exact zF Tryz.func93 (z7 (v:= .tuple #[.string (mkS (bC p)),.bool (pV p)]) [] (λw hO=>cS w) (z7 (v:= .tuple #[.string (mkS (kB p)),.string (mkS (kJ p)),.bool z]) [] (λw hO=>cC w) (qT [] (.string (mkS (kB p))) (.string (mkS (kJ p))) (.bool (pV p)) λw hO=>⟨rfl,hO.below⟩)))
theorem word_le (p:YL):(kB p).length<=p.length/\(kJ p).length<=p.length:=by
 have h1:=wU 32 (bC p)
 have h2:=body_le p
 unfold kB kJ
 omega
abbrev mvL (b:Nat)(x:Mv)(p h:Value):Blk:=⟨b, #[.string (mkS x.rec'.name),YI x.rec'.maj,YI x.rec'.min,YI x.rec'.pat,.string (mkS x.rec'.pre),.string (mkS x.rec'.bld),.slice x.rec'.nA x.rec'.needs.length x.rec'.nc,.slice x.rec'.bA x.rec'.bars.length x.rec'.bc,.slice x.rec'.fA x.rec'.fts.length x.rec'.fc,p,h],44⟩
def AddR (mb:Nat)(x:Mv)(o1 o2 o3:List Blk)(ok:Bool)(m:Mt)(W:World)(e:Ending)(w':World):Prop:=∃ x' o2' o3',e= .returned (.bool ok)/\x'.mt=m/\MnO x' o1 o2' o3'/\Own ((mvB mb x::(o1++(o2++o3))).map Blk.b) W w' (mvB mb x'::(o1++(o2'++o3')))
theorem addPin_any (mb:Nat)(x:Mv)(s:YL)(o1 o2 o3:List Blk)(W:World)(hM:MnO x o1 o2 o3)(hO:Own ((mvB mb x::(o1++(o2++o3))).map Blk.b) W W (mvB mb x::(o1++(o2++o3))))(hs:s.length<=1048576)(hn:x.pins.length<=1000000):YC 141 #[.pointer (some ⟨mb,0,none⟩),.string (mkS s)] W (AddR mb x o1 o2 o3 (pinOk x.mt s) (addP x.mt s) W):=by
 have cC:∀ w,YC 143 #[.string (mkS s),.string ⟨#[32]⟩] w (YR (.tuple #[.string (mkS (zA 32 s).1),.string (mkS (zA 32 s).2.1),.bool (zA 32 s).2.2]) w):=λw=>vP s 32 w Om
 have hP:pinOk x.mt s=(decide ((zA 32 s).1≠[]) && decide ((zA 32 s).2.1≠[]) && !decide (32∈(zA 32 s).2.1) && decide (x.holds=[])):=rfl
 have hA:addP x.mt s=⟨x.rec'.rt,x.pins++[⟨(zA 32 s).1,(zA 32 s).2.1⟩],x.holds⟩:=rfl
 rw [hP,hA]
 generalize (zA 32 s).1=c1 at*
 generalize (zA 32 s).2.1=c2 at*
 generalize (zA 32 s).2.2=c3 at*
 refine kQ hO Tryz.func141 (z7 (v:= .tuple #[.string (mkS c1),.string (mkS c2),.bool c3]) [] (λw hO=>cC w) (jT [0] 1 57 #[.string (mkS c1),.string (mkS c2)] λb=> ?_))
 refine x_app (m:=1) (cp:=1) [] [⟨b, #[.string (mkS c1),.string (mkS c2)],57⟩] o2 (mvB mb x::(o1++o3)) 0 (⟨b, #[.string (mkS c1),.string (mkS c2)],57⟩::mvB mb x::(o1++(o2++o3))) (λw hO=>x2 [] hO λp=>by
  simp only [List.countP_append,List.countP_cons,List.countP_nil,List.cons_append,List.nil_append];omega) hM.pin Om λv' ob' h=> ?_
 obtain ⟨A',c',rfl⟩:=h.form
 refine gU 25 [] (Zp mb 9) (Zp mb 9) rfl (fZ ([⟨b, #[.string (mkS c1),.string (mkS c2)],57⟩]++ob'++(mvB mb x::(o1++o3))) (mvB mb x::(o1++(ob'++o3))) (λw hO=>x2 [⟨b, #[.string (mkS c1),.string (mkS c2)],57⟩] hO λp=>by
  simp only [List.countP_append,List.countP_cons,List.countP_nil,List.cons_append,List.nil_append];omega) ?_)
 have hl:(x.pins++[(⟨c1,c2⟩:Pn)]).length=x.pins.length+1:=by simp
 have hrd:mvB mb {x with pA:=A',pc:=c',pins:=x.pins++[⟨c1,c2⟩]}=mvL mb x (.slice A' (x.pins.length+1) c') (.slice x.hA x.holds.length x.hc):=by
  unfold mvB mvL;simp only [hl]
 have hK:∀ (z:Bool) (w:World),z=(decide (c1≠[]) && decide (c2≠[]) && !decide (32∈c2) && decide (x.holds=[]))->Own ((mvB mb x::(o1++(o2++o3))).map Blk.b) W w (mvL mb x (.slice A' (x.pins.length+1) c') (.slice x.hA x.holds.length x.hc)::(o1++(ob'++o3)))->AddR mb x o1 o2 o3 (decide (c1≠[]) && decide (c2≠[]) && !decide (32∈c2) && decide (x.holds=[])) ⟨x.rec'.rt,x.pins++[⟨c1,c2⟩],x.holds⟩ W (.returned (.bool z)) w:=λz w hz hO=>
  ⟨{x with pA:=A',pc:=c',pins:=x.pins++[⟨c1,c2⟩]},ob',o3,by rw [hz],rfl,⟨hM.rc,(by
   show Sl 57 2 (.slice A' (x.pins++[(⟨c1,c2⟩:Pn)]).length c') (x.pins++[(⟨c1,c2⟩:Pn)]).length ((x.pins++[(⟨c1,c2⟩:Pn)]).flatMap pmC) ob'
   rw [hl,List.flatMap_append,List.flatMap_singleton];exact h),hM.hold⟩,by rw [hrd];exact hO⟩
 refine vJ 27 [0] c1 [] (λh1=> ?_) (λh1=> ?_)
 ·exact z8 [] Z5 λw hO=>hK false w (by simp [h1]) (hO.past 0 (mvL mb x (.slice A' (x.pins.length+1) c') (.slice x.hA x.holds.length x.hc)::(o1++(ob'++o3))))
 refine vJ 30 [] c2 [] (λh2=> ?_) (λh2=> ?_)
 ·exact z8 [] Z5 λw hO=>hK false w (by simp [h2]) (hO.past 0 (mvL mb x (.slice A' (x.pins.length+1) c') (.slice x.hA x.holds.length x.hc)::(o1++(ob'++o3))))
 refine z7 (v:= .bool (decide (32∈c2))) [] (λw hO=>mCont_any c2 w) (bO 34 (32∈c2) (λh3=> ?_) (λh3=> ?_))
 ·exact z8 [] Z5 λw hO=>hK false w (by simp [h3]) (hO.past 0 (mvL mb x (.slice A' (x.pins.length+1) c') (.slice x.hA x.holds.length x.hc)::(o1++(ob'++o3))))
 refine zG 43 [0] ((x.holds.length:Int)=0) (λh4=> ?_) (λh4=> ?_)
 ·have h5:x.holds=[]:=List.length_eq_zero_iff.1 Om
  exact z8 [] Z4 λw hO=>hK true w (by simp [h1,h2,h3,h5]) (hO.past 0 (mvL mb x (.slice A' (x.pins.length+1) c') (.slice x.hA x.holds.length x.hc)::(o1++(ob'++o3))))
 ·have h5:¬ x.holds=[]:=λe=>h4 (by rw [e];rfl)
  exact z8 [] Z5 λw hO=>hK false w (by simp [h5]) (hO.past 0 (mvL mb x (.slice A' (x.pins.length+1) c') (.slice x.hA x.holds.length x.hc)::(o1++(ob'++o3))))
theorem addHold_any (mb:Nat)(x:Mv)(s:YL)(o1 o2 o3:List Blk)(W:World)(hM:MnO x o1 o2 o3)(hO:Own ((mvB mb x::(o1++(o2++o3))).map Blk.b) W W (mvB mb x::(o1++(o2++o3))))(hs:s.length<=1048576)(hn:x.holds.length<=1000000):YC 142 #[.pointer (some ⟨mb,0,none⟩),.string (mkS s)] W (AddR mb x o1 o2 o3 (nU s) (addHo x.mt s) W):=by
 have cC:∀ w,YC 143 #[.string (mkS s),.string ⟨#[32]⟩] w (YR (.tuple #[.string (mkS (zA 32 s).1),.string (mkS (zA 32 s).2.1),.bool (zA 32 s).2.2]) w):=λw=>vP s 32 w Om
 have hP:nU s=(decide ((zA 32 s).1≠[]) && decide ((zA 32 s).2.1≠[])):=rfl
 have hA:addHo x.mt s=⟨x.rec'.rt,x.pins,x.holds++[⟨(zA 32 s).1,(zA 32 s).2.1⟩]⟩:=rfl
 rw [hP,hA]
 generalize (zA 32 s).1=c1 at*
 generalize (zA 32 s).2.1=c2 at*
 generalize (zA 32 s).2.2=c3 at*
 refine kQ hO Tryz.func142 (z7 (v:= .tuple #[.string (mkS c1),.string (mkS c2),.bool c3]) [] (λw hO=>cC w) (jT [0] 1 59 #[.string (mkS c1),.string (mkS c2)] λb=> ?_))
 refine x_app (m:=1) (cp:=1) [] [⟨b, #[.string (mkS c1),.string (mkS c2)],59⟩] o3 (mvB mb x::(o1++o2)) 0 (⟨b, #[.string (mkS c1),.string (mkS c2)],59⟩::mvB mb x::(o1++(o2++o3))) (λw hO=>x2 [] hO λp=>by
  simp only [List.countP_append,List.countP_cons,List.countP_nil,List.cons_append,List.nil_append];omega) hM.hold Om λv' ob' h=> ?_
 obtain ⟨A',c',rfl⟩:=h.form
 refine gU 25 [] (Zp mb 10) (Zp mb 10) rfl (fZ ([⟨b, #[.string (mkS c1),.string (mkS c2)],59⟩]++ob'++(mvB mb x::(o1++o2))) (mvB mb x::(o1++(o2++ob'))) (λw hO=>x2 [⟨b, #[.string (mkS c1),.string (mkS c2)],59⟩] hO λp=>by
  simp only [List.countP_append,List.countP_cons,List.countP_nil,List.cons_append,List.nil_append];omega) ?_)
 have hl:(x.holds++[(⟨c1,c2⟩:Ho)]).length=x.holds.length+1:=by simp
 have hrd:mvB mb {x with hA:=A',hc:=c',holds:=x.holds++[⟨c1,c2⟩]}=mvL mb x (.slice x.pA x.pins.length x.pc) (.slice A' (x.holds.length+1) c'):=by
  unfold mvB mvL;simp only [hl]
 have hK:∀ (z:Bool) (w:World),z=(decide (c1≠[]) && decide (c2≠[]))->Own ((mvB mb x::(o1++(o2++o3))).map Blk.b) W w (mvL mb x (.slice x.pA x.pins.length x.pc) (.slice A' (x.holds.length+1) c')::(o1++(o2++ob')))->AddR mb x o1 o2 o3 (decide (c1≠[]) && decide (c2≠[])) ⟨x.rec'.rt,x.pins,x.holds++[⟨c1,c2⟩]⟩ W (.returned (.bool z)) w:=λz w hz hO=>
  ⟨{x with hA:=A',hc:=c',holds:=x.holds++[⟨c1,c2⟩]},o2,ob',by rw [hz],rfl,⟨hM.rc,hM.pin,(by
   show Sl 59 2 (.slice A' (x.holds++[(⟨c1,c2⟩:Ho)]).length c') (x.holds++[(⟨c1,c2⟩:Ho)]).length ((x.holds++[(⟨c1,c2⟩:Ho)]).flatMap hoC) ob'
   rw [hl,List.flatMap_append,List.flatMap_singleton];exact h)⟩,by rw [hrd];exact hO⟩
 refine vJ 27 [0] c1 [] (λh1=> ?_) (λh1=> ?_)
 ·exact z8 [] Z5 λw hO=>hK false w (by simp [h1]) (hO.past 0 (mvL mb x (.slice x.pA x.pins.length x.pc) (.slice A' (x.holds.length+1) c')::(o1++(o2++ob'))))
 refine vJ 30 [] c2 [] (λh2=> ?_) (λh2=> ?_)
 ·exact z8 [] Z5 λw hO=>hK false w (by simp [h2]) (hO.past 0 (mvL mb x (.slice x.pA x.pins.length x.pc) (.slice A' (x.holds.length+1) c')::(o1++(o2++ob'))))
 ·exact z8 [] Z4 λw hO=>hK true w (by simp [h1,h2]) (hO.past 0 (mvL mb x (.slice x.pA x.pins.length x.pc) (.slice A' (x.holds.length+1) c')::(o1++(o2++ob'))))
theorem isTl_of (p:YL):(kB p=fD/\jM p=true/\fnOf (kB p)=fnP)\/(kB p=wK/\jM p=true/\fnOf (kB p)=fnH)\/(¬ kB p=fD∧¬ kB p=wK/\jM p=false/\fnOf (kB p)= .nilFunc):=by
 unfold jM fnOf
 by_cases h1:kB p=fD
 ·exact .inl ⟨h1,by rw [decide_eq_true h1];rfl,if_pos h1⟩
 by_cases h2:kB p=wK
 ·exact .inr (.inl ⟨h2,by rw [decide_eq_true h2,Bool.or_true],by rw [if_neg h1,if_pos h2]⟩)
 ·exact .inr (.inr ⟨h1,h2,by rw [decide_eq_false h1,decide_eq_false h2];rfl,by rw [if_neg h1,if_neg h2]⟩)
theorem mTl_any (p:YL)(c b:Nat)(W:World)(hp:p.length<=1048576)(hc:W.heap[c]?=some (.cells #[.map (some b)] 147))(hm:MapF W b):YC 92 #[.string (mkS p),.pointer (some ⟨c,0,none⟩)] W (YR (.bool (jM p)) W):=by
 have hcl:c<W.heap.size:=(Array.getElem?_eq_some_iff.1 hc).1
 have hw:=(word_le p).1
 refine zF Tryz.func92 (z7 (v:= .tuple #[.string (mkS (kB p)),.string (mkS (kJ p)),.bool (pV p)]) [] (λw hO=>mSplit_any p w hp) ?_)
 refine zL 13 [] 147 c 0 (.map (some b)) (λw hO=>yQ Kr ((hO.below.block c hcl).trans hc)) (x_rd [] (Instr.lookup 147 (.map (some b)) (.string (mkS (kB p))) false) (fnOf (kB p)) (λw hO=>(hm.kept (hO.below.block b hm.lt)).look Om) ?_)
 rcases isTl_of p with ⟨_,e1,e2⟩|⟨_,e1,e2⟩|⟨_,_,e1,e2⟩
 ·rw [e1,e2]
  exact bN 16 [] Z4 (λw=>Kr) (z8 [] Z4 λw hO=>⟨rfl,hO.below⟩)
 ·rw [e1,e2]
  exact bN 16 [] Z4 (λw=>Kr) (z8 [] Z4 λw hO=>⟨rfl,hO.below⟩)
 ·rw [e1,e2]
  exact bN 16 [] Z5 (λw=>Kr) (z8 [] Z5 λw hO=>⟨rfl,hO.below⟩)
theorem ahead_find:∀ l:List YL,yB l=l.findIdx jM
 | []=>rfl
 |p::r=>by rw [yB,List.findIdx_cons,ahead_find r];cases jM p<;>rfl
theorem ahead_at {l:List YL}{i:Nat}(hi:i<l.length)(h0:∀ y∈l.take i,jM y=false)(h1:jM l[i]=true):yB l=i:=by
 rw [ahead_find]
 refine (List.findIdx_eq hi).2 ⟨h1,λj hj=>h0 _ ?_⟩
 exact List.mem_take_iff_getElem.2 ⟨j,by omega,rfl⟩
theorem ahead_all {l:List YL}(h:∀ y∈l,jM y=false):yB l=l.length:=by
 rw [ahead_find];exact List.findIdx_eq_length_of_false h
def behI (l:List YL):Int:=if yB l<l.length then (yB l:Int) else-1
theorem mIdx_any (A:Option Addr)(cap:Nat)(ls:List YL)(c b:Nat)(W:World)(hx:Reads zW W W.heap.size A ls)(hl:∀ x∈ls,x.length<=1048576)(hn:ls.length<=1048576)(hc:W.heap[c]?=some (.cells #[.map (some b)] 147))(hm:MapF W b):YC 91 #[.slice A ls.length cap,.func (.func 92) #[] #[.pointer (some ⟨c,0,none⟩)]] W (YR (YI (behI ls)) W):=by
 have hcl:c<W.heap.size:=(Array.getElem?_eq_some_iff.1 hc).1
 obtain ⟨z,hz⟩:∃ z,behI ls=z:=⟨_,rfl⟩
 have hno:(∀ y∈ls,jM y=false)->z= -1:=λh=>by rw [←hz];unfold behI;rw [ahead_all h,if_neg (Nat.lt_irrefl _)]
 have hat:∀ i (hi:i<ls.length),(∀ y∈ls.take i,jM y=false)->jM ls[i]=true->z=(i:Int):=λi hi h0 h1=>by rw [←hz];unfold behI;rw [ahead_at hi h0 h1,if_pos hi]
 rw [hz]
 refine zF Tryz.func91 (zX (α:=Nat) (λi=>[(0,.slice A ls.length cap),(1,.func (.func 92) #[] #[Zp c 0]),(7,YI (ls.length:Int)),(8,YI (i:Int))]) (λ_=>[]) (λi m=>(i<=ls.length∧∀ y∈ls.take i,jM y=false)/\m=ls.length-i) 0 ls.length [] ⟨⟨Nat.zero_le _,λy h=>by simp at h⟩,rfl⟩ ?_)
 rintro i mm g kk ⟨⟨hi,hno'⟩,hmm⟩ nx hkk
 subst hkk
 refine zG 9 [] ((i:Int)<(ls.length:Int)) (λh9=> ?_) (λh9=> ?_)
 rotate_left
 ·refine z8 [] (YI (-1)) λw hO=>⟨?_,hO.below⟩
  rw [List.take_of_length_le (show ls.length<=i by omega)] at hno'
  rw [hno hno']
 have hj:i<ls.length:=by omega
 obtain ⟨eb,eo,hA,hel⟩:=hx.elem zU i hj
 have hst:jM ls[i]=false→∀ y∈ls.take (i+1),jM y=false:=λh y hy=>by
  rw [List.take_succ_eq_append_getElem hj] at hy
  rcases List.mem_append.1 hy with hy|hy
  ·exact hno' y hy
  ·rw [List.mem_singleton.1 hy];exact h
 have hat:=hat i hj hno'
 have hel0:∀ w,YB W w->(loadVar 9 ⟨eb,eo+i*1+0,none⟩).run YP w= .ok (.string (mkS ls[i])) w:=λw hw=>hel w hw _ 0 _ Kr
 have hsl:=hl _ (List.getElem_mem hj)
 generalize ls[i]=u at*
 have hcf:∀ w,YB W w->YC 92 #[.string (mkS u),.pointer (some ⟨c,0,none⟩)] w (YR (.bool (jM u)) w):=λw hw=>mTl_any u c b w hsl ((hw.block c hcl).trans hc) (hm.kept (hw.block b hm.lt))
 refine zO 14 [] hA ls.length cap i 1 hj (zL 15 [] 9 eb (eo+i*1+0) (.string (mkS u)) (λw hO=>hel0 w hO.below) (z7 (v:= .bool (jM u)) [] (λw hO=>hcf w hO.below) (zS 16 (jM u) (λh16=> ?_) (λh16=> ?_))))
 ·exact z8 [] (YI (i:Int)) λw hO=>⟨by rw [hat h16],hO.below⟩
 ·exact x_i 18 [] ((i+1:Nat):Int) (nx (i+1) (ls.length-(i+1)) [] Om ⟨⟨hj,hst h16⟩,rfl⟩ Kr Kr)
end
section
structure BndN (n:Nt):Prop where
 wh:GdM n.wh
 opt:n.opt.length<=5000
 any:∀ u∈n.any,u.name.length<=5000/\GdR u.rng/\u.fs.length<=5000∧∀ t∈u.fs,t.length<=5000
structure fY (x:Rt):Prop where
 name:x.name.length<=5000
 pre:x.ver.pre.length<=1048576
 bld:x.ver.build.length<=1048576
 needs:∀ n∈x.needs,BndN n
 bars:∀ b∈x.bars,b.name.length<=5000/\GdR b.rng/\GdM b.wh
 fts:∀ f∈x.fts,f.name.length<=5000/\f.of.length<=5000∧∀ t∈f.of,t.length<=5000
theorem bnd_nil:fY jI:=⟨Nat.zero_le _,(by decide),(by decide),(λn h=>by cases h),(λn h=>by cases h),(λn h=>by cases h)⟩
theorem take_kind {x y:Rt}{k kk:Nat}{s:YL}:∀ {L:List La},(∀ l∈L,1<=l.kind)->k6 x k s L=some (y,kk)->1<=kk
 | [],_,e=>by cases e
 |l::r,hL,e=>by
  rw [k6] at e
  split at e
  ·split at e
   ·simp only [Option.some.injEq,Prod.mk.injEq] at e
    rw [←e.2];exact hL l (List.mem_cons_self ..)
   ·cases e
  ·exact take_kind (λl hl=>hL l (List.mem_cons_of_mem _ hl)) e
theorem lays_kind:∀ l∈lays,1<=l.kind:=by decide
theorem resA_kind:∀ (f:Nat) (x:Rt) (k i:Nat) (r:YL),(j8 f x k i r).1=0->r.length<=f->(1<=k\/r≠[])->1<=(j8 f x k i r).2.2
 |0,x,k,i,r,_,hr,h=>by
  rcases h with h|h
  ·exact h
  ·exact absurd (List.eq_nil_of_length_eq_zero (Nat.le_zero.1 hr)) h
 |f+1,x,k,i,r,h0,hr,h=>by
  rw [j8] at h0 ⊢
  by_cases hn:r=[]
  ·rw [if_pos hn]
   rcases h with h|h
   ·exact h
   ·exact absurd hn h
  ·rw [if_neg hn] at h0 ⊢
   have hl:=pO 10 r
   cases hq:(zA 10 r).2.2 with
   |false=>rw [hq,if_neg Bool.false_ne_true] at h0;exact absurd h0 (by show ((i+1:Nat):Int)≠0;omega)
   |true=>
    rw [hq,if_pos rfl] at h0 hl
    rw [if_pos rfl]
    cases ht:k6 x k (zA 10 r).1 lays with
    |none=>rw [ht] at h0;exact absurd h0 (by show ((i+1:Nat):Int)≠0;omega)
    |some yk=>
     obtain ⟨y,kk⟩:=yk
     rw [ht] at h0
     exact resA_kind f y kk (i+1) _ h0 Om (.inl (take_kind lays_kind ht))
theorem resA_ge:∀ (f:Nat) (x:Rt) (k i:Nat) (r:YL),0<=(j8 f x k i r).1
 |0,x,k,i,r=>Int.le_refl _
 |f+1,x,k,i,r=>by
  rw [j8]
  split
  ·exact Int.le_refl _
  ·split
   ·split
    ·exact resA_ge f _ _ _ _
    ·exact Int.natCast_nonneg _
   ·exact Int.natCast_nonneg _
theorem parse_is {s:YL}(hs:s.length<=4096):gG s=if j9 s≠0 then (jI,2,j9 s) else if (zM (recA s)).1≠0 then (jI,(zM (recA s)).1,0) else (recA s,0,0):=by
 unfold gG
 rw [if_neg Om]
 by_cases h:s=[]
 ·subst h;rfl
 have hr:=resA_read s.length jI 0 0 s inv_nil (Nat.le_refl _)
 dsimp only at hr
 have hb:j9 s=(j8 s.length jI 0 0 s).1:=by unfold j9;rw [if_neg h]
 have e0:stg 0=0:=rfl
 rw [e0] at hr
 by_cases hz:j9 s=0
 ·obtain ⟨q1,q2,q3⟩:=hr.1 (hb▸hz)
  rw [if_neg (λq=>q hz)]
  rw [q2]
  dsimp only
  rw [if_pos q3]
  unfold doneS
  dsimp only
  have hk:(j8 s.length jI 0 0 s).2.2≠0:=by
   have:=resA_kind s.length jI 0 0 s (hb▸hz) (Nat.le_refl _) (.inr h);omega
  rw [if_neg (λq=>hk ((stg_zero q1.le).1 q))]
  rfl
 ·rw [if_pos hz]
  rcases hr.2 (hb▸hz) with ⟨q1,q2⟩|⟨⟨y,q1⟩,q2,q3⟩
  ·rw [q1];dsimp only;rw [←q2,hb]
  ·rw [q1];dsimp only;rw [if_neg q2,hb,q3];simp
end
section
set_option linter.unnecessarySimpa false
theorem RdQ.nso {x:Rv}{o1 oa og oi o4 o7 o8:List Blk}(h:RdQ x o1 oa og oi o4 o7 o8):NsO x.nA x.nc x.needs o1 (oi++(oa++og)):=by
 refine ⟨h.needs.top,λy hy=> ?_⟩
 rcases h.needs.split with ⟨e,_⟩|⟨ini,n,e,hi,hw,hf⟩
 ·rw [e] at hy;cases hy
 ·rw [e] at hy
  rcases List.mem_append.1 hy with hy|hy
  ·obtain ⟨o,q1,q2⟩:=hi y hy
   exact ⟨o,q1,λb hb=>List.mem_append_left _ (q2 b hb)⟩
  ·rw [List.mem_singleton.1 hy]
   exact ⟨oa++og,⟨oa,og,rfl,hw,hf⟩,λb hb=>List.mem_append_right _ hb⟩
theorem rec_inn {x:Rv}{o1 o2 o4 o7 o8 L:List Blk}{M:List Nat}{W w:World}(h1:NsO x.nA x.nc x.needs o1 o2)(h4:Sl 77 3 (.slice x.bA x.bars.length x.bc) x.bars.length (x.bars.flatMap bvC) o4)(h7:FtO x.fA x.fc x.fts o7 o8)(hO:Own M W w L)(s1:∀ b∈o1,b∈L)(s2:∀ b∈o2,b∈L)(s4:∀ b∈o4,b∈L)(s7:∀ b∈o7,b∈L)(s8:∀ b∈o8,b∈L)(hB:fY x.rt)(hF:FewR x.rt 4096):RcIn w w.heap.size x:=by
 obtain ⟨r1,r2⟩:=h1.reads hO s1 s2
 have hN:∀ n∈x.needs,BndN n.nt:=λn hn=>hB.needs n.nt (List.mem_map.2 ⟨n,hn,rfl⟩)
 have hA:∀ n∈x.needs,∀ u∈n.any,u.name.length<=5000/\GdR u.rng/\u.fs.length<=5000∧∀ t∈u.fs,t.length<=5000:=λn hn u hu=>(hN n hn).any u.wt (List.mem_map.2 ⟨u,hu,rfl⟩)
 have hBr:∀ b∈x.bars,b.name.length<=5000/\GdR b.rng/\GdM b.wh:=λb hb=>hB.bars b.bt (List.mem_map.2 ⟨b,hb,rfl⟩)
 have hFt:∀ f∈x.fts,f.name.length<=5000/\f.of.length<=5000∧∀ t∈f.of,t.length<=5000:=λf hf=>hB.fts f.ft (List.mem_map.2 ⟨f,hf,rfl⟩)
 have l1:x.needs.length<=4096:=by have:=hF.n;unfold Rv.rt at this;simpa using this
 have l2:x.bars.length<=4096:=by have:=hF.b;unfold Rv.rt at this;simpa using this
 have l3:x.fts.length<=4096:=by have:=hF.f;simp only [Rv.rt,yC] at this;simpa using this
 refine ⟨r1,r2,λn hn u hu=> ?_,Sl.reads h4 rfl hO s4,⟨Sl.reads h7.top rfl hO s7,λf hf=> ?_,by omega,λf hf=>(hFt f hf).2.1,λf hf=>by have:=(hFt f hf).1;omega,λf hf t ht=>by have:=(hFt f hf).2.2 t ht;omega⟩,by omega,λn hn=> ?_,λn hn u hu=>(hA n hn u hu).2.2.1,by omega,⟨by have:=hB.name;show x.name.length<=_;exact Nat.le_trans this (by decide),hB.pre,hB.bld⟩,λn hn=>⟨gqM_of (hN n hn).wh,Nat.le_trans (hN n hn).opt (by decide)⟩,λn hn u hu=>⟨by have:=(hA n hn u hu).1;omega,dX (hA n hn u hu).2.1,λt ht=>by have:=(hA n hn u hu).2.2.2 t ht;omega⟩,λb hb=>by have:=hBr b hb;exact ⟨Nat.le_trans this.1 (by decide),dX this.2.1,gqM_of this.2.2⟩⟩
 ·obtain ⟨o,⟨⟨p1,p2,rfl,hp,he⟩⟩,ho⟩:=h1.each n hn
  obtain ⟨o',q1,q2⟩:=he u hu
  exact SlT.reads q1 rfl hO λb hb=>s2 b (ho b (List.mem_append_right _ (q2 b hb)))
 ·obtain ⟨o,ho,hs⟩:=h7.each f hf
  exact SlT.reads ho rfl hO λb hb=>s8 b (hs b hb)
 ·have:=hF.a n.nt (List.mem_map.2 ⟨n,hn,rfl⟩)
  unfold Nv.nt at this
  simp only [List.length_map] at this
  omega
theorem fin_cell3 {M:List Nat}{P:Program}{n:Nat}{W:World}{L:List Blk}{f:Nat->Value}{fn:Func}{R:Ending->World->Prop}{p u t:Tmp}{ty:TypeId}(i:Nat)(x:Blk)(v v' v2:Value)(hres:fn.results= #[.cell p ty,.tmp u,.tmp t])(hL:L[i]?=some x)(hp:ev n f (.tmp p)= .pointer (some ⟨x.b,0,none⟩))(hv:yS P ty x.cs 0=some v)(hv':ev n f (.tmp u)=v')(hv2:ev n f (.tmp t)=v2)
  (hR:∀ w,Own M W w L->R (.returned (.tuple #[v,v',v2])) w):Fin M n W (bodyPost P fn R) .ret L f:=⟨λw hO=>by
 refine bodyPost_ret (v:= .tuple #[v,v',v2]) ?_ rfl (hR w hO)
 have e:(Fr n f).tmps.getD p undef= .pointer (some ⟨x.b,0,none⟩):=(kK n f p).trans hp
 have hr:=yQ hv (hO.get hL)
 have e':(Fr n f).tmps[p]?.getD undef= .pointer (some ⟨x.b,0,none⟩):=by simpa using e
 have e2:(Fr n f).tmps.getD u undef=v':=(kK n f u).trans hv'
 have e2':(Fr n f).tmps[u]?.getD undef=v':=by simpa using e2
 have e3:(Fr n f).tmps.getD t undef=v2:=(kK n f t).trans hv2
 have e3':(Fr n f).tmps[t]?.getD undef=v2:=by simpa using e3
 simp [results,hres,e',e2',e3',asAddr,hr]⟩
section
variable {M:List Nat}{P:Program}{n:Nat}{W:World}{Q:Exit->Act->World->Prop}{c:Xc}
theorem qA {fn:Func}{R:Ending->World->Prop}(h:List Nat)(i:Nat)(v v' v2:Value)(hR:∀ w,Own M W w (xgo P n nS h c).L->R (.returned (.tuple #[v,v',v2])) w)(hkt:(xgl P n nS h c,((xgo P n nS h c).top,(xgo P n nS h c).k,fn.results,(xgo P n nS h c).L[i]?,ev n (xgo P n nS h c).f (.tmp (xRt fn 0)),yS P (xRy fn 0) (qG (xgo P n nS h c).L i).cs 0,ev n (xgo P n nS h c).f (.tmp (xRt fn 1)),ev n (xgo P n nS h c).f (.tmp (xRt fn 2))))=(xgr P n nS h c,(.fin .ret,[], #[.cell (xRt fn 0) (xRy fn 0),.tmp (xRt fn 1),.tmp (xRt fn 2)],some (qG (xgo P n nS h c).L i),.pointer (some ⟨(qG (xgo P n nS h c).L i).b,0,none⟩),some v,v',v2)):=by kernel_rfl):zE M P n W (bodyPost P fn R) c:=by
 obtain ⟨hk,ht⟩:=Prod.mk.inj hkt
 refine zK h c hk ?_
 generalize xgo P n nS h c=d at hR ht ⊢
 obtain ⟨top,kk,L,f⟩:=d
 simp only [Prod.mk.injEq] at ht
 obtain ⟨rfl,rfl,e3,e4,e5,e6,e7,e8⟩:=ht
 exact ⟨λ_=>fin_cell3 i _ v v' v2 e3 e4 e5 e6 e7 e8 hR⟩
end
structure ParB (s:YL)(W:World)(e:Ending)(w':World):Prop where
 ex:∃ x ob',e= .returned (.tuple #[rvV x,YI (gG s).2.1,YI (gG s).2.2])/\x.rt=(gG s).1/\RecO x ob'/\fY x.rt/\FewR x.rt 4096/\Own [] W w' ob'
def rv0:Rv:=⟨[],0,0,0,[],[],none,0,[],none,0,[],none,0,[]⟩
theorem rv0_rt:rv0.rt=jI:=rfl
theorem rec0:RecO rv0 []:=⟨⟨[],[],[],[],[],rfl,NsO.nil,Sl.nil _ _,FtO.nil⟩⟩
theorem few0:FewR jI 4096:=⟨Nat.zero_le _,Nat.zero_le _,Nat.zero_le _,(λn h=>by cases h)⟩
theorem par0 {s:YL}{W w:World}{z k:Int}(h:gG s=(jI,z,k))(hO:Own [] W w []):ParB s W (.returned (.tuple #[rvV rv0,YI z,YI k])) w:=
 ⟨rv0,[],by rw [h],by rw [h,rv0_rt],rec0,by rw [rv0_rt];exact bnd_nil,by rw [rv0_rt];exact few0,hO⟩
theorem rdq0:RdQ rv0 [] [] [] [] [] [] []:=⟨⟨Sl.nil _ _,.inl ⟨rfl,rfl,rfl⟩⟩,Sl.nil _ _,FtO.nil⟩
theorem qParse_any (s:YL)(W:World)(hs:s.length<=1048576)(hK:RecLib W)(hL:LyAt W)(hBn:s.length<=4096->j9 s=0->fY (recA s)):YC 11 #[.string (mkS s)] W (ParB s W):=by
 refine zF Tryz.func11 (zQ [] λb2=>zG 11 [] ((s.length:Int)>4096) (λh11=> ?_) (λh11=> ?_))
 ·refine qA [0] 0 (rvV rv0) (YI 3) (YI 0) λw hO=>par0 ?_ hO.no
  unfold gG;rw [if_pos Om]
 have hs4:s.length<=4096:=by omega
 have hread:=parse_is hs4
 have hcl:∀ w,YC 31 #[.string (mkS s)] w (YR (.string (mkS s)) w):=λw=>qZ s w Om
 refine zQ [] λb5=>z7 (v:= .string (mkS s)) [] (λw hO=>hcl w) (bN 15 [] (tkV b5) (λw=>Kr) ?_)
 refine kH (k:=30) (args:= #[.string (mkS s),tkV b5]) (Rr:=λv ob'=>∃ x' k',v=YI (j9 s)/\RdR b5 k' x' ob'/\(s≠[]->j9 s=0->x'.rt=recA s/\FewR x'.rt 4096)) [] (rdB rv0 0 b5::[rcB rv0 b2]) [rcB rv0 b2] [rdB rv0 0 b5] (λw hO=>hO.swap) (λw hO=> ?_) λv ob' ⟨x',k',q1,hR',hx⟩=> ?_
 ·have hb5:∀ k∈[rdB rv0 0 b5].map Blk.b,W.heap.size<=k:=λk hk=>by
   have h5:=hO.base (rdB rv0 0 b5) (by simp)
   rcases h5 with h5|h5
   ·rw [List.map_singleton,List.mem_singleton] at hk;rw [hk];exact h5
   ·cases h5
  refine (qRefused_any b5 rv0 s [rdB rv0 0 b5] w ⟨[],[],[],[],[],[],[],rfl,rdq0⟩ (Own.lentR hO) rv0_rt hs4 λw' hw'=> ?_).mono λe w' ⟨x',k',ob',q1,q2,q3,q4⟩=>⟨_,ob',q1,⟨x',k',rfl,q2,q4⟩,q3⟩
  have hb:YB W w':=hO.below.trans (hw'.belowB hb5 hO.below.size)
  exact ⟨hK.lib.on hb,hL.on hb⟩
 subst q1
 refine zG 18 [] (j9 s>0) (λh18=> ?_) (λh18=> ?_)
 ·refine qA [0] 0 (rvV rv0) (YI 2) (YI (j9 s)) λw hO=>par0 ?_ hO.no
  rw [hread,if_pos Om]
 have hge:0<=j9 s:=by
  unfold j9
  split
  ·omega
  ·exact resA_ge _ _ _ _ _
 have hz:j9 s=0:=by omega
 have hne:s≠[]:=λe=>by rw [e] at hz;exact absurd hz (by decide)
 obtain ⟨hrt,hF⟩:=hx hne hz
 have hB:fY x'.rt:=hrt▸hBn hs4 hz
 rw [if_neg (λq=>q hz),←hrt] at hread
 obtain ⟨o1,oa,og,oi,o4,o7,o8,rfl,hQ⟩:=hR'
 obtain ⟨T,hT⟩:∃ T,o1++zY oa og oi o4 o7 o8=T:=⟨_,rfl⟩
 have sub:∀ b,(b∈o1\/b∈oi++(oa++og)\/b∈o4\/b∈o7\/b∈o8)->b∈T:=λb hb=>by
  rw [←hT];unfold zY;simp only [List.mem_append] at hb ⊢;grind
 rw [hT]
 obtain ⟨c,hc⟩:∃ c,zM x'.rt=c:=⟨_,rfl⟩
 have hck:∀ w,Own [] W w T->YC 33 #[rvV x'] w (YR (.tuple #[YI c.1,YI c.2]) w):=λw hO=>hc▸tL x' w (rec_inn hQ.nso hQ.bars hQ.fts hO (λb hb=>sub b (.inl hb)) (λb hb=>sub b (.inr (.inl hb))) (λb hb=>sub b (.inr (.inr (.inl hb)))) (λb hb=>sub b (.inr (.inr (.inr (.inl hb))))) (λb hb=>sub b (.inr (.inr (.inr (.inr hb))))) hB hF) (hK.on hO.below)
 rw [hc] at hread
 refine z7 (v:= .tuple #[YI c.1,YI c.2]) [1] (λw hO=>hck w (hO.past 2 T)) (vK 28 [] (c.1=0) (λh28=> ?_) (λh28=> ?_))
 ·refine qA [1,0] 0 (rvV x') (YI 0) (YI 0) λw hO=> ?_
  rw [if_neg (λq=>q h28)] at hread
  refine ⟨x',o4++(o1++(oi++(oa++og)))++(o7++o8),by rw [hread],by rw [hread],⟨⟨o1,_,o4,o7,o8,rfl,hQ.nso,hQ.bars,hQ.fts⟩⟩,hB,hF,x2 [] (hO.past 2 T) λp=> ?_⟩
  rw [←hT]
  simp only [zY,List.countP_append,List.countP_cons,List.countP_nil,List.cons_append,List.nil_append];omega
 ·refine qA [0] 0 (rvV rv0) (YI c.1) (YI 0) λw hO=>par0 ?_ hO.no
  rw [hread,if_pos h28]
end
section
set_option linter.unnecessarySimpa false
theorem lnsP_cut:∀ (r p:YL),p++r≠[]->yL p r=(if (zA 10 r).2.2 then p++(zA 10 r).1++[10] else p++r)::(if (zA 10 r).2.2 then yL [] (zA 10 r).2.1 else [])
 | [],p,h=>by
  have:p≠[]:=by simpa using h
  rw [yL,if_neg this];simp [zA]
 |c::r,p,_=>by
  rw [yL]
  unfold zA
  by_cases hc:c=10
  ·subst hc;simp
  ·rw [if_neg hc,if_neg hc,lnsP_cut r (p++[c]) (by simp)]
   cases (zA 10 r).2.2<;>simp
theorem lns_step {r:YL}(h:r≠[]):yL [] r=lnH r::yL [] (lnR r):=by
 rw [lnsP_cut r [] (by simpa using h)]
 unfold lnH lnR
 cases (zA 10 r).2.2<;>simp [yL]
theorem lnH_le {r:YL}:(lnH r).length<=r.length:=by
 unfold lnH
 rcases ix_cut 10 r with ⟨c1,_,c3,_⟩|⟨c1,_⟩
 ·rw [if_pos c1,←c3,List.length_take];omega
 ·rw [c1,if_neg Bool.false_ne_true];exact Nat.le_refl _
theorem lns_all:∀ (n:Nat) (r:YL),r.length<=n->(yL [] r).length<=r.length∧∀ x∈yL [] r,x.length<=r.length/\x≠[]
 |0,r,h=>by
  obtain rfl:=List.eq_nil_of_length_eq_zero (Nat.le_zero.1 h)
  exact ⟨by simp [yL],λx hx=>by simp [yL] at hx⟩
 |n+1,r,h=>by
  by_cases h0:r=[]
  ·subst h0;exact ⟨by simp [yL],λx hx=>by simp [yL] at hx⟩
  ·have hl:=lnR_len h0
   obtain ⟨i1,i2⟩:=lns_all n (lnR r) Om
   rw [lns_step h0]
   refine ⟨by rw [List.length_cons];omega,λx hx=> ?_⟩
   rcases List.mem_cons.1 hx with rfl|hx
   ·refine ⟨lnH_le, ?_⟩
    unfold lnH
    split
    ·simp
    ·exact h0
   ·have:=i2 x hx;exact ⟨by omega,this.2⟩
def slsB (b:Nat)(v:Value):Blk:=⟨b, #[v],66⟩
noncomputable abbrev aRF:Code×Code:=findRF (Tryz.f95.body.getD .skip)
noncomputable abbrev aRg (i:Nat):Array Oper:=wY i (Tryz.f95.body.getD .skip)
noncomputable abbrev aAs:Oper:=(aRg 2).getD 0 default
noncomputable abbrev aO1:Oper:=(aRg 4).getD 0 default
noncomputable abbrev aO2:Oper:=(aRg 4).getD 1 default
theorem aBody_is:aRF.2= .block 1 (.region 3 (aRg 3) false):=by kernel_rfl
theorem aAssign_is:aRF.1= .region 2 #[aAs] false:=by kernel_rfl
theorem aEnd_is:aRg 4= #[aO1,aO2]:=by kernel_rfl
structure ColI (b2:Nat)(s r:YL)(L:List Blk):Prop where
 ex:∃ A c ls ob,L=slsB b2 (.slice A ls.length c)::ob/\SlT (.slice A ls.length c) ls ob/\ls++yL [] r=yL [] s/\r.length<=s.length
theorem out_rnd2 {M1:List Nat}{B:Nat}{r:YL}{rel:YL->List Blk->Prop}{relx:List Blk->Prop}{Wr:World}{id:Nat}:¬ LetsOut (Exit.inBlock id (rndQ M1 B r rel relx Wr)):=λ⟨_,_,h⟩=>h
theorem two_marks {P:Program}{n id:Nat}{f:Nat->Value}{o p:Oper}{u v:Value}{ds:List Deferred}{Q:Exit->Act->World->Prop}{w:World}(hw:zR #[o,p] n f o=true)(hr:(execOp (ev n f) o).run P w= .ok (.value u) w)(hw2:zR #[o,p] n (upd f o.dst u) p=true)(hr2:(execOp (ev n (upd f o.dst u)) p).run P w= .ok (.value v) w)
  (h:Q .normal {Fr n (upd (upd f o.dst u) p.dst v) with defers:=ds} w):(Code.region id #[o,p] false).wp P Q {Fr n f with defers:=ds} w:=by
 have hp:∀ (f:Nat->Value) (d:Option Tmp) (x:Value),({Fr n f with defers:=ds}:Act).put d x={Fr n (upd f d x) with defers:=ds}:=λf d x=>by
  have:=gO n f d x
  unfold Act.put at this ⊢
  cases d with
  |none=>exact congrArg (λa:Act=>({a with defers:=ds}:Act)) this
  |some i=>exact congrArg (λa:Act=>({a with defers:=ds}:Act)) this
 refine wp_region_list ?_
 show wpList P #[o,p] Q [o,p] {Fr n f with defers:=ds} w
 unfold wpList
 have hwt:Region.wanted o (yielded #[o,p] ({Fr n f with defers:=ds}:Act).tmps)=true:=(gF #[o,p] n f o).trans hw
 rw [if_pos hwt]
 refine .inl ?_
 unfold Oper.wp
 have he:({Fr n f with defers:=ds}:Act).eval=ev n f:=x3 n f
 rw [he,hr,Oper.upon_value,hp]
 unfold wpList
 have hwt2:Region.wanted p (yielded #[o,p] ({Fr n (upd f o.dst u) with defers:=ds}:Act).tmps)=true:=(gF #[o,p] n (upd f o.dst u) p).trans hw2
 rw [if_pos hwt2]
 refine .inl ?_
 unfold Oper.wp
 have he2:({Fr n (upd f o.dst u) with defers:=ds}:Act).eval=ev n (upd f o.dst u):=x3 n _
 rw [he2,hr2,Oper.upon_value,hp]
 unfold wpList
 exact h
theorem slt_add {ls:List YL}{x:YL}{v:Value}{ob:List Blk}(h:Sl 9 1 v (ls.length+1) (vV ls++ #[(.string (mkS x):Value)].toList) ob):SlT v (ls++[x]) ob:=SlT.add h
theorem col_body {M:List Nat}{W0:World}{b2 B:Nat}{s:YL}(hs:s.length<=600000)(f:Nat->Value)(r:YL)(L:List Blk)(l:Nat)(Wr:World)(hne:r≠[])(hrel:ColI b2 s r L)(hOw:Own M W0 Wr (yN B (lnR r)::L)):
  aRF.2.wpIn (Fence.wide.inRound l) 1 YP (rndQ ((yN B (lnR r)::L).map Blk.b) B (lnR r) (ColI b2 s) (λ_=>False) Wr) (Fr Tryz.f95.ntmps (upd (jP f [(2,.pointer (some ⟨b2,0,none⟩))]) (some 5) (.string (mkS (lnH r))))) Wr:=by
 obtain ⟨A,c,ls,ob,rfl,hS,hres,hrl⟩:=hrel
 have hlen:=lnR_len hne
 have hst:=lns_step hne
 have hl1:=(lns_all s.length s (Nat.le_refl _)).1
 have hl2:ls.length<=s.length:=by have:=congrArg List.length hres;rw [List.length_append] at this;omega
 rw [hst] at hres
 generalize lnH r=p at*
 generalize lnR r=rr at*
 obtain ⟨M1,hM1⟩:∃ M1,(yN B rr::slsB b2 (.slice A ls.length c)::ob).map Blk.b=M1:=⟨_,rfl⟩
 have hOl:=hOw.lend
 rw [hM1] at hOl ⊢
 rw [aBody_is]
 refine wpIn_block (jE (M:=M1) (W:=Wr) (L:=yN B rr::slsB b2 (.slice A ls.length c)::ob) (bS pq_rnd) out_rnd2 Kr ?_ Wr hOl)
 refine jT [1] 1 9 #[.string (mkS p)] λg=>(x_app (T:=9) (sz:=1) (m:=1) (cp:=1) [] [⟨g, #[.string (mkS p)],9⟩,yN B rr,slsB b2 (.slice A ls.length c)] ob [] 0 (⟨g, #[.string (mkS p)],9⟩::yN B rr::slsB b2 (.slice A ls.length c)::ob) (λw hO=>hO.cast (by simp)) hS Om λv' ob' hS'=> ?_)
 have hS2:SlT v' (ls++[p]) ob':=slt_add hS'
 obtain ⟨A2,c2,rfl⟩:=hS2.form
 refine x_fin [2] [] λw6 f6 hO6=> ?_
 have hO7:=hO6.past 1 (yN B rr::slsB b2 (.slice A2 (ls++[p]).length c2)::(ob'++[]))
 clear hO6
 refine ⟨slsB b2 (.slice A2 (ls++[p]).length c2)::ob',⟨A2,c2,ls++[p],ob',rfl,hS2,by rw [List.append_assoc];exact hres,by omega⟩,hO7.cast (by simp)⟩
theorem apq_any (B:Nat)(s:YL)(W:World)(hO:Own [B] W W [yN B s])(hs:s.length<=600000):YC 95 #[.slice none 0 0,.func (.func 96) #[] #[.pointer (some ⟨B,0,none⟩)]] W λe w'=>∃ v ob,e= .returned v/\SlT v (yL [] s) ob/\Own [B] W w' (yN B []::ob):=by
 refine x_enterM hO Tryz.func95 (x1 [] λb2=> ?_)
 refine x_range [] (g:= .tmp 6) (t:=7) aRF.1 aRF.2 (.seq (.region 4 (aRg 4) false) .ret) [(2,Zp b2 0),(6,.func (.func 96) #[] #[Zp B 0])] (slsB b2 (.slice none 0 0)::[yN B s]) λw f hOw=> ?_
 have hO0:Own [B] W w (yN B s::[slsB b2 (.slice none 0 0)]):=hOw.swap
 clear hOw
 have hres2:ev Tryz.f95.ntmps (jP f [(2,.pointer (some ⟨b2,0,none⟩)),(6,.func (.func 96) #[] #[.pointer (some ⟨B,0,none⟩)])]) (.tmp 2)= .pointer (some ⟨b2,0,none⟩):=by kernel_rfl
 refine wp_lines (B:=B) (s:=s) Kr (ColI b2 s) (λ_=>False) (λp=>upd (upd (jP f [(2,Zp b2 0),(6,.func (.func 96) #[] #[Zp B 0])]) (some 7) (.string (mkS p))) (some 5) (.string (mkS p))) (λp l w K hk=> ?_) (λr L l Wr hne hrel hOw=> ?_) ⟨none,0,[],[],rfl,Sl.nil _ _,rfl,Nat.le_refl _⟩ hO0 (by omega) ?_ (λD L w' hD h=>h.elim)
 ·have e:({tmps:=(Fr Tryz.f95.ntmps (jP f [(2,.pointer (some ⟨b2,0,none⟩)),(6,.func (.func 96) #[] #[.pointer (some ⟨B,0,none⟩)])])).tmps.setIfInBounds 7 (.string (mkS p)),defers:=[]}:Act)=Fr Tryz.f95.ntmps (upd (jP f [(2,.pointer (some ⟨b2,0,none⟩)),(6,.func (.func 96) #[] #[.pointer (some ⟨B,0,none⟩)])]) (some 7) (.string (mkS p))):=gO _ _ (some 7) _
  rw [e,aAssign_is]
  refine one_round (v:= .string (mkS p)) Kr Kr (λw=>Kr) ?_
  rw [show aAs.dst=some 5 from by kernel_rfl]
  exact hk
 ·have:=col_body hs (upd (jP f [(2,.pointer (some ⟨b2,0,none⟩)),(6,.func (.func 96) #[] #[.pointer (some ⟨B,0,none⟩)])]) (some 7) (.string (mkS (lnH r)))) r L l Wr hne hrel hOw
  rw [←g8 [(2,.pointer (some ⟨b2,0,none⟩))] (kV Kr)] at this
  exact this
 ·rintro D L w' hD ⟨A,c,ls,ob,rfl,hS,hres,_⟩ hO' hdf
  have hls:ls=yL [] s:=by rw [←hres];simp [yL]
  show (Code.seq (.region 4 (aRg 4) false) .ret).wp YP (mkQ YP Tryz.f95 _) _ w'
  refine wp_seq ?_
  rw [aEnd_is]
  have hg:=hO'.held (slsB b2 (.slice A ls.length c)) (List.mem_cons_of_mem _ (List.mem_cons_self ..))
  refine two_marks (u:= .slice A ls.length c) (v:= .slice A ls.length c) Kr ?_ Kr Kr ?_
  ·exact kE (ty:=66) (x:= .tmp 2) (a:=⟨b2,0,none⟩) Kr hres2 (yQ Kr hg)
  have hO3:=hO'.turn hD hdf rfl (.deferred none)
  refine wp_ret (tX (v:= .slice A ls.length c) hdf Kr ?_)
  exact ⟨_,ob,rfl,hls▸hS,hO3.swap.past 1 (yN B []::ob)⟩
theorem col_any (B:Nat)(s:YL)(W:World)(hO:Own [B] W W [yN B s])(hs:s.length<=600000):YC 52 #[.func (.func 96) #[] #[.pointer (some ⟨B,0,none⟩)]] W λe w'=>∃ v ob,e= .returned v/\SlT v (yL [] s) ob/\Own [B] W w' (yN B []::ob):=by
 refine kQ hO Tryz.func52 (kH (k:=95) (args:= #[.slice none 0 0,.func (.func 96) #[] #[Zp B 0]]) (Rr:=λv ob'=>∃ o,ob'=yN B []::o/\SlT v (yL [] s) o) [] [yN B s] [] [yN B s] (λw hO=>hO) (λw hO=>(apq_any B s w (Own.lentR (R:=[]) hO) hs).mono λe w' ⟨v,o,q1,q2,q3⟩=>⟨v,_,q1,⟨o,rfl,q2⟩,q3⟩) ?_)
 rintro v _ ⟨o,rfl,hS⟩
 exact z8 [] v λw hO=>⟨v,o,rfl,hS,hO.past 0 (yN B []::o)⟩
end
section
theorem join_flat (x0:YL)(r:List YL)(b off cap:Nat)(w:World)(hc:∀ j (h:j<(x0::r).length),w.cell? ⟨b,off+j,none⟩=some (.string (mkS ((x0::r)[j]))))
  (hb:b<w.heap.size) (hr:1<=r.length) (hn:r.length<=5000) (h0:x0≠[]) (hx:∀ x∈x0::r,x.length<=1048576) (hcap:r.length+1<=cap):
  YC 94 #[.slice (some ⟨b,off,none⟩) (r.length+1) cap,.string ⟨#[]⟩] w (YR (.string (mkS (qY [] (x0::r)))) w):=by
 have HT:=Lib.hid (show ∀ k,(x0++gI [] (r.take k)).length<=6000000000 from λk=>by
  have h1:=joinT_len (sep:=[]) (by decide) (r:=r.take k) λx hm=>hx x (List.mem_cons_of_mem _ (List.mem_of_mem_take hm))
  have h2:=hx x0 (List.mem_cons_self ..)
  have h3:(r.take k).length<=5000:=Nat.le_trans (by rw [List.length_take];exact Nat.min_le_right ..) hn
  rw [List.length_append];omega)
 have HC:=Lib.hid hc
 have HX:=Lib.hid hx
 have HJ:=Lib.hid (joinB_T [] r x0)
 have hx0:(mkS x0).size<=1048576:=by rw [y7];exact hx x0 (List.mem_cons_self ..)
 obtain ⟨N,hN⟩:∃ q,q=r.length+1:=⟨_,rfl⟩
 rw [←hN] at hcap ⊢
 have hne0:((N:Int)==0)=false:=beq_eq_false_iff_ne.2 Om
 have hne1:((N:Int)==1)=false:=beq_eq_false_iff_ne.2 Om
 have hN2:2<=N:=by omega
 have hN9:N<=5001:=by omega
 have HN:=Lib.hid hN
 have H0:=Lib.hid h0
 clear hc hx h0 hN hr hn
 go_enter Tryz.func94,Tryz.ntmps94
 go_wp2
 go_loop [5,41] (λn i=>∃ (k t:Nat),k<=N/\i=YI k/\n=YI t/\t<=k*1048576) (λ_ i=>N-(intOf i).toNat)
 case atStart=>exact ⟨0,0,Nat.zero_le _,rfl,rfl,by omega⟩
 case round=>
  obtain ⟨k,t,hk,rfl,rfl,ht⟩:=hrel
  by_cases hkn:k<N
  ·have hkl:k<(x0::r).length:=by have:=HN.out;rw [List.length_cons];omega
   obtain ⟨y,hy⟩:∃ q,q=mkS ((x0::r)[k]):=⟨_,rfl⟩
   have hyz:y.size<=1048576:=by rw [hy,y7];exact HX.out _ (List.getElem_mem hkl)
   have hck:w.cell? ⟨b,off+k,none⟩=some (.string y):=by rw [hy];exact HC.out k hkl
   clear hy hkl
   go_wp2
   exact ⟨⟨k+1,t+y.size,by omega,by go_num,by go_num,by omega⟩,by simp [intOf];omega⟩
  ·obtain rfl:k=N:=by omega
   go_wp2_with (go_at_call 144;refine (grow_fresh w.heap.size w.heap.size t _ (Nat.le_refl _) (heap_alloc_new w _) (by simp) Om).mono ?_)
   rintro e w1 rfl h1 hb1
   have hb1':YB w w1:=((Below.refl w.heap.size w).alloc (Nat.le_refl _) _).trans hb1
   have hsz1:=hb1'.size
   have hc0:w1.cell? ⟨b,off,none⟩=some (.string (mkS x0)):=by
    rw [hb1'.cell (p:=⟨b,off,none⟩) hb]
    exact HC.out 0 (by simp)
   have H1:=Lib.hid (Or.inr h1:Lib.IsBuilder 98 5 w.heap.size w.heap.size [] w1)
   have HB1:=Lib.hid hb1'
   clear h1 hb1 hb1' ht hkn hk
   obtain ⟨X,hX⟩:∃ q,q=mkS x0:=⟨_,rfl⟩
   rw [←hX] at hc0 hx0
   have HX0:=Lib.hid hX
   clear hX
   go_wp2_with (go_at_call 49;refine (xH w.heap.size w.heap.size [] X w1 H1.out ?_ hsz1).mono ?_)
   ·simp;omega
   rintro e w2 ⟨rfl,h2,hb2⟩
   have H2:=Lib.hid (show Lib.IsBuilder 98 5 w.heap.size w.heap.size (Lib.byteCells (x0++gI [] (r.take 0))) w2 from by
    rw [HX0.out,qV,List.nil_append] at h2
    rw [List.take_zero,gI,List.append_nil];exact Or.inr h2)
   have HB2:=Lib.hid (HB1.out.trans hb2)
   clear h2 hb2 hsz1 hc0
   have hrk:k-1=r.length:=by have:=HN.out;omega
   go_wp2
   go_loopw [65] (λi wr=>∃ j:Nat,j<=r.length/\i=YI j/\Hid (Lib.IsBuilder 98 5 w.heap.size w.heap.size (Lib.byteCells (x0++gI [] (r.take j))) wr)/\Hid (YB w wr)) (λi _=>r.length-(intOf i).toNat)
   case atStart=>exact ⟨0,Nat.zero_le _,rfl,H2,HB2⟩
   case round=>
    obtain ⟨j,hj,rfl,HB,HW⟩:=hrel
    have hsz:=HW.out.size
    by_cases hjr:j<r.length
    ·obtain ⟨y,hy⟩:∃ q,q=mkS r[j]:=⟨_,rfl⟩
     have hyz:y.size<=1048576:=by rw [hy,y7];exact HX.out _ (List.mem_cons_of_mem _ (List.getElem_mem hjr))
     have hck:wr.cell? ⟨b,off+1+j,none⟩=some (.string y):=by
      rw [HW.out.cell (p:=⟨b,off+1+j,none⟩) hb,hy,show off+1+j=off+(j+1) from by omega]
      exact HC.out (j+1) (by simp;omega)
     have HY:=Lib.hid hy
     have hlen:(Lib.byteCells (x0++gI [] (r.take j))).length<=6000000000:=by rw [Lib.byteCells_length];exact HT.out j
     have HE:=Lib.hid (show Lib.byteCells (x0++gI [] (r.take j))++Lib.strCells ⟨#[]⟩++Lib.strCells y=Lib.byteCells (x0++gI [] (r.take (j+1))) from by
      rw [show (⟨#[]⟩:ByteArray)=mkS [] from rfl,HY.out,List.take_succ_eq_append_getElem hjr,tY,←List.append_assoc,bc_two])
     clear hy
     go_wp2_with (go_at_call 49;refine (xH w.heap.size w.heap.size _ ⟨#[]⟩ wr HB.out ?_ hsz).mono ?_)
     ·show _+0<=_;omega
     rintro e w3 ⟨rfl,h3,hb3⟩
     have hsz3:=Nat.le_trans hsz hb3.size
     have H3:=Lib.hid h3
     have HB3:=Lib.hid hb3
     clear h3 hb3
     go_wp2_with (go_at_call 49;refine (xH w.heap.size w.heap.size _ y w3 (Or.inr H3.out) ?_ hsz3).mono ?_)
     ·rw [List.length_append,Lib.strCells_length,show (⟨#[]⟩:ByteArray).size=0 from rfl];omega
     rintro e w4 ⟨rfl,h4,hb4⟩
     rw [HE.out] at h4
     have H4:=Lib.hid (Or.inr h4:Lib.IsBuilder 98 5 w.heap.size w.heap.size (Lib.byteCells (x0++gI [] (r.take (j+1)))) w4)
     have HB4:=Lib.hid ((HW.out.trans HB3.out).trans hb4)
     clear h4 hb4
     go_wp2
     go_roundw
     case rel=>exact ⟨j+1,by omega,by go_num,H4,HB4⟩
     case measure=>simp [intOf];omega
    ·obtain rfl:j=r.length:=by omega
     have HB':=HB.out
     rw [List.take_length,←HJ.out] at HB'
     have hne:qY [] (x0::r)≠[]:=by
      rw [HJ.out]
      intro q;exact H0.out (List.append_eq_nil_iff.1 q).1
     have HBF:=Lib.hid HB'
     clear HB'
     go_wp2_with (go_at_call 50;refine (tI w.heap.size w.heap.size _ _ HBF.out hne).mono ?_)
     rintro e w5 ⟨rfl,hb5⟩
     go_wp2
     go_ret
     exact ⟨rfl,HW.out.trans hb5⟩
theorem joinB_flat:∀ l:List YL,qY [] l=l.flatten
 | []=>rfl
 | [x]=>by simp [qY]
 |x::y::r=>by rw [pK,joinB_flat (y::r)];simp
theorem flat_any (l:List YL)(A:Option Addr)(cap:Nat)(w:World)(hv:Reads zW w w.heap.size A l)(hn:l.length<=5000)(hx:∀ x∈l,x.length<=1048576)(h0:∀ x∈l,x≠[])(hcap:l.length<=cap):
  YC 94 #[.slice A l.length cap,.string ⟨#[]⟩] w (YR (.string (mkS l.flatten)) w):=by
 rw [←joinB_flat]
 match l,hv,hn,hx,h0,hcap with
 | [],_,_,_,_,_=>exact join_none [] A cap w
 | [x],hv,_,_,_,hcap=>exact join_one [] x A cap w hv hcap
 |x::y::r,hv,hn,hx,h0,hcap=>
  obtain ⟨b,off,rfl,hb,hcell⟩:=hv (by simp)
  refine join_flat x (y::r) b off cap w (λj hj=> ?_) hb (by simp) (by simp at hn ⊢;omega) (h0 x (List.mem_cons_self ..)) hx hcap
  refine hcell j _ ?_
  rw [←x6];unfold vV
  rw [List.getElem?_map,List.getElem?_eq_getElem hj];rfl
end
section
set_option linter.unnecessarySimpa false
theorem mF {α β:Type}{f:α->β}{l m:List α}{i:Nat}(hi:i<l.length)(hj:i<m.length)(h:f l[i]≠f m[i]):l.map f≠m.map f:=λe=>h (by
 have h1:(l.map f)[i]'(by rw [List.length_map];exact hi)=f l[i]:=List.getElem_map ..
 have h2:(m.map f)[i]'(by rw [List.length_map];exact hj)=f m[i]:=List.getElem_map ..
 rw [←h1,←h2];exact List.getElem_of_eq e _)
theorem map_step {α β:Type}{f:α->β}{l m:List α}{i:Nat}(hi:i<l.length)(hj:i<m.length)(h:(l.map f).take i=(m.map f).take i)(e:f l[i]=f m[i]):(l.map f).take (i+1)=(m.map f).take (i+1):=by
 rw [List.take_succ_eq_append_getElem (by rw [List.length_map];exact hi),List.take_succ_eq_append_getElem (by rw [List.length_map];exact hj),h,List.getElem_map,List.getElem_map,e]
theorem map_end {α β:Type}{f:α->β}{l m:List α}{i:Nat}(hl:l.length=m.length)(hi:l.length<=i)(h:(l.map f).take i=(m.map f).take i):l.map f=m.map f:=by
 rwa [List.take_of_length_le (by rw [List.length_map];exact hi),List.take_of_length_le (by rw [List.length_map];omega)] at h
theorem r12sameWish_any (x y:Wv)(W:World)(hx:Reads zW W W.heap.size x.A x.fs)(hy:Reads zW W W.heap.size y.A y.fs)(hn:x.fs.length<=1048576)(hm:y.fs.length<=1048576):YC 79 #[wvV x,wvV y] W (YR (.bool (decide (x.wt=y.wt))) W):=by
 have hno:∀ w,YB W w->x.wt≠y.wt->(Ending.returned (.bool false)= .returned (.bool (decide (x.wt=y.wt))))/\YB W w:=λw hb h=>⟨by rw [decide_eq_false h],hb⟩
 have hT:∀ w,YB W w->YC 38 #[.slice x.A x.fs.length x.cap,.slice y.A y.fs.length y.cap] w (YR (.bool (decide (x.fs=y.fs))) w):=λw hb=>r1Texts_any x.A y.A x.cap y.cap x.fs y.fs w (hx.on hb hb.size) (hy.on hb hb.size) hn hm
 refine zF Tryz.func79 (x1 [] λb2=>x1 [] λb3=>qF 9 [1,0] x.name y.name (λh1=> ?_) (λh1=> ?_))
 rotate_left
 ·exact z8 [] Z5 λw hO=>hno w hO.below λe=>h1 (congrArg Wt.name e)
 refine qF 15 [1,0] x.rng y.rng (λh2=> ?_) (λh2=> ?_)
 rotate_left
 ·exact z8 [] Z5 λw hO=>hno w hO.below λe=>h2 (congrArg Wt.rng e)
 refine pQ 22 [1,0] (x.bare==y.bare) (λh3=> ?_) (λh3=> ?_)
 rotate_left
 ·exact z8 [] Z5 λw hO=>hno w hO.below λe=>by
   have:x.bare=y.bare:=congrArg Wt.bare e
   rw [this] at h3;simp at h3
 refine z7 (v:= .bool (decide (x.fs=y.fs))) [1,0] (λw hO=>hT w hO.below) (z8 [] (.bool (decide (x.fs=y.fs))) λw hO=>⟨?_,hO.below⟩)
 congr 2
 refine decide_eq_decide.2 ⟨λh4=> ?_,λe=>congrArg Wt.fs e⟩
 unfold Wv.wt
 rw [h1,h2,h4,beq_iff_eq.1 h3]
theorem r12sameNeed_any (x y:Nv)(W:World)(hx:Reads wvC W W.heap.size x.A x.any)(hy:Reads wvC W W.heap.size y.A y.any)(hxf:∀ u∈x.any,Reads zW W W.heap.size u.A u.fs)(hyf:∀ u∈y.any,Reads zW W W.heap.size u.A u.fs)(hn:x.any.length<=5000)(hm:y.any.length<=5000)(hxn:∀ u∈x.any,u.fs.length<=5000)(hyn:∀ u∈y.any,u.fs.length<=5000):YC 37 #[nvV x,nvV y] W (YR (.bool (decide (x.nt=y.nt))) W):=by
 have hno:∀ w,YB W w->x.nt≠y.nt->(Ending.returned (.bool false)= .returned (.bool (decide (x.nt=y.nt))))/\YB W w:=λw hb h=>⟨by rw [decide_eq_false h],hb⟩
 refine zF Tryz.func37 (x1 [] λb2=>x1 [] λb3=>vJ 10 [1,0] x.wh y.wh (λh1=> ?_) (λh1=> ?_))
 rotate_left
 ·exact z8 [] Z5 λw hO=>hno w hO.below λe=>h1 (congrArg Nt.wh e)
 refine vJ 16 [1,0] x.opt y.opt (λh2=> ?_) (λh2=> ?_)
 rotate_left
 ·exact z8 [] Z5 λw hO=>hno w hO.below λe=>h2 (congrArg Nt.opt e)
 refine vK 25 [1,0] ((x.any.length:Int)=(y.any.length:Int)) (λh3=> ?_) (λh3=> ?_)
 rotate_left
 ·exact z8 [] Z5 λw hO=>hno w hO.below λe=>h3 (by
   have:=congrArg (λn:Nt=>n.any.length) e
   simp only [Nv.nt,List.length_map] at this;omega)
 have hl:x.any.length=y.any.length:=by omega
 refine zX (α:=Nat) (λi=>[(2,Zp b2 0),(3,Zp b3 0),(5,YI (i:Int))]) (λ_=>[⟨b3, #[.slice y.A y.any.length y.cap,.string (mkS y.wh),.string (mkS y.opt)],75⟩,⟨b2, #[.slice x.A x.any.length x.cap,.string (mkS x.wh),.string (mkS x.opt)],75⟩]) (λi m=>(i<=x.any.length/\(x.any.map Wv.wt).take i=(y.any.map Wv.wt).take i)/\m=x.any.length-i) 0 x.any.length [] ⟨⟨Nat.zero_le _,rfl⟩,rfl⟩ ?_
 rintro i mm g kk ⟨⟨hi,heq⟩,hmm⟩ nx hkk
 subst hkk
 refine zG 31 [1] ((i:Int)<(x.any.length:Int)) (λh31=> ?_) (λh31=> ?_)
 rotate_left
 ·refine z8 [] Z4 λw hO=>⟨?_,hO.below⟩
  have he:=map_end hl Om heq
  rw [decide_eq_true (show x.nt=y.nt by unfold Nv.nt;rw [he,h1,h2])]
 have hj:i<x.any.length:=by omega
 have hj2:i<y.any.length:=by omega
 have hux:x.any[i]∈x.any:=List.getElem_mem hj
 have huy:y.any[i]∈y.any:=List.getElem_mem hj2
 have hst:=map_step hj hj2 heq
 have hdf:=mF (f:=Wv.wt) hj hj2
 obtain ⟨eb,eo,hA,hel⟩:=hx.elem qP i hj
 obtain ⟨fb,fo,hA2,hel2⟩:=hy.elem qP i hj2
 have h1':∀ w,YB W w->(loadVar 134 ⟨eb,eo+i*4+0,none⟩).run YP w= .ok (wvV x.any[i]) w:=λw hw=>hel w hw _ 0 _ Kr
 have h2':∀ w,YB W w->(loadVar 134 ⟨fb,fo+i*4+0,none⟩).run YP w= .ok (wvV y.any[i]) w:=λw hw=>hel2 w hw _ 0 _ Kr
 have hru:=hxf _ hux;have hrv:=hyf _ huy;have hnu:=hxn _ hux;have hnv:=hyn _ huy
 generalize x.any[i]=u at*
 generalize y.any[i]=v at*
 have hc:∀ w,YB W w->YC 79 #[wvV u,wvV v] w (YR (.bool (decide (u.wt=v.wt))) w):=λw hb=>r12sameWish_any u v w (hru.on hb hb.size) (hrv.on hb hb.size) Om Om
 refine zO 37 [1] hA x.any.length x.cap i 4 hj (zL 38 [] 134 eb (eo+i*4+0) (wvV u) (λw hO=>h1' w hO.below) (zO 42 [0] hA2 y.any.length y.cap i 4 hj2 (zL 43 [] 134 fb (fo+i*4+0) (wvV v) (λw hO=>h2' w hO.below) (z7 (v:= .bool (decide (u.wt=v.wt))) [] (λw hO=>hc w hO.below) (bO 44 (u.wt=v.wt) (λh=> ?_) (λh=> ?_))))))
 ·exact x_i 33 [] ((i+1:Nat):Int) (nx (i+1) (x.any.length-(i+1)) [] Om ⟨⟨hj,hst h⟩,rfl⟩ Kr Kr)
 ·exact z8 [] Z5 λw hO=>hno w hO.below λe=>hdf h (congrArg Nt.any e)
theorem op_ne_ver {ρ:Operand->Value}{o:Oper}{t':TypeId}{x y:Operand}{u v:Ver}{b:Bool}(ho:o.op= .binOp .neq 24 x y t')(hx:ρ x=kY u)(hy:ρ y=kY v)(hb:decide (u=v)=b)(w:World):(execOp ρ o).run YP w= .ok (.value (.bool (!b))) w:=
 p7 ho hx hy guard_ver (λw=>hb▸eq_ver u v 9998 w) w
theorem bar_dec (u v:Bv):decide (u.bt=v.bt)=(decide (u.name=v.name) && (decide (u.rng=v.rng) && decide (u.wh=v.wh))):=by
 obtain ⟨a,b,c⟩:=u
 obtain ⟨a',b',c'⟩:=v
 simp only [Bv.bt,Bt.mk.injEq,Bool.decide_and]
theorem eq_bar (u v:Bv)(d:Nat)(w:World):(Op.equalIn (d+1+1) 77 (bvV u) (bvV v)).run YP w= .ok (decide (u.bt=v.bt)) w:=by
  have h:=eq_agg (P:=YP) (d:=d+1) (t:=77) (xs:=(bvV u).cells) (ys:=(bvV v).cells) (bs:=[(mkS u.name).toList==(mkS v.name).toList,(mkS u.rng).toList==(mkS v.rng).toList,(mkS u.wh).toList==(mkS v.wh).toList]) Tryz.underlying77 Kr
    ⟨by decide,⟨.string (mkS u.name),.string (mkS v.name),λw=>⟨by kernel_rfl,by kernel_rfl,run_equalIn_string w d _ _ _ Tryz.underlying9⟩⟩,
     by decide,⟨.string (mkS u.rng),.string (mkS v.rng),λw=>⟨by kernel_rfl,by kernel_rfl,run_equalIn_string w d _ _ _ Tryz.underlying9⟩⟩,
     by decide,⟨.string (mkS u.wh),.string (mkS v.wh),λw=>⟨by kernel_rfl,by kernel_rfl,run_equalIn_string w d _ _ _ Tryz.underlying9⟩⟩,trivial⟩ w
  rw [all3,vT,vT,vT,←bar_dec] at h
  exact h
theorem guard_bar:Tryz.prog.eqGuardType Tryz.prog.depth 77=false:=by kernel_rfl
theorem op_ne_bar {ρ:Operand->Value}{o:Oper}{t':TypeId}{x y:Operand}{u v:Bv}{b:Bool}(ho:o.op= .binOp .neq 77 x y t')(hx:ρ x=bvV u)(hy:ρ y=bvV v)(hb:decide (u.bt=v.bt)=b)(w:World):(execOp ρ o).run YP w= .ok (.value (.bool (!b))) w:=
 p7 ho hx hy guard_bar (λw=>hb▸eq_bar u v 9998 w) w
theorem r12Same_any (x y:Rv)(W:World)(hx:RcSm W W.heap.size x)(hy:RcSm W W.heap.size y):YC 13 #[rvV x,rvV y] W (YR (.bool (decide (x.rt=y.rt))) W):=by
 have hno:∀ w,YB W w->x.rt≠y.rt->(Ending.returned (.bool false)= .returned (.bool (decide (x.rt=y.rt))))/\YB W w:=λw hb h=>⟨by rw [decide_eq_false h],hb⟩
 have hxn:=hx.nn;have hxb:=hx.nb;have hxf:=hx.fts.n
 refine zF Tryz.func13 (x1 [] λb2=>x1 [] λb3=>vJ 12 [1,0] x.name y.name (λh1=> ?_) (λh1=> ?_))
 rotate_left
 ·exact z8 [] Z5 λw hO=>hno w hO.below λe=>h1 (congrArg Rt.name e)
 refine x_nea (p:=λu v:Ver=>u=v) 24 kY op_ne_ver 18 [1,0] x.ver y.ver (λh2=> ?_) (λh2=> ?_)
 rotate_left
 ·exact z8 [] Z5 λw hO=>hno w hO.below λe=>h2 (congrArg Rt.ver e)
 refine vK 27 [1,0] ((x.needs.length:Int)=(y.needs.length:Int)) (λh3=> ?_) (λh3=> ?_)
 rotate_left
 ·exact z8 [] Z5 λw hO=>hno w hO.below λe=>h3 (by
   have:=congrArg (λn:Rt=>n.needs.length) e
   simp only [Rv.rt,List.length_map] at this;omega)
 refine vK 36 [1,0] ((x.bars.length:Int)=(y.bars.length:Int)) (λh4=> ?_) (λh4=> ?_)
 rotate_left
 ·exact z8 [] Z5 λw hO=>hno w hO.below λe=>h4 (by
   have:=congrArg (λn:Rt=>n.bars.length) e
   simp only [Rv.rt,List.length_map] at this;omega)
 refine vK 45 [1,0] ((x.fts.length:Int)=(y.fts.length:Int)) (λh5=> ?_) (λh5=> ?_)
 rotate_left
 ·exact z8 [] Z5 λw hO=>hno w hO.below λe=>h5 (by
   have:=congrArg (λn:Rt=>n.fts.length) e
   simp only [Rv.rt,v7] at this;omega)
 have l3:x.needs.length=y.needs.length:=by omega
 have l4:x.bars.length=y.bars.length:=by omega
 have l5:x.fts.length=y.fts.length:=by omega
 refine zX (α:=Nat) (λi=>[(2,Zp b2 0),(3,Zp b3 0),(5,YI (i:Int))]) (λ_=>[⟨b3,(rvC y).toArray,29⟩,⟨b2,(rvC x).toArray,29⟩]) (λi m=>(i<=x.needs.length/\(x.needs.map Nv.nt).take i=(y.needs.map Nv.nt).take i)/\m=x.needs.length-i) 0 x.needs.length [] ⟨⟨Nat.zero_le _,rfl⟩,rfl⟩ ?_
 rintro i mm g kk ⟨⟨hi,heq⟩,hmm⟩ nx hkk
 subst hkk
 refine zG 51 [1] ((i:Int)<(x.needs.length:Int)) (λh51=> ?_) (λh51=> ?_)
 ·have hj:i<x.needs.length:=by omega
  have hj2:i<y.needs.length:=by omega
  have hux:x.needs[i]∈x.needs:=List.getElem_mem hj
  have huy:y.needs[i]∈y.needs:=List.getElem_mem hj2
  have hst:=map_step hj hj2 heq
  have hdf:=mF (f:=Nv.nt) hj hj2
  obtain ⟨eb,eo,hA,hel⟩:=hx.needs.elem gT i hj
  obtain ⟨fb,fo,hA2,hel2⟩:=hy.needs.elem gT i hj2
  have h1':∀ w,YB W w->(loadVar 75 ⟨eb,eo+i*3+0,none⟩).run YP w= .ok (nvV x.needs[i]) w:=λw hw=>hel w hw _ 0 _ Kr
  have h2':∀ w,YB W w->(loadVar 75 ⟨fb,fo+i*3+0,none⟩).run YP w= .ok (nvV y.needs[i]) w:=λw hw=>hel2 w hw _ 0 _ Kr
  have hau:=hx.any _ hux;have hav:=hy.any _ huy;have hwu:=hx.wfs _ hux;have hwv:=hy.wfs _ huy;have hnu:=hx.na _ hux;have hnv:=hy.na _ huy;have hfu:=hx.nf _ hux;have hfv:=hy.nf _ huy
  generalize x.needs[i]=u at hst hdf h1' hau hwu hnu hfu
  generalize y.needs[i]=v at hst hdf h2' hav hwv hnv hfv
  have hc:∀ w,YB W w->YC 37 #[nvV u,nvV v] w (YR (.bool (decide (u.nt=v.nt))) w):=λw hb=>r12sameNeed_any u v w (hau.on hb hb.size) (hav.on hb hb.size) (λz hz=>(hwu z hz).on hb hb.size) (λz hz=>(hwv z hz).on hb hb.size) hnu hnv hfu hfv
  refine zO 57 [1] hA x.needs.length x.nc i 3 hj (zL 58 [] 75 eb (eo+i*3+0) (nvV u) (λw hO=>h1' w hO.below) (zO 62 [0] hA2 y.needs.length y.nc i 3 hj2 (zL 63 [] 75 fb (fo+i*3+0) (nvV v) (λw hO=>h2' w hO.below) (z7 (v:= .bool (decide (u.nt=v.nt))) [] (λw hO=>hc w hO.below) (bO 64 (u.nt=v.nt) (λh=> ?_) (λh=> ?_))))))
  ·exact x_i 53 [] ((i+1:Nat):Int) (nx (i+1) (x.needs.length-(i+1)) [] Om ⟨⟨hj,hst h⟩,rfl⟩ Kr Kr)
  ·exact z8 [] Z5 λw hO=>hno w hO.below λe=>hdf h (congrArg Rt.needs e)
 have e3:=map_end l3 Om heq
 clear nx
 refine zX (α:=Nat) (λi=>[(2,Zp b2 0),(3,Zp b3 0),(6,YI (i:Int))]) (λ_=>[⟨b3,(rvC y).toArray,29⟩,⟨b2,(rvC x).toArray,29⟩]) (λi m=>(i<=x.bars.length/\(x.bars.map Bv.bt).take i=(y.bars.map Bv.bt).take i)/\m=x.bars.length-i) 0 x.bars.length [] ⟨⟨Nat.zero_le _,rfl⟩,rfl⟩ ?_
 rintro i2 mm2 g2 kk2 ⟨⟨hi2,heq2⟩,hmm2⟩ nx hkk
 subst hkk
 refine zG 70 [1] ((i2:Int)<(x.bars.length:Int)) (λh70=> ?_) (λh70=> ?_)
 ·have hj:i2<x.bars.length:=by omega
  have hj2:i2<y.bars.length:=by omega
  have hst:=map_step hj hj2 heq2
  have hdf:=mF (f:=Bv.bt) hj hj2
  obtain ⟨eb,eo,hA,hel⟩:=hx.bars.elem mP i2 hj
  obtain ⟨fb,fo,hA2,hel2⟩:=hy.bars.elem mP i2 hj2
  have h1':∀ w,YB W w->(loadVar 77 ⟨eb,eo+i2*3+0,none⟩).run YP w= .ok (bvV x.bars[i2]) w:=λw hw=>hel w hw _ 0 _ Kr
  have h2':∀ w,YB W w->(loadVar 77 ⟨fb,fo+i2*3+0,none⟩).run YP w= .ok (bvV y.bars[i2]) w:=λw hw=>hel2 w hw _ 0 _ Kr
  generalize x.bars[i2]=u at hst hdf h1'
  generalize y.bars[i2]=v at hst hdf h2'
  refine zO 76 [1] hA x.bars.length x.bc i2 3 hj (zL 77 [] 77 eb (eo+i2*3+0) (bvV u) (λw hO=>h1' w hO.below) (zO 81 [0] hA2 y.bars.length y.bc i2 3 hj2 (zL 82 [] 77 fb (fo+i2*3+0) (bvV v) (λw hO=>h2' w hO.below) (x_nea (p:=λu v:Bv=>u.bt=v.bt) 77 bvV op_ne_bar 83 [] u v (λh=> ?_) (λh=> ?_)))))
  ·exact x_i 72 [] ((i2+1:Nat):Int) (nx (i2+1) (x.bars.length-(i2+1)) [] Om ⟨⟨hj,hst h⟩,rfl⟩ Kr Kr)
  ·exact z8 [] Z5 λw hO=>hno w hO.below λe=>hdf h (congrArg Rt.bars e)
 have e4:=map_end l4 Om heq2
 clear nx
 refine zX (α:=Nat) (λi=>[(2,Zp b2 0),(3,Zp b3 0),(7,YI (i:Int))]) (λ_=>[⟨b3,(rvC y).toArray,29⟩,⟨b2,(rvC x).toArray,29⟩]) (λi m=>(i<=x.fts.length/\(x.fts.map Fv.ft).take i=(y.fts.map Fv.ft).take i)/\m=x.fts.length-i) 0 x.fts.length [] ⟨⟨Nat.zero_le _,rfl⟩,rfl⟩ ?_
 rintro i3 mm3 g3 kk3 ⟨⟨hi3,heq3⟩,hmm3⟩ nx hkk
 subst hkk
 refine zG 88 [1] ((i3:Int)<(x.fts.length:Int)) (λh88=> ?_) (λh88=> ?_)
 rotate_left
 ·refine z8 [] Z4 λw hO=>⟨?_,hO.below⟩
  have e5:=map_end l5 Om heq3
  rw [decide_eq_true (show x.rt=y.rt by unfold Rv.rt yC;rw [h1,h2,e3,e4,e5])]
 have hj:i3<x.fts.length:=by omega
 have hj2:i3<y.fts.length:=by omega
 have hux:x.fts[i3]∈x.fts:=List.getElem_mem hj
 have huy:y.fts[i3]∈y.fts:=List.getElem_mem hj2
 have hst:=map_step hj hj2 heq3
 have hdf:=mF (f:=Fv.ft) hj hj2
 obtain ⟨eb,eo,hA,hel⟩:=hx.fts.top.elem qQ i3 hj
 obtain ⟨fb,fo,hA2,hel2⟩:=hy.fts.top.elem qQ i3 hj2
 have n1:∀ w,YB W w->(loadVar 9 ⟨eb,eo+i3*2+0,none⟩).run YP w= .ok (.string (mkS x.fts[i3].name)) w:=λw hw=>hel w hw _ 0 _ Kr
 have n2:∀ w,YB W w->(loadVar 9 ⟨fb,fo+i3*2+0,none⟩).run YP w= .ok (.string (mkS y.fts[i3].name)) w:=λw hw=>hel2 w hw _ 0 _ Kr
 have o1:∀ w,YB W w->(loadVar 66 ⟨eb,eo+i3*2+1,none⟩).run YP w= .ok (.slice x.fts[i3].A x.fts[i3].of.length x.fts[i3].cap) w:=λw hw=>hel w hw _ 1 _ Kr
 have o2:∀ w,YB W w->(loadVar 66 ⟨fb,fo+i3*2+1,none⟩).run YP w= .ok (.slice y.fts[i3].A y.fts[i3].of.length y.fts[i3].cap) w:=λw hw=>hel2 w hw _ 1 _ Kr
 have hru:=hx.fts.each _ hux;have hrv:=hy.fts.each _ huy;have hmu:=hx.fts.m _ hux;have hmv:=hy.fts.m _ huy
 generalize x.fts[i3]=u at hst hdf n1 o1 hru hmu
 generalize y.fts[i3]=v at hst hdf n2 o2 hrv hmv
 have hc:∀ w,YB W w->YC 38 #[.slice u.A u.of.length u.cap,.slice v.A v.of.length v.cap] w (YR (.bool (decide (u.of=v.of))) w):=λw hb=>r1Texts_any u.A v.A u.cap v.cap u.of v.of w (hru.on hb hb.size) (hrv.on hb hb.size) Om Om
 refine zO 94 [1] hA x.fts.length x.fc i3 2 hj (zL 96 [] 9 eb (eo+i3*2+0) (.string (mkS u.name)) (λw hO=>n1 w hO.below) (zO 100 [0] hA2 y.fts.length y.fc i3 2 hj2 (zL 102 [] 9 fb (fo+i3*2+0) (.string (mkS v.name)) (λw hO=>n2 w hO.below) (vJ 103 [] u.name v.name (λh6=> ?_) (λh6=> ?_)))))
 rotate_left
 ·exact z8 [] Z5 λw hO=>hno w hO.below λe=>hdf (λq=>h6 (congrArg Ft.name q)) (congrArg Rt.fts e)
 refine zO 108 [1] hA x.fts.length x.fc i3 2 hj (zL 110 [] 66 eb (eo+i3*2+1) (.slice u.A u.of.length u.cap) (λw hO=>o1 w hO.below) (zO 114 [0] hA2 y.fts.length y.fc i3 2 hj2 (zL 116 [] 66 fb (fo+i3*2+1) (.slice v.A v.of.length v.cap) (λw hO=>o2 w hO.below) (z7 (v:= .bool (decide (u.of=v.of))) [] (λw hO=>hc w hO.below) (bO 117 (u.of=v.of) (λh7=> ?_) (λh7=> ?_))))))
 ·exact x_i 90 [] ((i3+1:Nat):Int) (nx (i3+1) (x.fts.length-(i3+1)) [] Om ⟨⟨hj,hst (by unfold Fv.ft;rw [h6,h7])⟩,rfl⟩ Kr Kr)
 ·exact z8 [] Z5 λw hO=>hno w hO.below λe=>hdf (λq=>h7 (congrArg Ft.of q)) (congrArg Rt.fts e)
end
section
set_option linter.unnecessarySimpa false
section
variable {M:List Nat}{n:Nat}{W:World}{Q:Exit->Act->World->Prop}{c:Xc}
end
def stV (s:YL):Value:= .string (mkS s)
end
section
set_option linter.unnecessarySimpa false
theorem RecO.inn {x:Rv}{ob L:List Blk}{M:List Nat}{W w:World}(h:RecO x ob)(hO:Own M W w L)(hs:∀ b∈ob,b∈L)(hB:fY x.rt)(hF:FewR x.rt 4096):RcIn w w.heap.size x:=by
 obtain ⟨o1,o2,o4,o7,o8,rfl,h1,h4,h7⟩:=h
 exact rec_inn h1 h4 h7 hO (λb hb=>hs b (by simp [hb])) (λb hb=>hs b (by simp [hb])) (λb hb=>hs b (by simp [hb])) (λb hb=>hs b (by simp [hb])) (λb hb=>hs b (by simp [hb])) hB hF
def ParV (s:YL)(v:Value)(ob:List Blk):Prop:=∃ x,v= .tuple #[rvV x,YI (gG s).2.1,YI (gG s).2.2]/\x.rt=(gG s).1/\RecO x ob/\fY x.rt/\FewR x.rt 4096
def awS1:YL:=[112,97,99,107,97,103,101,32,97,112,112,32,49,46,48,46,48,10,110,101,101,100,10,97,110,121,32,98,32,120,32,102,117,108,108,32,94,49,10,119,104,101,110,32,111,115,32,61,32,120,10,98,97,114,32,99,32,42,10,102,101,97,116,117,114,101,32,121,32,98,47,122,10]
def awS2:YL:=[112,97,99,107,97,103,101,32,97,112,112,32,49,46,48,46,48,10,97,110,121,32,98,32,45,32,102,117,108,108,32,42,10]
end
section
set_option linter.unnecessarySimpa false
structure p5 (m:Mt)(B:Nat):Prop where
 pins:∀ p∈m.pins,p.name.length<=B/\p.shelf.length<=B
 holds:∀ x∈m.holds,x.name.length<=B/\x.rg.length<=B
theorem cut_le {s:YL}{B:Nat}(h:s.length<=B):(zA 32 s).1.length<=B/\(zA 32 s).2.1.length<=B:=by
 have:=wU 32 s
 omega
theorem add_short {m x:Mt}{p:YL}{B:Nat}(h:p5 m B)(hp:p.length<=B)(e:nY m p=some x):p5 x B/\x.pins.length+x.holds.length=m.pins.length+m.holds.length+1:=by
 have hc:=cut_le (Nat.le_trans (word_le p).2 hp)
 unfold nY at e
 split at e
 ·cases e
 split at e
 ·split at e
  ·obtain rfl:=Option.some.inj e
   exact ⟨⟨λy hy=>by
    rcases List.mem_append.1 hy with hy|hy
    ·exact h.pins y hy
    ·rw [List.mem_singleton.1 hy];exact hc,h.holds⟩,by unfold addP;simp only [List.length_append,List.length_cons,List.length_nil];omega⟩
  ·cases e
 split at e
 ·split at e
  ·obtain rfl:=Option.some.inj e
   exact ⟨⟨h.pins,λy hy=>by
    rcases List.mem_append.1 hy with hy|hy
    ·exact h.holds y hy
    ·rw [List.mem_singleton.1 hy];exact hc⟩,by unfold addHo;simp only [List.length_append,List.length_cons,List.length_nil];omega⟩
  ·cases e
 ·cases e
theorem tl_short {B:Nat}:∀ (l:List YL) (m:Mt) (k:Nat),p5 m B->(∀ x∈l,x.length<=B)→∀ y,(tlT m k l).1=some y->p5 y B/\y.pins.length+y.holds.length<=m.pins.length+m.holds.length+l.length
 | [],m,k,h,_,y,e=>by
  obtain rfl:=Option.some.inj e
  exact ⟨h,Nat.le_add_right _ _⟩
 |p::r,m,k,h,hl,y,e=>by
  rw [tlT] at e
  cases ha:nY m p with
  |none=>rw [ha] at e;cases e
  |some x=>
   rw [ha] at e
   obtain ⟨h1,h2⟩:=add_short h (hl p (List.mem_cons_self ..)) ha
   obtain ⟨h3,h4⟩:=tl_short r x (k+1) h1 (λz hz=>hl z (List.mem_cons_of_mem _ hz)) y e
   refine ⟨h3, ?_⟩
   rw [List.length_cons];omega
theorem read_short {ls:List YL}{B:Nat}(hl:∀ x∈ls,x.length<=B):p5 (qI ls).1 B/\(qI ls).1.pins.length+(qI ls).1.holds.length<=ls.length:=by
 have hnil:p5 nilM B/\nilM.pins.length+nilM.holds.length<=ls.length:=⟨⟨(λp hp=>by cases hp),(λp hp=>by cases hp)⟩,Nat.zero_le _⟩
 unfold qI
 split
 ·exact hnil
 unfold outM
 cases h:(tlT ⟨(headM ls).1,[],[]⟩ (yB ls) (ls.drop (yB ls))).1 with
 |none=>exact hnil
 |some y=>
  obtain ⟨h1,h2⟩:=tl_short _ _ _ ⟨(λp hp=>by cases hp),(λp hp=>by cases hp)⟩ (λx hx=>hl x (List.mem_of_mem_drop hx)) y h
  refine ⟨h1,Nat.le_trans h2 ?_⟩
  rw [List.length_drop]
  show 0+0+_<=_
  omega
theorem read_zero {ls:List YL}(h:(qI ls).2.1=0):(qI ls).2.2=0:=by
 unfold qI at h ⊢
 split
 ·next q=>rw [if_pos q] at h;exact absurd h q
 ·next q=>
  rw [if_neg q] at h
  unfold outM at h ⊢
  split
  ·rfl
  ·next q2=>rw [q2] at h;exact absurd h (show ¬ (2:Int)=0 by decide)
theorem MnO.inn {x:Mv}{o1 o2 o3 L:List Blk}{M:List Nat}{W w:World}(h:MnO x o1 o2 o3)(hO:Own M W w L)(hs:∀ b∈o1++(o2++o3),b∈L)(hB:fY x.rec'.rt)(hF:FewR x.rec'.rt 4096)(hS:p5 x.mt 1048576)(hn:x.pins.length+x.holds.length<=1048576)(hg:∀ y∈x.holds,GqR y.rg):MnIn w w.heap.size x:=
 ⟨h.rc.inn hO (λb hb=>hs b (List.mem_append_left _ hb)) hB hF,⟨Sl.reads h.pin rfl hO λb hb=>hs b (List.mem_append_right _ (List.mem_append_left _ hb)),hS.pins,by omega⟩,⟨Sl.reads h.hold rfl hO λb hb=>hs b (List.mem_append_right _ (List.mem_append_right _ hb)),λy hy=>⟨(hS.holds y hy).1,hg y hy⟩,by omega⟩⟩
def ReadM (ls:List YL)(v:Value)(ob:List Blk):Prop:=∃ (x:Mv) (o1 o2 o3:List Blk),v= .tuple #[mvV x,YI (qI ls).2.1,YI (qI ls).2.2]/\x.mt=(qI ls).1/\ob=o1++(o2++o3)/\MnO x o1 o2 o3/\fY x.rec'.rt/\FewR x.rec'.rt 4096
theorem read_out {ls:List YL}{W w:World}{z k:Int}(h:qI ls=(nilM,z,k))(hO:Own [] W w []):∃ v ob,Ending.returned (.tuple #[mvV mv0,YI z,YI k])= .returned v/\ReadM ls v ob/\Own [] W w ob:=
 ⟨_,[],rfl,⟨mv0,[],[],[],by rw [h],by rw [h];rfl,rfl,mv0_o,bnd_nil,few0⟩,hO⟩
abbrev mpB (b5 b:Nat):Blk:=⟨b5, #[.map (some b)],147⟩
structure RnI (ls:List YL)(k:Nat)(R0:Option Mt×Nat)(j:Nat)(x:Mv)(o1 o2 o3:List Blk):Prop where
 le:j<=ls.length-k
 res:tlT x.mt (k+j) (ls.drop (k+j))=R0
 own:MnO x o1 o2 o3
 bnd:fY x.rec'.rt/\FewR x.rec'.rt 4096
 cnt:x.pins.length+x.holds.length<=j
theorem mRead_any (pb po cap:Nat)(ls:List YL)(W:World)(hv:Reads zW W W.heap.size (some ⟨pb,po,none⟩) ls)(hcap:ls.length<=cap)(hn:ls.length<=600000)(hx:∀ x∈ls,x.length<=600000/\x≠[])(hK:RecLib W)(hL:LyAt W)(hk5:yB ls<=5000)(hfl:((ls.take (yB ls)).flatten).length<=1048576)(hBn:((ls.take (yB ls)).flatten).length<=4096->j9 ((ls.take (yB ls)).flatten)=0->fY (recA ((ls.take (yB ls)).flatten))):YC 51 #[.slice (some ⟨pb,po,none⟩) ls.length cap] W λe w'=>∃ v ob,e= .returned v/\ReadM ls v ob/\Own [] W w' ob:=by
 have hkl:=ahead_le ls
 have hRd:qI ls=if (gG (ls.take (yB ls)).flatten).2.1≠0 then (nilM,(gG (ls.take (yB ls)).flatten).2.1,(gG (ls.take (yB ls)).flatten).2.2) else outM (tlT ⟨(gG (ls.take (yB ls)).flatten).1,[],[]⟩ (yB ls) (ls.drop (yB ls))):=rfl
 have hbe:behI ls=if yB ls<ls.length then (yB ls:Int) else-1:=rfl
 have hlk:(ls.take (yB ls)).length=yB ls:=by rw [List.length_take];omega
 have hJ:∀ w,Reads zW w w.heap.size (some ⟨pb,po,none⟩) ls->YC 94 #[.slice (some ⟨pb,po,none⟩) (yB ls) cap,.string ⟨#[]⟩] w (YR (.string (mkS (ls.take (yB ls)).flatten)) w):=λw h=>by
  have q:=flat_any (ls.take (yB ls)) (some ⟨pb,po,none⟩) cap w (h.fst _) Om (λx hx'=>Nat.le_trans (hx x (List.mem_of_mem_take hx')).1 (by decide)) (λx hx'=>(hx x (List.mem_of_mem_take hx')).2) Om
  rw [hlk] at q;exact q
 have hvr:=Reads.from_ zU hv hcap (yB ls)
 generalize yB ls=k at*
 generalize (ls.take k).flatten=part at*
 refine zF Tryz.func51 (zQ [] λb2=>x_callW (k:=90) (args:= #[]) [] λw0 hO0=> ?_)
 have hO0':Own [] W w0 [mvB b2 mv0]:=hO0.past 0 [mvB b2 mv0]
 refine (adders_any w0).mono λe w1 hq=> ?_
 obtain ⟨b,q1,q2,q3,q4⟩:=hq
 refine ⟨.map (some b),[b2],[mvB b2 mv0],q1,own_re hO0' q4, ?_⟩
 have hb2:b2<w0.heap.size:=hO0'.lt (x:=mvB b2 mv0) (by simp)
 have hbW:W.heap.size<=b2:=by
  rcases hO0'.base (mvB b2 mv0) (by simp) with h|h
  ·exact h
  ·cases h
 have hWw:YB W w1:=hO0'.below.trans (q4.mono hO0'.below.size)
 have hMb:∀ m∈[b2],W.heap.size<=m:=λm hm=>by rw [List.mem_singleton.1 hm];exact hbW
 have hbk:∀ {w:World} {L:List Blk},Own [b2] w1 w L->Own [] W w L:=λh=>own_back hWw hMb h
 have hmk:∀ {w:World} {L:List Blk},Own [b2] w1 w L->MapF w b:=λh=>q3.kept (h.kept b q3.lt (by simp only [List.mem_singleton];omega))
 have hvw:∀ {w:World} {L:List Blk},Own [b2] w1 w L->Reads zW w w.heap.size (some ⟨pb,po,none⟩) ls:=λh=>hv.on (hbk h).below (hbk h).below.size
 clear hO0 hO0' q4 hb2
 refine zQ [] λb5=>bN 18 [0] (.func (.func 92) #[] #[Zp b5 0]) (λw=>Kr) (z7 (v:=YI (behI ls)) [] (λw hO=>mIdx_any (some ⟨pb,po,none⟩) cap ls b5 b w (hvw hO) (λx hx'=>Nat.le_trans (hx x hx').1 (by decide)) Om ((hO.nth 0 (mpB b5 b)).get (i:=0) rfl) (hmk hO)) ?_)
 refine vS (α:=Int) 21 (λz=>[(0,.slice (some ⟨pb,po,none⟩) ls.length cap),(2,Zp b2 0),(5,Zp b5 0),(6,YI z)]) (λ_=>[mpB b5 b,mvB b2 mv0]) (λz=>z=(k:Int)) [] (λnj=>bO 21 (behI ls<0) (λh=>nj (ls.length:Int) [] (by
  rw [hbe] at h
  split at h
  ·omega
  ·omega) Kr) (λh=>nj (behI ls) [] (by
  rw [hbe] at h ⊢
  split at h
  ·next q=>rw [if_pos q]
  ·omega) Kr)) (λz g hz=> ?_)
 subst hz
 refine x_slhi 27 [] rfl ls.length cap 1 (k:Int) (by omega) (by omega) (.slice (some ⟨pb,po,none⟩) k cap) (by rw [Int.toNat_natCast]) (z7 (v:= .string (mkS part)) [] (λw hO=>hJ w (hvw hO)) (k7 (k:=11) (args:= #[.string (mkS part)]) (R:=λv ob=>∃ x:Rv,v= .tuple #[rvV x,YI (gG part).2.1,YI (gG part).2.2]/\x.rt=(gG part).1/\RecO x ob/\fY x.rt/\FewR x.rt 4096) [] (λw hO=>(qParse_any part w hfl (hK.on (hbk hO).below) (hL.on (hbk hO).below) hBn).mono λe w' h=> ?_) ?_))
 ·obtain ⟨x,ob',h1,h2,h3,h4,h5,h6⟩:=h.ex
  exact ⟨_,ob',h1,⟨x,rfl,h2,h3,h4,h5⟩,h6⟩
 rintro _ o1 ⟨x,rfl,hrt,hRo,hB,hF⟩
 refine zQ [] λb7=>vK 34 [0] ((gG part).2.1=0) (λh34=> ?_) (λh34=> ?_)
 rotate_left
 ·exact qA [2] 2 (mvV mv0) (YI (gG part).2.1) (YI (gG part).2.2) λw hO=>read_out (by rw [hRd,if_pos h34]) (hbk hO.no)
 rw [if_neg (λq=>q h34),←hrt] at hRd
 obtain ⟨R0,hR0⟩:∃ R,tlT ⟨x.rt,[],[]⟩ k (ls.drop k)=R:=⟨_,rfl⟩
 rw [hR0] at hRd
 refine zQ [0] λb10=>x_sllo 42 [0] rfl ls.length cap 1 (k:Int) Om Om (.slice (some ⟨pb,po+(if cap=k then 0 else k*1),none⟩) (ls.length-k) (cap-k)) (by rw [Int.toNat_natCast]) ?_
 refine zV [] (mvB b10 ⟨x,none,0,[],none,0,[]⟩::mpB b5 b::mvB b2 mv0::(o1++([]++[]))) (λw hO=>x2 [rvB b7 x] (hO.past 0 (mvB b10 ⟨x,none,0,[],none,0,[]⟩::rvB b7 x::mpB b5 b::mvB b2 mv0::o1)) λp=>by
  simp only [List.countP_append,List.countP_cons,List.countP_nil,List.cons_append,List.nil_append];omega) ?_
 refine zX (α:=Nat×Mv×List Blk×List Blk×List Blk) (λ(j,x,o1,o2,o3)=>[(2,Zp b2 0),(5,Zp b5 0),(6,YI (k:Int)),(10,Zp b10 0),(42,.slice (some ⟨pb,po+(if cap=k then 0 else k*1),none⟩) (ls.length-k) (cap-k)),(43,YI ((ls.length-k:Nat):Int)),(44,YI (j:Int))]) (λ(j,x,o1,o2,o3)=>mvB b10 x::mpB b5 b::mvB b2 mv0::(o1++(o2++o3))) (λ(j,x,o1,o2,o3) m=>RnI ls k R0 j x o1 o2 o3/\m=ls.length-k-j) (0,⟨x,none,0,[],none,0,[]⟩,o1,[],[]) (ls.length-k) [] ⟨⟨Nat.zero_le _,hR0,⟨hRo,Sl.nil _ _,Sl.nil _ _⟩,⟨hB,hF⟩,Nat.zero_le _⟩,rfl⟩ ?_
 clear hRo hB hF hrt hR0
 rintro ⟨j,x,o1,o2,o3⟩ mm g kk ⟨⟨hj,hres,hM,hbd,hcn⟩,hmm⟩ nx hkk
 subst hkk
 replace hj:j<=ls.length-k:=hj
 refine zG 45 [] ((j:Int)<((ls.length-k:Nat):Int)) (λh45=> ?_) (λh45=> ?_)
 rotate_left
 ·have hd:ls.drop (k+j)=[]:=List.drop_of_length_le Om
  rw [hd] at hres
  have hR:qI ls=(x.mt,0,0):=by rw [hRd,←hres];rfl
  exact qA [0,2] 2 (mvV x) (YI 0) (YI 0) λw hO=>⟨_,o1++(o2++o3),rfl,⟨x,o1,o2,o3,by rw [hR],by rw [hR],rfl,hM,hbd.1,hbd.2⟩,hbk (hO.past 3 (o1++(o2++o3)))⟩
 have hjl:j<ls.length-k:=by omega
 have hjd:j<(ls.drop k).length:=by rw [List.length_drop];exact hjl
 obtain ⟨eb,eo,hA2,hel⟩:=hvr.elem zU j hjd
 have hdr:ls.drop (k+j)=(ls.drop k)[j]::ls.drop (k+j+1):=by
  rw [List.getElem_drop]
  exact List.drop_eq_getElem_cons Om
 have hpx:=hx _ (List.mem_of_mem_drop (List.getElem_mem hjd))
 have hel0:∀ w,YB W w->(loadVar 9 ⟨eb,eo+j*1+0,none⟩).run YP w= .ok (.string (mkS (ls.drop k)[j])) w:=λw hw=>hel w hw _ 0 _ Kr
 generalize (ls.drop k)[j]=p at*
 have hwl:=word_le p
 rw [hdr,tlT] at hres
 have hbad:nY x.mt p=none→∀ (w:World) (L:List Blk),Own [b2] w1 w L→∃ v ob,Ending.returned (.tuple #[mvV mv0,YI 2,YI ((k+j+1:Nat):Int)])= .returned v/\ReadM ls v ob/\Own [] W w ob:=λh w L hO=>read_out (by rw [h] at hres;rw [hRd,←hres];rfl) (hbk hO.no)
 refine zO 47 [] hA2 (ls.length-k) (cap-k) j 1 hjl (zL 48 [] 9 eb (eo+j*1+0) (.string (mkS p)) (λw hO=>hel0 w (hbk hO).below) (z7 (v:= .tuple #[.string (mkS (kB p)),.string (mkS (kJ p)),.bool (pV p)]) [] (λw hO=>mSplit_any p w (by omega)) (pQ 54 [] (pV p) (λhend=> ?_) (λhend=> ?_))))
 rotate_left
 ·have ha:nY x.mt p=none:=by unfold nY;rw [if_pos hend]
  exact x_i 74 [] ((k+j:Nat):Int) (x_i 75 [] ((k+j+1:Nat):Int) (qA [2] 2 (mvV mv0) (YI 2) (YI ((k+j+1:Nat):Int)) λw hO=>hbad ha w _ hO))
 refine x_rd [1] (Instr.lookup 147 (.map (some b)) (.string (mkS (kB p))) false) (fnOf (kB p)) (λw hO=>(hmk hO).look Om) ?_
 rcases isTl_of p with ⟨hw,_,e2⟩|⟨hw,_,e2⟩|⟨hw1,hw2,_,e2⟩
 ·rw [e2]
  refine bN 61 [] Z5 (λw=>Kr) (x_rd [1] (Instr.lookup 147 (.map (some b)) (.string (mkS (kB p))) false) (fnOf (kB p)) (λw hO=>(hmk hO).look Om) ?_)
  rw [e2]
  have ha:nY x.mt p=if pinOk x.mt (kJ p) then some (addP x.mt (kJ p)) else none:=by unfold nY;rw [hend,if_neg Bool.noConfusion,if_pos hw]
  refine kH (k:=141) (args:= #[Zp b10 0,.string (mkS (kJ p))]) (Rr:=λv ob'=>∃ x' o2' o3',v= .bool (pinOk x.mt (kJ p))/\x'.mt=addP x.mt (kJ p)/\MnO x' o1 o2' o3'/\ob'=mvB b10 x'::(o1++(o2'++o3'))) [] (mvB b10 x::mpB b5 b::mvB b2 mv0::(o1++(o2++o3))) [mpB b5 b,mvB b2 mv0] (mvB b10 x::(o1++(o2++o3))) (λw hO=>x2 [] hO λp=>by
   simp only [List.countP_append,List.countP_cons,List.countP_nil,List.cons_append,List.nil_append];omega) (λw hO=>(addPin_any b10 x (kJ p) o1 o2 o3 w hM (Own.lentR hO) (by omega) (by omega)).mono λe w' h=> ?_) ?_
  ·obtain ⟨x',o2',o3',h1,h2,h3,h4⟩:=h
   exact ⟨_,_,h1,⟨x',o2',o3',rfl,h2,h3,rfl⟩,h4⟩
  rintro _ _ ⟨x',o2',o3',rfl,hmt,hM',rfl⟩
  refine zS 68 (pinOk x.mt (kJ p)) (λhok=> ?_) (λhok=> ?_)
  ·rw [hok,if_pos rfl] at ha
   rw [ha] at hres
   have hrc:x'.rec'.rt=x.rec'.rt:=congrArg Mt.rc hmt
   have hcn':x'.pins.length+x'.holds.length<=j+1:=by
    have h1:x'.pins=(addP x.mt (kJ p)).pins:=congrArg Mt.pins hmt
    have h2:x'.holds=(addP x.mt (kJ p)).holds:=congrArg Mt.holds hmt
    rw [h1,h2]
    show (x.pins++[_]).length+x.holds.length<=_
    rw [List.length_append,List.length_singleton];omega
   exact x_i 44 [] ((j+1:Nat):Int) (zV [] (mvB b10 x'::mpB b5 b::mvB b2 mv0::(o1++(o2'++o3'))) (λw hO=>x2 [] (hO.past 0 (mpB b5 b::mvB b2 mv0::mvB b10 x'::(o1++(o2'++o3')))) λp=>by
    simp only [List.countP_append,List.countP_cons,List.countP_nil,List.cons_append,List.nil_append];omega) (nx (j+1,x',o1,o2',o3') (ls.length-k-(j+1)) [] Om ⟨⟨hjl,by rw [hmt];exact hres,hM',by rw [hrc];exact hbd,hcn'⟩,rfl⟩ Kr Kr))
  ·rw [hok,if_neg Bool.false_ne_true] at ha
   exact x_i 74 [] ((k+j:Nat):Int) (x_i 75 [] ((k+j+1:Nat):Int) (qA [1] 1 (mvV mv0) (YI 2) (YI ((k+j+1:Nat):Int)) λw hO=>hbad ha w _ hO))
 ·rw [e2]
  refine bN 61 [] Z5 (λw=>Kr) (x_rd [1] (Instr.lookup 147 (.map (some b)) (.string (mkS (kB p))) false) (fnOf (kB p)) (λw hO=>(hmk hO).look Om) ?_)
  rw [e2]
  have hnp:¬ kB p=fD:=λq=>by rw [hw] at q;exact absurd q (by decide)
  have ha:nY x.mt p=if nU (kJ p) then some (addHo x.mt (kJ p)) else none:=by unfold nY;rw [hend,if_neg Bool.noConfusion,if_neg hnp,if_pos hw]
  refine kH (k:=142) (args:= #[Zp b10 0,.string (mkS (kJ p))]) (Rr:=λv ob'=>∃ x' o2' o3',v= .bool (nU (kJ p))/\x'.mt=addHo x.mt (kJ p)/\MnO x' o1 o2' o3'/\ob'=mvB b10 x'::(o1++(o2'++o3'))) [] (mvB b10 x::mpB b5 b::mvB b2 mv0::(o1++(o2++o3))) [mpB b5 b,mvB b2 mv0] (mvB b10 x::(o1++(o2++o3))) (λw hO=>x2 [] hO λp=>by
   simp only [List.countP_append,List.countP_cons,List.countP_nil,List.cons_append,List.nil_append];omega) (λw hO=>(addHold_any b10 x (kJ p) o1 o2 o3 w hM (Own.lentR hO) (by omega) (by omega)).mono λe w' h=> ?_) ?_
  ·obtain ⟨x',o2',o3',h1,h2,h3,h4⟩:=h
   exact ⟨_,_,h1,⟨x',o2',o3',rfl,h2,h3,rfl⟩,h4⟩
  rintro _ _ ⟨x',o2',o3',rfl,hmt,hM',rfl⟩
  refine zS 68 (nU (kJ p)) (λhok=> ?_) (λhok=> ?_)
  ·rw [hok,if_pos rfl] at ha
   rw [ha] at hres
   have hrc:x'.rec'.rt=x.rec'.rt:=congrArg Mt.rc hmt
   have hcn':x'.pins.length+x'.holds.length<=j+1:=by
    have h1:x'.pins=(addHo x.mt (kJ p)).pins:=congrArg Mt.pins hmt
    have h2:x'.holds=(addHo x.mt (kJ p)).holds:=congrArg Mt.holds hmt
    rw [h1,h2]
    show x.pins.length+(x.holds++[_]).length<=_
    rw [List.length_append,List.length_singleton];omega
   exact x_i 44 [] ((j+1:Nat):Int) (zV [] (mvB b10 x'::mpB b5 b::mvB b2 mv0::(o1++(o2'++o3'))) (λw hO=>x2 [] (hO.past 0 (mpB b5 b::mvB b2 mv0::mvB b10 x'::(o1++(o2'++o3')))) λp=>by
    simp only [List.countP_append,List.countP_cons,List.countP_nil,List.cons_append,List.nil_append];omega) (nx (j+1,x',o1,o2',o3') (ls.length-k-(j+1)) [] Om ⟨⟨hjl,by rw [hmt];exact hres,hM',by rw [hrc];exact hbd,hcn'⟩,rfl⟩ Kr Kr))
  ·rw [hok,if_neg Bool.false_ne_true] at ha
   exact x_i 74 [] ((k+j:Nat):Int) (x_i 75 [] ((k+j+1:Nat):Int) (qA [1] 1 (mvV mv0) (YI 2) (YI ((k+j+1:Nat):Int)) λw hO=>hbad ha w _ hO))
 ·rw [e2]
  have ha:nY x.mt p=none:=by unfold nY;rw [hend,if_neg Bool.noConfusion,if_neg hw1,if_neg hw2]
  exact bN 61 [] Z4 (λw=>Kr) (x_i 74 [] ((k+j:Nat):Int) (x_i 75 [] ((k+j+1:Nat):Int) (qA [2] 2 (mvV mv0) (YI 2) (YI ((k+j+1:Nat):Int)) λw hO=>hbad ha w _ hO)))
end
section
set_option linter.unnecessarySimpa false
theorem mRead0_any (W:World)(hK:RecLib W)(hL:LyAt W):YC 51 #[.slice none 0 0] W λe w'=>∃ v ob,e= .returned v/\ReadM [] v ob/\Own [] W w' ob:=by
 have hRd:qI []=(nilM,2,1):=by decide+kernel
 have hr:(gG []).2.1=2/\(gG []).2.2=1:=by decide+kernel
 have hJ:∀ w,YC 94 #[.slice none 0 0,.string ⟨#[]⟩] w (YR (.string (mkS [])) w):=λw=>join_none [] none 0 w
 refine zF Tryz.func51 (zQ [] λb2=>x_callW (k:=90) (args:= #[]) [] λw0 hO0=> ?_)
 have hO0':Own [] W w0 [mvB b2 mv0]:=hO0.past 0 [mvB b2 mv0]
 refine (adders_any w0).mono λe w1 hq=> ?_
 obtain ⟨b,q1,q2,q3,q4⟩:=hq
 refine ⟨.map (some b),[b2],[mvB b2 mv0],q1,own_re hO0' q4, ?_⟩
 have hb2:b2<w0.heap.size:=hO0'.lt (x:=mvB b2 mv0) (by simp)
 have hbW:W.heap.size<=b2:=by
  rcases hO0'.base (mvB b2 mv0) (by simp) with h|h
  ·exact h
  ·cases h
 have hWw:YB W w1:=hO0'.below.trans (q4.mono hO0'.below.size)
 have hMb:∀ m∈[b2],W.heap.size<=m:=λm hm=>by rw [List.mem_singleton.1 hm];exact hbW
 have hbk:∀ {w:World} {L:List Blk},Own [b2] w1 w L->Own [] W w L:=λh=>own_back hWw hMb h
 have hmk:∀ {w:World} {L:List Blk},Own [b2] w1 w L->MapF w b:=λh=>q3.kept (h.kept b q3.lt (by simp only [List.mem_singleton];omega))
 clear hO0 hO0' q4 hb2
 refine zQ [] λb5=>bN 18 [0] (.func (.func 92) #[] #[Zp b5 0]) (λw=>Kr) (z7 (v:=YI (-1)) [] (λw hO=>mIdx_any none 0 [] b5 b w (λh=>by simp at h) (λx hx=>by cases hx) (by decide) ((hO.nth 0 (mpB b5 b)).get (i:=0) rfl) (hmk hO)) (bN 27 [] (.slice none 0 0) (λw=>Kr) (z7 (v:= .string (mkS [])) [] (λw hO=>hJ w) ?_)))
 refine k7 (k:=11) (args:= #[.string (mkS [])]) (R:=λv ob=>∃ x:Rv,v= .tuple #[rvV x,YI 2,YI 1]) [] (λw hO=>(qParse_any [] w (by decide) (hK.on (hbk hO).below) (hL.on (hbk hO).below) (λ_ h=>absurd h (by decide))).mono λe w' h=> ?_) ?_
 ·obtain ⟨x,ob',h1,_,_,_,_,h6⟩:=h.ex
  rw [hr.1,hr.2] at h1
  exact ⟨_,ob',h1,⟨x,rfl⟩,h6⟩
 rintro _ o1 ⟨x,rfl⟩
 exact zQ [] λb7=>qA [0,2] 2 (mvV mv0) (YI 2) (YI 1) λw hO=>read_out hRd (hbk hO.no)
def ParM (s:YL)(v:Value)(ob:List Blk):Prop:=∃ (x:Mv) (o1 o2 o3:List Blk),v= .tuple #[mvV x,YI (g6 s).2.1,YI (g6 s).2.2]/\x.mt=(g6 s).1/\ob=o1++(o2++o3)/\MnO x o1 o2 o3/\fY x.rec'.rt/\FewR x.rec'.rt 4096
theorem tV (s:YL)(W:World)(hs:s.length<=1048576)(hK:RecLib W)(hL:LyAt W)(hk5:yB (yL [] s)<=5000)(hBn:(((yL [] s).take (yB (yL [] s))).flatten).length<=4096->j9 (((yL [] s).take (yB (yL [] s))).flatten)=0->fY (recA (((yL [] s).take (yB (yL [] s))).flatten)))(hH:(qI (yL [] s)).2.1=0→∀ y∈(qI (yL [] s)).1.holds,GqR y.rg):YC 23 #[.string (mkS s)] W λe w'=>∃ v ob,e= .returned v/\ParM s v ob/\Own [] W w' ob:=by
 have hout:∀ (z k:Int) (w:World),g6 s=(nilM,z,k)->Own [] W w []→∃ v ob,Ending.returned (.tuple #[mvV mv0,YI z,YI k])= .returned v/\ParM s v ob/\Own [] W w ob:=λz k w e hO=>⟨_,[],rfl,⟨mv0,[],[],[],by rw [e],by rw [e];rfl,rfl,mv0_o,bnd_nil,few0⟩,hO⟩
 refine zF Tryz.func23 (zQ [] λb2=>zG 10 [] ((s.length:Int)>8192) (λh10=> ?_) (λh10=> ?_))
 ·exact qA [0] 0 (mvV mv0) (YI 3) (YI 0) λw hO=>hout 3 0 w (by unfold g6;rw [if_pos Om]) hO.no
 have hs5:s.length<=8192:=by omega
 have hI:g6 s=if (qI (yL [] s)).2.1≠0 then qI (yL [] s) else if (x5 (qI (yL [] s)).1).1≠0 then (nilM,(x5 (qI (yL [] s)).1).1,0) else ((qI (yL [] s)).1,0,0):=by unfold g6;rw [if_neg Om]
 have hRn:(qI (yL [] s)).2.1≠0->(qI (yL [] s)).1=nilM:=λh=>by
  unfold qI at h ⊢
  split
  ·rfl
  ·next q=>
   rw [if_neg q] at h
   unfold outM at h ⊢
   split
   ·next q2=>rw [q2] at h;exact absurd rfl h
   ·rfl
 obtain ⟨hl1,hl2⟩:=lns_all s.length s (Nat.le_refl _)
 have hcl:∀ w,YC 31 #[.string (mkS s)] w (YR (.string (mkS s)) w):=λw=>qZ s w Om
 refine z7 (v:= .string (mkS s)) [] (λw hO=>hcl w) (k7 (R:=λv ob=>∃ B,v= .func (.func 96) #[] #[Zp B 0]/\ob=[yN B s]) [] (λw hO=>qLines_any s w) ?_)
 rintro v ob2 ⟨B,rfl,rfl⟩
 refine kH (k:=52) (args:= #[.func (.func 96) #[] #[Zp B 0]]) (Rr:=λv ob'=>∃ o,ob'=yN B []::o/\SlT v (yL [] s) o) [] (mvB b2 mv0::[yN B s]) [mvB b2 mv0] [yN B s] (λw hO=>hO) (λw hO=>(col_any B s w (Own.lentR hO) Om).mono λe w' ⟨v,o,q1,q2,q3⟩=>⟨v,_,q1,⟨o,rfl,q2⟩,q3⟩) ?_
 rintro v _ ⟨o,rfl,hS⟩
 have hfl:(((yL [] s).take (yB (yL [] s))).flatten).length<=1048576:=by
  have h1:((yL [] s).flatten).length<=s.length:=by rw [lnsP_flat];exact Nat.le_refl _
  have h2:=congrArg List.length (congrArg List.flatten (List.take_append_drop (yB (yL [] s)) (yL [] s)))
  rw [List.flatten_append,List.length_append] at h2
  omega
 have hsh:=read_short (ls:=yL [] s) (B:=1048576) λx hx=>Nat.le_trans (hl2 x hx).1 Om
 have hz:=read_zero (ls:=yL [] s)
 have hread:∀ w,Own [] W w o->YC 51 #[v] w λe w'=>∃ v ob,e= .returned v/\ReadM (yL [] s) v ob/\Own [] w w' ob:=λw hO=>by
  have hS':=hS
  rcases hS'.2 with ⟨h1,h2,_⟩|⟨g,cap,cur,h1,h2,h3,_⟩
  ·have h0:yL [] s=[]:=List.length_eq_zero_iff.1 (by simpa using h2)
   rw [h0,h1]
   exact mRead0_any w (hK.on hO.below) (hL.on hO.below)
  ·rw [h1]
   rw [h1] at hS
   exact mRead_any g 0 cap (yL [] s) w (SlT.reads hS rfl hO λb h=>h) (SlT.caps hS).2 Om (λx hx=>⟨by have:=(hl2 x hx).1;omega,(hl2 x hx).2⟩) (hK.on hO.below) (hL.on hO.below) hk5 hfl hBn
 refine k7 (k:=51) (args:= #[v]) (R:=ReadM (yL [] s)) [] (λw hO=>hread w (hO.past 2 o)) ?_
 rintro _ _ ⟨x,o1,o2,o3,rfl,hmt,rfl,hM,hB,hF⟩
 have hpair:qI (yL [] s)=(x.mt,(qI (yL [] s)).2.1,(qI (yL [] s)).2.2):=by rw [hmt]
 rw [←hmt] at hI hH hsh hRn
 generalize (qI (yL [] s)).2.1=z1 at*
 generalize (qI (yL [] s)).2.2=z2 at*
 refine zQ [] λb5=>zG 22 [0] (z1=0) (λh22=> ?_) (λh22=> ?_)
 ·obtain rfl:z2=0:=hz h22
  have hH':=hH h22
  have hck:∀ w,Own [] W w (mvB b5 x::mvB b2 mv0::yN B []::(o++(o1++(o2++o3))))->YC 19 #[mvV x] w (YR (.tuple #[YI (x5 x.mt).1,YI (x5 x.mt).2]) w):=λw hO=>
   mG x w (hM.inn hO (λb hb=>by simp only [List.mem_cons,List.mem_append] at hb ⊢;exact .inr (.inr (.inr (.inr hb)))) hB hF hsh.1 (by have:=hsh.2;have e:x.pins.length+x.holds.length=x.mt.pins.length+x.mt.holds.length:=rfl;omega) hH') (hK.on hO.below)
  refine z7 (v:= .tuple #[YI (x5 x.mt).1,YI (x5 x.mt).2]) [0] (λw hO=>hck w (hO.past 0 (mvB b5 x::mvB b2 mv0::yN B []::(o++(o1++(o2++o3)))))) (vK 29 [] ((x5 x.mt).1=0) (λh29=> ?_) (λh29=> ?_))
  ·have e:g6 s=(x.mt,0,0):=by rw [hI,if_neg (λq=>q h22),if_neg (λq=>q h29)]
   exact qA [0,1] 1 (mvV x) (YI 0) (YI 0) λw hO=>⟨_,o1++(o2++o3),rfl,⟨x,o1,o2,o3,by rw [e],by rw [e],rfl,hM,hB,hF⟩,(hO.past 3 (o++(o1++(o2++o3)))).sublist (List.sublist_append_right _ _)⟩
  ·exact qA [1] 1 (mvV mv0) (YI (x5 x.mt).1) (YI 0) λw hO=>hout _ _ w (by rw [hI,if_neg (λq=>q h22),if_pos h29]) hO.no
 ·have e:g6 s=(nilM,z1,z2):=by rw [hI,if_pos h22,hpair,hRn h22]
  exact vK 29 [] (z1=0) (λh=>absurd h h22) λ_=>qA [1] 1 (mvV mv0) (YI z1) (YI z2) λw hO=>hout _ _ w e hO.no
end
section
theorem fm_count {α:Type}(f:α->YL)(h:∀ x,1<=(f x).length):∀ l:List α,l.length<=(l.flatMap f).length
 | []=>Nat.zero_le _
 |x::l=>by
  have:=fm_count f h l
  have:=h x
  rw [List.flatMap_cons,List.length_append,List.length_cons];omega
theorem chk_bnd {r:Rt}(h:(zM r).1=0):fY r/\FewR r 4096:=by
 obtain ⟨h1,h2,h3,h4,h5,h6⟩:=gN h
 obtain ⟨pn,pb,_,_⟩:=bU h5
 have hl:(gX r).length+(r.fts.flatMap kL).length<=4096:=by
  unfold yV at h6
  simp only [List.length_append] at h6;omega
 have hv:r.ver.pre.length<=4096/\r.ver.build.length<=4096:=by
  have e:r.ver.print=jG r.ver++x8 45 r.ver.pre++x8 43 r.ver.build:=by unfold Ver.print Ver.text;rw [if_pos h2]
  have hh:(gX r).length<=4096:=by omega
  unfold gX at hh
  rw [e] at hh
  have ht:∀ (c:UInt8) (l:YL),l.length<=(x8 c l).length:=λc l=>by
   unfold x8;cases l<;>simp
  have a:=ht 45 r.ver.pre
  have b:=ht 43 r.ver.build
  simp only [List.length_append] at hh
  omega
 have hf:∀ f∈r.fts,(kL f).length<=4096:=λf hf=>Nat.le_trans (fm_one kL hf) Om
 refine ⟨⟨Nat.le_trans (kR h1) (by decide),by omega,by omega,λn hn=> ?_,λb hb=> ?_,λf hm=> ?_⟩,⟨by omega,by omega,Nat.le_trans (fm_count kL (λf=>by unfold kL;simp) r.fts) (by omega),λn hn=>by have:=(bM (pn n hn)).2.1;omega⟩⟩
 ·obtain ⟨_,_,q3,q4,q5⟩:=bM (pn n hn)
  refine ⟨gdM_of q4, ?_,λu hu=> ?_⟩
  ·rcases q5 with e|e
   ·rw [e];exact Nat.zero_le _
   ·exact Nat.le_trans (nE e) (by decide)
  ·obtain ⟨u1,u2,u3⟩:=fC (q3 u hu)
   unfold vF at u3
   simp only [Bool.and_eq_true,decide_eq_true_eq,List.all_eq_true] at u3
   exact ⟨Nat.le_trans (kR u1) (by decide),wG u2,by omega,λt ht=>Nat.le_trans (nE (u3.1.1.1 t ht)) (by decide)⟩
 ·obtain ⟨q1,q2,q3⟩:=bar_fine (pb b hb)
  exact ⟨Nat.le_trans (kR q1) (by decide),wG q2,gdM_of q3⟩
 ·have hq:=hf f hm
  unfold kL at hq
  rw [List.length_append,List.length_singleton] at hq
  have hp:=λx (hx:x∈y9::f.name::f.of)=>jn_part 32 hx
  have hc:=jn_many 32 (l:=y9::f.name::f.of)
  simp only [List.length_cons] at hc
  refine ⟨by have:=hp f.name (by simp);omega,by omega,λt ht=>by have:=hp t (by simp [ht]);omega⟩
end
section
set_option linter.unnecessarySimpa false
def awA:YL:=[112,97,99,107,97,103,101,32,97,112,112,32,49,46,48,46,48,10,112,105,110,32,98,32,111,110,101,10,104,111,108,100,32,98,32,60,50,10]
def awB:YL:=[112,97,99,107,97,103,101,32,97,112,112,32,49,46,48,46,48,10,104,111,108,100,32,98,32,60,50,10,112,105,110,32,98,32,111,110,101,10]
theorem awA_is:(g6 awA).2.1=0/\(g6 awA).2.2=0/\(g6 awA).1.pins.length=1/\(g6 awA).1.holds.length=1/\(x5 (g6 awA).1).1=0/\(bH (g6 awA).1).length=38:=by decide+kernel
theorem awA_short:(∀ p∈(g6 awA).1.pins,p.name.length<=1048576/\p.shelf.length<=1048576)∧∀ y∈(g6 awA).1.holds,(y.name.length<=1048576/\y.rg.length<=1048576)/\yH y.rg=true:=by decide+kernel
theorem awB_is:(g6 awB).2.1=2/\(g6 awB).2.2=3:=by decide+kernel
theorem bnd_of {s:YL}(h:(zM (recA s)).1=0):s.length<=4096->j9 s=0->fY (recA s):=λ_ _=>(chk_bnd h).1
theorem parA_any (W:World)(hK:RecLib W)(hL:LyAt W):YC 23 #[.string (mkS awA)] W λe w'=>∃ v ob,e= .returned v/\(∃ (x:Mv) (o1 o2 o3:List Blk),v= .tuple #[mvV x,YI 0,YI 0]/\x.mt=(g6 awA).1/\ob=o1++(o2++o3)/\MnO x o1 o2 o3/\fY x.rec'.rt/\FewR x.rec'.rt 4096)/\Own [] W w' ob:=
 (tV awA W (by decide) hK hL (by decide+kernel) (bnd_of (by decide+kernel)) (λ_ y hy=>dX (wG ((show ∀ y∈(qI (yL [] awA)).1.holds,yH y.rg=true by decide+kernel) y hy)))).mono λe w' ⟨v,ob,h1,⟨x,o1,o2,o3,h2,h3,h4,h5,h6,h7⟩,h8⟩=>⟨v,ob,h1,⟨x,o1,o2,o3,by rw [h2,awA_is.1,awA_is.2.1],h3,h4,h5,h6,h7⟩,h8⟩
theorem parB_any (W:World)(hK:RecLib W)(hL:LyAt W):YC 23 #[.string (mkS awB)] W λe w'=>∃ v ob,e= .returned v/\(∃ x:Mv,v= .tuple #[mvV x,YI 2,YI 3])/\Own [] W w' ob:=
 (tV awB W (by decide) hK hL (by decide+kernel) (bnd_of (by decide+kernel)) (λ_ y hy=>dX (wG ((show ∀ y∈(qI (yL [] awB)).1.holds,yH y.rg=true by decide+kernel) y hy)))).mono λe w' ⟨v,ob,h1,⟨x,o1,o2,o3,h2,h3,h4,h5,h6,h7⟩,h8⟩=>⟨v,ob,h1,⟨x,by rw [h2,awB_is.1,awB_is.2]⟩,h8⟩
theorem dP (W:World)(hK:RecLib W)(hL:LyAt W):YC 18 #[] W (YR (.bool true) W):=by
 refine zF Tryz.func18 (k7 (k:=23) (args:= #[.string (mkS awA)]) [] (λw hO=>parA_any w (hK.on hO.below) (hL.on hO.below)) ?_)
 rintro _ _ ⟨x,o1,o2,o3,rfl,hmt,rfl,hM,hB,hF⟩
 obtain ⟨_,_,hp1,hh1,hck,hlen⟩:=awA_is
 have hsh:=awA_short
 rw [←hmt] at hp1 hh1 hck hlen hsh
 replace hp1:x.pins.length=1:=hp1
 replace hh1:x.holds.length=1:=hh1
 have hin:∀ w,Own [] W w (o1++(o2++o3))->MnIn w w.heap.size x:=λw hO=>hM.inn hO (λb hb=>hb) hB hF ⟨hsh.1,λy hy=>(hsh.2 y hy).1⟩ Om λy hy=>dX (wG (hsh.2 y hy).2)
 have hpr:prMn x.mt=bH x.mt:=if_pos hck
 have cP:∀ w,Own [] W w (o1++(o2++o3))->YC 21 #[mvV x] w (YR (.tuple #[.string (mkS (bH x.mt)),YI 0]) w):=λw hO=>by
  have h:=tU x w (hin w hO) (hK.on hO.below)
  rw [hpr,hck] at h;exact h
 generalize bH x.mt=T at*
 clear hin hM hB hF hsh
 refine zQ [] λb1=>z7 (v:= .tuple #[.string (mkS T),YI 0]) [0,0] (λw hO=>cP w (hO.past 1 (o1++(o2++o3)))) (k7 (k:=23) (args:= #[.string (mkS awB)]) [] (λw hO=>parB_any w (hK.on hO.below) (hL.on hO.below)) ?_)
 rintro _ ob2 ⟨y,rfl⟩
 refine zQ [] λb6=>zG 38 [0,1] ((x.pins.length:Int)=1) (λ_=> ?_) (λh=>absurd Om h)
 refine zG 44 [1] ((x.holds.length:Int)=1) (λ_=> ?_) (λh=>absurd Om h)
 refine zG 49 [] ((T.length:Int)=38) (λ_=> ?_) (λh=>absurd Om h)
 exact z8 [] Z4 λw hO=>⟨rfl,hO.below⟩
end
section
theorem nmF_word:∀ j,j<4->wdL (nmF j)=true/\(zJ (nmF j)).1=1/\(zJ (nmF j)).2.1=nmF j
 |0,_=>⟨by kernel_rfl,by kernel_rfl,by kernel_rfl⟩
 |1,_=>⟨by kernel_rfl,by kernel_rfl,by kernel_rfl⟩
 |2,_=>⟨by kernel_rfl,by kernel_rfl,by kernel_rfl⟩
 |3,_=>⟨by kernel_rfl,by kernel_rfl,by kernel_rfl⟩
theorem opt_kind:∀ j,j<4->(zJ ([63]++gW j)).1=2
 |0,_=>by kernel_rfl
 |1,_=>by kernel_rfl
 |2,_=>by kernel_rfl
 |3,_=>by kernel_rfl
theorem pull_kind:∀ j,j<5->(zJ (zN j++[47]++[120])).1=3
 |0,_=>by kernel_rfl
 |1,_=>by kernel_rfl
 |2,_=>by kernel_rfl
 |3,_=>by kernel_rfl
 |4,_=>by kernel_rfl
def four (a b c d:Bool):List YL:=(if a then [nmF 0] else [])++((if b then [nmF 1] else [])++((if c then [nmF 2] else [])++if d then [nmF 3] else []))
theorem rise_16:∀ a b c d,x9 (four a b c d)=true:=by decide
theorem rise_four (keep:Nat->Bool):x9 (((List.range 4).filter keep).map nmF)=true:=by
 have e:List.range 4=[0,1,2,3]:=rfl
 have h:=rise_16 (keep 0) (keep 1) (keep 2) (keep 3)
 rw [e]
 unfold four at h
 cases h0:keep 0<;>cases h1:keep 1<;>cases h2:keep 2<;>cases h3:keep 3<;>simp only [h0,h1,h2,h3] at h<;>simpa [List.filter,h0,h1,h2,h3] using h
theorem feats_may {own:Nat}{keep:Nat->Bool}{x:Rv}(h:RecG own keep x):vM (yC x.fts)=true:=by
 have hn:(yC x.fts).map Ft.name=((List.range 4).filter keep).map nmF:=by
  rw [←h.fts.names];unfold yC;rw [List.map_map];rfl
 have hin:∀ f∈yC x.fts,∃ j,j<4/\f.name=nmF j:=λf hf=>by
  have:f.name∈(yC x.fts).map Ft.name:=List.mem_map_of_mem hf
  rw [hn] at this
  obtain ⟨j,hj,e⟩:=List.mem_map.1 this
  exact ⟨j,List.mem_range.1 (List.mem_filter.1 hj).1,e.symm⟩
 have his:∀ j,j<4->keep j=true->isT (yC x.fts) (nmF j)=true:=λj hj hk=>by
  have:nmF j∈(yC x.fts).map Ft.name:=by rw [hn];exact List.mem_map_of_mem (List.mem_filter.2 ⟨List.mem_range.2 hj,hk⟩)
  obtain ⟨f,hf,e⟩:=List.mem_map.1 this
  unfold isT findT
  rw [Bool.or_eq_true]
  exact .inr (List.findIdx?_isSome.trans (List.any_eq_true.2 ⟨f,hf,decide_eq_true e⟩))
 unfold vM
 simp only [Bool.and_eq_true,decide_eq_true_eq,List.all_eq_true]
 refine ⟨⟨⟨?_,λf hf=> ?_⟩,by rw [hn];exact rise_four keep⟩,λf hf=> ?_⟩
 ·have e:=congrArg List.length hn
  rw [List.length_map,List.length_map] at e
  have:=List.length_filter_le keep (List.range 4)
  rw [List.length_range] at this;omega
 ·obtain ⟨j,hj,e⟩:=hin f hf
  rw [e];exact (nmF_word j hj).1
 ·obtain ⟨y,hy,rfl⟩:=List.mem_map.1 hf
  have hg:=h.fts.each y hy
  unfold xF
  simp only [Bool.and_eq_true,decide_eq_true_eq,List.all_eq_true]
  refine ⟨⟨Nat.le_trans hg.len Om,hg.rise⟩,λs hs=> ?_⟩
  unfold qN
  simp only [Bool.and_eq_true,Bool.or_eq_true,decide_eq_true_eq]
  rcases hg.all s hs with ⟨m,hm,hne,rfl⟩|⟨m,hm,w,hw,rfl⟩|⟨j,hj,hk,rfl⟩
  ·rcases (h.needs m hm).opt with e|⟨j,hj,e⟩
   ·exact absurd e hne
   ·rw [e,opt_kind j hj];exact ⟨by omega,.inl Om⟩
  ·have key:∀ (a:Bool) (u:Wv),tB own a u->(zJ (u.name++[47]++[120])).1=3:=λa u hu=>by
    obtain ⟨k,_,e⟩:=hu.name
    rw [e];exact pull_kind _ Om
   have h3:(zJ (w.name++[47]++[120])).1=3:=by
    rcases (h.needs m hm).any with ⟨u,e,hu⟩|⟨u,z,e,_,_⟩
    ·rw [hw] at e;injection e with e1 _;rw [e1];exact key _ _ hu
    ·rw [hw] at e;simp at e
   rw [h3];exact ⟨by omega,.inl Om⟩
  ·obtain ⟨_,k1,k2⟩:=nmF_word j hj
   rw [k1,k2];exact ⟨by omega,.inr (his j hj hk)⟩
end
section
theorem check_is {r:Rt}(h1:nmL r.name=true)(h2:r.ver.may=true)(h3:r.needs.length<=8)(h4:r.bars.length<=8)(h5:∀ n∈r.needs,xR r.name n=0)(h6:∀ b∈r.bars,qM r.name b=0)(h7:vM r.fts=true)(h8:∀ f∈r.fts,yK (yY r.needs) f.of=0)(h9:(yV r).length<=4096):zM r=(0,0):=by
 have hp:kF r=(0,0):=by
  unfold kF
  rw [kU h5,if_neg (by simp),kU h6,if_neg (by simp),if_neg (by simp [h7]),kU h8]
 unfold zM
 rw [if_neg (by simp [h1]),if_neg (by simp [h2]),if_neg Om,hp,if_neg (by simp),if_neg Om]
theorem few_all12:∀ op∈[(7:Int),6,3,1,2],∀ a:Nat,a<3→∀ b:Nat,b<2->yH (Co.print ⟨op,3,⟨(a:Int),(b:Int),0,[],[]⟩⟩)=true:=by decide+kernel
theorem few_plain {t:YL}(h:FewT t):yH t=true:=by
 rcases h with rfl|⟨c,hc,rfl⟩
 ·decide+kernel
 ·obtain ⟨a,b,ha,hb,hv⟩:=hc.v
  have e:c=⟨c.op,3,⟨(a:Int),(b:Int),0,[],[]⟩⟩:=by rw [←hv,←hc.parts]
  rw [e]
  refine few_all12 c.op ?_ a ha b hb
  rcases hc.op with e|e|e|e|e<;>rw [e]<;>decide
theorem when_all:∀ k:Nat,k<3→∀ c:Nat,c<2→∀ j:Nat,j<4->yT (dD k++pR c++gW j)=true:=by decide+kernel
theorem tG {t:YL}(h:WhenT t):yT t=true:=by
 rcases h with rfl|⟨k,c,j,hk,rfl⟩
 ·decide+kernel
 ·have hj:∃ i,i<4/\gW j=gW i:=by
   by_cases h:j<4
   ·exact ⟨j,h,rfl⟩
   ·exact ⟨3,by decide,by unfold gW;rw [if_neg Om,if_neg Om,if_neg Om];rfl⟩
  have hc:∃ i,i<2/\pR c=pR i:=by
   by_cases h:c<2
   ·exact ⟨c,h,rfl⟩
   ·exact ⟨1,by decide,by unfold pR;rw [if_neg Om];rfl⟩
  obtain ⟨i,hi,e⟩:=hj
  obtain ⟨d,hd,e2⟩:=hc
  rw [e,e2];exact when_all k hk d hd i hi
theorem nameT_apart:∀ a:Nat,a<5→∀ b:Nat,b<5->a≠b->zN a≠zN b:=by decide
theorem kind_opt:∀ j:Nat,j<4->zJ ([63]++gW j)=(2,gW j,[]):=by decide+kernel
theorem kind_pull:∀ j:Nat,j<5->zJ (zN j++[47]++[120])=(3,zN j,[120]):=by decide+kernel
theorem verG_all:∀ a:Nat,a<3→∀ b:Nat,b<2→∀ q∈[(([]:YL),([]:YL)),([114,99,46,49],[]),([],[55])],(Ver.mk a b 0 q.1 q.2).may=true/\(Ver.mk a b 0 q.1 q.2).print.length<=20:=by decide+kernel
theorem tF {own:Nat}{al:Bool}{u:Wv}(h:tB own al u):kC (zN (own % 5)) u.wt al=0:=by
 obtain ⟨k,hk,e⟩:=h.name
 have hne:u.name≠zN (own % 5):=by rw [e];exact nameT_apart _ Om _ Om Om
 have hf:vF u.fs al=true:=by
  rcases h.fs with e|⟨ha,e|e⟩
  ·rw [e];cases al<;>decide
  ·rw [e,ha];decide
  ·rw [e,ha];decide
 unfold kC
 rw [if_neg (show ¬ nmL u.wt.name=false by rw [show u.wt.name=u.name from rfl,e,wP];simp),if_neg (show ¬ u.wt.name=_ from hne),if_neg (show ¬ yH u.wt.rng=false by rw [show u.wt.rng=u.rng from rfl,few_plain h.rng];simp),if_neg (show ¬ vF u.wt.fs al=false by rw [show u.wt.fs=u.fs from rfl,hf];simp)]
theorem need_zero {own:YL}{n:Nt}(h1:n.any≠[])(h2:n.any.length<=3)(h3:∀ x∈n.any,kC own x (decide (n.any.length=1))=0)(h4:yT n.wh=true)(h5:n.opt=[]\/wdL n.opt=true):xR own n=0:=by
 unfold xR
 rw [if_neg h1,if_neg Om,if_neg (by rw [v8 h3];simp),if_neg (by simp [h4]),if_neg (λh=>by
  rcases h5 with e|e
  ·exact h.1 e
  ·rw [e] at h;exact absurd h.2 (by simp))]
theorem needG_zero {own:Nat}{n:Nv}(h:NeedG own n):xR (zN (own % 5)) n.nt=0:=by
 have hop:n.nt.opt=[]\/wdL n.nt.opt=true:=by
  rcases h.opt with e|⟨j,_,e⟩
  ·exact .inl e
  ·exact .inr (by rw [show n.nt.opt=n.opt from rfl,e];exact wordT_ok j)
 rcases h.any with ⟨w,e,hw⟩|⟨w,u,e,hw,hu⟩
 ·have e':n.nt.any=[w.wt]:=by unfold Nv.nt;rw [e];rfl
  refine need_zero (by rw [e'];simp) (by rw [e'];simp) (λx hx=> ?_) (tG h.wh) hop
  rw [e'] at hx ⊢
  rw [List.mem_singleton.1 hx];exact tF hw
 ·have e':n.nt.any=[w.wt,u.wt]:=by unfold Nv.nt;rw [e];rfl
  refine need_zero (by rw [e'];simp) (by rw [e'];simp) (λx hx=> ?_) (tG h.wh) hop
  rw [e'] at hx ⊢
  simp only [List.mem_cons,List.not_mem_nil,or_false] at hx
  rcases hx with rfl|rfl
  ·exact tF hw
  ·exact tF hu
theorem barG_zero {own:Nat}{b:Bv}(h:BarG own b):qM (zN (own % 5)) b.bt=0:=by
 obtain ⟨k,hk,e⟩:=h.name
 have hne:b.name≠zN (own % 5):=by rw [e];exact nameT_apart _ Om _ Om Om
 unfold qM
 rw [if_neg (show ¬ nmL b.bt.name=false by rw [show b.bt.name=b.name from rfl,e,wP];simp),if_neg (show ¬ b.bt.name=_ from hne),if_neg (show ¬ yH b.bt.rng=false by rw [show b.bt.rng=b.rng from rfl,few_plain h.rng];simp),if_neg (show ¬ yT b.bt.wh=false by rw [show b.bt.wh=b.wh from rfl,tG h.wh];simp)]
theorem item_zero {own:Nat}{keep:Nat->Bool}{x:Rv}(h:RecG own keep x){s:YL}(hs:ItemG x.needs keep s):yY x.rt.needs s=0/\s.length<=7:=by
 unfold yY wordOf
 rcases hs with ⟨m,hm,hne,rfl⟩|⟨m,hm,w,hw,rfl⟩|⟨j,hj,hk,rfl⟩
 ·rcases (h.needs m hm).opt with e|⟨j,hj,e⟩
  ·exact absurd e hne
  ·have ho:optR x.rt.needs m.opt=true:=by
    unfold optR
    exact List.any_eq_true.2 ⟨m.nt,List.mem_map_of_mem hm,decide_eq_true rfl⟩
   have h4:=tD j
   rw [e] at ho ⊢
   rw [kind_opt j hj]
   refine ⟨?_,by rw [List.length_append];simp only [List.length_cons,List.length_nil];omega⟩
   rw [if_neg (λq=>by rw [ho] at q;exact absurd q.2 (by simp)),if_neg (λq=>absurd (show (2:Int)=3 from q.1) (by decide))]
 ·have key:∃ a,tB own a w:=by
   rcases (h.needs m hm).any with ⟨u,e,hu⟩|⟨u,z,e,_,_⟩
   ·rw [hw] at e;injection e with e1 _;exact ⟨true,e1▸hu⟩
   ·rw [hw] at e;simp at e
  obtain ⟨a,hu⟩:=key
  obtain ⟨k,hk,e⟩:=hu.name
  have hp:pulR x.rt.needs w.name=true:=by
   unfold pulR
   refine List.any_eq_true.2 ⟨m.nt,List.mem_map_of_mem hm, ?_⟩
   unfold pulN Nv.nt
   rw [hw]
   exact decide_eq_true rfl
  have h4:=nameT_len ((own+1+k) % 5)
  rw [e] at hp ⊢
  rw [kind_pull _ Om]
  refine ⟨?_,by simp only [List.length_append,List.length_cons,List.length_nil];omega⟩
  rw [if_neg (λq=>absurd (show (3:Int)=2 from q.1) (by decide)),if_neg (λq=>by rw [hp] at q;exact absurd q.2 (by simp))]
 ·obtain ⟨_,k1,_⟩:=nmF_word j hj
  rw [k1]
  refine ⟨by rw [if_neg (λq=>absurd q.1 (by decide)),if_neg (λq=>absurd q.1 (by decide))], ?_⟩
  unfold nmF dfl
  repeat' split
  all_goals simp
theorem rec_good {own:Nat}{keep:Nat->Bool}{x:Rv}(h:RecG own keep x):zM x.rt=(0,0)/\(yV x.rt).length<=3000:=by
 have hn:nmL x.rt.name=true:=by rw [show x.rt.name=x.name from rfl,h.name];exact wP _
 obtain ⟨a,b,ha,hb,e1,e2,e3⟩:=h.ver
 have hv:x.rt.ver.may=true/\x.rt.ver.print.length<=20:=by
  have e:x.rt.ver=Ver.mk a b 0 x.pre x.bld:=by show Ver.mk x.maj x.min x.pat x.pre x.bld=_;rw [e1,e2,e3]
  rw [e]
  refine verG_all a ha b hb (x.pre,x.bld) ?_
  rcases h.pb with ⟨e,e'⟩|⟨e,e'⟩|⟨e,e'⟩<;>rw [e,e']<;>simp
 have hN:∀ n∈x.rt.needs,xR x.rt.name n=0:=λn hn=>by
  obtain ⟨m,hm,rfl⟩:=List.mem_map.1 hn
  rw [show x.rt.name=x.name from rfl,h.name];exact needG_zero (h.needs m hm)
 have hB:∀ n∈x.rt.bars,qM x.rt.name n=0:=λn hn=>by
  obtain ⟨m,hm,rfl⟩:=List.mem_map.1 hn
  rw [show x.rt.name=x.name from rfl,h.name];exact barG_zero (h.bars m hm)
 have hF:∀ f∈x.rt.fts,yK (yY x.rt.needs) f.of=0/\(kL f).length<=57:=λf hf=>by
  obtain ⟨y,hy,rfl⟩:=List.mem_map.1 hf
  have hg:=h.fts.each y hy
  refine ⟨v8 λs hs=>(item_zero h (hg.all s hs)).1, ?_⟩
  have hnm:y.name.length<=7:=by
   have:y.name∈x.fts.map Fv.name:=List.mem_map_of_mem hy
   rw [h.fts.names] at this
   obtain ⟨j,hj,e⟩:=List.mem_map.1 this
   rw [←e]
   unfold nmF dfl
   repeat' split
   all_goals simp
  have:=jn_most 32 7 (l:=y9::y.name::y.of) λs hs=>by
   rcases List.mem_cons.1 hs with rfl|hs
   ·decide
   ·rcases List.mem_cons.1 hs with rfl|hs
    ·exact hnm
    ·exact (item_zero h (hg.all s hs)).2
  have hl:=hg.len
  show (zD 32 (y9::y.name::y.of)++[10]).length<=57
  simp only [List.length_append,List.length_cons,List.length_nil] at this ⊢
  omega
 have l1:x.rt.needs.length<=2:=by rw [show x.rt.needs.length=x.needs.length from List.length_map ..];exact h.nlen
 have l2:x.rt.bars.length<=1:=by rw [show x.rt.bars.length=x.bars.length from List.length_map ..];exact h.blen
 have l3:x.rt.fts.length<=4:=by
  have e:=congrArg List.length h.fts.names
  rw [List.length_map,List.length_map] at e
  have:=List.length_filter_le keep (List.range 4)
  rw [List.length_range] at this
  rw [show x.rt.fts.length=x.fts.length from List.length_map ..];omega
 have hT:(yV x.rt).length<=3000:=by
  have k1:=dL xE 900 (l:=x.rt.needs) λn hx=>needT_short (hN n hx)
  have k2:=dL vB 300 (l:=x.rt.bars) λn hx=>barT_short (hB n hx)
  have k3:=dL kL 57 (l:=x.rt.fts) λf hx=>(hF f hx).2
  have k4:=kR hn
  unfold yV gX
  simp only [List.length_append,txPack,List.length_cons,List.length_nil];omega
 exact ⟨check_is hn hv.1 Om Om hN hB (feats_may h) (λf hf=>(hF f hf).1) Om,hT⟩
end
section
def moreV (r:Rt):Rt:={r with ver:={r.ver with maj:=r.ver.maj+1}}
def bareR12 (r:Rt):Rt:={r with fts:=[]}
def zoo:Bt:=⟨[122,111,111],[42],[]⟩
end
section
set_option linter.unnecessarySimpa false
structure MadeR (x:Rv)(ob:List Blk):Prop where
 mem:RecO x ob
 gen:∃ own keep,RecG own keep x
 chk:zM x.rt=(0,0)
 len:(yV x.rt).length<=3000
 bnd:fY x.rt
 few:FewR x.rt 4096
theorem made_of {x:Rv}{ob:List Blk}{own:Nat}{keep:Nat->Bool}(h:RecG own keep x)(hR:RecO x ob):MadeR x ob:=by
 obtain ⟨g1,g2⟩:=rec_good h
 have hb:=chk_bnd (r:=x.rt) (by rw [g1])
 exact ⟨hR,⟨own,keep,h⟩,g1,g2,hb.1,hb.2⟩
theorem MadeR.inn {x:Rv}{ob L:List Blk}{M:List Nat}{W w:World}(h:MadeR x ob)(hO:Own M W w L)(hs:∀ b∈ob,b∈L):RcIn w w.heap.size x:=h.mem.inn hO hs h.bnd h.few
end
section
section
variable {M:List Nat}{P:Program}{n:Nat}{W:World}{Q:Exit->Act->World->Prop}{c:Xc}
end
end
section
set_option linter.unnecessarySimpa false
theorem xh_idx {M:List Nat}{P:Program}{n:Nat}{W:World}{Q:Exit->Act->World->Prop}{c:Xc}(t:Nat)(h:List Nat)(i:Nat)(g:Nat->YL)(k N:Nat)(hN:k<N)(hg:zE M P n W Q (xHn (xgo P n t h c) i (.string (mkS (g k)))))
  (hp:((List.range N).map λj=>λw=>(part (xEl P (oT (xOi i (xgo P n t h c)))) (xAg (ev n (xgo P n t h c).f (oX (xOi i (xgo P n t h c))))) j).run P w)=(List.range N).map λj=>(λw=> .ok (.string (mkS (g j))) w):=by kernel_rfl)
  (hkt:(xgl P n t h c,fB n i (xgo P n t h c),(xOi i (xgo P n t h c)).op,ev n (xgo P n t h c).f (oX (xOi i (xgo P n t h c))),ev n (xgo P n t h c).f (oY (xOi i (xgo P n t h c))),P.underlying (oT (xOi i (xgo P n t h c))),(P.info? (xEl P (oT (xOi i (xgo P n t h c))))).map (·.size))
   =(xgr P n t h c,jX i (xgo P n t h c),.index (oT (xOi i (xgo P n t h c))) (oX (xOi i (xgo P n t h c))) (oY (xOi i (xgo P n t h c))),.agg (xAg (ev n (xgo P n t h c).f (oX (xOi i (xgo P n t h c))))),YI (k:Int),some (.array N (xEl P (oT (xOi i (xgo P n t h c))))),some 1):=by kernel_rfl):zE M P n W Q c:=by
 simp only [Prod.mk.injEq] at hkt
 obtain ⟨hk,e1,e2,e3,e4,e5,e6⟩:=hkt
 refine zK h c hk (nB (λw hO=>fH g hN e2 e3 e4 e5 (λj hj w=> ?_) e6 w) hg e1)
 exact congrFun (List.map_inj_left.1 hp j (List.mem_range.2 hj)) w
end
section
set_option linter.unnecessarySimpa false
def shfT:Nat->YL
 |0=>[111,110,101]
 |_=>[116,119,111]
theorem shfT_ok (k:Nat):nmL (shfT k)=true:=by
 unfold shfT
 split<;>decide+kernel
structure MadeM (x:Mv)(o1 o2 o3:List Blk):Prop where
 own:MnO x o1 o2 o3
 rc:MadeR x.rec' o1
 pin:x.pins=[]∨∃ k c,x.pins=[⟨zN k,shfT c⟩]
 hold:x.holds=[]∨∃ k t,FewT t/\x.holds=[⟨zN k,t⟩]
theorem tT {x:Mv}{o1 o2 o3:List Blk}(h:MadeM x o1 o2 o3):x5 x.mt=(0,0):=by
 have hc:(zM x.mt.rc).1=0:=by show (zM x.rec'.rt).1=0;rw [h.rc.chk]
 have hp:badP x.mt.pins=x.mt.pins.length/\x.mt.pins.length<=1:=by
  show badP x.pins=x.pins.length/\_
  rcases h.pin with e|⟨k,c,e⟩
  ·refine ⟨?_,by show x.pins.length<=1;rw [e];decide⟩
   rw [e];rfl
  ·refine ⟨fbad_all λj hj=> ?_,by show x.pins.length<=1;rw [e];exact Nat.le_refl _⟩
   rw [e] at hj ⊢
   obtain rfl:j=0:=by simpa using hj
   show (nmL (zN k) && nmL (shfT c) && Op.bytesLess _ (zN k))=true
   rw [wP,shfT_ok]
   exact nil_less _ (nm_ne (wP k))
 have hh:dE x.mt.holds=(0,0)/\x.mt.holds.length<=1:=by
  show dE x.holds=(0,0)/\_
  rcases h.hold with e|⟨k,t,ht,e⟩
  ·refine ⟨?_,by show x.holds.length<=1;rw [e];decide⟩
   rw [e];rfl
  ·refine ⟨?_,by show x.holds.length<=1;rw [e];exact Nat.le_refl _⟩
   have hb:badHi x.holds=x.holds.length:=fbad_all λj hj=>by
    rw [e] at hj ⊢
    obtain rfl:j=0:=by simpa using hj
    show ((nmL (zN k) && Op.bytesLess _ (zN k)) && yH t)=true
    rw [wP,few_plain ht]
    simp only [Bool.true_and,Bool.and_true]
    exact nil_less _ (nm_ne (wP k))
   unfold dE
   rw [hb,if_neg (Nat.lt_irrefl _)]
 unfold x5
 rw [if_neg (λq=>q hc),if_neg Om,if_neg Om]
 exact hh.1
theorem MadeM.inn {x:Mv}{o1 o2 o3 L:List Blk}{M:List Nat}{W w:World}(h:MadeM x o1 o2 o3)(hO:Own M W w L)(hs:∀ b∈o1++(o2++o3),b∈L):MnIn w w.heap.size x:=by
 have hg:=(dN (by rw [tT h])).2
 have hnp:=hg.np
 have hnh:=hg.nh
 refine ⟨h.rc.inn hO λb hb=>hs b (List.mem_append_left _ hb),⟨Sl.reads h.own.pin rfl hO λb hb=>hs b (List.mem_append_right _ (List.mem_append_left _ hb)),λp hp=> ?_,Nat.le_trans hnp (by decide)⟩,⟨Sl.reads h.own.hold rfl hO λb hb=>hs b (List.mem_append_right _ (List.mem_append_right _ hb)),λp hp=> ?_,Nat.le_trans hnh (by decide)⟩⟩
 ·have:=hg.pin p hp
  exact ⟨Nat.le_trans (kR this.1) (by decide),Nat.le_trans (kR this.2) (by decide)⟩
 ·have:=hg.hold p hp
  exact ⟨Nat.le_trans (kR this.1) (by decide),dX (wG this.2)⟩
theorem man_gen (v:Value)(l:List Int)(i own:Nat)(W:World)(hv:ReadsI W W.heap.size v l)(hl:l.length<=9223372036854775807)(hi:i<=900)(ho:own<=1000):YC 26 #[v,YI (i:Int),YI (own:Int)] W λe w'=>∃ v' ob,e= .returned v'/\(∃ x o1 o2 o3,v'=mvV x/\ob=o1++(o2++o3)/\MadeM x o1 o2 o3)/\Own [] W w' ob:=by
 obtain ⟨a,ha,ha6⟩:=yO (atL l (i+82)) 6 (by decide)
 obtain ⟨c1,hc1,hc13⟩:=yO (atL l (i+83)) 3 (by decide)
 obtain ⟨c2,hc2,hc22⟩:=yO (atL l (i+84)) 2 (by decide)
 obtain ⟨d,hd,hd6⟩:=yO (atL l (i+85)) 6 (by decide)
 obtain ⟨d1,hd1,hd14⟩:=yO (atL l (i+86)) 4 (by decide)
 have f1:=xG hv hl (i+82) 6 Om (by decide) (by decide) ha
 have f2:=xG hv hl (i+83) 3 Om (by decide) (by decide) hc1
 have f3:=xG hv hl (i+84) 2 Om (by decide) (by decide) hc2
 have f4:=xG hv hl (i+85) 6 Om (by decide) (by decide) hd
 have f5:=xG hv hl (i+86) 4 Om (by decide) (by decide) hd1
 refine zF Tryz.func26 (zQ [] λb6=>k7 (k:=15) (args:= #[v,YI (i:Int),YI (own:Int)]) (R:=λv ob=>∃ x,v=rvV x/\MadeR x ob) [] (λw hO=>(record_gen v l i own w ((hv.below hO.below).more hO.below.size) hl Om ho).mono λe w' ⟨x,ob,q1,⟨q2,q3⟩,q4⟩=>⟨_,ob,q1,⟨x,rfl,made_of q2 q3⟩,q4⟩) ?_)
 rintro _ o1 ⟨x,rfl,hX⟩
 obtain ⟨n1,hn1,cN1⟩:=nameT_any ((1+c1:Nat):Int)
 obtain ⟨n2,hn2,cN2⟩:=nameT_any ((1+d1:Nat):Int)
 refine zQ [] λb7=>x_i 15 [0] ((i+82:Nat):Int) (z7 [] (λw hO=>f1 w hO.below) ?_)
 refine vS (α:=List Pn×Option Addr×Nat×List Blk) 17 (λ_=>[(0,v),(1,YI (i:Int)),(6,Zp b6 0),(7,Zp b7 0)]) (λ(ps,pA,pc,o2)=>mvB b7 ⟨x,pA,pc,ps,none,0,[]⟩::mvB b6 mv0::(o1++o2)) (λ(ps,pA,pc,o2)=>(ps=[]∨∃ k c,ps=[⟨zN k,shfT c⟩])/\Sl 57 2 (.slice pA ps.length pc) ps.length (ps.flatMap pmC) o2) [] (λnj=>bO 17 ((a:Int)=1) (λh17=> ?_) (λh17=>zV [] (mvB b7 ⟨x,none,0,[],none,0,[]⟩::mvB b6 mv0::(o1++[])) (λw hO=>(hO.past 0 (mvB b7 ⟨x,none,0,[],none,0,[]⟩::mvB b6 mv0::o1)).cast (by simp)) (nj ([],none,0,[]) [] ⟨.inl rfl,Sl.nil _ _⟩ Kr))) ?_
 ·refine kS 17 [] [mvB b7 ⟨x,none,0,[],none,0,[]⟩] (λw hO=>hO.nth 0 (mvB b7 ⟨x,none,0,[],none,0,[]⟩)) (x_i 22 [0] ((i+83:Nat):Int) (x_i 29 [] ((i+84:Nat):Int) (yJ [] 5 (z7 [] (λw hO=>f2 w hO.below) (x_i 24 [] ((1+c1:Nat):Int) (yJ [] 7 (z7 (v:= .string (mkS (zN n1))) [] (λw hO=>cN1 w) (yJ [] 12 (z7 [] (λw hO=>f3 w hO.below) (xh_idx 50031 [] 13 shfT c2 2 Om ?_))))))))))
  refine yJ [] 15 (gZ 1 57 #[.string (mkS (zN n1)),.string (mkS (shfT c2))] λb=>yJ [] 16 ?_)
  refine vH (m:=1) (cp:=1) [⟨b, #[.string (mkS (zN n1)),.string (mkS (shfT c2))],57⟩] [] (mvB b7 ⟨x,none,0,[],none,0,[]⟩::mvB b6 mv0::o1) 0 (⟨b, #[.string (mkS (zN n1)),.string (mkS (shfT c2))],57⟩::mvB b7 ⟨x,none,0,[],none,0,[]⟩::mvB b6 mv0::o1) [mvB b7 ⟨x,none,0,[],none,0,[]⟩] (λw hO=>hO.cast (by simp)) (λo w hO=>hO.take (λy hy=>by rw [List.mem_singleton.1 hy];simp) (by simp)) (Sl.nil 57 2) Om λv' o2 hS=> ?_
  obtain ⟨A',c',rfl⟩:=Sl.form hS
  refine gU 35 [] (Zp b7 9) (Zp b7 9) rfl (fZ ([⟨b, #[.string (mkS (zN n1)),.string (mkS (shfT c2))],57⟩]++o2++(mvB b7 ⟨x,none,0,[],none,0,[]⟩::mvB b6 mv0::o1)) (mvB b7 ⟨x,none,0,[],none,0,[]⟩::mvB b6 mv0::(o1++o2)) (λw hO=>x2 [⟨b, #[.string (mkS (zN n1)),.string (mkS (shfT c2))],57⟩] hO λp=>by
   simp only [List.countP_append,List.countP_cons,List.countP_nil,List.cons_append,List.nil_append];omega) ?_)
  exact nj ([⟨zN n1,shfT c2⟩],A',c',o2) [0] ⟨.inr ⟨n1,c2,rfl⟩,hS⟩ Kr
 rintro ⟨ps,pA,pc,o2⟩ g2 ⟨hps,hpS⟩
 refine x_i 38 [] ((i+85:Nat):Int) (z7 [] (λw hO=>f4 w hO.below) ?_)
 refine vS (α:=List Ho×Option Addr×Nat×List Blk) 40 (λ_=>[(6,Zp b6 0),(7,Zp b7 0)]) (λ(hs,hA,hc,o3)=>mvB b7 ⟨x,pA,pc,ps,hA,hc,hs⟩::mvB b6 mv0::(o1++(o2++o3))) (λ(hs,hA,hc,o3)=>(hs=[]∨∃ k t,FewT t/\hs=[⟨zN k,t⟩])/\Sl 59 2 (.slice hA hs.length hc) hs.length (hs.flatMap hoC) o3) [] (λnj=>bO 40 ((d:Int)=1) (λh40=> ?_) (λh40=>zV [] (mvB b7 ⟨x,pA,pc,ps,none,0,[]⟩::mvB b6 mv0::(o1++(o2++[]))) (λw hO=>(hO.past 0 (mvB b7 ⟨x,pA,pc,ps,none,0,[]⟩::mvB b6 mv0::(o1++o2))).cast (by simp)) (nj ([],none,0,[]) [] ⟨.inl rfl,Sl.nil _ _⟩ Kr))) ?_
 ·refine kS 15 [] [mvB b7 ⟨x,pA,pc,ps,none,0,[]⟩] (λw hO=>hO.nth 0 (mvB b7 ⟨x,pA,pc,ps,none,0,[]⟩)) (x_i 45 [0] ((i+86:Nat):Int) (x_i 51 [] ((i+87:Nat):Int) (yJ [] 5 (z7 [] (λw hO=>f5 w hO.below) (x_i 47 [] ((1+d1:Nat):Int) (yJ [] 7 (z7 (v:= .string (mkS (zN n2))) [] (λw hO=>cN2 w) (yJ [] 11 (bD (R:=λv=>∃ t,FewT t/\v= .string (mkS t)) [] (λw hO=>(few_gen v l (i+87) w ((hv.below hO.below).more hO.size) hl Om).mono λe w' ⟨t,h1,h2,h3⟩=>⟨_,h2,⟨t,h1,rfl⟩,h3⟩) ?_)))))))))
  rintro _ ⟨t,ht,rfl⟩
  refine yJ [] 13 (gZ 1 59 #[.string (mkS (zN n2)),.string (mkS t)] λb=>yJ [] 14 ?_)
  refine vH (m:=1) (cp:=1) [⟨b, #[.string (mkS (zN n2)),.string (mkS t)],59⟩] [] (mvB b7 ⟨x,pA,pc,ps,none,0,[]⟩::mvB b6 mv0::(o1++o2)) 0 (⟨b, #[.string (mkS (zN n2)),.string (mkS t)],59⟩::mvB b7 ⟨x,pA,pc,ps,none,0,[]⟩::mvB b6 mv0::(o1++o2)) [mvB b7 ⟨x,pA,pc,ps,none,0,[]⟩] (λw hO=>hO.cast (by simp)) (λo w hO=>hO.take (λy hy=>by rw [List.mem_singleton.1 hy];simp) (by simp)) (Sl.nil 59 2) Om λv' o3 hS=> ?_
  obtain ⟨A',c',rfl⟩:=Sl.form hS
  refine gU 56 [] (Zp b7 10) (Zp b7 10) rfl (fZ ([⟨b, #[.string (mkS (zN n2)),.string (mkS t)],59⟩]++o3++(mvB b7 ⟨x,pA,pc,ps,none,0,[]⟩::mvB b6 mv0::(o1++o2))) (mvB b7 ⟨x,pA,pc,ps,none,0,[]⟩::mvB b6 mv0::(o1++(o2++o3))) (λw hO=>x2 [⟨b, #[.string (mkS (zN n2)),.string (mkS t)],59⟩] hO λp=>by
   simp only [List.countP_append,List.countP_cons,List.countP_nil,List.cons_append,List.nil_append];omega) ?_)
  exact nj ([⟨zN n2,t⟩],A',c',o3) [0] ⟨.inr ⟨n2,t,ht,rfl⟩,hS⟩ Kr
 rintro ⟨hs,hA,hc,o3⟩ g4 ⟨hhs,hhS⟩
 exact dR [0,1] 1 (mvV ⟨x,pA,pc,ps,hA,hc,hs⟩) λw hO=>⟨_,o1++(o2++o3),rfl,⟨⟨x,pA,pc,ps,hA,hc,hs⟩,o1,o2,o3,rfl,rfl,⟨⟨hX.mem,hpS,hhS⟩,hX,hps,hhs⟩⟩,hO.past 2 (o1++(o2++o3))⟩
end
section
open Go.ChangeShapes Go.WideShapes Go.ChangeAt Go.RowKit
theorem open_texts {H:Type}{enc:TypeId×Value->H}{W:World}{base:Nat}{v:Value}{d:DataW H}{ps:List MemPlace}(hval:Value.okWide YP W .any base 66 v)
  (h:DataW.Trod enc YP W 0 (λ_=>true) true 66 v d ps):∃ l:List YL,ReadsT W W.heap.size v l/\l.length<=maxLen∧∀ x∈l,x.length<=maxLen:=by
 obtain ⟨A,len,cap,rfl⟩:=okWide_slice Tryz.underlying66 hval
 obtain ⟨fuel,hf⟩:=h
 rcases open_strings Tryz.underlying66 Tryz.underlying9 strCells1 hf with ⟨hcs,_⟩|⟨a,len',cap',ss,hcs,_,hl,hm,hz,_,hcell,hws⟩
 ·simp [Value.cells] at hcs
  obtain ⟨rfl,rfl,rfl⟩:=hcs
  exact ⟨[],⟨none,0,rfl,λh=>by cases h⟩,by simp,by simp⟩
 ·simp [Value.cells] at hcs
  obtain ⟨rfl,rfl,rfl⟩:=hcs
  simp only [if_true] at hz
  have hlen:((ss.take len).map (·.data.toList)).length=len:=by rw [List.length_map,List.length_take];omega
  refine ⟨(ss.take len).map (·.data.toList),⟨some a,cap,by rw [hlen],λh0=>⟨a,rfl, ?_,λj hj=> ?_⟩⟩,by rw [hlen];omega,λx hx=> ?_⟩
  ·have:=cell_lt (hcell 0 Om)
   rwa [mS] at this
  ·have hj2:j<ss.length:=by omega
   rw [hcell j hj2,List.getElem_map,List.getElem_take]
   simp only [List.getD,List.getElem?_eq_getElem hj2,Option.getD_some]
   rfl
  ·obtain ⟨s,hs,rfl⟩:=List.mem_map.1 hx
   have:=hws s (List.mem_of_mem_take hs)
   rw [jL];exact this
theorem powType:(Tryz.prog.globals[5]?).map (·.type)=some 295:=by kernel_rfl
theorem powNamed : Tryz.prog.globalNamed "internal/strconv.uint64pow10" = some 5 := by kernel_rfl
theorem powCells:Tryz.prog.cellsOf 295=20:=by kernel_rfl
theorem u64Cells:Tryz.prog.cellsOf 86=1:=by kernel_rfl
theorem hasTab_of {W : World} {l : List (String × DataW Unit)} (h : laidMetH YP l W) (e : (l.filter fun x => x.1 == "internal/strconv.uint64pow10") = [("internal/strconv.uint64pow10", Lib.tabData .u64 Lib.pow10Tab)]) : HasTab W := by
 have h2 := h.filter (fun x => x.1 == "internal/strconv.uint64pow10")
 rw [e] at h2
 exact Lib.tabBelow_of_tabIs (Lib.tabIs_of_head (rest:=[]) powNamed powType Tryz.underlying295 Tryz.underlying86 u64Cells powCells h2)
end
section
open Go.ChangeShapes Go.WideShapes Go.ChangeAt Go.RowKit
theorem cells_of_strs {H:Type}{enc:TypeId×Value->H}{P:Program}{w:World}{base:Nat}{sp:Nat->Bool}{held:Bool}{fuel:Nat}{t e:TypeId}{n:Nat}{cs:List Value}{ss:List YL}{p:List MemPlace}
  (ht:P.underlying t=some (.array n e)) (he:P.underlying e=some .string) (hce:P.cellsOf e=1) (hct:P.cellsOf t=n)
  (h:DataW.trod enc P w base sp held fuel t cs=some (.agg (ss.map λs=> .lit (.string s)),p)):cs=ss.map λs=>Value.string (mkS s):=by
 cases fuel with
 |zero=>simp [DataW.trod] at h
 |succ fuel=>
  simp only [DataW.trod,ht,hce,hct,Nat.mul_one] at h
  split at h
  ·rename_i hl
   obtain ⟨xs,hm,hx⟩:=Option.map_eq_some_iff.1 h
   have hxs:xs.map (·.1)=ss.map λs=>(DataW.lit (.string s):DataW H):=by
    have:=congrArg Prod.fst hx
    simpa using this
   have hxl:xs.length=n:=by simpa using Lib.mapM_length hm
   have hzl:ss.length=n:=by
    have:=congrArg List.length hxs
    simp at this
    omega
   apply List.ext_getElem?
   intro i
   by_cases hi:i<n
   ·obtain ⟨b,hb,hf⟩:=Lib.mapM_at hm i i (by simp [hi])
    obtain ⟨s,hc,rfl,_⟩:=DataW.trod_string he hf
    have h1:cs[i]?=some (.string s):=by
     have:=congrArg (·[0]?) hc
     simpa [List.getElem?_take,List.getElem?_drop] using this
    have h2:(xs.map (·.1))[i]?=some (DataW.lit (.string s.data.toList):DataW H):=by simp [hb]
    rw [hxs] at h2
    simp only [List.getElem?_map,Option.map_eq_some_iff,DataW.lit.injEq,Lit.string.injEq] at h2
    obtain ⟨z',hz',e9⟩:=h2
    rw [h1,List.getElem?_map,hz',e9]
    show some (Value.string s)=some (Value.string (mkS s.data.toList))
    rw [show mkS s.data.toList=s from by cases s;unfold mkS;simp]
   ·rw [List.getElem?_eq_none (by omega),List.getElem?_eq_none (by simp;omega)]
  ·cases h
theorem keysType:(Tryz.prog.globals[2]?).map (·.type)=some 142:=by kernel_rfl
theorem keysNamed : Tryz.prog.globalNamed "linchpin/mark.keys" = some 2 := by kernel_rfl
theorem keysCells:Tryz.prog.cellsOf 142=3:=by kernel_rfl
theorem mkLib_of {W : World} {l : List (String × DataW Unit)} (h : laidMetH YP l W) (e : (l.filter fun x => x.1 == "linchpin/mark.keys") = [("linchpin/mark.keys", .agg [.lit (.string [111, 115]), .lit (.string [97, 114, 99, 104]), .lit (.string [97, 98, 105])])]) : MkLib W := by
 have h2 := h.filter (fun x => x.1 == "linchpin/mark.keys")
 rw [e] at h2
 obtain ⟨ps,⟨g',t',cs,fuel,p,q,hg',ht',hvar,hd,_,hps⟩,_,hcell⟩:=h2
 obtain rfl:=Option.some.inj (keysNamed.symm.trans hg')
 obtain rfl:=Option.some.inj (keysType.symm.trans ht')
 have hcs:cs.toList=[[111,115],[97,114,99,104],[97,98,105]].map λs=>Value.string (mkS s):=cells_of_strs (n:=3) Tryz.underlying142 Tryz.underlying9 strCells1 keysCells hd
 have hsz:cs.size=3:=by rw [←Array.length_toList,hcs];rfl
 have hm:MemPlace.cell 2 0∈ps:=by
  rw [hps]
  refine List.mem_append_left _ (List.mem_append_left _ ?_)
  exact MemPlace.mem_row.2 ⟨0,by rw [hsz];decide,rfl⟩
 obtain ⟨⟨c,t,hb⟩,_⟩:=hcell _ _ hm
 have hv : W.var? YP "linchpin/mark.keys" = some c := by
  unfold World.var?
  rw [keysNamed]
  simp only [Option.bind_some,hb]
 have hcc:c=cs:=Option.some.inj (hv.symm.trans hvar)
 refine ⟨(Array.getElem?_eq_some_iff.1 hb).1,t, ?_⟩
 rw [hb,hcc]
 congr 2
 apply Array.toList_inj.1
 rw [hcs]
 rfl
end
section
open Go.ChangeShapes Go.WideShapes Go.ChangeAt Go.RowKit
def layR (l:La):DataW Unit:= .agg [.lit (.int .i64 (l.kind:Int)),.lit (.string l.word),.lit (.int .i64 (l.lo:Int)),.lit (.int .i64 (l.hi:Int)),.lit (.int .i64 (l.parts:Int)),.lit (.bool l.opn),.lit (.bool l.more)]
def layD:DataW Unit:= .agg (lays.map layR)
theorem size_lay12:Tryz.prog.cellsOf 120=7:=by kernel_rfl
theorem size_lays12:Tryz.prog.cellsOf 121=56:=by kernel_rfl
theorem laysType:(Tryz.prog.globals[0]?).map (·.type)=some 121:=by kernel_rfl
theorem laysNamed : Tryz.prog.globalNamed "linchpin/record.layouts" = some 0 := by kernel_rfl
theorem lay_row {enc:TypeId×Value->Unit}{w:World}{base:Nat}{sp:Nat->Bool}{held:Bool}{fuel:Nat}{cs:List Value}{p:List MemPlace}{l:La}(h:DataW.trod enc YP w base sp held fuel 120 cs=some (layR l,p)):cs=(laV l).cells.toList:=by
 obtain ⟨xs,n,_,hx,hl,hxl,hg⟩:=DataW.trod_struct Tryz.underlying120 h
 rw [size_lay12] at hl
 have hx1:DataW.agg (xs.map (·.1))=layR l:=(congrArg Prod.fst hx).symm
 unfold layR at hx1
 injection hx1 with hx1
 match cs,hl with
 | [c0,c1,c2,c3,c4,c5,c6],_=>
  have g:∀ i,i<7→∃ y,xs[i]?=some y:=λi hi=>⟨_,List.getElem?_eq_getElem (by rw [hxl];exact hi)⟩
  obtain ⟨y0,e0⟩:=g 0 Om
  obtain ⟨y1,e1⟩:=g 1 Om
  obtain ⟨y2,e2⟩:=g 2 Om
  obtain ⟨y3,e3⟩:=g 3 Om
  obtain ⟨y4,e4⟩:=g 4 Om
  obtain ⟨y5,e5⟩:=g 5 Om
  obtain ⟨y6,e6⟩:=g 6 Om
  have q:∀ (i:Nat) (y:DataW Unit×List MemPlace),xs[i]?=some y->(xs.map (·.1))[i]?=some y.1:=λi y hy=>by rw [List.getElem?_map,hy];rfl
  have q0:=q 0 _ e0;have q1:=q 1 _ e1;have q2:=q 2 _ e2;have q3:=q 3 _ e3;have q4:=q 4 _ e4;have q5:=q 5 _ e5;have q6:=q 6 _ e6
  rw [hx1] at q0 q1 q2 q3 q4 q5 q6
  obtain ⟨a0,h0,z0,_⟩:=DataW.trod_int Tryz.underlying3 ((hg 0 _ rfl).trans e0)
  obtain ⟨a1,h1,z1,_⟩:=DataW.trod_string Tryz.underlying9 ((hg 1 _ rfl).trans e1)
  obtain ⟨a2,h2,z2,_⟩:=DataW.trod_int Tryz.underlying3 ((hg 2 _ rfl).trans e2)
  obtain ⟨a3,h3,z3,_⟩:=DataW.trod_int Tryz.underlying3 ((hg 3 _ rfl).trans e3)
  obtain ⟨a4,h4,z4,_⟩:=DataW.trod_int Tryz.underlying3 ((hg 4 _ rfl).trans e4)
  obtain ⟨a5,h5,z5⟩:=DataW.trod_bool Tryz.underlying4 ((hg 5 _ rfl).trans e5)
  obtain ⟨a6,h6,z6⟩:=DataW.trod_bool Tryz.underlying4 ((hg 6 _ rfl).trans e6)
  have r0:List.take (Tryz.prog.cellsOf 3) (List.drop 0 [c0,c1,c2,c3,c4,c5,c6])=_:=h0
  have r1:List.take (Tryz.prog.cellsOf 9) (List.drop 1 [c0,c1,c2,c3,c4,c5,c6])=_:=h1
  have r2:List.take (Tryz.prog.cellsOf 3) (List.drop 2 [c0,c1,c2,c3,c4,c5,c6])=_:=h2
  have r3:List.take (Tryz.prog.cellsOf 3) (List.drop 3 [c0,c1,c2,c3,c4,c5,c6])=_:=h3
  have r4:List.take (Tryz.prog.cellsOf 3) (List.drop 4 [c0,c1,c2,c3,c4,c5,c6])=_:=h4
  have r5:List.take (Tryz.prog.cellsOf 4) (List.drop 5 [c0,c1,c2,c3,c4,c5,c6])=_:=h5
  have r6:List.take (Tryz.prog.cellsOf 4) (List.drop 6 [c0,c1,c2,c3,c4,c5,c6])=_:=h6
  rw [show Tryz.prog.cellsOf 3=1 by kernel_rfl] at r0 r2 r3 r4
  rw [strCells1] at r1
  rw [show Tryz.prog.cellsOf 4=1 by kernel_rfl] at r5 r6
  obtain rfl:c0=_:=List.singleton_inj.1 r0
  obtain rfl:c1=_:=List.singleton_inj.1 r1
  obtain rfl:c2=_:=List.singleton_inj.1 r2
  obtain rfl:c3=_:=List.singleton_inj.1 r3
  obtain rfl:c4=_:=List.singleton_inj.1 r4
  obtain rfl:c5=_:=List.singleton_inj.1 r5
  obtain rfl:c6=_:=List.singleton_inj.1 r6
  rw [z0] at q0;rw [z1] at q1;rw [z2] at q2;rw [z3] at q3;rw [z4] at q4;rw [z5] at q5;rw [z6] at q6
  have i0:a0=(l.kind:Int):=by injection q0 with q;injection q with q;injection q with _ q;exact q.symm
  have i1:a1.data.toList=l.word:=by injection q1 with q;injection q with q;injection q with q;exact q.symm
  have i2:a2=(l.lo:Int):=by injection q2 with q;injection q with q;injection q with _ q;exact q.symm
  have i3:a3=(l.hi:Int):=by injection q3 with q;injection q with q;injection q with _ q;exact q.symm
  have i4:a4=(l.parts:Int):=by injection q4 with q;injection q with q;injection q with _ q;exact q.symm
  have i5:a5=l.opn:=by injection q5 with q;injection q with q;injection q with q;exact q.symm
  have i6:a6=l.more:=by injection q6 with q;injection q with q;injection q with q;exact q.symm
  have i1':a1=mkS l.word:=by rw [←i1];cases a1;unfold mkS;simp
  rw [i0,i1',i2,i3,i4,i5,i6]
  rfl
theorem chunk7 {f:La->List Value}(hf:∀ l,(f l).length=7):∀ (ls:List La) (cs:List Value),cs.length=ls.length*7->(∀ i (h:i<ls.length),(cs.drop (i*7)).take 7=f ls[i])->cs=ls.flatMap f
 | [],cs,hl,_=>by simpa using hl
 |l::ls,cs,hl,h=>by
  have h0:(cs.drop (0*7)).take 7=f l:=h 0 (by simp)
  rw [Nat.zero_mul,List.drop_zero] at h0
  have:=chunk7 hf ls (cs.drop 7) (by rw [List.length_drop,hl,List.length_cons];omega) λi hi=>by
   rw [List.drop_drop,show 7+i*7=(i+1)*7 by omega]
   exact h (i+1) (by simpa using hi)
  rw [List.flatMap_cons,←h0,←this,List.take_append_drop]
theorem lay_cells {enc:TypeId×Value->Unit}{w:World}{base:Nat}{sp:Nat->Bool}{held:Bool}{fuel:Nat}{cs:List Value}{p:List MemPlace}(h:DataW.trod enc YP w base sp held fuel 121 cs=some (layD,p)):cs=layC.toList:=by
 obtain ⟨xs,n,_,hx,hl,hxl,hg⟩:=DataW.trod_array Tryz.underlying121 h
 rw [size_lays12] at hl
 have hx1:DataW.agg (xs.map (·.1))=layD:=(congrArg Prod.fst hx).symm
 unfold layD at hx1
 injection hx1 with hx1
 have h8:lays.length=8:=rfl
 have:=chunk7 (f:=λl=>(laV l).cells.toList) (λl=>rfl) lays cs (by rw [hl,h8]) λi hi=>by
  have hx2:i<xs.length:=by omega
  have h1:=hg i Om
  rw [List.getElem?_eq_getElem hx2,size_lay12] at h1
  have h2:(xs.map (·.1))[i]?=(lays.map layR)[i]?:=by rw [hx1]
  rw [List.getElem?_map,List.getElem?_map,List.getElem?_eq_getElem hx2,List.getElem?_eq_getElem hi] at h2
  have h3:xs[i].1=layR lays[i]:=Option.some.inj h2
  obtain ⟨a,b⟩:∃ b,xs[i]=(layR lays[i],b):=⟨xs[i].2,by rw [←h3]⟩
  rw [b] at h1
  exact lay_row h1
 rw [this]
 unfold layC
 rfl
theorem lyAt_of {W : World} {l : List (String × DataW Unit)} (h : laidMetH YP l W) (e : (l.filter fun x => x.1 == "linchpin/record.layouts") = [("linchpin/record.layouts", layD)]) : LyAt W := by
 have h2 := h.filter (fun x => x.1 == "linchpin/record.layouts")
 rw [e] at h2
 obtain ⟨ps,⟨g',t',cs,fuel,p,q,hg',ht',hvar,hd,_,hps⟩,_,hcell⟩:=h2
 obtain rfl:=Option.some.inj (laysNamed.symm.trans hg')
 obtain rfl:=Option.some.inj (laysType.symm.trans ht')
 have hcs:cs.toList=layC.toList:=lay_cells hd
 have hsz:cs.size=56:=by rw [←Array.length_toList,hcs];rfl
 have hm:MemPlace.cell 0 0∈ps:=by
  rw [hps]
  refine List.mem_append_left _ (List.mem_append_left _ ?_)
  exact MemPlace.mem_row.2 ⟨0,by rw [hsz];decide,rfl⟩
 obtain ⟨⟨c,t,hb⟩,_⟩:=hcell _ _ hm
 have hv : W.var? YP "linchpin/record.layouts" = some c := by
  unfold World.var?
  rw [laysNamed]
  simp only [Option.bind_some,hb]
 have hcc:c=cs:=Option.some.inj (hv.symm.trans hvar)
 refine ⟨(Array.getElem?_eq_some_iff.1 hb).1,t, ?_⟩
 rw [hb,hcc]
 congr 2
 exact Array.toList_inj.1 hcs
end
section
open Go.ChangeShapes Go.WideShapes Go.ChangeAt Go.RowKit
theorem open_nums {H:Type}{enc:TypeId×Value->H}{W:World}{base:Nat}{v:Value}{d:DataW H}{ps:List MemPlace}(hval:Value.okWide YP W .any base 35 v)
  (h:DataW.Trod enc YP W 0 (λ_=>true) true 35 v d ps):∃ l:List Int,ReadsI W W.heap.size v l/\l.length<=maxLen:=by
 obtain ⟨A,len,cap,rfl⟩:=okWide_slice Tryz.underlying35 hval
 obtain ⟨fuel,hf⟩:=h
 rcases open_ints Tryz.underlying35 Tryz.underlying3 Kr hf with ⟨hcs,_⟩|⟨a,len',cap',zs,hcs,_,hl,hm,hz,_,hcell,_⟩
 ·simp [Value.cells] at hcs
  obtain ⟨rfl,rfl,rfl⟩:=hcs
  exact ⟨[],⟨none,0,rfl,λh=>by cases h⟩,by simp⟩
 ·simp [Value.cells] at hcs
  obtain ⟨rfl,rfl,rfl⟩:=hcs
  simp only [if_true] at hz
  have hlen:(zs.take len).length=len:=by rw [List.length_take];omega
  refine ⟨zs.take len,⟨some a,cap,by rw [hlen],λh0=>⟨a,rfl, ?_,λj hj=> ?_⟩⟩,by rw [hlen];omega⟩
  ·have:=cell_lt (hcell 0 Om)
   rwa [add_block] at this
  ·have hj2:j<zs.length:=by omega
   rw [hcell j hj2,List.getElem_take]
   simp only [List.getD,List.getElem?_eq_getElem hj2,Option.getD_some]
end
section
set_option linter.unnecessarySimpa false
structure MnSm (w:World)(B:Nat)(x:Mv):Prop where
 rc:RcSm w B x.rec'
 pin:Reads pmC w B x.pA x.pins
 hold:Reads hoC w B x.hA x.holds
 np:x.pins.length<=1048576
 nh:x.holds.length<=1048576
theorem MnIn.sm {w:World}{B:Nat}{x:Mv}(h:MnIn w B x):MnSm w B x:=⟨h.rc.sm,h.pin.top,h.hold.top,h.pin.n,h.hold.n⟩
theorem pm_dec (u v:Pn):decide (u=v)=(decide (u.name=v.name) && decide (u.shelf=v.shelf)):=by
 obtain ⟨a,b⟩:=u
 obtain ⟨a',b'⟩:=v
 simp only [Pn.mk.injEq,Bool.decide_and]
theorem ho_dec (u v:Ho):decide (u=v)=(decide (u.name=v.name) && decide (u.rg=v.rg)):=by
 obtain ⟨a,b⟩:=u
 obtain ⟨a',b'⟩:=v
 simp only [Ho.mk.injEq,Bool.decide_and]
theorem eq_pm (u v:Pn)(d:Nat)(w:World):(Op.equalIn (d+1+1) 57 (pmV u) (pmV v)).run YP w= .ok (decide (u=v)) w:=by
  have h:=eq_agg (P:=YP) (d:=d+1) (t:=57) (xs:=(pmV u).cells) (ys:=(pmV v).cells) (bs:=[(mkS u.name).toList==(mkS v.name).toList,(mkS u.shelf).toList==(mkS v.shelf).toList]) Tryz.underlying57 Kr
    ⟨by decide,⟨.string (mkS u.name),.string (mkS v.name),λw=>⟨by kernel_rfl,by kernel_rfl,run_equalIn_string w d _ _ _ Tryz.underlying9⟩⟩,
     by decide,⟨.string (mkS u.shelf),.string (mkS v.shelf),λw=>⟨by kernel_rfl,by kernel_rfl,run_equalIn_string w d _ _ _ Tryz.underlying9⟩⟩,trivial⟩ w
  rw [all2,vT,vT,←pm_dec] at h
  exact h
theorem eq_ho (u v:Ho)(d:Nat)(w:World):(Op.equalIn (d+1+1) 59 (hoV u) (hoV v)).run YP w= .ok (decide (u=v)) w:=by
  have h:=eq_agg (P:=YP) (d:=d+1) (t:=59) (xs:=(hoV u).cells) (ys:=(hoV v).cells) (bs:=[(mkS u.name).toList==(mkS v.name).toList,(mkS u.rg).toList==(mkS v.rg).toList]) Tryz.underlying59 Kr
    ⟨by decide,⟨.string (mkS u.name),.string (mkS v.name),λw=>⟨by kernel_rfl,by kernel_rfl,run_equalIn_string w d _ _ _ Tryz.underlying9⟩⟩,
     by decide,⟨.string (mkS u.rg),.string (mkS v.rg),λw=>⟨by kernel_rfl,by kernel_rfl,run_equalIn_string w d _ _ _ Tryz.underlying9⟩⟩,trivial⟩ w
  rw [all2,vT,vT,←ho_dec] at h
  exact h
theorem guard_pm:Tryz.prog.eqGuardType Tryz.prog.depth 57=false:=by kernel_rfl
theorem guard_ho:Tryz.prog.eqGuardType Tryz.prog.depth 59=false:=by kernel_rfl
theorem op_ne_pm {ρ:Operand->Value}{o:Oper}{t':TypeId}{x y:Operand}{u v:Pn}{b:Bool}(ho:o.op= .binOp .neq 57 x y t')(hx:ρ x=pmV u)(hy:ρ y=pmV v)(hb:decide (u=v)=b)(w:World):(execOp ρ o).run YP w= .ok (.value (.bool (!b))) w:=
 p7 ho hx hy guard_pm (λw=>hb▸eq_pm u v 9998 w) w
theorem op_ne_ho {ρ:Operand->Value}{o:Oper}{t':TypeId}{x y:Operand}{u v:Ho}{b:Bool}(ho:o.op= .binOp .neq 59 x y t')(hx:ρ x=hoV u)(hy:ρ y=hoV v)(hb:decide (u=v)=b)(w:World):(execOp ρ o).run YP w= .ok (.value (.bool (!b))) w:=
 p7 ho hx hy guard_ho (λw=>hb▸eq_ho u v 9998 w) w
theorem pmtk_step {α:Type}{l m:List α}{i:Nat}(hi:i<l.length)(hj:i<m.length)(h:l.take i=m.take i)(e:l[i]=m[i]):l.take (i+1)=m.take (i+1):=by
 rw [List.take_succ_eq_append_getElem hi,List.take_succ_eq_append_getElem hj,h,e]
theorem pmtk_end {α:Type}{l m:List α}{i:Nat}(hl:l.length=m.length)(hi:l.length<=i)(h:l.take i=m.take i):l=m:=by
 rwa [List.take_of_length_le hi,List.take_of_length_le Om] at h
theorem r16Same_any (x y:Mv)(W:World)(hx:MnSm W W.heap.size x)(hy:MnSm W W.heap.size y):YC 25 #[mvV x,mvV y] W (YR (.bool (decide (x.mt=y.mt))) W):=by
 have hno:∀ w,YB W w->x.mt≠y.mt->(Ending.returned (.bool false)= .returned (.bool (decide (x.mt=y.mt))))/\YB W w:=λw hb h=>⟨by rw [decide_eq_false h],hb⟩
 have hxp:=hx.np;have hxh:=hx.nh
 have cS:∀ w,YB W w->YC 13 #[rvV x.rec',rvV y.rec'] w (YR (.bool (decide (x.rec'.rt=y.rec'.rt))) w):=λw hb=>r12Same_any x.rec' y.rec' w (hx.rc.on hb hb.size) (hy.rc.on hb hb.size)
 refine zF Tryz.func25 (x1 [] λb2=>x1 [] λb3=>z7 (v:= .bool (decide (x.rec'.rt=y.rec'.rt))) [1,0] (λw hO=>cS w hO.below) (bO 11 (x.rec'.rt=y.rec'.rt) (λh1=> ?_) (λh1=> ?_)))
 rotate_left
 ·exact z8 [] Z5 λw hO=>hno w hO.below λe=>h1 (congrArg Mt.rc e)
 refine vK 20 [1,0] ((x.pins.length:Int)=(y.pins.length:Int)) (λh2=> ?_) (λh2=> ?_)
 rotate_left
 ·exact z8 [] Z5 λw hO=>hno w hO.below λe=>h2 (by
   have:x.pins.length=y.pins.length:=congrArg (λn:Mt=>n.pins.length) e
   omega)
 refine vK 29 [1,0] ((x.holds.length:Int)=(y.holds.length:Int)) (λh3=> ?_) (λh3=> ?_)
 rotate_left
 ·exact z8 [] Z5 λw hO=>hno w hO.below λe=>h3 (by
   have:x.holds.length=y.holds.length:=congrArg (λn:Mt=>n.holds.length) e
   omega)
 have l2:x.pins.length=y.pins.length:=by omega
 have l3:x.holds.length=y.holds.length:=by omega
 refine zX (α:=Nat) (λi=>[(2,Zp b2 0),(3,Zp b3 0),(5,YI (i:Int))]) (λ_=>[mvB b3 y,mvB b2 x]) (λi m=>(i<=x.pins.length/\x.pins.take i=y.pins.take i)/\m=x.pins.length-i) 0 x.pins.length [] ⟨⟨Nat.zero_le _,rfl⟩,rfl⟩ ?_
 rintro i mm g kk ⟨⟨hi,heq⟩,hmm⟩ nx hkk
 subst hkk
 refine zG 35 [1] ((i:Int)<(x.pins.length:Int)) (λh35=> ?_) (λh35=> ?_)
 ·have hj:i<x.pins.length:=by omega
  have hj2:i<y.pins.length:=by omega
  have hst:=pmtk_step hj hj2 heq
  have hdf:x.pins[i]≠y.pins[i]->x.pins≠y.pins:=λh e=>h (by simp only [e])
  obtain ⟨eb,eo,hA,hel⟩:=hx.pin.elem pmC_len i hj
  obtain ⟨fb,fo,hA2,hel2⟩:=hy.pin.elem pmC_len i hj2
  have h1':∀ w,YB W w->(loadVar 57 ⟨eb,eo+i*2+0,none⟩).run YP w= .ok (pmV x.pins[i]) w:=λw hw=>hel w hw _ 0 _ Kr
  have h2':∀ w,YB W w->(loadVar 57 ⟨fb,fo+i*2+0,none⟩).run YP w= .ok (pmV y.pins[i]) w:=λw hw=>hel2 w hw _ 0 _ Kr
  generalize x.pins[i]=u at hst hdf h1'
  generalize y.pins[i]=v at hst hdf h2'
  refine zO 41 [1] hA x.pins.length x.pc i 2 hj (zL 42 [] 57 eb (eo+i*2+0) (pmV u) (λw hO=>h1' w hO.below) (zO 46 [0] hA2 y.pins.length y.pc i 2 hj2 (zL 47 [] 57 fb (fo+i*2+0) (pmV v) (λw hO=>h2' w hO.below) (x_nea (p:=λu v:Pn=>u=v) 57 pmV op_ne_pm 48 [] u v (λh=> ?_) (λh=> ?_)))))
  ·exact x_i 37 [] ((i+1:Nat):Int) (nx (i+1) (x.pins.length-(i+1)) [] Om ⟨⟨hj,hst h⟩,rfl⟩ Kr Kr)
  ·exact z8 [] Z5 λw hO=>hno w hO.below λe=>hdf h (congrArg Mt.pins e)
 have e2:=pmtk_end l2 Om heq
 clear nx
 refine zX (α:=Nat) (λi=>[(2,Zp b2 0),(3,Zp b3 0),(6,YI (i:Int))]) (λ_=>[mvB b3 y,mvB b2 x]) (λi m=>(i<=x.holds.length/\x.holds.take i=y.holds.take i)/\m=x.holds.length-i) 0 x.holds.length [] ⟨⟨Nat.zero_le _,rfl⟩,rfl⟩ ?_
 rintro i2 mm2 g2 kk2 ⟨⟨hi2,heq2⟩,hmm2⟩ nx hkk
 subst hkk
 refine zG 53 [1] ((i2:Int)<(x.holds.length:Int)) (λh53=> ?_) (λh53=> ?_)
 rotate_left
 ·refine z8 [] Z4 λw hO=>⟨?_,hO.below⟩
  have e3:=pmtk_end l3 Om heq2
  rw [decide_eq_true (show x.mt=y.mt by unfold Mv.mt;rw [h1,e2,e3])]
 have hj:i2<x.holds.length:=by omega
 have hj2:i2<y.holds.length:=by omega
 have hst:=pmtk_step hj hj2 heq2
 have hdf:x.holds[i2]≠y.holds[i2]->x.holds≠y.holds:=λh e=>h (by simp only [e])
 obtain ⟨eb,eo,hA,hel⟩:=hx.hold.elem hoC_len i2 hj
 obtain ⟨fb,fo,hA2,hel2⟩:=hy.hold.elem hoC_len i2 hj2
 have h1':∀ w,YB W w->(loadVar 59 ⟨eb,eo+i2*2+0,none⟩).run YP w= .ok (hoV x.holds[i2]) w:=λw hw=>hel w hw _ 0 _ Kr
 have h2':∀ w,YB W w->(loadVar 59 ⟨fb,fo+i2*2+0,none⟩).run YP w= .ok (hoV y.holds[i2]) w:=λw hw=>hel2 w hw _ 0 _ Kr
 generalize x.holds[i2]=u at hst hdf h1'
 generalize y.holds[i2]=v at hst hdf h2'
 refine zO 59 [1] hA x.holds.length x.hc i2 2 hj (zL 60 [] 59 eb (eo+i2*2+0) (hoV u) (λw hO=>h1' w hO.below) (zO 64 [0] hA2 y.holds.length y.hc i2 2 hj2 (zL 65 [] 59 fb (fo+i2*2+0) (hoV v) (λw hO=>h2' w hO.below) (x_nea (p:=λu v:Ho=>u=v) 59 hoV op_ne_ho 66 [] u v (λh=> ?_) (λh=> ?_)))))
 ·exact x_i 55 [] ((i2+1:Nat):Int) (nx (i2+1) (x.holds.length-(i2+1)) [] Om ⟨⟨hj,hst h⟩,rfl⟩ Kr Kr)
 ·exact z8 [] Z5 λw hO=>hno w hO.below λe=>hdf h (congrArg Mt.holds e)
end
end Go.Proofs.YtobimfnmnkegdaaGreatDoor
