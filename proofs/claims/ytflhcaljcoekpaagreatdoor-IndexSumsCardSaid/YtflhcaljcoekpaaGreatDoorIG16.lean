import Derived.Lib.Bytealg
import Derived.Scope
import Derived.Test.YtflhcaljcoekpaaGreatDoorIG15
set_option maxRecDepth 1000000
set_option maxHeartbeats 8000000
set_option linter.unusedVariables false
set_option linter.unusedSimpArgs false
set_option linter.unnecessarySimpa false
namespace Go.Proofs.YtflhcaljcoekpaaGreatDoor
open Go.RowKit

section
theorem Own.turn {M:List Nat}{W w:World}{L:List Blk}(h:Own M W w L){l:Nat}{o:Obj}(hl:W.heap.size<=l)(ho:w.heap[l]?=some o)(hc:o.isCells=false)(o':Obj):Own M W (w.putObj l o') L:=by
 refine ⟨h.os,h.tape,h.output,by rw [World.putObj_size];exact h.size,h.drawn,λk hk hm=>(World.putObj_heap_other Om).trans (h.kept k hk hm),λx hx=> ?_,h.base,h.apart⟩
 have hx':=h.held x hx
 refine (World.putObj_heap_other λe=> ?_).trans hx'
 rw [e,ho] at hx'
 cases hx';cases hc
theorem Own.lay {M:List Nat}{W w:World}{L:List Blk}(h:Own M W w L)(o:Obj):Own M W (w.alloc o) L:=h.on ((Below.refl _ w).alloc (Nat.le_refl _) o)
def mkQ (P:Program)(fn:Func)(R:Ending->World->Prop):Exit->Act->World->Prop
 | .normal,a,w| .ret,a,w=>LeavesInM Fence.wide 0 P fn a.tmps R a.defers .returning w
 |_,_,_=>False
theorem pq_mk {P:Program}{fn:Func}{R:Ending->World->Prop}:PQ (mkQ P fn R):=λc a d v w h=>h
theorem calls_mk {M:List Nat}{P:Program}{n:Nat}{W:World}{L:List Blk}{k:FuncId}{fn:Func}{c:Code}{args:Array Value}{R:Ending->World->Prop}(hO:Own M W W L)(hf:P.funcs[k]?=some fn)(hb:fn.body=some c)(hn:fn.ntmps=n)(hle:Nat.ble args.size n=true)
  (h:Ok M P n W (mkQ P fn R) c L (λt=>args.getD t undef)):Calls P k args W R:=by
 have hle':args.size<=n:=Nat.le_of_ble_eq_true hle
 have e:({tmps:=args++Array.replicate (fn.ntmps-args.size) undef,defers:=[]}:Act)=Fr n (λt=>args.getD t undef):=by
  unfold Fr
  congr 1
  rw [hn]
  apply Array.ext_getElem?
  intro i
  rw [Array.getElem?_ofFn,Array.getElem?_append,Array.getElem?_replicate]
  by_cases hi:i<args.size
  ·rw [if_pos hi,dif_pos Om];simp [Array.getD,hi]
  ·rw [if_neg hi]
   by_cases h2:i<n
   ·rw [dif_pos h2,if_pos Om];simp [Array.getD,hi]
   ·rw [dif_neg h2,if_neg Om]
 refine (callsIn_wide (n:=0)).1 (callsIn_of_wp_marks hf hb trivial (wpIn_wide.2 ?_) rfl)
 rw [e]
 refine wp_mono (h.go W hO) λex a w hq=> ?_
 cases ex with
 |normal=>exact hq
 |ret=>exact hq
 |_=>exact hq.elim
theorem x_enterM {M:List Nat}{P:Program}{W:World}{L:List Blk}{k:FuncId}{fn:Func}{args:Array Value}{R:Ending->World->Prop}(hO:Own M W W L)(hf:P.funcs[k]?=some fn)(hg:zF M P fn.ntmps W (mkQ P fn R) ⟨.code (fn.body.getD .skip),[],L,λt=>args.getD t undef⟩)
  (hb:fn.body.isSome=true:=by kernel_rfl) (hle:Nat.ble args.size fn.ntmps=true:=by kernel_rfl):Calls P k args W R:=by
 cases hb':fn.body with
 |none=>rw [hb'] at hb;cases hb
 |some b=>rw [hb'] at hg;exact calls_mk hO hf hb' rfl hle (hg.go pq_mk)
def rndQ (M1:List Nat)(B:Nat)(r:YL)(rel:YL->List Blk->Prop)(relx:List Blk->Prop)(Wr:World):Exit->Act->World->Prop
 | .normal,_,w=>∃ L',rel r L'/\Own M1 Wr w (yY B r::L')
 | .ret,_,w=>∃ L',relx L'/\Own M1 Wr w L'
 |_,_,_=>False
theorem pq_rnd {M1:List Nat}{B:Nat}{r:YL}{rel:YL->List Blk->Prop}{relx:List Blk->Prop}{Wr:World}:PQ (rndQ M1 B r rel relx Wr):=λc a d v w h=>h
theorem out_rnd {M1:List Nat}{B:Nat}{r:YL}{rel:YL->List Blk->Prop}{relx:List Blk->Prop}{Wr:World}{id:Nat}{K:Act->World->Prop}:¬ LetsOut (Exit.then K (Exit.inBlock id (rndQ M1 B r rel relx Wr))):=λ⟨_,_,h⟩=>h
theorem out_lend {M:List Nat}{W w w':World}{L L':List Blk}(h:Own M W w L)(h':Own (L.map Blk.b) w w' L'):Own M W w' L':=by
 have:=Own.back (R:=[]) (by rw [List.append_nil];exact h) h'
 rwa [List.append_nil] at this
theorem wK {w w':World}{L L':List Blk}{l:Nat}{o:Obj}(hh:∀ x∈L,w.heap[x.b]?=some (.cells x.cs x.ty))(h:Own (L.map Blk.b) w w' L')(ho:w.heap[l]?=some o)(hc:o.isCells=false):w'.heap[l]?=some o:=by
 refine (h.kept l (Array.getElem?_eq_some_iff.1 ho).1 λhm=> ?_).trans ho
 obtain ⟨x,hx,rfl⟩:=List.mem_map.1 hm
 rw [hh x hx] at ho
 cases ho;cases hc
theorem wp_lines {M:List Nat}{n:Nat}{Q:Exit->Act->World->Prop}{W0 w:World}{L0:List Blk}{f:Nat->Value}{g:Operand}{t B:Nat}{assign body:Code}{s:YL}
  (hg:ev n f g= .func (.func 83) #[] #[.pointer (some ⟨B,0,none⟩)])
  (rel:YL->List Blk->Prop) (relx:List Blk->Prop) (f1:YL->Nat->Value)
  (hA:∀ (p:YL) (l:Nat) (w:World) (K:Act->World->Prop),K (Fr n (f1 p)) w->assign.wpIn (Fence.wide.inRound l) 1 YP (Exit.then K (λ_ _ _=>False)) {tmps:=(Fr n f).tmps.setIfInBounds t (.string (mkS p)),defers:=[]} w)
  (hB:∀ (r:YL) (L:List Blk) (l:Nat) (Wr:World),r≠[]->rel r L->Own M W0 Wr (yY B (lnR r)::L)->body.wpIn (Fence.wide.inRound l) 1 YP (rndQ ((yY B (lnR r)::L).map Blk.b) B (lnR r) rel relx Wr) (Fr n (f1 (lnH r))) Wr)
  (h0:rel s L0) (hO:Own M W0 w (yY B s::L0)) (hs:s.length<=1000000)
  (hdone:∀ D L w',W0.heap.size<=D->rel [] L->Own M W0 w' (yY B []::L)->w'.heap[D]?=some (.deferred (some []))->Q .normal {Fr n f with defers:=[{target:= .collected D,args:= #[]}]} w')
  (hret:∀ D L w',W0.heap.size<=D->relx L->Own M W0 w' L->w'.heap[D]?=some (.deferred (some []))->Q .ret {Fr n f with defers:=[{target:= .collected D,args:= #[]}]} w'):
  (Code.rangeFunc g #[t] assign body).wp YP Q (Fr n f) w:=by
 refine (wpIn_wide (n:=1)).1 (wpIn_rangeFunc ?_)
 intro fn hfn
 obtain ⟨rc,hrc⟩:∃ rc:LoopState->Option Code->Loop,rc=λst pe=>{state:=st,pending:=pe,fn,tmps:=(Fr n f).tmps,params:= #[t],assign,body,defers:=w.heap.size}:=⟨_,rfl⟩
 obtain ⟨W1,hW1⟩:∃ W1,(w.alloc (.deferred (some []))).alloc (.loop (rc .ready none))=W1:=⟨_,rfl⟩
 obtain ⟨l,hl⟩:∃ l,w.heap.size+1=l:=⟨_,rfl⟩
 have hWl:W0.heap.size<=l:=by have:=hO.size;omega
 have hL1:W1.heap[l]?=some (.loop (rc .ready none)):=by
  rw [←hW1,←hl];have:=World.alloc_heap_new (w.alloc (.deferred (some []))) (.loop (rc .ready none));rwa [World.size_alloc] at this
 have hK1:W1.heap[w.heap.size]?=some (.deferred (some [])):=by
  rw [←hW1];exact (Below.heap_alloc _ _ _ (by simp)).trans (World.alloc_heap_new w _)
 have hO1:Own M W0 W1 (yY B s::L0):=by rw [←hW1];exact (hO.lay _).lay _
 have hD:=hO.size
 refine ⟨l,[{target:= .collected w.heap.size,args:= #[]}],W1,{target:= .fn (.func 83) #[Zp B 0],args:= #[.func (.yield l) #[] #[]]},W1,83, #[.func (.yield l) #[] #[],Zp B 0],W1, ?_, ?_,λ_ _=>trivial, ?_,λq=>(by cases q), ?_⟩
 ·rw [←hW1,←hl,hrc];exact run_enterLoop_outer _ _ _ _ _
 ·simp only [resolve,xG,hg]
  simp [go_sem]
  rfl
 ·simp [invoke,go_sem,enters_of Tryz.func83 Kr rfl]
 have hlt:∀ {w:World} {k:Nat} {o:Obj},w.heap[k]?=some o->k<w.heap.size:=λh=>(Array.getElem?_eq_some_iff.1 h).1
 refine (callsIn_wide.2 (lines_any l B (λr w'=>(∃ L,rel r L/\Own M W0 w' (yY B r::L))/\w'.heap[l]?=some (.loop (rc .ready none))/\w'.heap[w.heap.size]?=some (.deferred (some [])))
  (λp r' w'=>(∃ r L,r≠[]/\p=lnH r/\r'=lnR r/\rel r L/\Own M W0 w' (yY B (lnR r)::L))/\w'.heap[l]?=some (.loop (rc .ready none))/\w'.heap[w.heap.size]?=some (.deferred (some [])))
  (λw'=>(∃ L,relx L/\Own M W0 w' L)/\w'.heap[l]?=some (.loop (rc .done (some .ret)))/\w'.heap[w.heap.size]?=some (.deferred (some [])))
  (λr w1 ⟨⟨L,_,h⟩,_⟩=>(h.sublist (L':=[yY B r]) (List.cons_sublist_cons.2 (List.nil_sublist _))).lend)
  (λr w1 w2 ⟨⟨L,q,h⟩,h2,h3⟩ h'=>⟨⟨L,q,Own.back (ob:=[yY B r]) (ob':=[yY B r]) (R:=L) h h'⟩,wK (L:=[yY B r]) (λx hx=>h.held x (by rw [List.mem_singleton.1 hx];exact List.mem_cons_self ..)) h' h2 rfl,wK (L:=[yY B r]) (λx hx=>h.held x (by rw [List.mem_singleton.1 hx];exact List.mem_cons_self ..)) h' h3 rfl⟩)
  (λr w1 w2 ⟨⟨L,q,h⟩,h2,h3⟩ hne h'=>⟨⟨r,L,hne,rfl,rfl,q,Own.back (ob:=[yY B r]) (ob':=[yY B (lnR r)]) (R:=L) h h'⟩,wK (L:=[yY B r]) (λx hx=>h.held x (by rw [List.mem_singleton.1 hx];exact List.mem_cons_self ..)) h' h2 rfl,wK (L:=[yY B r]) (λx hx=>h.held x (by rw [List.mem_singleton.1 hx];exact List.mem_cons_self ..)) h' h3 rfl⟩)
  (λw1 w2 ⟨⟨L,q,h⟩,h2,h3⟩ hb=>⟨⟨L,q,h.on hb⟩,(hb.block _ (hlt h2)).trans h2,(hb.block _ (hlt h3)).trans h3⟩)
  ?_ s W1 ⟨⟨L0,h0,hO1⟩,hL1,hK1⟩ hs)).mono ?_
 ·rintro p r' w1 ⟨⟨r,L,hne,rfl,rfl,hrel,h⟩,h2,h3⟩
  have hy:=run_yield (P:=YP) (args:= #[.string (mkS (lnH r))]) h2 (by rw [hrc];rfl)
  rw [hrc] at hy
  refine ⟨fn,(Fr n f).tmps.setIfInBounds t (.string (mkS (lnH r))),assign,body,by rw [hy];simp,roundIn_of_wpIn trivial (hA (lnH r) l w1 _ ?_)⟩
  refine ⟨_,run_beginRound h2 (by rw [hrc]), ?_⟩
  have h4:=h.turn hWl h2 rfl (.loop {rc .ready none with state:= .busy})
  have hl2:(w1.putObj l (.loop {rc .ready none with state:= .busy})).heap[l]?=some (.loop {rc .ready none with state:= .busy}):=World.putObj_heap_same (hlt h2)
  have hk2:(w1.putObj l (.loop {rc .ready none with state:= .busy})).heap[w.heap.size]?=some (.deferred (some [])):=(World.putObj_heap_other Om).trans h3
  refine wpIn_mono (hB r L l _ hne hrel h4) λe a w3 hp=> ?_
  cases e with
  |normal=>
   obtain ⟨L',q1,q2⟩:=hp
   have hl3:=wK h4.held q2 hl2 rfl
   have hk3:=wK h4.held q2 hk2 rfl
   exact ⟨_,_,run_endRound none hl3,.inl ⟨rfl,⟨L',q1,(out_lend h4 q2).turn hWl hl3 rfl _⟩,(World.putObj_heap_same (hlt hl3)).trans (by rw [hrc];rfl),(World.putObj_heap_other Om).trans hk3⟩⟩
  |ret=>
   obtain ⟨L',q1,q2⟩:=hp
   have hl3:=wK h4.held q2 hl2 rfl
   have hk3:=wK h4.held q2 hk2 rfl
   exact ⟨_,_,run_endRound (some .ret) hl3,.inr ⟨rfl,⟨L',q1,(out_lend h4 q2).turn hWl hl3 rfl _⟩,(World.putObj_heap_same (hlt hl3)).trans (by rw [hrc];rfl),(World.putObj_heap_other Om).trans hk3⟩⟩
  |_=>exact hp.elim
 ·rintro e w2 ⟨rfl,(⟨⟨L,q,h⟩,h2,h3⟩|⟨⟨L,q,h⟩,h2,h3⟩)⟩
  ·exact ⟨none,_,by have:=run_endLoop (P:=YP) h2 (by rw [hrc];simp);rw [hrc] at this;exact this,hdone w.heap.size L _ hD q (h.turn hWl h2 rfl _) ((World.putObj_heap_other Om).trans h3)⟩
  ·exact ⟨some .ret,_,by have:=run_endLoop (P:=YP) h2 (by rw [hrc];simp);rw [hrc] at this;exact this,wpIn_ret (hret w.heap.size L _ hD q (h.turn hWl h2 rfl _) ((World.putObj_heap_other Om).trans h3))⟩
end
section
def wO:Nat->Rt->Nat->Nat->YL->Int×Rt×Nat
 |0,x,k,i,_=>(0,x,k)
 |f+1,x,k,i,r=>
  if r=[] then (0,x,k)
  else if (zB 10 r).2.2 then
   match kO x k (zB 10 r).1 lays with
   |some (y,kk)=>wO f y kk (i+1) (zB 10 r).2.1
   |none=>(((i+1:Nat):Int),x,k)
  else (((i+1:Nat):Int),x,k)
structure FewR (x:Rt)(m:Nat):Prop where
 n:x.needs.length<=m
 b:x.bars.length<=m
 f:x.fts.length<=m
 a:∀ n∈x.needs,n.any.length<=m
theorem FewR.up {x:Rt}{m m':Nat}(h:FewR x m)(hm:m<=m'):FewR x m':=⟨Nat.le_trans h.n hm,Nat.le_trans h.b hm,Nat.le_trans h.f hm,λn hn=>Nat.le_trans (h.a n hn) hm⟩
theorem dA {α:Type}(f:α->α):∀ l:List α,(yV f l).length=l.length
 | []=>rfl
 | [a]=>rfl
 |a::b::r=>by rw [yV,List.length_cons,dA f (b::r)];simp
theorem pX {α:Type}{f:α->α}{p:α->Prop}(hf:∀ y,p y->p (f y)):∀ {l:List α},(∀ y∈l,p y)→∀ y∈yV f l,p y
 | [],h=>h
 | [a],h=>λy hy=>by
  rw [yV,List.mem_singleton] at hy;rw [hy];exact hf a (h a (List.mem_singleton.2 rfl))
 |a::b::r,h=>λy hy=>by
  rw [yV] at hy
  rcases List.mem_cons.1 hy with rfl|hy
  ·exact h _ (List.mem_cons_self ..)
  ·exact pX hf (λz hz=>h z (List.mem_cons_of_mem _ hz)) y hy
theorem add_few {x:Rt}{m:Nat}(h:FewR x m)(kd:Nat)(ps:List YL):FewR (mM x kd ps).1 (m+1):=by
 have h1:=h.up (Nat.le_succ m)
 unfold mM
 split
 ·exact ⟨h1.n,h1.b,h1.f,h1.a⟩
 ·refine ⟨by rw [List.length_append];exact Nat.succ_le_succ h.n,h1.b,h1.f,λn hn=> ?_⟩
  rcases List.mem_append.1 hn with hn|hn
  ·exact h1.a n hn
  ·rw [List.mem_singleton.1 hn];exact Nat.zero_le _
 ·refine ⟨by rw [dA];exact h1.n,h1.b,h1.f,λn hn=> ?_⟩
  have key:∀ {l:List Nt},(∀ y∈l,y.any.length<=m)→∀ y∈yV (λn=>{n with any:=n.any++[anyW ps (ps.getD 4 [])]}) l,y.any.length<=m+1:=by
   intro l
   induction l with
   |nil=>intro _ y hy;cases hy
   |cons a r ih=>
    intro hl y hy
    cases r with
    |nil=>
     rw [yV,List.mem_singleton] at hy
     rw [hy];show (a.any++_).length<=_
     rw [List.length_append];exact Nat.succ_le_succ (hl a (List.mem_singleton.2 rfl))
    |cons b r=>
     rw [yV] at hy
     rcases List.mem_cons.1 hy with rfl|hy
     ·exact Nat.le_succ_of_le (hl _ (List.mem_cons_self ..))
     ·exact ih (λz hz=>hl z (List.mem_cons_of_mem _ hz)) y hy
  exact key h.a n hn
 ·exact ⟨by rw [dA];exact h1.n,h1.b,h1.f,pX (f:=λn:Nt=>{n with wh:=ps.getD 1 []}) (p:=λn:Nt=>n.any.length<=m+1) (λy hy=>hy) h1.a⟩
 ·exact ⟨by rw [dA];exact h1.n,h1.b,h1.f,pX (f:=λn:Nt=>{n with opt:=ps.getD 1 []}) (p:=λn:Nt=>n.any.length<=m+1) (λy hy=>hy) h1.a⟩
 ·exact ⟨h1.n,by rw [List.length_append];exact Nat.succ_le_succ h.b,h1.f,h1.a⟩
 ·exact ⟨h1.n,by rw [dA];exact h1.b,h1.f,h1.a⟩
 ·exact ⟨h1.n,h1.b,by rw [List.length_append];exact Nat.succ_le_succ h.f,h1.a⟩
 ·exact h1
theorem take_few {x y:Rt}{m k kk:Nat}{s:YL}(h:FewR x m):∀ {L:List La},kO x k s L=some (y,kk)->FewR y (m+1)
 | [],e=>by cases e
 |l::r,e=>by
  rw [kO] at e
  split at e
  ·split at e
   ·simp only [Option.some.injEq,Prod.mk.injEq] at e
    rw [←e.1];exact add_few h _ _
   ·cases e
  ·exact take_few h e
theorem take_inv {x y:Rt}{k kk:Nat}{s:YL}(hI:InvA x k)(h:kO x k s lays=some (y,kk)):InvA y kk/\qO ⟨x,stg k⟩ s=some ⟨y,stg kk⟩:=by
 have:=take_line hI s
 rw [h] at this
 cases hl:qO ⟨x,stg k⟩ s with
 |none=>rw [hl] at this;exact this.elim
 |some z=>rw [hl] at this;exact ⟨this.2,by rw [this.1]⟩
theorem take_not {x:Rt}{k:Nat}{s:YL}(hI:InvA x k)(h:kO x k s lays=none):qO ⟨x,stg k⟩ s=none:=by
 have:=take_line hI s
 rw [h] at this
 cases hl:qO ⟨x,stg k⟩ s with
 |none=>rfl
 |some z=>rw [hl] at this;exact this.elim
theorem resA_read:∀ (f:Nat) (x:Rt) (k i:Nat) (r:YL),InvA x k->r.length<=f→
  let ls:=zA 10 [] r
  ((wO f x k i r).1=0->InvA (wO f x k i r).2.1 (wO f x k i r).2.2/\bH ⟨x,stg k⟩ ls.dropLast=some ⟨(wO f x k i r).2.1,stg (wO f x k i r).2.2⟩/\ls.getLast?=some [])
  /\((wO f x k i r).1≠0->(bH ⟨x,stg k⟩ ls.dropLast=none/\(wO f x k i r).1=badS ⟨x,stg k⟩ i ls.dropLast)\/((∃ y,bH ⟨x,stg k⟩ ls.dropLast=some y)/\ls.getLast?≠some []/\(wO f x k i r).1=((i+ls.length:Nat):Int)))
 |f,x,k,i,[],hI,_=>by
  have e:wO f x k i []=(0,x,k):=by cases f with
   |zero=>rfl
   |succ f=>rw [wO,if_pos rfl]
  rw [e]
  exact ⟨λ_=>⟨hI,rfl,rfl⟩,λh=>absurd rfl h⟩
 |0,x,k,i,c::r,hI,h=>by simp at h
 |f+1,x,k,i,c::t,hI,hf=>by
  obtain ⟨r,hr⟩:∃ r,c::t=r:=⟨_,rfl⟩
  have hne:r≠[]:=by rw [←hr];simp
  rw [hr] at hf ⊢
  have hsp:=yX 10 r []
  rw [List.nil_append] at hsp
  rw [wO,if_neg hne]
  cases hq:(zB 10 r).2.2 with
  |false=>
   rw [hq,if_neg Bool.false_ne_true] at hsp
   have hb:=fV 10 r
   rw [hq,if_neg Bool.false_ne_true,List.append_nil] at hb
   rw [if_neg Bool.false_ne_true,hsp]
   refine ⟨λh=>absurd h (by show ((i+1:Nat):Int)≠0;omega),λ_=> .inr ⟨⟨_,rfl⟩, ?_,rfl⟩⟩
   show some (zB 10 r).1≠some []
   rw [←hb];simpa using hne
  |true=>
   have hl:=cutAt_len 10 r
   rw [hq,if_pos rfl] at hl hsp
   rw [if_pos rfl,hsp]
   have hsne:zA 10 [] (zB 10 r).2.1≠[]:=jG 10 _ _
   obtain ⟨L,hL⟩:∃ L,zA 10 [] (zB 10 r).2.1=L:=⟨_,rfl⟩
   have hd:((zB 10 r).1::L).dropLast=(zB 10 r).1::L.dropLast:=List.dropLast_cons_of_ne_nil (hL▸hsne)
   have hg:((zB 10 r).1::L).getLast?=L.getLast?:=by
    rw [hL] at hsne
    cases L with
    |nil=>exact absurd rfl hsne
    |cons a b=>simp [List.getLast?_cons_cons]
   rw [hL]
   dsimp only
   rw [hd,hg]
   cases ht:kO x k (zB 10 r).1 lays with
   |none=>
    have hn:=take_not hI ht
    refine ⟨λh=>absurd h (by show ((i+1:Nat):Int)≠0;omega),λ_=> .inl ⟨?_, ?_⟩⟩
    ·rw [bH,hn]
    ·rw [badS,hn]
   |some yk=>
    obtain ⟨y,kk⟩:=yk
    obtain ⟨hI',hs⟩:=take_inv hI ht
    have ih:=resA_read f y kk (i+1) (zB 10 r).2.1 hI' Om
    rw [hL] at ih
    dsimp only at ih ⊢
    rw [bH,badS,hs]
    refine ⟨ih.1,λh=> ?_⟩
    rcases ih.2 h with ⟨q1,q2⟩|⟨q1,q2,q3⟩
    ·exact .inl ⟨q1,q2⟩
    ·refine .inr ⟨q1,q2, ?_⟩
     rw [q3,List.length_cons];congr 1;omega
theorem inv_nil:InvA bJ 0:=⟨by decide,λ_=>rfl,λh=>absurd h (by decide),λh=>absurd h (by decide)⟩
def bZ (s:YL):Int:=if s=[] then 1 else (wO s.length bJ 0 0 s).1
def recA (s:YL):Rt:=(wO s.length bJ 0 0 s).2.1
theorem stg_zero {k:Nat}(h:k<=8):stg k=0↔k=0:=by
 have:∀ j,j<=8->(stg j=0↔j=0):=by decide
 exact this k h
end
section
set_option linter.unnecessarySimpa false
def findRF:Code->Code×Code
 | .rangeFunc _ _ a b=>(a,b)
 | .seq x y=>match findRF x with
  |(.skip,.skip)=>findRF y
  |r=>r
 | .block _ x=>findRF x
 |_=>(.skip,.skip)
def dM (i:Nat):Code->Array Oper
 | .region j a _=>if j=i then a else #[]
 | .seq x y=>if (dM i x).size=0 then dM i y else dM i x
 | .cond _ x y=>if (dM i x).size=0 then dM i y else dM i x
 | .block _ x=>dM i x
 | .rangeFunc _ _ x y=>if (dM i x).size=0 then dM i y else dM i x
 |_=> #[]
section
variable {M:List Nat}{P:Program}{n:Nat}{W:World}{Q:Exit->Act->World->Prop}{c:Xc}
theorem x_range (h:List Nat){g:Operand}{t:Nat}(assign body rest:Code)(lv:List (Nat×Value))(L1:List Blk)(hs:∀ w f,Own M W w L1->(Code.rangeFunc g #[t] assign body).wp P (Exit.inBlock 0 (Exit.then (rest.wp P Q) Q)) (Fr n (jP f lv)) w)
  (hkt:(xgl P n nS h c,(xgo P n nS h c).top,(xgo P n nS h c).k,(xgo P n nS h c).L,xV (xgo P n nS h c).f lv)=(xgr P n nS h c,.code (.rangeFunc g #[t] assign body),[.blk 0,.code rest],L1,lv.map Prod.snd):=by kernel_rfl):zF M P n W Q c:=by
 simp only [Prod.mk.injEq] at hkt
 obtain ⟨hk,e1,e2,e3,e4⟩:=hkt
 refine zJ h c hk ?_
 generalize xgo P n nS h c=d at*
 obtain ⟨top,kk,L,f⟩:=d
 dsimp only at e1 e2 e3 e4
 subst e1;subst e2;subst e3
 exact ⟨λ_=>⟨λw hO=>by have:=hs w f hO;rw [←gW _ (gK e4)] at this;exact this⟩⟩
theorem x_retM {fn:Func}{R:Ending->World->Prop}(h:List Nat)(i:Nat)(v:Value)(hR:∀ w,Own M W w (xgo P n nS h c).L->R (.returned v) w)(hkt:(xgl P n nS h c,((xgo P n nS h c).top,(xgo P n nS h c).k,fn.results,(xgo P n nS h c).L[i]?,ev n (xgo P n nS h c).f (.tmp (xRt fn 0)),yZ P (xRy fn 0) (kG (xgo P n nS h c).L i).cs 0))=(xgr P n nS h c,(.fin .ret,[], #[.cell (xRt fn 0) (xRy fn 0)],some (kG (xgo P n nS h c).L i),.pointer (some ⟨(kG (xgo P n nS h c).L i).b,0,none⟩),some v)):=by kernel_rfl):zF M P n W (mkQ P fn R) c:=by
 obtain ⟨hk,ht⟩:=Prod.mk.inj hkt
 refine zJ h c hk ?_
 generalize xgo P n nS h c=d at hR ht ⊢
 obtain ⟨top,kk,L,f⟩:=d
 simp only [Prod.mk.injEq] at ht
 obtain ⟨rfl,rfl,e3,e4,e5,e6⟩:=ht
 exact ⟨λ_=>⟨λw hO=>(((fin_cell (M:=M) (P:=P) (n:=n) (W:=W) (R:=R) i _ v e3 e4 e5 e6 hR).go w hO).2)⟩⟩
end
theorem results_cellB {P:Program}{n:Nat}{f:Nat->Value}{fn:Func}{p:Tmp}{ty:TypeId}{x:Blk}{v:Value}{w:World}(hres:fn.results= #[.cell p ty])(hp:ev n f (.tmp p)= .pointer (some ⟨x.b,0,none⟩))(hx:w.heap[x.b]?=some (.cells x.cs x.ty))(hv:yZ P ty x.cs 0=some v):(results fn (Fr n f).tmps).run P w= .ok v w:=by
 have e:(Fr n f).tmps.getD p undef= .pointer (some ⟨x.b,0,none⟩):=(kY n f p).trans hp
 have hr:=yM hv hx
 have e':(Fr n f).tmps[p]?.getD undef= .pointer (some ⟨x.b,0,none⟩):=by simpa using e
 simp [results,hres,e',asAddr,hr]
theorem leave_mark {P:Program}{fn:Func}{R:Ending->World->Prop}{tmps:Array Value}{w:World}{D:Nat}{v:Value}(hK:w.heap[D]?=some (.deferred (some [])))(hres:(results fn tmps).run P (w.putObj D (.deferred none))= .ok v (w.putObj D (.deferred none)))(hR:R (.returned v) (w.putObj D (.deferred none))):LeavesInM Fence.wide 0 P fn tmps R [{target:= .collected D,args:= #[]}] .returning w:=
 ⟨by simp,.inl ⟨_,_,rfl,run_takeDeferred hK,v,hres,hR⟩⟩
theorem store_marks {P:Program}{n id i off:Nat}{f:Nat->Value}{o:Oper}{ds:List Deferred}{Q:Exit->Act->World->Prop}{M:List Nat}{W w:World}{L:List Blk}(x:Blk){T:TypeId}{t:TypeInfo}{p q:Operand}(v:Value)(hw:zS #[o] n f o=true)(ho:o.op= .store T p q)(hd:o.dst=none)(hL:L[i]?=some x)
  (hp:ev n f p= .pointer (some ⟨x.b,off,none⟩)) (hq:ev n f q=v) (hi:P.info? T=some t) (hs:v.cells.size=t.size) (hle:off+t.size<=x.cs.size) (h1:∀ u∈v.cells.toList,u.oneCell'=true) (hO:Own M W w L)
  (h:∀ w',Own M W w' (L.set i ⟨x.b,zP x.cs off v.cells,x.ty⟩)->(∀ k,k≠x.b->w'.heap[k]?=w.heap[k]?)->Q .normal {Fr n f with defers:=ds} w'):(Code.region id #[o] false).wp P Q {Fr n f with defers:=ds} w:=by
 have hst:=run_storeCells_at (P:=P) x.b off x.ty v.cells.toList 0 x.cs w (hO.get hL) (by simp;omega) h1
 have hr:(execOp (ev n f) o).run P w= .ok .skip (w.setRow x.b (zP x.cs off v.cells)):=by
  unfold execOp
  simp only [ho,hp,hq,Instr.storeAt,Instr.sureAddr,Sem.run_bind,Sem.run_pure,Result.andThen_ok,storeVar,sizeOf,typeInfo,hi,hs,run_program]
  simp only [ne_eq,not_true_eq_false,if_false]
  have:(storeCells ⟨x.b,off,none⟩ v.cells.toList).run P w= .ok () (w.setRow x.b (zP x.cs off v.cells)):=by
   rw [hst];unfold zP;simp
  simp [this]
 refine wp_region_list ?_
 show wpList P #[o] Q [o] {Fr n f with defers:=ds} w
 unfold wpList
 have hwt:Region.wanted o (yielded #[o] ({Fr n f with defers:=ds}:Act).tmps)=true:=(qA #[o] n f o).trans hw
 rw [if_pos hwt]
 refine .inl ?_
 unfold Oper.wp
 have he:({Fr n f with defers:=ds}:Act).eval=ev n f:=xG n f
 rw [he,hr,Oper.upon_skip,show ({Fr n f with defers:=ds}:Act).put o.dst undef={Fr n f with defers:=ds} by rw [hd];rfl]
 unfold wpList
 exact h _ (hO.put hL _) λk hk=>by
  unfold World.setRow
  simp [World.setRow,hk,Array.getElem?_modify,Ne.symm hk]
end
section
set_option linter.unnecessarySimpa false
theorem qLines_any (s:YL)(W:World):YC 46 #[.string (mkS s)] W λe w'=>∃ v ob,e= .returned v/\(∃ B,v= .func (.func 83) #[] #[.pointer (some ⟨B,0,none⟩)]/\ob=[yY B s])/\Own [] W w' ob:=
 zD Tryz.func46 (zY [] λb1=>x_val 3 [] (.func (.func 83) #[] #[.pointer (some ⟨b1,0,none⟩)]) (λw=>Kr) (z8 [] (.func (.func 83) #[] #[.pointer (some ⟨b1,0,none⟩)]) λw hO=>⟨_,_,rfl,⟨b1,rfl,rfl⟩,hO.past 0 [yY b1 s]⟩))
theorem suf_cut (r:YL):Lib.hasSuffix (lnH r) [10]=(zB 10 r).2.2/\((zB 10 r).2.2=true->Lib.trimSuffix (lnH r) [10]=(zB 10 r).1):=by
 unfold lnH
 cases hq:(zB 10 r).2.2 with
 |true=>
  rw [if_pos rfl]
  have h1:Lib.hasSuffix ((zB 10 r).1++[10]) [10]=true:=List.isSuffixOf_iff_suffix.2 (List.suffix_append _ _)
  exact ⟨h1,λ_=>by unfold Lib.trimSuffix;rw [if_pos h1];simp⟩
 |false=>
  rw [if_neg Bool.false_ne_true]
  refine ⟨?_,λh=>absurd h Bool.false_ne_true⟩
  have h1:=split_free 10 r [] (by simp) r (by rw [split_one 10 hq];exact List.mem_singleton.2 rfl)
  cases h2:Lib.hasSuffix r [10] with
  |false=>rfl
  |true=>exact absurd ((List.isSuffixOf_iff_suffix.1 h2).subset (List.mem_singleton.2 rfl)) h1
theorem qSuf_any (p:YL)(w:World)(hp:p.length<=1000000):YC 130 #[.string (mkS p),.string ⟨#[10]⟩] w (YR (.tuple #[.string (mkS (Lib.trimSuffix p [10])),.bool (Lib.hasSuffix p [10])]) w):=
 (Tryz.strings_CutSuffix _ _ w (by rw [y7];omega)).mono λe w' ⟨h1,h2⟩=>⟨by rw [h1];rfl,h2▸Below.refl _ _⟩
def gN (b:Nat)(z:Int):Blk:=⟨b, #[YI z],3⟩
def tkV (rb:Nat):Value:= .func (.func 183) #[.pointer (some ⟨rb,0,none⟩)] #[]
def fnB (b rb:Nat):Blk:=⟨b, #[tkV rb],114⟩
structure RefB (rb:Nat)(s:YL)(ob:List Blk)(W:World)(e:Ending)(w':World):Prop where
 ex:∃ x' k' ob',e= .returned (YI (bZ s))/\RdR rb k' x' ob'/\Own (ob.map Blk.b) W w' ob'/\(s≠[]->bZ s=0->x'.rt=recA s/\FewR x'.rt 4096)
noncomputable abbrev qRF:Code×Code:=findRF (Tryz.f182.body.getD .skip)
noncomputable abbrev qRg (i:Nat):Array Oper:=dM i (Tryz.f182.body.getD .skip)
theorem qBody_is:qRF.2= .block 1 (.seq (.region 6 (qRg 6) false) (.seq (.region 7 (qRg 7) false) (.seq (.region 8 (qRg 8) false) (.cond (.tmp 28) (.seq (.region 9 (qRg 9) false) .ret) .skip)))):=by kernel_rfl
structure RefI (rb b3 b4 b5:Nat)(s r:YL)(L:List Blk):Prop where
 ex:∃ x k i ob fu,L=gN b5 ((i:Nat):Int)::gN b4 0::fnB b3 rb::ob/\RdR rb k x ob/\InvA x.rt k/\FewR x.rt i/\i+r.length<=s.length/\r.length<=fu/\wO fu x.rt k i r=wO s.length bJ 0 0 s
structure RefX (rb b3 b4 b5:Nat)(s:YL)(L:List Blk):Prop where
 ex:∃ x k i ob,L=gN b5 i::gN b4 (bZ s)::fnB b3 rb::ob/\RdR rb k x ob/\bZ s≠0
theorem FewR.few {x:Rv}{m:Nat}(h:FewR x.rt m)(hm:m<=5000):Few x:=by
 have h':=h.up hm
 refine ⟨?_, ?_, ?_,λn hn=> ?_⟩
 ·have:=h'.n;unfold Rv.rt at this;simpa using this
 ·have:=h'.b;unfold Rv.rt at this;simpa using this
 ·have:=h'.f;simp only [Rv.rt,yI] at this;simpa using this
 ·have:=h'.a n.nt (by unfold Rv.rt;exact List.mem_map.2 ⟨n,hn,rfl⟩)
  unfold Nv.nt at this;simpa using this
def bLv (b3 b4 b5:Nat):List (Nat×Value):=[(3,.pointer (some ⟨b3,0,none⟩)),(4,.pointer (some ⟨b4,0,none⟩)),(5,.pointer (some ⟨b5,0,none⟩))]
theorem ref_body {M:List Nat}{W0:World}{rb b3 b4 b5 B:Nat}{s:YL}(hs:s.length<=4096)(hne0:s≠[])(hK:∀ w,Own M W0 w []->HasLib w/\LyAt w)(f:Nat->Value)(r:YL)(L:List Blk)(l:Nat)(Wr:World)(hne:r≠[])(hrel:RefI rb b3 b4 b5 s r L)(hOw:Own M W0 Wr (yY B (lnR r)::L)):
  qRF.2.wpIn (Fence.wide.inRound l) 1 YP (rndQ ((yY B (lnR r)::L).map Blk.b) B (lnR r) (RefI rb b3 b4 b5 s) (RefX rb b3 b4 b5 s) Wr) (Fr Tryz.f182.ntmps (upd (jP f (bLv b3 b4 b5)) (some 6) (.string (mkS (lnH r))))) Wr:=by
 obtain ⟨x,k,i,ob,fu,rfl,hR,hI,hF,hi,hfu,hres⟩:=hrel
 have hlen:=lnR_len hne
 obtain ⟨p,hp⟩:∃ p,lnH r=p:=⟨_,rfl⟩
 obtain ⟨rr,hrr⟩:∃ rr,lnR r=rr:=⟨_,rfl⟩
 obtain ⟨hsuf,htrim⟩:=suf_cut r
 have hpl:p.length<=4096:=by
  rw [←hp];unfold lnH
  rcases ix_cut 10 r with ⟨c1,_,c3,_⟩|⟨c1,_⟩
  ·rw [if_pos c1,←c3,List.length_take];omega
  ·rw [c1,if_neg Bool.false_ne_true];omega
 rw [hp] at hsuf htrim ⊢
 rw [hrr] at hOw hlen ⊢
 obtain ⟨M1,hM1⟩:∃ M1,(yY B rr::gN b5 ((i:Nat):Int)::gN b4 0::fnB b3 rb::ob).map Blk.b=M1:=⟨_,rfl⟩
 have hOl:=hOw.lend
 obtain ⟨ln,hln⟩:∃ ln,Lib.trimSuffix p [10]=ln:=⟨_,rfl⟩
 obtain ⟨en,hen⟩:∃ en,Lib.hasSuffix p [10]=en:=⟨_,rfl⟩
 have hcs:∀ w,YC 130 #[.string (mkS p),.string ⟨#[10]⟩] w (YR (.tuple #[.string (mkS ln),.bool en]) w):=λw=>by
  have:=qSuf_any p w Om
  rw [hln,hen] at this;exact this
 have hlnl:ln.length<=4096:=by
  rw [←hln];unfold Lib.trimSuffix
  split
  ·rw [List.length_take];omega
  ·exact hpl
 rw [hM1] at hOl ⊢
 rw [qBody_is]
 refine wpIn_block (wpIn_seq (wX (M:=M1) (W:=Wr) (L:=yY B rr::gN b5 ((i:Nat):Int)::gN b4 0::fnB b3 rb::ob) (mG (fL pq_rnd)) out_rnd Kr ?_ Wr hOl))
 refine x_i 15 [1] ((i+1:Nat):Int) (x_fin [1] (bLv b3 b4 b5++[(6,.string (mkS p))]) λw6 f6 hO6=> ?_)
 have hO6':=hO6.past 0 (yY B rr::gN b5 ((i+1:Nat):Int)::gN b4 0::fnB b3 rb::ob)
 clear hO6
 refine wpIn_seq (wX (M:=M1) (W:=Wr) (L:=yY B rr::gN b5 ((i+1:Nat):Int)::gN b4 0::fnB b3 rb::ob) (mG (fL pq_rnd)) out_rnd Kr ?_ w6 hO6')
 refine z7 (v:= .tuple #[.string (mkS ln),.bool en]) [] (λw hO=>hcs w) (x_fin [] (bLv b3 b4 b5++[(7,.string (mkS ln)),(8,.bool en)]) λw7 f7 hO7=> ?_)
 have hO7':=hO7.past 0 (yY B rr::gN b5 ((i+1:Nat):Int)::gN b4 0::fnB b3 rb::ob)
 clear hO7
 refine wpIn_seq (wX (M:=M1) (W:=Wr) (L:=yY B rr::gN b5 ((i+1:Nat):Int)::gN b4 0::fnB b3 rb::ob) (mG (fL pq_rnd)) out_rnd Kr ?_ w7 hO7')
 have hM0:∀ {w:World} {L':List Blk},Own M1 Wr w L'->Own M W0 w L':=λh=>out_lend hOw (by rw [hM1];exact h)
 have hrefuse:∀ (w8:World) (f8:Nat->Value) (x':Rv) (k':Nat) (ob':List Blk),Own M1 Wr w8 (yY B rr::gN b5 ((i+1:Nat):Int)::gN b4 0::fnB b3 rb::ob')->RdR rb k' x' ob'->(wO fu x.rt k i r).1=((i+1:Nat):Int)->(Code.cond (.tmp 28) (.seq (.region 9 (qRg 9) false) .ret) .skip).wpIn (Fence.wide.inRound l) 1 YP (Exit.inBlock 1 (rndQ M1 B rr (RefI rb b3 b4 b5 s) (RefX rb b3 b4 b5 s) Wr)) (Fr Tryz.f182.ntmps (jP f8 (bLv b3 b4 b5++[(28,.bool true)]))) w8:=λw8 f8 x' k' ob' hO8 hR' hz=>by
  have hbz:bZ s=((i+1:Nat):Int):=by unfold bZ;rw [if_neg hne0,←hres];exact hz
  refine wpIn_cond_true (by rw [xG];kernel_rfl) (wpIn_seq (wX (M:=M1) (W:=Wr) (L:=yY B rr::gN b5 ((i+1:Nat):Int)::gN b4 0::fnB b3 rb::ob') (mG (fL pq_rnd)) out_rnd Kr ?_ w8 hO8))
  refine x_fin [1,2] [] λw9 f9 hO9=>wpIn_ret ⟨gN b5 ((i+1:Nat):Int)::gN b4 (bZ s)::fnB b3 rb::ob',⟨x',k',_,ob',rfl,hR',by rw [hbz];omega⟩, ?_⟩
  rw [hbz]
  exact hO9.past 1 (gN b5 ((i+1:Nat):Int)::gN b4 ((i+1:Nat):Int)::fnB b3 rb::ob')
 refine nP 21 [] en (λh21=> ?_) (λh21=> ?_)
 rotate_left
 ·have hc:(zB 10 r).2.2=false:=by rw [←hsuf,hen];exact h21
  refine x_fin [] (bLv b3 b4 b5++[(28,.bool true)]) λw8 f8 hO8=> ?_
  have hO8':=hO8.past 0 (yY B rr::gN b5 ((i+1:Nat):Int)::gN b4 0::fnB b3 rb::ob)
  clear hO8
  refine hrefuse w8 f8 x k ob hO8' hR ?_
  cases fu with
  |zero=>exact absurd (List.eq_nil_of_length_eq_zero (Nat.le_zero.1 hfu)) hne
  |succ fu=>rw [wO,if_neg hne,hc,if_neg Bool.false_ne_true]
 have hc:(zB 10 r).2.2=true:=by rw [←hsuf,hen];exact h21
 have hln1:(zB 10 r).1=ln:=by rw [←htrim hc,hln]
 have hrr1:(zB 10 r).2.1=rr:=by rw [←hrr];unfold lnR;rw [if_pos hc]
 obtain ⟨fu,rfl⟩:∃ f',fu=f'+1:=⟨fu-1,by have:=List.length_pos_iff.2 hne;omega⟩
 have hstep:wO (fu+1) x.rt k i r=match kO x.rt k ln lays with
   |some (y,kk)=>wO fu y kk (i+1) rr
   |none=>(((i+1:Nat):Int),x.rt,k):=by
  rw [wO,if_neg hne,hc,if_pos rfl,hln1,hrr1]
  all_goals (cases kO x.rt k ln lays<;>rfl)
 refine kW (k:=183) (args:= #[Zp rb 0,.string (mkS ln)]) (Rr:=λv ob'=>∃ b x' k',v= .bool b/\RdR rb k' x' ob'/\(match kO x.rt k ln lays with|some (y,kk)=>b=true/\x'.rt=y/\k'=kk|none=>b=false)) [3] (yY B rr::gN b5 ((i+1:Nat):Int)::gN b4 0::fnB b3 rb::ob) [yY B rr,gN b5 ((i+1:Nat):Int),gN b4 0,fnB b3 rb] ob (λw hO=>hO) (λw hO=>(qTake_any rb k x ln ob w hR (Own.lentR hO) (by omega) (hF.few (by omega)) hI λw' hw'=>hK w' ?_).mono λe w' ⟨b,x',k',ob',q1,q2,q3,q4⟩=>⟨_,ob',q1,⟨b,x',k',rfl,q2,q4⟩,q3⟩) λv ob' ⟨b,x',k',q1,hR',hm⟩=> ?_
 ·exact (out_lend ((hM0 hO).sublist (List.sublist_append_right _ _)) hw')
 subst q1
 refine x_fin [] (bLv b3 b4 b5++[(28,.bool (!b))]) λw8 f8 hO8=> ?_
 have hO8':=hO8.past 0 (yY B rr::gN b5 ((i+1:Nat):Int)::gN b4 0::fnB b3 rb::ob')
 clear hO8
 cases ht:kO x.rt k ln lays with
 |none=>
  rw [ht] at hm hstep
  dsimp only at hm
  subst hm
  exact hrefuse w8 f8 x' k' ob' hO8' hR' (by rw [hstep])
 |some yk=>
  obtain ⟨y,kk⟩:=yk
  rw [ht] at hm hstep
  dsimp only at hm hstep
  obtain ⟨rfl,rfl,rfl⟩:=hm
  refine wpIn_cond_false (by rw [xG];kernel_rfl) (wpIn_skip ⟨gN b5 ((i+1:Nat):Int)::gN b4 0::fnB b3 rb::ob',⟨x',k',i+1,ob',fu,rfl,hR',(take_inv hI ht).1,take_few hF ht,by omega,by omega, ?_⟩,hO8'⟩)
  rw [←hstep];exact hres
theorem one_round {P:Program}{n l m id:Nat}{f:Nat->Value}{o:Oper}{v:Value}{K:Act->World->Prop}{Q0:Exit->Act->World->Prop}{w:World}(hw:zS #[o] n f o=true)(hn:noDef o=true)(hr:∀ w,(execOp (ev n f) o).run P w= .ok (.value v) w)(h:K (Fr n (upd f o.dst v)) w):(Code.region id #[o] false).wpIn (Fence.wide.inRound l) m P (Exit.then K Q0) (Fr n f) w:=by
 refine wpIn_region_list ?_
 show wpListIn (Fence.wide.inRound l) m P #[o] (Exit.then K Q0) [o] (Fr n f) w
 unfold wpListIn
 rw [qA,if_pos hw]
 refine ⟨λ_ _=>trivial, ?_⟩
 rw [Oper.semAt_eq _ _ _ (noDef_is hn),xG,hr,Oper.uponIn_value,gV]
 unfold wpListIn
 exact h
noncomputable abbrev qAs:Oper:=(qRg 5).getD 0 default
noncomputable abbrev qSt:Oper:=(qRg 10).getD 0 default
theorem qAssign_is:qRF.1= .region 5 #[qAs] false:=by kernel_rfl
theorem qStore_is:qRg 10= #[qSt]:=by kernel_rfl
theorem resA_nil (fu:Nat)(x:Rt)(k i:Nat):wO fu x k i []=(0,x,k):=by
 cases fu with
 |zero=>rfl
 |succ f=>rw [wO,if_pos rfl]
def aLv (b3 b4 b5 B:Nat):List (Nat×Value):=[(3,.pointer (some ⟨b3,0,none⟩)),(4,.pointer (some ⟨b4,0,none⟩)),(5,.pointer (some ⟨b5,0,none⟩)),(12,.func (.func 83) #[] #[.pointer (some ⟨B,0,none⟩)])]
theorem qRefused_any (rb:Nat)(x:Rv)(s:YL)(ob:List Blk)(W:World)(hR:RdR rb 0 x ob)(hO:Own (ob.map Blk.b) W W ob)(hx:x.rt=bJ)(hs:s.length<=4096)(hK:∀ w,Own (ob.map Blk.b) W w []->HasLib w/\LyAt w):YC 182 #[.string (mkS s),tkV rb] W (RefB rb s ob W):=by
 obtain ⟨M,hM⟩:∃ M,ob.map Blk.b=M:=⟨_,rfl⟩
 rw [hM] at hO hK
 refine x_enterM hO Tryz.func182 (zY [] λb3=>zH [] λb4=>xH 10 [] s [] (λh=> ?_) (λh=> ?_))
 ·refine x_retM [0] 0 (YI 1) λw hO=>⟨x,0,ob,by rw [bZ,if_pos h],hR,by rw [hM];exact hO.past 2 ob,λq=>absurd h q⟩
 refine zH [] λb5=>yB (R:=λv ob=>∃ B,v= .func (.func 83) #[] #[Zp B 0]/\ob=[yY B s]) [0] (λw hO=>qLines_any s w) ?_
 rintro v ob2 ⟨B,rfl,rfl⟩
 refine x_range [] (g:= .tmp 12) (t:=13) qRF.1 qRF.2 (.seq (.region 10 (qRg 10) false) .ret) (aLv b3 b4 b5 B) (gN b5 0::gN b4 0::fnB b3 rb::(ob++[yY B s])) λw f hOw=> ?_
 have hO0:Own M W w (yY B s::gN b5 0::gN b4 0::fnB b3 rb::ob):=gP [] hOw λp=>by
  simp only [List.countP_append,List.countP_cons,List.countP_nil,List.cons_append,List.nil_append];omega
 clear hOw
 have hb4:∀ {D:Nat} {z:Int} {w':World} {L:List Blk},Own M W w' L->gN b4 z∈L->w'.heap[D]?=some (.deferred (some []))->D≠b4:=λhO hm hd e=>by
  have:=hO.held _ hm
  rw [show (gN b4 _).b=b4 from rfl,←e,hd] at this;cases this
 have hres4:ev Tryz.f182.ntmps (jP f (aLv b3 b4 b5 B)) (.tmp 4)= .pointer (some ⟨b4,0,none⟩):=by kernel_rfl
 refine wp_lines (B:=B) (s:=s) Kr (RefI rb b3 b4 b5 s) (RefX rb b3 b4 b5 s) (λp=>upd (upd (jP f (aLv b3 b4 b5 B)) (some 13) (.string (mkS p))) (some 6) (.string (mkS p))) (λp l w K hk=> ?_) (λr L l Wr hne hrel hOw=> ?_) ⟨x,0,0,ob,s.length,rfl,hR,by rw [hx];exact inv_nil,by rw [hx];exact ⟨Nat.le_refl _,Nat.le_refl _,Nat.le_refl _,λn hn=>by cases hn⟩,by omega,Nat.le_refl _,by rw [hx]⟩ hO0 (by omega) ?_ ?_
 ·have e:({tmps:=(Fr Tryz.f182.ntmps (jP f (aLv b3 b4 b5 B))).tmps.setIfInBounds 13 (.string (mkS p)),defers:=[]}:Act)=Fr Tryz.f182.ntmps (upd (jP f (aLv b3 b4 b5 B)) (some 13) (.string (mkS p))):=gV _ _ (some 13) _
  rw [e,qAssign_is]
  refine one_round (v:= .string (mkS p)) Kr Kr (λw=>Kr) ?_
  rw [show qAs.dst=some 6 from by kernel_rfl]
  exact hk
 ·have:=ref_body hs h hK (upd (jP f (aLv b3 b4 b5 B)) (some 13) (.string (mkS (lnH r)))) r L l Wr hne hrel hOw
  rw [←gW (bLv b3 b4 b5) (gK Kr)] at this
  exact this
 ·rintro D L w' hD ⟨x',k',i,ob',fu,rfl,hR',hI',hF',hi,hfu,hres⟩ hO' hdf
  rw [resA_nil] at hres
  have hb0:bZ s=0:=by unfold bZ;rw [if_neg h,←hres]
  have hr0:recA s=x'.rt:=by unfold recA;rw [←hres]
  show (Code.seq (.region 10 (qRg 10) false) .ret).wp YP (mkQ YP Tryz.f182 (RefB rb s ob W)) _ w'
  refine wp_seq ?_
  rw [qStore_is]
  obtain ⟨ti,hti,_,hsz,_⟩:=int_made
  refine store_marks (i:=2) (off:=0) (gN b4 0) (YI 0) (T:=3) (t:=ti) (p:= .tmp 4) (q:= .const (YI 0)) Kr Kr Kr rfl hres4 Kr hti (by rw [hsz];rfl) (by rw [hsz];exact Nat.le_refl _) (λu hu=>by rw [List.mem_singleton.1 hu];rfl) hO' λw2 hO2 hk2=> ?_
  have hO2':=hO2.past 0 (yY B []::gN b5 ((i:Nat):Int)::gN b4 0::fnB b3 rb::ob')
  clear hO2
  have hd2:w2.heap[D]?=some (.deferred (some [])):=(hk2 D (hb4 (z:=0) hO' (List.mem_cons_of_mem _ (List.mem_cons_of_mem _ (List.mem_cons_self ..))) hdf)).trans hdf
  have hO3:=hO2'.turn hD hd2 rfl (.deferred none)
  refine wp_ret (leave_mark (v:=YI 0) hd2 (results_cellB (ty:=3) (x:=gN b4 0) Kr hres4 (hO3.held (gN b4 0) (List.mem_cons_of_mem _ (List.mem_cons_of_mem _ (List.mem_cons_self ..)))) Kr) ?_)
  exact ⟨x',k',ob',by rw [hb0],hR',by rw [hM];exact hO3.past 4 ob',λ_ _=>⟨hr0.symm,hF'.up Om⟩⟩
 ·rintro D L w' hD ⟨x',k',i,ob',rfl,hR',hbad⟩ hO' hdf
  have hO3:=hO'.turn hD hdf rfl (.deferred none)
  exact leave_mark (v:=YI (bZ s)) hdf (results_cellB (ty:=3) (x:=gN b4 (bZ s)) Kr hres4 (hO3.held (gN b4 (bZ s)) (List.mem_cons_of_mem _ (List.mem_cons_self ..))) Kr) (⟨x',k',ob',rfl,hR',by rw [hM];exact hO3.past 3 ob',λ_ q=>absurd q hbad⟩)
end
section
structure BndN (n:Nt):Prop where
 wh:GdM n.wh
 opt:n.opt.length<=5000
 any:∀ u∈n.any,u.name.length<=5000/\GdR u.rng/\u.fs.length<=5000∧∀ t∈u.fs,t.length<=5000
structure BndR (x:Rt):Prop where
 name:x.name.length<=5000
 pre:x.ver.pre.length<=1000000
 bld:x.ver.build.length<=1000000
 needs:∀ n∈x.needs,BndN n
 bars:∀ b∈x.bars,b.name.length<=5000/\GdR b.rng/\GdM b.wh
 fts:∀ f∈x.fts,f.name.length<=5000/\f.of.length<=5000∧∀ t∈f.of,t.length<=5000
theorem bnd_nil:BndR bJ:=⟨Nat.zero_le _,(by decide),(by decide),(λn h=>by cases h),(λn h=>by cases h),(λn h=>by cases h)⟩
theorem take_kind {x y:Rt}{k kk:Nat}{s:YL}:∀ {L:List La},(∀ l∈L,1<=l.kind)->kO x k s L=some (y,kk)->1<=kk
 | [],_,e=>by cases e
 |l::r,hL,e=>by
  rw [kO] at e
  split at e
  ·split at e
   ·simp only [Option.some.injEq,Prod.mk.injEq] at e
    rw [←e.2];exact hL l (List.mem_cons_self ..)
   ·cases e
  ·exact take_kind (λl hl=>hL l (List.mem_cons_of_mem _ hl)) e
theorem lays_kind:∀ l∈lays,1<=l.kind:=by decide
theorem resA_kind:∀ (f:Nat) (x:Rt) (k i:Nat) (r:YL),(wO f x k i r).1=0->r.length<=f->(1<=k\/r≠[])->1<=(wO f x k i r).2.2
 |0,x,k,i,r,_,hr,h=>by
  rcases h with h|h
  ·exact h
  ·exact absurd (List.eq_nil_of_length_eq_zero (Nat.le_zero.1 hr)) h
 |f+1,x,k,i,r,h0,hr,h=>by
  rw [wO] at h0 ⊢
  by_cases hn:r=[]
  ·rw [if_pos hn]
   rcases h with h|h
   ·exact h
   ·exact absurd hn h
  ·rw [if_neg hn] at h0 ⊢
   have hl:=cutAt_len 10 r
   cases hq:(zB 10 r).2.2 with
   |false=>rw [hq,if_neg Bool.false_ne_true] at h0;exact absurd h0 (by show ((i+1:Nat):Int)≠0;omega)
   |true=>
    rw [hq,if_pos rfl] at h0 hl
    rw [if_pos rfl]
    cases ht:kO x k (zB 10 r).1 lays with
    |none=>rw [ht] at h0;exact absurd h0 (by show ((i+1:Nat):Int)≠0;omega)
    |some yk=>
     obtain ⟨y,kk⟩:=yk
     rw [ht] at h0
     exact resA_kind f y kk (i+1) _ h0 Om (.inl (take_kind lays_kind ht))
theorem resA_ge:∀ (f:Nat) (x:Rt) (k i:Nat) (r:YL),0<=(wO f x k i r).1
 |0,x,k,i,r=>Int.le_refl _
 |f+1,x,k,i,r=>by
  rw [wO]
  split
  ·exact Int.le_refl _
  ·split
   ·split
    ·exact resA_ge f _ _ _ _
    ·exact Int.natCast_nonneg _
   ·exact Int.natCast_nonneg _
theorem parse_is {s:YL}(hs:s.length<=4096):qC s=if bZ s≠0 then (bJ,2,bZ s) else if (zK (recA s)).1≠0 then (bJ,(zK (recA s)).1,0) else (recA s,0,0):=by
 unfold qC
 rw [if_neg Om]
 by_cases h:s=[]
 ·subst h;rfl
 have hr:=resA_read s.length bJ 0 0 s inv_nil (Nat.le_refl _)
 dsimp only at hr
 have hb:bZ s=(wO s.length bJ 0 0 s).1:=by unfold bZ;rw [if_neg h]
 have e0:stg 0=0:=rfl
 rw [e0] at hr
 by_cases hz:bZ s=0
 ·obtain ⟨q1,q2,q3⟩:=hr.1 (hb▸hz)
  rw [if_neg (λq=>q hz)]
  rw [q2]
  dsimp only
  rw [if_pos q3]
  unfold doneS
  dsimp only
  have hk:(wO s.length bJ 0 0 s).2.2≠0:=by
   have:=resA_kind s.length bJ 0 0 s (hb▸hz) (Nat.le_refl _) (.inr h);omega
  rw [if_neg (λq=>hk ((stg_zero q1.le).1 q))]
  rfl
 ·rw [if_pos hz]
  rcases hr.2 (hb▸hz) with ⟨q1,q2⟩|⟨⟨y,q1⟩,q2,q3⟩
  ·rw [q1];dsimp only;rw [←q2,hb]
  ·rw [q1];dsimp only;rw [if_neg q2,hb,q3];simp
end
section
set_option linter.unnecessarySimpa false
theorem RdQ.nso {x:Rv}{o1 oa og oi o4 o7 o8:List Blk}(h:RdQ x o1 oa og oi o4 o7 o8):NsO x.nA x.nc x.needs o1 (oi++(oa++og)):=by
 refine ⟨h.needs.top,λy hy=> ?_⟩
 rcases h.needs.split with ⟨e,_⟩|⟨ini,n,e,hi,hw,hf⟩
 ·rw [e] at hy;cases hy
 ·rw [e] at hy
  rcases List.mem_append.1 hy with hy|hy
  ·obtain ⟨o,q1,q2⟩:=hi y hy
   exact ⟨o,q1,λb hb=>List.mem_append_left _ (q2 b hb)⟩
  ·rw [List.mem_singleton.1 hy]
   exact ⟨oa++og,⟨oa,og,rfl,hw,hf⟩,λb hb=>List.mem_append_right _ hb⟩
theorem rec_inn {x:Rv}{o1 o2 o4 o7 o8 L:List Blk}{M:List Nat}{W w:World}(h1:NsO x.nA x.nc x.needs o1 o2)(h4:Sl 102 3 (.slice x.bA x.bars.length x.bc) x.bars.length (x.bars.flatMap bvC) o4)(h7:FtO x.fA x.fc x.fts o7 o8)(hO:Own M W w L)(s1:∀ b∈o1,b∈L)(s2:∀ b∈o2,b∈L)(s4:∀ b∈o4,b∈L)(s7:∀ b∈o7,b∈L)(s8:∀ b∈o8,b∈L)(hB:BndR x.rt)(hF:FewR x.rt 4096):RcIn w w.heap.size x:=by
 obtain ⟨r1,r2⟩:=h1.reads hO s1 s2
 have hN:∀ n∈x.needs,BndN n.nt:=λn hn=>hB.needs n.nt (List.mem_map.2 ⟨n,hn,rfl⟩)
 have hA:∀ n∈x.needs,∀ u∈n.any,u.name.length<=5000/\GdR u.rng/\u.fs.length<=5000∧∀ t∈u.fs,t.length<=5000:=λn hn u hu=>(hN n hn).any u.wt (List.mem_map.2 ⟨u,hu,rfl⟩)
 have hBr:∀ b∈x.bars,b.name.length<=5000/\GdR b.rng/\GdM b.wh:=λb hb=>hB.bars b.bt (List.mem_map.2 ⟨b,hb,rfl⟩)
 have hFt:∀ f∈x.fts,f.name.length<=5000/\f.of.length<=5000∧∀ t∈f.of,t.length<=5000:=λf hf=>hB.fts f.ft (List.mem_map.2 ⟨f,hf,rfl⟩)
 have l1:x.needs.length<=4096:=by have:=hF.n;unfold Rv.rt at this;simpa using this
 have l2:x.bars.length<=4096:=by have:=hF.b;unfold Rv.rt at this;simpa using this
 have l3:x.fts.length<=4096:=by have:=hF.f;simp only [Rv.rt,yI] at this;simpa using this
 refine ⟨r1,r2,λn hn u hu=> ?_,Sl.reads h4 rfl hO s4,⟨Sl.reads h7.top rfl hO s7,λf hf=> ?_,by omega,λf hf=>(hFt f hf).2.1,λf hf=>by have:=(hFt f hf).1;omega,λf hf t ht=>by have:=(hFt f hf).2.2 t ht;omega⟩,by omega,λn hn=> ?_,λn hn u hu=>(hA n hn u hu).2.2.1,by omega,⟨by have:=hB.name;show x.name.length<=_;exact Nat.le_trans this (by decide),hB.pre,hB.bld⟩,λn hn=>⟨gqM_of (hN n hn).wh,Nat.le_trans (hN n hn).opt (by decide)⟩,λn hn u hu=>⟨by have:=(hA n hn u hu).1;omega,gqR_of (hA n hn u hu).2.1,λt ht=>by have:=(hA n hn u hu).2.2.2 t ht;omega⟩,λb hb=>by have:=hBr b hb;exact ⟨Nat.le_trans this.1 (by decide),gqR_of this.2.1,gqM_of this.2.2⟩⟩
 ·obtain ⟨o,⟨⟨p1,p2,rfl,hp,he⟩⟩,ho⟩:=h1.each n hn
  obtain ⟨o',q1,q2⟩:=he u hu
  exact SlT.reads q1 rfl hO λb hb=>s2 b (ho b (List.mem_append_right _ (q2 b hb)))
 ·obtain ⟨o,ho,hs⟩:=h7.each f hf
  exact SlT.reads ho rfl hO λb hb=>s8 b (hs b hb)
 ·have:=hF.a n.nt (List.mem_map.2 ⟨n,hn,rfl⟩)
  unfold Nv.nt at this
  simp only [List.length_map] at this
  omega
theorem fin_cell3 {M:List Nat}{P:Program}{n:Nat}{W:World}{L:List Blk}{f:Nat->Value}{fn:Func}{R:Ending->World->Prop}{p u t:Tmp}{ty:TypeId}(i:Nat)(x:Blk)(v v' v2:Value)(hres:fn.results= #[.cell p ty,.tmp u,.tmp t])(hL:L[i]?=some x)(hp:ev n f (.tmp p)= .pointer (some ⟨x.b,0,none⟩))(hv:yZ P ty x.cs 0=some v)(hv':ev n f (.tmp u)=v')(hv2:ev n f (.tmp t)=v2)
  (hR:∀ w,Own M W w L->R (.returned (.tuple #[v,v',v2])) w):Fin M n W (bodyPost P fn R) .ret L f:=⟨λw hO=>by
 refine bodyPost_ret (v:= .tuple #[v,v',v2]) ?_ rfl (hR w hO)
 have e:(Fr n f).tmps.getD p undef= .pointer (some ⟨x.b,0,none⟩):=(kY n f p).trans hp
 have hr:=yM hv (hO.get hL)
 have e':(Fr n f).tmps[p]?.getD undef= .pointer (some ⟨x.b,0,none⟩):=by simpa using e
 have e2:(Fr n f).tmps.getD u undef=v':=(kY n f u).trans hv'
 have e2':(Fr n f).tmps[u]?.getD undef=v':=by simpa using e2
 have e3:(Fr n f).tmps.getD t undef=v2:=(kY n f t).trans hv2
 have e3':(Fr n f).tmps[t]?.getD undef=v2:=by simpa using e3
 simp [results,hres,e',e2',e3',asAddr,hr]⟩
section
variable {M:List Nat}{P:Program}{n:Nat}{W:World}{Q:Exit->Act->World->Prop}{c:Xc}
theorem dU {fn:Func}{R:Ending->World->Prop}(h:List Nat)(i:Nat)(v v' v2:Value)(hR:∀ w,Own M W w (xgo P n nS h c).L->R (.returned (.tuple #[v,v',v2])) w)(hkt:(xgl P n nS h c,((xgo P n nS h c).top,(xgo P n nS h c).k,fn.results,(xgo P n nS h c).L[i]?,ev n (xgo P n nS h c).f (.tmp (xRt fn 0)),yZ P (xRy fn 0) (kG (xgo P n nS h c).L i).cs 0,ev n (xgo P n nS h c).f (.tmp (xRt fn 1)),ev n (xgo P n nS h c).f (.tmp (xRt fn 2))))=(xgr P n nS h c,(.fin .ret,[], #[.cell (xRt fn 0) (xRy fn 0),.tmp (xRt fn 1),.tmp (xRt fn 2)],some (kG (xgo P n nS h c).L i),.pointer (some ⟨(kG (xgo P n nS h c).L i).b,0,none⟩),some v,v',v2)):=by kernel_rfl):zF M P n W (bodyPost P fn R) c:=by
 obtain ⟨hk,ht⟩:=Prod.mk.inj hkt
 refine zJ h c hk ?_
 generalize xgo P n nS h c=d at hR ht ⊢
 obtain ⟨top,kk,L,f⟩:=d
 simp only [Prod.mk.injEq] at ht
 obtain ⟨rfl,rfl,e3,e4,e5,e6,e7,e8⟩:=ht
 exact ⟨λ_=>fin_cell3 i _ v v' v2 e3 e4 e5 e6 e7 e8 hR⟩
end
structure ParB (s:YL)(W:World)(e:Ending)(w':World):Prop where
 ex:∃ x ob',e= .returned (.tuple #[rvV x,YI (qC s).2.1,YI (qC s).2.2])/\x.rt=(qC s).1/\RecO x ob'/\BndR x.rt/\FewR x.rt 4096/\Own [] W w' ob'
def rv0:Rv:=⟨[],0,0,0,[],[],none,0,[],none,0,[],none,0,[]⟩
theorem rv0_rt:rv0.rt=bJ:=rfl
theorem rec0:RecO rv0 []:=⟨⟨[],[],[],[],[],rfl,NsO.nil,Sl.nil _ _,FtO.nil⟩⟩
theorem few0:FewR bJ 4096:=⟨Nat.zero_le _,Nat.zero_le _,Nat.zero_le _,(λn h=>by cases h)⟩
theorem par0 {s:YL}{W w:World}{z k:Int}(h:qC s=(bJ,z,k))(hO:Own [] W w []):ParB s W (.returned (.tuple #[rvV rv0,YI z,YI k])) w:=
 ⟨rv0,[],by rw [h],by rw [h,rv0_rt],rec0,by rw [rv0_rt];exact bnd_nil,by rw [rv0_rt];exact few0,hO⟩
theorem rdq0:RdQ rv0 [] [] [] [] [] [] []:=⟨⟨Sl.nil _ _,.inl ⟨rfl,rfl,rfl⟩⟩,Sl.nil _ _,FtO.nil⟩
theorem qParse_any (s:YL)(W:World)(hs:s.length<=1000000)(hK:RecLib W)(hL:LyAt W)(hBn:s.length<=4096->bZ s=0->BndR (recA s)):YC 135 #[.string (mkS s)] W (ParB s W):=by
 refine zD Tryz.func135 (zH [] λb2=>zG 11 [] ((s.length:Int)>4096) (λh11=> ?_) (λh11=> ?_))
 ·refine dU [0] 0 (rvV rv0) (YI 3) (YI 0) λw hO=>par0 ?_ hO.no
  unfold qC;rw [if_pos Om]
 have hs4:s.length<=4096:=by omega
 have hread:=parse_is hs4
 have hcl:∀ w,YC 147 #[.string (mkS s)] w (YR (.string (mkS s)) w):=λw=>yQ s w Om
 refine zH [] λb5=>z7 (v:= .string (mkS s)) [] (λw hO=>hcl w) (x_val 15 [] (tkV b5) (λw=>Kr) ?_)
 refine kW (k:=182) (args:= #[.string (mkS s),tkV b5]) (Rr:=λv ob'=>∃ x' k',v=YI (bZ s)/\RdR b5 k' x' ob'/\(s≠[]->bZ s=0->x'.rt=recA s/\FewR x'.rt 4096)) [] (rdB rv0 0 b5::[rcB rv0 b2]) [rcB rv0 b2] [rdB rv0 0 b5] (λw hO=>hO.swap) (λw hO=> ?_) λv ob' ⟨x',k',q1,hR',hx⟩=> ?_
 ·have hb5:∀ k∈[rdB rv0 0 b5].map Blk.b,W.heap.size<=k:=λk hk=>by
   have h5:=hO.base (rdB rv0 0 b5) (by simp)
   rcases h5 with h5|h5
   ·rw [List.map_singleton,List.mem_singleton] at hk;rw [hk];exact h5
   ·cases h5
  refine (qRefused_any b5 rv0 s [rdB rv0 0 b5] w ⟨[],[],[],[],[],[],[],rfl,rdq0⟩ (Own.lentR hO) rv0_rt hs4 λw' hw'=> ?_).mono λe w' ⟨x',k',ob',q1,q2,q3,q4⟩=>⟨_,ob',q1,⟨x',k',rfl,q2,q4⟩,q3⟩
  have hb:YB W w':=hO.below.trans (hw'.belowB hb5 hO.below.size)
  exact ⟨hK.lib.on hb,hL.on hb⟩
 subst q1
 refine zG 18 [] (bZ s>0) (λh18=> ?_) (λh18=> ?_)
 ·refine dU [0] 0 (rvV rv0) (YI 2) (YI (bZ s)) λw hO=>par0 ?_ hO.no
  rw [hread,if_pos Om]
 have hge:0<=bZ s:=by
  unfold bZ
  split
  ·omega
  ·exact resA_ge _ _ _ _ _
 have hz:bZ s=0:=by omega
 have hne:s≠[]:=λe=>by rw [e] at hz;exact absurd hz (by decide)
 obtain ⟨hrt,hF⟩:=hx hne hz
 have hB:BndR x'.rt:=hrt▸hBn hs4 hz
 rw [if_neg (λq=>q hz),←hrt] at hread
 obtain ⟨o1,oa,og,oi,o4,o7,o8,rfl,hQ⟩:=hR'
 obtain ⟨T,hT⟩:∃ T,o1++y9 oa og oi o4 o7 o8=T:=⟨_,rfl⟩
 have sub:∀ b,(b∈o1\/b∈oi++(oa++og)\/b∈o4\/b∈o7\/b∈o8)->b∈T:=λb hb=>by
  rw [←hT];unfold y9;simp only [List.mem_append] at hb ⊢;grind
 rw [hT]
 obtain ⟨c,hc⟩:∃ c,zK x'.rt=c:=⟨_,rfl⟩
 have hck:∀ w,Own [] W w T->YC 74 #[rvV x'] w (YR (.tuple #[YI c.1,YI c.2]) w):=λw hO=>hc▸qCheck_any x' w (rec_inn hQ.nso hQ.bars hQ.fts hO (λb hb=>sub b (.inl hb)) (λb hb=>sub b (.inr (.inl hb))) (λb hb=>sub b (.inr (.inr (.inl hb)))) (λb hb=>sub b (.inr (.inr (.inr (.inl hb))))) (λb hb=>sub b (.inr (.inr (.inr (.inr hb))))) hB hF) (hK.on hO.below)
 rw [hc] at hread
 refine z7 (v:= .tuple #[YI c.1,YI c.2]) [1] (λw hO=>hck w (hO.past 2 T)) (gE 28 [] (c.1=0) (λh28=> ?_) (λh28=> ?_))
 ·refine dU [1,0] 0 (rvV x') (YI 0) (YI 0) λw hO=> ?_
  rw [if_neg (λq=>q h28)] at hread
  refine ⟨x',o4++(o1++(oi++(oa++og)))++(o7++o8),by rw [hread],by rw [hread],⟨⟨o1,_,o4,o7,o8,rfl,hQ.nso,hQ.bars,hQ.fts⟩⟩,hB,hF,gP [] (hO.past 2 T) λp=> ?_⟩
  rw [←hT]
  simp only [y9,List.countP_append,List.countP_cons,List.countP_nil,List.cons_append,List.nil_append];omega
 ·refine dU [0] 0 (rvV rv0) (YI c.1) (YI 0) λw hO=>par0 ?_ hO.no
  rw [hread,if_pos h28]
end
section
set_option linter.unnecessarySimpa false
theorem mR {α β:Type}{f:α->β}{ys xs:List α}{y:α}{i:Nat}(hi:i<xs.length)(h:ys.map f=(xs.map f).take i)(hy:f y=f xs[i]):(ys++[y]).map f=(xs.map f).take (i+1):=by
 rw [List.map_append,h,List.take_succ_eq_append_getElem (by simpa using hi),List.map_singleton,hy,List.getElem_map]
theorem frS_any (A:Option Addr)(cap:Nat)(xs:List YL)(W:World)(hx:Reads zW W W.heap.size A xs)(hn:xs.length<=5000)(hs:∀ x∈xs,x.length<=1000000):YC 275 #[.slice A xs.length cap,.func (.func 147) #[] #[]] W λe w'=>∃ v ob,e= .returned v/\(∃ A' c',v= .slice A' xs.length c'/\SlT (.slice A' xs.length c') xs ob)/\Own [] W w' ob:=by
 refine zD Tryz.func275 (zQ [] ([]++[]) (λw hO=>hO.past 0 _) ?_)
 refine zT (α:=Nat×Option Addr×Nat×List YL×List Blk) (λ(i,A',c',ys,o1)=>[(1,.func (.func 147) #[] #[]),(5,.slice A' ys.length c'),(8,.slice A xs.length cap),(9,YI (xs.length:Int)),(10,YI (i:Int))]) (λ(i,A',c',ys,o1)=>o1++[]) (λ(i,A',c',ys,o1) m=>(i<=xs.length/\ys.length=i/\ys=xs.take i/\SlT (.slice A' ys.length c') ys o1)/\m=xs.length-i) (0,none,0,[],[]) xs.length [] ⟨⟨Nat.zero_le _,rfl,rfl,Sl.nil _ _⟩,rfl⟩ ?_
 rintro ⟨i,A',c',ys,o1⟩ mm g kk ⟨⟨hi,hyl,hys,hL⟩,hmm⟩ nx hkk
 subst hkk
 refine zG 11 [] ((i:Int)<(xs.length:Int)) (λh11=> ?_) (λh11=> ?_)
 rotate_left
 ·have e:ys=xs:=by rw [hys,show i=xs.length by omega,List.take_length]
  subst e
  exact z8 [] (.slice A' ys.length c') λw hO=>⟨_,_,rfl,⟨A',c',rfl,hL⟩,(hO.past 0 (o1++[])).cast (by simp)⟩
 have hj:i<xs.length:=by omega
 have hsj:=hs _ (List.getElem_mem hj)
 have hst:ys++[xs[i]]=xs.take (i+1):=by rw [hys,List.take_succ_eq_append_getElem hj]
 obtain ⟨eb,eo,hA,hel⟩:=hx.elem zR i hj
 have h1':∀ w,YB W w->(loadVar 9 ⟨eb,eo+i*1+0,none⟩).run YP w= .ok (.string (mkS xs[i])) w:=λw hw=>hel w hw _ 0 _ Kr
 clear hs hys
 generalize xs[i]=u at*
 have hcl:∀ w,YC 147 #[.string (mkS u)] w (YR (.string (mkS u)) w):=λw=>yQ u w Om
 refine zL 12 [] hA xs.length cap i 1 hj (zI 13 [] 9 eb (eo+i*1+0) (.string (mkS u)) (λw hO=>h1' w hO.below) (z7 (v:= .string (mkS u)) [] (λw hO=>hcl w) ?_))
 have hL':Sl 9 1 (.slice A' ys.length c') ys.length (jQ ys) o1:=hL
 refine vL [] 1 9 #[.string (mkS u)] λb18=>m6 [] [⟨b18, #[.string (mkS u)],9⟩] o1 [] 0 (⟨b18, #[.string (mkS u)],9⟩::(o1++[])) (λw hO=>hO.cast (by simp only [List.append_assoc,List.cons_append,List.nil_append])) hL' (m:=1) (cp:=1) Om λv' o1' hS=> ?_
 obtain ⟨A2,c2,rfl⟩:=Sl.form hS
 refine xY 5 [] (.slice A2 (ys.length+1) c2) (.slice A2 (ys++[u]).length c2) (by simp) (x_i 10 [] ((i+1:Nat):Int) (zQ [] (o1'++[]) (λw hO=>hO.past 1 _) ?_))
 exact nx (i+1,A2,c2,ys++[u],o1') (xs.length-(i+1)) [] Om ⟨⟨hj,by simp [hyl],hst,by rw [List.length_append,List.length_singleton];exact SlT.add hS⟩,rfl⟩ Kr Kr
def wsO (x:Wv)(o:List Blk):Prop:=SlT (.slice x.A x.fs.length x.cap) x.fs o
def fsO (x:Fv)(o:List Blk):Prop:=SlT (.slice x.A x.of.length x.cap) x.of o
def nsO (x:Nv)(o:List Blk):Prop:=WsO x.A x.cap x.any o
def bsO (x:Bv)(o:List Blk):Prop:=o=[]
def esO (x:Ev)(o:List Blk):Prop:=RecO x.rec' o
theorem frW_any (A:Option Addr)(cap:Nat)(xs:List Wv)(W:World)(hx:Reads wvC W W.heap.size A xs)(hn:xs.length<=5000)(hp:∀ x∈xs,∀ w,YB W w->YC 274 #[wvV x] w λe w'=>∃ v ob,e= .returned v/\(∃ y,v=wvV y/\Wv.wt y=Wv.wt x/\wsO y ob)/\Own [] w w' ob):YC 273 #[.slice A xs.length cap,.func (.func 274) #[] #[]] W λe w'=>∃ v ob,e= .returned v/\(∃ A' c' ys o1 o2,v= .slice A' ys.length c'/\ob=o1++o2/\ys.map Wv.wt=xs.map Wv.wt/\LsO 139 4 wvC wsO A' c' ys o1 o2)/\Own [] W w' ob:=by
 refine zD Tryz.func273 (zQ [] ([]++[]) (λw hO=>hO.past 0 _) ?_)
 refine zT (α:=Nat×Option Addr×Nat×List Wv×List Blk×List Blk) (λ(i,A',c',ys,o1,o2)=>[(1,.func (.func 274) #[] #[]),(5,.slice A' ys.length c'),(8,.slice A xs.length cap),(9,YI (xs.length:Int)),(10,YI (i:Int))]) (λ(i,A',c',ys,o1,o2)=>o1++o2) (λ(i,A',c',ys,o1,o2) m=>(i<=xs.length/\ys.length=i/\ys.map Wv.wt=(xs.map Wv.wt).take i/\LsO 139 4 wvC wsO A' c' ys o1 o2)/\m=xs.length-i) (0,none,0,[],[],[]) xs.length [] ⟨⟨Nat.zero_le _,rfl,rfl,LsO.nil⟩,rfl⟩ ?_
 rintro ⟨i,A',c',ys,o1,o2⟩ mm g kk ⟨⟨hi,hyl,hys,hL⟩,hmm⟩ nx hkk
 subst hkk
 refine zG 11 [] ((i:Int)<(xs.length:Int)) (λh11=> ?_) (λh11=> ?_)
 rotate_left
 ·exact z8 [] (.slice A' ys.length c') λw hO=>⟨_,_,rfl,⟨A',c',ys,o1,o2,rfl,rfl,by rw [hys,show i=xs.length by omega,←List.length_map (f:=Wv.wt),List.take_length],hL⟩,hO.past 0 _⟩
 have hj:i<xs.length:=by omega
 have hc:=hp _ (List.getElem_mem hj)
 have hst:=λy (hy:Wv.wt y=Wv.wt xs[i])=>mR (y:=y) hj hys hy
 obtain ⟨eb,eo,hA,hel⟩:=hx.elem v8 i hj
 have h1':∀ w,YB W w->(loadVar 139 ⟨eb,eo+i*4+0,none⟩).run YP w= .ok (wvV xs[i]) w:=λw hw=>hel w hw _ 0 _ Kr
 clear hp
 generalize xs[i]=u at*
 refine zL 12 [] hA xs.length cap i 4 hj (zI 13 [] 139 eb (eo+i*4+0) (wvV u) (λw hO=>h1' w hO.below) (zH [] λb7=>yB (R:=λv ob=>∃ y,v=wvV y/\Wv.wt y=Wv.wt u/\wsO y ob) [0,0] (λw hO=>hc w hO.below) ?_))
 rintro _ ob ⟨y,rfl,hy,hyo⟩
 refine vL [] 1 139 (wvV y).cells λb18=>m6 [] [⟨b18,(wvV y).cells,139⟩,⟨b7,(wvV u).cells,139⟩] o1 (o2++ob) 0 (⟨b18,(wvV y).cells,139⟩::((⟨b7,(wvV u).cells,139⟩::(o1++o2))++ob)) (λw hO=>hO.cast (by simp only [List.append_assoc,List.cons_append,List.nil_append])) hL.top (m:=1) (cp:=1) Om λv' o1' hS=> ?_
 obtain ⟨A2,c2,rfl⟩:=Sl.form hS
 refine xY 5 [] (.slice A2 (ys.length+1) c2) (.slice A2 (ys++[y]).length c2) (by simp) (x_i 10 [] ((i+1:Nat):Int) (zQ [] (o1'++(o2++ob)) (λw hO=>hO.past 2 _) ?_))
 exact nx (i+1,A2,c2,ys++[y],o1',o2++ob) (xs.length-(i+1)) [] Om ⟨⟨hj,by simp [hyl],hst y hy,hL.add hS hyo⟩,rfl⟩ Kr Kr
theorem frN_any (A:Option Addr)(cap:Nat)(xs:List Nv)(W:World)(hx:Reads nvC W W.heap.size A xs)(hn:xs.length<=5000)(hp:∀ x∈xs,∀ w,YB W w->YC 234 #[nvV x] w λe w'=>∃ v ob,e= .returned v/\(∃ y,v=nvV y/\Nv.nt y=Nv.nt x/\nsO y ob)/\Own [] w w' ob):YC 233 #[.slice A xs.length cap,.func (.func 234) #[] #[]] W λe w'=>∃ v ob,e= .returned v/\(∃ A' c' ys o1 o2,v= .slice A' ys.length c'/\ob=o1++o2/\ys.map Nv.nt=xs.map Nv.nt/\LsO 72 3 nvC nsO A' c' ys o1 o2)/\Own [] W w' ob:=by
 refine zD Tryz.func233 (zQ [] ([]++[]) (λw hO=>hO.past 0 _) ?_)
 refine zT (α:=Nat×Option Addr×Nat×List Nv×List Blk×List Blk) (λ(i,A',c',ys,o1,o2)=>[(1,.func (.func 234) #[] #[]),(5,.slice A' ys.length c'),(8,.slice A xs.length cap),(9,YI (xs.length:Int)),(10,YI (i:Int))]) (λ(i,A',c',ys,o1,o2)=>o1++o2) (λ(i,A',c',ys,o1,o2) m=>(i<=xs.length/\ys.length=i/\ys.map Nv.nt=(xs.map Nv.nt).take i/\LsO 72 3 nvC nsO A' c' ys o1 o2)/\m=xs.length-i) (0,none,0,[],[],[]) xs.length [] ⟨⟨Nat.zero_le _,rfl,rfl,LsO.nil⟩,rfl⟩ ?_
 rintro ⟨i,A',c',ys,o1,o2⟩ mm g kk ⟨⟨hi,hyl,hys,hL⟩,hmm⟩ nx hkk
 subst hkk
 refine zG 11 [] ((i:Int)<(xs.length:Int)) (λh11=> ?_) (λh11=> ?_)
 rotate_left
 ·exact z8 [] (.slice A' ys.length c') λw hO=>⟨_,_,rfl,⟨A',c',ys,o1,o2,rfl,rfl,by rw [hys,show i=xs.length by omega,←List.length_map (f:=Nv.nt),List.take_length],hL⟩,hO.past 0 _⟩
 have hj:i<xs.length:=by omega
 have hc:=hp _ (List.getElem_mem hj)
 have hst:=λy (hy:Nv.nt y=Nv.nt xs[i])=>mR (y:=y) hj hys hy
 obtain ⟨eb,eo,hA,hel⟩:=hx.elem qD i hj
 have h1':∀ w,YB W w->(loadVar 72 ⟨eb,eo+i*3+0,none⟩).run YP w= .ok (nvV xs[i]) w:=λw hw=>hel w hw _ 0 _ Kr
 clear hp
 generalize xs[i]=u at*
 refine zL 12 [] hA xs.length cap i 3 hj (zI 13 [] 72 eb (eo+i*3+0) (nvV u) (λw hO=>h1' w hO.below) (zH [] λb7=>yB (R:=λv ob=>∃ y,v=nvV y/\Nv.nt y=Nv.nt u/\nsO y ob) [0,0] (λw hO=>hc w hO.below) ?_))
 rintro _ ob ⟨y,rfl,hy,hyo⟩
 refine vL [] 1 72 (nvV y).cells λb18=>m6 [] [⟨b18,(nvV y).cells,72⟩,⟨b7,(nvV u).cells,72⟩] o1 (o2++ob) 0 (⟨b18,(nvV y).cells,72⟩::((⟨b7,(nvV u).cells,72⟩::(o1++o2))++ob)) (λw hO=>hO.cast (by simp only [List.append_assoc,List.cons_append,List.nil_append])) hL.top (m:=1) (cp:=1) Om λv' o1' hS=> ?_
 obtain ⟨A2,c2,rfl⟩:=Sl.form hS
 refine xY 5 [] (.slice A2 (ys.length+1) c2) (.slice A2 (ys++[y]).length c2) (by simp) (x_i 10 [] ((i+1:Nat):Int) (zQ [] (o1'++(o2++ob)) (λw hO=>hO.past 2 _) ?_))
 exact nx (i+1,A2,c2,ys++[y],o1',o2++ob) (xs.length-(i+1)) [] Om ⟨⟨hj,by simp [hyl],hst y hy,hL.add hS hyo⟩,rfl⟩ Kr Kr
theorem frB_any (A:Option Addr)(cap:Nat)(xs:List Bv)(W:World)(hx:Reads bvC W W.heap.size A xs)(hn:xs.length<=5000)(hp:∀ x∈xs,∀ w,YB W w->YC 236 #[bvV x] w λe w'=>∃ v ob,e= .returned v/\(∃ y,v=bvV y/\Bv.bt y=Bv.bt x/\bsO y ob)/\Own [] w w' ob):YC 235 #[.slice A xs.length cap,.func (.func 236) #[] #[]] W λe w'=>∃ v ob,e= .returned v/\(∃ A' c' ys o1 o2,v= .slice A' ys.length c'/\ob=o1++o2/\ys.map Bv.bt=xs.map Bv.bt/\LsO 102 3 bvC bsO A' c' ys o1 o2)/\Own [] W w' ob:=by
 refine zD Tryz.func235 (zQ [] ([]++[]) (λw hO=>hO.past 0 _) ?_)
 refine zT (α:=Nat×Option Addr×Nat×List Bv×List Blk×List Blk) (λ(i,A',c',ys,o1,o2)=>[(1,.func (.func 236) #[] #[]),(5,.slice A' ys.length c'),(8,.slice A xs.length cap),(9,YI (xs.length:Int)),(10,YI (i:Int))]) (λ(i,A',c',ys,o1,o2)=>o1++o2) (λ(i,A',c',ys,o1,o2) m=>(i<=xs.length/\ys.length=i/\ys.map Bv.bt=(xs.map Bv.bt).take i/\LsO 102 3 bvC bsO A' c' ys o1 o2)/\m=xs.length-i) (0,none,0,[],[],[]) xs.length [] ⟨⟨Nat.zero_le _,rfl,rfl,LsO.nil⟩,rfl⟩ ?_
 rintro ⟨i,A',c',ys,o1,o2⟩ mm g kk ⟨⟨hi,hyl,hys,hL⟩,hmm⟩ nx hkk
 subst hkk
 refine zG 11 [] ((i:Int)<(xs.length:Int)) (λh11=> ?_) (λh11=> ?_)
 rotate_left
 ·exact z8 [] (.slice A' ys.length c') λw hO=>⟨_,_,rfl,⟨A',c',ys,o1,o2,rfl,rfl,by rw [hys,show i=xs.length by omega,←List.length_map (f:=Bv.bt),List.take_length],hL⟩,hO.past 0 _⟩
 have hj:i<xs.length:=by omega
 have hc:=hp _ (List.getElem_mem hj)
 have hst:=λy (hy:Bv.bt y=Bv.bt xs[i])=>mR (y:=y) hj hys hy
 obtain ⟨eb,eo,hA,hel⟩:=hx.elem mE i hj
 have h1':∀ w,YB W w->(loadVar 102 ⟨eb,eo+i*3+0,none⟩).run YP w= .ok (bvV xs[i]) w:=λw hw=>hel w hw _ 0 _ Kr
 clear hp
 generalize xs[i]=u at*
 refine zL 12 [] hA xs.length cap i 3 hj (zI 13 [] 102 eb (eo+i*3+0) (bvV u) (λw hO=>h1' w hO.below) (zH [] λb7=>yB (R:=λv ob=>∃ y,v=bvV y/\Bv.bt y=Bv.bt u/\bsO y ob) [0,0] (λw hO=>hc w hO.below) ?_))
 rintro _ ob ⟨y,rfl,hy,hyo⟩
 refine vL [] 1 102 (bvV y).cells λb18=>m6 [] [⟨b18,(bvV y).cells,102⟩,⟨b7,(bvV u).cells,102⟩] o1 (o2++ob) 0 (⟨b18,(bvV y).cells,102⟩::((⟨b7,(bvV u).cells,102⟩::(o1++o2))++ob)) (λw hO=>hO.cast (by simp only [List.append_assoc,List.cons_append,List.nil_append])) hL.top (m:=1) (cp:=1) Om λv' o1' hS=> ?_
 obtain ⟨A2,c2,rfl⟩:=Sl.form hS
 refine xY 5 [] (.slice A2 (ys.length+1) c2) (.slice A2 (ys++[y]).length c2) (by simp) (x_i 10 [] ((i+1:Nat):Int) (zQ [] (o1'++(o2++ob)) (λw hO=>hO.past 2 _) ?_))
 exact nx (i+1,A2,c2,ys++[y],o1',o2++ob) (xs.length-(i+1)) [] Om ⟨⟨hj,by simp [hyl],hst y hy,hL.add hS hyo⟩,rfl⟩ Kr Kr
theorem frF_any (A:Option Addr)(cap:Nat)(xs:List Fv)(W:World)(hx:Reads fvC W W.heap.size A xs)(hn:xs.length<=5000)(hp:∀ x∈xs,∀ w,YB W w->YC 238 #[fvV x] w λe w'=>∃ v ob,e= .returned v/\(∃ y,v=fvV y/\Fv.ft y=Fv.ft x/\fsO y ob)/\Own [] w w' ob):YC 237 #[.slice A xs.length cap,.func (.func 238) #[] #[]] W λe w'=>∃ v ob,e= .returned v/\(∃ A' c' ys o1 o2,v= .slice A' ys.length c'/\ob=o1++o2/\ys.map Fv.ft=xs.map Fv.ft/\LsO 148 2 fvC fsO A' c' ys o1 o2)/\Own [] W w' ob:=by
 refine zD Tryz.func237 (zQ [] ([]++[]) (λw hO=>hO.past 0 _) ?_)
 refine zT (α:=Nat×Option Addr×Nat×List Fv×List Blk×List Blk) (λ(i,A',c',ys,o1,o2)=>[(1,.func (.func 238) #[] #[]),(5,.slice A' ys.length c'),(8,.slice A xs.length cap),(9,YI (xs.length:Int)),(10,YI (i:Int))]) (λ(i,A',c',ys,o1,o2)=>o1++o2) (λ(i,A',c',ys,o1,o2) m=>(i<=xs.length/\ys.length=i/\ys.map Fv.ft=(xs.map Fv.ft).take i/\LsO 148 2 fvC fsO A' c' ys o1 o2)/\m=xs.length-i) (0,none,0,[],[],[]) xs.length [] ⟨⟨Nat.zero_le _,rfl,rfl,LsO.nil⟩,rfl⟩ ?_
 rintro ⟨i,A',c',ys,o1,o2⟩ mm g kk ⟨⟨hi,hyl,hys,hL⟩,hmm⟩ nx hkk
 subst hkk
 refine zG 11 [] ((i:Int)<(xs.length:Int)) (λh11=> ?_) (λh11=> ?_)
 rotate_left
 ·exact z8 [] (.slice A' ys.length c') λw hO=>⟨_,_,rfl,⟨A',c',ys,o1,o2,rfl,rfl,by rw [hys,show i=xs.length by omega,←List.length_map (f:=Fv.ft),List.take_length],hL⟩,hO.past 0 _⟩
 have hj:i<xs.length:=by omega
 have hc:=hp _ (List.getElem_mem hj)
 have hst:=λy (hy:Fv.ft y=Fv.ft xs[i])=>mR (y:=y) hj hys hy
 obtain ⟨eb,eo,hA,hel⟩:=hx.elem vH i hj
 have h1':∀ w,YB W w->(loadVar 148 ⟨eb,eo+i*2+0,none⟩).run YP w= .ok (fvV xs[i]) w:=λw hw=>hel w hw _ 0 _ Kr
 clear hp
 generalize xs[i]=u at*
 refine zL 12 [] hA xs.length cap i 2 hj (zI 13 [] 148 eb (eo+i*2+0) (fvV u) (λw hO=>h1' w hO.below) (zH [] λb7=>yB (R:=λv ob=>∃ y,v=fvV y/\Fv.ft y=Fv.ft u/\fsO y ob) [0,0] (λw hO=>hc w hO.below) ?_))
 rintro _ ob ⟨y,rfl,hy,hyo⟩
 refine vL [] 1 148 (fvV y).cells λb18=>m6 [] [⟨b18,(fvV y).cells,148⟩,⟨b7,(fvV u).cells,148⟩] o1 (o2++ob) 0 (⟨b18,(fvV y).cells,148⟩::((⟨b7,(fvV u).cells,148⟩::(o1++o2))++ob)) (λw hO=>hO.cast (by simp only [List.append_assoc,List.cons_append,List.nil_append])) hL.top (m:=1) (cp:=1) Om λv' o1' hS=> ?_
 obtain ⟨A2,c2,rfl⟩:=Sl.form hS
 refine xY 5 [] (.slice A2 (ys.length+1) c2) (.slice A2 (ys++[y]).length c2) (by simp) (x_i 10 [] ((i+1:Nat):Int) (zQ [] (o1'++(o2++ob)) (λw hO=>hO.past 2 _) ?_))
 exact nx (i+1,A2,c2,ys++[y],o1',o2++ob) (xs.length-(i+1)) [] Om ⟨⟨hj,by simp [hyl],hst y hy,hL.add hS hyo⟩,rfl⟩ Kr Kr
theorem frE_any (A:Option Addr)(cap:Nat)(xs:List Ev)(W:World)(hx:Reads evC W W.heap.size A xs)(hn:xs.length<=5000)(hp:∀ x∈xs,∀ w,YB W w->YC 149 #[evV x] w λe w'=>∃ v ob,e= .returned v/\(∃ y,v=evV y/\Ev.et y=Ev.et x/\esO y ob)/\Own [] w w' ob):YC 148 #[.slice A xs.length cap,.func (.func 149) #[] #[]] W λe w'=>∃ v ob,e= .returned v/\(∃ A' c' ys o1 o2,v= .slice A' ys.length c'/\ob=o1++o2/\ys.map Ev.et=xs.map Ev.et/\LsO 69 11 evC esO A' c' ys o1 o2)/\Own [] W w' ob:=by
 refine zD Tryz.func148 (zQ [] ([]++[]) (λw hO=>hO.past 0 _) ?_)
 refine zT (α:=Nat×Option Addr×Nat×List Ev×List Blk×List Blk) (λ(i,A',c',ys,o1,o2)=>[(1,.func (.func 149) #[] #[]),(5,.slice A' ys.length c'),(8,.slice A xs.length cap),(9,YI (xs.length:Int)),(10,YI (i:Int))]) (λ(i,A',c',ys,o1,o2)=>o1++o2) (λ(i,A',c',ys,o1,o2) m=>(i<=xs.length/\ys.length=i/\ys.map Ev.et=(xs.map Ev.et).take i/\LsO 69 11 evC esO A' c' ys o1 o2)/\m=xs.length-i) (0,none,0,[],[],[]) xs.length [] ⟨⟨Nat.zero_le _,rfl,rfl,LsO.nil⟩,rfl⟩ ?_
 rintro ⟨i,A',c',ys,o1,o2⟩ mm g kk ⟨⟨hi,hyl,hys,hL⟩,hmm⟩ nx hkk
 subst hkk
 refine zG 11 [] ((i:Int)<(xs.length:Int)) (λh11=> ?_) (λh11=> ?_)
 rotate_left
 ·exact z8 [] (.slice A' ys.length c') λw hO=>⟨_,_,rfl,⟨A',c',ys,o1,o2,rfl,rfl,by rw [hys,show i=xs.length by omega,←List.length_map (f:=Ev.et),List.take_length],hL⟩,hO.past 0 _⟩
 have hj:i<xs.length:=by omega
 have hc:=hp _ (List.getElem_mem hj)
 have hst:=λy (hy:Ev.et y=Ev.et xs[i])=>mR (y:=y) hj hys hy
 obtain ⟨eb,eo,hA,hel⟩:=hx.elem vJ i hj
 have h1':∀ w,YB W w->(loadVar 69 ⟨eb,eo+i*11+0,none⟩).run YP w= .ok (evV xs[i]) w:=λw hw=>hel w hw _ 0 _ Kr
 clear hp
 generalize xs[i]=u at*
 refine zL 12 [] hA xs.length cap i 11 hj (zI 13 [] 69 eb (eo+i*11+0) (evV u) (λw hO=>h1' w hO.below) (zH [] λb7=>yB (R:=λv ob=>∃ y,v=evV y/\Ev.et y=Ev.et u/\esO y ob) [0,0] (λw hO=>hc w hO.below) ?_))
 rintro _ ob ⟨y,rfl,hy,hyo⟩
 refine vL [] 1 69 (evV y).cells λb18=>m6 [] [⟨b18,(evV y).cells,69⟩,⟨b7,(evV u).cells,69⟩] o1 (o2++ob) 0 (⟨b18,(evV y).cells,69⟩::((⟨b7,(evV u).cells,69⟩::(o1++o2))++ob)) (λw hO=>hO.cast (by simp only [List.append_assoc,List.cons_append,List.nil_append])) hL.top (m:=1) (cp:=1) Om λv' o1' hS=> ?_
 obtain ⟨A2,c2,rfl⟩:=Sl.form hS
 refine xY 5 [] (.slice A2 (ys.length+1) c2) (.slice A2 (ys++[y]).length c2) (by simp) (x_i 10 [] ((i+1:Nat):Int) (zQ [] (o1'++(o2++ob)) (λw hO=>hO.past 2 _) ?_))
 exact nx (i+1,A2,c2,ys++[y],o1',o2++ob) (xs.length-(i+1)) [] Om ⟨⟨hj,by simp [hyl],hst y hy,hL.add hS hyo⟩,rfl⟩ Kr Kr
end
section
set_option linter.unnecessarySimpa false
theorem frVer_any (a b c:Int)(p q:YL)(W:World)(hp:p.length<=1000000)(hq:q.length<=1000000):YC 232 #[.agg #[YI a,YI b,YI c,.string (mkS p),.string (mkS q)]] W (YR (.agg #[YI a,YI b,YI c,.string (mkS p),.string (mkS q)]) W):=by
 refine zD Tryz.func232 (zY [] λb1=>zH [] λb2=> ?_)
 refine x4 7 [] [⟨b2,Z1,42⟩,⟨b1, #[YI a,YI b,YI c,.string (mkS p),.string (mkS q)],42⟩] (λw hO=>hO.past 0 _) (zX [1,1] 2 (z7 (v:= .string (mkS p)) [] (λw hO=>yQ p w Om) (zX [] 5 (z7 (v:= .string (mkS q)) [] (λw hO=>yQ q w Om) ?_))))
 exact qK [1,1,1,0] 0 (.agg #[YI a,YI b,YI c,.string (mkS p),.string (mkS q)]) λw hO=>⟨rfl,hO.below⟩
theorem frBar_any (x:Bv)(W:World)(h1:x.name.length<=1000000)(h2:x.rng.length<=1000000)(h3:x.wh.length<=1000000):YC 236 #[bvV x] W λe w'=>∃ v ob,e= .returned v/\(∃ y,v=bvV y/\Bv.bt y=Bv.bt x/\bsO y ob)/\Own [] W w' ob:=by
 refine zD Tryz.func236 (zY [] λb1=>zH [] λb2=> ?_)
 refine x4 10 [] [⟨b2, #[.string ⟨#[]⟩,.string ⟨#[]⟩,.string ⟨#[]⟩],102⟩,⟨b1, #[.string (mkS x.name),.string (mkS x.rng),.string (mkS x.wh)],102⟩] (λw hO=>hO.past 0 _) (zX [1,1,1] 2 (z7 (v:= .string (mkS x.name)) [] (λw hO=>yQ x.name w Om) (zX [] 5 (z7 (v:= .string (mkS x.rng)) [] (λw hO=>yQ x.rng w Om) (zX [] 8 (z7 (v:= .string (mkS x.wh)) [] (λw hO=>yQ x.wh w Om) ?_))))))
 exact qK [0] 0 (bvV x) λw hO=>⟨_,[],rfl,⟨x,rfl,rfl,rfl⟩,hO.no⟩
theorem frWish_any (x:Wv)(W:World)(hx:Reads zW W W.heap.size x.A x.fs)(hn:x.fs.length<=5000)(hs:∀ s∈x.fs,s.length<=1000000)(h1:x.name.length<=1000000)(h2:x.rng.length<=1000000):YC 274 #[wvV x] W λe w'=>∃ v ob,e= .returned v/\(∃ y,v=wvV y/\Wv.wt y=Wv.wt x/\wsO y ob)/\Own [] W w' ob:=by
 have hT:∀ w,YB W w->YC 275 #[.slice x.A x.fs.length x.cap,.func (.func 147) #[] #[]] w λe w'=>∃ v ob,e= .returned v/\(∃ A' c',v= .slice A' x.fs.length c'/\SlT (.slice A' x.fs.length c') x.fs ob)/\Own [] w w' ob:=λw hb=>frS_any x.A x.cap x.fs w (hx.on hb hb.size) hn hs
 obtain ⟨nm,rg,A,cap,fs,br⟩:=x
 refine zD Tryz.func274 (zY [] λb1=>zH [] λb2=> ?_)
 refine x4 12 [] [⟨b2, #[.string ⟨#[]⟩,.string ⟨#[]⟩,.slice none 0 0,.bool false],139⟩,⟨b1, #[.string (mkS nm),.string (mkS rg),.slice A fs.length cap,.bool br],139⟩] (λw hO=>hO.past 0 _) (zX [1,1,1,1] 2 (z7 (v:= .string (mkS nm)) [] (λw hO=>yQ nm w (by have:nm.length<=1000000:=h1;omega)) (zX [] 5 (z7 (v:= .string (mkS rg)) [] (λw hO=>yQ rg w (by have:rg.length<=1000000:=h2;omega)) (zX [] 8 (yU (R:=λv ob=>∃ A' c',v= .slice A' fs.length c'/\SlT (.slice A' fs.length c') fs ob) (λw hO=>hT w hO.below) ?_))))))
 rintro _ ob ⟨A',c',rfl,hS⟩
 exact qK [0] 0 (wvV ⟨nm,rg,A',c',fs,br⟩) λw hO=>⟨_,ob,rfl,⟨⟨nm,rg,A',c',fs,br⟩,rfl,rfl,hS⟩,hO.past 2 ob⟩
theorem frFeat_any (x:Fv)(W:World)(hx:Reads zW W W.heap.size x.A x.of)(hn:x.of.length<=5000)(hs:∀ s∈x.of,s.length<=1000000)(h1:x.name.length<=1000000):YC 238 #[fvV x] W λe w'=>∃ v ob,e= .returned v/\(∃ y,v=fvV y/\Fv.ft y=Fv.ft x/\fsO y ob)/\Own [] W w' ob:=by
 have hT:∀ w,YB W w->YC 275 #[.slice x.A x.of.length x.cap,.func (.func 147) #[] #[]] w λe w'=>∃ v ob,e= .returned v/\(∃ A' c',v= .slice A' x.of.length c'/\SlT (.slice A' x.of.length c') x.of ob)/\Own [] w w' ob:=λw hb=>frS_any x.A x.cap x.of w (hx.on hb hb.size) hn hs
 obtain ⟨nm,A,fs,cap⟩:=x
 refine zD Tryz.func238 (zY [] λb1=>zH [] λb2=> ?_)
 refine x4 7 [] [⟨b2,ZM,148⟩,⟨b1, #[.string (mkS nm),.slice A fs.length cap],148⟩] (λw hO=>hO.past 0 _) (zX [1,1] 2 (z7 (v:= .string (mkS nm)) [] (λw hO=>yQ nm w (by have:nm.length<=1000000:=h1;omega)) (zX [] 5 (yU (R:=λv ob=>∃ A' c',v= .slice A' fs.length c'/\SlT (.slice A' fs.length c') fs ob) (λw hO=>hT w hO.below) ?_))))
 rintro _ ob ⟨A',c',rfl,hS⟩
 exact qK [0] 0 (fvV ⟨nm,A',fs,c'⟩) λw hO=>⟨_,ob,rfl,⟨⟨nm,A',fs,c'⟩,rfl,rfl,hS⟩,hO.past 2 ob⟩
theorem wsO_of {A:Option Addr}{c:Nat}{xs:List Wv}{o1 o2:List Blk}(h:LsO 139 4 wvC wsO A c xs o1 o2):WsO A c xs (o1++o2):=⟨⟨o1,o2,rfl,h.top,h.each⟩⟩
theorem frNeed_any (x:Nv)(W:World)(hx:Reads wvC W W.heap.size x.A x.any)(hf:∀ u∈x.any,Reads zW W W.heap.size u.A u.fs)(hn:x.any.length<=5000)(hm:∀ u∈x.any,u.fs.length<=5000)(hs:∀ u∈x.any,u.name.length<=1000000/\u.rng.length<=1000000∧∀ s∈u.fs,s.length<=1000000)(h1:x.wh.length<=1000000)(h2:x.opt.length<=1000000):YC 234 #[nvV x] W λe w'=>∃ v ob,e= .returned v/\(∃ y,v=nvV y/\Nv.nt y=Nv.nt x/\nsO y ob)/\Own [] W w' ob:=by
 have hT:∀ w,YB W w->YC 273 #[.slice x.A x.any.length x.cap,.func (.func 274) #[] #[]] w λe w'=>∃ v ob,e= .returned v/\(∃ A' c' ys o1 o2,v= .slice A' ys.length c'/\ob=o1++o2/\ys.map Wv.wt=x.any.map Wv.wt/\LsO 139 4 wvC wsO A' c' ys o1 o2)/\Own [] w w' ob:=λw hb=>frW_any x.A x.cap x.any w (hx.on hb hb.size) hn λu hu w2 hb2=>by
  have hb3:=hb.trans (hb2.mono hb.size)
  exact frWish_any u w2 ((hf u hu).on hb3 hb3.size) (hm u hu) (hs u hu).2.2 (hs u hu).1 (hs u hu).2.1
 obtain ⟨A,cap,any,wh,opt⟩:=x
 refine zD Tryz.func234 (zY [] λb1=>zH [] λb2=> ?_)
 refine x4 10 [] [⟨b2,Z0,72⟩,⟨b1, #[.slice A any.length cap,.string (mkS wh),.string (mkS opt)],72⟩] (λw hO=>hO.past 0 _) (zX [1,1,1] 2 (yU (R:=λv ob=>∃ A' c' ys o1 o2,v= .slice A' ys.length c'/\ob=o1++o2/\ys.map Wv.wt=any.map Wv.wt/\LsO 139 4 wvC wsO A' c' ys o1 o2) (λw hO=>hT w hO.below) ?_))
 rintro _ _ ⟨A',c',ys,o1,o2,rfl,rfl,hy,hL⟩
 refine zX [] 5 (z7 (v:= .string (mkS wh)) [] (λw hO=>yQ wh w (by have:wh.length<=1000000:=h1;omega)) (zX [] 8 (z7 (v:= .string (mkS opt)) [] (λw hO=>yQ opt w (by have:opt.length<=1000000:=h2;omega)) ?_)))
 exact qK [0] 0 (nvV ⟨A',c',ys,wh,opt⟩) λw hO=>⟨_,o1++o2,rfl,⟨⟨A',c',ys,wh,opt⟩,rfl,by unfold Nv.nt;rw [hy],wsO_of hL⟩,hO.past 2 (o1++o2)⟩
theorem nsO_of {A:Option Addr}{c:Nat}{xs:List Nv}{o1 o2:List Blk}(h:LsO 72 3 nvC nsO A c xs o1 o2):NsO A c xs o1 o2:=⟨h.top,h.each⟩
theorem ftO_of {A:Option Addr}{c:Nat}{xs:List Fv}{o1 o2:List Blk}(h:LsO 148 2 fvC fsO A c xs o1 o2):FtO A c xs o1 o2:=⟨h.top,h.each⟩
theorem frRec_any (x:Rv)(W:World)(hx:RcIn W W.heap.size x):YC 193 #[rvV x] W λe w'=>∃ v ob,e= .returned v/\(∃ y,v=rvV y/\y.rt=x.rt/\RecO y ob)/\Own [] W w' ob:=by
 have hN:∀ w,YB W w->YC 233 #[.slice x.nA x.needs.length x.nc,.func (.func 234) #[] #[]] w λe w'=>∃ v ob,e= .returned v/\(∃ A' c' ys o1 o2,v= .slice A' ys.length c'/\ob=o1++o2/\ys.map Nv.nt=x.needs.map Nv.nt/\LsO 72 3 nvC nsO A' c' ys o1 o2)/\Own [] w w' ob:=λw hb=>frN_any x.nA x.nc x.needs w (hx.needs.on hb hb.size) hx.nn λn hn w2 hb2=>by
  have hb3:=hb.trans (hb2.mono hb.size)
  exact frNeed_any n w2 ((hx.any n hn).on hb3 hb3.size) (λu hu=>(hx.wfs n hn u hu).on hb3 hb3.size) (hx.na n hn) (hx.nf n hn) (λu hu=>⟨(hx.su n hn u hu).1,gqR_len (hx.su n hn u hu).2.1,(hx.su n hn u hu).2.2⟩) (gqM_len (hx.sw n hn).1) (hx.sw n hn).2
 have hB:∀ w,YB W w->YC 235 #[.slice x.bA x.bars.length x.bc,.func (.func 236) #[] #[]] w λe w'=>∃ v ob,e= .returned v/\(∃ A' c' ys o1 o2,v= .slice A' ys.length c'/\ob=o1++o2/\ys.map Bv.bt=x.bars.map Bv.bt/\LsO 102 3 bvC bsO A' c' ys o1 o2)/\Own [] w w' ob:=λw hb=>frB_any x.bA x.bc x.bars w (hx.bars.on hb hb.size) hx.nb λb hb' w2 _=>frBar_any b w2 (hx.sb b hb').1 (gqR_len (hx.sb b hb').2.1) (gqM_len (hx.sb b hb').2.2)
 have hF:∀ w,YB W w->YC 237 #[.slice x.fA x.fts.length x.fc,.func (.func 238) #[] #[]] w λe w'=>∃ v ob,e= .returned v/\(∃ A' c' ys o1 o2,v= .slice A' ys.length c'/\ob=o1++o2/\ys.map Fv.ft=x.fts.map Fv.ft/\LsO 148 2 fvC fsO A' c' ys o1 o2)/\Own [] w w' ob:=λw hb=>frF_any x.fA x.fc x.fts w (hx.fts.top.on hb hb.size) hx.fts.n λf hf w2 hb2=>by
  have hb3:=hb.trans (hb2.mono hb.size)
  exact frFeat_any f w2 ((hx.fts.each f hf).on hb3 hb3.size) (hx.fts.m f hf) (hx.fts.text f hf) (hx.fts.name f hf)
 obtain ⟨s1,s2,s3⟩:=hx.sn
 obtain ⟨nm,a,b,c,p,q,nA,nc,ns,bA,bc,bs,fA,fc,fs⟩:=x
 dsimp only at hN hB hF s1 s2 s3
 refine zD Tryz.func193 (zY [] λb1=>zH [] λb2=> ?_)
 refine x4 16 [] [⟨b2,ZE,47⟩,⟨b1, #[.string (mkS nm),YI a,YI b,YI c,.string (mkS p),.string (mkS q),.slice nA ns.length nc,.slice bA bs.length bc,.slice fA fs.length fc],47⟩] (λw hO=>hO.past 0 _) (zX [1,1,1,1,1] 2 (z7 (v:= .string (mkS nm)) [] (λw hO=>yQ nm w Om) (zX [] 5 (z7 (v:= .agg #[YI a,YI b,YI c,.string (mkS p),.string (mkS q)]) [] (λw hO=>frVer_any a b c p q w s2 s3) (zX [] 8 (yU (R:=λv ob=>∃ A' c' ys o1 o2,v= .slice A' ys.length c'/\ob=o1++o2/\ys.map Nv.nt=ns.map Nv.nt/\LsO 72 3 nvC nsO A' c' ys o1 o2) (λw hO=>hN w hO.below) ?_))))))
 rintro _ _ ⟨A1,c1,ys,o1,o2,rfl,rfl,hy,hL1⟩
 refine zX [] 11 (yU (R:=λv ob=>∃ A' c' ys o1 o2,v= .slice A' ys.length c'/\ob=o1++o2/\ys.map Bv.bt=bs.map Bv.bt/\LsO 102 3 bvC bsO A' c' ys o1 o2) (λw hO=>hB w hO.below) ?_)
 rintro _ _ ⟨A2,c2,zs,o4,o5,rfl,rfl,hz,hL2⟩
 refine zX [] 14 (yU (R:=λv ob=>∃ A' c' ys o1 o2,v= .slice A' ys.length c'/\ob=o1++o2/\ys.map Fv.ft=fs.map Fv.ft/\LsO 148 2 fvC fsO A' c' ys o1 o2) (λw hO=>hF w hO.below) ?_)
 rintro _ _ ⟨A3,c3,us,o7,o8,rfl,rfl,hu,hL3⟩
 have e:(⟨nm,a,b,c,p,q,A1,c1,ys,A2,c2,zs,A3,c3,us⟩:Rv).rt=(⟨nm,a,b,c,p,q,nA,nc,ns,bA,bc,bs,fA,fc,fs⟩:Rv).rt:=by
  unfold Rv.rt yI;dsimp only;rw [hy,hz,hu];rfl
 exact qK [0] 0 (rvV ⟨nm,a,b,c,p,q,A1,c1,ys,A2,c2,zs,A3,c3,us⟩) λw hO=>⟨_,o4++(o1++o2)++(o7++o8),rfl,⟨⟨nm,a,b,c,p,q,A1,c1,ys,A2,c2,zs,A3,c3,us⟩,rfl,e,⟨⟨o1,o2,o4,o7,o8,rfl,nsO_of hL1,hL2.top,ftO_of hL3⟩⟩⟩,gP o5 (hO.past 2 ((o1++o2)++(o4++o5)++(o7++o8))) λf=>by simp only [List.countP_append];omega⟩
theorem frEnt_any (x:Ev)(W:World)(hx:RcIn W W.heap.size x.rec'):YC 149 #[evV x] W λe w'=>∃ v ob,e= .returned v/\(∃ y,v=evV y/\Ev.et y=Ev.et x/\esO y ob)/\Own [] W w' ob:=by
 have hR:∀ w,YB W w->YC 193 #[rvV x.rec'] w λe w'=>∃ v ob,e= .returned v/\(∃ y,v=rvV y/\y.rt=x.rec'.rt/\RecO y ob)/\Own [] w w' ob:=λw hb=>frRec_any x.rec' w (hx.on hb hb.size)
 obtain ⟨⟨nm,a,b,c,p,q,nA,nc,ns,bA,bc,bs,fA,fc,fs⟩,sm,yk⟩:=x
 dsimp only at hR
 refine zD Tryz.func149 (zY [] λb1=>zH [] λb2=>yB (R:=λv ob=>∃ y,v=rvV y/\y.rt=(⟨nm,a,b,c,p,q,nA,nc,ns,bA,bc,bs,fA,fc,fs⟩:Rv).rt/\RecO y ob) [1] (λw hO=>hR w hO.below) ?_)
 rintro _ ob ⟨y,rfl,hy,hO'⟩
 exact qK [1,1,0,0] 0 (evV ⟨y,sm,yk⟩) λw hO=>⟨_,ob,rfl,⟨⟨y,sm,yk⟩,rfl,by unfold Ev.et;rw [hy],hO'⟩,hO.past 2 ob⟩
theorem frShelf_any (x:Hv)(W:World)(hx:EsIn W W.heap.size x.A x.es)(hs:x.name.length<=1000000):YC 95 #[hvV x] W λe w'=>∃ v ob,e= .returned v/\(∃ y,v=hvV y/\y.sh=x.sh/\ShO y ob)/\Own [] W w' ob:=by
 have hE:∀ w,YB W w->YC 148 #[.slice x.A x.es.length x.cap,.func (.func 149) #[] #[]] w λe w'=>∃ v ob,e= .returned v/\(∃ A' c' ys o1 o2,v= .slice A' ys.length c'/\ob=o1++o2/\ys.map Ev.et=x.es.map Ev.et/\LsO 69 11 evC esO A' c' ys o1 o2)/\Own [] w w' ob:=λw hb=>frE_any x.A x.cap x.es w (hx.top.on hb hb.size) hx.n λe he w2 hb2=>by
  have hb3:=hb.trans (hb2.mono hb.size)
  exact frEnt_any e w2 ((hx.each e he).on hb3 hb3.size)
 obtain ⟨nm,A,cap,es⟩:=x
 dsimp only at hE hs
 refine zD Tryz.func95 (zY [] λb1=>zH [] λb2=> ?_)
 refine x4 7 [] [⟨b2,ZM,24⟩,⟨b1, #[.string (mkS nm),.slice A es.length cap],24⟩] (λw hO=>hO.past 0 _) (zX [1,1] 2 (z7 (v:= .string (mkS nm)) [] (λw hO=>yQ nm w Om) (zX [] 5 (yU (R:=λv ob=>∃ A' c' ys o1 o2,v= .slice A' ys.length c'/\ob=o1++o2/\ys.map Ev.et=es.map Ev.et/\LsO 69 11 evC esO A' c' ys o1 o2) (λw hO=>hE w hO.below) ?_))))
 rintro _ _ ⟨A',c',ys,o1,o2,rfl,rfl,hy,hL⟩
 exact qK [0] 0 (hvV ⟨nm,A',c',ys⟩) λw hO=>⟨_,o1++o2,rfl,⟨⟨nm,A',c',ys⟩,rfl,by unfold Hv.sh;dsimp only;rw [hy],o1,o2,rfl,hL⟩,hO.past 2 (o1++o2)⟩
end
section
set_option linter.unnecessarySimpa false
theorem fR {α β:Type}{f:α->β}{l m:List α}{i:Nat}(hi:i<l.length)(hj:i<m.length)(h:f l[i]≠f m[i]):l.map f≠m.map f:=λe=>h (by
 have h1:(l.map f)[i]'(by rw [List.length_map];exact hi)=f l[i]:=List.getElem_map ..
 have h2:(m.map f)[i]'(by rw [List.length_map];exact hj)=f m[i]:=List.getElem_map ..
 rw [←h1,←h2];exact List.getElem_of_eq e _)
theorem tD {α β:Type}{f:α->β}{l m:List α}{i:Nat}(hi:i<l.length)(hj:i<m.length)(h:(l.map f).take i=(m.map f).take i)(e:f l[i]=f m[i]):(l.map f).take (i+1)=(m.map f).take (i+1):=by
 rw [List.take_succ_eq_append_getElem (by rw [List.length_map];exact hi),List.take_succ_eq_append_getElem (by rw [List.length_map];exact hj),h,List.getElem_map,List.getElem_map,e]
theorem map_end {α β:Type}{f:α->β}{l m:List α}{i:Nat}(hl:l.length=m.length)(hi:l.length<=i)(h:(l.map f).take i=(m.map f).take i):l.map f=m.map f:=by
 rwa [List.take_of_length_le (by rw [List.length_map];exact hi),List.take_of_length_le (by rw [List.length_map];omega)] at h
theorem r12sameWish_any (x y:Wv)(W:World)(hx:Reads zW W W.heap.size x.A x.fs)(hy:Reads zW W W.heap.size y.A y.fs)(hn:x.fs.length<=1000000)(hm:y.fs.length<=1000000):YC 185 #[wvV x,wvV y] W (YR (.bool (decide (x.wt=y.wt))) W):=by
 have hno:∀ w,YB W w->x.wt≠y.wt->(Ending.returned (.bool false)= .returned (.bool (decide (x.wt=y.wt))))/\YB W w:=λw hb h=>⟨by rw [decide_eq_false h],hb⟩
 have hT:∀ w,YB W w->YC 139 #[.slice x.A x.fs.length x.cap,.slice y.A y.fs.length y.cap] w (YR (.bool (decide (x.fs=y.fs))) w):=λw hb=>r1Texts_any x.A y.A x.cap y.cap x.fs y.fs w (hx.on hb hb.size) (hy.on hb hb.size) hn hm
 refine zD Tryz.func185 (zY [] λb2=>zY [] λb3=>xH 9 [1,0] x.name y.name (λh1=> ?_) (λh1=> ?_))
 rotate_left
 ·exact z8 [] Z5 λw hO=>hno w hO.below λe=>h1 (congrArg Wt.name e)
 refine xH 15 [1,0] x.rng y.rng (λh2=> ?_) (λh2=> ?_)
 rotate_left
 ·exact z8 [] Z5 λw hO=>hno w hO.below λe=>h2 (congrArg Wt.rng e)
 refine nP 22 [1,0] (x.bare==y.bare) (λh3=> ?_) (λh3=> ?_)
 rotate_left
 ·exact z8 [] Z5 λw hO=>hno w hO.below λe=>by
   have:x.bare=y.bare:=congrArg Wt.bare e
   rw [this] at h3;simp at h3
 refine z7 (v:= .bool (decide (x.fs=y.fs))) [1,0] (λw hO=>hT w hO.below) (z8 [] (.bool (decide (x.fs=y.fs))) λw hO=>⟨?_,hO.below⟩)
 congr 2
 refine decide_eq_decide.2 ⟨λh4=> ?_,λe=>congrArg Wt.fs e⟩
 unfold Wv.wt
 rw [h1,h2,h4,beq_iff_eq.1 h3]
theorem r12sameNeed_any (x y:Nv)(W:World)(hx:Reads wvC W W.heap.size x.A x.any)(hy:Reads wvC W W.heap.size y.A y.any)(hxf:∀ u∈x.any,Reads zW W W.heap.size u.A u.fs)(hyf:∀ u∈y.any,Reads zW W W.heap.size u.A u.fs)(hn:x.any.length<=5000)(hm:y.any.length<=5000)(hxn:∀ u∈x.any,u.fs.length<=5000)(hyn:∀ u∈y.any,u.fs.length<=5000):YC 138 #[nvV x,nvV y] W (YR (.bool (decide (x.nt=y.nt))) W):=by
 have hno:∀ w,YB W w->x.nt≠y.nt->(Ending.returned (.bool false)= .returned (.bool (decide (x.nt=y.nt))))/\YB W w:=λw hb h=>⟨by rw [decide_eq_false h],hb⟩
 refine zD Tryz.func138 (zY [] λb2=>zY [] λb3=>jJ 10 [1,0] x.wh y.wh (λh1=> ?_) (λh1=> ?_))
 rotate_left
 ·exact z8 [] Z5 λw hO=>hno w hO.below λe=>h1 (congrArg Nt.wh e)
 refine jJ 16 [1,0] x.opt y.opt (λh2=> ?_) (λh2=> ?_)
 rotate_left
 ·exact z8 [] Z5 λw hO=>hno w hO.below λe=>h2 (congrArg Nt.opt e)
 refine gE 25 [1,0] ((x.any.length:Int)=(y.any.length:Int)) (λh3=> ?_) (λh3=> ?_)
 rotate_left
 ·exact z8 [] Z5 λw hO=>hno w hO.below λe=>h3 (by
   have:=congrArg (λn:Nt=>n.any.length) e
   simp only [Nv.nt,List.length_map] at this;omega)
 have hl:x.any.length=y.any.length:=by omega
 refine zT (α:=Nat) (λi=>[(2,Zp b2 0),(3,Zp b3 0),(5,YI (i:Int))]) (λ_=>[⟨b3, #[.slice y.A y.any.length y.cap,.string (mkS y.wh),.string (mkS y.opt)],72⟩,⟨b2, #[.slice x.A x.any.length x.cap,.string (mkS x.wh),.string (mkS x.opt)],72⟩]) (λi m=>(i<=x.any.length/\(x.any.map Wv.wt).take i=(y.any.map Wv.wt).take i)/\m=x.any.length-i) 0 x.any.length [] ⟨⟨Nat.zero_le _,rfl⟩,rfl⟩ ?_
 rintro i mm g kk ⟨⟨hi,heq⟩,hmm⟩ nx hkk
 subst hkk
 refine zG 31 [1] ((i:Int)<(x.any.length:Int)) (λh31=> ?_) (λh31=> ?_)
 rotate_left
 ·refine z8 [] Z4 λw hO=>⟨?_,hO.below⟩
  have he:=map_end hl Om heq
  rw [decide_eq_true (show x.nt=y.nt by unfold Nv.nt;rw [he,h1,h2])]
 have hj:i<x.any.length:=by omega
 have hj2:i<y.any.length:=by omega
 have hux:x.any[i]∈x.any:=List.getElem_mem hj
 have huy:y.any[i]∈y.any:=List.getElem_mem hj2
 have hst:=tD hj hj2 heq
 have hdf:=fR (f:=Wv.wt) hj hj2
 obtain ⟨eb,eo,hA,hel⟩:=hx.elem v8 i hj
 obtain ⟨fb,fo,hA2,hel2⟩:=hy.elem v8 i hj2
 have h1':∀ w,YB W w->(loadVar 139 ⟨eb,eo+i*4+0,none⟩).run YP w= .ok (wvV x.any[i]) w:=λw hw=>hel w hw _ 0 _ Kr
 have h2':∀ w,YB W w->(loadVar 139 ⟨fb,fo+i*4+0,none⟩).run YP w= .ok (wvV y.any[i]) w:=λw hw=>hel2 w hw _ 0 _ Kr
 have hru:=hxf _ hux;have hrv:=hyf _ huy;have hnu:=hxn _ hux;have hnv:=hyn _ huy
 generalize x.any[i]=u at*
 generalize y.any[i]=v at*
 have hc:∀ w,YB W w->YC 185 #[wvV u,wvV v] w (YR (.bool (decide (u.wt=v.wt))) w):=λw hb=>r12sameWish_any u v w (hru.on hb hb.size) (hrv.on hb hb.size) Om Om
 refine zL 37 [1] hA x.any.length x.cap i 4 hj (zI 38 [] 139 eb (eo+i*4+0) (wvV u) (λw hO=>h1' w hO.below) (zL 42 [0] hA2 y.any.length y.cap i 4 hj2 (zI 43 [] 139 fb (fo+i*4+0) (wvV v) (λw hO=>h2' w hO.below) (z7 (v:= .bool (decide (u.wt=v.wt))) [] (λw hO=>hc w hO.below) (fI 44 (u.wt=v.wt) (λh=> ?_) (λh=> ?_))))))
 ·exact x_i 33 [] ((i+1:Nat):Int) (nx (i+1) (x.any.length-(i+1)) [] Om ⟨⟨hj,hst h⟩,rfl⟩ Kr Kr)
 ·exact z8 [] Z5 λw hO=>hno w hO.below λe=>hdf h (congrArg Nt.any e)
theorem op_ne_ver {ρ:Operand->Value}{o:Oper}{t':TypeId}{x y:Operand}{u v:Ver}{b:Bool}(ho:o.op= .binOp .neq 42 x y t')(hx:ρ x=yT u)(hy:ρ y=yT v)(hb:decide (u=v)=b)(w:World):(execOp ρ o).run YP w= .ok (.value (.bool (!b))) w:=
 run_ne_op ho hx hy guard_ver (λw=>hb▸eq_ver u v 9998 w) w
theorem bar_dec (u v:Bv):decide (u.bt=v.bt)=(decide (u.name=v.name) && (decide (u.rng=v.rng) && decide (u.wh=v.wh))):=by
 obtain ⟨a,b,c⟩:=u
 obtain ⟨a',b',c'⟩:=v
 simp only [Bv.bt,Bt.mk.injEq,Bool.decide_and]
theorem eq_bar (u v:Bv)(d:Nat)(w:World):(Op.equalIn (d+1+1) 102 (bvV u) (bvV v)).run YP w= .ok (decide (u.bt=v.bt)) w:=by
  have h:=eq_agg (P:=YP) (d:=d+1) (t:=102) (xs:=(bvV u).cells) (ys:=(bvV v).cells) (bs:=[(mkS u.name).toList==(mkS v.name).toList,(mkS u.rng).toList==(mkS v.rng).toList,(mkS u.wh).toList==(mkS v.wh).toList]) Tryz.underlying102 Kr
    ⟨by decide,⟨.string (mkS u.name),.string (mkS v.name),λw=>⟨by kernel_rfl,by kernel_rfl,run_equalIn_string w d _ _ _ Tryz.underlying9⟩⟩,
     by decide,⟨.string (mkS u.rng),.string (mkS v.rng),λw=>⟨by kernel_rfl,by kernel_rfl,run_equalIn_string w d _ _ _ Tryz.underlying9⟩⟩,
     by decide,⟨.string (mkS u.wh),.string (mkS v.wh),λw=>⟨by kernel_rfl,by kernel_rfl,run_equalIn_string w d _ _ _ Tryz.underlying9⟩⟩,trivial⟩ w
  rw [all3,m8,m8,m8,←bar_dec] at h
  exact h
theorem guard_bar:Tryz.prog.eqGuardType Tryz.prog.depth 102=false:=by kernel_rfl
theorem op_ne_bar {ρ:Operand->Value}{o:Oper}{t':TypeId}{x y:Operand}{u v:Bv}{b:Bool}(ho:o.op= .binOp .neq 102 x y t')(hx:ρ x=bvV u)(hy:ρ y=bvV v)(hb:decide (u.bt=v.bt)=b)(w:World):(execOp ρ o).run YP w= .ok (.value (.bool (!b))) w:=
 run_ne_op ho hx hy guard_bar (λw=>hb▸eq_bar u v 9998 w) w
theorem r12Same_any (x y:Rv)(W:World)(hx:RcSm W W.heap.size x)(hy:RcSm W W.heap.size y):YC 89 #[rvV x,rvV y] W (YR (.bool (decide (x.rt=y.rt))) W):=by
 have hno:∀ w,YB W w->x.rt≠y.rt->(Ending.returned (.bool false)= .returned (.bool (decide (x.rt=y.rt))))/\YB W w:=λw hb h=>⟨by rw [decide_eq_false h],hb⟩
 have hxn:=hx.nn;have hxb:=hx.nb;have hxf:=hx.fts.n
 refine zD Tryz.func89 (zY [] λb2=>zY [] λb3=>jJ 12 [1,0] x.name y.name (λh1=> ?_) (λh1=> ?_))
 rotate_left
 ·exact z8 [] Z5 λw hO=>hno w hO.below λe=>h1 (congrArg Rt.name e)
 refine x_nea (p:=λu v:Ver=>u=v) 42 yT op_ne_ver 18 [1,0] x.ver y.ver (λh2=> ?_) (λh2=> ?_)
 rotate_left
 ·exact z8 [] Z5 λw hO=>hno w hO.below λe=>h2 (congrArg Rt.ver e)
 refine gE 27 [1,0] ((x.needs.length:Int)=(y.needs.length:Int)) (λh3=> ?_) (λh3=> ?_)
 rotate_left
 ·exact z8 [] Z5 λw hO=>hno w hO.below λe=>h3 (by
   have:=congrArg (λn:Rt=>n.needs.length) e
   simp only [Rv.rt,List.length_map] at this;omega)
 refine gE 36 [1,0] ((x.bars.length:Int)=(y.bars.length:Int)) (λh4=> ?_) (λh4=> ?_)
 rotate_left
 ·exact z8 [] Z5 λw hO=>hno w hO.below λe=>h4 (by
   have:=congrArg (λn:Rt=>n.bars.length) e
   simp only [Rv.rt,List.length_map] at this;omega)
 refine gE 45 [1,0] ((x.fts.length:Int)=(y.fts.length:Int)) (λh5=> ?_) (λh5=> ?_)
 rotate_left
 ·exact z8 [] Z5 λw hO=>hno w hO.below λe=>h5 (by
   have:=congrArg (λn:Rt=>n.fts.length) e
   simp only [Rv.rt,j7] at this;omega)
 have l3:x.needs.length=y.needs.length:=by omega
 have l4:x.bars.length=y.bars.length:=by omega
 have l5:x.fts.length=y.fts.length:=by omega
 refine zT (α:=Nat) (λi=>[(2,Zp b2 0),(3,Zp b3 0),(5,YI (i:Int))]) (λ_=>[⟨b3,(rvC y).toArray,47⟩,⟨b2,(rvC x).toArray,47⟩]) (λi m=>(i<=x.needs.length/\(x.needs.map Nv.nt).take i=(y.needs.map Nv.nt).take i)/\m=x.needs.length-i) 0 x.needs.length [] ⟨⟨Nat.zero_le _,rfl⟩,rfl⟩ ?_
 rintro i mm g kk ⟨⟨hi,heq⟩,hmm⟩ nx hkk
 subst hkk
 refine zG 51 [1] ((i:Int)<(x.needs.length:Int)) (λh51=> ?_) (λh51=> ?_)
 ·have hj:i<x.needs.length:=by omega
  have hj2:i<y.needs.length:=by omega
  have hux:x.needs[i]∈x.needs:=List.getElem_mem hj
  have huy:y.needs[i]∈y.needs:=List.getElem_mem hj2
  have hst:=tD hj hj2 heq
  have hdf:=fR (f:=Nv.nt) hj hj2
  obtain ⟨eb,eo,hA,hel⟩:=hx.needs.elem qD i hj
  obtain ⟨fb,fo,hA2,hel2⟩:=hy.needs.elem qD i hj2
  have h1':∀ w,YB W w->(loadVar 72 ⟨eb,eo+i*3+0,none⟩).run YP w= .ok (nvV x.needs[i]) w:=λw hw=>hel w hw _ 0 _ Kr
  have h2':∀ w,YB W w->(loadVar 72 ⟨fb,fo+i*3+0,none⟩).run YP w= .ok (nvV y.needs[i]) w:=λw hw=>hel2 w hw _ 0 _ Kr
  have hau:=hx.any _ hux;have hav:=hy.any _ huy;have hwu:=hx.wfs _ hux;have hwv:=hy.wfs _ huy;have hnu:=hx.na _ hux;have hnv:=hy.na _ huy;have hfu:=hx.nf _ hux;have hfv:=hy.nf _ huy
  generalize x.needs[i]=u at hst hdf h1' hau hwu hnu hfu
  generalize y.needs[i]=v at hst hdf h2' hav hwv hnv hfv
  have hc:∀ w,YB W w->YC 138 #[nvV u,nvV v] w (YR (.bool (decide (u.nt=v.nt))) w):=λw hb=>r12sameNeed_any u v w (hau.on hb hb.size) (hav.on hb hb.size) (λz hz=>(hwu z hz).on hb hb.size) (λz hz=>(hwv z hz).on hb hb.size) hnu hnv hfu hfv
  refine zL 57 [1] hA x.needs.length x.nc i 3 hj (zI 58 [] 72 eb (eo+i*3+0) (nvV u) (λw hO=>h1' w hO.below) (zL 62 [0] hA2 y.needs.length y.nc i 3 hj2 (zI 63 [] 72 fb (fo+i*3+0) (nvV v) (λw hO=>h2' w hO.below) (z7 (v:= .bool (decide (u.nt=v.nt))) [] (λw hO=>hc w hO.below) (fI 64 (u.nt=v.nt) (λh=> ?_) (λh=> ?_))))))
  ·exact x_i 53 [] ((i+1:Nat):Int) (nx (i+1) (x.needs.length-(i+1)) [] Om ⟨⟨hj,hst h⟩,rfl⟩ Kr Kr)
  ·exact z8 [] Z5 λw hO=>hno w hO.below λe=>hdf h (congrArg Rt.needs e)
 have e3:=map_end l3 Om heq
 clear nx
 refine zT (α:=Nat) (λi=>[(2,Zp b2 0),(3,Zp b3 0),(6,YI (i:Int))]) (λ_=>[⟨b3,(rvC y).toArray,47⟩,⟨b2,(rvC x).toArray,47⟩]) (λi m=>(i<=x.bars.length/\(x.bars.map Bv.bt).take i=(y.bars.map Bv.bt).take i)/\m=x.bars.length-i) 0 x.bars.length [] ⟨⟨Nat.zero_le _,rfl⟩,rfl⟩ ?_
 rintro i2 mm2 g2 kk2 ⟨⟨hi2,heq2⟩,hmm2⟩ nx hkk
 subst hkk
 refine zG 70 [1] ((i2:Int)<(x.bars.length:Int)) (λh70=> ?_) (λh70=> ?_)
 ·have hj:i2<x.bars.length:=by omega
  have hj2:i2<y.bars.length:=by omega
  have hst:=tD hj hj2 heq2
  have hdf:=fR (f:=Bv.bt) hj hj2
  obtain ⟨eb,eo,hA,hel⟩:=hx.bars.elem mE i2 hj
  obtain ⟨fb,fo,hA2,hel2⟩:=hy.bars.elem mE i2 hj2
  have h1':∀ w,YB W w->(loadVar 102 ⟨eb,eo+i2*3+0,none⟩).run YP w= .ok (bvV x.bars[i2]) w:=λw hw=>hel w hw _ 0 _ Kr
  have h2':∀ w,YB W w->(loadVar 102 ⟨fb,fo+i2*3+0,none⟩).run YP w= .ok (bvV y.bars[i2]) w:=λw hw=>hel2 w hw _ 0 _ Kr
  generalize x.bars[i2]=u at hst hdf h1'
  generalize y.bars[i2]=v at hst hdf h2'
  refine zL 76 [1] hA x.bars.length x.bc i2 3 hj (zI 77 [] 102 eb (eo+i2*3+0) (bvV u) (λw hO=>h1' w hO.below) (zL 81 [0] hA2 y.bars.length y.bc i2 3 hj2 (zI 82 [] 102 fb (fo+i2*3+0) (bvV v) (λw hO=>h2' w hO.below) (x_nea (p:=λu v:Bv=>u.bt=v.bt) 102 bvV op_ne_bar 83 [] u v (λh=> ?_) (λh=> ?_)))))
  ·exact x_i 72 [] ((i2+1:Nat):Int) (nx (i2+1) (x.bars.length-(i2+1)) [] Om ⟨⟨hj,hst h⟩,rfl⟩ Kr Kr)
  ·exact z8 [] Z5 λw hO=>hno w hO.below λe=>hdf h (congrArg Rt.bars e)
 have e4:=map_end l4 Om heq2
 clear nx
 refine zT (α:=Nat) (λi=>[(2,Zp b2 0),(3,Zp b3 0),(7,YI (i:Int))]) (λ_=>[⟨b3,(rvC y).toArray,47⟩,⟨b2,(rvC x).toArray,47⟩]) (λi m=>(i<=x.fts.length/\(x.fts.map Fv.ft).take i=(y.fts.map Fv.ft).take i)/\m=x.fts.length-i) 0 x.fts.length [] ⟨⟨Nat.zero_le _,rfl⟩,rfl⟩ ?_
 rintro i3 mm3 g3 kk3 ⟨⟨hi3,heq3⟩,hmm3⟩ nx hkk
 subst hkk
 refine zG 88 [1] ((i3:Int)<(x.fts.length:Int)) (λh88=> ?_) (λh88=> ?_)
 rotate_left
 ·refine z8 [] Z4 λw hO=>⟨?_,hO.below⟩
  have e5:=map_end l5 Om heq3
  rw [decide_eq_true (show x.rt=y.rt by unfold Rv.rt yI;rw [h1,h2,e3,e4,e5])]
 have hj:i3<x.fts.length:=by omega
 have hj2:i3<y.fts.length:=by omega
 have hux:x.fts[i3]∈x.fts:=List.getElem_mem hj
 have huy:y.fts[i3]∈y.fts:=List.getElem_mem hj2
 have hst:=tD hj hj2 heq3
 have hdf:=fR (f:=Fv.ft) hj hj2
 obtain ⟨eb,eo,hA,hel⟩:=hx.fts.top.elem vH i3 hj
 obtain ⟨fb,fo,hA2,hel2⟩:=hy.fts.top.elem vH i3 hj2
 have n1:∀ w,YB W w->(loadVar 9 ⟨eb,eo+i3*2+0,none⟩).run YP w= .ok (.string (mkS x.fts[i3].name)) w:=λw hw=>hel w hw _ 0 _ Kr
 have n2:∀ w,YB W w->(loadVar 9 ⟨fb,fo+i3*2+0,none⟩).run YP w= .ok (.string (mkS y.fts[i3].name)) w:=λw hw=>hel2 w hw _ 0 _ Kr
 have o1:∀ w,YB W w->(loadVar 85 ⟨eb,eo+i3*2+1,none⟩).run YP w= .ok (.slice x.fts[i3].A x.fts[i3].of.length x.fts[i3].cap) w:=λw hw=>hel w hw _ 1 _ Kr
 have o2:∀ w,YB W w->(loadVar 85 ⟨fb,fo+i3*2+1,none⟩).run YP w= .ok (.slice y.fts[i3].A y.fts[i3].of.length y.fts[i3].cap) w:=λw hw=>hel2 w hw _ 1 _ Kr
 have hru:=hx.fts.each _ hux;have hrv:=hy.fts.each _ huy;have hmu:=hx.fts.m _ hux;have hmv:=hy.fts.m _ huy
 generalize x.fts[i3]=u at hst hdf n1 o1 hru hmu
 generalize y.fts[i3]=v at hst hdf n2 o2 hrv hmv
 have hc:∀ w,YB W w->YC 139 #[.slice u.A u.of.length u.cap,.slice v.A v.of.length v.cap] w (YR (.bool (decide (u.of=v.of))) w):=λw hb=>r1Texts_any u.A v.A u.cap v.cap u.of v.of w (hru.on hb hb.size) (hrv.on hb hb.size) Om Om
 refine zL 94 [1] hA x.fts.length x.fc i3 2 hj (zI 96 [] 9 eb (eo+i3*2+0) (.string (mkS u.name)) (λw hO=>n1 w hO.below) (zL 100 [0] hA2 y.fts.length y.fc i3 2 hj2 (zI 102 [] 9 fb (fo+i3*2+0) (.string (mkS v.name)) (λw hO=>n2 w hO.below) (jJ 103 [] u.name v.name (λh6=> ?_) (λh6=> ?_)))))
 rotate_left
 ·exact z8 [] Z5 λw hO=>hno w hO.below λe=>hdf (λq=>h6 (congrArg Ft.name q)) (congrArg Rt.fts e)
 refine zL 108 [1] hA x.fts.length x.fc i3 2 hj (zI 110 [] 85 eb (eo+i3*2+1) (.slice u.A u.of.length u.cap) (λw hO=>o1 w hO.below) (zL 114 [0] hA2 y.fts.length y.fc i3 2 hj2 (zI 116 [] 85 fb (fo+i3*2+1) (.slice v.A v.of.length v.cap) (λw hO=>o2 w hO.below) (z7 (v:= .bool (decide (u.of=v.of))) [] (λw hO=>hc w hO.below) (fI 117 (u.of=v.of) (λh7=> ?_) (λh7=> ?_))))))
 ·exact x_i 90 [] ((i3+1:Nat):Int) (nx (i3+1) (x.fts.length-(i3+1)) [] Om ⟨⟨hj,hst (by unfold Fv.ft;rw [h6,h7])⟩,rfl⟩ Kr Kr)
 ·exact z8 [] Z5 λw hO=>hno w hO.below λe=>hdf (λq=>h7 (congrArg Ft.of q)) (congrArg Rt.fts e)
end
section
set_option linter.unnecessarySimpa false
theorem op_eq_verQ {ρ:Operand->Value}{o:Oper}{t':TypeId}{x y:Operand}{u v:Ver}{b:Bool}(ho:o.op= .binOp .eql 42 x y t')(hx:ρ x=yT u)(hy:ρ y=yT v)(hb:decide (u=v)=b)(w:World):(execOp ρ o).run YP w= .ok (.value (.bool b)) w:=
 run_eq_op ho hx hy guard_ver (λw=>hb▸eq_ver u v 9998 w) w
section
variable {M:List Nat}{n:Nat}{W:World}{Q:Exit->Act->World->Prop}{c:Xc}
theorem x_eqa {α:Type}{p:α->α->Prop}[∀ u v,Decidable (p u v)](T:TypeId)(enc:α->Value)(hrun:∀ {ρ:Operand->Value} {o:Oper} {t':TypeId} {x y:Operand} {u v:α} {b:Bool},o.op= .binOp .eql T x y t'->ρ x=enc u->ρ y=enc v->decide (p u v)=b→∀ w,(execOp ρ o).run YP w= .ok (.value (.bool b)) w)
  (d:Nat) (h:List Nat) (u v:α) (h1:p u v->zF M YP n W Q ((xgo YP n (d+50000) h c).put (.bool true))) (h2:¬ p u v->zF M YP n W Q ((xgo YP n (d+50000) h c).put (.bool false)))
  (hkt:(xgl YP n (d+50000) h c,xW n (xgo YP n (d+50000) h c),(xO (xgo YP n (d+50000) h c)).op,ev n (xgo YP n (d+50000) h c).f (oX (xO (xgo YP n (d+50000) h c))),ev n (xgo YP n (d+50000) h c).f (oY (xO (xgo YP n (d+50000) h c))))=(xgr YP n (d+50000) h c,true,.binOp .eql T (oX (xO (xgo YP n (d+50000) h c))) (oY (xO (xgo YP n (d+50000) h c))) (oU (xO (xgo YP n (d+50000) h c))),enc u,enc v):=by kernel_rfl):zF M YP n W Q c:=by
 simp only [Prod.mk.injEq] at hkt
 obtain ⟨hk,e1,e2,e3,e4⟩:=hkt
 by_cases hp:p u v
 ·exact zJ h c hk (xD e1 (λw=>hrun e2 e3 e4 (decide_eq_true hp) w) (h1 hp))
 ·exact zJ h c hk (xD e1 (λw=>hrun e2 e3 e4 (decide_eq_false hp) w) (h2 hp))
end
theorem no_len {α β:Type}{f:α->β}{l m:List α}(h:¬ (l.length:Int)=(m.length:Int)):¬ l.map f=m.map f:=λe=>h (by
 have:=congrArg List.length e
 simp only [List.length_map] at this;omega)
def stV (s:YL):Value:= .string (mkS s)
end
section
theorem fm_count {α:Type}(f:α->YL)(h:∀ x,1<=(f x).length):∀ l:List α,l.length<=(l.flatMap f).length
 | []=>Nat.zero_le _
 |x::l=>by
  have:=fm_count f h l
  have:=h x
  rw [List.flatMap_cons,List.length_append,List.length_cons];omega
theorem chk_bnd {r:Rt}(h:(zK r).1=0):BndR r/\FewR r 4096:=by
 obtain ⟨h1,h2,h3,h4,h5,h6⟩:=yS h
 obtain ⟨pn,pb,_,_⟩:=fN h5
 have hl:(vO r).length+(r.fts.flatMap g0).length<=4096:=by
  unfold yK at h6
  simp only [List.length_append] at h6;omega
 have hv:r.ver.pre.length<=4096/\r.ver.build.length<=4096:=by
  have e:r.ver.print=wZ r.ver++xP 45 r.ver.pre++xP 43 r.ver.build:=by unfold Ver.print Ver.text;rw [if_pos h2]
  have hh:(vO r).length<=4096:=by omega
  unfold vO at hh
  rw [e] at hh
  have ht:∀ (c:UInt8) (l:YL),l.length<=(xP c l).length:=λc l=>by
   unfold xP;cases l<;>simp
  have a:=ht 45 r.ver.pre
  have b:=ht 43 r.ver.build
  simp only [List.length_append] at hh
  omega
 have hf:∀ f∈r.fts,(g0 f).length<=4096:=λf hf=>Nat.le_trans (fm_one g0 hf) Om
 refine ⟨⟨Nat.le_trans (bB h1) (by decide),by omega,by omega,λn hn=> ?_,λb hb=> ?_,λf hm=> ?_⟩,⟨by omega,by omega,Nat.le_trans (fm_count g0 (λf=>by unfold g0;simp) r.fts) (by omega),λn hn=>by have:=(fF (pn n hn)).2.1;omega⟩⟩
 ·obtain ⟨_,_,q3,q4,q5⟩:=fF (pn n hn)
  refine ⟨gdM_of q4, ?_,λu hu=> ?_⟩
  ·rcases q5 with e|e
   ·rw [e];exact Nat.zero_le _
   ·exact Nat.le_trans (pS e) (by decide)
  ·obtain ⟨u1,u2,u3⟩:=mP (q3 u hu)
   unfold jK at u3
   simp only [Bool.and_eq_true,decide_eq_true_eq,List.all_eq_true] at u3
   exact ⟨Nat.le_trans (bB u1) (by decide),gdR_of u2,by omega,λt ht=>Nat.le_trans (pS (u3.1.1.1 t ht)) (by decide)⟩
 ·obtain ⟨q1,q2,q3⟩:=bar_fine (pb b hb)
  exact ⟨Nat.le_trans (bB q1) (by decide),gdR_of q2,gdM_of q3⟩
 ·have hq:=hf f hm
  unfold g0 at hq
  rw [List.length_append,List.length_singleton] at hq
  have hp:=λx (hx:x∈yE::f.name::f.of)=>jn_part 32 hx
  have hc:=jn_many 32 (l:=yE::f.name::f.of)
  simp only [List.length_cons] at hc
  refine ⟨by have:=hp f.name (by simp);omega,by omega,λt ht=>by have:=hp t (by simp [ht]);omega⟩
end
section
theorem same_below {k:FuncId}{args:Array Value}{w:World}{v:Value}(h:Calls YP k args w λe w'=>e= .returned v/\w'=w):Calls YP k args w (YR v w):=h.mono λe w' ⟨q1,q2⟩=>⟨q1,q2.symm▸Below.refl _ _⟩
def intC (n:Int):List Value:=[YI n]
theorem intC_len (n:Int):(intC n).length=1:=rfl
theorem or3_q (A:Option Addr)(x y z:Int)(W:World)(hv:Reads intC W W.heap.size A [x,y,z]):YC 144 #[.slice A 3 3] W (YR (YI (if x≠0 then x else if y≠0 then y else z)) W):=by
 obtain ⟨b,o,hA,h0⟩:=hv.elem intC_len 0 (by simp)
 obtain ⟨b1,o1,e1,h1⟩:=hv.elem intC_len 1 (by simp)
 obtain ⟨b2,o2,e2,h2⟩:=hv.elem intC_len 2 (by simp)
 subst hA
 simp only [Option.some.injEq,Addr.mk.injEq,and_true] at e1 e2
 obtain ⟨rfl,rfl⟩:=e1
 obtain ⟨rfl,rfl⟩:=e2
 have l0:∀ w,YB W w->(loadVar 3 ⟨b,o+0*1+0,none⟩).run YP w= .ok (YI x) w:=λw hw=>h0 w hw _ 0 _ Kr
 have l1:∀ w,YB W w->(loadVar 3 ⟨b,o+1*1+0,none⟩).run YP w= .ok (YI y) w:=λw hw=>h1 w hw _ 0 _ Kr
 have l2:∀ w,YB W w->(loadVar 3 ⟨b,o+2*1+0,none⟩).run YP w= .ok (YI z) w:=λw hw=>h2 w hw _ 0 _ Kr
 refine zD Tryz.func144 (x_rounds 3 [] (zL 10 [] (b:=b) (off:=o) rfl 3 3 0 1 (by decide) (zI 11 [] 3 b (o+0*1+0) (YI x) (λw hO=>l0 w hO.below) (gE 14 [] (x=0) (λhx=> ?_) (λhx=> ?_)))))
 rotate_left
 ·exact z8 [] (YI x) λw hO=>⟨by rw [if_pos hx],hO.below⟩
 refine x_i 16 [] 1 (zL 10 [] (b:=b) (off:=o) rfl 3 3 1 1 (by decide) (zI 11 [] 3 b (o+1*1+0) (YI y) (λw hO=>l1 w hO.below) (gE 14 [] (y=0) (λhy=> ?_) (λhy=> ?_))))
 rotate_left
 ·exact z8 [] (YI y) λw hO=>⟨by rw [if_neg (λh=>h hx),if_pos hy],hO.below⟩
 refine x_i 16 [] 2 (zL 10 [] (b:=b) (off:=o) rfl 3 3 2 1 (by decide) (zI 11 [] 3 b (o+2*1+0) (YI z) (λw hO=>l2 w hO.below) (gE 14 [] (z=0) (λhz=> ?_) (λhz=> ?_))))
 ·exact x_i 16 [] 3 (z8 [] (YI 0) λw hO=>⟨by rw [if_neg (λh=>h hx),if_neg (λh=>h hy),hz],hO.below⟩)
 ·exact z8 [] (YI z) λw hO=>⟨by rw [if_neg (λh=>h hx),if_neg (λh=>h hy)],hO.below⟩
def fourQ (l:List YL):List YL:=[tg l 0,tg l 1,tg l 2,tg l 3]
theorem fourQ_at (l:List YL):∀ (k:Nat) (h:k<4),(fourQ l)[k]'h=tg l k
 |0,_=>rfl
 |1,_=>rfl
 |2,_=>rfl
 |3,_=>rfl
theorem tails_q (l:List YL)(k:Nat):tg (l.drop k) 0=tg l k:=by unfold tg;simp
theorem cfunc_q (A B:Option Addr)(l m:List YL)(W:World)(hx:Reads zW W W.heap.size A (fourQ l))(hy:Reads zW W W.heap.size B (fourQ m))(hl:∀ i,(tg l i).length<=8)(hm:∀ i,(tg m i).length<=8):YC 190 #[.slice A 4 4,.slice B 4 4,.func (.func 191) #[] #[]] W (YR (YI (seqP 4 l m)) W):=by
 refine zD Tryz.func190 (zT (α:=Nat) (λi=>[(0,.slice A 4 4),(1,.slice B 4 4),(2,.func (.func 191) #[] #[]),(11,.slice A 4 4),(12,YI 4),(13,YI (i:Int))]) (λ_=>[]) (λi k=>(i<=4/\seqP (4-i) (l.drop i) (m.drop i)=seqP 4 l m)/\k=4-i) 0 4 [] ⟨⟨by decide,rfl⟩,rfl⟩ ?_)
 rintro i mm g kk ⟨⟨hi,hs⟩,hmm⟩ nx hkk
 subst hkk
 refine zG 14 [] ((i:Int)<4) (λh=> ?_) (λh=> ?_)
 rotate_left
 ·have e:i=4:=by omega
  subst e
  exact z8 [] (YI 0) λw hO=>⟨by rw [←hs];rfl,hO.below⟩
 have hj:i<4:=by omega
 obtain ⟨eb,eo,hA,hel⟩:=hx.elem zR i hj
 obtain ⟨fb,fo,hB,hel2⟩:=hy.elem zR i hj
 have q1:∀ w,YB W w->(loadVar 9 ⟨eb,eo+i*1+0,none⟩).run YP w= .ok (.string (mkS ((fourQ l)[i]'hj))) w:=λw hw=>hel w hw _ 0 _ Kr
 have q2:∀ w,YB W w->(loadVar 9 ⟨fb,fo+i*1+0,none⟩).run YP w= .ok (.string (mkS ((fourQ m)[i]'hj))) w:=λw hw=>hel2 w hw _ 0 _ Kr
 rw [fourQ_at l i hj] at q1
 rw [fourQ_at m i hj] at q2
 have hst:seqP (4-i) (l.drop i) (m.drop i)=if oneP (tg l i) (tg m i)≠0 then oneP (tg l i) (tg m i) else seqP (4-(i+1)) (l.drop (i+1)) (m.drop (i+1)):=by
  obtain ⟨n,hn⟩:∃ n,4-i=n+1:=⟨3-i,by omega⟩
  rw [hn,seqP,tails_q,tails_q,List.tail_drop,List.tail_drop,show 4-(i+1)=n by omega]
 have hc:∀ w,YC 191 #[.string (mkS (tg l i)),.string (mkS (tg m i))] w (YR (YI (oneP (tg l i) (tg m i))) w):=λw=>compareTag_any _ _ w (by have:=hl i;omega) (by have:=hm i;omega)
 rw [hst] at hs
 generalize tg l i=u at*
 generalize tg m i=v at*
 generalize oneP u v=z at*
 refine zL 16 [] hA 4 4 i 1 hj (zI 17 [] 9 eb (eo+i*1+0) (.string (mkS u)) (λw hO=>q1 w hO.below) (zG 21 [] ((i:Int)>=4) (λh=>absurd h (by omega)) (λ_=>zL 24 [] hB 4 4 i 1 hj (zI 25 [] 9 fb (fo+i*1+0) (.string (mkS v)) (λw hO=>q2 w hO.below) (z7 (v:=YI z) [] (λw hO=>hc w) (gE 31 [] (z=0) (λhz=> ?_) (λhz=> ?_)))))))
 ·exact x_i 33 [] ((i+1:Nat):Int) (nx (i+1) (4-(i+1)) [] Om ⟨⟨hj,by rw [if_neg (λq=>q hz)] at hs;exact hs⟩,rfl⟩ Kr Kr)
 ·exact z8 [] (YI z) λw hO=>⟨by rw [if_pos hz] at hs;rw [hs],hO.below⟩
theorem cpre_q (a b:YL)(W:World)(ha:a.length<=1000000)(hb:b.length<=1000000):YC 146 #[.string (mkS a),.string (mkS b)] W (YR (YI (cpre a b)) W):=by
 have hd:cpre a b=if a=[] then 1 else if b=[] then-1 else seqP 4 (lst a).1 (lst b).1:=rfl
 have cA:=λw'=>list_lit a w' Om
 have cB:=λw'=>list_lit b w' Om
 have hl:=tg_len a
 have hm:=tg_len b
 rw [hd]
 generalize (lst a).2=p at*
 generalize (lst b).2=q at*
 generalize (lst a).1=l at*
 generalize (lst b).1=m at*
 refine zD Tryz.func146 (xH 11 [] a [] (λh=>z8 [] (YI 1) λw hO=>⟨by rw [if_pos h],hO.below⟩) (λh=>xH 14 [] b [] (λh2=>z8 [] (YI (-1)) λw hO=>⟨by rw [if_neg h,if_pos h2],hO.below⟩) (λh2=> ?_)))
 rw [if_neg h,if_neg h2]
 refine z7 (v:= .tuple #[.agg #[.string (mkS (tg l 0)),.string (mkS (tg l 1)),.string (mkS (tg l 2)),.string (mkS (tg l 3))],.bool p]) [] (λw hO=>cA w) (zH [] λb5=>z7 (v:= .tuple #[.agg #[.string (mkS (tg m 0)),.string (mkS (tg m 1)),.string (mkS (tg m 2)),.string (mkS (tg m 3))],.bool q]) [0] (λw hO=>cB w) (zH [] λb7=>x_val 25 [0] (.slice (some ⟨b5,0,none⟩) 4 4) (λw=>Kr) (x_val 26 [] (.slice (some ⟨b7,0,none⟩) 4 4) (λw=>Kr) ?_)))
 refine z7 (k:=190) (args:= #[.slice (some ⟨b5,0,none⟩) 4 4,.slice (some ⟨b7,0,none⟩) 4 4,.func (.func 191) #[] #[]]) (v:=YI (seqP 4 l m)) [] (λw hO=> ?_) (z8 [] (YI (seqP 4 l m)) λw hO=>⟨rfl,hO.below⟩)
 have hO':=hO.past 0 [⟨b7, #[.string (mkS (tg m 0)),.string (mkS (tg m 1)),.string (mkS (tg m 2)),.string (mkS (tg m 3))],185⟩,⟨b5, #[.string (mkS (tg l 0)),.string (mkS (tg l 1)),.string (mkS (tg l 2)),.string (mkS (tg l 3))],185⟩]
 clear hO
 exact cfunc_q _ _ l m w (Reads.lit9 (hO'.get (i:=1) rfl) rfl) (Reads.lit9 (hO'.get (i:=0) rfl) rfl) hl hm
theorem core_q (v:Ver)(W:World)(hp:v.pre.length<=1000000):YC 143 #[yT v] W (YR (yT (gQ v)) W):=
 zD Tryz.func143 (zY [] λb1=>zH [] λb2=>z7 (v:= .string (mkS v.pre)) [1] (λw hO=>fH (mkS v.pre) w (by rw [y7];omega)) (qK [1,1,1,0] 0 (yT (gQ v)) λw hO=>⟨rfl,hO.below⟩))
theorem vcompareQ_any (v u:Ver)(W:World)(h1:v.pre.length<=1000000)(h2:v.build.length<=1000000)(h3:u.pre.length<=1000000)(h4:u.build.length<=1000000):YC 94 #[yT v,yT u] W (YR (YI (qQ v u)) W):=by
 have cV:∀ w,YC 91 #[yT v] w (YR (.bool v.may) w):=λw=>p5 v w Om Om
 have cU:∀ w,YC 91 #[yT u] w (YR (.bool u.may) w):=λw=>p5 u w Om Om
 have kV:=λw=>core_q v w h1
 have kU:=λw=>core_q u w h3
 have cP:=λw=>cpre_q v.pre u.pre w h1 h3
 have c1:=λw=>same_below (Tryz.cmp_Compare_int v.maj u.maj w)
 have c2:=λw=>same_below (Tryz.cmp_Compare_int v.min u.min w)
 have c3:=λw=>same_below (Tryz.cmp_Compare_int v.pat u.pat w)
 have hbad:=λh=> @cmpR_bad v u h
 have hcore:=λh=> @cmpR_core v u h
 have hgo:=λa b h=> @cmpR_go v u a b h
 have hN:cmpN v u=if Lib.compareInt v.maj u.maj≠0 then Lib.compareInt v.maj u.maj else if Lib.compareInt v.min u.min≠0 then Lib.compareInt v.min u.min else Lib.compareInt v.pat u.pat:=rfl
 rw [hN] at hgo
 generalize Lib.compareInt v.maj u.maj=x at*
 generalize Lib.compareInt v.min u.min=y at*
 generalize Lib.compareInt v.pat u.pat=z at*
 generalize cpre v.pre u.pre=p at*
 refine zD Tryz.func94 (zY [] λb2=>zY [] λb3=>z7 (v:= .bool v.may) [1] (λw hO=>cV w) (zV 7 v.may (λe1=> ?_) (λe1=> ?_)))
 rotate_left
 ·exact z8 [] (YI 0) λw hO=>⟨by rw [hbad (.inl e1)],hO.below⟩
 refine z7 (v:= .bool u.may) [0] (λw hO=>cU w) (zV 11 u.may (λe2=> ?_) (λe2=> ?_))
 rotate_left
 ·exact z8 [] (YI 0) λw hO=>⟨by rw [hbad (.inr e2)],hO.below⟩
 refine z7 (v:=yT (gQ v)) [1] (λw hO=>kV w) (z7 (v:=yT (gQ u)) [0] (λw hO=>kU w) (x_eqa (p:=λa b:Ver=>a=b) 42 yT op_eq_verQ 19 [] (gQ v) (gQ u) (λh=> ?_) (λh=> ?_)))
 ·exact z8 [] (YI 0) λw hO=>⟨by rw [hcore h],hO.below⟩
 have hr:=hgo e1 e2 h
 clear hgo hbad hcore hN
 refine x4 17 [] [⟨b3,(ZP u),42⟩,⟨b2,(ZP v),42⟩] (λw hO=>hO.past 0 _) (zX [1,0,1,0,1,0] 4 (z7 (v:=YI x) [] (λw hO=>c1 w) (zX [] 9 (z7 (v:=YI y) [] (λw hO=>c2 w) (zX [] 14 (z7 (v:=YI z) [] (λw hO=>c3 w) (zX [] 15 (gR 3 3 #[YI x,YI y,YI z] λb36=> ?_))))))))
 refine zX [] 16 (z7 (k:=144) (args:= #[.slice (some ⟨b36,0,none⟩) 3 3]) (v:=YI (if x≠0 then x else if y≠0 then y else z)) [] (λw hO=> ?_) ?_)
 ·have hO':=hO.past 0 (⟨b36, #[YI x,YI y,YI z],3⟩::[⟨b3,(ZP u),42⟩,⟨b2,(ZP v),42⟩])
  clear hO
  exact or3_q _ x y z w (Reads.lit9 (hO'.get (i:=0) rfl) rfl)
 generalize (if x≠0 then x else if y≠0 then y else z)=n at*
 refine zG 39 [] (n=0) (λhn=> ?_) (λhn=> ?_)
 ·exact z7 (v:=YI p) [2,1] (λw hO=>cP w) (z8 [] (YI p) λw hO=>⟨by rw [hr,if_neg (λq=>q hn)],hO.below⟩)
 ·exact z8 [] (YI n) λw hO=>⟨by rw [hr,if_pos hn],hO.below⟩
end
section
set_option linter.unnecessarySimpa false
def PreM (l:List Et):Prop:=(∀ e∈l,okE e)/\l.Pairwise λa b=>gO b.rc.name b.rc.ver a=false
theorem pre_step {l:List Et}{e:Et}:PreM (l++[e])↔PreM l/\okE e/\y8 l e.rc.name e.rc.ver= -1:=by
 unfold PreM
 rw [List.pairwise_append,place_none]
 constructor
 ·rintro ⟨h1,h2,_,h4⟩
  exact ⟨⟨λx hx=>h1 x (List.mem_append_left _ hx),h2⟩,h1 e (List.mem_append_right _ (List.mem_singleton.2 rfl)),λx hx=>h4 x hx e (List.mem_singleton.2 rfl)⟩
 ·rintro ⟨⟨h1,h2⟩,h3,h4⟩
  refine ⟨λx hx=> ?_,h2,List.pairwise_singleton _ _,λa ha b hb=>by rw [List.mem_singleton.1 hb];exact h4 a ha⟩
  rcases List.mem_append.1 hx with hx|hx
  ·exact h1 x hx
  ·rw [List.mem_singleton.1 hx];exact h3
theorem may_pre13 {s:Sh}(h:x3 s)(i:Nat):PreM (s.es.take i):=⟨λe he=>h.ok e (List.mem_of_mem_take he),h.apart.sublist (List.take_sublist _ _)⟩
theorem pre_may {s:Sh}(h1:nmL s.name=true)(h2:s.es.length<=64)(h:PreM s.es):x3 s:=⟨h1,h2,h.1,h.2⟩
theorem et_take (l:List Ev)(i:Nat):(l.take i).map Ev.et=(l.map Ev.et).take i:=List.map_take ..
def hv0:Hv:=⟨[],none,0,[]⟩
theorem hv0_o:ShO hv0 []:=⟨[],[],rfl,LsO.nil⟩
theorem EsIn.fst {w:World}{B:Nat}{A:Option Addr}{es:List Ev}(h:EsIn w B A es)(k:Nat):EsIn w B A (es.take k):=⟨h.top.fst k,λe he=>h.each e (List.mem_of_mem_take he),Nat.le_trans (by rw [List.length_take];omega) h.n⟩
theorem RecO.in13 {x:Rv}{ob L:List Blk}{M:List Nat}{W w:World}(h:RecO x ob)(hO:Own M W w L)(hs:∀ b∈ob,b∈L)(hB:BndR x.rt)(hF:FewR x.rt 4096):RcIn w w.heap.size x:=by
 obtain ⟨o1,o2,o4,o7,o8,rfl,h1,h4,h7⟩:=h.ex
 exact rec_inn h1 h4 h7 hO (λb hb=>hs b (by simp [hb])) (λb hb=>hs b (by simp [hb])) (λb hb=>hs b (by simp [hb])) (λb hb=>hs b (by simp [hb])) (λb hb=>hs b (by simp [hb])) hB hF
theorem ShO.inn {y:Hv}{ob L:List Blk}{M:List Nat}{W w:World}(h:ShO y ob)(hO:Own M W w L)(hs:∀ b∈ob,b∈L)(hM:x3 y.sh):ShIn w w.heap.size y:=by
 obtain ⟨o1,o2,rfl,hL⟩:=h
 have hl:y.es.length<=64:=by have:=hM.few;simpa [Hv.sh] using this
 refine ⟨⟨Sl.reads hL.top rfl hO λb hb=>hs b (List.mem_append_left _ hb),λe he=> ?_,by omega⟩, ?_,Nat.le_trans (bB hM.name) (by decide)⟩
 ·obtain ⟨o,hR,hsub⟩:=hL.each e he
  have:=hM.ok e.et (List.mem_map_of_mem he)
  obtain ⟨b1,b2⟩:=chk_bnd this.1
  exact hR.in13 hO (λb hb=>hs b (List.mem_append_right _ (hsub b hb))) b1 b2
 ·rcases hL.top.2 with ⟨e,h2,_⟩|⟨g,cp,cur,e,_,h3,_⟩
  ·omega
  ·simp only [Value.slice.injEq] at e;omega
theorem evC_one (y:Ev):∀ u∈evC y,u.oneCell'=true:=λu hu=>by
 simp only [evC,rvC,List.mem_append,List.mem_cons,List.not_mem_nil,or_false] at hu
 rcases hu with (rfl|rfl|rfl|rfl|rfl|rfl|rfl|rfl|rfl)|rfl|rfl<;>rfl
theorem sBefore_any (A:Option Addr)(cap:Nat)(es:List Ev)(k:Nat)(W:World)(hx:Reads evC W W.heap.size A es)(hk:k<=es.length)(hc:es.length<=cap):YC 70 #[.slice A es.length cap,YI (k:Int)] W (YR (.slice A k k) W):=by
 have hA:(k:Int)=0∨∃ b off,A=some ⟨b,off,none⟩:=by
  by_cases h0:k=0
  ·exact .inl Om
  ·obtain ⟨b,off,e,_⟩:=hx Om
   exact .inr ⟨b,off,e⟩
 exact zD Tryz.func70 (x_slhmA 8 [] A es.length cap 11 k k ⟨by omega,by omega,by omega⟩ hA (.slice A k k) rfl (z8 [] (.slice A k k) λw hO=>⟨rfl,hO.below⟩))
theorem sHit_any (x:Ev)(nm:YL)(v:Ver)(b c:Nat)(W:World)(hb:W.heap[b]?=some (.cells #[.string (mkS nm)] 9))(hc:W.heap[c]?=some (.cells (ZP v) 42))(h1:x.rec'.pre.length<=1000000)(h2:x.rec'.bld.length<=1000000)(h3:v.pre.length<=1000000)(h4:v.build.length<=1000000)(hm:x.rec'.ver.may=true)(hv:v.may=true):YC 93 #[evV x,.pointer (some ⟨b,0,none⟩),.pointer (some ⟨c,0,none⟩)] W (YR (.bool (gO nm v x.et)) W):=by
 have hbl:b<W.heap.size:=(Array.getElem?_eq_some_iff.1 hb).1
 have hcl:c<W.heap.size:=(Array.getElem?_eq_some_iff.1 hc).1
 have hh:gO nm v x.et=(decide (x.rec'.name=nm) && decide (qQ x.rec'.ver v=0)):=by
  show (decide (x.rec'.name=nm) && (x.rec'.ver.may && v.may && decide (qQ x.rec'.ver v=0)))=_
  rw [hm,hv];rfl
 rw [hh]
 have hcmp:∀ w,YC 94 #[yT x.rec'.ver,yT v] w (YR (YI (qQ x.rec'.ver v)) w):=λw=>vcompareQ_any x.rec'.ver v w h1 h2 h3 h4
 refine zD Tryz.func93 (zY [] λb3=>zI 8 [0] 9 b 0 (.string (mkS nm)) (λw hO=>yM Kr ((hO.below.block b hbl).trans hb)) (xH 9 [] x.rec'.name nm (λh=> ?_) (λh=> ?_)))
 ·refine zI 14 [0] 42 c 0 (yT v) (λw hO=>yM Kr ((hO.below.block c hcl).trans hc)) (z7 (v:=YI (qQ x.rec'.ver v)) [] (λw hO=>hcmp w) ?_)
  exact z8 [] (.bool (decide (qQ x.rec'.ver v=0))) λw hO=>⟨by rw [decide_eq_true h];rfl,hO.below⟩
 ·exact z8 [] Z5 λw hO=>⟨by rw [decide_eq_false h];rfl,hO.below⟩
theorem sIdx_any (p:Ev->Bool)(A:Option Addr)(cap:Nat)(l:List Ev)(b c:Nat)(W:World)(hv:Reads evC W W.heap.size A l)(hn:l.length<=5000)(hp:∀ n∈l,∀ w,YB W w->YC 93 #[evV n,.pointer (some ⟨b,0,none⟩),.pointer (some ⟨c,0,none⟩)] w (YR (.bool (p n)) w)):YC 92 #[.slice A l.length cap,.func (.func 93) #[] #[.pointer (some ⟨b,0,none⟩),.pointer (some ⟨c,0,none⟩)]] W λe w'=>∃ v,e= .returned v/\(∃ z:Int,v=YI z/\((z= -1∧∀ y∈l,p y=false)∨∃ i,∃ hi:i<l.length,z=(i:Int)/\p l[i]=true∧∀ y∈l.take i,p y=false))/\YB W w':=by
 refine zD Tryz.func92 (zT (α:=Nat) (λi=>[(0,.slice A l.length cap),(1,.func (.func 93) #[] #[Zp b 0,Zp c 0]),(7,YI (l.length:Int)),(8,YI (i:Int))]) (λ_=>[]) (λi m=>(i<=l.length∧∀ y∈l.take i,p y=false)/\m=l.length-i) 0 l.length [] ⟨⟨Nat.zero_le _,λy h=>by simp at h⟩,rfl⟩ ?_)
 rintro i mm g kk ⟨⟨hi,hno⟩,hmm⟩ nx hkk
 subst hkk
 refine zG 9 [] ((i:Int)<(l.length:Int)) (λh9=> ?_) (λh9=> ?_)
 rotate_left
 ·exact z8 [] (YI (-1)) λw hO=>⟨_,rfl,⟨-1,rfl,.inl ⟨rfl,xE (p:=λy:Ev=>p y=false) (show l.length<=i by omega) hno⟩⟩,hO.below⟩
 have hj:i<l.length:=by omega
 obtain ⟨eb,eo,hA,hel⟩:=hv.elem vJ i hj
 have hgo:=yH (p:=λy:Ev=>p y=false) hj hno
 have hsm:l[i]∈l:=List.getElem_mem hj
 have hel0:∀ w,YB W w->(loadVar 69 ⟨eb,eo+i*11+0,none⟩).run YP w= .ok (evV l[i]) w:=λw hw=>hel w hw _ 0 _ Kr
 have hcf:=hp _ hsm
 have hfin:p l[i]=true→∃ z:Int,Value.int .i64 (i:Int)=YI z/\((z= -1∧∀ y∈l,p y=false)∨∃ i,∃ hi:i<l.length,z=(i:Int)/\p l[i]=true∧∀ y∈l.take i,p y=false):=λq=>⟨_,rfl,.inr ⟨i,hj,rfl,q,hno⟩⟩
 clear hp
 generalize l[i]=n at hel0 hgo hcf hsm hfin
 refine zL 14 [] hA l.length cap i 11 hj (zI 15 [] 69 eb (eo+i*11+0) (evV n) (λw hO=>hel0 w hO.below) (z7 (v:= .bool (p n)) [] (λw hO=>hcf w hO.below) (zV 16 (p n) (λh16=> ?_) (λh16=> ?_))))
 ·exact z8 [] (YI (i:Int)) λw hO=>⟨_,rfl,hfin h16,hO.below⟩
 ·exact x_i 18 [] ((i+1:Nat):Int) (nx (i+1) (l.length-(i+1)) [] Om ⟨⟨hj,hgo h16⟩,rfl⟩ Kr Kr)
theorem sPlace_any (A:Option Addr)(cap:Nat)(es:List Ev)(nm:YL)(v:Ver)(W:World)(hx:EsIn W W.heap.size A es)(hok:∀ e∈es,e.rec'.ver.may=true)(h3:v.pre.length<=1000000)(h4:v.build.length<=1000000):YC 51 #[.slice A es.length cap,.string (mkS nm),yT v] W (YR (YI (y8 (es.map Ev.et) nm v)) W):=by
 have c1:∀ w,YC 91 #[yT v] w (YR (.bool v.may) w):=λw=>p5 v w Om Om
 refine zD Tryz.func51 (zY [] λb4=>zY [] λb5=>z7 (v:= .bool v.may) [0] (λw hO=>c1 w) (zV 8 v.may (λhv=> ?_) (λhv=> ?_)))
 rotate_left
 ·refine z8 [] (YI (-1)) λw hO=>⟨?_,hO.below⟩
  rw [place_none.2 λe _=> ?_]
  unfold gO oneV
  rw [hv];simp
 refine x_val 11 [] (.func (.func 93) #[] #[Zp b4 0,Zp b5 0]) (λw=>Kr) (wS (k:=92) (args:= #[.slice A es.length cap,.func (.func 93) #[] #[Zp b4 0,Zp b5 0]]) (R:=λu=>∃ z:Int,u=YI z/\z=y8 (es.map Ev.et) nm v) [] (λw hO=> ?_) ?_)
 ·have hO':=hO.past 0 [⟨b5,(ZP v),42⟩,⟨b4, #[.string (mkS nm)],9⟩]
  clear hO
  have g5:w.heap[b5]?=some (.cells (ZP v) 42):=hO'.get (i:=0) rfl
  have g4:w.heap[b4]?=some (.cells #[.string (mkS nm)] 9):=hO'.get (i:=1) rfl
  have hxw:=hx.on hO'.below hO'.size
  refine (sIdx_any (λx=>gO nm v x.et) A cap es b4 b5 w hxw.top hxw.n λx hm w2 hb2=>sHit_any x nm v b4 b5 w2 ((hb2.block b4 (Array.getElem?_eq_some_iff.1 g4).1).trans g4) ((hb2.block b5 (Array.getElem?_eq_some_iff.1 g5).1).trans g5) (hx.each x hm).sn.2.1 (hx.each x hm).sn.2.2 h3 h4 (hok x hm) hv).mono λe w' ⟨u,q1,⟨z,q2,q3⟩,q4⟩=>⟨u,q1,⟨z,q2, ?_⟩,q4⟩
  rcases q3 with ⟨rfl,h⟩|⟨i,hi,rfl,h,h0⟩
  ·exact (place_none.2 λe he=>by obtain ⟨x,hm,rfl⟩:=List.mem_map.1 he;exact h x hm).symm
  ·exact (place_at (by simpa using hi) (λe he=>by rw [←et_take] at he;obtain ⟨x,hm,rfl⟩:=List.mem_map.1 he;exact h0 x hm) (by rw [List.getElem_map];exact h)).symm
 ·rintro _ ⟨z,rfl,hz⟩
  exact z8 [] (YI z) λw hO=>⟨by rw [hz],hO.below⟩
theorem sWith_any (x:Hv)(k:Nat)(e:Ev)(W:World)(hx:ShIn W W.heap.size x)(he:RcIn W W.heap.size e.rec')(hk:k<=x.es.length)(hn:x.es.length<=4000):YC 52 #[hvV x,YI (k:Int),evV e] W λe' w'=>∃ v ob,e'= .returned v/\(∃ y,v=hvV y/\y.sh=⟨x.name,(x.es.map Ev.et).take k++e.et::(x.es.map Ev.et).drop (k+1)⟩/\ShO y ob)/\Own [] W w' ob:=by
 obtain ⟨nm,A,cap,es⟩:=x
 have hle:es.length<=cap:=hx.le
 have hsn:nm.length<=1000000:=hx.sn
 have hes:EsIn W W.heap.size A es:=hx.es
 dsimp only at hk hn ⊢
 have cB:∀ w,YB W w->YC 70 #[.slice A es.length cap,YI (k:Int)] w (YR (.slice A k k) w):=λw hb=>sBefore_any A cap es k w (hes.top.on hb hb.size) hk hle
 have hxl:((es.take k).flatMap evC).length=k*11:=by rw [flat_len10 vJ,List.length_take,Nat.min_eq_left hk]
 have hA0:A=none->k=0:=λh=>by
  apply Classical.byContradiction
  intro h0
  obtain ⟨b,off,e,_⟩:=hes.top Om
  rw [e] at h;cases h
 have hrd:∀ w,YB W w→∀ b,A=some b→∀ j u,((es.take k).flatMap evC)[j]?=some u->w.cell? (b.add j)=some u:=λw hb b hb' j u hj=>by
  by_cases h0:k=0
  ·subst h0;simp at hj
  obtain ⟨b2,off,e,hlt,hc⟩:=(hes.top.fst k).on hb hb.size (by rw [List.length_take];omega)
  rw [e] at hb';obtain rfl:=Option.some.inj hb'
  rw [yJ];exact hc j u hj
 have hfin:∀ (M:List Nat) (L:List Blk) (ob:List Blk) (A1:Option Addr) (c1:Nat) (ls:List Ev) (w:World),Own M W w L->(∀ b∈ob,b∈L)->Sl 69 11 (.slice A1 ls.length c1) ls.length (ls.flatMap evC) ob->(∀ a∈ls,a=e\/a∈es)->ls.length<=5000->YB W w->EsIn w w.heap.size A1 ls:=λM L ob A1 c1 ls w hO hs hS hm hl hb=>⟨Sl.reads hS rfl hO hs,λa ha=>by
  rcases hm a ha with rfl|ha
  ·exact he.on hb hb.size
  ·exact (hes.each a ha).on hb hb.size,hl⟩
 refine zD Tryz.func52 (zY [] λb3=>zY [] λb5=>zH [] λb6=> ?_)
 refine x4 7 [] [⟨b6,ZM,24⟩,⟨b5,(evV e).cells,69⟩,⟨b3, #[.string (mkS nm),.slice A es.length cap],24⟩] (λw hO=>hO.past 0 _) (x_h2 [2,1] 3 5 (z7 (v:= .slice A k k) [] (λw hO=>cB w hO.below) (zX [] 5 (gR 1 69 (evV e).cells λb14=> ?_))) (gR 1 69 (evV e).cells λb14=>zX [] 3 (z7 (v:= .slice A k k) [] (λw hO=>cB w hO.below) ?_)))
 all_goals
  refine zX [] 6 (xh_appC (T:=69) (sz:=11) (N:=k) ((es.take k).flatMap evC) 0 (⟨b14,(evV e).cells,69⟩::[⟨b6,ZM,24⟩,⟨b5,(evV e).cells,69⟩,⟨b3, #[.string (mkS nm),.slice A es.length cap],24⟩]) [⟨b6,ZM,24⟩,⟨b5,(evV e).cells,69⟩,⟨b3, #[.string (mkS nm),.slice A es.length cap],24⟩] hxl hA0 (λw hO=>hrd w hO.below) (m:=1) (cp:=1) Om Om (λo w hO=>hO.sublist (List.Sublist.trans (List.sublist_cons_self _ _) (List.sublist_append_left _ _))) λv' o1 hS=> ?_)
  obtain ⟨A1,c1,rfl⟩:=Sl.form hS
  have hls:(es.take k++e::es.drop (k+1)).length=k+(1+(es.length-(k+1))):=by rw [List.length_append,List.length_take,List.length_cons,List.length_drop,Nat.min_eq_left hk];omega
  refine x_i 8 [] ((k+1:Nat):Int) (d6 (α:=Option Addr×Nat×List Blk) 22 (λ(A2,c2,o)=>[(3,Zp b3 0),(6,Zp b6 0),(7,.slice A2 (es.take k++e::es.drop (k+1)).length c2)]) (λ(A2,c2,o)=>[⟨b14,(evV e).cells,69⟩,⟨b6,ZM,24⟩,⟨b5,(evV e).cells,69⟩,⟨b3, #[.string (mkS nm),.slice A es.length cap],24⟩]++o) (λ(A2,c2,o)=>Sl 69 11 (.slice A2 (es.take k++e::es.drop (k+1)).length c2) (es.take k++e::es.drop (k+1)).length ((es.take k++e::es.drop (k+1)).flatMap evC) o) [3] (λnj=>fI 22 (((k+1:Nat):Int)<(es.length:Int)) (λh22=> ?_) (λh22=> ?_)) ?_)
  ·obtain ⟨eb,eo,rfl,_⟩:=hes.top Om
   refine x_sllo 27 [3] rfl es.length cap 11 ((k+1:Nat):Int) Om Om (.slice (some ⟨eb,eo+(if cap=k+1 then 0 else (k+1)*11),none⟩) (es.drop (k+1)).length (cap-(k+1))) (by rw [List.length_drop];rfl) (x_appR (g:=evC) (cp:=cap-(k+1)) [] (es.drop (k+1)) [⟨b14,(evV e).cells,69⟩,⟨b6,ZM,24⟩,⟨b5,(evV e).cells,69⟩,⟨b3, #[.string (mkS nm),.slice (some ⟨eb,eo,none⟩) es.length cap],24⟩] o1 [] ([⟨b14,(evV e).cells,69⟩,⟨b6,ZM,24⟩,⟨b5,(evV e).cells,69⟩,⟨b3, #[.string (mkS nm),.slice (some ⟨eb,eo,none⟩) es.length cap],24⟩]++o1) (λw hO=>by simpa using hO) vJ evC_one (λw hO=>Reads.from_ vJ (hes.top.on hO.below hO.size) hle (k+1)) hS (by rw [List.length_drop];omega) λv' o2 hS2=> ?_)
   obtain ⟨A2,c2,rfl⟩:=Sl.form hS2
   refine xY 7 [] (.slice A2 (k+1+(es.drop (k+1)).length) c2) (.slice A2 (es.take k++e::es.drop (k+1)).length c2) (by rw [hls,List.length_drop,Nat.add_assoc]) (zQ [] ([⟨b14,(evV e).cells,69⟩,⟨b6,ZM,24⟩,⟨b5,(evV e).cells,69⟩,⟨b3, #[.string (mkS nm),.slice (some ⟨eb,eo,none⟩) es.length cap],24⟩]++o2) (λw hO=>(hO.past 0 ([⟨b14,(evV e).cells,69⟩,⟨b6,ZM,24⟩,⟨b5,(evV e).cells,69⟩,⟨b3, #[.string (mkS nm),.slice (some ⟨eb,eo,none⟩) es.length cap],24⟩]++o2++[])).cast (by simp)) (nj (A2,c2,o2) [] ?_ Kr))
   have e1:k+1+(es.drop (k+1)).length=(es.take k++e::es.drop (k+1)).length:=by rw [hls,List.length_drop,Nat.add_assoc]
   have e2:(es.take k).flatMap evC++(evV e).cells.toList++(es.drop (k+1)).flatMap evC=(es.take k++e::es.drop (k+1)).flatMap evC:=by rw [List.flatMap_append,List.flatMap_cons,List.append_assoc];rfl
   rw [e1] at hS2
   exact Sl.to hS2 rfl e2
  ·have hd:es.drop (k+1)=[]:=List.drop_eq_nil_of_le Om
   refine xY 7 [] (.slice A1 (k+1) c1) (.slice A1 (es.take k++e::es.drop (k+1)).length c1) (by rw [hls];congr 1;omega) (nj (A1,c1,o1) [] ?_ Kr)
   have e1:k+1=(es.take k++e::es.drop (k+1)).length:=by rw [hls];omega
   have e2:(es.take k).flatMap evC++(evV e).cells.toList=(es.take k++e::es.drop (k+1)).flatMap evC:=by rw [hd,List.flatMap_append,List.flatMap_singleton];rfl
   rw [e1] at hS
   exact Sl.to hS rfl e2
  ·rintro ⟨A2,c2,o⟩ g hS2
   have hmem:∀ a∈es.take k++e::es.drop (k+1),a=e\/a∈es:=λa ha=>by
    rcases List.mem_append.1 ha with ha|ha
    ·exact .inr (List.mem_of_mem_take ha)
    ·rcases List.mem_cons.1 ha with ha|ha
     ·exact .inl ha
     ·exact .inr (List.mem_of_mem_drop ha)
   refine yB (k:=95) (args:= #[hvV ⟨nm,A2,c2,es.take k++e::es.drop (k+1)⟩]) (R:=λv ob=>∃ y,v=hvV y/\y.sh=⟨nm,(es.take k++e::es.drop (k+1)).map Ev.et⟩/\ShO y ob) [3] (λw hO=> ?_) ?_
   ·have hO':=hO.past 4 o
    have hb:=hO.below
    clear hO
    exact frShelf_any ⟨nm,A2,c2,es.take k++e::es.drop (k+1)⟩ w (hfin _ _ o A2 c2 _ w hO' (λb h=>h) hS2 hmem (by rw [hls];omega) hb) hsn
   ·rintro _ ob ⟨y,rfl,hy,hyo⟩
    exact qK [1] 1 (hvV y) λw hO=>⟨_,ob,rfl,⟨y,rfl,by rw [hy,List.map_append,List.map_cons,List.map_take,List.map_drop],hyo⟩,(hO.past 4 (o++ob)).sublist (List.sublist_append_right _ _)⟩
end
section
set_option linter.unnecessarySimpa false
theorem sMay_any (x:Hv)(W:World)(hx:ShIn W W.heap.size x)(hK:RecLib W):YC 34 #[hvV x] W (YR (.bool (decide (x3 x.sh))) W):=by
 have hno:∀ w,YB W w→¬ x3 x.sh->(Ending.returned (.bool false)= .returned (.bool (decide (x3 x.sh))))/\YB W w:=λw hb h=>⟨by rw [decide_eq_false h],hb⟩
 have hyes:∀ w,YB W w->x3 x.sh->(Ending.returned (.bool true)= .returned (.bool (decide (x3 x.sh))))/\YB W w:=λw hb h=>⟨by rw [decide_eq_true h],hb⟩
 have hpre:x3 x.sh→∀ i,PreM ((x.es.map Ev.et).take i):=λh i=>may_pre13 h i
 have hmk:nmL x.name=true->x.es.length<=64->PreM (x.es.map Ev.et)->x3 x.sh:=λa b c=>pre_may a (by simpa [Hv.sh] using b) c
 have hnot:x3 x.sh->nmL x.name=true:=λh=>h.name
 have hfew:x3 x.sh->x.es.length<=64:=λh=>by simpa [Hv.sh] using h.few
 obtain ⟨hE,hle,hsn⟩:=hx
 have c1:∀ w,YC 69 #[.string (mkS x.name)] w (YR (.bool (nmL x.name)) w):=λw=>fG x.name w hsn
 refine zD Tryz.func34 (zY [] λb1=>z7 (v:= .bool (nmL x.name)) [0] (λw hO=>c1 w) (zV 9 (nmL x.name) (λh9=> ?_) (λh9=> ?_)))
 rotate_left
 ·exact z8 [] Z5 λw hO=>hno w hO.below λh=>by rw [hnot h] at h9;cases h9
 refine zG 15 [0] ((x.es.length:Int)>64) (λh15=> ?_) (λh15=> ?_)
 ·exact z8 [] Z5 λw hO=>hno w hO.below λh=>by have:=hfew h;omega
 refine zT (α:=Nat) (λi=>[(1,Zp b1 0),(18,.slice x.A x.es.length x.cap),(19,YI (x.es.length:Int)),(20,YI (i:Int))]) (λ_=>[hvB b1 x]) (λi m=>(i<=x.es.length/\PreM ((x.es.map Ev.et).take i))/\m=x.es.length-i) 0 x.es.length [0] ⟨⟨Nat.zero_le _,⟨λe h=>by simp at h,by simp⟩⟩,rfl⟩ ?_
 rintro i mm g kk ⟨⟨hi,hP⟩,hmm⟩ nx hkk
 subst hkk
 refine zG 21 [] ((i:Int)<(x.es.length:Int)) (λh21=> ?_) (λh21=> ?_)
 rotate_left
 ·exact z8 [] Z4 λw hO=>hyes w hO.below (hmk h9 Om (by rw [show i=x.es.length by omega,←List.length_map (f:=Ev.et),List.take_length] at hP;exact hP))
 have hj:i<x.es.length:=by omega
 obtain ⟨eb,eo,hA,hel⟩:=hE.top.elem vJ i hj
 have hel0:∀ w,YB W w->(loadVar 69 ⟨eb,eo+i*11+0,none⟩).run YP w= .ok (evV x.es[i]) w:=λw hw=>hel w hw _ 0 _ Kr
 have hR:=hE.each _ (List.getElem_mem hj)
 have hstep:PreM ((x.es.map Ev.et).take (i+1))↔PreM ((x.es.map Ev.et).take i)/\okE x.es[i].et/\y8 ((x.es.map Ev.et).take i) x.es[i].rec'.name x.es[i].rec'.ver= -1:=by
  rw [List.take_succ_eq_append_getElem (by simpa using hj),List.getElem_map];exact pre_step
 have hq:=λh=>(hstep.1 (hpre h (i+1))).2
 generalize x.es[i]=u at*
 have cS:∀ w,YB W w->YC 50 #[rvV u.rec'] w (YR (.tuple #[.int .u64 (yL u.rec'.rt),YI (zK u.rec'.rt).1]) w):=λw hb=>qSum_any u.rec' w (hR.on hb hb.size) (hK.on hb)
 have cB:∀ w,YB W w->YC 70 #[.slice x.A x.es.length x.cap,YI (i:Int)] w (YR (.slice x.A i i) w):=λw hb=>sBefore_any x.A x.cap x.es i w (hE.top.on hb hb.size) hi hle
 have cP:∀ w,YB W w->YC 51 #[.slice x.A i i,.string (mkS u.rec'.name),yT u.rec'.ver] w (YR (YI (y8 ((x.es.map Ev.et).take i) u.rec'.name u.rec'.ver)) w):=λw hb=>by
  have:=sPlace_any x.A i (x.es.take i) u.rec'.name u.rec'.ver w ((hE.fst i).on hb hb.size) (λe he=>by
   have:=hP.1 e.et (by rw [←et_take];exact List.mem_map_of_mem he)
   exact (yS this.1).2.1) hR.sn.2.1 hR.sn.2.2
  rw [List.length_take,Nat.min_eq_left hi,et_take] at this;exact this
 have hzz:=place_ge ((x.es.map Ev.et).take i) u.rec'.name u.rec'.ver
 generalize y8 ((x.es.map Ev.et).take i) u.rec'.name u.rec'.ver=z at*
 have hok:okE u.et↔(zK u.rec'.rt).1=0/\yL u.rec'.rt=u.sum:=Iff.rfl
 refine zL 23 [] hA x.es.length x.cap i 11 hj (zI 24 [] 69 eb (eo+i*11+0) (evV u) (λw hO=>hel0 w hO.below) (zH [] λb4=>z7 (v:= .tuple #[.int .u64 (yL u.rec'.rt),YI (zK u.rec'.rt).1]) [0,0] (λw hO=>cS w hO.below) (gE 32 [] ((zK u.rec'.rt).1=0) (λh32=> ?_) (λh32=> ?_))))
 rotate_left
 ·exact z8 [] Z5 λw hO=>hno w hO.below λh=>h32 (hq h).1.1
 refine gE 37 [0] (yL u.rec'.rt=u.sum) (λh37=> ?_) (λh37=> ?_)
 rotate_left
 ·exact z8 [] Z5 λw hO=>hno w hO.below λh=>h37 (hq h).1.2
 refine z7 (v:= .slice x.A i i) [1] (λw hO=>cB w hO.below) (z7 (v:=YI z) [0,0] (λw hO=>cP w hO.below) (zG 51 [] (z>=0) (λh51=> ?_) (λh51=> ?_)))
 ·exact z8 [] Z5 λw hO=>hno w hO.below λh=>by have:=(hq h).2;omega
 ·exact x_i 20 [] ((i+1:Nat):Int) (zQ [] [hvB b1 x] (λw hO=>hO.past 1 _) (nx (i+1) (x.es.length-(i+1)) [] Om ⟨⟨hj,hstep.2 ⟨hP,hok.2 ⟨h32,h37⟩,by omega⟩⟩,rfl⟩ Kr Kr))
theorem sPut_any (x:Hv)(r:Rv)(W:World)(hx:ShIn W W.heap.size x)(hr:RcIn W W.heap.size r)(hK:RecLib W):YC 19 #[hvV x,rvV r] W λe w'=>∃ v ob,e= .returned v/\(∃ y,v= .tuple #[hvV y,YI (dB x.sh r.rt).2]/\y.sh=(dB x.sh r.rt).1/\ShO y ob)/\Own [] W w' ob:=by
 have cM:∀ w,YB W w->YC 34 #[hvV x] w (YR (.bool (decide (x3 x.sh))) w):=λw hb=>sMay_any x w (hx.on hb hb.size) (hK.on hb)
 have cS:∀ w,YB W w->YC 50 #[rvV r] w (YR (.tuple #[.int .u64 (yL r.rt),YI (zK r.rt).1]) w):=λw hb=>qSum_any r w (hr.on hb hb.size) (hK.on hb)
 have cP:x3 x.sh→∀ w,YB W w->YC 51 #[.slice x.A x.es.length x.cap,.string (mkS r.name),yT r.ver] w (YR (YI (y8 x.sh.es r.name r.ver)) w):=λh w hb=>sPlace_any x.A x.cap x.es r.name r.ver w (hx.es.on hb hb.size) (λe he=>(yS (h.ok e.et (List.mem_map_of_mem he)).1).2.1) hr.sn.2.1 hr.sn.2.2
 have cW:x3 x.sh→∀ w,YB W w->YC 52 #[hvV x,YI (x.es.length:Int),evV ⟨r,yL r.rt,false⟩] w λe' w'=>∃ v ob,e'= .returned v/\(∃ y,v=hvV y/\y.sh=⟨x.name,x.sh.es++[⟨r.rt,yL r.rt,false⟩]⟩/\ShO y ob)/\Own [] w w' ob:=λh w hb=>by
  have hl:x.es.length<=64:=by have:=h.few;simpa [Hv.sh] using this
  have:=sWith_any x x.es.length ⟨r,yL r.rt,false⟩ w (hx.on hb hb.size) (hr.on hb hb.size) (Nat.le_refl _) Om
  rw [List.take_of_length_le (by simp),List.drop_eq_nil_of_le (by simp)] at this;exact this
 obtain ⟨p,hp⟩:∃ p,dB x.sh r.rt=p:=⟨_,rfl⟩
 have hl0:x.sh.es.length=x.es.length:=by simp [Hv.sh]
 rw [hp]
 unfold dB at hp
 rw [hl0] at hp
 have hout:∀ (z:Int) (w:World),p=(nilSh,z)->Own [] W w []→∃ v ob,Ending.returned (.tuple #[hvV hv0,YI z])= .returned v/\(∃ y,v= .tuple #[hvV y,YI p.2]/\y.sh=p.1/\ShO y ob)/\Own [] W w ob:=λz w e hO=>⟨_,[],rfl,⟨hv0,by rw [e],by rw [e];rfl,hv0_o⟩,hO⟩
 refine zD Tryz.func19 (zY [] λb2=>zY [] λb3=>zH [] λb4=>z7 (v:= .bool (decide (x3 x.sh))) [2] (λw hO=>cM w hO.below) (fI 9 (x3 x.sh) (λhm=> ?_) (λhm=> ?_)))
 rotate_left
 ·exact gG [0] 0 (hvV hv0) (YI 1) λw hO=>hout 1 w (by rw [←hp,if_neg hm]) hO.no
 rw [if_pos hm] at hp
 refine z7 (v:= .tuple #[.int .u64 (yL r.rt),YI (zK r.rt).1]) [1] (λw hO=>cS w hO.below) (gE 19 [] ((zK r.rt).1=0) (λhc=> ?_) (λhc=> ?_))
 rotate_left
 ·exact gG [0] 0 (hvV hv0) (YI (zK r.rt).1) λw hO=>hout _ w (by rw [←hp,if_neg hc]) hO.no
 rw [if_pos hc] at hp
 have hge:=place_ge x.sh.es r.name r.ver
 have hcP:=cP hm
 have hpz:∀ z,y8 x.sh.es r.name r.ver=z->(if z= -1 then if x.es.length=64 then (nilSh,10) else ((⟨x.sh.name,x.sh.es++[⟨r.rt,yL r.rt,false⟩]⟩:Sh),(0:Int)) else (nilSh,8))=p:=λz e=>e▸hp
 generalize y8 x.sh.es r.name r.ver=z at hge hcP hpz
 have hpz:=hpz z rfl
 refine z7 (v:=YI z) [2,1,1] (λw hO=>hcP w hO.below) (zG 30 [] (z>=0) (λh30=> ?_) (λh30=> ?_))
 ·exact gG [0] 0 (hvV hv0) (YI 8) λw hO=>hout _ w (by rw [←hpz,if_neg Om]) hO.no
 rw [if_pos Om] at hpz
 refine zG 36 [2] ((x.es.length:Int)=64) (λh36=> ?_) (λh36=> ?_)
 ·exact gG [0] 0 (hvV hv0) (YI 10) λw hO=>hout _ w (by rw [←hpz,if_pos Om]) hO.no
 rw [if_neg Om] at hpz
 refine yB (R:=λv ob=>∃ y,v=hvV y/\y.sh=⟨x.name,x.sh.es++[⟨r.rt,yL r.rt,false⟩]⟩/\ShO y ob) [2,2,1] (λw hO=>cW hm w hO.below) ?_
 rintro _ ob ⟨y,rfl,hy,hyo⟩
 exact gG [0] 0 (hvV y) (YI 0) λw hO=>⟨_,ob,rfl,⟨y,by rw [←hpz],by rw [←hpz];exact hy,hyo⟩,hO.past 3 ob⟩
def Ev.rcT (e:Ev):Rt:=e.rec'.rt
end
section
set_option linter.unnecessarySimpa false
def vC:YL:=[115,104,101,108,102]
def wEnt:YL:=[101,110,116,114,121]
def wOff:YL:=[111,102,102]
def wOn:YL:=[111,110]
def onW (b:Bool):YL:=if b then wOff else wOn
def bK (d:YL)(y:Bool):YL:=zE 32 [wEnt,d,onW y]
def kL (e:Et):List YL:=bK (yD (g7 e)) e.yk::kJ e.rc
def vT (e:Et):YL:=(bK (yD (g7 e)) e.yk++[10])++yK e.rc
def shH (n:YL):YL:=zE 32 [vC,n]
def shT (s:Sh):YL:=(shH s.name++[10])++s.es.flatMap vT
theorem entLs_text (e:Et):unL (kL e)=vT e:=by unfold kL vT;rw [qB,vY]
theorem shT_is (s:Sh):shT s=unL (shH s.name::s.es.flatMap kL):=by
 unfold shT;rw [qB,unL_fm,show (λx=>unL (kL x))=vT from funext entLs_text]
def gF:YL->YL->List YL
 |p,[]=>if p=[] then [] else [p]
 |p,c::r=>if c=10 then (p++[10])::gF [] r else gF (p++[c]) r
theorem lnsP_run:∀ (x p s:YL),(10:UInt8)∉x->gF p (x++s)=gF (p++x) s
 | [],p,s,_=>by simp
 |c::x,p,s,h=>by
  rw [List.cons_append,gF,if_neg λe=>h (by rw [e];exact List.mem_cons_self ..),lnsP_run x (p++[c]) s λq=>h (List.mem_cons_of_mem _ q),List.append_assoc];rfl
theorem n8:∀ (l:List YL) (t:YL),(∀ x∈l,(10:UInt8)∉x)->gF [] (unL l++t)=l.map (·++[10])++gF [] t
 | [],t,_=>rfl
 |x::l,t,h=>by
  rw [qB,List.append_assoc,List.append_assoc,lnsP_run x [] _ (h x (List.mem_cons_self ..))]
  show gF x (10::(unL l++t))=_
  rw [gF,if_pos rfl,n8 l t λy hy=>h y (List.mem_cons_of_mem _ hy)];rfl
def endP (p:YL):Bool:=decide (p.getLast?=some 10)
def jZ (p:YL):YL:=if endP p then p.dropLast else p
def x5 (p:YL):List YL:=if endP p then zA 32 [] p.dropLast else []
theorem endP_nl (x:YL):endP (x++[10])=true:=by simp [endP]
theorem bodyP_nl (x:YL):jZ (x++[10])=x:=by simp [jZ,endP_nl]
theorem wordsP_nl (x:YL):x5 (x++[10])=zA 32 [] x:=by simp [x5,endP_nl]
def wL (p:YL):Bool:=decide ((zA 32 [] (jZ p)).getD 0 []=wEnt)
def wM (p:YL):Option (UInt64×Bool):=
 if (x5 p).length=3/\(x5 p).getD 0 []=wEnt/\((x5 p).getD 2 []=wOff\/(x5 p).getD 2 []=wOn)/\jO ((x5 p).getD 1 [])=true then some (vK ((x5 p).getD 1 []),decide ((x5 p).getD 2 []=wOff)) else none
def dS (p:YL):Option YL:=
 if (x5 p).length=2/\(x5 p).getD 0 []=vC/\nmL ((x5 p).getD 1 [])=true then some ((x5 p).getD 1 []) else none
def nilE:Et:=⟨bJ,0,false⟩
def dN (p b:YL):Int×Et:=match wM p with
 |none=>(2,nilE)
 |some x=>if (qC b).2.1≠0 then ((qC b).2.1,nilE) else if yL (qC b).1≠(x.1.toNat:Int) then (13,nilE) else (0,⟨(qC b).1,(x.1.toNat:Int),x.2⟩)
def pF (l:List Et)(x:Et):Int:=if y8 l x.rc.name x.rc.ver≠ -1 then 8 else if l.length=64 then 10 else 0
def ext:List YL->Nat
 | []=>0
 |p::r=>if wL p then 0 else ext r+1
def vN:Nat->List YL->Nat->List Et->List Et×Int×Nat
 |0,_,k,l=>(l,0,k)
 |_+1,[],k,l=>(l,0,k)
 |f+1,p::r,k,l=>
  if (dN p (r.take (ext r)).flatten).1≠0 then (l,(dN p (r.take (ext r)).flatten).1,k)
  else if pF l (dN p (r.take (ext r)).flatten).2≠0 then (l,pF l (dN p (r.take (ext r)).flatten).2,k)
  else vN f (r.drop (ext r)) (k+(ext r+1)) (l++[(dN p (r.take (ext r)).flatten).2])
def outI (n:YL)(x:List Et×Int×Nat):Sh×Int×Int:=if x.2.1≠0 then (nilSh,x.2.1,(x.2.2:Int)+2) else (⟨n,x.1⟩,0,0)
def readL:List YL->Sh×Int×Int
 | []=>(nilSh,2,1)
 |p::r=>match dS p with
  |none=>(nilSh,2,1)
  |some n=>outI n (vN r.length r 0 [])
theorem readL_some {p n:YL}{r:List YL}(h:dS p=some n):readL (p::r)=outI n (vN r.length r 0 []):=by rw [readL,h]
def jS (s:YL):Sh×Int×Int:=if 524288<s.length then (nilSh,3,0) else readL (gF [] s)
theorem words_last (b:UInt8)(w:List YL)(t:YL)(hw:∀ x∈w,b∉x)(ht:b∉t):zA b [] (zE b (w++[t]))=w++[t]:=by
 rw [pV b t w hw,yX,pB b t ht];simp
theorem tH {b:UInt8}(h:pP b=none)(n k:Nat):b∉hexT n k:=λq=>by
 obtain ⟨i,_,rfl⟩:=List.mem_map.1 q
 rw [hexV_D (Nat.mod_lt _ (by decide))] at h;cases h
theorem on_free (y:Bool):(32:UInt8)∉onW y/\(10:UInt8)∉onW y:=by cases y<;>decide
theorem onW_is (y:Bool):(onW y=wOff\/onW y=wOn)/\decide (onW y=wOff)=y:=by cases y<;>decide
theorem head_words {d:YL}(hd:(32:UInt8)∉d)(y:Bool):x5 (bK d y++[10])=[wEnt,d,onW y]:=by
 rw [wordsP_nl]
 exact words_last 32 [wEnt,d] (onW y) (λx hx=>by
  rcases List.mem_cons.1 hx with rfl|hx
  ·decide
  ·rw [List.mem_singleton.1 hx];exact hd) (on_free y).1
theorem head_ent {d:YL}(hd:(32:UInt8)∉d)(hr:jO d=true)(y:Bool):wM (bK d y++[10])=some (vK d,y):=by
 unfold wM
 rw [head_words hd y,if_pos ⟨rfl,rfl,(onW_is y).1,hr⟩]
 exact congrArg some (Prod.ext rfl (onW_is y).2)
theorem text_head (n:UInt64)(y:Bool):wM (bK (yD n) y++[10])=some (n,y):=by
 have h:=read_text n
 have hr:jO (yD n)=true:=by unfold jO;rw [h];rfl
 rw [head_ent (d:=yD n) (tH (by decide) _ _) hr]
 refine congrArg some (Prod.ext ?_ rfl)
 show vK (yD n)=n
 unfold vK;rw [h]
 exact UInt64.ofNat_toNat
theorem ent_is {d:YL}(y:Bool):wL (bK d y++[10])=true:=by
 unfold wL
 rw [bodyP_nl,show bK d y=wEnt++32::zE 32 [d,onW y] from rfl,yX,bY 32 _ _ (by decide)]
 rfl
theorem tZ (w s:YL)(h1:(32:UInt8)∉w)(h2:w≠wEnt):wL ((w++32::s)++[10])=false:=by
 unfold wL
 rw [bodyP_nl,yX,bY 32 _ _ h1]
 simpa using h2
theorem when_no (s:YL):∀ x∈pR s,wL (x++[10])=false:=λx hx=>by
 unfold pR at hx
 split at hx
 ·cases hx
 ·rw [List.mem_singleton.1 hx];exact tZ kR _ (by decide) (by decide)
theorem rec_no (r:Rt):∀ x∈kJ r,wL (x++[10])=false:=λx hx=>by
 rcases List.mem_cons.1 hx with rfl|hx
 ·exact tZ jL _ (by decide) (by decide)
 rcases List.mem_append.1 hx with hx|hx
 ·rcases List.mem_append.1 hx with hx|hx
  ·obtain ⟨n,_,hx⟩:=List.mem_flatMap.1 hx
   rcases List.mem_cons.1 hx with rfl|hx
   ·decide
   rcases List.mem_append.1 hx with hx|hx
   ·rcases List.mem_append.1 hx with hx|hx
    ·obtain ⟨w,_,rfl⟩:=List.mem_map.1 hx
     exact tZ bG _ (by decide) (by decide)
    ·exact when_no _ x hx
   ·unfold optnL at hx
    split at hx
    ·cases hx
    ·rw [List.mem_singleton.1 hx];exact tZ dL _ (by decide) (by decide)
  ·obtain ⟨b,_,hx⟩:=List.mem_flatMap.1 hx
   rcases List.mem_cons.1 hx with rfl|hx
   ·exact tZ wN _ (by decide) (by decide)
   ·exact when_no _ x hx
 ·obtain ⟨f,_,rfl⟩:=List.mem_map.1 hx
  exact tZ yE _ (by decide) (by decide)
theorem ext_app:∀ (l R:List YL),(∀ x∈l,wL x=false)->(∀ p∈R.head?,wL p=true)->ext (l++R)=l.length
 | [],[],_,_=>rfl
 | [],p::R,_,h=>if_pos (h p rfl)
 |x::l,R,h,hR=>by
  rw [List.cons_append,ext,h x (List.mem_cons_self ..),if_neg Bool.false_ne_true,ext_app l R (λy hy=>h y (List.mem_cons_of_mem _ hy)) hR];rfl
abbrev nlL (l:List YL):List YL:=l.map (·++[10])
theorem nl_flat (l:List YL):(nlL l).flatten=unL l:=rfl
theorem ext_rec (r:Rt){R:List YL}(hR:∀ p∈R.head?,wL p=true):ext (nlL (kJ r)++R)=(kJ r).length/\(nlL (kJ r)++R).take (kJ r).length=nlL (kJ r)/\(nlL (kJ r)++R).drop (kJ r).length=R:=by
 have hl:(nlL (kJ r)).length=(kJ r).length:=List.length_map ..
 refine ⟨?_,by rw [←hl,List.take_left],by rw [←hl,List.drop_left]⟩
 rw [ext_app _ _ (λx hx=>by obtain ⟨y,hy,rfl⟩:=List.mem_map.1 hx;exact rec_no r y hy) hR,hl]
theorem ent_back {e:Et}(h:okE e):dN (bK (yD (g7 e)) e.yk++[10]) (yK e.rc)=(0,e):=by
 unfold dN
 rw [text_head,read_back h.1]
 show (if (0:Int)≠0 then _ else if yL e.rc≠((g7 e).toNat:Int) then _ else _)=_
 rw [if_neg (by decide),if_neg (by rw [h.2,←sumU_ok h];exact λq=>q rfl),←sumU_ok h]
theorem read_ent {e:Et}(h:okE e)(f k:Nat)(l:List Et){R:List YL}(hR:∀ p∈R.head?,wL p=true):vN (f+1) (nlL (kL e)++R) k l=if pF l e≠0 then (l,pF l e,k) else vN f R (k+(kL e).length) (l++[e]):=by
 obtain ⟨h1,h2,h3⟩:=ext_rec e.rc hR
 show vN (f+1) ((bK (yD (g7 e)) e.yk++[10])::(nlL (kJ e.rc)++R)) k l=_
 rw [vN,h1,h2,h3,nl_flat,vY,ent_back h,if_neg (λq=>q rfl)];rfl
theorem addE_ok {l:List Et}{e:Et}(hp:y8 l e.rc.name e.rc.ver= -1)(hl:l.length<64):pF l e=0:=by
 unfold pF;rw [if_neg (λq=>q hp),if_neg Om]
theorem ents_head (es:List Et){R:List YL}(hR:∀ p∈R.head?,wL p=true):∀ p∈(nlL (es.flatMap kL)++R).head?,wL p=true:=by
 cases es with
 |nil=>exact hR
 |cons e es=>intro p hp;obtain rfl:=Option.some.inj hp;exact ent_is _
theorem read_ents {nm:YL}{R:List YL}(hR:∀ p∈R.head?,wL p=true):∀ (es done:List Et) (f k:Nat),x3 ⟨nm,done++es⟩->vN (es.length+f) (nlL (es.flatMap kL)++R) k done=vN f R (k+(es.flatMap kL).length) (done++es)
 | [],done,f,k,h=>by simp
 |e::es,done,f,k,h=>by
  have hp:y8 done e.rc.name e.rc.ver= -1:=place_none.2 λx hx=>(List.pairwise_append.1 h.apart).2.2 x hx e (List.mem_cons_self ..)
  have hl:done.length<64:=by have:=h.few;simp only [List.length_append,List.length_cons] at this;omega
  have hf:(e::es).length+f=(es.length+f)+1:=by simp only [List.length_cons];omega
  have hs:nlL ((e::es).flatMap kL)++R=nlL (kL e)++(nlL (es.flatMap kL)++R):=by simp [nlL]
  rw [hf,hs,read_ent (h.ok e (List.mem_append_right _ (List.mem_cons_self ..))) _ _ _ (ents_head es hR),addE_ok hp hl,if_neg (λq=>q rfl),read_ents hR es (done++[e]) f _ (by rw [List.append_assoc];exact h),List.append_assoc,List.flatMap_cons,List.length_append,Nat.add_assoc];rfl
theorem head_name {n:YL}(h:nmL n=true):dS (shH n++[10])=some n:=by
 have hw:x5 (shH n++[10])=[vC,n]:=by
  rw [wordsP_nl]
  exact words_last 32 [vC] n (λx hx=>by rw [List.mem_singleton.1 hx];decide) (pL h (by decide) (by decide) (by decide))
 unfold dS
 rw [hw]
 exact if_pos ⟨rfl,rfl,h⟩
theorem ent_free {e:Et}(h:okE e):∀ x∈kL e,(10:UInt8)∉x:=λx hx=>by
 rcases List.mem_cons.1 hx with rfl|hx
 ·exact qZ 10 32 (by decide) λy hy=>by
   simp only [List.mem_cons,List.not_mem_nil,or_false] at hy
   rcases hy with rfl|rfl|rfl
   ·decide
   ·exact tH (by decide) _ _
   ·exact (on_free _).2
 ·exact nX h.1 x hx
theorem sh_free {s:Sh}(h:x3 s):∀ x∈shH s.name::s.es.flatMap kL,(10:UInt8)∉x:=λx hx=>by
 rcases List.mem_cons.1 hx with rfl|hx
 ·exact qZ 10 32 (by decide) λy hy=>by
   simp only [List.mem_cons,List.not_mem_nil,or_false] at hy
   rcases hy with rfl|rfl
   ·decide
   ·exact pL h.name (by decide) (by decide) (by decide)
 ·obtain ⟨e,he,hx⟩:=List.mem_flatMap.1 hx
  exact ent_free (h.ok e he) x hx
theorem read_more {s:Sh}(h:x3 s)(t:YL)(hR:∀ p∈(gF [] t).head?,wL p=true)(hl:(shT s++t).length<=524288):
  ∃ f,(gF [] t).length<=f/\jS (shT s++t)=outI s.name (vN f (gF [] t) (s.es.flatMap kL).length s.es):=by
 have hlen:s.es.length<=(s.es.flatMap kL).length:=by
  generalize s.es=l
  induction l with
  |nil=>exact Nat.le_refl _
  |cons e l ih=>rw [List.flatMap_cons,List.length_append,List.length_cons];show l.length+1<=((kJ e.rc).length+1)+_;omega
 refine ⟨(s.es.flatMap kL).length-s.es.length+(gF [] t).length,by omega, ?_⟩
 have hfu:(nlL (s.es.flatMap kL)++gF [] t).length=s.es.length+((s.es.flatMap kL).length-s.es.length+(gF [] t).length):=by
  rw [List.length_append,List.length_map];omega
 have hk:=read_ents (nm:=s.name) hR s.es [] ((s.es.flatMap kL).length-s.es.length+(gF [] t).length) 0 h
 rw [Nat.zero_add,List.nil_append,←hfu] at hk
 unfold jS
 rw [if_neg Om,shT_is,n8 _ _ (sh_free h),List.map_cons,List.cons_append,readL_some (head_name h.name),hk]
theorem shelf_back {s:Sh}(h:x3 s)(hl:(shT s).length<=524288):jS (shT s)=(s,0,0):=by
 obtain ⟨f,_,e⟩:=read_more h [] (λp hp=>by cases hp) (by rw [List.append_nil];exact hl)
 rw [List.append_nil] at e
 have hz:vN f (gF [] []) (s.es.flatMap kL).length s.es=(s.es,0,(s.es.flatMap kL).length):=by cases f<;>rfl
 rw [e,hz];exact if_neg λq=>q rfl
theorem shelf_twice {s:Sh}(h:x3 s){e:Et}(he:e∈s.es)(hl:(shT s++vT e).length<=524288):jS (shT s++vT e)=(nilSh,8,((s.es.flatMap kL).length:Int)+2):=by
 have hok:=h.ok e he
 have ht:gF [] (vT e)=nlL (kL e):=by
  have:=n8 (kL e) [] (ent_free hok)
  rw [List.append_nil,entLs_text] at this
  rw [this];exact List.append_nil _
 obtain ⟨f,hf,q⟩:=read_more h (vT e) (λp hp=>by rw [ht] at hp;obtain rfl:=Option.some.inj hp;exact ent_is _) hl
 rw [ht] at q hf
 obtain ⟨g,rfl⟩:∃ g,f=g+1:=⟨f-1,by rw [List.length_map] at hf;have:(kL e).length=(kJ e.rc).length+1:=rfl;omega⟩
 have hadd:pF s.es e=8:=by
  refine if_pos λhp=> ?_
  have:=place_none.1 hp e he
  rw [hit_self hok.1] at this;cases this
 have hr:=read_ent hok g (s.es.flatMap kL).length s.es (R:=[]) (λp hp=>by cases hp)
 rw [List.append_nil,hadd,if_pos (by decide)] at hr
 rw [q,hr];exact if_pos (show (8:Int)≠0 by decide)
theorem shelf_sum {n:YL}{e:Et}(hn:nmL n=true)(h:okE e){d:YL}{m:Nat}(hd:bF d=some m)(hx:d≠yD (g7 e))(hl:(shH n++[10]++(bK d e.yk++[10]++yK e.rc)).length<=524288):jS (shH n++[10]++(bK d e.yk++[10]++yK e.rc))=(nilSh,13,2):=by
 obtain ⟨hm,hb⟩:=text_read hd
 have h32:(32:UInt8)∉d:=hb▸tH (by decide) _ _
 have h10:(10:UInt8)∉d:=hb▸tH (by decide) _ _
 have hT:shH n++[10]++(bK d e.yk++[10]++yK e.rc)=unL (shH n::bK d e.yk::kJ e.rc):=by rw [qB,qB,vY]
 have hE:dN (bK d e.yk++[10]) (yK e.rc)=(13,nilE):=by
  unfold dN
  rw [head_ent h32 (by unfold jO;rw [hd];rfl),read_back h.1]
  show (if (0:Int)≠0 then _ else if yL e.rc≠((vK d).toNat:Int) then _ else _)=_
  rw [if_neg (by decide),if_pos]
  rw [h.2,sumU_ok h]
  intro q
  have q2:(g7 e).toNat=(vK d).toNat:=by omega
  have q3:(vK d).toNat=m:=by
   unfold vK;rw [hd]
   show (UInt64.ofNat m).toNat=m
   rw [UInt64.toNat_ofNat'];exact Nat.mod_eq_of_lt hm
  exact hx (by unfold yD;rw [q2,q3,hb])
 have hfree:∀ x∈shH n::bK d e.yk::kJ e.rc,(10:UInt8)∉x:=λx hx=>by
  rcases List.mem_cons.1 hx with rfl|hx
  ·exact qZ 10 32 (by decide) λy hy=>by
    simp only [List.mem_cons,List.not_mem_nil,or_false] at hy
    rcases hy with rfl|rfl
    ·decide
    ·exact pL hn (by decide) (by decide) (by decide)
  rcases List.mem_cons.1 hx with rfl|hx
  ·exact qZ 10 32 (by decide) λy hy=>by
    simp only [List.mem_cons,List.not_mem_nil,or_false] at hy
    rcases hy with rfl|rfl|rfl
    ·decide
    ·exact h10
    ·exact (on_free _).2
  ·exact nX h.1 x hx
 have hlp:=n8 _ [] hfree
 rw [List.append_nil] at hlp
 obtain ⟨e1,e2,e3⟩:=ext_rec e.rc (R:=[]) (λp hp=>by cases hp)
 have hr:∀ g,vN (g+1) ((bK d e.yk++[10])::(nlL (kJ e.rc)++[])) 0 []=([],13,0):=λg=>by
  rw [vN,e1,e2,e3,nl_flat,vY,hE,if_pos (by decide)]
 unfold jS
 rw [if_neg Om,hT,hlp,List.map_cons,List.cons_append,readL_some (head_name hn),List.map_cons,List.cons_append,List.length_cons,show gF [] []=[] from rfl,hr]
 exact if_pos (by decide)
end
section
def BuS (b:Nat)(l:YL)(ob:List Blk):Prop:=
 ∃ p v g,ob=⟨b, #[p,v],75⟩::g/\(p= .pointer none\/p= .pointer (some ⟨b,0,none⟩))/\Sl 5 1 v l.length (Lib.byteCells l) g
theorem BuS.new (b:Nat):BuS b [] [⟨b, #[.pointer none,.slice none 0 0],75⟩]:=⟨_,_,[],rfl,.inl rfl,Sl.nil _ _⟩
theorem sizeBuS:(Tryz.prog.info? 75).map (·.size)=some 2:=by kernel_rfl
theorem liesBuS:liesAt YP Tryz.prog.depth 75 (2/Tryz.prog.cellsOf 75) 0 75 1=true:=by kernel_rfl
theorem copyCheck_newS (b:Nat)(w:World)(h0:w.cell? ⟨b,0,none⟩=some (.pointer none))(hsh:w.shape? b=some (75,2))(hfz:w.frozen? ⟨b,0,none⟩=false):
  YC 71 #[.pointer (some ⟨b,0,none⟩)] w λe w'=>e= .returned (.tuple #[])/\w'=w.setCell ⟨b,0,none⟩ (.pointer (some ⟨b,0,none⟩)):=by
 obtain ⟨j,hj,hjs⟩:=Option.map_eq_some_iff.1 sizeBuS
 go_enter Tryz.func71,Tryz.ntmps71
 go_wp2
 rw [Lib.run_to_unsafe w ⟨b,0,none⟩ Tryz.underlying73 Tryz.underlying154 hj (by rw [hjs];decide) hsh (Nat.zero_lt_succ 1)]
 simp only [Result.andThen]
 rw [Oper.upon_value]
 go_wp2
 rw [run_callFunc_extern Tryz.func110 Kr Kr Kr (e:=Extern.AbiNoEscape.same) Kr]
 rw [Lib.run_noEscape]
 simp only [Result.andThen]
 rw [Oper.upon_value]
 go_wp2
 rw [Lib.run_from_unsafe w ⟨b,0,none⟩ Tryz.underlying154 Tryz.underlying73 hj hsh liesBuS]
 simp only [Result.andThen]
 rw [Oper.upon_value]
 go_wp2
 go_end0
 exact ⟨rfl,rfl⟩
theorem bcheck_any (b:Nat)(p v:Value)(R:List Blk)(M:List Nat)(W w:World)(hp:p= .pointer none\/p= .pointer (some ⟨b,0,none⟩))(hO:Own M W w (⟨b, #[p,v],75⟩::R)):
  YC 71 #[.pointer (some ⟨b,0,none⟩)] w λe w'=>e= .returned (.tuple #[])/\Own M W w' (⟨b, #[.pointer (some ⟨b,0,none⟩),v],75⟩::R):=by
 have hb:w.heap[b]?=some (.cells #[p,v] 75 (0,0)):=hO.held ⟨b, #[p,v],75⟩ (List.mem_cons_self ..)
 have c0:w.cell? ⟨b,0,none⟩=some p:=by rw [Lib.cell_of_heap hb];rfl
 rcases hp with rfl|rfl
 ·refine (copyCheck_newS b w c0 (by simp [World.shape?,hb]) (Lib.frozen_of_heap hb 0)).mono λe w' ⟨he,hw⟩=>⟨he, ?_⟩
  rw [hw,setCell_eq_setRow w b 0 _ _ _ _ hb]
  exact hO.put (i:=0) (x:=⟨b, #[.pointer none,v],75⟩) rfl _
 ·exact (fW b w c0).mono λe w' ⟨he,hw⟩=>⟨he,hw▸hO⟩
theorem infoU8S:∃ i,Tryz.prog.info? 5=some i/\i.zero=some (.int .u8 0)/\i.size=1/\i.bytes=1:=info_parts infoByte
theorem buS_own {B b:Nat}{l:YL}{ob:List Blk}{M:List Nat}{W w:World}(hB:BuS b l ob)(hO:Own M W w ob)(hM:∀ x∈ob,B<=x.b):Lib.IsBuilder 75 5 B b (Lib.byteCells l) w:=by
 obtain ⟨p,v,g,rfl,hp,hv⟩:=hB
 have hb:w.heap[b]?=some (.cells #[p,v] 75 (0,0)):=hO.held ⟨b, #[p,v],75⟩ (List.mem_cons_self ..)
 have key:Lib.BuilderAt 75 5 B b p (Lib.byteCells l) w:=by
  refine ⟨hM ⟨b, #[p,v],75⟩ (List.mem_cons_self ..),v,hb, ?_, ?_⟩
  ·rw [Lib.byteCells_length]
   refine ⟨hv.1, ?_⟩
   rcases hv.2 with ⟨h1,h2,_⟩|⟨k,cap,cur,h1,rfl,h3,h4,h5,h6⟩
   ·exact .inl ⟨h1,h2⟩
   ·exact .inr ⟨k,cap,cur,h1,hM ⟨k,cur,5⟩ (by simp),hO.held ⟨k,cur,5⟩ (by simp),h3,h4,h5,h6⟩
  ·rcases hv.2 with ⟨rfl,_,_⟩|⟨k,cap,cur,rfl,rfl,_⟩
   ·simp [Value.ownBlock]
   ·intro e
    have hk:k=b:=by simpa [Value.ownBlock] using e
    have:=hO.apart
    simp [hk] at this
 rcases hp with rfl|rfl
 ·exact .inl key
 ·exact .inr key
theorem bstring_any0 (B b:Nat)(l:YL)(w:World)(h:Lib.IsBuilder 75 5 B b (Lib.byteCells l) w)(h0:l≠[]):
  YC 39 #[.pointer (some ⟨b,0,none⟩)] w λe w'=>e= .returned (.string ⟨l.toArray⟩)/\Below B w w':=by
 obtain ⟨p,hB,v,hbk,hown,hne⟩:∃ p,Lib.BuilderAt 75 5 B b p (Lib.byteCells l) w:=h.elim (λq=>⟨_,q⟩) (λq=>⟨_,q⟩)
 rcases hown.2 with ⟨_,hz⟩|⟨g,cap,cur,rfl,hbg,hg,hnc,hcm,hcs,htake⟩
 ·exact absurd hz (pC h0)
 rw [Lib.byteCells_length] at hown hnc hbk htake
 have hl0:l.length≠0:=λe=>h0 (List.eq_nil_of_length_eq_zero e)
 have hg':w.drew.heap[g]?=some (.cells cur 5 (0,0)):=hg
 have c1:w.drew.cell? ⟨b,1,none⟩=some (.slice (some ⟨g,0,none⟩) l.length cap):=by
  rw [Lib.cell_of_heap (show w.drew.heap[b]?=_ from hbk)];rfl
 have hSD:=Lib.run_unsafeSliceData_row (P:=YP) w.drew #[36] 122 ⟨g,0,none⟩ l.length cap Om
 have hUS:=Lib.run_unsafeString_row (P:=YP) w.drew 122 3 9 5 Tryz.underlying122 Kr g cur.size (by unfold World.shape?;rw [hg']) l h0 Om (by unfold maxLen at hcm;omega)
  (λj x hx=>hown.cells (g:=g) rfl j (.int .u8 x.toNat) (by simp [Lib.byteCells,hx]))
 go_enter Tryz.func39,Tryz.ntmps39
 go_wp2
 have mixed:Tryz.prog.follows .mixedOrders=true:=by kernel_rfl
 go_region_o
 all_goals
  go_wp2
  go_ret
  have hf:=Lib.below_freeze (Go.RowKit.Below.drew (Go.RowKit.Below.refl B w)) (p:=⟨g,0,none⟩) hbg l.length
  exact ⟨rfl,hf.os,hf.tape,hf.output,hf.size,by rw [p7];exact Nat.le_succ _,hf.block⟩
theorem bstring_any (b:Nat)(l:YL)(ob:List Blk)(W w:World)(hB:BuS b l ob)(hO:Own [] W w ob)(h0:l≠[]):
  YC 39 #[.pointer (some ⟨b,0,none⟩)] w λe w'=>e= .returned (.string (mkS l))/\Own [] W w' []:=
 (bstring_any0 W.heap.size b l w (buS_own hB hO λx hx=>(hO.base x hx).elim id λq=>by simp at q) h0).mono λe w' ⟨he,hb⟩=>by
  have hb2:=hO.below.trans hb
  exact ⟨he,hb2.os,hb2.tape,hb2.output,hb2.size,hb2.drawn,λk hk _=>hb2.block k hk,by simp,by simp,by simp⟩
theorem bWrite_any (b:Nat)(l:YL)(s:YL)(ob:List Blk)(W:World)(hB:BuS b l ob)(hO:Own (ob.map Blk.b) W W ob)(hl:l.length<=1000000000000)(hs:s.length<=1000000000000):
  YC 35 #[.pointer (some ⟨b,0,none⟩),.string (mkS s)] W λe w'=>∃ ob',e= .returned (.tuple #[YI ((mkS s).size:Int),.nilIface])/\BuS b (l++s) ob'/\Own (ob.map Blk.b) W w' ob':=by
 obtain ⟨p,v,g,rfl,hp,hv⟩:=hB
 obtain ⟨A,cap,rfl⟩:=Sl.form hv
 have hsz:=y7 s
 refine calls_okL (n:=19) hO Tryz.func35 rfl Kr Kr (ZO (Zv (YI 0) (Zv (.nilIface) (ZR (Zv (Zp b 0) (Zr (k:=71) (args:= #[Zp b 0]) (λv' L'=>v'= .tuple #[]/\L'=⟨b, #[Zp b 0,.slice A l.length cap],75⟩::g) (λw hO=>(bcheck_any b p _ _ _ _ w hp hO).mono λe w' ⟨k1,k2⟩=>⟨_,_,k1,⟨rfl,rfl⟩,k2⟩) (λv0 L0 hv0=> ?_)))))))
 obtain ⟨rfl,rfl⟩:=hv0
 refine ZR (Zv (Zp b 0) (Zv (Zp b 0) (Zv (Zp b 0) (Zv (Zp b 1) (Zl 0 ⟨b, #[Zp b 0,.slice A l.length cap],75⟩ (off:=1) (.slice A l.length cap) (Zv (.string (mkS s)) ?_))))))
 obtain ⟨i0,e1,e2,e3,e4⟩:=infoU8S
 refine s_cast (L':=[⟨b, #[Zp b 0,.slice A l.length cap],75⟩]++g++[]) (by simp) (s_appstr Kr rfl Tryz.underlying36 Tryz.underlying9 e1 e2 e3 e4 Kr hv (s:=mkS s) Kr (by rw [hsz];unfold maxLen;omega) (by rw [hsz];omega) (λv2 g2 hv2=> ?_))
 have hv3:Sl 5 1 v2 (l++s).length (Lib.byteCells (l++s)) g2:=by rw [List.length_append,Lib.byteCells_append];rw [hsz,vW] at hv2;exact hv2
 obtain ⟨A2,cap2,rfl⟩:=Sl.form hv3
 refine s_cast (L':=⟨b, #[Zp b 0,.slice A l.length cap],75⟩::(g2)) (by simp) (Zv (Zp b 0) (Zv (Zp b 1) (Zs 0 ⟨b, #[Zp b 0,.slice A l.length cap],75⟩ (off:=1) (.slice A2 ((l++s).length) cap2) (ZR (Zv (.string (mkS s)) (Zv (YI ((mkS s).size)) (Zv (YI ((mkS s).size)) (Zv (.nilIface) ?_))))))))
 exact ZN (qX (ZG (YI ((mkS s).size)) (.nilIface) Tryz.results35 (λw hO=>⟨_,rfl,⟨_,_,g2,rfl,.inr rfl,hv3⟩,hO⟩)))
end
section
set_option linter.unnecessarySimpa false
theorem ln_any (v:Value)(ws:List YL)(W:World)(hv:ReadsT W W.heap.size v ws)(hl:(zE 32 ws).length<=400000000)(hn:ws.length<=1000000)(hne:zE 32 ws≠[]):YC 36 #[v] W (YR (.string (mkS (zE 32 ws++[10]))) W):=by
 refine zD Tryz.func36 (z7 (v:= .string (mkS (zE 32 ws))) [] (λw hO=>dD v ws 32 w ((hv.below hO.below).more hO.below.size) Om Om hne) (gD 5 [] (zE 32 ws) [10] (z8 [] (.string (mkS (zE 32 ws++[10]))) λw hO=>⟨rfl,hO.below⟩)))
theorem tM (b:Nat)(l s:YL)(R ob:List Blk){M:List Nat}{W:World}(hB:BuS b l ob)(hl:l.length<=1000000000000)(hs:s.length<=1000000000000):∀ w,Own M W w (R++ob)->YC 35 #[.pointer (some ⟨b,0,none⟩),.string (mkS s)] w λe w'=>∃ v ob',e= .returned v/\BuS b (l++s) ob'/\Own (ob.map Blk.b) w w' ob':=
 λw hO=>(bWrite_any b l s ob w hB (Own.lentR hO) hl hs).mono λe w' ⟨ob',k1,k2,k3⟩=>⟨_,ob',k1,k2,k3⟩
theorem entT_len {e:Et}(h:okE e):(vT e).length<=5000:=by
 have hr:=(yS h.1).2.2.2.2.2
 have h1:(bK (yD (g7 e)) e.yk).length<=30:=by
  have h16:(yD (g7 e)).length=16:=bE _ _
  have hw:(onW e.yk).length<=3:=by cases e.yk<;>decide
  have h5:wEnt.length=5:=rfl
  show (zE 32 [wEnt,yD (g7 e),onW e.yk]).length<=30
  simp only [zE,List.length_append,List.length_cons,List.length_nil]
  omega
 unfold vT
 simp only [List.length_append,List.length_cons,List.length_nil]
 omega
theorem ents_len {es:List Et}(h:∀ e∈es,okE e):(es.flatMap vT).length<=es.length*5000:=by
 induction es with
 |nil=>simp
 |cons e es ih=>
  rw [List.flatMap_cons,List.length_append,List.length_cons]
  have h1:=entT_len (h e (List.mem_cons_self ..))
  have h2:=ih λx hx=>h x (List.mem_cons_of_mem _ hx)
  omega
theorem j6 (x:Hv)(W:World)(hx:ShIn W W.heap.size x)(hK:RecLib W):YC 13 #[hvV x] W (YR (.tuple #[.string (mkS (if x3 x.sh then shT x.sh else [])),YI (if x3 x.sh then 0 else 1)]) W):=by
 have cM:∀ w,YB W w->YC 34 #[hvV x] w (YR (.bool (decide (x3 x.sh))) w):=λw hb=>sMay_any x w (hx.on hb hb.size) (hK.on hb)
 refine zD Tryz.func13 (zY [] λb1=>z7 (v:= .bool (decide (x3 x.sh))) [0] (λw hO=>cM w hO.below) (fI 11 (x3 x.sh) (λhM=> ?_) (λhM=> ?_)))
 rotate_left
 ·exact yP [] (.string ⟨#[]⟩) (YI 1) λw hO=>⟨by rw [if_neg hM,if_neg hM];rfl,hO.below⟩
 rw [if_pos hM,if_pos hM]
 have hxl:x.sh.es.length=x.es.length:=by simp [Hv.sh]
 have hn64:x.es.length<=64:=hxl▸hM.few
 have hnm:=bB hM.name
 have hok:∀ e∈x.es,okE e.et:=λe he=>hM.ok e.et (List.mem_map_of_mem he)
 have hnm':x.name.length<=16:=hnm
 have hhl:(shH x.name).length=6+x.name.length:=by
  show (zE 32 [vC,x.name]).length=_
  simp only [zE,vC,List.length_append,List.length_cons,List.length_nil];omega
 have hT:shT x.sh=(shH x.name++[10])++x.es.flatMap (λe=>vT e.et):=by
  show (shH x.name++[10])++(x.es.map Ev.et).flatMap vT=_
  rw [List.flatMap_map]
 have hbd:∀ i,((x.es.take i).flatMap (λe=>vT e.et)).length<=320000:=λi=>by
  have h1:=ents_len (es:=(x.es.take i).map Ev.et) (λe he=>by
   obtain ⟨u,hu,rfl⟩:=List.mem_map.1 he
   exact hok u (List.mem_of_mem_take hu))
  rw [List.flatMap_map,List.length_map,List.length_take] at h1
  have:min i x.es.length<=64:=by omega
  have h2:min i x.es.length*5000<=64*5000:=Nat.mul_le_mul_right _ this
  exact Nat.le_trans h1 h2
 refine zH [] λb4=>vL [1] 2 9 #[.string (mkS vC),.string (mkS x.name)] λg=>(z7 (v:= .string (mkS (shH x.name++[10]))) [] (λw hO=>ln_any _ [vC,x.name] w ((qlit g 2 #[.string (mkS vC),.string (mkS x.name)] [vC,x.name] rfl rfl (by decide)).readsT (hO.nth 0 ⟨g, #[.string (mkS vC),.string (mkS x.name)],9⟩) λy hy=>hy) (by show (shH x.name).length<=_;omega) (by simp) (by simp [zE,vC])) (kW (k:=35) (args:= #[Zp b4 0,.string (mkS (shH x.name++[10]))]) (Rr:=λ_ ob'=>BuS b4 ([]++(shH x.name++[10])) ob') [] [⟨g, #[.string (mkS vC),.string (mkS x.name)],9⟩,⟨b4, #[.pointer none,.slice none 0 0],75⟩,hvB b1 x] [⟨g, #[.string (mkS vC),.string (mkS x.name)],9⟩,hvB b1 x] [⟨b4, #[.pointer none,.slice none 0 0],75⟩] (λw hO=>hO.perm (List.Perm.cons _ (List.Perm.swap ..))) (tM b4 [] (shH x.name++[10]) [⟨g, #[.string (mkS vC),.string (mkS x.name)],9⟩,hvB b1 x] [⟨b4, #[.pointer none,.slice none 0 0],75⟩] (BuS.new b4) (by decide) (by simp only [List.length_append,List.length_cons,List.length_nil];omega)) λv1 o1 h1=> ?_))
 rw [List.nil_append] at h1
 have hfl:(shH x.name++[10]).length<=30:=by simp only [List.length_append,List.length_cons,List.length_nil];omega
 have hfn:shH x.name++[10]≠[]:=by simp
 generalize shH x.name++[10]=front at*
 refine zQ [1] (hvB b1 x::o1) (λw hO=>hO.past 1 _) (zT (α:=Nat×List Blk) (λy=>[(4,Zp b4 0),(19,.slice x.A x.es.length x.cap),(20,YI (x.es.length:Int)),(21,YI (y.1:Int))]) (λy=>hvB b1 x::y.2) (λy m=>(y.1<=x.es.length/\BuS b4 (front++(x.es.take y.1).flatMap (λe=>vT e.et)) y.2)/\m=x.es.length-y.1) (0,o1) x.es.length [] ⟨⟨Nat.zero_le _,by simp only [List.take_zero,List.flatMap_nil,List.append_nil];exact h1⟩,rfl⟩ ?_)
 clear h1
 rintro ⟨i,o⟩ mm gg kk ⟨⟨hi,ho⟩,hmm⟩ nx hkk
 subst hkk
 replace hi:i<=x.es.length:=hi
 replace ho:BuS b4 (front++(x.es.take i).flatMap (λe=>vT e.et)) o:=ho
 refine zG 22 [] ((i:Int)<(x.es.length:Int)) (λh22=> ?_) (λh22=> ?_)
 rotate_left
 ·rw [List.take_of_length_le (show x.es.length<=i by omega),←hT] at ho
  refine x_callO [] (hvB b1 x::o) (Rr:=λv L'=>v= .string (mkS (shT x.sh))/\L'=[]) (λw hO=>(bstring_any b4 (shT x.sh) o W w ho (hO.past 1 _) (by rw [hT];simp [hfn])).mono λe w' ⟨q1,q2⟩=>⟨_,[],q1,⟨rfl,rfl⟩,q2⟩) λv4 L4 ⟨q1,q2⟩=> ?_
  subst q1;subst q2
  exact yP [] (.string (mkS (shT x.sh))) (YI 0) λw hO=>⟨rfl,hO.below⟩
 have hj:i<x.es.length:=by omega
 obtain ⟨eb,eo,hA,hel⟩:=hx.es.top.elem vJ i hj
 have hel0:∀ w,YB W w->(loadVar 69 ⟨eb,eo+i*11+0,none⟩).run YP w= .ok (evV x.es[i]) w:=λw hw=>hel w hw _ 0 _ Kr
 have hR:=hx.es.each _ (List.getElem_mem hj)
 have hku:=hok _ (List.getElem_mem hj)
 have hst:=jI (λe:Ev=>vT e.et) hj
 have hw2:front++(x.es.take i).flatMap (λe=>vT e.et)++((bK (yD (g7 x.es[i].et)) x.es[i].yk++[10])++yK x.es[i].rec'.rt)=front++(x.es.take (i+1)).flatMap (λe=>vT e.et):=by rw [hst,List.append_assoc];rfl
 have hdl:=hbd i
 have hel2:=entT_len hku
 generalize x.es[i]=u at*
 have hdl2:(front++(x.es.take i).flatMap (λe=>vT e.et)).length<=330000:=by rw [List.length_append];omega
 generalize front++(x.es.take i).flatMap (λe=>vT e.et)=done at*
 have hus:=sumU_ok hku
 have hus':u.sum=((g7 u.et).toNat:Int):=hus
 have cT:∀ w,YC 37 #[.int .u64 u.sum] w (YR (.string (mkS (yD (g7 u.et)))) w):=λw=>by rw [hus'];exact d9Text_any _ w
 have cP:∀ w,YB W w->YC 38 #[rvV u.rec'] w (YR (.tuple #[.string (mkS (yK u.rec'.rt)),YI 0]) w):=λw hb=>by
  have h:=qPrint_any u.rec' w (hR.on hb hb.size) (hK.on hb)
  rw [show bS u.rec'.rt=yK u.rec'.rt from if_pos hku.1,show (zK u.rec'.rt).1=0 from hku.1] at h;exact h
 have hel3:(bK (yD (g7 u.et)) u.yk++[10]).length+(yK u.rec'.rt).length<=5000:=by
  have e:vT u.et=(bK (yD (g7 u.et)) u.yk++[10])++yK u.rec'.rt:=rfl
  rw [e,List.length_append] at hel2;exact hel2
 have hjl:(zE 32 [wEnt,yD (g7 u.et),onW u.yk]).length<=5000:=by
  have e:zE 32 [wEnt,yD (g7 u.et),onW u.yk]=bK (yD (g7 u.et)) u.yk:=rfl
  rw [e];rw [List.length_append] at hel3;omega
 have hjn:zE 32 [wEnt,yD (g7 u.et),onW u.yk]≠[]:=by simp [zE,wEnt]
 have hjt:zE 32 [wEnt,yD (g7 u.et),onW u.yk]++[10]=bK (yD (g7 u.et)) u.yk++[10]:=rfl
 generalize yK u.rec'.rt=rt at*
 generalize yD (g7 u.et)=dt at*
 refine zL 23 [] hA x.es.length x.cap i 11 hj (zI 24 [] 69 eb (eo+i*11+0) (evV u) (λw hO=>hel0 w hO.below) (zH [] λb6=>nP 26 [0,0] u.yk (λhy=> ?_) (λhy=> ?_)))
 ·refine xY 7 [0] (.string ⟨#[111,102,102]⟩) (.string (mkS (onW u.yk))) (by rw [hy];rfl) (z7 (v:= .string (mkS dt)) [0] (λw hO=>cT w) (vL [] 3 9 #[.string (mkS wEnt),.string (mkS dt),.string (mkS (onW u.yk))] λg2=> ?_))
  refine z7 (v:= .string (mkS (zE 32 [wEnt,dt,onW u.yk]++[10]))) [] (λw hO=>ln_any _ [wEnt,dt,onW u.yk] w ((qlit g2 3 #[.string (mkS wEnt),.string (mkS dt),.string (mkS (onW u.yk))] [wEnt,dt,onW u.yk] rfl rfl (by decide)).readsT (hO.nth 0 ⟨g2, #[.string (mkS wEnt),.string (mkS dt),.string (mkS (onW u.yk))],9⟩) λy hy=>hy) Om (by simp) hjn) (kW (k:=35) (args:= #[Zp b4 0,.string (mkS (zE 32 [wEnt,dt,onW u.yk]++[10]))]) (Rr:=λ_ ob'=>BuS b4 (done++(zE 32 [wEnt,dt,onW u.yk]++[10])) ob') [] ([⟨g2, #[.string (mkS wEnt),.string (mkS dt),.string (mkS (onW u.yk))],9⟩,evB b6 u,hvB b1 x]++o) [⟨g2, #[.string (mkS wEnt),.string (mkS dt),.string (mkS (onW u.yk))],9⟩,evB b6 u,hvB b1 x] o (λw hO=>hO) (tM b4 done (zE 32 [wEnt,dt,onW u.yk]++[10]) _ o ho Om (by rw [hjt];omega)) λv2 o2 q1=>(z7 (v:= .tuple #[.string (mkS rt),YI 0]) [1] (λw hO=>cP w hO.below) (kW (k:=35) (args:= #[Zp b4 0,.string (mkS rt)]) (Rr:=λ_ ob'=>BuS b4 (done++(zE 32 [wEnt,dt,onW u.yk]++[10])++rt) ob') [] ([⟨g2, #[.string (mkS wEnt),.string (mkS dt),.string (mkS (onW u.yk))],9⟩,evB b6 u,hvB b1 x]++o2) [⟨g2, #[.string (mkS wEnt),.string (mkS dt),.string (mkS (onW u.yk))],9⟩,evB b6 u,hvB b1 x] o2 (λw hO=>hO) (tM b4 (done++(zE 32 [wEnt,dt,onW u.yk]++[10])) rt _ o2 q1 (by rw [List.length_append,hjt];omega) Om) λv3 o3 q2=> ?_)))
  rw [List.append_assoc,hjt,hw2] at q2
  exact x_i 21 [] ((i+1:Nat):Int) (zQ [] (hvB b1 x::o3) (λw hO=>hO.past 2 _) (nx (i+1,o3) (x.es.length-(i+1)) [] Om ⟨⟨hj,q2⟩,rfl⟩ Kr Kr))
 ·refine xY 7 [0] (.string ⟨#[111,110]⟩) (.string (mkS (onW u.yk))) (by rw [hy];rfl) (z7 (v:= .string (mkS dt)) [0] (λw hO=>cT w) (vL [] 3 9 #[.string (mkS wEnt),.string (mkS dt),.string (mkS (onW u.yk))] λg2=> ?_))
  refine z7 (v:= .string (mkS (zE 32 [wEnt,dt,onW u.yk]++[10]))) [] (λw hO=>ln_any _ [wEnt,dt,onW u.yk] w ((qlit g2 3 #[.string (mkS wEnt),.string (mkS dt),.string (mkS (onW u.yk))] [wEnt,dt,onW u.yk] rfl rfl (by decide)).readsT (hO.nth 0 ⟨g2, #[.string (mkS wEnt),.string (mkS dt),.string (mkS (onW u.yk))],9⟩) λy hy=>hy) Om (by simp) hjn) (kW (k:=35) (args:= #[Zp b4 0,.string (mkS (zE 32 [wEnt,dt,onW u.yk]++[10]))]) (Rr:=λ_ ob'=>BuS b4 (done++(zE 32 [wEnt,dt,onW u.yk]++[10])) ob') [] ([⟨g2, #[.string (mkS wEnt),.string (mkS dt),.string (mkS (onW u.yk))],9⟩,evB b6 u,hvB b1 x]++o) [⟨g2, #[.string (mkS wEnt),.string (mkS dt),.string (mkS (onW u.yk))],9⟩,evB b6 u,hvB b1 x] o (λw hO=>hO) (tM b4 done (zE 32 [wEnt,dt,onW u.yk]++[10]) _ o ho Om (by rw [hjt];omega)) λv2 o2 q1=>(z7 (v:= .tuple #[.string (mkS rt),YI 0]) [1] (λw hO=>cP w hO.below) (kW (k:=35) (args:= #[Zp b4 0,.string (mkS rt)]) (Rr:=λ_ ob'=>BuS b4 (done++(zE 32 [wEnt,dt,onW u.yk]++[10])++rt) ob') [] ([⟨g2, #[.string (mkS wEnt),.string (mkS dt),.string (mkS (onW u.yk))],9⟩,evB b6 u,hvB b1 x]++o2) [⟨g2, #[.string (mkS wEnt),.string (mkS dt),.string (mkS (onW u.yk))],9⟩,evB b6 u,hvB b1 x] o2 (λw hO=>hO) (tM b4 (done++(zE 32 [wEnt,dt,onW u.yk]++[10])) rt _ o2 q1 (by rw [List.length_append,hjt];omega) Om) λv3 o3 q2=> ?_)))
  rw [List.append_assoc,hjt,hw2] at q2
  exact x_i 21 [] ((i+1:Nat):Int) (zQ [] (hvB b1 x::o3) (λw hO=>hO.past 2 _) (nx (i+1,o3) (x.es.length-(i+1)) [] Om ⟨⟨hj,q2⟩,rfl⟩ Kr Kr))
end
section
set_option linter.unnecessarySimpa false
theorem suf_end (p:YL):Lib.hasSuffix p [10]=endP p:=by
 cases h:endP p with
 |true=>
  have h':p.getLast?=some 10:=by unfold endP at h;simpa using h
  obtain ⟨q,rfl⟩:=List.getLast?_eq_some_iff.1 h'
  exact List.isSuffixOf_iff_suffix.2 (List.suffix_append _ _)
 |false=>
  cases h2:Lib.hasSuffix p [10] with
  |false=>rfl
  |true=>
   obtain ⟨q,rfl⟩:=List.isSuffixOf_iff_suffix.1 h2
   rw [endP_nl] at h;cases h
theorem trim_body (p:YL):Lib.trimSuffix p [10]=jZ p:=by
 unfold Lib.trimSuffix jZ
 rw [suf_end]
 cases endP p<;>simp [List.dropLast_eq_take]
theorem body_le (p:YL):(jZ p).length<=p.length:=by
 unfold jZ
 split
 ·rw [List.length_dropLast];omega
 ·exact Nat.le_refl _
theorem wd_any (p:YL)(W:World)(hp:p.length<=600000):YC 85 #[.string (mkS p)] W λe w'=>∃ v ob,e= .returned v/\SlT v (x5 p) ob/\Own [] W w' ob:=by
 have cS:∀ w,YC 130 #[.string (mkS p),.string ⟨#[10]⟩] w (YR (.tuple #[.string (mkS (jZ p)),.bool (endP p)]) w):=λw=>by
  have h:=qSuf_any p w Om
  rw [trim_body,suf_end] at h;exact h
 have hb:=body_le p
 refine zD Tryz.func85 (z7 (v:= .tuple #[.string (mkS (jZ p)),.bool (endP p)]) [] (λw hO=>cS w) (nP 10 [] (endP p) (λh=> ?_) (λh=> ?_)))
 rotate_left
 ·exact z8 [] (.slice none 0 0) λw hO=>⟨_,[],rfl,by unfold x5;rw [h,if_neg Bool.false_ne_true];exact Sl.nil _ _,hO.no⟩
 exact yB (k:=131) (args:= #[.string (mkS (jZ p)),.int .u8 32]) (R:=λv ob=>SlT v (wordsM (jZ p)) ob) [] (λw hO=>isplit_own (jZ p) w Om) λv ob hS=>(z8 [] v λw hO=>⟨v,ob,rfl,by unfold x5;rw [if_pos h];unfold jZ wordsM at hS;rw [if_pos h] at hS;exact hS,hO.past 0 ob⟩)
theorem own_txt14 {A:Option Addr}{n cap:Nat}{l:List YL}{ob L:List Blk}{M:List Nat}{W w:World}(h:SlT (.slice A n cap) l ob)(hn:l.length=n)(hO:Own M W w L)(hs:∀ b∈ob,b∈L){j:Nat}(hj:j<l.length){b off:Nat}(hA:A=some ⟨b,off,none⟩):(loadVar 9 ⟨b,off+j*1+0,none⟩).run YP w= .ok (.string (mkS l[j])) w:=by
 obtain ⟨b',off',e,hel⟩:=(SlT.reads h hn hO hs).elem zR j hj
 rw [hA] at e
 injection e with e
 injection e with e1 e2
 subst e1;subst e2
 exact hel w (Below.refl _ _) _ 0 _ Kr
def sampF:List Ft:=[⟨dfl,[[120]]⟩,⟨[120],[[63,111],[98,47,121],[122]]⟩,⟨[122],[[120]]⟩]
theorem wd_at {A:Option Addr}{n cap:Nat}{l:List YL}{ob:List Blk}(h:SlT (.slice A n cap) l ob)(hn:l.length=n)(h0:0<n):∃ g,A=some ⟨g,0,none⟩∧∀ {M:List Nat} {W w:World} {L:List Blk},Own M W w L->(∀ b∈ob,b∈L)→∀ j (hj:j<l.length),(loadVar 9 ⟨g,0+j*1+0,none⟩).run YP w= .ok (.string (mkS l[j])) w:=by
 subst hn
 obtain ⟨g,cur,e1,_⟩:=Sl.block h h0
 exact ⟨g,e1,λhO hs j hj=>own_txt14 h rfl hO hs hj e1⟩
theorem len2 {α:Type}{l:List α}(h:l.length=2):∃ a b,l=[a,b]:=by
 match l,h with
 | [a,b],_=>exact ⟨a,b,rfl⟩
theorem len3 {α:Type}{l:List α}(h:l.length=3):∃ a b c,l=[a,b,c]:=by
 match l,h with
 | [a,b,c],_=>exact ⟨a,b,c,rfl⟩
theorem splitL_el (b:UInt8)(s:YL):∀ x∈zA b [] s,x.length<=s.length:=λx hx=>by
 have key:∀ (s acc:YL),∀ x∈zA b acc s,x.length<=acc.length+s.length:=λs=>by
  induction s with
  |nil=>intro acc x hx;rw [zA,List.mem_singleton] at hx;rw [hx];simp
  |cons c s ih=>
   intro acc x hx
   rw [zA] at hx
   split at hx
   ·rcases List.mem_cons.1 hx with rfl|hx
    ·simp
    ·have:=ih [] x hx;simp only [List.length_nil,List.length_cons] at this ⊢;omega
   ·have:=ih _ x hx;simp only [List.length_append,List.length_cons,List.length_nil] at this ⊢;omega
 simpa using key s [] x hx
theorem words_el (p:YL):∀ x∈x5 p,x.length<=p.length:=λx hx=>by
 unfold x5 at hx
 split at hx
 ·have:=splitL_el 32 _ x hx;rw [List.length_dropLast] at this;omega
 ·cases hx
theorem shn_any (p:YL)(W:World)(hp:p.length<=600000):YC 47 #[.string (mkS p)] W (YR (.tuple #[.string (mkS ((dS p).getD [])),.bool (dS p).isSome]) W):=by
 have hno:∀ w,YB W w->dS p=none->(Ending.returned (.tuple #[.string ⟨#[]⟩,.bool false])= .returned (.tuple #[.string (mkS ((dS p).getD [])),.bool (dS p).isSome]))/\YB W w:=λw hb h=>⟨by rw [h];rfl,hb⟩
 have hel:=words_el p
 have hN:dS p=if (x5 p).length=2/\(x5 p).getD 0 []=vC/\nmL ((x5 p).getD 1 [])=true then some ((x5 p).getD 1 []) else none:=rfl
 refine zD Tryz.func47 (yB (k:=85) (args:= #[.string (mkS p)]) (R:=λv ob=>SlT v (x5 p) ob) [] (λw hO=>wd_any p w hp) ?_)
 rintro v ob hS
 generalize x5 p=ws at*
 obtain ⟨A,c,rfl⟩:=hS.form
 refine gE 9 [] ((ws.length:Int)=2) (λh=> ?_) (λh=> ?_)
 rotate_left
 ·exact yP [] (.string ⟨#[]⟩) Z5 λw hO=>hno w hO.below (by rw [hN,if_neg λq=>h Om])
 obtain ⟨a,b,rfl⟩:=len2 (l:=ws) Om
 obtain ⟨g,hA,hld⟩:=wd_at hS rfl (by simp)
 have l0:∀ w,Own [] W w ob->(loadVar 9 ⟨g,0+0*1+0,none⟩).run YP w= .ok (.string (mkS a)) w:=λw hO=>hld hO (λb h=>h) 0 (by simp)
 have l1:∀ w,Own [] W w ob->(loadVar 9 ⟨g,0+1*1+0,none⟩).run YP w= .ok (.string (mkS b)) w:=λw hO=>hld hO (λb h=>h) 1 (by simp)
 have hbl:=hel b (by simp)
 have cN:∀ w,YC 69 #[.string (mkS b)] w (YR (.bool (nmL b)) w):=λw=>fG b w Om
 refine zL 12 [] hA 2 c 0 1 (by decide) (zI 13 [] 9 g (0+0*1+0) (.string (mkS a)) (λw hO=>l0 w (hO.past 0 ob)) (jJ 14 [] a vC (λh14=> ?_) (λh14=> ?_)))
 rotate_left
 ·exact yP [] (.string ⟨#[]⟩) Z5 λw hO=>hno w hO.below (by rw [hN,if_neg λq=>h14 q.2.1])
 refine zL 18 [] hA 2 c 1 1 (by decide) (zI 19 [] 9 g (0+1*1+0) (.string (mkS b)) (λw hO=>l1 w (hO.past 0 ob)) (z7 (v:= .bool (nmL b)) [] (λw hO=>cN w) (zV 20 (nmL b) (λh20=> ?_) (λh20=> ?_))))
 rotate_left
 ·exact yP [] (.string ⟨#[]⟩) Z5 λw hO=>hno w hO.below (by rw [hN,if_neg λq=>by have:nmL b=true:=q.2.2;rw [this] at h20;cases h20])
 refine zL 24 [] hA 2 c 1 1 (by decide) (zI 25 [] 9 g (0+1*1+0) (.string (mkS b)) (λw hO=>l1 w (hO.past 0 ob)) ?_)
 exact yP [] (.string (mkS b)) Z4 λw hO=>⟨by rw [hN,if_pos ⟨rfl,h14,h20⟩];rfl,hO.below⟩
def hv0E:Ev:=⟨rv0,0,false⟩
theorem hd_any (p:YL)(W:World)(hp:p.length<=600000):YC 134 #[.string (mkS p)] W λe w'=>∃ v,e= .returned v/\(∃ (z:Int) (y:Bool),v= .tuple #[evV ⟨rv0,z,y⟩,.bool (wM p).isSome]∧∀ x,wM p=some x->z=(x.1.toNat:Int)/\y=x.2)/\YB W w':=by
 have hno:∀ w,YB W w->wM p=none→∃ v,Ending.returned (.tuple #[evV hv0E,.bool false])= .returned v/\(∃ (z:Int) (y:Bool),v= .tuple #[evV ⟨rv0,z,y⟩,.bool (wM p).isSome]∧∀ x,wM p=some x->z=(x.1.toNat:Int)/\y=x.2)/\YB W w:=λw hb h=>⟨_,rfl,⟨0,false,by rw [h];rfl,λx q=>by rw [h] at q;cases q⟩,hb⟩
 have hN:wM p=if (x5 p).length=3/\(x5 p).getD 0 []=wEnt/\((x5 p).getD 2 []=wOff\/(x5 p).getD 2 []=wOn)/\jO ((x5 p).getD 1 [])=true then some (vK ((x5 p).getD 1 []),decide ((x5 p).getD 2 []=wOff)) else none:=rfl
 refine zD Tryz.func134 (zH [] λb2=>yB (k:=85) (args:= #[.string (mkS p)]) (R:=λv ob=>SlT v (x5 p) ob) [] (λw hO=>wd_any p w hp) ?_)
 rintro v ob hS
 generalize x5 p=ws at*
 obtain ⟨A,c,rfl⟩:=hS.form
 refine gE 11 [] ((ws.length:Int)=3) (λh=> ?_) (λh=> ?_)
 rotate_left
 ·exact gG [0,0] 0 (evV hv0E) Z5 λw hO=>hno w hO.below (by rw [hN,if_neg λq=>h Om])
 obtain ⟨a,b,d,rfl⟩:=len3 (l:=ws) Om
 obtain ⟨g,hA,hld⟩:=wd_at hS rfl (by simp)
 have l0:∀ w,Own [] W w ob->(loadVar 9 ⟨g,0+0*1+0,none⟩).run YP w= .ok (.string (mkS a)) w:=λw hO=>hld hO (λb h=>h) 0 (by simp)
 have l1:∀ w,Own [] W w ob->(loadVar 9 ⟨g,0+1*1+0,none⟩).run YP w= .ok (.string (mkS b)) w:=λw hO=>hld hO (λb h=>h) 1 (by simp)
 have l2:∀ w,Own [] W w ob->(loadVar 9 ⟨g,0+2*1+0,none⟩).run YP w= .ok (.string (mkS d)) w:=λw hO=>hld hO (λb h=>h) 2 (by simp)
 refine zL 14 [] hA 3 c 0 1 (by decide) (zI 15 [] 9 g (0+0*1+0) (.string (mkS a)) (λw hO=>l0 w (hO.past 1 ob)) (jJ 16 [] a wEnt (λh16=> ?_) (λh16=> ?_)))
 rotate_left
 ·exact gG [0,0] 0 (evV hv0E) Z5 λw hO=>hno w hO.below (by rw [hN,if_neg λq=>h16 q.2.1])
 have fin:∀ (dd:Bool),decide (d=wOff)=dd->(d=wOff\/d=wOn)→∀ w,Own [] W w [⟨b2,(evV ⟨rv0,((vK b).toNat:Int),dd⟩).cells,69⟩]→∃ v,Ending.returned (.tuple #[evV ⟨rv0,((vK b).toNat:Int),dd⟩,.bool (jO b)])= .returned v/\(∃ (z:Int) (y:Bool),v= .tuple #[evV ⟨rv0,z,y⟩,.bool (wM p).isSome]∧∀ x,wM p=some x->z=(x.1.toNat:Int)/\y=x.2)/\YB W w:=λdd hdd ho w hO=>by
  refine ⟨_,rfl,⟨((vK b).toNat:Int),dd, ?_,λx hx=> ?_⟩,hO.below⟩
  ·rw [hN]
   cases hb:jO b with
   |true=>rw [if_pos ⟨rfl,h16,ho,hb⟩];rfl
   |false=>rw [if_neg λq=>by have:jO b=true:=q.2.2.2;rw [this] at hb;cases hb];rfl
  ·rw [hN] at hx
   split at hx
   ·obtain rfl:=Option.some.inj hx
    exact ⟨rfl,hdd.symm⟩
   ·cases hx
 have cR:∀ w,YC 181 #[.string (mkS b)] w (YR (.tuple #[.int .u64 ((vK b).toNat:Int),.bool (jO b)]) w):=λw=>d9Read_any b w
 generalize jO b=rb at*
 generalize vK b=rv at*
 refine zL 20 [] hA 3 c 2 1 (by decide) (zI 21 [] 9 g (0+2*1+0) (.string (mkS d)) (λw hO=>l2 w (hO.past 1 ob)) (jJ 22 [] d wOff (λh22=> ?_) (λh22=> ?_)))
 ·refine zL 33 [] hA 3 c 1 1 (by decide) (zI 34 [] 9 g (0+1*1+0) (.string (mkS b)) (λw hO=>l1 w (hO.past 1 ob)) (z7 (v:= .tuple #[.int .u64 (rv.toNat:Int),.bool rb]) [] (λw hO=>cR w) ?_))
  refine zL 40 [] hA 3 c 2 1 (by decide) (zI 41 [] 9 g (0+2*1+0) (.string (mkS d)) (λw hO=>l2 w (hO.past 1 ob)) (xH 42 [] d wOff (λ_=> ?_) (λq=>absurd h22 q)))
  exact gG [0,0] 0 (evV ⟨rv0,(rv.toNat:Int),true⟩) (.bool rb) λw hO=>fin true (decide_eq_true h22) (.inl h22) w (hO.nth 0 _)
 ·refine zL 25 [] hA 3 c 2 1 (by decide) (zI 26 [] 9 g (0+2*1+0) (.string (mkS d)) (λw hO=>l2 w (hO.past 1 ob)) (jJ 27 [] d wOn (λh27=> ?_) (λh27=> ?_)))
  rotate_left
  ·exact gG [0,0] 0 (evV hv0E) Z5 λw hO=>hno w hO.below (by rw [hN,if_neg λq=>q.2.2.1.elim h22 h27])
  refine zL 33 [] hA 3 c 1 1 (by decide) (zI 34 [] 9 g (0+1*1+0) (.string (mkS b)) (λw hO=>l1 w (hO.past 1 ob)) (z7 (v:= .tuple #[.int .u64 (rv.toNat:Int),.bool rb]) [] (λw hO=>cR w) ?_))
  refine zL 40 [] hA 3 c 2 1 (by decide) (zI 41 [] 9 g (0+2*1+0) (.string (mkS d)) (λw hO=>l2 w (hO.past 1 ob)) (xH 42 [] d wOff (λq=>absurd q h22) (λ_=> ?_)))
  exact gG [0,0] 0 (evV ⟨rv0,(rv.toNat:Int),false⟩) (.bool rb) λw hO=>fin false (decide_eq_false h22) (.inr h27) w (hO.nth 0 _)
theorem ent_cut (p:YL):wL p=decide ((zB 32 (jZ p)).1=wEnt):=by
 unfold wL
 rw [yX,List.nil_append];rfl
theorem ext_drop {ls:List YL}{i:Nat}(hi:i<ls.length):ext (ls.drop i)=if wL ls[i] then 0 else ext (ls.drop (i+1))+1:=by
 rw [List.drop_eq_getElem_cons hi,ext]
theorem ex_any (A:Option Addr)(cap:Nat)(p:YL)(ls:List YL)(W:World)(hv:Reads zW W W.heap.size A (p::ls))(hn:ls.length<=600000)(hs:∀ x∈p::ls,x.length<=600000):YC 86 #[.slice A (ls.length+1) cap] W (YR (YI ((ext ls+1:Nat):Int)) W):=by
 obtain ⟨L,hL⟩:∃ L,p::ls=L:=⟨_,rfl⟩
 have hLl:ls.length+1=L.length:=by rw [←hL];rfl
 have h1:ext ls=ext (L.drop 1):=by rw [←hL];rfl
 rw [hLl,h1]
 rw [hL] at hv hs
 have hn':1<=L.length/\L.length<=600001:=by omega
 clear hL hLl h1 hn
 refine zD Tryz.func86 (zT (α:=Nat) (λi=>[(0,.slice A L.length cap),(3,YI (i:Int))]) (λ_=>[]) (λi m=>(1<=i/\i<=L.length/\ext (L.drop 1)+1=ext (L.drop i)+i)/\m=L.length-i) 1 (L.length-1) [] ⟨⟨Nat.le_refl _,hn'.1,rfl⟩,rfl⟩ ?_)
 rintro i mm g kk ⟨⟨h0,hi,he⟩,hmm⟩ nx hkk
 subst hkk
 refine zG 10 [] ((i:Int)<(L.length:Int)) (λh10=> ?_) (λh10=> ?_)
 rotate_left
 ·exact z8 [] (YI (L.length:Int)) λw hO=>⟨by rw [he,List.drop_of_length_le (show L.length<=i by omega),show i=L.length by omega];show _=Ending.returned (YI ((0+L.length:Nat):Int));rw [Nat.zero_add],hO.below⟩
 have hj:i<L.length:=by omega
 rw [ext_drop hj] at he
 obtain ⟨eb,eo,hA,hel⟩:=hv.elem zR i hj
 have hel0:∀ w,YB W w->(loadVar 9 ⟨eb,eo+i*1+0,none⟩).run YP w= .ok (.string (mkS L[i])) w:=λw hw=>hel w hw _ 0 _ Kr
 have hsi:=hs _ (List.getElem_mem hj)
 have hec:=ent_cut L[i]
 have hbl:=body_le L[i]
 have cT:∀ w,YC 133 #[.string (mkS L[i]),.string ⟨#[10]⟩] w (YR (.string (mkS (jZ L[i]))) w):=λw=>
  (Tryz.strings_TrimSuffix (mkS L[i]) (mkS [10]) w (by rw [y7];omega)).mono λe w' ⟨he,hw⟩=>by
   refine ⟨?_,hw▸Below.refl _ _⟩
   rw [he,mk_data,mk_data,trim_body];rfl
 generalize L[i]=x at*
 have cC:∀ w,YC 132 #[.string (mkS (jZ x)),.string ⟨#[32]⟩] w (YR (.tuple #[.string (mkS (zB 32 (jZ x)).1),.string (mkS (zB 32 (jZ x)).2.1),.bool (zB 32 (jZ x)).2.2]) w):=λw=>dG (jZ x) 32 w Om
 generalize jZ x=y at*
 refine zL 16 [] hA L.length cap i 1 hj (zI 17 [] 9 eb (eo+i*1+0) (.string (mkS x)) (λw hO=>hel0 w hO.below) (z7 (v:= .string (mkS y)) [] (λw hO=>cT w) (z7 (v:= .tuple #[.string (mkS (zB 32 y).1),.string (mkS (zB 32 y).2.1),.bool (zB 32 y).2.2]) [] (λw hO=>cC w) (xH 24 [] (zB 32 y).1 wEnt (λh24=> ?_) (λh24=> ?_)))))
 ·rw [hec,decide_eq_true h24,if_pos rfl] at he
  exact z8 [] (YI (i:Int)) λw hO=>⟨by rw [he,Nat.zero_add],hO.below⟩
 ·rw [hec,decide_eq_false h24,if_neg Bool.false_ne_true] at he
  exact x_i 3 [] ((i+1:Nat):Int) (nx (i+1) (L.length-(i+1)) [] Om ⟨⟨by omega,hj,by rw [he];omega⟩,rfl⟩ Kr Kr)
end
section
theorem join_flat (x0:YL)(r:List YL)(b off cap:Nat)(w:World)(hc:∀ j (h:j<(x0::r).length),w.cell? ⟨b,off+j,none⟩=some (.string (mkS ((x0::r)[j]))))
  (hb:b<w.heap.size) (hr:1<=r.length) (hn:r.length<=5000) (h0:x0≠[]) (hx:∀ x∈x0::r,x.length<=1000000) (hcap:r.length+1<=cap):
  YC 136 #[.slice (some ⟨b,off,none⟩) (r.length+1) cap,.string ⟨#[]⟩] w (YR (.string (mkS (vZ [] (x0::r)))) w):=by
 have HT:=Lib.hid (show ∀ k,(x0++qF [] (r.take k)).length<=6000000000 from λk=>by
  have h1:=joinT_len (sep:=[]) (by decide) (r:=r.take k) λx hm=>hx x (List.mem_cons_of_mem _ (List.mem_of_mem_take hm))
  have h2:=hx x0 (List.mem_cons_self ..)
  have h3:(r.take k).length<=5000:=Nat.le_trans (by rw [List.length_take];exact Nat.min_le_right ..) hn
  rw [List.length_append];omega)
 have HC:=Lib.hid hc
 have HX:=Lib.hid hx
 have HJ:=Lib.hid (joinB_T [] r x0)
 have hx0:(mkS x0).size<=1000000:=by rw [y7];exact hx x0 (List.mem_cons_self ..)
 obtain ⟨N,hN⟩:∃ q,q=r.length+1:=⟨_,rfl⟩
 rw [←hN] at hcap ⊢
 have hne0:((N:Int)==0)=false:=beq_eq_false_iff_ne.2 Om
 have hne1:((N:Int)==1)=false:=beq_eq_false_iff_ne.2 Om
 have hN2:2<=N:=by omega
 have hN9:N<=5001:=by omega
 have HN:=Lib.hid hN
 have H0:=Lib.hid h0
 clear hc hx h0 hN hr hn
 go_enter Tryz.func136,Tryz.ntmps136
 go_wp2
 go_loop [5,41] (λn i=>∃ (k t:Nat),k<=N/\i=YI k/\n=YI t/\t<=k*1000000) (λ_ i=>N-(intOf i).toNat)
 case atStart=>exact ⟨0,0,Nat.zero_le _,rfl,rfl,by omega⟩
 case round=>
  obtain ⟨k,t,hk,rfl,rfl,ht⟩:=hrel
  by_cases hkn:k<N
  ·have hkl:k<(x0::r).length:=by have:=HN.out;rw [List.length_cons];omega
   obtain ⟨y,hy⟩:∃ q,q=mkS ((x0::r)[k]):=⟨_,rfl⟩
   have hyz:y.size<=1000000:=by rw [hy,y7];exact HX.out _ (List.getElem_mem hkl)
   have hck:w.cell? ⟨b,off+k,none⟩=some (.string y):=by rw [hy];exact HC.out k hkl
   clear hy hkl
   go_wp2
   exact ⟨⟨k+1,t+y.size,by omega,by go_num,by go_num,by omega⟩,by simp [intOf];omega⟩
  ·obtain rfl:k=N:=by omega
   go_wp2_with (go_at_call 184;refine (grow_fresh w.heap.size w.heap.size t _ (Nat.le_refl _) (heap_alloc_new w _) (by simp) Om).mono ?_)
   rintro e w1 rfl h1 hb1
   have hb1':YB w w1:=((Below.refl w.heap.size w).alloc (Nat.le_refl _) _).trans hb1
   have hsz1:=hb1'.size
   have hc0:w1.cell? ⟨b,off,none⟩=some (.string (mkS x0)):=by
    rw [hb1'.cell (p:=⟨b,off,none⟩) hb]
    exact HC.out 0 (by simp)
   have H1:=Lib.hid (Or.inr h1:Lib.IsBuilder 75 5 w.heap.size w.heap.size [] w1)
   have HB1:=Lib.hid hb1'
   clear h1 hb1 hb1' ht hkn hk
   obtain ⟨X,hX⟩:∃ q,q=mkS x0:=⟨_,rfl⟩
   rw [←hX] at hc0 hx0
   have HX0:=Lib.hid hX
   clear hX
   go_wp2_with (go_at_call 35;refine (kB w.heap.size w.heap.size [] X w1 H1.out ?_ hsz1).mono ?_)
   ·simp;omega
   rintro e w2 ⟨rfl,h2,hb2⟩
   have H2:=Lib.hid (show Lib.IsBuilder 75 5 w.heap.size w.heap.size (Lib.byteCells (x0++qF [] (r.take 0))) w2 from by
    rw [HX0.out,vW,List.nil_append] at h2
    rw [List.take_zero,qF,List.append_nil];exact Or.inr h2)
   have HB2:=Lib.hid (HB1.out.trans hb2)
   clear h2 hb2 hsz1 hc0
   have hrk:k-1=r.length:=by have:=HN.out;omega
   go_wp2
   go_loopw [65] (λi wr=>∃ j:Nat,j<=r.length/\i=YI j/\Hid (Lib.IsBuilder 75 5 w.heap.size w.heap.size (Lib.byteCells (x0++qF [] (r.take j))) wr)/\Hid (YB w wr)) (λi _=>r.length-(intOf i).toNat)
   case atStart=>exact ⟨0,Nat.zero_le _,rfl,H2,HB2⟩
   case round=>
    obtain ⟨j,hj,rfl,HB,HW⟩:=hrel
    have hsz:=HW.out.size
    by_cases hjr:j<r.length
    ·obtain ⟨y,hy⟩:∃ q,q=mkS r[j]:=⟨_,rfl⟩
     have hyz:y.size<=1000000:=by rw [hy,y7];exact HX.out _ (List.mem_cons_of_mem _ (List.getElem_mem hjr))
     have hck:wr.cell? ⟨b,off+1+j,none⟩=some (.string y):=by
      rw [HW.out.cell (p:=⟨b,off+1+j,none⟩) hb,hy,show off+1+j=off+(j+1) from by omega]
      exact HC.out (j+1) (by simp;omega)
     have HY:=Lib.hid hy
     have hlen:(Lib.byteCells (x0++qF [] (r.take j))).length<=6000000000:=by rw [Lib.byteCells_length];exact HT.out j
     have HE:=Lib.hid (show Lib.byteCells (x0++qF [] (r.take j))++Lib.strCells ⟨#[]⟩++Lib.strCells y=Lib.byteCells (x0++qF [] (r.take (j+1))) from by
      rw [show (⟨#[]⟩:ByteArray)=mkS [] from rfl,HY.out,List.take_succ_eq_append_getElem hjr,joinT_snoc,←List.append_assoc,bc_two])
     clear hy
     go_wp2_with (go_at_call 35;refine (kB w.heap.size w.heap.size _ ⟨#[]⟩ wr HB.out ?_ hsz).mono ?_)
     ·show _+0<=_;omega
     rintro e w3 ⟨rfl,h3,hb3⟩
     have hsz3:=Nat.le_trans hsz hb3.size
     have H3:=Lib.hid h3
     have HB3:=Lib.hid hb3
     clear h3 hb3
     go_wp2_with (go_at_call 35;refine (kB w.heap.size w.heap.size _ y w3 (Or.inr H3.out) ?_ hsz3).mono ?_)
     ·rw [List.length_append,Lib.strCells_length,show (⟨#[]⟩:ByteArray).size=0 from rfl];omega
     rintro e w4 ⟨rfl,h4,hb4⟩
     rw [HE.out] at h4
     have H4:=Lib.hid (Or.inr h4:Lib.IsBuilder 75 5 w.heap.size w.heap.size (Lib.byteCells (x0++qF [] (r.take (j+1)))) w4)
     have HB4:=Lib.hid ((HW.out.trans HB3.out).trans hb4)
     clear h4 hb4
     go_wp2
     go_roundw
     case rel=>exact ⟨j+1,by omega,by go_num,H4,HB4⟩
     case measure=>simp [intOf];omega
    ·obtain rfl:j=r.length:=by omega
     have HB':=HB.out
     rw [List.take_length,←HJ.out] at HB'
     have hne:vZ [] (x0::r)≠[]:=by
      rw [HJ.out]
      intro q;exact H0.out (List.append_eq_nil_iff.1 q).1
     have HBF:=Lib.hid HB'
     clear HB'
     go_wp2_with (go_at_call 39;refine (string_any w.heap.size w.heap.size _ _ HBF.out hne).mono ?_)
     rintro e w5 ⟨rfl,hb5⟩
     go_wp2
     go_ret
     exact ⟨rfl,HW.out.trans hb5⟩
theorem joinB_flat:∀ l:List YL,vZ [] l=l.flatten
 | []=>rfl
 | [x]=>by simp [vZ]
 |x::y::r=>by rw [joinB_two,joinB_flat (y::r)];simp
theorem flat_any (l:List YL)(A:Option Addr)(cap:Nat)(w:World)(hv:Reads zW w w.heap.size A l)(hn:l.length<=5000)(hx:∀ x∈l,x.length<=1000000)(h0:∀ x∈l,x≠[])(hcap:l.length<=cap):
  YC 136 #[.slice A l.length cap,.string ⟨#[]⟩] w (YR (.string (mkS l.flatten)) w):=by
 rw [←joinB_flat]
 match l,hv,hn,hx,h0,hcap with
 | [],_,_,_,_,_=>exact join_none [] A cap w
 | [x],hv,_,_,_,hcap=>exact join_one [] x A cap w hv hcap
 |x::y::r,hv,hn,hx,h0,hcap=>
  obtain ⟨b,off,rfl,hb,hcell⟩:=hv (by simp)
  refine join_flat x (y::r) b off cap w (λj hj=> ?_) hb (by simp) (by simp at hn ⊢;omega) (h0 x (List.mem_cons_self ..)) hx hcap
  refine hcell j _ ?_
  rw [←xK];unfold jQ
  rw [List.getElem?_map,List.getElem?_eq_getElem hj];rfl
end
section
set_option linter.unnecessarySimpa false
theorem RecO.inn {x:Rv}{ob L:List Blk}{M:List Nat}{W w:World}(h:RecO x ob)(hO:Own M W w L)(hs:∀ b∈ob,b∈L)(hB:BndR x.rt)(hF:FewR x.rt 4096):RcIn w w.heap.size x:=by
 obtain ⟨o1,o2,o4,o7,o8,rfl,h1,h4,h7⟩:=h
 exact rec_inn h1 h4 h7 hO (λb hb=>hs b (by simp [hb])) (λb hb=>hs b (by simp [hb])) (λb hb=>hs b (by simp [hb])) (λb hb=>hs b (by simp [hb])) (λb hb=>hs b (by simp [hb])) hB hF
def ParV (s:YL)(v:Value)(ob:List Blk):Prop:=∃ x,v= .tuple #[rvV x,YI (qC s).2.1,YI (qC s).2.2]/\x.rt=(qC s).1/\RecO x ob/\BndR x.rt/\FewR x.rt 4096
def awS1:YL:=[112,97,99,107,97,103,101,32,97,112,112,32,49,46,48,46,48,10,110,101,101,100,10,97,110,121,32,98,32,120,32,102,117,108,108,32,94,49,10,119,104,101,110,32,111,115,32,61,32,120,10,98,97,114,32,99,32,42,10,102,101,97,116,117,114,101,32,121,32,98,47,122,10]
def awS2:YL:=[112,97,99,107,97,103,101,32,97,112,112,32,49,46,48,46,48,10,97,110,121,32,98,32,45,32,102,117,108,108,32,42,10]
end
section
set_option linter.unnecessarySimpa false
theorem no_take {α:Type}{l:List α}{q:α->Bool}{i:Nat}(hi:i<l.length)(h:∀ y∈l.take i,q y=false)(h1:q l[i]=false):∀ y∈l.take (i+1),q y=false:=λy hy=>by
 rw [List.take_succ_eq_append_getElem hi] at hy
 rcases List.mem_append.1 hy with hy|hy
 ·exact h y hy
 ·rw [List.mem_singleton.1 hy];exact h1
theorem hasI1_any (x:Ev)(r:Rv)(b:Nat)(W:World)(hc:W.heap[b]?=some (.cells (rvB b r).cs 47))(hx:x.rec'.ver.may=true)(hr:r.ver.may=true)(p1:x.rec'.ver.pre.length<=1000000)(p2:x.rec'.ver.build.length<=1000000)(p3:r.ver.pre.length<=1000000)(p4:r.ver.build.length<=1000000):YC 137 #[evV x,.pointer (some ⟨b,0,none⟩)] W (YR (.bool (gO r.name r.ver x.et)) W):=by
 have hb:b<W.heap.size:=(Array.getElem?_eq_some_iff.1 hc).1
 have hdef:gO r.name r.ver x.et=(decide (x.rec'.name=r.name) && decide (qQ x.rec'.ver r.ver=0)):=by
  show (decide (x.rec'.name=r.name) && (x.rec'.ver.may && r.ver.may && decide (qQ x.rec'.ver r.ver=0)))=_
  rw [hx,hr];rfl
 rw [hdef]
 refine zD Tryz.func137 (zY [] λb2=>zI 8 [0] 9 b (0+0) (.string (mkS r.name)) (λw hO=>yM Kr ((hO.below.block b hb).trans hc)) (xH 9 [] x.rec'.name r.name (λh=> ?_) (λh=> ?_)))
 rotate_left
 ·exact z8 [] Z5 λw hO=>⟨by rw [decide_eq_false h];rfl,hO.below⟩
 refine zI 15 [0] 42 b (0+1) (yT r.ver) (λw hO=>yM Kr ((hO.below.block b hb).trans hc)) (z7 (v:=YI (qQ x.rec'.ver r.ver)) [] (λw hO=>vcompareQ_any x.rec'.ver r.ver w p1 p2 p3 p4) ?_)
 exact z8 [] (.bool (decide (qQ x.rec'.ver r.ver=0))) λw hO=>⟨by rw [decide_eq_true h];rfl,hO.below⟩
theorem anyI {es:List Ev}{q:Et->Bool}{i:Nat}(hi:i<es.length)(h:q es[i].et=true):(es.map Ev.et).any q=true:=List.any_eq_true.2 ⟨es[i].et,List.mem_map_of_mem (List.getElem_mem hi),h⟩
theorem idxI_any (A:Option Addr)(cap:Nat)(es:List Ev)(r:Rv)(b:Nat)(W:World)(hx:EsIn W W.heap.size A es)(hM:∀ e∈es,e.rec'.ver.may=true)(hr:r.ver.may=true)(b3:r.ver.pre.length<=1000000)(b4:r.ver.build.length<=1000000)(hc:W.heap[b]?=some (.cells (rvB b r).cs 47)):YC 92 #[.slice A es.length cap,.func (.func 137) #[] #[.pointer (some ⟨b,0,none⟩)]] W λe w'=>∃ v,e= .returned v/\(∃ z:Int,v=YI z/\decide (0<=z)=(es.map Ev.et).any (gO r.name r.ver))/\YB W w':=by
 have hb:b<W.heap.size:=(Array.getElem?_eq_some_iff.1 hc).1
 have hn:=hx.n
 refine zD Tryz.func92 (zT (α:=Nat) (λi=>[(0,.slice A es.length cap),(1,.func (.func 137) #[] #[Zp b 0]),(7,YI (es.length:Int)),(8,YI (i:Int))]) (λ_=>[]) (λi m=>(i<=es.length∧∀ y∈es.take i,(λy:Ev=>gO r.name r.ver y.et) y=false)/\m=es.length-i) 0 es.length [] ⟨⟨Nat.zero_le _,λy h=>by simp at h⟩,rfl⟩ ?_)
 rintro i mm g kk ⟨⟨hi,hno⟩,hmm⟩ nx hkk
 subst hkk
 refine zG 9 [] ((i:Int)<(es.length:Int)) (λh9=> ?_) (λh9=> ?_)
 rotate_left
 ·refine z8 [] (YI (-1)) λw hO=>⟨_,rfl,⟨-1,rfl, ?_⟩,hO.below⟩
  rw [List.take_of_length_le (show es.length<=i by omega)] at hno
  refine (Bool.eq_false_iff.2 λh=> ?_).symm
  obtain ⟨y,hy,h⟩:=List.any_eq_true.1 h
  obtain ⟨u,hu,rfl⟩:=List.mem_map.1 hy
  have:=hno u hu
  exact absurd (h.symm.trans this) (by decide)
 have hj:i<es.length:=by omega
 obtain ⟨eb,eo,hA,hel⟩:=hx.top.elem vJ i hj
 have hgo:=no_take (q:=λy:Ev=>gO r.name r.ver y.et) hj hno
 have hel0:∀ w,YB W w->(loadVar 69 ⟨eb,eo+i*11+0,none⟩).run YP w= .ok (evV es[i]) w:=λw hw=>hel w hw _ 0 _ Kr
 have hsn:=(hx.each _ (List.getElem_mem hj)).sn
 have hmy:=hM _ (List.getElem_mem hj)
 have hcf:∀ w,YB W w->YC 137 #[evV es[i],.pointer (some ⟨b,0,none⟩)] w (YR (.bool (gO r.name r.ver es[i].et)) w):=λw hw=>hasI1_any es[i] r b w ((hw.block b hb).trans hc) hmy hr hsn.2.1 hsn.2.2 b3 b4
 have hyes:=anyI (q:=gO r.name r.ver) hj
 generalize es[i]=u at*
 refine zL 14 [] hA es.length cap i 11 hj (zI 15 [] 69 eb (eo+i*11+0) (evV u) (λw hO=>hel0 w hO.below) (z7 (v:= .bool (gO r.name r.ver u.et)) [] (λw hO=>hcf w hO.below) (zV 16 (gO r.name r.ver u.et) (λh16=> ?_) (λh16=> ?_))))
 ·exact z8 [] (YI (i:Int)) λw hO=>⟨_,rfl,⟨(i:Int),rfl,by rw [hyes h16];exact decide_eq_true (Int.natCast_nonneg i)⟩,hO.below⟩
 ·exact x_i 18 [] ((i+1:Nat):Int) (nx (i+1) (es.length-(i+1)) [] Om ⟨⟨hj,hgo h16⟩,rfl⟩ Kr Kr)
theorem contI_any (A:Option Addr)(cap:Nat)(es:List Ev)(r:Rv)(b:Nat)(W:World)(hx:EsIn W W.heap.size A es)(hM:∀ e∈es,e.rec'.ver.may=true)(hr:r.ver.may=true)(b3:r.ver.pre.length<=1000000)(b4:r.ver.build.length<=1000000)(hc:W.heap[b]?=some (.cells (rvB b r).cs 47)):YC 101 #[.slice A es.length cap,.func (.func 137) #[] #[.pointer (some ⟨b,0,none⟩)]] W (YR (.bool ((es.map Ev.et).any (gO r.name r.ver))) W):=by
 refine zD Tryz.func101 (wS (R:=λv=>∃ z:Int,v=YI z/\decide (0<=z)=(es.map Ev.et).any (gO r.name r.ver)) [] (λw hO=>idxI_any A cap es r b w (hx.on hO.below hO.size) hM hr b3 b4 ((hO.below.block b (Array.getElem?_eq_some_iff.1 hc).1).trans hc)) ?_)
 rintro _ ⟨z,rfl,hz⟩
 exact z8 [] (.bool (decide (0<=z))) λw hO=>⟨by rw [hz],hO.below⟩
theorem hasI_any (A:Option Addr)(cap:Nat)(es:List Ev)(r:Rv)(W:World)(hx:EsIn W W.heap.size A es)(hM:∀ e∈es,e.rec'.ver.may=true)(hr:r.ver.may=true)(b3:r.ver.pre.length<=1000000)(b4:r.ver.build.length<=1000000):YC 88 #[.slice A es.length cap,rvV r] W (YR (.bool ((es.map Ev.et).any (gO r.name r.ver))) W):=by
 refine zD Tryz.func88 (zY [] λb3'=>x_val 6 [] (.func (.func 137) #[] #[Zp b3' 0]) (λw=>Kr) (z7 (v:= .bool ((es.map Ev.et).any (gO r.name r.ver))) [] (λw hO=>contI_any A cap es r b3' w (hx.on hO.below hO.size) hM hr b3 b4 ((hO.nth 0 (rvB b3' r)).get (i:=0) rfl)) (z8 [] _ λw hO=>⟨rfl,hO.below⟩)))
def OkT (s:YL):Prop:=s.length<=4096->bZ s=0->BndR (recA s)
theorem read_chk {s:YL}(h:(qC s).2.1=0):(zK (qC s).1).1=0:=by
 by_cases hs:s.length<=4096
 ·rw [parse_is hs] at h ⊢
  split at h
  ·exact absurd h (by show ¬ (2:Int)=0;decide)
  ·split at h
   ·rename_i q;exact absurd h q
   ·rename_i q1 q2
    rw [if_neg q1,if_neg q2]
    simpa using q2
 ·unfold qC at h
  rw [if_pos Om] at h
  exact absurd h (by show ¬ (3:Int)=0;decide)
def EntB (p b:YL)(v:Value)(ob:List Blk):Prop:=∃ u:Ev,v= .tuple #[evV u,YI (dN p b).1]/\((dN p b).1=0->u.et=(dN p b).2/\RecO u.rec' ob/\BndR u.rec'.rt/\FewR u.rec'.rt 4096/\okE u.et)
theorem en_any (p:YL)(A:Option Addr)(cap:Nat)(rest:List YL)(W:World)(hp:p.length<=600000)(hv:Reads zW W W.heap.size A rest)(hn:rest.length<=5000)(hx:∀ x∈rest,x.length<=1000000)(h0:∀ x∈rest,x≠[])(hcap:rest.length<=cap)(hfl:rest.flatten.length<=1000000)(hK:RecLib W)(hL:LyAt W)(hBn:wM p≠none->OkT rest.flatten):YC 87 #[.string (mkS p),.slice A rest.length cap] W λe w'=>∃ v ob,e= .returned v/\EntB p rest.flatten v ob/\Own [] W w' ob:=by
 have hJ:∀ w,YB W w->YC 136 #[.slice A rest.length cap,.string ⟨#[]⟩] w (YR (.string (mkS rest.flatten)) w):=λw hb=>flat_any rest A cap w (hv.on hb hb.size) hn hx h0 hcap
 generalize rest.flatten=b at*
 have hout:∀ (z:Int) (w:World),(dN p b).1=z->z≠0->Own [] W w []→∃ v ob,Ending.returned (.tuple #[evV hv0E,YI z])= .returned v/\EntB p b v ob/\Own [] W w ob:=λz w e hz hO=>⟨_,[],rfl,⟨hv0E,by rw [e],λq=>absurd (e▸q) hz⟩,hO⟩
 refine zD Tryz.func87 (zH [] λb4=>wS (R:=λv=>∃ (z:Int) (y:Bool),v= .tuple #[evV ⟨rv0,z,y⟩,.bool (wM p).isSome]∧∀ x,wM p=some x->z=(x.1.toNat:Int)/\y=x.2) [] (λw hO=>hd_any p w hp) ?_)
 rintro _ ⟨z,y,rfl,hzy⟩
 have hE:dN p b=match wM p with
  |none=>(2,nilE)
  |some x=>if (qC b).2.1≠0 then ((qC b).2.1,nilE) else if yL (qC b).1≠(x.1.toNat:Int) then (13,nilE) else (0,⟨(qC b).1,(x.1.toNat:Int),x.2⟩):=rfl
 cases hh:wM p with
 |none=>
  rw [hh] at hE
  exact zH [] λb6=>(gG [0,1] 1 (evV hv0E) (YI 2) λw hO=>hout 2 w (by rw [hE]) (by decide) hO.no)
 |some x=>
  obtain ⟨rfl,rfl⟩:=hzy x hh
  rw [hh] at hE
  have hOk:=hBn (by rw [hh];simp)
  refine zH [] λb6=>z7 (v:= .string (mkS b)) [0] (λw hO=>hJ w hO.below) (yB (k:=135) (args:= #[.string (mkS b)]) (R:=λv ob=>∃ x':Rv,v= .tuple #[rvV x',YI (qC b).2.1,YI (qC b).2.2]/\x'.rt=(qC b).1/\RecO x' ob/\BndR x'.rt/\FewR x'.rt 4096) [] (λw hO=>(qParse_any b w hfl (hK.on hO.below) (hL.on hO.below) hOk).mono λe w' ⟨x',ob',q1,q2,q3,q4,q5,q6⟩=>⟨_,ob',q1,⟨x',rfl,q2,q3,q4,q5⟩,q6⟩) ?_)
  rintro _ ob ⟨x',rfl,hrt,hRO,hB,hF⟩
  have hck:(qC b).2.1=0->(zK x'.rt).1=0:=λh=>by rw [hrt];exact read_chk h
  rw [←hrt] at hE
  generalize (qC b).2.1=ez at*
  generalize (qC b).2.2=el at*
  refine zH [] λb8=>gE 29 [0] (ez=0) (λh29=> ?_) (λh29=> ?_)
  rotate_left
  ·exact gG [2] 2 (evV hv0E) (YI ez) λw hO=>hout ez w (by rw [hE];show (if ez≠0 then (ez,nilE) else _).1=_;rw [if_pos h29]) h29 hO.no
  have hc0:=hck h29
  have hE2:dN p b=if yL x'.rt≠(x.1.toNat:Int) then (13,nilE) else (0,⟨x'.rt,(x.1.toNat:Int),x.2⟩):=by rw [hE];show (if ez≠0 then _ else _)=_;rw [if_neg (by simpa using h29)]
  have cS:∀ w,Own [] W w ob->YC 50 #[rvV x'] w (YR (.tuple #[.int .u64 (yL x'.rt),YI (zK x'.rt).1]) w):=λw hO=>qSum_any x' w (hRO.inn hO (λb h=>h) hB hF) (hK.on hO.below)
  refine z7 (v:= .tuple #[.int .u64 (yL x'.rt),YI (zK x'.rt).1]) [0] (λw hO=>cS w (hO.past 3 ob)) (gE 40 [1] (yL x'.rt=(x.1.toNat:Int)) (λh40=> ?_) (λh40=> ?_))
  rotate_left
  ·exact gG [2] 2 (evV hv0E) (YI 13) λw hO=>hout 13 w (by rw [hE2,if_pos h40]) (by decide) hO.no
  rw [if_neg (by simpa using h40)] at hE2
  exact gG [0,1,1,2] 2 (evV ⟨x',(x.1.toNat:Int),x.2⟩) (YI 0) λw hO=>⟨_,ob,rfl,⟨⟨x',(x.1.toNat:Int),x.2⟩,by rw [hE2],λ_=>⟨by rw [hE2];rfl,hRO,hB,hF,hc0,h40⟩⟩,hO.past 3 ob⟩
end
section
def xSco (c:Xc):Code:=match xC c with
 | .scope x=>x
 |_=> .skip
def xLab (c:Xc):Nat:=match xC c with
 | .label l=>l
 |_=>0
section
variable {M:List Nat}{P:Program}{n:Nat}{W:World}{c:Xc}
theorem x_scope {fn:Func}{R:Ending->World->Prop}(h:List Nat)(hg:zF M P n W (bodyPost P fn R) ⟨.code (xSco (xgo P n nS h c)),[],(xgo P n nS h c).L,(xgo P n nS h c).f⟩)
  (hkt:(xgl P n nS h c,(xgo P n nS h c).top,(xgo P n nS h c).k)=(xgr P n nS h c,.code (.scope (xSco (xgo P n nS h c))),[]):=by kernel_rfl):zF M P n W (bodyPost P fn R) c:=by
 simp only [Prod.mk.injEq] at hkt
 obtain ⟨hk,e1,e2⟩:=hkt
 refine zJ h c hk ?_
 generalize xgo P n nS h c=d at*
 have:d=⟨.code (.scope (xSco d)),[],d.L,d.f⟩:=by rw [←e1,←e2]
 rw [this]
 exact ⟨λ_=>⟨λw hO=>wp_scope_straight (wp_mono ((hg.go pq_body).go w hO) λe a w q=>by cases e<;>exact q)⟩⟩
theorem x_label {Q:Exit->Act->World->Prop}(h:List Nat)(hg:zF M P n W Q ⟨.fin .normal,(xgo P n nS h c).k,(xgo P n nS h c).L,(xgo P n nS h c).f⟩)
  (hkt:(xgl P n nS h c,(xgo P n nS h c).top)=(xgr P n nS h c,.code (.label (xLab (xgo P n nS h c)))):=by kernel_rfl):zF M P n W Q c:=by
 simp only [Prod.mk.injEq] at hkt
 obtain ⟨hk,e1⟩:=hkt
 refine zJ h c hk ?_
 generalize xgo P n nS h c=d at*
 have:d=⟨.code (.label (xLab d)),d.k,d.L,d.f⟩:=by rw [←e1]
 rw [this]
 exact ⟨λhq=>⟨λw hO=>wp_label ((hg.go hq).go w hO)⟩⟩
theorem xh_slm {Q:Exit->Act->World->Prop}(t:Nat)(h:List Nat)(i:Nat){A:Option Addr}{b off:Nat}(hA:A=some ⟨b,off,none⟩)(N cp sz:Nat)(j m:Int)(h0:0<=j)(h1:j<=m)(h2:m<=cp)(v:Value)(hv: .slice (some ⟨b,off+(if cp=j.toNat then 0 else j.toNat*sz),none⟩) (m.toNat-j.toNat) (cp-j.toNat)=v)(hg:zF M P n W Q (xHn (xgo P n t h c) i v))
  (hkt:(xgl P n t h c,mN n i (xgo P n t h c),(smQ (xOi i (xgo P n t h c))).2.2.2.2,ev n (xgo P n t h c).f (smQ (xOi i (xgo P n t h c))).2.1,ev n (xgo P n t h c).f (smQ (xOi i (xgo P n t h c))).2.2.1,ev n (xgo P n t h c).f (smQ (xOi i (xgo P n t h c))).2.2.2.1,P.underlying (smQ (xOi i (xgo P n t h c))).1,(P.info? (xEl P (smQ (xOi i (xgo P n t h c))).1)).map (·.size))
   =(xgr P n t h c,bO i (xgo P n t h c),true,.slice A N cp,YI j,YI m,some (.slice (xEl P (smQ (xOi i (xgo P n t h c))).1)),some sz):=by kernel_rfl):zF M P n W Q c:=by
 simp only [Prod.mk.injEq] at hkt
 obtain ⟨hk,e1,e2,e3,e4,e5,e6,e7⟩:=hkt
 exact zJ h c hk (pQ (λw _=>by rw [run_sl2 (smQ_op e2) e3 hA e4 e5 e6 e7 h0 h1 h2 w,hv]) hg e1)
end
end
section
set_option linter.unnecessarySimpa false
def RdOk:Nat->List YL->Prop
 |0,_=>True
 |_+1,[]=>True
 |f+1,p::r=>(wM p≠none->OkT (r.take (ext r)).flatten)/\(r.take (ext r)).flatten.length<=1000000/\ext r<=5000/\RdOk f (r.drop (ext r))
theorem ext_le:∀ l:List YL,ext l<=l.length
 | []=>Nat.le_refl _
 |p::r=>by
  rw [ext]
  split
  ·exact Nat.zero_le _
  ·have:=ext_le r;rw [List.length_cons];omega
theorem any_place {l:List Et}{n:YL}{v:Ver}:l.any (gO n v)=true↔y8 l n v≠ -1:=by
 constructor
 ·intro q h
  obtain ⟨e,he,hq⟩:=List.any_eq_true.1 q
  rw [place_none.1 h e he] at hq;cases hq
 ·intro h
  obtain ⟨i,hi,_,h1,_⟩:=place_some h
  exact List.any_eq_true.2 ⟨l[i],List.getElem_mem hi,h1⟩
def ReadB (ls:List YL)(v:Value)(ob:List Blk):Prop:=∃ (A:Option Addr) (c:Nat) (es:List Ev) (o1 o2:List Blk),v= .tuple #[.slice A es.length c,YI (vN ls.length ls 0 []).2.1,YI ((vN ls.length ls 0 []).2.2:Int)]/\es.map Ev.et=(vN ls.length ls 0 []).1/\ob=o1++o2/\LsO 69 11 evC (λe o=>RecO e.rec' o) A c es o1 o2
structure RdI (ls:List YL)(k f:Nat)(A:Option Addr)(c:Nat)(es:List Ev)(o1 o2:List Blk):Prop where
 le:k<=ls.length
 fu:ls.length-k<=f
 ok:RdOk f (ls.drop k)
 res:vN f (ls.drop k) k (es.map Ev.et)=vN ls.length ls 0 []
 own:LsO 69 11 evC (λe o=>RecO e.rec' o) A c es o1 o2
 all:∀ e∈es,okE e.et
 few:es.length<=64
theorem es_in {A:Option Addr}{c:Nat}{es:List Ev}{o1 o2 L:List Blk}{M:List Nat}{W w:World}(h:LsO 69 11 evC (λe o=>RecO e.rec' o) A c es o1 o2)(ha:∀ e∈es,okE e.et)(hn:es.length<=64)(hO:Own M W w L)(hs:∀ b∈o1++o2,b∈L):EsIn w w.heap.size A es:=
 ⟨Sl.reads h.top rfl hO λb hb=>hs b (List.mem_append_left _ hb),λe he=>by
  obtain ⟨o,h1,h2⟩:=h.each e he
  have hB:=chk_bnd (ha e he).1
  exact h1.inn hO (λb hb=>hs b (List.mem_append_right _ (h2 b hb))) hB.1 hB.2,by omega⟩
theorem rd_any (A:Option Addr)(cap:Nat)(ls:List YL)(W:World)(hv:Reads zW W W.heap.size A ls)(hcap:ls.length<=cap)(hn:ls.length<=600000)(hx:∀ x∈ls,x.length<=600000/\x≠[])(hK:RecLib W)(hL:LyAt W)(hOk:RdOk ls.length ls):YC 48 #[.slice A ls.length cap] W λe w'=>∃ v ob,e= .returned v/\ReadB ls v ob/\Own [] W w' ob:=by
 refine zD Tryz.func48 (x_scope [] (x_label [] ?_))
 refine zT (α:=Nat×Nat×Option Addr×Nat×List Ev×List Blk×List Blk) (λ(k,f,A',c,es,o1,o2)=>[(0,.slice A ls.length cap),(5,.slice A' es.length c),(6,YI 0),(7,YI (k:Int))]) (λ(k,f,A',c,es,o1,o2)=>o1++o2) (λ(k,f,A',c,es,o1,o2) m=>RdI ls k f A' c es o1 o2/\m=ls.length-k) (0,ls.length,none,0,[],[],[]) ls.length [] ⟨⟨Nat.zero_le _,Nat.le_refl _,hOk,rfl,LsO.nil,(λe h=>by cases h),Nat.zero_le _⟩,rfl⟩ ?_
 rintro ⟨k,f,A',c,es,o1,o2⟩ mm g kk ⟨hI,hmm⟩ nx hkk
 subst hkk
 obtain ⟨hk,hfu,hok,hres,hown,hall,hfew⟩:=hI
 have hfin:∀ (z:Int) (w:World),vN ls.length ls 0 []=(es.map Ev.et,z,k)->Own [] W w (o1++o2)→∃ v ob,Ending.returned (.tuple #[.slice A' es.length c,YI z,YI (k:Int)])= .returned v/\ReadB ls v ob/\Own [] W w ob:=λz w e hO=>⟨_,_,rfl,⟨A',c,es,o1,o2,by rw [e],by rw [e],rfl,hown⟩,hO⟩
 refine zG 14 [] ((k:Int)<(ls.length:Int)) (λh14=> ?_) (λh14=> ?_)
 rotate_left
 ·have hd:ls.drop k=[]:=List.drop_of_length_le Om
  rw [hd] at hres
  exact gL [] (.slice A' es.length c) (YI 0) (YI (k:Int)) λw hO=>hfin 0 w (by rw [←hres];cases f<;>rfl) (hO.past 0 _)
 have hj:k<ls.length:=by omega
 obtain ⟨f,rfl⟩:∃ g,f=g+1:=⟨f-1,by omega⟩
 have hdr:ls.drop k=ls[k]::ls.drop (k+1):=List.drop_eq_getElem_cons hj
 obtain ⟨eb,eo,hA,hel⟩:=hv.elem zR k hj
 have hel0:∀ w,YB W w->(loadVar 9 ⟨eb,eo+k*1+0,none⟩).run YP w= .ok (.string (mkS ls[k])) w:=λw hw=>hel w hw _ 0 _ Kr
 have hp:=(hx _ (List.getElem_mem hj)).1
 have hvk:∀ w,YB W w->Reads zW w w.heap.size (some ⟨eb,eo+(if cap=k then 0 else k*1),none⟩) (ls[k]::ls.drop (k+1)):=λw hw=>by
  rw [←hdr];exact Reads.from_ zR (hA▸hv.on hw hw.size) hcap k
 have hvr:∀ w,YB W w->Reads zW w w.heap.size (some ⟨eb,eo+(if cap=k+1 then 0 else (k+1)*1),none⟩) ((ls.drop (k+1)).take (ext (ls.drop (k+1)))):=λw hw=>(Reads.from_ zR (hA▸hv.on hw hw.size) hcap (k+1)).front _
 have hxr:∀ x∈ls.drop (k+1),x.length<=600000/\x≠[]:=λx h=>hx x (List.mem_of_mem_drop h)
 have hrl:(ls.drop (k+1)).length=ls.length-(k+1):=List.length_drop ..
 have hd2:ls.drop (k+(ext (ls.drop (k+1))+1))=(ls.drop (k+1)).drop (ext (ls.drop (k+1))):=by rw [List.drop_drop];congr 1;omega
 rw [hdr] at hok hres
 have hext:=ext_le (ls.drop (k+1))
 generalize ls.drop (k+1)=r at*
 generalize ls[k]=p at*
 obtain ⟨hk1,hk2,hk3,hk4⟩:=hok
 have htl:(r.take (ext r)).length=ext r:=by rw [List.length_take];omega
 have cX:∀ w,YB W w->YC 86 #[.slice (some ⟨eb,eo+(if cap=k then 0 else k*1),none⟩) (r.length+1) (cap-k)] w (YR (YI ((ext r+1:Nat):Int)) w):=λw hw=>ex_any _ _ p r w (hvk w hw) Om (λx h=>by
  rcases List.mem_cons.1 h with rfl|h
  ·exact hp
  ·exact (hxr x h).1)
 have cE:∀ w,YB W w->YC 87 #[.string (mkS p),.slice (some ⟨eb,eo+(if cap=k+1 then 0 else (k+1)*1),none⟩) (ext r) (cap-(k+1))] w λe w'=>∃ v ob,e= .returned v/\EntB p (r.take (ext r)).flatten v ob/\Own [] w w' ob:=λw hw=>by
  have h:=en_any p _ (cap-(k+1)) (r.take (ext r)) w hp (hvr w hw) Om (λx h=>Nat.le_trans (hxr x (List.mem_of_mem_take h)).1 (by decide)) (λx h=>(hxr x (List.mem_of_mem_take h)).2) Om hk2 (hK.on hw) (hL.on hw) hk1
  rw [htl] at h;exact h
 have hstep:vN (f+1) (p::r) k (es.map Ev.et)=if (dN p (r.take (ext r)).flatten).1≠0 then (es.map Ev.et,(dN p (r.take (ext r)).flatten).1,k) else if pF (es.map Ev.et) (dN p (r.take (ext r)).flatten).2≠0 then (es.map Ev.et,pF (es.map Ev.et) (dN p (r.take (ext r)).flatten).2,k) else vN f (r.drop (ext r)) (k+(ext r+1)) (es.map Ev.et++[(dN p (r.take (ext r)).flatten).2]):=rfl
 rw [hstep] at hres
 refine x_sllo 18 [] hA ls.length cap 1 (k:Int) Om Om (.slice (some ⟨eb,eo+(if cap=k then 0 else k*1),none⟩) (r.length+1) (cap-k)) (by rw [Int.toNat_natCast,show ls.length-k=r.length+1 by omega]) (z7 (v:=YI ((ext r+1:Nat):Int)) [] (λw hO=>cX w hO.below) (x_i 20 [] ((k+(ext r+1):Nat):Int) ?_))
 generalize hT:o1++o2=T at*
 refine dJ 15 [] (qJ 50024 [] 2 hA ls.length cap k 1 hj (qT 50025 [] 3 9 eb (eo+k*1+0) (.string (mkS p)) (λw hO=>hel0 w hO.below) (x_i 28 [] ((k+1:Nat):Int) (xh_slm 50030 [] 8 hA ls.length cap 1 ((k+1:Nat):Int) ((k+(ext r+1):Nat):Int) Om Om Om (.slice (some ⟨eb,eo+(if cap=k+1 then 0 else (k+1)*1),none⟩) (ext r) (cap-(k+1))) (by rw [Int.toNat_natCast,Int.toNat_natCast,show k+(ext r+1) -(k+1)=ext r by omega]) ?_))))
 refine x_h2 [] 9 13 (yU (R:=EntB p (r.take (ext r)).flatten) (λw hO=>cE w hO.below) ?_) (wR λb9=>zX [] 9 (yU (R:=EntB p (r.take (ext r)).flatten) (λw hO=>cE w hO.below) ?_))
 ·rintro _ ob ⟨u,rfl,hu⟩
  refine zX [] 13 (wR λb9=>zX [] 14 (xh_sto 0 ⟨b9,(evV hv0E).cells,69⟩ 0 11 (evV u) (⟨b9,(evV hv0E).cells,69⟩::(T++ob)) T (by show 0+11<=11;decide) (λw hO=>(hO.past 1 (T++ob)).sublist (List.sublist_append_left _ _)) ?_))
  refine gE 36 [] ((dN p (r.take (ext r)).flatten).1=0) (λh36=> ?_) (λh36=> ?_)
  rotate_left
  ·exact gL [] (.slice A' es.length c) (YI (dN p (r.take (ext r)).flatten).1) (YI (k:Int)) λw hO=>hfin _ w (by rw [←hres,if_pos h36]) ((hO.past 1 (T++ob)).sublist (List.sublist_append_left _ _))
  obtain ⟨h1,h2,h3,h4,h5⟩:=hu h36
  rw [if_neg (λq=>q h36),←h1] at hres
  have cH:∀ w,Own [] W w (T++ob)->YC 88 #[.slice A' es.length c,rvV u.rec'] w (YR (.bool ((es.map Ev.et).any (gO u.rec'.name u.rec'.ver))) w):=λw hO=>hasI_any A' c es u.rec' w (es_in hown hall hfew hO λb hb=>List.mem_append_left _ (hT▸hb)) (λe he=>(yS (hall e he).1).2.1) (yS h5.1).2.1 (Nat.le_trans h3.pre (by decide)) (Nat.le_trans h3.bld (by decide))
  refine z7 (v:= .bool ((es.map Ev.et).any (gO u.rec'.name u.rec'.ver))) [0] (λw hO=>cH w (hO.past 1 (T++ob))) (zV 42 ((es.map Ev.et).any (gO u.rec'.name u.rec'.ver)) (λh42=> ?_) (λh42=> ?_))
  ·have ha:pF (es.map Ev.et) u.et=8:=if_pos (any_place.1 h42)
   exact gL [] (.slice A' es.length c) (YI 8) (YI (k:Int)) λw hO=>hfin 8 w (by rw [←hres,ha,if_pos (by decide)]) ((hO.past 1 (T++ob)).sublist (List.sublist_append_left _ _))
  have hpl:¬ y8 (es.map Ev.et) u.et.rc.name u.et.rc.ver≠ -1:=λq=>by
   have q2:(es.map Ev.et).any (gO u.rec'.name u.rec'.ver)=true:=any_place.2 q
   rw [q2] at h42;cases h42
  refine zG 46 [] ((es.length:Int)=64) (λh46=> ?_) (λh46=> ?_)
  ·have ha:pF (es.map Ev.et) u.et=10:=by unfold pF;rw [if_neg hpl,if_pos (by rw [List.length_map];omega)]
   exact gL [] (.slice A' es.length c) (YI 10) (YI (k:Int)) λw hO=>hfin 10 w (by rw [←hres,ha,if_pos (by decide)]) ((hO.past 1 (T++ob)).sublist (List.sublist_append_left _ _))
  have ha:pF (es.map Ev.et) u.et=0:=by unfold pF;rw [if_neg hpl,if_neg (by rw [List.length_map];omega)]
  rw [ha,if_neg (λq=>q rfl)] at hres
  subst hT
  refine vL [0] 1 69 (evV u).cells λgl=>(m6 (T:=69) (sz:=11) (m:=1) (cp:=1) [] [⟨gl,(evV u).cells,69⟩,⟨b9,(evV u).cells,69⟩] o1 (o2++ob) 0 (⟨gl,(evV u).cells,69⟩::⟨b9,(evV u).cells,69⟩::((o1++o2)++ob)) (λw hO=>hO.cast (by simp)) hown.top Om λv' o1' hS=> ?_)
  obtain ⟨A2,c2,rfl⟩:=Sl.form hS
  refine xY 5 [] (.slice A2 (es.length+1) c2) (.slice A2 (es++[u]).length c2) (by rw [List.length_append,List.length_singleton]) (zQ [] (o1'++(o2++ob)) (λw hO=>hO.past 2 _) ?_)
  exact nx (k+(ext r+1),f,A2,c2,es++[u],o1',o2++ob) (ls.length-(k+(ext r+1))) [] Om ⟨⟨by omega,by omega,by rw [hd2];exact hk4,by rw [hd2,List.map_append,List.map_singleton];exact hres,hown.add hS h2,λe he=>by
   rcases List.mem_append.1 he with he|he
   ·exact hall e he
   ·rw [List.mem_singleton.1 he];exact h5,by rw [List.length_append,List.length_singleton];omega⟩,rfl⟩ Kr Kr
 ·rintro _ ob ⟨u,rfl,hu⟩
  refine zX [] 14 (xh_sto 0 ⟨b9,(evV hv0E).cells,69⟩ 0 11 (evV u) (⟨b9,(evV hv0E).cells,69⟩::(T++ob)) T (by show 0+11<=11;decide) (λw hO=>(hO.past 1 (T++ob)).sublist (List.sublist_append_left _ _)) ?_)
  refine gE 36 [] ((dN p (r.take (ext r)).flatten).1=0) (λh36=> ?_) (λh36=> ?_)
  rotate_left
  ·exact gL [] (.slice A' es.length c) (YI (dN p (r.take (ext r)).flatten).1) (YI (k:Int)) λw hO=>hfin _ w (by rw [←hres,if_pos h36]) ((hO.past 1 (T++ob)).sublist (List.sublist_append_left _ _))
  obtain ⟨h1,h2,h3,h4,h5⟩:=hu h36
  rw [if_neg (λq=>q h36),←h1] at hres
  have cH:∀ w,Own [] W w (T++ob)->YC 88 #[.slice A' es.length c,rvV u.rec'] w (YR (.bool ((es.map Ev.et).any (gO u.rec'.name u.rec'.ver))) w):=λw hO=>hasI_any A' c es u.rec' w (es_in hown hall hfew hO λb hb=>List.mem_append_left _ (hT▸hb)) (λe he=>(yS (hall e he).1).2.1) (yS h5.1).2.1 (Nat.le_trans h3.pre (by decide)) (Nat.le_trans h3.bld (by decide))
  refine z7 (v:= .bool ((es.map Ev.et).any (gO u.rec'.name u.rec'.ver))) [0] (λw hO=>cH w (hO.past 1 (T++ob))) (zV 42 ((es.map Ev.et).any (gO u.rec'.name u.rec'.ver)) (λh42=> ?_) (λh42=> ?_))
  ·have ha:pF (es.map Ev.et) u.et=8:=if_pos (any_place.1 h42)
   exact gL [] (.slice A' es.length c) (YI 8) (YI (k:Int)) λw hO=>hfin 8 w (by rw [←hres,ha,if_pos (by decide)]) ((hO.past 1 (T++ob)).sublist (List.sublist_append_left _ _))
  have hpl:¬ y8 (es.map Ev.et) u.et.rc.name u.et.rc.ver≠ -1:=λq=>by
   have q2:(es.map Ev.et).any (gO u.rec'.name u.rec'.ver)=true:=any_place.2 q
   rw [q2] at h42;cases h42
  refine zG 46 [] ((es.length:Int)=64) (λh46=> ?_) (λh46=> ?_)
  ·have ha:pF (es.map Ev.et) u.et=10:=by unfold pF;rw [if_neg hpl,if_pos (by rw [List.length_map];omega)]
   exact gL [] (.slice A' es.length c) (YI 10) (YI (k:Int)) λw hO=>hfin 10 w (by rw [←hres,ha,if_pos (by decide)]) ((hO.past 1 (T++ob)).sublist (List.sublist_append_left _ _))
  have ha:pF (es.map Ev.et) u.et=0:=by unfold pF;rw [if_neg hpl,if_neg (by rw [List.length_map];omega)]
  rw [ha,if_neg (λq=>q rfl)] at hres
  subst hT
  refine vL [0] 1 69 (evV u).cells λgl=>(m6 (T:=69) (sz:=11) (m:=1) (cp:=1) [] [⟨gl,(evV u).cells,69⟩,⟨b9,(evV u).cells,69⟩] o1 (o2++ob) 0 (⟨gl,(evV u).cells,69⟩::⟨b9,(evV u).cells,69⟩::((o1++o2)++ob)) (λw hO=>hO.cast (by simp)) hown.top Om λv' o1' hS=> ?_)
  obtain ⟨A2,c2,rfl⟩:=Sl.form hS
  refine xY 5 [] (.slice A2 (es.length+1) c2) (.slice A2 (es++[u]).length c2) (by rw [List.length_append,List.length_singleton]) (zQ [] (o1'++(o2++ob)) (λw hO=>hO.past 2 _) ?_)
  exact nx (k+(ext r+1),f,A2,c2,es++[u],o1',o2++ob) (ls.length-(k+(ext r+1))) [] Om ⟨⟨by omega,by omega,by rw [hd2];exact hk4,by rw [hd2,List.map_append,List.map_singleton];exact hres,hown.add hS h2,λe he=>by
   rcases List.mem_append.1 he with he|he
   ·exact hall e he
   ·rw [List.mem_singleton.1 he];exact h5,by rw [List.length_append,List.length_singleton];omega⟩,rfl⟩ Kr Kr
end
end Go.Proofs.YtflhcaljcoekpaaGreatDoor
