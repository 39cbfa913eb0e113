/-
 What the statement's proof leans on: the ways of walking, plain mathematics, and what the program's functions return; each theorem says on what conditions.
-/
import Derived.Lib.Bytealg
import Derived.ChangeArms
import Derived.Deep.Fields
import Derived.OpenShut
import Derived.DataReads
import Derived.ChangeOld
import Derived.Below
import Derived.ChangeSame
import Derived.ProofKit
import Derived.LaidSub
import Derived.Carry
import Derived.SliceStrings
import Derived.Lib.LaidTab
import Derived.Deep.DeepHandedRow
import Derived.Test.YteghandhpbmpgaaGreatDoorRC6
set_option maxRecDepth 1000000
set_option maxHeartbeats 8000000
set_option linter.unusedVariables false
set_option linter.unusedSimpArgs false
set_option linter.unnecessarySimpa false
namespace Go.Proofs.YteghandhpbmpgaaGreatDoor
open Go.RowKit

section
def lnH (r:List UInt8):List UInt8:=if (zA 10 r).2.2 then (zA 10 r).1++[10] else r
def lnR (r:List UInt8):List UInt8:=if (zA 10 r).2.2 then (zA 10 r).2.1 else []
theorem ix_cut (c:UInt8):∀ r:List UInt8,((zA c r).2.2=true/\Lib.indexByte r c=((zA c r).1.length:Int)/\r.take ((zA c r).1.length+1)=(zA c r).1++[c]/\r.drop ((zA c r).1.length+1)=(zA c r).2.1/\(zA c r).1.length<r.length)\/((zA c r).2.2=false/\Lib.indexByte r c= -1)
 | []=> .inr ⟨rfl,rfl⟩
 |b::r=>by
  unfold zA Lib.indexByte
  by_cases h:b=c
  ·subst h
   left
   simp
  ·have hb:(b==c)=false:=by simpa using h
   rw [if_neg h,hb,if_neg Bool.false_ne_true]
   rcases ix_cut c r with ⟨h1,h2,h3,h4,h5⟩|⟨h1,h2⟩
   ·left
    rw [h2]
    have hn:(((zA c r).1.length:Int)== -1)=false:=by simp
    rw [hn,if_neg Bool.false_ne_true]
    refine ⟨h1,by simp, ?_, ?_,by simpa using h5⟩
    ·simp only [List.length_cons,List.take_succ_cons,h3,List.cons_append]
    ·simp only [List.length_cons,List.drop_succ_cons,h4]
   ·right
    rw [h2]
    exact ⟨h1,by simp⟩
theorem lnR_len {r:List UInt8}(h:r≠[]):(lnR r).length<r.length:=by
 unfold lnR
 rcases ix_cut 10 r with ⟨h1,_,_,h4,h5⟩|⟨h1,_⟩
 ·rw [if_pos h1,←h4,List.length_drop];omega
 ·rw [h1,if_neg Bool.false_ne_true];exact List.length_pos_iff.2 h
section
variable {M:List Nat}{P:Program}{n:Nat}{W:World}{Q:Exit->Act->World->Prop}{c:Xc}
theorem xh_shi (t:Nat)(h:List Nat)(i:Nat)(s:List UInt8)(j:Int)(h0:0<=j)(h1:j<=s.length)(v:Value)(hv: .string (mkS (s.take j.toNat))=v)(hg:zF M P n W Q (xHn (xgo P n t h c) i v))
  (hkt:(xgl P n t h c,pW n i (xgo P n t h c),(shQ (xOi i (xgo P n t h c))).2.2.2,ev n (xgo P n t h c).f (shQ (xOi i (xgo P n t h c))).2.1,ev n (xgo P n t h c).f (shQ (xOi i (xgo P n t h c))).2.2.1,P.underlying (shQ (xOi i (xgo P n t h c))).1)
   =(xgr P n t h c,fF i (xgo P n t h c),true,.string (mkS s),YI j,some .string):=by kernel_rfl):zF M P n W Q c:=by
 simp only [Prod.mk.injEq] at hkt
 obtain ⟨hk,e1,e2,e3,e4,e5⟩:=hkt
 exact zK h c hk (xtake (λw _=>by rw [run_strhi (shQ_op e2) e3 e4 e5 h0 h1 w,hv]) hg e1)
theorem xh_slo (t:Nat)(h:List Nat)(i:Nat)(s:List UInt8)(j:Int)(h0:0<=j)(h1:j<=s.length)(v:Value)(hv: .string (mkS (s.drop j.toNat))=v)(hg:zF M P n W Q (xHn (xgo P n t h c) i v))
  (hkt:(xgl P n t h c,pW n i (xgo P n t h c),(slQ (xOi i (xgo P n t h c))).2.2.2,ev n (xgo P n t h c).f (slQ (xOi i (xgo P n t h c))).2.1,ev n (xgo P n t h c).f (slQ (xOi i (xgo P n t h c))).2.2.1,P.underlying (slQ (xOi i (xgo P n t h c))).1)
   =(xgr P n t h c,fF i (xgo P n t h c),true,.string (mkS s),YI j,some .string):=by kernel_rfl):zF M P n W Q c:=by
 simp only [Prod.mk.injEq] at hkt
 obtain ⟨hk,e1,e2,e3,e4,e5⟩:=hkt
 exact zK h c hk (xtake (λw _=>by rw [run_strlo (slQ_op e2) e3 e4 e5 h0 h1 w,hv]) hg e1)
end
def kL (B:Nat)(r:List UInt8):Blk:=⟨B, #[.string (mkS r)],9⟩
theorem ixb_any (r:List UInt8)(w:World):YC 180 #[.string (mkS r),.int .u8 10] w (YR (YI (Lib.indexByte r 10)) w):=
 (Tryz.strings_IndexByte _ _ w).mono λe w' ⟨h1,h2⟩=>⟨by rw [h1];rfl,h2▸Below.refl _ _⟩
theorem lines_any (l B:Nat)(J:List UInt8->World->Prop)(K:List UInt8->List UInt8->World->Prop)(Jx:World->Prop)
  (hJ:∀ r w,J r w->Own [B] w w [kL B r])
  (hS:∀ r w w',J r w->Own [B] w w' [kL B r]->J r w')
  (hT:∀ r w w',J r w->r≠[]->Own [B] w w' [kL B (lnR r)]->K (lnH r) (lnR r) w')
  (hX:∀ w w',Jx w->Below w.heap.size w w'->Jx w')
  (hY:∀ p r w,K p r w->YieldAt Fence.wide 1 Tryz.prog l #[.string (mkS p)] w λe w'=>(e= .returned (.bool true)/\J r w')\/(e= .returned (.bool false)/\Jx w'))
  (s:List UInt8) (W:World) (h0:J s W) (hs:s.length<=1000000):YC 179 #[.func (.yield l) #[] #[],.pointer (some ⟨B,0,none⟩)] W λe w'=>e= .returned (.tuple #[])/\(J [] w'\/Jx w'):=by
 refine zN (hJ s W h0) Tryz.func179 (x_loopW (α:=List UInt8) (λ_=>[(0,.func (.yield l) #[] #[]),(1,Zp B 0)]) (λ_=>[B]) (λr=>[kL B r]) (λr w m=>J r w/\r.length<=1000000/\m=r.length) s s.length [] (λw hO=>⟨⟨hS s W w h0 hO,hs,rfl⟩,(hJ s w (hS s W w h0 hO))⟩) ?_)
 rintro r w mm g ⟨hj,hr,rfl⟩ hO
 refine zB 7 [0] ((r.length:Int)>0) (λh7=> ?_) (λh7=> ?_)
 rotate_left
 ·have hnil:r=[]:=List.eq_nil_of_length_eq_zero Om
  subst hnil
  refine x_outW (.exit 0) [] (xN [] λw3 hO3=>⟨rfl,.inl (hS [] w w3 hj (hO3.past 0 [kL B []]))⟩) rfl
 have hne:r≠[]:=λe=>by rw [e] at h7;exact absurd h7 (by decide)
 have hround:∀ w',Own [B] w w' [kL B (lnR r)]->YieldAt Fence.wide 1 Tryz.prog l #[.string (mkS (lnH r))] w' λe w2=>(e= .returned (.bool true)/\J (lnR r) w2)\/(e= .returned (.bool false)/\Jx w2):=λw' hO'=>hY _ _ _ (hT r w w' hj hne hO')
 obtain ⟨z,hz⟩:∃ z,Lib.indexByte r 10=z:=⟨_,rfl⟩
 have hix:∀ w,YC 180 #[.string (mkS r),.int .u8 10] w (YR (YI z) w):=λw=>hz▸ixb_any r w
 have hcut:(0<=z/\z<r.length/\r.take (z+1).toNat=lnH r/\r.drop (z+1).toNat=lnR r)\/(z= -1/\lnH r=r/\lnR r=[]):=by
  unfold lnH lnR
  rcases ix_cut 10 r with ⟨c1,c2,c3,c4,c5⟩|⟨c1,c2⟩
  ·left
   rw [hz] at c2
   subst c2
   rw [c1,if_pos rfl,if_pos rfl]
   exact ⟨by omega,by omega,c3,c4⟩
  ·right
   rw [c1]
   exact ⟨hz.symm.trans c2,rfl,rfl⟩
 have hlen:=lnR_len hne
 refine z8 (v:=YI z) [0] (λw hO=>hix w) (zB 11 [] (z>=0) (λh11=> ?_) (λh11=> ?_))
 ·rcases hcut with ⟨q1,q2,q3,q4⟩|⟨q1,_⟩
  rotate_left
  ·exact absurd h11 Om
  refine gY 9 [] [kL B r] (λw hO=>Own.nth 0 (kL B r) hO) (x_i 14 [0] (z+1) (xh_shi 50015 [] 3 r (z+1) Om Om (.string (mkS (lnH r))) (by rw [q3]) (x_i 18 [0] (z+1) (xh_slo 50019 [] 7 r (z+1) Om Om (.string (mkS (lnR r))) (by rw [q4]) ?_))))
  refine x_yield (.s (.s (.s (.s (.s (.s (.s .z))))))) [0] l (.string (mkS (lnH r))) (.func (.yield l) #[] #[]) (.string (mkS (lnH r))) λw' hO'=> ?_
  obtain ⟨fn,tmps,assign,body,hy,hR⟩:=hround w' (hO'.past 0 [kL B (lnR r)])
  refine ⟨fn,tmps,assign,body,hy,hR.mono λe w2 h=> ?_⟩
  rcases h with ⟨rfl,hJ2⟩|⟨rfl,hx2⟩
  ·exact ⟨true,[B],[kL B (lnR r)],rfl,hJ _ _ hJ2,x_nxW (lnR r) (lnR r).length [] hlen λw3 hO3=>⟨⟨hS _ w2 w3 hJ2 (hO3.past 0 [kL B (lnR r)]),by omega,rfl⟩,hJ _ _ (hS _ w2 w3 hJ2 (hO3.past 0 [kL B (lnR r)]))⟩⟩
  ·exact ⟨false,[],[],rfl,Own.start [] w2,x_outW .ret [] (x_ret0 [] λw3 hO3=>⟨rfl,.inr (hX w2 w3 hx2 (hO3.past 0 []).below)⟩) rfl⟩
 ·rcases hcut with ⟨q1,_⟩|⟨q1,q2,q3⟩
  ·exact absurd h11 Om
  rw [q2,q3] at hround
  rw [q3] at hlen
  refine x_yield (.s (.s (.s (.s (.s (.s (.s (.s (.s (.s .z)))))))))) [0,0] l (.string (mkS r)) (.func (.yield l) #[] #[]) (.string (mkS r)) λw' hO'=> ?_
  obtain ⟨fn,tmps,assign,body,hy,hR⟩:=hround w' (hO'.past 0 [kL B []])
  refine ⟨fn,tmps,assign,body,hy,hR.mono λe w2 h=> ?_⟩
  rcases h with ⟨rfl,hJ2⟩|⟨rfl,hx2⟩
  ·exact ⟨true,[B],[kL B []],rfl,hJ _ _ hJ2,x_nxW [] 0 [] hlen λw3 hO3=>⟨⟨hS _ w2 w3 hJ2 (hO3.past 0 [kL B []]),by simp,rfl⟩,hJ _ _ (hS _ w2 w3 hJ2 (hO3.past 0 [kL B []]))⟩⟩
  ·exact ⟨false,[],[],rfl,Own.start [] w2,x_outW .ret [] (x_ret0 [] λw3 hO3=>⟨rfl,.inr (hX w2 w3 hx2 (hO3.past 0 []).below)⟩) rfl⟩
end
section
theorem Own.turn {M:List Nat}{W w:World}{L:List Blk}(h:Own M W w L){l:Nat}{o:Obj}(hl:W.heap.size<=l)(ho:w.heap[l]?=some o)(hc:o.isCells=false)(o':Obj):Own M W (w.putObj l o') L:=by
 refine ⟨h.os,h.tape,h.output,by rw [World.putObj_size];exact h.size,h.drawn,λk hk hm=>(World.putObj_heap_other Om).trans (h.kept k hk hm),λx hx=> ?_,h.base,h.apart⟩
 have hx':=h.held x hx
 refine (World.putObj_heap_other λe=> ?_).trans hx'
 rw [e,ho] at hx'
 cases hx';cases hc
theorem Own.lay {M:List Nat}{W w:World}{L:List Blk}(h:Own M W w L)(o:Obj):Own M W (w.alloc o) L:=h.on ((Below.refl _ w).alloc (Nat.le_refl _) o)
def mkQ (P:Program)(fn:Func)(R:Ending->World->Prop):Exit->Act->World->Prop
 | .normal,a,w| .ret,a,w=>LeavesInM Fence.wide 0 P fn a.tmps R a.defers .returning w
 |_,_,_=>False
theorem pq_mk {P:Program}{fn:Func}{R:Ending->World->Prop}:PQ (mkQ P fn R):=λc a d v w h=>h
theorem calls_mk {M:List Nat}{P:Program}{n:Nat}{W:World}{L:List Blk}{k:FuncId}{fn:Func}{c:Code}{args:Array Value}{R:Ending->World->Prop}(hO:Own M W W L)(hf:P.funcs[k]?=some fn)(hb:fn.body=some c)(hn:fn.ntmps=n)(hle:Nat.ble args.size n=true)
  (h:Ok M P n W (mkQ P fn R) c L (λt=>args.getD t undef)):Calls P k args W R:=by
 have hle':args.size<=n:=Nat.le_of_ble_eq_true hle
 have e:({tmps:=args++Array.replicate (fn.ntmps-args.size) undef,defers:=[]}:Act)=Fr n (λt=>args.getD t undef):=by
  unfold Fr
  congr 1
  rw [hn]
  apply Array.ext_getElem?
  intro i
  rw [Array.getElem?_ofFn,Array.getElem?_append,Array.getElem?_replicate]
  by_cases hi:i<args.size
  ·rw [if_pos hi,dif_pos Om];simp [Array.getD,hi]
  ·rw [if_neg hi]
   by_cases h2:i<n
   ·rw [dif_pos h2,if_pos Om];simp [Array.getD,hi]
   ·rw [dif_neg h2,if_neg Om]
 refine (callsIn_wide (n:=0)).1 (callsIn_of_wp_marks hf hb trivial (wpIn_wide.2 ?_) rfl)
 rw [e]
 refine wp_mono (h.go W hO) λex a w hq=> ?_
 cases ex with
 |normal=>exact hq
 |ret=>exact hq
 |_=>exact hq.elim
theorem x_enterM {M:List Nat}{P:Program}{W:World}{L:List Blk}{k:FuncId}{fn:Func}{args:Array Value}{R:Ending->World->Prop}(hO:Own M W W L)(hf:P.funcs[k]?=some fn)(hg:zF M P fn.ntmps W (mkQ P fn R) ⟨.code (fn.body.getD .skip),[],L,λt=>args.getD t undef⟩)
  (hb:fn.body.isSome=true:=by kernel_rfl) (hle:Nat.ble args.size fn.ntmps=true:=by kernel_rfl):Calls P k args W R:=by
 cases hb':fn.body with
 |none=>rw [hb'] at hb;cases hb
 |some b=>rw [hb'] at hg;exact calls_mk hO hf hb' rfl hle (hg.go pq_mk)
def rndQ (M1:List Nat)(B:Nat)(r:List UInt8)(rel:List UInt8->List Blk->Prop)(relx:List Blk->Prop)(Wr:World):Exit->Act->World->Prop
 | .normal,_,w=>∃ L',rel r L'/\Own M1 Wr w (kL B r::L')
 | .ret,_,w=>∃ L',relx L'/\Own M1 Wr w L'
 |_,_,_=>False
theorem pq_rnd {M1:List Nat}{B:Nat}{r:List UInt8}{rel:List UInt8->List Blk->Prop}{relx:List Blk->Prop}{Wr:World}:PQ (rndQ M1 B r rel relx Wr):=λc a d v w h=>h
theorem out_rnd {M1:List Nat}{B:Nat}{r:List UInt8}{rel:List UInt8->List Blk->Prop}{relx:List Blk->Prop}{Wr:World}{id:Nat}{K:Act->World->Prop}:¬ LetsOut (Exit.then K (Exit.inBlock id (rndQ M1 B r rel relx Wr))):=λ⟨_,_,h⟩=>h
theorem out_lend {M:List Nat}{W w w':World}{L L':List Blk}(h:Own M W w L)(h':Own (L.map Blk.b) w w' L'):Own M W w' L':=by
 have:=Own.back (R:=[]) (by rw [List.append_nil];exact h) h'
 rwa [List.append_nil] at this
theorem wY {w w':World}{L L':List Blk}{l:Nat}{o:Obj}(hh:∀ x∈L,w.heap[x.b]?=some (.cells x.cs x.ty))(h:Own (L.map Blk.b) w w' L')(ho:w.heap[l]?=some o)(hc:o.isCells=false):w'.heap[l]?=some o:=by
 refine (h.kept l (Array.getElem?_eq_some_iff.1 ho).1 λhm=> ?_).trans ho
 obtain ⟨x,hx,rfl⟩:=List.mem_map.1 hm
 rw [hh x hx] at ho
 cases ho;cases hc
theorem wp_lines {M:List Nat}{n:Nat}{Q:Exit->Act->World->Prop}{W0 w:World}{L0:List Blk}{f:Nat->Value}{g:Operand}{t B:Nat}{assign body:Code}{s:List UInt8}
  (hg:ev n f g= .func (.func 179) #[] #[.pointer (some ⟨B,0,none⟩)])
  (rel:List UInt8->List Blk->Prop) (relx:List Blk->Prop) (f1:List UInt8->Nat->Value)
  (hA:∀ (p:List UInt8) (l:Nat) (w:World) (K:Act->World->Prop),K (Fr n (f1 p)) w->assign.wpIn (Fence.wide.inRound l) 1 Tryz.prog (Exit.then K (λ_ _ _=>False)) {tmps:=(Fr n f).tmps.setIfInBounds t (.string (mkS p)),defers:=[]} w)
  (hB:∀ (r:List UInt8) (L:List Blk) (l:Nat) (Wr:World),r≠[]->rel r L->Own M W0 Wr (kL B (lnR r)::L)->body.wpIn (Fence.wide.inRound l) 1 Tryz.prog (rndQ ((kL B (lnR r)::L).map Blk.b) B (lnR r) rel relx Wr) (Fr n (f1 (lnH r))) Wr)
  (h0:rel s L0) (hO:Own M W0 w (kL B s::L0)) (hs:s.length<=1000000)
  (hdone:∀ D L w',W0.heap.size<=D->rel [] L->Own M W0 w' (kL B []::L)->w'.heap[D]?=some (.deferred (some []))->Q .normal {Fr n f with defers:=[{target:= .collected D,args:= #[]}]} w')
  (hret:∀ D L w',W0.heap.size<=D->relx L->Own M W0 w' L->w'.heap[D]?=some (.deferred (some []))->Q .ret {Fr n f with defers:=[{target:= .collected D,args:= #[]}]} w'):
  (Code.rangeFunc g #[t] assign body).wp Tryz.prog Q (Fr n f) w:=by
 refine (wpIn_wide (n:=1)).1 (wpIn_rangeFunc ?_)
 intro fn hfn
 obtain ⟨rc,hrc⟩:∃ rc:LoopState->Option Code->Loop,rc=λst pe=>{state:=st,pending:=pe,fn,tmps:=(Fr n f).tmps,params:= #[t],assign,body,defers:=w.heap.size}:=⟨_,rfl⟩
 obtain ⟨W1,hW1⟩:∃ W1,(w.alloc (.deferred (some []))).alloc (.loop (rc .ready none))=W1:=⟨_,rfl⟩
 obtain ⟨l,hl⟩:∃ l,w.heap.size+1=l:=⟨_,rfl⟩
 have hWl:W0.heap.size<=l:=by have:=hO.size;omega
 have hL1:W1.heap[l]?=some (.loop (rc .ready none)):=by
  rw [←hW1,←hl];have:=World.alloc_heap_new (w.alloc (.deferred (some []))) (.loop (rc .ready none));rwa [World.size_alloc] at this
 have hK1:W1.heap[w.heap.size]?=some (.deferred (some [])):=by
  rw [←hW1];exact (Below.heap_alloc _ _ _ (by simp)).trans (World.alloc_heap_new w _)
 have hO1:Own M W0 W1 (kL B s::L0):=by rw [←hW1];exact (hO.lay _).lay _
 have hD:=hO.size
 refine ⟨l,[{target:= .collected w.heap.size,args:= #[]}],W1,{target:= .fn (.func 179) #[Zp B 0],args:= #[.func (.yield l) #[] #[]]},W1,179, #[.func (.yield l) #[] #[],Zp B 0],W1, ?_, ?_,λ_ _=>trivial, ?_,λq=>(by cases q), ?_⟩
 ·rw [←hW1,←hl,hrc];exact run_enterLoop_outer _ _ _ _ _
 ·simp only [resolve,g8,hg]
  simp [go_sem]
  rfl
 ·simp [invoke,go_sem,enters_of Tryz.func179 Kr rfl]
 have hlt:∀ {w:World} {k:Nat} {o:Obj},w.heap[k]?=some o->k<w.heap.size:=λh=>(Array.getElem?_eq_some_iff.1 h).1
 refine (callsIn_wide.2 (lines_any l B (λr w'=>(∃ L,rel r L/\Own M W0 w' (kL B r::L))/\w'.heap[l]?=some (.loop (rc .ready none))/\w'.heap[w.heap.size]?=some (.deferred (some [])))
  (λp r' w'=>(∃ r L,r≠[]/\p=lnH r/\r'=lnR r/\rel r L/\Own M W0 w' (kL B (lnR r)::L))/\w'.heap[l]?=some (.loop (rc .ready none))/\w'.heap[w.heap.size]?=some (.deferred (some [])))
  (λw'=>(∃ L,relx L/\Own M W0 w' L)/\w'.heap[l]?=some (.loop (rc .done (some .ret)))/\w'.heap[w.heap.size]?=some (.deferred (some [])))
  (λr w1 ⟨⟨L,_,h⟩,_⟩=>(h.sublist (L':=[kL B r]) (List.cons_sublist_cons.2 (List.nil_sublist _))).lend)
  (λr w1 w2 ⟨⟨L,q,h⟩,h2,h3⟩ h'=>⟨⟨L,q,Own.back (ob:=[kL B r]) (ob':=[kL B r]) (R:=L) h h'⟩,wY (L:=[kL B r]) (λx hx=>h.held x (by rw [List.mem_singleton.1 hx];exact List.mem_cons_self ..)) h' h2 rfl,wY (L:=[kL B r]) (λx hx=>h.held x (by rw [List.mem_singleton.1 hx];exact List.mem_cons_self ..)) h' h3 rfl⟩)
  (λr w1 w2 ⟨⟨L,q,h⟩,h2,h3⟩ hne h'=>⟨⟨r,L,hne,rfl,rfl,q,Own.back (ob:=[kL B r]) (ob':=[kL B (lnR r)]) (R:=L) h h'⟩,wY (L:=[kL B r]) (λx hx=>h.held x (by rw [List.mem_singleton.1 hx];exact List.mem_cons_self ..)) h' h2 rfl,wY (L:=[kL B r]) (λx hx=>h.held x (by rw [List.mem_singleton.1 hx];exact List.mem_cons_self ..)) h' h3 rfl⟩)
  (λw1 w2 ⟨⟨L,q,h⟩,h2,h3⟩ hb=>⟨⟨L,q,h.on hb⟩,(hb.block _ (hlt h2)).trans h2,(hb.block _ (hlt h3)).trans h3⟩)
  ?_ s W1 ⟨⟨L0,h0,hO1⟩,hL1,hK1⟩ hs)).mono ?_
 ·rintro p r' w1 ⟨⟨r,L,hne,rfl,rfl,hrel,h⟩,h2,h3⟩
  have hy:=run_yield (P:=Tryz.prog) (args:= #[.string (mkS (lnH r))]) h2 (by rw [hrc];rfl)
  rw [hrc] at hy
  refine ⟨fn,(Fr n f).tmps.setIfInBounds t (.string (mkS (lnH r))),assign,body,by rw [hy];simp,roundIn_of_wpIn trivial (hA (lnH r) l w1 _ ?_)⟩
  refine ⟨_,run_beginRound h2 (by rw [hrc]), ?_⟩
  have h4:=h.turn hWl h2 rfl (.loop {rc .ready none with state:= .busy})
  have hl2:(w1.putObj l (.loop {rc .ready none with state:= .busy})).heap[l]?=some (.loop {rc .ready none with state:= .busy}):=World.putObj_heap_same (hlt h2)
  have hk2:(w1.putObj l (.loop {rc .ready none with state:= .busy})).heap[w.heap.size]?=some (.deferred (some [])):=(World.putObj_heap_other Om).trans h3
  refine wpIn_mono (hB r L l _ hne hrel h4) λe a w3 hp=> ?_
  cases e with
  |normal=>
   obtain ⟨L',q1,q2⟩:=hp
   have hl3:=wY h4.held q2 hl2 rfl
   have hk3:=wY h4.held q2 hk2 rfl
   exact ⟨_,_,run_endRound none hl3,.inl ⟨rfl,⟨L',q1,(out_lend h4 q2).turn hWl hl3 rfl _⟩,(World.putObj_heap_same (hlt hl3)).trans (by rw [hrc];rfl),(World.putObj_heap_other Om).trans hk3⟩⟩
  |ret=>
   obtain ⟨L',q1,q2⟩:=hp
   have hl3:=wY h4.held q2 hl2 rfl
   have hk3:=wY h4.held q2 hk2 rfl
   exact ⟨_,_,run_endRound (some .ret) hl3,.inr ⟨rfl,⟨L',q1,(out_lend h4 q2).turn hWl hl3 rfl _⟩,(World.putObj_heap_same (hlt hl3)).trans (by rw [hrc];rfl),(World.putObj_heap_other Om).trans hk3⟩⟩
  |_=>exact hp.elim
 ·rintro e w2 ⟨rfl,(⟨⟨L,q,h⟩,h2,h3⟩|⟨⟨L,q,h⟩,h2,h3⟩)⟩
  ·exact ⟨none,_,by have:=run_endLoop (P:=Tryz.prog) h2 (by rw [hrc];simp);rw [hrc] at this;exact this,hdone w.heap.size L _ hD q (h.turn hWl h2 rfl _) ((World.putObj_heap_other Om).trans h3)⟩
  ·exact ⟨some .ret,_,by have:=run_endLoop (P:=Tryz.prog) h2 (by rw [hrc];simp);rw [hrc] at this;exact this,wpIn_ret (hret w.heap.size L _ hD q (h.turn hWl h2 rfl _) ((World.putObj_heap_other Om).trans h3))⟩
end
section
def wB:Nat->Rt->Nat->Nat->List UInt8->Int×Rt×Nat
 |0,x,k,i,_=>(0,x,k)
 |f+1,x,k,i,r=>
  if r=[] then (0,x,k)
  else if (zA 10 r).2.2 then
   match xP x k (zA 10 r).1 lays with
   |some (y,kk)=>wB f y kk (i+1) (zA 10 r).2.1
   |none=>(((i+1:Nat):Int),x,k)
  else (((i+1:Nat):Int),x,k)
structure FewR (x:Rt)(m:Nat):Prop where
 n:x.needs.length<=m
 b:x.bars.length<=m
 f:x.fts.length<=m
 a:∀ n∈x.needs,n.any.length<=m
theorem FewR.up {x:Rt}{m m':Nat}(h:FewR x m)(hm:m<=m'):FewR x m':=⟨Nat.le_trans h.n hm,Nat.le_trans h.b hm,Nat.le_trans h.f hm,λn hn=>Nat.le_trans (h.a n hn) hm⟩
theorem dM {α:Type}(f:α->α):∀ l:List α,(yW f l).length=l.length
 | []=>rfl
 | [a]=>rfl
 |a::b::r=>by rw [yW,List.length_cons,dM f (b::r)];simp
theorem mN {α:Type}{f:α->α}{p:α->Prop}(hf:∀ y,p y->p (f y)):∀ {l:List α},(∀ y∈l,p y)→∀ y∈yW f l,p y
 | [],h=>h
 | [a],h=>λy hy=>by
  rw [yW,List.mem_singleton] at hy;rw [hy];exact hf a (h a (List.mem_singleton.2 rfl))
 |a::b::r,h=>λy hy=>by
  rw [yW] at hy
  rcases List.mem_cons.1 hy with rfl|hy
  ·exact h _ (List.mem_cons_self ..)
  ·exact mN hf (λz hz=>h z (List.mem_cons_of_mem _ hz)) y hy
theorem add_few {x:Rt}{m:Nat}(h:FewR x m)(kd:Nat)(ps:List (List UInt8)):FewR (mH x kd ps).1 (m+1):=by
 have h1:=h.up (Nat.le_succ m)
 unfold mH
 split
 ·exact ⟨h1.n,h1.b,h1.f,h1.a⟩
 ·refine ⟨by rw [List.length_append];exact Nat.succ_le_succ h.n,h1.b,h1.f,λn hn=> ?_⟩
  rcases List.mem_append.1 hn with hn|hn
  ·exact h1.a n hn
  ·rw [List.mem_singleton.1 hn];exact Nat.zero_le _
 ·refine ⟨by rw [dM];exact h1.n,h1.b,h1.f,λn hn=> ?_⟩
  have key:∀ {l:List Nt},(∀ y∈l,y.any.length<=m)→∀ y∈yW (λn=>{n with any:=n.any++[anyW ps (ps.getD 4 [])]}) l,y.any.length<=m+1:=by
   intro l
   induction l with
   |nil=>intro _ y hy;cases hy
   |cons a r ih=>
    intro hl y hy
    cases r with
    |nil=>
     rw [yW,List.mem_singleton] at hy
     rw [hy];show (a.any++_).length<=_
     rw [List.length_append];exact Nat.succ_le_succ (hl a (List.mem_singleton.2 rfl))
    |cons b r=>
     rw [yW] at hy
     rcases List.mem_cons.1 hy with rfl|hy
     ·exact Nat.le_succ_of_le (hl _ (List.mem_cons_self ..))
     ·exact ih (λz hz=>hl z (List.mem_cons_of_mem _ hz)) y hy
  exact key h.a n hn
 ·exact ⟨by rw [dM];exact h1.n,h1.b,h1.f,mN (f:=λn:Nt=>{n with wh:=ps.getD 1 []}) (p:=λn:Nt=>n.any.length<=m+1) (λy hy=>hy) h1.a⟩
 ·exact ⟨by rw [dM];exact h1.n,h1.b,h1.f,mN (f:=λn:Nt=>{n with opt:=ps.getD 1 []}) (p:=λn:Nt=>n.any.length<=m+1) (λy hy=>hy) h1.a⟩
 ·exact ⟨h1.n,by rw [List.length_append];exact Nat.succ_le_succ h.b,h1.f,h1.a⟩
 ·exact ⟨h1.n,by rw [dM];exact h1.b,h1.f,h1.a⟩
 ·exact ⟨h1.n,h1.b,by rw [List.length_append];exact Nat.succ_le_succ h.f,h1.a⟩
 ·exact h1
theorem take_few {x y:Rt}{m k kk:Nat}{s:List UInt8}(h:FewR x m):∀ {L:List La},xP x k s L=some (y,kk)->FewR y (m+1)
 | [],e=>by cases e
 |l::r,e=>by
  rw [xP] at e
  split at e
  ·split at e
   ·simp only [Option.some.injEq,Prod.mk.injEq] at e
    rw [←e.1];exact add_few h _ _
   ·cases e
  ·exact take_few h e
theorem take_inv {x y:Rt}{k kk:Nat}{s:List UInt8}(hI:InvA x k)(h:xP x k s lays=some (y,kk)):InvA y kk/\tQ ⟨x,stg k⟩ s=some ⟨y,stg kk⟩:=by
 have:=take_line hI s
 rw [h] at this
 cases hl:tQ ⟨x,stg k⟩ s with
 |none=>rw [hl] at this;exact this.elim
 |some z=>rw [hl] at this;exact ⟨this.2,by rw [this.1]⟩
theorem take_not {x:Rt}{k:Nat}{s:List UInt8}(hI:InvA x k)(h:xP x k s lays=none):tQ ⟨x,stg k⟩ s=none:=by
 have:=take_line hI s
 rw [h] at this
 cases hl:tQ ⟨x,stg k⟩ s with
 |none=>rfl
 |some z=>rw [hl] at this;exact this.elim
theorem resA_read:∀ (f:Nat) (x:Rt) (k i:Nat) (r:List UInt8),InvA x k->r.length<=f→
  let ls:=zD 10 [] r
  ((wB f x k i r).1=0->InvA (wB f x k i r).2.1 (wB f x k i r).2.2/\runS ⟨x,stg k⟩ ls.dropLast=some ⟨(wB f x k i r).2.1,stg (wB f x k i r).2.2⟩/\ls.getLast?=some [])
  /\((wB f x k i r).1≠0->(runS ⟨x,stg k⟩ ls.dropLast=none/\(wB f x k i r).1=badS ⟨x,stg k⟩ i ls.dropLast)\/((∃ y,runS ⟨x,stg k⟩ ls.dropLast=some y)/\ls.getLast?≠some []/\(wB f x k i r).1=((i+ls.length:Nat):Int)))
 |f,x,k,i,[],hI,_=>by
  have e:wB f x k i []=(0,x,k):=by cases f with
   |zero=>rfl
   |succ f=>rw [wB,if_pos rfl]
  rw [e]
  exact ⟨λ_=>⟨hI,rfl,rfl⟩,λh=>absurd rfl h⟩
 |0,x,k,i,c::r,hI,h=>by simp at h
 |f+1,x,k,i,c::t,hI,hf=>by
  obtain ⟨r,hr⟩:∃ r,c::t=r:=⟨_,rfl⟩
  have hne:r≠[]:=by rw [←hr];simp
  rw [hr] at hf ⊢
  have hsp:=x9 10 r []
  rw [List.nil_append] at hsp
  rw [wB,if_neg hne]
  cases hq:(zA 10 r).2.2 with
  |false=>
   rw [hq,if_neg Bool.false_ne_true] at hsp
   have hb:=mC 10 r
   rw [hq,if_neg Bool.false_ne_true,List.append_nil] at hb
   rw [if_neg Bool.false_ne_true,hsp]
   refine ⟨λh=>absurd h (by show ((i+1:Nat):Int)≠0;omega),λ_=> .inr ⟨⟨_,rfl⟩, ?_,rfl⟩⟩
   show some (zA 10 r).1≠some []
   rw [←hb];simpa using hne
  |true=>
   have hl:=dA 10 r
   rw [hq,if_pos rfl] at hl hsp
   rw [if_pos rfl,hsp]
   have hsne:zD 10 [] (zA 10 r).2.1≠[]:=qR 10 _ _
   obtain ⟨L,hL⟩:∃ L,zD 10 [] (zA 10 r).2.1=L:=⟨_,rfl⟩
   have hd:((zA 10 r).1::L).dropLast=(zA 10 r).1::L.dropLast:=List.dropLast_cons_of_ne_nil (hL▸hsne)
   have hg:((zA 10 r).1::L).getLast?=L.getLast?:=by
    rw [hL] at hsne
    cases L with
    |nil=>exact absurd rfl hsne
    |cons a b=>simp [List.getLast?_cons_cons]
   rw [hL]
   dsimp only
   rw [hd,hg]
   cases ht:xP x k (zA 10 r).1 lays with
   |none=>
    have hn:=take_not hI ht
    refine ⟨λh=>absurd h (by show ((i+1:Nat):Int)≠0;omega),λ_=> .inl ⟨?_, ?_⟩⟩
    ·rw [runS,hn]
    ·rw [badS,hn]
   |some yk=>
    obtain ⟨y,kk⟩:=yk
    obtain ⟨hI',hs⟩:=take_inv hI ht
    have ih:=resA_read f y kk (i+1) (zA 10 r).2.1 hI' Om
    rw [hL] at ih
    dsimp only at ih ⊢
    rw [runS,badS,hs]
    refine ⟨ih.1,λh=> ?_⟩
    rcases ih.2 h with ⟨q1,q2⟩|⟨q1,q2,q3⟩
    ·exact .inl ⟨q1,q2⟩
    ·refine .inr ⟨q1,q2, ?_⟩
     rw [q3,List.length_cons];congr 1;omega
theorem inv_nil:InvA fI 0:=⟨by decide,λ_=>rfl,λh=>absurd h (by decide),λh=>absurd h (by decide)⟩
def fK (s:List UInt8):Int:=if s=[] then 1 else (wB s.length fI 0 0 s).1
def recA (s:List UInt8):Rt:=(wB s.length fI 0 0 s).2.1
theorem stg_zero {k:Nat}(h:k<=8):stg k=0↔k=0:=by
 have:∀ j,j<=8->(stg j=0↔j=0):=by decide
 exact this k h
end
section
set_option linter.unnecessarySimpa false
def findRF:Code->Code×Code
 | .rangeFunc _ _ a b=>(a,b)
 | .seq x y=>match findRF x with
  |(.skip,.skip)=>findRF y
  |r=>r
 | .block _ x=>findRF x
 |_=>(.skip,.skip)
def mB (i:Nat):Code->Array Oper
 | .region j a _=>if j=i then a else #[]
 | .seq x y=>if (mB i x).size=0 then mB i y else mB i x
 | .cond _ x y=>if (mB i x).size=0 then mB i y else mB i x
 | .block _ x=>mB i x
 | .rangeFunc _ _ x y=>if (mB i x).size=0 then mB i y else mB i x
 |_=> #[]
section
variable {M:List Nat}{P:Program}{n:Nat}{W:World}{Q:Exit->Act->World->Prop}{c:Xc}
theorem x_range (h:List Nat){g:Operand}{t:Nat}(assign body rest:Code)(lv:List (Nat×Value))(L1:List Blk)(hs:∀ w f,Own M W w L1->(Code.rangeFunc g #[t] assign body).wp P (Exit.inBlock 0 (Exit.then (rest.wp P Q) Q)) (Fr n (bX f lv)) w)
  (hkt:(xgl P n nS h c,(xgo P n nS h c).top,(xgo P n nS h c).k,(xgo P n nS h c).L,xV (xgo P n nS h c).f lv)=(xgr P n nS h c,.code (.rangeFunc g #[t] assign body),[.blk 0,.code rest],L1,lv.map Prod.snd):=by kernel_rfl):zF M P n W Q c:=by
 simp only [Prod.mk.injEq] at hkt
 obtain ⟨hk,e1,e2,e3,e4⟩:=hkt
 refine zK h c hk ?_
 generalize xgo P n nS h c=d at*
 obtain ⟨top,kk,L,f⟩:=d
 dsimp only at e1 e2 e3 e4
 subst e1;subst e2;subst e3
 exact ⟨λ_=>⟨λw hO=>by have:=hs w f hO;rw [←qQ _ (gW e4)] at this;exact this⟩⟩
theorem x_retM {fn:Func}{R:Ending->World->Prop}(h:List Nat)(i:Nat)(v:Value)(hR:∀ w,Own M W w (xgo P n nS h c).L->R (.returned v) w)(hkt:(xgl P n nS h c,((xgo P n nS h c).top,(xgo P n nS h c).k,fn.results,(xgo P n nS h c).L[i]?,ev n (xgo P n nS h c).f (.tmp (xRt fn 0)),yY P (xRy fn 0) (vC (xgo P n nS h c).L i).cs 0))=(xgr P n nS h c,(.fin .ret,[], #[.cell (xRt fn 0) (xRy fn 0)],some (vC (xgo P n nS h c).L i),.pointer (some ⟨(vC (xgo P n nS h c).L i).b,0,none⟩),some v)):=by kernel_rfl):zF M P n W (mkQ P fn R) c:=by
 obtain ⟨hk,ht⟩:=Prod.mk.inj hkt
 refine zK h c hk ?_
 generalize xgo P n nS h c=d at hR ht ⊢
 obtain ⟨top,kk,L,f⟩:=d
 simp only [Prod.mk.injEq] at ht
 obtain ⟨rfl,rfl,e3,e4,e5,e6⟩:=ht
 exact ⟨λ_=>⟨λw hO=>(((fin_cell (M:=M) (P:=P) (n:=n) (W:=W) (R:=R) i _ v e3 e4 e5 e6 hR).go w hO).2)⟩⟩
end
theorem results_cellB {P:Program}{n:Nat}{f:Nat->Value}{fn:Func}{p:Tmp}{ty:TypeId}{x:Blk}{v:Value}{w:World}(hres:fn.results= #[.cell p ty])(hp:ev n f (.tmp p)= .pointer (some ⟨x.b,0,none⟩))(hx:w.heap[x.b]?=some (.cells x.cs x.ty))(hv:yY P ty x.cs 0=some v):(results fn (Fr n f).tmps).run P w= .ok v w:=by
 have e:(Fr n f).tmps.getD p undef= .pointer (some ⟨x.b,0,none⟩):=(kT n f p).trans hp
 have hr:=yX hv hx
 have e':(Fr n f).tmps[p]?.getD undef= .pointer (some ⟨x.b,0,none⟩):=by simpa using e
 simp [results,hres,e',asAddr,hr]
theorem leave_mark {P:Program}{fn:Func}{R:Ending->World->Prop}{tmps:Array Value}{w:World}{D:Nat}{v:Value}(hK:w.heap[D]?=some (.deferred (some [])))(hres:(results fn tmps).run P (w.putObj D (.deferred none))= .ok v (w.putObj D (.deferred none)))(hR:R (.returned v) (w.putObj D (.deferred none))):LeavesInM Fence.wide 0 P fn tmps R [{target:= .collected D,args:= #[]}] .returning w:=
 ⟨by simp,.inl ⟨_,_,rfl,run_takeDeferred hK,v,hres,hR⟩⟩
theorem store_marks {P:Program}{n id i off:Nat}{f:Nat->Value}{o:Oper}{ds:List Deferred}{Q:Exit->Act->World->Prop}{M:List Nat}{W w:World}{L:List Blk}(x:Blk){T:TypeId}{t:TypeInfo}{p q:Operand}(v:Value)(hw:zS #[o] n f o=true)(ho:o.op= .store T p q)(hd:o.dst=none)(hL:L[i]?=some x)
  (hp:ev n f p= .pointer (some ⟨x.b,off,none⟩)) (hq:ev n f q=v) (hi:P.info? T=some t) (hs:v.cells.size=t.size) (hle:off+t.size<=x.cs.size) (h1:∀ u∈v.cells.toList,u.oneCell'=true) (hO:Own M W w L)
  (h:∀ w',Own M W w' (L.set i ⟨x.b,zR x.cs off v.cells,x.ty⟩)->(∀ k,k≠x.b->w'.heap[k]?=w.heap[k]?)->Q .normal {Fr n f with defers:=ds} w'):(Code.region id #[o] false).wp P Q {Fr n f with defers:=ds} w:=by
 have hst:=run_storeCells_at (P:=P) x.b off x.ty v.cells.toList 0 x.cs w (hO.get hL) (by simp;omega) h1
 have hr:(execOp (ev n f) o).run P w= .ok .skip (w.setRow x.b (zR x.cs off v.cells)):=by
  unfold execOp
  simp only [ho,hp,hq,Instr.storeAt,Instr.sureAddr,Sem.run_bind,Sem.run_pure,Result.andThen_ok,storeVar,sizeOf,typeInfo,hi,hs,run_program]
  simp only [ne_eq,not_true_eq_false,if_false]
  have:(storeCells ⟨x.b,off,none⟩ v.cells.toList).run P w= .ok () (w.setRow x.b (zR x.cs off v.cells)):=by
   rw [hst];unfold zR;simp
  simp [this]
 refine wp_region_list ?_
 show wpList P #[o] Q [o] {Fr n f with defers:=ds} w
 unfold wpList
 have hwt:Region.wanted o (yielded #[o] ({Fr n f with defers:=ds}:Act).tmps)=true:=(vP #[o] n f o).trans hw
 rw [if_pos hwt]
 refine .inl ?_
 unfold Oper.wp
 have he:({Fr n f with defers:=ds}:Act).eval=ev n f:=g8 n f
 rw [he,hr,Oper.upon_skip,show ({Fr n f with defers:=ds}:Act).put o.dst undef={Fr n f with defers:=ds} by rw [hd];rfl]
 unfold wpList
 exact h _ (hO.put hL _) λk hk=>by
  unfold World.setRow
  simp [World.setRow,hk,Array.getElem?_modify,Ne.symm hk]
end
section
set_option linter.unnecessarySimpa false
theorem qLines_any (s:List UInt8)(W:World):YC 122 #[.string (mkS s)] W λe w'=>∃ v ob,e= .returned v/\(∃ B,v= .func (.func 179) #[] #[.pointer (some ⟨B,0,none⟩)]/\ob=[kL B s])/\Own [] W w' ob:=
 zE Tryz.func122 (yN [] λb1=>x_val 3 [] (.func (.func 179) #[] #[.pointer (some ⟨b1,0,none⟩)]) (λw=>Kr) (z7 [] (.func (.func 179) #[] #[.pointer (some ⟨b1,0,none⟩)]) λw hO=>⟨_,_,rfl,⟨b1,rfl,rfl⟩,hO.past 0 [kL b1 s]⟩))
theorem suf_cut (r:List UInt8):Lib.hasSuffix (lnH r) [10]=(zA 10 r).2.2/\((zA 10 r).2.2=true->Lib.trimSuffix (lnH r) [10]=(zA 10 r).1):=by
 unfold lnH
 cases hq:(zA 10 r).2.2 with
 |true=>
  rw [if_pos rfl]
  have h1:Lib.hasSuffix ((zA 10 r).1++[10]) [10]=true:=List.isSuffixOf_iff_suffix.2 (List.suffix_append _ _)
  exact ⟨h1,λ_=>by unfold Lib.trimSuffix;rw [if_pos h1];simp⟩
 |false=>
  rw [if_neg Bool.false_ne_true]
  refine ⟨?_,λh=>absurd h Bool.false_ne_true⟩
  have h1:=split_free 10 r [] (by simp) r (by rw [split_one 10 hq];exact List.mem_singleton.2 rfl)
  cases h2:Lib.hasSuffix r [10] with
  |false=>rfl
  |true=>exact absurd ((List.isSuffixOf_iff_suffix.1 h2).subset (List.mem_singleton.2 rfl)) h1
theorem qSuf_any (p:List UInt8)(w:World)(hp:p.length<=1000000):YC 123 #[.string (mkS p),.string ⟨#[10]⟩] w (YR (.tuple #[.string (mkS (Lib.trimSuffix p [10])),.bool (Lib.hasSuffix p [10])]) w):=
 (Tryz.strings_CutSuffix _ _ w (by rw [zQ];omega)).mono λe w' ⟨h1,h2⟩=>⟨by rw [h1];rfl,h2▸Below.refl _ _⟩
def gJ (b:Nat)(z:Int):Blk:=⟨b, #[YI z],3⟩
def tkV (rb:Nat):Value:= .func (.func 67) #[.pointer (some ⟨rb,0,none⟩)] #[]
def fnB (b rb:Nat):Blk:=⟨b, #[tkV rb],42⟩
structure RefB (rb:Nat)(s:List UInt8)(ob:List Blk)(W:World)(e:Ending)(w':World):Prop where
 ex:∃ x' k' ob',e= .returned (YI (fK s))/\RdR rb k' x' ob'/\Own (ob.map Blk.b) W w' ob'/\(s≠[]->fK s=0->x'.rt=recA s/\FewR x'.rt 4096)
noncomputable abbrev qRF:Code×Code:=findRF (Tryz.f65.body.getD .skip)
noncomputable abbrev qRg (i:Nat):Array Oper:=mB i (Tryz.f65.body.getD .skip)
theorem qBody_is:qRF.2= .block 1 (.seq (.region 6 (qRg 6) false) (.seq (.region 7 (qRg 7) false) (.seq (.region 8 (qRg 8) false) (.cond (.tmp 28) (.seq (.region 9 (qRg 9) false) .ret) .skip)))):=by kernel_rfl
structure RefI (rb b3 b4 b5:Nat)(s r:List UInt8)(L:List Blk):Prop where
 ex:∃ x k i ob fu,L=gJ b5 ((i:Nat):Int)::gJ b4 0::fnB b3 rb::ob/\RdR rb k x ob/\InvA x.rt k/\FewR x.rt i/\i+r.length<=s.length/\r.length<=fu/\wB fu x.rt k i r=wB s.length fI 0 0 s
structure RefX (rb b3 b4 b5:Nat)(s:List UInt8)(L:List Blk):Prop where
 ex:∃ x k i ob,L=gJ b5 i::gJ b4 (fK s)::fnB b3 rb::ob/\RdR rb k x ob/\fK s≠0
theorem FewR.few {x:Rv}{m:Nat}(h:FewR x.rt m)(hm:m<=5000):Few x:=by
 have h':=h.up hm
 refine ⟨?_, ?_, ?_,λn hn=> ?_⟩
 ·have:=h'.n;unfold Rv.rt at this;simpa using this
 ·have:=h'.b;unfold Rv.rt at this;simpa using this
 ·have:=h'.f;simp only [Rv.rt,yO] at this;simpa using this
 ·have:=h'.a n.nt (by unfold Rv.rt;exact List.mem_map.2 ⟨n,hn,rfl⟩)
  unfold Nv.nt at this;simpa using this
def bLv (b3 b4 b5:Nat):List (Nat×Value):=[(3,.pointer (some ⟨b3,0,none⟩)),(4,.pointer (some ⟨b4,0,none⟩)),(5,.pointer (some ⟨b5,0,none⟩))]
theorem ref_body {M:List Nat}{W0:World}{rb b3 b4 b5 B:Nat}{s:List UInt8}(hs:s.length<=4096)(hne0:s≠[])(hK:∀ w,Own M W0 w []->HasLib w/\LyAt w)(f:Nat->Value)(r:List UInt8)(L:List Blk)(l:Nat)(Wr:World)(hne:r≠[])(hrel:RefI rb b3 b4 b5 s r L)(hOw:Own M W0 Wr (kL B (lnR r)::L)):
  qRF.2.wpIn (Fence.wide.inRound l) 1 Tryz.prog (rndQ ((kL B (lnR r)::L).map Blk.b) B (lnR r) (RefI rb b3 b4 b5 s) (RefX rb b3 b4 b5 s) Wr) (Fr Tryz.f65.ntmps (upd (bX f (bLv b3 b4 b5)) (some 6) (.string (mkS (lnH r))))) Wr:=by
 obtain ⟨x,k,i,ob,fu,rfl,hR,hI,hF,hi,hfu,hres⟩:=hrel
 have hlen:=lnR_len hne
 obtain ⟨p,hp⟩:∃ p,lnH r=p:=⟨_,rfl⟩
 obtain ⟨rr,hrr⟩:∃ rr,lnR r=rr:=⟨_,rfl⟩
 obtain ⟨hsuf,htrim⟩:=suf_cut r
 have hpl:p.length<=4096:=by
  rw [←hp];unfold lnH
  rcases ix_cut 10 r with ⟨c1,_,c3,_⟩|⟨c1,_⟩
  ·rw [if_pos c1,←c3,List.length_take];omega
  ·rw [c1,if_neg Bool.false_ne_true];omega
 rw [hp] at hsuf htrim ⊢
 rw [hrr] at hOw hlen ⊢
 obtain ⟨M1,hM1⟩:∃ M1,(kL B rr::gJ b5 ((i:Nat):Int)::gJ b4 0::fnB b3 rb::ob).map Blk.b=M1:=⟨_,rfl⟩
 have hOl:=hOw.lend
 obtain ⟨ln,hln⟩:∃ ln,Lib.trimSuffix p [10]=ln:=⟨_,rfl⟩
 obtain ⟨en,hen⟩:∃ en,Lib.hasSuffix p [10]=en:=⟨_,rfl⟩
 have hcs:∀ w,YC 123 #[.string (mkS p),.string ⟨#[10]⟩] w (YR (.tuple #[.string (mkS ln),.bool en]) w):=λw=>by
  have:=qSuf_any p w Om
  rw [hln,hen] at this;exact this
 have hlnl:ln.length<=4096:=by
  rw [←hln];unfold Lib.trimSuffix
  split
  ·rw [List.length_take];omega
  ·exact hpl
 rw [hM1] at hOl ⊢
 rw [qBody_is]
 refine wpIn_block (wpIn_seq (fO (M:=M1) (W:=Wr) (L:=kL B rr::gJ b5 ((i:Nat):Int)::gJ b4 0::fnB b3 rb::ob) (pq_seq (tK pq_rnd)) out_rnd Kr ?_ Wr hOl))
 refine x_i 15 [1] ((i+1:Nat):Int) (x_fin [1] (bLv b3 b4 b5++[(6,.string (mkS p))]) λw6 f6 hO6=> ?_)
 have hO6':=hO6.past 0 (kL B rr::gJ b5 ((i+1:Nat):Int)::gJ b4 0::fnB b3 rb::ob)
 clear hO6
 refine wpIn_seq (fO (M:=M1) (W:=Wr) (L:=kL B rr::gJ b5 ((i+1:Nat):Int)::gJ b4 0::fnB b3 rb::ob) (pq_seq (tK pq_rnd)) out_rnd Kr ?_ w6 hO6')
 refine z8 (v:= .tuple #[.string (mkS ln),.bool en]) [] (λw hO=>hcs w) (x_fin [] (bLv b3 b4 b5++[(7,.string (mkS ln)),(8,.bool en)]) λw7 f7 hO7=> ?_)
 have hO7':=hO7.past 0 (kL B rr::gJ b5 ((i+1:Nat):Int)::gJ b4 0::fnB b3 rb::ob)
 clear hO7
 refine wpIn_seq (fO (M:=M1) (W:=Wr) (L:=kL B rr::gJ b5 ((i+1:Nat):Int)::gJ b4 0::fnB b3 rb::ob) (pq_seq (tK pq_rnd)) out_rnd Kr ?_ w7 hO7')
 have hM0:∀ {w:World} {L':List Blk},Own M1 Wr w L'->Own M W0 w L':=λh=>out_lend hOw (by rw [hM1];exact h)
 have hrefuse:∀ (w8:World) (f8:Nat->Value) (x':Rv) (k':Nat) (ob':List Blk),Own M1 Wr w8 (kL B rr::gJ b5 ((i+1:Nat):Int)::gJ b4 0::fnB b3 rb::ob')->RdR rb k' x' ob'->(wB fu x.rt k i r).1=((i+1:Nat):Int)->(Code.cond (.tmp 28) (.seq (.region 9 (qRg 9) false) .ret) .skip).wpIn (Fence.wide.inRound l) 1 Tryz.prog (Exit.inBlock 1 (rndQ M1 B rr (RefI rb b3 b4 b5 s) (RefX rb b3 b4 b5 s) Wr)) (Fr Tryz.f65.ntmps (bX f8 (bLv b3 b4 b5++[(28,.bool true)]))) w8:=λw8 f8 x' k' ob' hO8 hR' hz=>by
  have hbz:fK s=((i+1:Nat):Int):=by unfold fK;rw [if_neg hne0,←hres];exact hz
  refine wpIn_cond_true (by rw [g8];kernel_rfl) (wpIn_seq (fO (M:=M1) (W:=Wr) (L:=kL B rr::gJ b5 ((i+1:Nat):Int)::gJ b4 0::fnB b3 rb::ob') (pq_seq (tK pq_rnd)) out_rnd Kr ?_ w8 hO8))
  refine x_fin [1,2] [] λw9 f9 hO9=>wpIn_ret ⟨gJ b5 ((i+1:Nat):Int)::gJ b4 (fK s)::fnB b3 rb::ob',⟨x',k',_,ob',rfl,hR',by rw [hbz];omega⟩, ?_⟩
  rw [hbz]
  exact hO9.past 1 (gJ b5 ((i+1:Nat):Int)::gJ b4 ((i+1:Nat):Int)::fnB b3 rb::ob')
 refine x_bb 21 [] en (λh21=> ?_) (λh21=> ?_)
 rotate_left
 ·have hc:(zA 10 r).2.2=false:=by rw [←hsuf,hen];exact h21
  refine x_fin [] (bLv b3 b4 b5++[(28,.bool true)]) λw8 f8 hO8=> ?_
  have hO8':=hO8.past 0 (kL B rr::gJ b5 ((i+1:Nat):Int)::gJ b4 0::fnB b3 rb::ob)
  clear hO8
  refine hrefuse w8 f8 x k ob hO8' hR ?_
  cases fu with
  |zero=>exact absurd (List.eq_nil_of_length_eq_zero (Nat.le_zero.1 hfu)) hne
  |succ fu=>rw [wB,if_neg hne,hc,if_neg Bool.false_ne_true]
 have hc:(zA 10 r).2.2=true:=by rw [←hsuf,hen];exact h21
 have hln1:(zA 10 r).1=ln:=by rw [←htrim hc,hln]
 have hrr1:(zA 10 r).2.1=rr:=by rw [←hrr];unfold lnR;rw [if_pos hc]
 obtain ⟨fu,rfl⟩:∃ f',fu=f'+1:=⟨fu-1,by have:=List.length_pos_iff.2 hne;omega⟩
 have hstep:wB (fu+1) x.rt k i r=match xP x.rt k ln lays with
   |some (y,kk)=>wB fu y kk (i+1) rr
   |none=>(((i+1:Nat):Int),x.rt,k):=by
  rw [wB,if_neg hne,hc,if_pos rfl,hln1,hrr1]
  all_goals (cases xP x.rt k ln lays<;>rfl)
 refine x8 (k:=67) (args:= #[Zp rb 0,.string (mkS ln)]) (Rr:=λv ob'=>∃ b x' k',v= .bool b/\RdR rb k' x' ob'/\(match xP x.rt k ln lays with|some (y,kk)=>b=true/\x'.rt=y/\k'=kk|none=>b=false)) [3] (kL B rr::gJ b5 ((i+1:Nat):Int)::gJ b4 0::fnB b3 rb::ob) [kL B rr,gJ b5 ((i+1:Nat):Int),gJ b4 0,fnB b3 rb] ob (λw hO=>hO) (λw hO=>(qTake_any rb k x ln ob w hR (Own.lentR hO) (by omega) (hF.few (by omega)) hI λw' hw'=>hK w' ?_).mono λe w' ⟨b,x',k',ob',q1,q2,q3,q4⟩=>⟨_,ob',q1,⟨b,x',k',rfl,q2,q4⟩,q3⟩) λv ob' ⟨b,x',k',q1,hR',hm⟩=> ?_
 ·exact (out_lend ((hM0 hO).sublist (List.sublist_append_right _ _)) hw')
 subst q1
 refine x_fin [] (bLv b3 b4 b5++[(28,.bool (!b))]) λw8 f8 hO8=> ?_
 have hO8':=hO8.past 0 (kL B rr::gJ b5 ((i+1:Nat):Int)::gJ b4 0::fnB b3 rb::ob')
 clear hO8
 cases ht:xP x.rt k ln lays with
 |none=>
  rw [ht] at hm hstep
  dsimp only at hm
  subst hm
  exact hrefuse w8 f8 x' k' ob' hO8' hR' (by rw [hstep])
 |some yk=>
  obtain ⟨y,kk⟩:=yk
  rw [ht] at hm hstep
  dsimp only at hm hstep
  obtain ⟨rfl,rfl,rfl⟩:=hm
  refine wpIn_cond_false (by rw [g8];kernel_rfl) (wpIn_skip ⟨gJ b5 ((i+1:Nat):Int)::gJ b4 0::fnB b3 rb::ob',⟨x',k',i+1,ob',fu,rfl,hR',(take_inv hI ht).1,take_few hF ht,by omega,by omega, ?_⟩,hO8'⟩)
  rw [←hstep];exact hres
theorem one_round {P:Program}{n l m id:Nat}{f:Nat->Value}{o:Oper}{v:Value}{K:Act->World->Prop}{Q0:Exit->Act->World->Prop}{w:World}(hw:zS #[o] n f o=true)(hn:noDef o=true)(hr:∀ w,(execOp (ev n f) o).run P w= .ok (.value v) w)(h:K (Fr n (upd f o.dst v)) w):(Code.region id #[o] false).wpIn (Fence.wide.inRound l) m P (Exit.then K Q0) (Fr n f) w:=by
 refine wpIn_region_list ?_
 show wpListIn (Fence.wide.inRound l) m P #[o] (Exit.then K Q0) [o] (Fr n f) w
 unfold wpListIn
 rw [vP,if_pos hw]
 refine ⟨λ_ _=>trivial, ?_⟩
 rw [Oper.semAt_eq _ _ _ (noDef_is hn),g8,hr,Oper.uponIn_value,jJ]
 unfold wpListIn
 exact h
noncomputable abbrev qAs:Oper:=(qRg 5).getD 0 default
noncomputable abbrev qSt:Oper:=(qRg 10).getD 0 default
theorem qAssign_is:qRF.1= .region 5 #[qAs] false:=by kernel_rfl
theorem qStore_is:qRg 10= #[qSt]:=by kernel_rfl
theorem resA_nil (fu:Nat)(x:Rt)(k i:Nat):wB fu x k i []=(0,x,k):=by
 cases fu with
 |zero=>rfl
 |succ f=>rw [wB,if_pos rfl]
def aLv (b3 b4 b5 B:Nat):List (Nat×Value):=[(3,.pointer (some ⟨b3,0,none⟩)),(4,.pointer (some ⟨b4,0,none⟩)),(5,.pointer (some ⟨b5,0,none⟩)),(12,.func (.func 179) #[] #[.pointer (some ⟨B,0,none⟩)])]
theorem qRefused_any (rb:Nat)(x:Rv)(s:List UInt8)(ob:List Blk)(W:World)(hR:RdR rb 0 x ob)(hO:Own (ob.map Blk.b) W W ob)(hx:x.rt=fI)(hs:s.length<=4096)(hK:∀ w,Own (ob.map Blk.b) W w []->HasLib w/\LyAt w):YC 65 #[.string (mkS s),tkV rb] W (RefB rb s ob W):=by
 obtain ⟨M,hM⟩:∃ M,ob.map Blk.b=M:=⟨_,rfl⟩
 rw [hM] at hO hK
 refine x_enterM hO Tryz.func65 (yN [] λb3=>zL [] λb4=>x2 10 [] s [] (λh=> ?_) (λh=> ?_))
 ·refine x_retM [0] 0 (YI 1) λw hO=>⟨x,0,ob,by rw [fK,if_pos h],hR,by rw [hM];exact hO.past 2 ob,λq=>absurd h q⟩
 refine zL [] λb5=>kP (R:=λv ob=>∃ B,v= .func (.func 179) #[] #[Zp B 0]/\ob=[kL B s]) [0] (λw hO=>qLines_any s w) ?_
 rintro v ob2 ⟨B,rfl,rfl⟩
 refine x_range [] (g:= .tmp 12) (t:=13) qRF.1 qRF.2 (.seq (.region 10 (qRg 10) false) .ret) (aLv b3 b4 b5 B) (gJ b5 0::gJ b4 0::fnB b3 rb::(ob++[kL B s])) λw f hOw=> ?_
 have hO0:Own M W w (kL B s::gJ b5 0::gJ b4 0::fnB b3 rb::ob):=vS [] hOw λp=>by
  simp only [List.countP_append,List.countP_cons,List.countP_nil,List.cons_append,List.nil_append];omega
 clear hOw
 have hb4:∀ {D:Nat} {z:Int} {w':World} {L:List Blk},Own M W w' L->gJ b4 z∈L->w'.heap[D]?=some (.deferred (some []))->D≠b4:=λhO hm hd e=>by
  have:=hO.held _ hm
  rw [show (gJ b4 _).b=b4 from rfl,←e,hd] at this;cases this
 have hres4:ev Tryz.f65.ntmps (bX f (aLv b3 b4 b5 B)) (.tmp 4)= .pointer (some ⟨b4,0,none⟩):=by kernel_rfl
 refine wp_lines (B:=B) (s:=s) Kr (RefI rb b3 b4 b5 s) (RefX rb b3 b4 b5 s) (λp=>upd (upd (bX f (aLv b3 b4 b5 B)) (some 13) (.string (mkS p))) (some 6) (.string (mkS p))) (λp l w K hk=> ?_) (λr L l Wr hne hrel hOw=> ?_) ⟨x,0,0,ob,s.length,rfl,hR,by rw [hx];exact inv_nil,by rw [hx];exact ⟨Nat.le_refl _,Nat.le_refl _,Nat.le_refl _,λn hn=>by cases hn⟩,by omega,Nat.le_refl _,by rw [hx]⟩ hO0 (by omega) ?_ ?_
 ·have e:({tmps:=(Fr Tryz.f65.ntmps (bX f (aLv b3 b4 b5 B))).tmps.setIfInBounds 13 (.string (mkS p)),defers:=[]}:Act)=Fr Tryz.f65.ntmps (upd (bX f (aLv b3 b4 b5 B)) (some 13) (.string (mkS p))):=jJ _ _ (some 13) _
  rw [e,qAssign_is]
  refine one_round (v:= .string (mkS p)) Kr Kr (λw=>Kr) ?_
  rw [show qAs.dst=some 6 from by kernel_rfl]
  exact hk
 ·have:=ref_body hs h hK (upd (bX f (aLv b3 b4 b5 B)) (some 13) (.string (mkS (lnH r)))) r L l Wr hne hrel hOw
  rw [←qQ (bLv b3 b4 b5) (gW Kr)] at this
  exact this
 ·rintro D L w' hD ⟨x',k',i,ob',fu,rfl,hR',hI',hF',hi,hfu,hres⟩ hO' hdf
  rw [resA_nil] at hres
  have hb0:fK s=0:=by unfold fK;rw [if_neg h,←hres]
  have hr0:recA s=x'.rt:=by unfold recA;rw [←hres]
  show (Code.seq (.region 10 (qRg 10) false) .ret).wp Tryz.prog (mkQ Tryz.prog Tryz.f65 (RefB rb s ob W)) _ w'
  refine wp_seq ?_
  rw [qStore_is]
  obtain ⟨ti,hti,_,hsz,_⟩:=int_made
  refine store_marks (i:=2) (off:=0) (gJ b4 0) (YI 0) (T:=3) (t:=ti) (p:= .tmp 4) (q:= .const (YI 0)) Kr Kr Kr rfl hres4 Kr hti (by rw [hsz];rfl) (by rw [hsz];exact Nat.le_refl _) (λu hu=>by rw [List.mem_singleton.1 hu];rfl) hO' λw2 hO2 hk2=> ?_
  have hO2':=hO2.past 0 (kL B []::gJ b5 ((i:Nat):Int)::gJ b4 0::fnB b3 rb::ob')
  clear hO2
  have hd2:w2.heap[D]?=some (.deferred (some [])):=(hk2 D (hb4 (z:=0) hO' (List.mem_cons_of_mem _ (List.mem_cons_of_mem _ (List.mem_cons_self ..))) hdf)).trans hdf
  have hO3:=hO2'.turn hD hd2 rfl (.deferred none)
  refine wp_ret (leave_mark (v:=YI 0) hd2 (results_cellB (ty:=3) (x:=gJ b4 0) Kr hres4 (hO3.held (gJ b4 0) (List.mem_cons_of_mem _ (List.mem_cons_of_mem _ (List.mem_cons_self ..)))) Kr) ?_)
  exact ⟨x',k',ob',by rw [hb0],hR',by rw [hM];exact hO3.past 4 ob',λ_ _=>⟨hr0.symm,hF'.up Om⟩⟩
 ·rintro D L w' hD ⟨x',k',i,ob',rfl,hR',hbad⟩ hO' hdf
  have hO3:=hO'.turn hD hdf rfl (.deferred none)
  exact leave_mark (v:=YI (fK s)) hdf (results_cellB (ty:=3) (x:=gJ b4 (fK s)) Kr hres4 (hO3.held (gJ b4 (fK s)) (List.mem_cons_of_mem _ (List.mem_cons_self ..))) Kr) (⟨x',k',ob',rfl,hR',by rw [hM];exact hO3.past 3 ob',λ_ q=>absurd q hbad⟩)
end
section
structure BndN (n:Nt):Prop where
 wh:n.wh.length<=5000
 opt:n.opt.length<=5000
 any:∀ u∈n.any,u.name.length<=5000/\u.rng.length<=5000/\u.fs.length<=5000∧∀ t∈u.fs,t.length<=5000
structure BndR (x:Rt):Prop where
 name:x.name.length<=5000
 pre:x.ver.pre.length<=1000000
 bld:x.ver.build.length<=1000000
 needs:∀ n∈x.needs,BndN n
 bars:∀ b∈x.bars,b.name.length<=5000/\b.rng.length<=5000/\b.wh.length<=5000
 fts:∀ f∈x.fts,f.name.length<=5000/\f.of.length<=5000∧∀ t∈f.of,t.length<=5000
theorem pE {α:Type}{f:α->α}{p:α->Prop}(hf:∀ y,p y->p (f y)){l:List α}(h:∀ y∈l,p y):∀ y∈yW f l,p y:=mN hf h
theorem add_bnd {x:Rt}(h:BndR x)(kd:Nat){ps:List (List UInt8)}(hp:∀ p∈ps,p.length<=4096)(hn:ps.length<=5000)(hv:∀ p:List UInt8,p.length<=4096->(dR p).pre.length<=1000000/\(dR p).build.length<=1000000):BndR (mH x kd ps).1:=by
 have hg:∀ i,(ps.getD i []).length<=4096:=λi=>by
  rw [List.getD_eq_getElem?_getD]
  cases hi:ps[i]? with
  |none=>exact Nat.zero_le _
  |some p=>exact hp p (List.mem_of_getElem? hi)
 have hg':∀ i,(ps.getD i []).length<=5000:=λi=>Nat.le_trans (hg i) (by decide)
 unfold mH
 split
 ·exact ⟨hg' 1,(hv _ (hg 2)).1,(hv _ (hg 2)).2,h.needs,h.bars,h.fts⟩
 ·refine ⟨h.name,h.pre,h.bld,λn hn=> ?_,h.bars,h.fts⟩
  rcases List.mem_append.1 hn with hn|hn
  ·exact h.needs n hn
  ·rw [List.mem_singleton.1 hn];exact ⟨Nat.zero_le _,Nat.zero_le _,λu hu=>by cases hu⟩
 ·refine ⟨h.name,h.pre,h.bld,pE (f:=λn:Nt=>{n with any:=n.any++[anyW ps (ps.getD 4 [])]}) (λn hn=>⟨hn.wh,hn.opt,λu hu=> ?_⟩) h.needs,h.bars,h.fts⟩
  rcases List.mem_append.1 hu with hu|hu
  ·exact hn.any u hu
  ·rw [List.mem_singleton.1 hu]
   unfold anyW
   refine ⟨hg' 1,hg' 4, ?_, ?_⟩
   ·show (if ps.getD 2 []=[45] then ([]:List (List UInt8)) else zD 44 [] (ps.getD 2 [])).length<=5000
    split
    ·exact Nat.zero_le _
    ·have:=tF 44 (ps.getD 2 []);have:=hg 2;omega
   ·show ∀ t∈(if ps.getD 2 []=[45] then ([]:List (List UInt8)) else zD 44 [] (ps.getD 2 [])),t.length<=5000
    split
    ·exact λt ht=>by cases ht
    ·exact λt ht=>by have:=dJ 44 (ps.getD 2 []) [] t ht;have:=hg 2;simp only [List.length_nil,Nat.zero_add] at*;omega
 ·exact ⟨h.name,h.pre,h.bld,pE (f:=λn:Nt=>{n with wh:=ps.getD 1 []}) (λn hn=>⟨hg' 1,hn.opt,hn.any⟩) h.needs,h.bars,h.fts⟩
 ·exact ⟨h.name,h.pre,h.bld,pE (f:=λn:Nt=>{n with opt:=ps.getD 1 []}) (λn hn=>⟨hn.wh,hg' 1,hn.any⟩) h.needs,h.bars,h.fts⟩
 ·refine ⟨h.name,h.pre,h.bld,h.needs,λb hb=> ?_,h.fts⟩
  rcases List.mem_append.1 hb with hb|hb
  ·exact h.bars b hb
  ·rw [List.mem_singleton.1 hb];exact ⟨hg' 1,hg' 2,Nat.zero_le _⟩
 ·exact ⟨h.name,h.pre,h.bld,h.needs,pE (f:=λb:Bt=>{b with wh:=ps.getD 1 []}) (p:=λb:Bt=>b.name.length<=5000/\b.rng.length<=5000/\b.wh.length<=5000) (λb hb=>⟨hb.1,hb.2.1,hg' 1⟩) h.bars,h.fts⟩
 ·refine ⟨h.name,h.pre,h.bld,h.needs,h.bars,λf hf=> ?_⟩
  rcases List.mem_append.1 hf with hf|hf
  ·exact h.fts f hf
  ·rw [List.mem_singleton.1 hf]
   exact ⟨hg' 1,by show (ps.drop 2).length<=5000;rw [List.length_drop];omega,λt ht=>Nat.le_trans (hp t (List.mem_of_mem_drop ht)) (by decide)⟩
 ·exact h
theorem bnd_nil:BndR fI:=⟨Nat.zero_le _,(by decide),(by decide),(λn h=>by cases h),(λn h=>by cases h),(λn h=>by cases h)⟩
theorem mU (c:UInt8)(s:List UInt8):(zA c s).1.length<=s.length/\(zA c s).2.1.length<=s.length:=by
 have h:=dA c s
 constructor
 ·omega
 ·cases hq:(zA c s).2.2 with
  |true=>rw [hq,if_pos rfl] at h;omega
  |false=>
   have:∀ s:List UInt8,(zA c s).2.2=false->(zA c s).2.1=[]:=λs=>by
    induction s with
    |nil=>intro _;rfl
    |cons b r ih=>
     unfold zA
     split
     ·intro h;cases h
     ·exact ih
   rw [this s hq];exact Nat.zero_le _
theorem parV_len (s:List UInt8):(dR s).pre.length<=s.length/\(dR s).build.length<=s.length:=by
 have h1:=mU 43 s
 have h2:=mU 45 (zA 43 s).1
 unfold dR pK
 dsimp only
 split
 ·exact ⟨Nat.zero_le _,Nat.zero_le _⟩
 ·split
  ·exact ⟨Nat.zero_le _,Nat.zero_le _⟩
  ·split
   ·exact ⟨Nat.le_trans h2.2 h1.1,h1.2⟩
   ·exact ⟨Nat.zero_le _,Nat.zero_le _⟩
theorem pcs_le (b:UInt8):∀ (k:Nat) (s:List UInt8),∀ x∈bH b k s,x.length<=s.length
 |0,s=>λx hx=>by rw [bH,List.mem_singleton] at hx;rw [hx];exact Nat.le_refl _
 |k+1,s=>λx hx=>by
  have hc:=mU b s
  unfold bH at hx
  split at hx
  ·rcases List.mem_cons.1 hx with rfl|hx
   ·exact hc.1
   ·exact Nat.le_trans (pcs_le b k _ x hx) hc.2
  ·rw [List.mem_singleton.1 hx];exact Nat.le_refl _
theorem take_kind {x y:Rt}{k kk:Nat}{s:List UInt8}:∀ {L:List La},(∀ l∈L,1<=l.kind)->xP x k s L=some (y,kk)->1<=kk
 | [],_,e=>by cases e
 |l::r,hL,e=>by
  rw [xP] at e
  split at e
  ·split at e
   ·simp only [Option.some.injEq,Prod.mk.injEq] at e
    rw [←e.2];exact hL l (List.mem_cons_self ..)
   ·cases e
  ·exact take_kind (λl hl=>hL l (List.mem_cons_of_mem _ hl)) e
theorem lays_kind:∀ l∈lays,1<=l.kind:=by decide
theorem resA_kind:∀ (f:Nat) (x:Rt) (k i:Nat) (r:List UInt8),(wB f x k i r).1=0->r.length<=f->(1<=k\/r≠[])->1<=(wB f x k i r).2.2
 |0,x,k,i,r,_,hr,h=>by
  rcases h with h|h
  ·exact h
  ·exact absurd (List.eq_nil_of_length_eq_zero (Nat.le_zero.1 hr)) h
 |f+1,x,k,i,r,h0,hr,h=>by
  rw [wB] at h0 ⊢
  by_cases hn:r=[]
  ·rw [if_pos hn]
   rcases h with h|h
   ·exact h
   ·exact absurd hn h
  ·rw [if_neg hn] at h0 ⊢
   have hl:=dA 10 r
   cases hq:(zA 10 r).2.2 with
   |false=>rw [hq,if_neg Bool.false_ne_true] at h0;exact absurd h0 (by show ((i+1:Nat):Int)≠0;omega)
   |true=>
    rw [hq,if_pos rfl] at h0 hl
    rw [if_pos rfl]
    cases ht:xP x k (zA 10 r).1 lays with
    |none=>rw [ht] at h0;exact absurd h0 (by show ((i+1:Nat):Int)≠0;omega)
    |some yk=>
     obtain ⟨y,kk⟩:=yk
     rw [ht] at h0
     exact resA_kind f y kk (i+1) _ h0 Om (.inl (take_kind lays_kind ht))
theorem lays_few:∀ l∈lays,l.opn=true->l.parts<=5:=by decide
theorem take_bnd {x y:Rt}{k kk:Nat}{s:List UInt8}(h:BndR x)(hs:s.length<=4096):∀ {L:List La},(∀ l∈L,l.opn=true->l.parts<=5)->xP x k s L=some (y,kk)->BndR y
 | [],_,e=>by cases e
 |l::r,hL,e=>by
  rw [xP] at e
  split at e
  ·split at e
   ·simp only [Option.some.injEq,Prod.mk.injEq] at e
    rw [←e.1]
    refine add_bnd h _ (λp hp=> ?_) ?_ λp hp=> ?_
    ·unfold xE at hp
     split at hp
     ·exact Nat.le_trans (pcs_le _ _ _ p hp) hs
     ·have:=dJ 32 s [] p hp;simp only [List.length_nil,Nat.zero_add] at this;omega
    ·unfold xE
     split
     ·rename_i ho
      have:=(dP 32 (l.parts-1) s).2;have:=hL l (List.mem_cons_self ..) ho;omega
     ·have:=tF 32 s;omega
    ·have:=parV_len p;omega
   ·cases e
  ·exact take_bnd h hs (λl hl=>hL l (List.mem_cons_of_mem _ hl)) e
theorem resA_bnd:∀ (f:Nat) (x:Rt) (k i:Nat) (r:List UInt8),BndR x->r.length<=4096->BndR (wB f x k i r).2.1
 |0,x,k,i,r,h,_=>h
 |f+1,x,k,i,r,h,hr=>by
  have hc:=mU 10 r
  rw [wB]
  split
  ·exact h
  ·split
   ·split
    ·rename_i y kk ht
     exact resA_bnd f y kk (i+1) _ (take_bnd h Om lays_few ht) Om
    ·exact h
   ·exact h
theorem resA_ge:∀ (f:Nat) (x:Rt) (k i:Nat) (r:List UInt8),0<=(wB f x k i r).1
 |0,x,k,i,r=>Int.le_refl _
 |f+1,x,k,i,r=>by
  rw [wB]
  split
  ·exact Int.le_refl _
  ·split
   ·split
    ·exact resA_ge f _ _ _ _
    ·exact Int.natCast_nonneg _
   ·exact Int.natCast_nonneg _
theorem recA_bnd {s:List UInt8}(hs:s.length<=4096):BndR (recA s):=resA_bnd _ _ _ _ _ bnd_nil hs
theorem parse_is {s:List UInt8}(hs:s.length<=4096):bS s=if fK s≠0 then (fI,2,fK s) else if (zT (recA s)).1≠0 then (fI,(zT (recA s)).1,0) else (recA s,0,0):=by
 unfold bS
 rw [if_neg Om]
 by_cases h:s=[]
 ·subst h;rfl
 have hr:=resA_read s.length fI 0 0 s inv_nil (Nat.le_refl _)
 dsimp only at hr
 have hb:fK s=(wB s.length fI 0 0 s).1:=by unfold fK;rw [if_neg h]
 have e0:stg 0=0:=rfl
 rw [e0] at hr
 by_cases hz:fK s=0
 ·obtain ⟨q1,q2,q3⟩:=hr.1 (hb▸hz)
  rw [if_neg (λq=>q hz)]
  rw [q2]
  dsimp only
  rw [if_pos q3]
  unfold doneS
  dsimp only
  have hk:(wB s.length fI 0 0 s).2.2≠0:=by
   have:=resA_kind s.length fI 0 0 s (hb▸hz) (Nat.le_refl _) (.inr h);omega
  rw [if_neg (λq=>hk ((stg_zero q1.le).1 q))]
  rfl
 ·rw [if_pos hz]
  rcases hr.2 (hb▸hz) with ⟨q1,q2⟩|⟨⟨y,q1⟩,q2,q3⟩
  ·rw [q1];dsimp only;rw [←q2,hb]
  ·rw [q1];dsimp only;rw [if_neg q2,hb,q3];simp
end
section
set_option linter.unnecessarySimpa false
theorem RdQ.nso {x:Rv}{o1 oa og oi o4 o7 o8:List Blk}(h:RdQ x o1 oa og oi o4 o7 o8):NsO x.nA x.nc x.needs o1 (oi++(oa++og)):=by
 refine ⟨h.needs.top,λy hy=> ?_⟩
 rcases h.needs.split with ⟨e,_⟩|⟨ini,n,e,hi,hw,hf⟩
 ·rw [e] at hy;cases hy
 ·rw [e] at hy
  rcases List.mem_append.1 hy with hy|hy
  ·obtain ⟨o,q1,q2⟩:=hi y hy
   exact ⟨o,q1,λb hb=>List.mem_append_left _ (q2 b hb)⟩
  ·rw [List.mem_singleton.1 hy]
   exact ⟨oa++og,⟨oa,og,rfl,hw,hf⟩,λb hb=>List.mem_append_right _ hb⟩
theorem rec_inn {x:Rv}{o1 o2 o4 o7 o8 L:List Blk}{M:List Nat}{W w:World}(h1:NsO x.nA x.nc x.needs o1 o2)(h4:Sl 80 3 (.slice x.bA x.bars.length x.bc) x.bars.length (x.bars.flatMap bvC) o4)(h7:FtO x.fA x.fc x.fts o7 o8)(hO:Own M W w L)(s1:∀ b∈o1,b∈L)(s2:∀ b∈o2,b∈L)(s4:∀ b∈o4,b∈L)(s7:∀ b∈o7,b∈L)(s8:∀ b∈o8,b∈L)(hB:BndR x.rt)(hF:FewR x.rt 4096):RcIn w w.heap.size x:=by
 obtain ⟨r1,r2⟩:=h1.reads hO s1 s2
 have hN:∀ n∈x.needs,BndN n.nt:=λn hn=>hB.needs n.nt (List.mem_map.2 ⟨n,hn,rfl⟩)
 have hA:∀ n∈x.needs,∀ u∈n.any,u.name.length<=5000/\u.rng.length<=5000/\u.fs.length<=5000∧∀ t∈u.fs,t.length<=5000:=λn hn u hu=>(hN n hn).any u.wt (List.mem_map.2 ⟨u,hu,rfl⟩)
 have hBr:∀ b∈x.bars,b.name.length<=5000/\b.rng.length<=5000/\b.wh.length<=5000:=λb hb=>hB.bars b.bt (List.mem_map.2 ⟨b,hb,rfl⟩)
 have hFt:∀ f∈x.fts,f.name.length<=5000/\f.of.length<=5000∧∀ t∈f.of,t.length<=5000:=λf hf=>hB.fts f.ft (List.mem_map.2 ⟨f,hf,rfl⟩)
 have l1:x.needs.length<=4096:=by have:=hF.n;unfold Rv.rt at this;simpa using this
 have l2:x.bars.length<=4096:=by have:=hF.b;unfold Rv.rt at this;simpa using this
 have l3:x.fts.length<=4096:=by have:=hF.f;simp only [Rv.rt,yO] at this;simpa using this
 refine ⟨r1,r2,λn hn u hu=> ?_,Sl.reads h4 rfl hO s4,⟨Sl.reads h7.top rfl hO s7,λf hf=> ?_,by omega,λf hf=>(hFt f hf).2.1,λf hf=>by have:=(hFt f hf).1;omega,λf hf t ht=>by have:=(hFt f hf).2.2 t ht;omega⟩,by omega,λn hn=> ?_,λn hn u hu=>(hA n hn u hu).2.2.1,by omega,⟨by have:=hB.name;show x.name.length<=_;exact Nat.le_trans this (by decide),hB.pre,hB.bld⟩,λn hn=>⟨Nat.le_trans (hN n hn).wh (by decide),Nat.le_trans (hN n hn).opt (by decide)⟩,λn hn u hu=>⟨by have:=(hA n hn u hu).1;omega,by have:=(hA n hn u hu).2.1;omega,λt ht=>by have:=(hA n hn u hu).2.2.2 t ht;omega⟩,λb hb=>by have:=hBr b hb;exact ⟨by omega,by omega,by omega⟩⟩
 ·obtain ⟨o,⟨⟨p1,p2,rfl,hp,he⟩⟩,ho⟩:=h1.each n hn
  obtain ⟨o',q1,q2⟩:=he u hu
  exact SlT.reads q1 rfl hO λb hb=>s2 b (ho b (List.mem_append_right _ (q2 b hb)))
 ·obtain ⟨o,ho,hs⟩:=h7.each f hf
  exact SlT.reads ho rfl hO λb hb=>s8 b (hs b hb)
 ·have:=hF.a n.nt (List.mem_map.2 ⟨n,hn,rfl⟩)
  unfold Nv.nt at this
  simp only [List.length_map] at this
  omega
theorem fin_cell3 {M:List Nat}{P:Program}{n:Nat}{W:World}{L:List Blk}{f:Nat->Value}{fn:Func}{R:Ending->World->Prop}{p u t:Tmp}{ty:TypeId}(i:Nat)(x:Blk)(v v' v2:Value)(hres:fn.results= #[.cell p ty,.tmp u,.tmp t])(hL:L[i]?=some x)(hp:ev n f (.tmp p)= .pointer (some ⟨x.b,0,none⟩))(hv:yY P ty x.cs 0=some v)(hv':ev n f (.tmp u)=v')(hv2:ev n f (.tmp t)=v2)
  (hR:∀ w,Own M W w L->R (.returned (.tuple #[v,v',v2])) w):Fin M n W (bodyPost P fn R) .ret L f:=⟨λw hO=>by
 refine bodyPost_ret (v:= .tuple #[v,v',v2]) ?_ rfl (hR w hO)
 have e:(Fr n f).tmps.getD p undef= .pointer (some ⟨x.b,0,none⟩):=(kT n f p).trans hp
 have hr:=yX hv (hO.get hL)
 have e':(Fr n f).tmps[p]?.getD undef= .pointer (some ⟨x.b,0,none⟩):=by simpa using e
 have e2:(Fr n f).tmps.getD u undef=v':=(kT n f u).trans hv'
 have e2':(Fr n f).tmps[u]?.getD undef=v':=by simpa using e2
 have e3:(Fr n f).tmps.getD t undef=v2:=(kT n f t).trans hv2
 have e3':(Fr n f).tmps[t]?.getD undef=v2:=by simpa using e3
 simp [results,hres,e',e2',e3',asAddr,hr]⟩
section
variable {M:List Nat}{P:Program}{n:Nat}{W:World}{Q:Exit->Act->World->Prop}{c:Xc}
theorem x_retc3 {fn:Func}{R:Ending->World->Prop}(h:List Nat)(i:Nat)(v v' v2:Value)(hR:∀ w,Own M W w (xgo P n nS h c).L->R (.returned (.tuple #[v,v',v2])) w)(hkt:(xgl P n nS h c,((xgo P n nS h c).top,(xgo P n nS h c).k,fn.results,(xgo P n nS h c).L[i]?,ev n (xgo P n nS h c).f (.tmp (xRt fn 0)),yY P (xRy fn 0) (vC (xgo P n nS h c).L i).cs 0,ev n (xgo P n nS h c).f (.tmp (xRt fn 1)),ev n (xgo P n nS h c).f (.tmp (xRt fn 2))))=(xgr P n nS h c,(.fin .ret,[], #[.cell (xRt fn 0) (xRy fn 0),.tmp (xRt fn 1),.tmp (xRt fn 2)],some (vC (xgo P n nS h c).L i),.pointer (some ⟨(vC (xgo P n nS h c).L i).b,0,none⟩),some v,v',v2)):=by kernel_rfl):zF M P n W (bodyPost P fn R) c:=by
 obtain ⟨hk,ht⟩:=Prod.mk.inj hkt
 refine zK h c hk ?_
 generalize xgo P n nS h c=d at hR ht ⊢
 obtain ⟨top,kk,L,f⟩:=d
 simp only [Prod.mk.injEq] at ht
 obtain ⟨rfl,rfl,e3,e4,e5,e6,e7,e8⟩:=ht
 exact ⟨λ_=>fin_cell3 i _ v v' v2 e3 e4 e5 e6 e7 e8 hR⟩
end
structure ParB (s:List UInt8)(W:World)(e:Ending)(w':World):Prop where
 ex:∃ x ob',e= .returned (.tuple #[rvV x,YI (bS s).2.1,YI (bS s).2.2])/\x.rt=(bS s).1/\RecO x ob'/\BndR x.rt/\FewR x.rt 4096/\Own [] W w' ob'
def rv0:Rv:=⟨[],0,0,0,[],[],none,0,[],none,0,[],none,0,[]⟩
theorem rv0_rt:rv0.rt=fI:=rfl
theorem rec0:RecO rv0 []:=⟨⟨[],[],[],[],[],rfl,NsO.nil,Sl.nil _ _,FtO.nil⟩⟩
theorem few0:FewR fI 4096:=⟨Nat.zero_le _,Nat.zero_le _,Nat.zero_le _,(λn h=>by cases h)⟩
theorem par0 {s:List UInt8}{W w:World}{z k:Int}(h:bS s=(fI,z,k))(hO:Own [] W w []):ParB s W (.returned (.tuple #[rvV rv0,YI z,YI k])) w:=
 ⟨rv0,[],by rw [h],by rw [h,rv0_rt],rec0,by rw [rv0_rt];exact bnd_nil,by rw [rv0_rt];exact few0,hO⟩
theorem rdq0:RdQ rv0 [] [] [] [] [] [] []:=⟨⟨Sl.nil _ _,.inl ⟨rfl,rfl,rfl⟩⟩,Sl.nil _ _,FtO.nil⟩
theorem qParse_any (s:List UInt8)(W:World)(hs:s.length<=1000000)(hK:RecLib W)(hL:LyAt W):YC 22 #[.string (mkS s)] W (ParB s W):=by
 refine zE Tryz.func22 (zL [] λb2=>zB 11 [] ((s.length:Int)>4096) (λh11=> ?_) (λh11=> ?_))
 ·refine x_retc3 [0] 0 (rvV rv0) (YI 3) (YI 0) λw hO=>par0 ?_ hO.no
  unfold bS;rw [if_pos Om]
 have hs4:s.length<=4096:=by omega
 have hread:=parse_is hs4
 have hcl:∀ w,YC 66 #[.string (mkS s)] w (YR (.string (mkS s)) w):=λw=>wO s w Om
 refine zL [] λb5=>z8 (v:= .string (mkS s)) [] (λw hO=>hcl w) (x_val 15 [] (tkV b5) (λw=>Kr) ?_)
 refine x8 (k:=65) (args:= #[.string (mkS s),tkV b5]) (Rr:=λv ob'=>∃ x' k',v=YI (fK s)/\RdR b5 k' x' ob'/\(s≠[]->fK s=0->x'.rt=recA s/\FewR x'.rt 4096)) [] (rdB rv0 0 b5::[rcB rv0 b2]) [rcB rv0 b2] [rdB rv0 0 b5] (λw hO=>hO.swap) (λw hO=> ?_) λv ob' ⟨x',k',q1,hR',hx⟩=> ?_
 ·have hb5:∀ k∈[rdB rv0 0 b5].map Blk.b,W.heap.size<=k:=λk hk=>by
   have h5:=hO.base (rdB rv0 0 b5) (by simp)
   rcases h5 with h5|h5
   ·rw [List.map_singleton,List.mem_singleton] at hk;rw [hk];exact h5
   ·cases h5
  refine (qRefused_any b5 rv0 s [rdB rv0 0 b5] w ⟨[],[],[],[],[],[],[],rfl,rdq0⟩ (Own.lentR hO) rv0_rt hs4 λw' hw'=> ?_).mono λe w' ⟨x',k',ob',q1,q2,q3,q4⟩=>⟨_,ob',q1,⟨x',k',rfl,q2,q4⟩,q3⟩
  have hb:Below W.heap.size W w':=hO.below.trans (hw'.belowB hb5 hO.below.size)
  exact ⟨hK.lib.on hb,hL.on hb⟩
 subst q1
 refine zB 18 [] (fK s>0) (λh18=> ?_) (λh18=> ?_)
 ·refine x_retc3 [0] 0 (rvV rv0) (YI 2) (YI (fK s)) λw hO=>par0 ?_ hO.no
  rw [hread,if_pos Om]
 have hge:0<=fK s:=by
  unfold fK
  split
  ·omega
  ·exact resA_ge _ _ _ _ _
 have hz:fK s=0:=by omega
 have hne:s≠[]:=λe=>by rw [e] at hz;exact absurd hz (by decide)
 obtain ⟨hrt,hF⟩:=hx hne hz
 have hB:BndR x'.rt:=hrt▸recA_bnd hs4
 rw [if_neg (λq=>q hz),←hrt] at hread
 obtain ⟨o1,oa,og,oi,o4,o7,o8,rfl,hQ⟩:=hR'
 obtain ⟨T,hT⟩:∃ T,o1++zY oa og oi o4 o7 o8=T:=⟨_,rfl⟩
 have sub:∀ b,(b∈o1\/b∈oi++(oa++og)\/b∈o4\/b∈o7\/b∈o8)->b∈T:=λb hb=>by
  rw [←hT];unfold zY;simp only [List.mem_append] at hb ⊢;grind
 rw [hT]
 obtain ⟨c,hc⟩:∃ c,zT x'.rt=c:=⟨_,rfl⟩
 have hck:∀ w,Own [] W w T->YC 16 #[rvV x'] w (YR (.tuple #[YI c.1,YI c.2]) w):=λw hO=>hc▸qCheck_any x' w (rec_inn hQ.nso hQ.bars hQ.fts hO (λb hb=>sub b (.inl hb)) (λb hb=>sub b (.inr (.inl hb))) (λb hb=>sub b (.inr (.inr (.inl hb)))) (λb hb=>sub b (.inr (.inr (.inr (.inl hb))))) (λb hb=>sub b (.inr (.inr (.inr (.inr hb))))) hB hF) (hK.on hO.below)
 rw [hc] at hread
 refine z8 (v:= .tuple #[YI c.1,YI c.2]) [1] (λw hO=>hck w (hO.past 2 T)) (jW 28 [] (c.1=0) (λh28=> ?_) (λh28=> ?_))
 ·refine x_retc3 [1,0] 0 (rvV x') (YI 0) (YI 0) λw hO=> ?_
  rw [if_neg (λq=>q h28)] at hread
  refine ⟨x',o4++(o1++(oi++(oa++og)))++(o7++o8),by rw [hread],by rw [hread],⟨⟨o1,_,o4,o7,o8,rfl,hQ.nso,hQ.bars,hQ.fts⟩⟩,hB,hF,vS [] (hO.past 2 T) λp=> ?_⟩
  rw [←hT]
  simp only [zY,List.countP_append,List.countP_cons,List.countP_nil,List.cons_append,List.nil_append];omega
 ·refine x_retc3 [0] 0 (rvV rv0) (YI c.1) (YI 0) λw hO=>par0 ?_ hO.no
  rw [hread,if_pos h28]
end
section
set_option linter.unnecessarySimpa false
end
section
set_option linter.unnecessarySimpa false
section
variable {M:List Nat}{n:Nat}{W:World}{Q:Exit->Act->World->Prop}{c:Xc}
end
def stV (s:List UInt8):Value:= .string (mkS s)
end
section
set_option linter.unnecessarySimpa false
theorem RecO.inn {x:Rv}{ob L:List Blk}{M:List Nat}{W w:World}(h:RecO x ob)(hO:Own M W w L)(hs:∀ b∈ob,b∈L)(hB:BndR x.rt)(hF:FewR x.rt 4096):RcIn w w.heap.size x:=by
 obtain ⟨o1,o2,o4,o7,o8,rfl,h1,h4,h7⟩:=h
 exact rec_inn h1 h4 h7 hO (λb hb=>hs b (by simp [hb])) (λb hb=>hs b (by simp [hb])) (λb hb=>hs b (by simp [hb])) (λb hb=>hs b (by simp [hb])) (λb hb=>hs b (by simp [hb])) hB hF
def ParV (s:List UInt8)(v:Value)(ob:List Blk):Prop:=∃ x,v= .tuple #[rvV x,YI (bS s).2.1,YI (bS s).2.2]/\x.rt=(bS s).1/\RecO x ob/\BndR x.rt/\FewR x.rt 4096
theorem parse_call (s:List UInt8)(W:World)(hs:s.length<=1000000)(hK:RecLib W)(hL:LyAt W):YC 22 #[.string (mkS s)] W λe w'=>∃ v ob,e= .returned v/\ParV s v ob/\Own [] W w' ob:=
 (qParse_any s W hs hK hL).mono λe w' ⟨⟨x,ob,q1,q2,q3,q4,q5,q6⟩⟩=>⟨_,ob,q1,⟨x,rfl,q2,q3,q4,q5⟩,q6⟩
def awS1:List UInt8:=[112,97,99,107,97,103,101,32,97,112,112,32,49,46,48,46,48,10,110,101,101,100,10,97,110,121,32,98,32,120,32,102,117,108,108,32,94,49,10,119,104,101,110,32,111,115,32,61,32,120,10,98,97,114,32,99,32,42,10,102,101,97,116,117,114,101,32,121,32,98,47,122,10]
def awS2:List UInt8:=[112,97,99,107,97,103,101,32,97,112,112,32,49,46,48,46,48,10,97,110,121,32,98,32,45,32,102,117,108,108,32,42,10]
theorem aw1:(bS awS1).2=(0,0)/\(bS awS1).1.needs.length=1/\(bS awS1).1.bars.length=1/\(zT (bS awS1).1).1=0/\(xH (bS awS1).1).length=73:=by decide+kernel
theorem aw2:(bS awS2).2=(2,2):=by decide+kernel
theorem awake12_any (W:World)(hK:RecLib W)(hL:LyAt W):YC 15 #[] W (YR (.bool true) W):=by
 obtain ⟨a1,a2,a3,a4,a5⟩:=aw1
 have c1:∀ w,Below W.heap.size W w->YC 22 #[.string (mkS awS1)] w λe w'=>∃ v ob,e= .returned v/\(∃ x,v= .tuple #[rvV x,YI 0,YI 0]/\x.rt=(bS awS1).1/\RecO x ob/\BndR x.rt/\FewR x.rt 4096)/\Own [] w w' ob:=λw hb=>by
  refine (parse_call awS1 w (by decide) (hK.on hb) (hL.on hb)).mono λe w' ⟨v,ob,q1,⟨x,q2,q3⟩,q4⟩=>⟨v,ob,q1,⟨x, ?_,q3⟩,q4⟩
  rw [q2,a1]
 have c2:∀ w,Below W.heap.size W w->YC 22 #[.string (mkS awS2)] w λe w'=>∃ v ob,e= .returned v/\(∃ x,v= .tuple #[rvV x,YI 2,YI 2])/\Own [] w w' ob:=λw hb=>by
  refine (parse_call awS2 w (by decide) (hK.on hb) (hL.on hb)).mono λe w' ⟨v,ob,q1,⟨x,q2,q3⟩,q4⟩=>⟨v,ob,q1,⟨x, ?_⟩,q4⟩
  rw [q2,aw2]
 refine zE Tryz.func15 (kP (R:=λv ob=>∃ x,v= .tuple #[rvV x,YI 0,YI 0]/\x.rt=(bS awS1).1/\RecO x ob/\BndR x.rt/\FewR x.rt 4096) [] (λw hO=>c1 w hO.below) ?_)
 rintro v ob ⟨x,rfl,hx,hR,hB,hF⟩
 have hp:∀ w,Own [] W w ob->YC 18 #[rvV x] w (YR (.tuple #[.string (mkS (xH x.rt)),YI 0]) w):=λw hO=>by
  have:=qPrint_any x w (hR.inn hO (λb hb=>hb) hB hF) (hK.on hO.below)
  have h0:(zT x.rt).1=0:=by rw [hx];exact a4
  rw [jX,h0,if_pos rfl] at this
  exact this
 have hn:x.needs.length=1:=by
  have:x.rt.needs.length=1:=by rw [hx];exact a2
  simpa [Rv.rt] using this
 have hbr:x.bars.length=1:=by
  have:x.rt.bars.length=1:=by rw [hx];exact a3
  simpa [Rv.rt] using this
 have hl:(xH x.rt).length=73:=by rw [hx];exact a5
 refine zL [] λb1=>z8 (v:= .tuple #[.string (mkS (xH x.rt)),YI 0]) [0,0] (λw hO=>hp w (hO.past 1 ob)) (kP (R:=λv ob=>∃ x,v= .tuple #[rvV x,YI 2,YI 2]) [] (λw hO=>c2 w hO.below) ?_)
 rintro v2 ob2 ⟨y,rfl⟩
 refine zL [] λb6=>zB 38 [0,1] ((x.needs.length:Int)=1) (λ_=>zB 44 [1] ((x.bars.length:Int)=1) (λ_=>zB 49 [] (((xH x.rt).length:Int)=73) (λ_=> ?_) (λh=>absurd (by rw [hl];rfl) h)) (λh=>absurd (by rw [hbr];rfl) h)) (λh=>absurd (by rw [hn];rfl) h)
 exact z7 [] Z4 λw hO=>⟨rfl,hO.below⟩
end
section
open Go.ChangeShapes Go.WideShapes Go.ChangeAt Go.RowKit Go.Deep
theorem mk_self10 (p:ByteArray):mkS p.data.toList=p:=by unfold mkS;simp
theorem list_of10 {α:Type}{p:Nat->α->Prop}:∀ (n:Nat),(∀ i,i<n→∃ x,p i x)→∃ l:List α,l.length=n∧∀ i (h:i<l.length),p i l[i]
 |0,_=>⟨[],rfl,λi h=>absurd h (Nat.not_lt_zero _)⟩
 |n+1,h=>by
  obtain ⟨l,hl,hp⟩:=list_of10 n λi hi=>h i (Nat.lt_succ_of_lt hi)
  obtain ⟨x,hx⟩:=h n (Nat.lt_succ_self n)
  refine ⟨l++[x],by simp [hl],λi hi=> ?_⟩
  by_cases h1:i<l.length
  ·rw [List.getElem_append_left h1];exact hp i h1
  ·have:i=n:=by simp at hi;omega
   subst this
   rw [List.getElem_append_right Om]
   simpa [hl] using hx
theorem cell_spot10 {w:World}{a:Addr}{v:Value}(h:w.cell? a=some v):a.spot=none:=by
 unfold World.cell? at h
 split at h
 ·split at h
  ·cases h
  ·rename_i hs;simpa using hs
 ·cases h
theorem addr_at10 {a:Addr}(h:a.spot=none)(k:Nat):a.add k=⟨a.block,a.off+k,none⟩:=by
 obtain ⟨b,o,s⟩:=a
 obtain rfl:s=none:=h
 exact xG b o k
theorem vM {α:Type}{g:α->List Value}{sz:Nat}(h0:0<sz)(hg:∀ x,(g x).length=sz){p:α->Prop}{W:World}{a:Addr}{len:Nat}(hel:∀ i,i<len→∃ x,p x/\W.cells? 0 (a.add (i*sz)) sz=some (g x)):
  ∃ l:List α,l.length=len/\Reads g W W.heap.size (some a) l∧∀ x∈l,p x:=by
 obtain ⟨l,hll,hp⟩:=list_of10 (p:=λi (x:α)=>p x/\W.cells? 0 (a.add (i*sz)) sz=some (g x)) len hel
 refine ⟨l,hll,λhl0=> ?_,λx hx=> ?_⟩
 ·have c0:=(hp 0 hl0).2
  have hc:∀ i (hi:i<l.length) j u,(g l[i])[j]?=some u->W.cell? ((a.add (i*sz)).add j)=some u:=λi hi j u hj=>by
   obtain ⟨_,hn,hx⟩:=World.cells?_some (hp i hi).2
   have hjs:j<sz:=by have:=(List.getElem?_eq_some_iff.1 hj).1;rwa [hg] at this
   first|rw [hx j hjs,hj]|(have:=hx j hjs;rw [this];exact hj)
  have s0:(g l[0])[0]?=some ((g l[0])[0]'(by rw [hg];exact h0)):=List.getElem?_eq_getElem _
  have sp:a.spot=none:=by
   have:=cell_spot10 (hc 0 hl0 0 _ s0)
   simpa [Addr.add] using this
  refine ⟨a.block,a.off, ?_, ?_,λk u hk=> ?_⟩
  ·obtain ⟨b,o,s⟩:=a
   obtain rfl:s=none:=sp
   rfl
  ·have:=World.cells?_block c0 h0
   rwa [addr_at10 sp] at this
  ·have hkl:k<l.length*sz:=by have:=(List.getElem?_eq_some_iff.1 hk).1;rwa [jF hg] at this
   have hi:k/sz<l.length:=Nat.div_lt_of_lt_mul (by rwa [Nat.mul_comm] at hkl)
   have e:k/sz*sz+k % sz=k:=Nat.div_add_mod' k sz
   have hms:k % sz<sz:=Nat.mod_lt _ h0
   have h2:=flat_at hg l (k/sz) hi
   have h3:(g l[k/sz])[k % sz]?=some u:=by
    rw [←h2,List.getElem?_take,if_pos hms,List.getElem?_drop,e];exact hk
   have:=hc (k/sz) hi (k % sz) u h3
   rw [addr_at10 sp,xG,Nat.add_assoc,e] at this
   exact this
 ·obtain ⟨i,hi,rfl⟩:=List.mem_iff_getElem.1 hx
  exact (hp i hi).1
theorem back10 {v:Value}{cs:Array Value}{l:List Value}(h:v= .agg cs)(e:v.cells.toList=l):v= .agg l.toArray:=by
 subst h
 have:cs.toList=l:=e
 rw [←this]
section
variable {H:Type}{enc:TypeId×Value->H}{W:World}
theorem tX {fuel:Nat}{cs:List Value}{x:DataW H×List MemPlace}(h:DataW.trod enc Tryz.prog W 0 (λ_=>true) true fuel 3 cs=some x):∃ a,cs=[.int .i64 a]:=by
 obtain ⟨a,e,_,hw⟩:=DataW.trod_int Tryz.underlying3 h
 exact ⟨a,e⟩
theorem gD {fuel:Nat}{cs:List Value}{x:DataW H×List MemPlace}(h:DataW.trod enc Tryz.prog W 0 (λ_=>true) true fuel 9 cs=some x):∃ p:List UInt8,cs=[.string (mkS p)]:=by
 obtain ⟨p,e,_,hw⟩:=DataW.trod_string Tryz.underlying9 h
 exact ⟨p.data.toList,by rw [mk_self10];exact e⟩
theorem size_int10:Tryz.prog.cellsOf 3=1:=by kernel_rfl
theorem size_str10:Tryz.prog.cellsOf 9=1:=by kernel_rfl
end
end
section
open Go.ChangeShapes Go.WideShapes Go.ChangeAt Go.RowKit Go.Deep
section
variable {H:Type}{enc:TypeId×Value->H}{W:World}
theorem size_txs11:Tryz.prog.cellsOf 75=1:=by kernel_rfl
theorem j6:Tryz.prog.cellsOf 9=1:=by kernel_rfl
theorem size_fv11:Tryz.prog.cellsOf 82=2:=by kernel_rfl
theorem cells_txs {fuel:Nat}{cs:List Value}{x:DataW H×List MemPlace}(h:DataW.trod enc Tryz.prog W 0 (λ_=>true) true fuel 75 cs=some x):∃ (A:Option Addr) (cap:Nat) (l:List (List UInt8)),cs=[.slice A l.length cap]/\Reads yV W W.heap.size A l/\l.length<=cap/\cap<=maxLen:=by
 rcases DataW.trod_slice Tryz.underlying75 h with ⟨hcs,_⟩|⟨a,len,cap,elems,rest,n,_,hcs,_,hb,hl,hm,hlen,hel,_,_⟩
 ·exact ⟨none,0,[],hcs,λh=>by simp at h,Nat.le_refl _,Nat.zero_le _⟩
 ·subst hcs
  rw [j6] at hel
  obtain ⟨l,hll,hr,_⟩:=vM (g:=yV) (sz:=1) (p:=λ_=>True) (by decide) zX (W:=W) (a:=a) (len:=len) λi hi=>by
   have h1:=hel i hi
   rw [List.getElem?_eq_getElem Om] at h1
   obtain ⟨cs,e1,e2⟩:=Option.bind_eq_some_iff.1 h1
   obtain ⟨c,e3⟩:=gD e2
   exact ⟨c,trivial,by rw [e1,e3];rfl⟩
  exact ⟨some a,cap,l,by rw [hll],hr,by omega,hm⟩
theorem cells_fv {fuel:Nat}{cs:List Value}{x:DataW H×List MemPlace}(h:DataW.trod enc Tryz.prog W 0 (λ_=>true) true fuel 82 cs=some x):∃ y:Fv,cs=fvC y/\Reads yV W W.heap.size y.A y.of:=by
 obtain ⟨xs,n,_,_,hl,hxl,hg⟩:=DataW.trod_struct Tryz.underlying82 h
 rw [size_fv11] at hl
 match cs,hl with
 | [c0,c1],_=>
  have g:∀ i,i<2→∃ y,xs[i]?=some y:=λi hi=>⟨_,List.getElem?_eq_getElem (by rw [hxl];exact hi)⟩
  obtain ⟨y0,e0⟩:=g 0 Om
  obtain ⟨y1,e1⟩:=g 1 Om
  obtain ⟨a,ha⟩:=gD ((hg 0 _ rfl).trans e0)
  obtain ⟨B,c,l,hb,hr,_,_⟩:=cells_txs ((hg 1 _ rfl).trans e1)
  have ha2:List.take (Tryz.prog.cellsOf 9) (List.drop 0 [c0,c1])=_:=ha
  have hb2:List.take (Tryz.prog.cellsOf 75) (List.drop 1 [c0,c1])=_:=hb
  rw [j6] at ha2
  rw [size_txs11] at hb2
  obtain rfl:c0=_:=List.singleton_inj.1 ha2
  obtain rfl:c1=_:=List.singleton_inj.1 hb2
  exact ⟨⟨a,B,l,c⟩,rfl,hr⟩
end
end
section
open Go.ChangeShapes Go.WideShapes Go.ChangeAt Go.RowKit
theorem open_texts {H:Type}{enc:TypeId×Value->H}{W:World}{base:Nat}{v:Value}{d:DataW H}{ps:List MemPlace}(hval:Value.okWide Tryz.prog W .any base 75 v)
  (h:DataW.Trod enc Tryz.prog W 0 (λ_=>true) true 75 v d ps):∃ l:List (List UInt8),ReadsT W W.heap.size v l/\l.length<=maxLen∧∀ x∈l,x.length<=maxLen:=by
 obtain ⟨A,len,cap,rfl⟩:=okWide_slice Tryz.underlying75 hval
 obtain ⟨fuel,hf⟩:=h
 rcases open_strings Tryz.underlying75 Tryz.underlying9 strCells1 hf with ⟨hcs,_⟩|⟨a,len',cap',ss,hcs,_,hl,hm,hz,_,hcell,hws⟩
 ·simp [Value.cells] at hcs
  obtain ⟨rfl,rfl,rfl⟩:=hcs
  exact ⟨[],⟨none,0,rfl,λh=>by cases h⟩,by simp,by simp⟩
 ·simp [Value.cells] at hcs
  obtain ⟨rfl,rfl,rfl⟩:=hcs
  simp only [if_true] at hz
  have hlen:((ss.take len).map (·.data.toList)).length=len:=by rw [List.length_map,List.length_take];omega
  refine ⟨(ss.take len).map (·.data.toList),⟨some a,cap,by rw [hlen],λh0=>⟨a,rfl, ?_,λj hj=> ?_⟩⟩,by rw [hlen];omega,λx hx=> ?_⟩
  ·have:=cell_lt (hcell 0 Om)
   rwa [pV] at this
  ·have hj2:j<ss.length:=by omega
   rw [hcell j hj2,List.getElem_map,List.getElem_take]
   simp only [List.getD,List.getElem?_eq_getElem hj2,Option.getD_some]
   rfl
  ·obtain ⟨s,hs,rfl⟩:=List.mem_map.1 hx
   have:=hws s (List.mem_of_mem_take hs)
   rw [wC];exact this
theorem powType:(Tryz.prog.globals[3]?).map (·.type)=some 335:=by kernel_rfl
theorem powNamed : Tryz.prog.globalNamed "internal/strconv.uint64pow10" = some 3 := by kernel_rfl
theorem powCells:Tryz.prog.cellsOf 335=20:=by kernel_rfl
theorem u64Cells:Tryz.prog.cellsOf 36=1:=by kernel_rfl
theorem hasTab_of {W : World} {l : List (String × DataW Unit)} (h : laidMetH Tryz.prog l W) (e : (l.filter fun x => x.1 == "internal/strconv.uint64pow10") = [("internal/strconv.uint64pow10", Lib.tabData .u64 Lib.pow10Tab)]) : HasTab W := by
 have h2 := h.filter (fun x => x.1 == "internal/strconv.uint64pow10")
 rw [e] at h2
 exact Lib.tabBelow_of_tabIs (Lib.tabIs_of_head (rest:=[]) powNamed powType Tryz.underlying335 Tryz.underlying36 u64Cells powCells h2)
end
section
open Go.ChangeShapes Go.WideShapes Go.ChangeAt Go.RowKit Go.Deep
theorem mk_self (p:ByteArray):mkS p.data.toList=p:=by unfold mkS;simp
def Ver.wide (v:Ver):Prop:=v.pre.length<=maxLen/\v.build.length<=maxLen
def Ver.i64 (v:Ver):Prop:=((-9223372036854775808<=v.maj/\v.maj<=9223372036854775807)/\(-9223372036854775808<=v.min/\v.min<=9223372036854775807))/\(-9223372036854775808<=v.pat/\v.pat<=9223372036854775807)
theorem wf_i64 {a:Int}(h:(Lit.int .i64 a).wf=true): -9223372036854775808<=a/\a<=9223372036854775807:=bounds_i64 h
section
variable {H:Type}{enc:TypeId×Value->H}{W:World}
theorem cells_int {fuel:Nat}{cs:List Value}{x:DataW H×List MemPlace}(h:DataW.trod enc Tryz.prog W 0 (λ_=>true) true fuel 3 cs=some x):∃ a,cs=[.int .i64 a]/\(-9223372036854775808<=a/\a<=9223372036854775807):=by
 obtain ⟨a,e,_,hw⟩:=DataW.trod_int Tryz.underlying3 h
 exact ⟨a,e,wf_i64 hw⟩
theorem cells_str {fuel:Nat}{cs:List Value}{x:DataW H×List MemPlace}(h:DataW.trod enc Tryz.prog W 0 (λ_=>true) true fuel 9 cs=some x):∃ p:List UInt8,cs=[.string (mkS p)]/\p.length<=maxLen:=by
 obtain ⟨p,e,_,hw⟩:=DataW.trod_string Tryz.underlying9 h
 exact ⟨p.data.toList,by rw [mk_self];exact e,by rw [wC];exact hw⟩
theorem cells_bool {fuel:Nat}{cs:List Value}{x:DataW H×List MemPlace}(h:DataW.trod enc Tryz.prog W 0 (λ_=>true) true fuel 4 cs=some x):∃ a,cs=[.bool a]:=by
 obtain ⟨a,e,_⟩:=DataW.trod_bool Tryz.underlying4 h
 exact ⟨a,e⟩
theorem size_int:Tryz.prog.cellsOf 3=1:=by kernel_rfl
theorem size_str:Tryz.prog.cellsOf 9=1:=by kernel_rfl
theorem size_ver:Tryz.prog.cellsOf 23=5:=by kernel_rfl
theorem cells_ver {fuel:Nat}{cs:List Value}{x:DataW H×List MemPlace}(h:DataW.trod enc Tryz.prog W 0 (λ_=>true) true fuel 23 cs=some x):∃ v:Ver,cs=(k8 v).cells.toList/\v.wide/\v.i64:=by
 obtain ⟨xs,n,_,_,hl,hxl,hg⟩:=DataW.trod_struct Tryz.underlying23 h
 rw [size_ver] at hl
 match cs,hl with
 | [c0,c1,c2,c3,c4],_=>
  have g:∀ i,i<5→∃ y,xs[i]?=some y:=λi hi=>⟨_,List.getElem?_eq_getElem (by rw [hxl];exact hi)⟩
  obtain ⟨y0,e0⟩:=g 0 Om
  obtain ⟨y1,e1⟩:=g 1 Om
  obtain ⟨y2,e2⟩:=g 2 Om
  obtain ⟨y3,e3⟩:=g 3 Om
  obtain ⟨y4,e4⟩:=g 4 Om
  obtain ⟨a,ha,wa⟩:=cells_int ((hg 0 _ rfl).trans e0)
  obtain ⟨b,hb,wb⟩:=cells_int ((hg 1 _ rfl).trans e1)
  obtain ⟨c,hc,wc⟩:=cells_int ((hg 2 _ rfl).trans e2)
  obtain ⟨p,hp,wp⟩:=cells_str ((hg 3 _ rfl).trans e3)
  obtain ⟨q,hq,wq⟩:=cells_str ((hg 4 _ rfl).trans e4)
  have ha2:List.take (Tryz.prog.cellsOf 3) (List.drop 0 [c0,c1,c2,c3,c4])=_:=ha
  have hb2:List.take (Tryz.prog.cellsOf 3) (List.drop 1 [c0,c1,c2,c3,c4])=_:=hb
  have hc2:List.take (Tryz.prog.cellsOf 3) (List.drop 2 [c0,c1,c2,c3,c4])=_:=hc
  have hp2:List.take (Tryz.prog.cellsOf 9) (List.drop 3 [c0,c1,c2,c3,c4])=_:=hp
  have hq2:List.take (Tryz.prog.cellsOf 9) (List.drop 4 [c0,c1,c2,c3,c4])=_:=hq
  rw [size_int] at ha2 hb2 hc2
  rw [size_str] at hp2 hq2
  obtain rfl:c0=_:=List.singleton_inj.1 ha2
  obtain rfl:c1=_:=List.singleton_inj.1 hb2
  obtain rfl:c2=_:=List.singleton_inj.1 hc2
  obtain rfl:c3=_:=List.singleton_inj.1 hp2
  obtain rfl:c4=_:=List.singleton_inj.1 hq2
  exact ⟨⟨a,b,c,p,q⟩,rfl,⟨wp,wq⟩,⟨⟨wa,wb⟩,wc⟩⟩
def Cu.wide (c:Cu):Prop:=c.v.wide/\c.v.i64/\(-9223372036854775808<=c.e/\c.e<=9223372036854775807)
def Sp.wide (s:Sp):Prop:=s.lo.wide/\s.hi.wide
end
end
section
open Go.ChangeShapes Go.WideShapes Go.ChangeAt Go.RowKit Go.Deep
structure RcRd (w:World)(B:Nat)(x:Rv):Prop where
 needs:Reads nvC w B x.nA x.needs
 any:∀ n∈x.needs,Reads wvC w B n.A n.any
 wfs:∀ n∈x.needs,∀ u∈n.any,Reads yV w B u.A u.fs
 bars:Reads bvC w B x.bA x.bars
 ftop:Reads fvC w B x.fA x.fts
 feach:∀ y∈x.fts,Reads yV w B y.A y.of
theorem RcRd.on {w w':World}{B B':Nat}{x:Rv}(h:RcRd w B x)(hb:Below B w w')(hB:B<=B'):RcRd w' B' x:=
 ⟨h.needs.on hb hB,λn hn=>(h.any n hn).on hb hB,λn hn u hu=>(h.wfs n hn u hu).on hb hB,h.bars.on hb hB,h.ftop.on hb hB,λy hy=>(h.feach y hy).on hb hB⟩
theorem wvC_length (x:Wv):(wvC x).length=4:=rfl
theorem nvC_length (x:Nv):(nvC x).length=3:=rfl
section
variable {H:Type}{enc:TypeId×Value->H}{W:World}
theorem size_bool12:Tryz.prog.cellsOf 4=1:=by kernel_rfl
theorem size_wv12:Tryz.prog.cellsOf 77=4:=by kernel_rfl
theorem size_wvs12:Tryz.prog.cellsOf 72=1:=by kernel_rfl
theorem size_nv12:Tryz.prog.cellsOf 74=3:=by kernel_rfl
theorem size_nvs12:Tryz.prog.cellsOf 24=1:=by kernel_rfl
theorem size_bv12:Tryz.prog.cellsOf 80=3:=by kernel_rfl
theorem size_bvs12:Tryz.prog.cellsOf 25=1:=by kernel_rfl
theorem size_fvs12:Tryz.prog.cellsOf 26=1:=by kernel_rfl
theorem size_ver12:Tryz.prog.cellsOf 23=5:=by kernel_rfl
theorem size_rv12:Tryz.prog.cellsOf 28=9:=by kernel_rfl
theorem cells_wv {fuel:Nat}{cs:List Value}{x:DataW H×List MemPlace}(h:DataW.trod enc Tryz.prog W 0 (λ_=>true) true fuel 77 cs=some x):∃ y:Wv,cs=wvC y/\Reads yV W W.heap.size y.A y.fs:=by
 obtain ⟨xs,n,_,_,hl,hxl,hg⟩:=DataW.trod_struct Tryz.underlying77 h
 rw [size_wv12] at hl
 match cs,hl with
 | [c0,c1,c2,c3],_=>
  have g:∀ i,i<4→∃ y,xs[i]?=some y:=λi hi=>⟨_,List.getElem?_eq_getElem (by rw [hxl];exact hi)⟩
  obtain ⟨y0,e0⟩:=g 0 Om
  obtain ⟨y1,e1⟩:=g 1 Om
  obtain ⟨y2,e2⟩:=g 2 Om
  obtain ⟨y3,e3⟩:=g 3 Om
  obtain ⟨a,ha⟩:=gD ((hg 0 _ rfl).trans e0)
  obtain ⟨b,hb⟩:=gD ((hg 1 _ rfl).trans e1)
  obtain ⟨B,c,l,hc,hr,_,_⟩:=cells_txs ((hg 2 _ rfl).trans e2)
  obtain ⟨d,hd⟩:=cells_bool ((hg 3 _ rfl).trans e3)
  have ha2:List.take (Tryz.prog.cellsOf 9) (List.drop 0 [c0,c1,c2,c3])=_:=ha
  have hb2:List.take (Tryz.prog.cellsOf 9) (List.drop 1 [c0,c1,c2,c3])=_:=hb
  have hc2:List.take (Tryz.prog.cellsOf 75) (List.drop 2 [c0,c1,c2,c3])=_:=hc
  have hd2:List.take (Tryz.prog.cellsOf 4) (List.drop 3 [c0,c1,c2,c3])=_:=hd
  rw [j6] at ha2 hb2
  rw [size_txs11] at hc2
  rw [size_bool12] at hd2
  obtain rfl:c0=_:=List.singleton_inj.1 ha2
  obtain rfl:c1=_:=List.singleton_inj.1 hb2
  obtain rfl:c2=_:=List.singleton_inj.1 hc2
  obtain rfl:c3=_:=List.singleton_inj.1 hd2
  exact ⟨⟨a,b,B,c,l,d⟩,rfl,hr⟩
theorem cells_wvs {fuel:Nat}{cs:List Value}{x:DataW H×List MemPlace}(h:DataW.trod enc Tryz.prog W 0 (λ_=>true) true fuel 72 cs=some x):∃ (A:Option Addr) (cap:Nat) (l:List Wv),cs=[.slice A l.length cap]/\Reads wvC W W.heap.size A l∧∀ u∈l,Reads yV W W.heap.size u.A u.fs:=by
 rcases DataW.trod_slice Tryz.underlying72 h with ⟨hcs,_⟩|⟨a,len,cap,elems,rest,n,_,hcs,_,hb,hl,hm,hlen,hel,_,_⟩
 ·exact ⟨none,0,[],hcs,λh=>by simp at h,λu hu=>by cases hu⟩
 ·subst hcs
  rw [size_wv12] at hel
  obtain ⟨l,hll,hr,he⟩:=vM (g:=wvC) (sz:=4) (p:=λu=>Reads yV W W.heap.size u.A u.fs) (by decide) wvC_length (W:=W) (a:=a) (len:=len) λi hi=>by
   have h1:=hel i hi
   rw [List.getElem?_eq_getElem Om] at h1
   obtain ⟨cs,e1,e2⟩:=Option.bind_eq_some_iff.1 h1
   obtain ⟨c,e3,e4⟩:=cells_wv e2
   exact ⟨c,e4,by rw [e1,e3]⟩
  exact ⟨some a,cap,l,by rw [hll],hr,he⟩
def NvRd (W:World)(y:Nv):Prop:=Reads wvC W W.heap.size y.A y.any∧∀ u∈y.any,Reads yV W W.heap.size u.A u.fs
theorem cells_nv {fuel:Nat}{cs:List Value}{x:DataW H×List MemPlace}(h:DataW.trod enc Tryz.prog W 0 (λ_=>true) true fuel 74 cs=some x):∃ y:Nv,cs=nvC y/\NvRd W y:=by
 obtain ⟨xs,n,_,_,hl,hxl,hg⟩:=DataW.trod_struct Tryz.underlying74 h
 rw [size_nv12] at hl
 match cs,hl with
 | [c0,c1,c2],_=>
  have g:∀ i,i<3→∃ y,xs[i]?=some y:=λi hi=>⟨_,List.getElem?_eq_getElem (by rw [hxl];exact hi)⟩
  obtain ⟨y0,e0⟩:=g 0 Om
  obtain ⟨y1,e1⟩:=g 1 Om
  obtain ⟨y2,e2⟩:=g 2 Om
  obtain ⟨B,c,l,ha,hr,he⟩:=cells_wvs ((hg 0 _ rfl).trans e0)
  obtain ⟨a,hb⟩:=gD ((hg 1 _ rfl).trans e1)
  obtain ⟨b,hc⟩:=gD ((hg 2 _ rfl).trans e2)
  have ha2:List.take (Tryz.prog.cellsOf 72) (List.drop 0 [c0,c1,c2])=_:=ha
  have hb2:List.take (Tryz.prog.cellsOf 9) (List.drop 1 [c0,c1,c2])=_:=hb
  have hc2:List.take (Tryz.prog.cellsOf 9) (List.drop 2 [c0,c1,c2])=_:=hc
  rw [size_wvs12] at ha2
  rw [j6] at hb2 hc2
  obtain rfl:c0=_:=List.singleton_inj.1 ha2
  obtain rfl:c1=_:=List.singleton_inj.1 hb2
  obtain rfl:c2=_:=List.singleton_inj.1 hc2
  exact ⟨⟨B,c,l,a,b⟩,rfl,hr,he⟩
theorem cells_nvs {fuel:Nat}{cs:List Value}{x:DataW H×List MemPlace}(h:DataW.trod enc Tryz.prog W 0 (λ_=>true) true fuel 24 cs=some x):∃ (A:Option Addr) (cap:Nat) (l:List Nv),cs=[.slice A l.length cap]/\Reads nvC W W.heap.size A l∧∀ u∈l,NvRd W u:=by
 rcases DataW.trod_slice Tryz.underlying24 h with ⟨hcs,_⟩|⟨a,len,cap,elems,rest,n,_,hcs,_,hb,hl,hm,hlen,hel,_,_⟩
 ·exact ⟨none,0,[],hcs,λh=>by simp at h,λu hu=>by cases hu⟩
 ·subst hcs
  rw [size_nv12] at hel
  obtain ⟨l,hll,hr,he⟩:=vM (g:=nvC) (sz:=3) (p:=NvRd W) (by decide) nvC_length (W:=W) (a:=a) (len:=len) λi hi=>by
   have h1:=hel i hi
   rw [List.getElem?_eq_getElem Om] at h1
   obtain ⟨cs,e1,e2⟩:=Option.bind_eq_some_iff.1 h1
   obtain ⟨c,e3,e4⟩:=cells_nv e2
   exact ⟨c,e4,by rw [e1,e3]⟩
  exact ⟨some a,cap,l,by rw [hll],hr,he⟩
theorem cells_bv {fuel:Nat}{cs:List Value}{x:DataW H×List MemPlace}(h:DataW.trod enc Tryz.prog W 0 (λ_=>true) true fuel 80 cs=some x):∃ y:Bv,cs=bvC y:=by
 obtain ⟨xs,n,_,_,hl,hxl,hg⟩:=DataW.trod_struct Tryz.underlying80 h
 rw [size_bv12] at hl
 match cs,hl with
 | [c0,c1,c2],_=>
  have g:∀ i,i<3→∃ y,xs[i]?=some y:=λi hi=>⟨_,List.getElem?_eq_getElem (by rw [hxl];exact hi)⟩
  obtain ⟨y0,e0⟩:=g 0 Om
  obtain ⟨y1,e1⟩:=g 1 Om
  obtain ⟨y2,e2⟩:=g 2 Om
  obtain ⟨a,ha⟩:=gD ((hg 0 _ rfl).trans e0)
  obtain ⟨b,hb⟩:=gD ((hg 1 _ rfl).trans e1)
  obtain ⟨c,hc⟩:=gD ((hg 2 _ rfl).trans e2)
  have ha2:List.take (Tryz.prog.cellsOf 9) (List.drop 0 [c0,c1,c2])=_:=ha
  have hb2:List.take (Tryz.prog.cellsOf 9) (List.drop 1 [c0,c1,c2])=_:=hb
  have hc2:List.take (Tryz.prog.cellsOf 9) (List.drop 2 [c0,c1,c2])=_:=hc
  rw [j6] at ha2 hb2 hc2
  obtain rfl:c0=_:=List.singleton_inj.1 ha2
  obtain rfl:c1=_:=List.singleton_inj.1 hb2
  obtain rfl:c2=_:=List.singleton_inj.1 hc2
  exact ⟨⟨a,b,c⟩,rfl⟩
theorem cells_bvs {fuel:Nat}{cs:List Value}{x:DataW H×List MemPlace}(h:DataW.trod enc Tryz.prog W 0 (λ_=>true) true fuel 25 cs=some x):∃ (A:Option Addr) (cap:Nat) (l:List Bv),cs=[.slice A l.length cap]/\Reads bvC W W.heap.size A l:=by
 rcases DataW.trod_slice Tryz.underlying25 h with ⟨hcs,_⟩|⟨a,len,cap,elems,rest,n,_,hcs,_,hb,hl,hm,hlen,hel,_,_⟩
 ·exact ⟨none,0,[],hcs,λh=>by simp at h⟩
 ·subst hcs
  rw [size_bv12] at hel
  obtain ⟨l,hll,hr,_⟩:=vM (g:=bvC) (sz:=3) (p:=λ_=>True) (by decide) pR (W:=W) (a:=a) (len:=len) λi hi=>by
   have h1:=hel i hi
   rw [List.getElem?_eq_getElem Om] at h1
   obtain ⟨cs,e1,e2⟩:=Option.bind_eq_some_iff.1 h1
   obtain ⟨c,e3⟩:=cells_bv e2
   exact ⟨c,trivial,by rw [e1,e3]⟩
  exact ⟨some a,cap,l,by rw [hll],hr⟩
theorem cells_fvs {fuel:Nat}{cs:List Value}{x:DataW H×List MemPlace}(h:DataW.trod enc Tryz.prog W 0 (λ_=>true) true fuel 26 cs=some x):∃ (A:Option Addr) (cap:Nat) (l:List Fv),cs=[.slice A l.length cap]/\Reads fvC W W.heap.size A l∧∀ y∈l,Reads yV W W.heap.size y.A y.of:=by
 rcases DataW.trod_slice Tryz.underlying26 h with ⟨hcs,_⟩|⟨a,len,cap,elems,rest,n,_,hcs,_,hb,hl,hm,hlen,hel,_,_⟩
 ·exact ⟨none,0,[],hcs,λh=>by simp at h,λu hu=>by cases hu⟩
 ·subst hcs
  rw [size_fv11] at hel
  obtain ⟨l,hll,hr,he⟩:=vM (g:=fvC) (sz:=2) (p:=λy=>Reads yV W W.heap.size y.A y.of) (by decide) vU (W:=W) (a:=a) (len:=len) λi hi=>by
   have h1:=hel i hi
   rw [List.getElem?_eq_getElem Om] at h1
   obtain ⟨cs,e1,e2⟩:=Option.bind_eq_some_iff.1 h1
   obtain ⟨c,e3,e4⟩:=cells_fv e2
   exact ⟨c,e4,by rw [e1,e3]⟩
  exact ⟨some a,cap,l,by rw [hll],hr,he⟩
theorem open_rec {base:Nat}{v:Value}{d:DataW H}{ps:List MemPlace}(hval:Value.okWide Tryz.prog W .any base 28 v)(h:DataW.Trod enc Tryz.prog W 0 (λ_=>true) true 28 v d ps):∃ x:Rv,v=rvV x/\RcRd W W.heap.size x:=by
 obtain ⟨cs,hc,_⟩:=okWide_struct Tryz.underlying28 hval
 obtain ⟨fuel,hf⟩:=h
 obtain ⟨xs,n,_,_,hl,hxl,hg⟩:=DataW.trod_struct Tryz.underlying28 hf
 rw [size_rv12] at hl
 have g:∀ i,i<5→∃ y,xs[i]?=some y:=λi hi=>⟨_,List.getElem?_eq_getElem (by rw [hxl];exact hi)⟩
 obtain ⟨y0,e0⟩:=g 0 Om
 obtain ⟨y1,e1⟩:=g 1 Om
 obtain ⟨y2,e2⟩:=g 2 Om
 obtain ⟨y3,e3⟩:=g 3 Om
 obtain ⟨y4,e4⟩:=g 4 Om
 obtain ⟨a,ha⟩:=gD ((hg 0 _ rfl).trans e0)
 obtain ⟨u,hu,_,_⟩:=cells_ver ((hg 1 _ rfl).trans e1)
 obtain ⟨nA,nc,ns,hn,rn,rn2⟩:=cells_nvs ((hg 2 _ rfl).trans e2)
 obtain ⟨bA,bc,bs,hb,rb⟩:=cells_bvs ((hg 3 _ rfl).trans e3)
 obtain ⟨fA,fc,fs,hq,rf,rf2⟩:=cells_fvs ((hg 4 _ rfl).trans e4)
 generalize hcv:v.cells.toList=L at*
 have ha2:List.take (Tryz.prog.cellsOf 9) (List.drop 0 L)=_:=ha
 have hu2:List.take (Tryz.prog.cellsOf 23) (List.drop 1 L)=_:=hu
 have hn2:List.take (Tryz.prog.cellsOf 24) (List.drop 6 L)=_:=hn
 have hb2:List.take (Tryz.prog.cellsOf 25) (List.drop 7 L)=_:=hb
 have hq2:List.take (Tryz.prog.cellsOf 26) (List.drop 8 L)=_:=hq
 rw [j6] at ha2
 rw [size_ver12] at hu2
 rw [size_nvs12] at hn2
 rw [size_bvs12] at hb2
 rw [size_fvs12] at hq2
 refine ⟨⟨a,u.maj,u.min,u.pat,u.pre,u.build,nA,nc,ns,bA,bc,bs,fA,fc,fs⟩, ?_,⟨rn,λy hy=>(rn2 y hy).1,λy hy=>(rn2 y hy).2,rb,rf,rf2⟩⟩
 refine (back10 hc (hcv.trans (?_:L=rvC ⟨a,u.maj,u.min,u.pat,u.pre,u.build,nA,nc,ns,bA,bc,bs,fA,fc,fs⟩))).trans rfl
 match L,hl with
 | [c0,c1,c2,c3,c4,c5,c6,c7,c8],_=>
  obtain rfl:c0=_:=List.singleton_inj.1 ha2
  obtain rfl:c6=_:=List.singleton_inj.1 hn2
  obtain rfl:c7=_:=List.singleton_inj.1 hb2
  obtain rfl:c8=_:=List.singleton_inj.1 hq2
  have hu3:[c1,c2,c3,c4,c5]=(k8 u).cells.toList:=hu2
  show _::([c1,c2,c3,c4,c5]++_)=_
  rw [hu3];rfl
end
end
section
set_option linter.unnecessarySimpa false
def ShT (l:List (List UInt8)):Prop:=l.length<=12∧∀ s∈l,s.length<=100
def ShW (u:Wv):Prop:=u.name.length<=100/\u.rng.length<=200/\ShT u.fs
def ShN (n:Nv):Prop:=(n.any.length<=6∧¬ IntKind.i64.wrap ((n.wh.length:Int)+(n.opt.length:Int))>300)∧∀ u∈n.any,ShW u
def ShB (b:Bv):Prop:=b.name.length<=100/\b.rng.length<=200/\b.wh.length<=200
def ShF (y:Fv):Prop:=y.name.length<=100/\ShT y.of
structure ShR (x:Rv):Prop where
 nn:x.needs.length<=12
 nb:x.bars.length<=12
 nf:x.fts.length<=12
 sum:¬ IntKind.i64.wrap (IntKind.i64.wrap ((x.name.length:Int)+(x.pre.length:Int))+(x.bld.length:Int))>200
 needs:∀ n∈x.needs,ShN n
 bars:∀ b∈x.bars,ShB b
 fts:∀ y∈x.fts,ShF y
theorem ShR.sm {w:World}{B:Nat}{x:Rv}(h:ShR x)(hr:RcRd w B x):RcSm w B x:=
 ⟨hr.needs,hr.any,hr.wfs,hr.bars,⟨hr.ftop,hr.feach,by have:=h.nf;omega,λy hy=>by have:=(h.fts y hy).2.1;omega,λy hy=>by have:=(h.fts y hy).1;omega,λy hy s hs=>by have:=(h.fts y hy).2.2 s hs;omega⟩,
  by have:=h.nn;omega,λn hn=>by have:=(h.needs n hn).1.1;omega,λn hn u hu=>by have:=((h.needs n hn).2 u hu).2.2.1;omega,by have:=h.nb;omega⟩
def YesB (p:Prop)(v:Value):Prop:=∃ b,v= .bool b/\(b=true->p)
theorem jT {p:Prop}:YesB p (.bool false):=⟨false,rfl,λh=>by cases h⟩
theorem texts12_any (A:Option Addr)(cap:Nat)(l:List (List UInt8))(W:World)(hv:Reads yV W W.heap.size A l):YC 51 #[.slice A l.length cap] W λe w'=>∃ v,e= .returned v/\YesB (ShT l) v/\Below W.heap.size W w':=by
 refine zE Tryz.func51 (zO (α:=Nat) (λi=>[(0,.slice A l.length cap),(3,YI (i:Int))]) (λ_=>[]) (λi m=>(i<=l.length/\i<=12∧∀ s∈l.take i,s.length<=100)/\m=l.length-i) 0 l.length [] ⟨⟨Nat.zero_le _,Nat.zero_le _,λs h=>by simp at h⟩,rfl⟩ ?_)
 rintro i mm g kk ⟨⟨hi,hi12,hno⟩,hmm⟩ nx hkk
 subst hkk
 refine zB 7 [] ((i:Int)<(l.length:Int)) (λh7=> ?_) (λh7=> ?_)
 rotate_left
 ·exact z7 [] Z4 λw hO=>⟨_,rfl,⟨true,rfl,λ_=>⟨by omega,yQ (p:=λs:List UInt8=>s.length<=100) (show l.length<=i by omega) hno⟩⟩,hO.below⟩
 refine zB 11 [] ((i:Int)>11) (λh11=> ?_) (λh11=> ?_)
 ·exact z7 [] Z5 λw hO=>⟨_,rfl,jT,hO.below⟩
 have hj:i<l.length:=by omega
 obtain ⟨eb,eo,hA,hel⟩:=hv.elem zX i hj
 have hgo:=y9 (p:=λs:List UInt8=>s.length<=100) hj hno
 have h1:∀ w,Below W.heap.size W w->(loadVar 9 ⟨eb,eo+i*1+0,none⟩).run Tryz.prog w= .ok (.string (mkS l[i])) w:=λw hw=>hel w hw _ 0 _ Kr
 generalize l[i]=u at hgo h1
 refine zJ 15 [] hA l.length cap i 1 hj (zH 16 [] 9 eb (eo+i*1+0) (.string (mkS u)) (λw hO=>h1 w hO.below) (zB 18 [] ((u.length:Int)>100) (λh18=> ?_) (λh18=> ?_)))
 ·exact z7 [] Z5 λw hO=>⟨_,rfl,jT,hO.below⟩
 ·exact x_i 9 [] ((i+1:Nat):Int) (nx (i+1) (l.length-(i+1)) [] Om ⟨⟨hj,by omega,hgo Om⟩,rfl⟩ Kr Kr)
theorem short12_any (x:Rv)(W:World)(hx:RcRd W W.heap.size x):YC 14 #[rvV x] W λe w'=>∃ v,e= .returned v/\YesB (ShR x) v/\Below W.heap.size W w':=by
 refine zE Tryz.func14 (yN [] λb1=>zB 25 [0,0,0,0] ((x.needs.length:Int)>12) (λh25=> ?_) (λh25=>zB 30 [0] ((x.bars.length:Int)>12) (λh30=> ?_) (λh30=>zB 36 [0] ((x.fts.length:Int)>12) (λh36=> ?_) (λh36=>zB 40 [] (IntKind.i64.wrap (IntKind.i64.wrap ((x.name.length:Int)+(x.pre.length:Int))+(x.bld.length:Int))>200) (λh40=> ?_) (λh40=> ?_)))))
 ·exact z7 [] Z5 λw hO=>⟨_,rfl,jT,hO.below⟩
 ·exact z7 [] Z5 λw hO=>⟨_,rfl,jT,hO.below⟩
 ·exact z7 [] Z5 λw hO=>⟨_,rfl,jT,hO.below⟩
 ·exact z7 [] Z5 λw hO=>⟨_,rfl,jT,hO.below⟩
 refine zO (α:=Nat) (λi=>[(1,Zp b1 0),(4,YI (i:Int))]) (λ_=>[⟨b1,(rvC x).toArray,28⟩]) (λi m=>(i<=x.needs.length∧∀ n∈x.needs.take i,ShN n)/\m=x.needs.length-i) 0 x.needs.length [] ⟨⟨Nat.zero_le _,λn h=>by simp at h⟩,rfl⟩ ?_
 rintro i mm g kk ⟨⟨hi,hno⟩,hmm⟩ nx hkk
 subst hkk
 refine zB 46 [0] ((i:Int)<(x.needs.length:Int)) (λh46=> ?_) (λh46=> ?_)
 ·have hj:i<x.needs.length:=by omega
  obtain ⟨eb,eo,hA,hel⟩:=hx.needs.elem jO i hj
  have hgo:=y9 (p:=ShN) hj hno
  have hsm:x.needs[i]∈x.needs:=List.getElem_mem hj
  have ha:=hx.any _ hsm;have hw:=hx.wfs _ hsm
  have q0:∀ w,Below W.heap.size W w->(loadVar 72 ⟨eb,eo+i*3+0,none⟩).run Tryz.prog w= .ok (.slice x.needs[i].A x.needs[i].any.length x.needs[i].cap) w:=λw hw=>hel w hw _ 0 _ Kr
  have q1:∀ w,Below W.heap.size W w->(loadVar 9 ⟨eb,eo+i*3+1,none⟩).run Tryz.prog w= .ok (.string (mkS x.needs[i].wh)) w:=λw hw=>hel w hw _ 1 _ Kr
  have q2:∀ w,Below W.heap.size W w->(loadVar 9 ⟨eb,eo+i*3+2,none⟩).run Tryz.prog w= .ok (.string (mkS x.needs[i].opt)) w:=λw hw=>hel w hw _ 2 _ Kr
  generalize x.needs[i]=n at hgo ha hw q0 q1 q2
  refine zJ 52 [0] hA x.needs.length x.nc i 3 hj (zH 54 [] 72 eb (eo+i*3+0) (.slice n.A n.any.length n.cap) (λw hO=>q0 w hO.below) (zB 56 [] ((n.any.length:Int)>6) (λh56=> ?_) (λh56=> ?_)))
  ·exact z7 [] Z5 λw hO=>⟨_,rfl,jT,hO.below⟩
  refine zJ 61 [0] hA x.needs.length x.nc i 3 hj (zH 63 [] 9 eb (eo+i*3+1) (.string (mkS n.wh)) (λw hO=>q1 w hO.below) (zJ 68 [0] hA x.needs.length x.nc i 3 hj (zH 70 [] 9 eb (eo+i*3+2) (.string (mkS n.opt)) (λw hO=>q2 w hO.below) (zB 73 [] (IntKind.i64.wrap ((n.wh.length:Int)+(n.opt.length:Int))>300) (λh73=> ?_) (λh73=> ?_)))))
  ·exact z7 [] Z5 λw hO=>⟨_,rfl,jT,hO.below⟩
  refine zO (α:=Nat) (λk=>[(1,Zp b1 0),(4,YI (i:Int)),(5,YI (k:Int))]) (λ_=>[⟨b1,(rvC x).toArray,28⟩]) (λk m=>(k<=n.any.length∧∀ u∈n.any.take k,ShW u)/\m=n.any.length-k) 0 n.any.length [] ⟨⟨Nat.zero_le _,λn h=>by simp at h⟩,rfl⟩ ?_
  rintro k mm2 g2 kk2 ⟨⟨hk,hno2⟩,hmm2⟩ nx2 hkk2
  subst hkk2
  refine zJ 79 [0] hA x.needs.length x.nc i 3 hj (zH 81 [] 72 eb (eo+i*3+0) (.slice n.A n.any.length n.cap) (λw hO=>q0 w hO.below) (zB 83 [] ((k:Int)<(n.any.length:Int)) (λh83=> ?_) (λh83=> ?_)))
  rotate_left
  ·exact x_i 48 [] ((i+1:Nat):Int) (nx (i+1) (x.needs.length-(i+1)) [] Om ⟨⟨hj,hgo ⟨⟨by omega,h73⟩,yQ (p:=ShW) (show n.any.length<=k by omega) hno2⟩⟩,rfl⟩ Kr Kr)
  have hj2:k<n.any.length:=by omega
  obtain ⟨fb,fo,hA2,hel2⟩:=ha.elem p9 k hj2
  have hgo2:=y9 (p:=ShW) hj2 hno2
  have hr:=hw _ (List.getElem_mem hj2)
  have q3:∀ w,Below W.heap.size W w->(loadVar 77 ⟨fb,fo+k*4+0,none⟩).run Tryz.prog w= .ok (wvV n.any[k]) w:=λw hw=>hel2 w hw _ 0 _ Kr
  generalize n.any[k]=u at hgo2 hr q3
  have hc:∀ w,Below W.heap.size W w->YC 51 #[.slice u.A u.fs.length u.cap] w λe w'=>∃ v,e= .returned v/\YesB (ShT u.fs) v/\Below w.heap.size w w':=λw hb=>texts12_any u.A u.cap u.fs w (hr.on hb hb.size)
  refine zJ 89 [0] hA x.needs.length x.nc i 3 hj (zH 91 [] 72 eb (eo+i*3+0) (.slice n.A n.any.length n.cap) (λw hO=>q0 w hO.below) (zJ 93 [] hA2 n.any.length n.cap k 4 hj2 (zH 94 [] 77 fb (fo+k*4+0) (wvV u) (λw hO=>q3 w hO.below) (zL [] λb6=>zB 98 [0,0] ((u.name.length:Int)>100) (λh98=> ?_) (λh98=>zB 103 [0] ((u.rng.length:Int)>200) (λh103=> ?_) (λh103=> ?_))))))
  ·exact z7 [] Z5 λw hO=>⟨_,rfl,jT,hO.below⟩
  ·exact z7 [] Z5 λw hO=>⟨_,rfl,jT,hO.below⟩
  refine x_callE (R:=YesB (ShT u.fs)) [0] (λw hO=>hc w hO.below) ?_
  rintro v ⟨bt,rfl,hbt⟩
  refine zU 108 bt (λe1=> ?_) (λe1=> ?_)
  ·exact x_i 85 [] ((k+1:Nat):Int) (yT [] [⟨b1,(rvC x).toArray,28⟩] (λw hO=>hO.past 1 _) (nx2 (k+1) (n.any.length-(k+1)) [] Om ⟨⟨hj2,hgo2 ⟨by omega,by omega,hbt e1⟩⟩,rfl⟩ Kr Kr))
  ·exact z7 [] Z5 λw hO=>⟨_,rfl,jT,hO.below⟩
 have hN:=yQ (p:=ShN) (show x.needs.length<=i by omega) hno
 clear nx
 refine zO (α:=Nat) (λi=>[(1,Zp b1 0),(7,YI (i:Int))]) (λ_=>[⟨b1,(rvC x).toArray,28⟩]) (λi m=>(i<=x.bars.length∧∀ n∈x.bars.take i,ShB n)/\m=x.bars.length-i) 0 x.bars.length [] ⟨⟨Nat.zero_le _,λn h=>by simp at h⟩,rfl⟩ ?_
 rintro i2 mm2 g2 kk2 ⟨⟨hi2,hno2⟩,hmm2⟩ nx hkk
 subst hkk
 refine zB 115 [0] ((i2:Int)<(x.bars.length:Int)) (λh115=> ?_) (λh115=> ?_)
 ·have hj:i2<x.bars.length:=by omega
  obtain ⟨eb,eo,hA,hel⟩:=hx.bars.elem pR i2 hj
  have hgo:=y9 (p:=ShB) hj hno2
  have q0:∀ w,Below W.heap.size W w->(loadVar 9 ⟨eb,eo+i2*3+0,none⟩).run Tryz.prog w= .ok (.string (mkS x.bars[i2].name)) w:=λw hw=>hel w hw _ 0 _ Kr
  have q1:∀ w,Below W.heap.size W w->(loadVar 9 ⟨eb,eo+i2*3+1,none⟩).run Tryz.prog w= .ok (.string (mkS x.bars[i2].rng)) w:=λw hw=>hel w hw _ 1 _ Kr
  have q2:∀ w,Below W.heap.size W w->(loadVar 9 ⟨eb,eo+i2*3+2,none⟩).run Tryz.prog w= .ok (.string (mkS x.bars[i2].wh)) w:=λw hw=>hel w hw _ 2 _ Kr
  generalize x.bars[i2]=n at hgo q0 q1 q2
  refine zJ 121 [0] hA x.bars.length x.bc i2 3 hj (zH 123 [] 9 eb (eo+i2*3+0) (.string (mkS n.name)) (λw hO=>q0 w hO.below) (zB 125 [] ((n.name.length:Int)>100) (λh1=> ?_) (λh1=> ?_)))
  ·exact z7 [] Z5 λw hO=>⟨_,rfl,jT,hO.below⟩
  refine zJ 130 [0] hA x.bars.length x.bc i2 3 hj (zH 132 [] 9 eb (eo+i2*3+1) (.string (mkS n.rng)) (λw hO=>q1 w hO.below) (zB 134 [] ((n.rng.length:Int)>200) (λh2=> ?_) (λh2=> ?_)))
  ·exact z7 [] Z5 λw hO=>⟨_,rfl,jT,hO.below⟩
  refine zJ 140 [0] hA x.bars.length x.bc i2 3 hj (zH 142 [] 9 eb (eo+i2*3+2) (.string (mkS n.wh)) (λw hO=>q2 w hO.below) (zB 144 [] ((n.wh.length:Int)>200) (λh3=> ?_) (λh3=> ?_)))
  ·exact z7 [] Z5 λw hO=>⟨_,rfl,jT,hO.below⟩
  ·exact x_i 117 [] ((i2+1:Nat):Int) (nx (i2+1) (x.bars.length-(i2+1)) [] Om ⟨⟨hj,hgo ⟨by omega,by omega,by omega⟩⟩,rfl⟩ Kr Kr)
 have hB:=yQ (p:=ShB) (show x.bars.length<=i2 by omega) hno2
 clear nx
 refine zO (α:=Nat) (λi=>[(1,Zp b1 0),(8,YI (i:Int))]) (λ_=>[⟨b1,(rvC x).toArray,28⟩]) (λi m=>(i<=x.fts.length∧∀ n∈x.fts.take i,ShF n)/\m=x.fts.length-i) 0 x.fts.length [] ⟨⟨Nat.zero_le _,λn h=>by simp at h⟩,rfl⟩ ?_
 rintro i3 mm3 g3 kk3 ⟨⟨hi3,hno3⟩,hmm3⟩ nx hkk
 subst hkk
 refine zB 150 [0] ((i3:Int)<(x.fts.length:Int)) (λh150=> ?_) (λh150=> ?_)
 rotate_left
 ·exact z7 [] Z4 λw hO=>⟨_,rfl,⟨true,rfl,λ_=>⟨by omega,by omega,by omega,h40,hN,hB,yQ (p:=ShF) (show x.fts.length<=i3 by omega) hno3⟩⟩,hO.below⟩
 have hj:i3<x.fts.length:=by omega
 obtain ⟨eb,eo,hA,hel⟩:=hx.ftop.elem vU i3 hj
 have hgo:=y9 (p:=ShF) hj hno3
 have hr:=hx.feach _ (List.getElem_mem hj)
 have q0:∀ w,Below W.heap.size W w->(loadVar 9 ⟨eb,eo+i3*2+0,none⟩).run Tryz.prog w= .ok (.string (mkS x.fts[i3].name)) w:=λw hw=>hel w hw _ 0 _ Kr
 have q1:∀ w,Below W.heap.size W w->(loadVar 75 ⟨eb,eo+i3*2+1,none⟩).run Tryz.prog w= .ok (.slice x.fts[i3].A x.fts[i3].of.length x.fts[i3].cap) w:=λw hw=>hel w hw _ 1 _ Kr
 generalize x.fts[i3]=n at hgo hr q0 q1
 have hc:∀ w,Below W.heap.size W w->YC 51 #[.slice n.A n.of.length n.cap] w λe w'=>∃ v,e= .returned v/\YesB (ShT n.of) v/\Below w.heap.size w w':=λw hb=>texts12_any n.A n.cap n.of w (hr.on hb hb.size)
 refine zJ 156 [0] hA x.fts.length x.fc i3 2 hj (zH 158 [] 9 eb (eo+i3*2+0) (.string (mkS n.name)) (λw hO=>q0 w hO.below) (zB 160 [] ((n.name.length:Int)>100) (λh1=> ?_) (λh1=> ?_)))
 ·exact z7 [] Z5 λw hO=>⟨_,rfl,jT,hO.below⟩
 refine zJ 165 [0] hA x.fts.length x.fc i3 2 hj (zH 167 [] 75 eb (eo+i3*2+1) (.slice n.A n.of.length n.cap) (λw hO=>q1 w hO.below) (x_callE (R:=YesB (ShT n.of)) [] (λw hO=>hc w hO.below) ?_))
 rintro v ⟨bt,rfl,hbt⟩
 refine zU 168 bt (λe1=> ?_) (λe1=> ?_)
 ·exact x_i 152 [] ((i3+1:Nat):Int) (nx (i3+1) (x.fts.length-(i3+1)) [] Om ⟨⟨hj,hgo ⟨by omega,hbt e1⟩⟩,rfl⟩ Kr Kr)
 ·exact z7 [] Z5 λw hO=>⟨_,rfl,jT,hO.below⟩
end
section
open Go.ChangeShapes Go.WideShapes Go.ChangeAt Go.RowKit Go.Deep
structure RcBk (K:Nat)(x:Rv):Prop where
 name:x.name.length<=K
 pre:x.pre.length<=K
 bld:x.bld.length<=K
 needs:∀ n∈x.needs,n.wh.length<=K/\n.opt.length<=K
section
variable {H:Type}{enc:TypeId×Value->H}{W:World}
theorem bulk_in:∀ {l:List (DataW H)} {d:DataW H},d∈l->Rows.uptoBulk d<=Rows.uptoBulkAll l
 |x::l,d,h=>by
  rw [Rows.uptoBulkAll]
  rcases List.mem_cons.1 h with rfl|h
  ·omega
  ·have:=bulk_in h;omega
theorem bulk_le {l:List (DataW H)}{d:DataW H}(h:Rows.uptoSmall H l=true)(hd:d∈l):Rows.uptoBulk d<=1048576:=Nat.le_trans (bulk_in hd) (of_decide_eq_true h)
theorem pJ {xs:List (DataW H×List MemPlace)}{i:Nat}{y:DataW H×List MemPlace}(h:xs[i]?=some y):Rows.uptoBulk y.1<=Rows.uptoBulk (DataW.agg (xs.map (·.1))):=by
 have:=bulk_in (List.mem_map_of_mem (f:=λz:DataW H×List MemPlace=>z.1) (List.mem_of_getElem? h))
 rw [Rows.uptoBulk];omega
theorem elem_at {elems rest:List (DataW H×List MemPlace)}{i:Nat}(h:i<elems.length):Rows.uptoBulk (elems[i]).1<=Rows.uptoBulk (DataW.slice (elems.map (·.1)) (rest.map (·.1))):=by
 have:=bulk_in (List.mem_map_of_mem (f:=λz:DataW H×List MemPlace=>z.1) (List.getElem_mem h))
 rw [Rows.uptoBulk];omega
theorem mF {K:Nat}{fuel:Nat}{cs:List Value}{x:DataW H×List MemPlace}(h:DataW.trod enc Tryz.prog W 0 (λ_=>true) true fuel 9 cs=some x)(hK:Rows.uptoBulk x.1<=K):∃ p:List UInt8,cs=[.string (mkS p)]/\p.length<=K:=by
 obtain ⟨p,e,rfl,hw⟩:=DataW.trod_string Tryz.underlying9 h
 refine ⟨p.data.toList,by rw [mk_self10];exact e, ?_⟩
 simp only [Rows.uptoBulk] at hK;omega
theorem cells_verB {K:Nat}{fuel:Nat}{cs:List Value}{x:DataW H×List MemPlace}(h:DataW.trod enc Tryz.prog W 0 (λ_=>true) true fuel 23 cs=some x)(hK:Rows.uptoBulk x.1<=K):∃ v:Ver,cs=(k8 v).cells.toList/\v.pre.length<=K/\v.build.length<=K:=by
 obtain ⟨xs,n,_,rfl,hl,hxl,hg⟩:=DataW.trod_struct Tryz.underlying23 h
 rw [size_ver] at hl
 match cs,hl with
 | [c0,c1,c2,c3,c4],_=>
  have g:∀ i,i<5→∃ y,xs[i]?=some y:=λi hi=>⟨_,List.getElem?_eq_getElem (by rw [hxl];exact hi)⟩
  obtain ⟨y0,e0⟩:=g 0 Om
  obtain ⟨y1,e1⟩:=g 1 Om
  obtain ⟨y2,e2⟩:=g 2 Om
  obtain ⟨y3,e3⟩:=g 3 Om
  obtain ⟨y4,e4⟩:=g 4 Om
  obtain ⟨a,ha⟩:=tX ((hg 0 _ rfl).trans e0)
  obtain ⟨b,hb⟩:=tX ((hg 1 _ rfl).trans e1)
  obtain ⟨c,hc⟩:=tX ((hg 2 _ rfl).trans e2)
  obtain ⟨p,hp,kp⟩:=mF ((hg 3 _ rfl).trans e3) (Nat.le_trans (pJ e3) hK)
  obtain ⟨q,hq,kq⟩:=mF ((hg 4 _ rfl).trans e4) (Nat.le_trans (pJ e4) hK)
  have ha2:List.take (Tryz.prog.cellsOf 3) (List.drop 0 [c0,c1,c2,c3,c4])=_:=ha
  have hb2:List.take (Tryz.prog.cellsOf 3) (List.drop 1 [c0,c1,c2,c3,c4])=_:=hb
  have hc2:List.take (Tryz.prog.cellsOf 3) (List.drop 2 [c0,c1,c2,c3,c4])=_:=hc
  have hp2:List.take (Tryz.prog.cellsOf 9) (List.drop 3 [c0,c1,c2,c3,c4])=_:=hp
  have hq2:List.take (Tryz.prog.cellsOf 9) (List.drop 4 [c0,c1,c2,c3,c4])=_:=hq
  rw [size_int10] at ha2 hb2 hc2
  rw [size_str10] at hp2 hq2
  obtain rfl:c0=_:=List.singleton_inj.1 ha2
  obtain rfl:c1=_:=List.singleton_inj.1 hb2
  obtain rfl:c2=_:=List.singleton_inj.1 hc2
  obtain rfl:c3=_:=List.singleton_inj.1 hp2
  obtain rfl:c4=_:=List.singleton_inj.1 hq2
  exact ⟨⟨a,b,c,p,q⟩,rfl,kp,kq⟩
theorem cells_nvB {K:Nat}{fuel:Nat}{cs:List Value}{x:DataW H×List MemPlace}(h:DataW.trod enc Tryz.prog W 0 (λ_=>true) true fuel 74 cs=some x)(hK:Rows.uptoBulk x.1<=K):∃ y:Nv,cs=nvC y/\NvRd W y/\y.wh.length<=K/\y.opt.length<=K:=by
 obtain ⟨xs,n,_,rfl,hl,hxl,hg⟩:=DataW.trod_struct Tryz.underlying74 h
 rw [size_nv12] at hl
 match cs,hl with
 | [c0,c1,c2],_=>
  have g:∀ i,i<3→∃ y,xs[i]?=some y:=λi hi=>⟨_,List.getElem?_eq_getElem (by rw [hxl];exact hi)⟩
  obtain ⟨y0,e0⟩:=g 0 Om
  obtain ⟨y1,e1⟩:=g 1 Om
  obtain ⟨y2,e2⟩:=g 2 Om
  obtain ⟨B,c,l,ha,hr,he⟩:=cells_wvs ((hg 0 _ rfl).trans e0)
  obtain ⟨a,hb,ka⟩:=mF ((hg 1 _ rfl).trans e1) (Nat.le_trans (pJ e1) hK)
  obtain ⟨b,hc,kb⟩:=mF ((hg 2 _ rfl).trans e2) (Nat.le_trans (pJ e2) hK)
  have ha2:List.take (Tryz.prog.cellsOf 72) (List.drop 0 [c0,c1,c2])=_:=ha
  have hb2:List.take (Tryz.prog.cellsOf 9) (List.drop 1 [c0,c1,c2])=_:=hb
  have hc2:List.take (Tryz.prog.cellsOf 9) (List.drop 2 [c0,c1,c2])=_:=hc
  rw [size_wvs12] at ha2
  rw [j6] at hb2 hc2
  obtain rfl:c0=_:=List.singleton_inj.1 ha2
  obtain rfl:c1=_:=List.singleton_inj.1 hb2
  obtain rfl:c2=_:=List.singleton_inj.1 hc2
  exact ⟨⟨B,c,l,a,b⟩,rfl,⟨hr,he⟩,ka,kb⟩
theorem cells_nvsB {K:Nat}{fuel:Nat}{cs:List Value}{x:DataW H×List MemPlace}(h:DataW.trod enc Tryz.prog W 0 (λ_=>true) true fuel 24 cs=some x)(hK:Rows.uptoBulk x.1<=K):∃ (A:Option Addr) (cap:Nat) (l:List Nv),cs=[.slice A l.length cap]/\Reads nvC W W.heap.size A l∧∀ u∈l,NvRd W u/\u.wh.length<=K/\u.opt.length<=K:=by
 rcases DataW.trod_slice Tryz.underlying24 h with ⟨hcs,_⟩|⟨a,len,cap,elems,rest,n,_,hcs,rfl,hb,hl,hm,hlen,hel,_,_⟩
 ·exact ⟨none,0,[],hcs,λh=>by simp at h,λu hu=>by cases hu⟩
 ·subst hcs
  rw [size_nv12] at hel
  obtain ⟨l,hll,hr,he⟩:=vM (g:=nvC) (sz:=3) (p:=λu=>NvRd W u/\u.wh.length<=K/\u.opt.length<=K) (by decide) nvC_length (W:=W) (a:=a) (len:=len) λi hi=>by
   have h1:=hel i hi
   rw [List.getElem?_eq_getElem Om] at h1
   obtain ⟨cs,e1,e2⟩:=Option.bind_eq_some_iff.1 h1
   obtain ⟨c,e3,e4⟩:=cells_nvB (K:=K) e2 (Nat.le_trans (elem_at Om) hK)
   exact ⟨c,e4,by rw [e1,e3]⟩
  exact ⟨some a,cap,l,by rw [hll],hr,he⟩
theorem open_recB {K:Nat}{base:Nat}{v:Value}{d:DataW H}{ps:List MemPlace}(hval:Value.okWide Tryz.prog W .any base 28 v)(h:DataW.Trod enc Tryz.prog W 0 (λ_=>true) true 28 v d ps)(hK:Rows.uptoBulk d<=K):∃ x:Rv,v=rvV x/\RcRd W W.heap.size x/\RcBk K x:=by
 obtain ⟨cs,hc,_⟩:=okWide_struct Tryz.underlying28 hval
 obtain ⟨fuel,hf⟩:=h
 obtain ⟨xs,n,_,hd,hl,hxl,hg⟩:=DataW.trod_struct Tryz.underlying28 hf
 obtain rfl:d= .agg (xs.map (·.1)):=congrArg Prod.fst hd
 rw [size_rv12] at hl
 have g:∀ i,i<5→∃ y,xs[i]?=some y:=λi hi=>⟨_,List.getElem?_eq_getElem (by rw [hxl];exact hi)⟩
 obtain ⟨y0,e0⟩:=g 0 Om
 obtain ⟨y1,e1⟩:=g 1 Om
 obtain ⟨y2,e2⟩:=g 2 Om
 obtain ⟨y3,e3⟩:=g 3 Om
 obtain ⟨y4,e4⟩:=g 4 Om
 obtain ⟨a,ha,ka⟩:=mF ((hg 0 _ rfl).trans e0) (Nat.le_trans (pJ e0) hK)
 obtain ⟨u,hu,kp,kq⟩:=cells_verB ((hg 1 _ rfl).trans e1) (Nat.le_trans (pJ e1) hK)
 obtain ⟨nA,nc,ns,hn,rn,rn2⟩:=cells_nvsB ((hg 2 _ rfl).trans e2) (Nat.le_trans (pJ e2) hK)
 obtain ⟨bA,bc,bs,hb,rb⟩:=cells_bvs ((hg 3 _ rfl).trans e3)
 obtain ⟨fA,fc,fs,hq,rf,rf2⟩:=cells_fvs ((hg 4 _ rfl).trans e4)
 generalize hcv:v.cells.toList=L at*
 have ha2:List.take (Tryz.prog.cellsOf 9) (List.drop 0 L)=_:=ha
 have hu2:List.take (Tryz.prog.cellsOf 23) (List.drop 1 L)=_:=hu
 have hn2:List.take (Tryz.prog.cellsOf 24) (List.drop 6 L)=_:=hn
 have hb2:List.take (Tryz.prog.cellsOf 25) (List.drop 7 L)=_:=hb
 have hq2:List.take (Tryz.prog.cellsOf 26) (List.drop 8 L)=_:=hq
 rw [j6] at ha2
 rw [size_ver12] at hu2
 rw [size_nvs12] at hn2
 rw [size_bvs12] at hb2
 rw [size_fvs12] at hq2
 refine ⟨⟨a,u.maj,u.min,u.pat,u.pre,u.build,nA,nc,ns,bA,bc,bs,fA,fc,fs⟩, ?_,⟨rn,λy hy=>(rn2 y hy).1.1,λy hy=>(rn2 y hy).1.2,rb,rf,rf2⟩,⟨ka,kp,kq,λy hy=>(rn2 y hy).2⟩⟩
 refine (back10 hc (hcv.trans (?_:L=rvC ⟨a,u.maj,u.min,u.pat,u.pre,u.build,nA,nc,ns,bA,bc,bs,fA,fc,fs⟩))).trans rfl
 match L,hl with
 | [c0,c1,c2,c3,c4,c5,c6,c7,c8],_=>
  obtain rfl:c0=_:=List.singleton_inj.1 ha2
  obtain rfl:c6=_:=List.singleton_inj.1 hn2
  obtain rfl:c7=_:=List.singleton_inj.1 hb2
  obtain rfl:c8=_:=List.singleton_inj.1 hq2
  have hu3:[c1,c2,c3,c4,c5]=(k8 u).cells.toList:=hu2
  show _::([c1,c2,c3,c4,c5]++_)=_
  rw [hu3];rfl
end
end
section
open Go.ChangeShapes Go.WideShapes Go.ChangeAt Go.RowKit
theorem cells_of_strs {H:Type}{enc:TypeId×Value->H}{P:Program}{w:World}{base:Nat}{sp:Nat->Bool}{held:Bool}{fuel:Nat}{t e:TypeId}{n:Nat}{cs:List Value}{ss:List (List UInt8)}{p:List MemPlace}
  (ht:P.underlying t=some (.array n e)) (he:P.underlying e=some .string) (hce:P.cellsOf e=1) (hct:P.cellsOf t=n)
  (h:DataW.trod enc P w base sp held fuel t cs=some (.agg (ss.map λs=> .lit (.string s)),p)):cs=ss.map λs=>Value.string (mkS s):=by
 cases fuel with
 |zero=>simp [DataW.trod] at h
 |succ fuel=>
  simp only [DataW.trod,ht,hce,hct,Nat.mul_one] at h
  split at h
  ·rename_i hl
   obtain ⟨xs,hm,hx⟩:=Option.map_eq_some_iff.1 h
   have hxs:xs.map (·.1)=ss.map λs=>(DataW.lit (.string s):DataW H):=by
    have:=congrArg Prod.fst hx
    simpa using this
   have hxl:xs.length=n:=by simpa using Lib.mapM_length hm
   have hzl:ss.length=n:=by
    have:=congrArg List.length hxs
    simp at this
    omega
   apply List.ext_getElem?
   intro i
   by_cases hi:i<n
   ·obtain ⟨b,hb,hf⟩:=Lib.mapM_at hm i i (by simp [hi])
    obtain ⟨s,hc,rfl,_⟩:=DataW.trod_string he hf
    have h1:cs[i]?=some (.string s):=by
     have:=congrArg (·[0]?) hc
     simpa [List.getElem?_take,List.getElem?_drop] using this
    have h2:(xs.map (·.1))[i]?=some (DataW.lit (.string s.data.toList):DataW H):=by simp [hb]
    rw [hxs] at h2
    simp only [List.getElem?_map,Option.map_eq_some_iff,DataW.lit.injEq,Lit.string.injEq] at h2
    obtain ⟨z',hz',e9⟩:=h2
    rw [h1,List.getElem?_map,hz',e9]
    show some (Value.string s)=some (Value.string (mkS s.data.toList))
    rw [show mkS s.data.toList=s from by cases s;unfold mkS;simp]
   ·rw [List.getElem?_eq_none (by omega),List.getElem?_eq_none (by simp;omega)]
  ·cases h
theorem keysType:(Tryz.prog.globals[2]?).map (·.type)=some 168:=by kernel_rfl
theorem keysNamed : Tryz.prog.globalNamed "linchpin/mark.keys" = some 2 := by kernel_rfl
theorem keysCells:Tryz.prog.cellsOf 168=3:=by kernel_rfl
theorem mkLib_of {W : World} {l : List (String × DataW Unit)} (h : laidMetH Tryz.prog l W) (e : (l.filter fun x => x.1 == "linchpin/mark.keys") = [("linchpin/mark.keys", .agg [.lit (.string [111, 115]), .lit (.string [97, 114, 99, 104]), .lit (.string [97, 98, 105])])]) : MkLib W := by
 have h2 := h.filter (fun x => x.1 == "linchpin/mark.keys")
 rw [e] at h2
 obtain ⟨ps,⟨g',t',cs,fuel,p,q,hg',ht',hvar,hd,_,hps⟩,_,hcell⟩:=h2
 obtain rfl:=Option.some.inj (keysNamed.symm.trans hg')
 obtain rfl:=Option.some.inj (keysType.symm.trans ht')
 have hcs:cs.toList=[[111,115],[97,114,99,104],[97,98,105]].map λs=>Value.string (mkS s):=cells_of_strs (n:=3) Tryz.underlying168 Tryz.underlying9 strCells1 keysCells hd
 have hsz:cs.size=3:=by rw [←Array.length_toList,hcs];rfl
 have hm:MemPlace.cell 2 0∈ps:=by
  rw [hps]
  refine List.mem_append_left _ (List.mem_append_left _ ?_)
  exact MemPlace.mem_row.2 ⟨0,by rw [hsz];decide,rfl⟩
 obtain ⟨⟨c,t,hb⟩,_⟩:=hcell _ _ hm
 have hv : W.var? Tryz.prog "linchpin/mark.keys" = some c := by
  unfold World.var?
  rw [keysNamed]
  simp only [Option.bind_some,hb]
 have hcc:c=cs:=Option.some.inj (hv.symm.trans hvar)
 refine ⟨(Array.getElem?_eq_some_iff.1 hb).1,t, ?_⟩
 rw [hb,hcc]
 congr 2
 apply Array.toList_inj.1
 rw [hcs]
 rfl
end
section
open Go.ChangeShapes Go.WideShapes Go.ChangeAt Go.RowKit
def layR (l:La):DataW Unit:= .agg [.lit (.int .i64 (l.kind:Int)),.lit (.string l.word),.lit (.int .i64 (l.lo:Int)),.lit (.int .i64 (l.hi:Int)),.lit (.int .i64 (l.parts:Int)),.lit (.bool l.opn),.lit (.bool l.more)]
def layD:DataW Unit:= .agg (lays.map layR)
theorem size_lay12:Tryz.prog.cellsOf 156=7:=by kernel_rfl
theorem size_lays12:Tryz.prog.cellsOf 157=56:=by kernel_rfl
theorem laysType:(Tryz.prog.globals[0]?).map (·.type)=some 157:=by kernel_rfl
theorem laysNamed : Tryz.prog.globalNamed "linchpin/record.layouts" = some 0 := by kernel_rfl
theorem lay_row {enc:TypeId×Value->Unit}{w:World}{base:Nat}{sp:Nat->Bool}{held:Bool}{fuel:Nat}{cs:List Value}{p:List MemPlace}{l:La}(h:DataW.trod enc Tryz.prog w base sp held fuel 156 cs=some (layR l,p)):cs=(laV l).cells.toList:=by
 obtain ⟨xs,n,_,hx,hl,hxl,hg⟩:=DataW.trod_struct Tryz.underlying156 h
 rw [size_lay12] at hl
 have hx1:DataW.agg (xs.map (·.1))=layR l:=(congrArg Prod.fst hx).symm
 unfold layR at hx1
 injection hx1 with hx1
 match cs,hl with
 | [c0,c1,c2,c3,c4,c5,c6],_=>
  have g:∀ i,i<7→∃ y,xs[i]?=some y:=λi hi=>⟨_,List.getElem?_eq_getElem (by rw [hxl];exact hi)⟩
  obtain ⟨y0,e0⟩:=g 0 Om
  obtain ⟨y1,e1⟩:=g 1 Om
  obtain ⟨y2,e2⟩:=g 2 Om
  obtain ⟨y3,e3⟩:=g 3 Om
  obtain ⟨y4,e4⟩:=g 4 Om
  obtain ⟨y5,e5⟩:=g 5 Om
  obtain ⟨y6,e6⟩:=g 6 Om
  have q:∀ (i:Nat) (y:DataW Unit×List MemPlace),xs[i]?=some y->(xs.map (·.1))[i]?=some y.1:=λi y hy=>by rw [List.getElem?_map,hy];rfl
  have q0:=q 0 _ e0;have q1:=q 1 _ e1;have q2:=q 2 _ e2;have q3:=q 3 _ e3;have q4:=q 4 _ e4;have q5:=q 5 _ e5;have q6:=q 6 _ e6
  rw [hx1] at q0 q1 q2 q3 q4 q5 q6
  obtain ⟨a0,h0,z0,_⟩:=DataW.trod_int Tryz.underlying3 ((hg 0 _ rfl).trans e0)
  obtain ⟨a1,h1,z1,_⟩:=DataW.trod_string Tryz.underlying9 ((hg 1 _ rfl).trans e1)
  obtain ⟨a2,h2,z2,_⟩:=DataW.trod_int Tryz.underlying3 ((hg 2 _ rfl).trans e2)
  obtain ⟨a3,h3,z3,_⟩:=DataW.trod_int Tryz.underlying3 ((hg 3 _ rfl).trans e3)
  obtain ⟨a4,h4,z4,_⟩:=DataW.trod_int Tryz.underlying3 ((hg 4 _ rfl).trans e4)
  obtain ⟨a5,h5,z5⟩:=DataW.trod_bool Tryz.underlying4 ((hg 5 _ rfl).trans e5)
  obtain ⟨a6,h6,z6⟩:=DataW.trod_bool Tryz.underlying4 ((hg 6 _ rfl).trans e6)
  have r0:List.take (Tryz.prog.cellsOf 3) (List.drop 0 [c0,c1,c2,c3,c4,c5,c6])=_:=h0
  have r1:List.take (Tryz.prog.cellsOf 9) (List.drop 1 [c0,c1,c2,c3,c4,c5,c6])=_:=h1
  have r2:List.take (Tryz.prog.cellsOf 3) (List.drop 2 [c0,c1,c2,c3,c4,c5,c6])=_:=h2
  have r3:List.take (Tryz.prog.cellsOf 3) (List.drop 3 [c0,c1,c2,c3,c4,c5,c6])=_:=h3
  have r4:List.take (Tryz.prog.cellsOf 3) (List.drop 4 [c0,c1,c2,c3,c4,c5,c6])=_:=h4
  have r5:List.take (Tryz.prog.cellsOf 4) (List.drop 5 [c0,c1,c2,c3,c4,c5,c6])=_:=h5
  have r6:List.take (Tryz.prog.cellsOf 4) (List.drop 6 [c0,c1,c2,c3,c4,c5,c6])=_:=h6
  rw [show Tryz.prog.cellsOf 3=1 by kernel_rfl] at r0 r2 r3 r4
  rw [strCells1] at r1
  rw [show Tryz.prog.cellsOf 4=1 by kernel_rfl] at r5 r6
  obtain rfl:c0=_:=List.singleton_inj.1 r0
  obtain rfl:c1=_:=List.singleton_inj.1 r1
  obtain rfl:c2=_:=List.singleton_inj.1 r2
  obtain rfl:c3=_:=List.singleton_inj.1 r3
  obtain rfl:c4=_:=List.singleton_inj.1 r4
  obtain rfl:c5=_:=List.singleton_inj.1 r5
  obtain rfl:c6=_:=List.singleton_inj.1 r6
  rw [z0] at q0;rw [z1] at q1;rw [z2] at q2;rw [z3] at q3;rw [z4] at q4;rw [z5] at q5;rw [z6] at q6
  have i0:a0=(l.kind:Int):=by injection q0 with q;injection q with q;injection q with _ q;exact q.symm
  have i1:a1.data.toList=l.word:=by injection q1 with q;injection q with q;injection q with q;exact q.symm
  have i2:a2=(l.lo:Int):=by injection q2 with q;injection q with q;injection q with _ q;exact q.symm
  have i3:a3=(l.hi:Int):=by injection q3 with q;injection q with q;injection q with _ q;exact q.symm
  have i4:a4=(l.parts:Int):=by injection q4 with q;injection q with q;injection q with _ q;exact q.symm
  have i5:a5=l.opn:=by injection q5 with q;injection q with q;injection q with q;exact q.symm
  have i6:a6=l.more:=by injection q6 with q;injection q with q;injection q with q;exact q.symm
  have i1':a1=mkS l.word:=by rw [←i1];cases a1;unfold mkS;simp
  rw [i0,i1',i2,i3,i4,i5,i6]
  rfl
theorem chunk7 {f:La->List Value}(hf:∀ l,(f l).length=7):∀ (ls:List La) (cs:List Value),cs.length=ls.length*7->(∀ i (h:i<ls.length),(cs.drop (i*7)).take 7=f ls[i])->cs=ls.flatMap f
 | [],cs,hl,_=>by simpa using hl
 |l::ls,cs,hl,h=>by
  have h0:(cs.drop (0*7)).take 7=f l:=h 0 (by simp)
  rw [Nat.zero_mul,List.drop_zero] at h0
  have:=chunk7 hf ls (cs.drop 7) (by rw [List.length_drop,hl,List.length_cons];omega) λi hi=>by
   rw [List.drop_drop,show 7+i*7=(i+1)*7 by omega]
   exact h (i+1) (by simpa using hi)
  rw [List.flatMap_cons,←h0,←this,List.take_append_drop]
theorem lay_cells {enc:TypeId×Value->Unit}{w:World}{base:Nat}{sp:Nat->Bool}{held:Bool}{fuel:Nat}{cs:List Value}{p:List MemPlace}(h:DataW.trod enc Tryz.prog w base sp held fuel 157 cs=some (layD,p)):cs=layC.toList:=by
 obtain ⟨xs,n,_,hx,hl,hxl,hg⟩:=DataW.trod_array Tryz.underlying157 h
 rw [size_lays12] at hl
 have hx1:DataW.agg (xs.map (·.1))=layD:=(congrArg Prod.fst hx).symm
 unfold layD at hx1
 injection hx1 with hx1
 have h8:lays.length=8:=rfl
 have:=chunk7 (f:=λl=>(laV l).cells.toList) (λl=>rfl) lays cs (by rw [hl,h8]) λi hi=>by
  have hx2:i<xs.length:=by omega
  have h1:=hg i Om
  rw [List.getElem?_eq_getElem hx2,size_lay12] at h1
  have h2:(xs.map (·.1))[i]?=(lays.map layR)[i]?:=by rw [hx1]
  rw [List.getElem?_map,List.getElem?_map,List.getElem?_eq_getElem hx2,List.getElem?_eq_getElem hi] at h2
  have h3:xs[i].1=layR lays[i]:=Option.some.inj h2
  obtain ⟨a,b⟩:∃ b,xs[i]=(layR lays[i],b):=⟨xs[i].2,by rw [←h3]⟩
  rw [b] at h1
  exact lay_row h1
 rw [this]
 unfold layC
 rfl
theorem lyAt_of {W : World} {l : List (String × DataW Unit)} (h : laidMetH Tryz.prog l W) (e : (l.filter fun x => x.1 == "linchpin/record.layouts") = [("linchpin/record.layouts", layD)]) : LyAt W := by
 have h2 := h.filter (fun x => x.1 == "linchpin/record.layouts")
 rw [e] at h2
 obtain ⟨ps,⟨g',t',cs,fuel,p,q,hg',ht',hvar,hd,_,hps⟩,_,hcell⟩:=h2
 obtain rfl:=Option.some.inj (laysNamed.symm.trans hg')
 obtain rfl:=Option.some.inj (laysType.symm.trans ht')
 have hcs:cs.toList=layC.toList:=lay_cells hd
 have hsz:cs.size=56:=by rw [←Array.length_toList,hcs];rfl
 have hm:MemPlace.cell 0 0∈ps:=by
  rw [hps]
  refine List.mem_append_left _ (List.mem_append_left _ ?_)
  exact MemPlace.mem_row.2 ⟨0,by rw [hsz];decide,rfl⟩
 obtain ⟨⟨c,t,hb⟩,_⟩:=hcell _ _ hm
 have hv : W.var? Tryz.prog "linchpin/record.layouts" = some c := by
  unfold World.var?
  rw [laysNamed]
  simp only [Option.bind_some,hb]
 have hcc:c=cs:=Option.some.inj (hv.symm.trans hvar)
 refine ⟨(Array.getElem?_eq_some_iff.1 hb).1,t, ?_⟩
 rw [hb,hcc]
 congr 2
 exact Array.toList_inj.1 hcs
end
end Go.Proofs.YteghandhpbmpgaaGreatDoor
