/-
 What the statement's proof leans on: the ways of walking, plain mathematics, and what the program's functions return; each theorem says on what conditions.
-/
import Derived.Lib.SplitLaws
import Derived.Lib.TrimByte
import Derived.Lib.Join
import Derived.Shelf.Strings.SplitCore
import Derived.Lib.MakeNoZero
import Derived.Laws.IdiomCopy
import Derived.Laws.OwnMore
import Derived.Test.YteghandhpbmpgaaGreatDoorSA3
set_option maxRecDepth 1000000
set_option maxHeartbeats 8000000
set_option linter.unusedVariables false
set_option linter.unusedSimpArgs false
set_option linter.unnecessarySimpa false
namespace Go.Proofs.YteghandhpbmpgaaGreatDoor
open Go.RowKit

section
theorem altsL_index:∀ (s acc:List UInt8),xM acc s=if Lib.index s [124,124]= -1 then [acc++s] else (acc++s.take (Lib.index s [124,124]).toNat)::xM [] (s.drop ((Lib.index s [124,124]).toNat+2))
 | [],acc=>by simp [xM,Lib.index]
 | [c],acc=>by simp [xM,Lib.index,List.isPrefixOf]
 |c::d::r,acc=>by
  by_cases h:c=124/\d=124
  ·obtain ⟨rfl,rfl⟩:=h
   have e:Lib.index (124::124::r) [124,124]=0:=by simp [Lib.index,List.isPrefixOf]
   rw [e,xM,if_pos ⟨rfl,rfl⟩,if_neg (by decide)];simp
  ·have hp:List.isPrefixOf ([124,124]:List UInt8) (c::d::r)=false:=by
    rw [List.isPrefixOf,List.isPrefixOf,List.isPrefixOf]
    by_cases hc:c=124
    ·have hd:¬ d=124:=λq=>h ⟨hc,q⟩
     have:((124:UInt8)==d)=false:=beq_eq_false_iff_ne.2 (Ne.symm hd)
     simp [this]
    ·have:((124:UInt8)==c)=false:=beq_eq_false_iff_ne.2 (Ne.symm hc)
     simp [this]
   have ge:=Lib.index_ge (d::r) [124,124]
   rw [xM,if_neg h,altsL_index (d::r) (acc++[c])]
   have e:Lib.index (c::d::r) [124,124]=if Lib.index (d::r) [124,124]= -1 then-1 else Lib.index (d::r) [124,124]+1:=by
    conv=>lhs;rw [Lib.index]
    rw [hp,if_neg (by decide)]
    simp
   rw [e]
   generalize Lib.index (d::r) [124,124]=n at ge
   by_cases hn:n= -1
   ·subst hn;simp
   ·rw [if_neg hn,if_neg hn,if_neg Om]
    have e2:(n+1).toNat=n.toNat+1:=by omega
    rw [e2,List.take_succ_cons,show n.toNat+1+2=(n.toNat+2)+1 from by omega,List.drop_succ_cons]
    simp
theorem splitK_from (sep:List UInt8):∀ (f:Nat) (s:List UInt8),s.length<f->Lib.splitK sep 0 (Lib.countFrom sep f s) s=if Lib.index s sep= -1 then [s] else s.take (Lib.index s sep).toNat::Lib.splitK sep 0 (Lib.countFrom sep (f-1) (s.drop ((Lib.index s sep).toNat+sep.length))) (s.drop ((Lib.index s sep).toNat+sep.length))
 |f+1,s,h=>by
  rw [Lib.countFrom]
  by_cases q:Lib.index s sep= -1
  ·rw [if_pos (by simp [q]),if_pos q,Lib.splitK]
  ·rw [if_neg (by simp [q]),if_neg q,Nat.add_comm 1,Lib.splitK,if_neg (by simp [q]),Nat.add_zero];rfl
theorem alts_from:∀ (f:Nat) (s:List UInt8),s.length<f->Lib.splitK [124,124] 0 (Lib.countFrom [124,124] f s) s=xM [] s
 |f+1,s,h=>by
  rw [splitK_from _ _ _ h,altsL_index s []]
  by_cases q:Lib.index s [124,124]= -1
  ·rw [if_pos q,if_pos q];rfl
  ·have hr:=Lib.index_room s [124,124] (by have:=Lib.index_ge s [124,124];omega)
   rw [if_neg q,if_neg q]
   show _::Lib.splitK [124,124] 0 (Lib.countFrom [124,124] f _) _=_
   rw [alts_from f _ (by rw [List.length_drop];simp only [List.length_cons,List.length_nil];simp only [List.length_cons,List.length_nil] at hr;have:=Lib.index_ge s [124,124];omega)]
   rfl
theorem split_alts (s:List UInt8):Lib.splitK [124,124] 0 (Lib.count s [124,124]) s=xM [] s:=alts_from _ s (Nat.lt_succ_self _)
theorem cut_index (b:UInt8)(s:List UInt8):zF b [] s=if Lib.index s [b]= -1 then [s] else s.take (Lib.index s [b]).toNat::zF b [] (s.drop ((Lib.index s [b]).toNat+1)):=by
 have hc:=cutAt_cut b s
 have hge:=Lib.index_ge s [b]
 rw [gG,←hc]
 unfold Lib.cut
 by_cases h:Lib.index s [b]= -1
 ·have h2:¬ 0<=Lib.index s [b]:=by omega
  simp [h]
 ·have h2:0<=Lib.index s [b]:=by omega
  simp [h,h2]
theorem cuts_from (b:UInt8):∀ (f:Nat) (s:List UInt8),s.length<f->Lib.splitK [b] 0 (Lib.countFrom [b] f s) s=zF b [] s
 |f+1,s,h=>by
  rw [splitK_from _ _ _ h,cut_index b s]
  by_cases q:Lib.index s [b]= -1
  ·rw [if_pos q,if_pos q]
  ·have hr:=Lib.index_room s [b] (by have:=Lib.index_ge s [b];omega)
   rw [if_neg q,if_neg q]
   show _::Lib.splitK [b] 0 (Lib.countFrom [b] f _) _=_
   rw [cuts_from b f _ (by rw [List.length_drop];simp only [List.length_cons,List.length_nil];simp only [List.length_cons,List.length_nil] at hr;have:=Lib.index_ge s [b];omega)]
   rfl
theorem split_cuts (b:UInt8)(s:List UInt8):Lib.splitK [b] 0 (Lib.count s [b]) s=zF b [] s:=cuts_from b _ s (Nat.lt_succ_self _)
theorem splitB_list (sep:List UInt8)(k:Nat)(s:List UInt8):Lib.splitB (mkS sep) 0 k (mkS s)=(Lib.splitK sep 0 k s).map mkS:=by
 have h:=Lib.splitB_data (mkS sep) 0 k (mkS s)
 rw [mk_data,mk_data] at h
 rw [←h,List.map_map]
 refine ((List.map_congr_left λx _=> ?_).trans (List.map_id _)).symm
 exact Lib.mk_data x
theorem splitB_alts (s:List UInt8):Lib.splitB (mkS [124,124]) 0 (Lib.countB (mkS s) (mkS [124,124])) (mkS s)=(xM [] s).map mkS:=by
 rw [splitB_list,show Lib.countB (mkS s) (mkS [124,124])=Lib.count s [124,124] from by unfold Lib.countB;rw [mk_data,mk_data],split_alts]
theorem splitB_cuts (b:UInt8)(s:List UInt8):Lib.splitB (mkS [b]) 0 (Lib.countB (mkS s) (mkS [b])) (mkS s)=(zF b [] s).map mkS:=by
 rw [splitB_list,show Lib.countB (mkS s) (mkS [b])=Lib.count s [b] from by unfold Lib.countB;rw [mk_data,mk_data],split_cuts]
theorem pP:∀ (s:List UInt8),Lib.trimLeftB s 32=yX s
 | []=>rfl
 |c::l=>by
  unfold Lib.trimLeftB
  rw [yX,List.dropWhile_cons]
  by_cases h:c=32
  ·subst h
   rw [if_pos (by decide),if_pos rfl];exact pP l
  ·rw [if_neg (by simp [h]),if_neg h]
def bareR (s:List UInt8):List UInt8:=(yX s.reverse).reverse
theorem bareF_snoc {c:UInt8}(h:c≠32):∀ (x:List UInt8),yX (x++[c])=yX x++[c]
 | []=>by
  show yX [c]=[c]
  rw [yX];exact if_neg h
 |d::x=>by
  rw [List.cons_append,yX,yX]
  by_cases q:d=32
  ·rw [if_pos q,if_pos q,bareF_snoc h x]
  ·rw [if_neg q,if_neg q];rfl
theorem bareF_snoc32:∀ (x:List UInt8),yX (x++[32])=if yX x=[] then [] else yX x++[32]
 | []=>by simp [yX]
 |d::x=>by
  rw [List.cons_append,yX,yX]
  by_cases q:d=32
  ·rw [if_pos q,if_pos q,bareF_snoc32 x]
  ·rw [if_neg q,if_neg q,if_neg (by simp)];rfl
theorem bare_swap:∀ (s:List UInt8),yX (bareR s)=bareR (yX s)
 | []=>rfl
 |c::l=>by
  have ih:=bare_swap l
  by_cases h:c=32
  ·subst h
   rw [show yX (32::l)=yX l from by rw [yX,if_pos rfl],←ih]
   unfold bareR
   rw [List.reverse_cons,bareF_snoc32]
   by_cases q:yX l.reverse=[]
   ·rw [if_pos q,q]
   ·rw [if_neg q,List.reverse_append]
    show yX (32::(yX l.reverse).reverse)=_
    rw [yX,if_pos rfl]
  ·rw [show yX (c::l)=c::l from by rw [yX,if_neg h]]
   unfold bareR
   rw [List.reverse_cons,bareF_snoc h,List.reverse_append]
   show yX (c::(yX l.reverse).reverse)=c::(yX l.reverse).reverse
   rw [yX,if_neg h]
theorem trim_bare (s:List UInt8):Lib.trimB s 32=yO s:=by
 unfold Lib.trimB Lib.trimRightB
 have e:∀ l:List UInt8,l.dropWhile (·==32)=yX l:=pP
 rw [e,pP]
 exact bare_swap s
def w7 (r:List (List Co)):List UInt8:=if fewR r then vE r else []
theorem altText_ne {a:List Co}(h:fewA a=true):kL a≠[]:=by
 obtain ⟨h1,h2⟩:=fewA.facts h
 cases a with
 |nil=>exact absurd h1.1 (by decide)
 |cons c l=>
  have hc:c.print≠[]:=by
   rw [g0 (h2 c (List.mem_cons_self ..))]
   exact text_ne (h2 c (List.mem_cons_self ..))
  unfold kL
  cases l with
  |nil=>exact hc
  |cons d l=>
   rw [List.map_cons,List.map_cons,nD]
   intro e
   exact hc (List.append_eq_nil_iff.1 (List.append_eq_nil_iff.1 e).1).1
theorem rgText_ne {r:List (List Co)}(h:fewR r=true):vE r≠[]:=by
 obtain ⟨h1,h2⟩:=fewR.facts h
 cases r with
 |nil=>exact absurd h1.1 (by decide)
 |cons a l=>
  have hc:=altText_ne (h2 a (List.mem_cons_self ..))
  unfold vE
  cases l with
  |nil=>exact hc
  |cons d l=>
   rw [List.map_cons,List.map_cons,nD]
   intro e
   exact hc (List.append_eq_nil_iff.1 (List.append_eq_nil_iff.1 e).1).1
theorem textR_nil {r:List (List Co)}:w7 r=[]↔fewR r=false:=by
 unfold w7
 cases h:fewR r with
 |false=>simp
 |true=>simp [rgText_ne h]
theorem print_text (r:List (List Co)):f9 r=if 96<(w7 r).length then [] else w7 r:=by
 unfold f9 rgMay w7
 cases fewR r with
 |false=>simp
 |true=>
  by_cases h:(vE r).length<=96
  ·simp [h,Nat.not_lt.2 h]
  ·simp [h,Nat.lt_of_not_le h]
end
section
def jL:Nat->List UInt8->List (List UInt8)
 |0,s=>[s]
 |k+1,s=>if (z7 46 s).2.2 then (z7 46 s).1::jL k (z7 46 s).2.1 else [s]
theorem pcsK_len:∀ (k:Nat) (s:List UInt8),1<=(jL k s).length/\(jL k s).length<=k+1
 |0,s=>⟨Nat.le_refl _,Nat.le_refl _⟩
 |k+1,s=>by
  have h:=pcsK_len k (z7 46 s).2.1
  unfold jL
  split
  ·simp only [List.length_cons];omega
  ·simp only [List.length_cons,List.length_nil];omega
theorem pcsK_mem:∀ (k:Nat) (s:List UInt8),∀ x∈jL k s,x.length<=s.length
 |0,s,x,hx=>by rw [List.mem_singleton.1 hx];exact Nat.le_refl _
 |k+1,s,x,hx=>by
  unfold jL at hx
  have hl:=tV 46 s
  split at hx
  ·rcases List.mem_cons.1 hx with e|hx
   ·rw [e];omega
   ·have:=pcsK_mem k (z7 46 s).2.1 x hx;omega
  ·rw [List.mem_singleton.1 hx];exact Nat.le_refl _
theorem pcsK_join:∀ (k:Nat) (l:List (List UInt8)),l≠[]->l.length<=k+1->(∀ x∈l,(46:UInt8)∉x)->jL k (zB 46 l)=l
 |_,[],h,_,_=>absurd rfl h
 |0,[x],_,_,_=>rfl
 |k+1,[x],_,_,h=>by
  unfold jL
  show (if (z7 46 x).2.2=true then _ else _)=_
  rw [jB 46 x (h x (List.mem_singleton.2 rfl))]
  exact if_neg Bool.false_ne_true
 |0,x::y::r,_,hl,_=>by simp at hl
 |k+1,x::y::r,_,hl,h=>by
  have ih:=pcsK_join k (y::r) (by simp) (by simpa using hl) λz hz=>h z (List.mem_cons_of_mem _ hz)
  unfold jL
  rw [zB,cutAt_hit 46 _ _ (h x (List.mem_cons_self ..)),if_pos rfl]
  dsimp only
  rw [ih]
def sgo (s:List UInt8):Nat->Int×List UInt8
 |0=>(7,s)
 |k+1=>if yK s (zZ ((k+1:Nat):Int))=true/\(s.drop (zZ ((k+1:Nat):Int)).length).length<(sgo s k).2.length then (((k+1:Nat):Int),s.drop (zZ ((k+1:Nat):Int)).length) else sgo s k
theorem sgo_le (s:List UInt8):∀ k,(sgo s k).2.length<=s.length
 |0=>Nat.le_refl _
 |k+1=>by
  unfold sgo
  split
  ·show (s.drop _).length<=_;rw [List.length_drop];omega
  ·exact sgo_le s k
def jC (s:List UInt8):List (List UInt8):=jL 2 (z7 45 (sgo s 8).2).1
def starP (s:List UInt8):Bool:=decide ((jC s).getLast?=some [42])
def qV (s:List UInt8):Co:=⟨if starP s then 9 else (sgo s 8).1,if starP s then ((jC s).length:Int) -1 else ((jC s).length:Int),⟨zG (tg (jC s) 0),zG (tg (jC s) 1),zG (tg (jC s) 2),(z7 45 (sgo s 8).2).2.1,[]⟩⟩
theorem nob {d a:UInt8}{r t:List UInt8}(h:d≠a):¬ (yK (d::r) (a::t)=true):=by rw [gK h];decide
theorem sgo_plain {d:UInt8}{r:List UInt8}(h:yP d.toNat=true\/d=42):sgo (d::r) 8=(7,d::r):=by
 have hd:∀ a:UInt8,yP a.toNat=false->a≠42->d≠a:=λa ha h42 e=>by
  subst e
  rcases h with h|h
  ·rw [ha] at h;cases h
  ·exact h42 h
 have hb:∀ k:Nat,1<=k->k<=8→¬ (yK (d::r) (zZ (k:Int))=true):=λk h1 h8=>by
  have hk:k=1\/k=2\/k=3\/k=4\/k=5\/k=6\/k=7\/k=8:=by omega
  rcases hk with rfl|rfl|rfl|rfl|rfl|rfl|rfl|rfl
  ·exact nob (hd 61 (by decide) (by decide))
  ·exact nob (hd 33 (by decide) (by decide))
  ·exact nob (hd 60 (by decide) (by decide))
  ·exact nob (hd 60 (by decide) (by decide))
  ·exact nob (hd 62 (by decide) (by decide))
  ·exact nob (hd 62 (by decide) (by decide))
  ·exact nob (hd 94 (by decide) (by decide))
  ·exact nob (hd 126 (by decide) (by decide))
 have:∀ k:Nat,k<=8->sgo (d::r) k=(7,d::r):=λk=>by
  induction k with
  |zero=>intro _;rfl
  |succ k ih=>
   intro h8
   unfold sgo
   rw [if_neg (λq=>hb (k+1) Om h8 q.1)]
   exact ih Om
 exact this 8 (by decide)
theorem sgo_sign {op:Int}(h1:1<=op)(h8:op<=8){d:UInt8}{r:List UInt8}(hd:yP d.toNat=true):sgo (zZ op++d::r) 8=(op,d::r):=by
 have h61:d≠61:=λe=>by subst e;revert hd;decide
 have hop:op=1\/op=2\/op=3\/op=4\/op=5\/op=6\/op=7\/op=8:=by omega
 rcases hop with rfl|rfl|rfl|rfl|rfl|rfl|rfl|rfl<;>simp [zZ,sgo,yK,h61]
theorem numD_star:zG [42]=0:=by decide
theorem tg_star {v:Ver}(hv:v.may=true){n:Nat}(h:n<=2)(h0:0<n\/v.maj=0)(h1:1<n\/v.min=0)(h2:2<n\/v.pat=0):zG (tg (zQ v n++[[42]]) 0)=v.maj/\zG (tg (zQ v n++[[42]]) 1)=v.min/\zG (tg (zQ v n++[[42]]) 2)=v.pat:=by
 obtain ⟨m1,m2,m3⟩:=qX hv
 have e1:=dD m1
 have e2:=dD m2
 match n,h with
 |0,_=>exact ⟨numD_star.trans (h0.resolve_left (by decide)).symm,(h1.resolve_left (by decide)).symm,(h2.resolve_left (by decide)).symm⟩
 |1,_=>exact ⟨e1,numD_star.trans (h1.resolve_left (by decide)).symm,(h2.resolve_left (by decide)).symm⟩
 |2,_=>exact ⟨e1,e2,numD_star.trans (h2.resolve_left (by decide)).symm⟩
theorem rest_pieces {c:Co}(h:c.may=true):jL 2 (z7 45 c.rest).1=(if c.op=9 then zQ c.v c.parts.toNat++[[42]] else zQ c.v c.parts.toNat)/\(z7 45 c.rest).2.1=c.v.pre:=by
 obtain ⟨_,hv,hb,h9,hn,hp,k0,k1,k2⟩:=Co.facts h
 unfold Co.rest
 by_cases e:c.op=9
 ·rw [if_pos e,if_pos e]
  have f:∀ b:UInt8,yP b.toNat=false->b≠42→∀ x∈zQ c.v c.parts.toNat++[[42]],b∉x:=λb hb hb2 x hx=>by
   rcases List.mem_append.1 hx with hx|hx
   ·exact vK hv b hb x hx
   ·rw [List.mem_singleton.1 hx]
    intro hm
    exact hb2 (List.mem_singleton.1 hm)
  rw [jB 45 _ (wM 45 (by decide) _ (f 45 (by decide) (by decide)))]
  have hq:=h9 e
  have hpre:c.v.pre=[]:=hp.resolve_left Om
  refine ⟨?_,hpre.symm⟩
  refine pcsK_join 2 _ (by simp) ?_ (f 46 (by decide) (by decide))
  rw [List.length_append,qQ c.v Om]
  simp only [List.length_cons,List.length_nil];omega
 ·rw [if_neg e,if_neg e]
  have hq:=hn e
  have hlen:=qQ c.v (n:=c.parts.toNat) Om
  have hne:zQ c.v c.parts.toNat≠[]:=λh0=>by
   rw [h0] at hlen
   simp at hlen;omega
  rw [cut_tail 45 _ _ (wM 45 (by decide) _ (vK hv 45 (by decide)))]
  exact ⟨pcsK_join 2 _ hne Om (vK hv 46 (by decide)),rfl⟩
theorem nums_last {c:Co}(h:c.may=true)(hn:¬ c.op=9):¬ (zQ c.v c.parts.toNat).getLast?=some [42]:=λhl=>by
 have hv:=(Co.facts h).2.1
 have:=vK hv 42 (by decide) _ (List.mem_of_getLast? hl)
 exact this (List.mem_singleton.2 rfl)
theorem guess_of {c:Co}{s:List UInt8}(h:c.may=true)(hs:(sgo s 8).2=c.rest)(ho:c.op=9\/(sgo s 8).1=c.op):qV s=c:=by
 obtain ⟨_,hv,hb,h9,hn,hp,k0,k1,k2⟩:=Co.facts h
 obtain ⟨p1,p2⟩:=rest_pieces h
 have hpc:jC s=if c.op=9 then zQ c.v c.parts.toNat++[[42]] else zQ c.v c.parts.toNat:=by unfold jC;rw [hs];exact p1
 unfold qV
 rw [hs,p2]
 by_cases e:c.op=9
 ·have hq:=h9 e
  rw [if_pos e] at hpc
  have hst:starP s=true:=by unfold starP;rw [hpc,List.getLast?_concat];exact decide_eq_true rfl
  obtain ⟨e1,e2,e3⟩:=tg_star hv (n:=c.parts.toNat) Om Om Om Om
  rw [hst,hpc,if_pos rfl,if_pos rfl,e1,e2,e3,List.length_append,qQ c.v Om,List.length_singleton]
  obtain ⟨op,parts,a,b,d,q,r⟩:=c
  simp only at hb e hq ⊢
  rw [hb,e]
  congr 1
  omega
 ·have hq:=hn e
  rw [if_neg e] at hpc
  have hst:starP s=false:=by unfold starP;rw [hpc];exact decide_eq_false (nums_last h e)
  obtain ⟨e1,e2,e3⟩:=nums_back hv (n:=c.parts.toNat) Om Om Om Om
  rw [hst,hpc,if_neg (by decide),if_neg (by decide),e1,e2,e3,qQ c.v Om,ho.resolve_left e]
  obtain ⟨op,parts,a,b,d,q,r⟩:=c
  simp only at hb hq ⊢
  rw [hb]
  congr 1
  omega
theorem guess_co {c:Co}{s:List UInt8}(h:c.may=true)(hs:c.text=s\/c.text=94::s):qV s=c:=by
 obtain ⟨ho,_⟩:=Co.facts h
 by_cases hn:c.op=9
 ·obtain ⟨d,r,e,hd⟩:=mQ h hn
  have ht:c.text=d::r:=by unfold Co.text;rw [hn,show zZ 9=[] from rfl,List.nil_append,e]
  rcases hs with hs|hs
  ·rw [ht] at hs
   rw [←hs]
   exact guess_of h (by rw [sgo_plain hd,e]) (.inl hn)
  ·rw [ht] at hs
   injection hs with e1 _
   rw [e1] at hd
   exact absurd hd (by decide)
 ·obtain ⟨d,r,e,hd⟩:=dB h hn
  have ht:c.text=zZ c.op++d::r:=by unfold Co.text;rw [e]
  have hs8:=sgo_sign ho.1 Om (r:=r) hd
  rcases hs with hs|hs
  ·rw [ht] at hs
   rw [←hs]
   exact guess_of h (by rw [hs8,e]) (.inr (by rw [hs8]))
  ·rw [ht] at hs
   have hop:c.op=1\/c.op=2\/c.op=3\/c.op=4\/c.op=5\/c.op=6\/c.op=7\/c.op=8:=by omega
   have h7:c.op=7:=by rcases hop with e2|e2|e2|e2|e2|e2|e2|e2<;>rw [e2] at hs<;>first|exact e2|simp [zZ] at hs
   rw [h7] at hs
   have hs2:d::r=s:=by injection hs
   rw [←hs2]
   exact guess_of h (by rw [sgo_plain (.inl hd),e]) (.inr (by rw [sgo_plain (.inl hd),h7]))
theorem guess_nil:qV []=⟨7,1,⟨0,0,0,[],[]⟩⟩:=by decide
theorem fits_may {s:List UInt8}(h:(qV s).print=s\/(qV s).print=94::s):(qV s).may=true:=by
 refine print_may λe=> ?_
 rw [e] at h
 rcases h with h|h
 ·subst h
  revert e
  rw [guess_nil]
  decide+kernel
 ·cases h
theorem prog_some {s:List UInt8}(h:(qV s).print=s\/(qV s).print=94::s):kX s=some (qV s):=by
 have hm:=fits_may h
 rw [g0 hm] at h
 exact (fC s _).2 ⟨hm,h⟩
theorem prog_none {s:List UInt8}(h:¬ ((qV s).print=s\/(qV s).print=94::s)):kX s=none:=by
 cases hp:kX s with
 |none=>rfl
 |some c=>
  obtain ⟨hm,ht⟩:=(fC s c).1 hp
  have hg:=guess_co hm ht
  rw [hg,g0 hm] at h
  exact absurd ht h
def behC (c:Co):Cu:=if c.parts=3 then ⟨0,c.v,true⟩ else if c.parts=0 then jA 1 else tO c.v (c.parts-1).toNat
def leadK (c:Co):Int:=if ¬ c.v.maj=0 then 0 else if ¬ c.v.min=0 then 1 else if ¬ c.v.pat=0 then 2 else c.parts-1
def boundC (c:Co):Cu×Cu:=
 if c.op=3 then (jA (-1),⟨0,c.v,false⟩) else if c.op=4 then (jA (-1),behC c) else if c.op=5 then (behC c,jA 1) else if c.op=6 then (⟨0,c.v,false⟩,jA 1)
 else if c.op=7 then (⟨0,c.v,false⟩,tO c.v (leadK c).toNat) else if c.op=8 then (⟨0,c.v,false⟩,tO c.v (min (c.parts-1) 1).toNat) else if c.parts=0 then (jA (-1),jA 1) else (⟨0,c.v,false⟩,behC c)
end
section
def cpL (s t:List UInt8):List UInt8:=if yK s t=true then s.drop t.length else s
theorem nQ:∀ (t s:List UInt8),t.isPrefixOf s=yK s t
 | [],s=>by simp [yK]
 |a::t,[]=>by simp [yK,List.isPrefixOf]
 |a::t,b::s=>by
  have ih:=nQ t s
  unfold yK at ih ⊢
  rw [List.isPrefixOf,ih,List.length_cons,List.take_succ_cons]
  by_cases h:a=b
  ·subst h;simp
  ·simp [h,Ne.symm h]
theorem cutpre_any (s t:List UInt8)(w:World):YC 161 #[.string (mkS s),.string (mkS t)] w (YR (.tuple #[.string (mkS (cpL s t)),.bool (yK s t)]) w):=
 (Tryz.strings_CutPrefix (mkS s) (mkS t) w).mono λe w' ⟨he,hw⟩=>by
  subst hw
  refine ⟨?_,Below.refl _ _⟩
  rw [he,mk_data,mk_data]
  unfold Lib.trimPrefix Lib.hasPrefix cpL
  rw [nQ];rfl
theorem splitK_pcs:∀ (k:Nat) (s:List UInt8),Lib.splitK [46] 0 k s=jL k s
 |0,s=>rfl
 |k+1,s=>by
  have hc:=cutAt_cut 46 s
  have hge:=Lib.index_ge s [46]
  unfold Lib.splitK jL
  rw [←hc]
  unfold Lib.cut
  by_cases h:Lib.index s [46]= -1
  ·have h2:¬ 0<=Lib.index s [46]:=by omega
   simp [h]
  ·have h2:0<=Lib.index s [46]:=by omega
   simp [h,h2,splitK_pcs k]
theorem mZ:∀ (k:Nat) (s:List UInt8),s.length<=k->jL k s=jL (k+1) s
 |0,s,h=>by
  obtain rfl:=List.eq_nil_of_length_eq_zero (Nat.le_zero.1 h)
  rfl
 |k+1,s,h=>by
  have hl:=cutAt_len 46 s
  rw [jL]
  conv=>rhs;rw [jL]
  cases hq:(z7 46 s).2.2 with
  |false=>rw [if_neg Bool.false_ne_true,if_neg Bool.false_ne_true]
  |true=>
   rw [hq,if_pos rfl] at hl
   rw [if_pos rfl,if_pos rfl,mZ k _ Om]
theorem pcsK_min (s:List UInt8):jL (min 3 (s.length+1) -1) s=jL 2 s:=by
 by_cases h0:s.length=0
 ·rw [h0,show min 3 (0+1) -1=0 from rfl,mZ 0 s Om,mZ 1 s Om]
 ·by_cases h1:s.length=1
  ·rw [h1,show min 3 (1+1) -1=1 from rfl,mZ 1 s Om]
  ·rw [show min 3 (s.length+1) -1=2 by omega]
theorem splitB_pcs (k:Nat)(s:List UInt8):Lib.splitB ⟨#[46]⟩ 0 k (mkS s)=(jL k s).map mkS:=by
 have h:=Lib.splitB_data ⟨#[46]⟩ 0 k (mkS s)
 rw [mk_data,show (⟨#[46]⟩:ByteArray).data.toList=[46] from rfl,splitK_pcs] at h
 rw [←h,List.map_map]
 refine ((List.map_congr_left λx _=> ?_).trans (List.map_id _)).symm
 exact Lib.mk_data x
theorem split3_any (s:List UInt8)(W:World)(hs:s.length<=1000000):
  YC 235 #[.string (mkS s),.string ⟨#[46]⟩,YI 0,YI 3] W λe w'=>∃ v' ob',e= .returned v'/\SlT v' (jL 2 s) ob'/\Own [] W w' ob':=by
 have hsz:=y0 s
 have hI:∀ (x:ByteArray) (c:Array Value),x.size<=(mkS s).size->YC 283 #[.string x,.string ⟨#[46]⟩] (W.alloc (.cells c 9)) λe w'=>e= .returned (YI (Lib.indexB x ⟨#[46]⟩))/\w'=W.alloc (.cells c 9):=
  λx c _=>(Tryz.strings_Index_one x 46 _).mono λe w' ⟨he,hw⟩=>⟨by rw [he,d2];try rfl,hw⟩
 have hC:YC 282 #[.string (mkS s),.string ⟨#[46]⟩] W λe w'=>e= .returned (YI (Lib.countB (mkS s) ⟨#[46]⟩))/\w'=W:=
  (Tryz.strings_Count_one (mkS s) 46 W).mono λe w' ⟨he,hw⟩=>⟨by rw [he];show _=Ending.returned (Value.int .i64 ((Lib.count (mkS s).data.toList [46]:Nat):Int));rw [Lib.count_one];rfl,hw⟩
 have c:=Any.strings_genSplit_core Tryz.lays221 Kr (mkS s) ⟨#[46]⟩ 0 3 (min 3 ((mkS s).size+1)) W Om (by decide) (Nat.zero_le _) hI hC (by decide) (by decide) (by rw [if_neg (by decide)];omega)
 rw [hsz,splitB_pcs,pcsK_min] at c
 obtain ⟨hl1,hl3⟩:=pcsK_len 2 s
 have hle:(jL 2 s).length<=min 3 (s.length+1):=by
  have h:=Lib.splitB_length_le ⟨#[46]⟩ 0 (min 3 (s.length+1) -1) (mkS s)
  rw [splitB_pcs,pcsK_min,List.length_map] at h
  omega
 rw [List.length_map] at c
 refine Calls.mono c λe w' ⟨he,hw⟩=> ?_
 subst hw
 refine ⟨_,_,he,⟨by rw [jG];omega,.inr ⟨W.heap.size,min 3 (s.length+1),_,rfl,rfl,hle,by unfold maxLen;omega,by rw [Lib.cellsOf_size (by rw [List.length_map];exact hle),Nat.mul_one], ?_⟩⟩,(Own.start [] W).alloc _ _⟩
 unfold Lib.cellsOf
 rw [List.map_map,List.take_append_of_le_length (by rw [List.length_map];omega),List.take_of_length_le (by rw [List.length_map];omega)]
 rfl
end
section
set_option linter.unnecessarySimpa false
theorem reads_t {w:World}{A:Option Addr}{cap:Nat}{l:List (List UInt8)}{B:Nat}(h:Reads zW w B A l)(hB:B<=B):ReadsT w B (.slice A l.length cap) l:=
 ⟨A,cap,rfl,λh0=>by
  obtain ⟨b,off,e,hlt,hc⟩:=h h0
  refine ⟨⟨b,off,none⟩,e,hlt,λj hj=> ?_⟩
  rw [yE]
  refine hc j _ ?_
  rw [←yL]
  unfold vD
  rw [List.getElem?_map,List.getElem?_eq_getElem hj];rfl⟩
end
section
end
section
theorem grow_inner (B b n:Nat)(w:World)(hB:B<=b)(hbk:w.heap[b]?=some (.cells #[.pointer (some ⟨b,0,none⟩),.slice none 0 0] 131 (0,0)))(hBw:B<=w.heap.size)(hn:n<=281474976710656):
  YC 350 #[.pointer (some ⟨b,0,none⟩),YI n] w λe w'=>e= .returned (.tuple #[])/\(Lib.BuilderAt 131 5 B b (.pointer (some ⟨b,0,none⟩)) [] w'/\Below B w w'):=by
 obtain ⟨cs,hrun,hle,hmax⟩:=Lib.run_makeNoZero (P:=Tryz.prog) w.drew #[3] 90 5 Tryz.underlying90 n hn
 have hlt:b<w.heap.size:=by
  rcases Nat.lt_or_ge b w.heap.size with h|h
  ·exact h
  ·simp [Array.getElem?_eq_none h] at hbk
 have hw:IntKind.i64.wrap (IntKind.i64.wrap 0+(n:Int))=n:=by
  rw [IntKind.wrap_i64,IntKind.wrap_i64];omega
 have hcall:(callFunc 359 #[YI (IntKind.i64.wrap (IntKind.i64.wrap 0+(n:Int)))]).run Tryz.prog w.drew= .ok (.value (.slice (some ⟨w.drew.heap.size,0,none⟩) n cs.size)) (w.drew.drew.drew.alloc (.cells cs 5)):=by
  rw [hw,run_callFunc_extern Tryz.func359 Kr Kr Kr (e:=Extern.BytealgMakeNoZero.makeNoZero #[3] #[90]) Kr,hrun]
  rfl
 have c1:w.drew.cell? ⟨b,1,none⟩=some (.slice none 0 0):=by
  have:w.drew.heap[b]?=_:=hbk
  rw [Lib.cell_of_heap this];rfl
 have hb2:(w.alloc (.cells cs 5)).heap[b]?=_:=(Lib.alloc_old w _ b hlt).trans hbk
 have c2:(w.alloc (.cells cs 5)).cell? ⟨b,1,none⟩=some (.slice none 0 0):=by rw [Lib.cell_of_heap hb2];rfl
 have f2:(w.alloc (.cells cs 5)).frozen? ⟨b,1,none⟩=false:=Lib.frozen_of_heap hb2 1
 have hcopy:∀ W:World,(Builtin.copy_ #[90,90] 3 #[.slice (some ⟨w.heap.size,0,none⟩) 0 cs.size,.slice none 0 0]).run Tryz.prog W= .ok (goInt 0) W:=
  λW=>run_copy_none W 90 90 3 5 _ _ 0 cs.size 0 0 Tryz.underlying90 Kr rfl
 clear hw hlt hb2
 have mixed:Tryz.prog.follows .mixedOrders=true:=by kernel_rfl
 go_enter Tryz.func350,Tryz.ntmps350
 go_wp2
 have hfin:=Lib.grown_fresh (T:=131) (e:=5) (cs:=cs) hB hbk hBw (hmax (by unfold maxLen;omega)) (by decide)
 have hbel:Below B w ((w.alloc (.cells cs 5)).setCell ⟨b,1,none⟩ (.slice (some ⟨w.heap.size,0,none⟩) 0 cs.size)).drew.drew.drew:=((((Below.refl B w).alloc hBw _).setCell (p:=⟨b,1,none⟩) hB _).drew).drew.drew
 go_region_o
 all_goals (go_wp2;go_end0;exact ⟨rfl,hfin.1,hbel⟩)
theorem grow_fresh (B b n:Nat)(w:World)(hB:B<=b)(hbk:w.heap[b]?=some (.cells #[.pointer none,.slice none 0 0] 131 (0,0)))(hBw:B<=w.heap.size)(hn:n<=281474976710656):
  YC 335 #[.pointer (some ⟨b,0,none⟩),YI n] w λe w'=>e= .returned (.tuple #[])/\(Lib.BuilderAt 131 5 B b (.pointer (some ⟨b,0,none⟩)) [] w'/\Below B w w'):=by
 obtain ⟨w1,hw1⟩:∃ x,x=w.setCell ⟨b,0,none⟩ (.pointer (some ⟨b,0,none⟩)):=⟨_,rfl⟩
 have hbk1:w1.heap[b]?=some (.cells #[.pointer (some ⟨b,0,none⟩),.slice none 0 0] 131 (0,0)):=by
  rw [hw1];simp [World.setCell,Array.getElem?_modify,hbk]
 have hs1:B<=w1.heap.size:=by rw [hw1];simpa [World.setCell] using hBw
 have hb1:Below B w w1:=by rw [hw1];exact (Below.refl B w).setCell (p:=⟨b,0,none⟩) hB _
 have hc:YC 223 #[.pointer (some ⟨b,0,none⟩)] w λe w'=>e= .returned (.tuple #[])/\w'=w1:=by
  rw [hw1]
  exact fV b w (by rw [Lib.cell_of_heap hbk];rfl) (by simp [World.shape?,hbk]) (Lib.frozen_of_heap hbk 0)
 clear hw1
 have c1:w1.cell? ⟨b,1,none⟩=some (.slice none 0 0):=by rw [Lib.cell_of_heap hbk1];rfl
 have c1':w1.drew.cell? ⟨b,1,none⟩=some (.slice none 0 0):=c1
 have hU:Lib.BuilderAt 131 5 B b (.pointer (some ⟨b,0,none⟩)) [] w1:=⟨hB,.slice none 0 0,hbk1,World.ownsRow_nil _ _ _ _,by simp [Value.ownBlock]⟩
 have mixed:Tryz.prog.follows .mixedOrders=true:=by kernel_rfl
 go_enter Tryz.func335,Tryz.ntmps335
 go_wp2_with (go_at_call 223;refine hc.mono ?_;rintro e w' ⟨rfl,hw⟩;rw [hw])
 go_region_o
 all_goals go_wp2_with (go_at_call 350;refine (grow_inner B b n w1.drew hB hbk1 hs1 hn).mono ?_;rintro e w' ⟨rfl,h1,h2⟩)
 all_goals first
  |(go_end0;exact ⟨rfl,h1,hb1.drew.trans h2⟩)
  |(go_end0;exact ⟨rfl,hU.drew,hb1.drew⟩)
end
section
structure HasLib (w:World):Prop where
 tab:HasTab w
 max:∃ m,w.cell? ⟨1,0,none⟩=some (YI m)
theorem HasLib.on {w w':World}(h:HasLib w)(hb:Below w.heap.size w w'):HasLib w':=
 ⟨h.tab.on hb,let ⟨m,hm⟩:=h.max;⟨m,(hb.cell (World.block_lt_of_cell? _ _ hm)).trans hm⟩⟩
theorem hasLib_of {W:World}(ht:HasTab W)(hS:W.ShapedOpen Tryz.prog):HasLib W:=⟨ht,Tryz.laysM143.s1_3 W hS⟩
theorem split_own (s sep:List UInt8)(l:List (List UInt8))(W:World)(h0:1<=sep.length)(hs:s.length<=1000000)(hl:Lib.splitB (mkS sep) 0 (Lib.countB (mkS s) (mkS sep)) (mkS s)=l.map mkS)(ht:HasLib W):
  YC 239 #[.string (mkS s),.string (mkS sep)] W λe w'=>∃ v' ob',e= .returned v'/\SlT v' l ob'/\Own [] W w' ob':=by
 obtain ⟨m,hm⟩:=ht.max
 have hz:(mkS sep).size=sep.length:=y0 sep
 have hlen:=Lib.splitB_all (mkS sep) Om 0 _ (mkS s) rfl
 have hle:=Lib.countB_le (mkS sep) Om (mkS s).size (mkS s) (Nat.le_refl _)
 rw [y0] at hle
 rw [hl,List.length_map] at hlen
 refine (Tryz.strings_Split (mkS s) (mkS sep) m W (by rw [y0];omega) hm Om).mono λe w' ⟨he,hw⟩=> ?_
 subst hw
 rw [hl,List.map_map] at*
 rw [←hlen] at he
 refine ⟨_,_,he,slt_lit l W.heap.size _ (by unfold vD;rfl) (by unfold maxLen;omega),(Own.start [] W).alloc _ _⟩
theorem split_bars (s:List UInt8)(W:World)(hs:s.length<=1000000)(ht:HasLib W):
  YC 239 #[.string (mkS s),.string ⟨#[124,124]⟩] W λe w'=>∃ v' ob',e= .returned v'/\SlT v' (xM [] s) ob'/\Own [] W w' ob':=
 split_own s [124,124] (xM [] s) W (by decide) hs (splitB_alts s) ht
theorem split_comma (s:List UInt8)(W:World)(hs:s.length<=1000000)(ht:HasLib W):
  YC 239 #[.string (mkS s),.string ⟨#[44]⟩] W λe w'=>∃ v' ob',e= .returned v'/\SlT v' (zF 44 [] s) ob'/\Own [] W w' ob':=
 split_own s [44] (zF 44 [] s) W (by decide) hs (splitB_cuts 44 s) ht
theorem trim_any (s:List UInt8)(W:World)(hs:s.length<=1000000):
  YC 255 #[.string (mkS s),.string ⟨#[32]⟩] W (YR (.string (mkS (yO s))) W):=
 (Tryz.strings_Trim_one (mkS s) 32 (by decide) W (by rw [y0];omega)).mono λe w' ⟨he,hw⟩=>
  ⟨by rw [he,mk_data,trim_bare];rfl,hw.elim (λq=>q▸Below.refl _ _) (λq=>q▸(Below.refl _ _).drew)⟩
def qY (sep:List UInt8):List (List UInt8)->List UInt8
 | []=>[]
 |x::r=>sep++x++qY sep r
theorem joinB_T (sep:List UInt8):∀ (r:List (List UInt8)) (x:List UInt8),vX sep (x::r)=x++qY sep r
 | [],x=>by simp [vX,qY]
 |y::r,x=>by rw [nD,joinB_T sep r y,qY];simp only [List.append_assoc]
theorem joinT_snoc (sep x:List UInt8):∀ (r:List (List UInt8)),qY sep (r++[x])=qY sep r++(sep++x)
 | []=>by simp [qY]
 |y::r=>by rw [List.cons_append,qY,qY,joinT_snoc sep x r];simp only [List.append_assoc]
theorem joinT_len {sep:List UInt8}(hs:sep.length<=100):∀ {r:List (List UInt8)},(∀ x∈r,x.length<=1000000)->(qY sep r).length<=r.length*1000100
 | [],_=>by simp [qY]
 |y::r,h=>by
  have h1:=joinT_len hs (r:=r) λx hx=>h x (List.mem_cons_of_mem _ hx)
  have h2:=h y (List.mem_cons_self ..)
  rw [qY];simp only [List.length_append,List.length_cons];omega
theorem bc_two (x y z:List UInt8):Lib.byteCells (x++(y++z))=Lib.byteCells x++Lib.strCells (mkS y)++Lib.strCells (mkS z):=by
 rw [jH,jH,←Lib.byteCells_append,←Lib.byteCells_append,List.append_assoc]
theorem join_many (sep x0:List UInt8)(r:List (List UInt8))(b off cap:Nat)(w:World)(hc:∀ j (h:j<(x0::r).length),w.cell? ⟨b,off+j,none⟩=some (.string (mkS ((x0::r)[j]))))
  (hb:b<w.heap.size) (hr:1<=r.length) (hn:r.length<=1000) (h0:sep≠[]) (hs:sep.length<=100) (hx:∀ x∈x0::r,x.length<=1000000) (hcap:r.length+1<=cap):
  YC 306 #[.slice (some ⟨b,off,none⟩) (r.length+1) cap,.string (mkS sep)] w (YR (.string (mkS (vX sep (x0::r)))) w):=by
 have HT:=Lib.hid (show ∀ k,(x0++qY sep (r.take k)).length<=2000000000 from λk=>by
  have h1:=joinT_len hs (r:=r.take k) λx hm=>hx x (List.mem_cons_of_mem _ (List.mem_of_mem_take hm))
  have h2:=hx x0 (List.mem_cons_self ..)
  have h3:(r.take k).length<=1000:=Nat.le_trans (by rw [List.length_take];exact Nat.min_le_right ..) hn
  rw [List.length_append];omega)
 have HC:=Lib.hid hc
 have HX:=Lib.hid hx
 have HJ:=Lib.hid (joinB_T sep r x0)
 have hx0:(mkS x0).size<=1000000:=by rw [y0];exact hx x0 (List.mem_cons_self ..)
 obtain ⟨S,hS⟩:∃ q,q=mkS sep:=⟨_,rfl⟩
 have hSz:S.size=sep.length:=by rw [hS,y0]
 have hS1:1<=S.size:=by cases sep with
  |nil=>exact absurd rfl h0
  |cons _ _=>rw [hSz];simp
 have hS9:S.size<=100:=by omega
 rw [←hS]
 have HS:=Lib.hid hS
 obtain ⟨N,hN⟩:∃ q,q=r.length+1:=⟨_,rfl⟩
 rw [←hN] at hcap ⊢
 have hcast:((N:Int) -1)=(r.length:Int):=by omega
 have hmul:S.size*r.length<=100000:=Nat.le_trans (Nat.mul_le_mul hS9 hn) (by decide)
 have hdv:¬ (9223372036854775807/((N:Int) -1)<=(S.size:Int)):=by
  rw [hcast]
  intro q
  have h1:(9223372036854775807:Int)<((S.size:Int)+1)*(r.length:Int):=
   Int.lt_mul_of_ediv_lt Om (Int.lt_add_one_of_le q)
  have h2:((S.size:Int)+1)*(r.length:Int)=((S.size*r.length+r.length:Nat):Int):=by rw [Int.add_mul,Int.one_mul];push_cast;rfl
  omega
 have hprod:wrap64 ((S.size:Int)*((N:Int) -1))=((S.size*r.length:Nat):Int):=by
  rw [hcast,show (S.size:Int)*(r.length:Int)=((S.size*r.length:Nat):Int) from by push_cast;rfl]
  exact IntWalk.wrap64_in _ ⟨by omega,by omega⟩
 generalize S.size*r.length=M at hmul hprod
 have hne0:((N:Int)==0)=false:=beq_eq_false_iff_ne.2 Om
 have hne1:((N:Int)==1)=false:=beq_eq_false_iff_ne.2 Om
 have hN2:2<=N:=by omega
 have hN9:N<=1001:=by omega
 have HN:=Lib.hid hN
 have H0:=Lib.hid h0
 clear hc hx hs h0 hS hSz hcast hN hr hn
 go_enter Tryz.func306,Tryz.ntmps306
 go_wp2
 go_loop [5,41] (λn i=>∃ (k t:Nat),k<=N/\i=YI k/\n=YI t/\t<=100000+k*1000000) (λ_ i=>N-(intOf i).toNat)
 case atStart=>exact ⟨0,M,Nat.zero_le _,rfl,rfl,by omega⟩
 case round=>
  obtain ⟨k,t,hk,rfl,rfl,ht⟩:=hrel
  by_cases hkn:k<N
  ·have hkl:k<(x0::r).length:=by have:=HN.out;rw [List.length_cons];omega
   obtain ⟨y,hy⟩:∃ q,q=mkS ((x0::r)[k]):=⟨_,rfl⟩
   have hyz:y.size<=1000000:=by rw [hy,y0];exact HX.out _ (List.getElem_mem hkl)
   have hck:w.cell? ⟨b,off+k,none⟩=some (.string y):=by rw [hy];exact HC.out k hkl
   clear hy hkl
   go_wp2
   exact ⟨⟨k+1,t+y.size,by omega,by go_num,by go_num,by omega⟩,by simp [intOf];omega⟩
  ·obtain rfl:k=N:=by omega
   go_wp2_with (go_at_call 335;refine (grow_fresh w.heap.size w.heap.size t _ (Nat.le_refl _) (heap_alloc_new w _) (by simp) Om).mono ?_)
   rintro e w1 rfl h1 hb1
   have hb1':Below w.heap.size w w1:=((Below.refl w.heap.size w).alloc (Nat.le_refl _) _).trans hb1
   have hsz1:=hb1'.size
   have hc0:w1.cell? ⟨b,off,none⟩=some (.string (mkS x0)):=by
    rw [hb1'.cell (p:=⟨b,off,none⟩) hb]
    exact HC.out 0 (by simp)
   have H1:=Lib.hid (Or.inr h1:Lib.IsBuilder 131 5 w.heap.size w.heap.size [] w1)
   have HB1:=Lib.hid hb1'
   clear h1 hb1 hb1' ht hprod hmul hdv hkn hk
   obtain ⟨X,hX⟩:∃ q,q=mkS x0:=⟨_,rfl⟩
   rw [←hX] at hc0 hx0
   have HX0:=Lib.hid hX
   clear hX
   go_wp2_with (go_at_call 163;refine (gN w.heap.size w.heap.size [] X w1 H1.out ?_ hsz1).mono ?_)
   ·simp;omega
   rintro e w2 ⟨rfl,h2,hb2⟩
   have H2:=Lib.hid (show Lib.IsBuilder 131 5 w.heap.size w.heap.size (Lib.byteCells (x0++qY sep (r.take 0))) w2 from by
    rw [HX0.out,jH,List.nil_append] at h2
    rw [List.take_zero,qY,List.append_nil];exact Or.inr h2)
   have HB2:=Lib.hid (HB1.out.trans hb2)
   clear h2 hb2 hsz1 hc0
   have hrk:k-1=r.length:=by have:=HN.out;omega
   go_wp2
   go_loopw [65] (λi wr=>∃ j:Nat,j<=r.length/\i=YI j/\Hid (Lib.IsBuilder 131 5 w.heap.size w.heap.size (Lib.byteCells (x0++qY sep (r.take j))) wr)/\Hid (Below w.heap.size w wr)) (λi _=>r.length-(intOf i).toNat)
   case atStart=>exact ⟨0,Nat.zero_le _,rfl,H2,HB2⟩
   case round=>
    obtain ⟨j,hj,rfl,HB,HW⟩:=hrel
    have hsz:=HW.out.size
    by_cases hjr:j<r.length
    ·obtain ⟨y,hy⟩:∃ q,q=mkS r[j]:=⟨_,rfl⟩
     have hyz:y.size<=1000000:=by rw [hy,y0];exact HX.out _ (List.mem_cons_of_mem _ (List.getElem_mem hjr))
     have hck:wr.cell? ⟨b,off+1+j,none⟩=some (.string y):=by
      rw [HW.out.cell (p:=⟨b,off+1+j,none⟩) hb,hy,show off+1+j=off+(j+1) from by omega]
      exact HC.out (j+1) (by simp;omega)
     have HY:=Lib.hid hy
     have hlen:(Lib.byteCells (x0++qY sep (r.take j))).length<=2000000000:=by rw [Lib.byteCells_length];exact HT.out j
     have HE:=Lib.hid (show Lib.byteCells (x0++qY sep (r.take j))++Lib.strCells S++Lib.strCells y=Lib.byteCells (x0++qY sep (r.take (j+1))) from by
      rw [HS.out,HY.out,List.take_succ_eq_append_getElem hjr,joinT_snoc,←List.append_assoc,bc_two])
     clear hy
     go_wp2_with (go_at_call 163;refine (gN w.heap.size w.heap.size _ S wr HB.out ?_ hsz).mono ?_)
     ·omega
     rintro e w3 ⟨rfl,h3,hb3⟩
     have hsz3:=Nat.le_trans hsz hb3.size
     have H3:=Lib.hid h3
     have HB3:=Lib.hid hb3
     clear h3 hb3
     go_wp2_with (go_at_call 163;refine (gN w.heap.size w.heap.size _ y w3 (Or.inr H3.out) ?_ hsz3).mono ?_)
     ·rw [List.length_append,Lib.strCells_length];omega
     rintro e w4 ⟨rfl,h4,hb4⟩
     rw [HE.out] at h4
     have H4:=Lib.hid (Or.inr h4:Lib.IsBuilder 131 5 w.heap.size w.heap.size (Lib.byteCells (x0++qY sep (r.take (j+1)))) w4)
     have HB4:=Lib.hid ((HW.out.trans HB3.out).trans hb4)
     clear h4 hb4
     go_wp2
     go_roundw
     case rel=>exact ⟨j+1,by omega,by go_num,H4,HB4⟩
     case measure=>simp [intOf];omega
    ·obtain rfl:j=r.length:=by omega
     have HB':=HB.out
     rw [List.take_length,←HJ.out] at HB'
     have hne:vX sep (x0::r)≠[]:=by
      rw [HJ.out]
      cases r with
      |nil=>simp at hrk;omega
      |cons y r=>rw [qY];intro q;exact H0.out (List.append_eq_nil_iff.1 (List.append_eq_nil_iff.1 (List.append_eq_nil_iff.1 q).2).1).1
     have HBF:=Lib.hid HB'
     clear HB'
     go_wp2_with (go_at_call 107;refine (string_any w.heap.size w.heap.size _ _ HBF.out hne).mono ?_)
     rintro e w5 ⟨rfl,hb5⟩
     go_wp2
     go_ret
     exact ⟨rfl,HW.out.trans hb5⟩
theorem join_one (sep x:List UInt8)(A:Option Addr)(cap:Nat)(w:World)(hv:Reads zW w w.heap.size A [x])(hcap:1<=cap):
  YC 306 #[.slice A 1 cap,.string (mkS sep)] w (YR (.string (mkS x)) w):=by
 obtain ⟨b,off,rfl,hb,hcell⟩:=hv (by simp)
 have hc:w.cell? ⟨b,off,none⟩=some (.string (mkS x)):=hcell 0 _ rfl
 go_enter Tryz.func306,Tryz.ntmps306
 go_wp2
 go_ret
 exact ⟨rfl,Below.refl _ _⟩
theorem join_none (sep:List UInt8)(A:Option Addr)(cap:Nat)(w:World):
  YC 306 #[.slice A 0 cap,.string (mkS sep)] w (YR (.string (mkS [])) w):=by
 go_enter Tryz.func306,Tryz.ntmps306
 go_wp2
 go_ret
 exact ⟨rfl,Below.refl _ _⟩
theorem sjoin_any (sep:List UInt8)(l:List (List UInt8))(A:Option Addr)(cap:Nat)(w:World)(hv:Reads zW w w.heap.size A l)(h0:sep≠[])(hs:sep.length<=100)(hn:l.length<=1000)(hx:∀ x∈l,x.length<=1000000)(hcap:l.length<=cap):
  YC 306 #[.slice A l.length cap,.string (mkS sep)] w (YR (.string (mkS (vX sep l))) w):=by
 match l,hv,hn,hx,hcap with
 | [],_,_,_,_=>exact join_none sep A cap w
 | [x],hv,_,_,hcap=>exact join_one sep x A cap w hv hcap
 |x::y::r,hv,hn,hx,hcap=>
  obtain ⟨b,off,rfl,hb,hcell⟩:=hv (by simp)
  refine join_many sep x (y::r) b off cap w (λj hj=> ?_) hb (by simp) (by simp at hn ⊢;omega) h0 hs hx hcap
  refine hcell j _ ?_
  rw [←yL];unfold vD
  rw [List.getElem?_map,List.getElem?_eq_getElem hj];rfl
theorem SlT.caps {A:Option Addr}{n cap:Nat}{l:List (List UInt8)}{ob:List Blk}(h:SlT (.slice A n cap) l ob):n=l.length/\l.length<=cap:=by
 rcases h.2 with ⟨h1,h2,_⟩|⟨g,c,cur,h1,_,h3,_⟩
 ·injection h1 with q1 q2 q3
  exact ⟨by omega,by omega⟩
 ·injection h1 with q1 q2 q3
  exact ⟨q2,by omega⟩
end
section
structure SetIn (w:World)(B:Nat)(A A':Option Addr)(a:St):Prop where
 rel:Reads spanC w B A a.rel
 pre:Reads spanC w B A' a.pre
 lr:a.rel.length<=100000
 lp:a.pre.length<=100000
 sr:ShortL a.rel
 sp:ShortL a.pre
end
section
end
section
def ordC:List Nat:=[2,4,6,1,3,5,7,8]
def fndC (s:List UInt8):List Nat->Int×List UInt8
 | []=>if s.getLast?=some 42 then (9,s) else (7,s)
 |k::r=>if yK s (zZ k) then ((k:Int),s.drop (zZ k).length) else fndC s r
def numsOk (l:List (List UInt8)):Bool:=decide (l.length<=3) && l.all kH
def numsVal (l:List (List UInt8)):Ver:=if numsOk l then ⟨zG (tg l 0),zG (tg l 1),zG (tg l 2),[],[]⟩ else Ver.zero
theorem tgi_get {l:List (List UInt8)}{i:Nat}(h:i<l.length):l[i]=tg l i:=by
 unfold tg
 rw [List.getElem?_eq_getElem h];rfl
end
section
def nuZ (l:List (List UInt8))(i k:Nat):Int:=if k<i then zG (tg l k) else 0
def nuA (l:List (List UInt8))(i:Nat):Array Value:= #[YI (nuZ l i 0),YI (nuZ l i 1),YI (nuZ l i 2)]
end
section
def pcV (s:List UInt8):Co:=(kX s).getD ⟨0,0,Ver.zero⟩
def pcE (s:List UInt8):Int:=if (kX s).isSome then 0 else 6
theorem pc_none {s:List UInt8}(h:kX s=none):pcV s=⟨0,0,Ver.zero⟩/\pcE s=6:=by unfold pcV pcE;rw [h];exact ⟨rfl,rfl⟩
theorem pc_some {s:List UInt8}{c:Co}(h:kX s=some c):pcV s=c/\pcE s=0:=by unfold pcV pcE;rw [h];exact ⟨rfl,rfl⟩
end
section
def coC (c:Co):List Value:=(coV c).cells.toList
theorem coC_len (c:Co):(coC c).length=7:=rfl
theorem co_cells (c:Co):∀ u∈coC c,u.oneCell'=true:=by
 intro u hu
 unfold coC coV at hu
 simp only [Value.cells,List.mem_cons,List.not_mem_nil,or_false] at hu
 rcases hu with rfl|rfl|rfl|rfl|rfl|rfl|rfl<;>rfl
structure Al where
 A:Option Addr
 l:List Co
 cap:Nat
def alC (x:Al):List Value:=[.slice x.A x.l.length x.cap]
theorem alC_len (x:Al):(alC x).length=1:=rfl
theorem al_cells (x:Al):∀ u∈alC x,u.oneCell'=true:=λu hu=>by rw [List.mem_singleton.1 hu];rfl
def kR (xs:List Al):List (List Co):=xs.map Al.l
theorem qF (xs:List Al):(kR xs).length=xs.length:=List.length_map ..
theorem rgOf_get {xs:List Al}{i:Nat}(hi:i<xs.length){x:Al}(h:xs[i]=x):(kR xs)[i]'(by rw [qF];exact hi)=x.l:=by
 unfold kR;rw [List.getElem_map,h]
def ShortA (l:List Co):Prop:=∀ c∈l,c.short
structure RgIn (w:World)(B:Nat)(A:Option Addr)(xs:List Al):Prop where
 top:Reads alC w B A xs
 each:∀ x∈xs,Reads coC w B x.A x.l
 n:xs.length<=1000
 m:∀ x∈xs,x.l.length<=1000
 short:∀ x∈xs,ShortA x.l
theorem RgIn.on {w w':World}{B B':Nat}{A:Option Addr}{xs:List Al}(h:RgIn w B A xs)(hb:Below B w w')(hB:B<=B'):RgIn w' B' A xs:=⟨h.top.on hb hB,λx hx=>(h.each x hx).on hb hB,h.n,h.m,h.short⟩
theorem take_all {α:Type}{p:α->Prop}{l:List α}{i:Nat}(h:∀ x∈l.take i,p x)(hi:i<l.length){x:α}(hx:l[i]=x)(hp:p x):∀ y∈l.take (i+1),p y:=λy hy=>by
 rw [List.take_succ_eq_append_getElem hi] at hy
 rcases List.mem_append.1 hy with hy|hy
 ·exact h y hy
 ·rw [List.mem_singleton.1 hy,hx];exact hp
theorem fewA_len {l:List Co}(h:¬ (1<=l.length/\l.length<=6)):fewA l=false:=by unfold fewA;rw [decide_eq_false h];rfl
theorem fewA_one {l:List Co}{c:Co}(hm:c∈l)(h:c.may=false):fewA l=false:=by
 cases hf:fewA l with
 |false=>rfl
 |true=>rw [(fewA.facts hf).2 c hm] at h;cases h
theorem fewA_all {l:List Co}(h1:1<=l.length/\l.length<=6)(h:∀ c∈l,c.may=true):fewA l=true:=by
 unfold fewA;rw [decide_eq_true h1,List.all_eq_true.2 h];rfl
theorem few_len {xs:List Al}(h:¬ (1<=xs.length/\xs.length<=6)):fewR (kR xs)=false:=by unfold fewR;rw [qF,decide_eq_false h];rfl
theorem few_one {xs:List Al}{x:Al}(hm:x∈xs)(h:fewA x.l=false):fewR (kR xs)=false:=by
 cases hf:fewR (kR xs) with
 |false=>rfl
 |true=>rw [(fewR.facts hf).2 x.l (List.mem_map.2 ⟨x,hm,rfl⟩)] at h;cases h
theorem few_all {xs:List Al}(h1:1<=xs.length/\xs.length<=6)(h:∀ x∈xs,fewA x.l=true):fewR (kR xs)=true:=by
 unfold fewR;rw [qF,decide_eq_true h1,List.all_eq_true.2 λa ha=>by obtain ⟨x,hx,rfl⟩:=List.mem_map.1 ha;exact h x hx];rfl
theorem co_len {c:Co}(h:c.may=true):c.print.length<=300:=by
 obtain ⟨_,hv,_⟩:=Co.facts h
 have hp:=preOk_short (may_pre hv)
 rw [g0 h]
 unfold Co.text Co.rest
 rw [List.length_append]
 have h1:(zZ c.op).length<=2:=by
  unfold zZ
  repeat' split
  all_goals decide
 split
 ·have:=sjoin_len hv c.parts.toNat;omega
 ·rw [List.length_append]
  have:=njoin_len hv c.parts.toNat
  have:(xP 45 c.v.pre).length<=37:=by
   unfold xP
   split
   ·exact Nat.zero_le _
   ·rw [List.length_cons];omega
  omega
end
section
theorem coInfo:(Tryz.prog.info? 166).map (λi=>(i.zero.map (·.cells.size),i.size,i.bytes))=some (some 7,7,72):=by kernel_rfl
theorem co_info:∃ i z,Tryz.prog.info? 166=some i/\i.zero=some z/\i.size=7/\z.cells.size=7/\i.bytes=72:=by
 have h:=coInfo
 cases hi:Tryz.prog.info? 166 with
 |none=>rw [hi] at h;cases h
 |some i=>
  rw [hi] at h
  simp only [Option.map_some,Option.some.injEq,Prod.mk.injEq] at h
  cases hz:i.zero with
  |none=>rw [hz] at h;simp at h
  |some z=>rw [hz] at h;simp at h;exact ⟨i,z,rfl,hz,h.2.1,h.1,h.2.2⟩
theorem alInfo:(Tryz.prog.info? 265).map (λi=>(i.zero.map (·.cells.size),i.size,i.bytes))=some (some 1,1,24):=by kernel_rfl
theorem al_info:∃ i z,Tryz.prog.info? 265=some i/\i.zero=some z/\i.size=1/\z.cells.size=1/\i.bytes=24:=by
 have h:=alInfo
 cases hi:Tryz.prog.info? 265 with
 |none=>rw [hi] at h;cases h
 |some i=>
  rw [hi] at h
  simp only [Option.map_some,Option.some.injEq,Prod.mk.injEq] at h
  cases hz:i.zero with
  |none=>rw [hz] at h;simp at h
  |some z=>rw [hz] at h;simp at h;exact ⟨i,z,rfl,hz,h.2.1,h.1,h.2.2⟩
def SlCo (v:Value)(l:List Co)(ob:List Blk):Prop:=Sl 166 7 v l.length (l.flatMap coC) ob
structure RgA (u:Value)(xs:List Al)(o1 o2:List Blk):Prop where
 top:Sl 265 1 u xs.length (xs.flatMap alC) o1
 each:∀ x∈xs,∃ o,(∀ b∈o,b∈o2)/\SlCo (.slice x.A x.l.length x.cap) x.l o
def RgO (v:Value)(r:List (List Co))(ob:List Blk):Prop:=∃ xs u o1 o2,v= .agg #[u]/\ob=o1++o2/\kR xs=r/\RgA u xs o1 o2
theorem RgA.nil:RgA (.slice none 0 0) [] [] []:=⟨Sl.nil _ _,λx hx=>by simp at hx⟩
theorem RgO.nil:RgO (.agg #[.slice none 0 0]) [] []:=⟨[],_,[],[],rfl,rfl,rfl,RgA.nil⟩
theorem RgA.add {u u2:Value}{xs:List Al}{o1 o2 o3 oa:List Blk}{A:Option Addr}{cap:Nat}{a:List Co}(h:RgA u xs o1 o2)(h2:Sl 265 1 u2 (xs.length+1) (xs.flatMap alC++alC ⟨A,a,cap⟩) o3)(ha:SlCo (.slice A a.length cap) a oa):RgA u2 (xs++[⟨A,a,cap⟩]) o3 (oa++o2):=
 ⟨h2.to (by simp) (by simp),λx hx=>by
  rcases List.mem_append.1 hx with hx|hx
  ·obtain ⟨o,k1,k2⟩:=h.each x hx
   exact ⟨o,λb hb=>List.mem_append_right _ (k1 b hb),k2⟩
  ·obtain rfl:=List.mem_singleton.1 hx
   exact ⟨oa,λb hb=>List.mem_append_left _ hb,ha⟩⟩
structure FineR (r:List (List Co)):Prop where
 n:r.length<=1000
 m:∀ a∈r,a.length<=1000/\ShortA a
theorem RgA.inn {A:Option Addr}{n cap:Nat}{xs:List Al}{o1 o2 L:List Blk}{M:List Nat}{W w:World}(h:RgA (.slice A n cap) xs o1 o2)(hn:xs.length=n)(hO:Own M W w L)(h1:∀ x∈o1,x∈L)(h2:∀ x∈o2,x∈L)(hf:FineR (kR xs)):RgIn w w.heap.size A xs:=by
 subst hn
 refine ⟨Sl.reads h.top rfl hO h1,λx hx=> ?_,by have:=hf.n;rwa [qF] at this,λx hx=>(hf.m x.l (List.mem_map.2 ⟨x,hx,rfl⟩)).1,λx hx=>(hf.m x.l (List.mem_map.2 ⟨x,hx,rfl⟩)).2⟩
 obtain ⟨o,k1,k2⟩:=h.each x hx
 exact Sl.reads k2 rfl hO λb hb=>h2 b (k1 b hb)
theorem SlT.blk {v:Value}{l:List (List UInt8)}{ob:List Blk}(h:SlT v l ob)(hn:l≠[]):∃ g cur cap,v= .slice (some ⟨g,0,none⟩) l.length cap/\ob=[⟨g,cur,9⟩]/\cur.toList.take (l.length*1)=l.flatMap zW:=by
 obtain ⟨A,cap,rfl⟩:=h.form
 have h0:0<l.length:=by cases l with
  |nil=>exact absurd rfl hn
  |cons _ _=>simp
 obtain ⟨g,cur,rfl,e,_,_,_,e2⟩:=Sl.block h h0
 exact ⟨g,cur,cap,rfl,e,by rw [e2,yL]⟩
theorem pc_ok {s:List UInt8}(h:pcE s=0):kX s=some (pcV s):=by
 cases hp:kX s with
 |none=>rw [(pc_none hp).2] at h;exact absurd h (by decide)
 |some c=>rw [(pc_some hp).1]
theorem pc_err {s:List UInt8}(h:¬ pcE s=0):kX s=none:=by
 cases hp:kX s with
 |none=>rfl
 |some c=>exact absurd (pc_some hp).2 h
theorem parseP_may {s:List UInt8}{c:Co}(h:parseP s=some c):c.may=true:=((fC _ c).1 h).1
theorem co_short {c:Co}(h:c.may=true):c.short:=by
 obtain ⟨_,hv,hb,_⟩:=Co.facts h
 exact may_short hv hb
theorem parseA_fine {s:List UInt8}{a:List Co}(h:parseA s=some a)(hs:s.length<=100):a.length<=1000∧∀ c∈a,c.may=true:=by
 refine ⟨?_,λc hc=> ?_⟩
 ·rw [dR h,split_len]
  have:=List.length_filter_le (λx:UInt8=>x==44) s
  omega
 ·obtain ⟨x,_,e⟩:=allO_back h c hc
  exact parseP_may e
theorem fine_part {s:List UInt8}(hs:s.length<=96){l:List (List UInt8)}(hl:∀ x∈l,x∈xM [] s)(hn:l.length<=97){r:List (List Co)}(h:wG parseA l=some r):FineR r:=by
 refine ⟨by rw [dR h];omega,λa ha=> ?_⟩
 obtain ⟨x,hx,e⟩:=allO_back h a ha
 have:=altsL_le s [] x (hl x hx)
 have:=parseA_fine e (by simp at this;omega)
 exact ⟨this.1,λc hc=>co_short (this.2 c hc)⟩
theorem fine_few {r:List (List Co)}(h:fewR r=true):FineR r:=by
 obtain ⟨h1,h2⟩:=fewR.facts h
 refine ⟨by omega,λa ha=> ?_⟩
 obtain ⟨k1,k2⟩:=fewA.facts (h2 a ha)
 exact ⟨by omega,λc hc=>co_short (k2 c hc)⟩
theorem allO_next {α β:Type}{f:α->Option β}{l:List α}{i:Nat}(hi:i<l.length){y:α}(hy:l[i]=y){m:List β}{z:β}(h:wG f (l.take i)=some m)(hz:f y=some z):wG f (l.take (i+1))=some (m++[z]):=by
 rw [List.take_succ_eq_append_getElem hi,hy]
 exact allO_snoc h hz
theorem all_fails {s:List UInt8}{l m:List (List UInt8)}(hl:l=xM [] s){i k:Nat}(hi:i<l.length){y z:List UInt8}(hy:l[i]=y)(hm:m=zF 44 [] y)(hk:k<m.length)(hz:m[k]=z)(h:¬ pcE (yO z)=0):gO s=none:=by
 have h1:parseA y=none:=allO_none (x:=z) (by rw [←hm,←hz];exact List.getElem_mem hk) (pc_err h)
 exact allO_none (x:=y) (by rw [←hl,←hy];exact List.getElem_mem hi) h1
theorem errG_none {s:List UInt8}(hs:s.length<=96)(h:gO s=none):bF s=6/\kW s=none:=by
 unfold bF kW
 rw [if_neg Om,if_neg Om,h];exact ⟨rfl,rfl⟩
theorem errG_few {s:List UInt8}(hs:s.length<=96){r:List (List Co)}(h:gO s=some r)(hf:fewR r=false):bF s=6/\kW s=none:=by
 unfold bF kW
 rw [if_neg Om,if_neg Om,h]
 simp [hf,rgMay,Option.filter]
theorem errG_big {s:List UInt8}(hs:s.length<=96){r:List (List Co)}(h:gO s=some r)(hf:fewR r=true)(hb:96<(vE r).length):bF s=3/\kW s=none:=by
 unfold bF kW
 rw [if_neg Om,if_neg Om,h]
 simp [hf,rgMay,Option.filter];omega
theorem errG_fine {s:List UInt8}(hs:s.length<=96){r:List (List Co)}(h:gO s=some r)(hf:fewR r=true)(hb:(vE r).length<=96):bF s=0/\kW s=some r:=by
 unfold bF kW
 rw [if_neg Om,if_neg Om,h]
 simp [hf,rgMay,Option.filter,hb]
theorem errG_long {s:List UInt8}(hs:96<s.length):bF s=3/\kW s=none:=by
 unfold bF kW
 rw [if_pos hs,if_pos hs];exact ⟨rfl,rfl⟩
theorem bareF_len:∀ (s:List UInt8),(yX s).length<=s.length
 | []=>Nat.le_refl _
 |c::l=>by
  rw [yX]
  split
  ·have:=bareF_len l;rw [List.length_cons];omega
  ·exact Nat.le_refl _
theorem bareL_len (s:List UInt8):(yO s).length<=s.length:=by
 unfold yO
 rw [List.length_reverse]
 have h1:=bareF_len (yX s).reverse
 rw [List.length_reverse] at h1
 have:=bareF_len s
 omega
theorem pieces_len {y:List UInt8}(h:y.length<=96):(zF 44 [] y).length<=97∧∀ z∈zF 44 [] y,z.length<=96:=by
 refine ⟨?_,λz hz=>by have:=split_le 44 y [] z hz;simp at this;omega⟩
 rw [split_len]
 have:=List.length_filter_le (λx:UInt8=>x==44) y
 omega
section
variable {M:List Nat}{W w:World}
theorem own_two {x y:Blk}{A:List Blk}(h:Own M W w (x::y::A)):Own M W w A:=h.sublist ((List.sublist_cons_self y A).trans (List.sublist_cons_self x (y::A)))
theorem own_turn {x y r t g:Blk}{oa o1 o2:List Blk}(h:Own M W w (([x,y,g,r,t]++oa)++o1++o2)):Own M W w (g::r::t::(o1++(oa++o2))):=by
 have h1:Own M W w (x::y::g::r::t::((oa++o1)++o2)):=by simpa [List.append_assoc] using h
 refine (own_two h1).perm (List.Perm.cons _ (List.Perm.cons _ (List.Perm.cons _ ?_)))
 rw [←List.append_assoc]
 exact List.Perm.append_right _ List.perm_append_comm
end
end
section
def jN (v:Ver):Array Value:= #[YI v.maj,YI v.min,YI v.pat]
theorem cnums_any (v:Ver)(W:World):YC 331 #[x5 v] W λe w'=>∃ v' ob',e= .returned v'/\(∃ g,v'= .slice (some ⟨g,0,none⟩) 3 3/\ob'=[⟨g,jN v,3⟩])/\Own [] W w' ob':=by
 exact z8 Tryz.func331 (zV [] λb1=>kG [0,0,0] 3 3 #[YI v.maj,YI v.min,YI v.pat] λb2=>z6 [] (.slice (some ⟨b2,0,none⟩) 3 3) λw hO=>⟨_,_,rfl,⟨b2,rfl,rfl⟩,Own.nth 0 ⟨b2,jN v,3⟩ hO⟩)
theorem cMay_any (c:Co)(W:World)(hc:c.short):YC 305 #[coV c] W (YR (.bool c.may) W):=by
 obtain ⟨op,parts,v⟩:=c
 have hm:= @Co.may_iff ⟨op,parts,v⟩
 simp only at hm
 have no:∀ w,Below W.heap.size W w→¬ (Co.may ⟨op,parts,v⟩=true)->Ending.returned (.bool false)= .returned (.bool (Co.may ⟨op,parts,v⟩))/\Below W.heap.size W w:=λw hb h=>⟨by rw [Bool.eq_false_iff.2 h],hb⟩
 have hmay:∀ w,YC 53 #[x5 v] w (YR (.bool v.may) w):=λw=>fH v w (Nat.lt_of_le_of_lt hc.1 (by decide)) (Nat.lt_of_le_of_lt hc.2 (by decide))
 have hnum:∀ w,YC 331 #[x5 v] w λe w'=>∃ v' ob',e= .returned v'/\(∃ g,v'= .slice (some ⟨g,0,none⟩) 3 3/\ob'=[⟨g,jN v,3⟩])/\Own [] w w' ob':=λw=>cnums_any v w
 refine z8 Tryz.func305 (zV [] λb1=>w8 9 (α:=Int×Int) (λq=>[(1,Zp b1 0),(3,YI q.1),(4,YI q.2)]) (λ_=>[⟨b1,(coV ⟨op,parts,v⟩).cells,166⟩]) (λq=>(op=9->q.1=0/\q.2=2)/\(¬ op=9->q.1=1/\q.2=3)) [0] (λnj=>gW 9 (op=9) (λh=>nj (0,2) [] ⟨λ_=>⟨rfl,rfl⟩,λq=>absurd h q⟩ Kr) (λh=>nj (1,3) [] ⟨λq=>absurd q h,λ_=>⟨rfl,rfl⟩⟩ Kr)) ?_)
 rintro ⟨lo,hi⟩ g hr
 simp only at hr
 refine zE 12 [0] (op<1) (λh1=>(z6 [] Z5 λw hO=>no w hO.below λq=>by have:=hm.1 q;grind)) (λh1=>zE 16 [0] (op>9) (λh2=>(z6 [] Z5 λw hO=>no w hO.below λq=>by have:=hm.1 q;grind)) (λh2=>zE 22 [0] (parts<lo) (λh5=>(z6 [] Z5 λw hO=>no w hO.below λq=>by have:=hm.1 q;grind)) (λh5=>zE 28 [0] (parts>hi) (λh6=>(z6 [] Z5 λw hO=>no w hO.below λq=>by have:=hm.1 q;grind)) (λh6=> ?_))))
 rcases (by omega:parts=0\/parts=1\/parts=2\/parts=3) with rfl|rfl|rfl|rfl
 ·refine pU (.s (.s (.s (.s (.s (.s (.s (.s .z)))))))) 8 [] (zK [0,0] 2 (y9 (R:=λv' ob'=>∃ g,v'= .slice (some ⟨g,0,none⟩) 3 3/\ob'=[⟨g,jN v,3⟩]) (λw hO=>hnum w) ?_))
  rintro v' ob' ⟨gb,rfl,rfl⟩
  exact q8 3 [] (qT 42 [1] (v.maj=0) (λa1=>qT 42 [1] (v.min=0) (λa2=>qT 42 [1] (v.pat=0) (λa3=>z1 (v:= .bool v.may) [0] (λw hO=>hmay w) (yG 46 v.may (λe3=>xN 51 [0] v.build [] (λh4=>xN 57 [0] v.pre [] (λh8=>(z6 [] Z4 λw hO=>⟨by rw [hm.2 ⟨by omega,e3,h4,by omega,by omega,by first|exact .inr h8|exact .inl Om,by omega,by omega,by omega⟩],hO.below⟩)) (λh8=>(z6 [0] Z5 λw hO=>no w hO.below λq=>by have:=hm.1 q;grind))) (λh4=>(z6 [] Z5 λw hO=>no w hO.below λq=>by have:=hm.1 q;grind))) (λe3=>(z6 [] Z5 λw hO=>no w hO.below λq=>by have:=hm.1 q;grind)))) (λa3=>(z6 [] Z5 λw hO=>no w hO.below λq=>by have:=hm.1 q;grind))) (λa2=>(z6 [] Z5 λw hO=>no w hO.below λq=>by have:=hm.1 q;grind))) (λa1=>(z6 [] Z5 λw hO=>no w hO.below λq=>by have:=hm.1 q;grind)))
 ·refine pU (.s (.s (.s (.s (.s (.s (.s (.s .z)))))))) 8 [] (zK [0,0] 2 (y9 (R:=λv' ob'=>∃ g,v'= .slice (some ⟨g,0,none⟩) 3 3/\ob'=[⟨g,jN v,3⟩]) (λw hO=>hnum w) ?_))
  rintro v' ob' ⟨gb,rfl,rfl⟩
  exact q8 3 [] (qT 42 [1] (v.min=0) (λa2=>qT 42 [1] (v.pat=0) (λa3=>z1 (v:= .bool v.may) [0] (λw hO=>hmay w) (yG 46 v.may (λe3=>xN 51 [0] v.build [] (λh4=>xN 57 [0] v.pre [] (λh8=>(z6 [] Z4 λw hO=>⟨by rw [hm.2 ⟨by omega,e3,h4,by omega,by omega,by first|exact .inr h8|exact .inl Om,by omega,by omega,by omega⟩],hO.below⟩)) (λh8=>(z6 [0] Z5 λw hO=>no w hO.below λq=>by have:=hm.1 q;grind))) (λh4=>(z6 [] Z5 λw hO=>no w hO.below λq=>by have:=hm.1 q;grind))) (λe3=>(z6 [] Z5 λw hO=>no w hO.below λq=>by have:=hm.1 q;grind)))) (λa3=>(z6 [] Z5 λw hO=>no w hO.below λq=>by have:=hm.1 q;grind))) (λa2=>(z6 [] Z5 λw hO=>no w hO.below λq=>by have:=hm.1 q;grind)))
 ·refine pU (.s (.s (.s (.s (.s (.s (.s (.s .z)))))))) 8 [] (zK [0,0] 2 (y9 (R:=λv' ob'=>∃ g,v'= .slice (some ⟨g,0,none⟩) 3 3/\ob'=[⟨g,jN v,3⟩]) (λw hO=>hnum w) ?_))
  rintro v' ob' ⟨gb,rfl,rfl⟩
  exact q8 3 [] (qT 42 [1] (v.pat=0) (λa3=>z1 (v:= .bool v.may) [0] (λw hO=>hmay w) (yG 46 v.may (λe3=>xN 51 [0] v.build [] (λh4=>xN 57 [0] v.pre [] (λh8=>(z6 [] Z4 λw hO=>⟨by rw [hm.2 ⟨by omega,e3,h4,by omega,by omega,by first|exact .inr h8|exact .inl Om,by omega,by omega,by omega⟩],hO.below⟩)) (λh8=>(z6 [0] Z5 λw hO=>no w hO.below λq=>by have:=hm.1 q;grind))) (λh4=>(z6 [] Z5 λw hO=>no w hO.below λq=>by have:=hm.1 q;grind))) (λe3=>(z6 [] Z5 λw hO=>no w hO.below λq=>by have:=hm.1 q;grind)))) (λa3=>(z6 [] Z5 λw hO=>no w hO.below λq=>by have:=hm.1 q;grind)))
 ·refine pU (.s (.s (.s (.s (.s (.s (.s (.s .z)))))))) 8 [] (zK [0,0] 2 (y9 (R:=λv' ob'=>∃ g,v'= .slice (some ⟨g,0,none⟩) 3 3/\ob'=[⟨g,jN v,3⟩]) (λw hO=>hnum w) ?_))
  rintro v' ob' ⟨gb,rfl,rfl⟩
  exact q8 3 [] (z1 (v:= .bool v.may) [0] (λw hO=>hmay w) (yG 46 v.may (λe3=>xN 51 [0] v.build [] (λh4=>xN 57 [0] v.pre [] (λh8=>(z6 [] Z4 λw hO=>⟨by rw [hm.2 ⟨by omega,e3,h4,by omega,by omega,by first|exact .inr h8|exact .inl Om,by omega,by omega,by omega⟩],hO.below⟩)) (λh8=>(z6 [0] Z4 λw hO=>⟨by rw [hm.2 ⟨by omega,e3,h4,by omega,by omega,by first|exact .inr h8|exact .inl Om,by omega,by omega,by omega⟩],hO.below⟩))) (λh4=>(z6 [] Z5 λw hO=>no w hO.below λq=>by have:=hm.1 q;grind))) (λe3=>(z6 [] Z5 λw hO=>no w hO.below λq=>by have:=hm.1 q;grind))))
theorem csign_any (op:Int)(W:World):YC 330 #[YI op] W (YR (.string (mkS (zZ op))) W):=by
 exact z8 Tryz.func330 (zE 7 [] (op=2) (λh=>gX 24 [] [33] [61] (z6 [] (.string (mkS ([33]++[61]))) λw hO=>⟨by subst h;rfl,hO.below⟩)) (λh2=>zE 9 [] (op=1) (λh=>gX 24 [] [] [61] (z6 [] (.string (mkS ([]++[61]))) λw hO=>⟨by subst h;rfl,hO.below⟩)) (λh1=>zE 11 [] (op=4) (λh=>gX 24 [] [60] [61] (z6 [] (.string (mkS ([60]++[61]))) λw hO=>⟨by subst h;rfl,hO.below⟩)) (λh4=>zE 13 [] (op=3) (λh=>gX 24 [] [60] [] (z6 [] (.string (mkS ([60]++[]))) λw hO=>⟨by subst h;rfl,hO.below⟩)) (λh3=>zE 15 [] (op=6) (λh=>gX 24 [] [62] [61] (z6 [] (.string (mkS ([62]++[61]))) λw hO=>⟨by subst h;rfl,hO.below⟩)) (λh6=>zE 17 [] (op=5) (λh=>gX 24 [] [62] [] (z6 [] (.string (mkS ([62]++[]))) λw hO=>⟨by subst h;rfl,hO.below⟩)) (λh5=>zE 19 [] (op=7) (λh=>gX 24 [] [94] [] (z6 [] (.string (mkS ([94]++[]))) λw hO=>⟨by subst h;rfl,hO.below⟩)) (λh7=>zE 21 [] (op=8) (λh=>gX 24 [] [126] [] (z6 [] (.string (mkS ([126]++[]))) λw hO=>⟨by subst h;rfl,hO.below⟩)) (λh8=>gX 24 [] [] [] (z6 [] (.string (mkS ([]++[]))) λw hO=>⟨by unfold zZ;rw [if_neg h1,if_neg h2,if_neg h3,if_neg h4,if_neg h5,if_neg h6,if_neg h7,if_neg h8];rfl,hO.below⟩))))))))))
end
section
theorem splitn_any (s:List UInt8)(W:World)(hs:s.length<=1000000):YC 182 #[.string (mkS s),.string ⟨#[46]⟩,YI 3] W λe w'=>∃ v' ob',e= .returned v'/\SlT v' (jL 2 s) ob'/\Own [] W w' ob':=by
 exact z8 Tryz.func182 (yV (R:=λv' ob'=>SlT v' (jL 2 s) ob') [] (λw hO=>split3_any s w hs) λv1 o1 h=>z6 [] v1 λw hO=>⟨v1,o1,rfl,h,hO.past 0 o1⟩)
theorem sgo_take {s r:List UInt8}{k:Nat}{op:Int}(h:sgo s k=(op,r))(hb:yK s (zZ ((k+1:Nat):Int))=true)(hl:((mkS (cpL s (zZ ((k+1:Nat):Int)))).size:Int)<((mkS r).size:Int)):sgo s (k+1)=(((k+1:Nat):Int),cpL s (zZ ((k+1:Nat):Int))):=by
 rw [y0,y0] at hl
 unfold cpL at hl ⊢
 rw [if_pos hb] at hl ⊢
 unfold sgo
 rw [h,if_pos ⟨hb,by show _<r.length;omega⟩]
theorem sgo_not {s r:List UInt8}{k:Nat}{op:Int}(h:sgo s k=(op,r))(hb:yK s (zZ ((k+1:Nat):Int))=false):sgo s (k+1)=(op,r):=by
 unfold sgo
 rw [h,if_neg (λq=>by rw [hb] at q;exact Bool.false_ne_true q.1)]
theorem sgo_long {s r:List UInt8}{k:Nat}{op:Int}(h:sgo s k=(op,r))(hb:yK s (zZ ((k+1:Nat):Int))=true)(hl:¬ ((mkS (cpL s (zZ ((k+1:Nat):Int)))).size:Int)<((mkS r).size:Int)):sgo s (k+1)=(op,r):=by
 rw [y0,y0] at hl
 unfold cpL at hl
 rw [if_pos hb] at hl
 unfold sgo
 rw [h,if_neg (λq=>hl (by have q2:_<r.length:=q.2;omega))]
theorem ccut_any (s:List UInt8)(W:World)(hs:s.length<=1000000):YC 296 #[.string (mkS s)] W (YR (.tuple #[YI (sgo s 8).1,.string (mkS (sgo s 8).2)]) W):=by
 refine z8 Tryz.func296 (y4 (α:=Nat×Int×List UInt8) (λ(k,op,r)=>[(0,.string (mkS s)),(4,YI op),(5,.string (mkS r)),(6,YI ((k+1:Nat):Int))]) (λ_=>[]) (λ(k,op,r) m=>(k<=8/\sgo s k=(op,r))/\m=8-k) (0,7,s) (8-0) [] ⟨⟨by omega,rfl⟩,rfl⟩ ?_)
 rintro ⟨k,op,r⟩ m g kk ⟨⟨hkl,hrel⟩,hmm⟩ nx hkk
 subst hkk
 by_cases h1:((k+1:Nat):Int)<9
 ·refine zE 11 [] (((k+1:Nat):Int)<9) (λ_=>z1 (k:=330) (args:= #[YI ((k+1:Nat):Int)]) (v:= .string (mkS (zZ ((k+1:Nat):Int)))) [] (λw _=>csign_any _ w) (z1 (k:=161) (args:= #[.string (mkS s),.string (mkS (zZ ((k+1:Nat):Int)))]) (v:= .tuple #[.string (mkS (cpL s (zZ ((k+1:Nat):Int)))),.bool (yK s (zZ ((k+1:Nat):Int)))]) [] (λw _=>cutpre_any s (zZ ((k+1:Nat):Int)) w) ?_)) (λh=>absurd h1 h)
  cases h2:yK s (zZ ((k+1:Nat):Int)) with
  |true=>exact zE 27 [] (((cpL s (zZ ((k+1:Nat):Int))).length:Int)<(r.length:Int)) (λh3=>x_i 13 [] ((k+1+1:Nat):Int) (nx (k+1,((k+1:Nat):Int),(cpL s (zZ ((k+1:Nat):Int)))) (8-(k+1)) [] Om ⟨⟨by omega,sgo_take hrel h2 (by rw [y0,y0];exact h3)⟩,rfl⟩ Kr Kr)) (λh3=>x_i 13 [] ((k+1+1:Nat):Int) (nx (k+1,op,r) (8-(k+1)) [] Om ⟨⟨by omega,sgo_long hrel h2 (by rw [y0,y0];exact h3)⟩,rfl⟩ Kr Kr))
  |false=>exact x_i 13 [] ((k+1+1:Nat):Int) (nx (k+1,op,r) (8-(k+1)) [] Om ⟨⟨by omega,sgo_not hrel h2⟩,rfl⟩ Kr Kr)
 ·obtain rfl:k=8:=by omega
  exact zE 11 [] (((8+1:Nat):Int)<9) (λh=>absurd h h1) (λ_=>vB [] (YI op) (.string (mkS r)) λw hO=>⟨by rw [hrel],hO.below⟩)
theorem nth_ok {v:Ver}(h:v.may=true){k:Nat}(hk:k<3):zL (vM v.maj v.min v.pat k)=true:=by
 obtain ⟨m1,m2,m3⟩:=qX h
 have hj:k=0\/k=1\/k=2:=by omega
 rcases hj with rfl|rfl|rfl
 ·exact m1
 ·exact m2
 ·exact m3
theorem nth_in {v:Ver}(h:v.may=true){k:Nat}(hk:k<3): -9223372036854775808<=vM v.maj v.min v.pat k/\vM v.maj v.min v.pat k<=9223372036854775807:=by
 have q:=nth_ok h hk
 unfold zL at q;simp at q;omega
theorem nums_next (v:Ver){k:Nat}(hk:k<3):zQ v (k+1)=zQ v k++[Lib.itoa (vM v.maj v.min v.pat k)]:=by
 have hj:k=0\/k=1\/k=2:=by omega
 rcases hj with rfl|rfl|rfl<;>rfl
theorem star_ne {l:List (List UInt8)}:zB 46 (l++[[42]])≠[]:=λe=>by
 have h:=last_join [] l
 rw [show ([]:List UInt8)++[42]=[42] from rfl,e] at h
 cases h
theorem nums_ne {c:Co}(h:c.may=true)(hn:¬ c.op=9):zB 46 (zQ c.v c.parts.toNat)≠[]:=λe=>by
 obtain ⟨d,r,e2,hd⟩:=dB h hn
 unfold Co.rest at e2
 rw [if_neg hn,e,List.nil_append] at e2
 unfold xP at e2
 split at e2
 ·cases e2
 ·injection e2 with e3 _
  rw [←e3] at hd
  revert hd;decide
theorem text_pre2 {c:Co}(h9:¬ c.op=9)(hp:¬ c.v.pre=[]):zZ c.op++zB 46 (zQ c.v c.parts.toNat)++([45]++c.v.pre)=c.text:=by
 rw [←text_pre h9 hp];simp
theorem star_text2 {c:Co}(h9:c.op=9):zZ c.op++zB 46 (zQ c.v c.parts.toNat++[[42]])=c.text:=by
 rw [←star_text h9,h9];rfl
theorem star_pre {c:Co}(h:c.may=true)(h9:c.op=9):c.v.pre=[]:=by
 obtain ⟨_,_,_,k9,_,hp,_⟩:=Co.facts h
 have:=k9 h9
 exact hp.resolve_left Om
theorem cPrint_any (c:Co)(W:World)(hc:c.short)(ht:HasTab W):YC 297 #[coV c] W (YR (.string (mkS c.print)) W):=by
 refine z8 Tryz.func297 (zV [] λb1=>z1 (k:=305) (args:= #[coV c]) (v:= .bool c.may) [0] (λw _=>cMay_any c w hc) ?_)
 cases hcm:c.may with
 |false=>exact z6 [] (.string (mkS [])) λw hO=>⟨by unfold Co.print;simp [hcm],hO.below⟩
 |true=>
  have hcv:=(Co.facts hcm).2.1
  have hpn:=parts_nat hcm
  have hpr:=hpn.2
  have hpc:=hpn.1
  have q1:=signL_len c.op
  have q2:=njoin_len hcv c.parts.toNat
  have q4:=sjoin_len hcv c.parts.toNat
  have q3:=hc.1
  refine pU (.s (.s (.s (.s (.s (.s (.s (.s (.s (.s (.s (.s (.s .z))))))))))))) 8 [] (zK [0,0] 2 (y9 (R:=λv' ob'=>∃ g,v'= .slice (some ⟨g,0,none⟩) 3 3/\ob'=[⟨g,jN c.v,3⟩]) (λw hO=>cnums_any c.v w) ?_))
  rintro v' ob' ⟨g1,rfl,rfl⟩
  refine xh_slhi 50015 [] 5 (A:=some ⟨g1,0,none⟩) rfl 3 3 1 c.parts Om Om (.slice (some ⟨g1,0,none⟩) c.parts.toNat 3) rfl (y4 (α:=Nat×Value×List Blk) (λ(k,va,_)=>[(1,Zp b1 0),(3,va),(15,.slice (some ⟨g1,0,none⟩) c.parts.toNat 3),(16,YI (c.parts.toNat:Int)),(17,YI (k:Int))]) (λ(_,_,oa)=>⟨b1,(coV c).cells,166⟩::⟨g1,jN c.v,3⟩::oa) (λ(k,va,oa) m=>(k<=c.parts.toNat/\SlT va (zQ c.v k) oa)/\m=c.parts.toNat-k) (0,.slice none 0 0,[]) (c.parts.toNat-0) [] ⟨⟨Nat.zero_le _,Sl.nil _ _⟩,rfl⟩ ?_)
  rintro ⟨k,va,oa⟩ m g kk ⟨⟨hkl,hva⟩,hmm⟩ nx hkk
  subst hkk
  have hlk:(zQ c.v k).length<=3:=by have:=mC c.v k;omega
  by_cases h2:(k:Int)<(c.parts.toNat:Int)
  ·have hrd:yH Tryz.prog 3 (jN c.v) k=some (YI (vM c.v.maj c.v.min c.v.pat k)):=by rcases (by omega:k=0\/k=1\/k=2) with rfl|rfl|rfl<;>kernel_rfl
   have hni:=nth_in hcv (show k<3 by omega)
   refine zE 18 [] ((k:Int)<(c.parts.toNat:Int)) (λ_=>d5 19 [] (A:=some ⟨g1,0,none⟩) rfl c.parts.toNat 3 (k:Int) 1 k Om (vN 20 [] 1 (jN c.v) k 3 (YI (vM c.v.maj c.v.min c.v.pat k)) hrd (z1 (k:=166) (args:= #[YI (vM c.v.maj c.v.min c.v.pat k)]) (v:= .string (mkS (Lib.itoa (vM c.v.maj c.v.min c.v.pat k)))) [] (λw hO=>digits_mk _ hni.1 hni.2 w (ht.on hO.below)) (kG [] 1 9 #[.string (mkS (Lib.itoa (vM c.v.maj c.v.min c.v.pat k)))] λb2=>vJ (m:=1) (cp:=1) [] [⟨b2, #[.string (mkS (Lib.itoa (vM c.v.maj c.v.min c.v.pat k)))],9⟩,⟨b1,(coV c).cells,166⟩,⟨g1,jN c.v,3⟩] oa [] 0 (⟨b2, #[.string (mkS (Lib.itoa (vM c.v.maj c.v.min c.v.pat k)))],9⟩::⟨b1,(coV c).cells,166⟩::⟨g1,jN c.v,3⟩::oa) (λw hO=>hO.cast (by simp)) hva Om λva2 oa2 hva0=> ?_)))) (λh=>absurd h2 h)
   have hva2:SlT va2 (zQ c.v k++[Lib.itoa (vM c.v.maj c.v.min c.v.pat k)]) oa2:=SlT.add hva0
   exact x_i 26 [] ((k+1:Nat):Int) (zH [] (⟨b1,(coV c).cells,166⟩::⟨g1,jN c.v,3⟩::oa2) (λw hO=>(hO.past 1 (⟨b1,(coV c).cells,166⟩::⟨g1,jN c.v,3⟩::(oa2++[]))).cast (by simp)) (nx (k+1,va2,oa2) (c.parts.toNat-(k+1)) [] Om ⟨⟨by omega,by rw [nums_next c.v Om];exact hva2⟩,rfl⟩ Kr Kr))
  ·obtain rfl:k=c.parts.toNat:=by omega
   refine zE 18 [] ((c.parts.toNat:Int)<(c.parts.toNat:Int)) (λh=>absurd h h2) (λ_=>zE 29 [0] (c.op=9) (λh3=> ?_) (λh3=> ?_))
   ·refine kG [] 1 9 #[.string ⟨#[42]⟩] λb2=>vJ (m:=1) (cp:=1) [] [⟨b2, #[.string ⟨#[42]⟩],9⟩,⟨b1,(coV c).cells,166⟩,⟨g1,jN c.v,3⟩] oa [] 0 (⟨b2, #[.string ⟨#[42]⟩],9⟩::⟨b1,(coV c).cells,166⟩::⟨g1,jN c.v,3⟩::oa) (λw hO=>hO.cast (by simp)) hva Om λva2 oa2 hva0=> ?_
    have hva2:SlT va2 (zQ c.v c.parts.toNat++[[42]]) oa2:=SlT.add hva0
    exact z1 (k:=330) (args:= #[YI c.op]) (v:= .string (mkS (zZ c.op))) [1] (λw _=>csign_any c.op w) (z1 (k:=164) (args:= #[va2,.int .u8 46]) (v:= .string (mkS (zB 46 (zQ c.v c.parts.toNat++[[42]])))) [] (λw hO=>vR va2 _ 46 w (SlT.readsT hva2 (hO.past 3 (oa2++[])) (λx hx=>List.mem_append_left _ hx)) (Nat.le_trans q4 (by decide)) (by rw [List.length_append];simp;omega) star_ne) (gX 38 [] (zZ c.op) (zB 46 (zQ c.v c.parts.toNat++[[42]])) (g8 42 [1] c.v.pre [] (λh4=>z6 [] (.string (mkS (zZ c.op++(zB 46 (zQ c.v c.parts.toNat++[[42]]))))) λw hO=>⟨by rw [g0 hcm,←star_text2 h3],hO.below⟩) (λh4=>absurd (star_pre hcm h3) h4))))
   ·exact z1 (k:=330) (args:= #[YI c.op]) (v:= .string (mkS (zZ c.op))) [0] (λw _=>csign_any c.op w) (z1 (k:=164) (args:= #[va,.int .u8 46]) (v:= .string (mkS (zB 46 (zQ c.v c.parts.toNat)))) [] (λw hO=>vR va _ 46 w (SlT.readsT hva (hO.past 2 oa) (λx hx=>hx)) (Nat.le_trans q2 (by decide)) (Nat.le_trans hlk (by decide)) (nums_ne hcm h3)) (gX 38 [] (zZ c.op) (zB 46 (zQ c.v c.parts.toNat)) (g8 42 [0] c.v.pre [] (λh4=>z6 [] (.string (mkS (zZ c.op++(zB 46 (zQ c.v c.parts.toNat))))) λw hO=>⟨by rw [g0 hcm,←text_bare h3 h4],hO.below⟩) (λh4=>gX 47 [0] [45] c.v.pre (gX 48 [] (zZ c.op++(zB 46 (zQ c.v c.parts.toNat))) ([45]++c.v.pre) (z6 [] (.string (mkS (zZ c.op++(zB 46 (zQ c.v c.parts.toNat))++([45]++c.v.pre)))) λw hO=>⟨by rw [g0 hcm,←text_pre2 h3 h4],hO.below⟩))))))
end
section
theorem last_pl {l:List (List UInt8)}(h:1<=l.length){x:List UInt8}(hx:tg l (l.length-1)=x):l.getLast?=some x:=by
 rw [List.getLast?_eq_getElem?,List.getElem?_eq_getElem (by omega),tgi_get (by omega),hx]
theorem guess_is {s r ah tl:List UInt8}{op:Int}{pl:List (List UInt8)}(h1:(sgo s 8).1=op)(h2:(sgo s 8).2=r)(h3:(z7 45 r).1=ah)(h4:(z7 45 r).2.1=tl)(h5:jL 2 ah=pl){x:List UInt8}(hx:tg pl (pl.length-1)=x)(hl:1<=pl.length):
  qV s=if x=[42] then (⟨9,((pl.length:Int) -1),⟨zG (tg pl 0),zG (tg pl 1),zG (tg pl 2),tl,[]⟩⟩:Co) else (⟨op,(pl.length:Int),⟨zG (tg pl 0),zG (tg pl 1),zG (tg pl 2),tl,[]⟩⟩:Co):=by
 have hp:jC s=pl:=by unfold jC;rw [h2,h3,h5]
 unfold qV starP
 rw [hp,h2,h4,h1,last_pl hl hx]
 by_cases q:x=[42]
 ·rw [if_pos q,q,decide_eq_true rfl];rfl
 ·rw [if_neg q,decide_eq_false (λe=>q (Option.some.inj e))];rfl
theorem jX {s pt:List UInt8}{c:Co}(hg:qV s=c)(hp:c.print=pt)(h:pt=s\/pt=[94]++s):pcV s=c/\pcE s=0:=by
 have h2:=prog_some (s:=s) (by rw [hg,hp];exact h)
 rw [hg] at h2
 exact pc_some h2
theorem fit_no {s pt:List UInt8}{c:Co}(hg:qV s=c)(hp:c.print=pt)(h1:¬ pt=s)(h2:¬ pt=[94]++s):pcV s=⟨0,0,Ver.zero⟩/\pcE s=6:=
 pc_none (prog_none (by rw [hg,hp];exact λq=>q.elim h1 h2))
theorem cParse_any (s:List UInt8)(W:World)(hs:s.length<=1000000)(ht:HasTab W):YC 254 #[.string (mkS s)] W (YR (.tuple #[coV (pcV s),YI (pcE s)]) W):=by
 obtain ⟨op,hop⟩:∃ x,(sgo s 8).1=x:=⟨_,rfl⟩
 obtain ⟨r,hr⟩:∃ x,(sgo s 8).2=x:=⟨_,rfl⟩
 obtain ⟨ah,hah⟩:∃ x,(z7 45 r).1=x:=⟨_,rfl⟩
 obtain ⟨tl,htl⟩:∃ x,(z7 45 r).2.1=x:=⟨_,rfl⟩
 obtain ⟨fd,hfd⟩:∃ x,(z7 45 r).2.2=x:=⟨_,rfl⟩
 obtain ⟨pl,hpl⟩:∃ x,jL 2 ah=x:=⟨_,rfl⟩
 have hrl:r.length<=s.length:=hr▸sgo_le s 8
 have hal:ah.length+tl.length<=r.length:=by rw [←hah,←htl];exact tV 45 r
 obtain ⟨hp1,hp3⟩:1<=pl.length/\pl.length<=3:=hpl▸pcsK_len 2 ah
 have htp:∀ x∈pl,x.length<=1000000:=λx hx=>by rw [←hpl] at hx;exact Nat.le_trans (pcsK_mem 2 ah x hx) Om
 have hgu:=λ{x} (hx:tg pl (pl.length-1)=x)=>guess_is hop hr hah htl hpl hx Om
 have hcs:∀ w,YC 296 #[.string (mkS s)] w (YR (.tuple #[YI op,.string (mkS r)]) w):=λw=>by have:=ccut_any s w hs;rw [hop,hr] at this;exact this
 have hct:∀ w,YC 153 #[.string (mkS r),.string ⟨#[45]⟩] w (YR (.tuple #[.string (mkS ah),.string (mkS tl),.bool fd]) w):=λw=>ret_v (by rw [hah,htl,hfd]) (tU r 45 w Om)
 have hsp:∀ w,YC 182 #[.string (mkS ah),.string ⟨#[46]⟩,YI 3] w λe w'=>∃ v' ob',e= .returned v'/\SlT v' pl ob'/\Own [] w w' ob':=λw=>by have:=splitn_any ah w Om;rw [hpl] at this;exact this
 have hnu:∀ x∈pl,∀ w,YC 155 #[.string (mkS x)] w (YR (.tuple #[YI (zG x),.bool (kH x)]) w):=λx hx w=>wK x _ rfl w (Nat.le_trans (htp x hx) (by decide))
 have hcl:∀ w,YC 66 #[.string (mkS tl)] w (YR (.string (mkS tl)) w):=λw=>nJ (mkS tl) w (by rw [y0];omega)
 have hpr:∀ (c:Co) w,c.short->Below W.heap.size W w->YC 297 #[coV c] w (YR (.string (mkS c.print)) w):=λc w hc hb=>cPrint_any c w hc (ht.on hb)
 have hsh:∀ a b c d e,(⟨a,b,⟨c,d,e,tl,[]⟩⟩:Co).short:=λa b c d e=>⟨by show tl.length<=_;omega,Nat.zero_le _⟩
 refine z8 Tryz.func254 (zD [] λb2=>z1 (v:= .tuple #[YI op,.string (mkS r)]) [] (λw _=>hcs w) (z1 (v:= .tuple #[.string (mkS ah),.string (mkS tl),.bool fd]) [] (λw _=>hct w) (zD [] λb8=>yV (R:=λv ob=>SlT v pl ob) [] (λw _=>hsp w) ?_)))
 rintro v ob hsl
 obtain ⟨A1,c1,rfl⟩:=hsl.form
 obtain ⟨g1,cur1,rfl,rfl,hc1,hm1,hz1,ht1⟩:=Sl.block hsl Om
 rw [yL] at ht1
 have hrd:∀ i x,i<pl.length->tg pl i=x->yH Tryz.prog 9 cur1 (i*1+0)=some (.string (mkS x)):=λi x hi hx=>read_part zN ht1 i 0 hi (by decide) _ (by rw [tgi_get hi,hx];kernel_rfl)
 clear hcs hct hsp ht1 hsl
 obtain ⟨p0,rfl⟩|⟨p0,p1,rfl⟩|⟨p0,p1,p2,rfl⟩:(∃ p0,pl=[p0])\/(∃ p0 p1,pl=[p0,p1])∨∃ p0 p1 p2,pl=[p0,p1,p2]:=by
  match pl,hp1,hp3 with
  | [p0],_,_=>exact .inl ⟨p0,rfl⟩
  | [p0,p1],_,_=>exact .inr (.inl ⟨p0,p1,rfl⟩)
  | [p0,p1,p2],_,_=>exact .inr (.inr ⟨p0,p1,p2,rfl⟩)
 ·refine q8 3 [] (vN 33 [] 2 cur1 (0*1+0) 9 (.string (mkS p0)) (hrd 0 _ (by simp) rfl) (z1 (v:= .tuple #[YI (zG p0),.bool (kH p0)]) [] (λw _=>hnu p0 (by simp) w) (zD [0] λb12=>vN 51 [0] 3 cur1 (0*1+0) 9 (.string (mkS p0)) (hrd 0 _ (by simp) rfl) (xN 52 [] p0 [42] (λh3=> ?_) (λh3=> ?_)))))
  ·obtain ⟨pt,hpt⟩:∃ x,Co.print ⟨9,0,⟨zG p0,0,0,tl,[]⟩⟩=x:=⟨_,rfl⟩
   have hp:=λw hb=>hpt▸hpr ⟨9,0,⟨zG p0,0,0,tl,[]⟩⟩ w (hsh _ _ _ _ _) hb
   refine z1 (v:= .string (mkS pt)) [0,0,0,1,1,1,0,0] (λw hO=>hp w hO.below) (g8 71 [] pt s (λh4=> ?_) (λh4=>gX 75 [] [94] s (g8 76 [] pt ([94]++s) (λh5=> ?_) (λh5=> ?_))))
   ·exact z1 (v:= .string (mkS tl)) [] (λw _=>hcl w) (yI [0,0,2] 2 (coV (⟨9,0,⟨zG p0,0,0,tl,[]⟩⟩:Co)) (YI 0) λw hO=>⟨by have q:=jX (c:=⟨9,0,⟨zG p0,0,0,tl,[]⟩⟩) ((hgu (x:=p0) rfl).trans (if_pos h3)) hpt (.inl h4);rw [q.1,q.2],hO.below⟩)
   ·exact z1 (v:= .string (mkS tl)) [] (λw _=>hcl w) (yI [0,0,2] 2 (coV (⟨9,0,⟨zG p0,0,0,tl,[]⟩⟩:Co)) (YI 0) λw hO=>⟨by have q:=jX (c:=⟨9,0,⟨zG p0,0,0,tl,[]⟩⟩) ((hgu (x:=p0) rfl).trans (if_pos h3)) hpt (.inr h5);rw [q.1,q.2],hO.below⟩)
   ·exact yI [2] 2 (coV ⟨0,0,Ver.zero⟩) (YI 6) λw hO=>⟨by have q:=fit_no (c:=⟨9,0,⟨zG p0,0,0,tl,[]⟩⟩) ((hgu (x:=p0) rfl).trans (if_pos h3)) hpt h4 h5;rw [q.1,q.2],hO.below⟩
  obtain ⟨pt,hpt⟩:∃ x,Co.print ⟨op,1,⟨zG p0,0,0,tl,[]⟩⟩=x:=⟨_,rfl⟩
  have hp:=λw hb=>hpt▸hpr ⟨op,1,⟨zG p0,0,0,tl,[]⟩⟩ w (hsh _ _ _ _ _) hb
  refine z1 (v:= .string (mkS pt)) [1,1,1,0,0] (λw hO=>hp w hO.below) (g8 71 [] pt s (λh4=> ?_) (λh4=>gX 75 [] [94] s (g8 76 [] pt ([94]++s) (λh5=> ?_) (λh5=> ?_))))
  ·exact z1 (v:= .string (mkS tl)) [] (λw _=>hcl w) (yI [0,0,2] 2 (coV (⟨op,1,⟨zG p0,0,0,tl,[]⟩⟩:Co)) (YI 0) λw hO=>⟨by have q:=jX (c:=⟨op,1,⟨zG p0,0,0,tl,[]⟩⟩) ((hgu (x:=p0) rfl).trans (if_neg h3)) hpt (.inl h4);rw [q.1,q.2],hO.below⟩)
  ·exact z1 (v:= .string (mkS tl)) [] (λw _=>hcl w) (yI [0,0,2] 2 (coV (⟨op,1,⟨zG p0,0,0,tl,[]⟩⟩:Co)) (YI 0) λw hO=>⟨by have q:=jX (c:=⟨op,1,⟨zG p0,0,0,tl,[]⟩⟩) ((hgu (x:=p0) rfl).trans (if_neg h3)) hpt (.inr h5);rw [q.1,q.2],hO.below⟩)
  ·exact yI [2] 2 (coV ⟨0,0,Ver.zero⟩) (YI 6) λw hO=>⟨by have q:=fit_no (c:=⟨op,1,⟨zG p0,0,0,tl,[]⟩⟩) ((hgu (x:=p0) rfl).trans (if_neg h3)) hpt h4 h5;rw [q.1,q.2],hO.below⟩
 ·refine q8 3 [] (vN 33 [] 2 cur1 (0*1+0) 9 (.string (mkS p0)) (hrd 0 _ (by simp) rfl) (z1 (v:= .tuple #[YI (zG p0),.bool (kH p0)]) [] (λw _=>hnu p0 (by simp) w) (vN 33 [0] 2 cur1 (1*1+0) 9 (.string (mkS p1)) (hrd 1 _ (by simp) rfl) (z1 (v:= .tuple #[YI (zG p1),.bool (kH p1)]) [] (λw _=>hnu p1 (by simp) w) (zD [0] λb12=>vN 51 [0] 3 cur1 (1*1+0) 9 (.string (mkS p1)) (hrd 1 _ (by simp) rfl) (xN 52 [] p1 [42] (λh3=> ?_) (λh3=> ?_)))))))
  ·obtain ⟨pt,hpt⟩:∃ x,Co.print ⟨9,1,⟨zG p0,zG p1,0,tl,[]⟩⟩=x:=⟨_,rfl⟩
   have hp:=λw hb=>hpt▸hpr ⟨9,1,⟨zG p0,zG p1,0,tl,[]⟩⟩ w (hsh _ _ _ _ _) hb
   refine z1 (v:= .string (mkS pt)) [0,0,0,1,1,1,0,0] (λw hO=>hp w hO.below) (g8 71 [] pt s (λh4=> ?_) (λh4=>gX 75 [] [94] s (g8 76 [] pt ([94]++s) (λh5=> ?_) (λh5=> ?_))))
   ·exact z1 (v:= .string (mkS tl)) [] (λw _=>hcl w) (yI [0,0,2] 2 (coV (⟨9,1,⟨zG p0,zG p1,0,tl,[]⟩⟩:Co)) (YI 0) λw hO=>⟨by have q:=jX (c:=⟨9,1,⟨zG p0,zG p1,0,tl,[]⟩⟩) ((hgu (x:=p1) rfl).trans (if_pos h3)) hpt (.inl h4);rw [q.1,q.2],hO.below⟩)
   ·exact z1 (v:= .string (mkS tl)) [] (λw _=>hcl w) (yI [0,0,2] 2 (coV (⟨9,1,⟨zG p0,zG p1,0,tl,[]⟩⟩:Co)) (YI 0) λw hO=>⟨by have q:=jX (c:=⟨9,1,⟨zG p0,zG p1,0,tl,[]⟩⟩) ((hgu (x:=p1) rfl).trans (if_pos h3)) hpt (.inr h5);rw [q.1,q.2],hO.below⟩)
   ·exact yI [2] 2 (coV ⟨0,0,Ver.zero⟩) (YI 6) λw hO=>⟨by have q:=fit_no (c:=⟨9,1,⟨zG p0,zG p1,0,tl,[]⟩⟩) ((hgu (x:=p1) rfl).trans (if_pos h3)) hpt h4 h5;rw [q.1,q.2],hO.below⟩
  obtain ⟨pt,hpt⟩:∃ x,Co.print ⟨op,2,⟨zG p0,zG p1,0,tl,[]⟩⟩=x:=⟨_,rfl⟩
  have hp:=λw hb=>hpt▸hpr ⟨op,2,⟨zG p0,zG p1,0,tl,[]⟩⟩ w (hsh _ _ _ _ _) hb
  refine z1 (v:= .string (mkS pt)) [1,1,1,0,0] (λw hO=>hp w hO.below) (g8 71 [] pt s (λh4=> ?_) (λh4=>gX 75 [] [94] s (g8 76 [] pt ([94]++s) (λh5=> ?_) (λh5=> ?_))))
  ·exact z1 (v:= .string (mkS tl)) [] (λw _=>hcl w) (yI [0,0,2] 2 (coV (⟨op,2,⟨zG p0,zG p1,0,tl,[]⟩⟩:Co)) (YI 0) λw hO=>⟨by have q:=jX (c:=⟨op,2,⟨zG p0,zG p1,0,tl,[]⟩⟩) ((hgu (x:=p1) rfl).trans (if_neg h3)) hpt (.inl h4);rw [q.1,q.2],hO.below⟩)
  ·exact z1 (v:= .string (mkS tl)) [] (λw _=>hcl w) (yI [0,0,2] 2 (coV (⟨op,2,⟨zG p0,zG p1,0,tl,[]⟩⟩:Co)) (YI 0) λw hO=>⟨by have q:=jX (c:=⟨op,2,⟨zG p0,zG p1,0,tl,[]⟩⟩) ((hgu (x:=p1) rfl).trans (if_neg h3)) hpt (.inr h5);rw [q.1,q.2],hO.below⟩)
  ·exact yI [2] 2 (coV ⟨0,0,Ver.zero⟩) (YI 6) λw hO=>⟨by have q:=fit_no (c:=⟨op,2,⟨zG p0,zG p1,0,tl,[]⟩⟩) ((hgu (x:=p1) rfl).trans (if_neg h3)) hpt h4 h5;rw [q.1,q.2],hO.below⟩
 ·refine q8 3 [] (vN 33 [] 2 cur1 (0*1+0) 9 (.string (mkS p0)) (hrd 0 _ (by simp) rfl) (z1 (v:= .tuple #[YI (zG p0),.bool (kH p0)]) [] (λw _=>hnu p0 (by simp) w) (vN 33 [0] 2 cur1 (1*1+0) 9 (.string (mkS p1)) (hrd 1 _ (by simp) rfl) (z1 (v:= .tuple #[YI (zG p1),.bool (kH p1)]) [] (λw _=>hnu p1 (by simp) w) (vN 33 [0] 2 cur1 (2*1+0) 9 (.string (mkS p2)) (hrd 2 _ (by simp) rfl) (z1 (v:= .tuple #[YI (zG p2),.bool (kH p2)]) [] (λw _=>hnu p2 (by simp) w) (zD [0] λb12=>vN 51 [0] 3 cur1 (2*1+0) 9 (.string (mkS p2)) (hrd 2 _ (by simp) rfl) (xN 52 [] p2 [42] (λh3=> ?_) (λh3=> ?_)))))))))
  ·obtain ⟨pt,hpt⟩:∃ x,Co.print ⟨9,2,⟨zG p0,zG p1,zG p2,tl,[]⟩⟩=x:=⟨_,rfl⟩
   have hp:=λw hb=>hpt▸hpr ⟨9,2,⟨zG p0,zG p1,zG p2,tl,[]⟩⟩ w (hsh _ _ _ _ _) hb
   refine z1 (v:= .string (mkS pt)) [0,0,0,1,1,1,0,0] (λw hO=>hp w hO.below) (g8 71 [] pt s (λh4=> ?_) (λh4=>gX 75 [] [94] s (g8 76 [] pt ([94]++s) (λh5=> ?_) (λh5=> ?_))))
   ·exact z1 (v:= .string (mkS tl)) [] (λw _=>hcl w) (yI [0,0,2] 2 (coV (⟨9,2,⟨zG p0,zG p1,zG p2,tl,[]⟩⟩:Co)) (YI 0) λw hO=>⟨by have q:=jX (c:=⟨9,2,⟨zG p0,zG p1,zG p2,tl,[]⟩⟩) ((hgu (x:=p2) rfl).trans (if_pos h3)) hpt (.inl h4);rw [q.1,q.2],hO.below⟩)
   ·exact z1 (v:= .string (mkS tl)) [] (λw _=>hcl w) (yI [0,0,2] 2 (coV (⟨9,2,⟨zG p0,zG p1,zG p2,tl,[]⟩⟩:Co)) (YI 0) λw hO=>⟨by have q:=jX (c:=⟨9,2,⟨zG p0,zG p1,zG p2,tl,[]⟩⟩) ((hgu (x:=p2) rfl).trans (if_pos h3)) hpt (.inr h5);rw [q.1,q.2],hO.below⟩)
   ·exact yI [2] 2 (coV ⟨0,0,Ver.zero⟩) (YI 6) λw hO=>⟨by have q:=fit_no (c:=⟨9,2,⟨zG p0,zG p1,zG p2,tl,[]⟩⟩) ((hgu (x:=p2) rfl).trans (if_pos h3)) hpt h4 h5;rw [q.1,q.2],hO.below⟩
  obtain ⟨pt,hpt⟩:∃ x,Co.print ⟨op,3,⟨zG p0,zG p1,zG p2,tl,[]⟩⟩=x:=⟨_,rfl⟩
  have hp:=λw hb=>hpt▸hpr ⟨op,3,⟨zG p0,zG p1,zG p2,tl,[]⟩⟩ w (hsh _ _ _ _ _) hb
  refine z1 (v:= .string (mkS pt)) [1,1,1,0,0] (λw hO=>hp w hO.below) (g8 71 [] pt s (λh4=> ?_) (λh4=>gX 75 [] [94] s (g8 76 [] pt ([94]++s) (λh5=> ?_) (λh5=> ?_))))
  ·exact z1 (v:= .string (mkS tl)) [] (λw _=>hcl w) (yI [0,0,2] 2 (coV (⟨op,3,⟨zG p0,zG p1,zG p2,tl,[]⟩⟩:Co)) (YI 0) λw hO=>⟨by have q:=jX (c:=⟨op,3,⟨zG p0,zG p1,zG p2,tl,[]⟩⟩) ((hgu (x:=p2) rfl).trans (if_neg h3)) hpt (.inl h4);rw [q.1,q.2],hO.below⟩)
  ·exact z1 (v:= .string (mkS tl)) [] (λw _=>hcl w) (yI [0,0,2] 2 (coV (⟨op,3,⟨zG p0,zG p1,zG p2,tl,[]⟩⟩:Co)) (YI 0) λw hO=>⟨by have q:=jX (c:=⟨op,3,⟨zG p0,zG p1,zG p2,tl,[]⟩⟩) ((hgu (x:=p2) rfl).trans (if_neg h3)) hpt (.inr h5);rw [q.1,q.2],hO.below⟩)
  ·exact yI [2] 2 (coV ⟨0,0,Ver.zero⟩) (YI 6) λw hO=>⟨by have q:=fit_no (c:=⟨op,3,⟨zG p0,zG p1,zG p2,tl,[]⟩⟩) ((hgu (x:=p2) rfl).trans (if_neg h3)) hpt h4 h5;rw [q.1,q.2],hO.below⟩
end
section
theorem textR_few {xs:List Al}(h1:xs.length<=6)(h:∀ x∈xs,fewA x.l=true):w7 (kR xs)=vE (kR xs):=by
 unfold w7
 cases hf:fewR (kR xs) with
 |true=>rfl
 |false=>
  cases xs with
  |nil=>rfl
  |cons x xs=>rw [few_all ⟨by simp,h1⟩ h] at hf;cases hf
theorem textR_bad {xs:List Al}{x:Al}(hm:x∈xs)(h:fewA x.l=false):w7 (kR xs)=[]:=textR_nil.2 (few_one hm h)
theorem textR_big {xs:List Al}(h:6<xs.length):w7 (kR xs)=[]:=textR_nil.2 (few_len Om)
theorem own_tx2 {M:List Nat}{W w:World}{x z:Blk}{A B:List Blk}(h:Own M W w ([x,z]++A++B)):Own M W w (z::A):=by
 exact (Own.sub [x] (by simpa using h:Own M W w (x::(z::A++B)))).sublist (by simp)
theorem own_tx3 {M:List Nat}{W w:World}{x y:Blk}{A B:List Blk}(h:Own M W w (x::y::(A++B))):Own M W w (x::y::(B++A)):=
 h.perm (List.Perm.cons x (List.Perm.cons y List.perm_append_comm))
theorem alts_le {l:List (List Co)}{i:Nat}(h:∀ a∈l.take i,fewA a=true):∀ t∈(l.take i).map kL,t.length<=1000000:=λt ht=>by
 obtain ⟨a,ha,rfl⟩:=List.mem_map.1 ht
 obtain ⟨h1,h2⟩:=fewA.facts (h a ha)
 unfold kL
 rw [joinB_len,List.length_map]
 have:∀ (l:List Co),(∀ c∈l,c.may=true)->sumN ((l.map Co.print).map (·.length))<=l.length*300:=by
  intro l hl
  induction l with
  |nil=>simp [sumN]
  |cons c l ih=>
   have h3:=co_len (hl c (List.mem_cons_self ..))
   have h4:=ih λd hd=>hl d (List.mem_cons_of_mem _ hd)
   rw [List.map_cons,List.map_cons,sumN,List.length_cons];omega
 have:=this a h2
 have h5:(a.length-1)*([44,32]:List UInt8).length<=5*2:=Nat.mul_le_mul Om (by simp)
 omega
theorem gtext_any (A:Option Addr)(cap:Nat)(xs:List Al)(W:World)(hv:RgIn W W.heap.size A xs)(ht:HasLib W):YC 256 #[.agg #[.slice A xs.length cap]] W (YR (.string (mkS (w7 (kR xs)))) W):=by
 have hn:=hv.n
 have hno:=λ(h:w7 (kR xs)=[]) (w:World) (hb:Below W.heap.size W w)=>show Ending.returned (.string (mkS []))= .returned (.string (mkS (w7 (kR xs))))/\Below W.heap.size W w from ⟨by rw [h],hb⟩
 refine z8 Tryz.func256 (zV [] λb1=>zE 12 [0] ((6:Int)<(xs.length:Int)) (λh1=>z6 [] (.string (mkS [])) λw hO=>hno (textR_big Om) w hO.below) (λh1=> ?_))
 refine y4 (α:=Nat×Option Addr×Nat×Nat×List Blk) (λ(i,U,n,cu,_)=>[(1,Zp b1 0),(3,.slice U n cu),(14,.slice A xs.length cap),(15,YI (xs.length:Int)),(16,YI (i:Int))]) (λ(_,_,_,_,ob)=>⟨b1, #[.slice A xs.length cap],234⟩::ob) (λ(i,U,n,cu,ob) m=>(i<=xs.length/\(∀ x∈xs.take i,fewA x.l=true)/\SlT (.slice U n cu) (((kR xs).take i).map kL) ob)/\m=xs.length-i) (0,none,0,0,[]) (xs.length-0) [0] ⟨⟨Nat.zero_le _,by simp,Sl.nil _ _⟩,rfl⟩ ?_
 rintro ⟨i,U,n,cu,ob⟩ m g kk ⟨⟨hil,hff,hT⟩,hmm⟩ nx hkk
 subst hkk
 by_cases h2:(i:Int)<(xs.length:Int)
 ·have hi:i<xs.length:=by omega
  obtain ⟨bp,off,hA,hlt,hcell⟩:=hv.top Om
  obtain ⟨x,hx⟩:∃ x,xs[i]=x:=⟨_,rfl⟩
  have hxm:x∈xs:=hx▸List.getElem_mem hi
  have hxn:=hv.m x hxm
  have hxr:(kR xs)[i]'(by rw [qF];exact hi)=x.l:=rgOf_get hi hx
  have hrow:∀ w,Below W.heap.size W w->(loadVar 265 ⟨bp,off+i*1,none⟩).run Tryz.prog w= .ok (.slice x.A x.l.length x.cap) w:=λw hb=>dO alC_len (λj u h=>(hb.cell (p:=⟨bp,off+j,none⟩) hlt).trans (hcell j u h)) i 0 hi Om _ (by rw [hx];kernel_rfl)
  refine zE 17 [] ((i:Int)<(xs.length:Int)) (λ_=>zU 18 [] hA xs.length cap i 1 hi (zP 19 [] 265 bp (off+i*1) (.slice x.A x.l.length x.cap) (λw hO=>hrow w hO.below) (zE 22 [] ((x.l.length:Int)=0) (λh3=>z6 [] (.string (mkS [])) λw hO=>hno (textR_bad hxm (fewA_len Om)) w hO.below) (λh3=>zE 26 [] ((6:Int)<(x.l.length:Int)) (λh4=>z6 [] (.string (mkS [])) λw hO=>hno (textR_bad hxm (fewA_len Om)) w hO.below) (λh4=> ?_))))) (λh=>absurd h2 h)
  refine y4 (α:=Nat×Option Addr×Nat×Nat×List Blk) (λ(k,V,np,cv,_)=>[(1,Zp b1 0),(3,.slice U n cu),(14,.slice A xs.length cap),(15,YI (xs.length:Int)),(16,YI (i:Int)),(6,.slice V np cv),(28,.slice x.A x.l.length x.cap),(29,YI (x.l.length:Int)),(30,YI (k:Int))]) (λ(_,_,_,_,oa)=>⟨b1, #[.slice A xs.length cap],234⟩::(oa++ob)) (λ(k,V,np,cv,oa) m=>(k<=x.l.length/\(∀ c∈x.l.take k,c.may=true)/\SlT (.slice V np cv) ((x.l.take k).map Co.print) oa)/\m=x.l.length-k) (0,none,0,0,[]) (x.l.length-0) [] ⟨⟨Nat.zero_le _,by simp,Sl.nil _ _⟩,rfl⟩ ?_
  rintro ⟨k,V,np,cv,oa⟩ m2 g2 kk2 ⟨⟨hkl,hcf,hP⟩,hmk⟩ nxk hkk2
  subst hkk2
  by_cases h5:(k:Int)<(x.l.length:Int)
  ·have hk:k<x.l.length:=by omega
   obtain ⟨bq,off2,hA2,hlt2,hcell2⟩:=hv.each x hxm Om
   obtain ⟨c,hc⟩:∃ c,x.l[k]=c:=⟨_,rfl⟩
   have hcm:c∈x.l:=hc▸List.getElem_mem hk
   have hcS:c.short:=hv.short x hxm c hcm
   have hco:∀ w,Below W.heap.size W w->(loadVar 166 ⟨bq,off2+k*7,none⟩).run Tryz.prog w= .ok (coV c) w:=λw hb=>dO coC_len (λj u h=>(hb.cell (p:=⟨bq,off2+j,none⟩) hlt2).trans (hcell2 j u h)) k 0 hk Om _ (by rw [hc];kernel_rfl)
   have hpl0:((x.l.take k).map Co.print).length<=6:=by rw [List.length_map,List.length_take];omega
   refine zE 31 [] ((k:Int)<(x.l.length:Int)) (λ_=>zU 32 [] hA2 x.l.length x.cap k 7 hk (zP 33 [] 166 bq (off2+k*7) (coV c) (λw hO=>hco w hO.below) (zD [] λb2=>z1 (k:=305) (args:= #[coV c]) (v:= .bool c.may) [0,0] (λw _=>cMay_any c w hcS) ?_))) (λh=>absurd h5 h)
   cases h6:c.may with
   |false=>exact z6 [] (.string (mkS [])) λw hO=>hno (textR_bad hxm (fewA_one hcm h6)) w hO.below
   |true=>
    refine z1 (k:=297) (args:= #[coV c]) (v:= .string (mkS c.print)) [0] (λw hO=>cPrint_any c w hcS (ht.tab.on hO.below)) (kG [] 1 9 #[.string (mkS c.print)] λb3=>vJ (m:=1) (cp:=1) [] [⟨b3, #[.string (mkS c.print)],9⟩,⟨b2,(coV c).cells,166⟩,⟨b1, #[.slice A xs.length cap],234⟩] oa ob 0 (⟨b3, #[.string (mkS c.print)],9⟩::⟨b2,(coV c).cells,166⟩::⟨b1, #[.slice A xs.length cap],234⟩::(oa++ob)) (λw hO=>hO.cast (by simp)) hP Om λw1 oa2 hu1=> ?_)
    have hP2:SlT w1 (((x.l.take k).map Co.print)++[c.print]) oa2:=SlT.add hu1
    obtain ⟨V2,cv2,rfl⟩:=hP2.form
    exact x_i 42 [] ((k+1:Nat):Int) (zH [] (⟨b1, #[.slice A xs.length cap],234⟩::(oa2++ob)) (λw hO=>hO.past 2 _) (nxk (k+1,V2,(((x.l.take k).map Co.print)++[c.print]).length,cv2,oa2) (x.l.length-(k+1)) [] Om ⟨⟨by omega,take_all hcf hk hc h6,by rw [List.take_succ_eq_append_getElem hk,hc,List.map_append];exact hP2⟩,rfl⟩ Kr Kr))
  ·have hal2:∀ c∈x.l,c.may=true:=by have q:=hcf;rwa [List.take_of_length_le Om] at q
   have hfx:fewA x.l=true:=fewA_all ⟨by omega,by omega⟩ hal2
   have hpl:=hP.caps
   rw [List.take_of_length_le (by omega:x.l.length<=k)] at hP hpl
   have hal0:(((kR xs).take i).map kL).length<=6:=by rw [List.length_map,List.length_take,qF];omega
   refine zE 31 [] ((k:Int)<(x.l.length:Int)) (λh=>absurd h h5) (λ_=>z1 (k:=306) (args:= #[.slice V np cv,.string (mkS [44,32])]) (v:= .string (mkS (kL x.l))) [] (λw hO=>by rw [hpl.1];exact sjoin_any [44,32] (x.l.map Co.print) V cv w (SlT.reads hP hpl.1.symm (hO.past 1 (oa++ob)) (λx hx=>List.mem_append_left _ hx)) (by decide) (by decide) (by rw [List.length_map];omega) (λt ht=>by obtain ⟨c,hc,rfl⟩:=List.mem_map.1 ht;exact Nat.le_trans (co_len (hal2 c hc)) (by decide)) hpl.2) (kG [] 1 9 #[.string (mkS (kL x.l))] λb2=>vJ (m:=1) (cp:=1) [] [⟨b2, #[.string (mkS (kL x.l))],9⟩,⟨b1, #[.slice A xs.length cap],234⟩] ob oa 0 (⟨b2, #[.string (mkS (kL x.l))],9⟩::⟨b1, #[.slice A xs.length cap],234⟩::(oa++ob)) (λw hO=>(own_tx3 hO).cast (by simp)) hT Om λw2 ob2 hu2=> ?_))
   have hT2:SlT w2 ((((kR xs).take i).map kL)++[kL x.l]) ob2:=SlT.add hu2
   obtain ⟨U2,cu2,rfl⟩:=hT2.form
   exact x_i 48 [] ((i+1:Nat):Int) (zH [] (⟨b1, #[.slice A xs.length cap],234⟩::ob2) (λw hO=>own_tx2 (hO.past 0 ([⟨b2, #[.string (mkS (kL x.l))],9⟩,⟨b1, #[.slice A xs.length cap],234⟩]++ob2++oa))) (nx (i+1,U2,((((kR xs).take i).map kL)++[kL x.l]).length,cu2,ob2) (xs.length-(i+1)) [] Om ⟨⟨by omega,take_all hff hi hx hfx,by rw [List.take_succ_eq_append_getElem (by rw [qF];exact hi),hxr,List.map_append];exact hT2⟩,rfl⟩ Kr Kr))
 ·have hall:∀ x∈xs,fewA x.l=true:=by have q:=hff;rwa [List.take_of_length_le Om] at q
  have htl:=hT.caps
  rw [show (kR xs).take i=kR xs from List.take_of_length_le (by rw [qF];omega)] at hT htl
  exact zE 17 [] ((i:Int)<(xs.length:Int)) (λh=>absurd h h2) (λ_=>z1 (k:=306) (args:= #[.slice U n cu,.string (mkS [32,124,124,32])]) (v:= .string (mkS (vE (kR xs)))) [] (λw hO=>by rw [htl.1];exact sjoin_any [32,124,124,32] ((kR xs).map kL) U cu w (SlT.reads hT htl.1.symm (hO.past 1 ob) (λx hx=>hx)) (by decide) (by decide) (by rw [List.length_map,qF];omega) (by have q:=alts_le (l:=kR xs) (i:=xs.length) (λa ha=>by obtain ⟨x,hx,rfl⟩:=List.mem_map.1 (List.mem_of_mem_take ha);exact hall x hx);rwa [List.take_of_length_le (by rw [qF];exact Nat.le_refl _)] at q) htl.2) (z6 [] (.string (mkS (vE (kR xs)))) λw hO=>⟨by rw [textR_few Om hall],hO.below⟩))
theorem gPrint_any (A:Option Addr)(cap:Nat)(xs:List Al)(W:World)(hv:RgIn W W.heap.size A xs)(ht:HasLib W):YC 215 #[.agg #[.slice A xs.length cap]] W (YR (.string (mkS (f9 (kR xs)))) W):=by
 obtain ⟨t,et⟩:∃ t,w7 (kR xs)=t:=⟨_,rfl⟩
 exact z8 Tryz.func215 (zV [] λb1=>z1 (k:=256) (args:= #[.agg #[.slice A xs.length cap]]) (v:= .string (mkS t)) [0] (λw hO=>ret_v (by rw [et]) (gtext_any A cap xs w (hv.on hO.below hO.below.size) (ht.on hO.below))) (zE 8 [] ((96:Int)<(t.length:Int)) (λh1=>z6 [] (.string (mkS [])) λw hO=>⟨by rw [print_text,et,if_pos Om],hO.below⟩) (λh1=>z6 [] (.string (mkS t)) λw hO=>⟨by rw [print_text,et,if_neg Om],hO.below⟩)))
end
section
end
section
structure AlI (s:List UInt8)(i f:Nat)(u:Value)(P:List (List UInt8))(ob:List Blk):Prop where
 fi:f<=i+1
 il:i<=s.length
 fl:f<=s.length
 sl:SlT u P ob
 eq:P++xM ((s.drop f).take (i-f)) (s.drop (max i f))=xM [] s
 pl:2*P.length<=f
end
section
end
section
end
section
def turnL (l:List Sp)(k:Nat):List Sp:=((l.take k).map turnS).filter (·.may)
end
section
section
variable {M:List Nat}{W w:World}
end
theorem fine_get {s:List UInt8}(h:bF s=0):FineR ((kW s).getD []):=by
 cases hp:kW s with
 |none=>rcases err_none hp with e|e<;>rw [e] at h<;>exact absurd h (by decide)
 |some r=>exact fine_few (rgMay.facts (err_some hp).2.1).1
end
section
theorem fewR_text {r:List (List Co)}(h:r≠[]){t:List UInt8}(ht:w7 r=t):(t=[]->fewR r=false)/\(¬ t=[]->fewR r=true/\vE r=t):=by
 refine ⟨λq=>textR_nil.1 (ht.trans q),λq=> ?_⟩
 cases hf:fewR r with
 |false=>exact absurd (ht.symm.trans (textR_nil.2 hf)) q
 |true=>refine ⟨rfl, ?_⟩;unfold w7 at ht;rw [hf] at ht;exact ht
theorem all_ne {s:List UInt8}{r:List (List Co)}(h:gO s=some r):r≠[]:=λe=>by
 have h2:=dR h
 rw [e] at h2
 exact altsL_ne s [] (List.eq_nil_of_length_eq_zero h2.symm)
theorem gParse_any (s:List UInt8)(W:World)(hs:s.length<=1000000)(ht:HasLib W):YC 214 #[.string (mkS s)] W λe w'=>∃ v' ob',e= .returned (.tuple #[v',YI (bF s)])/\RgO v' ((kW s).getD []) ob'/\Own [] W w' ob':=by
 have hsz:=y0 s
 refine Z2 (n:=62) Tryz.func214 rfl (ZO (Za (.agg #[.slice none 0 0]) (λb1=>Zv (YI 0) (ZN (y7 (ZO (Zv (.string (mkS s)) (Zv (YI ((mkS s).size)) ?_))))))))
 by_cases h1:(96:Int)<(mkS s).size
 ·refine Zg h1 (ZY (ZO (Zv (.agg #[.slice none 0 0]) (Zs 0 ⟨b1, #[.slice none 0 0],234⟩ (off:=0) (.agg #[.slice none 0 0]) (Zv (YI 3) (ZN (xB ?_)))))))
  exact zT (ZD 0 ⟨b1, #[.slice none 0 0],234⟩ (off:=0) (.agg #[.slice none 0 0]) (YI 3) Tryz.results214 (λw hO=>⟨.agg #[.slice none 0 0],[],by rw [(errG_long (s:=s) Om).1],by rw [(errG_long (s:=s) Om).2];exact RgO.nil,own_nil hO⟩))
 have hs6:s.length<=96:=by omega
 refine Zh h1 (ZX (ZB (ZO (Za (.agg #[.slice none 0 0]) (λb2=>ZN (y7 ?_))))))
 refine ZO (Zv (.string (mkS s)) (Zr (k:=239) (args:= #[.string (mkS s),.string ⟨#[124,124]⟩]) (λv' L'=>∃ ob',L'=ob'++([⟨b2, #[.slice none 0 0],234⟩,⟨b1, #[.slice none 0 0],234⟩])/\SlT v' (xM [] s) ob') (λw hO=>(split_bars s w hs (ht.on hO.below)).mono λe w' ⟨v',ob',k1,k2,k3⟩=>⟨v',_,k1,⟨ob',rfl,k2⟩,Own.joinN hO k3⟩) (λlv L2 hv2=> ?_)))
 obtain ⟨ol,rfl,hol⟩:=hv2
 obtain ⟨l,hll⟩:∃ l,l=xM [] s:=⟨_,rfl⟩
 rw [←hll] at hol
 have hln:l.length<=97:=by rw [hll];have:=pQ s [];omega
 have hlm:∀ x∈l,x.length<=96:=λx hx=>by have:=altsL_le s [] x (hll▸hx);simp at this;omega
 obtain ⟨g,cur,lcap,rfl,rfl,hcur⟩:=SlT.blk hol (by rw [hll];exact altsL_ne s [])
 refine Zv (YI (l.length:Int)) (Zv (YI 0) (ZN (vQ (ok_cast (L':=⟨g,cur,9⟩::⟨b2, #[.slice none 0 0],234⟩::⟨b1, #[.slice none 0 0],234⟩::([]++[])) rfl (tE (λL f m=>∃ (i:Nat) (A:Option Addr) (cap:Nat) (xs:List Al) (o1:List Blk) (o2:List Blk) (j:Nat->Value),(i<=l.length/\RgA (.slice A xs.length cap) xs o1 o2/\wG parseA (l.take i)=some (kR xs))/\L=⟨g,cur,9⟩::⟨b2, #[.slice A xs.length cap],234⟩::⟨b1, #[.slice none 0 0],234⟩::(o1++o2)/\f=p5 j [(2,Zp b1 0),(4,Zp b2 0),(18,.slice (some ⟨g,0,none⟩) l.length lcap),(19,YI (l.length:Int)),(20,YI (i:Int))]/\m=l.length-i) (l.length-0) ⟨0,none,0,[],[],[],_,⟨Nat.zero_le _,RgA.nil,rfl⟩,rfl,ZU,rfl⟩ ?_)))))
 rintro L f m ⟨i,A,cap,xs,o1,o2,j,hrel,rfl,rfl,rfl⟩
 have hrel0:=hrel;have hra:=hrel.2.1;have hil:=hrel.1
 refine y7 (yD ?_)
 by_cases h2:(i:Int)<(l.length:Int)
 ·have hi:i<l.length:=by omega
  obtain ⟨y,hy⟩:∃ y,l[i]=y:=⟨_,rfl⟩
  have hyl:y.length<=96:=hlm y (hy▸List.getElem_mem hi)
  refine Zg h2 (ZN (y7 (Zt (ZB (y7 (vQ (ZO (gB (Zp g (i*1)) Kr (ZV (b:=g) (off:=0) (n:=l.length) (c:=lcap) (k:= .i64) (j:=(i:Int)) (e:=9) (sz:=1)) ?_))))))))
  refine s_load 0 ⟨g,cur,9⟩ (off:=i*1) (.string (mkS y)) Kr rfl Kr Kr (read_part zN hcur i 0 Om Om _ (by rw [hy];kernel_rfl)) (Zv (.string (mkS y)) (ZR (Zv (.slice none 0 0) (ZN (y7 (y7 (yD ?_)))))))
  refine Zv (.string (mkS y)) (Zr (k:=239) (args:= #[.string (mkS y),.string ⟨#[44]⟩]) (λv' L'=>∃ ob',L'=ob'++(⟨g,cur,9⟩::(⟨b2, #[.slice A xs.length cap],234⟩::(⟨b1, #[.slice none 0 0],234⟩::((o1++o2)))))/\SlT v' (zF 44 [] y) ob') (λw hO=>(split_comma y w Om (ht.on hO.below)).mono λe w' ⟨v',ob',k1,k2,k3⟩=>⟨v',_,k1,⟨ob',rfl,k2⟩,Own.joinN hO k3⟩) (λmv L2 hv2=> ?_))
  obtain ⟨om,rfl,hom⟩:=hv2
  obtain ⟨m',hml⟩:∃ m',m'=zF 44 [] y:=⟨_,rfl⟩
  rw [←hml] at hom
  have hmn:m'.length<=97:=by rw [hml];exact (pieces_len hyl).1
  have hmm:∀ x∈m',x.length<=96:=λx hx=>(pieces_len hyl).2 x (hml▸hx)
  obtain ⟨g2,cur2,mcap,rfl,rfl,hcur2⟩:=SlT.blk hom (by rw [hml];exact mR 44 y [])
  refine Zv (YI (m'.length:Int)) (Zv (YI 0) (ZN (vQ (ok_cast (L':=⟨g2,cur2,9⟩::⟨g,cur,9⟩::⟨b2, #[.slice A xs.length cap],234⟩::⟨b1, #[.slice none 0 0],234⟩::([]++(o1++o2))) rfl (tE (λL f m=>∃ (k:Nat) (B:Option Addr) (cb:Nat) (a:List Co) (oa:List Blk) (j:Nat->Value),(k<=m'.length/\SlCo (.slice B a.length cb) a oa/\wG parseP (m'.take k)=some a)/\L=⟨g2,cur2,9⟩::⟨g,cur,9⟩::⟨b2, #[.slice A xs.length cap],234⟩::⟨b1, #[.slice none 0 0],234⟩::(oa++(o1++o2))/\f=p5 j [(2,Zp b1 0),(4,Zp b2 0),(18,.slice (some ⟨g,0,none⟩) l.length lcap),(19,YI (l.length:Int)),(20,YI (i:Int)),(7,.slice B a.length cb),(25,.slice (some ⟨g2,0,none⟩) m'.length mcap),(26,YI (m'.length:Int)),(27,YI (k:Int))]/\m=m'.length-k) (m'.length-0) ⟨0,none,0,[],[],_,⟨Nat.zero_le _,Sl.nil _ _,rfl⟩,rfl,ZU,rfl⟩ ?_)))))
  rintro L f m ⟨k,B,cb,a,oa,j,hrel,rfl,rfl,rfl⟩
  have hkl:=hrel.1
  refine y7 (yD ?_)
  by_cases h3:(k:Int)<(m'.length:Int)
  ·have hk:k<m'.length:=by omega
   obtain ⟨z,hz⟩:∃ z,m'[k]=z:=⟨_,rfl⟩
   have hzl:z.length<=96:=hmm z (hz▸List.getElem_mem hk)
   have hbz:=bareL_len z
   refine Zg h3 (ZN (y7 (Zt (ZB (y7 (vQ (ZO (gB (Zp g2 (k*1)) Kr (ZV (b:=g2) (off:=0) (n:=m'.length) (c:=mcap) (k:= .i64) (j:=(k:Int)) (e:=9) (sz:=1)) ?_))))))))
   refine s_load 0 ⟨g2,cur2,9⟩ (off:=k*1) (.string (mkS z)) Kr rfl Kr Kr (read_part zN hcur2 k 0 Om Om _ (by rw [hz];kernel_rfl)) (Zv (.string (mkS z)) (ZR (Zv (.string (mkS z)) (Zc (k:=255) (args:= #[.string (mkS z),.string ⟨#[32]⟩]) (.string (mkS (yO z))) (λw _=>trim_any z w Om) (Zc (k:=254) (args:= #[.string (mkS (yO z))]) (.tuple #[coV (pcV (yO z)),YI (pcE (yO z))]) (λw hO=>cParse_any (yO z) w Om (ht.tab.on hO.below)) (Zv (.tuple #[coV (pcV (yO z)),YI (pcE (yO z))]) (Zv (coV (pcV (yO z))) (Zv (YI (pcE (yO z))) ?_))))))))
   refine Za (.agg #[YI 0,YI 0,YI 0,YI 0,YI 0,.string ⟨#[]⟩,.string ⟨#[]⟩]) (λb3=>Zs 0 ⟨b3, #[YI 0,YI 0,YI 0,YI 0,YI 0,.string ⟨#[]⟩,.string ⟨#[]⟩],166⟩ (off:=0) (coV (pcV (yO z))) (Zv (YI (pcE (yO z))) (ZN (y7 (ZO (Zv (YI (pcE (yO z))) ?_))))))
   by_cases h4:((pcE (yO z)):Int)=0
   ·refine Zn (p:=((pcE (yO z)):Int)=0) true (decide_eq_true (h4)) (ZX (ZB (yD (Zv (.slice B a.length cb) (Zl 0 ⟨b3,(coV (pcV (yO z))).cells,166⟩ (off:=0) (coV (pcV (yO z))) (s_lit 166 #[YI ((pcV (yO z)).op),YI ((pcV (yO z)).parts),YI ((pcV (yO z)).v.maj),YI ((pcV (yO z)).v.min),YI ((pcV (yO z)).v.pat),.string (mkS (pcV (yO z)).v.pre),.string (mkS (pcV (yO z)).v.build)] Kr rfl (λ_=>Kr) (λb4=> ?_)))))))
    obtain ⟨i0,z0,e1,e2,e3,e4,e5⟩:=co_info
    have hal:a.length<=97:=by have q:=dR hrel.2.2;rw [List.length_take] at q;omega
    refine jV (L':=[⟨b4, #[YI ((pcV (yO z)).op),YI ((pcV (yO z)).parts),YI ((pcV (yO z)).v.maj),YI ((pcV (yO z)).v.min),YI ((pcV (yO z)).v.pat),.string (mkS (pcV (yO z)).v.pre),.string (mkS (pcV (yO z)).v.build)],166⟩,⟨b3,(coV (pcV (yO z))).cells,166⟩,⟨g2,cur2,9⟩,⟨g,cur,9⟩,⟨b2, #[.slice A xs.length cap],234⟩,⟨b1, #[.slice none 0 0],234⟩]++oa++(o1++o2)) (by rw [List.append_assoc];kernel_rfl) (m6 (sz:=7) Kr rfl Tryz.underlying265 e1 e2 e3 e4 Kr hrel.2.1 (a:=⟨b4,0,none⟩) (m:=1) (c:=1) (news:=coC (pcV (yO z))) Kr rfl (λw hO j u hj=> ?_) (co_cells _) (by unfold maxLen;omega) (by rw [e5];omega) (λu2 ob2 hu2=> ?_))
    ·rw [yE,cell_of_row w b4 (0+j) (coC (pcV (yO z))).toArray 166 _ (hO.held ⟨b4,(coC (pcV (yO z))).toArray,166⟩ (List.mem_append_left _ (List.mem_append_left _ (List.mem_cons_self ..))))];simpa using hj
    have hu3:SlCo u2 (a++[(pcV (yO z))]) ob2:=hu2.to (by simp) (by simp)
    obtain ⟨B2,cb2,rfl⟩:=Sl.form hu3
    exact vZ (L':=⟨g2,cur2,9⟩::(⟨g,cur,9⟩::(⟨b2, #[.slice A xs.length cap],234⟩::(⟨b1, #[.slice none 0 0],234⟩::(ob2++((o1++o2))))))) (λw hO=>own_two (by simpa using hO)) (Zv (.slice B2 ((a++[(pcV (yO z))]).length) cb2) (bL (dL (kK (yD (Zu (k:= .i64) (((k+1:Nat):Int)) (IntWalk.i64_in _ Om) (Zv (YI ((k+1:Nat):Int)) (bL (dJ (m':=m'.length-(k+1)) Om ⟨k+1,B2,cb2,_,ob2,_,⟨by omega,hu3,allO_next hk hz hrel.2.2 (pc_ok (by assumption))⟩,rfl,ZU,rfl⟩)))))))))
   refine Zn (p:=((pcE (yO z)):Int)=0) false (decide_eq_false (h4)) (ZY (ZO (Zv (.agg #[.slice none 0 0]) (Zs 4 ⟨b1, #[.slice none 0 0],234⟩ (off:=0) (.agg #[.slice none 0 0]) (Zv (YI 6) (ZN (xB ?_)))))))
   refine zT (kO (zT (jD (kO (zT (kO (zT (jD (kO (zT (ZD 4 ⟨b1, #[.slice none 0 0],234⟩ (off:=0) (.agg #[.slice none 0 0]) (YI 6) Tryz.results214 ?_)))))))))))
   exact λw hO=>⟨.agg #[.slice none 0 0],[],by rw [(errG_none hs6 (all_fails hll hi hy hml hk hz (by assumption))).1],by rw [(errG_none hs6 (all_fails hll hi hy hml hk hz (by assumption))).2];exact RgO.nil,own_nil hO⟩
  refine Zh h3 (ZN (y7 (Zf (tF (gM (qL (qM (kK (yD (Zv (Zp b2 0) ?_))))))))))
  refine Zl 2 ⟨b2, #[.slice A xs.length cap],234⟩ (off:=0) (.slice A xs.length cap) (Zv (.slice B a.length cb) (s_lit 265 #[.slice B a.length cb] Kr rfl (λ_=>Kr) (λb3=> ?_)))
  obtain ⟨i0,z0,e1,e2,e3,e4,e5⟩:=al_info
  have hal:xs.length<=97:=by have q:=dR hrel0.2.2;rw [List.length_take,qF] at q;omega
  refine jV (L':=([⟨b3, #[.slice B a.length cb],265⟩,⟨g2,cur2,9⟩,⟨g,cur,9⟩,⟨b2, #[.slice A xs.length cap],234⟩,⟨b1, #[.slice none 0 0],234⟩]++oa)++o1++o2) (by rw [List.append_assoc,List.append_assoc];kernel_rfl) (m6 (sz:=1) Kr rfl Tryz.underlying232 e1 e2 e3 e4 Kr hra.top (a:=⟨b3,0,none⟩) (m:=1) (c:=1) (news:=alC (Al.mk B a cb)) Kr rfl (λw hO j u hj=> ?_) (al_cells _) (by unfold maxLen;omega) (by rw [e5];omega) (λu2 ob2 hu2=> ?_))
  ·rw [yE,cell_of_row w b3 (0+j) (alC (Al.mk B a cb)).toArray 265 _ (hO.held ⟨b3,(alC (Al.mk B a cb)).toArray,265⟩ (by simp [alC]))];simpa using hj
  have hra2:=hra.add hu2 hrel.2.1
  obtain ⟨A2,cap2,rfl⟩:=Sl.form hra2.top
  exact vZ (L':=⟨g,cur,9⟩::(⟨b2, #[.slice A xs.length cap],234⟩::(⟨b1, #[.slice none 0 0],234⟩::((ob2++(oa++o2)))))) (λw hO=>own_turn hO) (Zv (Zp b2 0) (Zs 1 ⟨b2, #[.slice A xs.length cap],234⟩ (off:=0) (.slice A2 ((xs++[(Al.mk B a cb)]).length) cap2) (bL (dL (kK (yD (Zu (k:= .i64) (((i+1:Nat):Int)) (IntWalk.i64_in _ Om) (Zv (YI ((i+1:Nat):Int)) (bL (dJ (m':=l.length-(i+1)) Om ⟨i+1,A2,cap2,_,ob2,(oa++o2),_,⟨by omega,hra2,by rw [show kR (xs++[Al.mk B a cb])=kR xs++[a] from by simp [kR]];exact allO_next hi hy hrel0.2.2 (by have q:=hrel.2.2;rw [List.take_of_length_le Om,hml] at q;exact q)⟩,rfl,ZU,rfl⟩))))))))))
 have hall:gO s=some (kR xs):=by have q:=hrel0.2.2;rw [List.take_of_length_le Om,hll] at q;exact q
 have hfine:FineR (kR xs):=fine_part hs6 (λx hx=>hll▸hx) hln (by rw [hll];exact hall)
 obtain ⟨t,et⟩:∃ t,w7 (kR xs)=t:=⟨_,rfl⟩
 obtain ⟨htn,hty⟩:=fewR_text (all_ne hall) et
 have htz:=y0 t
 refine Zh h2 (ZN (y7 (Zf (tF (gM (qL (qM (kK (y7 (yD ?_))))))))))
 refine Zl 1 ⟨b2, #[.slice A xs.length cap],234⟩ (off:=0) (.agg #[.slice A xs.length cap]) (Zc (k:=256) (args:= #[.agg #[.slice A xs.length cap]]) (.string (mkS t)) (λw hO=>ret_v (by rw [et]) (gtext_any A cap xs w (hra.inn rfl hO (λx hx=>by simp [hx]) (λx hx=>by simp [hx]) hfine) (ht.on hO.below))) (Zv (.string (mkS t)) (ZN (y7 (ZO (Zv (.string (mkS t)) ?_))))))
 by_cases h5:(t:List UInt8)=[]
 ·refine gB Z4 Kr (qE (a:=t) (b:=([])) rfl Kr Kr (decide_eq_true (h5))) (ZY (ZO (Zv (.agg #[.slice none 0 0]) (Zs 2 ⟨b1, #[.slice none 0 0],234⟩ (off:=0) (.agg #[.slice none 0 0]) (Zv (YI 6) (ZN (xB ?_)))))))
  exact zT (ZD 2 ⟨b1, #[.slice none 0 0],234⟩ (off:=0) (.agg #[.slice none 0 0]) (YI 6) Tryz.results214 (λw hO=>⟨.agg #[.slice none 0 0],[],by rw [(errG_few hs6 hall (htn (by assumption))).1],by rw [(errG_few hs6 hall (htn (by assumption))).2];exact RgO.nil,own_nil hO⟩))
 obtain ⟨hfw,htx⟩:=hty h5
 refine gB Z5 Kr (qE (a:=t) (b:=([])) rfl Kr Kr (decide_eq_false (h5))) (ZX (ZB (y7 (ZO (Zv (.string (mkS t)) (Zv (YI ((mkS t).size)) ?_))))))
 by_cases h6:(96:Int)<(mkS t).size
 ·refine Zg h6 (ZY (ZO (Zv (.agg #[.slice none 0 0]) (Zs 2 ⟨b1, #[.slice none 0 0],234⟩ (off:=0) (.agg #[.slice none 0 0]) (Zv (YI 3) (ZN (xB ?_)))))))
  exact zT (ZD 2 ⟨b1, #[.slice none 0 0],234⟩ (off:=0) (.agg #[.slice none 0 0]) (YI 3) Tryz.results214 (λw hO=>⟨.agg #[.slice none 0 0],[],by rw [(errG_big hs6 hall hfw (by rw [htx];omega)).1],by rw [(errG_big hs6 hall hfw (by rw [htx];omega)).2];exact RgO.nil,own_nil hO⟩))
 refine Zh h6 (ZX (ZB (ZO (Zl 1 ⟨b2, #[.slice A xs.length cap],234⟩ (off:=0) (.agg #[.slice A xs.length cap]) (Zs 2 ⟨b1, #[.slice none 0 0],234⟩ (off:=0) (.agg #[.slice A xs.length cap]) (Zv (YI 0) (bL ?_)))))))
 exact kK (xB (ZD 2 ⟨b1, #[.slice A xs.length cap],234⟩ (off:=0) (.agg #[.slice A xs.length cap]) (YI 0) Tryz.results214 (λw hO=>⟨.agg #[.slice A xs.length cap],o1++o2,by rw [(errG_fine hs6 hall hfw (by rw [htx];omega)).1],by rw [(errG_fine hs6 hall hfw (by rw [htx];omega)).2];exact ⟨xs,_,o1,o2,rfl,rfl,rfl,hra⟩,Own.sub [_,_,_] hO⟩)))
end
section
set_option linter.unnecessarySimpa false
def rt (st:List (Nat×Tr)):List Int:=(st.map λp=>((p.1:Nat):Int)).reverse
def treeB (l:List Nd):Bool:=match q6 0 [] l with|some s=>decide (l=[])||decide (s.length=1)|none=>false
theorem mU {i:Nat}{st s:List (Nat×Tr)}{n:Nd}{r:List Nd}(h:stp i st n=some s):q6 i st (n::r)=q6 (i+1) s r:=by rw [q6,h]
theorem x7 {i:Nat}{st:List (Nat×Tr)}{n:Nd}{r:List Nd}(h:stp i st n=none):q6 i st (n::r)=none:=by rw [q6,h]
theorem stp_leaf {i:Nat}{st:List (Nat×Tr)}{n:Nd}(h:gF n=true):stp i st n=some ((i,.is n.key.toNat n.text)::st):=by unfold stp;rw [if_pos h]
theorem stp_not {i:Nat}{p:Nat×Tr}{st:List (Nat×Tr)}{n:Nd}(h:gF n=false)(h1:jQ (p::st) n=true):stp i (p::st) n=some ((i,.no p.2)::st):=by unfold stp;rw [if_neg (by rw [h];simp),if_pos h1]
theorem stp_bin {i:Nat}{p q:Nat×Tr}{st:List (Nat×Tr)}{n:Nd}(h:gF n=false)(h1:jQ (p::q::st) n=false)(h2:isBin (p::q::st) n=true):stp i (p::q::st) n=some ((i,if n.op=3 then .both q.2 p.2 else .one q.2 p.2)::st):=by unfold stp;rw [if_neg (by rw [h];simp),if_neg (by rw [h1];simp),if_pos h2]
theorem p8 {i:Nat}{st:List (Nat×Tr)}{n:Nd}(h:gF n=false)(h1:jQ st n=false)(h2:isBin st n=false):stp i st n=none:=by unfold stp;rw [if_neg (by rw [h];simp),if_neg (by rw [h1];simp),if_neg (by rw [h2];simp)]
theorem op_not {st:List (Nat×Tr)}{n:Nd}(h:¬ n.op=2):jQ st n=false:=by cases st with|nil=>rfl|cons p r=>unfold jQ;rw [decide_eq_false h];rfl
theorem op_bin {st:List (Nat×Tr)}{n:Nd}(h:¬ n.op=3)(h2:¬ n.op=4):isBin st n=false:=by
 match st with
 | []=>rfl
 | [p]=>rfl
 |p::q::r=>unfold isBin;rw [decide_eq_false h,decide_eq_false h2];rfl
end
section
set_option linter.unnecessarySimpa false
def Tr.opc:Tr->Int
 | .is _ _=>1
 | .no _=>2
 | .both _ _=>3
 | .one _ _=>4
theorem mN:∀ t:Tr,t.ok=true->t.w<=20*t.sz
 | .is k v,h=>by
  unfold Tr.ok at h
  simp only [Bool.and_eq_true,decide_eq_true_eq] at h
  have hv:=h.2
  unfold wdL at hv
  simp only [Bool.and_eq_true,decide_eq_true_eq] at hv
  rw [w_is]
  have:(x1 k).length<=4:=by unfold x1;split<;>(try split)<;>simp
  show _<=20;omega
 | .no x,h=>by have:=mN x h;have:=(w_no x).1;have:=x.w_le;show _<=20*(x.sz+1);omega
 | .both x y,h=>by
  unfold Tr.ok at h;rw [Bool.and_eq_true] at h
  have:=mN x h.1;have:=mN y h.2;have:=x.w_le;have:=y.w_le
  rw [w_both];show _<=20*(x.sz+y.sz+1);omega
 | .one x y,h=>by
  unfold Tr.ok at h;rw [Bool.and_eq_true] at h
  have:=mN x h.1;have:=mN y h.2;have:=x.w_le;have:=y.w_le
  rw [w_one];show _<=20*(x.sz+y.sz+1);omega
def TextAt (A:Option Addr)(cap:Nat)(l:List Nd)(a:Nat)(t:Tr):Prop:=∀ W:World,Reads nC W W.heap.size A l->YC 318 #[.slice A l.length cap,YI (a:Int)] W (YR (.string (mkS t.text)) W)
theorem fF {α:Type}{l:List α}{r:Nat}{x:α}(h:l[r]?=some x):∃ hr:r<l.length,l[r]=x:=List.getElem?_eq_some_iff.1 h
def fQ (l:List Nd)(o:Nat)(t:Tr):Prop:=∀ i x,(t.enc o)[i]?=some x->l[o+i]?=some x
theorem jJ {l:List Nd}{o:Nat}{p q:List Nd}(h:∀ i x,(p++q)[i]?=some x->l[o+i]?=some x):∀ i x,p[i]?=some x->l[o+i]?=some x:=λi x hi=>h i x (by rw [List.getElem?_append_left (List.getElem?_eq_some_iff.1 hi).1];exact hi)
theorem vP {l:List Nd}{o k:Nat}{p q:List Nd}(hk:p.length=k)(h:∀ i x,(p++q)[i]?=some x->l[o+i]?=some x):∀ i x,q[i]?=some x->l[o+k+i]?=some x:=λi x hi=>by
 have:=h (k+i) x (by rw [List.getElem?_append_right Om,hk,Nat.add_sub_cancel_left];exact hi)
 rw [←Nat.add_assoc] at this;exact this
theorem root_op:∀ (t:Tr) (o:Nat),∃ n,(t.enc o)[t.sz-1]?=some n/\n.op=t.opc
 | .is k v,o=>⟨_,rfl,rfl⟩
 | .no x,o=>⟨⟨2,((o+x.sz-1:Nat):Int),0,0,[]⟩,by rw [Tr.enc,List.getElem?_append_right (by rw [Tr.enc_len];show x.sz<=x.sz+1-1;omega),Tr.enc_len];show [_][x.sz+1-1-x.sz]?=_;rw [show x.sz+1-1-x.sz=0 by omega];rfl,rfl⟩
 | .both x y,o=>⟨⟨3,((o+x.sz-1:Nat):Int),((o+x.sz+y.sz-1:Nat):Int),0,[]⟩,by rw [Tr.enc,List.getElem?_append_right (by rw [List.length_append,Tr.enc_len,Tr.enc_len];show x.sz+y.sz<=x.sz+y.sz+1-1;omega),List.length_append,Tr.enc_len,Tr.enc_len];show [_][x.sz+y.sz+1-1-(x.sz+y.sz)]?=_;rw [show x.sz+y.sz+1-1-(x.sz+y.sz)=0 by omega];rfl,rfl⟩
 | .one x y,o=>⟨⟨4,((o+x.sz-1:Nat):Int),((o+x.sz+y.sz-1:Nat):Int),0,[]⟩,by rw [Tr.enc,List.getElem?_append_right (by rw [List.length_append,Tr.enc_len,Tr.enc_len];show x.sz+y.sz<=x.sz+y.sz+1-1;omega),List.length_append,Tr.enc_len,Tr.enc_len];show [_][x.sz+y.sz+1-1-(x.sz+y.sz)]?=_;rw [show x.sz+y.sz+1-1-(x.sz+y.sz)=0 by omega];rfl,rfl⟩
theorem jI {l:List Nd}{o:Nat}{t:Tr}(h:fQ l o t):∃ n,l[o+t.sz-1]?=some n/\n.op=t.opc:=by
 obtain ⟨n,h1,h2⟩:=root_op t o
 have hz:=t.sz_pos
 have:=h _ _ h1
 rw [←Nat.add_sub_assoc Om] at this
 exact ⟨n,this,h2⟩
theorem text_short {t:Tr}(h:t.ok=true)(hs:t.sz<=1000):t.text.length<=100000:=by have:=mN t h;have:=t.text_w;omega
theorem word_short {v:List UInt8}(h:wdL v=true):v.length<=12:=by unfold wdL at h;simp only [Bool.and_eq_true,decide_eq_true_eq] at h;omega
theorem stands_self (t:Tr):fQ (t.enc 0) 0 t:=λi x h=>by rw [Nat.zero_add];exact h
def whole10 (l:List Nd):List UInt8:=match qC l with|some t=>t.text|none=>[]
end
section
set_option linter.unnecessarySimpa false
def valN (e:Pf)(n:Nd)(vs:List Int):Int:=
 if n.op=1 then (if e n.key.toNat=[] then 1 else if e n.key.toNat=n.text then 2 else 0)
 else if n.op=2 then 2-vs.getD n.a.toNat 0
 else if n.op=3 then min (vs.getD n.a.toNat 0) (vs.getD n.b.toNat 0) else max (vs.getD n.a.toNat 0) (vs.getD n.b.toNat 0)
structure NdOk (n:Nd)(m:Nat):Prop where
 is:n.op=1->0<=n.key/\n.key<3
 a:n.op≠1->0<=n.a/\n.a<m
 b:n.op≠1->n.op≠2->0<=n.b/\n.b<m
end
section
set_option linter.unnecessarySimpa false
theorem Own.lentR {ob R:List Blk}{M:List Nat}{W w:World}(h:Own M W w (R++ob)):Own (ob.map Blk.b) w w ob:=Own.lend (h.sublist (List.sublist_append_right _ _))
end
section
set_option linter.unnecessarySimpa false
def VStands (e:Pf)(vs:List Int)(o:Nat)(t:Tr):Prop:=∀ i z,(vlT e t)[i]?=some z->vs[o+i]?=some z
theorem nd_dec (u v:Nd):decide (u=v)=(decide (u.op=v.op) && (decide (u.a=v.a) && (decide (u.b=v.b) && (decide (u.key=v.key) && decide (u.text=v.text))))):=by
 obtain ⟨a,b,c,d,e⟩:=u
 obtain ⟨a',b',c',d',e'⟩:=v
 simp only [Nd.mk.injEq,Bool.decide_and]
theorem eq_nd (u v:Nd)(d:Nat)(w:World):(Op.equalIn (d+1+1) 275 (ndV u) (ndV v)).run Tryz.prog w= .ok (decide (u=v)) w:=by
  have h:=eq_agg (P:=Tryz.prog) (d:=d+1) (t:=275) (xs:=(ndV u).cells) (ys:=(ndV v).cells) (bs:=[u.op==v.op,u.a==v.a,u.b==v.b,u.key==v.key,(mkS u.text).toList==(mkS v.text).toList]) Tryz.underlying275 Kr
    ⟨by decide,⟨YI u.op,YI v.op,λw=>⟨by kernel_rfl,by kernel_rfl,run_equalIn_int w d _ _ _ _ _ Tryz.underlying3⟩⟩,
     by decide,⟨YI u.a,YI v.a,λw=>⟨by kernel_rfl,by kernel_rfl,run_equalIn_int w d _ _ _ _ _ Tryz.underlying3⟩⟩,
     by decide,⟨YI u.b,YI v.b,λw=>⟨by kernel_rfl,by kernel_rfl,run_equalIn_int w d _ _ _ _ _ Tryz.underlying3⟩⟩,
     by decide,⟨YI u.key,YI v.key,λw=>⟨by kernel_rfl,by kernel_rfl,run_equalIn_int w d _ _ _ _ _ Tryz.underlying3⟩⟩,
     by decide,⟨.string (mkS u.text),.string (mkS v.text),λw=>⟨by kernel_rfl,by kernel_rfl,run_equalIn_string w d _ _ _ Tryz.underlying9⟩⟩,trivial⟩ w
  rw [all5,wA,fI,fI,fI,fI,←nd_dec] at h
  exact h
theorem guard_nd:Tryz.prog.eqGuardType Tryz.prog.depth 275=false:=by kernel_rfl
theorem dC {ρ:Operand->Value}{o:Oper}{t':TypeId}{x y:Operand}{u v:Nd}{b:Bool}(ho:o.op= .binOp .neq 275 x y t')(hx:ρ x=ndV u)(hy:ρ y=ndV v)(hb:decide (u=v)=b)(w:World):(execOp ρ o).run Tryz.prog w= .ok (.value (.bool (!b))) w:=
 run_ne_op ho hx hy guard_nd (λw=>hb▸eq_nd u v 9998 w) w
end
section
set_option linter.unnecessarySimpa false
def Rd (b:Nat)(A:Option Addr)(cap:Nat)(ws:List Tok)(ts:List Tok)(nd:List Nd)(bad:Bool)(ob:List Blk):Prop:=
 ∃ pre C cc g,ws=pre++ts/\ob=⟨b, #[.slice A ws.length cap,YI ((pre.length:Nat):Int),.slice C nd.length cc,.bool bad],285⟩::g/\SlN (.slice C nd.length cc) nd g
structure Lent (B b:Nat)(A:Option Addr)(cap:Nat)(ws ts:List Tok)(nd:List Nd)(bad:Bool)(ob:List Blk)(W:World):Prop where
 rd:Rd b A cap ws ts nd bad ob
 own:Own (ob.map Blk.b) W W ob
 ge:∀ x∈ob,B<=x.b
 le:B<=W.heap.size
 words:Reads zW W B A ws
 short:∀ x∈ws,x.length<=1000000
 few:ws.length<=10000
 small:nd.length+ts.length<=10000
structure Back (b:Nat)(A:Option Addr)(cap:Nat)(ws ts:List Tok)(nd:List Nd)(bad:Bool)(ob ob':List Blk)(W w':World):Prop where
 rd:Rd b A cap ws ts nd bad ob'
 own:Own (ob.map Blk.b) W w' ob'
def gD (x:Tok)(ts:List Tok):Bool:=decide (ts.head?=some x)
def jO (x:Tok)(ts:List Tok):List Tok:=if gD x ts then ts.tail else ts
theorem next_yes {x:Tok}{r:List Tok}:gD x (x::r)=true/\jO x (x::r)=r:=by
 have h:gD x (x::r)=true:=by unfold gD;simp
 exact ⟨h,by unfold jO;rw [h];rfl⟩
theorem fG {x:Tok}{ts:List Tok}(h:ts.head?≠some x):gD x ts=false/\jO x ts=ts:=by
 have h1:gD x ts=false:=decide_eq_false h
 exact ⟨h1,by unfold jO;rw [h1];rfl⟩
end
section
set_option linter.unnecessarySimpa false
def Got (part:List Tok->Option (Tr×List Tok))(ts:List Tok)(nd:List Nd)(z:Int)(ts':List Tok)(nd':List Nd)(bad':Bool):Prop:=
 nd'.length+ts'.length<=nd.length+ts.length/\ts'.length<=ts.length∧
  match part ts with
  |some (t,r)=>bad'=false/\ts'=r/\nd'=nd++t.enc nd.length/\z=((nd.length+t.sz-1:Nat):Int)
  |none=>bad'=true
def ChI (part:List Tok->Option (Tr×List Tok))(c:Tok)(mk:Tr->Tr->Tr)(ts:List Tok)(nd:List Nd)(z:Int)(tq:List Tok)(nq:List Nd)(bq:Bool):Prop:=
 nq.length+tq.length<=nd.length+ts.length/\tq.length<=ts.length∧
  (if bq=true then gI part c mk ts=none else ∃ t,gI part c mk ts=qW part c mk tq.length t tq/\nq=nd++t.enc nd.length/\z=((nd.length+t.sz-1:Nat):Int))
structure MkOf (op:Int)(mk:Tr->Tr->Tr):Prop where
 enc:∀ a b o,(mk a b).enc o=a.enc o++b.enc (o+a.sz)++[⟨op,((o+a.sz-1:Nat):Int),((o+a.sz+b.sz-1:Nat):Int),0,[]⟩]
 sz:∀ a b,(mk a b).sz=a.sz+b.sz+1
theorem mk_both:MkOf 3 .both:=⟨λ_ _ _=>rfl,λ_ _=>rfl⟩
theorem mk_one:MkOf 4 .one:=⟨λ_ _ _=>rfl,λ_ _=>rfl⟩
theorem wV {c:Tok}{ts:List Tok}(h:gD c ts=true):∃ r,ts=c::r/\jO c ts=r:=by
 unfold gD at h
 have:=of_decide_eq_true h
 cases ts with
 |nil=>cases this
 |cons d r=>simp only [List.head?_cons,Option.some.injEq] at this;subst this;exact ⟨r,rfl,next_yes.2⟩
structure PartC (f:FuncId)(n:Nat)(part:List Tok->Option (Tr×List Tok)):Prop where
 go:∀ {B b:Nat} {A:Option Addr} {cap:Nat} {ws ts:List Tok} {nd:List Nd} {ob:List Blk} {W:World},Lent B b A cap ws ts nd false ob W->ts.length<=n→
  Calls Tryz.prog f #[.pointer (some ⟨b,0,none⟩)] W λe w'=>∃ z ts' nd' bad' ob',e= .returned (YI z)/\Back b A cap ws ts' nd' bad' ob ob' W w'/\Got part ts nd z ts' nd' bad'
theorem pfac_atom {n:Nat}{ts:List Tok}(h1:gD gZ ts=false)(h2:gD yT ts=false)(hn:ts.length<=n):vG n ts=wR ts:=by
 cases ts with
 |nil=>cases n<;>rfl
 |cons c r=>
  cases n with
  |zero=>simp at hn
  |succ n=>
   have q1:=of_decide_eq_false h1
   have q2:=of_decide_eq_false h2
   simp only [List.head?_cons,Option.some.injEq] at q1 q2
   rw [vG,if_neg q1,if_neg q2]
end
section
set_option linter.unnecessarySimpa false
def keyZ (c:Tok):Nat->Int
 |0=> -1
 |i+1=>if x1 i=c then (i:Int) else keyZ c i
end
section
set_option linter.unnecessarySimpa false
theorem wN:∀ (t:Tr) (o:Nat),t.ok=true→∀ n∈t.enc o,n.text.length<=12
 | .is k v,o,h,n,hn=>by
  unfold Tr.ok at h
  simp only [Bool.and_eq_true,decide_eq_true_eq] at h
  rw [Tr.enc,List.mem_singleton] at hn
  rw [hn];exact word_short h.2
 | .no x,o,h,n,hn=>by
  rw [Tr.enc] at hn
  rcases List.mem_append.1 hn with hn|hn
  ·exact wN x o h n hn
  ·rw [List.mem_singleton.1 hn];simp
 | .both x y,o,h,n,hn=>by
  unfold Tr.ok at h
  rw [Bool.and_eq_true] at h
  rw [Tr.enc] at hn
  rcases List.mem_append.1 hn with hn|hn
  ·rcases List.mem_append.1 hn with hn|hn
   ·exact wN x o h.1 n hn
   ·exact wN y _ h.2 n hn
  ·rw [List.mem_singleton.1 hn];simp
 | .one x y,o,h,n,hn=>by
  unfold Tr.ok at h
  rw [Bool.and_eq_true] at h
  rw [Tr.enc] at hn
  rcases List.mem_append.1 hn with hn|hn
  ·rcases List.mem_append.1 hn with hn|hn
   ·exact wN x o h.1 n hn
   ·exact wN y _ h.2 n hn
  ·rw [List.mem_singleton.1 hn];simp
theorem words_short {s:List UInt8}:∀ x∈xH s,x.length<=s.length:=λx hx=>by have:=split_le 32 s [] x hx;simpa using this
theorem jT {s:List UInt8}(h1:¬ 96<s.length)(h2:¬ s=[]):errM s=(match jK s with|some _=>0|none=>7)/\wE s=(match jK s with|some t=>t.enc 0|none=>[]):=by
 unfold errM wE
 rw [if_neg h1,if_neg h1,if_neg h2,if_neg h2];exact ⟨rfl,rfl⟩
end
section
set_option linter.unnecessarySimpa false
def Tr.sts:Nat->Tr->List Nat
 |o,.is _ _=>[o]
 |o,.no x=>x.sts o++[o]
 |o,.both x y=>x.sts o++y.sts (o+x.sz)++[o]
 |o,.one x y=>x.sts o++y.sts (o+x.sz)++[o]
theorem Tr.sts_len:∀ (t:Tr) (o:Nat),(t.sts o).length=t.sz
 | .is _ _,_=>rfl
 | .no x,o=>by rw [sts,List.length_append,sts_len x o];rfl
 | .both x y,o=>by rw [sts,List.length_append,List.length_append,sts_len x o,sts_len y _];rfl
 | .one x y,o=>by rw [sts,List.length_append,List.length_append,sts_len x o,sts_len y _];rfl
theorem snoc_last {α:Type}(l:List α)(x:α){k:Nat}(h:k=l.length):(l++[x])[k]?=some x:=by subst h;simp
theorem Tr.sts_last:∀ (t:Tr) (o:Nat),(t.sts o)[t.sz-1]?=some o
 | .is _ _,_=>rfl
 | .no x,o=>snoc_last _ _ (by rw [sts_len];rfl)
 | .both x y,o=>snoc_last _ _ (by rw [List.length_append,sts_len,sts_len];rfl)
 | .one x y,o=>snoc_last _ _ (by rw [List.length_append,sts_len,sts_len];rfl)
def FS:List (Nat×Tr)->Nat->List Nat->Prop
 | [],i,F=>i=0/\F=[]
 |p::r,i,F=>∃ i0 F0,FS r i0 F0/\i=i0+p.2.sz/\p.1=i-1/\F=F0++p.2.sts i0
theorem FS.len:∀ {st:List (Nat×Tr)} {i:Nat} {F:List Nat},FS st i F->F.length=i
 | [],i,F,h=>by obtain ⟨rfl,rfl⟩:=h;rfl
 |p::r,i,F,h=>by
  obtain ⟨i0,F0,h0,rfl,_,rfl⟩:=h
  rw [List.length_append,Tr.sts_len,h0.len]
theorem fs_last {F0:List Nat}{t:Tr}{i0:Nat}(h:F0.length=i0):(F0++t.sts i0)[i0+t.sz-1]?=some i0:=by
 have hz:=t.sz_pos
 rw [List.getElem?_append_right Om,h,show i0+t.sz-1-i0=t.sz-1 by omega,Tr.sts_last]
theorem FS.cons {st:List (Nat×Tr)}{i:Nat}{F:List Nat}(h:FS st i F)(hi:¬ i=0):∃ p r,st=p::r:=by
 cases st with
 |nil=>exact absurd h.1 hi
 |cons p r=>exact ⟨p,r,rfl⟩
theorem FS.top {p:Nat×Tr}{r:List (Nat×Tr)}{i:Nat}{F:List Nat}(h:FS (p::r) i F):∃ i0 F0,FS r i0 F0/\i=i0+p.2.sz/\p.1=i-1/\F=F0++p.2.sts i0/\F[i-1]?=some i0:=by
 obtain ⟨i0,F0,h0,rfl,h1,rfl⟩:=h
 exact ⟨i0,F0,h0,rfl,h1,rfl,fs_last h0.len⟩
theorem FS.two {p:Nat×Tr}{r:List (Nat×Tr)}{i i0:Nat}{F:List Nat}(h:FS (p::r) i F)(hi:F[i-1]?=some i0)(h0:¬ i0=0):∃ q s j,r=q::s/\q.1=i0-1/\F[i0-1]?=some j∧∀ t:Tr,t.sts j=q.2.sts j++p.2.sts i0++[j]->t.sz=q.2.sz+p.2.sz+1->FS ((i,t)::s) (i+1) (F++[j]):=by
 obtain ⟨k,F0,h1,h2,h3,h4,h5⟩:=h.top
 rw [h5] at hi
 obtain rfl:=Option.some.inj hi
 cases r with
 |nil=>exact absurd h1.1 h0
 |cons q s=>
  obtain ⟨j,F1,g1,g2,g3,g4,g5⟩:=h1.top
  have hk:=h1.len
  have hz:=p.2.sz_pos
  refine ⟨q,s,j,rfl,g3, ?_,λt ht hs=>⟨j,F1,g1, ?_,rfl, ?_⟩⟩
  ·have hz2:=q.2.sz_pos
   rw [h4,List.getElem?_append_left Om];exact g5
  ·show i+1=j+t.sz;omega
  ·show F++[j]=F1++t.sts j
   rw [ht,h4,g4];simp
theorem FS.leaf {st:List (Nat×Tr)}{i:Nat}{F:List Nat}(h:FS st i F)(k:Nat)(v:List UInt8):FS ((i,.is k v)::st) (i+1) (F++[i]):=⟨i,F,h,rfl,rfl,rfl⟩
theorem FS.no {p:Nat×Tr}{r:List (Nat×Tr)}{i i0:Nat}{F:List Nat}(h:FS (p::r) i F)(hi:F[i-1]?=some i0):FS ((i,.no p.2)::r) (i+1) (F++[i0]):=by
 obtain ⟨k,F0,h1,h2,h3,h4,h5⟩:=h.top
 rw [h5] at hi
 obtain rfl:=Option.some.inj hi
 refine ⟨k,F0,h1, ?_,rfl, ?_⟩
 ·show i+1=k+(p.2.sz+1);omega
 ·show F++[k]=F0++(p.2.sts k++[k]);rw [h4];simp
def vC (l:List Nd):Bool:=decide (l.length<=15) && (qC l).isSome
theorem bO {n:Nd}(h:¬ n.op=1):gF n=false:=t8 (o:=0) (i:=0) (j:=0) (st:=[]) h
theorem ck_leaf {st:List (Nat×Tr)}{i:Nat}{n:Nd}{F:List Nat}(h:FS st i F)(hl:gF n=true):∃ s,stp i st n=some s/\FS s (i+1) (F++[i]):=⟨_,stp_leaf hl,h.leaf _ _⟩
theorem ck_bad {st:List (Nat×Tr)}{i:Nat}{n:Nd}(ho:n.op=1)(hl:gF n=false):stp i st n=none:=p8 hl (op_not Om) (op_bin Om Om)
theorem ck_else {st:List (Nat×Tr)}{i:Nat}{n:Nd}(h1:¬ n.op=1)(h2:¬ n.op=2)(h3:¬ n.op=3)(h4:¬ n.op=4):stp i st n=none:=p8 (bO h1) (op_not h2) (op_bin h3 h4)
theorem ck_not0 {st:List (Nat×Tr)}{i:Nat}{n:Nd}{F:List Nat}(h:FS st i F)(ho:n.op=2)(hi:i=0):stp i st n=none:=by
 cases st with
 |nil=>exact p8 (bO Om) rfl rfl
 |cons p r=>obtain ⟨k,F0,h1,h2,_⟩:=h.top;have:=p.2.sz_pos;omega
theorem ck_not {st:List (Nat×Tr)}{i i0:Nat}{n:Nd}{F:List Nat}(h:FS st i F)(ho:n.op=2)(hi:¬ i=0)(hF:F[i-1]?=some i0)(he:n=⟨n.op,(i:Int) -1,0,0,[]⟩):∃ s,stp i st n=some s/\FS s (i+1) (F++[i0]):=by
 obtain ⟨p,r,rfl⟩:=h.cons hi
 obtain ⟨k,F0,h1,h2,h3,_⟩:=h.top
 have hb:jQ (p::r) n=true:=by
  rw [he];unfold jQ mK;simp [ho];omega
 exact ⟨_,stp_not (bO Om) hb,h.no hF⟩
theorem ck_notno {st:List (Nat×Tr)}{i:Nat}{n:Nd}{F:List Nat}(h:FS st i F)(ho:n.op=2)(hi:¬ i=0)(he:¬ n=⟨n.op,(i:Int) -1,0,0,[]⟩):stp i st n=none:=by
 obtain ⟨p,r,rfl⟩:=h.cons hi
 obtain ⟨k,F0,h1,h2,h3,_⟩:=h.top
 refine p8 (bO Om) ?_ (op_bin Om Om)
 cases hb:jQ (p::r) n with
 |false=>rfl
 |true=>
  exfalso;apply he
  unfold jQ mK at hb
  simp only [Bool.and_eq_true,decide_eq_true_eq] at hb
  obtain ⟨⟨⟨q1,q2,q3⟩,q4⟩,q5⟩:=hb
  obtain ⟨op,a,b,key,text⟩:=n
  simp only at q1 q2 q3 q4 q5 ho
  subst q2;subst q3;subst q5
  rw [Nd.mk.injEq];exact ⟨rfl,by omega,rfl,rfl,rfl⟩
theorem ck_bin0 {st:List (Nat×Tr)}{i:Nat}{n:Nd}{F:List Nat}(h:FS st i F)(ho:n.op=3\/n.op=4)(hi:i=0):stp i st n=none:=by
 cases st with
 |nil=>exact p8 (bO Om) rfl rfl
 |cons p r=>obtain ⟨k,F0,h1,h2,_⟩:=h.top;have:=p.2.sz_pos;omega
theorem ck_bin1 {st:List (Nat×Tr)}{i i0:Nat}{n:Nd}{F:List Nat}(h:FS st i F)(ho:n.op=3\/n.op=4)(hi:¬ i=0)(hF:F[i-1]?=some i0)(h0:i0=0):stp i st n=none:=by
 obtain ⟨p,r,rfl⟩:=h.cons hi
 obtain ⟨k,F0,h1,h2,h3,h4,h5⟩:=h.top
 rw [h5] at hF
 obtain rfl:=Option.some.inj hF
 subst h0
 cases r with
 |nil=>exact p8 (bO Om) (op_not Om) rfl
 |cons q s=>obtain ⟨j,F1,g1,g2,_⟩:=h1.top;have:=q.2.sz_pos;omega
theorem ck_bin {st:List (Nat×Tr)}{i i0:Nat}{n:Nd}{F:List Nat}(h:FS st i F)(ho:n.op=3\/n.op=4)(hi:¬ i=0)(hF:F[i-1]?=some i0)(h0:¬ i0=0)(he:n=⟨n.op,(i0:Int) -1,(i:Int) -1,0,[]⟩):∃ s j,stp i st n=some s/\F[i0-1]?=some j/\FS s (i+1) (F++[j]):=by
 obtain ⟨p,r,rfl⟩:=h.cons hi
 obtain ⟨k,F0,h1,h2,h3,_,hk⟩:=h.top
 obtain ⟨q,s,j,rfl,g1,g2,g3⟩:=h.two hF h0
 have hb:isBin (p::q::s) n=true:=by
  rw [he];unfold isBin mK
  rcases ho with ho|ho<;>simp [ho]<;>omega
 rw [hk] at hF
 obtain rfl:=Option.some.inj hF
 refine ⟨_,j,stp_bin (bO (by omega)) (op_not (by omega)) hb,g2,g3 _ ?_ ?_⟩
 ·obtain ⟨k2,F2,f1,f2,f3,f4,f5⟩:=h1.top
  have hj:k2=j:=by
   have hl:=h1.len
   have hz:=q.2.sz_pos
   obtain ⟨k3,F3,e1,e2,e3,e4,_⟩:=h.top
   have e5:k3=k:=by omega
   subst e5
   have e6:F3=F0:=by
    have q1:=e1.len
    have q2:=hl
    have q3:F=F0++p.2.sts k3:=by assumption
    exact (List.append_inj (e4.symm.trans q3) Om).1
   subst e6
   rw [e4,List.getElem?_append_left Om,f5] at g2
   exact Option.some.inj g2
  subst hj
  have hk3:k2+q.2.sz=k:=f2.symm
  split
  ·show q.2.sts k2++p.2.sts (k2+q.2.sz)++[k2]=_;rw [hk3]
  ·show q.2.sts k2++p.2.sts (k2+q.2.sz)++[k2]=_;rw [hk3]
 ·split<;>rfl
theorem ck_binno {st:List (Nat×Tr)}{i i0:Nat}{n:Nd}{F:List Nat}(h:FS st i F)(ho:n.op=3\/n.op=4)(hi:¬ i=0)(hF:F[i-1]?=some i0)(h0:¬ i0=0)(he:¬ n=⟨n.op,(i0:Int) -1,(i:Int) -1,0,[]⟩):stp i st n=none:=by
 obtain ⟨p,r,rfl⟩:=h.cons hi
 obtain ⟨k,F0,h1,h2,h3,_⟩:=h.top
 obtain ⟨q,s,j,rfl,g1,g2,g3⟩:=h.two hF h0
 refine p8 (bO Om) (op_not Om) ?_
 cases hb:isBin (p::q::s) n with
 |false=>rfl
 |true=>
  exfalso;apply he
  unfold isBin mK at hb
  simp only [Bool.and_eq_true,decide_eq_true_eq] at hb
  obtain ⟨⟨⟨q1,q2,q3⟩,q4⟩,q5⟩:=hb
  obtain ⟨op,a,b,key,text⟩:=n
  simp only at q1 q2 q3 q4 q5 ho
  subst q2;subst q3
  rw [Nd.mk.injEq];exact ⟨rfl,by omega,by omega,rfl,rfl⟩
theorem ck_end {st:List (Nat×Tr)}{l:List Nd}{F:List Nat}{i0:Nat}(h:FS st l.length F)(hr:q6 0 [] l=some st)(hl:l≠[])(hF:F[l.length-1]?=some i0):(qC l).isSome=decide (i0=0):=by
 have hn:¬ l.length=0:=λq=>hl (List.eq_nil_of_length_eq_zero q)
 obtain ⟨p,r,rfl⟩:=h.cons hn
 obtain ⟨k,F0,h1,h2,h3,h4,h5⟩:=h.top
 rw [h5] at hF
 obtain rfl:=Option.some.inj hF
 cases r with
 |nil=>unfold qC;rw [hr];simp [h1.1]
 |cons q s=>
  obtain ⟨j,F1,g1,g2,_⟩:=h1.top
  have hz:=q.2.sz_pos
  unfold qC;rw [hr];simp;omega
theorem gY {l:List Nd}(h:q6 0 [] l=none):(qC l).isSome=false:=by unfold qC;rw [h];rfl
def vU (c:Tok):Int:=match keyN c with|some n=>(n:Int)|none=> -1
def Bd (nd:List Nd)(bad:Bool):Prop:=bad=true∨∃ n∈nd,n.op=1/\gF n=false
theorem Bd.add {nd:List Nd}{bad:Bool}(h:Bd nd bad)(xs:List Nd):Bd (nd++xs) bad:=h.imp id λ⟨n,h1,h2⟩=>⟨n,List.mem_append_left _ h1,h2⟩
theorem Bd.mark (nd:List Nd):Bd nd true:= .inl rfl
theorem dN:∀ (t:Tr) (o:Nat),t.ok=true→∀ n∈t.enc o,n.op=1->gF n=true
 | .is k v,o,h,n,hn,h1=>by
  unfold Tr.ok at h
  simp only [Bool.and_eq_true,decide_eq_true_eq] at h
  rw [Tr.enc,List.mem_singleton] at hn
  rw [hn];unfold gF;simp [h.2];omega
 | .no x,o,h,n,hn,h1=>by
  rw [Tr.enc] at hn
  rcases List.mem_append.1 hn with hn|hn
  ·exact dN x o h n hn h1
  ·rw [List.mem_singleton.1 hn] at h1;simp at h1
 | .both x y,o,h,n,hn,h1=>by
  unfold Tr.ok at h
  rw [Bool.and_eq_true] at h
  rw [Tr.enc] at hn
  rcases List.mem_append.1 hn with hn|hn
  ·rcases List.mem_append.1 hn with hn|hn
   ·exact dN x o h.1 n hn h1
   ·exact dN y _ h.2 n hn h1
  ·rw [List.mem_singleton.1 hn] at h1;simp at h1
 | .one x y,o,h,n,hn,h1=>by
  unfold Tr.ok at h
  rw [Bool.and_eq_true] at h
  rw [Tr.enc] at hn
  rcases List.mem_append.1 hn with hn|hn
  ·rcases List.mem_append.1 hn with hn|hn
   ·exact dN x o h.1 n hn h1
   ·exact dN y _ h.2 n hn h1
  ·rw [List.mem_singleton.1 hn] at h1;simp at h1
theorem bd_may {nd:List Nd}(h:Bd nd false):mD nd=false:=by
 cases hm:mD nd with
 |false=>rfl
 |true=>
  rcases h with h|⟨n,h1,h2,h3⟩
  ·cases h
  ·rcases pK hm with rfl|⟨t,hok,rfl,_⟩
   ·cases h1
   ·rw [dN t 0 hok n h1 h2] at h3;cases h3
def GotL (part:List Tok->Option (Tr×List Tok))(ts:List Tok)(nd:List Nd)(bad:Bool)(ts':List Tok)(nd':List Nd)(bad':Bool):Prop:=
 nd'.length+ts'.length<=nd.length+ts.length/\ts'.length<=ts.length/\(Bd nd bad->Bd nd' bad')∧
  match part ts with
  |some (t,r)=>ts'=r/\nd'=nd++t.enc nd.length/\bad'=bad
  |none=>Bd nd' bad'
theorem GotL.mk' {part:List Tok->Option (Tr×List Tok)}{ts ts':List Tok}{nd nd':List Nd}{bad bad':Bool}(h1:nd'.length+ts'.length<=nd.length+ts.length)(h2:ts'.length<=ts.length)(h3:Bd nd bad->Bd nd' bad')(hs:∀ t r,part ts=some (t,r)->ts'=r/\nd'=nd++t.enc nd.length/\bad'=bad)(hn:part ts=none->Bd nd' bad'):GotL part ts nd bad ts' nd' bad':=by
 refine ⟨h1,h2,h3, ?_⟩
 cases h:part ts with
 |none=>exact hn h
 |some x=>exact hs x.1 x.2 h
theorem GotL.yes {part:List Tok->Option (Tr×List Tok)}{ts ts':List Tok}{nd nd':List Nd}{bad bad':Bool}(h:GotL part ts nd bad ts' nd' bad'){t:Tr}{r:List Tok}(hp:part ts=some (t,r)):ts'=r/\nd'=nd++t.enc nd.length/\bad'=bad:=by
 have:=h.2.2.2;rw [hp] at this;exact this
theorem GotL.nay {part:List Tok->Option (Tr×List Tok)}{ts ts':List Tok}{nd nd':List Nd}{bad bad':Bool}(h:GotL part ts nd bad ts' nd' bad')(hp:part ts=none):Bd nd' bad':=by
 have:=h.2.2.2;rw [hp] at this;exact this
theorem gl_short {ts:List Tok}{nd:List Nd}{bad:Bool}(h:ts.length<3):GotL wR ts nd bad ts nd true:=by
 refine GotL.mk' (Nat.le_refl _) (Nat.le_refl _) (λ_=>Bd.mark _) (λt r hp=> ?_) (λ_=>Bd.mark _)
 match ts,h,hp with
 | [],_,hp=>cases hp
 | [a],_,hp=>cases hp
 | [a,b],_,hp=>cases hp
theorem leaf_is {k:Int}{v:Tok}:gF ⟨1,0,0,k,v⟩=(decide (0<=k) && decide (k<3) && wdL v):=by unfold gF;simp
theorem atom_some {k s v:Tok}{t:Tr}(h:bS k s v=some t):(s=tEq/\t= .is (vU k).toNat v/\0<=vU k)\/(s≠tEq/\s=tNe/\t= .no (.is (vU k).toNat v)/\0<=vU k):=by
 unfold bS at h
 unfold vU
 cases hk:keyN k with
 |none=>rw [hk] at h;cases h
 |some n=>
  rw [hk] at h
  simp only at h ⊢
  split at h
  ·split at h
   ·rename_i e;exact .inl ⟨e,(Option.some.inj h).symm,by omega⟩
   ·rename_i e
    split at h
    ·rename_i e2;exact .inr ⟨e,e2,(Option.some.inj h).symm,by omega⟩
    ·cases h
  ·cases h
theorem atom_bad {k s v:Tok}(h:bS k s v=none)(hs:s=tEq\/s=tNe):gF ⟨1,0,0,vU k,v⟩=false:=by
 rw [leaf_is]
 unfold bS at h
 unfold vU
 cases hk:keyN k with
 |none=>simp
 |some n=>
  rw [hk] at h
  simp only at h ⊢
  split at h
  ·rcases hs with hs|hs
   ·rw [if_pos hs] at h;cases h
   ·split at h
    ·cases h
    ·first|cases h|(rw [if_pos hs] at h;cases h)
  ·rename_i hv;simp [hv]
theorem gl_eq {k s v:Tok}{r:List Tok}{nd:List Nd}{bad:Bool}(hs:s=tEq):GotL wR (k::s::v::r) nd bad r (nd++[⟨1,0,0,vU k,v⟩]) bad:=by
 refine GotL.mk' (by simp;omega) (by simp;omega) (λh=>h.add _) (λt q hp=> ?_) (λhp=> ?_)
 ·rw [wR] at hp
  cases ha:bS k s v with
  |none=>rw [ha] at hp;cases hp
  |some u=>
   rw [ha] at hp
   simp only [Option.some.injEq,Prod.mk.injEq] at hp
   obtain ⟨rfl,rfl⟩:=hp
   rcases atom_some ha with ⟨_,rfl,h0⟩|⟨h1,_⟩
   ·refine ⟨rfl, ?_,rfl⟩
    show _=nd++[⟨1,0,0,(((vU k).toNat:Nat):Int),v⟩]
    rw [Int.toNat_of_nonneg h0]
   ·exact absurd hs h1
 ·rw [wR] at hp
  cases ha:bS k s v with
  |none=>exact .inr ⟨_,List.mem_append_right _ (List.mem_singleton.2 rfl),rfl,atom_bad ha (.inl hs)⟩
  |some u=>rw [ha] at hp;cases hp
theorem gl_ne {k s v:Tok}{r:List Tok}{nd:List Nd}{bad:Bool}(h0:¬ s=tEq)(hs:s=tNe):GotL wR (k::s::v::r) nd bad r (nd++[⟨1,0,0,vU k,v⟩]++[⟨2,((nd++[(⟨1,0,0,vU k,v⟩:Nd)]).length:Int) -1,0,0,[]⟩]) bad:=by
 refine GotL.mk' (by simp;omega) (by simp;omega) (λh=>(h.add _).add _) (λt q hp=> ?_) (λhp=> ?_)
 ·rw [wR] at hp
  cases ha:bS k s v with
  |none=>rw [ha] at hp;cases hp
  |some u=>
   rw [ha] at hp
   simp only [Option.some.injEq,Prod.mk.injEq] at hp
   obtain ⟨rfl,rfl⟩:=hp
   rcases atom_some ha with ⟨h1,_⟩|⟨_,_,rfl,h2⟩
   ·exact absurd h1 h0
   ·refine ⟨rfl, ?_,rfl⟩
    show _=nd++([⟨1,0,0,(((vU k).toNat:Nat):Int),v⟩]++[⟨2,((nd.length+1-1:Nat):Int),0,0,[]⟩])
    rw [Int.toNat_of_nonneg h2,List.append_assoc,List.length_append,List.length_singleton]
    congr 4;omega
 ·rw [wR] at hp
  cases ha:bS k s v with
  |none=>exact .inr ⟨_,List.mem_append_left _ (List.mem_append_right _ (List.mem_singleton.2 rfl)),rfl,atom_bad ha (.inr hs)⟩
  |some u=>rw [ha] at hp;cases hp
theorem gl_sign {k s v:Tok}{r:List Tok}{nd:List Nd}{bad:Bool}(h0:¬ s=tEq)(hs:¬ s=tNe):GotL wR (k::s::v::r) nd bad r (nd++[⟨1,0,0,vU k,v⟩]) true:=by
 refine GotL.mk' (by simp;omega) (by simp;omega) (λh=>Bd.mark _) (λt q hp=> ?_) (λhp=>Bd.mark _)
 rw [wR] at hp
 cases ha:bS k s v with
 |none=>rw [ha] at hp;cases hp
 |some u=>rcases atom_some ha with ⟨h1,_⟩|⟨_,h1,_⟩<;>contradiction
theorem gl_not {k:Nat}{ts r ts2:List Tok}{nd nd2:List Nd}{bad bad2:Bool}(hts:ts=gZ::r)(h:GotL (vG k) r nd bad ts2 nd2 bad2):GotL (vG (k+1)) ts nd bad ts2 (nd2++[⟨2,(nd2.length:Int) -1,0,0,[]⟩]) bad2:=by
 subst hts
 have g1:=h.1
 have g2:=h.2.1
 refine GotL.mk' (by simp;omega) (by simp;omega) (λq=>(h.2.2.1 q).add _) (λt q hp=> ?_) (λhp=> ?_)
 ·rw [pFac_not] at hp
  cases hq:vG k r with
  |none=>rw [hq] at hp;cases hp
  |some x=>
   obtain ⟨u,r'⟩:=x
   rw [hq] at hp
   simp only [pNo,Option.some.injEq,Prod.mk.injEq] at hp
   obtain ⟨rfl,rfl⟩:=hp
   obtain ⟨rfl,e2,rfl⟩:=h.yes hq
   refine ⟨rfl, ?_,rfl⟩
   have hz:=u.sz_pos
   show _=nd++(u.enc nd.length++[⟨2,((nd.length+u.sz-1:Nat):Int),0,0,[]⟩])
   rw [←List.append_assoc,←e2]
   have hl:nd2.length=nd.length+u.sz:=by rw [e2,List.length_append,Tr.enc_len]
   congr 3;rw [hl];omega
 ·rw [pFac_not] at hp
  cases hq:vG k r with
  |none=>exact (h.nay hq).add _
  |some x=>rw [hq] at hp;cases hp
theorem gl_open {k:Nat}{ts r ts2:List Tok}{nd nd2:List Nd}{bad bad2:Bool}(hts:ts=yT::r)(h:GotL (pOr k) r nd bad ts2 nd2 bad2)(hc:gD kC ts2=true):GotL (vG (k+1)) ts nd bad (jO kC ts2) nd2 bad2:=by
 subst hts
 obtain ⟨r2,rfl,hr2⟩:=wV hc
 rw [hr2]
 have g1:=h.1
 have g2:=h.2.1
 simp only [List.length_cons] at g1 g2
 refine GotL.mk' (by simp;omega) (by simp;omega) h.2.2.1 (λt q hp=> ?_) (λhp=> ?_)
 ·rw [pFac_open] at hp
  cases hq:pOr k r with
  |none=>rw [hq] at hp;cases hp
  |some x=>
   obtain ⟨u,r'⟩:=x
   rw [hq] at hp
   obtain ⟨e1,e2,e3⟩:=h.yes hq
   subst e1
   rw [pF,if_pos rfl] at hp
   simp only [Option.some.injEq,Prod.mk.injEq] at hp
   obtain ⟨rfl,rfl⟩:=hp
   exact ⟨rfl,e2,e3⟩
 ·rw [pFac_open] at hp
  cases hq:pOr k r with
  |none=>exact h.nay hq
  |some x=>
   obtain ⟨u,r'⟩:=x
   rw [hq] at hp
   obtain ⟨e1,e2,e3⟩:=h.yes hq
   subst e1
   rw [pF,if_pos rfl] at hp;cases hp
theorem gl_unclosed {k:Nat}{ts r ts2:List Tok}{nd nd2:List Nd}{bad bad2:Bool}(hts:ts=yT::r)(h:GotL (pOr k) r nd bad ts2 nd2 bad2)(hc:gD kC ts2=false):GotL (vG (k+1)) ts nd bad ts2 nd2 true:=by
 subst hts
 have g1:=h.1
 have g2:=h.2.1
 refine GotL.mk' (by simp;omega) (by simp;omega) (λ_=>Bd.mark _) (λt q hp=> ?_) (λhp=>Bd.mark _)
 rw [pFac_open] at hp
 cases hq:pOr k r with
 |none=>rw [hq] at hp;cases hp
 |some x=>
  obtain ⟨u,r'⟩:=x
  rw [hq] at hp
  obtain ⟨e1,e2,e3⟩:=h.yes hq
  subst e1
  cases ts2 with
  |nil=>cases hp
  |cons c q=>
   have:=of_decide_eq_false hc
   simp only [List.head?_cons,Option.some.injEq] at this
   rw [pF,if_neg this] at hp;cases hp
theorem gl_atom {n:Nat}{ts ts2:List Tok}{nd nd2:List Nd}{bad bad2:Bool}(h1:gD gZ ts=false)(h2:gD yT ts=false)(hn:ts.length<=n)(h:GotL wR ts nd bad ts2 nd2 bad2):GotL (vG n) ts nd bad ts2 nd2 bad2:=by
 unfold GotL at h ⊢;rw [pfac_atom h1 h2 hn];exact h
def ChL (part:List Tok->Option (Tr×List Tok))(c:Tok)(mk:Tr->Tr->Tr)(ts:List Tok)(nd:List Nd)(bad:Bool)(tq:List Tok)(nq:List Nd)(bq:Bool):Prop:=
 nq.length+tq.length<=nd.length+ts.length/\tq.length<=ts.length/\(Bd nd bad->Bd nq bq)∧
  ((gI part c mk ts=none/\Bd nq bq)∨∃ t,gI part c mk ts=qW part c mk tq.length t tq/\nq=nd++t.enc nd.length/\bq=bad)
theorem cl_start {part:List Tok->Option (Tr×List Tok)}{c:Tok}{mk:Tr->Tr->Tr}{ts ts':List Tok}{nd nd':List Nd}{bad bad':Bool}(h:GotL part ts nd bad ts' nd' bad'):ChL part c mk ts nd bad ts' nd' bad':=by
 refine ⟨h.1,h.2.1,h.2.2.1, ?_⟩
 cases hp:part ts with
 |none=>exact .inl ⟨by unfold gI;rw [hp],h.nay hp⟩
 |some x=>
  obtain ⟨t,r⟩:=x
  obtain ⟨e1,e2,e3⟩:=h.yes hp
  exact .inr ⟨t,by unfold gI;rw [hp,e1],e2,e3⟩
theorem cl_stop {part:List Tok->Option (Tr×List Tok)}{c:Tok}{mk:Tr->Tr->Tr}{ts tq:List Tok}{nd nq:List Nd}{bad bq:Bool}(h:ChL part c mk ts nd bad tq nq bq)(hc:gD c tq=false):GotL (gI part c mk) ts nd bad tq nq bq:=by
 obtain ⟨h1,h2,h3,h4⟩:=h
 refine GotL.mk' h1 h2 h3 (λt r hp=> ?_) (λhp=> ?_)
 ·rcases h4 with ⟨q,_⟩|⟨u,q,e2,e3⟩
  ·rw [hp] at q;cases q
  ·rw [pLoop_stop _ _ _ _ _ _ (of_decide_eq_false hc)] at q
   rw [hp] at q
   simp only [Option.some.injEq,Prod.mk.injEq] at q
   obtain ⟨rfl,rfl⟩:=q
   exact ⟨rfl,e2,e3⟩
 ·rcases h4 with ⟨_,q⟩|⟨u,q,e2,e3⟩
  ·exact q
  ·rw [pLoop_stop _ _ _ _ _ _ (of_decide_eq_false hc),hp] at q;cases q
theorem cl_step {part:List Tok->Option (Tr×List Tok)}(hp:Eats part){op:Int}{c:Tok}{mk:Tr->Tr->Tr}(hmk:MkOf op mk){ts tq r ts2:List Tok}{nd nq nd2:List Nd}{bad bq bad2:Bool}(h:ChL part c mk ts nd bad tq nq bq)(htq:tq=c::r)(h2:GotL part r nq bq ts2 nd2 bad2):
  ChL part c mk ts nd bad ts2 (nd2++[⟨op,(nq.length:Int) -1,(nd2.length:Int) -1,0,[]⟩]) bad2:=by
 obtain ⟨h1,h3,h4,h5⟩:=h
 have g1:=h2.1
 have g2:=h2.2.1
 subst htq
 simp only [List.length_cons] at h1 h3
 refine ⟨by rw [List.length_append,List.length_singleton];omega,by omega,λq=>(h2.2.2.1 (h4 q)).add _, ?_⟩
 rcases h5 with ⟨e,hb⟩|⟨t,e,hn,hb⟩
 ·exact .inl ⟨e,(h2.2.2.1 hb).add _⟩
 ·rw [List.length_cons,qW,if_pos rfl] at e
  cases hq:part r with
  |none=>
   rw [hq] at e
   exact .inl ⟨e,(h2.nay hq).add _⟩
  |some y=>
   obtain ⟨u,r'⟩:=y
   rw [hq] at e
   obtain ⟨rfl,e2,e3⟩:=h2.yes hq
   have hl:=hp _ _ _ hq
   have hz1:=t.sz_pos
   have hz3:=u.sz_pos
   have hnl:nq.length=nd.length+t.sz:=by rw [hn,List.length_append,Tr.enc_len]
   have hnl2:nd2.length=nd.length+t.sz+u.sz:=by rw [e2,List.length_append,Tr.enc_len,hnl]
   refine .inr ⟨mk t u, ?_, ?_,e3.trans hb⟩
   ·rw [e];exact pLoop_fuel hp _ _ _ _ _ _ Om (Nat.le_refl _)
   ·rw [hmk.enc,hnl2,hnl,e2,hnl,hn]
    rw [show ((nd.length+t.sz:Nat):Int) -1=((nd.length+t.sz-1:Nat):Int) by omega,show ((nd.length+t.sz+u.sz:Nat):Int) -1=((nd.length+t.sz+u.sz-1:Nat):Int) by omega]
    simp
theorem nG {s:List UInt8}{ts':List Tok}{nd':List Nd}{bad':Bool}(h:GotL (pOr (xH s).length) (xH s) [] false ts' nd' bad')(hb:bad'=true\/ts'≠[]\/mD nd'=false):jK s=none:=by
 unfold jK
 cases hp:pOr (xH s).length (xH s) with
 |none=>rfl
 |some x=>
  obtain ⟨t,r⟩:=x
  obtain ⟨e1,e2,e3⟩:=h.yes hp
  subst e1;subst e3
  rcases hb with hb|hb|hb
  ·cases hb
  ·cases ts' with
   |nil=>exact absurd rfl hb
   |cons c q=>rfl
  ·cases ts' with
   |cons c q=>rfl
   |nil=>
    have hok:=pOr_ok _ _ _ _ hp
    rw [e2,show ([]:List Nd)++t.enc ([]:List Nd).length=t.enc 0 from rfl,fit_may hok] at hb
    simp [hb]
theorem gl_some {s:List UInt8}{nd':List Nd}(h:GotL (pOr (xH s).length) (xH s) [] false [] nd' false)(hm:mD nd'=true):∃ t:Tr,t.ok=true/\nd'=t.enc 0/\jK s=some t:=by
 unfold jK
 cases hp:pOr (xH s).length (xH s) with
 |none=>have:=bd_may (h.nay hp);rw [hm] at this;cases this
 |some x=>
  obtain ⟨t,r⟩:=x
  obtain ⟨e1,e2,_⟩:=h.yes hp
  subst e1
  have hok:=pOr_ok _ _ _ _ hp
  have e3:nd'=t.enc 0:=e2
  refine ⟨t,hok,e3, ?_⟩
  rw [e3,fit_may hok] at hm
  simp [hm]
theorem print_no {l:List Nd}(h:vC l=false):qU l=[]:=by
 unfold qU
 cases hm:mD l with
 |false=>rfl
 |true=>
  rcases pK hm with rfl|⟨t,hok,rfl,hs,_⟩
  ·rfl
  ·unfold vC at h
   rw [dY hok,Tr.enc_len,decide_eq_true hs] at h;cases h
theorem treeOk_yes {l:List Nd}(h:vC l=true):∃ t:Tr,t.ok=true/\l=t.enc 0/\t.sz<=15:=by
 unfold vC at h
 rw [Bool.and_eq_true,decide_eq_true_eq] at h
 obtain ⟨t,ht⟩:=Option.isSome_iff_exists.1 h.2
 obtain ⟨h1,h2⟩:=treeOf_iff.1 ht
 exact ⟨t,h1,h2,by rw [h2,Tr.enc_len] at h;exact h.1⟩
theorem print_long {t:Tr}(h:t.ok=true)(hl:96<t.text.length):qU (t.enc 0)=[]:=by
 unfold qU
 rw [mayM_enc h,decide_eq_false (p:=t.text.length<=96) Om];simp
theorem print_yes {t:Tr}(h:t.ok=true)(hs:t.sz<=15)(hl:¬ 96<t.text.length):qU (t.enc 0)=t.text:=printM_enc h (by unfold Tr.fit;rw [decide_eq_true hs,decide_eq_true Om];rfl)
theorem may_print {l:List Nd}(h:¬ l=[]):mD l= !decide (qU l=[]):=by
 unfold qU
 cases hm:mD l with
 |false=>simp
 |true=>
  rcases pK hm with rfl|⟨t,hok,rfl,_⟩
  ·exact absurd rfl h
  ·rw [dY hok];simp [text10_ne]
end
section
set_option linter.unnecessarySimpa false
theorem run_idx10 {P:Program}{ρ:Operand->Value}{o:Oper}{t e:TypeId}{x y:Operand}{n k:Nat}{vals:Array Value}(g:Nat->List UInt8)(hk:k<n)(ho:o.op= .index t x y)(hx:ρ x= .agg vals)(hy:ρ y=YI (k:Int))
  (hu:P.underlying t=some (.array n e)) (hp:∀ i,i<n→∀ w,(part e vals i).run P w= .ok (.string (mkS (g i))) w) (hs:(P.info? e).map (·.size)=some 1) (w:World):(execOp ρ o).run P w= .ok (.value (.string (mkS (g k)))) w:=by
 cases he:P.info? e with
 |none=>rw [he] at hs;cases hs
 |some i=>
  rw [he] at hs
  have hs1:i.size=1:=Option.some.inj hs
  unfold execOp
  have h2:=hp k hk
  have hkn:¬ n<=k:=by omega
  simp [ho,hx,hy,Instr.index,Sem.run_bind,asIntOf,run_underlying hu,sizeOf,typeInfo,he,hs1,h2,hk,hkn]
structure MkAt (B:Nat)(W:World):Prop where
 lt:2<B
 held:∃ T,W.heap[(2:Nat)]?=some (.cells #[.string ⟨#[111,115]⟩,.string ⟨#[97,114,99,104]⟩,.string ⟨#[97,98,105]⟩] T)
def MkLib (W:World):Prop:=MkAt W.heap.size W
theorem MkAt.on {B B':Nat}{W w:World}(h:MkAt B W)(hb:Below B W w)(hB:B<=B'):MkAt B' w:=
 ⟨Nat.lt_of_lt_of_le h.lt hB,by obtain ⟨T,q⟩:=h.held;exact ⟨T,by rw [hb.block _ h.lt];exact q⟩⟩
theorem MkLib.on {W w:World}(h:MkLib W)(hb:Below W.heap.size W w):MkLib w:=MkAt.on h hb hb.size
theorem MkAt.all {B:Nat}{W:World}(h:MkAt B W):(loadVar 168 ⟨2,0,none⟩).run Tryz.prog W= .ok (.agg #[.string ⟨#[111,115]⟩,.string ⟨#[97,114,99,104]⟩,.string ⟨#[97,98,105]⟩]) W:=by
 obtain ⟨T,q⟩:=h.held
 exact yQ Kr q
theorem MkAt.one {B:Nat}{W:World}(h:MkAt B W)(k:Nat)(hk:k<3):(loadVar 9 ⟨2,0+k*1,none⟩).run Tryz.prog W= .ok (.string (mkS (x1 k))) W:=by
 obtain ⟨T,q⟩:=h.held
 exact yQ (rd_key k hk) q
theorem key_part:∀ (i:Nat),i<3→∀ w,(part 9 #[.string ⟨#[111,115]⟩,.string ⟨#[97,114,99,104]⟩,.string ⟨#[97,98,105]⟩] i).run Tryz.prog w= .ok (.string (mkS (x1 i))) w
 |0,_,w=>by kernel_rfl
 |1,_,w=>by kernel_rfl
 |2,_,w=>by kernel_rfl
theorem word10_any (s:List UInt8)(W:World)(hs:s.length<=1000000):YC 97 #[.string (mkS s)] W (YR (.bool (wdL s)) W):=
 ret_b (wd_mk s) (word_any (mkS s) W (by rw [y0];unfold maxLen;omega))
theorem key_at {c:Tok}{k:Nat}(hk:k<3)(h:∀ i,i<k->x1 i≠c)(e:x1 k=c):vU c=(k:Int):=by
 unfold vU keyN
 match k,hk with
 |0,_=>rw [if_pos e.symm]
 |1,_=>rw [if_neg (λq=>h 0 Om q.symm),if_pos e.symm]
 |2,_=>rw [if_neg (λq=>h 0 Om q.symm),if_neg (λq=>h 1 Om q.symm),if_pos e.symm]
theorem key_not {c:Tok}(h:∀ i,i<3->x1 i≠c):vU c= -1:=by
 unfold vU keyN
 rw [if_neg (λq=>h 0 Om q.symm),if_neg (λq=>h 1 Om q.symm),if_neg (λq=>h 2 Om q.symm)]
theorem keyOf_any (c:List UInt8)(B:Nat)(W:World)(hK:MkAt B W)(hB:B<=W.heap.size):YC 352 #[.string (mkS c)] W λx w'=>x= .returned (YI (vU c))/\Below W.heap.size W w':=by
 have hK:MkAt W.heap.size W:=⟨Nat.lt_of_lt_of_le hK.lt hB,hK.held⟩
 refine Z2 (n:=15) Tryz.func352 rfl (ZO (Zv (YI 0) (ZN (y7 (ZO (Zo (.agg #[.string ⟨#[111,115]⟩,.string ⟨#[97,114,99,104]⟩,.string ⟨#[97,98,105]⟩]) (a:=⟨2,0,none⟩) (λw hO=>(hK.on hO.below hO.size).all) (Zv (YI 0) (bL ?_))))))))
 refine kK (vQ (tE (λL f m=>∃ (k:Nat) (j:Nat->Value),(k<=3∧∀ i,i<k->x1 i≠c)/\L=[]/\f=p5 j [(0,.string (mkS c)),(5,.agg #[.string ⟨#[111,115]⟩,.string ⟨#[97,114,99,104]⟩,.string ⟨#[97,98,105]⟩]),(6,YI (k:Int))]/\m=3-k) (3-0) ⟨0,_,⟨by omega,λi hi=>absurd hi (Nat.not_lt_zero _)⟩,rfl,ZU,rfl⟩ ?_))
 rintro L f m ⟨k,j,hrel,rfl,rfl,rfl⟩
 have hk6:=hrel.1
 refine y7 (yD ?_)
 by_cases h1:(k:Int)<3
 ·have hk3:k<3:=by omega
  refine Zg h1 (ZN (y7 (Zt (ZB (y7 (vQ (ZO (Zv (YI (k:Int)) ?_))))))))
  refine gB (.string (mkS (x1 k))) Kr (run_idx10 x1 hk3 rfl Kr Kr Tryz.underlying168 key_part Kr) (Zv (YI (k:Int)) (Zv (.string (mkS (x1 k))) (ZR (Zv (.string (mkS (x1 k))) (Zv (.string (mkS c)) ?_)))))
  by_cases h2:((x1 k):List UInt8)=c
  ·refine gB Z4 Kr (qE (a:=(x1 k)) (b:=c) rfl Kr Kr (decide_eq_true (h2))) (ZY (ZO (Zv (YI (k:Int)) (Zv (YI (k:Int)) (ZN (xB (kO ?_)))))))
   exact zT (jD (kO (zT (ZF (YI (k:Int)) Tryz.results352 (λw hO=>⟨by rw [key_at hk3 hrel.2 h2],hO.below⟩)))))
  exact gB Z5 Kr (qE (a:=(x1 k)) (b:=c) rfl Kr Kr (decide_eq_false (h2))) (ZX (ok_skip (dL (kK (yD (Zu (k:= .i64) (((k+1:Nat):Int)) (IntWalk.i64_in _ Om) (Zv (YI ((k+1:Nat):Int)) (bL (dJ (m':=3-(k+1)) Om ⟨k+1,_,⟨by omega,λi hi=>by rcases Nat.lt_succ_iff_lt_or_eq.1 hi with q|rfl;exact hrel.2 i q;exact h2⟩,rfl,ZU,rfl⟩)))))))))
 refine Zh h1 (ZN (y7 (Zf (tF (gM (qL (qM (kK (y7 (yD ?_))))))))))
 exact Zv (YI (-1)) (ZN (xB (ZF (YI (-1)) Tryz.results352 (λw hO=>⟨by rw [key_not λi hi=>hrel.2 i Om],hO.below⟩))))
end
section
set_option linter.unnecessarySimpa false
def g7 (zs:List Int):Array Value:=(zs.flatMap zC).toArray
theorem z_flat (zs:List Int):zs.flatMap zC=zs.map λz=>Value.int .i64 z:=by
 induction zs with
 |nil=>rfl
 |cons a l ih=>rw [List.flatMap_cons,ih];rfl
theorem nE (zs:List Int):(g7 zs).size=zs.length:=by unfold g7;rw [z_flat];simp
theorem tM {zs:List Int}{k:Nat}(hk:k<zs.length)(z:Int):yS (g7 zs) k (Value.int .i64 z).cells=g7 (zs.set k z):=by
 unfold yS g7
 rw [z_flat,z_flat,List.map_set,List.set_eq_take_append_cons_drop,if_pos (by rw [List.length_map];exact hk)]
 simp [Value.cells]
theorem intA_made (n:Nat):madeCells #[YI 0] n=g7 (List.replicate n 0):=by
 apply Array.toList_inj.1
 rw [toList_madeCells_one]
 unfold g7
 rw [z_flat];simp
theorem m9 {zs:List Int}{k:Nat}{z:Int}(h:zs[k]?=some z):yH Tryz.prog 3 (g7 zs) k=some (YI z):=by
 show (g7 zs)[k]?=_
 unfold g7
 rw [z_flat];simp [h]
def qH (F:List Nat)(n:Nat):List Int:=F.map (λ(k:Nat)=>(k:Int))++List.replicate (n-F.length) 0
theorem jM {F:List Nat}{n:Nat}(h:F.length<=n):(qH F n).length=n:=by unfold qH;simp;omega
theorem padF_set {F:List Nat}{n:Nat}(h:F.length<n)(k:Nat):(qH F n).set F.length (k:Int)=qH (F++[k]) n:=by
 unfold qH
 obtain ⟨m,hm⟩:∃ m,n-F.length=m+1:=⟨n-F.length-1,by omega⟩
 rw [hm,List.length_append,List.length_singleton,show n-(F.length+1)=m by omega,List.set_append_right _ _ (by simp)]
 simp [List.replicate_succ]
theorem bM {F:List Nat}{n j k:Nat}(h:F[j]?=some k):(qH F n)[j]?=some (k:Int):=by
 unfold qH
 rw [List.getElem?_append_left (by rw [List.length_map];exact (List.getElem?_eq_some_iff.1 h).1),List.getElem?_map,h];rfl
theorem fs_lt {st:List (Nat×Tr)}{i i0:Nat}{F:List Nat}(h:FS st i F)(hi:¬ i=0)(hF:F[i-1]?=some i0):i0<i:=by
 obtain ⟨p,r,rfl⟩:=h.cons hi
 obtain ⟨k,F0,h1,h2,h3,h4,h5⟩:=h.top
 rw [h5] at hF
 have:=Option.some.inj hF
 have:=p.2.sz_pos
 omega
theorem bN {l:List Nd}(h:(qC l).isSome=false):vC l=false:=by unfold vC;rw [h];simp
theorem tree10_any (A:Option Addr)(cap0:Nat)(l:List Nd)(W:World)(hv:Reads nC W W.heap.size A l)(hne:l≠[])(hn0:l.length<=1000)(ht:∀ n∈l,n.text.length<=1000000):YC 219 #[.slice A l.length cap0] W (YR (.bool (vC l)) W):=by
 have hlp:0<l.length:=List.length_pos_iff.2 hne
 refine z8 Tryz.func219 ?_
 by_cases h1:(15:Int)<(l.length:Int)
 ·refine zE 8 [] ((15:Int)<(l.length:Int)) (λ_=> ?_) (λhq=>absurd (h1) hq)
  exact z6 [] Z5 (λw hO=>⟨by rw [show vC l=false from by unfold vC;rw [decide_eq_false Om];rfl],hO.below⟩)
 have hl15:l.length<=15:=by omega
 refine zE 8 [] ((15:Int)<(l.length:Int)) (λhq=>absurd hq (h1)) (λ_=>x_make 11 [] l.length 1 8 (YI 0) (g7 (qH [] l.length)) (by rw [Nat.mul_one];exact intA_made _) Om λb=>(y4 (α:=Nat×(List (Nat×Tr))×(List Nat)) (λ(i,st,F)=>[(0,.slice A l.length cap0),(3,.slice (some ⟨b,0,none⟩) l.length l.length),(12,.slice A l.length cap0),(13,YI (l.length:Int)),(14,YI (i:Int))]) (λ(i,st,F)=>[⟨b,g7 (qH F l.length),3⟩]) (λ(i,st,F) m=>(i<=l.length/\q6 0 [] l=q6 i st (l.drop i)/\FS st i F)/\m=l.length-i) (0,[],[]) (l.length-0) [] ⟨⟨Nat.zero_le _,rfl,rfl,rfl⟩,rfl⟩ ?_))
 rintro ⟨i,st,F⟩ m g kk ⟨hrel,hmm⟩ nx hkk
 subst hkk
 try simp only at hrel hmm
 obtain ⟨hi6,hrun,hfs⟩:=hrel;have hFl:=hfs.len
 by_cases h2:(i:Int)<(l.length:Int)
 ·have hil:i<l.length:=by omega
  obtain ⟨bp,off,hA,hlt,hcell⟩:=hv Om
  obtain ⟨n,hn⟩:∃ n,l[i]=n:=⟨_,rfl⟩
  have hnt:=hn▸ht l[i] (List.getElem_mem hil)
  have hdr:l.drop i=n::l.drop (i+1):=by rw [←hn];exact List.drop_eq_getElem_cons hil
  have hset:∀ k:Nat,(qH F l.length).set i (k:Int)=qH (F++[k]) l.length:=λk=>by have q:=padF_set (F:=F) (n:=l.length) Om k;rw [hFl] at q;exact q
  refine zE 15 [] ((i:Int)<(l.length:Int)) (λ_=> ?_) (λhq=>absurd (h2) hq)
  refine zU 17 [] hA l.length cap0 i 5 (by first|omega|(simp;omega)) (zP 18 [] 275 bp (off+i*5) (ndV n) (λw hO=>Reads.load bX (hv.on hO.below hO.size) hA i 0 hil Om _ (by rw [hn];kernel_rfl)) (zD [] λb1=> ?_))
  by_cases h3:(n.op:Int)=1
  ·refine zE 22 [0,0] ((n.op:Int)=1) (λ_=> ?_) (λhq=>absurd (h3) hq)
   by_cases h4:(n.key:Int)<0
   ·refine zE 25 [0] ((n.key:Int)<0) (λ_=> ?_) (λhq=>absurd (h4) hq)
    exact z6 [] Z5 (λw hO=>⟨by rw [bN (gY (by rw [hrun,hdr,x7 (ck_bad h3 (by unfold gF;simp [h3,h4];try omega))]))],hO.below⟩)
   refine zE 25 [0] ((n.key:Int)<0) (λhq=>absurd hq (h4)) (λ_=> ?_)
   by_cases h5:(3:Int)<=n.key
   ·refine zE 29 [0] ((3:Int)<=n.key) (λ_=> ?_) (λhq=>absurd (h5) hq)
    exact z6 [] Z5 (λw hO=>⟨by rw [bN (gY (by rw [hrun,hdr,x7 (ck_bad h3 (by unfold gF;simp [h3,h4,h5];try omega))]))],hO.below⟩)
   refine zE 29 [0] ((3:Int)<=n.key) (λhq=>absurd hq (h5)) (λ_=> ?_)
   by_cases h6:(n.a:Int)=0
   ·refine qT 34 [0] ((n.a:Int)=0) (λ_=> ?_) (λhq=>absurd (h6) hq)
    by_cases h7:(n.b:Int)=0
    ·refine qT 39 [0] ((n.b:Int)=0) (λ_=> ?_) (λhq=>absurd (h7) hq)
     refine z1 (k:=97) (args:= #[.string (mkS n.text)]) (v:= .bool (wdL n.text)) [0] (λw _=>word10_any n.text w hnt) ?_
     cases h8:wdL n.text with
     |true=>
      have hlf:gF n=true:=by unfold gF;simp [h1,h2,h3,h4,h5,h6,h7,h8];omega
      obtain ⟨s9,hstp,hfs9⟩:=ck_leaf hfs hlf
      refine d5 50 [] (A:=some ⟨b,0,none⟩) rfl l.length l.length (i:Int) 1 i (by omega) (x_sto 1 ⟨b,g7 (qH F l.length),3⟩ i 1 (YI (i:Int)) [⟨b1,(ndV n).cells,275⟩,⟨b,g7 (qH F l.length),3⟩] (by show _+1<=(g7 _).size;rw [nE,jM (by omega)];omega) (x_i 108 [] (((i+1:Nat):Int)) (zH [] [⟨b,g7 (qH (F++[i]) l.length),3⟩] (λw hO=> ?_) ?_)))
      ·exact (hO.past 1 [⟨b,yS (g7 (qH F l.length)) i (Value.int .i64 (i:Int)).cells,3⟩]).cast (by rw [←hset i,←tM (by rw [jM Om];omega)])
      exact nx (i+1,s9,(F++[i])) (l.length-(i+1)) [] Om ⟨⟨by omega,by rw [hrun,hdr,mU hstp],hfs9⟩,rfl⟩ Kr Kr
     |false=>
      exact z6 [] Z5 (λw hO=>⟨by rw [bN (gY (by rw [hrun,hdr,x7 (ck_bad h3 (by unfold gF;simp [h3,h4,h5,h6,h7,h8];try omega))]))],hO.below⟩)
    exact qT 39 [0] ((n.b:Int)=0) (λhq=>absurd hq (h7)) (λ_=>z6 [] Z5 (λw hO=>⟨by rw [bN (gY (by rw [hrun,hdr,x7 (ck_bad h3 (by unfold gF;simp [h3,h4,h5,h6,h7];try omega))]))],hO.below⟩))
   exact qT 34 [0] ((n.a:Int)=0) (λhq=>absurd hq (h6)) (λ_=>z6 [] Z5 (λw hO=>⟨by rw [bN (gY (by rw [hrun,hdr,x7 (ck_bad h3 (by unfold gF;simp [h3,h4,h5,h6];try omega))]))],hO.below⟩))
  refine zE 22 [0,0] ((n.op:Int)=1) (λhq=>absurd hq (h3)) (λ_=> ?_)
  by_cases h9:(n.op:Int)=2
  ·refine zE 52 [] ((n.op:Int)=2) (λ_=> ?_) (λhq=>absurd (h9) hq)
   by_cases h10:(i:Int)=0
   ·have hi0:i=0:=by omega
    refine zE 54 [] ((i:Int)=0) (λ_=> ?_) (λhq=>absurd (h10) hq)
    exact z6 [] Z5 (λw hO=>⟨by rw [bN (gY (by rw [hrun,hdr,x7 (ck_not0 hfs h9 hi0)]))],hO.below⟩)
   have hi0:¬ i=0:=by omega
   obtain ⟨i0,hF0⟩:∃ i0,F[i-1]?=some i0:=⟨_,List.getElem?_eq_getElem Om⟩
   have hi0l:=fs_lt hfs hi0 hF0
   refine zE 54 [] ((i:Int)=0) (λhq=>absurd hq (h10)) (λ_=>x_i 60 [0,0] ((i:Int) -1) ?_)
   by_cases h11:n=(⟨n.op,(i:Int) -1,0,0,[]⟩:Nd)
   ·have hna:n.a=(i:Int) -1:=congrArg Nd.a h11
    obtain ⟨s9,hstp,hfs9⟩:=ck_not hfs h9 hi0 hF0 h11
    refine x_nea (p:=λu v:Nd=>u=v) 275 ndV dC 62 [] n (⟨n.op,(i:Int) -1,0,0,[]⟩:Nd) (λ_=> ?_) (λhq=>absurd h11 hq)
    refine d5 69 [0] (A:=some ⟨b,0,none⟩) rfl l.length l.length n.a 1 (i-1) (by omega) (vN 70 [] 1 (g7 (qH F l.length)) ((i-1)) 3 (YI (i0:Int)) (m9 (bM hF0)) (d5 71 [] (A:=some ⟨b,0,none⟩) rfl l.length l.length (i:Int) 1 i (by omega) (x_sto 1 ⟨b,g7 (qH F l.length),3⟩ i 1 (YI (i0:Int)) [⟨b1,(ndV n).cells,275⟩,⟨b,g7 (qH F l.length),3⟩] (by show _+1<=(g7 _).size;rw [nE,jM (by omega)];omega) (x_i 108 [] (((i+1:Nat):Int)) (zH [] [⟨b,g7 (qH (F++[i0]) l.length),3⟩] (λw hO=> ?_) ?_)))))
    ·exact (hO.past 1 [⟨b,yS (g7 (qH F l.length)) i (Value.int .i64 (i0:Int)).cells,3⟩]).cast (by rw [←hset i0,←tM (by rw [jM Om];omega)])
    exact nx (i+1,s9,(F++[i0])) (l.length-(i+1)) [] Om ⟨⟨by omega,by rw [hrun,hdr,mU hstp],hfs9⟩,rfl⟩ Kr Kr
   exact x_nea (p:=λu v:Nd=>u=v) 275 ndV dC 62 [] n (⟨n.op,(i:Int) -1,0,0,[]⟩:Nd) (λhq=>absurd hq h11) (λ_=>z6 [] Z5 (λw hO=>⟨by rw [bN (gY (by rw [hrun,hdr,x7 (ck_notno hfs h9 hi0 h11)]))],hO.below⟩))
  refine zE 52 [] ((n.op:Int)=2) (λhq=>absurd hq (h9)) (λ_=> ?_)
  by_cases h12:(n.op:Int)=3
  ·refine zE 73 [] ((n.op:Int)=3) (λ_=> ?_) (λhq=>absurd (h12) hq)
   by_cases h13:(i:Int)=0
   ·have hi0:i=0:=by omega
    refine zE 76 [] ((i:Int)=0) (λ_=> ?_) (λhq=>absurd (h13) hq)
    exact z6 [] Z5 (λw hO=>⟨by rw [bN (gY (by rw [hrun,hdr,x7 (ck_bin0 hfs (.inl h12) hi0)]))],hO.below⟩)
   have hi0:¬ i=0:=by omega
   obtain ⟨i0,hF0⟩:∃ i0,F[i-1]?=some i0:=⟨_,List.getElem?_eq_getElem Om⟩
   have hi0l:=fs_lt hfs hi0 hF0
   refine zE 76 [] ((i:Int)=0) (λhq=>absurd hq (h13)) (λ_=>x_i 80 [] ((i:Int) -1) (d5 81 [] (A:=some ⟨b,0,none⟩) rfl l.length l.length ((i:Int) -1) 1 (i-1) Om (vN 82 [] 1 (g7 (qH F l.length)) ((i-1)) 3 (YI (i0:Int)) (m9 (bM hF0)) ?_)))
   by_cases h14:(i0:Int)=0
   ·have hz0:i0=0:=by omega
    refine zE 83 [] ((i0:Int)=0) (λ_=> ?_) (λhq=>absurd (h14) hq)
    exact z6 [] Z5 (λw hO=>⟨by rw [bN (gY (by rw [hrun,hdr,x7 (ck_bin1 hfs (.inl h12) hi0 hF0 hz0)]))],hO.below⟩)
   have hz0:¬ i0=0:=by omega
   refine zE 83 [] ((i0:Int)=0) (λhq=>absurd hq (h14)) (λ_=>x_i 91 [0,0] ((i:Int) -1) (d5 92 [] (A:=some ⟨b,0,none⟩) rfl l.length l.length ((i:Int) -1) 1 (i-1) Om (vN 93 [] 1 (g7 (qH F l.length)) ((i-1)) 3 (YI (i0:Int)) (m9 (bM hF0)) (x_i 94 [] ((i0:Int) -1) (x_i 96 [] ((i:Int) -1) ?_)))))
   by_cases h15:n=(⟨n.op,(i0:Int) -1,(i:Int) -1,0,[]⟩:Nd)
   ·have hna:n.a=(i0:Int) -1:=congrArg Nd.a h15
    obtain ⟨s9,j9,hstp,hj9,hfs9⟩:=ck_bin hfs (.inl h12) hi0 hF0 hz0 h15
    refine x_nea (p:=λu v:Nd=>u=v) 275 ndV dC 98 [] n (⟨n.op,(i0:Int) -1,(i:Int) -1,0,[]⟩:Nd) (λ_=> ?_) (λhq=>absurd h15 hq)
    refine d5 105 [0] (A:=some ⟨b,0,none⟩) rfl l.length l.length n.a 1 (i0-1) (by omega) (vN 106 [] 1 (g7 (qH F l.length)) ((i0-1)) 3 (YI (j9:Int)) (m9 (bM hj9)) (d5 107 [] (A:=some ⟨b,0,none⟩) rfl l.length l.length (i:Int) 1 i (by omega) (x_sto 1 ⟨b,g7 (qH F l.length),3⟩ i 1 (YI (j9:Int)) [⟨b1,(ndV n).cells,275⟩,⟨b,g7 (qH F l.length),3⟩] (by show _+1<=(g7 _).size;rw [nE,jM (by omega)];omega) (x_i 108 [] (((i+1:Nat):Int)) (zH [] [⟨b,g7 (qH (F++[j9]) l.length),3⟩] (λw hO=> ?_) ?_)))))
    ·exact (hO.past 1 [⟨b,yS (g7 (qH F l.length)) i (Value.int .i64 (j9:Int)).cells,3⟩]).cast (by rw [←hset j9,←tM (by rw [jM Om];omega)])
    exact nx (i+1,s9,(F++[j9])) (l.length-(i+1)) [] Om ⟨⟨by omega,by rw [hrun,hdr,mU hstp],hfs9⟩,rfl⟩ Kr Kr
   exact x_nea (p:=λu v:Nd=>u=v) 275 ndV dC 98 [] n (⟨n.op,(i0:Int) -1,(i:Int) -1,0,[]⟩:Nd) (λhq=>absurd hq h15) (λ_=>z6 [] Z5 (λw hO=>⟨by rw [bN (gY (by rw [hrun,hdr,x7 (ck_binno hfs (.inl h12) hi0 hF0 hz0 h15)]))],hO.below⟩))
  refine zE 73 [] ((n.op:Int)=3) (λhq=>absurd hq (h12)) (λ_=> ?_)
  by_cases h16:(n.op:Int)=4
  ·refine zE 74 [] ((n.op:Int)=4) (λ_=> ?_) (λhq=>absurd (h16) hq)
   by_cases h17:(i:Int)=0
   ·have hi0:i=0:=by omega
    refine zE 76 [] ((i:Int)=0) (λ_=> ?_) (λhq=>absurd (h17) hq)
    exact z6 [] Z5 (λw hO=>⟨by rw [bN (gY (by rw [hrun,hdr,x7 (ck_bin0 hfs (.inr h16) hi0)]))],hO.below⟩)
   have hi0:¬ i=0:=by omega
   obtain ⟨i0,hF0⟩:∃ i0,F[i-1]?=some i0:=⟨_,List.getElem?_eq_getElem Om⟩
   have hi0l:=fs_lt hfs hi0 hF0
   refine zE 76 [] ((i:Int)=0) (λhq=>absurd hq (h17)) (λ_=>x_i 80 [] ((i:Int) -1) (d5 81 [] (A:=some ⟨b,0,none⟩) rfl l.length l.length ((i:Int) -1) 1 (i-1) Om (vN 82 [] 1 (g7 (qH F l.length)) ((i-1)) 3 (YI (i0:Int)) (m9 (bM hF0)) ?_)))
   by_cases h18:(i0:Int)=0
   ·have hz0:i0=0:=by omega
    refine zE 83 [] ((i0:Int)=0) (λ_=> ?_) (λhq=>absurd (h18) hq)
    exact z6 [] Z5 (λw hO=>⟨by rw [bN (gY (by rw [hrun,hdr,x7 (ck_bin1 hfs (.inr h16) hi0 hF0 hz0)]))],hO.below⟩)
   have hz0:¬ i0=0:=by omega
   refine zE 83 [] ((i0:Int)=0) (λhq=>absurd hq (h18)) (λ_=>x_i 91 [0,0] ((i:Int) -1) (d5 92 [] (A:=some ⟨b,0,none⟩) rfl l.length l.length ((i:Int) -1) 1 (i-1) Om (vN 93 [] 1 (g7 (qH F l.length)) ((i-1)) 3 (YI (i0:Int)) (m9 (bM hF0)) (x_i 94 [] ((i0:Int) -1) (x_i 96 [] ((i:Int) -1) ?_)))))
   by_cases h19:n=(⟨n.op,(i0:Int) -1,(i:Int) -1,0,[]⟩:Nd)
   ·have hna:n.a=(i0:Int) -1:=congrArg Nd.a h19
    obtain ⟨s9,j9,hstp,hj9,hfs9⟩:=ck_bin hfs (.inr h16) hi0 hF0 hz0 h19
    refine x_nea (p:=λu v:Nd=>u=v) 275 ndV dC 98 [] n (⟨n.op,(i0:Int) -1,(i:Int) -1,0,[]⟩:Nd) (λ_=> ?_) (λhq=>absurd h19 hq)
    refine d5 105 [0] (A:=some ⟨b,0,none⟩) rfl l.length l.length n.a 1 (i0-1) (by omega) (vN 106 [] 1 (g7 (qH F l.length)) ((i0-1)) 3 (YI (j9:Int)) (m9 (bM hj9)) (d5 107 [] (A:=some ⟨b,0,none⟩) rfl l.length l.length (i:Int) 1 i (by omega) (x_sto 1 ⟨b,g7 (qH F l.length),3⟩ i 1 (YI (j9:Int)) [⟨b1,(ndV n).cells,275⟩,⟨b,g7 (qH F l.length),3⟩] (by show _+1<=(g7 _).size;rw [nE,jM (by omega)];omega) (x_i 108 [] (((i+1:Nat):Int)) (zH [] [⟨b,g7 (qH (F++[j9]) l.length),3⟩] (λw hO=> ?_) ?_)))))
    ·exact (hO.past 1 [⟨b,yS (g7 (qH F l.length)) i (Value.int .i64 (j9:Int)).cells,3⟩]).cast (by rw [←hset j9,←tM (by rw [jM Om];omega)])
    exact nx (i+1,s9,(F++[j9])) (l.length-(i+1)) [] Om ⟨⟨by omega,by rw [hrun,hdr,mU hstp],hfs9⟩,rfl⟩ Kr Kr
   exact x_nea (p:=λu v:Nd=>u=v) 275 ndV dC 98 [] n (⟨n.op,(i0:Int) -1,(i:Int) -1,0,[]⟩:Nd) (λhq=>absurd hq h19) (λ_=>z6 [] Z5 (λw hO=>⟨by rw [bN (gY (by rw [hrun,hdr,x7 (ck_binno hfs (.inr h16) hi0 hF0 hz0 h19)]))],hO.below⟩))
  exact zE 74 [] ((n.op:Int)=4) (λhq=>absurd hq (h16)) (λ_=>z6 [] Z5 (λw hO=>⟨by rw [bN (gY (by rw [hrun,hdr,x7 (ck_else h3 h9 h12 h16)]))],hO.below⟩))
 have hil:i=l.length:=by omega
 skip;rw [List.drop_of_length_le Om,hil] at hrun
 skip;rw [hil] at hfs
 obtain ⟨i0,hF0⟩:∃ i0,F[l.length-1]?=some i0:=⟨_,List.getElem?_eq_getElem Om⟩
 have hend:=ck_end hfs hrun hne hF0
 refine zE 15 [] ((i:Int)<(l.length:Int)) (λhq=>absurd hq (h2)) (λ_=>x_i 112 [] ((l.length:Int) -1) (d5 113 [] (A:=some ⟨b,0,none⟩) rfl l.length l.length ((l.length:Int) -1) 1 (l.length-1) Om (vN 114 [] 0 (g7 (qH F l.length)) ((l.length-1)) 3 (YI (i0:Int)) (m9 (bM hF0)) ?_)))
 by_cases h20:(i0:Int)=0
 ·have hz0:i0=0:=by omega
  refine zE 115 [] ((i0:Int)=0) (λ_=> ?_) (λhq=>absurd (h20) hq)
  exact z6 [] Z4 (λw hO=>⟨by rw [show vC l=true from by unfold vC;rw [hend,decide_eq_true hl15];simp;omega],hO.below⟩)
 have hz0:¬ i0=0:=by omega
 exact zE 115 [] ((i0:Int)=0) (λhq=>absurd hq (h20)) (λ_=>z6 [] Z5 (λw hO=>⟨by rw [show vC l=false from by unfold vC;rw [hend,decide_eq_true hl15];simp;omega],hO.below⟩))
end
section
set_option linter.unnecessarySimpa false
def Nb (b:Nat)(nd:List Nd)(ob:List Blk):Prop:=∃ C cc g,ob=⟨b, #[.slice C nd.length cc],239⟩::g/\SlN (.slice C nd.length cc) nd g
def Rb (b:Nat)(A:Option Addr)(m cap:Nat)(bad:Bool)(nd:List Nd)(ob:List Blk):Prop:=∃ C cc g,ob=⟨b, #[.slice C nd.length cc,.slice A m cap,.bool bad],241⟩::g/\SlN (.slice C nd.length cc) nd g
theorem wX {b n cc:Nat}{C:Option Addr}{cs:Array Value}{T:TypeId}(W:World)(hb:W.heap[b]?=some (.cells cs T))(hc:yH Tryz.prog 183 cs 0=some (.slice C n cc))(hn:n<=1000000):YC 310 #[.pointer (some ⟨b,0,none⟩)] W (YR (YI ((n:Int) -1)) W):=by
 refine Z2 (n:=9) Tryz.func310 rfl (ZO (Zv (YI 0) (ZR (Zv (Zp b 0) (Zv (Zp b 0) (Zv (Zp b 0) (Zo (.slice C n cc) (a:=⟨b,0,none⟩) (λw hO=>yQ hc ((hO.below.block b (Array.getElem?_eq_some_iff.1 hb).1).trans hb)) ?_)))))))
 exact Zv (YI (n:Int)) (Zu (k:= .i64) (((n:Int):Int) -1) (IntWalk.i64_in _ Om) (Zv (YI (((n:Int):Int) -1)) (ZN (xB (ZF (YI (((n:Int):Int) -1)) Tryz.results310 (λw hO=>⟨rfl,hO.below⟩))))))
theorem nis10_any {b:Nat}{nd:List Nd}{ob:List Blk}{W:World}(hb:Nb b nd ob)(hO:Own (ob.map Blk.b) W W ob)(hn9:nd.length<=999999)(k:Int)(v:List UInt8):YC 351 #[.pointer (some ⟨b,0,none⟩),YI k,.string (mkS v)] W λe w'=>∃ ob',e= .returned (.tuple #[])/\Nb b (nd++[(⟨1,0,0,k,v⟩:Nd)]) ob'/\Own (ob.map Blk.b) W w' ob':=by
 obtain ⟨C,cc,g,rfl,hsl⟩:=hb
 have hnl:(nd++[(⟨1,0,0,k,v⟩:Nd)]).length=nd.length+1:=by simp
 refine y6 hO Tryz.func351 (kG [0] 1 275 #[YI 1,YI 0,YI 0,YI k,.string (mkS v)] λb1=>vJ (m:=1) (cp:=1) [] [⟨b1, #[YI 1,YI 0,YI 0,YI k,.string (mkS v)],275⟩,⟨b, #[.slice C nd.length cc],239⟩] g [] 0 (⟨b1, #[YI 1,YI 0,YI 0,YI k,.string (mkS v)],275⟩::⟨b, #[.slice C nd.length cc],239⟩::g) (λw hO=>(hO.cast (by simp))) hsl Om λv' ob' h=> ?_)
 obtain ⟨B2,cb2,rfl⟩:=h.form
 refine yU [1] λw hO=>⟨⟨b, #[.slice B2 (nd++[(⟨1,0,0,k,v⟩:Nd)]).length cb2],239⟩::ob',rfl,⟨B2,cb2,ob',rfl,by rw [hnl];exact SlN.add h⟩, ?_⟩
 rw [hnl];exact (hO.past 1 (⟨b, #[.slice B2 (nd.length+1) cb2],239⟩::(ob'++[]))).cast (by simp)
theorem nnot10_any {b:Nat}{nd:List Nd}{ob:List Blk}{W:World}(hb:Nb b nd ob)(hO:Own (ob.map Blk.b) W W ob)(hn9:nd.length<=999999):YC 336 #[.pointer (some ⟨b,0,none⟩)] W λe w'=>∃ ob',e= .returned (.tuple #[])/\Nb b (nd++[(⟨2,(nd.length:Int) -1,0,0,[]⟩:Nd)]) ob'/\Own (ob.map Blk.b) W w' ob':=by
 obtain ⟨C,cc,g,rfl,hsl⟩:=hb
 have hnl:(nd++[(⟨2,(nd.length:Int) -1,0,0,[]⟩:Nd)]).length=nd.length+1:=by simp
 have hlast:∀ w,Own ((⟨b, #[.slice C nd.length cc],239⟩::g).map Blk.b) W w [⟨b, #[.slice C nd.length cc],239⟩]->YC 310 #[.pointer (some ⟨b,0,none⟩)] w (YR (YI ((nd.length:Int) -1)) w):=λw hO=>wX (C:=C) (cc:=cc) w (hO.held ⟨b, #[.slice C nd.length cc],239⟩ (by simp)) Kr Om
 refine y6 hO Tryz.func336 (yJ 10 [] [⟨b, #[.slice C nd.length cc],239⟩] (λw hO=>Own.nth 0 ⟨b, #[.slice C nd.length cc],239⟩ hO) (zK [0] 6 (z1 (v:=YI ((nd.length:Int) -1)) [] (λw hO=>hlast w (Own.nth 0 ⟨b, #[.slice C nd.length cc],239⟩ hO)) (zK [] 8 (kM 1 275 #[YI 2,YI ((nd.length:Int) -1),YI 0,YI 0,.string (mkS [])] λb1=>zK [] 9 (qS (m:=1) (cp:=1) [⟨b1, #[YI 2,YI ((nd.length:Int) -1),YI 0,YI 0,.string (mkS [])],275⟩,⟨b, #[.slice C nd.length cc],239⟩] g [] 0 (⟨b1, #[YI 2,YI ((nd.length:Int) -1),YI 0,YI 0,.string (mkS [])],275⟩::⟨b, #[.slice C nd.length cc],239⟩::g) [⟨b, #[.slice C nd.length cc],239⟩] (λw hO=>(hO.cast (by simp))) (λo w hO=>hO.take (λy hy=>by rw [List.mem_singleton.1 hy];simp) (by simp)) hsl Om λv' ob' h=> ?_))))))
 obtain ⟨B2,cb2,rfl⟩:=h.form
 refine yU [1] λw hO=>⟨⟨b, #[.slice B2 (nd++[(⟨2,(nd.length:Int) -1,0,0,[]⟩:Nd)]).length cb2],239⟩::ob',rfl,⟨B2,cb2,ob',rfl,by rw [hnl];exact SlN.add h⟩, ?_⟩
 rw [hnl];exact (hO.past 1 (⟨b, #[.slice B2 (nd.length+1) cb2],239⟩::(ob'++[]))).cast (by simp)
theorem njoin10_any {b:Nat}{nd:List Nd}{ob:List Blk}{W:World}(hb:Nb b nd ob)(hO:Own (ob.map Blk.b) W W ob)(hn9:nd.length<=999999)(op a:Int):YC 311 #[.pointer (some ⟨b,0,none⟩),YI op,YI a] W λe w'=>∃ ob',e= .returned (.tuple #[])/\Nb b (nd++[(⟨op,a,(nd.length:Int) -1,0,[]⟩:Nd)]) ob'/\Own (ob.map Blk.b) W w' ob':=by
 obtain ⟨C,cc,g,rfl,hsl⟩:=hb
 have hnl:(nd++[(⟨op,a,(nd.length:Int) -1,0,[]⟩:Nd)]).length=nd.length+1:=by simp
 have hlast:∀ w,Own ((⟨b, #[.slice C nd.length cc],239⟩::g).map Blk.b) W w [⟨b, #[.slice C nd.length cc],239⟩]->YC 310 #[.pointer (some ⟨b,0,none⟩)] w (YR (YI ((nd.length:Int) -1)) w):=λw hO=>wX (C:=C) (cc:=cc) w (hO.held ⟨b, #[.slice C nd.length cc],239⟩ (by simp)) Kr Om
 refine y6 hO Tryz.func311 (yJ 12 [] [⟨b, #[.slice C nd.length cc],239⟩] (λw hO=>Own.nth 0 ⟨b, #[.slice C nd.length cc],239⟩ hO) (zK [0] 8 (z1 (v:=YI ((nd.length:Int) -1)) [] (λw hO=>hlast w (Own.nth 0 ⟨b, #[.slice C nd.length cc],239⟩ hO)) (zK [] 10 (kM 1 275 #[YI op,YI a,YI ((nd.length:Int) -1),YI 0,.string (mkS [])] λb1=>zK [] 11 (qS (m:=1) (cp:=1) [⟨b1, #[YI op,YI a,YI ((nd.length:Int) -1),YI 0,.string (mkS [])],275⟩,⟨b, #[.slice C nd.length cc],239⟩] g [] 0 (⟨b1, #[YI op,YI a,YI ((nd.length:Int) -1),YI 0,.string (mkS [])],275⟩::⟨b, #[.slice C nd.length cc],239⟩::g) [⟨b, #[.slice C nd.length cc],239⟩] (λw hO=>(hO.cast (by simp))) (λo w hO=>hO.take (λy hy=>by rw [List.mem_singleton.1 hy];simp) (by simp)) hsl Om λv' ob' h=> ?_))))))
 obtain ⟨B2,cb2,rfl⟩:=h.form
 refine yU [1] λw hO=>⟨⟨b, #[.slice B2 (nd++[(⟨op,a,(nd.length:Int) -1,0,[]⟩:Nd)]).length cb2],239⟩::ob',rfl,⟨B2,cb2,ob',rfl,by rw [hnl];exact SlN.add h⟩, ?_⟩
 rw [hnl];exact (hO.past 1 (⟨b, #[.slice B2 (nd.length+1) cb2],239⟩::(ob'++[]))).cast (by simp)
theorem ris10_any {b m cap:Nat}{A:Option Addr}{bad:Bool}{nd:List Nd}{ob:List Blk}{W:World}(hb:Rb b A m cap bad nd ob)(hO:Own (ob.map Blk.b) W W ob)(hn9:nd.length<=999999)(k:Int)(v:List UInt8):YC 351 #[.pointer (some ⟨b,0,none⟩),YI k,.string (mkS v)] W λe w'=>∃ ob',e= .returned (.tuple #[])/\Rb b A m cap bad (nd++[(⟨1,0,0,k,v⟩:Nd)]) ob'/\Own (ob.map Blk.b) W w' ob':=by
 obtain ⟨C,cc,g,rfl,hsl⟩:=hb
 have hnl:(nd++[(⟨1,0,0,k,v⟩:Nd)]).length=nd.length+1:=by simp
 refine y6 hO Tryz.func351 (kG [0] 1 275 #[YI 1,YI 0,YI 0,YI k,.string (mkS v)] λb1=>vJ (m:=1) (cp:=1) [] [⟨b1, #[YI 1,YI 0,YI 0,YI k,.string (mkS v)],275⟩,⟨b, #[.slice C nd.length cc,.slice A m cap,.bool bad],241⟩] g [] 0 (⟨b1, #[YI 1,YI 0,YI 0,YI k,.string (mkS v)],275⟩::⟨b, #[.slice C nd.length cc,.slice A m cap,.bool bad],241⟩::g) (λw hO=>(hO.cast (by simp))) hsl Om λv' ob' h=> ?_)
 obtain ⟨B2,cb2,rfl⟩:=h.form
 refine yU [1] λw hO=>⟨⟨b, #[.slice B2 (nd++[(⟨1,0,0,k,v⟩:Nd)]).length cb2,.slice A m cap,.bool bad],241⟩::ob',rfl,⟨B2,cb2,ob',rfl,by rw [hnl];exact SlN.add h⟩, ?_⟩
 rw [hnl];exact (hO.past 1 (⟨b, #[.slice B2 (nd.length+1) cb2,.slice A m cap,.bool bad],241⟩::(ob'++[]))).cast (by simp)
theorem rnot10_any {b m cap:Nat}{A:Option Addr}{bad:Bool}{nd:List Nd}{ob:List Blk}{W:World}(hb:Rb b A m cap bad nd ob)(hO:Own (ob.map Blk.b) W W ob)(hn9:nd.length<=999999):YC 336 #[.pointer (some ⟨b,0,none⟩)] W λe w'=>∃ ob',e= .returned (.tuple #[])/\Rb b A m cap bad (nd++[(⟨2,(nd.length:Int) -1,0,0,[]⟩:Nd)]) ob'/\Own (ob.map Blk.b) W w' ob':=by
 obtain ⟨C,cc,g,rfl,hsl⟩:=hb
 have hnl:(nd++[(⟨2,(nd.length:Int) -1,0,0,[]⟩:Nd)]).length=nd.length+1:=by simp
 have hlast:∀ w,Own ((⟨b, #[.slice C nd.length cc,.slice A m cap,.bool bad],241⟩::g).map Blk.b) W w [⟨b, #[.slice C nd.length cc,.slice A m cap,.bool bad],241⟩]->YC 310 #[.pointer (some ⟨b,0,none⟩)] w (YR (YI ((nd.length:Int) -1)) w):=λw hO=>wX (C:=C) (cc:=cc) w (hO.held ⟨b, #[.slice C nd.length cc,.slice A m cap,.bool bad],241⟩ (by simp)) Kr Om
 refine y6 hO Tryz.func336 (yJ 10 [] [⟨b, #[.slice C nd.length cc,.slice A m cap,.bool bad],241⟩] (λw hO=>Own.nth 0 ⟨b, #[.slice C nd.length cc,.slice A m cap,.bool bad],241⟩ hO) (zK [0] 6 (z1 (v:=YI ((nd.length:Int) -1)) [] (λw hO=>hlast w (Own.nth 0 ⟨b, #[.slice C nd.length cc,.slice A m cap,.bool bad],241⟩ hO)) (zK [] 8 (kM 1 275 #[YI 2,YI ((nd.length:Int) -1),YI 0,YI 0,.string (mkS [])] λb1=>zK [] 9 (qS (m:=1) (cp:=1) [⟨b1, #[YI 2,YI ((nd.length:Int) -1),YI 0,YI 0,.string (mkS [])],275⟩,⟨b, #[.slice C nd.length cc,.slice A m cap,.bool bad],241⟩] g [] 0 (⟨b1, #[YI 2,YI ((nd.length:Int) -1),YI 0,YI 0,.string (mkS [])],275⟩::⟨b, #[.slice C nd.length cc,.slice A m cap,.bool bad],241⟩::g) [⟨b, #[.slice C nd.length cc,.slice A m cap,.bool bad],241⟩] (λw hO=>(hO.cast (by simp))) (λo w hO=>hO.take (λy hy=>by rw [List.mem_singleton.1 hy];simp) (by simp)) hsl Om λv' ob' h=> ?_))))))
 obtain ⟨B2,cb2,rfl⟩:=h.form
 refine yU [1] λw hO=>⟨⟨b, #[.slice B2 (nd++[(⟨2,(nd.length:Int) -1,0,0,[]⟩:Nd)]).length cb2,.slice A m cap,.bool bad],241⟩::ob',rfl,⟨B2,cb2,ob',rfl,by rw [hnl];exact SlN.add h⟩, ?_⟩
 rw [hnl];exact (hO.past 1 (⟨b, #[.slice B2 (nd.length+1) cb2,.slice A m cap,.bool bad],241⟩::(ob'++[]))).cast (by simp)
theorem rjoin10_any {b m cap:Nat}{A:Option Addr}{bad:Bool}{nd:List Nd}{ob:List Blk}{W:World}(hb:Rb b A m cap bad nd ob)(hO:Own (ob.map Blk.b) W W ob)(hn9:nd.length<=999999)(op a:Int):YC 311 #[.pointer (some ⟨b,0,none⟩),YI op,YI a] W λe w'=>∃ ob',e= .returned (.tuple #[])/\Rb b A m cap bad (nd++[(⟨op,a,(nd.length:Int) -1,0,[]⟩:Nd)]) ob'/\Own (ob.map Blk.b) W w' ob':=by
 obtain ⟨C,cc,g,rfl,hsl⟩:=hb
 have hnl:(nd++[(⟨op,a,(nd.length:Int) -1,0,[]⟩:Nd)]).length=nd.length+1:=by simp
 have hlast:∀ w,Own ((⟨b, #[.slice C nd.length cc,.slice A m cap,.bool bad],241⟩::g).map Blk.b) W w [⟨b, #[.slice C nd.length cc,.slice A m cap,.bool bad],241⟩]->YC 310 #[.pointer (some ⟨b,0,none⟩)] w (YR (YI ((nd.length:Int) -1)) w):=λw hO=>wX (C:=C) (cc:=cc) w (hO.held ⟨b, #[.slice C nd.length cc,.slice A m cap,.bool bad],241⟩ (by simp)) Kr Om
 refine y6 hO Tryz.func311 (yJ 12 [] [⟨b, #[.slice C nd.length cc,.slice A m cap,.bool bad],241⟩] (λw hO=>Own.nth 0 ⟨b, #[.slice C nd.length cc,.slice A m cap,.bool bad],241⟩ hO) (zK [0] 8 (z1 (v:=YI ((nd.length:Int) -1)) [] (λw hO=>hlast w (Own.nth 0 ⟨b, #[.slice C nd.length cc,.slice A m cap,.bool bad],241⟩ hO)) (zK [] 10 (kM 1 275 #[YI op,YI a,YI ((nd.length:Int) -1),YI 0,.string (mkS [])] λb1=>zK [] 11 (qS (m:=1) (cp:=1) [⟨b1, #[YI op,YI a,YI ((nd.length:Int) -1),YI 0,.string (mkS [])],275⟩,⟨b, #[.slice C nd.length cc,.slice A m cap,.bool bad],241⟩] g [] 0 (⟨b1, #[YI op,YI a,YI ((nd.length:Int) -1),YI 0,.string (mkS [])],275⟩::⟨b, #[.slice C nd.length cc,.slice A m cap,.bool bad],241⟩::g) [⟨b, #[.slice C nd.length cc,.slice A m cap,.bool bad],241⟩] (λw hO=>(hO.cast (by simp))) (λo w hO=>hO.take (λy hy=>by rw [List.mem_singleton.1 hy];simp) (by simp)) hsl Om λv' ob' h=> ?_))))))
 obtain ⟨B2,cb2,rfl⟩:=h.form
 refine yU [1] λw hO=>⟨⟨b, #[.slice B2 (nd++[(⟨op,a,(nd.length:Int) -1,0,[]⟩:Nd)]).length cb2,.slice A m cap,.bool bad],241⟩::ob',rfl,⟨B2,cb2,ob',rfl,by rw [hnl];exact SlN.add h⟩, ?_⟩
 rw [hnl];exact (hO.past 1 (⟨b, #[.slice B2 (nd.length+1) cb2,.slice A m cap,.bool bad],241⟩::(ob'++[]))).cast (by simp)
end
section
set_option linter.unnecessarySimpa false
theorem pM {α:Type}{g:α->List Value}{sz:Nat}(hg:∀ x,(g x).length=sz):∀ l:List α,(l.flatMap g).length=l.length*sz
 | []=>by simp
 |a::l=>by rw [List.flatMap_cons,List.length_append,pM hg l,hg,List.length_cons,Nat.succ_mul];omega
theorem Reads.from_ {α:Type}{g:α->List Value}{sz:Nat}(hg:∀ x,(g x).length=sz){w:World}{B b off c:Nat}{l:List α}(h:Reads g w B (some ⟨b,off,none⟩) l)(hc:l.length<=c)(k:Nat):Reads g w B (some ⟨b,off+(if c=k then 0 else k*sz),none⟩) (l.drop k):=λh0=>by
 rw [List.length_drop] at h0
 obtain ⟨b',off',e,hlt,hcell⟩:=h Om
 obtain ⟨rfl,rfl⟩:b=b'/\off=off':=by simp at e;exact e
 refine ⟨b,_,rfl,hlt,λj u hj=> ?_⟩
 rw [if_neg Om]
 have e2:l.flatMap g=(l.take k).flatMap g++(l.drop k).flatMap g:=by rw [←List.flatMap_append,List.take_append_drop]
 have hl:((l.take k).flatMap g).length=k*sz:=by rw [pM hg,List.length_take,Nat.min_eq_left Om]
 have:=hcell (k*sz+j) u (by rw [e2,List.getElem?_append_right Om,hl,Nat.add_sub_cancel_left];exact hj)
 rw [←Nat.add_assoc] at this;exact this
theorem Reads.back {α:Type}{g:α->List Value}{w w':World}{B:Nat}{A:Option Addr}{l:List α}(h:Reads g w' B A l)(hb:Below B w w'):Reads g w B A l:=λh0=>by
 obtain ⟨b,off,e,hlt,hc⟩:=h h0
 exact ⟨b,off,e,hlt,λk u hk=>(hb.cell (p:=⟨b,off+k,none⟩) hlt).symm.trans (hc k u hk)⟩
def Rdr (W:World)(B b:Nat)(ts:List Tok)(nd:List Nd)(bad:Bool)(ob:List Blk):Prop:=∃ A cap,Reads zW W B A ts/\ts.length<=cap/\Rb b A ts.length cap bad nd ob
structure LentL (B b:Nat)(ts:List Tok)(nd:List Nd)(bad:Bool)(ob:List Blk)(W:World):Prop where
 rd:Rdr W B b ts nd bad ob
 own:Own (ob.map Blk.b) W W ob
 ge:∀ x∈ob,B<=x.b
 le:B<=W.heap.size
 short:∀ x∈ts,x.length<=1000000
 texts:∀ n∈nd,n.text.length<=1000000
 small:nd.length+ts.length<=10000
 lib:MkAt B W
structure BackL (B b:Nat)(ts:List Tok)(nd:List Nd)(bad:Bool)(ob ob':List Blk)(W w':World):Prop where
 rd:Rdr W B b ts nd bad ob'
 own:Own (ob.map Blk.b) W w' ob'
 short:∀ x∈ts,x.length<=1000000
 texts:∀ n∈nd,n.text.length<=1000000
theorem Rdr.on {W w:World}{B b:Nat}{ts:List Tok}{nd:List Nd}{bad:Bool}{ob:List Blk}(h:Rdr W B b ts nd bad ob)(hb:Below B W w):Rdr w B b ts nd bad ob:=by
 obtain ⟨A,cap,h1,h2,h3⟩:=h
 exact ⟨A,cap,h1.on hb (Nat.le_refl _),h2,h3⟩
theorem Rdr.back {W w:World}{B b:Nat}{ts:List Tok}{nd:List Nd}{bad:Bool}{ob:List Blk}(h:Rdr w B b ts nd bad ob)(hb:Below B W w):Rdr W B b ts nd bad ob:=by
 obtain ⟨A,cap,h1,h2,h3⟩:=h
 exact ⟨A,cap,h1.back hb,h2,h3⟩
theorem LentL.at {B b:Nat}{ts ts':List Tok}{nd nd':List Nd}{bad bad':Bool}{ob ob' R:List Blk}{W w:World}(h:LentL B b ts nd bad ob W)(hR:Rdr W B b ts' nd' bad' ob')(hx:(∀ x∈ts',x.length<=1000000)∧∀ n∈nd',n.text.length<=1000000)(hs:nd'.length+ts'.length<=10000)(hO:Own (ob.map Blk.b) W w (ob'++R)):LentL B b ts' nd' bad' ob' w:=
 ⟨hR.on (hO.belowB (gU h.ge) h.le),Own.lent hO,λx hx=>hO.allB (gU h.ge) h.le x (List.mem_append_left _ hx),Nat.le_trans h.le hO.size,hx.1,hx.2,hs,h.lib.on (hO.belowB (gU h.ge) h.le) (Nat.le_refl _)⟩
theorem rlast10 {W w:World}{B b:Nat}{ts:List Tok}{nd:List Nd}{bad:Bool}{ob L:List Blk}{M:List Nat}{W0:World}(h:Rdr W B b ts nd bad ob)(hO:Own M W0 w L)(hs:∀ x∈ob,x∈L)(hn:nd.length<=1000000):YC 310 #[.pointer (some ⟨b,0,none⟩)] w (YR (YI ((nd.length:Int) -1)) w):=by
 obtain ⟨A,cap,h1,h2,C,cc,g,rfl,hsl⟩:=h
 exact wX (C:=C) (cc:=cc) w (hO.held _ (hs _ (List.mem_cons_self ..))) Kr hn
theorem mO {nd:List Nd}{n:Nd}(h:∀ x∈nd,x.text.length<=1000000)(hn:n.text.length<=1000000):∀ x∈nd++[n],x.text.length<=1000000:=λx hx=>by
 rcases List.mem_append.1 hx with q|q
 ·exact h x q
 ·rw [List.mem_singleton.1 q];exact hn
theorem skip_tail {x:Tok}{ts:List Tok}(h:∀ y∈ts,y.length<=1000000):∀ y∈jO x ts,y.length<=1000000:=λy hy=>by
 unfold jO at hy
 split at hy
 ·exact h y (List.mem_of_mem_tail hy)
 ·exact h y hy
theorem skip10_any {B b:Nat}{ts:List Tok}{nd:List Nd}{bad:Bool}{ob:List Blk}{W:World}(hL:LentL B b ts nd bad ob W)(x:Tok):YC 309 #[.pointer (some ⟨b,0,none⟩),.string (mkS x)] W λe w'=>∃ ob',e= .returned (.bool (gD x ts))/\BackL B b (jO x ts) nd bad ob ob' W w':=by
 have hM':=gU hL.ge
 have hBW:=hL.le
 have hsm:=hL.small
 have hO:=hL.own
 obtain ⟨A,cap,hw,hcap,C,cc,g,rfl,hsl⟩:=hL.rd
 have hno:=λ(hn:gD x ts=false/\jO x ts=ts) (w:World) (hO:Own ((⟨b, #[.slice C nd.length cc,.slice A ts.length cap,.bool bad],241⟩::g).map Blk.b) W w (⟨b, #[.slice C nd.length cc,.slice A ts.length cap,.bool bad],241⟩::g))=>show ∃ ob',Ending.returned (.bool false)= .returned (.bool (gD x ts))/\BackL B b (jO x ts) nd bad (⟨b, #[.slice C nd.length cc,.slice A ts.length cap,.bool bad],241⟩::g) ob' W w from ⟨_,by rw [hn.1],⟨by rw [hn.2];exact ⟨A,cap,hw,hcap,C,cc,g,rfl,hsl⟩,hO,skip_tail hL.short,hL.texts⟩⟩
 refine y6 hO Tryz.func309 (zE 10 [0] ((ts.length:Int)=0) (λh1=>z6 [] Z5 λw hO=>hno (fG (by rw [List.eq_nil_of_length_eq_zero (by omega:ts.length=0)];simp)) w (hO.past 0 _)) (λh1=> ?_))
 obtain ⟨c,r,hts⟩:∃ c r,ts=c::r:=by cases ts with|nil=>exact absurd rfl h1|cons c r=>exact ⟨c,r,rfl⟩
 obtain ⟨bp,off,hA,hlt,hcell⟩:=hw Om
 have hws0:∀ h:0<ts.length,ts[0]=c:=by rw [hts];intro h;rfl
 have htl:ts.length=r.length+1:=by rw [hts];rfl
 have hld:∀ w,Own ((⟨b, #[.slice C nd.length cc,.slice A ts.length cap,.bool bad],241⟩::g).map Blk.b) W w []->(loadVar 9 ⟨bp,off+0*1,none⟩).run Tryz.prog w= .ok (.string (mkS c)) w:=λw hO=>Reads.load zN (hw.on (hO.belowB hM' hBW) (Nat.le_refl _)) hA 0 0 Om Om _ (by rw [hws0];kernel_rfl)
 refine zU 16 [0] hA ts.length cap 0 1 Om (zP 17 [] 9 bp (off+0*1) (.string (mkS c)) (λw hO=>hld w hO.no) (g8 19 [] c x (λh2=> ?_) (λh2=>z6 [] Z5 λw hO=>hno (fG (by rw [hts];simp;exact h2)) w (hO.past 0 _))))
 have hnx:gD x ts=true/\jO x ts=r:=by rw [hts,h2];exact next_yes
 have q9:=Reads.from_ zN (hA▸hw) hcap 1
 rw [show ts.drop 1=r from by rw [hts];rfl] at q9
 exact x_sllo 26 [0] hA ts.length cap 1 1 Om Om (.slice (some ⟨bp,off+(if cap=1 then 0 else 1*1),none⟩) r.length (cap-1)) (by rw [htl];rfl) (z6 [0] Z4 λw hO=>⟨⟨b, #[.slice C nd.length cc,.slice (some ⟨bp,off+(if cap=1 then 0 else 1*1),none⟩) r.length (cap-1),.bool bad],241⟩::g,by rw [hnx.1],⟨by rw [hnx.2];exact ⟨_,cap-1,q9,by omega,C,cc,g,rfl,hsl⟩,hO.past 0 (⟨b, #[.slice C nd.length cc,.slice (some ⟨bp,off+(if cap=1 then 0 else 1*1),none⟩) r.length (cap-1),.bool bad],241⟩::g),skip_tail hL.short,hL.texts⟩⟩)
structure dS (f:FuncId)(n:Nat)(part:List Tok->Option (Tr×List Tok)):Prop where
 go:∀ {B b:Nat} {ts:List Tok} {nd:List Nd} {bad:Bool} {ob:List Blk} {W:World},LentL B b ts nd bad ob W->ts.length<=n→
  Calls Tryz.prog f #[.pointer (some ⟨b,0,none⟩)] W λe w'=>∃ ts' nd' bad' ob',e= .returned (.tuple #[])/\BackL B b ts' nd' bad' ob ob' W w'/\GotL part ts nd bad ts' nd' bad'
theorem comparison10_any (n:Nat):dS 337 n wR:=by
 refine ⟨λ{B b ts nd bad ob W} hL hln=> ?_⟩
 have hM':=gU hL.ge
 have hBW:=hL.le
 have hsm:=hL.small
 have hO:=hL.own
 obtain ⟨A,cap,hw,hcap,C,cc,g,rfl,hsl⟩:=hL.rd
 refine y6 hO Tryz.func337 (zE 10 [0] ((ts.length:Int)<3) (λh1=>x_ret0 [0] λw hO=>⟨ts,nd,true,⟨b, #[.slice C nd.length cc,.slice A ts.length cap,.bool true],241⟩::g,rfl,⟨⟨A,cap,hw,hcap,C,cc,g,rfl,hsl⟩,hO.past 0 _,hL.short,hL.texts⟩,gl_short Om⟩) (λh1=> ?_))
 obtain ⟨k,s,v,r,hts⟩:∃ k s v r,ts=k::s::v::r:=by match ts,h1 with|k::s::v::r,_=>exact ⟨k,s,v,r,rfl⟩| [],h=>simp at h| [a],h=>simp at h| [a,c],h=>simp at h
 obtain ⟨bp,off,hA,hlt,hcell⟩:=hw Om
 have hws0:∀ h:0<ts.length,ts[0]=k:=by rw [hts];intro h;rfl
 have hws1:∀ h:1<ts.length,ts[1]=s:=by rw [hts];intro h;rfl
 have hws2:∀ h:2<ts.length,ts[2]=v:=by rw [hts];intro h;rfl
 have htl:ts.length=r.length+3:=by rw [hts];rfl
 have hvs:v.length<=1000000:=hL.short v (by rw [hts];simp)
 have hrs:∀ x∈r,x.length<=1000000:=λx hx=>hL.short x (by rw [hts];simp [hx])
 have htx:∀ n∈(nd++[(⟨1,0,0,vU k,v⟩:Nd)]),n.text.length<=1000000:=mO hL.texts hvs
 have hld0:∀ w,Own ((⟨b, #[.slice C nd.length cc,.slice A ts.length cap,.bool bad],241⟩::g).map Blk.b) W w []->(loadVar 9 ⟨bp,off+0*1,none⟩).run Tryz.prog w= .ok (.string (mkS k)) w:=λw hO=>Reads.load zN (hw.on (hO.belowB hM' hBW) (Nat.le_refl _)) hA 0 0 Om Om _ (by rw [hws0];kernel_rfl)
 have hld1:∀ w,Own ((⟨b, #[.slice C nd.length cc,.slice A ts.length cap,.bool bad],241⟩::g).map Blk.b) W w []->(loadVar 9 ⟨bp,off+1*1,none⟩).run Tryz.prog w= .ok (.string (mkS s)) w:=λw hO=>Reads.load zN (hw.on (hO.belowB hM' hBW) (Nat.le_refl _)) hA 1 0 Om Om _ (by rw [hws1];kernel_rfl)
 have hld2:∀ w,Own ((⟨b, #[.slice C nd.length cc,.slice A ts.length cap,.bool bad],241⟩::g).map Blk.b) W w []->(loadVar 9 ⟨bp,off+2*1,none⟩).run Tryz.prog w= .ok (.string (mkS v)) w:=λw hO=>Reads.load zN (hw.on (hO.belowB hM' hBW) (Nat.le_refl _)) hA 2 0 Om Om _ (by rw [hws2];kernel_rfl)
 have q9:=Reads.from_ zN (hA▸hw) hcap 3
 rw [show ts.drop 3=r from by rw [hts];rfl] at q9
 have hlib:=hL.lib
 refine zU 18 [0] hA ts.length cap 0 1 Om (zP 19 [] 9 bp (off+0*1) (.string (mkS k)) (λw hO=>hld0 w hO.no) (zU 24 [0] hA ts.length cap 1 1 Om (zP 25 [] 9 bp (off+1*1) (.string (mkS s)) (λw hO=>hld1 w hO.no) (zU 30 [0] hA ts.length cap 2 1 Om (zP 31 [] 9 bp (off+2*1) (.string (mkS v)) (λw hO=>hld2 w hO.no) (x_sllo 37 [0] hA ts.length cap 1 3 Om Om (.slice (some ⟨bp,off+(if cap=3 then 0 else 3*1),none⟩) r.length (cap-3)) (by rw [htl];rfl) ?_))))))
 refine x_drawLF (.s (.s (.s (.s (.s (.s .z)))))) 7 [0] [] (λw hO=>hO.no) (zK [] 4 (z1 (k:=352) (args:= #[.string (mkS k)]) (v:=YI (vU k)) [] (λw hO=>keyOf_any k B w (hlib.on (hO.belowB hM' hBW) (Nat.le_refl _)) (Nat.le_trans hBW hO.size)) (zK [] 6 (xh_callL (Rr:=λv' ob'=>v'= .tuple #[]/\Rb b (some ⟨bp,off+(if cap=3 then 0 else 3*1),none⟩) r.length (cap-3) bad (nd++[(⟨1,0,0,vU k,v⟩:Nd)]) ob') (⟨b, #[.slice C nd.length cc,.slice (some ⟨bp,off+(if cap=3 then 0 else 3*1),none⟩) r.length (cap-3),.bool bad],241⟩::g) [] (⟨b, #[.slice C nd.length cc,.slice (some ⟨bp,off+(if cap=3 then 0 else 3*1),none⟩) r.length (cap-3),.bool bad],241⟩::g) [] (λw hO=>hO) (λob' w hO=>hO.no) (λw hO=>(ris10_any ⟨C,cc,g,rfl,hsl⟩ (Own.lent (R:=[]) (hO.cast (by simp))) Om (vU k) v).mono λe w' ⟨ob',k1,k2,k3⟩=>⟨_,ob',k1,⟨rfl,k2⟩,k3⟩) ?_))))
 rintro v' ob' ⟨rfl,C2,cc2,g2,rfl,hsl2⟩
 refine xN 52 [] s [61] (λh2=>yU [] λw hO=>⟨r,_,bad,⟨b, #[.slice C2 (nd++[(⟨1,0,0,vU k,v⟩:Nd)]).length cc2,.slice (some ⟨bp,off+(if cap=3 then 0 else 3*1),none⟩) r.length (cap-3),.bool bad],241⟩::g2,rfl,⟨⟨(some ⟨bp,off+(if cap=3 then 0 else 3*1),none⟩),cap-3,q9,by omega,C2,cc2,g2,rfl,hsl2⟩,hO.past 0 _,hrs,htx⟩,by rw [hts];exact gl_eq h2⟩) (λh2=>xN 54 [] s [33,61] (λh3=> ?_) (λh3=>yU [0] λw hO=>⟨r,_,true,⟨b, #[.slice C2 (nd++[(⟨1,0,0,vU k,v⟩:Nd)]).length cc2,.slice (some ⟨bp,off+(if cap=3 then 0 else 3*1),none⟩) r.length (cap-3),.bool true],241⟩::g2,rfl,⟨⟨(some ⟨bp,off+(if cap=3 then 0 else 3*1),none⟩),cap-3,q9,by omega,C2,cc2,g2,rfl,hsl2⟩,hO.past 0 _,hrs,htx⟩,by rw [hts];exact gl_sign h2 h3⟩))
 refine yW (Rr:=λv' ob'=>v'= .tuple #[]/\Rb b (some ⟨bp,off+(if cap=3 then 0 else 3*1),none⟩) r.length (cap-3) bad ((nd++[(⟨1,0,0,vU k,v⟩:Nd)])++[(⟨2,((nd++[(⟨1,0,0,vU k,v⟩:Nd)]).length:Int) -1,0,0,[]⟩:Nd)]) ob') [] (⟨b, #[.slice C2 (nd++[(⟨1,0,0,vU k,v⟩:Nd)]).length cc2,.slice (some ⟨bp,off+(if cap=3 then 0 else 3*1),none⟩) r.length (cap-3),.bool bad],241⟩::g2) [] (⟨b, #[.slice C2 (nd++[(⟨1,0,0,vU k,v⟩:Nd)]).length cc2,.slice (some ⟨bp,off+(if cap=3 then 0 else 3*1),none⟩) r.length (cap-3),.bool bad],241⟩::g2) (λw hO=>hO) (λw hO=>(rnot10_any ⟨C2,cc2,g2,rfl,hsl2⟩ (Own.lent (R:=[]) (hO.cast (by simp))) (by rw [List.length_append,List.length_singleton];omega)).mono λe w' ⟨ob',k1,k2,k3⟩=>⟨_,ob',k1,⟨rfl,k2⟩,k3⟩) ?_
 rintro v' ob' ⟨rfl,hb3⟩
 exact yU [] λw hO=>⟨r,_,bad,ob',rfl,⟨⟨_,cap-3,q9,by omega,hb3⟩,hO.past 0 _,hrs,mO htx (by simp)⟩,by rw [hts];exact gl_ne h2 h3⟩
end
end Go.Proofs.YteghandhpbmpgaaGreatDoor
