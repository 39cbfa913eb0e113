import Derived.RangeFuncIn
import Derived.RangeFuncLeaves
import Derived.RangeFuncCalls
import Derived.RangeFuncNested
import Derived.Lib.Bytealg
import Derived.Test.YtdafengdngglpaaGreatDoorSU6
set_option maxRecDepth 1000000
set_option maxHeartbeats 8000000
set_option linter.unusedVariables false
set_option linter.unusedSimpArgs false
set_option linter.unnecessarySimpa false
namespace Go.Proofs.YtdafengdngglpaaGreatDoor
open Go.RowKit

section
theorem BytesAt.reads {w:World}{e:TypeId}{g:Nat}{l:YL}(h:BytesAt w e g l):Reads u8C w w.heap.size (some ⟨g,0,none⟩) l:=λh0=>⟨g,0,rfl,h.lt,λj u hj=>by
 rw [u8_flat,List.getElem?_map] at hj
 cases hl:l[j]? with
 |none=>rw [hl] at hj;cases hj
 |some b=>
  rw [hl] at hj
  obtain ⟨hlt,hb⟩:=List.getElem?_eq_some_iff.1 hl
  have:=h.cell hlt
  rw [Nat.zero_add,this,hb]
  exact hj⟩
section
variable {M:List Nat}{P:Program}{n:Nat}{W:World}{Q:Exit->Act->World->Prop}{c:Xc}
theorem x_bytes (d:Nat)(h:List Nat)(s:YL){src dst e:TypeId}{x:Operand}(hg:∀ w0 w1 cap,Own M W w0 (xgo P n (d+50000) h c).L->BytesAt w1 e w0.heap.size s->YB w0 w1->w0.heap.size<w1.heap.size->s.length<=cap->zE [] P n w1 Q (xNx (xgo P n (d+50000) h c) [] (.slice (some ⟨w0.heap.size,0,none⟩) s.length cap)))
  (hkt:(xgl P n (d+50000) h c,(xgo P n (d+50000) h c).top,y5 (xA (xgo P n (d+50000) h c)) n (xgo P n (d+50000) h c).f (xO (xgo P n (d+50000) h c)),xNl (xgo P n (d+50000) h c).k,(xO (xgo P n (d+50000) h c)).op,ev n (xgo P n (d+50000) h c).f x,P.underlying src,P.underlying dst,P.underlying e)
   =(xgr P n (d+50000) h c,.ops (xA (xgo P n (d+50000) h c)) (xO (xgo P n (d+50000) h c)::xT (xgo P n (d+50000) h c)),true,true,.convert src dst x,.string (mkS s),some .string,some (.slice e),some (.int .u8)):=by kernel_rfl):zE M P n W Q c:=by
 simp only [Prod.mk.injEq] at hkt
 obtain ⟨hk,e1,e2,e3,e4,e5,e6,e7,e8⟩:=hkt
 refine zN h c hk ?_
 generalize xgo P n (d+50000) h c=d at*
 have:d=⟨.ops (xA d) (xO d::xT d),d.k,d.L,d.f⟩:=by rw [←e1]
 rw [this]
 refine ⟨λhq=>j0 e2 λw hO=> ?_⟩
 obtain ⟨h1,h2,h3⟩:=BytesAt.made w e s
 have hr:=Lib.run_convert_string_bytes (P:=P) w src dst e (mkS s) e6 e7 e8
 rw [zW] at hr
 refine qM (.slice (some ⟨w.heap.size,0,none⟩) s.length (grownCap w s.length 0 e)) (w':=Lib.bytesWorld w e (mkS s)) ?_ ?_
 ·unfold execOp
  simp only [e4,e5,Sem.run_bind,Sem.run_pure,Result.andThen_ok,hr]
 ·have:=((hg w _ (grownCap w s.length 0 e) hO h1 h2 h3 (grownCap_ge w s.length 0 e)).go hq).go _ (Own.start [] _)
  rw [tY (M:=M) (W:=W) (M':=[]) (W':=Lib.bytesWorld w e (mkS s)) e3];exact this
end
end
section
def yM (l:YL)(k:Nat):UInt64:=(l.take k).foldl dStep dI
theorem dMixK_step {l:YL}{k:Nat}(hk:k<l.length):dStep (yM l k) l[k]=yM l (k+1):=by
 unfold yM
 rw [List.take_succ_eq_append_getElem hk,List.foldl_append];rfl
theorem dMixK_all {l:YL}{k:Nat}(hk:k=l.length):yM l k=dMix l:=by unfold yM dMix;rw [hk,List.take_length]
def wF (l:List UInt64)(k:Nat):UInt64:=(l.take k).foldl kL (bI [])
theorem dRootK_step {l:List UInt64}{k:Nat}(hk:k<l.length):kL (wF l k) l[k]=wF l (k+1):=by
 unfold wF
 rw [List.take_succ_eq_append_getElem hk,List.foldl_append];rfl
theorem dRootK_all {l:List UInt64}{k:Nat}(hk:k=l.length):wF l k=tS l:=by unfold wF tS;rw [hk,List.take_length]
def dig9S:YL:=[48,49,50,51,52,53,54,55,56,57,97,98,99,100,101,102]
def hexI (c:UInt8):Int:=match hexV c with|some d=>(d:Int)|none=> -1
theorem r9turn_any (x:UInt64)(W:World):YC 128 #[.int .u64 (x.toNat:Int),.int .u64 13] W (YR (.int .u64 ((fT x).toNat:Int)) W):=by
 refine Z2 (n:=13) Tryz.func128 rfl (ZO (Zv (.int .u64 0) (ZR (Zv (.int .u64 (x.toNat:Int)) (Zv (.int .u64 13) (yW (.int .u64 ((x<<<UInt64.ofNat 13).toNat:Int)) Kr (run_shl64 (x:=x) (yk:= .u64) (n:=13) rfl Kr Kr (by decide)) (Zv (.int .u64 (x.toNat:Int)) ?_)))))))
 exact Zv (.int .u64 13) (Zv (.int .u64 51) (yW (.int .u64 ((x>>>UInt64.ofNat 51).toNat:Int)) Kr (bY (x:=x) (yk:= .u64) (n:=51) rfl Kr Kr (by decide)) (yW (.int .u64 (((x<<<UInt64.ofNat 13)|||(x>>>UInt64.ofNat 51)).toNat:Int)) Kr (run_or64 (x:=(x<<<UInt64.ofNat 13)) (y:=(x>>>UInt64.ofNat 51)) rfl Kr Kr) (Zv (.int .u64 (((x<<<UInt64.ofNat 13)|||(x>>>UInt64.ofNat 51)).toNat:Int)) (ZN (xK (ZF (.int .u64 (((x<<<UInt64.ofNat 13)|||(x>>>UInt64.ofNat 51)).toNat:Int)) Tryz.results128 (λw hO=>⟨by rw [show fT x=((x<<<UInt64.ofNat 13)|||(x>>>UInt64.ofNat 51)) from rfl],hO.below⟩))))))))
theorem r9Sum_any (A:Option Addr)(cap:Nat)(l:YL)(W:World)(hv:Reads u8C W W.heap.size A l)(hn:l.length<=1000000):YC 67 #[.slice A l.length cap] W (YR (.int .u64 ((bI l).toNat:Int)) W):=by
 refine Z2 (n:=24) Tryz.func67 rfl (ZO (Zv (.int .u64 0) (ZR (Zv (.int .u64 11400714819323198485) (ZN (zV ?_))))))
 refine ZO (Zv (YI 0) (ZN (kH (dD (λL f m=>∃ (k:Nat) (j:Nat->Value),(k<=l.length)/\L=[]/\f=mP j [(0,.slice A l.length cap),(3,.int .u64 ((yM l k).toNat:Int)),(4,YI (k:Int))]/\m=l.length-k) (l.length-0) ⟨0,_,Nat.zero_le _,rfl,ZU,rfl⟩ ?_))))
 rintro L f m ⟨k,j,hrel,rfl,rfl,rfl⟩
 refine zV (ZO (Zv (YI (k:Int)) (Zv (.slice A l.length cap) (Zv (YI (l.length:Int)) ?_))))
 by_cases h1:(k:Int)<(l.length:Int)
 ·have hk:k<l.length:=by omega
  obtain ⟨bp,off,hA,hlt,hcell⟩:=hv Om
  obtain ⟨s,hs⟩:∃ s,l[k]=s:=⟨_,rfl⟩
  refine Zg h1 (ZY (ZB (zV (kH (zT (Zv (.int .u64 ((yM l k).toNat:Int)) (Zv (.slice A l.length cap) (Zv (YI (k:Int)) ?_))))))))
  refine yW (Zp bp (off+k*1)) Kr (ZA (b:=bp) (off:=off) (c:=cap) (n:=l.length) (k:= .i64) (j:=(k:Int)) (e:=5) (sz:=1) hA) (Zo (.int .u8 (s.toNat:Int)) (a:=⟨bp,off+k*1,none⟩) (λw hO=>qI (ty:=5) u8C_len (λj u h=>(hO.below.cell (p:=⟨bp,off+j,none⟩) hlt).trans (hcell j u h)) k 0 hk Om _ (by rw [hs];kernel_rfl)) (yW (.int .u64 (((s).toUInt64).toNat:Int)) Kr (run_to64 (x:=s) rfl Kr (by rw [Tryz.underlying5];rfl) Tryz.underlying45) (yW (.int .u64 (((yM l k)^^^(s).toUInt64).toNat:Int)) Kr (run_xor64 (x:=(yM l k)) (y:=(s).toUInt64) rfl Kr Kr) (Zc (k:=128) (args:= #[.int .u64 (((yM l k)^^^(s).toUInt64).toNat:Int),.int .u64 13]) (.int .u64 ((fT ((yM l k)^^^(s).toUInt64)).toNat:Int)) (λw _=>r9turn_any ((yM l k)^^^(s).toUInt64) w) (yW (.int .u64 (((fT ((yM l k)^^^(s).toUInt64))*(18397679294719823053:UInt64)).toNat:Int)) Kr (run_mul64 (x:=(fT ((yM l k)^^^(s).toUInt64))) (y:=(18397679294719823053:UInt64)) rfl Kr Kr) (Zv (.int .u64 (((fT ((yM l k)^^^(s).toUInt64))*(18397679294719823053:UInt64)).toNat:Int)) (vF (vY (x3 (zT (Zv (YI (k:Int)) ?_)))))))))))
  refine Zu (k:= .i64) (((k+1:Nat):Int)) (IntWalk.i64_in _ Om) (Zv (YI ((k+1:Nat):Int)) (vF ?_))
  have hstep:((fT ((yM l k)^^^(s).toUInt64))*(18397679294719823053:UInt64))=yM l (k+1):=by rw [←dMixK_step hk,hs];rfl
  rw [hstep]
  exact vX (m':=l.length-(k+1)) Om ⟨k+1,_,by omega,rfl,ZU,rfl⟩
 refine Zh h1 (ZX (dE (kB (xY (k8 (x3 (ZO (Zv (.int .u64 ((yM l k).toNat:Int)) ?_))))))))
 exact Zv (.int .u64 ((yM l k).toNat:Int)) (yW (.int .u64 (((yM l k)>>>UInt64.ofNat 29).toNat:Int)) Kr (bY (x:=(yM l k)) (yk:= .u64) (n:=29) rfl Kr Kr (by decide)) (yW (.int .u64 (((yM l k)^^^((yM l k)>>>UInt64.ofNat 29)).toNat:Int)) Kr (run_xor64 (x:=(yM l k)) (y:=((yM l k)>>>UInt64.ofNat 29)) rfl Kr Kr) (Zv (.int .u64 (((yM l k)^^^((yM l k)>>>UInt64.ofNat 29)).toNat:Int)) (ZN (xK (ZF (.int .u64 (((yM l k)^^^((yM l k)>>>UInt64.ofNat 29)).toNat:Int)) Tryz.results67 (λw hO=>⟨by rw [show bI l=((yM l k)^^^((yM l k)>>>UInt64.ofNat 29)) from by unfold bI dEnd;rw [←dMixK_all (l:=l) (k:=k) Om];rfl],hO.below⟩)))))))
end
section
theorem r12Sum_any (r:Rv)(W:World)(hr:RcIn W W.heap.size r):YC 41 #[rvV r] W (YR (.tuple #[.int .u64 (yZ r.rt),YI (zP r.rt).1]) W):=by
 have c1:∀ w,YB W w->YC 19 #[rvV r] w (YR (.tuple #[.string (mkS (dX r.rt)),YI (zP r.rt).1]) w):=λw hb=>r12Print_any r w (hr.on hb hb.size)
 refine z8 Tryz.func41 (zQ [] λb1=>z6 (v:= .tuple #[.string (mkS (dX r.rt)),YI (zP r.rt).1]) [0] (λw hO=>c1 w hO.below) (kW 12 [] ((zP r.rt).1=0) (λh=> ?_) (λh=> ?_)))
 rotate_left
 ·exact yU [] (.int .u64 0) (YI (zP r.rt).1) λw hO=>⟨by rw [show yZ r.rt=0 from if_neg h],hO.below⟩
 have hl:(kA r.rt).length<=4096:=(gK h).2.2.2.2.2
 have hp:dX r.rt=kA r.rt:=if_pos h
 rw [hp]
 refine x_bytes 15 [] (kA r.rt) (src:=9) (dst:=66) (e:=5) (x:= .tmp 14) λw0 w1 cap hO hB hb hlt hcap=> ?_
 have hb0:=hO.below
 have c2:∀ w,YB w1 w->YC 67 #[.slice (some ⟨w0.heap.size,0,none⟩) (kA r.rt).length cap] w (YR (.int .u64 ((bI (kA r.rt)).toNat:Int)) w):=λw hw=>r9Sum_any _ cap (kA r.rt) w (hB.reads.on hw hw.size) Om
 exact z6 (v:= .int .u64 ((bI (kA r.rt)).toNat:Int)) [] (λw hO=>c2 w hO.below) (yU [] (.int .u64 ((bI (kA r.rt)).toNat:Int)) (YI 0) λw hO2=>⟨by rw [show yZ r.rt=_ from if_pos h,h],hb0.trans ((hb.mono hb0.size).trans (hO2.below.mono (Nat.le_trans hb0.size (Nat.le_of_lt hlt))))⟩)
end
section
set_option linter.unnecessarySimpa false
theorem fMay_at (A:Option Addr)(cap:Nat)(xs:List Fv)(W:World)(hv:FtIn W W.heap.size A xs):YC 105 #[.slice A xs.length cap] W (YR (.bool (bH (yI xs))) W):=by
 refine z8 Tryz.func105 (zA 8 [] ((8:Int)<(xs.length:Int)) (λh8=> ?_) (λh8=> ?_))
 ·exact z7 [] Z5 λw hO=>⟨by rw [nN (.inl (by rw [wK];omega))],hO.below⟩
 refine zL (α:=Nat) (λi=>[(0,.slice A xs.length cap),(3,.string (mkS (qU (xs.map Fv.name) i))),(9,.slice A xs.length cap),(10,YI (xs.length:Int)),(11,YI (i:Int))]) (λ_=>[]) (λi m=>UpTo xs i/\m=xs.length-i) 0 xs.length [] ⟨UpTo.zero xs,rfl⟩ ?_
 rintro i mm g kk ⟨hup,hmm⟩ nx hkk
 subst hkk
 refine zA 12 [] ((i:Int)<(xs.length:Int)) (λh12=> ?_) (λh12=> ?_)
 rotate_left
 ·exact z7 [] Z4 λw hO=>⟨by rw [hup.may Om Om],hO.below⟩
 have hj:i<xs.length:=by omega
 have hxm:xs[i]∈xs:=List.getElem_mem hj
 have hnl:i<(xs.map Fv.name).length:=by rw [List.length_map];exact hj
 have hl1:qU (xs.map Fv.name) (i+1)=xs[i].name:=by rw [lastT_succ hnl,List.getElem_map]
 have hlast:∀ h0:0<i,qU (xs.map Fv.name) i=(xs[i-1]'Om).name:=λh=>by unfold qU;rw [dif_pos ⟨h,by omega⟩,List.getElem_map]
 obtain ⟨eb,eo,hA,hel⟩:=hv.top.elem vP i hj
 have hnm:=hv.name _ hxm
 refine zH 13 [] hA xs.length cap i 2 hj (zG 14 [] 87 eb (eo+i*2+0) (fvV xs[i]) (λw hO=>hel w hO.below _ 0 _ Kr) (zB [] λb5=>z6 (v:= .bool (wdL xs[i].name)) [0,0] (λw hO=>d8 _ w hnm) (zX 17 (wdL xs[i].name) (λh17=> ?_) (λh17=> ?_))))
 rotate_left
 ·exact z7 [] Z5 λw hO=>⟨by rw [may_no1 hxm h17],hO.below⟩
 refine x_sle 23 [0] xs[i].name (qU (xs.map Fv.name) i) (zX 23 (!Op.bytesLess (qU (xs.map Fv.name) i) xs[i].name) (λh23=> ?_) (λh23=> ?_))
 ·refine z7 [] Z5 λw hO=>⟨?_,hO.below⟩
  have h0:0<i:=Nat.pos_of_ne_zero λh0=>by
   subst h0
   have:qU (xs.map Fv.name) 0=[]:=by unfold qU;rw [dif_neg Om]
   rw [this,less_nil (λe=>by rw [e] at h17;revert h17;decide)] at h23;cases h23
  rw [hlast h0] at h23
  have e2:xs[i-1+1]'Om=xs[i]:=by congr 1;omega
  rw [may_no2 (z:=i-1) Om (by rw [e2];simpa using h23)]
 have h2:∀ h0:0<i,Op.bytesLess (xs[i-1]'Om).name xs[i].name=true:=λh0=>by rw [←hlast h0];simpa using h23
 have hc:∀ w,YB W w->YC 174 #[.slice xs[i].A xs[i].of.length xs[i].cap,.slice A xs.length cap] w (YR (.bool (kO (yI xs) xs[i].of)) w):=λw hb=>fmayOf_any A cap xs xs[i].A xs[i].cap xs[i].of w (hv.on hb hb.size) ((hv.each _ hxm).on hb hb.size) (hv.m _ hxm) (hv.text _ hxm)
 refine z6 (v:= .bool (kO (yI xs) xs[i].of)) [0] (λw hO=>hc w hO.below) (zX 29 (kO (yI xs) xs[i].of) (λh29=> ?_) (λh29=> ?_))
 rotate_left
 ·exact z7 [] Z5 λw hO=>⟨by rw [may_no3 hxm h29],hO.below⟩
 exact j6 3 [0] (.string (mkS xs[i].name)) (.string (mkS (qU (xs.map Fv.name) (i+1)))) (by rw [hl1]) (x_i 34 [] ((i+1:Nat):Int) (zK [] [] (λw hO=>hO.no) (nx (i+1) (xs.length-(i+1)) [] Om ⟨hup.next hj h17 h2 h29,rfl⟩ Kr Kr)))
end
section
def byK (n:UInt64)(k:Nat):YL:=(List.range k).map λi=>(n>>>UInt64.ofNat (8*(7-i))).toUInt8
theorem pQ (n:UInt64)(k:Nat):(byK n k).length=k:=by unfold byK;simp
theorem byK_step (n:UInt64)(k:Nat):byK n (k+1)=byK n k++[(n>>>UInt64.ofNat (8*(7-k))).toUInt8]:=by unfold byK;rw [List.range_succ,List.map_append];rfl
theorem byK_all (n:UInt64){k:Nat}(h:k=8):byK n k=qE n:=by subst h;rfl
theorem dBytes_len (n:UInt64):(qE n).length=8:=rfl
theorem r9Pair_any (a b:UInt64)(W:World):YC 42 #[.int .u64 (a.toNat:Int),.int .u64 (b.toNat:Int)] W (YR (.int .u64 ((kL a b).toNat:Int)) W):=by
 refine Z2 (n:=36) Tryz.func42 rfl (ZO (Zv (.int .u64 0) (ZR (Zv (.slice none 0 0) (ZN (zV ?_))))))
 refine ZO (Zv (YI 7) (ZN (kH (pL (L':=([]++[]:List Blk)) rfl (dD (λL f m=>∃ (k:Nat) (z:Int) (A:Option Addr) (cap:Nat) (xs:YL) (oc:List Blk) (j:Nat->Value),(xs=byK a k/\SlB (.slice A xs.length cap) xs oc/\k<=8/\z=7-(k:Int))/\L=(oc++[])/\f=mP j [(0,.int .u64 (a.toNat:Int)),(1,.int .u64 (b.toNat:Int)),(5,.slice A xs.length cap),(6,YI z)]/\m=8-k) (8-0) ⟨0,7,none,0,[],[],_,⟨rfl,Sl.nil _ _,by omega,by omega⟩,rfl,ZU,rfl⟩ ?_)))))
 rintro L f m ⟨k,z,A,cap,xs,oc,j,hrel,rfl,rfl,rfl⟩
 obtain ⟨hxs,hsl,hk,hz⟩:=hrel;refine pL (L':=oc) (by simp) ?_
 refine zV (ZO (Zv (YI z) ?_))
 by_cases h1:(0:Int)<=z
 ·obtain ⟨i,hi⟩:∃ i:Nat,z=(i:Int):=⟨z.toNat,by omega⟩
  have hxl:xs.length=k:=by rw [hxs];simp [pQ,dBytes_len]
  refine Zg h1 (ZY (ZB (zV (kH (zT (Zv (.slice A xs.length cap) (Zv (.int .u64 (a.toNat:Int)) (Zv (YI z) ?_))))))))
  refine Zu (k:= .i64) ((8:Int)*z) (IntWalk.i64_in _ Om) (yW (.int .u64 ((8*i:Nat):Int)) Kr (λw=>by rw [show ((8*i:Nat):Int)=(8:Int)*z from by rw [hi];omega];exact run_toint (k:= .i64) (q:= .u64) (x:=(8:Int)*z) rfl Kr (by rw [Tryz.underlying3];rfl) Tryz.underlying105 (wrap_u64 Om Om) w) (yW (.int .u64 ((a>>>UInt64.ofNat (8*i)).toNat:Int)) Kr (bY (x:=a) (yk:= .u64) (n:=8*i) rfl Kr Kr Om) (yW (.int .u8 ((((a>>>UInt64.ofNat (8*i))).toUInt8).toNat:Int)) Kr (run_to8 (x:=(a>>>UInt64.ofNat (8*i))) rfl Kr (by rw [Tryz.underlying45];rfl) Tryz.underlying5) (s_lit 5 #[.int .u8 ((((a>>>UInt64.ofNat (8*i))).toUInt8).toNat:Int)] Kr rfl (λ_=>Kr) (λb1=> ?_)))))
  obtain ⟨i0,z0,e1,e2,e3,e4,e5⟩:=u8_info
  refine wD (L':=[⟨b1, #[.int .u8 ((((a>>>UInt64.ofNat (8*i))).toUInt8).toNat:Int)],5⟩]++oc++([]:List Blk)) (by rw [List.append_nil];rfl) (fS (sz:=1) Kr rfl Tryz.underlying66 e1 e2 e3 e4 Kr hsl (a:=⟨b1,0,none⟩) (m:=1) (c:=1) (news:=u8C (((a>>>UInt64.ofNat (8*i))).toUInt8)) Kr rfl (λw hO j u hj=> ?_) (λu hu=>by rw [List.mem_singleton.1 hu];rfl) (by unfold maxLen;omega) (by rw [e5];omega) (λu2 ob2 hu2=> ?_))
  ·rw [yY,cell_of_row w b1 (0+j) (u8C (((a>>>UInt64.ofNat (8*i))).toUInt8)).toArray 5 _ (hO.held ⟨b1,(u8C (((a>>>UInt64.ofNat (8*i))).toUInt8)).toArray,5⟩ (List.mem_append_left _ (List.mem_append_left _ (List.mem_cons_self ..))))];simpa using hj
  have hu2s:SlB u2 (xs++[((a>>>UInt64.ofNat (8*i))).toUInt8]) ob2:=SlB.add hu2
  obtain ⟨B2,cb2,rfl⟩:=Sl.form9 hu2s
  exact wS (L':=ob2) (λw hO=>Own.sub [⟨b1, #[.int .u8 ((((a>>>UInt64.ofNat (8*i))).toUInt8).toNat:Int)],5⟩] (show Own _ _ w (⟨b1, #[.int .u8 ((((a>>>UInt64.ofNat (8*i))).toUInt8).toNat:Int)],5⟩::(ob2)) from by rw [List.append_nil] at hO;exact hO)) (Zv (.slice B2 ((xs++[((a>>>UInt64.ofNat (8*i))).toUInt8]).length) cb2) (vF (vY (x3 (zT (Zv (YI z) (Zu (k:= .i64) (z-1) (IntWalk.i64_in _ Om) (Zv (YI (z-1)) (vF (fin_cast (L':=ob2++[]) (by simp) (vX (m':=8-(k+1)) Om ⟨k+1,z-1,B2,cb2,(xs++[((a>>>UInt64.ofNat (8*i))).toUInt8]),ob2,_,⟨by rw [byK_step,←hxs,show 7-k=i by omega],hu2s,by omega,by omega⟩,rfl,ZU,rfl⟩)))))))))))
 refine Zh h1 (ZX (dE (kB (xY (k8 (x3 (zV (zV (zT ?_)))))))))
 refine Zv (YI 7) (ZN (kH ?_))
 have hx8:xs=qE a++byK b 0:=by rw [hxs,byK_all a Om];simp [byK]
 refine pL (L':=(oc++[]:List Blk)) (by simp) (dD (λL f m=>∃ (k2:Nat) (z2:Int) (A:Option Addr) (cap:Nat) (xs:YL) (oc:List Blk) (j:Nat->Value),(xs=qE a++byK b k2/\SlB (.slice A xs.length cap) xs oc/\k2<=8/\z2=7-(k2:Int))/\L=(oc++[])/\f=mP j [(0,.int .u64 (a.toNat:Int)),(1,.int .u64 (b.toNat:Int)),(5,.slice A xs.length cap),(7,YI z2)]/\m=8-k2) (8-0) ⟨0,7,A,cap,xs,oc,_,⟨hx8,hsl,by omega,by omega⟩,rfl,ZU,rfl⟩ ?_)
 rintro L f m ⟨k2,z2,A,cap,xs,oc,j,hrel,rfl,rfl,rfl⟩
 clear hxs hsl;obtain ⟨hxs,hsl,hk,hz⟩:=hrel;refine pL (L':=oc) (by simp) ?_
 refine zV (ZO (Zv (YI z2) ?_))
 by_cases h2:(0:Int)<=z2
 ·obtain ⟨i,hi⟩:∃ i:Nat,z2=(i:Int):=⟨z2.toNat,by omega⟩
  have hxl:xs.length=8+k2:=by rw [hxs];simp [pQ,dBytes_len]
  refine Zg h2 (ZY (ZB (zV (kH (zT (Zv (.slice A xs.length cap) (Zv (.int .u64 (b.toNat:Int)) (Zv (YI z2) ?_))))))))
  refine Zu (k:= .i64) ((8:Int)*z2) (IntWalk.i64_in _ Om) (yW (.int .u64 ((8*i:Nat):Int)) Kr (λw=>by rw [show ((8*i:Nat):Int)=(8:Int)*z2 from by rw [hi];omega];exact run_toint (k:= .i64) (q:= .u64) (x:=(8:Int)*z2) rfl Kr (by rw [Tryz.underlying3];rfl) Tryz.underlying105 (wrap_u64 Om Om) w) (yW (.int .u64 ((b>>>UInt64.ofNat (8*i)).toNat:Int)) Kr (bY (x:=b) (yk:= .u64) (n:=8*i) rfl Kr Kr Om) (yW (.int .u8 ((((b>>>UInt64.ofNat (8*i))).toUInt8).toNat:Int)) Kr (run_to8 (x:=(b>>>UInt64.ofNat (8*i))) rfl Kr (by rw [Tryz.underlying45];rfl) Tryz.underlying5) (s_lit 5 #[.int .u8 ((((b>>>UInt64.ofNat (8*i))).toUInt8).toNat:Int)] Kr rfl (λ_=>Kr) (λb1=> ?_)))))
  obtain ⟨i0,z0,e1,e2,e3,e4,e5⟩:=u8_info
  refine wD (L':=[⟨b1, #[.int .u8 ((((b>>>UInt64.ofNat (8*i))).toUInt8).toNat:Int)],5⟩]++oc++([]:List Blk)) (by rw [List.append_nil];rfl) (fS (sz:=1) Kr rfl Tryz.underlying66 e1 e2 e3 e4 Kr hsl (a:=⟨b1,0,none⟩) (m:=1) (c:=1) (news:=u8C (((b>>>UInt64.ofNat (8*i))).toUInt8)) Kr rfl (λw hO j u hj=> ?_) (λu hu=>by rw [List.mem_singleton.1 hu];rfl) (by unfold maxLen;omega) (by rw [e5];omega) (λu2 ob2 hu2=> ?_))
  ·rw [yY,cell_of_row w b1 (0+j) (u8C (((b>>>UInt64.ofNat (8*i))).toUInt8)).toArray 5 _ (hO.held ⟨b1,(u8C (((b>>>UInt64.ofNat (8*i))).toUInt8)).toArray,5⟩ (List.mem_append_left _ (List.mem_append_left _ (List.mem_cons_self ..))))];simpa using hj
  have hu2s:SlB u2 (xs++[((b>>>UInt64.ofNat (8*i))).toUInt8]) ob2:=SlB.add hu2
  obtain ⟨B2,cb2,rfl⟩:=Sl.form9 hu2s
  exact wS (L':=ob2) (λw hO=>Own.sub [⟨b1, #[.int .u8 ((((b>>>UInt64.ofNat (8*i))).toUInt8).toNat:Int)],5⟩] (show Own _ _ w (⟨b1, #[.int .u8 ((((b>>>UInt64.ofNat (8*i))).toUInt8).toNat:Int)],5⟩::(ob2)) from by rw [List.append_nil] at hO;exact hO)) (Zv (.slice B2 ((xs++[((b>>>UInt64.ofNat (8*i))).toUInt8]).length) cb2) (vF (vY (x3 (zT (Zv (YI z2) (Zu (k:= .i64) (z2-1) (IntWalk.i64_in _ Om) (Zv (YI (z2-1)) (vF (fin_cast (L':=ob2++[]) (by simp) (vX (m':=8-(k2+1)) Om ⟨k2+1,z2-1,B2,cb2,(xs++[((b>>>UInt64.ofNat (8*i))).toUInt8]),ob2,_,⟨by rw [byK_step,←List.append_assoc,←hxs,show 7-k2=i by omega],hu2s,by omega,by omega⟩,rfl,ZU,rfl⟩)))))))))))
 refine Zh h2 (ZX (dE (kB (xY (k8 (x3 (ZO (Zv (.slice A xs.length cap) ?_))))))))
 exact Zc (k:=67) (args:= #[.slice A xs.length cap]) (.int .u64 ((bI xs).toNat:Int)) (λw hO=>r9Sum_any A cap xs w (Sl.reads hsl rfl hO (λx hx=>hx)) (by rw [hxs];simp [pQ,dBytes_len];omega)) (Zv (.int .u64 ((bI xs).toNat:Int)) (ZN (xK (ZF (.int .u64 ((bI xs).toNat:Int)) Tryz.results42 (λw hO=>⟨by rw [hxs,byK_all b Om];rfl,hO.below⟩)))))
end
section
def rot4 (x:UInt64):UInt64:=x<<<4|||x>>>60
def rotN (n:UInt64):Nat->UInt64
 |0=>n
 |k+1=>rot4 (rotN n k)
def wH (xs:YL)(n:Nat):YL:=xs++List.replicate (n-xs.length) 0
theorem padB_len {xs:YL}{n:Nat}(h:xs.length<=n):(wH xs n).length=n:=by unfold wH;simp;omega
theorem padB_set {xs:YL}{n k:Nat}(hk:xs.length=k)(h:k<n)(c:UInt8):(wH xs n).set k c=wH (xs++[c]) n:=by
 unfold wH
 rw [List.set_append_right _ _ Om,hk,Nat.sub_self,List.length_append,List.length_singleton,hk,show n-k=(n-(k+1))+1 by omega,List.replicate_succ,List.set_cons_zero,List.append_assoc]
 rfl
theorem padB_all {xs:YL}{n:Nat}(h:xs.length=n):wH xs n=xs:=by unfold wH;rw [h,Nat.sub_self];simp
theorem pad2_fst {xs:YL}{n k:Nat}(hk:xs.length=k)(h:k<n)(r:YL)(c:UInt8):(wH xs n++r).set k c=wH (xs++[c]) n++r:=by
 rw [List.set_append_left _ _ (by rw [padB_len Om];omega),padB_set hk h]
theorem pad2_snd {xs:YL}{n k j:Nat}(hk:xs.length=k)(h:k<n){r:YL}(hr:r.length=j)(c:UInt8):(r++wH xs n).set (j+k) c=r++wH (xs++[c]) n:=by
 rw [List.set_append_right _ _ Om,hr,Nat.add_sub_cancel_left,padB_set hk h]
end
section
def pS (bs:YL):Array Value:=(bs.flatMap u8C).toArray
theorem arrC_size (bs:YL):(pS bs).size=bs.length:=by unfold pS;rw [u8_flat];simp
theorem u8_flat_len (l:YL):(l.flatMap u8C).length=l.length:=by rw [u8_flat];simp
theorem arrC_set {bs:YL}{k:Nat}(hk:k<bs.length)(c:UInt8):yK (pS bs) k (Value.int .u8 (c.toNat:Int)).cells=pS (bs.set k c):=by
 have h:=store_byte (cur:=pS bs) (l:=bs) hk (by rw [arrC_size];exact Nat.le_refl _) (by unfold pS;rw [Nat.mul_one,List.take_of_length_le (by rw [u8_flat_len];exact Nat.le_refl _)]) c
 have h2:(yK (pS bs) k (Value.int .u8 (c.toNat:Int)).cells).size=bs.length:=by
  have e:=arrC_size bs
  have e2:(pS bs).toList.length=bs.length:=by rw [←e];simp
  unfold yK
  simp [Value.cells,e2]
  omega
 apply Array.toList_inj.1
 rw [List.length_set,Nat.mul_one,List.take_of_length_le (by rw [Array.length_toList,h2];exact Nat.le_refl _)] at h
 rw [h];unfold pS;simp
section
variable {P:Program}{o:Oper}
theorem run_slarr {ρ:Operand->Value}{t e:TypeId}{x:Operand}{b n sz:Nat}(ho:o.op= .slice t x none none none)(hx:ρ x= .pointer (some ⟨b,0,none⟩))
  (hu:P.underlying t=some (.array n e)) (hs:(P.info? e).map (·.size)=some sz) (w:World):(execOp ρ o).run P w= .ok (.value (.slice (some ⟨b,0,none⟩) n n)) w:=by
 cases he:P.info? e with
 |none=>rw [he] at hs;cases hs
 |some i=>
  unfold execOp
  simp [ho,hx,Instr.sliceAt,Instr.sureAddr,Instr.slice,Instr.sliceBounds,Instr.sliceBound,Sem.run_bind,asIntOf,run_underlying hu,sizeOf,typeInfo,he,yY]
theorem run_shr64z {ρ:Operand->Value}{t t':TypeId}{a b:Operand}{x:UInt64}{yk:IntKind}{n:Nat}{z:Int}(ho:o.op= .binOp .shr t a b t')(hx:ρ a= .int .u64 (x.toNat:Int))(hy:ρ b= .int yk z)(hz:z=(n:Int))(hn:n<64)(w:World):(execOp ρ o).run P w= .ok (.value (.int .u64 ((x>>>UInt64.ofNat n).toNat:Int))) w:=
 bY ho hx (by rw [hy,hz]) hn w
end
theorem Own.arr {M:List Nat}{W w:World}{L:List Blk}(hO:Own M W w L){b:Nat}{bs:YL}{T:TypeId}(h:(⟨b,pS bs,T⟩:Blk)∈L):Reads u8C w w.heap.size (some ⟨b,0,none⟩) bs:=
 Reads.lit9 (hO.held _ h) (by unfold pS;simp)
end
section
theorem d9rot13_any (x:UInt64)(W:World):YC 126 #[.int .u64 (x.toNat:Int),YI 13] W (YR (.int .u64 ((fT x).toNat:Int)) W):=by
 refine Z2 (n:=17) Tryz.func126 rfl (ZO (Zv (.int .u64 0) (ZR (Zv (YI 13) (Zv (.int .u64 13) (Zv (.int .u64 13) (Zv (.int .u64 13) ?_)))))))
 refine ZR (Zv (.int .u64 (x.toNat:Int)) (Zv (.int .u64 13) (yW (.int .u64 ((x<<<UInt64.ofNat 13).toNat:Int)) Kr (run_shl64 (x:=x) (yk:= .u64) (n:=13) rfl Kr Kr (by decide)) (Zv (.int .u64 (x.toNat:Int)) (Zv (.int .u64 13) (Zv (.int .u64 51) (yW (.int .u64 ((x>>>UInt64.ofNat 51).toNat:Int)) Kr (bY (x:=x) (yk:= .u64) (n:=51) rfl Kr Kr (by decide)) (yW (.int .u64 (((x<<<UInt64.ofNat 13)|||(x>>>UInt64.ofNat 51)).toNat:Int)) Kr (run_or64 (x:=(x<<<UInt64.ofNat 13)) (y:=(x>>>UInt64.ofNat 51)) rfl Kr Kr) ?_))))))))
 exact Zv (.int .u64 (((x<<<UInt64.ofNat 13)|||(x>>>UInt64.ofNat 51)).toNat:Int)) (ZN (xK (ZF (.int .u64 (((x<<<UInt64.ofNat 13)|||(x>>>UInt64.ofNat 51)).toNat:Int)) Tryz.results126 (λw hO=>⟨by rw [show fT x=((x<<<UInt64.ofNat 13)|||(x>>>UInt64.ofNat 51)) from rfl],hO.below⟩))))
theorem d9Sum_any (A:Option Addr)(cap:Nat)(l:YL)(W:World)(hv:Reads u8C W W.heap.size A l)(hn:l.length<=1000000):YC 65 #[.slice A l.length cap] W (YR (.int .u64 ((bI l).toNat:Int)) W):=by
 refine Z2 (n:=23) Tryz.func65 rfl (ZO (Zv (.int .u64 0) (ZR (Zv (.int .u64 11400714819323198485) (ZN (zV ?_))))))
 refine ZO (Zv (.slice A l.length cap) (Zv (YI (l.length:Int)) (Zv (YI 0) (ZN (kH (dD (λL f m=>∃ (k:Nat) (j:Nat->Value),(k<=l.length)/\L=[]/\f=mP j [(0,.slice A l.length cap),(3,.int .u64 ((yM l k).toNat:Int)),(6,.slice A l.length cap),(7,YI (l.length:Int)),(8,YI (k:Int))]/\m=l.length-k) (l.length-0) ⟨0,_,Nat.zero_le _,rfl,ZU,rfl⟩ ?_))))))
 rintro L f m ⟨k,j,hrel,rfl,rfl,rfl⟩
 refine zV (zT ?_)
 by_cases h1:(k:Int)<(l.length:Int)
 ·have hk:k<l.length:=by omega
  obtain ⟨bp,off,hA,hlt,hcell⟩:=hv Om
  obtain ⟨s,hs⟩:∃ s,l[k]=s:=⟨_,rfl⟩
  refine Zg h1 (ZN (zV (Zt (ZB (zV (kH (ZO (yW (Zp bp (off+k*1)) Kr (ZA (b:=bp) (off:=off) (c:=cap) (n:=l.length) (k:= .i64) (j:=(k:Int)) (e:=5) (sz:=1) hA) ?_))))))))
  refine Zo (.int .u8 (s.toNat:Int)) (a:=⟨bp,off+k*1,none⟩) (λw hO=>qI (ty:=5) u8C_len (λj u h=>(hO.below.cell (p:=⟨bp,off+j,none⟩) hlt).trans (hcell j u h)) k 0 hk Om _ (by rw [hs];kernel_rfl)) (Zv (.int .u8 (s.toNat:Int)) (ZN (zT (Zv (.int .u64 ((yM l k).toNat:Int)) (Zv (.int .u8 (s.toNat:Int)) (yW (.int .u64 (((s).toUInt64).toNat:Int)) Kr (run_to64 (x:=s) rfl Kr (by rw [Tryz.underlying5];rfl) Tryz.underlying45) (yW (.int .u64 (((yM l k)^^^(s).toUInt64).toNat:Int)) Kr (run_xor64 (x:=(yM l k)) (y:=(s).toUInt64) rfl Kr Kr) (Zc (k:=126) (args:= #[.int .u64 (((yM l k)^^^(s).toUInt64).toNat:Int),YI 13]) (.int .u64 ((fT ((yM l k)^^^(s).toUInt64)).toNat:Int)) (λw _=>d9rot13_any ((yM l k)^^^(s).toUInt64) w) (yW (.int .u64 (((fT ((yM l k)^^^(s).toUInt64))*(18397679294719823053:UInt64)).toNat:Int)) Kr (run_mul64 (x:=(fT ((yM l k)^^^(s).toUInt64))) (y:=(18397679294719823053:UInt64)) rfl Kr Kr) (Zv (.int .u64 (((fT ((yM l k)^^^(s).toUInt64))*(18397679294719823053:UInt64)).toNat:Int)) ?_))))))))))
  refine vF (vY (x3 (zT (Zu (k:= .i64) (((k+1:Nat):Int)) (IntWalk.i64_in _ Om) (Zv (YI ((k+1:Nat):Int)) (vF ?_))))))
  have hstep:((fT ((yM l k)^^^(s).toUInt64))*(18397679294719823053:UInt64))=yM l (k+1):=by rw [←dMixK_step hk,hs];rfl
  rw [hstep]
  exact vX (m':=l.length-(k+1)) Om ⟨k+1,_,by omega,rfl,ZU,rfl⟩
 refine Zh h1 (ZN (zV (Zf (dE (kB (xY (k8 (x3 (zV (zT ?_))))))))))
 exact Zv (.int .u64 ((yM l k).toNat:Int)) (Zv (.int .u64 ((yM l k).toNat:Int)) (yW (.int .u64 (((yM l k)>>>UInt64.ofNat 29).toNat:Int)) Kr (bY (x:=(yM l k)) (yk:= .u64) (n:=29) rfl Kr Kr (by decide)) (yW (.int .u64 (((yM l k)^^^((yM l k)>>>UInt64.ofNat 29)).toNat:Int)) Kr (run_xor64 (x:=(yM l k)) (y:=((yM l k)>>>UInt64.ofNat 29)) rfl Kr Kr) (Zv (.int .u64 (((yM l k)^^^((yM l k)>>>UInt64.ofNat 29)).toNat:Int)) (ZN (xK (ZF (.int .u64 (((yM l k)^^^((yM l k)>>>UInt64.ofNat 29)).toNat:Int)) Tryz.results65 (λw hO=>⟨by rw [show bI l=((yM l k)^^^((yM l k)>>>UInt64.ofNat 29)) from by unfold bI dEnd;rw [←dMixK_all (l:=l) (k:=k) Om];rfl],hO.below⟩))))))))
end
section
set_option linter.unnecessarySimpa false
theorem wd_ne' {s:YL}(h:wdL s=true):s≠[]:=λe=>by subst e;exact absurd h (by decide)
def rcB (r:Rv)(b:Nat):Blk:=⟨b,(rvC r).toArray,29⟩
def brB (x:Bv)(b:Nat):Blk:=⟨b,(bvC x).toArray,85⟩
def ftB (x:Fv)(b:Nat):Blk:=⟨b,(fvC x).toArray,87⟩
theorem ge_of {W w:World}{R o:List Blk}(h:Own [] W w (R++o)):∀ x∈o,W.heap.size<=x.b:=λx hx=>(h.base x (List.mem_append_right _ hx)).elim id λq=>by simp at q
theorem qText_any (r:Rv)(W:World)(hr:RcIn W W.heap.size r)(hfe:∀ n∈r.needs,∀ u∈n.any,∀ s∈u.fs,s≠[])(ht:(kA r.rt).length<=100000000)(hK:RecLib W):YC 97 #[rvV r] W (YR (.string (mkS (kA r.rt))) W):=by
 have hT:kA r.rt=jC r.rt++r.needs.flatMap (λn=>kT n.nt)++r.bars.flatMap (λb=>wM b.bt)++r.fts.flatMap (λf=>gE f.ft):=by
  unfold kA;simp only [Rv.rt,yI,List.flatMap_map]
 have hl:=congrArg List.length hT
 simp only [List.length_append] at hl
 have hsn:=hr.sn
 have hnn:=hr.nn;have hnb:=hr.nb;have hfn:=hr.fts.n
 have hH:jC r.rt=zF 32 [tC,r.name,r.ver.print]++[10]:=by
  show txPack++r.name++[32]++r.ver.print++[10]=_
  simp [zF,txPack,tC]
 have hHl:=congrArg List.length hH
 simp only [List.length_append,List.length_cons,List.length_nil] at hHl
 have hP:∀ w,YB W w->YC 157 #[yN r.ver] w (YR (.string (mkS r.ver.print)) w):=λw hb=>vprint_any r.ver w hsn.2.1 hsn.2.2 (hK.on hb).lib.tab
 refine z8 Tryz.func97 (zQ [] λb1=>zB [] λb3=>x5 7 [] [rcB r b1] (λw hO=>hO.past 1 _) (zY [0,0] 4 (z6 (v:= .string (mkS r.ver.print)) [] (λw hO=>hP w hO.below) (zY [] 5 (gF 3 9 #[.string (mkS tC),.string (mkS r.name),.string (mkS r.ver.print)] λg=>zY [] 6 ?_)))))
 refine xh_callL [⟨g, #[.string (mkS tC),.string (mkS r.name),.string (mkS r.ver.print)],9⟩,⟨b3, #[.pointer none,.slice none 0 0],186⟩,rcB r b1] [rcB r b1] ([⟨g, #[.string (mkS tC),.string (mkS r.name),.string (mkS r.ver.print)],9⟩]++[⟨b3, #[.pointer none,.slice none 0 0],186⟩]) [rcB r b1] (λw hO=>hO.perm ((List.Perm.cons _ (List.Perm.swap ..)).trans (List.Perm.swap ..))) (λo w hO=>hO.sublist (List.sublist_append_left _ _)) (q_line b3 [] [tC,r.name,r.ver.print] _ [rcB r b1] _ _ (BuR.new b3) (qlit g 3 _ _ rfl rfl Om) (by simp) Om (by simp) (by simp [zF,tC])) λv1 o1 ⟨ob1,k1,k2⟩=> ?_
 subst k2
 rw [List.nil_append,←hH] at k1
 refine zK [0] (rcB r b1::ob1) (λw hO=>(hO.past 0 (rcB r b1::⟨g, #[.string (mkS tC),.string (mkS r.name),.string (mkS r.ver.print)],9⟩::ob1)).swap.past 1 _) (zL (α:=Nat×List Blk) (λx=>[(1,Zp b1 0),(3,Zp b3 0),(18,.slice r.nA r.needs.length r.nc),(19,YI (r.needs.length:Int)),(20,YI (x.1:Int))]) (λx=>rcB r b1::x.2) (λx m=>(x.1<=r.needs.length/\BuR b3 (jC r.rt++(r.needs.take x.1).flatMap (λn=>kT n.nt)) x.2)/\m=r.needs.length-x.1) (0,ob1) r.needs.length [] ⟨⟨Nat.zero_le _,by simp only [List.take_zero,List.flatMap_nil,List.append_nil];exact k1⟩,rfl⟩ ?_)
 rintro ⟨i,o⟩ mm gg kk ⟨⟨hi,ho⟩,hmm⟩ nx hkk
 subst hkk
 replace hi:i<=r.needs.length:=hi
 replace ho:BuR b3 (jC r.rt++(r.needs.take i).flatMap (λn=>kT n.nt)) o:=ho
 refine zA 21 [] ((i:Int)<(r.needs.length:Int)) (λh21=> ?_) (λh21=> ?_)
 ·have hj:i<r.needs.length:=by omega
  obtain ⟨eb,eo,hA,hel⟩:=hr.needs.elem w6 i hj
  have hpt:=fF (λn:Nv=>kT n.nt) (l:=r.needs) (i+1)
  rw [wO (λn:Nv=>kT n.nt) hj,List.length_append] at hpt
  have hst:=wO (λn:Nv=>kT n.nt) hj
  have hsm:r.needs[i]∈r.needs:=List.getElem_mem hj
  have hel0:∀ w,YB W w->(loadVar 83 ⟨eb,eo+i*3+0,none⟩).run YP w= .ok (nvV r.needs[i]) w:=λw hw=>hel w hw _ 0 _ Kr
  have hra:=hr.any _ hsm;have hrf:=hr.wfs _ hsm;have hna:=hr.na _ hsm;have hnf:=hr.nf _ hsm;have hsw:=hr.sw _ hsm;have hff:=hfe _ hsm
  have hw2:jC r.rt++(r.needs.take i).flatMap (λn=>kT n.nt)++kT r.needs[i].nt=jC r.rt++(r.needs.take (i+1)).flatMap (λn=>kT n.nt):=by rw [hst,List.append_assoc]
  have hpl:(jC r.rt++(r.needs.take i).flatMap (λn=>kT n.nt)).length+(kT r.needs[i].nt).length<=300000000:=by rw [List.length_append];omega
  generalize r.needs[i]=n at hel0 hra hrf hna hnf hsw hff hw2 hpl
  generalize jC r.rt++(r.needs.take i).flatMap (λn=>kT n.nt)=done at*
  refine zH 22 [] hA r.needs.length r.nc i 3 hj (zG 23 [] 83 eb (eo+i*3+0) (nvV n) (λw hO=>hel0 w hO.below) (zB [] λb5=> ?_))
  have hc:∀ w,Own [] W w ([ndB n b5,rcB r b1]++o)->YC 158 #[.pointer (some ⟨b3,0,none⟩),nvV n] w λe w'=>∃ v o',e= .returned v/\BuR b3 (done++kT n.nt) o'/\Own (o.map Blk.b) w w' o':=λw hO=>(qNeedW_any W.heap.size b3 done n o w ho (Own.lentR hO) (ge_of hO) hO.size (hra.on hO.below (Nat.le_refl _)) (λu hu=>(hrf u hu).on hO.below (Nat.le_refl _)) hna hnf hff hsw hpl).mono λe w' ⟨o',q1,q2,q3⟩=>⟨_,o',q1,q2,q3⟩
  refine kG [0,0] (ndB n b5::rcB r b1::o) [ndB n b5,rcB r b1] o (λw hO=>hO) hc λv2 o2 q1=> ?_
  rw [hw2] at q1
  exact x_i 20 [] ((i+1:Nat):Int) (zK [] (rcB r b1::o2) (λw hO=>hO.past 1 _) (nx (i+1,o2) (r.needs.length-(i+1)) [] Om ⟨⟨hj,q1⟩,rfl⟩ Kr Kr))
 rw [List.take_of_length_le (show r.needs.length<=i by omega)] at ho
 clear nx
 have hNl:(jC r.rt++r.needs.flatMap (λn=>kT n.nt)).length=(jC r.rt).length+(r.needs.flatMap λn=>kT n.nt).length:=List.length_append
 generalize hN:jC r.rt++r.needs.flatMap (λn=>kT n.nt)=front at*
 refine zL (α:=Nat×List Blk) (λx=>[(1,Zp b1 0),(3,Zp b3 0),(28,.slice r.bA r.bars.length r.bc),(29,YI (r.bars.length:Int)),(30,YI (x.1:Int))]) (λx=>rcB r b1::x.2) (λx m=>(x.1<=r.bars.length/\BuR b3 (front++(r.bars.take x.1).flatMap (λb=>wM b.bt)) x.2)/\m=r.bars.length-x.1) (0,o) r.bars.length [0] ⟨⟨Nat.zero_le _,by simp only [List.take_zero,List.flatMap_nil,List.append_nil];exact ho⟩,rfl⟩ ?_
 clear ho
 rintro ⟨i2,o2⟩ m2 g2 kk ⟨⟨hi2,ho⟩,hm2⟩ nx hkk
 subst hkk
 replace hi2:i2<=r.bars.length:=hi2
 replace ho:BuR b3 (front++(r.bars.take i2).flatMap (λb=>wM b.bt)) o2:=ho
 refine zA 31 [] ((i2:Int)<(r.bars.length:Int)) (λh31=> ?_) (λh31=> ?_)
 ·have hj:i2<r.bars.length:=by omega
  obtain ⟨eb,eo,hA,hel⟩:=hr.bars.elem pR i2 hj
  have hpt:=fF (λb:Bv=>wM b.bt) (l:=r.bars) (i2+1)
  rw [wO (λb:Bv=>wM b.bt) hj,List.length_append] at hpt
  have hst:=wO (λb:Bv=>wM b.bt) hj
  have hsm:r.bars[i2]∈r.bars:=List.getElem_mem hj
  have hel0:∀ w,YB W w->(loadVar 85 ⟨eb,eo+i2*3+0,none⟩).run YP w= .ok (bvV r.bars[i2]) w:=λw hw=>hel w hw _ 0 _ Kr
  have hsb:=hr.sb _ hsm
  have hw2:front++(r.bars.take i2).flatMap (λb=>wM b.bt)++wM r.bars[i2].bt=front++(r.bars.take (i2+1)).flatMap (λb=>wM b.bt):=by rw [hst,List.append_assoc]
  have hpl:(front++(r.bars.take i2).flatMap (λb=>wM b.bt)).length+(wM r.bars[i2].bt).length<=300000000:=by rw [List.length_append];omega
  generalize r.bars[i2]=x at hel0 hsb hw2 hpl
  generalize front++(r.bars.take i2).flatMap (λb=>wM b.bt)=done at*
  have hbT:wM x.bt=zF 32 [wBar,x.name,x.rng]++[10]++mS wWhen x.wh:=by
   rw [maybe_when]
   show txBar++x.name++[32]++x.rng++[10]++vE x.wh=_
   simp [zF,txBar,wBar]
  have hbl:=congrArg List.length hbT
  simp only [List.length_append,List.length_cons,List.length_nil] at hbl
  refine zH 32 [] hA r.bars.length r.bc i2 3 hj (zG 33 [] 85 eb (eo+i2*3+0) (bvV x) (λw hO=>hel0 w hO.below) (zB [] λb7=>kD [0,0,0] 3 9 #[.string (mkS wBar),.string (mkS x.name),.string (mkS x.rng)] λg3=> ?_))
  refine kG [] (⟨g3, #[.string (mkS wBar),.string (mkS x.name),.string (mkS x.rng)],9⟩::brB x b7::rcB r b1::o2) [brB x b7,rcB r b1] ([⟨g3, #[.string (mkS wBar),.string (mkS x.name),.string (mkS x.rng)],9⟩]++o2) (λw hO=>own_rot3 hO) (q_line b3 done [wBar,x.name,x.rng] _ _ _ o2 ho (qlit g3 3 _ _ rfl rfl Om) Om Om (by simp) (by simp [zF,wBar])) λv2 o3 ⟨ob3,q1,q2⟩=> ?_
  subst q2
  refine kG [0] (brB x b7::rcB r b1::⟨g3, #[.string (mkS wBar),.string (mkS x.name),.string (mkS x.rng)],9⟩::ob3) [brB x b7,rcB r b1,⟨g3, #[.string (mkS wBar),.string (mkS x.name),.string (mkS x.rng)],9⟩] ob3 (λw hO=>hO) (q_maybe b3 _ wWhen x.wh _ ob3 q1 (by simp only [List.length_append,List.length_cons,List.length_nil];omega) (by decide) Om) λv3 o4 q3=> ?_
  rw [List.append_assoc] at q3
  refine x_i 30 [] ((i2+1:Nat):Int) (zK [] (rcB r b1::o4) (λw hO=>(hO.past 1 (rcB r b1::⟨g3, #[.string (mkS wBar),.string (mkS x.name),.string (mkS x.rng)],9⟩::o4)).swap.past 1 _) (nx (i2+1,o4) (r.bars.length-(i2+1)) [] Om ⟨⟨hj, ?_⟩,rfl⟩ Kr Kr))
  show BuR b3 (front++(r.bars.take (i2+1)).flatMap (λb=>wM b.bt)) o4
  rw [←hw2,hbT];exact q3
 rw [List.take_of_length_le (show r.bars.length<=i2 by omega)] at ho
 clear nx
 have hBl:(front++r.bars.flatMap (λb=>wM b.bt)).length=front.length+(r.bars.flatMap λb=>wM b.bt).length:=List.length_append
 generalize hN2:front++r.bars.flatMap (λb=>wM b.bt)=fore at*
 refine zL (α:=Nat×List Blk) (λx=>[(1,Zp b1 0),(3,Zp b3 0),(45,.slice r.fA r.fts.length r.fc),(46,YI (r.fts.length:Int)),(47,YI (x.1:Int))]) (λx=>rcB r b1::x.2) (λx m=>(x.1<=r.fts.length/\BuR b3 (fore++(r.fts.take x.1).flatMap (λf=>gE f.ft)) x.2)/\m=r.fts.length-x.1) (0,o2) r.fts.length [0] ⟨⟨Nat.zero_le _,by simp only [List.take_zero,List.flatMap_nil,List.append_nil];exact ho⟩,rfl⟩ ?_
 clear ho
 rintro ⟨i3,o3⟩ m3 g3 kk ⟨⟨hi3,ho⟩,hm3⟩ nx hkk
 subst hkk
 replace hi3:i3<=r.fts.length:=hi3
 replace ho:BuR b3 (fore++(r.fts.take i3).flatMap (λf=>gE f.ft)) o3:=ho
 refine zA 48 [] ((i3:Int)<(r.fts.length:Int)) (λh48=> ?_) (λh48=> ?_)
 rotate_left
 ·rw [List.take_of_length_le (show r.fts.length<=i3 by omega)] at ho
  have hR:fore++r.fts.flatMap (λf=>gE f.ft)=kA r.rt:=hT.symm
  rw [hR] at ho
  refine x_callO [] (rcB r b1::o3) (Rr:=λv L'=>v= .string (mkS (kA r.rt))/\L'=[]) (λw hO=>(rstring_any b3 (kA r.rt) o3 W w ho (hO.past 1 _) (λe=>by rw [e] at hl;simp only [List.length_nil] at hl;omega)).mono λe w' ⟨q1,q2⟩=>⟨_,[],q1,⟨rfl,rfl⟩,q2⟩) λv4 L4 ⟨q1,q2⟩=> ?_
  subst q1;subst q2
  exact z7 [] (.string (mkS (kA r.rt))) λw hO=>⟨rfl,hO.below⟩
 have hj:i3<r.fts.length:=by omega
 obtain ⟨eb,eo,hA,hel⟩:=hr.fts.top.elem vP i3 hj
 have hpt:=fF (λf:Fv=>gE f.ft) (l:=r.fts) (i3+1)
 rw [wO (λf:Fv=>gE f.ft) hj,List.length_append] at hpt
 have hst:=wO (λf:Fv=>gE f.ft) hj
 have hsm:r.fts[i3]∈r.fts:=List.getElem_mem hj
 have hel0:∀ w,YB W w->(loadVar 87 ⟨eb,eo+i3*2+0,none⟩).run YP w= .ok (fvV r.fts[i3]) w:=λw hw=>hel w hw _ 0 _ Kr
 have hru:=hr.fts.each _ hsm;have hmu:=hr.fts.m _ hsm
 have hw2:fore++(r.fts.take i3).flatMap (λf=>gE f.ft)++gE r.fts[i3].ft=fore++(r.fts.take (i3+1)).flatMap (λf=>gE f.ft):=by rw [hst,List.append_assoc]
 have hpl:(fore++(r.fts.take i3).flatMap (λf=>gE f.ft)).length+(gE r.fts[i3].ft).length<=300000000:=by rw [List.length_append];omega
 generalize r.fts[i3]=x at hel0 hru hmu hw2 hpl
 generalize fore++(r.fts.take i3).flatMap (λf=>gE f.ft)=done at*
 have hfT:gE x.ft=zF 32 (kN::x.name::x.of)++[10]:=rfl
 have hfl:=congrArg List.length hfT
 simp only [List.length_append,List.length_cons,List.length_nil] at hfl
 refine zH 49 [] hA r.fts.length r.fc i3 2 hj (zG 50 [] 87 eb (eo+i3*2+0) (fvV x) (λw hO=>hel0 w hO.below) (zB [] λb9=>kD [0,0] 2 9 #[.string (mkS kN),.string (mkS x.name)] λg5=> ?_))
 refine x_appR (g:=y7) [1] x.of [] [⟨g5, #[.string (mkS kN),.string (mkS x.name)],9⟩] (ftB x b9::rcB r b1::o3) (⟨g5, #[.string (mkS kN),.string (mkS x.name)],9⟩::ftB x b9::rcB r b1::o3) (cp:=x.cap) (λw hO=>hO) zO strC_one (λw hO=>hru.on hO.below hO.below.size) (sl_block (N:=2) rfl (by unfold maxLen;omega)) Om λv' o' h=> ?_
 have hS:SlT v' (kN::x.name::x.of) o':=by
  unfold SlT
  rw [xB,show (kN::x.name::x.of).length=2+x.of.length by simp only [List.length_cons];omega]
  exact h
 refine kG [] ([]++o'++(ftB x b9::rcB r b1::o3)) [ftB x b9,rcB r b1] (o'++o3) (λw hO=>hO.perm (by
  have:=List.perm_append_comm_assoc o' [ftB x b9,rcB r b1] o3
  simpa using this)) (q_line b3 done (kN::x.name::x.of) v' _ o' o3 ho hS Om Om (by simp only [List.length_cons];omega) (by simp [zF,kN])) λv2 o4 ⟨ob4,q1,q2⟩=> ?_
 subst q2
 rw [←hfT,hw2] at q1
 exact x_i 47 [] ((i3+1:Nat):Int) (zK [] (rcB r b1::ob4) (λw hO=>(hO.past 1 (rcB r b1::(o'++ob4))).sublist (List.Sublist.cons_cons _ (List.sublist_append_right _ _))) (nx (i3+1,ob4) (r.fts.length-(i3+1)) [] Om ⟨⟨hj,q1⟩,rfl⟩ Kr Kr))
theorem parts_ne {r:Rt}(h:(kZ r).1=0):∀ n∈r.needs,∀ u∈n.any,∀ s∈u.fs,s≠[]:=λn hn u hu s hs=>by
 have h1:=(parts_fine h).1 n hn
 have h2:=(need_fine h1).2.2.1 u hu
 have h3:=(wish_fine h2).2.2
 unfold wX at h3
 simp only [Bool.and_eq_true] at h3
 exact wd_ne' (List.all_eq_true.1 h3.1.1.1 s hs)
theorem qCheck_any (r:Rv)(W:World)(hr:RcIn W W.heap.size r)(hK:RecLib W):YC 52 #[rvV r] W (YR (.tuple #[YI (zP r.rt).1,YI (zP r.rt).2]) W):=by
 have hE:zP r.rt=if nmL r.name=false then (4,0) else if r.ver.may=false then (5,0) else if 8<r.needs.length\/8<r.bars.length then (3,0) else if (kZ r.rt).1≠0 then kZ r.rt else if 4096<(kA r.rt).length then (3,0) else (0,0):=by
  unfold zP;simp only [Rv.rt,List.length_map]
 have hsn:=hr.sn;have hnn:=hr.nn;have hnb:=hr.nb;have hfn:=hr.fts.n
 have c1:∀ w,YC 69 #[.string (mkS r.name)] w (YR (.bool (nmL r.name)) w):=λw=>nQ r.name w hsn.1
 have c2:∀ w,YC 102 #[yN r.ver] w (YR (.bool r.ver.may) w):=λw=>pM r.ver w (by show r.pre.length<_;omega) (by show r.bld.length<_;omega)
 refine z8 Tryz.func52 (zQ [] λb1=>z6 (v:= .bool (nmL r.name)) [0] (λw hO=>c1 w) (zX 16 (nmL r.name) (λe1=> ?_) (λe1=> ?_)))
 rotate_left
 ·exact yU [] (YI 4) (YI 0) λw hO=>⟨by rw [hE,if_pos e1],hO.below⟩
 rw [if_neg (by simp [e1])] at hE
 refine z6 (v:= .bool r.ver.may) [0] (λw hO=>c2 w) (zX 21 r.ver.may (λe2=> ?_) (λe2=> ?_))
 rotate_left
 ·exact yU [] (YI 5) (YI 0) λw hO=>⟨by rw [hE,if_pos e2],hO.below⟩
 rw [if_neg (by simp [e2])] at hE
 refine zA 27 [0] ((r.needs.length:Int)>8) (λh27=> ?_) (λh27=> ?_)
 ·exact yU [] (YI 3) (YI 0) λw hO=>⟨by rw [hE,if_pos (.inl Om)],hO.below⟩
 refine zA 32 [0] ((r.bars.length:Int)>8) (λh32=> ?_) (λh32=> ?_)
 ·exact yU [] (YI 3) (YI 0) λw hO=>⟨by rw [hE,if_pos (.inr Om)],hO.below⟩
 rw [if_neg Om] at hE
 have hP:=partsE_is r
 refine zL (α:=Nat) (λi=>[(1,Zp b1 0),(35,.slice r.nA r.needs.length r.nc),(36,YI (r.needs.length:Int)),(37,YI (i:Int))]) (λ_=>[rcB r b1]) (λi m=>(i<=r.needs.length∧∀ n∈r.needs.take i,g8 r.name n.nt=0)/\m=r.needs.length-i) 0 r.needs.length [0] ⟨⟨Nat.zero_le _,λy h=>by simp at h⟩,rfl⟩ ?_
 rintro i mm g kk ⟨⟨hi,hno⟩,hmm⟩ nx hkk
 subst hkk
 refine zA 38 [] ((i:Int)<(r.needs.length:Int)) (λh38=> ?_) (λh38=> ?_)
 ·have hj:i<r.needs.length:=by omega
  obtain ⟨eb,eo,hA,hel⟩:=hr.needs.elem w6 i hj
  have hgo:=yL (p:=λn:Nv=>g8 r.name n.nt=0) hj hno
  have hat:=d9 (f:=λn:Nv=>g8 r.name n.nt) 0 hj hno
  have hsm:r.needs[i]∈r.needs:=List.getElem_mem hj
  have hel0:∀ w,YB W w->(loadVar 83 ⟨eb,eo+i*3+0,none⟩).run YP w= .ok (nvV r.needs[i]) w:=λw hw=>hel w hw _ 0 _ Kr
  have hra:=hr.any _ hsm;have hrf:=hr.wfs _ hsm;have hna:=hr.na _ hsm;have hnf:=hr.nf _ hsm;have hsw:=hr.sw _ hsm;have hsu:=hr.su _ hsm
  generalize r.needs[i]=n at hel0 hgo hat hra hrf hna hnf hsw hsu
  have hc:∀ w,YB W w->YC 103 #[nvV n,.string (mkS r.name)] w (YR (YI (g8 r.name n.nt)) w):=λw hb=>qNeed_any r.name n w (hra.on hb hb.size) (λu hu=>(hrf u hu).on hb hb.size) hna hnf hsw hsu (hK.on hb)
  refine zH 40 [] hA r.needs.length r.nc i 3 hj (zG 41 [] 83 eb (eo+i*3+0) (nvV n) (λw hO=>hel0 w hO.below) (zB [] λb5=>z6 (v:=YI (g8 r.name n.nt)) [0,0,1] (λw hO=>hc w hO.below) (kW 47 [] (g8 r.name n.nt=0) (λh=> ?_) (λh=> ?_))))
  ·exact x_i 37 [] ((i+1:Nat):Int) (zK [] [rcB r b1] (λw hO=>hO.past 1 _) (nx (i+1) (r.needs.length-(i+1)) [] Om ⟨⟨hj,hgo h⟩,rfl⟩ Kr Kr))
  ·refine yU [] (YI (g8 r.name n.nt)) (YI (i:Int)) λw hO=>⟨?_,hO.below⟩
   rw [hat h] at hP
   rw [if_pos h] at hP
   rw [hE,if_pos (by rw [hP];exact h),hP];simp only [Nat.zero_add]
 have h1:=gU (k:=0) (xM (p:=λn:Nv=>g8 r.name n.nt=0) (show r.needs.length<=i by omega) hno)
 rw [h1,if_neg (by simp)] at hP
 clear nx
 refine zL (α:=Nat) (λi=>[(1,Zp b1 0),(52,.slice r.bA r.bars.length r.bc),(53,YI (r.bars.length:Int)),(54,YI (i:Int))]) (λ_=>[rcB r b1]) (λi m=>(i<=r.bars.length∧∀ b∈r.bars.take i,jV r.name b.bt=0)/\m=r.bars.length-i) 0 r.bars.length [0] ⟨⟨Nat.zero_le _,λy h=>by simp at h⟩,rfl⟩ ?_
 rintro i2 m2 g2 kk ⟨⟨hi2,hno2⟩,hmm2⟩ nx hkk
 subst hkk
 refine zA 55 [] ((i2:Int)<(r.bars.length:Int)) (λh55=> ?_) (λh55=> ?_)
 ·have hj:i2<r.bars.length:=by omega
  obtain ⟨eb,eo,hA,hel⟩:=hr.bars.elem pR i2 hj
  have hgo:=yL (p:=λb:Bv=>jV r.name b.bt=0) hj hno2
  have hat:=d9 (f:=λb:Bv=>jV r.name b.bt) 0 hj hno2
  have hsm:r.bars[i2]∈r.bars:=List.getElem_mem hj
  have hel0:∀ w,YB W w->(loadVar 85 ⟨eb,eo+i2*3+0,none⟩).run YP w= .ok (bvV r.bars[i2]) w:=λw hw=>hel w hw _ 0 _ Kr
  have hsb:=hr.sb _ hsm
  generalize r.bars[i2]=b at hel0 hgo hat hsb
  have hc:∀ w,YB W w->YC 104 #[bvV b,.string (mkS r.name)] w (YR (YI (jV r.name b.bt)) w):=λw hb=>qBar_any b r.name w hsb (hK.on hb)
  refine zH 57 [] hA r.bars.length r.bc i2 3 hj (zG 58 [] 85 eb (eo+i2*3+0) (bvV b) (λw hO=>hel0 w hO.below) (zB [] λb8=>z6 (v:=YI (jV r.name b.bt)) [0,0,1] (λw hO=>hc w hO.below) (kW 64 [] (jV r.name b.bt=0) (λh=> ?_) (λh=> ?_))))
  ·exact x_i 54 [] ((i2+1:Nat):Int) (zK [] [rcB r b1] (λw hO=>hO.past 1 _) (nx (i2+1) (r.bars.length-(i2+1)) [] Om ⟨⟨hj,hgo h⟩,rfl⟩ Kr Kr))
  ·refine yU [] (YI (jV r.name b.bt)) (YI (i2:Int)) λw hO=>⟨?_,hO.below⟩
   rw [hat h] at hP
   rw [if_pos h] at hP
   rw [hE,if_pos (by rw [hP];exact h),hP];simp only [Nat.zero_add]
 have h2:=gU (k:=0) (xM (p:=λb:Bv=>jV r.name b.bt=0) (show r.bars.length<=i2 by omega) hno2)
 rw [h2,if_neg (by simp)] at hP
 clear nx
 have hM:∀ w,YB W w->YC 105 #[.slice r.fA r.fts.length r.fc] w (YR (.bool (bH (yI r.fts))) w):=λw hb=>fMay_at r.fA r.fc r.fts w (hr.fts.on hb hb.size)
 refine z6 (v:= .bool (bH (yI r.fts))) [0] (λw hO=>hM w hO.below) (zX 70 (bH (yI r.fts)) (λe3=> ?_) (λe3=> ?_))
 rotate_left
 ·rw [if_pos e3] at hP
  exact yU [] (YI 11) (YI 0) λw hO=>⟨by rw [hE,if_pos (by rw [hP];decide),hP],hO.below⟩
 rw [if_neg (by simp [e3])] at hP
 refine zL (α:=Nat) (λi=>[(1,Zp b1 0),(73,.slice r.fA r.fts.length r.fc),(74,YI (r.fts.length:Int)),(75,YI (i:Int))]) (λ_=>[rcB r b1]) (λi m=>(i<=r.fts.length∧∀ f∈r.fts.take i,yQ (xG r.rt.needs) f.of=0)/\m=r.fts.length-i) 0 r.fts.length [0] ⟨⟨Nat.zero_le _,λy h=>by simp at h⟩,rfl⟩ ?_
 rintro i3 m3 g3 kk ⟨⟨hi3,hno3⟩,hmm3⟩ nx hkk
 subst hkk
 refine zA 76 [] ((i3:Int)<(r.fts.length:Int)) (λh76=> ?_) (λh76=> ?_)
 ·have hj:i3<r.fts.length:=by omega
  obtain ⟨eb,eo,hA,hel⟩:=hr.fts.top.elem vP i3 hj
  have hgo:=yL (p:=λf:Fv=>yQ (xG r.rt.needs) f.of=0) hj hno3
  have hat:=d9 (f:=λf:Fv=>yQ (xG r.rt.needs) f.of) 0 hj hno3
  have hsm:r.fts[i3]∈r.fts:=List.getElem_mem hj
  have hel0:∀ w,YB W w->(loadVar 87 ⟨eb,eo+i3*2+0,none⟩).run YP w= .ok (fvV r.fts[i3]) w:=λw hw=>hel w hw _ 0 _ Kr
  have hru:=hr.fts.each _ hsm;have hmu:=hr.fts.m _ hsm;have htu:=hr.fts.text _ hsm
  generalize r.fts[i3]=u at hel0 hgo hat hru hmu htu
  have hc:∀ w,YB W w->YC 106 #[.slice u.A u.of.length u.cap,.slice r.nA r.needs.length r.nc] w (YR (YI (yQ (xG r.rt.needs) u.of)) w):=λw hb=>qItems_any u.A u.cap u.of r.nA r.nc r.needs w (hru.on hb hb.size) Om htu (hr.needs.on hb hb.size) hnn λn hn=>(hr.any n hn).on hb hb.size
  refine zH 78 [] hA r.fts.length r.fc i3 2 hj (zG 79 [] 87 eb (eo+i3*2+0) (fvV u) (λw hO=>hel0 w hO.below) (zB [] λb9=>z6 (v:=YI (yQ (xG r.rt.needs) u.of)) [0,0,1] (λw hO=>hc w hO.below) (kW 86 [] (yQ (xG r.rt.needs) u.of=0) (λh=> ?_) (λh=> ?_))))
  ·exact x_i 75 [] ((i3+1:Nat):Int) (zK [] [rcB r b1] (λw hO=>hO.past 1 _) (nx (i3+1) (r.fts.length-(i3+1)) [] Om ⟨⟨hj,hgo h⟩,rfl⟩ Kr Kr))
  ·refine yU [] (YI (yQ (xG r.rt.needs) u.of)) (YI (i3:Int)) λw hO=>⟨?_,hO.below⟩
   rw [hat h] at hP
   rw [hE,if_pos (by rw [hP];exact h),hP];simp only [Nat.zero_add]
 rw [gU (k:=0) (xM (p:=λf:Fv=>yQ (xG r.rt.needs) f.of=0) (show r.fts.length<=i3 by omega) hno3)] at hP
 clear nx
 have h33:(kZ r.rt).1=0:=by rw [hP]
 rw [if_neg (λh=>h h33)] at hE
 have hs:(kA r.rt).length<=100000000:=rec_small (r:=r.rt) hsn.1 (vprint_short hsn.2.1 hsn.2.2) (by simp only [Rv.rt,List.length_map];omega) (by simp only [Rv.rt,List.length_map];omega) h33 (λf hf s hs=>by
  obtain ⟨y,hy,rfl⟩:=List.mem_map.1 hf
  exact hr.fts.text y hy s hs)
 have hne:=parts_ne h33
 have c4:∀ w,YB W w->YC 97 #[rvV r] w (YR (.string (mkS (kA r.rt))) w):=λw hb=>qText_any r w (hr.on hb hb.size) (λn hn u hu=>hne n.nt (List.mem_map.2 ⟨n,hn,rfl⟩) u.wt (List.mem_map.2 ⟨u,hu,rfl⟩)) hs (hK.on hb)
 have hz:(mkS (kA r.rt)).size=(kA r.rt).length:=bM _
 refine z6 (v:= .string (mkS (kA r.rt))) [0] (λw hO=>c4 w hO.below) (zA 93 [] (((mkS (kA r.rt)).size:Int)>4096) (λh93=> ?_) (λh93=> ?_))
 ·exact yU [] (YI 3) (YI 0) λw hO=>⟨by rw [hE,if_pos Om],hO.below⟩
 ·exact yU [] (YI 0) (YI 0) λw hO=>⟨by rw [hE,if_neg Om],hO.below⟩
theorem qPrint_any (r:Rv)(W:World)(hr:RcIn W W.heap.size r)(hK:RecLib W):YC 48 #[rvV r] W (YR (.tuple #[.string (mkS (dX r.rt)),YI (zP r.rt).1]) W):=by
 have c1:∀ w,YB W w->YC 52 #[rvV r] w (YR (.tuple #[YI (zP r.rt).1,YI (zP r.rt).2]) w):=λw hb=>qCheck_any r w (hr.on hb hb.size) (hK.on hb)
 refine z8 Tryz.func48 (zQ [] λb1=>z6 (v:= .tuple #[YI (zP r.rt).1,YI (zP r.rt).2]) [0] (λw hO=>c1 w hO.below) (kW 12 [] ((zP r.rt).1=0) (λh=> ?_) (λh=> ?_)))
 rotate_left
 ·exact yU [] (.string ⟨#[]⟩) (YI (zP r.rt).1) λw hO=>⟨by rw [show dX r.rt=[] from if_neg h];rfl,hO.below⟩
 have hne:=parts_ne (gK h).2.2.2.2.1
 have c2:∀ w,YB W w->YC 97 #[rvV r] w (YR (.string (mkS (kA r.rt))) w):=λw hb=>qText_any r w (hr.on hb hb.size) (λn hn u hu=>hne n.nt (List.mem_map.2 ⟨n,hn,rfl⟩) u.wt (List.mem_map.2 ⟨u,hu,rfl⟩)) (by have:=(gK h).2.2.2.2.2;omega) (hK.on hb)
 exact z6 (v:= .string (mkS (kA r.rt))) [0] (λw hO=>c2 w hO.below) (yU [] (.string (mkS (kA r.rt))) (YI 0) λw hO=>⟨by rw [show dX r.rt=kA r.rt from if_pos h,h],hO.below⟩)
theorem qSum_any (r:Rv)(W:World)(hr:RcIn W W.heap.size r)(hK:RecLib W):YC 70 #[rvV r] W (YR (.tuple #[.int .u64 (yZ r.rt),YI (zP r.rt).1]) W):=by
 have c1:∀ w,YB W w->YC 48 #[rvV r] w (YR (.tuple #[.string (mkS (dX r.rt)),YI (zP r.rt).1]) w):=λw hb=>qPrint_any r w (hr.on hb hb.size) (hK.on hb)
 refine z8 Tryz.func70 (zQ [] λb1=>z6 (v:= .tuple #[.string (mkS (dX r.rt)),YI (zP r.rt).1]) [0] (λw hO=>c1 w hO.below) (kW 12 [] ((zP r.rt).1=0) (λh=> ?_) (λh=> ?_)))
 rotate_left
 ·exact yU [] (.int .u64 0) (YI (zP r.rt).1) λw hO=>⟨by rw [show yZ r.rt=0 from if_neg h],hO.below⟩
 have hl:(kA r.rt).length<=4096:=(gK h).2.2.2.2.2
 have hp:dX r.rt=kA r.rt:=if_pos h
 rw [hp]
 refine x_bytes 15 [] (kA r.rt) (src:=9) (dst:=66) (e:=5) (x:= .tmp 14) λw0 w1 cap hO hB hb hlt hcap=> ?_
 have hb0:=hO.below
 have c2:∀ w,YB w1 w->YC 65 #[.slice (some ⟨w0.heap.size,0,none⟩) (kA r.rt).length cap] w (YR (.int .u64 ((bI (kA r.rt)).toNat:Int)) w):=λw hw=>d9Sum_any _ cap (kA r.rt) w (hB.reads.on hw hw.size) Om
 exact z6 (v:= .int .u64 ((bI (kA r.rt)).toNat:Int)) [] (λw hO=>c2 w hO.below) (yU [] (.int .u64 ((bI (kA r.rt)).toNat:Int)) (YI 0) λw hO2=>⟨by rw [show yZ r.rt=_ from if_pos h,h],hb0.trans ((hb.mono hb0.size).trans (hO2.below.mono (Nat.le_trans hb0.size (Nat.le_of_lt hlt))))⟩)
end
section
set_option linter.unnecessarySimpa false
def rdL (x:Rv)(n1 n2 n3:Value)(k rb:Nat):Blk:=⟨rb, #[.string (mkS x.name),YI x.maj,YI x.min,YI x.pat,.string (mkS x.pre),.string (mkS x.bld),n1,n2,n3,YI (k:Int)],69⟩
end
section
set_option linter.unnecessarySimpa false
end
section
set_option linter.unnecessarySimpa false
def layC:Array Value:=(lays.flatMap λl=>(laV l).cells.toList).toArray
structure LyAt (W:World):Prop where
 lt:0<W.heap.size
 held:∃ T,W.heap[(0:Nat)]?=some (.cells layC T)
end
section
set_option linter.unnecessarySimpa false
section
variable {M:List Nat}{P:Program}{n:Nat}{W:World}{Q:Exit->Act->World->Prop}{c:Xc}
end
structure TakeB (rb k:Nat)(x:Rv)(s:YL)(ob:List Blk)(W:World)(e:Ending)(w':World):Prop where
 ex:∃ b x' k' ob',e= .returned (.bool b)/\RdR rb k' x' ob'/\Own (ob.map Blk.b) W w' ob'/\(match takeIn x.rt k s lays with|some (y,kk)=>b=true/\x'.rt=y/\k'=kk|none=>b=false)
end
section
def noDef (o:Oper):Bool:=match o.op with
 | .defer _=>false
 |_=>true
section
variable {M:List Nat}{P:Program}{n:Nat}{W:World}{Q:Exit->Act->World->Prop}{c:Xc}
def xRg (c:Xc):Nat:=match c.top with
 | .code (.region id _ _)=>id
 |_=>0
def yo (c:Xc)(i:Nat):Oper:=match c.top with
 | .code (.region _ a _)=>a.getD i default
 |_=>default
def yF (d:Xc)(v0 v1:Value):Nat->Value:=upd (upd d.f (yo d 0).dst v0) (yo d 1).dst v1
def yF3 (d:Xc)(v0 v1:Value)(b:Bool):Nat->Value:=upd (upd (yF d v0 v1) (yo d 2).dst (.bool b)) (yo d 3).dst (.bool (!b))
def yA (d:Xc):Array Oper:= #[yo d 0,yo d 1,yo d 2,yo d 3]
end
end
section
def lnH (r:YL):YL:=if (zD 10 r).2.2 then (zD 10 r).1++[10] else r
def lnR (r:YL):YL:=if (zD 10 r).2.2 then (zD 10 r).2.1 else []
section
variable {M:List Nat}{P:Program}{n:Nat}{W:World}{Q:Exit->Act->World->Prop}{c:Xc}
end
def strB (B:Nat)(r:YL):Blk:=⟨B, #[.string (mkS r)],9⟩
end
section
def mkQ (P:Program)(fn:Func)(R:Ending->World->Prop):Exit->Act->World->Prop
 | .normal,a,w| .ret,a,w=>LeavesInM Fence.wide 0 P fn a.tmps R a.defers .returning w
 |_,_,_=>False
def rndQ (M1:List Nat)(B:Nat)(r:YL)(rel:YL->List Blk->Prop)(relx:List Blk->Prop)(Wr:World):Exit->Act->World->Prop
 | .normal,_,w=>∃ L',rel r L'/\Own M1 Wr w (strB B r::L')
 | .ret,_,w=>∃ L',relx L'/\Own M1 Wr w L'
 |_,_,_=>False
end
section
def resA:Nat->Rt->Nat->Nat->YL->Int×Rt×Nat
 |0,x,k,i,_=>(0,x,k)
 |f+1,x,k,i,r=>
  if r=[] then (0,x,k)
  else if (zD 10 r).2.2 then
   match takeIn x k (zD 10 r).1 lays with
   |some (y,kk)=>resA f y kk (i+1) (zD 10 r).2.1
   |none=>(((i+1:Nat):Int),x,k)
  else (((i+1:Nat):Int),x,k)
structure FewR (x:Rt)(m:Nat):Prop where
 n:x.needs.length<=m
 b:x.bars.length<=m
 f:x.fts.length<=m
 a:∀ n∈x.needs,n.any.length<=m
def badA (s:YL):Int:=if s=[] then 1 else (resA s.length nilT 0 0 s).1
def recA (s:YL):Rt:=(resA s.length nilT 0 0 s).2.1
end
section
set_option linter.unnecessarySimpa false
def findRF:Code->Code×Code
 | .rangeFunc _ _ a b=>(a,b)
 | .seq x y=>match findRF x with
  |(.skip,.skip)=>findRF y
  |r=>r
 | .block _ x=>findRF x
 |_=>(.skip,.skip)
def m4 (i:Nat):Code->Array Oper
 | .region j a _=>if j=i then a else #[]
 | .seq x y=>if (m4 i x).size=0 then m4 i y else m4 i x
 | .cond _ x y=>if (m4 i x).size=0 then m4 i y else m4 i x
 | .block _ x=>m4 i x
 | .rangeFunc _ _ x y=>if (m4 i x).size=0 then m4 i y else m4 i x
 |_=> #[]
section
variable {M:List Nat}{P:Program}{n:Nat}{W:World}{Q:Exit->Act->World->Prop}{c:Xc}
end
end
section
set_option linter.unnecessarySimpa false
def intB (b:Nat)(z:Int):Blk:=⟨b, #[YI z],3⟩
def tkV (rb:Nat):Value:= .func (.func 51) #[.pointer (some ⟨rb,0,none⟩)] #[]
def fnB (b rb:Nat):Blk:=⟨b, #[tkV rb],34⟩
structure RefB (rb:Nat)(s:YL)(ob:List Blk)(W:World)(e:Ending)(w':World):Prop where
 ex:∃ x' k' ob',e= .returned (YI (badA s))/\RdR rb k' x' ob'/\Own (ob.map Blk.b) W w' ob'/\(s≠[]->badA s=0->x'.rt=recA s/\FewR x'.rt 4096)
noncomputable abbrev qRF:Code×Code:=findRF (Tryz.f49.body.getD .skip)
noncomputable abbrev qRg (i:Nat):Array Oper:=m4 i (Tryz.f49.body.getD .skip)
structure RefI (rb b3 b4 b5:Nat)(s r:YL)(L:List Blk):Prop where
 ex:∃ x k i ob fu,L=intB b5 ((i:Nat):Int)::intB b4 0::fnB b3 rb::ob/\RdR rb k x ob/\InvA x.rt k/\FewR x.rt i/\i+r.length<=s.length/\r.length<=fu/\resA fu x.rt k i r=resA s.length nilT 0 0 s
structure RefX (rb b3 b4 b5:Nat)(s:YL)(L:List Blk):Prop where
 ex:∃ x k i ob,L=intB b5 i::intB b4 (badA s)::fnB b3 rb::ob/\RdR rb k x ob/\badA s≠0
def bLv (b3 b4 b5:Nat):List (Nat×Value):=[(3,.pointer (some ⟨b3,0,none⟩)),(4,.pointer (some ⟨b4,0,none⟩)),(5,.pointer (some ⟨b5,0,none⟩))]
noncomputable abbrev qAs:Oper:=(qRg 5).getD 0 default
noncomputable abbrev qSt:Oper:=(qRg 10).getD 0 default
def aLv (b3 b4 b5 B:Nat):List (Nat×Value):=[(3,.pointer (some ⟨b3,0,none⟩)),(4,.pointer (some ⟨b4,0,none⟩)),(5,.pointer (some ⟨b5,0,none⟩)),(12,.func (.func 149) #[] #[.pointer (some ⟨B,0,none⟩)])]
end
section
structure BndN (n:Nt):Prop where
 wh:n.wh.length<=5000
 opt:n.opt.length<=5000
 any:∀ u∈n.any,u.name.length<=5000/\u.rng.length<=5000/\u.fs.length<=5000∧∀ t∈u.fs,t.length<=5000
structure BndR (x:Rt):Prop where
 name:x.name.length<=5000
 pre:x.ver.pre.length<=1000000
 bld:x.ver.build.length<=1000000
 needs:∀ n∈x.needs,BndN n
 bars:∀ b∈x.bars,b.name.length<=5000/\b.rng.length<=5000/\b.wh.length<=5000
 fts:∀ f∈x.fts,f.name.length<=5000/\f.of.length<=5000∧∀ t∈f.of,t.length<=5000
end
section
set_option linter.unnecessarySimpa false
theorem rec_inn {x:Rv}{o1 o2 o4 o7 o8 L:List Blk}{M:List Nat}{W w:World}(h1:NsO x.nA x.nc x.needs o1 o2)(h4:Sl 85 3 (.slice x.bA x.bars.length x.bc) x.bars.length (x.bars.flatMap bvC) o4)(h7:FtO x.fA x.fc x.fts o7 o8)(hO:Own M W w L)(s1:∀ b∈o1,b∈L)(s2:∀ b∈o2,b∈L)(s4:∀ b∈o4,b∈L)(s7:∀ b∈o7,b∈L)(s8:∀ b∈o8,b∈L)(hB:BndR x.rt)(hF:FewR x.rt 4096):RcIn w w.heap.size x:=by
 obtain ⟨r1,r2⟩:=h1.reads hO s1 s2
 have hN:∀ n∈x.needs,BndN n.nt:=λn hn=>hB.needs n.nt (List.mem_map.2 ⟨n,hn,rfl⟩)
 have hA:∀ n∈x.needs,∀ u∈n.any,u.name.length<=5000/\u.rng.length<=5000/\u.fs.length<=5000∧∀ t∈u.fs,t.length<=5000:=λn hn u hu=>(hN n hn).any u.wt (List.mem_map.2 ⟨u,hu,rfl⟩)
 have hBr:∀ b∈x.bars,b.name.length<=5000/\b.rng.length<=5000/\b.wh.length<=5000:=λb hb=>hB.bars b.bt (List.mem_map.2 ⟨b,hb,rfl⟩)
 have hFt:∀ f∈x.fts,f.name.length<=5000/\f.of.length<=5000∧∀ t∈f.of,t.length<=5000:=λf hf=>hB.fts f.ft (List.mem_map.2 ⟨f,hf,rfl⟩)
 have l1:x.needs.length<=4096:=by have:=hF.n;unfold Rv.rt at this;simpa using this
 have l2:x.bars.length<=4096:=by have:=hF.b;unfold Rv.rt at this;simpa using this
 have l3:x.fts.length<=4096:=by have:=hF.f;simp only [Rv.rt,yI] at this;simpa using this
 refine ⟨r1,r2,λn hn u hu=> ?_,Sl.reads h4 rfl hO s4,⟨Sl.reads h7.top rfl hO s7,λf hf=> ?_,by omega,λf hf=>(hFt f hf).2.1,λf hf=>by have:=(hFt f hf).1;omega,λf hf t ht=>by have:=(hFt f hf).2.2 t ht;omega⟩,by omega,λn hn=> ?_,λn hn u hu=>(hA n hn u hu).2.2.1,by omega,⟨by have:=hB.name;show x.name.length<=_;exact Nat.le_trans this (by decide),hB.pre,hB.bld⟩,λn hn=>⟨Nat.le_trans (hN n hn).wh (by decide),Nat.le_trans (hN n hn).opt (by decide)⟩,λn hn u hu=>⟨by have:=(hA n hn u hu).1;omega,by have:=(hA n hn u hu).2.1;omega,λt ht=>by have:=(hA n hn u hu).2.2.2 t ht;omega⟩,λb hb=>by have:=hBr b hb;exact ⟨by omega,by omega,by omega⟩⟩
 ·obtain ⟨o,⟨⟨p1,p2,rfl,hp,he⟩⟩,ho⟩:=h1.each n hn
  obtain ⟨o',q1,q2⟩:=he u hu
  exact SlT.reads q1 rfl hO λb hb=>s2 b (ho b (List.mem_append_right _ (q2 b hb)))
 ·obtain ⟨o,ho,hs⟩:=h7.each f hf
  exact SlT.reads ho rfl hO λb hb=>s8 b (hs b hb)
 ·have:=hF.a n.nt (List.mem_map.2 ⟨n,hn,rfl⟩)
  unfold Nv.nt at this
  simp only [List.length_map] at this
  omega
section
variable {M:List Nat}{P:Program}{n:Nat}{W:World}{Q:Exit->Act->World->Prop}{c:Xc}
end
structure ParB (s:YL)(W:World)(e:Ending)(w':World):Prop where
 ex:∃ x ob',e= .returned (.tuple #[rvV x,YI (readT s).2.1,YI (readT s).2.2])/\x.rt=(readT s).1/\RecO x ob'/\BndR x.rt/\FewR x.rt 4096/\Own [] W w' ob'
def rv0:Rv:=⟨[],0,0,0,[],[],none,0,[],none,0,[],none,0,[]⟩
end
section
set_option linter.unnecessarySimpa false
theorem n7 {α β:Type}{f:α->β}{ys xs:List α}{y:α}{i:Nat}(hi:i<xs.length)(h:ys.map f=(xs.map f).take i)(hy:f y=f xs[i]):(ys++[y]).map f=(xs.map f).take (i+1):=by
 rw [List.map_append,h,List.take_succ_eq_append_getElem (by simpa using hi),List.map_singleton,hy,List.getElem_map]
theorem frS_any (A:Option Addr)(cap:Nat)(xs:List YL)(W:World)(hx:Reads y7 W W.heap.size A xs)(hn:xs.length<=5000)(hs:∀ x∈xs,x.length<=1000000):YC 331 #[.slice A xs.length cap,.func (.func 50) #[] #[]] W λe w'=>∃ v ob,e= .returned v/\(∃ A' c',v= .slice A' xs.length c'/\SlT (.slice A' xs.length c') xs ob)/\Own [] W w' ob:=by
 refine z8 Tryz.func331 (zK [] ([]++[]) (λw hO=>hO.past 0 _) ?_)
 refine zL (α:=Nat×Option Addr×Nat×List YL×List Blk) (λ(i,A',c',ys,o1)=>[(1,.func (.func 50) #[] #[]),(5,.slice A' ys.length c'),(8,.slice A xs.length cap),(9,YI (xs.length:Int)),(10,YI (i:Int))]) (λ(i,A',c',ys,o1)=>o1++[]) (λ(i,A',c',ys,o1) m=>(i<=xs.length/\ys.length=i/\ys=xs.take i/\SlT (.slice A' ys.length c') ys o1)/\m=xs.length-i) (0,none,0,[],[]) xs.length [] ⟨⟨Nat.zero_le _,rfl,rfl,Sl.nil _ _⟩,rfl⟩ ?_
 rintro ⟨i,A',c',ys,o1⟩ mm g kk ⟨⟨hi,hyl,hys,hL⟩,hmm⟩ nx hkk
 subst hkk
 refine zA 11 [] ((i:Int)<(xs.length:Int)) (λh11=> ?_) (λh11=> ?_)
 rotate_left
 ·have e:ys=xs:=by rw [hys,show i=xs.length by omega,List.take_length]
  subst e
  exact z7 [] (.slice A' ys.length c') λw hO=>⟨_,_,rfl,⟨A',c',rfl,hL⟩,(hO.past 0 (o1++[])).cast (by simp)⟩
 have hj:i<xs.length:=by omega
 have hsj:=hs _ (List.getElem_mem hj)
 have hst:ys++[xs[i]]=xs.take (i+1):=by rw [hys,List.take_succ_eq_append_getElem hj]
 obtain ⟨eb,eo,hA,hel⟩:=hx.elem zO i hj
 have h1':∀ w,YB W w->(loadVar 9 ⟨eb,eo+i*1+0,none⟩).run YP w= .ok (.string (mkS xs[i])) w:=λw hw=>hel w hw _ 0 _ Kr
 clear hs hys
 generalize xs[i]=u at*
 have hcl:∀ w,YC 50 #[.string (mkS u)] w (YR (.string (mkS u)) w):=λw=>yV u w Om
 refine zH 12 [] hA xs.length cap i 1 hj (zG 13 [] 9 eb (eo+i*1+0) (.string (mkS u)) (λw hO=>h1' w hO.below) (z6 (v:= .string (mkS u)) [] (λw hO=>hcl w) ?_))
 have hL':Sl 9 1 (.slice A' ys.length c') ys.length (jK ys) o1:=hL
 refine kD [] 1 9 #[.string (mkS u)] λb18=>qJ [] [⟨b18, #[.string (mkS u)],9⟩] o1 [] 0 (⟨b18, #[.string (mkS u)],9⟩::(o1++[])) (λw hO=>hO.cast (by simp only [List.append_assoc,List.cons_append,List.nil_append])) hL' (m:=1) (cp:=1) Om λv' o1' hS=> ?_
 obtain ⟨A2,c2,rfl⟩:=Sl.form hS
 refine j6 5 [] (.slice A2 (ys.length+1) c2) (.slice A2 (ys++[u]).length c2) (by simp) (x_i 10 [] ((i+1:Nat):Int) (zK [] (o1'++[]) (λw hO=>hO.past 1 _) ?_))
 exact nx (i+1,A2,c2,ys++[u],o1') (xs.length-(i+1)) [] Om ⟨⟨hj,by simp [hyl],hst,by rw [List.length_append,List.length_singleton];exact SlT.add hS⟩,rfl⟩ Kr Kr
def wsO (x:Wv)(o:List Blk):Prop:=SlT (.slice x.A x.fs.length x.cap) x.fs o
def fsO (x:Fv)(o:List Blk):Prop:=SlT (.slice x.A x.of.length x.cap) x.of o
def nsO (x:Nv)(o:List Blk):Prop:=WsO x.A x.cap x.any o
def bsO (x:Bv)(o:List Blk):Prop:=o=[]
def esO (x:Ev)(o:List Blk):Prop:=RecO x.rec' o
theorem frW_any (A:Option Addr)(cap:Nat)(xs:List Wv)(W:World)(hx:Reads wvC W W.heap.size A xs)(hn:xs.length<=5000)(hp:∀ x∈xs,∀ w,YB W w->YC 330 #[wvV x] w λe w'=>∃ v ob,e= .returned v/\(∃ y,v=wvV y/\Wv.wt y=Wv.wt x/\wsO y ob)/\Own [] w w' ob):YC 329 #[.slice A xs.length cap,.func (.func 330) #[] #[]] W λe w'=>∃ v ob,e= .returned v/\(∃ A' c' ys o1 o2,v= .slice A' ys.length c'/\ob=o1++o2/\ys.map Wv.wt=xs.map Wv.wt/\LsO 146 4 wvC wsO A' c' ys o1 o2)/\Own [] W w' ob:=by
 refine z8 Tryz.func329 (zK [] ([]++[]) (λw hO=>hO.past 0 _) ?_)
 refine zL (α:=Nat×Option Addr×Nat×List Wv×List Blk×List Blk) (λ(i,A',c',ys,o1,o2)=>[(1,.func (.func 330) #[] #[]),(5,.slice A' ys.length c'),(8,.slice A xs.length cap),(9,YI (xs.length:Int)),(10,YI (i:Int))]) (λ(i,A',c',ys,o1,o2)=>o1++o2) (λ(i,A',c',ys,o1,o2) m=>(i<=xs.length/\ys.length=i/\ys.map Wv.wt=(xs.map Wv.wt).take i/\LsO 146 4 wvC wsO A' c' ys o1 o2)/\m=xs.length-i) (0,none,0,[],[],[]) xs.length [] ⟨⟨Nat.zero_le _,rfl,rfl,LsO.nil⟩,rfl⟩ ?_
 rintro ⟨i,A',c',ys,o1,o2⟩ mm g kk ⟨⟨hi,hyl,hys,hL⟩,hmm⟩ nx hkk
 subst hkk
 refine zA 11 [] ((i:Int)<(xs.length:Int)) (λh11=> ?_) (λh11=> ?_)
 rotate_left
 ·exact z7 [] (.slice A' ys.length c') λw hO=>⟨_,_,rfl,⟨A',c',ys,o1,o2,rfl,rfl,by rw [hys,show i=xs.length by omega,←List.length_map (f:=Wv.wt),List.take_length],hL⟩,hO.past 0 _⟩
 have hj:i<xs.length:=by omega
 have hc:=hp _ (List.getElem_mem hj)
 have hst:=λy (hy:Wv.wt y=Wv.wt xs[i])=>n7 (y:=y) hj hys hy
 obtain ⟨eb,eo,hA,hel⟩:=hx.elem vJ i hj
 have h1':∀ w,YB W w->(loadVar 146 ⟨eb,eo+i*4+0,none⟩).run YP w= .ok (wvV xs[i]) w:=λw hw=>hel w hw _ 0 _ Kr
 clear hp
 generalize xs[i]=u at*
 refine zH 12 [] hA xs.length cap i 4 hj (zG 13 [] 146 eb (eo+i*4+0) (wvV u) (λw hO=>h1' w hO.below) (zB [] λb7=>yC (R:=λv ob=>∃ y,v=wvV y/\Wv.wt y=Wv.wt u/\wsO y ob) [0,0] (λw hO=>hc w hO.below) ?_))
 rintro _ ob ⟨y,rfl,hy,hyo⟩
 refine kD [] 1 146 (wvV y).cells λb18=>qJ [] [⟨b18,(wvV y).cells,146⟩,⟨b7,(wvV u).cells,146⟩] o1 (o2++ob) 0 (⟨b18,(wvV y).cells,146⟩::((⟨b7,(wvV u).cells,146⟩::(o1++o2))++ob)) (λw hO=>hO.cast (by simp only [List.append_assoc,List.cons_append,List.nil_append])) hL.top (m:=1) (cp:=1) Om λv' o1' hS=> ?_
 obtain ⟨A2,c2,rfl⟩:=Sl.form hS
 refine j6 5 [] (.slice A2 (ys.length+1) c2) (.slice A2 (ys++[y]).length c2) (by simp) (x_i 10 [] ((i+1:Nat):Int) (zK [] (o1'++(o2++ob)) (λw hO=>hO.past 2 _) ?_))
 exact nx (i+1,A2,c2,ys++[y],o1',o2++ob) (xs.length-(i+1)) [] Om ⟨⟨hj,by simp [hyl],hst y hy,hL.add hS hyo⟩,rfl⟩ Kr Kr
theorem frN_any (A:Option Addr)(cap:Nat)(xs:List Nv)(W:World)(hx:Reads nvC W W.heap.size A xs)(hn:xs.length<=5000)(hp:∀ x∈xs,∀ w,YB W w->YC 294 #[nvV x] w λe w'=>∃ v ob,e= .returned v/\(∃ y,v=nvV y/\Nv.nt y=Nv.nt x/\nsO y ob)/\Own [] w w' ob):YC 293 #[.slice A xs.length cap,.func (.func 294) #[] #[]] W λe w'=>∃ v ob,e= .returned v/\(∃ A' c' ys o1 o2,v= .slice A' ys.length c'/\ob=o1++o2/\ys.map Nv.nt=xs.map Nv.nt/\LsO 83 3 nvC nsO A' c' ys o1 o2)/\Own [] W w' ob:=by
 refine z8 Tryz.func293 (zK [] ([]++[]) (λw hO=>hO.past 0 _) ?_)
 refine zL (α:=Nat×Option Addr×Nat×List Nv×List Blk×List Blk) (λ(i,A',c',ys,o1,o2)=>[(1,.func (.func 294) #[] #[]),(5,.slice A' ys.length c'),(8,.slice A xs.length cap),(9,YI (xs.length:Int)),(10,YI (i:Int))]) (λ(i,A',c',ys,o1,o2)=>o1++o2) (λ(i,A',c',ys,o1,o2) m=>(i<=xs.length/\ys.length=i/\ys.map Nv.nt=(xs.map Nv.nt).take i/\LsO 83 3 nvC nsO A' c' ys o1 o2)/\m=xs.length-i) (0,none,0,[],[],[]) xs.length [] ⟨⟨Nat.zero_le _,rfl,rfl,LsO.nil⟩,rfl⟩ ?_
 rintro ⟨i,A',c',ys,o1,o2⟩ mm g kk ⟨⟨hi,hyl,hys,hL⟩,hmm⟩ nx hkk
 subst hkk
 refine zA 11 [] ((i:Int)<(xs.length:Int)) (λh11=> ?_) (λh11=> ?_)
 rotate_left
 ·exact z7 [] (.slice A' ys.length c') λw hO=>⟨_,_,rfl,⟨A',c',ys,o1,o2,rfl,rfl,by rw [hys,show i=xs.length by omega,←List.length_map (f:=Nv.nt),List.take_length],hL⟩,hO.past 0 _⟩
 have hj:i<xs.length:=by omega
 have hc:=hp _ (List.getElem_mem hj)
 have hst:=λy (hy:Nv.nt y=Nv.nt xs[i])=>n7 (y:=y) hj hys hy
 obtain ⟨eb,eo,hA,hel⟩:=hx.elem w6 i hj
 have h1':∀ w,YB W w->(loadVar 83 ⟨eb,eo+i*3+0,none⟩).run YP w= .ok (nvV xs[i]) w:=λw hw=>hel w hw _ 0 _ Kr
 clear hp
 generalize xs[i]=u at*
 refine zH 12 [] hA xs.length cap i 3 hj (zG 13 [] 83 eb (eo+i*3+0) (nvV u) (λw hO=>h1' w hO.below) (zB [] λb7=>yC (R:=λv ob=>∃ y,v=nvV y/\Nv.nt y=Nv.nt u/\nsO y ob) [0,0] (λw hO=>hc w hO.below) ?_))
 rintro _ ob ⟨y,rfl,hy,hyo⟩
 refine kD [] 1 83 (nvV y).cells λb18=>qJ [] [⟨b18,(nvV y).cells,83⟩,⟨b7,(nvV u).cells,83⟩] o1 (o2++ob) 0 (⟨b18,(nvV y).cells,83⟩::((⟨b7,(nvV u).cells,83⟩::(o1++o2))++ob)) (λw hO=>hO.cast (by simp only [List.append_assoc,List.cons_append,List.nil_append])) hL.top (m:=1) (cp:=1) Om λv' o1' hS=> ?_
 obtain ⟨A2,c2,rfl⟩:=Sl.form hS
 refine j6 5 [] (.slice A2 (ys.length+1) c2) (.slice A2 (ys++[y]).length c2) (by simp) (x_i 10 [] ((i+1:Nat):Int) (zK [] (o1'++(o2++ob)) (λw hO=>hO.past 2 _) ?_))
 exact nx (i+1,A2,c2,ys++[y],o1',o2++ob) (xs.length-(i+1)) [] Om ⟨⟨hj,by simp [hyl],hst y hy,hL.add hS hyo⟩,rfl⟩ Kr Kr
theorem frB_any (A:Option Addr)(cap:Nat)(xs:List Bv)(W:World)(hx:Reads bvC W W.heap.size A xs)(hn:xs.length<=5000)(hp:∀ x∈xs,∀ w,YB W w->YC 296 #[bvV x] w λe w'=>∃ v ob,e= .returned v/\(∃ y,v=bvV y/\Bv.bt y=Bv.bt x/\bsO y ob)/\Own [] w w' ob):YC 295 #[.slice A xs.length cap,.func (.func 296) #[] #[]] W λe w'=>∃ v ob,e= .returned v/\(∃ A' c' ys o1 o2,v= .slice A' ys.length c'/\ob=o1++o2/\ys.map Bv.bt=xs.map Bv.bt/\LsO 85 3 bvC bsO A' c' ys o1 o2)/\Own [] W w' ob:=by
 refine z8 Tryz.func295 (zK [] ([]++[]) (λw hO=>hO.past 0 _) ?_)
 refine zL (α:=Nat×Option Addr×Nat×List Bv×List Blk×List Blk) (λ(i,A',c',ys,o1,o2)=>[(1,.func (.func 296) #[] #[]),(5,.slice A' ys.length c'),(8,.slice A xs.length cap),(9,YI (xs.length:Int)),(10,YI (i:Int))]) (λ(i,A',c',ys,o1,o2)=>o1++o2) (λ(i,A',c',ys,o1,o2) m=>(i<=xs.length/\ys.length=i/\ys.map Bv.bt=(xs.map Bv.bt).take i/\LsO 85 3 bvC bsO A' c' ys o1 o2)/\m=xs.length-i) (0,none,0,[],[],[]) xs.length [] ⟨⟨Nat.zero_le _,rfl,rfl,LsO.nil⟩,rfl⟩ ?_
 rintro ⟨i,A',c',ys,o1,o2⟩ mm g kk ⟨⟨hi,hyl,hys,hL⟩,hmm⟩ nx hkk
 subst hkk
 refine zA 11 [] ((i:Int)<(xs.length:Int)) (λh11=> ?_) (λh11=> ?_)
 rotate_left
 ·exact z7 [] (.slice A' ys.length c') λw hO=>⟨_,_,rfl,⟨A',c',ys,o1,o2,rfl,rfl,by rw [hys,show i=xs.length by omega,←List.length_map (f:=Bv.bt),List.take_length],hL⟩,hO.past 0 _⟩
 have hj:i<xs.length:=by omega
 have hc:=hp _ (List.getElem_mem hj)
 have hst:=λy (hy:Bv.bt y=Bv.bt xs[i])=>n7 (y:=y) hj hys hy
 obtain ⟨eb,eo,hA,hel⟩:=hx.elem pR i hj
 have h1':∀ w,YB W w->(loadVar 85 ⟨eb,eo+i*3+0,none⟩).run YP w= .ok (bvV xs[i]) w:=λw hw=>hel w hw _ 0 _ Kr
 clear hp
 generalize xs[i]=u at*
 refine zH 12 [] hA xs.length cap i 3 hj (zG 13 [] 85 eb (eo+i*3+0) (bvV u) (λw hO=>h1' w hO.below) (zB [] λb7=>yC (R:=λv ob=>∃ y,v=bvV y/\Bv.bt y=Bv.bt u/\bsO y ob) [0,0] (λw hO=>hc w hO.below) ?_))
 rintro _ ob ⟨y,rfl,hy,hyo⟩
 refine kD [] 1 85 (bvV y).cells λb18=>qJ [] [⟨b18,(bvV y).cells,85⟩,⟨b7,(bvV u).cells,85⟩] o1 (o2++ob) 0 (⟨b18,(bvV y).cells,85⟩::((⟨b7,(bvV u).cells,85⟩::(o1++o2))++ob)) (λw hO=>hO.cast (by simp only [List.append_assoc,List.cons_append,List.nil_append])) hL.top (m:=1) (cp:=1) Om λv' o1' hS=> ?_
 obtain ⟨A2,c2,rfl⟩:=Sl.form hS
 refine j6 5 [] (.slice A2 (ys.length+1) c2) (.slice A2 (ys++[y]).length c2) (by simp) (x_i 10 [] ((i+1:Nat):Int) (zK [] (o1'++(o2++ob)) (λw hO=>hO.past 2 _) ?_))
 exact nx (i+1,A2,c2,ys++[y],o1',o2++ob) (xs.length-(i+1)) [] Om ⟨⟨hj,by simp [hyl],hst y hy,hL.add hS hyo⟩,rfl⟩ Kr Kr
theorem frF_any (A:Option Addr)(cap:Nat)(xs:List Fv)(W:World)(hx:Reads fvC W W.heap.size A xs)(hn:xs.length<=5000)(hp:∀ x∈xs,∀ w,YB W w->YC 298 #[fvV x] w λe w'=>∃ v ob,e= .returned v/\(∃ y,v=fvV y/\Fv.ft y=Fv.ft x/\fsO y ob)/\Own [] w w' ob):YC 297 #[.slice A xs.length cap,.func (.func 298) #[] #[]] W λe w'=>∃ v ob,e= .returned v/\(∃ A' c' ys o1 o2,v= .slice A' ys.length c'/\ob=o1++o2/\ys.map Fv.ft=xs.map Fv.ft/\LsO 87 2 fvC fsO A' c' ys o1 o2)/\Own [] W w' ob:=by
 refine z8 Tryz.func297 (zK [] ([]++[]) (λw hO=>hO.past 0 _) ?_)
 refine zL (α:=Nat×Option Addr×Nat×List Fv×List Blk×List Blk) (λ(i,A',c',ys,o1,o2)=>[(1,.func (.func 298) #[] #[]),(5,.slice A' ys.length c'),(8,.slice A xs.length cap),(9,YI (xs.length:Int)),(10,YI (i:Int))]) (λ(i,A',c',ys,o1,o2)=>o1++o2) (λ(i,A',c',ys,o1,o2) m=>(i<=xs.length/\ys.length=i/\ys.map Fv.ft=(xs.map Fv.ft).take i/\LsO 87 2 fvC fsO A' c' ys o1 o2)/\m=xs.length-i) (0,none,0,[],[],[]) xs.length [] ⟨⟨Nat.zero_le _,rfl,rfl,LsO.nil⟩,rfl⟩ ?_
 rintro ⟨i,A',c',ys,o1,o2⟩ mm g kk ⟨⟨hi,hyl,hys,hL⟩,hmm⟩ nx hkk
 subst hkk
 refine zA 11 [] ((i:Int)<(xs.length:Int)) (λh11=> ?_) (λh11=> ?_)
 rotate_left
 ·exact z7 [] (.slice A' ys.length c') λw hO=>⟨_,_,rfl,⟨A',c',ys,o1,o2,rfl,rfl,by rw [hys,show i=xs.length by omega,←List.length_map (f:=Fv.ft),List.take_length],hL⟩,hO.past 0 _⟩
 have hj:i<xs.length:=by omega
 have hc:=hp _ (List.getElem_mem hj)
 have hst:=λy (hy:Fv.ft y=Fv.ft xs[i])=>n7 (y:=y) hj hys hy
 obtain ⟨eb,eo,hA,hel⟩:=hx.elem vP i hj
 have h1':∀ w,YB W w->(loadVar 87 ⟨eb,eo+i*2+0,none⟩).run YP w= .ok (fvV xs[i]) w:=λw hw=>hel w hw _ 0 _ Kr
 clear hp
 generalize xs[i]=u at*
 refine zH 12 [] hA xs.length cap i 2 hj (zG 13 [] 87 eb (eo+i*2+0) (fvV u) (λw hO=>h1' w hO.below) (zB [] λb7=>yC (R:=λv ob=>∃ y,v=fvV y/\Fv.ft y=Fv.ft u/\fsO y ob) [0,0] (λw hO=>hc w hO.below) ?_))
 rintro _ ob ⟨y,rfl,hy,hyo⟩
 refine kD [] 1 87 (fvV y).cells λb18=>qJ [] [⟨b18,(fvV y).cells,87⟩,⟨b7,(fvV u).cells,87⟩] o1 (o2++ob) 0 (⟨b18,(fvV y).cells,87⟩::((⟨b7,(fvV u).cells,87⟩::(o1++o2))++ob)) (λw hO=>hO.cast (by simp only [List.append_assoc,List.cons_append,List.nil_append])) hL.top (m:=1) (cp:=1) Om λv' o1' hS=> ?_
 obtain ⟨A2,c2,rfl⟩:=Sl.form hS
 refine j6 5 [] (.slice A2 (ys.length+1) c2) (.slice A2 (ys++[y]).length c2) (by simp) (x_i 10 [] ((i+1:Nat):Int) (zK [] (o1'++(o2++ob)) (λw hO=>hO.past 2 _) ?_))
 exact nx (i+1,A2,c2,ys++[y],o1',o2++ob) (xs.length-(i+1)) [] Om ⟨⟨hj,by simp [hyl],hst y hy,hL.add hS hyo⟩,rfl⟩ Kr Kr
theorem frE_any (A:Option Addr)(cap:Nat)(xs:List Ev)(W:World)(hx:Reads evC W W.heap.size A xs)(hn:xs.length<=5000)(hp:∀ x∈xs,∀ w,YB W w->YC 205 #[evV x] w λe w'=>∃ v ob,e= .returned v/\(∃ y,v=evV y/\Ev.et y=Ev.et x/\esO y ob)/\Own [] w w' ob):YC 204 #[.slice A xs.length cap,.func (.func 205) #[] #[]] W λe w'=>∃ v ob,e= .returned v/\(∃ A' c' ys o1 o2,v= .slice A' ys.length c'/\ob=o1++o2/\ys.map Ev.et=xs.map Ev.et/\LsO 53 11 evC esO A' c' ys o1 o2)/\Own [] W w' ob:=by
 refine z8 Tryz.func204 (zK [] ([]++[]) (λw hO=>hO.past 0 _) ?_)
 refine zL (α:=Nat×Option Addr×Nat×List Ev×List Blk×List Blk) (λ(i,A',c',ys,o1,o2)=>[(1,.func (.func 205) #[] #[]),(5,.slice A' ys.length c'),(8,.slice A xs.length cap),(9,YI (xs.length:Int)),(10,YI (i:Int))]) (λ(i,A',c',ys,o1,o2)=>o1++o2) (λ(i,A',c',ys,o1,o2) m=>(i<=xs.length/\ys.length=i/\ys.map Ev.et=(xs.map Ev.et).take i/\LsO 53 11 evC esO A' c' ys o1 o2)/\m=xs.length-i) (0,none,0,[],[],[]) xs.length [] ⟨⟨Nat.zero_le _,rfl,rfl,LsO.nil⟩,rfl⟩ ?_
 rintro ⟨i,A',c',ys,o1,o2⟩ mm g kk ⟨⟨hi,hyl,hys,hL⟩,hmm⟩ nx hkk
 subst hkk
 refine zA 11 [] ((i:Int)<(xs.length:Int)) (λh11=> ?_) (λh11=> ?_)
 rotate_left
 ·exact z7 [] (.slice A' ys.length c') λw hO=>⟨_,_,rfl,⟨A',c',ys,o1,o2,rfl,rfl,by rw [hys,show i=xs.length by omega,←List.length_map (f:=Ev.et),List.take_length],hL⟩,hO.past 0 _⟩
 have hj:i<xs.length:=by omega
 have hc:=hp _ (List.getElem_mem hj)
 have hst:=λy (hy:Ev.et y=Ev.et xs[i])=>n7 (y:=y) hj hys hy
 obtain ⟨eb,eo,hA,hel⟩:=hx.elem qX i hj
 have h1':∀ w,YB W w->(loadVar 53 ⟨eb,eo+i*11+0,none⟩).run YP w= .ok (evV xs[i]) w:=λw hw=>hel w hw _ 0 _ Kr
 clear hp
 generalize xs[i]=u at*
 refine zH 12 [] hA xs.length cap i 11 hj (zG 13 [] 53 eb (eo+i*11+0) (evV u) (λw hO=>h1' w hO.below) (zB [] λb7=>yC (R:=λv ob=>∃ y,v=evV y/\Ev.et y=Ev.et u/\esO y ob) [0,0] (λw hO=>hc w hO.below) ?_))
 rintro _ ob ⟨y,rfl,hy,hyo⟩
 refine kD [] 1 53 (evV y).cells λb18=>qJ [] [⟨b18,(evV y).cells,53⟩,⟨b7,(evV u).cells,53⟩] o1 (o2++ob) 0 (⟨b18,(evV y).cells,53⟩::((⟨b7,(evV u).cells,53⟩::(o1++o2))++ob)) (λw hO=>hO.cast (by simp only [List.append_assoc,List.cons_append,List.nil_append])) hL.top (m:=1) (cp:=1) Om λv' o1' hS=> ?_
 obtain ⟨A2,c2,rfl⟩:=Sl.form hS
 refine j6 5 [] (.slice A2 (ys.length+1) c2) (.slice A2 (ys++[y]).length c2) (by simp) (x_i 10 [] ((i+1:Nat):Int) (zK [] (o1'++(o2++ob)) (λw hO=>hO.past 2 _) ?_))
 exact nx (i+1,A2,c2,ys++[y],o1',o2++ob) (xs.length-(i+1)) [] Om ⟨⟨hj,by simp [hyl],hst y hy,hL.add hS hyo⟩,rfl⟩ Kr Kr
end
section
set_option linter.unnecessarySimpa false
theorem frVer_any (a b c:Int)(p q:YL)(W:World)(hp:p.length<=1000000)(hq:q.length<=1000000):YC 292 #[.agg #[YI a,YI b,YI c,.string (mkS p),.string (mkS q)]] W (YR (.agg #[YI a,YI b,YI c,.string (mkS p),.string (mkS q)]) W):=by
 refine z8 Tryz.func292 (zQ [] λb1=>zB [] λb2=> ?_)
 refine x5 7 [] [⟨b2, #[YI 0,YI 0,YI 0,.string ⟨#[]⟩,.string ⟨#[]⟩],24⟩,⟨b1, #[YI a,YI b,YI c,.string (mkS p),.string (mkS q)],24⟩] (λw hO=>hO.past 0 _) (zY [1,1] 2 (z6 (v:= .string (mkS p)) [] (λw hO=>yV p w Om) (zY [] 5 (z6 (v:= .string (mkS q)) [] (λw hO=>yV q w Om) ?_))))
 exact qL [1,1,1,0] 0 (.agg #[YI a,YI b,YI c,.string (mkS p),.string (mkS q)]) λw hO=>⟨rfl,hO.below⟩
theorem frBar_any (x:Bv)(W:World)(h1:x.name.length<=1000000)(h2:x.rng.length<=1000000)(h3:x.wh.length<=1000000):YC 296 #[bvV x] W λe w'=>∃ v ob,e= .returned v/\(∃ y,v=bvV y/\Bv.bt y=Bv.bt x/\bsO y ob)/\Own [] W w' ob:=by
 refine z8 Tryz.func296 (zQ [] λb1=>zB [] λb2=> ?_)
 refine x5 10 [] [⟨b2, #[.string ⟨#[]⟩,.string ⟨#[]⟩,.string ⟨#[]⟩],85⟩,⟨b1, #[.string (mkS x.name),.string (mkS x.rng),.string (mkS x.wh)],85⟩] (λw hO=>hO.past 0 _) (zY [1,1,1] 2 (z6 (v:= .string (mkS x.name)) [] (λw hO=>yV x.name w Om) (zY [] 5 (z6 (v:= .string (mkS x.rng)) [] (λw hO=>yV x.rng w Om) (zY [] 8 (z6 (v:= .string (mkS x.wh)) [] (λw hO=>yV x.wh w Om) ?_))))))
 exact qL [0] 0 (bvV x) λw hO=>⟨_,[],rfl,⟨x,rfl,rfl,rfl⟩,hO.no⟩
theorem frWish_any (x:Wv)(W:World)(hx:Reads y7 W W.heap.size x.A x.fs)(hn:x.fs.length<=5000)(hs:∀ s∈x.fs,s.length<=1000000)(h1:x.name.length<=1000000)(h2:x.rng.length<=1000000):YC 330 #[wvV x] W λe w'=>∃ v ob,e= .returned v/\(∃ y,v=wvV y/\Wv.wt y=Wv.wt x/\wsO y ob)/\Own [] W w' ob:=by
 have hT:∀ w,YB W w->YC 331 #[.slice x.A x.fs.length x.cap,.func (.func 50) #[] #[]] w λe w'=>∃ v ob,e= .returned v/\(∃ A' c',v= .slice A' x.fs.length c'/\SlT (.slice A' x.fs.length c') x.fs ob)/\Own [] w w' ob:=λw hb=>frS_any x.A x.cap x.fs w (hx.on hb hb.size) hn hs
 obtain ⟨nm,rg,A,cap,fs,br⟩:=x
 refine z8 Tryz.func330 (zQ [] λb1=>zB [] λb2=> ?_)
 refine x5 12 [] [⟨b2, #[.string ⟨#[]⟩,.string ⟨#[]⟩,.slice none 0 0,.bool false],146⟩,⟨b1, #[.string (mkS nm),.string (mkS rg),.slice A fs.length cap,.bool br],146⟩] (λw hO=>hO.past 0 _) (zY [1,1,1,1] 2 (z6 (v:= .string (mkS nm)) [] (λw hO=>yV nm w (by have:nm.length<=1000000:=h1;omega)) (zY [] 5 (z6 (v:= .string (mkS rg)) [] (λw hO=>yV rg w (by have:rg.length<=1000000:=h2;omega)) (zY [] 8 (x6 (R:=λv ob=>∃ A' c',v= .slice A' fs.length c'/\SlT (.slice A' fs.length c') fs ob) (λw hO=>hT w hO.below) ?_))))))
 rintro _ ob ⟨A',c',rfl,hS⟩
 exact qL [0] 0 (wvV ⟨nm,rg,A',c',fs,br⟩) λw hO=>⟨_,ob,rfl,⟨⟨nm,rg,A',c',fs,br⟩,rfl,rfl,hS⟩,hO.past 2 ob⟩
theorem frFeat_any (x:Fv)(W:World)(hx:Reads y7 W W.heap.size x.A x.of)(hn:x.of.length<=5000)(hs:∀ s∈x.of,s.length<=1000000)(h1:x.name.length<=1000000):YC 298 #[fvV x] W λe w'=>∃ v ob,e= .returned v/\(∃ y,v=fvV y/\Fv.ft y=Fv.ft x/\fsO y ob)/\Own [] W w' ob:=by
 have hT:∀ w,YB W w->YC 331 #[.slice x.A x.of.length x.cap,.func (.func 50) #[] #[]] w λe w'=>∃ v ob,e= .returned v/\(∃ A' c',v= .slice A' x.of.length c'/\SlT (.slice A' x.of.length c') x.of ob)/\Own [] w w' ob:=λw hb=>frS_any x.A x.cap x.of w (hx.on hb hb.size) hn hs
 obtain ⟨nm,A,fs,cap⟩:=x
 refine z8 Tryz.func298 (zQ [] λb1=>zB [] λb2=> ?_)
 refine x5 7 [] [⟨b2,ZM,87⟩,⟨b1, #[.string (mkS nm),.slice A fs.length cap],87⟩] (λw hO=>hO.past 0 _) (zY [1,1] 2 (z6 (v:= .string (mkS nm)) [] (λw hO=>yV nm w (by have:nm.length<=1000000:=h1;omega)) (zY [] 5 (x6 (R:=λv ob=>∃ A' c',v= .slice A' fs.length c'/\SlT (.slice A' fs.length c') fs ob) (λw hO=>hT w hO.below) ?_))))
 rintro _ ob ⟨A',c',rfl,hS⟩
 exact qL [0] 0 (fvV ⟨nm,A',fs,c'⟩) λw hO=>⟨_,ob,rfl,⟨⟨nm,A',fs,c'⟩,rfl,rfl,hS⟩,hO.past 2 ob⟩
theorem wsO_of {A:Option Addr}{c:Nat}{xs:List Wv}{o1 o2:List Blk}(h:LsO 146 4 wvC wsO A c xs o1 o2):WsO A c xs (o1++o2):=⟨⟨o1,o2,rfl,h.top,h.each⟩⟩
theorem frNeed_any (x:Nv)(W:World)(hx:Reads wvC W W.heap.size x.A x.any)(hf:∀ u∈x.any,Reads y7 W W.heap.size u.A u.fs)(hn:x.any.length<=5000)(hm:∀ u∈x.any,u.fs.length<=5000)(hs:∀ u∈x.any,u.name.length<=1000000/\u.rng.length<=1000000∧∀ s∈u.fs,s.length<=1000000)(h1:x.wh.length<=1000000)(h2:x.opt.length<=1000000):YC 294 #[nvV x] W λe w'=>∃ v ob,e= .returned v/\(∃ y,v=nvV y/\Nv.nt y=Nv.nt x/\nsO y ob)/\Own [] W w' ob:=by
 have hT:∀ w,YB W w->YC 329 #[.slice x.A x.any.length x.cap,.func (.func 330) #[] #[]] w λe w'=>∃ v ob,e= .returned v/\(∃ A' c' ys o1 o2,v= .slice A' ys.length c'/\ob=o1++o2/\ys.map Wv.wt=x.any.map Wv.wt/\LsO 146 4 wvC wsO A' c' ys o1 o2)/\Own [] w w' ob:=λw hb=>frW_any x.A x.cap x.any w (hx.on hb hb.size) hn λu hu w2 hb2=>by
  have hb3:=hb.trans (hb2.mono hb.size)
  exact frWish_any u w2 ((hf u hu).on hb3 hb3.size) (hm u hu) (hs u hu).2.2 (hs u hu).1 (hs u hu).2.1
 obtain ⟨A,cap,any,wh,opt⟩:=x
 refine z8 Tryz.func294 (zQ [] λb1=>zB [] λb2=> ?_)
 refine x5 10 [] [⟨b2,Z0,83⟩,⟨b1, #[.slice A any.length cap,.string (mkS wh),.string (mkS opt)],83⟩] (λw hO=>hO.past 0 _) (zY [1,1,1] 2 (x6 (R:=λv ob=>∃ A' c' ys o1 o2,v= .slice A' ys.length c'/\ob=o1++o2/\ys.map Wv.wt=any.map Wv.wt/\LsO 146 4 wvC wsO A' c' ys o1 o2) (λw hO=>hT w hO.below) ?_))
 rintro _ _ ⟨A',c',ys,o1,o2,rfl,rfl,hy,hL⟩
 refine zY [] 5 (z6 (v:= .string (mkS wh)) [] (λw hO=>yV wh w (by have:wh.length<=1000000:=h1;omega)) (zY [] 8 (z6 (v:= .string (mkS opt)) [] (λw hO=>yV opt w (by have:opt.length<=1000000:=h2;omega)) ?_)))
 exact qL [0] 0 (nvV ⟨A',c',ys,wh,opt⟩) λw hO=>⟨_,o1++o2,rfl,⟨⟨A',c',ys,wh,opt⟩,rfl,by unfold Nv.nt;rw [hy],wsO_of hL⟩,hO.past 2 (o1++o2)⟩
theorem nsO_of {A:Option Addr}{c:Nat}{xs:List Nv}{o1 o2:List Blk}(h:LsO 83 3 nvC nsO A c xs o1 o2):NsO A c xs o1 o2:=⟨h.top,h.each⟩
theorem ftO_of {A:Option Addr}{c:Nat}{xs:List Fv}{o1 o2:List Blk}(h:LsO 87 2 fvC fsO A c xs o1 o2):FtO A c xs o1 o2:=⟨h.top,h.each⟩
theorem frRec_any (x:Rv)(W:World)(hx:RcIn W W.heap.size x):YC 259 #[rvV x] W λe w'=>∃ v ob,e= .returned v/\(∃ y,v=rvV y/\y.rt=x.rt/\RecO y ob)/\Own [] W w' ob:=by
 have hN:∀ w,YB W w->YC 293 #[.slice x.nA x.needs.length x.nc,.func (.func 294) #[] #[]] w λe w'=>∃ v ob,e= .returned v/\(∃ A' c' ys o1 o2,v= .slice A' ys.length c'/\ob=o1++o2/\ys.map Nv.nt=x.needs.map Nv.nt/\LsO 83 3 nvC nsO A' c' ys o1 o2)/\Own [] w w' ob:=λw hb=>frN_any x.nA x.nc x.needs w (hx.needs.on hb hb.size) hx.nn λn hn w2 hb2=>by
  have hb3:=hb.trans (hb2.mono hb.size)
  exact frNeed_any n w2 ((hx.any n hn).on hb3 hb3.size) (λu hu=>(hx.wfs n hn u hu).on hb3 hb3.size) (hx.na n hn) (hx.nf n hn) (hx.su n hn) (hx.sw n hn).1 (hx.sw n hn).2
 have hB:∀ w,YB W w->YC 295 #[.slice x.bA x.bars.length x.bc,.func (.func 296) #[] #[]] w λe w'=>∃ v ob,e= .returned v/\(∃ A' c' ys o1 o2,v= .slice A' ys.length c'/\ob=o1++o2/\ys.map Bv.bt=x.bars.map Bv.bt/\LsO 85 3 bvC bsO A' c' ys o1 o2)/\Own [] w w' ob:=λw hb=>frB_any x.bA x.bc x.bars w (hx.bars.on hb hb.size) hx.nb λb hb' w2 _=>frBar_any b w2 (hx.sb b hb').1 (hx.sb b hb').2.1 (hx.sb b hb').2.2
 have hF:∀ w,YB W w->YC 297 #[.slice x.fA x.fts.length x.fc,.func (.func 298) #[] #[]] w λe w'=>∃ v ob,e= .returned v/\(∃ A' c' ys o1 o2,v= .slice A' ys.length c'/\ob=o1++o2/\ys.map Fv.ft=x.fts.map Fv.ft/\LsO 87 2 fvC fsO A' c' ys o1 o2)/\Own [] w w' ob:=λw hb=>frF_any x.fA x.fc x.fts w (hx.fts.top.on hb hb.size) hx.fts.n λf hf w2 hb2=>by
  have hb3:=hb.trans (hb2.mono hb.size)
  exact frFeat_any f w2 ((hx.fts.each f hf).on hb3 hb3.size) (hx.fts.m f hf) (hx.fts.text f hf) (hx.fts.name f hf)
 obtain ⟨s1,s2,s3⟩:=hx.sn
 obtain ⟨nm,a,b,c,p,q,nA,nc,ns,bA,bc,bs,fA,fc,fs⟩:=x
 dsimp only at hN hB hF s1 s2 s3
 refine z8 Tryz.func259 (zQ [] λb1=>zB [] λb2=> ?_)
 refine x5 16 [] [⟨b2,ZE,29⟩,⟨b1, #[.string (mkS nm),YI a,YI b,YI c,.string (mkS p),.string (mkS q),.slice nA ns.length nc,.slice bA bs.length bc,.slice fA fs.length fc],29⟩] (λw hO=>hO.past 0 _) (zY [1,1,1,1,1] 2 (z6 (v:= .string (mkS nm)) [] (λw hO=>yV nm w Om) (zY [] 5 (z6 (v:= .agg #[YI a,YI b,YI c,.string (mkS p),.string (mkS q)]) [] (λw hO=>frVer_any a b c p q w s2 s3) (zY [] 8 (x6 (R:=λv ob=>∃ A' c' ys o1 o2,v= .slice A' ys.length c'/\ob=o1++o2/\ys.map Nv.nt=ns.map Nv.nt/\LsO 83 3 nvC nsO A' c' ys o1 o2) (λw hO=>hN w hO.below) ?_))))))
 rintro _ _ ⟨A1,c1,ys,o1,o2,rfl,rfl,hy,hL1⟩
 refine zY [] 11 (x6 (R:=λv ob=>∃ A' c' ys o1 o2,v= .slice A' ys.length c'/\ob=o1++o2/\ys.map Bv.bt=bs.map Bv.bt/\LsO 85 3 bvC bsO A' c' ys o1 o2) (λw hO=>hB w hO.below) ?_)
 rintro _ _ ⟨A2,c2,zs,o4,o5,rfl,rfl,hz,hL2⟩
 refine zY [] 14 (x6 (R:=λv ob=>∃ A' c' ys o1 o2,v= .slice A' ys.length c'/\ob=o1++o2/\ys.map Fv.ft=fs.map Fv.ft/\LsO 87 2 fvC fsO A' c' ys o1 o2) (λw hO=>hF w hO.below) ?_)
 rintro _ _ ⟨A3,c3,us,o7,o8,rfl,rfl,hu,hL3⟩
 have e:(⟨nm,a,b,c,p,q,A1,c1,ys,A2,c2,zs,A3,c3,us⟩:Rv).rt=(⟨nm,a,b,c,p,q,nA,nc,ns,bA,bc,bs,fA,fc,fs⟩:Rv).rt:=by
  unfold Rv.rt yI;dsimp only;rw [hy,hz,hu];rfl
 exact qL [0] 0 (rvV ⟨nm,a,b,c,p,q,A1,c1,ys,A2,c2,zs,A3,c3,us⟩) λw hO=>⟨_,o4++(o1++o2)++(o7++o8),rfl,⟨⟨nm,a,b,c,p,q,A1,c1,ys,A2,c2,zs,A3,c3,us⟩,rfl,e,⟨⟨o1,o2,o4,o7,o8,rfl,nsO_of hL1,hL2.top,ftO_of hL3⟩⟩⟩,own_cnt o5 (hO.past 2 ((o1++o2)++(o4++o5)++(o7++o8))) λf=>by simp only [List.countP_append];omega⟩
theorem frEnt_any (x:Ev)(W:World)(hx:RcIn W W.heap.size x.rec'):YC 205 #[evV x] W λe w'=>∃ v ob,e= .returned v/\(∃ y,v=evV y/\Ev.et y=Ev.et x/\esO y ob)/\Own [] W w' ob:=by
 have hR:∀ w,YB W w->YC 259 #[rvV x.rec'] w λe w'=>∃ v ob,e= .returned v/\(∃ y,v=rvV y/\y.rt=x.rec'.rt/\RecO y ob)/\Own [] w w' ob:=λw hb=>frRec_any x.rec' w (hx.on hb hb.size)
 obtain ⟨⟨nm,a,b,c,p,q,nA,nc,ns,bA,bc,bs,fA,fc,fs⟩,sm,yk⟩:=x
 dsimp only at hR
 refine z8 Tryz.func205 (zQ [] λb1=>zB [] λb2=>yC (R:=λv ob=>∃ y,v=rvV y/\y.rt=(⟨nm,a,b,c,p,q,nA,nc,ns,bA,bc,bs,fA,fc,fs⟩:Rv).rt/\RecO y ob) [1] (λw hO=>hR w hO.below) ?_)
 rintro _ ob ⟨y,rfl,hy,hO'⟩
 exact qL [1,1,0,0] 0 (evV ⟨y,sm,yk⟩) λw hO=>⟨_,ob,rfl,⟨⟨y,sm,yk⟩,rfl,by unfold Ev.et;rw [hy],hO'⟩,hO.past 2 ob⟩
theorem frShelf_any (x:Hv)(W:World)(hx:EsIn W W.heap.size x.A x.es)(hs:x.name.length<=1000000):YC 144 #[hvV x] W λe w'=>∃ v ob,e= .returned v/\(∃ y,v=hvV y/\y.sh=x.sh/\ShO y ob)/\Own [] W w' ob:=by
 have hE:∀ w,YB W w->YC 204 #[.slice x.A x.es.length x.cap,.func (.func 205) #[] #[]] w λe w'=>∃ v ob,e= .returned v/\(∃ A' c' ys o1 o2,v= .slice A' ys.length c'/\ob=o1++o2/\ys.map Ev.et=x.es.map Ev.et/\LsO 53 11 evC esO A' c' ys o1 o2)/\Own [] w w' ob:=λw hb=>frE_any x.A x.cap x.es w (hx.top.on hb hb.size) hx.n λe he w2 hb2=>by
  have hb3:=hb.trans (hb2.mono hb.size)
  exact frEnt_any e w2 ((hx.each e he).on hb3 hb3.size)
 obtain ⟨nm,A,cap,es⟩:=x
 dsimp only at hE hs
 refine z8 Tryz.func144 (zQ [] λb1=>zB [] λb2=> ?_)
 refine x5 7 [] [⟨b2,ZM,43⟩,⟨b1, #[.string (mkS nm),.slice A es.length cap],43⟩] (λw hO=>hO.past 0 _) (zY [1,1] 2 (z6 (v:= .string (mkS nm)) [] (λw hO=>yV nm w Om) (zY [] 5 (x6 (R:=λv ob=>∃ A' c' ys o1 o2,v= .slice A' ys.length c'/\ob=o1++o2/\ys.map Ev.et=es.map Ev.et/\LsO 53 11 evC esO A' c' ys o1 o2) (λw hO=>hE w hO.below) ?_))))
 rintro _ _ ⟨A',c',ys,o1,o2,rfl,rfl,hy,hL⟩
 exact qL [0] 0 (hvV ⟨nm,A',c',ys⟩) λw hO=>⟨_,o1++o2,rfl,⟨⟨nm,A',c',ys⟩,rfl,by unfold Hv.sh;dsimp only;rw [hy],o1,o2,rfl,hL⟩,hO.past 2 (o1++o2)⟩
end
section
theorem run_slhmA {P:Program}{ρ:Operand->Value}{o:Oper}{t e:TypeId}{x z y:Operand}{A:Option Addr}{n c sz:Nat}{k q:IntKind}{j m:Int}(ho:o.op= .slice t x none (some z) (some y))(hx:ρ x= .slice A n c)(hz:ρ z= .int k j)(hy:ρ y= .int q m)
  (hu:P.underlying t=some (.slice e)) (hs:(P.info? e).map (·.size)=some sz) (h0:0<=j) (h1:j<=m) (h2:m<=c) (hA:m=0∨∃ b off,A=some ⟨b,off,none⟩) (w:World):(execOp ρ o).run P w= .ok (.value (.slice A j.toNat m.toNat)) w:=by
 cases he:P.info? e with
 |none=>rw [he] at hs;cases hs
 |some i=>
  rw [he] at hs
  obtain rfl:=Option.some.inj hs
  have h3:0<=m:=Int.le_trans h0 h1
  have key:(if m<=0 then A else A.map λa=>a.add 0)=A:=by
   rcases hA with rfl|⟨b,off,rfl⟩
   ·rfl
   ·split
    ·rfl
    ·simp [yY]
  have hmx:max m 0=m:=by omega
  unfold execOp
  simp [ho,hx,hz,hy,Instr.sliceAt,Instr.slice,Instr.sliceBounds,Instr.sliceBound,Sem.run_bind,asIntOf,run_underlying hu,h0,h1,h2,h3,sizeOf,typeInfo,he]
  rw [hmx,if_pos h1,key]
section
variable {M:List Nat}{P:Program}{n:Nat}{W:World}{Q:Exit->Act->World->Prop}{c:Xc}
theorem x_slhmA (d:Nat)(h:List Nat)(A:Option Addr)(N cp sz:Nat)(j m:Int)(hj:0<=j/\j<=m/\m<=cp)(hA:m=0∨∃ b off,A=some ⟨b,off,none⟩)(v:Value)(hv: .slice A j.toNat m.toNat=v)(hg:zE M P n W Q ((xgo P n (d+50000) h c).put v))
  (hkt:(xgl P n (d+50000) h c,xW n (xgo P n (d+50000) h c),(skQ (xO (xgo P n (d+50000) h c))).2.2.2.2,ev n (xgo P n (d+50000) h c).f (skQ (xO (xgo P n (d+50000) h c))).2.1,ev n (xgo P n (d+50000) h c).f (skQ (xO (xgo P n (d+50000) h c))).2.2.1,ev n (xgo P n (d+50000) h c).f (skQ (xO (xgo P n (d+50000) h c))).2.2.2.1,P.underlying (skQ (xO (xgo P n (d+50000) h c))).1,(P.info? (xEl P (skQ (xO (xgo P n (d+50000) h c))).1)).map (·.size))
   =(xgr P n (d+50000) h c,true,true,.slice A N cp,YI j,YI m,some (.slice (xEl P (skQ (xO (xgo P n (d+50000) h c))).1)),some sz):=by kernel_rfl):zE M P n W Q c:=by
 simp only [Prod.mk.injEq] at hkt
 obtain ⟨hk,e1,e2,e3,e4,e5,e6,e7⟩:=hkt
 exact zN h c hk (xE e1 (λw=>by rw [run_slhmA (skQ_op e2) e3 e4 e5 e6 e7 hj.1 hj.2.1 hj.2.2 hA w,hv]) hg)
theorem x_appC {T:TypeId}{sz N m cp:Nat}{A:Option Addr}(h:List Nat)(xs:List Value)(q:Nat)(L1:List Blk)(hxl:xs.length=N*sz)(hA:A=none->N=0)(hxs:∀ w,Own M W w L1→∀ b,A=some b→∀ j u,xs[j]?=some u->w.cell? (b.add j)=some u)(hm:0<m)(hN:N+m<=1000000)
  (hg:∀ v' ob',Sl T sz v' (N+m) (xs++(gL L1 q).cs.toList) ob'->zE M P n W Q ⟨.ops (xA (xgo P n nS h c)) (xT (xgo P n nS h c)),(xgo P n nS h c).k,L1++ob',upd (xgo P n nS h c).f (xO (xgo P n nS h c)).dst v'⟩)
  (hkt:(xgl P n nS h c,(xgo P n nS h c).L,(xgo P n nS h c).top,y5 (xA (xgo P n nS h c)) n (xgo P n nS h c).f (xO (xgo P n nS h c)),(xO (xgo P n nS h c)).op,ev n (xgo P n nS h c).f (aX (xO (xgo P n nS h c)) 0),ev n (xgo P n nS h c).f (aX (xO (xgo P n nS h c)) 1),L1[q]?,P.underlying (aT (xO (xgo P n nS h c))),aInfo P T,(gL L1 q).cs.toList.length,(gL L1 q).cs.toList.all λu=>u.oneCell')
   =(xgr P n nS h c,L1,.ops (xA (xgo P n nS h c)) (xO (xgo P n nS h c)::xT (xgo P n nS h c)),true,aOp (xO (xgo P n nS h c)),.slice A N N,.slice (some ⟨(gL L1 q).b,0,none⟩) m cp,some (gL L1 q),some (.slice T),some (true,sz,some sz),m*sz,true):=by kernel_rfl):zE M P n W Q c:=by
 simp only [Prod.mk.injEq] at hkt
 obtain ⟨hk,f1,e1,e3,e4,e5,e6,e7',e8,e9,e10,e11⟩:=hkt
 refine zN h c hk ?_
 generalize (xgo P n nS h c)=d at*
 have:d=⟨.ops (xA d) (xO d::xT d),d.k,L1,d.f⟩:=by rw [←e1,←f1]
 rw [this]
 obtain ⟨i,z,hi,hz,hsz,hzs,hby⟩:=m7 e9
 have hlit:∀ w,Own M W w L1→∀ j u,(gL L1 q).cs.toList[j]?=some u->w.cell? ((⟨(gL L1 q).b,0,none⟩:Addr).add j)=some u:=λw hO j u hj=>by
  rw [yY,cell_of_row w _ _ _ _ _ (hO.held _ (List.mem_of_getElem? e7')),Nat.zero_add]
  simpa using hj
 have hb:(N+m)*i.bytes<=140737488355328:=by have:=Nat.mul_le_mul hN hby;omega
 cases A with
 |none=>
  obtain rfl:=hA rfl
  have hx0:xs=[]:=by simpa using hxl
  subst hx0
  refine ⟨λhq=>wS (L':=L1++[]++[]) (λw hO=>by simpa using hO) (fS (E:=L1) (ob:=[]) (L0:=[]) e3 e4 e8 hi hz hsz hzs e5 (Sl.nil T sz) e6 e10 (λw hO j u hj=>hlit w (by simpa using hO) j u hj) (List.all_eq_true.1 e11) (by unfold maxLen;omega) hb λv' ob' h=>wS (L':=L1++ob') (λw hO=>by simpa using hO) ((hg v' ob' h).go hq))⟩
 |some b=>
  exact ⟨λhq=>s_appendF e3 e4 e8 hi hz hsz hzs e5 hxl (λw hO j u hj=>hxs w hO b rfl j u hj) e6 e10 hlit Om (by unfold maxLen;omega) hb λv' ob' h=>wS (L':=L1++ob') (λw hO=>hO.perm List.perm_append_comm) ((hg v' ob' h).go hq)⟩
end
section
variable {M:List Nat}{P:Program}{n:Nat}{ops:Array Oper}{W:World}{L0:List Blk}{Q:Exit->Act->World->Prop}{fuel:Nat}{listed:Array Bool}{L:List Blk}{f:Nat->Value}
theorem h_take14 {L':List Blk}(hs:∀ w,Own M W w L->Own M W w L')(h:m9 M P n ops W L0 Q fuel listed L' f):m9 M P n ops W L0 Q fuel listed L f:=⟨λw hO=>h.go w (hs w hO)⟩
theorem hl_appendF {i0:Nat}(oi:Oper){t T:TypeId}{s x:Operand}{i:TypeInfo}{z:Value}{sz:Nat}(hi0:ops[i0]?=some oi)(hw:y5 ops n f oi=true)(ho:oi.op= .call {callee:= .builtin .append,args:= #[s,x],argTypes:= #[t,t]})
  (ht:P.underlying t=some (.slice T)) (hi:P.info? T=some i) (hz:i.zero=some z) (hsz:i.size=sz) (hzs:z.cells.size=sz)
  {b:Addr} {N cap:Nat} {xs:List Value} (hs:ev n f s= .slice (some b) N cap) (hxl:xs.length=N*sz) (hxs:∀ w,Own M W w L→∀ j u,xs[j]?=some u->w.cell? (b.add j)=some u)
  {a:Addr} {m c:Nat} {news:List Value} (hx:ev n f x= .slice (some a) m c) (hl:news.length=m*sz) (hnews:∀ w,Own M W w L→∀ j u,news[j]?=some u->w.cell? (a.add j)=some u)
  (hroom:cap<N+m) (h63:N+m<=maxLen) (hbytes:(N+m)*i.bytes<=140737488355328) (hsub:∀ ob' w,Own M W w (ob'++L)->Own M W w L0)
  (h:∀ v' ob',Sl T sz v' (N+m) (xs++news) ob'->m9 M P n ops W L0 Q fuel (listed.setIfInBounds i0 true) (ob'++L) (upd f oi.dst v')):mM M P n ops W L0 Q fuel listed i0 L f:=
 hs_step hi0 hw λw hO=>by
  subst hsz
  have hsmall:N+m<=9223372036854775807:=by simp only [maxLen] at h63;omega
  have hlen:(xs++news).length=(N+m)*i.size:=by rw [List.length_append,hxl,hl,Nat.add_mul]
  have hr:=run_append_grow (P:=P) w t oi.type T i z ht hi hz b N cap xs hxl (hxs w hO) a m c news hl (hnews w hO) Om Om (growslice_fits Om hbytes)
  have hge:=grownCap_ge w (N+m) cap T
  have hcm:=grownCap_le_maxLen w (N+m) cap T h63
  have hO':=(p4 hO).alloc (xs.toArray++news.toArray++Builtin.zeroCells z.cells (grownCap w (N+m) cap T-(N+m))) T
  refine qM _ (w':=_) ?_ ⟨hsub [_] _ hO',(h _ [⟨w.heap.size,xs.toArray++news.toArray++Builtin.zeroCells z.cells (grownCap w (N+m) cap T-(N+m)),T⟩] ⟨hlen,.inr ⟨w.heap.size,grownCap w (N+m) cap T,_,rfl,rfl,hge,hcm, ?_, ?_⟩⟩).go _ hO'⟩
  ·unfold execOp
   simp only [ho,resolve,invoke,builtin,Sem.run_bind,Sem.run_pure,Result.andThen_ok,List.map_toArray,List.map_cons,List.map_nil,hs,hx,hr]
  ·simp only [Array.size_append,List.size_toArray,size_zeroCells,hzs,hxl,hl,←Nat.add_mul]
   congr 1
   omega
  ·simp only [Array.toList_append,List.append_assoc]
   rw [←List.append_assoc,←hlen]
   exact List.take_left
end
section
variable {M:List Nat}{P:Program}{n:Nat}{W:World}{Q:Exit->Act->World->Prop}{c:Xc}
theorem xh_appC {T:TypeId}{sz N m cp:Nat}{A:Option Addr}(xs:List Value)(q:Nat)(L1 L0:List Blk)(hxl:xs.length=N*sz)(hA:A=none->N=0)(hxs:∀ w,Own M W w L1→∀ b,A=some b→∀ j u,xs[j]?=some u->w.cell? (b.add j)=some u)(hm:0<m)(hN:N+m<=1000000)(hsub:∀ ob' w,Own M W w (L1++ob')->Own M W w L0)
  (hg:∀ v' ob',Sl T sz v' (N+m) (xs++(gL L1 q).cs.toList) ob'->zE M P n W Q (aNext c (L1++ob') v'))
  (hkt:(c.L,hL c,c.top,(xA c)[hI c]?,y5 (xA c) n c.f (xO c),(xO c).op,ev n c.f (aX (xO c) 0),ev n c.f (aX (xO c) 1),L1[q]?,P.underlying (aT (xO c)),aInfo P T,(gL L1 q).cs.toList.length,(gL L1 q).cs.toList.all λu=>u.oneCell')
   =(L1,L0,.hst (xA c) (hS c) (hU c) (hL c) (hI c),some (xO c),true,aOp (xO c),.slice A N N,.slice (some ⟨(gL L1 q).b,0,none⟩) m cp,some (gL L1 q),some (.slice T),some (true,sz,some sz),m*sz,true):=by kernel_rfl):zE M P n W Q c:=by
 simp only [Prod.mk.injEq] at hkt
 obtain ⟨f1,f2,e1,e2,e3,e4,e5,e6,e7',e8,e9,e10,e11⟩:=hkt
 have:c=⟨.hst (xA c) (hS c) (hU c) (hL c) (hI c),c.k,L1,c.f⟩:=by rw [←e1,←f1]
 rw [←f2] at hsub
 rw [this]
 obtain ⟨i,z,hi,hz,hsz,hzs,hby⟩:=m7 e9
 have hlit:∀ w,Own M W w L1→∀ j u,(gL L1 q).cs.toList[j]?=some u->w.cell? ((⟨(gL L1 q).b,0,none⟩:Addr).add j)=some u:=λw hO j u hj=>by
  rw [yY,cell_of_row w _ _ _ _ _ (hO.held _ (List.mem_of_getElem? e7')),Nat.zero_add]
  simpa using hj
 have hb:(N+m)*i.bytes<=140737488355328:=by have:=Nat.mul_le_mul hN hby;omega
 cases A with
 |none=>
  obtain rfl:=hA rfl
  have hx0:xs=[]:=by simpa using hxl
  subst hx0
  refine ⟨λhq hs0=>hs_take' (L':=L1++[]++[]) (λw hO=>by simpa using hO) (hl_append (E:=L1) (ob:=[]) (R:=[]) (xO c) e2 e3 e4 e8 hi hz hsz hzs e5 (Sl.nil T sz) e6 e10 (λw hO j u hj=>hlit w (by simpa using hO) j u hj) (List.all_eq_true.1 e11) (by unfold maxLen;omega) hb (λob' w hO=>hsub ob' w (by simpa using hO)) λv' ob' h=>h_take14 (L':=L1++ob') (λw hO=>by simpa using hO) ((hg v' ob' h).go hq (hsub ob')))⟩
 |some b=>
  exact ⟨λhq hs0=>hl_appendF (xO c) e2 e3 e4 e8 hi hz hsz hzs e5 hxl (λw hO j u hj=>hxs w hO b rfl j u hj) e6 e10 hlit Om (by unfold maxLen;omega) hb (λob' w hO=>hsub ob' w (hO.perm List.perm_append_comm)) λv' ob' h=>h_take14 (L':=L1++ob') (λw hO=>hO.perm List.perm_append_comm) ((hg v' ob' h).go hq (hsub ob'))⟩
end
theorem Reads.fst {α:Type}{g:α->List Value}{w:World}{B:Nat}{A:Option Addr}{l:List α}(h:Reads g w B A l)(k:Nat):Reads g w B A (l.take k):=λh0=>by
 rw [List.length_take] at h0
 obtain ⟨b,off,e,hlt,hc⟩:=h Om
 refine ⟨b,off,e,hlt,λj u hj=>hc j u ?_⟩
 have e2:l.flatMap g=(l.take k).flatMap g++(l.drop k).flatMap g:=by rw [←List.flatMap_append,List.take_append_drop]
 rw [e2,List.getElem?_append_left (by
  have:=List.getElem?_eq_some_iff.1 hj
  exact this.1)]
 exact hj
end
section
set_option linter.unnecessarySimpa false
theorem d5 {α β:Type}{f:α->β}{l m:List α}{i:Nat}(hi:i<l.length)(hj:i<m.length)(h:f l[i]≠f m[i]):l.map f≠m.map f:=λe=>h (by
 have h1:(l.map f)[i]'(by rw [List.length_map];exact hi)=f l[i]:=List.getElem_map ..
 have h2:(m.map f)[i]'(by rw [List.length_map];exact hj)=f m[i]:=List.getElem_map ..
 rw [←h1,←h2];exact List.getElem_of_eq e _)
theorem nO {α β:Type}{f:α->β}{l m:List α}{i:Nat}(hi:i<l.length)(hj:i<m.length)(h:(l.map f).take i=(m.map f).take i)(e:f l[i]=f m[i]):(l.map f).take (i+1)=(m.map f).take (i+1):=by
 rw [List.take_succ_eq_append_getElem (by rw [List.length_map];exact hi),List.take_succ_eq_append_getElem (by rw [List.length_map];exact hj),h,List.getElem_map,List.getElem_map,e]
theorem map_end {α β:Type}{f:α->β}{l m:List α}{i:Nat}(hl:l.length=m.length)(hi:l.length<=i)(h:(l.map f).take i=(m.map f).take i):l.map f=m.map f:=by
 rwa [List.take_of_length_le (by rw [List.length_map];exact hi),List.take_of_length_le (by rw [List.length_map];omega)] at h
theorem bar_dec (u v:Bv):decide (u.bt=v.bt)=(decide (u.name=v.name) && (decide (u.rng=v.rng) && decide (u.wh=v.wh))):=by
 obtain ⟨a,b,c⟩:=u
 obtain ⟨a',b',c'⟩:=v
 simp only [Bv.bt,Bt.mk.injEq,Bool.decide_and]
theorem eq_bar (u v:Bv)(d:Nat)(w:World):(Op.equalIn (d+1+1) 85 (bvV u) (bvV v)).run YP w= .ok (decide (u.bt=v.bt)) w:=by
  have h:=eq_agg (P:=YP) (d:=d+1) (t:=85) (xs:=(bvV u).cells) (ys:=(bvV v).cells) (bs:=[(mkS u.name).toList==(mkS v.name).toList,(mkS u.rng).toList==(mkS v.rng).toList,(mkS u.wh).toList==(mkS v.wh).toList]) Tryz.underlying85 Kr
    ⟨by decide,⟨.string (mkS u.name),.string (mkS v.name),λw=>⟨by kernel_rfl,by kernel_rfl,run_equalIn_string w d _ _ _ Tryz.underlying9⟩⟩,
     by decide,⟨.string (mkS u.rng),.string (mkS v.rng),λw=>⟨by kernel_rfl,by kernel_rfl,run_equalIn_string w d _ _ _ Tryz.underlying9⟩⟩,
     by decide,⟨.string (mkS u.wh),.string (mkS v.wh),λw=>⟨by kernel_rfl,by kernel_rfl,run_equalIn_string w d _ _ _ Tryz.underlying9⟩⟩,trivial⟩ w
  rw [all3,fC,fC,fC,←bar_dec] at h
  exact h
theorem guard_bar:Tryz.prog.eqGuardType Tryz.prog.depth 85=false:=by kernel_rfl
theorem op_ne_bar {ρ:Operand->Value}{o:Oper}{t':TypeId}{x y:Operand}{u v:Bv}{b:Bool}(ho:o.op= .binOp .neq 85 x y t')(hx:ρ x=bvV u)(hy:ρ y=bvV v)(hb:decide (u.bt=v.bt)=b)(w:World):(execOp ρ o).run YP w= .ok (.value (.bool (!b))) w:=
 run_ne_op ho hx hy guard_bar (λw=>hb▸eq_bar u v 9998 w) w
end
section
set_option linter.unnecessarySimpa false
theorem op_eq_verQ {ρ:Operand->Value}{o:Oper}{t':TypeId}{x y:Operand}{u v:Ver}{b:Bool}(ho:o.op= .binOp .eql 24 x y t')(hx:ρ x=yN u)(hy:ρ y=yN v)(hb:decide (u=v)=b)(w:World):(execOp ρ o).run YP w= .ok (.value (.bool b)) w:=
 run_eq_op ho hx hy guard_ver (λw=>hb▸eq_ver u v 9998 w) w
section
variable {M:List Nat}{n:Nat}{W:World}{Q:Exit->Act->World->Prop}{c:Xc}
theorem x_eqa {α:Type}{p:α->α->Prop}[∀ u v,Decidable (p u v)](T:TypeId)(enc:α->Value)(hrun:∀ {ρ:Operand->Value} {o:Oper} {t':TypeId} {x y:Operand} {u v:α} {b:Bool},o.op= .binOp .eql T x y t'->ρ x=enc u->ρ y=enc v->decide (p u v)=b→∀ w,(execOp ρ o).run YP w= .ok (.value (.bool b)) w)
  (d:Nat) (h:List Nat) (u v:α) (h1:p u v->zE M YP n W Q ((xgo YP n (d+50000) h c).put (.bool true))) (h2:¬ p u v->zE M YP n W Q ((xgo YP n (d+50000) h c).put (.bool false)))
  (hkt:(xgl YP n (d+50000) h c,xW n (xgo YP n (d+50000) h c),(xO (xgo YP n (d+50000) h c)).op,ev n (xgo YP n (d+50000) h c).f (oX (xO (xgo YP n (d+50000) h c))),ev n (xgo YP n (d+50000) h c).f (oY (xO (xgo YP n (d+50000) h c))))=(xgr YP n (d+50000) h c,true,.binOp .eql T (oX (xO (xgo YP n (d+50000) h c))) (oY (xO (xgo YP n (d+50000) h c))) (oU (xO (xgo YP n (d+50000) h c))),enc u,enc v):=by kernel_rfl):zE M YP n W Q c:=by
 simp only [Prod.mk.injEq] at hkt
 obtain ⟨hk,e1,e2,e3,e4⟩:=hkt
 by_cases hp:p u v
 ·exact zN h c hk (xE e1 (λw=>hrun e2 e3 e4 (decide_eq_true hp) w) (h1 hp))
 ·exact zN h c hk (xE e1 (λw=>hrun e2 e3 e4 (decide_eq_false hp) w) (h2 hp))
end
theorem no_len {α β:Type}{f:α->β}{l m:List α}(h:¬ (l.length:Int)=(m.length:Int)):¬ l.map f=m.map f:=λe=>h (by
 have:=congrArg List.length e
 simp only [List.length_map] at this;omega)
def stV (s:YL):Value:= .string (mkS s)
theorem qEqS_any (A B:Option Addr)(cap capb:Nat)(xs ys:List YL)(W:World)(hx:Reads y7 W W.heap.size A xs)(hy:Reads y7 W W.heap.size B ys)(hn:xs.length<=1000000)(hm:ys.length<=1000000):YC 262 #[.slice A xs.length cap,.slice B ys.length capb] W (YR (.bool (decide (xs.map id=ys.map id))) W):=by
 have hno:∀ w,YB W w→¬ xs.map id=ys.map id->(Ending.returned (.bool false)= .returned (.bool (decide (xs.map id=ys.map id))))/\YB W w:=λw hb h=>⟨by rw [decide_eq_false h],hb⟩
 refine z8 Tryz.func262 (kW 10 [] ((xs.length:Int)=(ys.length:Int)) (λh1=> ?_) (λh1=> ?_))
 rotate_left
 ·exact z7 [] Z5 λw hO=>hno w hO.below (no_len h1)
 have hl:xs.length=ys.length:=by omega
 refine zL (α:=Nat) (λi=>[(0,.slice A xs.length cap),(1,.slice B ys.length capb),(12,YI (xs.length:Int)),(13,YI (i:Int))]) (λ_=>[]) (λi m=>(i<=xs.length/\(xs.map id).take i=(ys.map id).take i)/\m=xs.length-i) 0 xs.length [] ⟨⟨Nat.zero_le _,rfl⟩,rfl⟩ ?_
 rintro i mm g kk ⟨⟨hi,heq⟩,hmm⟩ nx hkk
 subst hkk
 refine zA 14 [] ((i:Int)<(xs.length:Int)) (λh14=> ?_) (λh14=> ?_)
 rotate_left
 ·exact z7 [] Z4 λw hO=>⟨by rw [decide_eq_true (map_end hl Om heq)],hO.below⟩
 have hj:i<xs.length:=by omega
 have hj2:i<ys.length:=by omega
 have hst:=nO hj hj2 heq
 have hdf:=d5 (f:=id) hj hj2
 obtain ⟨eb,eo,hA,hel⟩:=hx.elem zO i hj
 obtain ⟨fb,fo,hA2,hel2⟩:=hy.elem zO i hj2
 have h1':∀ w,YB W w->(loadVar 9 ⟨eb,eo+i*1+0,none⟩).run YP w= .ok (stV xs[i]) w:=λw hw=>hel w hw _ 0 _ Kr
 have h2':∀ w,YB W w->(loadVar 9 ⟨fb,fo+i*1+0,none⟩).run YP w= .ok (stV ys[i]) w:=λw hw=>hel2 w hw _ 0 _ Kr
 generalize xs[i]=u at*
 generalize ys[i]=v at*
 refine zH 18 [] hA xs.length cap i 1 hj (zG 19 [] 9 eb (eo+i*1+0) (stV u) (λw hO=>h1' w hO.below) (zH 22 [] hA2 ys.length capb i 1 hj2 (zG 23 [] 9 fb (fo+i*1+0) (stV v) (λw hO=>h2' w hO.below) (gR 24 [] u v (λh=> ?_) (λh=> ?_)))))
 ·exact x_i 13 [] ((i+1:Nat):Int) (nx (i+1) (xs.length-(i+1)) [] Om ⟨⟨hj,hst h⟩,rfl⟩ Kr Kr)
 ·exact z7 [] Z5 λw hO=>hno w hO.below (hdf h)
theorem qEqB_any (A B:Option Addr)(cap capb:Nat)(xs ys:List Bv)(W:World)(hx:Reads bvC W W.heap.size A xs)(hy:Reads bvC W W.heap.size B ys)(hn:xs.length<=1000000)(hm:ys.length<=1000000):YC 208 #[.slice A xs.length cap,.slice B ys.length capb] W (YR (.bool (decide (xs.map Bv.bt=ys.map Bv.bt))) W):=by
 have hno:∀ w,YB W w→¬ xs.map Bv.bt=ys.map Bv.bt->(Ending.returned (.bool false)= .returned (.bool (decide (xs.map Bv.bt=ys.map Bv.bt))))/\YB W w:=λw hb h=>⟨by rw [decide_eq_false h],hb⟩
 refine z8 Tryz.func208 (kW 10 [] ((xs.length:Int)=(ys.length:Int)) (λh1=> ?_) (λh1=> ?_))
 rotate_left
 ·exact z7 [] Z5 λw hO=>hno w hO.below (no_len h1)
 have hl:xs.length=ys.length:=by omega
 refine zL (α:=Nat) (λi=>[(0,.slice A xs.length cap),(1,.slice B ys.length capb),(12,YI (xs.length:Int)),(13,YI (i:Int))]) (λ_=>[]) (λi m=>(i<=xs.length/\(xs.map Bv.bt).take i=(ys.map Bv.bt).take i)/\m=xs.length-i) 0 xs.length [] ⟨⟨Nat.zero_le _,rfl⟩,rfl⟩ ?_
 rintro i mm g kk ⟨⟨hi,heq⟩,hmm⟩ nx hkk
 subst hkk
 refine zA 14 [] ((i:Int)<(xs.length:Int)) (λh14=> ?_) (λh14=> ?_)
 rotate_left
 ·exact z7 [] Z4 λw hO=>⟨by rw [decide_eq_true (map_end hl Om heq)],hO.below⟩
 have hj:i<xs.length:=by omega
 have hj2:i<ys.length:=by omega
 have hst:=nO hj hj2 heq
 have hdf:=d5 (f:=Bv.bt) hj hj2
 obtain ⟨eb,eo,hA,hel⟩:=hx.elem pR i hj
 obtain ⟨fb,fo,hA2,hel2⟩:=hy.elem pR i hj2
 have h1':∀ w,YB W w->(loadVar 85 ⟨eb,eo+i*3+0,none⟩).run YP w= .ok (bvV xs[i]) w:=λw hw=>hel w hw _ 0 _ Kr
 have h2':∀ w,YB W w->(loadVar 85 ⟨fb,fo+i*3+0,none⟩).run YP w= .ok (bvV ys[i]) w:=λw hw=>hel2 w hw _ 0 _ Kr
 generalize xs[i]=u at*
 generalize ys[i]=v at*
 refine zH 18 [] hA xs.length cap i 3 hj (zG 19 [] 85 eb (eo+i*3+0) (bvV u) (λw hO=>h1' w hO.below) (zH 22 [] hA2 ys.length capb i 3 hj2 (zG 23 [] 85 fb (fo+i*3+0) (bvV v) (λw hO=>h2' w hO.below) (x_nea (p:=λu v:Bv=>u.bt=v.bt) 85 bvV op_ne_bar 24 [] u v (λh=> ?_) (λh=> ?_)))))
 ·exact x_i 13 [] ((i+1:Nat):Int) (nx (i+1) (xs.length-(i+1)) [] Om ⟨⟨hj,hst h⟩,rfl⟩ Kr Kr)
 ·exact z7 [] Z5 λw hO=>hno w hO.below (hdf h)
theorem qEqT_any (A B:Option Addr)(cap capb:Nat)(xs ys:List YL)(W:World)(hx:Reads y7 W W.heap.size A xs)(hy:Reads y7 W W.heap.size B ys)(hn:xs.length<=1000000)(hm:ys.length<=1000000):YC 262 #[.slice A xs.length cap,.slice B ys.length capb] W (YR (.bool (decide (xs=ys))) W):=by
 have h:=qEqS_any A B cap capb xs ys W hx hy hn hm
 simp only [List.map_id] at h
 exact h
theorem qSameW_any (x y:Wv)(W:World)(hx:Reads y7 W W.heap.size x.A x.fs)(hy:Reads y7 W W.heap.size y.A y.fs)(hn:x.fs.length<=1000000)(hm:y.fs.length<=1000000):YC 261 #[wvV x,wvV y] W (YR (.bool (decide (x.wt=y.wt))) W):=by
 have hno:∀ w,YB W w->x.wt≠y.wt->(Ending.returned (.bool false)= .returned (.bool (decide (x.wt=y.wt))))/\YB W w:=λw hb h=>⟨by rw [decide_eq_false h],hb⟩
 have hT:∀ w,YB W w->YC 262 #[.slice x.A x.fs.length x.cap,.slice y.A y.fs.length y.cap] w (YR (.bool (decide (x.fs=y.fs))) w):=λw hb=>qEqT_any x.A y.A x.cap y.cap x.fs y.fs w (hx.on hb hb.size) (hy.on hb hb.size) hn hm
 refine z8 Tryz.func261 (zQ [] λb2=>zQ [] λb3=>yS 9 [1,0] x.name y.name (λh1=> ?_) (λh1=> ?_))
 rotate_left
 ·exact z7 [] Z5 λw hO=>hno w hO.below λe=>h1 (congrArg Wt.name e)
 refine yS 15 [1,0] x.rng y.rng (λh2=> ?_) (λh2=> ?_)
 rotate_left
 ·exact z7 [] Z5 λw hO=>hno w hO.below λe=>h2 (congrArg Wt.rng e)
 refine z6 (v:= .bool (decide (x.fs=y.fs))) [1,0] (λw hO=>hT w hO.below) (qT 22 (x.fs=y.fs) (λh4=> ?_) (λh4=> ?_))
 rotate_left
 ·exact z7 [] Z5 λw hO=>hno w hO.below λe=>h4 (congrArg Wt.fs e)
 refine x_bb 29 [1,0] (x.bare==y.bare) (λh3=> ?_) (λh3=> ?_)
 ·refine z7 [] Z4 λw hO=>⟨?_,hO.below⟩
  rw [decide_eq_true (show x.wt=y.wt by unfold Wv.wt;rw [h1,h2,h4,beq_iff_eq.1 h3])]
 ·exact z7 [] Z5 λw hO=>hno w hO.below λe=>by
   have:x.bare=y.bare:=congrArg Wt.bare e
   rw [this] at h3;simp at h3
theorem qEqW_any (A B:Option Addr)(cap capb:Nat)(xs ys:List Wv)(W:World)(hx:Reads wvC W W.heap.size A xs)(hy:Reads wvC W W.heap.size B ys)(hn:xs.length<=1000000)(hm:ys.length<=1000000)(hp:∀ x∈xs,∀ y∈ys,∀ w,YB W w->YC 261 #[wvV x,wvV y] w (YR (.bool (decide (Wv.wt x=Wv.wt y))) w)):YC 260 #[.slice A xs.length cap,.slice B ys.length capb,.func (.func 261) #[] #[]] W (YR (.bool (decide (xs.map Wv.wt=ys.map Wv.wt))) W):=by
 have hno:∀ w,YB W w→¬ xs.map Wv.wt=ys.map Wv.wt->(Ending.returned (.bool false)= .returned (.bool (decide (xs.map Wv.wt=ys.map Wv.wt))))/\YB W w:=λw hb h=>⟨by rw [decide_eq_false h],hb⟩
 refine z8 Tryz.func260 (kW 14 [] ((xs.length:Int)=(ys.length:Int)) (λh1=> ?_) (λh1=> ?_))
 rotate_left
 ·exact z7 [] Z5 λw hO=>hno w hO.below (no_len h1)
 have hl:xs.length=ys.length:=by omega
 refine zL (α:=Nat) (λi=>[(1,.slice B ys.length capb),(2,.func (.func 261) #[] #[]),(15,.slice A xs.length cap),(16,YI (xs.length:Int)),(17,YI (i:Int))]) (λ_=>[]) (λi m=>(i<=xs.length/\(xs.map Wv.wt).take i=(ys.map Wv.wt).take i)/\m=xs.length-i) 0 xs.length [] ⟨⟨Nat.zero_le _,rfl⟩,rfl⟩ ?_
 rintro i mm g kk ⟨⟨hi,heq⟩,hmm⟩ nx hkk
 subst hkk
 refine zA 18 [] ((i:Int)<(xs.length:Int)) (λh18=> ?_) (λh18=> ?_)
 rotate_left
 ·exact z7 [] Z4 λw hO=>⟨by rw [decide_eq_true (map_end hl Om heq)],hO.below⟩
 have hj:i<xs.length:=by omega
 have hj2:i<ys.length:=by omega
 have hst:=nO hj hj2 heq
 have hdf:=d5 (f:=Wv.wt) hj hj2
 have hc:=hp _ (List.getElem_mem hj) _ (List.getElem_mem hj2)
 obtain ⟨eb,eo,hA,hel⟩:=hx.elem vJ i hj
 obtain ⟨fb,fo,hA2,hel2⟩:=hy.elem vJ i hj2
 have h1':∀ w,YB W w->(loadVar 146 ⟨eb,eo+i*4+0,none⟩).run YP w= .ok (wvV xs[i]) w:=λw hw=>hel w hw _ 0 _ Kr
 have h2':∀ w,YB W w->(loadVar 146 ⟨fb,fo+i*4+0,none⟩).run YP w= .ok (wvV ys[i]) w:=λw hw=>hel2 w hw _ 0 _ Kr
 clear hp
 generalize xs[i]=u at*
 generalize ys[i]=v at*
 refine zH 20 [] hA xs.length cap i 4 hj (zG 21 [] 146 eb (eo+i*4+0) (wvV u) (λw hO=>h1' w hO.below) (zB [] λb8=>zH 24 [0] hA2 ys.length capb i 4 hj2 (zG 25 [] 146 fb (fo+i*4+0) (wvV v) (λw hO=>h2' w hO.below) (zB [] λb9=>z6 (v:= .bool (decide (Wv.wt u=Wv.wt v))) [0,1,0] (λw hO=>hc w hO.below) (qT 29 (Wv.wt u=Wv.wt v) (λh=> ?_) (λh=> ?_))))))
 ·exact x_i 17 [] ((i+1:Nat):Int) (zK [] [] (λw hO=>hO.no) (nx (i+1) (xs.length-(i+1)) [] Om ⟨⟨hj,hst h⟩,rfl⟩ Kr Kr))
 ·exact z7 [] Z5 λw hO=>hno w hO.below (hdf h)
theorem qSameN_any (x y:Nv)(W:World)(hx:Reads wvC W W.heap.size x.A x.any)(hy:Reads wvC W W.heap.size y.A y.any)(hxf:∀ u∈x.any,Reads y7 W W.heap.size u.A u.fs)(hyf:∀ u∈y.any,Reads y7 W W.heap.size u.A u.fs)(hn:x.any.length<=5000)(hm:y.any.length<=5000)(hxn:∀ u∈x.any,u.fs.length<=5000)(hyn:∀ u∈y.any,u.fs.length<=5000):YC 207 #[nvV x,nvV y] W (YR (.bool (decide (x.nt=y.nt))) W):=by
 have hno:∀ w,YB W w->x.nt≠y.nt->(Ending.returned (.bool false)= .returned (.bool (decide (x.nt=y.nt))))/\YB W w:=λw hb h=>⟨by rw [decide_eq_false h],hb⟩
 have hT:∀ w,YB W w->YC 260 #[.slice x.A x.any.length x.cap,.slice y.A y.any.length y.cap,.func (.func 261) #[] #[]] w (YR (.bool (decide (x.any.map Wv.wt=y.any.map Wv.wt))) w):=λw hb=>qEqW_any x.A y.A x.cap y.cap x.any y.any w (hx.on hb hb.size) (hy.on hb hb.size) Om Om λu hu v hv w2 hb2=>qSameW_any u v w2 (((hxf u hu).on hb hb.size).on hb2 hb2.size) (((hyf v hv).on hb hb.size).on hb2 hb2.size) (by have:=hxn u hu;omega) (by have:=hyn v hv;omega)
 refine z8 Tryz.func207 (zQ [] λb2=>zQ [] λb3=>z6 (v:= .bool (decide (x.any.map Wv.wt=y.any.map Wv.wt))) [1,0] (λw hO=>hT w hO.below) (qT 9 (x.any.map Wv.wt=y.any.map Wv.wt) (λh1=> ?_) (λh1=> ?_)))
 rotate_left
 ·exact z7 [] Z5 λw hO=>hno w hO.below λe=>h1 (congrArg Nt.any e)
 refine yS 15 [1,0] x.wh y.wh (λh2=> ?_) (λh2=> ?_)
 rotate_left
 ·exact z7 [] Z5 λw hO=>hno w hO.below λe=>h2 (congrArg Nt.wh e)
 refine yS 22 [1,0] x.opt y.opt (λh3=> ?_) (λh3=> ?_)
 ·exact z7 [] Z4 λw hO=>⟨by rw [decide_eq_true (show x.nt=y.nt by unfold Nv.nt;rw [h1,h2,h3])],hO.below⟩
 ·exact z7 [] Z5 λw hO=>hno w hO.below λe=>h3 (congrArg Nt.opt e)
theorem qEqN_any (A B:Option Addr)(cap capb:Nat)(xs ys:List Nv)(W:World)(hx:Reads nvC W W.heap.size A xs)(hy:Reads nvC W W.heap.size B ys)(hn:xs.length<=1000000)(hm:ys.length<=1000000)(hp:∀ x∈xs,∀ y∈ys,∀ w,YB W w->YC 207 #[nvV x,nvV y] w (YR (.bool (decide (Nv.nt x=Nv.nt y))) w)):YC 206 #[.slice A xs.length cap,.slice B ys.length capb,.func (.func 207) #[] #[]] W (YR (.bool (decide (xs.map Nv.nt=ys.map Nv.nt))) W):=by
 have hno:∀ w,YB W w→¬ xs.map Nv.nt=ys.map Nv.nt->(Ending.returned (.bool false)= .returned (.bool (decide (xs.map Nv.nt=ys.map Nv.nt))))/\YB W w:=λw hb h=>⟨by rw [decide_eq_false h],hb⟩
 refine z8 Tryz.func206 (kW 14 [] ((xs.length:Int)=(ys.length:Int)) (λh1=> ?_) (λh1=> ?_))
 rotate_left
 ·exact z7 [] Z5 λw hO=>hno w hO.below (no_len h1)
 have hl:xs.length=ys.length:=by omega
 refine zL (α:=Nat) (λi=>[(1,.slice B ys.length capb),(2,.func (.func 207) #[] #[]),(15,.slice A xs.length cap),(16,YI (xs.length:Int)),(17,YI (i:Int))]) (λ_=>[]) (λi m=>(i<=xs.length/\(xs.map Nv.nt).take i=(ys.map Nv.nt).take i)/\m=xs.length-i) 0 xs.length [] ⟨⟨Nat.zero_le _,rfl⟩,rfl⟩ ?_
 rintro i mm g kk ⟨⟨hi,heq⟩,hmm⟩ nx hkk
 subst hkk
 refine zA 18 [] ((i:Int)<(xs.length:Int)) (λh18=> ?_) (λh18=> ?_)
 rotate_left
 ·exact z7 [] Z4 λw hO=>⟨by rw [decide_eq_true (map_end hl Om heq)],hO.below⟩
 have hj:i<xs.length:=by omega
 have hj2:i<ys.length:=by omega
 have hst:=nO hj hj2 heq
 have hdf:=d5 (f:=Nv.nt) hj hj2
 have hc:=hp _ (List.getElem_mem hj) _ (List.getElem_mem hj2)
 obtain ⟨eb,eo,hA,hel⟩:=hx.elem w6 i hj
 obtain ⟨fb,fo,hA2,hel2⟩:=hy.elem w6 i hj2
 have h1':∀ w,YB W w->(loadVar 83 ⟨eb,eo+i*3+0,none⟩).run YP w= .ok (nvV xs[i]) w:=λw hw=>hel w hw _ 0 _ Kr
 have h2':∀ w,YB W w->(loadVar 83 ⟨fb,fo+i*3+0,none⟩).run YP w= .ok (nvV ys[i]) w:=λw hw=>hel2 w hw _ 0 _ Kr
 clear hp
 generalize xs[i]=u at*
 generalize ys[i]=v at*
 refine zH 20 [] hA xs.length cap i 3 hj (zG 21 [] 83 eb (eo+i*3+0) (nvV u) (λw hO=>h1' w hO.below) (zB [] λb8=>zH 24 [0] hA2 ys.length capb i 3 hj2 (zG 25 [] 83 fb (fo+i*3+0) (nvV v) (λw hO=>h2' w hO.below) (zB [] λb9=>z6 (v:= .bool (decide (Nv.nt u=Nv.nt v))) [0,1,0] (λw hO=>hc w hO.below) (qT 29 (Nv.nt u=Nv.nt v) (λh=> ?_) (λh=> ?_))))))
 ·exact x_i 17 [] ((i+1:Nat):Int) (zK [] [] (λw hO=>hO.no) (nx (i+1) (xs.length-(i+1)) [] Om ⟨⟨hj,hst h⟩,rfl⟩ Kr Kr))
 ·exact z7 [] Z5 λw hO=>hno w hO.below (hdf h)
theorem qSameF_any (x y:Fv)(W:World)(hx:Reads y7 W W.heap.size x.A x.of)(hy:Reads y7 W W.heap.size y.A y.of)(hn:x.of.length<=1000000)(hm:y.of.length<=1000000):YC 210 #[fvV x,fvV y] W (YR (.bool (decide (x.ft=y.ft))) W):=by
 have hno:∀ w,YB W w->x.ft≠y.ft->(Ending.returned (.bool false)= .returned (.bool (decide (x.ft=y.ft))))/\YB W w:=λw hb h=>⟨by rw [decide_eq_false h],hb⟩
 have hT:∀ w,YB W w->YC 262 #[.slice x.A x.of.length x.cap,.slice y.A y.of.length y.cap] w (YR (.bool (decide (x.of=y.of))) w):=λw hb=>qEqT_any x.A y.A x.cap y.cap x.of y.of w (hx.on hb hb.size) (hy.on hb hb.size) hn hm
 refine z8 Tryz.func210 (zQ [] λb2=>zQ [] λb3=>yS 9 [1,0] x.name y.name (λh1=> ?_) (λh1=> ?_))
 rotate_left
 ·exact z7 [] Z5 λw hO=>hno w hO.below λe=>h1 (congrArg Ft.name e)
 refine z6 (v:= .bool (decide (x.of=y.of))) [1,0] (λw hO=>hT w hO.below) (qT 15 (x.of=y.of) (λh2=> ?_) (λh2=> ?_))
 ·exact z7 [] Z4 λw hO=>⟨by rw [decide_eq_true (show x.ft=y.ft by unfold Fv.ft;rw [h1,h2])],hO.below⟩
 ·exact z7 [] Z5 λw hO=>hno w hO.below λe=>h2 (congrArg Ft.of e)
theorem qEqF_any (A B:Option Addr)(cap capb:Nat)(xs ys:List Fv)(W:World)(hx:Reads fvC W W.heap.size A xs)(hy:Reads fvC W W.heap.size B ys)(hn:xs.length<=1000000)(hm:ys.length<=1000000)(hp:∀ x∈xs,∀ y∈ys,∀ w,YB W w->YC 210 #[fvV x,fvV y] w (YR (.bool (decide (Fv.ft x=Fv.ft y))) w)):YC 209 #[.slice A xs.length cap,.slice B ys.length capb,.func (.func 210) #[] #[]] W (YR (.bool (decide (xs.map Fv.ft=ys.map Fv.ft))) W):=by
 have hno:∀ w,YB W w→¬ xs.map Fv.ft=ys.map Fv.ft->(Ending.returned (.bool false)= .returned (.bool (decide (xs.map Fv.ft=ys.map Fv.ft))))/\YB W w:=λw hb h=>⟨by rw [decide_eq_false h],hb⟩
 refine z8 Tryz.func209 (kW 14 [] ((xs.length:Int)=(ys.length:Int)) (λh1=> ?_) (λh1=> ?_))
 rotate_left
 ·exact z7 [] Z5 λw hO=>hno w hO.below (no_len h1)
 have hl:xs.length=ys.length:=by omega
 refine zL (α:=Nat) (λi=>[(1,.slice B ys.length capb),(2,.func (.func 210) #[] #[]),(15,.slice A xs.length cap),(16,YI (xs.length:Int)),(17,YI (i:Int))]) (λ_=>[]) (λi m=>(i<=xs.length/\(xs.map Fv.ft).take i=(ys.map Fv.ft).take i)/\m=xs.length-i) 0 xs.length [] ⟨⟨Nat.zero_le _,rfl⟩,rfl⟩ ?_
 rintro i mm g kk ⟨⟨hi,heq⟩,hmm⟩ nx hkk
 subst hkk
 refine zA 18 [] ((i:Int)<(xs.length:Int)) (λh18=> ?_) (λh18=> ?_)
 rotate_left
 ·exact z7 [] Z4 λw hO=>⟨by rw [decide_eq_true (map_end hl Om heq)],hO.below⟩
 have hj:i<xs.length:=by omega
 have hj2:i<ys.length:=by omega
 have hst:=nO hj hj2 heq
 have hdf:=d5 (f:=Fv.ft) hj hj2
 have hc:=hp _ (List.getElem_mem hj) _ (List.getElem_mem hj2)
 obtain ⟨eb,eo,hA,hel⟩:=hx.elem vP i hj
 obtain ⟨fb,fo,hA2,hel2⟩:=hy.elem vP i hj2
 have h1':∀ w,YB W w->(loadVar 87 ⟨eb,eo+i*2+0,none⟩).run YP w= .ok (fvV xs[i]) w:=λw hw=>hel w hw _ 0 _ Kr
 have h2':∀ w,YB W w->(loadVar 87 ⟨fb,fo+i*2+0,none⟩).run YP w= .ok (fvV ys[i]) w:=λw hw=>hel2 w hw _ 0 _ Kr
 clear hp
 generalize xs[i]=u at*
 generalize ys[i]=v at*
 refine zH 20 [] hA xs.length cap i 2 hj (zG 21 [] 87 eb (eo+i*2+0) (fvV u) (λw hO=>h1' w hO.below) (zB [] λb8=>zH 24 [0] hA2 ys.length capb i 2 hj2 (zG 25 [] 87 fb (fo+i*2+0) (fvV v) (λw hO=>h2' w hO.below) (zB [] λb9=>z6 (v:= .bool (decide (Fv.ft u=Fv.ft v))) [0,1,0] (λw hO=>hc w hO.below) (qT 29 (Fv.ft u=Fv.ft v) (λh=> ?_) (λh=> ?_))))))
 ·exact x_i 17 [] ((i+1:Nat):Int) (zK [] [] (λw hO=>hO.no) (nx (i+1) (xs.length-(i+1)) [] Om ⟨⟨hj,hst h⟩,rfl⟩ Kr Kr))
 ·exact z7 [] Z5 λw hO=>hno w hO.below (hdf h)
theorem qSame_any (x y:Rv)(W:World)(hx:RcSm W W.heap.size x)(hy:RcSm W W.heap.size y):YC 145 #[rvV x,rvV y] W (YR (.bool (decide (x.rt=y.rt))) W):=by
 have hno:∀ w,YB W w->x.rt≠y.rt->(Ending.returned (.bool false)= .returned (.bool (decide (x.rt=y.rt))))/\YB W w:=λw hb h=>⟨by rw [decide_eq_false h],hb⟩
 have hxn:=hx.nn;have hxb:=hx.nb;have hxf:=hx.fts.n;have hyn:=hy.nn;have hyb:=hy.nb;have hyf:=hy.fts.n
 have c1:∀ w,YB W w->YC 206 #[.slice x.nA x.needs.length x.nc,.slice y.nA y.needs.length y.nc,.func (.func 207) #[] #[]] w (YR (.bool (decide (x.needs.map Nv.nt=y.needs.map Nv.nt))) w):=λw hb=>qEqN_any x.nA y.nA x.nc y.nc x.needs y.needs w (hx.needs.on hb hb.size) (hy.needs.on hb hb.size) Om Om λu hu v hv w2 hb2=>by
  have hb3:=hb.trans (hb2.mono hb.size)
  exact qSameN_any u v w2 ((hx.any u hu).on hb3 hb3.size) ((hy.any v hv).on hb3 hb3.size) (λz hz=>(hx.wfs u hu z hz).on hb3 hb3.size) (λz hz=>(hy.wfs v hv z hz).on hb3 hb3.size) (hx.na u hu) (hy.na v hv) (hx.nf u hu) (hy.nf v hv)
 have c2:∀ w,YB W w->YC 208 #[.slice x.bA x.bars.length x.bc,.slice y.bA y.bars.length y.bc] w (YR (.bool (decide (x.bars.map Bv.bt=y.bars.map Bv.bt))) w):=λw hb=>qEqB_any x.bA y.bA x.bc y.bc x.bars y.bars w (hx.bars.on hb hb.size) (hy.bars.on hb hb.size) Om Om
 have c3:∀ w,YB W w->YC 209 #[.slice x.fA x.fts.length x.fc,.slice y.fA y.fts.length y.fc,.func (.func 210) #[] #[]] w (YR (.bool (decide (x.fts.map Fv.ft=y.fts.map Fv.ft))) w):=λw hb=>qEqF_any x.fA y.fA x.fc y.fc x.fts y.fts w (hx.fts.top.on hb hb.size) (hy.fts.top.on hb hb.size) Om Om λu hu v hv w2 hb2=>by
  have hb3:=hb.trans (hb2.mono hb.size)
  exact qSameF_any u v w2 ((hx.fts.each u hu).on hb3 hb3.size) ((hy.fts.each v hv).on hb3 hb3.size) (by have:=hx.fts.m u hu;omega) (by have:=hy.fts.m v hv;omega)
 refine z8 Tryz.func145 (zQ [] λb2=>zQ [] λb3=>yS 9 [1,0] x.name y.name (λh1=> ?_) (λh1=> ?_))
 rotate_left
 ·exact z7 [] Z5 λw hO=>hno w hO.below λe=>h1 (congrArg Rt.name e)
 refine x_eqa (p:=λu v:Ver=>u=v) 24 yN op_eq_verQ 15 [1,0] x.ver y.ver (λh2=> ?_) (λh2=> ?_)
 rotate_left
 ·exact z7 [] Z5 λw hO=>hno w hO.below λe=>h2 (congrArg Rt.ver e)
 refine z6 (v:= .bool (decide (x.needs.map Nv.nt=y.needs.map Nv.nt))) [1,0] (λw hO=>c1 w hO.below) (qT 22 (x.needs.map Nv.nt=y.needs.map Nv.nt) (λh3=> ?_) (λh3=> ?_))
 rotate_left
 ·exact z7 [] Z5 λw hO=>hno w hO.below λe=>h3 (congrArg Rt.needs e)
 refine z6 (v:= .bool (decide (x.bars.map Bv.bt=y.bars.map Bv.bt))) [1,0] (λw hO=>c2 w hO.below) (qT 29 (x.bars.map Bv.bt=y.bars.map Bv.bt) (λh4=> ?_) (λh4=> ?_))
 rotate_left
 ·exact z7 [] Z5 λw hO=>hno w hO.below λe=>h4 (congrArg Rt.bars e)
 refine z6 (v:= .bool (decide (x.fts.map Fv.ft=y.fts.map Fv.ft))) [1,0] (λw hO=>c3 w hO.below) (qT 36 (x.fts.map Fv.ft=y.fts.map Fv.ft) (λh5=> ?_) (λh5=> ?_))
 ·refine z7 [] Z4 λw hO=>⟨?_,hO.below⟩
  rw [decide_eq_true (show x.rt=y.rt by unfold Rv.rt yI;rw [h1,h2,h3,h4,h5])]
 ·exact z7 [] Z5 λw hO=>hno w hO.below λe=>h5 (congrArg Rt.fts e)
end
section
theorem fm_count {α:Type}(f:α->YL)(h:∀ x,1<=(f x).length):∀ l:List α,l.length<=(l.flatMap f).length
 | []=>Nat.zero_le _
 |x::l=>by
  have:=fm_count f h l
  have:=h x
  rw [List.flatMap_cons,List.length_append,List.length_cons];omega
theorem chk_bnd {r:Rt}(h:(zP r).1=0):BndR r/\FewR r 4096:=by
 obtain ⟨h1,h2,h3,h4,h5,h6⟩:=gK h
 obtain ⟨pn,pb,_,_⟩:=parts_fine h5
 have hl:(jC r).length+(r.fts.flatMap gE).length<=4096:=by
  unfold kA at h6
  simp only [List.length_append] at h6;omega
 have hv:r.ver.pre.length<=4096/\r.ver.build.length<=4096:=by
  have e:r.ver.print=numsL r.ver++kJ 45 r.ver.pre++kJ 43 r.ver.build:=by unfold Ver.print Ver.text;rw [if_pos h2]
  have hh:(jC r).length<=4096:=by omega
  unfold jC at hh
  rw [e] at hh
  have ht:∀ (c:UInt8) (l:YL),l.length<=(kJ c l).length:=λc l=>by
   unfold kJ;cases l<;>simp
  have a:=ht 45 r.ver.pre
  have b:=ht 43 r.ver.build
  simp only [List.length_append] at hh
  omega
 have hf:∀ f∈r.fts,(gE f).length<=4096:=λf hf=>Nat.le_trans (fm_one gE hf) Om
 refine ⟨⟨Nat.le_trans (fX h1) (by decide),by omega,by omega,λn hn=> ?_,λb hb=> ?_,λf hm=> ?_⟩,⟨by omega,by omega,Nat.le_trans (fm_count gE (λf=>by unfold gE;simp) r.fts) (by omega),λn hn=>by have:=(need_fine (pn n hn)).2.1;omega⟩⟩
 ·obtain ⟨_,_,q3,q4,q5⟩:=need_fine (pn n hn)
  refine ⟨Nat.le_trans (pm_short q4) (by decide), ?_,λu hu=> ?_⟩
  ·rcases q5 with e|e
   ·rw [e];exact Nat.zero_le _
   ·exact Nat.le_trans (tB e) (by decide)
  ·obtain ⟨u1,u2,u3⟩:=wish_fine (q3 u hu)
   unfold wX at u3
   simp only [Bool.and_eq_true,decide_eq_true_eq,List.all_eq_true] at u3
   exact ⟨Nat.le_trans (fX u1) (by decide),Nat.le_trans (pg_short u2) (by decide),by omega,λt ht=>Nat.le_trans (tB (u3.1.1.1 t ht)) (by decide)⟩
 ·obtain ⟨q1,q2,q3⟩:=bar_fine (pb b hb)
  exact ⟨Nat.le_trans (fX q1) (by decide),Nat.le_trans (pg_short q2) (by decide),Nat.le_trans (pm_short q3) (by decide)⟩
 ·have hq:=hf f hm
  unfold gE at hq
  rw [List.length_append,List.length_singleton] at hq
  have hp:=λx (hx:x∈kN::f.name::f.of)=>jn_part 32 hx
  have hc:=jn_many 32 (l:=kN::f.name::f.of)
  simp only [List.length_cons] at hc
  refine ⟨by have:=hp f.name (by simp);omega,by omega,λt ht=>by have:=hp t (by simp [ht]);omega⟩
end
section
theorem same_below {k:FuncId}{args:Array Value}{w:World}{v:Value}(h:Calls YP k args w λe w'=>e= .returned v/\w'=w):Calls YP k args w (YR v w):=h.mono λe w' ⟨q1,q2⟩=>⟨q1,q2.symm▸Below.refl _ _⟩
def intC (n:Int):List Value:=[YI n]
theorem intC_len (n:Int):(intC n).length=1:=rfl
theorem or3_q (A:Option Addr)(x y z:Int)(W:World)(hv:Reads intC W W.heap.size A [x,y,z]):YC 139 #[.slice A 3 3] W (YR (YI (if x≠0 then x else if y≠0 then y else z)) W):=by
 obtain ⟨b,o,hA,h0⟩:=hv.elem intC_len 0 (by simp)
 obtain ⟨b1,o1,e1,h1⟩:=hv.elem intC_len 1 (by simp)
 obtain ⟨b2,o2,e2,h2⟩:=hv.elem intC_len 2 (by simp)
 subst hA
 simp only [Option.some.injEq,Addr.mk.injEq,and_true] at e1 e2
 obtain ⟨rfl,rfl⟩:=e1
 obtain ⟨rfl,rfl⟩:=e2
 have l0:∀ w,YB W w->(loadVar 3 ⟨b,o+0*1+0,none⟩).run YP w= .ok (YI x) w:=λw hw=>h0 w hw _ 0 _ Kr
 have l1:∀ w,YB W w->(loadVar 3 ⟨b,o+1*1+0,none⟩).run YP w= .ok (YI y) w:=λw hw=>h1 w hw _ 0 _ Kr
 have l2:∀ w,YB W w->(loadVar 3 ⟨b,o+2*1+0,none⟩).run YP w= .ok (YI z) w:=λw hw=>h2 w hw _ 0 _ Kr
 refine z8 Tryz.func139 (jG 3 [] (zH 10 [] (b:=b) (off:=o) rfl 3 3 0 1 (by decide) (zG 11 [] 3 b (o+0*1+0) (YI x) (λw hO=>l0 w hO.below) (kW 14 [] (x=0) (λhx=> ?_) (λhx=> ?_)))))
 rotate_left
 ·exact z7 [] (YI x) λw hO=>⟨by rw [if_pos hx],hO.below⟩
 refine x_i 16 [] 1 (zH 10 [] (b:=b) (off:=o) rfl 3 3 1 1 (by decide) (zG 11 [] 3 b (o+1*1+0) (YI y) (λw hO=>l1 w hO.below) (kW 14 [] (y=0) (λhy=> ?_) (λhy=> ?_))))
 rotate_left
 ·exact z7 [] (YI y) λw hO=>⟨by rw [if_neg (λh=>h hx),if_pos hy],hO.below⟩
 refine x_i 16 [] 2 (zH 10 [] (b:=b) (off:=o) rfl 3 3 2 1 (by decide) (zG 11 [] 3 b (o+2*1+0) (YI z) (λw hO=>l2 w hO.below) (kW 14 [] (z=0) (λhz=> ?_) (λhz=> ?_))))
 ·exact x_i 16 [] 3 (z7 [] (YI 0) λw hO=>⟨by rw [if_neg (λh=>h hx),if_neg (λh=>h hy),hz],hO.below⟩)
 ·exact z7 [] (YI z) λw hO=>⟨by rw [if_neg (λh=>h hx),if_neg (λh=>h hy)],hO.below⟩
def fourQ (l:List YL):List YL:=[tg l 0,tg l 1,tg l 2,tg l 3]
theorem fourQ_at (l:List YL):∀ (k:Nat) (h:k<4),(fourQ l)[k]'h=tg l k
 |0,_=>rfl
 |1,_=>rfl
 |2,_=>rfl
 |3,_=>rfl
theorem tails_q (l:List YL)(k:Nat):tg (l.drop k) 0=tg l k:=by unfold tg;simp
theorem cfunc_q (A B:Option Addr)(l m:List YL)(W:World)(hx:Reads y7 W W.heap.size A (fourQ l))(hy:Reads y7 W W.heap.size B (fourQ m))(hl:∀ i,(tg l i).length<=8)(hm:∀ i,(tg m i).length<=8):YC 201 #[.slice A 4 4,.slice B 4 4,.func (.func 202) #[] #[]] W (YR (YI (seqP 4 l m)) W):=by
 refine z8 Tryz.func201 (zL (α:=Nat) (λi=>[(0,.slice A 4 4),(1,.slice B 4 4),(2,.func (.func 202) #[] #[]),(11,.slice A 4 4),(12,YI 4),(13,YI (i:Int))]) (λ_=>[]) (λi k=>(i<=4/\seqP (4-i) (l.drop i) (m.drop i)=seqP 4 l m)/\k=4-i) 0 4 [] ⟨⟨by decide,rfl⟩,rfl⟩ ?_)
 rintro i mm g kk ⟨⟨hi,hs⟩,hmm⟩ nx hkk
 subst hkk
 refine zA 14 [] ((i:Int)<4) (λh=> ?_) (λh=> ?_)
 rotate_left
 ·have e:i=4:=by omega
  subst e
  exact z7 [] (YI 0) λw hO=>⟨by rw [←hs];rfl,hO.below⟩
 have hj:i<4:=by omega
 obtain ⟨eb,eo,hA,hel⟩:=hx.elem zO i hj
 obtain ⟨fb,fo,hB,hel2⟩:=hy.elem zO i hj
 have q1:∀ w,YB W w->(loadVar 9 ⟨eb,eo+i*1+0,none⟩).run YP w= .ok (.string (mkS ((fourQ l)[i]'hj))) w:=λw hw=>hel w hw _ 0 _ Kr
 have q2:∀ w,YB W w->(loadVar 9 ⟨fb,fo+i*1+0,none⟩).run YP w= .ok (.string (mkS ((fourQ m)[i]'hj))) w:=λw hw=>hel2 w hw _ 0 _ Kr
 rw [fourQ_at l i hj] at q1
 rw [fourQ_at m i hj] at q2
 have hst:seqP (4-i) (l.drop i) (m.drop i)=if oneP (tg l i) (tg m i)≠0 then oneP (tg l i) (tg m i) else seqP (4-(i+1)) (l.drop (i+1)) (m.drop (i+1)):=by
  obtain ⟨n,hn⟩:∃ n,4-i=n+1:=⟨3-i,by omega⟩
  rw [hn,seqP,tails_q,tails_q,List.tail_drop,List.tail_drop,show 4-(i+1)=n by omega]
 have hc:∀ w,YC 202 #[.string (mkS (tg l i)),.string (mkS (tg m i))] w (YR (YI (oneP (tg l i) (tg m i))) w):=λw=>compareTag_any _ _ w (by have:=hl i;omega) (by have:=hm i;omega)
 rw [hst] at hs
 generalize tg l i=u at*
 generalize tg m i=v at*
 generalize oneP u v=z at*
 refine zH 16 [] hA 4 4 i 1 hj (zG 17 [] 9 eb (eo+i*1+0) (.string (mkS u)) (λw hO=>q1 w hO.below) (zA 21 [] ((i:Int)>=4) (λh=>absurd h (by omega)) (λ_=>zH 24 [] hB 4 4 i 1 hj (zG 25 [] 9 fb (fo+i*1+0) (.string (mkS v)) (λw hO=>q2 w hO.below) (z6 (v:=YI z) [] (λw hO=>hc w) (kW 31 [] (z=0) (λhz=> ?_) (λhz=> ?_)))))))
 ·exact x_i 33 [] ((i+1:Nat):Int) (nx (i+1) (4-(i+1)) [] Om ⟨⟨hj,by rw [if_neg (λq=>q hz)] at hs;exact hs⟩,rfl⟩ Kr Kr)
 ·exact z7 [] (YI z) λw hO=>⟨by rw [if_pos hz] at hs;rw [hs],hO.below⟩
theorem cpre_q (a b:YL)(W:World)(ha:a.length<=1000000)(hb:b.length<=1000000):YC 141 #[.string (mkS a),.string (mkS b)] W (YR (YI (cpre a b)) W):=by
 have hd:cpre a b=if a=[] then 1 else if b=[] then-1 else seqP 4 (lst a).1 (lst b).1:=rfl
 have cA:=λw'=>list_lit a w' Om
 have cB:=λw'=>list_lit b w' Om
 have hl:=tg_len a
 have hm:=tg_len b
 rw [hd]
 generalize (lst a).2=p at*
 generalize (lst b).2=q at*
 generalize (lst a).1=l at*
 generalize (lst b).1=m at*
 refine z8 Tryz.func141 (yS 11 [] a [] (λh=>z7 [] (YI 1) λw hO=>⟨by rw [if_pos h],hO.below⟩) (λh=>yS 14 [] b [] (λh2=>z7 [] (YI (-1)) λw hO=>⟨by rw [if_neg h,if_pos h2],hO.below⟩) (λh2=> ?_)))
 rw [if_neg h,if_neg h2]
 refine z6 (v:= .tuple #[.agg #[.string (mkS (tg l 0)),.string (mkS (tg l 1)),.string (mkS (tg l 2)),.string (mkS (tg l 3))],.bool p]) [] (λw hO=>cA w) (zB [] λb5=>z6 (v:= .tuple #[.agg #[.string (mkS (tg m 0)),.string (mkS (tg m 1)),.string (mkS (tg m 2)),.string (mkS (tg m 3))],.bool q]) [0] (λw hO=>cB w) (zB [] λb7=>x_val 25 [0] (.slice (some ⟨b5,0,none⟩) 4 4) (λw=>Kr) (x_val 26 [] (.slice (some ⟨b7,0,none⟩) 4 4) (λw=>Kr) ?_)))
 refine z6 (k:=201) (args:= #[.slice (some ⟨b5,0,none⟩) 4 4,.slice (some ⟨b7,0,none⟩) 4 4,.func (.func 202) #[] #[]]) (v:=YI (seqP 4 l m)) [] (λw hO=> ?_) (z7 [] (YI (seqP 4 l m)) λw hO=>⟨rfl,hO.below⟩)
 have hO':=hO.past 0 [⟨b7, #[.string (mkS (tg m 0)),.string (mkS (tg m 1)),.string (mkS (tg m 2)),.string (mkS (tg m 3))],201⟩,⟨b5, #[.string (mkS (tg l 0)),.string (mkS (tg l 1)),.string (mkS (tg l 2)),.string (mkS (tg l 3))],201⟩]
 clear hO
 exact cfunc_q _ _ l m w (Reads.lit9 (hO'.get (i:=1) rfl) rfl) (Reads.lit9 (hO'.get (i:=0) rfl) rfl) hl hm
theorem core_q (v:Ver)(W:World)(hp:v.pre.length<=1000000):YC 138 #[yN v] W (YR (yN (q8 v)) W):=
 z8 Tryz.func138 (zQ [] λb1=>zB [] λb2=>z6 (v:= .string (mkS v.pre)) [1] (λw hO=>clone_any (mkS v.pre) w (by rw [zW];omega)) (qL [1,1,1,0] 0 (yN (q8 v)) λw hO=>⟨rfl,hO.below⟩))
theorem vcompareQ_any (v u:Ver)(W:World)(h1:v.pre.length<=1000000)(h2:v.build.length<=1000000)(h3:u.pre.length<=1000000)(h4:u.build.length<=1000000):YC 77 #[yN v,yN u] W (YR (YI (vQ v u)) W):=by
 have cV:∀ w,YC 102 #[yN v] w (YR (.bool v.may) w):=λw=>pM v w Om Om
 have cU:∀ w,YC 102 #[yN u] w (YR (.bool u.may) w):=λw=>pM u w Om Om
 have kV:=λw=>core_q v w h1
 have kU:=λw=>core_q u w h3
 have cP:=λw=>cpre_q v.pre u.pre w h1 h3
 have c1:=λw=>same_below (Tryz.cmp_Compare_int v.maj u.maj w)
 have c2:=λw=>same_below (Tryz.cmp_Compare_int v.min u.min w)
 have c3:=λw=>same_below (Tryz.cmp_Compare_int v.pat u.pat w)
 have hbad:=λh=> @cmpR_bad v u h
 have hcore:=λh=> @cmpR_core v u h
 have hgo:=λa b h=> @cmpR_go v u a b h
 have hN:cmpN v u=if Lib.compareInt v.maj u.maj≠0 then Lib.compareInt v.maj u.maj else if Lib.compareInt v.min u.min≠0 then Lib.compareInt v.min u.min else Lib.compareInt v.pat u.pat:=rfl
 rw [hN] at hgo
 generalize Lib.compareInt v.maj u.maj=x at*
 generalize Lib.compareInt v.min u.min=y at*
 generalize Lib.compareInt v.pat u.pat=z at*
 generalize cpre v.pre u.pre=p at*
 refine z8 Tryz.func77 (zQ [] λb2=>zQ [] λb3=>z6 (v:= .bool v.may) [1] (λw hO=>cV w) (zX 7 v.may (λe1=> ?_) (λe1=> ?_)))
 rotate_left
 ·exact z7 [] (YI 0) λw hO=>⟨by rw [hbad (.inl e1)],hO.below⟩
 refine z6 (v:= .bool u.may) [0] (λw hO=>cU w) (zX 11 u.may (λe2=> ?_) (λe2=> ?_))
 rotate_left
 ·exact z7 [] (YI 0) λw hO=>⟨by rw [hbad (.inr e2)],hO.below⟩
 refine z6 (v:=yN (q8 v)) [1] (λw hO=>kV w) (z6 (v:=yN (q8 u)) [0] (λw hO=>kU w) (x_eqa (p:=λa b:Ver=>a=b) 24 yN op_eq_verQ 19 [] (q8 v) (q8 u) (λh=> ?_) (λh=> ?_)))
 ·exact z7 [] (YI 0) λw hO=>⟨by rw [hcore h],hO.below⟩
 have hr:=hgo e1 e2 h
 clear hgo hbad hcore hN
 refine x5 17 [] [⟨b3,(ZP u),24⟩,⟨b2,(ZP v),24⟩] (λw hO=>hO.past 0 _) (zY [1,0,1,0,1,0] 4 (z6 (v:=YI x) [] (λw hO=>c1 w) (zY [] 9 (z6 (v:=YI y) [] (λw hO=>c2 w) (zY [] 14 (z6 (v:=YI z) [] (λw hO=>c3 w) (zY [] 15 (gF 3 3 #[YI x,YI y,YI z] λb36=> ?_))))))))
 refine zY [] 16 (z6 (k:=139) (args:= #[.slice (some ⟨b36,0,none⟩) 3 3]) (v:=YI (if x≠0 then x else if y≠0 then y else z)) [] (λw hO=> ?_) ?_)
 ·have hO':=hO.past 0 (⟨b36, #[YI x,YI y,YI z],3⟩::[⟨b3,(ZP u),24⟩,⟨b2,(ZP v),24⟩])
  clear hO
  exact or3_q _ x y z w (Reads.lit9 (hO'.get (i:=0) rfl) rfl)
 generalize (if x≠0 then x else if y≠0 then y else z)=n at*
 refine zA 39 [] (n=0) (λhn=> ?_) (λhn=> ?_)
 ·exact z6 (v:=YI p) [2,1] (λw hO=>cP w) (z7 [] (YI p) λw hO=>⟨by rw [hr,if_neg (λq=>q hn)],hO.below⟩)
 ·exact z7 [] (YI n) λw hO=>⟨by rw [hr,if_pos hn],hO.below⟩
end
section
set_option linter.unnecessarySimpa false
def PreM (l:List Et):Prop:=(∀ e∈l,okE e)/\l.Pairwise λa b=>bS b.rc.name b.rc.ver a=false
theorem pre_step {l:List Et}{e:Et}:PreM (l++[e])↔PreM l/\okE e/\zR l e.rc.name e.rc.ver= -1:=by
 unfold PreM
 rw [List.pairwise_append,place_none]
 constructor
 ·rintro ⟨h1,h2,_,h4⟩
  exact ⟨⟨λx hx=>h1 x (List.mem_append_left _ hx),h2⟩,h1 e (List.mem_append_right _ (List.mem_singleton.2 rfl)),λx hx=>h4 x hx e (List.mem_singleton.2 rfl)⟩
 ·rintro ⟨⟨h1,h2⟩,h3,h4⟩
  refine ⟨λx hx=> ?_,h2,List.pairwise_singleton _ _,λa ha b hb=>by rw [List.mem_singleton.1 hb];exact h4 a ha⟩
  rcases List.mem_append.1 hx with hx|hx
  ·exact h1 x hx
  ·rw [List.mem_singleton.1 hx];exact h3
theorem may_pre13 {s:Sh}(h:yT s)(i:Nat):PreM (s.es.take i):=⟨λe he=>h.ok e (List.mem_of_mem_take he),h.apart.sublist (List.take_sublist _ _)⟩
theorem pre_may {s:Sh}(h1:nmL s.name=true)(h2:s.es.length<=64)(h:PreM s.es):yT s:=⟨h1,h2,h.1,h.2⟩
theorem et_take (l:List Ev)(i:Nat):(l.take i).map Ev.et=(l.map Ev.et).take i:=List.map_take ..
def hv0:Hv:=⟨[],none,0,[]⟩
theorem hv0_o:ShO hv0 []:=⟨[],[],rfl,LsO.nil⟩
theorem EsIn.fst {w:World}{B:Nat}{A:Option Addr}{es:List Ev}(h:EsIn w B A es)(k:Nat):EsIn w B A (es.take k):=⟨h.top.fst k,λe he=>h.each e (List.mem_of_mem_take he),Nat.le_trans (by rw [List.length_take];omega) h.n⟩
theorem RecO.in13 {x:Rv}{ob L:List Blk}{M:List Nat}{W w:World}(h:RecO x ob)(hO:Own M W w L)(hs:∀ b∈ob,b∈L)(hB:BndR x.rt)(hF:FewR x.rt 4096):RcIn w w.heap.size x:=by
 obtain ⟨o1,o2,o4,o7,o8,rfl,h1,h4,h7⟩:=h.ex
 exact rec_inn h1 h4 h7 hO (λb hb=>hs b (by simp [hb])) (λb hb=>hs b (by simp [hb])) (λb hb=>hs b (by simp [hb])) (λb hb=>hs b (by simp [hb])) (λb hb=>hs b (by simp [hb])) hB hF
theorem ShO.inn {y:Hv}{ob L:List Blk}{M:List Nat}{W w:World}(h:ShO y ob)(hO:Own M W w L)(hs:∀ b∈ob,b∈L)(hM:yT y.sh):ShIn w w.heap.size y:=by
 obtain ⟨o1,o2,rfl,hL⟩:=h
 have hl:y.es.length<=64:=by have:=hM.few;simpa [Hv.sh] using this
 refine ⟨⟨Sl.reads hL.top rfl hO λb hb=>hs b (List.mem_append_left _ hb),λe he=> ?_,by omega⟩, ?_,Nat.le_trans (fX hM.name) (by decide)⟩
 ·obtain ⟨o,hR,hsub⟩:=hL.each e he
  have:=hM.ok e.et (List.mem_map_of_mem he)
  obtain ⟨b1,b2⟩:=chk_bnd this.1
  exact hR.in13 hO (λb hb=>hs b (List.mem_append_right _ (hsub b hb))) b1 b2
 ·rcases hL.top.2 with ⟨e,h2,_⟩|⟨g,cp,cur,e,_,h3,_⟩
  ·omega
  ·simp only [Value.slice.injEq] at e;omega
theorem evC_one (y:Ev):∀ u∈evC y,u.oneCell'=true:=λu hu=>by
 simp only [evC,rvC,List.mem_append,List.mem_cons,List.not_mem_nil,or_false] at hu
 rcases hu with (rfl|rfl|rfl|rfl|rfl|rfl|rfl|rfl|rfl)|rfl|rfl<;>rfl
theorem tH (A:Option Addr)(cap:Nat)(es:List Ev)(k:Nat)(W:World)(hx:Reads evC W W.heap.size A es)(hk:k<=es.length)(hc:es.length<=cap):YC 72 #[.slice A es.length cap,YI (k:Int)] W (YR (.slice A k k) W):=by
 have hA:(k:Int)=0∨∃ b off,A=some ⟨b,off,none⟩:=by
  by_cases h0:k=0
  ·exact .inl Om
  ·obtain ⟨b,off,e,_⟩:=hx Om
   exact .inr ⟨b,off,e⟩
 exact z8 Tryz.func72 (x_slhmA 8 [] A es.length cap 11 k k ⟨by omega,by omega,by omega⟩ hA (.slice A k k) rfl (z7 [] (.slice A k k) λw hO=>⟨rfl,hO.below⟩))
theorem sHit_any (x:Ev)(nm:YL)(v:Ver)(b c:Nat)(W:World)(hb:W.heap[b]?=some (.cells #[.string (mkS nm)] 9))(hc:W.heap[c]?=some (.cells (ZP v) 24))(h1:x.rec'.pre.length<=1000000)(h2:x.rec'.bld.length<=1000000)(h3:v.pre.length<=1000000)(h4:v.build.length<=1000000)(hm:x.rec'.ver.may=true)(hv:v.may=true):YC 132 #[evV x,.pointer (some ⟨b,0,none⟩),.pointer (some ⟨c,0,none⟩)] W (YR (.bool (bS nm v x.et)) W):=by
 have hbl:b<W.heap.size:=(Array.getElem?_eq_some_iff.1 hb).1
 have hcl:c<W.heap.size:=(Array.getElem?_eq_some_iff.1 hc).1
 have hh:bS nm v x.et=(decide (x.rec'.name=nm) && decide (vQ x.rec'.ver v=0)):=by
  show (decide (x.rec'.name=nm) && (x.rec'.ver.may && v.may && decide (vQ x.rec'.ver v=0)))=_
  rw [hm,hv];rfl
 rw [hh]
 have hcmp:∀ w,YC 77 #[yN x.rec'.ver,yN v] w (YR (YI (vQ x.rec'.ver v)) w):=λw=>vcompareQ_any x.rec'.ver v w h1 h2 h3 h4
 refine z8 Tryz.func132 (zQ [] λb3=>zG 8 [0] 9 b 0 (.string (mkS nm)) (λw hO=>x7 Kr ((hO.below.block b hbl).trans hb)) (yS 9 [] x.rec'.name nm (λh=> ?_) (λh=> ?_)))
 ·refine zG 14 [0] 24 c 0 (yN v) (λw hO=>x7 Kr ((hO.below.block c hcl).trans hc)) (z6 (v:=YI (vQ x.rec'.ver v)) [] (λw hO=>hcmp w) ?_)
  exact z7 [] (.bool (decide (vQ x.rec'.ver v=0))) λw hO=>⟨by rw [decide_eq_true h];rfl,hO.below⟩
 ·exact z7 [] Z5 λw hO=>⟨by rw [decide_eq_false h];rfl,hO.below⟩
theorem sIdx_any (p:Ev->Bool)(A:Option Addr)(cap:Nat)(l:List Ev)(b c:Nat)(W:World)(hv:Reads evC W W.heap.size A l)(hn:l.length<=5000)(hp:∀ n∈l,∀ w,YB W w->YC 132 #[evV n,.pointer (some ⟨b,0,none⟩),.pointer (some ⟨c,0,none⟩)] w (YR (.bool (p n)) w)):YC 131 #[.slice A l.length cap,.func (.func 132) #[] #[.pointer (some ⟨b,0,none⟩),.pointer (some ⟨c,0,none⟩)]] W λe w'=>∃ v,e= .returned v/\(∃ z:Int,v=YI z/\((z= -1∧∀ y∈l,p y=false)∨∃ i,∃ hi:i<l.length,z=(i:Int)/\p l[i]=true∧∀ y∈l.take i,p y=false))/\YB W w':=by
 refine z8 Tryz.func131 (zL (α:=Nat) (λi=>[(0,.slice A l.length cap),(1,.func (.func 132) #[] #[Zp b 0,Zp c 0]),(7,YI (l.length:Int)),(8,YI (i:Int))]) (λ_=>[]) (λi m=>(i<=l.length∧∀ y∈l.take i,p y=false)/\m=l.length-i) 0 l.length [] ⟨⟨Nat.zero_le _,λy h=>by simp at h⟩,rfl⟩ ?_)
 rintro i mm g kk ⟨⟨hi,hno⟩,hmm⟩ nx hkk
 subst hkk
 refine zA 9 [] ((i:Int)<(l.length:Int)) (λh9=> ?_) (λh9=> ?_)
 rotate_left
 ·exact z7 [] (YI (-1)) λw hO=>⟨_,rfl,⟨-1,rfl,.inl ⟨rfl,xM (p:=λy:Ev=>p y=false) (show l.length<=i by omega) hno⟩⟩,hO.below⟩
 have hj:i<l.length:=by omega
 obtain ⟨eb,eo,hA,hel⟩:=hv.elem qX i hj
 have hgo:=yL (p:=λy:Ev=>p y=false) hj hno
 have hsm:l[i]∈l:=List.getElem_mem hj
 have hel0:∀ w,YB W w->(loadVar 53 ⟨eb,eo+i*11+0,none⟩).run YP w= .ok (evV l[i]) w:=λw hw=>hel w hw _ 0 _ Kr
 have hcf:=hp _ hsm
 have hfin:p l[i]=true→∃ z:Int,Value.int .i64 (i:Int)=YI z/\((z= -1∧∀ y∈l,p y=false)∨∃ i,∃ hi:i<l.length,z=(i:Int)/\p l[i]=true∧∀ y∈l.take i,p y=false):=λq=>⟨_,rfl,.inr ⟨i,hj,rfl,q,hno⟩⟩
 clear hp
 generalize l[i]=n at hel0 hgo hcf hsm hfin
 refine zH 14 [] hA l.length cap i 11 hj (zG 15 [] 53 eb (eo+i*11+0) (evV n) (λw hO=>hel0 w hO.below) (z6 (v:= .bool (p n)) [] (λw hO=>hcf w hO.below) (zX 16 (p n) (λh16=> ?_) (λh16=> ?_))))
 ·exact z7 [] (YI (i:Int)) λw hO=>⟨_,rfl,hfin h16,hO.below⟩
 ·exact x_i 18 [] ((i+1:Nat):Int) (nx (i+1) (l.length-(i+1)) [] Om ⟨⟨hj,hgo h16⟩,rfl⟩ Kr Kr)
theorem pC (A:Option Addr)(cap:Nat)(es:List Ev)(nm:YL)(v:Ver)(W:World)(hx:EsIn W W.heap.size A es)(hok:∀ e∈es,e.rec'.ver.may=true)(h3:v.pre.length<=1000000)(h4:v.build.length<=1000000):YC 71 #[.slice A es.length cap,.string (mkS nm),yN v] W (YR (YI (zR (es.map Ev.et) nm v)) W):=by
 have c1:∀ w,YC 102 #[yN v] w (YR (.bool v.may) w):=λw=>pM v w Om Om
 refine z8 Tryz.func71 (zQ [] λb4=>zQ [] λb5=>z6 (v:= .bool v.may) [0] (λw hO=>c1 w) (zX 8 v.may (λhv=> ?_) (λhv=> ?_)))
 rotate_left
 ·refine z7 [] (YI (-1)) λw hO=>⟨?_,hO.below⟩
  rw [place_none.2 λe _=> ?_]
  unfold bS oneV
  rw [hv];simp
 refine x_val 11 [] (.func (.func 132) #[] #[Zp b4 0,Zp b5 0]) (λw=>Kr) (mA (k:=131) (args:= #[.slice A es.length cap,.func (.func 132) #[] #[Zp b4 0,Zp b5 0]]) (R:=λu=>∃ z:Int,u=YI z/\z=zR (es.map Ev.et) nm v) [] (λw hO=> ?_) ?_)
 ·have hO':=hO.past 0 [⟨b5,(ZP v),24⟩,⟨b4, #[.string (mkS nm)],9⟩]
  clear hO
  have g5:w.heap[b5]?=some (.cells (ZP v) 24):=hO'.get (i:=0) rfl
  have g4:w.heap[b4]?=some (.cells #[.string (mkS nm)] 9):=hO'.get (i:=1) rfl
  have hxw:=hx.on hO'.below hO'.size
  refine (sIdx_any (λx=>bS nm v x.et) A cap es b4 b5 w hxw.top hxw.n λx hm w2 hb2=>sHit_any x nm v b4 b5 w2 ((hb2.block b4 (Array.getElem?_eq_some_iff.1 g4).1).trans g4) ((hb2.block b5 (Array.getElem?_eq_some_iff.1 g5).1).trans g5) (hx.each x hm).sn.2.1 (hx.each x hm).sn.2.2 h3 h4 (hok x hm) hv).mono λe w' ⟨u,q1,⟨z,q2,q3⟩,q4⟩=>⟨u,q1,⟨z,q2, ?_⟩,q4⟩
  rcases q3 with ⟨rfl,h⟩|⟨i,hi,rfl,h,h0⟩
  ·exact (place_none.2 λe he=>by obtain ⟨x,hm,rfl⟩:=List.mem_map.1 he;exact h x hm).symm
  ·exact (place_at (by simpa using hi) (λe he=>by rw [←et_take] at he;obtain ⟨x,hm,rfl⟩:=List.mem_map.1 he;exact h0 x hm) (by rw [List.getElem_map];exact h)).symm
 ·rintro _ ⟨z,rfl,hz⟩
  exact z7 [] (YI z) λw hO=>⟨by rw [hz],hO.below⟩
theorem sWith_any (x:Hv)(k:Nat)(e:Ev)(W:World)(hx:ShIn W W.heap.size x)(he:RcIn W W.heap.size e.rec')(hk:k<=x.es.length)(hn:x.es.length<=4000):YC 79 #[hvV x,YI (k:Int),evV e] W λe' w'=>∃ v ob,e'= .returned v/\(∃ y,v=hvV y/\y.sh=⟨x.name,(x.es.map Ev.et).take k++e.et::(x.es.map Ev.et).drop (k+1)⟩/\ShO y ob)/\Own [] W w' ob:=by
 obtain ⟨nm,A,cap,es⟩:=x
 have hle:es.length<=cap:=hx.le
 have hsn:nm.length<=1000000:=hx.sn
 have hes:EsIn W W.heap.size A es:=hx.es
 dsimp only at hk hn ⊢
 have cB:∀ w,YB W w->YC 72 #[.slice A es.length cap,YI (k:Int)] w (YR (.slice A k k) w):=λw hb=>tH A cap es k w (hes.top.on hb hb.size) hk hle
 have hxl:((es.take k).flatMap evC).length=k*11:=by rw [flat_len10 qX,List.length_take,Nat.min_eq_left hk]
 have hA0:A=none->k=0:=λh=>by
  apply Classical.byContradiction
  intro h0
  obtain ⟨b,off,e,_⟩:=hes.top Om
  rw [e] at h;cases h
 have hrd:∀ w,YB W w→∀ b,A=some b→∀ j u,((es.take k).flatMap evC)[j]?=some u->w.cell? (b.add j)=some u:=λw hb b hb' j u hj=>by
  by_cases h0:k=0
  ·subst h0;simp at hj
  obtain ⟨b2,off,e,hlt,hc⟩:=(hes.top.fst k).on hb hb.size (by rw [List.length_take];omega)
  rw [e] at hb';obtain rfl:=Option.some.inj hb'
  rw [yY];exact hc j u hj
 have hfin:∀ (M:List Nat) (L:List Blk) (ob:List Blk) (A1:Option Addr) (c1:Nat) (ls:List Ev) (w:World),Own M W w L->(∀ b∈ob,b∈L)->Sl 53 11 (.slice A1 ls.length c1) ls.length (ls.flatMap evC) ob->(∀ a∈ls,a=e\/a∈es)->ls.length<=5000->YB W w->EsIn w w.heap.size A1 ls:=λM L ob A1 c1 ls w hO hs hS hm hl hb=>⟨Sl.reads hS rfl hO hs,λa ha=>by
  rcases hm a ha with rfl|ha
  ·exact he.on hb hb.size
  ·exact (hes.each a ha).on hb hb.size,hl⟩
 refine z8 Tryz.func79 (zQ [] λb3=>zQ [] λb5=>zB [] λb6=> ?_)
 refine x5 7 [] [⟨b6,ZM,43⟩,⟨b5,(evV e).cells,53⟩,⟨b3, #[.string (mkS nm),.slice A es.length cap],43⟩] (λw hO=>hO.past 0 _) (x_h2 [2,1] 3 5 (z6 (v:= .slice A k k) [] (λw hO=>cB w hO.below) (zY [] 5 (gF 1 53 (evV e).cells λb14=> ?_))) (gF 1 53 (evV e).cells λb14=>zY [] 3 (z6 (v:= .slice A k k) [] (λw hO=>cB w hO.below) ?_)))
 all_goals
  refine zY [] 6 (xh_appC (T:=53) (sz:=11) (N:=k) ((es.take k).flatMap evC) 0 (⟨b14,(evV e).cells,53⟩::[⟨b6,ZM,43⟩,⟨b5,(evV e).cells,53⟩,⟨b3, #[.string (mkS nm),.slice A es.length cap],43⟩]) [⟨b6,ZM,43⟩,⟨b5,(evV e).cells,53⟩,⟨b3, #[.string (mkS nm),.slice A es.length cap],43⟩] hxl hA0 (λw hO=>hrd w hO.below) (m:=1) (cp:=1) Om Om (λo w hO=>hO.sublist (List.Sublist.trans (List.sublist_cons_self _ _) (List.sublist_append_left _ _))) λv' o1 hS=> ?_)
  obtain ⟨A1,c1,rfl⟩:=Sl.form hS
  have hls:(es.take k++e::es.drop (k+1)).length=k+(1+(es.length-(k+1))):=by rw [List.length_append,List.length_take,List.length_cons,List.length_drop,Nat.min_eq_left hk];omega
  refine x_i 8 [] ((k+1:Nat):Int) (jX (α:=Option Addr×Nat×List Blk) 22 (λ(A2,c2,o)=>[(3,Zp b3 0),(6,Zp b6 0),(7,.slice A2 (es.take k++e::es.drop (k+1)).length c2)]) (λ(A2,c2,o)=>[⟨b14,(evV e).cells,53⟩,⟨b6,ZM,43⟩,⟨b5,(evV e).cells,53⟩,⟨b3, #[.string (mkS nm),.slice A es.length cap],43⟩]++o) (λ(A2,c2,o)=>Sl 53 11 (.slice A2 (es.take k++e::es.drop (k+1)).length c2) (es.take k++e::es.drop (k+1)).length ((es.take k++e::es.drop (k+1)).flatMap evC) o) [3] (λnj=>qT 22 (((k+1:Nat):Int)<(es.length:Int)) (λh22=> ?_) (λh22=> ?_)) ?_)
  ·obtain ⟨eb,eo,rfl,_⟩:=hes.top Om
   refine x_sllo 27 [3] rfl es.length cap 11 ((k+1:Nat):Int) Om Om (.slice (some ⟨eb,eo+(if cap=k+1 then 0 else (k+1)*11),none⟩) (es.drop (k+1)).length (cap-(k+1))) (by rw [List.length_drop];rfl) (x_appR (g:=evC) (cp:=cap-(k+1)) [] (es.drop (k+1)) [⟨b14,(evV e).cells,53⟩,⟨b6,ZM,43⟩,⟨b5,(evV e).cells,53⟩,⟨b3, #[.string (mkS nm),.slice (some ⟨eb,eo,none⟩) es.length cap],43⟩] o1 [] ([⟨b14,(evV e).cells,53⟩,⟨b6,ZM,43⟩,⟨b5,(evV e).cells,53⟩,⟨b3, #[.string (mkS nm),.slice (some ⟨eb,eo,none⟩) es.length cap],43⟩]++o1) (λw hO=>by simpa using hO) qX evC_one (λw hO=>Reads.from_ qX (hes.top.on hO.below hO.size) hle (k+1)) hS (by rw [List.length_drop];omega) λv' o2 hS2=> ?_)
   obtain ⟨A2,c2,rfl⟩:=Sl.form hS2
   refine j6 7 [] (.slice A2 (k+1+(es.drop (k+1)).length) c2) (.slice A2 (es.take k++e::es.drop (k+1)).length c2) (by rw [hls,List.length_drop,Nat.add_assoc]) (zK [] ([⟨b14,(evV e).cells,53⟩,⟨b6,ZM,43⟩,⟨b5,(evV e).cells,53⟩,⟨b3, #[.string (mkS nm),.slice (some ⟨eb,eo,none⟩) es.length cap],43⟩]++o2) (λw hO=>(hO.past 0 ([⟨b14,(evV e).cells,53⟩,⟨b6,ZM,43⟩,⟨b5,(evV e).cells,53⟩,⟨b3, #[.string (mkS nm),.slice (some ⟨eb,eo,none⟩) es.length cap],43⟩]++o2++[])).cast (by simp)) (nj (A2,c2,o2) [] ?_ Kr))
   have e1:k+1+(es.drop (k+1)).length=(es.take k++e::es.drop (k+1)).length:=by rw [hls,List.length_drop,Nat.add_assoc]
   have e2:(es.take k).flatMap evC++(evV e).cells.toList++(es.drop (k+1)).flatMap evC=(es.take k++e::es.drop (k+1)).flatMap evC:=by rw [List.flatMap_append,List.flatMap_cons,List.append_assoc];rfl
   rw [e1] at hS2
   exact Sl.to hS2 rfl e2
  ·have hd:es.drop (k+1)=[]:=List.drop_eq_nil_of_le Om
   refine j6 7 [] (.slice A1 (k+1) c1) (.slice A1 (es.take k++e::es.drop (k+1)).length c1) (by rw [hls];congr 1;omega) (nj (A1,c1,o1) [] ?_ Kr)
   have e1:k+1=(es.take k++e::es.drop (k+1)).length:=by rw [hls];omega
   have e2:(es.take k).flatMap evC++(evV e).cells.toList=(es.take k++e::es.drop (k+1)).flatMap evC:=by rw [hd,List.flatMap_append,List.flatMap_singleton];rfl
   rw [e1] at hS
   exact Sl.to hS rfl e2
  ·rintro ⟨A2,c2,o⟩ g hS2
   have hmem:∀ a∈es.take k++e::es.drop (k+1),a=e\/a∈es:=λa ha=>by
    rcases List.mem_append.1 ha with ha|ha
    ·exact .inr (List.mem_of_mem_take ha)
    ·rcases List.mem_cons.1 ha with ha|ha
     ·exact .inl ha
     ·exact .inr (List.mem_of_mem_drop ha)
   refine yC (k:=144) (args:= #[hvV ⟨nm,A2,c2,es.take k++e::es.drop (k+1)⟩]) (R:=λv ob=>∃ y,v=hvV y/\y.sh=⟨nm,(es.take k++e::es.drop (k+1)).map Ev.et⟩/\ShO y ob) [3] (λw hO=> ?_) ?_
   ·have hO':=hO.past 4 o
    have hb:=hO.below
    clear hO
    exact frShelf_any ⟨nm,A2,c2,es.take k++e::es.drop (k+1)⟩ w (hfin _ _ o A2 c2 _ w hO' (λb h=>h) hS2 hmem (by rw [hls];omega) hb) hsn
   ·rintro _ ob ⟨y,rfl,hy,hyo⟩
    exact qL [1] 1 (hvV y) λw hO=>⟨_,ob,rfl,⟨y,rfl,by rw [hy,List.map_append,List.map_cons,List.map_take,List.map_drop],hyo⟩,(hO.past 4 (o++ob)).sublist (List.sublist_append_right _ _)⟩
end
section
set_option linter.unnecessarySimpa false
theorem dJ (x:Hv)(W:World)(hx:ShIn W W.heap.size x)(hK:RecLib W):YC 26 #[hvV x] W (YR (.bool (decide (yT x.sh))) W):=by
 have hno:∀ w,YB W w→¬ yT x.sh->(Ending.returned (.bool false)= .returned (.bool (decide (yT x.sh))))/\YB W w:=λw hb h=>⟨by rw [decide_eq_false h],hb⟩
 have hyes:∀ w,YB W w->yT x.sh->(Ending.returned (.bool true)= .returned (.bool (decide (yT x.sh))))/\YB W w:=λw hb h=>⟨by rw [decide_eq_true h],hb⟩
 have hpre:yT x.sh→∀ i,PreM ((x.es.map Ev.et).take i):=λh i=>may_pre13 h i
 have hmk:nmL x.name=true->x.es.length<=64->PreM (x.es.map Ev.et)->yT x.sh:=λa b c=>pre_may a (by simpa [Hv.sh] using b) c
 have hnot:yT x.sh->nmL x.name=true:=λh=>h.name
 have hfew:yT x.sh->x.es.length<=64:=λh=>by simpa [Hv.sh] using h.few
 obtain ⟨hE,hle,hsn⟩:=hx
 have c1:∀ w,YC 69 #[.string (mkS x.name)] w (YR (.bool (nmL x.name)) w):=λw=>nQ x.name w hsn
 refine z8 Tryz.func26 (zQ [] λb1=>z6 (v:= .bool (nmL x.name)) [0] (λw hO=>c1 w) (zX 9 (nmL x.name) (λh9=> ?_) (λh9=> ?_)))
 rotate_left
 ·exact z7 [] Z5 λw hO=>hno w hO.below λh=>by rw [hnot h] at h9;cases h9
 refine zA 15 [0] ((x.es.length:Int)>64) (λh15=> ?_) (λh15=> ?_)
 ·exact z7 [] Z5 λw hO=>hno w hO.below λh=>by have:=hfew h;omega
 refine zL (α:=Nat) (λi=>[(1,Zp b1 0),(18,.slice x.A x.es.length x.cap),(19,YI (x.es.length:Int)),(20,YI (i:Int))]) (λ_=>[hvB b1 x]) (λi m=>(i<=x.es.length/\PreM ((x.es.map Ev.et).take i))/\m=x.es.length-i) 0 x.es.length [0] ⟨⟨Nat.zero_le _,⟨λe h=>by simp at h,by simp⟩⟩,rfl⟩ ?_
 rintro i mm g kk ⟨⟨hi,hP⟩,hmm⟩ nx hkk
 subst hkk
 refine zA 21 [] ((i:Int)<(x.es.length:Int)) (λh21=> ?_) (λh21=> ?_)
 rotate_left
 ·exact z7 [] Z4 λw hO=>hyes w hO.below (hmk h9 Om (by rw [show i=x.es.length by omega,←List.length_map (f:=Ev.et),List.take_length] at hP;exact hP))
 have hj:i<x.es.length:=by omega
 obtain ⟨eb,eo,hA,hel⟩:=hE.top.elem qX i hj
 have hel0:∀ w,YB W w->(loadVar 53 ⟨eb,eo+i*11+0,none⟩).run YP w= .ok (evV x.es[i]) w:=λw hw=>hel w hw _ 0 _ Kr
 have hR:=hE.each _ (List.getElem_mem hj)
 have hstep:PreM ((x.es.map Ev.et).take (i+1))↔PreM ((x.es.map Ev.et).take i)/\okE x.es[i].et/\zR ((x.es.map Ev.et).take i) x.es[i].rec'.name x.es[i].rec'.ver= -1:=by
  rw [List.take_succ_eq_append_getElem (by simpa using hj),List.getElem_map];exact pre_step
 have hq:=λh=>(hstep.1 (hpre h (i+1))).2
 generalize x.es[i]=u at*
 have cS:∀ w,YB W w->YC 70 #[rvV u.rec'] w (YR (.tuple #[.int .u64 (yZ u.rec'.rt),YI (zP u.rec'.rt).1]) w):=λw hb=>qSum_any u.rec' w (hR.on hb hb.size) (hK.on hb)
 have cB:∀ w,YB W w->YC 72 #[.slice x.A x.es.length x.cap,YI (i:Int)] w (YR (.slice x.A i i) w):=λw hb=>tH x.A x.cap x.es i w (hE.top.on hb hb.size) hi hle
 have cP:∀ w,YB W w->YC 71 #[.slice x.A i i,.string (mkS u.rec'.name),yN u.rec'.ver] w (YR (YI (zR ((x.es.map Ev.et).take i) u.rec'.name u.rec'.ver)) w):=λw hb=>by
  have:=pC x.A i (x.es.take i) u.rec'.name u.rec'.ver w ((hE.fst i).on hb hb.size) (λe he=>by
   have:=hP.1 e.et (by rw [←et_take];exact List.mem_map_of_mem he)
   exact (gK this.1).2.1) hR.sn.2.1 hR.sn.2.2
  rw [List.length_take,Nat.min_eq_left hi,et_take] at this;exact this
 have hzz:=place_ge ((x.es.map Ev.et).take i) u.rec'.name u.rec'.ver
 generalize zR ((x.es.map Ev.et).take i) u.rec'.name u.rec'.ver=z at*
 have hok:okE u.et↔(zP u.rec'.rt).1=0/\yZ u.rec'.rt=u.sum:=Iff.rfl
 refine zH 23 [] hA x.es.length x.cap i 11 hj (zG 24 [] 53 eb (eo+i*11+0) (evV u) (λw hO=>hel0 w hO.below) (zB [] λb4=>z6 (v:= .tuple #[.int .u64 (yZ u.rec'.rt),YI (zP u.rec'.rt).1]) [0,0] (λw hO=>cS w hO.below) (kW 32 [] ((zP u.rec'.rt).1=0) (λh32=> ?_) (λh32=> ?_))))
 rotate_left
 ·exact z7 [] Z5 λw hO=>hno w hO.below λh=>h32 (hq h).1.1
 refine kW 37 [0] (yZ u.rec'.rt=u.sum) (λh37=> ?_) (λh37=> ?_)
 rotate_left
 ·exact z7 [] Z5 λw hO=>hno w hO.below λh=>h37 (hq h).1.2
 refine z6 (v:= .slice x.A i i) [1] (λw hO=>cB w hO.below) (z6 (v:=YI z) [0,0] (λw hO=>cP w hO.below) (zA 51 [] (z>=0) (λh51=> ?_) (λh51=> ?_)))
 ·exact z7 [] Z5 λw hO=>hno w hO.below λh=>by have:=(hq h).2;omega
 ·exact x_i 20 [] ((i+1:Nat):Int) (zK [] [hvB b1 x] (λw hO=>hO.past 1 _) (nx (i+1) (x.es.length-(i+1)) [] Om ⟨⟨hj,hstep.2 ⟨hP,hok.2 ⟨h32,h37⟩,by omega⟩⟩,rfl⟩ Kr Kr))
theorem sFind_any (x:Hv)(nm:YL)(v:Ver)(W:World)(hx:ShIn W W.heap.size x)(h3:v.pre.length<=1000000)(h4:v.build.length<=1000000)(hK:RecLib W):YC 28 #[hvV x,.string (mkS nm),yN v] W (YR (YI (findS x.sh nm v)) W):=by
 have cM:∀ w,YB W w->YC 26 #[hvV x] w (YR (.bool (decide (yT x.sh))) w):=λw hb=>dJ x w (hx.on hb hb.size) (hK.on hb)
 have cP:yT x.sh→∀ w,YB W w->YC 71 #[.slice x.A x.es.length x.cap,.string (mkS nm),yN v] w (YR (YI (zR x.sh.es nm v)) w):=λh w hb=>pC x.A x.cap x.es nm v w (hx.es.on hb hb.size) (λe he=>(gK (h.ok e.et (List.mem_map_of_mem he)).1).2.1) h3 h4
 refine z8 Tryz.func28 (zQ [] λb3=>zQ [] λb5=>z6 (v:= .bool (decide (yT x.sh))) [1] (λw hO=>cM w hO.below) (qT 8 (yT x.sh) (λh=> ?_) (λh=> ?_)))
 ·exact z6 (v:=YI (zR x.sh.es nm v)) [1,0] (λw hO=>cP h w hO.below) (z7 [] (YI (zR x.sh.es nm v)) λw hO=>⟨by unfold findS;rw [if_pos h],hO.below⟩)
 ·exact z7 [] (YI (-1)) λw hO=>⟨by unfold findS;rw [if_neg h],hO.below⟩
theorem sPut_any (x:Hv)(r:Rv)(W:World)(hx:ShIn W W.heap.size x)(hr:RcIn W W.heap.size r)(hK:RecLib W):YC 33 #[hvV x,rvV r] W λe w'=>∃ v ob,e= .returned v/\(∃ y,v= .tuple #[hvV y,YI (fE x.sh r.rt).2]/\y.sh=(fE x.sh r.rt).1/\ShO y ob)/\Own [] W w' ob:=by
 have cM:∀ w,YB W w->YC 26 #[hvV x] w (YR (.bool (decide (yT x.sh))) w):=λw hb=>dJ x w (hx.on hb hb.size) (hK.on hb)
 have cS:∀ w,YB W w->YC 70 #[rvV r] w (YR (.tuple #[.int .u64 (yZ r.rt),YI (zP r.rt).1]) w):=λw hb=>qSum_any r w (hr.on hb hb.size) (hK.on hb)
 have cP:yT x.sh→∀ w,YB W w->YC 71 #[.slice x.A x.es.length x.cap,.string (mkS r.name),yN r.ver] w (YR (YI (zR x.sh.es r.name r.ver)) w):=λh w hb=>pC x.A x.cap x.es r.name r.ver w (hx.es.on hb hb.size) (λe he=>(gK (h.ok e.et (List.mem_map_of_mem he)).1).2.1) hr.sn.2.1 hr.sn.2.2
 have cW:yT x.sh→∀ w,YB W w->YC 79 #[hvV x,YI (x.es.length:Int),evV ⟨r,yZ r.rt,false⟩] w λe' w'=>∃ v ob,e'= .returned v/\(∃ y,v=hvV y/\y.sh=⟨x.name,x.sh.es++[⟨r.rt,yZ r.rt,false⟩]⟩/\ShO y ob)/\Own [] w w' ob:=λh w hb=>by
  have hl:x.es.length<=64:=by have:=h.few;simpa [Hv.sh] using this
  have:=sWith_any x x.es.length ⟨r,yZ r.rt,false⟩ w (hx.on hb hb.size) (hr.on hb hb.size) (Nat.le_refl _) Om
  rw [List.take_of_length_le (by simp),List.drop_eq_nil_of_le (by simp)] at this;exact this
 obtain ⟨p,hp⟩:∃ p,fE x.sh r.rt=p:=⟨_,rfl⟩
 have hl0:x.sh.es.length=x.es.length:=by simp [Hv.sh]
 rw [hp]
 unfold fE at hp
 rw [hl0] at hp
 have hout:∀ (z:Int) (w:World),p=(w9,z)->Own [] W w []→∃ v ob,Ending.returned (.tuple #[hvV hv0,YI z])= .returned v/\(∃ y,v= .tuple #[hvV y,YI p.2]/\y.sh=p.1/\ShO y ob)/\Own [] W w ob:=λz w e hO=>⟨_,[],rfl,⟨hv0,by rw [e],by rw [e];rfl,hv0_o⟩,hO⟩
 refine z8 Tryz.func33 (zQ [] λb2=>zQ [] λb3=>zB [] λb4=>z6 (v:= .bool (decide (yT x.sh))) [2] (λw hO=>cM w hO.below) (qT 9 (yT x.sh) (λhm=> ?_) (λhm=> ?_)))
 rotate_left
 ·exact zS [0] 0 (hvV hv0) (YI 1) λw hO=>hout 1 w (by rw [←hp,if_neg hm]) hO.no
 rw [if_pos hm] at hp
 refine z6 (v:= .tuple #[.int .u64 (yZ r.rt),YI (zP r.rt).1]) [1] (λw hO=>cS w hO.below) (kW 19 [] ((zP r.rt).1=0) (λhc=> ?_) (λhc=> ?_))
 rotate_left
 ·exact zS [0] 0 (hvV hv0) (YI (zP r.rt).1) λw hO=>hout _ w (by rw [←hp,if_neg hc]) hO.no
 rw [if_pos hc] at hp
 have hge:=place_ge x.sh.es r.name r.ver
 have hcP:=cP hm
 have hpz:∀ z,zR x.sh.es r.name r.ver=z->(if z= -1 then if x.es.length=64 then (w9,10) else ((⟨x.sh.name,x.sh.es++[⟨r.rt,yZ r.rt,false⟩]⟩:Sh),(0:Int)) else (w9,8))=p:=λz e=>e▸hp
 generalize zR x.sh.es r.name r.ver=z at hge hcP hpz
 have hpz:=hpz z rfl
 refine z6 (v:=YI z) [2,1,1] (λw hO=>hcP w hO.below) (zA 30 [] (z>=0) (λh30=> ?_) (λh30=> ?_))
 ·exact zS [0] 0 (hvV hv0) (YI 8) λw hO=>hout _ w (by rw [←hpz,if_neg Om]) hO.no
 rw [if_pos Om] at hpz
 refine zA 36 [2] ((x.es.length:Int)=64) (λh36=> ?_) (λh36=> ?_)
 ·exact zS [0] 0 (hvV hv0) (YI 10) λw hO=>hout _ w (by rw [←hpz,if_pos Om]) hO.no
 rw [if_neg Om] at hpz
 refine yC (R:=λv ob=>∃ y,v=hvV y/\y.sh=⟨x.name,x.sh.es++[⟨r.rt,yZ r.rt,false⟩]⟩/\ShO y ob) [2,2,1] (λw hO=>cW hm w hO.below) ?_
 rintro _ ob ⟨y,rfl,hy,hyo⟩
 exact zS [0] 0 (hvV y) (YI 0) λw hO=>⟨_,ob,rfl,⟨y,by rw [←hpz],by rw [←hpz];exact hy,hyo⟩,hO.past 3 ob⟩
theorem sYank_any (x:Hv)(nm:YL)(v:Ver)(on:Bool)(W:World)(hx:ShIn W W.heap.size x)(h3:v.pre.length<=1000000)(h4:v.build.length<=1000000)(hK:RecLib W):YC 35 #[hvV x,.string (mkS nm),yN v,.bool on] W λe w'=>∃ u ob,e= .returned u/\(∃ y,u= .tuple #[hvV y,YI (yankS x.sh nm v on).2]/\y.sh=(yankS x.sh nm v on).1/\ShO y ob)/\Own [] W w' ob:=by
 have cM:∀ w,YB W w->YC 26 #[hvV x] w (YR (.bool (decide (yT x.sh))) w):=λw hb=>dJ x w (hx.on hb hb.size) (hK.on hb)
 have cP:yT x.sh→∀ w,YB W w->YC 71 #[.slice x.A x.es.length x.cap,.string (mkS nm),yN v] w (YR (YI (zR x.sh.es nm v)) w):=λh w hb=>pC x.A x.cap x.es nm v w (hx.es.on hb hb.size) (λe he=>(gK (h.ok e.et (List.mem_map_of_mem he)).1).2.1) h3 h4
 have cW:yT x.sh→∀ (i:Nat) (hi:i<x.es.length) (w:World),YB W w->YC 79 #[hvV x,YI (i:Int),evV {x.es[i] with yk:=on}] w λe' w'=>∃ v ob,e'= .returned v/\(∃ y,v=hvV y/\y.sh=⟨x.name,bN x.sh.es i on⟩/\ShO y ob)/\Own [] w w' ob:=λh i hi w hb=>by
  have hl:x.es.length<=64:=by have:=h.few;simpa [Hv.sh] using this
  have:=sWith_any x i {x.es[i] with yk:=on} w (hx.on hb hb.size) ((hx.es.each _ (List.getElem_mem hi)).on hb hb.size) Om Om
  have e:bN x.sh.es i on=(x.es.map Ev.et).take i++({x.es[i] with yk:=on}:Ev).et::(x.es.map Ev.et).drop (i+1):=by
   rw [mark_is _ i (by simpa [Hv.sh] using hi)]
   simp only [Hv.sh,List.getElem_map];rfl
  rw [e];exact this
 obtain ⟨p,hp⟩:∃ p,yankS x.sh nm v on=p:=⟨_,rfl⟩
 rw [hp]
 unfold yankS at hp
 have hout:∀ (z:Int) (w:World),p=(w9,z)->Own [] W w []→∃ v ob,Ending.returned (.tuple #[hvV hv0,YI z])= .returned v/\(∃ y,v= .tuple #[hvV y,YI p.2]/\y.sh=p.1/\ShO y ob)/\Own [] W w ob:=λz w e hO=>⟨_,[],rfl,⟨hv0,by rw [e],by rw [e];rfl,hv0_o⟩,hO⟩
 refine z8 Tryz.func35 (zQ [] λb4=>zQ [] λb6=>zB [] λb8=>z6 (v:= .bool (decide (yT x.sh))) [2] (λw hO=>cM w hO.below) (qT 13 (yT x.sh) (λhm=> ?_) (λhm=> ?_)))
 rotate_left
 ·exact zS [0] 0 (hvV hv0) (YI 1) λw hO=>hout 1 w (by rw [←hp,if_neg hm]) hO.no
 rw [if_pos hm] at hp
 have hge:=place_ge x.sh.es nm v
 have hcP:=cP hm
 have hat:= @place_some x.sh.es nm v
 have hpz:∀ z,zR x.sh.es nm v=z->(if z= -1 then (w9,9) else ((⟨x.sh.name,bN x.sh.es z.toNat on⟩:Sh),(0:Int)))=p:=λz e=>e▸hp
 generalize zR x.sh.es nm v=z at hge hcP hpz hat
 have hpz:=hpz z rfl
 refine z6 (v:=YI z) [2,1] (λw hO=>hcP w hO.below) (zA 22 [] (z<0) (λh22=> ?_) (λh22=> ?_))
 ·exact zS [0] 0 (hvV hv0) (YI 9) λw hO=>hout _ w (by rw [←hpz,if_pos Om]) hO.no
 rw [if_neg Om] at hpz
 obtain ⟨i,hi,rfl,_,_⟩:=hat Om
 have hj:i<x.es.length:=by simpa [Hv.sh] using hi
 have hcW:=cW hm i hj
 obtain ⟨eb,eo,hA,hel⟩:=hx.es.top.elem qX i hj
 have hel0:∀ w,YB W w->(loadVar 53 ⟨eb,eo+i*11+0,none⟩).run YP w= .ok (evV x.es[i]) w:=λw hw=>hel w hw _ 0 _ Kr
 generalize x.es[i]=u at hcW hel0
 refine zH 27 [2] hA x.es.length x.cap i 11 hj (zG 28 [] 53 eb (eo+i*11+0) (evV u) (λw hO=>hel0 w hO.below) (zB [] λb11=>yC (R:=λv ob=>∃ y,v=hvV y/\y.sh=⟨x.name,bN x.sh.es i on⟩/\ShO y ob) [0,0,3,0] (λw hO=>hcW w hO.below) ?_))
 rintro _ ob ⟨y,rfl,hy,hyo⟩
 exact zS [1] 1 (hvV y) (YI 0) λw hO=>⟨_,ob,rfl,⟨y,by rw [←hpz],by rw [←hpz];exact hy,hyo⟩,hO.past 4 ob⟩
def Ev.rcT (e:Ev):Rt:=e.rec'.rt
theorem sSame_any (x y:Ev)(W:World)(hx:RcSm W W.heap.size x.rec')(hy:RcSm W W.heap.size y.rec'):YC 82 #[evV x,evV y] W (YR (.bool (decide (Ev.rcT x=Ev.rcT y))) W):=by
 have c:∀ w,YB W w->YC 145 #[rvV x.rec',rvV y.rec'] w (YR (.bool (decide (Ev.rcT x=Ev.rcT y))) w):=λw hb=>qSame_any x.rec' y.rec' w (hx.on hb hb.size) (hy.on hb hb.size)
 exact z8 Tryz.func82 (zQ [] λb2=>zQ [] λb3=>z6 (v:= .bool (decide (Ev.rcT x=Ev.rcT y))) [1,0] (λw hO=>c w hO.below) (z7 [] (.bool (decide (Ev.rcT x=Ev.rcT y))) λw hO=>⟨rfl,hO.below⟩))
theorem sEqE_any (A B:Option Addr)(cap capb:Nat)(xs ys:List Ev)(W:World)(hx:Reads evC W W.heap.size A xs)(hy:Reads evC W W.heap.size B ys)(hn:xs.length<=1000000)(hm:ys.length<=1000000)(hp:∀ x∈xs,∀ y∈ys,∀ w,YB W w->YC 82 #[evV x,evV y] w (YR (.bool (decide (Ev.rcT x=Ev.rcT y))) w)):YC 81 #[.slice A xs.length cap,.slice B ys.length capb,.func (.func 82) #[] #[]] W (YR (.bool (decide (xs.map Ev.rcT=ys.map Ev.rcT))) W):=by
 have hno:∀ w,YB W w→¬ xs.map Ev.rcT=ys.map Ev.rcT->(Ending.returned (.bool false)= .returned (.bool (decide (xs.map Ev.rcT=ys.map Ev.rcT))))/\YB W w:=λw hb h=>⟨by rw [decide_eq_false h],hb⟩
 refine z8 Tryz.func81 (kW 14 [] ((xs.length:Int)=(ys.length:Int)) (λh1=> ?_) (λh1=> ?_))
 rotate_left
 ·exact z7 [] Z5 λw hO=>hno w hO.below (no_len h1)
 have hl:xs.length=ys.length:=by omega
 refine zL (α:=Nat) (λi=>[(1,.slice B ys.length capb),(2,.func (.func 82) #[] #[]),(15,.slice A xs.length cap),(16,YI (xs.length:Int)),(17,YI (i:Int))]) (λ_=>[]) (λi m=>(i<=xs.length/\(xs.map Ev.rcT).take i=(ys.map Ev.rcT).take i)/\m=xs.length-i) 0 xs.length [] ⟨⟨Nat.zero_le _,rfl⟩,rfl⟩ ?_
 rintro i mm g kk ⟨⟨hi,heq⟩,hmm⟩ nx hkk
 subst hkk
 refine zA 18 [] ((i:Int)<(xs.length:Int)) (λh18=> ?_) (λh18=> ?_)
 rotate_left
 ·exact z7 [] Z4 λw hO=>⟨by rw [decide_eq_true (map_end hl Om heq)],hO.below⟩
 have hj:i<xs.length:=by omega
 have hj2:i<ys.length:=by omega
 have hst:=nO hj hj2 heq
 have hdf:=d5 (f:=Ev.rcT) hj hj2
 have hc:=hp _ (List.getElem_mem hj) _ (List.getElem_mem hj2)
 obtain ⟨eb,eo,hA,hel⟩:=hx.elem qX i hj
 obtain ⟨fb,fo,hA2,hel2⟩:=hy.elem qX i hj2
 have h1':∀ w,YB W w->(loadVar 53 ⟨eb,eo+i*11+0,none⟩).run YP w= .ok (evV xs[i]) w:=λw hw=>hel w hw _ 0 _ Kr
 have h2':∀ w,YB W w->(loadVar 53 ⟨fb,fo+i*11+0,none⟩).run YP w= .ok (evV ys[i]) w:=λw hw=>hel2 w hw _ 0 _ Kr
 clear hp
 generalize xs[i]=u at*
 generalize ys[i]=v at*
 refine zH 20 [] hA xs.length cap i 11 hj (zG 21 [] 53 eb (eo+i*11+0) (evV u) (λw hO=>h1' w hO.below) (zB [] λb8=>zH 24 [0] hA2 ys.length capb i 11 hj2 (zG 25 [] 53 fb (fo+i*11+0) (evV v) (λw hO=>h2' w hO.below) (zB [] λb9=>z6 (v:= .bool (decide (Ev.rcT u=Ev.rcT v))) [0,1,0] (λw hO=>hc w hO.below) (qT 29 (Ev.rcT u=Ev.rcT v) (λh=> ?_) (λh=> ?_))))))
 ·exact x_i 17 [] ((i+1:Nat):Int) (zK [] [] (λw hO=>hO.no) (nx (i+1) (xs.length-(i+1)) [] Om ⟨⟨hj,hst h⟩,rfl⟩ Kr Kr))
 ·exact z7 [] Z5 λw hO=>hno w hO.below (hdf h)
theorem sGrown_any (x y:Hv)(W:World)(hx:ShIn W W.heap.size x)(hy:ShIn W W.heap.size y)(hK:RecLib W):YC 38 #[hvV x,hvV y] W (YR (.bool (decide (pW x.sh y.sh))) W):=by
 have hno:∀ w,YB W w→¬ pW x.sh y.sh->(Ending.returned (.bool false)= .returned (.bool (decide (pW x.sh y.sh))))/\YB W w:=λw hb h=>⟨by rw [decide_eq_false h],hb⟩
 have cX:∀ w,YB W w->YC 26 #[hvV x] w (YR (.bool (decide (yT x.sh))) w):=λw hb=>dJ x w (hx.on hb hb.size) (hK.on hb)
 have cY:∀ w,YB W w->YC 26 #[hvV y] w (YR (.bool (decide (yT y.sh))) w):=λw hb=>dJ y w (hy.on hb hb.size) (hK.on hb)
 have cB:x.es.length<=y.es.length→∀ w,YB W w->YC 72 #[.slice y.A y.es.length y.cap,YI (x.es.length:Int)] w (YR (.slice y.A x.es.length x.es.length) w):=λh w hb=>tH y.A y.cap y.es x.es.length w (hy.es.top.on hb hb.size) h hy.le
 have cE:x.es.length<=y.es.length→∀ w,YB W w->YC 81 #[.slice x.A x.es.length x.cap,.slice y.A x.es.length x.es.length,.func (.func 82) #[] #[]] w (YR (.bool (decide (x.es.map Ev.rcT=(y.es.take x.es.length).map Ev.rcT))) w):=λh w hb=>by
  have hl:(y.es.take x.es.length).length=x.es.length:=by rw [List.length_take,Nat.min_eq_left h]
  have hyf:=hy.es.fst x.es.length
  have hl2:∀ k,(y.es.take x.es.length).length=k->YC 81 #[.slice x.A x.es.length x.cap,.slice y.A k x.es.length,.func (.func 82) #[] #[]] w (YR (.bool (decide (x.es.map Ev.rcT=(y.es.take x.es.length).map Ev.rcT))) w):=λk hk=>by
   subst hk
   exact sEqE_any x.A y.A x.cap x.es.length x.es (y.es.take x.es.length) w (hx.es.top.on hb hb.size) (hyf.top.on hb hb.size) (by have:=hx.es.n;omega) (by have:=hx.es.n;omega) λa ha b hb' w2 hb2=>by
    have hb3:=hb.trans (hb2.mono hb.size)
    exact sSame_any a b w2 ((hx.es.each a ha).on hb3 hb3.size).sm ((hyf.each b hb').on hb3 hb3.size).sm
  exact hl2 _ hl
 have hG:pW x.sh y.sh↔yT x.sh/\yT y.sh/\x.name=y.name/\x.es.length<=y.es.length/\x.es.map Ev.rcT=(y.es.take x.es.length).map Ev.rcT:=by
  unfold pW
  simp only [Hv.sh,List.length_map,List.map_map,←List.map_take];rfl
 refine z8 Tryz.func38 (zQ [] λb2=>zQ [] λb3=>z6 (v:= .bool (decide (yT x.sh))) [1,1] (λw hO=>cX w hO.below) (qT 10 (yT x.sh) (λh1=> ?_) (λh1=> ?_)))
 rotate_left
 ·exact z7 [] Z5 λw hO=>hno w hO.below λh=>h1 (hG.1 h).1
 refine z6 (v:= .bool (decide (yT y.sh))) [0] (λw hO=>cY w hO.below) (qT 13 (yT y.sh) (λh2=> ?_) (λh2=> ?_))
 rotate_left
 ·exact z7 [] Z5 λw hO=>hno w hO.below λh=>h2 (hG.1 h).2.1
 refine yS 20 [1,0] x.name y.name (λh3=> ?_) (λh3=> ?_)
 rotate_left
 ·exact z7 [] Z5 λw hO=>hno w hO.below λh=>h3 (hG.1 h).2.2.1
 refine zA 27 [0] ((x.es.length:Int)<=(y.es.length:Int)) (λh4=> ?_) (λh4=> ?_)
 rotate_left
 ·exact z7 [] Z5 λw hO=>hno w hO.below λh=>h4 (by have:=(hG.1 h).2.2.2.1;omega)
 have h5:x.es.length<=y.es.length:=by omega
 have cB':=cB h5
 have cE':=cE h5
 refine z6 (v:= .slice y.A x.es.length x.es.length) [1,0] (λw hO=>cB' w hO.below) (z6 (v:= .bool (decide (x.es.map Ev.rcT=(y.es.take x.es.length).map Ev.rcT))) [] (λw hO=>cE' w hO.below) ?_)
 exact z7 [] (.bool (decide (x.es.map Ev.rcT=(y.es.take x.es.length).map Ev.rcT))) λw hO=>⟨by
  have:decide (x.es.map Ev.rcT=(y.es.take x.es.length).map Ev.rcT)=decide (pW x.sh y.sh):=by
   rw [decide_eq_decide,hG]
   exact ⟨λh=>⟨h1,h2,h3,h5,h⟩,λh=>h.2.2.2.2⟩
  rw [this],hO.below⟩
end
section
set_option linter.unnecessarySimpa false
theorem put_is {s:Sh}{r:Rt}(h:yT s)(hc:(zP r).1=0)(hl:s.es.length<64):fE s r=if zR s.es r.name r.ver= -1 then (⟨s.name,s.es++[⟨r,yZ r,false⟩]⟩,0) else (w9,8):=by
 unfold fE
 rw [if_pos h,if_pos hc,if_neg (show ¬ s.es.length=64 by omega)]
theorem yank_is {s:Sh}{n:YL}{v:Ver}{on:Bool}(h:yT s):yankS s n v on=if zR s.es n v= -1 then (w9,9) else (⟨s.name,bN s.es (zR s.es n v).toNat on⟩,0):=by
 unfold yankS;rw [if_pos h]
theorem find_is {s:Sh}{n:YL}{v:Ver}(h:yT s):findS s n v=zR s.es n v:=by
 unfold findS;rw [if_pos h]
def oneN:YL:=[111,110,101]
def s0v:Hv:=⟨[111,110,101],none,0,[]⟩
def r0v:Rv:=⟨[98],1,0,0,[],[],none,0,[],none,0,[],none,0,[]⟩
theorem s0_in (w:World):ShIn w w.heap.size s0v:=⟨⟨λh=>absurd h (by decide),(λe h=>by cases h),by decide⟩,by decide,by decide⟩
theorem r0_in (w:World):RcIn w w.heap.size r0v:=⟨λh=>absurd h (by decide),(λn h=>by cases h),(λn h=>by cases h),λh=>absurd h (by decide),⟨λh=>absurd h (by decide),(λn h=>by cases h),by decide,(λn h=>by cases h),(λn h=>by cases h),(λn h=>by cases h)⟩,by decide,(λn h=>by cases h),(λn h=>by cases h),by decide,⟨by decide,by decide,by decide⟩,(λn h=>by cases h),(λn h=>by cases h),(λn h=>by cases h)⟩
theorem chk0:(zP r0v.rt).1=0:=by kernel_rfl
theorem may0:yT ⟨oneN,[]⟩:=⟨by kernel_rfl,by decide,(λe h=>by cases h),List.Pairwise.nil⟩
theorem hit0 (z:Int)(y:Bool):bS r0v.rt.name r0v.rt.ver ⟨r0v.rt,z,y⟩=true:=by
 unfold bS oneV
 simp only [Bool.and_eq_true,decide_eq_true_eq]
 exact ⟨trivial,⟨by kernel_rfl,by kernel_rfl⟩,pK⟩
def es0 (y:Bool):List Et:=[⟨r0v.rt,yZ r0v.rt,y⟩]
theorem place0 (y:Bool):zR (es0 y) r0v.rt.name r0v.rt.ver=0:=place_at (i:=0) (Nat.zero_lt_one) (λe h=>by simp at h) (hit0 _ _)
theorem may1 (y:Bool):yT ⟨oneN,es0 y⟩:=may_core (s:=⟨oneN,es0 false⟩) rfl rfl (put_may may0 chk0 (place_none.2 (λe h=>by cases h)) (by decide))
theorem put0:fE ⟨oneN,[]⟩ r0v.rt=(⟨oneN,es0 false⟩,0):=by
 rw [put_is may0 chk0 (by decide),if_pos (place_none.2 (λe h=>by cases h))];rfl
theorem put1:fE ⟨oneN,es0 false⟩ r0v.rt=(w9,8):=by
 rw [put_is (may1 false) chk0 (by decide),if_neg (by rw [place0];decide)]
theorem yank0:yankS ⟨oneN,es0 false⟩ [98] r0v.ver true=(⟨oneN,es0 true⟩,0):=by
 have e:zR (es0 false) [98] r0v.ver=0:=place0 false
 rw [yank_is (may1 false),if_neg (by show ¬ zR (es0 false) [98] r0v.ver= -1;rw [e];decide)]
 show ((⟨oneN,bN (es0 false) (zR (es0 false) [98] r0v.ver).toNat true⟩:Sh),(0:Int))=_
 rw [e];rfl
theorem awake13_any (W:World)(hK:RecLib W):YC 23 #[] W (YR (.bool true) W):=by
 refine z8 Tryz.func23 (zB [] λb1=>zB [0] λb2=> ?_)
 refine yC (R:=λv ob=>∃ y,v= .tuple #[hvV y,YI 0]/\y.sh=⟨oneN,es0 false⟩/\ShO y ob) [0,1,0] (λw hO=>by
  have h:=sPut_any s0v r0v w (s0_in w) (r0_in w) (hK.on hO.below)
  rw [show s0v.sh=⟨oneN,[]⟩ from rfl,put0] at h;exact h) ?_
 rintro _ ob1 ⟨y1,rfl,e1,o1⟩
 have i1:∀ w,Own [] W w ob1->ShIn w w.heap.size y1:=λw hO=>o1.inn hO (λb h=>h) (e1▸may1 false)
 refine zB [] λb3=>yC (R:=λv ob=>∃ y,v= .tuple #[hvV y,YI 8]/\y.sh=w9/\ShO y ob) [0,0,1] (λw hO=>by
  have hO':=hO.past 3 ob1
  clear hO
  have h:=sPut_any y1 r0v w (i1 w hO') (r0_in w) (hK.on hO'.below)
  rw [e1,put1] at h;exact h) ?_
 rintro _ ob2 ⟨y2,rfl,e2,o2⟩
 refine zB [] λb5=>yC (R:=λv ob=>∃ y,v= .tuple #[hvV y,YI 0]/\y.sh=⟨oneN,es0 true⟩/\ShO y ob) [0,1,2] (λw hO=>by
  have hO':=(hO.past 4 (ob1++ob2)).sublist (List.sublist_append_left _ _)
  clear hO
  have h:=sYank_any y1 [98] r0v.ver true w (i1 w hO') (by decide) (by decide) (hK.on hO'.below)
  rw [e1,yank0] at h;exact h) ?_
 rintro _ ob3 ⟨y3,rfl,e3,o3⟩
 have i3:∀ w,Own [] W w ob3->ShIn w w.heap.size y3:=λw hO=>o3.inn hO (λb h=>h) (e3▸may1 true)
 have hl:y3.es.length=1:=by
  have:=congrArg (λs:Sh=>s.es.length) e3
  simpa [Hv.sh,es0] using this
 obtain ⟨nm,A,c,es⟩:=y3
 obtain ⟨a,rfl⟩:=List.length_eq_one_iff.1 hl
 have ha:a.yk=true:=by
  have:=congrArg (λs:Sh=>s.es.map Et.yk) e3
  simpa [Hv.sh,es0,Ev.et] using this
 have c1:∀ w,Own [] W w ob3->YC 28 #[hvV ⟨nm,A,c,[a]⟩,.string (mkS [98]),yN r0v.ver] w (YR (YI 0) w):=λw hO=>by
  have h:=sFind_any ⟨nm,A,c,[a]⟩ [98] r0v.ver w (i3 w hO) (by decide) (by decide) (hK.on hO.below)
  rw [e3,find_is (may1 true),show zR (⟨oneN,es0 true⟩:Sh).es [98] r0v.ver=0 from place0 true] at h;exact h
 have c2:∀ w,Own [] W w ob3->YC 38 #[hvV s0v,hvV ⟨nm,A,c,[a]⟩] w (YR (.bool true) w):=λw hO=>by
  have h:=sGrown_any s0v ⟨nm,A,c,[a]⟩ w (s0_in w) (i3 w hO) (hK.on hO.below)
  rw [e3,decide_eq_true (grown_nil (s:=s0v.sh) may0 rfl (may1 true) rfl)] at h;exact h
 have c3:∀ w,Own [] W w ob3->YC 26 #[hvV ⟨nm,A,c,[a]⟩] w (YR (.bool true) w):=λw hO=>by
  have h:=dJ ⟨nm,A,c,[a]⟩ w (i3 w hO) (hK.on hO.below)
  rw [e3,decide_eq_true (may1 true)] at h;exact h
 obtain ⟨q1,q2,rfl,hL⟩:=o3
 obtain ⟨g,cur,rfl,rfl,_⟩:=Sl.block hL.top Nat.zero_lt_one
 have hld:∀ w,Own [] W w ([⟨g,cur,53⟩]++q2)->(loadVar 4 ⟨g,0+0*11+10,none⟩).run YP w= .ok (.bool true) w:=λw hO=>by
  obtain ⟨b,off,e,hel⟩:=(i3 w hO).es.top.elem qX 0 Nat.zero_lt_one
  simp only [Option.some.injEq,Addr.mk.injEq] at e
  obtain ⟨rfl,rfl,_⟩:=e
  rw [←ha]
  exact hel w (Below.refl _ _) _ 10 _ Kr
 refine zB [] λb7=>zH 50 [0,0,0] (b:=g) (off:=0) rfl 1 c 0 11 Nat.zero_lt_one (zG 52 [] 4 g (0+0*11+10) Z4 (λw hO=>hld w (hO.past 5 (ob1++ob2++([⟨g,cur,53⟩]++q2))|>.sublist (List.sublist_append_right _ _))) ?_)
 exact z6 (v:=YI 0) [0,3] (λw hO=>c1 w (hO.past 5 (ob1++ob2++([⟨g,cur,53⟩]++q2))|>.sublist (List.sublist_append_right _ _))) (z6 (v:= .bool true) [4,0] (λw hO=>c2 w (hO.past 5 (ob1++ob2++([⟨g,cur,53⟩]++q2))|>.sublist (List.sublist_append_right _ _))) (z6 (v:= .bool true) [0] (λw hO=>c3 w (hO.past 5 (ob1++ob2++([⟨g,cur,53⟩]++q2))|>.sublist (List.sublist_append_right _ _))) (z7 [] Z4 λw hO=>⟨rfl,hO.below⟩)))
end
section
set_option linter.unnecessarySimpa false
theorem r13One_any (a v:Ver)(W:World)(h1:a.pre.length<=1000000)(h2:a.build.length<=1000000)(h3:v.pre.length<=1000000)(h4:v.build.length<=1000000):YC 135 #[yN a,yN v] W (YR (.bool (oneV a v)) W):=by
 have cA:∀ w,YC 114 #[yN a] w (YR (.bool a.may) w):=λw=>wY a w h1 h2
 have cV:∀ w,YC 114 #[yN v] w (YR (.bool v.may) w):=λw=>wY v w h3 h4
 have cC:∀ w,YC 78 #[yN a,yN v] w (YR (YI (vQ a v)) w):=λw=>rcompareQ_any a v w h1 h2 h3 h4
 refine z8 Tryz.func135 (zQ [] λb2=>zQ [] λb3=>z6 (v:= .bool a.may) [1] (λw hO=>cA w) (zX 6 a.may (λha=> ?_) (λha=> ?_)))
 rotate_left
 ·exact z7 [] Z5 λw hO=>⟨by unfold oneV;rw [ha];rfl,hO.below⟩
 refine z6 (v:= .bool v.may) [0] (λw hO=>cV w) (zX 9 v.may (λhv=> ?_) (λhv=> ?_))
 rotate_left
 ·exact z7 [] Z5 λw hO=>⟨by unfold oneV;rw [ha,hv];rfl,hO.below⟩
 exact z6 (v:=YI (vQ a v)) [1,0] (λw hO=>cC w) (z7 [] (.bool (decide (vQ a v=0))) λw hO=>⟨by unfold oneV;rw [ha,hv];rfl,hO.below⟩)
theorem r13Place_any (A:Option Addr)(cap:Nat)(es:List Ev)(nm:YL)(v:Ver)(W:World)(hx:EsIn W W.heap.size A es)(h3:v.pre.length<=1000000)(h4:v.build.length<=1000000):YC 74 #[.slice A es.length cap,.string (mkS nm),yN v] W (YR (YI (zR (es.map Ev.et) nm v)) W):=by
 refine z8 Tryz.func74 (zQ [] λb5=> ?_)
 have hB:∀ w,Own [] W w [⟨b5,(ZP v),24⟩]->YB W w:=λw hO=>hO.below
 refine zL (α:=Nat) (λi=>[(0,.slice A es.length cap),(1,.string (mkS nm)),(5,Zp b5 0),(7,YI (i:Int))]) (λ_=>[⟨b5,(ZP v),24⟩]) (λi m=>(i<=es.length∧∀ e∈(es.map Ev.et).take i,bS nm v e=false)/\m=es.length-i) 0 es.length [] ⟨⟨Nat.zero_le _,λe h=>by simp at h⟩,rfl⟩ ?_
 rintro i mm g kk ⟨⟨hi,hno⟩,hmm⟩ nx hkk
 subst hkk
 refine zA 11 [] ((i:Int)<(es.length:Int)) (λh11=> ?_) (λh11=> ?_)
 rotate_left
 ·exact z7 [] (YI (-1)) λw hO=>⟨by rw [place_none.2 λe he=>hno e (by rw [show i=es.length by omega,←List.length_map (f:=Ev.et),List.take_length];exact he)],hO.below⟩
 have hn5:=hx.n
 have hj:i<es.length:=by omega
 have hjm:i<(es.map Ev.et).length:=by simpa using hj
 obtain ⟨eb,eo,hA,hel⟩:=hx.top.elem qX i hj
 have hn0:∀ w,YB W w->(loadVar 9 ⟨eb,eo+i*11+0,none⟩).run YP w= .ok (.string (mkS es[i].rec'.name)) w:=λw hw=>hel w hw _ 0 _ Kr
 have hv0:∀ w,YB W w->(loadVar 24 ⟨eb,eo+i*11+1,none⟩).run YP w= .ok (yN es[i].rec'.ver) w:=λw hw=>hel w hw _ 1 _ Kr
 have hsn:=(hx.each _ (List.getElem_mem hj)).sn
 have hat:bS nm v es[i].et=true->zR (es.map Ev.et) nm v=(i:Int):=λh=>place_at hjm hno (by rw [List.getElem_map];exact h)
 have hstep:bS nm v es[i].et=false→∀ e∈(es.map Ev.et).take (i+1),bS nm v e=false:=λh e he=>by
  rw [List.take_succ_eq_append_getElem hjm,List.getElem_map] at he
  rcases List.mem_append.1 he with he|he
  ·exact hno e he
  ·rw [List.mem_singleton.1 he];exact h
 have hdef:bS nm v es[i].et=(decide (es[i].rec'.name=nm) && oneV es[i].rec'.ver v):=rfl
 rw [hdef] at hat hstep
 generalize es[i]=u at*
 have cO:∀ w,YC 135 #[yN u.rec'.ver,yN v] w (YR (.bool (oneV u.rec'.ver v)) w):=λw=>r13One_any u.rec'.ver v w hsn.2.1 hsn.2.2 h3 h4
 refine zH 16 [] hA es.length cap i 11 hj (zG 19 [] 9 eb (eo+i*11+0) (.string (mkS u.rec'.name)) (λw hO=>hn0 w hO.below) (yS 21 [] u.rec'.name nm (λhnm=> ?_) (λhnm=> ?_)))
 rotate_left
 ·exact x_i 13 [] ((i+1:Nat):Int) (nx (i+1) (es.length-(i+1)) [] Om ⟨⟨hj,hstep (by rw [decide_eq_false hnm];rfl)⟩,rfl⟩ Kr Kr)
 rw [decide_eq_true hnm,Bool.true_and] at hat hstep
 refine zH 25 [] hA es.length cap i 11 hj (zG 28 [] 24 eb (eo+i*11+1) (yN u.rec'.ver) (λw hO=>hv0 w hO.below) (z6 (v:= .bool (oneV u.rec'.ver v)) [0] (λw hO=>cO w) (x_bb 31 [] (oneV u.rec'.ver v) (λho=> ?_) (λho=> ?_))))
 ·exact z7 [] (YI (i:Int)) λw hO=>⟨by rw [hat ho],hO.below⟩
 ·exact x_i 13 [] ((i+1:Nat):Int) (nx (i+1) (es.length-(i+1)) [] Om ⟨⟨hj,hstep ho⟩,rfl⟩ Kr Kr)
theorem place_self {l:List Et}{n:YL}{v:Ver}{i:Nat}(hi:i<l.length)(hs:bS n v l[i]=true):zR l n v=(i:Int)↔zR (l.take i) n v= -1:=by
 rw [place_none]
 constructor
 ·intro h
  obtain ⟨j,hj,e,_,h0⟩:=place_some (l:=l) (n:=n) (v:=v) Om
  obtain rfl:j=i:=by omega
  exact h0
 ·intro h;exact place_at hi h hs
theorem r13May_any (x:Hv)(W:World)(hx:ShIn W W.heap.size x):YC 27 #[hvV x] W (YR (.bool (decide (yT x.sh))) W):=by
 have hno:∀ w,YB W w→¬ yT x.sh->(Ending.returned (.bool false)= .returned (.bool (decide (yT x.sh))))/\YB W w:=λw hb h=>⟨by rw [decide_eq_false h],hb⟩
 have hyes:∀ w,YB W w->yT x.sh->(Ending.returned (.bool true)= .returned (.bool (decide (yT x.sh))))/\YB W w:=λw hb h=>⟨by rw [decide_eq_true h],hb⟩
 have hpre:yT x.sh→∀ i,PreM ((x.es.map Ev.et).take i):=λh i=>may_pre13 h i
 have hmk:nmL x.name=true->x.es.length<=64->PreM (x.es.map Ev.et)->yT x.sh:=λa b c=>pre_may a (by simpa [Hv.sh] using b) c
 have hnot:yT x.sh->nmL x.name=true:=λh=>h.name
 have hfew:yT x.sh->x.es.length<=64:=λh=>by simpa [Hv.sh] using h.few
 obtain ⟨hE,hle,hsn⟩:=hx
 have c1:∀ w,YC 73 #[.string (mkS x.name)] w (YR (.bool (nmL x.name)) w):=λw=>fU x.name w hsn
 refine z8 Tryz.func27 (zQ [] λb1=>z6 (v:= .bool (nmL x.name)) [0] (λw hO=>c1 w) (zX 9 (nmL x.name) (λh9=> ?_) (λh9=> ?_)))
 rotate_left
 ·exact z7 [] Z5 λw hO=>hno w hO.below λh=>by rw [hnot h] at h9;cases h9
 refine zA 15 [0] ((x.es.length:Int)>64) (λh15=> ?_) (λh15=> ?_)
 ·exact z7 [] Z5 λw hO=>hno w hO.below λh=>by have:=hfew h;omega
 refine zL (α:=Nat) (λi=>[(1,Zp b1 0),(3,YI (i:Int))]) (λ_=>[hvB b1 x]) (λi m=>(i<=x.es.length/\PreM ((x.es.map Ev.et).take i))/\m=x.es.length-i) 0 x.es.length [] ⟨⟨Nat.zero_le _,⟨λe h=>by simp at h,by simp⟩⟩,rfl⟩ ?_
 rintro i mm g kk ⟨⟨hi,hP⟩,hmm⟩ nx hkk
 subst hkk
 refine zA 21 [0] ((i:Int)<(x.es.length:Int)) (λh21=> ?_) (λh21=> ?_)
 rotate_left
 ·exact z7 [] Z4 λw hO=>hyes w hO.below (hmk h9 Om (by rw [show i=x.es.length by omega,←List.length_map (f:=Ev.et),List.take_length] at hP;exact hP))
 have hj:i<x.es.length:=by omega
 have hjm:i<(x.es.map Ev.et).length:=by simpa using hj
 obtain ⟨eb,eo,hA,hel⟩:=hE.top.elem qX i hj
 have hel0:∀ w,YB W w->(loadVar 53 ⟨eb,eo+i*11+0,none⟩).run YP w= .ok (evV x.es[i]) w:=λw hw=>hel w hw _ 0 _ Kr
 have hR:=hE.each _ (List.getElem_mem hj)
 have hstep:PreM ((x.es.map Ev.et).take (i+1))↔PreM ((x.es.map Ev.et).take i)/\okE x.es[i].et/\zR ((x.es.map Ev.et).take i) x.es[i].rec'.name x.es[i].rec'.ver= -1:=by
  rw [List.take_succ_eq_append_getElem hjm,List.getElem_map];exact pre_step
 have hself:okE x.es[i].et->(zR (x.es.map Ev.et) x.es[i].rec'.name x.es[i].rec'.ver=(i:Int)↔zR ((x.es.map Ev.et).take i) x.es[i].rec'.name x.es[i].rec'.ver= -1):=λhk=>by
  refine place_self hjm ?_
  have hm:x.es[i].rec'.ver.may=true:=(gK hk.1).2.1
  rw [List.getElem_map]
  show (decide (x.es[i].rec'.name=x.es[i].rec'.name) && (x.es[i].rec'.ver.may && x.es[i].rec'.ver.may && decide (vQ x.es[i].rec'.ver x.es[i].rec'.ver=0)))=true
  rw [hm,pK];simp
 have hq:=λh=>(hstep.1 (hpre h (i+1))).2
 generalize x.es[i]=u at*
 have cS:∀ w,YB W w->YC 41 #[rvV u.rec'] w (YR (.tuple #[.int .u64 (yZ u.rec'.rt),YI (zP u.rec'.rt).1]) w):=λw hb=>r12Sum_any u.rec' w (hR.on hb hb.size)
 have cP:∀ w,YB W w->YC 74 #[.slice x.A x.es.length x.cap,.string (mkS u.rec'.name),yN u.rec'.ver] w (YR (YI (zR (x.es.map Ev.et) u.rec'.name u.rec'.ver)) w):=λw hb=>r13Place_any x.A x.cap x.es u.rec'.name u.rec'.ver w (hE.on hb hb.size) hR.sn.2.1 hR.sn.2.2
 generalize zR (x.es.map Ev.et) u.rec'.name u.rec'.ver=z at cP hself
 have hok:okE u.et↔(zP u.rec'.rt).1=0/\yZ u.rec'.rt=u.sum:=Iff.rfl
 refine zH 27 [0] hA x.es.length x.cap i 11 hj (zG 28 [] 53 eb (eo+i*11+0) (evV u) (λw hO=>hel0 w hO.below) (zB [] λb4=>z6 (v:= .tuple #[.int .u64 (yZ u.rec'.rt),YI (zP u.rec'.rt).1]) [0,0] (λw hO=>cS w hO.below) (kW 36 [] ((zP u.rec'.rt).1=0) (λh32=> ?_) (λh32=> ?_))))
 rotate_left
 ·exact z7 [] Z5 λw hO=>hno w hO.below λh=>h32 (hq h).1.1
 refine kW 41 [0] (yZ u.rec'.rt=u.sum) (λh37=> ?_) (λh37=> ?_)
 rotate_left
 ·exact z7 [] Z5 λw hO=>hno w hO.below λh=>h37 (hq h).1.2
 have hs2:=hself (hok.2 ⟨h32,h37⟩)
 refine z6 (v:=YI z) [1,0,0] (λw hO=>cP w hO.below) (kW 54 [] (z=(i:Int)) (λh51=> ?_) (λh51=> ?_))
 ·exact x_i 23 [] ((i+1:Nat):Int) (zK [] [hvB b1 x] (λw hO=>hO.past 1 _) (nx (i+1) (x.es.length-(i+1)) [] Om ⟨⟨hj,hstep.2 ⟨hP,hok.2 ⟨h32,h37⟩,hs2.1 h51⟩⟩,rfl⟩ Kr Kr))
 ·exact z7 [] Z5 λw hO=>hno w hO.below λh=>h51 (hs2.2 (hq h).2)
end
section
set_option linter.unnecessarySimpa false
def PutR13 (x:Hv)(r:Rv)(v:Value)(ob:List Blk):Prop:=((fE x.sh r.rt).2=0∧∃ A c,v= .tuple #[hvV ⟨x.name,A,c,x.es++[⟨r,yZ r.rt,false⟩]⟩,YI 0]/\Sl 53 11 (.slice A (x.es++[(⟨r,yZ r.rt,false⟩:Ev)]).length c) (x.es++[(⟨r,yZ r.rt,false⟩:Ev)]).length ((x.es++[(⟨r,yZ r.rt,false⟩:Ev)]).flatMap evC) ob)\/((fE x.sh r.rt).2≠0/\v= .tuple #[hvV hv0,YI (fE x.sh r.rt).2]/\ob=[])
theorem r13Put_any (x:Hv)(r:Rv)(W:World)(hx:ShIn W W.heap.size x)(hr:RcIn W W.heap.size r):YC 34 #[hvV x,rvV r] W λe w'=>∃ v ob,e= .returned v/\PutR13 x r v ob/\Own [] W w' ob:=by
 have cM:∀ w,YB W w->YC 27 #[hvV x] w (YR (.bool (decide (yT x.sh))) w):=λw hb=>r13May_any x w (hx.on hb hb.size)
 have cS:∀ w,YB W w->YC 41 #[rvV r] w (YR (.tuple #[.int .u64 (yZ r.rt),YI (zP r.rt).1]) w):=λw hb=>r12Sum_any r w (hr.on hb hb.size)
 have cP:∀ w,YB W w->YC 74 #[.slice x.A x.es.length x.cap,.string (mkS r.name),yN r.ver] w (YR (YI (zR x.sh.es r.name r.ver)) w):=λw hb=>r13Place_any x.A x.cap x.es r.name r.ver w (hx.es.on hb hb.size) hr.sn.2.1 hr.sn.2.2
 have hl0:x.sh.es.length=x.es.length:=by simp [Hv.sh]
 have hn5:=hx.es.n
 have hmz:1<=x.es.length+1:=by omega
 have hPR:∀ v ob,PutR13 x r v ob↔((fE x.sh r.rt).2=0∧∃ A c,v= .tuple #[hvV ⟨x.name,A,c,x.es++[⟨r,yZ r.rt,false⟩]⟩,YI 0]/\Sl 53 11 (.slice A (x.es++[(⟨r,yZ r.rt,false⟩:Ev)]).length c) (x.es++[(⟨r,yZ r.rt,false⟩:Ev)]).length ((x.es++[(⟨r,yZ r.rt,false⟩:Ev)]).flatMap evC) ob)\/((fE x.sh r.rt).2≠0/\v= .tuple #[hvV hv0,YI (fE x.sh r.rt).2]/\ob=[]):=λv ob=>Iff.rfl
 simp only [hPR]
 clear hPR
 have hc64:∀ z,zR x.sh.es r.name r.ver=z->(fE x.sh r.rt).2=if yT x.sh then if (zP r.rt).1=0 then if z= -1 then if x.es.length=64 then 10 else 0 else 8 else (zP r.rt).1 else 1:=λz e=>by
  subst e
  unfold fE
  rw [hl0]
  have e:zR x.sh.es r.rt.name r.rt.ver=zR x.sh.es r.name r.ver:=rfl
  rw [e]
  split<;>(try split)<;>(try split)<;>(try split)<;>rfl
 have hfew:=λh:yT x.sh=>h.few
 rw [hl0] at hfew
 obtain ⟨z,hz⟩:∃ z,zR x.sh.es r.name r.ver=z:=⟨_,rfl⟩
 have hge:=place_ge x.sh.es r.name r.ver
 rw [hz] at cP hge
 have hp:=hc64 z hz
 clear hc64 hz
 generalize (fE x.sh r.rt).2=p at hp
 have hout:∀ (q:Int) (w:World),p=q->q≠0->Own [] W w []→∃ v ob,Ending.returned (.tuple #[hvV hv0,YI q])= .returned v/\((p=0∧∃ A c,v= .tuple #[hvV ⟨x.name,A,c,x.es++[⟨r,yZ r.rt,false⟩]⟩,YI 0]/\Sl 53 11 (.slice A (x.es++[(⟨r,yZ r.rt,false⟩:Ev)]).length c) (x.es++[(⟨r,yZ r.rt,false⟩:Ev)]).length ((x.es++[(⟨r,yZ r.rt,false⟩:Ev)]).flatMap evC) ob)\/(p≠0/\v= .tuple #[hvV hv0,YI p]/\ob=[]))/\Own [] W w ob:=λq w e h0 hO=>⟨_,[],rfl,.inr ⟨e▸h0,by rw [e],rfl⟩,hO⟩
 refine z8 Tryz.func34 (zQ [] λb2=>zQ [] λb3=>zB [] λb4=>z6 (v:= .bool (decide (yT x.sh))) [2] (λw hO=>cM w hO.below) (qT 9 (yT x.sh) (λhm=> ?_) (λhm=> ?_)))
 rotate_left
 ·exact zS [0] 0 (hvV hv0) (YI 1) λw hO=>hout 1 w (by rw [hp,if_neg hm]) (by decide) hO.no
 rw [if_pos hm] at hp
 have hfew:=hfew hm
 refine z6 (v:= .tuple #[.int .u64 (yZ r.rt),YI (zP r.rt).1]) [1] (λw hO=>cS w hO.below) (kW 19 [] ((zP r.rt).1=0) (λhc=> ?_) (λhc=> ?_))
 rotate_left
 ·exact zS [0] 0 (hvV hv0) (YI (zP r.rt).1) λw hO=>hout _ w (by rw [hp,if_neg hc]) hc hO.no
 rw [if_pos hc] at hp
 refine z6 (v:=YI z) [2,1,1] (λw hO=>cP w hO.below) (zA 30 [] (z>=0) (λh30=> ?_) (λh30=> ?_))
 ·exact zS [0] 0 (hvV hv0) (YI 8) λw hO=>hout _ w (by rw [hp,if_neg Om]) (by decide) hO.no
 rw [if_pos Om] at hp
 refine zA 36 [2] ((x.es.length:Int)>=64) (λh36=> ?_) (λh36=> ?_)
 ·exact zS [0] 0 (hvV hv0) (YI 10) λw hO=>hout _ w (by rw [hp,if_pos Om]) (by decide) hO.no
 rw [if_neg Om] at hp
 subst hp
 have hrd:∀ w,Own [] W w [⟨b4,ZM,43⟩,⟨b3,(rvV r).cells,29⟩,hvB b2 x]->Reads evC w w.heap.size x.A x.es:=λw hO=>hx.es.top.on hO.below hO.size
 have hrd2:∀ b46 w,Own [] W w (⟨b46,(evV ⟨r,yZ r.rt,false⟩).cells,53⟩::[⟨b4,ZM,43⟩,⟨b3,(rvV r).cells,29⟩,hvB b2 x])->Reads evC w w.heap.size x.A x.es:=λb46 w hO=>hx.es.top.on hO.below hO.size
 refine x5 11 [] [⟨b4,ZM,43⟩,⟨b3,(rvV r).cells,29⟩,hvB b2 x] (λw hO=>hO.past 0 _) (x_h2 [2,2,1] 4 8 (vI (g:=evC) (T:=53) (sz:=11) (cp:=x.cap) x.es [⟨b4,ZM,43⟩,⟨b3,(rvV r).cells,29⟩,hvB b2 x] [] [] [⟨b4,ZM,43⟩,⟨b3,(rvV r).cells,29⟩,hvB b2 x] [⟨b4,ZM,43⟩,⟨b3,(rvV r).cells,29⟩,hvB b2 x] (λw hO=>hO) (λo w hO=>(hO.sublist (List.sublist_append_left _ _)).sublist (List.sublist_append_left _ _)) qX evC_one (λw hO=>hrd w hO) (Sl.nil _ _) (by omega) λv1 o1 hS=>zY [] 8 (gF 1 53 (evV ⟨r,yZ r.rt,false⟩).cells λb46=> ?_)) (gF 1 53 (evV ⟨r,yZ r.rt,false⟩).cells λb46=>zY [] 4 (vI (g:=evC) (T:=53) (sz:=11) (cp:=x.cap) x.es (⟨b46,(evV ⟨r,yZ r.rt,false⟩).cells,53⟩::[⟨b4,ZM,43⟩,⟨b3,(rvV r).cells,29⟩,hvB b2 x]) [] [] (⟨b46,(evV ⟨r,yZ r.rt,false⟩).cells,53⟩::[⟨b4,ZM,43⟩,⟨b3,(rvV r).cells,29⟩,hvB b2 x]) [⟨b4,ZM,43⟩,⟨b3,(rvV r).cells,29⟩,hvB b2 x] (λw hO=>hO) (λo w hO=>(hO.sublist (List.sublist_append_left _ _)).sublist (List.Sublist.trans (List.sublist_cons_self _ _) (List.sublist_append_left _ _))) qX evC_one (λw hO=>hrd2 b46 w hO) (Sl.nil _ _) (by omega) λv1 o1 hS=> ?_)))
 all_goals
  obtain ⟨A1,c1,rfl⟩:=Sl.form hS
  refine zY [] 9 (vZ (T:=53) (sz:=11) (⟨b46,(evV ⟨r,yZ r.rt,false⟩).cells,53⟩::[⟨b4,ZM,43⟩,⟨b3,(rvV r).cells,29⟩,hvB b2 x]) o1 [] 0 (⟨b46,(evV ⟨r,yZ r.rt,false⟩).cells,53⟩::(([⟨b4,ZM,43⟩,⟨b3,(rvV r).cells,29⟩,hvB b2 x]:List Blk)++o1++[])) [⟨b4,ZM,43⟩,⟨b3,(rvV r).cells,29⟩,hvB b2 x] (λw hO=>hO.cast (by simp only [List.append_assoc,List.cons_append,List.nil_append])) (λo w hO=>(hO.sublist (List.sublist_append_left _ _)).sublist (List.Sublist.trans (List.sublist_cons_self _ _) (List.sublist_append_left _ _))) hS (m:=1) (cp:=1) Om λv2 o2 hS2=> ?_)
  obtain ⟨A2,c2,rfl⟩:=Sl.form hS2
  have e1:0+x.es.length+1=(x.es++[(⟨r,yZ r.rt,false⟩:Ev)]).length:=by rw [List.length_append,List.length_singleton];omega
  have e2:[]++x.es.flatMap evC++(evV ⟨r,yZ r.rt,false⟩).cells.toList=(x.es++[(⟨r,yZ r.rt,false⟩:Ev)]).flatMap evC:=by rw [List.flatMap_append,List.flatMap_singleton];rfl
  refine zS [1] 1 (.agg #[.string (mkS x.name),.slice A2 (0+x.es.length+1) c2]) (YI 0) λw hO=> ?_
  have hO':=hO.past 4 (o2++[])
  clear hO
  have hS3:∀ k,0+x.es.length+1=k->k=(x.es++[(⟨r,yZ r.rt,false⟩:Ev)]).length→∃ v ob,Ending.returned (.tuple #[.agg #[.string (mkS x.name),.slice A2 k c2],YI 0])= .returned v/\(((0:Int)=0∧∃ A c,v= .tuple #[hvV ⟨x.name,A,c,x.es++[⟨r,yZ r.rt,false⟩]⟩,YI 0]/\Sl 53 11 (.slice A (x.es++[(⟨r,yZ r.rt,false⟩:Ev)]).length c) (x.es++[(⟨r,yZ r.rt,false⟩:Ev)]).length ((x.es++[(⟨r,yZ r.rt,false⟩:Ev)]).flatMap evC) ob)\/((0:Int)≠0/\v= .tuple #[hvV hv0,YI 0]/\ob=[]))/\Own [] W w ob:=λk hk hk2=>by
   subst hk
   rw [hk2] at hS2 ⊢
   exact ⟨_,o2,rfl,.inl ⟨rfl,A2,c2,rfl,Sl.to hS2 rfl e2⟩,hO'.cast (by simp)⟩
  exact hS3 _ rfl e1
end
section
set_option linter.unnecessarySimpa false
theorem RecO.inn {x:Rv}{ob L:List Blk}{M:List Nat}{W w:World}(h:RecO x ob)(hO:Own M W w L)(hs:∀ b∈ob,b∈L)(hB:BndR x.rt)(hF:FewR x.rt 4096):RcIn w w.heap.size x:=by
 obtain ⟨o1,o2,o4,o7,o8,rfl,h1,h4,h7⟩:=h
 exact rec_inn h1 h4 h7 hO (λb hb=>hs b (by simp [hb])) (λb hb=>hs b (by simp [hb])) (λb hb=>hs b (by simp [hb])) (λb hb=>hs b (by simp [hb])) (λb hb=>hs b (by simp [hb])) hB hF
def ParV (s:YL)(v:Value)(ob:List Blk):Prop:=∃ x,v= .tuple #[rvV x,YI (readT s).2.1,YI (readT s).2.2]/\x.rt=(readT s).1/\RecO x ob/\BndR x.rt/\FewR x.rt 4096
def awS1:YL:=[112,97,99,107,97,103,101,32,97,112,112,32,49,46,48,46,48,10,110,101,101,100,10,97,110,121,32,98,32,120,32,102,117,108,108,32,94,49,10,119,104,101,110,32,111,115,32,61,32,120,10,98,97,114,32,99,32,42,10,102,101,97,116,117,114,101,32,121,32,98,47,122,10]
def awS2:YL:=[112,97,99,107,97,103,101,32,97,112,112,32,49,46,48,46,48,10,97,110,121,32,98,32,45,32,102,117,108,108,32,42,10]
end
section
theorem nmF_word:∀ j,j<4->wdL (nmF j)=true/\(zM (nmF j)).1=1/\(zM (nmF j)).2.1=nmF j
 |0,_=>⟨by kernel_rfl,by kernel_rfl,by kernel_rfl⟩
 |1,_=>⟨by kernel_rfl,by kernel_rfl,by kernel_rfl⟩
 |2,_=>⟨by kernel_rfl,by kernel_rfl,by kernel_rfl⟩
 |3,_=>⟨by kernel_rfl,by kernel_rfl,by kernel_rfl⟩
theorem opt_kind:∀ j,j<4->(zM ([63]++vD j)).1=2
 |0,_=>by kernel_rfl
 |1,_=>by kernel_rfl
 |2,_=>by kernel_rfl
 |3,_=>by kernel_rfl
theorem pull_kind:∀ j,j<5->(zM (x4 j++[47]++[120])).1=3
 |0,_=>by kernel_rfl
 |1,_=>by kernel_rfl
 |2,_=>by kernel_rfl
 |3,_=>by kernel_rfl
 |4,_=>by kernel_rfl
def four (a b c d:Bool):List YL:=(if a then [nmF 0] else [])++((if b then [nmF 1] else [])++((if c then [nmF 2] else [])++if d then [nmF 3] else []))
theorem rise_16:∀ a b c d,kE (four a b c d)=true:=by decide
theorem rise_four (keep:Nat->Bool):kE (((List.range 4).filter keep).map nmF)=true:=by
 have e:List.range 4=[0,1,2,3]:=rfl
 have h:=rise_16 (keep 0) (keep 1) (keep 2) (keep 3)
 rw [e]
 unfold four at h
 cases h0:keep 0<;>cases h1:keep 1<;>cases h2:keep 2<;>cases h3:keep 3<;>simp only [h0,h1,h2,h3] at h<;>simpa [List.filter,h0,h1,h2,h3] using h
theorem feats_may {own:Nat}{keep:Nat->Bool}{x:Rv}(h:RecG own keep x):bH (yI x.fts)=true:=by
 have hn:(yI x.fts).map Ft.name=((List.range 4).filter keep).map nmF:=by
  rw [←h.fts.names];unfold yI;rw [List.map_map];rfl
 have hin:∀ f∈yI x.fts,∃ j,j<4/\f.name=nmF j:=λf hf=>by
  have:f.name∈(yI x.fts).map Ft.name:=List.mem_map_of_mem hf
  rw [hn] at this
  obtain ⟨j,hj,e⟩:=List.mem_map.1 this
  exact ⟨j,List.mem_range.1 (List.mem_filter.1 hj).1,e.symm⟩
 have his:∀ j,j<4->keep j=true->isT (yI x.fts) (nmF j)=true:=λj hj hk=>by
  have:nmF j∈(yI x.fts).map Ft.name:=by rw [hn];exact List.mem_map_of_mem (List.mem_filter.2 ⟨List.mem_range.2 hj,hk⟩)
  obtain ⟨f,hf,e⟩:=List.mem_map.1 this
  unfold isT findT
  rw [Bool.or_eq_true]
  exact .inr (List.findIdx?_isSome.trans (List.any_eq_true.2 ⟨f,hf,decide_eq_true e⟩))
 unfold bH
 simp only [Bool.and_eq_true,decide_eq_true_eq,List.all_eq_true]
 refine ⟨⟨⟨?_,λf hf=> ?_⟩,by rw [hn];exact rise_four keep⟩,λf hf=> ?_⟩
 ·have e:=congrArg List.length hn
  rw [List.length_map,List.length_map] at e
  have:=List.length_filter_le keep (List.range 4)
  rw [List.length_range] at this;omega
 ·obtain ⟨j,hj,e⟩:=hin f hf
  rw [e];exact (nmF_word j hj).1
 ·obtain ⟨y,hy,rfl⟩:=List.mem_map.1 hf
  have hg:=h.fts.each y hy
  unfold kO
  simp only [Bool.and_eq_true,decide_eq_true_eq,List.all_eq_true]
  refine ⟨⟨Nat.le_trans hg.len Om,hg.rise⟩,λs hs=> ?_⟩
  unfold jO
  simp only [Bool.and_eq_true,Bool.or_eq_true,decide_eq_true_eq]
  rcases hg.all s hs with ⟨m,hm,hne,rfl⟩|⟨m,hm,w,hw,rfl⟩|⟨j,hj,hk,rfl⟩
  ·rcases (h.needs m hm).opt with e|⟨j,hj,e⟩
   ·exact absurd e hne
   ·rw [e,opt_kind j hj];exact ⟨by omega,.inl Om⟩
  ·have key:∀ (a:Bool) (u:Wv),WishG own a u->(zM (u.name++[47]++[120])).1=3:=λa u hu=>by
    obtain ⟨k,_,e⟩:=hu.name
    rw [e];exact pull_kind _ Om
   have h3:(zM (w.name++[47]++[120])).1=3:=by
    rcases (h.needs m hm).any with ⟨u,e,hu⟩|⟨u,z,e,_,_⟩
    ·rw [hw] at e;injection e with e1 _;rw [e1];exact key _ _ hu
    ·rw [hw] at e;simp at e
   rw [h3];exact ⟨by omega,.inl Om⟩
  ·obtain ⟨_,k1,k2⟩:=nmF_word j hj
   rw [k1,k2];exact ⟨by omega,.inr (his j hj hk)⟩
end
end Go.Proofs.YtdafengdngglpaaGreatDoor
