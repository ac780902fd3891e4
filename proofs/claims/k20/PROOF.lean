import PyProof.Rows.All
import Wide.All
import OpenK.AllK
import Wide.FinOn
import Lean
import PyProof.EqAt
import PyProof.EqKinds
import PyProof.TupleCall
import KE.KMinKey
import PyProof.Rows.Range3
import KE.KTryMore
import KE.KLam
import KE.KNestM
import KE.KSortKey
import KE.KSortTup
import PySem.Challenge.RW_branchdepth_k20_parts_of_a_polynomial
open Option renaming some->j?,none->q?
open PySem renaming Value->l?,Addr->o?,Shared->u?,wpAny_bind->B?,sizeLine_eq->C?,Program->F?,mainGlobals->G?,World->H?,starEach->I?,wpAny_pure->J?,sizeLine->K?,wpAny->L?,Heap->Q?,Stmt->R?,model->T?,wpAny_loadPart'->U?,mem_of_lookup->W?,Around->C!,wpAny_mono->D!,bootBuiltins->J!,compareOp->N!,PyData->R!,FuncData->T!
open Or renaming inl->z?
open PySem.PassesOwn renaming never->D?
open Bool renaming false_ne_true->E?,and_eq_true->V?
open PySem.W renaming findIn->M?,nsIn->O?,fnOf->Z?,mg_none_of->A!,keepIn->E!,emptyDict->S!,codeIn->U!
open Option.some renaming inj->N?
open PySem.F renaming plainAttrs_list->S?,slot_list_append->H!,type_list_append->I!
open Classical renaming byContradiction->Y?
open PySem.NameKind renaming free->B!,cell->O!
open PySem.Obj renaming mapSeq->F!
open PySem.PyData renaming eqv->G!
open PySem.Value renaming ref->K!
open PySem.Str renaming ofString->L!
open PyProof.Rows renaming seqObj->M!,callWith_type1->P!
open False renaming elim->Q!
open PySem.Builtin.SmallTypes renaming fitsIndex->V!
set_option Elab.async false
set_option linter.all false
set_option maxRecDepth 100000
abbrev bK:=PySem.W.Frag
open List renaming getElem?_eq_getElem->Ya,getD_eq_getElem?_getD->Yb,length_map->Yc,mem_cons_of_mem->Ye,mem_cons_self->Yg,getElem?_map->Yh,range->Yi,length_append->Yk,mem_append_right->Yn,mem_of_getElem?->Yo,Nodup->Yq,map_append->Yr,replicate->Yt,size_toArray->Yu,length_range->Yv,getElem?_append_left->Yx,getElem?_range->Yy,lookup_cons->Y0,length_take->Y9,getElem_mem->Za,getElem?_concat_length->Zc,getElem?_eq_none->Zd,getElem?_append_right->Ze,length_cons->Zf,filterMap_cons->Zh,all_eq_true->Zj,mem_append_left->Zk,take_of_length_le->Zn,replicate_succ->Zo,drop_eq_getElem_cons->Zr,eq_nil_of_length_eq_zero->Zs,length_drop->Zu,zipWith->Zw,take_succ->Zx,append_nil->Zy,getElem_of_mem->Z1,lookup->Z2,map_map->Z3,map_cons->Z4,not_mem_nil->Z5,range_succ->Z7,map_congr_left->Z9,mem_cons->Wf,take_length->Wl,flatten_cons->Wn
open Nat renaming le_refl->Yd,lt_of_lt_of_le->Yj,ne_of_lt->Ym,le_trans->Ys,mul_le_mul_left->Yz,mod_eq_of_lt->Y1,zero_le->Y2,mul_succ->Y4,div_add_mod->Y5,mul_comm->Y7,lt_irrefl->Zb,le_mul_of_pos_left->Zg,add_sub_cancel_left->Zi,mul_le_mul_right->Zl,zero_add->Zm,pow_le_pow_right->Z6,eq_zero_of_not_pos->Wb,add_zero->Wc,not_lt_zero->We,le_succ->Wg,mul_zero->Wh,pow_succ->Wi,le_add_right->Wj,div_eq_of_lt->Wk,pow_one->Wm,pow_zero->Wo,le_of_not_lt->Wp,lt_succ_self->Wq,mul_pos->Wr,succ_mul->Wu,mod_lt->Wv
open PySem.Heap renaming get?_push_of_some->Yf,lt_size->Yl,get?_push_size->Yw,size_push->Wa
open Int renaming toNat_natCast->Yp,eq_ofNat_of_zero_le->Y3,natCast_mul->Y6,natCast_emod->Zv,toNat_of_nonneg->Z0,zero_add->Z8,emod_nonneg->Ws,natCast_add->Wt
open Array renaming length_toList->Y8,getElem?_eq_getElem->Zq,getD_eq_getD_getElem?->Zz
abbrev Ww:=@if_neg
abbrev Wx:=@if_pos
abbrev Wy:=@decide_eq_true
abbrev Wz:=@of_decide_eq_true
abbrev W0:=@decide_eq_false
abbrev W1:=@congrArg
abbrev W3:=@absurd
local macro_rules|`(tactic|omega)=>`(tactic|first|lia|omega+splitDisjunctions)
namespace Alg
open Lean.Grind
section mk
variable {α:Type} (zero one:α) (add mul:α->α->α) (neg:α->α)
def nc:Nat->α
 | 0=>zero
 | 1=>one
 | n+2=>add (nc (n+1)) one
def ic:Int->α
 | .ofNat n=>nc zero one add n
 | .negSucc n=>neg (nc zero one add (n+1))
def npw (x:α):Nat->α
 | 0=>one
 | n+1=>mul (npw x n) x
@[reducible] def YB (az:∀a,add a zero=a) (ac:∀a b,add a b=add b a) (aa:∀a b c,add (add a b) c=add a (add b c)) (ma:∀a b c,mul (mul a b) c=mul a (mul b c)) (mo:∀a,mul a one=a)
    (ld:∀a b c,mul a (add b c)=add (mul a b) (mul a c)) (mc:∀a b,mul a b=mul b a) (na:∀a,add (neg a) a=zero):CommRing α:=
  have mz:∀a,mul a zero=zero:=λa=>by
    have h1:mul a zero=add (mul a zero) (mul a zero):=by rw[<- ld,az]
    calc mul a zero=add zero (mul a zero):=by rw[ac,az]
      _=add (add (neg (mul a zero)) (mul a zero)) (mul a zero):=by rw[na]
      _=add (neg (mul a zero)) (mul a zero):=by rw[aa,<- h1]
      _=zero:=na _
  have nn:∀a,neg (neg a)=a:=λa=>by
    calc neg (neg a)=add (neg (neg a)) (add (neg a) a):=by rw[na,az]
      _=add (add (neg (neg a)) (neg a)) a:=by rw[aa]
      _=a:=by rw[na,ac,az]
  have nz:neg zero=zero:=by rw[<- az (neg zero),na]
  have nm:∀a b,mul (neg a) b=neg (mul a b):=λa b=>by
    calc mul (neg a) b=add (mul (neg a) b) (add (mul a b) (neg (mul a b))):=by rw[ac (mul a b),na,az]
      _=add (add (mul (neg a) b) (mul a b)) (neg (mul a b)):=by rw[aa]
      _=add (mul b (add (neg a) a)) (neg (mul a b)):=by rw[mc (neg a),mc a,ld]
      _=neg (mul a b):=by rw[na,mz,ac,az]
  have inn:∀i:Int,ic zero one add neg (-i)=neg (ic zero one add neg i):=λi=>by
    match i with
    | .ofNat 0=>exact nz.symm
    | .ofNat (n+1)=>rfl
    | .negSucc n=>exact(nn _).symm
  { add:=add,mul:=mul,neg:=neg,sub:=λa b=>add a (neg b)
    natCast:=⟨nc zero one add⟩,ofNat:=λn=>⟨nc zero one add n⟩,nsmul:=⟨λn a=>mul (nc zero one add n) a⟩,npow:=⟨npw one mul⟩
    add_zero:=az,add_comm:=ac,add_assoc:=aa,mul_assoc:=ma,mul_one:=mo,one_mul:=λa=>(mc _ _).trans (mo a),left_distrib:=ld
    right_distrib:=λa b c=>by
      show mul (add a b) c=add (mul a c) (mul b c)
      rw[mc,ld,mc c,mc c]
    zero_mul:=λa=>(mc _ _).trans (mz a),mul_zero:=mz,pow_zero:=λ_=>rfl,pow_succ:=λ_ _=>rfl
    ofNat_succ:=λa=>by
      match a with
      | 0=>exact((ac _ _).trans (az one)).symm
      | n+1=>rfl
    ofNat_eq_natCast:=λ_=>rfl,nsmul_eq_natCast_mul:=λ_ _=>rfl
    intCast:=⟨ic zero one add neg⟩,zsmul:=⟨λi a=>mul (ic zero one add neg i) a⟩
    neg_add_cancel:=na,sub_eq_add_neg:=λ_ _=>rfl
    neg_zsmul:=λi a=>by
      show mul (ic zero one add neg (-i)) a=neg (mul (ic zero one add neg i) a)
      rw[inn,nm]
    zsmul_natCast_eq_nsmul:=λ_ _=>rfl,intCast_ofNat:=λ_=>rfl,intCast_neg:=inn,mul_comm:=mc }
end mk
@[ext] structure aF (α:Type) where
 c:Nat->α
section ser
variable {α:Type} [CommRing α]
def tl (a:aF α):aF α:=⟨λi=>a.c (i+1)⟩
def YC (x:α)(a:aF α):aF α:=⟨λi=>x*a.c i⟩
def L1 (a b:aF α):aF α:=⟨λi=>a.c i+b.c i⟩
def YD (a:aF α):aF α:=⟨λi=>- a.c i⟩
def Jy:aF α:=⟨λ_=>0⟩
def cst (x:α):aF α:=⟨λi=>if i=0 then x else 0⟩
def c_ (a b:aF α):Nat->α
 | 0=>a.c 0*b.c 0
 | k+1=>a.c 0*b.c (k+1)+c_ (tl a) b k
def smul (a b:aF α):aF α:=⟨c_ a b⟩
theorem uX (b:aF α):∀k,c_ Jy b k=0
 | 0=>by show(0:α)*b.c 0=0;grind
 | k+1=>by
  have:=uX b k
  show(0:α)*b.c (k+1)+c_ Jy b k=0
  grind
theorem qU (c:aF α):∀(k:Nat) (a b:aF α),c_ (L1 a b) c k=c_ a c k+c_ b c k
 | 0,a,b=>by show(a.c 0+b.c 0)*c.c 0=a.c 0*c.c 0+b.c 0*c.c 0;grind
 | k+1,a,b=>by
  have:=qU c k (tl a) (tl b)
  show(a.c 0+b.c 0)*c.c (k+1)+c_ (L1 (tl a) (tl b)) c k=(a.c 0*c.c (k+1)+c_ (tl a) c k)+(b.c 0*c.c (k+1)+c_ (tl b) c k)
  grind
theorem x_ (x:α)(c:aF α):∀(k:Nat) (a:aF α),c_ (YC x a) c k=x*c_ a c k
 | 0,a=>by show(x*a.c 0)*c.c 0=x*(a.c 0*c.c 0);grind
 | k+1,a=>by
  have:=x_ x c k (tl a)
  show(x*a.c 0)*c.c (k+1)+c_ (YC x (tl a)) c k=x*(a.c 0*c.c (k+1)+c_ (tl a) c k)
  grind
theorem Fp:∀(k:Nat) (a b:aF α),c_ a b (k+1)=c_ a (tl b) k+a.c (k+1)*b.c 0
 | 0,a,b=>rfl
 | k+1,a,b=>by
  have:=Fp k (tl a) b
  show a.c 0*b.c (k+2)+c_ (tl a) b (k+1)=(a.c 0*b.c (k+2)+c_ (tl a) (tl b) k)+a.c (k+2)*b.c 0
  have e:(tl a).c (k+1)=a.c (k+2):=rfl;grind
theorem sN:∀(k:Nat) (a b:aF α),c_ a b k=c_ b a k
 | 0,a,b=>by show a.c 0*b.c 0=b.c 0*a.c 0;grind
 | k+1,a,b=>by
  have:=sN k (tl a) b
  rw[Fp k b a];show a.c 0*b.c (k+1)+c_ (tl a) b k=_
  grind
theorem O9 (a b:aF α):tl (smul a b)=L1 (YC (a.c 0) (tl b)) (smul (tl a) b):=rfl
theorem Fq (c:aF α):∀(k:Nat) (a b:aF α),c_ (smul a b) c k=c_ a (smul b c) k
 | 0,a,b=>by show(a.c 0*b.c 0)*c.c 0=a.c 0*(b.c 0*c.c 0);grind
 | k+1,a,b=>by
  have:=Fq c k (tl a) b
  show(a.c 0*b.c 0)*c.c (k+1)+c_ (tl (smul a b)) c k=a.c 0*(b.c 0*c.c (k+1)+c_ (tl b) c k)+c_ (tl a) (smul b c) k
  rw[O9,qU,x_];show _+(_+c_ (smul (tl a) b) c k)=_
  grind
theorem L4 (x:α)(b:aF α):∀k,c_ (cst x) b k=x*b.c k
 | 0=>rfl
 | k+1=>by
  have e:tl (cst x)=Jy:=by
   apply aF.ext;funext i;show(if i+1=0 then x else 0)=(0:α);rw[Ww (by omega)]
  show(if 0=0 then x else 0)*b.c (k+1)+c_ (tl (cst x)) b k=x*b.c (k+1)
  rw[e,uX,Wx rfl];grind
instance:CommRing (aF α):=YB Jy (cst 1) L1 smul YD
 (λa=>by apply aF.ext;funext i;show a.c i+0=a.c i;grind) (λa b=>by apply aF.ext;funext i;show a.c i+b.c i=b.c i+a.c i;grind)
 (λa b c=>by apply aF.ext;funext i;show a.c i+b.c i+c.c i=a.c i+(b.c i+c.c i);grind) (λa b c=>by apply aF.ext;funext i;exact Fq c i a b)
 (λa=>by apply aF.ext;funext i;show c_ a (cst 1) i=a.c i;rw[sN,L4];grind)
 (λa b c=>by apply aF.ext;funext i;show c_ a (L1 b c) i=c_ a b i+c_ a c i;rw[sN,qU,sN _ b,sN _ c])
 (λa b=>by apply aF.ext;funext i;exact sN i a b) (λa=>by apply aF.ext;funext i;show-a.c i+a.c i=0;grind)
theorem nk (a b:aF α)(i):(a+b).c i=a.c i+b.c i:=rfl
theorem Q_ (a:aF α)(i):(-a).c i=- a.c i:=rfl
theorem qV (a b:aF α)(i):(a-b).c i=a.c i-b.c i:=by
 show a.c i+- b.c i=_
 grind
theorem UT (i):(1:aF α).c i=if i=0 then 1 else 0:=rfl
theorem bS (x)(a:aF α)(i):(cst x*a).c i=x*a.c i:=L4 x a i
end ser
end Alg
namespace Alg
open Lean.Grind
section
variable {α:Type} [CommRing α]
def Dg (a:aF α)(n:Nat):Prop:=∀i,n<=i->a.c i=0
def aX (a:aF α):Prop:=∃N,Dg a N
theorem Dg.mono {a:aF α}(h:Dg a m)(k:m<=n):Dg a n:=λi hi=>h i (by omega)
theorem Dg.add {a b:aF α}(h:Dg a n)(k:Dg b n):Dg (a+b) n:=λi hi=>by rw[nk,h i hi,k i hi];grind
theorem Dg.neg {a:aF α}(h:Dg a n):Dg (-a) n:=λi hi=>by rw[Q_,h i hi];grind
theorem Dg.sub {a b:aF α}(h:Dg a n)(k:Dg b n):Dg (a-b) n:=λi hi=>by rw[qV,h i hi,k i hi];grind
theorem Dg.zero (n):Dg (0:aF α) n:=λi _=>rfl
theorem Dg.cst (x:α):Dg (cst x) 1:=λi hi=>by show(if i=0 then x else 0)=0;rw[Ww (by omega)]
theorem Dg.one:Dg (1:aF α) 1:=Dg.cst 1
theorem Dg.tl {a:aF α}{n:Nat}(h:Dg a (n+1)):Dg (tl a) n:=λi hi=>h (i+1) (by omega)
theorem Dg.Fc {a:aF α}(h:Dg a 0):a=0:=by
 apply aF.ext;funext i;exact h i (Y2 _)
theorem iz {a:aF α}(h:Dg a 1):a=Alg.cst (a.c 0):=by
 apply aF.ext;funext i
 show a.c i=if i=0 then a.c 0 else 0
 by_cases e:i=0
 ·rw[Wx e,e]
 ·rw[Ww e];exact h i (by omega)
theorem iT (b:aF α)(n:Nat)(hb:Dg b (n+1)):∀(m:Nat) (a:aF α),Dg a (m+1)->(a*b).c (m+n)=a.c m*b.c n/\Dg (a*b) (m+n+1)
 | 0,a,ha=>by
  rw[iz ha];refine⟨by rw[Zm,bS];rfl,λi hi=>?_⟩
  rw[bS,hb i (by omega)];grind
 | m+1,a,ha=>by
  obtain⟨h1,h2⟩:=iT b n hb m (tl a) ha.tl;have s:∀k,(a*b).c (k+1)=a.c 0*b.c (k+1)+(tl a*b).c k:=λk=>rfl
  refine⟨?_,λi hi=>?_⟩
  ·have e:m+1+n=(m+n)+1:=by omega
   rw[e,s,h1,hb _ (by omega)]
   show _+a.c (m+1)*_=_
   grind
  ·obtain⟨k,rfl⟩:∃k,i=k+1:=⟨i-1,by omega⟩
   rw[s,hb _ (by omega),h2 _ (by omega)];grind
theorem Dg.mul {a b:aF α}(ha:Dg a m)(hb:Dg b n):Dg (a*b) (m+n):=λi hi=>by
 obtain⟨h1,h2⟩:=iT b n (hb.mono (by omega)) m a (ha.mono (by omega))
 by_cases e:i=m+n
 ·rw[e,h1,ha m (Yd _)];grind
 ·exact h2 i (by omega)
theorem aX.add {a b:aF α}:aX a->aX b->aX (a+b):=λ⟨m,h⟩ ⟨n,k⟩=>⟨m+n,(h.mono (by omega)).add (k.mono (by omega))⟩
theorem aX.sub {a b:aF α}:aX a->aX b->aX (a-b):=λ⟨m,h⟩ ⟨n,k⟩=>⟨m+n,(h.mono (by omega)).sub (k.mono (by omega))⟩
theorem aX.neg {a:aF α}:aX a->aX (-a):=λ⟨m,h⟩=>⟨m,h.neg⟩
theorem aX.mul {a b:aF α}:aX a->aX b->aX (a*b):=λ⟨m,h⟩ ⟨n,k⟩=>⟨m+n,h.mul k⟩
theorem aX.zero:aX (0:aF α):=⟨0,Dg.zero 0⟩
theorem aX.one:aX (1:aF α):=⟨1,Dg.one⟩
theorem aX.cst (x:α):aX (cst x):=⟨1,Dg.cst x⟩
theorem aR {β:Type}[CommRing β](x:β)(n):x ^ (n+1)=x ^ n*x:=Semiring.pow_succ x n
theorem br {β:Type}[CommRing β](x:β):x ^ 0=1:=Semiring.pow_zero x
theorem DN {β:Type}[CommRing β](x:β)(m:Nat):∀n,x ^ (m+n)=x ^ m*x ^ n
 | 0=>by rw[Wc,br];grind
 | n+1=>by rw[<- Nat.add_assoc,aR,DN x m n,aR];grind
theorem DO {β:Type}[CommRing β]:∀n:Nat,(1:β) ^ n=1
 | 0=>br _
 | n+1=>by rw[aR,DO n];grind
theorem zS {β:Type}[CommRing β](x y:β):∀n:Nat,(x*y) ^ n=x ^ n*y ^ n
 | 0=>by rw[br,br,br];grind
 | n+1=>by rw[aR,zS x y n,aR,aR];grind
theorem gH {β:Type}[CommRing β](x:β)(m:Nat):∀n,x ^ (m*n)=(x ^ m) ^ n
 | 0=>by rw[Wh,br,br]
 | n+1=>by rw[Y4,DN,gH x m n,aR]
theorem aX.pow {a:aF α}(h:aX a):∀n:Nat,aX (a ^ n)
 | 0=>by rw[br];exact aX.one
 | n+1=>by rw[aR];exact(aX.pow h n).mul h
def mon (x:α)(k:Nat):aF α:=⟨λi=>if i=k then x else 0⟩
theorem lM (x:α)(b:aF α):∀k i,(mon x k*b).c i=if k<=i then x*b.c (i-k) else 0
 | 0,i=>by
  have e:mon x 0=cst x:=rfl;rw[e,bS,Wx (Y2 _)];rfl
 | k+1,0=>by
  show(if 0=k+1 then x else 0)*b.c 0=_
  rw[Ww (by omega),Ww (by omega)];grind
 | k+1,i+1=>by
  have e:tl (mon x (k+1))=mon x k:=by
   apply aF.ext;funext j
   show(if j+1=k+1 then x else 0)=if j=k then x else 0
   by_cases h:j=k
   ·rw[Wx h,Wx (by omega)]
   ·rw[Ww h,Ww (by omega)]
  show(if 0=k+1 then x else 0)*b.c (i+1)+(tl (mon x (k+1))*b).c i=_
  rw[e,lM x b k i,Ww (by omega)]
  by_cases h:k<=i
  ·rw[Wx h,Wx (by omega)]
   have:i+1-(k+1)=i-k:=by omega
   rw[this];grind
  ·rw[Ww h,Ww (by omega)];grind
theorem Dg.mon (x:α)(k:Nat):Dg (mon x k) (k+1):=λi hi=>by show(if i=k then x else 0)=0;rw[Ww (by omega)]
structure bH (f:aF α)(n:Nat):Prop where
 top:f.c n=1
 dg:Dg f (n+1)
theorem bH.kX {f:aF α}(h:bH f n):aX f:=⟨_,h.dg⟩
theorem DP {f:aF α}{n:Nat}(hf:bH f n):∀(N:Nat) (a:aF α),Dg a N->∃q,Dg q (N-n)/\Dg (a-q*f) n
 | 0,a,ha=>⟨0,Dg.zero _,by
   have:a-0*f=a:=by grind
   rw[this];exact ha.mono (Y2 _)⟩
 | N+1,a,ha=>by
  by_cases hn:N+1<=n
  ·refine⟨0,Dg.zero _,?_⟩
   have:a-0*f=a:=by grind
   rw[this];exact ha.mono hn
  ·have hd:Dg (a-Alg.mon (a.c N) (N-n)*f) N:=λi hi=>by
    rw[qV,lM,Wx (by omega)]
    by_cases e:i=N
    ·have:N-(N-n)=n:=by omega
     rw[e,this,hf.top];grind
    ·rw[ha i (by omega),hf.dg _ (by omega)];grind
   obtain⟨q,h1,h2⟩:=DP hf N _ hd;refine⟨q+Alg.mon (a.c N) (N-n),?_,?_⟩
   ·refine(h1.mono (by omega)).add ?_
    have:N+1-n=N-n+1:=by omega
    rw[this];exact Dg.mon _ _
   ·have:a-(q+Alg.mon (a.c N) (N-n))*f=a-Alg.mon (a.c N) (N-n)*f-q*f:=by grind
    rw[this];exact h2
theorem zT {f:aF α}{n:Nat}(hf:bH f n):∀(M:Nat) (q:aF α),Dg q M->Dg (q*f) n->q=0
 | 0,q,h,_=>h.Fc
 | M+1,q,h,k=>by
  have e:=(iT f n hf.dg M q h).1;rw[k _ (by omega),hf.top] at e
  refine zT hf M q (λi hi=>?_) k
  by_cases z:i=M
  ·rw[z];grind
  ·exact h i (by omega)
def Cg (f a b:aF α):Prop:=∃q,aX q/\a-b=q*f
theorem Cg.refl (f a:aF α):Cg f a a:=⟨0,aX.zero,by grind⟩
theorem Cg.symm {f a b:aF α}:Cg f a b->Cg f b a:=λ⟨q,h,e⟩=>⟨-q,h.neg,by grind⟩
theorem Cg.trans {f a b c:aF α}:Cg f a b->Cg f b c->Cg f a c:=λ⟨q,h,e⟩ ⟨r,k,g⟩=>⟨q+r,h.add k,by grind⟩
theorem Cg.add {f a b c d:aF α}:Cg f a b->Cg f c d->Cg f (a+c) (b+d):=λ⟨q,h,e⟩ ⟨r,k,g⟩=>⟨q+r,h.add k,by grind⟩
theorem Cg.sub {f a b c d:aF α}:Cg f a b->Cg f c d->Cg f (a-c) (b-d):=λ⟨q,h,e⟩ ⟨r,k,g⟩=>⟨q-r,h.sub k,by grind⟩
theorem Cg.mul {f a b c d:aF α}(pb:aX b)(pc:aX c):Cg f a b->Cg f c d->Cg f (a*c) (b*d):=λ⟨q,h,e⟩ ⟨r,k,g⟩=>⟨q*c+b*r,(h.mul pc).add (pb.mul k),by grind⟩
theorem Cg.uniq(hf:bH f n){a b:aF α}(ha:Dg a n)(hb:Dg b n)(h:Cg f a b):a=b:=by
 obtain⟨q,⟨M,hq⟩,e⟩:=h;have z:=zT hf M q hq (by rw[<- e];exact ha.sub hb)
 rw[z] at e;grind
end
structure Md (α:Type)[CommRing α] where
 f:aF α
 n:Nat
 mon:bH f n
 pos:0<n
section
variable {α:Type} [CommRing α]
@[ext] structure Qt (M:Md α) where
 s:aF α
 lt:Dg s M.n
theorem Jz (M:Md α)(a)(ha:aX a):∃r,Dg r M.n/\Cg M.f a r:=by
 obtain⟨N,h⟩:=ha;obtain⟨q,h1,h2⟩:=DP M.mon N a h;exact⟨a-q*M.f,h2,q,⟨_,h1⟩,by grind⟩
open Classical in
noncomputable def rest (M:Md α)(a:aF α):aF α:=if h:∃r,Dg r M.n/\Cg M.f a r then h.choose else 0
theorem cJ (M)(a:aF α):Dg (rest M a) M.n:=by
 unfold rest;split
 ·rename_i h;exact h.choose_spec.1
 ·exact Dg.zero _
theorem cS{a:aF α}(ha:aX a):Cg M.f a (rest M a):=by
 unfold rest;rw[dif_pos (Jz M a ha)];exact(Jz M a ha).choose_spec.2
theorem rest_eq{a r:aF α}(hr:Dg r M.n)(h:Cg M.f a r):rest M a=r:=by
 have ex:∃r,Dg r M.n/\Cg M.f a r:=⟨r,hr,h⟩;refine Cg.uniq M.mon (cJ M a) hr (Cg.trans (Cg.symm ?_) h)
 unfold rest;rw[dif_pos ex];exact ex.choose_spec.2
theorem Qt.kX {M:Md α}(x:Qt M):aX x.s:=⟨_,x.lt⟩
noncomputable def Qt.of (M:Md α)(a:aF α):Qt M:=⟨rest M a,cJ M a⟩
theorem L5 (M:Md α):Dg (1:aF α) M.n:=Dg.one.mono M.pos
noncomputable instance (M:Md α):CommRing (Qt M):=YB ⟨0,Dg.zero _⟩ ⟨1,L5 M⟩ (λa b=>⟨a.s+b.s,a.lt.add b.lt⟩) (λa b=>Qt.of M (a.s*b.s)) (λa=>⟨-a.s,a.lt.neg⟩)
 (λa=>by apply Qt.ext;show a.s+0=a.s;grind) (λa b=>by apply Qt.ext;show a.s+b.s=b.s+a.s;grind) (λa b c=>by apply Qt.ext;show a.s+b.s+c.s=a.s+(b.s+c.s);grind)
 (λa b c=>by
  apply Qt.ext
  show rest M (rest M (a.s*b.s)*c.s)=rest M (a.s*rest M (b.s*c.s))
  refine rest_eq (cJ _ _) ?_
  have h1:Cg M.f (rest M (a.s*b.s)*c.s) (a.s*b.s*c.s):=Cg.mul (a.kX.mul b.kX) c.kX (cS (a.kX.mul b.kX)).symm (Cg.refl _ _);have h2:Cg M.f (a.s*(b.s*c.s)) (a.s*rest M (b.s*c.s)):=Cg.mul a.kX (b.kX.mul c.kX) (Cg.refl _ _) (cS (b.kX.mul c.kX));have e:a.s*b.s*c.s=a.s*(b.s*c.s):=by grind
  rw[e] at h1;exact h1.trans (h2.trans (cS (a.kX.mul ⟨_,cJ _ _⟩))))
 (λa=>by
  apply Qt.ext
  show rest M (a.s*1)=a.s
  refine rest_eq a.lt ?_
  have e:a.s*1=a.s:=by grind
  rw[e];exact Cg.refl _ _)
 (λa b c=>by
  apply Qt.ext
  show rest M (a.s*(b.s+c.s))=rest M (a.s*b.s)+rest M (a.s*c.s)
  refine rest_eq ((cJ _ _).add (cJ _ _)) ?_
  have e:a.s*(b.s+c.s)=a.s*b.s+a.s*c.s:=by grind
  rw[e];exact Cg.add (cS (a.kX.mul b.kX)) (cS (a.kX.mul c.kX)))
 (λa b=>by
  apply Qt.ext
  show rest M (a.s*b.s)=rest M (b.s*a.s)
  have e:a.s*b.s=b.s*a.s:=by grind
  rw[e])
 (λa=>by apply Qt.ext;show -a.s+a.s=0;grind)
theorem Ra {M:Md α}(a b:Qt M):(a-b).s=a.s-b.s:=by
 show a.s+-b.s=_
 grind
theorem Hq{a b:aF α}(ha:aX a)(hb:aX b):Qt.of M (a+b)=Qt.of M a+Qt.of M b:=by
 apply Qt.ext
 exact rest_eq ((cJ _ _).add (cJ _ _)) (Cg.add (cS ha) (cS hb))
theorem L6{a b:aF α}(ha:aX a)(hb:aX b):Qt.of M (a-b)=Qt.of M a-Qt.of M b:=by
 apply Qt.ext
 rw[Ra];exact rest_eq ((cJ _ _).sub (cJ _ _)) (Cg.sub (cS ha) (cS hb))
theorem ua{a b:aF α}(ha:aX a)(hb:aX b):Qt.of M (a*b)=Qt.of M a*Qt.of M b:=by
 apply Qt.ext
 refine rest_eq (cJ _ _) ?_
 exact(Cg.mul ⟨_,cJ _ _⟩ hb (cS ha) (cS hb)).trans (cS (aX.mul ⟨_,cJ _ _⟩ ⟨_,cJ _ _⟩))
theorem v_ {M:Md α}:Qt.of M 1=1:=by
 apply Qt.ext
 exact rest_eq (L5 M) (Cg.refl _ _)
theorem zx {M:Md α}:Qt.of M 0=0:=by
 apply Qt.ext
 exact rest_eq (Dg.zero _) (Cg.refl _ _)
theorem wc {M:Md α}{a:aF α}(ha:aX a):∀n:Nat,Qt.of M (a ^ n)=Qt.of M a ^ n
 | 0=>by rw[br,br,v_]
 | n+1=>by rw[aR,ua (ha.pow n) ha,wc ha n,aR]
theorem KQ {M:Md α}(x):Qt.of M x.s=x:=by
 apply Qt.ext
 exact rest_eq x.lt (Cg.refl _ _)
theorem UU {M:Md α}:Qt.of M M.f=0:=by
 apply Qt.ext
 refine rest_eq (Dg.zero _) ⟨1,aX.one,?_⟩
 show M.f-0=1*M.f
 grind
end
end Alg
namespace Alg
open Lean.Grind
section
variable {α:Type} [CommRing α]
theorem zy (x y:α):cst (x+y)=cst x+cst y:=by
 apply aF.ext;funext i
 show(if i=0 then x+y else 0)=(if i=0 then x else 0)+(if i=0 then y else 0)
 split <;> grind
theorem iU (x y:α):cst (x*y)=cst x*cst y:=by
 apply aF.ext;funext i
 rw[bS];show(if i=0 then x*y else 0)=x*(if i=0 then y else 0)
 split <;> grind
theorem jR:cst (1:α)=1:=rfl
theorem dh:cst (0:α)=0:=by
 apply aF.ext;funext i
 show(if i=0 then (0:α) else 0)=0
 split <;> rfl
theorem sO (x:α):∀n:Nat,cst (x ^ n)=cst x ^ n
 | 0=>by rw[br,br];rfl
 | n+1=>by rw[aR,iU,sO x n,aR]
def X:aF α:=mon 1 1
theorem aX.X:aX (X:aF α):=⟨2,Dg.mon 1 1⟩
theorem split0 (a:aF α):a=cst (a.c 0)+X*tl a:=by
 apply aF.ext;funext i
 rw[nk];show _=_+(mon 1 1*tl a).c i
 rw[lM];show _=(if i=0 then a.c 0 else 0)+_
 by_cases h:i=0
 ·rw[Wx h,Ww (by omega),h];grind
 ·rw[Ww h,Wx (by omega)]
  show _=0+1*a.c (i-1+1)
  have:i-1+1=i:=by omega
  rw[this];grind
def ev:Nat->aF α->α->α
 | 0,_,_=>0
 | N+1,b,y=>b.c 0+y*ev N (tl b) y
theorem DQ (y:α):∀(N:Nat) (a:aF α),Dg a 0->ev N a y=0
 | 0,_,_=>rfl
 | N+1,a,h=>by
  have e:=DQ y N (tl a) (λi hi=>h (i+1) (Y2 _))
  show a.c 0+y*ev N (tl a) y=0
  rw[e,h 0 (Yd _)];grind
theorem DR (y:α):∀(N:Nat) (a b:aF α),ev N (a+b) y=ev N a y+ev N b y
 | 0,_,_=>by show(0:α)=0+0;grind
 | N+1,a,b=>by
  have e:=DR y N (tl a) (tl b);have t:tl (a+b)=tl a+tl b:=rfl;show(a.c 0+b.c 0)+y*ev N (tl (a+b)) y=(a.c 0+y*ev N (tl a) y)+(b.c 0+y*ev N (tl b) y)
  rw[t,e];grind
theorem Hr (x y:α):∀(N:Nat) (a:aF α),ev N (cst x*a) y=x*ev N a y
 | 0,_=>by show(0:α)=x*0;grind
 | N+1,a=>by
  have t:tl (cst x*a)=cst x*tl a:=by
   apply aF.ext;funext i
   show(cst x*a).c (i+1)=_
   rw[bS,bS];rfl
  have e:=Hr x y N (tl a);show(cst x*a).c 0+y*ev N (tl (cst x*a)) y=x*(a.c 0+y*ev N (tl a) y)
  rw[t,e,bS];grind
theorem uY (y:α):∀(N M:Nat) (a:aF α),Dg a N->N<=M->ev M a y=ev N a y
 | 0,M,a,h,_=>DQ y M a h
 | N+1,0,_,_,k=>by omega
 | N+1,M+1,a,h,k=>by
  show a.c 0+y*ev M (tl a) y=a.c 0+y*ev N (tl a) y
  rw[uY y N M (tl a) h.tl (by omega)]
theorem L7 (y:α)(n:Nat)(b:aF α)(hb:Dg b n):∀(m:Nat) (a:aF α),Dg a m->ev (m+n) (a*b) y=ev m a y*ev n b y
 | 0,a,ha=>by
  have:a*b=0:=by rw[ha.Fc];grind
  rw[this,DQ y _ _ (Dg.zero 0)];show(0:α)=0*_
  grind
 | m+1,a,ha=>by
  have e:=L7 y n b hb m (tl a) ha.tl;have t:tl (a*b)=cst (a.c 0)*tl b+tl a*b:=by
   apply aF.ext;funext i
   rw[nk,bS];rfl
  have s:ev (m+n+1) b y=ev n b y:=uY y n _ b hb (by omega)
  have q:m+1+n=(m+n)+1:=by omega
  rw[q];show a.c 0*b.c 0+y*ev (m+n) (tl (a*b)) y=(a.c 0+y*ev m (tl a) y)*ev n b y
  rw[t,DR,Hr,e];have s2:ev n b y=b.c 0+y*ev (m+n) (tl b) y:=s.symm;rw[s2];grind
end
section
variable {α:Type} [CommRing α]
def Dom (α:Type)[CommRing α]:Prop:=∀x y:α,x*y=0->x=0\/y=0
def L8 (α:Type)[CommRing α]:Prop:=(1:α)≠0/\∀x:α,x≠0->∃y,x*y=1
theorem L8.dom (h:L8 α):Dom α:=λx y e=>by
 by_cases z:x=0
 ·exact .inl z
 ·obtain⟨u,hu⟩:=h.2 x z
  refine .inr ?_
  have:u*(x*y)=y:=by grind
  rw[e] at this;grind
theorem we (hD:Dom α):∀(e:Nat) (b:aF α) (ys:List α),Dg b (e+1)->ys.length=e+1->ys.Nodup->(∀y∈ys,ev (e+1) b y=0)->b=0
 | 0,b,ys,hb,hl,_,hz=>by
  match ys,hl with
  | y::r,_=>
   have z:=hz y Yg;have z':b.c 0+y*0=0:=z;have z0:b.c 0=0:=by grind
   rw[iz hb,z0,dh]
 | e+1,b,ys,hb,hl,hn,hz=>by
  match ys,hl with
  | r::rs,hl=>
   have hm:bH (X-cst r:aF α) 1:=by
    refine⟨?_,λi hi=>?_⟩
    ·rw[qV]
     show(if 1=1 then (1:α) else 0)-(if 1=0 then r else 0)=1
     rw[Wx rfl,Ww (by omega)];grind
    ·rw[qV]
     show(if i=1 then (1:α) else 0)-(if i=0 then r else 0)=0
     rw[Ww (by omega),Ww (by omega)];grind
   obtain⟨q,hq,hr⟩:=DP hm (e+2) b hb;have hq':Dg q (e+1):=hq;have er:=iz hr;generalize (b-q*(X-cst r)).c 0=s at er;have eb:b=q*(X-cst r)+cst s:=by grind
   have ev1:∀y,ev (e+2) b y=ev (e+1) q y*(y-r)+s:=λy=>by
    have h1:ev (e+1+2) b y=ev (e+2) b y:=uY y _ _ b hb (by omega)
    rw[<- h1,eb,DR,L7 y 2 _ hm.dg (e+1) q hq'];have h2:ev 2 (X-cst r:aF α) y=y-r:=by
     show(X-cst r:aF α).c 0+y*((X-cst r:aF α).c 1+y*0)=_
     rw[qV,qV];show((if 0=1 then (1:α) else 0)-(if 0=0 then r else 0))+y*(((if 1=1 then (1:α) else 0)-(if 1=0 then r else 0))+y*0)=_
     rw[Ww (by omega),Wx rfl,Wx rfl,Ww (by omega)];grind
    have h3:ev (e+1+2) (cst s) y=s:=by
     rw[uY y 1 _ _ (Dg.cst s) (by omega)]
     show s+y*0=s
     grind
    rw[h2,h3]
   have s0:s=0:=by
    have:=ev1 r
    rw[hz r Yg] at this;grind
   have hq0:q=0:=by
    refine we hD e q rs hq' (by simpa using hl) (List.nodup_cons.mp hn).2 λy hy=>?_
    have z:=ev1 y;rw[hz y (Ye _ hy),s0] at z;have z':ev (e+1) q y*(y-r)=0:=by grind
    rcases hD _ _ z' with w|w
    ·exact w
    ·have:y=r:=by grind
     exact W3 (this ▸ hy) (List.nodup_cons.mp hn).1
   rw[eb,hq0,s0,dh];grind
def go (a:Nat):List Nat->List Nat
 | []=>[a]
 | c::l=>(a+c)::go c l
def row:Nat->List Nat
 | 0=>[1]
 | n+1=>go 0 (row n)
def nt (α:Type)[CommRing α]:Nat->α
 | 0=>0
 | n+1=>nt α n+1
theorem nR (a:Nat):∀b:Nat,nt α (a+b)=nt α a+nt α b
 | 0=>by show nt α a=nt α a+0;grind
 | b+1=>by
  have e:=nR a b;show nt α (a+b)+1=nt α a+(nt α b+1)
  rw[e];grind
theorem kY (a:Nat):∀b:Nat,nt α (a*b)=nt α a*nt α b
 | 0=>by show(0:α)=nt α a*0;grind
 | b+1=>by
  rw[Y4,nR,kY a b];show _=nt α a*(nt α b+1)
  grind
theorem zA:nt α 0=0:=rfl
theorem iV:nt α 1=1:=by show(0:α)+1=1;grind
def hs (x y:α):List Nat->α
 | []=>0
 | c::l=>nt α c*y ^ l.length+x*hs x y l
theorem L_:∀(a:Nat) (l:List Nat),(go a l).length=l.length+1
 | _,[]=>rfl
 | _,c::l=>W1 (·+1) (L_ c l)
theorem Rb (x y:α):∀(a:Nat) (l:List Nat),hs x y (go a l)=nt α a*y ^ l.length+(x+y)*hs x y l
 | a,[]=>by
  show nt α a*y ^ 0+x*0=nt α a*y ^ 0+(x+y)*0
  grind
 | a,c::l=>by
  have e:=Rb x y c l;show nt α (a+c)*y ^ (go c l).length+x*hs x y (go c l)=nt α a*y ^ (l.length+1)+(x+y)*(nt α c*y ^ l.length+x*hs x y l)
  rw[L_,e,nR,aR];grind
theorem Ma (x y:α):∀n:Nat,(x+y) ^ n=hs x y (row n)
 | 0=>by
  show _=nt α 1*y ^ 0+x*0
  rw[br,br,iV];grind
 | n+1=>by
  show _=hs x y (go 0 (row n))
  rw[Rb,aR,Ma x y n,zA];grind
theorem JA (x y:α)(p:Nat)(hp:nt α p=0):∀l:List Nat,(∀c∈l,c % p=0)->hs x y (l++[1])=x ^ l.length
 | [],_=>by
  show nt α 1*y ^ 0+x*0=x ^ 0
  rw[br,br,iV];grind
 | c::l,h=>by
  have e:=JA x y p hp l λd hd=>h d (Ye _ hd)
  obtain⟨k,hk⟩:=Nat.dvd_of_mod_eq_zero (h c Yg);show nt α c*y ^ (l++[1]).length+x*hs x y (l++[1])=x ^ (l.length+1)
  rw[e,hk,kY,hp,aR];grind
def tO (p:Nat):Bool:=(row p).head? == j? 1 && (row p).getLast? == j? 1 && ((row p).drop 1).dropLast.all (λc=>c % p == 0) && (row p).length == p+1 && decide (2<=p)
def PR:List Nat:=[2,3,5,7,11,13,17,19,23,29,31,37,41,43,47]
theorem RQ:∀p∈PR,tO p=true:=by decide +kernel
theorem JB(h:tO p=true)(hp:nt α p=0)(x y:α):(x+y) ^ p=x ^ p+y ^ p:=by
 unfold tO at h;simp only[V?,beq_iff_eq,decide_eq_true_eq,Zj] at h
 obtain⟨⟨⟨⟨h1,h2⟩,h3⟩,h4⟩,h5⟩:=h;rw[Ma];match e:row p,h1 with
 | c::t,h1=>
  rw[e] at h2 h3 h4;have c1:c=1:=by simpa using h1
  have tl:t.length=p:=by simpa using h4
  have Xn:t≠[]:=by intro z;rw[z] at tl;simp at tl;omega
  have t2:t=t.dropLast++[1]:=by
   have:=List.dropLast_concat_getLast Xn
   have gl:t.getLast Xn=1:=by
    rw[List.getLast?_cons_of_ne_nil Xn] at h2;rw[List.getLast?_eq_some_getLast Xn] at h2;simpa using h2
   rw[gl] at this;exact this.symm
  have dl:t.dropLast.length+1=p:=by rw[List.length_dropLast];omega
  show nt α c*y ^ t.length+x*hs x y t=_
  rw[tl,c1,iV];have h3:∀d∈t.dropLast,d % p=0:=h3;rw[t2,JA x y p hp t.dropLast h3];have:x*x ^ t.dropLast.length=x ^ p:=by
   rw[<- dl,aR];grind
  grind
theorem JC {p:Nat}(h:tO p=true)(hp:nt α p=0)(x y:α):∀d:Nat,(x+y) ^ (p ^ d)=x ^ (p ^ d)+y ^ (p ^ d)
 | 0=>by
  have:∀z:α,z ^ (p ^ 0)=z:=λz=>by
   rw[Wo];have:=aR z 0
   rw[br] at this;grind
  rw[this,this,this]
 | d+1=>by rw[Wi,gH,JC h hp x y d,JB h hp,<- gH,<- gH]
end
end Alg
namespace Alg
open Lean.Grind
section
variable {α:Type} [CommRing α]
theorem Hs (hF:L8 α):∀(N:Nat) (a b:aF α),aX a->Dg b N->∃g u v s t,aX g/\aX u/\aX v/\aX s/\aX t/\g=u*a+v*b/\a=s*g/\b=t*g
 | 0,a,b,ha,hb=>⟨a,1,0,1,0,ha,aX.one,aX.zero,aX.one,aX.zero,by rw[hb.Fc];grind,by grind,by rw[hb.Fc];grind⟩
 | N+1,a,b,ha,hb=>by
  by_cases z:b.c N=0
  ·refine Hs hF N a b ha λi hi=>?_
   by_cases e:i=N
   ·rw[e];exact z
   ·exact hb i (by omega)
  ·obtain⟨y,hy⟩:=hF.2 _ z
   have hm:bH (cst y*b) N:=⟨by rw[bS];grind,λi hi=>by rw[bS,hb i hi];grind⟩
   obtain⟨Na,hNa⟩:=id ha;obtain⟨q,h1,h2⟩:=DP hm Na a hNa;obtain⟨g,u,v,s,t,pg,pu,pv,ps,pt,eg,eb,er⟩:=Hs hF N b _ ⟨_,hb⟩ h2;have pq:aX q:=⟨_,h1⟩;refine⟨g,v,u-v*(q*cst y),q*cst y*s+t,s,pg,pv,pu.sub (pv.mul (pq.mul (aX.cst y))),((pq.mul (aX.cst y)).mul ps).add pt,ps,?_,?_,eb⟩
   ·grind
   ·have:a=q*(cst y*b)+t*g:=by rw[<- er];grind
    grind
theorem DS {a:aF α}(h0:a≠0):∀N:Nat,Dg a N->∃e,e<N/\a.c e≠0/\Dg a (e+1)
 | 0,h=>W3 h.Fc h0
 | N+1,h=>by
  by_cases z:a.c N=0
  ·obtain⟨e,h1,h2,h3⟩:=DS h0 N λi hi=>by
    by_cases e:i=N
    ·rw[e];exact z
    ·exact h i (by omega)
   exact⟨e,by omega,h2,h3⟩
  ·exact⟨N,by omega,z,h⟩
theorem qW (hF:L8 α)(M:Md α)(w)(hw:Dg w M.n)(h0:w≠0):
  (∃u,aX u/\Cg M.f (u*w) 1)\/∃g e,bH g e/\1<=e/\e<M.n/\∃t,aX t/\M.f=t*g:=by
 obtain⟨g,u,v,s,t,pg,pu,pv,ps,pt,eg,ef,ew⟩:=Hs hF M.n M.f w M.mon.kX hw;have g0:g≠0:=λz=>h0 (by rw[ew,z];grind)
 obtain⟨Ng,hg⟩:=id pg;obtain⟨e,_,x0,he⟩:=DS g0 Ng hg;obtain⟨y,hy⟩:=hF.2 _ x0;by_cases e0:e=0
 ·subst e0
  refine .inl ⟨cst y*v,(aX.cst y).mul pv,-(cst y*u),((aX.cst y).mul pu).neg,?_⟩
  have c1:cst y*g=1:=by
   rw[iz he,<- iU];have:y*g.c 0=1:=by grind
   rw[this];rfl
  grind
 ·refine .inr ⟨cst y*g,e,⟨by rw[bS];grind,λi hi=>by rw[bS,he i hi];grind⟩,by omega,?_,s*cst (g.c e),ps.mul (aX.cst _),?_⟩
  ·have t0:t≠0:=λz=>h0 (by rw[ew,z];grind)
   obtain⟨Nt,ht⟩:=id pt;obtain⟨k,_,tk,hk⟩:=DS t0 Nt ht;have e1:=(iT g e he k t hk).1;rw[<- ew] at e1;refine Y? λc=>?_
   rw[hw (k+e) (by omega)] at e1
   rcases hF.dom _ _ e1.symm with z|z
   ·exact tk z
   ·exact x0 z
  ·have c1:cst (g.c e)*cst y=1:=by
    rw[<- iU,hy];rfl
   have:s*cst (g.c e)*(cst y*g)=s*g*(cst (g.c e)*cst y):=by grind
   rw[this,c1,<- ef];grind
theorem least {P:Nat->Prop}(n)(h:P n):∃m,P m/\∀k,k<m->¬ P k:=by
 refine Y? λc=>?_
 have all:∀n,¬ P n:=λn=>by
  induction n using Nat.strongRecOn with
  | _ n ih=>exact λhp=>c ⟨n,hp,ih⟩
 exact all n h
theorem JD{a b:aF α}(hb:aX b)(h:Cg M.f a b):Qt.of M a=Qt.of M b:=by
 apply Qt.ext
 exact rest_eq (cJ _ _) (h.trans (cS hb))
def O_ (M:Md α):Prop:=∀w,Dg w M.n->w≠0->∃u,aX u/\Cg M.f (u*w) 1
theorem Ht {M:Md α}(h1:(1:α)≠0)(h:O_ M):L8 (Qt M):=by
 refine⟨λz=>?_,λx hx=>?_⟩
 ·have e:=W1 (λx:Qt M=>x.s.c 0) z
  exact h1 e
 ·obtain⟨u,hu,hc⟩:=h x.s x.lt λz=>hx (Qt.ext z)
  refine⟨Qt.of M u,?_⟩
  have e:=JD aX.one hc;rw[ua hu x.kX,KQ,v_] at e;grind
theorem Mb {M:Md α}:∀n:Nat,nt (Qt M) n=Qt.of M (cst (nt α n))
 | 0=>by
  show(0:Qt M)=Qt.of M (cst 0)
  rw[dh,zx]
 | n+1=>by
  show nt (Qt M) n+1=Qt.of M (cst (nt α n+1))
  rw[zy,Hq (aX.cst _) (aX.cst _),Mb n,jR,v_]
theorem DT {M:Md α}(h:nt α p=0):nt (Qt M) p=0:=by rw[Mb,h,dh,zx]
noncomputable def mp (M:Md α)(a:aF α):aF (Qt M):=⟨λi=>Qt.of M (cst (a.c i))⟩
theorem Fv {M:Md α}:∀(N:Nat) (a:aF α),Dg a N->Qt.of M a=ev N (mp M a) (Qt.of M X)
 | 0,a,h=>by rw[h.Fc,zx];rfl
 | N+1,a,h=>by
  have e:=Fv (M:=M) N (tl a) h.tl;have hs:a=cst (a.c 0)+X*tl a:=split0 a;have e2:Qt.of M a=Qt.of M (cst (a.c 0))+Qt.of M X*Qt.of M (tl a):=by
   have h2:=W1 (Qt.of M) hs;rw[Hq (aX.cst _) (aX.X.mul ⟨_,h.tl⟩),ua aX.X ⟨_,h.tl⟩] at h2;exact h2
  rw[e2,e];rfl
theorem lN {β:Type}[CommRing β](h:0<q):(0:β) ^ q=0:=by
 obtain⟨k,rfl⟩:∃k,q=k+1:=⟨q-1,by omega⟩
 rw[aR];grind
theorem JE {M:Md α}{q:Nat}(q0:0<q)(hq:∀c:α,c ^ q=c)(ha:∀x y:Qt M,(x+y) ^ q=x ^ q+y ^ q)(y:Qt M):∀(N:Nat) (a:aF α),(ev N (mp M a) y) ^ q=ev N (mp M a) (y ^ q)
 | 0,a=>lN q0
 | N+1,a=>by
  have e:=JE q0 hq ha y N (tl a);have c1:Qt.of M (cst (a.c 0)) ^ q=Qt.of M (cst (a.c 0)):=by rw[<- wc (aX.cst _),<- sO,hq]
  show(Qt.of M (cst (a.c 0))+y*ev N (mp M (tl a)) y) ^ q=Qt.of M (cst (a.c 0))+y ^ q*ev N (mp M (tl a)) (y ^ q)
  rw[ha,zS,e,c1]
theorem qX {β:Type}[CommRing β](x:β):x ^ 1=x:=by
 have:=aR x 0
 rw[br] at this;have e:(0+1:Nat)=1:=rfl;rw[e] at this;rw[this];grind
theorem uZ {M:Md α}{q:Nat}(q0:0<q)(hq:∀c:α,c ^ q=c)(ha:∀x y:Qt M,(x+y) ^ q=x ^ q+y ^ q)(y:Qt M)(N:Nat)(a:aF α):∀i:Nat,(ev N (mp M a) y) ^ (q ^ i)=ev N (mp M a) (y ^ (q ^ i))
 | 0=>by rw[Wo,qX,qX]
 | i+1=>by rw[Wi,gH,uZ q0 hq ha y N a i,JE q0 hq ha,<- gH]
theorem wg {β:Type}[CommRing β]{x:β}{q m:Nat}(h:x ^ (q ^ m)=x):∀a:Nat,x ^ (q ^ (m*a))=x
 | 0=>by rw[Wh,Wo,qX]
 | a+1=>by rw[Y4,Nat.pow_add,gH,wg h a,h]
def B4 (r:Nat):Prop:=2<=r/\∀m,m ∣ r->m=1\/m=r
theorem UW:∀k:Nat,2<=k->∃r,B4 r/\r ∣ k:=λk=>by
 induction k using Nat.strongRecOn with
 | _ k ih=>
  intro hk;by_cases c:∃m,m ∣ k/\m≠1/\m≠k
  ·obtain⟨m,h1,h2,h3⟩:=c
   have le:=Nat.le_of_dvd (by omega) h1
   have m0:m≠0:=λz=>by rw[z] at h1;have:=Nat.eq_zero_of_zero_dvd h1;omega
   obtain⟨r,h4,h5⟩:=ih m (by omega) (by omega)
   exact⟨r,h4,Nat.dvd_trans h5 h1⟩
  ·refine⟨k,⟨hk,λm hm=>?_⟩,Nat.dvd_refl k⟩
   by_cases a:m=1
   ·exact .inl a
   ·by_cases b:m=k
    ·exact .inr b
    ·exact W3 ⟨m,hm,a,b⟩ c
theorem C1 {β:Type}{f:Nat->β}(h:∀i j,i<j->j<n->f i≠f j):((Yi n).map f).Nodup:=by
 refine List.pairwise_map.mpr ?_
 refine List.Pairwise.imp_of_mem (λ{a b} ha hb hab=>?_) List.pairwise_lt_range
 exact h a b hab (List.mem_range.mp hb)
theorem RS(h:m*k=n)(n0:0<n)(c:¬ m=n):2<=k:=by
 match k with
 | 0=>rw[Wh] at h;omega
 | 1=>rw[Nat.mul_one] at h;omega
 | k+2=>omega
theorem Fw {β:Type}[CommRing β](x:β):x-x=0:=by grind
theorem KR {β:Type}[CommRing β](f s:β):s=0*f+s:=by grind
theorem zB {β:Type}[CommRing β]:(1:β)*1=1:=by grind
theorem Fx[CommRing β](s:aF β):cst 1*s=s:=by rw[jR];grind
theorem KS {β:Type}[CommRing β](x y:β):x*0+y*0=0:=by grind
theorem UX (hF:L8 α)(hp:tO p=true)(hc:nt α p=0)(hq:∀c:α,c ^ (p ^ d)=c)(M)(h1:Cg M.f ((X:aF α) ^ ((p ^ d) ^ M.n)) X)
  (h2:∀r,B4 r->r ∣ M.n->∃u v,aX u/\aX v/\u*M.f+v*((X:aF α) ^ ((p ^ d) ^ (M.n / r))-X)=1):O_ M:=by
 intro w hw hw0;rcases qW hF M w hw hw0 with h|h
 ·exact h
 exfalso
 have p2:2<=p:=by
  unfold tO at hp;simp only[V?,beq_iff_eq,decide_eq_true_eq] at hp
  exact hp.2
 have q0:0<p ^ d:=Nat.pow_pos (by omega)
 generalize eq:p ^ d=q at h1 h2 hq q0;obtain⟨g0,e0,a1,a2,a3,t0,a4,a5⟩:=h;obtain⟨e,⟨g,hg,e1,t,pt,ef⟩,hmin⟩:=least (P:=λe=>∃g,bH g e/\1<=e/\∃t,aX t/\M.f=t*g) e0 ⟨g0,a1,a2,t0,a4,a5⟩
 have en:e<M.n:=by
  refine Nat.lt_of_le_of_lt ?_ a3
  refine Wp λc=>hmin e0 c ⟨g0,a1,a2,t0,a4,a5⟩
 let G:Md α:=⟨g,e,hg,e1⟩
 have Pa:O_ G:=λv hv v0=>by
  rcases qW hF G v hv v0 with h|⟨g',e',b1,b2,b3,s,ps,b4⟩
  ·exact h
  ·refine W3 ⟨g',b1,b2,t*s,pt.mul ps,?_⟩ (hmin e' b3)
   have b4:g=s*g':=b4;rw[ef,b4];grind
 have hK:L8 (Qt G):=Ht hF.1 Pa;have ad:∀x y:Qt G,(x+y) ^ q=x ^ q+y ^ q:=λx y=>by rw[<- eq];exact JC hp (DT hc) x y d
 let ξ:Qt G:=Qt.of G X
 have Rc:∀k:Nat,Qt.of G (X ^ k)=ξ ^ k:=λk=>wc aX.X k
 have ff:Qt.of G M.f=0:=by
  rw[ef,ua pt hg.kX];have:Qt.of G g=0:=UU (M:=G)
  rw[this];grind
 have hn:ξ ^ (q ^ M.n)=ξ:=by
  rw[<- Rc];refine JD (M:=G) aX.X ?_
  obtain⟨k,pk,ek⟩:=h1;refine⟨k*t,pk.mul pt,?_⟩
  rw[ek,ef];show k*(t*g)=k*t*g
  grind
 obtain⟨m,⟨m1,hm⟩,RT⟩:=least (P:=λm=>1<=m/\ξ ^ (q ^ m)=ξ) M.n ⟨M.pos,hn⟩
 have mle:m<=M.n:=Wp λc=>RT M.n c ⟨M.pos,hn⟩
 have hb:M.n % m=0:=by
  refine Y? λc=>?_
  refine RT (M.n % m) (Wv _ (by omega)) ⟨by omega,?_⟩
  have:ξ ^ (q ^ (m*(M.n / m)+M.n % m))=ξ:=by rw[Y5];exact hn
  rw[Nat.pow_add,gH,wg hm] at this;exact this
 have emn:m=M.n:=by
  refine Y? λc=>?_
  have dv:m*(M.n / m)=M.n:=by have:=Y5 M.n m;omega
  have k2:2<=M.n / m:=RS dv M.pos c;obtain⟨r,hr,k,hk⟩:=UW (M.n / m) k2;have nr:M.n=r*(m*k):=by rw[<- dv,hk];grind
  have r0:0<r:=by have:=hr.1;omega
  have dr:M.n / r=m*k:=by rw[nr];exact Nat.mul_div_cancel_left _ r0
  obtain⟨u,v,pu,pv,huv⟩:=h2 r hr ⟨_,nr⟩;rw[dr] at huv;have z:=W1 (Qt.of G) huv;rw[Hq (pu.mul M.mon.kX) (pv.mul ((aX.X.pow _).sub aX.X)),ua pu M.mon.kX,ua pv ((aX.X.pow _).sub aX.X),L6 (aX.X.pow _) aX.X,ff,Rc,v_,wg hm] at z;refine hK.1 ?_
  have:(1:Qt G)=Qt.of G u*0+Qt.of G v*(ξ-Qt.of G X):=z.symm
  have e3:ξ-Qt.of G X=0:=Fw ξ;rw[e3] at this;rw[this];exact KS _ _
 subst emn;have dis:∀i j,i<j->j<e+1->ξ ^ (q ^ i)≠ξ ^ (q ^ j):=λi j hij hj z=>by
  have z2:=W1 (λx:Qt G=>x ^ (q ^ (M.n-j))) z
  have z3:(ξ ^ (q ^ i)) ^ (q ^ (M.n-j))=(ξ ^ (q ^ j)) ^ (q ^ (M.n-j)):=z2;rw[<- gH,<- gH,<- Nat.pow_add,<- Nat.pow_add] at z3;have:j+(M.n-j)=M.n:=by omega
  rw[this,hn] at z3;exact RT (i+(M.n-j)) (by omega) ⟨by omega,z3⟩
 have zz:mp G g=0:=by
  refine we hK.dom e (mp G g) ((Yi (e+1)).map λi=>ξ ^ (q ^ i)) (λi hi=>?_) (by simp) (C1 dis) λy hy=>?_
  ·show Qt.of G (cst (g.c i))=0
   rw[hg.dg i hi,dh,zx]
  ·obtain⟨i,_,rfl⟩:=List.mem_map.mp hy
   rw[<- uZ q0 hq ad ξ (e+1) g i,<- Fv (M:=G) (e+1) g hg.dg];have:Qt.of G g=0:=UU (M:=G)
   rw[this];exact lN (Nat.pow_pos q0)
 have z1:(mp G g).c e=0:=by rw[zz];rfl
 have z2:(mp G g).c e=1:=by
  show Qt.of G (cst (g.c e))=1
  rw[hg.top,jR,v_]
 exact hK.1 (z2.symm.trans z1)
theorem RU(hp:tO p=true)(hc:nt α p=0)(hq:∀c:α,c ^ (p ^ d)=c)(M)(h1:Cg M.f ((X:aF α) ^ ((p ^ d) ^ M.n)) X)(x:Qt M):x ^ (p ^ (d*M.n))=x:=by
 have p2:2<=p:=by
  unfold tO at hp;simp only[V?,beq_iff_eq,decide_eq_true_eq] at hp
  exact hp.2
 have q0:0<p ^ d:=Nat.pow_pos (by omega)
 have ad:∀x y:Qt M,(x+y) ^ (p ^ d)=x ^ (p ^ d)+y ^ (p ^ d):=λx y=>JC hp (DT hc) x y d
 have e:=uZ q0 hq ad (Qt.of M X) M.n x.s M.n;rw[<- Fv (M:=M) M.n x.s x.lt,KQ] at e;rw[Nat.pow_mul,e];have:Qt.of M X ^ ((p ^ d) ^ M.n)=Qt.of M X:=by
  rw[<- wc aX.X];exact JD aX.X h1
 rw[this,<- Fv (M:=M) M.n x.s x.lt,KQ]
theorem sP {β:Type}[CommRing β](x:β):1*x=x:=by grind
theorem wj {β:Type}[CommRing β](x:β):x*1=x:=by grind
theorem wk {β:Type}[CommRing β](y z:β)(h:l % 2=0):y*z ^ l=y*(z*z) ^ (l / 2):=by
 have e:l=2*(l / 2):=by omega
 have e2:z ^ (2*(l / 2))=(z*z) ^ (l / 2):=by
  rw[gH];have:z ^ 2=z*z:=by
   rw[show(2:Nat)=1+1 from rfl,aR,qX]
  rw[this]
 rw[<- e2,<- e]
theorem Fy {β:Type}[CommRing β](y z:β)(h:l % 2=1):y*z ^ l=(y*z)*(z*z) ^ (l / 2):=by
 have e:l=(l-1)+1:=by omega
 have h2:=wk y z (l:=l-1) (by omega)
 have e3:(l-1) / 2=l / 2:=by omega
 rw[e3] at h2;have e4:y*z ^ l=y*z ^ (l-1)*z:=by
  have:z ^ l=z ^ (l-1)*z:=by
   have:=aR z (l-1)
   rw[<- e] at this;exact this
  rw[this];grind
 rw[e4,h2];grind
theorem Cg.pow {f a b:aF α}(hb:aX b)(ha:aX a)(h:Cg f a b):∀n:Nat,Cg f (a ^ n) (b ^ n)
 | 0=>by rw[br,br];exact Cg.refl _ _
 | n+1=>by rw[aR,aR];exact Cg.mul (hb.pow n) ha (Cg.pow hb ha h n) h
theorem Cg.Hu {f s x y:aF α}(hx:aX x)(e:s=x*f+y):Cg f s y:=⟨x,hx,by rw[e];grind⟩
theorem u5 {s t:aF α}(ds:Dg s n)(dt:Dg t m):Dg (s*t) (if n=0\/m=0 then 0 else n+m-1):=by
 by_cases a:n=0
 ·subst a
  have:s*t=0:=by rw[ds.Fc];grind
  rw[this];exact Dg.zero _
 ·by_cases b:m=0
  ·subst b
   have:s*t=0:=by rw[dt.Fc];grind
   rw[this];exact Dg.zero _
  ·rw[Ww (by omega)]
   have:=(iT t (m-1) (by rw[show m-1+1=m by omega];exact dt) (n-1) s (by rw[show n-1+1=n by omega];exact ds)).2
   exact this.mono (by omega)
theorem RV {f a b y z u v:aF α}(pu:aX u)(pv:aX v)(ha:Cg f a y)(hb:Cg f b z)(h:1=u*f+v*(y-z)):∃u v,aX u/\aX v/\u*f+v*(a-b)=1:=by
 obtain⟨q1,p1,e1⟩:=ha;obtain⟨q0,p0,e0⟩:=hb;refine⟨u-v*(q1-q0),v,pu.sub (pv.mul (p1.sub p0)),pv,?_⟩
 grind
theorem Pb {f a b y z g u v e1 e2:aF α}(h1:(1:α)≠0)(ha:Cg f a y)(hb:Cg f b z)(pu:aX u)(pv:aX v)(h:u*f+v*(a-b)=1)(hg:bH g k)(p1:aX e1)(p2:aX e2)(l:f=e1*g)(r:y-z=e2*g):k=0/\g=1:=by
 obtain⟨q1,pq1,w1⟩:=ha;obtain⟨q0,pq0,w0⟩:=hb;have e:1=(u*e1+v*(e2+(q1-q0)*e1))*g:=by grind
 have pe:aX (u*e1+v*(e2+(q1-q0)*e1)):=(pu.mul p1).add (pv.mul (p2.add ((pq1.sub pq0).mul p1)));generalize u*e1+v*(e2+(q1-q0)*e1)=E at e pe;have k0:k=0:=by
  refine Y? λc=>?_
  obtain⟨N,hN⟩:=pe;have z:=zT hg N E hN (by rw[<- e];exact Dg.one.mono (by omega))
  rw[z] at e;have e':(1:aF α)=0:=by grind
  exact h1 (W1 (λs:aF α=>s.c 0) e')
 subst k0;refine⟨rfl,?_⟩
 rw[iz hg.dg,hg.top];rfl
theorem Fz (hD:Dom α){x:α}(h2:2<=q)(h:x ^ q=x)(x0:x≠0)(n):x ^ (n % (q-1))=x ^ n:=by
 have e1:x ^ (q-1)=1:=by
  have e:x*(x ^ (q-1)-1)=0:=by
   have:x ^ q=x ^ (q-1)*x:=by
    have:=aR x (q-1)
    rw[show q-1+1=q by omega] at this
    exact this
   rw[this] at h;grind
  rcases hD _ _ e with z|z
  ·exact W3 z x0
  ·grind
 have:n=(q-1)*(n / (q-1))+n % (q-1):=(Y5 _ _).symm
 have e2:x ^ n=x ^ ((q-1)*(n / (q-1))+n % (q-1)):=by rw[<- this]
 rw[e2,DN,gH,e1,DO];grind
theorem pT {x y:α}(h:x*y=1):y*x=1:=by grind
theorem pW (y:α):y*0=0:=by grind
theorem Mc (x y f z:aF α):x*(y*f)+z=y*x*f+z:=by grind
structure LZ (s t s' t':aF α):Prop where
 a:∃u v,aX u/\aX v/\s'=u*s+v*t
 b:∃u v,aX u/\aX v/\t'=u*s+v*t
 c:∃u v,aX u/\aX v/\s=u*s'+v*t'
 d:∃u v,aX u/\aX v/\t=u*s'+v*t'
theorem LZ.refl (s t:aF α):LZ s t s t:=⟨⟨1,0,aX.one,aX.zero,by grind⟩,⟨0,1,aX.zero,aX.one,by grind⟩,⟨1,0,aX.one,aX.zero,by grind⟩,⟨0,1,aX.zero,aX.one,by grind⟩⟩
theorem LZ.step {s t s' t' x r:aF α}(h:LZ s t s' t')(hx:aX x)(e:s'=x*t'+r):LZ s t t' r:=by
 obtain⟨⟨u1,v1,p1,p2,e1⟩,⟨u2,v2,p3,p4,e2⟩,⟨u3,v3,p5,p6,e3⟩,⟨u4,v4,p7,p8,e4⟩⟩:=h;refine⟨⟨u2,v2,p3,p4,e2⟩,⟨u1-x*u2,v1-x*v2,p1.sub (hx.mul p3),p2.sub (hx.mul p4),by grind⟩,⟨u3*x+v3,u3,(p5.mul hx).add p6,p5,by grind⟩,⟨u4*x+v4,u4,(p7.mul hx).add p8,p7,by grind⟩⟩
theorem LZ.last{x y:α}(h:LZ s t s' 0)(hxy:x*y=1):(∃u v,aX u/\aX v/\cst y*s'=u*s+v*t)/\(∃e,aX e/\s=e*(cst y*s'))/\∃e,aX e/\t=e*(cst y*s'):=by
 obtain⟨⟨u1,v1,p1,p2,e1⟩,_,⟨u3,v3,p5,p6,e3⟩,⟨u4,v4,p7,p8,e4⟩⟩:=h;have c1:cst x*cst y=1:=by rw[<- iU,hxy];rfl
 refine⟨⟨cst y*u1,cst y*v1,(aX.cst y).mul p1,(aX.cst y).mul p2,by grind⟩,⟨u3*cst x,p5.mul (aX.cst x),?_⟩,⟨u4*cst x,p7.mul (aX.cst x),?_⟩⟩
 ·have:u3*cst x*(cst y*s')=u3*s'*(cst x*cst y):=by grind
  rw[this,c1];grind
 ·have:u4*cst x*(cst y*s')=u4*s'*(cst x*cst y):=by grind
  rw[this,c1];grind
theorem FA (hD:Dom α)(h1:(1:α)≠0){f x r1 r2 q r3 U V:aF α}(mx:LZ f x r1 r2)(pU:aX U)(pV:aX V)(hu:1=U*f+V*x)(pq:aX q)(e:r1=q*r2+r3)(hd:1<=d)(dg:Dg r2 (d+1))(ld:r2.c d≠0):r3≠0:=λz=>by
 subst z;obtain⟨_,_,⟨u3,v3,p5,p6,e3⟩,⟨u4,v4,p7,p8,e4⟩⟩:=mx.step pq e;have eE:1=(U*u3+V*u4)*r2:=by grind
 have pE:aX (U*u3+V*u4):=(pU.mul p5).add (pV.mul p7);generalize U*u3+V*u4=E at eE pE;have E0:E≠0:=λz=>by
  rw[z] at eE;have e':(1:aF α)=0:=by grind
  exact h1 (W1 (λs:aF α=>s.c 0) e')
 obtain⟨N,hN⟩:=pE;obtain⟨k,_,hk,dk⟩:=DS E0 N hN;have t:=(iT r2 d dg k E dk).1;rw[<- eE,UT,Ww (by omega)] at t
 rcases hD _ _ t.symm with y|y
 ·exact hk y
 ·exact ld y
theorem Pc(px:aX x)(pb:aX b)(pa:aX a)(pq:aX q){r s t:aF α}(ha:Cg f (x*a) r)(hb:Cg f (x*b) s)(e:r=q*s+t):Cg f (x*(a-q*b)) t:=by
 obtain⟨u,pu,eu⟩:=ha;obtain⟨v,pv,ev⟩:=hb;exact⟨u-q*v,pu.sub (pq.mul pv),by grind⟩
theorem Pd (f x:aF α):Cg f (x*0) f:=⟨-1,aX.one.neg,by grind⟩
theorem Hv(h:O_ M){x:aF α}(dx:Dg x M.n)(x0:x≠0):∃U V,aX U/\aX V/\1=U*M.f+V*x:=by
 obtain⟨u,pu,q,pq,e⟩:=h x dx x0;exact⟨-q,u,pq.neg,pu,by grind⟩
theorem Me{y:α}(dx)(pf:aX f2)(hc:Cg M.f (x*f2) r2)(d1:Dg r2 1)(hy:r2.c 0*y=1):(⟨x,dx⟩:Qt M)*Qt.of M (cst y*f2)=1:=by
 have px:aX x:=⟨_,dx⟩;have e:(⟨x,dx⟩:Qt M)=Qt.of M x:=(KQ (⟨x,dx⟩:Qt M)).symm;rw[e,<- ua px ((aX.cst y).mul pf),<- v_];refine JD aX.one ?_
 have e2:x*(cst y*f2)=cst y*(x*f2):=by grind
 have e3:cst y*r2=1:=by
  rw[iz d1,<- iU];have:y*r2.c 0=1:=by grind
  rw[this];rfl
 rw[e2,<- e3];exact Cg.mul (aX.cst y) (px.mul pf) (Cg.refl _ _) hc
end
end Alg
namespace L2
open PySem PySem.Spec PyProof.Rows
abbrev Key:=Sum Int Str
def Rf:Key->l?->Bool
 | .inl k,v=>Value.isInt k v
 | .inr x,v=>Value.isStrOf x v
def YE (w:H?):Key->Int
 | .inl k=>hashInt k
 | .inr x=>hashStr w x
theorem dY:∀ {k:Key} {v:l?},Rf k v=true->(∃i t,k=Sum.inl i/\v=Value.int i t)\/(∃x t,k=Sum.inr x/\v=Value.str x t)
 | .inl i,v,h=>by
  obtain⟨t,e⟩:=Value.isInt_shape (k:=i) (v:=v) h;exact .inl ⟨i,t,rfl,e⟩
 | .inr x,v,h=>by
  obtain⟨t,e⟩:=Value.isStrOf_shape (x:=x) (v:=v) h;exact .inr ⟨x,t,rfl,e⟩
theorem RW (a b):decide ((Sum.inl a:Key)=Sum.inl b)=(a == b):=by
 by_cases e:a=b
 ·subst e;simp
 ·have h:¬ (Sum.inl a:Key)=Sum.inl b:=λq=>e (Sum.inl.inj q)
  rw[W0 h];exact(beq_eq_false_iff_ne.mpr e).symm
theorem RX (a b):decide ((Sum.inr a:Key)=Sum.inr b)=decide (a=b):=by
 by_cases e:a=b
 ·subst e;simp
 ·have h:¬ (Sum.inr a:Key)=Sum.inr b:=λq=>e (Sum.inr.inj q)
  rw[W0 h,W0 e]
theorem RY (a)(b):decide ((Sum.inl a:Key)=Sum.inr b)=false:=W0 (λq=>nomatch q)
theorem RZ (a)(b):decide ((Sum.inr a:Key)=Sum.inl b)=false:=W0 (λq=>nomatch q)
def JF (prog:F?)(w:H?):PySem.KeyKind prog w Key where
 is:=Rf
 hash:=YE w
 inj:=λv a b ha hb=>by
  rcases dY ha with ⟨i,t,rfl,rfl⟩|⟨x,t,rfl,rfl⟩
  ·rcases dY hb with ⟨j,u,rfl,e⟩|⟨y,u,rfl,e⟩
   ·injection e with e1 _;rw[e1]
   ·exact nomatch e
  ·rcases dY hb with ⟨j,u,rfl,e⟩|⟨y,u,rfl,e⟩
   ·exact nomatch e
   ·injection e with e1 _;rw[e1]
 byValue:=λk v h=>by
  rcases dY h with ⟨i,t,rfl,rfl⟩|⟨x,t,rfl,rfl⟩ <;> rfl
 pyHash:=λhv h=>by
  rcases dY hv with ⟨i,t,rfl,rfl⟩|⟨x,t,rfl,rfl⟩
  ·exact wpAny_pyHash_int h
  ·exact wpAny_pyHash_str h
 eqBool:=λhu hv h=>by
  rcases dY hu with ⟨i,t,rfl,rfl⟩|⟨x,t,rfl,rfl⟩
  ·rcases dY hv with ⟨j,u,rfl,rfl⟩|⟨y,u,rfl,rfl⟩
   ·rw[RW] at h;exact wpAny_eqBool_int h
   ·rw[RY] at h;exact SeqAt.EqAt.int_str i t y u _ _ _ _ h
  ·rcases dY hv with ⟨j,u,rfl,rfl⟩|⟨y,u,rfl,rfl⟩
   ·rw[RZ] at h;exact SeqAt.EqAt.str_int x t j u _ _ _ _ h
   ·rw[RX] at h;exact wpAny_eqBool_str h
 «strs»:=λk x t v h=>by
  rcases dY h with ⟨i,u,rfl,e⟩|⟨y,u,rfl,e⟩
  ·exact nomatch e
  ·injection e with e1 _
   subst e1;cases v <;> rfl
inductive V where
 | d8|bl (b:Bool)|int (i:Int)|str (x:Str)|byt (b:Array UInt8)|flt (b:UInt64)|ref (a:o?)|ty (n:String)
 deriving DecidableEq
def RelV:V->l?->Prop
 | .d8,u=>u=Value.none
 | .bl b,u=>u=Value.bool b
 | .int i,u=>∃t,u=Value.int i t
 | .str x,u=>∃t,u=Value.str x t
 | .byt b,u=>∃t,u=Value.bytes b t
 | .flt b,u=>∃t,u=Value.float b t
 | .ref a,u=>u=K! a
 | .ty n,u=>u=Value.type n
abbrev Vals:List V->List l?->Prop:=Paired RelV
theorem Vals.length(r:Vals xs us):xs.length=us.length:=Paired.length r
theorem Vals.get:∀ {xs:List V} {us:List l?} {i:Nat} {x:V},Vals xs us->xs[i]?=j? x->∃u,us[i]?=j? u/\RelV x u
 | _,_,_,_,.nil,e=>by simp at e
 | _,_,0,_,.cons r _,e=>by simp at e;subst e;exact⟨_,rfl,r⟩
 | _,_,i+1,x,.cons _ t,e=>by
  obtain⟨u,h1,h2⟩:=Vals.get (i:=i) (x:=x) t (by simpa using e)
  exact⟨u,by simpa using h1,h2⟩
theorem Vals.set {x:V}{u:l?}(r:RelV x u):∀ {xs:List V} {us:List l?} (i:Nat),Vals xs us->Vals (xs.set i x) (us.set i u)
 | _,_,_,.nil=>.nil
 | _,_,0,.cons _ t=>.cons r t
 | _,_,i+1,.cons q t=>.cons q (Vals.set r i t)
theorem Vals.append:∀ {xs ys:List V} {us ws:List l?},Vals xs us->Vals ys ws->Vals (xs++ys) (us++ws)
 | _,_,_,_,.nil,s=>s
 | _,_,_,_,.cons r t,s=>.cons r (Vals.append t s)
theorem Vals.take:∀ {xs:List V} {us:List l?} (n:Nat),Vals xs us->Vals (xs.take n) (us.take n)
 | _,_,0,_=>.nil
 | _,_,_+1,.nil=>.nil
 | _,_,n+1,.cons r t=>.cons r (Vals.take n t)
theorem Vals.drop:∀ {xs:List V} {us:List l?} (n:Nat),Vals xs us->Vals (xs.drop n) (us.drop n)
 | _,_,0,r=>r
 | _,_,_+1,.nil=>.nil
 | _,_,n+1,.cons _ t=>Vals.drop n t
def B5:Option V->Option l?->Prop
 | some v,j? u=>RelV v u
 | none,q?=>True
 | _,_=>False
def KV {κ:Type}:List (κ×V)->List (κ×l?)->Prop:=Paired λ(p:κ×V) (q:κ×l?)=>p.1=q.1/\RelV p.2 q.2
def kV:Key->V
 | .inl i=>.int i
 | .inr x=>.str x
inductive HO where
 | lst (xs:List V)
 | tup (xs:List V)
 | dK (kvs:List (Key×V))|dT (kvs:List (List Key×V))
 | set (S:Int->Bool) (n:Nat)
 | ins (C dx:o?) (fs:List (Str×V))
 | own (x:o?)
 | xd (fs:List (Str×V))
 | met (f x:o?)
 | YF (lo hi:Int)
 | OS (o:Obj) (u:HO)
 | zU (ps:Array l?)
 | ext (φ:Q?->Prop)
abbrev Hp:=o?->Option HO
def upd (H:Hp)(a:o?)(o:HO):Hp:=λb=>if b=a then j? o else H b
theorem aq:upd H a o a=j? o:=by unfold upd;rw[Wx rfl]
theorem aH(h:b≠a):upd H a o b=H b:=by unfold upd;rw[Ww h]
theorem aL {H:Hp}(h:H a=j? o)(h':H b=q?):a≠b:=by
 intro e;subst e;rw[h] at h';cases h'
section
variable (P:F?) (w:H?)
def lI (H:Hp)(h:Q?)(a:o?):HO->Prop
 | .lst xs=>xs.length<=K?/\∃(its:List l?) (n:Nat),Vals xs its/\h.get? a=j? { cls:=.type "list",data:=.seq its.toArray n }
 | .tup xs=>xs.length<=K?/\∃its:List l?,Vals xs its/\IsTup h a its.toArray
 | .dK kvs=>kvs.length<=K?/\(a == sysModules)=false/\∃vs,KV kvs vs/\h.DictOf (JF P w) a vs
 | .dT kvs=>kvs.length<=K?/\(a == sysModules)=false/\∃xs:List (List Key×o?×l?),
   Paired (λ(p:List Key×V) (q:List Key×o?×l?)=>p.1=q.1/\H q.2.1=j? (.tup (p.1.map kV))/\RelV p.2 q.2.2) kvs xs/\
   ∃o es ep,h.get? a=j? o/\o.ExactDict/\o.data=.dict es ep/\es.toList=xs.map (entryOfKey (tupleKind (JF P w)))/\(xs.map (·.1)).Nodup
 | .set S n=>h.SetOf (intKind P w) a S n
 | .ins C dx fs=>H dx=j? (.own a)/\fs.length<=1000/\dx≠a/\h.get? a=j? (PySem.W.instObj C dx)/\
   ∃mA,h.Ns1 dx mA/\(∀f,B5 (fs.lookup f) (mA f))/\PySem.Within mA (fs.map (·.1))
 | .own _=>∃o,h.get? a=j? o
 | .xd fs=>∃mA,h.Ns1 a mA/\∀f,B5 (fs.lookup f) (mA f)
 | .YF lo hi=>∃t u v,h.get? a=j? { cls:=.type "range",data:=.fields #[.int lo t,.int hi u,.int 1 v] }
 | .OS o u=>h.get? a=j? o/\lI H h a u
 | .zU ps=>h.get? a=j? { cls:=.none,data:=.fields ps }
 | .met f x=>h.get? a=j? (PySem.W.methodObj (.ref f) (.ref x))
 | .ext φ=>φ h/\(∃o,h.get? a=j? o)/\∀h1 h2:Q?,φ h1->(∀o,h1.get? a=j? o->h2.get? a=j? o)->φ h2
def yc (H:Hp)(h:Q?):Prop:=∀a o,H a=j? o->lI P w H h a o
end
section
variable {P:F?} {w:H?} {H H':Hp} {h h':Q?} {a:o?} {o:HO}
theorem lI.lt (x:lI P w H h a o):a<h.objs.size:=by
 cases o with
 | lst xs=>obtain⟨_,_,_,_,e⟩:=x;exact Yl e
 | tup xs=>obtain⟨_,_,_,p⟩:=x;exact p.lt
 | dK kvs=>obtain⟨_,_,_,_,o,_,_,e,_⟩:=x;exact Yl e
 | dT kvs=>obtain⟨_,_,_,_,o,_,_,e,_⟩:=x;exact Yl e
 | set S n=>obtain⟨o,_,_,_,e,_⟩:=x;exact Yl e
 | ins C dx fs=>obtain⟨_,_,_,e,_⟩:=x;exact Yl e
 | own y=>obtain⟨_,e⟩:=x;exact Yl e
 | xd fs=>obtain⟨_,⟨_,_,_,e,_⟩,_⟩:=x;exact Yl e
 | YF lo hi=>obtain⟨_,_,_,e⟩:=x;exact Yl e
 | OS ob u=>obtain⟨e,_⟩:=x;exact Yl e
 | zU ps=>exact Yl (show h.get? a=j? _ from x)
 | met f y=>exact Yl (show h.get? a=j? _ from x)
 | ext φ=>obtain⟨_,⟨_,e⟩,_⟩:=x;exact Yl e
theorem Paired.UY {α β:Type}{F G:α->β->Prop}:∀ {l₁:List α} {l₂:List β},Paired F l₁ l₂->(∀a b,F a b->G a b)->Paired G l₁ l₂
 | _,_,.nil,_=>.nil
 | _,_,.cons r t,f=>.cons (f _ _ r) (Paired.UY t f)
theorem lI.stay (x:lI P w H h a o)(k:∀b u,(b=a\/H b=j? (.own a))->h.get? b=j? u->h'.get? b=j? u)
  (ho:∀b,H b=j? (.own a)->H' b=j? (.own a)) (ht:∀b xs,H b=j? (.tup xs)->H' b=j? (.tup xs)):lI P w H' h' a o:=by
 induction o with
 | lst xs=>obtain⟨z,its,n,r,e⟩:=x;exact⟨z,its,n,r,k _ _ (.inl rfl) e⟩
 | tup xs=>obtain⟨z,its,r,ob,e,c⟩:=x;exact⟨z,its,r,ob,k _ _ (.inl rfl) e,c⟩
 | dK kvs=>obtain⟨z,y,vs,r,ob,es,ep,e,c⟩:=x;exact⟨z,y,vs,r,ob,es,ep,k _ _ (.inl rfl) e,c⟩
 | dT kvs=>
  obtain⟨z,y,xs,r,ob,es,ep,e,c⟩:=x;exact⟨z,y,xs,Paired.UY r λp q z=>⟨z.1,ht _ _ z.2.1,z.2.2⟩,ob,es,ep,k _ _ (.inl rfl) e,c⟩
 | set S n=>obtain⟨ob,es,ep,t,e,c⟩:=x;exact⟨ob,es,ep,t,k _ _ (.inl rfl) e,c⟩
 | ins C dx fs=>
  obtain⟨d,z,ne,e,mA,⟨od,es,ep,e2,c⟩,r⟩:=x;exact⟨ho _ d,z,ne,k _ _ (.inl rfl) e,mA,⟨od,es,ep,k _ _ (.inr d) e2,c⟩,r⟩
 | own y=>obtain⟨ob,e⟩:=x;exact⟨ob,k _ _ (.inl rfl) e⟩
 | xd fs=>obtain⟨mA,⟨od,es,ep,e,c⟩,r⟩:=x;exact⟨mA,⟨od,es,ep,k _ _ (.inl rfl) e,c⟩,r⟩
 | YF lo hi=>obtain⟨t,u,v,e⟩:=x;exact⟨t,u,v,k _ _ (.inl rfl) e⟩
 | OS ob u ih=>obtain⟨e,q⟩:=x;exact⟨k _ _ (.inl rfl) e,ih q⟩
 | zU ps=>
  have e:h.get? a=j? { cls:=.none,data:=.fields ps }:=x;show h'.get? a=j? { cls:=.none,data:=.fields ps }
  exact k a _ (.inl rfl) e
 | met f y=>
  have e:h.get? a=j? (PySem.W.methodObj (.ref f) (.ref y)):=x;show h'.get? a=j? (PySem.W.methodObj (.ref f) (.ref y))
  exact k a _ (.inl rfl) e
 | ext φ=>obtain⟨p,⟨o,e⟩,st⟩:=x;exact⟨st _ _ p λo q=>k _ _ (.inl rfl) q,⟨o,k _ _ (.inl rfl) e⟩,st⟩
theorem yc.lt (x:yc P w H h)(e:H a=j? o):a<h.objs.size:=(x a o e).lt
theorem yc.fresh (x:yc P w H h)(e:h.objs.size<=a):H a=q?:=by
 cases q:H a with
 | none=>rfl
 | some u=>exact W3 (Yj (x.lt q) e) (Zb _)
theorem yc.kept (x:yc P w H h)(k:∀b u,h.get? b=j? u->h'.get? b=j? u):yc P w H h':=λa o e=>
 (x a o e).stay (λb u _ q=>k b u q) (λ_ q=>q) λ_ _ q=>q
theorem yc.laid (x:yc P w H h)(k:∀b u,h.get? b=j? u->h'.get? b=j? u)(hp:h.objs.size<=a)(new:lI P w (upd H a o) h' a o):yc P w (upd H a o) h':=λb u e=>by
 have hn:=x.fresh hp;by_cases hb:b=a
 ·subst hb;rw[aq] at e;cases e;exact new
 ·rw[aH hb] at e
  exact(x b u e).stay (λc v _ q=>k c v q) (λc q=>by rw[aH (aL q hn)];exact q) λc xs q=>by rw[aH (aL q hn)];exact q
end
def Rd (H:Hp)(a:o?)(u:HO):Prop:=H a=j? u\/∃o,H a=j? (.OS o u)
theorem Rd.ok(r:Rd H a u)(x:yc P w H h):lI P w H h a u:=by
 rcases r with r|⟨o,r⟩
 ·exact x a u r
 ·obtain⟨_,q⟩:=x a _ r
  exact q
def Xo:Option HO->Prop
 | some (.lst _)=>True
 | some (.dK _)=>True
 | some (.dT _)=>True
 | some (.set _ _)=>True
 | some (.ins _ _ _)=>True
 | some (.ext _)=>True
 | _=>False
section
variable {P:F?} {w:H?} {H:Hp} {h h':Q?} {x e:o?} {o':HO}
theorem yc.write (ok:yc P w H h)(mu:Xo (H x))(he:e=x\/H e=j? (.own x))(k:∀b u,b≠e->h.get? b=j? u->h'.get? b=j? u)(Uq:∃u,h'.get? e=j? u)
  (new:lI P w (upd H x o') h' x o'):yc P w (upd H x o') h':=λb u q=>by
 have UZ:∀c y,H c=j? (.own y)->c≠x:=λc y r z=>by subst z;rw[r] at mu;exact mu
 have YG:∀c xs,H c=j? (.tup xs)->c≠x:=λc xs r z=>by subst z;rw[r] at mu;exact mu
 by_cases hb:b=x
 ·subst hb;rw[aq] at q;cases q;exact new
 ·rw[aH hb] at q
  by_cases hbe:b=e
  ·have q':H b=j? (.own x):=by
    rcases he with z|z
    ·exact W3 (hbe.trans z) hb
    ·rw[hbe];exact z
   rw[q] at q';cases q';obtain⟨v,hv⟩:=Uq;exact⟨v,by rw[hbe];exact hv⟩
  ·refine(ok b u q).stay (λc v hc r=>k c v ?_ r) (λc r=>by rw[aH (UZ c b r)];exact r) λc xs r=>by rw[aH (YG c xs r)];exact r
   rcases hc with rfl|hc
   ·exact hbe
   ·rintro rfl
    rcases he with z|z
    ·exact UZ c b hc z
    ·rw[hc] at z;cases z;exact hb rfl
end
structure Un (fs ex:List o?)(H H':Hp)(h h':Q?):Prop where
 keep:∀b o,h.get? b=j? o->H b=q?->b ∉ fs->b ∉ ex->h'.get? b=j? o
 slot:∀b o,h.get? b=j? o->H b=q?->b∈fs->b ∉ ex->∃sl,h'.get? b=j? { o with slots:=sl }
 free:∀b o,h.get? b=j? o->H b=q?->b ∉ ex->H' b=q?
 there:∀b o,h.get? b=j? o->b ∉ ex->∃o',h'.get? b=j? o'
 tups:∀b xs,H b=j? (.tup xs)->H' b=j? (.tup xs)
 DU:∀b o u,H b=j? (.OS o u)->H' b=j? (.OS o u)
 DV:∀b ps,H b=j? (.zU ps)->∃more,H' b=j? (.zU (ps++more))
section
variable {fs fs' ex ex':List o?} {H H1 H2:Hp} {h h1 h2 h':Q?} {a x e:o?} {o:HO}
theorem Un.any (u:Un fs ex H H1 h h1)(q:h.get? b=j? ob)(n:H b=q?)(hx:b ∉ ex):∃sl,h1.get? b=j? { ob with slots:=sl }:=by
 by_cases hb:b∈fs
 ·exact u.slot b ob q n hb hx
 ·exact⟨ob.slots,u.keep b ob q n hb hx⟩
theorem Un.kept (k:∀b u,h.get? b=j? u->h'.get? b=j? u):Un fs ex H H h h':=
 ⟨λb ob q _ _ _=>k b ob q,λb ob q _ _ _=>⟨ob.slots,k b ob q⟩,λ_ _ _ n _=>n,λb ob q _=>⟨ob,k b ob q⟩,λ_ _ q=>q,λ_ _ _ q=>q,λ_ ps q=>⟨#[],by rw[q];simp⟩⟩
theorem Un.refl:Un fs ex H H h h:=Un.kept λ_ _ q=>q
theorem Un.laid (k:∀b u,h.get? b=j? u->h'.get? b=j? u)(hp:h.objs.size<=a)(hn:H a=q?):Un fs ex H (upd H a o) h h' where
 keep:=λb u q _ _ _=>k b u q
 slot:=λb u q _ _ _=>⟨u.slots,k b u q⟩
 free:=λb u q n _=>by rw[aH (Ym (Yj (Yl q) hp))];exact n
 there:=λb u q _=>⟨u,k b u q⟩
 tups:=λb xs q=>by rw[aH (aL q hn)];exact q
 DU:=λb u xs q=>by rw[aH (aL q hn)];exact q
 DV:=λb ps q=>⟨#[],by rw[aH (aL q hn),q];simp⟩
theorem Un.write (mu:Xo (H x))(he:e=x\/H e=j? (.own x))(k:∀b u,b≠e->h.get? b=j? u->h'.get? b=j? u)(Uq:∃u,h'.get? e=j? u):Un fs ex H (upd H x o) h h':=by
 have hx:∀b,H b=q?->b≠x:=λb n z=>by subst z;rw[n] at mu;exact mu
 have hb:∀b,H b=q?->b≠e:=λb n z=>by
  subst z;rcases he with r|r
  ·exact hx b n r
  ·rw[n] at r;cases r
 have hm:∀b u,H b=j? u->¬ Xo (j? u)->b≠x:=λb u q nm z=>by subst z;rw[q] at mu;exact nm mu
 refine⟨λb u q n _ _=>k b u (hb b n) q,λb u q n _ _=>⟨u.slots,k b u (hb b n) q⟩,λb u q n _=>by rw[aH (hx b n)];exact n,λb u q _=>?_,
  λb xs q=>by rw[aH (hm b _ q λz=>z)];exact q,λb u xs q=>by rw[aH (hm b _ q λz=>z)];exact q,λb ps q=>⟨#[],by rw[aH (hm b _ q λz=>z),q];simp⟩⟩
 by_cases hbe:b=e
 ·subst hbe;exact Uq
 ·exact⟨u,k b u hbe q⟩
end
def Xp (h:Q?)(H:Hp):List o?:=(Yi h.objs.size).filter λa=>(H a).isSome
def B6 (h:Q?)(H:Hp):Q?:=PySem.W.hideAll h (Xp h H)
theorem KU (h:Q?)(H):(B6 h H).objs.size=h.objs.size:=PySem.W.hideAll_size _ _
theorem Mf(e:h.get? b=j? o)(n:H b=q?):(B6 h H).get? b=j? o:=
 PySem.W.hideAll_get _ e λhm=>by
  have q:(H b).isSome=true:=(List.mem_filter.mp hm).2;rw[n] at q;simp at q
theorem Pe(e:(B6 h H).get? b=j? o):h.get? b=j? o/\H b=q?:=by
 have e':h.get? b=j? o:=PySem.W.of_hideAll (Xp h H) e;refine⟨e',?_⟩
 cases q:H b with
 | none=>rfl
 | some x=>
  have hm:b∈Xp h H:=List.mem_filter.mpr ⟨List.mem_range.mpr (Yl e'),by simp[q]⟩
  have z:(B6 h H).get? b=q?:=PySem.W.hideAll_none (Xp h H) hm;rw[z] at e;cases e
structure Mod (K:bK)(mg:Str->Option l?)(base:Q?):Prop where
 U0:K.In base
 glob:base.Ns G? mg
 blt:∃mb,base.Ns builtinsNs mb/\∀x:Str,x≠"__name__"->mb x=J! x
 nolimit:base.NoLimit
structure Cx where
 prog:F?
 w:H?
 K:bK
 mg:Str->Option l?
 base:Q?
 A:C!
 N:List Str
 s₀:u?
 H₀:Hp
 env:Env
 outer:List Env
 stack:List Env
 ex:List o?
 fn:Str->Bool
 calm:Bool
 pn:List (o?×Obj)
 xe:l?->u?->Prop
def frs (l:List Env):List o?:=l.filterMap (·.frame)
abbrev Cx.fs (X:Cx):List o?:=frs X.outer
def Ur (sc:Scope)(x:Str):Prop:=sc.names.lookup x=j? .local\/sc.names.lookup x=j? .cell\/sc.names.lookup x=j? .free
def Loc (sc:Scope)(x:Str):Prop:=sc.names.lookup x=j? .local\/sc.names.lookup x=j? .cell
def Look (env:Env)(h:Q?)(m:Str->Option l?)(x:Str)(u:l?):Prop:=
 (env.kindOf x=j? .local/\m x=j? u)\/((env.kindOf x=j? .cell\/env.kindOf x=j? .free)/\∃c,env.cells.lookup x=j? c/\h.IsCell c (j? u))
structure Cx.Ok (X:Cx):Prop where
 mod:Mod X.K X.mg X.base
 kind:X.env.scope.kind=.function
 glob:X.env.globals=G?
 blt:X.env.builtins=builtinsNs
 above:X.s₀.heap.objs.size<=X.env.locals
 inj:∀x y c,X.env.cells.lookup x=j? c->X.env.cells.lookup y=j? c->x=y
 has:∀x,(X.env.kindOf x=j? .cell\/X.env.kindOf x=j? .free)->∃c,X.env.cells.lookup x=j? c
 R0:∀x c,X.fn x=true->X.env.cells.lookup x=j? c->X.s₀.heap.objs.size<=c
 hd:X.calm=true->X.A.handled=q?
 frames:X.A.frames=j? X.stack
 stk:X.stack=X.outer\/(X.stack=X.env::X.outer/\X.env.frame=j? X.env.locals)
 Us:∀b∈X.ex,b≠X.env.locals/\∀x c,X.env.cells.lookup x=j? c->c≠b
 bs:∀b o,X.base.get? b=j? o->X.s₀.heap.get? b=j? o/\X.H₀ b=q?
 Hw:X.base.objs.size<=X.s₀.heap.objs.size
 FE:∀b o,X.base.get? b=j? o->b ∉ X.ex
 FF:∀b∈X.ex,b ∉ X.fs
 sX:X.s₀.heap.FunFrames X.base X.outer
 Mg:∀b∈X.fs,X.H₀ b=q?
structure Inv (X:Cx)(pins:List (o?×Obj))(σ:List (Option V))(H:Hp)(s:u?):Prop where
 ok:X.Ok
 os:s.os=X.s₀.os
 bare:AllBare s.gens
 base:Un X.fs X.ex X.H₀ H X.s₀.heap s.heap
 loc:∃m,s.heap.Ns X.env.locals m/\∀(i:Nat) (x:Str) (v:V),X.N[i]?=j? x->σ[i]?=j? (j? v)->Ur X.env.scope x->∃u,RelV v u/\Look X.env s.heap m x u
 cell:∀x c,X.env.cells.lookup x=j? c->∃v,s.heap.IsCell c v
 free:H X.env.locals=q?
 mw:∀x c,X.env.cells.lookup x=j? c->H c=q?
 pin:∀p∈X.pn++pins,s.heap.get? p.1=j? p.2/\H p.1=q?/\p.1≠X.env.locals/\p.1 ∉ X.fs/\∀v,p.2.data≠.cell v
 hok:yc X.prog X.w H s.heap
 len:σ.length=X.N.length
section
variable {X:Cx} {pins:List (o?×Obj)} {σ:List (Option V)} {H H':Hp} {s:u?} {h':Q?}
theorem Cx.Ok.YH (ok:X.Ok)(e:X.base.get? b=j? o):b ∉ X.fs:=λhb=>by
 have:=(ok.sX.mem hb).1
 rw[e] at this;cases this
theorem Inv.bs (I:Inv X pins σ H s):∀b o,X.base.get? b=j? o->s.heap.get? b=j? o/\H b=q?:=λb o e=>
 ⟨I.base.keep b o (I.ok.bs b o e).1 (I.ok.bs b o e).2 (I.ok.YH e) (I.ok.FE b o e),I.base.free b o (I.ok.bs b o e).1 (I.ok.bs b o e).2 (I.ok.FE b o e)⟩
theorem Inv.bk (I:Inv X pins σ H s):∀b o,X.base.get? b=j? o->s.heap.get? b=j? o:=λb o e=>(I.bs b o e).1
theorem Inv.mod (I:Inv X pins σ H s):Mod X.K X.mg X.base:=I.ok.mod
theorem Inv.BZ (I:Inv X pins σ H s):X.K.In s.heap:=I.ok.mod.U0.keeps I.bk
theorem Inv.lt (I:Inv X pins σ H s):X.env.locals<s.heap.objs.size:=let ⟨_,hn,_⟩:=I.loc;hn.lt
theorem Inv.sz (I:Inv X pins σ H s):X.s₀.heap.objs.size<=s.heap.objs.size:=Ys I.ok.above (Nat.le_of_lt I.lt)
theorem Inv.YI (I:Inv X pins σ H s)(h:s.heap.objs.size<=a):a ∉ X.fs:=λhb=>by
 obtain⟨_,o,ho,_⟩:=I.ok.sX.mem hb;exact W3 (Yj (Yl ho) (Ys I.sz h)) (Zb _)
theorem Inv.R1 (I:Inv X pins σ H s):∀x c,X.env.cells.lookup x=j? c->c≠X.env.locals:=λx c e z=>by
 obtain⟨v,o,ho,hd⟩:=I.cell x c e;obtain⟨m,⟨o',es,ep,ho',hd',_⟩,_⟩:=I.loc;rw[z,ho'] at ho;cases ho;rw[hd'] at hd;cases hd
theorem Inv.sX (I:Inv X pins σ H s):s.heap.FunFrames X.base X.outer:=by
 have all:∀(l:List Env),(∀b∈frs l,b∈X.fs)->X.s₀.heap.FunFrames X.base l->s.heap.FunFrames X.base l:=by
  intro l;induction l with
  | nil=>intro _ _;trivial
  | cons env r ih=>
   intro hs hl;obtain⟨hk,⟨L,o,hf,hn,ho,hd⟩,hr⟩:=hl;have hL:L∈X.fs:=hs L (by unfold frs;rw[Zh,hf];exact Yg)
   obtain⟨sl,e⟩:=I.base.slot L o ho (I.ok.Mg L hL) hL λz=>I.ok.FF L z hL
   exact⟨hk,⟨L,_,hf,hn,e,hd⟩,ih (λb hb=>hs b (by unfold frs;rw[Zh,hf];exact Ye _ hb)) hr⟩
 exact all X.outer (λ_ hb=>hb) I.ok.sX
theorem Inv.stack (I:Inv X pins σ H s):s.heap.FunFrames X.base X.stack:=by
 rcases I.ok.stk with e|⟨e,hf⟩
 ·rw[e];exact I.sX
 ·rw[e]
  obtain⟨m,hn,_⟩:=I.loc;refine .cons (by rw[I.ok.kind];decide) hf hn ?_ I.sX
  exact Heap.get?_none_of_le (Ys I.ok.Hw I.ok.above)
theorem Inv.DW (I:Inv X pins σ H s):∀b∈frs X.stack,b∈X.env.locals::X.fs:=λb hb=>by
 rcases I.ok.stk with e|⟨e,hf⟩
 ·rw[e] at hb;exact Ye _ hb
 ·rw[e] at hb
  unfold frs at hb;rw[Zh,hf] at hb;exact hb
theorem Inv.DX (I:Inv X pins σ H s):∀b∈frs X.stack,H b=q?:=λb hb=>by
 rcases List.mem_cons.mp (I.DW b hb) with e|hb
 ·rw[e];exact I.free
 ·obtain⟨_,o,ho,_⟩:=I.ok.sX.mem hb
  exact I.base.free b o ho (I.ok.Mg b hb) λz=>I.ok.FF b z hb
theorem Inv.step{ch:List o?}(I:Inv X pins σ H s)
  (hch:∀b∈ch,(b∈X.ex\/X.s₀.heap.objs.size<=b)/\b≠X.env.locals/\(∀x c,X.env.cells.lookup x=j? c->c≠b)/\∀p∈X.pn++pins,p.1≠b)
  (keep:∀b o,b≠X.env.locals->b ∉ X.fs->b ∉ ch->s.heap.get? b=j? o->H b=q?->h'.get? b=j? o)
  (slot:∀b o,b≠X.env.locals->b∈X.fs->b ∉ ch->s.heap.get? b=j? o->H b=q?->∃sl,h'.get? b=j? { o with slots:=sl }) (free:∀b o,b ∉ ch->s.heap.get? b=j? o->H b=q?->H' b=q?)
  (there:∀b o,b ∉ ch->s.heap.get? b=j? o->∃o',h'.get? b=j? o')
  (tups:∀b xs,H b=j? (.tup xs)->H' b=j? (.tup xs)) (DU:∀b o u,H b=j? (.OS o u)->H' b=j? (.OS o u)) (DV:∀b ps,H b=j? (.zU ps)->∃more,H' b=j? (.zU (ps++more)))
  (ns:∀m,s.heap.Ns X.env.locals m->h'.Ns X.env.locals m) (hok:yc X.prog X.w H' h') (hg:AllBare g'):
  Inv X pins σ H' { s with heap:=h',gens:=g',drawn:=d',toks:=t' }:=by
 have neL:∀b o,X.s₀.heap.get? b=j? o->b≠X.env.locals:=λb o e=>Ym (Yj (Yl e) I.ok.above)
 have Xq:∀b o,X.s₀.heap.get? b=j? o->b ∉ X.ex->b ∉ ch:=λb o e hx hb=>by
  rcases (hch b hb).1 with z|z
  ·exact hx z
  ·exact W3 (Yj (Yl e) z) (Zb _)
 have cellK:∀x c,X.env.cells.lookup x=j? c->∀v,s.heap.IsCell c v->h'.IsCell c v:=λx c e v ⟨o,ho,hd⟩=>by
  have U1:c ∉ ch:=λz=>(hch c z).2.2.1 x c e rfl
  by_cases hc:c∈X.fs
  ·obtain⟨sl,q⟩:=slot c o (I.R1 x c e) hc U1 ho (I.mw x c e)
   exact⟨_,q,hd⟩
  ·exact⟨o,keep c o (I.R1 x c e) hc U1 ho (I.mw x c e),hd⟩
 refine⟨I.ok,I.os,hg,⟨λb o e n hb hx=>?_,λb o e n hb hx=>?_,λb o e n hx=>?_,λb o e hx=>?_,λb xs e=>tups b xs (I.base.tups b xs e),λb o xs e=>DU b o xs (I.base.DU b o xs e),λb ps e=>?_⟩,?_,λx c e=>?_,?_,λx c e=>?_,λp hp=>?_,hok,I.len⟩
 ·exact keep b o (neL b o e) hb (Xq b o e hx) (I.base.keep b o e n hb hx) (I.base.free b o e n hx)
 ·obtain⟨sl,e1⟩:=I.base.slot b o e n hb hx
  obtain⟨YJ,e2⟩:=slot b _ (neL b o e) hb (Xq b o e hx) e1 (I.base.free b o e n hx);exact⟨YJ,e2⟩
 ·obtain⟨o',e1⟩:=I.base.there b o e hx
  exact free b o' (Xq b o e hx) e1 (I.base.free b o e n hx)
 ·obtain⟨o',e1⟩:=I.base.there b o e hx
  exact there b o' (Xq b o e hx) e1
 ·obtain⟨m1,e1⟩:=I.base.DV b ps e
  obtain⟨m2,e2⟩:=DV b _ e1;exact⟨m1++m2,by rw[e2,Array.append_assoc]⟩
 ·obtain⟨m,hn,hl⟩:=I.loc
  refine⟨m,ns m hn,λi x v e1 e2 e3=>?_⟩
  obtain⟨u,r,l⟩:=hl i x v e1 e2 e3;refine⟨u,r,?_⟩
  rcases l with l|⟨k,c,e,z⟩
  ·exact .inl l
  ·exact .inr ⟨k,c,e,cellK x c e _ z⟩
 ·obtain⟨v,z⟩:=I.cell x c e
  exact⟨v,cellK x c e v z⟩
 ·obtain⟨m,⟨o,_,_,ho,_⟩,_⟩:=I.loc
  exact free _ o (λz=>(hch _ z).2.1 rfl) ho I.free
 ·obtain⟨v,o,ho,hd⟩:=I.cell x c e
  exact free c o (λz=>(hch c z).2.2.1 x c e rfl) ho (I.mw x c e)
 ·obtain⟨e,n,ne,nf,d⟩:=I.pin p hp
  have U1:p.1 ∉ ch:=λz=>(hch p.1 z).2.2.2 p hp rfl
  exact⟨keep p.1 p.2 ne nf U1 e n,free p.1 p.2 U1 e n,ne,nf,d⟩
theorem Inv.un(I:Inv X pins σ H s)(u:Un X.fs [] H H' s.heap h')(hok:yc X.prog X.w H' h'):Inv X pins σ H' { s with heap:=h',toks:=t' }:=by
 obtain⟨m,⟨o,es,ep,ho,r⟩,_⟩:=id I.loc;obtain⟨sl,hL⟩:=u.any ho I.free (by simp)
 exact I.step (g':=s.gens) (d':=s.drawn) (ch:=[]) (λ_ z=>nomatch z) (λb o _ hb _ e n=>u.keep b o e n hb (by simp)) (λb o _ hb _ e n=>u.slot b o e n hb (by simp)) (λb o _ e n=>u.free b o e n (by simp)) (λb o _ e=>u.there b o e (by simp)) u.tups u.DU u.DV (λm' hm=>by
  obtain⟨o',es',YK,ho',r'⟩:=hm;rw[ho] at ho';cases ho';exact⟨_,es',YK,hL,r'⟩) hok I.bare
theorem Inv.call(I:Inv X pins σ H s)(u:Un (frs X.stack) ch H H' s.heap h')(hok:yc X.prog X.w H' h')(hg:AllBare g')
  (hch:∀b∈ch,(b∈X.ex\/X.s₀.heap.objs.size<=b)/\b≠X.env.locals/\(∀x c,X.env.cells.lookup x=j? c->c≠b)/\∀p∈X.pn++pins,p.1≠b):
  Inv X pins σ H' { s with heap:=h',gens:=g',drawn:=d',toks:=t' }:=by
 obtain⟨m,⟨o,es,ep,ho,r⟩,_⟩:=id I.loc;obtain⟨sl,hL⟩:=u.any ho I.free λz=>(hch _ z).2.1 rfl
 exact I.step (ch:=ch) hch (λb o hL hb hc e n=>u.keep b o e n (λz=>(List.mem_cons.mp (I.DW b z)).elim hL hb) hc) (λb o _ _ hc e n=>u.any e n hc) (λb o hc e n=>u.free b o e n hc) (λb o hc e=>u.there b o e hc) u.tups u.DU u.DV (λm' hm=>by
  obtain⟨o',es',YK,ho',r'⟩:=hm;rw[ho] at ho';cases ho';exact⟨_,es',YK,hL,r'⟩) hok hg
theorem Inv.turned(I:Inv X pins σ H s)(k:∀b o,b≠it->s.heap.get? b=j? o->h'.get? b=j? o)(hn:H it=q?)(hL:it≠X.env.locals)
  (h1:it∈X.ex\/X.s₀.heap.objs.size<=it) (h2:∀x c,X.env.cells.lookup x=j? c->c≠it) (h3:∀p∈X.pn++pins,p.1≠it):Inv X pins σ H { s with heap:=h',toks:=t' }:=by
 have Mh:∀b u,H b=j? u->b≠it:=λb u e z=>by rw[z,hn] at e;cases e
 refine I.step (g':=s.gens) (d':=s.drawn) (ch:=[it]) (λb hb=>?_) (λb o _ _ hc e _=>k b o (λz=>hc (by simp[z])) e) (λb o _ _ hc e _=>⟨o.slots,k b o (λz=>hc (by simp[z])) e⟩) (λ_ _ _ _ n=>n)
  (λb o hc e=>⟨o,k b o (λz=>hc (by simp[z])) e⟩) (λ_ _ e=>e) (λ_ _ _ e=>e) (λb ps e=>⟨#[],by rw[e];simp⟩) (λm hm=>?_) (λb u e=>?_) I.bare
 ·have e:b=it:=by simpa using hb
  subst e;exact⟨h1,hL,h2,h3⟩
 ·obtain⟨o,es,ep,ho,r⟩:=hm
  exact⟨o,es,ep,k _ o (Ne.symm hL) ho,r⟩
 ·refine(I.hok b u e).stay (λc v hc q=>k c v ?_ q) (λ_ q=>q) λ_ _ q=>q
  rcases hc with z|z
  ·rw[z];exact Mh b u e
  ·exact Mh c _ z
theorem Inv.tok (I:Inv X pins σ H s)(t):Inv X pins σ H { s with toks:=t }:=I.un (h':=s.heap) (t':=t) Un.refl I.hok
theorem Inv.kept(I:Inv X pins σ H s)(k:∀b u,s.heap.get? b=j? u->h'.get? b=j? u):Inv X pins σ H { s with heap:=h',toks:=t' }:=I.un (Un.kept k) (I.hok.kept k)
theorem Inv.laid(I:Inv X pins σ H s)(k:∀b u,s.heap.get? b=j? u->h'.get? b=j? u)(hp:s.heap.objs.size<=a)(new:lI X.prog X.w (upd H a o) h' a o):
  Inv X pins σ (upd H a o) { s with heap:=h',toks:=t' }:=I.un (Un.laid k hp (I.hok.fresh hp)) (I.hok.laid k hp new)
theorem Inv.write(I:Inv X pins σ H s)(mu:Xo (H x))(he:e=x\/H e=j? (.own x))(k:∀b u,b≠e->s.heap.get? b=j? u->h'.get? b=j? u)(Uq:∃u,h'.get? e=j? u)
  (new:lI X.prog X.w (upd H x o) h' x o):Inv X pins σ (upd H x o) { s with heap:=h',toks:=t' }:=I.un (Un.write mu he k Uq) (I.hok.write mu he k Uq new)
theorem Inv.JG(I:Inv X pins σ H s)(h:∀p∈pins',s.heap.get? p.1=j? p.2/\H p.1=q?/\p.1≠X.env.locals/\p.1 ∉ X.fs/\∀v,p.2.data≠.cell v):Inv X pins' σ H s:=
 ⟨I.ok,I.os,I.bare,I.base,I.loc,I.cell,I.free,I.mw,λp hp=>(List.mem_append.mp hp).elim (λz=>I.pin p (Zk _ z)) (h p),I.hok,I.len⟩
theorem FG {N:List Str}(hN:N.Nodup){i j:Nat}(a:N[i]?=j? x)(b:N[j]?=j? x):i=j:=by
 obtain⟨h1,e1⟩:=List.getElem?_eq_some_iff.mp a;obtain⟨h2,e2⟩:=List.getElem?_eq_some_iff.mp b;exact(List.getElem_inj hN).mp (e1.trans e2.symm)
theorem wm(I:Inv X pins σ H s)(hN:X.N.Nodup)(hi:X.N[i]?=j? x)(hx:Loc X.env.scope x)(r:RelV v u)
  (h:∀s',Inv X pins (σ.set i (j? v)) H s'->(∃a,Heap.SameBut a s.heap s'.heap/\(a=X.env.locals\/X.env.cells.lookup x=j? a))->Q () s') (hf:X.fn x=true\/X.env.scope.names.lookup x=j? .local:=by first|exact .inl rfl|exact .inr rfl|assumption):L? M A (storeName X.env x u) Q E s:=by
 obtain⟨m,hn,hl⟩:=id I.loc;have hcls:(X.env.scope.kind == .class || (X.env.scope.kind == .module && X.env.locals != X.env.globals))=false:=by rw[I.ok.kind];rfl
 have U3:i<σ.length:=by rw[I.len];exact(List.getElem?_eq_some_iff.mp hi).1
 have R1:=I.R1;have tracked:∀ {a:o?} {h':Q?},(∃o,s.heap.get? a=j? o/\H a=q?)->Heap.SameBut a s.heap h'->yc X.prog X.w H h':=λ{a h'} ha hs b ob e=>by
  obtain⟨_,_,hfree⟩:=ha;refine(I.hok b ob e).stay (λc w' hc q=>(hs.2 c ?_).trans q) (λ_ q=>q) λ_ _ q=>q
  rintro rfl;rcases hc with rfl|hc
  ·rw[hfree] at e;cases e
  ·rw[hfree] at hc;cases hc
 rcases hx with hk|hk
 ·refine wpAny_storeName_local hk hn (λh' hn' hs=>?_) hcls
  obtain⟨oL,_,_,Rg,_⟩:=id hn;refine h _ ⟨I.ok,I.os,I.bare,⟨λb o e n hb hx=>?_,λb o e n hb hx=>?_,I.base.free,λb o e hx=>?_,I.base.tups,I.base.DU,I.base.DV⟩,⟨_,hn',λj y v' e1 e2 e3=>?_⟩,λy c e=>?_,I.free,I.mw,λp hp=>?_,tracked ⟨oL,Rg,I.free⟩ hs,by simpa using I.len⟩ ⟨_,hs,.inl rfl⟩
  ·exact(hs.2 b (Ym (Yj (Yl e) I.ok.above))).trans (I.base.keep b o e n hb hx)
  ·obtain⟨sl,e1⟩:=I.base.slot b o e n hb hx
   exact⟨sl,(hs.2 b (Ym (Yj (Yl e) I.ok.above))).trans e1⟩
  ·obtain⟨o',e1⟩:=I.base.there b o e hx
   exact⟨o',(hs.2 b (Ym (Yj (Yl e) I.ok.above))).trans e1⟩
  ·by_cases hj:j=i
   ·subst hj
    rw[hi] at e1;cases e1;rw[List.getElem?_set_self U3] at e2;cases e2;exact⟨u,r,.inl ⟨hk,by simp⟩⟩
   ·rw[List.getElem?_set_ne (Ne.symm hj)] at e2
    obtain⟨u',r',q⟩:=hl j y v' e1 e2 e3;refine⟨u',r',?_⟩
    rcases q with ⟨k,e⟩|⟨k,c,e,z⟩
    ·refine .inl ⟨k,?_⟩
     have:y≠x:=λe=>hj (FG hN e1 (e ▸ hi))
     simp[this,e]
    ·exact .inr ⟨k,c,e,z.sameBut hs (R1 y c e)⟩
  ·obtain⟨w',z⟩:=I.cell y c e
   exact⟨w',z.sameBut hs (R1 y c e)⟩
  ·obtain⟨e,n,ne,nf,d⟩:=I.pin p hp
   exact⟨(hs.2 p.1 ne).trans e,n,ne,nf,d⟩
 ·have hfn:X.fn x=true:=by
   rcases hf with z|z
   ·exact z
   ·rw[z] at hk;cases hk
  obtain⟨c,hc⟩:=I.ok.has x (.inl hk);obtain⟨w',z⟩:=I.cell x c hc;refine wpAny_storeName_cell I.ok.kind hk hc z (λh' hc' hs=>?_)
  obtain⟨oc,hoc,YL⟩:=id z;refine h { s with heap:=h' } ⟨I.ok,I.os,I.bare,⟨λb o e n hb hx=>?_,λb o e n hb hx=>?_,I.base.free,λb o e hx=>?_,I.base.tups,I.base.DU,I.base.DV⟩,⟨m,hn.sameBut hs (Ne.symm (R1 x c hc)),λj y v' e1 e2 e3=>?_⟩,λy c' e=>?_,I.free,I.mw,λp hp=>?_,tracked ⟨oc,hoc,I.mw x c hc⟩ hs,by simpa using I.len⟩ ⟨c,hs,.inr hc⟩
  ·exact(hs.2 b (Ym (Yj (Yl e) (I.ok.R0 x c hfn hc)))).trans (I.base.keep b o e n hb hx)
  ·obtain⟨sl,e1⟩:=I.base.slot b o e n hb hx
   exact⟨sl,(hs.2 b (Ym (Yj (Yl e) (I.ok.R0 x c hfn hc)))).trans e1⟩
  ·obtain⟨o',e1⟩:=I.base.there b o e hx
   exact⟨o',(hs.2 b (Ym (Yj (Yl e) (I.ok.R0 x c hfn hc)))).trans e1⟩
  ·by_cases hj:j=i
   ·subst hj
    rw[hi] at e1;cases e1;rw[List.getElem?_set_self U3] at e2;cases e2;exact⟨u,r,.inr ⟨.inl hk,c,hc,hc'⟩⟩
   ·rw[List.getElem?_set_ne (Ne.symm hj)] at e2
    obtain⟨u',r',q⟩:=hl j y v' e1 e2 e3;refine⟨u',r',?_⟩
    rcases q with q|⟨k,c',e,z'⟩
    ·exact .inl q
    ·refine .inr ⟨k,c',e,z'.sameBut hs ?_⟩
     rintro rfl;exact hj (FG hN e1 (I.ok.inj _ _ _ e hc ▸ hi))
  ·by_cases hcc:c'=c
   ·subst hcc;exact⟨_,hc'⟩
   ·obtain⟨w2,z2⟩:=I.cell y c' e
    exact⟨w2,z2.sameBut hs hcc⟩
  ·obtain⟨e,n,ne,nf,d⟩:=I.pin p hp
   refine⟨(hs.2 p.1 ?_).trans e,n,ne,nf,d⟩
   intro q;rw[q,hoc] at e;have q':oc=p.2:=N? e;exact d w' (by rw[<- q'];exact YL)
theorem qY(I:Inv X pins σ H s)(hN:X.N.Nodup)(hi:X.N[i]?=j? x)(hx:Loc X.env.scope x)(r:RelV v u)
  (h:∀s',Inv X pins (σ.set i (j? v)) H s'->Q () s') (hf:X.fn x=true\/X.env.scope.names.lookup x=j? .local:=by first|exact .inl rfl|exact .inr rfl|assumption):L? M A (storeName X.env x u) Q E s:=
 wm I hN hi hx r (λs' I' _=>h s' I') hf
theorem Inv.Rh(I:Inv X pins σ H s)(ho:s'.os=s.os)(u:Un (frs X.stack) ch H H' s.heap s'.heap)(hok:yc X.prog X.w H' s'.heap)(hg:AllBare s'.gens)
  (hch:∀b∈ch,(b∈X.ex\/X.s₀.heap.objs.size<=b)/\b≠X.env.locals/\(∀x c,X.env.cells.lookup x=j? c->c≠b)/\∀p∈X.pn++pins,p.1≠b):Inv X pins σ H' s':=by
 obtain⟨h',g',d',t',o'⟩:=s';have e:o'=s.os:=ho;subst e;exact I.call (g':=g') (t':=t') (d':=d') u hok hg hch
end
abbrev XK:=l?->Option o?->Hp->Prop
abbrev St:=List (Option V)
abbrev VK:=V->Hp->Prop
abbrev TE:=St->Hp->VK->Prop
abbrev TT:=St->Hp->(Bool->Hp->Prop)->Prop
abbrev TA:=St->Hp->(List V->Hp->Prop)->Prop
structure Ends where
 nx:St->Hp->Prop
 rt:VK
 bk:St->Hp->Prop:=λ_ _=>False
 ct:St->Hp->Prop:=λ_ _=>False
abbrev TS:=Ends->St->Hp->Prop
def EP (X:Cx)(pins:List (o?×Obj))(σ:St)(Q:VK)(u:l?)(s':u?):Prop:=∃v H',Inv X pins σ H' s'/\RelV v u/\Q v H'
def TP (X:Cx)(pins:List (o?×Obj))(σ:St)(Q:Bool->Hp->Prop)(b:Bool)(s':u?):Prop:=∃H',Inv X pins σ H' s'/\Q b H'
def AP (X:Cx)(pins:List (o?×Obj))(σ:St)(Q:List V->Hp->Prop)(us:List l?)(s':u?):Prop:=∃vs H',Inv X pins σ H' s'/\Vals vs us/\Q vs H'
def SP (X:Cx)(pins:List (o?×Obj))(D:Ends)(f:Flow)(s':u?):Prop:=
 match f with
 | .next=>∃σ' H',Inv X pins σ' H' s'/\D.nx σ' H'
 | .brk=>∃σ' H',Inv X pins σ' H' s'/\D.bk σ' H'
 | .cont=>∃σ' H',Inv X pins σ' H' s'/\D.ct σ' H'
 | .ret u=>∃v σ' H',Inv X pins σ' H' s'/\RelV v u/\D.rt v H'
structure Hx (p:Prop):Prop where
 out:p
instance {α:Sort _}{β:α->Prop}:CoeFun (Hx (∀a,β a)) (λ_=>∀a,β a):=⟨Hx.out⟩
abbrev PE (X:Cx)(e:Expr)(t:TE):Prop:=Hx (
 ∀(pins:List (o?×Obj)) (s:u?) (σ:St) (H:Hp) (Q:VK),Inv X pins σ H s->t σ H Q->L? (T? X.prog X.w) X.A (eval e X.env) (EP X pins σ Q) X.xe s)
abbrev PT (X:Cx)(e:Expr)(t:TT):Prop:=Hx (
 ∀(pins:List (o?×Obj)) (s:u?) (σ:St) (H:Hp) (Q:Bool->Hp->Prop),Inv X pins σ H s->t σ H Q->L? (T? X.prog X.w) X.A (isTrue e X.env (eval e X.env)) (TP X pins σ Q) X.xe s)
def PW (X:Cx)(e:Expr)(t:TT):Prop:=
 ∀(whole:Sem l?) (pins:List (o?×Obj)) (s:u?) (σ:St) (H:Hp) (Q:Bool->Hp->Prop),Inv X pins σ H s->t σ H Q->L? (T? X.prog X.w) X.A (isTrue e X.env whole) (TP X pins σ Q) X.xe s
theorem PW.pt(h:PW X e t):PT X e t:=⟨h _⟩
abbrev PA (X:Cx)(es:List Expr)(t:TA):Prop:=Hx (
 ∀(pos:Pos) (pins:List (o?×Obj)) (s:u?) (σ:St) (H:Hp) (Q:List V->Hp->Prop),Inv X pins σ H s->t σ H Q->L? (T? X.prog X.w) X.A (spliced (backTo pos (I? es X.env))) (AP X pins σ Q) X.xe s)
abbrev PS (X:Cx)(st:R?)(t:TS):Prop:=Hx (
 ∀(pins:List (o?×Obj)) (s:u?) (σ:St) (H:Hp) (D:Ends),Inv X pins σ H s->t D σ H->L? (T? X.prog X.w) X.A (exec st X.env) (SP X pins D) X.xe s)
abbrev FH (X:Cx)(st:List R?)(t:TS):Prop:=Hx (
 ∀(pins:List (o?×Obj)) (s:u?) (σ:St) (H:Hp) (D:Ends),Inv X pins σ H s->t D σ H->L? (T? X.prog X.w) X.A (execs st X.env) (SP X pins D) X.xe s)
theorem fq(h:L? M A t Q E s)(hQ:∀a s,Q a s->Q' a s):L? M A t Q' E s:=D! h hQ λ_ _ x=>x
section
variable {X:Cx}
inductive DY (i:Nat)(σ:St)(H:Hp)(Q:VK):Prop where
 | mk (v:_) (c5:σ[i]?=j? (j? v)) (c6:Q v H)
def tC (v:V):TE:=λ_ H Q=>Q v H
theorem R3(hN:X.N[i]?=j? x)(hv:Ur X.env.scope x)(hd:(x ==("__debug__":Str))=false:=by decide)(hcd:(x ==("__classdict__":Str))=false:=by decide):PE X (.Name x pos) (DY i):=by
 refine⟨?_⟩
 intro pins s σ H Q I h;obtain⟨v,e,h⟩:=h;obtain⟨m,hn,hl⟩:=I.loc;obtain⟨u,r,l⟩:=hl i x v hN e hv;have fin:EP X pins σ Q u s:=⟨v,H,I,r,h⟩;rcases l with ⟨hk,hm⟩|⟨hk,c,hc,hcell⟩
 ·exact wpAny_Name (wpAny_loadName_local I.ok.kind hk hn hm fin) hd
 ·rcases hk with hk|hk
  ·exact wpAny_Name (wpAny_loadName_cell I.ok.kind hk hc hcell fin) hd
  ·exact wpAny_Name (wpAny_loadName_free I.ok.kind hk hc hcell fin hcd) hd
theorem au {i j pos}:PE X (.Constant (.int i) j pos) (tC (.int i)):=⟨λ_ _ _ H _ I h=>wpAny_Constant_int ⟨.int i,H,I.tok _,⟨_,rfl⟩,h⟩⟩
theorem gO {b j pos}:PE X (.Constant (.bool b) j pos) (tC (.bl b)):=⟨λ_ _ _ H _ I h=>Constant_bool ⟨.bl b,H,I,rfl,h⟩⟩
theorem Mi {j pos}:PE X (.Constant .none j pos) (tC .d8):=⟨λ_ _ _ H _ I h=>Constant_none ⟨.d8,H,I,rfl,h⟩⟩
def Gl (X:Cx)(x:Str):Prop:=X.env.kindOf x=j? .globalImplicit
theorem DZ(I:Inv X pins σ H s)(hg:Gl X x)(hm:X.mg x=j? u)(h:Q u s)
  (hd:(x ==("__debug__":Str))=false:=by decide):L? (T? X.prog X.w) X.A (eval (.Name x pos) X.env) Q E s:=
 Calls.Name_function_global I.ok.kind hg (Calls.loadGlobal_global (by rw[I.ok.glob];exact I.mod.glob.keeps I.bk) hm h) hd
theorem nU(I:Inv X pins σ H s)(hg:Gl X x)(hm:X.mg x=q?)(hv:J! x=j? u)(h:Q u s)
  (hn:x≠"__name__":=by decide) (hd:(x ==("__debug__":Str))=false:=by decide):L? (T? X.prog X.w) X.A (eval (.Name x pos) X.env) Q E s:=by
 obtain⟨mb,h1,h2⟩:=I.mod.blt;exact Calls.Name_function_global I.ok.kind hg (Calls.loadGlobal_builtin (by rw[I.ok.glob];exact I.mod.glob.keeps I.bk) hm (by rw[I.ok.blt];exact h1.keeps I.bk) ((h2 x hn).trans hv) h) hd
theorem D3(hg:Gl X x)(hm:X.mg x=j? u)(r:RelV v u)(hd:(x ==("__debug__":Str))=false:=by decide):PE X (.Name x pos) (tC v):=
 ⟨λ_ _ _ H _ I h=>DZ I hg hm ⟨v,H,I,r,h⟩ hd⟩
theorem gh(hg:Gl X x)(hm:X.mg x=q?)(hv:J! x=j? u)(r:RelV v u)(hn:x≠"__name__":=by decide)(hd:(x ==("__debug__":Str))=false:=by decide):PE X (.Name x pos) (tC v):=
 ⟨λ_ _ _ H _ I h=>nU I hg hm hv ⟨v,H,I,r,h⟩ hn hd⟩
variable {a b:Expr} {ta tb:TE} {pos:Pos}
inductive YM  (Q:Bool->Hp->Prop)(x:V)(H1:Hp):Prop where
 | mk (c:_) (c5:x=.bl c) (c6:Q c H1)
def tB (t:TE):TT:=λσ H Q=>t σ H λx H1=>YM  Q x H1
theorem cK(h:PE X e t)(he:∀whole,isTrue e X.env whole=(do let v <- whole;standAt e.pos;holding [v] (truthy v)):=by intro _;rfl):PT X e (tB t):=by
 refine⟨?_⟩
 intro pins s σ H Q I hw;refine isTrue_plain (fq (h pins s σ H _ I hw) λv s1 ⟨x,H1,I1,r1,q1⟩=>?_) (he _)
 obtain⟨d,rfl,q⟩:=q1;cases r1;exact wpAny_truthy_bool ⟨H1,I1,q⟩
variable {tA Xr:TT} {rest:List Expr}
def YN (t u:TT):TT:=λσ H Q=>t σ H λc H1=>if c=true then u σ H1 Q else Q false H1
def tOr (t u:TT):TT:=λσ H Q=>t σ H λc H1=>if c=true then Q true H1 else u σ H1 Q
def YO (t:TT):TT:=λσ H Q=>t σ H λc H1=>Q (!c) H1
theorem u6 (ha:PT X a tA):PW X (.BoolOp .And [a] pos) tA:=by
 intro wh pins s σ H Q I h;refine isTrue_and (fq (ha pins s σ H Q I h) λc s1 e=>?_)
 cases c with
 | true=>exact isTrue_and_nil e
 | false=>exact e
theorem kZ (ha:PT X a tA):PW X (.BoolOp .Or [a] pos) tA:=by
 intro wh pins s σ H Q I h;refine isTrue_or (fq (ha pins s σ H Q I h) λc s1 e=>?_)
 cases c with
 | false=>exact isTrue_or_nil e
 | true=>exact e
theorem zV (ha:PT X a tA)(hb:PW X (.BoolOp .And (b::rest) pos) Xr):PW X (.BoolOp .And (a::b::rest) pos) (YN tA Xr):=by
 intro wh pins s σ H Q I h;refine isTrue_and (fq (ha pins s σ H _ I h) λc s1 ⟨H1,I1,q1⟩=>?_)
 cases c with
 | true=>exact hb wh pins s1 σ H1 Q I1 q1
 | false=>exact⟨H1,I1,q1⟩
theorem mC (ha:PT X a tA)(hb:PW X (.BoolOp .Or (b::rest) pos) Xr):PW X (.BoolOp .Or (a::b::rest) pos) (tOr tA Xr):=by
 intro wh pins s σ H Q I h;refine isTrue_or (fq (ha pins s σ H _ I h) λc s1 ⟨H1,I1,q1⟩=>?_)
 cases c with
 | true=>exact⟨H1,I1,q1⟩
 | false=>exact hb wh pins s1 σ H1 Q I1 q1
theorem eV (ha:PT X a tA):PT X (.UnaryOp .Not a pos) (YO tA):=by
 refine⟨?_⟩
 intro pins s σ H Q I h;exact isTrue_not (ha pins s σ H (λc H1=>Q (!c) H1) I h)
inductive Pf (ta tb:TE)(σ:St)(Q:VK)(x:V)(H1:Hp):Prop where
 | mk (c:_) (c5:x=.bl c) (c6:if c=true then tb σ H1 Q else Q (.bl false) H1)
def U4 (ta tb:TE):TE:=λσ H Q=>ta σ H λx H1=>Pf ta tb σ Q x H1
inductive Pg  (Q:VK)(x:V)(H1:Hp):Prop where
 | mk (c:_) (c5:x=.bl c) (c6:Q (.bl (!c)) H1)
def U5 (ta:TE):TE:=λσ H Q=>ta σ H λx H1=>Pg  Q x H1
theorem Hy {op}{t:TE}(h:PE X a t):PE X (.BoolOp op [a] pos) t:=⟨λpins s σ H Q I hw=>BoolOp_one (h pins s σ H Q I hw)⟩
theorem Hz (ha:PE X a ta)(hb:PE X (.BoolOp .And (b::rest) pos) tb):PE X (.BoolOp .And (a::b::rest) pos) (U4 ta tb):=by
 refine⟨?_⟩
 intro pins s σ H Q I h;refine BoolOp_and (fq (ha pins s σ H _ I h) λv s1 ⟨x,H1,I1,r1,q1⟩=>?_)
 obtain⟨c,rfl,q1⟩:=q1;cases r1;refine wpAny_truthy_bool ?_
 cases c with
 | true=>exact hb pins s1 σ H1 Q I1 q1
 | false=>exact⟨.bl false,H1,I1,rfl,q1⟩
theorem R4 (ha:PE X a ta):PE X (.UnaryOp .Not a pos) (U5 ta):=by
 refine⟨?_⟩
 intro pins s σ H Q I h;refine UnaryOp_ (fq (ha pins s σ H _ I h) λv s1 ⟨x,H1,I1,r1,q1⟩=>?_)
 obtain⟨c,rfl,q1⟩:=q1;cases r1;exact not_of (wpAny_truthy_bool ⟨.bl (!c),H1,I1,rfl,q1⟩)
def tIf (t:TT)(ta tb:TE):TE:=λσ H Q=>t σ H λc H1=>if c=true then ta σ H1 Q else tb σ H1 Q
theorem FI(hc:PT X c tA)(ha:PE X a ta)(hb:PE X b tb):PE X (.IfExp c a b pos) (tIf tA ta tb):=by
 refine⟨?_⟩
 intro pins s σ H Q I h;refine wpAny_IfExp (fq (hc pins s σ H _ I h) λd s1 ⟨H1,I1,q1⟩=>?_)
 cases d with
 | true=>exact ha pins s1 σ H1 Q I1 q1
 | false=>exact hb pins s1 σ H1 Q I1 q1
end
def aU (K:bK)(H:Hp)(a:o?)(xs:List V):Prop:=
 Rd H a (.lst xs)\/
  ∃(o:Obj) (its:Array l?) (n:Nat),K.lookup a=j? o/\o.cls=.type "list"/\o.dict=q?/\o.data=.seq its n/\its.size<=K?/\Vals xs its.toList
def iR (K:bK)(H:Hp)(a:o?)(xs:List V):Prop:=
 Rd H a (.tup xs)\/
  ∃(o:Obj) (its:Array l?) (n:Nat),K.lookup a=j? o/\o.cls=.type "tuple"/\o.data=.seq its n/\its.size<=K?/\Vals xs its.toList
def Ph:l?->Option V
 | .none=>j? .d8
 | .bool b=>j? (.bl b)
 | .int i _=>j? (.int i)
 | .str x _=>j? (.str x)
 | .bytes b _=>j? (.byt b)
 | .float b _=>j? (.flt b)
 | .ref a=>j? (.ref a)
 | .type n=>j? (.ty n)
 | _=>q?
theorem RelV.abs(r:RelV x u):Ph u=j? x:=by
 cases x with
 | d8=>cases r;rfl
 | bl _=>cases r;rfl
 | int _=>obtain⟨t,rfl⟩:=r;rfl
 | str _=>obtain⟨t,rfl⟩:=r;rfl
 | byt _=>obtain⟨t,rfl⟩:=r;rfl
 | flt _=>obtain⟨t,rfl⟩:=r;rfl
 | ref _=>cases r;rfl
 | ty _=>cases r;rfl
theorem RelV.inj(r:RelV x u)(q:RelV y u):x=y:=N? (r.abs.symm.trans q.abs)
theorem Vals.inj:∀ {xs ys:List V} {us:List l?},Vals xs us->Vals ys us->xs=ys
 | _,_,_,.nil,.nil=>rfl
 | _,_,_,.cons r t,.cons r' t'=>by rw[r.inj r',Vals.inj t t']
section
variable {X:Cx} {pins:List (o?×Obj)} {σ:St} {H:Hp} {s:u?} {a:o?} {xs ys:List V}
theorem aU.of {K:bK}(h:H a=j? (.lst xs)):aU K H a xs:=.inl (.inl h)
theorem iR.of {K:bK}(h:H a=j? (.tup xs)):iR K H a xs:=.inl (.inl h)
theorem Inv.list (I:Inv X pins σ H s)(h:aU X.K H a xs):∃its:List l?,Vals xs its/\PlainL s.heap a its.toArray/\xs.length<=K?:=by
 rcases h with h|⟨o,its,n,hk,hc,hd,hs,hz,r⟩
 ·obtain⟨z,its,n,r,e⟩:=h.ok I.hok
  exact⟨its,r,⟨_,n,e,rfl,rfl,rfl⟩,z⟩
 ·refine⟨its.toList,r,⟨o,n,I.BZ a o hk,hc,hd,by simpa using hs⟩,?_⟩
  have e:=r.length;simp only[Y8] at e
  omega
theorem Inv.tuple (I:Inv X pins σ H s)(h:iR X.K H a xs):∃its:List l?,Vals xs its/\IsTup s.heap a its.toArray/\xs.length<=K?:=by
 rcases h with h|⟨o,its,n,hk,hc,hs,hz,r⟩
 ·obtain⟨z,its,r,p⟩:=h.ok I.hok
  exact⟨its,r,p,z⟩
 ·refine⟨its.toList,r,⟨o,I.BZ a o hk,hc,n,by simpa using hs⟩,?_⟩
  have e:=r.length;simp only[Y8] at e
  omega
theorem Inv.u7 (I:Inv X pins σ H s)(h:aU X.K H a xs)(h':aU X.K H a ys):xs=ys:=by
 obtain⟨its,r,⟨o,n,e,_,_,d⟩,_⟩:=I.list h;obtain⟨its',r',⟨o',n',e',_,_,d'⟩,_⟩:=I.list h';rw[e] at e';cases e';rw[d] at d';injection d' with d1 _
 have:its=its':=by simpa using W1 Array.toList d1
 subst this;exact r.inj r'
end
abbrev Cx.B7 (X:Cx)(E:l?->u?->Prop):Cx:={ X with xe:=E }
abbrev Cx.Pj (X:Cx):Cx:=X.B7 λ_ _=>False
theorem Cx.Ok.B7 {X:Cx}(ok:X.Ok)(E:l?->u?->Prop):(X.B7 E).Ok:=
 ⟨ok.mod,ok.kind,ok.glob,ok.blt,ok.above,ok.inj,ok.has,ok.R0,ok.hd,ok.frames,ok.stk,ok.Us,ok.bs,ok.Hw,ok.FE,ok.FF,ok.sX,ok.Mg⟩
theorem Cx.Ok.qZ {X:Cx}(ok:(X.B7 E).Ok):X.Ok:=
 ⟨ok.mod,ok.kind,ok.glob,ok.blt,ok.above,ok.inj,ok.has,ok.R0,ok.hd,ok.frames,ok.stk,ok.Us,ok.bs,ok.Hw,ok.FE,ok.FF,ok.sX,ok.Mg⟩
section
variable {X:Cx} {pins:List (o?×Obj)} {σ:St} {H:Hp} {s:u?} {E:l?->u?->Prop}
theorem Inv.B7 (I:Inv X pins σ H s)(E:l?->u?->Prop):Inv (X.B7 E) pins σ H s:=⟨I.ok.B7 E,I.os,I.bare,I.base,I.loc,I.cell,I.free,I.mw,I.pin,I.hok,I.len⟩
theorem Inv.qZ (I:Inv (X.B7 E) pins σ H s):Inv X pins σ H s:=⟨I.ok.qZ,I.os,I.bare,I.base,I.loc,I.cell,I.free,I.mw,I.pin,I.hok,I.len⟩
theorem SP.qZ(h:SP (X.B7 E) pins D f s'):SP X pins D f s':=by
 cases f with
 | next=>obtain⟨σ',H',I,q⟩:=h;exact⟨σ',H',I.qZ,q⟩
 | brk=>obtain⟨σ',H',I,q⟩:=h;exact⟨σ',H',I.qZ,q⟩
 | cont=>obtain⟨σ',H',I,q⟩:=h;exact⟨σ',H',I.qZ,q⟩
 | ret u=>obtain⟨v,σ',H',I,r,q⟩:=h;exact⟨v,σ',H',I.qZ,r,q⟩
theorem FH.Pj {st:List R?}(h:FH X.Pj st t):FH X st t:=⟨λpins s σ H D I hw=>
 D! (h pins s σ H D (I.B7 _) hw) (λ_ _ q=>q.qZ) λ_ _ z=>Q! z⟩
end
section
variable {X:Cx} {st:R?} {rest:List R?} {t u:TS} {e:Expr} {te:TE} {pos:Pos}
def U6:TS:=λD σ H=>D.nx σ H
def FJ (t u:TS):TS:=λD σ H=>t { D with nx:=u D } σ H
theorem aW:FH X [] U6:=⟨λ_ _ σ H _ I h=>wpAny_execs_nil ⟨σ,H,I,h⟩⟩
theorem ai (h1:PS X st t)(h2:FH X rest u):FH X (st::rest) (FJ t u):=by
 refine⟨?_⟩
 intro pins s σ H D I h;refine wpAny_execs_cons (fq (h1 pins s σ H { D with nx:=u D } I h) λf s1 q=>?_)
 cases f with
 | next=>
  obtain⟨σ',H',I',q⟩:=q;exact h2 pins s1 σ' H' D I' q
 | ret v=>exact q
 | brk=>exact q
 | cont=>exact q
theorem ao (h1:PS X st t):FH X [st] t:=by
 refine⟨?_⟩
 intro pins s σ H D I h;refine wpAny_execs_cons (fq (h1 pins s σ H D I h) λf s1 q=>?_)
 cases f with
 | next=>exact wpAny_execs_nil q
 | ret v=>exact q
 | brk=>exact q
 | cont=>exact q
theorem Inv.quiet(I:Inv X pins σ H s):interactive X.env=false:=by simp[interactive,I.ok.kind]
def U7 (te:TE):TS:=λD σ H=>te σ H λ_ H1=>D.nx σ H1
theorem jS (he:PE X e te)(hs:swapsWith e q? pos.line X.env=pure false:=by rfl):PS X (.Expr e pos) (U7 te):=by
 refine⟨?_⟩
 intro pins s σ H D I h;exact wpAny_Expr_any (fq (he pins s σ H _ I h) λv s1 ⟨x,H1,I1,r1,q1⟩=>⟨σ,H1,I1,q1⟩) I.quiet hs
def R5 (te:TE):TS:=λD σ H=>te σ H D.rt
theorem aD (he:PE X e te):PS X (.Return (j? e) pos) (R5 te):=by
 refine⟨?_⟩
 intro pins s σ H D I h;exact wpAny_Return_some (fq (he pins s σ H _ I h) λv s1 ⟨x,H1,I1,r1,q1⟩=>⟨x,σ,H1,I1,r1,q1⟩)
def YQ (c:TT)(t u:TS):TS:=λD σ H=>c σ H λb H1=>if b=true then t D σ H1 else u D σ H1
theorem bX(hc:PT X c tc)(ha:FH X a t)(hb:FH X b u):PS X (.If c a b pos) (YQ tc t u):=by
 refine⟨?_⟩
 intro pins s σ H D I h;refine wpAny_If (fq (hc pins s σ H _ I h) λd s1 ⟨H1,I1,q1⟩=>?_)
 cases d with
 | true=>exact ha pins s1 σ H1 D I1 q1
 | false=>exact hb pins s1 σ H1 D I1 q1
end
abbrev TG:=V->St->Hp->(St->Hp->Prop)->Prop
abbrev U8:=List V->St->Hp->(St->Hp->Prop)->Prop
def PG (X:Cx)(target:Expr)(t:TG):Prop:=
 ∀(pins:List (o?×Obj)) (s:u?) (σ:St) (H:Hp) (v:V) (u:l?) (Q:St->Hp->Prop),Inv X pins σ H s->RelV v u->t v σ H Q->
  L? (T? X.prog X.w) X.A (assign target X.env u) (λ_ s'=>∃σ' H',Inv X pins σ' H' s'/\Q σ' H') X.xe s
def U9 (X:Cx)(ts:List Expr)(t:U8):Prop:=
 ∀(pins:List (o?×Obj)) (s:u?) (σ:St) (H:Hp) (vs:List V) (us:List l?) (Q:St->Hp->Prop),Inv X pins σ H s->Vals vs us->t vs σ H Q->
  L? (T? X.prog X.w) X.A (assignInOrder ((assignEach ts X.env).map (·.2)) us) (λ_ s'=>∃σ' H',Inv X pins σ' H' s'/\Q σ' H') X.xe s
abbrev U_:=V->V->V->Hp->(Hp->Prop)->Prop
def Va (X:Cx)(t:U_):Prop:=
 ∀(pins:List (o?×Obj)) (s:u?) (σ:St) (H:Hp) (o i v:V) (ov iv u:l?) (Q:Hp->Prop),Inv X pins σ H s->RelV o ov->RelV i iv->RelV v u->t o i v H Q->
  L? (T? X.prog X.w) X.A (setItem ov iv u) (λ_ s'=>∃H',Inv X pins σ H' s'/\Q H') X.xe s
abbrev TIp:=V->V->Hp->VK->Prop
def PIp (X:Cx)(op:Operator)(t:TIp):Prop:=
 ∀(pins:List (o?×Obj)) (s:u?) (σ:St) (H:Hp) (x y:V) (v u:l?) (Q:VK),Inv X pins σ H s->RelV x v->RelV y u->t x y H Q->
  L? (T? X.prog X.w) X.A (inplaceOp op v u) (EP X pins σ Q) X.xe s
section
variable {X:Cx} {pos:Pos}
def gG (i:Nat):TG:=λv σ H Q=>Q (σ.set i (j? v)) H
theorem aA(hN:X.N.Nodup)(hi:X.N[i]?=j? x)(hx:Loc X.env.scope x)(hf:X.fn x=true\/X.env.scope.names.lookup x=j? .local:=by first|exact .inl rfl|exact .inr rfl|assumption):PG X (.Name x pos) (gG i):=by
 intro pins s σ H v u Q I r h;exact wpAny_assign_Name (qY I hN hi hx r (λs' I'=>⟨_,H,I',h⟩) hf)
def R6:U8:=λvs σ H Q=>vs=[]/\Q σ H
inductive FL (t:TG)(u:U8)(vs:List V)(σ:St)(H:Hp)(Q:St->Hp->Prop):Prop where
 | mk (v r:_) (c5:vs=v::r) (c6:t v σ H λσ' H'=>u r σ' H' Q)
theorem cT:U9 X [] R6:=by
 intro pins s σ H vs us Q I r h;obtain⟨e,h⟩:=h;subst e;cases r;exact assignInOrder_nil ⟨σ,H,I,h⟩
theorem aQ(h1:PG X e t)(h2:U9 X es u)
  (hs:(assignEach (e::es) X.env).map (·.2)=assign e X.env::(assignEach es X.env).map (·.2):=by rfl):U9 X (e::es) (FL t u):=by
 intro pins s σ H vs us Q I r h;obtain⟨v,vr,e1,h⟩:=h;subst e1;cases r with
 | cons r rr=>
  rw[hs];refine assignInOrder_cons (fq (h1 pins s σ H _ _ _ I r h) λ_ s1 ⟨σ1,H1,I1,q1⟩=>?_)
  exact h2 pins s1 σ1 H1 _ _ Q I1 rr q1
inductive Pk (K:bK)(n:Nat)(t:U8)(v:V)(σ:St)(H:Hp)(Q:St->Hp->Prop):Prop where
 | mk (a xs:_) (c5:v=.ref a) (c6:iR K H a xs) (dS:xs.length=n) (fT:t xs σ H Q)
theorem R7(hc:X.calm=true)(h:U9 X es t)
  (hn:(assignEach es X.env).length=n:=by rfl) (hst:(assignEach es X.env).findIdx? (·.1)=q?:=by rfl):PG X (.Tuple es k pos) (Pk X.K n t):=by
 intro pins s σ H v u Q I r hw;obtain⟨a,xs,e1,hq,hl,hw⟩:=hw;subst e1;cases r;obtain⟨its,rv,ht,hz⟩:=I.tuple hq;refine assign_Tuple_tuple (I.ok.hd hc) ht (by simp[hn,<- hl,rv.length]) hst λh' hx=>?_
 have I1:Inv X pins σ H { s with heap:=h' }:=I.kept (t':=s.toks) λb o e=>hx b o (Ym (Yl e)) e
 exact h pins _ σ H xs _ Q I1 (by simpa using rv) hw
def YR (to ti:TE)(t:U_):TG:=λv σ H Q=>to σ H λo H1=>ti σ H1 λi H2=>t o i v H2 λH3=>Q σ H3
theorem uc(ho:PE X o to)(hi:PE X i ti)(hs:Va X t)
  (ha:∀v,assign (.Subscript o i pos) X.env v=(do
   let ov <- holding [v] (eval o X.env)
   let iv <- holding [v,ov] (eval i X.env)
   standAt pos
   holding [v,ov,iv] (setItem ov iv v)
   release [v,ov,iv] []):=by intro _;rfl):PG X (.Subscript o i pos) (YR to ti t):=by
 intro pins s σ H v u Q I r h;rw[ha];refine B? (wpAny_holding (fq (ho pins s σ H _ I h) λov s1 ⟨x,H1,I1,r1,q1⟩=>?_))
 refine B? (wpAny_holding (fq (hi pins s1 σ H1 _ I1 q1) λiv s2 ⟨y,H2,I2,r2,q2⟩=>?_))
 refine B? (wpAny_standAt (B? (wpAny_holding (fq (hs pins s2 σ H2 x y v ov iv u _ I2 r1 r2 r q2) λ_ s3 ⟨H3,I3,q3⟩=>?_))))
 exact wpAny_release ⟨σ,H3,I3,q3⟩
def Pn (te:TE)(g:TG):TS:=λD σ H=>te σ H λx H1=>g x σ H1 D.nx
theorem mD(he:PE X e te)(hg:PG X tg g)(hs:swapsWithSole [tg] e pos.line X.env=pure false:=by rfl)(hw:swappedStores [tg] e X.env=pure q?:=by rfl)
  (h1:(assignEach [tg] X.env).map (·.2)=[assign tg X.env]:=by rfl):PS X (.Assign [tg] e pos) (Pn te g):=by
 refine⟨?_⟩
 intro pins s σ H D I h;refine wpAny_Assign_stores (fq (he pins s σ H _ I h) λv s1 ⟨x,H1,I1,r1,q1⟩=>?_) hs hw
 rw[h1];exact fq (hg pins s1 σ H1 x v _ I1 r1 q1) λ_ s2 q=>q
theorem aE(hN:X.N.Nodup)(hi:X.N[i]?=j? x)(hx:Loc X.env.scope x)(he:PE X e te)(hs:swapsWith e (j? (.Name x pos')) pos.line X.env=pure false:=by rfl)(hf:X.fn x=true\/X.env.scope.names.lookup x=j? .local:=by first|exact .inl rfl|exact .inr rfl|assumption):
  PS X (.Assign [.Name x pos'] e pos) (Pn te (gG i)):=by
 refine⟨?_⟩
 intro pins s σ H D I h;refine wpAny_Assign_Name (fq (he pins s σ H _ I h) λv s1 ⟨y,H1,I1,r1,q1⟩=>?_) hs
 exact qY I1 hN hi hx r1 (λs2 I2=>⟨_,H1,I2,q1⟩) hf
inductive R8 (i j:Nat)(D:Ends)(σ:St)(vs:List V)(H1:Hp):Prop where
 | mk (v w:_) (c5:vs=[v,w]) (c6:D.nx ((σ.set i (j? v)).set j (j? w)) H1)
def YS (i j:Nat)(ta:TA):TS:=λD σ H=>ta σ H λvs H1=>R8 i j D σ vs H1
theorem HF {i j:Nat}{x y:Str}{a b:Expr}{ta:TA}{px py pt:Pos}{kt k2 pt2}(hc:X.calm=true)(hN:X.N.Nodup)(hi:X.N[i]?=j? x)(hj:X.N[j]?=j? y)(hij:i≠j)
  (hx:X.env.scope.names.lookup x=j? .local) (hy:X.env.scope.names.lookup y=j? .local) (ha:PA X [a,b] ta)
  (hw:swappedStores [.Tuple [.Name x px,.Name y py] kt pt] (.Tuple [a,b] k2 pt2) X.env=pure (j? [x,y]))
  (hs:swapsWithSole [.Tuple [.Name x px,.Name y py] kt pt] (.Tuple [a,b] k2 pt2) pos.line X.env=pure false:=by rfl):
  PS X (.Assign [.Tuple [.Name x px,.Name y py] kt pt] (.Tuple [a,b] k2 pt2) pos) (YS i j ta):=by
 refine⟨?_⟩
 intro pins s σ H D I h;rw[exec_Assign_arm];refine B? (wpAny_standAt ?_)
 rw[hs];refine B? (J? ?_)
 rw[Ww (by decide)]
 refine B? (Tuple_ (fq (ha _ pins s σ H _ I h) λus s1 ⟨vs,H1,I1,r1,q1⟩=>?_))
 obtain⟨v,w,e1,q1⟩:=q1;subst e1;obtain⟨u1,u2,rfl,rv,rw'⟩:∃u1 u2,us=[u1,u2]/\RelV v u1/\RelV w u2:=by
  cases r1 with
  | cons p q=>
   cases q with
   | cons p' q'=>
    cases q';exact⟨_,_,rfl,p,p'⟩
 refine wpAny_newObj_type ?_ (by show 2<=K?;decide)
 have I2:Inv X pins σ H1 { s1 with heap:=s1.heap.push { cls:=.type "tuple",data:=.seq [u1,u2].toArray } }:=I1.kept (t':=s1.toks) λb o e=>Yf _ e
 rw[hw];refine B? (J? ?_)
 show L? (T? X.prog X.w) X.A (do rule "assign.swapped-stores";let items <- unpackItems (.ref s1.heap.objs.size) 2 q?;assignInOrder [λv=>bindName X.env y v,λv=>bindName X.env x v] items.reverse;pure Flow.next) _ _ _
 refine B? (wpAny_rule (B? (unpackItems_tuple (items:=#[u1,u2]) (I.ok.hd hc) (IsTup.new s1.heap _) λh' hx'=>?_)))
 have I3:=I2.kept (h':=h') (t':=s1.toks) λb o e=>hx' b o (Ym (Yl e)) e
 show L? _ _ (assignInOrder [λv=>bindName X.env y v,λv=>bindName X.env x v] [u2,u1] >>= λ_=>pure Flow.next) _ _ _
 refine B? (assignInOrder_cons (wpAny_bindName (qY I3 hN hj (.inl hy) rw' (λs2 I4=>?_) (.inr hy))))
 refine assignInOrder_cons (wpAny_bindName (qY I4 hN hi (.inl hx) rv (λs3 I5=>assignInOrder_nil (J? ?_)) (.inr hx)))
 rw[List.set_comm _ _ (Ne.symm hij)] at I5;exact⟨_,H1,I5,q1⟩
inductive YT (i:Nat)(te:TE)(ti:TIp)(D:Ends)(σ:St)(H:Hp):Prop where
 | mk (x:_) (c5:σ[i]?=j? (j? x)) (c6:te σ H λy H1=>ti x y H1 λz H2=>D.nx (σ.set i (j? z)) H2)
theorem Mj(hN:X.N.Nodup)(hi:X.N[i]?=j? x)(hx:Loc X.env.scope x)(he:PE X e te)(ho:PIp X op ti)(hf:X.fn x=true\/X.env.scope.names.lookup x=j? .local:=by first|exact .inl rfl|exact .inr rfl|assumption):
  PS X (.AugAssign (.Name x pos') op e pos) (YT i te ti):=by
 refine⟨?_⟩
 intro pins s σ H D I h;obtain⟨v,e1,h⟩:=h;obtain⟨m,hn,hl⟩:=I.loc;have vis:Ur X.env.scope x:=by rcases hx with k|k;exact .inl k;exact .inr (.inl k)
 obtain⟨u,r,l⟩:=hl i x v hi e1 vis;refine wpAny_AugAssign_Name ?_
 have go:L? (T? X.prog X.w) X.A (eval e X.env) (λw s₂=>L? (T? X.prog X.w) X.A (inplaceOp op u w) (λr s₃=>L? (T? X.prog X.w) X.A (storeName X.env x r) (λ_=>SP X pins D .next) X.xe s₃) X.xe s₂) X.xe s:=by
  refine fq (he pins s σ H _ I h) λw s1 ⟨y,H1,I1,r1,q1⟩=>?_
  refine fq (ho pins s1 σ H1 v y u w _ I1 r r1 q1) λz s2 ⟨zv,H2,I2,r2,q2⟩=>?_
  exact qY I2 hN hi hx r2 (λs3 I3=>⟨_,H2,I3,q2⟩) hf
 rcases l with ⟨hk,hm⟩|⟨hk,c,hc,hcell⟩
 ·exact wpAny_loadName_local I.ok.kind hk hn hm go
 ·rcases hk with hk|hk
  ·exact wpAny_loadName_cell I.ok.kind hk hc hcell go
  ·rcases hx with k|k
   ·have:X.env.scope.names.lookup x=j? .free:=hk
    rw[k] at this;cases this
   ·have:X.env.scope.names.lookup x=j? .free:=hk
    rw[k] at this;cases this
end
section
variable {X:Cx} {pos:Pos}
def Ml (c:TT)(tb:TS):TS:=λD σ H=>∃W:Nat->St->Hp->Prop,(∃m,W m σ H)/\∀m σ H,W m σ H->
 c σ H λb H1=>if b=true then ∃N:St->Hp->Prop,(∀σ' H',N σ' H'->∃m',m'<m/\W m' σ' H')/\tb { D with nx:=N,ct:=N,bk:=D.nx } σ H1 else D.nx σ H1
theorem iW(hp:PassesOwn (T? X.prog X.w) X.A X.env X.xe)(hc:PT X c tc)(hb:FH X body tb):PS X (.While c body [] pos) (Ml tc tb):=by
 refine⟨?_⟩
 intro pins s σ H D I h;obtain⟨W,⟨m0,w0⟩,turn⟩:=h;refine wpAny_While (codeAny_whileLoop (λn s'=>∃σ' H',Inv X pins σ' H' s'/\W n σ' H') ?_ m0 ⟨σ,H,I,w0⟩)
 rintro n s1 ⟨σ1,H1,I1,w1⟩;refine wpAny_passesOwn hp (fq (hc pins s1 σ1 H1 _ I1 (turn n σ1 H1 w1)) λb s2 ⟨H2,I2,q2⟩=>?_)
 cases b with
 | true=>
  obtain⟨N,hN,q2⟩:=q2;rw[Wx rfl];refine wpAny_passesOwn hp (fq (hb pins s2 σ1 H2 _ I2 q2) λf s3 q3=>?_)
  cases f with
  | next=>
   obtain⟨σ3,H3,I3,n3⟩:=q3;obtain⟨m',hm,w3⟩:=hN σ3 H3 n3;exact⟨m',hm,σ3,H3,I3,w3⟩
  | cont=>
   obtain⟨σ3,H3,I3,n3⟩:=q3;obtain⟨m',hm,w3⟩:=hN σ3 H3 n3;exact⟨m',hm,σ3,H3,I3,w3⟩
  | brk=>exact q3
  | ret v=>exact q3
 | false=>
  rw[Ww E?];exact wpAny_execs_nil ⟨σ1,H2,I2,q2⟩
end
structure It where
 go:Nat->Hp->Prop
 R9:Nat->Hp->V->Hp->Prop
 stop:Nat->Hp->Prop
def oS (X:Cx)(pins:List (o?×Obj))(H:Hp)(b:o?):Prop:=
 H b=q?/\b≠X.env.locals/\b ∉ X.fs/\(b∈X.ex\/X.s₀.heap.objs.size<=b)/\(∀x c,X.env.cells.lookup x=j? c->c≠b)/\∀p∈X.pn++pins,p.1≠b
theorem Inv.yC(I:Inv X pins σ H s)(hb:s.heap.objs.size<=b)(hn:H' b=q?):oS X pins H' b:=by
 refine⟨hn,Nat.ne_of_gt (Yj I.lt hb),I.YI hb,.inr (Ys I.sz hb),λx c e z=>?_,λp hp z=>?_⟩
 ·obtain⟨v,q⟩:=I.cell x c e
  exact W3 (Yj q.lt (by rw[z];exact hb)) (Zb _)
 ·exact W3 (Yj (Yl (I.pin p hp).1) (by rw[z];exact hb)) (Zb _)
structure Turn (P:F?)(w:H?)(K:bK)(tg:Expr)(J:It)(fp:List o?)(it:o?)(tn:Nat->Q?->Prop):Prop where
 mem:it∈fp
 obj:∀i h,tn i h->∀b∈fp,∃o,h.get? b=j? o/\∀v,o.data≠.cell v
 keep:∀i h h',tn i h->(∀b∈fp,∀o,h.get? b=j? o->h'.get? b=j? o)->tn i h'
 item:∀(X:Cx),X.prog=P->X.w=w->X.K=K->X.calm=true->∀(i:Nat) (pins:List (o?×Obj)) (s:u?) (σ:St) (H:Hp) (E:l?->u?->Prop),Inv X pins σ H s->(∀b∈fp,oS X pins H b)->tn i s.heap->J.go i H->
  L? (T? P w) X.A (pyNext (.ref it)) (λr s1=>∃u,r=j? u/\
   L? (T? P w) X.A (letOwnedTupleGo tg (.ref it) u) (λ_ s2=>∃x H',Inv X pins σ H' s2/\RelV x u/\J.R9 i H x H'/\tn (i+1) s2.heap/\∀b∈fp,H' b=q?) E s1) E s
 done:∀(X:Cx),X.prog=P->X.w=w->X.K=K->X.calm=true->∀(i:Nat) (pins:List (o?×Obj)) (s:u?) (σ:St) (H:Hp) (E:l?->u?->Prop),Inv X pins σ H s->(∀b∈fp,oS X pins H b)->tn i s.heap->J.stop i H->
  L? (T? P w) X.A (pyNext (.ref it)) (λr s1=>r=q?/\Inv X pins σ H s1) E s
 self:∀(A:C!) (i:Nat) (s:u?) (Q:l?->u?->Prop) (E:l?->u?->Prop),tn i s.heap->Q (.ref it) s->L? (T? P w) A (pyIter (.ref it)) Q E s
abbrev TI:=St->Hp->(It->Hp->Prop)->Prop
def PIE (X:Cx)(pins:List (o?×Obj))(σ:St)(tg:Expr)(R:It->Hp->Prop)(itv:l?)(s2:u?):Prop:=
 ∃(it:o?) (fp:List o?) (tn:Nat->Q?->Prop) (J:It) (H':Hp),itv=.ref it/\Inv X pins σ H' s2/\Turn X.prog X.w X.K tg J fp it tn/\tn 0 s2.heap/\(∀b∈fp,oS X pins H' b)/\R J H'
def PI (X:Cx)(tg iter:Expr)(wi:TI):Prop:=
 ∀(pins:List (o?×Obj)) (s:u?) (σ:St) (H:Hp) (R:It->Hp->Prop),Inv X pins σ H s->wi σ H R->
  L? (T? X.prog X.w) X.A (eval iter X.env) (λv s1=>L? (T? X.prog X.w) X.A (pyIter v) (PIE X pins σ tg R) X.xe s1) X.xe s
theorem Mm(ho:s.heap.get? it=j? o)(hc:o.cls=.type n)(hd:o.data=.fields vs)
    (hn:["enumerate","zip","dict_itemiterator","dict_reverseitemiterator","odict_iterator","itertools.zip_longest","itertools.pairwise"].contains n=false) (hQ:Q () s):L? M A (letOwnedTupleGo tg (.ref it) u) Q E s:=by
  unfold letOwnedTupleGo;cases tg <;> first
    | exact J? hQ
    | (cases u <;> first
        | exact J? hQ
        | (refine B? (wpAny_load ho ?_)
           rw[hc,hd];show L? M A (if (["enumerate","zip","dict_itemiterator","dict_reverseitemiterator","odict_iterator","itertools.zip_longest","itertools.pairwise"].contains n && vs[0]? == j? (rawInt _))=true then _ else _) Q E s
           rw[Ww (by intro h;rw[hn,Bool.false_and] at h;cases h)]
           exact J? hQ))
def Ut (K:bK)(a:o?):It:=
 ⟨λi H=>∃xs x,aU K H a xs/\xs[i]?=j? x,λi H x H'=>H'=H/\∀xs,aU K H a xs->xs[i]?=j? x,λi H=>∃xs,aU K H a xs/\xs.length<=i⟩
def OT (lo:Int)(n:Nat):It:=⟨λi _=>i<n,λi H x H'=>H'=H/\x=.int (lo+i),λi _=>n<=i⟩
theorem KW {P:F?}{w:H?}{K:bK}{tg:Expr}(a it:o?):Turn P w K tg (Ut K a) [it] it (λi h=>h.IsListIter it a i) where
 mem:=by simp
 obj:=λi h st b hb=>by
  have e:b=it:=by simpa using hb
  subst e;obtain⟨o,e,c,d⟩:=st;exact⟨o,e,λv z=>by rw[d] at z;cases z⟩
 keep:=λi h h' st k=>st.at λo e=>k it (by simp) o e
 item:=by
  intro X hP hw hK hc i pins s σ H E I hf st hg;subst hP hw hK;obtain⟨xs,x,hq,hx⟩:=hg;obtain⟨its,rv,p,hz⟩:=I.list hq;obtain⟨u,hu,ru⟩:=rv.get hx;obtain⟨f0,f1,f2,f3,f4,f5⟩:=hf it (by simp)
  refine wpAny_pyNext_list_item st p.isList (x:=u) (by simpa using hu) λh' st' sb=>?_
  have I1:Inv X pins σ H { s with heap:=h' }:=I.turned (t':=s.toks) (λb o hb e=>(sb.2 b hb).trans e) f0 f1 f3 f4 f5
  obtain⟨o,e,c,d⟩:=id st';exact⟨u,rfl,Mm (s:={ s with heap:=h' }) e c d (by decide) ⟨x,H,I1,ru,⟨rfl,λys hy=>by rw[I.u7 hy hq];exact hx⟩,st',λb hb=>(hf b hb).1⟩⟩
 done:=by
  intro X hP hw hK hc i pins s σ H E I hf st hg;subst hP hw hK;obtain⟨xs,hq,hx⟩:=hg;obtain⟨its,rv,p,hz⟩:=I.list hq;obtain⟨f0,f1,f2,f3,f4,f5⟩:=hf it (by simp)
  have hl:=rv.length;exact wpAny_pyNext_list_end (I.ok.hd hc) st p.isList (by simp;omega) λh' eb=>⟨rfl,I.turned (t':=s.toks) (λb o hb e=>eb b o hb e) f0 f1 f3 f4 f5⟩
 self:=λ_ _ _ _ _ st h=>wpAny_pyIter_listiter st h
theorem HG {P:F?}{w:H?}{K:bK}{tg:Expr}(it:o?)(lo:Int)(n:Nat):Turn P w K tg (OT lo n) [it] it (λi h=>IsRangeIter h it (lo+(i:Nat)*1) ((n:Int)-(i:Nat)) 1) where
 mem:=by simp
 obj:=λi h st b hb=>by
  have e:b=it:=by simpa using hb
  subst e;exact⟨_,st,λv z=>by
   have z':Data.fields _=Data.cell v:=z;cases z'⟩
 keep:=λi h h' st k=>k it (by simp) _ st
 item:=by
  intro X hP hw hK hc i pins s σ H E I hf st hg;subst hP hw hK;obtain⟨f0,f1,f2,f3,f4,f5⟩:=hf it (by simp)
  have W:=Walks.range (prog:=X.prog) (w:=X.w) (I.ok.hd hc) it lo 1 n;refine W.item i s _ _ hg st λv h' tk hv st' kk=>?_
  obtain⟨t,rfl⟩:=hv;have I1:Inv X pins σ H { s with heap:=h',toks:=tk }:=I.turned (λb o hb e=>kk b o (by simpa using hb) e) f0 f1 f3 f4 f5
  refine⟨_,rfl,Mm (s:={ s with heap:=h',toks:=tk }) (n:="range_iterator") st' rfl rfl (by decide) ⟨.int (lo+i),H,I1,⟨t,?_⟩,⟨rfl,rfl⟩,st',λb hb=>(hf b hb).1⟩⟩
  rw[Int.mul_one]
 done:=by
  intro X hP hw hK hc i pins s σ H E I hf st hg;subst hP hw hK;obtain⟨f0,f1,f2,f3,f4,f5⟩:=hf it (by simp)
  exact wpAny_pyNext_range_end (I.ok.hd hc) st (by have:n<=i:=hg;omega) λh' eb=>⟨rfl,I.turned (t':=s.toks) (λb o hb e=>eb b o hb e) f0 f1 f3 f4 f5⟩
 self:=λ_ _ _ _ _ st h=>wpAny_pyIter_rangeiter st h
section
variable {X:Cx} {tg:Expr}
inductive Po (K:bK)(R:It->Hp->Prop)(x:V)(H1:Hp):Prop where
 | mk (a:_) (c5:x=.ref a) (c6:(∃xs,aU K H1 a xs)) (dS:R (Ut K a) H1)
def Ri (K:bK)(tl:TE):TI:=λσ H R=>tl σ H λx H1=>Po K R x H1
theorem Pq(hl:PE X l tl):PI X tg l (Ri X.K tl):=by
 intro pins s σ H R I h;refine fq (hl pins s σ H _ I h) λv s1 ⟨x,H1,I1,r1,q1⟩=>?_
 obtain⟨a,e,⟨xs,hq⟩,q⟩:=q1;subst e;cases r1;obtain⟨its,rv,p,hz⟩:=I1.list hq;refine wpAny_pyIter_list p.isList ?_
 refine⟨s1.heap.objs.size,[s1.heap.objs.size],_,_,H1,rfl,I1.kept (t':=s1.toks) λb o e=>Yf _ e,KW a _,⟨_,Yw _ rfl,rfl,rfl⟩,λb hb=>?_,q⟩
 have e:b=s1.heap.objs.size:=by simpa using hb
 subst e;exact I1.yC (Yd _) (I1.hok.fresh (Yd _))
theorem FN{lo hi:Int}(I:Inv X pins σ H s)(h1:-(2 ^ 62)<=lo)(h2:lo<2 ^ 62)(h3:-(2 ^ 62)<=hi)(h4:hi<2 ^ 62)
  (q:R (OT lo (hi-lo).toNat) H):L? (T? X.prog X.w) X.A (pyIter (.ref s.heap.objs.size)) (PIE X pins σ tg R) E { s with heap:=s.heap.push { cls:=.type "range",data:=.fields #[.int lo t,.int hi u,.int 1 v] },toks:=tk }:=by
 refine wpAny_pyIter_range (IsRange.new ..) (small_one h1 h2 h3 h4) ?_
 have I1:Inv X pins σ H { s with heap:=s.heap.push { cls:=.type "range",data:=.fields #[.int lo t,.int hi u,.int 1 v] },toks:=tk }:=I.kept λb o e=>Yf _ e
 refine⟨(s.heap.push { cls:=.type "range",data:=.fields #[.int lo t,.int hi u,.int 1 v] }).objs.size,[(s.heap.push { cls:=.type "range",data:=.fields #[.int lo t,.int hi u,.int 1 v] }).objs.size],_,_,H,rfl,
  I1.kept (t':=tk) λb o e=>Yf _ e,HG _ lo (hi-lo).toNat,?_,λb hb=>?_,q⟩
 ·have e1:lo+((0:Nat):Int)*1=lo:=by simp
  have e2:(((hi-lo).toNat:Nat):Int)-((0:Nat):Int)=Builtin.Range.rangeSize lo hi 1:=by rw[rangeSize_one];split <;> omega
  show IsRangeIter _ _ (lo+((0:Nat):Int)*1) ((((hi-lo).toNat:Nat):Int)-((0:Nat):Int)) 1
  rw[e1,e2];exact Yw _ rfl
 ·have e:b=(s.heap.push { cls:=.type "range",data:=.fields #[.int lo t,.int hi u,.int 1 v] }).objs.size:=by simpa using hb
  subst e;exact I1.yC (Yd _) (I1.hok.fresh (Yd _))
inductive Pr  (R:It->Hp->Prop)(vs:List V)(H1:Hp):Prop where
 | mk (j:Int) (c5:vs=[.int j]) (c6:-(2 ^ 62)<=j) (dS:j<2 ^ 62) (fT:R (OT 0 j.toNat) H1)
def Vb (ta:TA):TI:=λσ H R=>ta σ H λvs H1=>Pr  R vs H1
inductive Pu  (R:It->Hp->Prop)(vs:List V)(H1:Hp):Prop where
 | mk (i j:Int) (c5:vs=[.int i,.int j]) (c6:(-(2 ^ 62)<=i/\i<2 ^ 62/\-(2 ^ 62)<=j/\j<2 ^ 62)) (dS:R (OT i (j-i).toNat) H1)
def Vc (ta:TA):TI:=λσ H R=>ta σ H λvs H1=>Pu  R vs H1
theorem bI(hg:Gl X "range")(hm:X.mg "range"=q?)(ha:PA X [a] ta)(hs:I? [a] X.env=[(false,eval a X.env)]:=by rfl):PI X tg (.Call (.Name "range" p) [a] [] pos) (Vb ta):=by
 intro pins s σ H R I h;refine Call_ (nU I hg hm boot_range (P! (fq (ha pos pins s σ H _ I h) λus s1 ⟨vs,H1,I1,r1,q1⟩=>?_) hs rfl))
 obtain⟨j,e,q1,q2,q⟩:=q1;subst e;cases r1 with
 | cons r rr=>
  cases rr;obtain⟨t,rfl⟩:=r;exact call_range_1 (FN I1 (by omega) (by omega) q1 q2 (by simpa using q))
theorem l_(hg:Gl X "range")(hm:X.mg "range"=q?)(ha:PA X [a,b] ta)(hs:I? [a,b] X.env=[(false,eval a X.env),(false,eval b X.env)]:=by rfl)(hs2:I? [b] X.env=[(false,eval b X.env)]:=by rfl):
  PI X tg (.Call (.Name "range" p) [a,b] [] pos) (Vc ta):=by
 intro pins s σ H R I h;refine Call_ (nU I hg hm boot_range (P! (fq (ha pos pins s σ H _ I h) λus s1 ⟨vs,H1,I1,r1,q1⟩=>?_) (by rw[hs,hs2]) (by rw[hs2];rfl)))
 obtain⟨i,j,e,⟨q1,q2,q3,q4⟩,q⟩:=q1;subst e;cases r1 with
 | cons r rr=>
  cases rr with
  | cons r' rr=>
   cases rr;obtain⟨t,rfl⟩:=r;obtain⟨t',rfl⟩:=r';exact call_range_2 (FN I1 q1 q2 q3 q4 q)
def YU (wi:TI)(g:TG)(tb:TS):TS:=λD σ H=>wi σ H λJ H1=>∃W:Nat->Nat->St->Hp->Prop,(∃m,W 0 m σ H1)/\∀i m σ H,W i m σ H->
 (J.stop i H/\D.nx σ H)\/(J.go i H/\∃N:St->Hp->Prop,(∀σ' H',N σ' H'->∃m',m'<m/\W (i+1) m' σ' H')/\∀x H',J.R9 i H x H'->g x σ H' λσ2 H2=>tb { D with nx:=N,ct:=N,bk:=D.nx } σ2 H2)
def wo (fp:List o?)(h:Q?):List (o?×Obj):=fp.filterMap λb=>(h.get? b).map λo=>(b,o)
theorem fU(hb:b∈fp)(e:h.get? b=j? o):(b,o)∈wo fp h:=List.mem_filterMap.mpr ⟨b,hb,by rw[e];rfl⟩
theorem KY(hp:p∈wo fp h):p.1∈fp/\h.get? p.1=j? p.2:=by
 obtain⟨b,hb,e⟩:=List.mem_filterMap.mp hp;cases q:h.get? b with
 | none=>rw[q] at e;cases e
 | some o=>
  rw[q] at e;have e':(b,o)=p:=N? e;subst e';exact⟨hb,q⟩
theorem Inv.pinned(I:Inv X pins σ H s)(hf:∀b∈fp,oS X pins H b)(ho:∀b∈fp,∃o,s.heap.get? b=j? o/\∀v,o.data≠.cell v):Inv X (pins++wo fp s.heap) σ H s:=
 I.JG λp hp=>(List.mem_append.mp hp).elim (λz=>I.pin p (Yn _ z)) λz=>by
  obtain⟨hb,e⟩:=KY z;obtain⟨f0,f1,f2,_⟩:=hf p.1 hb;obtain⟨o,e',d⟩:=ho p.1 hb;rw[e] at e';cases e';exact⟨e,f0,f1,f2,d⟩
theorem Inv.oU(I:Inv X (pins++pl) σ H s):Inv X pins σ H s:=I.JG λp hp=>I.pin p (Yn _ (Zk _ hp))
theorem cE(hp:PassesOwn (T? X.prog X.w) X.A X.env X.xe)(hc:X.calm=true)(hi:PI X tg iter wi)(hg:PG X tg g)(hb:FH X body tb)
  (hs:∀x,foldedSetIterable iter X.env x=pure x:=by intro _;rfl):PS X (.For tg iter body [] pos) (YU wi g tb):=by
 refine⟨?_⟩
 intro pins s σ H D I h;refine wpAny_For (fq (hi pins s σ H _ I h) λv s1 h1=>fq h1 λitv s2 h2=>?_) hs
 obtain⟨it,fp,tn,J,H2,e,I2,T,st2,f2,W,⟨m0,w0⟩,turn⟩:=h2;subst e;have zW:∀ {H':Hp},(∀b∈fp,H' b=q?)->∀b∈fp,oS X pins H' b:=λhn b hb=>⟨hn b hb,(f2 b hb).2⟩
 refine codeAny_forLoop_any (λn s'=>∃i σ' H',Inv X pins σ' H' s'/\tn i s'.heap/\(∀b∈fp,H' b=q?)/\W i n σ' H') ?_ m0 ⟨0,σ,H2,I2,st2,λb hb=>(f2 b hb).1,w0⟩
 rintro n s3 ⟨i,σ3,H3,I3,st3,Rj,w3⟩;rcases turn i n σ3 H3 w3 with ⟨stop,qn⟩|⟨go,N,hN,step⟩
 ·refine wpAny_passesOwn hp (fq (T.done X rfl rfl rfl hc i pins s3 σ3 H3 X.xe I3 (zW Rj) st3 stop) λr s4 ⟨hr,I4⟩=>?_)
  subst hr;exact wpAny_execs_nil ⟨σ3,H3,I4,qn⟩
 ·refine wpAny_passesOwn hp (fq (T.item X rfl rfl rfl hc i pins s3 σ3 H3 X.xe I3 (zW Rj) st3 go) λr s4 ⟨u,hr,h4⟩=>?_)
  subst hr;refine wpAny_passesOwn hp (fq h4 λ_ s5 ⟨x,H5,I5,r5,y5,Mn,Vd⟩=>?_)
  have Ve:=I5.pinned (zW Vd) (T.obj _ _ Mn);refine wpAny_passesOwn hp (fq (hg _ s5 σ3 H5 x u _ Ve r5 (step x H5 y5)) λ_ s6 ⟨σ6,H6,I6,q6⟩=>?_)
  refine wpAny_passesOwn hp (fq (hb _ s6 σ6 H6 _ I6 q6) λf s7 q7=>?_)
  have again:∀ {σ7:St} {H7:Hp},Inv X (pins++wo fp s5.heap) σ7 H7 s7->N σ7 H7->∃m,m<n/\∃i σ' H',Inv X pins σ' H' s7/\tn i s7.heap/\(∀b∈fp,H' b=q?)/\W i m σ' H':=λ{σ7 H7} I7 n7=>by
   obtain⟨m',hm,w7⟩:=hN σ7 H7 n7;refine⟨m',hm,i+1,σ7,H7,I7.oU,T.keep _ _ _ Mn λb hb o e=>(I7.pin (b,o) (Yn _ (Yn _ (fU hb e)))).1,λb hb=>?_,w7⟩
   obtain⟨o,e,d⟩:=T.obj _ _ Mn b hb;exact(I7.pin (b,o) (Yn _ (Yn _ (fU hb e)))).2.1
  cases f with
  | next=>obtain⟨σ7,H7,I7,n7⟩:=q7;exact again I7 n7
  | cont=>obtain⟨σ7,H7,I7,n7⟩:=q7;exact again I7 n7
  | brk=>obtain⟨σ7,H7,I7,q7⟩:=q7;exact⟨σ7,H7,I7.oU,q7⟩
  | ret v=>obtain⟨x7,σ7,H7,I7,r7,q7⟩:=q7;exact⟨x7,σ7,H7,I7.oU,r7,q7⟩
end
theorem fV {K:bK}{a:o?}{xs:List V}{g:TG}{tb:TS}{D:Ends}{σ:St}{H:Hp}(Pv:Nat->St->Hp->Prop)(h0:Pv 0 σ H)(hl:∀i σ H,i<=xs.length->Pv i σ H->aU K H a xs)
  (hs:∀i x σ H,xs[i]?=j? x->Pv i σ H->g x σ H λσ2 H2=>tb { D with nx:=Pv (i+1),ct:=Pv (i+1),bk:=D.nx } σ2 H2) (hd:∀σ H,Pv xs.length σ H->D.nx σ H):
  ∃W:Nat->Nat->St->Hp->Prop,(∃m,W 0 m σ H)/\∀i m σ H,W i m σ H->
   ((Ut K a).stop i H/\D.nx σ H)\/((Ut K a).go i H/\∃N:St->Hp->Prop,(∀σ' H',N σ' H'->∃m',m'<m/\W (i+1) m' σ' H')/\∀x H',(Ut K a).R9 i H x H'->g x σ H' λσ2 H2=>tb { D with nx:=N,ct:=N,bk:=D.nx } σ2 H2):=by
 refine⟨λi m σ H=>m=xs.length-i/\i<=xs.length/\Pv i σ H,⟨xs.length,by simp,Y2 _,h0⟩,?_⟩
 rintro i m σ H ⟨rfl,hi,p⟩;have q:=hl i σ H hi p;by_cases hlt:i<xs.length
 ·refine .inr ⟨⟨xs,xs[i],q,by simp[hlt]⟩,Pv (i+1),λσ' H' p'=>⟨xs.length-(i+1),by omega,rfl,hlt,p'⟩,λx H' y=>?_⟩
  obtain⟨e,y⟩:=y;subst e;exact hs i x σ _ (y xs q) p
 ·have e:i=xs.length:=by omega
  subst e;exact .inl ⟨⟨xs,q,Yd _⟩,hd σ H p⟩
theorem dF {lo:Int}{g:TG}{tb:TS}{D:Ends}(Pv:Nat->St->Hp->Prop)(h0:Pv 0 σ H)
  (hs:∀i σ H,i<n->Pv i σ H->g (.int (lo+i)) σ H λσ2 H2=>tb { D with nx:=Pv (i+1),ct:=Pv (i+1),bk:=D.nx } σ2 H2) (hd:∀σ H,Pv n σ H->D.nx σ H):
  ∃W:Nat->Nat->St->Hp->Prop,(∃m,W 0 m σ H)/\∀i m σ H,W i m σ H->
   ((OT lo n).stop i H/\D.nx σ H)\/((OT lo n).go i H/\∃N:St->Hp->Prop,(∀σ' H',N σ' H'->∃m',m'<m/\W (i+1) m' σ' H')/\∀x H',(OT lo n).R9 i H x H'->g x σ H' λσ2 H2=>tb { D with nx:=N,ct:=N,bk:=D.nx } σ2 H2):=by
 refine⟨λi m σ H=>m=n-i/\i<=n/\Pv i σ H,⟨n,by simp,Y2 _,h0⟩,?_⟩
 rintro i m σ H ⟨rfl,hi,p⟩;by_cases hlt:i<n
 ·refine .inr ⟨hlt,Pv (i+1),λσ' H' p'=>⟨n-(i+1),by omega,rfl,hlt,p'⟩,λx H' y=>?_⟩
  obtain⟨e,y⟩:=y;subst e y;exact hs i σ _ hlt p
 ·have e:i=n:=by omega
  subst e;exact .inl ⟨Yd _,hd σ H p⟩
abbrev R2:=V->V->Hp->VK->Prop
def q8 (X:Cx)(f:l?->l?->Sem l?)(r:R2):Prop:=
 ∀(pins:List (o?×Obj)) (s:u?) (σ:St) (H:Hp) (x y:V) (v u:l?) (Q:VK),Inv X pins σ H s->RelV x v->RelV y u->r x y H Q->
  L? (T? X.prog X.w) X.A (f v u) (EP X pins σ Q) X.xe s
def YV (X:Cx)(f:l?->Sem l?)(r:V->Hp->VK->Prop):Prop:=
 ∀(pins:List (o?×Obj)) (s:u?) (σ:St) (H:Hp) (x:V) (v:l?) (Q:VK),Inv X pins σ H s->RelV x v->r x H Q->
  L? (T? X.prog X.w) X.A (f v) (EP X pins σ Q) X.xe s
def qM (X:Cx)(f:l?)(r:List V->Hp->VK->Prop):Prop:=
 ∀(pins:List (o?×Obj)) (s:u?) (σ:St) (H:Hp) (xs:List V) (us:List l?) (Q:VK),Inv X pins σ H s->Vals xs us->r xs H Q->
  L? (T? X.prog X.w) X.A (call f us) (EP X pins σ Q) X.xe s
def Uu (r:R2)(ta tb:TE):TE:=λσ H Q=>ta σ H λx H1=>tb σ H1 λy H2=>r x y H2 Q
def tUn (r:V->Hp->VK->Prop)(ta:TE):TE:=λσ H Q=>ta σ H λx H1=>r x H1 Q
inductive rI (C:Int->Int->Prop)(g:Int->Int->V)(x:V)(y:V)(H:Hp)(Q:VK):Prop where
 | mk (i j:_) (c5:x=.int i) (c6:y=.int j) (dS:C i j) (fT:Q (g i j) H)
inductive OU (g:Int->Int->V)(x:V)(y:V)(H:Hp)(Q:VK):Prop where
 | mk (i j:_) (c5:x=.int i) (c6:y=.int j) (dS:Q (g i j) H)
inductive rU (g:Int->V)(x:V)(H:Hp)(Q:VK):Prop where
 | mk (i:_) (c5:x=.int i) (c6:Q (g i) H)
section
variable {X:Cx} {a b c:Expr} {ta tb tc:TE} {pos:Pos}
theorem R_ (ha:PE X a ta)(hb:PE X b tb){R:V->V->Hp->Prop}(I:Inv X pins σ H s)
  (h:ta σ H λx H1=>tb σ H1 λy H2=>R x y H2) {f:l?->l?->Sem l?}
  (hf:∀v u s2 x y H2,Inv X pins σ H2 s2->RelV x v->RelV y u->R x y H2->L? (T? X.prog X.w) X.A (f v u) Q X.xe s2):
  L? (T? X.prog X.w) X.A (eval a X.env) (λv s₁=>L? (T? X.prog X.w) X.A (eval b X.env) (λu s₂=>L? (T? X.prog X.w) X.A (f v u) Q X.xe s₂) X.xe s₁) X.xe s:=by
 refine fq (ha pins s σ H _ I h) λv s1 ⟨x,H1,I1,r1,q1⟩=>?_
 refine fq (hb pins s1 σ H1 _ I1 q1) λu s2 ⟨y,H2,I2,r2,q2⟩=>?_
 exact hf v u s2 x y H2 I2 r1 r2 q2
theorem aM(ho:q8 X (binaryOp op) r)(ha:PE X a ta)(hb:PE X b tb):PE X (.BinOp a op b pos) (Uu r ta tb):=by
 refine⟨?_⟩
 intro pins s σ H Q I h;exact wpAny_BinOp (R_ ha hb I h λv u s2 x y H2 I2 rx ry q=>ho pins s2 σ H2 x y v u Q I2 rx ry q)
theorem tP(ho:YV X (unaryOp op) r)(ha:PE X a ta):PE X (.UnaryOp op a pos) (tUn r ta):=by
 refine⟨?_⟩
 intro pins s σ H Q I h;exact UnaryOp_ (fq (ha pins s σ H _ I h) λv s1 ⟨x,H1,I1,r1,q1⟩=>ho pins s1 σ H1 x v Q I1 r1 q1)
theorem Xs{g:Int->Int->Int}
  (rule:∀(i j:Int) (t u:Tok) (s:u?) (Q:l?->u?->Prop) (E:l?->u?->Prop),C i j->Q (.int (g i j) s.toks) { s with toks:=s.toks+1 }->L? (T? X.prog X.w) X.A (f (.int i t) (.int j u)) Q E s):
  q8 X f (rI C λi j=>.int (g i j)):=by
 intro pins s σ H x y v u Q I rx ry h;obtain⟨i,j,rfl,rfl,hc,q⟩:=h;obtain⟨t,rfl⟩:=rx;obtain⟨t',rfl⟩:=ry;exact rule i j t t' s _ _ hc ⟨.int (g i j),H,I.tok _,⟨_,rfl⟩,q⟩
theorem Pw{g:Int->Int->Int}
  (rule:∀(i j:Int) (t u:Tok) (s:u?) (Q:l?->u?->Prop) (E:l?->u?->Prop),Q (.int (g i j) s.toks) { s with toks:=s.toks+1 }->L? (T? X.prog X.w) X.A (f (.int i t) (.int j u)) Q E s):
  q8 X f (OU λi j=>.int (g i j)):=by
 intro pins s σ H x y v u Q I rx ry h;obtain⟨i,j,rfl,rfl,q⟩:=h;obtain⟨t,rfl⟩:=rx;obtain⟨t',rfl⟩:=ry;exact rule i j t t' s _ _ ⟨.int (g i j),H,I.tok _,⟨_,rfl⟩,q⟩
theorem Px{g:Int->Int->Bool}
  (rule:∀(i j:Int) (t u:Tok) (s:u?) (Q:l?->u?->Prop) (E:l?->u?->Prop),Q (.bool (g i j)) s->L? (T? X.prog X.w) X.A (f (.int i t) (.int j u)) Q E s):
  q8 X f (OU λi j=>.bl (g i j)):=by
 intro pins s σ H x y v u Q I rx ry h;obtain⟨i,j,rfl,rfl,q⟩:=h;obtain⟨t,rfl⟩:=rx;obtain⟨t',rfl⟩:=ry;exact rule i j t t' s _ _ ⟨.bl (g i j),H,I,rfl,q⟩
def Sa (i j:Int):Prop:=0<=j/\j<=1000000/\i.natAbs<2 ^ 64
theorem d9:q8 X (binaryOp .Add) (OU λi j=>.int (i+j)):=Pw λ_ _ _ _ _ _ _ q=>add_int q
theorem di:q8 X (binaryOp .Sub) (OU λi j=>.int (i-j)):=Pw λ_ _ _ _ _ _ _ q=>sub_int q
theorem dj:q8 X (binaryOp .Mod) (rI (λ_ j=>j≠0) λi j=>.int (i.fmod j)):=Xs λ_ _ _ _ _ _ _ hc q=>mod_int' hc q
theorem Sb:q8 X (binaryOp .Pow) (rI Sa λi j=>.int (i ^ j.toNat)):=Xs λ_ _ _ _ _ _ _ hc q=>pow_int_small hc.1 hc.2.1 hc.2.2 q
theorem Py:q8 X (inplaceOp .Add) (OU λi j=>.int (i+j)):=Pw λ_ _ _ _ _ _ _ q=>iadd_int q
theorem Pz:q8 X (inplaceOp .Sub) (OU λi j=>.int (i-j)):=Pw λ_ _ _ _ _ _ _ q=>isub_int q
theorem unI{g:Int->Int}
  (rule:∀(i:Int) (t:Tok) (s:u?) (Q:l?->u?->Prop) (E:l?->u?->Prop),Q (.int (g i) s.toks) { s with toks:=s.toks+1 }->L? (T? X.prog X.w) X.A (f (.int i t)) Q E s):
  YV X f (rU λi=>.int (g i)):=by
 intro pins s σ H x v Q I rx h;obtain⟨i,rfl,q⟩:=h;obtain⟨t,rfl⟩:=rx;exact rule i t s _ _ ⟨.int (g i),H,I.tok _,⟨_,rfl⟩,q⟩
theorem nV:YV X (unaryOp .USub) (rU λi=>.int (-i)):=unI λ_ _ _ _ _ q=>neg_int q
end
def Sd:V->V->Bool
 | .d8,.d8=>true | .d8,.int _=>true | .int _,.d8=>true | .d8,.bl _=>true | .bl _,.d8=>true | .d8,.str _=>true | .str _,.d8=>true
 | .int _,.int _=>true | .bl _,.bl _=>true | .str _,.str _=>true | .byt _,.byt _=>true
 | .int _,.str _=>true | .str _,.int _=>true | .bl _,.str _=>true | .str _,.bl _=>true
 | _,_=>false
def rEq:R2:=λx y H Q=>Sd x y=true/\Q (.bl (decide (x=y))) H
def rNe:R2:=λx y H Q=>Sd x y=true/\Q (.bl (!decide (x=y))) H
theorem JH:decide (V.int i=V.int j)=(i == j):=by
 rw[Bool.eq_iff_iff];simp
theorem Mp:decide (V.bl i=V.bl j)=(i == j):=by
 rw[Bool.eq_iff_iff];simp
theorem JI:decide (V.str i=V.str j)=(i == j):=by
 rw[Bool.eq_iff_iff];simp
theorem JK:decide (V.byt i=V.byt j)=(i.toList == j.toList):=by
 rw[Bool.eq_iff_iff];cases i;cases j;simp
section
variable {X:Cx} {a b c:Expr} {ta tb tc:TE} {pos:Pos}
theorem ck(I:Inv X pins σ H s)(q:Q (.bl k) H)(e:k=k'):EP X pins σ Q (.bool k') s:=by
 subst e;exact⟨.bl k,H,I,rfl,q⟩
theorem tQ:q8 X (N! .Eq) rEq:=by
 intro pins s σ H x y v u Q I rx ry h;obtain⟨hs,q⟩:=h;cases x with
 | d8=>
  cases rx;cases y with
  | d8=>cases ry;exact PySem.EqNone.eq_none_none (ck I q (by simp))
  | bl j=>cases ry;exact PySem.EqNone.eq_none_bool (ck I q (by simp))
  | int j=>obtain⟨t',rfl⟩:=ry;exact PySem.EqNone.eq_none_int (ck I q (by simp))
  | str j=>obtain⟨t',rfl⟩:=ry;exact PySem.EqNone.eq_none_str (ck I q (by simp))
  | _=>exact W3 (show false=true from hs) E?
 | bl i=>
  cases rx;cases y with
  | d8=>cases ry;exact PySem.EqNone.eq_bool_none (ck I q (by simp))
  | bl j=>cases ry;exact eq_bool (ck I q Mp)
  | str j=>obtain⟨t',rfl⟩:=ry;exact PySem.EqMixed.eq_bool_str (ck I q (by simp))
  | _=>exact W3 (show false=true from hs) E?
 | int i=>
  obtain⟨t,rfl⟩:=rx;cases y with
  | d8=>cases ry;exact PySem.EqNone.eq_int_none (ck I q (by simp))
  | int j=>obtain⟨t',rfl⟩:=ry;exact eq_int (ck I q JH)
  | str j=>obtain⟨t',rfl⟩:=ry;exact PySem.EqMixed.eq_int_str (ck I q (by simp))
  | _=>exact W3 (show false=true from hs) E?
 | str i=>
  obtain⟨t,rfl⟩:=rx;cases y with
  | d8=>cases ry;exact PySem.EqNone.eq_str_none (ck I q (by simp))
  | bl j=>cases ry;exact PySem.EqMixed.eq_str_bool (ck I q (by simp))
  | int j=>obtain⟨t',rfl⟩:=ry;exact PySem.EqMixed.eq_str_int (ck I q (by simp))
  | str j=>obtain⟨t',rfl⟩:=ry;exact eq_str (ck I q JI)
  | _=>exact W3 (show false=true from hs) E?
 | byt i=>
  obtain⟨t,rfl⟩:=rx;cases y with
  | byt j=>obtain⟨t',rfl⟩:=ry;exact PySem.W.eq_bytes (ck I q JK)
  | _=>exact W3 (show false=true from hs) E?
 | _=>cases y <;> exact W3 (show false=true from hs) E?
theorem FO:q8 X (N! .NotEq) rNe:=by
 intro pins s σ H x y v u Q I rx ry h;obtain⟨hs,q⟩:=h;cases x with
 | d8=>
  cases rx;cases y with
  | d8=>cases ry;exact PySem.EqNone.ne_none_none (ck I q (by simp))
  | bl j=>cases ry;exact PySem.EqNone.ne_none_bool (ck I q (by simp))
  | int j=>obtain⟨t',rfl⟩:=ry;exact PySem.EqNone.ne_none_int (ck I q (by simp))
  | str j=>obtain⟨t',rfl⟩:=ry;exact PySem.EqNone.ne_none_str (ck I q (by simp))
  | _=>exact W3 (show false=true from hs) E?
 | bl i=>
  cases rx;cases y with
  | d8=>cases ry;exact PySem.EqNone.ne_bool_none (ck I q (by simp))
  | bl j=>cases ry;exact ne_bool (ck I q (W1 not Mp))
  | str j=>obtain⟨t',rfl⟩:=ry;exact PySem.EqMixed.ne_bool_str (ck I q (by simp))
  | _=>exact W3 (show false=true from hs) E?
 | int i=>
  obtain⟨t,rfl⟩:=rx;cases y with
  | d8=>cases ry;exact PySem.EqNone.ne_int_none (ck I q (by simp))
  | int j=>obtain⟨t',rfl⟩:=ry;exact ne_int (ck I q (W1 not JH))
  | str j=>obtain⟨t',rfl⟩:=ry;exact PySem.EqMixed.ne_int_str (ck I q (by simp))
  | _=>exact W3 (show false=true from hs) E?
 | str i=>
  obtain⟨t,rfl⟩:=rx;cases y with
  | d8=>cases ry;exact PySem.EqNone.ne_str_none (ck I q (by simp))
  | bl j=>cases ry;exact PySem.EqMixed.ne_str_bool (ck I q (by simp))
  | int j=>obtain⟨t',rfl⟩:=ry;exact PySem.EqMixed.ne_str_int (ck I q (by simp))
  | str j=>obtain⟨t',rfl⟩:=ry;exact ne_str (ck I q (W1 not JI))
  | _=>exact W3 (show false=true from hs) E?
 | byt i=>
  obtain⟨t,rfl⟩:=rx;cases y with
  | byt j=>obtain⟨t',rfl⟩:=ry;exact PySem.W.ne_bytes (ck I q (W1 not JK))
  | _=>exact W3 (show false=true from hs) E?
 | _=>cases y <;> exact W3 (show false=true from hs) E?
theorem yd:q8 X (N! .Lt) (OU λi j=>.bl (decide (i<j))):=Px λ_ _ _ _ _ _ _ q=>lt_int q
theorem Rk:q8 X (N! .LtE) (OU λi j=>.bl (decide (i<=j))):=Px λ_ _ _ _ _ _ _ q=>le_int q
theorem oV:q8 X (N! .Gt) (OU λi j=>.bl (decide (j<i))):=Px λ_ _ _ _ _ _ _ q=>gt_int q
theorem Vf:q8 X (N! .GtE) (OU λi j=>.bl (decide (j<=i))):=Px λ_ _ _ _ _ _ _ q=>ge_int q
theorem a_ (b)(h:op≠.In:=by decide)(h2:op≠.NotIn:=by decide):behindInMarks op b=false:=by
 have e1:(op == CmpOp.In)=false:=by cases op <;> first|rfl|exact W3 rfl h
 have e2:(op == CmpOp.NotIn)=false:=by cases op <;> first|rfl|exact W3 rfl h2
 cases b <;> simp[behindInMarks,e1,e2]
theorem pY(ho:q8 X (N! op) r)(ha:PE X a ta)(hb:PE X b tb)(hm:behindInMarks op b=false):PE X (.Compare a [op] [b] pos) (Uu r ta tb):=by
 refine⟨?_⟩
 intro pins s σ H Q I h;exact wpAny_Compare1 (R_ ha hb I h λv u s2 x y H2 I2 rx ry q=>ho pins s2 σ H2 x y v u Q I2 rx ry q) hm
inductive PB  (Q:Bool->Hp->Prop)(x:V)(H':Hp):Prop where
 | mk (k:_) (c5:x=.bl k) (c6:Q k H')
def Vg (t:TE):TT:=λσ H Q=>t σ H λx H'=>PB  Q x H'
theorem aS(ho:q8 X (N! op) r)(ha:PE X a ta)(hb:PE X b tb)(hm:behindInMarks op b=false):PT X (.Compare a [op] [b] pos) (Vg (Uu r ta tb)):=by
 refine⟨?_⟩
 intro pins s σ H Q I h;refine wpAny_isTrue_Compare1 (fq (ha pins s σ H _ I h) λv s1 ⟨x,H1,I1,r1,q1⟩=>fq (hb pins s1 σ H1 _ I1 q1) λu s2 ⟨y,H2,I2,r2,q2⟩=>
  fq (ho pins s2 σ H2 x y v u _ I2 r1 r2 q2) λc s3 ⟨z,H3,I3,r3,k,e,q3⟩=>?_) hm
 subst e;cases r3;exact wpAny_truthy_bool ⟨H3,I3,q3⟩
def Se (r r':R2)(ta tb tc:TE):TE:=λσ H Q=>ta σ H λx H1=>tb σ H1 λy H2=>r x y H2 λz H3=>∃k,z=.bl k/\
 (if k=true then tc σ H3 λw' H4=>r' y w' H4 Q else Q (.bl false) H3)
theorem Mq(ho:q8 X (N! op) r)(ho':q8 X (N! op') r')(ha:PE X a ta)(hb:PE X b tb)(hc:PE X c tc)
  (hm:lastMarks [op,op'] [b,c]=false:=by with_unfolding_all rfl):PE X (.Compare a [op,op'] [b,c] pos) (Se r r' ta tb tc):=by
 refine⟨?_⟩
 intro pins s σ H Q I h;refine Compare_chain (fq (ha pins s σ H _ I h) λv s1 ⟨x,H1,I1,r1,q1⟩=>chain_link (fq (hb pins s1 σ H1 _ I1 q1) λu s2 ⟨y,H2,I2,r2,q2⟩=>
  fq (ho pins s2 σ H2 x y v u _ I2 r1 r2 q2) λd s3 ⟨z,H3,I3,r3,k,e,q3⟩=>?_)) hm
 subst e;cases r3;refine wpAny_truthy_bool ?_
 cases k with
 | false=>exact ite_ff ⟨.bl false,H3,I3,rfl,q3⟩
 | true=>exact ite_tt (chain_last (fq (hc pins s3 σ H3 _ I3 q3) λw' s4 ⟨z',H4,I4,r4,q4⟩=>ho' pins s4 σ H4 y z' u w' Q I4 r2 r4 q4))
theorem D4:(K?:Nat)<2 ^ 63:=by rw[C?];decide
theorem vals1(r:Vals [x] us):∃u,us=[u]/\RelV x u:=by
 cases r with
 | cons r1 r2=>cases r2;exact⟨_,rfl,r1⟩
theorem vals2(r:Vals [x,y] us):∃u w',us=[u,w']/\RelV x u/\RelV y w':=by
 cases r with
 | cons r1 r2=>
  cases r2 with
  | cons r3 r4=>cases r4;exact⟨_,_,rfl,r1,r3⟩
theorem FP:qM X (.builtin "abs") (λxs H Q=>∃i,xs=[.int i]/\Q (.int (if i<0 then -i else i)) H):=by
 intro pins s σ H xs us Q I r h;obtain⟨i,rfl,q⟩:=h;obtain⟨u,rfl,t,rfl⟩:=vals1 r;exact call_abs_int λu tk=>⟨.int (if i<0 then -i else i),H,I.tok _,⟨_,rfl⟩,q⟩
theorem KZ (hc:X.calm=true):qM X (.builtin "max") (λxs H Q=>∃i j,xs=[.int i,.int j]/\Q (.int (if j > i then j else i)) H):=by
 intro pins s σ H xs us Q I r h;obtain⟨i,j,rfl,q⟩:=h;obtain⟨u,w',rfl,⟨t,rfl⟩,⟨t',rfl⟩⟩:=vals2 r;refine max_two_ints (I.ok.hd hc) λh' tk k=>⟨_,H,I.kept k,?_,q⟩
 by_cases hj:j > i
 ·rw[Wx hj,Wx hj];exact⟨_,rfl⟩
 ·rw[Ww hj,Ww hj];exact⟨_,rfl⟩
theorem C4 (hc:X.calm=true):qM X (.builtin "min") (λxs H Q=>∃i j,xs=[.int i,.int j]/\Q (.int (if j<i then j else i)) H):=by
 intro pins s σ H xs us Q I r h;obtain⟨i,j,rfl,q⟩:=h;obtain⟨u,w',rfl,⟨t,rfl⟩,⟨t',rfl⟩⟩:=vals2 r;refine min_two_ints (I.ok.hd hc) λh' tk k=>⟨_,H,I.kept k,?_,q⟩
 by_cases hj:j<i
 ·rw[Wx hj,Wx hj];exact⟨_,rfl⟩
 ·rw[Ww hj,Ww hj];exact⟨_,rfl⟩
theorem C5:qM X (.type "int") (λxs H Q=>(∃i,xs=[.int i]/\Q (.int i) H)\/∃k,xs=[.bl k]/\Q (.int (if k then 1 else 0)) H):=by
 intro pins s σ H xs us Q I r h;rcases h with ⟨i,rfl,q⟩|⟨k,rfl,q⟩
 ·obtain⟨u,rfl,t,rfl⟩:=vals1 r
  exact call_int_int ⟨.int i,H,I,⟨_,rfl⟩,q⟩
 ·obtain⟨u,rfl,r1⟩:=vals1 r
  cases r1;exact call_int_bool ⟨.int (if k then 1 else 0),H,I.tok _,⟨_,rfl⟩,q⟩
end
structure HH (h:Q?)(x dx C:o?)(mA:Str->Option l?):Prop where
 obj:h.get? x=j? (PySem.W.instObj C dx)
 ns:h.Ns1 dx mA
 ne:dx≠x
theorem K0 {h:Q?}(n:h.Ns1 dx mA):∃od,h.get? dx=j? od/\∀name,PySem.W.lookIn name od=j? (mA name):=by
 obtain⟨o,es,ep,ho,hd,hk,_,hm⟩:=n;refine⟨o,ho,λname=>?_⟩
 have e:=hm name;unfold nsFind findBy at e;rw[<- Array.find?_toList] at e;unfold PySem.W.lookIn;rw[hd];dsimp only
 split
 ·rename_i y q
  rw[q] at e;exact W1 j? e
 ·rename_i q
  rw[q] at e;have a:es.toList.any (·.refKey)=false:=by
   rw[List.any_eq_false];intro y hy;obtain⟨z,t,hkey⟩:=hk y (Array.mem_toList_iff.mp hy);simp[DictEntry.refKey,hkey]
  have a':¬ es.toList.any (·.refKey)=true:=by rw[a];exact E?
  rw[Ww a'];exact W1 j? e
theorem HH.look(I:HH h x dx C mA):∃od,PySem.W.InstAt h x (PySem.W.instObj C dx) C (j? od)/\∀name,PySem.W.lookIn name od=j? (mA name):=
 let ⟨od,ho,hl⟩:=K0 I.ns
 ⟨od,⟨I.obj,rfl,rfl,ho⟩,hl⟩
section
variable {prog:F?} {w:H?} {A:C!} {E:l?->u?->Prop} {s:u?} {K:bK} {x dx C f:o?} {mA:Str->Option l?} {name:Str} {v:l?}
theorem get_map {expr:Bool}{Q:l?->u?->Prop}(X:K.In s.heap)(I:HH s.heap x dx C mA)(hg:PySem.W.plainGet K C name=true)(hh:PySem.W.hasDictIn K C=true)
  (ha:M? K (.ref C) name=j? q?) (hv:mA name=j? v) (hv':PySem.W.handedIn v=true) (h:Q v { s with toks:=s.toks+1 }):
  L? (T? prog w) A (getAttr (.ref x) name expr) Q E s:=by
 obtain⟨od,J,hl⟩:=I.look;exact PySem.W.get_value X J (PySem.W.plainGet_of hg).1 (PySem.W.findObj_own hh ha rfl (by rw[hl,hv])) hv' h
theorem Mr {pl:Sem Bool}{Q:l?×List l?->u?->Prop}(X:K.In s.heap)(I:HH s.heap x dx C mA)(hg:PySem.W.plainGet K C name=true)
  (hf:M? K (.ref C) name=j? (j? (.ref f))) (ht:PySem.W.isFn K (.ref f)=true) (hv:mA name=q?) (h:Q (.ref f,[.ref x]) s):
  L? (T? prog w) A (getMethod (.ref x) name pl) Q E s:=by
 obtain⟨od,J,hl⟩:=I.look;exact PySem.W.method_fn X J (PySem.W.plainGet_of hg).1 (PySem.W.plainGet_of hg).2 hf (beq_iff_eq.mp ht) (by show(PySem.W.lookIn name od).map (·.isSome)=j? false;rw[hl,hv];rfl) h
theorem PC {ns:List Str}{Q:Unit->u?->Prop}(X:K.In s.heap)(I:HH s.heap x dx C mA)
  (hs:M? K (.ref C) "__setattr__"=j? (j? (.builtin "object.__setattr__"))) (hp:PySem.W.plainOver K C=true) (ht:PySem.W.takerIn K C name=j? q?) (hh:PySem.W.hasDictIn K C=true)
  (hw:PySem.Within mA ns) (hsz:ns.length<=K?)
  (h:∀h',HH h' x dx C (λy=>if y=name then j? v else mA y)->Heap.SameBut dx s.heap h'->Q () { s with heap:=h',toks:=s.toks+2 }):
  L? (T? prog w) A (setAttr (.ref x) name v) Q E s:=by
 obtain⟨od,J,hl⟩:=I.look;refine PySem.W.set_plain X J hs (PySem.W.osa_open (s:={ s with toks:=s.toks+1 }) (r:=q?) X J hp ht λb=>?_)
 obtain⟨cd,hc,hd'⟩:=PySem.W.any_some hh;have hx:s.heap.get? x=j? ⟨.ref C,j? dx,.plain,#[]⟩:=I.obj;refine B? (J? (B? (B? (wpAny_loadPart hx (B? (PySem.W.Looks.here (s:={ s with toks:=s.toks+1 }) (PySem.W.looks_clsIn X hc) ?_))))))
 rw[hd'];refine J? (a:=j? dx) (B? (J? (B? ?_)))
 refine wpAny_nsSet1 (s:={ s with toks:=s.toks+1 }) I.ns λh' hn2 hs2=>?_
 obtain⟨oD,esD,epD,hoD,hdD,hcD⟩:=hn2.count (PySem.Within.cons name v hw);refine B? (wpAny_lookBehind hoD (by rw[hdD];exact pastItsLine_dict (Ys hcD (by rw[Zf];omega))) ?_)
 exact J? (h _ ⟨(hs2.2 _ (Ne.symm I.ne)).trans I.obj,hn2,I.ne⟩ hs2)
theorem Ms {R:Result->u?->Prop}{vs:List l?}{kw:List (Str×l?)}(X:K.In s.heap)(hm:PySem.W.makesIn K C=true)
  (hi:M? K (.ref C) "__init__"=j? (j? (.ref f))) (hf:PySem.W.typeIn K (.ref f)=j? (.type "function"))
  (h:codeAny (T? prog w) (A.under (.builtin "type.__call__" ⟨.ref C::vs,kw⟩)) (.call (.ref f) ⟨.ref (s.heap.objs.size+1)::vs,kw⟩) (PySem.W.InitBack (s.heap.objs.size+1) R)
   { s with heap:=(s.heap.push S!).push (PySem.W.instObj C s.heap.objs.size) }):
  codeAny (T? prog w) A (.call (.ref C) ⟨vs,kw⟩) R s:=by
 obtain⟨hh,g,d,t,os⟩:=s;exact PySem.W.make_core (PySem.W.makes_of X hm) (PySem.W.looks_findIn X hi) (λself=>PySem.W.bind_fn X self hf) (.inl rfl) h
end
def fm (f:Str)(v:V):List (Str×V)->List (Str×V)
 | []=>[(f,v)]
 | (g,x)::r=>if g=f then (g,v)::r else (g,x)::fm f v r
theorem ye (f g:Str)(v:V):∀fs:List (Str×V),(fm f v fs).lookup g=if g=f then j? v else fs.lookup g
 | []=>by
  show Z2 g [(f,v)]=_
  by_cases h:g=f
  ·have hb:(g == f)=true:=beq_iff_eq.mpr h
   simp only[Z2,hb,Wx h]
  ·have hb:(g == f)=false:=beq_eq_false_iff_ne.mpr h
   simp only[Z2,hb,Ww h]
 | (k,x)::r=>by
  have ih:=ye f g v r;rw[show fm f v ((k,x)::r)=(if k=f then (k,v)::r else (k,x)::fm f v r) from rfl]
  by_cases hk:k=f
  ·rw[Wx hk]
   by_cases h:g=k
   ·have hb:(g == k)=true:=beq_iff_eq.mpr h
    simp only[Z2,hb,Wx (h.trans hk)]
   ·have hb:(g == k)=false:=beq_eq_false_iff_ne.mpr h
    simp only[Z2,hb,Ww (λe:g=f=>h (e.trans hk.symm))]
  ·rw[Ww hk]
   by_cases h:g=k
   ·have hb:(g == k)=true:=beq_iff_eq.mpr h
    simp only[Z2,hb,Ww (λe:g=f=>hk (h.symm.trans e))]
   ·have hb:(g == k)=false:=beq_eq_false_iff_ne.mpr h
    simp only[Z2,hb]
    exact ih
theorem wu (f:Str)(v:V):∀fs:List (Str×V),f∈(fm f v fs).map (·.1)/\∀g,g∈fs.map (·.1)->g∈(fm f v fs).map (·.1)
 | []=>⟨by simp[fm],λg h=>by simp at h⟩
 | (k,x)::r=>by
  obtain⟨i1,i2⟩:=wu f v r;rw[show fm f v ((k,x)::r)=(if k=f then (k,v)::r else (k,x)::fm f v r) from rfl]
  by_cases hk:k=f
  ·rw[Wx hk]
   subst hk;exact⟨by simp,λg h=>by simpa using h⟩
  ·rw[Ww hk]
   refine⟨?_,λg h=>?_⟩
   ·rw[Z4]
    exact Ye _ i1
   ·rw[Z4] at h ⊢
    rcases List.mem_cons.mp h with e|e
    ·exact List.mem_cons.mpr (.inl e)
    ·exact Ye _ (i2 g e)
theorem yf (f:Str)(v:V):∀fs:List (Str×V),(fm f v fs).length<=fs.length+1
 | []=>by simp[fm]
 | (k,x)::r=>by
  have ih:=yf f v r;rw[show fm f v ((k,x)::r)=(if k=f then (k,v)::r else (k,x)::fm f v r) from rfl]
  by_cases hk:k=f
  ·rw[Wx hk,Zf,Zf];omega
  ·rw[Ww hk,Zf,Zf];omega
theorem B5.some_of(r:B5 (j? v) o):∃u,o=j? u/\RelV v u:=by
 cases o with
 | none=>exact(show False from r).elim
 | some u=>exact⟨u,rfl,r⟩
theorem B5.none_of(r:B5 q? o):o=q?:=by
 cases o with
 | none=>rfl
 | some u=>exact(show False from r).elim
theorem K1(r:RelV v u):PySem.W.handedIn u=true:=by
 cases v with
 | d8=>cases (show u=Value.none from r);rfl
 | bl b=>cases (show u=Value.bool b from r);rfl
 | int i=>obtain⟨t,e⟩:=(show ∃t,u=Value.int i t from r);cases e;rfl
 | str x=>obtain⟨t,e⟩:=(show ∃t,u=Value.str x t from r);cases e;rfl
 | byt b=>obtain⟨t,e⟩:=(show ∃t,u=Value.bytes b t from r);cases e;rfl
 | flt b=>obtain⟨t,e⟩:=(show ∃t,u=Value.float b t from r);cases e;rfl
 | ref a=>cases (show u=K! a from r);rfl
 | ty n=>cases (show u=Value.type n from r);rfl
section
variable {P:F?} {w:H?} {H H':Hp} {h h':Q?} {a C dx:o?} {fs fs':List (Str×V)}
theorem D5 (hok:yc P w H h)(e:H a=j? (.ins C dx fs)):∃mA,HH h a dx C mA/\(∀f,B5 (fs.lookup f) (mA f))/\PySem.Within mA (fs.map (·.1))/\fs.length<=1000/\H dx=j? (.own a):=by
 obtain⟨d,z,ne,ob,mA,n,r,q⟩:=(show lI P w H h a (.ins C dx fs) from hok a _ e)
 exact⟨mA,⟨ob,n,ne⟩,r,q,z,d⟩
end
structure G8 (K:bK)(C:o?):Prop where
 pg:PySem.W.plainGet K C Str.empty=true
 hd:PySem.W.hasDictIn K C=true
 po:PySem.W.plainOver K C=true
 sa:M? K (.ref C) "__setattr__"=j? (j? (.builtin "object.__setattr__"))
theorem G8.get {K:bK}{C:o?}(c:G8 K C)(f:Str):PySem.W.plainGet K C f=true:=c.pg
def iA (K:bK)(C:o?)(f:Str):Prop:=M? K (.ref C) f=j? q?
theorem iA.Vh {K:bK}{C:o?}{f:Str}(n:iA K C f):PySem.W.takerIn K C f=j? q?:=by
 unfold PySem.W.takerIn;rw[show M? K (.ref C) f=j? q? from n]
 rfl
structure Meth (K:bK)(C:o?)(m:Str)(f:o?):Prop where
 at_:M? K (.ref C) m=j? (j? (.ref f))
 fn:PySem.W.isFn K (.ref f)=true
 kp:E! K (.ref f)=true
section
variable {X:Cx} {pins:List (o?×Obj)} {σ:St} {H:Hp} {s:u?} {a C dx:o?} {fs:List (Str×V)} {f:Str} {v:V} {A:C!} {E:l?->u?->Prop}
theorem HJ(I:Inv X pins σ H s)(e:H a=j? (.ins C dx fs))(c:G8 X.K C)(n:iA X.K C f)(l:fs.lookup f=j? v)
  (h:∀u s',Inv X pins σ H s'->RelV v u->Q u s'):L? (T? X.prog X.w) A (getAttr (.ref a) f b) Q E s:=by
 obtain⟨mA,O,r,_,_,_⟩:=D5 I.hok e;obtain⟨u,hu,ru⟩:=B5.some_of (v:=v) (o:=mA f) (by rw[<- l];exact r f)
 exact get_map I.BZ O (c.get f) c.hd n hu (K1 ru) (h u _ (I.tok _) ru)
theorem zX(I:Inv X pins σ H s)(e:H a=j? (.ins C dx fs))(c:G8 X.K C)(k:Meth X.K C m g)(l:fs.lookup m=q?)
  (h:Q (.ref g,[.ref a]) s):L? (T? X.prog X.w) A (getMethod (.ref a) m pl) Q E s:=by
 obtain⟨mA,O,r,_,_,_⟩:=D5 I.hok e;have hn:mA m=q?:=B5.none_of (by rw[<- l];exact r m)
 exact Mr I.BZ O (c.get m) k.at_ k.fn hn h
theorem HK(I:Inv X pins σ H s)(e:H a=j? (.ins C dx fs))(c:G8 X.K C)(n:iA X.K C f)(hl:fs.length<1000)(ry:RelV y u)
  (h:∀s',Inv X pins σ (upd H a (.ins C dx (fm f y fs))) s'->Q () s'):L? (T? X.prog X.w) A (setAttr (.ref a) f u) Q E s:=by
 obtain⟨mA,O,r,wi,_,ho⟩:=D5 I.hok e;have hz:(fs.map (·.1)).length<=K?:=by rw[Yc,C?];omega
 refine PC I.BZ O c.sa c.po n.Vh c.hd wi hz λh' O' sb=>h _ ?_
 have hd:∃o,h'.get? dx=j? o:=let ⟨o,_,_,e',_⟩:=O'.ns;⟨o,e'⟩
 refine I.write (x:=a) (e:=dx) (by rw[e];exact True.intro) (.inr ho) (λb q hb z=>(sb.2 b hb).trans z) hd ?_
 refine⟨by rw[aH O.ne];exact ho,?_,O.ne,O'.obj,_,O'.ns,λg=>?_,λg hg=>?_⟩
 ·have:=yf f y fs;omega
 ·show B5 ((fm f y fs).lookup g) (if g=f then j? u else mA g)
  rw[ye];by_cases q:g=f
  ·rw[Wx q,Wx q];exact ry
  ·rw[Ww q,Ww q];exact r g
 ·by_cases q:g=f
  ·rw[q];exact(wu f y fs).1
  ·refine(wu f y fs).2 g (wi g λz=>hg ?_)
   show(if g=f then j? u else mA g)=q?
   rw[Ww q];exact z
theorem Inv.made (I:Inv X pins σ H s):Inv X pins σ (upd (upd H s.heap.objs.size (.own (s.heap.objs.size+1))) (s.heap.objs.size+1) (.ins C s.heap.objs.size []))
  { s with heap:=(s.heap.push S!).push (PySem.W.instObj C s.heap.objs.size) }:=by
 have e1:(s.heap.push S!).get? s.heap.objs.size=j? S!:=Yw s.heap rfl;have e2:((s.heap.push S!).push (PySem.W.instObj C s.heap.objs.size)).get? (s.heap.objs.size+1)=j? (PySem.W.instObj C s.heap.objs.size):=by
  have:=Yw (s.heap.push S!) (o:=PySem.W.instObj C s.heap.objs.size) rfl
  rwa [Wa] at this
 have e3:(s.heap.push S!).Ns s.heap.objs.size (λ_=>q?):=⟨S!,#[],_,e1,rfl,(λe he=>W3 he (by simp)),λ_=>rfl⟩
 have I1:=I.laid (a:=s.heap.objs.size) (o:=.own (s.heap.objs.size+1)) (h':=s.heap.push S!) (t':=s.toks) (λb u q=>Yf _ q) (Yd _) ⟨_,e1⟩
 refine I1.laid (a:=s.heap.objs.size+1) (o:=.ins C s.heap.objs.size []) (t':=s.toks) (λb u q=>Yf _ q) (Nat.le_of_eq (Wa _ _)) ?_
 have ne:s.heap.objs.size≠s.heap.objs.size+1:=Ym (Wq _);refine⟨by rw[aH ne,aq],Y2 _,ne,e2,λ_=>q?,(Heap.Ns1.of_empty e3).at λo q=>Yf _ q,λ_=>True.intro,λy hy=>W3 rfl hy⟩
theorem PD(hb:attributeBase e f env (eval e env)=eval e env)
  (h:L? (T? prog w) A (eval e env) (λo s₁=>L? (T? prog w) A (getAttr o f true) Q E s₁) E s):L? (T? prog w) A (eval (.Attribute e f pos) env) Q E s:=
 Attribute_any_ h (by rw[arm_eval_Attribute,hb])
end
inductive Sf (K:bK)(f:Str)(Q:VK)(x:V)(H1:Hp):Prop where
 | mk (a C dx fs v:_) (c5:x=.ref a) (c6:H1 a=j? (.ins C dx fs)) (dS:G8 K C) (fT:iA K C f) (jv:fs.lookup f=j? v) (pZ:Q v H1)
def Vi (K:bK)(ta:TE)(f:Str):TE:=λσ H Q=>ta σ H λx H1=>Sf K f Q x H1
inductive Sg (K:bK)(f:Str)(D:Ends)(σ:St)(y:V)(x:V)(H2:Hp):Prop where
 | mk (a C dx fs:_) (c5:x=.ref a) (c6:H2 a=j? (.ins C dx fs)) (dS:G8 K C) (fT:iA K C f) (jv:fs.length<1000) (pZ:D.nx σ (upd H2 a (.ins C dx (fm f y fs))))
def YW (K:bK)(ta tv:TE)(f:Str):TS:=λD σ H=>tv σ H λy H1=>ta σ H1 λx H2=>Sg K f D σ y x H2
section
variable {X:Cx} {o e value:Expr} {f:Str} {pos pos' tpos:Pos} {ta tv:TE}
theorem Sh (he:PE X e ta)(hb:attributeBase e f X.env (eval e X.env)=eval e X.env):PE X (.Attribute e f pos) (Vi X.K ta f):=by
 refine⟨?_⟩
 intro pins s σ H Q I h;refine PD hb (fq (he pins s σ H _ I h) λu s1 ⟨x,H1,I1,rx,a,C,dx,fs,v,ex,ea,c,n,l,q⟩=>?_)
 subst ex;obtain rfl:u=K! a:=rx
 exact HJ I1 ea c n l λu' s2 I2 ru=>⟨v,H1,I2,ru,q⟩
theorem q9 (ha:PE X o ta)(hv:PE X value tv)(hs:swapsWith value (j? (.Attribute o f pos')) pos.line X.env=pure false):PS X (.Assign [.Attribute o f pos'] value pos) (YW X.K ta tv f):=by
 refine⟨?_⟩
 intro pins s σ H D I h;refine plainObj_wpAny_Assign_Attribute (fq (hv pins s σ H _ I h) λu s1 ⟨y,H1,I1,ry,q⟩=>fq (ha pins s1 σ H1 _ I1 q) λov s2 ⟨x,H2,I2,rx,a,C,dx,fs,ex,ea,c,n,l,q2⟩=>?_) hs
 subst ex;obtain rfl:ov=K! a:=rx
 exact HK I2 ea c n l ry λs3 I3=>⟨σ,_,I3,q2⟩
end
section
variable {X:Cx} {pins:List (o?×Obj)} {σ:St} {H:Hp} {s:u?} {A:C!} {E:l?->u?->Prop} {Q:l?->u?->Prop} {c:l?} {b:Bool}
end
structure eH (k:Nat)(A:C!):Prop where
 hd:A.handled=q?
 dp:A.depth+3*k+5<recursionLimit
 un:A.units+16*k+200<cLine
 gd:A.guards=j? []
theorem eH.mono(r:eH k A)(h:j<=k):eH j A:=⟨r.hd,by have:=r.dp;omega,by have:=r.un;omega,r.gd⟩
theorem eH.deeper(r:eH (k+1) A)(env):eH k (A.deeper env):=
 ⟨r.hd,by have:=r.dp;show A.depth+1+3*k+5<_;omega,by have:=r.un;show A.units+3+16*k+200<_;omega,r.gd⟩
theorem eH.in1(r:eH (k+1) A):eH k A.in1:=
 ⟨r.hd,by have:=r.dp;show A.depth+3*k+5<_;omega,by have:=r.un;show A.units+1+16*k+200<_;omega,r.gd⟩
theorem HP {A:C!}:(A.under (.builtin "type.__call__" ⟨.ref C::us,kw⟩)).depth=A.depth+1:=by
 first|rfl|simp[Around.under,Code.weight,Code.isCreation,Code.isGuard,Code.isCaller,Code.frames,Code.isFrame,guardIds]
theorem HQ {A:C!}:(A.under (.builtin "type.__call__" ⟨.ref C::us,kw⟩)).units=A.units+1:=by
 first|rfl|simp[Around.under,Code.cUnits,Code.frames,Code.isFrame]
theorem eH.make(r:eH (k+1) A)(C)(us)(kw:List (Str×l?)):eH k (A.under (.builtin "type.__call__" ⟨.ref C::us,kw⟩)):=
 ⟨r.hd,by have:=r.dp;rw[HP];omega,by have:=r.un;rw[HQ];omega,by first|exact r.gd|simpa [Around.under,Code.guards,Code.isGuard,guardIds] using r.gd⟩
theorem eH.depth(r:eH k A):A.depth<recursionLimit:=by have:=r.dp;omega
theorem eH.units(r:eH k A):A.units+64<cLine:=by have:=r.un;omega
def wz:TA:=λ_ H Q=>Q [] H
def oW (ta:TE)(tr:TA):TA:=λσ H Q=>ta σ H λx H1=>tr σ H1 λxs H2=>Q (x::xs) H2
section
variable {X:Cx} {e:Expr} {es:List Expr} {te:TE} {t:TA} {pos:Pos}
theorem ah:PA X [] wz:=⟨λ_ _ _ _ H Q I h=>Calls.spliced_nil ⟨[],H,I,.nil,h⟩⟩
theorem af (ha:PE X e te)(hr:PA X es t)(hs:I? (e::es) X.env=(false,eval e X.env)::I? es X.env:=by rfl):PA X (e::es) (oW te t):=by
 refine⟨?_⟩
 intro pos pins s σ H Q I h;rw[hs];show L? _ _ (spliced ((false,eval e X.env)::backTo pos (I? es X.env))) _ _ s
 refine Calls.spliced_cons (fq (ha pins s σ H _ I h) λu s1 ⟨x,H1,I1,r1,q1⟩=>?_)
 exact fq (hr pos pins s1 σ H1 _ I1 q1) λus s2 ⟨xs,H2,I2,r2,q2⟩=>⟨x::xs,H2,I2,.cons r1 r2,q2⟩
def Sj (t:TA):TE:=λσ H Q=>t σ H λxs H1=>xs.length<=K?/\∀p,H1 p=q?->Q (.ref p) (upd H1 p (.tup xs))
def Sk (t:TA):TE:=λσ H Q=>t σ H λxs H1=>xs.length<=K?/\∀p,H1 p=q?->Q (.ref p) (upd H1 p (.lst xs))
theorem q_ {x1}(h:PA X es t):PE X (.Tuple es x1 pos) (Sj t):=by
 refine⟨?_⟩
 intro pins s σ H Q I hq;refine wpAny_Tuple_spliced (fq (h pos pins s σ H _ I hq) λus s1 ⟨xs,H1,I1,r,z,q⟩=>⟨by rw[<- r.length];exact z,?_⟩)
 have hf:H1 s1.heap.objs.size=q?:=I1.hok.fresh (Yd _);refine⟨.ref s1.heap.objs.size,upd H1 s1.heap.objs.size (.tup xs),I1.laid (t':=s1.toks) (λb u e=>Yf _ e) (Yd _) ?_,rfl,q _ hf⟩
 exact⟨z,us,r,⟨_,Yw _ rfl,rfl,_,rfl⟩⟩
theorem bz (h:PA X es t):PE X (.List es pos) (Sk t):=by
 refine⟨?_⟩
 intro pins s σ H Q I hq;refine wpAny_List_spliced (fq (h pos pins s σ H _ I hq) λus s1 ⟨xs,H1,I1,r,z,q⟩=>⟨by rw[<- r.length];exact z,?_⟩)
 have hf:H1 s1.heap.objs.size=q?:=I1.hok.fresh (Yd _);refine⟨.ref s1.heap.objs.size,upd H1 s1.heap.objs.size (.lst xs),I1.laid (t':=s1.toks) (λb u e=>Yf _ e) (Yd _) ?_,rfl,q _ hf⟩
 exact⟨z,us,0,r,Yw _ rfl⟩
end
abbrev Sp:=List V->Hp->VK->XK->Prop
abbrev K2:=List Env->Hp->u?->XK->l?->u?->Prop
structure D6 (P:F?)(w:H?)(K:bK)(mg:Str->Option l?)(base:Q?)(A:C!)(outer:List Env)(s:u?)(H:Hp):Prop where
 frames:A.frames=j? outer
 mod:Mod K mg base
 bs:∀b o,base.get? b=j? o->s.heap.get? b=j? o/\H b=q?
 Hw:base.objs.size<=s.heap.objs.size
 sX:s.heap.FunFrames base outer
 Mg:∀b∈frs outer,H b=q?
 hok:yc P w H s.heap
 bare:AllBare s.gens
def CE (outer:List Env)(P:F?)(w:H?)(H:Hp)(s:u?)(Q:VK)(u:l?)(s':u?):Prop:=
 ∃v H',s'.os=s.os/\AllBare s'.gens/\Un (frs outer) [] H H' s.heap s'.heap/\yc P w H' s'.heap/\RelV v u/\Q v H'
def CR (CX:K2)(outer:List Env)(P:F?)(w:H?)(H:Hp)(s:u?)(Q:VK)(E:XK)(r:Result)(s':u?):Prop:=
 match r with
 | .ok (.ret u)=>CE outer P w H s Q u s'
 | .ok _=>False
 | .error e=>CX outer H s E e s'
structure iP (P:F?)(w:H?)(K:bK)(mg:Str->Option l?)(base:Q?)(CX:K2)(k:Nat)(f:o?)(fd:T!)(ps:List Str)(sp:Sp):Prop where
 len:∀vs H Q E,sp vs H Q E->vs.length=ps.length
 run:∀(A:C!) (outer:List Env) (s:u?) (H:Hp) (args:Args) (us:List l?) (vs:List V) (Q:VK) (E:XK),eH k A->D6 P w K mg base A outer s H->BindsTo s fd args (ps.zip us)->Vals vs us->sp vs H Q E->
  codeAny (T? P w) A (.call (.ref f) args) (CR CX outer P w H s Q E) s
theorem iP.mono {P:F?}{w:H?}{K:bK}{mg:Str->Option l?}{base:Q?}{CX:K2}{j k:Nat}{f:o?}{fd:T!}{ps:List Str}{sp:Sp}(F:iP P w K mg base CX j f fd ps sp)(h:j<=k):
  iP P w K mg base CX k f fd ps sp:=⟨F.len,λA outer s H args us vs Q E hr=>F.run A outer s H args us vs Q E (hr.mono h)⟩
theorem iP.imp {P:F?}{w:H?}{K:bK}{mg:Str->Option l?}{base:Q?}{CX:K2}{k:Nat}{f:o?}{fd:T!}{ps:List Str}{sp Mt:Sp}(F:iP P w K mg base CX k f fd ps sp)
  (h:∀vs H Q E,Mt vs H Q E->sp vs H Q E):iP P w K mg base CX k f fd ps Mt:=
 ⟨λvs H Q E q=>F.len vs H Q E (h _ _ _ _ q),λA outer s H args us vs Q E hr he hb hv hs=>F.run A outer s H args us vs Q E hr he hb hv (h _ _ _ _ hs)⟩
theorem D6.make {P:F?}{w:H?}{K:bK}{mg:Str->Option l?}{base:Q?}{A:C!}{outer:List Env}{s:u?}{H:Hp}(e:D6 P w K mg base A outer s H)(C:o?)(us:List l?)(kw:List (Str×l?)):
  D6 P w K mg base (A.under (.builtin "type.__call__" ⟨.ref C::us,kw⟩)) outer s H:=⟨by first|exact e.frames|(simpa [Around.under,Code.envs,Code.isFrame,pushEnvs] using e.frames),e.mod,e.bs,e.Hw,e.sX,e.Mg,e.hok,e.bare⟩
section
variable {X:Cx} {pins:List (o?×Obj)} {σ:St} {H:Hp} {s s':u?}
theorem Inv.Sl (I:Inv X pins σ H s):D6 X.prog X.w X.K X.mg X.base X.A X.stack s H:=
 ⟨I.ok.frames,I.ok.mod,I.bs,Ys I.ok.Hw I.sz,I.stack,I.DX,I.hok,I.bare⟩
theorem Inv.after(I:Inv X pins σ H s)(h:CE X.stack X.prog X.w H s Q u s'):EP X pins σ Q u s':=by
 obtain⟨v,H',os,bare,un,hok,r,q⟩:=h;obtain⟨hh,g,d,t,os'⟩:=s';obtain rfl:os'=s.os:=os
 exact⟨v,H',I.call (h':=hh) (g':=g) (d':=d) (t':=t) (ch:=[]) un hok bare (λb z=>W3 z (by simp)),r,q⟩
end
def Rl (sp:Sp)(HR:List V)(E:XK)(t:TA):TE:=λσ H Q=>t σ H λvs H1=>sp (vs++HR) H1 Q E
def Rm (C:o?)(sp:Sp)(HR:List V)(E:XK)(t:TA):TE:=λσ H Q=>t σ H λvs H1=>∀x dx,H1 x=q?->H1 dx=q?->dx≠x->
 sp (.ref x::(vs++HR)) (upd (upd H1 dx (.own x)) x (.ins C dx [])) (λv H2=>v=.d8/\Q (.ref x) H2) E
def Binds (K:bK)(fd:T!)(ps:List Str)(ds:List l?):Prop:=
 ∀(s:u?) (us:List l?),K.In s.heap->(us++ds).length=ps.length->BindsTo s fd ⟨us,[]⟩ (ps.zip (us++ds))
theorem Binds.all {K:bK}{fd:T!}{ps:List Str}(h:∀us:List l?,us.length=ps.length->bindArgs fd ⟨us,[]⟩=pure (ps.zip us)):Binds K fd ps []:=λs us _ hl=>by
 rw[Zy] at hl ⊢;exact .of_eq (h us hl)
def Passes (CX:K2)(X:Cx)(E:XK):Prop:=∀(pins:List (o?×Obj)) (σ:St) (H:Hp) (s:u?) (e:l?) (s':u?),Inv X pins σ H s->CX X.stack H s E e s'->X.xe e s'
section
variable {X:Cx} {CX:K2} {k:Nat} {f C:o?} {fd:T!} {ps:List Str} {sp:Sp} {HR:List V} {ds:List l?} {E:XK} {x m:Str} {p pos apos:Pos} {e o:Expr} {es:List Expr} {ta:TE} {t:TA}
theorem HU(F:iP X.prog X.w X.K X.mg X.base CX k f fd ps sp)(hr:eH k X.A)(hb:Binds X.K fd ps ds)(hd:Vals HR ds)(hx:Passes CX X E)
  (I:Inv X pins σ H s) (r:Vals vs us) (h:sp (vs++HR) H Q E):L? (T? X.prog X.w) X.A (call (.ref f) us) (EP X pins σ Q) X.xe s:=by
 have r2:Vals (vs++HR) (us++ds):=r.append hd;have hl:(us++ds).length=ps.length:=by rw[<- r2.length];exact F.len _ _ _ _ h
 refine wpAny_call (codeAny_mono (F.run X.A X.stack s H ⟨us,[]⟩ (us++ds) (vs++HR) Q E hr I.Sl (hb s us I.BZ hl) r2 h) λr s' hq=>?_)
 cases r with
 | error e=>exact hx pins σ H s e s' I hq
 | ok fl=>
  cases fl with
  | ret u=>exact I.after hq
  | next=>exact Q! hq
  | brk=>exact Q! hq
  | cont=>exact Q! hq
theorem PF (F:iP X.prog X.w X.K X.mg X.base CX k f fd ps sp)(hr:eH k X.A)(hg:Gl X x)(hm:X.mg x=j? (.ref f))(hk:E! X.K (.ref f)=true)(hb:Binds X.K fd ps ds)(hd:Vals HR ds)(hx:Passes CX X E)
  (ha:PA X (e::es) t) (hdb:(x ==("__debug__":Str))=false:=by decide) (he:I? (e::es) X.env=(false,eval e X.env)::I? es X.env:=by rfl) (hpl:(backTo pos (I? es X.env)).any (·.1)=false:=by rfl):
  PE X (.Call (.Name x p) (e::es) [] pos) (Rl sp HR E t):=by
 refine⟨?_⟩
 intro pins s σ H Q I h;refine wpAny_Call_Name_kw (DZ I hg hm ?_ hdb)
 refine PySem.W.callWith_K (h₀:=X.base) I.ok.mod.U0 hk (fq (ha pos pins s σ H _ I h) λus s1 ⟨vs,H1,I1,r,q⟩=>⟨I1.BZ,?_⟩) he hpl
 exact HU F hr hb hd hx I1 r q
structure Mk (K:bK)(C f:o?):Prop where
 makes:PySem.W.makesIn K C=true
 init:M? K (.ref C) "__init__"=j? (j? (.ref f))
 fn:PySem.W.isFn K (.ref f)=true
 kp:E! K (.ref C)=true
theorem Mu(M:Mk X.K C f)(F:iP X.prog X.w X.K X.mg X.base CX k f fd ps sp)(hr:eH (k+1) X.A)(hb:Binds X.K fd ps ds)(hd:Vals HR ds)
  (hx:Passes CX X E) (I:Inv X pins σ H s) (r:Vals vs us)
  (h:∀x dx,H x=q?->H dx=q?->dx≠x->sp (.ref x::(vs++HR)) (upd (upd H dx (.own x)) x (.ins C dx [])) (λv H2=>v=.d8/\Q (.ref x) H2) E):
  L? (T? X.prog X.w) X.A (call (.ref C) us) (EP X pins σ Q) X.xe s:=by
 have hq:=h (s.heap.objs.size+1) s.heap.objs.size (I.hok.fresh (Wg _)) (I.hok.fresh (Yd _)) (Ym (Wq _));have I2:=Inv.made (C:=C) I;have r2:Vals (V.ref (s.heap.objs.size+1)::(vs++HR)) (K! (s.heap.objs.size+1)::(us++ds)):=.cons rfl (r.append hd);have hl:(K! (s.heap.objs.size+1)::us++ds).length=ps.length:=by
  have e:=r2.length;rw[F.len _ _ _ _ hq] at e;exact e.symm
 refine wpAny_call (Ms (f:=f) I.BZ M.makes M.init (beq_iff_eq.mp M.fn) (codeAny_mono (F.run _ X.stack _ _ ⟨K! (s.heap.objs.size+1)::us,[]⟩ (K! (s.heap.objs.size+1)::(us++ds)) _ _ E (hr.make C us [])
  (I2.Sl.make C us []) (hb _ (K! (s.heap.objs.size+1)::us) I2.BZ hl) r2 hq) λr s' hq'=>?_))
 cases r with
 | error e=>exact hx pins σ _ _ e s' I2 hq'
 | ok fl=>
  cases fl with
  | ret u=>
   obtain⟨v,H',I3,rv,ev,q3⟩:=I2.after hq';subst ev;exact⟨rv,⟨V.ref (s.heap.objs.size+1),H',I3,rfl,q3⟩⟩
  | next=>exact Q! hq'
  | brk=>exact Q! hq'
  | cont=>exact Q! hq'
theorem PJ (M:Mk X.K C f)(F:iP X.prog X.w X.K X.mg X.base CX k f fd ps sp)(hr:eH (k+1) X.A)(hg:Gl X x)(hm:X.mg x=j? (.ref C))(hb:Binds X.K fd ps ds)(hd:Vals HR ds)(hx:Passes CX X E)
  (ha:PA X (e::es) t) (hdb:(x ==("__debug__":Str))=false:=by decide) (he:I? (e::es) X.env=(false,eval e X.env)::I? es X.env:=by rfl) (hpl:(backTo pos (I? es X.env)).any (·.1)=false:=by rfl):
  PE X (.Call (.Name x p) (e::es) [] pos) (Rm C sp HR E t):=by
 refine⟨?_⟩
 intro pins s σ H Q I h;refine wpAny_Call_Name_kw (DZ I hg hm ?_ hdb)
 refine PySem.W.callWith_K (h₀:=X.base) I.ok.mod.U0 M.kp (fq (ha pos pins s σ H _ I h) λus s1 ⟨vs,H1,I1,r,q⟩=>⟨I1.BZ,?_⟩) he hpl
 exact Mu M F hr hb hd hx I1 r q
end
def PK (X:Cx)(kws:List Keyword)(t:TA):Prop:=
 ∀(pos:Pos) (pins:List (o?×Obj)) (s:u?) (σ:St) (H:Hp) (Q:List V->Hp->Prop),Inv X pins σ H s->t σ H Q->L? (T? X.prog X.w) X.A (evalAll ((backToKw pos (keywordEach kws X.env)).map (·.2))) (AP X pins σ Q) X.xe s
section
variable {X:Cx} {CX:K2} {k:Nat} {f C:o?} {fd:T!} {ps ks:List Str} {sp:Sp} {E:XK} {x m:Str} {p pos apos kpos:Pos} {e o:Expr} {es:List Expr} {kws:List Keyword} {te ta:TE} {t tk:TA} {nm:Option Str}
theorem HV:PK X [] wz:=λ_ _ _ _ H Q I h=>wpAny_evalAll_nil ⟨[],H,I,.nil,h⟩
theorem D7 (ha:PE X e te)(hr:PK X kws t):PK X (⟨nm,e,kpos⟩::kws) (oW te t):=by
 intro pos pins s σ H Q I h;show L? _ _ (evalAll ((do let v <- eval e X.env;standAt pos;pure v)::(backToKw pos (keywordEach kws X.env)).map (·.2))) _ _ s
 refine wpAny_evalAll_cons (B? (fq (ha pins s σ H _ I h) λu s1 ⟨x,H1,I1,r1,q1⟩=>B? (wpAny_standAt (J? ?_))))
 exact fq (hr pos pins s1 σ H1 _ I1 q1) λus s2 ⟨xs,H2,I2,r2,q2⟩=>⟨x::xs,H2,I2,.cons r1 r2,q2⟩
variable {g:List l?->List l?->List l?} {gV:List V->List V->List V}
end
structure aB (N P:List Str)(sc:Scope):Prop where
 kind:sc.kind=.function
 co:sc.isCoroutine=false
 gen:sc.isGenerator=false
 nd:N.Nodup
 pre:N.take P.length=P
 par:∀x∈P,sc.names.lookup x=j? .local\/sc.names.lookup x=j? .cell
 Sm:∀y∈sc.names,y.2≠.free
theorem C6 {kindOf:Str->Option NameKind}{x:Str}:∀ {binds:List (Str×l?)} {m:Str->Option l?},(∀v,(x,v) ∉ binds)->bindL kindOf binds m x=m x
 | [],_,_=>rfl
 | (n,v)::r,m,h=>by
  unfold bindL;rw[C6 λw hw=>h w (Ye _ hw)]
  split
  ·have:x≠n:=by rintro rfl;exact h v Yg
   simp[this]
  ·rfl
theorem C7 {kindOf:Str->Option NameKind}{x:Str}:∀ {binds:List (Str×l?)} {m:Str->Option l?},(∀v,(x,v) ∉ binds)->bindC kindOf binds m x=m x
 | [],_,_=>rfl
 | (n,v)::r,m,h=>by
  unfold bindC;rw[C7 λw hw=>h w (Ye _ hw)]
  split
  ·rfl
  ·have:x≠n:=by rintro rfl;exact h v Yg
   simp[this]
theorem C8 {kindOf:Str->Option NameKind}{x:Str}{v:l?}:∀ {P:List Str} {vs:List l?} {i:Nat} {m:Str->Option l?},P.Nodup->P[i]?=j? x->vs[i]?=j? v->kindOf x=j? .local->
  bindL kindOf (P.zip vs) m x=j? v
 | [],_,_,_,_,h,_,_=>by simp at h
 | _::_,[],_,_,_,_,h,_=>by simp at h
 | p::P,w::vs,0,m,nd,h1,h2,hk=>by
  simp at h1 h2;subst h1;subst h2;show bindL kindOf ((p,w)::P.zip vs) m p=_
  unfold bindL;rw[C6 λv hv=>(List.nodup_cons.mp nd).1 (List.of_mem_zip hv).1,Wx hk]
  simp
 | p::P,w::vs,i+1,m,nd,h1,h2,hk=>by
  show bindL kindOf ((p,w)::P.zip vs) m x=_
  unfold bindL;exact C8 (i:=i) (List.nodup_cons.mp nd).2 (by simpa using h1) (by simpa using h2) hk
theorem C9 {kindOf:Str->Option NameKind}{x:Str}{v:l?}:∀ {P:List Str} {vs:List l?} {i:Nat} {m:Str->Option l?},P.Nodup->P[i]?=j? x->vs[i]?=j? v->kindOf x≠j? .local->
  bindC kindOf (P.zip vs) m x=j? v
 | [],_,_,_,_,h,_,_=>by simp at h
 | _::_,[],_,_,_,_,h,_=>by simp at h
 | p::P,w::vs,0,m,nd,h1,h2,hk=>by
  simp at h1 h2;subst h1;subst h2;show bindC kindOf ((p,w)::P.zip vs) m p=_
  unfold bindC;rw[C7 λv hv=>(List.nodup_cons.mp nd).1 (List.of_mem_zip hv).1,Ww hk]
  simp
 | p::P,w::vs,i+1,m,nd,h1,h2,hk=>by
  show bindC kindOf ((p,w)::P.zip vs) m x=_
  unfold bindC;exact C9 (i:=i) (List.nodup_cons.mp nd).2 (by simpa using h1) (by simpa using h2) hk
def start (N:List Str)(vs:List V):St:=vs.map j?++Yt (N.length-vs.length) q?
def B8 (CX:K2)(P:F?)(w:H?)(K:bK)(mg:Str->Option l?)(base:Q?)(N:List Str)(qual:Str)(scope:Scope)(f:o?)(cd:l?)(A:C!)(outer:List Env)(s:u?)(H:Hp)(E:XK):Cx where
 prog:=P
 w:=w
 K:=K
 mg:=mg
 base:=base
 A:=A.deeper (envOfC qual scope s.heap.objs.size f cd)
 N:=N
 s₀:=s
 H₀:=H
 env:=envOfC qual scope s.heap.objs.size f cd
 outer:=outer
 stack:=envOfC qual scope s.heap.objs.size f cd::outer
 ex:=[]
 calm:=true
 fn:=λ_=>true
 pn:=[]
 xe:=λe s'=>L? (T? P w) (A.deeper (envOfC qual scope s.heap.objs.size f cd)) (leaving (envOfC qual scope s.heap.objs.size f cd) e) (λ_ s''=>CX outer H s E e s'') (λe' s''=>CX outer H s E e' s'') s'
theorem FQ {sc:Scope}(h:sc.names.lookup x=j? .cell):∃c,(cellsFrom n sc.names []).lookup x=j? c:=by
 have q:=PySem.W.cellsFrom_some sc.names n [] (.inl h);exact Option.isSome_iff_exists.mp q
theorem K3 {CX:K2}{P:F?}{w:H?}{K:bK}{mg:Str->Option l?}{base:Q?}{N ps:List Str}{qual:Str}{scope:Scope}{f:o?}{cd:l?}{A:C!}{outer:List Env}{s s1:u?}{H:Hp}{E:XK}{us:List l?}{vs:List V}
  (S:aB N ps scope) (hd:A.handled=q?) (e0:D6 P w K mg base A outer s H) (hl:vs.length=ps.length) (r:Vals vs us)
  (x:InCallC s s.heap.objs.size (bindL (envOfC qual scope s.heap.objs.size f cd).kindOf (ps.zip us) λ_=>q?) (cellsFrom (s.heap.objs.size+1) scope.names []) (bindC (envOfC qual scope s.heap.objs.size f cd).kindOf (ps.zip us) λ_=>q?) s1):
  Inv (B8 CX P w K mg base N qual scope f cd A outer s H E) [] (start N vs) H s1:=by
 have hpl:ps.length<=N.length:=by have:=W1 List.length S.pre;rw[Y9] at this;omega
 obtain⟨h1,tk,rfl,hk⟩:=x.done;have Vj:∀b:o?,b ∉ (B8 CX P w K mg base N qual scope f cd A outer s H E).ex:=λb z=>W3 (show b∈([]:List o?) from z) (by simp)
 refine⟨⟨e0.mod,S.kind,rfl,rfl,Yd _,λy z c h1 h2=>?_,λy hy=>?_,λy c _ h=>?_,λ_=>hd,Around.frames_deeper e0.frames,.inr ⟨rfl,rfl⟩,λb z=>W3 z (Vj b),e0.bs,e0.Hw,λb _ _=>Vj b,λb z=>W3 z (Vj b),e0.sX,e0.Mg⟩,
  rfl,e0.bare,Un.kept hk,⟨_,x.toInCall.ns,λi y v h1 h2 h3=>?_⟩,λy c h=>⟨_,x.cell y c h⟩,e0.hok.fresh (Yd _),λy c h=>?_,λp hp=>W3 (show p∈([]:List (o?×Obj)) from hp) (by simp),e0.hok.kept hk,?_⟩
 ·exact name_of_addr x.apart (W? h1) (W? h2)
 ·have hy:scope.names.lookup y=j? .cell\/scope.names.lookup y=j? .free:=hy
  rcases hy with hy|hy
  ·exact FQ hy
  ·exact W3 rfl (S.Sm _ (W? hy))
 ·exact Nat.le_of_lt (x.above y c (W? h))
 ·have hi:i<vs.length:=by
   unfold start at h2;by_cases hi:i<vs.length
   ·exact hi
   ·rw[Ze (by simpa using hi)] at h2
    rw[List.getElem?_replicate] at h2;split at h2 <;> cases h2
  have ha:vs[i]?=j? v:=by
   unfold start at h2;rw[Yx (by simpa using hi),Yh] at h2
   cases e:vs[i]? with
   | none=>rw[e] at h2;cases h2
   | some a=>rw[e] at h2;cases h2;rfl
  obtain⟨u,hu,rv⟩:=r.get ha;have hp:ps[i]?=j? y:=by
   rw[<- S.pre,List.getElem?_take_of_lt (by omega)];exact h1
  have ndP:ps.Nodup:=by rw[<- S.pre];exact S.nd.sublist (List.take_sublist _ _)
  refine⟨u,rv,?_⟩
  rcases S.par y (Yo hp) with k|k
  ·exact .inl ⟨k,C8 ndP hp hu k⟩
  ·obtain⟨c,e⟩:=FQ (n:=s.heap.objs.size+1) k
   refine .inr ⟨.inl k,c,e,?_⟩
   have q:=x.cell y c e;rw[C9 ndP hp hu (by show scope.names.lookup y≠_;rw[k];decide)] at q
   exact q
 ·exact e0.hok.fresh (Nat.le_of_lt (x.above y c (W? h)))
 ·unfold start
  show _=N.length
  rw[Yk,Yc,List.length_replicate];omega
theorem Rn {CX:K2}{P:F?}{w:H?}{K:bK}{mg:Str->Option l?}{base:Q?}{k:Nat}{f:o?}{name qual:Str}{params:Arguments}{body:List R?}{scope:Scope}{dV kV doc pm cdv ct oc:l?}{an od:Option o?}
  {osl:Array (Option l?)} {N ps:List Str} {sp:Sp} (lk:K.lookup f=j? ⟨oc,od,.func (Z? name qual params body scope dV kV doc pm an cdv ct),osl⟩) (hcd:U! K cdv qual=true) (S:aB N ps scope)
  (len:∀vs H Q E,sp vs H Q E->vs.length=ps.length)
  (hbody:∀(A:C!) (outer:List Env) (s:u?) (H:Hp) (vs:List V) (Q:VK) (E:XK),eH k (A.deeper (envOfC qual scope s.heap.objs.size f cdv))->sp vs H Q E->
   ∃t,FH (B8 CX P w K mg base N qual scope f cdv A outer s H E) body t/\t { nx:=λ_ H'=>Q .d8 H',rt:=Q } (start N vs) H):
  iP P w K mg base CX (k+1) f (Z? name qual params body scope dV kV doc pm an cdv ct) ps sp:=by
 refine⟨len,λA outer s H args us vs Q E hr e0 hb r K4=>?_⟩
 have hl:=len _ _ _ _ K4;have KX:K.In s.heap:=e0.mod.U0.keeps λb o e=>(e0.bs b o e).1
 have lim:s.heap.NoLimit:=e0.mod.nolimit.keeps λb o e=>(e0.bs b o e).1
 have hkind:∀y∈ps.zip us,scope.names.lookup y.1=j? .local\/(scope.names.lookup y.1=j? .cell/\((cellsFrom (s.heap.objs.size+1) scope.names []).lookup y.1).isSome=true):=λ⟨n,v⟩ hy=>by
  rcases S.par n (List.of_mem_zip hy).1 with q|q
  ·exact .inl q
  ·exact .inr ⟨q,PySem.W.cellsFrom_some _ _ _ (.inl q)⟩
 refine codeAny_call_function hr.depth (KX _ _ lk) rfl S.co S.gen rfl (PySem.W.codeRec_of KX hcd) (hb _ _ _ _ ?_)
 refine wpAny_newFunctionEnv_cells S.kind hkind λenv he s1 x=>?_
 subst he;refine⟨lim.keeps x.toInCall.keep,codeAny_func ?_⟩
 obtain⟨t,ht,hq⟩:=hbody A outer s H vs Q E (hr.deeper _) K4;have I:Inv (B8 CX P w K mg base N qual scope f cdv A outer s H E) [] (start N vs) H s1:=K3 S hr.hd e0 hl r x;refine D! (ht [] s1 (start N vs) H _ I hq) (λfl s' hs=>?_) λe s' hs=>hs
 have fin:∀ {σ':St} {H':Hp} {v:V} {u:l?},Inv (B8 CX P w K mg base N qual scope f cdv A outer s H E) [] σ' H' s'->RelV v u->Q v H'->CE outer P w H s Q u s':=
  λ{σ' H' v u} J rv q=>⟨v,H',J.os,J.bare,J.base,J.hok,rv,q⟩
 cases fl with
 | ret u=>
  obtain⟨v,σ',H',J,rv,q⟩:=hs;exact fin J rv q
 | next=>
  obtain⟨σ',H',J,q⟩:=hs;exact fin (v:=V.d8) (u:=Value.none) J rfl q
 | brk=>
  obtain⟨_,_,_,q⟩:=hs;exact Q! q
 | cont=>
  obtain⟨_,_,_,q⟩:=hs;exact Q! q
section
variable {X:Cx} {x:Str} {p pos:Pos} {e:Expr} {es:List Expr} {t:TA} {id T:String} {r:List V->Hp->VK->Prop}
def YX (r:List V->Hp->VK->Prop)(t:TA):TE:=λσ H Q=>t σ H λvs H1=>r vs H1 Q
theorem aI (hc:qM X (.builtin id) r)(hg:Gl X x)(hm:X.mg x=q?)(hv:J! x=j? (.builtin id))(ha:PA X (e::es) t)(hn:x≠"__name__":=by decide)(hdb:(x ==("__debug__":Str))=false:=by decide)
  (he:I? (e::es) X.env=(false,eval e X.env)::I? es X.env:=by rfl) (hpl:(backTo pos (I? es X.env)).any (·.1)=false:=by rfl):PE X (.Call (.Name x p) (e::es) [] pos) (YX r t):=by
 refine⟨?_⟩
 intro pins s σ H Q I h;refine wpAny_Call_Name_kw (nU I hg hm hv ?_ hn hdb)
 exact PyProof.Rows.callWith_builtin1 (fq (ha pos pins s σ H _ I h) λus s1 ⟨vs,H1,I1,r1,q1⟩=>hc pins s1 σ H1 vs us Q I1 r1 q1) he hpl
theorem C_ (hc:qM X (.type T) r)(hg:Gl X x)(hm:X.mg x=q?)(hv:J! x=j? (.type T))(ha:PA X (e::es) t)(hn:x≠"__name__":=by decide)(hdb:(x ==("__debug__":Str))=false:=by decide)
  (he:I? (e::es) X.env=(false,eval e X.env)::I? es X.env:=by rfl) (hpl:(backTo pos (I? es X.env)).any (·.1)=false:=by rfl):PE X (.Call (.Name x p) (e::es) [] pos) (YX r t):=by
 refine⟨?_⟩
 intro pins s σ H Q I h;refine wpAny_Call_Name_kw (nU I hg hm hv ?_ hn hdb)
 exact P! (fq (ha pos pins s σ H _ I h) λus s1 ⟨vs,H1,I1,r1,q1⟩=>hc pins s1 σ H1 vs us Q I1 r1 q1) he hpl
end
end L2
namespace HT
open PySem PyProof.Rows
theorem FT (A)(s)(a)(t)(c)(u)(prog)(w)(E:l?->u?->Prop)(Q:l?->u?->Prop)(h:Q (.bool (decide (a<c))) s):
  L? (T? prog w) A (richCompare .Lt (.int a t) (.int c u)) Q E s:=
 (PyProof.Rows.lt_int h:L? (T? prog w) A (N! .Lt (.int a t) (.int c u)) Q E s)
section
open PySem.SeqAt
open PySem.AutoSeq1 (wpAny_loadPart')
open PySem.MeetsSeq PySem.MeetsSeq2 PySem.MeetsSeq3
end
section
variable {prog:F?} {w:H?} {A:C!} {E:l?->u?->Prop} {s:u?}
def zY (n d:Nat):Option Int->Nat
 | none=>d
 | some v=>if v<0 then (v+(n:Int)).toNat else min v.toNat n
theorem zC (n d k:Nat):zY n d (j? (k:Int))=min k n:=by
 show(if (k:Int)<0 then ((k:Int)+(n:Int)).toNat else min (k:Int).toNat n)=min k n
 rw[Ww (by omega),Yp]
end
end HT
namespace L2
open PySem PySem.Spec PyProof.Rows
abbrev TO:=St->Hp->(Option Int->Hp->Prop)->Prop
def PO (X:Cx)(e:Option Expr)(t:TO):Prop:=
 ∀(pins:List (o?×Obj)) (s:u?) (σ:St) (H:Hp) (Q:Option Int->Hp->Prop),Inv X pins σ H s->t σ H Q->
  L? (T? X.prog X.w) X.A (evalPart e X.env) (λu s'=>∃o H',Inv X pins σ H' s'/\IsPart u o/\Q o H') X.xe s
def JL:TO:=λ_ H Q=>Q q? H
inductive PM  (Q:Option Int->Hp->Prop)(x:V)(H1:Hp):Prop where
 | mk (i:_) (c5:x=.int i) (c6:Q (j? i) H1)
def Ro (t:TE):TO:=λσ H Q=>t σ H λx H1=>PM  Q x H1
section
variable {X:Cx} {e:Expr} {te:TE} {lo hi:Option Expr} {tl th:TO} {pos p2:Pos}
theorem nq:PO X q? JL:=by
 intro pins s σ H Q I h;rw[evalPart_none];exact J? ⟨q?,H,I,.none,h⟩
theorem iX (h:PE X e te):PO X (j? e) (Ro te):=by
 intro pins s σ H Q I hw;rw[evalPart_some];refine fq (h pins s σ H _ I hw) λu s1 ⟨x,H1,I1,r1,q1⟩=>?_
 obtain⟨i,rfl,q⟩:=q1;obtain⟨t,rfl⟩:=r1;exact⟨j? i,H1,I1,.int i t,q⟩
def YY (X:Cx)(r:V->Option Int->Option Int->Hp->VK->Prop):Prop:=
 ∀(pins:List (o?×Obj)) (s:u?) (σ:St) (H:Hp) (x:V) (v vl vu:l?) (lo hi:Option Int) (sl:o?) (Q:VK),Inv X pins σ H s->RelV x v->s.heap.IsSliceOf sl vl vu .none->IsPart vl lo->IsPart vu hi->r x lo hi H Q->
  ∃T id,typeLookup (.type T) "__getitem__"=pure (j? (.builtin id))/\s.TypeIs v T/\wpAny (T? X.prog X.w) X.A (getItem v (.ref sl)) (EP X pins σ Q) X.xe s
def tSl (r:V->Option Int->Option Int->Hp->VK->Prop)(te:TE)(tl th:TO):TE:=λσ H Q=>te σ H λx H1=>tl σ H1 λl H2=>th σ H2 λu H3=>r x l u H3 Q
theorem kC(hr:YY X r)(he:PE X e te)(hl:PO X lo tl)(hu:PO X hi th):PE X (.Subscript e (.Slice lo hi q? p2) pos) (tSl r te tl th):=by
 refine⟨?_⟩
 intro pins s σ H Q I h;refine Subscript_ (fq (he pins s σ H _ I h) λv s1 ⟨x,H1,I1,r1,q1⟩=>?_)
 refine wpAny_Slice (fq (hl pins s1 σ H1 _ I1 q1) λvl s2 ⟨l,H2,I2,pl,q2⟩=>fq (hu pins s2 σ H2 _ I2 q2) λvu s3 ⟨u,H3,I3,pu,q3⟩=>?_)
 rw[evalPart_none];refine J? ?_
 have I4:Inv X pins σ H3 { s3 with heap:=s3.heap.push { cls:=.type "slice",data:=.fields #[vl,vu,.none] } }:=I3.kept (t':=s3.toks) λb ob q=>Yf _ q
 obtain⟨T,id,hT,ht,hg⟩:=hr pins { s3 with heap:=s3.heap.push { cls:=.type "slice",data:=.fields #[vl,vu,.none] } } σ H3 x v vl vu l u s3.heap.objs.size Q I4 r1 (Heap.IsSliceOf.new ..) pl pu q3
 show L? (T? X.prog X.w) X.A (subscriptTail e (.Slice lo hi q? p2) v (.ref s3.heap.objs.size)) (EP X pins σ Q) X.xe { s3 with heap:=s3.heap.push { cls:=.type "slice",data:=.fields #[vl,vu,.none] } }
 exact tail_any (ops:=[.ref s3.heap.objs.size,v]) ht hT hg (by with_unfolding_all rfl)
def oX (xs:List V)(lo hi:Option Int):List V:=(xs.drop (HT.zY xs.length 0 lo)).take (HT.zY xs.length xs.length hi-HT.zY xs.length 0 lo)
theorem FU (xs)(lo hi):(oX xs lo hi).length<=xs.length:=by
 unfold oX;rw[Y9,Zu];omega
end
def Mv (n:Nat)(i:Int):Option Nat:=if 0<=i then (if i<n then j? i.toNat else q?) else if -(n:Int)<=i then j? (i+n).toNat else q?
def HW {α:Type}(xs:List α)(i:Int):Option α:=(Mv xs.length i).bind λj=>xs[j]?
theorem JM(h:Mv n i=j? j):seqIndex? i n=j? j/\j<n/\-(n:Int)<=i/\i<n:=by
 unfold Mv at h;by_cases h0:0<=i
 ·rw[Wx h0] at h
  by_cases h1:i<n
  ·rw[Wx h1] at h
   have e:i.toNat=j:=N? h;exact⟨by rw[seqIndex_of h0 h1,e],by omega,by omega,h1⟩
  ·rw[Ww h1] at h;cases h
 ·rw[Ww h0] at h
  by_cases h1:-(n:Int)<=i
  ·rw[Wx h1] at h
   have e:(i+n).toNat=j:=N? h;exact⟨by rw[seqIndex_neg (by omega) h1,e],by omega,h1,by omega⟩
  ·rw[Ww h1] at h;cases h
theorem JN(h:HW xs i=j? v):∃j,seqIndex? i xs.length=j? j/\xs[j]?=j? v/\j<xs.length/\-(xs.length:Int)<=i/\i<xs.length:=by
 unfold HW at h;cases e:Mv xs.length i with
 | none=>rw[e] at h;cases h
 | some j=>
  rw[e] at h;obtain⟨h1,h2,h3,h4⟩:=JM e;exact⟨j,h1,h,h2,h3,h4⟩
theorem bF{xs:List α}{j:Nat}{v:α}(h:xs[j]?=j? v):HW xs (j:Int)=j? v:=by
 have hj:j<xs.length:=(List.getElem?_eq_some_iff.mp h).1;have e:Mv xs.length (j:Int)=j? j:=by
  unfold Mv;rw[Wx (by omega),Wx (by omega)];simp
 unfold HW;rw[e];exact h
def PN (b:Expr):Prop:=∀o i,subscripted b false o i=operate [o,i] (getItem o i)
def Vk (X:Cx)(r:R2):Prop:=
 ∀(value slice:Expr) (pins:List (o?×Obj)) (s:u?) (σ:St) (H:Hp) (x y:V) (v u:l?) (Q:VK),Inv X pins σ H s->RelV x v->RelV y u->r x y H Q->
  subscripted slice false v u=operate [v,u] (getItem v u)->L? (T? X.prog X.w) X.A (subscriptTail value slice v u) (EP X pins σ Q) X.xe s
def MtR (X:Cx)(id:String)(r:V->List V->Hp->VK->Prop):Prop:=
 ∀(pins:List (o?×Obj)) (s:u?) (σ:St) (H:Hp) (x:V) (xs:List V) (v:l?) (us:List l?) (Q:VK),Inv X pins σ H s->RelV x v->Vals xs us->r x xs H Q->
  L? (T? X.prog X.w) X.A (call (.builtin id) (v::us)) (EP X pins σ Q) X.xe s
section
variable {X:Cx} {a b:Expr} {ta tb:TE} {pos:Pos}
theorem bJ(hr:Vk X r)(ha:PE X a ta)(hb:PE X b tb)(hs:PN b):PE X (.Subscript a b pos) (Uu r ta tb):=by
 refine⟨?_⟩
 intro pins s σ H Q I h;exact Subscript_ (R_ ha hb I h λv u s2 x y H2 I2 rx ry q=>hr a b pins s2 σ H2 x y v u Q I2 rx ry q (hs _ _))
inductive Vl (K:bK)(x:V)(y:V)(H:Hp)(Q:VK):Prop where
 | mk (p xs i v:_) (c5:x=.ref p) (c6:y=.int i) (dS:aU K H p xs) (fT:HW xs i=j? v) (jv:Q v H)
inductive Mw (K:bK)(x:V)(y:V)(H:Hp)(Q:VK):Prop where
 | mk (p xs i v:_) (c5:x=.ref p) (c6:y=.int i) (dS:iR K H p xs) (fT:HW xs i=j? v) (jv:Q v H)
theorem PU:Vk X (Vl X.K):=by
 intro value slice pins s σ H x y v u Q I rx ry h hs;obtain⟨p,xs,i,z,rfl,rfl,hq,he,q⟩:=h;cases rx;obtain⟨t,rfl⟩:=ry;obtain⟨its,r,pl,hz⟩:=I.list hq;obtain⟨j,h1,h2,h3,h4,h5⟩:=JN he;obtain⟨w,ew,rw'⟩:=r.get h2;have hl:=r.length;have hn:=D4;have fin:EP X pins σ Q w s:=⟨z,H,I,rw',q⟩;by_cases h0:0<=i
 ·have hj:i.toNat=j:=by
   rw[seqIndex_of h0 h5] at h1;exact N? h1
  exact item_listR pl.isList h0 (by omega) (by rw[hj];simpa using ew) fin hs
 ·have hj:(i+(its.toArray.size:Int)).toNat=j:=by
   rw[seqIndex_neg (by omega) h4] at h1
   rw[Yu,<- hl];exact N? h1
  exact subscriptTail_builtinR (x:=w) pl.isList.typeIs slot_list_getitem.lookup
   (wpAny_getItem_list_neg (Q:=λr s'=>r=w/\EP X pins σ Q r s') pl.isList (by omega) (by rw[Yu] <;> omega) (by omega) (by rw[hj];simpa using ew) ⟨rfl,fin⟩) hs
theorem Sn:Vk X (Mw X.K):=by
 intro value slice pins s σ H x y v u Q I rx ry h hs;obtain⟨p,xs,i,z,rfl,rfl,hq,he,q⟩:=h;cases rx;obtain⟨t,rfl⟩:=ry;obtain⟨its,r,pl,hz⟩:=I.tuple hq;obtain⟨j,h1,h2,h3,h4,h5⟩:=JN he;obtain⟨w,ew,rw'⟩:=r.get h2;have hl:=r.length;have hn:=D4;have fin:EP X pins σ Q w s:=⟨z,H,I,rw',q⟩;exact subscriptTail_builtinR (x:=w) pl.typeIs slot_tuple_getitem.lookup
  (getItem_tuple (j:=j) (Q:=λr s'=>r=w/\EP X pins σ Q r s') pl (by omega) (by omega) (by rw[Yu,<- hl];exact h1) (by simpa using ew) ⟨rfl,fin⟩) hs
theorem HX (its:List l?)(n j)(u):F! (·.setIfInBounds j u) { cls:=.type "list",data:=.seq its.toArray n }={ cls:=.type "list",data:=.seq (its.set j u).toArray n }:=by
 simp[F!]
theorem Inv.lst(I:Inv X pins σ H s)(h:H p=j? (.lst xs)):
  ∃(its:List l?) (n:Nat),Vals xs its/\s.heap.get? p=j? { cls:=.type "list",data:=.seq its.toArray n }/\xs.length<=K?:=by
 obtain⟨z,its,n,r,e⟩:=I.hok p _ h;exact⟨its,n,r,e,z⟩
theorem Inv.So{its its':List l?}(I:Inv X pins σ H s)(h:H p=j? (.lst xs))
  (ho:s.heap.get? p=j? { cls:=.type "list",data:=.seq its.toArray n }) (hf:f { cls:=.type "list",data:=.seq its.toArray n }={ cls:=.type "list",data:=.seq its'.toArray n' }) (r:Vals ys its') (hz:ys.length<=K?) (t):
  Inv X pins σ (upd H p (.lst ys)) { s with heap:=s.heap.update p f,toks:=t }:=by
 have e:(s.heap.update p f).get? p=j? { cls:=.type "list",data:=.seq its'.toArray n' }:=by
  rw[Heap.get?_update_self f ho (by rw[hf] <;> rfl),hf]
 refine I.write (x:=p) (e:=p) (by rw[h];trivial) (.inl rfl) (λb u hb q=>(Heap.get?_update_other _ _ (Ne.symm hb)).trans q) ⟨_,e⟩ ?_
 exact⟨hz,its',n',r,e⟩
inductive Vm  (o:V)(i:V)(v:V)(H:Hp)(Q:(Hp->Prop)):Prop where
 | mk (p xs k j:_) (c5:o=.ref p) (c6:i=.int k) (dS:H p=j? (.lst xs)) (fT:Mv xs.length k=j? j) (jv:Q (upd H p (.lst (xs.set j v))))
theorem set_list:Va X Vm:=by
 intro pins s σ H o i v ov iv u Q I ro ri rv h;obtain⟨p,xs,k,j,rfl,rfl,hp,hj,q⟩:=h;cases ro;obtain⟨t,rfl⟩:=ri;obtain⟨its,n,r,ho,hz⟩:=I.lst hp;obtain⟨h1,h2,h3,h4⟩:=JM hj;have hl:=r.length;have hn:=D4;have I':Inv X pins σ (upd H p (.lst (xs.set j v))) { s with heap:=s.heap.update p (F! (·.setIfInBounds j u)) }:=
  I.So hp ho (HX its n j u) (r.set rv j) (by rw[List.length_set];exact hz) s.toks
 by_cases h0:0<=k
 ·have hk:k.toNat=j:=by
   rw[seqIndex_of h0 h4] at h1;exact N? h1
  exact PySem.W.ki_setAt ho h0 (by omega) (by rw[Yu,<- hl];exact h4) (by rw[hk];exact⟨_,I',q⟩)
 ·have hk:(k+(its.toArray.size:Int)).toNat=j:=by
   rw[seqIndex_neg (by omega) h3] at h1
   rw[Yu,<- hl];exact N? h1
  exact PySem.W.ki_setBack ho (by omega) (by rw[Yu,<- hl];exact h3) (by omega) (by rw[hk];exact⟨_,I',q⟩)
theorem D8 (lo hi)(n):(sliceBounds lo hi q? n).1=((HT.zY n 0 lo:Nat):Int)/\(sliceBounds lo hi q? n).2.1=((HT.zY n n hi:Nat):Int)/\(sliceBounds lo hi q? n).2.2=1:=by
 refine⟨?_,?_,rfl⟩
 ·cases lo with
  | none=>simp[sliceBounds,HT.zY]
  | some i=>
   simp only[sliceBounds,HT.zY,Option.getD_none,show(1:Int) > 0 by decide,if_true]
   by_cases h:i<0
   ·simp only[h,if_true] <;> omega
   ·simp only[h,if_false] <;> omega
 ·cases hi with
  | none=>simp[sliceBounds,HT.zY]
  | some i=>
   simp only[sliceBounds,HT.zY,Option.getD_none,show(1:Int) > 0 by decide,if_true]
   by_cases h:i<0
   ·simp only[h,if_true] <;> omega
   ·simp only[h,if_false] <;> omega
theorem B9 (its:List l?)(lo hi):slicePick its.toArray lo hi q?=((its.drop (HT.zY its.length 0 lo)).take (HT.zY its.length its.length hi-HT.zY its.length 0 lo)).toArray:=by
 obtain⟨h1,h2,h3⟩:=D8 lo hi its.toArray.size;unfold slicePick;rw[h1,h2,h3];simp only[sliceRange_one,pick_run,Yu] <;> rfl
inductive Sq (K:bK)(x:V)(lo:Option Int)(hi:Option Int)(H:Hp)(Q:VK):Prop where
 | mk (a xs:_) (c5:x=.ref a) (c6:aU K H a xs) (dS:∀p,H p=q?->Q (.ref p) (upd H p (.lst (oX xs lo hi))))
theorem PV:YY X (Sq X.K):=by
 intro pins s σ H x v vl vu lo hi sl Q I rx hs pl pu h;obtain⟨a,xs,rfl,hx,q⟩:=h;cases rx;obtain⟨its,r,ht,hz⟩:=I.list hx;have hlen:=r.length;refine⟨"list",_,slot_list_getitem.lookup,ht.isList.typeIs,?_⟩
 refine wpAny_getItem_list_slice ht.isList hs pl pu .none (by simp) ?_ (by rw[Yu] <;> omega)
 rw[B9,<- hlen];refine⟨.ref s.heap.objs.size,_,I.laid (t':=s.toks) (o:=.lst (oX xs lo hi)) (λb ob q=>Yf _ q) (Yd _) ?_,rfl,q _ (I.hok.fresh (Yd _))⟩
 exact⟨Ys (FU xs lo hi) hz,_,0,(r.drop (HT.zY xs.length 0 lo)).take (HT.zY xs.length xs.length hi-HT.zY xs.length 0 lo),Yw _ rfl⟩
def yg:V->Bool
 | .d8=>true
 | .bl _=>true
 | .int _=>true
 | .str _=>true
 | _=>false
def Rp:V->V->Bool
 | .d8,.d8=>true
 | .bl a,.bl b=>a == b
 | .bl a,.int b=>(if a then 1 else 0) == b
 | .int a,.bl b=>a ==(if b then 1 else 0)
 | .int a,.int b=>a == b
 | .str a,.str b=>a == b
 | _,_=>false
theorem Ss(ry:RelV y u)(rx:RelV x v)(fy:yg y=true)(fx:yg x=true):SeqAt.EqAt A s u v (Rp y x):=by
 cases y with
 | d8=>
  cases ry;cases x with
  | d8=>cases rx;exact SeqAt.EqAt.same _
  | bl b=>cases rx;exact SeqAt.EqAt.none_bool b
  | int b=>obtain⟨t,rfl⟩:=rx;exact SeqAt.EqAt.none_int b t
  | str b=>obtain⟨t,rfl⟩:=rx;exact SeqAt.EqAt.none_str b t
  | _=>exact W3 (show false=true from fx) E?
 | bl a=>
  cases ry;cases x with
  | d8=>cases rx;exact SeqAt.EqAt.bool_none a
  | bl b=>cases rx;exact SeqAt.EqAt.bool_bool a b
  | int b=>obtain⟨t,rfl⟩:=rx;exact SeqAt.EqAt.bool_int a b t
  | str b=>obtain⟨t,rfl⟩:=rx;exact SeqAt.EqAt.bool_str a b t
  | _=>exact W3 (show false=true from fx) E?
 | int a=>
  obtain⟨t',rfl⟩:=ry;cases x with
  | d8=>cases rx;exact SeqAt.EqAt.int_none a t'
  | bl b=>cases rx;exact SeqAt.EqAt.int_bool a t' b
  | int b=>obtain⟨t,rfl⟩:=rx;exact SeqAt.EqAt.int_int a t' b t
  | str b=>obtain⟨t,rfl⟩:=rx;exact SeqAt.EqAt.int_str a t' b t
  | _=>exact W3 (show false=true from fx) E?
 | str a=>
  obtain⟨t',rfl⟩:=ry;cases x with
  | d8=>cases rx;exact SeqAt.EqAt.str_none a t'
  | bl b=>cases rx;exact SeqAt.EqAt.str_bool a t' b
  | int b=>obtain⟨t,rfl⟩:=rx;exact SeqAt.EqAt.str_int a t' b t
  | str b=>obtain⟨t,rfl⟩:=rx;exact SeqAt.EqAt.str_str a t' b t
  | _=>exact W3 (show false=true from fx) E?
 | _=>exact W3 (show false=true from fy) E?
def PX (x:V)(u:l?):Bool:=match u with
 | .none=>Rp .d8 x
 | .bool b=>Rp (.bl b) x
 | .int i _=>Rp (.int i) x
 | .str z _=>Rp (.str z) x
 | _=>false
theorem Mx(r:RelV y u)(f:yg y=true):PX x u=Rp y x:=by
 cases y with
 | d8=>cases r;rfl
 | bl b=>cases r;rfl
 | int i=>obtain⟨t,rfl⟩:=r;rfl
 | str z=>obtain⟨t,rfl⟩:=r;rfl
 | _=>exact W3 (show false=true from f) E?
theorem D9 {x:V}:∀ {xs:List V} {us:List l?},Vals xs us->xs.all yg=true->us.any (PX x)=xs.any λy=>Rp y x
 | _,_,.nil,_=>rfl
 | y::xs,u::us,.cons r t,f=>by
  rw[List.all_cons,V?] at f;rw[List.any_cons,List.any_cons,Mx r f.1,D9 t f.2]
theorem zZ {A:C!}{s:u?}{x:V}{v:l?}(rx:RelV x v)(fx:yg x=true):∀ {xs:List V} {us:List l?},Vals xs us->xs.all yg=true->∀u∈us,SeqAt.EqAt A s u v (PX x u)
 | _,_,.nil,_=>λu hu=>by cases hu
 | y::xs,u::us,.cons r t,f=>λu' hu=>by
  rw[List.all_cons,V?] at f;rcases List.mem_cons.mp hu with rfl|hu
  ·rw[Mx r f.1];exact Ss r rx f.1 fx
  ·exact zZ rx fx t f.2 u' hu
def Xu (x:V)(xs:List V):Bool:=xs.any λy=>Rp y x
inductive rIn (K:bK)(neg:Bool)(x:V)(y:V)(H:Hp)(Q:VK):Prop where
 | mk (p xs:_) (c5:y=.ref p) (c6:(aU K H p xs\/iR K H p xs)) (dS:yg x=true) (fT:xs.all yg=true) (jv:Q (.bl (if neg then !Xu x xs else Xu x xs)) H)
theorem K5:q8 X (N! .In) (rIn X.K false):=by
 intro pins s σ H x y v u Q I rx ry h;obtain⟨p,xs,rfl,hq,fx,fs,q⟩:=h;cases ry;rcases hq with hq|hq
 ·obtain⟨its,r,pl,hz⟩:=I.list hq
  refine SeqAt.in_listAt (PX x) pl.isList (λw hw=>zZ rx fx r fs w (by simpa using hw)) ⟨.bl _,H,I,rfl,?_⟩
  rw[show its.toArray.any (PX x)=its.any (PX x) by simp,D9 r fs]
  exact q
 ·obtain⟨its,r,pl,hz⟩:=I.tuple hq
  refine SeqAt.in_tupleAt (PX x) pl (λw hw=>zZ rx fx r fs w (by simpa using hw)) ⟨.bl _,H,I,rfl,?_⟩
  rw[show its.toArray.any (PX x)=its.any (PX x) by simp,D9 r fs]
  exact q
theorem D_:qM X (.builtin "len") (λxs H Q=>∃p ys,xs=[.ref p]/\(aU X.K H p ys\/iR X.K H p ys)/\Q (.int ys.length) H):=by
 intro pins s σ H xs us Q I r h;obtain⟨p,ys,rfl,hq,q⟩:=h;obtain⟨u,rfl,rx⟩:=vals1 r;cases rx;have hn:=D4;rcases hq with hq|hq
 ·obtain⟨its,r',pl,hz⟩:=I.list hq
  have hlen:=r'.length;exact Calls.call_len_list pl.isList (by simp only[Yu] <;> omega) ⟨.int ys.length,H,I.tok _,⟨s.toks+1,by rw[Yu,hlen]⟩,q⟩
 ·obtain⟨its,r',pl,hz⟩:=I.tuple hq
  have hlen:=r'.length;exact len_tuple pl (by simp only[Yu] <;> omega) ⟨.int ys.length,H,I.tok _,⟨s.toks+1,by rw[Yu,hlen]⟩,q⟩
def YZ (K:bK)(T:String)(x:V)(H:Hp):Prop:=match x with
 | .str _=>T="str"
 | .int _=>T="int"
 | .ref p=>(T="list"/\∃xs,aU K H p xs)\/(T="tuple"/\∃o,K.lookup p=j? o/\o.cls=.type "tuple"/\o.dict=q?)\/
   (T="dict"/\((∃kvs,H p=j? (.dK kvs))\/∃kvs,H p=j? (.dT kvs)))\/(T="set"/\∃S n,H p=j? (.set S n))
 | _=>False
theorem My(I:Inv X pins σ H s)(r:RelV x v)(ty:YZ X.K T x H):
  s.TypeIs v T/\∀a,v=.ref a->∃ob,s.heap.get? a=j? ob/\ob.dict=q?:=by
 cases x with
 | str z=>
  obtain⟨t,rfl⟩:=r;cases (show T="str" from ty)
  exact⟨typeIs_str s z t,λ_ e=>nomatch e⟩
 | int i=>
  obtain⟨t,rfl⟩:=r;cases (show T="int" from ty)
  exact⟨typeIs_int s i t,λ_ e=>nomatch e⟩
 | ref p=>
  cases r;rcases ty with ⟨rfl,xs,hq⟩|⟨rfl,o,hk,hc,hd⟩|⟨rfl,hk⟩|⟨rfl,S,n,hk⟩
  ·obtain⟨its,_,pl,_⟩:=I.list hq
   refine⟨pl.isList.typeIs,λa e=>?_⟩
   cases e;obtain⟨o,n,e,c,hd,_⟩:=pl;exact⟨o,e,hd⟩
  ·refine⟨⟨o,I.BZ p o hk,hc⟩,λa e=>?_⟩
   cases e;exact⟨o,I.BZ _ o hk,hd⟩
  ·have z:∃o,s.heap.get? p=j? o/\o.ExactDict:=by
    rcases hk with ⟨kvs,hk⟩|⟨kvs,hk⟩
    ·obtain⟨_,_,_,_,o,_,_,e,ex,_⟩:=I.hok p _ hk
     exact⟨o,e,ex⟩
    ·obtain⟨_,_,_,_,o,_,_,e,ex,_⟩:=I.hok p _ hk
     exact⟨o,e,ex⟩
   obtain⟨o,e,ex⟩:=z;refine⟨⟨o,e,ex.1⟩,λa e2=>?_⟩
   cases e2;exact⟨o,e,ex.2.1⟩
  ·obtain⟨o,_,_,_,e,ex,_⟩:=I.hok p _ hk
   refine⟨⟨o,e,ex.1⟩,λa e2=>?_⟩
   cases e2;exact⟨o,e,ex.2.1⟩
 | _=>exact Q! ty
def Y_ (K:bK)(T:String)(r:V->List V->Hp->VK->Prop)(to:TE):TE:=λσ H Q=>to σ H λx H1=>YZ K T x H1/\r x [] H1 Q
def tBM (K:bK)(T:String)(r:V->List V->Hp->VK->Prop)(to:TE)(t:TA):TE:=λσ H Q=>to σ H λx H1=>YZ K T x H1/\t σ H1 λxs H2=>r x xs H2 Q
variable {o e:Expr} {es:List Expr} {to:TE} {t:TA} {name:Str} {apos cpos:Pos} {T id:String} {r:V->List V->Hp->VK->Prop}
theorem HY (pa:PlainAttrs T)(slot:Slot T name id)(hty:typeOf (.builtin id)=pure (.type "method_descriptor"))(hm:MtR X id r)(ho:PE X o to)
  (hbase:attributeBase o name X.env (eval o X.env)=eval o X.env:=by rfl) (hline:(apos.endLine == cpos.line)=true:=by rfl):PE X (.Call (.Attribute o name apos) [] [] cpos) (Y_ X.K T r to):=by
 refine⟨?_⟩
 intro pins s σ H Q I h;refine wpAny_Call_method0_late hbase hline (fq (ho pins s σ H _ I h) λv s1 ⟨x,H1,I1,r1,ty,q1⟩=>?_)
 obtain⟨h1,h2⟩:=My I1 r1 ty;exact⟨T,id,pa,slot,hty,h1,h2,Calls.callWith_builtin rfl (PySem.evalArgs_none (hm pins s1 σ H1 x [] v [] Q I1 r1 .nil q1))⟩
theorem u9 (pa:PlainAttrs T)(slot:Slot T name id)(hty:typeOf (.builtin id)=pure (.type "method_descriptor"))(hm:MtR X id r)(ho:PE X o to)(ha:PA X (e::es) t)
  (hbase:attributeBase o name X.env (eval o X.env)=eval o X.env:=by rfl)
  (hfew:((backTo cpos (I? (e::es) X.env)).all (λx=>!x.1) && (backToKw cpos (keywordEach [] X.env)).all (λx=>x.1.isSome)
   && decide ((e::es).length+([]:List Keyword).length+(if ([]:List Keyword).isEmpty then 0 else 1)<30))=true:=by rfl)
  (hline:(apos.endLine == cpos.line)=true:=by rfl) (hs:I? (e::es) X.env=(false,eval e X.env)::I? es X.env:=by rfl) (hplain:(backTo cpos (I? es X.env)).any (·.1)=false:=by rfl):
  PE X (.Call (.Attribute o name apos) (e::es) [] cpos) (tBM X.K T r to t):=by
 refine⟨?_⟩
 intro pins s σ H Q I h;refine wpAny_Call_method_late hbase hfew hline rfl (fq (ho pins s σ H _ I h) λv s1 ⟨x,H1,I1,r1,ty,q1⟩=>?_)
 obtain⟨h1,h2⟩:=My I1 r1 ty;refine⟨T,id,pa,slot,hty,h1,h2,?_⟩
 have hA:=ha cpos pins s1 σ H1 _ I1 q1;rw[hs] at hA ⊢;refine Calls.callWith_builtin (by show(false || (backTo cpos (I? es X.env)).any (·.1))=false;rw[hplain] <;> rfl) (Calls.evalArgs_plain ?_)
 exact fq hA λus s2 ⟨vs,H2,I2,r2,q2⟩=>hm pins s2 σ H2 x vs v us Q I2 r1 r2 q2
end
def ZA (X:Cx)(id:String)(r:V->List V->Hp->VK->Prop):Prop:=
 ∀(pins:List (o?×Obj)) (s:u?) (σ:St) (H:Hp) (x:V) (xs:List V) (v:l?) (us:List l?) (Q:VK),Inv X pins σ H s->RelV x v->Vals xs us->r x xs H Q->
  L? (T? X.prog X.w) X.A (call (.builtin id) (v::us)) (EP X pins σ Q) X.xe s
theorem Vals.one:∀ {x:V} {us:List l?},Vals [x] us->∃u,us=[u]/\RelV x u
 | _,_,.cons r .nil=>⟨_,rfl,r⟩
theorem Vals.zero:∀ {us:List l?},Vals [] us->us=[]
 | _,.nil=>rfl
theorem Vals.dropLast(h:Vals xs us):Vals xs.dropLast us.dropLast:=by
 induction h with
 | nil=>exact .nil
 | cons r t ih=>
  cases t with
  | nil=>exact .nil
  | cons q t'=>exact .cons r ih
theorem Vals.reverse(h:Vals xs us):Vals xs.reverse us.reverse:=by
 induction h with
 | nil=>exact .nil
 | cons r t ih=>rw[List.reverse_cons,List.reverse_cons];exact Vals.append ih (.cons r .nil)
theorem Vals.rep {xs:List V}{us:List l?}(h:Vals xs us):∀k:Nat,Vals (Yt k xs).flatten (Yt k us).flatten
 | 0=>.nil
 | k+1=>by
  rw[Zo,Zo,Wn,Wn];exact Vals.append h (Vals.rep h k)
theorem HZ {α:Type}(l:List α):l.eraseIdx (l.length-1)=l.dropLast:=by
 induction l with
 | nil=>rfl
 | cons a r ih=>
  cases r with
  | nil=>rfl
  | cons b r=>
   have e:(a::b::r).length-1=((b::r).length-1)+1:=by
    have h1:(a::b::r).length=r.length+2:=rfl;have h2:(b::r).length=r.length+1:=rfl;omega
   rw[e,List.eraseIdx_cons_succ,ih];all_goals rfl
theorem foldl_rep (its:List l?):∀(k:Nat) (acc:List l?),
  List.foldl (λx1 x2=>x1++x2) acc.toArray (Yt k its.toArray)=(acc++(Yt k its).flatten).toArray
 | 0,acc=>by simp
 | k+1,acc=>by
  have e:acc.toArray++its.toArray=(acc++its).toArray:=by simp
  have e2:(acc++its)++(Yt k its).flatten=acc++(Yt (k+1) its).flatten:=by
   rw[Zo,Wn,List.append_assoc]
  rw[<- e2,<- foldl_rep its k (acc++its),<- e,Zo,List.foldl_cons]
section
variable {X:Cx} {pins:List (o?×Obj)} {σ:St} {H:Hp} {s:u?} {l b:o?} {xs ys zs:List V}
theorem Inv.Su {its its':List l?}(I:Inv X pins σ H s)(hH:H l=j? (.lst xs))
  (e:s.heap.get? l=j? { cls:=.type "list",data:=.seq its.toArray n }) (hf:f its.toArray=its'.toArray) (hv:Vals ys its') (hz:ys.length<=K?):
  Inv X pins σ (upd H l (.lst ys)) { s with heap:=s.heap.update l (F! f),toks:=t' }:=by
 have q:=PySem.IsL.update e f;rw[hf] at q;refine I.write (x:=l) (e:=l) (by rw[hH];exact trivial) (.inl rfl) (λb' u hb hu=>(Heap.get?_update_other s.heap (F! f) (Ne.symm hb)).trans hu) ⟨_,q⟩ ?_
 exact⟨hz,its',_,hv,q⟩
theorem Inv.Vn(I:Inv X pins σ H s)(hv:Vals ys its)(hz:ys.length<=K?):
  Inv X pins σ (upd H s.heap.objs.size (.lst ys)) { s with heap:=s.heap.push { cls:=.type "list",data:=.seq its.toArray },toks:=t' }:=
 I.laid (λ_ _ q=>Yf _ q) (Yd _) ⟨hz,its,0,hv,Yw _ rfl⟩
theorem Inv.fresh (I:Inv X pins σ H s):H s.heap.objs.size=q?:=I.hok.fresh (Yd _)
theorem Inv.K6 (I:Inv X pins σ H s)(hH:H l=j? (.lst xs)):xs.length<=K?/\∃(its:List l?) (n:Nat),Vals xs its/\xs.length=its.length/\s.heap.get? l=j? { cls:=.type "list",data:=.seq its.toArray n }:=by
 obtain⟨z,its,n,r,e⟩:=I.hok l _ hH;exact⟨z,its,n,r,r.length,e⟩
theorem Mz(h:n<=K?):Builtin.List.listTooLong n=false:=by
 unfold Builtin.List.listTooLong;exact W0 (by omega)
end
section
variable {X:Cx}
inductive PY  (x:V)(vs:List V)(H:Hp)(Q:VK):Prop where
 | mk (l xs y:_) (c5:x=.ref l) (c6:vs=[y]) (dS:H l=j? (.lst xs)) (fT:xs.length<K?) (jv:Q .d8 (upd H l (.lst (xs++[y]))))
theorem eW:ZA X "list.append" PY:=by
 intro pins s σ H x vs v us Q I rx rv h;obtain⟨l,xs,y,rfl,rfl,hH,hz,q⟩:=h;cases rx;obtain⟨u,rfl,ru⟩:=rv.one;obtain⟨z,its,n,r,hl,e⟩:=I.K6 hH;refine call_meets F.slot_list_append ⟨_,e,rfl⟩ F.entry_list_append (F.args_list_append_2 _ _) (PySem.list_append l its.toArray n u (by rw[Yu];omega)) ⟨e,?_⟩
 refine⟨.d8,_,I.Su (its':=its++[u]) hH e (by simp) (r.append (.cons ru .nil)) ?_,rfl,q⟩
 rw[Yk,List.length_singleton];omega
inductive ZC  (x:V)(vs:List V)(H:Hp)(Q:VK):Prop where
 | mk (l xs y:_) (c5:x=.ref l) (c6:vs=[]) (dS:H l=j? (.lst xs)) (fT:xs[xs.length-1]?=j? y) (jv:Q y (upd H l (.lst xs.dropLast)))
theorem MA:ZA X "list.pop" ZC:=by
 intro pins s σ H x vs v us Q I rx rv h;obtain⟨l,xs,y,rfl,rfl,hH,hy,q⟩:=h;cases rx;have MB:=rv.zero;subst MB;obtain⟨z,its,n,r,hl,e⟩:=I.K6 hH;obtain⟨u,hu,ru⟩:=r.get hy;have hy':its.toArray[its.toArray.size-1]?=j? u:=by
  show its.toArray[its.length-1]?=j? u
  rw[<- Array.getElem?_toList,<- hl];exact hu
 refine call_meets F.slot_list_pop ⟨_,e,rfl⟩ F.entry_list_pop (F.args_list_pop_1 _) (MeetsSeq.list_pop_last l its.toArray n u hy' (by rw[Yu];omega)) ⟨e,?_⟩
 refine⟨y,_,I.Su (its':=its.dropLast) hH e ?_ r.dropLast ?_,ru,q⟩
 ·show its.toArray.eraseIdxIfInBounds (its.toArray.size-1)=its.dropLast.toArray
  rw[Yu,List.eraseIdxIfInBounds_toArray,HZ]
 ·rw[List.length_dropLast]
  omega
inductive MC  (x:V)(vs:List V)(H:Hp)(Q:VK):Prop where
 | mk (l xs:_) (c5:x=.ref l) (c6:vs=[]) (dS:H l=j? (.lst xs)) (fT:Q .d8 (upd H l (.lst xs.reverse)))
theorem H_:ZA X "list.reverse" MC:=by
 intro pins s σ H x vs v us Q I rx rv h;obtain⟨l,xs,rfl,rfl,hH,q⟩:=h;cases rx;have MB:=rv.zero;subst MB;obtain⟨z,its,n,r,hl,e⟩:=I.K6 hH;refine call_meets F.slot_list_reverse ⟨_,e,rfl⟩ F.entry_list_reverse (F.args_list_reverse_1 _) (AutoSeq1.list_reverse_list_0 l its.toArray n (by rw[Yu];omega)) ⟨e,?_⟩
 refine⟨.d8,_,I.Su (its':=its.reverse) hH e (by simp) r.reverse ?_,rfl,q⟩
 rw[List.length_reverse];omega
inductive ZD  (x:V)(y:V)(H:Hp)(Q:VK):Prop where
 | mk (l b xs zs:_) (c5:x=.ref l) (c6:y=.ref b) (dS:H l=j? (.lst xs)) (fT:H b=j? (.lst zs)) (jv:xs.length+zs.length<=K?) (pZ:∀p,H p=q?->Q (.ref p) (upd H p (.lst (xs++zs))))
theorem jw:q8 X (binaryOp .Add) ZD:=by
 intro pins s σ H x y v u Q I rx ry h;obtain⟨l,b,xs,zs,rfl,rfl,hH,hB,hz,q⟩:=h;cases rx;cases ry;obtain⟨z,its,n,r,hl,e⟩:=I.K6 hH;obtain⟨z2,its2,n2,r2,hl2,e2⟩:=I.K6 hB;refine PySem.P.add_list e e2 ?_ (by rw[Yu,Yu];omega)
 have ea:its.toArray++its2.toArray=(its++its2).toArray:=by simp
 rw[ea];exact⟨.ref _,_,I.Vn (t':=s.toks) (r.append r2) (by rw[Yk];omega),rfl,q _ I.fresh⟩
inductive ZE  (x:V)(y:V)(H:Hp)(Q:VK):Prop where
 | mk (l k xs:_) (c5:x=.ref l) (c6:y=.int k) (dS:H l=j? (.lst xs)) (fT:-(2 ^ 63)<=k) (jv:k<2 ^ 63) (pZ:xs.length*k.toNat<=K?) (wA:∀p,H p=q?->Q (.ref p) (upd H p (.lst (Yt k.toNat xs).flatten)))
theorem len_rep {α:Type}(xs:List α)(k):(Yt k xs).flatten.length=k*xs.length:=by
 induction k with
 | zero=>simp
 | succ k ih=>rw[Zo,Wn,Yk,ih,Wu,Nat.add_comm]
theorem Sv:q8 X (binaryOp .Mult) ZE:=by
 intro pins s σ H x y v u Q I rx ry h;obtain⟨l,k,xs,rfl,rfl,hH,h1,h2,hz,q⟩:=h;cases rx;obtain⟨t,rfl⟩:=ry;obtain⟨z,its,n,r,hl,e⟩:=I.K6 hH;have hlen:its.toArray.size*k.toNat<=K?:=by rw[Yu,<- hl];exact hz
 have hcap:¬ its.toArray.size*k.toNat > (2 ^ 63-1) / 8:=by
  have:(K?:Nat)<=(2 ^ 63-1) / 8:=by decide
  omega
 have hfit:¬ (!Builtin.List.listFitsIndex k)=true:=by
  rw[fitsIndex_both h1 h2];exact E?
 have Vo:¬ Builtin.List.listTooLong (its.toArray.size*k.toNat)=true:=by
  rw[Mz hlen];exact E?
 have hnew:List.foldl (λx1 x2=>x1++x2) #[] (Yt (if its.toArray.isEmpty=true then 0 else k.toNat) its.toArray)=(Yt k.toNat its).flatten.toArray:=by
  have f0:∀m:Nat,List.foldl (λx1 x2=>x1++x2) #[] (Yt m its.toArray)=(Yt m its).flatten.toArray:=λm=>by
   have:=foldl_rep its m []
   rw[List.nil_append] at this;exact this
  rw[f0];cases its with
  | nil=>simp
  | cons a r'=>rw[Ww (by simp)]
 refine wpAny_binaryOp_repeat_ref (T:="list") (U:="int") (by decide) ⟨_,e,rfl⟩ (λs'=>typeIs_int s' k t) noFill_list_mul F.fills_int_mul F.slot_int_rmul repeat_list F.slot_int_index.lookup
  (call_meets F.slot_int_rmul (typeIs_int s k t) F.entry_int_rmul (F.args_int_rmul_2 _ _) (int___rmul___int_list k t l its.toArray n)
   ⟨e,rfl,⟨_,e,rfl⟩,call_meets F.slot_list_mul ⟨_,e,rfl⟩ F.entry_list_mul (F.args_list_mul_2 _ _) (AutoListH.list___mul___list_int_3 l its.toArray n k t hfit hcap Vo) ⟨e,?_⟩⟩)
 rw[hnew];exact⟨.ref _,_,I.Vn (t':=s.toks) (r.rep k.toNat) (by rw[len_rep,Y7];exact hz),rfl,q _ I.fresh⟩
end
section
variable {prog:F?} {w:H?} {A:C!} {E:l?->u?->Prop} {s:u?}
end
section
variable {X:Cx}
end
end L2
namespace Att
open PySem PySem.W PySem.Calls PyProof.Rows
theorem yD:∀(ns:List Int) (vs:List l?),WellAll P h vs (ns.map WData.int)->IntsAre vs ns:=by
 intro ns;induction ns with
 | nil=>
  intro vs w;rw[List.map_nil] at w;cases w;exact .nil
 | cons n ns ih=>
  intro vs w;rw[Z4] at w;cases w with
  | cons a b=>
   cases a;exact .cons _ _ (ih _ b)
theorem K7 {l:OpenLaw}(hn:l.most=j? n)
  (hpre:l.row.toRowW.claim.pre args=true) (hwl:WellAll P h vals args):
  ∃a vs ns,vals=[K! a]/\args=[WData.list (ns.map WData.int)]/\h.get? a=j? { cls:=.type "list",data:=.seq vs.toArray }/\IntsAre vs ns/\ns.length<=n:=by
 have hsh:WShape.hasAll [] args [.list .int]=true:=(pre_splitW hpre).1;have hc:l.pre.holds [] { args:=args }=true:=(pre_splitW hpre).2;obtain⟨d,r,rfl,h1,h2⟩:=hasAllW_cons hsh;obtain rfl:=hasAllW_nil h2
 obtain⟨xs,rfl,h3⟩:=hasW_list h1;obtain⟨ns,rfl⟩:=items_int h3;have hlen:ns.length<=n:=by
  unfold OpenLaw.pre at hc;have h4:(WTm.not (.lt (.lit (.int (n:Int))) (.len (.arg 0)))).holds [] { args:=[.list (ns.map .int)] }=true:=by
   have h4:=(holds_andW hc).1;rw[hn] at h4;exact h4
  have h5:=condW_of h4 (w_not (w_lt w_lit (w_len_list (w_arg rfl))));rw[Yc] at h5;refine Wp λq=>?_
  have q':(n:Int)<((ns.length:Nat):Int):=by omega
  first
   | (rw[Wy q'] at h5;exact W3 h5 (by decide))
   | (simp at h5;omega)
 cases hwl with
 | cons w1 w2=>
  cases w2;cases w1 with
  | list ho hall=>exact⟨_,_,ns,rfl,rfl,ho,yD ns _ hall,hlen⟩
theorem K8 (l:OpenLaw)(args):l.row.toRowW.claim.post args (.bool true) args=true:=
 postW_of (r:=l.row.toRowW) (X:=(true == true))
  (show WShape.has [] (.bool true) .bool=true by first|rfl|decide|simp[WShape.has,WShape.arms,WShape.armsAll])
  (show(WTm.eq .res (.lit (.bool true))).value [] { args:=args,res:=j? (.bool true),after:=args }=j? (.bool (true == true)) from w_eq_bool (w_res rfl) w_lit) rfl
theorem FW {l:OpenLaw}
  (hn:l.most=j? n) (hdf:d.params.defaults=[])
  (call:∀(w:H?) (s₀ s₁:u?) (mg mb:Str->Option l?) (fa:o?) (o:Obj) (pm cd doc:l?) (a:o?) (vs:List l?) (ns:List Int),
   Ground q loose [] XP w s₀ mg mb s₁.heap->YP w s₁.heap->
   s₁.heap.get? fa=j? o->o.data=.func (docDef d.name d.params d.body d.scope pm cd doc)->s₁.heap.CodeRec cd d.name->mg d.name=j? (.ref fa)->
   s₁.heap.get? a=j? { cls:=.type "list",data:=.seq vs.toArray }->IntsAre vs ns->ns.length<=n->s₁.gens=#[]->
   codeAny (T? l.prog w) callerA (.call (.ref fa) ⟨[.ref a],[]⟩) (λr s'=>r=.ok (.ret (.bool true))/\OldK s₁.heap s'.heap/\s'.os=s₁.os/\AllBare s'.gens) s₁):
  WalkO q loose XP YP l.row.toRowW d [] (λf vs=>PySem.call f vs):=by
 intro w s₀ s₁ mg mb G Y fa o pm cd doc dV kV ho hd hcd hD hmg hg args vals as hpre hlay hrd hwl hlo;obtain rfl:dV=.none:=Dflts.none hD hdf
 obtain rfl:kV=.none:=Dflts.noKw hD
 obtain⟨a,vs,ns,rfl,rfl,hobj,hints,hlen⟩:=K7 hn hpre hwl;refine enter_call (codeAny_mono (call w s₀ s₁ mg mb fa o pm cd doc a vs ns G Y ho (fd_plain hd) hcd hmg hobj hints hlen hg) λr s' hq=>?_)
 obtain⟨rfl,h2,h3,h4⟩:=hq;exact⟨.inl ⟨.bool true,.bool true,[],rfl,λ_=>rfl,.bool true,K8 l _,λ_=>⟨List.Pairwise.nil,λ_ hm=>(nomatch hm)⟩⟩,h2,h3,h4⟩
section
variable {prog:F?} {w:H?} {A:C!} {E:l?->u?->Prop} {s:u?} {K:Frag}
end
end Att
namespace L2
open PySem PySem.Spec PyProof.Rows
theorem Dc:∀ {vs:List l?} {ns:List Int},IntsAre vs ns->Vals (ns.map V.int) vs
 | _,_,.nil=>.nil
 | _,_,.cons n t h=>.cons ⟨t,rfl⟩ (Dc h)
def inClass (s:R?)(j:Nat):R?:=match s with
 | .ClassDef _ _ _ body _ _ _ _ _ _ _=>body.getD j (.Pass ⟨0,0,0,0⟩)
 | _=>.Pass ⟨0,0,0,0⟩
def cV (s:R?):Arguments:=match s with
 | .FunctionDef _ a _ _ _ _ _ _ _ _=>a
 | _=>{ posonlyargs:=[],args:=[],vararg:=q?,kwonlyargs:=[],kw_defaults:=[],kwarg:=q?,defaults:=[] }
def bY (s:R?):List R?:=match s with
 | .FunctionDef _ _ b _ _ _ _ _ _ _=>b
 | _=>[]
def aj (s:R?):Scope:=match s with
 | .FunctionDef _ _ _ _ _ _ sc _ _ _=>sc
 | _=>{ kind:=.function,names:=[],isGenerator:=false,isCoroutine:=false }
abbrev z4:K2:=λ_ _ _ _ _ _=>False
abbrev E0:XK:=λ_ _ _=>False
theorem JO:Passes z4 X E0:=λ_ _ _ _ _ _ _ h=>h.elim
structure Fd (K:bK)(x qual:Str)(st:R?)(f:o?)(fd:T!):Prop where
 ex:∃(oc:l?) (od:Option o?) (kV doc pm:l?) (an:Option o?) (cdv ct:l?) (osl:Array (Option l?)),
  fd=Z? x qual (cV st) (bY st) (aj st) .none kV doc pm an cdv ct/\K.lookup f=j? ⟨oc,od,.func fd,osl⟩/\PySem.W.codeIn K cdv qual=true
 kp:E! K (.ref f)=true
section
variable {P:F?} {w:H?} {K:bK} {mg:Str->Option l?} {base:Q?}
theorem Fd.ok {x qual:Str}{st:R?}{f:o?}{fd:T!}{N ps:List Str}{k:Nat}{sp:Sp}(F:Fd K x qual st f fd)(S:aB N ps (aj st))(len:∀vs H Q E,sp vs H Q E->vs.length=ps.length)
  (hbody:∀(cdv:l?) (A:C!) (outer:List Env) (s:u?) (H:Hp) (vs:List V) (Q:VK) (E:XK),eH k (A.deeper (envOfC qual (aj st) s.heap.objs.size f cdv))->sp vs H Q E->
   ∃t,FH (B8 z4 P w K mg base N qual (aj st) f cdv A outer s H E).Pj (bY st) t/\t { nx:=λ_ H'=>Q .d8 H',rt:=Q } (start N vs) H):iP P w K mg base z4 (k+1) f fd ps sp:=by
 obtain⟨oc,od,kV,doc,pm,an,cdv,ct,osl,rfl,lk,hcd⟩:=F.ex;refine Rn lk hcd S len λA outer s H vs Q E hr K4=>?_
 obtain⟨t,h,q⟩:=hbody cdv A outer s H vs Q E hr K4;exact⟨t,h.Pj,q⟩
theorem Fd.binds {x qual:Str}{st:R?}{f:o?}{fd:T!}{ps:List Str}(F:Fd K x qual st f fd)
  (h:∀(kV doc pm:l?) (an:Option o?) (cdv ct:l?) (us:List l?),us.length=ps.length->bindArgs (Z? x qual (cV st) (bY st) (aj st) .none kV doc pm an cdv ct) ⟨us,[]⟩=pure (ps.zip us)):Binds K fd ps []:=by
 obtain⟨oc,od,kV,doc,pm,an,cdv,ct,osl,rfl,lk,hcd⟩:=F.ex;exact .all (h kV doc pm an cdv ct)
theorem p9 {x qual:Str}{st:R?}{f:o?}{oc:l?}{od an:Option o?}{osl:Array (Option l?)}{kV doc pm cdv ct:l?}(l:K.lookup f=j? ⟨oc,od,.func (Z? x qual (cV st) (bY st) (aj st) .none kV doc pm an cdv ct),osl⟩)
  (c:U! K cdv qual=true) (k:E! K (.ref f)=true):Fd K x qual st f (Z? x qual (cV st) (bY st) (aj st) .none kV doc pm an cdv ct):=⟨⟨oc,od,kV,doc,pm,an,cdv,ct,osl,rfl,l,c⟩,k⟩
end
section
variable {X:Cx}
theorem pv (i)(hN:X.N[i]?=j? x:=by rfl)(hv:Ur X.env.scope x:=by first|exact z? rfl|exact Or.inr (z? rfl)|exact Or.inr (Or.inr rfl))(hd:(x ==("__debug__":Str))=false:=by decide)
  (hcd:(x ==("__classdict__":Str))=false:=by decide):PE X (.Name x pos) (DY i):=R3 hN hv hd hcd
end
theorem cX {A B:Prop}(h:B):if false=true then A else B:=by
 rw[Ww E?];exact h
theorem fE {A B:Prop}(h:A):if true=true then A else B:=by
 rw[Wx rfl];exact h
theorem wB {c A B:Prop}[Decidable c](h1:c->A)(h2:¬ c->B):if c then A else B:=by
 by_cases h:c
 ·rw[Wx h]
  exact h1 h
 ·rw[Ww h]
  exact h2 h
theorem JP {c A B:Prop}[Decidable c](hc:c)(h:B):if (!decide c)=true then A else B:=by
 rw[Wy hc];exact cX h
def ay (H H':Hp):Prop:=∀b o,H b=j? o->H' b=j? o
theorem ay.refl (H):ay H H:=λ_ _ h=>h
theorem ay.trans(a:ay H H1)(b:ay H1 H2):ay H H2:=λc o h=>b c o (a c o h)
theorem ay.free(e:ay H H')(h:H' l=Option.none):H l=Option.none:=by
 cases q:H l with
 | none=>rfl
 | some o=>
  rw[e l o q] at h;cases h
theorem ay.seq {K:bK}{H H':Hp}{a:o?}{xs:List V}(e:ay H H')(h:aU K H a xs):aU K H' a xs:=by
 rcases h with (h|⟨o,h⟩)|h
 ·exact .inl (.inl (e _ _ h))
 ·exact .inl (.inr ⟨o,e _ _ h⟩)
 ·exact .inr h
theorem gI {env:Env}:∀ {names:List (Str×NameKind)} {x:Str},names.lookup x=j? .free->
  (names.map λ(n,k)=>if (k == B! && env.scope.kind == .function && env.kindOf n == j? .cell) then (n,O!) else (n,k)).lookup x=j? .free\/
  (names.map λ(n,k)=>if (k == B! && env.scope.kind == .function && env.kindOf n == j? .cell) then (n,O!) else (n,k)).lookup x=j? .cell
 | [],_,h=>by simp at h
 | (n,k)::r,x,h=>by
  have ih:=@gI env r x;show Z2 x ((if (k == B! && env.scope.kind == .function && env.kindOf n == j? .cell)=true then (n,O!) else (n,k))::_)=_\/Z2 x ((if (k == B! && env.scope.kind == .function && env.kindOf n == j? .cell)=true then (n,O!) else (n,k))::_)=_
  cases hx:x == n with
  | true=>
   simp only[Y0,hx] at h
   cases h;by_cases hc:(B! == B! && env.scope.kind == .function && env.kindOf n == j? .cell)=true
   ·rw[Wx hc];exact .inr (by simp only[Y0,hx])
   ·rw[Ww hc];exact .inl (by simp only[Y0,hx])
  | false=>
   simp only[Y0,hx] at h
   by_cases hc:(k == B! && env.scope.kind == .function && env.kindOf n == j? .cell)=true
   ·rw[Wx hc];simp only[Y0,hx];exact ih h
   ·rw[Ww hc];simp only[Y0,hx];exact ih h
theorem p_ {env:Env}:∀ {names:List (Str×NameKind)} {x:Str} {kd:NameKind},(∀y∈names,y.2≠.cell)->kd=.cell\/kd=.free->
  (names.map λ(n,k)=>if (k == B! && env.scope.kind == .function && env.kindOf n == j? .cell) then (n,O!) else (n,k)).lookup x=j? kd->names.lookup x=j? .free
 | [],_,_,_,_,h=>by simp at h
 | (n,k)::r,x,kd,hn,hk,h=>by
  have ih:=@p_ env r x kd (λy hy=>hn y (Ye _ hy)) hk
  have h':Z2 x ((if (k == B! && env.scope.kind == .function && env.kindOf n == j? .cell)=true then (n,O!) else (n,k))::(r.map λ(n,k)=>if (k == B! && env.scope.kind == .function && env.kindOf n == j? .cell) then (n,O!) else (n,k)))=j? kd:=h
  have hkc:k≠.cell:=hn (n,k) Yg;by_cases hc:(k == B! && env.scope.kind == .function && env.kindOf n == j? .cell)=true
  ·rw[Wx hc] at h'
   have hkf:k=.free:=by
    simp only[V?,beq_iff_eq] at hc
    exact hc.1.1
   subst hkf;cases hx:x == n with
   | true=>simp only[Y0,hx]
   | false=>simp only[Y0,hx] at h' ⊢;exact ih h'
  ·rw[Ww hc] at h'
   cases hx:x == n with
   | true=>
    simp only[Y0,hx] at h' ⊢
    have e:k=kd:=N? h';subst e;rcases hk with hk|hk
    ·exact W3 hk hkc
    ·rw[hk]
   | false=>simp only[Y0,hx] at h' ⊢;exact ih h'
def bq (cells:List (Str×o?)):List (Str×NameKind)->List (Str×o?)->List (Str×o?)
 | [],acc=>acc
 | (n,k)::r,acc=>bq cells r (if k=.free then match cells.lookup n with|some c=>(n,c)::acc|none=>acc else acc)
theorem jU(h:∀y∈scope.names,y.2=.free->∃c,env.cells.lookup y.1=j? c):closureFor scope env=pure (bq env.cells scope.names []):=by
 have go:∀(l:List (Str×NameKind)) (acc:List (Str×o?)),(∀y∈l,y.2=.free->∃c,env.cells.lookup y.1=j? c)->
   (forIn l acc λx (r:List (Str×o?))=>(match x with|(name,kind)=>if (kind == B!)=true then do let c <- cellOf env name;pure (ForInStep.yield ((name,c)::r)) else pure (ForInStep.yield r):Sem (ForInStep (List (Str×o?)))))=pure (bq env.cells l acc):=by
  intro l;induction l with
  | nil=>intro acc _;rfl
  | cons x l ih=>
   intro acc hl;obtain⟨n,k⟩:=x;rw[List.forIn_cons];by_cases hk:k=.free
   ·subst hk
    obtain⟨c,hc⟩:=hl (n,.free) Yg rfl;have e1:cellOf env n=pure c:=by unfold cellOf;rw[hc]
    simp only[beq_self_eq_true,if_true,e1,pure_bind]
    rw[ih _ λy hy=>hl y (Ye _ hy)]
    show _=pure (bq env.cells l (if B!=.free then match env.cells.lookup n with|some c=>(n,c)::acc|none=>acc else acc))
    rw[Wx rfl,hc]
   ·have hb:(k == B!)=false:=by simpa using hk
    simp only[hb,Bool.false_eq_true,if_false,pure_bind]
    rw[ih _ λy hy=>hl y (Ye _ hy)]
    show _=pure (bq env.cells l (if k=.free then _ else acc))
    rw[Ww hk]
 unfold closureFor;have:=go scope.names [] h
 simp only[bind_pure_comp] at this ⊢
 first
  | exact this
  | simpa using this
theorem tR {cells:List (Str×o?)}{x:Str}{c:o?}:∀(l:List (Str×NameKind)) (acc:List (Str×o?)),(∀d,acc.lookup x=j? d->cells.lookup x=j? d)->(bq cells l acc).lookup x=j? c->cells.lookup x=j? c
 | [],acc,h,e=>h c e
 | (n,k)::r,acc,h,e=>by
  refine tR r _ (λd hd=>?_) e
  split at hd
  ·split at hd
   ·rename_i c' hc'
    cases hx:x == n with
    | true=>
     simp only[Y0,hx] at hd
     have:x=n:=by simpa using hx
     subst this;rw[hc'];exact hd
    | false=>simp only[Y0,hx] at hd;exact h d hd
   ·exact h d hd
  ·exact h d hd
theorem mE {cells:List (Str×o?)}{x:Str}{c:o?}(hc:cells.lookup x=j? c):∀(l:List (Str×NameKind)) (acc:List (Str×o?)),(acc.lookup x=j? c\/(x,B!)∈l)->(∀d,acc.lookup x=j? d->d=c)->(bq cells l acc).lookup x=j? c
 | [],acc,h,_=>by
  rcases h with h|h
  ·exact h
  ·cases h
 | (n,k)::r,acc,h,u=>by
  by_cases hk:k=.free
  ·subst hk
   show(bq cells r (if B!=.free then match cells.lookup n with|some c=>(n,c)::acc|none=>acc else acc)).lookup x=j? c
   rw[Wx rfl];by_cases hx:x=n
   ·subst hx
    rw[hc];refine mE hc r _ (.inl (by simp)) λd hd=>?_
    simp at hd
    exact hd.symm
   ·have hb:(x == n)=false:=by simpa using hx
    have keep:∀(a2:List (Str×o?)),(match cells.lookup n with|some c=>(n,c)::acc|none=>acc)=a2->a2.lookup x=acc.lookup x:=by
     intro a2 e;subst e;cases cells.lookup n with
     | none=>rfl
     | some c'=>simp only[Y0,hb]
    refine mE hc r _ ?_ λd hd=>u d (by rw[keep _ rfl] at hd;exact hd)
    rcases h with h|h
    ·exact .inl (by rw[keep _ rfl];exact h)
    ·rcases List.mem_cons.mp h with h|h
     ·exact W3 (W1 Prod.fst h) hx
     ·exact .inr h
  ·show(bq cells r (if k=.free then _ else acc)).lookup x=j? c
   rw[Ww hk];refine mE hc r _ ?_ u
   rcases h with h|h
   ·exact .inl h
   ·rcases List.mem_cons.mp h with h|h
    ·exact W3 (W1 Prod.snd h).symm hk
    ·exact .inr h
abbrev gP (X:Cx)(N:List Str)(scope:Scope)(cl:List (Str×o?))(C:o?)(s2:u?)(H2:Hp)(fp:List o?):Cx:=
 { X with N:=N,s₀:=s2,H₀:=H2,env:=compEnvC scope cl C X.env,outer:=X.stack,ex:=fp,fn:=λ_=>false,pn:=[],xe:=λ_ _=>False }
def gj (sl:List (Option Nat))(σ:St):St:=sl.map λo=>match o with|some i=>(σ[i]?).join|none=>q?
structure bE (X:Cx)(N:List Str)(sl:List (Option Nat))(scope:Scope):Prop where
 kind:scope.kind=.function
 ud:∀y∈scope.names,y.2≠.cell
 locs:∀y∈scope.names,y.2=.local->scope.names.lookup y.1=j? .local
 frees:∀y∈scope.names,y.2=.free->X.env.kindOf y.1=j? .cell\/X.env.kindOf y.1=j? .free
 len:sl.length=N.length
 out:∀(j i:Nat) (x:Str),N[j]?=j? x->sl[j]?=j? (j? i)->X.N[i]?=j? x/\scope.names.lookup x=j? .free
def Rr (X:Cx)(ifs:List Expr)(t:TT):Prop:=
 ∀(pins:List (o?×Obj)) (s:u?) (σ:St) (H:Hp) (Q:Bool->Hp->Prop),Inv X pins σ H s->t σ H Q->
  L? (T? X.prog X.w) X.A (forIn ifs true λc r=>if r=true then do let ok <- isTrue c X.env (eval c X.env);pure (ForInStep.yield ok) else pure (ForInStep.yield r)) (TP X pins σ Q) X.xe s
def MD:TT:=λ_ H Q=>Q true H
theorem bf:Rr X [] MD:=λpins s σ H Q I h=>by
 rw[List.forIn_nil];exact J? ⟨H,I,h⟩
theorem PZ(h:PT X c t):Rr X [c] t:=λpins s σ H Q I q=>by
 rw[List.forIn_cons];refine B? ?_
 rw[Wx rfl];refine B? (fq (h pins s σ H Q I q) λb s1 r=>J? ?_)
 show L? _ _ (forIn [] b _) _ _ _
 rw[List.forIn_nil];exact J? r
def tS (J:It)(D:o?)(st:St)(g:TG)(v7:TT)(te:TE)(Q:VK)(H1:Hp):Prop:=∃W:Nat->Nat->Hp->Prop,
 (∃m,W 0 m (upd H1 D (.lst [])))/\∀i m H2,W i m H2->
  (J.stop i H2/\Q (.ref D) H2)\/(J.go i H2/\∀x H',J.R9 i H2 x H'->g x st H' λσ3 H3=>v7 σ3 H3 λb H4=>
   if b=true then te σ3 H4 λy H5=>∃ys,H5 D=j? (.lst ys)/\ys.length<K?/\∃m',m'<m/\W (i+1) m' (upd H5 D (.lst (ys++[y]))) else ∃m',m'<m/\W (i+1) m' H4)
def Dd (wi:TI)(sl:List (Option Nat))(g:TG)(v7:TT)(te:TE):TE:=λσ H Q=>wi σ H λJ H1=>∀D,H1 D=q?->tS J D (gj sl σ) g v7 te Q H1
section
variable {X:Cx} {N:List Str} {sl:List (Option Nat)} {scope:Scope}
theorem yh{j:Nat}(h:(gj sl σ)[j]?=j? (j? v)):∃i,sl[j]?=j? (j? i)/\σ[i]?=j? (j? v):=by
 unfold gj at h;rw[Yh] at h;cases e:sl[j]? with
 | none=>rw[e] at h;cases h
 | some o=>
  rw[e] at h;cases o with
  | none=>cases h
  | some i=>
   refine⟨i,rfl,?_⟩
   have h':(σ[i]?).join=j? v:=N? h;cases e2:σ[i]? with
   | none=>rw[e2] at h';cases h'
   | some q=>rw[e2] at h';exact W1 j? h'
theorem bE.clos (S:bE X N sl scope)(ok:X.Ok):closureFor scope X.env=pure (bq X.env.cells scope.names []):=
 jU λy hy hf=>ok.has y.1 (S.frees y hy hf)
theorem bE.cell (S:bE X N sl scope)(ok:X.Ok)(hf:scope.names.lookup x=j? .free)(hc:X.env.cells.lookup x=j? c):(bq X.env.cells scope.names []).lookup x=j? c:=
 mE hc _ _ (.inr (W? hf)) λd hd=>by simp at hd
theorem bE.back(h:(bq X.env.cells scope.names []).lookup x=j? c):X.env.cells.lookup x=j? c:=
 tR _ _ (λd hd=>by simp at hd) h
theorem bE.ok (S:bE X N sl scope){pins:List (o?×Obj)}{σ:St}{H2:Hp}{s2:u?}{fp:List o?}{C:o?}(I:Inv X pins σ H2 s2)(hf:∀b∈fp,oS X pins H2 b)(hlt:∀b∈fp,b<s2.heap.objs.size)(hC:s2.heap.objs.size<=C):
  (gP X N scope (bq X.env.cells scope.names []) C s2 H2 fp).Ok where
 mod:=I.ok.mod
 kind:=S.kind
 glob:=I.ok.glob
 blt:=I.ok.blt
 above:=hC
 inj:=λx y c h1 h2=>I.ok.inj x y c (bE.back h1) (bE.back h2)
 has:=λx hx=>by
  have hx':scope.names.lookup x=j? .free:=by
   rcases hx with hx|hx
   ·exact p_ S.ud (.inl rfl) hx
   ·exact p_ S.ud (.inr rfl) hx
  obtain⟨c,hc⟩:=I.ok.has x (S.frees _ (W? hx') rfl);exact⟨c,S.cell I.ok hx' hc⟩
 R0:=λx c h=>W3 (show false=true from h) E?
 hd:=I.ok.hd
 frames:=I.ok.frames
 stk:=.inl rfl
 Us:=λb hb=>⟨Ym (Yj (hlt b hb) hC),λx c h=>(hf b hb).2.2.2.2.1 x c (bE.back h)⟩
 bs:=I.bs
 Hw:=Ys I.ok.Hw I.sz
 FE:=λb o e hb=>by
  rcases (hf b hb).2.2.2.1 with z|z
  ·exact I.ok.FE b o e z
  ·exact W3 (Yj (Yj (Yl e) I.ok.Hw) z) (Zb _)
 FF:=λb hb z=>by
  rcases List.mem_cons.mp (I.DW b z) with e|e
  ·exact(hf b hb).2.1 e
  ·exact(hf b hb).2.2.1 e
 sX:=I.stack
 Mg:=I.DX
theorem bE.again (S:bE X N sl scope)(I:Inv X pins σ H2 s2)(hf:∀b∈fp,oS X pins H2 b)
 (J:Inv (gP X N scope (bq X.env.cells scope.names []) C s2 H2 fp) pins' σ' H' s'):
  Inv (gP X N scope (bq X.env.cells scope.names []) C s2 H2 fp) pins' (gj sl σ) H' s':=by
 obtain⟨m,hn,_⟩:=J.loc;refine⟨J.ok,J.os,J.bare,J.base,⟨m,hn,λj x v e1 e2 _=>?_⟩,J.cell,J.free,J.mw,J.pin,J.hok,?_⟩
 ·obtain⟨i,h1,h2⟩:=yh e2
  obtain⟨hN,hfree⟩:=S.out j i x e1 h1;have hk:=S.frees _ (W? hfree) rfl;obtain⟨m0,hn0,Vp⟩:=I.loc;have hv:Ur X.env.scope x:=by
   rcases hk with hk|hk
   ·exact .inr (.inl hk)
   ·exact .inr (.inr hk)
  obtain⟨u,r,l⟩:=Vp i x v hN h2 hv;refine⟨u,r,.inr ⟨?_,?_⟩⟩
  ·rcases gI (env:=X.env) hfree with z|z
   ·exact .inr z
   ·exact .inl z
  ·rcases l with ⟨z,_⟩|⟨_,c,hc,q⟩
   ·rcases hk with hk|hk
    ·have hk':X.env.kindOf x=j? .cell:=hk
     rw[hk'] at z;cases z
    ·have hk':X.env.kindOf x=j? .free:=hk
     rw[hk'] at z;cases z
   ·refine⟨c,S.cell I.ok hfree hc,?_⟩
    obtain⟨o,ho,hd⟩:=q;have Sw:c ∉ fp:=λz=>(hf c z).2.2.2.2.1 x c hc rfl
    obtain⟨YJ,e⟩:=J.base.any ho (I.mw x c hc) Sw;exact⟨_,e,hd⟩
 ·unfold gj
  rw[Yc];exact S.len
theorem FY(S:bE X N sl scope)(oY:X.calm=true)(hi:PI X tg iter wi)
  (hg:∀cl C s2 H2 fp,PG (gP X N scope cl C s2 H2 fp) tg g) (hif:∀cl C s2 H2 fp,Rr (gP X N scope cl C s2 H2 fp) ifs v7) (he:∀cl C s2 H2 fp,PE (gP X N scope cl C s2 H2 fp) elt te)
  (hs:∀x,foldedSetIterable iter X.env x=pure x) (I:Inv X pins σ H s) (h:Dd wi sl g v7 te σ H Q)
  (hend:∀(D C:o?) (H3:Hp) (s4:u?) (fl:Flow),Inv X pins σ H3 s4->H3 C=q?->C≠X.env.locals->C ∉ X.fs->X.s₀.heap.objs.size<=C->(∀x c,X.env.cells.lookup x=j? c->c≠C)->(∀p∈X.pn++pins,p.1≠C)->(∃m,s4.heap.Ns C m)->Q (.ref D) H3->
   compPost (T? X.prog X.w) X.A X.xe use QQ (.ref D) C (.ok fl) s4):
  L? (T? X.prog X.w) X.A (comprehension (.ListComp elt [⟨tg,iter,ifs,0⟩] scope pos) scope X.env pos2 (newList []) false (eval iter X.env) use) QQ X.xe s:=by
 refine wpAny_comprehension_free (use:=use) rfl hs (S.clos I.ok) S.kind S.locs (D! (hi pins s σ H _ I h) (λxv s1 h1=>D! h1 (λitv s2 h2=>?_) λ_ _ e=>e) λ_ _ e=>e)
 obtain⟨it,fp,tn,J,H2,rfl,I2,T,st2,f2,hR⟩:=h2;obtain⟨W,⟨m0,w0⟩,turn⟩:=hR _ I2.fresh;refine wpAny_newObj_type (wpAny_newFunctionEnv S.ud (by intro y hy;simp at hy) (λh₁ z5 Ea=>?_) S.kind)
 dsimp only at z5 Ea ⊢
 generalize hP:s2.heap.push { cls:=.type "list",dict:=q?,data:=.seq ([]:List l?).toArray }=P2 at z5 Ea ⊢;have hC:P2.objs.size=s2.heap.objs.size+1:=by rw[<- hP,Wa]
 have hDC:s2.heap.objs.size≠P2.objs.size:=by rw[hC];exact Ym (Wq _)
 have wC:s2.heap.objs.size<=P2.objs.size:=by rw[hC];exact Wg _
 have hlt:∀b∈fp,b<s2.heap.objs.size:=λb hb=>let ⟨o,e,_⟩:=T.obj 0 _ st2 b hb;Yl e
 have old:∀b o,s2.heap.get? b=j? o->h₁.get? b=j? o:=λb o e=>Ea.extBut b o (Ym (Yj (Yl e) wC)) (Yf _ (hP ▸ Yf _ e))
 have ZF:h₁.get? s2.heap.objs.size=j? { cls:=.type "list",dict:=q?,data:=.seq ([]:List l?).toArray }:=Ea.extBut _ _ hDC (Yf _ (hP ▸ Yw _ rfl));have hok:=S.ok (C:=P2.objs.size) I2 f2 hlt wC;have Sx:yc X.prog X.w (upd H2 s2.heap.objs.size (.lst [])) h₁:=I2.hok.laid old (Yd _) ⟨Y2 _,[],_,.nil,ZF⟩;have ZG:Un (frs X.stack) fp H2 (upd H2 s2.heap.objs.size (.lst [])) s2.heap h₁:=Un.laid old (Yd _) I2.fresh;have Ia:∀x c,(bq X.env.cells scope.names []).lookup x=j? c->∃v,h₁.IsCell c v:=λx c hc=>by
  obtain⟨v,o,ho,hd⟩:=I2.cell x c (bE.back hc);exact⟨v,o,old c o ho,hd⟩
 have Ib:∀x c,(bq X.env.cells scope.names []).lookup x=j? c->upd H2 s2.heap.objs.size (.lst []) c=q?:=λx c hc=>by
  obtain⟨v,q⟩:=I2.cell x c (bE.back hc);rw[aH (Ym q.lt)];exact I2.mw x c (bE.back hc)
 have Ic:upd H2 s2.heap.objs.size (.lst []) P2.objs.size=q?:=by
  rw[aH (Ne.symm hDC)];exact I2.hok.fresh wC
 have start:∀tk:Nat,Inv (gP X N scope (bq X.env.cells scope.names []) P2.objs.size s2 H2 fp) [] (gj sl σ) (upd H2 s2.heap.objs.size (.lst [])) { s2 with heap:=h₁,toks:=tk }:=λtk=>by
  have J0:Inv (gP X N scope (bq X.env.cells scope.names []) P2.objs.size s2 H2 fp) [] (Yt N.length q?) (upd H2 s2.heap.objs.size (.lst [])) { s2 with heap:=h₁,toks:=tk }:=
   ⟨hok,rfl,I2.bare,ZG,⟨_,z5,λi x v e1 e2 _=>by
    rw[List.getElem?_replicate] at e2;split at e2 <;> cases e2⟩,Ia,Ic,Ib,λp hp=>W3 (show p∈([]:List (o?×Obj)) from hp) (by simp),Sx,by simp⟩
  exact S.again I2 f2 J0
 have stK:tn 0 h₁:=T.keep _ _ _ st2 λb hb o e=>old b o e
 have ZH:∀b∈fp,upd H2 s2.heap.objs.size (.lst []) b=q?:=λb hb=>by
  rw[aH (Ym (hlt b hb))];exact(f2 b hb).1
 have zW:∀ {H':Hp},(∀b∈fp,H' b=q?)->∀b∈fp,oS (gP X N scope (bq X.env.cells scope.names []) P2.objs.size s2 H2 fp) [] H' b:=λhn b hb=>
  ⟨hn b hb,Ym (Yj (hlt b hb) wC),λz=>hok.FF b hb z,.inl hb,λx c hc=>(hok.Us b hb).2 x c hc,λp hp=>W3 (show p∈([]:List (o?×Obj)) from hp) (by simp)⟩
 have loop:∀tk:Nat,codeAny (T? X.prog X.w) X.A (.compLoop (.ListComp elt [⟨tg,iter,ifs,0⟩] scope pos) 0 (.ref it) (.ref s2.heap.objs.size) (compEnvC scope (bq X.env.cells scope.names []) P2.objs.size X.env))
   (compPost (T? X.prog X.w) X.A X.xe use QQ (.ref s2.heap.objs.size) P2.objs.size) { s2 with heap:=h₁,toks:=tk }:=λtk=>by
  refine codeAny_loop rfl (λn s'=>∃i H',Inv (gP X N scope (bq X.env.cells scope.names []) P2.objs.size s2 H2 fp) [] (gj sl σ) H' s'/\tn i s'.heap/\(∀b∈fp,H' b=q?)/\W i n H') ?_ m0 ⟨0,_,start tk,stK,ZH,w0⟩
  rintro n s3 ⟨i,H3,I3,st3,Rj,w3⟩;show L? _ X.A ((compTurn (.ListComp elt [⟨tg,iter,ifs,0⟩] scope pos) 0 (.ref it) (.ref s2.heap.objs.size) (compEnvC scope (bq X.env.cells scope.names []) P2.objs.size X.env)).onRaise (λx=>do noteFrame x (compEnvC scope (bq X.env.cells scope.names []) P2.objs.size X.env);theTreesLotGoes x)) _ _ s3
  refine wpAny_noted ?_
  rw[compTurn_list];rcases turn i n H3 w3 with ⟨stop,qn⟩|⟨go,step⟩
  ·refine B? (wpAny_standAt (B? (D! (T.done (gP X N scope (bq X.env.cells scope.names []) P2.objs.size s2 H2 fp) rfl rfl rfl oY i [] s3 _ H3 _ I3 (zW Rj) st3 stop) (λr s4 ⟨hr,I4⟩=>?_) λ_ _ z=>z)))
   subst hr;refine J? ?_
   obtain⟨m4,ZI,_⟩:=I4.loc;have u0:Un (frs X.stack) fp H2 H3 s2.heap s4.heap:=I4.base;have hI:Inv X pins σ H3 s4:=I2.Rh (s':=s4) (ch:=fp) I4.os u0 I4.hok I4.bare λb hb=>⟨(f2 b hb).2.2.2.1,(f2 b hb).2.1,(f2 b hb).2.2.2.2.1,(f2 b hb).2.2.2.2.2⟩
   have P0:=I2.yC (H':=H3) wC I4.free;exact hend _ _ H3 s4 _ hI I4.free P0.2.1 P0.2.2.1 (Ys I2.sz wC) P0.2.2.2.2.1 P0.2.2.2.2.2 ⟨m4,ZI⟩ qn
  ·refine B? (wpAny_standAt (B? (D! (T.item (gP X N scope (bq X.env.cells scope.names []) P2.objs.size s2 H2 fp) rfl rfl rfl oY i [] s3 _ H3 (λ_ _=>False) I3 (zW Rj) st3 go) (λr s4 ⟨u,hr,h4⟩=>?_) λ_ _ z=>z.elim)))
   subst hr;refine B? (D! h4 (λ_ s5 ⟨x,H5,I5,r5,y5,Mn,Vd⟩=>?_) λ_ _ z=>z.elim)
   have Ve:=I5.pinned (zW Vd) (T.obj _ _ Mn);refine B? (D! (hg _ _ _ _ _ _ s5 _ H5 x u _ Ve r5 (step x H5 y5)) (λ_ s6 ⟨σ6,H6,I6,q6⟩=>?_) λ_ _ z=>(show False from z).elim)
   have again:∀ {σ7:St} {H7:Hp} {s7:u?},Inv (gP X N scope (bq X.env.cells scope.names []) P2.objs.size s2 H2 fp) ([]++wo fp s5.heap) σ7 H7 s7->(∃m',m'<n/\W (i+1) m' H7)->
     ∃m',m'<n/\∃i H',Inv (gP X N scope (bq X.env.cells scope.names []) P2.objs.size s2 H2 fp) [] (gj sl σ) H' s7/\tn i s7.heap/\(∀b∈fp,H' b=q?)/\W i m' H':=λ{σ7 H7 s7} I7 ⟨m',hm,w7⟩=>by
    refine⟨m',hm,i+1,H7,S.again I2 f2 I7.oU,T.keep _ _ _ Mn λb hb o e=>(I7.pin (b,o) (Yn _ (Yn _ (fU hb e)))).1,λb hb=>?_,w7⟩
    obtain⟨o,e,d⟩:=T.obj _ _ Mn b hb;exact(I7.pin (b,o) (Yn _ (Yn _ (fU hb e)))).2.1
   refine B? (D! (hif _ _ _ _ _ _ s6 σ6 H6 _ I6 q6) (λok s7 ⟨H7,I7,q7⟩=>?_) λ_ _ z=>(show False from z).elim)
   cases ok with
   | false=>
    exact J? ⟨rfl,again I7 (by simpa using q7)⟩
   | true=>
    rw[Wx rfl] at q7;refine B? (B? (D! ((he _ _ _ _ _).out _ s7 σ6 H7 _ I7 q7) (λy s8 ⟨yv,H8,I8,r8,ys,hys,hlen,w8⟩=>?_) λ_ _ z=>(show False from z).elim))
    refine B? (D! (eW (X:=gP X N scope (bq X.env.cells scope.names []) P2.objs.size s2 H2 fp) _ s8 σ6 H8 (.ref s2.heap.objs.size) [yv] (.ref s2.heap.objs.size) [y]
     (λv H9=>v=.d8/\∃m',m'<n/\W (i+1) m' H9) I8 rfl (.cons r8 .nil) ⟨_,ys,yv,rfl,rfl,hys,hlen,rfl,w8⟩) (λr s9 ⟨v9,H9,I9,r9,e9,w9⟩=>?_) λ_ _ z=>(show False from z).elim)
    exact J? (J? ⟨rfl,again I9 w9⟩)
 exact codeAny_compStart_list (loop _) (T.self _ 0 _ _ _ stK (loop _))
theorem cA(S:bE X N sl scope)(oY:X.calm=true)(hi:PI X tg iter wi)
  (hg:∀cl C s2 H2 fp,PG (gP X N scope cl C s2 H2 fp) tg g) (hif:∀cl C s2 H2 fp,Rr (gP X N scope cl C s2 H2 fp) ifs v7) (he:∀cl C s2 H2 fp,PE (gP X N scope cl C s2 H2 fp) elt te)
  (hs:∀x,foldedSetIterable iter X.env x=pure x:=by intro _;rfl):
  PE X (.ListComp elt [⟨tg,iter,ifs,0⟩] scope pos) (Dd wi sl g v7 te):=by
 refine⟨?_⟩
 intro pins s σ H Q I h;rw[eval_ListComp];refine FY S oY hi hg hif he hs I h λD C H3 s4 fl I4 n1 n2 n3 n4 n5 n6 ⟨m,hn⟩ q=>?_
 exact⟨m,hn,λh' OV=>⟨.ref D,H3,I4.turned (t':=s4.toks) (λb o hb e=>(OV.2 b hb).trans e) n1 n2 (.inr n4) n5 n6,rfl,q⟩⟩
theorem lO(hN:X.N.Nodup)(hi':X.N[i]?=j? x)(hx:Loc X.env.scope x)(S:bE X N sl scope)(oY:X.calm=true)(hi:PI X tg iter wi)
  (hg:∀cl C s2 H2 fp,PG (gP X N scope cl C s2 H2 fp) tg g) (hif:∀cl C s2 H2 fp,Rr (gP X N scope cl C s2 H2 fp) ifs v7) (he:∀cl C s2 H2 fp,PE (gP X N scope cl C s2 H2 fp) elt te)
  (hsw:swapsWith (.ListComp elt [⟨tg,iter,ifs,0⟩] scope cpos) (j? (.Name x pos')) pos.line X.env=pure true:=by rfl)
  (hs:∀x,foldedSetIterable iter X.env x=pure x:=by intro _;rfl) (hf:X.fn x=true\/X.env.scope.names.lookup x=j? .local:=by first|exact .inl rfl|exact .inr rfl|assumption):
  PS X (.Assign [.Name x pos'] (.ListComp elt [⟨tg,iter,ifs,0⟩] scope cpos) pos) (Pn (Dd wi sl g v7 te) (gG i)):=by
 refine⟨?_⟩
 intro pins s σ H D0 I h;rw[exec_Assign_Name_used _ _ _ _ hsw];refine B? (wpAny_standAt (B? ?_))
 show L? _ X.A (do let _ <- comprehension (.ListComp elt [⟨tg,iter,ifs,0⟩] scope cpos) scope X.env _ (newList []) false (eval iter X.env) (j? (assign (.Name x pos') X.env))) _ _ s
 refine B? (D! (FY (QQ:=λ_ s'=>∃σ' H',Inv X pins σ' H' s'/\D0.nx σ' H') (use:=j? (assign (.Name x pos') X.env)) S oY hi hg hif he hs I h λD C H3 s4 fl I4 n1 n2 n3 n4 n5 n6 hm q=>?_)
  (λ_ s' hq=>J? (J? hq)) λ_ _ e=>e)
 obtain⟨m,hn⟩:=hm;show L? _ X.A (assign (.Name x pos') X.env (.ref D)) _ _ _
 refine wpAny_assign_Name (wm I4 hN hi' hx (show RelV (.ref D) (.ref D) from rfl) (λs5 I5 ⟨a,OV,ha⟩=>?_) hf)
 have ZJ:C≠a:=by
  rcases ha with rfl|ha
  ·exact n2
  ·exact λz=>n5 _ _ ha z.symm
 refine⟨m,hn.sameBut OV ZJ,λh' Sy=>⟨_,H3,I5.turned (t':=s5.toks) (λb o hb e=>(Sy.2 b hb).trans e) n1 n2 (.inr n4) n5 n6,q⟩⟩
end
section
variable {X:Cx}
def u_ (i j:Int):Prop:=IntMulOk i j
def yi (i j:Int):Prop:=j≠0/\j.natAbs<2 ^ 9000
theorem yi.py(h:yi i j):Builtin.divisionGoesByPylong i j=false:=by
 refine PyProof.noPylong_of_log2 ?_
 have h0:j.natAbs≠0:=λz=>h.1 (Int.natAbs_eq_zero.mp z)
 exact(Nat.log2_lt h0).mpr h.2
theorem dZ:q8 X (binaryOp .Mult) (rI u_ λi j=>.int (i*j)):=Xs λ_ _ _ _ _ _ _ hc q=>mul_int q hc
theorem kD:q8 X (binaryOp .FloorDiv) (rI yi λi j=>.int (i.fdiv j)):=Xs λ_ _ _ _ _ _ _ hc q=>floordiv_int hc.1 q (.inl hc.py)
theorem z6(ha:a.natAbs<2 ^ m)(hb:b.natAbs<2 ^ n)(h:m+n<=134217728):u_ a b:=
 IntMulOk.of_le (intBits_le_iff.mpr ha) (intBits_le_iff.mpr hb) h
theorem Eb(h1:-(2 ^ 64)<a)(h2:a<2 ^ 64):u_ a b:=.of_left (intBits_le_64 h1 h2)
theorem ue(h1:-(2 ^ 64)<b)(h2:b<2 ^ 64):u_ a b:=.of_right (intBits_le_64 h1 h2)
def isPlain:V->Bool
 | .d8=>true
 | .bl _=>true
 | _=>false
theorem RelV.K9(rx:RelV x v)(ry:RelV y u)(hy:isPlain y=true):plainIs v u=true/\(v == u)=decide (x=y):=by
 cases y with
 | d8=>
  cases ry;cases x <;> first|(cases rx;exact⟨rfl,rfl⟩)|(obtain⟨t,rfl⟩:=rx;exact⟨rfl,rfl⟩)
 | bl b=>
  cases ry;cases x with
  | bl c=>
   cases rx;refine⟨rfl,?_⟩
   cases b <;> cases c <;> rfl
  | d8=>cases rx;exact⟨rfl,rfl⟩
  | ref a=>cases rx;exact⟨rfl,rfl⟩
  | ty n=>cases rx;exact⟨rfl,rfl⟩
  | int _=>obtain⟨t,rfl⟩:=rx;exact⟨rfl,rfl⟩
  | str _=>obtain⟨t,rfl⟩:=rx;exact⟨rfl,rfl⟩
  | byt _=>obtain⟨t,rfl⟩:=rx;exact⟨rfl,rfl⟩
  | flt _=>obtain⟨t,rfl⟩:=rx;exact⟨rfl,rfl⟩
 | _=>exact W3 (show false=true from hy) E?
theorem ME:q8 X (N! .IsNot) (λx y H Q=>isPlain y=true/\Q (.bl (!decide (x=y))) H):=by
 intro pins s σ H x y v u Q I rx ry h;obtain⟨hy,q⟩:=h;obtain⟨p,e⟩:=rx.K9 ry hy;exact wpAny_isNot_plain p (ck I q (W1 not e.symm))
inductive Rt (K:bK)(H:Hp):V->String->Prop where
 | d8:Rt K H .d8 "NoneType"
 | bl (x:Bool):Rt K H (.bl x) "bool"
 | int (i:Int):Rt K H (.int i) "int"
 | str (x:Str):Rt K H (.str x) "str"
 | lst {a:o?} {xs:List V} (e:aU K H a xs):Rt K H (.ref a) "list"
 | tup {a:o?} {xs:List V} (e:iR K H a xs):Rt K H (.ref a) "tuple"
theorem FZ:qM X (.builtin "isinstance") (λxs H Q=>∃x T T' b,xs=[x,.ty T']/\Rt X.K H x T/\PySem.W.kitOne X.K (.type T) (.type T')=j? b/\Q (.bl b) H):=by
 intro pins s σ H xs us Q I rv h;obtain⟨x,T,T',b,rfl,ty,e,q⟩:=h;obtain⟨u,w',rfl,rx,rt⟩:=vals2 rv;obtain rfl:w'=Value.type T':=rt
 have fin:∀tk,EP X pins σ Q (.bool b) { s with toks:=tk }:=λtk=>⟨.bl b,H,I.tok tk,rfl,q⟩
 cases ty with
 | d8=>cases (show u=Value.none from rx);exact PySem.W.kia_one PySem.W.kitx_none I.BZ True.intro e (λz=>nomatch z) fin
 | bl y=>cases (show u=Value.bool y from rx);exact PySem.W.kia_one PySem.W.kitx_bool I.BZ True.intro e (λz=>nomatch z) fin
 | int i=>obtain⟨t,q'⟩:=(show ∃t,u=Value.int i t from rx);cases q';exact PySem.W.kia_one PySem.W.kitx_int I.BZ True.intro e (λz=>nomatch z) fin
 | str y=>obtain⟨t,q'⟩:=(show ∃t,u=Value.str y t from rx);cases q';exact PySem.W.kia_one PySem.W.kitx_str I.BZ True.intro e (λz=>nomatch z) fin
 | @lst a ys ea=>
  cases (show u=K! a from rx)
  obtain⟨its,_,⟨o,n,h1,h2,_⟩,_⟩:=I.list ea;exact PySem.W.kia_one PySem.W.kitx_list I.BZ ⟨o,h1,h2⟩ e (λz=>nomatch z) fin
 | @tup a ys ea=>
  cases (show u=K! a from rx)
  obtain⟨its,_,⟨o,h1,h2,_⟩,_⟩:=I.tuple ea;exact PySem.W.kia_one PySem.W.kitx_tuple I.BZ ⟨o,h1,h2⟩ e (λz=>nomatch z) fin
inductive Den (K:bK)(H:Hp):V->R!->Prop where
 | d8:Den K H .d8 .none
 | bl (b:Bool):Den K H (.bl b) (.bool b)
 | int (i:Int):Den K H (.int i) (.int i)
 | str (x:Str):Den K H (.str x) (.str x)
 | lst {a:o?} {xs:List V} {ds:List R!}:aU K H a xs->xs.length=ds.length->(∀(i:Nat) x d,xs[i]?=j? x->ds[i]?=j? d->Den K H x d)->Den K H (.ref a) (.list ds)
 | tup {a:o?} {xs:List V} {ds:List R!}:iR K H a xs->xs.length=ds.length->(∀(i:Nat) x d,xs[i]?=j? x->ds[i]?=j? d->Den K H x d)->Den K H (.ref a) (.tuple ds)
theorem rj {h:Q?}:∀ {us:List l?} {ds:List R!},us.length=ds.length->(∀(i:Nat) u d,us[i]?=j? u->ds[i]?=j? d->∃as,Reads h u d as)->∃as,ReadsAll h us ds as
 | [],[],_,_=>⟨[],.nil⟩
 | [],_::_,e,_=>by simp at e
 | _::_,[],e,_=>by simp at e
 | u::us,d::ds,e,f=>by
  obtain⟨as,r⟩:=f 0 u d rfl rfl;obtain⟨bs,rs⟩:=rj (us:=us) (ds:=ds) (by simpa using e) λi u d h1 h2=>f (i+1) u d (by simpa using h1) (by simpa using h2)
  exact⟨as++bs,.cons r rs⟩
theorem Vals.back(r:Vals xs us){i:Nat}(h:us[i]?=j? u):∃x,xs[i]?=j? x/\RelV x u:=by
 have hi:i<us.length:=(List.getElem?_eq_some_iff.mp h).1;have hx:i<xs.length:=by rw[r.length];exact hi
 obtain⟨u',h',rel⟩:=r.get (Ya hx);rw[h] at h';cases h';exact⟨_,Ya hx,rel⟩
theorem Den.reads(I:Inv X pins σ H s)(D:Den X.K H v d):∀ {u:l?},RelV v u->∃as,Reads s.heap u d as:=by
 induction D with
 | d8=>intro u r;cases (show u=Value.none from r);exact⟨_,.none⟩
 | bl b=>intro u r;cases (show u=Value.bool b from r);exact⟨_,.bool b⟩
 | int i=>intro u r;obtain⟨t,rfl⟩:=(show ∃t,u=Value.int i t from r);exact⟨_,.int i t⟩
 | str x=>intro u r;obtain⟨t,rfl⟩:=(show ∃t,u=Value.str x t from r);exact⟨_,.str x t⟩
 | @lst a xs ds q hl _ ih=>
  intro u r;cases (show u=K! a from r)
  obtain⟨its,rv,⟨o,n,h1,h2,h3,h4⟩,_⟩:=I.list q;obtain⟨as,ra⟩:=rj (h:=s.heap) (us:=its) (ds:=ds) (by rw[<- rv.length];exact hl) λi u d e1 e2=>by
   obtain⟨x,ex,rel⟩:=rv.back e1;exact ih i x d ex e2 rel
  exact⟨_,.list h1 h2 h4 (by simpa using ra)⟩
 | @tup a xs ds q hl _ ih=>
  intro u r;cases (show u=K! a from r)
  obtain⟨its,rv,⟨o,h1,h2,n,h4⟩,_⟩:=I.tuple q;obtain⟨as,ra⟩:=rj (h:=s.heap) (us:=its) (ds:=ds) (by rw[<- rv.length];exact hl) λi u d e1 e2=>by
   obtain⟨x,ex,rel⟩:=rv.back e1;exact ih i x d ex e2 rel
  exact⟨_,.tuple h1 h2 h4 (by simpa using ra)⟩
theorem ay.tup {K:bK}{H H':Hp}{a:o?}{xs:List V}(e:ay H H')(h:iR K H a xs):iR K H' a xs:=by
 rcases h with (h|⟨o,h⟩)|h
 ·exact .inl (.inl (e _ _ h))
 ·exact .inl (.inr ⟨o,e _ _ h⟩)
 ·exact .inr h
theorem Den.same {K:bK}{H H':Hp}(e:ay H H'){v:V}{d:R!}(D:Den K H v d):Den K H' v d:=by
 induction D with
 | d8=>exact .d8
 | bl b=>exact .bl b
 | int i=>exact .int i
 | str x=>exact .str x
 | lst q hl _ ih=>exact .lst (e.seq q) hl ih
 | tup q hl _ ih=>exact .tup (e.tup q) hl ih
inductive Ie (K:bK)(neg:Bool)(x:V)(y:V)(H:Hp)(Q:VK):Prop where
 | mk (d e:_) (c5:Den K H x d) (c6:Den K H y e) (dS:SeqAt.shaped d=true) (fT:SeqAt.shaped e=true) (jv:Q (.bl (if neg then !G! d e else G! d e)) H)
theorem Sz (hu:X.A.units+64<cLine):q8 X (N! .Eq) (Ie X.K false):=by
 intro pins s σ H x y v u Q I rx ry h;obtain⟨d,e,Dx,Dy,sd,se,q⟩:=h;obtain⟨as,ra⟩:=Dx.reads I rx;obtain⟨bs,rb⟩:=Dy.reads I ry;exact SeqAt.compareEq_shaped ra rb sd se hu (ck I q rfl)
theorem SA (hu:X.A.units+64<cLine):q8 X (N! .NotEq) (Ie X.K true):=by
 intro pins s σ H x y v u Q I rx ry h;obtain⟨d,e,Dx,Dy,sd,se,q⟩:=h;obtain⟨as,ra⟩:=Dx.reads I rx;obtain⟨bs,rb⟩:=Dy.reads I ry;exact SeqAt.compareNe_shaped ra rb sd se hu (ck I q rfl)
def F0:V->Option R!
 | .d8=>j? .none
 | .bl b=>j? (.bool b)
 | .int i=>j? (.int i)
 | .str x=>j? (.str x)
 | _=>q?
theorem MF {K:bK}{H:Hp}{v:V}{d:R!}(h:F0 v=j? d):Den K H v d:=by
 cases v <;> first|(cases h;constructor)|cases h
def uf:List V->Option (List R!)
 | []=>j? []
 | v::r=>match F0 v,uf r with
  | some d,j? ds=>j? (d::ds)
  | _,_=>q?
theorem wD:∀ {xs:List V} {ds:List R!},uf xs=j? ds->xs.length=ds.length/\∀(i:Nat) x d,xs[i]?=j? x->ds[i]?=j? d->F0 x=j? d
 | [],ds,h=>by cases h;exact⟨rfl,λi x d h=>by simp at h⟩
 | v::r,ds,h=>by
  unfold uf at h;cases e1:F0 v with
  | none=>rw[e1] at h;cases h
  | some d0=>
   cases e2:uf r with
   | none=>rw[e1,e2] at h;cases h
   | some dr=>
    rw[e1,e2] at h;cases h;obtain⟨hl,hx⟩:=wD e2;refine⟨by simp[hl],λi x d h1 h2=>?_⟩
    cases i with
    | zero=>simp at h1 h2;rw[<- h1,<- h2];exact e1
    | succ i=>exact hx i x d (by simpa using h1) (by simpa using h2)
theorem JQ {K:bK}{H:Hp}{a:o?}{xs:List V}{ds:List R!}(q:aU K H a xs)(h:uf xs=j? ds):Den K H (.ref a) (.list ds):=
 .lst q (wD h).1 λi x d h1 h2=>MF ((wD h).2 i x d h1 h2)
theorem rB:∀(ns:List Int),uf (ns.map V.int)=j? (ns.map PyData.int)
 | []=>rfl
 | n::ns=>by
  show(match F0 (.int n),uf (ns.map V.int) with|some d,j? ds=>j? (d::ds)|_,_=>q?)=_
  rw[rB ns];rfl
theorem yj:∀ {bs:List Bool} {us:List l?},Vals (bs.map V.bl) us->LSm.BoolsAre us bs
 | [],_,.nil=>.nil
 | b::bs,_,.cons r t=>by
  cases (show _=Value.bool b from r)
  exact .cons b (yj t)
theorem MG (hc:X.calm=true):qM X (.builtin "all") (λxs H Q=>∃p,∃bs:List Bool,xs=[.ref p]/\aU X.K H p (bs.map V.bl)/\Q (.bl (bs.all id)) H):=by
 intro pins s σ H xs us Q I rv h;obtain⟨p,bs,rfl,hq,q⟩:=h;obtain⟨u,rfl,ru⟩:=vals1 rv;cases (show u=K! p from ru)
 obtain⟨its,r,hp,_⟩:=I.list hq;have hb:=yj r;have hl:=hp.isList;have hlt:p<s.heap.objs.size:=by obtain⟨_,e,_⟩:=hl;exact Yl e
 refine call_all_walk (wpAny_pyIter_list hl ?_)
 refine⟨s.heap.objs.size,[s.heap.objs.size,p],[s.heap.objs.size],its.toArray.size,_,_,λi=>(bs[i]?).getD true,rfl,Walks.list (A:=X.A.in1) (I.ok.hd hc) _ p (Ym hlt) its.toArray,
  ⟨⟨_,Yw _ rfl,rfl,rfl⟩,hl.push _⟩,λi v s' Q' E' hP hQ=>?_,λh' tk hk=>?_⟩
 ·obtain⟨b,e,rfl⟩:=hb.get i v (by simpa using hP)
  simp only[e,Option.getD_some] at hQ
  exact wpAny_truthy_bool hQ
 ·have e:((Yi its.toArray.size).all λi=>(bs[i]?).getD true)=bs.all id:=by
   rw[Yu,hb.length];exact LSm.range_all bs
  rw[e];exact⟨.bl _,H,I.kept (h':=h') (t':=tk) (LSm.kept_iter hk),rfl,q⟩
end
structure Src (K:bK)(mg:Str->Option l?)(x:Str)(st:R?)(ps:List Str):Prop where
 ex:∃f fd,Fd K x x st f fd/\Binds K fd ps []/\mg x=j? (.ref f)
structure b8 (P:F?)(w:H?)(K:bK)(mg:Str->Option l?)(base:Q?)(k:Nat)(x:Str)(ps:List Str)(sp:Sp):Prop where
 ex:∃f fd,iP P w K mg base z4 k f fd ps sp/\Binds K fd ps []/\PySem.W.keepIn K (.ref f)=true/\mg x=j? (.ref f)
section
variable {P:F?} {w:H?} {K:bK} {mg:Str->Option l?} {base:Q?}
theorem Src.ok {x:Str}{st:R?}{N ps:List Str}{k:Nat}{sp:Sp}(F:Src K mg x st ps)(S:aB N ps (aj st))(len:∀vs H Q E,sp vs H Q E->vs.length=ps.length)
  (hbody:∀(f:o?) (cdv:l?) (A:C!) (outer:List Env) (s:u?) (H:Hp) (vs:List V) (Q:VK) (E:XK),eH k (A.deeper (envOfC x (aj st) s.heap.objs.size f cdv))->sp vs H Q E->
   ∃t,FH (B8 z4 P w K mg base N x (aj st) f cdv A outer s H E).Pj (bY st) t/\t { nx:=λ_ H'=>Q .d8 H',rt:=Q } (start N vs) H):b8 P w K mg base (k+1) x ps sp:=by
 obtain⟨f,fd,F,B,M⟩:=F.ex;exact⟨f,fd,F.ok S len (hbody f),B,F.kp,M⟩
theorem b8.imp {k:Nat}{x:Str}{ps:List Str}{sp Mt:Sp}(D:b8 P w K mg base k x ps sp)(h:∀vs H Q E,Mt vs H Q E->sp vs H Q E):b8 P w K mg base k x ps Mt:=by
 obtain⟨f,fd,F,B,kp,M⟩:=D.ex;exact⟨f,fd,F.imp h,B,kp,M⟩
theorem SD {x:Str}{st:R?}{ps:List Str}{f:o?}{oc:l?}{od an:Option o?}{osl:Array (Option l?)}{kV doc pm cdv ct:l?}{h:Q?}(X:K.In h)(G:h.Ns G? mg)
  (a:O? K G? x=j? (j? (.ref f))) (l:K.lookup f=j? ⟨oc,od,.func (Z? x x (cV st) (bY st) (aj st) .none kV doc pm an cdv ct),osl⟩) (c:U! K cdv x=true) (k:E! K (.ref f)=true)
  (hb:∀(kV doc pm:l?) (an:Option o?) (cdv ct:l?) (us:List l?),us.length=ps.length->bindArgs (Z? x x (cV st) (bY st) (aj st) .none kV doc pm an cdv ct) ⟨us,[]⟩=pure (ps.zip us)):Src K mg x st ps:=
 ⟨f,_,p9 l c k,(p9 l c k).binds hb,PySem.W.mg_of X G a⟩
end
theorem aG(D:b8 X.prog X.w X.K X.mg X.base k x ps sp)(hr:eH n X.A)(ha:PA X (e::es) t)(hle:k<=n:=by first|decide|omega)(hg:Gl X x:=by rfl)
  (hdb:(x ==("__debug__":Str))=false:=by decide) (he:I? (e::es) X.env=(false,eval e X.env)::I? es X.env:=by rfl) (hpl:(backTo pos (I? es X.env)).any (·.1)=false:=by rfl):
  PE X (.Call (.Name x p) (e::es) [] pos) (Rl sp [] E0 t):=by
 obtain⟨f,fd,F,B,kp,M⟩:=D.ex;exact PF F (hr.mono hle) hg M kp B .nil JO ha hdb he hpl
theorem av(h:H p=q?)(o):ay H (upd H p o):=λb u q=>by rw[aH (aL q h)];exact q
def MH (JR:Scope)(ON N:List Str)(sl:List (Option Nat))(scope:Scope):Bool:=
 decide (scope.kind=.function) && scope.names.all (λy=>decide (y.2≠.cell)) && scope.names.all (λy=>decide (y.2=.local->scope.names.lookup y.1=j? .local)) &&
 scope.names.all (λy=>decide (y.2=.free->JR.names.lookup y.1=j? .cell\/JR.names.lookup y.1=j? .free)) && decide (sl.length=N.length) &&
 (Yi N.length).all λj=>match N[j]?,sl[j]? with
  | some x,j? (j? i)=>decide (ON[i]?=j? x/\scope.names.lookup x=j? .free)
  | _,_=>true
theorem aK(JR)(ON)(h1:X.env.scope=JR)(h2:X.N=ON)(hb:MH JR ON N sl scope=true):bE X N sl scope:=by
 unfold MH at hb;simp only[V?,decide_eq_true_eq,Zj] at hb
 obtain⟨⟨⟨⟨⟨b1,b2⟩,b3⟩,b4⟩,b5⟩,b6⟩:=hb;refine⟨b1,b2,b3,λy hy hf=>?_,b5,λj i x e1 e2=>?_⟩
 ·have:=b4 y hy hf
  show X.env.scope.names.lookup y.1=_\/X.env.scope.names.lookup y.1=_
  rw[h1];exact this
 ·have hj:j<N.length:=(List.getElem?_eq_some_iff.mp e1).1
  have:=b6 j (List.mem_range.mpr hj)
  rw[e1,e2] at this;have q:=Wz this;rw[h2];exact q
theorem bR:J! "len"=j? (.builtin "len"):=by decide +kernel
theorem MI:J! "abs"=j? (.builtin "abs"):=by decide +kernel
theorem bW:J! "isinstance"=j? (.builtin "isinstance"):=by decide +kernel
theorem Ig:J! "all"=j? (.builtin "all"):=by decide +kernel
theorem MJ:J! "min"=j? (.builtin "min"):=by decide +kernel
theorem SE:J! "max"=j? (.builtin "max"):=by decide +kernel
theorem K_:J! "sorted"=j? (.builtin "sorted"):=by decide +kernel
theorem Ec:J! "int"=j? (.type "int"):=by decide +kernel
theorem JS:J! "bool"=j? (.type "bool"):=by decide +kernel
theorem qa:J! "list"=j? (.type "list"):=by decide +kernel
theorem F1:J! "tuple"=j? (.type "tuple"):=by decide +kernel
inductive ZK (K:bK)(xs:List V)(H:Hp)(Q:VK):Prop where
 | mk (x T T' b:_) (c5:xs=[x,.ty T']) (c6:Rt K H x T) (dS:PySem.W.kitOne K (.type T) (.type T')=j? b) (fT:Q (.bl b) H)
inductive Vq (K:bK)(xs:List V)(H:Hp)(Q:VK):Prop where
 | mk (p:_) (bs:List Bool) (c5:xs=[.ref p]) (c6:aU K H p (bs.map V.bl)) (dS:Q (.bl (bs.all id)) H)
inductive Ru (K:bK)(xs:List V)(H:Hp)(Q:VK):Prop where
 | mk (p ys:_) (c5:xs=[.ref p]) (c6:(aU K H p ys\/iR K H p ys)) (dS:Q (.int ys.length) H)
section
variable {X:Cx} {K:bK}
theorem cC (h:X.K=K):qM X (.builtin "isinstance") (ZK K):=by subst h;exact λpins s σ H xs us Q I rv ⟨a,b,c,d,e,f,g,i⟩=>FZ pins s σ H xs us Q I rv ⟨a,b,c,d,e,f,g,i⟩
theorem wF (h:X.K=K)(hc:X.calm=true):qM X (.builtin "all") (Vq K):=by subst h;exact λpins s σ H xs us Q I rv ⟨a,b,c,d,e⟩=>MG hc pins s σ H xs us Q I rv ⟨a,b,c,d,e⟩
theorem aN (h:X.K=K):qM X (.builtin "len") (Ru K):=by subst h;exact λpins s σ H xs us Q I rv ⟨a,b,c,d,e⟩=>D_ pins s σ H xs us Q I rv ⟨a,b,c,d,e⟩
theorem aP (h:X.K=K):Vk X (Vl K):=by subst h;exact PU
theorem eK (h:X.K=K):Vk X (Mw K):=by subst h;exact Sn
theorem kE (h:X.K=K):YY X (Sq K):=by subst h;exact PV
theorem SG (h:X.K=K):q8 X (N! .In) (rIn K false):=by subst h;exact K5
theorem gZ (h:X.K=K)(hu:X.A.units+64<cLine):q8 X (N! .Eq) (Ie K false):=by subst h;exact Sz hu
theorem qb (h:X.K=K)(hu:X.A.units+64<cLine):q8 X (N! .NotEq) (Ie K true):=by subst h;exact SA hu
theorem bZ {tg l:Expr}{tl:TE}(h:X.K=K)(hl:PE X l tl):PI X tg l (Ri K tl):=by subst h;exact Pq hl
theorem cU {es:List Expr}{k:Nat}{t:U8}{n:Nat}{pos:Pos}(hK:X.K=K)(hc:X.calm=true)(h:U9 X es t)
  (hn:(assignEach es X.env).length=n:=by rfl) (hst:(assignEach es X.env).findIdx? (·.1)=q?:=by rfl):PG X (.Tuple es k pos) (Pk K n t):=by subst hK;exact R7 hc h hn hst
end
def Bd (m:Nat)(x:Int):Prop:=x.natAbs<2 ^ m
theorem Bd.mono(h:Bd m x)(hmn:m<=n):Bd n x:=Yj h (Z6 (by decide) hmn)
theorem Bd.ok(hx:Bd m x)(hy:Bd n y)(h:m+n<=134217728:=by decide):u_ x y:=z6 hx hy h
theorem Bd.dv(h:Bd m j)(h0:j≠0)(hm:m<=9000:=by decide):yi i j:=⟨h0,h.mono hm⟩
theorem Bd.small(h1:-(2 ^ 64)<x)(h2:x<2 ^ 64):Bd 64 x:=by unfold Bd;omega
theorem F3(h0:0<=i)(h1:i.toNat<xs.length):HW xs i=j? xs[i.toNat]:=by
 have e:i=((i.toNat:Nat):Int):=by omega
 have q:HW xs ((i.toNat:Nat):Int)=j? xs[i.toNat]:=bF (Ya h1);rw[<- e] at q;exact q
theorem JT(h0:0<=i)(h1:i<xs.length):∃v,HW xs i=j? v/\v∈xs:=by
 have hi:i.toNat<xs.length:=by omega
 exact⟨xs[i.toNat],F3 h0 hi,Za hi⟩
theorem qc (x:Int)(hy:0<y):0<=x.fmod y/\x.fmod y<y:=⟨Int.fmod_nonneg_of_pos x hy,Int.fmod_lt_of_pos x hy⟩
theorem aZ {α:Type}{xs:List α}(h:decide (xs.length<=1000)=true):xs.length<=K?:=Ys (Wz h) (by decide)
theorem pick {xs:List V}{i:Int}{P:Int->Prop}(h0:0<=i)(h1:i<xs.length)(hP:∀v∈xs,∃n,v=.int n/\P n):∃n,HW xs i=j? (.int n)/\P n:=by
 obtain⟨v,e,hm⟩:=JT h0 h1;obtain⟨n,rfl,p⟩:=hP v hm;exact⟨n,e,p⟩
theorem oZ {c A B:Prop}[Decidable c](h:¬ c)(hB:B):if decide c=true then A else B:=by
 rw[W0 h];exact cX hB
theorem ug {c A B:Prop}[Decidable c](h:c)(hA:A):if decide c=true then A else B:=by
 rw[Wy h];exact fE hA
def CW (n:Nat)(D:o?)(Pv:Nat->List V->Hp->Prop):Nat->Nat->Hp->Prop:=λi m H2=>m=n-i/\i<=n/\∃ys,H2 D=j? (.lst ys)/\ys.length<=i/\Pv i ys H2
theorem CW.emit(hm:m=n-i)(hi:i<n)(hn:n<=K?)(hy:H5 D=j? (.lst ys))(hl:ys.length<=i)
  (p:Pv (i+1) (ys++[y]) (upd H5 D (.lst (ys++[y])))):∃ys,H5 D=j? (.lst ys)/\ys.length<K?/\∃m',m'<m/\CW n D Pv (i+1) m' (upd H5 D (.lst (ys++[y]))):=
 ⟨ys,hy,by omega,n-(i+1),by omega,rfl,hi,ys++[y],aq,by simp;omega,p⟩
theorem CW.skip(hm:m=n-i)(hi:i<n)(hy:H4 D=j? (.lst ys))(hl:ys.length<=i)(p:Pv (i+1) ys H4):
  ∃m',m'<m/\CW n D Pv (i+1) m' H4:=⟨n-(i+1),by omega,rfl,hi,ys,hy,by omega,p⟩
theorem dH {K:bK}{a D:o?}{xs:List V}{st:St}{g:TG}{v7:TT}{te:TE}{H1:Hp}{Q:VK}(Pv:Nat->List V->Hp->Prop)(h0:Pv 0 [] (upd H1 D (.lst [])))
  (hl:∀i ys H2,H2 D=j? (.lst ys)->Pv i ys H2->aU K H2 a xs)
  (hs:∀i m x ys H2,m=xs.length-i->i<xs.length->xs[i]?=j? x->H2 D=j? (.lst ys)->ys.length<=i->Pv i ys H2->g x st H2 λσ3 H3=>v7 σ3 H3 λb H4=>
   if b=true then te σ3 H4 λy H5=>∃ys,H5 D=j? (.lst ys)/\ys.length<K?/\∃m',m'<m/\CW xs.length D Pv (i+1) m' (upd H5 D (.lst (ys++[y]))) else ∃m',m'<m/\CW xs.length D Pv (i+1) m' H4)
  (hd:∀ys H2,H2 D=j? (.lst ys)->Pv xs.length ys H2->Q (.ref D) H2):
  tS (Ut K a) D st g v7 te Q H1:=by
 refine⟨CW xs.length D Pv,⟨xs.length,by simp,Y2 _,[],aq,Yd _,h0⟩,?_⟩
 rintro i m H2 ⟨hm,hi,ys,hy,hlen,p⟩;have q:=hl i ys H2 hy p;by_cases hlt:i<xs.length
 ·refine .inr ⟨⟨xs,xs[i],q,by simp[hlt]⟩,λx H' y=>?_⟩
  obtain⟨e,y⟩:=y;subst e;exact hs i m x ys _ hm hlt (y xs q) hy hlen p
 ·have e:i=xs.length:=by omega
  subst e;exact .inl ⟨⟨xs,q,Yd _⟩,hd ys H2 hy p⟩
theorem dN {lo:Int}{st:St}(Pv:Nat->List V->Hp->Prop)(h0:Pv 0 [] (upd H1 D (.lst [])))
  (hs:∀i m ys H2,m=n-i->i<n->H2 D=j? (.lst ys)->ys.length<=i->Pv i ys H2->g (.int (lo+i)) st H2 λσ3 H3=>v7 σ3 H3 λb H4=>
   if b=true then te σ3 H4 λy H5=>∃ys,H5 D=j? (.lst ys)/\ys.length<K?/\∃m',m'<m/\CW n D Pv (i+1) m' (upd H5 D (.lst (ys++[y]))) else ∃m',m'<m/\CW n D Pv (i+1) m' H4)
  (hd:∀ys H2,H2 D=j? (.lst ys)->Pv n ys H2->Q (.ref D) H2):
  tS (OT lo n) D st g v7 te Q H1:=by
 refine⟨CW n D Pv,⟨n,by simp,Y2 _,[],aq,Yd _,h0⟩,?_⟩
 rintro i m H2 ⟨hm,hi,ys,hy,hlen,p⟩;by_cases hlt:i<n
 ·refine .inr ⟨hlt,λx H' y=>?_⟩
  obtain⟨e,y⟩:=y;subst e y;exact hs i m ys _ hm hlt hy hlen p
 ·have e:i=n:=by omega
  subst e;exact .inl ⟨Yd _,hd ys H2 hy p⟩
end L2
namespace L2
theorem ay.aJ(g:ay H H')(hD:H D=q?)(o):ay H (upd H' D o):=λb u q=>by rw[aH (aL q hD)];exact g b u q
theorem P1 {c A B:Prop}[Decidable c](h:¬ c)(hA:A):if (!decide c)=true then A else B:=by
 rw[W0 h];exact fE hA
end L2
namespace L2
open PySem PySem.Spec PyProof.Rows
def Ed (o:Obj)(ns:List Int):Bool:=decide (o.cls=.type "tuple") && match o.data with
 | .seq its _=>decide (its.size<=1000) && decide (its.toList.map Ph=ns.map λn=>j? (V.int n))
 | _=>false
theorem yk:∀ {us:List l?} {ns:List Int},us.map Ph=ns.map (λn=>j? (V.int n))->Vals (ns.map V.int) us
 | [],[],_=>.nil
 | [],_::_,h=>by simp at h
 | _::_,[],h=>by simp at h
 | u::us,n::ns,h=>by
  simp only[Z4,List.cons.injEq] at h
  refine .cons ?_ (yk h.2)
  have e:=h.1;cases u <;> simp[Ph] at e
  subst e;exact⟨_,rfl⟩
theorem Ih {K:bK}{H:Hp}{a:o?}{o:Obj}{ns:List Int}(h:K.lookup a=j? o)(t:Ed o ns=true):iR K H a (ns.map V.int):=by
 unfold Ed at t;rw[V?] at t;obtain⟨t1,t2⟩:=t;have hc:=Wz t1;cases hd:o.data with
 | seq its n=>
  rw[hd] at t2;rw[V?] at t2;have h1:=Wz t2.1;have h2:=Wz t2.2;exact .inr ⟨o,its,n,h,hc,hd,Ys h1 (by decide),yk h2⟩
 | _=>rw[hd] at t2;exact W3 t2 E?
inductive Fl:Nat->R!->Prop where
 | d8 {n:Nat}:Fl n .none
 | int {n:Nat} (i:Int):Fl n (.int i)
 | lst {n:Nat} {ds:List R!}:(∀d∈ds,Fl n d)->Fl (n+1) (.list ds)
 | tup {n:Nat} {ds:List R!}:(∀d∈ds,Fl n d)->Fl (n+1) (.tuple ds)
theorem qd:∀ {ds:List R!},(∀d∈ds,PyData.canLay0 d=true)->PyData.canLayAll0 ds=true
 | [],_=>by simp[PyData.canLayAll0]
 | d::ds,h=>by
  simp only[PyData.canLayAll0,V?]
  exact⟨h d Yg,qd λe he=>h e (Ye _ he)⟩
theorem rC {n:Nat}:∀ {ds:List R!},(∀d∈ds,PyData.depth d<=n)->PyData.depthAll ds<=n
 | [],_=>by simp[PyData.depthAll]
 | d::ds,h=>by
  simp only[PyData.depthAll]
  exact Nat.max_le.mpr ⟨h d Yg,rC λe he=>h e (Ye _ he)⟩
theorem Fl.both(h:Fl n d):PyData.canLay0 d=true/\PyData.depth d<=n:=by
 induction h with
 | d8=>exact⟨by simp[PyData.canLay0],by simp[PyData.depth]⟩
 | int i=>exact⟨by simp[PyData.canLay0],by simp[PyData.depth]⟩
 | lst _ ih=>exact⟨by simp only[PyData.canLay0];exact qd λd hd=>(ih d hd).1,by simp only[PyData.depth];exact Nat.succ_le_succ (rC λd hd=>(ih d hd).2)⟩
 | tup _ ih=>exact⟨by simp only[PyData.canLay0];exact qd λd hd=>(ih d hd).1,by simp only[PyData.depth];exact Nat.succ_le_succ (rC λd hd=>(ih d hd).2)⟩
theorem Fl.shaped(h:Fl n d)(hn:n<=64):SeqAt.shaped d=true:=by
 unfold SeqAt.shaped;rw[V?];exact⟨h.both.1,Wy (Ys h.both.2 hn)⟩
theorem Fl.self(h:Fl n d):G! d d=true:=SeqAt.eqv_refl d h.both.1
mutual
theorem MK:∀ {n m:Nat} {d e:R!},Fl n d->Fl m e->G! d e=true->d=e
 | _,_,_,_,.d8,.d8,_=>rfl
 | _,_,_,_,.d8,.int _,h=>by simp[G!] at h
 | _,_,_,_,.d8,.lst _,h=>by simp[G!] at h
 | _,_,_,_,.d8,.tup _,h=>by simp[G!] at h
 | _,_,_,_,.int _,.d8,h=>by simp[G!] at h
 | _,_,_,_,.int i,.int j,h=>by
  simp only[G!,beq_iff_eq] at h
  rw[h]
 | _,_,_,_,.int _,.lst _,h=>by simp[G!] at h
 | _,_,_,_,.int _,.tup _,h=>by simp[G!] at h
 | _,_,_,_,.lst _,.d8,h=>by simp[G!] at h
 | _,_,_,_,.lst _,.int _,h=>by simp[G!] at h
 | _,_,.list ds,.list es,.lst a,.lst b,h=>by
  simp only[G!] at h
  rw[eqvAll_eq a b h]
 | _,_,_,_,.lst _,.tup _,h=>by simp[G!] at h
 | _,_,_,_,.tup _,.d8,h=>by simp[G!] at h
 | _,_,_,_,.tup _,.int _,h=>by simp[G!] at h
 | _,_,_,_,.tup _,.lst _,h=>by simp[G!] at h
 | _,_,.tuple ds,.tuple es,.tup a,.tup b,h=>by
  simp only[G!] at h
  rw[eqvAll_eq a b h]
theorem eqvAll_eq:∀ {n m:Nat} {ds es:List R!},(∀d∈ds,Fl n d)->(∀d∈es,Fl m d)->PyData.eqvAll ds es=true->ds=es
 | _,_,[],[],_,_,_=>rfl
 | _,_,[],_::_,_,_,h=>by simp[PyData.eqvAll] at h
 | _,_,_::_,[],_,_,h=>by simp[PyData.eqvAll] at h
 | _,_,d::ds,e::es,a,b,h=>by
  simp only[PyData.eqvAll,V?] at h
  rw[MK (a d Yg) (b e Yg) h.1,eqvAll_eq (λx hx=>a x (Ye _ hx)) (λx hx=>b x (Ye _ hx)) h.2]
end
noncomputable instance:DecidableEq R!:=λa b=>Classical.propDecidable _
theorem zD(a:Fl n d)(b:Fl m e):G! d e=decide (d=e):=by
 cases h:G! d e with
 | true=>exact(Wy (MK a b h)).symm
 | false=>
  refine(W0 λz=>?_).symm
  subst z;rw[a.self] at h;cases h
abbrev dI (ns:List Int):R!:=.list (ns.map .int)
theorem zE (ns):Fl 1 (dI ns):=.lst λd hd=>by
 obtain⟨i,_,rfl⟩:=List.mem_map.mp hd;exact .int i
theorem SH(h:dI a=dI b):a=b:=by
 have h':a.map PyData.int=b.map PyData.int:=PyData.list.inj h;induction a generalizing b with
 | nil=>
  cases b with
  | nil=>rfl
  | cons _ _=>simp at h'
 | cons x a ih=>
  cases b with
  | nil=>simp at h'
  | cons y b=>
   simp only[Z4,List.cons.injEq,PyData.int.injEq] at h'
   rw[h'.1,ih (W1 PyData.list h'.2) h'.2]
theorem ML (a b):G! (dI a) (dI b)=decide (a=b):=by
 rw[zD (zE a) (zE b)];by_cases h:a=b
 ·rw[Wy h,Wy (W1 dI h)]
 ·rw[W0 h,W0 λz=>h (SH z)]
theorem eqL {K:bK}{H:Hp}{a b:o?}{xs ys:List Int}{Q:VK}(ha:aU K H a (xs.map V.int))(hb:aU K H b (ys.map V.int))(q:Q (.bl (decide (xs=ys))) H):Ie K false (.ref a) (.ref b) H Q:=
 ⟨dI xs,dI ys,JQ ha (rB _),JQ hb (rB _),(zE _).shaped (by decide),(zE _).shaped (by decide),by
  show Q (.bl (G! (dI xs) (dI ys))) H
  rw[ML];exact q⟩
section
variable {X:Cx} {pins:List (o?×Obj)} {σ:St} {H:Hp} {s:u?} {h':Q?}
theorem Inv.JU{ch:List o?}(I:Inv X pins σ H s)(k:∀b u,b ∉ ch->s.heap.get? b=j? u->h'.get? b=j? u)(hf:∀b∈ch,oS X pins H b):Inv X pins σ H { s with heap:=h',toks:=t' }:=by
 have Mh:∀b u,H b=j? u->b ∉ ch:=λb u e z=>by rw[(hf b z).1] at e;cases e
 refine I.step (g':=s.gens) (d':=s.drawn) (ch:=ch) (λb hb=>⟨(hf b hb).2.2.2.1,(hf b hb).2.1,(hf b hb).2.2.2.2.1,(hf b hb).2.2.2.2.2⟩) (λb o _ _ hc e _=>k b o hc e) (λb o _ _ hc e _=>⟨o.slots,k b o hc e⟩) (λ_ _ _ _ n=>n)
  (λb o hc e=>⟨o,k b o hc e⟩) (λ_ _ e=>e) (λ_ _ _ e=>e) (λb ps e=>⟨#[],by rw[e];simp⟩) (λm hm=>?_) (λb u e=>?_) I.bare
 ·obtain⟨o,es,ep,ho,r⟩:=hm
  exact⟨o,es,ep,k _ o (λz=>(hf _ z).2.1 rfl) ho,r⟩
 ·refine(I.hok b u e).stay (λc v hc q=>k c v ?_ q) (λ_ q=>q) λ_ _ q=>q
  rcases hc with z|z
  ·rw[z];exact Mh b u e
  ·exact Mh c _ z
theorem Inv.De{ch:List o?}(I:Inv X pins σ H s)(k:∀b u,b ∉ ch->s.heap.get? b=j? u->h'.get? b=j? u)(hf:∀b∈ch,oS X pins H b)(ha:s.heap.objs.size<=a)(new:lI X.prog X.w (upd H a o) h' a o):
  Inv X pins σ (upd H a o) { s with heap:=h',toks:=t' }:=by
 have hn:H a=q?:=I.hok.fresh ha;have Mh:∀b u,H b=j? u->b ∉ ch:=λb u e z=>by rw[(hf b z).1] at e;cases e
 have nea:∀b u,s.heap.get? b=j? u->b≠a:=λb u e=>Ym (Yj (Yl e) ha)
 refine I.step (g':=s.gens) (d':=s.drawn) (ch:=ch) (λb hb=>⟨(hf b hb).2.2.2.1,(hf b hb).2.1,(hf b hb).2.2.2.2.1,(hf b hb).2.2.2.2.2⟩) (λb o _ _ hc e _=>k b o hc e) (λb o _ _ hc e _=>⟨o.slots,k b o hc e⟩) (λb u _ e n=>by rw[aH (nea b u e)];exact n)
  (λb o hc e=>⟨o,k b o hc e⟩) (λb xs e=>by rw[aH (aL e hn)];exact e) (λb u xs e=>by rw[aH (aL e hn)];exact e) (λb ps e=>⟨#[],by rw[aH (aL e hn),e];simp⟩) (λm hm=>?_) (λb u e=>?_) I.bare
 ·obtain⟨o,es,ep,ho,r⟩:=hm
  exact⟨o,es,ep,k _ o (λz=>(hf _ z).2.1 rfl) ho,r⟩
 ·by_cases hb:b=a
  ·subst hb
   rw[aq] at e;cases e;exact new
  ·rw[aH hb] at e
   refine(I.hok b u e).stay (λc v hc q=>k c v ?_ q) (λc q=>by rw[aH (aL q hn)];exact q) λc xs q=>by rw[aH (aL q hn)];exact q
   rcases hc with z|z
   ·rw[z];exact Mh b u e
   ·exact Mh c _ z
end
def SI (K:bK)(a:o?)(st:Nat):It:=
 ⟨λi H=>∃xs x,aU K H a xs/\xs[i]?=j? x,λi H v H'=>∃r x,v=.ref r/\H r=q?/\(∀xs,aU K H a xs->xs[i]?=j? x)/\H'=upd H r (.tup [.int ((st+i:Nat):Int),x]),λi H=>∃xs,aU K H a xs/\xs.length<=i⟩
theorem Ii {prog:F?}{w:H?}{A:C!}(hh:A.handled=q?)(it l:o?)(hne:l≠it)(items:Array l?)(st:Nat):
  Draws prog w A it [it,l] (st+items.size) (λi v=>items[i-st]?=j? v) (λi h=>st<=i/\h.IsListIter it l (i-st)/\h.IsList l items) where
 live:=λ_ _ x=>let ⟨o,ho,_⟩:=x.2.1;⟨o,ho⟩
 frame:=λ_ _ _ x hk=>⟨x.1,x.2.1.at λo e=>hk it (by simp) o e,x.2.2.at λo e=>hk l (by simp) o e⟩
 item:=λi s Q E hi x hQ=>by
  have hlt:i-st<items.size:=by have:=x.1;omega
  refine wpAny_nextOf_list_item x.2.1 x.2.2 (x:=items[i-st]) (by simp[hlt]) λh' Vr hs'=>?_
  have e:i-st+1=i+1-st:=by have:=x.1;omega
  rw[e] at Vr;exact hQ _ h' s.toks (by simp[hlt]) ⟨Nat.le_succ_of_le x.1,Vr,x.2.2.extBut hs'.extBut hne⟩ hs'
 done:=λs Q E x hE=>wpAny_nextOf_list_end hh x.2.1 x.2.2 (by simp) hE
theorem Df {P:F?}{w:H?}{K:bK}{elts:List Expr}{k:Nat}{pos:Pos}(a e it:o?)(hei:e≠it)(hae:a≠e)(hai:a≠it)(st:Nat):
  Turn P w K (.Tuple elts k pos) (SI K a st) [e,it] e (λi h=>(∃old,IsEnum h e it ((st+i:Nat):Int) old)/\h.IsListIter it a i) where
 mem:=by simp
 obj:=λi h x b hb=>by
  obtain⟨⟨old,he⟩,o,ho,c,d⟩:=x;rcases List.mem_cons.mp hb with rfl|hb
  ·exact⟨_,he,λv z=>by
    have z':Data.fields _=Data.cell v:=z;cases z'⟩
  ·have e':b=it:=by simpa using hb
   subst e';exact⟨o,ho,λv z=>by rw[d] at z;cases z⟩
 keep:=λi h h' x kk=>⟨let ⟨old,he⟩:=x.1;⟨old,kk e (by simp) _ he⟩,x.2.at λo ho=>kk it (by simp) o ho⟩
 item:=by
  intro X hP hw hK hc i pins s σ H E I hf x hg;subst hP hw hK;obtain⟨xs,v,hq,hx⟩:=hg;obtain⟨its,rv,p,hz⟩:=I.list hq;obtain⟨u,hu,ru⟩:=rv.get hx;obtain⟨⟨old,he⟩,hit⟩:=x;have hi:i<its.length:=(List.getElem?_eq_some_iff.mp hu).1;have D:=Ii (prog:=X.prog) (w:=X.w) (A:=X.A.in1) (I.ok.hd hc) it a hai its.toArray st;have hn0:H s.heap.objs.size=q?:=I.fresh;have helt:e<s.heap.objs.size:=Yl he;have hilt:it<s.heap.objs.size:=by obtain⟨_,y,_⟩:=id hit;exact Yl y
  refine wpAny_pyNext_enum_itemD (i:=st+i) D he ⟨Wj _ _,by rw[Zi];exact hit,p.isList⟩ (by simp;omega) hei (by simp[hei,Ne.symm hae]) λy h1 tk hy ho st1 hT hsz hk=>?_
  rw[Zi] at hy;have ey:y=u:=by
   have:its[i]?=j? y:=by simpa using hy
   rw[hu] at this;exact(N? this).symm
  subst ey;refine⟨_,rfl,wpAny_letOwnedTupleGo_enum ho λh2 he2 hs2=>?_⟩
  have hT2:h2.get? s.heap.objs.size=j? { cls:=.type "tuple",data:=.seq #[.int ((st+i:Nat):Int) tk,y] }:=(hs2.2 _ (Nat.ne_of_gt helt)).trans hT;have I2:Inv X pins σ (upd H s.heap.objs.size (.tup [.int ((st+i:Nat):Int),v])) { s with heap:=h2,toks:=tk+1 }:=
   I.De (ch:=[e,it]) (λb u hb q=>(hs2.2 b λz=>hb (by simp[z])).trans (hk b u (λz=>hb (by simp[z])) (λz=>hb (by simp[z])) q)) hf (Yd _)
    ⟨by show 2<=K?;rw[C?];omega,[.int ((st+i:Nat):Int) tk,y],.cons ⟨_,rfl⟩ (.cons ru .nil),_,hT2,rfl,0,rfl⟩
  refine⟨.ref s.heap.objs.size,_,I2,rfl,⟨_,v,rfl,hn0,λys hy=>by rw[I.u7 hy hq];exact hx,rfl⟩,⟨⟨y,?_⟩,?_⟩,λb hb=>?_⟩
  ·have e1:((st+i:Nat):Int)+1=((st+(i+1):Nat):Int):=by omega
   rw[<- e1];exact he2
  ·have hl1:=st1.2.1
   have e2:st+i+1-st=i+1:=by omega
   rw[e2] at hl1;exact hl1.at λo q=>(hs2.2 it hei.symm).trans q
  ·rw[aH ?_]
   ·exact(hf b hb).1
   ·rcases List.mem_cons.mp hb with rfl|hb
    ·exact Ym helt
    ·have:b=it:=by simpa using hb
     subst this;exact Ym hilt
 done:=by
  intro X hP hw hK hc i pins s σ H E I hf x hg;subst hP hw hK;obtain⟨xs,hq,hx⟩:=hg;obtain⟨its,rv,p,hz⟩:=I.list hq;obtain⟨⟨old,he⟩,hit⟩:=x;have hl:=rv.length;have hT:s.TypeIs (.ref e) "enumerate":=⟨_,he,rfl⟩;unfold pyNext;refine B? (wpAny_attempt (wpAny_callSpecial?_slot (name:=L! "__next__") hT PySem.F.slot_enumerate_next (wpAny_call_entry PySem.F.slot_enumerate_next hT PySem.F.entry_enumerate_next ?_ (PySem.F.args_enumerate_next_1 _))))
  show L? _ _ (field (.ref e) 2 >>= _) _ _ _
  refine B? (wpAny_field he rfl (x:=.ref it) rfl ?_)
  refine B? (wpAny_nextOf_list_end (I.ok.hd hc) hit p.isList (by simp;omega) λh' x he' hx'=>?_)
  obtain⟨o,ho,hc'⟩:=hx';refine B? (wpAny_isInstance (T:="StopIteration") (b:=true) ⟨o,ho,hc'⟩ isSubtype_stop ?_)
  exact J? ⟨rfl,I.JU (t':=s.toks) (ch:=[e,it]) (λb u hb q=>he' b u (λz=>hb (by simp[z])) q) hf⟩
 self:=λ_ _ _ _ _ x h=>let ⟨_,he⟩:=x.1;wpAny_pyIter_enum he h
section
variable {X:Cx} {elts:List Expr} {k:Nat} {tpos:Pos}
inductive P4 (K:bK)(R:It->Hp->Prop)(vs:List V)(H1:Hp):Prop where
 | mk (a:_) (c5:vs=[.ref a]) (c6:(∃xs,aU K H1 a xs)) (dS:R (SI K a 0) H1)
def Rv (K:bK)(ta:TA):TI:=λσ H R=>ta σ H λvs H1=>P4 K R vs H1
theorem P5(hg:Gl X "enumerate")(hm:X.mg "enumerate"=q?)(ha:PA X [l] ta)(hs:I? [l] X.env=[(false,eval l X.env)]:=by rfl):
  PI X (.Tuple elts k tpos) (.Call (.Name "enumerate" p) [l] [] pos) (Rv X.K ta):=by
 intro pins s σ H R I h;refine Call_ (nU I hg hm boot_enumerate (P! (fq (ha pos pins s σ H _ I h) λus s1 ⟨vs,H1,I1,r1,q1⟩=>?_) hs rfl))
 obtain⟨a,e,⟨xs,hq⟩,q⟩:=q1;subst e;obtain⟨u,rfl,ru⟩:=vals1 r1;cases (show u=K! a from ru)
 obtain⟨its,rv,pl,hz⟩:=I1.list hq;have hlt:a<s1.heap.objs.size:=by obtain⟨_,y,_⟩:=pl.isList;exact Yl y
 refine call_enumerate_list pl.isList λh' he hit hsz hk=>?_
 refine wpAny_pyIter_enum he ?_
 have I2:Inv X pins σ H1 { s1 with heap:=h' }:=I1.kept (t':=s1.toks) hk
 refine⟨_,[s1.heap.objs.size+1,s1.heap.objs.size],_,_,H1,rfl,I2,Df a (s1.heap.objs.size+1) s1.heap.objs.size (Nat.succ_ne_self _) (Ym (Nat.lt_succ_of_lt hlt)) (Ym hlt) 0,⟨⟨_,he⟩,hit⟩,λb hb=>?_,q⟩
 rcases List.mem_cons.mp hb with rfl|hb
 ·exact I1.yC (Wg _) (I1.hok.fresh (Wg _))
 ·have:b=s1.heap.objs.size:=by simpa using hb
  subst this;exact I1.yC (Yd _) (I1.hok.fresh (Yd _))
theorem kF {K:bK}{l:Expr}{ta:TA}{p pos:Pos}(hK:X.K=K)(hg:Gl X "enumerate")(hm:X.mg "enumerate"=q?)(ha:PA X [l] ta)(hs:I? [l] X.env=[(false,eval l X.env)]:=by rfl):
  PI X (.Tuple elts k tpos) (.Call (.Name "enumerate" p) [l] [] pos) (Rv K ta):=by subst hK;exact P5 hg hm ha hs
end
theorem kG {K:bK}{a:o?}{st:Nat}{xs:List V}{g:TG}{tb:TS}{D:Ends}{σ:St}{H:Hp}(Pv:Nat->St->Hp->Prop)(h0:Pv 0 σ H)(hl:∀i σ H,i<=xs.length->Pv i σ H->aU K H a xs)
  (hs:∀i x σ H r,xs[i]?=j? x->Pv i σ H->H r=q?->g (.ref r) σ (upd H r (.tup [.int ((st+i:Nat):Int),x])) λσ2 H2=>tb { D with nx:=Pv (i+1),ct:=Pv (i+1),bk:=D.nx } σ2 H2) (hd:∀σ H,Pv xs.length σ H->D.nx σ H):
  ∃W:Nat->Nat->St->Hp->Prop,(∃m,W 0 m σ H)/\∀i m σ H,W i m σ H->
   ((SI K a st).stop i H/\D.nx σ H)\/((SI K a st).go i H/\∃N:St->Hp->Prop,(∀σ' H',N σ' H'->∃m',m'<m/\W (i+1) m' σ' H')/\∀x H',(SI K a st).R9 i H x H'->g x σ H' λσ2 H2=>tb { D with nx:=N,ct:=N,bk:=D.nx } σ2 H2):=by
 refine⟨λi m σ H=>m=xs.length-i/\i<=xs.length/\Pv i σ H,⟨xs.length,by simp,Y2 _,h0⟩,?_⟩
 rintro i m σ H ⟨rfl,hi,p⟩;have q:=hl i σ H hi p;by_cases hlt:i<xs.length
 ·refine .inr ⟨⟨xs,xs[i],q,by simp[hlt]⟩,Pv (i+1),λσ' H' p'=>⟨xs.length-(i+1),by omega,rfl,hlt,p'⟩,λv H' y=>?_⟩
  obtain⟨r,x,e1,hr,hx,e2⟩:=y;subst e1 e2;exact hs i x σ _ r (hx xs q) p hr
 ·have e:i=xs.length:=by omega
  subst e;exact .inl ⟨⟨xs,q,Yd _⟩,hd σ H p⟩
theorem Dh {K:bK}{a D:o?}{Uv:Nat}{xs:List V}{st:St}{g:TG}{v7:TT}{te:TE}{H1:Hp}{Q:VK}(Pv:Nat->List V->Hp->Prop)(h0:Pv 0 [] (upd H1 D (.lst [])))
  (hl:∀i ys H2,H2 D=j? (.lst ys)->Pv i ys H2->aU K H2 a xs)
  (hs:∀i m x ys H2 r,m=xs.length-i->i<xs.length->xs[i]?=j? x->H2 D=j? (.lst ys)->ys.length<=i->Pv i ys H2->H2 r=q?->g (.ref r) st (upd H2 r (.tup [.int ((Uv+i:Nat):Int),x])) λσ3 H3=>v7 σ3 H3 λb H4=>
   if b=true then te σ3 H4 λy H5=>∃ys,H5 D=j? (.lst ys)/\ys.length<K?/\∃m',m'<m/\CW xs.length D Pv (i+1) m' (upd H5 D (.lst (ys++[y]))) else ∃m',m'<m/\CW xs.length D Pv (i+1) m' H4)
  (hd:∀ys H2,H2 D=j? (.lst ys)->Pv xs.length ys H2->Q (.ref D) H2):
  tS (SI K a Uv) D st g v7 te Q H1:=by
 refine⟨CW xs.length D Pv,⟨xs.length,by simp,Y2 _,[],aq,Yd _,h0⟩,?_⟩
 rintro i m H2 ⟨hm,hi,ys,hy,hlen,p⟩;have q:=hl i ys H2 hy p;by_cases hlt:i<xs.length
 ·refine .inr ⟨⟨xs,xs[i],q,by simp[hlt]⟩,λv H' y=>?_⟩
  obtain⟨r,x,e1,hr,hx,e2⟩:=y;subst e1 e2;exact hs i m x ys _ r hm hlt (hx xs q) hy hlen p hr
 ·have e:i=xs.length:=by omega
  subst e;exact .inl ⟨⟨xs,q,Yd _⟩,hd ys H2 hy p⟩
section
variable {X:Cx} {tg:Expr}
end
section
variable {prog:F?} {w:H?} {A:C!} {E:l?->u?->Prop} {s:u?}
end
section
variable {X:Cx} {tg:Expr}
end
def WIn (tb:TS)(D:Ends)(Pv:St->Hp->Prop)(μ:St->Hp->Nat)(m:Nat)(σ:St)(H1:Hp):Prop:=
 ∃N:St->Hp->Prop,(∀σ' H',N σ' H'->∃m',m'<m/\(m'=μ σ' H'/\Pv σ' H'))/\tb { D with nx:=N,ct:=N,bk:=D.nx } σ H1
theorem win(h:tb { D with nx:=λσ' H'=>Pv σ' H'/\μ σ' H'<m,ct:=λσ' H'=>Pv σ' H'/\μ σ' H'<m,bk:=D.nx } σ H1):WIn tb D Pv μ m σ H1:=
 ⟨_,λσ' H' ⟨p,l⟩=>⟨_,l,rfl,p⟩,h⟩
theorem iY(Pv:St->Hp->Prop)(μ:St->Hp->Nat)(h0:Pv σ H)
  (hs:∀σ H,Pv σ H->c σ H λb H1=>if b=true then WIn tb D Pv μ (μ σ H) σ H1 else D.nx σ H1):Ml c tb D σ H:=by
 refine⟨λm σ H=>m=μ σ H/\Pv σ H,⟨_,rfl,h0⟩,?_⟩
 rintro m σ H ⟨rfl,p⟩;exact hs σ H p
theorem merge {C:St->Hp->Prop}{G:Prop}(M:St->Hp->Prop)(h1:(∀σ H,M σ H->C σ H)->G)(h2:∀σ H,M σ H->C σ H):G:=h1 h2
theorem rD {ns:List Int}{i:Nat}(h:(ns.map V.int)[i]?=j? x):∃n,ns[i]?=j? n/\x=.int n:=by
 rw[Yh] at h;cases e:ns[i]? with
 | none=>rw[e] at h;cases h
 | some n=>rw[e] at h;exact⟨n,rfl,(N? h).symm⟩
theorem P6 {n:Nat}(h0:0<=k)(h1:k<(n:Int)):Mv n k=j? k.toNat:=by
 unfold Mv;rw[Wx h0];first
  | rw[Wx h1]
  | rw[Wx (by omega)]
end L2
namespace Alg
open Lean.Grind
inductive El where
 | num (n:Int)
 | vec (l:List El)
inductive uh:Nat->El->Prop where
 | num {n:Nat} (i:Int):uh n (.num i)
 | vec {n:Nat} {l:List El}:l.length<=100->(∀e∈l,uh n e)->uh (n+1) (.vec l)
theorem uh.mono(h:uh n e):∀ {m:Nat},n<=m->uh m e:=by
 induction h with
 | num i=>intro m _;exact .num i
 | vec hl _ ih=>
  intro m hm;obtain⟨k,rfl⟩:∃k,m=k+1:=⟨m-1,by omega⟩
  exact .vec hl λe he=>ih e he (by omega)
structure cj:Type 1 where
 α:Type
 ring:CommRing α
 p:Nat
 d:Nat
 pr:p∈PR
 fld:L8 α
 ch:nt α p=0
 fr:∀x:α,x ^ (p ^ d)=x
 enc:α->El
 inj:∀x y,enc x=enc y->x=y
 ht:Nat
 fl:∀x,uh ht (enc x)
instance cj.rg (T:cj):Lean.Grind.CommRing T.α:=T.ring
theorem cj.ok (T:cj):tO T.p=true:=RQ _ T.pr
theorem bM(h:p∈PR):2<=p/\p<50:=by
 revert p;decide
def MM (p:Nat)(x:Nat):Nat->Nat
 | 0=>1 % p
 | n+1=>MM p x n*x % p
theorem Ij:∀p∈PR,∀x,x<p->x≠0->∃y,y<p/\x*y % p=1 % p:=by
 have h:(PR.all λp=>(Yi p).all λx=>x == 0 || (Yi p).any λy=>x*y % p == 1 % p)=true:=by decide +kernel
 intro p hp x hx x0;rw[Zj] at h;have h2:=h p hp;rw[Zj] at h2;have h3:=h2 x (List.mem_range.mpr hx);rw[Bool.or_eq_true] at h3;rcases h3 with z|z
 ·exact W3 (by simpa using z) x0
 ·rw[List.any_eq_true] at z
  obtain⟨y,h4,h5⟩:=z;exact⟨y,List.mem_range.mp h4,by simpa using h5⟩
theorem SJ:∀p∈PR,∀x,x<p->MM p x p=x:=by
 have h:(PR.all λp=>(Yi p).all λx=>MM p x p == x)=true:=by decide +kernel
 intro p hp x hx;rw[Zj] at h;have h2:=h p hp;rw[Zj] at h2;simpa using h2 x (List.mem_range.mpr hx)
@[ext] structure Zp (p:Nat) where
 v:Nat
 lt:v<p
def Xv {p:Nat}(h:0<p)(n:Nat):Zp p:=⟨n % p,Wv _ h⟩
@[reducible] def rE {p:Nat} (h:2<=p):CommRing (Zp p):=YB ⟨0,by omega⟩ ⟨1,by omega⟩ (λa b=>Xv (by omega) (a.v+b.v)) (λa b=>Xv (by omega) (a.v*b.v)) (λa=>Xv (by omega) (p-a.v))
 (λa=>by apply Zp.ext;show(a.v+0) % p=a.v;rw[Wc];exact Y1 a.lt)
 (λa b=>by apply Zp.ext;show(a.v+b.v) % p=(b.v+a.v) % p;rw[Nat.add_comm])
 (λa b c=>by apply Zp.ext;show((a.v+b.v) % p+c.v) % p=(a.v+(b.v+c.v) % p) % p;rw[Nat.mod_add_mod,Nat.add_mod_mod,Nat.add_assoc])
 (λa b c=>by apply Zp.ext;show((a.v*b.v) % p*c.v) % p=(a.v*((b.v*c.v) % p)) % p;rw[Nat.mod_mul_mod,Nat.mul_mod_mod,Nat.mul_assoc])
 (λa=>by apply Zp.ext;show(a.v*1) % p=a.v;rw[Nat.mul_one];exact Y1 a.lt)
 (λa b c=>by apply Zp.ext;show(a.v*((b.v+c.v) % p)) % p=((a.v*b.v) % p+(a.v*c.v) % p) % p;rw[Nat.mul_mod_mod,Nat.mul_add,Nat.mod_add_mod,Nat.add_mod_mod])
 (λa b=>by apply Zp.ext;show(a.v*b.v) % p=(b.v*a.v) % p;rw[Y7])
 (λa=>by
  apply Zp.ext
  show((p-a.v) % p+a.v) % p=0
  rw[Nat.mod_add_mod];have:=a.lt
  have e:p-a.v+a.v=p:=by omega
  rw[e,Nat.mod_self])
section
variable {p:Nat} (h:2<=p)
theorem MN (x:Zp p):∀n:Nat,(letI:=rE h;x ^ n:Zp p).v=MM p x.v n
 | 0=>by
  show 1=1 % p
  exact(Y1 (by omega)).symm
 | n+1=>by
  have e:=MN x n;show((letI:=rE h;x ^ n:Zp p).v*x.v) % p=MM p x.v n*x.v % p
  rw[e]
theorem z7:∀n:Nat,(letI:=rE h;nt (Zp p) n:Zp p).v=n % p
 | 0=>(Nat.zero_mod p).symm
 | n+1=>by
  have e:=z7 n;show((letI:=rE h;nt (Zp p) n:Zp p).v+1) % p=(n+1) % p
  rw[e,Nat.mod_add_mod]
end
def ground (p:Nat)(hp:p∈PR):cj where
 α:=Zp p
 ring:=rE (bM hp).1
 p:=p
 d:=1
 pr:=hp
 fld:=by
  letI:=rE (bM hp).1
  have p2:=(bM hp).1;refine⟨λz=>?_,λx hx=>?_⟩
  ·have e:(1:Nat)=0:=W1 Zp.v z
   omega
  ·obtain⟨y,h1,h2⟩:=Ij p hp x.v x.lt λz=>hx (Zp.ext z)
   refine⟨⟨y,h1⟩,Zp.ext ?_⟩
   show x.v*y % p=1
   rw[h2];exact Y1 (by omega)
 ch:=by
  letI:=rE (bM hp).1
  apply Zp.ext
  rw[z7 (bM hp).1,Nat.mod_self];rfl
 fr:=λx=>by
  letI:=rE (bM hp).1
  apply Zp.ext
  rw[MN (bM hp).1,Wm];exact SJ p hp x.v x.lt
 enc:=λx=>.num x.v
 inj:=λx y e=>by
  apply Zp.ext
  injection e with e
  exact Int.ofNat.inj e
 ht:=0
 fl:=λx=>.num _
structure yl (T:cj)(M:Md T.α):Prop where
 Pa:O_ M
 pw:Cg M.f ((X:aF T.α) ^ ((T.p ^ T.d) ^ M.n)) X
theorem MO {β γ:Type}{f:β->γ}(hf:∀x y,f x=f y->x=y){g h:Nat->β}(e:(Yi n).map (λi=>f (g i))=(Yi n).map (λi=>f (h i)))(hi:i<n):g i=h i:=by
 have e2:=W1 (λl=>l[i]?) e
 simp only[Yh] at e2
 rw[Yy hi] at e2;exact hf _ _ (N? e2)
noncomputable def cj.up (T:cj)(M:Md T.α)(h:yl T M)(hn:M.n<=100):cj where
 α:=Qt M
 ring:=inferInstance
 p:=T.p
 d:=T.d*M.n
 pr:=T.pr
 fld:=Ht T.fld.1 h.Pa
 ch:=DT T.ch
 fr:=RU T.ok T.ch T.fr M h.pw
 enc:=λx=>.vec ((Yi M.n).map λi=>T.enc (x.s.c i))
 inj:=λx y e=>by
  apply Qt.ext
  apply aF.ext
  funext i
  injection e with e
  by_cases hi:i<M.n
  ·exact MO (f:=T.enc) T.inj e hi
  ·rw[x.lt i (by omega),y.lt i (by omega)]
 ht:=T.ht+1
 fl:=λx=>.vec (by rw[Yc,Yv];exact hn) λe he=>by
  obtain⟨i,_,rfl⟩:=List.mem_map.mp he;exact T.fl _
theorem MP (T)(M)(h1:Cg M.f ((X:aF T.α) ^ ((T.p ^ T.d) ^ M.n)) X)(h2:∀r,B4 r->r ∣ M.n->∃u v,aX u/\aX v/\u*M.f+v*((X:aF T.α) ^ ((T.p ^ T.d) ^ (M.n / r))-X)=1):yl T M:=
 ⟨UX T.fld T.ok T.ch T.fr M h1 h2,h1⟩
theorem SK (T)(M)(h:M.n=1):yl T M:=by
 have xm:Cg M.f X (cst (- M.f.c 0)):=by
  refine⟨1,aX.one,?_⟩
  have e:M.f=X+cst (M.f.c 0):=by
   apply aF.ext;funext i
   rw[nk];show M.f.c i=(if i=1 then (1:T.α) else 0)+(if i=0 then M.f.c 0 else 0)
   by_cases a:i=0
   ·rw[Ww (by omega),Wx a,a];grind
   ·by_cases b:i=1
    ·have:=M.mon.top
     rw[h] at this;rw[Wx b,Ww a,b,this];grind
    ·rw[Ww a,Ww b,M.mon.dg i (by omega)];grind
  have e2:cst (- M.f.c 0)=- cst (M.f.c 0):=by
   apply aF.ext;funext i
   rw[Q_];show(if i=0 then-M.f.c 0 else 0)=- (if i=0 then M.f.c 0 else 0)
   split <;> grind
  rw[e2];grind
 refine⟨λw hw w0=>?_,?_⟩
 ·rw[h] at hw
  have e:=iz hw;have x0:w.c 0≠0:=λz=>w0 (by rw[e,z,dh])
  obtain⟨y,hy⟩:=T.fld.2 _ x0;refine⟨cst y,aX.cst y,?_⟩
  have:cst y*w=1:=by
   rw[e,<- iU];have:y*w.c 0=1:=by grind
   rw[this];rfl
  rw[this];exact Cg.refl _ _
 ·have hp:∀k:Nat,Cg M.f ((X:aF T.α) ^ k) (cst (- M.f.c 0) ^ k):=λk=>by
   induction k with
   | zero=>rw[br,br];exact Cg.refl _ _
   | succ k ih=>rw[aR,aR];exact Cg.mul ((aX.cst _).pow k) aX.X ih xm
  refine(hp _).trans ?_
  rw[h,Wm,<- sO,T.fr];exact xm.symm
end Alg
namespace L2
open PySem PySem.Spec PyProof.Rows
section
variable {X:Cx}
end
section
variable {X:Cx} {x:Str} {id:String} {p pos:Pos} {e:Expr} {es:List Expr} {kws:List Keyword} {t tk:TA} {ks:List Str}
def MQ (X:Cx)(f:l?)(ks:List Str)(r:List V->List V->Hp->VK->Prop):Prop:=
 ∀(pins:List (o?×Obj)) (s:u?) (σ:St) (H:Hp) (xs ys:List V) (us ws:List l?) (Q:VK),Inv X pins σ H s->Vals xs us->Vals ys ws->r xs ys H Q->L? (T? X.prog X.w) X.A (call f us (ks.zip ws)) (EP X pins σ Q) X.xe s
def SM (r:List V->List V->Hp->VK->Prop)(t tk:TA):TE:=λσ H Q=>t σ H λvs H1=>tk σ H1 λws H2=>r vs ws H2 Q
theorem La(hc:MQ X (.builtin id) ks r)(hg:Gl X x)(hm:X.mg x=q?)(hv:J! x=j? (.builtin id))(ha:PA X (e::es) t)(hk:PK X kws tk)
  (hks:(backToKw pos (keywordEach kws X.env)).filterMap (·.1)=ks:=by rfl)
  (hn:x≠"__name__":=by decide) (hdb:(x ==("__debug__":Str))=false:=by decide)
  (he:backTo pos (I? (e::es) X.env)=(false,eval e X.env)::backTo pos (I? es X.env):=by rfl)
  (hplain:(backTo pos (I? (e::es) X.env)).any (·.1)=false:=by rfl)
  (hall:(backToKw pos (keywordEach kws X.env)).all (·.1.isSome)=true:=by rfl)
  (hkw:(backToKw pos (keywordEach kws X.env)).any (·.1.isNone)=false:=by rfl):PE X (.Call (.Name x p) (e::es) kws pos) (SM r t tk):=by
 refine⟨?_⟩
 intro pins s σ H Q I h;refine wpAny_Call_Name_kw (nU I hg hm hv ?_ hn hdb)
 refine callWith_builtin_kwB hplain hkw ?_
 have hb:=ha pos pins s σ H _ I h;rw[he] at hb ⊢;refine evalArgs_kwB hall (fq hb λus s1 ⟨vs,H1,I1,r1,q1⟩=>?_)
 refine fq (hk pos pins s1 σ H1 _ I1 q1) λws s2 ⟨ys,H2,I2,r2,q2⟩=>?_
 rw[hks];exact hc pins s2 σ H2 vs ys us ws Q I2 r1 r2 q2
end
section
variable {prog:F?} {w:H?} {A:C!} {R:Result->u?->Prop} {J:o?} {fp wr:List o?} {n:Nat} {P:Nat->l?->Prop} {St:Nat->Q?->Prop}
end
section
variable {X:Cx}
end
end L2
set_option maxHeartbeats 1000000
namespace L2
open PySem PySem.Spec PyProof.Rows
open AutoSeq1 (wpAny_loadPart')
section
variable {prog:F?} {w:H?} {A:C!} {E:l?->u?->Prop} {s:u?}
theorem F4(ft:TypeCalled T newId initId)
  (hct:checkTypeCall T ⟨args,kw⟩=pure ()) (hcn:checkBuiltinCall newId ⟨.type T::args,kw⟩=pure ())
  (entryN:entryFor table newId=j? Bn) (entryI:entryFor table initId=j? Bi) (g:Meets (Bn ⟨.type T::args,kw⟩) S)
  (h:S A.in1 (wants Q₁ E) s)
  (hnext:∀obj s₁,Q₁ obj s₁->s₁.TypeIs obj T/\argsOk initId ⟨obj::args,kw⟩/\∃Si,Meets (Bi ⟨obj::args,kw⟩) Si/\Si A.in1 (wants (λr s₂=>r=.none/\Q obj s₂) E) s₁):
  L? (T? prog w) A (call (.type T) args kw) Q E s:=by
 obtain⟨c,tl,aeg⟩:=ft.mro;have hmade:=ft.made;have hsub:=ft.sub;refine wpAny_call (codeAny_of_tree ?_)
 show L? _ _ (callAny (.type T) _) _ _ _
 refine J? ⟨Code.quiet_builtin _ (by decide +kernel),codeAny_builtin PySem.F.entry_type_call ?_⟩
 rw[Around.under_plain (weight_type_call_type T args kw) (units_type_call_type T args kw)];have h1:=ft.notType;have h2:=ft.canCreate;repeat (any_goals (first|assumption|wp_step))
 refine codeAny_mono (codeAny_call_builtin ft.plain entryN (wpAny_of_eq hcn (g prog w A.in1 _ s h))) λr s₁ hr=>?_
 cases r with
 | error e=>exact hr
 | ok fl=>
  cases fl with
  | ret obj=>
   obtain⟨hT,hok,Si,gi,hsi⟩:=hnext _ _ hr;have hli:=ft.init.lookup;have hbi:=ft.init.bind obj;repeat (any_goals (first|assumption|wp_step))
   refine codeAny_mono (codeAny_call_builtin ft.init.plain entryI (ft.init.check _ _ _ _ _ _ _ _ hT hok (gi prog w A.in1 _ s₁ hsi))) λr₂ s₂ MR=>?_
   cases r₂ with
   | error e=>exact MR
   | ok fl₂=>
    cases fl₂ with
    | ret r=>
     obtain⟨rfl,hq⟩:=MR;repeat (any_goals (first|assumption|wp_step))
    | _=>exact MR.elim
  | _=>exact hr.elim
theorem z8{rest:List l?}(hl:typeLookup (.type T) "__init__"=pure (j? (.builtin "object.__init__")))
  (hm:Bind.madeBy (.type T)=pure (j? newId)) (hne:(j? newId != j? "object.__new__")=true) (hr:rest≠[]):
  Meets (Builtin.«object.__init__» ⟨self::rest,kw⟩) (λ_ R s=>s.TypeIs self T/\R (.ok (.ret .none)) s):=by
 refine Meets.of_wp λprog w A R s hs=>?_
 obtain⟨hT,hq⟩:=hs;cases rest with
 | nil=>exact W3 rfl hr
 | cons a rest=>
  repeat (any_goals (first|assumption|wp_step))
  exact⟨_,rfl,hq⟩
theorem z9 (a b):checkTypeCall "enumerate" ⟨[a],[(L! "start",b)]⟩=pure ():=by kernel_rfl
theorem B_ (a b):checkBuiltinCall "enumerate.__new__" ⟨[.type "enumerate",a],[(L! "start",b)]⟩=pure ():=by kernel_rfl
theorem Ik (obj a b):argsOk "object.__init__" ⟨[obj,a],[(L! "start",b)]⟩:=by
 unfold argsOk;rw[signature?_of (id:="object.__init__") (n:=['_','_','t','i','n','i','_','_']) (o:=['t','c','e','j','b','o']) (by kernel_rfl) PySem.F.owner_object];kernel_rfl
theorem F5 (l)(items)(n)(dct)(sl:Array (Option l?))(st)(t)(hf:V! st=true):
  Meets (Builtin.«enumerate.__new__» ⟨[.type "enumerate",.ref l],[(L! "start",.int st t)]⟩) (λ_ R s=>s.heap.get? l=j? { cls:=.type "list",dict:=dct,data:=.seq items n,slots:=sl }/\
   R (.ok (.ret (.ref (s.heap.push { cls:=.type "list_iterator",data:=.fields #[.ref l,.int 0 0] }).objs.size)))
    { s with heap:=(s.heap.push { cls:=.type "list_iterator",data:=.fields #[.ref l,.int 0 0] }).push { cls:=.type "enumerate",data:=.fields #[.none,.bool false,.ref s.heap.objs.size,rawInt st,.none,.none] } }):=
 .of_wp λprog w A R s h=>by
  obtain⟨hp,g,d,tk,os⟩:=s;obtain⟨hl,h⟩:=h;have hsub:=sub_enumerate;have hL:Heap.IsList (Shared.heap ⟨hp,g,d,tk,os⟩) l items:=⟨_,hl,rfl,n,rfl⟩;have hf':¬ (!V! st)=true:=by rw[hf];decide
  wp_walk using U? hl
  refine wpAny_stack_any λstk=>J? ?_
  split
  ·rename_i c _ _ _ _ _
   cases (c == Value.type "enumerate")
   ·wp_walk using U? hl,wpAny_pyIter_list hL
    exact⟨_,rfl,h⟩
   ·wp_walk using U? hl,wpAny_pyIter_list hL
    exact⟨_,rfl,h⟩
  ·wp_walk using U? hl,wpAny_pyIter_list hL
   exact⟨_,rfl,h⟩
theorem Il{st:Int}(hL:s.heap.IsList l items)(hf:V! st=true)
  (h:∀h',IsEnum h' (s.heap.objs.size+1) s.heap.objs.size st .none->h'.IsListIter s.heap.objs.size l 0->h'.objs.size=s.heap.objs.size+2->
   (∀b o,s.heap.get? b=j? o->h'.get? b=j? o)->Q (.ref (s.heap.objs.size+1)) { s with heap:=h' }):
  L? (T? prog w) A (call (.type "enumerate") [.ref l] [(L! "start",.int st t)]) Q E s:=by
 obtain⟨⟨c,dct,dt,sl⟩,hl,hc,n,hd⟩:=hL;replace hc:c=.type "list":=hc
 replace hd:dt=.seq items n:=hd
 subst hc hd;refine F4 (Q₁:=λobj s₁=>s₁.TypeIs obj "enumerate"/\Q obj s₁) PySem.F.called_enumerate (z9 _ _) (B_ _ _) PySem.F.entry_enumerate_new PySem.F.entry_object_init (F5 l items n dct sl st t hf) ⟨hl,?_⟩ λobj s₁ hq=>⟨hq.1,Ik _ _ _,_,z8 PySem.F.called_enumerate.init.lookup PySem.F.called_enumerate.made (by decide) (by simp),hq.1,rfl,hq.2⟩
 have hz:(s.heap.push { cls:=.type "list_iterator",data:=.fields #[.ref l,.int 0 0] }).objs.size=s.heap.objs.size+1:=Wa ..;show _/\_
 rw[hz];have he:IsEnum ((s.heap.push { cls:=.type "list_iterator",data:=.fields #[.ref l,.int 0 0] }).push
   { cls:=.type "enumerate",data:=.fields #[.none,.bool false,.ref s.heap.objs.size,rawInt st,.none,.none] }) (s.heap.objs.size+1) s.heap.objs.size st .none:=by
  have:=Yw (s.heap.push { cls:=.type "list_iterator",data:=.fields #[.ref l,.int 0 0] })
   (o:={ cls:=.type "enumerate",data:=.fields #[.none,.bool false,.ref s.heap.objs.size,rawInt st,.none,.none] }) rfl
  rw[hz] at this;exact this
 exact⟨⟨_,he,rfl⟩,h _ he ⟨_,Yf _ (Yw _ rfl),rfl,rfl⟩ (by rw[Wa,hz]) λb o x=>Yf _ (Yf _ x)⟩
end
section
variable {M:Model} {A:C!} {E:l?->u?->Prop} {s:u?} {env:Env}
theorem wG
  (hplain:args.any (·.1)=false) (hkw:keywords.any (·.1.isNone)=false)
  (h:L? M A (evalArgs (.type T) true args keywords) (λa s₁=>L? M A (call (.type T) (first++a.pos) a.kw) Q E s₁) E s):
  L? M A (callWith pos (.type T) first args keywords) Q E s:=by
 unfold callWith;refine B? (wpAny_holding (D! h (λa s₁ h₁=>B? (wpAny_standAt ?_)) λ_ _ x=>x))
 simp only[hplain,hkw,Bool.or_false]
 refine B? (J? ?_)
 exact B? (D! h₁ (λr s₂ hr=>B? (wpAny_holding (wpAny_point (J? hr)))) λ_ _ x=>x)
end
theorem Im(h0:0<=i)(h1:i<2 ^ 62):V! i=true:=by
 unfold V!;simp
 omega
section
variable {X:Cx} {elts:List Expr} {k:Nat} {tpos:Pos}
inductive MS (K:bK)(R:It->Hp->Prop)(vs:List V)(ws:List V)(H2:Hp):Prop where
 | mk (a:_) (n:Nat) (c5:vs=[.ref a]) (c6:ws=[.int (n:Int)]) (dS:n<2 ^ 62) (fT:(∃xs,aU K H2 a xs)) (jv:R (SI K a n) H2)
def MT (K:bK)(ta tk:TA):TI:=λσ H R=>ta σ H λvs H1=>tk σ H1 λws H2=>MS K R vs ws H2
theorem MU(hg:Gl X "enumerate")(hm:X.mg "enumerate"=q?)(ha:PA X [l] ta)(hk:PK X [⟨j? (L! "start"),e,kp⟩] tk)
  (he:backTo pos (I? [l] X.env)=(false,eval l X.env)::backTo pos (I? [] X.env):=by rfl)
  (hplain:(backTo pos (I? [l] X.env)).any (·.1)=false:=by rfl)
  (hall:(backToKw pos (keywordEach [⟨j? (L! "start"),e,kp⟩] X.env)).all (·.1.isSome)=true:=by rfl)
  (hkw:(backToKw pos (keywordEach [⟨j? (L! "start"),e,kp⟩] X.env)).any (·.1.isNone)=false:=by rfl):
  PI X (.Tuple elts k tpos) (.Call (.Name "enumerate" p) [l] [⟨j? (L! "start"),e,kp⟩] pos) (MT X.K ta tk):=by
 intro pins s σ H R I h;refine wpAny_Call_Name_kw (nU I hg hm boot_enumerate ?_)
 refine wG hplain hkw ?_
 have hb:=ha pos pins s σ H _ I h;rw[he] at hb ⊢;refine evalArgs_kwB hall (fq hb λus s1 ⟨vs,H1,I1,r1,q1⟩=>?_)
 refine fq (hk pos pins s1 σ H1 _ I1 q1) λws s2 ⟨ys,H2,I2,r2,q2⟩=>?_
 obtain⟨a,n,e1,e2,hn,⟨xs,hq⟩,q⟩:=q2;subst e1 e2;obtain⟨u,rfl,ru⟩:=vals1 r1;cases (show u=K! a from ru)
 obtain⟨v,rfl,rv'⟩:=vals1 r2;obtain⟨tk',rfl⟩:=(show ∃tk,v=Value.int (n:Int) tk from rv')
 obtain⟨its,rv,pl,hz⟩:=I2.list hq;have hlt:a<s2.heap.objs.size:=by obtain⟨_,y,_⟩:=pl.isList;exact Yl y
 show L? _ _ (call (.type "enumerate") [.ref a] [(L! "start",.int (n:Int) tk')]) _ _ _
 refine Il pl.isList (Im (by omega) (by omega)) λh' he' hit hsz hk'=>?_
 refine wpAny_pyIter_enum he' ?_
 have I3:Inv X pins σ H2 { s2 with heap:=h' }:=I2.kept (t':=s2.toks) hk'
 refine⟨_,[s2.heap.objs.size+1,s2.heap.objs.size],_,_,H2,rfl,I3,Df a (s2.heap.objs.size+1) s2.heap.objs.size (Nat.succ_ne_self _) (Ym (Nat.lt_succ_of_lt hlt)) (Ym hlt) n,⟨⟨_,he'⟩,hit⟩,λb hb=>?_,q⟩
 rcases List.mem_cons.mp hb with rfl|hb
 ·exact I2.yC (Wg _) (I2.hok.fresh (Wg _))
 ·have:b=s2.heap.objs.size:=by simpa using hb
  subst this;exact I2.yC (Yd _) (I2.hok.fresh (Yd _))
theorem Di {K:bK}{l e:Expr}{ta tk:TA}{p pos kp:Pos}(hK:X.K=K)(hg:Gl X "enumerate")(hm:X.mg "enumerate"=q?)(ha:PA X [l] ta)(hk:PK X [⟨j? (L! "start"),e,kp⟩] tk)
  (he:backTo pos (I? [l] X.env)=(false,eval l X.env)::backTo pos (I? [] X.env):=by rfl)
  (hplain:(backTo pos (I? [l] X.env)).any (·.1)=false:=by rfl)
  (hall:(backToKw pos (keywordEach [⟨j? (L! "start"),e,kp⟩] X.env)).all (·.1.isSome)=true:=by rfl)
  (hkw:(backToKw pos (keywordEach [⟨j? (L! "start"),e,kp⟩] X.env)).any (·.1.isNone)=false:=by rfl):
  PI X (.Tuple elts k tpos) (.Call (.Name "enumerate" p) [l] [⟨j? (L! "start"),e,kp⟩] pos) (MT K ta tk):=by subst hK;exact MU hg hm ha hk he hplain hall hkw
end
section
variable {X:Cx} {tg:Expr}
end
end L2
namespace L2
open PySem PySem.Spec PyProof.Rows
def Rx (K:bK)(a b:o?):It:=
 ⟨λi H=>∃xs ys x y,aU K H a xs/\aU K H b ys/\xs[i]?=j? x/\ys[i]?=j? y,
  λi H v H'=>∃r x y,v=.ref r/\H r=q?/\(∀xs,aU K H a xs->xs[i]?=j? x)/\(∀ys,aU K H b ys->ys[i]?=j? y)/\H'=upd H r (.tup [x,y]),
  λi H=>∃xs ys,aU K H a xs/\aU K H b ys/\(xs.length<=i\/ys.length<=i)⟩
theorem MV {P:F?}{w:H?}{K:bK}{elts:List Expr}{k:Nat}{pos:Pos}(a b z TI TO i1 i2:o?)(D:ZipApart z TI TO i1 i2 a b):
  Turn P w K (.Tuple elts k pos) (Rx K a b) [z,TI,TO,i1,i2] z (λi h=>IsZip h z TI TO .none/\IsPair h TI (.ref i1) (.ref i2)/\(∃a b,IsPair h TO a b)/\h.IsListIter i1 a i/\h.IsListIter i2 b i) where
 mem:=by simp
 obj:=λi h x c hc=>by
  obtain⟨hz,hTI,⟨u,v,hTO⟩,⟨o1,h1,_,d1⟩,⟨o2,h2,_,d2⟩⟩:=x;simp only[Wf,Z5,or_false] at hc
  rcases hc with rfl|rfl|rfl|rfl|rfl
  ·exact⟨_,hz,λv z=>by have z':Data.fields _=Data.cell v:=z;cases z'⟩
  ·exact⟨_,hTI,λv z=>by have z':Data.seq _ _=Data.cell v:=z;cases z'⟩
  ·exact⟨_,hTO,λv z=>by have z':Data.seq _ _=Data.cell v:=z;cases z'⟩
  ·exact⟨o1,h1,λv z=>by rw[d1] at z;cases z⟩
  ·exact⟨o2,h2,λv z=>by rw[d2] at z;cases z⟩
 keep:=λi h h' x kk=>by
  obtain⟨hz,hTI,⟨u,v,hTO⟩,h1,h2⟩:=x;exact⟨kk z (by simp) _ hz,kk TI (by simp) _ hTI,⟨u,v,kk TO (by simp) _ hTO⟩,h1.at λo ho=>kk i1 (by simp) o ho,h2.at λo ho=>kk i2 (by simp) o ho⟩
 item:=by
  intro X hP hw hK hc i pins s σ H E I hf x hg;subst hP hw hK;obtain⟨xs,ys,vx,vy,Uw,Ux,hx,hy⟩:=hg;obtain⟨its,rv,p,_⟩:=I.list Uw;obtain⟨jts,rw',p',_⟩:=I.list Ux;obtain⟨ux,hux,rux⟩:=rv.get hx;obtain⟨uy,huy,ruy⟩:=rw'.get hy;obtain⟨hz,hTI,⟨u,v,hTO⟩,h1,h2⟩:=x;have hn0:H s.heap.objs.size=q?:=I.fresh;have ZL:z<s.heap.objs.size:=Yl hz;have ael:TO<s.heap.objs.size:=Yl hTO;have aem:TI<s.heap.objs.size:=Yl hTI;have h1l:i1<s.heap.objs.size:=by obtain⟨_,y,_⟩:=id h1;exact Yl y
  have h2l:i2<s.heap.objs.size:=by obtain⟨_,y,_⟩:=id h2;exact Yl y
  refine wpAny_pyNext_zip_item (x:=ux) (y:=uy) D hz hTI hTO h1 h2 p.isList p'.isList (by simpa using hux) (by simpa using huy) λh' a1 a2 a3 a4 a5 a6 a7=>?_
  refine⟨_,rfl,wpAny_letOwnedTupleGo_zip a1 λh3 b1 Uy=>?_⟩
  have hT2:h3.get? s.heap.objs.size=j? { cls:=.type "tuple",data:=.seq #[ux,uy] }:=(Uy.2 _ (Nat.ne_of_gt ZL)).trans a5;have I2:Inv X pins σ (upd H s.heap.objs.size (.tup [vx,vy])) { s with heap:=h3 }:=
   I.De (t':=s.toks) (ch:=[z,TI,TO,i1,i2]) (λc o hc q=>(Uy.2 c λe=>hc (by simp[e])).trans (a7 c o (λe=>hc (by simp[e])) (λe=>hc (by simp[e])) (λe=>hc (by simp[e])) (λe=>hc (by simp[e])) q)) hf (Yd _)
    ⟨by show 2<=K?;rw[C?];omega,[ux,uy],.cons rux (.cons ruy .nil),_,hT2,rfl,0,rfl⟩
  refine⟨.ref s.heap.objs.size,_,I2,rfl,⟨_,vx,vy,rfl,hn0,λzs hzs=>by rw[I.u7 hzs Uw];exact hx,λzs hzs=>by rw[I.u7 hzs Ux];exact hy,rfl⟩,⟨b1,?_,⟨_,_,(Uy.2 TO D.TOz).trans a2⟩,?_,?_⟩,λc hc=>?_⟩
  ·exact(Uy.2 TI D.TIz).trans (a7 TI _ D.TIz D.TITO D.TIi1 D.TIi2 hTI)
  ·exact a3.at λo q=>(Uy.2 i1 D.i1z).trans q
  ·exact a4.at λo q=>(Uy.2 i2 D.i2z).trans q
  ·have hc0:=(hf c hc).1
   rw[aH ?_]
   ·exact hc0
   ·simp only[Wf,Z5,or_false] at hc
    rcases hc with rfl|rfl|rfl|rfl|rfl <;> exact Ym ‹_›
 done:=by
  intro X hP hw hK hc i pins s σ H E I hf x hg;subst hP hw hK;obtain⟨xs,ys,Uw,Ux,hle⟩:=hg;obtain⟨its,rv,p,_⟩:=I.list Uw;obtain⟨jts,rw',p',_⟩:=I.list Ux;obtain⟨hz,hTI,⟨u,v,hTO⟩,h1,h2⟩:=x;have l1:=rv.length;have l2:=rw'.length;refine wpAny_pyNext_zip_end (I.ok.hd hc) D hz hTI hTO h1 h2 p.isList p'.isList (by rcases hle with z|z;exact .inl (by simp;omega);exact .inr (by simp;omega)) λh' hk=>?_
  exact⟨rfl,I.JU (t':=s.toks) (ch:=[z,TI,TO,i1,i2]) (λc o hc q=>hk c o (λe=>hc (by simp[e])) (λe=>hc (by simp[e])) (λe=>hc (by simp[e])) (λe=>hc (by simp[e])) q) hf⟩
 self:=λ_ _ _ _ _ x h=>wpAny_pyIter_zip x.1 h
section
variable {X:Cx} {elts:List Expr} {k:Nat} {tpos:Pos}
inductive SN (K:bK)(R:It->Hp->Prop)(vs:List V)(H1:Hp):Prop where
 | mk (a b:_) (c5:vs=[.ref a,.ref b]) (c6:(∃xs,aU K H1 a xs)) (dS:(∃ys,aU K H1 b ys)) (fT:R (Rx K a b) H1)
def Vs (K:bK)(ta:TA):TI:=λσ H R=>ta σ H λvs H1=>SN K R vs H1
theorem boot_zip:J! "zip"=j? (.type "zip"):=by decide +kernel
theorem SO(hg:Gl X "zip")(hm:X.mg "zip"=q?)(ha:PA X [l,m] ta)(hs:I? [l,m] X.env=(false,eval l X.env)::I? [m] X.env:=by rfl)(ht:((backTo pos (I? [m] X.env)).any λx=>x.1)=false:=by rfl):
  PI X (.Tuple elts k tpos) (.Call (.Name "zip" p) [l,m] [] pos) (Vs X.K ta):=by
 intro pins s σ H R I h;refine Call_ (nU I hg hm boot_zip (P! (fq (ha pos pins s σ H _ I h) λus s1 ⟨vs,H1,I1,r1,q1⟩=>?_) hs ht))
 obtain⟨a,b,e,⟨xs,Uw⟩,⟨ys,Ux⟩,q⟩:=q1;subst e;obtain⟨u1,u2,rfl,x1,x2⟩:=vals2 r1;cases (show u1=K! a from x1)
 cases (show u2=K! b from x2)
 obtain⟨its,rv,pl,_⟩:=I1.list Uw;obtain⟨jts,rw',pl',_⟩:=I1.list Ux;have hla:a<s1.heap.objs.size:=by obtain⟨_,y,_⟩:=pl.isList;exact Yl y
 have hlb:b<s1.heap.objs.size:=by obtain⟨_,y,_⟩:=pl'.isList;exact Yl y
 refine call_zip_2 pl.isList pl'.isList λh' hz hTI hTO h1 h2 hsz hk=>?_
 refine wpAny_pyIter_zip hz ?_
 have I2:Inv X pins σ H1 { s1 with heap:=h' }:=I1.kept (t':=s1.toks) hk
 refine⟨_,[s1.heap.objs.size+4,s1.heap.objs.size+2,s1.heap.objs.size+3,s1.heap.objs.size,s1.heap.objs.size+1],_,_,H1,rfl,I2,MV a b (s1.heap.objs.size+4) (s1.heap.objs.size+2) (s1.heap.objs.size+3) s1.heap.objs.size (s1.heap.objs.size+1) ?_,⟨hz,hTI,⟨_,_,hTO⟩,h1,h2⟩,λc hc=>?_,q⟩
 ·generalize s1.heap.objs.size=n at*
  constructor <;> (simp only[o?] at *;omega)
 ·have hge:s1.heap.objs.size<=c:=by
   simp only[Wf,Z5,or_false] at hc
   rcases hc with rfl|rfl|rfl|rfl|rfl
   ·exact Wj _ _
   ·exact Wj _ _
   ·exact Wj _ _
   ·exact Yd _
   ·exact Wj _ _
  exact I1.yC hge (I1.hok.fresh hge)
theorem vc {K:bK}{l m:Expr}{ta:TA}{p pos:Pos}(hK:X.K=K)(hg:Gl X "zip")(hm:X.mg "zip"=q?)(ha:PA X [l,m] ta)(hs:I? [l,m] X.env=(false,eval l X.env)::I? [m] X.env:=by rfl)(ht:((backTo pos (I? [m] X.env)).any λx=>x.1)=false:=by rfl):
  PI X (.Tuple elts k tpos) (.Call (.Name "zip" p) [l,m] [] pos) (Vs K ta):=by subst hK;exact SO hg hm ha hs ht
end
theorem F6 {K:bK}{a b D:o?}{xs ys:List V}{st:St}{g:TG}{v7:TT}{te:TE}{H1:Hp}{Q:VK}(Pv:Nat->List V->Hp->Prop)(hle:xs.length=ys.length)(h0:Pv 0 [] (upd H1 D (.lst [])))
  (hl:∀i zs H2,H2 D=j? (.lst zs)->Pv i zs H2->aU K H2 a xs/\aU K H2 b ys)
  (hs:∀i m x y zs H2 r,m=xs.length-i->i<xs.length->xs[i]?=j? x->ys[i]?=j? y->H2 D=j? (.lst zs)->zs.length<=i->Pv i zs H2->H2 r=q?->g (.ref r) st (upd H2 r (.tup [x,y])) λσ3 H3=>v7 σ3 H3 λbb H4=>
   if bb=true then te σ3 H4 λy H5=>∃ys,H5 D=j? (.lst ys)/\ys.length<K?/\∃m',m'<m/\CW xs.length D Pv (i+1) m' (upd H5 D (.lst (ys++[y]))) else ∃m',m'<m/\CW xs.length D Pv (i+1) m' H4)
  (hd:∀zs H2,H2 D=j? (.lst zs)->Pv xs.length zs H2->Q (.ref D) H2):
  tS (Rx K a b) D st g v7 te Q H1:=by
 refine⟨CW xs.length D Pv,⟨xs.length,by simp,Y2 _,[],aq,Yd _,h0⟩,?_⟩
 rintro i m H2 ⟨hm,hi,zs,hz,hlen,p⟩;obtain⟨q1,q2⟩:=hl i zs H2 hz p;by_cases hlt:i<xs.length
 ·have MW:i<ys.length:=by omega
  refine .inr ⟨⟨xs,ys,xs[i],ys[i],q1,q2,by simp[hlt],by simp[MW]⟩,λv H' y=>?_⟩
  obtain⟨r,x,y',e1,hr,hx,hy,e2⟩:=y;subst e1 e2;exact hs i m x y' zs _ r hm hlt (hx xs q1) (hy ys q2) hz hlen p hr
 ·have e:i=xs.length:=by omega
  subst e;exact .inl ⟨⟨xs,ys,q1,q2,.inl (Yd _)⟩,hd zs H2 hz p⟩
end L2
namespace L2
open PySem PySem.Spec PyProof.Rows Alg
inductive Rep (H:Hp)(ok:o?->Prop):V->El->Prop where
 | num (n:Int):Rep H ok (.int n) (.num n)
 | vec {a:o?} {vs:List V} {l:List El} (h:H a=j? (.lst vs)) (k:ok a) (hl:vs.length=l.length) (r:∀(i:Nat) x e,vs[i]?=j? x->l[i]?=j? e->Rep H ok x e):Rep H ok (.ref a) (.vec l)
theorem Rep.imp(f:∀b o,H b=j? o->ok b->H' b=j? o/\ok' b)(R:Rep H ok v e):Rep H' ok' v e:=by
 induction R with
 | num n=>exact .num n
 | vec h k hl _ ih=>exact .vec (f _ _ h k).1 (f _ _ h k).2 hl ih
abbrev Any:o?->Prop:=λ_=>True
abbrev bL (H:Hp):o?->Prop:=λb=>H b=q?
theorem Rep.same(R:Rep H ok v e)(g:ay H H'):Rep H' ok v e:=R.imp λb o h k=>⟨g b o h,k⟩
theorem Rep.any(R:Rep H ok v e):Rep H Any v e:=R.imp λb o h k=>⟨h,trivial⟩
theorem Rep.older(R:Rep H (bL H1) v e)(g:ay H0 H1):Rep H (bL H0) v e:=R.imp λb o h k=>⟨h,g.free k⟩
mutual
def toD:El->R!
 | .num n=>.int n
 | .vec l=>.list (o9 l)
def o9:List El->List R!
 | []=>[]
 | e::l=>toD e::o9 l
end
theorem mF:∀l:List El,o9 l=l.map toD
 | []=>rfl
 | e::l=>by show toD e::o9 l=_;rw[mF l];rfl
mutual
theorem vd:∀ {a b:El},toD a=toD b->a=b
 | .num n,.num m,h=>by
  have:PyData.int n=PyData.int m:=h
  injection this with e;rw[e]
 | .num n,.vec l,h=>by
  have:PyData.int n=PyData.list (o9 l):=h
  cases this
 | .vec l,.num n,h=>by
  have:PyData.list (o9 l)=PyData.int n:=h
  cases this
 | .vec l,.vec k,h=>by
  have:PyData.list (o9 l)=PyData.list (o9 k):=h
  injection this with e;rw[F7 e]
theorem F7:∀ {a b:List El},o9 a=o9 b->a=b
 | [],[],_=>rfl
 | [],e::l,h=>by
  have:([]:List R!)=toD e::o9 l:=h
  cases this
 | e::l,[],h=>by
  have:toD e::o9 l=[]:=h
  cases this
 | e::l,f::k,h=>by
  have:toD e::o9 l=toD f::o9 k:=h
  injection this with h1 h2
  rw[vd h1,F7 h2]
end
theorem jx(h:uh n e):Fl n (toD e):=by
 induction h with
 | num i=>exact .int i
 | @vec n l _ _ ih=>
  show Fl (n+1) (.list (o9 l))
  rw[mF];exact .lst λd hd=>by
   obtain⟨e,he,rfl⟩:=List.mem_map.mp hd;exact ih e he
theorem Rep.den {K:bK}{H:Hp}{ok:o?->Prop}{v:V}{e:El}(R:Rep H ok v e):Den K H v (toD e):=by
 induction R with
 | num n=>exact .int n
 | @vec a vs l h k hl r ih=>
  show Den K H (.ref a) (.list (o9 l))
  rw[mF];refine .lst (aU.of h) (by rw[Yc];exact hl) λi x d h1 h2=>?_
  rw[Yh] at h2;cases e:l[i]? with
  | none=>rw[e] at h2;cases h2
  | some y=>
   rw[e] at h2;cases h2;exact ih i x y h1 e
theorem tT {K:bK}{H:Hp}{o1 o2:o?->Prop}{u v:V}{a b:El}{n m:Nat}{Q:VK}(R:Rep H o1 u a)(S:Rep H o2 v b)(f:uh n a)(g:uh m b)(hn:n<=64)(hm:m<=64)
  (q1:a=b->Q (.bl true) H) (q2:a≠b->Q (.bl false) H):Ie K false u v H Q:=by
 refine⟨toD a,toD b,R.den,S.den,(jx f).shaped hn,(jx g).shaped hm,?_⟩
 show Q (.bl (G! (toD a) (toD b))) H
 rw[zD (jx f) (jx g)];by_cases h:a=b
 ·rw[Wy (W1 toD h)];exact q1 h
 ·rw[W0 λz=>h (vd z)];exact q2 h
theorem z_ {K:bK}{H:Hp}{o1 o2:o?->Prop}{u v:V}{a b:El}{n m:Nat}{Q:VK}(R:Rep H o1 u a)(S:Rep H o2 v b)(f:uh n a)(g:uh m b)(hn:n<=64)(hm:m<=64)
  (q1:a=b->Q (.bl false) H) (q2:a≠b->Q (.bl true) H):Ie K true u v H Q:=by
 refine⟨toD a,toD b,R.den,S.den,(jx f).shaped hn,(jx g).shaped hm,?_⟩
 show Q (.bl (!G! (toD a) (toD b))) H
 rw[zD (jx f) (jx g)];by_cases h:a=b
 ·rw[Wy (W1 toD h)];exact q1 h
 ·rw[W0 λz=>h (vd z)];exact q2 h
def FD (K:bK)(f:o?)(fd:T!):Prop:=∃oc od osl,K.lookup f=j? ⟨oc,od,.func fd,osl⟩
theorem FD.uniq {K:bK}{f:o?}{fd fd':T!}(h:FD K f fd)(h':FD K f fd'):fd=fd':=by
 obtain⟨oc,od,osl,e⟩:=h;obtain⟨oc',od',aen,e'⟩:=h';rw[e] at e';injection e' with e'
 injection e' with _ _ e3 _
 injection e3
def Uz (C:o?)(sp:Sp):Sp:=λvs H Q E=>sp vs H Q E/\∃a dx fs,vs.head?=j? (.ref a)/\H a=j? (.ins C dx fs)
structure nj (P:F?)(w:H?)(K:bK)(mg:Str->Option l?)(base:Q?)(k:Nat)(J:Hp->o?->Prop)(m:Str)(ps:List Str)(sp:Sp):Prop where
 ex:∀H a,J H a->∃C dx fs f fd,H a=j? (.ins C dx fs)/\fs.lookup m=q?/\G8 K C/\Meth K C m f/\FD K f fd/\Binds K fd ps []/\iP P w K mg base z4 k f fd ps (Uz C sp)
inductive SQ (J:Hp->o?->Prop)(sp:Sp)(t:TA)(σ:St)(Q:VK)(x:V)(H1:Hp):Prop where
 | mk (a:_) (c5:x=.ref a) (c6:J H1 a) (dS:t σ H1 λvs H2=>(∀o,H1 a=j? o->H2 a=j? o)/\sp (x::vs) H2 Q E0)
def P7 (J:Hp->o?->Prop)(sp:Sp)(to:TE)(t:TA):TE:=λσ H Q=>to σ H λx H1=>SQ J sp t σ Q x H1
section
variable {X:Cx} {k n:Nat} {J:Hp->o?->Prop} {m:Str} {ps:List Str} {sp:Sp} {pos apos:Pos} {e o:Expr} {es:List Expr} {ta:TE} {t:TA}
theorem bh(M:nj X.prog X.w X.K X.mg X.base k J m ps sp)(hr:eH n X.A)(he:PE X o ta)(ha:PA X (e::es) t)(hle:k<=n:=by first|decide|omega)
  (hst:I? (e::es) X.env=(false,eval e X.env)::I? es X.env:=by rfl) (hpl:(backTo pos (I? es X.env)).any (·.1)=false:=by rfl)
  (ht:eval (.Call (.Attribute o m apos) (e::es) [] pos) X.env=(do
   let ov <- eval o X.env
   standAt apos.atName
   let (f,first) <- holding [ov] (getMethod ov m pl)
   callWith pos f first (backTo pos (I? (e::es) X.env)) (backToKw pos (keywordEach [] X.env))):=by rfl):
  PE X (.Call (.Attribute o m apos) (e::es) [] pos) (P7 J sp ta t):=by
 refine⟨?_⟩
 intro pins s σ H Q I h;refine PySem.W.methodCall_KW (pl:=pl) (fq (he pins s σ H _ I h) λu s1 ⟨x,H1,I1,rx,a,ex,ej,q⟩=>?_) ht
 subst ex;obtain rfl:u=K! a:=rx
 obtain⟨C,dx,fs,f,fd,ea,l,c,hm,_,hb,F⟩:=M.ex H1 a ej;refine zX I1 ea c hm l ?_
 refine PySem.W.callWith_K (first:=[.ref a]) (h₀:=X.base) I.ok.mod.U0 hm.kp (fq (ha pos pins s1 σ H1 _ I1 q) λus s2 ⟨vs,H2,I2,r,st,q2⟩=>⟨I2.BZ,?_⟩) hst hpl
 refine HU (us:=.ref a::us) (vs:=.ref a::vs) F (hr.mono hle) hb .nil JO I2 (.cons rfl r) ?_
 rw[Zy];exact⟨q2,a,dx,fs,rfl,st _ ea⟩
theorem aO(M:nj X.prog X.w X.K X.mg X.base k J m ps sp)(hr:eH n X.A)(he:PE X o ta)(hle:k<=n:=by first|decide|omega)
  (ht:eval (.Call (.Attribute o m apos) [] [] pos) X.env=(do
   let ov <- eval o X.env
   standAt apos.atName
   let (f,first) <- holding [ov] (getMethod ov m pl)
   callWith pos f first (backTo pos (I? [] X.env)) (backToKw pos (keywordEach [] X.env))):=by rfl):
  PE X (.Call (.Attribute o m apos) [] [] pos) (P7 J sp ta wz):=by
 refine⟨?_⟩
 intro pins s σ H Q I h;refine PySem.W.methodCall_KW (pl:=pl) (fq (he pins s σ H _ I h) λu s1 ⟨x,H1,I1,rx,a,ex,ej,st,q⟩=>?_) ht
 subst ex;obtain rfl:u=K! a:=rx
 obtain⟨C,dx,fs,f,fd,ea,l,c,hm,_,hb,F⟩:=M.ex H1 a ej;refine zX I1 ea c hm l ?_
 refine PySem.W.callWith_K0 (first:=[.ref a]) I1.BZ hm.kp (HU (us:=[.ref a]) (vs:=[.ref a]) F (hr.mono hle) hb .nil JO I1 (.cons rfl .nil) ?_)
 exact⟨q,a,dx,fs,rfl,ea⟩
end
theorem aY {X:Cx}{K:bK}{e:Expr}{f:Str}{pos:Pos}{ta:TE}(hK:X.K=K)(he:PE X e ta)(hb:attributeBase e f X.env (eval e X.env)=eval e X.env:=by rfl):PE X (.Attribute e f pos) (Vi K ta f):=by subst hK;exact Sh he hb
structure Maker (P:F?)(w:H?)(K:bK)(mg:Str->Option l?)(base:Q?)(k:Nat)(x:Str)(C:o?)(ps:List Str)(sp:Sp):Prop where
 ex:∃f fd,Mk K C f/\Binds K fd ps []/\iP P w K mg base z4 k f fd ps sp/\mg x=j? (.ref C)
section
variable {X:Cx} {k n:Nat} {C:o?} {x:Str} {ps:List Str} {sp:Sp} {p pos:Pos} {e:Expr} {es:List Expr} {t:TA}
theorem Ef (M:Maker X.prog X.w X.K X.mg X.base k x C ps sp)(hr:eH n X.A)(ha:PA X (e::es) t)(hle:k+1<=n:=by first|decide|omega)(hg:Gl X x:=by rfl)(hdb:(x ==("__debug__":Str))=false:=by decide)
  (he:I? (e::es) X.env=(false,eval e X.env)::I? es X.env:=by rfl) (hpl:(backTo pos (I? es X.env)).any (·.1)=false:=by rfl):
  PE X (.Call (.Name x p) (e::es) [] pos) (Rm C sp [] E0 t):=by
 obtain⟨f,fd,mk,b,F,hm⟩:=M.ex;exact PJ mk F (hr.mono hle) hg hm b .nil JO ha hdb he hpl
end
structure bG (K:bK)(C:o?)(m qual:Str)(st:R?)(ps:List Str):Prop where
 ex:∃f fd,Fd K m qual st f fd/\Binds K fd ps []/\Meth K C m f
structure jy (P:F?)(w:H?)(K:bK)(mg:Str->Option l?)(base:Q?)(k:Nat)(C:o?)(m:Str)(ps:List Str)(sp:Sp):Prop where
 ex:∃f fd,Meth K C m f/\FD K f fd/\Binds K fd ps []/\iP P w K mg base z4 k f fd ps sp
section
variable {P:F?} {w:H?} {K:bK} {mg:Str->Option l?} {base:Q?} {C:o?}
theorem bG.ok {m qual:Str}{st:R?}{N ps:List Str}{k:Nat}{sp:Sp}(F:bG K C m qual st ps)(S:aB N ps (aj st))(len:∀vs H Q E,sp vs H Q E->vs.length=ps.length)
  (hbody:∀(f:o?) (cdv:l?) (A:C!) (outer:List Env) (s:u?) (H:Hp) (vs:List V) (Q:VK) (E:XK),eH k (A.deeper (envOfC qual (aj st) s.heap.objs.size f cdv))->sp vs H Q E->
   ∃t,FH (B8 z4 P w K mg base N qual (aj st) f cdv A outer s H E).Pj (bY st) t/\t { nx:=λ_ H'=>Q .d8 H',rt:=Q } (start N vs) H):jy P w K mg base (k+1) C m ps sp:=by
 obtain⟨f,fd,F,B,M⟩:=F.ex;have fdk:FD K f fd:=by
  obtain⟨oc,od,kV,doc,pm,an,cdv,ct,osl,_,lk,_⟩:=F.ex;exact⟨oc,od,osl,lk⟩
 exact⟨f,fd,M,fdk,B,F.ok S len (hbody f)⟩
theorem jy.imp {k:Nat}{m:Str}{ps:List Str}{sp Mt:Sp}(D:jy P w K mg base k C m ps sp)(h:∀vs H Q E,Mt vs H Q E->sp vs H Q E):jy P w K mg base k C m ps Mt:=by
 obtain⟨f,fd,M,D,B,F⟩:=D.ex;exact⟨f,fd,M,D,B,F.imp h⟩
theorem b8.mono {j k:Nat}{x:Str}{ps:List Str}{sp:Sp}(D:b8 P w K mg base j x ps sp)(h:j<=k):b8 P w K mg base k x ps sp:=by
 obtain⟨f,fd,F,B,kp,M⟩:=D.ex;exact⟨f,fd,F.mono h,B,kp,M⟩
theorem nj.of {k:Nat}{J:Hp->o?->Prop}{m:Str}{ps:List Str}{sp:Sp}(h:∀H a,J H a->∃C dx fs,H a=j? (.ins C dx fs)/\fs.lookup m=q?/\G8 K C/\jy P w K mg base k C m ps (Uz C sp)):nj P w K mg base k J m ps sp:=⟨λH a j=>by
 obtain⟨C,dx,fs,h1,h2,h3,h4⟩:=h H a j;obtain⟨f,fd,M,D,B,F⟩:=h4.ex;exact⟨C,dx,fs,f,fd,h1,h2,h3,M,D,B,F⟩⟩
theorem nj.mono {j k:Nat}{J:Hp->o?->Prop}{m:Str}{ps:List Str}{sp:Sp}(M:nj P w K mg base j J m ps sp)(h:j<=k):nj P w K mg base k J m ps sp:=⟨λH a q=>by
 obtain⟨C,dx,fs,f,fd,h1,h2,h3,h4,h5,h6,F⟩:=M.ex H a q;exact⟨C,dx,fs,f,fd,h1,h2,h3,h4,h5,h6,F.mono h⟩⟩
theorem nj.imp {k:Nat}{J:Hp->o?->Prop}{m:Str}{ps:List Str}{sp Mt:Sp}(M:nj P w K mg base k J m ps sp)(h:∀vs H Q E,Mt vs H Q E->sp vs H Q E):nj P w K mg base k J m ps Mt:=⟨λH a q=>by
 obtain⟨C,dx,fs,f,fd,h1,h2,h3,h4,h5,h6,F⟩:=M.ex H a q;exact⟨C,dx,fs,f,fd,h1,h2,h3,h4,h5,h6,F.imp λvs H Q E ⟨a,b⟩=>⟨h vs H Q E a,b⟩⟩⟩
theorem nj.union {I:Type}{k:Nat}{J:I->Hp->o?->Prop}{m:Str}{ps:List Str}{sp:I->Sp}(M:∀i,nj P w K mg base k (J i) m ps (sp i))(hs:∀i vs H Q E,sp i vs H Q E->∃a,vs.head?=j? (.ref a)/\J i H a):
  nj P w K mg base k (λH a=>∃i,J i H a) m ps (λvs H Q E=>∃i,sp i vs H Q E):=⟨λH a ⟨i,j⟩=>by
 obtain⟨C,dx,fs,f,fd,h1,h2,h3,h4,h5,h6,F⟩:=(M i).ex H a j;refine⟨C,dx,fs,f,fd,h1,h2,h3,h4,h5,h6,?_⟩
 have key:∀(i':I) (vs:List V) (H:Hp) (a:o?),J i' H a->(∃dx fs,H a=j? (.ins C dx fs))->iP P w K mg base z4 k f fd ps (Uz C (sp i')):=λi' vs H a j' ⟨JV,fs',e'⟩=>by
  obtain⟨C2,ZM,fs2,f2,fd2,k1,k2,k3,k4,k5,k6,F2⟩:=(M i').ex H a j';rw[e'] at k1;obtain⟨rfl,_,_⟩:C=C2/\JV=ZM/\fs'=fs2:=by
   injection k1 with k1
   injection k1 with a1 a2 a3
   exact⟨a1,a2,a3⟩
  obtain rfl:f=f2:=by
   have:=h4.at_.symm.trans k4.at_
   injection this with this
   injection this with this
   injection this
  obtain rfl:=h5.uniq k5
  exact F2
 refine⟨λvs H Q E ⟨⟨i',s'⟩,a',JV,fs',hh,e'⟩=>?_,λA outer s H args us vs Q E hr he hb hv ⟨⟨i',s'⟩,a',JV,fs',hh,e'⟩=>?_⟩
 ·obtain⟨a2,h2',j2⟩:=hs i' vs H Q E s'
  rw[hh] at h2';cases h2';exact(key i' vs H a' j2 ⟨_,_,e'⟩).len vs H Q E ⟨s',a',JV,fs',hh,e'⟩
 ·obtain⟨a2,h2',j2⟩:=hs i' vs H Q E s'
  rw[hh] at h2';cases h2';exact(key i' vs H a' j2 ⟨_,_,e'⟩).run A outer s H args us vs Q E hr he hb hv ⟨s',a',JV,fs',hh,e'⟩⟩
theorem iP.union {I:Type}{k:Nat}{f:o?}{fd:T!}{ps:List Str}{sp:I->Sp}(F:∀i,iP P w K mg base z4 k f fd ps (sp i)):iP P w K mg base z4 k f fd ps (λvs H Q E=>∃i,sp i vs H Q E):=
 ⟨λvs H Q E ⟨i,h⟩=>(F i).len vs H Q E h,λA outer s H args us vs Q E hr he hb hv ⟨i,h⟩=>(F i).run A outer s H args us vs Q E hr he hb hv h⟩
theorem P8 {m qual:Str}{st:R?}{ps:List Str}{f:o?}{oc:l?}{od an:Option o?}{osl:Array (Option l?)}{kV doc pm cdv ct:l?}
  (a:M? K (.ref C) m=j? (j? (.ref f))) (i:PySem.W.isFn K (.ref f)=true) (l:K.lookup f=j? ⟨oc,od,.func (Z? m qual (cV st) (bY st) (aj st) .none kV doc pm an cdv ct),osl⟩) (c:U! K cdv qual=true) (k:E! K (.ref f)=true)
  (hb:∀(kV doc pm:l?) (an:Option o?) (cdv ct:l?) (us:List l?),us.length=ps.length->bindArgs (Z? m qual (cV st) (bY st) (aj st) .none kV doc pm an cdv ct) ⟨us,[]⟩=pure (ps.zip us)):bG K C m qual st ps:=
 ⟨f,_,p9 l c k,(p9 l c k).binds hb,⟨a,i,k⟩⟩
end
abbrev Kind:=Hp->o?->cj->Prop
abbrev JJ (J:Kind):Hp->o?->Prop:=λH a=>∃T,J H a T
inductive MX (J:Kind)(c:∀T:cj,T.α)(vs:List V)(H:Hp)(Q:VK)(iS:XK):Prop where
 | mk (a:o?) (T:cj) (c5:vs=[.ref a]) (c6:J H a T) (dS:∀r H',ay H H'->Rep H' (bL H) r (T.enc (c T))->Q r H')
abbrev Eg (J:Kind):Sp:=MX J λT=>0
abbrev Dj (J:Kind):Sp:=MX J λT=>1
inductive JW (J:Kind)(op:∀T:cj,T.α->T.α->T.α)(vs:List V)(H:Hp)(Q:VK)(iS:XK):Prop where
 | mk (a:o?) (T:cj) (u v:V) (x y:T.α) (c5:vs=[.ref a,u,v]) (c6:J H a T) (dS:Rep H Any u (T.enc x)) (fT:Rep H Any v (T.enc y)) (jv:∀r H',ay H H'->Rep H' (bL H) r (T.enc (op T x y))->Q r H')
abbrev Eh (J:Kind):Sp:=JW J λT x y=>x+y
abbrev zF (J:Kind):Sp:=JW J λT x y=>x-y
abbrev zG (J:Kind):Sp:=JW J λT x y=>x*y
inductive Aa (J:Kind)(vs:List V)(H:Hp)(Q:VK)(iS:XK):Prop where
 | mk (a:o?) (T:cj) (u:V) (x:T.α) (c5:vs=[.ref a,u]) (c6:J H a T) (dS:Rep H Any u (T.enc x)) (fT:x≠0) (jv:∀r H' y,x*y=1->ay H H'->Rep H' (bL H) r (T.enc y)->Q r H')
inductive ve (J:Kind)(vs:List V)(H:Hp)(Q:VK)(iS:XK):Prop where
 | mk (a:o?) (T:cj) (u:V) (x:T.α) (c5:vs=[.ref a,u]) (c6:J H a T) (dS:Rep H Any u (T.enc x)) (fT:(x=0->∀H',ay H H'->Q (.bl true) H')) (jv:(x≠0->∀H',ay H H'->Q (.bl false) H'))
inductive JX (J:Kind)(vs:List V)(H:Hp)(Q:VK)(iS:XK):Prop where
 | mk (a:o?) (T:cj) (c5:vs=[.ref a]) (c6:J H a T) (dS:∀H',ay H H'->Q (.int (T.d:Int)) H')
inductive rF (J:Kind)(vs:List V)(H:Hp)(Q:VK)(iS:XK):Prop where
 | mk (a:o?) (T:cj) (u:V) (x:T.α) (n:Nat) (c5:vs=[.ref a,u,.int (n:Int)]) (c6:J H a T) (dS:Rep H Any u (T.enc x)) (fT:n<2 ^ 400) (jv:∀r H',ay H H'->Rep H' (bL H) r (T.enc (x ^ n))->Q r H')
structure TwO (P:F?)(w:H?)(K:bK)(mg:Str->Option l?)(base:Q?)(k:Nat)(J:Kind):Prop where
 mono:∀ {H H':Hp} {a:o?} {T:cj},ay H H'->J H a T->J H' a T
 fld:∀ {H:Hp} {a:o?} {T:cj},J H a T->∃C dx fs,H a=j? (.ins C dx fs)/\G8 K C/\iA K C "p"/\fs.lookup ("p":Str)=j? (V.int (T.p:Int))
 bd:∀ {H:Hp} {a:o?} {T:cj},J H a T->T.d<=12/\T.ht<=5
 d1:∀ {H:Hp} {a:o?} {T:cj},J H a T->1<=T.d
 degree:nj P w K mg base k (JJ J) "degree" ["self"] (JX J)
 zero:nj P w K mg base k (JJ J) "zero" ["self"] (Eg J)
 one:nj P w K mg base k (JJ J) "one" ["self"] (Dj J)
 plus:nj P w K mg base k (JJ J) "plus" ["self","u","v"] (Eh J)
 minus:nj P w K mg base k (JJ J) "minus" ["self","u","v"] (zF J)
 times:nj P w K mg base k (JJ J) "times" ["self","u","v"] (zG J)
 eY:nj P w K mg base k (JJ J) "is_nought" ["self","u"] (ve J)
structure TwB (P:F?)(w:H?)(K:bK)(mg:Str->Option l?)(base:Q?)(k:Nat)(J:Kind):Prop extends TwO P w K mg base k J where
 back:nj P w K mg base k (JJ J) "back" ["self","u"] (Aa J)
structure ZN (P:F?)(w:H?)(K:bK)(mg:Str->Option l?)(base:Q?)(k:Nat)(J:Kind):Prop extends TwO P w K mg base k J where
 power:nj P w K mg base k (JJ J) "power" ["self","u","n"] (rF J)
theorem TwO.up {P:F?}{w:H?}{K:bK}{mg:Str->Option l?}{base:Q?}{j k:Nat}{J:Kind}(O:TwO P w K mg base j J)(h:j<=k):TwO P w K mg base k J:=
 ⟨O.mono,O.fld,O.bd,O.d1,O.degree.mono h,O.zero.mono h,O.one.mono h,O.plus.mono h,O.minus.mono h,O.times.mono h,O.eY.mono h⟩
theorem TwB.up {P:F?}{w:H?}{K:bK}{mg:Str->Option l?}{base:Q?}{j k:Nat}{J:Kind}(O:TwB P w K mg base j J)(h:j<=k):TwB P w K mg base k J:=⟨O.toTwO.up h,O.back.mono h⟩
def SR (b q:o?)(p:Nat):List (Str×V):=[("floor",.ref b),("p",.int (p:Int)),("part",.ref q)]
def Vt (p:Nat):List (Str×V):=[("p",.int (p:Int))]
def Vu (T:cj)(M:Md T.α):El:=.vec ((Yi (M.n+1)).map λi=>T.enc (M.f.c i))
inductive IsT (CG CS:o?):Nat->Kind where
 | gr {H:Hp} {a dx:o?} {p:Nat} (hp:p∈PR) (h:H a=j? (.ins CG dx (Vt p))):IsT CG CS 0 H a (ground p hp)
 | st {n:Nat} {H:Hp} {a b q dx:o?} {T:cj} {M:Md T.α} (al:yl T M) (h:H a=j? (.ins CS dx (SR b q T.p))) (f:IsT CG CS n H b T) (r:Rep H Any (.ref q) (Vu T M)) (hd:T.d*M.n<=12) (hn:M.n<=100):IsT CG CS (n+1) H a (T.up M al hn)
theorem IsT.mono(g:ay H H')(h:IsT CG CS n H a T):IsT CG CS n H' a T:=by
 induction h with
 | gr hp h=>exact .gr hp (g _ _ h)
 | st al h _ r hd hn ih=>exact .st al (g _ _ h) (ih g) (r.same g) hd hn
theorem IsT.ht(h:IsT CG CS n H a T):T.ht=n:=by
 induction h with
 | gr hp h=>rfl
 | @st n H a b q dx T M al h f r hd hn ih=>show T.ht+1=n+1;rw[ih]
theorem IsT.d(h:IsT CG CS n H a T):1<=T.d/\T.d<=12:=by
 induction h with
 | gr hp h=>exact⟨Yd _,by show 1<=12;decide⟩
 | @st n H a b q dx T M al h f r hd hn ih=>exact⟨Wr ih.1 M.pos,hd⟩
theorem ZO:(SR b q p).lookup ("p":Str)=j? (.int (p:Int)):=by rfl
theorem dO:(SR b q p).lookup ("floor":Str)=j? (.ref b):=by rfl
theorem Ei:(SR b q p).lookup ("part":Str)=j? (.ref q):=by rfl
theorem Io:(Vt p).lookup ("p":Str)=j? (.int (p:Int)):=by rfl
structure L0 (K:bK)(CG:o?):Prop where
 cl:G8 K CG
 nP:iA K CG "p"
section
variable {P:F?} {w:H?} {K:bK} {mg:Str->Option l?} {base:Q?} {CG CS:o?}
abbrev Gr (CG:o?):Hp->o?->(p:Nat)->Prop:=λH a p=>∃dx,H a=j? (.ins CG dx (Vt p))
inductive P9 (CG:o?)(n:Nat->Int)(vs:List V)(H:Hp)(Q:VK)(iS:XK):Prop where
 | mk (a:o?) (p:Nat) (c5:vs=[.ref a]) (c6:Gr CG H a p) (dS:Q (.int (n p)) H)
inductive P_ (CG:o?)(op:Int->Int->Int)(vs:List V)(H:Hp)(Q:VK)(iS:XK):Prop where
 | mk (a:o?) (p x y:Nat) (c5:vs=[.ref a,.int (x:Int),.int (y:Int)]) (c6:Gr CG H a p) (dS:2<=p) (fT:p<50) (jv:x<p) (pZ:y<p) (wA:Q (.int (op (x:Int) (y:Int) % (p:Int))) H)
theorem um (i)(p:Nat):i.fmod (p:Int)=i % (p:Int):=Int.fmod_eq_emod_of_nonneg i (Int.natCast_nonneg p)
inductive Qa (CG:o?)(vs:List V)(H:Hp)(Q:VK)(iS:XK):Prop where
 | mk (a:o?) (p x:Nat) (c5:vs=[.ref a,.int (x:Int)]) (c6:Gr CG H a p) (dS:Q (.bl (decide (x=0))) H)
theorem IsT.Ab(h:IsT CG CS 0 H a T):∃p,∃hp:p∈PR,T=ground p hp/\Gr CG H a p:=by
 cases h with
 | gr hp h=>exact⟨_,hp,rfl,_,h⟩
theorem Ej(h:Rep H ok u ((ground p hp).enc x)):u=.int ((show Zp p from x).v:Int):=by
 have h:Rep H ok u (.num ((show Zp p from x).v:Int)):=h
 cases h;rfl
theorem Ir {op:∀T:cj,T.α->T.α->T.α}{oi:Int->Int->Int}{m:Str}(h:∀(p:Nat) (hp:p∈PR) (x y:Zp p),oi (x.v:Int) (y.v:Int) % (p:Int)=((show Zp p from op (ground p hp) x y).v:Int))
  {k:Nat} (M:jy P w K mg base k CG m ["self","u","v"] (P_ CG oi)):jy P w K mg base k CG m ["self","u","v"] (Uz CG (JW (IsT CG CS 0) op)):=by
 refine M.imp λvs H Q E ⟨⟨a,T,u,v,x,y,e,j,ru,rv,q⟩,_⟩=>?_
 obtain⟨p,hp,rfl,g⟩:=j.Ab;rw[Ej ru,Ej rv] at e;have pp:=bM hp;refine⟨a,p,_,_,e,g,pp.1,pp.2,(show Zp p from x).lt,(show Zp p from y).lt,?_⟩
 rw[h p hp];exact q _ H (ay.refl H) (.num _)
theorem MY {c:∀T:cj,T.α}{n:Nat->Int}{m:Str}(h:∀(p:Nat) (hp:p∈PR),n p=((show Zp p from c (ground p hp)).v:Int)){k:Nat}(M:jy P w K mg base k CG m ["self"] (P9 CG n)):jy P w K mg base k CG m ["self"] (Uz CG (MX (IsT CG CS 0) c)):=by
 refine M.imp λvs H Q E ⟨⟨a,T,e,j,q⟩,_⟩=>?_
 obtain⟨p,hp,rfl,g⟩:=j.Ab;refine⟨a,p,e,g,?_⟩
 rw[h p hp];exact q _ H (ay.refl H) (.num _)
theorem iZ {m:Str}{ps:List Str}{sp:Sp}{k:Nat}(c:L0 K CG)(hm:m≠"p")(M:jy P w K mg base k CG m ps (Uz CG sp)):nj P w K mg base k (JJ (IsT CG CS 0)) m ps sp:=by
 refine .of λH a ⟨T,j⟩=>?_
 obtain⟨p,hp,rfl,dx,g⟩:=j.Ab;refine⟨CG,dx,_,g,?_,c.cl,M⟩
 show(match m ==("p":Str) with|true=>j? _|false=>_)=q?
 rw[beq_eq_false_iff_ne.mpr hm];rfl
end
def vf (n:Nat)(e:Nat->El):El:=.vec ((Yi n).map e)
theorem dW (l):El.vec l=vf l.length λi=>l.getD i (.num 0):=by
 unfold vf;congr 1
 apply List.ext_getElem?
 intro i;by_cases h:i<l.length
 ·rw[Yh,Yy h,Ya h]
  show j? _=j? (l.getD i (.num 0))
  rw[Yb,Ya h];rfl
 ·rw[List.getElem?_eq_none_iff.mpr (by omega),List.getElem?_eq_none_iff.mpr (by rw[Yc,Yv];omega)]
structure Cf (H:Hp)(ok:o?->Prop)(vs:List V)(n:Nat)(e:Nat->El):Prop where
 len:vs.length=n
 at_:∀i,i<n->∃v,vs[i]?=j? v/\Rep H ok v (e i)
theorem Cf.rep(C:Cf H ok vs n e)(h:H a=j? (.lst vs))(k:ok a):Rep H ok (.ref a) (vf n e):=by
 refine .vec h k (by rw[C.len,Yc,Yv]) λi x d h1 h2=>?_
 have hi:i<n:=by rw[<- C.len];exact(List.getElem?_eq_some_iff.mp h1).1
 obtain⟨v,h3,r⟩:=C.at_ i hi;rw[h1] at h3;cases h3;rw[Yh,Yy hi] at h2;cases h2;exact r
theorem Rep.cf(R:Rep H ok v (vf n e)):∃a vs,v=.ref a/\H a=j? (.lst vs)/\ok a/\Cf H ok vs n e:=by
 unfold vf at R;cases R with
 | @vec a vs l h k hl r=>
  rw[Yc,Yv] at hl;refine⟨a,vs,rfl,h,k,hl,λi hi=>?_⟩
  refine⟨vs[i]'(by omega),Ya (by omega),r i _ _ (Ya (by omega)) ?_⟩
  rw[Yh,Yy hi];rfl
theorem Cf.imp(C:Cf H ok vs n e)(f:∀b o,H b=j? o->ok b->H' b=j? o/\ok' b):Cf H' ok' vs n e:=
 ⟨C.len,λi hi=>let ⟨v,h,r⟩:=C.at_ i hi;⟨v,h,r.imp f⟩⟩
theorem Cf.same(C:Cf H ok vs n e)(g:ay H H'):Cf H' ok vs n e:=C.imp λb o h k=>⟨g b o h,k⟩
theorem Cf.nil:Cf H ok [] 0 e:=⟨rfl,λi hi=>by omega⟩
theorem Cf.push(C:Cf H ok vs n e)(R:Rep H ok v (e n)):Cf H ok (vs++[v]) (n+1) e:=by
 refine⟨by rw[Yk,C.len];rfl,λi hi=>?_⟩
 by_cases h:i<n
 ·obtain⟨x,h1,h2⟩:=C.at_ i h
  exact⟨x,by rw[Yx (by rw[C.len];exact h)];exact h1,h2⟩
 ·have:i=n:=by omega
  subst this;exact⟨v,by rw[<- C.len,Zc],R⟩
theorem Cf.congr(C:Cf H ok vs n e)(h:∀i,i<n->e i=d i):Cf H ok vs n d:=⟨C.len,λi hi=>by rw[<- h i hi];exact C.at_ i hi⟩
theorem Cf.take(C:Cf H ok vs n e)(h:m<=n):Cf H ok (vs.take m) m e:=
 ⟨by rw[Y9,C.len];omega,λi hi=>by
  obtain⟨v,h1,h2⟩:=C.at_ i (by omega)
  exact⟨v,by rw[List.getElem?_take_of_lt hi];exact h1,h2⟩⟩
theorem Cf.set(C:Cf H ok vs n e)(hj:j<n)(R:Rep H ok v x):Cf H ok (vs.set j v) n λi=>if i=j then x else e i:=by
 refine⟨by rw[List.length_set];exact C.len,λi hi=>?_⟩
 by_cases h:i=j
 ·subst h
  refine⟨v,?_,by rw[Wx rfl];exact R⟩
  rw[List.getElem?_set_self (by rw[C.len];exact hi)]
 ·obtain⟨y,h1,h2⟩:=C.at_ i hi
  exact⟨y,by rw[List.getElem?_set_ne (λz=>h z.symm)];exact h1,by rw[Ww h];exact h2⟩
theorem Cf.append(C:Cf H ok vs n e)(D:Cf H ok ws m d):Cf H ok (vs++ws) (n+m) λi=>if i<n then e i else d (i-n):=by
 refine⟨by rw[Yk,C.len,D.len],λi hi=>?_⟩
 by_cases h:i<n
 ·obtain⟨x,h1,h2⟩:=C.at_ i h
  exact⟨x,by rw[Yx (by rw[C.len];exact h)];exact h1,by rw[Wx h];exact h2⟩
 ·obtain⟨x,h1,h2⟩:=D.at_ (i-n) (by omega)
  exact⟨x,by rw[Ze (by rw[C.len];omega),C.len];exact h1,by rw[Ww h];exact h2⟩
theorem Cf.get(C:Cf H ok vs n e)(h:vs[i]?=j? v):i<n/\Rep H ok v (e i):=by
 have hi:i<n:=by rw[<- C.len];exact(List.getElem?_eq_some_iff.mp h).1
 obtain⟨x,h1,h2⟩:=C.at_ i hi;rw[h] at h1;cases h1;exact⟨hi,h2⟩
abbrev Off (H:Hp)(D:o?):o?->Prop:=λb=>H b=q?/\b≠D
theorem Cf.upd {H H':Hp}{D:o?}{vs:List V}{n:Nat}{e:Nat->El}{o:HO}(C:Cf H' (Off H D) vs n e):Cf (upd H' D o) (Off H D) vs n e:=C.imp λb u h k=>⟨by rw[aH k.2];exact h,k⟩
theorem Rep.vg(R:Rep H' (bL H1) v e)(g:ay H H1)(hD:H1 D=j? o):Rep H' (Off H D) v e:=R.imp λb u h k=>⟨h,g.free k,λz=>by rw[z] at k;rw[show H1 D=q? from k] at hD;cases hD⟩
theorem Cf.Ek(C:Cf H' (Off H D) vs n e):Cf H' (bL H) vs n e:=C.imp λb u h k=>⟨h,k.1⟩
theorem JY (xs)(k:Nat)(h:k<=xs.length):oX xs q? (j? (k:Int))=xs.take k:=by
 unfold oX;have e1:HT.zY xs.length 0 q?=0:=rfl;have e2:HT.zY xs.length xs.length (j? (k:Int))=k:=by rw[HT.zC];omega
 rw[e1,e2];simp
theorem qe{v:V}(h:xs.length=n+1)(hv:xs[n]?=j? v):HW xs (-1)=j? v:=by
 unfold HW Mv;rw[Ww (by decide),Wx (by omega)]
 have e:(-1+(xs.length:Int)).toNat=n:=by omega
 show xs[(-1+(xs.length:Int)).toNat]?=_
 rw[e];exact hv
def rG (σ:St)(i:Nat)(H:Hp):Nat:=match σ[i]? with
 | some (j? (.ref b))=>(match H b with
  | some (.lst xs)=>xs.length
  | _=>0)
 | _=>0
theorem o_(h:σ[i]?=j? (j? (.ref b)))(hb:H b=j? (.lst xs)):rG σ i H=xs.length:=by
 unfold rG;rw[h];simp only
 rw[hb]
theorem vh (l:Nat):((l:Int)).fmod 2=((l % 2:Nat):Int):=by
 rw[Int.fmod_eq_emod_of_nonneg _ (by decide)];omega
theorem F8 (l:Nat):((l:Int)).fdiv 2=((l / 2:Nat):Int):=by
 rw[Int.fdiv_eq_ediv_of_nonneg _ (by decide)];omega
theorem Ac(h:j<n):Mv n (j:Int)=j? j:=by
 rw[P6 (by omega) (by omega)];rfl
abbrev aT (T:cj)(n:Nat)(s:aF T.α):El:=vf n λi=>T.enc (s.c i)
structure Nz (T:cj)(n:Nat)(s:aF T.α):Prop where
 dg:Dg s n
 last:n=0\/s.c (n-1)≠0
theorem nu(hm:m<=100)(h:∀i,uh n (e i)):uh (n+1) (vf m e):=.vec (by rw[Yc,Yv];exact hm) λd hd=>by
 obtain⟨i,_,rfl⟩:=List.mem_map.mp hd;exact h i
theorem cO (T)(hn:n<=100)(s):uh (T.ht+1) (aT T n s):=nu hn λi=>T.fl _
theorem gQ(h:vf n e=vf m d):n=m/\∀i,i<n->e i=d i:=by
 unfold vf at h;injection h with h
 have hn:n=m:=by
  have:=W1 List.length h
  simpa using this
 subst hn;refine⟨rfl,λi hi=>?_⟩
 have:=W1 (λl=>l[i]?) h
 simp only[Yh] at this
 rw[Yy hi] at this;exact N? this
theorem F9{s t:aF T.α}(hs:Dg s n)(ht:Dg t m)(h:aT T n s=aT T m t):n=m/\s=t:=by
 obtain⟨rfl,h2⟩:=gQ h;refine⟨rfl,?_⟩
 apply aF.ext;funext i
 by_cases hi:i<n
 ·exact T.inj _ _ (h2 i hi)
 ·rw[hs i (by omega),ht i (by omega)]
theorem Nz.uniq{s:aF T.α}(h:Nz T n s)(k:Nz T m s):n=m:=by
 rcases Nat.lt_trichotomy n m with z|z|z
 ·rcases k.last with y|y
  ·omega
  ·exact W3 (h.dg _ (by omega)) y
 ·exact z
 ·rcases h.last with y|y
  ·omega
  ·exact W3 (k.dg _ (by omega)) y
section
variable {P:F?} {w:H?} {K:bK} {mg:Str->Option l?} {base:Q?} {k:Nat} {J:L2.Kind}
theorem kH (Jp:Hp->Prop)(mono:∀ {H H':Hp},ay H H'->Jp H->Jp H'){T:cj}{lo:Int}(ja:Jp H1)(hD:H1 D=q?)(hn:n<=1000)
  (SS:∀y H2 R,Jp H2->(∀r H3,ay H2 H3->Rep H3 (bL H2) r (T.enc 0)->R r H3)->te [j? y,j? v] H2 R)
  (q:∀ys H2,ay H1 H2->H2 D=j? (.lst ys)->Cf H2 (Off H1 D) ys n (λ_=>T.enc 0)->Q (.ref D) H2):tS (OT lo n) D [q?,j? v] (gG 0) MD te Q H1:=by
 refine dN (λi ys H2=>ay H1 H2/\Cf H2 (Off H1 D) ys i λ_=>T.enc 0) ⟨av hD _,.nil⟩ ?_ ?_
 ·rintro i m ys H2 hm hi hy hlen ⟨gg,cy⟩
  refine SS _ _ _ (mono gg ja) λr H3 g3 rr=>?_
  refine CW.emit hm hi (by rw[C?];omega) (g3 _ _ hy) hlen ⟨ay.aJ (gg.trans g3) hD _,?_⟩
  exact((cy.same g3).push (rr.vg gg hy)).upd
 ·rintro ys H2 hy ⟨gg,cy⟩
  exact q _ _ gg hy cy
theorem mH (mono:∀ {H H':Hp} {a:o?} {T:cj},ay H H'->J H a T->J H' a T){lo:Int}(ja:J H1 a T)(hD:H1 D=q?)(hn:n<=1000)
  (SS:∀y H2 R,J H2 a T->(∀r H3,ay H2 H3->Rep H3 (bL H2) r (T.enc 0)->R r H3)->te [j? y,j? (.ref a)] H2 R)
  (q:∀ys H2,ay H1 H2->H2 D=j? (.lst ys)->Cf H2 (Off H1 D) ys n (λ_=>T.enc 0)->Q (.ref D) H2):tS (OT lo n) D [q?,j? (.ref a)] (gG 0) MD te Q H1:=
 kH (λH=>J H a T) (λg h=>mono g h) ja hD hn SS q
theorem rH (Jp:Hp->Prop)(mono:∀ {H H':Hp},ay H H'->Jp H->Jp H'){v:V}{l1 l2:o?}{n:Nat}{xs ys:List V}{c d e:Nat->El}{D:o?}{H1:Hp}{Q:VK}{te:TE}(ja:Jp H1)(h1:H1 l1=j? (.lst xs))(h2:H1 l2=j? (.lst ys))
  (cx:Cf H1 Any xs n c) (cy:Cf H1 Any ys n d) (hD:H1 D=q?) (hn:n<=1000)
  (SS:∀i x y H2 R,i<n->Jp H2->Rep H2 Any x (c i)->Rep H2 Any y (d i)->(∀r H3,ay H2 H3->Rep H3 (bL H2) r (e i)->R r H3)->te [j? x,j? y,j? v] H2 R)
  (q:∀zs H2,ay H1 H2->H2 D=j? (.lst zs)->Cf H2 (Off H1 D) zs n e->Q (.ref D) H2):tS (Rx K l1 l2) D [q?,q?,j? v] (Pk K 2 (FL (gG 0) (FL (gG 1) R6))) MD te Q H1:=by
 refine F6 (xs:=xs) (ys:=ys) (λi zs H2=>ay H1 H2/\Cf H2 (Off H1 D) zs i e) (by rw[cx.len,cy.len]) ⟨av hD _,.nil⟩ (λi zs H2 _ h=>⟨aU.of (h.1 _ _ h1),aU.of (h.1 _ _ h2)⟩) ?_ ?_
 ·rintro i m x y zs H2 r hm hi hx hy hz hlen ⟨gg,cz⟩ hr
  have kr:=av hr (.tup [x,y]);refine⟨r,_,rfl,iR.of aq,rfl,_,_,rfl,_,_,rfl,rfl,?_⟩
  obtain⟨hi',rx⟩:=cx.get hx;obtain⟨_,ry⟩:=cy.get hy;refine SS i x y _ _ hi' (mono (gg.trans kr) ja) (rx.same (gg.trans kr)) (ry.same (gg.trans kr)) λr2 H3 g3 rr=>?_
  refine CW.emit hm hi (by rw[cx.len,C?];omega) (g3 _ _ (kr _ _ hz)) hlen ⟨ay.aJ ((gg.trans kr).trans g3) hD _,?_⟩
  exact((cz.same (kr.trans g3)).push (rr.vg (gg.trans kr) (kr _ _ hz))).upd
 ·rintro zs H2 hz ⟨gg,cz⟩
  rw[cx.len] at cz;exact q _ _ gg hz cz
theorem Iu (mono:∀ {H H':Hp} {a:o?} {T:cj},ay H H'->J H a T->J H' a T){a l1 l2:o?}{T:cj}{n:Nat}{xs ys:List V}{c d e:Nat->El}{D:o?}{H1:Hp}{Q:VK}{te:TE}(ja:J H1 a T)(h1:H1 l1=j? (.lst xs))(h2:H1 l2=j? (.lst ys))
  (cx:Cf H1 Any xs n c) (cy:Cf H1 Any ys n d) (hD:H1 D=q?) (hn:n<=1000)
  (SS:∀i x y H2 R,i<n->J H2 a T->Rep H2 Any x (c i)->Rep H2 Any y (d i)->(∀r H3,ay H2 H3->Rep H3 (bL H2) r (e i)->R r H3)->te [j? x,j? y,j? (.ref a)] H2 R)
  (q:∀zs H2,ay H1 H2->H2 D=j? (.lst zs)->Cf H2 (Off H1 D) zs n e->Q (.ref D) H2):tS (Rx K l1 l2) D [q?,q?,j? (.ref a)] (Pk K 2 (FL (gG 0) (FL (gG 1) R6))) MD te Q H1:=
 rH (λH=>J H a T) (λg h=>mono g h) ja h1 h2 cx cy hD hn SS q
end
section
variable {α:Type} [Lean.Grind.CommRing α]
open Lean.Grind
def rJ (s t:aF α):Nat->Nat->α
 | 0,_=>0
 | i+1,m=>rJ s t i m+(if i<=m then s.c i*t.c (m-i) else 0)
def pA (s t:aF α)(i j m:Nat):α:=rJ s t i m+(if i<=m/\m-i<j then s.c i*t.c (m-i) else 0)
def tr (s:aF α)(n:Nat):aF α:=⟨λi=>if i<n then s.c i else 0⟩
theorem SV {s:aF α}(h:Dg s n):tr s n=s:=by
 apply aF.ext;funext i
 show(if i<n then s.c i else 0)=s.c i
 by_cases c:i<n
 ·rw[Wx c]
 ·rw[Ww c,h i (by omega)]
theorem JZ (s t:aF α)(m:Nat):∀i,rJ s t i m=(tr s i*t).c m
 | 0=>by
  have:tr s 0=0:=by apply aF.ext;funext i;show(if i<0 then s.c i else 0)=0;rw[Ww (by omega)]
  rw[this];have e:(0:aF α)*t=0:=by grind
  rw[e];rfl
 | i+1=>by
  have:tr s (i+1)=tr s i+mon (s.c i) i:=by
   apply aF.ext;funext j
   rw[nk];show(if j<i+1 then s.c j else 0)=(if j<i then s.c j else 0)+(if j=i then s.c i else 0)
   by_cases a:j<i
   ·rw[Wx a,Wx (by omega),Ww (by omega)];grind
   ·by_cases b:j=i
    ·rw[Ww a,Wx b,Wx (by omega),b];grind
    ·rw[Ww a,Ww b,Ww (by omega)];grind
  have e:(tr s i+mon (s.c i) i)*t=tr s i*t+mon (s.c i) i*t:=by grind
  rw[this,e,nk,lM,<- JZ s t m i];rfl
theorem Ad {s t:aF α}(h:Dg s n)(m):rJ s t n m=(s*t).c m:=by rw[JZ,SV h]
theorem uo (s t:aF α)(i m):pA s t i 0 m=rJ s t i m:=by
 unfold pA;rw[Ww (by omega)];grind
theorem wH {s t:aF α}(h:Dg t n)(i m):pA s t i n m=rJ s t (i+1) m:=by
 show rJ s t i m+_=rJ s t i m+_
 by_cases a:i<=m
 ·by_cases b:m-i<n
  ·rw[Wx ⟨a,b⟩,Wx a]
  ·rw[Ww (λz=>b z.2),Wx a,h _ (by omega)];grind
 ·rw[Ww (λz=>a z.1),Ww a]
theorem uq (s t:aF α)(i j m):pA s t i (j+1) m=if m=i+j then pA s t i j m+s.c i*t.c j else pA s t i j m:=by
 unfold pA;by_cases a:m=i+j
 ·rw[Wx a,Wx (by omega),Ww (by omega)]
  have:m-i=j:=by omega
  rw[this];grind
 ·rw[Ww a]
  by_cases b:i<=m/\m-i<j
  ·rw[Wx b,Wx (by omega)]
  ·rw[Ww b,Ww (by omega)]
theorem yo {s t:aF α}(h:s.c i=0)(m):rJ s t (i+1) m=rJ s t i m:=by
 show rJ s t i m+_=_
 rw[h];split <;> grind
end
section
variable {α:Type} [Lean.Grind.CommRing α]
open Lean.Grind
def nv (f ρ:aF α)(M n:Nat):aF α:=ρ-mon (ρ.c (M-1)) (M-1-n)*f
theorem zH (f ρ:aF α)(M n i):(nv f ρ M n).c i=ρ.c i-(if M-1-n<=i then ρ.c (M-1)*f.c (i-(M-1-n)) else 0):=by
 unfold nv;rw[qV,lM]
theorem F_ {f ρ:aF α}(hf:Alg.bH f n)(h:n<M)(d:Dg ρ M):Dg (nv f ρ M n) (M-1):=λi hi=>by
 rw[zH,Wx (by omega)]
 by_cases e:i=M-1
 ·have:i-(M-1-n)=n:=by omega
  rw[this,hf.top,e];grind
 ·rw[d i (by omega),hf.dg _ (by omega)];grind
theorem MZ {f ρ x s:aF α}(hs:s=x*f+ρ):s=(x+mon (ρ.c (M-1)) (M-1-n))*f+nv f ρ M n:=by
 unfold nv;rw[hs];grind
theorem M0 (f ρ:aF α)(M n):Cg f ρ (nv f ρ M n):=⟨mon (ρ.c (M-1)) (M-1-n),⟨_,Dg.mon _ _⟩,by unfold nv;grind⟩
theorem J1 (y:α)(k i):(mon y k).c i=if i=k then y else 0:=rfl
theorem Qc{y:α}(hM:M<=N)(h:n<M)(UA:∀i,i<M-n->x.c i=0)(hi:i<M-1-n):(x+mon y (M-1-n)).c i=0:=by
 rw[nk,J1,Ww (by omega),UA i (by omega)];grind
theorem Ga{y:α}(hM:M<=N)(h:n<M)(UA:∀i,i<M-n->x.c i=0):(x+mon y (M-1-n)).c (N-n-1-(N-M))=y:=by
 have e:N-n-1-(N-M)=M-1-n:=by omega
 rw[e,nk,J1,Wx rfl,UA _ (by omega)];grind
theorem Iv{y:α}(hM:M<=N)(h:n<M)(hj:j<N-M):(x+mon y (M-1-n)).c (N-n-1-j)=x.c (N-n-1-j):=by
 rw[nk,J1,Ww (by omega)];grind
theorem Lb{y:α}(hM:M<=N)(h:n<M)(d:Dg x (N-n)):Dg (x+mon y (M-1-n)) (N-n):=λi hi=>by
 rw[nk,J1,Ww (by omega),d i hi];grind
theorem vj {f ρ:aF α}(h:ρ.c (M-1)=0):(nv f ρ M n).c i=ρ.c i:=by
 rw[zH,h];split <;> grind
theorem Dk {f ρ:aF α}(h:i<M-1-n):(nv f ρ M n).c i=ρ.c i:=by
 rw[zH,Ww (by omega)];grind
theorem Gb {f ρ:aF α}:(nv f ρ M n).c (M-1-n+j)=ρ.c (M-1-n+j)-ρ.c (M-1)*f.c j:=by
 rw[zH,Wx (by omega)]
 have:M-1-n+j-(M-1-n)=j:=by omega
 rw[this]
end
def Vv (H H':Hp)(r:V)(n:Nat)(e:Nat->El):Prop:=∃a ys,r=.ref a/\H a=q?/\H' a=j? (.lst ys)/\Cf H' (Off H a) ys n e
theorem Cf.nW(C:Cf H ok vs n e)(h:∀b,ok b->b≠p):Cf (L2.upd H p o) ok vs n e:=C.imp λb u hb k=>⟨by rw[aH (h b k)];exact hb,k⟩
theorem Rep.nW(C:Rep H ok v e)(h:∀b,ok b->b≠p):Rep (L2.upd H p o) ok v e:=C.imp λb u hb k=>⟨by rw[aH (h b k)];exact hb,k⟩
abbrev vm (H:Hp)(p q:o?):o?->Prop:=λb=>H b=q?/\b≠p/\b≠q
theorem Rep.off2(R:Rep H' (bL H1) v e)(g:ay H H1)(hp:H1 p=j? o)(hq:H1 q=j? o'):Rep H' (vm H p q) v e:=R.imp λb u h k=>⟨h,g.free k,(λz=>by rw[z] at k;rw[show H1 p=q? from k] at hp;cases hp),(λz=>by rw[z] at k;rw[show H1 q=q? from k] at hq;cases hq)⟩
abbrev M1 (H:Hp)(ok:o?->Prop)(R:o?):o?->Prop:=λb=>(H b=q?\/ok b)/\b≠R
theorem Rep.okR(r:Rep H' (bL H1) v e)(g:ay H H1)(hR:H1 R=j? o):Rep H' (M1 H ok R) v e:=r.imp λb u h k=>⟨h,.inl (g.free k),λz=>by rw[z] at k;rw[show H1 R=q? from k] at hR;cases hR⟩
theorem Cf.rev(C:Cf H ok vs n e):Cf H ok vs.reverse n λi=>e (n-1-i):=by
 refine⟨by rw[List.length_reverse];exact C.len,λi hi=>?_⟩
 obtain⟨v,h1,h2⟩:=C.at_ (n-1-i) (by omega)
 refine⟨v,?_,h2⟩
 rw[List.getElem?_reverse (by rw[C.len];exact hi),C.len]
 exact h1
open Classical in
noncomputable def OW (n i:Nat):List Nat:=((Yi i).map λj=>j+2).filter λr=>decide (B4 r/\r ∣ n)
open Classical in
theorem Ae (n i):OW n (i+1)=if B4 (i+2)/\i+2 ∣ n then OW n i++[i+2] else OW n i:=by
 unfold OW;rw[Z7,Yr,List.filter_append];by_cases h:B4 (i+2)/\i+2 ∣ n
 ·rw[Wx h]
  simp[h]
 ·rw[Ww h]
  simp only[Z4,List.map_nil,List.filter_cons,List.filter_nil]
  rw[Ww (by simpa using h),Zy]
theorem Qe(h:1<=n)(r):r∈OW n (n-1)↔B4 r/\r ∣ n:=by
 unfold OW;rw[List.mem_filter,List.mem_map];constructor
 ·rintro⟨_,h2⟩
  simpa using h2
 ·intro h2
  refine⟨⟨r-2,List.mem_range.mpr ?_,?_⟩,by simpa using h2⟩
  ·have:=Nat.le_of_dvd (by omega) h2.2
   have:=h2.1.1
   omega
  ·have:=h2.1.1
   omega
theorem Qf (n i):(OW n i).length<=i:=by
 unfold OW;refine Ys (List.length_filter_le _ _) ?_
 rw[Yc,Yv];exact Yd _
theorem SW(h:2<=r):(((Yi (r-2)).map λj=>decide (r % (j+2)≠0)).all id=true)↔B4 r:=by
 rw[Zj];constructor
 ·intro a
  refine⟨h,λm hm=>?_⟩
  by_cases m1:m=1
  ·exact .inl m1
  ·refine .inr (Y? λc=>?_)
   have le:=Nat.le_of_dvd (by omega) hm
   have m0:m≠0:=λz=>by rw[z] at hm;have:=Nat.eq_zero_of_zero_dvd hm;omega
   have:=a (decide (r % (m-2+2)≠0)) (List.mem_map.mpr ⟨m-2,List.mem_range.mpr (by omega),rfl⟩)
   have e:m-2+2=m:=by omega
   rw[e] at this;have:=Wz this
   exact this (Nat.mod_eq_zero_of_dvd hm)
 ·intro p b hb
  obtain⟨j,hj,rfl⟩:=List.mem_map.mp hb;have hj:=List.mem_range.mp hj;refine Wy λz=>?_
  rcases p.2 (j+2) (Nat.dvd_of_mod_eq_zero z) with y|y <;> omega
theorem zI (a b:Nat):((a:Int)).fmod (b:Int)=((a % b:Nat):Int):=by
 rw[Int.fmod_eq_emod_of_nonneg _ (Int.natCast_nonneg b),Zv]
theorem zJ (a b:Nat):((a:Int)).fdiv (b:Int)=((a / b:Nat):Int):=by
 rw[Int.fdiv_eq_ediv_of_nonneg _ (Int.natCast_nonneg b),Int.natCast_ediv]
inductive kI (n:Nat)(vs:List V)(H:Hp)(Q:VK)(iS:XK):Prop where
 | mk (v:V) (e:El) (m:Nat) (c5:vs=[v]) (c6:n=m+1) (dS:uh m e) (fT:Rep H Any v e) (jv:∀r H',ay H H'->Rep H' (bL H) r e->(∀n d,e=vf n d->Vv H H' r n d)->Q r H')
theorem Src.none {P:F?}{w:H?}{K:bK}{mg:Str->Option l?}{base:Q?}{x:Str}{st:R?}{ps:List Str}(F:Src K mg x st ps):b8 P w K mg base 0 x ps (λ_ _ _ _=>False):=by
 obtain⟨f,fd,F,B,M⟩:=F.ex;exact⟨f,fd,⟨λ_ _ _ _ h=>h.elim,λ_ _ _ _ _ _ _ _ _ _ _ _ _ h=>h.elim⟩,B,F.kp,M⟩
inductive Af  (vs:List V)(H:Hp)(Q:VK)(iS:XK):Prop where
 | mk (k n:Nat) (c5:vs=[.int (k:Int),.int (n:Int)]) (c6:k<50) (dS:n<=100) (fT:Q (.int ((k ^ n:Nat):Int)) H)
section
variable (J:Kind)
inductive yp  (vs:List V)(H:Hp)(Q:VK)(iS:XK):Prop where
 | mk (a:o?) (T:cj) (v:V) (n:Nat) (s:aF T.α) (ok:o?->Prop) (c5:vs=[.ref a,v]) (c6:J H a T) (dS:Rep H ok v (aT T n s)) (fT:Dg s n) (jv:n<=100) (pZ:∀r m H',m<=n->Nz T m s->ay H H'->Rep H' (λb=>H b=q?\/ok b) r (aT T m s)->Q r H')
inductive pB  (vs:List V)(H:Hp)(Q:VK)(iS:XK):Prop where
 | mk (a:o?) (T:cj) (u v:V) (n m:Nat) (s t:aF T.α) (c5:vs=[.ref a,u,v]) (c6:J H a T) (dS:Rep H Any u (aT T n s)) (fT:Dg s n) (jv:n<=100) (pZ:Rep H Any v (aT T m t)) (wA:Dg t m) (Fe:m<=100) (M3:∀r k H',k<=max n m->Nz T k (s-t)->ay H H'->Rep H' (bL H) r (aT T k (s-t))->Q r H')
inductive pC  (vs:List V)(H:Hp)(Q:VK)(iS:XK):Prop where
 | mk (a:o?) (T:cj) (u v:V) (x:T.α) (n:Nat) (s:aF T.α) (c5:vs=[.ref a,u,v]) (c6:J H a T) (dS:Rep H Any u (T.enc x)) (fT:Rep H Any v (aT T n s)) (jv:n<=100) (pZ:∀r H',ay H H'->Rep H' (bL H) r (aT T n (cst x*s))->Q r H')
inductive i6  (vs:List V)(H:Hp)(Q:VK)(iS:XK):Prop where
 | mk (a:o?) (T:cj) (u v:V) (n m:Nat) (s t:aF T.α) (c5:vs=[.ref a,u,v]) (c6:J H a T) (dS:Rep H Any u (aT T n s)) (fT:Dg s n) (jv:Rep H Any v (aT T m t)) (pZ:Dg t m) (wA:n+m<=100) (Fe:∀r H',ay H H'->Rep H' (bL H) r (aT T (if n=0\/m=0 then 0 else n+m-1) (s*t))->Q r H')
inductive lP  (vs:List V)(H:Hp)(Q:VK)(iS:XK):Prop where
 | mk (a:o?) (T:cj) (u v:V) (N n:Nat) (s f:aF T.α) (c5:vs=[.ref a,u,v]) (c6:J H a T) (dS:Rep H Any u (aT T N s)) (fT:Dg s N) (jv:N<=100) (pZ:Rep H Any v (aT T (n+1) f)) (wA:Alg.bH f n) (Fe:n<=99) (M3:∀(t:o?) (q r:V) (m:Nat) (x y:aF T.α) H',ay H H'->H t=q?->H' t=j? (.tup [q,r])->Rep H' (bL H) q (aT T (N-n) x)->Rep H' (bL H) r (aT T m y)->s=x*f+y->Dg x (N-n)->Nz T m y->m<=n->Q (.ref t) H')
inductive Dl  (vs:List V)(H:Hp)(Q:VK)(iS:XK):Prop where
 | mk (a:o?) (T:cj) (v:V) (n:Nat) (s:aF T.α) (c5:vs=[.ref a,v]) (c6:J H a T) (dS:Rep H Any v (aT T (n+1) s)) (fT:Dg s (n+1)) (jv:s.c n≠0) (pZ:n<=99) (wA:∀r y H',s.c n*y=1->ay H H'->Rep H' (bL H) r (aT T (n+1) (cst y*s))->Q r H')
inductive zK  (vs:List V)(H:Hp)(Q:VK)(iS:XK):Prop where
 | mk (a:o?) (T:cj) (u v:V) (N n:Nat) (s f:aF T.α) (c5:vs=[.ref a,u,v]) (c6:J H a T) (dS:Rep H Any u (aT T N s)) (fT:Dg s N) (jv:N<=100) (pZ:Rep H Any v (aT T (n+1) f)) (wA:Dg f (n+1)) (Fe:f.c n≠0) (M3:n<=99) (SX:∀(t:o?) (q r:V) (m:Nat) (x y:aF T.α) H',ay H H'->H t=q?->H' t=j? (.tup [q,r])->Rep H' (bL H) q (aT T (N-n) x)->Rep H' (bL H) r (aT T m y)->s=x*f+y->Dg x (N-n)->Nz T m y->m<=n->Q (.ref t) H')
structure iM (T:cj)(s t g:aF T.α)(k:Nat):Prop where
 mon:Alg.bH g k
 sum:∃u v,aX u/\aX v/\g=u*s+v*t
 left:∃e,aX e/\s=e*g
 right:∃e,aX e/\t=e*g
inductive rK  (vs:List V)(H:Hp)(Q:VK)(iS:XK):Prop where
 | mk (a:o?) (T:cj) (u v:V) (n m:Nat) (s t:aF T.α) (c5:vs=[.ref a,u,v]) (c6:J H a T) (dS:Rep H Any u (aT T n s)) (fT:Nz T n s) (jv:n<=100) (pZ:Rep H Any v (aT T m t)) (wA:Nz T m t) (Fe:m<=100) (M3:(0<n\/0<m)) (SX:∀r k g H',iM T s t g k->k<=99->ay H H'->Rep H' (bL H) r (aT T (k+1) g)->Q r H')
inductive Dm  (vs:List V)(H:Hp)(Q:VK)(iS:XK):Prop where
 | mk (a:o?) (T:cj) (u v:V) (m d n:Nat) (s f:aF T.α) (c5:vs=[.ref a,u,.int (n:Int),v]) (c6:J H a T) (dS:Rep H Any u (aT T m s)) (fT:Dg s m) (jv:m<=40) (pZ:Rep H Any v (aT T (d+1) f)) (wA:Alg.bH f d) (Fe:1<=d) (M3:d<=40) (SX:1<=n) (Vw:n<100) (aer:∀r k y H',Cg f (s ^ n) y->Nz T k y->k<=d->ay H H'->Rep H' (bL H) r (aT T k y)->Q r H')
inductive qg  (vs:List V)(H:Hp)(Q:VK)(iS:XK):Prop where
 | mk (a:o?) (T:cj) (c5:vs=[.ref a]) (c6:J H a T) (dS:∀r H',ay H H'->Rep H' (bL H) r (aT T 2 X)->Q r H')
structure Pws (H H':Hp)(T:cj)(f:aF T.α)(d many:Nat)(L:o?)(vs:List V):Prop where
 nw:H L=q?
 at_:H' L=j? (.lst vs)
 len:vs.length=many+1
 el:∀i,i<=many->∃v k y,vs[i]?=j? v/\Rep H' (bL H) v (aT T k y)/\Nz T k y/\k<=d/\Cg f ((X:aF T.α) ^ (T.p ^ i)) y
inductive wI  (vs:List V)(H:Hp)(Q:VK)(iS:XK):Prop where
 | mk (a:o?) (T:cj) (v:V) (d many:Nat) (f:aF T.α) (c5:vs=[.ref a,v,.int (many:Int)]) (c6:J H a T) (dS:Rep H Any v (aT T (d+1) f)) (fT:Alg.bH f d) (jv:1<=d) (pZ:d<=40) (wA:many<=1000) (Fe:∀L vs H',ay H H'->Pws H H' T f d many L vs->Q (.ref L) H')
inductive Ag  (vs:List V)(H:Hp)(Q:VK)(iS:XK):Prop where
 | mk (n:Nat) (c5:vs=[.int (n:Int)]) (c6:1<=n) (dS:n<=100) (fT:∀l (rs:List Nat) H',ay H H'->H l=q?->H' l=j? (.lst (rs.map λr:Nat=>V.int (r:Int)))->rs.length<=100->(∀r,r∈rs↔B4 r/\r ∣ n)->Q (.ref l) H')
def ur (T:cj)(M:Md T.α):Prop:=M.n=1\/(Cg M.f ((X:aF T.α) ^ ((T.p ^ T.d) ^ M.n)) X/\∀r,B4 r->r ∣ M.n->∃u v,aX u/\aX v/\u*M.f+v*((X:aF T.α) ^ ((T.p ^ T.d) ^ (M.n / r))-X)=1)
inductive sQ  (vs:List V)(H:Hp)(Q:VK)(iS:XK):Prop where
 | mk (a:o?) (T:cj) (v:V) (M:Md T.α) (c5:vs=[.ref a,v]) (c6:J H a T) (dS:Rep H Any v (aT T (M.n+1) M.f)) (fT:M.n<=12) (jv:(ur T M->∀H',ay H H'->Q (.bl true) H')) (pZ:(¬ ur T M->∀H',ay H H'->Q (.bl false) H'))
def SY (T:cj)(n:Nat)(s:aF T.α):Prop:=∃M:Md T.α,M.n+1=n/\M.f=s/\ur T M
inductive Ah  (vs:List V)(H:Hp)(Q:VK)(iS:XK):Prop where
 | mk (a:o?) (T:cj) (v:V) (n:Nat) (s:aF T.α) (c5:vs=[.ref a,v]) (c6:J H a T) (dS:Rep H Any v (aT T n s)) (fT:Nz T n s) (jv:n<=13) (pZ:(SY T n s->∀H',ay H H'->Q (.bl true) H')) (wA:(¬ SY T n s->∀H',ay H H'->Q (.bl false) H'))
end
theorem Qg {T:cj}{M M':Md T.α}(h1:M.n=M'.n)(h2:M.f=M'.f):M=M':=by
 cases M with
 | mk f n mon pos=>
  cases M' with
  | mk f' n' mon' pos'=>
   have h1:n=n':=h1;have h2:f=f':=h2;subst h1 h2;rfl
theorem zL:SY T (M.n+1) M.f↔ur T M:=⟨λ⟨M',h1,h2,h⟩=>by
  obtain rfl:=Qg (by omega:M'.n=M.n) h2
  exact h,λh=>⟨M,rfl,rfl,h⟩⟩
theorem Vx(M:Md T.α):Nz T (M.n+1) M.f:=⟨M.mon.dg,.inr (by rw[show M.n+1-1=M.n by omega,M.mon.top];exact T.fld.1)⟩
theorem M4(h:sQ J vs H Q E):Ah J vs H Q E:=by
 obtain⟨a,T,v,M,rfl,ja,rv,hn,qt,qf⟩:=h;exact⟨a,T,v,M.n+1,M.f,rfl,ja,rv,Vx M,by omega,λh=>qt (zL.mp h),λh=>qf λz=>h (zL.mpr z)⟩
theorem ur.alone(h:ur T M):yl T M:=by
 rcases h with h|h
 ·exact SK T M h
 ·exact MP T M h.1 h.2
structure Ry (P:F?)(w:H?)(K:bK)(mg:Str->Option l?)(base:Q?)(k:Nat)(J:L2.Kind):Prop where
 cut:b8 P w K mg base (k+1) "without_noughts" ["tower","terms"] (yp J)
 minus:b8 P w K mg base (k+2) "minus_poly" ["tower","f","g"] (pB J)
 scaled:b8 P w K mg base (k+1) "scaled_poly" ["tower","u","f"] (pC J)
 times:b8 P w K mg base (k+1) "times_poly" ["tower","f","g"] (i6 J)
 tU:b8 P w K mg base (k+2) "over_monic" ["tower","f","g"] (lP J)
 J2:b8 P w K mg base (k+3) "over_poly" ["tower","f","g"] (zK J)
 common:b8 P w K mg base (k+4) "common_poly" ["tower","f","g"] (rK J)
 letter:b8 P w K mg base (k+1) "letter_of" ["tower"] (qg J)
 alone:b8 P w K mg base (k+5) "is_alone" ["tower","f"] (sQ J)
 ZP:b8 P w K mg base (k+5) "is_alone" ["tower","f"] (Ah J)
structure Em (K:bK)(CS:o?):Prop where
 cl:G8 K CS
 nF:iA K CS "floor"
 nP:iA K CS "p"
 nQ:iA K CS "part"
structure qQ (CG CS:o?)(n:Nat)(H:Hp)(a b q dx:o?)(T:cj)(M:Md T.α):Prop where
 h:H a=j? (.ins CS dx (SR b q T.p))
 f:IsT CG CS n H b T
 r:Rep H Any (.ref q) (aT T (M.n+1) M.f)
 hd:T.d*M.n<=12
theorem qQ.mono{n:Nat}{M:Md T.α}(h:qQ CG CS n H a b q dx T M)(g:ay H H'):qQ CG CS n H' a b q dx T M:=⟨g _ _ h.h,h.f.mono g,h.r.same g,h.hd⟩
theorem qQ.n{n:Nat}{M:Md T.α}(h:qQ CG CS n H a b q dx T M):M.n<=12:=by
 have h1:=h.f.d.1;have h2:=h.hd;have:1*M.n<=T.d*M.n:=Zl _ h1
 omega
theorem IsT.vn(h:IsT CG CS (n+1) H a T'):∃(b q dx:o?) (T:cj) (M:Md T.α) (al:yl T M) (hn:M.n<=100),T'=T.up M al hn/\qQ CG CS n H a b q dx T M:=by
 cases h with
 | @st n H a b q dx T M al h f r hd hn=>exact⟨b,q,dx,T,M,al,hn,rfl,h,f,r,hd⟩
theorem qQ.isT{n:Nat}{M:Md T.α}(h:qQ CG CS n H a b q dx T M)(al)(hn:M.n<=100):IsT CG CS (n+1) H a (T.up M al hn):=.st al h.h h.f h.r h.hd hn
abbrev OX (CG CS:o?)(n:Nat):Hp->o?->Prop:=λH a=>∃(b q dx:o?) (T:cj) (M:Md T.α),qQ CG CS n H a b q dx T M
inductive vo (CG CS:o?)(n:Nat)(vs:List V)(H:Hp)(Q:VK)(iS:XK):Prop where
 | mk (a b q dx:o?) (T:cj) (M:Md T.α) (c5:vs=[.ref a]) (c6:qQ CG CS n H a b q dx T M) (dS:∀H',ay H H'->Q (.int (M.n:Int)) H')
inductive vt (CG CS:o?)(n:Nat)(vs:List V)(H:Hp)(Q:VK)(iS:XK):Prop where
 | mk (a b q dx:o?) (T:cj) (M:Md T.α) (u:V) (x:T.α) (c5:vs=[.ref a,u]) (c6:qQ CG CS n H a b q dx T M) (dS:Rep H Any u (T.enc x)) (fT:∀r H',ay H H'->Rep H' (bL H) r (aT T M.n (cst x))->Q r H')
inductive Ai (CG CS:o?)(n:Nat)(vs:List V)(H:Hp)(Q:VK)(iS:XK):Prop where
 | mk (a b q dx:o?) (T:cj) (M:Md T.α) (u:V) (N:Nat) (s:aF T.α) (ok:o?->Prop) (c5:vs=[.ref a,u]) (c6:qQ CG CS n H a b q dx T M) (dS:Rep H ok u (aT T N s)) (fT:Dg s N) (jv:N<=100) (pZ:∀r H',ay H H'->Rep H' (λb=>H b=q?\/ok b) r (aT T M.n (Alg.rest M s))->Q r H')
structure OY (P:F?)(w:H?)(K:bK)(mg:Str->Option l?)(base:Q?)(k:Nat)(CG CS:o?)(n:Nat):Prop where
 width:nj P w K mg base k (OX CG CS n) "width" ["self"] (vo CG CS n)
structure Xw (P:F?)(w:H?)(K:bK)(mg:Str->Option l?)(base:Q?)(k:Nat)(CG CS:o?)(n:Nat):Prop extends OY P w K mg base k CG CS n where
 J3:nj P w K mg base k (OX CG CS n) "by_part" ["self","terms"] (Ai CG CS n)
structure ZQ (P:F?)(w:H?)(K:bK)(mg:Str->Option l?)(base:Q?)(k:Nat)(CG CS:o?)(n:Nat):Prop where
 M5:nj P w K mg base k (OX CG CS n) "lifted" ["self","u"] (vt CG CS n)
theorem Rz{m:Str}(h1:m≠"floor")(h2:m≠"p")(h3:m≠"part"):(SR b q p).lookup m=q?:=by
 show(match m ==("floor":Str) with|true=>j? (V.ref b)|false=>(match m ==("p":Str) with|true=>j? (V.int (p:Int))|false=>(match m ==("part":Str) with|true=>j? (V.ref q)|false=>q?)))=q?
 rw[beq_eq_false_iff_ne.mpr h1,beq_eq_false_iff_ne.mpr h2,beq_eq_false_iff_ne.mpr h3]
section
variable {P:F?} {w:H?} {K:bK} {mg:Str->Option l?} {base:Q?} {CG CS:o?} {n k:Nat}
theorem wJ (c:Em K CS){m:Str}{ps:List Str}{sp:Sp}(h1:m≠"floor")(h2:m≠"p")(h3:m≠"part")(M:jy P w K mg base k CS m ps sp):nj P w K mg base k (OX CG CS n) m ps sp:=by
 refine .of λH a ⟨b,q,dx,T,M',s⟩=>⟨CS,dx,_,s.h,Rz h1 h2 h3,c.cl,M.imp λvs H Q E h=>h.1⟩
theorem gn (c:Em K CS){m:Str}{ps:List Str}{sp:Sp}(h1:m≠"floor")(h2:m≠"p")(h3:m≠"part")(M:jy P w K mg base k CS m ps sp):nj P w K mg base k (JJ (IsT CG CS (n+1))) m ps sp:=by
 refine .of λH a ⟨T',j⟩=>?_
 obtain⟨b,q,dx,T,M',al,hn,rfl,s⟩:=j.vn;exact⟨CS,dx,_,s.h,Rz h1 h2 h3,c.cl,M.imp λvs H Q E h=>h.1⟩
end
inductive Up:Nat->List El->cj->cj->Prop where
 | nil {i:Nat} {T:cj}:Up i [] T T
 | cons {i:Nat} {T T':cj} {M:Md T.α} {ps:List El} (al:ur T M) (hn:M.n<=100) (hd:T.d*M.n<=12) (hl:i=0\/aT T (M.n+1) M.f≠aT T 2 X) (u:Up (i+1) ps (T.up M al.alone hn) T'):Up i (aT T (M.n+1) M.f::ps) T T'
theorem Up.snoc(h:Up i ps T T'):∀ {M:Md T'.α} (al:ur T' M) (hn:M.n<=100) (hd:T'.d*M.n<=12) (hl:i+ps.length=0\/aT T' (M.n+1) M.f≠aT T' 2 X),Up i (ps++[aT T' (M.n+1) M.f]) T (T'.up M al.alone hn):=by
 induction h with
 | nil=>intro M al hn hd hl;exact .cons al hn hd (hl.imp (λz=>by simpa using z) id) .nil
 | cons al hn hd hl u ih=>
  intro M al' hn' hd' hl';exact .cons al hn hd hl (ih al' hn' hd' (hl'.imp (λz=>by simp at z) id))
inductive Wd:cj->List Nat->Prop where
 | gr {p:Nat} (hp:p∈PR):Wd (ground p hp) []
 | up {T:cj} {ws:List Nat} {M:Md T.α} (al:yl T M) (hn:M.n<=100) (w:Wd T ws):Wd (T.up M al hn) (ws++[M.n])
def Dn (T:cj)(d:R!):Prop:=∃x:T.α,d=toD (T.enc x)
def wh (T:cj)(i:Int):T.α:=nt T.α (i % (T.p:Int)).toNat
theorem M6:Dn (ground p hp) d↔∃i:Int,d=.int i/\0<=i/\i<(p:Int):=by
 constructor
 ·rintro⟨x,rfl⟩
  exact⟨((show Zp p from x).v:Int),rfl,Int.natCast_nonneg _,by have:=(show Zp p from x).lt;omega⟩
 ·rintro⟨i,rfl,h1,h2⟩
  refine⟨(⟨i.toNat,by omega⟩:Zp p),?_⟩
  show PyData.int i=PyData.int ((i.toNat:Nat):Int)
  rw[Z0 h1]
theorem M7:Dn (T.up M al hn) d↔∃ds:List R!,d=.list ds/\ds.length=M.n/\∀e∈ds,Dn T e:=by
 constructor
 ·rintro⟨x,rfl⟩
  refine⟨o9 ((Yi M.n).map λi=>T.enc ((show Qt M from x).s.c i)),rfl,by rw[mF];simp,λe he=>?_⟩
  rw[mF] at he;obtain⟨y,hy,rfl⟩:=List.mem_map.mp he;obtain⟨i,_,rfl⟩:=List.mem_map.mp hy;exact⟨_,rfl⟩
 ·rintro⟨ds,rfl,hl,h⟩
  have ch:∀i,∃x:T.α,i<M.n->ds[i]?=j? (toD (T.enc x)):=λi=>by
   by_cases hi:i<M.n
   ·obtain⟨x,hx⟩:=h (ds[i]'(by omega)) (Za _)
    exact⟨x,λ_=>by rw[Ya (by omega),hx]⟩
   ·exact⟨0,λz=>W3 z hi⟩
  obtain⟨f,hf⟩:=Classical.axiomOfChoice ch;let s:aF T.α:=⟨λi=>if i<M.n then f i else 0⟩
  have ds':Dg s M.n:=λi hi=>by show(if i<M.n then f i else 0)=0;rw[Ww (by omega)]
  refine⟨(⟨s,ds'⟩:Qt M),?_⟩
  show PyData.list ds=PyData.list (o9 ((Yi M.n).map λi=>T.enc (s.c i)))
  congr 1
  rw[mF];apply List.ext_getElem?
  intro i;by_cases hi:i<M.n
  ·rw[hf i hi,Yh,Yh,Yy hi]
   show j? (toD (T.enc (f i)))=j? (toD (T.enc (if i<M.n then f i else 0)))
   rw[Wx hi]
  ·rw[List.getElem?_eq_none_iff.mpr (by omega),List.getElem?_eq_none_iff.mpr (by simp;omega)]
inductive Aj (K:bK)(J:L2.Kind)(vs:List V)(H:Hp)(Q:VK)(iS:XK):Prop where
 | mk (a:o?) (T:cj) (v:V) (d:R!) (c5:vs=[.ref a,v]) (c6:J H a T) (dS:Den K H v d) (fT:(Dn T d->∀H',ay H H'->Q (.bl true) H')) (jv:(¬ Dn T d->∀H',ay H H'->Q (.bl false) H'))
inductive vv (J:L2.Kind)(vs:List V)(H:Hp)(Q:VK)(iS:XK):Prop where
 | mk (a:o?) (T:cj) (i:Int) (c5:vs=[.ref a,.int i]) (c6:J H a T) (dS:∀r H',ay H H'->Rep H' (bL H) r (T.enc (wh T i))->Q r H')
theorem Vy(i):(T.up M al hn).enc (wh (T.up M al hn) i)=aT T M.n (cst (wh T i)):=by
 show aT T M.n (nt (Qt M) (i % (T.p:Int)).toNat).s=_
 rw[Mb];show aT T M.n (Alg.rest M _)=_
 rw[rest_eq ((Dg.cst _).mono M.pos) (Cg.refl _ _)];rfl
theorem Vz(i):(ground p hp).enc (wh (ground p hp) i)=.num (i % (p:Int)):=by
 have pp:=bM hp;show El.num _=_
 congr 1
 show(((letI:=rE (bM hp).1;nt (Zp p) (i % (p:Int)).toNat:Zp p).v:Nat):Int)=i % (p:Int)
 rw[z7];have h1:=Ws i (b:=(p:Int)) (by omega)
 have h2:=Int.emod_lt_of_pos i (b:=(p:Int)) (by omega)
 rw[Y1 (by omega),Z0 h1]
theorem S0 (T):wh T 1=1:=by
 unfold wh;have pp:=bM T.pr;rw[Int.emod_eq_of_lt (by omega) (by omega)]
 exact iV
structure TwE (P:F?)(w:H?)(K:bK)(mg:Str->Option l?)(base:Q?)(k:Nat)(J:L2.Kind):Prop extends TwB P w K mg base k J where
 jz:nj P w K mg base k (JJ J) "is_element" ["self","thing"] (Aj K J)
 whole:nj P w K mg base k (JJ J) "whole" ["self","k"] (vv J)
theorem TwE.up {P:F?}{w:H?}{K:bK}{mg:Str->Option l?}{base:Q?}{j k:Nat}{J:L2.Kind}(O:TwE P w K mg base j J)(h:j<=k):TwE P w K mg base k J:=⟨O.toTwB.up h,O.jz.mono h,O.whole.mono h⟩
def iB (CG CS:o?):L2.Kind:=λH a T=>∃n:Nat,n<=5/\IsT CG CS n H a T
abbrev Ix:={ n:Nat // n<=5 }
section
variable {P:F?} {w:H?} {K:bK} {mg:Str->Option l?} {base:Q?} {CG CS:o?} {k:Nat}
theorem eZ {m:Str}{ps:List Str}{sp:L2.Kind->Sp}(M:∀i:Ix,nj P w K mg base k (JJ (IsT CG CS i.1)) m ps (sp (IsT CG CS i.1)))(hs:∀(J:L2.Kind) vs H Q E,sp J vs H Q E->∃a,vs.head?=j? (.ref a)/\∃T,J H a T)
  (hu:∀vs H Q E,sp (iB CG CS) vs H Q E->∃i:Ix,sp (IsT CG CS i.1) vs H Q E):nj P w K mg base k (JJ (iB CG CS)) m ps (sp (iB CG CS)):=by
 have U:=(nj.union (J:=λi:Ix=>JJ (IsT CG CS i.1)) (sp:=λi:Ix=>sp (IsT CG CS i.1)) M λi vs H Q E h=>hs _ vs H Q E h).imp hu
 exact⟨λH a ⟨T,n,hn,j⟩=>U.ex H a ⟨⟨n,hn⟩,T,j⟩⟩
theorem Qh (M:∀n,n<=5->TwE P w K mg base k (IsT CG CS n)):TwE P w K mg base k (iB CG CS):=by
 refine⟨⟨⟨λg ⟨n,hn,j⟩=>⟨n,hn,j.mono g⟩,λ⟨n,hn,j⟩=>(M n hn).fld j,λ⟨n,hn,j⟩=>(M n hn).bd j,λ⟨n,hn,j⟩=>(M n hn).d1 j,?_,?_,?_,?_,?_,?_,?_⟩,?_⟩,?_,?_⟩
 ·exact eZ (sp:=JX) (λi=>(M i.1 i.2).degree) (λJ vs H Q E h=>by obtain⟨a,T,e,j,_⟩:=h;exact⟨a,by rw[e];rfl,T,j⟩) (λvs H Q E h=>by obtain⟨a,T,e,⟨n,hn,j⟩,q⟩:=h;exact⟨⟨n,hn⟩,a,T,e,j,q⟩)
 ·exact eZ (sp:=Eg) (λi=>(M i.1 i.2).zero) (λJ vs H Q E h=>by obtain⟨a,T,e,j,_⟩:=h;exact⟨a,by rw[e];rfl,T,j⟩) (λvs H Q E h=>by obtain⟨a,T,e,⟨n,hn,j⟩,q⟩:=h;exact⟨⟨n,hn⟩,a,T,e,j,q⟩)
 ·exact eZ (sp:=Dj) (λi=>(M i.1 i.2).one) (λJ vs H Q E h=>by obtain⟨a,T,e,j,_⟩:=h;exact⟨a,by rw[e];rfl,T,j⟩) (λvs H Q E h=>by obtain⟨a,T,e,⟨n,hn,j⟩,q⟩:=h;exact⟨⟨n,hn⟩,a,T,e,j,q⟩)
 ·exact eZ (sp:=Eh) (λi=>(M i.1 i.2).plus) (λJ vs H Q E h=>by obtain⟨a,T,u,v,x,y,e,j,_⟩:=h;exact⟨a,by rw[e];rfl,T,j⟩) (λvs H Q E h=>by obtain⟨a,T,u,v,x,y,e,⟨n,hn,j⟩,q0,q1,q2⟩:=h;exact⟨⟨n,hn⟩,a,T,u,v,x,y,e,j,q0,q1,q2⟩)
 ·exact eZ (sp:=zF) (λi=>(M i.1 i.2).minus) (λJ vs H Q E h=>by obtain⟨a,T,u,v,x,y,e,j,_⟩:=h;exact⟨a,by rw[e];rfl,T,j⟩) (λvs H Q E h=>by obtain⟨a,T,u,v,x,y,e,⟨n,hn,j⟩,q0,q1,q2⟩:=h;exact⟨⟨n,hn⟩,a,T,u,v,x,y,e,j,q0,q1,q2⟩)
 ·exact eZ (sp:=zG) (λi=>(M i.1 i.2).times) (λJ vs H Q E h=>by obtain⟨a,T,u,v,x,y,e,j,_⟩:=h;exact⟨a,by rw[e];rfl,T,j⟩) (λvs H Q E h=>by obtain⟨a,T,u,v,x,y,e,⟨n,hn,j⟩,q0,q1,q2⟩:=h;exact⟨⟨n,hn⟩,a,T,u,v,x,y,e,j,q0,q1,q2⟩)
 ·exact eZ (sp:=ve) (λi=>(M i.1 i.2).eY) (λJ vs H Q E h=>by obtain⟨a,T,u,x,e,j,_⟩:=h;exact⟨a,by rw[e];rfl,T,j⟩) (λvs H Q E h=>by obtain⟨a,T,u,x,e,⟨n,hn,j⟩,q0,q1,q2⟩:=h;exact⟨⟨n,hn⟩,a,T,u,x,e,j,q0,q1,q2⟩)
 ·exact eZ (sp:=Aa) (λi=>(M i.1 i.2).back) (λJ vs H Q E h=>by obtain⟨a,T,u,x,e,j,_⟩:=h;exact⟨a,by rw[e];rfl,T,j⟩) (λvs H Q E h=>by obtain⟨a,T,u,x,e,⟨n,hn,j⟩,q0,q1,q2⟩:=h;exact⟨⟨n,hn⟩,a,T,u,x,e,j,q0,q1,q2⟩)
 ·exact eZ (sp:=Aj K) (λi=>(M i.1 i.2).jz) (λJ vs H Q E h=>by obtain⟨a,T,u,x,e,j,_⟩:=h;exact⟨a,by rw[e];rfl,T,j⟩) (λvs H Q E h=>by obtain⟨a,T,u,x,e,⟨n,hn,j⟩,q0,q1,q2⟩:=h;exact⟨⟨n,hn⟩,a,T,u,x,e,j,q0,q1,q2⟩)
 ·exact eZ (sp:=vv) (λi=>(M i.1 i.2).whole) (λJ vs H Q E h=>by obtain⟨a,T,i,e,j,_⟩:=h;exact⟨a,by rw[e];rfl,T,j⟩) (λvs H Q E h=>by obtain⟨a,T,i,e,⟨n,hn,j⟩,q⟩:=h;exact⟨⟨n,hn⟩,a,T,i,e,j,q⟩)
end
def nw (H H':Hp):Hp:=λc=>match H c with
 | none=>H' c
 | some _=>q?
theorem tV(h:H c=q?):nw H H' c=H' c:=by unfold nw;rw[h]
theorem jD(h:nw H H' c=j? o):H c=q?/\H' c=j? o:=by
 unfold nw at h;cases e:H c with
 | none=>rw[e] at h;exact⟨rfl,h⟩
 | some u=>rw[e] at h;cases h
theorem En (H H'):ay (nw H H') H':=λc o h=>(jD h).2
theorem J4(g:ay H' H''):ay (nw H H') (nw H H''):=λc o h=>by rw[tV (jD h).1];exact g _ _ (jD h).2
theorem Gd(g:ay H0 H):ay (nw H H') (nw H0 H'):=λc o h=>by rw[tV (g.free (jD h).1)];exact(jD h).2
theorem Rep.nw(r:Rep H' (bL H) v e):Rep (L2.nw H H') Any v e:=r.imp λb o h k=>⟨by rw[tV k];exact h,trivial⟩
def del (H:Hp)(b:o?):Hp:=λc=>if c=b then q? else H c
theorem zM(h:del H b c=j? o):c≠b/\H c=j? o:=by
 unfold del at h;by_cases e:c=b
 ·rw[Wx e] at h;cases h
 ·rw[Ww e] at h;exact⟨e,h⟩
theorem uu(h:c≠b):del H b c=H c:=Ww h
theorem rM (H)(b):ay (del H b) H:=λc o h=>(zM h).2
inductive Eo (CG:o?)(vs:List V)(H:Hp)(Q:VK)(iS:XK):Prop where
 | mk (x dx:o?) (p:Nat) (c5:vs=[.ref x,.int (p:Int)]) (c6:H x=j? (.ins CG dx [])) (dS:Q .d8 (upd H x (.ins CG dx (Vt p))))
inductive Ep (CG CS:o?)(n:Nat)(vs:List V)(H:Hp)(Q:VK)(iS:XK):Prop where
 | mk (x dx b:o?) (u:V) (T:cj) (M:Md T.α) (H0:Hp) (c5:vs=[.ref x,.ref b,u]) (c6:H x=j? (.ins CS dx [])) (dS:ay H0 H) (fT:H0 x=q?) (jv:IsT CG CS n H0 b T) (pZ:Rep H0 Any u (aT T (M.n+1) M.f)) (wA:M.n<=12) (Fe:∀q H',ay H0 H'->H' x=j? (.ins CS dx (SR b q T.p))->Rep H' (bL H0) (.ref q) (aT T (M.n+1) M.f)->Q .d8 H')
inductive Dp (K:bK)(vs:List V)(H:Hp)(Q:VK)(iS:XK):Prop where
 | mk (p:Nat) (c5:vs=[.int (p:Int)]) (c6:p∈PR) (dS:∀H',ay H H'->Q (.bl true) H')
inductive wK (K:bK)(vs:List V)(H:Hp)(Q:VK)(iS:XK):Prop where
 | mk (v:V) (d:R!) (c5:vs=[v]) (c6:Den K H v d) (dS:((∃i,d=.int i)->Q (.bl true) H)) (fT:((¬ ∃i,d=.int i)->Q (.bl false) H))
section
variable (J:L2.Kind)
inductive yq (K:bK)(vs:List V)(H:Hp)(Q:VK)(iS:XK):Prop where
 | mk (a:o?) (T:cj) (u:V) (M:Md T.α) (c5:vs=[.ref a,u]) (c6:J H a T) (dS:Rep H Any u (aT T (M.n+1) M.f)) (fT:M.n<=12) (jv:∀H',ay H H'->Q (.bl true) H')
inductive Ak  (vs:List V)(H:Hp)(Q:VK)(iS:XK):Prop where
 | mk (a:o?) (T:cj) (u:V) (M:Md T.α) (c5:vs=[.ref a,u]) (c6:J H a T) (dS:Rep H Any u (aT T (M.n+1) M.f)) (fT:T.d*M.n<=12) (jv:ur T M) (pZ:∀H',ay H H'->Q (.bl true) H')
end
def wL (CG CS:o?){p:Nat}(hp:p∈PR)(H:Hp)(b:o?)(T:cj)(ps:List El):Prop:=∀ps' e,ps=ps'++[e]->∃(b0 q dx:o?) (T0:cj) (M:Md T0.α) (al:ur T0 M) (hn:M.n<=100),T=T0.up M al.alone hn/\qQ CG CS ps'.length H b b0 q dx T0 M/\Up 0 ps' (ground p hp) T0/\e=aT T0 (M.n+1) M.f
theorem wL.mono(h:wL CG CS hp H b T ps)(g:ay H H'):wL CG CS hp H' b T ps:=λps' e z=>by
 obtain⟨b0,q,dx,T0,M,al,hn,h1,h2,h3,h4⟩:=h ps' e z;exact⟨b0,q,dx,T0,M,al,hn,h1,h2.mono g,h3,h4⟩
inductive RA (CG CS:o?)(vs:List V)(H:Hp)(Q:VK)(iS:XK):Prop where
 | mk (p:Nat) (hp:p∈PR) (v:V) (ps:List El) (T:cj) (c5:vs=[.int (p:Int),v]) (c6:Rep H Any v (.vec ps)) (dS:ps.length<=5) (fT:Up 0 ps (ground p hp) T) (jv:∀b H',ay H H'->IsT CG CS ps.length (nw H H') b T->wL CG CS hp (nw H H') b T ps->Q (.ref b) H')
structure G9 (K:bK)(CT:o?):Prop where
 cl:G8 K CT
 nT:iA K CT "top"
 nP:iA K CT "p"
 nQ:iA K CT "parts"
 nK:iA K CT "kept"
def S3 (b:o?)(p:Nat)(v1 v2:V):List (Str×V):=[("top",.ref b),("p",.int (p:Int)),("parts",v1),("kept",v2)]
theorem jE:(S3 b p v1 v2).lookup ("top":Str)=j? (.ref b):=by rfl
theorem ZR:(S3 b p v1 v2).lookup ("p":Str)=j? (.int (p:Int)):=by rfl
theorem VA{m:Str}(h1:m≠"top")(h2:m≠"p")(h3:m≠"parts")(h4:m≠"kept"):(S3 b p v1 v2).lookup m=q?:=by
 show(match m ==("top":Str) with|true=>j? (V.ref b)|false=>(match m ==("p":Str) with|true=>j? (V.int (p:Int))|false=>(match m ==("parts":Str) with|true=>j? v1|false=>(match m ==("kept":Str) with|true=>j? v2|false=>q?))))=q?
 rw[beq_eq_false_iff_ne.mpr h1,beq_eq_false_iff_ne.mpr h2,beq_eq_false_iff_ne.mpr h3,beq_eq_false_iff_ne.mpr h4]
def mh (CG CS CT:o?):L2.Kind:=λH a T=>∃(dx b:o?) (v1 v2:V),H a=j? (.ins CT dx (S3 b T.p v1 v2))/\iB CG CS H b T
theorem mh.mono(g:ay H H')(h:mh CG CS CT H a T):mh CG CS CT H' a T:=by
 obtain⟨dx,b,v1,v2,h1,n,hn,j⟩:=h;exact⟨dx,b,v1,v2,g _ _ h1,n,hn,j.mono g⟩
inductive zN (CG CS CT:o?)(vs:List V)(H:Hp)(Q:VK)(iS:XK):Prop where
 | mk (x dx:o?) (p:Nat) (hp:p∈PR) (v:V) (ps:List El) (T:cj) (H0:Hp) (c5:vs=[.ref x,.int (p:Int),v]) (c6:H x=j? (.ins CT dx [])) (dS:ay H0 H) (fT:H0 x=q?) (jv:Rep H0 Any v (.vec ps)) (pZ:ps.length<=5) (wA:Up 0 ps (ground p hp) T) (Fe:∀(b:o?) (v1 v2:V) H',ay H0 H'->H' x=j? (.ins CT dx (S3 b p v1 v2))->IsT CG CS ps.length (nw H0 H') b T->Rep H' (bL H0) v1 (.vec ps)->Rep H' (bL H0) v2 (.vec ps)->wL CG CS hp (nw H0 H') b T ps->Q .d8 H')
theorem Up.p(h:Up i ps T T'):T'.p=T.p:=by
 induction h with
 | nil=>rfl
 | cons al hn hd hl u ih=>exact ih
theorem Up.ht(h:Up i ps T T'):T'.ht=T.ht+ps.length:=by
 induction h with
 | nil=>rfl
 | @cons i T T' M ps al hn hd hl u ih=>
  rw[ih];show T.ht+1+ps.length=T.ht+(ps.length+1)
  omega
theorem Up.fl(h:Up i ps T T'):1<=T.d->∀e∈ps,uh T'.ht e:=by
 induction h with
 | nil=>intro _ e he;simp at he
 | @cons i T T' M ps al hn hd hl u ih=>
  intro d1 e he;have hM:M.n<=12:=by
   have:1*M.n<=T.d*M.n:=Zl _ d1
   omega
  rcases List.mem_cons.mp he with z|z
  ·rw[z]
   refine(cO T (by omega) M.f).mono ?_
   have:=u.ht
   have e2:(T.up M al.alone hn).ht=T.ht+1:=rfl;omega
  ·exact ih (Wr d1 M.pos) e z
theorem Lc (xs)(h:xs≠[]):oX xs q? (j? (-1))=xs.dropLast:=by
 have hl:0<xs.length:=List.length_pos_iff.mpr h;unfold oX;have e1:HT.zY xs.length 0 q?=0:=rfl;have e2:HT.zY xs.length xs.length (j? (-1))=xs.length-1:=by
  simp only[HT.zY]
  rw[Wx (by decide)]
  omega
 rw[e1,e2,List.dropLast_eq_take];simp
theorem Wd.nil(h:Wd T []):∃p,∃hp:p∈PR,T=ground p hp:=by
 generalize e:([]:List Nat)=ws at h;cases h with
 | gr hp=>exact⟨_,hp,rfl⟩
 | up al hn w=>simp at e
theorem Wd.snoc(h:Wd T (ws++[m])):∃(T':cj) (M:Md T'.α) (al:yl T' M) (hn:M.n<=100),T=T'.up M al hn/\M.n=m/\Wd T' ws:=by
 generalize e:ws++[m]=us at h;cases h with
 | gr hp=>simp at e
 | @up T' ws' M al hn w=>
  obtain⟨e1,e2⟩:=List.append_inj' e rfl;subst e1;exact⟨T',M,al,hn,rfl,by simpa using e2.symm,w⟩
inductive VB {p:Nat}(hp:p∈PR):List El->List Nat->cj->Prop where
 | nil:VB hp [] [] (ground p hp)
 | snoc {ps:List El} {ws:List Nat} {T:cj} {M:Md T.α} (b:VB hp ps ws T) (al:ur T M) (hn:M.n<=100) (hd:T.d*M.n<=12) (hl:ps=[]\/aT T (M.n+1) M.f≠aT T 2 X):VB hp (ps++[aT T (M.n+1) M.f]) (ws++[M.n]) (T.up M al.alone hn)
abbrev wM (H:Hp)(b:o?):Prop:=∃g r:Int,H b=j? (.lst [.int g,.int r])
def wv (ws:List Nat):List V:=ws.map λm:Nat=>V.int (m:Int)
def bO (H:Hp)(b:o?)(H':Hp):Prop:=∀a o,a≠b->H a=j? o->H' a=j? o
theorem bO.del(h:bO H b H'):ay (L2.del H b) (L2.del H' b):=λc o e=>by rw[uu (zM e).1];exact h c o (zM e).1 (zM e).2
theorem bO.refl (H)(b):bO H b H:=λ_ _ _ h=>h
theorem bO.trans(h:bO H b H')(h':bO H' b H''):bO H b H'':=λa o n e=>h' a o n (h a o n e)
theorem bO.of(h:ay H H'):bO H b H':=λa o _ e=>h a o e
theorem bO.upd(h:bO H b H')(o):bO H b (L2.upd H' b o):=λa u n e=>by rw[aH n];exact h a u n e
theorem bO.fresh(h:bO H b H')(hb':∃o,H' b=j? o)(ha:H' a=q?):H a=q?:=by
 have hne:a≠b:=λz=>by obtain⟨o,e⟩:=hb';rw[z,e] at ha;cases ha
 cases q:H a with
 | none=>rfl
 | some o=>rw[h a o hne q] at ha;cases ha
theorem bO.aJ(h:bO H b H')(hp:H p=q?)(o):bO H b (L2.upd H' p o):=λa u n e=>by
 rw[aH (aL e hp)];exact h a u n e
theorem Rep.Ge(r:Rep H ok v e)(g:bO H b H')(hok:∀a,ok a->a≠b):Rep H' ok v e:=r.imp λa o h k=>⟨g a o (hok a k) h,k⟩
theorem Cf.Ge(r:Cf H ok vs n e)(g:bO H b H')(hok:∀a,ok a->a≠b):Cf H' ok vs n e:=r.imp λa o h k=>⟨g a o (hok a k) h,k⟩
def Al {α:Type}[Lean.Grind.CommRing α](m:Nat)(hm:0<m)(c:Nat->α):Md α where
 f:=⟨λi=>if i<m then c i else if i=m then 1 else 0⟩
 n:=m
 mon:=⟨by show(if m<m then c m else if m=m then (1:α) else 0)=1;rw[Ww (by omega),Wx rfl],λi hi=>by show(if i<m then c i else if i=m then (1:α) else 0)=0;rw[Ww (by omega),Ww (by omega)]⟩
 pos:=hm
theorem M8(h:∀c,H0 c=q?->H1 c=q?):ay (nw H0 H') (nw H1 H'):=λc o e=>by rw[tV (h c (jD e).1)];exact(jD e).2
theorem J5(h:∀c o,H1 c=q?->H2 c=j? o->H3 c=j? o):ay (nw H1 H2) (nw H1 H3):=λc o e=>by rw[tV (jD e).1];exact h c o (jD e).1 (jD e).2
theorem S4(hb:H1 b=j? o):ay (nw H1 H2) (del H2 b):=λc u e=>by
 have:=jD e
 rw[uu (λz=>by rw[z,hb] at this;cases this.1)]
 exact this.2
theorem wN (xs)(k:Nat)(h:k<=xs.length):oX xs (j? (k:Int)) q?=xs.drop k:=by
 unfold oX;have e1:HT.zY xs.length xs.length q?=xs.length:=rfl;have e2:HT.zY xs.length 0 (j? (k:Int))=k:=by rw[HT.zC];omega
 rw[e1,e2];rw[Zn (by rw[Zu];omega)]
end L2
namespace L2
open PySem PySem.Spec PySem.W PyProof.Rows
section
variable {X:Cx}
def sNo:TS:=λ_ _ _=>False
theorem J6 {st:R?}:PS X st sNo:=⟨λ_ _ _ _ _ _ h=>h.elim⟩
end
end L2
namespace L2
open PySem PySem.Spec PyProof.Rows
theorem nX {env:Env}:∀ {names:List (Str×NameKind)} {x:Str} {kd:NameKind},kd=.cell\/kd=.free->
  (names.map λ(n,k)=>if (k == B! && env.scope.kind == .function && env.kindOf n == j? .cell) then (n,O!) else (n,k)).lookup x=j? kd->names.lookup x=j? .free\/names.lookup x=j? .cell
 | [],_,_,_,h=>by simp at h
 | (n,k)::r,x,kd,hk,h=>by
  have ih:=@nX env r x kd hk;have h':Z2 x ((if (k == B! && env.scope.kind == .function && env.kindOf n == j? .cell)=true then (n,O!) else (n,k))::(r.map λ(n,k)=>if (k == B! && env.scope.kind == .function && env.kindOf n == j? .cell) then (n,O!) else (n,k)))=j? kd:=h
  by_cases hc:(k == B! && env.scope.kind == .function && env.kindOf n == j? .cell)=true
  ·rw[Wx hc] at h'
   have hkf:k=.free:=by
    simp only[V?,beq_iff_eq] at hc
    exact hc.1.1
   subst hkf;cases hx:x == n with
   | true=>exact .inl (by simp only[Y0,hx])
   | false=>simp only[Y0,hx] at h' ⊢;exact ih h'
  ·rw[Ww hc] at h'
   cases hx:x == n with
   | true=>
    simp only[Y0,hx] at h' ⊢
    have e:k=kd:=N? h';subst e;rcases hk with hk|hk
    ·rw[hk];exact .inr rfl
    ·rw[hk];exact .inl rfl
   | false=>simp only[Y0,hx] at h' ⊢;exact ih h'
structure cL (X:Cx)(N:List Str)(sl:List (Option Nat))(scope:Scope)(own:Str):Prop where
 kind:scope.kind=.function
 cells:∀n acc,cellsFrom n scope.names acc=(own,n)::acc
 push:∀h,pushCells h scope.names=h.push { cls:=.type "cell",data:=.cell q? }
 VC:∀x,scope.names.lookup x=j? .cell->x=own
 ZS:scope.names.lookup own=j? .cell
 locs:∀y∈scope.names,y.2=.local->scope.names.lookup y.1=j? .local
 frees:∀y∈scope.names,y.2=.free->X.env.kindOf y.1=j? .cell\/X.env.kindOf y.1=j? .free
 len:sl.length=N.length
 out:∀(j i:Nat) (x:Str),N[j]?=j? x->sl[j]?=j? (j? i)->X.N[i]?=j? x/\scope.names.lookup x=j? .free
abbrev d_ (X:Cx)(N:List Str)(scope:Scope)(own:Str)(cl:List (Str×o?))(C:o?)(s2:u?)(H2:Hp)(fp:List o?):Cx:=
 { X with N:=N,s₀:=s2,H₀:=H2,env:=compEnvC scope cl C X.env,outer:=X.stack,ex:=fp,fn:=λx=>decide (x=own),pn:=[],xe:=λ_ _=>False }
theorem Iw
  (hc:∀n acc,cellsFrom n scope.names acc=(own,n)::acc) (hp:∀h,pushCells h scope.names=h.push { cls:=.type "cell",data:=.cell q? })
  (hQ:Q (newEnv scope s.heap.objs.size globals ((own,s.heap.objs.size+1)::cl) qual q? .none (j? env) builtinsNs) { s with heap:=(s.heap.push { cls:=.type "dict",data:=.dict #[] }).push { cls:=.type "cell",data:=.cell q? } }):
  L? M A (newFunctionEnv scope globals cl [] qual q? .none (j? env)) Q E s:=by
 simp only[newFunctionEnv,Option.isSome_some,if_true]
 refine B? (wpAny_alloc ?_)
 refine B? (wpAny_layCells _ (λname kind cells=>by cases hkc:kind == O! <;> simp[hkc]) _ _ _ _ ?_)
 rw[hc,hp];rw[show({ s with heap:=s.heap.push { cls:=.type "dict",data:=.dict #[] } }:u?).heap.objs.size=s.heap.objs.size+1 from Wa ..]
 rw[List.forIn_nil];exact B? (J? (J? hQ))
section
variable {X:Cx} {N:List Str} {sl:List (Option Nat)} {scope:Scope} {own:Str}
theorem cL.clos (S:cL X N sl scope own)(ok:X.Ok):closureFor scope X.env=pure (bq X.env.cells scope.names []):=
 jU λy hy hf=>ok.has y.1 (S.frees y hy hf)
theorem cL.VD (S:cL X N sl scope own)(hf:scope.names.lookup x=j? .free)(hc:X.env.cells.lookup x=j? c):(bq X.env.cells scope.names []).lookup x=j? c:=
 mE hc _ _ (.inr (W? hf)) λd hd=>by simp at hd
theorem cL.cell (S:cL X N sl scope own)(hf:scope.names.lookup x=j? .free)(hc:X.env.cells.lookup x=j? c):((own,c0)::bq X.env.cells scope.names []).lookup x=j? c:=by
 have hne:(x == own)=false:=by
  refine beq_eq_false_iff_ne.mpr λz=>?_
  subst z;rw[S.ZS] at hf;cases hf
 rw[Y0,hne];exact S.VD hf hc
theorem Am{c c0:o?}(h:((own,c0)::cl).lookup x=j? c):(x=own/\c=c0)\/(x≠own/\cl.lookup x=j? c):=by
 rw[Y0] at h;cases e:x == own with
 | true=>rw[e] at h;exact .inl ⟨by simpa using e,(N? h).symm⟩
 | false=>rw[e] at h;exact .inr ⟨by simpa using e,h⟩
theorem cL.ok (S:cL X N sl scope own){pins:List (o?×Obj)}{σ:St}{H2:Hp}{s2:u?}{fp:List o?}{C c0:o?}(I:Inv X pins σ H2 s2)(hf:∀b∈fp,oS X pins H2 b)(hlt:∀b∈fp,b<s2.heap.objs.size)(hC:s2.heap.objs.size<=C)(hc0:s2.heap.objs.size<=c0):
  (d_ X N scope own ((own,c0)::bq X.env.cells scope.names []) C s2 H2 fp).Ok where
 mod:=I.ok.mod
 kind:=S.kind
 glob:=I.ok.glob
 blt:=I.ok.blt
 above:=hC
 inj:=λx y c h1 h2=>by
  rcases Am h1 with ⟨e1,e2⟩|⟨e1,e2⟩
  ·rcases Am h2 with ⟨e3,e4⟩|⟨e3,e4⟩
   ·rw[e1,e3]
   ·obtain⟨v,q⟩:=I.cell y c (bE.back e4)
    have:=q.lt
    rw[e2] at this;exact W3 (Yj this hc0) (Zb _)
  ·rcases Am h2 with ⟨e3,e4⟩|⟨e3,e4⟩
   ·obtain⟨v,q⟩:=I.cell x c (bE.back e2)
    have:=q.lt
    rw[e4] at this;exact W3 (Yj this hc0) (Zb _)
   ·exact I.ok.inj x y c (bE.back e2) (bE.back e4)
 has:=λx hx=>by
  have hx':scope.names.lookup x=j? .free\/scope.names.lookup x=j? .cell:=by
   rcases hx with hx|hx
   ·exact nX (.inl rfl) hx
   ·exact nX (.inr rfl) hx
  rcases hx' with hx'|hx'
  ·obtain⟨c,hc⟩:=I.ok.has x (S.frees _ (W? hx') rfl)
   exact⟨c,S.cell hx' hc⟩
  ·have:=S.VC x hx'
   subst this;exact⟨c0,by show Z2 x ((x,c0)::_)=_;rw[Y0,beq_self_eq_true]⟩
 R0:=λx c h hl=>by
  rcases Am hl with ⟨_,e2⟩|⟨e1,_⟩
  ·rw[e2];exact hc0
  ·exact W3 (Wz h) e1
 hd:=I.ok.hd
 frames:=I.ok.frames
 stk:=.inl rfl
 Us:=λb hb=>⟨Ym (Yj (hlt b hb) hC),λx c h=>by
  rcases Am h with ⟨_,e2⟩|⟨_,e2⟩
  ·rw[e2];exact Nat.ne_of_gt (Yj (hlt b hb) hc0)
  ·exact(hf b hb).2.2.2.2.1 x c (bE.back e2)⟩
 bs:=I.bs
 Hw:=Ys I.ok.Hw I.sz
 FE:=λb o e hb=>by
  rcases (hf b hb).2.2.2.1 with z|z
  ·exact I.ok.FE b o e z
  ·exact W3 (Yj (Yj (Yl e) I.ok.Hw) z) (Zb _)
 FF:=λb hb z=>by
  rcases List.mem_cons.mp (I.DW b z) with e|e
  ·exact(hf b hb).2.1 e
  ·exact(hf b hb).2.2.1 e
 sX:=I.stack
 Mg:=I.DX
theorem cL.again (S:cL X N sl scope own)(I:Inv X pins σ H2 s2)(hf:∀b∈fp,oS X pins H2 b)
 (J:Inv (d_ X N scope own ((own,c0)::bq X.env.cells scope.names []) C s2 H2 fp) pins' σ' H' s'):
  Inv (d_ X N scope own ((own,c0)::bq X.env.cells scope.names []) C s2 H2 fp) pins' (gj sl σ) H' s':=by
 obtain⟨m,hn,_⟩:=J.loc;refine⟨J.ok,J.os,J.bare,J.base,⟨m,hn,λj x v e1 e2 _=>?_⟩,J.cell,J.free,J.mw,J.pin,J.hok,?_⟩
 ·obtain⟨i,h1,h2⟩:=yh e2
  obtain⟨hN,hfree⟩:=S.out j i x e1 h1;have hk:=S.frees _ (W? hfree) rfl;obtain⟨m0,hn0,Vp⟩:=I.loc;have hv:Ur X.env.scope x:=by
   rcases hk with hk|hk
   ·exact .inr (.inl hk)
   ·exact .inr (.inr hk)
  obtain⟨u,r,l⟩:=Vp i x v hN h2 hv;refine⟨u,r,.inr ⟨?_,?_⟩⟩
  ·rcases gI (env:=X.env) hfree with z|z
   ·exact .inr z
   ·exact .inl z
  ·rcases l with ⟨z,_⟩|⟨_,c,hc,q⟩
   ·rcases hk with hk|hk
    ·have hk':X.env.kindOf x=j? .cell:=hk
     rw[hk'] at z;cases z
    ·have hk':X.env.kindOf x=j? .free:=hk
     rw[hk'] at z;cases z
   ·refine⟨c,S.cell hfree hc,?_⟩
    obtain⟨o,ho,hd⟩:=q;have Sw:c ∉ fp:=λz=>(hf c z).2.2.2.2.1 x c hc rfl
    obtain⟨YJ,e⟩:=J.base.any ho (I.mw x c hc) Sw;exact⟨_,e,hd⟩
 ·unfold gj
  rw[Yc];exact S.len
theorem Dq(S:cL X N sl scope own)(oY:X.calm=true)(hi:PI X tg iter wi)
  (hg:∀cl C s2 H2 fp,PG (d_ X N scope own cl C s2 H2 fp) tg g) (hif:∀cl C s2 H2 fp,Rr (d_ X N scope own cl C s2 H2 fp) ifs v7) (he:∀cl C s2 H2 fp,PE (d_ X N scope own cl C s2 H2 fp) elt te)
  (hs:∀x,foldedSetIterable iter X.env x=pure x) (I:Inv X pins σ H s) (h:Dd wi sl g v7 te σ H Q)
  (hend:∀(D C:o?) (H3:Hp) (s4:u?) (fl:Flow),Inv X pins σ H3 s4->H3 C=q?->C≠X.env.locals->C ∉ X.fs->X.s₀.heap.objs.size<=C->(∀x c,X.env.cells.lookup x=j? c->c≠C)->(∀p∈X.pn++pins,p.1≠C)->(∃m,s4.heap.Ns C m)->Q (.ref D) H3->
   compPost (T? X.prog X.w) X.A X.xe use QQ (.ref D) C (.ok fl) s4):
  L? (T? X.prog X.w) X.A (comprehension (.ListComp elt [⟨tg,iter,ifs,0⟩] scope pos) scope X.env pos2 (newList []) false (eval iter X.env) use) QQ X.xe s:=by
 refine wpAny_comprehension_free (use:=use) rfl hs (S.clos I.ok) S.kind S.locs (D! (hi pins s σ H _ I h) (λxv s1 h1=>D! h1 (λitv s2 h2=>?_) λ_ _ e=>e) λ_ _ e=>e)
 obtain⟨it,fp,tn,J,H2,rfl,I2,T,st2,f2,hR⟩:=h2;obtain⟨W,⟨m0,w0⟩,turn⟩:=hR _ I2.fresh;refine wpAny_newObj_type (Iw S.cells S.push ?_)
 dsimp only
 generalize hP:s2.heap.push { cls:=.type "list",dict:=q?,data:=.seq ([]:List l?).toArray }=P2;generalize hh1:(P2.push { cls:=.type "dict",data:=.dict #[] }).push { cls:=.type "cell",data:=.cell q? }=h₁;have hC:P2.objs.size=s2.heap.objs.size+1:=by rw[<- hP,Wa]
 have hDC:s2.heap.objs.size≠P2.objs.size:=by rw[hC];exact Ym (Wq _)
 have wC:s2.heap.objs.size<=P2.objs.size:=by rw[hC];exact Wg _
 have hcle:s2.heap.objs.size<=P2.objs.size+1:=Nat.le_succ_of_le wC;have hDc:s2.heap.objs.size≠P2.objs.size+1:=by rw[hC];exact Ym (Nat.lt_succ_of_lt (Wq _))
 have z5:h₁.Ns P2.objs.size (λ_=>q?):=hh1 ▸ (Heap.Ns.new P2 (.type "dict")).keeps (λb o e=>Yf _ e)
 have hlt:∀b∈fp,b<s2.heap.objs.size:=λb hb=>let ⟨o,e,_⟩:=T.obj 0 _ st2 b hb;Yl e
 have old:∀b o,s2.heap.get? b=j? o->h₁.get? b=j? o:=λb o e=>hh1 ▸ Yf _ (Yf _ (hP ▸ Yf _ e))
 have ZF:h₁.get? s2.heap.objs.size=j? { cls:=.type "list",dict:=q?,data:=.seq ([]:List l?).toArray }:=hh1 ▸ Yf _ (Yf _ (hP ▸ Yw _ rfl));have hc1:h₁.IsCell (P2.objs.size+1) q?:=by
  have:(P2.push { cls:=.type "dict",data:=.dict #[] }).objs.size=P2.objs.size+1:=Wa ..
  rw[<- this,<- hh1];exact⟨_,Yw _ rfl,rfl⟩
 have hok:=S.ok (C:=P2.objs.size) (c0:=P2.objs.size+1) I2 f2 hlt wC hcle;have Sx:yc X.prog X.w (upd H2 s2.heap.objs.size (.lst [])) h₁:=I2.hok.laid old (Yd _) ⟨Y2 _,[],_,.nil,ZF⟩;have ZG:Un (frs X.stack) fp H2 (upd H2 s2.heap.objs.size (.lst [])) s2.heap h₁:=Un.laid old (Yd _) I2.fresh;have Ia:∀x c,((own,P2.objs.size+1)::bq X.env.cells scope.names []).lookup x=j? c->∃v,h₁.IsCell c v:=λx c hc=>by
  rcases Am hc with ⟨_,e2⟩|⟨_,e2⟩
  ·rw[e2];exact⟨_,hc1⟩
  ·obtain⟨v,o,ho,hd⟩:=I2.cell x c (bE.back e2)
   exact⟨v,o,old c o ho,hd⟩
 have Ib:∀x c,((own,P2.objs.size+1)::bq X.env.cells scope.names []).lookup x=j? c->upd H2 s2.heap.objs.size (.lst []) c=q?:=λx c hc=>by
  rcases Am hc with ⟨_,e2⟩|⟨_,e2⟩
  ·rw[e2,aH (Ne.symm hDc)]
   exact I2.hok.fresh hcle
  ·obtain⟨v,q⟩:=I2.cell x c (bE.back e2)
   rw[aH (Ym q.lt)];exact I2.mw x c (bE.back e2)
 have Ic:upd H2 s2.heap.objs.size (.lst []) P2.objs.size=q?:=by
  rw[aH (Ne.symm hDC)];exact I2.hok.fresh wC
 have start:∀tk:Nat,Inv (d_ X N scope own ((own,P2.objs.size+1)::bq X.env.cells scope.names []) P2.objs.size s2 H2 fp) [] (gj sl σ) (upd H2 s2.heap.objs.size (.lst [])) { s2 with heap:=h₁,toks:=tk }:=λtk=>by
  have J0:Inv (d_ X N scope own ((own,P2.objs.size+1)::bq X.env.cells scope.names []) P2.objs.size s2 H2 fp) [] (Yt N.length q?) (upd H2 s2.heap.objs.size (.lst [])) { s2 with heap:=h₁,toks:=tk }:=
   ⟨hok,rfl,I2.bare,ZG,⟨_,z5,λi x v e1 e2 _=>by
    rw[List.getElem?_replicate] at e2;split at e2 <;> cases e2⟩,Ia,Ic,Ib,λp hp=>W3 (show p∈([]:List (o?×Obj)) from hp) (by simp),Sx,by simp⟩
  exact S.again I2 f2 J0
 have stK:tn 0 h₁:=T.keep _ _ _ st2 λb hb o e=>old b o e
 have ZH:∀b∈fp,upd H2 s2.heap.objs.size (.lst []) b=q?:=λb hb=>by
  rw[aH (Ym (hlt b hb))];exact(f2 b hb).1
 have zW:∀ {H':Hp},(∀b∈fp,H' b=q?)->∀b∈fp,oS (d_ X N scope own ((own,P2.objs.size+1)::bq X.env.cells scope.names []) P2.objs.size s2 H2 fp) [] H' b:=λhn b hb=>
  ⟨hn b hb,Ym (Yj (hlt b hb) wC),λz=>hok.FF b hb z,.inl hb,λx c hc=>(hok.Us b hb).2 x c hc,λp hp=>W3 (show p∈([]:List (o?×Obj)) from hp) (by simp)⟩
 have loop:∀tk:Nat,codeAny (T? X.prog X.w) X.A (.compLoop (.ListComp elt [⟨tg,iter,ifs,0⟩] scope pos) 0 (.ref it) (.ref s2.heap.objs.size) (compEnvC scope ((own,P2.objs.size+1)::bq X.env.cells scope.names []) P2.objs.size X.env))
   (compPost (T? X.prog X.w) X.A X.xe use QQ (.ref s2.heap.objs.size) P2.objs.size) { s2 with heap:=h₁,toks:=tk }:=λtk=>by
  refine codeAny_loop rfl (λn s'=>∃i H',Inv (d_ X N scope own ((own,P2.objs.size+1)::bq X.env.cells scope.names []) P2.objs.size s2 H2 fp) [] (gj sl σ) H' s'/\tn i s'.heap/\(∀b∈fp,H' b=q?)/\W i n H') ?_ m0 ⟨0,_,start tk,stK,ZH,w0⟩
  rintro n s3 ⟨i,H3,I3,st3,Rj,w3⟩;show L? _ X.A ((compTurn (.ListComp elt [⟨tg,iter,ifs,0⟩] scope pos) 0 (.ref it) (.ref s2.heap.objs.size) (compEnvC scope ((own,P2.objs.size+1)::bq X.env.cells scope.names []) P2.objs.size X.env)).onRaise (λx=>do noteFrame x (compEnvC scope ((own,P2.objs.size+1)::bq X.env.cells scope.names []) P2.objs.size X.env);theTreesLotGoes x)) _ _ s3
  refine wpAny_noted ?_
  rw[compTurn_list];rcases turn i n H3 w3 with ⟨stop,qn⟩|⟨go,step⟩
  ·refine B? (wpAny_standAt (B? (D! (T.done (d_ X N scope own ((own,P2.objs.size+1)::bq X.env.cells scope.names []) P2.objs.size s2 H2 fp) rfl rfl rfl oY i [] s3 _ H3 _ I3 (zW Rj) st3 stop) (λr s4 ⟨hr,I4⟩=>?_) λ_ _ z=>z)))
   subst hr;refine J? ?_
   obtain⟨m4,ZI,_⟩:=I4.loc;have u0:Un (frs X.stack) fp H2 H3 s2.heap s4.heap:=I4.base;have hI:Inv X pins σ H3 s4:=I2.Rh (s':=s4) (ch:=fp) I4.os u0 I4.hok I4.bare λb hb=>⟨(f2 b hb).2.2.2.1,(f2 b hb).2.1,(f2 b hb).2.2.2.2.1,(f2 b hb).2.2.2.2.2⟩
   have P0:=I2.yC (H':=H3) wC I4.free;exact hend _ _ H3 s4 _ hI I4.free P0.2.1 P0.2.2.1 (Ys I2.sz wC) P0.2.2.2.2.1 P0.2.2.2.2.2 ⟨m4,ZI⟩ qn
  ·refine B? (wpAny_standAt (B? (D! (T.item (d_ X N scope own ((own,P2.objs.size+1)::bq X.env.cells scope.names []) P2.objs.size s2 H2 fp) rfl rfl rfl oY i [] s3 _ H3 (λ_ _=>False) I3 (zW Rj) st3 go) (λr s4 ⟨u,hr,h4⟩=>?_) λ_ _ z=>z.elim)))
   subst hr;refine B? (D! h4 (λ_ s5 ⟨x,H5,I5,r5,y5,Mn,Vd⟩=>?_) λ_ _ z=>z.elim)
   have Ve:=I5.pinned (zW Vd) (T.obj _ _ Mn);refine B? (D! (hg _ _ _ _ _ _ s5 _ H5 x u _ Ve r5 (step x H5 y5)) (λ_ s6 ⟨σ6,H6,I6,q6⟩=>?_) λ_ _ z=>(show False from z).elim)
   have again:∀ {σ7:St} {H7:Hp} {s7:u?},Inv (d_ X N scope own ((own,P2.objs.size+1)::bq X.env.cells scope.names []) P2.objs.size s2 H2 fp) ([]++wo fp s5.heap) σ7 H7 s7->(∃m',m'<n/\W (i+1) m' H7)->
     ∃m',m'<n/\∃i H',Inv (d_ X N scope own ((own,P2.objs.size+1)::bq X.env.cells scope.names []) P2.objs.size s2 H2 fp) [] (gj sl σ) H' s7/\tn i s7.heap/\(∀b∈fp,H' b=q?)/\W i m' H':=λ{σ7 H7 s7} I7 ⟨m',hm,w7⟩=>by
    refine⟨m',hm,i+1,H7,S.again I2 f2 I7.oU,T.keep _ _ _ Mn λb hb o e=>(I7.pin (b,o) (Yn _ (Yn _ (fU hb e)))).1,λb hb=>?_,w7⟩
    obtain⟨o,e,d⟩:=T.obj _ _ Mn b hb;exact(I7.pin (b,o) (Yn _ (Yn _ (fU hb e)))).2.1
   refine B? (D! (hif _ _ _ _ _ _ s6 σ6 H6 _ I6 q6) (λok s7 ⟨H7,I7,q7⟩=>?_) λ_ _ z=>(show False from z).elim)
   cases ok with
   | false=>
    exact J? ⟨rfl,again I7 (by simpa using q7)⟩
   | true=>
    rw[Wx rfl] at q7;refine B? (B? (D! ((he _ _ _ _ _).out _ s7 σ6 H7 _ I7 q7) (λy s8 ⟨yv,H8,I8,r8,ys,hys,hlen,w8⟩=>?_) λ_ _ z=>(show False from z).elim))
    refine B? (D! (eW (X:=d_ X N scope own ((own,P2.objs.size+1)::bq X.env.cells scope.names []) P2.objs.size s2 H2 fp) _ s8 σ6 H8 (.ref s2.heap.objs.size) [yv] (.ref s2.heap.objs.size) [y]
     (λv H9=>v=.d8/\∃m',m'<n/\W (i+1) m' H9) I8 rfl (.cons r8 .nil) ⟨_,ys,yv,rfl,rfl,hys,hlen,rfl,w8⟩) (λr s9 ⟨v9,H9,I9,r9,e9,w9⟩=>?_) λ_ _ z=>(show False from z).elim)
    exact J? (J? ⟨rfl,again I9 w9⟩)
 exact codeAny_compStart_list (loop _) (T.self _ 0 _ _ _ stK (loop _))
theorem M9(S:cL X N sl scope own)(oY:X.calm=true)(hi:PI X tg iter wi)
  (hg:∀cl C s2 H2 fp,PG (d_ X N scope own cl C s2 H2 fp) tg g) (hif:∀cl C s2 H2 fp,Rr (d_ X N scope own cl C s2 H2 fp) ifs v7) (he:∀cl C s2 H2 fp,PE (d_ X N scope own cl C s2 H2 fp) elt te)
  (hs:∀x,foldedSetIterable iter X.env x=pure x:=by intro _;rfl):
  PE X (.ListComp elt [⟨tg,iter,ifs,0⟩] scope pos) (Dd wi sl g v7 te):=by
 refine⟨?_⟩
 intro pins s σ H Q I h;rw[eval_ListComp];refine Dq S oY hi hg hif he hs I h λD C H3 s4 fl I4 n1 n2 n3 n4 n5 n6 ⟨m,hn⟩ q=>?_
 exact⟨m,hn,λh' OV=>⟨.ref D,H3,I4.turned (t':=s4.toks) (λb o hb e=>(OV.2 b hb).trans e) n1 n2 (.inr n4) n5 n6,rfl,q⟩⟩
end
def An (scope JR:Scope):Scope:=
 { scope with names:=scope.names.map λ(n,k)=>if (k == .free && JR.kind == .function && JR.names.lookup n == j? .cell) then (n,.cell) else (n,k) }
theorem Gf {own:Str}:∀ {names:List (Str×NameKind)},(names.filter λy=>decide (y.2=.cell))=[(own,.cell)]->(∀n acc,cellsFrom n names acc=(own,n)::acc)/\∀h,pushCells h names=h.push { cls:=.type "cell",data:=.cell q? }
 | [],h=>by simp at h
 | (x,k)::r,h=>by
  by_cases c:k=.cell
  ·subst c
   rw[List.filter_cons_of_pos (by simp)] at h
   have h1:x=own:=W1 Prod.fst (List.cons.inj h).1;have h2:(r.filter λy=>decide (y.2=.cell))=[]:=(List.cons.inj h).2
   have q?:∀(l:List (Str×NameKind)),(l.filter λy=>decide (y.2=.cell))=[]->(∀n acc,cellsFrom n l acc=acc)/\∀h,pushCells h l=h:=by
    intro l;induction l with
    | nil=>intro _;exact⟨λ_ _=>rfl,λ_=>rfl⟩
    | cons y l ih=>
     intro hl;obtain⟨y1,y2⟩:=y;have hy:y2≠.cell:=λz=>by
      rw[List.filter_cons_of_pos (by simpa using z)] at hl
      cases hl
     rw[List.filter_cons_of_neg (by simpa using hy)] at hl
     obtain⟨i1,i2⟩:=ih hl;have hb:(y2 == O!)=false:=by simpa using hy
     refine⟨λn acc=>?_,λh=>?_⟩
     ·unfold cellsFrom;rw[hb];exact i1 n acc
     ·unfold pushCells;rw[hb];exact i2 h
   obtain⟨n1,n2⟩:=q? r h2;subst h1;refine⟨λn acc=>?_,λh=>?_⟩
   ·unfold cellsFrom;exact n1 _ _
   ·unfold pushCells;exact n2 _
  ·rw[List.filter_cons_of_neg (by simpa using c)] at h
   obtain⟨i1,i2⟩:=Gf h;have hb:(k == O!)=false:=by simpa using c
   refine⟨λn acc=>?_,λh=>?_⟩
   ·unfold cellsFrom;rw[hb];exact i1 n acc
   ·unfold pushCells;rw[hb];exact i2 h
def J7 (JR:Scope)(ON N:List Str)(sl:List (Option Nat))(scope:Scope)(own:Str):Bool:=
 decide (scope.kind=.function) && decide ((scope.names.filter λy=>decide (y.2=.cell))=[(own,.cell)]) && decide (scope.names.lookup own=j? .cell) && scope.names.all (λy=>decide (y.2=.local->scope.names.lookup y.1=j? .local)) &&
 scope.names.all (λy=>decide (y.2=.free->JR.names.lookup y.1=j? .cell\/JR.names.lookup y.1=j? .free)) && decide (sl.length=N.length) &&
 (Yi N.length).all λj=>match N[j]?,sl[j]? with
  | some x,j? (j? i)=>decide (ON[i]?=j? x/\scope.names.lookup x=j? .free)
  | _,_=>true
theorem nY(own)(JR)(ON)(h1:X.env.scope=JR)(h2:X.N=ON)(hb:J7 JR ON N sl scope own=true):cL X N sl scope own:=by
 unfold J7 at hb;simp only[V?,decide_eq_true_eq,Zj] at hb
 obtain⟨⟨⟨⟨⟨⟨b1,b2⟩,b2'⟩,b3⟩,b4⟩,b5⟩,b6⟩:=hb;obtain⟨o1,o2⟩:=Gf b2;refine⟨b1,o1,o2,λx hx=>?_,b2',b3,λy hy hf=>?_,b5,λj i x e1 e2=>?_⟩
 ·have:(x,O!)∈(scope.names.filter λy=>decide (y.2=.cell)):=List.mem_filter.mpr ⟨W? hx,by simp⟩
  rw[b2] at this;exact W1 Prod.fst (List.mem_singleton.mp this)
 ·have:=b4 y hy hf
  show X.env.scope.names.lookup y.1=_\/X.env.scope.names.lookup y.1=_
  rw[h1];exact this
 ·have hj:j<N.length:=(List.getElem?_eq_some_iff.mp e1).1
  have:=b6 j (List.mem_range.mpr hj)
  rw[e1,e2] at this;have q:=Wz this;rw[h2];exact q
def Iz:R?->Scope
 | .Return (j? (.ListComp _ _ sc _)) _=>sc
 | .Assign _ (.ListComp _ _ sc _) _=>sc
 | _=>default
end L2
namespace L2
open PySem PySem.Spec PySem.W PyProof.Rows
section
variable {X:Cx} {N:List Str} {sl:List (Option Nat)} {scope:Scope} {own:Str}
theorem Gg(hN:X.N.Nodup)(hi':X.N[i]?=j? x)(hx:Loc X.env.scope x)(S:cL X N sl scope own)(oY:X.calm=true)(hi:PI X tg iter wi)
  (hg:∀cl C s2 H2 fp,PG (d_ X N scope own cl C s2 H2 fp) tg g) (hif:∀cl C s2 H2 fp,Rr (d_ X N scope own cl C s2 H2 fp) ifs v7) (he:∀cl C s2 H2 fp,PE (d_ X N scope own cl C s2 H2 fp) elt te)
  (hsw:swapsWith (.ListComp elt [⟨tg,iter,ifs,0⟩] scope cpos) (j? (.Name x pos')) pos.line X.env=pure true:=by rfl)
  (hs:∀x,foldedSetIterable iter X.env x=pure x:=by intro _;rfl) (hf:X.fn x=true\/X.env.scope.names.lookup x=j? .local:=by first|exact .inl rfl|exact .inr rfl|assumption):
  PS X (.Assign [.Name x pos'] (.ListComp elt [⟨tg,iter,ifs,0⟩] scope cpos) pos) (Pn (Dd wi sl g v7 te) (gG i)):=by
 refine⟨?_⟩
 intro pins s σ H D0 I h;rw[exec_Assign_Name_used _ _ _ _ hsw];refine B? (wpAny_standAt (B? ?_))
 show L? _ X.A (do let _ <- comprehension (.ListComp elt [⟨tg,iter,ifs,0⟩] scope cpos) scope X.env _ (newList []) false (eval iter X.env) (j? (assign (.Name x pos') X.env))) _ _ s
 refine B? (D! (Dq (QQ:=λ_ s'=>∃σ' H',Inv X pins σ' H' s'/\D0.nx σ' H') (use:=j? (assign (.Name x pos') X.env)) S oY hi hg hif he hs I h λD C H3 s4 fl I4 n1 n2 n3 n4 n5 n6 hm q=>?_)
  (λ_ s' hq=>J? (J? hq)) λ_ _ e=>e)
 obtain⟨m,hn⟩:=hm;show L? _ X.A (assign (.Name x pos') X.env (.ref D)) _ _ _
 refine wpAny_assign_Name (wm I4 hN hi' hx (show RelV (.ref D) (.ref D) from rfl) (λs5 I5 ⟨a,OV,ha⟩=>?_) hf)
 have ZJ:C≠a:=by
  rcases ha with rfl|ha
  ·exact n2
  ·exact λz=>n5 _ _ ha z.symm
 refine⟨m,hn.sameBut OV ZJ,λh' Sy=>⟨_,H3,I5.turned (t':=s5.toks) (λb o hb e=>(Sy.2 b hb).trans e) n1 n2 (.inr n4) n5 n6,q⟩⟩
end
end L2
namespace L2
open PySem PySem.Spec PyProof.Rows
section
variable {X:Cx} {tg:Expr}
end
end L2
namespace L2
open PySem PySem.Spec PySem.W PyProof.Rows
section
variable {prog:F?} {w:H?} {A:C!} {E:l?->u?->Prop}
variable {s:u?}
end
section
variable {X:Cx}
end
end L2
namespace L2
open PySem
section
variable {K:bK} {mg:Str->Option l?} {x qual:Str} {st:R?} {ps:List Str} {C:o?}
def VE (K:bK)(x qual:Str)(st:R?)(f:o?):Prop:=∃(oc:l?) (od an:Option o?) (osl:Array (Option l?)) (kV doc pm cdv ct:l?),K.lookup f=j? ⟨oc,od,.func (Z? x qual (cV st) (bY st) (aj st) .none kV doc pm an cdv ct),osl⟩/\PySem.W.codeIn K cdv qual=true/\PySem.W.keepIn K (.ref f)=true
def d7 (K:bK)(x:Str)(st:R?):Prop:=∃f,O? K G? x=j? (j? (.ref f))/\VE K x x st f
def dJ (K:bK)(C:o?)(m qual:Str)(st:R?):Prop:=∃f,M? K (.ref C) m=j? (j? (.ref f))/\PySem.W.isFn K (.ref f)=true/\VE K m qual st f
def IA (x qual:Str)(st:R?)(ps:List Str):Prop:=∀(kV doc pm:l?) (an:Option o?) (cdv ct:l?) (us:List l?),us.length=ps.length->bindArgs (Z? x qual (cV st) (bY st) (aj st) .none kV doc pm an cdv ct) ⟨us,[]⟩=pure (ps.zip us)
theorem VF {f:o?}{oc:l?}{od an:Option o?}{osl:Array (Option l?)}{kV doc pm cdv ct:l?}(a:O? K G? x=j? (j? (.ref f)))(l:K.lookup f=j? ⟨oc,od,.func (Z? x x (cV st) (bY st) (aj st) .none kV doc pm an cdv ct),osl⟩)(c:U! K cdv x=true)(k:E! K (.ref f)=true):d7 K x st:=
 ⟨f,a,oc,od,an,osl,kV,doc,pm,cdv,ct,l,c,k⟩
theorem VG {f:o?}{oc:l?}{od an:Option o?}{osl:Array (Option l?)}{kV doc pm cdv ct:l?}(a:M? K (.ref C) x=j? (j? (.ref f)))(i:PySem.W.isFn K (.ref f)=true)(l:K.lookup f=j? ⟨oc,od,.func (Z? x qual (cV st) (bY st) (aj st) .none kV doc pm an cdv ct),osl⟩)(c:U! K cdv qual=true)(k:E! K (.ref f)=true):dJ K C x qual st:=
 ⟨f,a,i,oc,od,an,osl,kV,doc,pm,cdv,ct,l,c,k⟩
theorem bQ {h:Q?}(X:K.In h)(G:h.Ns G? mg)(g:d7 K x st)(hb:IA x x st ps):Src K mg x st ps:=by
 obtain⟨f,a,oc,od,an,osl,kV,doc,pm,cdv,ct,l,c,k⟩:=g;exact SD X G a l c k hb
theorem bw (g:dJ K C x qual st)(hb:IA x qual st ps):bG K C x qual st ps:=by
 obtain⟨f,a,i,oc,od,an,osl,kV,doc,pm,cdv,ct,l,c,k⟩:=g;exact P8 a i l c k hb
theorem Er {h:Q?}{y:Str}(X:K.In h)(G:h.Ns G? mg)(mk:PySem.W.makesIn K C=true)(kc:E! K (.ref C)=true)(aC:O? K G? y=j? (j? (.ref C)))(g:dJ K C "__init__" qual st)(hb:IA "__init__" qual st ps):∃f fd,Mk K C f/\Fd K "__init__" qual st f fd/\Binds K fd ps []/\mg y=j? (.ref C):=by
 obtain⟨f,a,i,oc,od,an,osl,kV,doc,pm,cdv,ct,l,c,k⟩:=g;exact⟨f,_,⟨mk,a,i,kc⟩,p9 l c k,(p9 l c k).binds (ps:=ps) hb,PySem.W.mg_of X G aC⟩
theorem jV {us:List l?}(h:us.length=n+1):∃x t,us=x::t/\t.length=n:=by
 cases us with
 | nil=>simp at h
 | cons x t=>exact⟨x,t,rfl,by simpa using h⟩
theorem bd1(h:∀(kV doc pm:l?) (an:Option o?) (cdv ct:l?) (u0:l?),bindArgs (Z? x qual (cV st) (bY st) (aj st) .none kV doc pm an cdv ct) ⟨[u0],[]⟩=pure ([(a0,u0)])):IA x qual st [a0]:=by
 intro a b c d e f us hl;obtain⟨u0,t0,rfl,h0⟩:=jV hl;obtain rfl:=Zs h0
 exact h a b c d e f u0
theorem bd2(h:∀(kV doc pm:l?) (an:Option o?) (cdv ct:l?) (u0 u1:l?),bindArgs (Z? x qual (cV st) (bY st) (aj st) .none kV doc pm an cdv ct) ⟨[u0,u1],[]⟩=pure ([(a0,u0),(a1,u1)])):IA x qual st [a0,a1]:=by
 intro a b c d e f us hl;obtain⟨u0,t0,rfl,h0⟩:=jV hl;obtain⟨u1,t1,rfl,h1⟩:=jV h0;obtain rfl:=Zs h1
 exact h a b c d e f u0 u1
theorem bd3(h:∀(kV doc pm:l?) (an:Option o?) (cdv ct:l?) (u0 u1 u2:l?),bindArgs (Z? x qual (cV st) (bY st) (aj st) .none kV doc pm an cdv ct) ⟨[u0,u1,u2],[]⟩=pure ([(a0,u0),(a1,u1),(a2,u2)])):IA x qual st [a0,a1,a2]:=by
 intro a b c d e f us hl;obtain⟨u0,t0,rfl,h0⟩:=jV hl;obtain⟨u1,t1,rfl,h1⟩:=jV h0;obtain⟨u2,t2,rfl,h2⟩:=jV h1;obtain rfl:=Zs h2
 exact h a b c d e f u0 u1 u2
theorem bd4(h:∀(kV doc pm:l?) (an:Option o?) (cdv ct:l?) (u0 u1 u2 u3:l?),bindArgs (Z? x qual (cV st) (bY st) (aj st) .none kV doc pm an cdv ct) ⟨[u0,u1,u2,u3],[]⟩=pure ([(a0,u0),(a1,u1),(a2,u2),(a3,u3)])):IA x qual st [a0,a1,a2,a3]:=by
 intro a b c d e f us hl;obtain⟨u0,t0,rfl,h0⟩:=jV hl;obtain⟨u1,t1,rfl,h1⟩:=jV h0;obtain⟨u2,t2,rfl,h2⟩:=jV h1;obtain⟨u3,t3,rfl,h3⟩:=jV h2;obtain rfl:=Zs h3
 exact h a b c d e f u0 u1 u2 u3
end
end L2
namespace L2
open PySem PySem.Spec PyProof.Rows Alg
theorem cW(n:H l=q?)(hX:upd H l o=H'):ay H H'/\H' l=j? o:=by
 subst hX;exact⟨av n _,aq⟩
theorem bT{I:Type}(f:I->St)(P:I->Hp->Prop)(h1:∀C:St->Hp->Prop,(∀i H,P i H->C (f i) H)->a { D with nx:=C } σ H)(h2:∀i H,P i H->b D (f i) H):FJ a b D σ H:=h1 (b D) h2
theorem dU{I:Type}{f:I->St}{P:I->Hp->Prop}(k:∀i H,P i H->C (f i) H)(i)(p:P i H)(e:σ.set j (j? v)=f i):gG j v σ H C:=by
 show C (σ.set j (j? v)) H
 rw[e];exact k i H p
end L2
namespace L2
open PySem PySem.Spec PyProof.Rows
theorem Qi {K:bK}{a b:o?}{xs ys:List V}{g:TG}{tb:TS}{D:Ends}{σ:St}{H:Hp}(Pv:Nat->St->Hp->Prop)(hle:xs.length=ys.length)(h0:Pv 0 σ H)(hl:∀i σ H,i<=xs.length->Pv i σ H->aU K H a xs/\aU K H b ys)
  (hs:∀i x y r σ H,xs[i]?=j? x->ys[i]?=j? y->H r=q?->Pv i σ H->g (.ref r) σ (upd H r (.tup [x,y])) λσ2 H2=>tb { D with nx:=Pv (i+1),ct:=Pv (i+1),bk:=D.nx } σ2 H2) (hd:∀σ H,Pv xs.length σ H->D.nx σ H):
  ∃W:Nat->Nat->St->Hp->Prop,(∃m,W 0 m σ H)/\∀i m σ H,W i m σ H->
   ((Rx K a b).stop i H/\D.nx σ H)\/((Rx K a b).go i H/\∃N:St->Hp->Prop,(∀σ' H',N σ' H'->∃m',m'<m/\W (i+1) m' σ' H')/\∀x H',(Rx K a b).R9 i H x H'->g x σ H' λσ2 H2=>tb { D with nx:=N,ct:=N,bk:=D.nx } σ2 H2):=by
 refine⟨λi m σ H=>m=xs.length-i/\i<=xs.length/\Pv i σ H,⟨xs.length,by simp,Y2 _,h0⟩,?_⟩
 rintro i m σ H ⟨rfl,hi,p⟩;obtain⟨q1,q2⟩:=hl i σ H hi p;by_cases hlt:i<xs.length
 ·have MW:i<ys.length:=by omega
  refine .inr ⟨⟨xs,ys,xs[i],ys[i],q1,q2,by simp[hlt],by simp[MW]⟩,Pv (i+1),λσ' H' p'=>⟨xs.length-(i+1),by omega,rfl,hlt,p'⟩,λv H' y=>?_⟩
  obtain⟨r,x,y',e1,hr,hx,hy,e2⟩:=y;subst e1 e2;exact hs i x y' r σ _ (hx xs q1) (hy ys q2) hr p
 ·have e:i=xs.length:=by omega
  subst e;exact .inl ⟨⟨xs,ys,q1,q2,.inl (Yd _)⟩,hd σ H p⟩
end L2
namespace L2
open PySem PySem.Spec PyProof.Rows Alg
theorem vz{f g:aF T.α}(a:Nz T n f)(b:Nz T m g):Nz T (if n=0\/m=0 then 0 else n+m-1) (f*g):=by
 refine⟨u5 a.dg b.dg,?_⟩
 by_cases c:n=0\/m=0
 ·rw[Wx c];exact .inl rfl
 ·rw[Ww c]
  have h:=(iT g (m-1) (by rw[show m-1+1=m by omega];exact b.dg) (n-1) f (by rw[show n-1+1=n by omega];exact a.dg)).1
  rw[show n-1+(m-1)=n+m-1-1 by omega] at h
  refine .inr λz=>?_
  rw[h] at z;rcases T.fld.dom _ _ z with y|y
  ·exact(a.last.resolve_left (by omega)) y
  ·exact(b.last.resolve_left (by omega)) y
theorem M_ {T:cj}{d:aF T.α}:∀N,Dg d N->∃k,k<=N/\Nz T k d
 | 0,h=>⟨0,Yd _,h,.inl rfl⟩
 | N+1,h=>by
  by_cases c:d.c N=0
  ·obtain⟨k,hk,nz⟩:=M_ N λi hi=>by
    by_cases e:i=N
    ·rw[e];exact c
    ·exact h i (by omega)
   exact⟨k,by omega,nz⟩
  ·exact⟨N+1,Yd _,h,.inr c⟩
theorem Dr{d:aF T.α}(h:aX d):∃k,Nz T k d:=by
 obtain⟨N,h⟩:=h;obtain⟨k,_,z⟩:=M_ N h;exact⟨k,z⟩
theorem Nb{f e x y:aF T.α}(nf:Nz T (n+1) f)(de:aX e)(dx:aX x)(h:e*f=x*f+y)(ny:Nz T k y)(hk:k<=n):e=x/\y=0/\k=0:=by
 obtain⟨j,nd⟩:=Dr (T:=T) (d:=e-x) (de.sub dx);have hp:=vz nd nf;have ey:(e-x)*f=y:=by grind
 rw[ey] at hp;have hj:=hp.uniq ny;by_cases c:j=0
 ·subst c
  have z:=nd.dg.Fc;have y0:y=0:=by rw[<- ey,z];grind
  refine⟨by grind,y0,?_⟩
  rw[<- hj,Wx (.inl rfl)]
 ·rw[Ww (by omega)] at hj
  omega
theorem mJ{g:aF T.α}(h:Alg.bH g k):Nz T (k+1) g:=⟨h.dg,.inr (by rw[show k+1-1=k by omega,h.top];exact T.fld.1)⟩
theorem vA {T:cj}{g g' c:aF T.α}(h:Alg.bH g k)(h':Alg.bH g' k')(hc:aX c)(e:g'=c*g):k<=k'/\(k=k'->g'=g):=by
 obtain⟨j,nc⟩:=Dr hc;have hp:=vz nc (mJ h);rw[<- e] at hp;have hj:=hp.uniq (mJ h');by_cases j0:j=0
 ·rw[Wx (.inl j0)] at hj;omega
 ·rw[Ww (by omega)] at hj
  refine⟨by omega,λkk=>?_⟩
  have j1:j=1:=by omega
  subst j1;have ec:=iz nc.dg;have top:=(iT g k h.dg 0 c nc.dg).1;rw[Zm,<- e,kk,h'.top,<- kk,h.top] at top;have c1:c.c 0=1:=by grind
  rw[c1] at ec;rw[e,ec];exact sP g
theorem iM.ge(h:iM T s t g k)(h':iM T s t g' k'):k<=k'/\(k=k'->g'=g):=by
 obtain⟨u,v,hu,hv,e⟩:=h'.sum;obtain⟨x,hx,es⟩:=h.left;obtain⟨y,hy,et⟩:=h.right;exact vA h.mon h'.mon ((hu.mul hx).add (hv.mul hy)) (by rw[e,es,et];grind)
theorem iM.uniq(h:iM T s t g k)(h':iM T s t g' k'):k=k'/\g=g':=by
 have e:k=k':=Nat.le_antisymm (h.ge h').1 (h'.ge h).1;exact⟨e,((h.ge h').2 e).symm⟩
theorem nC {T:cj}:Alg.bH (1:aF T.α) 0:=⟨rfl,Dg.one⟩
theorem fF {T:cj}{a b:aF T.α}(ha:Alg.bH a n)(hb:Alg.bH b m):Alg.bH (a*b) (n+m):=by
 obtain⟨h1,h2⟩:=iT b m hb.dg n a ha.dg;exact⟨by rw[h1,ha.top,hb.top];grind,h2⟩
end L2
namespace Alg
open Lean.Grind
def Cd (α:Type)(q:Nat):Prop:=∃L:List α,L.Nodup/\(∀x,x∈L)/\L.length=q
theorem Ds {β:Type}{s t:List β}{x:β}(h:(s++x::t).Nodup):(s++t).Nodup/\x ∉ s/\x ∉ t:=by
 refine⟨h.sublist (List.Sublist.append (List.Sublist.refl s) (List.sublist_cons_self x t)),?_,?_⟩
 ·intro z
  have:=List.nodup_append.mp h
  exact this.2.2 x z x Yg rfl
 ·have:=(List.nodup_append.mp h).2.1
  exact(List.nodup_cons.mp this).1
section
variable {α:Type} [CommRing α]
def B0:List α->α
 | []=>1
 | x::l=>x*B0 l
theorem Es:∀a b:List α,B0 (a++b)=B0 a*B0 b
 | [],b=>by show B0 b=1*B0 b;grind
 | x::a,b=>by
  show x*B0 (a++b)=x*B0 a*B0 b
  rw[Es a b];grind
theorem Gh:∀a b:List α,a.Nodup->b.Nodup->(∀x,x∈a↔x∈b)->B0 a=B0 b
 | [],b,_,_,h=>by
  cases b with
  | nil=>rfl
  | cons y b=>exact W3 ((h y).mpr Yg) (by simp)
 | x::a,b,ha,hb,h=>by
  obtain⟨s,t,rfl⟩:=List.append_of_mem ((h x).mp Yg);obtain⟨h1,h2,h3⟩:=Ds hb;obtain⟨hx,ha'⟩:=List.nodup_cons.mp ha;have ih:=Gh a (s++t) ha' h1 λy=>by
   constructor
   ·intro hy
    have:=(h y).mp (Ye _ hy)
    rcases List.mem_append.mp this with z|z
    ·exact Zk _ z
    ·rcases List.mem_cons.mp z with z|z
     ·exact W3 (z ▸ hy) hx
     ·exact Yn _ z
   ·intro hy
    have hb':y∈s++x::t:=(List.mem_append.mp hy).elim (λz=>Zk _ z) (λz=>Yn _ (Ye _ z))
    rcases List.mem_cons.mp ((h y).mpr hb') with z|z
    ·rw[z] at hy
     rcases List.mem_append.mp hy with w|w
     ·exact W3 w h2
     ·exact W3 w h3
    ·exact z
  show x*B0 a=_
  rw[ih,Es,Es];show x*(B0 s*B0 t)=B0 s*(x*B0 t)
  grind
theorem J8 (x:α):∀l:List α,B0 (l.map (x*·))=x ^ l.length*B0 l
 | []=>by show(1:α)=x ^ 0*1;rw[br];grind
 | y::l=>by
  show x*y*B0 (l.map (x*·))=x ^ (l.length+1)*(y*B0 l)
  rw[J8 x l,aR];grind
theorem Nc (hF:L8 α):∀l:List α,(∀x∈l,x≠0)->B0 l≠0
 | [],_=>hF.1
 | y::l,h=>λz=>by
  rcases hF.dom _ _ z with w|w
  ·exact h y Yg w
  ·exact Nc hF l (λx hx=>h x (Ye _ hx)) w
theorem S5 (hF:L8 α)(c:Cd α q)(x:α):x ^ q=x:=by
 obtain⟨L,nd,all,len⟩:=c;obtain⟨s,t,rfl⟩:=List.append_of_mem (all 0);obtain⟨h1,h2,h3⟩:=Ds nd;have hq:q=(s++t).length+1:=by rw[<- len,Yk,Yk];simp;omega
 by_cases x0:x=0
 ·rw[x0,hq,lN (by omega)]
 ·have nz:∀y∈s++t,y≠0:=λy hy z=>by
   rw[z] at hy;exact(List.mem_append.mp hy).elim h2 h3
  have mem:∀y:α,y≠0->y∈s++t:=λy hy=>by
   rcases List.mem_append.mp (all y) with z|z
   ·exact Zk _ z
   ·rcases List.mem_cons.mp z with z|z
    ·exact W3 z hy
    ·exact Yn _ z
  obtain⟨y,hy⟩:=hF.2 x x0;have e:=Gh ((s++t).map (x*·)) (s++t) (List.pairwise_map.mpr (h1.imp λ{a b} h e=>h (by
    have e:x*a=x*b:=e;have:y*(x*a)=y*(x*b):=by rw[e]
    grind))) h1 λz=>by
   rw[List.mem_map];constructor
   ·rintro⟨w,hw,rfl⟩
    refine mem _ λz=>?_
    rcases hF.dom _ _ z with a|a
    ·exact x0 a
    ·exact nz w hw a
   ·intro hz
    have z0:=nz z hz;refine⟨y*z,mem _ λw=>?_,?_⟩
    ·have:x*(y*z)=0:=by rw[w];grind
     exact z0 (by grind)
    ·show x*(y*z)=z
     grind
  rw[J8] at e;have p0:=Nc hF (s++t) nz;have:(x ^ (s++t).length-1)*B0 (s++t)=0:=by grind
  rcases hF.dom _ _ this with z|z
  ·rw[hq,aR]
   grind
  ·exact W3 z p0
theorem Ao {β γ:Type}(f:β->List γ):∀l:List β,l.Nodup->(∀x∈l,(f x).Nodup)->(∀x∈l,∀y∈l,∀z,z∈f x->z∈f y->x=y)->(l.flatMap f).Nodup
 | [],_,_,_=>by simp
 | x::l,h,hf,hd=>by
  obtain⟨hx,hl⟩:=List.nodup_cons.mp h;rw[List.flatMap_cons,List.nodup_append];refine⟨hf x Yg,Ao f l hl (λy hy=>hf y (Ye _ hy)) λy hy z hz w=>hd y (Ye _ hy) z (Ye _ hz) w,λa ha b hb e=>?_⟩
  rw[List.mem_flatMap] at hb;obtain⟨y,hy,hb⟩:=hb;subst e;have:=hd x Yg y (Ye _ hy) a ha hb
  exact hx (this ▸ hy)
theorem Gi {β γ:Type}(f:β->List γ)(q:Nat):∀l:List β,(∀x∈l,(f x).length=q)->(l.flatMap f).length=l.length*q
 | [],_=>by simp
 | x::l,h=>by
  rw[List.flatMap_cons,Yk,h x Yg,Gi f q l λy hy=>h y (Ye _ hy),Zf,Wu]
  omega
theorem RB {q:Nat}(c:Cd α q):∀n,∃L:List (aF α),L.Nodup/\(∀s,s∈L↔Dg s n)/\L.length=q ^ n
 | 0=>⟨[0],by simp,λs=>by
   rw[List.mem_singleton];exact⟨λe=>by rw[e];exact Dg.zero 0,λh=>h.Fc⟩,by simp⟩
 | n+1=>by
  obtain⟨L,nd,mem,len⟩:=RB c n;obtain⟨A,na,all,la⟩:=c;have key:∀(s:aF α) (x:α),Dg s n->(s+mon x n).c n=x/\∀i,i≠n->(s+mon x n).c i=s.c i:=λs x h=>by
   refine⟨?_,λi hi=>?_⟩
   ·rw[nk,h n (Yd _)]
    show 0+(if n=n then x else 0)=x
    rw[Wx rfl];grind
   ·rw[nk]
    show s.c i+(if i=n then x else 0)=_
    rw[Ww hi];grind
  refine⟨L.flatMap λs=>A.map λx=>s+mon x n,?_,λs=>?_,?_⟩
  ·refine Ao _ L nd (λs hs=>?_) λs hs t ht z hz hz'=>?_
   ·refine List.pairwise_map.mpr (na.imp λ{a b} h e=>h ?_)
    have hs:=(mem s).mp hs;have:=W1 (λw=>w.c n) e
    rw[(key s a hs).1,(key s b hs).1] at this;exact this
   ·obtain⟨a,_,rfl⟩:=List.mem_map.mp hz
    obtain⟨b,_,e⟩:=List.mem_map.mp hz';have hs:=(mem s).mp hs;have ht:=(mem t).mp ht;apply aF.ext;funext i
    by_cases c:i=n
    ·rw[c,hs n (Yd _),ht n (Yd _)]
    ·rw[<- (key s a hs).2 i c,<- (key t b ht).2 i c,e]
  ·rw[List.mem_flatMap]
   constructor
   ·rintro⟨t,ht,h⟩
    obtain⟨a,_,rfl⟩:=List.mem_map.mp h;have ht:=(mem t).mp ht;intro i hi;rw[(key t a ht).2 i (by omega)]
    exact ht i (by omega)
   ·intro h
    have ht:Dg (⟨λi=>if i<n then s.c i else 0⟩:aF α) n:=λi hi=>by show(if i<n then s.c i else 0)=0;rw[Ww (by omega)]
    refine⟨⟨λi=>if i<n then s.c i else 0⟩,(mem _).mpr ht,List.mem_map.mpr ⟨s.c n,all _,?_⟩⟩
    apply aF.ext;funext i
    by_cases c:i=n
    ·rw[c];exact(key _ _ ht).1
    ·rw[(key _ _ ht).2 i c]
     show(if i<n then s.c i else 0)=s.c i
     by_cases d:i<n
     ·rw[Wx d]
     ·rw[Ww d,h i (by omega)]
  ·rw[Gi _ q L λs _=>by rw[Yc,la],len,Wi]
theorem RC(c:Cd α q)(M:Md α):Cd (Qt M) (q ^ M.n):=by
 obtain⟨L,nd,mem,len⟩:=RB c M.n;refine⟨L.map (Qt.of M),List.pairwise_map.mpr ?_,λx=>List.mem_map.mpr ⟨x.s,(mem _).mpr x.lt,KQ x⟩,by rw[Yc,len]⟩
 refine List.Pairwise.imp_of_mem (λ{a b} ha hb h e=>h ?_) nd
 have ha:=(mem a).mp ha;have hb:=(mem b).mp hb;have:=W1 Qt.s e
 have e1:(Qt.of M a).s=a:=rest_eq ha (Cg.refl _ _);have e2:(Qt.of M b).s=b:=rest_eq hb (Cg.refl _ _);rw[e1,e2] at this;exact this
theorem Gj:∀k i:Nat,((X:aF α) ^ k).c i=if i=k then 1 else 0
 | 0,i=>by
  rw[br];rfl
 | k+1,i=>by
  have e:(X:aF α) ^ (k+1)=mon 1 1*(X:aF α) ^ k:=by
   rw[aR];show(X:aF α) ^ k*X=X*(X:aF α) ^ k
   grind
  rw[e,lM,Gj k];by_cases c:1<=i
  ·rw[Wx c]
   by_cases d:i=k+1
   ·rw[Wx (by omega),Wx d];grind
   ·rw[Ww (by omega),Ww d];grind
  ·rw[Ww c,Ww (by omega)]
theorem S6 (y:α):∀k,ev (k+1) ((X:aF α) ^ k) y=y ^ k
 | 0=>by
  show((X:aF α) ^ 0).c 0+y*0=y ^ 0
  rw[Gj,Wx rfl,br];grind
 | k+1=>by
  show((X:aF α) ^ (k+1)).c 0+y*ev (k+1) (tl ((X:aF α) ^ (k+1))) y=y ^ (k+1)
  have e:tl ((X:aF α) ^ (k+1))=(X:aF α) ^ k:=by
   apply aF.ext;funext i
   show((X:aF α) ^ (k+1)).c (i+1)=_
   rw[Gj,Gj];by_cases c:i=k
   ·rw[Wx (by omega),Wx c]
   ·rw[Ww (by omega),Ww c]
  rw[Gj,Ww (by omega),e,S6 y k,aR]
  grind
theorem Qj (hF:L8 α)(c:Cd α N)(h2:2<=e)(hN:e<N)(h:∀y:α,y ^ e=y):False:=by
 obtain⟨L,nd,all,len⟩:=c;have dX:Dg ((X:aF α) ^ e) (e+1):=λi hi=>by rw[Gj,Ww (by omega)]
 have d1:Dg (X:aF α) 2:=Dg.mon 1 1;have db:Dg ((X:aF α) ^ e+cst (-1)*X) (e+1):=λi hi=>by
  rw[nk,dX i hi,bS,d1 i (by omega)];grind
 have b0:=we hF.dom e _ (L.take (e+1)) db (by rw[Y9];omega) (nd.sublist (List.take_sublist _ _)) λy _=>by
  rw[DR,S6,Hr,uY y 2 (e+1) X d1 (by omega)]
  have:=S6 y 1
  rw[qX,qX] at this;rw[show(2:Nat)=1+1 from rfl,this,h y]
  grind
 have:=W1 (λs=>s.c e) b0
 have z:((X:aF α) ^ e+cst (-1)*X).c e=0:=this;rw[nk,Gj,Wx rfl,bS] at z;have x0:(X:aF α).c e=0:=by
  show(if e=1 then (1:α) else 0)=0
  rw[Ww (by omega)]
 rw[x0] at z;exact hF.1 (by grind)
theorem VH{a b:aF α}(ha:aX a)(hb:aX b)(h:Qt.of M a=Qt.of M b):Cg M.f a b:=by
 have e:rest M a=rest M b:=W1 Qt.s h;exact(cS ha).trans (by rw[e];exact(cS hb).symm)
end
end Alg
namespace L2
open Alg
theorem Qk(c:Cd T.α (T.p ^ T.d))(d1:1<=T.d){M:Md T.α}(h:O_ M):ur T M:=by
 by_cases n1:M.n=1
 ·exact .inl n1
 have pp:=bM T.pr;have q2:2<=T.p ^ T.d:=by
  have h1:T.p ^ 1<=T.p ^ T.d:=Z6 (by omega) d1
  rw[Wm] at h1;omega
 have hQ:=Ht T.fld.1 h;have cQ:=RC c M;refine .inr ⟨?_,λr pr dr=>?_⟩
 ·refine VH (aX.X.pow _) aX.X ?_
  rw[wc aX.X];exact S5 hQ cQ _
 ·have hm:M.n / r<M.n:=Nat.div_lt_self M.pos pr.1
  have hm1:1<=M.n / r:=Nat.div_pos (Nat.le_of_dvd M.pos dr) (by have:=pr.1;omega)
  generalize M.n / r=m at hm hm1;have pX:aX ((X:aF T.α) ^ ((T.p ^ T.d) ^ m)-X):=(aX.X.pow _).sub aX.X;by_cases w0:Alg.rest M ((X:aF T.α) ^ ((T.p ^ T.d) ^ m)-X)=0
  ·exfalso
   have eX:Qt.of M X ^ ((T.p ^ T.d) ^ m)=Qt.of M X:=by
    have:Qt.of M ((X:aF T.α) ^ ((T.p ^ T.d) ^ m)-X)=0:=Qt.ext w0
    rw[L6 (aX.X.pow _) aX.X,wc aX.X] at this;grind
   refine Qj hQ cQ (e:=(T.p ^ T.d) ^ m) ?_ (Nat.pow_lt_pow_right (by omega) hm) λy=>?_
   ·have h1:(T.p ^ T.d) ^ 1<=(T.p ^ T.d) ^ m:=Z6 (by omega) hm1
    rw[Wm] at h1;omega
   ·have e:=Fv (M:=M) M.n y.s y.lt
    rw[KQ] at e;have f:=uZ (M:=M) (q:=T.p ^ T.d) (by omega) T.fr (λa b=>JC T.ok (DT T.ch) a b T.d) (Qt.of M X) M.n y.s m
    rw[eX,<- e] at f;exact f
  ·obtain⟨u,pu,k,pk,ek⟩:=h _ (cJ _ _) w0
   obtain⟨j,pj,ej⟩:=cS (M:=M) pX;refine⟨-(k+u*j),u,(pk.add (pu.mul pj)).neg,pu,?_⟩
   generalize Alg.rest M ((X:aF T.α) ^ ((T.p ^ T.d) ^ m)-X)=w at ek ej;generalize (X:aF T.α) ^ ((T.p ^ T.d) ^ m)-X=v at ej;grind
def J9 (T:cj)(M:Md T.α):Prop:=∀d g,1<=d->2*d<=M.n->Alg.bH g d->¬ ∃e,aX e/\M.f=e*g
theorem Ld{M:Md T.α}(h:O_ M):J9 T M:=λd g d1 d2 mg ⟨e,pe,ef⟩=>by
 have g0:g≠0:=λz=>by
  have:=mg.top
  rw[z] at this;exact T.fld.1 this.symm
 obtain⟨u,pu,k,pk,ek⟩:=h g (mg.dg.mono (by omega)) g0
 have e1:(1:aF T.α)=(u-k*e)*g:=by rw[ef] at ek;grind
 have:=(vA mg (nC (T:=T)) (pu.sub (pk.mul pe)) e1).1
 omega
theorem Le(h:J9 T M):O_ M:=λw dw w0=>by
 rcases qW T.fld M w dw w0 with z|⟨g,e,mg,e1,en,t,pt,ef⟩
 ·exact z
 ·exfalso
  by_cases c:2*e<=M.n
  ·exact h e g e1 c mg ⟨t,pt,ef⟩
  ·obtain⟨j,nt⟩:=Dr pt
   have hp:=vz nt (mJ mg);rw[<- ef] at hp;have hj:=hp.uniq (mJ M.mon);by_cases j0:j=0
   ·rw[Wx (.inl j0)] at hj;omega
   ·rw[Ww (by omega)] at hj
    have dt:Dg t (j-1+1):=by rw[show j-1+1=j by omega];exact nt.dg
    have top:=(iT g e mg.dg (j-1) t dt).1;rw[<- ef,show j-1+e=M.n by omega,M.mon.top,mg.top] at top
    have mt:Alg.bH t (j-1):=⟨by grind,dt⟩
    exact h (j-1) t (by omega) (by omega) mt ⟨g,mg.kX,by rw[ef];grind⟩
theorem J_(c:Cd T.α (T.p ^ T.d))(d1:1<=T.d):ur T M↔J9 T M:=⟨λh=>Ld h.alone.Pa,λh=>Qk c d1 (Le h)⟩
theorem Wd.cd(h:Wd T ws):Cd T.α (T.p ^ T.d):=by
 induction h with
 | @gr p hp=>
  have pp:=(bM hp).1;have z:=rE (bM hp).1;show Cd (Zp p) (p ^ 1)
  rw[Wm];refine⟨(Yi p).map (Xv (by omega)),?_,λx=>List.mem_map.mpr ⟨x.v,List.mem_range.mpr x.lt,Zp.ext (Y1 x.lt)⟩,by simp⟩
  refine C1 λi j hi hj e=>?_
  have:i % p=j % p:=W1 Zp.v e
  rw[Y1 (by omega),Y1 hj] at this
  omega
 | @up T ws M al hn w ih=>
  show Cd (Qt M) (T.p ^ (T.d*M.n))
  rw[Nat.pow_mul];exact RC ih M
theorem Wd.d1(h:Wd T ws):1<=T.d:=by
 induction h with
 | gr hp=>exact Yd _
 | @up T ws M al hn w ih=>exact Wr ih M.pos
end L2
namespace Alg
open Lean.Grind
section
variable {α:Type} [CommRing α]
inductive oR (S:List (Nat->α)):(Nat->α)->Prop where
 | zero:oR S λ_=>0
 | add {r v:Nat->α} (a:α) (h:r∈S) (t:oR S v):oR S λi=>a*r i+v i
theorem oR.of{v w:Nat->α}(h:oR S v)(e:∀i,v i=w i):oR S w:=by
 rw[<- funext e];exact h
theorem oR.plus{v w:Nat->α}(h:oR S v)(k:oR S w):oR S λi=>v i+w i:=by
 induction h with
 | zero=>exact k.of λi=>by grind
 | @add r v a hr _ ih=>exact(oR.add a hr ih).of λi=>by grind
theorem oR.smul(c:α)(h:oR S v):oR S λi=>c*v i:=by
 induction h with
 | zero=>exact oR.zero.of λi=>by grind
 | @add r v a hr _ ih=>exact(oR.add (c*a) hr ih).of λi=>by grind
theorem oR.mem{r:Nat->α}(h:r∈S):oR S r:=(oR.add 1 h oR.zero).of λi=>by grind
theorem oR.trans(hs:∀r∈S,oR S' r){v:Nat->α}(h:oR S v):oR S' v:=by
 induction h with
 | zero=>exact .zero
 | @add r v a hr _ ih=>exact((hs r hr).smul a).plus ih
theorem oR.step{r s0:Nat->α}(e0:∀i,r i=b*s0 i)(e1:r k=1)(hs:∀s∈S,s=s0\/(λi=>s i-s k*r i)∈S')(h:oR S v):oR S' λi=>v i-v k*r i:=by
 induction h with
 | zero=>exact oR.zero.of λi=>by grind
 | @add s v a hr _ ih=>
  rcases hs s hr with rfl|h
  ·have e2:b*s k=1:=by rw[<- e0];exact e1
   refine ih.of λi=>?_
   rw[e0 i];grind
  ·refine(oR.add a h ih).of λi=>?_
   grind
theorem oR.back{r s0 s:Nat->α}(e0:∀i,r i=b*s0 i)(h0:s0∈S)(hs:s∈S):oR S λi=>s i-s k*r i:=by
 refine(oR.add (-(s k*b)) h0 (oR.mem hs)).of λi=>?_
 rw[e0 i];grind
def sm (n:Nat)(d:Nat->α)(R:Nat->Nat->α)(j:Nat):α:=match n with
 | 0=>0
 | n+1=>sm n d R j+d n*R n j
theorem rO{R R':Nat->Nat->α}(h:∀i,i<n->d i=d' i)(k:∀i,i<n->R i j=R' i j):sm n d R j=sm n d' R' j:=by
 induction n with
 | zero=>rfl
 | succ n ih=>
  show sm n d R j+d n*R n j=sm n d' R' j+d' n*R' n j
  rw[ih (λi hi=>h i (by omega)) (λi hi=>k i (by omega)),h n (by omega),k n (by omega)]
theorem Ka{R:Nat->Nat->α}:sm n (λ_=>0) R j=0:=by
 induction n with
 | zero=>rfl
 | succ n ih=>
  show sm n (λ_=>0) R j+0*R n j=0
  rw[ih];grind
theorem S7(a){R:Nat->Nat->α}:sm n (λi=>a*d i+e i) R j=a*sm n d R j+sm n e R j:=by
 induction n with
 | zero=>show(0:α)=a*0+0;grind
 | succ n ih=>
  show sm n (λi=>a*d i+e i) R j+(a*d n+e n)*R n j=a*(sm n d R j+d n*R n j)+(sm n e R j+e n*R n j)
  rw[ih];grind
theorem Kc{R:Nat->Nat->α}(hk:k<n):sm n (λi=>if i=k then 1 else 0) R j=R k j:=by
 induction n with
 | zero=>omega
 | succ n ih=>
  show sm n (λi=>if i=k then 1 else 0) R j+(if n=k then 1 else 0)*R n j=R k j
  by_cases h:n=k
  ·subst h
   rw[Wx rfl,rO (d':=λ_=>0) (λi hi=>by show(if i=n then (1:α) else 0)=0;rw[Ww (by omega)]) (λi hi=>rfl),Ka];grind
  ·rw[ih (by omega),Ww h];grind
def pF (W n:Nat)(R:Nat->Nat->α)(k:Nat):Nat->α:=λj=>if j<W then R k j else if j<W+n then (if j-W=k then 1 else 0) else 0
theorem Ql(hS:∀r∈S,∃k,k<n/\r=pF W n R k){v:Nat->α}(h:oR S v):(∀j,j<W->v j=sm n (λi=>v (W+i)) R j)/\∀j,W+n<=j->v j=0:=by
 induction h with
 | zero=>exact⟨λj _=>Ka.symm,λ_ _=>rfl⟩
 | @add r v a hr _ ih=>
  obtain⟨k,hk,rfl⟩:=hS r hr;refine⟨λj hj=>?_,λj hj=>?_⟩
  ·show a*pF W n R k j+v j=_
   rw[S7 (n:=n) a (d:=λi=>pF W n R k (W+i)) (e:=λi=>v (W+i)),<- ih.1 j hj]
   congr 1
   rw[rO (n:=n) (d':=λi=>if i=k then 1 else 0) (λi hi=>?_) (λi hi=>rfl),Kc hk]
   ·show a*(if j<W then R k j else _)=_
    rw[Wx hj]
   ·show(if W+i<W then R k (W+i) else if W+i<W+n then (if W+i-W=k then (1:α) else 0) else 0)=_
    rw[Ww (by omega),Wx (by omega),Zi]
  ·show a*(if j<W then R k j else if j<W+n then _ else 0)+v j=0
   rw[Ww (by omega),Ww (by omega),ih.2 j hj];grind
theorem Gk {W n:Nat}{R:Nat->Nat->α}(d:Nat->α):∀m,m<=n->oR ((Yi n).map (pF W n R)) λj=>sm m d (pF W n R) j
 | 0,_=>.zero
 | m+1,hm=>(oR.add (d m) (List.mem_map.mpr ⟨m,List.mem_range.mpr (by omega),rfl⟩) (Gk d m (by omega))).of λj=>by
   show d m*pF W n R m j+sm m d (pF W n R) j=sm m d (pF W n R) j+d m*pF W n R m j
   grind
theorem Qm{d:Nat->α}:(∀j,j<W->sm n d (pF W n R) j=sm n d R j)/\(∀i,i<n->sm n d (pF W n R) (W+i)=d i)/\∀j,W+n<=j->sm n d (pF W n R) j=0:=by
 refine⟨λj hj=>rO (λi _=>rfl) λi _=>by show(if j<W then R i j else _)=_;rw[Wx hj],λi hi=>?_,λj hj=>?_⟩
 ·have e:∀m,m<=n->sm m d (pF W n R) (W+i)=if i<m then d i else 0:=by
   intro m;induction m with
   | zero=>intro _;rw[Ww (by omega)];rfl
   | succ m ih=>
    intro hm;show sm m d (pF W n R) (W+i)+d m*(if W+i<W then R m (W+i) else if W+i<W+n then (if W+i-W=m then (1:α) else 0) else 0)=_
    rw[ih (by omega),Ww (show ¬ W+i<W by omega),Wx (show W+i<W+n by omega),Zi]
    by_cases h1:i=m
    ·subst h1
     rw[Ww (show ¬ i<i by omega),Wx rfl,Wx (show i<i+1 by omega)];grind
    ·rw[Ww h1]
     by_cases h2:i<m
     ·rw[Wx h2,Wx (show i<m+1 by omega)];grind
     ·rw[Ww h2,Ww (show ¬ i<m+1 by omega)];grind
  rw[e n (Yd n),Wx hi]
 ·have:sm n d (pF W n R) j=sm n d (λ_ _=>0) j:=rO (λi _=>rfl) λi _=>by
   show(if j<W then R i j else if j<W+n then _ else 0)=0
   rw[Ww (by omega),Ww (by omega)]
  rw[this];have z:∀m,sm m d (λ_ _=>(0:α)) j=0:=λm=>by
   induction m with
   | zero=>rfl
   | succ m ih=>show sm m d (λ_ _=>(0:α)) j+d m*0=0;rw[ih];grind
  exact z n
structure G_ (W n:Nat)(R:Nat->Nat->α)(k:Nat)(S:List (Nat->α)):Prop where
 sub:∀r∈S,oR ((Yi n).map (pF W n R)) r
 nil:∀r∈S,∀j,j<k->r j=0
 all:∀v,oR ((Yi n).map (pF W n R)) v->(∀j,j<k->v j=0)->oR S v
theorem G_.start{R:Nat->Nat->α}:G_ W n R 0 ((Yi n).map (pF W n R)):=⟨λr h=>.mem h,λr _ j hj=>W3 hj (We _),λv h _=>h⟩
theorem G_.skip{S:List (Nat->α)}(h:G_ W n R k S)(h0:∀r∈S,r k=0):G_ W n R (k+1) S:=
 ⟨h.sub,λr hr j hj=>by
  by_cases e:j=k
  ·rw[e];exact h0 r hr
  ·exact h.nil r hr j (by omega),λv hv h1=>h.all v hv λj hj=>h1 j (by omega)⟩
theorem G_.step{r s0:Nat->α}(h:G_ W n R k S)(h0:s0∈S)(e0:∀i,r i=b*s0 i)(e1:r k=1)(hs:∀s∈S,s=s0\/(λi=>s i-s k*r i)∈S')(hs':∀t∈S',∃s∈S,t=λi=>s i-s k*r i):G_ W n R (k+1) S':=by
 refine⟨λt ht=>?_,λt ht j hj=>?_,λv hv h1=>?_⟩
 ·obtain⟨s,hs,rfl⟩:=hs' t ht
  exact(oR.back e0 h0 hs).trans h.sub
 ·obtain⟨s,hs,rfl⟩:=hs' t ht
  show s j-s k*r j=0
  by_cases e:j=k
  ·rw[e,e1];grind
  ·rw[e0 j,h.nil s hs j (by omega),h.nil s0 h0 j (by omega)];grind
 ·have:=(h.all v hv λj hj=>h1 j (by omega)).step e0 e1 hs
  refine this.of λi=>?_
  rw[h1 k (by omega)];grind
theorem G_.done(h:G_ W n R W S):(∀r∈S,∀j,j<W->sm n (λi=>r (W+i)) R j=0)/\∀d:Nat->α,(∀j,j<W->sm n d R j=0)->∃v,oR S v/\∀i,i<n->v (W+i)=d i:=by
 refine⟨λr hr j hj=>?_,λd hd=>?_⟩
 ·have:=(Ql (W:=W) (n:=n) (R:=R) (λr hr=>by obtain⟨k,hk,e⟩:=List.mem_map.mp hr;exact⟨k,List.mem_range.mp hk,e.symm⟩) (h.sub r hr)).1 j hj
  rw[<- this];exact h.nil r hr j hj
 ·obtain⟨a,b,_⟩:=Qm (W:=W) (n:=n) (R:=R) (d:=d)
  exact⟨_,h.all _ (Gk d n (Yd n)) λj hj=>by rw[a j hj];exact hd j hj,b⟩
end
end Alg
namespace L2
open PySem Alg
section
variable {T:cj}
def Dv (a b:aF T.α):Prop:=∃e,aX e/\b=e*a
def lQ (a b:aF T.α):Prop:=∃u v,aX u/\aX v/\u*a+v*b=1
theorem Dv.refl (a:aF T.α):Dv a a:=⟨1,aX.one,by grind⟩
theorem Dv.trans:Dv a b->Dv b c->Dv a c:=λ⟨e,pe,h⟩ ⟨g,pg,k⟩=>⟨g*e,pg.mul pe,by rw[k,h];grind⟩
theorem Dv.mul(pc:aX c):Dv a b->Dv a (c*b):=λ⟨e,pe,h⟩=>⟨c*e,pc.mul pe,by rw[h];grind⟩
theorem Dv.sub:Dv a b->Dv a c->Dv a (b-c):=λ⟨e,pe,h⟩ ⟨g,pg,k⟩=>⟨e-g,pe.sub pg,by rw[h,k];grind⟩
theorem lQ.symm:lQ a b->lQ b a:=λ⟨u,v,pu,pv,e⟩=>⟨v,u,pv,pu,by rw[<- e];grind⟩
theorem lQ.one (a:aF T.α):lQ a 1:=⟨0,1,aX.zero,aX.one,by grind⟩
theorem lQ.dv {a b c:aF T.α}(h:lQ a b)(pc:aX c):Dv a (b*c)->Dv a c:=λ⟨e,pe,k⟩=>by
 obtain⟨u,v,pu,pv,h⟩:=h;exact⟨u*c+v*e,(pu.mul pc).add (pv.mul pe),by
  have:c=(u*a+v*b)*c:=by rw[h];grind
  have k2:v*(b*c)=v*(e*a):=by rw[k]
  grind⟩
theorem lQ.mul {a b c:aF T.α}(pa:aX a)(pb:aX b)(pc:aX c)(h:lQ a b)(k:lQ a c):lQ a (b*c):=by
 obtain⟨u,v,pu,pv,h⟩:=h;obtain⟨x,y,px,py,k⟩:=k;refine⟨u*(x*a+y*c)+v*b*x,v*y,((pu.mul ((px.mul pa).add (py.mul pc))).add ((pv.mul pb).mul px)),pv.mul py,?_⟩
 have:(u*a+v*b)*(x*a+y*c)=1:=by rw[h,k];grind
 rw[<- this];grind
theorem lQ.both {a b c:aF T.α}(h:lQ a b):Dv a c->Dv b c->Dv (a*b) c:=λ⟨e,pe,k⟩ ⟨g,pg,l⟩=>by
 obtain⟨u,v,pu,pv,h⟩:=h;refine⟨u*g+v*e,(pu.mul pg).add (pv.mul pe),?_⟩
 have:c=(u*a+v*b)*c:=by rw[h];grind
 have h1:u*a*c=u*a*(g*b):=by rw[<- l]
 have h2:v*b*c=v*b*(e*a):=by rw[<- k]
 grind
theorem lQ.rP {a b c:aF T.α}(h:lQ a b):Dv c b->lQ a c:=λ⟨e,pe,k⟩=>by
 obtain⟨u,v,pu,pv,h⟩:=h;exact⟨u,v*e,pu,pv.mul pe,by rw[<- h,k];grind⟩
theorem lQ.pow {a b:aF T.α}(pa:aX a)(pb:aX b)(h:lQ a b):∀n:Nat,lQ a (b ^ n)
 | 0=>by rw[br];exact lQ.one a
 | n+1=>by rw[aR];exact lQ.mul pa (pb.pow n) pb (lQ.pow pa pb h n) h
theorem Aq {a b:aF T.α}{n:Nat}(ma:Alg.bH a n)(h:lQ a b)(d:Dv a b):n=0:=by
 obtain⟨u,v,pu,pv,h⟩:=h;obtain⟨e,pe,k⟩:=d;have:(1:aF T.α)=(u+v*e)*a:=by rw[<- h,k];grind
 have:=(vA ma (nC (T:=T)) (pu.add (pv.mul pe)) this).1
 omega
theorem IB(h:O_ M)(pb:aX b):Dv M.f b\/lQ M.f b:=by
 have hc:=cS (M:=M) pb;obtain⟨q,pq,e⟩:=hc;by_cases z:Alg.rest M b=0
 ·refine .inl ⟨q,pq,?_⟩
  rw[z] at e;grind
 ·obtain⟨u,pu,k,pk,ek⟩:=h _ (cJ M b) z
  refine .inr ⟨-(k+u*q),u,(pk.add (pu.mul pq)).neg,pu,?_⟩
  generalize Alg.rest M b=r at e ek;grind
theorem S8(h:Alg.bH f n)(h1:1<=n):∃M:Md T.α,M.f=f/\M.n=n:=⟨⟨f,n,h,h1⟩,rfl,rfl⟩
theorem Nd (c:Cd T.α (T.p ^ T.d))(d1:1<=T.d):∀(n:Nat) (f:aF T.α),Alg.bH f n->1<=n->∃M:Md T.α,ur T M/\Dv M.f f:=by
 intro n;induction n using Nat.strongRecOn with
 | _ n ih=>
  intro f mf h1;obtain⟨M,rfl,rfl⟩:=S8 mf h1;by_cases al:ur T M
  ·exact⟨M,al,.refl _⟩
  ·have:¬ J9 T M:=λz=>al ((J_ c d1).mpr z)
   obtain⟨d,g,hd,h2,mg,e,pe,ee⟩:∃d g,1<=d/\2*d<=M.n/\Alg.bH g d/\∃e,aX e/\M.f=e*g:=Y? λz=>this λd g a b c d'=>z ⟨d,g,a,b,c,d'⟩
   obtain⟨M',al',dv⟩:=ih d (by omega) g mg hd
   exact⟨M',al',dv.trans ⟨e,pe,ee⟩⟩
theorem Ar {f g e:aF T.α}(mf:Alg.bH f n)(mg:Alg.bH g m)(pe:aX e)(h:f=e*g):m<=n/\Alg.bH e (n-m):=by
 obtain⟨j,ne⟩:=Dr pe;have hp:=vz ne (mJ mg);rw[<- h] at hp;have hj:=hp.uniq (mJ mf);by_cases j0:j=0
 ·rw[Wx (.inl j0)] at hj;omega
 ·rw[Ww (by omega)] at hj
  have de:Dg e (j-1+1):=by rw[show j-1+1=j by omega];exact ne.dg
  have top:=(iT g m mg.dg (j-1) e de).1;rw[<- h,show j-1+m=n by omega,mf.top,mg.top] at top
  refine⟨by omega,?_⟩
  rw[show n-m=j-1 by omega]
  exact⟨by grind,de⟩
theorem eO {f:aF T.α}{n:Nat}(mf:Alg.bH f n):∀e:Nat,Alg.bH (f ^ e) (n*e)
 | 0=>by rw[br];exact nC
 | e+1=>by rw[aR,Y4];exact fF (eO mf e) mf
theorem Nf {M:Md T.α}:∀(n:Nat) (f:aF T.α),Alg.bH f n->∃(e:Nat) (b:aF T.α),f=M.f ^ e*b/\Alg.bH b (n-M.n*e)/\M.n*e<=n/\¬ Dv M.f b:=by
 intro n;induction n using Nat.strongRecOn with
 | _ n ih=>
  intro f mf;by_cases h:Dv M.f f
  ·obtain⟨g,pg,e⟩:=h
   obtain⟨h1,mg⟩:=Ar mf M.mon pg e;have mp:=M.pos;obtain⟨k,b,e2,mb,hk,nd⟩:=ih (n-M.n) (by omega) g mg
   refine⟨k+1,b,?_,?_,?_,nd⟩
   ·rw[e,e2,aR];grind
   ·rw[show n-M.n*(k+1)=n-M.n-M.n*k by rw[Y4];omega];exact mb
   ·rw[Y4];omega
  ·exact⟨0,f,by rw[br];grind,by rw[Wh];exact mf,by omega,h⟩
theorem Nh(ma:Alg.bH a n)(h1:1<=n){x y:T.α}(h:Cg a (cst x) (cst y)):x=y:=by
 have:=Cg.uniq ma ((Dg.cst x).mono h1) ((Dg.cst y).mono h1) h
 have:=W1 (λs=>s.c 0) this
 exact this
theorem Cg.rP(h:Cg b x y):Dv a b->Cg a x y:=λd=>Dv.trans d h
theorem Qn (c:Cd T.α (T.p ^ T.d))(d1:1<=T.d)(mt:Alg.bH t m)(m1:1<=m)(ms:Alg.bH s k)(ft:f=t*s)(cts:lQ t s)(H:∀h,aX h->Cg f (h ^ T.p) h->∃x:T.α,Cg t h (cst x)):∃(M:Md T.α) (e:Nat),ur T M/\1<=e/\t=M.f ^ e:=by
 obtain⟨M,al,dv⟩:=Nd c d1 m t mt m1;obtain⟨e,b,et,mb,he,nd⟩:=Nf (M:=M) m t mt;have pM:=M.mon.kX;have e1:1<=e:=by
  cases e with
  | zero=>rw[br] at et;exact W3 (by rw[et] at dv;simpa [sP] using dv) nd
  | succ e=>omega
 refine⟨M,e,al,e1,?_⟩
 have ir:=al.alone.Pa;have cMb:lQ M.f b:=(IB ir mb.kX).resolve_left nd;have cPb:lQ b (M.f ^ e):=lQ.pow mb.kX pM cMb.symm e;have pPe:=pM.pow e;have cPs:lQ s (M.f ^ e):=cts.symm.rP ⟨b,mb.kX,by rw[et];grind⟩
 have cop:lQ (M.f ^ e) (b*s):=lQ.mul pPe mb.kX ms.kX cPb.symm cPs.symm;obtain⟨u,v,pu,pv,huv⟩:=cop;let h:aF T.α:=v*(b*s)
 have ph:aX h:=pv.mul (mb.kX.mul ms.kX);have h1:Cg (M.f ^ e) h 1:=⟨-u,pu.neg,by show v*(b*s)-1=-u*M.f ^ e;rw[<- huv];grind⟩
 have h0:Dv (b*s) h:=⟨v,pv,rfl⟩;have p1:1<=T.p:=by have:=(bM T.pr).1;omega
 have st:Cg f (h ^ T.p) h:=by
  have a1:Dv (M.f ^ e) (h ^ T.p-h):=by
   have z:=(Cg.pow aX.one ph h1 T.p);rw[DO] at z;exact z.trans h1.symm
  have a2:Dv (b*s) (h ^ T.p-h):=by
   refine Dv.sub ?_ h0
   rw[show T.p=(T.p-1)+1 by omega,aR]
   exact Dv.mul (ph.pow _) h0
  have:=lQ.both ⟨u,v,pu,pv,huv⟩ a1 a2
  rw[show M.f ^ e*(b*s)=f by rw[ft,et];grind] at this
  exact this
 obtain⟨x,hx⟩:=H h ph st;have x1:x=1:=by
  have:=(Cg.rP hx ⟨b,mb.kX,by rw[et];grind⟩:Cg (M.f ^ e) h (cst x)).symm.trans h1
  exact Nh (eO M.mon e) (Wr M.pos e1) (by rw[jR];exact this)
 by_cases hb:m-M.n*e=0
 ·rw[hb] at mb
  have:b=1:=by
   have z:=iz mb.dg;rw[mb.top] at z;exact z
  rw[et,this];grind
 ·exfalso
  have hxb:=(Cg.rP hx ⟨M.f ^ e,pPe,by rw[et]⟩:Cg b h (cst x))
  have hb0:Cg b h (cst 0):=by
   rw[dh];exact Dv.sub (Dv.trans ⟨s,ms.kX,by grind⟩ h0) ⟨0,aX.zero,by grind⟩
  have:=Nh mb (by omega) (hxb.symm.trans hb0)
  rw[x1] at this;exact T.fld.1 this
end
end L2
namespace Alg
open Lean.Grind
section
variable {α:Type} [CommRing α]
def dr (a:aF α):aF α:=⟨λi=>nt α (i+1)*a.c (i+1)⟩
theorem Ni (a b:aF α):dr (a+b)=dr a+dr b:=by
 apply aF.ext;funext i
 show nt α (i+1)*(a.c (i+1)+b.c (i+1))=nt α (i+1)*a.c (i+1)+nt α (i+1)*b.c (i+1)
 grind
theorem Nj (x:α):dr (cst x)=0:=by
 apply aF.ext;funext i
 show nt α (i+1)*(if i+1=0 then x else 0)=0
 rw[Ww (by omega)];grind
theorem Qo (x)(a:aF α):dr (cst x*a)=cst x*dr a:=by
 apply aF.ext;funext i
 show nt α (i+1)*(cst x*a).c (i+1)=(cst x*dr a).c i
 rw[bS,bS];show nt α (i+1)*(x*a.c (i+1))=x*(nt α (i+1)*a.c (i+1))
 grind
theorem X_c (a:aF α)(i):(X*a).c i=if i=0 then 0 else a.c (i-1):=by
 show(mon 1 1*a).c i=_
 rw[lM];by_cases h:i=0
 ·rw[Ww (by omega),Wx h]
 ·rw[Wx (by omega),Ww h];grind
theorem VI (a:aF α):dr (X*a)=a+X*dr a:=by
 apply aF.ext;funext i
 show nt α (i+1)*(X*a).c (i+1)=a.c i+(X*dr a).c i
 rw[X_c,X_c,Ww (by omega),Nat.add_sub_cancel]
 by_cases h:i=0
 ·subst h
  rw[Wx rfl,iV];grind
 ·rw[Ww h]
  show nt α (i+1)*a.c i=a.c i+nt α (i-1+1)*a.c (i-1+1)
  rw[show i-1+1=i by omega]
  show(nt α i+1)*a.c i=a.c i+nt α i*a.c i
  grind
theorem Dg.dr {a:aF α}{n:Nat}(h:Dg a (n+1)):Dg (dr a) n:=λi hi=>by
 show nt α (i+1)*a.c (i+1)=0
 rw[h (i+1) (by omega)];grind
theorem aX.dr {a:aF α}:aX a->aX (dr a):=λ⟨n,h⟩=>⟨n,Dg.dr (h.mono (by omega))⟩
theorem Dt (b:aF α):∀(n:Nat) (a:aF α),Dg a n->dr (a*b)=dr a*b+a*dr b
 | 0,a,h=>by
  rw[h.Fc,show(0:aF α)*b=0 by grind,show dr (0:aF α)=0 by rw[<- dh,Nj,dh]];grind
 | n+1,a,h=>by
  have ih:=Dt b n (tl a) h.tl;have e:=split0 a;rw[e,show(cst (a.c 0)+X*tl a)*b=cst (a.c 0)*b+X*(tl a*b) by grind,Ni,Qo,VI,ih,Ni,Nj,VI]
  grind
theorem S9 {a b:aF α}(h:aX a):dr (a*b)=dr a*b+a*dr b:=by
 obtain⟨n,h⟩:=h;exact Dt b n a h
theorem IC {a:aF α}(h:aX a):∀n:Nat,dr (a ^ (n+1))=cst (nt α (n+1))*(a ^ n*dr a)
 | 0=>by
  rw[aR,br,show(1:aF α)*a=a by grind,iV,jR];grind
 | n+1=>by
  rw[aR,S9 (h.pow _),IC h n,aR];have:cst (nt α (n+1+1))=cst (nt α (n+1))+1:=by
   show cst (nt α (n+1)+1)=_
   rw[zy,jR]
  rw[this];grind
theorem uw:∀n:Nat,nt (aF α) n=cst (nt α n)
 | 0=>dh.symm
 | n+1=>by
  show nt (aF α) n+1=cst (nt α n+1)
  rw[uw n,zy,jR]
theorem Qp (k)(a)(i):((X:aF α) ^ k*a).c i=if k<=i then a.c (i-k) else 0:=by
 have e:∀k:Nat,(X:aF α) ^ k=mon 1 k:=by
  intro k;induction k with
  | zero=>rw[br];rfl
  | succ k ih=>
   rw[aR,ih];apply aF.ext;funext i
   rw[lM];show(if k<=i then (1:α)*(if i-k=1 then 1 else 0) else 0)=if i=k+1 then 1 else 0
   by_cases h:k<=i
   ·rw[Wx h]
    by_cases h2:i-k=1
    ·rw[Wx h2,Wx (by omega)];grind
    ·rw[Ww h2,Ww (by omega)];grind
   ·rw[Ww h,Ww (by omega)]
 rw[e,lM];by_cases h:k<=i
 ·rw[Wx h,Wx h];grind
 ·rw[Ww h,Ww h]
theorem Nk {p:Nat}(hp:tO p=true)(hc:nt α p=0)(p1:1<=p):∀(n:Nat) (s:aF α),Dg s n->∀i,(s ^ p).c i=if i % p=0 then (s.c (i / p)) ^ p else 0
 | 0,s,h,i=>by
  have z:∀j,s.c j=0:=λj=>h j (Y2 _)
  rw[h.Fc,lN (by omega)]
  show(0:α)=_
  split
  ·rw[show(0:aF α).c (i / p)=0 from rfl,lN (by omega)]
  ·rfl
 | n+1,s,h,i=>by
  have ih:=Nk hp hc p1 n (tl s) h.tl;have e:=split0 s;have e2:s ^ p=cst (s.c 0) ^ p+(X:aF α) ^ p*(tl s) ^ p:=by
   have f:=JB hp (by rw[uw,hc,dh]) (cst (s.c 0)) (X*tl s)
   rw[zS] at f;rw[<- f,<- e]
  rw[e2];show(cst (s.c 0) ^ p).c i+((X:aF α) ^ p*(tl s) ^ p).c i=_
  rw[<- sO,Qp];show(if i=0 then s.c 0 ^ p else 0)+_=_
  by_cases h0:i=0
  ·subst h0
   rw[Wx rfl,Ww (by omega),Nat.zero_mod,Wx rfl,Nat.zero_div];grind
  ·rw[Ww h0]
   by_cases hl:p<=i
   ·rw[Wx hl,ih,Nat.mod_eq_sub_mod hl]
    by_cases hm:(i-p) % p=0
    ·rw[Wx hm,Wx hm]
     show 0+(s.c ((i-p) / p+1)) ^ p=_
     rw[Nat.div_eq_sub_div (by omega) hl];grind
    ·rw[Ww hm,Ww hm];grind
   ·rw[Ww hl,Y1 (by omega),Ww h0];grind
theorem uz (hD:∀a b:aF α,aX a->aX b->a*b=0->a=0\/b=0){a:aF α}(pa:aX a):∀n:Nat,a ^ n=0->a=0\/(1:aF α)=0
 | 0,h=>by rw[br] at h;exact .inr h
 | n+1,h=>by
  rw[aR] at h;rcases hD _ _ (pa.pow n) pa h with z|z
  ·exact uz hD pa n z
  ·exact .inl z
end
end Alg
namespace L2
open PySem Alg
section
variable {T:cj}
theorem vB (a b:aF T.α)(pa:aX a)(pb:aX b)(h:a*b=0):a=0\/b=0:=by
 obtain⟨n,na⟩:=Dr pa;obtain⟨m,nb⟩:=Dr pb;have hp:=vz na nb;rw[h] at hp;have hj:=hp.uniq (⟨Dg.zero 0,.inl rfl⟩:Nz T 0 0);by_cases n0:n=0
 ·subst n0;exact .inl na.dg.Fc
 ·by_cases m0:m=0
  ·subst m0;exact .inr nb.dg.Fc
  ·rw[Ww (by omega)] at hj;omega
theorem Nl:(1:aF T.α)≠0:=λz=>T.fld.1 (W1 (λs=>s.c 0) z)
theorem Lf {a b:aF T.α}(pa:aX a)(pb:aX b)(h:a ^ T.p=b ^ T.p):a=b:=by
 have f:=JB T.ok (by rw[uw,T.ch,dh]) (a-b) b
 rw[show a-b+b=a by grind,h] at f
 have z:(a-b) ^ T.p=0:=by
  generalize (a-b) ^ T.p=w at f;grind
 rcases uz vB (pa.sub pb) _ z with h|h
 ·grind
 ·exact W3 h Nl
def Hf (T:cj)(s:aF T.α):aF T.α:=⟨λi=>(s.c (T.p*i)) ^ (T.p ^ (T.d-1))⟩
theorem Dg.Hf {s:aF T.α}{n:Nat}(h:Dg s n):Dg (Hf T s) ((n+T.p-1) / T.p):=λi hi=>by
 have pp:=(bM T.pr).1;show(s.c (T.p*i)) ^ (T.p ^ (T.d-1))=0
 rw[h (T.p*i) ?_,lN (Nat.pow_pos (by omega))]
 have:=Yz T.p hi
 have h2:=Y5 (n+T.p-1) T.p;have h3:=Wv (n+T.p-1) (show 0<T.p by omega)
 omega
theorem vC(h0:r % T.p≠0):nt T.α r≠0:=by
 have pp:=(bM T.pr).1;obtain⟨y,hy,e⟩:=Ij T.p T.pr (r % T.p) (Wv _ (by omega)) h0
 have hm:∀k,nt T.α (k % T.p)=nt T.α k:=λk=>by
  have h:=Y5 k T.p;have h2:nt T.α k=nt T.α (T.p*(k / T.p)+k % T.p):=by rw[h]
  rw[h2,nR,kY,T.ch];grind
 intro z;have h1:nt T.α (r % T.p*y)=nt T.α 1:=by rw[<- hm (r % T.p*y),e,Y1 (by omega)]
 rw[kY,hm,z,iV] at h1;exact T.fld.1 (by rw[<- h1];grind)
theorem Qq(h0:r % T.p=0):nt T.α r=0:=by
 have h:=Y5 r T.p;rw[h0] at h;have h2:nt T.α r=nt T.α (T.p*(r / T.p)+0):=by rw[h]
 rw[h2,Wc,kY,T.ch];grind
theorem Nm {s:aF T.α}(h:dr s=0)(hi:i % T.p≠0):s.c i=0:=by
 have i0:i≠0:=λz=>hi (by rw[z,Nat.zero_mod])
 have e:=W1 (λw=>w.c (i-1)) h
 have e:nt T.α (i-1+1)*s.c (i-1+1)=0:=e;rw[show i-1+1=i by omega] at e
 exact(T.fld.dom _ _ e).resolve_left (vC hi)
theorem Kd(d1:1<=T.d)(ps:aX s)(h:dr s=0):(Hf T s) ^ T.p=s:=by
 have pp:=(bM T.pr).1;obtain⟨n,hn⟩:=ps;apply aF.ext;funext i
 rw[Nk T.ok T.ch (by omega) _ _ (Dg.Hf hn)]
 by_cases hi:i % T.p=0
 ·rw[Wx hi]
  show((s.c (T.p*(i / T.p))) ^ (T.p ^ (T.d-1))) ^ T.p=s.c i
  rw[<- gH,<- Wi,show(T.d-1).succ=T.d by omega,T.fr]
  have:=Y5 i T.p
  rw[hi,Wc] at this;rw[this]
 ·rw[Ww hi,Nm h hi]
theorem Gm (c:Cd T.α (T.p ^ T.d))(d1:1<=T.d)(al:ur T M):dr M.f≠0:=λz=>by
 have pp:=(bM T.pr).1;have e:=Kd d1 M.mon.kX z;have mp:=M.pos;have pr:aX (Hf T M.f):=⟨_,Dg.Hf M.mon.dg⟩;have h0:M.n % T.p=0:=Y? λh=>by
  have:=Nm z h
  rw[M.mon.top] at this;exact T.fld.1 this
 have hk:T.p*(M.n / T.p)=M.n:=by have:=Y5 M.n T.p;omega
 have k1:1<=M.n / T.p:=Nat.pos_of_ne_zero λz=>by rw[z] at hk;omega
 have mr:Alg.bH (Hf T M.f) (M.n / T.p):=by
  refine⟨?_,λi hi=>?_⟩
  ·show(M.f.c (T.p*(M.n / T.p))) ^ _=1
   rw[hk,M.mon.top,DO]
  ·show(M.f.c (T.p*i)) ^ _=0
   rw[M.mon.dg _ ?_,lN (Nat.pow_pos (by omega))]
   have:=Yz T.p hi
   rw[Y4] at this;omega
 have h2:2*(M.n / T.p)<=M.n:=by
  have:=Zl (M.n / T.p) pp
  omega
 refine(J_ c d1).mp al (M.n / T.p) (Hf T M.f) k1 h2 mr ⟨Hf T M.f ^ (T.p-1),pr.pow _,?_⟩
 have h3:Hf T M.f ^ T.p=Hf T M.f ^ (T.p-1)*Hf T M.f:=by rw[<- aR,show T.p-1+1=T.p by omega]
 rw[<- h3,e]
theorem ID (c:Cd T.α (T.p ^ T.d))(d1:1<=T.d)(al:ur T M)(m1:1<=m):dr (M.f ^ m)=0↔m % T.p=0:=by
 obtain⟨m,rfl⟩:∃k,m=k+1:=⟨m-1,by omega⟩
 have pM:=M.mon.kX;rw[IC pM];constructor
 ·intro h
  refine Y? λhm=>?_
  have u:=vC hm;rcases vB _ _ (aX.cst _) ((pM.pow m).mul pM.dr) h with z|z
  ·exact u (W1 (λs=>s.c 0) z)
  ·rcases vB _ _ (pM.pow m) pM.dr z with z|z
   ·rcases uz vB pM m z with w|w
    ·have:=M.mon.top;rw[w] at this;exact T.fld.1 this.symm
    ·exact Nl w
   ·exact Gm c d1 al z
 ·intro h
  rw[Qq h,dh];grind
theorem Nn (d1:1<=T.d){M:Md T.α}(h:m % T.p=0)(h0:dr (M.f ^ m)=0):Hf T (M.f ^ m)=M.f ^ (m / T.p):=by
 have pM:=M.mon.kX;refine Lf ⟨_,Dg.Hf (pM.pow m).choose_spec⟩ (pM.pow _) ?_
 rw[Kd d1 (pM.pow m) h0,<- gH];have:=Y5 m T.p
 rw[h,Wc,Y7] at this;rw[this]
theorem Qs (c:Cd T.α (T.p ^ T.d))(d1:1<=T.d)(al:ur T M)(h:(m+1) % T.p≠0):iM T (M.f ^ (m+1)) (dr (M.f ^ (m+1))) (M.f ^ m) (M.n*m):=by
 have pM:=M.mon.kX;have pd:=pM.dr;have nz:cst (nt T.α (m+1))*dr M.f≠0:=λz=>by
  rcases vB _ _ (aX.cst _) pd z with w|w
  ·exact vC h (W1 (λs=>s.c 0) w)
  ·exact Gm c d1 al w
 have dd:Dg (cst (nt T.α (m+1))*dr M.f) M.n:=λi hi=>by rw[bS,Dg.dr M.mon.dg i hi];grind
 obtain⟨u,pu,k,pk,ek⟩:=al.alone.Pa _ dd nz;rw[IC pM];refine⟨eO M.mon m,⟨-k,u,pk.neg,pu,?_⟩,⟨M.f,pM,by rw[aR];grind⟩,⟨cst (nt T.α (m+1))*dr M.f,(aX.cst _).mul pd,by grind⟩⟩
 rw[aR];generalize M.f ^ m=w;generalize dr M.f=x at ek;generalize cst (nt T.α (m+1))=y at ek;grind
end
end L2
namespace Alg
open Lean.Grind
section
variable {α:Type} [CommRing α]
def OZ:List Nat->α->α
 | [],_=>0
 | a::l,y=>nt α a+y*OZ l y
def stp (p c:Nat)(r:Nat):List Nat->List Nat
 | []=>[r % p]
 | a::l=>(r+c*a) % p::stp p c a l
theorem qh(hc:nt α p=0)(k):nt α (k % p)=nt α k:=by
 have h:=Y5 k p;have h2:nt α k=nt α (p*(k / p)+k % p):=by rw[h]
 rw[h2,nR,kY,hc];grind
theorem Ke {p c:Nat}(hc:nt α p=0)(y:α):∀(l:List Nat) (r:Nat),OZ (stp p c r l) y=nt α r+OZ l y*(y+nt α c)
 | [],r=>by
  show nt α (r % p)+y*0=nt α r+0*(y+nt α c)
  rw[qh hc];grind
 | a::l,r=>by
  show nt α ((r+c*a) % p)+y*OZ (stp p c a l) y=nt α r+(nt α a+y*OZ l y)*(y+nt α c)
  rw[Ke hc y l a,qh hc,nR,kY];grind
def Qu (p:Nat):Nat->List Nat
 | 0=>[1]
 | k+1=>stp p (p-k) 0 (Qu p k)
def Np (y:α):Nat->α
 | 0=>1
 | k+1=>Np y k*(y-nt α k)
theorem Nq(hc:nt α p=0)(h:k<=p):nt α (p-k)=- nt α k:=by
 have e:nt α (p-k+k)=nt α p:=by rw[Nat.sub_add_cancel h]
 rw[nR,hc] at e;grind
theorem Gn {p:Nat}(hc:nt α p=0)(y:α):∀k,k<=p->OZ (Qu p k) y=Np y k
 | 0,_=>by
  show nt α 1+y*0=1
  rw[iV];grind
 | k+1,h=>by
  show OZ (stp p (p-k) 0 (Qu p k)) y=Np y k*(y-nt α k)
  rw[Ke hc,Gn hc y k (by omega),Nq hc (by omega),zA];grind
def RD (p:Nat):Bool:=Qu p p == 0::(p-1)::(Yt (p-2) 0++[1])
theorem S_:∀p∈PR,RD p=true:=by decide +kernel
theorem Kf (y:α):∀k,OZ (Yt k 0++[1]) y=y ^ k
 | 0=>by
  show nt α 1+y*0=y ^ 0
  rw[iV,br];grind
 | k+1=>by
  rw[Zo];show nt α 0+y*OZ (Yt k 0++[1]) y=y ^ (k+1)
  rw[Kf y k,aR,zA];grind
theorem Qv(hp:p∈PR)(p2:2<=p)(hc:nt α p=0)(y:α):Np y p=y ^ p-y:=by
 have h:=S_ p hp;unfold RD at h;have h:=eq_of_beq h;rw[<- Gn hc y p (Yd p),h];show nt α 0+y*(nt α (p-1)+y*OZ (Yt (p-2) 0++[1]) y)=y ^ p-y
 rw[Kf,Nq hc (by omega),iV,zA]
 have e:y ^ p=y ^ (p-2)*y*y:=by rw[<- aR,<- aR,show p-2+1+1=p by omega]
 rw[e];grind
end
end Alg
namespace L2
open PySem Alg
section
variable {T:cj}
def pr (l:List (aF T.α)):aF T.α:=l.foldr (λa b=>a*b) 1
theorem sR (a)(l:List (aF T.α)):pr (a::l)=a*pr l:=rfl
theorem As (a b:List (aF T.α)):pr (a++b)=pr a*pr b:=by
 induction a with
 | nil=>show pr b=1*pr b;grind
 | cons x a ih=>show x*pr (a++b)=x*pr a*pr b;rw[ih];grind
structure Lg (l:List (aF T.α)):Prop where
 mon:∀t∈l,∃n,1<=n/\Alg.bH t n
 cop:l.Pairwise lQ
theorem Et(h:∀t∈l,aX t):aX (pr l):=by
 induction l with
 | nil=>exact aX.one
 | cons a l ih=>exact(h a Yg).mul (ih λt ht=>h t (Ye _ ht))
theorem Nr(h:∀t∈l,∃n,Alg.bH t n):∃n,Alg.bH (pr l) n:=by
 induction l with
 | nil=>exact⟨0,nC⟩
 | cons a l ih=>
  obtain⟨n,hn⟩:=h a Yg;obtain⟨m,hm⟩:=ih λt ht=>h t (Ye _ ht)
  exact⟨n+m,fF hn hm⟩
theorem Nu(pa:aX a)(h:∀t∈l,aX t/\lQ a t):lQ a (pr l):=by
 induction l with
 | nil=>exact lQ.one a
 | cons b l ih=>exact lQ.mul pa (h b Yg).1 (Et λt ht=>(h t (Ye _ ht)).1) (h b Yg).2 (ih λt ht=>h t (Ye _ ht))
theorem Gp(hP:∀t∈l,aX t)(hc:l.Pairwise lQ):∀t∈l,∃l',(∀s∈l',s∈l)/\pr l=t*pr l'/\lQ t (pr l'):=by
 induction l with
 | nil=>intro t ht;cases ht
 | cons a l ih=>
  intro t ht;rw[List.pairwise_cons] at hc;rcases List.mem_cons.mp ht with rfl|h
  ·exact⟨l,λs hs=>Ye _ hs,rfl,Nu (hP _ Yg) λs hs=>⟨hP s (Ye _ hs),hc.1 s hs⟩⟩
  ·obtain⟨l',h1,h2,h3⟩:=ih (λs hs=>hP s (Ye _ hs)) hc.2 t h
   refine⟨a::l',λs hs=>?_,?_,?_⟩
   ·rcases List.mem_cons.mp hs with rfl|z
    ·exact Yg
    ·exact Ye _ (h1 s z)
   ·show a*pr l=t*(a*pr l');rw[h2];grind
   ·exact lQ.mul (hP t ht) (hP a Yg) (Et λs hs=>hP s (Ye _ (h1 s hs))) (hc.1 t h).symm h3
theorem Qw(h1:iM T f a d n)(h2:iM T f b e m)(c:lQ a b):lQ d e:=by
 have x1:Dv d a:=h1.right;have x2:Dv e b:=h2.right;exact(c.rP x2).symm.rP x1 |>.symm
theorem Nv(hi:i<T.p)(hj:j<T.p)(h:i≠j):lQ (g-cst (nt T.α i)) (g-cst (nt T.α j)):=by
 have hne:nt T.α i-nt T.α j≠0:=λz=>by
  rcases Nat.lt_or_ge i j with l|l
  ·have e:nt T.α (j-i+i)=nt T.α j:=by rw[Nat.sub_add_cancel (by omega)]
   rw[nR] at e;refine vC (T:=T) (r:=j-i) (by rw[Y1 (by omega)];omega) ?_
   grind
  ·have e:nt T.α (i-j+j)=nt T.α i:=by rw[Nat.sub_add_cancel (by omega)]
   rw[nR] at e;refine vC (T:=T) (r:=i-j) (by rw[Y1 (by omega)];omega) ?_
   grind
 obtain⟨y,hy⟩:=T.fld.2 _ hne;refine⟨-cst y,cst y,(aX.cst y).neg,aX.cst y,?_⟩
 have e:cst y*(cst (nt T.α i)-cst (nt T.α j))=1:=by
  have:cst (nt T.α i)-cst (nt T.α j)=cst (nt T.α i-nt T.α j):=by
   apply aF.ext;funext k
   rw[qV];show(if k=0 then nt T.α i else 0)-(if k=0 then nt T.α j else 0)=if k=0 then nt T.α i-nt T.α j else 0
   by_cases hk:k=0
   ·rw[Wx hk,Wx hk,Wx hk]
   ·rw[Ww hk,Ww hk,Ww hk];grind
  rw[this,<- iU,<- jR];congr 1
  rw[<- hy];grind
 rw[<- e];grind
theorem Kg {g:aF T.α}(pg:aX g):∀k,aX (Np g k)
 | 0=>aX.one
 | k+1=>by
  show aX (Np g k*(g-nt (aF T.α) k))
  rw[uw];exact(Kg pg k).mul (pg.sub (aX.cst _))
theorem parted(mf:Alg.bH f n)(n1:1<=n)(pg:aX g)(st:Cg f (g ^ T.p) g){e:Nat->Nat}(hd:∀k,k<T.p->iM T f (g-cst (nt T.α k)) (d k) (e k)):
  ∀l:List (aF T.α),l=((Yi T.p).filter λk=>decide (1<=e k)).map d->Lg l/\pr l=f/\∀t∈l,∃x:T.α,Cg t g (cst x):=by
 have pp:=(bM T.pr).1;intro l hl;have mem:∀t∈l,∃k,k<T.p/\1<=e k/\t=d k:=λt ht=>by
  rw[hl] at ht;obtain⟨k,hk,rfl⟩:=List.mem_map.mp ht;obtain⟨h1,h2⟩:=List.mem_filter.mp hk;exact⟨k,List.mem_range.mp h1,Wz h2,rfl⟩
 have cop:l.Pairwise lQ:=by
  rw[hl,List.pairwise_map];refine(List.Pairwise.filter _ (List.nodup_range (n:=T.p))).imp_of_mem λ{a b} ha hb hne=>?_
  have ha':=List.mem_range.mp (List.mem_filter.mp ha).1;have hb':=List.mem_range.mp (List.mem_filter.mp hb).1;exact Qw (hd a ha') (hd b hb') (Nv ha' hb' hne)
 have prs:Lg l:=⟨λt ht=>by obtain⟨k,hk,h1,rfl⟩:=mem t ht;exact⟨e k,h1,(hd k hk).mon⟩,cop⟩
 refine⟨prs,?_,λt ht=>?_⟩
 ·have hP:∀t∈l,aX t:=λt ht=>by obtain⟨m,_,h⟩:=prs.mon t ht;exact h.kX
  have div:∀m:List (aF T.α),(∀t∈m,aX t/\Dv t f)->m.Pairwise lQ->Dv (pr m) f:=by
   intro m;induction m with
   | nil=>intro _ _;exact⟨f,mf.kX,by show f=f*1;grind⟩
   | cons a m ih=>
    intro h hc;rw[List.pairwise_cons] at hc;exact lQ.both (Nu (h a Yg).1 λt ht=>⟨(h t (Ye _ ht)).1,hc.1 t ht⟩) (h a Yg).2 (ih (λt ht=>h t (Ye _ ht)) hc.2)
  have h1:Dv (pr l) f:=div l (λt ht=>⟨hP t ht,by obtain⟨k,hk,_,rfl⟩:=mem t ht;exact(hd k hk).left⟩) cop
  have full:∀k,k<=T.p->∃w,aX w/\Cg f (pr (((Yi k).filter λk=>decide (1<=e k)).map d)) (w*Np g k):=by
   intro k;induction k with
   | zero=>intro _;exact⟨1,aX.one,⟨0,aX.zero,by show(1:aF T.α)-1*1=0*f;grind⟩⟩
   | succ k ih=>
    intro hk;obtain⟨w,pw,q,pq,hq⟩:=ih (by omega)
    obtain⟨mo,⟨u,v,pu,pv,huv⟩,_,_⟩:=hd k (by omega)
    have pk:=Kg pg k;refine⟨w*v,pw.mul pv,?_⟩
    rw[Z7,List.filter_append,Yr,As];generalize pr (((Yi k).filter λk=>decide (1<=e k)).map d)=A at hq
    have eA:A=w*Np g k+q*f:=by rw[<- hq];grind
    have tail:pr ((List.filter (λk=>decide (1<=e k)) [k]).map d)=d k:=by
     by_cases h:1<=e k
     ·rw[List.filter_cons_of_pos (by simpa using h)]
      show d k*1=d k;grind
     ·rw[List.filter_cons_of_neg (by simpa using h)]
      have h0:e k=0:=by omega
      rw[h0] at mo;have z:=iz mo.dg;rw[mo.top] at z;show 1=d k
      rw[z];rfl
    rw[tail];have hk2:Np g (k+1)=Np g k*(g-nt (aF T.α) k):=rfl;rw[hk2,uw];refine⟨w*Np g k*u+q*d k,((pw.mul pk).mul pu).add (pq.mul mo.kX),?_⟩
    rw[eA,huv];grind
  obtain⟨w,pw,hw⟩:=full T.p (Yd _);rw[<- hl,Qv T.pr pp (by rw[uw,T.ch,dh])] at hw
  have h2:Dv f (pr l):=by
   obtain⟨q,pq,hq⟩:=hw;obtain⟨r,pr',hr⟩:=st;exact⟨q+w*r,pq.add (pw.mul pr'),by
    have:pr l=q*f+w*(g ^ T.p-g):=by rw[<- hq];grind
    rw[this,hr];grind⟩
  obtain⟨m,hm⟩:=Nr (l:=l) λt ht=>by obtain⟨m,_,h⟩:=prs.mon t ht;exact⟨m,h⟩
  obtain⟨x,px,ex⟩:=h1;obtain⟨y,py,ey⟩:=h2;have a1:=(vA hm mf px ex).1;have a2:=vA mf hm py ey;exact a2.2 (by omega)
 ·obtain⟨k,hk,h1,rfl⟩:=mem t ht
  exact⟨nt T.α k,(hd k hk).right⟩
end
mutual
def flat:El->List Int
 | .num i=>[i]
 | .vec l=>kJ l
def kJ:List El->List Int
 | []=>[]
 | e::l=>flat e++kJ l
end
theorem mq (l):kJ l=(l.map flat).flatten:=by
 induction l with
 | nil=>rfl
 | cons e l ih=>show flat e++kJ l=_;rw[ih];rfl
theorem uA {β:Type}(g:Nat->Nat->β){d:Nat}(hd:1<=d):∀n,((Yi n).map λi=>(Yi d).map λj=>g i j).flatten=(Yi (d*n)).map λk=>g (k / d) (k % d)
 | 0=>by simp
 | n+1=>by
  rw[Z7,Yr,List.flatten_append,uA g hd n,Y4,List.range_add,Yr];congr 1
  show(Yi d).map (λj=>g n j)++[]=_
  rw[Zy,Z3];refine Z9 λj hj=>?_
  have hj:=List.mem_range.mp hj;show g n j=g ((d*n+j) / d) ((d*n+j) % d)
  rw[Nat.mul_add_div (by omega),Wk hj,Nat.mul_add_mod,Y1 hj,Wc]
abbrev Zt (T:cj):Type:=(ground T.p T.pr).α
def zv {T:cj}(x:Zt T):Nat:=(show Zp T.p from x).v
structure iN (T:cj)(F:T.α->Nat->Zt T):Prop where
 fl:∀x,flat (T.enc x)=(Yi T.d).map λj=>(zv (F x j):Int)
 add:∀x y j,F (x+y) j=F x j+F y j
 zero:∀x,(∀j,j<T.d->F x j=0)->x=0
 Tc:∀w:Nat->Zt T,∃x,∀j,j<T.d->F x j=w j
theorem Qx(h:Wd T ws):∃F,iN T F:=by
 induction h with
 | @gr p hp=>
  refine⟨λx j=>if j=0 then x else 0,λx=>rfl,λx y j=>?_,λx h=>?_,λw=>⟨w 0,λj hj=>?_⟩⟩
  ·show(if j=0 then x+y else 0)=(if j=0 then x else 0)+(if j=0 then y else 0)
   by_cases c:j=0
   ·rw[Wx c,Wx c,Wx c]
   ·rw[Ww c,Ww c,Ww c];grind
  ·have:=h 0 (by show 0<1;decide)
   exact this
  ·have hj:j<1:=hj
   obtain rfl:j=0:=by omega
   rfl
 | @up T ws M al hn w ih=>
  obtain⟨F,hF⟩:=ih;have d1:=w.d1;refine⟨λx j=>F ((show Qt M from x).s.c (j / T.d)) (j % T.d),λx=>?_,λx y j=>?_,λx h=>?_,λw=>?_⟩
  ·show kJ ((Yi M.n).map λi=>T.enc ((show Qt M from x).s.c i))=(Yi (T.d*M.n)).map λj=>(zv (F ((show Qt M from x).s.c (j / T.d)) (j % T.d)):Int)
   rw[mq,Z3,<- uA (λi j=>(zv (F ((show Qt M from x).s.c i) j):Int)) d1]
   congr 1
   exact Z9 λi _=>hF.fl _
  ·show F ((show Qt M from x).s.c (j / T.d)+(show Qt M from y).s.c (j / T.d)) (j % T.d)=_
   exact hF.add _ _ _
  ·have hs:(show Qt M from x).s=0:=by
    apply aF.ext;funext i
    by_cases hi:i<M.n
    ·refine hF.zero _ λj hj=>?_
     have e:=h (T.d*i+j) (by
      show T.d*i+j<T.d*M.n
      have:=Yz T.d (show i+1<=M.n by omega)
      rw[Y4] at this;omega)
     have e:F ((show Qt M from x).s.c ((T.d*i+j) / T.d)) ((T.d*i+j) % T.d)=0:=e
     rw[Nat.mul_add_div (by omega),Wk hj,Nat.mul_add_mod,Y1 hj,Wc] at e
     exact e
    ·exact(show Qt M from x).lt i (by omega)
   exact Qt.ext hs
  ·have ch:∀i,∃y,∀j,j<T.d->F y j=w (T.d*i+j):=λi=>hF.Tc λj=>w (T.d*i+j)
   let s:aF T.α:=⟨λi=>if i<M.n then (ch i).choose else 0⟩
   have ds:Dg s M.n:=λi hi=>by show(if i<M.n then (ch i).choose else 0)=0;rw[Ww (by omega)]
   refine⟨(⟨s,ds⟩:Qt M),λj hj=>?_⟩
   have hj:j<T.d*M.n:=hj;have hi:j / T.d<M.n:=Nat.div_lt_of_lt_mul hj;show F (if j / T.d<M.n then (ch (j / T.d)).choose else 0) (j % T.d)=w j
   rw[Wx hi,(ch (j / T.d)).choose_spec _ (Wv _ (by omega)),Y5]
section
variable {T:cj} {F:T.α->Nat->Zt T}
theorem iN.nil (h:iN T F)(j):F 0 j=0:=by
 have:=h.add 0 0 j
 rw[show(0:T.α)+0=0 by grind] at this
 grind
def Eu (T:cj)(z:Zt T):T.α:=nt T.α (zv z)
theorem iN.nt (h:iN T F)(x:T.α)(j:Nat):∀k:Nat,F (Alg.nt T.α k*x) j=Alg.nt (Zt T) k*F x j
 | 0=>by
  show F (0*x) j=0*F x j
  rw[show(0:T.α)*x=0 by grind,h.nil];grind
 | k+1=>by
  show F ((Alg.nt T.α k+1)*x) j=(Alg.nt (Zt T) k+1)*F x j
  rw[show(Alg.nt T.α k+1)*x=Alg.nt T.α k*x+x by grind,h.add,h.nt x j k];grind
theorem Nx (z):Alg.nt (Zt T) (zv z)=z:=by
 apply Zp.ext
 show(letI:=rE (bM T.pr).1;Alg.nt (Zp T.p) (zv z):Zp T.p).v=(show Zp T.p from z).v
 rw[z7];exact Y1 (show Zp T.p from z).lt
theorem iN.Eu (h:iN T F)(z:Zt T)(x:T.α)(j:Nat):F (Eu T z*x) j=z*F x j:=by
 show F (Alg.nt T.α (zv z)*x) j=_
 rw[h.nt,Nx]
theorem Qy (z):Eu T z ^ T.p=Eu T z:=by
 have pp:=(bM T.pr).1;have e:∀(k n:Nat),Alg.nt T.α k ^ n=Alg.nt T.α (k ^ n):=λk n=>by
  induction n with
  | zero=>rw[br,Wo,iV]
  | succ n ih=>rw[aR,ih,Wi,kY]
 have f:=(ground T.p T.pr).fr z;rw[show(ground T.p T.pr).p ^ (ground T.p T.pr).d=T.p from Wm _] at f
 have f2:Alg.nt (Zt T) (zv z ^ T.p)=Alg.nt (Zt T) (zv z):=by
  have e0:∀(k n:Nat),Alg.nt (Zt T) k ^ n=Alg.nt (Zt T) (k ^ n):=λk n=>by
   induction n with
   | zero=>rw[br,Wo,iV]
   | succ n ih=>rw[aR,ih,Wi,kY]
  rw[<- e0,Nx];exact f
 have f3:(zv z ^ T.p) % T.p=zv z % T.p:=by
  have:=W1 (λw:Zt T=>(show Zp T.p from w).v) f2
  have g1:=z7 (bM T.pr).1 (zv z ^ T.p);have g2:=z7 (bM T.pr).1 (zv z);exact g1.symm.trans (this.trans g2)
 show Alg.nt T.α (zv z) ^ T.p=Alg.nt T.α (zv z)
 rw[e,<- qh T.ch,f3,qh T.ch]
def pz (F:T.α->Nat->Zt T)(s:aF T.α)(c:Nat):Zt T:=F (s.c (c / T.d)) (c % T.d)
theorem IE (h:iN T F)(s t)(c):pz F (s+t) c=pz F s c+pz F t c:=h.add _ _ _
theorem Ny (h:iN T F)(z)(s)(c):pz F (cst (Eu T z)*s) c=z*pz F s c:=by
 show F ((cst (Eu T z)*s).c _) _=_
 rw[bS,h.Eu];rfl
theorem Ew (h:iN T F)(d1:1<=T.d)(ds:Dg s n)(h0:∀c,c<T.d*n->pz F s c=0):s=0:=by
 apply aF.ext;funext i
 by_cases hi:i<n
 ·refine h.zero _ λj hj=>?_
  have e:=h0 (T.d*i+j) (by
   have:=Yz T.d (show i+1<=n by omega)
   rw[Y4] at this;omega)
  unfold pz at e;rw[Nat.mul_add_div (by omega),Wk hj,Nat.mul_add_mod,Y1 hj,Wc] at e
  exact e
 ·exact ds i (by omega)
theorem Ex (h:iN T F)(d1:1<=T.d)(n)(w:Nat->Zt T):∃s:aF T.α,Dg s n/\∀c,c<T.d*n->pz F s c=w c:=by
 have ch:∀i,∃y,∀j,j<T.d->F y j=w (T.d*i+j):=λi=>h.Tc λj=>w (T.d*i+j)
 refine⟨⟨λi=>if i<n then (ch i).choose else 0⟩,λi hi=>by show(if i<n then (ch i).choose else 0)=0;rw[Ww (by omega)],λc hc=>?_⟩
 have hi:c / T.d<n:=Nat.div_lt_of_lt_mul hc;show F (if c / T.d<n then (ch (c / T.d)).choose else 0) (c % T.d)=w c
 rw[Wx hi,(ch (c / T.d)).choose_spec _ (Wv _ (by omega)),Y5]
theorem Td (h:iN T F)(s t)(c):pz F (s-t) c=pz F s c-pz F t c:=by
 have:=IE h (s-t) t c
 rw[show s-t+t=s by grind] at this
 grind
theorem IF (h:iN T F)(d1:1<=T.d)(ds:Dg s n)(dt:Dg t n)(e:∀c,c<T.d*n->pz F s c=pz F t c):s=t:=by
 have:=Ew h d1 (ds.sub dt) λc hc=>by rw[Td h,e c hc];grind
 grind
def lc (T:cj)(b:Nat->aF T.α)(d:Nat->Zt T):Nat->aF T.α
 | 0=>0
 | m+1=>lc T b d m+cst (Eu T (d m))*b m
theorem NB (h:iN T F)(b:Nat->aF T.α)(d:Nat->Zt T)(c:Nat):∀m,pz F (lc T b d m) c=sm m d (λr c=>pz F (b r) c) c
 | 0=>h.nil _
 | m+1=>by
  show pz F (lc T b d m+cst (Eu T (d m))*b m) c=sm m d (λr c=>pz F (b r) c) c+d m*pz F (b m) c
  rw[IE h,NB h b d c m,Ny h]
theorem Dg.lc {b:Nat->aF T.α}{d:Nat->Zt T}{n:Nat}(hb:∀r,Dg (b r) n):∀m,Dg (lc T b d m) n
 | 0=>Dg.zero n
 | m+1=>(Dg.lc hb m).add λi hi=>by rw[bS,hb m i hi];grind
noncomputable def uB (M:Md T.α)(s:aF T.α):aF T.α:=Alg.rest M (s ^ T.p-s)
theorem Au{s r:aF T.α}(dr:Dg r M.n)(h:Cg M.f (s ^ T.p-s) r):uB M s=r:=rest_eq dr h
theorem Qz {M:Md T.α}{s t:aF T.α}(ps:aX s)(pt:aX t):uB M (s+t)=uB M s+uB M t:=by
 refine Au ((cJ M _).add (cJ M _)) ?_
 have f:=JB T.ok (by rw[uw,T.ch,dh]) s t
 have e:(s+t) ^ T.p-(s+t)=(s ^ T.p-s)+(t ^ T.p-t):=by rw[f];grind
 rw[e];exact(cS ((ps.pow _).sub ps)).add (cS ((pt.pow _).sub pt))
theorem QA(ps:aX s)(z):uB M (cst (Eu T z)*s)=cst (Eu T z)*uB M s:=by
 refine Au (λi hi=>by rw[bS,show(uB M s).c i=0 from cJ M _ i hi];grind) ?_
 have e:(cst (Eu T z)*s) ^ T.p-cst (Eu T z)*s=cst (Eu T z)*(s ^ T.p-s):=by
  rw[zS,<- sO,Qy];grind
 rw[e];exact Cg.mul (aX.cst _) ((ps.pow _).sub ps) (Cg.refl _ _) (cS ((ps.pow _).sub ps))
theorem IG {M:Md T.α}{b:Nat->aF T.α}{d:Nat->Zt T}(hb:∀r,aX (b r)):∀m,uB M (lc T b d m)=lc T (λr=>uB M (b r)) d m/\aX (lc T b d m)
 | 0=>by
  have pp:=(bM T.pr).1;refine⟨Au (Dg.zero _) ?_,aX.zero⟩
  show Cg M.f ((0:aF T.α) ^ T.p-0) 0
  rw[lN (by omega)]
  exact⟨0,aX.zero,by grind⟩
 | m+1=>by
  obtain⟨h1,h2⟩:=IG (M:=M) (d:=d) hb m;have h3:aX (cst (Eu T (d m))*b m):=(aX.cst _).mul (hb m);refine⟨?_,h2.add h3⟩
  show uB M (lc T b d m+cst (Eu T (d m))*b m)=lc T (λr=>uB M (b r)) d m+cst (Eu T (d m))*uB M (b m)
  rw[Qz h2 h3,h1,QA (hb m)]
structure VJ (F:T.α->Nat->Zt T)(n:Nat)(b:Nat->aF T.α):Prop where
 dg:∀r,Dg (b r) n
 un:∀r c,c<T.d*n->r<T.d*n->pz F (b r) c=if c=r then 1 else 0
theorem VJ.lc (h:iN T F)(d1:1<=T.d)(u:VJ F n b)(ds:Dg s n):s=L2.lc T b (pz F s) (T.d*n):=by
 refine IF h d1 ds (Dg.lc u.dg _) λc hc=>?_
 rw[NB h];have e:sm (T.d*n) (pz F s) (λr c=>pz F (b r) c) c=sm (T.d*n) (λr=>if r=c then 1 else 0) (λr _=>pz F s r) c:=by
  have z:∀m,m<=T.d*n->sm m (pz F s) (λr c=>pz F (b r) c) c=sm m (λr=>if r=c then 1 else 0) (λr _=>pz F s r) c:=by
   intro m;induction m with
   | zero=>intro _;rfl
   | succ m ih=>
    intro hm;show sm m _ _ c+pz F s m*pz F (b m) c=sm m _ _ c+(if m=c then 1 else 0)*pz F s m
    rw[ih (by omega),u.un m c hc (by omega)]
    by_cases h:c=m
    ·rw[Wx h,Wx h.symm];grind
    ·rw[Ww h,Ww (λz=>h z.symm)];grind
  exact z _ (Yd _)
 rw[e,Kc hc]
theorem Gq (h:iN T F)(d1:1<=T.d)(u:VJ F M.n b)(ds:Dg s M.n):Cg M.f (s ^ T.p) s↔∀c,c<T.d*M.n->sm (T.d*M.n) (pz F s) (λr c=>pz F (uB M (b r)) c) c=0:=by
 have ps:aX s:=⟨_,ds⟩;have e:=u.lc h d1 ds;have hf:=(IG (M:=M) (d:=pz F s) (λr=>⟨_,u.dg r⟩) (T.d*M.n)).1
 rw[<- e] at hf;have key:∀c,pz F (uB M s) c=sm (T.d*M.n) (pz F s) (λr c=>pz F (uB M (b r)) c) c:=λc=>by rw[hf,NB h]
 constructor
 ·intro st c hc
  rw[<- key c];have:uB M s=0:=Au (Dg.zero _) (by
   obtain⟨q,pq,eq⟩:=st;exact⟨q,pq,by rw[eq];grind⟩)
  rw[this];exact h.nil _
 ·intro hz
  have:uB M s=0:=Ew h d1 (cJ M _) λc hc=>by rw[key c];exact hz c hc
  have hc:=cS (M:=M) ((ps.pow T.p).sub ps);have hc:Cg M.f (s ^ T.p-s) (uB M s):=hc;rw[this] at hc;obtain⟨q,pq,eq⟩:=hc;exact⟨q,pq,by rw[<- eq];grind⟩
theorem stay_all (h:iN T F)(d1:1<=T.d)(u:VJ F M.n b)(hS:G_ (T.d*M.n) (T.d*M.n) (λr c=>pz F (uB M (b r)) c) (T.d*M.n) S)(dt:Dv t M.f)
  (hk:∀r∈S,∀g:aF T.α,Dg g M.n->(∀c,c<T.d*M.n->pz F g c=r (T.d*M.n+c))->∃x:T.α,Cg t g (cst x)):∀s,aX s->Cg M.f (s ^ T.p) s->∃x:T.α,Cg t s (cst x):=by
 intro s ps st;have c0:=cS (M:=M) ps;have d0:=cJ M s;have p0:aX (Alg.rest M s):=⟨_,d0⟩;have Uv:Cg M.f (Alg.rest M s ^ T.p) (Alg.rest M s):=((Cg.pow p0 ps c0 T.p).symm.trans st).trans c0;obtain⟨v,hv,ev⟩:=hS.done.2 _ ((Gq h d1 u d0).mp Uv);have all:∀v,oR S v->∀g:aF T.α,Dg g M.n->(∀c,c<T.d*M.n->pz F g c=v (T.d*M.n+c))->∃x:T.α,Cg t g (cst x):=by
  intro v hv;induction hv with
  | zero=>
   intro g dg eg;have:g=0:=Ew h d1 dg eg
   exact⟨0,by rw[this,dh];exact Cg.refl _ _⟩
  | @add r v a hr _ ih=>
   intro g dg eg;obtain⟨g1,ZT,e1⟩:=Ex h d1 M.n λc=>r (T.d*M.n+c)
   obtain⟨g2,d2',e2⟩:=Ex h d1 M.n λc=>v (T.d*M.n+c)
   obtain⟨x,hx⟩:=hk r hr g1 ZT e1;obtain⟨y,hy⟩:=ih g2 d2' e2;have e:g=cst (Eu T a)*g1+g2:=IF h d1 dg (Dg.add (λi hi=>by rw[bS,ZT i hi];grind) d2') λc hc=>by
    rw[eg c hc,IE h,Ny h,e1 c hc,e2 c hc]
   refine⟨Eu T a*x+y,?_⟩
   rw[e,zy,iU];exact(Cg.mul (aX.cst _) ⟨_,ZT⟩ (Cg.refl _ _) hx).add hy
 obtain⟨x,hx⟩:=all v hv _ d0 λc hc=>(ev c hc).symm
 exact⟨x,(Cg.rP c0 dt).trans hx⟩
end
end L2
namespace L2
open PySem PySem.Spec PyProof.Rows
def ZU (d:Nat)(lo:Int)(n:Nat):It:=⟨λi _=>i<n,λi H x H'=>H'=H/\x=.int (lo+i*(d:Int)),λi _=>n<=i⟩
theorem Gs {P:F?}{w:H?}{K:bK}{tg:Expr}(d:Nat)(hd:d≠0)(it:o?)(lo:Int)(n:Nat):Turn P w K tg (ZU d lo n) [it] it (λi h=>IsRangeIter h it (lo+(i:Nat)*(d:Int)) ((n:Int)-(i:Nat)) (d:Int)) where
 mem:=by simp
 obj:=λi h st b hb=>by
  have e:b=it:=by simpa using hb
  subst e;exact⟨_,st,λv z=>by
   have z':Data.fields _=Data.cell v:=z;cases z'⟩
 keep:=λi h h' st k=>k it (by simp) _ st
 item:=by
  intro X hP hw hK hc i pins s σ H E I hf st hg;subst hP hw hK;obtain⟨f0,f1,f2,f3,f4,f5⟩:=hf it (by simp)
  have W:=Walks.range (prog:=X.prog) (w:=X.w) (I.ok.hd hc) it lo (d:Int) n;refine W.item i s _ _ hg st λv h' tk hv st' kk=>?_
  obtain⟨t,rfl⟩:=hv;have I1:Inv X pins σ H { s with heap:=h',toks:=tk }:=I.turned (λb o hb e=>kk b o (by simpa using hb) e) f0 f1 f3 f4 f5
  exact⟨_,rfl,Mm (s:={ s with heap:=h',toks:=tk }) (n:="range_iterator") st' rfl rfl (by decide) ⟨.int (lo+i*(d:Int)),H,I1,⟨t,rfl⟩,⟨rfl,rfl⟩,st',λb hb=>(hf b hb).1⟩⟩
 done:=by
  intro X hP hw hK hc i pins s σ H E I hf st hg;subst hP hw hK;obtain⟨f0,f1,f2,f3,f4,f5⟩:=hf it (by simp)
  exact wpAny_pyNext_range_end (I.ok.hd hc) st (by have:n<=i:=hg;omega) λh' eb=>⟨rfl,I.turned (t':=s.toks) (λb o hb e=>eb b o hb e) f0 f1 f3 f4 f5⟩
 self:=λ_ _ _ _ _ st h=>wpAny_pyIter_rangeiter st h
theorem Kh {d:Nat}(hd:1<=d)(lo hi):Builtin.Range.rangeSize lo hi (d:Int)=if lo<hi then (hi-lo-1) / (d:Int)+1 else 0:=by
 unfold Builtin.Range.rangeSize;rw[Wx (by omega)]
theorem NC {d:Nat}(hd:1<=d)(hd2:d<=1000)(ha:-(2 ^ 59)<=a)(ha':a<2 ^ 59)(hb:-(2 ^ 59)<=b)(hb':b<2 ^ 59):Builtin.Range.small a b (d:Int)=true:=by
 unfold Builtin.Range.small;rw[Kh hd];have h0:(d:Int) > 0:=by omega
 simp only[Builtin.Range.rangeFitsLong,V?,Bool.or_eq_true,decide_eq_true_eq,beq_iff_eq,h0,if_true]
 split
 ·rename_i h
  have h1:=Int.ediv_nonneg (show 0<=b-a-1 by omega) (show 0<=(d:Int) by omega)
  have h2:=Int.ediv_le_self (d:Int) (show 0<=b-a-1 by omega)
  have h3:=Int.ediv_mul_le (b-a-1) (show(d:Int)≠0 by omega)
  have h4:((b-a-1) / (d:Int))*(d:Int)<=b-a-1:=h3;generalize (b-a-1) / (d:Int)=qq at h1 h2 h4 ⊢;omega
 ·omega
section
variable {X:Cx} {tg:Expr}
inductive ND  (R:It->Hp->Prop)(vs:List V)(H1:Hp):Prop where
 | mk (i j:Int) (d:Nat) (c5:vs=[.int i,.int j,.int (d:Int)]) (c6:(-(2 ^ 59)<=i/\i<2 ^ 59/\-(2 ^ 59)<=j/\j<2 ^ 59/\1<=d/\d<=1000)) (dS:R (ZU d i (if i<j then (j-i-1) / (d:Int)+1 else 0).toNat) H1)
def Te (ta:TA):TI:=λσ H R=>ta σ H λvs H1=>ND  R vs H1
theorem II(hg:Gl X "range")(hm:X.mg "range"=q?)(ha:PA X [a,b,c] ta)(hs:I? [a,b,c] X.env=[(false,eval a X.env),(false,eval b X.env),(false,eval c X.env)]:=by rfl)(hs2:I? [b,c] X.env=[(false,eval b X.env),(false,eval c X.env)]:=by rfl):
  PI X tg (.Call (.Name "range" p) [a,b,c] [] pos) (Te ta):=by
 intro pins s σ H R I h;refine Call_ (nU I hg hm boot_range (P! (fq (ha pos pins s σ H _ I h) λus s1 ⟨vs,H1,I1,r1,q1⟩=>?_) (by rw[hs,hs2]) (by rw[hs2];rfl)))
 obtain⟨lo,hi,d,e,⟨q1,q2,q3,q4,q5,q6⟩,q⟩:=q1;subst e;cases r1 with
 | cons r rr=>
  cases rr with
  | cons r' rr=>
   cases rr with
   | cons r'' rr=>
    cases rr;obtain⟨t,rfl⟩:=r;obtain⟨t',rfl⟩:=r';obtain⟨t'',rfl⟩:=r'';refine call_range_3 (by omega) ?_ (z? (PyProof.noPylong_small (by omega)))
    refine wpAny_pyIter_range (IsRange.new ..) (NC q5 q6 q1 q2 q3 q4) ?_
    have I2:Inv X pins σ H1 { s1 with heap:=s1.heap.push { cls:=.type "range",data:=.fields #[.int lo t,.int hi t',.int (d:Int) t''] },toks:=s1.toks }:=I1.kept λb o e=>Yf _ e
    refine⟨(s1.heap.push { cls:=.type "range",data:=.fields #[.int lo t,.int hi t',.int (d:Int) t''] }).objs.size,[(s1.heap.push { cls:=.type "range",data:=.fields #[.int lo t,.int hi t',.int (d:Int) t''] }).objs.size],_,_,H1,rfl,
     I2.kept (t':=s1.toks) λb o e=>Yf _ e,Gs d (by omega) _ lo _,?_,λb hb=>?_,q⟩
    ·have e1:lo+((0:Nat):Int)*(d:Int)=lo:=by simp
     have e2:(((if lo<hi then (hi-lo-1) / (d:Int)+1 else 0).toNat:Nat):Int)-((0:Nat):Int)=Builtin.Range.rangeSize lo hi (d:Int):=by
      rw[Kh q5];split
      ·have:=Int.ediv_nonneg (show 0<=hi-lo-1 by omega) (show 0<=(d:Int) by omega)
       omega
      ·rfl
     show IsRangeIter _ _ (lo+((0:Nat):Int)*(d:Int)) ((((if lo<hi then (hi-lo-1) / (d:Int)+1 else 0).toNat:Nat):Int)-((0:Nat):Int)) (d:Int)
     rw[e1,e2];exact Yw _ rfl
    ·have e:b=(s1.heap.push { cls:=.type "range",data:=.fields #[.int lo t,.int hi t',.int (d:Int) t''] }).objs.size:=by simpa using hb
     subst e;exact I2.yC (Yd _) (I2.hok.fresh (Yd _))
end
theorem Lh {d:Nat}{lo:Int}{st:St}(Pv:Nat->List V->Hp->Prop)(h0:Pv 0 [] (upd H1 D (.lst [])))
  (hs:∀i m ys H2,m=n-i->i<n->H2 D=j? (.lst ys)->ys.length<=i->Pv i ys H2->g (.int (lo+i*(d:Int))) st H2 λσ3 H3=>v7 σ3 H3 λb H4=>
   if b=true then te σ3 H4 λy H5=>∃ys,H5 D=j? (.lst ys)/\ys.length<K?/\∃m',m'<m/\CW n D Pv (i+1) m' (upd H5 D (.lst (ys++[y]))) else ∃m',m'<m/\CW n D Pv (i+1) m' H4)
  (hd:∀ys H2,H2 D=j? (.lst ys)->Pv n ys H2->Q (.ref D) H2):
  tS (ZU d lo n) D st g v7 te Q H1:=by
 refine⟨CW n D Pv,⟨n,by simp,Y2 _,[],aq,Yd _,h0⟩,?_⟩
 rintro i m H2 ⟨hm,hi,ys,hy,hlen,p⟩;by_cases hlt:i<n
 ·refine .inr ⟨hlt,λx H' y=>?_⟩
  obtain⟨e,y⟩:=y;subst e y;exact hs i m ys _ hm hlt hy hlen p
 ·have e:i=n:=by omega
  subst e;exact .inl ⟨Yd _,hd ys H2 hy p⟩
def Li {β:Type}(k:Nat)(xs:List β):List β:=(Yi ((xs.length+k-1) / k)).filterMap λi=>xs[i*k]?
theorem Lj (its){k:Nat}(hk:1<=k):slicePick its.toArray q? q? (j? (k:Int))=(Li k its).toArray:=by
 have hb:sliceBounds q? q? (j? (k:Int)) its.toArray.size=(0,(its.length:Int),(k:Int)):=by
  have h0:¬ ((k:Int)<0):=by omega
  have hk0:k≠0:=by omega
  simp[sliceBounds,h0]
  exact⟨λz=>W3 z hk0,hk0⟩
 unfold slicePick;rw[hb];congr 1
 show(sliceRange 0 (its.length:Int) (k:Int)).filterMap (its.toArray[·]?)=Li k its
 have hr:sliceRange 0 (its.length:Int) (k:Int)=(Yi ((its.length+k-1) / k)).map λi:Nat=>i*k:=by
  unfold sliceRange;have hc:(if (k:Int) > 0 then (if (0:Int)<(its.length:Int) then ((its.length:Int)-0+(k:Int)-1) / (k:Int) else 0) else (if (0:Int) > (its.length:Int) then (0-(its.length:Int)-(k:Int)-1) / (-(k:Int)) else 0)).toNat=(its.length+k-1) / k:=by
   rw[Wx (by omega)]
   by_cases h:its.length=0
   ·rw[h,Ww (by decide),Zm]
    show 0=(k-1) / k
    rw[Wk (by omega)]
   ·rw[Wx (by omega),show(its.length:Int)-0+(k:Int)-1=((its.length+k-1:Nat):Int) by omega,<- Int.natCast_ediv,Yp]
  show(Yi (_:Int).toNat).map _=_
  rw[hc];refine Z9 λi hi=>?_
  show((0:Int)+(k:Int)*(i:Int)).toNat=i*k
  rw[Z8,<- Y6,Yp,Y7]
 rw[hr,List.filterMap_map];unfold Li;congr 1
 funext i
 show its.toArray[i*k]?=its[i*k]?
 rw[List.getElem?_toArray]
theorem QB(h:Vals xs us):∀i:Nat,(xs[i]?=q?/\us[i]?=q?)\/∃x u,xs[i]?=j? x/\us[i]?=j? u/\RelV x u:=by
 induction h with
 | nil=>intro i;exact .inl ⟨rfl,rfl⟩
 | cons r _ ih=>
  intro i;cases i with
  | zero=>exact .inr ⟨_,_,rfl,rfl,r⟩
  | succ i=>exact ih i
theorem wO {xs:List V}{us:List l?}(h:Vals xs us):∀l:List Nat,Vals (l.filterMap λi=>xs[i]?) (l.filterMap λi=>us[i]?)
 | []=>.nil
 | i::l=>by
  rcases QB h i with ⟨h1,h2⟩|⟨x,u,h1,h2,r⟩
  ·rw[Zh,Zh,h1,h2];exact wO h l
  ·rw[Zh,Zh,h1,h2];exact .cons r (wO h l)
theorem NF(h:Vals xs us)(k):Vals (Li k xs) (Li k us):=by
 unfold Li;rw[h.length];have:=wO h ((Yi ((us.length+k-1) / k)).map λi=>i*k)
 rw[List.filterMap_map,List.filterMap_map] at this;exact this
theorem Kl(k)(hk:1<=k)(xs:List β):(Li k xs).length=(xs.length+k-1) / k:=by
 unfold Li;have:∀l:List Nat,(∀i∈l,i*k<xs.length)->(l.filterMap λi=>xs[i*k]?).length=l.length:=λl=>by
  induction l with
  | nil=>intro _;rfl
  | cons i l ih=>intro h;rw[Zh,Ya (h i Yg),Zf,Zf,ih λj hj=>h j (Ye _ hj)]
 rw[this,Yv];intro i hi;have hi:=List.mem_range.mp hi;have h1:=Nat.div_mul_le_self (xs.length+k-1) k;have h2:=Zl k (show i+1<=(xs.length+k-1) / k by omega)
 rw[Nat.add_mul,Nat.one_mul] at h2;omega
theorem Tf(k)(hk:1<=k)(xs:List β)(hi:i<(xs.length+k-1) / k):(Li k xs)[i]?=xs[i*k]?:=by
 have hlt:∀j,j<(xs.length+k-1) / k->j*k<xs.length:=λj hj=>by
  have h1:=Nat.div_mul_le_self (xs.length+k-1) k;have h2:=Zl k (show j+1<=(xs.length+k-1) / k by omega)
  rw[Nat.add_mul,Nat.one_mul] at h2;omega
 unfold Li;have e:((Yi ((xs.length+k-1) / k)).filterMap λi=>xs[i*k]?)=(Yi ((xs.length+k-1) / k)).pmap (λj hj=>xs[j*k]'(hlt j hj)) (λj hj=>List.mem_range.mp hj):=by
  generalize hN:(xs.length+k-1) / k=N at hlt;have:∀(l:List Nat) (hl:∀j∈l,j<N),(l.filterMap λi=>xs[i*k]?)=l.pmap (λj hj=>xs[j*k]'(hlt j hj)) hl:=λl=>by
   induction l with
   | nil=>intro _;rfl
   | cons j l ih=>intro hl;rw[Zh,Ya (hlt j (hl j Yg)),List.pmap_cons];show _::_=_;rw[ih]
  exact this _ _
 rw[e,List.getElem?_pmap];rw[Ya (hlt i hi)];simp[Yy hi]
theorem QC(hm:1<=m)(L):(L+m-1) / m<=L:=by
 cases L with
 | zero=>rw[Zm,Wk (by omega)];omega
 | succ l=>
  obtain⟨t,rfl⟩:∃t,m=t+1:=⟨m-1,by omega⟩
  refine Nat.div_le_of_le_mul ?_
  rw[Nat.add_mul,Nat.mul_add];omega
section
variable {X:Cx} {e:Expr} {lo hi:Option Expr} {se:Expr} {te:TE} {tl th ts:TO} {p2 pos:Pos}
def ZV (K:bK)(te:TE)(tl th ts:TO):TE:=λσ H Q=>te σ H λx H1=>tl σ H1 λl H2=>th σ H2 λu H3=>ts σ H3 λk H4=>l=q?/\u=q?/\∃m:Nat,k=j? (m:Int)/\1<=m/\∃a xs,x=.ref a/\aU K H4 a xs/\∀p,H4 p=q?->Q (.ref p) (upd H4 p (.lst (Li m xs)))
theorem Lk {K:bK}(hK:X.K=K)(he:PE X e te)(hl:PO X lo tl)(hu:PO X hi th)(hst:PO X (j? se) ts):PE X (.Subscript e (.Slice lo hi (j? se) p2) pos) (ZV K te tl th ts):=by
 subst hK;refine⟨?_⟩
 intro pins s σ H Q I h;refine Subscript_ (fq (he pins s σ H _ I h) λv s1 ⟨x,H1,I1,r1,q1⟩=>?_)
 refine wpAny_Slice (fq (hl pins s1 σ H1 _ I1 q1) λvl s2 ⟨l,H2,I2,pl,q2⟩=>fq (hu pins s2 σ H2 _ I2 q2) λvu s3 ⟨u,H3,I3,pu,q3⟩=>fq (hst pins s3 σ H3 _ I3 q3) λvk s4 ⟨k,H4,I4,pk,q4⟩=>?_)
 obtain⟨rfl,rfl,m,rfl,hm,a,xs,rfl,hx,q⟩:=q4;cases r1;have I5:Inv X pins σ H4 { s4 with heap:=s4.heap.push { cls:=.type "slice",data:=.fields #[vl,vu,vk] } }:=I4.kept (t':=s4.toks) λb ob q=>Yf _ q
 show L? (T? X.prog X.w) X.A (subscriptTail e (.Slice lo hi (j? se) p2) (.ref a) (.ref s4.heap.objs.size)) (EP X pins σ Q) X.xe { s4 with heap:=s4.heap.push { cls:=.type "slice",data:=.fields #[vl,vu,vk] } }
 obtain⟨its,r,ht,hz⟩:=I5.list hx;have hlen:=r.length;refine tail_any (ops:=[.ref a,.ref s4.heap.objs.size]) (T:="list") ht.isList.typeIs slot_list_getitem.lookup ?_ (by with_unfolding_all rfl)
 refine wpAny_getItem_list_slice ht.isList (Heap.IsSliceOf.new ..) pl pu pk (by simp;omega) ?_ (by rw[Yu] <;> omega)
 rw[Lj _ hm];refine⟨.ref _,_,I5.laid (t':=s4.toks) (o:=.lst (Li m xs)) (λb ob q=>Yf _ q) (Yd _) ?_,rfl,q _ ?_⟩
 ·refine⟨?_,_,0,NF r m,Yw _ rfl⟩
  rw[Kl m hm];have:=QC hm xs.length
  omega
 ·exact I5.fresh
end
section
variable {P:F?} {w:H?} {H H':Hp} {h h':Q?} {a:o?} {o:HO}
end
section
variable {X:Cx} {pins:List (o?×Obj)} {σ:St} {H1 H':Hp} {s1 s2:u?} {C ea:o?}
end
section
variable {P:F?} {w:H?} {K:bK} {mg:Str->Option l?} {base:Q?} {N:List Str} {qual:Str} {scope:Scope} {f:o?} {cd:l?} {A:C!} {outer:List Env} {s:u?} {H:Hp} {E:XK}
end
section
variable {X:Cx} {pins:List (o?×Obj)} {σ:St} {H1:Hp} {s1:u?} {C ea:o?}
end
section
variable {P:F?} {w:H?} {K:bK} {mg:Str->Option l?} {base:Q?}
end
end L2
namespace L2
open PySem PySem.Spec PySem.W PyProof.Rows PySem.Calls PySem.Builtin PySem.Builtin.ObjectAttr PySem.Builtin.Getset_descriptor
section
variable {prog:F?} {w:H?} {A:C!} {E:l?->u?->Prop} {s:u?} {K:bK} {x C:o?}
end
section
variable {K:bK}
end
section
variable {X:Cx}
end
section
variable {X:Cx} {pins:List (o?×Obj)} {σ:St} {H1 H':Hp} {s1 s2:u?} {C ea:o?}
end
section
variable {X:Cx} {pins pn:List (o?×Obj)} {σ:St} {H:Hp} {s:u?} {ea:o?}
end
section
variable {K:bK} {N C:o?} {b:Bool}
end
end L2
namespace L2
open PySem PySem.Spec PySem.W PyProof.Rows
section
variable {X:Cx} {E:XK} {k n:Nat} {C:o?} {x:Str} {ps:List Str} {sp:Sp} {p pos:Pos} {e:Expr} {es:List Expr} {t:TA}
end
section
variable {P:F?} {w:H?} {K:bK} {mg:Str->Option l?} {base:Q?}
end
def IJ (f c':o?)(qual:Str)(params:Arguments)(body:Expr)(scope:Scope)(cl:List (Str×o?)):Q?->Prop:=λh=>∃pm ctv,h.get? f=j? (kla_obj "<lambda>" qual params body scope cl pm c' ctv)
def Ll (c':o?)(qual:Str):Q?->Prop:=λh=>∃oc vs t,h.get? c'=j? oc/\oc.data=.fields vs/\vs[1]?=j? (.str qual t)
def sY (H:Hp)(P f c':o?)(ps:Array l?)(pos:Pos)(qual:Str)(params:Arguments)(body:Expr)(scope:Scope)(cl:List (Str×o?)):Hp:=
 upd (upd (upd H P (.zU (ps++#[rawInt pos.line,rawInt pos.col,.ref c']))) c' (.ext (Ll c' qual))) f (.ext (IJ f c' qual params body scope cl))
inductive ZW (P:o?)(pos:Pos)(qual:Str)(params:Arguments)(body:Expr)(scope:Scope)(cl:List (Str×o?))(x0q:St)(H:Hp)(Q:VK):Prop where
 | mk (ps:Array l?) (c5:H P=j? (.zU ps)) (c6:TriplesOk ps.toList) (dS:codeAmong pos ps.toList=q?) (fT:∀f c',H f=q?->H c'=q?->f≠c'->Q (.ref f) (sY H P f c' ps pos qual params body scope cl))
def BMain (mg:Str->Option l?)(base:Q?):Prop:=∃(bm:o?) (ob:Obj),mg "__builtins__"=j? (.ref bm)/\bm≠builtinsNs/\base.get? bm=j? ob/\ob.cls=.type "module"/\ob.dict=j? builtinsNs/\ob.data=.plain
section
variable {X:Cx}
theorem Tg(hb:BMain X.mg X.base)(hc:X.env.code=.ref c)(hk:codeHdIn X.K c P=true)(hcl:∀y∈scope.names,y.2=.free->∃c,X.env.cells.lookup y.1=j? c)(hdef:defaultsOf params X.env=([],[]):=by rfl):
  PE X (.Lambda params body scope pos) (ZW P pos (X.env.qual++"<lambda>") params body scope (bq X.env.cells scope.names [])):=by
 refine⟨?_⟩
 intro pins s σ H Q I h;obtain⟨ps,hP,ht,hn,q⟩:=h;have eP:s.heap.get? P=j? (tabObj ps):=I.hok P _ hP;have hgs:=I.mod.glob.keeps I.bk;have hgP:G?≠P:=λz=>by
  obtain⟨o,es,ep,e,hd,_⟩:=hgs;rw[z,eP] at e;cases e;cases hd
 obtain⟨bm,ob,b1,b2,b3,b4,b5,b6⟩:=hb;have NG:=I.bk _ _ b3;have ZX:bm≠P:=λz=>by rw[z,eP] at NG;cases NG;cases b4
 have ZY:bm≠G?:=λz=>by
  obtain⟨o,es,ep,e,hd,_⟩:=hgs;rw[z,e] at NG;cases NG;rw[hd] at b6;cases b6
 refine kla_eval hdef (kla_makeFunction (mg:=X.mg) (jU hcl) I.ok.glob hgs hc (codeHd_of_K I.BZ hk) eP ht hn hgP ⟨bm,ob,b1,b2,ZY,ZX,NG,b4,b5,b6⟩ λc' ctv h' tk hx hge hlt hrec htb=>?_)
 have hP':P<s.heap.objs.size:=Yl eP;have ZZ:c'≠P:=λz=>W3 (Yj hP' hge) (by rw[z];exact Zb _)
 have hfc:h'.objs.size≠c':=Ne.symm (Ym hlt);have hsz:s.heap.objs.size<=h'.objs.size:=Ys hge (Nat.le_of_lt hlt);have Z_:h'.objs.size≠P:=Ne.symm (Ym (Yj hP' hsz));have nf:H h'.objs.size=q?:=I.hok.fresh hsz;have nc:H c'=q?:=I.hok.fresh hge;refine⟨.ref h'.objs.size,_,?_,rfl,q h'.objs.size c' nf nc hfc⟩
 generalize hO:kla_obj "<lambda>" (X.env.qual++"<lambda>") params body scope (bq X.env.cells scope.names []) ((X.mg "__name__").getD .none) c' ctv=O;have kp:∀b o,b≠P->s.heap.get? b=j? o->(h'.push O).get? b=j? o:=λb o hb e=>Yf _ (hx b o hb e)
 have ne:∀b o,H b=j? o->b≠P->sY H P h'.objs.size c' ps pos (X.env.qual++"<lambda>") params body scope (bq X.env.cells scope.names []) b=j? o:=λb o e hb=>by
  unfold sY;rw[aH (aL e nf),aH (aL e nc),aH hb];exact e
 have atP:sY H P h'.objs.size c' ps pos (X.env.qual++"<lambda>") params body scope (bq X.env.cells scope.names []) P=j? (.zU (ps++#[rawInt pos.line,rawInt pos.col,.ref c'])):=by
  unfold sY;rw[aH (Ne.symm Z_),aH (Ne.symm ZZ),aq]
 refine I.un ⟨λb o e n hb _=>?_,λb o e n hb _=>?_,λb o e n _=>?_,λb o e _=>?_,λb xs e=>?_,λb o u e=>?_,λb qs e=>?_⟩ λb o e=>?_
 ·exact kp b o (λz=>by rw[z,hP] at n;cases n) e
 ·exact⟨o.slots,kp b o (λz=>by rw[z,hP] at n;cases n) e⟩
 ·have hlb:=Yl e
  unfold sY;rw[aH (Ym (Yj hlb hsz)),aH (Ym (Yj hlb hge)),aH (λz=>by rw[z,hP] at n;cases n)]
  exact n
 ·by_cases z:b=P
  ·rw[z];exact⟨_,Yf _ htb⟩
  ·exact⟨o,kp b o z e⟩
 ·exact ne b _ e λz=>by rw[z,hP] at e;cases e
 ·exact ne b _ e λz=>by rw[z,hP] at e;cases e
 ·by_cases z:b=P
  ·rw[z,hP] at e;cases e
   exact⟨_,by rw[z];exact atP⟩
  ·exact⟨#[],by rw[ne b _ e z];simp⟩
 ·by_cases zf:b=h'.objs.size
  ·subst zf
   have e':j? (HO.ext (IJ h'.objs.size c' (X.env.qual++"<lambda>") params body scope (bq X.env.cells scope.names [])))=j? o:=by rw[<- e];exact aq.symm
   cases e';have g:(h'.push O).get? h'.objs.size=j? O:=Yw _ (by rw[<- hO];rfl)
   refine⟨⟨_,_,by rw[hO];exact g⟩,⟨_,g⟩,λh1 h2 z k=>?_⟩
   obtain⟨pm,cv,z⟩:=z;exact⟨pm,cv,k _ z⟩
  ·by_cases zc:b=c'
   ·subst zc
    have e':j? (HO.ext (Ll b (X.env.qual++"<lambda>")))=j? o:=by
     rw[<- e];unfold sY;rw[aH zf,aq]
    cases e';obtain⟨c2,oc,vs,t,ec,g1,g2,g3⟩:=hrec;cases ec;refine⟨⟨oc,vs,t,Yf _ g1,g2,g3⟩,⟨_,Yf _ g1⟩,λh1 h2 z k=>?_⟩
    obtain⟨o1,v1,t1,z1,z2,z3⟩:=z;exact⟨o1,v1,t1,k _ z1,z2,z3⟩
   ·by_cases zP:b=P
    ·subst zP
     rw[atP] at e;cases e;exact Yf _ htb
    ·have e':H b=j? o:=by
      rw[<- e];unfold sY;rw[aH zf,aH zc,aH zP]
     refine(I.hok b o e').stay (λd u hd hu=>kp d u (λz=>?_) hu) (λd hd=>ne d _ hd λz=>by rw[z,hP] at hd;cases hd) λd xs hd=>ne d _ hd λz=>by rw[z,hP] at hd;cases hd
     rcases hd with y|y
     ·exact zP (y.symm.trans z)
     ·rw[z,hP] at y;cases y
end
def Av (P:F?)(w:H?)(K:bK)(mg:Str->Option l?)(base:Q?)(N:List Str)(qual:Str)(scope:Scope)(f c':o?)(cl:List (Str×o?))(A:C!)(outer:List Env)(s:u?)(H:Hp):Cx where
 prog:=P
 w:=w
 K:=K
 mg:=mg
 base:=base
 A:=A.deeper (envX qual scope s.heap.objs.size f (.ref c') cl)
 N:=N
 s₀:=s
 H₀:=H
 env:=envX qual scope s.heap.objs.size f (.ref c') cl
 outer:=outer
 stack:=envX qual scope s.heap.objs.size f (.ref c') cl::outer
 ex:=[]
 fn:=λ_=>false
 calm:=true
 pn:=[]
 xe:=λ_ _=>False
section
variable {P:F?} {w:H?} {K:bK} {mg:Str->Option l?} {base:Q?}
end
section
variable {X:Cx} {pins:List (o?×Obj)} {σ:St} {H1:Hp} {s1:u?}
end
section
variable {P:F?} {w:H?} {K:bK} {mg:Str->Option l?} {base:Q?}
end
section
variable {X:Cx} {pins:List (o?×Obj)} {σ:St} {H1:Hp} {s1:u?}
end
def O0 (e r:Nat->Bool):Nat->Nat->Bool
 | 0,_=>false
 | k+1,i=>if e i=true then O0 e r k (i+1) else r i
section
open PySem.SeqAt
open PySem.AutoSeq1 (wpAny_loadPart')
open PySem.MeetsSeq PySem.MeetsSeq2 PySem.MeetsSeq3
def QD (A:C!)(s:u?)(x y:l?)(r:Bool):Prop:=∀prog w E (Q:l?->u?->Prop),Q (.bool r) s->L? (T? prog w) A (richCompare .Lt x y) Q E s
theorem QE (l b)(items items2)(n n2)(dd dd2)(sl sl2:Array (Option l?))(hsz:items.size=items2.size)(e r:Nat->Bool)(k):
  ∀i:Nat,items.size-i=k->Meets (Builtin.«list.__eq__.loop» ⟨[.ref l,.ref b,rawInt i,rawInt 0],[]⟩)
   (λA R s=>s.heap.get? l=j? { cls:=.type "list",dict:=dd,data:=.seq items n,slots:=sl }/\s.heap.get? b=j? { cls:=.type "list",dict:=dd2,data:=.seq items2 n2,slots:=sl2 }/\
    (∀(j:Nat) x y,items[j]?=j? x->items2[j]?=j? y->EqAt A.in1 s x y (e j))/\(∀(j:Nat) x y,items[j]?=j? x->items2[j]?=j? y->e j=false->QD A.in1 s x y (r j))/\
    R (.ok (.ret (.bool (O0 e r k i)))) s):=by
 induction k with
 | zero=>
  intro i hk prog w A R s h;obtain⟨hp,g,d,tk,os⟩:=s;obtain⟨hl,hb,he,hc,h⟩:=h;wp_walk using U? hl,U? hb
  have hi:items[((i:Nat):Int).toNat]?=q?:=by simp;omega
  rw[hi];wp_walk using U? hl,U? hb
  show R (.ok (.ret (.bool (decide (items.size<items2.size))))) _
  rw[hsz,W0 (Zb _)];exact h
 | succ k ih=>
  intro i hk prog w A R s h;obtain⟨hp,g,d,tk,os⟩:=s;obtain⟨hl,hb,he,hc,h⟩:=h;wp_walk using U? hl,U? hb
  have hlt:i<items.size:=by omega
  have MW:i<items2.size:=by omega
  have g1:items[i]?=j? items[i]:=Zq hlt;have g2:items2[i]?=j? items2[i]:=Zq MW;have i1:items[((i:Nat):Int).toNat]?=j? items[i]:=g1;have i2:items2[((i:Nat):Int).toNat]?=j? items2[i]:=g2;rw[i1,i2];refine B? (he i _ _ g1 g2 prog w _ _ ?_)
  cases hb':e i with
  | true=>
   have h:R (.ok (.ret (.bool (if e i=true then O0 e r k (i+1) else r i)))) ⟨hp,g,d,tk,os⟩:=h
   rw[Wx hb'] at h;have aaa:((i:Int)+1)=((i+1:Nat):Int):=by push_cast;rfl
   wp_walk
   rw[aaa];exact⟨plainId_quiet plain_eq_loop _,codeAny_builtin entry_eq_loop (by
    rw[Around.under_plainId plain_eq_loop _];exact ih (i+1) (by omega) prog w A R _ ⟨hl,hb,he,hc,h⟩)⟩
  | false=>
   have h:R (.ok (.ret (.bool (if e i=true then O0 e r k (i+1) else r i)))) ⟨hp,g,d,tk,os⟩:=h
   rw[Ww (by rw[hb'];exact E?)] at h
   have hc':=hc i _ _ g1 g2 hb' prog w;wp_walk using U? hl,U? hb
   rw[i1,i2];wp_walk using hc'
   exact h
theorem QF (l b)(items items2)(n n2)(dd dd2)(sl sl2:Array (Option l?))(hsz:items.size=items2.size)(e r:Nat->Bool):
  Meets (Builtin.«list.__lt__» ⟨[.ref l,.ref b],[]⟩)
   (λA R s=>s.heap.get? l=j? { cls:=.type "list",dict:=dd,data:=.seq items n,slots:=sl }/\s.heap.get? b=j? { cls:=.type "list",dict:=dd2,data:=.seq items2 n2,slots:=sl2 }/\
    (∀(j:Nat) x y,items[j]?=j? x->items2[j]?=j? y->EqAt A.in1 s x y (e j))/\(∀(j:Nat) x y,items[j]?=j? x->items2[j]?=j? y->e j=false->QD A.in1 s x y (r j))/\
    R (.ok (.ret (.bool (O0 e r items.size 0)))) s):=by
 intro prog w A R s h;obtain⟨hp,g,d,tk,os⟩:=s;obtain⟨hl,hb,he,hc,h⟩:=h;have f3:=AutoSeq1.sub_list_list;wp_walk using U? hl,U? hb
 exact⟨plainId_quiet plain_eq_loop _,codeAny_builtin entry_eq_loop (by
  rw[Around.under_plainId plain_eq_loop _];exact QE l b items items2 n n2 dd dd2 sl sl2 hsz e r items.size 0 (Nat.sub_zero _) prog w A R _ ⟨hl,hb,he,hc,h⟩)⟩
theorem NH (l b)(items items2)(n n2)(dd dd2)(sl sl2:Array (Option l?))(hsz:items.size=items2.size)(e r:Nat->Bool):
  Meets (Builtin.«tuple.__lt__» ⟨[.ref l,.ref b],[]⟩)
   (λA R s=>s.heap.get? l=j? { cls:=.type "tuple",dict:=dd,data:=.seq items n,slots:=sl }/\s.heap.get? b=j? { cls:=.type "tuple",dict:=dd2,data:=.seq items2 n2,slots:=sl2 }/\
    (∀(j:Nat) x y,items[j]?=j? x->items2[j]?=j? y->EqAt A.in1 s x y (e j))/\(∀(j:Nat) x y,items[j]?=j? x->items2[j]?=j? y->(∀i,i<j->e i=true)->e j=false->QD A.in1 s x y (r j))/\
    R (.ok (.ret (.bool (O0 e r items.size 0)))) s):=
 .of_wp λprog w A R s h=>by
  obtain⟨hp,g,d,tk,os⟩:=s;obtain⟨hl,hb,he,hc,h⟩:=h;have f2:=AutoSeq1.sub_tuple_tuple;wp_walk using U? hl,U? hb,wpAny_forIn_list _ (λrest b s'=>b.1=q?/\s'=⟨hp,g,d,tk,os⟩/\∃i:Nat,rest=(items.toList.zip items2.toList).drop i/\i<=items.size/\(∀j,j<i->e j=true)/\R (.ok (.ret (.bool (O0 e r (items.size-i) i)))) ⟨hp,g,d,tk,os⟩) _
  case turn=>
   rintro⟨y,x⟩ rest b s' ⟨hb',rfl,i,hz,hi,hall,hR⟩
   have RE:(items.toList.zip items2.toList).length=items.size:=by rw[List.length_zip,Y8,Y8,<- hsz,Nat.min_self]
   have hlt:i<items.size:=by
    refine Nat.lt_of_not_le λz=>?_
    rw[List.drop_eq_nil_of_le (by rw[RE];exact z)] at hz
    cases hz
   rw[Zr (by rw[RE];exact hlt)] at hz
   injection hz with hyx hrest
   rw[List.getElem_zip] at hyx;injection hyx with hy hx
   subst hy hx hrest;have g1:items[i]?=j? items.toList[i]:=by rw[Zq hlt,Array.getElem_toList]
   have g2:items2[i]?=j? items2.toList[i]:=by rw[Zq (by omega),Array.getElem_toList]
   rw[show items.size-i=(items.size-(i+1))+1 by omega] at hR
   have hR:R (.ok (.ret (.bool (if e i=true then O0 e r (items.size-(i+1)) (i+1) else r i)))) ⟨hp,g,d,tk,os⟩:=hR
   refine B? (he i _ _ g1 g2 prog w _ _ ?_)
   cases hb2:e i with
   | true=>
    rw[Wx hb2] at hR;wp_walk
    exact⟨rfl,rfl,i+1,rfl,hlt,λj hj=>by
     by_cases z:j<i
     ·exact hall j z
     ·rw[show j=i by omega];exact hb2,hR⟩
   | false=>
    rw[Ww (by rw[hb2];exact E?)] at hR
    have hri:=hc i _ _ g1 g2 hall hb2 prog w;wp_walk using hri
    exact⟨_,rfl,by simpa using hR⟩
  case fin=>
   rintro⟨b1,b2⟩ s' ⟨hb',rfl,i,hz,hi,hall,hR⟩
   simp only at hb'
   subst hb';have RE:(items.toList.zip items2.toList).length=items.size:=by rw[List.length_zip,Y8,Y8,<- hsz,Nat.min_self]
   have:i=items.size:=by
    have:=W1 List.length hz
    rw[Zu,RE] at this;simp at this
    omega
   subst this;rw[Nat.sub_self] at hR;have hR:R (.ok (.ret (.bool false))) ⟨hp,g,d,tk,os⟩:=hR;wp_walk
   exact⟨_,rfl,by simpa [Builtin.Tuple.tupleCompareSizes,hsz] using hR⟩
  case h=>
   exact⟨rfl,rfl,0,rfl,Y2 _,λj hj=>W3 hj (We _),h⟩
end
end L2
namespace L2
open PySem Alg
open Classical
inductive Hg:El->El->Prop where
 | num (a b:Int):Hg (.num a) (.num b)
 | vec {l k:List El} (hl:l.length=k.length) (h:∀(i:Nat) x y,l[i]?=j? x->k[i]?=j? y->Hg x y):Hg (.vec l) (.vec k)
mutual
noncomputable def v8:El->El->Bool
 | .num a,.num b=>decide (a<b)
 | .vec l,.vec k=>rQ l k
 | _,_=>false
noncomputable def rQ:List El->List El->Bool
 | x::l,y::k=>if x=y then rQ l k else v8 x y
 | _,_=>false
end
theorem sS (x y)(l k):rQ (x::l) (y::k)=(if x=y then rQ l k else v8 x y):=by rw[rQ]
theorem zO (l k):v8 (.vec l) (.vec k)=rQ l k:=by rw[v8]
theorem zQ (a b):v8 (.num a) (.num b)=decide (a<b):=by rw[v8]
theorem NI (a)(k):v8 (.num a) (.vec k)=false:=by simp[v8]
theorem NJ (a)(k):v8 (.vec k) (.num a)=false:=by simp[v8]
theorem Gu (k):rQ [] k=false:=by simp[rQ]
theorem Km (x)(l):rQ (x::l) []=false:=by simp[rQ]
theorem wQ:∀l:List El,rQ l l=false
 | []=>Gu []
 | x::l=>by rw[sS,Wx rfl,wQ l]
theorem Aw:∀e:El,v8 e e=false
 | .num a=>by rw[zQ,W0 (Int.lt_irrefl _)]
 | .vec l=>by rw[zO,wQ]
theorem Hg.at0(h:Hg (.vec (x::l)) (.vec (y::k))):Hg x y/\Hg (.vec l) (.vec k):=by
 cases h with
 | vec hl h=>exact⟨h 0 x y rfl rfl,.vec (by simpa using hl) λi a b h1 h2=>h (i+1) a b h1 h2⟩
mutual
theorem Kn:∀(a b:El),Hg a b->a≠b->v8 a b=false->v8 b a=true
 | .num a,.num b,_,ne,h=>by
  rw[zQ] at h ⊢;have:=of_decide_eq_false h
  have:a≠b:=λz=>ne (by rw[z])
  exact Wy (by omega)
 | .vec l,.vec k,sm,ne,h=>by
  rw[zO] at h ⊢;exact Gv l k sm (λz=>ne (by rw[z])) h
 | .num a,.vec k,sm,_,_=>by cases sm
 | .vec l,.num b,sm,_,_=>by cases sm
theorem Gv:∀(l k:List El),Hg (.vec l) (.vec k)->l≠k->rQ l k=false->rQ k l=true
 | [],[],_,ne,_=>W3 rfl ne
 | [],y::k,sm,_,_=>by cases sm with|vec hl _=>simp at hl
 | x::l,[],sm,_,_=>by cases sm with|vec hl _=>simp at hl
 | x::l,y::k,sm,ne,h=>by
  obtain⟨s1,s2⟩:=sm.at0;rw[sS] at h ⊢;by_cases c:x=y
  ·rw[Wx c] at h
   rw[Wx c.symm];exact Gv l k s2 (λz=>ne (by rw[c,z])) h
  ·rw[Ww c] at h
   rw[Ww (λz=>c z.symm)]
   exact Kn x y s1 c h
end
mutual
theorem Du:∀(a b c:El),v8 a b=true->v8 b c=true->v8 a c=true
 | .num a,.num b,.num c,h,k=>by
  rw[zQ] at h k ⊢;exact Wy (Int.lt_trans (Wz h) (Wz k))
 | .vec l,.vec k,.vec m,h,g=>by
  rw[zO] at h g ⊢;exact Ax l k m h g
 | .num a,.vec k,_,h,_=>by rw[NI] at h;cases h
 | .vec k,.num a,_,h,_=>by rw[NJ] at h;cases h
 | .num a,.num b,.vec c,_,h=>by rw[NI] at h;cases h
 | .vec a,.vec b,.num c,_,h=>by rw[NJ] at h;cases h
theorem Ax:∀(l k m:List El),rQ l k=true->rQ k m=true->rQ l m=true
 | x::l,y::k,z::m,h,g=>by
  rw[sS] at h g ⊢;by_cases c1:x=y
  ·rw[Wx c1] at h
   by_cases c2:y=z
   ·rw[Wx c2] at g
    rw[Wx (c1.trans c2)];exact Ax l k m h g
   ·rw[Ww c2] at g
    rw[Ww (by rw[c1];exact c2),c1]
    exact g
  ·rw[Ww c1] at h
   by_cases c2:y=z
   ·rw[Wx c2] at g
    rw[Ww (by rw[<- c2];exact c1),<- c2]
    exact h
   ·rw[Ww c2] at g
    have t:=Du x y z h g;rw[Ww (λw=>by rw[w,Aw] at t;cases t)]
    exact t
 | [],k,_,h,_=>by rw[Gu] at h;cases h
 | x::l,[],_,h,_=>by rw[Km] at h;cases h
 | x::l,y::k,[],_,h=>by rw[Km] at h;cases h
end
theorem Ko(h:∀i,i<n->Hg (e i) (d i)):Hg (.vec ((Yi n).map e)) (.vec ((Yi n).map d)):=by
 refine .vec (by rw[Yc,Yc]) λi x y h1 h2=>?_
 rw[Yh] at h1 h2;by_cases hi:i<n
 ·rw[Yy hi] at h1 h2
  cases h1;cases h2;exact h i hi
 ·rw[Zd (by rw[Yv];omega)] at h1
  cases h1
end L2
namespace L2
open PySem PySem.Spec PySem.W PyProof.Rows Alg
section
open Classical
theorem Gw (l k:List El):∀(n i:Nat),l.length=i+n->k.length=i+n->O0 (λj=>decide (l.getD j (.num 0)=k.getD j (.num 0))) (λj=>v8 (l.getD j (.num 0)) (k.getD j (.num 0))) n i=rQ (l.drop i) (k.drop i)
 | 0,i,h1,h2=>by
  rw[List.drop_eq_nil_of_le (by omega),List.drop_eq_nil_of_le (by omega),wQ];rfl
 | n+1,i,h1,h2=>by
  have g1:l.getD i (.num 0)=l[i]:=by rw[Yb,Ya (by omega)];rfl
  have g2:k.getD i (.num 0)=k[i]:=by rw[Yb,Ya (by omega)];rfl
  rw[Zr (by omega:i<l.length),Zr (by omega:i<k.length),sS]
  show(if decide _=true then _ else _)=_
  rw[g1,g2,Gw l k n (i+1) (by omega) (by omega)]
  by_cases c:l[i]=k[i]
  ·rw[Wx c,Wx (Wy c)]
  ·rw[Ww c,Ww (λz=>c (Wz z))]
   show v8 (l.getD i (.num 0)) (k.getD i (.num 0))=_
   rw[g1,g2]
end
theorem Wd.sm(h:Wd T ws):∀x y:T.α,Hg (T.enc x) (T.enc y):=by
 induction h with
 | gr hp=>exact λx y=>.num _ _
 | up al hn w ih=>exact λx y=>Ko λi _=>ih _ _
theorem Wd.smP(h:Wd T ws)(n)(s t):Hg (aT T n s) (aT T n t):=Ko λi _=>h.sm _ _
theorem readsAll_get {h:Q?}:∀ {vs:List l?} {ds:List R!} {as:List o?},ReadsAll h vs ds as->vs.length=ds.length/\∀(i:Nat) v d,vs[i]?=j? v->ds[i]?=j? d->∃as',Reads h v d as'
 | _,_,_,.nil=>⟨rfl,λi v d h=>by simp at h⟩
 | _,_,_,.cons r rr=>by
  obtain⟨hl,hg⟩:=readsAll_get rr;refine⟨by simp[hl],λi v d h1 h2=>?_⟩
  cases i with
  | zero=>cases h1;cases h2;exact⟨_,r⟩
  | succ i=>exact hg i v d h1 h2
open Classical in
theorem zR{n m:Nat}{A:C!}{s:u?}{u v:l?}{as bs:List o?}(f:uh n a)(g:uh m b)(hn:n<=64)(hm:m<=64)(ra:Reads s.heap u (toD a) as)(rb:Reads s.heap v (toD b) bs)(hu:A.units+64<cLine):SeqAt.EqAt A s u v (decide (a=b)):=by
 have sa:=(jx f).shaped hn;have sb:=(jx g).shaped hm;have h:=SeqAt.eqAt_reads (toD a) (toD b) A s u v as bs ra rb (SeqAt.canLay_of_shaped sa) (SeqAt.canLay_of_shaped sb) (SeqAt.room_of_shaped sa hu);rw[zD (jx f) (jx g)] at h;by_cases c:a=b
 ·rw[Wy (W1 toD c)] at h;rw[Wy c];exact h
 ·rw[W0 λz=>c (vd z)] at h;rw[W0 c];exact h
theorem Kp(sm:Hg a b):∀ {n:Nat} {A:C!} {s:u?} {u v:l?} {as bs:List o?},uh n a->uh n b->n<=20->Reads s.heap u (toD a) as->Reads s.heap v (toD b) bs->A.units+n+65<cLine->QD A s u v (v8 a b):=by
 induction sm with
 | num a b=>
  intro n A s u v as bs f g hn ra rb hu;rw[zQ];cases ra;cases rb;exact HT.FT A s _ _ _ _
 | @vec l k hl h ih=>
  intro n A s u v as bs f g hn ra rb hu prog w E Q q;have ra:Reads s.heap u (.list (o9 l)) as:=ra;have rb:Reads s.heap v (.list (o9 k)) bs:=rb;rw[mF] at ra rb;obtain⟨n,rfl⟩:∃n',n=n'+1:=by cases f;exact⟨_,rfl⟩
  cases f with|vec fl fa=>cases g with|vec gl ga=>
  cases ra with
  | @list x o vs m ds as h1 h2 h3 h4=>
  cases rb with
  | @list y o2 vs2 m2 ds2 as2 k1 k2 k3 k4=>
   obtain⟨z1,e1⟩:=readsAll_get h4;obtain⟨z2,e2⟩:=readsAll_get k4;rw[Y8,Yc] at z1 z2;obtain⟨cls,dd,data,sl⟩:=o;obtain⟨aab,dd2,data2,sl2⟩:=o2;cases h2;cases h3;cases k2;cases k3;have get:∀(l:List El) (j:Nat),j<l.length->l[j]?=j? (l.getD j (.num 0)):=λl j hj=>by rw[Yb,Ya hj];rfl
   have at_:∀(j:Nat) (p q:l?),vs[j]?=j? p->vs2[j]?=j? q->∃as' bs',j<l.length/\Reads s.heap p (toD (l.getD j (.num 0))) as'/\Reads s.heap q (toD (k.getD j (.num 0))) bs'/\uh n (l.getD j (.num 0))/\uh n (k.getD j (.num 0)):=λj p q hp hq=>by
    have hj:j<l.length:=by rw[<- z1];exact(Array.getElem?_eq_some_iff.mp hp).1
    have g1:=get l j hj;have g2:=get k j (by omega)
    obtain⟨as',r1⟩:=e1 j p _ (by rw[Array.getElem?_toList];exact hp) (by rw[Yh,g1];rfl)
    obtain⟨bs',r2⟩:=e2 j q _ (by rw[Array.getElem?_toList];exact hq) (by rw[Yh,g2];rfl)
    exact⟨as',bs',hj,r1,r2,fa _ (Yo g1),ga _ (Yo g2)⟩
   refine richCompare_meets_room (op:=.Lt) ⟨_,h1,rfl⟩ ⟨_,k1,rfl⟩ PySem.F.slot_list_lt PySem.F.entry_list_lt (PySem.F.args_list_lt_2 _ _) (QF x y vs vs2 m m2 dd dd2 sl sl2 (by omega) (λj=>open Classical in decide (l.getD j (.num 0)=k.getD j (.num 0))) (λj=>v8 (l.getD j (.num 0)) (k.getD j (.num 0)))) ⟨h1,k1,λj p q hp hq=>?_,λj p q hp hq _=>?_,?_⟩ (by omega)
   ·obtain⟨as',bs',hj,r1,r2,f1,f2⟩:=at_ j p q hp hq
    exact zR f1 f2 (by omega) (by omega) r1 r2 (by simp only[Around.in1_units];omega)
   ·obtain⟨as',bs',hj,r1,r2,f1,f2⟩:=at_ j p q hp hq
    exact ih j _ _ (get l j hj) (get k j (by omega)) f1 f2 (by omega) r1 r2 (by simp only[Around.in1_units];omega)
   ·rw[z1,Gw l k l.length 0 (by omega) (by omega),List.drop_zero,List.drop_zero,<- zO]
    exact⟨(λx=>nomatch x),q⟩
section
variable {X:Cx}
inductive VL (K:bK)(x:V)(y:V)(H:Hp)(Q:VK):Prop where
 | mk (a b:o?) (i j:Int) (u v:V) (e d:El) (n:Nat) (c5:x=.ref a) (c6:y=.ref b) (dS:iR K H a [.int i,u]) (fT:iR K H b [.int j,v]) (jv:Rep H Any u e) (pZ:Rep H Any v d) (wA:uh n e) (Fe:uh n d) (M3:n<=20) (SX:(i=j->Hg e d)) (Vw:Q (.bl (if i=j then v8 e d else decide (i<j))) H)
open Classical in
theorem Th (hu:X.A.units+100<cLine):q8 X (N! .Lt) (VL X.K):=by
 intro pins s σ H x y v u Q I rx ry h;obtain⟨a,b,i,j,p,q,e,d,n,rfl,rfl,ha,hb,rp,rq,fe,fd,hn,sm,q0⟩:=h;cases (show v=K! a from rx)
 cases (show u=K! b from ry)
 obtain⟨its,r1,⟨⟨cls,dd,data,sl⟩,h1,h2,n1,h3⟩,_⟩:=I.tuple ha;obtain⟨its2,r2,⟨⟨aab,dd2,data2,sl2⟩,k1,k2,n2,k3⟩,_⟩:=I.tuple hb;obtain⟨u1,u2,e1,x1,x2⟩:=vals2 r1;obtain⟨v1,v2,e2,y1,y2⟩:=vals2 r2;subst e1 e2;obtain⟨t1,z1⟩:=(show ∃t,u1=Value.int _ t from x1)
 obtain⟨t2,z2⟩:=(show ∃t,v1=Value.int _ t from y1)
 subst z1 z2;simp only at h2 h3 k2 k3
 subst h2 h3 k2 k3;obtain⟨as,ra⟩:=(rp.den (K:=X.K)).reads I x2;obtain⟨bs,rb⟩:=(rq.den (K:=X.K)).reads I y2;refine richCompare_meets_room (op:=.Lt) ⟨_,h1,rfl⟩ ⟨_,k1,rfl⟩ PySem.F.slot_tuple_lt PySem.F.entry_tuple_lt (PySem.F.args_tuple_lt_2 _ _) (NH a b #[.int i t1,u2] #[.int j t2,v2] n1 n2 dd dd2 sl sl2 rfl (λk=>if k=0 then i == j else decide (e=d)) (λk=>if k=0 then decide (i<j) else v8 e d)) ⟨h1,k1,λk x y hx hy=>?_,λk x y hx hy hall hf=>?_,?_⟩ (by omega)
 ·match k,hx,hy with
  | 0,hx,hy=>cases hx;cases hy;exact SeqAt.EqAt.int_int _ _ _ _
  | 1,hx,hy=>
   cases hx;cases hy;exact zR fe fd (by omega) (by omega) ra rb (by simp only[Around.in1_units];omega)
  | k+2,hx,_=>simp at hx
 ·match k,hx,hy,hf with
  | 0,hx,hy,hf=>cases hx;cases hy;exact HT.FT _ _ _ _ _ _
  | 1,hx,hy,hf=>
   cases hx;cases hy;have hij:i=j:=eq_of_beq (hall 0 (by decide))
   exact Kp (sm hij) fe fd hn ra rb (by simp only[Around.in1_units];omega)
  | k+2,hx,_,_=>simp at hx
 ·have el:O0 (λk=>if k=0 then i == j else decide (e=d)) (λk=>if k=0 then decide (i<j) else v8 e d) (#[Value.int i t1,u2]:Array l?).size 0=if i=j then v8 e d else decide (i<j):=by
   show(if (i == j)=true then (if decide (e=d)=true then false else v8 e d) else decide (i<j))=_
   by_cases c:i=j
   ·rw[Wx c,Wx (beq_iff_eq.mpr c)]
    by_cases c2:e=d
    ·rw[Wx (Wy c2),c2,Aw]
    ·rw[Ww (λz=>c2 (Wz z))]
   ·rw[Ww c,Ww (λz=>c (beq_iff_eq.mp z))]
  rw[el];exact⟨(λx=>nomatch x),ck I q0 rfl⟩
theorem QG {K:bK}(h:X.K=K)(hu:X.A.units+100<cLine):q8 X (N! .Lt) (VL K):=by subst h;exact Th hu
theorem eH.Gx(r:eH k A):A.units+100<cLine:=by have:=r.un;omega
inductive Kq (K:bK)(x:V)(y:V)(H:Hp)(Q:VK):Prop where
 | mk (p:o?) (xs:List V) (e:El) (es:List El) (n:Nat) (c5:y=.ref p) (c6:aU K H p xs) (dS:xs.length=es.length) (fT:(∀(i:Nat) v d,xs[i]?=j? v->es[i]?=j? d->Rep H Any v d)) (jv:Rep H Any x e) (pZ:uh n e) (wA:(∀d∈es,uh n d)) (Fe:n<=60) (M3:(e∈es->Q (.bl false) H)) (SX:(e ∉ es->Q (.bl true) H))
open Classical in
theorem Lm (hu:X.A.units+100<cLine):q8 X (N! .NotIn) (Kq X.K):=by
 intro pins s σ H x y v u Q I rx ry h;obtain⟨p,xs,e,es,n,rfl,hq,hl,hx,re,fe,fs,hn,q1,q2⟩:=h;cases (show u=K! p from ry)
 obtain⟨its,r,pl,hz⟩:=I.list hq;obtain⟨as,ra⟩:=(re.den (K:=X.K)).reads I rx;have at_:∀(i:Nat) w,its[i]?=j? w->∃d as,es[i]?=j? d/\Reads s.heap w (toD d) as:=λi w hw=>by
  have hi:i<xs.length:=by rw[r.length];exact(List.getElem?_eq_some_iff.mp hw).1
  obtain⟨w',h1,h2⟩:=r.get (Ya hi);rw[hw] at h1;cases h1;obtain⟨as,ra⟩:=((hx i _ _ (Ya hi) (Ya (by omega))).den (K:=X.K)).reads I h2
  exact⟨_,as,Ya (by omega),ra⟩
 have eqd:∀(w:l?) (d:El) as,uh n d->Reads s.heap w (toD d) as->decide (d=e)=decide (∃as,Reads s.heap w (toD e) as):=λw d as' fd rd=>by
  by_cases c:d=e
  ·rw[Wy c,Wy ⟨as',by rw[<- c];exact rd⟩]
  ·rw[W0 c,W0 λ⟨bs,z⟩=>c (vd (SeqAt.Reads.unique _ _ _ _ _ (SeqAt.canLay_of_shaped ((jx fd).shaped (by omega))) rd z))]
 refine SeqAt.notIn_listAt (λw=>decide (∃as,Reads s.heap w (toD e) as)) pl.isList (λw hw=>?_) ⟨.bl _,H,I,rfl,?_⟩
 ·obtain⟨i,hi,ei⟩:=Z1 (show w∈its by simpa using hw)
  obtain⟨d,bs,h1,h2⟩:=at_ i w (by rw[Ya hi,ei])
  have fd:=fs d (Yo h1);rw[<- eqd w d bs fd h2];exact zR fd fe (by omega) (by omega) h2 ra (by simp only[Around.in1_units];omega)
 ·by_cases c:e∈es
  ·have:(its.toArray.any λw=>decide (∃as,Reads s.heap w (toD e) as))=true:=by
    obtain⟨i,hi,ei⟩:=Z1 c;have hi':i<its.length:=by rw[<- r.length];omega
    obtain⟨d,bs,h1,h2⟩:=at_ i _ (Ya hi');rw[Ya hi,ei] at h1;cases h1;rw[show(its.toArray.any λw=>decide (∃as,Reads s.heap w (toD e) as))=its.any λw=>decide (∃as,Reads s.heap w (toD e) as) by simp]
    exact List.any_eq_true.mpr ⟨_,Za hi',Wy ⟨bs,h2⟩⟩
   rw[this];exact q1 c
  ·have:(its.toArray.any λw=>decide (∃as,Reads s.heap w (toD e) as))=false:=by
    rw[show(its.toArray.any λw=>decide (∃as,Reads s.heap w (toD e) as))=its.any λw=>decide (∃as,Reads s.heap w (toD e) as) by simp]
    refine Bool.eq_false_iff.mpr λz=>?_
    obtain⟨w,hw,hd⟩:=List.any_eq_true.mp z;obtain⟨i,hi,ei⟩:=Z1 hw;obtain⟨d,bs,h1,h2⟩:=at_ i w (by rw[Ya hi,ei])
    have hm:=Yo h1;rw[<- eqd w d bs (fs d hm) h2] at hd;exact c (by rw[<- Wz hd];exact hm)
   rw[this];exact q2 c
theorem IK {K:bK}(h:X.K=K)(hu:X.A.units+100<cLine):q8 X (N! .NotIn) (Kq K):=by subst h;exact Lm hu
end
end L2
namespace L2
open PySem PySem.Spec PySem.W PyProof.Rows
def kK (lt:Nat->Nat->Bool){α:Type}:KasT α->α
 | .ret a=>a
 | .ask i j k=>kK lt (k (lt i j))
theorem pG {lt:Nat->Nat->Bool}{α β:Type}(f:α->KasT β):∀t:KasT α,kK lt (t.bind f)=kK lt (f (kK lt t))
 | .ret _=>rfl
 | .ask i j k=>by
  show kK lt ((k (lt i j)).bind f)=_
  rw[pG f (k (lt i j))];rfl
structure uC (lt:Nat->Nat->Bool)(N:Nat):Prop where
 tr:∀a b c,a<N->b<N->c<N->lt a b=true->lt b c=true->lt a c=true
 tot:∀a b,a<N->b<N->a≠b->lt a b=false->lt b a=true
abbrev gd (p:Array Nat)(i:Nat):Nat:=p.getD i 0
structure Pm (p:Array Nat)(N:Nat):Prop where
 size:p.size=N
 lt:∀i,i<N->gd p i<N
 inj:∀i j,i<N->j<N->gd p i=gd p j->i=j
theorem Gy(h:p[i]?=q[j]?):gd p i=gd q j:=by
 unfold gd;simp only[Zz,h]
theorem Ay (N):Pm (List.toArray (Yi N)) N:=by
 have e:∀i,i<N->gd (List.toArray (Yi N)) i=i:=by
  intro i hi;unfold gd;simp[Zz,hi]
 refine⟨by simp,λi hi=>by rw[e i hi];exact hi,λi j hi hj h=>by rw[e i hi,e j hj] at h;exact h⟩
theorem Az(h:n<=p.size)(k):gd (kas_rev p 0 n) k=if k<n then gd p (n-1-k) else gd p k:=by
 have e:=getElem?_mirror_all (xs:=p) (i:=0) h k;unfold kas_rev;by_cases hk:k<n
 ·rw[Wx ⟨Y2 _,hk⟩] at e
  rw[Wx hk];rw[Zm] at e;exact Gy e
 ·rw[Ww (λz=>hk z.2)] at e
  rw[Ww hk];exact Gy e
theorem Pm.rev(P:Pm p N)(hn:n<=N):Pm (kas_rev p 0 n) N:=by
 have hs:n<=p.size:=by rw[P.size];exact hn
 refine⟨by unfold kas_rev;rw[mirror_size];exact P.size,λi hi=>?_,λi j hi hj h=>?_⟩
 ·rw[Az hs]
  split
  ·exact P.lt _ (by omega)
  ·exact P.lt _ hi
 ·rw[Az hs,Az hs] at h
  by_cases h1:i<n
  ·by_cases h2:j<n
   ·rw[Wx h1,Wx h2] at h
    have:=P.inj _ _ (by omega) (by omega) h
    omega
   ·rw[Wx h1,Ww h2] at h
    have:=P.inj _ _ (by omega) hj h
    omega
  ·by_cases h2:j<n
   ·rw[Ww h1,Wx h2] at h
    have:=P.inj _ _ hi (by omega) h
    omega
   ·rw[Ww h1,Ww h2] at h
    exact P.inj _ _ hi hj h
theorem AA(hk:k<p.size)(hl:l<=k)(j):gd (bubble p k (k-l)) j=if j=l then gd p k else if l<j/\j<=k then gd p (j-1) else gd p j:=by
 have e:=getElem?_bubble hk (k-l) (by omega) j
 have e1:k-(k-l)=l:=by omega
 rw[e1] at e;by_cases h1:j=l
 ·rw[Wx h1] at e ⊢;exact Gy e
 ·rw[Ww h1] at e ⊢
  by_cases h2:l<j/\j<=k
  ·rw[Wx h2] at e ⊢;exact Gy e
  ·rw[Ww h2] at e ⊢;exact Gy e
theorem Pm.bub(P:Pm p N)(hk:k<N)(hl:l<=k):Pm (bubble p k (k-l)) N:=by
 have hs:k<p.size:=by rw[P.size];exact hk
 have src:∀i,i<N->∃i',i'<N/\gd (bubble p k (k-l)) i=gd p i'/\(i'=if i=l then k else if l<i/\i<=k then i-1 else i):=by
  intro i hi;rw[AA hs hl];by_cases h1:i=l
  ·exact⟨k,hk,by rw[Wx h1],by rw[Wx h1]⟩
  ·by_cases h2:l<i/\i<=k
   ·exact⟨i-1,by omega,by rw[Ww h1,Wx h2],by rw[Ww h1,Wx h2]⟩
   ·exact⟨i,hi,by rw[Ww h1,Ww h2],by rw[Ww h1,Ww h2]⟩
 refine⟨by rw[bubble_size];exact P.size,λi hi=>?_,λi j hi hj h=>?_⟩
 ·obtain⟨i',h1,h2,_⟩:=src i hi
  rw[h2];exact P.lt _ h1
 ·obtain⟨i',a1,a2,a3⟩:=src i hi
  obtain⟨j',b1,b2,b3⟩:=src j hj;rw[a2,b2] at h;have e:=P.inj _ _ a1 b1 h;rw[a3,b3] at e;repeat' split at e
  all_goals omega
def Hh (lt:Nat->Nat->Bool)(p:Array Nat)(m:Nat):Prop:=∀i j,i<j->j<m->lt (gd p i) (gd p j)=true
def Down (lt:Nat->Nat->Bool)(p:Array Nat)(m:Nat):Prop:=∀i j,i<j->j<m->lt (gd p j) (gd p i)=true
section
variable {lt:Nat->Nat->Bool} {N:Nat}
theorem Hh.more(O:uC lt N)(P:Pm p N)(U:Hh lt p n)(hn:n<N)(h1:1<=n)(c:lt (gd p (n-1)) (gd p n)=true):Hh lt p (n+1):=by
 intro i j hij hj;by_cases e:j=n
 ·subst e
  by_cases e2:i=j-1
  ·subst e2;exact c
  ·exact O.tr _ _ _ (P.lt i (by omega)) (P.lt (j-1) (by omega)) (P.lt j hn) (U i (j-1) (by omega) (by omega)) c
 ·exact U i j hij (by omega)
theorem Down.more(O:uC lt N)(P:Pm p N)(U:Down lt p n)(hn:n<N)(h1:1<=n)(c:lt (gd p n) (gd p (n-1))=true):Down lt p (n+1):=by
 intro i j hij hj;by_cases e:j=n
 ·subst e
  by_cases e2:i=j-1
  ·subst e2;exact c
  ·exact O.tr _ _ _ (P.lt j hn) (P.lt (j-1) (by omega)) (P.lt i (by omega)) c (U i (j-1) (by omega) (by omega))
 ·exact U i j hij (by omega)
theorem vD (O:uC lt N){p:Array Nat}(P:Pm p N):∀(f n:Nat),1<=n->n+f=N->Hh lt p n->
  n<=kK lt (kas_asc p f n)/\kK lt (kas_asc p f n)<=N/\Hh lt p (kK lt (kas_asc p f n))/\(kK lt (kas_asc p f n)<N->lt (gd p (kK lt (kas_asc p f n))) (gd p (kK lt (kas_asc p f n)-1))=true)
 | 0,n,h1,h2,U=>⟨Yd _,by show n<=N;omega,U,λz=>by have z':n<N:=z;omega⟩
 | f+1,n,h1,h2,U=>by
  have hn:n<N:=by omega
  cases c:lt (gd p n) (gd p (n-1)) with
  | true=>
   have e:kK lt (kas_asc p (f+1) n)=n:=by
    show kK lt (if lt (gd p n) (gd p (n-1))=true then _ else _)=n
    rw[c,Wx rfl];rfl
   rw[e];exact⟨Yd _,by omega,U,λ_=>c⟩
  | false=>
   have e:kK lt (kas_asc p (f+1) n)=kK lt (kas_asc p f (n+1)):=by
    show kK lt (if lt (gd p n) (gd p (n-1))=true then _ else _)=_
    rw[c,Ww E?]
   rw[e];have ne:gd p n≠gd p (n-1):=λz=>by have:=P.inj _ _ hn (by omega) z;omega
   have c2:=O.tot _ _ (P.lt n hn) (P.lt (n-1) (by omega)) ne c
   obtain⟨a1,a2,a3,a4⟩:=vD O P f (n+1) (by omega) (by omega) (U.more O P hn h1 c2)
   exact⟨by omega,a2,a3,a4⟩
theorem wR (O:uC lt N){p:Array Nat}(P:Pm p N):∀(f n:Nat),1<=n->n+f=N->Down lt p n->
  ∃m,kK lt (kas_desc f p n 0)=(p,m,0)/\n<=m/\m<=N/\Down lt p m
 | 0,n,h1,h2,U=>⟨n,rfl,Yd _,by omega,U⟩
 | f+1,n,h1,h2,U=>by
  have hn:n<N:=by omega
  cases c:lt (gd p n) (gd p (n-1)) with
  | true=>
   obtain⟨m,e,a1,a2,a3⟩:=wR O P f (n+1) (by omega) (by omega) (U.more O P hn h1 c)
   refine⟨m,?_,by omega,a2,a3⟩
   show kK lt (if lt (gd p n) (gd p (n-1))=true then (if 0 > 0 then _ else kas_desc f p (n+1) 0) else _)=_
   rw[c,Wx rfl,Ww (Zb 0)];exact e
  | false=>
   have ne:gd p n≠gd p (n-1):=λz=>by have:=P.inj _ _ hn (by omega) z;omega
   have c2:=O.tot _ _ (P.lt n hn) (P.lt (n-1) (by omega)) ne c
   refine⟨n,?_,Yd _,by omega,U⟩
   show kK lt (if lt (gd p n) (gd p (n-1))=true then (if 0 > 0 then _ else kas_desc f p (n+1) 0) else .ask (gd p (n-1)) (gd p n) λd=>if d=true then .ret (p,n,0) else _)=_
   rw[c,Ww E?];show kK lt (if lt (gd p (n-1)) (gd p n)=true then .ret (p,n,0) else _)=_
   rw[c2,Wx rfl];rfl
theorem Down.rev(P:Pm p N)(hn:n<=N)(D:Down lt p n):Hh lt (kas_rev p 0 n) n:=by
 intro i j hij hj;have hs:n<=p.size:=by rw[P.size];exact hn
 rw[Az hs,Az hs,Wx (by omega),Wx hj]
 exact D (n-1-j) (n-1-i) (by omega) (by omega)
theorem IL (O:uC lt N)(P:Pm p N)(h1:1<=n)(hn:n<=N)(D:Down lt p n):
  ∃m,kK lt (kas_tail3 n N p)=(m,kas_rev p 0 n)/\n<=m/\m<=N/\Hh lt (kas_rev p 0 n) m:=by
 unfold kas_tail3;rw[pG];obtain⟨a1,a2,a3,_⟩:=vD O (P.rev hn) (N-n) n h1 (by omega) (D.rev P hn)
 exact⟨_,rfl,a1,a2,a3⟩
theorem AB (O:uC lt N)(P:Pm p N)(h2:2<=N):∃m q,kK lt (kas_count N p)=(m,q)/\1<=m/\m<=N/\Pm q N/\Hh lt q m:=by
 unfold kas_count;rw[pG];obtain⟨a1,a2,a3,a4⟩:=vD O P (N-1) 1 (Yd _) (by omega) (λi j h1 h2=>by omega)
 generalize kK lt (kas_asc p (N-1) 1)=n at a1 a2 a3 a4 ⊢;by_cases e:n=N
 ·refine⟨n,p,?_,a1,a2,P,a3⟩
  rw[Wx (by simpa using e)]
  rfl
 ·have c0:=a4 (by omega)
  rw[Ww (by simpa using e)]
  by_cases e1:n > 1
  ·rw[Wx e1]
   refine⟨n,p,?_,a1,a2,P,a3⟩
   show kK lt (if lt (gd p 0) (gd p (n-1))=true then _ else _)=_
   rw[a3 0 (n-1) (by omega) (by omega),Wx rfl]
   rfl
  ·have e2:n=1:=by omega
   subst e2;rw[Ww e1];unfold kas_descPart;rw[pG];obtain⟨m,em,b1,b2,b3⟩:=wR O P (N-(1+1)) (1+1) (by omega) (by omega) (λi j hij hj=>by
    have hi:i=0:=by omega
    have hj':j=1:=by omega
    subst hi hj';exact c0)
   rw[em];show ∃m' q,kK lt (if 0 > 0 then _ else kas_tail3 m N p)=(m',q)/\_
   rw[Ww (Zb 0)];obtain⟨m',e',d1,d2,d3⟩:=IL O P (by omega) b2 b3
   exact⟨m',_,e',by omega,d2,P.rev b2,d3⟩
theorem place_spec (O:uC lt N){p:Array Nat}{k:Nat}(P:Pm p N)(hk:k<N)(U:Hh lt p k):∀(f l r:Nat),l<=r->r<=k->r-l<=f->(∀j,j<l->lt (gd p j) (gd p k)=true)->(∀j,r<=j->j<k->lt (gd p k) (gd p j)=true)->
  kK lt (kas_place p k f l r)<=k/\(∀j,j<kK lt (kas_place p k f l r)->lt (gd p j) (gd p k)=true)/\(∀j,kK lt (kas_place p k f l r)<=j->j<k->lt (gd p k) (gd p j)=true)
 | 0,l,r,h1,h2,h3,a,b=>⟨by show l<=k;omega,a,λj hj hjk=>b j (by have hj':l<=j:=hj;omega) hjk⟩
 | f+1,l,r,h1,h2,h3,a,b=>by
  by_cases hlr:l ≥ r
  ·have e:kK lt (kas_place p k (f+1) l r)=l:=by
    show kK lt (if l ≥ r then _ else _)=l
    rw[Wx hlr];rfl
   rw[e];exact⟨by omega,a,λj hj hjk=>b j (by omega) hjk⟩
  ·have hm:(l+r) / 2<r:=by omega
   have hm2:l<=(l+r) / 2:=by omega
   cases c:lt (gd p k) (gd p ((l+r) / 2)) with
   | true=>
    have e:kK lt (kas_place p k (f+1) l r)=kK lt (kas_place p k f l ((l+r) / 2)):=by
     show kK lt (if l ≥ r then _ else _)=_
     rw[Ww hlr];show kK lt (if lt (gd p k) (gd p ((l+r) / 2))=true then _ else _)=_
     rw[c,Wx rfl]
    rw[e];refine place_spec O P hk U f l ((l+r) / 2) hm2 (by omega) (by omega) a λj hj hjk=>?_
    by_cases e2:j=(l+r) / 2
    ·rw[e2];exact c
    ·exact O.tr _ _ _ (P.lt k hk) (P.lt ((l+r) / 2) (by omega)) (P.lt j (by omega)) c (U _ _ (by omega) hjk)
   | false=>
    have e:kK lt (kas_place p k (f+1) l r)=kK lt (kas_place p k f ((l+r) / 2+1) r):=by
     show kK lt (if l ≥ r then _ else _)=_
     rw[Ww hlr];show kK lt (if lt (gd p k) (gd p ((l+r) / 2))=true then _ else _)=_
     rw[c,Ww E?]
    rw[e];have ne:gd p k≠gd p ((l+r) / 2):=λz=>by have:=P.inj _ _ hk (by omega) z;omega
    have c2:=O.tot _ _ (P.lt k hk) (P.lt ((l+r) / 2) (by omega)) ne c
    refine place_spec O P hk U f ((l+r) / 2+1) r (by omega) h2 (by omega) (λj hj=>?_) b
    by_cases e2:j=(l+r) / 2
    ·rw[e2];exact c2
    ·exact O.tr _ _ _ (P.lt j (by omega)) (P.lt ((l+r) / 2) (by omega)) (P.lt k hk) (U _ _ (by omega) (by omega)) c2
theorem Gz (O:uC lt N):∀(f:Nat) (p:Array Nat) (k:Nat),k+f=N->Pm p N->Hh lt p k->Pm (kK lt (kas_bin f p k)) N/\Hh lt (kK lt (kas_bin f p k)) N
 | 0,p,k,h,P,U=>by
  have e:k=N:=by omega
  subst e;exact⟨P,U⟩
 | f+1,p,k,h,P,U=>by
  have hk:k<N:=by omega
  obtain⟨l1,l2,l3⟩:=place_spec O P hk U k 0 k (Y2 _) (Yd _) (by omega) (λj hj=>by omega) (λj h1 h2=>by omega)
  have e:kK lt (kas_bin (f+1) p k)=kK lt (kas_bin f (bubble p k (k-kK lt (kas_place p k k 0 k))) (k+1)):=by
   show kK lt ((kas_place p k k 0 k).bind _)=_
   rw[pG]
  rw[e];generalize kK lt (kas_place p k k 0 k)=l at l1 l2 l3;have hs:k<p.size:=by rw[P.size];exact hk
  refine Gz O f _ (k+1) (by omega) (P.bub hk l1) ?_
  intro i j hij hj;rw[AA hs l1,AA hs l1];by_cases h1:i=l
  ·rw[Wx h1,Ww (by omega),Wx (by omega)]
   exact l3 (j-1) (by omega) (by omega)
  ·rw[Ww h1]
   by_cases h2:j=l
   ·rw[Wx h2,Ww (by omega)]
    exact l2 i (by omega)
   ·rw[Ww h2]
    by_cases h3:l<i/\i<=k
    ·rw[Wx h3,Wx (by omega)]
     exact U _ _ (by omega) (by omega)
    ·rw[Ww h3]
     by_cases h4:l<j/\j<=k
     ·rw[Wx h4]
      exact U _ _ (by omega) (by omega)
     ·rw[Ww h4]
      exact U _ _ (by omega) (by omega)
theorem Ln (O:uC lt N)(h2:2<=N):Pm (kK lt (kas_sort N)) N/\Hh lt (kK lt (kas_sort N)) N:=by
 unfold kas_sort;rw[pG];obtain⟨m,q,e,h1,hm,P,U⟩:=AB O (Ay N) h2;rw[e];show Pm (kK lt (if m<N then kas_bin (N-max m 1) q (max m 1) else .ret q)) N/\Hh lt (kK lt (if m<N then kas_bin (N-max m 1) q (max m 1) else .ret q)) N
 by_cases hlt:m<N
 ·rw[Wx hlt]
  have e1:max m 1=m:=by omega
  rw[e1];exact Gz O (N-m) q m (by omega) P U
 ·rw[Ww hlt]
  have e1:m=N:=by omega
  subst e1;exact⟨P,U⟩
end
def Ca (lt:Nat->Nat->Bool)(N:Nat){α:Type}:KasT α->Prop
 | .ret _=>True
 | .ask i j k=>i<N/\j<N/\Ca lt N (k (lt i j))
theorem pH {lt:Nat->Nat->Bool}{N:Nat}{α β:Type}{f:α->KasT β}:∀ {t:KasT α},Ca lt N t->Ca lt N (f (kK lt t))->Ca lt N (t.bind f)
 | .ret _,_,h=>h
 | .ask i j k,h,h2=>⟨h.1,h.2.1,pH (t:=k (lt i j)) h.2.2 h2⟩
theorem Kr {lt:Nat->Nat->Bool}{N:Nat}{cmp:Nat->Nat->(Bool->u?->Prop)->u?->Prop}{s:u?}(h:∀i j C,i<N->j<N->C (lt i j) s->cmp i j C s){α:Type}{Q:α->u?->Prop}:∀t:KasT α,Ca lt N t->Q (kK lt t) s->t.kasWp cmp Q s
 | .ret _,_,q=>q
 | .ask i j k,hk,q=>h i j _ hk.1 hk.2.1 (Kr h (k (lt i j)) hk.2.2 q)
theorem Pm.bnd(P:Pm p N)(h:0<N)(i):gd p i<N:=by
 by_cases hi:i<N
 ·exact P.lt i hi
 ·have:gd p i=0:=by
   unfold gd;rw[Zz,Array.getElem?_eq_none (by rw[P.size];omega)]
   rfl
  rw[this];exact h
section
variable {lt:Nat->Nat->Bool} {N:Nat}
theorem Ey {p:Array Nat}(P:Pm p N)(h0:0<N):∀(f n:Nat),Ca lt N (kas_asc p f n)
 | 0,n=>trivial
 | f+1,n=>by
  refine⟨P.bnd h0 _,P.bnd h0 _,?_⟩
  show Ca lt N (if _=true then _ else _)
  split
  ·exact trivial
  ·exact Ey P h0 f (n+1)
theorem GA (O:uC lt N){p:Array Nat}(P:Pm p N):∀(f n:Nat),1<=n->n+f=N->Ca lt N (kas_desc f p n 0)
 | 0,n,_,_=>trivial
 | f+1,n,h1,h2=>by
  have hn:n<N:=by omega
  have h0:0<N:=by omega
  refine⟨P.bnd h0 _,P.bnd h0 _,?_⟩
  show Ca lt N (if lt (gd p n) (gd p (n-1))=true then (if 0 > 0 then _ else kas_desc f p (n+1) 0) else .ask (gd p (n-1)) (gd p n) λd=>if d=true then .ret (p,n,0) else _)
  cases c:lt (gd p n) (gd p (n-1)) with
  | true=>
   rw[Wx rfl,Ww (Zb 0)];exact GA O P f (n+1) (by omega) (by omega)
  | false=>
   have ne:gd p n≠gd p (n-1):=λz=>by have:=P.inj _ _ hn (by omega) z;omega
   have c2:=O.tot _ _ (P.lt n hn) (P.lt (n-1) (by omega)) ne c
   rw[Ww E?];refine⟨P.bnd h0 _,P.bnd h0 _,?_⟩
   show Ca lt N (if lt (gd p (n-1)) (gd p n)=true then .ret (p,n,0) else _)
   rw[c2,Wx rfl];exact trivial
theorem Lo(P:Pm p N)(h0:0<N)(hn:n<=N):Ca lt N (kas_tail3 n N p):=pH (Ey (P.rev hn) h0 _ _) trivial
theorem Lp (O:uC lt N)(P:Pm p N)(h2:2<=N):Ca lt N (kas_count N p):=by
 unfold kas_count;refine pH (Ey P (by omega) _ _) ?_
 obtain⟨a1,a2,a3,a4⟩:=vD O P (N-1) 1 (Yd _) (by omega) (λi j h1 h2=>by omega)
 generalize kK lt (kas_asc p (N-1) 1)=n at a1 a2 a3 a4 ⊢;by_cases e:n=N
 ·rw[Wx (by simpa using e)];exact trivial
 ·have c0:=a4 (by omega)
  rw[Ww (by simpa using e)]
  by_cases e1:n > 1
  ·rw[Wx e1]
   refine⟨P.bnd (by omega) _,P.bnd (by omega) _,?_⟩
   show Ca lt N (if lt (gd p 0) (gd p (n-1))=true then _ else _)
   rw[a3 0 (n-1) (by omega) (by omega),Wx rfl]
   exact trivial
  ·have e2:n=1:=by omega
   subst e2;rw[Ww e1];unfold kas_descPart;refine pH (GA O P (N-(1+1)) (1+1) (by omega) (by omega)) ?_
   obtain⟨m,em,b1,b2,b3⟩:=wR O P (N-(1+1)) (1+1) (by omega) (by omega) (λi j hij hj=>by
    have hi:i=0:=by omega
    have hj':j=1:=by omega
    subst hi hj';exact c0)
   rw[em];show Ca lt N (if 0 > 0 then _ else kas_tail3 m N p)
   rw[Ww (Zb 0)];exact Lo P (by omega) b2
theorem wU {p:Array Nat}{k:Nat}(P:Pm p N)(h0:0<N):∀(f l r:Nat),Ca lt N (kas_place p k f l r)
 | 0,l,r=>trivial
 | f+1,l,r=>by
  show Ca lt N (if l ≥ r then _ else _)
  split
  ·exact trivial
  ·refine⟨P.bnd h0 _,P.bnd h0 _,?_⟩
   show Ca lt N (if _=true then _ else _)
   split
   ·exact wU P h0 _ _ _
   ·exact wU P h0 _ _ _
theorem Ks (O:uC lt N):∀(f:Nat) (p:Array Nat) (k:Nat),k+f=N->Pm p N->Hh lt p k->Ca lt N (kas_bin f p k)
 | 0,p,k,h,P,U=>trivial
 | f+1,p,k,h,P,U=>by
  have hk:k<N:=by omega
  obtain⟨l1,l2,l3⟩:=place_spec O P hk U k 0 k (Y2 _) (Yd _) (by omega) (λj hj=>by omega) (λj h1 h2=>by omega)
  show Ca lt N ((kas_place p k k 0 k).bind _)
  refine pH (wU P (by omega) _ _ _) ?_
  generalize kK lt (kas_place p k k 0 k)=l at l1 l2 l3;have hs:k<p.size:=by rw[P.size];exact hk
  refine Ks O f _ (k+1) (by omega) (P.bub hk l1) ?_
  intro i j hij hj;rw[AA hs l1,AA hs l1];by_cases h1:i=l
  ·rw[Wx h1,Ww (by omega),Wx (by omega)]
   exact l3 (j-1) (by omega) (by omega)
  ·rw[Ww h1]
   by_cases h2:j=l
   ·rw[Wx h2,Ww (by omega)]
    exact l2 i (by omega)
   ·rw[Ww h2]
    by_cases h3:l<i/\i<=k
    ·rw[Wx h3,Wx (by omega)]
     exact U _ _ (by omega) (by omega)
    ·rw[Ww h3]
     by_cases h4:l<j/\j<=k
     ·rw[Wx h4]
      exact U _ _ (by omega) (by omega)
     ·rw[Ww h4]
      exact U _ _ (by omega) (by omega)
theorem NK (O:uC lt N)(h2:2<=N):Ca lt N (kas_sort N):=by
 unfold kas_sort;refine pH (Lp O (Ay N) h2) ?_
 obtain⟨m,q,e,h1,hm,P,U⟩:=AB O (Ay N) h2;rw[e];show Ca lt N (if m<N then kas_bin (N-max m 1) q (max m 1) else .ret q)
 split
 ·have e1:max m 1=m:=by omega
  rw[e1];exact Ks O (N-m) q m (by omega) P U
 ·exact trivial
end
section
variable {prog:F?} {w:H?} {A:C!} {E:l?->u?->Prop} {s:u?}
end
end L2
namespace L2
open PySem PySem.Spec PySem.W PyProof.Rows Alg
structure GB where
 qual:Str
 params:Arguments
 body:Expr
 scope:Scope
 x:Str
 t:TE
def GB.here (L:GB)(f c:o?)(H:Hp):Prop:=H f=j? (.ext (IJ f c L.qual L.params L.body L.scope []))/\H c=j? (.ext (Ll c L.qual))
structure GB.Ok (L:GB)(P:F?)(w:H?)(K:bK)(mg:Str->Option l?)(base:Q?)(k:Nat):Prop where
 kind:L.scope.kind=.function
 co:L.scope.isCoroutine=false
 gen:L.scope.isGenerator=false
 ud:∀y∈L.scope.names,y.2≠.cell/\y.2≠.free
 loc:L.scope.names.lookup L.x=j? .local
 bind:∀pm cdv ct u,bindArgs (kla_fn "<lambda>" L.qual L.params L.body L.scope [] pm cdv ct) ⟨[u],[]⟩=pure [(L.x,u)]
 pe:∀(f c:o?) (A:C!) (outer:List Env) (s:u?) (H:Hp),eH k (A.deeper (envX L.qual L.scope s.heap.objs.size f (.ref c) []))->PE (Av P w K mg base [L.x] L.qual L.scope f c [] A outer s H) L.body L.t
section
variable {P:F?} {w:H?} {K:bK} {mg:Str->Option l?} {base:Q?}
theorem NL {L:GB}{k:Nat}{f c:o?}(g:L.Ok P w K mg base k){A:C!}{outer:List Env}{s:u?}{H:Hp}{Q:VK}{v:V}{u:l?}(hr:eH (k+1) A)(e0:D6 P w K mg base A outer s H)(hh:L.here f c H)(rv:RelV v u)
  (q:L.t [j? v] H Q):codeAny (T? P w) A (.call (.ref f) ⟨[u],[]⟩) (CR z4 outer P w H s Q E0) s:=by
 obtain⟨h1,h2⟩:=hh;obtain⟨⟨pm,ctv,hf⟩,_⟩:=e0.hok _ _ h1;obtain⟨⟨oc,vs,t,hc1,hc2,hc3⟩,_⟩:=e0.hok _ _ h2;have lim:s.heap.NoLimit:=e0.mod.nolimit.keeps λb o e=>(e0.bs b o e).1
 refine kla_callFunE hr.depth hf rfl g.co g.gen rfl ⟨c,oc,vs,t,rfl,hc1,hc2,hc3⟩ ?_
 rw[g.bind];refine J? (wpAny_newFunctionEnv (λy hy=>(g.ud y hy).1) (λy hy=>by rw[List.mem_singleton.mp hy];exact g.loc) (λh₁ hns OV=>⟨lim.fresh _ OV,?_⟩) g.kind)
 show codeAny _ _ (.expr L.body (envX L.qual L.scope s.heap.objs.size f (.ref c) [])) _ _
 have hk₁:∀b o,s.heap.get? b=j? o->h₁.get? b=j? o:=λb o e=>OV.extBut b o (Ym (Yl e)) (Yf _ e)
 have ok:(Av P w K mg base [L.x] L.qual L.scope f c [] A outer s H).Ok:=
  ⟨e0.mod,g.kind,rfl,rfl,Yd _,λx y c z=>W3 z (by simp[Av,envX]),λx hx=>by
   rcases hx with z|z
   ·exact W3 rfl (g.ud _ (W? z)).1
   ·exact W3 rfl (g.ud _ (W? z)).2,λx c z=>(nomatch (show false=true from z)),λ_=>hr.hd,Around.frames_deeper e0.frames,.inr ⟨rfl,rfl⟩,λb z=>W3 (show b∈([]:List o?) from z) (by simp),e0.bs,e0.Hw,λb o _ z=>W3 (show b∈([]:List o?) from z) (by simp),λb z=>W3 (show b∈([]:List o?) from z) (by simp),e0.sX,e0.Mg⟩
 have I:Inv (Av P w K mg base [L.x] L.qual L.scope f c [] A outer s H) [] [j? v] H { s with heap:=h₁,toks:=s.toks+1 }:=by
  refine⟨ok,rfl,e0.bare,Un.kept hk₁,⟨_,hns,λi x v' e1 e2 e3=>?_⟩,λx c e=>W3 e (by simp[Av,envX]),e0.hok.fresh (Yd _),λx c e=>W3 e (by simp[Av,envX]),λp hp=>W3 (show p∈([]:List (o?×Obj)) from hp) (by simp),e0.hok.kept hk₁,rfl⟩
  cases i with
  | zero=>
   cases e1;cases e2;exact⟨u,rv,.inl ⟨g.loc,by simp⟩⟩
  | succ i=>have e1:([]:List Str)[i]?=j? x:=e1;simp at e1
 refine kla_codeExpr (D! ((g.pe f c A outer s H (hr.deeper _)).1 [] _ _ H Q I q) (λv s' hl=>?_) λ_ _ z=>Q! z)
 obtain⟨y,H',J,r,q'⟩:=hl;exact⟨y,H',J.os,J.bare,J.base,J.hok,r,q'⟩
end
inductive GC (P:o?)(pos:Pos)(L:GB)(x0q:St)(H:Hp)(Q:VK):Prop where
 | mk (ps:Array l?) (c5:H P=j? (.zU ps)) (c6:TriplesOk ps.toList) (dS:((codeAmong pos ps.toList=q?/\∀f c',H f=q?->H c'=q?->f≠c'->Q (.ref f) (sY H P f c' ps pos L.qual L.params L.body L.scope []))\/(∃c',codeAmong pos ps.toList=j? (.ref c')/\H c'=j? (.ext (Ll c' L.qual))/\∀f,H f=q?->Q (.ref f) (upd H f (.ext (IJ f c' L.qual L.params L.body L.scope []))))))
section
variable {X:Cx}
theorem QH(hL:L.params=params/\L.body=body/\L.scope=scope)(hq:X.env.qual++"<lambda>"=L.qual)(hb:BMain X.mg X.base)(hc:X.env.code=.ref c)(hk:codeHdIn X.K c P=true)(hcl:bq X.env.cells scope.names []=[])(hcf:∀y∈scope.names,y.2=.free->∃c,X.env.cells.lookup y.1=j? c)(hdef:defaultsOf params X.env=([],[]):=by rfl):
  PE X (.Lambda params body scope pos) (GC P pos L):=by
 obtain⟨rfl,rfl,rfl⟩:=hL;have hm:=Tg (X:=X) (params:=L.params) (body:=L.body) (scope:=L.scope) (pos:=pos) hb hc hk hcf hdef;rw[hcl,hq] at hm;refine⟨?_⟩
 intro pins s σ H Q I h;obtain⟨ps,hP,ht,⟨hn,q⟩|⟨c',hf,hc',q⟩⟩:=h
 ·exact hm.1 pins s σ H Q I ⟨ps,hP,ht,hn,q⟩
 have eP:s.heap.get? P=j? (tabObj ps):=I.hok P _ hP;have hgs:=I.mod.glob.keeps I.bk;obtain⟨bm,ob,b1,b2,b3,b4,b5,b6⟩:=hb;have NG:=I.bk _ _ b3;have ZX:bm≠P:=λz=>by rw[z,eP] at NG;cases NG;cases b4
 have ZY:bm≠G?:=λz=>by
  obtain⟨o,es,ep,e,hd,_⟩:=hgs;rw[z,e] at NG;cases NG;rw[hd] at b6;cases b6
 refine kla_eval hdef (kla_makeFunctionHit (mg:=X.mg) (jU hcf) I.ok.glob hgs hc (codeHd_of_K I.BZ hk) eP ht hf ⟨bm,ob,b1,b2,ZY,ZX,NG,b4,b5,b6⟩ λctv h' tk hx hsz=>?_)
 rw[hcl,hq];generalize hO:({ cls:=.type "function",data:=.func (kla_fn "<lambda>" L.qual L.params L.body L.scope [] ((X.mg "__name__").getD .none) (.ref c') ctv) }:Obj)=O;have g:(h'.push O).get? h'.objs.size=j? O:=Yw _ (by rw[<- hO];rfl)
 refine⟨.ref h'.objs.size,_,I.laid (a:=h'.objs.size) (o:=.ext (IJ h'.objs.size c' L.qual L.params L.body L.scope [])) (λb o e=>Yf _ (hx b o e)) hsz ⟨⟨_,_,by rw[g,<- hO]⟩,⟨_,g⟩,λh1 h2 z k=>?_⟩,rfl,q _ (I.hok.fresh hsz)⟩
 obtain⟨pm,cv,z⟩:=z;exact⟨pm,cv,k _ z⟩
end
end L2
namespace L2
open PySem PySem.Spec PySem.W PyProof.Rows
theorem NN:∀(N:Nat) (l:List Nat),l.Nodup->(∀x∈l,x<N)->l.length<=N
 | 0,l,_,h=>by
  cases l with
  | nil=>exact Yd _
  | cons a r=>exact W3 (h a Yg) (We _)
 | N+1,l,d,h=>by
  have ih:=NN N (l.erase N) (d.erase N) λx hx=>by
   have hm:=(List.Nodup.mem_erase_iff d).mp hx;have:=h x hm.2
   have ne:x≠N:=hm.1;omega
  by_cases hm:N∈l
  ·rw[List.length_erase_of_mem hm] at ih
   omega
  ·rw[List.erase_of_not_mem hm] at ih
   omega
theorem AD:∀(N:Nat) (l:List Nat),l.Nodup->(∀x∈l,x<N)->l.length=N->l.Perm (Yi N)
 | 0,l,_,_,hl=>by
  have:l=[]:=List.length_eq_zero_iff.mp hl
  subst this;exact .refl _
 | N+1,l,d,h,hl=>by
  have hm:N∈l:=by
   refine Y? λhn=>?_
   have:=NN N l d λx hx=>by
    have h1:=h x hx;have ne:x≠N:=λz=>hn (z ▸ hx)
    omega
   omega
  have ih:=AD N (l.erase N) (d.erase N) (λx hx=>by
   have hm:=(List.Nodup.mem_erase_iff d).mp hx;have:=h x hm.2
   have ne:x≠N:=hm.1;omega) (by rw[List.length_erase_of_mem hm];omega)
  refine(List.perm_cons_erase hm).trans ?_
  rw[Z7];exact(ih.cons N).trans (List.perm_append_singleton N _).symm
theorem Pm.perm(P:Pm p N):p.toList.Perm (Yi N):=by
 have hl:p.toList.length=N:=by rw[Y8];exact P.size
 have g:∀i (h:i<p.toList.length),p.toList[i]=gd p i:=λi h=>by
  unfold gd;rw[Zz];rw[Zq (by rw[Y8] at h;exact h)]
  simp
 refine AD N _ ?_ ?_ hl
 ·rw[List.nodup_iff_pairwise_ne,List.pairwise_iff_getElem]
  intro i j hi hj hij;rw[g i hi,g j hj];intro z;have:=P.inj i j (by omega) (by omega) z
  omega
 ·intro x hx
  obtain⟨i,hi,rfl⟩:=Z1 hx;rw[g i hi];exact P.lt i (by omega)
end L2
namespace L2
open PySem PySem.Spec PySem.W PyProof.Rows Alg
section
variable {X:Cx} {pins:List (o?×Obj)} {σ:St} {H:Hp} {s:u?} {h':Q?}
theorem Inv.adopt{ch:List o?}(I:Inv X pins σ H s)(k:∀b u,b ∉ ch->s.heap.get? b=j? u->h'.get? b=j? u)(hf:∀b∈ch,oS X pins H b)(ha:a∈ch)(new:lI X.prog X.w (upd H a o) h' a o):
  Inv X pins σ (upd H a o) { s with heap:=h',toks:=t' }:=by
 have hn:H a=q?:=(hf a ha).1;have Mh:∀b u,H b=j? u->b ∉ ch:=λb u e z=>by rw[(hf b z).1] at e;cases e
 refine I.step (g':=s.gens) (d':=s.drawn) (ch:=ch) (λb hb=>⟨(hf b hb).2.2.2.1,(hf b hb).2.1,(hf b hb).2.2.2.2.1,(hf b hb).2.2.2.2.2⟩) (λb o _ _ hc e _=>k b o hc e) (λb o _ _ hc e _=>⟨o.slots,k b o hc e⟩) (λb u hc e n=>by rw[aH (λz=>hc (by rw[z];exact ha))];exact n)
  (λb o hc e=>⟨o,k b o hc e⟩) (λb xs e=>by rw[aH (aL e hn)];exact e) (λb u xs e=>by rw[aH (aL e hn)];exact e) (λb ps e=>⟨#[],by rw[aH (aL e hn),e];simp⟩) (λm hm=>?_) (λb u e=>?_) I.bare
 ·obtain⟨o,es,ep,ho,r⟩:=hm
  exact⟨o,es,ep,k _ o (λz=>(hf _ z).2.1 rfl) ho,r⟩
 ·by_cases hb:b=a
  ·subst hb
   rw[aq] at e;cases e;exact new
  ·rw[aH hb] at e
   refine(I.hok b u e).stay (λc v hc q=>k c v ?_ q) (λc q=>by rw[aH (aL q hn)];exact q) λc xs q=>by rw[aH (aL q hn)];exact q
   rcases hc with z|z
   ·rw[z];exact Mh b u e
   ·exact Mh c _ z
end
section
variable {prog:F?} {w:H?} {A:C!} {E:l?->u?->Prop} {s:u?} {a kS:o?} {e e1:Nat} {P:PySem.Fin->u?->Prop}
theorem Dw {st:SortSt}(hk:s.heap.get? kS=j? (M! "list" keys e))(ha:s.heap.get? a=j? (M! "list" #[] e1))(hka:kS≠a)(hks:keys.size<=K?)(ho:(arrOf st).map (·.2)=out)(hz:out.size<=K?)(hfl:failedOf st=q?)
  (h:∀h' c,(∀b o,b≠kS->b≠a->s.heap.get? b=j? o->h'.get? b=j? o)->h'.get? a=j? (M! "list" out c)->P (.done (.ret .none)) { s with heap:=h' }):
  L? (T? prog w) A (ksk_tail a false e1 (.ref kS) st) P E s:=by
 have s1:=Heap.SameBut.update s.heap kS (F! λ_=>(#[]:Array l?))
 have na1:(s.heap.update kS (F! λ_=>(#[]:Array l?))).get? a=j? (M! "list" #[] e1):=(s1.2 a hka.symm).trans ha
 have s2:=Heap.SameBut.update (s.heap.update kS (F! λ_=>(#[]:Array l?))) a (F! λ_=>out)
 obtain⟨c2,hc2⟩:∃c2,((s.heap.update kS (F! λ_=>(#[]:Array l?))).update a (F! λ_=>out)).get? a=j? (M! "list" out c2):=⟨_,get?_update_seq na1 λ_=>out⟩
 unfold ksk_tail;try dsimp only
 refine B? (listUpdate_at hk rfl ?_ hks (Y2 _))
 refine B? (wpAny_letGo ?_)
 refine B? (seqEpoch_at na1 rfl ?_)
 simp only[Bool.false_eq_true,if_false]
 rw[ho];refine B? (listUpdate_at na1 rfl ?_ (Y2 _) (Nat.le_succ_of_le hz))
 rw[hfl];simp only[bne_self_eq_false,Bool.false_eq_true,if_false]
 exact J? (h _ c2 (λb o h1 h2 q=>(s2.2 b h2).trans ((s1.2 b h1).trans q)) hc2)
theorem NO {vs ks:List l?}(hk:s.heap.get? kS=j? (M! "list" ks.toArray e))(ha:s.heap.get? a=j? (M! "list" #[] e1))(hka:kS≠a)(hl:ks.length=vs.length)(h64:vs.length<64)(O:uC lt vs.length)
  (hkd:2<=vs.length->∀(E:l?->u?->Prop) (Q:SortKind->u?->Prop),Q κ s->L? (T? prog w) A (keyKind' ks.toArray) Q E s) (hc:∀i j C,i<vs.length->j<vs.length->C (lt i j) s->kas_ask prog w A κ ks i j C s)
  (h:∀p:List Nat,p.Perm (Yi vs.length)->p.Pairwise (λi j=>lt i j=true)->∀h' c,(∀b o,b≠kS->b≠a->s.heap.get? b=j? o->h'.get? b=j? o)->h'.get? a=j? (M! "list" (p.map λi=>vs.getD i Value.none).toArray c)->P (.done (.ret .none)) { s with heap:=h' }):
  L? (T? prog w) A (ksk_end a false vs.toArray e1 (.ref kS) ks.toArray) P E s:=by
 have hsz:vs.toArray.size=vs.length:=by simp
 have hks:ks.toArray.size<=K?:=by rw[C?];simp;omega
 unfold ksk_end;try dsimp only
 simp only[Bool.false_eq_true,if_false]
 by_cases h2:vs.toArray.size<2
 ·rw[Wx h2,Wx h2]
  refine B? (J? ?_)
  rw[StateT.run_pure];refine B? (J? ?_)
  try dsimp only
  have er:((Yi vs.length).map λi=>vs.getD i Value.none)=vs:=by
   refine List.ext_getElem (by simp) λi h1 h2=>?_
   simp[h2]
  refine Dw (st:=SortSt.mk' general' (ks.toArray.zip vs.toArray) #[] 7 q?) (out:=vs.toArray) hk ha hka hks ?_ (by rw[hsz,C?];omega) rfl λh' c k1 k2=>h (Yi vs.length) (.refl _) ?_ h' c k1 (by rw[er];exact k2)
  ·show(ks.toArray.zip vs.toArray).map (·.2)=vs.toArray
   apply Array.toList_inj.mp
   rw[Array.toList_map,Array.toList_zip];exact List.map_snd_zip (by simp[hl])
  ·rw[hsz] at h2
   match hv:vs.length,h2 with
   | 0,_=>exact .nil
   | 1,_=>exact List.pairwise_singleton _ _
   | n+2,z=>omega
 ·rw[Ww h2,Ww h2]
  rw[hsz] at h2;refine B? (hkd (by omega) _ _ ?_)
  obtain⟨S1,S2⟩:=Ln O (by omega)
  have run:=Kr (Q:=λp s'=>s'=s/\Pm p vs.length/\Hh lt p vs.length) (λi j C hi hj q=>hc i j C hi hj q) (kas_sort vs.length) (NK O (by omega)) ⟨rfl,S1,S2⟩
  refine B? (D! (kat_run (Q:=λst' s'=>∃p:Array Nat,arrOf st'=p.map (kas_item (ks.toArray.zip vs.toArray))/\failedOf st'=q?/\s'=s/\Pm p vs.length/\Hh lt p vs.length)
   hl (by omega) h64 (λp' st' s' a1 a2 a3 a4=>⟨p',a2,a3,a4⟩) run) ?_ λ_ _ e=>e)
  rintro⟨⟨⟩,st'⟩ s' ⟨p,har,hf,rfl,hp,hup⟩
  try dsimp only
  have hps:p.toList.length=vs.length:=by rw[Y8];exact hp.size
  refine Dw hk ha hka hks (kat_snds hl har) ?_ hf λh' c k1 k2=>h p.toList hp.perm ?_ h' c k1 k2
  ·rw[Yu,Yc,hps,C?];omega
  ·rw[List.pairwise_iff_getElem]
   intro i j hi hj hij;have g:∀i (h:i<p.toList.length),p.toList[i]=gd p i:=λi h=>by
    unfold gd;rw[Zz,Zq (by rw[Y8] at h;exact h)]
    simp
   rw[g i hi,g j hj];exact hup i j hij (by omega)
end
noncomputable def Tj (ns:Nat->Int)(es:Nat->El)(i j:Nat):Bool:=if ns i=ns j then v8 (es i) (es j) else decide (ns i<ns j)
structure NP (K:bK)(H:Hp)(n m:Nat)(ks:List V)(ns:Nat->Int)(es:Nat->El):Prop where
 hm:m<=20
 at_:∀i,i<n->∃a w,ks[i]?=j? (.ref a)/\iR K H a [.int (ns i),w]/\Rep H Any w (es i)/\uh m (es i)
 sm:∀i j,i<n->j<n->ns i=ns j->Hg (es i) (es j)
 ne:∀i j,i<n->j<n->i≠j->es i≠es j
inductive Ez (K:bK)(L:GB)(xs:List V)(ys:List V)(H:Hp)(Q:VK):Prop where
 | mk (l f c:o?) (vs:List V) (c5:xs=[.ref l]) (c6:ys=[.ref f]) (dS:aU K H l vs) (fT:vs.length<64) (jv:∃Pv:Nat->List V->Hp->Prop,Pv 0 [] H/\(∀i v ks H',vs[i]?=j? v->ks.length=i->Pv i ks H'->L.here f c H'/\L.t [j? v] H' λkv H2=>Pv (i+1) (ks++[kv]) H2)/\∀ks H',Pv vs.length ks H'->∃m ns es,NP K H' vs.length m ks ns es/\∀(p:List Nat) D,p.Perm (Yi vs.length)->p.Pairwise (λi j=>Tj ns es i j=true)->H' D=q?->Q (.ref D) (upd H' D (.lst (p.map λi=>vs.getD i .d8))))
theorem Tn {K:bK}{H:Hp}{n m:Nat}{ks:List V}{ns:Nat->Int}{es:Nat->El}(h:NP K H n m ks ns es):uC (Tj ns es) n:=by
 refine⟨λa b c ha hb hc e1 e2=>?_,λa b ha hb hab e=>?_⟩
 ·unfold Tj at e1 e2 ⊢
  by_cases c1:ns a=ns b
  ·rw[Wx c1] at e1
   by_cases c2:ns b=ns c
   ·rw[Wx c2] at e2
    rw[Wx (c1.trans c2)];exact Du _ _ _ e1 e2
   ·rw[Ww c2] at e2
    rw[Ww (by rw[c1];exact c2),c1];exact e2
  ·rw[Ww c1] at e1
   have z1:=Wz e1;by_cases c2:ns b=ns c
   ·rw[Ww (by rw[<- c2];exact c1),<- c2];exact e1
   ·rw[Ww c2] at e2
    have z2:=Wz e2;rw[Ww (by omega)]
    exact Wy (by omega)
 ·unfold Tj at e ⊢
  by_cases c1:ns a=ns b
  ·rw[Wx c1] at e
   rw[Wx c1.symm];exact Kn _ _ (h.sm a b ha hb c1) (h.ne a b ha hb hab) e
  ·rw[Ww c1] at e
   have:=of_decide_eq_false e
   rw[Ww (λz=>c1 z.symm)]
   exact Wy (by omega)
theorem Dz {vs:List V}{us:List l?}(r:Vals vs us):∀p:List Nat,(∀i∈p,i<vs.length)->Vals (p.map λi=>vs.getD i .d8) (p.map λi=>us.getD i Value.none)
 | [],_=>.nil
 | i::p,h=>by
  refine .cons ?_ (Dz r p λj hj=>h j (Ye _ hj))
  have hi:=h i Yg;obtain⟨u,hu,ru⟩:=r.get (Ya hi);show RelV (vs.getD i .d8) (us.getD i Value.none)
  rw[Yb,Yb,Ya hi,hu];exact ru
section
variable {X:Cx}
open Classical in
theorem IM(g:L.Ok X.prog X.w X.K X.mg X.base k)(hr:eH (k+3) X.A):MQ X (.builtin "sorted") ["key"] (Ez X.K L):=by
 intro pins s σ H xs ys us ws Q I rx ry h;obtain⟨l,f,c,vs,rfl,rfl,hq,h64,Pv,h0,hstep,hend⟩:=h;obtain⟨u,rfl,ru⟩:=vals1 rx;cases (show u=K! l from ru)
 obtain⟨u2,rfl,ru2⟩:=vals1 ry;cases (show u2=K! f from ru2)
 obtain⟨its,rv,hp,hz⟩:=I.list hq;have hl:=hp.isList;have hlen:vs.length=its.length:=rv.length;show L? (T? X.prog X.w) X.A (call (.builtin "sorted") [.ref l] [(L! "key",.ref f)]) _ _ s
 refine call_function_entry_kw kind_sorted plain_sorted entry_sorted (ksk_s1 _ _) ?_
 unfold Builtin.sorted;refine B? (m:=checkCount "sorted" 1 1 _) (J? ?_)
 refine B? (collect_list hl ?_ (by rw[C?];omega))
 refine B? (wpAny_newList ?_ (by rw[C?];omega))
 have hsz:((s.heap.push (M! "list" #[] 0)).update s.heap.objs.size (F! (·++its.toArray))).objs.size=s.heap.objs.size+1:=by
  rw[Heap.size_update,size_push']
 have Rg:(((s.heap.push (M! "list" #[] 0)).update s.heap.objs.size (F! (·++its.toArray))).push (M! "list" its.toArray 0)).get? (s.heap.objs.size+1)=j? (M! "list" its.toArray 0):=by
  rw[<- hsz];exact Yw _ rfl
 have keep:∀b o,s.heap.get? b=j? o->(((s.heap.push (M! "list" #[] 0)).update s.heap.objs.size (F! (·++its.toArray))).push (M! "list" its.toArray 0)).get? b=j? o:=λb o q=>by
  have hlt:b<s.heap.objs.size:=Yl q;rw[Heap.get?_push_ne _ _ _ (by rw[hsz];exact Ym (Nat.lt_succ_of_lt hlt)),Heap.get?_update_ne _ _ _ _ (Ym hlt),Heap.get?_push_ne _ _ _ (Ym hlt)]
  exact q
 have VM:(((s.heap.push (M! "list" #[] 0)).update s.heap.objs.size (F! (·++its.toArray))).push (M! "list" its.toArray 0)).objs.size=s.heap.objs.size+2:=by rw[size_push',hsz]
 show L? _ _ _ _ _ { s with heap:=((s.heap.push (M! "list" #[] 0)).update s.heap.objs.size (F! (·++its.toArray))).push (M! "list" its.toArray 0) }
 rw[hsz];generalize ((s.heap.push (M! "list" #[] 0)).update s.heap.objs.size (F! (·++its.toArray))).push (M! "list" its.toArray 0)=h1 at Rg keep VM ⊢
 generalize ha:s.heap.objs.size+1=a at Rg ⊢;have To:s.heap.objs.size<=a:=by rw[<- ha];exact Wg _
 refine B? (wpAny_holding (wpAny_call_entry_kw slot_list_sort ⟨_,Rg,rfl⟩ entry_list_sort ?body (ksk_l1 _ _)))
 case body=>
  show L? (T? X.prog X.w) X.A.in1.in1 (Builtin.«list.sort» ⟨[.ref a],[(L! "key",.ref f)]⟩) _ _ _
  rw[ksk_t1];have hs1:=Heap.SameBut.update h1 a (F! λ_=>(#[]:Array l?))
  obtain⟨e1,ho1⟩:∃e1,(h1.update a (F! λ_=>(#[]:Array l?))).get? a=j? (M! "list" #[] e1):=⟨_,get?_update_seq Rg λ_=>#[]⟩
  have hkS:((h1.update a (F! λ_=>(#[]:Array l?))).push (M! "tuple" its.toArray 0)).objs.size=s.heap.objs.size+3:=by rw[size_push',Heap.size_update,VM]
  unfold ksk_tree;refine B? (listItems_at Rg rfl ?_)
  refine B? (listUpdate_at Rg rfl ?_ (by rw[Yu,C?];omega) (Y2 _))
  refine B? (seqEpoch_at ho1 rfl ?_)
  refine B? (wpAny_newTuple ?_ (by show its.length<=_;rw[C?];omega))
  refine B? (wpAny_newList ?_ (Y2 _))
  refine wpAny_holding ?_
  rw[hkS];have h2k:(((h1.update a (F! λ_=>(#[]:Array l?))).push (M! "tuple" its.toArray 0)).push (M! "list" #[] 0)).get? (s.heap.objs.size+3)=j? (M! "list" #[] 0):=by
   rw[<- hkS];exact Yw _ rfl
  have h2a:(((h1.update a (F! λ_=>(#[]:Array l?))).push (M! "tuple" its.toArray 0)).push (M! "list" #[] 0)).get? a=j? (M! "list" #[] e1):=Yf _ (Yf _ ho1)
  have RG:∀b o,s.heap.get? b=j? o->(((h1.update a (F! λ_=>(#[]:Array l?))).push (M! "tuple" its.toArray 0)).push (M! "list" #[] 0)).get? b=j? o:=λb o q=>
   Yf _ (Yf _ ((hs1.2 b (Ym (Yj (Yl q) To))).trans (keep b o q)))
  show L? _ _ _ _ _ { s with heap:=((h1.update a (F! λ_=>(#[]:Array l?))).push (M! "tuple" its.toArray 0)).push (M! "list" #[] 0) }
  generalize ((h1.update a (F! λ_=>(#[]:Array l?))).push (M! "tuple" its.toArray 0)).push (M! "list" #[] 0)=h2 at h2k h2a RG ⊢
  have hka:s.heap.objs.size+3≠a:=by rw[<- ha];exact λz=>by simp at z
  generalize hkS':s.heap.objs.size+3=kS at h2k hka ⊢;have VN:s.heap.objs.size<=kS:=by rw[<- hkS'];exact Wj _ _
  unfold ksk_rest;refine B? (wpAny_rule ?_)
  first
   | rw[List.forIn_toArray]
   | (rw[<- Array.forIn_toList];simp only[List.toList_toArray])
   | rw[<- Array.forIn_toList]
  refine B? (ksk_fold (λi s'=>∃(H':Hp) (ks:List V) (kA:List l?) (e:Nat),Inv X pins σ H' s'/\oS X pins H' a/\oS X pins H' kS/\s'.heap.get? a=j? (M! "list" #[] e1)/\s'.heap.get? kS=j? (M! "list" kA.toArray e)/\Vals ks kA/\ks.length=i/\Pv i ks H') its 0 _
   ⟨H,[],[],0,I.kept RG,I.yC To (I.hok.fresh To),I.yC VN (I.hok.fresh VN),h2a,h2k,.nil,rfl,h0⟩ ?step ?done)
  case step=>
   rintro j x s' hx ⟨H',ks,kA,e,I',fa,fk,ga,gk,rk,O1,pv⟩;rw[Zm] at O1 pv ⊢;have hj:j<its.length:=(List.getElem?_eq_some_iff.mp hx).1;obtain⟨v,hv⟩:∃v,vs[j]?=j? v:=⟨_,Ya (by omega)⟩
   obtain⟨x',hx',rvx⟩:=rv.get hv;rw[hx] at hx';cases hx';obtain⟨hh,ht⟩:=hstep j v ks H' hv O1 pv;have hfp:∀b∈[a,kS],oS X pins H' b:=λb hb=>by
    rcases List.mem_cons.mp hb with rfl|hb
    ·exact fa
    ·rw[List.mem_singleton.mp hb];exact fk
   have hob:∀b∈[a,kS],∃o,s'.heap.get? b=j? o/\∀v,o.data≠.cell v:=λb hb=>by
    rcases List.mem_cons.mp hb with rfl|hb
    ·exact⟨_,ga,λv z=>by cases z⟩
    ·rw[List.mem_singleton.mp hb];exact⟨_,gk,λv z=>by cases z⟩
   have Ip:=I'.pinned hfp hob;have e0:=Ip.Sl;have e2:D6 X.prog X.w X.K X.mg X.base X.A.in1.in1 X.stack s' H':=⟨e0.frames,e0.mod,e0.bs,e0.Hw,e0.sX,e0.Mg,e0.hok,e0.bare⟩;refine B? (wpAny_attempt (wpAny_call (codeAny_mono (NL g (eH.in1 (eH.in1 hr)) e2 hh rvx ht) λr s2 hq2=>?_)))
   cases r with
   | error er=>exact Q! hq2
   | ok fl=>
    cases fl with
    | next=>exact Q! hq2
    | brk=>exact Q! hq2
    | cont=>exact Q! hq2
    | ret u=>
     obtain⟨kv,H2,I2,rk2,pv2⟩:=Ip.after hq2;have pa:=I2.pin (a,M! "list" #[] e1) (Yn _ (Yn _ (fU Yg ga)));have pk:=I2.pin (kS,M! "list" kA.toArray e) (Yn _ (Yn _ (fU (Ye _ Yg) gk)));have I3:=I2.oU;have fa2:oS X pins H2 a:=⟨pa.2.1,fa.2⟩;have UB:oS X pins H2 kS:=⟨pk.2.1,fk.2⟩;have sb:=Heap.SameBut.update s2.heap kS (F! (·.push u))
     obtain⟨c2,hc2⟩:∃c2,(s2.heap.update kS (F! (·.push u))).get? kS=j? (M! "list" (kA.toArray.push u) c2):=⟨_,get?_update_seq pk.1 (·.push u)⟩
     have kl:kA.length<=64:=by rw[<- rk.length];omega
     try dsimp only
     refine B? (listUpdate_at pk.1 rfl ?_ (by rw[C?];simp;omega) (by rw[C?];simp;omega))
     refine J? ⟨rfl,H2,ks++[kv],kA++[u],c2,I3.turned (it:=kS) (λb o hb q=>(sb.2 b hb).trans q) UB.1 UB.2.1 UB.2.2.2.1 UB.2.2.2.2.1 UB.2.2.2.2.2,fa2,UB,(sb.2 a hka.symm).trans pa.1,by rw[hc2];simp,rk.append (.cons rk2 .nil),by rw[Yk,O1];rfl,pv2⟩
  case done=>
   rintro s' ⟨H',ks,kA,e,I',fa,fk,ga,gk,rk,O1,pv⟩;rw[Zm] at O1 pv;rw[<- hlen] at O1 pv;obtain⟨m,ns,es,KA,fin⟩:=hend ks H' pv;have hkA:kA.length=its.length:=by rw[<- rk.length];omega
   have tup:∀i,i<its.length->∃(ak:o?) (o:Obj) (t:Tok) (n:Nat) (wv:l?) (as:List o?),kA.getD i Value.none=.ref ak/\s'.heap.get? ak=j? o/\o.cls=.type "tuple"/\o.data=.seq #[.int (ns i) t,wv] n/\Reads s'.heap wv (toD (es i)) as:=λi hi=>by
    obtain⟨ak,w,g1,g2,g3,g4⟩:=KA.at_ i (by omega)
    obtain⟨uv,g5,g6⟩:=rk.get g1;cases (show uv=K! ak from g6)
    obtain⟨its2,r2,⟨o,h1,h2,n,h3⟩,_⟩:=I'.tuple g2;obtain⟨u1,u2,e,x1,x2⟩:=vals2 r2;subst e;obtain⟨t1,e1⟩:=(show ∃t,u1=Value.int _ t from x1)
    subst e1;obtain⟨as,ra⟩:=(g3.den (K:=X.K)).reads I' x2;exact⟨ak,o,t1,n,u2,as,by rw[Yb,g5];rfl,h1,h2,h3,ra⟩
   have hun:=hr.un;try dsimp only
   refine B? (listItems_at gk rfl ?_)
   refine NO (κ:=tuples' true) (lt:=Tj ns es) gk ga hka hkA (by omega) (by rw[<- hlen];exact Tn KA) (λ_ E' Q' hQ=>?_) (λi j C hi hj hC=>?_) (λp pp pw h' c kp gp=>⟨_,rfl,?_⟩)
   ·have main:∀(q:List Nat),(∀i∈q,i<its.length)->∃fs:List l?,KatTups s'.heap (q.map λi=>kA.getD i Value.none) fs/\fs.length=q.length/\∀v∈fs,∃i t,v=Value.int i t:=by
     intro q;induction q with
     | nil=>intro _;exact⟨[],.nil,rfl,λv hv=>by simp at hv⟩
     | cons i q ih=>
      intro hm;obtain⟨fs,f1,f2,f3⟩:=ih λt' h'=>hm t' (Ye _ h')
      obtain⟨ak,o,t,n,wv,as,g0,g1,g2,g3,_⟩:=tup i (hm i Yg);refine⟨.int (ns i) t::fs,?_,by simp[f2],λv hv=>?_⟩
      ·rw[Z4,g0]
       exact KatTups.cons g1 g2 g3 rfl f1
      ·rcases List.mem_cons.mp hv with rfl|hv
       ·exact⟨_,_,rfl⟩
       ·exact f3 v hv
    obtain⟨fs,f1,f2,f3⟩:=main (Yi its.length) λi hi=>List.mem_range.mp hi
    have er:((Yi its.length).map λi=>kA.getD i Value.none)=kA:=by
     refine List.ext_getElem (by simp[hkA]) λi h1 h2=>?_
     simp[h2]
    rw[er] at f1;refine kat_kind (T:=.type "int") f1 (by rw[f2,Yv];omega) (λv hv=>?_) rfl hQ
    obtain⟨i,t,rfl⟩:=f3 v hv;exact .now
   ·obtain⟨a1,o1,t1,n1,w1,as1,g0,g1,g2,g3,ra⟩:=tup i hi
    obtain⟨a2,o2,t2,n2,w2,as2,k0,k1,k2,k3,rb⟩:=tup j hj;obtain⟨_,_,_,_,_,fi⟩:=KA.at_ i (by omega)
    obtain⟨_,_,_,_,_,fj⟩:=KA.at_ j (by omega)
    have hm:=KA.hm;show L? _ _ (keyLt' (tuples' true) _ _) C _ _
    rw[g0,k0];refine kat_lt g1 g3 k1 k3 ?_
    refine kat_cons (wpAny_eqBool_int ?_)
    unfold Tj at hC;by_cases c0:ns i=ns j
    ·rw[Wx c0] at hC
     have e0:(ns i == ns j)=true:=by rw[c0];exact beq_self_eq_true _
     rw[e0];refine kat_yes (kat_cons (zR fi fj (by omega) (by omega) ra rb (by show X.A.units+1+1+64<_;omega) _ _ _ _ ?_))
     by_cases c1:es i=es j
     ·rw[Wy c1]
      refine kat_yes (kat_nil ?_)
      rw[c1,Aw] at hC;exact hC
     ·rw[W0 c1]
      refine kat_no (kat_one _ _ ?_)
      exact Kp (KA.sm i j (by omega) (by omega) c0) fi fj hm ra rb (by show X.A.units+1+1+m+65<_;omega) _ _ _ _ hC
    ·rw[Ww c0] at hC
     have e0:(ns i == ns j)=false:=beq_eq_false_iff_ne.mpr c0;rw[e0];exact kat_no (oneLt_int hC)
   ·refine J? ⟨_,rfl,?_⟩
    have hpl:p.length=vs.length:=by rw[pp.length_eq,Yv,hlen]
    have hpm:∀i∈p,i<vs.length:=λi hi=>by rw[hlen];exact List.mem_range.mp (pp.mem_iff.mp hi)
    refine⟨.ref a,_,I'.adopt (t':=s'.toks) (ch:=[kS,a]) (o:=.lst (p.map λi=>vs.getD i .d8)) (λb o hb q=>kp b o (λz=>hb (by rw[z];exact Yg)) (λz=>hb (by rw[z];exact Ye _ Yg)) q) (λb hb=>?_) (Ye _ Yg) ⟨?_,_,_,Dz rv p hpm,gp⟩,rfl,fin p a (by rw[hlen];exact pp) pw fa.1⟩
    ·rcases List.mem_cons.mp hb with rfl|hb
     ·exact fk
     ·rw[List.mem_singleton.mp hb];exact fa
    ·rw[Yc,hpl,C?];omega
theorem NQ {K:bK}{c P:o?}{e:Expr}{params:Arguments}{body:Expr}{scope:Scope}{pos pos2 p kp:Pos}{x:Str}{t:TE}{ta:TA}{k:Nat}(hK:X.K=K)
  (hbody:∀(f c:o?) (A:C!) (outer:List Env) (s:u?) (H:Hp),eH k (A.deeper (envX (X.env.qual++"<lambda>") scope s.heap.objs.size f (.ref c) []))->PE (Av X.prog X.w K X.mg X.base [x] (X.env.qual++"<lambda>") scope f c [] A outer s H) body t)
  (hr:eH (k+3) X.A) (hb:BMain X.mg X.base) (hc:X.env.code=.ref c) (hk:codeHdIn K c P=true) (hg:Gl X "sorted") (hm:X.mg "sorted"=q?) (ha:PA X [e] ta)
  (hbind:∀pm cdv ct u,bindArgs (kla_fn "<lambda>" (X.env.qual++"<lambda>") params body scope [] pm cdv ct) ⟨[u],[]⟩=pure [(x,u)])
  (hcl:bq X.env.cells scope.names []=[]) (hcf:∀y∈scope.names,y.2≠.cell/\y.2≠.free) (hloc:scope.names.lookup x=j? .local) (hdef:defaultsOf params X.env=([],[]):=by rfl) (hkind:scope.kind=.function:=by rfl) (hco:scope.isCoroutine=false:=by rfl) (hgen:scope.isGenerator=false:=by rfl)
  (he1:backTo pos2 (I? [e] X.env)=(false,eval e X.env)::backTo pos2 (I? [] X.env):=by rfl)
  (hplain:(backTo pos2 (I? [e] X.env)).any (·.1)=false:=by rfl):
  PE X (.Call (.Name "sorted" p) [e] [.mk (j? "key") (.Lambda params body scope pos) kp] pos2) (SM (Ez K ⟨X.env.qual++"<lambda>",params,body,scope,x,t⟩) ta (oW (GC P pos ⟨X.env.qual++"<lambda>",params,body,scope,x,t⟩) wz)):=by
 subst hK;exact La (IM (k:=k) ⟨hkind,hco,hgen,hcf,hloc,hbind,hbody⟩ hr) hg hm K_ ha (D7 (QH ⟨rfl,rfl,rfl⟩ rfl hb hc hk hcl (λy hy z=>W3 z (hcf y hy).2) hdef) HV) (he:=he1) (hplain:=hplain)
end
end L2
namespace L2
open PySem PySem.Spec PySem.W PyProof.Rows
theorem Lq {P:F?}{w:H?}{K:bK}{mg mb:Str->Option l?}{CX:K2}{k:Nat}{fa a:o?}{fd:T!}{x:Str}{sp:Sp}{s₁:u?}{vs:List l?}{ns:List Int}{tabs:List (o?×o?)}
  (KX:K.In s₁.heap) (hns:s₁.heap.Ns G? mg) (hb:s₁.heap.Ns builtinsNs mb) (hbb:∀x:Str,x≠"__name__"->mb x=J! x) (hlim:s₁.heap.NoLimit) (hbm:BMain mg s₁.heap) (hT:TabsAt tabs s₁.heap) (hK:noTabs K=true) (hg:s₁.gens=#[])
  (ha:s₁.heap.get? a=j? { cls:=.type "list",data:=.seq vs.toArray }) (hi:IntsAre vs ns) (hl:ns.length<=K?) (hr:eH k callerA)
  (F:∀base:Q?,K.In base->base.Ns G? mg->BMain mg base->iP P w K mg base CX k fa fd [x] sp) (hbind:∀(s:u?) (u:l?),BindsTo s fd ⟨[u],[]⟩ [(x,u)])
  (K4:∀H:Hp,aU K H a (ns.map V.int)->(∀q∈tabs,H q.2=j? (.zU #[]))->sp [.ref a] H (λv _=>v=.bl true) λ_ _ _=>False)
  (hCX:∀H e s',CX [] H s₁ (λ_ _ _=>False) e s'->False):
  codeAny (T? P w) callerA (.call (.ref fa) ⟨[.ref a],[]⟩) (λr s'=>r=.ok (.ret (.bool true))/\OldK s₁.heap s'.heap/\s'.os=s₁.os/\AllBare s'.gens) s₁:=by
 have rv:=Dc hi;have aag:=hi.length;have Tp:∀b o,K.lookup b=j? o->b ∉ tabs.map (·.2):=λb o e hm=>by
  obtain⟨q,hq,rfl⟩:=List.mem_map.mp hm;have e1:=(hT q hq).2;rw[KX _ _ e] at e1;cases e1;have h2:=List.all_eq_true.mp hK (_,_) (mem_of_lookupK e);exact W3 (show false=true from h2) E?
 have VO:a ∉ tabs.map (·.2):=λhm=>by
  obtain⟨q,hq,e⟩:=List.mem_map.mp hm;have e1:=(hT q hq).2;rw[show q.2=a from e,ha] at e1
  cases e1
 have core:∀H:Hp,(∀b,H b=q?\/(b=a/\∃o xs,H b=j? (.OS o (.lst xs)))\/(b∈tabs.map (·.2)/\H b=j? (.zU #[])))->(∀q∈tabs,H q.2=j? (.zU #[]))->aU K H a (ns.map V.int)->yc P w H s₁.heap->(H a≠q?->K.lookup a=q?)->
   codeAny (T? P w) callerA (.call (.ref fa) ⟨[.ref a],[]⟩) (λr s'=>r=.ok (.ret (.bool true))/\OldK s₁.heap s'.heap/\s'.os=s₁.os/\AllBare s'.gens) s₁:=by
  intro H hO hTb hS hok hKa;have EA:∀ {b:o?} {o:Obj},s₁.heap.get? b=j? o->H b=q?->(B6 s₁.heap H).get? b=j? o:=λe n=>Mf e n
  have Vj:∀ {b:o?} {o:Obj},s₁.heap.get? b=j? o->o.cls≠.type "list"->o.cls≠.none->H b=q?:=λ{b o} e d1 d2=>by
   rcases hO b with z|⟨z,_⟩|⟨z,_⟩
   ·exact z
   ·rw[z,ha] at e;cases e;exact W3 rfl d1
   ·obtain⟨q,hq,rfl⟩:=List.mem_map.mp z
    rw[(hT q hq).2] at e;cases e;exact W3 rfl d2
  have noD:∀ {b:o?} {o:Obj} {es:Array DictEntry} {ep:Nat},s₁.heap.get? b=j? o->o.data=.dict es ep->H b=q?:=λ{b o es ep} e d=>by
   rcases hO b with z|⟨z,_⟩|⟨z,_⟩
   ·exact z
   ·rw[z,ha] at e;cases e;cases d
   ·obtain⟨q,hq,rfl⟩:=List.mem_map.mp z
    rw[(hT q hq).2] at e;cases e;cases d
  have Xx:∀ {b:o?} {m:Str->Option l?},s₁.heap.Ns b m->(B6 s₁.heap H).Ns b m:=λ{b m} ⟨o,es,ep,e,d,r⟩=>⟨o,es,ep,EA e (noD e d),d,r⟩
  have hKb:K.In (B6 s₁.heap H):=λb o e=>EA (KX b o e) (by
   rcases hO b with z|⟨z,o',xs,z2⟩|⟨z,_⟩
   ·exact z
   ·subst z
    rw[hKa (by rw[z2];simp)] at e;cases e
   ·exact W3 z (Tp b o e))
  have hBM:BMain mg (B6 s₁.heap H):=by
   obtain⟨bm,ob,b1,b2,b3,b4,b5,b6⟩:=hbm;exact⟨bm,ob,b1,b2,EA b3 (Vj b3 (by rw[b4];decide) (by rw[b4];decide)),b4,b5,b6⟩
  have hM:Mod K mg (B6 s₁.heap H):=⟨hKb,Xx hns,⟨mb,Xx hb,hbb⟩,let ⟨mc,h1,h2⟩:=hlim;⟨mc,Xx h1,h2⟩⟩
  have e0:D6 P w K mg (B6 s₁.heap H) callerA [] s₁ H:=⟨rfl,hM,λb o e=>Pe e,Nat.le_of_eq (KU _ _),trivial,λb hb=>W3 (show b∈([]:List o?) from hb) (by simp),hok,.of_eq hg⟩
  refine codeAny_mono ((F _ hKb (Xx hns) hBM).run callerA [] s₁ H ⟨[.ref a],[]⟩ [.ref a] [.ref a] _ _ hr e0 (hbind s₁ (.ref a)) (.cons rfl .nil) (K4 H hS hTb)) λr s' h=>?_
  cases r with
  | error e=>exact(hCX H e s' h).elim
  | ok fl=>
   cases fl with
   | next=>exact Q! h
   | brk=>exact Q! h
   | cont=>exact Q! h
   | ret u=>
    obtain⟨v,H',os,bare,un,VP,r',q⟩:=h;have q':v=.bl true:=q;subst q';obtain rfl:u=Value.bool true:=r'
    have old:∀b o,s₁.heap.get? b=j? o->s'.heap.get? b=j? o\/(isCodeTable s₁.heap b/\o=tabObj #[]/\∃ps,s'.heap.get? b=j? (tabObj ps)):=λb o e=>by
     rcases hO b with z|⟨z,ob,xs,z2⟩|⟨z,z2⟩
     ·exact .inl (un.keep b o e z (by intro y;exact W3 (show b∈([]:List o?) from y) (by simp)) (by simp))
     ·have z3:=un.DU b ob _ z2
      obtain⟨e1,_⟩:=hok b _ z2;obtain⟨e2,_⟩:=VP b _ z3;rw[e] at e1;cases e1;exact .inl e2
     ·obtain⟨q,hq,rfl⟩:=List.mem_map.mp z
      obtain⟨m,z3⟩:=un.DV _ _ z2;have e1:=(hT q hq).2;rw[e] at e1;exact .inr ⟨((hT q hq).1.tab (hT q hq).2).isCodeTable,N? e1,_,VP _ _ z3⟩
    refine⟨rfl,⟨λb o e=>?_,λb o e=>?_⟩,os,bare⟩
    ·rcases old b o e with z|⟨ht,rfl,ps,hP⟩
     ·exact .inl z
     ·exact .inr (.inl ⟨ht,rfl,#[],ps,rfl,by rw[Array.empty_append];exact hP⟩)
    ·rcases old b o e with z|⟨_,_,ps,hP⟩
     ·exact⟨_,z⟩
     ·exact⟨_,hP⟩
 have tok:∀(H:Hp) (q:o?×o?),q∈tabs->lI P w H s₁.heap q.2 (.zU #[]):=λH q hq=>(hT q hq).2
 cases hk:K.lookup a with
 | some o=>
  have e:=KX a o hk;rw[ha] at e;cases e;refine core (λb=>if b∈tabs.map (·.2) then j? (.zU #[]) else q?) (λb=>?_) (λq hq=>Wx (List.mem_map_of_mem hq)) (.inr ⟨_,vs.toArray,_,hk,rfl,rfl,rfl,by rw[Yu,aag];exact hl,by simpa using rv⟩) (λb u z=>?_) (λz=>W3 (Ww VO) z)
  ·by_cases hb:b∈tabs.map (·.2)
   ·exact .inr (.inr ⟨hb,Wx hb⟩)
   ·exact .inl (Ww hb)
  ·by_cases hb:b∈tabs.map (·.2)
   ·have z':=(Wx hb).symm.trans z
    cases z';obtain⟨q,hq,rfl⟩:=List.mem_map.mp hb;exact tok _ q hq
   ·have z':=(Ww hb).symm.trans z
    cases z'
 | none=>
  refine core (λb=>if b∈tabs.map (·.2) then j? (.zU #[]) else if b=a then j? (.OS { cls:=.type "list",data:=.seq vs.toArray } (.lst (ns.map V.int))) else q?) (λb=>?_) (λq hq=>Wx (List.mem_map_of_mem hq)) (.inl (.inr ⟨{ cls:=.type "list",data:=.seq vs.toArray },(Ww VO).trans (Wx rfl)⟩)) (λb u z=>?_) λ_=>hk
  ·by_cases hb:b∈tabs.map (·.2)
   ·exact .inr (.inr ⟨hb,Wx hb⟩)
   ·by_cases hb2:b=a
    ·exact .inr (.inl ⟨hb2,_,_,(Ww hb).trans (Wx hb2)⟩)
    ·exact .inl ((Ww hb).trans (Ww hb2))
  ·by_cases hb:b∈tabs.map (·.2)
   ·have z':=(Wx hb).symm.trans z
    cases z';obtain⟨q,hq,rfl⟩:=List.mem_map.mp hb;exact tok _ q hq
   ·by_cases hb2:b=a
    ·have z':=((Ww hb).trans (Wx hb2)).symm.trans z
     cases z';subst hb2;exact⟨ha,by rw[Yc];exact hl,vs,_,rv,ha⟩
    ·have z':=((Ww hb).trans (Ww hb2)).symm.trans z
     cases z'
theorem NR {l:PySem.W.OpenLaw}{n k:Nat}{q:F?}{loose:List Str}{XP:(Str->Option l?)->Q?->Prop}{YP:H?->Q?->Prop}{d:DefRec}{K:Params->bK}{CX:H?->K2}{sp:H?->Sp}{x:Str}{tabs:List (o?×o?)}
  (hn:l.most=j? n) (hn2:n<=K?) (hdf:d.params.defaults=[]) (hr:eH k callerA)
  (hY:∀(w:H?) (h:Q?),YP w h->(K w.params).In h/\TabsAt tabs h) (hK:∀w:H?,noTabs (K w.params)=true)
  (F:∀(w:H?) (mg:Str->Option l?) (fa:o?) (h:Q?),(K w.params).In h->h.Ns G? mg->mg d.name=j? (.ref fa)->
   ∃fd:T!,(∀(s:u?) (u:l?),BindsTo s fd ⟨[u],[]⟩ [(x,u)])/\
    ∀base:Q?,(K w.params).In base->base.Ns G? mg->BMain mg base->iP l.prog w (K w.params) mg base (CX w) k fa fd [x] (sp w))
  (K4:∀(w:H?) (H:Hp) (a:o?) (ns:List Int),ns.length<=n->aU (K w.params) H a (ns.map V.int)->(∀q∈tabs,H q.2=j? (.zU #[]))->sp w [.ref a] H (λv _=>v=.bl true) λ_ _ _=>False)
  (hCX:∀(w:H?) (H:Hp) (s:u?) (e:l?) (s':u?),CX w [] H s (λ_ _ _=>False) e s'->False):
  PySem.W.WalkO q loose XP YP l.row.toRowW d [] (λf vs=>PySem.call f vs):=by
 refine Att.FW hn hdf λw s₀ s₁ mg mb fa o pm cd doc a vs ns G Y ho hd hcd hmg hobj hints hlen hg=>?_
 obtain⟨KX,hT⟩:=hY w _ Y;obtain⟨fd,hb,hF⟩:=F w mg fa _ KX G.T.g hmg;have hbm:BMain mg s₁.heap:=by
  obtain⟨bm,ob,b1,b2,b3,b4,b5,b6⟩:=G.T.bmain;exact⟨bm,ob,b1,b2,b3,b4,b5,b6⟩
 exact Lq KX G.T.g G.T.b G.T.builtins G.T.nolimit hbm hT (hK w) hg hobj hints (Ys hlen hn2) hr hF hb (λH hS hTb=>K4 w H a ns hlen hS hTb) λH e s'=>hCX w H s₁ e s'
section
variable {P:F?} {w:H?} {K:bK} {mg:Str->Option l?} {base:Q?}
theorem Fd.okC {x qual:Str}{st:R?}{f c:o?}{fd:T!}{N ps:List Str}{k:Nat}{sp:Sp}(F:Fd K x qual st f fd)(hc:fd.code=.ref c)(S:aB N ps (aj st))(len:∀vs H Q E,sp vs H Q E->vs.length=ps.length)
  (hbody:∀(A:C!) (outer:List Env) (s:u?) (H:Hp) (vs:List V) (Q:VK) (E:XK),eH k (A.deeper (envOfC qual (aj st) s.heap.objs.size f (.ref c)))->sp vs H Q E->
   ∃t,FH (B8 z4 P w K mg base N qual (aj st) f (.ref c) A outer s H E).Pj (bY st) t/\t { nx:=λ_ H'=>Q .d8 H',rt:=Q } (start N vs) H):iP P w K mg base z4 (k+1) f fd ps sp:=by
 obtain⟨oc,od,kV,doc,pm,an,cdv,ct,osl,rfl,lk,hcd⟩:=F.ex;have e:cdv=.ref c:=hc;subst e;refine Rn lk hcd S len λA outer s H vs Q E hr K4=>?_
 obtain⟨t,h,q⟩:=hbody A outer s H vs Q E hr K4;exact⟨t,h.Pj,q⟩
structure NS (K:bK)(mg:Str->Option l?)(x:Str)(st:R?)(ps:List Str)(c:o?):Prop where
 ex:∃f fd,Fd K x x st f fd/\Binds K fd ps []/\mg x=j? (.ref f)/\fd.code=.ref c
theorem NS.ok {x:Str}{st:R?}{N ps:List Str}{k:Nat}{c:o?}{sp:Sp}(F:NS K mg x st ps c)(S:aB N ps (aj st))(len:∀vs H Q E,sp vs H Q E->vs.length=ps.length)
  (hbody:∀(f:o?) (A:C!) (outer:List Env) (s:u?) (H:Hp) (vs:List V) (Q:VK) (E:XK),eH k (A.deeper (envOfC x (aj st) s.heap.objs.size f (.ref c)))->sp vs H Q E->
   ∃t,FH (B8 z4 P w K mg base N x (aj st) f (.ref c) A outer s H E).Pj (bY st) t/\t { nx:=λ_ H'=>Q .d8 H',rt:=Q } (start N vs) H):b8 P w K mg base (k+1) x ps sp:=by
 obtain⟨f,fd,G,B,M,hc⟩:=F.ex;exact⟨f,fd,G.okC hc S len (hbody f),B,G.kp,M⟩
theorem QI {x:Str}{st:R?}{ps:List Str}{f c0:o?}{oc:l?}{od an:Option o?}{osl:Array (Option l?)}{kV doc pm cdv ct:l?}{h:Q?}(X:K.In h)(G:h.Ns G? mg)
  (a:O? K G? x=j? (j? (.ref f))) (l:K.lookup f=j? ⟨oc,od,.func (Z? x x (cV st) (bY st) (aj st) .none kV doc pm an cdv ct),osl⟩) (c:U! K cdv x=true) (k:E! K (.ref f)=true)
  (hb:∀(kV doc pm:l?) (an:Option o?) (cdv ct:l?) (us:List l?),us.length=ps.length->bindArgs (Z? x x (cV st) (bY st) (aj st) .none kV doc pm an cdv ct) ⟨us,[]⟩=pure (ps.zip us)) (hc:cdv=.ref c0):NS K mg x st ps c0:=
 ⟨f,_,p9 l c k,(p9 l c k).binds hb,PySem.W.mg_of X G a,hc⟩
theorem EB(ha:a=.int i t)(hb:b=.int j u):∀(l:List l?),TriplesOk l->TriplesOk (l++[a,b,c]):=by
 subst ha hb;intro l h;fun_induction TriplesOk l with
 | case1=>exact trivial
 | case2 _ _ _ _ _ rest ih=>exact ih h
 | case3=>exact h.elim
theorem IP{a b:Nat}(hne:¬ (a=pos.line/\b=pos.col)):∀(l:List l?),TriplesOk l->codeAmong pos l=q?->codeAmong pos (l++[rawInt a,rawInt b,c])=q?:=by
 intro l h hn;fun_induction TriplesOk l with
 | case1=>
  show(if ((a:Int) == pos.line && (b:Int) == pos.col)=true then j? c else q?)=q?
  rw[Ww];intro z;rw[V?,beq_iff_eq,beq_iff_eq] at z;exact hne ⟨by omega,by omega⟩
 | case2 i t j u x rest ih=>
  have hn':(if ((i:Int) == pos.line && j == pos.col)=true then j? x else codeAmong pos rest)=q?:=hn
  show(if ((i:Int) == pos.line && j == pos.col)=true then j? x else codeAmong pos (rest++[rawInt a,rawInt b,c]))=q?
  by_cases z:((i:Int) == pos.line && j == pos.col)=true
  ·rw[Wx z] at hn';cases hn'
  ·rw[Ww z] at hn' ⊢
   exact ih h hn'
 | case3=>exact h.elim
end
end L2
namespace L2
open PySem PySem.Spec PySem.W PyProof.Rows Alg
theorem IQ:∀(l:List l?),TriplesOk l->codeAmong pos l=j? x->codeAmong pos (l++m)=j? x:=by
 intro l h hx;fun_induction TriplesOk l with
 | case1=>cases hx
 | case2 i t j u y rest ih=>
  have hx':(if ((i:Int) == pos.line && j == pos.col)=true then j? y else codeAmong pos rest)=j? x:=hx
  show(if ((i:Int) == pos.line && j == pos.col)=true then j? y else codeAmong pos (rest++m))=j? x
  by_cases z:((i:Int) == pos.line && j == pos.col)=true
  ·rw[Wx z] at hx' ⊢;exact hx'
  ·rw[Ww z] at hx' ⊢;exact ih h hx'
 | case3=>exact h.elim
theorem Lr:∀(l:List l?),TriplesOk l->codeAmong pos l=q?->codeAmong pos (l++[rawInt pos.line,rawInt pos.col,c])=j? c:=by
 intro l h hn;fun_induction TriplesOk l with
 | case1=>
  show(if ((pos.line:Int) == pos.line && (pos.col:Int) == pos.col)=true then j? c else q?)=j? c
  rw[Wx];rw[V?,beq_iff_eq,beq_iff_eq];exact⟨rfl,rfl⟩
 | case2 i t j u x rest ih=>
  have hn':(if ((i:Int) == pos.line && j == pos.col)=true then j? x else codeAmong pos rest)=q?:=hn
  show(if ((i:Int) == pos.line && j == pos.col)=true then j? x else codeAmong pos (rest++[rawInt pos.line,rawInt pos.col,c]))=j? c
  by_cases z:((i:Int) == pos.line && j == pos.col)=true
  ·rw[Wx z] at hn';cases hn'
  ·rw[Ww z] at hn' ⊢
   exact ih h hn'
 | case3=>exact h.elim
def qi (qual:Str)(Pp:o?)(H:Hp):Prop:=∃ps:Array l?,H Pp=j? (.zU ps)/\TriplesOk ps.toList/\∀pos:Pos,codeAmong pos ps.toList=q?\/∃c,codeAmong pos ps.toList=j? (.ref c)/\H c=j? (.ext (Ll c qual))
theorem qi.nil(h:H Pp=j? (.zU #[])):qi qual Pp H:=⟨#[],h,trivial,λ_=>.inl rfl⟩
theorem qi.same(h:qi qual Pp H)(g:ay H H'):qi qual Pp H':=by
 obtain⟨ps,h1,h2,h3⟩:=h;exact⟨ps,g _ _ h1,h2,λpos=>(h3 pos).imp id λ⟨c,a,b⟩=>⟨c,a,g _ _ b⟩⟩
theorem Ls(tq:qi L.qual Pp H)(q:∀f c H',bO H Pp H'->qi L.qual Pp H'->L.here f c H'->Q (.ref f) H'):GC Pp pos L σ H Q:=by
 obtain⟨ps,h1,h2,h3⟩:=tq;refine⟨ps,h1,h2,?_⟩
 rcases h3 pos with h|⟨c,h,hc⟩
 ·refine .inl ⟨h,λf c nf nc hfc=>?_⟩
  have Z_:Pp≠f:=aL h1 nf;have ZZ:Pp≠c:=aL h1 nc;have nw:bO H Pp (sY H Pp f c ps pos L.qual L.params L.body L.scope []):=λb o hb e=>by
   unfold sY;rw[aH (aL e nf),aH (aL e nc),aH hb];exact e
  have ef:(sY H Pp f c ps pos L.qual L.params L.body L.scope []) f=j? (.ext (IJ f c L.qual L.params L.body L.scope [])):=aq;have ec:(sY H Pp f c ps pos L.qual L.params L.body L.scope []) c=j? (.ext (Ll c L.qual)):=by
   unfold sY;rw[aH (Ne.symm hfc),aq]
  have eP:(sY H Pp f c ps pos L.qual L.params L.body L.scope []) Pp=j? (.zU (ps++#[rawInt pos.line,rawInt pos.col,.ref c])):=by
   unfold sY;rw[aH Z_,aH ZZ,aq]
  have e:(ps++#[rawInt pos.line,rawInt pos.col,.ref c]).toList=ps.toList++[rawInt pos.line,rawInt pos.col,.ref c]:=by simp
  refine q f c _ nw ⟨_,eP,by rw[e];exact EB rfl rfl _ h2,λp2=>?_⟩ ⟨ef,ec⟩
  rw[e];rcases h3 p2 with h'|⟨c2,h',hc2⟩
  ·by_cases z:pos.line=p2.line/\pos.col=p2.col
   ·refine .inr ⟨c,?_,ec⟩
    rw[z.1,z.2];exact Lr _ h2 h'
   ·exact .inl (IP z _ h2 h')
  ·exact .inr ⟨c2,IQ _ h2 h',nw _ _ (λz=>by rw[z,h1] at hc2;cases hc2) hc2⟩
 ·refine .inr ⟨c,h,hc,λf nf=>?_⟩
  have g:=av nf (.ext (IJ f c L.qual L.params L.body L.scope []));exact q f c _ (bO.of g) (qi.same ⟨ps,h1,h2,h3⟩ g) ⟨aq,g _ _ hc⟩
end L2
namespace K20
open PySem L2 Alg
variable {P:F?} {w:H?} {K:bK} {mg:Str->Option l?} {base:Q?}
theorem Yk_(l:List Str)(h:Yq l:=by decide +kernel):Yq l:=h
abbrev Lq0:List Str:=["_law_script","_law_tower_here","_law_parts","_law_wides","_law_bag_here","_law_some","_law_product_here","_law_handed","_law_turn","_law_found","_law_total","_law_part_here","_law_often","_law_k","_law_known","_law_one"]
abbrev Lq1:List Str:=["_law_bag_here","_law_tower_here","_law_wides","_law_room","_law_some","_law_product_here","_law_k","_law_degree","_law_often","_law_one","_law_j"]
abbrev VQ:List Str:=["tower","f","p","each","degree","units","raised","step","power","rows","place","unit","unit_raised","term"]
abbrev Lq3:List Str:=["_law_tower_here","_law_f","_law_g","_law_found","_law_i","_law_one","_law_j","_law_other"]
abbrev Lq4:List Str:=["_law_bag_here","_law_tower_here","_law_wides","_law_many","_law_turn","_law_part_here"]
abbrev Lq5:List Str:=["self","u","v","floor","product","at","one","place","other"]
abbrev UC:List Str:=["_law_bag_here","_law_tower_here","_law_wides","_law_many"]
abbrev Lq7:List Str:=["self","terms","floor","width","told","lead","at","place"]
abbrev Xy:List Str:=["rows","p","many","width","left","place","at","lead_row"]
abbrev Lq9:List Str:=["_law_j","_law_bag_here","_law_tower_here","_law_wides"]
abbrev VR:List Str:=["_law_k","_law_bag_here","_law_tower_here","_law_wides"]
abbrev QJ:List Str:=["_law_tower_here","_law_found","_law_pair","_law_order"]
abbrev VS:List Str:=["tower","f","g","product","at","one","place","other"]
abbrev NT:List Str:=["_law_bag_here","_law_tower_here","_law_wides"]
abbrev QK:List Str:=["tower","f","g","many","ahead","behind"]
abbrev GD:List Str:=["_law_bag_here","_law_p","_law_wides"]
abbrev Lu:List Str:=["_law_tower_here","_law_f","_law_g"]
abbrev NU:List Str:=["_law_tower_here","_law_found"]
abbrev Lv:List Str:=["_law_part_here","_law_often"]
abbrev IS:List Str:=["row","lead_row","place","p"]
abbrev IT:List Str:=["_law_bag_here","_law_many"]
abbrev Tq:List Str:=["one","other","factor","p"]
abbrev NV:List Str:=["_law_script","_law_at"]
abbrev IU:List Str:=["self","floor","part"]
abbrev Lw:List Str:=["one","other","self"]
abbrev Lx:List Str:=["tower","g","n","f"]
abbrev GF:List Str:=["self","p","parts"]
abbrev yE:List Str:=["tower","f","many"]
abbrev NW:List Str:=["row","place","p"]
abbrev NX:List Str:=["tower","figures"]
abbrev IV:List Str:=["storey","u","n"]
abbrev qR:List Str:=["self","figures"]
abbrev NY:List Str:=["_law_bag_here"]
abbrev Ly:List Str:=["place","tower"]
abbrev AE:List Str:=["tower","terms"]
abbrev AF:List Str:=["tower","u","f"]
abbrev dM:List Str:=["tower","f","g"]
abbrev NZ:List Str:=["rows","place"]
abbrev Lz:List Str:=["self","terms"]
abbrev rR:List Str:=["self","thing"]
abbrev nZ:List Str:=["self","u","n"]
abbrev cN:List Str:=["self","u","v"]
abbrev wV:List Str:=["top","thing"]
abbrev IW:List Str:=["_law_thing"]
abbrev dR:List Str:=["tower","f"]
abbrev IX:List Str:=["self","p"]
abbrev qS:List Str:=["self","k"]
abbrev cI:List Str:=["self","u"]
abbrev pI:List Str:=["thing"]
abbrev cF:List Str:=["self"]
abbrev Rq(a:o?):Option V:=j? (.ref a)
abbrev Iq(i:Int):Option V:=j? (.int i)
structure qT (a0 a1 a2:Prop):Prop where
 mk::(h0:a0) (h1:a1) (h2:a2)
structure LA (a0 a1 a2 a3:Prop):Prop where
 mk::(h0:a0) (h1:a1) (h2:a2) (h3:a3)
structure Tr (a0 a1 a2 a3 a4:Prop):Prop where
 mk::(h0:a0) (h1:a1) (h2:a2) (h3:a3) (h4:a4)
structure A6q (a0 a1 a2 a3 a4 a5:Prop):Prop where
 mk::(h0:a0) (h1:a1) (h2:a2) (h3:a3) (h4:a4) (h5:a5)
structure A7q (a0 a1 a2 a3 a4 a5 a6:Prop):Prop where
 mk::(h0:a0) (h1:a1) (h2:a2) (h3:a3) (h4:a4) (h5:a5) (h6:a6)
structure A8q (a0 a1 a2 a3 a4 a5 a6 a7:Prop):Prop where
 mk::(h0:a0) (h1:a1) (h2:a2) (h3:a3) (h4:a4) (h5:a5) (h6:a6) (h7:a7)
structure A9q (a0 a1 a2 a3 a4 a5 a6 a7 a8:Prop):Prop where
 mk::(h0:a0) (h1:a1) (h2:a2) (h3:a3) (h4:a4) (h5:a5) (h6:a6) (h7:a7) (h8:a8)
structure aai (a0 a1 a2 a3 a4 a5 a6 a7 a8 a9 a10 a11:Prop):Prop where
 mk::(h0:a0) (h1:a1) (h2:a2) (h3:a3) (h4:a4) (h5:a5) (h6:a6) (h7:a7) (h8:a8) (h9:a9) (h10:a10) (h11:a11)
inductive GG {T0:Sort _}{T1:Sort _}(p:T0->T1->Prop):Prop where
 | mk (x0:T0) (x1:T1) (h:p x0 x1)
inductive VT {T0:Sort _}{T1:Sort _}{T2:Sort _}(p:T0->T1->T2->Prop):Prop where
 | mk (x0:T0) (x1:T1) (x2:T2) (h:p x0 x1 x2)
inductive Xz {T0:Sort _}{T1:Sort _}{T2:Sort _}{T3:Sort _}(p:T0->T1->T2->T3->Prop):Prop where
 | mk (x0:T0) (x1:T1) (x2:T2) (x3:T3) (h:p x0 x1 x2 x3)
inductive Tt {T0:Sort _}{T1:Sort _}{T2:Sort _}{T3:Sort _}{T4:Sort _}(p:T0->T1->T2->T3->T4->Prop):Prop where
 | mk (x0:T0) (x1:T1) (x2:T2) (x3:T3) (x4:T4) (h:p x0 x1 x2 x3 x4)
inductive E6q {T0:Sort _}{T1:Sort _}{T2:Sort _}{T3:Sort _}{T4:Sort _}{T5:Sort _}(p:T0->T1->T2->T3->T4->T5->Prop):Prop where
 | mk (x0:T0) (x1:T1) (x2:T2) (x3:T3) (x4:T4) (x5:T5) (h:p x0 x1 x2 x3 x4 x5)
inductive E7q {T0:Sort _}{T1:Sort _}{T2:Sort _}{T3:Sort _}{T4:Sort _}{T5:Sort _}{T6:Sort _}(p:T0->T1->T2->T3->T4->T5->T6->Prop):Prop where
 | mk (x0:T0) (x1:T1) (x2:T2) (x3:T3) (x4:T4) (x5:T5) (x6:T6) (h:p x0 x1 x2 x3 x4 x5 x6)
inductive E8q {T0:Sort _}{T1:Sort _}{T2:Sort _}{T3:Sort _}{T4:Sort _}{T5:Sort _}{T6:Sort _}{T7:Sort _}(p:T0->T1->T2->T3->T4->T5->T6->T7->Prop):Prop where
 | mk (x0:T0) (x1:T1) (x2:T2) (x3:T3) (x4:T4) (x5:T5) (x6:T6) (x7:T7) (h:p x0 x1 x2 x3 x4 x5 x6 x7)
inductive aak {T0:Sort _}{T1:Sort _}{T2:Sort _}{T3:Sort _}{T4:Sort _}{T5:Sort _}{T6:Sort _}{T7:Sort _}{T8:Sort _}{T9:Sort _}(p:T0->T1->T2->T3->T4->T5->T6->T7->T8->T9->Prop):Prop where
 | mk (x0:T0) (x1:T1) (x2:T2) (x3:T3) (x4:T4) (x5:T5) (x6:T6) (x7:T7) (x8:T8) (x9:T9) (h:p x0 x1 x2 x3 x4 x5 x6 x7 x8 x9)
local macro_rules | `(tactic| walk_at "sc") => `(tactic| exact⟨rfl, rfl, rfl, by decide +kernel, rfl, by decide +kernel, by decide +kernel⟩)
local macro_rules | `(tactic| walk_at "rd") => `(tactic| repeat ((fail_if_success with_reducible refine wB ?_ ?_); first|refine⟨_, rfl, ?_⟩|refine⟨_, _, rfl, rfl, ?_⟩|refine⟨_, _, rfl, rfl, show(_ : Int) ≠ 0 by decide, ?_⟩|refine⟨_, _, rfl, rfl, show u_ _ _ from ue (by decide) (by decide), ?_⟩|refine⟨_, _, rfl, rfl, show u_ _ _ from Eb (by decide) (by decide), ?_⟩|refine⟨_, _, rfl, rfl, show yi _ _ from(Bd.small (by decide) (by decide)).dv (by decide), ?_⟩|refine⟨_, _, rfl, rfl, show Sa _ _ from⟨by decide, by decide, by decide⟩, ?_⟩|refine⟨show(_ : Int) ≠ 0 by decide, ?_⟩|refine⟨show u_ _ _ from ue (by decide) (by decide), ?_⟩|refine⟨show u_ _ _ from Eb (by decide) (by decide), ?_⟩|refine⟨show yi _ _ from(Bd.small (by decide) (by decide)).dv (by decide), ?_⟩|refine⟨show Sa _ _ from⟨by decide, by decide, by decide⟩, ?_⟩|refine⟨show Sd _ _ = true from rfl, ?_⟩|refine⟨show isPlain _ = true from rfl, ?_⟩|refine⟨show List.length _ <= K? from aZ rfl, ?_⟩))
def top (i:Nat):R?:=PySem.Challenge.pw_branchdepth_k20_parts_of_a_polynomial.main.body.getD i (.Pass ⟨0,0,0,0⟩)
abbrev rS:R?:=top 1
theorem LB:aB pI pI (aj rS):=by walk_at "sc"
abbrev i7:R?:=top 3
theorem qN:aB ["row","lead_row","place","p","factor"] IS (aj i7):=by walk_at "sc"
abbrev g_:R?:=top 4
theorem jG:aB ["row","place","p","back"] NW (aj g_):=by walk_at "sc"
abbrev qj:R?:=top 5
theorem n_:aB ["rows","place","at","row"] NZ (aj qj):=by walk_at "sc"
abbrev kM:R?:=top 6
theorem iO:aB Xy ["rows","p"] (aj kM):=by walk_at "sc"
abbrev qk:R?:=top 9
theorem GH:aB pI pI (aj qk):=by walk_at "sc"
abbrev ql:R?:=top 10
theorem GI:aB ["k"] ["k"] (aj ql):=by walk_at "sc"
abbrev i8:R?:=top 11
theorem h_:aB ["k","n","told","turn"] ["k","n"] (aj i8):=by walk_at "sc"
abbrev fN:R?:=top 13
theorem iC:aB ["tower","terms","many"] AE (aj fN):=by walk_at "sc"
abbrev fu:R?:=top 14
theorem jW:aB QK dM (aj fu):=by walk_at "sc"
abbrev gR:R?:=top 15
theorem AG:aB AF AF (aj gR):=by walk_at "sc"
abbrev i9:R?:=top 16
theorem fL:aB VS dM (aj i9):=by walk_at "sc"
abbrev lR:R?:=top 17
theorem eB:aB ["tower","f","g","rest","quotient","degree","lead","at","place"] dM (aj lR):=by walk_at "sc"
abbrev qm:R?:=top 18
theorem GJ:aB dR dR (aj qm):=by walk_at "sc"
abbrev nE:R?:=top 19
theorem lT:aB ["tower","f","g","back","quotient","rest"] dM (aj nE):=by walk_at "sc"
abbrev jX:R?:=top 20
theorem i_:aB ["tower","f","g","one","other"] dM (aj jX):=by walk_at "sc"
abbrev jc:R?:=top 21
theorem qO:aB ["tower","f","terms"] dR (aj jc):=by walk_at "sc"
abbrev qo:R?:=top 22
theorem fW:aB ["tower","g","n","f","told","square","left"] Lx (aj qo):=by walk_at "sc"
abbrev nG:R?:=top 23
theorem EC:aB ["tower"] ["tower"] (aj nG):=by walk_at "sc"
abbrev fz:R?:=top 24
theorem gJ:aB ["tower","f","many","told","turn"] yE (aj fz):=by walk_at "sc"
abbrev fX:R?:=top 25
theorem ED:aB ["n"] ["n"] (aj fX):=by walk_at "sc"
abbrev qp:R?:=top 26
theorem kO:aB ["tower","f","degree","powers","r","ahead"] dR (aj qp):=by walk_at "sc"
abbrev cG:R?:=top 27
theorem bC:aB VQ dR (aj cG):=by walk_at "sc"
abbrev mK:R?:=top 28
theorem ia:aB ["tower","f","many","told","term"] yE (aj mK):=by walk_at "sc"
abbrev fO:R?:=top 29
theorem iD:aB ["tower","figures","each","terms"] NX (aj fO):=by walk_at "sc"
abbrev rT:R?:=top 30
theorem gq:aB ["tower","f","g","rest","told","k","number","part"] dM (aj rT):=by walk_at "sc"
abbrev je:R?:=top 31
theorem cH:aB ["tower","f","told","g","finer","part"] dR (aj je):=by walk_at "sc"
abbrev ie:R?:=top 32
theorem pJ:aB ["tower","f","n"] dR (aj ie):=by walk_at "sc"
abbrev jI:R?:=top 33
theorem fP:aB ["tower","f","base","part"] dR (aj jI):=by walk_at "sc"
abbrev iE:R?:=top 34
theorem yr:aB ["tower","f","found"] dR (aj iE):=by walk_at "sc"
abbrev qu:R?:=top 40
theorem fY:aB ["storey","u","n","left","told","square"] IV (aj qu):=by walk_at "sc"
abbrev ig:R?:=top 46
theorem pK:aB ["top","thing","term"] wV (aj ig):=by walk_at "sc"
abbrev jf:R?:=top 47
theorem yF:aB wV wV (aj jf):=by walk_at "sc"
abbrev lU:R?:=top 48
theorem gS:aB ["p","parts","top","at","part"] ["p","parts"] (aj lU):=by walk_at "sc"
abbrev EE:R?:=top 51
theorem rV:aB ["_law_script","_law_at","_law_cell","_law_great"] NV (aj EE):=by walk_at "sc"
abbrev AH:R?:=top 52
theorem DA:aB ["_law_bag_here","_law_many","_law_digit"] IT (aj AH):=by walk_at "sc"
abbrev nH:R?:=top 53
theorem EF:aB GD GD (aj nH):=by walk_at "sc"
abbrev vE:R?:=top 54
theorem wW:aB Lq4 UC (aj vE):=by walk_at "sc"
abbrev wX:R?:=top 55
theorem cY:aB ["_law_bag_here","_law_p","_law_room","_law_wides","_law_parts","_law_tower_here","_law_k","_law_part_here"] NY (aj wX):=by walk_at "sc"
abbrev nI:R?:=top 56
theorem gv:aB Lq3 Lu (aj nI):=by walk_at "sc"
abbrev vF:R?:=top 57
theorem LC:aB IW IW (aj vF):=by walk_at "sc"
abbrev sU:R?:=top 58
theorem dP:aB Lq1 NT (aj sU):=by walk_at "sc"
abbrev fM:R?:=top 59
theorem mL:aB QJ NU (aj fM):=by walk_at "sc"
abbrev tW:R?:=top 60
theorem fZ:aB Lq0 ["_law_script"] (aj tW):=by walk_at "sc"
abbrev jY:R?:=inClass (top 41) 0
theorem AI:aB IX IX (aj jY):=by walk_at "sc"
abbrev fG:R?:=inClass (top 41) 1
theorem wY:aB cF cF (aj fG):=by walk_at "sc"
abbrev gT:R?:=inClass (top 41) 2
theorem AJ:aB cF cF (aj gT):=by walk_at "sc"
abbrev jg:R?:=inClass (top 41) 3
theorem Cb:aB cF cF (aj jg):=by walk_at "sc"
abbrev jh:R?:=inClass (top 41) 4
theorem yG:aB qS qS (aj jh):=by walk_at "sc"
abbrev gU:R?:=inClass (top 41) 5
theorem AK:aB cN cN (aj gU):=by walk_at "sc"
abbrev f_:R?:=inClass (top 41) 6
theorem yH:aB cN cN (aj f_):=by walk_at "sc"
abbrev gb:R?:=inClass (top 41) 7
theorem yI:aB cN cN (aj gb):=by walk_at "sc"
abbrev jZ:R?:=inClass (top 41) 8
theorem AL:aB cI cI (aj jZ):=by walk_at "sc"
abbrev ji:R?:=inClass (top 41) 9
theorem yJ:aB nZ nZ (aj ji):=by walk_at "sc"
abbrev dQ:R?:=inClass (top 41) 10
theorem sZ:aB cI cI (aj dQ):=by walk_at "sc"
abbrev eT:R?:=inClass (top 41) 11
theorem rW:aB rR rR (aj eT):=by walk_at "sc"
abbrev gw:R?:=inClass (top 41) 12
theorem vG:aB cI cI (aj gw):=by walk_at "sc"
abbrev gy:R?:=inClass (top 41) 13
theorem vH:aB qR qR (aj gy):=by walk_at "sc"
abbrev j_:R?:=inClass (top 42) 0
theorem AM:aB IU IU (aj j_):=by walk_at "sc"
abbrev jj:R?:=inClass (top 42) 1
theorem yK:aB cF cF (aj jj):=by walk_at "sc"
abbrev iu:R?:=inClass (top 42) 2
theorem wZ:aB cF cF (aj iu):=by walk_at "sc"
abbrev gW:R?:=inClass (top 42) 3
theorem AN:aB cF cF (aj gW):=by walk_at "sc"
abbrev lV:R?:=inClass (top 42) 4
theorem Cc:aB cF cF (aj lV):=by walk_at "sc"
abbrev jk:R?:=inClass (top 42) 6
theorem yL:aB qS qS (aj jk):=by walk_at "sc"
abbrev fH:R?:=inClass (top 42) 7
theorem w4:aB cI cI (aj fH):=by walk_at "sc"
abbrev gX:R?:=inClass (top 42) 8
theorem AO:aB cN cN (aj gX):=by walk_at "sc"
abbrev gc:R?:=inClass (top 42) 9
theorem yM:aB cN cN (aj gc):=by walk_at "sc"
abbrev gf:R?:=inClass (top 42) 10
theorem cZ:aB Lq5 cN (aj gf):=by walk_at "sc"
abbrev kh:R?:=inClass (top 42) 11
theorem b_:aB ["self","u","floor","rest_ahead","rest","factor_ahead","factor","quotient","next_rest","next_factor"] cI (aj kh):=by walk_at "sc"
abbrev jl:R?:=inClass (top 42) 12
theorem yO:aB nZ nZ (aj jl):=by walk_at "sc"
abbrev e_:R?:=inClass (top 42) 13
theorem cM:aB Lq7 Lz (aj e_):=by walk_at "sc"
abbrev fB:R?:=inClass (top 42) 14
theorem lJ:aB ["self","u","term"] cI (aj fB):=by walk_at "sc"
abbrev eU:R?:=inClass (top 42) 15
theorem kP:aB ["self","thing","term"] rR (aj eU):=by walk_at "sc"
abbrev gz:R?:=inClass (top 42) 16
theorem fQ:aB ["self","u","told","term"] cI (aj gz):=by walk_at "sc"
abbrev fc:R?:=inClass (top 42) 17
theorem nJ:aB ["self","figures","each"] qR (aj fc):=by walk_at "sc"
abbrev lW:R?:=inClass (top 49) 0
theorem Ce:aB GF GF (aj lW):=by walk_at "sc"
abbrev jm:R?:=inClass (top 49) 1
theorem yP:aB cF cF (aj jm):=by walk_at "sc"
abbrev lX:R?:=inClass (top 49) 2
theorem Ci:aB cF cF (aj lX):=by walk_at "sc"
abbrev nL:R?:=inClass (top 49) 3
theorem EG:aB cF cF (aj nL):=by walk_at "sc"
abbrev ki:R?:=inClass (top 49) 5
theorem AQ:aB qS qS (aj ki):=by walk_at "sc"
abbrev lY:R?:=inClass (top 49) 6
theorem Cj:aB cN cN (aj lY):=by walk_at "sc"
abbrev kj:R?:=inClass (top 49) 7
theorem AR:aB cN cN (aj kj):=by walk_at "sc"
abbrev ko:R?:=inClass (top 49) 8
theorem AS:aB cN cN (aj ko):=by walk_at "sc"
abbrev lZ:R?:=inClass (top 49) 9
theorem Ck:aB cI cI (aj lZ):=by walk_at "sc"
abbrev ku:R?:=inClass (top 49) 10
theorem AU:aB nZ nZ (aj ku):=by walk_at "sc"
abbrev fR:R?:=inClass (top 49) 11
theorem uD:aB cI cI (aj fR):=by walk_at "sc"
abbrev fC:R?:=inClass (top 49) 12
theorem s_:aB rR rR (aj fC):=by walk_at "sc"
abbrev iw:R?:=inClass (top 49) 13
theorem w5:aB cI cI (aj iw):=by walk_at "sc"
abbrev iy:R?:=inClass (top 49) 14
theorem w6:aB qR qR (aj iy):=by walk_at "sc"
structure c7 (mg:Str->Option l?):Prop where
 «abs»:mg "abs"=q?
 «all»:mg "all"=q?
 «bool»:mg "bool"=q?
 «enumerate»:mg "enumerate"=q?
 «int»:mg "int"=q?
 «isinstance»:mg "isinstance"=q?
 «len»:mg "len"=q?
 «list»:mg "list"=q?
 «max»:mg "max"=q?
 «min»:mg "min"=q?
 «range»:mg "range"=q?
 «sorted»:mg "sorted"=q?
 «tuple»:mg "tuple"=q?
 «zip»:mg "zip"=q?
section
variable {CG CS:o?}
theorem w_ (B:c7 mg)(F:bG K CG "degree" "Ground.degree" fG cF):jy P w K mg base 1 CG "degree" cF (P9 CG λ_=>1):=by
 refine F.ok wY (λvs H Q E h=>?_) (λfa cdv A outer s H vs Q E hr h=>?_)
 ·obtain⟨a,p,rfl,_⟩:=h;rfl
 obtain⟨a,p,rfl,⟨dx,ha⟩,q⟩:=h;refine⟨_,ao (aD au),?_⟩
 exact q
theorem AV (B:c7 mg)(F:bG K CG "zero" "Ground.zero" gT cF):jy P w K mg base 1 CG "zero" cF (P9 CG λ_=>0):=by
 refine F.ok AJ (λvs H Q E h=>?_) (λfa cdv A outer s H vs Q E hr h=>?_)
 ·obtain⟨a,p,rfl,_⟩:=h;rfl
 obtain⟨a,p,rfl,⟨dx,ha⟩,q⟩:=h;refine⟨_,ao (aD au),?_⟩
 exact q
theorem Cm (B:c7 mg)(F:bG K CG "one" "Ground.one" jg cF):jy P w K mg base 1 CG "one" cF (P9 CG λ_=>1):=by
 refine F.ok Cb (λvs H Q E h=>?_) (λfa cdv A outer s H vs Q E hr h=>?_)
 ·obtain⟨a,p,rfl,_⟩:=h;rfl
 obtain⟨a,p,rfl,⟨dx,ha⟩,q⟩:=h;refine⟨_,ao (aD au),?_⟩
 exact q
theorem AW (B:c7 mg)(c:L0 K CG)(F:bG K CG "plus" "Ground.plus" gU cN):jy P w K mg base 1 CG "plus" cN (P_ CG λx y=>x+y):=by
 refine F.ok AK (λvs H Q E h=>?_) (λfa cdv A outer s H vs Q E hr h=>?_)
 ·obtain⟨a,p,x,y,rfl,_⟩:=h;rfl
 obtain⟨a,p,x,y,rfl,⟨dx,ha⟩,p2,p5,hx,hy,q⟩:=h;refine⟨_,ao (aD (aM dj (aM d9 (pv 1) (pv 2)) (aY (K:=K) rfl (pv 0)))),?_⟩
 walk_at "rd"
 refine⟨a,CG,dx,_,_,rfl,ha,c.cl,c.nP,Io,?_⟩
 refine⟨_,_,rfl,rfl,by omega,?_⟩
 show Q (V.int (Int.fmod _ (p:Int))) H
 rw[um];exact q
theorem yQ (B:c7 mg)(c:L0 K CG)(F:bG K CG "minus" "Ground.minus" f_ cN):jy P w K mg base 1 CG "minus" cN (P_ CG λx y=>x-y):=by
 refine F.ok yH (λvs H Q E h=>?_) (λfa cdv A outer s H vs Q E hr h=>?_)
 ·obtain⟨a,p,x,y,rfl,_⟩:=h;rfl
 obtain⟨a,p,x,y,rfl,⟨dx,ha⟩,p2,p5,hx,hy,q⟩:=h;refine⟨_,ao (aD (aM dj (aM di (pv 1) (pv 2)) (aY (K:=K) rfl (pv 0)))),?_⟩
 walk_at "rd"
 refine⟨a,CG,dx,_,_,rfl,ha,c.cl,c.nP,Io,?_⟩
 refine⟨_,_,rfl,rfl,by omega,?_⟩
 show Q (V.int (Int.fmod _ (p:Int))) H
 rw[um];exact q
theorem yR (B:c7 mg)(c:L0 K CG)(F:bG K CG "times" "Ground.times" gb cN):jy P w K mg base 1 CG "times" cN (P_ CG λx y=>x*y):=by
 refine F.ok yI (λvs H Q E h=>?_) (λfa cdv A outer s H vs Q E hr h=>?_)
 ·obtain⟨a,p,x,y,rfl,_⟩:=h;rfl
 obtain⟨a,p,x,y,rfl,⟨dx,ha⟩,p2,p5,hx,hy,q⟩:=h;refine⟨_,ao (aD (aM dj (aM dZ (pv 1) (pv 2)) (aY (K:=K) rfl (pv 0)))),?_⟩
 refine⟨_,rfl,_,rfl,_,_,rfl,rfl,ue (by omega) (by omega),_,rfl,?_⟩
 refine⟨a,CG,dx,_,_,rfl,ha,c.cl,c.nP,Io,?_⟩
 refine⟨_,_,rfl,rfl,by omega,?_⟩
 show Q (V.int (Int.fmod _ (p:Int))) H
 rw[um];exact q
theorem tu (B:c7 mg)(F:bG K CG "is_nought" "Ground.is_nought" dQ cI):jy P w K mg base 1 CG "is_nought" cI (Qa CG):=by
 refine F.ok sZ (λvs H Q E h=>?_) (λfa cdv A outer s H vs Q E hr h=>?_)
 ·obtain⟨a,p,x,rfl,_⟩:=h;rfl
 obtain⟨a,p,x,rfl,⟨dx,ha⟩,q⟩:=h;refine⟨_,ao (aD (pY tQ (pv 1) au (a_ _))),?_⟩
 refine⟨_,rfl,rfl,?_⟩
 have e:decide (V.int (x:Int)=V.int 0)=decide (x=0):=by
  by_cases h:x=0
  ·rw[Wy h,Wy (by rw[h];rfl)]
  ·rw[W0 h,W0 (λz=>h (by injection z with z;omega))]
 show Q (V.bl (decide (V.int (x:Int)=V.int 0))) H
 rw[e];exact q
theorem aal (B:c7 mg)(c:L0 K CG)(f1:bG K CG "degree" "Ground.degree" fG cF)(f2:bG K CG "zero" "Ground.zero" gT cF)(f3:bG K CG "one" "Ground.one" jg cF)
  (f4:bG K CG "plus" "Ground.plus" gU cN) (f5:bG K CG "minus" "Ground.minus" f_ cN) (f6:bG K CG "times" "Ground.times" gb cN) (f7:bG K CG "is_nought" "Ground.is_nought" dQ cI):
  TwO P w K mg base 1 (IsT CG CS 0) where
 mono:=IsT.mono
 fld:=λj=>by
  obtain⟨p,hp,rfl,dx,g⟩:=j.Ab;exact⟨CG,dx,_,g,c.cl,c.nP,Io⟩
 bd:=λj=>⟨j.d.2,by rw[j.ht];decide⟩
 d1:=λj=>j.d.1
 degree:=iZ c (by decide) ((w_ B f1).imp λvs H Q E ⟨⟨a,T,e,j,q⟩,_⟩=>by
  obtain⟨p,hp,rfl,g⟩:=j.Ab;exact⟨a,p,e,g,q H (ay.refl H)⟩)
 zero:=iZ c (by decide) (MY (λ_ _=>rfl) (AV B f2))
 one:=iZ c (by decide) (MY (λ_ _=>rfl) (Cm B f3))
 plus:=iZ c (by decide) (Ir (λp hp x y=>by show((x.v:Int)+y.v) % p=(((x.v+y.v) % p:Nat):Int);rw[Zv,Wt]) (AW B c f4))
 minus:=iZ c (by decide) (Ir (λp hp x y=>by
  show((x.v:Int)-y.v) % p=(((x.v+(p-y.v) % p) % p:Nat):Int)
  have hx:=x.lt;have hy:=y.lt;rw[Nat.add_mod_mod,Zv,Wt,Int.natCast_sub (Nat.le_of_lt hy)];have e:(x.v:Int)+(p-y.v)=(x.v-y.v)+p:=by omega
  rw[e,Int.add_emod_right]) (yQ B c f5))
 times:=iZ c (by decide) (Ir (λp hp x y=>by
  show((x.v:Int)*y.v) % p=(((x.v*y.v) % p:Nat):Int)
  rw[Zv,Y6]) (yR B c f6))
 eY:=iZ c (by decide) ((tu B f7).imp λvs H Q E ⟨⟨a,T,u,x,e,j,ru,q1,q2⟩,_⟩=>by
  obtain⟨p,hp,rfl,g⟩:=j.Ab;rw[Ej ru] at e;refine⟨a,p,_,e,g,?_⟩
  by_cases z:(show Zp p from x).v=0
  ·rw[Wy z];exact q1 (Zp.ext z) H (ay.refl H)
  ·rw[W0 z];exact q2 (λy=>z (W1 Zp.v y)) H (ay.refl H))
end
section
theorem pN (B:c7 mg)(F:Src K mg "copied" rS pI):∀n,b8 P w K mg base n "copied" pI (kI n)
 | 0=>F.none.imp λvs H Q E h=>by obtain⟨v,e,m,_,h,_⟩:=h;omega
 | n+1=>by
  have fJ:=pN B F n;refine F.ok LB (λvs H Q E h=>?_) (λfa cdv A outer s H vs Q E hr h=>?_)
  ·obtain⟨v,e,m,rfl,_⟩:=h;rfl
  obtain⟨v,e,m,rfl,hm,fl,r,q⟩:=h;obtain rfl:n=m:=by omega
  refine⟨_,ai (bX (cK (aI (cC (K:=K) rfl) rfl B.isinstance bW (af (pv 0) (af (gh (v:=.ty "list") rfl B.list qa rfl) ah))))
   (ao (aD (cA (aK (N:=["inner"]) (sl:=[q?]) (aj rS) pI rfl rfl (by decide +kernel)) rfl (bZ (K:=K) rfl (pv 0)) (λ_ _ _ _ _=>(aA (i:=0) (Yk_ ["inner"]) rfl (z? rfl))) (λ_ _ _ _ _=>bf) (λ_ _ _ _ _=>(aG fJ hr (af (pv 0) ah))))))
   (aW))
  (ai (bX (cK (aI (cC (K:=K) rfl) rfl B.isinstance bW (af (pv 0) (af (gh (v:=.ty "tuple") rfl B.tuple F1 rfl) ah))))
   (ao (J6))
   (aW))
  (ao (aD (pv 0)))),?_⟩
  cases fl with
  | num i=>
   cases r;refine⟨_,rfl,_,"int","list",false,rfl,.int i,by with_unfolding_all rfl,_,rfl,cX ?_⟩
   refine⟨_,rfl,_,"int","tuple",false,rfl,.int i,by with_unfolding_all rfl,_,rfl,cX ?_⟩
   exact⟨_,rfl,q _ _ (ay.refl H) (.num i) λn d e=>by cases e⟩
  | @vec n l hl fe=>
   rw[dW] at r q;obtain⟨a,vs,rfl,ha,_,C⟩:=r.cf;refine⟨_,rfl,_,"list","list",true,rfl,.lst (aU.of ha),rfl,_,rfl,fE ?_⟩
   refine⟨_,rfl,a,rfl,⟨_,aU.of ha⟩,λD hD=>?_⟩
   refine dH (xs:=vs) (λi ys H2=>ay H H2/\Cf H2 (Off H D) ys i λi=>l.getD i (.num 0)) ⟨av hD _,.nil⟩ (λi ys H2 _ h=>aU.of (h.1 _ _ ha)) ?_ ?_
   ·rintro i m x ys H2 hm hi hx hy hlen ⟨gg,cy⟩
    obtain⟨hi',rx⟩:=C.get hx;refine⟨_,rfl,x,_,n,rfl,rfl,?_,rx.same gg,λr H3 g3 rr _=>?_⟩
    ·have:l.getD i (.num 0)∈l:=by
      rw[Yb,Ya hi'];exact Za hi'
     exact fe _ this
    ·refine CW.emit hm hi (by rw[C.len,C?];omega) (g3 _ _ hy) hlen ⟨ay.aJ (gg.trans g3) hD _,?_⟩
     exact((cy.same g3).push (rr.vg gg hy)).upd
   ·rintro ys H2 hy ⟨gg,cy⟩
    rw[C.len] at cy;refine q _ _ gg (cy.Ek.rep hy hD) (λn d e=>?_)
    refine⟨D,ys,rfl,hD,hy,?_⟩
    obtain⟨e1,e2⟩:=gQ e;rw[<- e1];exact cy.congr e2
theorem k_ (B:c7 mg)(F:Src K mg "number_power" i8 ["k","n"]):b8 P w K mg base 1 "number_power" ["k","n"] Af:=by
 refine F.ok h_ (λvs H Q E h=>?_) (λfa cdv A outer s H vs Q E hr h=>?_)
 ·obtain⟨k,n,rfl,_⟩:=h;rfl
 obtain⟨k,n,rfl,hk,hn,q⟩:=h;refine⟨_,ai (aE (i:=2) h_.nd rfl (z? rfl) au)
  (ai (cE D? rfl (bI rfl B.range (af (pv 1) ah)) (aA (i:=3) h_.nd rfl (z? rfl))
   (ao (aE (i:=2) h_.nd rfl (z? rfl) (aM dZ (pv 2) (pv 0)))))
  (ao (aD (pv 2)))),?_⟩
 walk_at "rd"
 refine⟨_,rfl,by omega,by omega,?_⟩
 have b:∀i:Nat,i<=100->Bd 640 ((k ^ i:Nat):Int):=λi hi=>by
  show((k ^ i:Nat):Int).natAbs<_
  rw[Int.natAbs_natCast];refine Nat.lt_of_le_of_lt (Nat.pow_le_pow_left (show k<=2 ^ 6 by omega) i) ?_
  rw[<- Nat.pow_mul];exact Nat.pow_lt_pow_right (by decide) (by omega)
 refine dF (λi σ H2=>H2=H/\∃o,σ=[j? (.int k),j? (.int n),Iq ((k ^ i:Nat)),o]) ⟨rfl,_,rfl⟩ ?_ ?_
 ·rintro i σ H2 hi ⟨rfl,o,rfl⟩
  refine⟨_,rfl,_,rfl,_,_,rfl,rfl,(b i (by omega)).ok (Bd.small (x:=(k:Int)) (by omega) (by omega)),?_⟩
  have e:((k ^ (i+1):Nat):Int)=((k ^ i:Nat):Int)*(k:Int):=by rw[Wi,Y6]
  rw[e];exact⟨rfl,_,rfl⟩
 ·rintro σ H2 ⟨rfl,o,rfl⟩
  refine⟨_,rfl,?_⟩
  rw[Yp];exact q
end
section
variable {k:Nat} {J:L2.Kind}
theorem uE (B:c7 mg)(O:TwO P w K mg base k J)(F:Src K mg "without_noughts" fN AE):b8 P w K mg base (k+1) "without_noughts" AE (yp J):=by
 refine F.ok iC (λvs H Q E h=>?_) (λfa cdv A outer s H vs Q E hr h=>?_)
 ·obtain⟨a,T,v,n,s,ok,rfl,_⟩:=h;rfl
 obtain⟨a,T,v,n,s,ok,rfl,ja,rv,dg,hn,q⟩:=h;obtain⟨p,vs,rfl,hp,okp,C⟩:=rv.cf;refine⟨_,ai (aE (i:=2) iC.nd rfl (z? rfl) (aI (aN (K:=K) rfl) rfl B.len bR (af (pv 1) ah)))
  (ai (iW D? (PW.pt (zV (aS oV (pv 2) au (a_ _)) (u6 (cK (bh O.eY hr (pv 0) (af (bJ (aP (K:=K) rfl) (pv 1) (aM di (pv 2) au) (λ_ _=>rfl)) ah))))))
   (ao (Mj (i:=2) iC.nd rfl (z? rfl) au Pz)))
  (ao (aD (kC (kE (K:=K) rfl) (pv 1) nq (iX (pv 2)))))),?_⟩
 refine⟨_,rfl,p,_,rfl,.inl (aU.of hp),?_⟩
 rw[C.len];refine iY (λσ H2=>ay H H2/\∃m,qT (m<=n) (Dg s m) (σ=[Rq a,Rq p,Iq (m)])) (λσ _=>match σ with | [_,_,j? (.int m)]=>m.toNat|_=>0) ⟨ay.refl H,n,Yd _,dg,rfl⟩ ?_
 rintro σ H2 ⟨gg,m,hm,dm,rfl⟩;have fin:Nz T m s->∀H3,ay H H3->R5 (tSl (Sq K) (DY 1) JL (Ro (DY 2))) { nx:=λx H'=>Q V.d8 H',rt:=Q } [j? (V.ref a),j? (V.ref p),j? (V.int (m:Int))] H3:=λnz H3 g3=>by
  refine⟨_,rfl,_,rfl,_,rfl,p,_,rfl,aU.of (g3 _ _ hp),λl hl=>?_⟩
  rw[JY _ _ (by rw[C.len];exact hm)]
  have hlH:H l=q?:=g3.free hl;refine q _ m _ hm nz (g3.trans (av hl _)) (((C.take hm).imp λb o h k=>⟨av hl _ _ _ (g3 _ _ h),.inr k⟩).rep aq (.inl hlH))
 refine⟨_,rfl,_,_,rfl,rfl,_,rfl,wB (λc=>?_) (λc=>?_)⟩
 ·have m0:0<m:=by have:=Wz c;omega
  obtain⟨x,hx,rx⟩:=C.at_ (m-1) (by omega)
  have em:(m:Int)-1=((m-1:Nat):Int):=by omega
  refine⟨_,rfl,a,rfl,⟨T,O.mono gg ja⟩,_,rfl,_,rfl,_,_,rfl,rfl,p,_,_,_,rfl,rfl,aU.of (gg _ _ hp),by rw[em];exact bF hx,λ_ h=>h,a,T,x,s.c (m-1),rfl,O.mono gg ja,(rx.same gg).any,λz H3 g3=>?_,λz H3 g3=>?_⟩
  ·refine⟨_,rfl,fE (win ⟨_,rfl,_,_,rfl,rfl,⟨gg.trans g3,m-1,by omega,λi hi=>?_,?_⟩,?_⟩)⟩
   ·by_cases y:i=m-1
    ·rw[y];exact z
    ·exact dm i (by omega)
   ·show [_,_,j? (V.int ((m:Int)-1))]=_
    rw[em]
   ·show((m:Int)-1).toNat<((m:Int)).toNat
    omega
  ·exact⟨_,rfl,cX (fin ⟨dm,.inr z⟩ H3 (gg.trans g3))⟩
 ·have m0:m=0:=by
   refine Wb λz=>c (Wy ?_)
   omega
  exact fin ⟨dm,.inl m0⟩ H2 gg
theorem AX (B:c7 mg)(O:TwO P w K mg base k J)(F:Src K mg "scaled_poly" gR AF):b8 P w K mg base (k+1) "scaled_poly" AF (pC J):=by
 refine F.ok AG (λvs H Q E h=>?_) (λfa cdv A outer s H vs Q E hr h=>?_)
 ·obtain⟨a,T,u,v,x,n,s,rfl,_⟩:=h;rfl
 obtain⟨a,T,u,v,x,n,s,rfl,ja,ru,rv,hn,q⟩:=h;obtain⟨p,vs,rfl,hp,_,C⟩:=rv.cf;refine⟨_,ao (aD (cA (aK (N:=["term","tower","u"]) (sl:=[q?,j? 0,j? 1]) (aj gR) AF rfl rfl (by decide +kernel)) rfl (bZ (K:=K) rfl (pv 2)) (λ_ _ _ _ _=>(aA (i:=0) (Yk_ ["term","tower","u"]) rfl (z? rfl))) (λ_ _ _ _ _=>bf) (λ_ _ _ _ _=>(bh O.times hr (pv 1) (af (pv 2) (af (pv 0) ah)))))),?_⟩
 refine⟨_,rfl,p,rfl,⟨_,aU.of hp⟩,λD hD=>?_⟩
 refine dH (xs:=vs) (λi ys H2=>ay H H2/\Cf H2 (Off H D) ys i λi=>T.enc ((cst x*s).c i)) ⟨av hD _,.nil⟩ (λi ys H2 _ h=>aU.of (h.1 _ _ hp)) ?_ ?_
 ·rintro i m y ys H2 hm hi hy' hy hlen ⟨gg,cy⟩
  obtain⟨hi',ry⟩:=C.get hy';refine⟨_,rfl,a,rfl,⟨T,O.mono gg ja⟩,_,rfl,_,rfl,λ_ h=>h,a,T,u,y,x,_,rfl,O.mono gg ja,ru.same gg,ry.same gg,λr H3 g3 rr=>?_⟩
  refine CW.emit hm hi (by rw[C.len,C?];omega) (g3 _ _ hy) hlen ⟨ay.aJ (gg.trans g3) hD _,?_⟩
  refine((cy.same g3).push ?_).upd
  rw[bS];exact rr.vg gg hy
 ·rintro ys H2 hy ⟨gg,cy⟩
  rw[C.len] at cy;exact q _ _ gg (cy.Ek.rep hy hD)
theorem Cn (B:c7 mg)(O:TwO P w K mg base k J)(bN:b8 P w K mg base (k+1) "without_noughts" AE (yp J))(F:Src K mg "minus_poly" fu dM):b8 P w K mg base (k+2) "minus_poly" dM (pB J):=by
 refine F.ok jW (λvs H Q E h=>?_) (λfa cdv A outer s H vs Q E hr h=>?_)
 ·obtain⟨a,T,u,v,n,m,s,t,rfl,_⟩:=h;rfl
 obtain⟨a,T,u,v,n,m,s,t,rfl,ja,ru,ds,hn,rv,dt,hm,q⟩:=h;obtain⟨p,vs,rfl,hp,_,C⟩:=ru.cf;obtain⟨p',ws,rfl,Ff,_,C'⟩:=rv.cf;refine⟨_,ai (aE (i:=3) jW.nd rfl (z? rfl) (aI (KZ rfl) rfl B.«max» SE (af (aI (aN (K:=K) rfl) rfl B.len bR (af (pv 1) ah)) (af (aI (aN (K:=K) rfl) rfl B.len bR (af (pv 2) ah)) ah))))
  (ai (aE (i:=4) jW.nd rfl (z? rfl) (aM jw (pv 1) (cA (aK (N:=Ly) (sl:=[q?,j? 0]) (aj fu) QK rfl rfl (by decide +kernel)) rfl (l_ rfl B.range (af (aI (aN (K:=K) rfl) rfl B.len bR (af (pv 1) ah)) (af (pv 3) ah))) (λ_ _ _ _ _=>(aA (i:=0) (Yk_ Ly) rfl (z? rfl))) (λ_ _ _ _ _=>bf) (λ_ _ _ _ _=>(aO O.zero hr (pv 1) )))))
  (ai (aE (i:=5) jW.nd rfl (z? rfl) (aM jw (pv 2) (cA (aK (N:=Ly) (sl:=[q?,j? 0]) (aj fu) QK rfl rfl (by decide +kernel)) rfl (l_ rfl B.range (af (aI (aN (K:=K) rfl) rfl B.len bR (af (pv 2) ah)) (af (pv 3) ah))) (λ_ _ _ _ _=>(aA (i:=0) (Yk_ Ly) rfl (z? rfl))) (λ_ _ _ _ _=>bf) (λ_ _ _ _ _=>(aO O.zero hr (pv 1) )))))
  (ao (aD (aG bN hr (af (pv 0) (af (cA (aK (N:=["one","other","tower"]) (sl:=[q?,q?,j? 0]) (aj fu) QK rfl rfl (by decide +kernel)) rfl (vc (K:=K) rfl rfl B.zip (af (pv 4) (af (pv 5) ah))) (λ_ _ _ _ _=>(cU (n:=2) (K:=K) rfl rfl (aQ (aA (i:=0) (Yk_ ["one","other","tower"]) rfl (z? rfl)) (aQ (aA (i:=1) (Yk_ ["one","other","tower"]) rfl (z? rfl)) cT)))) (λ_ _ _ _ _=>bf) (λ_ _ _ _ _=>(bh O.minus hr (pv 2) (af (pv 0) (af (pv 1) ah))))) ah))))))),?_⟩
 refine⟨_,rfl,p,_,rfl,.inl (aU.of hp),_,rfl,p',_,rfl,.inl (aU.of Ff),?_⟩
 rw[C.len,C'.len];obtain⟨mx,emx,hmx1,hmx2,hmx3⟩:∃mx:Nat,(if (m:Int) > (n:Int) then (m:Int) else (n:Int))=(mx:Int)/\n<=mx/\m<=mx/\mx=max n m:=by
  by_cases c:(m:Int) > (n:Int)
  ·exact⟨m,by rw[Wx c],by omega,Yd _,by omega⟩
  ·exact⟨n,by rw[Ww c],Yd _,by omega,by omega⟩
 refine⟨_,_,rfl,?_⟩
 rw[emx];refine⟨_,rfl,_,rfl,p,_,rfl,.inl (aU.of hp),_,rfl,_,_,rfl,by rw[C.len];omega,λD hD=>?_⟩
 rw[C.len];have en:((mx:Int)-(n:Int)).toNat=mx-n:=by omega
 rw[en];refine mH (J:=J) (T:=T) O.mono ja hD (by omega) (λy H2 R j2 h2=>⟨_,rfl,a,rfl,⟨T,j2⟩,λ_ h=>h,a,T,rfl,j2,h2⟩) λys H2 g2 hy cy=>?_
 refine⟨p,D,_,_,rfl,rfl,g2 _ _ hp,hy,by rw[C.len,cy.len,C?];omega,λl1 hl1=>?_⟩
 have k1:=av hl1 (.lst (vs++ys));have g3:=g2.trans k1;have c1:Cf (upd H2 l1 (.lst (vs++ys))) Any (vs++ys) mx λi=>T.enc (s.c i):=by
  have:=((C.same g3).append ((cy.imp λb o h _=>⟨k1 _ _ h,trivial⟩:Cf _ Any _ _ _)))
  rw[show n+(mx-n)=mx by omega] at this
  refine this.congr λi hi=>?_
  by_cases c:i<n
  ·rw[Wx c]
  ·rw[Ww c,ds i (by omega)]
 refine⟨_,rfl,_,rfl,p',_,rfl,.inl (aU.of (g3 _ _ Ff)),_,rfl,_,_,rfl,by rw[C'.len];omega,λD' hD'=>?_⟩
 rw[C'.len];have em:((mx:Int)-(m:Int)).toNat=mx-m:=by omega
 rw[em];refine mH (J:=J) (T:=T) O.mono (O.mono g3 ja) hD' (by omega) (λy H2 R j2 h2=>⟨_,rfl,a,rfl,⟨T,j2⟩,λ_ h=>h,a,T,rfl,j2,h2⟩) λzs H4 g4 hz cz=>?_
 have Hi:=g3.trans g4;refine⟨p',D',_,_,rfl,rfl,Hi _ _ Ff,hz,by rw[C'.len,cz.len,C?];omega,λl2 hl2=>?_⟩
 have k2:=av hl2 (.lst (ws++zs));have g5:=Hi.trans k2;have c2:Cf (upd H4 l2 (.lst (ws++zs))) Any (ws++zs) mx λi=>T.enc (t.c i):=by
  have:=((C'.same g5).append ((cz.imp λb o h _=>⟨k2 _ _ h,trivial⟩:Cf _ Any _ _ _)))
  rw[show m+(mx-m)=mx by omega] at this
  refine this.congr λi hi=>?_
  by_cases c:i<m
  ·rw[Wx c]
  ·rw[Ww c,dt i (by omega)]
 refine⟨_,rfl,_,rfl,_,rfl,l1,l2,rfl,⟨_,aU.of (k2 _ _ (g4 _ _ aq))⟩,⟨_,aU.of aq⟩,λD2 AY=>?_⟩
 refine Iu (J:=J) (T:=T) O.mono (O.mono g5 ja) (k2 _ _ (g4 _ _ aq)) aq (c1.same (g4.trans k2)) c2 AY (by omega) (λi x y H6 R hi j6 rx ry h6=>⟨_,rfl,a,rfl,⟨T,j6⟩,_,rfl,_,rfl,λ_ h=>h,a,T,x,y,_,_,rfl,j6,rx,ry,h6⟩) λzs' H6 g6 hz' cz'=>?_
 have Ku:=g5.trans g6;have dst:Dg (s-t) mx:=λi hi=>by rw[qV,ds i (by omega),dt i (by omega)];exact Fw 0
 refine⟨a,T,.ref D2,mx,s-t,bL H,rfl,O.mono Ku ja,?_,dst,by omega,λr k' H7 hk nz g7 rr=>?_⟩
 ·refine((cz'.imp λb o h kk=>⟨h,g5.free kk.1⟩).congr λi hi=>?_).rep hz' (g5.free AY)
  rw[qV]
 ·exact q r k' H7 (by omega) nz (Ku.trans g7) (rr.imp λb o h kk=>⟨h,kk.elim (λz=>Ku.free z) id⟩)
theorem Co (B:c7 mg)(O:TwO P w K mg base k J)(F:Src K mg "times_poly" i9 dM):b8 P w K mg base (k+1) "times_poly" dM (i6 J):=by
 refine F.ok fL (λvs H Q E h=>?_) (λfa cdv A outer s H vs Q E hr h=>?_)
 ·obtain⟨a,T,u,v,n,m,s,t,rfl,_⟩:=h;rfl
 obtain⟨a,T,u,v,n,m,s,t,rfl,ja,ru,ds,rv,dt,hnm,q⟩:=h;obtain⟨p,vs,rfl,hp,_,C⟩:=id ru.cf;obtain⟨p',ws,rfl,Ff,_,C'⟩:=id rv.cf;have hb:=(O.bd ja).2;refine⟨_,ai (bX (PW.pt (mC (aS (gZ (K:=K) rfl hr.units) (pv 1) (bz ah) (a_ _)) (kZ (aS (gZ (K:=K) rfl hr.units) (pv 2) (bz ah) (a_ _)))))
   (ao (aD (bz ah)))
   (aW))
  (ai (lO (i:=3) fL.nd rfl (z? rfl) (aK (N:=Ly) (sl:=[q?,j? 0]) (aj i9) VS rfl rfl (by decide +kernel)) rfl (bI rfl B.range (af (aM di (aM d9 (aI (aN (K:=K) rfl) rfl B.len bR (af (pv 1) ah)) (aI (aN (K:=K) rfl) rfl B.len bR (af (pv 2) ah))) au) ah)) (λ_ _ _ _ _=>(aA (i:=0) (Yk_ Ly) rfl (z? rfl))) (λ_ _ _ _ _=>bf) (λ_ _ _ _ _=>(aO O.zero hr (pv 1) )))
  (ai (cE D? rfl (kF (K:=K) rfl rfl B.enumerate (af (pv 1) ah)) (cU (n:=2) (K:=K) rfl rfl (aQ (aA (i:=4) fL.nd rfl (z? rfl)) (aQ (aA (i:=5) fL.nd rfl (z? rfl)) cT)))
   (ao (bX (eV (cK (bh O.eY hr (pv 0) (af (pv 5) ah))))
    (ao (cE D? rfl (Di (K:=K) rfl rfl B.enumerate (af (pv 2) ah) (D7 (pv 4) HV)) (cU (n:=2) (K:=K) rfl rfl (aQ (aA (i:=6) fL.nd rfl (z? rfl)) (aQ (aA (i:=7) fL.nd rfl (z? rfl)) cT)))
     (ao (mD (bh O.plus hr (pv 0) (af (bJ (aP (K:=K) rfl) (pv 3) (pv 6) (λ_ _=>rfl)) (af (bh O.times hr (pv 0) (af (pv 5) (af (pv 7) ah))) ah))) (uc (pv 3) (pv 6) set_list)))))
    (aW))))
  (ao (aD (pv 3))))),?_⟩
 refine⟨_,rfl,aZ rfl,λl0 h0=>?_⟩
 have k0:=av h0 (.lst []);have nil:n=0\/m=0->∀H2,ay H H2->∀l,H2 l=q?->Q (.ref l) (upd H2 l (.lst [])):=λz H2 g2 l hl=>by
  refine q _ _ (g2.trans (av hl _)) ?_
  rw[Wx z];exact Cf.nil.rep aq (g2.free hl)
 refine tT (ru.same k0) ((Cf.nil (ok:=Any) (e:=λ_=>.num 0)).rep aq trivial) (cO T (by omega) s) (nu (n:=0) (by omega) λ_=>.num 0) (by omega) (by omega) (λe=>?_) (λe=>?_)
 ·refine⟨_,rfl,fE ?_⟩
  have n0:=(gQ e).1;exact⟨aZ rfl,λl hl=>nil (.inl n0) _ k0 l hl⟩
 ·have n0:n≠0:=λz=>e (by rw[z];rfl)
  refine⟨_,rfl,cX ?_⟩
  refine⟨_,rfl,aZ rfl,λl1 h1=>?_⟩
  have k1:=k0.trans (av h1 (.lst []));refine tT (rv.same k1) ((Cf.nil (ok:=Any) (e:=λ_=>.num 0)).rep aq trivial) (cO T (by omega) t) (nu (n:=0) (by omega) λ_=>.num 0) (by omega) (by omega) (λe=>?_) (λe=>?_)
  ·refine⟨_,rfl,fE ?_⟩
   have m0:=(gQ e).1;exact⟨aZ rfl,λl hl=>nil (.inr m0) _ k1 l hl⟩
  ·have m0:m≠0:=λz=>e (by rw[z];rfl)
   refine⟨_,rfl,cX ?_⟩
   clear nil;rw[Ww (by omega)] at q
   refine⟨_,rfl,p,_,rfl,.inl (aU.of (k1 _ _ hp)),_,rfl,p',_,rfl,.inl (aU.of (k1 _ _ Ff)),_,_,rfl,rfl,_,_,rfl,rfl,_,rfl,by rw[C.len,C'.len];omega,by rw[C.len,C'.len];omega,λD hD=>?_⟩
   rw[C.len,C'.len];have en:((n:Int)+(m:Int)-1).toNat=n+m-1:=by omega
   rw[en];refine mH (J:=J) (T:=T) O.mono (O.mono k1 ja) hD (by omega) (λy H2 R j2 h2=>⟨_,rfl,a,rfl,⟨T,j2⟩,λ_ h=>h,a,T,rfl,j2,h2⟩) λys H2 g2 hy cy=>?_
   have oh:=k1.trans g2;have DB:H D=q?:=k1.free hD;have cy:Cf H2 (Off H D) ys (n+m-1) λi=>T.enc (rJ s t 0 i):=cy.imp λb o h kk=>⟨h,k1.free kk.1,kk.2⟩
   refine⟨_,rfl,p,rfl,⟨_,aU.of (oh _ _ hp)⟩,kG (st:=0) (xs:=vs) (λi σ H3=>ay H H3/\Tt λ(ps:List V) (o1 o2 o3 o4:Option V)=>qT (σ=[Rq a,Rq p,Rq p',Rq D,o1,o2,o3,o4]) (H3 D=j? (.lst ps)) (Cf H3 (Off H D) ps (n+m-1) λx=>T.enc (rJ s t i x)))
    ⟨oh,ys,_,_,_,_,rfl,hy,cy⟩ (λi σ H3 _ h=>aU.of (h.1 _ _ hp)) ?_ ?_⟩
   ·rintro i x σ H3 r hx ⟨gg,ps,o1,o2,o3,o4,rfl,eP,cP⟩ hr'
    obtain⟨hi,rx⟩:=C.get hx;have gr:=av hr' (.tup [.int ((0+i:Nat):Int),x]);have g3:=gg.trans gr;refine⟨r,_,rfl,iR.of aq,rfl,_,_,rfl,_,_,rfl,rfl,?_⟩
    refine⟨_,rfl,a,rfl,⟨T,O.mono g3 ja⟩,_,rfl,λ_ h=>h,a,T,x,s.c i,rfl,O.mono g3 ja,rx.same g3,λz H4 g4=>?_,λz H4 g4=>?_⟩
    ·exact⟨_,rfl,cX ⟨g3.trans g4,ps,_,_,_,_,rfl,g4 _ _ (gr _ _ eP),(cP.same (gr.trans g4)).congr λx hx=>by rw[yo z]⟩⟩
    ·refine⟨_,rfl,fE ?_⟩
     have Hi:=g3.trans g4;refine⟨_,rfl,_,rfl,p',0+i,rfl,rfl,by omega,⟨_,aU.of (Hi _ _ Ff)⟩,kG (st:=0+i) (xs:=ws) (λj σ H5=>ay H H5/\VT λ(ps:List V) (o3 o4:Option V)=>qT (σ=[Rq a,Rq p,Rq p',Rq D,Iq ((0+i:Nat)),j? x,o3,o4]) (H5 D=j? (.lst ps)) (Cf H5 (Off H D) ps (n+m-1) λx=>T.enc (pA s t i j x)))
      ⟨Hi,ps,_,_,rfl,g4 _ _ (gr _ _ eP),(cP.same (gr.trans g4)).congr λx hx=>by rw[uo]⟩ (λj σ H5 _ h=>aU.of (h.1 _ _ Ff)) ?_ ?_⟩
     ·rintro j y σ H5 r5 hy ⟨g5,qs,o3,o4,rfl,eQ,cQ⟩ VU
      obtain⟨hj,ry⟩:=C'.get hy;have kr:=av VU (.tup [.int ((0+i+j:Nat):Int),y]);have g6:=g5.trans kr;refine⟨r5,_,rfl,iR.of aq,rfl,_,_,rfl,_,_,rfl,rfl,?_⟩
      have hij:i+j<n+m-1:=by omega
      obtain⟨c,hc,rc⟩:=cQ.at_ (i+j) hij;refine⟨_,rfl,a,rfl,⟨T,O.mono g6 ja⟩,_,rfl,_,rfl,D,_,_,_,rfl,rfl,aU.of (kr _ _ eQ),by rw[Zm];exact bF hc,?_⟩
      refine⟨_,rfl,a,rfl,⟨T,O.mono g6 ja⟩,_,rfl,_,rfl,λ_ h=>h,a,T,x,y,s.c i,t.c j,rfl,O.mono g6 ja,rx.same g6,ry.same g6,λr6 H6 vI rr=>?_⟩
      have g7:=g6.trans vI;refine⟨λ_ h=>vI _ _ h,a,T,c,r6,pA s t i j (i+j),_,rfl,O.mono g7 ja,(rc.same (kr.trans vI)).any,rr.any,λr7 H7 GK Cp=>?_⟩
      have g8:=g7.trans GK;have VV:H7 D=j? (.lst qs):=GK _ _ (vI _ _ (kr _ _ eQ));refine⟨_,rfl,_,rfl,D,_,_,i+j,rfl,rfl,VV,by rw[cQ.len,Zm];exact Ac hij,?_⟩
      refine⟨g8.aJ DB _,qs.set (i+j) r7,_,_,rfl,aq,?_⟩
      have VW:=cQ.same ((kr.trans vI).trans GK);refine(((VW.set hij (Cp.vg g7 (vI _ _ (kr _ _ eQ)))).congr λx hx=>?_).upd)
      rw[uq];by_cases z:x=i+j
      ·rw[Wx z,Wx z,z]
      ·rw[Ww z,Ww z]
     ·rintro σ H5 ⟨g5,qs,o3,o4,rfl,eQ,cQ⟩
      rw[C'.len] at cQ;exact⟨g5,qs,_,_,_,_,rfl,eQ,cQ.congr λx hx=>by rw[wH dt]⟩
   ·rintro σ H3 ⟨gg,ps,o1,o2,o3,o4,rfl,eP,cP⟩
    rw[C.len] at cP;refine⟨_,rfl,q _ _ gg ((cP.Ek.congr λi hi=>?_).rep eP DB)⟩
    rw[Ad ds]
theorem Cq (B:c7 mg)(O:TwO P w K mg base k J)(N1:8<=k)(fJ:b8 P w K mg base 8 "copied" pI (kI 8))(bN:b8 P w K mg base (k+1) "without_noughts" AE (yp J))(F:Src K mg "over_monic" lR dM):b8 P w K mg base (k+2) "over_monic" dM (lP J):=by
 refine F.ok eB (λvs H Q E h=>?_) (λfa cdv A outer s H vs Q E hr h=>?_)
 ·obtain⟨a,T,u,v,N,n,s,f,rfl,_⟩:=h;rfl
 obtain⟨a,T,u,v,N,n,s,f,rfl,ja,ru,ds,hN,rv,hf,hn,q⟩:=h;obtain⟨p',ws,rfl,Ff,_,C'⟩:=id rv.cf;have hb:=(O.bd ja).2;refine⟨_,ai (aE (i:=3) eB.nd rfl (z? rfl) (aG fJ hr (af (pv 1) ah)))
  (ai (aE (i:=4) eB.nd rfl (z? rfl) (bz ah))
  (ai (aE (i:=5) eB.nd rfl (z? rfl) (aM di (aI (aN (K:=K) rfl) rfl B.len bR (af (pv 2) ah)) au))
  (ai (iW D? (aS oV (aI (aN (K:=K) rfl) rfl B.len bR (af (pv 3) ah)) (pv 5) (a_ _))
   (ai (aE (i:=6) eB.nd rfl (z? rfl) (HY S? PySem.F.slot_list_pop PySem.F.type_list_pop MA (pv 3) ))
   (ai (jS (u9 S? H! I! eW (pv 4) (af (pv 6) ah)))
   (ao (bX (eV (cK (bh O.eY hr (pv 0) (af (pv 6) ah))))
    (ao (cE D? rfl (bI rfl B.range (af (pv 5) ah)) (aA (i:=7) eB.nd rfl (z? rfl))
     (ai (aE (i:=8) eB.nd rfl (z? rfl) (aM d9 (aM di (aI (aN (K:=K) rfl) rfl B.len bR (af (pv 3) ah)) (pv 5)) (pv 7)))
     (ao (mD (bh O.minus hr (pv 0) (af (bJ (aP (K:=K) rfl) (pv 3) (pv 8) (λ_ _=>rfl)) (af (bh O.times hr (pv 0) (af (pv 6) (af (bJ (aP (K:=K) rfl) (pv 2) (pv 7) (λ_ _=>rfl)) ah))) ah))) (uc (pv 3) (pv 8) set_list))))))
    (aW))))))
  (ai (jS (HY S? PySem.F.slot_list_reverse PySem.F.type_list_reverse H_ (pv 4) ))
  (ao (aD (q_ (af (pv 4) (af (aG bN hr (af (pv 0) (af (pv 3) ah))) ah))))))))),?_⟩
 refine⟨_,rfl,u,_,7,rfl,rfl,(cO T hN s).mono (by omega),ru,λr0 H1 g1 _ fr=>?_⟩
 obtain⟨R,rs0,rfl,QL,hR1,cR⟩:=fr _ _ rfl;refine⟨aZ rfl,λQd XA=>?_⟩
 have kQ:=av XA (.lst []);have g2:=g1.trans kQ;have hQH:H Qd=q?:=g1.free XA;have XC:R≠Qd:=aL hR1 XA;refine⟨_,rfl,p',_,rfl,.inl (aU.of (g2 _ _ Ff)),_,_,rfl,rfl,?_⟩
 rw[C'.len];have en:((n+1:Nat):Int)-1=(n:Int):=by omega
 rw[show V.int (((n+1:Nat):Int)-1)=V.int (n:Int) from W1 V.int en]
 refine iY (λσ H2=>ay H H2/\∃(M:Nat) (x ρ:aF T.α) (rs qs:List V) (o1 o2 o3:Option V),σ=[Rq a,j? u,Rq p',Rq R,Rq Qd,Iq (n),o1,o2,o3]/\H2 R=j? (.lst rs)/\H2 Qd=j? (.lst qs)/\
  Cf H2 (vm H R Qd) rs M (λi=>T.enc (ρ.c i))/\Cf H2 (vm H R Qd) qs (N-M) (λj=>T.enc (x.c (N-n-1-j)))/\s=x*f+ρ/\Dg ρ M/\Dg x (N-n)/\(∀i,i<M-n->x.c i=0)/\M<=N/\(M=N\/n<=M)) (λ_ H2=>match H2 R with|some (.lst xs)=>xs.length|_=>0) ?_ ?_
 ·refine⟨g2,N,0,s,rs0,[],_,_,_,rfl,kQ _ _ hR1,aq,?_,?_,?_,ds,Dg.zero _,λi _=>rfl,Yd _,.inl rfl⟩
  ·exact cR.imp λb o h kk=>⟨kQ _ _ h,kk.1,kk.2,aL h XA⟩
  ·rw[Nat.sub_self];exact .nil
  ·exact KR f s
 rintro σ H2 ⟨gg,M,x,ρ,rs,qs,o1,o2,o3,rfl,eR,eQ,cρ,cx,hs,dρ,dx,UA,XD,hMn⟩;have Tu:(match H2 R with|some (.lst xs)=>xs.length|_=>0)=M:=by
  rw[eR];exact cρ.len
 rw[Tu];refine⟨_,rfl,R,_,rfl,.inl (aU.of eR),_,rfl,_,_,rfl,rfl,_,rfl,?_⟩
 rw[cρ.len];refine wB (λc=>win ?_) (λc=>?_)
 ·have c':n<M:=by have:=Wz c;omega
  obtain⟨ld,hld,rld⟩:=cρ.at_ (M-1) (by omega)
  refine⟨_,rfl,.inl ⟨rfl,_,aU.of eR⟩,R,rs,ld,rfl,rfl,eR,by rw[cρ.len];exact hld,?_⟩
  have eQ':(upd H2 R (.lst rs.dropLast)) Qd=j? (.lst qs):=by rw[aH XC.symm];exact eQ
  refine⟨_,rfl,.inl ⟨rfl,_,aU.of eQ'⟩,_,rfl,Qd,qs,ld,rfl,rfl,eQ',by rw[cx.len,C?];omega,?_⟩
  have gB:ay H (upd (upd H2 R (.lst rs.dropLast)) Qd (.lst (qs++[ld]))):=(gg.aJ QL _).aJ hQH _;have O2:(upd (upd H2 R (.lst rs.dropLast)) Qd (.lst (qs++[ld]))) R=j? (.lst rs.dropLast):=by rw[aH XC];exact aq
  have UD:(upd (upd H2 R (.lst rs.dropLast)) Qd (.lst (qs++[ld]))) Qd=j? (.lst (qs++[ld])):=aq;have Cs:Cf (upd (upd H2 R (.lst rs.dropLast)) Qd (.lst (qs++[ld]))) (vm H R Qd) rs.dropLast (M-1) (λi=>T.enc (ρ.c i)):=by
   rw[List.dropLast_eq_take,cρ.len];exact((cρ.take (by omega)).nW λb kk=>kk.2.1).nW λb kk=>kk.2.2
  have rb:=(rld.nW (o:=.lst rs.dropLast) (p:=R) λb kk=>kk.2.1).nW (o:=.lst (qs++[ld])) (p:=Qd) λb kk=>kk.2.2
  have UE:Cf (upd (upd H2 R (.lst rs.dropLast)) Qd (.lst (qs++[ld]))) (vm H R Qd) (qs++[ld]) (N-(M-1)) (λj=>T.enc ((x+mon (ρ.c (M-1)) (M-1-n)).c (N-n-1-j))):=by
   have e1:N-(M-1)=N-M+1:=by omega
   rw[e1];refine Cf.push ((((cx.nW λb kk=>kk.2.1).nW λb kk=>kk.2.2)).congr λj hj=>?_) ?_
   ·rw[Iv XD c' hj]
   ·rw[Ga XD c' UA];exact rb
  generalize upd (upd H2 R (.lst rs.dropLast)) Qd (.lst (qs++[ld]))=HB at gB O2 UD Cs rb UE;have done:∀H5 rs' o2 o3,ay H H5->H5 R=j? (.lst rs')->H5 Qd=j? (.lst (qs++[ld]))->Cf H5 (vm H R Qd) rs' (M-1) (λi=>T.enc ((nv f ρ M n).c i))->Cf H5 (vm H R Qd) (qs++[ld]) (N-(M-1)) (λj=>T.enc ((x+mon (ρ.c (M-1)) (M-1-n)).c (N-n-1-j)))->(ay H H5/\∃(M:Nat) (x ρ:aF T.α) (rs qs:List V) (p1 p2 p3:Option V),[Rq a,j? u,Rq p',Rq R,Rq Qd,Iq (n),j? ld,o2,o3]=[Rq a,j? u,Rq p',Rq R,Rq Qd,Iq (n),p1,p2,p3]/\H5 R=j? (.lst rs)/\H5 Qd=j? (.lst qs)/\
   Cf H5 (vm H R Qd) rs M (λi=>T.enc (ρ.c i))/\Cf H5 (vm H R Qd) qs (N-M) (λj=>T.enc (x.c (N-n-1-j)))/\s=x*f+ρ/\Dg ρ M/\Dg x (N-n)/\(∀i,i<M-n->x.c i=0)/\M<=N/\(M=N\/n<=M))/\(match H5 R with|some (.lst xs)=>xs.length|_=>0)<M:=λH5 rs' o2 o3 g5 e1 e2 c1 c2=>by
   refine⟨⟨g5,M-1,_,_,rs',_,_,_,_,rfl,e1,e2,c1,c2,MZ hs,F_ hf c' dρ,Lb XD c' dx,λi hi=>Qc XD c' UA (by omega),by omega,.inr (by omega)⟩,?_⟩
   rw[e1];show rs'.length<M
   rw[c1.len];omega
  refine⟨_,rfl,a,rfl,⟨T,O.mono gB ja⟩,_,rfl,λ_ h=>h,a,T,ld,ρ.c (M-1),rfl,O.mono gB ja,rb.any,λz H4 g4=>?_,λz H4 g4=>?_⟩
  ·exact⟨_,rfl,cX (done H4 _ _ _ (gB.trans g4) (g4 _ _ O2) (g4 _ _ UD) ((Cs.same g4).congr λi hi=>by rw[vj z]) (UE.same g4))⟩
  ·refine⟨_,rfl,fE ?_⟩
   refine⟨_,rfl,_,rfl,by omega,by omega,?_⟩
   rw[Yp];refine dF (λi σ H5=>ay H H5/\∃(rs:List V) (o2 o3:Option V),σ=[Rq a,j? u,Rq p',Rq R,Rq Qd,Iq (n),j? ld,o2,o3]/\H5 R=j? (.lst rs)/\H5 Qd=j? (.lst (qs++[ld]))/\
    Cf H5 (vm H R Qd) rs (M-1) (λj=>T.enc (if j<M-1-n+i then (nv f ρ M n).c j else ρ.c j))/\Cf H5 (vm H R Qd) (qs++[ld]) (N-(M-1)) (λj=>T.enc ((x+mon (ρ.c (M-1)) (M-1-n)).c (N-n-1-j)))/\Rep H5 (vm H R Qd) ld (T.enc (ρ.c (M-1))))
    ⟨gB.trans g4,_,_,_,rfl,g4 _ _ O2,g4 _ _ UD,(Cs.same g4).congr λi hi=>?_,UE.same g4,rb.same g4⟩ ?_ ?_
   ·by_cases y:i<M-1-n+0
    ·rw[Wx y,Dk y]
    ·rw[Ww y]
   ·rintro i σ H5 hi ⟨g5,rs',o2,o3,rfl,e1,e2,c1,c2,r5⟩
    refine⟨_,rfl,R,_,rfl,.inl (aU.of e1),_,rfl,_,_,rfl,rfl,_,rfl,_,_,rfl,rfl,?_⟩
    have ep:((rs'.length:Nat):Int)-(n:Int)+(0+(i:Int))=((M-1-n+i:Nat):Int):=by rw[c1.len];omega
    show gG 8 (V.int (((rs'.length:Nat):Int)-(n:Int)+(0+(i:Int)))) _ _ _
    rw[ep];obtain⟨cv,hcv,VX⟩:=c1.at_ (M-1-n+i) (by omega)
    rw[Ww (by omega)] at VX
    obtain⟨fv,hfv,rfv⟩:=C'.at_ i (by omega)
    refine⟨_,rfl,a,rfl,⟨T,O.mono g5 ja⟩,_,rfl,_,rfl,R,_,_,_,rfl,rfl,aU.of e1,bF hcv,?_⟩
    refine⟨_,rfl,a,rfl,⟨T,O.mono g5 ja⟩,_,rfl,_,rfl,_,rfl,p',_,_,_,rfl,rfl,aU.of (g5 _ _ Ff),by rw[Z8];exact bF hfv,λ_ h=>h,a,T,ld,fv,ρ.c (M-1),f.c i,rfl,O.mono g5 ja,r5.any,rfv.same g5,λr6 H6 g6 rr=>?_⟩
    have Ku:=g5.trans g6;refine⟨λ_ h=>g6 _ _ h,a,T,cv,r6,ρ.c (M-1-n+i),_,rfl,O.mono Ku ja,(VX.same g6).any,rr.any,λr7 H7 g7 Cp=>?_⟩
    have RH:=Ku.trans g7;have e17:H7 R=j? (.lst rs'):=g7 _ _ (g6 _ _ e1);refine⟨_,rfl,_,rfl,R,_,_,M-1-n+i,rfl,rfl,e17,by rw[c1.len];exact Ac (by omega),?_⟩
    have vI:=g6.trans g7;refine⟨RH.aJ QL _,rs'.set (M-1-n+i) r7,_,_,rfl,aq,by rw[aH XC.symm];exact vI _ _ e2,?_,(c2.same vI).nW λb kk=>kk.2.1,(r5.same vI).nW λb kk=>kk.2.1⟩
    refine(((c1.same vI).set (by omega) (Cp.off2 Ku (g6 _ _ e1) (g6 _ _ e2))).congr λj hj=>?_).nW λb kk=>kk.2.1
    by_cases y:j=M-1-n+i
    ·rw[Wx y,Wx (by omega),y,Gb]
    ·rw[Ww y]
     by_cases y2:j<M-1-n+i
     ·rw[Wx y2,Wx (by omega)]
     ·rw[Ww y2,Ww (by omega)]
   ·rintro σ H5 ⟨g5,rs',o2,o3,rfl,e1,e2,c1,c2,r5⟩
    refine done H5 _ _ _ g5 e1 e2 (c1.congr λi hi=>?_) c2
    rw[Wx (by omega)]
 ·have c':M<=n:=Wp λz=>c (Wy (by omega))
  refine⟨_,rfl,.inl ⟨rfl,_,aU.of eQ⟩,Qd,qs,rfl,rfl,eQ,?_⟩
  have gB:ay H (upd H2 Qd (.lst qs.reverse)):=gg.aJ hQH _;have O2:(upd H2 Qd (.lst qs.reverse)) R=j? (.lst rs):=by rw[aH XC];exact eR
  have Cs:Cf (upd H2 Qd (.lst qs.reverse)) (vm H R Qd) rs M (λi=>T.enc (ρ.c i)):=cρ.nW λb kk=>kk.2.2
  have eNM:N-M=N-n:=by omega
  have UE:Cf (upd H2 Qd (.lst qs.reverse)) (vm H R Qd) qs.reverse (N-n) (λj=>T.enc (x.c j)):=by
   rw[eNM] at cx;refine(cx.rev.nW λb kk=>kk.2.2).congr λi hi=>?_
   have:N-n-1-(N-n-1-i)=i:=by omega
   rw[this]
  have UD:(upd H2 Qd (.lst qs.reverse)) Qd=j? (.lst qs.reverse):=aq;generalize upd H2 Qd (.lst qs.reverse)=HB at gB O2 Cs UE UD;refine⟨_,rfl,_,rfl,_,rfl,a,T,.ref R,M,ρ,bL H,rfl,O.mono gB ja,?_,dρ,by omega,λr m H5 hm nz g5 rr=>?_⟩
  ·exact(Cs.imp λb o h kk=>⟨h,kk.1⟩).rep O2 QL
  ·refine⟨aZ rfl,λt ht=>?_⟩
   have kt:=av ht (.tup [.ref Qd,r]);have g6:=(gB.trans g5).trans kt;refine q t (.ref Qd) r m x ρ _ g6 ((gB.trans g5).free ht) aq ?_ ?_ hs dx nz (by omega)
   ·exact(UE.imp λb o h kk=>⟨kt _ _ (g5 _ _ h),kk.1⟩).rep (kt _ _ (g5 _ _ UD)) hQH
   ·exact rr.imp λb o h kk=>⟨kt _ _ h,kk.elim (λz=>gB.free z) id⟩
end
section
variable {k:Nat} {J:L2.Kind}
theorem GL (B:c7 mg)(O:TwB P w K mg base k J)(N1:8<=k)(fJ:b8 P w K mg base 8 "copied" pI (kI 8))(dD:b8 P w K mg base (k+1) "scaled_poly" AF (pC J))(F:Src K mg "monic_of" qm dR):b8 P w K mg base (k+2) "monic_of" dR (Dl J):=by
 refine F.ok GJ (λvs H Q E h=>?_) (λfa cdv A outer s H vs Q E hr h=>?_)
 ·obtain⟨a,T,v,n,s,rfl,_⟩:=h;rfl
 obtain⟨a,T,v,n,s,rfl,ja,rv,ds,hl,hn,q⟩:=h;obtain⟨p,vs,rfl,hp,_,C⟩:=id rv.cf;have hb:=(O.bd ja).2;obtain⟨lv,O3,rlv⟩:=C.at_ n (by omega)
 refine⟨_,ai (bX (aS (gZ (K:=K) rfl hr.units) (bJ (aP (K:=K) rfl) (pv 1) (tP nV au) (λ_ _=>rfl)) (aO O.one hr (pv 0) ) (a_ _))
   (ao (aD (aG fJ hr (af (pv 1) ah))))
   (aW))
  (ao (aD (aG dD hr (af (pv 0) (af (bh O.back hr (pv 0) (af (bJ (aP (K:=K) rfl) (pv 1) (tP nV au) (λ_ _=>rfl)) ah)) (af (pv 1) ah)))))),?_⟩
 have a1:HW vs (-1)=j? lv:=qe C.len O3;refine⟨_,rfl,_,rfl,p,_,_,_,rfl,rfl,aU.of hp,a1,?_⟩
 refine⟨_,rfl,a,rfl,⟨T,ja⟩,λ_ h=>h,a,T,rfl,ja,λr1 H1 g1 t_=>?_⟩
 refine tT (rlv.same g1) t_ (T.fl _) (T.fl _) (by omega) (by omega) (λe=>?_) (λe=>?_)
 ·refine⟨_,rfl,fE ?_⟩
  have e1:s.c n=1:=T.inj _ _ e;refine⟨_,rfl,.ref p,_,7,rfl,rfl,(cO T (by omega) s).mono (by omega),rv.same g1,λr H2 g2 rr _=>?_⟩
  refine q r 1 H2 (by rw[e1];exact zB) (g1.trans g2) ?_
  rw[Fx];exact rr.older g1
 ·refine⟨_,rfl,cX ?_⟩
  refine⟨_,rfl,_,rfl,a,rfl,⟨T,O.mono g1 ja⟩,_,rfl,_,rfl,p,_,_,_,rfl,rfl,aU.of (g1 _ _ hp),a1,λ_ h=>h,a,T,lv,s.c n,rfl,O.mono g1 ja,rlv.same g1,hl,λr2 H2 y hy g2 yt=>?_⟩
  refine⟨_,rfl,a,T,r2,.ref p,y,n+1,s,rfl,O.mono (g1.trans g2) ja,yt.any,rv.same (g1.trans g2),by omega,λr3 H3 g3 Kv=>?_⟩
  exact q r3 y H3 hy ((g1.trans g2).trans g3) (Kv.older (g1.trans g2))
theorem EH (B:c7 mg)(O:TwB P w K mg base k J)(cD:b8 P w K mg base (k+2) "over_monic" dM (lP J))(dD:b8 P w K mg base (k+1) "scaled_poly" AF (pC J))(F:Src K mg "over_poly" nE dM):b8 P w K mg base (k+3) "over_poly" dM (zK J):=by
 refine F.ok lT (λvs H Q E h=>?_) (λfa cdv A outer s H vs Q E hr h=>?_)
 ·obtain⟨a,T,u,v,N,n,s,f,rfl,_⟩:=h;rfl
 obtain⟨a,T,u,v,N,n,s,f,rfl,ja,ru,ds,hN,rv,df,hl,hn,q⟩:=h;obtain⟨p,vs,rfl,hp,_,C⟩:=id rv.cf;have hb:=(O.bd ja).2;obtain⟨lv,O3,rlv⟩:=C.at_ n (by omega)
 refine⟨_,ai (bX (aS (gZ (K:=K) rfl hr.units) (bJ (aP (K:=K) rfl) (pv 2) (tP nV au) (λ_ _=>rfl)) (aO O.one hr (pv 0) ) (a_ _))
   (ao (aD (aG cD hr (af (pv 0) (af (pv 1) (af (pv 2) ah))))))
   (aW))
  (ai (aE (i:=3) lT.nd rfl (z? rfl) (bh O.back hr (pv 0) (af (bJ (aP (K:=K) rfl) (pv 2) (tP nV au) (λ_ _=>rfl)) ah)))
  (ai (mD (aG cD hr (af (pv 0) (af (pv 1) (af (aG dD hr (af (pv 0) (af (pv 3) (af (pv 2) ah)))) ah)))) (cU (n:=2) (K:=K) rfl rfl (aQ (aA (i:=4) lT.nd rfl (z? rfl)) (aQ (aA (i:=5) lT.nd rfl (z? rfl)) cT))))
  (ao (aD (q_ (af (aG dD hr (af (pv 0) (af (pv 3) (af (pv 4) ah)))) (af (pv 5) ah))))))),?_⟩
 have a1:HW vs (-1)=j? lv:=qe C.len O3;refine⟨_,rfl,_,rfl,p,_,_,_,rfl,rfl,aU.of hp,a1,?_⟩
 refine⟨_,rfl,a,rfl,⟨T,ja⟩,λ_ h=>h,a,T,rfl,ja,λr1 H1 g1 t_=>?_⟩
 refine tT (rlv.same g1) t_ (T.fl _) (T.fl _) (by omega) (by omega) (λe=>?_) (λe=>?_)
 ·refine⟨_,rfl,fE ?_⟩
  have e1:f.c n=1:=T.inj _ _ e;refine⟨_,rfl,_,rfl,_,rfl,a,T,u,.ref p,N,n,s,f,rfl,O.mono g1 ja,ru.same g1,ds,hN,rv.same g1,⟨e1,df⟩,hn,λt q' r m x y H2 g2 ht et rq rr es dx nz hm=>?_⟩
  exact q t q' r m x y H2 (g1.trans g2) (g1.free ht) et (rq.older g1) (rr.older g1) es dx nz hm
 ·refine⟨_,rfl,cX ?_⟩
  refine⟨_,rfl,a,rfl,⟨T,O.mono g1 ja⟩,_,rfl,_,rfl,p,_,_,_,rfl,rfl,aU.of (g1 _ _ hp),a1,λ_ h=>h,a,T,lv,f.c n,rfl,O.mono g1 ja,rlv.same g1,hl,λr2 H2 y hy g2 yt=>?_⟩
  have oh:=g1.trans g2;refine⟨_,rfl,_,rfl,_,rfl,_,rfl,_,rfl,a,T,r2,.ref p,y,n+1,f,rfl,O.mono oh ja,yt.any,rv.same oh,by omega,λr3 H3 g3 Kv=>?_⟩
  have yu:=oh.trans g3;have hm:Alg.bH (cst y*f) n:=⟨by rw[bS];exact pT hy,λi hi=>by rw[bS,df i hi];exact pW y⟩
  refine⟨a,T,u,r3,N,n,s,cst y*f,rfl,O.mono yu ja,ru.same yu,ds,hN,Kv.any,hm,hn,λt q' r m x z H4 g4 ht et rq rr es dx nz hm'=>?_⟩
  have DC:=yu.trans g4;refine⟨t,_,rfl,iR.of et,rfl,_,_,rfl,_,_,rfl,rfl,?_⟩
  refine⟨_,rfl,_,rfl,_,rfl,a,T,r2,q',y,N-n,x,rfl,O.mono DC ja,(yt.same (g3.trans g4)).any,rq.any,by omega,λr5 H5 g5 Fi=>?_⟩
  refine⟨_,rfl,aZ rfl,λt' ht'=>?_⟩
  have UG:=DC.trans g5;have kt:=av ht' (.tup [r5,r]);refine q t' r5 r m (cst y*x) z _ (UG.trans kt) (UG.free ht') aq ((Fi.older DC).same kt) (((rr.older yu).same g5).same kt) ?_ (λi hi=>by rw[bS,dx i hi];exact pW y) nz hm'
  rw[es];exact Mc x (cst y) f z
theorem AZ (B:c7 mg)(O:TwB P w K mg base k J)(rY:b8 P w K mg base (k+3) "over_poly" dM (zK J))(IY:b8 P w K mg base (k+2) "monic_of" dR (Dl J))(F:Src K mg "common_poly" jX dM):b8 P w K mg base (k+4) "common_poly" dM (rK J):=by
 refine F.ok i_ (λvs H Q E h=>?_) (λfa cdv A outer s H vs Q E hr h=>?_)
 ·obtain⟨a,T,u,v,n,m,s,t,rfl,_⟩:=h;rfl
 obtain⟨a,T,u,v,n,m,s,t,rfl,ja,ru,ds,hn,rv,dt,hm,h0,q⟩:=h;have hb:=(O.bd ja).2;refine⟨_,ai (aE (i:=3) i_.nd rfl (z? rfl) (pv 1))
  (ai (aE (i:=4) i_.nd rfl (z? rfl) (pv 2))
  (ai (iW D? (aS (qb (K:=K) rfl hr.units) (pv 4) (bz ah) (a_ _))
   (ao (HF (i:=3) (j:=4) rfl i_.nd rfl rfl (by decide) rfl rfl (af (pv 4) (af (bJ (eK (K:=K) rfl) (aG rY hr (af (pv 0) (af (pv 3) (af (pv 4) ah)))) au (λ_ _=>rfl)) ah)) rfl)))
  (ao (aD (aG IY hr (af (pv 0) (af (pv 3) ah))))))),?_⟩
 refine⟨_,rfl,_,rfl,?_⟩
 refine iY (λσ H2=>ay H H2/\E6q λ(o1 o2:V) (n m:Nat) (s' t':aF T.α)=>A9q (σ=[Rq a,j? u,j? v,j? o1,j? o2]) (Rep H2 Any o1 (aT T n s')) (Nz T n s') (n<=100) (Rep H2 Any o2 (aT T m t')) (Nz T m t') (m<=100) ((0<n\/0<m)) (LZ s t s' t'))
  (λσ H=>rG σ 4 H) ⟨ay.refl H,u,v,n,m,s,t,rfl,ru,ds,hn,rv,dt,hm,h0,LZ.refl s t⟩ ?_
 clear ru ds hn rv dt hm h0;rintro σ H2 ⟨gg,o1,o2,n,m,s',t',rfl,ru,ds,hn,rv,dt,hm,h0,mx⟩;obtain⟨p,vs,rfl,hp,_,C⟩:=id rv.cf;have Tu:rG [j? (V.ref a),j? u,j? v,j? o1,j? (V.ref p)] 4 H2=m:=by rw[o_ rfl hp];exact C.len
 rw[Tu];refine⟨_,rfl,aZ rfl,λl0 h0'=>?_⟩
 have k0:=av h0' (.lst []);have g2:=gg.trans k0;refine z_ (rv.same k0) ((Cf.nil (ok:=Any) (e:=λ_=>.num 0)).rep aq trivial) (cO T hm t') (nu (n:=0) (by omega) λ_=>.num 0) (by omega) (by omega) (λe=>?_) (λe=>?_)
 ·refine⟨_,rfl,cX ?_⟩
  have m0:=(gQ e).1;subst m0;have t0:t'=0:=dt.dg.Fc;subst t0;have n0:0<n:=h0.elim id λz=>by omega
  obtain⟨n',rfl⟩:∃n',n=n'+1:=⟨n-1,by omega⟩
  have hl:s'.c n'≠0:=ds.last.elim (λz=>by omega) id
  refine⟨_,rfl,_,rfl,a,T,o1,n',s',rfl,O.mono g2 ja,ru.same k0,ds.dg,hl,by omega,λr y H3 hy g3 rr=>?_⟩
  obtain⟨w1,w2,w3⟩:=mx.last hy;refine q r n' (cst y*s') H3 ⟨⟨by rw[bS];exact pT hy,λi hi=>by rw[bS,ds.dg i hi];exact pW y⟩,w1,w2,w3⟩ (by omega) (g2.trans g3) (rr.older g2)
 ·refine⟨_,rfl,fE (win ?_)⟩
  have m0:m≠0:=λz=>e (by rw[z];rfl)
  obtain⟨m',rfl⟩:∃m',m=m'+1:=⟨m-1,by omega⟩
  have hl:t'.c m'≠0:=dt.last.elim (λz=>by omega) id
  refine⟨_,rfl,_,rfl,_,rfl,_,rfl,a,T,o1,.ref p,n,m',s',t',rfl,O.mono g2 ja,ru.same k0,ds.dg,hn,rv.same k0,dt.dg,hl,by omega,λtt q' r j x y H3 g3 ht et rq rr es dx nz hj=>?_⟩
  have LD:=g2.trans g3;refine⟨tt,_,_,_,rfl,rfl,iR.of et,rfl,?_⟩
  obtain⟨pr,zs,rfl,hpr,_,Cr⟩:=id rr.cf;refine⟨_,_,rfl,⟨LD,.ref p,.ref pr,m'+1,j,t',y,rfl,rv.same (k0.trans g3),dt,hm,rr.any,nz,by omega,.inl (by omega),mx.step ⟨_,dx⟩ es⟩,?_⟩
  show rG [j? (V.ref a),j? u,j? v,j? (V.ref p),j? (V.ref pr)] 4 H3<m'+1
  rw[o_ rfl hpr,Cr.len];omega
theorem yw (B:c7 mg)(O:TwB P w K mg base k J)(cD:b8 P w K mg base (k+2) "over_monic" dM (lP J))(gF:b8 P w K mg base (k+1) "times_poly" dM (i6 J))(F:Src K mg "power_by" qo Lx):b8 P w K mg base (k+3) "power_by" Lx (Dm J):=by
 refine F.ok fW (λvs H Q E h=>?_) (λfa cdv A outer s H vs Q E hr h=>?_)
 ·obtain⟨a,T,u,v,m,d,n,s,f,rfl,_⟩:=h;rfl
 obtain⟨a,T,u,v,m,d,n,s,f,rfl,ja,ru,ds,hm,rv,hf,d1,d2,n1,n2,q⟩:=h;refine⟨_,ai (aE (i:=4) fW.nd rfl (z? rfl) (bz (af (aO O.one hr (pv 0) ) ah)))
  (ai (aE (i:=5) fW.nd rfl (z? rfl) (pv 1))
  (ai (aE (i:=6) fW.nd rfl (z? rfl) (pv 2))
  (ai (iW D? (aS oV (pv 6) au (a_ _))
   (ai (bX (aS tQ (aM dj (pv 6) au) au (a_ _))
    (ao (aE (i:=4) fW.nd rfl (z? rfl) (bJ (eK (K:=K) rfl) (aG cD hr (af (pv 0) (af (aG gF hr (af (pv 0) (af (pv 4) (af (pv 5) ah)))) (af (pv 3) ah)))) au (λ_ _=>rfl))))
    (aW))
   (ai (aE (i:=6) fW.nd rfl (z? rfl) (aM kD (pv 6) au))
   (ao (bX (aS oV (pv 6) au (a_ _))
    (ao (aE (i:=5) fW.nd rfl (z? rfl) (bJ (eK (K:=K) rfl) (aG cD hr (af (pv 0) (af (aG gF hr (af (pv 0) (af (pv 5) (af (pv 5) ah)))) (af (pv 3) ah)))) au (λ_ _=>rfl))))
    (aW))))))
  (ao (aD (pv 4)))))),?_⟩
 refine⟨_,rfl,a,rfl,⟨T,ja⟩,λ_ h=>h,a,T,rfl,ja,λr1 H1 g1 t_=>?_⟩
 refine⟨aZ rfl,λl1 hl1=>?_⟩
 have k1:=av hl1 (.lst [r1]);have g2:=g1.trans k1;refine⟨_,rfl,_,rfl,?_⟩
 have r0:Rep (upd H1 l1 (.lst [r1])) (bL H) (.ref l1) (aT T 1 (1:aF T.α)):=by
  refine(Cf.push (n:=0) .nil ?_:Cf _ _ ([]++[r1]) 1 _).rep aq (g1.free hl1)
  exact t_.same k1
 refine iY (λσ H2=>ay H H2/\E7q λ(o1 o2:V) (i j l:Nat) (y z:aF T.α)=>A9q (σ=[Rq a,j? u,Iq (n),j? v,j? o1,j? o2,Iq (l)]) (Rep H2 (bL H) o1 (aT T i y)) (Dg y i) (i<=40) (Rep H2 Any o2 (aT T j z)) (Dg z j) (j<=40) (Cg f (s ^ n) (y*z ^ l)) ((0<l\/Nz T i y/\i<=d)))
  (λσ _=>match σ with | [_,_,_,_,_,_,j? (.int l)]=>l.toNat|_=>0) ⟨g2,.ref l1,u,1,m,n,1,s,rfl,r0,Dg.one,by omega,ru.same g2,ds,hm,by rw[sP];exact Cg.refl _ _,.inl (by omega)⟩ ?_
 rintro σ H2 ⟨gg,o1,o2,i,j,l,y,z,rfl,ry,dy,hi,rz,dz,hj,hc,hl⟩;refine⟨_,rfl,_,_,rfl,rfl,_,rfl,wB (λc=>win ?_) (λc=>?_)⟩
 ·have l0:0<l:=by have:=Wz c;omega
  have pz:aX z:=⟨_,dz⟩;have py:aX y:=⟨_,dy⟩;have two:∀(o3 o4:V) (i3 j3:Nat) (y3 z3:aF T.α) (H3:Hp) (R C:VK),(∀r2 H4,lP J [.ref a,r2,v] H4 (λx1 H5=>Mw K x1 (.int 1) H5 R) E0->C r2 H4)->ay H H3->Rep H3 Any o3 (aT T i3 y3)->Dg y3 i3->i3<=40->Rep H3 Any o4 (aT T j3 z3)->Dg z3 j3->j3<=40->(∀r e w H4,ay H3 H4->Rep H4 (bL H) r (aT T e w)->Nz T e w->e<=d->Cg f (y3*z3) w->R r H4)->
   i6 J [.ref a,o3,o4] H3 C E0:=λo3 o4 i3 j3 y3 z3 H3 R C hC g3 r3 d3 h3 r4 d4 h4 hR=>by
   refine⟨a,T,o3,o4,i3,j3,y3,z3,rfl,O.mono g3 ja,r3,d3,r4,d4,by omega,λr2 H4 g4 yt=>?_⟩
   have Hi:=g3.trans g4;refine hC r2 H4 ⟨a,T,r2,v,_,d,y3*z3,f,rfl,O.mono Hi ja,yt.any,u5 d3 d4,by split <;> omega,rv.same Hi,hf,by omega,λt q' r e x w H5 g5 ht et rq rr es dx nz he=>?_⟩
   exact⟨t,_,_,_,rfl,rfl,iR.of et,rfl,hR r e w H5 (g4.trans g5) (rr.older Hi) nz he (Cg.Hu ⟨_,dx⟩ es)⟩
  refine⟨_,rfl,_,_,rfl,rfl,(show(2:Int)≠0 by decide),rfl,_,rfl,?_⟩
  apply merge (M:=λσ HM=>ay H HM/\VT λ(o3:V) (i3:Nat) (y3:aF T.α)=>A7q (σ=[Rq a,j? u,Iq (n),j? v,j? o3,j? o2,Iq (l)]) (Rep HM (bL H) o3 (aT T i3 y3)) (Dg y3 i3) (i3<=40) (Rep HM Any o2 (aT T j z)) (Cg f (s ^ n) (y3*(z*z) ^ (l / 2))) ((0<l / 2\/Nz T i3 y3/\i3<=d)))
  case h1=>
   intro key;by_cases c2:l % 2=1
   ·refine ug (by show V.int ((l:Int).fmod 2)=V.int 1;rw[vh,c2];rfl) ?_
    refine⟨_,rfl,_,rfl,_,rfl,_,rfl,two o1 o2 i j y z H2 _ _ (λr2 H4 h=>⟨_,rfl,h⟩) gg ry.any dy hi rz dz hj λr e w H4 g4 rr nz he hcw=>?_⟩
    refine key _ _ ⟨gg.trans g4,r,e,w,rfl,rr,nz.dg,by omega,rz.same g4,?_,.inr ⟨nz,he⟩⟩
    rw[Fy y z c2] at hc;exact hc.trans (Cg.mul ⟨_,nz.dg⟩ ((pz.mul pz).pow _) hcw (Cg.refl _ _))
   ·refine oZ (λz=>c2 (by have z':V.int ((l:Int).fmod 2)=V.int 1:=z;have:=V.int.inj z';rw[vh] at this;omega)) ?_
    refine key _ _ ⟨gg,o1,i,y,rfl,ry,dy,hi,rz,?_,.inl (by omega)⟩
    rw[wk y z (by omega)] at hc
    exact hc
  case h2=>
   rintro σ HM ⟨gm,o3,i3,y3,rfl,r3,d3,h3,UH,hc3,hl3⟩;refine⟨_,rfl,_,_,rfl,rfl,(Bd.small (x:=2) (by decide) (by decide)).dv (by decide),?_⟩
   show gG 6 (V.int ((l:Int).fdiv 2)) _ _ _
   rw[F8];refine⟨_,rfl,_,_,rfl,rfl,_,rfl,wB (λc3=>?_) (λc3=>?_)⟩
   ·refine⟨_,rfl,_,rfl,_,rfl,_,rfl,two o2 o2 j j z z HM _ _ (λr2 H4 h=>⟨_,rfl,h⟩) gm UH dz hj UH dz hj λr e w H4 g4 rr nz he hcw=>?_⟩
    refine⟨⟨gm.trans g4,o3,r,i3,e,l / 2,y3,w,rfl,r3.same g4,d3,h3,rr.any,nz.dg,by omega,?_,hl3⟩,?_⟩
    ·exact hc3.trans (Cg.mul ⟨_,d3⟩ ((pz.mul pz).pow _) (Cg.refl _ _) (Cg.pow ⟨_,nz.dg⟩ (pz.mul pz) hcw _))
    ·show((l / 2:Nat):Int).toNat<((l:Int)).toNat
     omega
   ·have l20:l / 2=0:=by
     refine Wb λz=>c3 (Wy ?_)
     omega
    refine⟨⟨gm,o3,o2,i3,j,l / 2,y3,z,rfl,r3,d3,h3,UH,dz,hj,?_,hl3⟩,?_⟩
    ·rw[l20,br];rw[l20,br] at hc3;exact hc3
    ·show((l / 2:Nat):Int).toNat<((l:Int)).toNat
     omega
 ·have l0:l=0:=by
   refine Wb λz=>c (Wy ?_)
   omega
  obtain⟨nz,hid⟩:=hl.elim (λz=>by omega) id
  refine⟨_,rfl,q o1 i y H2 ?_ nz hid gg ry⟩
  rw[l0,br,wj] at hc;exact hc
theorem EI (B:c7 mg)(O:TwB P w K mg base k J)(F:Src K mg "letter_of" nG ["tower"]):b8 P w K mg base (k+1) "letter_of" ["tower"] (qg J):=by
 refine F.ok EC (λvs H Q E h=>?_) (λfa cdv A outer s H vs Q E hr h=>?_)
 ·obtain⟨a,T,rfl,_⟩:=h;rfl
 obtain⟨a,T,rfl,ja,q⟩:=h;refine⟨_,ao (aD (bz (af (aO O.zero hr (pv 0) ) (af (aO O.one hr (pv 0) ) ah)))),?_⟩
 refine⟨_,rfl,a,rfl,⟨T,ja⟩,λ_ h=>h,a,T,rfl,ja,λr1 H1 g1 t_=>?_⟩
 refine⟨_,rfl,a,rfl,⟨T,O.mono g1 ja⟩,λ_ h=>h,a,T,rfl,O.mono g1 ja,λr2 H2 g2 yt=>?_⟩
 refine⟨aZ rfl,λl hl=>?_⟩
 have kl:=av hl (.lst [r1,r2]);have oh:=g1.trans g2;refine q _ _ (oh.trans kl) ?_
 exact((Cf.push (n:=1) (Cf.push (n:=0) .nil ((t_.same g2).same kl)) ((yt.older g1).same kl):Cf _ (bL H) [r1,r2] 2 λi=>T.enc ((X:aF T.α).c i))).rep aq (oh.free hl)
theorem lK (B:c7 mg)(O:TwB P w K mg base k J)(cD:b8 P w K mg base (k+2) "over_monic" dM (lP J))(rZ:b8 P w K mg base (k+1) "letter_of" ["tower"] (qg J))(IZ:b8 P w K mg base (k+3) "power_by" Lx (Dm J))(F:Src K mg "letter_to_powers" fz yE):b8 P w K mg base (k+4) "letter_to_powers" yE (wI J):=by
 refine F.ok gJ (λvs H Q E h=>?_) (λfa cdv A outer s H vs Q E hr h=>?_)
 ·obtain⟨a,T,v,d,many,f,rfl,_⟩:=h;rfl
 obtain⟨a,T,v,d,many,f,rfl,ja,rv,hf,d1,d2,acY,q⟩:=h;refine⟨_,ai (aE (i:=3) gJ.nd rfl (z? rfl) (bz (af (bJ (eK (K:=K) rfl) (aG cD hr (af (pv 0) (af (aG rZ hr (af (pv 0) ah)) (af (pv 1) ah)))) au (λ_ _=>rfl)) ah)))
  (ai (cE D? rfl (bI rfl B.range (af (pv 2) ah)) (aA (i:=4) gJ.nd rfl (z? rfl))
   (ao (jS (u9 S? H! I! eW (pv 3) (af (aG IZ hr (af (pv 0) (af (bJ (aP (K:=K) rfl) (pv 3) (tP nV au) (λ_ _=>rfl)) (af (aY (K:=K) rfl (pv 0)) (af (pv 1) ah))))) ah)))))
  (ao (aD (pv 3)))),?_⟩
 refine⟨_,rfl,_,rfl,a,T,rfl,ja,λr1 H1 g1 t_=>?_⟩
 refine⟨_,rfl,a,T,r1,v,2,d,X,f,rfl,O.mono g1 ja,t_.any,Dg.mon 1 1,by omega,rv.same g1,hf,by omega,λt q' r m x y H2 g2 ht et rq rr es dx nz hm=>?_⟩
 have oh:=g1.trans g2;refine⟨t,_,_,_,rfl,rfl,iR.of et,rfl,?_⟩
 refine⟨aZ rfl,λL hL=>?_⟩
 have kL:=av hL (.lst [r]);have g3:=oh.trans kL;have XE:H L=q?:=oh.free hL;refine⟨_,rfl,_,rfl,by omega,by omega,?_⟩
 rw[Yp];refine dF (λi σ H4=>ay H H4/\GG λ(vs:List V) (o:Option V)=>LA (σ=[Rq a,j? v,Iq (many),Rq L,o]) (H4 L=j? (.lst vs)) (vs.length=i+1) (∀j,j<=i->∃v k y,vs[j]?=j? v/\Rep H4 (Off H L) v (aT T k y)/\Nz T k y/\k<=d/\Cg f ((X:aF T.α) ^ (T.p ^ j)) y)) ?_ ?_ ?_
 ·refine⟨g3,[r],_,rfl,aq,rfl,λj hj=>?_⟩
  obtain rfl:j=0:=by omega
  refine⟨r,m,y,rfl,?_,nz,hm,?_⟩
  ·exact(rr.older g1).imp λb o h kk=>⟨kL _ _ h,kk,aL h hL⟩
  ·rw[Wo,qX]
   exact Cg.Hu ⟨_,dx⟩ es
 ·rintro i σ H4 hi ⟨g4,vs,o,rfl,eL,lL,hel⟩
  obtain⟨lv,k',y',O3,rlv,nz',hk',aat⟩:=hel i (Yd _);have j4:=O.mono g4 ja;obtain⟨C,dx,fs,qv,hcl,hna,hlk⟩:=O.fld j4;have pp:=bM T.pr;refine⟨_,rfl,.inl ⟨rfl,_,aU.of eL⟩,_,rfl,_,rfl,_,rfl,L,_,_,_,rfl,rfl,aU.of eL,qe lL O3,_,rfl,a,C,dx,_,_,rfl,qv,hcl,hna,hlk,_,rfl,?_⟩
  refine⟨a,T,lv,v,k',d,T.p,y',f,rfl,j4,rlv.any,nz'.dg,by omega,rv.same g4,hf,d1,d2,by omega,by omega,λr' k2 y2 H5 hcg N2 hk2 g5 Fi=>?_⟩
  have g45:=g4.trans g5;refine⟨L,vs,r',rfl,rfl,g5 _ _ eL,by rw[lL,C?];omega,?_⟩
  refine⟨g45.aJ XE _,vs++[r'],_,rfl,aq,by rw[Yk,lL];rfl,λj hj=>?_⟩
  by_cases z:j<=i
  ·obtain⟨v1,k1,y1,h1,h2,h3,h4,h5⟩:=hel j z
   refine⟨v1,k1,y1,by rw[Yx (by omega)];exact h1,?_,h3,h4,h5⟩
   exact h2.imp λb o h kk=>⟨by rw[aH kk.2];exact g5 _ _ h,kk⟩
  ·obtain rfl:j=i+1:=by omega
   refine⟨r',k2,y2,by rw[<- lL,Zc],?_,N2,hk2,?_⟩
   ·exact(Fi.vg g4 eL).nW λb kk=>kk.2
   ·rw[Wi,gH]
    exact(Cg.pow ⟨_,nz'.dg⟩ (aX.X.pow _) aat _).trans hcg
 ·rintro σ H4 ⟨g4,vs,o,rfl,eL,lL,hel⟩
  refine⟨_,rfl,q L vs H4 g4 ⟨XE,eL,lL,λi hi=>?_⟩⟩
  obtain⟨v,k',y,h1,h2,h3,h4,h5⟩:=hel i hi;exact⟨v,k',y,h1,h2.imp λb o h kk=>⟨h,kk.1⟩,h3,h4,h5⟩
end
section
theorem EJ (B:c7 mg)(F:Src K mg "primes_in" fX ["n"]):b8 P w K mg base 1 "primes_in" ["n"] Ag:=by
 refine F.ok ED (λvs H Q E h=>?_) (λfa cdv A outer s H vs Q E hr h=>?_)
 ·obtain⟨n,rfl,_⟩:=h;rfl
 obtain⟨n,rfl,n1,n2,q⟩:=h;refine⟨_,ao (aD (M9 (nY (N:=["r","n"]) (sl:=[q?,j? 0]) "r" (aj fX) ["n"] rfl rfl (by decide +kernel)) rfl (l_ rfl B.range (af au (af (aM d9 (pv 0) au) ah))) (λ_ _ _ _ _=>(aA (i:=0) (Yk_ ["r","n"]) rfl (Or.inr rfl))) (λ_ _ _ _ _=>(PZ (PW.pt (zV (aS tQ (aM dj (pv 1) (pv 0)) au (a_ _)) (u6 (cK (aI (wF (K:=K) rfl rfl) rfl B.all Ig (af (cA (aK (N:=["low","r"]) (sl:=[q?,j? 0]) (An (Iz ((bY fX).getD 0 (.Pass ⟨0,0,0,0⟩))) (aj fX)) ["r","n"] rfl rfl (by decide +kernel)) rfl (l_ rfl B.range (af au (af (pv 0) ah))) (λ_ _ _ _ _=>(aA (i:=0) (Yk_ ["low","r"]) rfl (z? rfl))) (λ_ _ _ _ _=>bf) (λ_ _ _ _ _=>(pY FO (aM dj (pv 1) (pv 0)) au (a_ _)))) ah)))))))) (λ_ _ _ _ _=>(pv 0)))),?_⟩
 refine⟨_,rfl,_,_,rfl,rfl,_,_,rfl,by omega,λD hD=>?_⟩
 have en:((n:Int)+1-2).toNat=n-1:=by omega
 rw[en];refine dN (λi ys H2=>ay H H2/\ys=(OW n i).map λr:Nat=>V.int (r:Int)) ⟨av hD _,rfl⟩ ?_ ?_
 ·rintro i m ys H2 hm hi hy hlen ⟨gg,rfl⟩
  have e2:(2:Int)+(i:Int)=((i+2:Nat):Int):=by omega
  rw[e2];refine⟨_,rfl,_,rfl,_,_,rfl,rfl,by show((i+2:Nat):Int)≠0;omega,rfl,_,rfl,?_⟩
  by_cases c:n % (i+2)=0
  ·refine ug (by show V.int ((n:Int).fmod ((i+2:Nat):Int))=V.int 0;rw[zI,c];rfl) ?_
   refine⟨_,rfl,_,_,rfl,by omega,λD2 AY=>?_⟩
   have en2:(((i+2:Nat):Int)-2).toNat=i:=by omega
   rw[en2];refine dN (λj zs H3=>ay H2 H3/\zs=((Yi j).map λj=>decide ((i+2) % (j+2)≠0)).map V.bl) ⟨av AY _,rfl⟩ ?_ ?_
   ·rintro j m2 zs H3 hm2 hj hz hlen2 ⟨g3,rfl⟩
    have e3:(2:Int)+(j:Int)=((j+2:Nat):Int):=by omega
    rw[e3];refine⟨_,rfl,_,rfl,_,_,rfl,rfl,by show((j+2:Nat):Int)≠0;omega,rfl,?_⟩
    refine CW.emit hm2 hj (by rw[C?];omega) hz hlen2 ⟨ay.aJ g3 AY _,?_⟩
    rw[Z7,Yr,Yr];congr 1
    show [V.bl (!decide (V.int (((i+2:Nat):Int).fmod ((j+2:Nat):Int))=V.int 0))]=[V.bl (decide ((i+2) % (j+2)≠0))]
    rw[zI];congr 2
    by_cases z:(i+2) % (j+2)=0
    ·rw[z];rfl
    ·rw[Wy (p:=_≠0) z,W0 (λy=>z (by have:=V.int.inj y;omega))];rfl
   ·rintro zs H3 hz ⟨g3,rfl⟩
    refine⟨D2,_,rfl,aU.of hz,?_⟩
    refine⟨_,rfl,?_⟩
    have ap:=SW (r:=i+2) (by omega)
    rw[Nat.add_sub_cancel] at ap;by_cases z:((Yi i).map λj=>decide ((i+2) % (j+2)≠0)).all id=true
    ·rw[z]
     refine fE ⟨_,rfl,?_⟩
     refine CW.emit hm hi (by rw[C?];omega) (g3 _ _ hy) hlen ⟨ay.aJ (gg.trans g3) hD _,?_⟩
     rw[Ae,Wx ⟨ap.mp z,Nat.dvd_of_mod_eq_zero c⟩,Yr];rfl
    ·rw[Bool.not_eq_true] at z
     rw[z];refine cX (CW.skip hm hi (g3 _ _ hy) hlen ⟨gg.trans g3,?_⟩)
     rw[Ae,Ww (λy=>by rw[ap.mpr y.1] at z;cases z)]
  ·refine oZ (λz=>c (by have z':V.int ((n:Int).fmod ((i+2:Nat):Int))=V.int 0:=z;have:=V.int.inj z';rw[zI] at this;omega)) ?_
   refine cX (CW.skip hm hi hy hlen ⟨gg,?_⟩)
   rw[Ae,Ww (λy=>c (Nat.mod_eq_zero_of_dvd y.2))]
 ·rintro ys H2 hy ⟨gg,rfl⟩
  exact q D (OW n (n-1)) H2 gg hD hy (Ys (Qf _ _) (by omega)) (Qe n1)
end
section
variable {k:Nat} {J:L2.Kind}
theorem GN (B:c7 mg)(O:TwB P w K mg base k J)(iF:b8 P w K mg base (k+4) "letter_to_powers" yE (wI J))(GO:b8 P w K mg base 1 "primes_in" ["n"] Ag)(gY:b8 P w K mg base (k+4) "common_poly" dM (rK J))(fD:b8 P w K mg base (k+2) "minus_poly" dM (pB J))(F:Src K mg "is_alone" qp dR):b8 P w K mg base (k+5) "is_alone" dR (Ah J):=by
 refine F.ok kO (λvs H Q E h=>?_) (λfa cdv A outer s H vs Q E hr h=>?_)
 ·obtain⟨a,T,v,n,s,rfl,_⟩:=h;rfl
 obtain⟨a,T,v,n,s,rfl,ja,rv,nz,ae8,qt,qf⟩:=h;obtain⟨p,vs,rfl,hp,_,C⟩:=id rv.cf;have hb:=O.bd ja;refine⟨_,ai (bX (PW.pt (mC (aS yd (aI (aN (K:=K) rfl) rfl B.len bR (af (pv 1) ah)) au (a_ _)) (kZ (aS (qb (K:=K) rfl hr.units) (bJ (aP (K:=K) rfl) (pv 1) (tP nV au) (λ_ _=>rfl)) (aO O.one hr (pv 0) ) (a_ _)))))
   (ao (aD gO))
   (aW))
  (ai (aE (i:=2) kO.nd rfl (z? rfl) (aM di (aI (aN (K:=K) rfl) rfl B.len bR (af (pv 1) ah)) au))
  (ai (bX (aS tQ (pv 2) au (a_ _))
   (ao (aD gO))
   (aW))
  (ai (aE (i:=3) kO.nd rfl (z? rfl) (aG iF hr (af (pv 0) (af (pv 1) (af (aM dZ (aO O.degree hr (pv 0) ) (pv 2)) ah)))))
  (ai (bX (aS (qb (K:=K) rfl hr.units) (bJ (aP (K:=K) rfl) (pv 3) (tP nV au) (λ_ _=>rfl)) (bJ (aP (K:=K) rfl) (pv 3) au (λ_ _=>rfl)) (a_ _))
   (ao (aD gO))
   (aW))
  (ai (cE D? rfl (bZ (K:=K) rfl (aG GO hr (af (pv 2) ah))) (aA (i:=4) kO.nd rfl (z? rfl))
   (ai (aE (i:=5) kO.nd rfl (z? rfl) (bJ (aP (K:=K) rfl) (pv 3) (aM kD (aM dZ (aO O.degree hr (pv 0) ) (pv 2)) (pv 4)) (λ_ _=>rfl)))
   (ao (bX (aS (qb (K:=K) rfl hr.units) (aG gY hr (af (pv 0) (af (pv 1) (af (aG fD hr (af (pv 0) (af (pv 5) (af (bJ (aP (K:=K) rfl) (pv 3) au (λ_ _=>rfl)) ah)))) ah)))) (bz (af (aO O.one hr (pv 0) ) ah)) (a_ _))
    (ao (aD gO))
    (aW)))))
  (ao (aD gO))))))),?_⟩
 refine⟨_,rfl,p,_,rfl,.inl (aU.of hp),_,_,rfl,rfl,_,rfl,?_⟩
 rw[C.len];by_cases c2:n<2
 ·refine ug (by omega) (fE ?_)
  refine qf (λ⟨M,e,_,_⟩=>?_) H (ay.refl H)
  have:=M.pos
  omega
 refine oZ (by omega) ?_
 obtain⟨lv,O3,rlv⟩:=C.at_ (n-1) (by omega)
 refine⟨_,rfl,_,rfl,p,_,_,_,rfl,rfl,aU.of hp,qe (n:=n-1) (by rw[C.len];omega) O3,?_⟩
 refine⟨_,rfl,a,rfl,⟨T,ja⟩,λ_ h=>h,a,T,rfl,ja,λr1 H1 g1 t_=>?_⟩
 refine z_ (rlv.same g1) t_ (T.fl _) (T.fl _) (by omega) (by omega) (λe1=>?_) (λe1=>?_)
 rotate_left
 ·refine⟨_,rfl,fE ?_⟩
  refine qf (λ⟨M,e,ef,_⟩=>e1 ?_) H1 g1
  rw[<- ef,show n-1=M.n by omega,M.mon.top]
 obtain⟨M,eM,eF⟩:∃M:Md T.α,M.n+1=n/\M.f=s:=⟨⟨s,n-1,⟨T.inj _ _ e1,by rw[show n-1+1=n by omega];exact nz.dg⟩,by omega⟩,by show n-1+1=n;omega,rfl⟩
 subst eM;subst eF;have qt:=λh:ur T M=>qt (zL.mpr h)
 have qf:=λh:¬ ur T M=>qf (λz=>h (zL.mp z))
 have hn:M.n<=12:=by omega
 have np:=M.pos;clear e1 rlv O3 c2;refine⟨_,rfl,cX ?_⟩
 refine⟨_,rfl,p,_,rfl,.inl (aU.of (g1 _ _ hp)),_,_,rfl,rfl,?_⟩
 rw[C.len];rw[show V.int (((M.n+1:Nat):Int)-1)=V.int (M.n:Int) from W1 V.int (by omega)]
 refine⟨_,rfl,rfl,_,rfl,?_⟩
 by_cases c1:M.n=1
 ·refine ug (by rw[c1];rfl) ?_
  exact qt (.inl c1) H1 g1
 refine oZ (λz=>c1 (by have:=V.int.inj z;omega)) ?_
 refine⟨_,rfl,_,rfl,_,rfl,a,rfl,⟨T,O.mono g1 ja⟩,λ_ h=>h,a,T,rfl,O.mono g1 ja,λH2 g2=>?_⟩
 have oh:=g1.trans g2;refine⟨_,rfl,_,_,rfl,rfl,ue (by omega) (by omega),?_⟩
 have em:(T.d:Int)*(M.n:Int)=((T.d*M.n:Nat):Int):=(Y6 _ _).symm;have bm:T.d*M.n<=144:=Nat.mul_le_mul hb.1 hn;refine⟨a,T,.ref p,M.n,T.d*M.n,M.f,by rw[<- em];rfl,O.mono oh ja,rv.same oh,M.mon,M.pos,by omega,by omega,λL ps H3 g3 pw=>?_⟩
 have yu:=oh.trans g3;obtain⟨v0,k0,y0,h0,r0,XF,hk0,VY⟩:=pw.el 0 (by omega)
 obtain⟨vN,kN,yN,hN,rN,nzN,hkN,cgN⟩:=pw.el (T.d*M.n) (Yd _);rw[Wo,qX] at VY;rw[Nat.pow_mul] at cgN;refine⟨_,rfl,_,rfl,L,_,_,_,rfl,rfl,aU.of pw.at_,qe pw.len hN,_,rfl,L,_,_,_,rfl,rfl,aU.of pw.at_,bF (j:=0) h0,?_⟩
 refine z_ rN r0 (cO T (by omega) yN) (cO T (by omega) y0) (by omega) (by omega) (λe=>?_) (λe=>?_)
 ·refine⟨_,rfl,cX ?_⟩
  have eN0:=(F9 nzN.dg XF.dg e).2;have hx:Cg M.f ((X:aF T.α) ^ ((T.p ^ T.d) ^ M.n)) X:=cgN.trans (by rw[eN0];exact VY.symm)
  refine⟨_,rfl,M.n,rfl,M.pos,by omega,λl rs H4 g4 hl el lr hrs=>?_⟩
  have DC:=yu.trans g4;have lrs:(rs.map λr:Nat=>V.int (r:Int)).length=rs.length:=Yc _
  refine⟨l,rfl,⟨_,aU.of el⟩,fV (xs:=rs.map λr:Nat=>V.int (r:Int)) (λi σ H5=>qT (ay H4 H5) ((∃o1 o2,σ=[Rq a,Rq p,Iq (M.n),Rq L,o1,o2])) (∀r∈rs.take i,∃u v,aX u/\aX v/\u*M.f+v*((X:aF T.α) ^ ((T.p ^ T.d) ^ (M.n / r))-X)=1))
   ⟨ay.refl _,⟨_,_,rfl⟩,λr hr'=>by simp at hr'⟩ (λi σ H5 _ h=>aU.of (h.1 _ _ el)) ?_ ?_⟩
  ·rintro i x σ H5 hx' ⟨g5,⟨o1,o2,rfl⟩,hall⟩
   obtain⟨r,hr',rfl⟩:∃r,rs[i]?=j? r/\x=V.int (r:Int):=by
    rw[Yh] at hx';cases e:rs[i]? with
    | none=>rw[e] at hx';cases hx'
    | some r=>rw[e] at hx';exact⟨r,rfl,(N? hx').symm⟩
   obtain⟨pr,dr⟩:=(hrs r).mp (Yo hr');have r2:=pr.1;have rle:=Nat.le_of_dvd M.pos dr;have UG:=DC.trans g5;have e5:H5 L=j? (.lst ps):=g5 _ _ (g4 _ _ pw.at_);refine⟨_,rfl,_,rfl,a,rfl,⟨T,O.mono UG ja⟩,λ_ h=>h,a,T,rfl,O.mono UG ja,λH6 g6=>?_⟩
   have g16:=UG.trans g6;have ei:(T.d*M.n) / r=T.d*(M.n / r):=Nat.mul_div_assoc _ dr;obtain⟨va,ka,ya,ha,ra,nza,hka,cga⟩:=pw.el (T.d*(M.n / r)) (Yz _ (Nat.div_le_self _ _));rw[Nat.pow_mul] at cga;have e6:H6 L=j? (.lst ps):=g6 _ _ e5;refine⟨_,rfl,_,_,rfl,rfl,ue (by omega) (by omega),_,rfl,_,_,rfl,rfl,(Bd.small (x:=(r:Int)) (by omega) (by omega)).dv (by omega),L,_,_,va,rfl,rfl,aU.of e6,?_,?_⟩
   ·show HW ps (((T.d:Int)*(M.n:Int)).fdiv (r:Int))=j? va
    rw[em,zJ,ei];exact bF ha
   have g36:ay H3 H6:=(g4.trans g5).trans g6;refine⟨_,rfl,_,rfl,_,rfl,_,rfl,_,rfl,L,_,_,_,rfl,rfl,aU.of e6,bF (j:=0) h0,?_⟩
   refine⟨a,T,va,v0,ka,k0,ya,y0,rfl,O.mono g16 ja,(ra.same g36).any,nza.dg,by omega,(r0.same g36).any,XF.dg,by omega,λrm km H7 hkm nzm g7 rrm=>?_⟩
   have g17:=g16.trans g7;have nzf:Nz T (M.n+1) M.f:=⟨M.mon.dg,.inr (by show M.f.c M.n≠0;rw[M.mon.top];exact T.fld.1)⟩
   refine⟨a,T,.ref p,rm,M.n+1,km,M.f,ya-y0,rfl,O.mono g17 ja,rv.same g17,nzf,by omega,rrm.any,nzm,by omega,.inl (by omega),λrg kg gg H8 O4 hkg g8 rrg=>?_⟩
   have g18:=g17.trans g8;refine⟨_,rfl,a,rfl,⟨T,O.mono g18 ja⟩,λ_ h=>h,a,T,rfl,O.mono g18 ja,λr9 H9 g9 LF=>?_⟩
   refine⟨aZ rfl,λl9 Hj=>?_⟩
   have k9:=av Hj (.lst [r9]);have g19:=(g18.trans g9).trans k9;have aaA:Rep (upd H9 l9 (.lst [r9])) Any (.ref l9) (vf 1 λ_=>T.enc 1):=by
    refine(Cf.push (n:=0) .nil ?_:Cf _ _ ([]++[r9]) 1 _).rep aq trivial
    exact(LF.same k9).any
   obtain⟨u1,v1,pu1,pv1,VZ⟩:=O4.sum;obtain⟨w1,pw1,V0⟩:=O4.left;obtain⟨w2,pw2,Tv⟩:=O4.right;refine z_ (rrg.same (g9.trans k9)) aaA (cO T (by omega) gg) (nu (by omega) λ_=>T.fl _) (by omega) (by omega) (λe=>?_) (λe=>?_)
   ·refine⟨_,rfl,cX ?_⟩
    refine⟨((((g5.trans g6).trans g7).trans g8).trans g9).trans k9,⟨_,_,rfl⟩,λr' V1=>?_⟩
    rw[Zx,hr'] at V1;rcases List.mem_append.mp V1 with z|z
    ·exact hall r' z
    ·obtain rfl:r'=r:=by simpa using z
     have e':=gQ e;have kg0:kg=0:=by have:=e'.1;omega
     subst kg0;have g1':gg=1:=by rw[iz O4.mon.dg,O4.mon.top];rfl
     rw[g1'] at VZ;exact RV pu1 pv1 cga VY VZ
   ·refine⟨_,rfl,fE ?_⟩
    refine qf (λal=>e ?_) _ g19
    rcases al with z|z
    ·exact W3 z c1
    ·obtain⟨u2,v2,pu2,pv2,e2⟩:=z.2 r pr dr
     obtain⟨kg0,g1'⟩:=Pb T.fld.1 cga VY pu2 pv2 e2 O4.mon pw1 pw2 V0 Tv;subst kg0 g1';rfl
  ·rintro σ H5 ⟨g5,⟨o1,o2,rfl⟩,hall⟩
   rw[lrs,Wl] at hall;exact qt (.inr ⟨hx,λr pr dr=>hall r ((hrs r).mpr ⟨pr,dr⟩)⟩) H5 (DC.trans g5)
 ·refine⟨_,rfl,fE ?_⟩
  refine qf (λal=>e ?_) H3 yu
  rcases al with z|z
  ·exact W3 z c1
  ·have ey:yN=y0:=Cg.uniq M.mon (nzN.dg.mono hkN) (XF.dg.mono hk0) (cgN.symm.trans (z.1.trans VY))
   subst ey;rw[nzN.uniq XF]
end
section
variable {k:Nat} {J:L2.Kind}
theorem yx (B:c7 mg)(O:TwO P w K mg base k J)(hk1:1<=k)(mO:b8 P w K mg base 1 "number_power" ["k","n"] Af)(F:Src K mg "power_in" qu IV):b8 P w K mg base (k+1) "power_in" IV (rF J):=by
 refine F.ok fY (λvs H Q E h=>?_) (λfa cdv A outer s H vs Q E hr h=>?_)
 ·obtain⟨a,T,u,x,n,rfl,_⟩:=h;rfl
 obtain⟨a,T,u,x,n,rfl,ja,ru,hn,q⟩:=h;have hb:=O.bd ja;have pp:=bM T.pr;refine⟨_,ai (bX (aS tQ (pv 2) au (a_ _))
   (ao (aD (aO O.one hr (pv 0) )))
   (aW))
  (ai (bX (cK (bh O.eY hr (pv 0) (af (pv 1) ah)))
   (ao (aD (aO O.zero hr (pv 0) )))
   (aW))
  (ai (aE (i:=3) fY.nd rfl (z? rfl) (aM dj (pv 2) (aM di (aG mO hr (af (aY (K:=K) rfl (pv 0)) (af (aO O.degree hr (pv 0) ) ah))) au)))
  (ai (aE (i:=4) fY.nd rfl (z? rfl) (aO O.one hr (pv 0) ))
  (ai (aE (i:=5) fY.nd rfl (z? rfl) (pv 1))
  (ai (iW D? (aS oV (pv 3) au (a_ _))
   (ai (bX (aS tQ (aM dj (pv 3) au) au (a_ _))
    (ao (aE (i:=4) fY.nd rfl (z? rfl) (bh O.times hr (pv 0) (af (pv 4) (af (pv 5) ah)))))
    (aW))
   (ai (aE (i:=5) fY.nd rfl (z? rfl) (bh O.times hr (pv 0) (af (pv 5) (af (pv 5) ah))))
   (ao (aE (i:=3) fY.nd rfl (z? rfl) (aM kD (pv 3) au))))))
  (ao (aD (pv 4)))))))),?_⟩
 refine⟨_,rfl,rfl,_,rfl,?_⟩
 by_cases n0:n=0
 ·refine ug (by rw[n0];rfl) ?_
  refine⟨_,rfl,a,rfl,⟨T,ja⟩,λ_ h=>h,a,T,rfl,ja,λr H1 g1 rr=>?_⟩
  refine q r H1 g1 ?_
  rw[n0,br];exact rr
 refine oZ (λz=>n0 (by have:=V.int.inj z;omega)) ?_
 refine⟨_,rfl,a,rfl,⟨T,ja⟩,_,rfl,λ_ h=>h,a,T,u,x,rfl,ja,ru,λz H1 g1=>?_,λz H1 g1=>?_⟩
 ·refine⟨_,rfl,fE ?_⟩
  refine⟨_,rfl,a,rfl,⟨T,O.mono g1 ja⟩,λ_ h=>h,a,T,rfl,O.mono g1 ja,λr H2 g2 rr=>?_⟩
  refine q r H2 (g1.trans g2) ?_
  rw[z,lN (by omega)];exact rr.older g1
 ·refine⟨_,rfl,cX ?_⟩
  have j1:=O.mono g1 ja;obtain⟨C,dx,fs,qv,hcl,hna,hlk⟩:=O.fld j1;refine⟨_,rfl,_,rfl,a,C,dx,_,_,rfl,qv,hcl,hna,hlk,_,rfl,a,rfl,⟨T,j1⟩,λ_ h=>h,a,T,rfl,j1,λH2 g2=>?_⟩
  have oh:=g1.trans g2;refine⟨T.p,T.d,rfl,by omega,by omega,?_⟩
  have q2:2<=T.p ^ T.d:=by
   have:=Nat.pow_le_pow_left pp.1 T.d
   have d1:=O.d1 ja;have:2 ^ 1<=2 ^ T.d:=Z6 (by decide) d1
   omega
  have eq1:((T.p ^ T.d:Nat):Int)-1=((T.p ^ T.d-1:Nat):Int):=by omega
  refine⟨_,_,rfl,rfl,_,_,rfl,rfl,by show((T.p ^ T.d:Nat):Int)-1≠0;omega,?_⟩
  show gG 3 (V.int ((n:Int).fmod (((T.p ^ T.d:Nat):Int)-1))) _ _ _
  rw[eq1,zI];have epw:=Fz T.fld.dom q2 (T.fr x) z n;generalize n % (T.p ^ T.d-1)=l0 at epw;refine⟨_,rfl,a,rfl,⟨T,O.mono oh ja⟩,λ_ h=>h,a,T,rfl,O.mono oh ja,λr1 H3 g3 t_=>?_⟩
  have yu:=oh.trans g3;refine⟨_,rfl,?_⟩
  refine iY (λσ H4=>ay H H4/\Tt λ(o1 o2:V) (l:Nat) (y z:T.α)=>LA (σ=[Rq a,j? u,Iq (n),Iq (l),j? o1,j? o2]) (Rep H4 (bL H) o1 (T.enc y)) (Rep H4 Any o2 (T.enc z)) (x ^ n=y*z ^ l))
   (λσ _=>match σ with | [_,_,_,j? (.int l),_,_]=>l.toNat|_=>0) ⟨yu,r1,u,l0,1,x,rfl,t_.older oh,ru.same yu,by rw[sP,epw]⟩ ?_
  rintro σ H4 ⟨gg,o1,o2,l,y,z',rfl,ry,rz,hc⟩;refine⟨_,rfl,_,_,rfl,rfl,_,rfl,wB (λc=>win ?_) (λc=>?_)⟩
  ·have l1:0<l:=by have:=Wz c;omega
   refine⟨_,rfl,_,_,rfl,rfl,(show(2:Int)≠0 by decide),rfl,_,rfl,?_⟩
   apply merge (M:=λσ HM=>ay H HM/\GG λ(o3:V) (y3:T.α)=>LA (σ=[Rq a,j? u,Iq (n),Iq (l),j? o3,j? o2]) (Rep HM (bL H) o3 (T.enc y3)) (Rep HM Any o2 (T.enc z')) (x ^ n=y3*(z'*z') ^ (l / 2)))
   case h1=>
    intro key;by_cases c2:l % 2=1
    ·refine ug (by show V.int ((l:Int).fmod 2)=V.int 1;rw[vh,c2];rfl) ?_
     refine⟨_,rfl,a,rfl,⟨T,O.mono gg ja⟩,_,rfl,_,rfl,λ_ h=>h,a,T,o1,o2,y,z',rfl,O.mono gg ja,ry.any,rz,λr H5 g5 rr=>?_⟩
     refine key _ _ ⟨gg.trans g5,r,y*z',rfl,rr.older gg,rz.same g5,?_⟩
     rw[<- Fy y z' c2];exact hc
    ·refine oZ (λz=>c2 (by have z':V.int ((l:Int).fmod 2)=V.int 1:=z;have:=V.int.inj z';rw[vh] at this;omega)) ?_
     refine key _ _ ⟨gg,o1,y,rfl,ry,rz,?_⟩
     rw[<- wk y z' (by omega)];exact hc
   case h2=>
    rintro σ HM ⟨gm,o3,y3,rfl,r3,UH,hc3⟩;refine⟨_,rfl,a,rfl,⟨T,O.mono gm ja⟩,_,rfl,_,rfl,λ_ h=>h,a,T,o2,o2,z',z',rfl,O.mono gm ja,UH,UH,λr H5 g5 rr=>?_⟩
    refine⟨_,rfl,_,_,rfl,rfl,(Bd.small (x:=2) (by decide) (by decide)).dv (by decide),?_⟩
    show gG 3 (V.int ((l:Int).fdiv 2)) _ _ _
    rw[F8];refine⟨⟨gm.trans g5,o3,r,l / 2,y3,z'*z',rfl,r3.same g5,rr.any,hc3⟩,?_⟩
    show((l / 2:Nat):Int).toNat<((l:Int)).toNat
    omega
  ·have l1:l=0:=by
    refine Wb λz=>c (Wy ?_)
    omega
   refine⟨_,rfl,q o1 H4 gg ?_⟩
   rw[hc,l1,br,wj];exact ry
end
section
variable {CG CS:o?} {k:Nat}
theorem qP (B:c7 mg)(uF:b8 P w K mg base k "power_in" IV (rF (IsT CG CS 0)))(F:bG K CG "power" "Ground.power" ji nZ):jy P w K mg base (k+1) CG "power" nZ (rF (IsT CG CS 0)):=by
 refine F.ok yJ (λvs H Q E h=>?_) (λfa cdv A outer s H vs Q E hr h=>?_)
 ·obtain⟨a,T,u,x,n,rfl,_⟩:=h;rfl
 obtain⟨a,T,u,x,n,rfl,ja,ru,hn,q⟩:=h;refine⟨_,ao (aD (aG uF hr (af (pv 0) (af (pv 1) (af (pv 2) ah))))),?_⟩
 exact⟨_,rfl,_,rfl,_,rfl,a,T,u,x,n,rfl,ja,ru,hn,q⟩
theorem A0 (B:c7 mg)(c:L0 K CG)(O:ZN P w K mg base k (IsT CG CS 0))(F:bG K CG "back" "Ground.back" jZ cI):jy P w K mg base (k+1) CG "back" cI (Aa (IsT CG CS 0)):=by
 refine F.ok AL (λvs H Q E h=>?_) (λfa cdv A outer s H vs Q E hr h=>?_)
 ·obtain⟨a,T,u,x,rfl,_⟩:=h;rfl
 obtain⟨a,T,u,x,rfl,ja,ru,x0,q⟩:=h;have pp:=bM T.pr;obtain⟨p,hp,rfl,dx,g⟩:=ja.Ab;refine⟨_,ao (aD (bh O.power hr (pv 0) (af (pv 1) (af (aM di (aY (K:=K) rfl (pv 0)) au) ah)))),?_⟩
 refine⟨_,rfl,a,rfl,⟨_,ja⟩,_,rfl,_,rfl,a,CG,dx,_,_,rfl,g,c.cl,c.nP,Io,_,_,rfl,rfl,λ_ h=>h,?_⟩
 have ep:(p:Int)-2=((p-2:Nat):Int):=by have:2<=p:=pp.1;omega
 refine⟨a,ground p hp,u,x,p-2,by rw[<- ep],ja,ru,?_,λr H1 g1 rr=>q r H1 (x ^ (p-2)) ?_ g1 rr⟩
 ·have:p<50:=pp.2
  exact Yj (show p-2<2 ^ 6 by omega) (Z6 (by decide) (by decide))
 ·have h2:2<=p:=pp.1
  have e:=Fz (ground p hp).fld.dom (q:=p) h2 (by have:=(ground p hp).fr x;rw[show(ground p hp).d=1 from rfl,Wm] at this;exact this) x0 (p-1)
  rw[Nat.mod_self,br] at e;have e2:=aR x (p-2);rw[show p-2+1=p-1 by omega,<- e] at e2
  exact pT e2.symm
end
section
variable {CG CS:o?} {n k:Nat}
theorem ly (B:c7 mg)(c:Em K CS)(F:bG K CS "width" "Storey.width" jj cF):jy P w K mg base 1 CS "width" cF (vo CG CS n):=by
 refine F.ok yK (λvs H Q E h=>?_) (λfa cdv A outer s H vs Q E hr h=>?_)
 ·obtain⟨a,b,q',dx,T,M,rfl,_⟩:=h;rfl
 obtain⟨a,b,q',dx,T,M,rfl,sa,q⟩:=h;obtain⟨p,vs,e,hp,_,C⟩:=sa.r.cf;cases e;refine⟨_,ao (aD (aM di (aI (aN (K:=K) rfl) rfl B.len bR (af (aY (K:=K) rfl (pv 0)) ah)) au)),?_⟩
 refine⟨_,rfl,a,CS,dx,_,_,rfl,sa.h,c.cl,c.nQ,Ei,q',_,rfl,.inl (aU.of hp),_,_,rfl,rfl,?_⟩
 show Q (V.int ((vs.length:Int)-1)) H
 rw[C.len,show((M.n+1:Nat):Int)-1=(M.n:Int) by omega]
 exact q H (ay.refl H)
theorem xg (B:c7 mg)(c:Em K CS)(O:TwB P w K mg base k (IsT CG CS n))(S:OY P w K mg base k CG CS n)(F:bG K CS "degree" "Storey.degree" iu cF):jy P w K mg base (k+1) CS "degree" cF (JX (IsT CG CS (n+1))):=by
 refine F.ok wZ (λvs H Q E h=>?_) (λfa cdv A outer s H vs Q E hr h=>?_)
 ·obtain⟨a,T',rfl,_⟩:=h;rfl
 obtain⟨a,T',rfl,ja,q⟩:=h;obtain⟨b,q',dx,T,M,al,hn,rfl,sa⟩:=ja.vn;have hb:=O.bd sa.f;have hM:=sa.n;refine⟨_,ao (aD (aM dZ (aO O.degree hr (aY (K:=K) rfl (pv 0)) ) (aO S.width hr (pv 0) ))),?_⟩
 refine⟨_,rfl,a,CS,dx,_,_,rfl,sa.h,c.cl,c.nF,dO,b,rfl,⟨T,sa.f⟩,λ_ h=>h,b,T,rfl,sa.f,λH1 g1=>?_⟩
 have s1:=sa.mono g1;refine⟨_,rfl,a,rfl,⟨b,q',dx,T,M,s1⟩,λ_ h=>h,a,b,q',dx,T,M,rfl,s1,λH2 g2=>?_⟩
 refine⟨_,_,rfl,rfl,ue (by omega) (by omega),?_⟩
 show Q (V.int ((T.d:Int)*(M.n:Int))) H2
 rw[<- Y6];exact q H2 (g1.trans g2)
theorem A1 (B:c7 mg)(c:Em K CS)(O:TwB P w K mg base k (IsT CG CS n))(S:OY P w K mg base k CG CS n)(F:bG K CS "zero" "Storey.zero" gW cF):jy P w K mg base (k+1) CS "zero" cF (Eg (IsT CG CS (n+1))):=by
 refine F.ok AN (λvs H Q E h=>?_) (λfa cdv A outer s H vs Q E hr h=>?_)
 ·obtain⟨a,T',rfl,_⟩:=h;rfl
 obtain⟨a,T',rfl,ja,q⟩:=h;obtain⟨b,q',dx,T,M,al,hn,rfl,sa⟩:=ja.vn;have hM:=sa.n;refine⟨_,ao (aD (cA (aK (N:=["place","self"]) (sl:=[q?,j? 0]) (aj gW) cF rfl rfl (by decide +kernel)) rfl (bI rfl B.range (af (aO S.width hr (pv 0) ) ah)) (λ_ _ _ _ _=>(aA (i:=0) (Yk_ ["place","self"]) rfl (z? rfl))) (λ_ _ _ _ _=>bf) (λ_ _ _ _ _=>(aO O.zero hr (aY (K:=K) rfl (pv 1)) )))),?_⟩
 refine⟨_,rfl,a,rfl,⟨b,q',dx,T,M,sa⟩,λ_ h=>h,a,b,q',dx,T,M,rfl,sa,λH1 g1=>?_⟩
 refine⟨_,rfl,by omega,by omega,λD hD=>?_⟩
 rw[Yp];refine kH (T:=T) (λH=>qQ CG CS n H a b q' dx T M) (λg h=>h.mono g) (sa.mono g1) hD (by omega) (λy H2 R s2 h2=>⟨_,rfl,a,CS,dx,_,_,rfl,s2.h,c.cl,c.nF,dO,b,rfl,⟨T,s2.f⟩,λ_ h=>h,b,T,rfl,s2.f,h2⟩) λys H2 g2 hy cy=>?_
 exact q _ H2 (g1.trans g2) ((cy.imp λb o h kk=>⟨h,g1.free kk.1⟩).rep hy (g1.free hD))
theorem pO (B:c7 mg)(c:Em K CS)(N1:8<=k)(fJ:b8 P w K mg base 8 "copied" pI (kI 8))(O:TwB P w K mg base k (IsT CG CS n))(S:OY P w K mg base k CG CS n)(F:bG K CS "lifted" "Storey.lifted" fH cI):jy P w K mg base (k+1) CS "lifted" cI (vt CG CS n):=by
 refine F.ok w4 (λvs H Q E h=>?_) (λfa cdv A outer s H vs Q E hr h=>?_)
 ·obtain⟨a,b,q',dx,T,M,u,x,rfl,_⟩:=h;rfl
 obtain⟨a,b,q',dx,T,M,u,x,rfl,sa,ru,q⟩:=h;have hM:=sa.n;have V2:=M.pos;have hb:=O.bd sa.f;refine⟨_,ao (aD (aM jw (bz (af (aG fJ hr (af (pv 1) ah)) ah)) (cA (aK (N:=["place","self"]) (sl:=[q?,j? 0]) (aj fH) cI rfl rfl (by decide +kernel)) rfl (l_ rfl B.range (af au (af (aO S.width hr (pv 0) ) ah))) (λ_ _ _ _ _=>(aA (i:=0) (Yk_ ["place","self"]) rfl (z? rfl))) (λ_ _ _ _ _=>bf) (λ_ _ _ _ _=>(aO O.zero hr (aY (K:=K) rfl (pv 1)) ))))),?_⟩
 refine⟨_,rfl,u,_,7,rfl,rfl,(T.fl x).mono (by omega),ru,λr1 H1 g1 t_ _=>?_⟩
 refine⟨aZ rfl,λl1 hl1=>?_⟩
 have k1:=av hl1 (.lst [r1]);have g2:=g1.trans k1;refine⟨_,rfl,a,rfl,⟨b,q',dx,T,M,sa.mono g2⟩,λ_ h=>h,a,b,q',dx,T,M,rfl,sa.mono g2,λH3 g3=>?_⟩
 have yu:=g2.trans g3;refine⟨_,_,rfl,by omega,λD hD=>?_⟩
 have en:((M.n:Int)-1).toNat=M.n-1:=by omega
 rw[en];refine kH (T:=T) (λH=>qQ CG CS n H a b q' dx T M) (λg h=>h.mono g) (sa.mono yu) hD (by omega) (λy H2 R s2 h2=>⟨_,rfl,a,CS,dx,_,_,rfl,s2.h,c.cl,c.nF,dO,b,rfl,⟨T,s2.f⟩,λ_ h=>h,b,T,rfl,s2.f,h2⟩) λys H4 g4 hy cy=>?_
 have DC:=yu.trans g4;have e1:H4 l1=j? (.lst [r1]):=g4 _ _ (g3 _ _ aq);refine⟨l1,D,_,_,rfl,rfl,e1,hy,by rw[cy.len,C?];show 1+_<=_;omega,λl2 hl2=>?_⟩
 have k2:=av hl2 (.lst ([r1]++ys));refine q _ _ (DC.trans k2) ?_
 have c1:Cf (upd H4 l2 (.lst ([r1]++ys))) (bL H) [r1] 1 λ_=>T.enc x:=(Cf.push (n:=0) .nil ((t_.same (((k1.trans g3).trans g4).trans k2))):Cf _ _ ([]++[r1]) 1 _)
 have c2:Cf (upd H4 l2 (.lst ([r1]++ys))) (bL H) ys (M.n-1) λ_=>T.enc 0:=cy.imp λb o h kk=>⟨k2 _ _ h,yu.free kk.1⟩
 have c3:=c1.append c2;rw[show 1+(M.n-1)=M.n by omega] at c3
 refine(c3.congr λi hi=>?_).rep aq (DC.free hl2)
 show _=T.enc (if i=0 then x else 0)
 by_cases z:i=0
 ·rw[Wx z,Wx (by omega)]
 ·rw[Ww z,Ww (by omega)]
theorem Ct (B:c7 mg)(c:Em K CS)(O:TwB P w K mg base k (IsT CG CS n)){k':Nat}(hk':k<=k')(S:ZQ P w K mg base k' CG CS n)(F:bG K CS "one" "Storey.one" lV cF):jy P w K mg base (k'+1) CS "one" cF (Dj (IsT CG CS (n+1))):=by
 refine F.ok Cc (λvs H Q E h=>?_) (λfa cdv A outer s H vs Q E hr h=>?_)
 ·obtain⟨a,T',rfl,_⟩:=h;rfl
 obtain⟨a,T',rfl,ja,q⟩:=h;obtain⟨b,q',dx,T,M,al,hn,rfl,sa⟩:=ja.vn;refine⟨_,ao (aD (bh S.M5 hr (pv 0) (af (aO O.one hr (aY (K:=K) rfl (pv 0)) ) ah))),?_⟩
 refine⟨_,rfl,a,rfl,⟨b,q',dx,T,M,sa⟩,_,rfl,a,CS,dx,_,_,rfl,sa.h,c.cl,c.nF,dO,b,rfl,⟨T,sa.f⟩,λ_ h=>h,b,T,rfl,sa.f,λr1 H1 g1 t_=>?_⟩
 refine⟨λ_ h=>g1 _ _ h,a,b,q',dx,T,M,r1,1,rfl,sa.mono g1,t_.any,λr2 H2 g2 yt=>?_⟩
 exact q r2 H2 (g1.trans g2) (yt.older g1)
theorem A2 (B:c7 mg)(c:Em K CS)(O:TwB P w K mg base k (IsT CG CS n))(F:bG K CS "plus" "Storey.plus" gX cN):jy P w K mg base (k+1) CS "plus" cN (Eh (IsT CG CS (n+1))):=by
 refine F.ok AO (λvs H Q E h=>?_) (λfa cdv A outer s H vs Q E hr h=>?_)
 ·obtain⟨a,T',u,v,x,y,rfl,_⟩:=h;rfl
 obtain⟨a,T',u,v,x,y,rfl,ja,ru,rv,q⟩:=h;obtain⟨b,q',dx,T,M,al,hn,rfl,sa⟩:=ja.vn;have hM:=sa.n;have ru:Rep H Any u (aT T M.n (show Qt M from x).s):=ru
 have rv:Rep H Any v (aT T M.n (show Qt M from y).s):=rv
 obtain⟨l1,us,rfl,h1,_,c1⟩:=ru.cf;obtain⟨l2,ws,rfl,h2,_,c2⟩:=rv.cf;refine⟨_,ao (aD (cA (aK (N:=Lw) (sl:=[q?,q?,j? 0]) (aj gX) cN rfl rfl (by decide +kernel)) rfl (vc (K:=K) rfl rfl B.zip (af (pv 1) (af (pv 2) ah))) (λ_ _ _ _ _=>(cU (n:=2) (K:=K) rfl rfl (aQ (aA (i:=0) (Yk_ Lw) rfl (z? rfl)) (aQ (aA (i:=1) (Yk_ Lw) rfl (z? rfl)) cT)))) (λ_ _ _ _ _=>bf) (λ_ _ _ _ _=>(bh O.plus hr (aY (K:=K) rfl (pv 2)) (af (pv 0) (af (pv 1) ah)))))),?_⟩
 refine⟨_,rfl,_,rfl,l1,l2,rfl,⟨_,aU.of h1⟩,⟨_,aU.of h2⟩,λD hD=>?_⟩
 refine rH (e:=λi=>T.enc ((show Qt M from x).s.c i+(show Qt M from y).s.c i)) (λH=>qQ CG CS n H a b q' dx T M) (λg h=>h.mono g) sa h1 h2 c1 c2 hD (by omega) (λi x1 y1 H2 R hi s2 rx ry h6=>⟨_,rfl,a,CS,dx,_,_,rfl,s2.h,c.cl,c.nF,dO,b,rfl,⟨T,s2.f⟩,_,rfl,_,rfl,λ_ h=>h,b,T,x1,y1,_,_,rfl,s2.f,rx,ry,h6⟩) λzs H2 g2 hz cz=>?_
 exact q _ H2 g2 (cz.Ek.rep hz hD)
theorem yS (B:c7 mg)(c:Em K CS)(O:TwB P w K mg base k (IsT CG CS n))(F:bG K CS "minus" "Storey.minus" gc cN):jy P w K mg base (k+1) CS "minus" cN (zF (IsT CG CS (n+1))):=by
 refine F.ok yM (λvs H Q E h=>?_) (λfa cdv A outer s H vs Q E hr h=>?_)
 ·obtain⟨a,T',u,v,x,y,rfl,_⟩:=h;rfl
 obtain⟨a,T',u,v,x,y,rfl,ja,ru,rv,q⟩:=h;obtain⟨b,q',dx,T,M,al,hn,rfl,sa⟩:=ja.vn;have hM:=sa.n;have ru:Rep H Any u (aT T M.n (show Qt M from x).s):=ru
 have rv:Rep H Any v (aT T M.n (show Qt M from y).s):=rv
 obtain⟨l1,us,rfl,h1,_,c1⟩:=ru.cf;obtain⟨l2,ws,rfl,h2,_,c2⟩:=rv.cf;refine⟨_,ao (aD (cA (aK (N:=Lw) (sl:=[q?,q?,j? 0]) (aj gc) cN rfl rfl (by decide +kernel)) rfl (vc (K:=K) rfl rfl B.zip (af (pv 1) (af (pv 2) ah))) (λ_ _ _ _ _=>(cU (n:=2) (K:=K) rfl rfl (aQ (aA (i:=0) (Yk_ Lw) rfl (z? rfl)) (aQ (aA (i:=1) (Yk_ Lw) rfl (z? rfl)) cT)))) (λ_ _ _ _ _=>bf) (λ_ _ _ _ _=>(bh O.minus hr (aY (K:=K) rfl (pv 2)) (af (pv 0) (af (pv 1) ah)))))),?_⟩
 refine⟨_,rfl,_,rfl,l1,l2,rfl,⟨_,aU.of h1⟩,⟨_,aU.of h2⟩,λD hD=>?_⟩
 refine rH (e:=λi=>T.enc ((show Qt M from x).s.c i-(show Qt M from y).s.c i)) (λH=>qQ CG CS n H a b q' dx T M) (λg h=>h.mono g) sa h1 h2 c1 c2 hD (by omega) (λi x1 y1 H2 R hi s2 rx ry h6=>⟨_,rfl,a,CS,dx,_,_,rfl,s2.h,c.cl,c.nF,dO,b,rfl,⟨T,s2.f⟩,_,rfl,_,rfl,λ_ h=>h,b,T,x1,y1,_,_,rfl,s2.f,rx,ry,h6⟩) λzs H2 g2 hz cz=>?_
 refine q _ H2 g2 ((cz.Ek.congr λi hi=>?_).rep hz hD)
 show _=T.enc (((show Qt M from x)-(show Qt M from y)).s.c i)
 rw[Ra,qV]
theorem tE (B:c7 mg)(c:Em K CS)(O:TwB P w K mg base k (IsT CG CS n))(F:bG K CS "is_nought" "Storey.is_nought" fB cI):jy P w K mg base (k+1) CS "is_nought" cI (ve (IsT CG CS (n+1))):=by
 refine F.ok lJ (λvs H Q E h=>?_) (λfa cdv A outer s H vs Q E hr h=>?_)
 ·obtain⟨a,T',u,x,rfl,_⟩:=h;rfl
 obtain⟨a,T',u,x,rfl,ja,ru,qt,qf⟩:=h;obtain⟨b,q',dx,T,M,al,hn,rfl,sa⟩:=ja.vn;have ru:Rep H Any u (aT T M.n (show Qt M from x).s):=ru
 obtain⟨l1,us,rfl,h1,_,c1⟩:=ru.cf;refine⟨_,ai (cE D? rfl (bZ (K:=K) rfl (pv 1)) (aA (i:=2) lJ.nd rfl (z? rfl))
   (ao (bX (eV (cK (bh O.eY hr (aY (K:=K) rfl (pv 0)) (af (pv 2) ah))))
    (ao (aD gO))
    (aW))))
  (ao (aD gO)),?_⟩
 refine⟨_,rfl,l1,rfl,⟨_,aU.of h1⟩,fV (xs:=us) (λi σ H2=>qT (ay H H2) ((∃o,σ=[Rq a,Rq l1,o])) (∀j,j<i->(show Qt M from x).s.c j=0)) ⟨ay.refl H,⟨_,rfl⟩,λj hj=>by omega⟩ (λi σ H2 _ h=>aU.of (h.1 _ _ h1)) ?_ ?_⟩
 ·rintro i v σ H2 hv ⟨g2,⟨o,rfl⟩,hall⟩
  obtain⟨hi,rv⟩:=c1.get hv;have s2:=sa.mono g2;refine⟨_,rfl,a,CS,dx,_,_,rfl,s2.h,c.cl,c.nF,dO,b,rfl,⟨T,s2.f⟩,_,rfl,λ_ h=>h,b,T,v,_,rfl,s2.f,rv.same g2,λz H3 g3=>?_,λz H3 g3=>?_⟩
  ·refine⟨_,rfl,cX ⟨g2.trans g3,⟨_,rfl⟩,λj hj=>?_⟩⟩
   by_cases e:j=i
   ·rw[e];exact z
   ·exact hall j (by omega)
  ·refine⟨_,rfl,fE ?_⟩
   refine qf (λe=>z ?_) H3 (g2.trans g3)
   have e':(show Qt M from x).s=0:=W1 Qt.s e
   rw[e'];rfl
 ·rintro σ H2 ⟨g2,⟨o,rfl⟩,hall⟩
  rw[c1.len] at hall;refine qt ?_ H2 g2
  show(show Qt M from x)=0
  apply Qt.ext
  apply aF.ext
  funext i
  by_cases e:i<M.n
  ·exact hall i e
  ·exact(show Qt M from x).lt i (by omega)
theorem vJ (B:c7 mg)(c:Em K CS)(O:TwB P w K mg base k (IsT CG CS n))(S:OY P w K mg base k CG CS n)(F:bG K CS "by_part" "Storey.by_part" e_ Lz):jy P w K mg base (k+1) CS "by_part" Lz (Ai CG CS n):=by
 refine F.ok cM (λvs H Q E h=>?_) (λfa cdv A outer s H vs Q E hr h=>?_)
 ·obtain⟨a,b,q',dx,T,M,u,N,s,ok,rfl,_⟩:=h;rfl
 obtain⟨a,b,q',dx,T,M,u,N,s,ok,rfl,sa,ru,ds,hN,q⟩:=h;have hM:=sa.n;have V2:=M.pos;obtain⟨l1,us,rfl,h1,okl,c1⟩:=ru.cf;obtain⟨pq,ps,epq,hpq,_,cp⟩:=sa.r.cf;cases epq;refine⟨_,ai (aE (i:=2) cM.nd rfl (Or.inr rfl) (aY (K:=K) rfl (pv 0)))
  (ai (aE (i:=3) cM.nd rfl (z? rfl) (aO S.width hr (pv 0) ))
  (ai (aE (i:=4) cM.nd rfl (z? rfl) (aM jw (pv 1) (cA (aK (N:=["place","floor"]) (sl:=[q?,j? 2]) (aj e_) Lq7 rfl rfl (by decide +kernel)) rfl (l_ rfl B.range (af (aI (aN (K:=K) rfl) rfl B.len bR (af (pv 1) ah)) (af (pv 3) ah))) (λ_ _ _ _ _=>(aA (i:=0) (Yk_ ["place","floor"]) rfl (z? rfl))) (λ_ _ _ _ _=>bf) (λ_ _ _ _ _=>(aO O.zero hr (pv 1) )))))
  (ai (iW D? (aS oV (aI (aN (K:=K) rfl) rfl B.len bR (af (pv 4) ah)) (pv 3) (a_ _))
   (ai (aE (i:=5) cM.nd rfl (z? rfl) (HY S? PySem.F.slot_list_pop PySem.F.type_list_pop MA (pv 4) ))
   (ao (bX (eV (cK (bh O.eY hr (pv 2) (af (pv 5) ah))))
    (ao (cE D? rfl (bI rfl B.range (af (pv 3) ah)) (aA (i:=6) cM.nd rfl (z? rfl))
     (ai (aE (i:=7) cM.nd rfl (z? rfl) (aM d9 (aM di (aI (aN (K:=K) rfl) rfl B.len bR (af (pv 4) ah)) (pv 3)) (pv 6)))
     (ao (mD (bh O.minus hr (pv 2) (af (bJ (aP (K:=K) rfl) (pv 4) (pv 7) (λ_ _=>rfl)) (af (bh O.times hr (pv 2) (af (pv 5) (af (bJ (aP (K:=K) rfl) (aY (K:=K) rfl (pv 0)) (pv 6) (λ_ _=>rfl)) ah))) ah))) (uc (pv 4) (pv 7) set_list))))))
    (aW)))))
  (ao (aD (pv 4)))))),?_⟩
 refine⟨_,rfl,a,CS,dx,_,_,rfl,sa.h,c.cl,c.nF,dO,?_⟩
 refine⟨_,rfl,a,rfl,⟨b,q',dx,T,M,sa⟩,λ_ h=>h,a,b,q',dx,T,M,rfl,sa,λH1 g1=>?_⟩
 refine⟨_,rfl,_,rfl,l1,_,rfl,.inl (aU.of (g1 _ _ h1)),_,rfl,_,_,rfl,by rw[c1.len];omega,λD hD=>?_⟩
 rw[c1.len];have en:((M.n:Int)-(N:Int)).toNat=M.n-N:=by omega
 rw[en];refine kH (T:=T) (λH=>IsT CG CS n H b T) (λg h=>h.mono g) (sa.f.mono g1) hD (by omega) (λy H2 R s2 h2=>⟨_,rfl,b,rfl,⟨T,s2⟩,λ_ h=>h,b,T,rfl,s2,h2⟩) λys H2 g2 hy cy=>?_
 have oh:=g1.trans g2;refine⟨l1,D,_,_,rfl,rfl,oh _ _ h1,hy,by rw[c1.len,cy.len,C?];omega,λR hR=>?_⟩
 have kR:=av hR (.lst (us++ys));have g3:=oh.trans kR;have QL:H R=q?:=oh.free hR;have c2:Cf (upd H2 R (.lst (us++ys))) (M1 H ok R) (us++ys) (N+(M.n-N)) λi=>T.enc (s.c i):=by
  have w1:Cf (upd H2 R (.lst (us++ys))) (M1 H ok R) us N λi=>T.enc (s.c i):=c1.imp λb o h kk=>⟨g3 _ _ h,.inr kk,aL h QL⟩
  have w2:Cf (upd H2 R (.lst (us++ys))) (M1 H ok R) ys (M.n-N) λ_=>T.enc 0:=cy.imp λb o h kk=>⟨kR _ _ h,.inl (g1.free kk.1),aL h hR⟩
  refine(w1.append w2).congr λi hi=>?_
  by_cases z:i<N
  ·rw[Wx z]
  ·rw[Ww z,ds i (by omega)]
 refine iY (λσ H4=>ay H H4/\∃(L:Nat) (ρ:aF T.α) (rs:List V) (o1 o2 o3:Option V),σ=[Rq a,Rq l1,Rq b,Iq (M.n),Rq R,o1,o2,o3]/\H4 R=j? (.lst rs)/\
  Cf H4 (M1 H ok R) rs L (λi=>T.enc (ρ.c i))/\Cg M.f s ρ/\Dg ρ L/\M.n<=L/\L<=200) (λσ H=>rG σ 4 H) ⟨g3,_,s,_,_,_,_,rfl,aq,c2,Cg.refl _ _,ds.mono (by omega),by omega,by omega⟩ ?_
 rintro σ H4 ⟨gg,L,ρ,rs,o1,o2,o3,rfl,eR,cρ,hcg,dρ,hML,hL⟩;have Tu:rG [j? (V.ref a),j? (V.ref l1),j? (V.ref b),j? (V.int (M.n:Int)),j? (V.ref R),o1,o2,o3] 4 H4=L:=by rw[o_ rfl eR];exact cρ.len
 rw[Tu];refine⟨_,rfl,R,_,rfl,.inl (aU.of eR),_,rfl,_,_,rfl,rfl,_,rfl,?_⟩
 rw[cρ.len];refine wB (λcc=>win ?_) (λcc=>?_)
 ·have c':M.n<L:=by have:=Wz cc;omega
  obtain⟨ld,hld,rld⟩:=cρ.at_ (L-1) (by omega)
  refine⟨_,rfl,.inl ⟨rfl,_,aU.of eR⟩,R,rs,ld,rfl,rfl,eR,by rw[cρ.len];exact hld,?_⟩
  have gB:ay H (upd H4 R (.lst rs.dropLast)):=gg.aJ QL _;have O2:(upd H4 R (.lst rs.dropLast)) R=j? (.lst rs.dropLast):=aq;have Cs:Cf (upd H4 R (.lst rs.dropLast)) (M1 H ok R) rs.dropLast (L-1) (λi=>T.enc (ρ.c i)):=by
   rw[List.dropLast_eq_take,cρ.len];exact(cρ.take (by omega)).nW λb kk=>kk.2
  have rb:Rep (upd H4 R (.lst rs.dropLast)) (M1 H ok R) ld (T.enc (ρ.c (L-1))):=rld.nW λb kk=>kk.2
  generalize upd H4 R (.lst rs.dropLast)=HB at gB O2 Cs rb;have done:∀H5 rs' o2 o3,ay H H5->H5 R=j? (.lst rs')->Cf H5 (M1 H ok R) rs' (L-1) (λi=>T.enc ((nv M.f ρ L M.n).c i))->(ay H H5/\∃(L:Nat) (ρ:aF T.α) (rs:List V) (p1 p2 p3:Option V),[Rq a,Rq l1,Rq b,Iq (M.n),Rq R,j? ld,o2,o3]=[Rq a,Rq l1,Rq b,Iq (M.n),Rq R,p1,p2,p3]/\H5 R=j? (.lst rs)/\
   Cf H5 (M1 H ok R) rs L (λi=>T.enc (ρ.c i))/\Cg M.f s ρ/\Dg ρ L/\M.n<=L/\L<=200)/\rG [Rq a,Rq l1,Rq b,Iq (M.n),Rq R,j? ld,o2,o3] 4 H5<L:=λH5 rs' o2 o3 g5 e1 c1=>by
   refine⟨⟨g5,L-1,_,rs',_,_,_,rfl,e1,c1,hcg.trans (M0 M.f ρ L M.n),F_ M.mon c' dρ,by omega,by omega⟩,?_⟩
   rw[o_ rfl e1,c1.len];omega
  have sB:=sa.mono gB;refine⟨_,rfl,b,rfl,⟨T,sB.f⟩,_,rfl,λ_ h=>h,b,T,ld,ρ.c (L-1),rfl,sB.f,rb.any,λz H5 g5=>?_,λz H5 g5=>?_⟩
  ·exact⟨_,rfl,cX (done H5 _ _ _ (gB.trans g5) (g5 _ _ O2) ((Cs.same g5).congr λi hi=>by rw[vj z]))⟩
  ·refine⟨_,rfl,fE ?_⟩
   refine⟨_,rfl,_,rfl,by omega,by omega,?_⟩
   rw[Yp];refine dF (λi σ H6=>ay H H6/\∃(rs:List V) (o2 o3:Option V),σ=[Rq a,Rq l1,Rq b,Iq (M.n),Rq R,j? ld,o2,o3]/\H6 R=j? (.lst rs)/\
    Cf H6 (M1 H ok R) rs (L-1) (λj=>T.enc (if j<L-1-M.n+i then (nv M.f ρ L M.n).c j else ρ.c j))/\Rep H6 (M1 H ok R) ld (T.enc (ρ.c (L-1))))
    ⟨gB.trans g5,_,_,_,rfl,g5 _ _ O2,(Cs.same g5).congr λi hi=>?_,rb.same g5⟩ ?_ ?_
   ·by_cases y:i<L-1-M.n+0
    ·rw[Wx y,Dk y]
    ·rw[Ww y]
   ·rintro i σ H6 hi ⟨g6,rs',o2,o3,rfl,e1,c1,r5⟩
    refine⟨_,rfl,R,_,rfl,.inl (aU.of e1),_,rfl,_,_,rfl,rfl,_,rfl,_,_,rfl,rfl,?_⟩
    have ep:((rs'.length:Nat):Int)-(M.n:Int)+(0+(i:Int))=((L-1-M.n+i:Nat):Int):=by rw[c1.len];omega
    show gG 7 (V.int (((rs'.length:Nat):Int)-(M.n:Int)+(0+(i:Int)))) _ _ _
    rw[ep];obtain⟨cv,hcv,VX⟩:=c1.at_ (L-1-M.n+i) (by omega)
    rw[Ww (by omega)] at VX
    obtain⟨fv,hfv,rfv⟩:=cp.at_ i (by omega)
    have s6:=sa.mono g6;refine⟨_,rfl,b,rfl,⟨T,s6.f⟩,_,rfl,_,rfl,R,_,_,_,rfl,rfl,aU.of e1,bF hcv,?_⟩
    refine⟨_,rfl,b,rfl,⟨T,s6.f⟩,_,rfl,_,rfl,a,CS,dx,_,_,rfl,s6.h,c.cl,c.nQ,Ei,_,rfl,q',_,_,_,rfl,rfl,aU.of (g6 _ _ hpq),by rw[Z8];exact bF hfv,λ_ h=>h,b,T,ld,fv,ρ.c (L-1),M.f.c i,rfl,s6.f,r5.any,rfv.same g6,λr6 H7 g7 rr=>?_⟩
    have vI:=g6.trans g7;have s7:=sa.mono vI;refine⟨λ_ h=>g7 _ _ h,b,T,cv,r6,ρ.c (L-1-M.n+i),_,rfl,s7.f,(VX.same g7).any,rr.any,λr7 H8 g8 Cp=>?_⟩
    have XG:=vI.trans g8;have e18:H8 R=j? (.lst rs'):=g8 _ _ (g7 _ _ e1);refine⟨_,rfl,_,rfl,R,_,_,L-1-M.n+i,rfl,rfl,e18,by rw[c1.len];exact Ac (by omega),?_⟩
    have GK:=g7.trans g8;refine⟨XG.aJ QL _,rs'.set (L-1-M.n+i) r7,_,_,rfl,aq,?_,(r5.same GK).nW λb kk=>kk.2⟩
    refine(((c1.same GK).set (by omega) (Cp.okR vI (g7 _ _ e1))).congr λj hj=>?_).nW λb kk=>kk.2
    by_cases y:j=L-1-M.n+i
    ·rw[Wx y,Wx (by omega),y,Gb]
    ·rw[Ww y]
     by_cases y2:j<L-1-M.n+i
     ·rw[Wx y2,Wx (by omega)]
     ·rw[Ww y2,Ww (by omega)]
   ·rintro σ H6 ⟨g6,rs',o2,o3,rfl,e1,c1,r5⟩
    refine done H6 _ _ _ g6 e1 (c1.congr λi hi=>?_)
    rw[Wx (by omega)]
 ·have c':L=M.n:=Nat.le_antisymm (Wp λz=>cc (Wy (by omega))) hML
  subst c';refine⟨_,rfl,q _ H4 gg ?_⟩
  rw[rest_eq dρ hcg];exact(cρ.imp λb o h kk=>⟨h,kk.1⟩).rep eR (.inl QL)
theorem yT (B:c7 mg)(c:Em K CS)(O:TwB P w K mg base k (IsT CG CS n)){k':Nat}(hk':k<=k')(S:Xw P w K mg base k' CG CS n)(F:bG K CS "times" "Storey.times" gf cN):jy P w K mg base (k'+1) CS "times" cN (zG (IsT CG CS (n+1))):=by
 refine F.ok cZ (λvs H Q E h=>?_) (λfa cdv A outer s H vs Q E hr h=>?_)
 ·obtain⟨a,T',u,v,x,y,rfl,_⟩:=h;rfl
 obtain⟨a,T',u,v,x,y,rfl,ja,ru,rv,q⟩:=h;obtain⟨b,q',dx,T,M,al,hn,rfl,sa⟩:=ja.vn;have hM:=sa.n;have V2:=M.pos;have ru:Rep H Any u (aT T M.n (show Qt M from x).s):=ru
 have rv:Rep H Any v (aT T M.n (show Qt M from y).s):=rv
 have ds:Dg (show Qt M from x).s M.n:=(show Qt M from x).lt
 have dt:Dg (show Qt M from y).s M.n:=(show Qt M from y).lt
 have q:∀r H',ay H H'->Rep H' (bL H) r (aT T M.n (Alg.rest M ((show Qt M from x).s*(show Qt M from y).s)))->Q r H':=q
 generalize (show Qt M from x).s=s at ru ds q
 generalize (show Qt M from y).s=t at rv dt q
 obtain⟨p,vs,rfl,hp,_,C⟩:=ru.cf;obtain⟨p',ws,rfl,Ff,_,C'⟩:=rv.cf;refine⟨_,ai (aE (i:=3) cZ.nd rfl (Or.inr rfl) (aY (K:=K) rfl (pv 0)))
  (ai (bX (aS tQ (aO S.width hr (pv 0) ) au (a_ _))
   (ao (aD (bz (af (bh O.times hr (pv 3) (af (bJ (aP (K:=K) rfl) (pv 1) au (λ_ _=>rfl)) (af (bJ (aP (K:=K) rfl) (pv 2) au (λ_ _=>rfl)) ah))) ah))))
   (aW))
  (ai (lO (i:=4) cZ.nd rfl (z? rfl) (aK (N:=["place","floor"]) (sl:=[q?,j? 3]) (aj gf) Lq5 rfl rfl (by decide +kernel)) rfl (bI rfl B.range (af (aM di (aM dZ au (aO S.width hr (pv 0) )) au) ah)) (λ_ _ _ _ _=>(aA (i:=0) (Yk_ ["place","floor"]) rfl (z? rfl))) (λ_ _ _ _ _=>bf) (λ_ _ _ _ _=>(aO O.zero hr (pv 1) )))
  (ai (cE D? rfl (kF (K:=K) rfl rfl B.enumerate (af (pv 1) ah)) (cU (n:=2) (K:=K) rfl rfl (aQ (aA (i:=5) cZ.nd rfl (z? rfl)) (aQ (aA (i:=6) cZ.nd rfl (z? rfl)) cT)))
   (ao (bX (eV (cK (bh O.eY hr (pv 3) (af (pv 6) ah))))
    (ao (cE D? rfl (Di (K:=K) rfl rfl B.enumerate (af (pv 2) ah) (D7 (pv 5) HV)) (cU (n:=2) (K:=K) rfl rfl (aQ (aA (i:=7) cZ.nd rfl (z? rfl)) (aQ (aA (i:=8) cZ.nd rfl (z? rfl)) cT)))
     (ao (mD (bh O.plus hr (pv 3) (af (bJ (aP (K:=K) rfl) (pv 4) (pv 7) (λ_ _=>rfl)) (af (bh O.times hr (pv 3) (af (pv 6) (af (pv 8) ah))) ah))) (uc (pv 4) (pv 7) set_list)))))
    (aW))))
  (ao (aD (bh S.J3 hr (pv 0) (af (pv 4) ah))))))),?_⟩
 refine⟨_,rfl,a,CS,dx,_,_,rfl,sa.h,c.cl,c.nF,dO,?_⟩
 refine⟨_,rfl,a,rfl,⟨b,q',dx,T,M,sa⟩,λ_ h=>h,a,b,q',dx,T,M,rfl,sa,λH1 g1=>?_⟩
 have s1:=sa.mono g1;refine⟨rfl,_,rfl,?_⟩
 by_cases c1:M.n=1
 ·refine ug (by rw[c1];rfl) ?_
  obtain⟨u0,hu0,ru0⟩:=C.at_ 0 (by omega)
  obtain⟨v0,hv0,XH⟩:=C'.at_ 0 (by omega)
  refine⟨_,rfl,b,rfl,⟨T,s1.f⟩,_,rfl,p,_,_,_,rfl,rfl,aU.of (g1 _ _ hp),bF (j:=0) hu0,_,rfl,p',_,_,_,rfl,rfl,aU.of (g1 _ _ Ff),bF (j:=0) hv0,λ_ h=>h,b,T,u0,v0,_,_,rfl,s1.f,ru0.same g1,XH.same g1,λr2 H2 g2 yt=>?_⟩
  refine⟨aZ rfl,λl hl=>?_⟩
  have kl:=av hl (.lst [r2]);have oh:=g1.trans g2;refine q _ _ (oh.trans kl) ?_
  have er:Alg.rest M (s*t)=cst (s.c 0*t.c 0):=by
   refine rest_eq (by rw[c1];exact Dg.cst _) ?_
   rw[c1] at ds dt;rw[iU,<- iz ds,<- iz dt];exact Cg.refl _ _
  rw[er];have cc:Cf (upd H2 l (.lst [r2])) (bL H) [r2] M.n λi=>T.enc ((cst (s.c 0*t.c 0):aF T.α).c i):=by
   rw[c1];have Kv:Rep (upd H2 l (.lst [r2])) (bL H) r2 (T.enc ((cst (s.c 0*t.c 0):aF T.α).c 0)):=(yt.older g1).same kl;exact(Cf.push (n:=0) (e:=λi=>T.enc ((cst (s.c 0*t.c 0):aF T.α).c i)) .nil Kv:Cf _ _ ([]++[r2]) 1 _)
  exact cc.rep aq (oh.free hl)
 ·refine oZ (λz=>c1 (by have:=V.int.inj z;omega)) ?_
  refine⟨_,rfl,a,rfl,⟨b,q',dx,T,M,s1⟩,λ_ h=>h,a,b,q',dx,T,M,rfl,s1,λH2 g2=>?_⟩
  have k1:=g1.trans g2;refine⟨_,_,rfl,rfl,ue (by omega) (by omega),_,_,rfl,rfl,_,rfl,by omega,by omega,λD hD=>?_⟩
  have en:((2:Int)*(M.n:Int)-1).toNat=M.n+M.n-1:=by omega
  rw[en];have s2:=sa.mono k1;refine kH (T:=T) (λH=>IsT CG CS n H b T) (λg h=>h.mono g) s2.f hD (by omega) (λy H2 R j2 h2=>⟨_,rfl,b,rfl,⟨T,j2⟩,λ_ h=>h,b,T,rfl,j2,h2⟩) λys H3 g3 hy cy=>?_
  have oh:=k1.trans g3;have DB:H D=q?:=k1.free hD;have cy:Cf H3 (Off H D) ys (M.n+M.n-1) λi=>T.enc (rJ s t 0 i):=cy.imp λb o h kk=>⟨h,k1.free kk.1,kk.2⟩
  refine⟨_,rfl,p,rfl,⟨_,aU.of (oh _ _ hp)⟩,kG (st:=0) (xs:=vs) (λi σ H3=>ay H H3/\Tt λ(ps:List V) (o1 o2 o3 o4:Option V)=>qT (σ=[Rq a,Rq p,Rq p',Rq b,Rq D,o1,o2,o3,o4]) (H3 D=j? (.lst ps)) (Cf H3 (Off H D) ps (M.n+M.n-1) λx=>T.enc (rJ s t i x)))
   ⟨oh,ys,_,_,_,_,rfl,hy,cy⟩ (λi σ H3 _ h=>aU.of (h.1 _ _ hp)) ?_ ?_⟩
  ·rintro i x σ H3 r hx ⟨gg,ps,o1,o2,o3,o4,rfl,eP,cP⟩ hr'
   obtain⟨hi,rx⟩:=C.get hx;have gr:=av hr' (.tup [.int ((0+i:Nat):Int),x]);have g3:=gg.trans gr;have s3:=sa.mono g3;refine⟨r,_,rfl,iR.of aq,rfl,_,_,rfl,_,_,rfl,rfl,?_⟩
   refine⟨_,rfl,b,rfl,⟨T,s3.f⟩,_,rfl,λ_ h=>h,b,T,x,s.c i,rfl,s3.f,rx.same g3,λz H4 g4=>?_,λz H4 g4=>?_⟩
   ·exact⟨_,rfl,cX ⟨g3.trans g4,ps,_,_,_,_,rfl,g4 _ _ (gr _ _ eP),(cP.same (gr.trans g4)).congr λx hx=>by rw[yo z]⟩⟩
   ·refine⟨_,rfl,fE ?_⟩
    have Hi:=g3.trans g4;refine⟨_,rfl,_,rfl,p',0+i,rfl,rfl,by omega,⟨_,aU.of (Hi _ _ Ff)⟩,kG (st:=0+i) (xs:=ws) (λj σ H5=>ay H H5/\VT λ(ps:List V) (o3 o4:Option V)=>qT (σ=[Rq a,Rq p,Rq p',Rq b,Rq D,Iq ((0+i:Nat)),j? x,o3,o4]) (H5 D=j? (.lst ps)) (Cf H5 (Off H D) ps (M.n+M.n-1) λx=>T.enc (pA s t i j x)))
     ⟨Hi,ps,_,_,rfl,g4 _ _ (gr _ _ eP),(cP.same (gr.trans g4)).congr λx hx=>by rw[uo]⟩ (λj σ H5 _ h=>aU.of (h.1 _ _ Ff)) ?_ ?_⟩
    ·rintro j y σ H5 r5 hy ⟨g5,qs,o3,o4,rfl,eQ,cQ⟩ VU
     obtain⟨hj,ry⟩:=C'.get hy;have kr:=av VU (.tup [.int ((0+i+j:Nat):Int),y]);have g6:=g5.trans kr;have s6:=sa.mono g6;refine⟨r5,_,rfl,iR.of aq,rfl,_,_,rfl,_,_,rfl,rfl,?_⟩
     have hij:i+j<M.n+M.n-1:=by omega
     obtain⟨cv,hc,rc⟩:=cQ.at_ (i+j) hij;refine⟨_,rfl,b,rfl,⟨T,s6.f⟩,_,rfl,_,rfl,D,_,_,_,rfl,rfl,aU.of (kr _ _ eQ),by rw[Zm];exact bF hc,?_⟩
     refine⟨_,rfl,b,rfl,⟨T,s6.f⟩,_,rfl,_,rfl,λ_ h=>h,b,T,x,y,s.c i,t.c j,rfl,s6.f,rx.same g6,ry.same g6,λr6 H6 vI rr=>?_⟩
     have g7:=g6.trans vI;have s7:=sa.mono g7;refine⟨λ_ h=>vI _ _ h,b,T,cv,r6,pA s t i j (i+j),_,rfl,s7.f,(rc.same (kr.trans vI)).any,rr.any,λr7 H7 GK Cp=>?_⟩
     have g8:=g7.trans GK;have VV:H7 D=j? (.lst qs):=GK _ _ (vI _ _ (kr _ _ eQ));refine⟨_,rfl,_,rfl,D,_,_,i+j,rfl,rfl,VV,by rw[cQ.len,Zm];exact Ac hij,?_⟩
     refine⟨g8.aJ DB _,qs.set (i+j) r7,_,_,rfl,aq,?_⟩
     have VW:=cQ.same ((kr.trans vI).trans GK);refine(((VW.set hij (Cp.vg g7 (vI _ _ (kr _ _ eQ)))).congr λx hx=>?_).upd)
     rw[uq];by_cases z:x=i+j
     ·rw[Wx z,Wx z,z]
     ·rw[Ww z,Ww z]
    ·rintro σ H5 ⟨g5,qs,o3,o4,rfl,eQ,cQ⟩
     rw[C'.len] at cQ;exact⟨g5,qs,_,_,_,_,rfl,eQ,cQ.congr λx hx=>by rw[wH dt]⟩
  ·rintro σ H3 ⟨gg,ps,o1,o2,o3,o4,rfl,eP,cP⟩
   rw[C.len] at cP;have s3:=sa.mono gg;refine⟨_,rfl,a,rfl,⟨b,q',dx,T,M,s3⟩,_,rfl,λ_ h=>h,a,b,q',dx,T,M,.ref D,M.n+M.n-1,s*t,bL H,rfl,s3,?_,?_,by omega,λr H4 g4 rr=>?_⟩
   ·refine(cP.Ek.congr λi hi=>?_).rep eP DB
    rw[Ad ds]
   ·have:=u5 ds dt
    rw[Ww (by omega)] at this
    exact this
   ·exact q r H4 (gg.trans g4) (rr.imp λb o h kk=>⟨h,kk.elim (λz=>gg.free z) id⟩)
theorem A3 (B:c7 mg)(c:Em K CS)(O:TwB P w K mg base k (IsT CG CS n)){k':Nat}(hk':k+3<=k')(S:Xw P w K mg base k' CG CS n)(bN:b8 P w K mg base (k+1) "without_noughts" AE (yp (IsT CG CS n)))(rY:b8 P w K mg base (k+3) "over_poly" dM (zK (IsT CG CS n)))(fD:b8 P w K mg base (k+2) "minus_poly" dM (pB (IsT CG CS n)))(gF:b8 P w K mg base (k+1) "times_poly" dM (i6 (IsT CG CS n)))(dD:b8 P w K mg base (k+1) "scaled_poly" AF (pC (IsT CG CS n)))(F:bG K CS "back" "Storey.back" kh cI):jy P w K mg base (k'+1) CS "back" cI (Aa (IsT CG CS (n+1))):=by
 refine F.ok b_ (λvs H Q E h=>?_) (λfa cdv A outer s H vs Q E hr h=>?_)
 ·obtain⟨a,T',u,x,rfl,_⟩:=h;rfl
 obtain⟨a,T',u,x,rfl,ja,ru,x0,q⟩:=h;obtain⟨b,q',dx,T,M,al,hn,rfl,sa⟩:=ja.vn;have hM:=sa.n;have V2:=M.pos;obtain⟨xs,UI,rfl⟩:∃(xs:aF T.α) (UI:Dg xs M.n),x=(⟨xs,UI⟩:Qt M):=⟨_,(show Qt M from x).lt,rfl⟩
 have ru:Rep H Any u (aT T M.n xs):=ru;have xs0:xs≠0:=λz=>x0 (Qt.ext z)
 obtain⟨U,V',pU,pV,hUV⟩:=Hv al.Pa UI xs0;have hD:=T.fld.dom;refine⟨_,ai (aE (i:=2) b_.nd rfl (z? rfl) (aY (K:=K) rfl (pv 0)))
  (ai (aE (i:=3) b_.nd rfl (z? rfl) (aY (K:=K) rfl (pv 0)))
  (ai (aE (i:=4) b_.nd rfl (z? rfl) (aG bN hr (af (pv 2) (af (pv 1) ah))))
  (ai (aE (i:=5) b_.nd rfl (z? rfl) (bz ah))
  (ai (aE (i:=6) b_.nd rfl (z? rfl) (bz (af (aO O.one hr (pv 2) ) ah)))
  (ai (iW D? (aS oV (aI (aN (K:=K) rfl) rfl B.len bR (af (pv 4) ah)) au (a_ _))
   (ai (mD (aG rY hr (af (pv 2) (af (pv 3) (af (pv 4) ah)))) (cU (n:=2) (K:=K) rfl rfl (aQ (aA (i:=7) b_.nd rfl (z? rfl)) (aQ (aA (i:=8) b_.nd rfl (z? rfl)) cT))))
   (ai (aE (i:=9) b_.nd rfl (z? rfl) (aG fD hr (af (pv 2) (af (pv 5) (af (aG gF hr (af (pv 2) (af (pv 7) (af (pv 6) ah)))) ah)))))
   (ai (HF (i:=3) (j:=4) rfl b_.nd rfl rfl (by decide) rfl rfl (af (pv 4) (af (pv 8) ah)) rfl)
   (ao (HF (i:=5) (j:=6) rfl b_.nd rfl rfl (by decide) rfl rfl (af (pv 6) (af (pv 9) ah)) rfl))))))
  (ao (aD (bh S.J3 hr (pv 0) (af (aG dD hr (af (pv 2) (af (bh O.back hr (pv 2) (af (bJ (aP (K:=K) rfl) (pv 4) au (λ_ _=>rfl)) ah)) (af (pv 6) ah)))) ah))))))))),?_⟩
 refine⟨_,rfl,a,CS,dx,_,_,rfl,sa.h,c.cl,c.nF,dO,?_⟩
 refine⟨_,rfl,a,CS,dx,_,_,rfl,sa.h,c.cl,c.nQ,Ei,?_⟩
 refine⟨_,rfl,_,rfl,b,T,u,M.n,xs,Any,rfl,sa.f,ru,UI,by omega,λr1 n2 H1 hn2 nz1 g1 t_=>?_⟩
 refine⟨aZ rfl,λl1 hl1=>?_⟩
 have k1:=av hl1 (.lst []);have g2:=g1.trans k1;have s2:=sa.mono g2;refine⟨_,rfl,b,rfl,⟨T,s2.f⟩,λ_ h=>h,b,T,rfl,s2.f,λr2 H3 g3 yt=>?_⟩
 refine⟨aZ rfl,λl2 hl2=>?_⟩
 have k3:=av hl2 (.lst [r2]);have g4:=(g2.trans g3).trans k3;have DC:=(k1.trans g3).trans k3;have UJ:Rep (upd H3 l2 (.lst [r2])) Any (.ref l2) (aT T 1 (1:aF T.α)):=by
  refine(Cf.push (n:=0) (e:=λi=>T.enc ((1:aF T.α).c i)) .nil ?_:Cf _ Any ([]++[r2]) 1 _).rep aq trivial
  exact(yt.same k3).any
 have XI:Rep (upd H3 l2 (.lst [r2])) Any (.ref l1) (aT T 0 (0:aF T.α)):=Cf.nil.rep (k3 _ _ (g3 _ _ aq)) trivial;refine iY (λσ H5=>ay H H5/\∃(o1 o2 o3 o4:V) (o5 o6 o7:Option V) (n1 n2 m1 m2:Nat) (a1 a2 f1 f2:aF T.α),σ=[Rq a,j? u,Rq b,j? o1,j? o2,j? o3,j? o4,o5,o6,o7]/\Rep H5 Any o1 (aT T n1 a1)/\Dg a1 n1/\Rep H5 Any o2 (aT T n2 a2)/\Nz T n2 a2/\1<=n2/\n2<n1/\Rep H5 Any o3 (aT T m1 f1)/\Dg f1 m1/\Rep H5 Any o4 (aT T m2 f2)/\Dg f2 m2/\
  m2+n1<=M.n+2/\m1+n2<=M.n+2/\LZ M.f xs a1 a2/\Cg M.f (xs*f1) a1/\Cg M.f (xs*f2) a2) (λσ H=>rG σ 4 H) ?_ ?_
 ·refine⟨g4,.ref q',r1,.ref l1,.ref l2,_,_,_,M.n+1,n2,0,1,M.f,xs,0,1,rfl,sa.r.same g4,M.mon.dg,(t_.same DC).any,nz1,?_,by omega,XI,Dg.zero _,UJ,Dg.one,by omega,by omega,LZ.refl _ _,Pd _ _,by rw[wj];exact Cg.refl _ _⟩
  refine Nat.pos_of_ne_zero λz=>xs0 ?_
  have:=nz1.dg
  rw[z] at this;exact this.Fc
 clear XI UJ t_ nz1 hn2;rintro σ H5 ⟨gg,o1,o2,o3,o4,o5,o6,o7,n1,n2,m1,m2,a1,a2,f1,f2,rfl,ra1,da1,ra2,N2,afq,afr,XI,df1,UJ,UK,hb1,hb2,mx,cg1,cg2⟩;obtain⟨p2,ws,rfl,hp2,_,C2⟩:=id ra2.cf;have Tu:rG [j? (V.ref a),j? u,j? (V.ref b),j? o1,j? (V.ref p2),j? o3,j? o4,o5,o6,o7] 4 H5=n2:=by rw[o_ rfl hp2];exact C2.len
 rw[Tu];refine⟨_,rfl,p2,_,rfl,.inl (aU.of hp2),_,_,rfl,rfl,_,rfl,?_⟩
 rw[C2.len];have s5:=sa.mono gg;obtain⟨d,rfl⟩:∃d,n2=d+1:=⟨n2-1,by omega⟩
 have ld:a2.c d≠0:=N2.last.elim (λz=>by omega) id
 refine wB (λcc=>win ?_) (λcc=>?_)
 ·have c':1<=d:=by have:=Wz cc;omega
  refine⟨_,rfl,_,rfl,_,rfl,b,T,o1,.ref p2,n1,d,a1,a2,rfl,s5.f,ra1,da1,by omega,ra2,N2.dg,ld,by omega,λt qq rr m x y H6 g6 ht et rq rrr es dxx nz hm=>?_⟩
  have Ku:=gg.trans g6;have s6:=sa.mono Ku;refine⟨t,_,rfl,iR.of et,rfl,_,_,rfl,_,_,rfl,rfl,?_⟩
  refine⟨_,rfl,_,rfl,_,rfl,_,rfl,_,rfl,b,T,qq,o4,n1-d,m2,x,f2,rfl,s6.f,rq.any,dxx,UJ.same g6,UK,by omega,λr7 H7 g7 Cp=>?_⟩
  have RH:=Ku.trans g7;have s7:=sa.mono RH;have px:aX x:=⟨_,dxx⟩;refine⟨b,T,o3,r7,m1,_,f1,x*f2,rfl,s7.f,(XI.same (g6.trans g7)),df1,by omega,Cp.any,u5 dxx UK,by split <;> omega,λr8 k8 H8 N1 nz8 g8 Tw=>?_⟩
  have g58:=RH.trans g8;have XG:=(g6.trans g7).trans g8;have GK:=g7.trans g8;have y0:=FA hD T.fld.1 mx pU pV hUV px es c' N2.dg ld;have m0:1<=m:=Nat.pos_of_ne_zero λz=>y0 (by have:=nz.dg;rw[z] at this;exact this.Fc)
  refine⟨_,rfl,_,rfl,_,_,rfl,?_⟩
  refine⟨_,rfl,_,rfl,_,_,rfl,?_⟩
  obtain⟨p3,zs,rfl,hp3,_,C3⟩:=id rrr.cf;have hkk:k8+(d+1)<=M.n+2:=by
   have:(if n1-d=0\/m2=0 then 0 else n1-d+m2-1)<=n1-d+m2-1:=by split <;> omega
   omega
  refine⟨⟨g58,.ref p2,.ref p3,o4,r8,_,_,_,d+1,m,m2,k8,a2,y,f2,f1-x*f2,rfl,ra2.same XG,N2.dg,(rrr.same GK).any,nz,m0,by omega,UJ.same XG,UK,Tw.any,nz8.dg,hkk,by omega,mx.step px es,cg2,Pc ⟨_,UI⟩ ⟨_,UK⟩ ⟨_,df1⟩ px cg1 cg2 es⟩,?_⟩
  show rG [j? (V.ref a),j? u,j? (V.ref b),j? (V.ref p2),j? (V.ref p3),j? o4,j? r8,_,_,_] 4 H8<d+1
  rw[o_ rfl (GK _ _ hp3),C3.len];omega
 ·have c':d=0:=by
   refine Wb λz=>cc (Wy ?_)
   omega
  subst c';obtain⟨v0,hv0,XH⟩:=C2.at_ 0 (by omega)
  refine⟨_,rfl,a,rfl,⟨b,q',dx,T,M,s5⟩,_,rfl,_,rfl,b,rfl,⟨T,s5.f⟩,_,rfl,p2,_,_,_,rfl,rfl,aU.of hp2,bF (j:=0) hv0,λ_ h=>h,b,T,v0,_,rfl,s5.f,XH,ld,λr6 H6 y hy g6 Tz=>?_⟩
  have Ku:=gg.trans g6;have s6:=sa.mono Ku;refine⟨_,rfl,b,T,r6,o4,y,m2,f2,rfl,s6.f,Tz.any,UJ.same g6,by omega,λr7 H7 g7 Cp=>?_⟩
  have RH:=Ku.trans g7;have s7:=sa.mono RH;refine⟨λ_ h=>g7 _ _ (g6 _ _ h),a,b,q',dx,T,M,r7,m2,cst y*f2,bL H,rfl,s7,Cp.older Ku,(λi hi=>by rw[bS,UK i hi];exact pW y),by omega,λr8 H8 g8 Tw=>?_⟩
  refine q r8 H8 (Qt.of M (cst y*f2)) ?_ (RH.trans g8) (Tw.imp λb o h kk=>⟨h,kk.elim (λz=>RH.free z) id⟩)
  exact Me UI ⟨_,UK⟩ cg2 N2.dg hy
end
structure r_ (K:bK)(mg:Str->Option l?)(CG CS:o?):Prop where
 cg:L0 K CG
 cs:Em K CS
 g1:bG K CG "degree" "Ground.degree" fG cF
 g2:bG K CG "zero" "Ground.zero" gT cF
 g3:bG K CG "one" "Ground.one" jg cF
 g4:bG K CG "plus" "Ground.plus" gU cN
 g5:bG K CG "minus" "Ground.minus" f_ cN
 g6:bG K CG "times" "Ground.times" gb cN
 g7:bG K CG "is_nought" "Ground.is_nought" dQ cI
 g8:bG K CG "power" "Ground.power" ji nZ
 g9:bG K CG "back" "Ground.back" jZ cI
 s0:bG K CS "width" "Storey.width" jj cF
 s1:bG K CS "degree" "Storey.degree" iu cF
 s2:bG K CS "zero" "Storey.zero" gW cF
 s3:bG K CS "one" "Storey.one" lV cF
 s4:bG K CS "plus" "Storey.plus" gX cN
 s5:bG K CS "minus" "Storey.minus" gc cN
 s6:bG K CS "times" "Storey.times" gf cN
 s7:bG K CS "is_nought" "Storey.is_nought" fB cI
 s8:bG K CS "by_part" "Storey.by_part" e_ Lz
 s9:bG K CS "back" "Storey.back" kh cI
 s10:bG K CS "lifted" "Storey.lifted" fH cI
 f1:Src K mg "copied" rS pI
 f2:Src K mg "number_power" i8 ["k","n"]
 f3:Src K mg "without_noughts" fN AE
 f4:Src K mg "minus_poly" fu dM
 f5:Src K mg "scaled_poly" gR AF
 f6:Src K mg "times_poly" i9 dM
 f7:Src K mg "over_monic" lR dM
 f8:Src K mg "monic_of" qm dR
 f9:Src K mg "over_poly" nE dM
 f10:Src K mg "common_poly" jX dM
 f11:Src K mg "power_by" qo Lx
 f12:Src K mg "letter_of" nG ["tower"]
 f13:Src K mg "letter_to_powers" fz yE
 f14:Src K mg "primes_in" fX ["n"]
 f15:Src K mg "is_alone" qp dR
 f16:Src K mg "power_in" qu IV
section
variable {CG CS:o?}
theorem A4 {k:Nat}{J:L2.Kind}(B:c7 mg)(X:r_ K mg CG CS)(N1:8<=k)(O:TwB P w K mg base k J):Ry P w K mg base k J:=by
 have dc:=pN (P:=P) (w:=w) (base:=base) B X.f1 8;have cut:=uE B O.toTwO X.f3;have minus:=Cn B O.toTwO cut X.f4;have scaled:=AX B O.toTwO X.f5;have times:=Co B O.toTwO X.f6;have tU:=Cq B O.toTwO N1 dc cut X.f7;have V3:=GL B O N1 dc scaled X.f8;have J2:=EH B O tU scaled X.f9;have common:=AZ B O J2 V3 X.f10;have pow:=yw B O tU times X.f11;have letter:=EI B O X.f12;have QM:=lK B O tU letter pow X.f13;have al:=GN B O QM (EJ B X.f14) common minus X.f15;exact⟨cut,minus,scaled,times,tU,J2,common,letter,al.imp λvs H Q E h=>M4 h,al⟩
theorem aaI (B:c7 mg)(X:r_ K mg CG CS):TwB P w K mg base 8 (IsT CG CS 0):=by
 have O:=aal (P:=P) (w:=w) (base:=base) (CS:=CS) B X.cg X.g1 X.g2 X.g3 X.g4 X.g5 X.g6 X.g7;have pi:=yx B O (Yd 1) (k_ B X.f2) X.f16;have pw:=qP B pi X.g8;have OP:ZN P w K mg base 3 (IsT CG CS 0):=⟨O.up (by decide),iZ X.cg (by decide) (pw.imp λvs H Q E h=>h.1)⟩
 have bk:=A0 B X.cg OP X.g9;exact⟨O.up (by decide),(iZ X.cg (by decide) (bk.imp λvs H Q E h=>h.1)).mono (by decide)⟩
theorem N3 {n k:Nat}(B:c7 mg)(X:r_ K mg CG CS)(N1:8<=k)(hn:n+1<=5)(O:TwB P w K mg base k (IsT CG CS n)):TwB P w K mg base (k+4) (IsT CG CS (n+1)):=by
 have dc:=pN (P:=P) (w:=w) (base:=base) B X.f1 8;have Y:=A4 B X N1 O;have wd:nj P w K mg base 1 (OX CG CS n) "width" cF (vo CG CS n):=wJ X.cs (by decide) (by decide) (by decide) (ly B X.cs X.s0)
 have W:OY P w K mg base k CG CS n:=⟨wd.mono (by omega)⟩
 have bp:=vJ B X.cs O W X.s8;have bm:nj P w K mg base (k+1) (OX CG CS n) "by_part" Lz (Ai CG CS n):=wJ X.cs (by decide) (by decide) (by decide) bp
 have SB:Xw P w K mg base (k+1) CG CS n:=⟨⟨wd.mono (by omega)⟩,bm⟩
 have SB3:Xw P w K mg base (k+3) CG CS n:=⟨⟨wd.mono (by omega)⟩,bm.mono (by omega)⟩
 have lf:nj P w K mg base (k+1) (OX CG CS n) "lifted" cI (vt CG CS n):=wJ X.cs (by decide) (by decide) (by decide) (pO B X.cs N1 dc O W X.s10)
 have SL:ZQ P w K mg base (k+1) CG CS n:=⟨lf⟩;refine⟨⟨IsT.mono,λj=>?_,λj=>⟨j.d.2,by rw[j.ht];exact hn⟩,λj=>j.d.1,?_,?_,?_,?_,?_,?_,?_⟩,?_⟩
 ·obtain⟨b,q',dx,T,M,al,hn,rfl,sa⟩:=j.vn
  exact⟨CS,dx,_,sa.h,X.cs.cl,X.cs.nP,ZO⟩
 ·exact(gn X.cs (by decide) (by decide) (by decide) (xg B X.cs O W X.s1)).mono (by omega)
 ·exact(gn X.cs (by decide) (by decide) (by decide) (A1 B X.cs O W X.s2)).mono (by omega)
 ·exact(gn X.cs (by decide) (by decide) (by decide) (Ct B X.cs O (by omega) SL X.s3)).mono (by omega)
 ·exact(gn X.cs (by decide) (by decide) (by decide) (A2 B X.cs O X.s4)).mono (by omega)
 ·exact(gn X.cs (by decide) (by decide) (by decide) (yS B X.cs O X.s5)).mono (by omega)
 ·exact(gn X.cs (by decide) (by decide) (by decide) (yT B X.cs O (by omega) SB X.s6)).mono (by omega)
 ·exact(gn X.cs (by decide) (by decide) (by decide) (tE B X.cs O X.s7)).mono (by omega)
 ·exact(gn X.cs (by decide) (by decide) (by decide) (A3 B X.cs O (by omega) SB3 Y.cut Y.J2 Y.minus Y.times Y.scaled X.s9)).mono (by omega)
theorem EK (B:c7 mg)(X:r_ K mg CG CS):∀n,n<=5->TwB P w K mg base (8+4*n) (IsT CG CS n)
 | 0,_=>aaI B X
 | n+1,h=>by
  have:=N3 B X (by omega) h (EK B X n (by omega))
  rw[show 8+4*(n+1)=8+4*n+4 by omega]
  exact this
end
section
variable {CG CS:o?} {n k:Nat}
theorem yy (B:c7 mg)(F:Src K mg "is_whole" qk pI):b8 P w K mg base 1 "is_whole" pI (L2.wK K):=by
 refine F.ok GH (λvs H Q E h=>?_) (λf cdv A outer s H vs Q E hr h=>?_)
 ·obtain⟨v,d,rfl,_⟩:=h;rfl
 obtain⟨v,d,rfl,D,qt,qf⟩:=h;refine⟨_,ao (aD (Hz (aI (cC (K:=K) rfl) rfl B.isinstance bW (af (pv 0) (af (gh (v:=.ty "int") rfl B.int Ec rfl) ah))) (Hy (R4 (aI (cC (K:=K) rfl) rfl B.isinstance bW (af (pv 0) (af (gh (v:=.ty "bool") rfl B.bool JS rfl) ah))))))),?_⟩
 cases D with
 | d8=>exact⟨_,rfl,_,_,"int",false,rfl,.d8,by with_unfolding_all rfl,_,rfl,qf (λ⟨_,z⟩=>by cases z)⟩
 | bl x=>exact⟨_,rfl,_,_,"int",true,rfl,.bl x,by with_unfolding_all rfl,_,rfl,_,rfl,_,_,"bool",true,rfl,.bl x,rfl,_,rfl,qf (λ⟨_,z⟩=>by cases z)⟩
 | int i=>exact⟨_,rfl,_,_,"int",true,rfl,.int i,rfl,_,rfl,_,rfl,_,_,"bool",false,rfl,.int i,by with_unfolding_all rfl,_,rfl,qt ⟨i,rfl⟩⟩
 | str x=>exact⟨_,rfl,_,_,"int",false,rfl,.str x,by with_unfolding_all rfl,_,rfl,qf (λ⟨_,z⟩=>by cases z)⟩
 | lst e _ _=>exact⟨_,rfl,_,_,"int",false,rfl,.lst e,by with_unfolding_all rfl,_,rfl,qf (λ⟨_,z⟩=>by cases z)⟩
 | tup e _ _=>exact⟨_,rfl,_,_,"int",false,rfl,.tup e,by with_unfolding_all rfl,_,rfl,qf (λ⟨_,z⟩=>by cases z)⟩
theorem sf (B:c7 mg)(c:L0 K CG)(uG:b8 P w K mg base 1 "is_whole" pI (L2.wK K))(F:bG K CG "is_element" "Ground.is_element" eT rR):jy P w K mg base 2 CG "is_element" rR (Aj K (IsT CG CS 0)):=by
 refine F.ok rW (λvs H Q E h=>?_) (λfa cdv A outer s H vs Q E hr h=>?_)
 ·obtain⟨a,T,v,d,rfl,_⟩:=h;rfl
 obtain⟨a,T,v,d,rfl,ja,D,qt,qf⟩:=h;obtain⟨p,hp,rfl,dx,g⟩:=ja.Ab;rw[M6] at qt qf;refine⟨_,ao (aD (Hz (aG uG hr (af (pv 1) ah)) (Hy (Mq Rk yd au (pv 1) (aY (K:=K) rfl (pv 0)))))),?_⟩
 refine⟨_,rfl,v,d,rfl,D,λhi=>?_,λhi=>?_⟩
 ·obtain⟨i,rfl⟩:=hi
  cases D;refine⟨_,rfl,fE ?_⟩
  refine⟨_,rfl,_,_,rfl,rfl,_,rfl,wB (λc1=>?_) (λc1=>?_)⟩
  ·refine⟨_,rfl,a,CG,dx,_,_,rfl,g,c.cl,c.nP,Io,_,_,rfl,rfl,?_⟩
   show Q (V.bl (decide (i<(p:Int)))) H
   by_cases c2:i<(p:Int)
   ·rw[Wy c2];exact qt ⟨i,rfl,Wz c1,c2⟩ H (ay.refl H)
   ·rw[W0 c2];exact qf (λ⟨j,e,_,h⟩=>by cases e;exact c2 h) H (ay.refl H)
  ·exact qf (λ⟨j,e,h,_⟩=>by cases e;exact c1 (Wy h)) H (ay.refl H)
 ·exact⟨_,rfl,qf (λ⟨i,e,_⟩=>hi ⟨i,e⟩) H (ay.refl H)⟩
theorem yU (B:c7 mg)(c:L0 K CG)(F:bG K CG "whole" "Ground.whole" jh qS):jy P w K mg base 1 CG "whole" qS (vv (IsT CG CS 0)):=by
 refine F.ok yG (λvs H Q E h=>?_) (λfa cdv A outer s H vs Q E hr h=>?_)
 ·obtain⟨a,T,i,rfl,_⟩:=h;rfl
 obtain⟨a,T,i,rfl,ja,q⟩:=h;obtain⟨p,hp,rfl,dx,g⟩:=ja.Ab;have pp:=bM hp;refine⟨_,ao (aD (aM dj (pv 1) (aY (K:=K) rfl (pv 0)))),?_⟩
 refine⟨_,rfl,_,rfl,a,CG,dx,_,_,rfl,g,c.cl,c.nP,Io,_,_,rfl,rfl,by show((p:Nat):Int)≠0;omega,?_⟩
 show Q (V.int (i.fmod (p:Int))) H
 rw[um];refine q _ H (ay.refl H) ?_
 rw[Vz];exact .num _
theorem yV (B:c7 mg)(c:Em K CS)(O:TwE P w K mg base k (IsT CG CS n)){k':Nat}(hk':k<=k')(S:ZQ P w K mg base k' CG CS n)(F:bG K CS "whole" "Storey.whole" jk qS):jy P w K mg base (k'+1) CS "whole" qS (vv (IsT CG CS (n+1))):=by
 refine F.ok yL (λvs H Q E h=>?_) (λfa cdv A outer s H vs Q E hr h=>?_)
 ·obtain⟨a,T',i,rfl,_⟩:=h;rfl
 obtain⟨a,T',i,rfl,ja,q⟩:=h;obtain⟨b,q',dx,T,M,al,hn,rfl,sa⟩:=ja.vn;refine⟨_,ao (aD (bh S.M5 hr (pv 0) (af (bh O.whole hr (aY (K:=K) rfl (pv 0)) (af (pv 1) ah)) ah))),?_⟩
 refine⟨_,rfl,a,rfl,⟨b,q',dx,T,M,sa⟩,_,rfl,a,CS,dx,_,_,rfl,sa.h,c.cl,c.nF,dO,b,rfl,⟨T,sa.f⟩,_,rfl,λ_ h=>h,b,T,i,rfl,sa.f,λr1 H1 g1 t_=>?_⟩
 refine⟨λ_ h=>g1 _ _ h,a,b,q',dx,T,M,r1,wh T i,rfl,sa.mono g1,t_.any,λr2 H2 g2 yt=>?_⟩
 refine q r2 H2 (g1.trans g2) ?_
 rw[Vy];exact yt.older g1
theorem sj (B:c7 mg)(c:Em K CS)(O:TwE P w K mg base k (IsT CG CS n))(S:OY P w K mg base k CG CS n)(F:bG K CS "is_element" "Storey.is_element" eU rR):jy P w K mg base (k+1) CS "is_element" rR (Aj K (IsT CG CS (n+1))):=by
 refine F.ok kP (λvs H Q E h=>?_) (λfa cdv A outer s H vs Q E hr h=>?_)
 ·obtain⟨a,T',v,d,rfl,_⟩:=h;rfl
 obtain⟨a,T',v,d,rfl,ja,D,qt,qf⟩:=h;obtain⟨b,q',dx,T,M,al,hn,rfl,sa⟩:=ja.vn;rw[M7] at qt qf;refine⟨_,ai (bX (PW.pt (mC (eV (cK (aI (cC (K:=K) rfl) rfl B.isinstance bW (af (pv 1) (af (gh (v:=.ty "list") rfl B.list qa rfl) ah))))) (kZ (aS FO (aI (aN (K:=K) rfl) rfl B.len bR (af (pv 1) ah)) (aO S.width hr (pv 0) ) (a_ _)))))
   (ao (aD gO))
   (aW))
  (ai (cE D? rfl (bZ (K:=K) rfl (pv 1)) (aA (i:=2) kP.nd rfl (z? rfl))
   (ao (bX (eV (cK (bh O.jz hr (aY (K:=K) rfl (pv 0)) (af (pv 2) ah))))
    (ao (aD gO))
    (aW))))
  (ao (aD gO))),?_⟩
 cases D with
 | @lst la xs ds e hl hel=>
  refine⟨_,rfl,_,"list","list",true,rfl,.lst e,rfl,_,rfl,cX ?_⟩
  refine⟨_,rfl,la,_,rfl,.inl e,_,rfl,a,rfl,⟨b,q',dx,T,M,sa⟩,λ_ h=>h,a,b,q',dx,T,M,rfl,sa,λH1 g1=>?_⟩
  refine⟨rfl,_,rfl,?_⟩
  rw[hl];by_cases c1:ds.length=M.n
  ·refine JP (by rw[c1]) ?_
   have s1:=sa.mono g1;refine⟨_,rfl,la,rfl,⟨_,g1.seq e⟩,fV (xs:=xs) (λi σ H2=>qT (ay H H2) ((∃o,σ=[Rq a,Rq la,o])) (∀d∈ds.take i,Dn T d)) ⟨g1,⟨_,rfl⟩,λd hd=>by simp at hd⟩ (λi σ H2 _ h=>h.1.seq e) ?_ ?_⟩
   ·rintro i v σ H2 hv ⟨g2,⟨o,rfl⟩,hall⟩
    have s2:=sa.mono g2;have hi:i<ds.length:=by rw[<- hl];exact(List.getElem?_eq_some_iff.mp hv).1
    have hdi:ds[i]?=j? ds[i]:=Ya hi;have D2:=(hel i v ds[i] hv hdi).same g2;refine⟨_,rfl,a,CS,dx,_,_,rfl,s2.h,c.cl,c.nF,dO,b,rfl,⟨T,s2.f⟩,_,rfl,λ_ h=>h,b,T,v,ds[i],rfl,s2.f,D2,λz H3 g3=>?_,λz H3 g3=>?_⟩
    ·refine⟨_,rfl,cX ⟨g2.trans g3,⟨_,rfl⟩,λd hd=>?_⟩⟩
     rw[Zx,hdi] at hd;rcases List.mem_append.mp hd with y|y
     ·exact hall d y
     ·obtain rfl:d=ds[i]:=by simpa using y
      exact z
    ·refine⟨_,rfl,fE ?_⟩
     exact qf (λ⟨ds',e',_,h'⟩=>by cases e';exact z (h' _ (Za hi))) H3 (g2.trans g3)
   ·rintro σ H2 ⟨g2,⟨o,rfl⟩,hall⟩
    rw[hl,Wl] at hall;exact qt ⟨ds,rfl,c1,hall⟩ H2 g2
  ·refine P1 (λz=>c1 (by have:=V.int.inj z;omega)) ?_
   exact qf (λ⟨ds',e',h',_⟩=>by cases e';exact c1 h') H1 g1
 | d8=>exact⟨_,rfl,_,_,"list",false,rfl,.d8,by with_unfolding_all rfl,_,rfl,fE (qf (λ⟨_,z,_⟩=>by cases z) H (ay.refl H))⟩
 | bl x=>exact⟨_,rfl,_,_,"list",false,rfl,.bl x,by with_unfolding_all rfl,_,rfl,fE (qf (λ⟨_,z,_⟩=>by cases z) H (ay.refl H))⟩
 | int i=>exact⟨_,rfl,_,_,"list",false,rfl,.int i,by with_unfolding_all rfl,_,rfl,fE (qf (λ⟨_,z,_⟩=>by cases z) H (ay.refl H))⟩
 | str x=>exact⟨_,rfl,_,_,"list",false,rfl,.str x,by with_unfolding_all rfl,_,rfl,fE (qf (λ⟨_,z,_⟩=>by cases z) H (ay.refl H))⟩
 | tup e _ _=>exact⟨_,rfl,_,_,"list",false,rfl,.tup e,by with_unfolding_all rfl,_,rfl,fE (qf (λ⟨_,z,_⟩=>by cases z) H (ay.refl H))⟩
theorem GP {jn:o?}(B:c7 mg)(N4:mg "PRIMES"=j? (.ref jn))(hP:∀H,iR K H jn (PR.map λp:Nat=>V.int (p:Int)))(uG:b8 P w K mg base 1 "is_whole" pI (L2.wK K))(F:Src K mg "is_prime" ql ["k"]):b8 P w K mg base 2 "is_prime" ["k"] (L2.Dp K):=by
 refine F.ok GI (λvs H Q E h=>?_) (λf cdv A outer s H vs Q E hr h=>?_)
 ·obtain⟨p,rfl,_⟩:=h;rfl
 obtain⟨p,rfl,hp,q⟩:=h;refine⟨_,ao (aD (Hz (aG uG hr (af (pv 0) ah) (by first|decide|omega)) (Hy (pY (SG (K:=K) rfl) (pv 0) (D3 (v:=.ref jn) rfl N4 rfl) (by with_unfolding_all rfl))))),?_⟩
 refine⟨_,rfl,_,_,rfl,.int _,λ_=>?_,λh=>W3 ⟨_,rfl⟩ h⟩
 refine⟨_,rfl,fE ?_⟩
 refine⟨_,rfl,jn,_,rfl,.inr (hP H),rfl,by decide,?_⟩
 show Q (V.bl (Xu (V.int (p:Int)) (PR.map λp:Nat=>V.int (p:Int)))) H
 have e:∀p∈PR,Xu (V.int (p:Int)) (PR.map λp:Nat=>V.int (p:Int))=true:=by decide
 rw[e p hp];exact q H (ay.refl H)
structure A5 (K:bK)(mg:Str->Option l?)(CG CS:o?):Prop where
 g1:bG K CG "is_element" "Ground.is_element" eT rR
 g2:bG K CG "whole" "Ground.whole" jh qS
 s1:bG K CS "is_element" "Storey.is_element" eU rR
 s2:bG K CS "whole" "Storey.whole" jk qS
 f1:Src K mg "is_whole" qk pI
theorem sV (B:c7 mg)(X:r_ K mg CG CS)(Y:A5 K mg CG CS):∀n,n<=5->TwE P w K mg base (8+4*n) (IsT CG CS n)
 | 0,h=>by
  refine⟨EK B X 0 h,?_,?_⟩
  ·exact(iZ X.cg (by decide) ((sf B X.cg (yy B Y.f1) Y.g1).imp λvs H Q E h=>h.1)).mono (by decide)
  ·exact(iZ X.cg (by decide) ((yU B X.cg Y.g2).imp λvs H Q E h=>h.1)).mono (by decide)
 | n+1,h=>by
  have O:=sV B X Y n (by omega)
  have dc:=pN (P:=P) (w:=w) (base:=base) B X.f1 8;have wd:nj P w K mg base 1 (OX CG CS n) "width" cF (vo CG CS n):=wJ X.cs (by decide) (by decide) (by decide) (ly B X.cs X.s0)
  have W:OY P w K mg base (8+4*n) CG CS n:=⟨wd.mono (by omega)⟩
  have lf:nj P w K mg base (8+4*n+1) (OX CG CS n) "lifted" cI (vt CG CS n):=wJ X.cs (by decide) (by decide) (by decide) (pO B X.cs (by omega) dc O.toTwB W X.s10)
  refine⟨EK B X (n+1) h,?_,?_⟩
  ·exact(gn X.cs (by decide) (by decide) (by decide) (sj B X.cs O W Y.s1)).mono (by omega)
  ·exact(gn X.cs (by decide) (by decide) (by decide) (yV B X.cs O (by omega) ⟨lf⟩ Y.s2)).mono (by omega)
end
section
variable {CG CS:o?} {n k:Nat} {J:L2.Kind}
theorem A6 (B:c7 mg)(c:L0 K CG){f:o?}{fd:T!}(F:Fd K "__init__" "Ground.__init__" jY f fd):iP P w K mg base z4 1 f fd IX (Eo CG):=by
 refine F.ok AI (λvs H Q E h=>?_) (λcdv A outer s H vs Q E hr h=>?_)
 ·obtain⟨x,dx,p,rfl,_⟩:=h;rfl
 obtain⟨x,dx,p,rfl,hx,q⟩:=h;refine⟨_,ao (q9 (pv 0) (pv 1) rfl),?_⟩
 exact⟨_,rfl,_,rfl,x,CG,dx,[],rfl,hx,c.cl,c.nP,(by show 0<1000;decide),q⟩
theorem A7 (B:c7 mg)(c:Em K CS)(fJ:b8 P w K mg base 8 "copied" pI (kI 8))(O:TwE P w K mg base k (IsT CG CS n)){f:o?}{fd:T!}(F:Fd K "__init__" "Storey.__init__" j_ f fd):iP P w K mg base z4 9 f fd IU (Ep CG CS n):=by
 refine F.ok AM (λvs H Q E h=>?_) (λcdv A outer s H vs Q E hr h=>?_)
 ·obtain⟨x,dx,b,u,T,M,H0,rfl,_⟩:=h;rfl
 obtain⟨x,dx,b,u,T,M,H0,rfl,hx,g0,nx,jb,ru,hM,q⟩:=h;have hb:=O.bd jb;obtain⟨C,dy,fs,qv,hcl,hna,hlk⟩:=O.fld jb;refine⟨_,ai (q9 (pv 0) (pv 1) rfl)
  (ai (q9 (pv 0) (aY (K:=K) rfl (pv 1)) rfl)
  (ao (q9 (pv 0) (aG fJ hr (af (pv 2) ah)) rfl))),?_⟩
 refine⟨_,rfl,_,rfl,x,CS,dx,[],rfl,hx,c.cl,c.nF,(by show 0<1000;decide),?_⟩
 have g1:ay H0 (upd H x (.ins CS dx (fm "floor" (.ref b) []))):=g0.aJ nx _;refine⟨_,rfl,b,C,dy,_,_,rfl,g1 _ _ qv,hcl,hna,hlk,_,rfl,x,CS,dx,_,rfl,aq,c.cl,c.nP,(by show 1<1000;decide),?_⟩
 have g2:ay H0 (upd (upd H x (.ins CS dx (fm "floor" (.ref b) []))) x (.ins CS dx (fm "p" (.int (T.p:Int)) (fm "floor" (.ref b) [])))):=g1.aJ nx _;refine⟨_,rfl,u,_,7,rfl,rfl,(cO T (by omega) M.f).mono (by omega),ru.same g2,λr H1 g3 rr fr=>?_⟩
 obtain⟨R,rs0,rfl,QL,hR1,cR⟩:=fr _ _ rfl;refine⟨_,rfl,x,CS,dx,_,rfl,g3 _ _ aq,c.cl,c.nQ,(by show 2<1000;decide),?_⟩
 refine q R _ ((g2.trans g3).aJ nx _) aq ?_
 exact((rr.vg g2 aq).nW λb kk=>kk.2).imp λb o h kk=>⟨h,kk.1⟩
theorem xh (B:c7 mg)(O:TwE P w K mg base k J)(F:Src K mg "is_monic_over" ig wV):b8 P w K mg base (k+1) "is_monic_over" wV (yq J K):=by
 refine F.ok pK (λvs H Q E h=>?_) (λfa cdv A outer s H vs Q E hr h=>?_)
 ·obtain⟨a,T,u,M,rfl,_⟩:=h;rfl
 obtain⟨a,T,u,M,rfl,ja,ru,hM,q⟩:=h;obtain⟨p,vs,rfl,hp,_,C⟩:=id ru.cf;have hb:=O.bd ja;have np:=M.pos;refine⟨_,ai (bX (PW.pt (mC (eV (cK (aI (cC (K:=K) rfl) rfl B.isinstance bW (af (pv 1) (af (gh (v:=.ty "list") rfl B.list qa rfl) ah))))) (kZ (aS yd (aI (aN (K:=K) rfl) rfl B.len bR (af (pv 1) ah)) au (a_ _)))))
   (ao (aD gO))
   (aW))
  (ai (cE D? rfl (bZ (K:=K) rfl (pv 1)) (aA (i:=2) pK.nd rfl (z? rfl))
   (ao (bX (eV (cK (bh O.jz hr (pv 0) (af (pv 2) ah))))
    (ao (aD gO))
    (aW))))
  (ao (aD (pY (gZ (K:=K) rfl hr.units) (bJ (aP (K:=K) rfl) (pv 1) (tP nV au) (λ_ _=>rfl)) (aO O.one hr (pv 0) ) (a_ _))))),?_⟩
 refine⟨_,rfl,_,"list","list",true,rfl,.lst (aU.of hp),rfl,_,rfl,cX ?_⟩
 refine⟨_,rfl,p,_,rfl,.inl (aU.of hp),_,_,rfl,rfl,_,rfl,?_⟩
 rw[C.len];refine oZ (by omega) ?_
 refine⟨_,rfl,p,rfl,⟨_,aU.of hp⟩,fV (xs:=vs) (λi σ H2=>ay H H2/\∃o,σ=[Rq a,Rq p,o]) ⟨ay.refl H,_,rfl⟩ (λi σ H2 _ h=>aU.of (h.1 _ _ hp)) ?_ ?_⟩
 ·rintro i v σ H2 hv ⟨g2,o,rfl⟩
  obtain⟨hi,rv⟩:=C.get hv;refine⟨_,rfl,a,rfl,⟨T,O.mono g2 ja⟩,_,rfl,λ_ h=>h,a,T,v,_,rfl,O.mono g2 ja,(rv.same g2).den,λ_ H3 g3=>?_,λz H3 g3=>W3 ⟨_,rfl⟩ z⟩
  exact⟨_,rfl,cX ⟨g2.trans g3,_,rfl⟩⟩
 ·rintro σ H2 ⟨g2,o,rfl⟩
  obtain⟨lv,O3,rlv⟩:=C.at_ M.n (by omega)
  rw[M.mon.top] at rlv;refine⟨_,rfl,_,rfl,p,_,_,_,rfl,rfl,aU.of (g2 _ _ hp),qe C.len O3,?_⟩
  refine⟨_,rfl,a,rfl,⟨T,O.mono g2 ja⟩,λ_ h=>h,a,T,rfl,O.mono g2 ja,λr1 H3 g3 t_=>?_⟩
  refine tT (rlv.same (g2.trans g3)) t_ (T.fl _) (T.fl _) (by omega) (by omega) (λ_=>q H3 (g2.trans g3)) (λe=>W3 rfl e)
theorem yW (B:c7 mg)(O:TwE P w K mg base k J){t1:Tok}(Cu:mg "MOST_DEGREE"=j? (.int 12 t1))(yX:b8 P w K mg base (k+1) "is_monic_over" wV (yq J K))(iG:b8 P w K mg base (k+5) "is_alone" dR (sQ J))(F:Src K mg "is_next_part" jf wV):b8 P w K mg base (k+6) "is_next_part" wV (Ak J):=by
 refine F.ok yF (λvs H Q E h=>?_) (λfa cdv A outer s H vs Q E hr h=>?_)
 ·obtain⟨a,T,u,M,rfl,_⟩:=h;rfl
 obtain⟨a,T,u,M,rfl,ja,ru,hd,al,q⟩:=h;obtain⟨p,vs,rfl,hp,_,C⟩:=id ru.cf;have hb:=O.bd ja;have d1:=O.d1 ja;have np:=M.pos;have hM:M.n<=12:=by
  have:1*M.n<=T.d*M.n:=Zl _ d1
  omega
 refine⟨_,ai (bX (PW.pt (mC (eV (cK (aG yX hr (af (pv 0) (af (pv 1) ah))))) (kZ (aS oV (aM dZ (aO O.degree hr (pv 0) ) (aM di (aI (aN (K:=K) rfl) rfl B.len bR (af (pv 1) ah)) au)) (D3 (v:=.int 12) rfl Cu ⟨_,rfl⟩) (a_ _)))))
   (ao (aD gO))
   (aW))
  (ao (aD (aG iG hr (af (pv 0) (af (pv 1) ah))))),?_⟩
 refine⟨_,rfl,_,rfl,a,T,.ref p,M,rfl,ja,ru,hM,λH1 g1=>?_⟩
 refine⟨_,rfl,cX ?_⟩
 refine⟨_,rfl,a,rfl,⟨T,O.mono g1 ja⟩,λ_ h=>h,a,T,rfl,O.mono g1 ja,λH2 g2=>?_⟩
 have oh:=g1.trans g2;refine⟨_,rfl,p,_,rfl,.inl (aU.of (oh _ _ hp)),_,_,rfl,rfl,_,_,rfl,rfl,?_,_,_,rfl,rfl,_,rfl,?_⟩
 ·exact Eb (by omega) (by omega)
 rw[C.len];have em:(T.d:Int)*(((M.n+1:Nat):Int)-1)=((T.d*M.n:Nat):Int):=by
  rw[Y6,show((M.n+1:Nat):Int)-1=(M.n:Int) by omega]
 refine oZ (by rw[em];omega) ?_
 refine⟨_,rfl,_,rfl,a,T,.ref p,M,rfl,O.mono oh ja,ru.same oh,hM,λ_ H3 g3=>q H3 (oh.trans g3),λz=>W3 al z⟩
theorem Cv (B:c7 mg)(N1:8<=k)(O:TwE P w K mg base k (iB CG CS)){t1:Tok}(EL:mg "MOST_PARTS"=j? (.int 5 t1))(pP:Maker P w K mg base 1 "Ground" CG IX (Eo CG))(pQ:Maker P w K mg base 9 "Storey" CS IU (λvs H Q E=>∃i:Ix,Ep CG CS i.1 vs H Q E))(A8:b8 P w K mg base (k+6) "is_next_part" wV (Ak (iB CG CS)))(rZ:b8 P w K mg base (k+1) "letter_of" ["tower"] (qg (iB CG CS)))(F:Src K mg "top_of_any" lU ["p","parts"]):b8 P w K mg base (k+7) "top_of_any" ["p","parts"] (RA CG CS):=by
 refine F.ok gS (λvs H Q E h=>?_) (λfa cdv A outer s H vs Q E hr h=>?_)
 ·obtain⟨p,hp,v,ps,T,rfl,_⟩:=h;rfl
 obtain⟨p,hp,v,ps,T,rfl,rv,hl,up,q⟩:=h;rw[dW] at rv;obtain⟨pl,vs,rfl,hpl,_,C⟩:=rv.cf;refine⟨_,ai (bX (PW.pt (mC (eV (cK (aI (cC (K:=K) rfl) rfl B.isinstance bW (af (pv 1) (af (gh (v:=.ty "list") rfl B.list qa rfl) ah))))) (kZ (aS oV (aI (aN (K:=K) rfl) rfl B.len bR (af (pv 1) ah)) (D3 (v:=.int 5) rfl EL ⟨_,rfl⟩) (a_ _)))))
   (ao (J6))
   (aW))
  (ai (aE (i:=2) gS.nd rfl (z? rfl) (Ef pP hr (af (pv 0) ah)))
  (ai (cE D? rfl (kF (K:=K) rfl rfl B.enumerate (af (pv 1) ah)) (cU (n:=2) (K:=K) rfl rfl (aQ (aA (i:=3) gS.nd rfl (z? rfl)) (aQ (aA (i:=4) gS.nd rfl (z? rfl)) cT)))
   (ai (bX (PW.pt (mC (eV (cK (aG A8 hr (af (pv 2) (af (pv 4) ah))))) (kZ (PW.pt (zV (aS oV (pv 3) au (a_ _)) (u6 (aS (gZ (K:=K) rfl hr.units) (pv 4) (aG rZ hr (af (pv 2) ah)) (a_ _))))))))
    (ao (J6))
    (aW))
   (ao (aE (i:=2) gS.nd rfl (z? rfl) (Ef pQ hr (af (pv 2) (af (pv 4) ah)))))))
  (ao (aD (pv 2))))),?_⟩
 refine⟨_,rfl,_,"list","list",true,rfl,.lst (aU.of hpl),rfl,_,rfl,cX ?_⟩
 refine⟨_,rfl,pl,_,rfl,.inl (aU.of hpl),_,_,rfl,rfl,_,rfl,?_⟩
 rw[C.len];refine oZ (by omega) ?_
 refine⟨_,rfl,λx dx nx ndx hne=>?_⟩
 refine⟨x,dx,p,rfl,aq,rfl,?_⟩
 have g1:ay H (upd (upd (upd H dx (.own x)) x (.ins CG dx [])) x (.ins CG dx (Vt p))):=((av ndx _).aJ nx _).aJ nx _;refine⟨_,rfl,pl,rfl,⟨_,aU.of (g1 _ _ hpl)⟩,kG (st:=0) (xs:=vs) (λi σ H2=>ay H H2/\Xz λ(o1 o2:Option V) (b:o?) (Ti:cj)=>Tr (σ=[Iq (p),Rq pl,Rq b,o1,o2]) (IsT CG CS i (nw H H2) b Ti) (Up i (ps.drop i) Ti T) (Up 0 (ps.take i) (ground p hp) Ti) (wL CG CS hp (nw H H2) b Ti (ps.take i)))
  ⟨g1,_,_,x,ground p hp,rfl,(.gr hp (by rw[tV nx];exact aq)),up,.nil,(λps' e z=>by simp at z)⟩ (λi σ H2 _ h=>aU.of (h.1 _ _ hpl)) ?_ ?_⟩
 ·rintro i v σ H2 r hv ⟨gg,o1,o2,b,Ti,rfl,jb,hup,hlo,htp⟩ hr'
  obtain⟨hi,rv⟩:=C.get hv;have gr:=av hr' (.tup [.int ((0+i:Nat):Int),v]);have g3:=gg.trans gr;have V4:=rv.same g3;have j3:=(jb.mono (En H H2)).mono gr;rw[Zr hi] at hup;have ege:ps.getD i (.num 0)=ps[i]:=by rw[Yb,Ya hi];rfl
  rw[ege] at V4;have etk:ps.take (i+1)=ps.take i++[ps[i]]:=by rw[List.take_succ_eq_append_getElem hi]
  have eln:(ps.take i).length=i:=by rw[Y9];omega
  generalize ps[i]=e at hup V4 etk;cases hup with
  | @cons _ _ _ M _ al hn hd hlt u=>
   have ju:iB CG CS (upd H2 r (.tup [.int ((0+i:Nat):Int),v])) b Ti:=⟨i,by omega,j3⟩
   have hb:=O.bd ju;have d1:=O.d1 ju;have hM:M.n<=12:=by
    have:1*M.n<=Ti.d*M.n:=Zl _ d1
    omega
   refine⟨r,_,rfl,iR.of aq,rfl,_,_,rfl,_,_,rfl,rfl,?_⟩
   refine⟨_,rfl,_,rfl,b,Ti,v,M,rfl,ju,V4,hd,al,λH4 g4=>?_⟩
   refine⟨_,rfl,cX ?_⟩
   have DC:=g3.trans g4;have hA:((0+i:Nat):Int)=(i:Int):=by omega
   apply merge (M:=λσ HM=>ay H4 HM/\σ=[Iq (p),Rq pl,Rq b,Iq ((0+i:Nat)),j? v])
   case h1=>
    intro key;refine⟨_,rfl,_,_,rfl,rfl,_,rfl,?_⟩
    by_cases i0:i=0
    ·refine oZ (by rw[hA];omega) (cX (key _ _ ⟨ay.refl _,rfl⟩))
    ·refine ug (by rw[hA];omega) ?_
     have ju4:iB CG CS H4 b Ti:=⟨i,by omega,j3.mono g4⟩
     refine⟨_,rfl,_,rfl,b,Ti,rfl,ju4,λr5 H5 g5 Fi=>?_⟩
     refine tT (V4.same (g4.trans g5)) Fi (cO Ti (by omega) _) (cO Ti (by omega) _) (by omega) (by omega) (λz=>?_) (λz=>?_)
     ·exact W3 z (hlt.elim (λy=>W3 y i0) id)
     ·exact⟨_,rfl,cX (key _ _ ⟨g5,rfl⟩)⟩
   case h2=>
    rintro σ HM ⟨gm,rfl⟩;refine⟨_,rfl,_,rfl,λx' JV nx' TF hne'=>?_⟩
    have g1M:=DC.trans gm;have g2M:=(gr.trans g4).trans gm;refine⟨⟨i,by omega⟩,x',JV,b,v,Ti,M,HM,rfl,aq,(av TF _).aJ nx' _,nx',(jb.mono (En H H2)).mono g2M,V4.same (g4.trans gm),hM,λqq H5 g5 e5 r5=>⟨rfl,?_⟩⟩
    have est:qQ CG CS i (nw H H5) x' b qq JV Ti M:=⟨by rw[tV (g1M.free nx')];exact e5,jb.mono (J4 (g2M.trans g5)),(r5.older g1M).nw,hd⟩
    refine⟨g1M.trans g5,_,_,x',Ti.up M al.alone hn,rfl,est.isT al.alone hn,u,?_,?_⟩
    ·rw[etk];exact hlo.snoc al hn hd (hlt.imp (λz=>by omega) id)
    ·rw[etk]
     intro ps' e' z;obtain⟨z1,z2⟩:=List.append_inj' z rfl;obtain rfl:aT Ti (M.n+1) M.f=e':=by simpa using z2
     subst z1;exact⟨b,qq,JV,Ti,M,al,hn,rfl,by rw[eln];exact est,hlo,rfl⟩
 ·rintro σ H2 ⟨gg,o1,o2,b,Ti,rfl,jb,hup,hlo,htp⟩
  rw[C.len] at jb hup htp;rw[List.drop_length] at hup;rw[Wl] at htp;cases hup;exact⟨_,rfl,q b H2 gg jb htp⟩
end
section
variable {CG CS CT:o?} {k:Nat}
theorem yY (B:c7 mg)(c:G9 K CT)(O:TwE P w K mg base k (iB CG CS))(F:bG K CT "degree" "Tower.degree" jm cF):jy P w K mg base (k+1) CT "degree" cF (JX (mh CG CS CT)):=by
 refine F.ok yP (λvs H Q E h=>?_) (λfa cdv A outer s H vs Q E hr h=>?_)
 ·obtain⟨a,T,rfl,_⟩:=h;rfl
 obtain⟨a,T,rfl,⟨dx,b,v1,v2,h1,ju⟩,q⟩:=h;refine⟨_,ao (aD (aO O.degree hr (aY (K:=K) rfl (pv 0)) )),?_⟩
 exact⟨_,rfl,a,CT,dx,_,_,rfl,h1,c.cl,c.nT,jE,b,rfl,⟨T,ju⟩,λ_ h=>h,b,T,rfl,ju,q⟩
theorem Cw (B:c7 mg)(c:G9 K CT)(O:TwE P w K mg base k (iB CG CS))(F:bG K CT "zero" "Tower.zero" lX cF):jy P w K mg base (k+1) CT "zero" cF (Eg (mh CG CS CT)):=by
 refine F.ok Ci (λvs H Q E h=>?_) (λfa cdv A outer s H vs Q E hr h=>?_)
 ·obtain⟨a,T,rfl,_⟩:=h;rfl
 obtain⟨a,T,rfl,⟨dx,b,v1,v2,h1,ju⟩,q⟩:=h;refine⟨_,ao (aD (aO O.zero hr (aY (K:=K) rfl (pv 0)) )),?_⟩
 exact⟨_,rfl,a,CT,dx,_,_,rfl,h1,c.cl,c.nT,jE,b,rfl,⟨T,ju⟩,λ_ h=>h,b,T,rfl,ju,q⟩
theorem EM (B:c7 mg)(c:G9 K CT)(O:TwE P w K mg base k (iB CG CS))(F:bG K CT "one" "Tower.one" nL cF):jy P w K mg base (k+1) CT "one" cF (Dj (mh CG CS CT)):=by
 refine F.ok EG (λvs H Q E h=>?_) (λfa cdv A outer s H vs Q E hr h=>?_)
 ·obtain⟨a,T,rfl,_⟩:=h;rfl
 obtain⟨a,T,rfl,⟨dx,b,v1,v2,h1,ju⟩,q⟩:=h;refine⟨_,ao (aD (aO O.one hr (aY (K:=K) rfl (pv 0)) )),?_⟩
 exact⟨_,rfl,a,CT,dx,_,_,rfl,h1,c.cl,c.nT,jE,b,rfl,⟨T,ju⟩,λ_ h=>h,b,T,rfl,ju,q⟩
theorem A9 (B:c7 mg)(c:G9 K CT)(O:TwE P w K mg base k (iB CG CS))(F:bG K CT "whole" "Tower.whole" ki qS):jy P w K mg base (k+1) CT "whole" qS (vv (mh CG CS CT)):=by
 refine F.ok AQ (λvs H Q E h=>?_) (λfa cdv A outer s H vs Q E hr h=>?_)
 ·obtain⟨a,T,i,rfl,_⟩:=h;rfl
 obtain⟨a,T,i,rfl,⟨dx,b,v1,v2,h1,ju⟩,q⟩:=h;refine⟨_,ao (aD (bh O.whole hr (aY (K:=K) rfl (pv 0)) (af (pv 1) ah))),?_⟩
 exact⟨_,rfl,a,CT,dx,_,_,rfl,h1,c.cl,c.nT,jE,b,rfl,⟨T,ju⟩,_,rfl,λ_ h=>h,b,T,i,rfl,ju,q⟩
theorem Cy (B:c7 mg)(c:G9 K CT)(O:TwE P w K mg base k (iB CG CS))(F:bG K CT "plus" "Tower.plus" lY cN):jy P w K mg base (k+1) CT "plus" cN (Eh (mh CG CS CT)):=by
 refine F.ok Cj (λvs H Q E h=>?_) (λfa cdv A outer s H vs Q E hr h=>?_)
 ·obtain⟨a,T,u,v,x,y,rfl,_⟩:=h;rfl
 obtain⟨a,T,u,v,x,y,rfl,⟨dx,b,v1,v2,h1,ju⟩,q1,q2,q3⟩:=h;refine⟨_,ao (aD (bh O.plus hr (aY (K:=K) rfl (pv 0)) (af (pv 1) (af (pv 2) ah)))),?_⟩
 exact⟨_,rfl,a,CT,dx,_,_,rfl,h1,c.cl,c.nT,jE,b,rfl,⟨T,ju⟩,_,rfl,_,rfl,λ_ h=>h,b,T,u,v,x,y,rfl,ju,q1,q2,q3⟩
theorem A_ (B:c7 mg)(c:G9 K CT)(O:TwE P w K mg base k (iB CG CS))(F:bG K CT "minus" "Tower.minus" kj cN):jy P w K mg base (k+1) CT "minus" cN (zF (mh CG CS CT)):=by
 refine F.ok AR (λvs H Q E h=>?_) (λfa cdv A outer s H vs Q E hr h=>?_)
 ·obtain⟨a,T,u,v,x,y,rfl,_⟩:=h;rfl
 obtain⟨a,T,u,v,x,y,rfl,⟨dx,b,v1,v2,h1,ju⟩,q1,q2,q3⟩:=h;refine⟨_,ao (aD (bh O.minus hr (aY (K:=K) rfl (pv 0)) (af (pv 1) (af (pv 2) ah)))),?_⟩
 exact⟨_,rfl,a,CT,dx,_,_,rfl,h1,c.cl,c.nT,jE,b,rfl,⟨T,ju⟩,_,rfl,_,rfl,λ_ h=>h,b,T,u,v,x,y,rfl,ju,q1,q2,q3⟩
theorem Ba (B:c7 mg)(c:G9 K CT)(O:TwE P w K mg base k (iB CG CS))(F:bG K CT "times" "Tower.times" ko cN):jy P w K mg base (k+1) CT "times" cN (zG (mh CG CS CT)):=by
 refine F.ok AS (λvs H Q E h=>?_) (λfa cdv A outer s H vs Q E hr h=>?_)
 ·obtain⟨a,T,u,v,x,y,rfl,_⟩:=h;rfl
 obtain⟨a,T,u,v,x,y,rfl,⟨dx,b,v1,v2,h1,ju⟩,q1,q2,q3⟩:=h;refine⟨_,ao (aD (bh O.times hr (aY (K:=K) rfl (pv 0)) (af (pv 1) (af (pv 2) ah)))),?_⟩
 exact⟨_,rfl,a,CT,dx,_,_,rfl,h1,c.cl,c.nT,jE,b,rfl,⟨T,ju⟩,_,rfl,_,rfl,λ_ h=>h,b,T,u,v,x,y,rfl,ju,q1,q2,q3⟩
theorem Cz (B:c7 mg)(c:G9 K CT)(O:TwE P w K mg base k (iB CG CS))(F:bG K CT "back" "Tower.back" lZ cI):jy P w K mg base (k+1) CT "back" cI (Aa (mh CG CS CT)):=by
 refine F.ok Ck (λvs H Q E h=>?_) (λfa cdv A outer s H vs Q E hr h=>?_)
 ·obtain⟨a,T,u,x,rfl,_⟩:=h;rfl
 obtain⟨a,T,u,x,rfl,⟨dx,b,v1,v2,h1,ju⟩,q1,q2,q3⟩:=h;refine⟨_,ao (aD (bh O.back hr (aY (K:=K) rfl (pv 0)) (af (pv 1) ah))),?_⟩
 exact⟨_,rfl,a,CT,dx,_,_,rfl,h1,c.cl,c.nT,jE,b,rfl,⟨T,ju⟩,_,rfl,λ_ h=>h,b,T,u,x,rfl,ju,q1,q2,q3⟩
theorem uH (B:c7 mg)(c:G9 K CT)(O:TwE P w K mg base k (iB CG CS))(F:bG K CT "is_nought" "Tower.is_nought" fR cI):jy P w K mg base (k+1) CT "is_nought" cI (ve (mh CG CS CT)):=by
 refine F.ok uD (λvs H Q E h=>?_) (λfa cdv A outer s H vs Q E hr h=>?_)
 ·obtain⟨a,T,u,x,rfl,_⟩:=h;rfl
 obtain⟨a,T,u,x,rfl,⟨dx,b,v1,v2,h1,ju⟩,q1,q2,q3⟩:=h;refine⟨_,ao (aD (bh O.eY hr (aY (K:=K) rfl (pv 0)) (af (pv 1) ah))),?_⟩
 exact⟨_,rfl,a,CT,dx,_,_,rfl,h1,c.cl,c.nT,jE,b,rfl,⟨T,ju⟩,_,rfl,λ_ h=>h,b,T,u,x,rfl,ju,q1,q2,q3⟩
theorem tF (B:c7 mg)(c:G9 K CT)(O:TwE P w K mg base k (iB CG CS))(F:bG K CT "is_element" "Tower.is_element" fC rR):jy P w K mg base (k+1) CT "is_element" rR (Aj K (mh CG CS CT)):=by
 refine F.ok s_ (λvs H Q E h=>?_) (λfa cdv A outer s H vs Q E hr h=>?_)
 ·obtain⟨a,T,u,x,rfl,_⟩:=h;rfl
 obtain⟨a,T,u,x,rfl,⟨dx,b,v1,v2,h1,ju⟩,q1,q2,q3⟩:=h;refine⟨_,ao (aD (bh O.jz hr (aY (K:=K) rfl (pv 0)) (af (pv 1) ah))),?_⟩
 exact⟨_,rfl,a,CT,dx,_,_,rfl,h1,c.cl,c.nT,jE,b,rfl,⟨T,ju⟩,_,rfl,λ_ h=>h,b,T,u,x,rfl,ju,q1,q2,q3⟩
theorem CA (B:c7 mg)(c:G9 K CT)(hk:8<=k)(I0:b8 P w K mg base 2 "is_prime" ["k"] (L2.Dp K))(fJ:b8 P w K mg base 8 "copied" pI (kI 8))(EN:b8 P w K mg base k "top_of_any" ["p","parts"] (RA CG CS)){f:o?}{fd:T!}(F:Fd K "__init__" "Tower.__init__" lW f fd):iP P w K mg base z4 (k+1) f fd GF (zN CG CS CT):=by
 refine F.ok Ce (λvs H Q E h=>?_) (λcdv A outer s H vs Q E hr h=>?_)
 ·obtain⟨x,dx,p,hp,v,ps,T,H0,rfl,_⟩:=h;rfl
 obtain⟨x,dx,p,hp,v,ps,T,H0,rfl,hx,g0,nx,rv,hl,up,q⟩:=h;refine⟨_,ai (bX (eV (cK (aG I0 hr (af (pv 1) ah))))
   (ao (J6))
   (aW))
  (ai (q9 (pv 0) (aG EN hr (af (pv 1) (af (pv 2) ah))) rfl)
  (ai (q9 (pv 0) (pv 1) rfl)
  (ai (q9 (pv 0) (aG fJ hr (af (pv 2) ah)) rfl)
  (ao (q9 (pv 0) (aG fJ hr (af (pv 2) ah)) rfl))))),?_⟩
 refine⟨_,rfl,p,rfl,hp,λH1 g1=>⟨_,rfl,cX ?_⟩⟩
 have g01:=g0.trans g1;have XJ:=g1 _ _ hx;refine⟨_,rfl,_,rfl,p,hp,v,ps,T,rfl,rv.same g01,hl,up,λb H2 g2 jb tb=>?_⟩
 have hx2:=g2 _ _ XJ;have g02:=g01.trans g2;refine⟨_,rfl,x,CT,dx,[],rfl,hx2,c.cl,c.nT,(by show 0<1000;decide),?_⟩
 have st:∀(H3:Hp) (o:HO),(∀c o,c≠x->H2 c=j? o->H3 c=j? o)->∀c o',c≠x->H2 c=j? o'->upd H3 x o c=j? o':=λH3 o g c o' hc e=>by rw[aH hc];exact g c o' hc e
 have s3:=st H2 (.ins CT dx (fm "top" (.ref b) [])) λc o _ e=>e
 have g03:ay H0 (upd H2 x (.ins CT dx (fm "top" (.ref b) []))):=g02.aJ nx _;refine⟨_,rfl,_,rfl,x,CT,dx,_,rfl,aq,c.cl,c.nP,(by show 1<1000;decide),?_⟩
 have s4:=st _ (.ins CT dx (fm "p" (.int (p:Int)) (fm "top" (.ref b) []))) s3;have RI:=g03.aJ nx (.ins CT dx (fm "p" (.int (p:Int)) (fm "top" (.ref b) [])));generalize hH4:upd (upd H2 x (.ins CT dx (fm "top" (.ref b) []))) x (.ins CT dx (fm "p" (.int (p:Int)) (fm "top" (.ref b) [])))=H4 at s4 RI;have e4:H4 x=j? (.ins CT dx (fm "p" (.int (p:Int)) (fm "top" (.ref b) []))):=by rw[<- hH4];exact aq
 have hfl:uh 7 (.vec ps):=by
  refine .vec (by omega) λe he=>(up.fl (Yd 1) e he).mono ?_
  have:=up.ht
  have e0:(ground p hp).ht=0:=rfl;omega
 refine⟨_,rfl,v,.vec ps,7,rfl,rfl,hfl,rv.same RI,λr5 H5 g5 Fi _=>?_⟩
 have e5:=g5 _ _ e4;refine⟨_,rfl,x,CT,dx,_,rfl,e5,c.cl,c.nQ,(by show 2<1000;decide),?_⟩
 have s6:=st H5 (.ins CT dx (fm "parts" r5 (fm "p" (.int (p:Int)) (fm "top" (.ref b) [])))) λc o hc e=>g5 _ _ (s4 c o hc e)
 have N5:=(RI.trans g5).aJ nx (.ins CT dx (fm "parts" r5 (fm "p" (.int (p:Int)) (fm "top" (.ref b) []))));have Tz:Rep (upd H5 x (.ins CT dx (fm "parts" r5 (fm "p" (.int (p:Int)) (fm "top" (.ref b) []))))) (Off H0 x) r5 (.vec ps):=(Fi.vg RI e4).nW λb kk=>kk.2
 refine⟨_,rfl,v,.vec ps,7,rfl,rfl,hfl,rv.same N5,λr7 H7 g7 Cp _=>?_⟩
 refine⟨_,rfl,x,CT,dx,_,rfl,g7 _ _ aq,c.cl,c.nK,(by show 3<1000;decide),?_⟩
 have fin:=λ(c:o?) (o:HO) (h:nw H1 H2 c=j? o)=>(show _ from by
  obtain⟨hn,hc⟩:=jD h;rw[tV (g01.free hn)];exact st H7 (.ins CT dx (S3 b p r5 r7)) (λc o hc e=>g7 _ _ (s6 c o hc e)) c o (λz=>by rw[z,XJ] at hn;cases hn) hc:nw H0 (upd H7 x (.ins CT dx (S3 b p r5 r7))) c=j? o)
 refine q b r5 r7 _ ((N5.trans g7).aJ nx _) aq (jb.mono fin) ?_ ?_ (tb.mono fin)
 ·exact((Tz.same g7).nW λb kk=>kk.2).imp λb o h kk=>⟨h,kk.1⟩
 ·exact((Cp.vg N5 aq).nW λb kk=>kk.2).imp λb o h kk=>⟨h,kk.1⟩
end
structure DE (K:bK)(CT:o?):Prop where
 c:G9 K CT
 t0:bG K CT "degree" "Tower.degree" jm cF
 t1:bG K CT "zero" "Tower.zero" lX cF
 t2:bG K CT "one" "Tower.one" nL cF
 t3:bG K CT "whole" "Tower.whole" ki qS
 t4:bG K CT "plus" "Tower.plus" lY cN
 t5:bG K CT "minus" "Tower.minus" kj cN
 t6:bG K CT "times" "Tower.times" ko cN
 t7:bG K CT "back" "Tower.back" lZ cI
 t8:bG K CT "is_nought" "Tower.is_nought" fR cI
 t9:bG K CT "is_element" "Tower.is_element" fC rR
section
variable {CG CS CT:o?} {k:Nat}
theorem jJ (c:G9 K CT){m:Str}{ps:List Str}{sp:Sp}(h1:m≠"top")(h2:m≠"p")(h3:m≠"parts")(h4:m≠"kept")(M:jy P w K mg base k CT m ps sp):nj P w K mg base k (JJ (mh CG CS CT)) m ps sp:=
 .of λH a ⟨T,dx,b,v1,v2,h,_⟩=>⟨CT,dx,_,h,VA h1 h2 h3 h4,c.cl,M.imp λvs H Q E h=>h.1⟩
theorem V5 (B:c7 mg)(X:DE K CT)(O:TwE P w K mg base k (iB CG CS)):TwE P w K mg base (k+1) (mh CG CS CT):=by
 refine⟨⟨⟨mh.mono,λ⟨dx,b,v1,v2,h,j⟩=>⟨CT,dx,_,h,X.c.cl,X.c.nP,ZR⟩,λ⟨dx,b,v1,v2,h,j⟩=>O.bd j,λ⟨dx,b,v1,v2,h,j⟩=>O.d1 j,?_,?_,?_,?_,?_,?_,?_⟩,?_⟩,?_,?_⟩
 ·exact jJ X.c (by decide) (by decide) (by decide) (by decide) (yY B X.c O X.t0)
 ·exact jJ X.c (by decide) (by decide) (by decide) (by decide) (Cw B X.c O X.t1)
 ·exact jJ X.c (by decide) (by decide) (by decide) (by decide) (EM B X.c O X.t2)
 ·exact jJ X.c (by decide) (by decide) (by decide) (by decide) (Cy B X.c O X.t4)
 ·exact jJ X.c (by decide) (by decide) (by decide) (by decide) (A_ B X.c O X.t5)
 ·exact jJ X.c (by decide) (by decide) (by decide) (by decide) (Ba B X.c O X.t6)
 ·exact jJ X.c (by decide) (by decide) (by decide) (by decide) (uH B X.c O X.t8)
 ·exact jJ X.c (by decide) (by decide) (by decide) (by decide) (Cz B X.c O X.t7)
 ·exact jJ X.c (by decide) (by decide) (by decide) (by decide) (tF B X.c O X.t9)
 ·exact jJ X.c (by decide) (by decide) (by decide) (by decide) (A9 B X.c O X.t3)
structure N6 (K:bK)(mg:Str->Option l?)(CG CS CT:o?):Prop where
 g:∃f fd,Mk K CG f/\Fd K "__init__" "Ground.__init__" jY f fd/\Binds K fd IX []/\mg "Ground"=j? (.ref CG)
 s:∃f fd,Mk K CS f/\Fd K "__init__" "Storey.__init__" j_ f fd/\Binds K fd IU []/\mg "Storey"=j? (.ref CS)
 t:∃f fd,Mk K CT f/\Fd K "__init__" "Tower.__init__" lW f fd/\Binds K fd GF []/\mg "Tower"=j? (.ref CT)
 f1:Src K mg "is_monic_over" ig wV
 f2:Src K mg "is_next_part" jf wV
 f3:Src K mg "top_of_any" lU ["p","parts"]
 f4:Src K mg "is_prime" ql ["k"]
 p1:∃t,mg "MOST_DEGREE"=j? (.int 12 t)
 p2:∃t,mg "MOST_PARTS"=j? (.int 5 t)
 p3:∃x,mg "PRIMES"=j? (.ref x)/\∀H,iR K H x (PR.map λp:Nat=>V.int (p:Int))
theorem N7 (B:c7 mg)(X:r_ K mg CG CS)(Y:A5 K mg CG CS)(Z:DE K CT)(M:N6 K mg CG CS CT):Maker P w K mg base 36 "Tower" CT GF (zN CG CS CT):=by
 have dc:=pN (P:=P) (w:=w) (base:=base) B X.f1 8;have E:=sV (P:=P) (w:=w) (base:=base) B X Y;have O:TwE P w K mg base 28 (iB CG CS):=Qh λn hn=>(E n hn).up (by omega)
 have Pl:=A4 B X (by decide) O.toTwB
 obtain⟨fg,fdg,mkg,Fg,bg,mgg⟩:=M.g;obtain⟨fs,fds,mks,Fs,bs,mgs⟩:=M.s;obtain⟨ft,fdt,mkt,Ft,bt,mgt⟩:=M.t;obtain⟨t1,ht1⟩:=M.p1;obtain⟨t2,ht2⟩:=M.p2;obtain⟨xp,XJ,hx2⟩:=M.p3;have mG:Maker P w K mg base 1 "Ground" CG IX (Eo CG):=⟨fg,fdg,mkg,bg,A6 B X.cg Fg,mgg⟩;have mS:Maker P w K mg base 9 "Storey" CS IU (λvs H Q E=>∃i:Ix,Ep CG CS i.1 vs H Q E):=⟨fs,fds,mks,bs,iP.union λi=>A7 B X.cs dc (E i.1 i.2) Fs,mgs⟩
 have mo:=xh B O M.f1;have np:=yW B O ht1 mo Pl.alone M.f2;have tp:=Cv B (by decide) O ht2 mG mS np Pl.letter M.f3
 exact⟨ft,fdt,mkt,bt,CA B Z.c (by decide) (GP B XJ hx2 (yy B Y.f1) M.f4) dc tp Ft,mgt⟩
structure aaP (P:F?)(w:H?)(K:bK)(mg:Str->Option l?)(base:Q?)(CG CS CT:o?):Prop where
 O:TwE P w K mg base 29 (mh CG CS CT)
 qw:Ry P w K mg base 29 (mh CG CS CT)
 make:Maker P w K mg base 36 "Tower" CT GF (zN CG CS CT)
theorem QN (B:c7 mg)(X:r_ K mg CG CS)(Y:A5 K mg CG CS)(Z:DE K CT)(M:N6 K mg CG CS CT):aaP P w K mg base CG CS CT:=by
 have E:=sV (P:=P) (w:=w) (base:=base) B X Y;have O:TwE P w K mg base 28 (iB CG CS):=Qh λn hn=>(E n hn).up (by omega)
 have OF:=V5 B Z O;exact⟨OF,A4 B X (by decide) OF.toTwB,N7 B X Y Z M⟩
end
inductive RJ (K:bK)(vs:List V)(H:Hp)(Q:VK)(iS:XK):Prop where
 | mk (a:o?) (ns:List Int) (k:Int) (c5:vs=[.ref a,.int k]) (c6:aU K H a (ns.map V.int)) (dS:0<=k) (fT:∀(p:o?) (g r:Int) (H':Hp),ay H H'->H p=q?->H' p=j? (.lst [.int g,.int r])->Q (.ref p) H')
inductive EO (K:bK)(vs:List V)(H:Hp)(Q:VK)(iS:XK):Prop where
 | mk (b:o?) (g r m:Int) (c5:vs=[.ref b,.int m]) (c6:H b=j? (.lst [.int g,.int r])) (dS:0<m) (fT:Bd 9000 m) (jv:∀d g' r':Int,0<=d->d<m->Q (.int d) (upd H b (.lst [.int g',.int r'])))
section
theorem N8 (B:c7 mg)(F:Src K mg "_law_bag" EE NV):b8 P w K mg base 1 "_law_bag" NV (RJ K):=by
 refine F.ok rV (λvs H Q E h=>?_) (λf cdv A outer s H vs Q E hr h=>?_)
 ·obtain⟨a,ns,k,rfl,_⟩:=h;rfl
 obtain⟨a,ns,k,rfl,hS,h0,q⟩:=h;refine⟨_,ai (aE (i:=2) rV.nd rfl (z? rfl) au)
  (ai (bX (aS yd (pv 1) (aI (aN (K:=K) rfl) rfl B.len bR (af (pv 0) ah)) (a_ _))
   (ao (aE (i:=2) rV.nd rfl (z? rfl) (bJ (aP (K:=K) rfl) (pv 0) (pv 1) (λ_ _=>rfl))))
   (aW))
  (ai (aE (i:=3) rV.nd rfl (z? rfl) au)
  (ai (bX (aS Vf (aI FP rfl B.abs MI (af (pv 2) ah)) (aM Sb au au) (a_ _))
   (ao (aE (i:=3) rV.nd rfl (z? rfl) (aI FP rfl B.abs MI (af (pv 2) ah))))
   (aW))
  (ao (aD (bz (af (pv 3) (af (aM d9 (aM dj (aM d9 (aM d9 (pv 2) (aM dZ au (pv 1))) au) au) au) ah)))))))),?_⟩
 apply merge (M:=λσ HM=>HM=H/\GG λ(c:Int) (o:Option V)=>σ=[Rq a,j? (.int k),j? (.int c),o])
 case h1=>
  intro key;refine⟨_,rfl,_,rfl,a,_,rfl,.inl hS,_,_,rfl,rfl,_,rfl,?_⟩
  refine wB (λc=>?_) (λc=>?_)
  ·have hk:k<((ns.map V.int).length:Nat):=Wz c
   obtain⟨v,e,hm⟩:=JT (xs:=ns.map V.int) h0 hk;obtain⟨n,_,rfl⟩:=List.mem_map.mp hm;exact⟨_,rfl,_,rfl,_,_,_,_,rfl,rfl,hS,e,key _ _ ⟨rfl,n,_,rfl⟩⟩
  ·exact key _ _ ⟨rfl,0,_,rfl⟩
 case h2=>
  rintro σ HM ⟨rfl,c,o,rfl⟩;apply merge (M:=λσ HN=>HN=HM/\∃(g:Int),σ=[Rq a,j? (.int k),j? (.int c),j? (.int g)])
  case h1=>
   intro key;walk_at "rd"
   refine wB (λ_=>?_) (λ_=>?_)
   ·exact⟨_,rfl,_,rfl,key _ _ ⟨rfl,_,rfl⟩⟩
   ·exact key _ _ ⟨rfl,_,rfl⟩
  case h2=>
   rintro σ HN ⟨rfl,g,rfl⟩;walk_at "rd"
   exact λp hp=>q p g _ _ (av hp _) hp aq
theorem LG (B:c7 mg)(F:Src K mg "_law_take" AH IT):b8 P w K mg base 1 "_law_take" IT (EO K):=by
 refine F.ok DA (λvs H Q E h=>?_) (λf cdv A outer s H vs Q E hr h=>?_)
 ·obtain⟨b,g,r,m,rfl,_⟩:=h;rfl
 obtain⟨b,g,r,m,rfl,hb,m0,bm,q⟩:=h;refine⟨_,ai (bX (aS oV (bJ (aP (K:=K) rfl) (pv 0) au (λ_ _=>rfl)) au (a_ _))
   (ai (aE (i:=2) DA.nd rfl (z? rfl) (aM dj (bJ (aP (K:=K) rfl) (pv 0) au (λ_ _=>rfl)) (pv 1)))
   (ai (mD (aM kD (bJ (aP (K:=K) rfl) (pv 0) au (λ_ _=>rfl)) (pv 1)) (uc (pv 0) au set_list))
   (ao (aD (pv 2)))))
   (aW))
  (ai (mD (aM dj (aM d9 (aM dZ (bJ (aP (K:=K) rfl) (pv 0) au (λ_ _=>rfl)) au) au) au) (uc (pv 0) au set_list))
  (ao (aD (aM dj (aM dj (aM dZ (aM kD (bJ (aP (K:=K) rfl) (pv 0) au (λ_ _=>rfl)) au) au) au) (pv 1))))),?_⟩
 refine⟨_,rfl,b,_,_,_,rfl,rfl,aU.of hb,rfl,_,_,rfl,rfl,_,rfl,wB (λc=>?_) (λc=>?_)⟩
 ·refine⟨_,rfl,b,_,_,_,rfl,rfl,aU.of hb,rfl,_,rfl,_,_,rfl,rfl,show m≠0 by omega,?_⟩
  refine⟨_,rfl,b,_,_,_,rfl,rfl,aU.of hb,rfl,_,rfl,_,_,rfl,rfl,bm.dv (by omega),?_⟩
  refine⟨_,rfl,b,_,_,0,rfl,rfl,hb,rfl,?_⟩
  obtain⟨r1,r2⟩:=qc g m0;exact⟨_,rfl,q _ _ _ r1 r2⟩
 ·refine⟨_,rfl,b,_,_,_,rfl,rfl,aU.of hb,rfl,?_⟩
  walk_at "rd"
  refine⟨b,_,_,1,rfl,rfl,hb,rfl,?_⟩
  refine⟨_,rfl,b,_,_,_,rfl,rfl,aU.of aq,rfl,?_⟩
  walk_at "rd"
  refine⟨_,_,rfl,rfl,show m≠0 by omega,?_⟩
  obtain⟨r1,r2⟩:=qc ((((r*48271+11).fmod 2147483647).fdiv 8*69621).fmod 2147483629) m0;exact q _ _ _ r1 r2
inductive I_ (K:bK)(n:Nat)(vs:List V)(H:Hp)(Q:VK)(iS:XK):Prop where
 | mk (b wl:o?) (T:cj) (ws:List Nat) (c5:vs=[.ref b,.int (T.p:Int),.ref wl]) (c6:wM H b) (dS:H wl=j? (.lst (wv ws))) (fT:wl≠b) (jv:Wd T ws) (pZ:ws.length<n) (wA:n<=10) (Fe:∀(x:T.α) r H',bO H b H'->wM H' b->Rep H' (bL H) r (T.enc x)->Q r H')
theorem vK (B:c7 mg)(fK:b8 P w K mg base 1 "_law_take" IT (EO K))(F:Src K mg "_law_element" nH GD):∀n,b8 P w K mg base (n+1) "_law_element" GD (I_ K n)
 | 0=>(F.none.mono (Wg 0)).imp λvs H Q E h=>by obtain⟨b,wl,T,ws,_,_,_,_,_,h,_⟩:=h;omega
 | n+1=>by
  have kT:=vK B fK F n;refine F.ok EF (λvs H Q E h=>?_) (λfa cdv A outer s H vs Q E hr h=>?_)
  ·obtain⟨b,wl,T,ws,rfl,_⟩:=h;rfl
  obtain⟨b,wl,T,ws,rfl,⟨g,r,hb⟩,hw,hne,wd,UL,hn,q⟩:=h;have pp:=bM T.pr;refine⟨_,ai (bX (aS (gZ (K:=K) rfl hr.units) (pv 2) (bz ah) (a_ _))
   (ao (aD (aG fK hr (af (pv 0) (af (pv 1) ah)))))
   (aW))
  (ao (aD (cA (aK (N:=["_law_k","_law_bag_here","_law_p","_law_wides"]) (sl:=[q?,j? 0,j? 1,j? 2]) (aj nH) GD rfl rfl (by decide +kernel)) rfl (bI rfl B.range (af (bJ (aP (K:=K) rfl) (pv 2) (tP nV au) (λ_ _=>rfl)) ah)) (λ_ _ _ _ _=>(aA (i:=0) (Yk_ ["_law_k","_law_bag_here","_law_p","_law_wides"]) rfl (z? rfl))) (λ_ _ _ _ _=>bf) (λ_ _ _ _ _=>(aG kT hr (af (pv 1) (af (pv 2) (af (kC (kE (K:=K) rfl) (pv 3) nq (iX (tP nV au))) ah)))))))),?_⟩
  have ewv:wv ws=(ws.map λm:Nat=>(m:Int)).map V.int:=by unfold wv;rw[Z3];rfl
  refine⟨_,rfl,aZ rfl,λl0 h0=>?_⟩
  have k0:=av h0 (.lst []);refine eqL (xs:=ws.map λm:Nat=>(m:Int)) (ys:=[]) (by rw[<- ewv];exact aU.of (k0 _ _ hw)) (aU.of aq) ⟨_,rfl,?_⟩
  have aaR:ws=[]\/∃ws' m,ws=ws'++[m]:=by
   rcases List.eq_nil_or_concat ws with h|⟨ws',m,h⟩
   ·exact .inl h
   ·exact .inr ⟨ws',m,by rw[h,List.concat_eq_append]⟩
  rcases aaR with rfl|⟨ws',m,rfl⟩
  ·refine fE ?_
   obtain⟨p,hp,rfl⟩:=wd.nil;refine⟨_,rfl,_,rfl,b,g,r,(p:Int),rfl,k0 _ _ hb,by have:2<=p:=pp.1;omega,Bd.mono (m:=64) (Bd.small (by have:p<50:=pp.2;omega) (by have:p<50:=pp.2;omega)) (by decide),λd g' r' d0 d1=>?_⟩
   obtain⟨dn,rfl⟩:=Y3 d0;exact q (⟨dn,by omega⟩:Zp p) _ _ ((bO.of k0).upd _) ⟨_,_,aq⟩ (.num _)
  ·refine oZ (λz=>by simp at z) ?_
   obtain⟨T',M,al,hM,rfl,rfl,wd'⟩:=wd.snoc;have TH:(wv (ws'++[M.n])).length=ws'.length+1:=by unfold wv;simp
   have V6:(wv (ws'++[M.n]))[ws'.length]?=j? (.int (M.n:Int)):=by unfold wv;simp
   have V7:(wv (ws'++[M.n])).dropLast=wv ws':=by unfold wv;simp
   have aaS:wv (ws'++[M.n])≠[]:=λz=>by rw[z] at TH;simp at TH
   have hw0:=k0 _ _ hw;refine⟨_,rfl,_,rfl,wl,_,_,_,rfl,rfl,aU.of hw0,qe TH V6,_,rfl,by omega,by omega,λD hD=>?_⟩
   rw[Yp];have DB:H D=q?:=k0.free hD;refine dN (λi ys H2=>qT (bO H b H2) (wM H2 b) (∃c:Nat->T'.α,Cf H2 (Off H D) ys i λj=>T'.enc (c j))) ⟨(bO.of k0).aJ DB _,⟨g,r,?_⟩,λ_=>0,.nil⟩ ?_ ?_
   ·rw[aH (aL (k0 _ _ hb) hD)];exact k0 _ _ hb
   ·rintro i m' ys H2 hm hi hy hlen ⟨gg,⟨g2,r2,hb2⟩,cc,cy⟩
    have hw2:=gg _ _ hne hw;refine⟨_,rfl,_,rfl,_,rfl,_,rfl,_,rfl,wl,_,rfl,aU.of hw2,λl hl=>?_⟩
    have N_:oX (wv (ws'++[M.n])) q? (j? (-1))=wv ws':=by rw[Lc _ aaS,V7]
    rw[show oX (wv (ws'++[M.n])) q? (j? ((-1:Int)))=wv ws' from N_]
    have kl:=av hl (.lst (wv ws'));refine⟨b,l,T',ws',rfl,⟨g2,r2,kl _ _ hb2⟩,aq,(aL hb2 hl).symm,wd',by rw[Yk] at UL;simp at UL;omega,by omega,λx r3 H3 g3 TJ Kv=>?_⟩
    have QO:D≠b:=(aL hb DB).symm;have g2l:bO H b (upd H2 l (.lst (wv ws'))):=gg.trans (bO.of kl);have aaT:∃o,(upd H2 l (.lst (wv ws'))) b=j? o:=⟨_,kl _ _ hb2⟩;have yZ:∀a,Off H D a->a≠b:=λa kk z=>by have k1:H a=q?:=kk.1;rw[z,hb] at k1;cases k1
    refine CW.emit hm hi (by rw[C?];omega) (g3 _ _ QO (kl _ _ hy)) hlen ⟨(g2l.trans g3).aJ DB _,?_,λj=>if j=i then x else cc j,?_⟩
    ·obtain⟨g4,r4,e4⟩:=TJ
     exact⟨g4,r4,by rw[aH (λz=>QO z.symm)];exact e4⟩
    ·refine(Cf.push ((((cy.same kl).Ge g3 yZ)).congr λj hj=>by show T'.enc (cc j)=T'.enc (if j=i then x else cc j);rw[Ww (by omega)]) ?_).upd
     show Rep H3 (Off H D) r3 (T'.enc (if i=i then x else cc i))
     rw[Wx rfl];refine Kv.imp λa o h kk=>⟨h,g2l.fresh aaT kk,λz=>?_⟩
     rw[z] at kk;have:=kl _ _ hy
     rw[show(upd H2 l (.lst (wv ws'))) D=q? from kk] at this
     cases this
   ·rintro ys H2 hy ⟨gg,hb2,cc,cy⟩
    let sx:aF T'.α:=⟨λi=>if i<M.n then cc i else 0⟩
    have dsx:Dg sx M.n:=λi hi=>by show(if i<M.n then cc i else 0)=0;rw[Ww (by omega)]
    refine q (⟨sx,dsx⟩:Qt M) _ H2 gg hb2 ?_
    refine(cy.Ek.congr λi hi=>?_).rep hy DB
    show T'.enc (cc i)=T'.enc (if i<M.n then cc i else 0)
    rw[Wx hi]
variable {CG CS CT:o?}
inductive Ja (CG CS CT:o?)(vs:List V)(H:Hp)(Q:VK)(iS:XK):Prop where
 | mk (b a wl:o?) (T:cj) (ws:List Nat) (m:Nat) (c5:vs=[.ref b,.ref a,.ref wl,.int (m:Int)]) (c6:wM H b) (dS:mh CG CS CT (del H b) a T) (fT:H wl=j? (.lst (wv ws))) (jv:wl≠b) (pZ:Wd T ws) (wA:ws.length<=5) (Fe:1<=m) (M3:m<=12) (SX:∀(M:Md T.α) r H',ur T M->M.n<=m->(ws=[]\/aT T (M.n+1) M.f≠aT T 2 X)->bO H b H'->wM H' b->Rep H' (bL H) r (aT T (M.n+1) M.f)->Q r H')
theorem LH (B:c7 mg)(O:TwE P w K mg base 29 (mh CG CS CT))(kT:b8 P w K mg base 8 "_law_element" GD (I_ K 7))(iG:b8 P w K mg base 34 "is_alone" dR (sQ (mh CG CS CT)))(F:Src K mg "_law_part" vE UC):b8 P w K mg base 35 "_law_part" UC (Ja CG CS CT):=by
 refine F.ok wW (λvs H Q E h=>?_) (λfa cdv A outer s H vs Q E hr h=>?_)
 ·obtain⟨b,a,wl,T,ws,m,rfl,_⟩:=h;rfl
 obtain⟨b,a,wl,T,ws,m,rfl,hb,ja,hw,hne,wd,hl,m1,m2,q⟩:=h;have hbd:=O.bd ja;have LI:∀ {H2:Hp},bO H b H2->mh CG CS CT H2 a T:=λg=>(ja.mono g.del).mono (rM _ _)
 have yZ:∀c,bL H c->c≠b:=λc k z=>by obtain⟨g,r,e⟩:=hb;rw[z] at k;rw[show H b=q? from k] at e;cases e
 have ewv:wv ws=(ws.map λm:Nat=>(m:Int)).map V.int:=by unfold wv;rw[Z3];rfl
 refine⟨_,ai (cE D? rfl (bI rfl B.range (af au ah)) (aA (i:=4) wW.nd rfl (z? rfl))
   (ai (aE (i:=5) wW.nd rfl (z? rfl) (aM jw (cA (aK (N:=VR) (sl:=[q?,j? 0,j? 1,j? 2]) (aj vE) Lq4 rfl rfl (by decide +kernel)) rfl (bI rfl B.range (af (pv 3) ah)) (λ_ _ _ _ _=>(aA (i:=0) (Yk_ VR) rfl (z? rfl))) (λ_ _ _ _ _=>bf) (λ_ _ _ _ _=>(aG kT hr (af (pv 1) (af (aY (K:=K) rfl (pv 2)) (af (pv 3) ah)))))) (bz (af (aO O.one hr (pv 1) ) ah))))
   (ao (bX (PW.pt (zV (cK (aG iG hr (af (pv 1) (af (pv 5) ah)))) (u6 (PW.pt (mC (aS (gZ (K:=K) rfl hr.units) (pv 2) (bz ah) (a_ _)) (kZ (aS (qb (K:=K) rfl hr.units) (pv 5) (bz (af (aO O.zero hr (pv 1) ) (af (aO O.one hr (pv 1) ) ah))) (a_ _))))))))
    (ao (aD (pv 5)))
    (aW)))))
  (ao (aD (bz (af (bh O.whole hr (pv 1) (af au ah)) (af (aO O.one hr (pv 1) ) ah))))),?_⟩
 refine⟨_,rfl,by decide,by decide,dF (n:=3) (λi σ H2=>qT (bO H b H2) (wM H2 b) (GG λo1 o2=>σ=[Rq b,Rq a,Rq wl,Iq (m),o1,o2])) ⟨bO.refl H b,hb,_,_,rfl⟩ ?_ ?_⟩
 ·rintro i σ H2 hi ⟨g2,hb2,o1,o2,rfl⟩
  refine⟨_,rfl,_,rfl,by omega,by omega,λD hD=>?_⟩
  rw[Yp];have DB:H D=q?:=g2.fresh (by obtain⟨g,r,e⟩:=hb2;exact⟨_,e⟩) hD
  have QO:D≠b:=λz=>by obtain⟨g,r,e⟩:=hb2;rw[z,e] at hD;cases hD
  refine dN (λj ys H3=>qT (bO H b H3) (wM H3 b) (∃c:Nat->T.α,Cf H3 (Off H D) ys j λj=>T.enc (c j))) ⟨g2.aJ DB _,?_,λ_=>0,.nil⟩ ?_ ?_
  ·obtain⟨g,r,e⟩:=hb2
   exact⟨g,r,by rw[aH (λz=>QO z.symm)];exact e⟩
  ·rintro j m' ys H3 hm hj hy hlen ⟨g3,TJ,cc,cy⟩
   obtain⟨C,dx,fs,qv,hcl,hna,hlk⟩:=O.fld (LI g3);refine⟨_,rfl,_,rfl,a,C,dx,_,_,rfl,qv,hcl,hna,hlk,_,rfl,b,wl,T,ws,rfl,TJ,g3 _ _ hne hw,hne,wd,by omega,by decide,λx r4 H4 g4 hb4 Jb=>?_⟩
   have QS:∃o,H3 b=j? o:=by obtain⟨g,r,e⟩:=TJ;exact⟨_,e⟩
   have okD:∀c,Off H D c->c≠b:=λc kk=>yZ c kk.1
   refine CW.emit hm hj (by rw[C?];omega) (g4 _ _ QO hy) hlen ⟨(g3.trans g4).aJ DB _,?_,λk=>if k=j then x else cc k,?_⟩
   ·obtain⟨g,r,e⟩:=hb4
    exact⟨g,r,by rw[aH (λz=>QO z.symm)];exact e⟩
   ·refine(Cf.push ((cy.Ge g4 okD).congr λk hk=>by show T.enc (cc k)=T.enc (if k=j then x else cc k);rw[Ww (by omega)]) ?_).upd
    show Rep H4 (Off H D) r4 (T.enc (if j=j then x else cc j))
    rw[Wx rfl];refine Jb.imp λc o h kk=>⟨h,g3.fresh QS kk,λz=>?_⟩
    rw[z] at kk;rw[show H3 D=q? from kk] at hy
    cases hy
  ·rintro ys H3 hy ⟨g3,TJ,cc,cy⟩
   have j3:=LI g3;refine⟨_,rfl,a,rfl,⟨T,j3⟩,λ_ h=>h,a,T,rfl,j3,λr4 H4 g4 Jb=>?_⟩
   refine⟨aZ rfl,λl4 O5=>?_⟩
   have k4:=av O5 (.lst [r4]);have Hi:=g4.trans k4;refine⟨D,l4,_,_,rfl,rfl,Hi _ _ hy,aq,by rw[cy.len,C?];show _+1<=_;omega,λL hL=>?_⟩
   have kL:=av hL (.lst (ys++[r4]));have g3L:=Hi.trans kL;have gL:bO H b (upd (upd H4 l4 (.lst [r4])) L (.lst (ys++[r4]))):=g3.trans (bO.of g3L);have QS:∃o,H3 b=j? o:=by obtain⟨g,r,e⟩:=TJ;exact⟨_,e⟩
   have hbL:wM (upd (upd H4 l4 (.lst [r4])) L (.lst (ys++[r4]))) b:=by obtain⟨g,r,e⟩:=TJ;exact⟨g,r,g3L _ _ e⟩
   have XE:H L=q?:=g3.fresh QS (Hi.free hL);have rL:Rep (upd (upd H4 l4 (.lst [r4])) L (.lst (ys++[r4]))) (bL H) (.ref L) (aT T ((Al m m1 cc).n+1) (Al m m1 cc).f):=by
    have c1:Cf (upd (upd H4 l4 (.lst [r4])) L (.lst (ys++[r4]))) (bL H) ys m λi=>T.enc ((Al m m1 cc).f.c i):=((cy.imp λc o h kk=>⟨g3L _ _ h,kk.1⟩)).congr λi hi=>by
     show T.enc (cc i)=T.enc (if i<m then cc i else if i=m then 1 else 0)
     rw[Wx hi]
    refine(c1.push (v:=r4) ?_).rep aq XE
    show Rep _ _ _ (T.enc (if m<m then cc m else if m=m then 1 else 0))
    rw[Ww (by omega),Wx rfl]
    exact((Jb.same k4).same kL).imp λc o h kk=>⟨h,g3.fresh QS kk⟩
   generalize upd (upd H4 l4 (.lst [r4])) L (.lst (ys++[r4]))=HL at gL hbL rL;have jL:=LI gL;refine⟨_,rfl,_,rfl,a,T,.ref L,Al m m1 cc,rfl,jL,rL.any,m2,λal H5 g5=>?_,λal H5 g5=>?_⟩
   ·refine⟨_,rfl,fE ?_⟩
    have gL5:=gL.trans (bO.of (b:=b) g5);have hb5:wM H5 b:=by obtain⟨g,r,e⟩:=hbL;exact⟨g,r,g5 _ _ e⟩
    refine⟨_,rfl,aZ rfl,λl6 hl6=>?_⟩
    have k6:=av hl6 (.lst []);have hw6:=k6 _ _ (gL5 _ _ hne hw);have gL6:=gL5.trans (bO.of (b:=b) k6);have hb6:wM (upd H5 l6 (.lst [])) b:=by obtain⟨g,r,e⟩:=hb5;exact⟨g,r,k6 _ _ e⟩
    have r6:=(rL.same g5).same k6;refine eqL (xs:=ws.map λm:Nat=>(m:Int)) (ys:=[]) (by rw[<- ewv];exact aU.of hw6) (aU.of aq) ⟨_,rfl,?_⟩
    by_cases w0:ws=[]
    ·refine ug (by rw[w0];rfl) (fE ?_)
     exact⟨_,rfl,q (Al m m1 cc) _ _ al (Yd _) (.inl w0) gL6 hb6 r6⟩
    ·refine oZ (λz=>w0 (by simpa using z)) ?_
     have j6:=LI gL6;refine⟨_,rfl,_,rfl,a,rfl,⟨T,j6⟩,λ_ h=>h,a,T,rfl,j6,λr7 H7 g7 Cp=>?_⟩
     have j7:=O.mono g7 j6;refine⟨_,rfl,a,rfl,⟨T,j7⟩,λ_ h=>h,a,T,rfl,j7,λr8 H8 g8 Tw=>?_⟩
     refine⟨aZ rfl,λl9 Hj=>?_⟩
     have k9:=av Hj (.lst [r7,r8]);have rX:Rep (upd H8 l9 (.lst [r7,r8])) Any (.ref l9) (aT T 2 X):=by
      refine(Cf.push (n:=1) (Cf.push (n:=0) (e:=λi=>T.enc ((X:aF T.α).c i)) .nil ?_) ?_:Cf _ Any ([]++[r7]++[r8]) 2 _).rep aq trivial
      ·exact((Cp.same g8).same k9).any
      ·exact(Tw.same k9).any
     have TM:=(g7.trans g8).trans k9;have gL9:=gL6.trans (bO.of (b:=b) TM);have XM:wM (upd H8 l9 (.lst [r7,r8])) b:=by obtain⟨g,r,e⟩:=hb6;exact⟨g,r,TM _ _ e⟩
     refine z_ (r6.same TM) rX (cO T (by show m+1<=100;omega) _) (cO T (by omega) _) (by omega) (by omega) (λz=>?_) (λz=>?_)
     ·exact⟨_,rfl,cX ⟨gL9,XM,_,_,rfl⟩⟩
     ·exact⟨_,rfl,fE ⟨_,rfl,q (Al m m1 cc) _ _ al (Yd _) (.inr z) gL9 XM (r6.same TM)⟩⟩
   ·refine⟨_,rfl,cX ?_⟩
    exact⟨gL.trans (bO.of g5),by obtain⟨g,r,e⟩:=hbL;exact⟨g,r,g5 _ _ e⟩,_,_,rfl⟩
 ·rintro σ H2 ⟨g2,hb2,o1,o2,rfl⟩
  have j2:=LI g2;refine⟨_,rfl,a,rfl,⟨T,j2⟩,λ_ h=>h,a,T,1,rfl,j2,λr3 H3 g3 Kv=>?_⟩
  have j3:=O.mono g3 j2;refine⟨_,rfl,a,rfl,⟨T,j3⟩,λ_ h=>h,a,T,rfl,j3,λr4 H4 g4 Jb=>?_⟩
  refine⟨aZ rfl,λl hl=>?_⟩
  have kl:=av hl (.lst [r3,r4]);have B3:=g3.trans g4;have aaY:∃o,H2 b=j? o:=by obtain⟨g,r,e⟩:=hb2;exact⟨_,e⟩
  have nf:∀c,bL H2 c->bL H c:=λc k=>g2.fresh aaY k
  refine q (Al 1 (by decide) λ_=>1) _ _ (.inl rfl) (by show 1<=m;omega) (.inr λz=>?_) (g2.trans (bO.of (B3.trans kl))) (by obtain⟨g,r,e⟩:=hb2;exact⟨g,r,(B3.trans kl) _ _ e⟩) ?_
  ·have e:=T.inj _ _ ((gQ z).2 0 (by show 0<1+1;decide))
   exact T.fld.1 e
  ·rw[S0] at Kv
   refine(Cf.push (n:=1) (Cf.push (n:=0) (e:=λi=>T.enc ((Al 1 (by decide) λ_=>(1:T.α)).f.c i)) .nil ?_) ?_:Cf _ (bL H) ([]++[r3]++[r4]) 2 _).rep aq (nf _ (B3.free hl))
   ·exact((Kv.same g4).same kl).imp λc o h kk=>⟨h,nf c kk⟩
   ·exact((Jb.older g3).same kl).imp λc o h kk=>⟨h,nf c kk⟩
end
section
variable {CG CS CT:o?}
def y9 (p:Nat):Nat:=if p<8 then 12 else 4
theorem QT (p):y9 p<=12:=by unfold y9;split <;> decide
structure aaZ (CG CS CT:o?)(H H':Hp)(a pl wl:o?)(T:cj)(ws:List Nat)(ps:List El):Prop where
 tow:mh CG CS CT (nw H H') a T
 nl:H wl=q?
 wl:H' wl=j? (.lst (wv ws))
 wd:Wd T ws
 len:ws.length<=5
 np:H pl=q?
 pl:Rep H' (bL H) (.ref pl) (.vec ps)
 afW:ps.length=ws.length
 up:∃hp:T.p∈PR,Up 0 ps (ground T.p hp) T
 bld:∃hp:T.p∈PR,VB hp ps ws T
 lim:T.d<=y9 T.p
inductive GQ (CG CS CT:o?)(vs:List V)(H:Hp)(Q:VK)(iS:XK):Prop where
 | mk (b:o?) (c5:vs=[.ref b]) (c6:wM H b) (dS:∀(t a pl wl:o?) (T:cj) (ws:List Nat) (ps:List El) H',bO H b H'->wM H' b->H t=q?->H' t=j? (.tup [.ref a,.ref pl,.ref wl])->aaZ CG CS CT H H' a pl wl T ws ps->Q (.ref t) H')
theorem Jc (B:c7 mg)(O:TwE P w K mg base 29 (mh CG CS CT))(pR:Maker P w K mg base 36 "Tower" CT GF (zN CG CS CT))(fK:b8 P w K mg base 1 "_law_take" IT (EO K))(Bb:b8 P w K mg base 35 "_law_part" UC (Ja CG CS CT))(F:Src K mg "_law_tower" wX NY):b8 P w K mg base 38 "_law_tower" NY (GQ CG CS CT):=by
 refine F.ok cY (λvs H Q E h=>?_) (λfa cdv A outer s H vs Q E hr h=>?_)
 ·obtain⟨b,rfl,_⟩:=h;rfl
 obtain⟨b,rfl,⟨g,r,hb⟩,q⟩:=h;refine⟨_,ai (aE (i:=1) cY.nd rfl (z? rfl) (bJ (aP (K:=K) rfl) (bz (af au (af au (af au (af au (af au (af au (af au (af au (af au (af au (af au (af au (af au (af au (af au (af au (af au (af au ah))))))))))))))))))) (aG fK hr (af (pv 0) (af au ah))) (λ_ _=>rfl)))
  (ai (aE (i:=2) cY.nd rfl (z? rfl) (bJ (aP (K:=K) rfl) (bz (af au (af au ah))) (C_ C5 rfl B.int Ec (af (pY yd (pv 1) au (a_ _)) ah)) (λ_ _=>rfl)))
  (ai (bX (aS tQ (aG fK hr (af (pv 0) (af au ah))) au (a_ _))
   (ai (aE (i:=1) cY.nd rfl (z? rfl) (aM d9 au (aM dj (pv 1) au)))
   (ao (aE (i:=2) cY.nd rfl (z? rfl) (bJ (aP (K:=K) rfl) (bz (af au (af au ah))) (aM dj (pv 1) au) (λ_ _=>rfl)))))
   (aW))
  (ai (aE (i:=3) cY.nd rfl (z? rfl) (bz ah))
  (ai (aE (i:=4) cY.nd rfl (z? rfl) (bz ah))
  (ai (aE (i:=5) cY.nd rfl (z? rfl) (Ef pR hr (af (pv 1) (af (bz ah) ah))))
  (ai (cE D? rfl (bI rfl B.range (af (bJ (aP (K:=K) rfl) (bz (af au (af au (af au (af au (af au (af au (af au (af au ah))))))))) (aG fK hr (af (pv 0) (af au ah))) (λ_ _=>rfl)) ah)) (aA (i:=6) cY.nd rfl (z? rfl))
   (ai (aE (i:=7) cY.nd rfl (z? rfl) (aG Bb hr (af (pv 0) (af (pv 5) (af (pv 3) (af (aM d9 au (aG fK hr (af (pv 0) (af (aI (C4 rfl) rfl B.«min» MJ (af au (af (pv 2) ah))) ah)))) ah))))))
   (ai (jS (u9 S? H! I! eW (pv 3) (af (aM di (aI (aN (K:=K) rfl) rfl B.len bR (af (pv 7) ah)) au) ah)))
   (ai (jS (u9 S? H! I! eW (pv 4) (af (pv 7) ah)))
   (ai (aE (i:=2) cY.nd rfl (z? rfl) (aM kD (pv 2) (aM di (aI (aN (K:=K) rfl) rfl B.len bR (af (pv 7) ah)) au)))
   (ao (aE (i:=5) cY.nd rfl (z? rfl) (Ef pR hr (af (pv 1) (af (pv 4) ah))))))))))
  (ao (aD (q_ (af (pv 5) (af (pv 4) (af (pv 3) ah)))))))))))),?_⟩
 walk_at "rd"
 intro l1 hl1;have k1:=av hl1 (.lst [.int 2,.int 3,.int 2,.int 5,.int 3,.int 7,.int 2,.int 11,.int 13,.int 17,.int 19,.int 23,.int 29,.int 31,.int 37,.int 41,.int 43,.int 47]);have aa0:l1≠b:=(aL hb hl1).symm;refine⟨_,rfl,b,g,r,18,rfl,k1 _ _ hb,by decide,Bd.mono (m:=64) (Bd.small (by decide) (by decide)) (by decide),λd g1 r1 d0 d1=>?_⟩
 obtain⟨p0,hp0,p1,p2⟩:=pick (xs:=[.int 2,.int 3,.int 2,.int 5,.int 3,.int 7,.int 2,.int 11,.int 13,.int 17,.int 19,.int 23,.int 29,.int 31,.int 37,.int 41,.int 43,.int 47]) (P:=λn=>n.toNat∈PR/\0<=n) d0 d1 (by
  intro v hv;simp only[Wf,Z5,or_false] at hv
  rcases hv with rfl|rfl|rfl|rfl|rfl|rfl|rfl|rfl|rfl|rfl|rfl|rfl|rfl|rfl|rfl|rfl|rfl|rfl <;> exact⟨_,rfl,by decide,by decide⟩)
 refine⟨l1,_,_,_,rfl,rfl,aU.of (by rw[aH aa0];exact aq),hp0,?_⟩
 have n1:bO H b (upd (upd H l1 (.lst [.int 2,.int 3,.int 2,.int 5,.int 3,.int 7,.int 2,.int 11,.int 13,.int 17,.int 19,.int 23,.int 29,.int 31,.int 37,.int 41,.int 43,.int 47])) b (.lst [.int g1,.int r1])):=(bO.of k1).upd _;have e1:(upd (upd H l1 (.lst [.int 2,.int 3,.int 2,.int 5,.int 3,.int 7,.int 2,.int 11,.int 13,.int 17,.int 19,.int 23,.int 29,.int 31,.int 37,.int 41,.int 43,.int 47])) b (.lst [.int g1,.int r1])) b=j? (.lst [.int g1,.int r1]):=aq;generalize upd (upd H l1 (.lst [.int 2,.int 3,.int 2,.int 5,.int 3,.int 7,.int 2,.int 11,.int 13,.int 17,.int 19,.int 23,.int 29,.int 31,.int 37,.int 41,.int 43,.int 47])) b (.lst [.int g1,.int r1])=H1 at n1 e1;walk_at "rd"
 intro l2 hl2;have k2:=av hl2 (.lst [.int 4,.int 6]);refine⟨_,rfl,_,_,rfl,rfl,.inr ⟨_,rfl,?_⟩⟩
 obtain⟨V8,hr0,q1,q2⟩:=pick (xs:=[.int 4,.int 6]) (i:=if decide (p0<8)=true then 1 else 0) (P:=λn=>1<=n/\n<=12) (by split <;> decide) (by split <;> decide) (by
  intro v hv;simp only[Wf,Z5,or_false] at hv
  rcases hv with rfl|rfl <;> exact⟨_,rfl,by decide,by decide⟩)
 refine⟨l2,_,_,_,rfl,rfl,aU.of aq,hr0,?_⟩
 have n2:=n1.trans (bO.of (b:=b) k2);have e2:=k2 _ _ e1;generalize upd H1 l2 (.lst [.int 4,.int 6])=H2 at n2 e2;refine⟨_,rfl,b,g1,r1,8,rfl,e2,by decide,Bd.mono (m:=64) (Bd.small (by decide) (by decide)) (by decide),λd2 g2 r2 d20 d21=>?_⟩
 have n3:=n2.upd (.lst [.int g2,.int r2]);have e3:(upd H2 b (.lst [.int g2,.int r2])) b=j? (.lst [.int g2,.int r2]):=aq;generalize upd H2 b (.lst [.int g2,.int r2])=H3 at n3 e3;apply merge (M:=λσ HM=>qT (bO H b HM) (HM b=j? (.lst [.int g2,.int r2])) (GG λ(pn room:Nat)=>LA (σ=[Rq b,Iq (pn),Iq (room),q?,q?,q?,q?,q?]) (pn∈PR) (1<=room) (room<=y9 pn)))
 case h1=>
  intro key;refine⟨rfl,_,rfl,wB (λc=>?_) (λc=>?_)⟩
  ·have r3:=qc p0 (y:=2) (by decide)
   refine⟨_,rfl,_,_,rfl,rfl,(show(2:Int)≠0 by decide),_,_,rfl,rfl,?_⟩
   show gG 1 (V.int (2+p0.fmod 2)) _ _ _
   obtain⟨pn,epn,LJ,hp8⟩:∃pn:Nat,2+p0.fmod 2=(pn:Int)/\pn∈PR/\y9 pn=12:=by
    have:p0.fmod 2=0\/p0.fmod 2=1:=by omega
    rcases this with z|z
    ·exact⟨2,by rw[z];rfl,by decide,rfl⟩
    ·exact⟨3,by rw[z];rfl,by decide,rfl⟩
   rw[epn];refine⟨aZ rfl,λl4 O5=>?_⟩
   have k4:=av O5 (.lst [.int 12,.int 8]);have r4:=qc (pn:Int) (y:=2) (by decide)
   obtain⟨V9,hr1,q3,q4⟩:=pick (xs:=[.int 12,.int 8]) (i:=(pn:Int).fmod 2) (P:=λn=>1<=n/\n<=12) r4.1 r4.2 (by
    intro v hv;simp only[Wf,Z5,or_false] at hv
    rcases hv with rfl|rfl <;> exact⟨_,rfl,by decide,by decide⟩)
   refine⟨_,rfl,_,_,rfl,rfl,(show(2:Int)≠0 by decide),l4,_,_,_,rfl,rfl,aU.of aq,hr1,?_⟩
   obtain⟨rn,rfl⟩:=Y3 (show 0<=V9 by omega)
   exact key _ _ ⟨n3.trans (bO.of k4),k4 _ _ e3,pn,rn,rfl,LJ,by omega,by rw[hp8];omega⟩
  ·obtain⟨pn,rfl⟩:=Y3 p2
   obtain⟨rn,rfl⟩:=Y3 (show 0<=V8 by omega)
   refine key _ _ ⟨n3,e3,pn,rn,rfl,by rw[Yp] at p1;exact p1,by omega,?_⟩
   unfold y9;by_cases c8:pn<8
   ·rw[Wx c8];omega
   ·rw[Ww c8]
    rw[Ww (λz=>c8 (by have:=Wz z;omega))] at hr0
    have e4:V.int 4=V.int (rn:Int):=N? hr0;have:=V.int.inj e4
    omega
 case h2=>
  rintro σ HM ⟨nM,eM,pn,room,rfl,LJ,V_,rm2⟩;refine⟨aZ rfl,λwl hwl=>?_⟩
  have kw:=av hwl (.lst []);refine⟨aZ rfl,λpl hpl=>?_⟩
  have kp:=av hpl (.lst []);have hwp:wl≠pl:=λz=>by rw[z] at hpl;rw[aq] at hpl;cases hpl
  have eS:(upd (upd HM wl (.lst [])) pl (.lst [])) b=j? (.lst [.int g2,.int r2]):=kp _ _ (kw _ _ eM);have TH:(upd (upd HM wl (.lst [])) pl (.lst [])) wl=j? (.lst []):=kp _ _ aq;have epl:(upd (upd HM wl (.lst [])) pl (.lst [])) pl=j? (.lst []):=aq;have nS:bO H b (upd (upd HM wl (.lst [])) pl (.lst [])):=nM.trans (bO.of (kw.trans kp));have TN:H wl=q?:=nM.fresh ⟨_,eM⟩ hwl;have QU:H pl=q?:=nM.fresh ⟨_,eM⟩ (kw.free hpl);generalize upd (upd HM wl (.lst [])) pl (.lst [])=HS at eS TH epl nS;have UM:wl≠b:=(aL hb TN).symm;have XN:pl≠b:=(aL hb QU).symm;refine⟨_,rfl,aZ rfl,λl5 hl5=>?_⟩
  have k5:=av hl5 (.lst []);intro x dx nx ndx hne;have pp:=bM LJ;refine⟨x,dx,pn,LJ,.ref l5,[],ground pn LJ,upd HS l5 (.lst []),rfl,aq,(av ndx _).aJ nx _,nx,.vec aq trivial rfl (λi _ _ h=>by simp at h),by decide,.nil,λbt v1 v2 H6 g6 e6 j6 t_ yt _=>⟨rfl,?_⟩⟩
  have gS6:ay HS H6:=k5.trans g6;have hxS:HS x=q?:=k5.free nx;have jF:mh CG CS CT (nw HS H6) x (ground pn LJ):=⟨dx,bt,v1,v2,by rw[tV hxS];exact e6,0,by decide,j6.mono (Gd k5)⟩
  refine⟨aZ rfl,λl7 XO=>?_⟩
  have k7:=av XO (.lst [.int 0,.int 1,.int 1,.int 2,.int 2,.int 3,.int 1,.int 5]);have gS7:=gS6.trans k7;have e7:=gS7 _ _ eS;have l7b:l7≠b:=λz=>by rw[z] at XO;rw[gS6 _ _ eS] at XO;cases XO
  refine⟨_,rfl,b,g2,r2,8,rfl,e7,by decide,Bd.mono (m:=64) (Bd.small (by decide) (by decide)) (by decide),λd3 g3 r3 d30 d31=>?_⟩
  obtain⟨cnt,aa2,q5,q6⟩:=pick (xs:=[.int 0,.int 1,.int 1,.int 2,.int 2,.int 3,.int 1,.int 5]) (P:=λn=>0<=n/\n<=5) d30 d31 (by
   intro v hv;simp only[Wf,Z5,or_false] at hv
   rcases hv with rfl|rfl|rfl|rfl|rfl|rfl|rfl|rfl <;> exact⟨_,rfl,by decide,by decide⟩)
  refine⟨l7,_,_,_,rfl,rfl,aU.of (by rw[aH l7b];exact aq),aa2,_,rfl,by omega,by omega,?_⟩
  obtain⟨cn,rfl⟩:=Y3 q5;rw[Yp];have WA:bO HS b (upd (upd H6 l7 (.lst [.int 0,.int 1,.int 1,.int 2,.int 2,.int 3,.int 1,.int 5])) b (.lst [.int g3,.int r3])):=(bO.of gS7).upd _;have e8:(upd (upd H6 l7 (.lst [.int 0,.int 1,.int 1,.int 2,.int 2,.int 3,.int 1,.int 5])) b (.lst [.int g3,.int r3])) b=j? (.lst [.int g3,.int r3]):=aq;have s67:∀c o,HS c=q?->H6 c=j? o->(upd (upd H6 l7 (.lst [.int 0,.int 1,.int 1,.int 2,.int 2,.int 3,.int 1,.int 5])) b (.lst [.int g3,.int r3])) c=j? o:=λc o hc e=>by
   rw[aH (λz=>by rw[z,eS] at hc;cases hc)];exact k7 _ _ e
  generalize upd (upd H6 l7 (.lst [.int 0,.int 1,.int 1,.int 2,.int 2,.int 3,.int 1,.int 5])) b (.lst [.int g3,.int r3])=H8 at WA e8 s67;have jF8:=jF.mono (J5 s67);refine dF (λi σ H9=>LA (bO H b H9) (wM H9 b) ((∀c,H9 c=q?->HS c=q?)) (E8q λ(room:Nat) (a:o?) (T:cj) (ps:List El) (ws:List Nat) (Kw:List V) (o1 o2:Option V)=>aai (σ=[Rq b,Iq (pn),Iq (room),Rq wl,Rq pl,Rq a,o1,o2]) (H9 wl=j? (.lst (wv ws))) (H9 pl=j? (.lst Kw)) (Cf H9 (bL HS) Kw i (λj=>ps.getD j (.num 0))) (ps.length=i) (ws.length=i) (mh CG CS CT (nw HS H9) a T) (Wd T ws) (Up 0 ps (ground pn LJ) T) (VB LJ ps ws T) (1<=room) (T.d*room<=y9 pn))) ?_ ?_ ?_
  ·refine⟨nS.trans WA,⟨_,_,e8⟩,λc hc=>WA.fresh ⟨_,e8⟩ hc,room,x,ground pn LJ,[],[],[],_,_,rfl,WA _ _ UM TH,WA _ _ XN epl,.nil,rfl,rfl,jF8,.gr LJ,.nil,.nil,V_,?_⟩
   show 1*room<=y9 pn
   omega
  ·rintro i σ H9 hi ⟨n9,⟨g9,r9,e9⟩,TQ,room,a,T,ps,ws,Kw,o1,o2,rfl,XQ,hp9,XR,UN,QV,jF9,wd,up,bl,V_,hd⟩
   have WB:T.p=pn:=up.p;refine⟨_,rfl,_,rfl,_,rfl,_,rfl,_,rfl,_,_,rfl,?_⟩
   obtain⟨mm,emm,m1,m2,m3⟩:∃mm:Nat,(if (room:Int)<4 then (room:Int) else 4)=(mm:Int)/\1<=mm/\mm<=4/\mm<=room:=by
    by_cases c:(room:Int)<4
    ·exact⟨room,by rw[Wx c],V_,by omega,Yd _⟩
    ·exact⟨4,by rw[Ww c];rfl,by decide,by decide,by omega⟩
   rw[emm];refine⟨b,g9,r9,(mm:Int),rfl,e9,by omega,Bd.mono (m:=64) (Bd.small (by omega) (by omega)) (by decide),λd4 WC WD d40 d41=>?_⟩
   obtain⟨dn,rfl⟩:=Y3 d40;have n10:=n9.upd (.lst [.int WC,.int WD]);have e10:(upd H9 b (.lst [.int WC,.int WD])) b=j? (.lst [.int WC,.int WD]):=aq;have Jd:∀c o,c≠b->H9 c=j? o->(upd H9 b (.lst [.int WC,.int WD])) c=j? o:=λc o hc e=>by rw[aH hc];exact e
   generalize upd H9 b (.lst [.int WC,.int WD])=H10 at n10 e10 Jd;have hSb:∀c,HS c=q?->c≠b:=λc hc z=>by rw[z,eS] at hc;cases hc
   have aa7:=jF9.mono (J5 λc o hc e=>Jd c o (hSb c hc) e)
   refine⟨_,_,rfl,rfl,?_⟩
   have edn:(1:Int)+(dn:Int)=((1+dn:Nat):Int):=by omega
   refine⟨b,a,wl,T,ws,1+dn,by rw[<- edn];rfl,⟨_,_,e10⟩,aa7.mono (S4 eS),Jd _ _ UM XQ,UM,wd,by omega,by omega,by omega,λM rp QW al hMm hlt WE WG WH=>?_⟩
   obtain⟨lp,WI,rfl,hlp,UO,cpp⟩:=id WH.cf;have V2:=M.pos;have w10:=Jd _ _ UM XQ;have p10:=Jd _ _ XN hp9;have WJ:=WE _ _ UM w10;have aa_:=WE _ _ XN p10;have Ky:∀c,H10 c=q?->HS c=q?:=λc hc=>TQ c (by
    cases e:H9 c with
    | none=>rfl
    | some o=>
     have hcb:c≠b:=λz=>by rw[z,e10] at hc;cases hc
     rw[Jd c o hcb e] at hc;cases hc)
   have WK:∀c,QW c=q?->HS c=q?:=λc hc=>Ky c (WE.fresh (by obtain⟨g,r,e⟩:=WG;exact⟨_,e⟩) hc)
   have aba:lp≠wl:=λz=>by rw[z] at UO;rw[show H10 wl=q? from UO] at w10;cases w10
   have abb:lp≠pl:=λz=>by rw[z] at UO;rw[show H10 pl=q? from UO] at p10;cases p10
   have TR:(WI.length:Int)-1=(M.n:Int):=by rw[cpp.len];omega
   have ew:wv ws++[(λi j:Int=>V.int (i-j)) (WI.length:Int) 1]=wv (ws++[M.n]):=by
    show wv ws++[V.int ((WI.length:Int)-1)]=_
    rw[TR];unfold wv;simp
   refine⟨_,rfl,.inl ⟨rfl,_,aU.of WJ⟩,_,rfl,lp,_,rfl,.inl (aU.of hlp),_,_,rfl,rfl,wl,_,_,rfl,rfl,WJ,by unfold wv;rw[Yc,C?];omega,?_⟩
   rw[ew];have WL:(upd QW wl (.lst (wv (ws++[M.n])))) pl=j? (.lst Kw):=by rw[aH hwp.symm];exact aa_
   refine⟨_,rfl,.inl ⟨rfl,_,aU.of WL⟩,_,rfl,pl,Kw,_,rfl,rfl,WL,by rw[XR.len,C?];omega,?_⟩
   have LK:∀c o,c≠wl->c≠pl->QW c=j? o->(upd (upd QW wl (.lst (wv (ws++[M.n])))) pl (.lst (Kw++[.ref lp]))) c=j? o:=λc o h1 h2 e=>by rw[aH h2,aH h1];exact e
   have w13:(upd (upd QW wl (.lst (wv (ws++[M.n])))) pl (.lst (Kw++[.ref lp]))) wl=j? (.lst (wv (ws++[M.n]))):=by rw[aH hwp];exact aq
   have XS:(upd (upd QW wl (.lst (wv (ws++[M.n])))) pl (.lst (Kw++[.ref lp]))) pl=j? (.lst (Kw++[.ref lp])):=aq;have n13:bO H b (upd (upd QW wl (.lst (wv (ws++[M.n])))) pl (.lst (Kw++[.ref lp]))):=((n10.trans WE).aJ TN _).aJ QU _;generalize upd (upd QW wl (.lst (wv (ws++[M.n])))) pl (.lst (Kw++[.ref lp]))=H13 at LK w13 XS n13;have WM:=LK _ _ aba abb hlp;have Oa:∀c,H13 c=q?->HS c=q?:=λc hc=>by
    by_cases z1:c=wl
    ·rw[z1,w13] at hc;cases hc
    ·by_cases z2:c=pl
     ·rw[z2,XS] at hc;cases hc
     ·refine WK c ?_
      cases e:QW c with
      | none=>rfl
      | some o=>rw[LK c o z1 z2 e] at hc;cases hc
   have WN:∀c,HS c=q?->c≠wl:=λc hc z=>by rw[z,TH] at hc;cases hc
   have WO:∀c,HS c=q?->c≠pl:=λc hc z=>by rw[z,epl] at hc;cases hc
   have abd:∀c o,HS c=q?->H9 c=j? o->H13 c=j? o:=λc o hc e=>LK c o (WN c hc) (WO c hc) (WE _ _ (hSb c hc) (Jd _ _ (hSb c hc) e))
   have c13:Cf H13 (bL HS) (Kw++[.ref lp]) (i+1) λj=>(ps++[aT T (M.n+1) M.f]).getD j (.num 0):=by
    refine Cf.push ((XR.imp λc o h kk=>⟨abd c o kk h,kk⟩).congr λj hj=>?_) ?_
    ·rw[Yb,Yb,Yx (by omega)]
    ·have eg:(ps++[aT T (M.n+1) M.f]).getD i (.num 0)=aT T (M.n+1) M.f:=by
      rw[Yb,<- UN,Zc];rfl
     rw[eg];exact WH.imp λc o h kk=>⟨LK c o (WN c (Ky c kk)) (WO c (Ky c kk)) h,Ky c kk⟩
   refine⟨_,rfl,_,rfl,lp,_,rfl,.inl (aU.of WM),_,_,rfl,rfl,_,_,rfl,rfl,?_,?_⟩
   ·show yi _ ((WI.length:Int)-1)
    rw[TR];exact(Bd.small (x:=(M.n:Int)) (by omega) (by omega)).dv (by omega)
   show gG 2 (V.int ((room:Int).fdiv ((WI.length:Int)-1))) _ _ _
   rw[TR,zJ];have Bc:M.n<=100:=by omega
   have hMr:M.n<=room:=by omega
   have hdM:T.d*M.n<=12:=Ys (Ys (Yz _ hMr) hd) (QT _);refine⟨_,rfl,_,rfl,λx' JV nx' TF hne'=>?_⟩
   have WQ:(ps++[aT T (M.n+1) M.f]).length=i+1:=by rw[Yk,UN];rfl
   refine⟨x',JV,pn,LJ,.ref pl,ps++[aT T (M.n+1) M.f],T.up M al.alone Bc,H13,rfl,aq,(av TF _).aJ nx' _,nx',?_,by omega,up.snoc al Bc hdM (hlt.imp (λz=>by rw[z] at QV;simp at QV;omega) id),λbt' v1' v2' H14 DC e14 j14 _ _ _=>⟨rfl,?_⟩⟩
   ·rw[dW,WQ]
    exact(c13.imp λc o h _=>⟨h,trivial⟩).rep XS trivial
   ·refine⟨n13.trans (bO.of DC),?_,λc hc=>Oa c (DC.free hc),room / M.n,x',T.up M al.alone Bc,ps++[aT T (M.n+1) M.f],ws++[M.n],Kw++[.ref lp],_,_,rfl,DC _ _ w13,DC _ _ XS,c13.same DC,WQ,by rw[Yk,QV];rfl,?_,.up al.alone Bc wd,up.snoc al Bc hdM (hlt.imp (λz=>by rw[z] at QV;simp at QV;omega) id),bl.snoc al Bc hdM (hlt.imp (λz=>by rw[z] at QV;simp at QV;rw[<- QV] at UN;exact Zs UN) id),Nat.div_pos hMr V2,?_⟩
    ·obtain⟨g,r,e⟩:=WG
     exact⟨g,r,DC _ _ (LK _ _ UM.symm XN.symm e)⟩
    ·refine⟨JV,bt',v1',v2',?_,(ps++[aT T (M.n+1) M.f]).length,by omega,j14.mono (M8 Oa)⟩
     rw[tV (Oa x' nx')];rw[show(T.up M al.alone Bc).p=pn from WB]
     exact e14
    ·show T.d*M.n*(room / M.n)<=y9 pn
     rw[Nat.mul_assoc];exact Ys (Yz _ (Nat.mul_div_le _ _)) hd
  ·rintro σ H9 ⟨n9,XM,TQ,room,a,T,ps,ws,Kw,o1,o2,rfl,XQ,hp9,XR,UN,QV,jF9,wd,up,bl,V_,hd⟩
   have WB:T.p=pn:=up.p;refine⟨_,rfl,_,rfl,_,rfl,aZ rfl,λt ht=>?_⟩
   have kt:=av ht (.tup [.ref a,.ref pl,.ref wl]);have nt':bO H b _:=n9.trans (bO.of (b:=b) kt);have fS:∀c,HS c=q?->H c=q?:=λc hc=>nS.fresh ⟨_,eS⟩ hc
   refine q t a pl wl T ws ps _ nt' (by obtain⟨g,r,e⟩:=XM;exact⟨g,r,kt _ _ e⟩) (fS t (TQ t ht)) aq ⟨?_,TN,kt _ _ XQ,wd,by omega,QU,?_,by omega,?_,?_,by rw[WB];exact Ys (Nat.le_mul_of_pos_right _ V_) hd⟩
   ·exact jF9.mono ((J4 kt).trans (M8 fS))
   ·rw[dW,UN]
    exact(XR.imp λc o h kk=>⟨kt _ _ h,fS c kk⟩).rep (kt _ _ hp9) QU
   ·subst WB
    exact⟨LJ,up⟩
   ·subst WB
    exact⟨LJ,bl⟩
end
structure WR (K:bK)(CS CT:o?):Prop where
 s:bG K CS "power" "Storey.power" jl nZ
 t:bG K CT "power" "Tower.power" ku nZ
section
variable {CG CS CT:o?} {k n:Nat}
theorem y_ (B:c7 mg)(uF:b8 P w K mg base k "power_in" IV (rF (IsT CG CS n)))(F:bG K CS "power" "Storey.power" jl nZ):jy P w K mg base (k+1) CS "power" nZ (rF (IsT CG CS n)):=by
 refine F.ok yO (λvs H Q E h=>?_) (λfa cdv A outer s H vs Q E hr h=>?_)
 ·obtain⟨a,T,u,x,m,rfl,_⟩:=h;rfl
 obtain⟨a,T,u,x,m,rfl,ja,ru,hn,q⟩:=h;refine⟨_,ao (aD (aG uF hr (af (pv 0) (af (pv 1) (af (pv 2) ah))))),?_⟩
 exact⟨_,rfl,_,rfl,_,rfl,a,T,u,x,m,rfl,ja,ru,hn,q⟩
theorem Be (B:c7 mg)(c:G9 K CT)(O:ZN P w K mg base k (iB CG CS))(F:bG K CT "power" "Tower.power" ku nZ):jy P w K mg base (k+1) CT "power" nZ (rF (mh CG CS CT)):=by
 refine F.ok AU (λvs H Q E h=>?_) (λfa cdv A outer s H vs Q E hr h=>?_)
 ·obtain⟨a,T,u,x,m,rfl,_⟩:=h;rfl
 obtain⟨a,T,u,x,m,rfl,⟨dx,b,v1,v2,h1,ju⟩,ru,hn,q⟩:=h;refine⟨_,ao (aD (bh O.power hr (aY (K:=K) rfl (pv 0)) (af (pv 1) (af (pv 2) ah)))),?_⟩
 exact⟨_,rfl,a,CT,dx,_,_,rfl,h1,c.cl,c.nT,jE,b,rfl,⟨T,ju⟩,_,rfl,_,rfl,λ_ h=>h,b,T,u,x,m,rfl,ju,ru,hn,q⟩
theorem QX (B:c7 mg)(X:r_ K mg CG CS)(Y:A5 K mg CG CS)(Z:DE K CT)(W:WR K CS CT):nj P w K mg base 31 (JJ (mh CG CS CT)) "power" nZ (rF (mh CG CS CT)):=by
 have E:=sV (P:=P) (w:=w) (base:=base) B X Y;have O:TwE P w K mg base 28 (iB CG CS):=Qh λn hn=>(E n hn).up (by omega)
 have np:=k_ (P:=P) (w:=w) (base:=base) B X.f2;have pU:nj P w K mg base 30 (JJ (iB CG CS)) "power" nZ (rF (iB CG CS)):=by
  refine eZ (sp:=rF) (λi=>?_) (λJ vs H Q E ⟨a,T,u,x,n,e,j,_,_,_⟩=>⟨a,by rw[e];rfl,T,j⟩) λvs H Q E ⟨a,T,u,x,n,e,⟨m,hm,j⟩,q,q2,q3⟩=>⟨⟨m,hm⟩,a,T,u,x,n,e,j,q,q2,q3⟩
  obtain⟨m,hm⟩:=i;have Om:TwO P w K mg base 28 (IsT CG CS m):=((E m hm).up (by omega)).toTwB.toTwO
  have pi:=yx B Om (by decide) np X.f16
  cases m with
  | zero=>exact iZ X.cg (by decide) ((qP B pi X.g8).imp λvs H Q E h=>h.1)
  | succ m=>exact gn X.cs (by decide) (by decide) (by decide) (y_ B pi W.s)
 exact jJ Z.c (by decide) (by decide) (by decide) (by decide) (Be B Z.c ⟨O.toTwB.toTwO.up (by decide),pU⟩ W.t)
end
section
variable {CG CS CT:o?} {k:Nat} {J:L2.Kind}
def eN (l:List Int):El:=.vec (l.map El.num)
def Rw (p:Nat)(n:Nat)(l:List Int):Prop:=l.length=n/\∀x∈l,0<=x/\x<(p:Int)
theorem fh(h:H l=j? (.lst (ns.map V.int)))(k:ok l):Rep H ok (.ref l) (eN ns):=.vec h k (by rw[Yc,Yc]) λi v e h1 h2=>by
 rw[Yh] at h1 h2;cases z:ns[i]? with
 | none=>rw[z] at h1;cases h1
 | some n=>rw[z] at h1 h2;cases h1;cases h2;exact .num n
theorem ints_rep(h:Rep H ok v (eN ns)):∃l,v=.ref l/\H l=j? (.lst (ns.map V.int))/\ok l:=by
 unfold eN at h;generalize he:El.vec (ns.map El.num)=e at h;cases h with
 | num n=>cases he
 | @vec a vs l h k hl it=>
  injection he with he
  refine⟨a,rfl,?_,k⟩
  have:vs=ns.map V.int:=by
   refine List.ext_getElem? λi=>?_
   rw[Yh];cases z:ns[i]? with
   | none=>
    have:=List.getElem?_eq_none_iff.mp z
    rw[List.getElem?_eq_none_iff.mpr (by rw[hl,<- he,Yc];exact this)];rfl
   | some n=>
    have hi:=(List.getElem?_eq_some_iff.mp z).1;have h2:l[i]?=j? (.num n):=by rw[<- he,Yh,z];rfl
    have h1:vs[i]?=j? (vs[i]'(by rw[hl,<- he,Yc];exact hi)):=Ya _
    have:=it i _ _ h1 h2
    rw[h1];generalize vs[i]'(by rw[hl,<- he,Yc];exact hi)=y at this
    cases this;rfl
  rw[<- this];exact h
inductive DF  (vs:List V)(H:Hp)(Q:VK)(iS:XK):Prop where
 | mk (p m:Nat) (i:Nat) (u v:V) (a b:List Int) (c5:vs=[u,v,.int (i:Int),.int (p:Int)]) (c6:p∈PR) (dS:Rep H Any u (eN a)) (fT:Rep H Any v (eN b)) (jv:Rw p m a) (pZ:Rw p m b) (wA:i<m) (Fe:m<=100) (M3:∀r H',ay H H'->Rep H' (bL H) r (eN (Zw (λx y=>(x-a.getD i 0*y) % (p:Int)) a b))->Q r H')
theorem za (B:c7 mg)(F:Src K mg "without_lead" i7 IS):b8 P w K mg base 1 "without_lead" IS DF:=by
 refine F.ok qN (λvs H Q E h=>?_) (λfa cdv A outer s H vs Q E hr h=>?_)
 ·obtain⟨p,m,i,u,v,a,b,rfl,_⟩:=h;rfl
 obtain⟨p,m,i,u,v,a,b,rfl,hp,ru,rv,ra,rb,hi,hm,q⟩:=h;obtain⟨la,rfl,hla,_⟩:=ints_rep ru;obtain⟨lb,rfl,hlb,_⟩:=ints_rep rv;refine⟨_,ai (aE (i:=4) qN.nd rfl (Or.inr rfl) (bJ (aP (K:=K) rfl) (pv 0) (pv 2) (λ_ _=>rfl)))
  (ao (aD (cA (aK (N:=Tq) (sl:=[q?,q?,j? 4,j? 3]) (aj i7) ["row","lead_row","place","p","factor"] rfl rfl (by decide +kernel)) rfl (vc (K:=K) rfl rfl B.zip (af (pv 0) (af (pv 1) ah))) (λ_ _ _ _ _=>(cU (n:=2) (K:=K) rfl rfl (aQ (aA (i:=0) (Yk_ Tq) rfl (z? rfl)) (aQ (aA (i:=1) (Yk_ Tq) rfl (z? rfl)) cT)))) (λ_ _ _ _ _=>bf) (λ_ _ _ _ _=>(aM dj (aM di (pv 0) (aM dZ (pv 2) (pv 1))) (pv 3)))))),?_⟩
 have pp:=bM hp;have hget:a[i]?=j? (a.getD i 0):=by rw[Yb,Ya (by rw[ra.1];exact hi)];rfl
 have hga:=ra.2 _ (Yo hget);generalize a.getD i 0=c at hget hga q;refine⟨_,rfl,_,rfl,la,_,_,_,rfl,rfl,aU.of hla,bF (j:=i) (by rw[Yh,hget];rfl),?_⟩
 refine⟨_,rfl,_,rfl,la,lb,rfl,⟨_,aU.of hla⟩,⟨_,aU.of hlb⟩,λD hD=>?_⟩
 refine F6 (xs:=a.map V.int) (ys:=b.map V.int) (λn zs H2=>ay H H2/\zs=((Zw (λx y=>(x-c*y) % (p:Int)) a b).take n).map V.int) (by rw[Yc,Yc,ra.1,rb.1]) ⟨av hD _,rfl⟩ (λn zs H2 _ h=>⟨aU.of (h.1 _ _ hla),aU.of (h.1 _ _ hlb)⟩) (λn m' vx vy zs H2 r hm hn hvx hvy hy hlen h hr2=>?_) (λzs H2 hy h=>?_)
 ·obtain⟨g2,rfl⟩:=h
  rw[Yc,ra.1] at hn;obtain⟨x,hx,rfl⟩:=rD hvx;obtain⟨y,hy',rfl⟩:=rD hvy;have k2:=av hr2 (.tup [.int x,.int y]);have yb:=rb.2 _ (Yo hy');refine⟨r,_,rfl,iR.of aq,rfl,_,_,rfl,_,_,rfl,rfl,?_⟩
  refine⟨_,rfl,_,rfl,_,rfl,_,_,rfl,rfl,z6 (Bd.small (by omega) (by omega)) (Bd.small (by omega) (by omega)) (by decide),_,_,rfl,rfl,_,rfl,_,_,rfl,rfl,(show(p:Int)≠0 by omega),?_⟩
  refine CW.emit hm (by rw[Yc,ra.1];exact hn) (by rw[Yc,ra.1,C?];omega) (k2 _ _ hy) hlen ⟨ay.aJ (g2.trans k2) hD _,?_⟩
  have hz:(Zw (λx y=>(x-c*y) % (p:Int)) a b)[n]?=j? ((x-c*y) % (p:Int)):=by rw[List.getElem?_zipWith,hx,hy']
  rw[Zx,hz,Yr];show _++[V.int ((x-c*y).fmod (p:Int))]=_++[V.int ((x-c*y) % (p:Int))]
  rw[um]
 ·obtain⟨g2,rfl⟩:=h
  rw[Zn (by rw[List.length_zipWith,Yc,ra.1,rb.1];omega)] at hy
  exact q _ _ g2 (fh hy (show H D=q? from hD))
inductive DG  (vs:List V)(H:Hp)(Q:VK)(iS:XK):Prop where
 | mk (p:Nat) (hp:p∈PR) (m i:Nat) (u:V) (a:List Int) (c5:vs=[u,.int (i:Int),.int (p:Int)]) (c6:Rep H Any u (eN a)) (dS:Rw p m a) (fT:i<m) (jv:m<=100) (pZ:a.getD i 0≠0) (wA:∀(b:Nat) r H',(b*(a.getD i 0).toNat) % p=1->ay H H'->Rep H' (bL H) r (eN (a.map λx=>((b:Int)*x) % (p:Int)))->Q r H')
theorem xj (B:c7 mg)(F:Src K mg "with_lead_one" g_ NW):b8 P w K mg base 1 "with_lead_one" NW DG:=by
 refine F.ok jG (λvs H Q E h=>?_) (λfa cdv A outer s H vs Q E hr h=>?_)
 ·obtain⟨p,hp,m,i,u,a,rfl,_⟩:=h;rfl
 obtain⟨p,hp,m,i,u,a,rfl,ru,ra,hi,hm,h0,q⟩:=h;obtain⟨la,rfl,hla,_⟩:=ints_rep ru;refine⟨_,ai (aE (i:=3) jG.nd rfl (Or.inr rfl) au)
  (ai (iW D? (aS FO (aM dj (aM dZ (pv 3) (bJ (aP (K:=K) rfl) (pv 0) (pv 1) (λ_ _=>rfl))) (pv 2)) au (a_ _))
   (ao (Mj (i:=3) jG.nd rfl (Or.inr rfl) au Py)))
  (ao (aD (cA (aK (N:=["one","back","p"]) (sl:=[q?,j? 3,j? 2]) (aj g_) ["row","place","p","back"] rfl rfl (by decide +kernel)) rfl (bZ (K:=K) rfl (pv 0)) (λ_ _ _ _ _=>(aA (i:=0) (Yk_ ["one","back","p"]) rfl (z? rfl))) (λ_ _ _ _ _=>bf) (λ_ _ _ _ _=>(aM dj (aM dZ (pv 1) (pv 0)) (pv 2))))))),?_⟩
 have pp:=bM hp;have hget:a[i]?=j? (a.getD i 0):=by rw[Yb,Ya (by rw[ra.1];exact hi)];rfl
 have hga:=ra.2 _ (Yo hget);generalize a.getD i 0=c at hget hga h0 q;obtain⟨cn,rfl⟩:=Y3 hga.1;obtain⟨y,hy,e1⟩:=Ij p hp cn (by omega) (by omega)
 have e1:cn*y % p=1:=by rw[e1];exact Y1 (by omega)
 have y0:y≠0:=λz=>by rw[z,Wh,Nat.zero_mod] at e1;omega
 refine iY (λσ H2=>H2=H/\∃b:Nat,qT (σ=[Rq la,Iq (i),Iq (p),Iq (b)]) (1<=b) (b<=y)) (λσ _=>match σ with | [_,_,_,j? (.int b)]=>(y:Nat)-b.toNat|_=>0) ⟨rfl,1,rfl,Yd 1,by omega⟩ ?_
 rintro σ H2 ⟨rfl,b,rfl,b1,b2⟩;refine⟨_,rfl,_,rfl,_,rfl,la,_,_,_,rfl,rfl,aU.of hla,bF (j:=i) (by rw[Yh,hget];rfl),_,_,rfl,rfl,z6 (Bd.small (by omega) (by omega)) (Bd.small (by omega) (by omega)) (by decide),_,rfl,_,_,rfl,rfl,(show(p:Int)≠0 by omega),?_⟩
 have ev:((b:Int)*(cn:Int)).fmod (p:Int)=((b*cn % p:Nat):Int):=by rw[um,<- Y6,<- Zv]
 refine⟨rfl,_,rfl,?_⟩
 by_cases e:b*cn % p=1
 ·refine JP (by show V.int (((b:Int)*(cn:Int)).fmod (p:Int))=V.int 1;rw[ev,e];rfl) ?_
  refine⟨_,rfl,la,rfl,⟨_,aU.of hla⟩,λD hD=>?_⟩
  refine dH (xs:=a.map V.int) (λn zs H3=>ay H2 H3/\zs=((a.map λx=>((b:Int)*x) % (p:Int)).take n).map V.int) ⟨av hD _,rfl⟩ (λn zs H3 _ h=>aU.of (h.1 _ _ hla)) ?_ ?_
  ·rintro n m' vx zs H3 hm' hn hvx hy' hlen ⟨g3,rfl⟩
   rw[Yc,ra.1] at hn;obtain⟨x,hx,rfl⟩:=rD hvx;have xb:=ra.2 _ (Yo hx);refine⟨_,rfl,_,rfl,_,_,rfl,rfl,z6 (Bd.small (by omega) (by omega)) (Bd.small (by omega) (by omega)) (by decide),_,rfl,_,_,rfl,rfl,(show(p:Int)≠0 by omega),?_⟩
   refine CW.emit hm' (by rw[Yc,ra.1];exact hn) (by rw[Yc,ra.1,C?];omega) hy' hlen ⟨ay.aJ g3 hD _,?_⟩
   have hz:(a.map λx=>((b:Int)*x) % (p:Int))[n]?=j? (((b:Int)*x) % (p:Int)):=by rw[Yh,hx];rfl
   rw[Zx,hz,Yr];show _++[V.int (((b:Int)*x).fmod (p:Int))]=_++[V.int (((b:Int)*x) % (p:Int))]
   rw[um]
  ·rintro zs H3 hy' ⟨g3,rfl⟩
   rw[Zn (by rw[Yc,Yc];omega)] at hy'
   exact q b _ _ (by rw[Yp];exact e) g3 (fh hy' (show H2 D=q? from hD))
 ·refine P1 (λz=>e ?_) ?_
  ·have z:V.int (((b:Int)*(cn:Int)).fmod (p:Int))=V.int 1:=z
   rw[ev] at z;injection z with z
   omega
  ·have hne:b≠y:=λz=>e (by rw[z,Y7];exact e1)
   refine win ⟨_,rfl,_,_,rfl,rfl,⟨rfl,b+1,rfl,by omega,by omega⟩,?_⟩
   show y-((b:Int)+1).toNat<y-(b:Int).toNat
   omega
inductive Kz (K:bK)(vs:List V)(H:Hp)(Q:VK)(iS:XK):Prop where
 | mk (p m i:Nat) (u:V) (R:List (List Int)) (c5:vs=[u,.int (i:Int)]) (c6:Rep H Any u (.vec (R.map eN))) (dS:(∀a∈R,Rw p m a)) (fT:i<m) (jv:R.length<=100) (pZ:(∀(t:Nat) (a:List Int) H',ay H H'->R[t]?=j? a->a.getD i 0≠0->Q (.int (t:Int)) H')) (wA:((∀a∈R,a.getD i 0=0)->∀H',ay H H'->Q .d8 H'))
theorem CB (B:c7 mg)(F:Src K mg "first_lead" qj NZ):b8 P w K mg base 1 "first_lead" NZ (Kz K):=by
 refine F.ok n_ (λvs H Q E h=>?_) (λfa cdv A outer s H vs Q E hr h=>?_)
 ·obtain⟨p,m,i,u,R,rfl,_⟩:=h;rfl
 obtain⟨p,m,i,u,R,rfl,ru,rw',hi,hR,q1,q2⟩:=h;refine⟨_,ai (cE D? rfl (kF (K:=K) rfl rfl B.enumerate (af (pv 0) ah)) (cU (n:=2) (K:=K) rfl rfl (aQ (aA (i:=2) n_.nd rfl (z? rfl)) (aQ (aA (i:=3) n_.nd rfl (z? rfl)) cT)))
   (ao (bX (aS FO (bJ (aP (K:=K) rfl) (pv 3) (pv 1) (λ_ _=>rfl)) au (a_ _))
    (ao (aD (pv 2)))
    (aW))))
  (ao (aD Mi)),?_⟩
 rw[dW] at ru;obtain⟨l,vs,rfl,hl,_,C⟩:=id ru.cf;have lv:vs.length=R.length:=by rw[C.len,Yc]
 refine⟨_,rfl,l,rfl,⟨_,aU.of hl⟩,kG (st:=0) (xs:=vs) (λn σ H2=>qT (ay H H2) ((∀(t:Nat) a,t<n->R[t]?=j? a->a.getD i 0=0)) (GG λo1 o2=>σ=[Rq l,Iq (i),o1,o2])) ⟨ay.refl H,λt a ht=>W3 ht (We _),_,_,rfl⟩ (λn σ H2 _ h=>aU.of (h.1 _ _ hl)) ?_ ?_⟩
 ·rintro n v σ H2 r hv ⟨g2,h2,o1,o2,rfl⟩ hr2
  obtain⟨hn,rv⟩:=C.get hv;have XT:n<R.length:=by rw[Yc] at hn;exact hn
  have e:(R.map eN).getD n (.num 0)=eN R[n]:=by rw[Yb,Yh,Ya XT];rfl
  rw[e] at rv;have k2:=av hr2 (.tup [.int ((0+n:Nat):Int),v]);have e3:(upd H2 r (.tup [.int ((0+n:Nat):Int),v])) r=j? (.tup [.int ((0+n:Nat):Int),v]):=aq;generalize upd H2 r (.tup [.int ((0+n:Nat):Int),v])=H3 at k2 e3;have wn:=rw' _ (Za XT);obtain⟨la,rfl,hla,_⟩:=ints_rep ((rv.same g2).same k2);have hget:R[n][i]?=j? (R[n].getD i 0):=by rw[Yb,Ya (by rw[wn.1];exact hi)];rfl
  refine⟨r,_,rfl,iR.of e3,rfl,_,_,rfl,_,_,rfl,rfl,?_⟩
  refine⟨_,rfl,_,rfl,la,_,_,_,rfl,rfl,aU.of hla,bF (j:=i) (by rw[Yh,hget];rfl),rfl,_,rfl,?_⟩
  by_cases z:R[n].getD i 0=0
  ·refine JP (by rw[z]) ⟨g2.trans k2,λt a ht hat=>?_,_,_,rfl⟩
   by_cases c:t<n
   ·exact h2 t a c hat
   ·obtain rfl:t=n:=by omega
    rw[Ya XT] at hat;cases hat;exact z
  ·refine P1 (λy=>z (V.int.inj y)) ⟨_,rfl,?_⟩
   rw[Zm];exact q1 n _ _ (g2.trans k2) (Ya XT) z
 ·rintro σ H2 ⟨g2,h2,o1,o2,rfl⟩
  refine q2 (λa ha=>?_) _ g2
  obtain⟨t,ht,rfl⟩:=Z1 ha;exact h2 t _ (by omega) (Ya ht)
theorem ER {β:Type}{l:List β}(ht:t<l.length)(i):(l.take t++l.drop (t+1))[i]?=l[if i<t then i else i+1]?:=by
 by_cases h:i<t
 ·rw[Wx h,Yx (by rw[Y9];omega),List.getElem?_take_of_lt h]
 ·rw[Ww h,Ze (by rw[Y9];omega),Y9,List.getElem?_drop]
  congr 1
  omega
theorem Rw.get(h:Rw p m l)(j):0<=l.getD j 0/\(l.getD j 0<(p:Int)\/l.getD j 0=0):=by
 rw[Yb];cases e:l[j]? with
 | none=>exact⟨Int.le_refl 0,.inr rfl⟩
 | some x=>have:=h.2 x (Yo e);exact⟨this.1,.inl this.2⟩
def zr {p:Nat}(hp:p∈PR)(l:List Int)(j:Nat):(ground p hp).α:=nt (ground p hp).α (l.getD j 0).toNat
theorem Ob(hp:p∈PR)(hx:0<=x)(hy:0<=y)(h:x % (p:Int)=y % (p:Int)):nt (ground p hp).α x.toNat=nt (ground p hp).α y.toNat:=by
 rw[<- qh (ground p hp).ch x.toNat,<- qh (ground p hp).ch y.toNat];congr 1
 show x.toNat % p=y.toNat % p
 have e1:((x.toNat % p:Nat):Int)=x % (p:Int):=by rw[Zv,Z0 hx]
 have e2:((y.toNat % p:Nat):Int)=y % (p:Int):=by rw[Zv,Z0 hy]
 omega
theorem Bf(hp:p∈PR)(ra:Rw p m a)(rb:Rw p m b)(c0:0<=c)(j):zr hp (Zw (λx y=>(x-c*y) % (p:Int)) a b) j=zr hp a j-nt (ground p hp).α c.toNat*zr hp b j:=by
 have pp:=bM hp;have key:∀x y:Int,0<=x->0<=y->nt (ground p hp).α ((x-c*y) % (p:Int)).toNat=nt (ground p hp).α x.toNat-nt (ground p hp).α c.toNat*nt (ground p hp).α y.toNat:=λx y hx hy=>by
  have h:nt (ground p hp).α ((x-c*y) % (p:Int)).toNat+nt (ground p hp).α (c.toNat*y.toNat)=nt (ground p hp).α x.toNat:=by
   rw[<- nR];have hm:=Ws (x-c*y) (show(p:Int)≠0 by omega)
   have hcy:0<=c*y:=Int.mul_nonneg c0 hy;have e:(((x-c*y) % (p:Int)).toNat+c.toNat*y.toNat:Nat)=((x-c*y) % (p:Int)+c*y).toNat:=by
    have:((c.toNat*y.toNat:Nat):Int)=c*y:=by rw[Y6,Z0 c0,Z0 hy]
    omega
   rw[e];refine Ob hp (by omega) hx ?_
   rw[Int.emod_add_emod];congr 1
   omega
  rw[kY] at h;grind
 unfold zr;by_cases hj:j<m
 ·have h1:a[j]?=j? (a.getD j 0):=by rw[Yb,Ya (by rw[ra.1];exact hj)];rfl
  have h2:b[j]?=j? (b.getD j 0):=by rw[Yb,Ya (by rw[rb.1];exact hj)];rfl
  have h3:(Zw (λx y=>(x-c*y) % (p:Int)) a b).getD j 0=(a.getD j 0-c*b.getD j 0) % (p:Int):=by rw[Yb,List.getElem?_zipWith,h1,h2];rfl
  rw[h3];exact key _ _ (ra.get j).1 (rb.get j).1
 ·have h1:a.getD j 0=0:=by rw[Yb,Zd (by rw[ra.1];omega)];rfl
  have h2:b.getD j 0=0:=by rw[Yb,Zd (by rw[rb.1];omega)];rfl
  have h3:(Zw (λx y=>(x-c*y) % (p:Int)) a b).getD j 0=0:=by rw[Yb,Zd (by rw[List.length_zipWith,ra.1,rb.1];omega)];rfl
  rw[h1,h2,h3];show(0:(ground p hp).α)=0-nt (ground p hp).α c.toNat*0
  grind
theorem Rw.without(hp:p∈PR)(ra:Rw p m a)(rb:Rw p m b):Rw p m (Zw (λx y=>(x-c*y) % (p:Int)) a b):=by
 have pp:=bM hp;refine⟨by rw[List.length_zipWith,ra.1,rb.1,Nat.min_self],λx hx=>?_⟩
 obtain⟨i,hi,rfl⟩:=Z1 hx;rw[List.getElem_zipWith];exact⟨Ws _ (by omega),Int.emod_lt_of_pos _ (by omega)⟩
theorem KC(hp:p∈PR){b:Nat}(ra:Rw p m a)(j):zr hp (a.map λx=>((b:Int)*x) % (p:Int)) j=nt (ground p hp).α b*zr hp a j:=by
 have pp:=bM hp;unfold zr;have h3:(a.map λx=>((b:Int)*x) % (p:Int)).getD j 0=((b:Int)*a.getD j 0) % (p:Int):=by
  rw[Yb,Yb,Yh];cases a[j]? with
  | none=>show(0:Int)=((b:Int)*0) % (p:Int);simp
  | some x=>rfl
 have h0:=(ra.get j).1;rw[h3,<- kY];have e:(b*(a.getD j 0).toNat:Nat)=((b:Int)*a.getD j 0).toNat:=by
  have:((b*(a.getD j 0).toNat:Nat):Int)=(b:Int)*a.getD j 0:=by rw[Y6,Z0 h0]
  omega
 rw[e];exact Ob hp (Ws _ (by omega)) (Int.mul_nonneg (by omega) h0) (Int.emod_emod _ _)
theorem Rw.lead(hp:p∈PR){b:Nat}(ra:Rw p m a):Rw p m (a.map λx=>((b:Int)*x) % (p:Int)):=by
 have pp:=bM hp;refine⟨by rw[Yc,ra.1],λx hx=>?_⟩
 obtain⟨y,_,rfl⟩:=List.mem_map.mp hx;exact⟨Ws _ (by omega),Int.emod_lt_of_pos _ (by omega)⟩
def eG (n t:Nat):List Int:=(Yi n).map λj=>if j=t then 1 else 0
theorem Oc(hp:p∈PR){R:List (List Int)}(hn:R.length=n)(hR:∀a∈R,Rw p W a)(ht:R[t]?=j? a):zr hp (a++eG n t)=pF W n (λr j=>zr hp (R.getD r []) j) t:=by
 funext j
 have ra:=hR a (Yo ht);have et:R.getD t []=a:=by rw[Yb,ht];rfl
 show nt (ground p hp).α ((a++eG n t).getD j 0).toNat=if j<W then zr hp (R.getD t []) j else if j<W+n then (if j-W=t then 1 else 0) else 0
 have lu:(eG n t).length=n:=by unfold eG;rw[Yc,Yv]
 by_cases h1:j<W
 ·rw[Wx h1,et,Yb,Yx (by rw[ra.1];exact h1)]
  unfold zr;rw[Yb]
 ·rw[Ww h1,Yb,Ze (by rw[ra.1];omega),ra.1]
  by_cases h2:j<W+n
  ·rw[Wx h2]
   unfold eG;rw[Yh,Yy (by omega)]
   show nt (ground p hp).α (if j-W=t then (1:Int) else 0).toNat=_
   by_cases h3:j-W=t
   ·rw[Wx h3,Wx h3];exact iV
   ·rw[Ww h3,Ww h3];rfl
  ·rw[Ww h2,Zd (by rw[lu];omega)];rfl
inductive GR  (vs:List V)(H:Hp)(Q:VK)(iS:XK):Prop where
 | mk (p:Nat) (hp:p∈PR) (W:Nat) (v:V) (R:List (List Int)) (c5:vs=[v,.int (p:Int)]) (c6:Rep H Any v (.vec (R.map eN))) (dS:1<=R.length) (fT:R.length<=50) (jv:W<=50) (pZ:(∀a∈R,Rw p W a)) (wA:∀(S:List (List Int)) r H',ay H H'->(∀l∈S,Rw p (W+R.length) l)->S.length<=50->G_ W R.length (λr j=>zr hp (R.getD r []) j) W (S.map (zr hp))->Rep H' (bL H) r (.vec (S.map λl=>eN (l.drop W)))->Q r H')
theorem LL (B:c7 mg)(Bg:b8 P w K mg base 1 "without_lead" IS DF)(zb:b8 P w K mg base 1 "with_lead_one" NW DG)(ES:b8 P w K mg base 1 "first_lead" NZ (Kz K))(F:Src K mg "kernel" kM ["rows","p"]):b8 P w K mg base 2 "kernel" ["rows","p"] GR:=by
 refine F.ok iO (λvs H Q E h=>?_) (λfa cdv A outer s H vs Q E hr h=>?_)
 ·obtain⟨p,hp,W,v,R,rfl,_⟩:=h;rfl
 obtain⟨p,hp,W,v,R,rfl,rv,n1,n2,hW,hR,q⟩:=h;refine⟨_,ai (aE (i:=2) iO.nd rfl (Or.inr rfl) (aI (aN (K:=K) rfl) rfl B.len bR (af (pv 0) ah)))
  (ai (aE (i:=3) iO.nd rfl (Or.inr rfl) (aI (aN (K:=K) rfl) rfl B.len bR (af (bJ (aP (K:=K) rfl) (pv 0) au (λ_ _=>rfl)) ah)))
  (ai (Gg (i:=4) iO.nd rfl (z? rfl) (nY (N:=["at","row","many"]) (sl:=[q?,q?,j? 2]) "at" (aj kM) Xy rfl rfl (by decide +kernel)) rfl (kF (K:=K) rfl rfl B.enumerate (af (pv 0) ah)) (λ_ _ _ _ _=>(cU (n:=2) (K:=K) rfl rfl (aQ (aA (i:=0) (Yk_ ["at","row","many"]) rfl (Or.inr rfl)) (aQ (aA (i:=1) (Yk_ ["at","row","many"]) rfl (z? rfl)) cT)))) (λ_ _ _ _ _=>bf) (λ_ _ _ _ _=>(aM jw (pv 1) (cA (aK (N:=["place","at"]) (sl:=[q?,j? 0]) (An (Iz ((bY kM).getD 2 (.Pass ⟨0,0,0,0⟩))) (aj kM)) ["at","row","many"] rfl rfl (by decide +kernel)) rfl (bI rfl B.range (af (pv 2) ah)) (λ_ _ _ _ _=>(aA (i:=0) (Yk_ ["place","at"]) rfl (z? rfl))) (λ_ _ _ _ _=>bf) (λ_ _ _ _ _=>(FI (aS tQ (pv 0) (pv 1) (a_ _)) au au))))))
  (ai (cE D? rfl (bI rfl B.range (af (pv 3) ah)) (aA (i:=5) iO.nd rfl (Or.inr rfl))
   (ai (aE (i:=6) iO.nd rfl (z? rfl) (aG ES hr (af (pv 4) (af (pv 5) ah))))
   (ao (bX (aS ME (pv 6) Mi (a_ _))
    (ai (aE (i:=7) iO.nd rfl (Or.inr rfl) (aG zb hr (af (bJ (aP (K:=K) rfl) (pv 4) (pv 6) (λ_ _=>rfl)) (af (pv 5) (af (pv 1) ah)))))
    (ao (lO (i:=4) iO.nd rfl (z? rfl) (aK (N:=IS) (sl:=[q?,j? 7,j? 5,j? 1]) (aj kM) Xy rfl rfl (by decide +kernel)) rfl (bZ (K:=K) rfl (aM jw (kC (kE (K:=K) rfl) (pv 4) nq (iX (pv 6))) (kC (kE (K:=K) rfl) (pv 4) (iX (aM d9 (pv 6) au)) nq))) (λ_ _ _ _ _=>(aA (i:=0) (Yk_ IS) rfl (z? rfl))) (λ_ _ _ _ _=>bf) (λ_ _ _ _ _=>(aG Bg hr (af (pv 0) (af (pv 1) (af (pv 2) (af (pv 3) ah)))))))))
    (aW)))))
  (ao (aD (cA (aK (N:=["row","width"]) (sl:=[q?,j? 3]) (aj kM) Xy rfl rfl (by decide +kernel)) rfl (bZ (K:=K) rfl (pv 4)) (λ_ _ _ _ _=>(aA (i:=0) (Yk_ ["row","width"]) rfl (z? rfl))) (λ_ _ _ _ _=>bf) (λ_ _ _ _ _=>(kC (kE (K:=K) rfl) (pv 0) (iX (pv 1)) nq)))))))),?_⟩
 have pp:=bM hp;have XH:=rv;rw[dW] at rv;obtain⟨l,vs,rfl,hl,_,C⟩:=id rv.cf;have lv:vs.length=R.length:=by rw[C.len,Yc]
 have WS:∀ {i:Nat} {x:V} {H2:Hp},ay H H2->vs[i]?=j? x->∃a,R[i]?=j? a/\Rep H2 Any x (eN a):=λg hx=>by
  obtain⟨hi,r⟩:=C.get hx;rw[Yc] at hi;refine⟨_,Ya hi,?_⟩
  rw[Yb,Yh,Ya hi] at r;exact r.same g
 obtain⟨v0,hv0⟩:∃v0,vs[0]?=j? v0:=⟨_,Ya (by omega)⟩
 obtain⟨a0,ha0,r0⟩:=WS (ay.refl H) hv0;obtain⟨l0,rfl,Vp,_⟩:=ints_rep r0;have w0:=(hR a0 (Yo ha0)).1;refine bT (λ_:Unit=>[Rq l,Iq (p),Iq (R.length),q?,q?,q?,q?,q?]) (λ_ H2=>H=H2) (λC' key=>⟨_,rfl,l,_,rfl,.inl (aU.of hl),dU key () rfl (by rw[lv];rfl)⟩) ?_
 rintro _ _ rfl;refine bT (λ_:Unit=>[Rq l,Iq (p),Iq (R.length),Iq (W),q?,q?,q?,q?]) (λ_ H2=>H=H2) (λC' key=>⟨_,rfl,l,_,_,_,rfl,rfl,aU.of hl,bF (j:=0) hv0,l0,_,rfl,.inl (aU.of Vp),dU key () rfl (by rw[Yc,w0];rfl)⟩) ?_
 rintro _ _ rfl;refine bT (λi:o?×List (List Int)=>[Rq l,Iq (p),Iq (R.length),Iq (W),Rq i.1,q?,q?,q?]) (λi H2=>qT (ay H H2) (Rep H2 (bL H) (.ref i.1) (.vec (i.2.map eN))) (i.2=(Yi R.length).map λt=>R.getD t []++eG R.length t)) (λC' key=>?_) ?_
 ·skip
  refine⟨_,rfl,l,rfl,⟨_,aU.of hl⟩,λD hD=>?_⟩
  refine Dh (Uv:=0) (xs:=vs) (λi ys H2=>ay H H2/\Cf H2 (Off H D) ys i λt=>eN (R.getD t []++eG R.length t)) ⟨av hD _,.nil⟩ (λi ys H2 _ h=>aU.of (h.1 _ _ hl)) ?_ ?_
  ·rintro t m' x ys H2 r hm' ht hx hy hlen ⟨g2,cy⟩ hr2
   have htR:t<R.length:=by omega
   obtain⟨a,ha,ra⟩:=WS g2 hx;have wa:=hR a (Yo ha);have k2:=av hr2 (.tup [.int ((0+t:Nat):Int),x]);have e3:(upd H2 r (.tup [.int ((0+t:Nat):Int),x])) r=j? (.tup [.int ((0+t:Nat):Int),x]):=aq;generalize upd H2 r (.tup [.int ((0+t:Nat):Int),x])=H3 at k2 e3;obtain⟨la,rfl,hla,_⟩:=ints_rep (ra.same k2);refine⟨r,_,rfl,iR.of e3,rfl,_,_,rfl,_,_,rfl,rfl,?_⟩
   refine⟨_,rfl,_,rfl,_,rfl,by omega,by omega,λD2 AY=>?_⟩
   rw[Yp];refine dN (λj zs H4=>ay H3 H4/\zs=((eG R.length t).take j).map V.int) ⟨av AY _,rfl⟩ ?_ ?_
   ·rintro j m2 zs H4 hm2 hj hz RE ⟨g4,rfl⟩
    have hu:(eG R.length t)[j]?=j? (if j=t then 1 else 0):=by unfold eG;rw[Yh,Yy hj];rfl
    refine⟨_,rfl,_,rfl,rfl,_,rfl,?_⟩
    have fin:∀w:Int,(if j=t then (1:Int) else 0)=w->∃ys,H4 D2=j? (.lst ys)/\ys.length<K?/\∃m',m'<m2/\CW R.length D2 (λj zs H4=>ay H3 H4/\zs=((eG R.length t).take j).map V.int) (j+1) m' (upd H4 D2 (.lst (ys++[V.int w]))):=λw hw=>
     CW.emit hm2 hj (by rw[C?];omega) hz RE ⟨ay.aJ g4 AY _,by rw[Zx,hu,hw,Yr];rfl⟩
    by_cases c:j=t
    ·refine ug (by rw[c];congr 1;try omega) (fin 1 (Wx c))
    ·refine oZ (λz=>c ?_) (fin 0 (Ww c))
     injection z with z
     omega
   ·rintro zs H4 hz ⟨g4,rfl⟩
    rw[Zn (by unfold eG;rw[Yc,Yv];exact Yd _)] at hz
    have lu:(eG R.length t).length=R.length:=by unfold eG;rw[Yc,Yv]
    refine⟨la,D2,_,_,rfl,rfl,g4 _ _ hla,hz,by rw[Yc,Yc,wa.1,lu,C?];omega,λl5 n5=>?_⟩
    have k5:=av n5 (.lst (a.map V.int++(eG R.length t).map V.int));have e5:(upd H4 l5 (.lst (a.map V.int++(eG R.length t).map V.int))) l5=j? (.lst ((a++eG R.length t).map V.int)):=by rw[Yr];exact aq
    generalize upd H4 l5 (.lst (a.map V.int++(eG R.length t).map V.int))=H5 at k5 e5;have Od:=(k2.trans g4).trans k5;have abg:∀c,H2 c=q?->c≠D:=λc hc z=>by rw[z,hy] at hc;cases hc
    have n52:H2 l5=q?:=(k2.trans g4).free n5;refine CW.emit hm' ht (by rw[lv,C?];omega) (Od _ _ hy) hlen ⟨ay.aJ (g2.trans Od) hD _,?_⟩
    refine(Cf.push (cy.same Od) ?_).upd
    have et:R.getD t []=a:=by rw[Yb,ha];rfl
    rw[et];exact fh e5 ⟨g2.free n52,abg _ n52⟩
  ·rintro ys H2 hy ⟨g2,cy⟩
   refine dU key (D,(Yi R.length).map λt=>R.getD t []++eG R.length t) ⟨g2,?_,rfl⟩ rfl
   show Rep H2 (bL H) (.ref D) (.vec (((Yi R.length).map λt=>R.getD t []++eG R.length t).map eN))
   rw[Z3];rw[lv] at cy;exact(cy.imp λc o h k=>⟨h,k.1⟩).rep hy hD
 rintro⟨lf,S⟩ H3 ⟨g3,rf,eS⟩
 have rf:Rep H3 (bL H) (.ref lf) (.vec (S.map eN)):=rf;have lS:S.length<=50:=by rw[show S=_ from eS,Yc,Yv];exact n2
 have hS:∀l∈S,Rw p (W+R.length) l:=λl hl'=>by
  rw[show S=_ from eS] at hl'
  obtain⟨t,ht,rfl⟩:=List.mem_map.mp hl';have ht:=List.mem_range.mp ht;have wt:=hR (R.getD t []) (by rw[Yb,Ya ht];exact Za ht)
  refine⟨by rw[Yk,wt.1];unfold eG;rw[Yc,Yv],λx hx=>?_⟩
  rcases List.mem_append.mp hx with h|h
  ·exact wt.2 x h
  ·obtain⟨j,_,rfl⟩:=List.mem_map.mp h
   split <;> omega
 have kS:G_ W R.length (λr j=>zr hp (R.getD r []) j) 0 (S.map (zr hp)):=by
  have:S.map (zr hp)=(Yi R.length).map (pF W R.length λr j=>zr hp (R.getD r []) j):=by
   rw[show S=_ from eS,Z3]
   refine Z9 λt ht=>?_
   have ht:=List.mem_range.mp ht;have e:R[t]?=j? (R.getD t []):=by rw[Yb,Ya ht];rfl
   exact Oc hp rfl hR e
  rw[this];exact G_.start
 clear eS;refine bT (λi:o?×Option V×Option V×Option V=>[Rq l,Iq (p),Iq (R.length),Iq (W),Rq i.1,i.2.1,i.2.2.1,i.2.2.2]) (λi H4=>ay H H4/\∃S:List (List Int),LA (Rep H4 (bL H) (.ref i.1) (.vec (S.map eN))) (S.length<=50) ((∀l∈S,Rw p (W+R.length) l)) (G_ W R.length (λr j=>zr hp (R.getD r []) j) W (S.map (zr hp)))) (λC' key=>?_) ?_
 ·skip
  refine⟨_,rfl,_,rfl,by omega,by omega,?_⟩
  rw[Yp];refine dF (λk σ H4=>ay H H4/\Tt λ(lf:o?) (S:List (List Int)) (o1 o2 o3:Option V)=>Tr (σ=[Rq l,Iq (p),Iq (R.length),Iq (W),Rq lf,o1,o2,o3]) (Rep H4 (bL H) (.ref lf) (.vec (S.map eN))) (S.length<=50) ((∀l∈S,Rw p (W+R.length) l)) (G_ W R.length (λr j=>zr hp (R.getD r []) j) k (S.map (zr hp)))) ⟨g3,lf,S,_,_,_,rfl,rf,lS,hS,kS⟩ ?_ ?_
  ·rintro k σ H4 hk ⟨g4,lf,S,o1,o2,o3,rfl,rf,lS,hS,kS⟩
   show gG 5 (V.int (0+(k:Int))) _ _ _
   rw[Z8];have rf0:=rf;rw[dW] at rf;obtain⟨lf',fs,elf,Oe,XU,CF⟩:=id rf.cf;obtain rfl:lf=lf':=V.ref.inj elf
   have XW:fs.length=S.length:=by rw[CF.len,Yc]
   have fget:∀ {i:Nat} {x:V} {H2:Hp},ay H4 H2->fs[i]?=j? x->∃a,S[i]?=j? a/\Rep H2 Any x (eN a):=λg hx=>by
    obtain⟨hi,r⟩:=CF.get hx;rw[Yc] at hi;refine⟨_,Ya hi,?_⟩
    rw[Yb,Yh,Ya hi] at r;exact(r.same g).any
   refine⟨_,rfl,_,rfl,p,W+R.length,k,.ref lf,S,rfl,rf0.any,hS,by omega,by omega,λt s0 H5 g5 ht h0=>?_,λh0 H5 g5=>?_⟩
   ·have ht':=(List.getElem?_eq_some_iff.mp ht).1
    refine⟨_,rfl,rfl,_,rfl,P1 (λz=>by cases z) ?_⟩
    have g45:=g4.trans g5;obtain⟨xt,hxt⟩:∃x,fs[t]?=j? x:=⟨_,Ya (by omega)⟩
    obtain⟨s0',WT,rx0⟩:=fget g5 hxt;obtain rfl:s0=s0':=by rw[ht] at WT;exact N? WT
    have XX:=Yo ht;refine⟨_,rfl,_,rfl,lf,_,_,_,rfl,rfl,aU.of (g5 _ _ Oe),bF (j:=t) hxt,_,rfl,_,rfl,p,hp,W+R.length,k,xt,s0,rfl,rx0,hS s0 XX,by omega,by omega,h0,λb r6 H6 hb g6 Tz=>?_⟩
    have O6:=g5.trans g6;refine⟨_,rfl,_,rfl,_,rfl,lf,_,rfl,aU.of (O6 _ _ Oe),λl7 n7=>?_⟩
    rw[JY fs t (by omega)]
    generalize hX:upd H6 l7 _=H7;have x7:=cW n7 hX;clear hX;refine⟨_,rfl,_,rfl,_,_,rfl,rfl,_,rfl,lf,_,rfl,aU.of (x7.1 _ _ (O6 _ _ Oe)),λl8 n8=>?_⟩
    rw[show oX fs (j? ((t:Int)+1)) q?=fs.drop (t+1) from by rw[show(t:Int)+1=((t+1:Nat):Int) by omega];exact wN fs (t+1) (by omega)]
    generalize hX:upd H7 l8 _=H8;have x8:=cW n8 hX;clear hX;refine⟨l7,l8,_,_,rfl,rfl,x8.1 _ _ x7.2,x8.2,by rw[Y9,Zu,C?];omega,λl9 n9=>?_⟩
    generalize hX:upd H8 l9 _=H9;have x9:=cW n9 hX;clear hX;have TM:=(x7.1.trans x8.1).trans x9.1;have O7:=O6.trans TM;refine⟨l9,rfl,⟨_,aU.of x9.2⟩,λD hD=>?_⟩
    have LF:=Tz.same TM;have wl:=(hS s0 XX).lead hp (b:=b);have hSS:∀(i:Nat) x,(fs.take t++fs.drop (t+1))[i]?=j? x->∃a,(S.take t++S.drop (t+1))[i]?=j? a/\∀H2,ay H4 H2->Rep H2 Any x (eN a):=λi x hx=>by
     rw[ER (by omega)] at hx
     obtain⟨a,ha,_⟩:=fget (ay.refl H4) hx;exact⟨a,by rw[ER ht'];exact ha,λH2 g=>by obtain⟨a',ha',r⟩:=fget g hx;rw[ha] at ha';cases ha';exact r⟩
    have lSS:(S.take t++S.drop (t+1)).length=(fs.take t++fs.drop (t+1)).length:=by rw[Yk,Yk,Y9,Y9,Zu,Zu,XW]
    have WU:∀a∈S.take t++S.drop (t+1),a∈S:=λa ha=>(List.mem_append.mp ha).elim List.mem_of_mem_take List.mem_of_mem_drop
    have nD:H D=q?:=(g4.trans O7).free hD;refine dH (xs:=fs.take t++fs.drop (t+1)) (λi ys H2=>ay H9 H2/\Cf H2 (Off H D) ys i λi=>eN (((S.take t++S.drop (t+1)).map λa=>Zw (λx y=>(x-a.getD k 0*y) % (p:Int)) a (s0.map λx=>((b:Int)*x) % (p:Int))).getD i [])) ⟨av hD _,.nil⟩ (λi ys H2 _ h=>aU.of (h.1 _ _ x9.2)) ?_ ?_
    ·rintro i m' x ys H2 hm' hi hx hy hlen ⟨g2,cy⟩
     obtain⟨a,ha,ra⟩:=hSS i x hx;have ma:=WU a (Yo ha);refine⟨_,rfl,_,rfl,_,rfl,_,rfl,p,W+R.length,k,x,r6,a,_,rfl,hp,ra H2 (O7.trans g2),(LF.same g2).any,hS a ma,wl,by omega,by omega,λr H3 g3 rr=>?_⟩
     refine CW.emit hm' hi (by rw[<- lSS,Yk,Y9,Zu,C?];omega) (g3 _ _ hy) hlen ⟨ay.aJ (g2.trans g3) hD _,?_⟩
     refine(Cf.push (cy.same g3) ?_).upd
     have e:((S.take t++S.drop (t+1)).map λa=>Zw (λx y=>(x-a.getD k 0*y) % (p:Int)) a (s0.map λx=>((b:Int)*x) % (p:Int))).getD i []=Zw (λx y=>(x-a.getD k 0*y) % (p:Int)) a (s0.map λx=>((b:Int)*x) % (p:Int)):=by rw[Yb,Yh,ha];rfl
     rw[e];refine rr.imp λc o h kk=>⟨h,((g4.trans O7).trans g2).free kk,λz=>?_⟩
     rw[z] at kk;rw[show H2 D=q? from kk] at hy
     cases hy
    ·rintro ys H2 hy ⟨g2,cy⟩
     show gG 4 (V.ref D) _ _ _
     have gA:=(g4.trans O7).trans g2;refine⟨gA,D,(S.take t++S.drop (t+1)).map (λa=>Zw (λx y=>(x-a.getD k 0*y) % (p:Int)) a (s0.map λx=>((b:Int)*x) % (p:Int))),_,_,_,rfl,?_,?_,?_,?_⟩
     ·rw[dW,Yc,Yc,lSS]
      refine(Cf.congr (cy.imp λc o h kk=>⟨h,kk.1⟩) λi hi=>?_).rep hy nD
      rw[Yb,Yb,Yh (f:=eN)];cases hz:((S.take t++S.drop (t+1)).map λa=>Zw (λx y=>(x-a.getD k 0*y) % (p:Int)) a (s0.map λx=>((b:Int)*x) % (p:Int)))[i]? with
      | none=>exact W3 (List.getElem?_eq_none_iff.mp hz) (by rw[Yc,lSS];omega)
      | some z=>rfl
     ·rw[Yc,Yk,Y9,Zu];omega
     ·intro l' hl'
      obtain⟨a,ha,rfl⟩:=List.mem_map.mp hl';exact(hS a (WU a ha)).without hp wl
     ·have b0:=hS s0 XX
      refine kS.step (r:=zr hp (s0.map λx=>((b:Int)*x) % (p:Int))) (s0:=zr hp s0) (b:=nt (ground p hp).α b) (List.mem_map.mpr ⟨s0,XX,rfl⟩) (λj=>KC hp b0 j) ?_ ?_ ?_
      ·rw[KC hp b0]
       show nt (ground p hp).α b*nt (ground p hp).α (s0.getD k 0).toNat=1
       rw[<- kY,<- qh (ground p hp).ch];show nt (ground p hp).α (b*(s0.getD k 0).toNat % p)=1
       rw[hb];exact iV
      ·intro z hz
       obtain⟨a,ha,rfl⟩:=List.mem_map.mp hz;obtain⟨i,hi,rfl⟩:=Z1 ha;by_cases c:i=t
       ·left
        subst c;rw[Ya hi] at ht;cases ht;rfl
       ·right
        refine List.mem_map.mpr ⟨_,List.mem_map.mpr ⟨S[i],?_,rfl⟩,?_⟩
        ·refine List.mem_iff_getElem?.mpr ⟨if i<t then i else i-1,?_⟩
         rw[ER ht'];by_cases c2:i<t
         ·rw[Wx c2,Wx c2];exact Ya hi
         ·rw[Ww c2,Ww (by omega),show i-1+1=i by omega];exact Ya hi
        ·funext j
         exact Bf hp (hS _ (Za hi)) wl ((hS _ (Za hi)).get k).1 j
      ·intro z hz
       obtain⟨y,hy',rfl⟩:=List.mem_map.mp hz;obtain⟨a,ha,rfl⟩:=List.mem_map.mp hy';refine⟨zr hp a,List.mem_map.mpr ⟨a,WU a ha,rfl⟩,?_⟩
       funext j
       exact Bf hp (hS a (WU a ha)) wl ((hS a (WU a ha)).get k).1 j
   ·refine⟨_,rfl,rfl,_,rfl,JP rfl ?_⟩
    exact⟨g4.trans g5,lf,S,_,_,_,rfl,rf0.same g5,lS,hS,kS.skip λr hr=>by
     obtain⟨a,ha,rfl⟩:=List.mem_map.mp hr;show nt (ground p hp).α (a.getD k 0).toNat=0
     rw[h0 a ha];rfl⟩
  ·rintro σ H4 ⟨g4,lf,S,o1,o2,o3,rfl,rf,lS,hS,kS⟩
   exact key (lf,o1,o2,o3) _ ⟨g4,S,rf,lS,hS,kS⟩
 rintro⟨lf,o1,o2,o3⟩ H4 ⟨g4,S,rf,lS,hS,kS⟩
 rw[dW] at rf;obtain⟨lf',fs,elf,Oe,XU,CF⟩:=id rf.cf;obtain rfl:lf=lf':=V.ref.inj elf
 have XW:fs.length=S.length:=by rw[CF.len,Yc]
 refine⟨_,rfl,lf,rfl,⟨_,aU.of Oe⟩,λD hD=>?_⟩
 have nD:H D=q?:=g4.free hD;refine dH (xs:=fs) (λi ys H2=>ay H4 H2/\Cf H2 (Off H D) ys i λi=>eN ((S.getD i []).drop W)) ⟨av hD _,.nil⟩ (λi ys H2 _ h=>aU.of (h.1 _ _ Oe)) ?_ ?_
 ·rintro i m' x ys H2 hm' hi hx hy hlen ⟨g2,cy⟩
  obtain⟨hi',rx⟩:=CF.get hx;rw[Yc] at hi';rw[Yb,Yh,Ya hi'] at rx;have rx:Rep H4 (bL H) x (eN S[i]):=rx;obtain⟨la,rfl,hla,_⟩:=ints_rep (rx.same g2);have wa:=hS _ (Za hi');refine⟨_,rfl,_,rfl,_,rfl,la,_,rfl,aU.of hla,λl5 n5=>?_⟩
  rw[wN _ W (by rw[Yc,wa.1];omega)]
  generalize hX:upd H2 l5 _=H5;have x5:=cW n5 hX;clear hX;have Od:=g2.trans x5.1;refine CW.emit hm' hi (by rw[XW,C?];omega) (x5.1 _ _ hy) hlen ⟨ay.aJ Od hD _,?_⟩
  refine(Cf.push (cy.same x5.1) ?_).upd
  have e:S.getD i []=S[i]:=by rw[Yb,Ya hi'];rfl
  rw[e];refine fh (by rw[List.map_drop];exact x5.2) ⟨(g4.trans g2).free n5,λz=>?_⟩
  rw[z,hy] at n5;cases n5
 ·rintro ys H2 hy ⟨g2,cy⟩
  refine q S _ H2 (g4.trans g2) hS lS kS ?_
  rw[dW,Yc,<- XW];refine(Cf.congr (cy.imp λc o h kk=>⟨h,kk.1⟩) λi hi=>?_).rep hy nD
  rw[Yb,Yb,Yh,Ya (by omega)]
  rfl
end
inductive Bh (J:L2.Kind)(vs:List V)(H:Hp)(Q:VK)(iS:XK):Prop where
 | mk (a:o?) (T:cj) (u:V) (x:T.α) (c5:vs=[.ref a,u]) (c6:J H a T) (dS:Rep H Any u (T.enc x)) (fT:∀r H',ay H H'->Rep H' (bL H) r (eN (flat (T.enc x)))->Q r H')
inductive Bj (J:L2.Kind)(vs:List V)(H:Hp)(Q:VK)(iS:XK):Prop where
 | mk (a:o?) (T:cj) (v:V) (x:T.α) (c5:vs=[.ref a,v]) (c6:J H a T) (dS:Rep H Any v (eN (flat (T.enc x)))) (fT:∀r H',ay H H'->Rep H' (bL H) r (T.enc x)->Q r H')
structure TwG (P:F?)(w:H?)(K:bK)(mg:Str->Option l?)(base:Q?)(k:Nat)(J:L2.Kind):Prop extends TwE P w K mg base k J where
 vL:nj P w K mg base k (JJ J) "figures" cI (Bh J)
 sW:nj P w K mg base k (JJ J) "made_of" qR (Bj J)
structure RK (K:bK)(CG CS CT:o?):Prop where
 g1:bG K CG "figures" "Ground.figures" gw cI
 g2:bG K CG "made_of" "Ground.made_of" gy qR
 s1:bG K CS "figures" "Storey.figures" gz cI
 s2:bG K CS "made_of" "Storey.made_of" fc qR
 t1:bG K CT "figures" "Tower.figures" iw cI
 t2:bG K CT "made_of" "Tower.made_of" iy qR
theorem LM {β:Type}{a b:List β}(h:a.length=d):(a++b).drop (k+d)=b.drop k:=by
 rw[Nat.add_comm,<- h,List.drop_append,List.drop_eq_nil_of_le (by omega),List.nil_append,Zi]
theorem Bk (l:List El):∀n,kJ (l.take (n+1))=kJ (l.take n)++(match l[n]? with|some e=>flat e|none=>[]):=by
 intro n;rw[mq,mq,Zx,Yr,List.flatten_append];congr 1
 cases l[n]? with
 | none=>rfl
 | some e=>show flat e++[]=flat e;rw[Zy]
theorem mP(h:Wd T ws)(x):(flat (T.enc x)).length=T.d:=by
 obtain⟨F,hF⟩:=Qx h;rw[hF.fl,Yc,Yv]
theorem sq {d:Nat}:∀(l:List El),(∀e∈l,(flat e).length=d)->∀(i:Nat) e,l[i]?=j? e->((kJ l).drop (i*d)).take d=flat e
 | [],_,i,e,h=>by simp at h
 | a::l,hl,i,e,h=>by
  have la:=hl a Yg;show((flat a++kJ l).drop (i*d)).take d=flat e
  cases i with
  | zero=>
   cases h;rw[Nat.zero_mul,List.drop_zero,List.take_append_of_le_length (by omega),Zn (by omega)]
  | succ i=>
   rw[Wu,LM la];exact sq l (λe he=>hl e (Ye _ he)) i e h
theorem DH (xs){i j:Nat}(hi:i<=j)(hj:j<=xs.length):oX xs (j? (i:Int)) (j? (j:Int))=(xs.drop i).take (j-i):=by
 unfold oX;rw[HT.zC,HT.zC,Nat.min_eq_left (by omega),Nat.min_eq_left (by omega)]
theorem Of(h:IsT CG CS n H a T):∃ws,Wd T ws:=by
 induction h with
 | gr hp h=>exact⟨_,.gr hp⟩
 | st al h f r hd hn ih=>obtain⟨ws,w⟩:=ih;exact⟨_,.up al hn w⟩
section
variable {CG CS CT:o?} {k n:Nat}
theorem vM (B:c7 mg)(c:L0 K CG)(F:bG K CG "figures" "Ground.figures" gw cI):jy P w K mg base 1 CG "figures" cI (Bh (IsT CG CS 0)):=by
 refine F.ok vG (λvs H Q E h=>?_) (λfa cdv A outer s H vs Q E hr h=>?_)
 ·obtain⟨a,T,u,x,rfl,_⟩:=h;rfl
 obtain⟨a,T,u,x,rfl,ja,ru,q⟩:=h;obtain⟨p,hp,rfl,dx,g⟩:=ja.Ab;rw[Ej ru] at*;refine⟨_,ao (aD (bz (af (pv 1) ah))),?_⟩
 refine⟨_,rfl,aZ rfl,λl hl=>?_⟩
 exact q _ _ (av hl _) (fh (ns:=[((show Zp p from x).v:Int)]) aq (show H l=q? from hl))
theorem vO (B:c7 mg)(c:L0 K CG)(F:bG K CG "made_of" "Ground.made_of" gy qR):jy P w K mg base 1 CG "made_of" qR (Bj (IsT CG CS 0)):=by
 refine F.ok vH (λvs H Q E h=>?_) (λfa cdv A outer s H vs Q E hr h=>?_)
 ·obtain⟨a,T,v,x,rfl,_⟩:=h;rfl
 obtain⟨a,T,v,x,rfl,ja,rv,q⟩:=h;obtain⟨p,hp,rfl,dx,g⟩:=ja.Ab;obtain⟨l,rfl,hl,_⟩:=ints_rep rv;refine⟨_,ao (aD (bJ (aP (K:=K) rfl) (pv 1) au (λ_ _=>rfl))),?_⟩
 exact⟨_,rfl,l,_,_,_,rfl,rfl,aU.of hl,bF (j:=0) rfl,q _ H (ay.refl H) (.num _)⟩
theorem vP (B:c7 mg)(c:Em K CS)(O:TwG P w K mg base k (IsT CG CS n))(F:bG K CS "figures" "Storey.figures" gz cI):jy P w K mg base (k+1) CS "figures" cI (Bh (IsT CG CS (n+1))):=by
 refine F.ok fQ (λvs H Q E h=>?_) (λfa cdv A outer s H vs Q E hr h=>?_)
 ·obtain⟨a,T',u,x,rfl,_⟩:=h;rfl
 obtain⟨a,T',u,x,rfl,ja,ru,q⟩:=h;obtain⟨b,q',dx,T,M,al,hn,rfl,sa⟩:=ja.vn;obtain⟨ws,wd⟩:=Of sa.f;have d1:=wd.d1;have hd:=sa.hd;have hM:=sa.n;have ru:Rep H Any u (aT T M.n (show Qt M from x).s):=ru
 obtain⟨lu,us,rfl,hu,_,cu⟩:=id ru.cf;refine⟨_,ai (aE (i:=2) fQ.nd rfl (z? rfl) (bz ah))
  (ai (cE D? rfl (bZ (K:=K) rfl (pv 1)) (aA (i:=3) fQ.nd rfl (z? rfl))
   (ao (aE (i:=2) fQ.nd rfl (z? rfl) (aM jw (pv 2) (bh O.vL hr (aY (K:=K) rfl (pv 0)) (af (pv 3) ah))))))
  (ao (aD (pv 2)))),?_⟩
 refine⟨aZ rfl,λl0 n0=>?_⟩
 have k0:=av n0 (.lst []);let es:List El:=(Yi M.n).map λi=>T.enc ((show Qt M from x).s.c i)
 have les:es.length=M.n:=by show((Yi M.n).map _).length=_;rw[Yc,Yv]
 have TU:∀i,i<=M.n->(kJ (es.take i)).length=T.d*i:=λi=>by
  induction i with
  | zero=>intro _;rfl
  | succ i ih=>
   intro hi;have e:es[i]?=j? (T.enc ((show Qt M from x).s.c i)):=by show((Yi M.n).map _)[i]?=_;rw[Yh,Yy (by omega)];rfl
   rw[Bk,e,Yk,ih (by omega),Y4]
   congr 1
   exact mP wd _
 refine⟨_,rfl,lu,rfl,⟨_,aU.of (k0 _ _ hu)⟩,fV (xs:=us) (λi σ H2=>ay H H2/\GG λ(lt:o?) (o:Option V)=>σ=[Rq a,Rq lu,Rq lt,o]/\Rep H2 (bL H) (.ref lt) (eN (kJ (es.take i)))) ⟨k0,l0,_,rfl,fh (ns:=[]) aq (show H l0=q? from n0)⟩ (λi σ H2 _ h=>aU.of (h.1 _ _ hu)) ?_ ?_⟩
 ·rintro i v σ H2 hv ⟨g2,lt,o,rfl,rt⟩
  obtain⟨hi,rv⟩:=cu.get hv;have s2:=sa.mono g2;obtain⟨lt',elt,hlt,O8⟩:=ints_rep rt;obtain rfl:lt=lt':=V.ref.inj elt
  refine⟨_,rfl,_,rfl,a,CS,dx,_,_,rfl,s2.h,c.cl,c.nF,dO,b,rfl,⟨T,s2.f⟩,_,rfl,λ_ h=>h,b,T,v,(show Qt M from x).s.c i,rfl,s2.f,rv.same g2,λr H3 g3 rr=>?_⟩
  obtain⟨lr,rfl,hlr,_⟩:=ints_rep rr;have hle:T.d*i+T.d<=12:=by
   have:=Yz T.d (show i+1<=M.n by omega)
   rw[Y4] at this;omega
  refine⟨lt,lr,_,_,rfl,rfl,g3 _ _ hlt,hlr,by rw[Yc,Yc,TU i (by omega),mP wd,C?];omega,λl5 n5=>?_⟩
  have k5:=av n5 (.lst ((kJ (es.take i)).map V.int++(flat (T.enc ((show Qt M from x).s.c i))).map V.int))
  refine⟨(g2.trans g3).trans k5,l5,_,rfl,fh ?_ (show H l5=q? from(g2.trans g3).free n5)⟩
  have e:es[i]?=j? (T.enc ((show Qt M from x).s.c i)):=by show((Yi M.n).map _)[i]?=_;rw[Yh,Yy hi];rfl
  rw[Bk,e,Yr];exact aq
 ·rintro σ H2 ⟨g2,lt,o,rfl,rt⟩
  refine⟨_,rfl,q _ H2 g2 ?_⟩
  rw[Zn (by rw[les,cu.len];exact Yd _)] at rt
  exact rt
theorem vQ (B:c7 mg)(c:Em K CS)(O:TwG P w K mg base k (IsT CG CS n))(S:OY P w K mg base k CG CS n)(F:bG K CS "made_of" "Storey.made_of" fc qR):jy P w K mg base (k+1) CS "made_of" qR (Bj (IsT CG CS (n+1))):=by
 refine F.ok nJ (λvs H Q E h=>?_) (λfa cdv A outer s H vs Q E hr h=>?_)
 ·obtain⟨a,T',v,x,rfl,_⟩:=h;rfl
 obtain⟨a,T',v,x,rfl,ja,rv,q⟩:=h;obtain⟨b,q',dx,T,M,al,hn,rfl,sa⟩:=ja.vn;obtain⟨ws,wd⟩:=Of sa.f;have d1:=wd.d1;have hd:=sa.hd;have hM:=sa.n;let es:List El:=(Yi M.n).map λi=>T.enc ((show Qt M from x).s.c i)
 have rv:Rep H Any v (eN (kJ es)):=rv;obtain⟨lf,rfl,Oe,_⟩:=ints_rep rv;have TU:(kJ es).length=T.d*M.n:=mP (T:=T.up M al hn) (.up al hn wd) x;have hes:∀i,i<M.n->es[i]?=j? (T.enc ((show Qt M from x).s.c i)):=λi hi=>by show((Yi M.n).map _)[i]?=_;rw[Yh,Yy hi];rfl
 have hel:∀e∈es,(flat e).length=T.d:=λe he=>by obtain⟨i,_,rfl⟩:=List.mem_map.mp he;exact mP wd _
 refine⟨_,ai (aE (i:=2) nJ.nd rfl (Or.inr rfl) (aO O.degree hr (aY (K:=K) rfl (pv 0)) ))
  (ao (aD (cA (aK (N:=["at","self","figures","each"]) (sl:=[q?,j? 0,j? 1,j? 2]) (aj fc) ["self","figures","each"] rfl rfl (by decide +kernel)) rfl (bI rfl B.range (af (aO S.width hr (pv 0) ) ah)) (λ_ _ _ _ _=>(aA (i:=0) (Yk_ ["at","self","figures","each"]) rfl (z? rfl))) (λ_ _ _ _ _=>bf) (λ_ _ _ _ _=>(bh O.sW hr (aY (K:=K) rfl (pv 1)) (af (kC (kE (K:=K) rfl) (pv 2) (iX (aM dZ (pv 0) (pv 3))) (iX (aM dZ (aM d9 (pv 0) au) (pv 3)))) ah)))))),?_⟩
 refine⟨_,rfl,a,CS,dx,_,_,rfl,sa.h,c.cl,c.nF,dO,b,rfl,⟨T,sa.f⟩,λ_ h=>h,b,T,rfl,sa.f,λH1 g1=>?_⟩
 have s1:=sa.mono g1;refine⟨_,rfl,a,rfl,⟨b,q',dx,T,M,s1⟩,λ_ h=>h,a,b,q',dx,T,M,rfl,s1,λH2 g2=>?_⟩
 have oh:=g1.trans g2;refine⟨_,rfl,by omega,by omega,λD hD=>?_⟩
 rw[Yp];have nD:H D=q?:=oh.free hD;refine dN (λi ys H3=>ay H2 H3/\Cf H3 (Off H D) ys i λi=>T.enc ((show Qt M from x).s.c i)) ⟨av hD _,.nil⟩ ?_ ?_
 ·rintro i m ys H3 hm hi hy hlen ⟨g3,cy⟩
  have yu:=oh.trans g3;have s3:=sa.mono yu;have hle:T.d*i+T.d<=T.d*M.n:=by
   have:=Yz T.d (show i+1<=M.n by omega)
   rw[Y4] at this;exact this
  refine⟨_,rfl,a,CS,dx,_,_,rfl,s3.h,c.cl,c.nF,dO,b,rfl,⟨T,s3.f⟩,?_⟩
  refine⟨_,rfl,_,rfl,_,rfl,_,_,rfl,rfl,z6 (Bd.small (by omega) (by omega)) (Bd.small (by omega) (by omega)) (by decide),_,rfl,?_⟩
  refine⟨_,rfl,_,_,rfl,rfl,_,rfl,_,_,rfl,rfl,z6 (Bd.small (by omega) (by omega)) (Bd.small (by omega) (by omega)) (by decide),_,rfl,?_⟩
  refine⟨lf,_,rfl,aU.of (yu _ _ Oe),λl4 n4=>?_⟩
  have e1:(0+(i:Int))*(T.d:Int)=((i*T.d:Nat):Int):=by rw[Z8,Y6]
  have e2:(0+(i:Int)+1)*(T.d:Int)=((i*T.d+T.d:Nat):Int):=by rw[Z8,Wt,Y6,Int.add_mul,Int.one_mul]
  have hid:i*T.d=T.d*i:=Y7 _ _;have N_:oX ((kJ es).map V.int) (j? ((0+(i:Int))*(T.d:Int))) (j? ((0+(i:Int)+1)*(T.d:Int)))=(flat (T.enc ((show Qt M from x).s.c i))).map V.int:=by
   rw[e1,e2,DH _ (by omega) (by rw[Yc,TU];omega),Zi,<- List.map_drop,<- List.map_take,sq es hel i _ (hes i hi)]
  rw[show oX ((kJ es).map V.int) (j? ((0+(i:Int))*(T.d:Int))) (j? ((0+(i:Int)+1)*(T.d:Int)))=(flat (T.enc ((show Qt M from x).s.c i))).map V.int from N_]
  generalize hX:upd H3 l4 _=H4;have x4:=cW n4 hX;clear hX;refine⟨λ_ h=>x4.1 _ _ h,b,T,.ref l4,(show Qt M from x).s.c i,rfl,s3.f.mono x4.1,fh x4.2 trivial,λr H5 g5 rr=>?_⟩
  have TV:=x4.1.trans g5;refine CW.emit hm hi (by rw[C?];omega) (TV _ _ hy) hlen ⟨ay.aJ (g3.trans TV) hD _,?_⟩
  refine(Cf.push (cy.same TV) (rr.imp λc o h kk=>⟨h,(yu.trans x4.1).free kk,λz=>?_⟩)).upd
  rw[z] at kk;have:=x4.1 _ _ hy
  rw[show H4 D=q? from kk] at this
  cases this
 ·rintro ys H3 hy ⟨g3,cy⟩
  refine q _ H3 (oh.trans g3) ?_
  exact(cy.imp λc o h kk=>⟨h,kk.1⟩).rep hy nD
theorem xo (B:c7 mg)(c:G9 K CT)(O:TwG P w K mg base k (iB CG CS))(F:bG K CT "figures" "Tower.figures" iw cI):jy P w K mg base (k+1) CT "figures" cI (Bh (mh CG CS CT)):=by
 refine F.ok w5 (λvs H Q E h=>?_) (λfa cdv A outer s H vs Q E hr h=>?_)
 ·obtain⟨a,T,u,x,rfl,_⟩:=h;rfl
 obtain⟨a,T,u,x,rfl,⟨dx,b,v1,v2,h1,ju⟩,q1,q2⟩:=h;refine⟨_,ao (aD (bh O.vL hr (aY (K:=K) rfl (pv 0)) (af (pv 1) ah))),?_⟩
 exact⟨_,rfl,a,CT,dx,_,_,rfl,h1,c.cl,c.nT,jE,b,rfl,⟨T,ju⟩,_,rfl,λ_ h=>h,b,T,u,x,rfl,ju,q1,q2⟩
theorem xr (B:c7 mg)(c:G9 K CT)(O:TwG P w K mg base k (iB CG CS))(F:bG K CT "made_of" "Tower.made_of" iy qR):jy P w K mg base (k+1) CT "made_of" qR (Bj (mh CG CS CT)):=by
 refine F.ok w6 (λvs H Q E h=>?_) (λfa cdv A outer s H vs Q E hr h=>?_)
 ·obtain⟨a,T,u,x,rfl,_⟩:=h;rfl
 obtain⟨a,T,u,x,rfl,⟨dx,b,v1,v2,h1,ju⟩,q1,q2⟩:=h;refine⟨_,ao (aD (bh O.sW hr (aY (K:=K) rfl (pv 0)) (af (pv 1) ah))),?_⟩
 exact⟨_,rfl,a,CT,dx,_,_,rfl,h1,c.cl,c.nT,jE,b,rfl,⟨T,ju⟩,_,rfl,λ_ h=>h,b,T,u,x,rfl,ju,q1,q2⟩
theorem KD (B:c7 mg)(X:r_ K mg CG CS)(Y:A5 K mg CG CS)(G:RK K CG CS CT):∀n,n<=5->TwG P w K mg base (8+4*n) (IsT CG CS n)
 | 0,h=>⟨sV B X Y 0 h,(iZ X.cg (by decide) ((vM B X.cg G.g1).imp λvs H Q E h=>h.1)).mono (by decide),(iZ X.cg (by decide) ((vO B X.cg G.g2).imp λvs H Q E h=>h.1)).mono (by decide)⟩
 | n+1,h=>by
  have O:=KD B X Y G n (by omega)
  have wd:nj P w K mg base 1 (OX CG CS n) "width" cF (vo CG CS n):=wJ X.cs (by decide) (by decide) (by decide) (ly B X.cs X.s0)
  have W:OY P w K mg base (8+4*n) CG CS n:=⟨wd.mono (by omega)⟩
  refine⟨sV B X Y (n+1) h,?_,?_⟩
  ·exact(gn X.cs (by decide) (by decide) (by decide) (vP B X.cs O G.s1)).mono (by omega)
  ·exact(gn X.cs (by decide) (by decide) (by decide) (vQ B X.cs O W G.s2)).mono (by omega)
theorem abk (B:c7 mg)(X:r_ K mg CG CS)(Y:A5 K mg CG CS)(Z:DE K CT)(G:RK K CG CS CT):TwG P w K mg base 29 (mh CG CS CT):=by
 have E:=KD (P:=P) (w:=w) (base:=base) B X Y G;have OE:TwE P w K mg base 28 (iB CG CS):=Qh λn hn=>((E n hn).toTwE).up (by omega)
 have O:TwG P w K mg base 28 (iB CG CS):=by
  refine⟨OE,?_,?_⟩
  ·exact eZ (sp:=Bh) (λi=>(E i.1 i.2).vL.mono (by have:=i.2;omega)) (λJ vs H Q E h=>by obtain⟨a,T,u,x,e,j,_⟩:=h;exact⟨a,by rw[e];rfl,T,j⟩) (λvs H Q E h=>by obtain⟨a,T,u,x,e,⟨n,hn,j⟩,q,q2⟩:=h;exact⟨⟨n,hn⟩,a,T,u,x,e,j,q,q2⟩)
  ·exact eZ (sp:=Bj) (λi=>(E i.1 i.2).sW.mono (by have:=i.2;omega)) (λJ vs H Q E h=>by obtain⟨a,T,u,x,e,j,_⟩:=h;exact⟨a,by rw[e];rfl,T,j⟩) (λvs H Q E h=>by obtain⟨a,T,u,x,e,⟨n,hn,j⟩,q,q2⟩:=h;exact⟨⟨n,hn⟩,a,T,u,x,e,j,q,q2⟩)
 exact⟨V5 B Z OE,jJ Z.c (by decide) (by decide) (by decide) (by decide) (xo B Z.c O G.t1),jJ Z.c (by decide) (by decide) (by decide) (by decide) (xr B Z.c O G.t2)⟩
end
section
variable {CG CS CT:o?} {k:Nat} {J:L2.Kind}
theorem LN(h:Wd T ws):flat (T.enc 0)=Yt T.d 0:=by
 obtain⟨F,hF⟩:=Qx h;rw[hF.fl];refine List.ext_getElem (by rw[Yc,Yv,List.length_replicate]) λi h1 h2=>?_
 rw[List.getElem_map,List.getElem_range,List.getElem_replicate,hF.nil];rfl
def tH (T:cj)(n:Nat)(s:aF T.α):List Int:=kJ ((Yi n).map λi=>T.enc (s.c i))
theorem Bl:tH T (n+1) s=tH T n s++flat (T.enc (s.c n)):=by
 unfold tH;rw[mq,mq,Z7,Yr,Yr,List.flatten_append];congr 1
 show flat _++[]=_
 rw[Zy]
theorem qx {T:cj}{ws:List Nat}(h:Wd T ws){s:aF T.α}:∀n,(tH T n s).length=T.d*n
 | 0=>rfl
 | n+1=>by rw[Bl,Yk,qx h n,mP h,Y4]
theorem DI {T:cj}{ws:List Nat}(h:Wd T ws){s:aF T.α}{m:Nat}(hs:Dg s m):∀j,tH T (m+j) s=tH T m s++Yt (T.d*j) 0
 | 0=>by rw[Wh];show tH T m s=_++[];rw[Zy]
 | j+1=>by
  rw[<- Nat.add_assoc,Bl,DI h hs j,hs (m+j) (by omega),LN h,List.append_assoc,List.replicate_append_replicate,Y4]
theorem Je(hF:iN T F)(d1:1<=T.d)(n)(s):tH T n s=(Yi (T.d*n)).map λc=>(zv (pz F s c):Int):=by
 unfold tH pz;rw[mq,Z3,<- uA (λi j=>(zv (F (s.c i) j):Int)) d1]
 congr 1
 exact Z9 λi _=>hF.fl _
theorem TX(h:Wd T ws)(n)(s):Rw T.p (T.d*n) (tH T n s):=by
 obtain⟨F,hF⟩:=Qx h;refine⟨qx h n,λx hx=>?_⟩
 rw[Je hF h.d1] at hx;obtain⟨c,_,rfl⟩:=List.mem_map.mp hx;have:=(show Zp T.p from pz F s c).lt
 show 0<=((show Zp T.p from pz F s c).v:Int)/\((show Zp T.p from pz F s c).v:Int)<(T.p:Int)
 omega
theorem TY(hF:iN T F)(d1:1<=T.d)(hc:c<T.d*n):zr T.pr (tH T n s) c=pz F s c:=by
 unfold zr;rw[Je hF d1,Yb,Yh,Yy hc];show nt (ground T.p T.pr).α ((zv (pz F s c):Int)).toNat=_
 rw[Yp];exact Nx (T:=T) _
inductive Bm (J:L2.Kind)(vs:List V)(H:Hp)(Q:VK)(iS:XK):Prop where
 | mk (a:o?) (T:cj) (ws:List Nat) (v:V) (n m:Nat) (s:aF T.α) (c5:vs=[.ref a,v,.int (n:Int)]) (c6:J H a T) (dS:Wd T ws) (fT:Rep H Any v (aT T m s)) (jv:Dg s m) (pZ:m<=n) (wA:n<=50) (Fe:∀r H',ay H H'->Rep H' (bL H) r (eN (tH T n s))->Q r H')
theorem zd (B:c7 mg)(O:TwG P w K mg base k J)(F:Src K mg "poly_figures" mK yE):b8 P w K mg base (k+1) "poly_figures" yE (Bm J):=by
 refine F.ok ia (λvs H Q E h=>?_) (λfa cdv A outer s H vs Q E hr h=>?_)
 ·obtain⟨a,T,ws,v,n,m,s,rfl,_⟩:=h;rfl
 obtain⟨a,T,ws,v,n,m,s,rfl,ja,wd,rv,ds,hm,hn,q⟩:=h;have hb:=O.bd ja;have d1:=O.d1 ja;obtain⟨lv,vs,rfl,hv,_,cv⟩:=id rv.cf;refine⟨_,ai (aE (i:=3) ia.nd rfl (z? rfl) (bz ah))
  (ai (cE D? rfl (bZ (K:=K) rfl (pv 1)) (aA (i:=4) ia.nd rfl (z? rfl))
   (ao (aE (i:=3) ia.nd rfl (z? rfl) (aM jw (pv 3) (bh O.vL hr (pv 0) (af (pv 4) ah))))))
  (ao (aD (aM jw (pv 3) (aM Sv (bz (af au ah)) (aM di (aM dZ (pv 2) (aO O.degree hr (pv 0) )) (aI (aN (K:=K) rfl) rfl B.len bR (af (pv 3) ah)))))))),?_⟩
 refine⟨aZ rfl,λl0 n0=>?_⟩
 have k0:=av n0 (.lst []);have hdm:∀i,i<=m->T.d*i<=600:=λi hi=>Ys (Nat.mul_le_mul hb.1 (show i<=50 by omega)) (by decide)
 refine⟨_,rfl,lv,rfl,⟨_,aU.of (k0 _ _ hv)⟩,fV (xs:=vs) (λi σ H2=>ay H H2/\GG λ(lt:o?) (o:Option V)=>σ=[Rq a,Rq lv,Iq (n),Rq lt,o]/\Rep H2 (bL H) (.ref lt) (eN (tH T i s))) ⟨k0,l0,_,rfl,fh (ns:=[]) aq (show H l0=q? from n0)⟩ (λi σ H2 _ h=>aU.of (h.1 _ _ hv)) ?_ ?_⟩
 ·rintro i x σ H2 hx ⟨g2,lt,o,rfl,rt⟩
  obtain⟨hi,rx⟩:=cv.get hx;have j2:=O.mono g2 ja;obtain⟨lt',elt,hlt,O8⟩:=ints_rep rt;obtain rfl:lt=lt':=V.ref.inj elt
  refine⟨_,rfl,_,rfl,a,rfl,⟨T,j2⟩,_,rfl,λ_ h=>h,a,T,x,s.c i,rfl,j2,rx.same g2,λr H3 g3 rr=>?_⟩
  obtain⟨lr,rfl,hlr,_⟩:=ints_rep rr;have h1:=hdm i (by omega)
  refine⟨lt,lr,_,_,rfl,rfl,g3 _ _ hlt,hlr,by rw[Yc,Yc,qx wd,mP wd,C?];omega,λl5 n5=>?_⟩
  have k5:=av n5 (.lst ((tH T i s).map V.int++(flat (T.enc (s.c i))).map V.int));refine⟨(g2.trans g3).trans k5,l5,_,rfl,fh ?_ (show H l5=q? from(g2.trans g3).free n5)⟩
  rw[Bl,Yr];exact aq
 ·rintro σ H2 ⟨g2,lt,o,rfl,rt⟩
  rw[cv.len] at rt;obtain⟨lt',elt,hlt,O8⟩:=ints_rep rt;obtain rfl:lt=lt':=V.ref.inj elt
  have j2:=O.mono g2 ja;have hnd:T.d*n<=600:=Ys (Nat.mul_le_mul hb.1 hn) (by decide)
  have hmd:T.d*m<=T.d*n:=Yz _ hm;refine⟨_,rfl,aZ rfl,λl3 n3=>?_⟩
  generalize hX:upd H2 l3 _=H3;have x3:=cW n3 hX;clear hX;refine⟨_,rfl,_,rfl,a,rfl,⟨T,O.mono x3.1 j2⟩,λ_ h=>h,a,T,rfl,O.mono x3.1 j2,λH4 g4=>?_⟩
  have B3:=x3.1.trans g4;refine⟨_,_,rfl,rfl,z6 (Bd.small (by omega) (by omega)) (Bd.small (by omega) (by omega)) (by decide),_,rfl,lt,_,rfl,.inl (aU.of (B3 _ _ hlt)),_,_,rfl,rfl,?_⟩
  have ek:(n:Int)*(T.d:Int)-(((tH T m s).map V.int).length:Int)=((T.d*(n-m):Nat):Int):=by
   rw[Yc,qx wd,Nat.mul_sub,Int.natCast_sub hmd,Y6,Y6,Int.mul_comm]
  have hk:T.d*(n-m)<=600:=by rw[Nat.mul_sub];omega
  refine⟨l3,_,_,rfl,rfl,g4 _ _ x3.2,?_,?_,?_,λl5 n5=>?_⟩
  ·show -(2 ^ 63)<=(n:Int)*(T.d:Int)-_
   rw[ek];omega
  ·show(n:Int)*(T.d:Int)-_<2 ^ 63
   rw[ek];omega
  ·show 1*((n:Int)*(T.d:Int)-(((tH T m s).map V.int).length:Int)).toNat<=K?
   rw[ek,Yp,C?];omega
  have er:(Yt ((n:Int)*(T.d:Int)-(((tH T m s).map V.int).length:Int)).toNat [V.int 0]).flatten=(Yt (T.d*(n-m)) (0:Int)).map V.int:=by
   rw[ek,Yp];generalize T.d*(n-m)=j;induction j with
   | zero=>rfl
   | succ j ih=>rw[Zo,Zo,Wn,ih];rfl
  rw[show(Yt ((n:Int)*(T.d:Int)-(((tH T m s).map V.int).length:Int)).toNat [V.int 0]).flatten=(Yt (T.d*(n-m)) (0:Int)).map V.int from er]
  generalize hX:upd H4 l5 _=H5;have x5:=cW n5 hX;clear hX;refine⟨lt,l5,_,_,rfl,rfl,x5.1 _ _ (B3 _ _ hlt),x5.2,by rw[Yc,Yc,qx wd,List.length_replicate,C?];omega,λl6 n6=>?_⟩
  have k6:=av n6 (.lst ((tH T m s).map V.int++(Yt (T.d*(n-m)) (0:Int)).map V.int));have g26:=B3.trans x5.1;refine q _ _ ((g2.trans g26).trans k6) (fh ?_ (show H l6=q? from(g2.trans g26).free n6))
  have e:=DI wd ds (n-m);rw[show m+(n-m)=n by omega] at e
  rw[e,Yr];exact aq
inductive GS (J:L2.Kind)(vs:List V)(H:Hp)(Q:VK)(iS:XK):Prop where
 | mk (a:o?) (T:cj) (ws:List Nat) (v:V) (n:Nat) (s:aF T.α) (c5:vs=[.ref a,v]) (c6:J H a T) (dS:Wd T ws) (fT:Rep H Any v (eN (tH T n s))) (jv:Dg s n) (pZ:n<=50) (wA:∀m r H',Nz T m s->m<=n->ay H H'->Rep H' (bL H) r (aT T m s)->Q r H')
theorem LO(h:Wd T ws)(hi:i<n):((tH T n s).drop (i*T.d)).take T.d=flat (T.enc (s.c i)):=
 sq _ (λe he=>by obtain⟨j,_,rfl⟩:=List.mem_map.mp he;exact mP h _) i _ (by rw[Yh,Yy hi];rfl)
theorem uI (B:c7 mg)(O:TwG P w K mg base k J)(bN:b8 P w K mg base (k+1) "without_noughts" AE (yp J))(F:Src K mg "poly_of_figures" fO NX):b8 P w K mg base (k+2) "poly_of_figures" NX (GS J):=by
 refine F.ok iD (λvs H Q E h=>?_) (λfa cdv A outer s H vs Q E hr h=>?_)
 ·obtain⟨a,T,ws,v,n,s,rfl,_⟩:=h;rfl
 obtain⟨a,T,ws,v,n,s,rfl,ja,wd,rv,ds,hn,q⟩:=h;have hb:=O.bd ja;have d1:=O.d1 ja;obtain⟨lf,rfl,Oe,_⟩:=ints_rep rv;have TU:=qx wd (s:=s) n;have hnd:T.d*n<=600:=Ys (Nat.mul_le_mul hb.1 hn) (by decide)
 refine⟨_,ai (aE (i:=2) iD.nd rfl (Or.inr rfl) (aO O.degree hr (pv 0) ))
  (ai (lO (i:=3) iD.nd rfl (z? rfl) (aK (N:=["at","tower","figures","each"]) (sl:=[q?,j? 0,j? 1,j? 2]) (aj fO) ["tower","figures","each","terms"] rfl rfl (by decide +kernel)) rfl (II rfl B.range (af au (af (aI (aN (K:=K) rfl) rfl B.len bR (af (pv 1) ah)) (af (pv 2) ah)))) (λ_ _ _ _ _=>(aA (i:=0) (Yk_ ["at","tower","figures","each"]) rfl (z? rfl))) (λ_ _ _ _ _=>bf) (λ_ _ _ _ _=>(bh O.sW hr (pv 1) (af (kC (kE (K:=K) rfl) (pv 2) (iX (pv 0)) (iX (aM d9 (pv 0) (pv 3)))) ah))))
  (ao (aD (aG bN hr (af (pv 0) (af (pv 3) ah)))))),?_⟩
 refine⟨_,rfl,a,rfl,⟨T,ja⟩,λ_ h=>h,a,T,rfl,ja,λH1 g1=>?_⟩
 refine⟨_,rfl,lf,_,rfl,.inl (aU.of (g1 _ _ Oe)),_,rfl,_,_,T.d,rfl,⟨by decide,by decide,by omega,by rw[Yc,TU];omega,d1,by omega⟩,λD hD=>?_⟩
 have abl:(if (0:Int)<(((tH T n s).map V.int).length:Int) then ((((tH T n s).map V.int).length:Int)-0-1) / (T.d:Int)+1 else 0).toNat=n:=by
  rw[Yc,TU];by_cases n0:n=0
  ·subst n0
   rw[Wh,Ww (by decide)];rfl
  ·have h1:1<=T.d*n:=Wr d1 (by omega)
   rw[Wx (by omega)]
   have e:((T.d*n:Nat):Int)-0-1=((T.d*n-1:Nat):Int):=by omega
   rw[e,<- Int.natCast_ediv];have h2:(T.d*n-1) / T.d=n-1:=by
    refine Nat.div_eq_of_lt_le ?_ ?_
    ·rw[Y7,Nat.mul_sub,Nat.mul_one];omega
    ·rw[show n-1+1=n by omega,Y7 n];omega
   rw[h2];omega
 rw[abl];have nD:H D=q?:=g1.free hD;refine Lh (λi ys H3=>ay H1 H3/\Cf H3 (Off H D) ys i λi=>T.enc (s.c i)) ⟨av hD _,.nil⟩ ?_ ?_
 ·rintro i m ys H3 hm hi hy hlen ⟨g3,cy⟩
  have yu:=g1.trans g3;have j3:=O.mono yu ja;have hle:T.d*i+T.d<=T.d*n:=by
   have:=Yz T.d (show i+1<=n by omega)
   rw[Y4] at this;exact this
  refine⟨_,rfl,a,rfl,⟨T,j3⟩,_,rfl,_,rfl,_,rfl,?_⟩
  refine⟨_,rfl,_,rfl,_,_,rfl,rfl,_,rfl,?_⟩
  refine⟨lf,_,rfl,aU.of (yu _ _ Oe),λl4 n4=>?_⟩
  have e1:0+(i:Int)*(T.d:Int)=((i*T.d:Nat):Int):=by rw[Z8,Y6]
  have e2:0+(i:Int)*(T.d:Int)+(T.d:Int)=((i*T.d+T.d:Nat):Int):=by rw[Z8,Wt,Y6]
  have hid:i*T.d=T.d*i:=Y7 _ _;have N_:oX ((tH T n s).map V.int) (j? (0+(i:Int)*(T.d:Int))) (j? (0+(i:Int)*(T.d:Int)+(T.d:Int)))=(flat (T.enc (s.c i))).map V.int:=by
   rw[e2,e1,DH _ (by omega) (by rw[Yc,TU];omega),Zi,<- List.map_drop,<- List.map_take,LO wd hi]
  rw[show oX ((tH T n s).map V.int) (j? (0+(i:Int)*(T.d:Int))) (j? (0+(i:Int)*(T.d:Int)+(T.d:Int)))=(flat (T.enc (s.c i))).map V.int from N_]
  generalize hX:upd H3 l4 _=H4;have x4:=cW n4 hX;clear hX;refine⟨λ_ h=>x4.1 _ _ h,a,T,.ref l4,s.c i,rfl,O.mono x4.1 j3,fh x4.2 trivial,λr H5 g5 rr=>?_⟩
  have TV:=x4.1.trans g5;refine CW.emit hm hi (by rw[C?];omega) (TV _ _ hy) hlen ⟨ay.aJ (g3.trans TV) hD _,?_⟩
  refine(Cf.push (cy.same TV) (rr.imp λc o h kk=>⟨h,(yu.trans x4.1).free kk,λz=>?_⟩)).upd
  rw[z] at kk;have:=x4.1 _ _ hy
  rw[show H4 D=q? from kk] at this
  cases this
 ·rintro ys H3 hy ⟨g3,cy⟩
  have yu:=g1.trans g3;show gG 3 (V.ref D) _ _ _
  refine⟨_,rfl,_,rfl,a,T,.ref D,n,s,bL H,rfl,O.mono yu ja,(cy.imp λc o h kk=>⟨h,kk.1⟩).rep hy nD,ds,by omega,λr m H4 hm nz g4 rr=>?_⟩
  exact q m r H4 nz hm (yu.trans g4) (rr.imp λc o h kk=>⟨h,kk.elim (λz=>yu.free z) id⟩)
inductive DJ (J:L2.Kind)(vs:List V)(H:Hp)(Q:VK)(iS:XK):Prop where
 | mk (a:o?) (T:cj) (v:V) (n:Nat) (s:aF T.α) (c5:vs=[.ref a,v]) (c6:J H a T) (dS:Rep H Any v (aT T n s)) (fT:Dg s n) (jv:n<=50) (pZ:∀m r H',Nz T m (dr s)->m<=n->ay H H'->Rep H' (bL H) r (aT T m (dr s))->Q r H')
theorem TZ (xs):oX xs (j? 1) q?=xs.drop 1:=by
 cases xs with
 | nil=>rfl
 | cons x xs=>exact wN (x::xs) 1 (by simp)
theorem ze (B:c7 mg)(O:TwG P w K mg base k J)(bN:b8 P w K mg base (k+1) "without_noughts" AE (yp J))(F:Src K mg "derived_poly" jc dR):b8 P w K mg base (k+2) "derived_poly" dR (DJ J):=by
 refine F.ok qO (λvs H Q E h=>?_) (λfa cdv A outer s H vs Q E hr h=>?_)
 ·obtain⟨a,T,v,n,s,rfl,_⟩:=h;rfl
 obtain⟨a,T,v,n,s,rfl,ja,rv,ds,hn,q⟩:=h;obtain⟨lv,vs,rfl,hv,_,cv⟩:=id rv.cf;have XY:=cv.len;refine⟨_,ai (lO (i:=2) qO.nd rfl (z? rfl) (aK (N:=["at","term","tower"]) (sl:=[q?,q?,j? 0]) (aj jc) ["tower","f","terms"] rfl rfl (by decide +kernel)) rfl (kF (K:=K) rfl rfl B.enumerate (af (pv 1) ah)) (λ_ _ _ _ _=>(cU (n:=2) (K:=K) rfl rfl (aQ (aA (i:=0) (Yk_ ["at","term","tower"]) rfl (z? rfl)) (aQ (aA (i:=1) (Yk_ ["at","term","tower"]) rfl (z? rfl)) cT)))) (λ_ _ _ _ _=>bf) (λ_ _ _ _ _=>(bh O.times hr (pv 2) (af (bh O.whole hr (pv 2) (af (pv 0) ah)) (af (pv 1) ah)))))
  (ao (aD (aG bN hr (af (pv 0) (af (kC (kE (K:=K) rfl) (pv 2) (iX au) nq) ah))))),?_⟩
 refine⟨_,rfl,lv,rfl,⟨_,aU.of hv⟩,λD hD=>?_⟩
 refine Dh (Uv:=0) (xs:=vs) (λi ys H2=>ay H H2/\Cf H2 (Off H D) ys i λi=>T.enc (nt T.α i*s.c i)) ⟨av hD _,.nil⟩ (λi ys H2 _ h=>aU.of (h.1 _ _ hv)) ?_ ?_
 ·rintro i m' x ys H2 r hm' hi hx hy hlen ⟨g2,cy⟩ hr2
  obtain⟨hi',rx⟩:=cv.get hx;have k2:=av hr2 (.tup [.int ((0+i:Nat):Int),x]);have e3:(upd H2 r (.tup [.int ((0+i:Nat):Int),x])) r=j? (.tup [.int ((0+i:Nat):Int),x]):=aq;generalize upd H2 r (.tup [.int ((0+i:Nat):Int),x])=H3 at k2 e3;have g3:=g2.trans k2;have j3:=O.mono g3 ja;refine⟨r,_,rfl,iR.of e3,rfl,_,_,rfl,_,_,rfl,rfl,?_⟩
  refine⟨_,rfl,a,rfl,⟨T,j3⟩,_,rfl,a,rfl,⟨T,j3⟩,_,rfl,λ_ h=>h,a,T,_,rfl,j3,λr4 H4 g4 Jb=>?_⟩
  have j4:=O.mono g4 j3;refine⟨_,rfl,λ_ h=>g4 _ _ h,a,T,r4,x,wh T ((0+i:Nat):Int),s.c i,rfl,j4,Jb.any,rx.same (g3.trans g4),λr5 H5 g5 Fi=>?_⟩
  have Od:=(k2.trans g4).trans g5;refine CW.emit hm' hi (by rw[XY,C?];omega) (Od _ _ hy) hlen ⟨ay.aJ (g2.trans Od) hD _,?_⟩
  refine(Cf.push (cy.same Od) ?_).upd
  have ew:wh T ((0+i:Nat):Int)=nt T.α i:=by
   unfold wh;rw[Zm,<- Zv,Yp,qh T.ch]
  rw[ew] at Fi;refine Fi.imp λc o h kk=>⟨h,((g3.trans g4)).free kk,λz=>?_⟩
  rw[z] at kk;have:=g4 _ _ (k2 _ _ hy)
  rw[show H4 D=q? from kk] at this
  cases this
 ·rintro ys H2 hy ⟨g2,cy⟩
  show gG 2 (V.ref D) _ _ _
  rw[XY] at cy;refine⟨_,rfl,_,rfl,_,rfl,D,_,rfl,aU.of hy,λl3 n3=>?_⟩
  rw[TZ];generalize hX:upd H2 l3 _=H3;have x3:=cW n3 hX;clear hX;have g3:=g2.trans x3.1;have nl3:H l3=q?:=g2.free n3;have c3:Cf H3 (bL H) (ys.drop 1) (n-1) λi=>T.enc ((dr s).c i):=by
   refine⟨by rw[Zu,cy.len],λi hi=>?_⟩
   obtain⟨v,hv,rv⟩:=cy.at_ (1+i) (by omega)
   refine⟨v,by rw[List.getElem?_drop];exact hv,?_⟩
   show Rep H3 (bL H) v (T.enc (nt T.α (i+1)*s.c (i+1)))
   rw[Nat.add_comm i 1];exact(rv.same x3.1).imp λc o h kk=>⟨h,kk.1⟩
  have dd:Dg (dr s) (n-1):=λi hi=>by
   show nt T.α (i+1)*s.c (i+1)=0
   rw[ds (i+1) (by omega)];grind
  refine⟨a,T,.ref l3,n-1,dr s,bL H,rfl,O.mono g3 ja,c3.rep x3.2 nl3,dd,by omega,λr m H4 hm nz g4 rr=>?_⟩
  exact q m r H4 nz (by omega) (g3.trans g4) (rr.imp λc o h kk=>⟨h,kk.elim (λz=>g3.free z) id⟩)
structure T_ (P:F?)(w:H?)(K:bK)(mg:Str->Option l?)(base:Q?)(k:Nat)(J:L2.Kind):Prop extends TwG P w K mg base k J where
 power:nj P w K mg base k (JJ J) "power" nZ (rF J)
inductive Og (J:L2.Kind)(vs:List V)(H:Hp)(Q:VK)(iS:XK):Prop where
 | mk (a:o?) (T:cj) (v:V) (n:Nat) (s:aF T.α) (c5:vs=[.ref a,v]) (c6:J H a T) (dS:Rep H Any v (aT T (n+1) s)) (fT:n<=50) (jv:n % T.p=0) (pZ:∀r H',ay H H'->Rep H' (bL H) r (aT T (n / T.p+1) (Hf T s))->Q r H')
theorem xu (B:c7 mg)(O:T_ P w K mg base k J)(hk1:1<=k)(mO:b8 P w K mg base 1 "number_power" ["k","n"] Af)(F:Src K mg "root_by_prime" ie dR):b8 P w K mg base (k+1) "root_by_prime" dR (Og J):=by
 refine F.ok pJ (λvs H Q E h=>?_) (λfa cdv A outer s H vs Q E hr h=>?_)
 ·obtain⟨a,T,v,n,s,rfl,_⟩:=h;rfl
 obtain⟨a,T,v,n,s,rfl,ja,rv,hn,hp0,q⟩:=h;have hb:=O.bd ja;have d1:=O.d1 ja;have pp:=bM T.pr;obtain⟨lv,vs,rfl,hv,_,cv⟩:=id rv.cf;have XY:=cv.len;refine⟨_,ai (aE (i:=2) pJ.nd rfl (Or.inr rfl) (aG mO hr (af (aY (K:=K) rfl (pv 0)) (af (aM di (aO O.degree hr (pv 0) ) au) ah))))
  (ao (aD (cA (aK (N:=["term","tower","n"]) (sl:=[q?,j? 0,j? 2]) (aj ie) ["tower","f","n"] rfl rfl (by decide +kernel)) rfl (bZ (K:=K) rfl (Lk (K:=K) rfl (pv 1) nq nq (iX (aY (K:=K) rfl (pv 0))))) (λ_ _ _ _ _=>(aA (i:=0) (Yk_ ["term","tower","n"]) rfl (z? rfl))) (λ_ _ _ _ _=>bf) (λ_ _ _ _ _=>(bh O.power hr (pv 1) (af (pv 0) (af (pv 2) ah))))))),?_⟩
 obtain⟨C,dx,fs,qv,hcl,hna,hlk⟩:=O.fld ja;refine⟨_,rfl,a,C,dx,_,_,rfl,qv,hcl,hna,hlk,_,rfl,a,rfl,⟨T,ja⟩,λ_ h=>h,a,T,rfl,ja,λH1 g1=>?_⟩
 have j1:=O.mono g1 ja;refine⟨_,_,rfl,rfl,T.p,T.d-1,?_,by omega,by omega,?_⟩
 ·show [V.int (T.p:Int),V.int ((T.d:Int)-1)]++[]=_
  rw[show(T.d:Int)-1=((T.d-1:Nat):Int) by omega];rfl
 obtain⟨C',JV,fs',WV,abm,abn,abo⟩:=O.fld j1;refine⟨_,rfl,_,rfl,a,C',JV,_,_,rfl,WV,abm,abn,abo,_,rfl,rfl,rfl,T.p,rfl,by omega,lv,_,rfl,aU.of (g1 _ _ hv),λl2 n2=>?_⟩
 generalize hX:upd H1 l2 _=H2;have x2:=cW n2 hX;clear hX;have g2:=g1.trans x2.1;have hdp:T.p*(n / T.p)=n:=by have:=Y5 n T.p;omega
 have cnt:(vs.length+T.p-1) / T.p=n / T.p+1:=by
  rw[XY,show n+1+T.p-1=n+T.p by omega,Nat.add_div_right _ (by omega)]
 have hnp:n / T.p<=50:=Ys (Nat.div_le_self _ _) hn;have le:=Kl T.p (by omega) vs
 refine⟨l2,rfl,⟨_,aU.of x2.2⟩,λD hD=>?_⟩
 have nD:H D=q?:=g2.free hD;have hpw:T.p ^ (T.d-1)<2 ^ 400:=by
  have h1:T.p ^ (T.d-1)<=50 ^ (T.d-1):=Nat.pow_le_pow_left (by omega) _
  have h2:50 ^ (T.d-1)<=50 ^ 11:=Z6 (by decide) (by omega)
  have h3:(50:Nat) ^ 11<2 ^ 400:=by decide +kernel
  omega
 refine dH (xs:=Li T.p vs) (λi ys H3=>ay H2 H3/\Cf H3 (Off H D) ys i λi=>T.enc ((Hf T s).c i)) ⟨av hD _,.nil⟩ (λi ys H3 _ h=>aU.of (h.1 _ _ x2.2)) ?_ ?_
 ·rintro i m' x ys H3 hm' hi hx hy hlen ⟨g3,cy⟩
  rw[le,cnt] at hi;rw[Tf T.p (by omega) vs (by rw[cnt];exact hi)] at hx
  obtain⟨hi',rx⟩:=cv.get hx;have LD:=g2.trans g3;have j3:=O.mono LD ja;refine⟨_,rfl,a,rfl,⟨T,j3⟩,_,rfl,_,rfl,λ_ h=>h,a,T,x,s.c (i*T.p),T.p ^ (T.d-1),rfl,j3,rx.same LD,hpw,λr H4 g4 rr=>?_⟩
  refine CW.emit hm' (by rw[le,cnt];exact hi) (by rw[le,cnt,C?];omega) (g4 _ _ hy) hlen ⟨ay.aJ (g3.trans g4) hD _,?_⟩
  refine(Cf.push (cy.same g4) ?_).upd
  show Rep H4 (Off H D) r (T.enc ((s.c (T.p*i)) ^ (T.p ^ (T.d-1))))
  rw[Y7 T.p i];refine rr.imp λc o h kk=>⟨h,LD.free kk,λz=>?_⟩
  rw[z] at kk;rw[show H3 D=q? from kk] at hy
  cases hy
 ·rintro ys H3 hy ⟨g3,cy⟩
  rw[le,cnt] at cy;exact q _ H3 (g2.trans g3) ((cy.imp λc o h kk=>⟨h,kk.1⟩).rep hy nD)
def mub:St->Hp->Nat:=λσ H=>match σ with
 | [_,_,j? (.ref l),_]=>(match H l with|some (.lst xs)=>xs.length|_=>0)
 | _=>0
inductive yz (J:L2.Kind)(vs:List V)(H:Hp)(Q:VK)(iS:XK):Prop where
 | mk (a:o?) (T:cj) (v:V) (M:Md T.α) (e:Nat) (c5:vs=[.ref a,v]) (c6:J H a T) (dS:Cd T.α (T.p ^ T.d)) (fT:Rep H Any v (aT T (M.n*e+1) (M.f ^ e))) (jv:ur T M) (pZ:1<=e) (wA:M.n*e<=40) (Fe:∀(t:o?) (r:V) H',ay H H'->H t=q?->H' t=j? (.tup [r,.int (e:Int)])->Rep H' (bL H) r (aT T (M.n+1) M.f)->Q (.ref t) H')
theorem vR (B:c7 mg)(O:T_ P w K mg base k J)(sr:b8 P w K mg base (k+2) "derived_poly" dR (DJ J))(zg:b8 P w K mg base (k+1) "root_by_prime" dR (Og J))(gY:b8 P w K mg base (k+4) "common_poly" dM (rK J))(cD:b8 P w K mg base (k+2) "over_monic" dM (lP J))(F:Src K mg "part_and_times" jI dR):b8 P w K mg base (k+5) "part_and_times" dR (yz J):=by
 refine F.ok fP (λvs H Q E h=>?_) (λfa cdv A outer s H vs Q E hr h=>?_)
 ·obtain⟨a,T,v,M,e,rfl,_⟩:=h;rfl
 obtain⟨a,T,v,M,e,rfl,ja,cd,rv,al,e1,he,q⟩:=h;have hb:=O.bd ja;have d1:=O.d1 ja;have pp:=bM T.pr;have mp:=M.pos;refine⟨_,ai (aE (i:=2) fP.nd rfl (z? rfl) (pv 1))
  (ai (iW D? (aS (gZ (K:=K) rfl hr.units) (aG sr hr (af (pv 0) (af (pv 2) ah))) (bz ah) (a_ _))
   (ao (aE (i:=2) fP.nd rfl (z? rfl) (aG zg hr (af (pv 0) (af (pv 2) ah))))))
  (ai (aE (i:=3) fP.nd rfl (z? rfl) (bJ (eK (K:=K) rfl) (aG cD hr (af (pv 0) (af (pv 2) (af (aG gY hr (af (pv 0) (af (pv 2) (af (aG sr hr (af (pv 0) (af (pv 2) ah))) ah)))) ah)))) au (λ_ _=>rfl)))
  (ao (aD (q_ (af (pv 3) (af (aM kD (aM di (aI (aN (K:=K) rfl) rfl B.len bR (af (pv 1) ah)) au) (aM di (aI (aN (K:=K) rfl) rfl B.len bR (af (pv 3) ah)) au)) ah))))))),?_⟩
 refine bT (λ_:Unit=>[Rq a,j? v,j? v,q?]) (λ_ H'=>H=H') (λC key=>⟨_,rfl,dU key () rfl rfl⟩) ?_
 rintro _ _ rfl;refine bT (λb:V=>[Rq a,j? v,j? b,q?]) (λb H2=>ay H H2/\∃m:Nat,LA (1<=m) (m<=e) (m % T.p≠0) (Rep H2 Any b (aT T (M.n*m+1) (M.f ^ m)))) (λC key=>?_) ?_
 ·skip
  refine iY (λσ H2=>ay H H2/\GG λ(b:V) (m:Nat)=>LA (σ=[Rq a,j? v,j? b,q?]) (1<=m) (m<=e) (Rep H2 Any b (aT T (M.n*m+1) (M.f ^ m)))) mub ⟨ay.refl _,v,e,rfl,e1,Yd _,rv⟩ ?_
  rintro σ H2 ⟨g2,b,m,rfl,m1,me,rb⟩;have j2:=O.mono g2 ja;have hnm:M.n*m<=40:=Ys (Yz _ me) he;have mon:=eO M.mon m;refine⟨_,rfl,_,rfl,a,T,b,M.n*m+1,M.f ^ m,rfl,j2,rb,mon.dg,by omega,λk r H3 nz hk g3 rr=>?_⟩
  refine⟨aZ rfl,λl4 n4=>?_⟩
  generalize hX:upd H3 l4 _=H4;have x4:=cW n4 hX;clear hX;have B3:=g3.trans x4.1;have f0:uh 1 (.vec []):=.vec (by decide) λe he=>by cases he
  refine tT (rr.same x4.1) (.vec x4.2 trivial rfl (λi v e h=>by simp at h):Rep H4 Any (.ref l4) (.vec [])) (cO T (by omega) _) f0 (by omega) (by decide) (λz=>?_) (λz=>?_)
  ·have k0:k=0:=by
    have z:El.vec ((Yi k).map λi=>T.enc ((dr (M.f ^ m)).c i))=.vec []:=z
    injection z with z
    have:=W1 List.length z
    rw[Yc,Yv] at this;exact this
   subst k0;have hz:dr (M.f ^ m)=0:=nz.dg.Fc;have hm0:=(ID cd d1 al m1).mp hz;have hmp:T.p*(m / T.p)=m:=by have:=Y5 m T.p;omega
   have hq1:1<=m / T.p:=Nat.pos_of_ne_zero λy=>by rw[y] at hmp;omega
   have hlt:m / T.p<m:=Nat.div_lt_self (by omega) pp.1
   have en:M.n*m=T.p*(M.n*(m / T.p)):=by rw[<- Nat.mul_assoc,Y7 T.p,Nat.mul_assoc,hmp]
   refine⟨_,rfl,fE (win ?_)⟩
   have j4:=O.mono B3 j2;refine⟨_,rfl,_,rfl,a,T,b,M.n*m,M.f ^ m,rfl,j4,rb.same B3,by omega,by rw[en,Nat.mul_mod_right],λr5 H5 g5 Fi=>?_⟩
   rw[Nn d1 hm0 hz,en,Nat.mul_div_cancel_left _ (by omega)] at Fi
   refine⟨⟨(g2.trans B3).trans g5,r5,m / T.p,rfl,hq1,by omega,Fi.any⟩,?_⟩
   obtain⟨lb,bs,rfl,hbs,_,cb⟩:=id rb.cf;obtain⟨lr,rs,rfl,hrs,_,cr⟩:=id Fi.cf;show(match H5 lr with|some (.lst xs)=>xs.length|_=>0)<(match H2 lb with|some (.lst xs)=>xs.length|_=>0)
   rw[hrs,hbs];show rs.length<bs.length
   rw[cr.len,cb.len];have:=Nat.mul_lt_mul_of_pos_left hlt mp
   omega
  ·refine⟨_,rfl,cX (key b _ ⟨g2.trans B3,m,m1,me,λy=>z ?_,rb.same B3⟩)⟩
   have hz:=(ID cd d1 al m1).mpr y;have k0:k=0:=by
    rcases nz.last with h|h
    ·exact h
    ·rw[hz] at h;exact W3 rfl h
   rw[k0];rfl
 rintro b H2 ⟨g2,m,m1,me,hm,rb⟩;obtain⟨m,rfl⟩:∃m',m=m'+1:=⟨m-1,by omega⟩
 have j2:=O.mono g2 ja;have hnm:M.n*(m+1)<=40:=Ys (Yz _ me) he;have hns:M.n*(m+1)=M.n*m+M.n:=Y4 _ _;have mon:=eO M.mon (m+1);have hdr:dr (M.f ^ (m+1))≠0:=λz=>hm ((ID cd d1 al m1).mp z)
 refine⟨_,rfl,_,rfl,_,rfl,_,rfl,_,rfl,_,rfl,a,T,b,M.n*(m+1)+1,M.f ^ (m+1),rfl,j2,rb,mon.dg,by omega,λk' r3 H3 nz hk' g3 Kv=>?_⟩
 refine⟨a,T,b,r3,M.n*(m+1)+1,k',_,_,rfl,O.mono g3 j2,rb.same g3,mJ mon,by omega,Kv.any,nz,by omega,.inl (by omega),λr4 kg g H4 O4 hkg g4 Jb=>?_⟩
 obtain⟨rfl,rfl⟩:=O4.uniq (Qs cd d1 al hm);have B3:=g3.trans g4;refine⟨a,T,b,r4,M.n*(m+1)+1,M.n*m,M.f ^ (m+1),M.f ^ m,rfl,O.mono B3 j2,rb.same B3,mon.dg,by omega,Jb.any,eO M.mon m,by omega,λt q5 r5 mm x y H5 g5 nt5 et rq Fi ee dx UP hmm=>?_⟩
 have hx:M.f=x:=by
  refine(Nb (T:=T) (mJ (eO M.mon m)) M.mon.kX ⟨_,dx⟩ ?_ UP hmm).1
  rw[<- ee,aR];grind
 subst hx;rw[show M.n*(m+1)+1-M.n*m=M.n+1 by omega] at rq
 refine⟨t,_,_,_,rfl,rfl,iR.of et,bF (j:=0) rfl,?_⟩
 have Od:=B3.trans g5;have UQ:=g2.trans Od;obtain⟨lq,qs,rfl,hqs,_,cq⟩:=id rq.cf;obtain⟨lv,vs,rfl,hvs,_,cv⟩:=id rv.cf;have h5v:=UQ _ _ hvs;refine⟨_,rfl,_,rfl,lv,_,rfl,.inl (aU.of h5v),_,_,rfl,rfl,_,rfl,lq,_,rfl,.inl (aU.of hqs),_,_,rfl,rfl,_,_,rfl,rfl,?_,aZ rfl,λt6 n6=>?_⟩
 ·show yi _ ((qs.length:Int)-1)
  rw[cq.len,show((M.n+1:Nat):Int)-1=(M.n:Int) by omega]
  exact(Bd.small (by omega) (by omega)).dv (by omega)
 have ediv:((vs.length:Int)-1).fdiv ((qs.length:Int)-1)=(e:Int):=by
  rw[cq.len,cv.len,show((M.n+1:Nat):Int)-1=(M.n:Int) by omega,show((M.n*e+1:Nat):Int)-1=((M.n*e:Nat):Int) by omega,zJ,Nat.mul_div_cancel_left _ mp]
 generalize hX:upd H5 t6 _=H6;have x6:=cW n6 hX;clear hX;refine q t6 (.ref lq) H6 (UQ.trans x6.1) (UQ.free n6) ?_ ((rq.same x6.1).imp λc o h kk=>⟨h,(g2.trans B3).free kk⟩)
 rw[x6.2];show j? (HO.tup [V.ref lq,V.int (((vs.length:Int)-1).fdiv ((qs.length:Int)-1))])=_
 rw[ediv]
def pE (T:cj)(x:Nat×aF T.α):El:=aT T (x.1+1) x.2
structure Ua (T:cj)(L:List (Nat×aF T.α)):Prop where
 mon:∀x∈L,1<=x.1/\Alg.bH x.2 x.1
theorem Oh(h:iM T f t g k)(c:Cg f t t'):iM T f t' g k:=by
 obtain⟨mo,⟨u,v,pu,pv,e⟩,l,⟨x,px,ex⟩⟩:=h;obtain⟨q,pq,eq⟩:=c;obtain⟨y,py,ey⟩:=l;refine⟨mo,⟨u+v*q,v,pu.add (pv.mul pq),pv,?_⟩,⟨y,py,ey⟩,⟨x-q*y,px.sub (pq.mul py),?_⟩⟩
 ·rw[e]
  have:t=t'+q*f:=by rw[<- eq];grind
  rw[this];grind
 ·have:t'=t-q*f:=by rw[<- eq];grind
  rw[this,ex];rw[show q*f=q*(y*g) by rw[<- ey]]
  grind
open Classical in
noncomputable def nO {T:cj}(f g:aF T.α)(k:Nat):Nat×aF T.α:=if h:∃x:Nat×aF T.α,iM T f (g-cst (nt T.α k)) x.2 x.1 then h.choose else (0,1)
theorem Oi(h:iM T f (g-cst (nt T.α k)) d n):nO f g k=(n,d):=by
 have hex:∃x:Nat×aF T.α,iM T f (g-cst (nt T.α k)) x.2 x.1:=⟨(n,d),h⟩;have e:nO f g k=hex.choose:=by unfold nO;rw[dif_pos hex]
 rw[e];obtain⟨h1,h2⟩:=hex.choose_spec.uniq h;exact Prod.ext h1 h2
noncomputable def su {T:cj}(f g:aF T.α)(n:Nat):List (Nat×aF T.α):=((Yi n).filter λk=>decide (1<=(nO f g k).1)).map (nO f g)
theorem DK {T:cj}(f g:aF T.α)(n):su f g (n+1)=su f g n++if 1<=(nO f g n).1 then [nO f g n] else []:=by
 unfold su;rw[Z7,List.filter_append,Yr];congr 1
 by_cases h:1<=(nO f g n).1
 ·rw[Wx h,List.filter_cons_of_pos (by simpa using h)];rfl
 ·rw[Ww h,List.filter_cons_of_neg (by simpa using h)];rfl
theorem Oj {T:cj}(f g:aF T.α)(n):(su f g n).length<=n:=by
 unfold su;rw[Yc];exact Ys (List.length_filter_le _ _) (by rw[Yv];exact Yd _)
inductive GU (J:L2.Kind)(vs:List V)(H:Hp)(Q:VK)(iS:XK):Prop where
 | mk (a:o?) (T:cj) (u v:V) (n m:Nat) (f g:aF T.α) (c5:vs=[.ref a,u,v]) (c6:J H a T) (dS:Rep H Any u (aT T (n+1) f)) (fT:Alg.bH f n) (jv:1<=n) (pZ:n<=40) (wA:Rep H Any v (aT T m g)) (Fe:Dg g m) (M3:m<=40) (SX:Cg f (g ^ T.p) g) (Vw:∀(l:o?) (L:List (Nat×aF T.α)) H',ay H H'->H l=q?->Rep H' Any (.ref l) (.vec (L.map (pE T)))->Ua T L->Lg (L.map (·.2))->pr (L.map (·.2))=f->(∀x∈L,∃z:T.α,Cg x.2 g (cst z))->Q (.ref l) H')
theorem ET (B:c7 mg)(O:T_ P w K mg base k J)(cD:b8 P w K mg base (k+2) "over_monic" dM (lP J))(bN:b8 P w K mg base (k+1) "without_noughts" AE (yp J))(gY:b8 P w K mg base (k+4) "common_poly" dM (rK J))(fD:b8 P w K mg base (k+2) "minus_poly" dM (pB J))(F:Src K mg "parted_by" rT dM):b8 P w K mg base (k+5) "parted_by" dM (GU J):=by
 refine F.ok gq (λvs H Q E h=>?_) (λfa cdv A outer s H vs Q E hr h=>?_)
 ·obtain⟨a,T,u,v,n,m,f,g,rfl,_⟩:=h;rfl
 obtain⟨a,T,u,v,n,m,f,g,rfl,ja,ru,mf,n1,hn,rv,dg,hm,st,q⟩:=h;have pp:=bM T.pr;refine⟨_,ai (aE (i:=3) gq.nd rfl (z? rfl) (bJ (eK (K:=K) rfl) (aG cD hr (af (pv 0) (af (pv 2) (af (pv 1) ah)))) au (λ_ _=>rfl)))
  (ai (bX (aS yd (aI (aN (K:=K) rfl) rfl B.len bR (af (pv 3) ah)) au (a_ _))
   (ao (aD (bz (af (pv 1) ah))))
   (aW))
  (ai (aE (i:=4) gq.nd rfl (z? rfl) (bz ah))
  (ai (cE D? rfl (bI rfl B.range (af (aY (K:=K) rfl (pv 0)) ah)) (aA (i:=5) gq.nd rfl (z? rfl))
   (ai (aE (i:=6) gq.nd rfl (z? rfl) (aG bN hr (af (pv 0) (af (bz (af (bh O.whole hr (pv 0) (af (pv 5) ah)) ah)) ah))))
   (ai (aE (i:=7) gq.nd rfl (z? rfl) (aG gY hr (af (pv 0) (af (pv 1) (af (aG fD hr (af (pv 0) (af (pv 3) (af (pv 6) ah)))) ah)))))
   (ao (bX (aS oV (aI (aN (K:=K) rfl) rfl B.len bR (af (pv 7) ah)) au (a_ _))
    (ao (jS (u9 S? H! I! eW (pv 4) (af (pv 7) ah))))
    (aW))))))
  (ao (aD (pv 4)))))),?_⟩
 refine bT (λr:V=>[Rq a,j? u,j? v,j? r,q?,q?,q?,q?]) (λr H2=>ay H H2/\GG λ(k':Nat) (y:aF T.α)=>LA (Rep H2 Any r (aT T k' y)) (Nz T k' y) (k'<=n) (Cg f g y)) (λC key=>?_) ?_
 ·skip
  refine⟨_,rfl,_,rfl,_,rfl,a,T,v,u,m,n,g,f,rfl,ja,rv,dg,by omega,ru,mf,by omega,λt q2 r2 mm x y H2 g2 nt2 et rq rr ee dx UP hmm=>?_⟩
  exact⟨t,_,_,_,rfl,rfl,iR.of et,bF (j:=1) rfl,dU key r2 ⟨g2,mm,y,rr.any,UP,hmm,⟨x,⟨_,dx⟩,by rw[ee];grind⟩⟩ rfl⟩
 rintro r H2 ⟨g2,k',y,rr,UP,hk',cy⟩;have j2:=O.mono g2 ja;obtain⟨lr,rs,rfl,hrs,_,cr⟩:=id rr.cf;refine bT (λ_:Unit=>[Rq a,j? u,j? v,Rq lr,q?,q?,q?,q?]) (λ_ H3=>H2=H3/\2<=k') (λC key=>?_) ?_
 ·skip
  refine⟨_,rfl,lr,_,rfl,.inl (aU.of hrs),_,_,rfl,rfl,_,rfl,?_⟩
  rw[cr.len];by_cases hlt:k'<2
  ·refine ug (by omega) ?_
   refine⟨_,rfl,aZ rfl,λl3 n3=>?_⟩
   generalize hX:upd H2 l3 _=H3;have x3:=cW n3 hX;clear hX;have ey:y=cst (y.c 0):=iz (UP.dg.mono (by omega))
   have ru3:=ru.same (g2.trans x3.1);refine q l3 [(n,f)] H3 (g2.trans x3.1) (g2.free n3) (.vec x3.2 trivial rfl λi z e h1 h2=>?_) ⟨λx hx=>by rw[List.mem_singleton.mp hx];exact⟨n1,mf⟩⟩ ⟨λt ht=>by rw[List.mem_singleton.mp ht];exact⟨n,n1,mf⟩,List.pairwise_singleton _ _⟩ (by show f*1=f;grind) (λx hx=>by rw[List.mem_singleton.mp hx];exact⟨y.c 0,by rw[<- ey];exact cy⟩)
   cases i with
   | zero=>cases h1;cases h2;exact ru3
   | succ i=>simp at h1
  ·exact oZ (by omega) (key () _ ⟨rfl,by omega⟩)
 rintro _ _ ⟨rfl,hk2⟩;refine bT (λl:o?=>[Rq a,j? u,j? v,Rq lr,Rq l,q?,q?,q?]) (λl H3=>qT (ay H2 H3) (H2 l=q?) (H3 l=j? (.lst []))) (λC key=>⟨aZ rfl,λl3 n3=>dU key l3 ⟨av n3 _,n3,aq⟩ rfl⟩) ?_
 rintro lt H3 ⟨g3,O8,hlt⟩;have abr:H lt=q?:=g2.free O8;refine bT (λi:Option V×Option V×Option V=>[Rq a,j? u,j? v,Rq lr,Rq lt,i.1,i.2.1,i.2.2]) (λ_ H4=>ay H2 H4/\∃vs,qT (H4 lt=j? (.lst vs)) (Cf H4 (Off H2 lt) vs (su f g T.p).length (λj=>((su f g T.p).map (pE T)).getD j (.num 0))) (∀j,j<T.p->iM T f (g-cst (nt T.α j)) (nO f g j).2 (nO f g j).1)) (λC key=>?_) ?_
 ·skip
  obtain⟨C',dx,fs,qv,hcl,hna,hlk⟩:=O.fld (O.mono g3 j2);refine⟨_,rfl,a,C',dx,_,_,rfl,qv,hcl,hna,hlk,_,rfl,by omega,by omega,?_⟩
  rw[Yp];refine dF (λi σ H4=>ay H2 H4/\Xz λ(vs:List V) (o1 o2 o3:Option V)=>LA (σ=[Rq a,j? u,j? v,Rq lr,Rq lt,o1,o2,o3]) (H4 lt=j? (.lst vs)) (Cf H4 (Off H2 lt) vs (su f g i).length (λj=>((su f g i).map (pE T)).getD j (.num 0))) (∀j,j<i->iM T f (g-cst (nt T.α j)) (nO f g j).2 (nO f g j).1)) ⟨g3,[],_,_,_,rfl,hlt,.nil,λj hj=>W3 hj (We _)⟩ ?_ ?_
  ·rintro i σ H4 hi ⟨g4,vs,o1,o2,o3,rfl,O5,c4,LP⟩
   have j4:=O.mono g4 j2;refine⟨_,rfl,_,rfl,a,rfl,⟨T,j4⟩,_,rfl,λ_ h=>h,a,T,_,rfl,j4,λr5 H5 g5 Fi=>?_⟩
   have ew:wh T (0+(i:Int))=nt T.α i:=by
    unfold wh;rw[Z8,<- Zv,Yp,qh T.ch]
   rw[ew] at Fi;refine⟨aZ rfl,λl6 n6=>?_⟩
   generalize hX:upd H5 l6 _=H6;have x6:=cW n6 hX;clear hX;have O6:=g5.trans x6.1;have r6:Rep H6 Any (.ref l6) (aT T 1 (cst (nt T.α i))):=(Cf.push (n:=0) (e:=λj=>T.enc ((cst (nt T.α i)).c j)) .nil (Fi.same x6.1).any:Cf _ Any ([]++[r5]) 1 _).rep x6.2 trivial
   refine⟨a,T,.ref l6,1,cst (nt T.α i),Any,rfl,O.mono O6 j4,r6,Dg.cst _,by decide,λr7 m7 H7 hm7 nz7 g7 Cp=>?_⟩
   have g47:=O6.trans g7;have g27:=g4.trans g47;refine⟨_,rfl,_,rfl,_,rfl,_,rfl,_,rfl,a,T,.ref lr,r7,k',m7,y,cst (nt T.α i),rfl,O.mono g47 j4,rr.same g27,UP.dg,by omega,Cp.any,nz7.dg,by omega,λr8 k8 H8 N1 nz8 g8 Tw=>?_⟩
   have XZ:=g47.trans g8;have g28:=g4.trans XZ;refine⟨a,T,u,r8,n+1,k8,f,y-cst (nt T.α i),rfl,O.mono XZ j4,ru.same (g2.trans g28),mJ mf,by omega,Tw.any,nz8,by omega,.inl (by omega),λr9 kg gg H9 O4 hkg g9 LF=>?_⟩
   have WW:iM T f (g-cst (nt T.α i)) gg kg:=Oh O4 (cy.symm.sub (Cg.refl _ _));have eo:=Oi WW;have O7:=XZ.trans g9;have Hj:=O7 _ _ O5;have WX:∀j,j<i+1->iM T f (g-cst (nt T.α j)) (nO f g j).2 (nO f g j).1:=λj hj=>by
    by_cases c:j<i
    ·exact LP j c
    ·obtain rfl:j=i:=by omega
     rw[eo];exact WW
   obtain⟨lp,ps,rfl,hps,_,cp⟩:=id LF.cf;refine⟨_,rfl,lp,_,rfl,.inl (aU.of hps),_,_,rfl,rfl,_,rfl,?_⟩
   rw[cp.len];by_cases hk1:1<=kg
   ·refine ug (by omega) ?_
    have hcl:=Oj f g i;refine⟨_,rfl,.inl ⟨rfl,_,aU.of Hj⟩,_,rfl,lt,vs,_,rfl,rfl,Hj,by rw[c4.len,C?];omega,?_⟩
    have eL:su f g (i+1)=su f g i++[(kg,gg)]:=by rw[DK,eo,Wx hk1]
    refine⟨(g4.trans O7).aJ O8 _,vs++[.ref lp],_,_,_,rfl,aq,?_,WX⟩
    rw[eL,Yk];refine(Cf.push ((c4.same O7).congr λj hj=>?_) ?_).upd
    ·rw[Yr,Yb,Yb,Yx (by rw[Yc];exact hj)]
    ·rw[Yr,Yb,Ze (by rw[Yc];exact Yd _),Yc,Nat.sub_self]
     show Rep H9 (Off H2 lt) (.ref lp) (aT T (kg+1) gg)
     refine LF.imp λc o h kk=>⟨h,g28.free kk,λz=>?_⟩
     rw[z] at kk;have:=XZ _ _ O5
     rw[show H8 lt=q? from kk] at this
     cases this
   ·refine oZ (by omega) ?_
    have eL:su f g (i+1)=su f g i:=by rw[DK,eo,Ww hk1,Zy]
    refine⟨g4.trans O7,vs,_,_,_,rfl,Hj,?_,WX⟩
    rw[eL];exact c4.same O7
  ·rintro σ H4 ⟨g4,vs,o1,o2,o3,rfl,O5,c4,LP⟩
   exact key (o1,o2,o3) _ ⟨g4,vs,O5,c4,LP⟩
 rintro⟨o1,o2,o3⟩ H4 ⟨g4,vs,O5,c4,LP⟩
 have par:=parted mf n1 (⟨_,dg⟩:aX g) st LP ((su f g T.p).map (·.2)) (by unfold su;rw[Z3];rfl)
 refine⟨_,rfl,q lt (su f g T.p) H4 (g2.trans g4) abr ?_ ⟨λx hx=>?_⟩ par.1 par.2.1 (λx hx=>par.2.2 x.2 (List.mem_map.mpr ⟨x,hx,rfl⟩))⟩
 ·rw[dW,Yc]
  exact(c4.imp λc o h kk=>⟨h,trivial⟩).rep O5 trivial
 ·unfold su at hx
  obtain⟨j,hj,rfl⟩:=List.mem_map.mp hx;obtain⟨h1,h2⟩:=List.mem_filter.mp hj;exact⟨Wz h2,(LP j (List.mem_range.mp h1)).mon⟩
theorem EU(h:Lg l):∀t∈l,aX t:=λt ht=>by obtain⟨n,_,m⟩:=h.mon t ht;exact m.kX
theorem Ol(h:Lg l)(ht:t∈l):Dv t (pr l):=by
 obtain⟨l',q,e,_⟩:=Gp (EU h) h.cop t ht;exact⟨pr l',Et λs hs=>(EU h) s (q s hs),by rw[e];grind⟩
theorem QY(h:Lg (A++t::C))(hB:Lg B)(e:pr B=t):Lg (A++B++C)/\pr (A++B++C)=pr (A++t::C):=by
 have hc:=List.pairwise_append.mp h.cop;have hc2:=List.pairwise_cons.mp hc.2.1;have dB:∀b∈B,Dv b t:=λb hb=>by rw[<- e];exact Ol hB hb
 refine⟨⟨λs hs=>?_,?_⟩,?_⟩
 ·rcases List.mem_append.mp hs with z|z
  ·rcases List.mem_append.mp z with z|z
   ·exact h.mon s (Zk _ z)
   ·exact hB.mon s z
  ·exact h.mon s (Yn _ (Ye _ z))
 ·refine List.pairwise_append.mpr ⟨List.pairwise_append.mpr ⟨hc.1,hB.cop,λa ha b hb=>?_⟩,hc2.2,λa ha c hc'=>?_⟩
  ·exact(hc.2.2 a ha t Yg).rP (dB b hb)
  ·rcases List.mem_append.mp ha with z|z
   ·exact hc.2.2 a z c (Ye _ hc')
   ·exact((hc2.1 c hc').symm.rP (dB a z)).symm
 ·rw[As,As,As,e]
  show pr A*t*pr C=pr A*(t*pr C)
  grind
theorem Jf(h:∀t∈l,∃n,1<=n/\Alg.bH t n):∃n,Alg.bH (pr l) n/\l.length<=n:=by
 induction l with
 | nil=>exact⟨0,nC,Yd _⟩
 | cons a l ih=>
  obtain⟨n,n1,hn⟩:=h a Yg;obtain⟨m,hm,hl⟩:=ih λt ht=>h t (Ye _ ht)
  exact⟨n+m,fF hn hm,by rw[Zf];omega⟩
theorem kU {T:cj}{f:aF T.α}(h:Alg.bH f n)(k:Alg.bH f m):n=m:=by
 have:=(mJ h).uniq (mJ k)
 omega
theorem QZ(C:Cf H Any vs A.length λi=>A.getD i (.num 0))(D:Cf H Any ws B.length λi=>B.getD i (.num 0))(h:H l=j? (.lst (vs++ws))):Rep H Any (.ref l) (.vec (A++B)):=by
 rw[dW,Yk];refine((C.append D).congr λi hi=>?_).rep h trivial
 simp only[Yb]
 by_cases c:i<A.length
 ·rw[Wx c,Yx c]
 ·rw[Ww c,Ze (by omega)]
theorem vS{L:List (Nat×aF T.α)}{M:Md T.α}(pl:Ua T L)(h:Lg (L.map (·.2)))(e:pr (L.map (·.2))=M.f):L.length<=M.n/\∀x∈L,x.1<=M.n/\∃(s:aF T.α) (k:Nat),Alg.bH s k/\M.f=x.2*s/\lQ x.2 s:=by
 refine⟨?_,λx hx=>?_⟩
 ·obtain⟨n,hn,hl⟩:=Jf h.mon
  rw[e] at hn;have:=kU hn M.mon
  rw[Yc] at hl;omega
 ·obtain⟨l',q,e',cp⟩:=Gp (EU h) h.cop x.2 (List.mem_map.mpr ⟨x,hx,rfl⟩)
  obtain⟨n,hn,hl⟩:=Jf λt ht=>h.mon t (q t ht)
  rw[e] at e';have:=kU M.mon (by rw[e'];exact fF (pl.mon x hx).2 hn)
  exact⟨by omega,_,_,hn,e',cp⟩
end
section
variable {CG CS CT:o?} {k:Nat} {J:L2.Kind}
theorem LQ {T:cj}(u)(i j:Nat):(cst u*(X:aF T.α) ^ i).c j=if j=i then u else 0:=by
 rw[bS,Gj];by_cases c:j=i
 ·rw[Wx c,Wx c];grind
 ·rw[Ww c,Ww c];grind
noncomputable def bU {T:cj}(n:Nat)(un:Nat->T.α)(r:Nat):aF T.α:=if r<T.d*n then cst (un (r % T.d))*(X:aF T.α) ^ (r / T.d) else 0
theorem WY {T:cj}{un:Nat->T.α}(hi:i<n)(hj:j<T.d):bU n un (T.d*i+j)=cst (un j)*(X:aF T.α) ^ i:=by
 unfold bU;rw[Wx,Nat.mul_add_mod,Y1 hj,Nat.mul_add_div (by omega),Wk hj,Wc]
 have:=Yz T.d (show i+1<=n by omega)
 rw[Y4] at this;omega
theorem WZ(h:iN T F)(d1:1<=T.d)(hun:∀j c,c<T.d->F (un j) c=if c=j then 1 else 0)(n):VJ F n (bU n un):=by
 refine⟨λr=>?_,λr c hc hr=>?_⟩
 ·unfold bU
  by_cases hr:r<T.d*n
  ·rw[Wx hr]
   intro i hi;have:r / T.d<n:=Nat.div_lt_of_lt_mul hr
   rw[LQ,Ww (by omega)]
  ·rw[Ww hr];exact Dg.zero _
 ·unfold bU pz
  rw[Wx hr,LQ];by_cases e:c / T.d=r / T.d
  ·rw[Wx e,hun _ _ (Wv _ (by omega))]
   by_cases e2:c % T.d=r % T.d
   ·rw[Wx e2,Wx (by rw[<- Y5 c T.d,<- Y5 r T.d,e,e2])]
   ·rw[Ww e2,Ww (λz=>e2 (by rw[z]))]
  ·rw[Ww e,h.nil,Ww (λz=>e (by rw[z]))]
theorem W2 {T:cj}{M:Md T.α}{un:Nat->T.α}{y:aF T.α}(hi:i<M.n)(hj:j<T.d)(dy:Dg y k)(hk:k<=M.n)(cy:Cg M.f ((X:aF T.α) ^ (T.p*i)) y):uB M (bU M.n un (T.d*i+j))=cst (un j ^ T.p)*y-cst (un j)*(X:aF T.α) ^ i:=by
 rw[WY hi hj];refine Au (Dg.sub (λt ht=>by rw[bS,dy t (by omega)];grind) λt ht=>by rw[LQ,Ww (by omega)]) ?_
 rw[zS,<- sO,<- gH,Y7 i];exact(Cg.mul (aX.cst _) (aX.X.pow _) (Cg.refl _ _) cy).sub (Cg.refl _ _)
theorem W4 {T:cj}(h:Rw T.p m l)(hj:j<m):((zv (zr T.pr l j):Nat):Int)=l.getD j 0:=by
 obtain⟨h0,h1⟩:=h.get j;have pp:=(bM T.pr).1;have hz:=z7 pp (l.getD j 0).toNat;have e:zv (zr T.pr l j)=(l.getD j 0).toNat % T.p:=hz;rw[e,Y1 (by omega)]
 omega
inductive Oo (J:L2.Kind)(vs:List V)(H:Hp)(Q:VK)(iS:XK):Prop where
 | mk (a:o?) (T:cj) (ws:List Nat) (v:V) (M:Md T.α) (c5:vs=[.ref a,v]) (c6:J H a T) (dS:Wd T ws) (fT:Rep H Any v (aT T (M.n+1) M.f)) (jv:T.d*M.n<=40) (pZ:∀(l:o?) (G:List (Nat×aF T.α)) H',ay H H'->Rep H' Any (.ref l) (.vec (G.map λx=>aT T x.1 x.2))->G.length<=50->(∀x∈G,Dg x.2 x.1/\x.1<=M.n/\Cg M.f (x.2 ^ T.p) x.2)->(∀t,Dv t M.f->(∀x∈G,∃z:T.α,Cg t x.2 (cst z))->∀s,aX s->Cg M.f (s ^ T.p) s->∃z:T.α,Cg t s (cst z))->Q (.ref l) H')
theorem xw (B:c7 mg)(O:T_ P w K mg base k J){k':Nat}(hk:k+1<=k')(iF:b8 P w K mg base k' "letter_to_powers" yE (wI J))(Bo:b8 P w K mg base k' "poly_figures" yE (Bm J))(vU:b8 P w K mg base k' "poly_of_figures" NX (GS J))(Oq:b8 P w K mg base k' "kernel" ["rows","p"] GR)(cD:b8 P w K mg base k' "over_monic" dM (lP J))(gF:b8 P w K mg base k' "times_poly" dM (i6 J))(dD:b8 P w K mg base k' "scaled_poly" AF (pC J))(fD:b8 P w K mg base k' "minus_poly" dM (pB J))(F:Src K mg "stay_at_power" cG dR):b8 P w K mg base (k'+1) "stay_at_power" dR (Oo J):=by
 refine F.ok bC (λvs H Q E h=>?_) (λfa cdv A outer s H vs Q E hr h=>?_)
 ·obtain⟨a,T,ws,v,M,rfl,_⟩:=h;rfl
 obtain⟨a,T,ws,v,M,rfl,ja,wd,rv,hdn,q⟩:=h;refine⟨_,ai (aE (i:=2) bC.nd rfl (Or.inr rfl) (aY (K:=K) rfl (pv 0)))
  (ai (aE (i:=3) bC.nd rfl (Or.inr rfl) (aO O.degree hr (pv 0) ))
  (ai (aE (i:=4) bC.nd rfl (z? rfl) (aM di (aI (aN (K:=K) rfl) rfl B.len bR (af (pv 1) ah)) au))
  (ai (Gg (i:=5) bC.nd rfl (z? rfl) (nY (N:=["place","tower","each"]) (sl:=[q?,j? 0,j? 3]) "place" (aj cG) VQ rfl rfl (by decide +kernel)) rfl (bI rfl B.range (af (pv 3) ah)) (λ_ _ _ _ _=>(aA (i:=0) (Yk_ ["place","tower","each"]) rfl (Or.inr rfl))) (λ_ _ _ _ _=>bf) (λ_ _ _ _ _=>(bh O.sW hr (pv 1) (af (cA (aK (N:=["at","place"]) (sl:=[q?,j? 0]) (An (Iz ((bY cG).getD 3 (.Pass ⟨0,0,0,0⟩))) (aj cG)) ["place","tower","each"] rfl rfl (by decide +kernel)) rfl (bI rfl B.range (af (pv 2) ah)) (λ_ _ _ _ _=>(aA (i:=0) (Yk_ ["at","place"]) rfl (z? rfl))) (λ_ _ _ _ _=>bf) (λ_ _ _ _ _=>(FI (aS tQ (pv 0) (pv 1) (a_ _)) au au))) ah))))
  (ai (lO (i:=6) bC.nd rfl (z? rfl) (aK (N:=["unit","tower","p"]) (sl:=[q?,j? 0,j? 2]) (aj cG) VQ rfl rfl (by decide +kernel)) rfl (bZ (K:=K) rfl (pv 5)) (λ_ _ _ _ _=>(aA (i:=0) (Yk_ ["unit","tower","p"]) rfl (z? rfl))) (λ_ _ _ _ _=>bf) (λ_ _ _ _ _=>(bh O.power hr (pv 1) (af (pv 0) (af (pv 2) ah)))))
  (ai (aE (i:=7) bC.nd rfl (z? rfl) (bJ (aP (K:=K) rfl) (aG iF hr (af (pv 0) (af (pv 1) (af au ah)))) au (λ_ _=>rfl)))
  (ai (aE (i:=8) bC.nd rfl (z? rfl) (bz (af (aO O.one hr (pv 0) ) ah)))
  (ai (aE (i:=9) bC.nd rfl (z? rfl) (bz ah))
  (ai (cE D? rfl (bI rfl B.range (af (pv 4) ah)) (aA (i:=10) bC.nd rfl (z? rfl))
   (ai (cE D? rfl (vc (K:=K) rfl rfl B.zip (af (pv 5) (af (pv 6) ah))) (cU (n:=2) (K:=K) rfl rfl (aQ (aA (i:=11) bC.nd rfl (z? rfl)) (aQ (aA (i:=12) bC.nd rfl (z? rfl)) cT)))
    (ai (aE (i:=13) bC.nd rfl (z? rfl) (aM jw (cA (aK (N:=["at","tower"]) (sl:=[q?,j? 0]) (aj cG) VQ rfl rfl (by decide +kernel)) rfl (bI rfl B.range (af (pv 10) ah)) (λ_ _ _ _ _=>(aA (i:=0) (Yk_ ["at","tower"]) rfl (z? rfl))) (λ_ _ _ _ _=>bf) (λ_ _ _ _ _=>(aO O.zero hr (pv 1) ))) (bz (af (pv 11) ah))))
    (ao (jS (u9 S? H! I! eW (pv 9) (af (aG Bo hr (af (pv 0) (af (aG fD hr (af (pv 0) (af (aG dD hr (af (pv 0) (af (pv 12) (af (pv 8) ah)))) (af (pv 13) ah)))) (af (pv 4) ah)))) ah))))))
   (ao (aE (i:=8) bC.nd rfl (z? rfl) (bJ (eK (K:=K) rfl) (aG cD hr (af (pv 0) (af (aG gF hr (af (pv 0) (af (pv 8) (af (pv 7) ah)))) (af (pv 1) ah)))) au (λ_ _=>rfl))))))
  (ao (aD (cA (aK (N:=["row","tower"]) (sl:=[q?,j? 0]) (aj cG) VQ rfl rfl (by decide +kernel)) rfl (bZ (K:=K) rfl (aG Oq hr (af (pv 9) (af (pv 2) ah)))) (λ_ _ _ _ _=>(aA (i:=0) (Yk_ ["row","tower"]) rfl (z? rfl))) (λ_ _ _ _ _=>bf) (λ_ _ _ _ _=>(aG vU hr (af (pv 1) (af (pv 0) ah))))))))))))))),?_⟩
 have d1:=wd.d1;have mp:=M.pos;refine bT (λ_:Unit=>[Rq a,j? v,Iq (T.p),q?,q?,q?,q?,q?,q?,q?,q?,q?,q?,q?]) (λ_ H2=>H=H2) (λC key=>?_) ?_
 ·skip
  obtain⟨C',dx,fs,qv,hcl,hna,hlk⟩:=O.fld ja;exact⟨_,rfl,a,C',dx,_,_,rfl,qv,hcl,hna,hlk,dU key () rfl rfl⟩
 rintro _ _ rfl;refine bT (λ_:Unit=>[Rq a,j? v,Iq (T.p),Iq (T.d),q?,q?,q?,q?,q?,q?,q?,q?,q?,q?]) (λ_ H2=>ay H H2) (λC key=>?_) ?_
 ·exact⟨_,rfl,a,rfl,⟨T,ja⟩,λ_ h=>h,a,T,rfl,ja,λH2 g2=>dU key () g2 rfl⟩
 rintro _ H2 g2;obtain⟨lv,fs,rfl,hfs,_,cf⟩:=id rv.cf;refine bT (λ_:Unit=>[Rq a,Rq lv,Iq (T.p),Iq (T.d),Iq (M.n),q?,q?,q?,q?,q?,q?,q?,q?,q?]) (λ_ H3=>H2=H3) (λC key=>?_) ?_
 ·skip
  refine⟨_,rfl,lv,_,rfl,.inl (aU.of (g2 _ _ hfs)),_,_,rfl,rfl,?_⟩
  rw[cf.len];exact dU key () rfl (by simp only[List.set];rw[show((M.n+1:Nat):Int)-1=(M.n:Int) by omega])
 rintro _ _ rfl;obtain⟨F',Ot⟩:=Qx wd;obtain⟨un,hun⟩:=Classical.skolem.mp λj:Nat=>Ot.Tc λc=>if c=j then 1 else 0
 refine bT (λl:o?=>[Rq a,Rq lv,Iq (T.p),Iq (T.d),Iq (M.n),Rq l,q?,q?,q?,q?,q?,q?,q?,q?]) (λl H3=>ay H2 H3/\Rep H3 Any (.ref l) (vf T.d λj=>T.enc (un j))) (λC key=>?_) ?_
 ·skip
  have eu:∀t,flat (T.enc (un t))=eG T.d t:=λt=>by
   rw[Ot.fl];unfold eG;refine Z9 λj hj=>?_
   rw[hun t j (List.mem_range.mp hj)];by_cases c:j=t
   ·rw[Wx c,Wx c];rfl
   ·rw[Ww c,Ww c];rfl
  have hpb:=O.bd ja;refine⟨_,rfl,_,rfl,by omega,by omega,λD hD=>?_⟩
  rw[Yp];refine dN (λi ys H3=>ay H2 H3/\Cf H3 (Off H2 D) ys i λj=>T.enc (un j)) ⟨av hD _,.nil⟩ ?_ ?_
  ·rintro t m' ys H3 hm' ht hy hlen ⟨g3,cy⟩
   have j3:=O.mono (g2.trans g3) ja;refine⟨_,rfl,a,rfl,⟨T,j3⟩,_,rfl,_,rfl,by omega,by omega,λD2 AY=>?_⟩
   rw[Yp];refine dN (λj zs H4=>ay H3 H4/\zs=((eG T.d t).take j).map V.int) ⟨av AY _,rfl⟩ ?_ ?_
   ·rintro j m2 zs H4 hm2 hj hz RE ⟨g4,rfl⟩
    have hu:(eG T.d t)[j]?=j? (if j=t then 1 else 0):=by unfold eG;rw[Yh,Yy hj];rfl
    refine⟨_,rfl,_,rfl,rfl,_,rfl,?_⟩
    have fin:∀w:Int,(if j=t then (1:Int) else 0)=w->∃ys,H4 D2=j? (.lst ys)/\ys.length<K?/\∃m',m'<m2/\CW T.d D2 (λj zs H4=>ay H3 H4/\zs=((eG T.d t).take j).map V.int) (j+1) m' (upd H4 D2 (.lst (ys++[V.int w]))):=λw hw=>
     CW.emit hm2 hj (by rw[C?];omega) hz RE ⟨ay.aJ g4 AY _,by rw[Zx,hu,hw,Yr];rfl⟩
    by_cases c:j=t
    ·refine ug (by rw[c]) (fin 1 (Wx c))
    ·refine oZ (λz=>c ?_) (fin 0 (Ww c))
     injection z with z
     omega
   ·rintro zs H4 hz ⟨g4,rfl⟩
    rw[Zn (by unfold eG;rw[Yc,Yv];exact Yd _),<- eu] at hz
    refine⟨λ_ h=>g4 _ _ h,a,T,.ref D2,un t,rfl,O.mono g4 j3,(fh (ok:=Any) hz trivial),λr H5 g5 rr=>?_⟩
    refine CW.emit hm' ht (by rw[C?];omega) ((g4.trans g5) _ _ hy) hlen ⟨ay.aJ (g3.trans (g4.trans g5)) hD _,?_⟩
    refine(Cf.push (cy.same (g4.trans g5)) ?_).upd
    refine rr.imp λc o h kk=>⟨h,(g3.trans g4).free kk,λz=>?_⟩
    rw[z] at kk;have:=g4 _ _ hy
    rw[show H4 D=q? from kk] at this
    cases this
  ·rintro ys H3 hy ⟨g3,cy⟩
   exact dU key D ⟨g3,(cy.imp λc o h kk=>⟨h,trivial⟩).rep hy trivial⟩ rfl
 rintro lu H3 ⟨g3,ru⟩;obtain⟨_,us,ee,MB,_,cu⟩:=id ru.cf;cases ee;refine bT (λl:o?=>[Rq a,Rq lv,Iq (T.p),Iq (T.d),Iq (M.n),Rq lu,Rq l,q?,q?,q?,q?,q?,q?,q?]) (λl H4=>ay H3 H4/\Rep H4 Any (.ref l) (vf T.d λj=>T.enc (un j ^ T.p))) (λC key=>?_) ?_
 ·skip
  refine⟨_,rfl,lu,rfl,⟨_,aU.of MB⟩,λD hD=>?_⟩
  refine dH (xs:=us) (λi ys H4=>ay H3 H4/\Cf H4 (Off H3 D) ys i λj=>T.enc (un j ^ T.p)) ⟨av hD _,.nil⟩ (λi ys H4 _ h=>aU.of (h.1 _ _ MB)) ?_ ?_
  ·rintro i m' x ys H4 hm' hi hx hy hlen ⟨g4,cy⟩
   obtain⟨hi',rx⟩:=cu.get hx;have j4:=O.mono ((g2.trans g3).trans g4) ja;have hpb:=O.bd ja;have pp:=bM T.pr;have abu:=cu.len;have abv:2 ^ 6<2 ^ 400:=by decide +kernel
   refine⟨_,rfl,a,rfl,⟨T,j4⟩,_,rfl,_,rfl,λ_ h=>h,a,T,x,un i,T.p,rfl,j4,rx.same g4,Nat.lt_trans (show T.p<2 ^ 6 by omega) abv,λr H5 g5 rr=>?_⟩
   refine CW.emit hm' hi (by rw[abu,C?];omega) (g5 _ _ hy) hlen ⟨ay.aJ (g4.trans g5) hD _,?_⟩
   refine(Cf.push (cy.same g5) ?_).upd
   refine rr.imp λc o h kk=>⟨h,g4.free kk,λz=>?_⟩
   rw[z] at kk;rw[show H4 D=q? from kk] at hy
   cases hy
  ·rintro ys H4 hy ⟨g4,cy⟩
   rw[cu.len] at cy;exact dU key D ⟨g4,(cy.imp λc o h kk=>⟨h,trivial⟩).rep hy trivial⟩ rfl
 rintro lr H4 ⟨g4,rr⟩;obtain⟨_,rs,ee,hrs,_,cr⟩:=id rr.cf;cases ee;have hn:M.n<=40:=Ys (Zg _ d1) hdn;have RI:=(g2.trans g3).trans g4;refine bT (λv:V=>[Rq a,Rq lv,Iq (T.p),Iq (T.d),Iq (M.n),Rq lu,Rq lr,j? v,q?,q?,q?,q?,q?,q?]) (λv H5=>ay H4 H5/\GG λ(ks:Nat) (y:aF T.α)=>LA (Rep H5 Any v (aT T ks y)) (Dg y ks) (ks<=M.n) (Cg M.f ((X:aF T.α) ^ T.p) y)) (λC key=>?_) ?_
 ·skip
  exact⟨_,rfl,_,rfl,a,T,.ref lv,M.n,1,M.f,rfl,O.mono RI ja,rv.same RI,M.mon,mp,hn,by decide,λL vs H5 g5 pw=>by
   obtain⟨v,kk,y,ev,rv5,nz,hkk,cg⟩:=pw.el 1 (Yd _);rw[Wm] at cg;exact⟨L,_,_,v,rfl,rfl,aU.of pw.at_,bF ev,dU key v ⟨g5,kk,y,rv5.any,nz.dg,hkk,cg⟩ rfl⟩⟩
 rintro RL H5 ⟨g5,ks,ys,r5,dg5,hks,cg5⟩;have UQ:=RI.trans g5;refine bT (λv:V=>[Rq a,Rq lv,Iq (T.p),Iq (T.d),Iq (M.n),Rq lu,Rq lr,j? RL,j? v,q?,q?,q?,q?,q?]) (λv H6=>ay H5 H6/\Rep H6 Any v (aT T 1 (cst 1))) (λC key=>?_) ?_
 ·skip
  have j5:=O.mono UQ ja;refine⟨_,rfl,a,rfl,⟨T,j5⟩,λ_ h=>h,a,T,rfl,j5,λr6 H6 g6 Tz=>⟨aZ rfl,λl n=>dU key (.ref l) ⟨g6.trans (av n _),?_⟩ rfl⟩⟩
  exact(Cf.push (n:=0) (e:=λj=>T.enc ((cst (1:T.α)).c j)) .nil (Tz.same (av n _)).any:Cf _ Any ([]++[r6]) 1 _).rep aq trivial
 rintro vp H6 ⟨g6,rp⟩;have N5:=UQ.trans g6;refine bT (λl:o?=>[Rq a,Rq lv,Iq (T.p),Iq (T.d),Iq (M.n),Rq lu,Rq lr,j? RL,j? vp,Rq l,q?,q?,q?,q?]) (λl H7=>qT (ay H6 H7) (H6 l=q?) (H7 l=j? (.lst []))) (λC key=>⟨aZ rfl,λl3 n3=>dU key l3 ⟨av n3 _,n3,aq⟩ rfl⟩) ?_
 rintro lw H7 ⟨g7,nlw,UL⟩;have uok:=WZ Ot d1 hun M.n;refine bT (λi:Option V×Option V×Option V×Option V×Option V=>[Rq a,Rq lv,Iq (T.p),Iq (T.d),Iq (M.n),Rq lu,Rq lr,j? RL,i.1,Rq lw,i.2.1,i.2.2.1,i.2.2.2.1,i.2.2.2.2]) (λ_ H8=>ay H6 H8/\∃vs,H8 lw=j? (.lst vs)/\Cf H8 Any vs (T.d*M.n) λr=>eN (tH T M.n (uB M (bU M.n un r)))) (λC key=>?_) ?_
 ·skip
  refine⟨_,rfl,_,rfl,by omega,by omega,?_⟩
  rw[Yp];refine dF (λi σ H8=>ay H6 H8/\E8q λ(vq:V) (kq:Nat) (y:aF T.α) (vs:List V) (o2 o3 o4 o5:Option V)=>A7q (σ=[Rq a,Rq lv,Iq (T.p),Iq (T.d),Iq (M.n),Rq lu,Rq lr,j? RL,j? vq,Rq lw,o2,o3,o4,o5]) (Rep H8 (λb=>b≠lw) vq (aT T kq y)) (Dg y kq) (kq<=M.n) (Cg M.f ((X:aF T.α) ^ (T.p*i)) y) (H8 lw=j? (.lst vs)) (Cf H8 (λb=>b≠lw) vs (T.d*i) λr=>eN (tH T M.n (uB M (bU M.n un r))))) ⟨g7,vp,1,cst 1,[],_,_,_,_,rfl,rp.imp λb o h _=>⟨g7 _ _ h,λz=>by rw[z,nlw] at h;cases h⟩,Dg.cst _,mp,by rw[Wh,br,jR];exact Cg.refl _ _,UL,.nil⟩ ?_ ?_
  ·rintro i σ H8 hi ⟨g8,vq,kq,y,vs,o2,o3,o4,o5,rfl,rq,dy,hkq,cy,hl8,c8⟩
   show FJ _ _ _ _ _
   refine bT (λi':Option V×Option V×Option V=>[Rq a,Rq lv,Iq (T.p),Iq (T.d),Iq (M.n),Rq lu,Rq lr,j? RL,j? vq,Rq lw,j? (.int (0+(i:Int))),i'.1,i'.2.1,i'.2.2]) (λ_ H9=>qT (ay H6 H9) (Rep H9 (λb=>b≠lw) vq (aT T kq y)) (∃vs,H9 lw=j? (.lst vs)/\Cf H9 (λb=>b≠lw) vs (T.d*(i+1)) λr=>eN (tH T M.n (uB M (bU M.n un r))))) (λC key=>?_) ?_
   ·skip
    have gu:=(g4.trans g5).trans g6;have gr:=g5.trans g6;refine⟨_,rfl,_,rfl,lu,lr,rfl,⟨_,aU.of ((gu.trans g8) _ _ MB)⟩,⟨_,aU.of ((gr.trans g8) _ _ hrs)⟩,Qi (xs:=us) (ys:=rs) (λj σ H9=>ay H6 H9/\Xz λ(vs:List V) (o3 o4 o5:Option V)=>LA (σ=[Rq a,Rq lv,Iq (T.p),Iq (T.d),Iq (M.n),Rq lu,Rq lr,j? RL,j? vq,Rq lw,j? (.int (0+(i:Int))),o3,o4,o5]) (Rep H9 (λb=>b≠lw) vq (aT T kq y)) (H9 lw=j? (.lst vs)) (Cf H9 (λb=>b≠lw) vs (T.d*i+j) λr=>eN (tH T M.n (uB M (bU M.n un r))))) (by rw[cu.len,cr.len]) ⟨g8,vs,_,_,_,rfl,rq,hl8,c8⟩ (λj σ H9 _ h=>⟨aU.of ((gu.trans h.1) _ _ MB),aU.of ((gr.trans h.1) _ _ hrs)⟩) ?_ ?_⟩
    ·rintro j x x' r σ H9 hx hx' hr9 ⟨g9,vs,o3,o4,o5,rfl,rq,Hj,c9⟩
     obtain⟨hj,rx⟩:=cu.get hx;obtain⟨_,rx'⟩:=cr.get hx';refine⟨r,_,rfl,iR.of aq,rfl,_,_,rfl,_,_,rfl,rfl,?_⟩
     generalize hX:upd H9 r _=HA;have gA:=(cW hr9 hX).1;clear hX;have g6A:=g9.trans gA;have jA:=O.mono (N5.trans g6A) ja;show FJ _ _ _ _ _
     refine bT (λl:o?=>[Rq a,Rq lv,Iq (T.p),Iq (T.d),Iq (M.n),Rq lu,Rq lr,j? RL,j? vq,Rq lw,j? (.int (0+(i:Int))),j? x,j? x',Rq l]) (λl HB=>ay HA HB/\Rep HB Any (.ref l) (aT T (i+1) (cst (un j)*(X:aF T.α) ^ i))) (λC key=>?_) ?_
     ·skip
      refine⟨_,rfl,_,rfl,by omega,by omega,λD hD=>?_⟩
      rw[show(0+(i:Int)).toNat=i by omega]
      refine mH (J:=J) (T:=T) O.mono jA hD (by omega) (λy H2 R j2 h2=>⟨_,rfl,a,rfl,⟨T,j2⟩,λ_ h=>h,a,T,rfl,j2,h2⟩) λzs H2 g2' hz cz=>?_
      refine⟨_,rfl,aZ rfl,λl1 n1=>⟨D,l1,_,_,rfl,rfl,av n1 _ _ _ hz,aq,by rw[cz.len,C?];simp;omega,λl2 n2=>?_⟩⟩
      generalize hX:upd _ l2 _=HB;have xB:=cW n2 hX;clear hX;have g2B:=(av n1 _).trans xB.1;refine dU key l2 ⟨g2'.trans g2B,?_⟩ rfl
      have c1:Cf HB Any (zs++[x]) (i+1) λt=>T.enc ((cst (un j)*(X:aF T.α) ^ i).c t):=by
       refine Cf.push ((cz.imp λb o h _=>⟨g2B _ _ h,trivial⟩:Cf HB Any _ _ _).congr λt ht=>?_) ?_
       ·rw[LQ,Ww (by omega)]
       ·rw[LQ,Wx rfl];exact rx.same ((gu.trans g6A).trans (g2'.trans g2B))
      exact c1.rep xB.2 trivial
     rintro lt HB ⟨gB,rt⟩;have g6B:=g6A.trans gB;have Ub:=gA.trans gB;have jB:=O.mono gB jA;refine⟨_,rfl,.inl ⟨rfl,_,aU.of (Ub _ _ Hj)⟩,_,rfl,_,rfl,_,rfl,_,rfl,_,rfl,a,T,x',vq,un j ^ T.p,kq,y,rfl,jB,rx'.same (gr.trans g6B),(rq.same Ub).any,by omega,λr1 HC gC t_=>?_⟩
     have ds:Dg (cst (un j ^ T.p)*y) kq:=λt ht=>by rw[bS,dy t ht];grind
     have dx:Dg (cst (un j)*(X:aF T.α) ^ i) (i+1):=λt ht=>by rw[LQ,Ww (by omega)]
     refine⟨_,rfl,a,T,r1,.ref lt,kq,i+1,_,_,rfl,O.mono gC jB,t_.any,ds,by omega,rt.same gC,dx,by omega,λr2 k2 HD hk2 N2 gD yt=>?_⟩
     have g9D:=(Ub.trans gC).trans gD;refine⟨_,rfl,a,T,ws,r2,M.n,k2,_,rfl,O.mono (gC.trans gD) jB,wd,yt.any,N2.dg,by omega,by omega,λr3 HE gE Kv=>?_⟩
     have X0:=g9D.trans gE;have hlE:=X0 _ _ Hj;have hlD:=g9D _ _ Hj;refine⟨lw,vs,_,rfl,rfl,hlE,?_,?_⟩
     ·have hle:T.d*i+j<=40:=by
       have:=Yz T.d (show i+1<=M.n by omega)
       rw[Y4] at this;omega
      rw[c9.len,C?];omega
     ·refine⟨(g9.trans X0).aJ nlw _,_,_,_,_,rfl,((rq.same X0).imp λb o h kk=>⟨by rw[aH kk];exact h,kk⟩),aq,?_⟩
      rw[<- Nat.add_assoc];refine(Cf.push (c9.same X0) ?_).imp λb o h kk=>⟨by rw[aH kk];exact h,kk⟩
      rw[W2 hi hj dy hkq cy];exact Kv.imp λb o h kk=>⟨h,λz=>by rw[z] at kk;rw[show HD lw=q? from kk] at hlD;cases hlD⟩
    ·rintro σ H9 ⟨g9,vs,o3,o4,o5,rfl,rq,Hj,c9⟩
     rw[cu.len,<- Y4] at c9;exact key (o3,o4,o5) _ ⟨g9,rq,vs,Hj,c9⟩
   rintro⟨p1,p2,p3⟩ H9 ⟨g9,rq9,vs9,Hj,c9⟩
   have j9:=O.mono (N5.trans g9) ja;have h56:=g6.trans g9;refine⟨_,rfl,_,rfl,_,rfl,_,rfl,a,T,vq,RL,kq,ks,y,ys,rfl,j9,rq9.any,dy,r5.same h56,dg5,by omega,λr1 HA gA t_=>?_⟩
   generalize hkm:(if kq=0\/ks=0 then 0 else kq+ks-1)=km at t_
   have dm:Dg (y*ys) km:=by
    rw[<- hkm];exact u5 dy dg5
   have agv:km<=80:=by rw[<- hkm];split <;> omega
   refine⟨_,rfl,a,T,r1,.ref lv,km,M.n,y*ys,M.f,rfl,O.mono gA j9,t_.any,dm,by omega,rv.same ((N5.trans g9).trans gA),M.mon,by omega,λt q2 r2 m2 x2 y2 HB gB nt2 et rq2 yt ee ZM N2 hm2=>?_⟩
   have Ub:=gA.trans gB;refine⟨t,_,_,_,rfl,rfl,iR.of et,bF (j:=1) rfl,?_⟩
   have W5:=gA _ _ Hj;refine⟨g9.trans Ub,r2,m2,y2,vs9,_,_,_,_,rfl,yt.imp λb o h kk=>⟨h,λz=>by rw[z] at kk;rw[show HA lw=q? from kk] at W5;cases W5⟩,N2.dg,hm2,?_,Ub _ _ Hj,c9.same Ub⟩
   rw[Y4,DN];exact(Cg.mul ⟨_,dy⟩ (aX.X.pow _) cy cg5).trans (Cg.Hu ⟨_,ZM⟩ ee)
  ·rintro σ H8 ⟨g8,vq,kq,y,vs,o2,o3,o4,o5,rfl,rq,dy,hkq,cy,hl8,c8⟩
   exact key (j? vq,o2,o3,o4,o5) _ ⟨g8,vs,hl8,c8.imp λb o h _=>⟨h,trivial⟩⟩
 rintro⟨o1,o2,o3,o4,o5⟩ H8 ⟨g8,vs8,hv8,c8⟩
 have g08:=N5.trans g8;have r8:Rep H8 Any (.ref lw) (.vec (((Yi (T.d*M.n)).map λr=>tH T M.n (uB M (bU M.n un r))).map eN)):=by
  rw[Z3];exact c8.rep hv8 trivial
 have dm1:1<=T.d*M.n:=Wr d1 mp;refine⟨_,rfl,_,rfl,T.p,T.pr,T.d*M.n,.ref lw,_,rfl,r8,by simp;omega,by simp;omega,by omega,λr hr=>?_,λS rk H9 g9 hS abA hK LF=>?_⟩
 ·obtain⟨t,_,rfl⟩:=List.mem_map.mp hr
  exact TX wd _ _
 have eR:(λr j=>zr T.pr (((Yi (T.d*M.n)).map λr=>tH T M.n (uB M (bU M.n un r))).getD r []) j)=λr c=>pz F' (uB M (bU M.n un r)) c:=by
  funext r c
  have out:∀s:aF T.α,Dg s M.n->¬ c<T.d*M.n->pz F' s c=0:=λs ds hc=>by
   unfold pz;rw[ds _ ((Nat.le_div_iff_mul_le (by omega)).mpr (by rw[Y7];omega)),Ot.nil]
  by_cases hr:r<T.d*M.n
  ·rw[Yb,Yh,Yy hr]
   show zr T.pr (tH T M.n (uB M (bU M.n un r))) c=_
   by_cases hc:c<T.d*M.n
   ·exact TY Ot d1 hc
   ·rw[out (uB M (bU M.n un r)) (cJ M _) hc]
    unfold zr;rw[Yb,Zd (by rw[qx wd];omega)]
    rfl
  ·rw[Yb,Zd (by simp;omega)]
   have e0:uB M (0:aF T.α)=0:=(IG (M:=M) (b:=bU M.n un) (d:=λ_=>0) (λr=>⟨_,uok.dg r⟩) 0).1
   have e1:bU M.n un r=0:=Ww hr;show zr T.pr [] c=pz F' (uB M (bU M.n un r)) c
   rw[e1,e0];exact(Ot.nil _).symm
 rw[eR,Yc,Yv] at hK;rw[Yc,Yv] at hS;have ex:∀l:List Int,∃x:Nat×aF T.α,Rw T.p (T.d*M.n+T.d*M.n) l->Nz T x.1 x.2/\x.1<=M.n/\Dg x.2 M.n/\l.drop (T.d*M.n)=tH T M.n x.2/\∀c,c<T.d*M.n->pz F' x.2 c=zr T.pr l (T.d*M.n+c):=λl=>by
  obtain⟨g,dg,eg⟩:=Ex Ot d1 M.n λc=>zr T.pr l (T.d*M.n+c)
  obtain⟨m,hm,nz⟩:=M_ M.n dg;refine⟨(m,g),λh=>⟨nz,hm,dg,?_,eg⟩⟩
  rw[Je Ot d1];refine List.ext_getElem? λc=>?_
  rw[List.getElem?_drop,Yh];by_cases hc:c<T.d*M.n
  ·rw[Yy hc,Ya (by rw[h.1];omega)]
   show j? _=j? ((zv (pz F' g c):Nat):Int)
   rw[eg c hc,W4 h (by omega)]
   congr 1
   rw[Yb,Ya (by rw[h.1];omega)]
   rfl
  ·rw[Zd (by rw[h.1];omega),Zd (by rw[Yv];omega)]
   rfl
 obtain⟨gx,hgx⟩:=Classical.skolem.mp ex;rw[dW,Yc] at LF;obtain⟨lk,ks9,rfl,hk9,_,c9⟩:=id LF.cf;refine⟨lk,rfl,⟨_,aU.of hk9⟩,λD hD=>?_⟩
 refine dH (xs:=ks9) (λi ys HA=>ay H9 HA/\Cf HA (Off H9 D) ys i λj=>((S.map gx).map λx=>aT T x.1 x.2).getD j (.num 0)) ⟨av hD _,.nil⟩ (λi ys HA _ h=>aU.of (h.1 _ _ hk9)) ?_ ?_
 ·rintro i m' x ys HA hm' hi hx hy hlen ⟨gA,cy⟩
  obtain⟨hi',rx⟩:=c9.get hx;have hl:S[i]?=j? S[i]:=Ya hi';generalize S[i]=l at hl;simp only[Yb,Yh,hl,Option.map_some,Option.getD_some] at rx
  obtain⟨nz,hm,dg,ed,_⟩:=hgx l (hS l (Yo hl));rw[ed] at rx;refine⟨_,rfl,_,rfl,a,T,ws,x,M.n,(gx l).2,rfl,O.mono ((g08.trans g9).trans gA) ja,wd,(rx.same gA).any,dg,by omega,λm r HB nzm _ gB rr=>?_⟩
  obtain rfl:=nzm.uniq nz
  refine CW.emit hm' hi (by rw[c9.len,C?];omega) (gB _ _ hy) hlen ⟨ay.aJ (gA.trans gB) hD _,?_⟩
  refine(Cf.push (cy.same gB) ?_).upd
  simp only[Yb,Yh,hl,Option.map_some,Option.getD_some]
  exact rr.vg gA hy
 ·rintro ys HA hy ⟨gA,cy⟩
  rw[c9.len] at cy;refine q D (S.map gx) HA ((g08.trans g9).trans gA) ?_ (by rw[Yc];exact abA) (λx hx=>?_) λt dt ht=>stay_all Ot d1 uok hK dt λr hr g dg eg=>?_
  ·rw[dW,Yc,Yc]
   exact(cy.imp λb o h _=>⟨h,trivial⟩).rep hy trivial
  ·obtain⟨l,hl,rfl⟩:=List.mem_map.mp hx
   obtain⟨nz,hm,dg,ed,eg⟩:=hgx l (hS l hl);refine⟨nz.dg,hm,(Gq Ot d1 uok dg).mpr λc hc=>?_⟩
   rw[<- hK.done.1 (zr T.pr l) (List.mem_map.mpr ⟨l,hl,rfl⟩) c hc];exact rO eg λ_ _=>rfl
  ·obtain⟨l,hl,rfl⟩:=List.mem_map.mp hr
   obtain⟨nz,hm,dg',ed,eg'⟩:=hgx l (hS l hl);have e:g=(gx l).2:=IF Ot d1 dg dg' λc hc=>by rw[eg c hc,eg' c hc]
   rw[e];exact ht _ (List.mem_map.mpr ⟨l,hl,rfl⟩)
inductive GV (J:L2.Kind)(vs:List V)(H:Hp)(Q:VK)(iS:XK):Prop where
 | mk (a:o?) (T:cj) (ws:List Nat) (v:V) (M:Md T.α) (c5:vs=[.ref a,v]) (c6:J H a T) (dS:Wd T ws) (fT:Rep H Any v (aT T (M.n+1) M.f)) (jv:T.d*M.n<=40) (pZ:∀(l:o?) (L:List (Nat×aF T.α)) H',ay H H'->H l=q?->Rep H' Any (.ref l) (.vec (L.map (pE T)))->Ua T L->Lg (L.map (·.2))->pr (L.map (·.2))=M.f->(∀x∈L,∃(N:Md T.α) (e:Nat),ur T N/\1<=e/\x.2=N.f ^ e)->Q (.ref l) H')
theorem uJ (B:c7 mg)(O:T_ P w K mg base k J){k':Nat}(hk:k+5<=k')(zh:b8 P w K mg base k' "stay_at_power" dR (Oo J))(GW:b8 P w K mg base (k+5) "parted_by" dM (GU J))(F:Src K mg "powers_of_parts" je dR):b8 P w K mg base (k'+1) "powers_of_parts" dR (GV J):=by
 refine F.ok cH (λvs H Q E h=>?_) (λfa cdv A outer s H vs Q E hr h=>?_)
 ·obtain⟨a,T,ws,v,M,rfl,_⟩:=h;rfl
 obtain⟨a,T,ws,v,M,rfl,ja,wd,rv,hdn,q⟩:=h;have d1:=wd.d1;have mp:=M.pos;have hn:M.n<=40:=Ys (Zg _ d1) hdn;refine⟨_,ai (aE (i:=2) cH.nd rfl (z? rfl) (bz (af (pv 1) ah)))
  (ai (cE D? rfl (bZ (K:=K) rfl (aG zh hr (af (pv 0) (af (pv 1) ah)))) (aA (i:=3) cH.nd rfl (z? rfl))
   (ai (aE (i:=4) cH.nd rfl (z? rfl) (bz ah))
   (ai (cE D? rfl (bZ (K:=K) rfl (pv 2)) (aA (i:=5) cH.nd rfl (z? rfl))
    (ao (aE (i:=4) cH.nd rfl (z? rfl) (aM jw (pv 4) (aG GW hr (af (pv 0) (af (pv 5) (af (pv 3) ah))))))))
   (ao (aE (i:=2) cH.nd rfl (z? rfl) (pv 4))))))
  (ao (aD (pv 2)))),?_⟩
 refine bT (λl:o?=>[Rq a,j? v,Rq l,q?,q?,q?]) (λl H2=>qT (ay H H2) (H l=q?) (Rep H2 Any (.ref l) (.vec ([(M.n,M.f)].map (pE T))))) (λC key=>⟨_,rfl,aZ rfl,λl3 n3=>dU key l3 ⟨av n3 _,n3,.vec aq trivial rfl λi z e h1 h2=>?_⟩ rfl⟩) ?_
 ·cases i with
  | zero=>cases h1;cases h2;exact rv.same (av n3 _)
  | succ i=>simp at h1
 rintro lt H2 ⟨g2,O8,rt⟩;refine bT (λi:o?×Option V×Option V×Option V=>[Rq a,j? v,Rq i.1,i.2.1,i.2.2.1,i.2.2.2]) (λi H3=>qT (ay H H3) (H i.1=q?) (∃L:List (Nat×aF T.α),Tr (Rep H3 Any (.ref i.1) (.vec (L.map (pE T)))) (Ua T L) (Lg (L.map (·.2))) (pr (L.map (·.2))=M.f) (∀x∈L,∃(N:Md T.α) (e:Nat),ur T N/\1<=e/\x.2=N.f ^ e))) (λC key=>?_) ?_
 ·skip
  refine⟨_,rfl,_,rfl,a,T,ws,v,M,rfl,O.mono g2 ja,wd,rv.same g2,hdn,λlg G H3 g3 rg hG dG comp=>?_⟩
  rw[dW,Yc] at rg;obtain⟨_,gs,ee,hgs,_,cg⟩:=id rg.cf;cases ee;refine⟨lg,rfl,⟨_,aU.of hgs⟩,fV (xs:=gs) (λi σ H4=>ay H3 H4/\Tt λ(lt:o?) (L:List (Nat×aF T.α)) (o1 o2 o3:Option V)=>A7q (σ=[Rq a,j? v,Rq lt,o1,o2,o3]) (H lt=q?) (Rep H4 Any (.ref lt) (.vec (L.map (pE T)))) (Ua T L) (Lg (L.map (·.2))) (pr (L.map (·.2))=M.f) (∀x∈L,∀y∈G.take i,∃z:T.α,Cg x.2 y.2 (cst z))) ⟨.refl _,lt,[(M.n,M.f)],_,_,_,rfl,O8,rt.same g3,⟨λx hx=>by rw[List.mem_singleton.mp hx];exact⟨mp,M.mon⟩⟩,⟨λt ht=>by rw[List.mem_singleton.mp ht];exact⟨M.n,mp,M.mon⟩,List.pairwise_singleton _ _⟩,(by show M.f*1=M.f;grind),λx hx y hy=>by simp at hy⟩ (λi σ H2 _ h=>aU.of (h.1 _ _ hgs)) ?_ ?_⟩
  ·rintro i x σ H4 hx ⟨g4,lt,L,o1,o2,o3,rfl,O8,rt,pl,prs,DL,cl⟩
   obtain⟨hi,rx⟩:=cg.get hx;have hy:G[i]?=j? G[i]:=Ya hi;generalize G[i]=y at hy;have ym:=Yo hy;simp only[Yb,Yh,hy,Option.map_some,Option.getD_some] at rx
   obtain⟨dy,agz,sy⟩:=dG y ym;rw[dW,Yc] at rt;obtain⟨_,ts,ee,hts,_,ct⟩:=id rt.cf;cases ee;obtain⟨hL,xx⟩:=vS pl prs DL;refine⟨aZ rfl,λl5 n5=>?_⟩
   generalize hX:upd H4 l5 _=H5;have x5:=cW n5 hX;clear hX;refine⟨_,rfl,lt,rfl,⟨_,aU.of (x5.1 _ _ hts)⟩,fV (xs:=ts) (λj σ H6=>ay H5 H6/\VT λ(lf:o?) (L2:List (Nat×aF T.α)) (o3:Option V)=>A8q (σ=[Rq a,j? v,Rq lt,j? x,Rq lf,o3]) (H lf=q?) (Rep H6 Any (.ref lf) (.vec (L2.map (pE T)))) (Ua T (L2++L.drop j)) (Lg ((L2++L.drop j).map (·.2))) (pr ((L2++L.drop j).map (·.2))=M.f) ((∀x∈L2++L.drop j,∀w∈G.take i,∃z:T.α,Cg x.2 w.2 (cst z))) (∀x∈L2,∃z:T.α,Cg x.2 y.2 (cst z))) ⟨.refl _,l5,[],_,rfl,((g2.trans g3).trans g4).free n5,.vec x5.2 trivial rfl (λi z e h1 h2=>by simp at h1),pl,prs,DL,cl,λx hx=>by simp at hx⟩ (λj σ H6 _ h=>aU.of ((x5.1.trans h.1) _ _ hts)) ?_ ?_⟩
   ·rintro j t σ H6 ht ⟨g6,lf,L2,o3',rfl,XU,rf,Uc,LR,LS,UR,cy2⟩
    obtain⟨hj,rt1⟩:=ct.get ht;have ed:=Zr hj;have hp:L[j]?=j? L[j]:=Ya hj;generalize L[j]=x1 at hp ed;simp only[Yb,Yh,hp,Option.map_some,Option.getD_some] at rt1
    have m1:x1∈L2++L.drop j:=by rw[ed];simp
    obtain⟨hL2,W6⟩:=vS Uc LR LS;obtain⟨hd1,s1,k1,ms1,es1,_⟩:=W6 x1 m1;obtain⟨x11,mx1⟩:=Uc.mon x1 m1;have O6:=x5.1.trans g6;have N5:=((g2.trans g3).trans g4).trans O6;refine⟨_,rfl,_,rfl,_,rfl,_,rfl,a,T,t,x,x1.1,y.1,x1.2,y.2,rfl,O.mono N5 ja,rt1.same O6,mx1,x11,by omega,rx.same (g4.trans O6),dy,by omega,Dv.trans (a:=x1.2) ⟨s1,ms1.kX,by rw[es1];grind⟩ sy,λlp L3 H7 g7 UO rp pl3 W7 W8 cy3=>?_⟩
    have eP:∀R:List (Nat×aF T.α),(L2++R++L.drop (j+1)).map (·.2)=L2.map (·.2)++R.map (·.2)++(L.drop (j+1)).map (·.2):=λR=>by rw[Yr,Yr]
    rw[ed,Yr,Z4] at LR LS;obtain⟨hP,eQ⟩:=QY LR W7 W8;rw[LS] at eQ;rw[<- eP] at hP eQ;have pl4:Ua T (L2++L3++L.drop (j+1)):=⟨λz hz=>by
     rcases List.mem_append.mp hz with h|h
     ·rcases List.mem_append.mp h with h|h
      ·exact Uc.mon z (Zk _ h)
      ·exact pl3.mon z h
     ·exact Uc.mon z (Yn _ (by rw[ed];exact Ye _ h))⟩
    have hlen:=(vS pl4 hP eQ).1;rw[Yk,Yk] at hlen;rw[dW] at rf rp;obtain⟨_,fs,ee,hfs,_,cf⟩:=id rf.cf;cases ee;obtain⟨_,ps,ee,hps,_,cp⟩:=id rp.cf;cases ee;refine⟨lf,lp,_,_,rfl,rfl,g7 _ _ hfs,hps,by rw[cf.len,cp.len,Yc,Yc,C?];omega,λl8 n8=>?_⟩
    generalize hX:upd H7 l8 _=H8;have x8:=cW n8 hX;clear hX;refine⟨(g6.trans g7).trans x8.1,l8,L2++L3,_,rfl,(N5.trans g7).free n8,?_,pl4,hP,eQ,λz hz w hw=>?_,λz hz=>?_⟩
    ·rw[Yr]
     exact QZ (cf.same (g7.trans x8.1)) (cp.same x8.1) x8.2
    ·rcases List.mem_append.mp hz with h|h
     ·rcases List.mem_append.mp h with h|h
      ·exact UR z (Zk _ h) w hw
      ·obtain⟨c,hc⟩:=UR x1 m1 w hw
       exact⟨c,Dv.trans (a:=z.2) (b:=x1.2) (by rw[<- W8];exact Ol W7 (List.mem_map.mpr ⟨z,h,rfl⟩)) hc⟩
     ·exact UR z (Yn _ (by rw[ed];exact Ye _ h)) w hw
    ·rcases List.mem_append.mp hz with h|h
     ·exact cy2 z h
     ·exact cy3 z h
   ·rintro σ H6 ⟨g6,lf,L2,o3',rfl,XU,rf,Uc,LR,LS,UR,cy2⟩
    rw[ct.len,List.drop_length,Zy] at Uc LR LS UR;refine⟨_,rfl,(g4.trans x5.1).trans g6,lf,L2,_,_,_,rfl,XU,rf,Uc,LR,LS,λz hz w hw=>?_⟩
    rw[Zx,hy] at hw;rcases List.mem_append.mp hw with h|h
    ·exact UR z hz w h
    ·rw[List.mem_singleton.mp h];exact cy2 z hz
  ·rintro σ H4 ⟨g4,lt,L,o1,o2,o3,rfl,O8,rt,pl,prs,DL,cl⟩
   rw[cg.len,Wl] at cl;obtain⟨hL,xx⟩:=vS pl prs DL;refine key (lt,o1,o2,o3) _ ⟨(g2.trans g3).trans g4,O8,L,rt,pl,prs,DL,λx hx=>?_⟩
   obtain⟨_,s,k,ms,es,cs⟩:=xx x hx;obtain⟨x1,mx⟩:=pl.mon x hx;exact Qn wd.cd d1 mx x1 ms es cs (λh ph hh=>comp x.2 ⟨s,ms.kX,by rw[es];grind⟩ (λy hy=>cl x hx y hy) h ph hh)
 rintro⟨lt,o1,o2,o3⟩ H3 ⟨g3,nl,L,rl,pl,prs,DL,hal⟩
 exact⟨_,rfl,q lt L H3 g3 nl rl pl prs DL hal⟩
end
section
variable {CG CS CT:o?} {k:Nat} {J:L2.Kind}
theorem Q0(h:a.Perm b):pr a=pr b:=by
 induction h with
 | nil=>rfl
 | cons x _ ih=>rw[sR,sR,ih]
 | swap x y l=>rw[sR,sR,sR,sR];grind
 | trans _ _ h1 h2=>rw[h1,h2]
abbrev Pt (T:cj):Type:=Md T.α×Nat
def GX {T:cj}(y:Pt T):El:=aT T (y.1.n+1) y.1.f
def Q2 {T:cj}(x y:Pt T):Prop:=x.1.n<y.1.n\/x.1.n=y.1.n/\v8 (GX x) (GX y)=true
structure LU {T:cj}(L:List (Pt T)):Prop where
 al:∀y∈L,ur T y.1/\1<=y.2
 ne:L.Pairwise λx y=>x.1.f≠y.1.f
def iQ {T:cj}(L:List (Pt T)):aF T.α:=pr (L.map λy=>y.1.f ^ y.2)
def Jg {T:cj}(H:Hp)(ok:o?->Prop)(vs:List V)(L:List (Pt T)):Prop:=vs.length=L.length/\∀(i:Nat) v y,vs[i]?=j? v->L[i]?=j? y->∃t r,v=.ref t/\ok t/\H t=j? (.tup [r,.int (y.2:Int)])/\Rep H ok r (GX y)
def vV:Str:="parts_of.<locals>.<lambda>"
inductive KG (J:L2.Kind)(Pp:o?)(vs:List V)(H:Hp)(Q:VK)(iS:XK):Prop where
 | mk (a:o?) (T:cj) (ws:List Nat) (v:V) (M:Md T.α) (c5:vs=[.ref a,v]) (c6:J (del H Pp) a T) (dS:Wd T ws) (fT:Rep (del H Pp) Any v (aT T (M.n+1) M.f)) (jv:T.d*M.n<=40) (pZ:qi vV Pp H) (wA:∀(D:o?) (vs:List V) (L:List (Pt T)) H',bO H Pp H'->qi vV Pp H'->H D=q?->H' D=j? (.lst vs)->Jg H' (λc=>H c=q?/\c≠D) vs L->LU L->L.Pairwise Q2->iQ L=M.f->Q (.ref D) H')
theorem Ud{L:List (Nat×aF T.α)}(pl:∀x∈L,1<=x.1/\Alg.bH x.2 x.1)(h:∀x∈L,∃(N:Md T.α) (e:Nat),ur T N/\1<=e/\x.2=N.f ^ e):∃PL:List (Pt T),L=PL.map (λy=>(y.1.n*y.2,y.1.f ^ y.2))/\∀y∈PL,ur T y.1/\1<=y.2:=by
 induction L with
 | nil=>exact⟨[],rfl,λy hy=>by simp at hy⟩
 | cons x L ih=>
  obtain⟨PL,e1,h1⟩:=ih (λy hy=>pl y (Ye _ hy)) λy hy=>h y (Ye _ hy)
  obtain⟨N,e,al,he,ex⟩:=h x Yg;have mx:=(pl x Yg).2;rw[ex] at mx;have en:=kU mx (eO N.mon e);refine⟨(N,e)::PL,?_,λy hy=>?_⟩
  ·rw[Z4,<- e1]
   congr 1
   exact Prod.ext en ex
  ·rcases List.mem_cons.mp hy with rfl|z
   ·exact⟨al,he⟩
   ·exact h1 y z
theorem Ue{PL:List (Pt T)}(h:(PL.map λy=>y.1.f ^ y.2).Pairwise lQ)(al:∀y∈PL,ur T y.1/\1<=y.2):PL.Pairwise λx y=>x.1.f≠y.1.f:=by
 rw[List.pairwise_map] at h;refine List.Pairwise.imp_of_mem (λ{x y} hx hy c=>?_) h
 intro e;obtain⟨_,ex⟩:=al x hx;obtain⟨_,ey⟩:=al y hy;have dv:∀n:Nat,1<=n->Dv x.1.f (x.1.f ^ n):=λn hn=>by
  obtain⟨m,rfl⟩:∃m,n=m+1:=⟨n-1,by omega⟩
  exact⟨x.1.f ^ m,x.1.mon.kX.pow m,by rw[aR]⟩
 rw[<- e] at c;have:=Aq x.1.mon (((c.rP (dv y.2 ey)).symm).rP (dv x.2 ex)) (Dv.refl _)
 have:=x.1.pos
 omega
def Jh {β:Type}(L:List β)(p:List Nat):List β:=p.filterMap λi=>L[i]?
theorem Ou(h:p.Perm (Yi L.length)):(Jh L p).Perm L:=by
 have e:(Yi L.length).filterMap (λi=>L[i]?)=L:=by
  have:∀n,n<=L.length->(Yi n).filterMap (λi=>L[i]?)=L.take n:=by
   intro n;induction n with
   | zero=>intro _;simp
   | succ n ih=>
    intro hn;rw[Z7,List.filterMap_append,ih (by omega),Zx]
    congr 1
  rw[this _ (Yd _),Wl]
 unfold Jh;have:=h.filterMap λi=>L[i]?
 rw[e] at this;exact this
theorem Ov {T:cj}{H:Hp}{ok:o?->Prop}{vs:List V}{L:List (Pt T)}(h:Jg H ok vs L):∀p:List Nat,(∀i∈p,i<L.length)->Jg H ok (p.map λi=>vs.getD i .d8) (Jh L p)
 | [],_=>⟨rfl,λi v y h=>by simp at h⟩
 | i::p,hp=>by
  obtain⟨h1,h2⟩:=Ov h p λj hj=>hp j (Ye _ hj)
  have hi:=hp i Yg;have e:Jh L (i::p)=L[i]::Jh L p:=by
   unfold Jh;rw[List.filterMap_cons_some (Ya hi)]
  rw[e];refine⟨by rw[Z4,Zf,Zf,h1],λj v y h3 h4=>?_⟩
  cases j with
  | zero=>
   cases h3;cases h4;refine h.2 i _ _ ?_ (Ya hi)
   show vs[i]?=j? (vs.getD i .d8)
   rw[Yb,Ya (by rw[h.1];exact hi)]
   rfl
  | succ j=>exact h2 j v y h3 h4
theorem Ji {T:cj}{L:List (Pt T)}{R:Pt T->Pt T->Prop}:∀p:List Nat,p.Pairwise (λi j=>∀x y,L[i]?=j? x->L[j]?=j? y->R x y)->(Jh L p).Pairwise R
 | [],_=>.nil
 | i::p,h=>by
  obtain⟨h1,h2⟩:=List.pairwise_cons.mp h;cases e:L[i]? with
  | none=>
   have:Jh L (i::p)=Jh L p:=by unfold Jh;rw[List.filterMap_cons_none e]
   rw[this];exact Ji p h2
  | some x=>
   have:Jh L (i::p)=x::Jh L p:=by unfold Jh;rw[List.filterMap_cons_some e]
   rw[this];refine List.pairwise_cons.mpr ⟨λy hy=>?_,Ji p h2⟩
   obtain⟨j,hj,ej⟩:=List.mem_filterMap.mp hy;exact h1 j hj x y e ej
def nsP {T:cj}(L:List (Pt T))(i:Nat):Int:=match L[i]? with
 | some y=>((y.1.n+1:Nat):Int)
 | none=>0
def esP {T:cj}(L:List (Pt T))(i:Nat):El:=match L[i]? with
 | some y=>GX y
 | none=>.num 0
theorem uK(h:L[i]?=j? y):nsP L i=((y.1.n+1:Nat):Int)/\esP L i=GX y:=by
 unfold nsP esP;rw[h];exact⟨rfl,rfl⟩
def W9 (K:bK):TE:=Sj (oW (YX (Ru K) (oW (Uu (Mw K) (DY 0) (tC (V.int 0))) wz)) (oW (Uu (Mw K) (DY 0) (tC (V.int 0))) wz))
theorem Jj {T:cj}{ws:List Nat}(wd:Wd T ws)(hht:T.ht<=5){L:GB}{Pp:o?}{pos:Pos}(hq:L.qual=vV)(ht:L.t=W9 K){σ:St}{H:Hp}{l:o?}{vs:List V}{PL:List (Pt T)}{Q:VK}(hσ:σ[2]?=j? (j? (.ref l)))(hl:H l=j? (.lst vs))(pt:Jg H (λb=>b≠Pp) vs PL)(ok:LU PL)(hlen:PL.length<=40)(xx:∀y∈PL,y.1.n<=40)(tq:qi vV Pp H)
  (q:∀D p H',bO H Pp H'->qi vV Pp H'->p.Perm (Yi PL.length)->(Jh PL p).Pairwise Q2->H D=q?->H' D=j? (.lst (p.map λi=>vs.getD i .d8))->Q (.ref D) H'):
  SM (Ez K L) (oW (DY 2) wz) (oW (GC Pp pos L) wz) σ H Q:=by
 refine⟨_,hσ,?_⟩
 show GC Pp pos L σ H λy H2=>Ez K L [.ref l] [y] H2 Q
 refine Ls (by rw[hq];exact tq) λf c H1 n1 tq1 here=>?_
 rw[hq] at tq1;obtain⟨pl,pg⟩:=pt;have hlP:l≠Pp:=λz=>by
  obtain⟨ps,h1,_⟩:=tq;rw[z,h1] at hl;cases hl
 have hl1:=n1 _ _ hlP hl;have at1:∀(i:Nat) y,PL[i]?=j? y->∃t r,vs[i]?=j? (.ref t)/\H1 t=j? (.tup [r,.int (y.2:Int)])/\Rep H1 (λb=>b≠Pp) r (GX y):=λi y hy=>by
  have hi:=(List.getElem?_eq_some_iff.mp hy).1;obtain⟨t,r,e,k1,k2,k3⟩:=pg i vs[i] y (Ya (by omega)) hy
  exact⟨t,r,by rw[<- e];exact Ya (by omega),n1 _ _ k1 k2,k3.Ge n1 λ_ z=>z⟩
 refine⟨l,f,c,vs,rfl,rfl,aU.of hl1,by omega,λi ks H'=>ay H1 H'/\ks.length=i/\∀j,j<i->∃a t r y,ks[j]?=j? (.ref a)/\H' a=j? (.tup [.int ((y.1.n+1:Nat):Int),r])/\PL[j]?=j? y/\Rep H1 (λb=>b≠Pp) r (GX y)/\vs[j]?=j? (.ref t),⟨.refl _,rfl,λj hj=>W3 hj (We _)⟩,?_,?_⟩
 ·rintro i v ks H' hv O1 ⟨g,_,hj⟩
  have hi:i<PL.length:=by rw[<- pl];exact(List.getElem?_eq_some_iff.mp hv).1
  have hy:=Ya hi;generalize PL[i]=y at hy;obtain⟨t,r,e1,e2,e3⟩:=at1 i y hy;rw[hv] at e1;cases e1;obtain⟨lr,rs,rfl,hrs,_,cr⟩:=id e3.cf;refine⟨⟨g _ _ here.1,g _ _ here.2⟩,?_⟩
  rw[ht];refine⟨_,rfl,t,_,_,_,rfl,rfl,iR.of (g _ _ e2),bF (j:=0) rfl,lr,_,rfl,.inl (aU.of (g _ _ hrs)),_,rfl,t,_,_,_,rfl,rfl,iR.of (g _ _ e2),bF (j:=0) rfl,aZ rfl,λp np=>?_⟩
  rw[cr.len];generalize hX:upd H' p _=H2;have x2:=cW np hX;clear hX;refine⟨g.trans x2.1,by rw[Yk,O1];rfl,λj hj'=>?_⟩
  by_cases hji:j<i
  ·obtain⟨a',t',r',y',k1,k2,k3⟩:=hj j hji
   exact⟨a',t',r',y',by rw[Yx (by omega)];exact k1,x2.1 _ _ k2,k3⟩
  ·obtain rfl:j=i:=by omega
   exact⟨p,t,.ref lr,y,by rw[<- O1,Zc],x2.2,hy,e3,hv⟩
 ·rintro ks H' ⟨g,O1,hj⟩
  refine⟨T.ht+1,nsP PL,esP PL,⟨by omega,λi hi=>?_,λi j hi hj' e=>?_,λi j hi hj' hij e=>?_⟩,λp D pp pw hD=>?_⟩
  ·obtain⟨a,t,r,y,k1,k2,k3,k4,k5⟩:=hj i hi
   obtain⟨e1,e2⟩:=uK k3;rw[e1,e2];exact⟨a,r,k1,iR.of k2,(k4.same g).any,cO T (by have:=xx y (Yo k3);omega) _⟩
  ·obtain⟨_,_,_,y,_,_,k3,_⟩:=hj i hi
   obtain⟨_,_,_,y',_,_,X3,_⟩:=hj j hj';obtain⟨e1,e2⟩:=uK k3;obtain⟨e1',e2'⟩:=uK X3;rw[e1,e1'] at e;rw[e2,e2'];have en:y.1.n=y'.1.n:=by omega
   unfold GX;rw[en];exact wd.smP _ _ _
  ·obtain⟨_,_,_,y,_,_,k3,_⟩:=hj i hi
   obtain⟨_,_,_,y',_,_,X3,_⟩:=hj j hj';rw[(uK k3).2,(uK X3).2] at e;have ef:=(F9 y.1.mon.dg y'.1.mon.dg e).2;have nw:=List.pairwise_iff_getElem.mp ok.ne;obtain⟨z1,z2⟩:=List.getElem?_eq_some_iff.mp k3;obtain⟨z1',z2'⟩:=List.getElem?_eq_some_iff.mp X3;rcases Nat.lt_or_gt_of_ne hij with z|z
   ·exact nw i j z1 z1' z (by rw[z2,z2'];exact ef)
   ·exact nw j i z1' z1 z (by rw[z2,z2'];exact ef.symm)
  ·have n2:bO H Pp H':=n1.trans (bO.of g)
   have tq2:=tq1.same g;have DB:H D=q?:=n2.fresh (by obtain⟨ps,h1,_⟩:=tq2;exact⟨_,h1⟩) hD
   have sn:=av hD (.lst (p.map λi=>vs.getD i .d8))
   rw[pl] at pp;refine q D p _ (n2.trans (bO.of sn)) (tq2.same sn) pp (Ji p (pw.imp λ{i j} h x y hx hy=>?_)) DB aq
   obtain⟨e1,e2⟩:=uK hx;obtain⟨e1',e2'⟩:=uK hy;unfold Tj at h;rw[e1,e1',e2,e2'] at h;by_cases cc:x.1.n=y.1.n
   ·rw[Wx (by rw[cc])] at h
    exact .inr ⟨cc,h⟩
   ·rw[Ww (by omega)] at h
    have:=Wz h
    exact .inl (by omega)
theorem GY {iH aV:o?}(B:c7 mg)(O:T_ P w K mg base k J){k':Nat}(hk':k+5<=k')(h4:4<=k')(hbm:BMain mg base)(kW:PySem.W.codeHdIn K iH aV=true)(xy:b8 P w K mg base (k+5) "part_and_times" dR (yz J))(vW:b8 P w K mg base k' "powers_of_parts" dR (GV J))(F:NS K mg "parts_of" iE dR iH):b8 P w K mg base (k'+1) "parts_of" dR (KG J aV):=by
 refine F.ok yr (λvs H Q E h=>?_) (λfa A outer s H vs Q E hr h=>?_)
 ·obtain⟨a,T,ws,v,M,rfl,_⟩:=h;rfl
 obtain⟨a,T,ws,v,M,rfl,ja,wd,rv,hdn,tq,q⟩:=h;have d1:=wd.d1;have mp:=M.pos;have hn:M.n<=40:=Ys (Zg _ d1) hdn;refine⟨_,ai (lO (i:=2) yr.nd rfl (z? rfl) (aK (N:=["power","tower"]) (sl:=[q?,j? 0]) (aj iE) ["tower","f","found"] rfl rfl (by decide +kernel)) rfl (bZ (K:=K) rfl (aG vW hr (af (pv 0) (af (pv 1) ah)))) (λ_ _ _ _ _=>(aA (i:=0) (Yk_ ["power","tower"]) rfl (z? rfl))) (λ_ _ _ _ _=>bf) (λ_ _ _ _ _=>(aG xy hr (af (pv 1) (af (pv 0) ah)))))
  (ao (aD (NQ (c:=iH) (P:=aV) (x:="pair") (k:=1) (K:=K) rfl (λ_ _ _ _ _ _ hr=>(q_ (af (aI (aN (K:=K) rfl) rfl B.len bR (af (bJ (eK (K:=K) rfl) (pv 0) au (λ_ _=>rfl)) ah)) (af (bJ (eK (K:=K) rfl) (pv 0) au (λ_ _=>rfl)) ah)))) (hr.mono (by first|decide|omega)) hbm rfl kW rfl B.sorted (af (pv 2) ah) (λ_ _ _ _=>rfl) rfl (by decide +kernel) rfl))),?_⟩
 have ds:=rM H aV;have jH:=O.mono ds ja;have rvH:=rv.same ds;have hb:=O.bd jH;have US:∃o,H aV=j? o:=by obtain⟨ps,h1,_⟩:=tq;exact⟨_,h1⟩
 refine bT (λl:o?=>[Rq a,j? v,Rq l]) (λl H2=>ay H H2/\GG λ(vs:List V) (PL:List (Pt T))=>A6q (H2 l=j? (.lst vs)) (Jg H2 (bL H) vs PL) (LU PL) (PL.length<=40) ((∀y∈PL,y.1.n<=40)) (iQ PL=M.f)) (λC key=>?_) ?_
 ·skip
  refine⟨_,rfl,_,rfl,a,T,ws,v,M,rfl,jH,wd,rvH,hdn,λlp L H1 g1 UO rl pl prs DL hal=>?_⟩
  obtain⟨PL,rfl,al⟩:=Ud pl.mon hal;obtain⟨hL,xx⟩:=vS pl prs DL;rw[Yc] at hL;rw[Z3] at prs DL;have hne:=Ue prs.cop al;have hdg:∀y∈PL,y.1.n*y.2<=M.n:=λy hy=>(xx _ (List.mem_map.mpr ⟨y,hy,rfl⟩)).1
  rw[dW,Yc,Yc] at rl;obtain⟨_,ps,ee,hps,_,cp⟩:=id rl.cf;cases ee;refine⟨lp,rfl,⟨_,aU.of hps⟩,λD hD=>?_⟩
  refine dH (xs:=ps) (λi ys H2=>qT (ay H1 H2) (ys.length=i) (∀(j:Nat) v y,ys[j]?=j? v->PL[j]?=j? y->∃t r,v=.ref t/\Off H1 D t/\H2 t=j? (.tup [r,.int (y.2:Int)])/\Rep H2 (Off H1 D) r (GX y))) ⟨av hD _,rfl,λj v y h=>by simp at h⟩ (λi ys H2 _ h=>aU.of (h.1 _ _ hps)) ?_ ?_
  ·rintro i m' x ys H2 hm' hi hx hy hlen ⟨g2,hyl,hj⟩
   obtain⟨hi',rx⟩:=cp.get hx;have hp:=Ya hi';generalize PL[i]=y at hp;have ym:=Yo hp;simp only[Yb,Yh,hp,Option.map_some,Option.getD_some] at rx
   obtain⟨aly,ey⟩:=al y ym;have hye:=hdg y ym;refine⟨_,rfl,_,rfl,a,T,x,y.1,y.2,rfl,O.mono (g1.trans g2) jH,wd.cd,rx.same g2,aly,ey,by omega,λt r H3 g3 nt et rr=>?_⟩
   have tD:t≠D:=λz=>by rw[z,hy] at nt;cases nt
   refine CW.emit hm' hi (by rw[cp.len,C?];omega) (g3 _ _ hy) hlen ⟨ay.aJ (g2.trans g3) hD _,by rw[Yk,hyl];rfl,λj v' y' h1 h2=>?_⟩
   by_cases hji:j<i
   ·rw[Yx (by omega)] at h1
    obtain⟨t',r',e1,e2,e3,e4⟩:=hj j v' y' h1 h2;exact⟨t',r',e1,e2,by rw[aH e2.2];exact g3 _ _ e3,(e4.same g3).imp λb o h kk=>⟨by rw[aH kk.2];exact h,kk⟩⟩
   ·have hjl:j<i+1:=by
     have:=(List.getElem?_eq_some_iff.mp h1).1
     rw[Yk,hyl] at this;exact this
    obtain rfl:j=i:=by omega
    rw[<- hyl,Zc] at h1;cases h1;rw[hp] at h2;cases h2;exact⟨t,r,rfl,⟨g2.free nt,tD⟩,by rw[aH tD];exact et,(rr.vg g2 hy).imp λb o h kk=>⟨by rw[aH kk.2];exact h,kk⟩⟩
  ·rintro ys H2 hy ⟨g2,hyl,hj⟩
   rw[cp.len] at hyl;refine dU key D ⟨g1.trans g2,ys,PL,hy,⟨hyl,λj v y h1 h2=>?_⟩,⟨al,hne⟩,by omega,λy hy=>?_,DL⟩ rfl
   ·obtain⟨t,r,e1,e2,e3,e4⟩:=hj j v y h1 h2
    exact⟨t,r,e1,g1.free e2.1,e3,e4.imp λb o h kk=>⟨h,g1.free kk.1⟩⟩
   ·have:=hdg y hy
    have:=Nat.le_mul_of_pos_right y.1.n (al y hy).2
    omega
 rintro l H2 ⟨g2,vs,PL,hl,pt,ok,hlen,xx,DL⟩;refine Jj wd hb.2 (L:=⟨_,_,_,_,_,_⟩) rfl rfl rfl hl ⟨pt.1,λi v y h1 h2=>?_⟩ ok hlen xx (tq.same g2) λD p H3 n3 tq3 pp pw hD eD=>?_
 ·obtain⟨t,r,e1,e2,e3,e4⟩:=pt.2 i v y h1 h2
  have nP:∀b,H b=q?->b≠aV:=λb hb z=>by obtain⟨o,ho⟩:=US;rw[z,ho] at hb;cases hb
  exact⟨t,r,e1,nP t e2,e3,e4.imp λb o h kk=>⟨h,nP b kk⟩⟩
 ·have n2:bO H aV H3:=(bO.of g2).trans n3
  have pm:=Ou pp;have nP:∀b,H b=q?->b≠aV:=λb hb z=>by obtain⟨o,ho⟩:=US;rw[z,ho] at hb;cases hb
  refine q D _ (Jh PL p) H3 n2 tq3 (g2.free hD) eD (Ov (H:=H3) ⟨pt.1,λi v y h1 h2=>?_⟩ p λi hi=>List.mem_range.mp (pp.mem_iff.mp hi)) ⟨λy hy=>ok.al y (pm.mem_iff.mp hy),(pm.pairwise_iff λh=>Ne.symm h).mpr ok.ne⟩ pw ?_
  ·obtain⟨t,r,e1,e2,e3,e4⟩:=pt.2 i v y h1 h2
   exact⟨t,r,e1,⟨e2,λz=>by rw[z,hD] at e3;cases e3⟩,n3 _ _ (nP t e2) e3,e4.imp λb o h kk=>⟨n3 _ _ (nP b kk) h,kk,λz=>by rw[z,hD] at h;cases h⟩⟩
  ·rw[<- DL]
   exact Q0 (pm.map _)
end
section
variable {k:Nat} {J:L2.Kind}
theorem EV (B:c7 mg)(O:TwE P w K mg base k J)(F:Src K mg "_law_product" nI Lu):b8 P w K mg base (k+1) "_law_product" Lu (i6 J):=by
 refine F.ok gv (λvs H Q E h=>?_) (λfa cdv A outer s H vs Q E hr h=>?_)
 ·obtain⟨a,T,u,v,n,m,s,t,rfl,_⟩:=h;rfl
 obtain⟨a,T,u,v,n,m,s,t,rfl,ja,ru,ds,rv,dt,hnm,q⟩:=h;obtain⟨p,vs,rfl,hp,_,C⟩:=id ru.cf;obtain⟨p',ws,rfl,Ff,_,C'⟩:=id rv.cf;have hb:=(O.bd ja).2;refine⟨_,ai (bX (PW.pt (mC (aS (gZ (K:=K) rfl hr.units) (pv 1) (bz ah) (a_ _)) (kZ (aS (gZ (K:=K) rfl hr.units) (pv 2) (bz ah) (a_ _)))))
   (ao (aD (bz ah)))
   (aW))
  (ai (lO (i:=3) gv.nd rfl (z? rfl) (aK (N:=["_law_k","_law_tower_here"]) (sl:=[q?,j? 0]) (aj nI) Lq3 rfl rfl (by decide +kernel)) rfl (bI rfl B.range (af (aM di (aM d9 (aI (aN (K:=K) rfl) rfl B.len bR (af (pv 1) ah)) (aI (aN (K:=K) rfl) rfl B.len bR (af (pv 2) ah))) au) ah)) (λ_ _ _ _ _=>(aA (i:=0) (Yk_ ["_law_k","_law_tower_here"]) rfl (z? rfl))) (λ_ _ _ _ _=>bf) (λ_ _ _ _ _=>(aO O.zero hr (pv 1) )))
  (ai (cE D? rfl (kF (K:=K) rfl rfl B.enumerate (af (pv 1) ah)) (cU (n:=2) (K:=K) rfl rfl (aQ (aA (i:=4) gv.nd rfl (z? rfl)) (aQ (aA (i:=5) gv.nd rfl (z? rfl)) cT)))
   (ao (cE D? rfl (kF (K:=K) rfl rfl B.enumerate (af (pv 2) ah)) (cU (n:=2) (K:=K) rfl rfl (aQ (aA (i:=6) gv.nd rfl (z? rfl)) (aQ (aA (i:=7) gv.nd rfl (z? rfl)) cT)))
    (ao (mD (bh O.plus hr (pv 0) (af (bJ (aP (K:=K) rfl) (pv 3) (aM d9 (pv 4) (pv 6)) (λ_ _=>rfl)) (af (bh O.times hr (pv 0) (af (pv 5) (af (pv 7) ah))) ah))) (uc (pv 3) (aM d9 (pv 4) (pv 6)) set_list))))))
  (ao (aD (pv 3))))),?_⟩
 refine⟨_,rfl,aZ rfl,λl0 h0=>?_⟩
 have k0:=av h0 (.lst []);have nil:n=0\/m=0->∀H2,ay H H2->∀l,H2 l=q?->Q (.ref l) (upd H2 l (.lst [])):=λz H2 g2 l hl=>by
  refine q _ _ (g2.trans (av hl _)) ?_
  rw[Wx z];exact Cf.nil.rep aq (g2.free hl)
 refine tT (ru.same k0) ((Cf.nil (ok:=Any) (e:=λ_=>.num 0)).rep aq trivial) (cO T (by omega) s) (nu (n:=0) (by omega) λ_=>.num 0) (by omega) (by omega) (λe=>?_) (λe=>?_)
 ·refine⟨_,rfl,fE ?_⟩
  have n0:=(gQ e).1;exact⟨aZ rfl,λl hl=>nil (.inl n0) _ k0 l hl⟩
 ·have n0:n≠0:=λz=>e (by rw[z];rfl)
  refine⟨_,rfl,cX ?_⟩
  refine⟨_,rfl,aZ rfl,λl1 h1=>?_⟩
  have k1:=k0.trans (av h1 (.lst []));refine tT (rv.same k1) ((Cf.nil (ok:=Any) (e:=λ_=>.num 0)).rep aq trivial) (cO T (by omega) t) (nu (n:=0) (by omega) λ_=>.num 0) (by omega) (by omega) (λe=>?_) (λe=>?_)
  ·refine⟨_,rfl,fE ?_⟩
   have m0:=(gQ e).1;exact⟨aZ rfl,λl hl=>nil (.inr m0) _ k1 l hl⟩
  ·have m0:m≠0:=λz=>e (by rw[z];rfl)
   refine⟨_,rfl,cX ?_⟩
   clear nil;rw[Ww (by omega)] at q
   refine⟨_,rfl,p,_,rfl,.inl (aU.of (k1 _ _ hp)),_,rfl,p',_,rfl,.inl (aU.of (k1 _ _ Ff)),_,_,rfl,rfl,_,_,rfl,rfl,_,rfl,by rw[C.len,C'.len];omega,by rw[C.len,C'.len];omega,λD hD=>?_⟩
   rw[C.len,C'.len];have en:((n:Int)+(m:Int)-1).toNat=n+m-1:=by omega
   rw[en];refine mH (J:=J) (T:=T) O.mono (O.mono k1 ja) hD (by omega) (λy H2 R j2 h2=>⟨_,rfl,a,rfl,⟨T,j2⟩,λ_ h=>h,a,T,rfl,j2,h2⟩) λys H2 g2 hy cy=>?_
   have oh:=k1.trans g2;have DB:H D=q?:=k1.free hD;have cy:Cf H2 (Off H D) ys (n+m-1) λi=>T.enc (rJ s t 0 i):=cy.imp λb o h kk=>⟨h,k1.free kk.1,kk.2⟩
   refine⟨_,rfl,p,rfl,⟨_,aU.of (oh _ _ hp)⟩,kG (st:=0) (xs:=vs) (λi σ H3=>ay H H3/\Tt λ(ps:List V) (o1 o2 o3 o4:Option V)=>qT (σ=[Rq a,Rq p,Rq p',Rq D,o1,o2,o3,o4]) (H3 D=j? (.lst ps)) (Cf H3 (Off H D) ps (n+m-1) λx=>T.enc (rJ s t i x)))
    ⟨oh,ys,_,_,_,_,rfl,hy,cy⟩ (λi σ H3 _ h=>aU.of (h.1 _ _ hp)) ?_ ?_⟩
   ·rintro i x σ H3 r hx ⟨gg,ps,o1,o2,o3,o4,rfl,eP,cP⟩ hr'
    obtain⟨hi,rx⟩:=C.get hx;have gr:=av hr' (.tup [.int ((0+i:Nat):Int),x]);have g3:=gg.trans gr;refine⟨r,_,rfl,iR.of aq,rfl,_,_,rfl,_,_,rfl,rfl,?_⟩
    refine⟨_,rfl,p',rfl,⟨_,aU.of (g3 _ _ Ff)⟩,kG (st:=0) (xs:=ws) (λj σ H5=>ay H H5/\VT λ(ps:List V) (o3 o4:Option V)=>qT (σ=[Rq a,Rq p,Rq p',Rq D,Iq ((0+i:Nat)),j? x,o3,o4]) (H5 D=j? (.lst ps)) (Cf H5 (Off H D) ps (n+m-1) λx=>T.enc (pA s t i j x)))
      ⟨g3,ps,_,_,rfl,gr _ _ eP,(cP.same gr).congr λx hx=>by rw[uo]⟩ (λj σ H5 _ h=>aU.of (h.1 _ _ Ff)) ?_ ?_⟩
    ·rintro j y σ H5 r5 hy ⟨g5,qs,o3,o4,rfl,eQ,cQ⟩ VU
     obtain⟨hj,ry⟩:=C'.get hy;have kr:=av VU (.tup [.int ((0+j:Nat):Int),y]);have g6:=g5.trans kr;refine⟨r5,_,rfl,iR.of aq,rfl,_,_,rfl,_,_,rfl,rfl,?_⟩
     have hij:i+j<n+m-1:=by omega
     obtain⟨c,hc,rc⟩:=cQ.at_ (i+j) hij;have eij:((0+i:Nat):Int)+((0+j:Nat):Int)=((i+j:Nat):Int):=by omega
     refine⟨_,rfl,a,rfl,⟨T,O.mono g6 ja⟩,_,rfl,_,rfl,_,rfl,_,_,rfl,rfl,D,_,_,_,rfl,rfl,aU.of (kr _ _ eQ),by rw[eij];exact bF hc,?_⟩
     refine⟨_,rfl,a,rfl,⟨T,O.mono g6 ja⟩,_,rfl,_,rfl,λ_ h=>h,a,T,x,y,s.c i,t.c j,rfl,O.mono g6 ja,rx.same g6,ry.same g6,λr6 H6 vI rr=>?_⟩
     have g7:=g6.trans vI;refine⟨λ_ h=>vI _ _ h,a,T,c,r6,pA s t i j (i+j),_,rfl,O.mono g7 ja,(rc.same (kr.trans vI)).any,rr.any,λr7 H7 GK Cp=>?_⟩
     have g8:=g7.trans GK;have VV:H7 D=j? (.lst qs):=GK _ _ (vI _ _ (kr _ _ eQ));refine⟨_,rfl,_,rfl,_,rfl,_,_,rfl,rfl,D,_,_,i+j,rfl,rfl,VV,by rw[cQ.len,eij];exact Ac hij,?_⟩
     refine⟨g8.aJ DB _,qs.set (i+j) r7,_,_,rfl,aq,?_⟩
     have VW:=cQ.same ((kr.trans vI).trans GK);refine(((VW.set hij (Cp.vg g7 (vI _ _ (kr _ _ eQ)))).congr λx hx=>?_).upd)
     rw[uq];by_cases z:x=i+j
     ·rw[Wx z,Wx z,z]
     ·rw[Ww z,Ww z]
    ·rintro σ H5 ⟨g5,qs,o3,o4,rfl,eQ,cQ⟩
     rw[C'.len] at cQ;exact⟨g5,qs,_,_,_,_,rfl,eQ,cQ.congr λx hx=>by rw[wH dt]⟩
   ·rintro σ H3 ⟨gg,ps,o1,o2,o3,o4,rfl,eP,cP⟩
    rw[C.len] at cP;refine⟨_,rfl,q _ _ gg ((cP.Ek.congr λi hi=>?_).rep eP DB)⟩
    rw[Ad ds]
theorem DM (B:c7 mg)(F:Src K mg "_law_copy" vF IW):∀n,b8 P w K mg base n "_law_copy" IW (kI n)
 | 0=>F.none.imp λvs H Q E h=>by obtain⟨v,e,m,_,h,_⟩:=h;omega
 | n+1=>by
  have Bp:=DM B F n;refine F.ok LC (λvs H Q E h=>?_) (λfa cdv A outer s H vs Q E hr h=>?_)
  ·obtain⟨v,e,m,rfl,_⟩:=h;rfl
  obtain⟨v,e,m,rfl,hm,fl,r,q⟩:=h;obtain rfl:n=m:=by omega
  refine⟨_,ai (bX (cK (aI (cC (K:=K) rfl) rfl B.isinstance bW (af (pv 0) (af (gh (v:=.ty "list") rfl B.list qa rfl) ah))))
   (ao (aD (cA (aK (N:=["_law_one"]) (sl:=[q?]) (aj vF) IW rfl rfl (by decide +kernel)) rfl (bZ (K:=K) rfl (pv 0)) (λ_ _ _ _ _=>(aA (i:=0) (Yk_ ["_law_one"]) rfl (z? rfl))) (λ_ _ _ _ _=>bf) (λ_ _ _ _ _=>(aG Bp hr (af (pv 0) ah))))))
   (aW))
  (ao (aD (pv 0))),?_⟩
  cases fl with
  | num i=>
   cases r;refine⟨_,rfl,_,"int","list",false,rfl,.int i,by with_unfolding_all rfl,_,rfl,cX ?_⟩
   exact⟨_,rfl,q _ _ (ay.refl H) (.num i) λn d e=>by cases e⟩
  | @vec n l hl fe=>
   rw[dW] at r q;obtain⟨a,vs,rfl,ha,_,C⟩:=r.cf;refine⟨_,rfl,_,"list","list",true,rfl,.lst (aU.of ha),rfl,_,rfl,fE ?_⟩
   refine⟨_,rfl,a,rfl,⟨_,aU.of ha⟩,λD hD=>?_⟩
   refine dH (xs:=vs) (λi ys H2=>ay H H2/\Cf H2 (Off H D) ys i λi=>l.getD i (.num 0)) ⟨av hD _,.nil⟩ (λi ys H2 _ h=>aU.of (h.1 _ _ ha)) ?_ ?_
   ·rintro i m x ys H2 hm hi hx hy hlen ⟨gg,cy⟩
    obtain⟨hi',rx⟩:=C.get hx;refine⟨_,rfl,x,_,n,rfl,rfl,?_,rx.same gg,λr H3 g3 rr _=>?_⟩
    ·have:l.getD i (.num 0)∈l:=by
      rw[Yb,Ya hi'];exact Za hi'
     exact fe _ this
    ·refine CW.emit hm hi (by rw[C.len,C?];omega) (g3 _ _ hy) hlen ⟨ay.aJ (gg.trans g3) hD _,?_⟩
     exact((cy.same g3).push (rr.vg gg hy)).upd
   ·rintro ys H2 hy ⟨gg,cy⟩
    rw[C.len] at cy;refine q _ _ gg (cy.Ek.rep hy hD) (λn d e=>?_)
    refine⟨D,ys,rfl,hD,hy,?_⟩
    obtain⟨e1,e2⟩:=gQ e;rw[<- e1];exact cy.congr e2
end
section
variable {CG CS CT:o?} {k:Nat}
def Fj {T:cj}(N:Md T.α):El:=aT T (N.n+1) N.f
inductive KH (CG CS CT:o?)(vs:List V)(H:Hp)(Q:VK)(iS:XK):Prop where
 | mk (b a wl:o?) (T:cj) (ws:List Nat) (c5:vs=[.ref b,.ref a,.ref wl]) (c6:wM H b) (dS:mh CG CS CT (del H b) a T) (fT:H wl=j? (.lst (wv ws))) (jv:wl≠b) (pZ:Wd T ws) (wA:ws.length<=5) (Fe:T.d<=y9 T.p) (M3:∀(t:o?) (u v:V) (S:List (Md T.α)) (M:Md T.α) H',bO H b H'->wM H' b->H t=q?->H' t=j? (.tup [u,v])->Rep H' (bL H) u (.vec (S.map Fj))->Rep H' (bL H) v (Fj M)->(∀N∈S,Dv N.f M.f/\N.n<=M.n)->T.d*M.n<=12->S.length<=8->Q (.ref t) H')
structure KI (H:Hp)(b ls:o?)(T:cj)(H':Hp)(vq:V)(sv:List V)(S:List (Md T.α))(n:Nat)(f:aF T.α):Prop where
 nw:bO H b H'
 KJ:wM H' b
 hls:H' ls=j? (.lst sv)
 cs:Cf H' (λc=>H c=q?/\c≠ls) sv S.length (λj=>(S.map Fj).getD j (.num 0))
 rq:Rep H' (λc=>H c=q?/\c≠ls) vq (aT T (n+1) f)
theorem KI.on{S:List (Md T.α)}{f:aF T.α}(h:KI H b ls T H' vq sv S n f)(yZ:∀c,H c=q?->c≠b)(Fo:H ls=q?)(g:bO H' b H2)(b2:wM H2 b):KI H b ls T H2 vq sv S n f:=
 ⟨h.nw.trans g,b2,g _ _ (yZ ls Fo) h.hls,h.cs.Ge g λc k=>yZ c k.1,h.rq.Ge g λc k=>yZ c k.1⟩
theorem pS(h:wM H b)(g:ay H H'):wM H' b:=by obtain⟨x,y,e⟩:=h;exact⟨x,y,g _ _ e⟩
theorem KI.same(h:KI H b ls T H' vq sv S n f)(yZ:∀c,H c=q?->c≠b)(Fo:H ls=q?)(g:ay H' H2):KI H b ls T H2 vq sv S n f:=h.on yZ Fo (bO.of g) (pS h.KJ g)
theorem took(h:upd H b (.lst [.int g,.int r])=H'):bO H b H'/\wM H' b:=by
 rw[<- h];exact⟨(bO.refl H b).upd _,_,_,aq⟩
theorem Q3(h1:0<=m)(h2:m<=100):Bd 9000 m:=Bd.mono (m:=64) (Bd.small (by omega) (by omega)) (by decide)
theorem Q4(h:t1 σ H λv H1=>t2 σ H1 λu H2=>[v,u].length<=K?/\∀p,H2 p=q?->D.rt (.ref p) (upd H2 p (.tup [v,u]))):R5 (Sj (oW t1 (oW t2 wz))) D σ H:=h
theorem Q5(h:t σ H λv H1=>[v].length<=K?/\∀l,H1 l=q?->Q (.ref l) (upd H1 l (.lst [v]))):Sk (oW t wz) σ H Q:=h
def W_ (T:cj):Md T.α:=Al 1 (by decide) λ_=>1
theorem zB(mono:∀ {H H':Hp},ay H H'->J H a T->J H' a T)(hσ:σ[1]?=j? (j? (.ref a)))(ja:J H a T)(q:∀r H',ay H H'->Rep H' (bL H) r (Fj (W_ T))->Q r H'):
  Sk (oW (P7 (JJ J) (Dj J) (DY 1) wz) (oW (P7 (JJ J) (Dj J) (DY 1) wz) wz)) σ H Q:=by
 refine⟨_,hσ,a,rfl,⟨T,ja⟩,λ_ h=>h,a,T,rfl,ja,λr1 H1 g1 t_=>?_⟩
 have j1:=mono g1 ja;refine⟨_,hσ,a,rfl,⟨T,j1⟩,λ_ h=>h,a,T,rfl,j1,λr2 H2 g2 yt=>⟨aZ rfl,λl n=>?_⟩⟩
 have sn:=av n (.lst [r1,r2]);refine q (.ref l) _ ((g1.trans g2).trans sn) ?_
 exact(Cf.push (n:=1) (e:=λj=>T.enc ((W_ T).f.c j)) (Cf.push (n:=0) .nil ((t_.same g2).same sn)) ((yt.same sn).imp λc o h k=>⟨h,g1.free k⟩):Cf _ (bL H) (([]++[r1])++[r2]) 2 _).rep aq ((g1.trans g2).free n)
theorem Jk (B:c7 mg)(O:TwE P w K mg base 29 (mh CG CS CT))(fK:b8 P w K mg base 1 "_law_take" IT (EO K))(kT:b8 P w K mg base 8 "_law_element" GD (I_ K 7))(Bb:b8 P w K mg base 35 "_law_part" UC (Ja CG CS CT))(sA:b8 P w K mg base 30 "_law_product" Lu (i6 (mh CG CS CT)))(F:Src K mg "_law_built" sU NT):b8 P w K mg base 36 "_law_built" NT (KH CG CS CT):=by
 refine F.ok dP (λvs H Q E h=>?_) (λfa cdv A outer s H vs Q E hr h=>?_)
 ·obtain⟨b,a,wl,T,ws,rfl,_⟩:=h;rfl
 obtain⟨b,a,wl,T,ws,rfl,hb,ja,hw,hne,wd,hl,hlim,q⟩:=h;refine⟨_,ai (aE (i:=3) dP.nd rfl (z? rfl) (aM kD (bJ (aP (K:=K) rfl) (bz (af au (af au ah))) (C_ C5 rfl B.int Ec (af (pY yd (aY (K:=K) rfl (pv 1)) au (a_ _)) ah)) (λ_ _=>rfl)) (aO O.degree hr (pv 1) )))
  (ai (aE (i:=4) dP.nd rfl (z? rfl) (bz ah))
  (ai (aE (i:=5) dP.nd rfl (z? rfl) (bz (af (aO O.one hr (pv 1) ) ah)))
  (ai (cE D? rfl (bI rfl B.range (af (aM d9 au (aG fK hr (af (pv 0) (af au ah)))) ah)) (aA (i:=6) dP.nd rfl (z? rfl))
   (ai (aE (i:=7) dP.nd rfl (z? rfl) (aM d9 au (aG fK hr (af (pv 0) (af (aI (C4 rfl) rfl B.«min» MJ (af au (af (pv 3) ah))) ah)))))
   (ai (aE (i:=8) dP.nd rfl (z? rfl) (bJ (aP (K:=K) rfl) (bz (af au (af au (af au (af au (af (aY (K:=K) rfl (pv 1)) ah)))))) (aG fK hr (af (pv 0) (af au ah))) (λ_ _=>rfl)))
   (ai (aE (i:=9) dP.nd rfl (z? rfl) (aM jw (cA (aK (N:=Lq9) (sl:=[q?,j? 0,j? 1,j? 2]) (aj sU) Lq1 rfl rfl (by decide +kernel)) rfl (bI rfl B.range (af (pv 7) ah)) (λ_ _ _ _ _=>(aA (i:=0) (Yk_ Lq9) rfl (z? rfl))) (λ_ _ _ _ _=>bf) (λ_ _ _ _ _=>(aG kT hr (af (pv 1) (af (aY (K:=K) rfl (pv 2)) (af (pv 3) ah)))))) (bz (af (aO O.one hr (pv 1) ) ah))))
   (ai (bX (aS oV (aG fK hr (af (pv 0) (af au ah))) au (a_ _))
    (ao (aE (i:=9) dP.nd rfl (z? rfl) (aG Bb hr (af (pv 0) (af (pv 1) (af (pv 2) (af (pv 7) ah)))))))
    (aW))
   (ao (bX (aS Rk (aM d9 (aM di (aI (aN (K:=K) rfl) rfl B.len bR (af (pv 5) ah)) au) (aM dZ (pv 8) (aM di (aI (aN (K:=K) rfl) rfl B.len bR (af (pv 9) ah)) au))) (pv 3) (a_ _))
    (ai (jS (u9 S? H! I! eW (pv 4) (af (pv 9) ah)))
    (ao (cE D? rfl (bI rfl B.range (af (pv 8) ah)) (aA (i:=10) dP.nd rfl (z? rfl))
     (ao (aE (i:=5) dP.nd rfl (z? rfl) (aG sA hr (af (pv 1) (af (pv 5) (af (pv 9) ah)))))))))
    (aW))))))))
  (ai (bX (aS (gZ (K:=K) rfl hr.units) (pv 4) (bz ah) (a_ _))
   (ao (aD (q_ (af (bz (af (bz (af (aO O.one hr (pv 1) ) (af (aO O.one hr (pv 1) ) ah))) ah)) (af (bz (af (aO O.one hr (pv 1) ) (af (aO O.one hr (pv 1) ) ah))) ah)))))
   (aW))
  (ao (aD (q_ (af (pv 4) (af (pv 5) ah))))))))),?_⟩
 have hbd:=O.bd ja;have d1:=wd.d1;have LI:∀ {H2:Hp},bO H b H2->mh CG CS CT H2 a T:=λg=>(ja.mono g.del).mono (rM _ _)
 have hb0:∃o,H b=j? o:=by obtain⟨g,r,e⟩:=hb;exact⟨_,e⟩
 have yZ:∀c,H c=q?->c≠b:=λc k z=>by obtain⟨o,e⟩:=hb0;rw[z,e] at k;cases k
 have bx:∀ {H2:Hp},wM H2 b->∃o,H2 b=j? o:=λh=>by obtain⟨g,r,e⟩:=h;exact⟨_,e⟩
 have bs:∀ {H2 H3:Hp},wM H2 b->ay H2 H3->wM H3 b:=λh g=>by obtain⟨x,y,e⟩:=h;exact⟨x,y,g _ _ e⟩
 obtain⟨room,hroom1,hroom2,hroomE⟩:∃room:Nat,1<=room/\T.d*room<=12/\(if T.p<8 then 12 else 8) / T.d=room:=by
  refine⟨_,?_,?_,rfl⟩
  ·unfold y9 at hlim
   refine(Nat.le_div_iff_mul_le (by omega)).mpr ?_
   split at hlim <;> rename_i c
   ·rw[Wx c];omega
   ·rw[Ww c];omega
  ·refine Ys (Nat.mul_div_le _ _) ?_
   split <;> omega
 refine bT (λ_:Unit=>[Rq b,Rq a,Rq wl,Iq (room),q?,q?,q?,q?,q?,q?,q?]) (λ_ H2=>ay H H2) (λC key=>?_) ?_
 ·skip
  refine⟨aZ rfl,λl1 n1=>?_⟩
  generalize hX:upd H l1 _=H1;have x1:=cW n1 hX;clear hX;have j1:=LI (bO.of x1.1);obtain⟨C',dx,fs,qv,hcl,hna,hlk⟩:=O.fld j1;refine⟨_,rfl,a,C',dx,_,_,rfl,qv,hcl,hna,hlk,_,_,rfl,rfl,.inr ⟨_,rfl,l1,_,_,.int (((if T.p<8 then 12 else 8:Nat):Int)),rfl,rfl,aU.of x1.2,?_,_,rfl,a,rfl,⟨T,j1⟩,λ_ h=>h,a,T,rfl,j1,λH2 g2=>⟨_,_,rfl,rfl,(Bd.small (x:=(T.d:Int)) (by omega) (by omega)).dv (by omega),?_⟩⟩⟩
  ·by_cases c:T.p<8
   ·rw[Wx (Wy (by omega)),Wx c];rfl
   ·rw[Ww (λz=>c (by have:=Wz z;omega)),Ww c];rfl
  ·refine dU key () (x1.1.trans g2) ?_
   show List.set _ _ (j? (V.int (((if T.p<8 then 12 else 8:Nat):Int).fdiv (T.d:Int))))=_
   rw[zJ,hroomE];rfl
 rintro _ H2 g2;refine bT (λl:o?=>[Rq b,Rq a,Rq wl,Iq (room),Rq l,q?,q?,q?,q?,q?,q?]) (λl H3=>qT (ay H H3) (H l=q?) (H3 l=j? (.lst []))) (λC key=>⟨aZ rfl,λl3 n3=>dU key l3 ⟨g2.trans (av n3 _),g2.free n3,aq⟩ rfl⟩) ?_
 rintro ls H3 ⟨g3,Fo,hls⟩;have lsb:ls≠b:=yZ ls Fo;refine bT (λv:V=>[Rq b,Rq a,Rq wl,Iq (room),Rq ls,j? v,q?,q?,q?,q?,q?]) (λv H4=>qT (ay H H4) (H4 ls=j? (.lst [])) (Rep H4 (λc=>H c=q?/\c≠ls) v (aT T 1 1))) (λC key=>?_) ?_
 ·skip
  have j3:=LI (bO.of g3);refine⟨_,rfl,a,rfl,⟨T,j3⟩,λ_ h=>h,a,T,rfl,j3,λr4 H4 g4 Jb=>⟨aZ rfl,λl n=>dU key (.ref l) ⟨g3.trans (g4.trans (av n _)),(g4.trans (av n _)) _ _ hls,?_⟩ rfl⟩⟩
  have Xa:∀c,H3 c=q?->c≠ls:=λc hc z=>by rw[z,hls] at hc;cases hc
  exact(Cf.push (n:=0) (e:=λj=>T.enc ((1:aF T.α).c j)) .nil ((Jb.same (av n _)).imp λc o h kk=>⟨h,g3.free kk,Xa c kk⟩):Cf _ (λc=>H c=q?/\c≠ls) ([]++[r4]) 1 _).rep aq ⟨g3.free (g4.free n),Xa l (g4.free n)⟩
 rintro vp H4 ⟨g4,abI,rp4⟩;refine bT (λi:V×Option V×Option V×Option V×Option V×Option V=>[Rq b,Rq a,Rq wl,Iq (room),Rq ls,j? i.1,i.2.1,i.2.2.1,i.2.2.2.1,i.2.2.2.2.1,i.2.2.2.2.2]) (λi H5=>Xz λ(sv:List V) (S:List (Md T.α)) (n:Nat) (f:aF T.α)=>Tr (KI H b ls T H5 i.1 sv S n f) (S.length<=4) (Alg.bH f n) (n<=room) ((∀N∈S,Dv N.f f/\N.n<=n))) (λC key=>?_) ?_
 ·skip
  obtain⟨g',r',e'⟩:=pS hb g4;refine⟨_,rfl,b,g',r',4,rfl,e',by omega,Q3 (by omega) (by omega),λd' g1 r1 d0 d1=>⟨_,_,rfl,rfl,_,rfl,by omega,by omega,?_⟩⟩
  obtain⟨cnt,rfl⟩:=Y3 d0;generalize hX:upd H4 b _=H5;obtain⟨n5,b5⟩:=took hX;clear hX;rw[show((1:Int)+(cnt:Int)).toNat=1+cnt by omega]
  have bu5:KI H b ls T H5 vp [] [] 0 1:=KI.on ⟨bO.of g4,pS hb g4,abI,.nil,rp4⟩ yZ Fo n5 b5;refine dF (λi σ H6=>aak λ(vq:V) (sv:List V) (S:List (Md T.α)) (n:Nat) (f:aF T.α) (o1 o2 o3 o4 o5:Option V)=>A6q (σ=[Rq b,Rq a,Rq wl,Iq (room),Rq ls,j? vq,o1,o2,o3,o4,o5]) (KI H b ls T H6 vq sv S n f) (S.length<=i) (Alg.bH f n) (n<=room) ((∀N∈S,Dv N.f f/\N.n<=n))) ⟨vp,[],[],0,1,_,_,_,_,_,rfl,bu5,Yd _,nC,Y2 _,λN hN=>by simp at hN⟩ ?_ ?_
  ·rintro i σ H6 hi ⟨vq,sv,S,n,f,o1,o2,o3,o4,o5,rfl,Hl,hSi,mf,hn,hS⟩
   show FJ _ _ _ _ _
   refine bT (λm:Nat=>[Rq b,Rq a,Rq wl,Iq (room),Rq ls,j? vq,j? (.int (0+(i:Int))),Iq (m),o3,o4,o5]) (λm H7=>qT (KI H b ls T H7 vq sv S n f) (1<=m) (m<=4)) (λC key=>?_) ?_
   ·skip
    refine⟨_,rfl,_,rfl,_,_,rfl,?_⟩
    obtain⟨mm,emm,m1,m2⟩:∃mm:Nat,(if (room:Int)<4 then (room:Int) else 4)=(mm:Int)/\1<=mm/\mm<=4:=by
     by_cases c:(room:Int)<4
     ·exact⟨room,by rw[Wx c],hroom1,by omega⟩
     ·exact⟨4,by rw[Ww c];rfl,by decide,by decide⟩
    rw[emm];obtain⟨g',r',e'⟩:=Hl.KJ;refine⟨b,g',r',(mm:Int),rfl,e',by omega,Q3 (by omega) (by omega),λd' g1 r1 d0 d1=>⟨_,_,rfl,rfl,?_⟩⟩
    obtain⟨d,rfl⟩:=Y3 d0;generalize hX:upd H6 b _=H7;obtain⟨n7,b7⟩:=took hX;clear hX;exact dU key (1+d) ⟨Hl.on yZ Fo n7 b7,by omega,by omega⟩ (by rw[Wt];rfl)
   rintro m H7 ⟨Q6,m1,m2⟩;refine bT (λe:Nat=>[Rq b,Rq a,Rq wl,Iq (room),Rq ls,j? vq,j? (.int (0+(i:Int))),Iq (m),Iq (e),o4,o5]) (λe H8=>qT (KI H b ls T H8 vq sv S n f) (1<=e) (e<=50)) (λC key=>?_) ?_
   ·skip
    have pp:=bM T.pr;obtain⟨C',dx,fs,qv,hcl,hna,hlk⟩:=O.fld (LI Q6.nw);refine⟨_,rfl,a,C',dx,_,_,rfl,qv,hcl,hna,hlk,aZ rfl,λl n'=>?_⟩
    generalize hX:upd H7 l _=H8;have x8:=cW n' hX;clear hX;have KL:=Q6.same yZ Fo x8.1;obtain⟨g',r',e'⟩:=KL.KJ;refine⟨_,rfl,b,g',r',5,rfl,e',by omega,Q3 (by omega) (by omega),λd' g1 r1 d0 d1=>?_⟩
    obtain⟨d,rfl⟩:=Y3 d0;generalize hX:upd H8 b _=H9;obtain⟨n9,b9⟩:=took hX;clear hX;obtain⟨e0,he,e1,e2⟩:=pick (xs:=[.int 1,.int 1,.int 2,.int 3,.int (T.p:Int)]) (i:=(d:Int)) (P:=λn=>1<=n/\n<=50) (by omega) (by show(d:Int)<5;omega) (by
     intro v hv;simp only[Wf,Z5,or_false] at hv
     rcases hv with rfl|rfl|rfl|rfl|rfl
     ·exact⟨_,rfl,by decide,by decide⟩
     ·exact⟨_,rfl,by decide,by decide⟩
     ·exact⟨_,rfl,by decide,by decide⟩
     ·exact⟨_,rfl,by decide,by decide⟩
     ·exact⟨_,rfl,by omega,by omega⟩)
    have lb:l≠b:=λz=>by obtain⟨o,eo⟩:=bx Q6.KJ;rw[z,eo] at n';cases n'
    obtain⟨en,rfl⟩:=Y3 (show 0<=e0 by omega)
    exact⟨l,_,_,_,rfl,rfl,aU.of (n9 _ _ lb x8.2),he,dU key en ⟨KL.on yZ Fo n9 b9,by omega,by omega⟩ rfl⟩
   rintro e H8 ⟨KL,e1,e2⟩;refine bT (λv:V=>[Rq b,Rq a,Rq wl,Iq (room),Rq ls,j? vq,j? (.int (0+(i:Int))),Iq (m),Iq (e),j? v,o5]) (λv H9=>KI H b ls T H9 vq sv S n f/\∃N:Md T.α,N.n<=4/\Rep H9 (λc=>H c=q?/\c≠ls) v (Fj N)) (λC key=>?_) ?_
   ·skip
    refine⟨_,rfl,_,rfl,by omega,by omega,λD hD=>?_⟩
    rw[Yp];have DB:H D=q?:=KL.nw.fresh (bx KL.KJ) hD;have QO:=yZ D DB;have hDl:D≠ls:=λz=>by have h:=KL.hls;rw[z,h] at hD;cases hD
    refine dN (λj ys H9=>qT (bO H8 b H9) (wM H9 b) (∃c:Nat->T.α,Cf H9 (Off H8 D) ys j λj=>T.enc (c j))) ⟨bO.of (av hD _),pS KL.KJ (av hD _),λ_=>0,.nil⟩ ?_ ?_
    ·rintro j m' ys H9 hm hj hy hlen ⟨g9,b9,cc,cy⟩
     have n9:=KL.nw.trans g9;obtain⟨C',dx,fs,qv,hcl,hna,hlk⟩:=O.fld (LI n9);refine⟨_,rfl,_,rfl,a,C',dx,_,_,rfl,qv,hcl,hna,hlk,_,rfl,b,wl,T,ws,rfl,b9,n9 _ _ hne hw,hne,wd,by omega,by decide,λx r4 HA gA bA Jb=>?_⟩
     have okD:∀c,Off H8 D c->c≠b:=λc kk=>yZ c (KL.nw.fresh (bx KL.KJ) kk.1)
     refine CW.emit hm hj (by rw[C?];omega) (gA _ _ QO hy) hlen ⟨(g9.trans gA).aJ hD _,?_,λk=>if k=j then x else cc k,?_⟩
     ·obtain⟨g,r,e⟩:=bA
      exact⟨g,r,by rw[aH (λz=>QO z.symm)];exact e⟩
     ·refine(Cf.push ((cy.Ge gA okD).congr λk hk=>by show T.enc (cc k)=T.enc (if k=j then x else cc k);rw[Ww (by omega)]) ?_).upd
      show Rep HA (Off H8 D) r4 (T.enc (if j=j then x else cc j))
      rw[Wx rfl];refine Jb.imp λc o h kk=>⟨h,g9.fresh (bx b9) kk,λz=>?_⟩
      rw[z] at kk;rw[show H9 D=q? from kk] at hy
      cases hy
    ·rintro ys H9 hy ⟨g9,b9,cc,cy⟩
     have Xb:=KL.on yZ Fo g9 b9;have j9:=LI Xb.nw;refine⟨_,rfl,a,rfl,⟨T,j9⟩,λ_ h=>h,a,T,rfl,j9,λr4 HA gA Jb=>⟨aZ rfl,λl4 n4=>?_⟩⟩
     have k4:=av n4 (.lst [r4]);refine⟨D,l4,_,_,rfl,rfl,(gA.trans k4) _ _ hy,aq,by rw[cy.len,C?];show _+1<=_;omega,λL hL=>?_⟩
     generalize hX:upd _ L _=HL;have xL:=cW hL hX;clear hX;have g9L:=(gA.trans k4).trans xL.1;have fr:∀c,H8 c=q?->H c=q?/\c≠ls:=λc hc=>⟨KL.nw.fresh (bx KL.KJ) hc,λz=>by have h:=KL.hls;rw[z,h] at hc;cases hc⟩
     have fr9:∀c,H9 c=q?->H8 c=q?:=λc hc=>g9.fresh (bx b9) hc
     refine dU key (.ref L) ⟨Xb.same yZ Fo g9L,Al m m1 cc,m2,?_⟩ rfl
     refine(Cf.push (n:=m) (v:=r4) (e:=λj=>T.enc ((Al m m1 cc).f.c j)) ((cy.imp λc o h kk=>⟨g9L _ _ h,fr c kk.1⟩:Cf HL _ _ _ _).congr λi hi=>?_) ?_).rep xL.2 (fr L (fr9 L ((gA.trans k4).free hL)))
     ·show T.enc (cc i)=T.enc (if i<m then cc i else if i=m then 1 else 0)
      rw[Wx hi]
     ·show Rep _ _ _ (T.enc (if m<m then cc m else if m=m then 1 else 0))
      rw[Ww (by omega),Wx rfl]
      exact((Jb.same k4).same xL.1).imp λc o h kk=>⟨h,fr c (fr9 c kk)⟩
   rintro v9 H9 ⟨Xb,N9,hN9,rv9⟩;refine bT (λv:V=>[Rq b,Rq a,Rq wl,Iq (room),Rq ls,j? vq,j? (.int (0+(i:Int))),Iq (m),Iq (e),j? v,o5]) (λv HA=>KI H b ls T HA vq sv S n f/\∃N:Md T.α,N.n<=4/\Rep HA (λc=>H c=q?/\c≠ls) v (Fj N)) (λC key=>?_) ?_
   ·skip
    obtain⟨g',r',e'⟩:=Xb.KJ;refine⟨_,rfl,b,g',r',3,rfl,e',by omega,Q3 (by omega) (by omega),λd' g1 r1 d0 d1=>⟨_,_,rfl,rfl,_,rfl,?_⟩⟩
    obtain⟨d,rfl⟩:=Y3 d0;generalize hX:upd H9 b _=HA;obtain⟨nA,bA⟩:=took hX;clear hX;have Ho:=Xb.on yZ Fo nA bA;by_cases c:(0:Int)<(d:Int)
    ·refine ug c ?_
     have jA:mh CG CS CT (del HA b) a T:=ja.mono Ho.nw.del;refine⟨_,rfl,_,rfl,_,rfl,_,rfl,b,a,wl,T,ws,m,rfl,bA,jA,Ho.nw _ _ hne hw,hne,wd,hl,m1,by omega,λM r HB al hM _ nB bB rr=>?_⟩
     refine dU key r ⟨Ho.on yZ Fo nB bB,M,by omega,rr.imp λc o h k=>⟨h,Ho.nw.fresh (bx bA) k,λz=>?_⟩⟩ rfl
     have Xc:=Ho.hls;rw[z] at k;rw[show HA ls=q? from k] at Xc
     cases Xc
    ·exact oZ c (key v9 _ ⟨Ho,N9,hN9,rv9.Ge nA λc k=>yZ c k.1⟩)
   rintro v HA ⟨Ho,N,hN,rv⟩;obtain⟨lq,qs,rfl,hqs,_,cq⟩:=id Ho.rq.cf;obtain⟨lv,vs,rfl,hvs,kv,cv⟩:=id rv.cf;refine⟨_,rfl,lq,_,rfl,.inl (aU.of hqs),_,_,rfl,rfl,_,rfl,_,rfl,lv,_,rfl,.inl (aU.of hvs),_,_,rfl,rfl,_,_,rfl,rfl,Eb (by omega) (by omega),_,_,rfl,rfl,_,rfl,_,_,rfl,rfl,_,rfl,?_⟩
   rw[cq.len,cv.len];have en:(((n+1:Nat):Int)-1+(e:Int)*(((N.n+1:Nat):Int)-1)<=(room:Int))↔n+e*N.n<=room:=by
    have z:((e*N.n:Nat):Int)=(e:Int)*(((N.n+1:Nat):Int)-1):=by
     rw[Y6];congr 1
     omega
    rw[<- z];omega
   have nN:=N.pos;by_cases c:n+e*N.n<=room
   ·refine ug (en.mpr c) ?_
    have X4:=Ho.cs.len;refine⟨_,rfl,.inl ⟨rfl,_,aU.of Ho.hls⟩,_,rfl,ls,sv,_,rfl,rfl,Ho.hls,by rw[X4,C?];omega,?_⟩
    generalize hX:upd HA ls _=HB;have Xd:HB ls=j? (.lst (sv++[.ref lv])):=by rw[<- hX];exact aq
    have kB:∀x o,x≠ls->HA x=j? o->HB x=j? o:=λx o hx h=>by rw[<- hX,aH hx];exact h
    have nB:bO H b HB:=by rw[<- hX];exact Ho.nw.aJ Fo _
    clear hX;have bB:wM HB b:=by obtain⟨g,r,e⟩:=Ho.KJ;exact⟨g,r,kB _ _ lsb.symm e⟩
    have cB:Cf HB (λc=>H c=q?/\c≠ls) (sv++[.ref lv]) (S++[N]).length (λj=>((S++[N]).map Fj).getD j (.num 0)):=by
     rw[Yk];refine Cf.push ((Ho.cs.imp λc o h k=>⟨kB _ _ k.2 h,k⟩).congr λj hj=>?_) ?_
     ·rw[Yr,Yb,Yb,Yx (by rw[Yc];exact hj)]
     ·rw[Yr,Yb,Ze (by rw[Yc];exact Yd _),Yc,Nat.sub_self]
      exact rv.imp λc o h k=>⟨kB _ _ k.2 h,k⟩
    have rvB:Rep HB Any (.ref lv) (Fj N):=rv.imp λc o h k=>⟨kB _ _ k.2 h,trivial⟩
    have X5:room<=12:=Ys (Zg _ wd.d1) hroom2;have X6:∀j,j<=e->j*N.n<=e*N.n:=λj hj=>Zl _ hj
    refine⟨_,rfl,_,rfl,by omega,by omega,?_⟩
    rw[Yp];refine dF (λj σ HC=>ay HB HC/\GG λ(vq:V) (o5:Option V)=>σ=[Rq b,Rq a,Rq wl,Iq (room),Rq ls,j? vq,j? (.int (0+(i:Int))),Iq (m),Iq (e),Rq lv,o5]/\Rep HC (λc=>H c=q?/\c≠ls) vq (aT T (n+j*N.n+1) (f*N.f ^ j))) ⟨.refl _,.ref lq,_,rfl,?_⟩ ?_ ?_
    ·rw[Nat.zero_mul,br,show f*1=f by grind]
     exact Ho.rq.imp λc o h k=>⟨kB _ _ k.2 h,k⟩
    ·rintro j σ HC hj ⟨gC,vq,o5,rfl,rq⟩
     have jC:=LI (nB.trans (bO.of gC));have hj1:=X6 j (by omega)
     have mj:Alg.bH (f*N.f ^ j) (n+j*N.n):=by rw[Y7 j];exact fF mf (eO N.mon j)
     refine⟨_,rfl,_,rfl,_,rfl,a,T,vq,.ref lv,n+j*N.n+1,N.n+1,_,_,rfl,jC,rq.any,mj.dg,rvB.same gC,N.mon.dg,by omega,λr HD gD rr=>?_⟩
     rw[Ww (by omega)] at rr
     refine⟨gC.trans gD,r,_,rfl,?_⟩
     rw[show n+(j+1)*N.n+1=n+j*N.n+1+(N.n+1)-1 by rw[Wu];omega,show f*N.f ^ (j+1)=f*N.f ^ j*N.f by rw[aR];grind]
     have Xe:=gC _ _ Xd;exact rr.imp λc o h k=>⟨h,nB.fresh (bx bB) (gC.free k),λz=>by rw[z] at k;rw[show HC ls=q? from k] at Xe;cases Xe⟩
    ·rintro σ HC ⟨gC,vq,o5,rfl,rq⟩
     have me:Alg.bH (f*N.f ^ e) (n+e*N.n):=by rw[Y7 e];exact fF mf (eO N.mon e)
     refine⟨vq,sv++[.ref lv],S++[N],n+e*N.n,f*N.f ^ e,_,_,_,_,_,rfl,⟨nB.trans (bO.of gC),pS bB gC,gC _ _ Xd,cB.same gC,rq⟩,by rw[Yk];show _+1<=_;omega,me,c,λM hM=>?_⟩
     rcases List.mem_append.mp hM with z|z
     ·obtain⟨⟨g,pg,eg⟩,h2⟩:=hS M z
      exact⟨⟨N.f ^ e*g,(N.mon.kX.pow e).mul pg,by rw[eg];grind⟩,by omega⟩
     ·rw[List.mem_singleton.mp z]
      obtain⟨e',rfl⟩:∃e',e=e'+1:=⟨e-1,by omega⟩
      refine⟨⟨f*N.f ^ e',mf.kX.mul (N.mon.kX.pow e'),by rw[aR];grind⟩,?_⟩
      have:=Zg N.n (show 0<e'+1 by omega)
      omega
   ·refine oZ (λz=>c (en.mp z)) ?_
    exact⟨.ref lq,sv,S,n,f,_,_,_,_,_,rfl,Ho,by omega,mf,hn,hS⟩
  ·rintro σ H6 ⟨vq,sv,S,n,f,o1,o2,o3,o4,o5,rfl,Hl,hSi,mf,hn,hS⟩
   exact key (vq,o1,o2,o3,o4,o5) _ ⟨sv,S,n,f,Hl,by omega,mf,hn,hS⟩
 rintro⟨vq,o1,o2,o3,o4,o5⟩ H5 ⟨sv,S,n,f,bu,hS4,mf,hn,hS⟩
 show FJ _ _ _ _ _
 refine bT (λ_:Unit=>[Rq b,Rq a,Rq wl,Iq (room),Rq ls,j? vq,o1,o2,o3,o4,o5]) (λ_ H6=>ay H5 H6/\S≠[]) (λC key=>?_) ?_
 ·skip
  refine⟨_,rfl,aZ rfl,λl6 n6=>?_⟩
  generalize hX:upd H5 l6 _=H6;have x6:=cW n6 hX;clear hX;have Hl:=bu.same yZ Fo x6.1;have rls:Rep H6 Any (.ref ls) (.vec (S.map Fj)):=by
   rw[dW,Yc];exact(Hl.cs.imp λc o h k=>⟨h,trivial⟩).rep Hl.hls trivial
  refine tT rls ((Cf.nil (ok:=Any) (e:=λ_=>.num 0)).rep x6.2 trivial) (n:=T.ht+2) (.vec (by rw[Yc];omega) λe he=>?_) (nu (n:=0) (by omega) λ_=>.num 0) (by omega) (by omega) (λe=>?_) (λe=>?_)
  ·obtain⟨N,hN,rfl⟩:=List.mem_map.mp he
   have h1:=(hS N hN).2;have h2:=Zg room d1;exact cO T (by omega) _
  ·refine⟨_,rfl,fE ?_⟩
   have j6:=LI Hl.nw;refine Q4 (Q5 ?_)
   refine zB (T:=T) (λg h=>O.mono g h) rfl j6 λr7 H7 g7 Cp=>⟨aZ rfl,λl8 n8=>?_⟩
   generalize hX:upd H7 l8 _=H8;have x8:=cW n8 hX;clear hX;refine zB (T:=T) (λg h=>O.mono g h) rfl (O.mono (g7.trans x8.1) j6) λr9 H9 g9 LF=>⟨aZ rfl,λt nt=>?_⟩
   generalize hX:upd H9 t _=HT;have xT:=cW nt hX;clear hX;have g6T:=((g7.trans x8.1).trans g9).trans xT.1;have fr:∀c,H6 c=q?->H c=q?:=λc hc=>Hl.nw.fresh (bx Hl.KJ) hc
   have m1:(W_ T).n=1:=rfl;refine q t (.ref l8) r9 [W_ T] (W_ T) HT (Hl.nw.trans (bO.of g6T)) (pS Hl.KJ g6T) (fr t (((g7.trans x8.1).trans g9).free nt)) xT.2 ?_ (((LF.same xT.1).imp λc o h k=>⟨h,fr c ((g7.trans x8.1).free k)⟩)) (λN hN=>?_) (by rw[m1];omega) (by show 1<=8;decide)
   ·refine .vec ((g9.trans xT.1) _ _ x8.2) (fr l8 (g7.free n8)) rfl λi z e h1 h2=>?_
    cases i with
    | zero=>cases h1;cases h2;exact(Cp.same ((x8.1.trans g9).trans xT.1)).imp λc o h k=>⟨h,fr c k⟩
    | succ i=>simp at h1
   ·rw[List.mem_singleton.mp hN]
    exact⟨Dv.refl _,Yd _⟩
  ·exact⟨_,rfl,cX (key () _ ⟨x6.1,λz=>e (by rw[z];rfl)⟩)⟩
 rintro _ H6 ⟨g6,abJ⟩;have Hl:=bu.same yZ Fo g6;refine⟨_,rfl,_,rfl,aZ rfl,λt nt=>?_⟩
 have sn:=av nt (.tup [.ref ls,vq]);have Q6:=Hl.same yZ Fo sn;have n1:1<=n:=by
  obtain⟨N,hN⟩:=List.exists_mem_of_ne_nil S abJ;have:=(hS N hN).2
  have:=N.pos
  omega
 refine q t (.ref ls) vq S ⟨f,n,mf,n1⟩ _ Q6.nw Q6.KJ (Hl.nw.fresh (bx Hl.KJ) nt) aq ?_ (Q6.rq.imp λc o h k=>⟨h,k.1⟩) hS (Ys (Yz _ hn) hroom2) (by omega)
 rw[dW,Yc];exact(Q6.cs.imp λc o h k=>⟨h,k.1⟩).rep Q6.hls Fo
end
section
variable {CG CS CT:o?} {k:Nat} {J:L2.Kind}
inductive Ow (J:L2.Kind)(vs:List V)(H:Hp)(Q:VK)(iS:XK):Prop where
 | mk (a D:o?) (T:cj) (ws:List Nat) (vl:List V) (L:List (Pt T)) (c5:vs=[.ref a,.ref D]) (c6:J H a T) (dS:Wd T ws) (fT:H D=j? (.lst vl)) (jv:Jg H Any vl L) (pZ:LU L) (wA:L.Pairwise Q2) (Fe:L.length<=40) (M3:(∀y∈L,y.1.n<=12)) (SX:∀H',ay H H'->Q (.bl true) H')
theorem Bq (B:c7 mg)(O:TwE P w K mg base k J){k':Nat}(hk':k<=k')(iG:b8 P w K mg base k' "is_alone" dR (sQ J))(F:Src K mg "_law_are_parts" fM NU):b8 P w K mg base (k'+1) "_law_are_parts" NU (Ow J):=by
 refine F.ok mL (λvs H Q E h=>?_) (λfa cdv A outer s H vs Q E hr h=>?_)
 ·obtain⟨a,D,T,ws,vl,L,rfl,_⟩:=h;rfl
 obtain⟨a,D,T,ws,vl,L,rfl,ja,wd,hD,pt,ok,ord,hlen,xx,q⟩:=h;refine⟨_,ai (bX (eV (cK (aI (cC (K:=K) rfl) rfl B.isinstance bW (af (pv 1) (af (gh (v:=.ty "list") rfl B.list qa rfl) ah)))))
   (ao (aD gO))
   (aW))
  (ai (cE D? rfl (bZ (K:=K) rfl (pv 1)) (aA (i:=2) mL.nd rfl (z? rfl))
   (ai (bX (PW.pt (mC (eV (cK (aI (cC (K:=K) rfl) rfl B.isinstance bW (af (pv 2) (af (gh (v:=.ty "tuple") rfl B.tuple F1 rfl) ah))))) (mC (aS FO (aI (aN (K:=K) rfl) rfl B.len bR (af (pv 2) ah)) au (a_ _)) (kZ (eV (cK (aI (cC (K:=K) rfl) rfl B.isinstance bW (af (bJ (eK (K:=K) rfl) (pv 2) au (λ_ _=>rfl)) (af (gh (v:=.ty "list") rfl B.list qa rfl) ah)))))))))
    (ao (aD gO))
    (aW))
   (ai (bX (PW.pt (mC (eV (cK (aI (cC (K:=K) rfl) rfl B.isinstance bW (af (bJ (eK (K:=K) rfl) (pv 2) au (λ_ _=>rfl)) (af (gh (v:=.ty "int") rfl B.int Ec rfl) ah))))) (mC (cK (aI (cC (K:=K) rfl) rfl B.isinstance bW (af (bJ (eK (K:=K) rfl) (pv 2) au (λ_ _=>rfl)) (af (gh (v:=.ty "bool") rfl B.bool JS rfl) ah)))) (mC (aS yd (bJ (eK (K:=K) rfl) (pv 2) au (λ_ _=>rfl)) au (a_ _)) (kZ (eV (cK (aG iG hr (af (pv 0) (af (bJ (eK (K:=K) rfl) (pv 2) au (λ_ _=>rfl)) ah))))))))))
    (ao (aD gO))
    (aW))
   (ao (bX (eV (cK (aI (wF (K:=K) rfl rfl) rfl B.all Ig (af (cA (aK (N:=["_law_one","_law_tower_here"]) (sl:=[q?,j? 0]) (aj fM) QJ rfl rfl (by decide +kernel)) rfl (bZ (K:=K) rfl (bJ (eK (K:=K) rfl) (pv 2) au (λ_ _=>rfl))) (λ_ _ _ _ _=>(aA (i:=0) (Yk_ ["_law_one","_law_tower_here"]) rfl (z? rfl))) (λ_ _ _ _ _=>bf) (λ_ _ _ _ _=>(bh O.jz hr (pv 1) (af (pv 0) ah)))) ah))))
    (ao (aD gO))
    (aW))))))
  (ai (aE (i:=3) mL.nd rfl (Or.inr rfl) (cA (aK (N:=Lv) (sl:=[q?,q?]) (aj fM) QJ rfl rfl (by decide +kernel)) rfl (bZ (K:=K) rfl (pv 1)) (λ_ _ _ _ _=>(cU (n:=2) (K:=K) rfl rfl (aQ (aA (i:=0) (Yk_ Lv) rfl (z? rfl)) (aQ (aA (i:=1) (Yk_ Lv) rfl (z? rfl)) cT)))) (λ_ _ _ _ _=>bf) (λ_ _ _ _ _=>(q_ (af (aI (aN (K:=K) rfl) rfl B.len bR (af (pv 0) ah)) (af (pv 0) ah))))))
  (ao (aD (aI (wF (K:=K) rfl rfl) rfl B.all Ig (af (cA (aK (N:=["_law_k","_law_order"]) (sl:=[q?,j? 3]) (aj fM) QJ rfl rfl (by decide +kernel)) rfl (bI rfl B.range (af (aM di (aI (aN (K:=K) rfl) rfl B.len bR (af (pv 3) ah)) au) ah)) (λ_ _ _ _ _=>(aA (i:=0) (Yk_ ["_law_k","_law_order"]) rfl (z? rfl))) (λ_ _ _ _ _=>bf) (λ_ _ _ _ _=>(pY (QG (K:=K) rfl hr.Gx) (bJ (aP (K:=K) rfl) (pv 1) (pv 0) (λ_ _=>rfl)) (bJ (aP (K:=K) rfl) (pv 1) (aM d9 (pv 0) au) (λ_ _=>rfl)) (a_ _)))) ah)))))),?_⟩
 have hht:=(O.bd ja).2;obtain⟨pl,pg⟩:=pt;refine bT (λ_:Unit=>[Rq a,Rq D,q?,q?]) (λ_ H2=>H=H2) (λC key=>⟨_,rfl,_,"list","list",true,rfl,.lst (aU.of hD),rfl,_,rfl,cX (key () _ rfl)⟩) ?_
 rintro _ _ rfl;refine bT (λo:Option V=>[Rq a,Rq D,o,q?]) (λ_ H2=>ay H H2) (λC key=>?_) ?_
 ·skip
  refine⟨_,rfl,D,rfl,⟨_,aU.of hD⟩,fV (xs:=vl) (λi σ H2=>ay H H2/\∃o:Option V,σ=[Rq a,Rq D,o,q?]) ⟨.refl _,_,rfl⟩ (λi σ H2 _ h=>aU.of (h.1 _ _ hD)) ?_ ?_⟩
  ·rintro i x σ H2 hx ⟨g2,o,rfl⟩
   have hi:i<L.length:=by rw[<- pl];exact(List.getElem?_eq_some_iff.mp hx).1
   have hy:=Ya hi;generalize L[i]=y at hy;have ym:=Yo hy;obtain⟨t,r,rfl,_,et,rr⟩:=pg i x y hx hy;obtain⟨lr,rs,rfl,hrs,_,cr⟩:=id rr.cf;obtain⟨aly,ey⟩:=ok.al y ym;have hyn:=xx y ym;have RM:=g2 _ _ et;have Ug:=g2 _ _ hrs;show FJ _ _ _ _ _
   refine bT (λ_:Unit=>[Rq a,Rq D,Rq t,q?]) (λ_ H3=>H2=H3) (λC key=>⟨_,rfl,_,"tuple","tuple",true,rfl,.tup (iR.of RM),rfl,_,rfl,cX ⟨_,rfl,t,_,rfl,.inr (iR.of RM),rfl,_,rfl,cX ⟨_,rfl,t,_,_,_,rfl,rfl,iR.of RM,bF (j:=0) rfl,_,"list","list",true,rfl,.lst (aU.of Ug),rfl,_,rfl,cX (key () _ rfl)⟩⟩⟩) ?_
   rintro _ _ rfl;refine bT (λ_:Unit=>[Rq a,Rq D,Rq t,q?]) (λ_ H3=>ay H2 H3) (λC key=>?_) ?_
   ·skip
    refine⟨_,rfl,t,_,_,_,rfl,rfl,iR.of RM,bF (j:=1) rfl,_,"int","int",true,rfl,.int _,rfl,_,rfl,cX ⟨_,rfl,t,_,_,_,rfl,rfl,iR.of RM,bF (j:=1) rfl,_,"int","bool",false,rfl,.int _,rfl,_,rfl,cX ⟨_,rfl,t,_,_,_,rfl,rfl,iR.of RM,bF (j:=1) rfl,_,_,rfl,rfl,_,rfl,?_⟩⟩⟩
    refine oZ (by omega) ⟨_,rfl,_,rfl,t,_,_,_,rfl,rfl,iR.of RM,bF (j:=0) rfl,a,T,.ref lr,y.1,rfl,O.mono g2 ja,(rr.same g2).any,hyn,λ_ H3 g3=>⟨_,rfl,cX (key () _ g3)⟩,λz=>W3 aly z⟩
   rintro _ H3 g3;have LD:=g2.trans g3;refine⟨_,rfl,t,_,_,_,rfl,rfl,iR.of (g3 _ _ RM),bF (j:=0) rfl,lr,rfl,⟨_,aU.of (g3 _ _ Ug)⟩,λD2 AY=>?_⟩
   refine dH (xs:=rs) (λi ys H4=>ay H3 H4/\ys=(Yt i true).map V.bl) ⟨av AY _,rfl⟩ (λi ys H4 _ h=>aU.of (h.1 _ _ (g3 _ _ Ug))) ?_ ?_
   ·rintro j m' x ys H4 hm hj hx hy hlen' ⟨g4,ey'⟩
    obtain⟨_,rx⟩:=cr.get hx;have B3:=LD.trans g4;refine⟨_,rfl,a,rfl,⟨T,O.mono B3 ja⟩,_,rfl,λ_ h=>h,a,T,x,_,rfl,O.mono B3 ja,(rx.same B3).den,λ_ H5 g5=>?_,λz=>W3 ⟨_,rfl⟩ z⟩
    refine CW.emit hm hj (by rw[cr.len,C?];omega) (g5 _ _ hy) hlen' ⟨(g4.trans g5).aJ AY _,?_⟩
    rw[ey',List.replicate_succ',Yr];rfl
   ·rintro ys H4 hy ⟨g4,rfl⟩
    refine⟨D2,_,rfl,aU.of hy,?_⟩
    rw[show(Yt rs.length true).all id=true from by rw[Zj];intro x hx;exact(List.mem_replicate.mp hx).2]
    exact⟨_,rfl,cX ⟨LD.trans g4,_,rfl⟩⟩
  ·rintro σ H2 ⟨g2,o,rfl⟩
   exact key o _ g2
 rintro o H2 g2;refine bT (λl:o?=>[Rq a,Rq D,o,Rq l]) (λl H3=>ay H2 H3/\∃ys:List V,qT (H3 l=j? (.lst ys)) (ys.length=L.length) (∀(j:Nat) y,L[j]?=j? y->∃t r,ys[j]?=j? (.ref t)/\H3 t=j? (.tup [.int ((y.1.n+1:Nat):Int),r])/\Rep H3 Any r (GX y))) (λC key=>?_) ?_
 ·skip
  refine⟨_,rfl,D,rfl,⟨_,aU.of (g2 _ _ hD)⟩,λD2 AY=>?_⟩
  refine dH (xs:=vl) (λi ys H3=>qT (ay H2 H3) (ys.length=i) (∀(j:Nat) y,j<i->L[j]?=j? y->∃t r,ys[j]?=j? (.ref t)/\t≠D2/\H3 t=j? (.tup [.int ((y.1.n+1:Nat):Int),r])/\Rep H2 Any r (GX y))) ⟨av AY _,rfl,λj y hj=>W3 hj (We _)⟩ (λi ys H3 _ h=>aU.of ((g2.trans h.1) _ _ hD)) ?_ ?_
  ·rintro i m' x ys H3 hm hi hx hy hlen' ⟨g3,hyl,hj⟩
   have hi':i<L.length:=by omega
   have Jl:=Ya hi';generalize L[i]=y at Jl;obtain⟨t,r,rfl,_,et,rr⟩:=pg i x y hx Jl;obtain⟨lr,rs,rfl,hrs,_,cr⟩:=id rr.cf;have LD:=g2.trans g3;refine⟨t,_,rfl,iR.of (LD _ _ et),rfl,_,_,rfl,_,_,rfl,rfl,_,rfl,lr,_,rfl,.inl (aU.of (LD _ _ hrs)),_,rfl,aZ rfl,λp np=>?_⟩
   rw[cr.len];generalize hX:upd H3 p _=H4;have x4:=cW np hX;clear hX;have pD:p≠D2:=λz=>by rw[z,hy] at np;cases np
   refine CW.emit hm hi (by rw[pl,C?];omega) (x4.1 _ _ hy) hlen' ⟨ay.aJ (g3.trans x4.1) AY _,by rw[Yk,hyl];rfl,λj y' hj' hy'=>?_⟩
   by_cases hji:j<i
   ·obtain⟨t',r',e1,e2,e3,e4⟩:=hj j y' hji hy'
    exact⟨t',r',by rw[Yx (by omega)];exact e1,e2,by rw[aH e2];exact x4.1 _ _ e3,e4⟩
   ·obtain rfl:j=i:=by omega
    rw[Jl] at hy';cases hy';exact⟨p,.ref lr,by rw[<- hyl,Zc],pD,by rw[aH pD];exact x4.2,(rr.same g2).any⟩
  ·rintro ys H3 hy ⟨g3,hyl,hj⟩
   refine dU key D2 ⟨g3,ys,hy,by omega,λj y Jl=>?_⟩ rfl
   have hjl:=(List.getElem?_eq_some_iff.mp Jl).1;obtain⟨t,r,e1,_,e3,e4⟩:=hj j y (by omega) Jl
   exact⟨t,r,e1,e3,e4.same g3⟩
 rintro lo H3 ⟨g3,ys,hlo,hyl,hys⟩;have g03:=g2.trans g3;refine⟨_,rfl,lo,_,rfl,.inl (aU.of hlo),_,_,rfl,rfl,_,rfl,by omega,by omega,λD2 AY=>?_⟩
 rw[hyl,show((L.length:Int)-1).toNat=L.length-1 by omega]
 refine dN (λi zs H4=>ay H3 H4/\zs=(Yt i true).map V.bl) ⟨av AY _,rfl⟩ ?_ ?_
 ·rintro i m' zs H4 hm hi hz hlen' ⟨g4,ez⟩
  have h1:i<L.length:=by omega
  have h2:i+1<L.length:=by omega
  obtain⟨t1,r1,a1,a2,a3⟩:=hys i L[i] (Ya h1);obtain⟨t2,r2,b1,b2,b3⟩:=hys (i+1) L[i+1] (Ya h2);have lt:=List.pairwise_iff_getElem.mp ord i (i+1) h1 h2 (by omega)
  have d1:=xx _ (Za h1);have d2:=xx _ (Za h2);have Xf:=g4 _ _ hlo;refine⟨_,rfl,_,rfl,lo,_,_,_,rfl,rfl,aU.of Xf,(by rw[Z8];exact bF a1),_,rfl,_,rfl,_,_,rfl,rfl,lo,_,_,_,rfl,rfl,aU.of Xf,(by rw[show 0+(i:Int)+1=((i+1:Nat):Int) by omega];exact bF b1),t1,t2,_,_,r1,r2,_,_,T.ht+1,rfl,rfl,iR.of (g4 _ _ a2),iR.of (g4 _ _ b2),a3.same g4,b3.same g4,cO T (by omega) _,cO T (by omega) _,by omega,λe=>?_,?_⟩
  ·have en:L[i].1.n=L[i+1].1.n:=by omega
   unfold GX;rw[en];exact wd.smP _ _ _
  ·have et:(if (((L[i].1.n+1:Nat):Int))=((L[i+1].1.n+1:Nat):Int) then v8 (GX L[i]) (GX L[i+1]) else decide (((L[i].1.n+1:Nat):Int)<((L[i+1].1.n+1:Nat):Int)))=true:=by
    rcases lt with z|⟨z1,z2⟩
    ·rw[Ww (by omega)];exact Wy (by omega)
    ·rw[Wx (by omega)];exact z2
   rw[et];refine CW.emit hm hi (by rw[C?];omega) hz hlen' ⟨g4.aJ AY _,?_⟩
   rw[ez,List.replicate_succ',Yr];rfl
 ·rintro zs H4 hz ⟨g4,rfl⟩
  refine⟨D2,_,rfl,aU.of hz,?_⟩
  rw[show(Yt (L.length-1) true).all id=true from by rw[Zj];intro x hx;exact(List.mem_replicate.mp hx).2]
  exact q _ (g03.trans g4)
end
section
variable {CG CS CT:o?} {k:Nat} {J:L2.Kind}
theorem Q7 {T:cj}{M N:Md T.α}(h1:Dv M.f N.f)(h2:Dv N.f M.f):M.f=N.f/\M.n=N.n:=by
 obtain⟨e,pe,he⟩:=h1;obtain⟨g,pg,hg⟩:=h2;obtain⟨a1,a2⟩:=Ar N.mon M.mon pe he;obtain⟨b1,_⟩:=Ar M.mon N.mon pg hg;have en:M.n=N.n:=by omega
 rw[en,Nat.sub_self] at a2;have e1:e=1:=by
  rw[iz (a2.dg),a2.top,jR]
 refine⟨?_,en⟩
 rw[he,e1];grind
theorem KN {T:cj}{N:Md T.α}(al:ur T N):∀ {L:List (Pt T)},(∀y∈L,ur T y.1)->Dv N.f (iQ L)->∃y∈L,y.1.f=N.f/\y.1.n=N.n
 | [],_,dv=>by
  have:=Aq N.mon (lQ.one N.f) dv
  have:=N.pos
  omega
 | y::L,h,dv=>by
  have dv:Dv N.f (y.1.f ^ y.2*iQ L):=dv;have pL:aX (iQ L):=Et λt ht=>by obtain⟨z,_,rfl⟩:=List.mem_map.mp ht;exact z.1.mon.kX.pow _
  have np:=N.pos;rcases IB al.alone.Pa y.1.mon.kX with c|c
  ·rcases IB (h y Yg).alone.Pa N.mon.kX with c2|c2
   ·obtain⟨e1,e2⟩:=Q7 c2 c
    exact⟨y,Yg,e1,e2⟩
   ·have:=Aq N.mon c2.symm c
    omega
  ·obtain⟨z,hz,e⟩:=KN al (λz hz=>h z (Ye _ hz)) ((c.pow N.mon.kX y.1.mon.kX y.2).dv pL dv)
   exact⟨z,Ye _ hz,e⟩
inductive KO (K:bK)(Pp:o?)(vs:List V)(H:Hp)(Q:VK)(iS:XK):Prop where
 | mk (a:o?) (ns:List Int) (c5:vs=[.ref a]) (c6:aU K H a (ns.map V.int)) (dS:ns.length<=63) (fT:H Pp=j? (.zU #[])) (jv:∀H',Q (.bl true) H')
theorem GZ(h:qi qual Pp H)(hp:H p=j? (.lst xs)):qi qual Pp (upd H p o):=by
 obtain⟨ps,h1,h2,h3⟩:=h;refine⟨ps,by rw[aH (λz=>by rw[z,hp] at h1;cases h1)];exact h1,h2,λpos=>(h3 pos).imp id λ⟨c,a,b⟩=>⟨c,a,by rw[aH (λz=>by rw[z,hp] at b;cases b)];exact b⟩⟩
theorem Jm(L:List (Pt T)):∃d,Alg.bH (iQ L) d:=Nr λt ht=>by
 obtain⟨z,_,rfl⟩:=List.mem_map.mp ht;exact⟨_,eO z.1.mon z.2⟩
theorem Br(A B:List (Pt T)):iQ (A++B)=iQ A*iQ B:=by unfold iQ;rw[Yr,As]
theorem Uh{L:List (Pt T)}{M:Md T.α}(ok:LU L)(h:iQ L=M.f):L.length<=M.n/\(∀y∈L,y.1.n<=M.n)/\L≠[]:=by
 refine⟨?_,λy hy=>?_,λz=>?_⟩
 ·obtain⟨n,hn,hl⟩:=Jf (l:=L.map λy=>y.1.f ^ y.2) λt ht=>by
   obtain⟨z,hz,rfl⟩:=List.mem_map.mp ht;exact⟨_,Wr z.1.pos (ok.al z hz).2,eO z.1.mon z.2⟩
  rw[Yc] at hl;have:=kU (show Alg.bH M.f n by rw[<- h];exact hn) M.mon
  omega
 ·obtain⟨A,B,rfl⟩:=List.append_of_mem hy
  obtain⟨da,ma⟩:=Jm A;obtain⟨db,mb⟩:=Jm B;have e:M.f=iQ A*(y.1.f ^ y.2*iQ B):=by rw[<- h,Br];rfl
  have:=kU M.mon (by rw[e];exact fF ma (fF (eO y.1.mon y.2) mb))
  have:=Nat.le_mul_of_pos_right y.1.n (ok.al y hy).2
  omega
 ·rw[z] at h
  have:=kU M.mon (show Alg.bH M.f 0 by rw[<- h];exact nC)
  have:=M.pos
  omega
theorem Ui {aV:o?}(B:c7 mg)(O:TwE P w K mg base 29 (mh CG CS CT)){kp:Nat}(hkp:38<=kp)(KP:b8 P w K mg base 1 "_law_bag" NV (RJ K))(LV:b8 P w K mg base 38 "_law_tower" NY (GQ CG CS CT))(LW:b8 P w K mg base 36 "_law_built" NT (KH CG CS CT))(Bp:b8 P w K mg base 9 "_law_copy" IW (kI 9))(sA:b8 P w K mg base 30 "_law_product" Lu (i6 (mh CG CS CT)))(Jo:b8 P w K mg base kp "parts_of" dR (KG (mh CG CS CT) aV))(CC:b8 P w K mg base 35 "_law_are_parts" NU (Ow (mh CG CS CT)))(iG:b8 P w K mg base 34 "is_alone" dR (sQ (mh CG CS CT)))
  {f:o?} {fd:T!} (F:Fd K "law" "law" tW f fd):iP P w K mg base z4 (kp+1) f fd ["_law_script"] (KO K aV):=by
 refine F.ok fZ (λvs H Q E h=>?_) (λcdv A outer s H vs Q E hr h=>?_)
 ·obtain⟨a,ns,rfl,_⟩:=h;rfl
 obtain⟨la,ns,rfl,hs,hl,US,q⟩:=h;refine⟨_,ai (mD (aG LV hr (af (aG KP hr (af (pv 0) (af au ah))) ah)) (cU (n:=3) (K:=K) rfl rfl (aQ (aA (i:=1) fZ.nd rfl (z? rfl)) (aQ (aA (i:=2) fZ.nd rfl (z? rfl)) (aQ (aA (i:=3) fZ.nd rfl (z? rfl)) cT)))))
  (ai (aE (i:=4) fZ.nd rfl (z? rfl) (aG KP hr (af (pv 0) (af au ah))))
  (ai (mD (aG LW hr (af (pv 4) (af (pv 1) (af (pv 3) ah)))) (cU (n:=2) (K:=K) rfl rfl (aQ (aA (i:=5) fZ.nd rfl (z? rfl)) (aQ (aA (i:=6) fZ.nd rfl (z? rfl)) cT))))
  (ai (aE (i:=7) fZ.nd rfl (z? rfl) (aG Bp hr (af (pv 6) ah)))
  (ai (cE D? rfl (bI rfl B.range (af au ah)) (aA (i:=8) fZ.nd rfl (z? rfl))
   (ai (aE (i:=9) fZ.nd rfl (z? rfl) (aG Jo hr (af (pv 1) (af (pv 7) ah))))
   (ai (bX (PW.pt (mC (eV (cK (aG CC hr (af (pv 1) (af (pv 9) ah))))) (kZ (aS (qb (K:=K) rfl hr.units) (pv 7) (pv 6) (a_ _)))))
    (ao (aD gO))
    (aW))
   (ai (aE (i:=10) fZ.nd rfl (z? rfl) (bz (af (aO O.one hr (pv 1) ) ah)))
   (ai (cE D? rfl (bZ (K:=K) rfl (pv 9)) (cU (n:=2) (K:=K) rfl rfl (aQ (aA (i:=11) fZ.nd rfl (z? rfl)) (aQ (aA (i:=12) fZ.nd rfl (z? rfl)) cT)))
    (ao (cE D? rfl (bI rfl B.range (af (pv 12) ah)) (aA (i:=13) fZ.nd rfl (z? rfl))
     (ao (aE (i:=10) fZ.nd rfl (z? rfl) (aG sA hr (af (pv 1) (af (pv 10) (af (pv 11) ah)))))))))
   (ai (bX (aS (qb (K:=K) rfl hr.units) (pv 10) (pv 6) (a_ _))
    (ao (aD gO))
    (aW))
   (ai (lO (i:=14) fZ.nd rfl (z? rfl) (aK (N:=Lv) (sl:=[q?,q?]) (aj tW) Lq0 rfl rfl (by decide +kernel)) rfl (bZ (K:=K) rfl (pv 9)) (λ_ _ _ _ _=>(cU (n:=2) (K:=K) rfl rfl (aQ (aA (i:=0) (Yk_ Lv) rfl (z? rfl)) (aQ (aA (i:=1) (Yk_ Lv) rfl (z? rfl)) cT)))) (λ_ _ _ _ _=>bf) (λ_ _ _ _ _=>(pv 0)))
   (ai (cE D? rfl (bZ (K:=K) rfl (pv 5)) (aA (i:=15) fZ.nd rfl (z? rfl))
    (ao (bX (PW.pt (zV (cK (aG iG hr (af (pv 1) (af (pv 15) ah)) (by first|decide|omega))) (u6 (aS (IK (K:=K) rfl hr.Gx) (pv 15) (pv 14) (by with_unfolding_all rfl)))))
     (ao (aD gO))
     (aW))))
   (ai (jS (u9 S? H! I! eW (bJ (eK (K:=K) rfl) (bJ (aP (K:=K) rfl) (pv 9) au (λ_ _=>rfl)) au (λ_ _=>rfl)) (af (aO O.one hr (pv 1) ) ah)))
   (ao (jS (u9 S? H! I! eW (pv 9) (af (bJ (aP (K:=K) rfl) (pv 9) au (λ_ _=>rfl)) ah)))))))))))))
  (ao (aD gO)))))),?_⟩
 refine bT (λx:o?×o?×o?=>[Rq la,Rq x.1,Rq x.2.1,Rq x.2.2,q?,q?,q?,q?,q?,q?,q?,q?,q?,q?,q?,q?]) (λx H2=>ay H H2/\GG λ(T:cj) (ws:List Nat)=>Tr (mh CG CS CT (nw H H2) x.1 T) (H2 x.2.2=j? (.lst (wv ws))) (Wd T ws) (ws.length<=5) (T.d<=y9 T.p)) (λC key=>?_) ?_
 ·skip
  refine⟨_,rfl,la,ns,0,rfl,hs,by decide,λb0 g0 r0 H1 g1 nb0 eb0=>?_⟩
  refine⟨b0,rfl,⟨_,_,eb0⟩,λt a pl wl T ws ps H2 n2 hb2 nt et TL=>?_⟩
  have s12:ay H H2:=λc o e=>n2 c o (aL e nb0) (g1 c o e)
  refine⟨t,_,rfl,iR.of et,rfl,_,_,rfl,_,_,rfl,_,_,rfl,rfl,?_⟩
  exact key (a,pl,wl) _ ⟨s12,T,ws,TL.tow.mono (Gd g1),TL.wl,TL.wd,TL.len,TL.lim⟩
 rintro⟨a,pl,wl⟩ H2 ⟨s2,T,ws,jT,hw,wd,UL,hlim⟩
 have hht:=(O.bd jT).2;have d1:=wd.d1;refine bT (λb:o?=>[Rq la,Rq a,Rq pl,Rq wl,Rq b,q?,q?,q?,q?,q?,q?,q?,q?,q?,q?,q?]) (λb H3=>qT (ay H2 H3) (H2 b=q?) (wM H3 b)) (λC key=>⟨_,rfl,la,ns,1,rfl,s2.seq hs,by decide,λb g3 r3 H3 LD nb eb=>dU key b ⟨LD,nb,_,_,eb⟩ rfl⟩) ?_
 rintro b H3 ⟨g3,nb,b3⟩;have jd3:mh CG CS CT (del H3 b) a T:=(jT.mono (En _ _)).mono (λc o e=>by rw[uu (aL e nb)];exact g3 c o e:ay H2 (del H3 b))
 have hPb:aV≠b:=aL (s2 _ _ US) nb;refine bT (λx:V×V=>[Rq la,Rq a,Rq pl,Rq wl,Rq b,j? x.1,j? x.2,q?,q?,q?,q?,q?,q?,q?,q?,q?]) (λx H4=>bO H3 b H4/\GG λ(S:List (Md T.α)) (M:Md T.α)=>Tr (Rep H4 (bL H3) x.1 (.vec (S.map Fj))) (Rep H4 (bL H3) x.2 (Fj M)) ((∀N∈S,Dv N.f M.f/\N.n<=M.n)) (T.d*M.n<=12) (S.length<=8)) (λC key=>?_) ?_
 ·skip
  refine⟨_,rfl,_,rfl,_,rfl,b,a,wl,T,ws,rfl,b3,jd3,g3 _ _ hw,aL hw nb,wd,UL,hlim,λt u v S M H4 n4 _ nt et ru rv hS hd X4=>?_⟩
  refine⟨t,_,rfl,iR.of et,rfl,_,_,rfl,_,_,rfl,rfl,?_⟩
  exact key (u,v) _ ⟨n4,S,M,ru,rv,hS,hd,X4⟩
 rintro⟨u,v⟩ H4 ⟨n4,S,M,ru,rv,hS,hdn,X4⟩
 have mp:=M.pos;have hMn:M.n<=12:=Ys (Zg _ d1) hdn;refine bT (λx:V=>[Rq la,Rq a,Rq pl,Rq wl,Rq b,j? u,j? v,j? x,q?,q?,q?,q?,q?,q?,q?,q?]) (λx H5=>ay H4 H5/\Rep H5 (bL H4) x (Fj M)) (λC key=>⟨_,rfl,v,Fj M,8,rfl,rfl,(cO T (by omega) _).mono (by omega),rv.any,λr H5 g5 rr _=>dU key r ⟨g5,rr⟩ rfl⟩) ?_
 rintro h H5 ⟨g5,rh⟩;have n35:bO H3 b H5:=n4.trans (bO.of g5);have X7:=g3 _ _ (s2 _ _ US);have hP5:H5 aV=j? (.zU #[]):=n35 _ _ hPb X7;have nP3:∀c,H3 c=q?->c≠aV:=λc hc z=>by rw[z,X7] at hc;cases hc
 have nP4:∀c,H4 c=q?->c≠aV:=λc hc z=>by rw[z,n4 _ _ hPb X7] at hc;cases hc
 have jd:mh CG CS CT (del H5 aV) a T:=jT.mono λc o e=>by
  obtain⟨e1,e2⟩:=jD e;rw[uu (λz=>by rw[z,US] at e1;cases e1)]
  exact n35 _ _ (aL e2 nb) (g3 _ _ e2)
 have rud:Rep (del H5 aV) Any u (.vec (S.map Fj)):=ru.imp λc o h k=>⟨by rw[uu (nP3 c k)];exact g5 _ _ h,trivial⟩
 have rvd:Rep (del H5 aV) Any v (Fj M):=rv.imp λc o h k=>⟨by rw[uu (nP3 c k)];exact g5 _ _ h,trivial⟩
 have rhd:Rep (del H5 aV) Any h (Fj M):=rh.imp λc o h k=>⟨by rw[uu (nP4 c k)];exact h,trivial⟩
 have tq5:qi vV aV H5:=qi.nil hP5;clear rv rh ru jd3 jT X7 nP3 nP4 n35 g5 n4 hPb b3 nb g3 s2 hw;refine bT (λx:Option V×Option V×Option V×Option V×Option V×Option V×Option V×Option V=>[Rq la,Rq a,Rq pl,Rq wl,Rq b,j? u,j? v,j? h,x.1,x.2.1,x.2.2.1,x.2.2.2.1,x.2.2.2.2.1,x.2.2.2.2.2.1,x.2.2.2.2.2.2.1,x.2.2.2.2.2.2.2]) (λ_ _=>True) (λC key=>?_) ?_
 ·skip
  refine⟨_,rfl,by decide,by decide,dF (n:=2) (λi σ H6=>qT (bO H5 aV H6) (qi vV aV H6) (E8q λ(o1 o2 o3 o4 o5 o6 o7 o8:Option V)=>σ=[Rq la,Rq a,Rq pl,Rq wl,Rq b,j? u,j? v,j? h,o1,o2,o3,o4,o5,o6,o7,o8])) ⟨bO.refl _ _,tq5,_,_,_,_,_,_,_,_,rfl⟩ ?_ ?_⟩
  ·rintro i σ H6 hi ⟨n6,tq6,o1,o2,o3,o4,o5,o6,o7,o8,rfl⟩
   have hP6:∃o,H6 aV=j? o:=by obtain⟨ps,e,_⟩:=tq6;exact⟨_,e⟩
   show FJ _ _ _ _ _
   refine bT (λD:o?=>[Rq la,Rq a,Rq pl,Rq wl,Rq b,j? u,j? v,j? h,j? (.int (0+(i:Int))),Rq D,o3,o4,o5,o6,o7,o8]) (λD H7=>LA (bO H6 aV H7) (qi vV aV H7) (H6 D=q?) (GG λ(vs:List V) (L:List (Pt T))=>Tr (H7 D=j? (.lst vs)) (Jg H7 (λc=>H6 c=q?/\c≠D) vs L) (LU L) (L.Pairwise Q2) (iQ L=M.f))) (λC key=>⟨_,rfl,_,rfl,a,T,ws,h,M,rfl,jd.mono n6.del,wd,rhd.same n6.del,by omega,tq6,λD vs L H7 n7 tq7 nD hD pt ok ord DL=>dU key D ⟨n7,tq7,nD,vs,L,hD,pt,ok,ord,DL⟩ rfl⟩) ?_
   rintro D H7 ⟨n7,tq7,nD,vs,L,hD,pt,ok,ord,DL⟩;have n57:=n6.trans n7;obtain⟨hLl,hLd,hLn⟩:=Uh ok DL;have ju:∀ {H8:Hp},ay H7 H8->mh CG CS CT H8 a T:=λg=>(jd.mono n57.del).mono ((rM _ _).trans g)
   have X8:∀ {H8:Hp} {x:V} {e:El},Rep (del H5 aV) Any x e->ay H7 H8->Rep H8 Any x e:=λr g=>(r.same n57.del).same ((rM _ _).trans g)
   refine bT (λ_:Unit=>[Rq la,Rq a,Rq pl,Rq wl,Rq b,j? u,j? v,j? h,j? (.int (0+(i:Int))),Rq D,o3,o4,o5,o6,o7,o8]) (λ_ H8=>ay H7 H8) (λC key=>?_) ?_
   ·skip
    refine⟨_,rfl,_,rfl,a,D,T,ws,vs,L,rfl,ju (.refl _),wd,hD,⟨pt.1,λi v y h1 h2=>?_⟩,ok,ord,by omega,λy hy=>by have:=hLd y hy;omega,λH8 g8=>⟨_,rfl,cX ⟨_,rfl,_,rfl,z_ (X8 rhd g8) (X8 rvd g8) (cO T (by omega) _) (cO T (by omega) _) (by omega) (by omega) (λ_=>⟨_,rfl,cX (key () _ g8)⟩) (λz=>W3 rfl z)⟩⟩⟩
    obtain⟨t,r,e1,_,e3,e4⟩:=pt.2 i v y h1 h2;exact⟨t,r,e1,trivial,e3,e4.any⟩
   rintro _ H8 g8;refine bT (λx:V=>[Rq la,Rq a,Rq pl,Rq wl,Rq b,j? u,j? v,j? h,j? (.int (0+(i:Int))),Rq D,j? x,o4,o5,o6,o7,o8]) (λx H9=>ay H7 H9/\Rep H9 Any x (aT T 1 1)) (λC key=>?_) ?_
   ·skip
    have j8:=ju g8;refine⟨_,rfl,a,rfl,⟨T,j8⟩,λ_ h=>h,a,T,rfl,j8,λr9 H9 g9 LF=>⟨aZ rfl,λl n=>dU key (.ref l) ⟨g8.trans (g9.trans (av n _)),?_⟩ rfl⟩⟩
    exact(Cf.push (n:=0) (e:=λj=>T.enc ((1:aF T.α).c j)) .nil (LF.same (av n _)).any:Cf _ Any ([]++[r9]) 1 _).rep aq trivial
   rintro x9 H9 ⟨g9,r9⟩;refine bT (λx:V×Option V×Option V×Option V=>[Rq la,Rq a,Rq pl,Rq wl,Rq b,j? u,j? v,j? h,j? (.int (0+(i:Int))),Rq D,j? x.1,x.2.1,x.2.2.1,x.2.2.2,o7,o8]) (λx HA=>ay H7 HA/\Rep HA Any x.1 (Fj M)) (λC key=>?_) ?_
   ·skip
    refine⟨_,rfl,D,rfl,⟨_,aU.of (g9 _ _ hD)⟩,fV (xs:=vs) (λj σ HA=>ay H7 HA/\Tt λ(x:V) (q1 q2 q3:Option V) (d:Nat)=>qT (σ=[Rq la,Rq a,Rq pl,Rq wl,Rq b,j? u,j? v,j? h,j? (.int (0+(i:Int))),Rq D,j? x,q1,q2,q3,o7,o8]) (Alg.bH (iQ (L.take j)) d) (Rep HA Any x (aT T (d+1) (iQ (L.take j))))) ⟨g9,x9,_,_,_,0,rfl,nC,r9⟩ (λj σ HA _ h=>aU.of (h.1 _ _ hD)) ?_ ?_⟩
    ·rintro j x σ HA hx ⟨gA,xt,q1,q2,q3,d,rfl,md,rt⟩
     have hj:j<L.length:=by rw[<- pt.1];exact(List.getElem?_eq_some_iff.mp hx).1
     have Jl:=Ya hj;have K4:L=L.take j++L[j]::L.drop (j+1):=by rw[<- Zr hj,List.take_append_drop]
     have htk:L.take (j+1)=L.take j++[L[j]]:=by rw[Zx,Jl];rfl
     generalize L[j]=y at Jl K4 htk;have ym:=Yo Jl;obtain⟨t,r,rfl,_,et,rr⟩:=pt.2 j x y hx Jl;obtain⟨dd,mdd⟩:=Jm (L.drop (j+1));have e0:M.f=iQ (L.take j)*(y.1.f ^ y.2*iQ (L.drop (j+1))):=by
      rw[<- DL,show iQ L=iQ (L.take j++y::L.drop (j+1)) from W1 iQ K4,Br]
      rfl
     have xx:d+(y.1.n*y.2+dd)=M.n:=kU (by rw[e0];exact fF md (fF (eO y.1.mon y.2) mdd)) M.mon
     have hy2:=Zg y.2 y.1.pos;have X6:∀e,e<=y.2->e*y.1.n<=y.1.n*y.2:=λe he=>by rw[Y7];exact Yz _ he
     refine⟨t,_,rfl,iR.of (gA _ _ et),rfl,_,_,rfl,_,_,rfl,rfl,_,rfl,_,rfl,by omega,by omega,?_⟩
     rw[Yp];refine dF (λe σ HB=>ay H7 HB/\GG λ(x:V) (q3:Option V)=>σ=[Rq la,Rq a,Rq pl,Rq wl,Rq b,j? u,j? v,j? h,j? (.int (0+(i:Int))),Rq D,j? x,j? r,Iq (y.2),q3,o7,o8]/\Rep HB Any x (aT T (d+e*y.1.n+1) (iQ (L.take j)*y.1.f ^ e))) ⟨gA,xt,_,rfl,by rw[Nat.zero_mul,br,show iQ (L.take j)*1=iQ (L.take j) by grind];exact rt⟩ ?_ ?_
     ·rintro e σ HB he ⟨gB,xq,q3,rfl,rq⟩
      have h1:=X6 e (by omega)
      have h2:=X6 (e+1) (by omega)
      rw[Wu] at h2;have me:Alg.bH (iQ (L.take j)*y.1.f ^ e) (d+e*y.1.n):=by rw[Y7 e];exact fF md (eO y.1.mon e)
      refine⟨_,rfl,_,rfl,_,rfl,a,T,xq,r,d+e*y.1.n+1,y.1.n+1,_,_,rfl,ju gB,rq,me.dg,(rr.same gB).any,y.1.mon.dg,by omega,λr2 HD gD yt=>?_⟩
      rw[Ww (by omega)] at yt
      refine⟨gB.trans gD,r2,_,rfl,?_⟩
      rw[show d+(e+1)*y.1.n+1=d+e*y.1.n+1+(y.1.n+1)-1 by rw[Wu];omega,show iQ (L.take j)*y.1.f ^ (e+1)=iQ (L.take j)*y.1.f ^ e*y.1.f by rw[aR];grind]
      exact yt.any
     ·rintro σ HB ⟨gB,xq,q3,rfl,rq⟩
      have e1:iQ (L.take (j+1))=iQ (L.take j)*y.1.f ^ y.2:=by
       rw[htk,Br];show iQ (L.take j)*(y.1.f ^ y.2*1)=_
       grind
      refine⟨gB,xq,_,_,_,d+y.2*y.1.n,rfl,?_,?_⟩
      ·rw[e1,Y7];exact fF md (eO y.1.mon y.2)
      ·rw[e1];exact rq
    ·rintro σ HA ⟨gA,xt,q1,q2,q3,d,rfl,md,rt⟩
     rw[pt.1,Wl,DL] at md rt;obtain rfl:=kU md M.mon
     exact key (xt,q1,q2,q3) _ ⟨gA,rt⟩
   rintro⟨xA,p1,p2,p3⟩ HA ⟨gA,rA⟩
   refine bT (λ_:Unit=>[Rq la,Rq a,Rq pl,Rq wl,Rq b,j? u,j? v,j? h,j? (.int (0+(i:Int))),Rq D,j? xA,p1,p2,p3,o7,o8]) (λ_ HB=>HA=HB) (λC key=>⟨_,rfl,_,rfl,z_ rA (X8 rvd gA) (cO T (by omega) _) (cO T (by omega) _) (by omega) (by omega) (λ_=>⟨_,rfl,cX (key () _ rfl)⟩) (λz=>W3 rfl z)⟩) ?_
   rintro _ _ rfl;refine bT (λl:o?=>[Rq la,Rq a,Rq pl,Rq wl,Rq b,j? u,j? v,j? h,j? (.int (0+(i:Int))),Rq D,j? xA,p1,p2,p3,Rq l,o8]) (λl HB=>ay H7 HB/\∃zs:List V,qT (HB l=j? (.lst zs)) (zs.length=L.length) (∀(j:Nat) z y,zs[j]?=j? z->L[j]?=j? y->Rep HB Any z (GX y))) (λC key=>?_) ?_
   ·skip
    refine⟨_,rfl,D,rfl,⟨_,aU.of (gA _ _ hD)⟩,λD2 AY=>?_⟩
    refine dH (xs:=vs) (λi ys HB=>qT (ay HA HB) (ys.length=i) (∀(j:Nat) z y,ys[j]?=j? z->L[j]?=j? y->Rep H7 Any z (GX y))) ⟨av AY _,rfl,λj z y h=>by simp at h⟩ (λi ys HB _ h=>aU.of ((gA.trans h.1) _ _ hD)) ?_ ?_
    ·rintro i m' x ys HB hm hi hx hy hlen' ⟨gB,hyl,hj⟩
     have hi':i<L.length:=by rw[<- pt.1];exact hi
     have Jl:=Ya hi';generalize L[i]=y at Jl;obtain⟨t,r,rfl,_,et,rr⟩:=pt.2 i x y hx Jl;refine⟨t,_,rfl,iR.of ((gA.trans gB) _ _ et),rfl,_,_,rfl,_,_,rfl,rfl,_,rfl,?_⟩
     refine CW.emit hm hi (by rw[pt.1,C?];omega) hy hlen' ⟨gB.aJ AY _,by rw[Yk,hyl];rfl,λj z y' h1 h2=>?_⟩
     by_cases hji:j<i
     ·rw[Yx (by omega)] at h1
      exact hj j z y' h1 h2
     ·have hjl:=(List.getElem?_eq_some_iff.mp h1).1
      rw[Yk,hyl] at hjl;have hjl:j<i+1:=hjl;obtain rfl:j=i:=by omega
      rw[<- hyl,Zc] at h1;cases h1;rw[Jl] at h2;cases h2;exact rr.any
    ·rintro ys HB hy ⟨gB,hyl,hj⟩
     exact dU key D2 ⟨gA.trans gB,ys,hy,by rw[hyl,pt.1],λj z y h1 h2=>(hj j z y h1 h2).same (gA.trans gB)⟩ rfl
   rintro lk HB ⟨gB,zs,hlk,ZL,hzs⟩;refine bT (λo:Option V=>[Rq la,Rq a,Rq pl,Rq wl,Rq b,j? u,j? v,j? h,j? (.int (0+(i:Int))),Rq D,j? xA,p1,p2,p3,Rq lk,o]) (λ_ HC=>ay H7 HC) (λC key=>?_) ?_
   ·skip
    have ruB:=X8 rud gB;rw[dW,Yc] at ruB;obtain⟨lu,us,rfl,MB,_,cu⟩:=id ruB.cf;refine⟨_,rfl,lu,rfl,⟨_,aU.of MB⟩,fV (xs:=us) (λj σ HC=>ay HB HC/\∃o:Option V,σ=[Rq la,Rq a,Rq pl,Rq wl,Rq b,Rq lu,j? v,j? h,j? (.int (0+(i:Int))),Rq D,j? xA,p1,p2,p3,Rq lk,o]) ⟨.refl _,_,rfl⟩ (λj σ HC _ h=>aU.of (h.1 _ _ MB)) ?_ ?_⟩
    ·rintro j x σ HC hx ⟨gC,o,rfl⟩
     obtain⟨hj,rx⟩:=cu.get hx;have hN:=Ya hj;generalize S[j]=N at hN;simp only[Yb,Yh,hN,Option.map_some,Option.getD_some] at rx
     obtain⟨dvN,hNn⟩:=hS N (Yo hN);refine⟨_,rfl,_,rfl,a,T,x,N,rfl,ju (gB.trans gC),(rx.same gC).any,by omega,λal HD gD=>⟨_,rfl,fE ⟨_,rfl,_,rfl,lk,zs,Fj N,L.map GX,T.ht+1,rfl,aU.of ((gC.trans gD) _ _ hlk),by rw[Yc];exact ZL,λj z d h1 h2=>?_,(rx.same (gC.trans gD)).any,cO T (by omega) _,λd hd=>?_,by omega,λ_=>⟨_,rfl,cX ⟨gC.trans gD,_,rfl⟩⟩,λz=>W3 ?_ z⟩⟩,λal HD gD=>⟨_,rfl,cX (cX ⟨gC.trans gD,_,rfl⟩)⟩⟩
     ·rw[Yh] at h2
      cases e:L[j]? with
      | none=>rw[e] at h2;cases h2
      | some y=>
       rw[e] at h2;cases h2;exact(hzs j z y h1 e).same (gC.trans gD)
     ·obtain⟨y,hy,rfl⟩:=List.mem_map.mp hd
      have:=hLd y hy
      exact cO T (by omega) _
     ·obtain⟨y,hy,e1,e2⟩:=KN al (λy hy=>(ok.al y hy).1) (by rw[DL];exact dvN)
      refine List.mem_map.mpr ⟨y,hy,?_⟩
      show aT T (y.1.n+1) y.1.f=aT T (N.n+1) N.f
      rw[e1,e2]
    ·rintro σ HC ⟨gC,o,rfl⟩
     exact key o _ (gB.trans gC)
   rintro oC HC gC;have hL0:0<L.length:=List.length_pos_iff.mpr hLn;have hV0:0<vs.length:=by rw[pt.1];exact hL0
   have hv0:vs[0]?=j? vs[0]:=Ya hV0;have hy0:L[0]?=j? L[0]:=Ya hL0;obtain⟨t0,r0,et0,_,ht0,rr0⟩:=pt.2 0 _ _ hv0 hy0;rw[et0] at hv0;obtain⟨lr,rs,rfl,hrs,klr,cr⟩:=id rr0.cf;have ag3:=hLd _ (Yo hy0);have fr6:∀c,H6 c=q?->H5 c=q?:=λc hc=>n6.fresh hP6 hc
   refine bT (λ_:Unit=>[Rq la,Rq a,Rq pl,Rq wl,Rq b,j? u,j? v,j? h,j? (.int (0+(i:Int))),Rq D,j? xA,p1,p2,p3,Rq lk,oC]) (λ_ HD=>qT (bO H5 aV HD) (qi vV aV HD) (HD D=j? (.lst vs))) (λC key=>?_) ?_
   ·skip
    have jC:=ju gC;refine⟨_,rfl,D,_,_,_,rfl,rfl,aU.of (gC _ _ hD),bF (j:=0) hv0,t0,_,_,_,rfl,rfl,iR.of (gC _ _ ht0),bF (j:=0) rfl,.inl ⟨rfl,_,aU.of (gC _ _ hrs)⟩,_,rfl,a,rfl,⟨T,jC⟩,λ_ h=>h,a,T,rfl,jC,λr HD gD rr=>⟨lr,rs,r,rfl,rfl,(gC.trans gD) _ _ hrs,by rw[cr.len,C?];omega,?_⟩⟩
    have X_:=gC.trans gD;exact key () _ ⟨(n57.trans (bO.of X_)).aJ (fr6 lr klr.1) _,GZ (tq7.same X_) (X_ _ _ hrs),by rw[aH klr.2.symm];exact X_ _ _ hD⟩
   rintro _ HD ⟨nD',tqD,YA⟩;refine⟨_,rfl,.inl ⟨rfl,_,aU.of YA⟩,_,rfl,D,_,_,_,rfl,rfl,aU.of YA,bF (j:=0) hv0,D,vs,_,rfl,rfl,YA,by rw[pt.1,C?];omega,?_⟩
   exact⟨nD'.aJ (fr6 D nD) _,GZ tqD YA,_,_,_,_,_,_,_,_,rfl⟩
  ·rintro σ H6 ⟨_,_,o1,o2,o3,o4,o5,o6,o7,o8,rfl⟩
   exact key (o1,o2,o3,o4,o5,o6,o7,o8) _ trivial
 rintro _ H6 _;exact q _
end
local macro_rules | `(tactic| walk_at "b1") => `(tactic| exact L2.bd1 λ_ _ _ _ _ _ _ => rfl)
local macro_rules | `(tactic| walk_at "b2") => `(tactic| exact L2.bd2 λ_ _ _ _ _ _ _ _ => rfl)
local macro_rules | `(tactic| walk_at "b3") => `(tactic| exact L2.bd3 λ_ _ _ _ _ _ _ _ _ => rfl)
local macro_rules | `(tactic| walk_at "b4") => `(tactic| exact L2.bd4 λ_ _ _ _ _ _ _ _ _ _ => rfl)
theorem all_mk {l:PySem.W.OpenLaw}{w:H?}{h:Q?}{mg:Str->Option l?}{fa:o?}(X:K.In h)(G:h.Ns G? mg)(hfa:mg "law"=j? (.ref fa))
  {bP:o?}
  {bD:o?}
  {bV:o?}
  {f29:o?} {abR abS:Option o?} {abT:Array (Option l?)} {abU abV abW abX Uj abY:l?}
  {f43:o?} {ab0 Xg:Option o?} {ab1:Array (Option l?)} {ab2 Xh Xi Xj Uk Xk:l?}
  {iH aV:o?}
  {CD:Tok}
  {EW:Tok}
  {jn:o?} {G0:Obj}
  (xC:O? K G? "Ground"=j? (j? (.ref bP)))
  (xD:O? K G? "Storey"=j? (j? (.ref bD)))
  (Bs:O? K G? "Tower"=j? (j? (.ref bV)))
  (Bt:d7 K "copied" rS)
  (mQ:d7 K "without_lead" i7)
  (lz:d7 K "with_lead_one" g_)
  (qy:d7 K "first_lead" qj)
  (Bu:d7 K "kernel" kM)
  (uL:d7 K "is_whole" qk)
  (uM:d7 K "is_prime" ql)
  (mR:d7 K "number_power" i8)
  (jo:d7 K "without_noughts" fN)
  (qz:d7 K "minus_poly" fu)
  (oj:d7 K "scaled_poly" gR)
  (qA:d7 K "times_poly" i9)
  (qB:d7 K "over_monic" lR)
  (uN:d7 K "monic_of" qm)
  (sC:d7 K "over_poly" nE)
  (om:d7 K "common_poly" jX)
  (mT:d7 K "derived_poly" jc)
  (uO:d7 K "power_by" qo)
  (sD:d7 K "letter_of" nG)
  (iI:d7 K "letter_to_powers" fz)
  (sE:d7 K "primes_in" fX)
  (uP:d7 K "is_alone" qp)
  (lA:d7 K "stay_at_power" cG)
  (mU:d7 K "poly_figures" mK)
  (jq:d7 K "poly_of_figures" fO)
  (sF:d7 K "parted_by" rT)
  (jr:d7 K "powers_of_parts" je)
  (lB:d7 K "root_by_prime" ie)
  (jK:d7 K "part_and_times" jI)
  (a29:O? K G? "parts_of"=j? (j? (.ref f29))) (l29:K.lookup f29=j? ⟨abU,abR,.func (Z? "parts_of" "parts_of" (cV iE) (bY iE) (aj iE) .none abV abW abX abS Uj abY),abT⟩) (c29:U! K Uj "parts_of"=true) (k29:E! K (.ref f29)=true)
  (uQ:Uj=.ref iH) (kW:PySem.W.codeHdIn K iH aV=true)
  (uR:d7 K "power_in" qu)
  (lC:d7 K "is_monic_over" ig)
  (mV:d7 K "is_next_part" jf)
  (qC:d7 K "top_of_any" lU)
  (EX:d7 K "_law_bag" EE)
  (Bv:d7 K "_law_take" AH)
  (sG:d7 K "_law_element" nH)
  (Bw:d7 K "_law_part" vE)
  (xE:d7 K "_law_tower" wX)
  (sH:d7 K "_law_product" nI)
  (Bx:d7 K "_law_copy" vF)
  (xF:d7 K "_law_built" sU)
  (oq:d7 K "_law_are_parts" fM)
  (a43:O? K G? "law"=j? (j? (.ref f43))) (l43:K.lookup f43=j? ⟨ab2,ab0,.func (Z? "law" "law" (cV tW) (bY tW) (aj tW) .none Xh Xi Xj Xg Uk Xk),ab1⟩) (c43:U! K Uk "law"=true) (k43:E! K (.ref f43)=true)
  (ou:dJ K bP "__init__" "Ground.__init__" jY)
  (lD:dJ K bP "degree" "Ground.degree" fG)
  (ow:dJ K bP "zero" "Ground.zero" gT)
  (qD:dJ K bP "one" "Ground.one" jg)
  (mW:dJ K bP "whole" "Ground.whole" jh)
  (oz:dJ K bP "plus" "Ground.plus" gU)
  (mX:dJ K bP "minus" "Ground.minus" f_)
  (mY:dJ K bP "times" "Ground.times" gb)
  (oA:dJ K bP "back" "Ground.back" jZ)
  (mZ:dJ K bP "power" "Ground.power" ji)
  (iJ:dJ K bP "is_nought" "Ground.is_nought" dQ)
  (gK:dJ K bP "is_element" "Ground.is_element" eT)
  (jM:dJ K bP "figures" "Ground.figures" gw)
  (jN:dJ K bP "made_of" "Ground.made_of" gy)
  (oB:dJ K bD "__init__" "Storey.__init__" j_)
  (m5:dJ K bD "width" "Storey.width" jj)
  (lE:dJ K bD "degree" "Storey.degree" iu)
  (oE:dJ K bD "zero" "Storey.zero" gW)
  (qE:dJ K bD "one" "Storey.one" lV)
  (m6:dJ K bD "whole" "Storey.whole" jk)
  (lF:dJ K bD "lifted" "Storey.lifted" fH)
  (oF:dJ K bD "plus" "Storey.plus" gX)
  (m8:dJ K bD "minus" "Storey.minus" gc)
  (m9:dJ K bD "times" "Storey.times" gf)
  (oG:dJ K bD "back" "Storey.back" kh)
  (m_:dJ K bD "power" "Storey.power" jl)
  (jO:dJ K bD "by_part" "Storey.by_part" e_)
  (iK:dJ K bD "is_nought" "Storey.is_nought" fB)
  (gM:dJ K bD "is_element" "Storey.is_element" eU)
  (jP:dJ K bD "figures" "Storey.figures" gz)
  (jQ:dJ K bD "made_of" "Storey.made_of" fc)
  (qF:dJ K bV "__init__" "Tower.__init__" lW)
  (ng:dJ K bV "degree" "Tower.degree" jm)
  (qG:dJ K bV "zero" "Tower.zero" lX)
  (sI:dJ K bV "one" "Tower.one" nL)
  (oH:dJ K bV "whole" "Tower.whole" ki)
  (qH:dJ K bV "plus" "Tower.plus" lY)
  (oJ:dJ K bV "minus" "Tower.minus" kj)
  (oK:dJ K bV "times" "Tower.times" ko)
  (qI:dJ K bV "back" "Tower.back" lZ)
  (oM:dJ K bV "power" "Tower.power" ku)
  (jt:dJ K bV "is_nought" "Tower.is_nought" fR)
  (iL:dJ K bV "is_element" "Tower.is_element" fC)
  (lG:dJ K bV "figures" "Tower.figures" iw)
  (lH:dJ K bV "made_of" "Tower.made_of" iy)
  (xG:PySem.W.plainGet K bP Str.empty=true) (xH:PySem.W.hasDictIn K bP=true) (xJ:PySem.W.plainOver K bP=true) (xK:M? K (.ref bP) "__setattr__"=j? (j? (.builtin "object.__setattr__"))) (pP:PySem.W.makesIn K bP=true) (xM:E! K (.ref bP)=true)
  (uS:M? K (.ref bP) "p"=j? q?)
  (xN:PySem.W.plainGet K bD Str.empty=true) (xO:PySem.W.hasDictIn K bD=true) (xP:PySem.W.plainOver K bD=true) (xQ:M? K (.ref bD) "__setattr__"=j? (j? (.builtin "object.__setattr__"))) (pQ:PySem.W.makesIn K bD=true) (xR:E! K (.ref bD)=true)
  (nh:M? K (.ref bD) "floor"=j? q?)
  (uT:M? K (.ref bD) "p"=j? q?)
  (oN:M? K (.ref bD) "part"=j? q?)
  (By:PySem.W.plainGet K bV Str.empty=true) (BA:PySem.W.hasDictIn K bV=true) (BB:PySem.W.plainOver K bV=true) (BC:M? K (.ref bV) "__setattr__"=j? (j? (.builtin "object.__setattr__"))) (pR:PySem.W.makesIn K bV=true) (BD:E! K (.ref bV)=true)
  (sJ:M? K (.ref bV) "top"=j? q?)
  (xS:M? K (.ref bV) "p"=j? q?)
  (oO:M? K (.ref bV) "parts"=j? q?)
  (qJ:M? K (.ref bV) "kept"=j? q?)
  (oQ:O? K G? "MOST_DEGREE"=j? (j? (.int 12 CD)))
  (qK:O? K G? "MOST_PARTS"=j? (j? (.int 5 EW)))
  (BE:O? K G? "PRIMES"=j? (j? (.ref jn))) (BF:K.lookup jn=j? G0)
  (BG:Ed G0 (PR.map λp:Nat=>(p:Int))=true)
  (Ox:O? K G? "abs"=j? q?)
  (Oz:O? K G? "all"=j? q?)
  (Jq:O? K G? "bool"=j? q?)
  (sL:O? K G? "enumerate"=j? q?)
  (OA:O? K G? "int"=j? q?)
  (qL:O? K G? "isinstance"=j? q?)
  (OB:O? K G? "len"=j? q?)
  (Jr:O? K G? "list"=j? q?)
  (OC:O? K G? "max"=j? q?)
  (OD:O? K G? "min"=j? q?)
  (EY:O? K G? "range"=j? q?)
  (BH:O? K G? "sorted"=j? q?)
  (EZ:O? K G? "tuple"=j? q?)
  (OG:O? K G? "zip"=j? q?):
  ∃fd:T!,(∀(s:u?) (v:l?),BindsTo s fd ⟨[v],[]⟩ [("_law_script",v)])/\∀base:Q?,K.In base->base.Ns G? mg->BMain mg base->iP l.prog w K mg base z4 39 fa fd ["_law_script"] (KO K aV):=by
 have e:=hfa.symm.trans (PySem.W.mg_of X G a43);cases e;have OH:=bQ (mg:=mg) (ps:=pI) X G Bt (by walk_at "b1")
 have BI:=bQ (mg:=mg) (ps:=IS) X G mQ (by walk_at "b4")
 have zj:=bQ (mg:=mg) (ps:=NW) X G lz (by walk_at "b3")
 have E1:=bQ (mg:=mg) (ps:=NZ) X G qy (by walk_at "b2")
 have OI:=bQ (mg:=mg) (ps:=["rows","p"]) X G Bu (by walk_at "b2")
 have Js:=bQ (mg:=mg) (ps:=pI) X G uL (by walk_at "b1")
 have Jt:=bQ (mg:=mg) (ps:=["k"]) X G uM (by walk_at "b1")
 have sM:=bQ (mg:=mg) (ps:=["k","n"]) X G mR (by walk_at "b2")
 have vX:=bQ (mg:=mg) (ps:=AE) X G jo (by walk_at "b2")
 have E2:=bQ (mg:=mg) (ps:=dM) X G qz (by walk_at "b3")
 have CH:=bQ (mg:=mg) (ps:=AF) X G oj (by walk_at "b3")
 have E3:=bQ (mg:=mg) (ps:=dM) X G qA (by walk_at "b3")
 have E4:=bQ (mg:=mg) (ps:=dM) X G qB (by walk_at "b3")
 have Ju:=bQ (mg:=mg) (ps:=dR) X G uN (by walk_at "b2")
 have G1:=bQ (mg:=mg) (ps:=dM) X G sC (by walk_at "b3")
 have CI:=bQ (mg:=mg) (ps:=dM) X G om (by walk_at "b3")
 have BJ:=bQ (mg:=mg) (ps:=dR) X G mT (by walk_at "b2")
 have BK:=bQ (mg:=mg) (ps:=Lx) X G uO (by walk_at "b4")
 have G2:=bQ (mg:=mg) (ps:=["tower"]) X G sD (by walk_at "b1")
 have ni:=bQ (mg:=mg) (ps:=yE) X G iI (by walk_at "b3")
 have G3:=bQ (mg:=mg) (ps:=["n"]) X G sE (by walk_at "b1")
 have Jv:=bQ (mg:=mg) (ps:=dR) X G uP (by walk_at "b2")
 have zk:=bQ (mg:=mg) (ps:=dR) X G lA (by walk_at "b2")
 have BL:=bQ (mg:=mg) (ps:=yE) X G mU (by walk_at "b3")
 have vY:=bQ (mg:=mg) (ps:=NX) X G jq (by walk_at "b2")
 have G4:=bQ (mg:=mg) (ps:=dM) X G sF (by walk_at "b3")
 have vZ:=bQ (mg:=mg) (ps:=dR) X G jr (by walk_at "b2")
 have zl:=bQ (mg:=mg) (ps:=dR) X G lB (by walk_at "b2")
 have xU:=bQ (mg:=mg) (ps:=dR) X G jK (by walk_at "b2")
 have Jw:NS K mg "parts_of" iE dR iH:=QI X G a29 l29 c29 k29 (λ_ _ _ _ _ _ us hl=>match us,hl with | [_,_],_=>rfl) uQ
 have Jx:=bQ (mg:=mg) (ps:=IV) X G uR (by walk_at "b3")
 have zm:=bQ (mg:=mg) (ps:=wV) X G lC (by walk_at "b2")
 have BN:=bQ (mg:=mg) (ps:=wV) X G mV (by walk_at "b2")
 have E5:=bQ (mg:=mg) (ps:=["p","parts"]) X G qC (by walk_at "b2")
 have Q8:=bQ (mg:=mg) (ps:=NV) X G EX (by walk_at "b2")
 have OJ:=bQ (mg:=mg) (ps:=IT) X G Bv (by walk_at "b2")
 have G5:=bQ (mg:=mg) (ps:=GD) X G sG (by walk_at "b3")
 have OL:=bQ (mg:=mg) (ps:=UC) X G Bw (by walk_at "b4")
 have LX:=bQ (mg:=mg) (ps:=NY) X G xE (by walk_at "b1")
 have G6:=bQ (mg:=mg) (ps:=Lu) X G sH (by walk_at "b3")
 have OM:=bQ (mg:=mg) (ps:=IW) X G Bx (by walk_at "b1")
 have LY:=bQ (mg:=mg) (ps:=NT) X G xF (by walk_at "b3")
 have CJ:=bQ (mg:=mg) (ps:=NU) X G oq (by walk_at "b2")
 have Xl:=p9 (st:=tW) l43 c43 k43;have CK:=Er (mg:=mg) (ps:=IX) X G pP xM xC ou (by walk_at "b2")
 have zo:=bw (ps:=cF) lD (by walk_at "b1")
 have CL:=bw (ps:=cF) ow (by walk_at "b1")
 have E6:=bw (ps:=cF) qD (by walk_at "b1")
 have BO:=bw (ps:=qS) mW (by walk_at "b2")
 have CM:=bw (ps:=cN) oz (by walk_at "b3")
 have BP:=bw (ps:=cN) mX (by walk_at "b3")
 have BQ:=bw (ps:=cN) mY (by walk_at "b3")
 have CN:=bw (ps:=cI) oA (by walk_at "b2")
 have BR:=bw (ps:=nZ) mZ (by walk_at "b3")
 have uU:=bw (ps:=cI) iJ (by walk_at "b2")
 have tL:=bw (ps:=rR) gK (by walk_at "b2")
 have xV:=bw (ps:=cI) jM (by walk_at "b2")
 have xW:=bw (ps:=qR) jN (by walk_at "b2")
 have CO:=Er (mg:=mg) (ps:=IU) X G pQ xR xD oB (by walk_at "b3")
 have BS:=bw (ps:=cF) m5 (by walk_at "b1")
 have zp:=bw (ps:=cF) lE (by walk_at "b1")
 have CP:=bw (ps:=cF) oE (by walk_at "b1")
 have E7:=bw (ps:=cF) qE (by walk_at "b1")
 have BU:=bw (ps:=qS) m6 (by walk_at "b2")
 have zq:=bw (ps:=cI) lF (by walk_at "b2")
 have CQ:=bw (ps:=cN) oF (by walk_at "b3")
 have BV:=bw (ps:=cN) m8 (by walk_at "b3")
 have BW:=bw (ps:=cN) m9 (by walk_at "b3")
 have CU:=bw (ps:=cI) oG (by walk_at "b2")
 have BX:=bw (ps:=nZ) m_ (by walk_at "b3")
 have xX:=bw (ps:=Lz) jO (by walk_at "b2")
 have uV:=bw (ps:=cI) iK (by walk_at "b2")
 have tN:=bw (ps:=rR) gM (by walk_at "b2")
 have xY:=bw (ps:=cI) jP (by walk_at "b2")
 have xZ:=bw (ps:=qR) jQ (by walk_at "b2")
 have E8:=Er (mg:=mg) (ps:=GF) X G pR BD Bs qF (by walk_at "b3")
 have BY:=bw (ps:=cF) ng (by walk_at "b1")
 have E9:=bw (ps:=cF) qG (by walk_at "b1")
 have G7:=bw (ps:=cF) sI (by walk_at "b1")
 have CV:=bw (ps:=qS) oH (by walk_at "b2")
 have E_:=bw (ps:=cN) qH (by walk_at "b3")
 have CY:=bw (ps:=cN) oJ (by walk_at "b3")
 have CZ:=bw (ps:=cN) oK (by walk_at "b3")
 have Fb:=bw (ps:=cI) qI (by walk_at "b2")
 have C0:=bw (ps:=nZ) oM (by walk_at "b3")
 have v5:=bw (ps:=cI) jt (by walk_at "b2")
 have uW:=bw (ps:=rR) iL (by walk_at "b2")
 have zu:=bw (ps:=cI) lG (by walk_at "b2")
 have zw:=bw (ps:=qR) lH (by walk_at "b2")
 have OO:G8 K bP:=⟨xG,xH,xJ,xK⟩;have OQ:G8 K bD:=⟨xN,xO,xP,xQ⟩;have Q9:G8 K bV:=⟨By,BA,BB,BC⟩;have B:c7 mg:=⟨A! X G Ox,A! X G Oz,A! X G Jq,A! X G sL,A! X G OA,A! X G qL,A! X G OB,A! X G Jr,A! X G OC,A! X G OD,A! X G EY,A! X G BH,A! X G EZ,A! X G OG⟩;refine⟨Z? "law" "law" (cV tW) (bY tW) (aj tW) .none Xh Xi Xj Xg Uk Xk,λs v=>.of_eq rfl,λbase _ _ hbm=>?_⟩
 have hPR:∀H,iR K H jn (PR.map λp:Nat=>V.int (p:Int)):=λH=>by
  have z:iR K H jn ((PR.map λp:Nat=>(p:Int)).map V.int):=Ih BF BG
  rw[Z3] at z;exact z
 have tX:r_ K mg bP bD:=⟨⟨OO,uS⟩,⟨OQ,nh,uT,oN⟩,
  zo,CL,E6,CM,BP,BQ,uU,BR,CN,
  BS,zp,CP,E7,CQ,BV,BW,uV,xX,CU,zq,
  OH,sM,vX,E2,CH,E3,E4,Ju,G1,CI,BK,G2,ni,G3,Jv,Jx⟩
 have tY:A5 K mg bP bD:=⟨tL,BO,tN,BU,Js⟩;have tZ:DE K bV:=⟨⟨Q9,sJ,xS,oO,qJ⟩,BY,E9,G7,CV,E_,CY,CZ,Fb,v5,uW⟩;have tM:N6 K mg bP bD bV:=⟨CK,CO,E8,zm,BN,E5,Jt,⟨_,PySem.W.mg_of X G oQ⟩,⟨_,PySem.W.mg_of X G qK⟩,⟨_,PySem.W.mg_of X G BE,hPR⟩⟩;have tw:=QN (P:=l.prog) (w:=w) (base:=base) B tX tY tZ tM;have OR:=LG (P:=l.prog) (w:=w) (base:=base) B OJ;have acd:=N8 (P:=l.prog) (w:=w) (base:=base) B Q8;have RN:=vK B OR G5 7;have RO:=LH B tw.O RN tw.qw.alone OL;have Ul:=Jc B tw.O tw.make OR RO LX;have RP:=EV (J:=mh bP bD bV) B tw.O G6;have Xm:=DM (P:=l.prog) (w:=w) (base:=base) B OM 9;have tG:=abk (P:=l.prog) (w:=w) (base:=base) B tX tY tZ ⟨xV,xW,xY,xZ,zu,zw⟩;have tK:T_ l.prog w K mg base 31 (mh bP bD bV):=⟨⟨tG.toTwE.up (by decide),tG.vL.mono (by decide),tG.sW.mono (by decide)⟩,QX B tX tY tZ ⟨BX,C0⟩⟩
 have np:=k_ (P:=l.prog) (w:=w) (base:=base) B sM;have dpb:=yw B tw.O.toTwB tw.qw.tU tw.qw.times BK;have ace:=lK B tw.O.toTwB tw.qw.tU tw.qw.letter dpb ni;have dwl:=za (P:=l.prog) (w:=w) (base:=base) B BI;have dlo:=xj (P:=l.prog) (w:=w) (base:=base) B zj;have dfl:=CB (P:=l.prog) (w:=w) (base:=base) B E1;have acf:=LL B dwl dlo dfl OI;have dpf:=zd B tK.toTwG BL;have dpo:=uI B tK.toTwG (tw.qw.cut.mono (by decide)) vY
 have acg:=ze B tK.toTwG (tw.qw.cut.mono (by decide)) BJ
 have drt:=xu B tK (by decide) np zl
 have dpt:=vR B tK acg drt (tw.qw.common.mono (by decide)) (tw.qw.tU.mono (by decide)) xU
 have ach:=ET B tK (tw.qw.tU.mono (by decide)) (tw.qw.cut.mono (by decide)) (tw.qw.common.mono (by decide)) (tw.qw.minus.mono (by decide)) G4
 have dst:=xw (k':=33) B tK (by decide) ace (dpf.mono (by decide)) dpo (acf.mono (by decide)) (tw.qw.tU.mono (by decide)) (tw.qw.times.mono (by decide)) (tw.qw.scaled.mono (by decide)) (tw.qw.minus.mono (by decide)) zk
 have dpw:=uJ (k':=36) B tK (by decide) (dst.mono (by decide)) ach vZ
 have Um:=GY (k':=37) B tK (by decide) (by decide) hbm kW dpt dpw Jw
 have Uo:=Jk B tw.O OR RN RO RP LY;have aci:=Bq (k':=34) B tw.O (by decide) tw.qw.alone CJ
 exact Ui B tw.O (kp:=38) (by decide) acd Ul Uo Xm RP Um aci tw.qw.alone Xl
theorem walk {l:PySem.W.OpenLaw}{q:F?}{loose:List Str}{XP:(Str->Option l?)->Q?->Prop}{YP:H?->Q?->Prop}{d:DefRec}{K:Params->bK}(hn:l.most=j? 63)(hdf:d.params.defaults=[])
  (hY:∀(w:H?) (h:Q?),YP w h->(K w.params).In h/\PySem.W.TabsAt [(198,196)] h) (hK:∀w:H?,PySem.W.noTabs (K w.params)=true)
  (F:∀(w:H?) (mg:Str->Option l?) (fa:o?) (h:Q?),(K w.params).In h->h.Ns G? mg->mg d.name=j? (.ref fa)->
   ∃fd:T!,(∀(s:u?) (u:l?),BindsTo s fd ⟨[u],[]⟩ [("_law_script",u)])/\∀base:Q?,(K w.params).In base->base.Ns G? mg->BMain mg base->iP l.prog w (K w.params) mg base z4 39 fa fd ["_law_script"] (KO (K w.params) 196)):
  PySem.W.WalkO q loose XP YP l.row.toRowW d [] (λf vs=>PySem.call f vs):=
 L2.NR (tabs:=[(198,196)]) (n:=63) (k:=39) (x:="_law_script") (CX:=λ_=>z4) (sp:=λw=>KO (K w.params) 196) hn (by decide) hdf ⟨rfl,by decide,by decide,rfl⟩ hY hK F (λ_ _ a ns hl hS hT=>⟨a,ns,rfl,hS,hl,hT (198,196) (by simp),λ_=>rfl⟩) λ_ _ _ _ _ z=>z
end K20
structure PySem.W.Fast:Prop where(tw5373488281400991175 tw10310157889305034684 tw11752326177307771432 tw5865843105044189373 tw5566477228021914617 tw14488295872365272286 tw7904801437161338104 tw499935982125855323 tw10589652637536736701 tw12381309656738198535 tw9979627630962155731 tw6940850768225256342 tw6972559473205804867 tw16037211586959313016 tw2277581227589379471 tw10207858702581501020 tw12774451203077262113 tw169560838147084356 tw1967817642900926296 tw15921513187613938780 tw9917911302381626123 tw3860193204798082378 tw16508526002994964159 tw1732298022284655164 tw7322313754966586737 tw10367777022405590596 tw14039159584225794128 tw14232922902366022683 tw13246913568343381563 tw3863999959494704490 tw3629153398964364322 tw12446955755634408422 tw4102381704457596136 tw8934111874167484230 tw2990332069084295106 tw13415443975574515980 tw2543516556580584326 tw3970698484156252188 tw5306573116509476904 tw634080738293387467 tw14166040065646630091 tw10198493948487104780 tw13273193072381044843 tw3432835945961552359 tw13104569031629379128 tw14089265620962148909 tw16728893940485425439 tw16372499254724293585 tw15051340351479853352 tw2618668064335778905 tw9567143318360904496 tw243690375880224581 tw10907018737837688412 tw4702456864136518283 tw16377914704231404567 tw6404792529286205854 tw12492397298016970522 tw11579757538032253044 tw12211711233323315820 tw2115756564831735424 tw6924092917182030229 tw14572285542652859991 tw17770434732035951554 tw13756431759629337263 tw8641213754614505087 tw3531445813666803292 tw13633851371670041766 tw12932115099974605917 tw11723507060425500909 tw15402474416079277878 tw14167646495840408965 tw4058033554416187832 tw13192221582613145481 tw14164174430398167682 tw3681446330812805633 tw10764738626668065355 tw2014863800396600166 tw9987418992273982118 tw9853642882987064205 tw11906269092601167233 tw17967783437482383860 tw9009821326355655435 tw4474172227034066039 tw258385038063937212 tw1714730054651333237 tw8940242124948934755 tw9141548711789575310 tw10004368463699572633 tw14159363966734618007 tw12542054477393901042 tw16044650695841490788 tw8555891207274732859 tw10061156116637862454 tw13924526595523645316 tw1656136342096527325 tw5666595579633623793 tw17784402343556133665 tw4069014921368574074 tw314192822462660503 tw282173140950045279 tw7854791191318572219 tw17932065300572764573 tw17272545465016796762 tw9666806837620008693 tw11704661229081482658 tw5702543297646148093 tw2838803638999099024 tw9739354424619649271 tw17668245884370248261 tw18047695029053248024 tw9130292611451333110 tw10081788394658650256 tw13110488472481482964 tw18258491652290372719 tw3674083204863217585 tw7626458874835604728 tw14683112512190059072 tw7422704746685618536 tw712073596433096634 tw14978221155427244991 tw7412561566134534291 tw11141102350366366944 tw7032110651727696085 tw835194264414328103 tw6903580197972940640 tw15572601881580763143 tw6707210789065339347 tw5765567940681421914 tw14551872982601767935 tw733558903690246122 tw4795051151695097167 tw16773472464629389314 tw13933860736115484271 tw11755345542604634976 tw14386548227679242474 tw11693851213895483967 tw11473390214904810062 tw8438946649292910789 tw10742186371325669516 tw7910493534809617595 tw16021123313715718808 tw14905993451628125173 tw6994632965913622345 tw3071642526424018374 tw2158106960409176386 tw5663111810608833875 tw15425237832754971164 tw17609784738277206997 tw355831056332639314 tw11056643670807964756 tw8993533856659290226 tw10804441065328684924 tw6548774757856174089 tw16562228078331204669 tw5893007903296180272 tw4705201689733625863 tw4713908232983300768 tw7872083169553940743 tw18125487187805373874 tw8389297115778886248 tw8971839452686712037 tw13936355151291770461 tw9968130114778205273 tw1463185434252348457 tw3240258488869081447 tw5905776575399737854 tw1500411634268636643 tw13424396711718833550 tw7715448858204151285 tw8933129672872748860 tw12802192080975197568 tw13686729677442522485 tw1048039440852470150 tw15545383484499041837 tw4570388601180205823 tw12499489491830656676 tw3425978786698032331 tw11061145852816286163 tw1703581923059022886 tw2862430423993444135 tw16861554915116557154 tw4043209669950625780 tw17640032529379508019 tw14035879333701480532 tw1938254356624214598 tw3718354269944155193 tw13240394513076555970 tw16454863723806544879 tw5099062006857304584 tw12369691078502912043 tw15222599790210950133 tw11825811558988389354 tw17435357906148782428 tw1038038306637185699 tw10418671828375617705 tw4834283361491263055 tw7363662520887100595 tw613340824243747489 tw16350725055563454404 tw1455521108599828845 tw1081379839101214929 tw7042075742542296627 tw7112048703734199489 tw17165917588041283562 tw1806140835049325270 tw13264721576467219687 tw13763768667842055095 tw13614902718079914952 tw1364864702993324624 tw4920178218086219697 tw10782157638465052194 tw57704780715660554 tw9966381006602516590 tw13922092754222824108 tw14661279609542166344 tw10575849419582275492 tw12890190294579435424 tw9495233294551327996 tw14295985697950481789 tw15727112322723181250 tw11079811085256701575 tw13188675125945070964 tw16519103807954850818 tw11537274735174902361 tw15223262679341083214 tw5733112796297429047 tw6645378538032287948 tw8921476560551430431 tw9522742780060246547 tw33014825327760958 tw9834819114918262094 tw5073965213680045744 tw17346450583409356056 tw3651765751843470349 tw11425936903143483536 tw2097119985167857995 tw13413625415469367017 tw539648205235512873 tw18348851980906718577 tw7978960226962855367 tw15864700749714055253 tw11479458777451822007 tw10782114589302718510 tw5936116610009944431 tw3789958529915217182 tw16596948601276666235 tw6247050841417157815 tw1178032523867433113 tw8014712984613067827 tw16519197065758993411 tw13888787354558703142 tw1494451593154164311 tw7986588806898901985 tw6298509828411848222 tw12654820073783395242 tw2796917968129654839 tw1331140587048608881 tw1433437701337208214 tw16292778390697602262 tw12556513063795261160 tw1463215311168266570 tw7626216863987777442 tw2890834491487234340 tw1407563497802601909 tw6510498916521255616 tw11545450422657267601 tw9474117838080828323 tw12927108829167453897 tw13422441781986754063 tw5980851161099249583 tw18390866772992569330 tw17770703514670898893 tw7865020467887409169 tw13378558156596645028 tw12652131529037012141 tw1061971033048075204 tw15627383948293768493 tw12067159034477239106 tw4672526006192584599 tw14574332520073971100 tw12190476535789515883 tw247903074148443085 tw10374978007480485977 tw13269497540601684537 tw10018922571814080758 tw16431533638275869160 tw3092014637024661293 tw17828589324371771782 tw1800595670746310079 tw1425179227795608855 tw14510238237093423597 tw7320606251348697270 tw5520707436941651400 tw1065596079755439127 tw17363460557550723765 tw17983268657121357775 tw7792552072509127549 tw7774081179130999948 tw3931001822675236513 tw1802213815064648508 tw6233600444315325647 tw9220758625103548258 tw4090195007065801170 tw9884339246282794740 tw7099386458656094958 tw1741673008119898819 tw12644257614653157605 tw12523458935023663852 tw8960602894110070365 tw6508733061324603622 tw6869000175349532386 tw15024957146862026750 tw17176367354631555740 tw7183578432501125760 tw8089671224365428204 tw6138165127656563915 tw6373790563609444112 tw4934953534599713761 tw8533823871778014871 tw16962910139333991074 tw867422182875708006 tw14325410107826636705 tw6159426432163100919 tw3456682982636238120 tw15766171305842495799 tw16535273833606894270 tw1115215079587647527 tw1382360725120173190 tw6590671994036556878 tw3208128123746619385 tw5841636834634059857 tw17230165369372382218 tw15704526815254537410 tw15369182931225616732 tw12314659635924441293 tw11606241632922121816 tw6550317388887480746 tw12227686254014041669 tw10247170583787392682 tw8426054242312144933 tw16009720640170646414 tw16183070514058332244 tw15037502277726020040 tw13030035530968106855 tw16610291471215771478 tw7247558744272779515 tw1424283040435138316 tw8428784500496466647 tw2054335065424651345 tw5587776603084253754 tw10769201281014718049 tw3100612327878075532 tw557685198717982304 tw4668194329710623203 tw14463751714496411484 tw4959803974493863974 tw11990454738724986958 tw7926361038340009843 tw8364503664283549609 tw15815550744034528336 tw11994483797799403679 tw447538307189222120 tw4515977510701446950 tw10325915798580570301 tw7021548992583329776 tw3508747153476188080 tw4312770655119092726 tw2513108394037618019 tw4186548923083529915 tw6885117293498342160 tw5382426509277378875 tw8687621072099675280 tw7600363612673244332 tw10611241597798722752 tw3938862936945665104 tw3602850444010838133 tw5796456486867306022 tw6066467678435786221 tw5505323771381628129 tw3507539216116765384 tw10630428719110774617 tw2337671521059509379 tw8297252593705910685 tw4066998536963220066 tw440125123663067014 tw14364698290063394280 tw3082258785899570155 tw18121000234444213308 tw5211880162113962152 tw14460512087667747649 tw14517000683318173390 tw6578397108725000084 tw16818213559012420577 tw15101192073137822324 tw7810712970685083378 tw9956432759572011478 tw15709742627376306074 tw5967367254884296218 tw12559949671326016867 tw942462022777315755 tw2532792392385592467 tw3191238007483897152 tw2238937128836763053 tw13343806469409852871 tw10900028951155914315 tw6788384114532585660 tw13568116439163726760 tw8500373651635185654 tw4802829452190875023 tw10133851403758088092 tw12229054484574099639 tw18162511979967666295 tw8824501958183340015 tw4278146560755909040 tw4543968314849924896 tw9162123218530729478 tw6974886561762302081 tw1753425621373203126 tw16492697908081382370 tw15793545757815734588 tw2129659610618186427 tw1501795426162516723 tw5311049532186970039 tw2849865533226372412 tw16373260385051167692 tw13975685169673168810 tw14596718569242791331 tw1531834924177714712 tw15009946165369585649 tw3144391211725309713 tw12566074224389944994 tw14316510925540154664 tw10084909478565941781 tw11546738921121375415 tw919449612979109760 tw11736356976882692093 tw13739821241514645825 tw7415269670376608493 tw13505280174332047906 tw1422957626740036594 tw5248412656222482504 tw16590002956065182276 tw7565466498267372352 tw8007800003923721363 tw12484754058964445735 tw6132332520641878659 tw13998925208266890590 tw3334681857869712934 tw13940577907075997735 tw2157424601983504249 tw3702549668099263382 tw6773047053263817783 tw272783982910249470 tw16219717321218489571 tw11621767531308619118 tw10341438400555072319 tw725919879781341674 tw4597637147063780700 tw17921837684259731219 tw12125044942841354497 tw8038752190325984786 tw10660438839600344727 tw13206510471110671261 tw15018102596465366669 tw4129888638889573594 tw1405147481731796390 tw621204539591657632 tw10274778815342060692 tw2856569124908673617 tw10835063419452981014 tw13543899108355212004 tw13666683055990848161 tw16830013469500849353 tw17945924109177700030 tw5935213805084473666 tw10310886958420869397 tw2632571649020222329 tw16431957454829365592 tw13132273026526977900 tw17555465589444755019 tw9423784249477623017 tw10435074165722045500 tw6286132312869078997 tw9233981394818110849 tw10689118402455183981 tw13097876031824106959 tw4958228275024926651 tw11331013232992463553 tw16780080845957117847 tw12133183525586201655 tw2858838274024217440 tw8187952747575379646 tw14645024140393682124 tw5913524857068185963 tw4995243443934145134 tw11198104956401136852 tw13274464078469457825 tw15005228421533874574 tw13078622323277600237 tw6636736593009637121 tw4100059647279324357:True)
open PySem PySem.W PyProof.Rows
local macro_rules | `(tactic| walk_at "gl") => `(tactic| (refine' L2.VF ?a ?l ?c ?k; (case a => k_is); (case l => k_is); (case c => k_is); (case k => k_is)))
local macro_rules | `(tactic| walk_at "mt") => `(tactic| (refine' L2.VG ?a ?i ?l ?c ?k; (case a => k_is); (case i => k_is); (case l => k_is); (case c => k_is); (case k => k_is)))
set_option maxRecDepth 100000 in
set_option maxHeartbeats 0 in
theorem PySem.Challenge.cw_branchdepth_k20_parts_of_a_polynomial_holds : PySem.Challenge.rw_branchdepth_k20_parts_of_a_polynomial.Holds := by
 w_on;o_law;k_head;(case hw=>w_witness2)
 k_fill
 refine K20.walk (l:=PySem.Challenge.rw_branchdepth_k20_parts_of_a_polynomial) rfl rfl (fun w h Y=>⟨PySem.W.km_in_of Y,List.forall_mem_cons.mpr ⟨⟨PySem.W.codeHd_of_K (c:=198) (P:=196) (PySem.W.km_in_of Y) (by kernel_rfl),PySem.W.km_tabs_of Y 196 (by k_mem)⟩,fun _ h=>nomatch h⟩⟩) (fun w=>by kernel_rfl) ?F
 case F=>
  intro w mg fa h KX G hmg;refine' K20.all_mk KX G hmg ?xC ?xD ?Bs ?Bt ?mQ ?lz ?qy ?Bu ?uL ?uM ?mR ?jo ?qz ?oj ?qA ?qB ?uN ?sC ?om ?mT ?uO ?sD ?iI ?sE ?uP ?lA ?mU ?jq ?sF ?jr ?lB ?jK ?a29 ?l29 ?c29 ?k29 ?uQ ?kW ?uR ?lC ?mV ?qC ?EX ?Bv ?sG ?Bw ?xE ?sH ?Bx ?xF ?oq ?a43 ?l43 ?c43 ?k43 ?ou ?lD ?ow ?qD ?mW ?oz ?mX ?mY ?oA ?mZ ?iJ ?gK ?jM ?jN ?oB ?m5 ?lE ?oE ?qE ?m6 ?lF ?oF ?m8 ?m9 ?oG ?m_ ?jO ?iK ?gM ?jP ?jQ ?qF ?ng ?qG ?sI ?oH ?qH ?oJ ?oK ?qI ?oM ?jt ?iL ?lG ?lH ?xG ?xH ?xJ ?xK ?pP ?xM ?uS ?xN ?xO ?xP ?xQ ?pQ ?xR ?nh ?uT ?oN ?By ?BA ?BB ?BC ?pR ?BD ?sJ ?xS ?oO ?qJ ?oQ ?qK ?BE ?BF ?BG ?Ox ?Oz ?Jq ?sL ?OA ?qL ?OB ?Jr ?OC ?OD ?EY ?BH ?EZ ?OG
  (case xC=>k_is)
  (case xD=>k_is)
  (case Bs=>k_is)
  (case Bt=>walk_at "gl")
  (case mQ=>walk_at "gl")
  (case lz=>walk_at "gl")
  (case qy=>walk_at "gl")
  (case Bu=>walk_at "gl")
  (case uL=>walk_at "gl")
  (case uM=>walk_at "gl")
  (case mR=>walk_at "gl")
  (case jo=>walk_at "gl")
  (case qz=>walk_at "gl")
  (case oj=>walk_at "gl")
  (case qA=>walk_at "gl")
  (case qB=>walk_at "gl")
  (case uN=>walk_at "gl")
  (case sC=>walk_at "gl")
  (case om=>walk_at "gl")
  (case mT=>walk_at "gl")
  (case uO=>walk_at "gl")
  (case sD=>walk_at "gl")
  (case iI=>walk_at "gl")
  (case sE=>walk_at "gl")
  (case uP=>walk_at "gl")
  (case lA=>walk_at "gl")
  (case mU=>walk_at "gl")
  (case jq=>walk_at "gl")
  (case sF=>walk_at "gl")
  (case jr=>walk_at "gl")
  (case lB=>walk_at "gl")
  (case jK=>walk_at "gl")
  (case a29=>k_is)
  (case l29=>k_is)
  (case c29=>k_is)
  (case k29=>k_is)
  (case uQ=>rfl)
  (case kW=>kernel_rfl)
  (case uR=>walk_at "gl")
  (case lC=>walk_at "gl")
  (case mV=>walk_at "gl")
  (case qC=>walk_at "gl")
  (case EX=>walk_at "gl")
  (case Bv=>walk_at "gl")
  (case sG=>walk_at "gl")
  (case Bw=>walk_at "gl")
  (case xE=>walk_at "gl")
  (case sH=>walk_at "gl")
  (case Bx=>walk_at "gl")
  (case xF=>walk_at "gl")
  (case oq=>walk_at "gl")
  (case a43=>k_is)
  (case l43=>k_is)
  (case c43=>k_is)
  (case k43=>k_is)
  (case ou=>walk_at "mt")
  (case lD=>walk_at "mt")
  (case ow=>walk_at "mt")
  (case qD=>walk_at "mt")
  (case mW=>walk_at "mt")
  (case oz=>walk_at "mt")
  (case mX=>walk_at "mt")
  (case mY=>walk_at "mt")
  (case oA=>walk_at "mt")
  (case mZ=>walk_at "mt")
  (case iJ=>walk_at "mt")
  (case gK=>walk_at "mt")
  (case jM=>walk_at "mt")
  (case jN=>walk_at "mt")
  (case oB=>walk_at "mt")
  (case m5=>walk_at "mt")
  (case lE=>walk_at "mt")
  (case oE=>walk_at "mt")
  (case qE=>walk_at "mt")
  (case m6=>walk_at "mt")
  (case lF=>walk_at "mt")
  (case oF=>walk_at "mt")
  (case m8=>walk_at "mt")
  (case m9=>walk_at "mt")
  (case oG=>walk_at "mt")
  (case m_=>walk_at "mt")
  (case jO=>walk_at "mt")
  (case iK=>walk_at "mt")
  (case gM=>walk_at "mt")
  (case jP=>walk_at "mt")
  (case jQ=>walk_at "mt")
  (case qF=>walk_at "mt")
  (case ng=>walk_at "mt")
  (case qG=>walk_at "mt")
  (case sI=>walk_at "mt")
  (case oH=>walk_at "mt")
  (case qH=>walk_at "mt")
  (case oJ=>walk_at "mt")
  (case oK=>walk_at "mt")
  (case qI=>walk_at "mt")
  (case oM=>walk_at "mt")
  (case jt=>walk_at "mt")
  (case iL=>walk_at "mt")
  (case lG=>walk_at "mt")
  (case lH=>walk_at "mt")
  (case xG=>k_is)
  (case xH=>k_is)
  (case xJ=>k_is)
  (case xK=>k_is)
  (case pP=>k_is)
  (case xM=>k_is)
  (case uS=>k_is)
  (case xN=>k_is)
  (case xO=>k_is)
  (case xP=>k_is)
  (case xQ=>k_is)
  (case pQ=>k_is)
  (case xR=>k_is)
  (case nh=>k_is)
  (case uT=>k_is)
  (case oN=>k_is)
  (case By=>k_is)
  (case BA=>k_is)
  (case BB=>k_is)
  (case BC=>k_is)
  (case pR=>k_is)
  (case BD=>k_is)
  (case sJ=>k_is)
  (case xS=>k_is)
  (case oO=>k_is)
  (case qJ=>k_is)
  (case oQ=>k_is)
  (case qK=>k_is)
  (case BE=>k_is)
  (case BF=>k_is)
  (case BG=>first|rfl|decide +kernel|k_is)
  (case Ox=>k_is)
  (case Oz=>k_is)
  (case Jq=>k_is)
  (case sL=>k_is)
  (case OA=>k_is)
  (case qL=>k_is)
  (case OB=>k_is)
  (case Jr=>k_is)
  (case OC=>k_is)
  (case OD=>k_is)
  (case EY=>k_is)
  (case BH=>k_is)
  (case EZ=>k_is)
  (case OG=>k_is)