import PyProof.Rows.All
import Wide.All
import OpenK.AllK
import Wide.FinOn
import Lean
import PyProof.EqAt
import PyProof.EqKinds
import PyProof.TupleCall
import KE.KMinKey
import PyProof.Rows.Range3
import KE.KTryMore
import PySem.Challenge.RW_branchdepth_k15_what_is_no_tower
set_option Elab.async false
set_option linter.all false
set_option maxRecDepth 100000
abbrev FrQ:=PySem.W.Frag
namespace Alg
open Lean.Grind
section mk
variable {α:Type} (zero one:α) (add mul:α→α→α) (neg:α→α)
def nc:Nat→α
 | 0=>zero
 | 1=>one
 | n+2=>add (nc (n+1)) one
def ic:Int→α
 | .ofNat n=>nc zero one add n
 | .negSucc n=>neg (nc zero one add (n+1))
def npw (x:α):Nat→α
 | 0=>one
 | n+1=>mul (npw x n) x
@[reducible] def mkR (az:∀ a,add a zero=a) (ac:∀ a b,add a b=add b a) (aa:∀ a b c,add (add a b) c=add a (add b c)) (ma:∀ a b c,mul (mul a b) c=mul a (mul b c)) (mo:∀ a,mul a one=a)
    (ld:∀ a b c,mul a (add b c)=add (mul a b) (mul a c)) (mc:∀ a b,mul a b=mul b a) (na:∀ a,add (neg a) a=zero):CommRing α:=
  have mz:∀ a,mul a zero=zero:=fun a=>by
    have h1:mul a zero=add (mul a zero) (mul a zero):=by rw[← ld,az]
    calc mul a zero=add zero (mul a zero):=by rw[ac,az]
      _=add (add (neg (mul a zero)) (mul a zero)) (mul a zero):=by rw[na]
      _=add (neg (mul a zero)) (mul a zero):=by rw[aa,← h1]
      _=zero:=na _
  have nn:∀ a,neg (neg a)=a:=fun a=>by
    calc neg (neg a)=add (neg (neg a)) (add (neg a) a):=by rw[na,az]
      _=add (add (neg (neg a)) (neg a)) a:=by rw[aa]
      _=a:=by rw[na,ac,az]
  have nz:neg zero=zero:=by rw[← az (neg zero),na]
  have nm:∀ a b,mul (neg a) b=neg (mul a b):=fun a b=>by
    calc mul (neg a) b=add (mul (neg a) b) (add (mul a b) (neg (mul a b))):=by rw[ac (mul a b),na,az]
      _=add (add (mul (neg a) b) (mul a b)) (neg (mul a b)):=by rw[aa]
      _=add (mul b (add (neg a) a)) (neg (mul a b)):=by rw[mc (neg a),mc a,ld]
      _=neg (mul a b):=by rw[na,mz,ac,az]
  have inn:∀ i:Int,ic zero one add neg (-i)=neg (ic zero one add neg i):=fun i=>by
    match i with
    | .ofNat 0=>exact nz.symm
    | .ofNat (n+1)=>rfl
    | .negSucc n=>exact (nn _).symm
  { add:=add,mul:=mul,neg:=neg,sub:=fun a b=>add a (neg b)
    natCast:=⟨nc zero one add⟩,ofNat:=fun n=>⟨nc zero one add n⟩,nsmul:=⟨fun n a=>mul (nc zero one add n) a⟩,npow:=⟨npw one mul⟩
    add_zero:=az,add_comm:=ac,add_assoc:=aa,mul_assoc:=ma,mul_one:=mo,one_mul:=fun a=>(mc _ _).trans (mo a),left_distrib:=ld
    right_distrib:=fun a b c=>by
      show mul (add a b) c=add (mul a c) (mul b c)
      rw[mc,ld,mc c,mc c]
    zero_mul:=fun a=>(mc _ _).trans (mz a),mul_zero:=mz,pow_zero:=fun _=>rfl,pow_succ:=fun _ _=>rfl
    ofNat_succ:=fun a=>by
      match a with
      | 0=>exact ((ac _ _).trans (az one)).symm
      | n+1=>rfl
    ofNat_eq_natCast:=fun _=>rfl,nsmul_eq_natCast_mul:=fun _ _=>rfl
    intCast:=⟨ic zero one add neg⟩,zsmul:=⟨fun i a=>mul (ic zero one add neg i) a⟩
    neg_add_cancel:=na,sub_eq_add_neg:=fun _ _=>rfl
    neg_zsmul:=fun i a=>by
      show mul (ic zero one add neg (-i)) a=neg (mul (ic zero one add neg i) a)
      rw[inn,nm]
    zsmul_natCast_eq_nsmul:=fun _ _=>rfl,intCast_ofNat:=fun _=>rfl,intCast_neg:=inn,mul_comm:=mc }
end mk
@[ext] structure Ser (α:Type) where
 c:Nat→α
section ser
variable {α:Type} [CommRing α]
def tl (a:Ser α):Ser α:=⟨fun i=>a.c (i+1)⟩
def smu (x:α)(a:Ser α):Ser α:=⟨fun i=>x*a.c i⟩
def sadd (a b:Ser α):Ser α:=⟨fun i=>a.c i+b.c i⟩
def sneg (a:Ser α):Ser α:=⟨fun i=>- a.c i⟩
def szero:Ser α:=⟨fun _=>0⟩
def cst (x:α):Ser α:=⟨fun i=>if i=0 then x else 0⟩
def smulc (a b:Ser α):Nat→α
 | 0=>a.c 0*b.c 0
 | k+1=>a.c 0*b.c (k+1)+smulc (tl a) b k
def smul (a b:Ser α):Ser α:=⟨smulc a b⟩
theorem sc_zero_left (b:Ser α):∀ k,smulc szero b k=0
 | 0=>by show (0:α)*b.c 0=0;grind
 | k+1=>by
  have:=sc_zero_left b k
  show (0:α)*b.c (k+1)+smulc szero b k=0
  grind
theorem sc_add_left (c:Ser α):∀ (k:Nat) (a b:Ser α),smulc (sadd a b) c k=smulc a c k+smulc b c k
 | 0,a,b=>by show (a.c 0+b.c 0)*c.c 0=a.c 0*c.c 0+b.c 0*c.c 0;grind
 | k+1,a,b=>by
  have:=sc_add_left c k (tl a) (tl b)
  show (a.c 0+b.c 0)*c.c (k+1)+smulc (sadd (tl a) (tl b)) c k=(a.c 0*c.c (k+1)+smulc (tl a) c k)+(b.c 0*c.c (k+1)+smulc (tl b) c k)
  grind
theorem sc_smu_left (x:α)(c:Ser α):∀ (k:Nat) (a:Ser α),smulc (smu x a) c k=x*smulc a c k
 | 0,a=>by show (x*a.c 0)*c.c 0=x*(a.c 0*c.c 0);grind
 | k+1,a=>by
  have:=sc_smu_left x c k (tl a)
  show (x*a.c 0)*c.c (k+1)+smulc (smu x (tl a)) c k=x*(a.c 0*c.c (k+1)+smulc (tl a) c k)
  grind
theorem sc_right:∀ (k:Nat) (a b:Ser α),smulc a b (k+1)=smulc a (tl b) k+a.c (k+1)*b.c 0
 | 0,a,b=>rfl
 | k+1,a,b=>by
  have:=sc_right k (tl a) b
  show a.c 0*b.c (k+2)+smulc (tl a) b (k+1)=(a.c 0*b.c (k+2)+smulc (tl a) (tl b) k)+a.c (k+2)*b.c 0
  have e:(tl a).c (k+1)=a.c (k+2):=rfl
  grind
theorem sc_comm:∀ (k:Nat) (a b:Ser α),smulc a b k=smulc b a k
 | 0,a,b=>by show a.c 0*b.c 0=b.c 0*a.c 0;grind
 | k+1,a,b=>by
  have:=sc_comm k (tl a) b
  rw[sc_right k b a]
  show a.c 0*b.c (k+1)+smulc (tl a) b k=_
  grind
theorem tl_smul (a b:Ser α):tl (smul a b)=sadd (smu (a.c 0) (tl b)) (smul (tl a) b):=rfl
theorem sc_assoc (c:Ser α):∀ (k:Nat) (a b:Ser α),smulc (smul a b) c k=smulc a (smul b c) k
 | 0,a,b=>by show (a.c 0*b.c 0)*c.c 0=a.c 0*(b.c 0*c.c 0);grind
 | k+1,a,b=>by
  have:=sc_assoc c k (tl a) b
  show (a.c 0*b.c 0)*c.c (k+1)+smulc (tl (smul a b)) c k=a.c 0*(b.c 0*c.c (k+1)+smulc (tl b) c k)+smulc (tl a) (smul b c) k
  rw[tl_smul,sc_add_left,sc_smu_left]
  show _+(_+smulc (smul (tl a) b) c k)=_
  grind
theorem sc_cst (x:α)(b:Ser α):∀ k,smulc (cst x) b k=x*b.c k
 | 0=>rfl
 | k+1=>by
  have e:tl (cst x)=szero:=by
   apply Ser.ext;funext i;show (if i+1=0 then x else 0)=(0:α);rw[if_neg (by omega)]
  show (if 0=0 then x else 0)*b.c (k+1)+smulc (tl (cst x)) b k=x*b.c (k+1)
  rw[e,sc_zero_left,if_pos rfl]
  grind
instance:CommRing (Ser α):=mkR szero (cst 1) sadd smul sneg
 (fun a=>by apply Ser.ext;funext i;show a.c i+0=a.c i;grind) (fun a b=>by apply Ser.ext;funext i;show a.c i+b.c i=b.c i+a.c i;grind)
 (fun a b c=>by apply Ser.ext;funext i;show a.c i+b.c i+c.c i=a.c i+(b.c i+c.c i);grind) (fun a b c=>by apply Ser.ext;funext i;exact sc_assoc c i a b)
 (fun a=>by apply Ser.ext;funext i;show smulc a (cst 1) i=a.c i;rw[sc_comm,sc_cst];grind)
 (fun a b c=>by apply Ser.ext;funext i;show smulc a (sadd b c) i=smulc a b i+smulc a c i;rw[sc_comm,sc_add_left,sc_comm _ b,sc_comm _ c])
 (fun a b=>by apply Ser.ext;funext i;exact sc_comm i a b) (fun a=>by apply Ser.ext;funext i;show - a.c i+a.c i=0;grind)
theorem c_add (a b:Ser α)(i:Nat):(a+b).c i=a.c i+b.c i:=rfl
theorem c_neg (a:Ser α)(i:Nat):(-a).c i=- a.c i:=rfl
theorem c_sub (a b:Ser α)(i:Nat):(a - b).c i=a.c i - b.c i:=by
 show a.c i+- b.c i=_
 grind
theorem c_one (i:Nat):(1:Ser α).c i=if i=0 then 1 else 0:=rfl
theorem cst_mul (x:α)(a:Ser α)(i:Nat):(cst x*a).c i=x*a.c i:=sc_cst x a i
end ser
end Alg
set_option Elab.async false
set_option linter.all false
set_option maxRecDepth 100000
namespace Alg
open Lean.Grind
section
variable {α:Type} [CommRing α]
def Dg (a:Ser α)(n:Nat):Prop:=∀ i,n≤i→a.c i=0
def IsP (a:Ser α):Prop:=∃ N,Dg a N
theorem Dg.mono {a:Ser α}{m n:Nat}(h:Dg a m)(k:m≤n):Dg a n:=fun i hi=>h i (by omega)
theorem Dg.add {a b:Ser α}{n:Nat}(h:Dg a n)(k:Dg b n):Dg (a+b) n:=fun i hi=>by rw[c_add,h i hi,k i hi];grind
theorem Dg.neg {a:Ser α}{n:Nat}(h:Dg a n):Dg (-a) n:=fun i hi=>by rw[c_neg,h i hi];grind
theorem Dg.sub {a b:Ser α}{n:Nat}(h:Dg a n)(k:Dg b n):Dg (a - b) n:=fun i hi=>by rw[c_sub,h i hi,k i hi];grind
theorem Dg.zero (n:Nat):Dg (0:Ser α) n:=fun i _=>rfl
theorem Dg.cst (x:α):Dg (cst x) 1:=fun i hi=>by show (if i=0 then x else 0)=0;rw[if_neg (by omega)]
theorem Dg.one:Dg (1:Ser α) 1:=Dg.cst 1
theorem Dg.tl {a:Ser α}{n:Nat}(h:Dg a (n+1)):Dg (tl a) n:=fun i hi=>h (i+1) (by omega)
theorem Dg.eq0 {a:Ser α}(h:Dg a 0):a=0:=by
 apply Ser.ext;funext i;exact h i (Nat.zero_le _)
theorem cst_of {a:Ser α}(h:Dg a 1):a=Alg.cst (a.c 0):=by
 apply Ser.ext;funext i
 show a.c i=if i=0 then a.c 0 else 0
 by_cases e:i=0
 ·rw[if_pos e,e]
 ·rw[if_neg e];exact h i (by omega)
theorem mul_top (b:Ser α)(n:Nat)(hb:Dg b (n+1)):∀ (m:Nat) (a:Ser α),Dg a (m+1)→(a*b).c (m+n)=a.c m*b.c n∧Dg (a*b) (m+n+1)
 | 0,a,ha=>by
  rw[cst_of ha]
  refine⟨by rw[Nat.zero_add,cst_mul];rfl,fun i hi=>?_⟩
  rw[cst_mul,hb i (by omega)];grind
 | m+1,a,ha=>by
  obtain⟨h1,h2⟩:=mul_top b n hb m (tl a) ha.tl
  have s:∀ k,(a*b).c (k+1)=a.c 0*b.c (k+1)+(tl a*b).c k:=fun k=>rfl
  refine⟨?_,fun i hi=>?_⟩
  ·have e:m+1+n=(m+n)+1:=by omega
   rw[e,s,h1,hb _ (by omega)]
   show _+a.c (m+1)*_=_
   grind
  ·obtain⟨k,rfl⟩:∃ k,i=k+1:=⟨i - 1,by omega⟩
   rw[s,hb _ (by omega),h2 _ (by omega)];grind
theorem Dg.mul {a b:Ser α}{m n:Nat}(ha:Dg a m)(hb:Dg b n):Dg (a*b) (m+n):=fun i hi=>by
 obtain⟨h1,h2⟩:=mul_top b n (hb.mono (by omega)) m a (ha.mono (by omega))
 by_cases e:i=m+n
 ·rw[e,h1,ha m (Nat.le_refl _)];grind
 ·exact h2 i (by omega)
theorem IsP.add {a b:Ser α}:IsP a→IsP b→IsP (a+b):=fun ⟨m,h⟩ ⟨n,k⟩=>⟨m+n,(h.mono (by omega)).add (k.mono (by omega))⟩
theorem IsP.sub {a b:Ser α}:IsP a→IsP b→IsP (a - b):=fun ⟨m,h⟩ ⟨n,k⟩=>⟨m+n,(h.mono (by omega)).sub (k.mono (by omega))⟩
theorem IsP.neg {a:Ser α}:IsP a→IsP (-a):=fun ⟨m,h⟩=>⟨m,h.neg⟩
theorem IsP.mul {a b:Ser α}:IsP a→IsP b→IsP (a*b):=fun ⟨m,h⟩ ⟨n,k⟩=>⟨m+n,h.mul k⟩
theorem IsP.zero:IsP (0:Ser α):=⟨0,Dg.zero 0⟩
theorem IsP.one:IsP (1:Ser α):=⟨1,Dg.one⟩
theorem IsP.cst (x:α):IsP (cst x):=⟨1,Dg.cst x⟩
theorem pw_succ {β:Type}[CommRing β](x:β)(n:Nat):x ^ (n+1)=x ^ n*x:=Semiring.pow_succ x n
theorem pw_zero {β:Type}[CommRing β](x:β):x ^ 0=1:=Semiring.pow_zero x
theorem pw_add {β:Type}[CommRing β](x:β)(m:Nat):∀ n,x ^ (m+n)=x ^ m*x ^ n
 | 0=>by rw[Nat.add_zero,pw_zero];grind
 | n+1=>by rw[← Nat.add_assoc,pw_succ,pw_add x m n,pw_succ];grind
theorem one_pw {β:Type}[CommRing β]:∀ n:Nat,(1:β) ^ n=1
 | 0=>pw_zero _
 | n+1=>by rw[pw_succ,one_pw n];grind
theorem mul_pw {β:Type}[CommRing β](x y:β):∀ n:Nat,(x*y) ^ n=x ^ n*y ^ n
 | 0=>by rw[pw_zero,pw_zero,pw_zero];grind
 | n+1=>by rw[pw_succ,mul_pw x y n,pw_succ,pw_succ];grind
theorem pw_mul {β:Type}[CommRing β](x:β)(m:Nat):∀ n,x ^ (m*n)=(x ^ m) ^ n
 | 0=>by rw[Nat.mul_zero,pw_zero,pw_zero]
 | n+1=>by rw[Nat.mul_succ,pw_add,pw_mul x m n,pw_succ]
theorem IsP.pow {a:Ser α}(h:IsP a):∀ n:Nat,IsP (a ^ n)
 | 0=>by rw[pw_zero];exact IsP.one
 | n+1=>by rw[pw_succ];exact (IsP.pow h n).mul h
def mon (x:α)(k:Nat):Ser α:=⟨fun i=>if i=k then x else 0⟩
theorem mon_mul (x:α)(b:Ser α):∀ k i,(mon x k*b).c i=if k≤i then x*b.c (i - k) else 0
 | 0,i=>by
  have e:mon x 0=cst x:=rfl
  rw[e,cst_mul,if_pos (Nat.zero_le _)];rfl
 | k+1,0=>by
  show (if 0=k+1 then x else 0)*b.c 0=_
  rw[if_neg (by omega),if_neg (by omega)];grind
 | k+1,i+1=>by
  have e:tl (mon x (k+1))=mon x k:=by
   apply Ser.ext;funext j
   show (if j+1=k+1 then x else 0)=if j=k then x else 0
   by_cases h:j=k
   ·rw[if_pos h,if_pos (by omega)]
   ·rw[if_neg h,if_neg (by omega)]
  show (if 0=k+1 then x else 0)*b.c (i+1)+(tl (mon x (k+1))*b).c i=_
  rw[e,mon_mul x b k i,if_neg (by omega)]
  by_cases h:k≤i
  ·rw[if_pos h,if_pos (by omega)]
   have:i+1 - (k+1)=i - k:=by omega
   rw[this];grind
  ·rw[if_neg h,if_neg (by omega)];grind
theorem Dg.mon (x:α)(k:Nat):Dg (mon x k) (k+1):=fun i hi=>by show (if i=k then x else 0)=0;rw[if_neg (by omega)]
structure Monic (f:Ser α)(n:Nat):Prop where
 top:f.c n=1
 dg:Dg f (n+1)
theorem Monic.isP {f:Ser α}{n:Nat}(h:Monic f n):IsP f:=⟨_,h.dg⟩
theorem div_ex {f:Ser α}{n:Nat}(hf:Monic f n):∀ (N:Nat) (a:Ser α),Dg a N→∃ q,Dg q (N - n)∧Dg (a - q*f) n
 | 0,a,ha=>⟨0,Dg.zero _,by
   have:a - 0*f=a:=by grind
   rw[this];exact ha.mono (Nat.zero_le _)⟩
 | N+1,a,ha=>by
  by_cases hn:N+1≤n
  ·refine⟨0,Dg.zero _,?_⟩
   have:a - 0*f=a:=by grind
   rw[this];exact ha.mono hn
  ·have hd:Dg (a - Alg.mon (a.c N) (N - n)*f) N:=fun i hi=>by
    rw[c_sub,mon_mul,if_pos (by omega)]
    by_cases e:i=N
    ·have:N - (N - n)=n:=by omega
     rw[e,this,hf.top];grind
    ·rw[ha i (by omega),hf.dg _ (by omega)];grind
   obtain⟨q,h1,h2⟩:=div_ex hf N _ hd
   refine⟨q+Alg.mon (a.c N) (N - n),?_,?_⟩
   ·refine (h1.mono (by omega)).add ?_
    have:N+1 - n=N - n+1:=by omega
    rw[this];exact Dg.mon _ _
   ·have:a - (q+Alg.mon (a.c N) (N - n))*f=a - Alg.mon (a.c N) (N - n)*f - q*f:=by grind
    rw[this];exact h2
theorem div_uniq {f:Ser α}{n:Nat}(hf:Monic f n):∀ (M:Nat) (q:Ser α),Dg q M→Dg (q*f) n→q=0
 | 0,q,h,_=>h.eq0
 | M+1,q,h,k=>by
  have e:=(mul_top f n hf.dg M q h).1
  rw[k _ (by omega),hf.top] at e
  refine div_uniq hf M q (fun i hi=>?_) k
  by_cases z:i=M
  ·rw[z];grind
  ·exact h i (by omega)
def Cg (f a b:Ser α):Prop:=∃ q,IsP q∧a - b=q*f
theorem Cg.refl (f a:Ser α):Cg f a a:=⟨0,IsP.zero,by grind⟩
theorem Cg.symm {f a b:Ser α}:Cg f a b→Cg f b a:=fun ⟨q,h,e⟩=>⟨-q,h.neg,by grind⟩
theorem Cg.trans {f a b c:Ser α}:Cg f a b→Cg f b c→Cg f a c:=fun ⟨q,h,e⟩ ⟨r,k,g⟩=>⟨q+r,h.add k,by grind⟩
theorem Cg.add {f a b c d:Ser α}:Cg f a b→Cg f c d→Cg f (a+c) (b+d):=fun ⟨q,h,e⟩ ⟨r,k,g⟩=>⟨q+r,h.add k,by grind⟩
theorem Cg.sub {f a b c d:Ser α}:Cg f a b→Cg f c d→Cg f (a - c) (b - d):=fun ⟨q,h,e⟩ ⟨r,k,g⟩=>⟨q - r,h.sub k,by grind⟩
theorem Cg.mul {f a b c d:Ser α}(pb:IsP b)(pc:IsP c):Cg f a b→Cg f c d→Cg f (a*c) (b*d):=fun ⟨q,h,e⟩ ⟨r,k,g⟩=>⟨q*c+b*r,(h.mul pc).add (pb.mul k),by grind⟩
theorem Cg.uniq {f:Ser α}{n:Nat}(hf:Monic f n){a b:Ser α}(ha:Dg a n)(hb:Dg b n)(h:Cg f a b):a=b:=by
 obtain⟨q,⟨M,hq⟩,e⟩:=h
 have z:=div_uniq hf M q hq (by rw[← e];exact ha.sub hb)
 rw[z] at e
 grind
end
structure Md (α:Type)[CommRing α] where
 f:Ser α
 n:Nat
 mon:Monic f n
 pos:0<n
section
variable {α:Type} [CommRing α]
@[ext] structure Qt (M:Md α) where
 s:Ser α
 lt:Dg s M.n
theorem rest_ex (M:Md α)(a:Ser α)(ha:IsP a):∃ r,Dg r M.n∧Cg M.f a r:=by
 obtain⟨N,h⟩:=ha
 obtain⟨q,h1,h2⟩:=div_ex M.mon N a h
 exact⟨a - q*M.f,h2,q,⟨_,h1⟩,by grind⟩
open Classical in
noncomputable def rest (M:Md α)(a:Ser α):Ser α:=if h:∃ r,Dg r M.n∧Cg M.f a r then h.choose else 0
theorem rest_dg (M:Md α)(a:Ser α):Dg (rest M a) M.n:=by
 unfold rest
 split
 ·rename_i h;exact h.choose_spec.1
 ·exact Dg.zero _
theorem rest_cg {M:Md α}{a:Ser α}(ha:IsP a):Cg M.f a (rest M a):=by
 unfold rest
 rw[dif_pos (rest_ex M a ha)]
 exact (rest_ex M a ha).choose_spec.2
theorem rest_eq {M:Md α}{a r:Ser α}(hr:Dg r M.n)(h:Cg M.f a r):rest M a=r:=by
 have ex:∃ r,Dg r M.n∧Cg M.f a r:=⟨r,hr,h⟩
 refine Cg.uniq M.mon (rest_dg M a) hr (Cg.trans (Cg.symm ?_) h)
 unfold rest
 rw[dif_pos ex]
 exact ex.choose_spec.2
theorem Qt.isP {M:Md α}(x:Qt M):IsP x.s:=⟨_,x.lt⟩
noncomputable def Qt.of (M:Md α)(a:Ser α):Qt M:=⟨rest M a,rest_dg M a⟩
theorem one_dg (M:Md α):Dg (1:Ser α) M.n:=Dg.one.mono M.pos
noncomputable instance (M:Md α):CommRing (Qt M):=mkR ⟨0,Dg.zero _⟩ ⟨1,one_dg M⟩ (fun a b=>⟨a.s+b.s,a.lt.add b.lt⟩) (fun a b=>Qt.of M (a.s*b.s)) (fun a=>⟨-a.s,a.lt.neg⟩)
 (fun a=>by apply Qt.ext;show a.s+0=a.s;grind) (fun a b=>by apply Qt.ext;show a.s+b.s=b.s+a.s;grind) (fun a b c=>by apply Qt.ext;show a.s+b.s+c.s=a.s+(b.s+c.s);grind)
 (fun a b c=>by
  apply Qt.ext
  show rest M (rest M (a.s*b.s)*c.s)=rest M (a.s*rest M (b.s*c.s))
  refine rest_eq (rest_dg _ _) ?_
  have h1:Cg M.f (rest M (a.s*b.s)*c.s) (a.s*b.s*c.s):=Cg.mul (a.isP.mul b.isP) c.isP (rest_cg (a.isP.mul b.isP)).symm (Cg.refl _ _)
  have h2:Cg M.f (a.s*(b.s*c.s)) (a.s*rest M (b.s*c.s)):=Cg.mul a.isP (b.isP.mul c.isP) (Cg.refl _ _) (rest_cg (b.isP.mul c.isP))
  have e:a.s*b.s*c.s=a.s*(b.s*c.s):=by grind
  rw[e] at h1
  exact h1.trans (h2.trans (rest_cg (a.isP.mul ⟨_,rest_dg _ _⟩))))
 (fun a=>by
  apply Qt.ext
  show rest M (a.s*1)=a.s
  refine rest_eq a.lt ?_
  have e:a.s*1=a.s:=by grind
  rw[e];exact Cg.refl _ _)
 (fun a b c=>by
  apply Qt.ext
  show rest M (a.s*(b.s+c.s))=rest M (a.s*b.s)+rest M (a.s*c.s)
  refine rest_eq ((rest_dg _ _).add (rest_dg _ _)) ?_
  have e:a.s*(b.s+c.s)=a.s*b.s+a.s*c.s:=by grind
  rw[e];exact Cg.add (rest_cg (a.isP.mul b.isP)) (rest_cg (a.isP.mul c.isP)))
 (fun a b=>by
  apply Qt.ext
  show rest M (a.s*b.s)=rest M (b.s*a.s)
  have e:a.s*b.s=b.s*a.s:=by grind
  rw[e])
 (fun a=>by apply Qt.ext;show -a.s+a.s=0;grind)
theorem s_sub {M:Md α}(a b:Qt M):(a - b).s=a.s - b.s:=by
 show a.s+-b.s=_
 grind
theorem of_add {M:Md α}{a b:Ser α}(ha:IsP a)(hb:IsP b):Qt.of M (a+b)=Qt.of M a+Qt.of M b:=by
 apply Qt.ext
 exact rest_eq ((rest_dg _ _).add (rest_dg _ _)) (Cg.add (rest_cg ha) (rest_cg hb))
theorem of_sub {M:Md α}{a b:Ser α}(ha:IsP a)(hb:IsP b):Qt.of M (a - b)=Qt.of M a - Qt.of M b:=by
 apply Qt.ext
 rw[s_sub]
 exact rest_eq ((rest_dg _ _).sub (rest_dg _ _)) (Cg.sub (rest_cg ha) (rest_cg hb))
theorem of_mul {M:Md α}{a b:Ser α}(ha:IsP a)(hb:IsP b):Qt.of M (a*b)=Qt.of M a*Qt.of M b:=by
 apply Qt.ext
 refine rest_eq (rest_dg _ _) ?_
 exact (Cg.mul ⟨_,rest_dg _ _⟩ hb (rest_cg ha) (rest_cg hb)).trans (rest_cg (IsP.mul ⟨_,rest_dg _ _⟩ ⟨_,rest_dg _ _⟩))
theorem of_one {M:Md α}:Qt.of M 1=1:=by
 apply Qt.ext
 exact rest_eq (one_dg M) (Cg.refl _ _)
theorem of_zero {M:Md α}:Qt.of M 0=0:=by
 apply Qt.ext
 exact rest_eq (Dg.zero _) (Cg.refl _ _)
theorem of_pow {M:Md α}{a:Ser α}(ha:IsP a):∀ n:Nat,Qt.of M (a ^ n)=Qt.of M a ^ n
 | 0=>by rw[pw_zero,pw_zero,of_one]
 | n+1=>by rw[pw_succ,of_mul (ha.pow n) ha,of_pow ha n,pw_succ]
theorem of_s {M:Md α}(x:Qt M):Qt.of M x.s=x:=by
 apply Qt.ext
 exact rest_eq x.lt (Cg.refl _ _)
theorem of_f {M:Md α}:Qt.of M M.f=0:=by
 apply Qt.ext
 refine rest_eq (Dg.zero _) ⟨1,IsP.one,?_⟩
 show M.f - 0=1*M.f
 grind
end
end Alg
set_option Elab.async false
set_option linter.all false
set_option maxRecDepth 100000
namespace Alg
open Lean.Grind
section
variable {α:Type} [CommRing α]
theorem cst_add (x y:α):cst (x+y)=cst x+cst y:=by
 apply Ser.ext;funext i
 show (if i=0 then x+y else 0)=(if i=0 then x else 0)+(if i=0 then y else 0)
 split <;> grind
theorem cst_mul' (x y:α):cst (x*y)=cst x*cst y:=by
 apply Ser.ext;funext i
 rw[cst_mul]
 show (if i=0 then x*y else 0)=x*(if i=0 then y else 0)
 split <;> grind
theorem cst_one:cst (1:α)=1:=rfl
theorem cst_zero:cst (0:α)=0:=by
 apply Ser.ext;funext i
 show (if i=0 then (0:α) else 0)=0
 split <;> rfl
theorem cst_pow (x:α):∀ n:Nat,cst (x ^ n)=cst x ^ n
 | 0=>by rw[pw_zero,pw_zero];rfl
 | n+1=>by rw[pw_succ,cst_mul',cst_pow x n,pw_succ]
def X:Ser α:=mon 1 1
theorem IsP.X:IsP (X:Ser α):=⟨2,Dg.mon 1 1⟩
theorem split0 (a:Ser α):a=cst (a.c 0)+X*tl a:=by
 apply Ser.ext;funext i
 rw[c_add]
 show _=_+(mon 1 1*tl a).c i
 rw[mon_mul]
 show _=(if i=0 then a.c 0 else 0)+_
 by_cases h:i=0
 ·rw[if_pos h,if_neg (by omega),h];grind
 ·rw[if_neg h,if_pos (by omega)]
  show _=0+1*a.c (i - 1+1)
  have:i - 1+1=i:=by omega
  rw[this];grind
def ev:Nat→Ser α→α→α
 | 0,_,_=>0
 | N+1,b,y=>b.c 0+y*ev N (tl b) y
theorem ev_zero (y:α):∀ (N:Nat) (a:Ser α),Dg a 0→ev N a y=0
 | 0,_,_=>rfl
 | N+1,a,h=>by
  have e:=ev_zero y N (tl a) (fun i hi=>h (i+1) (Nat.zero_le _))
  show a.c 0+y*ev N (tl a) y=0
  rw[e,h 0 (Nat.le_refl _)];grind
theorem ev_add (y:α):∀ (N:Nat) (a b:Ser α),ev N (a+b) y=ev N a y+ev N b y
 | 0,_,_=>by show (0:α)=0+0;grind
 | N+1,a,b=>by
  have e:=ev_add y N (tl a) (tl b)
  have t:tl (a+b)=tl a+tl b:=rfl
  show (a.c 0+b.c 0)+y*ev N (tl (a+b)) y=(a.c 0+y*ev N (tl a) y)+(b.c 0+y*ev N (tl b) y)
  rw[t,e];grind
theorem ev_cst (x y:α):∀ (N:Nat) (a:Ser α),ev N (cst x*a) y=x*ev N a y
 | 0,_=>by show (0:α)=x*0;grind
 | N+1,a=>by
  have t:tl (cst x*a)=cst x*tl a:=by
   apply Ser.ext;funext i
   show (cst x*a).c (i+1)=_
   rw[cst_mul,cst_mul];rfl
  have e:=ev_cst x y N (tl a)
  show (cst x*a).c 0+y*ev N (tl (cst x*a)) y=x*(a.c 0+y*ev N (tl a) y)
  rw[t,e,cst_mul];grind
theorem ev_stay (y:α):∀ (N M:Nat) (a:Ser α),Dg a N→N≤M→ev M a y=ev N a y
 | 0,M,a,h,_=>ev_zero y M a h
 | N+1,0,_,_,k=>by omega
 | N+1,M+1,a,h,k=>by
  show a.c 0+y*ev M (tl a) y=a.c 0+y*ev N (tl a) y
  rw[ev_stay y N M (tl a) h.tl (by omega)]
theorem ev_mul (y:α)(n:Nat)(b:Ser α)(hb:Dg b n):∀ (m:Nat) (a:Ser α),Dg a m→ev (m+n) (a*b) y=ev m a y*ev n b y
 | 0,a,ha=>by
  have:a*b=0:=by rw[ha.eq0];grind
  rw[this,ev_zero y _ _ (Dg.zero 0)]
  show (0:α)=0*_
  grind
 | m+1,a,ha=>by
  have e:=ev_mul y n b hb m (tl a) ha.tl
  have t:tl (a*b)=cst (a.c 0)*tl b+tl a*b:=by
   apply Ser.ext;funext i
   rw[c_add,cst_mul];rfl
  have s:ev (m+n+1) b y=ev n b y:=ev_stay y n _ b hb (by omega)
  have q:m+1+n=(m+n)+1:=by omega
  rw[q]
  show a.c 0*b.c 0+y*ev (m+n) (tl (a*b)) y=(a.c 0+y*ev m (tl a) y)*ev n b y
  rw[t,ev_add,ev_cst,e]
  have s2:ev n b y=b.c 0+y*ev (m+n) (tl b) y:=s.symm
  rw[s2];grind
end
section
variable {α:Type} [CommRing α]
def Dom (α:Type)[CommRing α]:Prop:=∀ x y:α,x*y=0→x=0∨y=0
def Fld (α:Type)[CommRing α]:Prop:=(1:α)≠0∧∀ x:α,x≠0→∃ y,x*y=1
theorem Fld.dom (h:Fld α):Dom α:=fun x y e=>by
 by_cases z:x=0
 ·exact .inl z
 ·obtain⟨u,hu⟩:=h.2 x z
  refine .inr ?_
  have:u*(x*y)=y:=by grind
  rw[e] at this
  grind
theorem roots_few (hD:Dom α):∀ (e:Nat) (b:Ser α) (ys:List α),Dg b (e+1)→ys.length=e+1→ys.Nodup→(∀ y∈ys,ev (e+1) b y=0)→b=0
 | 0,b,ys,hb,hl,_,hz=>by
  match ys,hl with
  | y::r,_=>
   have z:=hz y List.mem_cons_self
   have z':b.c 0+y*0=0:=z
   have z0:b.c 0=0:=by grind
   rw[cst_of hb,z0,cst_zero]
 | e+1,b,ys,hb,hl,hn,hz=>by
  match ys,hl with
  | r::rs,hl=>
   have hm:Monic (X - cst r:Ser α) 1:=by
    refine⟨?_,fun i hi=>?_⟩
    ·rw[c_sub]
     show (if 1=1 then (1:α) else 0) - (if 1=0 then r else 0)=1
     rw[if_pos rfl,if_neg (by omega)];grind
    ·rw[c_sub]
     show (if i=1 then (1:α) else 0) - (if i=0 then r else 0)=0
     rw[if_neg (by omega),if_neg (by omega)];grind
   obtain⟨q,hq,hr⟩:=div_ex hm (e+2) b hb
   have hq':Dg q (e+1):=hq
   have er:=cst_of hr
   generalize (b - q*(X - cst r)).c 0=s at er
   have eb:b=q*(X - cst r)+cst s:=by grind
   have ev1:∀ y,ev (e+2) b y=ev (e+1) q y*(y - r)+s:=fun y=>by
    have h1:ev (e+1+2) b y=ev (e+2) b y:=ev_stay y _ _ b hb (by omega)
    rw[← h1,eb,ev_add,ev_mul y 2 _ hm.dg (e+1) q hq']
    have h2:ev 2 (X - cst r:Ser α) y=y - r:=by
     show (X - cst r:Ser α).c 0+y*((X - cst r:Ser α).c 1+y*0)=_
     rw[c_sub,c_sub]
     show ((if 0=1 then (1:α) else 0) - (if 0=0 then r else 0))+y*(((if 1=1 then (1:α) else 0) - (if 1=0 then r else 0))+y*0)=_
     rw[if_neg (by omega),if_pos rfl,if_pos rfl,if_neg (by omega)];grind
    have h3:ev (e+1+2) (cst s) y=s:=by
     rw[ev_stay y 1 _ _ (Dg.cst s) (by omega)]
     show s+y*0=s
     grind
    rw[h2,h3]
   have s0:s=0:=by
    have:=ev1 r
    rw[hz r List.mem_cons_self] at this
    grind
   have hq0:q=0:=by
    refine roots_few hD e q rs hq' (by simpa using hl) (List.nodup_cons.mp hn).2 fun y hy=>?_
    have z:=ev1 y
    rw[hz y (List.mem_cons_of_mem _ hy),s0] at z
    have z':ev (e+1) q y*(y - r)=0:=by grind
    rcases hD _ _ z' with w | w
    ·exact w
    ·have:y=r:=by grind
     exact absurd (this ▸ hy) (List.nodup_cons.mp hn).1
   rw[eb,hq0,s0,cst_zero];grind
def go (a:Nat):List Nat→List Nat
 | []=>[a]
 | c::l=>(a+c)::go c l
def row:Nat→List Nat
 | 0=>[1]
 | n+1=>go 0 (row n)
def nt (α:Type)[CommRing α]:Nat→α
 | 0=>0
 | n+1=>nt α n+1
theorem nt_add (a:Nat):∀ b:Nat,nt α (a+b)=nt α a+nt α b
 | 0=>by show nt α a=nt α a+0;grind
 | b+1=>by
  have e:=nt_add a b
  show nt α (a+b)+1=nt α a+(nt α b+1)
  rw[e];grind
theorem nt_mul (a:Nat):∀ b:Nat,nt α (a*b)=nt α a*nt α b
 | 0=>by show (0:α)=nt α a*0;grind
 | b+1=>by
  rw[Nat.mul_succ,nt_add,nt_mul a b]
  show _=nt α a*(nt α b+1)
  grind
theorem nt_zero:nt α 0=0:=rfl
theorem nt_one:nt α 1=1:=by show (0:α)+1=1;grind
def hs (x y:α):List Nat→α
 | []=>0
 | c::l=>nt α c*y ^ l.length+x*hs x y l
theorem go_len:∀ (a:Nat) (l:List Nat),(go a l).length=l.length+1
 | _,[]=>rfl
 | _,c::l=>congrArg (·+1) (go_len c l)
theorem hs_go (x y:α):∀ (a:Nat) (l:List Nat),hs x y (go a l)=nt α a*y ^ l.length+(x+y)*hs x y l
 | a,[]=>by
  show nt α a*y ^ 0+x*0=nt α a*y ^ 0+(x+y)*0
  grind
 | a,c::l=>by
  have e:=hs_go x y c l
  show nt α (a+c)*y ^ (go c l).length+x*hs x y (go c l)=nt α a*y ^ (l.length+1)+(x+y)*(nt α c*y ^ l.length+x*hs x y l)
  rw[go_len,e,nt_add,pw_succ];grind
theorem pow_hs (x y:α):∀ n:Nat,(x+y) ^ n=hs x y (row n)
 | 0=>by
  show _=nt α 1*y ^ 0+x*0
  rw[pw_zero,pw_zero,nt_one];grind
 | n+1=>by
  show _=hs x y (go 0 (row n))
  rw[hs_go,pw_succ,pow_hs x y n,nt_zero];grind
theorem hs_last (x y:α)(p:Nat)(hp:nt α p=0):∀ l:List Nat,(∀ c∈l,c % p=0)→hs x y (l++[1])=x ^ l.length
 | [],_=>by
  show nt α 1*y ^ 0+x*0=x ^ 0
  rw[pw_zero,pw_zero,nt_one];grind
 | c::l,h=>by
  have e:=hs_last x y p hp l fun d hd=>h d (List.mem_cons_of_mem _ hd)
  obtain⟨k,hk⟩:=Nat.dvd_of_mod_eq_zero (h c List.mem_cons_self)
  show nt α c*y ^ (l++[1]).length+x*hs x y (l++[1])=x ^ (l.length+1)
  rw[e,hk,nt_mul,hp,pw_succ];grind
def okrow (p:Nat):Bool:=(row p).head? == some 1 && (row p).getLast? == some 1 && ((row p).drop 1).dropLast.all (fun c=>c % p == 0) && (row p).length == p+1 && decide (2≤p)
def PR:List Nat:=[2,3,5,7,11,13,17,19,23,29,31,37,41,43,47]
theorem okrows:∀ p∈PR,okrow p=true:=by decide +kernel
theorem frob1 {p:Nat}(h:okrow p=true)(hp:nt α p=0)(x y:α):(x+y) ^ p=x ^ p+y ^ p:=by
 unfold okrow at h
 simp only[Bool.and_eq_true,beq_iff_eq,decide_eq_true_eq,List.all_eq_true] at h
 obtain⟨⟨⟨⟨h1,h2⟩,h3⟩,h4⟩,h5⟩:=h
 rw[pow_hs]
 match e:row p,h1 with
 | c::t,h1=>
  rw[e] at h2 h3 h4
  have c1:c=1:=by simpa using h1
  have tl:t.length=p:=by simpa using h4
  have tne:t≠[]:=by intro z;rw[z] at tl;simp at tl;omega
  have t2:t=t.dropLast++[1]:=by
   have:=List.dropLast_concat_getLast tne
   have gl:t.getLast tne=1:=by
    rw[List.getLast?_cons_of_ne_nil tne] at h2
    rw[List.getLast?_eq_some_getLast tne] at h2
    simpa using h2
   rw[gl] at this
   exact this.symm
  have dl:t.dropLast.length+1=p:=by rw[List.length_dropLast];omega
  show nt α c*y ^ t.length+x*hs x y t=_
  rw[tl,c1,nt_one]
  have h3:∀ d∈t.dropLast,d % p=0:=h3
  rw[t2,hs_last x y p hp t.dropLast h3]
  have:x*x ^ t.dropLast.length=x ^ p:=by
   rw[← dl,pw_succ];grind
  grind
theorem frobq {p:Nat}(h:okrow p=true)(hp:nt α p=0)(x y:α):∀ d:Nat,(x+y) ^ (p ^ d)=x ^ (p ^ d)+y ^ (p ^ d)
 | 0=>by
  have:∀ z:α,z ^ (p ^ 0)=z:=fun z=>by
   rw[Nat.pow_zero]
   have:=pw_succ z 0
   rw[pw_zero] at this
   grind
  rw[this,this,this]
 | d+1=>by rw[Nat.pow_succ,pw_mul,frobq h hp x y d,frob1 h hp,← pw_mul,← pw_mul]
end
end Alg
set_option Elab.async false
set_option linter.all false
set_option maxRecDepth 100000
namespace Alg
open Lean.Grind
section
variable {α:Type} [CommRing α]
theorem gcd_ex (hF:Fld α):∀ (N:Nat) (a b:Ser α),IsP a→Dg b N→∃ g u v s t,IsP g∧IsP u∧IsP v∧IsP s∧IsP t∧g=u*a+v*b∧a=s*g∧b=t*g
 | 0,a,b,ha,hb=>⟨a,1,0,1,0,ha,IsP.one,IsP.zero,IsP.one,IsP.zero,by rw[hb.eq0];grind,by grind,by rw[hb.eq0];grind⟩
 | N+1,a,b,ha,hb=>by
  by_cases z:b.c N=0
  ·refine gcd_ex hF N a b ha fun i hi=>?_
   by_cases e:i=N
   ·rw[e];exact z
   ·exact hb i (by omega)
  ·obtain⟨y,hy⟩:=hF.2 _ z
   have hm:Monic (cst y*b) N:=⟨by rw[cst_mul];grind,fun i hi=>by rw[cst_mul,hb i hi];grind⟩
   obtain⟨Na,hNa⟩:=id ha
   obtain⟨q,h1,h2⟩:=div_ex hm Na a hNa
   obtain⟨g,u,v,s,t,pg,pu,pv,ps,pt,eg,eb,er⟩:=gcd_ex hF N b _ ⟨_,hb⟩ h2
   have pq:IsP q:=⟨_,h1⟩
   refine⟨g,v,u - v*(q*cst y),q*cst y*s+t,s,pg,pv,pu.sub (pv.mul (pq.mul (IsP.cst y))),((pq.mul (IsP.cst y)).mul ps).add pt,ps,?_,?_,eb⟩
   ·grind
   ·have:a=q*(cst y*b)+t*g:=by rw[← er];grind
    grind
theorem top_of {a:Ser α}(h0:a≠0):∀ N:Nat,Dg a N→∃ e,e<N∧a.c e≠0∧Dg a (e+1)
 | 0,h=>absurd h.eq0 h0
 | N+1,h=>by
  by_cases z:a.c N=0
  ·obtain⟨e,h1,h2,h3⟩:=top_of h0 N fun i hi=>by
    by_cases e:i=N
    ·rw[e];exact z
    ·exact h i (by omega)
   exact⟨e,by omega,h2,h3⟩
  ·exact⟨N,by omega,z,h⟩
theorem unit_or_div (hF:Fld α)(M:Md α)(w:Ser α)(hw:Dg w M.n)(h0:w≠0):
  (∃ u,IsP u∧Cg M.f (u*w) 1)∨∃ g e,Monic g e∧1≤e∧e<M.n∧∃ t,IsP t∧M.f=t*g:=by
 obtain⟨g,u,v,s,t,pg,pu,pv,ps,pt,eg,ef,ew⟩:=gcd_ex hF M.n M.f w M.mon.isP hw
 have g0:g≠0:=fun z=>h0 (by rw[ew,z];grind)
 obtain⟨Ng,hg⟩:=id pg
 obtain⟨e,_,x0,he⟩:=top_of g0 Ng hg
 obtain⟨y,hy⟩:=hF.2 _ x0
 by_cases e0:e=0
 ·subst e0
  refine .inl ⟨cst y*v,(IsP.cst y).mul pv,-(cst y*u),((IsP.cst y).mul pu).neg,?_⟩
  have c1:cst y*g=1:=by
   rw[cst_of he,← cst_mul']
   have:y*g.c 0=1:=by grind
   rw[this];rfl
  grind
 ·refine .inr ⟨cst y*g,e,⟨by rw[cst_mul];grind,fun i hi=>by rw[cst_mul,he i hi];grind⟩,by omega,?_,s*cst (g.c e),ps.mul (IsP.cst _),?_⟩
  ·have t0:t≠0:=fun z=>h0 (by rw[ew,z];grind)
   obtain⟨Nt,ht⟩:=id pt
   obtain⟨k,_,tk,hk⟩:=top_of t0 Nt ht
   have e1:=(mul_top g e he k t hk).1
   rw[← ew] at e1
   refine Classical.byContradiction fun c=>?_
   rw[hw (k+e) (by omega)] at e1
   rcases hF.dom _ _ e1.symm with z | z
   ·exact tk z
   ·exact x0 z
  ·have c1:cst (g.c e)*cst y=1:=by
    rw[← cst_mul',hy];rfl
   have:s*cst (g.c e)*(cst y*g)=s*g*(cst (g.c e)*cst y):=by grind
   rw[this,c1,← ef];grind
theorem least {P:Nat→Prop}(n:Nat)(h:P n):∃ m,P m∧∀ k,k<m→¬ P k:=by
 refine Classical.byContradiction fun c=>?_
 have all:∀ n,¬ P n:=fun n=>by
  induction n using Nat.strongRecOn with
  | _ n ih=>exact fun hp=>c ⟨n,hp,ih⟩
 exact all n h
theorem of_cg {M:Md α}{a b:Ser α}(hb:IsP b)(h:Cg M.f a b):Qt.of M a=Qt.of M b:=by
 apply Qt.ext
 exact rest_eq (rest_dg _ _) (h.trans (rest_cg hb))
def Irr (M:Md α):Prop:=∀ w,Dg w M.n→w≠0→∃ u,IsP u∧Cg M.f (u*w) 1
theorem qt_fld {M:Md α}(h1:(1:α)≠0)(h:Irr M):Fld (Qt M):=by
 refine⟨fun z=>?_,fun x hx=>?_⟩
 ·have e:=congrArg (fun x:Qt M=>x.s.c 0) z
  exact h1 e
 ·obtain⟨u,hu,hc⟩:=h x.s x.lt fun z=>hx (Qt.ext z)
  refine⟨Qt.of M u,?_⟩
  have e:=of_cg IsP.one hc
  rw[of_mul hu x.isP,of_s,of_one] at e
  grind
theorem nt_qt {M:Md α}:∀ n:Nat,nt (Qt M) n=Qt.of M (cst (nt α n))
 | 0=>by
  show (0:Qt M)=Qt.of M (cst 0)
  rw[cst_zero,of_zero]
 | n+1=>by
  show nt (Qt M) n+1=Qt.of M (cst (nt α n+1))
  rw[cst_add,of_add (IsP.cst _) (IsP.cst _),nt_qt n,cst_one,of_one]
theorem nt_qt0 {M:Md α}{p:Nat}(h:nt α p=0):nt (Qt M) p=0:=by rw[nt_qt,h,cst_zero,of_zero]
noncomputable def mp (M:Md α)(a:Ser α):Ser (Qt M):=⟨fun i=>Qt.of M (cst (a.c i))⟩
theorem of_ev {M:Md α}:∀ (N:Nat) (a:Ser α),Dg a N→Qt.of M a=ev N (mp M a) (Qt.of M X)
 | 0,a,h=>by rw[h.eq0,of_zero];rfl
 | N+1,a,h=>by
  have e:=of_ev (M:=M) N (tl a) h.tl
  have hs:a=cst (a.c 0)+X*tl a:=split0 a
  have e2:Qt.of M a=Qt.of M (cst (a.c 0))+Qt.of M X*Qt.of M (tl a):=by
   have h2:=congrArg (Qt.of M) hs
   rw[of_add (IsP.cst _) (IsP.X.mul ⟨_,h.tl⟩),of_mul IsP.X ⟨_,h.tl⟩] at h2
   exact h2
  rw[e2,e]
  rfl
theorem zero_pw {β:Type}[CommRing β]{q:Nat}(h:0<q):(0:β) ^ q=0:=by
 obtain⟨k,rfl⟩:∃ k,q=k+1:=⟨q - 1,by omega⟩
 rw[pw_succ];grind
theorem ev_frob {M:Md α}{q:Nat}(q0:0<q)(hq:∀ c:α,c ^ q=c)(ha:∀ x y:Qt M,(x+y) ^ q=x ^ q+y ^ q)(y:Qt M):∀ (N:Nat) (a:Ser α),(ev N (mp M a) y) ^ q=ev N (mp M a) (y ^ q)
 | 0,a=>zero_pw q0
 | N+1,a=>by
  have e:=ev_frob q0 hq ha y N (tl a)
  have c1:Qt.of M (cst (a.c 0)) ^ q=Qt.of M (cst (a.c 0)):=by rw[← of_pow (IsP.cst _),← cst_pow,hq]
  show (Qt.of M (cst (a.c 0))+y*ev N (mp M (tl a)) y) ^ q=Qt.of M (cst (a.c 0))+y ^ q*ev N (mp M (tl a)) (y ^ q)
  rw[ha,mul_pw,e,c1]
theorem pw_one {β:Type}[CommRing β](x:β):x ^ 1=x:=by
 have:=pw_succ x 0
 rw[pw_zero] at this
 have e:(0+1:Nat)=1:=rfl
 rw[e] at this
 rw[this];grind
theorem ev_frobs {M:Md α}{q:Nat}(q0:0<q)(hq:∀ c:α,c ^ q=c)(ha:∀ x y:Qt M,(x+y) ^ q=x ^ q+y ^ q)(y:Qt M)(N:Nat)(a:Ser α):∀ i:Nat,(ev N (mp M a) y) ^ (q ^ i)=ev N (mp M a) (y ^ (q ^ i))
 | 0=>by rw[Nat.pow_zero,pw_one,pw_one]
 | i+1=>by rw[Nat.pow_succ,pw_mul,ev_frobs q0 hq ha y N a i,ev_frob q0 hq ha,← pw_mul]
theorem pow_turns {β:Type}[CommRing β]{x:β}{q m:Nat}(h:x ^ (q ^ m)=x):∀ a:Nat,x ^ (q ^ (m*a))=x
 | 0=>by rw[Nat.mul_zero,Nat.pow_zero,pw_one]
 | a+1=>by rw[Nat.mul_succ,Nat.pow_add,pw_mul,pow_turns h a,h]
def IsPr (r:Nat):Prop:=2≤r∧∀ m,m ∣ r→m=1∨m=r
theorem pr_in:∀ k:Nat,2≤k→∃ r,IsPr r∧r ∣ k:=fun k=>by
 induction k using Nat.strongRecOn with
 | _ k ih=>
  intro hk
  by_cases c:∃ m,m ∣ k∧m≠1∧m≠k
  ·obtain⟨m,h1,h2,h3⟩:=c
   have le:=Nat.le_of_dvd (by omega) h1
   have m0:m≠0:=fun z=>by rw[z] at h1;have:=Nat.eq_zero_of_zero_dvd h1;omega
   obtain⟨r,h4,h5⟩:=ih m (by omega) (by omega)
   exact⟨r,h4,Nat.dvd_trans h5 h1⟩
  ·refine⟨k,⟨hk,fun m hm=>?_⟩,Nat.dvd_refl k⟩
   by_cases a:m=1
   ·exact .inl a
   ·by_cases b:m=k
    ·exact .inr b
    ·exact absurd ⟨m,hm,a,b⟩ c
theorem nodup_map {β:Type}{f:Nat→β}{n:Nat}(h:∀ i j,i<j→j<n→f i≠f j):((List.range n).map f).Nodup:=by
 refine List.pairwise_map.mpr ?_
 refine List.Pairwise.imp_of_mem (fun {a b} ha hb hab=>?_) List.pairwise_lt_range
 exact h a b hab (List.mem_range.mp hb)
theorem two_le {m k n:Nat}(h:m*k=n)(n0:0<n)(c:¬ m=n):2≤k:=by
 match k with
 | 0=>rw[Nat.mul_zero] at h;omega
 | 1=>rw[Nat.mul_one] at h;omega
 | k+2=>omega
theorem sub_same {β:Type}[CommRing β](x:β):x - x=0:=by grind
theorem zero_over {β:Type}[CommRing β](f s:β):s=0*f+s:=by grind
theorem one_one {β:Type}[CommRing β]:(1:β)*1=1:=by grind
theorem one_cst_mul {β:Type}[CommRing β](s:Ser β):cst 1*s=s:=by rw[cst_one];grind
theorem nought_of {β:Type}[CommRing β](x y:β):x*0+y*0=0:=by grind
theorem rabin (hF:Fld α){p d:Nat}(hp:okrow p=true)(hc:nt α p=0)(hq:∀ c:α,c ^ (p ^ d)=c)(M:Md α)(h1:Cg M.f ((X:Ser α) ^ ((p ^ d) ^ M.n)) X)
  (h2:∀ r,IsPr r→r ∣ M.n→∃ u v,IsP u∧IsP v∧u*M.f+v*((X:Ser α) ^ ((p ^ d) ^ (M.n / r)) - X)=1):Irr M:=by
 intro w hw hw0
 rcases unit_or_div hF M w hw hw0 with h | h
 ·exact h
 exfalso
 have p2:2≤p:=by
  unfold okrow at hp
  simp only[Bool.and_eq_true,beq_iff_eq,decide_eq_true_eq] at hp
  exact hp.2
 have q0:0<p ^ d:=Nat.pow_pos (by omega)
 generalize eq:p ^ d=q at h1 h2 hq q0
 obtain⟨g0,e0,a1,a2,a3,t0,a4,a5⟩:=h
 obtain⟨e,⟨g,hg,e1,t,pt,ef⟩,hmin⟩:=least (P:=fun e=>∃ g,Monic g e∧1≤e∧∃ t,IsP t∧M.f=t*g) e0 ⟨g0,a1,a2,t0,a4,a5⟩
 have en:e<M.n:=by
  refine Nat.lt_of_le_of_lt ?_ a3
  refine Nat.le_of_not_lt fun c=>hmin e0 c ⟨g0,a1,a2,t0,a4,a5⟩
 let G:Md α:=⟨g,e,hg,e1⟩
 have irr:Irr G:=fun v hv v0=>by
  rcases unit_or_div hF G v hv v0 with h | ⟨g',e',b1,b2,b3,s,ps,b4⟩
  ·exact h
  ·refine absurd ⟨g',b1,b2,t*s,pt.mul ps,?_⟩ (hmin e' b3)
   have b4:g=s*g':=b4
   rw[ef,b4];grind
 have hK:Fld (Qt G):=qt_fld hF.1 irr
 have ad:∀ x y:Qt G,(x+y) ^ q=x ^ q+y ^ q:=fun x y=>by rw[← eq];exact frobq hp (nt_qt0 hc) x y d
 let ξ:Qt G:=Qt.of G X
 have of_pw:∀ k:Nat,Qt.of G (X ^ k)=ξ ^ k:=fun k=>of_pow IsP.X k
 have ff:Qt.of G M.f=0:=by
  rw[ef,of_mul pt hg.isP]
  have:Qt.of G g=0:=of_f (M:=G)
  rw[this];grind
 have hn:ξ ^ (q ^ M.n)=ξ:=by
  rw[← of_pw]
  refine of_cg (M:=G) IsP.X ?_
  obtain⟨k,pk,ek⟩:=h1
  refine⟨k*t,pk.mul pt,?_⟩
  rw[ek,ef]
  show k*(t*g)=k*t*g
  grind
 obtain⟨m,⟨m1,hm⟩,mmin⟩:=least (P:=fun m=>1≤m∧ξ ^ (q ^ m)=ξ) M.n ⟨M.pos,hn⟩
 have mle:m≤M.n:=Nat.le_of_not_lt fun c=>mmin M.n c ⟨M.pos,hn⟩
 have hb:M.n % m=0:=by
  refine Classical.byContradiction fun c=>?_
  refine mmin (M.n % m) (Nat.mod_lt _ (by omega)) ⟨by omega,?_⟩
  have:ξ ^ (q ^ (m*(M.n / m)+M.n % m))=ξ:=by rw[Nat.div_add_mod];exact hn
  rw[Nat.pow_add,pw_mul,pow_turns hm] at this
  exact this
 have emn:m=M.n:=by
  refine Classical.byContradiction fun c=>?_
  have dv:m*(M.n / m)=M.n:=by have:=Nat.div_add_mod M.n m;omega
  have k2:2≤M.n / m:=two_le dv M.pos c
  obtain⟨r,hr,k,hk⟩:=pr_in (M.n / m) k2
  have nr:M.n=r*(m*k):=by rw[← dv,hk];grind
  have r0:0<r:=by have:=hr.1;omega
  have dr:M.n / r=m*k:=by rw[nr];exact Nat.mul_div_cancel_left _ r0
  obtain⟨u,v,pu,pv,huv⟩:=h2 r hr ⟨_,nr⟩
  rw[dr] at huv
  have z:=congrArg (Qt.of G) huv
  rw[of_add (pu.mul M.mon.isP) (pv.mul ((IsP.X.pow _).sub IsP.X)),of_mul pu M.mon.isP,of_mul pv ((IsP.X.pow _).sub IsP.X),of_sub (IsP.X.pow _) IsP.X,ff,of_pw,of_one,pow_turns hm] at z
  refine hK.1 ?_
  have:(1:Qt G)=Qt.of G u*0+Qt.of G v*(ξ - Qt.of G X):=z.symm
  have e3:ξ - Qt.of G X=0:=sub_same ξ
  rw[e3] at this
  rw[this]
  exact nought_of _ _
 subst emn
 have dis:∀ i j,i<j→j<e+1→ξ ^ (q ^ i)≠ξ ^ (q ^ j):=fun i j hij hj z=>by
  have z2:=congrArg (fun x:Qt G=>x ^ (q ^ (M.n - j))) z
  have z3:(ξ ^ (q ^ i)) ^ (q ^ (M.n - j))=(ξ ^ (q ^ j)) ^ (q ^ (M.n - j)):=z2
  rw[← pw_mul,← pw_mul,← Nat.pow_add,← Nat.pow_add] at z3
  have:j+(M.n - j)=M.n:=by omega
  rw[this,hn] at z3
  exact mmin (i+(M.n - j)) (by omega) ⟨by omega,z3⟩
 have zz:mp G g=0:=by
  refine roots_few hK.dom e (mp G g) ((List.range (e+1)).map fun i=>ξ ^ (q ^ i)) (fun i hi=>?_) (by simp) (nodup_map dis) fun y hy=>?_
  ·show Qt.of G (cst (g.c i))=0
   rw[hg.dg i hi,cst_zero,of_zero]
  ·obtain⟨i,_,rfl⟩:=List.mem_map.mp hy
   rw[← ev_frobs q0 hq ad ξ (e+1) g i,← of_ev (M:=G) (e+1) g hg.dg]
   have:Qt.of G g=0:=of_f (M:=G)
   rw[this]
   exact zero_pw (Nat.pow_pos q0)
 have z1:(mp G g).c e=0:=by rw[zz];rfl
 have z2:(mp G g).c e=1:=by
  show Qt.of G (cst (g.c e))=1
  rw[hg.top,cst_one,of_one]
 exact hK.1 (z2.symm.trans z1)
theorem qt_pow {p d:Nat}(hp:okrow p=true)(hc:nt α p=0)(hq:∀ c:α,c ^ (p ^ d)=c)(M:Md α)(h1:Cg M.f ((X:Ser α) ^ ((p ^ d) ^ M.n)) X)(x:Qt M):x ^ (p ^ (d*M.n))=x:=by
 have p2:2≤p:=by
  unfold okrow at hp
  simp only[Bool.and_eq_true,beq_iff_eq,decide_eq_true_eq] at hp
  exact hp.2
 have q0:0<p ^ d:=Nat.pow_pos (by omega)
 have ad:∀ x y:Qt M,(x+y) ^ (p ^ d)=x ^ (p ^ d)+y ^ (p ^ d):=fun x y=>frobq hp (nt_qt0 hc) x y d
 have e:=ev_frobs q0 hq ad (Qt.of M X) M.n x.s M.n
 rw[← of_ev (M:=M) M.n x.s x.lt,of_s] at e
 rw[Nat.pow_mul,e]
 have:Qt.of M X ^ ((p ^ d) ^ M.n)=Qt.of M X:=by
  rw[← of_pow IsP.X]
  exact of_cg IsP.X h1
 rw[this,← of_ev (M:=M) M.n x.s x.lt,of_s]
theorem one_times {β:Type}[CommRing β](x:β):1*x=x:=by grind
theorem times_one {β:Type}[CommRing β](x:β):x*1=x:=by grind
theorem half_even {β:Type}[CommRing β](y z:β){l:Nat}(h:l % 2=0):y*z ^ l=y*(z*z) ^ (l / 2):=by
 have e:l=2*(l / 2):=by omega
 have e2:z ^ (2*(l / 2))=(z*z) ^ (l / 2):=by
  rw[pw_mul]
  have:z ^ 2=z*z:=by
   rw[show (2:Nat)=1+1 from rfl,pw_succ,pw_one]
  rw[this]
 rw[← e2,← e]
theorem half_odd {β:Type}[CommRing β](y z:β){l:Nat}(h:l % 2=1):y*z ^ l=(y*z)*(z*z) ^ (l / 2):=by
 have e:l=(l - 1)+1:=by omega
 have h2:=half_even y z (l:=l - 1) (by omega)
 have e3:(l - 1) / 2=l / 2:=by omega
 rw[e3] at h2
 have e4:y*z ^ l=y*z ^ (l - 1)*z:=by
  have:z ^ l=z ^ (l - 1)*z:=by
   have:=pw_succ z (l - 1)
   rw[← e] at this
   exact this
  rw[this];grind
 rw[e4,h2];grind
theorem Cg.pow {f a b:Ser α}(hb:IsP b)(ha:IsP a)(h:Cg f a b):∀ n:Nat,Cg f (a ^ n) (b ^ n)
 | 0=>by rw[pw_zero,pw_zero];exact Cg.refl _ _
 | n+1=>by rw[pw_succ,pw_succ];exact Cg.mul (hb.pow n) ha (Cg.pow hb ha h n) h
theorem Cg.of_div {f s x y:Ser α}(hx:IsP x)(e:s=x*f+y):Cg f s y:=⟨x,hx,by rw[e];grind⟩
theorem dg_prod {s t:Ser α}{n m:Nat}(ds:Dg s n)(dt:Dg t m):Dg (s*t) (if n=0∨m=0 then 0 else n+m - 1):=by
 by_cases a:n=0
 ·subst a
  have:s*t=0:=by rw[ds.eq0];grind
  rw[this];exact Dg.zero _
 ·by_cases b:m=0
  ·subst b
   have:s*t=0:=by rw[dt.eq0];grind
   rw[this];exact Dg.zero _
  ·rw[if_neg (by omega)]
   have:=(mul_top t (m - 1) (by rw[show m - 1+1=m by omega];exact dt) (n - 1) s (by rw[show n - 1+1=n by omega];exact ds)).2
   exact this.mono (by omega)
theorem cop_of {f a b y z u v:Ser α}(pu:IsP u)(pv:IsP v)(ha:Cg f a y)(hb:Cg f b z)(h:1=u*f+v*(y - z)):∃ u v,IsP u∧IsP v∧u*f+v*(a - b)=1:=by
 obtain⟨q1,p1,e1⟩:=ha
 obtain⟨q0,p0,e0⟩:=hb
 refine⟨u - v*(q1 - q0),v,pu.sub (pv.mul (p1.sub p0)),pv,?_⟩
 grind
theorem cop_one {f a b y z g u v e1 e2:Ser α}{k:Nat}(h1:(1:α)≠0)(ha:Cg f a y)(hb:Cg f b z)(pu:IsP u)(pv:IsP v)(h:u*f+v*(a - b)=1)(hg:Monic g k)(p1:IsP e1)(p2:IsP e2)(l:f=e1*g)(r:y - z=e2*g):k=0∧g=1:=by
 obtain⟨q1,pq1,w1⟩:=ha
 obtain⟨q0,pq0,w0⟩:=hb
 have e:1=(u*e1+v*(e2+(q1 - q0)*e1))*g:=by grind
 have pe:IsP (u*e1+v*(e2+(q1 - q0)*e1)):=(pu.mul p1).add (pv.mul (p2.add ((pq1.sub pq0).mul p1)))
 generalize u*e1+v*(e2+(q1 - q0)*e1)=E at e pe
 have k0:k=0:=by
  refine Classical.byContradiction fun c=>?_
  obtain⟨N,hN⟩:=pe
  have z:=div_uniq hg N E hN (by rw[← e];exact Dg.one.mono (by omega))
  rw[z] at e
  have e':(1:Ser α)=0:=by grind
  exact h1 (congrArg (fun s:Ser α=>s.c 0) e')
 subst k0
 refine⟨rfl,?_⟩
 rw[cst_of hg.dg,hg.top];rfl
theorem pow_less (hD:Dom α){x:α}{q:Nat}(h2:2≤q)(h:x ^ q=x)(x0:x≠0)(n:Nat):x ^ (n % (q - 1))=x ^ n:=by
 have e1:x ^ (q - 1)=1:=by
  have e:x*(x ^ (q - 1) - 1)=0:=by
   have:x ^ q=x ^ (q - 1)*x:=by
    have:=pw_succ x (q - 1)
    rw[show q - 1+1=q by omega] at this
    exact this
   rw[this] at h
   grind
  rcases hD _ _ e with z | z
  ·exact absurd z x0
  ·grind
 have:n=(q - 1)*(n / (q - 1))+n % (q - 1):=(Nat.div_add_mod _ _).symm
 have e2:x ^ n=x ^ ((q - 1)*(n / (q - 1))+n % (q - 1)):=by rw[← this]
 rw[e2,pw_add,pw_mul,e1,one_pw]
 grind
theorem mul_comm_one {x y:α}(h:x*y=1):y*x=1:=by grind
theorem mul_nought (y:α):y*0=0:=by grind
theorem swap_mul (x y f z:Ser α):x*(y*f)+z=y*x*f+z:=by grind
structure Mix (s t s' t':Ser α):Prop where
 a:∃ u v,IsP u∧IsP v∧s'=u*s+v*t
 b:∃ u v,IsP u∧IsP v∧t'=u*s+v*t
 c:∃ u v,IsP u∧IsP v∧s=u*s'+v*t'
 d:∃ u v,IsP u∧IsP v∧t=u*s'+v*t'
theorem Mix.refl (s t:Ser α):Mix s t s t:=⟨⟨1,0,IsP.one,IsP.zero,by grind⟩,⟨0,1,IsP.zero,IsP.one,by grind⟩,⟨1,0,IsP.one,IsP.zero,by grind⟩,⟨0,1,IsP.zero,IsP.one,by grind⟩⟩
theorem Mix.step {s t s' t' x r:Ser α}(h:Mix s t s' t')(hx:IsP x)(e:s'=x*t'+r):Mix s t t' r:=by
 obtain⟨⟨u1,v1,p1,p2,e1⟩,⟨u2,v2,p3,p4,e2⟩,⟨u3,v3,p5,p6,e3⟩,⟨u4,v4,p7,p8,e4⟩⟩:=h
 refine⟨⟨u2,v2,p3,p4,e2⟩,⟨u1 - x*u2,v1 - x*v2,p1.sub (hx.mul p3),p2.sub (hx.mul p4),by grind⟩,⟨u3*x+v3,u3,(p5.mul hx).add p6,p5,by grind⟩,⟨u4*x+v4,u4,(p7.mul hx).add p8,p7,by grind⟩⟩
theorem Mix.last {s t s':Ser α}{x y:α}(h:Mix s t s' 0)(hxy:x*y=1):(∃ u v,IsP u∧IsP v∧cst y*s'=u*s+v*t)∧(∃ e,IsP e∧s=e*(cst y*s'))∧∃ e,IsP e∧t=e*(cst y*s'):=by
 obtain⟨⟨u1,v1,p1,p2,e1⟩,_,⟨u3,v3,p5,p6,e3⟩,⟨u4,v4,p7,p8,e4⟩⟩:=h
 have c1:cst x*cst y=1:=by rw[← cst_mul',hxy];rfl
 refine⟨⟨cst y*u1,cst y*v1,(IsP.cst y).mul p1,(IsP.cst y).mul p2,by grind⟩,⟨u3*cst x,p5.mul (IsP.cst x),?_⟩,⟨u4*cst x,p7.mul (IsP.cst x),?_⟩⟩
 ·have:u3*cst x*(cst y*s')=u3*s'*(cst x*cst y):=by grind
  rw[this,c1];grind
 ·have:u4*cst x*(cst y*s')=u4*s'*(cst x*cst y):=by grind
  rw[this,c1];grind
theorem euclid_step (hD:Dom α)(h1:(1:α)≠0){f x r1 r2 q r3 U V:Ser α}{d:Nat}(mx:Mix f x r1 r2)(pU:IsP U)(pV:IsP V)(hu:1=U*f+V*x)(pq:IsP q)(e:r1=q*r2+r3)(hd:1≤d)(dg:Dg r2 (d+1))(ld:r2.c d≠0):r3≠0:=fun z=>by
 subst z
 obtain⟨_,_,⟨u3,v3,p5,p6,e3⟩,⟨u4,v4,p7,p8,e4⟩⟩:=mx.step pq e
 have eE:1=(U*u3+V*u4)*r2:=by grind
 have pE:IsP (U*u3+V*u4):=(pU.mul p5).add (pV.mul p7)
 generalize U*u3+V*u4=E at eE pE
 have E0:E≠0:=fun z=>by
  rw[z] at eE
  have e':(1:Ser α)=0:=by grind
  exact h1 (congrArg (fun s:Ser α=>s.c 0) e')
 obtain⟨N,hN⟩:=pE
 obtain⟨k,_,hk,dk⟩:=top_of E0 N hN
 have t:=(mul_top r2 d dg k E dk).1
 rw[← eE,c_one,if_neg (by omega)] at t
 rcases hD _ _ t.symm with y | y
 ·exact hk y
 ·exact ld y
theorem back_cg {f x a b q:Ser α}(px:IsP x)(pb:IsP b)(pa:IsP a)(pq:IsP q){r s t:Ser α}(ha:Cg f (x*a) r)(hb:Cg f (x*b) s)(e:r=q*s+t):Cg f (x*(a - q*b)) t:=by
 obtain⟨u,pu,eu⟩:=ha
 obtain⟨v,pv,ev⟩:=hb
 exact⟨u - q*v,pu.sub (pq.mul pv),by grind⟩
theorem zero_cg (f x:Ser α):Cg f (x*0) f:=⟨-1,IsP.one.neg,by grind⟩
theorem one_of_irr {M:Md α}(h:Irr M){x:Ser α}(dx:Dg x M.n)(x0:x≠0):∃ U V,IsP U∧IsP V∧1=U*M.f+V*x:=by
 obtain⟨u,pu,q,pq,e⟩:=h x dx x0
 exact⟨-q,u,pq.neg,pu,by grind⟩
theorem back_end {M:Md α}{x f2 r2:Ser α}{y:α}(dx:Dg x M.n)(pf:IsP f2)(hc:Cg M.f (x*f2) r2)(d1:Dg r2 1)(hy:r2.c 0*y=1):(⟨x,dx⟩:Qt M)*Qt.of M (cst y*f2)=1:=by
 have px:IsP x:=⟨_,dx⟩
 have e:(⟨x,dx⟩:Qt M)=Qt.of M x:=(of_s (⟨x,dx⟩:Qt M)).symm
 rw[e,← of_mul px ((IsP.cst y).mul pf),← of_one]
 refine of_cg IsP.one ?_
 have e2:x*(cst y*f2)=cst y*(x*f2):=by grind
 have e3:cst y*r2=1:=by
  rw[cst_of d1,← cst_mul']
  have:y*r2.c 0=1:=by grind
  rw[this];rfl
 rw[e2,← e3]
 exact Cg.mul (IsP.cst y) (px.mul pf) (Cg.refl _ _) hc
end
end Alg
set_option Elab.async false
set_option linter.all false
set_option maxRecDepth 100000
namespace L2
open PySem PySem.Spec PyProof.Rows
abbrev Key:=Sum Int Str
def keyIs:Key→Value→Bool
 | .inl k,v=>Value.isInt k v
 | .inr x,v=>Value.isStrOf x v
def keyH (w:World):Key→Int
 | .inl k=>hashInt k
 | .inr x=>hashStr w x
theorem keyIs_shape:∀ {k:Key} {v:Value},keyIs k v=true→(∃ i t,k=Sum.inl i∧v=Value.int i t)∨(∃ x t,k=Sum.inr x∧v=Value.str x t)
 | .inl i,v,h=>by
  obtain⟨t,e⟩:=Value.isInt_shape (k:=i) (v:=v) h
  exact .inl ⟨i,t,rfl,e⟩
 | .inr x,v,h=>by
  obtain⟨t,e⟩:=Value.isStrOf_shape (x:=x) (v:=v) h
  exact .inr ⟨x,t,rfl,e⟩
theorem key_ll (a b:Int):decide ((Sum.inl a:Key)=Sum.inl b)=(a == b):=by
 by_cases e:a=b
 ·subst e;simp
 ·have h:¬ (Sum.inl a:Key)=Sum.inl b:=fun q=>e (Sum.inl.inj q)
  rw[decide_eq_false h]
  exact (beq_eq_false_iff_ne.mpr e).symm
theorem key_rr (a b:Str):decide ((Sum.inr a:Key)=Sum.inr b)=decide (a=b):=by
 by_cases e:a=b
 ·subst e;simp
 ·have h:¬ (Sum.inr a:Key)=Sum.inr b:=fun q=>e (Sum.inr.inj q)
  rw[decide_eq_false h,decide_eq_false e]
theorem key_lr (a:Int)(b:Str):decide ((Sum.inl a:Key)=Sum.inr b)=false:=decide_eq_false (fun q=>nomatch q)
theorem key_rl (a:Str)(b:Int):decide ((Sum.inr a:Key)=Sum.inl b)=false:=decide_eq_false (fun q=>nomatch q)
def mixKind (prog:Program)(w:World):PySem.KeyKind prog w Key where
 is:=keyIs
 hash:=keyH w
 inj:=fun v a b ha hb=>by
  rcases keyIs_shape ha with ⟨i,t,rfl,rfl⟩ | ⟨x,t,rfl,rfl⟩
  ·rcases keyIs_shape hb with ⟨j,u,rfl,e⟩ | ⟨y,u,rfl,e⟩
   ·injection e with e1 _;rw[e1]
   ·exact nomatch e
  ·rcases keyIs_shape hb with ⟨j,u,rfl,e⟩ | ⟨y,u,rfl,e⟩
   ·exact nomatch e
   ·injection e with e1 _;rw[e1]
 byValue:=fun k v h=>by
  rcases keyIs_shape h with ⟨i,t,rfl,rfl⟩ | ⟨x,t,rfl,rfl⟩ <;> rfl
 pyHash:=fun hv h=>by
  rcases keyIs_shape hv with ⟨i,t,rfl,rfl⟩ | ⟨x,t,rfl,rfl⟩
  ·exact wpAny_pyHash_int h
  ·exact wpAny_pyHash_str h
 eqBool:=fun hu hv h=>by
  rcases keyIs_shape hu with ⟨i,t,rfl,rfl⟩ | ⟨x,t,rfl,rfl⟩
  ·rcases keyIs_shape hv with ⟨j,u,rfl,rfl⟩ | ⟨y,u,rfl,rfl⟩
   ·rw[key_ll] at h;exact wpAny_eqBool_int h
   ·rw[key_lr] at h;exact SeqAt.EqAt.int_str i t y u _ _ _ _ h
  ·rcases keyIs_shape hv with ⟨j,u,rfl,rfl⟩ | ⟨y,u,rfl,rfl⟩
   ·rw[key_rl] at h;exact SeqAt.EqAt.str_int x t j u _ _ _ _ h
   ·rw[key_rr] at h;exact wpAny_eqBool_str h
 «strs»:=fun k x t v h=>by
  rcases keyIs_shape h with ⟨i,u,rfl,e⟩ | ⟨y,u,rfl,e⟩
  ·exact nomatch e
  ·injection e with e1 _
   subst e1
   cases v <;> rfl
end L2
namespace L2
open PySem PySem.Spec PyProof.Rows
inductive V where
 | non | bl (b:Bool) | int (i:Int) | str (x:Str) | byt (b:Array UInt8) | flt (b:UInt64) | ref (a:Addr) | ty (n:String)
 deriving DecidableEq
def RelV:V→Value→Prop
 | .non,u=>u=Value.none
 | .bl b,u=>u=Value.bool b
 | .int i,u=>∃ t,u=Value.int i t
 | .str x,u=>∃ t,u=Value.str x t
 | .byt b,u=>∃ t,u=Value.bytes b t
 | .flt b,u=>∃ t,u=Value.float b t
 | .ref a,u=>u=Value.ref a
 | .ty n,u=>u=Value.type n
abbrev Vals:List V→List Value→Prop:=Paired RelV
theorem Vals.length {xs:List V}{us:List Value}(r:Vals xs us):xs.length=us.length:=Paired.length r
theorem Vals.get:∀ {xs:List V} {us:List Value} {i:Nat} {x:V},Vals xs us→xs[i]?=some x→∃ u,us[i]?=some u∧RelV x u
 | _,_,_,_,.nil,e=>by simp at e
 | _,_,0,_,.cons r _,e=>by simp at e;subst e;exact⟨_,rfl,r⟩
 | _,_,i+1,x,.cons _ t,e=>by
  obtain⟨u,h1,h2⟩:=Vals.get (i:=i) (x:=x) t (by simpa using e)
  exact⟨u,by simpa using h1,h2⟩
theorem Vals.set {x:V}{u:Value}(r:RelV x u):∀ {xs:List V} {us:List Value} (i:Nat),Vals xs us→Vals (xs.set i x) (us.set i u)
 | _,_,_,.nil=>.nil
 | _,_,0,.cons _ t=>.cons r t
 | _,_,i+1,.cons q t=>.cons q (Vals.set r i t)
theorem Vals.append:∀ {xs ys:List V} {us ws:List Value},Vals xs us→Vals ys ws→Vals (xs++ys) (us++ws)
 | _,_,_,_,.nil,s=>s
 | _,_,_,_,.cons r t,s=>.cons r (Vals.append t s)
theorem Vals.take:∀ {xs:List V} {us:List Value} (n:Nat),Vals xs us→Vals (xs.take n) (us.take n)
 | _,_,0,_=>.nil
 | _,_,_+1,.nil=>.nil
 | _,_,n+1,.cons r t=>.cons r (Vals.take n t)
theorem Vals.drop:∀ {xs:List V} {us:List Value} (n:Nat),Vals xs us→Vals (xs.drop n) (us.drop n)
 | _,_,0,r=>r
 | _,_,_+1,.nil=>.nil
 | _,_,n+1,.cons _ t=>Vals.drop n t
def RelO:Option V→Option Value→Prop
 | some v,some u=>RelV v u
 | none,none=>True
 | _,_=>False
def KV {κ:Type}:List (κ×V)→List (κ×Value)→Prop:=Paired fun (p:κ×V) (q:κ×Value)=>p.1=q.1∧RelV p.2 q.2
def kV:Key→V
 | .inl i=>.int i
 | .inr x=>.str x
inductive HO where
 | lst (xs:List V)
 | tup (xs:List V)
 | dK (kvs:List (Key×V)) | dT (kvs:List (List Key×V))
 | set (S:Int→Bool) (n:Nat)
 | ins (C dx:Addr) (fs:List (Str×V))
 | own (x:Addr)
 | xd (fs:List (Str×V))
 | met (f x:Addr)
 | rng (lo hi:Int)
 | frz (o:Obj) (u:HO)
 | tbl (ps:Array Value)
 | ext (φ:Heap→Prop)
abbrev Hp:=Addr→Option HO
def upd (H:Hp)(a:Addr)(o:HO):Hp:=fun b=>if b=a then some o else H b
theorem upd_same {H:Hp}{a:Addr}{o:HO}:upd H a o a=some o:=by unfold upd;rw[if_pos rfl]
theorem upd_ne {H:Hp}{a b:Addr}{o:HO}(h:b≠a):upd H a o b=H b:=by unfold upd;rw[if_neg h]
theorem ne_of_none {H:Hp}{a b:Addr}{o:HO}(h:H a=some o)(h':H b=none):a≠b:=by
 intro e;subst e;rw[h] at h';cases h'
section
variable (P:Program) (w:World)
def ObjOk (H:Hp)(h:Heap)(a:Addr):HO→Prop
 | .lst xs=>xs.length≤sizeLine∧∃ (its:List Value) (n:Nat),Vals xs its∧h.get? a=some { cls:=.type "list",data:=.seq its.toArray n }
 | .tup xs=>xs.length≤sizeLine∧∃ its:List Value,Vals xs its∧IsTup h a its.toArray
 | .dK kvs=>kvs.length≤sizeLine∧(a == sysModules)=false∧∃ vs,KV kvs vs∧h.DictOf (mixKind P w) a vs
 | .dT kvs=>kvs.length≤sizeLine∧(a == sysModules)=false∧∃ xs:List (List Key×Addr×Value),
   Paired (fun (p:List Key×V) (q:List Key×Addr×Value)=>p.1=q.1∧H q.2.1=some (.tup (p.1.map kV))∧RelV p.2 q.2.2) kvs xs∧
   ∃ o es ep,h.get? a=some o∧o.ExactDict∧o.data=.dict es ep∧es.toList=xs.map (entryOfKey (tupleKind (mixKind P w)))∧(xs.map (·.1)).Nodup
 | .set S n=>h.SetOf (intKind P w) a S n
 | .ins C dx fs=>H dx=some (.own a)∧fs.length≤1000∧dx≠a∧h.get? a=some (PySem.W.instObj C dx)∧
   ∃ mA,h.Ns1 dx mA∧(∀ f,RelO (fs.lookup f) (mA f))∧PySem.Within mA (fs.map (·.1))
 | .own _=>∃ o,h.get? a=some o
 | .xd fs=>∃ mA,h.Ns1 a mA∧∀ f,RelO (fs.lookup f) (mA f)
 | .rng lo hi=>∃ t u v,h.get? a=some { cls:=.type "range",data:=.fields #[.int lo t,.int hi u,.int 1 v] }
 | .frz o u=>h.get? a=some o∧ObjOk H h a u
 | .tbl ps=>h.get? a=some { cls:=.none,data:=.fields ps }
 | .met f x=>h.get? a=some (PySem.W.methodObj (.ref f) (.ref x))
 | .ext φ=>φ h∧(∃ o,h.get? a=some o)∧∀ h1 h2:Heap,φ h1→(∀ o,h1.get? a=some o→h2.get? a=some o)→φ h2
def HOk (H:Hp)(h:Heap):Prop:=∀ a o,H a=some o→ObjOk P w H h a o
end
section
variable {P:Program} {w:World} {H H':Hp} {h h':Heap} {a:Addr} {o:HO}
theorem ObjOk.lt (x:ObjOk P w H h a o):a<h.objs.size:=by
 cases o with
 | lst xs=>obtain⟨_,_,_,_,e⟩:=x;exact Heap.lt_size e
 | tup xs=>obtain⟨_,_,_,p⟩:=x;exact p.lt
 | dK kvs=>obtain⟨_,_,_,_,o,_,_,e,_⟩:=x;exact Heap.lt_size e
 | dT kvs=>obtain⟨_,_,_,_,o,_,_,e,_⟩:=x;exact Heap.lt_size e
 | set S n=>obtain⟨o,_,_,_,e,_⟩:=x;exact Heap.lt_size e
 | ins C dx fs=>obtain⟨_,_,_,e,_⟩:=x;exact Heap.lt_size e
 | own y=>obtain⟨_,e⟩:=x;exact Heap.lt_size e
 | xd fs=>obtain⟨_,⟨_,_,_,e,_⟩,_⟩:=x;exact Heap.lt_size e
 | rng lo hi=>obtain⟨_,_,_,e⟩:=x;exact Heap.lt_size e
 | frz ob u=>obtain⟨e,_⟩:=x;exact Heap.lt_size e
 | tbl ps=>exact Heap.lt_size (show h.get? a=some _ from x)
 | met f y=>exact Heap.lt_size (show h.get? a=some _ from x)
 | ext φ=>obtain⟨_,⟨_,e⟩,_⟩:=x;exact Heap.lt_size e
theorem Paired.mapP {α β:Type}{F G:α→β→Prop}:∀ {l₁:List α} {l₂:List β},Paired F l₁ l₂→(∀ a b,F a b→G a b)→Paired G l₁ l₂
 | _,_,.nil,_=>.nil
 | _,_,.cons r t,f=>.cons (f _ _ r) (Paired.mapP t f)
theorem ObjOk.stay (x:ObjOk P w H h a o)(k:∀ b u,(b=a∨H b=some (.own a))→h.get? b=some u→h'.get? b=some u)
  (ho:∀ b,H b=some (.own a)→H' b=some (.own a)) (ht:∀ b xs,H b=some (.tup xs)→H' b=some (.tup xs)):ObjOk P w H' h' a o:=by
 induction o with
 | lst xs=>obtain⟨z,its,n,r,e⟩:=x;exact⟨z,its,n,r,k _ _ (.inl rfl) e⟩
 | tup xs=>obtain⟨z,its,r,ob,e,c⟩:=x;exact⟨z,its,r,ob,k _ _ (.inl rfl) e,c⟩
 | dK kvs=>obtain⟨z,y,vs,r,ob,es,ep,e,c⟩:=x;exact⟨z,y,vs,r,ob,es,ep,k _ _ (.inl rfl) e,c⟩
 | dT kvs=>
  obtain⟨z,y,xs,r,ob,es,ep,e,c⟩:=x
  exact⟨z,y,xs,Paired.mapP r fun p q z=>⟨z.1,ht _ _ z.2.1,z.2.2⟩,ob,es,ep,k _ _ (.inl rfl) e,c⟩
 | set S n=>obtain⟨ob,es,ep,t,e,c⟩:=x;exact⟨ob,es,ep,t,k _ _ (.inl rfl) e,c⟩
 | ins C dx fs=>
  obtain⟨d,z,ne,e,mA,⟨od,es,ep,e2,c⟩,r⟩:=x
  exact⟨ho _ d,z,ne,k _ _ (.inl rfl) e,mA,⟨od,es,ep,k _ _ (.inr d) e2,c⟩,r⟩
 | own y=>obtain⟨ob,e⟩:=x;exact⟨ob,k _ _ (.inl rfl) e⟩
 | xd fs=>obtain⟨mA,⟨od,es,ep,e,c⟩,r⟩:=x;exact⟨mA,⟨od,es,ep,k _ _ (.inl rfl) e,c⟩,r⟩
 | rng lo hi=>obtain⟨t,u,v,e⟩:=x;exact⟨t,u,v,k _ _ (.inl rfl) e⟩
 | frz ob u ih=>obtain⟨e,q⟩:=x;exact⟨k _ _ (.inl rfl) e,ih q⟩
 | tbl ps=>
  have e:h.get? a=some { cls:=.none,data:=.fields ps }:=x
  show h'.get? a=some { cls:=.none,data:=.fields ps }
  exact k a _ (.inl rfl) e
 | met f y=>
  have e:h.get? a=some (PySem.W.methodObj (.ref f) (.ref y)):=x
  show h'.get? a=some (PySem.W.methodObj (.ref f) (.ref y))
  exact k a _ (.inl rfl) e
 | ext φ=>obtain⟨p,⟨o,e⟩,st⟩:=x;exact⟨st _ _ p fun o q=>k _ _ (.inl rfl) q,⟨o,k _ _ (.inl rfl) e⟩,st⟩
theorem HOk.lt (x:HOk P w H h)(e:H a=some o):a<h.objs.size:=(x a o e).lt
theorem HOk.fresh (x:HOk P w H h)(e:h.objs.size≤a):H a=none:=by
 cases q:H a with
 | none=>rfl
 | some u=>exact absurd (Nat.lt_of_lt_of_le (x.lt q) e) (Nat.lt_irrefl _)
theorem HOk.kept (x:HOk P w H h)(k:∀ b u,h.get? b=some u→h'.get? b=some u):HOk P w H h':=fun a o e=>
 (x a o e).stay (fun b u _ q=>k b u q) (fun _ q=>q) fun _ _ q=>q
theorem HOk.laid (x:HOk P w H h)(k:∀ b u,h.get? b=some u→h'.get? b=some u)(hp:h.objs.size≤a)(new:ObjOk P w (upd H a o) h' a o):HOk P w (upd H a o) h':=fun b u e=>by
 have hn:=x.fresh hp
 by_cases hb:b=a
 ·subst hb;rw[upd_same] at e;cases e;exact new
 ·rw[upd_ne hb] at e
  exact (x b u e).stay (fun c v _ q=>k c v q) (fun c q=>by rw[upd_ne (ne_of_none q hn)];exact q) fun c xs q=>by rw[upd_ne (ne_of_none q hn)];exact q
end
def Rd (H:Hp)(a:Addr)(u:HO):Prop:=H a=some u∨∃ o,H a=some (.frz o u)
theorem Rd.ok {P:Program}{w:World}{H:Hp}{h:Heap}{a:Addr}{u:HO}(r:Rd H a u)(x:HOk P w H h):ObjOk P w H h a u:=by
 rcases r with r | ⟨o,r⟩
 ·exact x a u r
 ·obtain⟨_,q⟩:=x a _ r
  exact q
def Mut:Option HO→Prop
 | some (.lst _)=>True
 | some (.dK _)=>True
 | some (.dT _)=>True
 | some (.set _ _)=>True
 | some (.ins _ _ _)=>True
 | some (.ext _)=>True
 | _=>False
section
variable {P:Program} {w:World} {H:Hp} {h h':Heap} {x e:Addr} {o':HO}
theorem HOk.write (ok:HOk P w H h)(mu:Mut (H x))(he:e=x∨H e=some (.own x))(k:∀ b u,b≠e→h.get? b=some u→h'.get? b=some u)(heo:∃ u,h'.get? e=some u)
  (new:ObjOk P w (upd H x o') h' x o'):HOk P w (upd H x o') h':=fun b u q=>by
 have nown:∀ c y,H c=some (.own y)→c≠x:=fun c y r z=>by subst z;rw[r] at mu;exact mu
 have ntup:∀ c xs,H c=some (.tup xs)→c≠x:=fun c xs r z=>by subst z;rw[r] at mu;exact mu
 by_cases hb:b=x
 ·subst hb;rw[upd_same] at q;cases q;exact new
 ·rw[upd_ne hb] at q
  by_cases hbe:b=e
  ·have q':H b=some (.own x):=by
    rcases he with z | z
    ·exact absurd (hbe.trans z) hb
    ·rw[hbe];exact z
   rw[q] at q';cases q'
   obtain⟨v,hv⟩:=heo
   exact⟨v,by rw[hbe];exact hv⟩
  ·refine (ok b u q).stay (fun c v hc r=>k c v ?_ r) (fun c r=>by rw[upd_ne (nown c b r)];exact r) fun c xs r=>by rw[upd_ne (ntup c xs r)];exact r
   rcases hc with rfl | hc
   ·exact hbe
   ·rintro rfl
    rcases he with z | z
    ·exact nown c b hc z
    ·rw[hc] at z;cases z;exact hb rfl
end
structure Un (fs ex:List Addr)(H H':Hp)(h h':Heap):Prop where
 keep:∀ b o,h.get? b=some o→H b=none→b ∉ fs→b ∉ ex→h'.get? b=some o
 slot:∀ b o,h.get? b=some o→H b=none→b∈fs→b ∉ ex→∃ sl,h'.get? b=some { o with slots:=sl }
 free:∀ b o,h.get? b=some o→H b=none→b ∉ ex→H' b=none
 there:∀ b o,h.get? b=some o→b ∉ ex→∃ o',h'.get? b=some o'
 tups:∀ b xs,H b=some (.tup xs)→H' b=some (.tup xs)
 frzs:∀ b o u,H b=some (.frz o u)→H' b=some (.frz o u)
 tbls:∀ b ps,H b=some (.tbl ps)→∃ more,H' b=some (.tbl (ps++more))
section
variable {fs fs' ex ex':List Addr} {H H1 H2:Hp} {h h1 h2 h':Heap} {a x e:Addr} {o:HO}
theorem Un.any (u:Un fs ex H H1 h h1){b:Addr}{ob:Obj}(q:h.get? b=some ob)(n:H b=none)(hx:b ∉ ex):∃ sl,h1.get? b=some { ob with slots:=sl }:=by
 by_cases hb:b∈fs
 ·exact u.slot b ob q n hb hx
 ·exact⟨ob.slots,u.keep b ob q n hb hx⟩
theorem Un.kept (k:∀ b u,h.get? b=some u→h'.get? b=some u):Un fs ex H H h h':=
 ⟨fun b ob q _ _ _=>k b ob q,fun b ob q _ _ _=>⟨ob.slots,k b ob q⟩,fun _ _ _ n _=>n,fun b ob q _=>⟨ob,k b ob q⟩,fun _ _ q=>q,fun _ _ _ q=>q,fun _ ps q=>⟨#[],by rw[q];simp⟩⟩
theorem Un.refl:Un fs ex H H h h:=Un.kept fun _ _ q=>q
theorem Un.laid (k:∀ b u,h.get? b=some u→h'.get? b=some u)(hp:h.objs.size≤a)(hn:H a=none):Un fs ex H (upd H a o) h h' where
 keep:=fun b u q _ _ _=>k b u q
 slot:=fun b u q _ _ _=>⟨u.slots,k b u q⟩
 free:=fun b u q n _=>by rw[upd_ne (Nat.ne_of_lt (Nat.lt_of_lt_of_le (Heap.lt_size q) hp))];exact n
 there:=fun b u q _=>⟨u,k b u q⟩
 tups:=fun b xs q=>by rw[upd_ne (ne_of_none q hn)];exact q
 frzs:=fun b u xs q=>by rw[upd_ne (ne_of_none q hn)];exact q
 tbls:=fun b ps q=>⟨#[],by rw[upd_ne (ne_of_none q hn),q];simp⟩
theorem Un.write (mu:Mut (H x))(he:e=x∨H e=some (.own x))(k:∀ b u,b≠e→h.get? b=some u→h'.get? b=some u)(heo:∃ u,h'.get? e=some u):Un fs ex H (upd H x o) h h':=by
 have hx:∀ b,H b=none→b≠x:=fun b n z=>by subst z;rw[n] at mu;exact mu
 have hb:∀ b,H b=none→b≠e:=fun b n z=>by
  subst z
  rcases he with r | r
  ·exact hx b n r
  ·rw[n] at r;cases r
 have hm:∀ b u,H b=some u→¬ Mut (some u)→b≠x:=fun b u q nm z=>by subst z;rw[q] at mu;exact nm mu
 refine⟨fun b u q n _ _=>k b u (hb b n) q,fun b u q n _ _=>⟨u.slots,k b u (hb b n) q⟩,fun b u q n _=>by rw[upd_ne (hx b n)];exact n,fun b u q _=>?_,
  fun b xs q=>by rw[upd_ne (hm b _ q fun z=>z)];exact q,fun b u xs q=>by rw[upd_ne (hm b _ q fun z=>z)];exact q,fun b ps q=>⟨#[],by rw[upd_ne (hm b _ q fun z=>z),q];simp⟩⟩
 by_cases hbe:b=e
 ·subst hbe;exact heo
 ·exact⟨u,k b u hbe q⟩
end
def trk (h:Heap)(H:Hp):List Addr:=(List.range h.objs.size).filter fun a=>(H a).isSome
def hidT (h:Heap)(H:Hp):Heap:=PySem.W.hideAll h (trk h H)
theorem hidT_size (h:Heap)(H:Hp):(hidT h H).objs.size=h.objs.size:=PySem.W.hideAll_size _ _
theorem hidT_get {h:Heap}{H:Hp}{b:Addr}{o:Obj}(e:h.get? b=some o)(n:H b=none):(hidT h H).get? b=some o:=
 PySem.W.hideAll_get _ e fun hm=>by
  have q:(H b).isSome=true:=(List.mem_filter.mp hm).2
  rw[n] at q;simp at q
theorem of_hidT {h:Heap}{H:Hp}{b:Addr}{o:Obj}(e:(hidT h H).get? b=some o):h.get? b=some o∧H b=none:=by
 have e':h.get? b=some o:=PySem.W.of_hideAll (trk h H) e
 refine⟨e',?_⟩
 cases q:H b with
 | none=>rfl
 | some x=>
  have hm:b∈trk h H:=List.mem_filter.mpr ⟨List.mem_range.mpr (Heap.lt_size e'),by simp[q]⟩
  have z:(hidT h H).get? b=none:=PySem.W.hideAll_none (trk h H) hm
  rw[z] at e;cases e
def allNews (g h:Heap)(L:Addr):List (Addr×Obj):=(List.range h.objs.size).filterMap fun a=>if a=L∨(g.get? a).isSome=true then none else (h.get? a).map fun o=>(a,o)
def rest (g h:Heap)(L d:Addr):List (Addr×Obj):=(allNews g h L).filter fun p=>decide (p.1≠d)
end L2
namespace L2
open PySem PySem.Spec PyProof.Rows
structure Mod (K:FrQ)(mg:Str→Option Value)(base:Heap):Prop where
 kin:K.In base
 glob:base.Ns mainGlobals mg
 blt:∃ mb,base.Ns builtinsNs mb∧∀ x:Str,x≠"__name__"→mb x=bootBuiltins x
 nolimit:base.NoLimit
structure Cx where
 prog:Program
 w:World
 K:FrQ
 mg:Str→Option Value
 base:Heap
 A:Around
 N:List Str
 s₀:Shared
 H₀:Hp
 env:Env
 outer:List Env
 stack:List Env
 ex:List Addr
 fn:Str→Bool
 calm:Bool
 pn:List (Addr×Obj)
 xe:Value→Shared→Prop
def frs (l:List Env):List Addr:=l.filterMap (·.frame)
abbrev Cx.fs (X:Cx):List Addr:=frs X.outer
def Vis (sc:Scope)(x:Str):Prop:=sc.names.lookup x=some .local∨sc.names.lookup x=some .cell∨sc.names.lookup x=some .free
def Loc (sc:Scope)(x:Str):Prop:=sc.names.lookup x=some .local∨sc.names.lookup x=some .cell
def Look (env:Env)(h:Heap)(m:Str→Option Value)(x:Str)(u:Value):Prop:=
 (env.kindOf x=some .local∧m x=some u)∨((env.kindOf x=some .cell∨env.kindOf x=some .free)∧∃ c,env.cells.lookup x=some c∧h.IsCell c (some u))
structure Cx.Ok (X:Cx):Prop where
 mod:Mod X.K X.mg X.base
 kind:X.env.scope.kind=.function
 glob:X.env.globals=mainGlobals
 blt:X.env.builtins=builtinsNs
 above:X.s₀.heap.objs.size≤X.env.locals
 inj:∀ x y c,X.env.cells.lookup x=some c→X.env.cells.lookup y=some c→x=y
 has:∀ x,(X.env.kindOf x=some .cell∨X.env.kindOf x=some .free)→∃ c,X.env.cells.lookup x=some c
 cab:∀ x c,X.fn x=true→X.env.cells.lookup x=some c→X.s₀.heap.objs.size≤c
 hd:X.calm=true→X.A.handled=none
 frames:X.A.frames=some X.stack
 stk:X.stack=X.outer∨(X.stack=X.env::X.outer∧X.env.frame=some X.env.locals)
 exf:∀ b∈X.ex,b≠X.env.locals∧∀ x c,X.env.cells.lookup x=some c→c≠b
 bs:∀ b o,X.base.get? b=some o→X.s₀.heap.get? b=some o∧X.H₀ b=none
 bsz:X.base.objs.size≤X.s₀.heap.objs.size
 noex:∀ b o,X.base.get? b=some o→b ∉ X.ex
 exfs:∀ b∈X.ex,b ∉ X.fs
 funs:X.s₀.heap.FunFrames X.base X.outer
 frf:∀ b∈X.fs,X.H₀ b=none
structure Inv (X:Cx)(pins:List (Addr×Obj))(σ:List (Option V))(H:Hp)(s:Shared):Prop where
 ok:X.Ok
 os:s.os=X.s₀.os
 bare:AllBare s.gens
 base:Un X.fs X.ex X.H₀ H X.s₀.heap s.heap
 loc:∃ m,s.heap.Ns X.env.locals m∧∀ (i:Nat) (x:Str) (v:V),X.N[i]?=some x→σ[i]?=some (some v)→Vis X.env.scope x→∃ u,RelV v u∧Look X.env s.heap m x u
 cell:∀ x c,X.env.cells.lookup x=some c→∃ v,s.heap.IsCell c v
 free:H X.env.locals=none
 freeC:∀ x c,X.env.cells.lookup x=some c→H c=none
 pin:∀ p∈X.pn++pins,s.heap.get? p.1=some p.2∧H p.1=none∧p.1≠X.env.locals∧p.1 ∉ X.fs∧∀ v,p.2.data≠.cell v
 hok:HOk X.prog X.w H s.heap
 len:σ.length=X.N.length
section
variable {X:Cx} {pins:List (Addr×Obj)} {σ:List (Option V)} {H H':Hp} {s:Shared} {h':Heap}
theorem Cx.Ok.nofr (ok:X.Ok){b:Addr}{o:Obj}(e:X.base.get? b=some o):b ∉ X.fs:=fun hb=>by
 have:=(ok.funs.mem hb).1
 rw[e] at this;cases this
theorem Inv.bs (I:Inv X pins σ H s):∀ b o,X.base.get? b=some o→s.heap.get? b=some o∧H b=none:=fun b o e=>
 ⟨I.base.keep b o (I.ok.bs b o e).1 (I.ok.bs b o e).2 (I.ok.nofr e) (I.ok.noex b o e),I.base.free b o (I.ok.bs b o e).1 (I.ok.bs b o e).2 (I.ok.noex b o e)⟩
theorem Inv.bk (I:Inv X pins σ H s):∀ b o,X.base.get? b=some o→s.heap.get? b=some o:=fun b o e=>(I.bs b o e).1
theorem Inv.mod (I:Inv X pins σ H s):Mod X.K X.mg X.base:=I.ok.mod
theorem Inv.kIn (I:Inv X pins σ H s):X.K.In s.heap:=I.ok.mod.kin.keeps I.bk
theorem Inv.lt (I:Inv X pins σ H s):X.env.locals<s.heap.objs.size:=let ⟨_,hn,_⟩:=I.loc;hn.lt
theorem Inv.sz (I:Inv X pins σ H s):X.s₀.heap.objs.size≤s.heap.objs.size:=Nat.le_trans I.ok.above (Nat.le_of_lt I.lt)
theorem Inv.nofs (I:Inv X pins σ H s){a:Addr}(h:s.heap.objs.size≤a):a ∉ X.fs:=fun hb=>by
 obtain⟨_,o,ho,_⟩:=I.ok.funs.mem hb
 exact absurd (Nat.lt_of_lt_of_le (Heap.lt_size ho) (Nat.le_trans I.sz h)) (Nat.lt_irrefl _)
theorem Inv.cne (I:Inv X pins σ H s):∀ x c,X.env.cells.lookup x=some c→c≠X.env.locals:=fun x c e z=>by
 obtain⟨v,o,ho,hd⟩:=I.cell x c e
 obtain⟨m,⟨o',es,ep,ho',hd',_⟩,_⟩:=I.loc
 rw[z,ho'] at ho;cases ho;rw[hd'] at hd;cases hd
theorem Inv.funs (I:Inv X pins σ H s):s.heap.FunFrames X.base X.outer:=by
 have all:∀ (l:List Env),(∀ b∈frs l,b∈X.fs)→X.s₀.heap.FunFrames X.base l→s.heap.FunFrames X.base l:=by
  intro l
  induction l with
  | nil=>intro _ _;trivial
  | cons env r ih=>
   intro hs hl
   obtain⟨hk,⟨L,o,hf,hn,ho,hd⟩,hr⟩:=hl
   have hL:L∈X.fs:=hs L (by unfold frs;rw[List.filterMap_cons,hf];exact List.mem_cons_self)
   obtain⟨sl,e⟩:=I.base.slot L o ho (I.ok.frf L hL) hL fun z=>I.ok.exfs L z hL
   exact⟨hk,⟨L,_,hf,hn,e,hd⟩,ih (fun b hb=>hs b (by unfold frs;rw[List.filterMap_cons,hf];exact List.mem_cons_of_mem _ hb)) hr⟩
 exact all X.outer (fun _ hb=>hb) I.ok.funs
theorem Inv.stack (I:Inv X pins σ H s):s.heap.FunFrames X.base X.stack:=by
 rcases I.ok.stk with e | ⟨e,hf⟩
 ·rw[e];exact I.funs
 ·rw[e]
  obtain⟨m,hn,_⟩:=I.loc
  refine .cons (by rw[I.ok.kind];decide) hf hn ?_ I.funs
  exact Heap.get?_none_of_le (Nat.le_trans I.ok.bsz I.ok.above)
theorem Inv.stkSub (I:Inv X pins σ H s):∀ b∈frs X.stack,b∈X.env.locals::X.fs:=fun b hb=>by
 rcases I.ok.stk with e | ⟨e,hf⟩
 ·rw[e] at hb;exact List.mem_cons_of_mem _ hb
 ·rw[e] at hb
  unfold frs at hb
  rw[List.filterMap_cons,hf] at hb
  exact hb
theorem Inv.stkFree (I:Inv X pins σ H s):∀ b∈frs X.stack,H b=none:=fun b hb=>by
 rcases List.mem_cons.mp (I.stkSub b hb) with e | hb
 ·rw[e];exact I.free
 ·obtain⟨_,o,ho,_⟩:=I.ok.funs.mem hb
  exact I.base.free b o ho (I.ok.frf b hb) fun z=>I.ok.exfs b z hb
theorem Inv.step {g':Array GenState}{t':Nat}{d':Drawn}{ch:List Addr}(I:Inv X pins σ H s)
  (hch:∀ b∈ch,(b∈X.ex∨X.s₀.heap.objs.size≤b)∧b≠X.env.locals∧(∀ x c,X.env.cells.lookup x=some c→c≠b)∧∀ p∈X.pn++pins,p.1≠b)
  (keep:∀ b o,b≠X.env.locals→b ∉ X.fs→b ∉ ch→s.heap.get? b=some o→H b=none→h'.get? b=some o)
  (slot:∀ b o,b≠X.env.locals→b∈X.fs→b ∉ ch→s.heap.get? b=some o→H b=none→∃ sl,h'.get? b=some { o with slots:=sl }) (free:∀ b o,b ∉ ch→s.heap.get? b=some o→H b=none→H' b=none)
  (there:∀ b o,b ∉ ch→s.heap.get? b=some o→∃ o',h'.get? b=some o')
  (tups:∀ b xs,H b=some (.tup xs)→H' b=some (.tup xs)) (frzs:∀ b o u,H b=some (.frz o u)→H' b=some (.frz o u)) (tbls:∀ b ps,H b=some (.tbl ps)→∃ more,H' b=some (.tbl (ps++more)))
  (ns:∀ m,s.heap.Ns X.env.locals m→h'.Ns X.env.locals m) (hok:HOk X.prog X.w H' h') (hg:AllBare g'):
  Inv X pins σ H' { s with heap:=h',gens:=g',drawn:=d',toks:=t' }:=by
 have neL:∀ b o,X.s₀.heap.get? b=some o→b≠X.env.locals:=fun b o e=>Nat.ne_of_lt (Nat.lt_of_lt_of_le (Heap.lt_size e) I.ok.above)
 have neC:∀ b o,X.s₀.heap.get? b=some o→b ∉ X.ex→b ∉ ch:=fun b o e hx hb=>by
  rcases (hch b hb).1 with z | z
  ·exact hx z
  ·exact absurd (Nat.lt_of_lt_of_le (Heap.lt_size e) z) (Nat.lt_irrefl _)
 have cellK:∀ x c,X.env.cells.lookup x=some c→∀ v,s.heap.IsCell c v→h'.IsCell c v:=fun x c e v ⟨o,ho,hd⟩=>by
  have nch:c ∉ ch:=fun z=>(hch c z).2.2.1 x c e rfl
  by_cases hc:c∈X.fs
  ·obtain⟨sl,q⟩:=slot c o (I.cne x c e) hc nch ho (I.freeC x c e)
   exact⟨_,q,hd⟩
  ·exact⟨o,keep c o (I.cne x c e) hc nch ho (I.freeC x c e),hd⟩
 refine⟨I.ok,I.os,hg,⟨fun b o e n hb hx=>?_,fun b o e n hb hx=>?_,fun b o e n hx=>?_,fun b o e hx=>?_,fun b xs e=>tups b xs (I.base.tups b xs e),fun b o xs e=>frzs b o xs (I.base.frzs b o xs e),fun b ps e=>?_⟩,?_,fun x c e=>?_,?_,fun x c e=>?_,fun p hp=>?_,hok,I.len⟩
 ·exact keep b o (neL b o e) hb (neC b o e hx) (I.base.keep b o e n hb hx) (I.base.free b o e n hx)
 ·obtain⟨sl,e1⟩:=I.base.slot b o e n hb hx
  obtain⟨sl',e2⟩:=slot b _ (neL b o e) hb (neC b o e hx) e1 (I.base.free b o e n hx)
  exact⟨sl',e2⟩
 ·obtain⟨o',e1⟩:=I.base.there b o e hx
  exact free b o' (neC b o e hx) e1 (I.base.free b o e n hx)
 ·obtain⟨o',e1⟩:=I.base.there b o e hx
  exact there b o' (neC b o e hx) e1
 ·obtain⟨m1,e1⟩:=I.base.tbls b ps e
  obtain⟨m2,e2⟩:=tbls b _ e1
  exact⟨m1++m2,by rw[e2,Array.append_assoc]⟩
 ·obtain⟨m,hn,hl⟩:=I.loc
  refine⟨m,ns m hn,fun i x v e1 e2 e3=>?_⟩
  obtain⟨u,r,l⟩:=hl i x v e1 e2 e3
  refine⟨u,r,?_⟩
  rcases l with l | ⟨k,c,e,z⟩
  ·exact .inl l
  ·exact .inr ⟨k,c,e,cellK x c e _ z⟩
 ·obtain⟨v,z⟩:=I.cell x c e
  exact⟨v,cellK x c e v z⟩
 ·obtain⟨m,⟨o,_,_,ho,_⟩,_⟩:=I.loc
  exact free _ o (fun z=>(hch _ z).2.1 rfl) ho I.free
 ·obtain⟨v,o,ho,hd⟩:=I.cell x c e
  exact free c o (fun z=>(hch c z).2.2.1 x c e rfl) ho (I.freeC x c e)
 ·obtain⟨e,n,ne,nf,d⟩:=I.pin p hp
  have nch:p.1 ∉ ch:=fun z=>(hch p.1 z).2.2.2 p hp rfl
  exact⟨keep p.1 p.2 ne nf nch e n,free p.1 p.2 nch e n,ne,nf,d⟩
theorem Inv.un {t':Nat}(I:Inv X pins σ H s)(u:Un X.fs [] H H' s.heap h')(hok:HOk X.prog X.w H' h'):Inv X pins σ H' { s with heap:=h',toks:=t' }:=by
 obtain⟨m,⟨o,es,ep,ho,r⟩,_⟩:=id I.loc
 obtain⟨sl,hL⟩:=u.any ho I.free (by simp)
 exact I.step (g':=s.gens) (d':=s.drawn) (ch:=[]) (fun _ z=>nomatch z) (fun b o _ hb _ e n=>u.keep b o e n hb (by simp)) (fun b o _ hb _ e n=>u.slot b o e n hb (by simp)) (fun b o _ e n=>u.free b o e n (by simp)) (fun b o _ e=>u.there b o e (by simp)) u.tups u.frzs u.tbls (fun m' hm=>by
  obtain⟨o',es',ep',ho',r'⟩:=hm
  rw[ho] at ho';cases ho'
  exact⟨_,es',ep',hL,r'⟩) hok I.bare
theorem Inv.call {g':Array GenState}{t':Nat}{d':Drawn}{ch:List Addr}(I:Inv X pins σ H s)(u:Un (frs X.stack) ch H H' s.heap h')(hok:HOk X.prog X.w H' h')(hg:AllBare g')
  (hch:∀ b∈ch,(b∈X.ex∨X.s₀.heap.objs.size≤b)∧b≠X.env.locals∧(∀ x c,X.env.cells.lookup x=some c→c≠b)∧∀ p∈X.pn++pins,p.1≠b):
  Inv X pins σ H' { s with heap:=h',gens:=g',drawn:=d',toks:=t' }:=by
 obtain⟨m,⟨o,es,ep,ho,r⟩,_⟩:=id I.loc
 obtain⟨sl,hL⟩:=u.any ho I.free fun z=>(hch _ z).2.1 rfl
 exact I.step (ch:=ch) hch (fun b o hL hb hc e n=>u.keep b o e n (fun z=>(List.mem_cons.mp (I.stkSub b z)).elim hL hb) hc) (fun b o _ _ hc e n=>u.any e n hc) (fun b o hc e n=>u.free b o e n hc) (fun b o hc e=>u.there b o e hc) u.tups u.frzs u.tbls (fun m' hm=>by
  obtain⟨o',es',ep',ho',r'⟩:=hm
  rw[ho] at ho';cases ho'
  exact⟨_,es',ep',hL,r'⟩) hok hg
theorem Inv.turned {t':Nat}{it:Addr}(I:Inv X pins σ H s)(k:∀ b o,b≠it→s.heap.get? b=some o→h'.get? b=some o)(hn:H it=none)(hL:it≠X.env.locals)
  (h1:it∈X.ex∨X.s₀.heap.objs.size≤it) (h2:∀ x c,X.env.cells.lookup x=some c→c≠it) (h3:∀ p∈X.pn++pins,p.1≠it):Inv X pins σ H { s with heap:=h',toks:=t' }:=by
 have nit:∀ b u,H b=some u→b≠it:=fun b u e z=>by rw[z,hn] at e;cases e
 refine I.step (g':=s.gens) (d':=s.drawn) (ch:=[it]) (fun b hb=>?_) (fun b o _ _ hc e _=>k b o (fun z=>hc (by simp[z])) e) (fun b o _ _ hc e _=>⟨o.slots,k b o (fun z=>hc (by simp[z])) e⟩) (fun _ _ _ _ n=>n)
  (fun b o hc e=>⟨o,k b o (fun z=>hc (by simp[z])) e⟩) (fun _ _ e=>e) (fun _ _ _ e=>e) (fun b ps e=>⟨#[],by rw[e];simp⟩) (fun m hm=>?_) (fun b u e=>?_) I.bare
 ·have e:b=it:=by simpa using hb
  subst e
  exact⟨h1,hL,h2,h3⟩
 ·obtain⟨o,es,ep,ho,r⟩:=hm
  exact⟨o,es,ep,k _ o (Ne.symm hL) ho,r⟩
 ·refine (I.hok b u e).stay (fun c v hc q=>k c v ?_ q) (fun _ q=>q) fun _ _ q=>q
  rcases hc with z | z
  ·rw[z];exact nit b u e
  ·exact nit c _ z
theorem Inv.tok (I:Inv X pins σ H s)(t:Nat):Inv X pins σ H { s with toks:=t }:=I.un (h':=s.heap) (t':=t) Un.refl I.hok
theorem Inv.kept {t':Nat}(I:Inv X pins σ H s)(k:∀ b u,s.heap.get? b=some u→h'.get? b=some u):Inv X pins σ H { s with heap:=h',toks:=t' }:=I.un (Un.kept k) (I.hok.kept k)
theorem Inv.laid {a:Addr}{o:HO}{t':Nat}(I:Inv X pins σ H s)(k:∀ b u,s.heap.get? b=some u→h'.get? b=some u)(hp:s.heap.objs.size≤a)(new:ObjOk X.prog X.w (upd H a o) h' a o):
  Inv X pins σ (upd H a o) { s with heap:=h',toks:=t' }:=I.un (Un.laid k hp (I.hok.fresh hp)) (I.hok.laid k hp new)
theorem Inv.write {x e:Addr}{o:HO}{t':Nat}(I:Inv X pins σ H s)(mu:Mut (H x))(he:e=x∨H e=some (.own x))(k:∀ b u,b≠e→s.heap.get? b=some u→h'.get? b=some u)(heo:∃ u,h'.get? e=some u)
  (new:ObjOk X.prog X.w (upd H x o) h' x o):Inv X pins σ (upd H x o) { s with heap:=h',toks:=t' }:=I.un (Un.write mu he k heo) (I.hok.write mu he k heo new)
theorem Inv.pins_of {pins':List (Addr×Obj)}(I:Inv X pins σ H s)(h:∀ p∈pins',s.heap.get? p.1=some p.2∧H p.1=none∧p.1≠X.env.locals∧p.1 ∉ X.fs∧∀ v,p.2.data≠.cell v):Inv X pins' σ H s:=
 ⟨I.ok,I.os,I.bare,I.base,I.loc,I.cell,I.free,I.freeC,fun p hp=>(List.mem_append.mp hp).elim (fun z=>I.pin p (List.mem_append_left _ z)) (h p),I.hok,I.len⟩
theorem nodup_ix {N:List Str}(hN:N.Nodup){i j:Nat}{x:Str}(a:N[i]?=some x)(b:N[j]?=some x):i=j:=by
 obtain⟨h1,e1⟩:=List.getElem?_eq_some_iff.mp a
 obtain⟨h2,e2⟩:=List.getElem?_eq_some_iff.mp b
 exact (List.getElem_inj hN).mp (e1.trans e2.symm)
theorem store_ok2 {M:Model}{A:Around}{E:Value→Shared→Prop}{i:Nat}{x:Str}{v:V}{u:Value}{Q:Unit→Shared→Prop}(I:Inv X pins σ H s)(hN:X.N.Nodup)(hi:X.N[i]?=some x)(hx:Loc X.env.scope x)(r:RelV v u)
  (h:∀ s',Inv X pins (σ.set i (some v)) H s'→(∃ a,Heap.SameBut a s.heap s'.heap∧(a=X.env.locals∨X.env.cells.lookup x=some a))→Q () s') (hf:X.fn x=true∨X.env.scope.names.lookup x=some .local:=by first|exact .inl rfl|exact .inr rfl|assumption):wpAny M A (storeName X.env x u) Q E s:=by
 obtain⟨m,hn,hl⟩:=id I.loc
 have hcls:(X.env.scope.kind == .class || (X.env.scope.kind == .module && X.env.locals != X.env.globals))=false:=by rw[I.ok.kind];rfl
 have hiσ:i<σ.length:=by rw[I.len];exact (List.getElem?_eq_some_iff.mp hi).1
 have cne:=I.cne
 have tracked:∀ {a:Addr} {h':Heap},(∃ o,s.heap.get? a=some o∧H a=none)→Heap.SameBut a s.heap h'→HOk X.prog X.w H h':=fun {a h'} ha hs b ob e=>by
  obtain⟨_,_,hfree⟩:=ha
  refine (I.hok b ob e).stay (fun c w' hc q=>(hs.2 c ?_).trans q) (fun _ q=>q) fun _ _ q=>q
  rintro rfl
  rcases hc with rfl | hc
  ·rw[hfree] at e;cases e
  ·rw[hfree] at hc;cases hc
 rcases hx with hk | hk
 ·refine wpAny_storeName_local hk hn (fun h' hn' hs=>?_) hcls
  obtain⟨oL,_,_,hoL,_⟩:=id hn
  refine h _ ⟨I.ok,I.os,I.bare,⟨fun b o e n hb hx=>?_,fun b o e n hb hx=>?_,I.base.free,fun b o e hx=>?_,I.base.tups,I.base.frzs,I.base.tbls⟩,⟨_,hn',fun j y v' e1 e2 e3=>?_⟩,fun y c e=>?_,I.free,I.freeC,fun p hp=>?_,tracked ⟨oL,hoL,I.free⟩ hs,by simpa using I.len⟩ ⟨_,hs,.inl rfl⟩
  ·exact (hs.2 b (Nat.ne_of_lt (Nat.lt_of_lt_of_le (Heap.lt_size e) I.ok.above))).trans (I.base.keep b o e n hb hx)
  ·obtain⟨sl,e1⟩:=I.base.slot b o e n hb hx
   exact⟨sl,(hs.2 b (Nat.ne_of_lt (Nat.lt_of_lt_of_le (Heap.lt_size e) I.ok.above))).trans e1⟩
  ·obtain⟨o',e1⟩:=I.base.there b o e hx
   exact⟨o',(hs.2 b (Nat.ne_of_lt (Nat.lt_of_lt_of_le (Heap.lt_size e) I.ok.above))).trans e1⟩
  ·by_cases hj:j=i
   ·subst hj
    rw[hi] at e1;cases e1
    rw[List.getElem?_set_self hiσ] at e2
    cases e2
    exact⟨u,r,.inl ⟨hk,by simp⟩⟩
   ·rw[List.getElem?_set_ne (Ne.symm hj)] at e2
    obtain⟨u',r',q⟩:=hl j y v' e1 e2 e3
    refine⟨u',r',?_⟩
    rcases q with ⟨k,e⟩ | ⟨k,c,e,z⟩
    ·refine .inl ⟨k,?_⟩
     have:y≠x:=fun e=>hj (nodup_ix hN e1 (e ▸ hi))
     simp[this,e]
    ·exact .inr ⟨k,c,e,z.sameBut hs (cne y c e)⟩
  ·obtain⟨w',z⟩:=I.cell y c e
   exact⟨w',z.sameBut hs (cne y c e)⟩
  ·obtain⟨e,n,ne,nf,d⟩:=I.pin p hp
   exact⟨(hs.2 p.1 ne).trans e,n,ne,nf,d⟩
 ·have hfn:X.fn x=true:=by
   rcases hf with z | z
   ·exact z
   ·rw[z] at hk;cases hk
  obtain⟨c,hc⟩:=I.ok.has x (.inl hk)
  obtain⟨w',z⟩:=I.cell x c hc
  refine wpAny_storeName_cell I.ok.kind hk hc z (fun h' hc' hs=>?_)
  obtain⟨oc,hoc,hocd⟩:=id z
  refine h { s with heap:=h' } ⟨I.ok,I.os,I.bare,⟨fun b o e n hb hx=>?_,fun b o e n hb hx=>?_,I.base.free,fun b o e hx=>?_,I.base.tups,I.base.frzs,I.base.tbls⟩,⟨m,hn.sameBut hs (Ne.symm (cne x c hc)),fun j y v' e1 e2 e3=>?_⟩,fun y c' e=>?_,I.free,I.freeC,fun p hp=>?_,tracked ⟨oc,hoc,I.freeC x c hc⟩ hs,by simpa using I.len⟩ ⟨c,hs,.inr hc⟩
  ·exact (hs.2 b (Nat.ne_of_lt (Nat.lt_of_lt_of_le (Heap.lt_size e) (I.ok.cab x c hfn hc)))).trans (I.base.keep b o e n hb hx)
  ·obtain⟨sl,e1⟩:=I.base.slot b o e n hb hx
   exact⟨sl,(hs.2 b (Nat.ne_of_lt (Nat.lt_of_lt_of_le (Heap.lt_size e) (I.ok.cab x c hfn hc)))).trans e1⟩
  ·obtain⟨o',e1⟩:=I.base.there b o e hx
   exact⟨o',(hs.2 b (Nat.ne_of_lt (Nat.lt_of_lt_of_le (Heap.lt_size e) (I.ok.cab x c hfn hc)))).trans e1⟩
  ·by_cases hj:j=i
   ·subst hj
    rw[hi] at e1;cases e1
    rw[List.getElem?_set_self hiσ] at e2
    cases e2
    exact⟨u,r,.inr ⟨.inl hk,c,hc,hc'⟩⟩
   ·rw[List.getElem?_set_ne (Ne.symm hj)] at e2
    obtain⟨u',r',q⟩:=hl j y v' e1 e2 e3
    refine⟨u',r',?_⟩
    rcases q with q | ⟨k,c',e,z'⟩
    ·exact .inl q
    ·refine .inr ⟨k,c',e,z'.sameBut hs ?_⟩
     rintro rfl
     exact hj (nodup_ix hN e1 (I.ok.inj _ _ _ e hc ▸ hi))
  ·by_cases hcc:c'=c
   ·subst hcc;exact⟨_,hc'⟩
   ·obtain⟨w2,z2⟩:=I.cell y c' e
    exact⟨w2,z2.sameBut hs hcc⟩
  ·obtain⟨e,n,ne,nf,d⟩:=I.pin p hp
   refine⟨(hs.2 p.1 ?_).trans e,n,ne,nf,d⟩
   intro q
   rw[q,hoc] at e
   have q':oc=p.2:=Option.some.inj e
   exact d w' (by rw[← q'];exact hocd)
theorem store_ok {M:Model}{A:Around}{E:Value→Shared→Prop}{i:Nat}{x:Str}{v:V}{u:Value}{Q:Unit→Shared→Prop}(I:Inv X pins σ H s)(hN:X.N.Nodup)(hi:X.N[i]?=some x)(hx:Loc X.env.scope x)(r:RelV v u)
  (h:∀ s',Inv X pins (σ.set i (some v)) H s'→Q () s') (hf:X.fn x=true∨X.env.scope.names.lookup x=some .local:=by first|exact .inl rfl|exact .inr rfl|assumption):wpAny M A (storeName X.env x u) Q E s:=
 store_ok2 I hN hi hx r (fun s' I' _=>h s' I') hf
theorem Inv.call' {s':Shared}{ch:List Addr}(I:Inv X pins σ H s)(ho:s'.os=s.os)(u:Un (frs X.stack) ch H H' s.heap s'.heap)(hok:HOk X.prog X.w H' s'.heap)(hg:AllBare s'.gens)
  (hch:∀ b∈ch,(b∈X.ex∨X.s₀.heap.objs.size≤b)∧b≠X.env.locals∧(∀ x c,X.env.cells.lookup x=some c→c≠b)∧∀ p∈X.pn++pins,p.1≠b):Inv X pins σ H' s':=by
 obtain⟨h',g',d',t',o'⟩:=s'
 have e:o'=s.os:=ho
 subst e
 exact I.call (g':=g') (t':=t') (d':=d') u hok hg hch
end
abbrev XK:=Value→Option Addr→Hp→Prop
abbrev St:=List (Option V)
abbrev VK:=V→Hp→Prop
abbrev TE:=St→Hp→VK→Prop
abbrev TT:=St→Hp→(Bool→Hp→Prop)→Prop
abbrev TA:=St→Hp→(List V→Hp→Prop)→Prop
structure Ends where
 nx:St→Hp→Prop
 rt:VK
 bk:St→Hp→Prop:=fun _ _=>False
 ct:St→Hp→Prop:=fun _ _=>False
abbrev TS:=Ends→St→Hp→Prop
def EP (X:Cx)(pins:List (Addr×Obj))(σ:St)(Q:VK)(u:Value)(s':Shared):Prop:=∃ v H',Inv X pins σ H' s'∧RelV v u∧Q v H'
def TP (X:Cx)(pins:List (Addr×Obj))(σ:St)(Q:Bool→Hp→Prop)(b:Bool)(s':Shared):Prop:=∃ H',Inv X pins σ H' s'∧Q b H'
def AP (X:Cx)(pins:List (Addr×Obj))(σ:St)(Q:List V→Hp→Prop)(us:List Value)(s':Shared):Prop:=∃ vs H',Inv X pins σ H' s'∧Vals vs us∧Q vs H'
def SP (X:Cx)(pins:List (Addr×Obj))(D:Ends)(f:Flow)(s':Shared):Prop:=
 match f with
 | .next=>∃ σ' H',Inv X pins σ' H' s'∧D.nx σ' H'
 | .brk=>∃ σ' H',Inv X pins σ' H' s'∧D.bk σ' H'
 | .cont=>∃ σ' H',Inv X pins σ' H' s'∧D.ct σ' H'
 | .ret u=>∃ v σ' H',Inv X pins σ' H' s'∧RelV v u∧D.rt v H'
structure Hold (p:Prop):Prop where
 out:p
instance {α:Sort _}{β:α→Prop}:CoeFun (Hold (∀ a,β a)) (fun _=>∀ a,β a):=⟨Hold.out⟩
abbrev PE (X:Cx)(e:Expr)(t:TE):Prop:=Hold (
 ∀ (pins:List (Addr×Obj)) (s:Shared) (σ:St) (H:Hp) (Q:VK),Inv X pins σ H s→t σ H Q→wpAny (model X.prog X.w) X.A (eval e X.env) (EP X pins σ Q) X.xe s)
abbrev PT (X:Cx)(e:Expr)(t:TT):Prop:=Hold (
 ∀ (pins:List (Addr×Obj)) (s:Shared) (σ:St) (H:Hp) (Q:Bool→Hp→Prop),Inv X pins σ H s→t σ H Q→wpAny (model X.prog X.w) X.A (isTrue e X.env (eval e X.env)) (TP X pins σ Q) X.xe s)
def PW (X:Cx)(e:Expr)(t:TT):Prop:=
 ∀ (whole:Sem Value) (pins:List (Addr×Obj)) (s:Shared) (σ:St) (H:Hp) (Q:Bool→Hp→Prop),Inv X pins σ H s→t σ H Q→wpAny (model X.prog X.w) X.A (isTrue e X.env whole) (TP X pins σ Q) X.xe s
theorem PW.pt {X:Cx}{e:Expr}{t:TT}(h:PW X e t):PT X e t:=⟨h _⟩
abbrev PA (X:Cx)(es:List Expr)(t:TA):Prop:=Hold (
 ∀ (pos:Pos) (pins:List (Addr×Obj)) (s:Shared) (σ:St) (H:Hp) (Q:List V→Hp→Prop),Inv X pins σ H s→t σ H Q→wpAny (model X.prog X.w) X.A (spliced (backTo pos (starEach es X.env))) (AP X pins σ Q) X.xe s)
abbrev PS (X:Cx)(st:Stmt)(t:TS):Prop:=Hold (
 ∀ (pins:List (Addr×Obj)) (s:Shared) (σ:St) (H:Hp) (D:Ends),Inv X pins σ H s→t D σ H→wpAny (model X.prog X.w) X.A (exec st X.env) (SP X pins D) X.xe s)
abbrev PSs (X:Cx)(st:List Stmt)(t:TS):Prop:=Hold (
 ∀ (pins:List (Addr×Obj)) (s:Shared) (σ:St) (H:Hp) (D:Ends),Inv X pins σ H s→t D σ H→wpAny (model X.prog X.w) X.A (execs st X.env) (SP X pins D) X.xe s)
theorem thn {α:Type}{t:Sem α}{Q Q':α→Shared→Prop}{M:Model}{A:Around}{E:Value→Shared→Prop}{s:Shared}(h:wpAny M A t Q E s)(hQ:∀ a s,Q a s→Q' a s):wpAny M A t Q' E s:=wpAny_mono h hQ fun _ _ x=>x
end L2
namespace L2
open PySem PySem.Spec PyProof.Rows
section
variable {X:Cx}
def tVar (i:Nat):TE:=fun σ H Q=>∃ v,σ[i]?=some (some v)∧Q v H
def tC (v:V):TE:=fun _ H Q=>Q v H
theorem pe_var {i:Nat}{x:Str}{pos:Pos}(hN:X.N[i]?=some x)(hv:Vis X.env.scope x)(hd:(x ==("__debug__":Str))=false:=by decide)(hcd:(x ==("__classdict__":Str))=false:=by decide):PE X (.Name x pos) (tVar i):=by
 refine⟨?_⟩
 intro pins s σ H Q I h
 obtain⟨v,e,h⟩:=h
 obtain⟨m,hn,hl⟩:=I.loc
 obtain⟨u,r,l⟩:=hl i x v hN e hv
 have fin:EP X pins σ Q u s:=⟨v,H,I,r,h⟩
 rcases l with ⟨hk,hm⟩ | ⟨hk,c,hc,hcell⟩
 ·exact wpAny_Name (wpAny_loadName_local I.ok.kind hk hn hm fin) hd
 ·rcases hk with hk | hk
  ·exact wpAny_Name (wpAny_loadName_cell I.ok.kind hk hc hcell fin) hd
  ·exact wpAny_Name (wpAny_loadName_free I.ok.kind hk hc hcell fin hcd) hd
theorem pe_int {i j pos}:PE X (.Constant (.int i) j pos) (tC (.int i)):=⟨fun _ _ _ H _ I h=>wpAny_Constant_int ⟨.int i,H,I.tok _,⟨_,rfl⟩,h⟩⟩
theorem pe_bl {b j pos}:PE X (.Constant (.bool b) j pos) (tC (.bl b)):=⟨fun _ _ _ H _ I h=>Constant_bool ⟨.bl b,H,I,rfl,h⟩⟩
theorem pe_non {j pos}:PE X (.Constant .none j pos) (tC .non):=⟨fun _ _ _ H _ I h=>Constant_none ⟨.non,H,I,rfl,h⟩⟩
theorem pe_str {x j pos}:PE X (.Constant (.str x) j pos) (tC (.str x)):=⟨fun _ _ _ H _ I h=>Calls.Constant_str ⟨.str x,H,I.tok _,⟨_,rfl⟩,h⟩⟩
def Gl (X:Cx)(x:Str):Prop:=X.env.kindOf x=some .globalImplicit
theorem ld_glob {E:Value→Shared→Prop}{pins:List (Addr×Obj)}{s:Shared}{σ:St}{H:Hp}{x:Str}{u:Value}{pos:Pos}{Q:Value→Shared→Prop}(I:Inv X pins σ H s)(hg:Gl X x)(hm:X.mg x=some u)(h:Q u s)
  (hd:(x ==("__debug__":Str))=false:=by decide):wpAny (model X.prog X.w) X.A (eval (.Name x pos) X.env) Q E s:=
 Calls.Name_function_global I.ok.kind hg (Calls.loadGlobal_global (by rw[I.ok.glob];exact I.mod.glob.keeps I.bk) hm h) hd
theorem ld_blt {E:Value→Shared→Prop}{pins:List (Addr×Obj)}{s:Shared}{σ:St}{H:Hp}{x:Str}{u:Value}{pos:Pos}{Q:Value→Shared→Prop}(I:Inv X pins σ H s)(hg:Gl X x)(hm:X.mg x=none)(hv:bootBuiltins x=some u)(h:Q u s)
  (hn:x≠"__name__":=by decide) (hd:(x ==("__debug__":Str))=false:=by decide):wpAny (model X.prog X.w) X.A (eval (.Name x pos) X.env) Q E s:=by
 obtain⟨mb,h1,h2⟩:=I.mod.blt
 exact Calls.Name_function_global I.ok.kind hg (Calls.loadGlobal_builtin (by rw[I.ok.glob];exact I.mod.glob.keeps I.bk) hm (by rw[I.ok.blt];exact h1.keeps I.bk) ((h2 x hn).trans hv) h) hd
theorem pe_glob {x:Str}{v:V}{u:Value}{pos:Pos}(hg:Gl X x)(hm:X.mg x=some u)(r:RelV v u)(hd:(x ==("__debug__":Str))=false:=by decide):PE X (.Name x pos) (tC v):=
 ⟨fun _ _ _ H _ I h=>ld_glob I hg hm ⟨v,H,I,r,h⟩ hd⟩
theorem pe_bltn {x:Str}{v:V}{u:Value}{pos:Pos}(hg:Gl X x)(hm:X.mg x=none)(hv:bootBuiltins x=some u)(r:RelV v u)(hn:x≠"__name__":=by decide)(hd:(x ==("__debug__":Str))=false:=by decide):PE X (.Name x pos) (tC v):=
 ⟨fun _ _ _ H _ I h=>ld_blt I hg hm hv ⟨v,H,I,r,h⟩ hn hd⟩
variable {a b:Expr} {ta tb:TE} {pos:Pos}
def tB (t:TE):TT:=fun σ H Q=>t σ H fun x H1=>∃ c,x=.bl c∧Q c H1
theorem pt_val {e:Expr}{t:TE}(h:PE X e t)(he:∀ whole,isTrue e X.env whole=(do let v ← whole;standAt e.pos;holding [v] (truthy v)):=by intro _;rfl):PT X e (tB t):=by
 refine⟨?_⟩
 intro pins s σ H Q I hw
 refine isTrue_plain (thn (h pins s σ H _ I hw) fun v s1 ⟨x,H1,I1,r1,q1⟩=>?_) (he _)
 obtain⟨d,rfl,q⟩:=q1
 cases r1
 exact wpAny_truthy_bool ⟨H1,I1,q⟩
variable {tA tB':TT} {rest:List Expr}
def tAnd (t u:TT):TT:=fun σ H Q=>t σ H fun c H1=>if c=true then u σ H1 Q else Q false H1
def tOr (t u:TT):TT:=fun σ H Q=>t σ H fun c H1=>if c=true then Q true H1 else u σ H1 Q
def tNot (t:TT):TT:=fun σ H Q=>t σ H fun c H1=>Q (!c) H1
theorem pw_and1 (ha:PT X a tA):PW X (.BoolOp .And [a] pos) tA:=by
 intro wh pins s σ H Q I h
 refine isTrue_and (thn (ha pins s σ H Q I h) fun c s1 e=>?_)
 cases c with
 | true=>exact isTrue_and_nil e
 | false=>exact e
theorem pw_or1 (ha:PT X a tA):PW X (.BoolOp .Or [a] pos) tA:=by
 intro wh pins s σ H Q I h
 refine isTrue_or (thn (ha pins s σ H Q I h) fun c s1 e=>?_)
 cases c with
 | false=>exact isTrue_or_nil e
 | true=>exact e
theorem pw_and (ha:PT X a tA)(hb:PW X (.BoolOp .And (b::rest) pos) tB'):PW X (.BoolOp .And (a::b::rest) pos) (tAnd tA tB'):=by
 intro wh pins s σ H Q I h
 refine isTrue_and (thn (ha pins s σ H _ I h) fun c s1 ⟨H1,I1,q1⟩=>?_)
 cases c with
 | true=>exact hb wh pins s1 σ H1 Q I1 q1
 | false=>exact⟨H1,I1,q1⟩
theorem pw_or (ha:PT X a tA)(hb:PW X (.BoolOp .Or (b::rest) pos) tB'):PW X (.BoolOp .Or (a::b::rest) pos) (tOr tA tB'):=by
 intro wh pins s σ H Q I h
 refine isTrue_or (thn (ha pins s σ H _ I h) fun c s1 ⟨H1,I1,q1⟩=>?_)
 cases c with
 | true=>exact⟨H1,I1,q1⟩
 | false=>exact hb wh pins s1 σ H1 Q I1 q1
theorem pt_not (ha:PT X a tA):PT X (.UnaryOp .Not a pos) (tNot tA):=by
 refine⟨?_⟩
 intro pins s σ H Q I h
 exact isTrue_not (ha pins s σ H (fun c H1=>Q (!c) H1) I h)
def tAndV (ta tb:TE):TE:=fun σ H Q=>ta σ H fun x H1=>∃ c,x=.bl c∧if c=true then tb σ H1 Q else Q (.bl false) H1
def tNotV (ta:TE):TE:=fun σ H Q=>ta σ H fun x H1=>∃ c,x=.bl c∧Q (.bl (!c)) H1
theorem pe_one {op}{t:TE}(h:PE X a t):PE X (.BoolOp op [a] pos) t:=⟨fun pins s σ H Q I hw=>BoolOp_one (h pins s σ H Q I hw)⟩
theorem pe_and (ha:PE X a ta)(hb:PE X (.BoolOp .And (b::rest) pos) tb):PE X (.BoolOp .And (a::b::rest) pos) (tAndV ta tb):=by
 refine⟨?_⟩
 intro pins s σ H Q I h
 refine BoolOp_and (thn (ha pins s σ H _ I h) fun v s1 ⟨x,H1,I1,r1,q1⟩=>?_)
 obtain⟨c,rfl,q1⟩:=q1
 cases r1
 refine wpAny_truthy_bool ?_
 cases c with
 | true=>exact hb pins s1 σ H1 Q I1 q1
 | false=>exact⟨.bl false,H1,I1,rfl,q1⟩
theorem pe_not (ha:PE X a ta):PE X (.UnaryOp .Not a pos) (tNotV ta):=by
 refine⟨?_⟩
 intro pins s σ H Q I h
 refine UnaryOp_ (thn (ha pins s σ H _ I h) fun v s1 ⟨x,H1,I1,r1,q1⟩=>?_)
 obtain⟨c,rfl,q1⟩:=q1
 cases r1
 exact not_of (wpAny_truthy_bool ⟨.bl (!c),H1,I1,rfl,q1⟩)
end
end L2
namespace L2
open PySem PySem.Spec PyProof.Rows
def SqL (K:FrQ)(H:Hp)(a:Addr)(xs:List V):Prop:=
 Rd H a (.lst xs)∨
  ∃ (o:Obj) (its:Array Value) (n:Nat),K.lookup a=some o∧o.cls=.type "list"∧o.dict=none∧o.data=.seq its n∧its.size≤sizeLine∧Vals xs its.toList
def SqT (K:FrQ)(H:Hp)(a:Addr)(xs:List V):Prop:=
 Rd H a (.tup xs)∨
  ∃ (o:Obj) (its:Array Value) (n:Nat),K.lookup a=some o∧o.cls=.type "tuple"∧o.data=.seq its n∧its.size≤sizeLine∧Vals xs its.toList
def absV:Value→Option V
 | .none=>some .non
 | .bool b=>some (.bl b)
 | .int i _=>some (.int i)
 | .str x _=>some (.str x)
 | .bytes b _=>some (.byt b)
 | .float b _=>some (.flt b)
 | .ref a=>some (.ref a)
 | .type n=>some (.ty n)
 | _=>none
theorem RelV.abs {x:V}{u:Value}(r:RelV x u):absV u=some x:=by
 cases x with
 | non=>cases r;rfl
 | bl _=>cases r;rfl
 | int _=>obtain⟨t,rfl⟩:=r;rfl
 | str _=>obtain⟨t,rfl⟩:=r;rfl
 | byt _=>obtain⟨t,rfl⟩:=r;rfl
 | flt _=>obtain⟨t,rfl⟩:=r;rfl
 | ref _=>cases r;rfl
 | ty _=>cases r;rfl
theorem RelV.inj {x y:V}{u:Value}(r:RelV x u)(q:RelV y u):x=y:=Option.some.inj (r.abs.symm.trans q.abs)
theorem Vals.inj:∀ {xs ys:List V} {us:List Value},Vals xs us→Vals ys us→xs=ys
 | _,_,_,.nil,.nil=>rfl
 | _,_,_,.cons r t,.cons r' t'=>by rw[r.inj r',Vals.inj t t']
section
variable {X:Cx} {pins:List (Addr×Obj)} {σ:St} {H:Hp} {s:Shared} {a:Addr} {xs ys:List V}
theorem SqL.of {K:FrQ}(h:H a=some (.lst xs)):SqL K H a xs:=.inl (.inl h)
theorem SqT.of {K:FrQ}(h:H a=some (.tup xs)):SqT K H a xs:=.inl (.inl h)
theorem Inv.list (I:Inv X pins σ H s)(h:SqL X.K H a xs):∃ its:List Value,Vals xs its∧PlainL s.heap a its.toArray∧xs.length≤sizeLine:=by
 rcases h with h | ⟨o,its,n,hk,hc,hd,hs,hz,r⟩
 ·obtain⟨z,its,n,r,e⟩:=h.ok I.hok
  exact⟨its,r,⟨_,n,e,rfl,rfl,rfl⟩,z⟩
 ·refine⟨its.toList,r,⟨o,n,I.kIn a o hk,hc,hd,by simpa using hs⟩,?_⟩
  have e:=r.length
  simp only[Array.length_toList] at e
  omega
theorem Inv.tuple (I:Inv X pins σ H s)(h:SqT X.K H a xs):∃ its:List Value,Vals xs its∧IsTup s.heap a its.toArray∧xs.length≤sizeLine:=by
 rcases h with h | ⟨o,its,n,hk,hc,hs,hz,r⟩
 ·obtain⟨z,its,r,p⟩:=h.ok I.hok
  exact⟨its,r,p,z⟩
 ·refine⟨its.toList,r,⟨o,I.kIn a o hk,hc,n,by simpa using hs⟩,?_⟩
  have e:=r.length
  simp only[Array.length_toList] at e
  omega
theorem Inv.list_inj (I:Inv X pins σ H s)(h:SqL X.K H a xs)(h':SqL X.K H a ys):xs=ys:=by
 obtain⟨its,r,⟨o,n,e,_,_,d⟩,_⟩:=I.list h
 obtain⟨its',r',⟨o',n',e',_,_,d'⟩,_⟩:=I.list h'
 rw[e] at e';cases e'
 rw[d] at d'
 injection d' with d1 _
 have:its=its':=by simpa using congrArg Array.toList d1
 subst this
 exact r.inj r'
end
abbrev Cx.wish (X:Cx)(E:Value→Shared→Prop):Cx:={ X with xe:=E }
abbrev Cx.nox (X:Cx):Cx:=X.wish fun _ _=>False
theorem Cx.Ok.wish {X:Cx}(ok:X.Ok)(E:Value→Shared→Prop):(X.wish E).Ok:=
 ⟨ok.mod,ok.kind,ok.glob,ok.blt,ok.above,ok.inj,ok.has,ok.cab,ok.hd,ok.frames,ok.stk,ok.exf,ok.bs,ok.bsz,ok.noex,ok.exfs,ok.funs,ok.frf⟩
theorem Cx.Ok.unwish {X:Cx}{E:Value→Shared→Prop}(ok:(X.wish E).Ok):X.Ok:=
 ⟨ok.mod,ok.kind,ok.glob,ok.blt,ok.above,ok.inj,ok.has,ok.cab,ok.hd,ok.frames,ok.stk,ok.exf,ok.bs,ok.bsz,ok.noex,ok.exfs,ok.funs,ok.frf⟩
section
variable {X:Cx} {pins:List (Addr×Obj)} {σ:St} {H:Hp} {s:Shared} {E:Value→Shared→Prop}
theorem Inv.wish (I:Inv X pins σ H s)(E:Value→Shared→Prop):Inv (X.wish E) pins σ H s:=⟨I.ok.wish E,I.os,I.bare,I.base,I.loc,I.cell,I.free,I.freeC,I.pin,I.hok,I.len⟩
theorem Inv.unwish (I:Inv (X.wish E) pins σ H s):Inv X pins σ H s:=⟨I.ok.unwish,I.os,I.bare,I.base,I.loc,I.cell,I.free,I.freeC,I.pin,I.hok,I.len⟩
theorem SP.unwish {D:Ends}{f:Flow}{s':Shared}(h:SP (X.wish E) pins D f s'):SP X pins D f s':=by
 cases f with
 | next=>obtain⟨σ',H',I,q⟩:=h;exact⟨σ',H',I.unwish,q⟩
 | brk=>obtain⟨σ',H',I,q⟩:=h;exact⟨σ',H',I.unwish,q⟩
 | cont=>obtain⟨σ',H',I,q⟩:=h;exact⟨σ',H',I.unwish,q⟩
 | ret u=>obtain⟨v,σ',H',I,r,q⟩:=h;exact⟨v,σ',H',I.unwish,r,q⟩
theorem PSs.nox {st:List Stmt}{t:TS}(h:PSs X.nox st t):PSs X st t:=⟨fun pins s σ H D I hw=>
 wpAny_mono (h pins s σ H D (I.wish _) hw) (fun _ _ q=>q.unwish) fun _ _ z=>False.elim z⟩
end
section
variable {X:Cx} {st:Stmt} {rest:List Stmt} {t u:TS} {e:Expr} {te:TE} {pos:Pos}
def tNext:TS:=fun D σ H=>D.nx σ H
def tSeq (t u:TS):TS:=fun D σ H=>t { D with nx:=u D } σ H
theorem pss_nil:PSs X [] tNext:=⟨fun _ _ σ H _ I h=>wpAny_execs_nil ⟨σ,H,I,h⟩⟩
theorem pss_cons (h1:PS X st t)(h2:PSs X rest u):PSs X (st::rest) (tSeq t u):=by
 refine⟨?_⟩
 intro pins s σ H D I h
 refine wpAny_execs_cons (thn (h1 pins s σ H { D with nx:=u D } I h) fun f s1 q=>?_)
 cases f with
 | next=>
  obtain⟨σ',H',I',q⟩:=q
  exact h2 pins s1 σ' H' D I' q
 | ret v=>exact q
 | brk=>exact q
 | cont=>exact q
theorem pss_one (h1:PS X st t):PSs X [st] t:=by
 refine⟨?_⟩
 intro pins s σ H D I h
 refine wpAny_execs_cons (thn (h1 pins s σ H D I h) fun f s1 q=>?_)
 cases f with
 | next=>exact wpAny_execs_nil q
 | ret v=>exact q
 | brk=>exact q
 | cont=>exact q
theorem Inv.quiet {pins:List (Addr×Obj)}{σ:St}{H:Hp}{s:Shared}(I:Inv X pins σ H s):interactive X.env=false:=by simp[interactive,I.ok.kind]
def tDrop (te:TE):TS:=fun D σ H=>te σ H fun _ H1=>D.nx σ H1
theorem ps_expr (he:PE X e te)(hs:swapsWith e none pos.line X.env=pure false:=by rfl):PS X (.Expr e pos) (tDrop te):=by
 refine⟨?_⟩
 intro pins s σ H D I h
 exact wpAny_Expr_any (thn (he pins s σ H _ I h) fun v s1 ⟨x,H1,I1,r1,q1⟩=>⟨σ,H1,I1,q1⟩) I.quiet hs
def tRet (te:TE):TS:=fun D σ H=>te σ H D.rt
theorem ps_ret (he:PE X e te):PS X (.Return (some e) pos) (tRet te):=by
 refine⟨?_⟩
 intro pins s σ H D I h
 exact wpAny_Return_some (thn (he pins s σ H _ I h) fun v s1 ⟨x,H1,I1,r1,q1⟩=>⟨x,σ,H1,I1,r1,q1⟩)
def tIfS (c:TT)(t u:TS):TS:=fun D σ H=>c σ H fun b H1=>if b=true then t D σ H1 else u D σ H1
theorem ps_if {c:Expr}{a b:List Stmt}{tc:TT}(hc:PT X c tc)(ha:PSs X a t)(hb:PSs X b u):PS X (.If c a b pos) (tIfS tc t u):=by
 refine⟨?_⟩
 intro pins s σ H D I h
 refine wpAny_If (thn (hc pins s σ H _ I h) fun d s1 ⟨H1,I1,q1⟩=>?_)
 cases d with
 | true=>exact ha pins s1 σ H1 D I1 q1
 | false=>exact hb pins s1 σ H1 D I1 q1
end
abbrev TG:=V→St→Hp→(St→Hp→Prop)→Prop
abbrev TGs:=List V→St→Hp→(St→Hp→Prop)→Prop
def PG (X:Cx)(target:Expr)(t:TG):Prop:=
 ∀ (pins:List (Addr×Obj)) (s:Shared) (σ:St) (H:Hp) (v:V) (u:Value) (Q:St→Hp→Prop),Inv X pins σ H s→RelV v u→t v σ H Q→
  wpAny (model X.prog X.w) X.A (assign target X.env u) (fun _ s'=>∃ σ' H',Inv X pins σ' H' s'∧Q σ' H') X.xe s
def PGs (X:Cx)(ts:List Expr)(t:TGs):Prop:=
 ∀ (pins:List (Addr×Obj)) (s:Shared) (σ:St) (H:Hp) (vs:List V) (us:List Value) (Q:St→Hp→Prop),Inv X pins σ H s→Vals vs us→t vs σ H Q→
  wpAny (model X.prog X.w) X.A (assignInOrder ((assignEach ts X.env).map (·.2)) us) (fun _ s'=>∃ σ' H',Inv X pins σ' H' s'∧Q σ' H') X.xe s
abbrev TSet:=V→V→V→Hp→(Hp→Prop)→Prop
def PSet (X:Cx)(t:TSet):Prop:=
 ∀ (pins:List (Addr×Obj)) (s:Shared) (σ:St) (H:Hp) (o i v:V) (ov iv u:Value) (Q:Hp→Prop),Inv X pins σ H s→RelV o ov→RelV i iv→RelV v u→t o i v H Q→
  wpAny (model X.prog X.w) X.A (setItem ov iv u) (fun _ s'=>∃ H',Inv X pins σ H' s'∧Q H') X.xe s
abbrev TIp:=V→V→Hp→VK→Prop
def PIp (X:Cx)(op:Operator)(t:TIp):Prop:=
 ∀ (pins:List (Addr×Obj)) (s:Shared) (σ:St) (H:Hp) (x y:V) (v u:Value) (Q:VK),Inv X pins σ H s→RelV x v→RelV y u→t x y H Q→
  wpAny (model X.prog X.w) X.A (inplaceOp op v u) (EP X pins σ Q) X.xe s
section
variable {X:Cx} {pos:Pos}
def gName (i:Nat):TG:=fun v σ H Q=>Q (σ.set i (some v)) H
theorem pg_name {i:Nat}{x:Str}(hN:X.N.Nodup)(hi:X.N[i]?=some x)(hx:Loc X.env.scope x)(hf:X.fn x=true∨X.env.scope.names.lookup x=some .local:=by first|exact .inl rfl|exact .inr rfl|assumption):PG X (.Name x pos) (gName i):=by
 intro pins s σ H v u Q I r h
 exact wpAny_assign_Name (store_ok I hN hi hx r (fun s' I'=>⟨_,H,I',h⟩) hf)
def gNil:TGs:=fun vs σ H Q=>vs=[]∧Q σ H
def gCons (t:TG)(u:TGs):TGs:=fun vs σ H Q=>∃ v r,vs=v::r∧t v σ H fun σ' H'=>u r σ' H' Q
theorem pgs_nil:PGs X [] gNil:=by
 intro pins s σ H vs us Q I r h
 obtain⟨e,h⟩:=h
 subst e
 cases r
 exact assignInOrder_nil ⟨σ,H,I,h⟩
theorem pgs_cons {e:Expr}{es:List Expr}{t:TG}{u:TGs}(h1:PG X e t)(h2:PGs X es u)
  (hs:(assignEach (e::es) X.env).map (·.2)=assign e X.env::(assignEach es X.env).map (·.2):=by rfl):PGs X (e::es) (gCons t u):=by
 intro pins s σ H vs us Q I r h
 obtain⟨v,vr,e1,h⟩:=h
 subst e1
 cases r with
 | cons r rr=>
  rw[hs]
  refine assignInOrder_cons (thn (h1 pins s σ H _ _ _ I r h) fun _ s1 ⟨σ1,H1,I1,q1⟩=>?_)
  exact h2 pins s1 σ1 H1 _ _ Q I1 rr q1
def gTup (K:FrQ)(n:Nat)(t:TGs):TG:=fun v σ H Q=>∃ a xs,v=.ref a∧SqT K H a xs∧xs.length=n∧t xs σ H Q
theorem pg_tup {es:List Expr}{k:Nat}{t:TGs}{n:Nat}(hc:X.calm=true)(h:PGs X es t)
  (hn:(assignEach es X.env).length=n:=by rfl) (hst:(assignEach es X.env).findIdx? (·.1)=none:=by rfl):PG X (.Tuple es k pos) (gTup X.K n t):=by
 intro pins s σ H v u Q I r hw
 obtain⟨a,xs,e1,hq,hl,hw⟩:=hw
 subst e1
 cases r
 obtain⟨its,rv,ht,hz⟩:=I.tuple hq
 refine assign_Tuple_tuple (I.ok.hd hc) ht (by simp[hn,← hl,rv.length]) hst fun h' hx=>?_
 have I1:Inv X pins σ H { s with heap:=h' }:=I.kept (t':=s.toks) fun b o e=>hx b o (Nat.ne_of_lt (Heap.lt_size e)) e
 exact h pins _ σ H xs _ Q I1 (by simpa using rv) hw
def gSub (to ti:TE)(t:TSet):TG:=fun v σ H Q=>to σ H fun o H1=>ti σ H1 fun i H2=>t o i v H2 fun H3=>Q σ H3
theorem pg_sub {o i:Expr}{to ti:TE}{t:TSet}(ho:PE X o to)(hi:PE X i ti)(hs:PSet X t)
  (ha:∀ v,assign (.Subscript o i pos) X.env v=(do
   let ov ← holding [v] (eval o X.env)
   let iv ← holding [v,ov] (eval i X.env)
   standAt pos
   holding [v,ov,iv] (setItem ov iv v)
   release [v,ov,iv] []):=by intro _;rfl):PG X (.Subscript o i pos) (gSub to ti t):=by
 intro pins s σ H v u Q I r h
 rw[ha]
 refine wpAny_bind (wpAny_holding (thn (ho pins s σ H _ I h) fun ov s1 ⟨x,H1,I1,r1,q1⟩=>?_))
 refine wpAny_bind (wpAny_holding (thn (hi pins s1 σ H1 _ I1 q1) fun iv s2 ⟨y,H2,I2,r2,q2⟩=>?_))
 refine wpAny_bind (wpAny_standAt (wpAny_bind (wpAny_holding (thn (hs pins s2 σ H2 x y v ov iv u _ I2 r1 r2 r q2) fun _ s3 ⟨H3,I3,q3⟩=>?_))))
 exact wpAny_release ⟨σ,H3,I3,q3⟩
def tAsg (te:TE)(g:TG):TS:=fun D σ H=>te σ H fun x H1=>g x σ H1 D.nx
theorem ps_asg {tg e:Expr}{te:TE}{g:TG}(he:PE X e te)(hg:PG X tg g)(hs:swapsWithSole [tg] e pos.line X.env=pure false:=by rfl)(hw:swappedStores [tg] e X.env=pure none:=by rfl)
  (h1:(assignEach [tg] X.env).map (·.2)=[assign tg X.env]:=by rfl):PS X (.Assign [tg] e pos) (tAsg te g):=by
 refine⟨?_⟩
 intro pins s σ H D I h
 refine wpAny_Assign_stores (thn (he pins s σ H _ I h) fun v s1 ⟨x,H1,I1,r1,q1⟩=>?_) hs hw
 rw[h1]
 exact thn (hg pins s1 σ H1 x v _ I1 r1 q1) fun _ s2 q=>q
theorem ps_set {i:Nat}{x:Str}{e:Expr}{te:TE}{pos':Pos}(hN:X.N.Nodup)(hi:X.N[i]?=some x)(hx:Loc X.env.scope x)(he:PE X e te)(hs:swapsWith e (some (.Name x pos')) pos.line X.env=pure false:=by rfl)(hf:X.fn x=true∨X.env.scope.names.lookup x=some .local:=by first|exact .inl rfl|exact .inr rfl|assumption):
  PS X (.Assign [.Name x pos'] e pos) (tAsg te (gName i)):=by
 refine⟨?_⟩
 intro pins s σ H D I h
 refine wpAny_Assign_Name (thn (he pins s σ H _ I h) fun v s1 ⟨y,H1,I1,r1,q1⟩=>?_) hs
 exact store_ok I1 hN hi hx r1 (fun s2 I2=>⟨_,H1,I2,q1⟩) hf
def tPar (i j:Nat)(ta:TA):TS:=fun D σ H=>ta σ H fun vs H1=>∃ v w,vs=[v,w]∧D.nx ((σ.set i (some v)).set j (some w)) H1
theorem ps_par {i j:Nat}{x y:Str}{a b:Expr}{ta:TA}{px py pt:Pos}{kt k2 pt2}(hc:X.calm=true)(hN:X.N.Nodup)(hi:X.N[i]?=some x)(hj:X.N[j]?=some y)(hij:i≠j)
  (hx:X.env.scope.names.lookup x=some .local) (hy:X.env.scope.names.lookup y=some .local) (ha:PA X [a,b] ta)
  (hw:swappedStores [.Tuple [.Name x px,.Name y py] kt pt] (.Tuple [a,b] k2 pt2) X.env=pure (some [x,y]))
  (hs:swapsWithSole [.Tuple [.Name x px,.Name y py] kt pt] (.Tuple [a,b] k2 pt2) pos.line X.env=pure false:=by rfl):
  PS X (.Assign [.Tuple [.Name x px,.Name y py] kt pt] (.Tuple [a,b] k2 pt2) pos) (tPar i j ta):=by
 refine⟨?_⟩
 intro pins s σ H D I h
 rw[exec_Assign_arm]
 refine wpAny_bind (wpAny_standAt ?_)
 rw[hs]
 refine wpAny_bind (wpAny_pure ?_)
 rw[if_neg (by decide)]
 refine wpAny_bind (Tuple_ (thn (ha _ pins s σ H _ I h) fun us s1 ⟨vs,H1,I1,r1,q1⟩=>?_))
 obtain⟨v,w,e1,q1⟩:=q1
 subst e1
 obtain⟨u1,u2,rfl,rv,rw'⟩:∃ u1 u2,us=[u1,u2]∧RelV v u1∧RelV w u2:=by
  cases r1 with
  | cons p q=>
   cases q with
   | cons p' q'=>
    cases q'
    exact⟨_,_,rfl,p,p'⟩
 refine wpAny_newObj_type ?_ (by show 2≤sizeLine;decide)
 have I2:Inv X pins σ H1 { s1 with heap:=s1.heap.push { cls:=.type "tuple",data:=.seq [u1,u2].toArray } }:=I1.kept (t':=s1.toks) fun b o e=>Heap.get?_push_of_some _ e
 rw[hw]
 refine wpAny_bind (wpAny_pure ?_)
 show wpAny (model X.prog X.w) X.A (do rule "assign.swapped-stores";let items ← unpackItems (.ref s1.heap.objs.size) 2 none;assignInOrder [fun v=>bindName X.env y v,fun v=>bindName X.env x v] items.reverse;pure Flow.next) _ _ _
 refine wpAny_bind (wpAny_rule (wpAny_bind (unpackItems_tuple (items:=#[u1,u2]) (I.ok.hd hc) (IsTup.new s1.heap _) fun h' hx'=>?_)))
 have I3:=I2.kept (h':=h') (t':=s1.toks) fun b o e=>hx' b o (Nat.ne_of_lt (Heap.lt_size e)) e
 show wpAny _ _ (assignInOrder [fun v=>bindName X.env y v,fun v=>bindName X.env x v] [u2,u1] >>= fun _=>pure Flow.next) _ _ _
 refine wpAny_bind (assignInOrder_cons (wpAny_bindName (store_ok I3 hN hj (.inl hy) rw' (fun s2 I4=>?_) (.inr hy))))
 refine assignInOrder_cons (wpAny_bindName (store_ok I4 hN hi (.inl hx) rv (fun s3 I5=>assignInOrder_nil (wpAny_pure ?_)) (.inr hx)))
 rw[List.set_comm _ _ (Ne.symm hij)] at I5
 exact⟨_,H1,I5,q1⟩
def tAug (i:Nat)(te:TE)(ti:TIp):TS:=fun D σ H=>∃ x,σ[i]?=some (some x)∧te σ H fun y H1=>ti x y H1 fun z H2=>D.nx (σ.set i (some z)) H2
theorem ps_aug {i:Nat}{x:Str}{e:Expr}{te:TE}{op:Operator}{ti:TIp}{pos':Pos}(hN:X.N.Nodup)(hi:X.N[i]?=some x)(hx:Loc X.env.scope x)(he:PE X e te)(ho:PIp X op ti)(hf:X.fn x=true∨X.env.scope.names.lookup x=some .local:=by first|exact .inl rfl|exact .inr rfl|assumption):
  PS X (.AugAssign (.Name x pos') op e pos) (tAug i te ti):=by
 refine⟨?_⟩
 intro pins s σ H D I h
 obtain⟨v,e1,h⟩:=h
 obtain⟨m,hn,hl⟩:=I.loc
 have vis:Vis X.env.scope x:=by rcases hx with k | k;exact .inl k;exact .inr (.inl k)
 obtain⟨u,r,l⟩:=hl i x v hi e1 vis
 refine wpAny_AugAssign_Name ?_
 have go:wpAny (model X.prog X.w) X.A (eval e X.env) (fun w s₂=>wpAny (model X.prog X.w) X.A (inplaceOp op u w) (fun r s₃=>wpAny (model X.prog X.w) X.A (storeName X.env x r) (fun _=>SP X pins D .next) X.xe s₃) X.xe s₂) X.xe s:=by
  refine thn (he pins s σ H _ I h) fun w s1 ⟨y,H1,I1,r1,q1⟩=>?_
  refine thn (ho pins s1 σ H1 v y u w _ I1 r r1 q1) fun z s2 ⟨zv,H2,I2,r2,q2⟩=>?_
  exact store_ok I2 hN hi hx r2 (fun s3 I3=>⟨_,H2,I3,q2⟩) hf
 rcases l with ⟨hk,hm⟩ | ⟨hk,c,hc,hcell⟩
 ·exact wpAny_loadName_local I.ok.kind hk hn hm go
 ·rcases hk with hk | hk
  ·exact wpAny_loadName_cell I.ok.kind hk hc hcell go
  ·rcases hx with k | k
   ·have:X.env.scope.names.lookup x=some .free:=hk
    rw[k] at this;cases this
   ·have:X.env.scope.names.lookup x=some .free:=hk
    rw[k] at this;cases this
end
section
variable {X:Cx} {pos:Pos}
def tWhile (c:TT)(tb:TS):TS:=fun D σ H=>∃ W:Nat→St→Hp→Prop,(∃ m,W m σ H)∧∀ m σ H,W m σ H→
 c σ H fun b H1=>if b=true then ∃ N:St→Hp→Prop,(∀ σ' H',N σ' H'→∃ m',m'<m∧W m' σ' H')∧tb { D with nx:=N,ct:=N,bk:=D.nx } σ H1 else D.nx σ H1
theorem ps_while {c:Expr}{body:List Stmt}{tc:TT}{tb:TS}(hp:PassesOwn (model X.prog X.w) X.A X.env X.xe)(hc:PT X c tc)(hb:PSs X body tb):PS X (.While c body [] pos) (tWhile tc tb):=by
 refine⟨?_⟩
 intro pins s σ H D I h
 obtain⟨W,⟨m0,w0⟩,turn⟩:=h
 refine wpAny_While (codeAny_whileLoop (fun n s'=>∃ σ' H',Inv X pins σ' H' s'∧W n σ' H') ?_ m0 ⟨σ,H,I,w0⟩)
 rintro n s1 ⟨σ1,H1,I1,w1⟩
 refine wpAny_passesOwn hp (thn (hc pins s1 σ1 H1 _ I1 (turn n σ1 H1 w1)) fun b s2 ⟨H2,I2,q2⟩=>?_)
 cases b with
 | true=>
  obtain⟨N,hN,q2⟩:=q2
  rw[if_pos rfl]
  refine wpAny_passesOwn hp (thn (hb pins s2 σ1 H2 _ I2 q2) fun f s3 q3=>?_)
  cases f with
  | next=>
   obtain⟨σ3,H3,I3,n3⟩:=q3
   obtain⟨m',hm,w3⟩:=hN σ3 H3 n3
   exact⟨m',hm,σ3,H3,I3,w3⟩
  | cont=>
   obtain⟨σ3,H3,I3,n3⟩:=q3
   obtain⟨m',hm,w3⟩:=hN σ3 H3 n3
   exact⟨m',hm,σ3,H3,I3,w3⟩
  | brk=>exact q3
  | ret v=>exact q3
 | false=>
  rw[if_neg Bool.false_ne_true]
  exact wpAny_execs_nil ⟨σ1,H2,I2,q2⟩
end
structure It where
 go:Nat→Hp→Prop
 yld:Nat→Hp→V→Hp→Prop
 stop:Nat→Hp→Prop
def FpOk (X:Cx)(pins:List (Addr×Obj))(H:Hp)(b:Addr):Prop:=
 H b=none∧b≠X.env.locals∧b ∉ X.fs∧(b∈X.ex∨X.s₀.heap.objs.size≤b)∧(∀ x c,X.env.cells.lookup x=some c→c≠b)∧∀ p∈X.pn++pins,p.1≠b
theorem Inv.fpOk {X:Cx}{pins:List (Addr×Obj)}{σ:St}{H H':Hp}{s:Shared}{b:Addr}(I:Inv X pins σ H s)(hb:s.heap.objs.size≤b)(hn:H' b=none):FpOk X pins H' b:=by
 refine⟨hn,Nat.ne_of_gt (Nat.lt_of_lt_of_le I.lt hb),I.nofs hb,.inr (Nat.le_trans I.sz hb),fun x c e z=>?_,fun p hp z=>?_⟩
 ·obtain⟨v,q⟩:=I.cell x c e
  exact absurd (Nat.lt_of_lt_of_le q.lt (by rw[z];exact hb)) (Nat.lt_irrefl _)
 ·exact absurd (Nat.lt_of_lt_of_le (Heap.lt_size (I.pin p hp).1) (by rw[z];exact hb)) (Nat.lt_irrefl _)
structure Turn (P:Program)(w:World)(K:FrQ)(tg:Expr)(J:It)(fp:List Addr)(it:Addr)(tn:Nat→Heap→Prop):Prop where
 mem:it∈fp
 obj:∀ i h,tn i h→∀ b∈fp,∃ o,h.get? b=some o∧∀ v,o.data≠.cell v
 keep:∀ i h h',tn i h→(∀ b∈fp,∀ o,h.get? b=some o→h'.get? b=some o)→tn i h'
 item:∀ (X:Cx),X.prog=P→X.w=w→X.K=K→X.calm=true→∀ (i:Nat) (pins:List (Addr×Obj)) (s:Shared) (σ:St) (H:Hp) (E:Value→Shared→Prop),Inv X pins σ H s→(∀ b∈fp,FpOk X pins H b)→tn i s.heap→J.go i H→
  wpAny (model P w) X.A (pyNext (.ref it)) (fun r s1=>∃ u,r=some u∧
   wpAny (model P w) X.A (letOwnedTupleGo tg (.ref it) u) (fun _ s2=>∃ x H',Inv X pins σ H' s2∧RelV x u∧J.yld i H x H'∧tn (i+1) s2.heap∧∀ b∈fp,H' b=none) E s1) E s
 done:∀ (X:Cx),X.prog=P→X.w=w→X.K=K→X.calm=true→∀ (i:Nat) (pins:List (Addr×Obj)) (s:Shared) (σ:St) (H:Hp) (E:Value→Shared→Prop),Inv X pins σ H s→(∀ b∈fp,FpOk X pins H b)→tn i s.heap→J.stop i H→
  wpAny (model P w) X.A (pyNext (.ref it)) (fun r s1=>r=none∧Inv X pins σ H s1) E s
 self:∀ (A:Around) (i:Nat) (s:Shared) (Q:Value→Shared→Prop) (E:Value→Shared→Prop),tn i s.heap→Q (.ref it) s→wpAny (model P w) A (pyIter (.ref it)) Q E s
abbrev TI:=St→Hp→(It→Hp→Prop)→Prop
def PIE (X:Cx)(pins:List (Addr×Obj))(σ:St)(tg:Expr)(R:It→Hp→Prop)(itv:Value)(s2:Shared):Prop:=
 ∃ (it:Addr) (fp:List Addr) (tn:Nat→Heap→Prop) (J:It) (H':Hp),itv=.ref it∧Inv X pins σ H' s2∧Turn X.prog X.w X.K tg J fp it tn∧tn 0 s2.heap∧(∀ b∈fp,FpOk X pins H' b)∧R J H'
def PI (X:Cx)(tg iter:Expr)(wi:TI):Prop:=
 ∀ (pins:List (Addr×Obj)) (s:Shared) (σ:St) (H:Hp) (R:It→Hp→Prop),Inv X pins σ H s→wi σ H R→
  wpAny (model X.prog X.w) X.A (eval iter X.env) (fun v s1=>wpAny (model X.prog X.w) X.A (pyIter v) (PIE X pins σ tg R) X.xe s1) X.xe s
theorem go_of {M:Model}{A:Around}{E:Value→Shared→Prop}{s:Shared}{tg:Expr}{it:Addr}{u:Value}{o:Obj}{n:String}{vs:Array Value}{Q:Unit→Shared→Prop}(ho:s.heap.get? it=some o)(hc:o.cls=.type n)(hd:o.data=.fields vs)
    (hn:["enumerate","zip","dict_itemiterator","dict_reverseitemiterator","odict_iterator","itertools.zip_longest","itertools.pairwise"].contains n=false) (hQ:Q () s):wpAny M A (letOwnedTupleGo tg (.ref it) u) Q E s:=by
  unfold letOwnedTupleGo
  cases tg <;> first
    | exact wpAny_pure hQ
    | (cases u <;> first
        | exact wpAny_pure hQ
        | (refine wpAny_bind (wpAny_load ho ?_)
           rw[hc,hd]
           show wpAny M A (if (["enumerate","zip","dict_itemiterator","dict_reverseitemiterator","odict_iterator","itertools.zip_longest","itertools.pairwise"].contains n && vs[0]? == some (rawInt _))=true then _ else _) Q E s
           rw[if_neg (by intro h;rw[hn,Bool.false_and] at h;cases h)]
           exact wpAny_pure hQ))
def Itl (K:FrQ)(a:Addr):It:=
 ⟨fun i H=>∃ xs x,SqL K H a xs∧xs[i]?=some x,fun i H x H'=>H'=H∧∀ xs,SqL K H a xs→xs[i]?=some x,fun i H=>∃ xs,SqL K H a xs∧xs.length≤i⟩
def Itr (lo:Int)(n:Nat):It:=⟨fun i _=>i<n,fun i H x H'=>H'=H∧x=.int (lo+i),fun i _=>n≤i⟩
theorem turn_list {P:Program}{w:World}{K:FrQ}{tg:Expr}(a it:Addr):Turn P w K tg (Itl K a) [it] it (fun i h=>h.IsListIter it a i) where
 mem:=by simp
 obj:=fun i h st b hb=>by
  have e:b=it:=by simpa using hb
  subst e
  obtain⟨o,e,c,d⟩:=st
  exact⟨o,e,fun v z=>by rw[d] at z;cases z⟩
 keep:=fun i h h' st k=>st.at fun o e=>k it (by simp) o e
 item:=by
  intro X hP hw hK hc i pins s σ H E I hf st hg
  subst hP hw hK
  obtain⟨xs,x,hq,hx⟩:=hg
  obtain⟨its,rv,p,hz⟩:=I.list hq
  obtain⟨u,hu,ru⟩:=rv.get hx
  obtain⟨f0,f1,f2,f3,f4,f5⟩:=hf it (by simp)
  refine wpAny_pyNext_list_item st p.isList (x:=u) (by simpa using hu) fun h' st' sb=>?_
  have I1:Inv X pins σ H { s with heap:=h' }:=I.turned (t':=s.toks) (fun b o hb e=>(sb.2 b hb).trans e) f0 f1 f3 f4 f5
  obtain⟨o,e,c,d⟩:=id st'
  exact⟨u,rfl,go_of (s:={ s with heap:=h' }) e c d (by decide) ⟨x,H,I1,ru,⟨rfl,fun ys hy=>by rw[I.list_inj hy hq];exact hx⟩,st',fun b hb=>(hf b hb).1⟩⟩
 done:=by
  intro X hP hw hK hc i pins s σ H E I hf st hg
  subst hP hw hK
  obtain⟨xs,hq,hx⟩:=hg
  obtain⟨its,rv,p,hz⟩:=I.list hq
  obtain⟨f0,f1,f2,f3,f4,f5⟩:=hf it (by simp)
  have hl:=rv.length
  exact wpAny_pyNext_list_end (I.ok.hd hc) st p.isList (by simp;omega) fun h' eb=>⟨rfl,I.turned (t':=s.toks) (fun b o hb e=>eb b o hb e) f0 f1 f3 f4 f5⟩
 self:=fun _ _ _ _ _ st h=>wpAny_pyIter_listiter st h
theorem turn_range {P:Program}{w:World}{K:FrQ}{tg:Expr}(it:Addr)(lo:Int)(n:Nat):Turn P w K tg (Itr lo n) [it] it (fun i h=>IsRangeIter h it (lo+(i:Nat)*1) ((n:Int) - (i:Nat)) 1) where
 mem:=by simp
 obj:=fun i h st b hb=>by
  have e:b=it:=by simpa using hb
  subst e
  exact⟨_,st,fun v z=>by
   have z':Data.fields _=Data.cell v:=z
   cases z'⟩
 keep:=fun i h h' st k=>k it (by simp) _ st
 item:=by
  intro X hP hw hK hc i pins s σ H E I hf st hg
  subst hP hw hK
  obtain⟨f0,f1,f2,f3,f4,f5⟩:=hf it (by simp)
  have W:=Walks.range (prog:=X.prog) (w:=X.w) (I.ok.hd hc) it lo 1 n
  refine W.item i s _ _ hg st fun v h' tk hv st' kk=>?_
  obtain⟨t,rfl⟩:=hv
  have I1:Inv X pins σ H { s with heap:=h',toks:=tk }:=I.turned (fun b o hb e=>kk b o (by simpa using hb) e) f0 f1 f3 f4 f5
  refine⟨_,rfl,go_of (s:={ s with heap:=h',toks:=tk }) (n:="range_iterator") st' rfl rfl (by decide) ⟨.int (lo+i),H,I1,⟨t,?_⟩,⟨rfl,rfl⟩,st',fun b hb=>(hf b hb).1⟩⟩
  rw[Int.mul_one]
 done:=by
  intro X hP hw hK hc i pins s σ H E I hf st hg
  subst hP hw hK
  obtain⟨f0,f1,f2,f3,f4,f5⟩:=hf it (by simp)
  exact wpAny_pyNext_range_end (I.ok.hd hc) st (by have:n≤i:=hg;omega) fun h' eb=>⟨rfl,I.turned (t':=s.toks) (fun b o hb e=>eb b o hb e) f0 f1 f3 f4 f5⟩
 self:=fun _ _ _ _ _ st h=>wpAny_pyIter_rangeiter st h
end L2
namespace L2
open PySem PySem.Spec PyProof.Rows
section
variable {X:Cx} {tg:Expr}
def iList (K:FrQ)(tl:TE):TI:=fun σ H R=>tl σ H fun x H1=>∃ a,x=.ref a∧(∃ xs,SqL K H1 a xs)∧R (Itl K a) H1
theorem pi_list {l:Expr}{tl:TE}(hl:PE X l tl):PI X tg l (iList X.K tl):=by
 intro pins s σ H R I h
 refine thn (hl pins s σ H _ I h) fun v s1 ⟨x,H1,I1,r1,q1⟩=>?_
 obtain⟨a,e,⟨xs,hq⟩,q⟩:=q1
 subst e
 cases r1
 obtain⟨its,rv,p,hz⟩:=I1.list hq
 refine wpAny_pyIter_list p.isList ?_
 refine⟨s1.heap.objs.size,[s1.heap.objs.size],_,_,H1,rfl,I1.kept (t':=s1.toks) fun b o e=>Heap.get?_push_of_some _ e,turn_list a _,⟨_,Heap.get?_push_size _ rfl,rfl,rfl⟩,fun b hb=>?_,q⟩
 have e:b=s1.heap.objs.size:=by simpa using hb
 subst e
 exact I1.fpOk (Nat.le_refl _) (I1.hok.fresh (Nat.le_refl _))
theorem range_it {pins:List (Addr×Obj)}{σ:St}{H:Hp}{s:Shared}{R:It→Hp→Prop}{E:Value→Shared→Prop}{lo hi:Int}{t u v:Tok}{tk:Nat}(I:Inv X pins σ H s)(h1:-(2 ^ 62)≤lo)(h2:lo<2 ^ 62)(h3:-(2 ^ 62)≤hi)(h4:hi<2 ^ 62)
  (q:R (Itr lo (hi - lo).toNat) H):wpAny (model X.prog X.w) X.A (pyIter (.ref s.heap.objs.size)) (PIE X pins σ tg R) E { s with heap:=s.heap.push { cls:=.type "range",data:=.fields #[.int lo t,.int hi u,.int 1 v] },toks:=tk }:=by
 refine wpAny_pyIter_range (IsRange.new ..) (small_one h1 h2 h3 h4) ?_
 have I1:Inv X pins σ H { s with heap:=s.heap.push { cls:=.type "range",data:=.fields #[.int lo t,.int hi u,.int 1 v] },toks:=tk }:=I.kept fun b o e=>Heap.get?_push_of_some _ e
 refine⟨(s.heap.push { cls:=.type "range",data:=.fields #[.int lo t,.int hi u,.int 1 v] }).objs.size,[(s.heap.push { cls:=.type "range",data:=.fields #[.int lo t,.int hi u,.int 1 v] }).objs.size],_,_,H,rfl,
  I1.kept (t':=tk) fun b o e=>Heap.get?_push_of_some _ e,turn_range _ lo (hi - lo).toNat,?_,fun b hb=>?_,q⟩
 ·have e1:lo+((0:Nat):Int)*1=lo:=by simp
  have e2:(((hi - lo).toNat:Nat):Int) - ((0:Nat):Int)=Builtin.Range.rangeSize lo hi 1:=by rw[rangeSize_one];split <;> omega
  show IsRangeIter _ _ (lo+((0:Nat):Int)*1) ((((hi - lo).toNat:Nat):Int) - ((0:Nat):Int)) 1
  rw[e1,e2]
  exact Heap.get?_push_size _ rfl
 ·have e:b=(s.heap.push { cls:=.type "range",data:=.fields #[.int lo t,.int hi u,.int 1 v] }).objs.size:=by simpa using hb
  subst e
  exact I1.fpOk (Nat.le_refl _) (I1.hok.fresh (Nat.le_refl _))
def iRng1 (ta:TA):TI:=fun σ H R=>ta σ H fun vs H1=>∃ j:Int,vs=[.int j]∧-(2 ^ 62)≤j∧j<2 ^ 62∧R (Itr 0 j.toNat) H1
def iRng2 (ta:TA):TI:=fun σ H R=>ta σ H fun vs H1=>∃ i j:Int,vs=[.int i,.int j]∧(-(2 ^ 62)≤i∧i<2 ^ 62∧-(2 ^ 62)≤j∧j<2 ^ 62)∧R (Itr i (j - i).toNat) H1
theorem pi_range1 {a:Expr}{ta:TA}{p pos:Pos}(hg:Gl X "range")(hm:X.mg "range"=none)(ha:PA X [a] ta)(hs:starEach [a] X.env=[(false,eval a X.env)]:=by rfl):PI X tg (.Call (.Name "range" p) [a] [] pos) (iRng1 ta):=by
 intro pins s σ H R I h
 refine Call_ (ld_blt I hg hm boot_range (PyProof.Rows.callWith_type1 (thn (ha pos pins s σ H _ I h) fun us s1 ⟨vs,H1,I1,r1,q1⟩=>?_) hs rfl))
 obtain⟨j,e,q1,q2,q⟩:=q1
 subst e
 cases r1 with
 | cons r rr=>
  cases rr
  obtain⟨t,rfl⟩:=r
  exact call_range_1 (range_it I1 (by omega) (by omega) q1 q2 (by simpa using q))
theorem pi_range2 {a b:Expr}{ta:TA}{p pos:Pos}(hg:Gl X "range")(hm:X.mg "range"=none)(ha:PA X [a,b] ta)(hs:starEach [a,b] X.env=[(false,eval a X.env),(false,eval b X.env)]:=by rfl)(hs2:starEach [b] X.env=[(false,eval b X.env)]:=by rfl):
  PI X tg (.Call (.Name "range" p) [a,b] [] pos) (iRng2 ta):=by
 intro pins s σ H R I h
 refine Call_ (ld_blt I hg hm boot_range (PyProof.Rows.callWith_type1 (thn (ha pos pins s σ H _ I h) fun us s1 ⟨vs,H1,I1,r1,q1⟩=>?_) (by rw[hs,hs2]) (by rw[hs2];rfl)))
 obtain⟨i,j,e,⟨q1,q2,q3,q4⟩,q⟩:=q1
 subst e
 cases r1 with
 | cons r rr=>
  cases rr with
  | cons r' rr=>
   cases rr
   obtain⟨t,rfl⟩:=r
   obtain⟨t',rfl⟩:=r'
   exact call_range_2 (range_it I1 q1 q2 q3 q4 q)
def tFor (wi:TI)(g:TG)(tb:TS):TS:=fun D σ H=>wi σ H fun J H1=>∃ W:Nat→Nat→St→Hp→Prop,(∃ m,W 0 m σ H1)∧∀ i m σ H,W i m σ H→
 (J.stop i H∧D.nx σ H)∨(J.go i H∧∃ N:St→Hp→Prop,(∀ σ' H',N σ' H'→∃ m',m'<m∧W (i+1) m' σ' H')∧∀ x H',J.yld i H x H'→g x σ H' fun σ2 H2=>tb { D with nx:=N,ct:=N,bk:=D.nx } σ2 H2)
def pinsAt (fp:List Addr)(h:Heap):List (Addr×Obj):=fp.filterMap fun b=>(h.get? b).map fun o=>(b,o)
theorem mem_pinsAt {fp:List Addr}{h:Heap}{b:Addr}{o:Obj}(hb:b∈fp)(e:h.get? b=some o):(b,o)∈pinsAt fp h:=List.mem_filterMap.mpr ⟨b,hb,by rw[e];rfl⟩
theorem of_pinsAt {fp:List Addr}{h:Heap}{p:Addr×Obj}(hp:p∈pinsAt fp h):p.1∈fp∧h.get? p.1=some p.2:=by
 obtain⟨b,hb,e⟩:=List.mem_filterMap.mp hp
 cases q:h.get? b with
 | none=>rw[q] at e;cases e
 | some o=>
  rw[q] at e
  have e':(b,o)=p:=Option.some.inj e
  subst e'
  exact⟨hb,q⟩
theorem Inv.pinned {pins:List (Addr×Obj)}{σ:St}{H:Hp}{s:Shared}{fp:List Addr}(I:Inv X pins σ H s)(hf:∀ b∈fp,FpOk X pins H b)(ho:∀ b∈fp,∃ o,s.heap.get? b=some o∧∀ v,o.data≠.cell v):Inv X (pins++pinsAt fp s.heap) σ H s:=
 I.pins_of fun p hp=>(List.mem_append.mp hp).elim (fun z=>I.pin p (List.mem_append_right _ z)) fun z=>by
  obtain⟨hb,e⟩:=of_pinsAt z
  obtain⟨f0,f1,f2,_⟩:=hf p.1 hb
  obtain⟨o,e',d⟩:=ho p.1 hb
  rw[e] at e';cases e'
  exact⟨e,f0,f1,f2,d⟩
theorem Inv.unpinned {pins pl:List (Addr×Obj)}{σ:St}{H:Hp}{s:Shared}(I:Inv X (pins++pl) σ H s):Inv X pins σ H s:=I.pins_of fun p hp=>I.pin p (List.mem_append_right _ (List.mem_append_left _ hp))
theorem ps_for {iter:Expr}{body:List Stmt}{wi:TI}{g:TG}{tb:TS}{pos:Pos}(hp:PassesOwn (model X.prog X.w) X.A X.env X.xe)(hc:X.calm=true)(hi:PI X tg iter wi)(hg:PG X tg g)(hb:PSs X body tb)
  (hs:∀ x,foldedSetIterable iter X.env x=pure x:=by intro _;rfl):PS X (.For tg iter body [] pos) (tFor wi g tb):=by
 refine⟨?_⟩
 intro pins s σ H D I h
 refine wpAny_For (thn (hi pins s σ H _ I h) fun v s1 h1=>thn h1 fun itv s2 h2=>?_) hs
 obtain⟨it,fp,tn,J,H2,e,I2,T,st2,f2,W,⟨m0,w0⟩,turn⟩:=h2
 subst e
 have stat:∀ {H':Hp},(∀ b∈fp,H' b=none)→∀ b∈fp,FpOk X pins H' b:=fun hn b hb=>⟨hn b hb,(f2 b hb).2⟩
 refine codeAny_forLoop_any (fun n s'=>∃ i σ' H',Inv X pins σ' H' s'∧tn i s'.heap∧(∀ b∈fp,H' b=none)∧W i n σ' H') ?_ m0 ⟨0,σ,H2,I2,st2,fun b hb=>(f2 b hb).1,w0⟩
 rintro n s3 ⟨i,σ3,H3,I3,st3,fr3,w3⟩
 rcases turn i n σ3 H3 w3 with ⟨stop,qn⟩ | ⟨go,N,hN,step⟩
 ·refine wpAny_passesOwn hp (thn (T.done X rfl rfl rfl hc i pins s3 σ3 H3 X.xe I3 (stat fr3) st3 stop) fun r s4 ⟨hr,I4⟩=>?_)
  subst hr
  exact wpAny_execs_nil ⟨σ3,H3,I4,qn⟩
 ·refine wpAny_passesOwn hp (thn (T.item X rfl rfl rfl hc i pins s3 σ3 H3 X.xe I3 (stat fr3) st3 go) fun r s4 ⟨u,hr,h4⟩=>?_)
  subst hr
  refine wpAny_passesOwn hp (thn h4 fun _ s5 ⟨x,H5,I5,r5,y5,st5,fr5⟩=>?_)
  have I5':=I5.pinned (stat fr5) (T.obj _ _ st5)
  refine wpAny_passesOwn hp (thn (hg _ s5 σ3 H5 x u _ I5' r5 (step x H5 y5)) fun _ s6 ⟨σ6,H6,I6,q6⟩=>?_)
  refine wpAny_passesOwn hp (thn (hb _ s6 σ6 H6 _ I6 q6) fun f s7 q7=>?_)
  have again:∀ {σ7:St} {H7:Hp},Inv X (pins++pinsAt fp s5.heap) σ7 H7 s7→N σ7 H7→∃ m,m<n∧∃ i σ' H',Inv X pins σ' H' s7∧tn i s7.heap∧(∀ b∈fp,H' b=none)∧W i m σ' H':=fun {σ7 H7} I7 n7=>by
   obtain⟨m',hm,w7⟩:=hN σ7 H7 n7
   refine⟨m',hm,i+1,σ7,H7,I7.unpinned,T.keep _ _ _ st5 fun b hb o e=>(I7.pin (b,o) (List.mem_append_right _ (List.mem_append_right _ (mem_pinsAt hb e)))).1,fun b hb=>?_,w7⟩
   obtain⟨o,e,d⟩:=T.obj _ _ st5 b hb
   exact (I7.pin (b,o) (List.mem_append_right _ (List.mem_append_right _ (mem_pinsAt hb e)))).2.1
  cases f with
  | next=>obtain⟨σ7,H7,I7,n7⟩:=q7;exact again I7 n7
  | cont=>obtain⟨σ7,H7,I7,n7⟩:=q7;exact again I7 n7
  | brk=>obtain⟨σ7,H7,I7,q7⟩:=q7;exact⟨σ7,H7,I7.unpinned,q7⟩
  | ret v=>obtain⟨x7,σ7,H7,I7,r7,q7⟩:=q7;exact⟨x7,σ7,H7,I7.unpinned,r7,q7⟩
end
theorem for_list {K:FrQ}{a:Addr}{xs:List V}{g:TG}{tb:TS}{D:Ends}{σ:St}{H:Hp}(Pv:Nat→St→Hp→Prop)(h0:Pv 0 σ H)(hl:∀ i σ H,i≤xs.length→Pv i σ H→SqL K H a xs)
  (hs:∀ i x σ H,xs[i]?=some x→Pv i σ H→g x σ H fun σ2 H2=>tb { D with nx:=Pv (i+1),ct:=Pv (i+1),bk:=D.nx } σ2 H2) (hd:∀ σ H,Pv xs.length σ H→D.nx σ H):
  ∃ W:Nat→Nat→St→Hp→Prop,(∃ m,W 0 m σ H)∧∀ i m σ H,W i m σ H→
   ((Itl K a).stop i H∧D.nx σ H)∨((Itl K a).go i H∧∃ N:St→Hp→Prop,(∀ σ' H',N σ' H'→∃ m',m'<m∧W (i+1) m' σ' H')∧∀ x H',(Itl K a).yld i H x H'→g x σ H' fun σ2 H2=>tb { D with nx:=N,ct:=N,bk:=D.nx } σ2 H2):=by
 refine⟨fun i m σ H=>m=xs.length - i∧i≤xs.length∧Pv i σ H,⟨xs.length,by simp,Nat.zero_le _,h0⟩,?_⟩
 rintro i m σ H ⟨rfl,hi,p⟩
 have q:=hl i σ H hi p
 by_cases hlt:i<xs.length
 ·refine .inr ⟨⟨xs,xs[i],q,by simp[hlt]⟩,Pv (i+1),fun σ' H' p'=>⟨xs.length - (i+1),by omega,rfl,hlt,p'⟩,fun x H' y=>?_⟩
  obtain⟨e,y⟩:=y
  subst e
  exact hs i x σ _ (y xs q) p
 ·have e:i=xs.length:=by omega
  subst e
  exact .inl ⟨⟨xs,q,Nat.le_refl _⟩,hd σ H p⟩
theorem for_range {lo:Int}{n:Nat}{g:TG}{tb:TS}{D:Ends}{σ:St}{H:Hp}(Pv:Nat→St→Hp→Prop)(h0:Pv 0 σ H)
  (hs:∀ i σ H,i<n→Pv i σ H→g (.int (lo+i)) σ H fun σ2 H2=>tb { D with nx:=Pv (i+1),ct:=Pv (i+1),bk:=D.nx } σ2 H2) (hd:∀ σ H,Pv n σ H→D.nx σ H):
  ∃ W:Nat→Nat→St→Hp→Prop,(∃ m,W 0 m σ H)∧∀ i m σ H,W i m σ H→
   ((Itr lo n).stop i H∧D.nx σ H)∨((Itr lo n).go i H∧∃ N:St→Hp→Prop,(∀ σ' H',N σ' H'→∃ m',m'<m∧W (i+1) m' σ' H')∧∀ x H',(Itr lo n).yld i H x H'→g x σ H' fun σ2 H2=>tb { D with nx:=N,ct:=N,bk:=D.nx } σ2 H2):=by
 refine⟨fun i m σ H=>m=n - i∧i≤n∧Pv i σ H,⟨n,by simp,Nat.zero_le _,h0⟩,?_⟩
 rintro i m σ H ⟨rfl,hi,p⟩
 by_cases hlt:i<n
 ·refine .inr ⟨hlt,Pv (i+1),fun σ' H' p'=>⟨n - (i+1),by omega,rfl,hlt,p'⟩,fun x H' y=>?_⟩
  obtain⟨e,y⟩:=y
  subst e y
  exact hs i σ _ hlt p
 ·have e:i=n:=by omega
  subst e
  exact .inl ⟨Nat.le_refl _,hd σ H p⟩
end L2
namespace L2
open PySem PySem.Spec PyProof.Rows
abbrev R2:=V→V→Hp→VK→Prop
def OpR (X:Cx)(f:Value→Value→Sem Value)(r:R2):Prop:=
 ∀ (pins:List (Addr×Obj)) (s:Shared) (σ:St) (H:Hp) (x y:V) (v u:Value) (Q:VK),Inv X pins σ H s→RelV x v→RelV y u→r x y H Q→
  wpAny (model X.prog X.w) X.A (f v u) (EP X pins σ Q) X.xe s
def UnR (X:Cx)(f:Value→Sem Value)(r:V→Hp→VK→Prop):Prop:=
 ∀ (pins:List (Addr×Obj)) (s:Shared) (σ:St) (H:Hp) (x:V) (v:Value) (Q:VK),Inv X pins σ H s→RelV x v→r x H Q→
  wpAny (model X.prog X.w) X.A (f v) (EP X pins σ Q) X.xe s
def CallR (X:Cx)(f:Value)(r:List V→Hp→VK→Prop):Prop:=
 ∀ (pins:List (Addr×Obj)) (s:Shared) (σ:St) (H:Hp) (xs:List V) (us:List Value) (Q:VK),Inv X pins σ H s→Vals xs us→r xs H Q→
  wpAny (model X.prog X.w) X.A (call f us) (EP X pins σ Q) X.xe s
def tOp (r:R2)(ta tb:TE):TE:=fun σ H Q=>ta σ H fun x H1=>tb σ H1 fun y H2=>r x y H2 Q
def tUn (r:V→Hp→VK→Prop)(ta:TE):TE:=fun σ H Q=>ta σ H fun x H1=>r x H1 Q
def rI (C:Int→Int→Prop)(g:Int→Int→V):R2:=fun x y H Q=>∃ i j,x=.int i∧y=.int j∧C i j∧Q (g i j) H
def rI0 (g:Int→Int→V):R2:=fun x y H Q=>∃ i j,x=.int i∧y=.int j∧Q (g i j) H
def rU (g:Int→V):V→Hp→VK→Prop:=fun x H Q=>∃ i,x=.int i∧Q (g i) H
section
variable {X:Cx} {a b c:Expr} {ta tb tc:TE} {pos:Pos}
theorem binT (ha:PE X a ta)(hb:PE X b tb){pins:List (Addr×Obj)}{s:Shared}{σ:St}{H:Hp}{R:V→V→Hp→Prop}(I:Inv X pins σ H s)
  (h:ta σ H fun x H1=>tb σ H1 fun y H2=>R x y H2) {Q:Value→Shared→Prop} {f:Value→Value→Sem Value}
  (hf:∀ v u s2 x y H2,Inv X pins σ H2 s2→RelV x v→RelV y u→R x y H2→wpAny (model X.prog X.w) X.A (f v u) Q X.xe s2):
  wpAny (model X.prog X.w) X.A (eval a X.env) (fun v s₁=>wpAny (model X.prog X.w) X.A (eval b X.env) (fun u s₂=>wpAny (model X.prog X.w) X.A (f v u) Q X.xe s₂) X.xe s₁) X.xe s:=by
 refine thn (ha pins s σ H _ I h) fun v s1 ⟨x,H1,I1,r1,q1⟩=>?_
 refine thn (hb pins s1 σ H1 _ I1 q1) fun u s2 ⟨y,H2,I2,r2,q2⟩=>?_
 exact hf v u s2 x y H2 I2 r1 r2 q2
theorem pe_op {op:Operator}{r:R2}(ho:OpR X (binaryOp op) r)(ha:PE X a ta)(hb:PE X b tb):PE X (.BinOp a op b pos) (tOp r ta tb):=by
 refine⟨?_⟩
 intro pins s σ H Q I h
 exact wpAny_BinOp (binT ha hb I h fun v u s2 x y H2 I2 rx ry q=>ho pins s2 σ H2 x y v u Q I2 rx ry q)
theorem pe_un {op:UnaryOp}{r:V→Hp→VK→Prop}(ho:UnR X (unaryOp op) r)(ha:PE X a ta):PE X (.UnaryOp op a pos) (tUn r ta):=by
 refine⟨?_⟩
 intro pins s σ H Q I h
 exact UnaryOp_ (thn (ha pins s σ H _ I h) fun v s1 ⟨x,H1,I1,r1,q1⟩=>ho pins s1 σ H1 x v Q I1 r1 q1)
theorem opI {f:Value→Value→Sem Value}{C:Int→Int→Prop}{g:Int→Int→Int}
  (rule:∀ (i j:Int) (t u:Tok) (s:Shared) (Q:Value→Shared→Prop) (E:Value→Shared→Prop),C i j→Q (.int (g i j) s.toks) { s with toks:=s.toks+1 }→wpAny (model X.prog X.w) X.A (f (.int i t) (.int j u)) Q E s):
  OpR X f (rI C fun i j=>.int (g i j)):=by
 intro pins s σ H x y v u Q I rx ry h
 obtain⟨i,j,rfl,rfl,hc,q⟩:=h
 obtain⟨t,rfl⟩:=rx
 obtain⟨t',rfl⟩:=ry
 exact rule i j t t' s _ _ hc ⟨.int (g i j),H,I.tok _,⟨_,rfl⟩,q⟩
theorem opI0 {f:Value→Value→Sem Value}{g:Int→Int→Int}
  (rule:∀ (i j:Int) (t u:Tok) (s:Shared) (Q:Value→Shared→Prop) (E:Value→Shared→Prop),Q (.int (g i j) s.toks) { s with toks:=s.toks+1 }→wpAny (model X.prog X.w) X.A (f (.int i t) (.int j u)) Q E s):
  OpR X f (rI0 fun i j=>.int (g i j)):=by
 intro pins s σ H x y v u Q I rx ry h
 obtain⟨i,j,rfl,rfl,q⟩:=h
 obtain⟨t,rfl⟩:=rx
 obtain⟨t',rfl⟩:=ry
 exact rule i j t t' s _ _ ⟨.int (g i j),H,I.tok _,⟨_,rfl⟩,q⟩
theorem opB0 {f:Value→Value→Sem Value}{g:Int→Int→Bool}
  (rule:∀ (i j:Int) (t u:Tok) (s:Shared) (Q:Value→Shared→Prop) (E:Value→Shared→Prop),Q (.bool (g i j)) s→wpAny (model X.prog X.w) X.A (f (.int i t) (.int j u)) Q E s):
  OpR X f (rI0 fun i j=>.bl (g i j)):=by
 intro pins s σ H x y v u Q I rx ry h
 obtain⟨i,j,rfl,rfl,q⟩:=h
 obtain⟨t,rfl⟩:=rx
 obtain⟨t',rfl⟩:=ry
 exact rule i j t t' s _ _ ⟨.bl (g i j),H,I,rfl,q⟩
def CPow (i j:Int):Prop:=0≤j∧j≤1000000∧i.natAbs<2 ^ 64
def CMul (i j:Int):Prop:=(-(2 ^ 64)<i∧i<2 ^ 64)∨(-(2 ^ 64)<j∧j<2 ^ 64)
theorem op_add:OpR X (binaryOp .Add) (rI0 fun i j=>.int (i+j)):=opI0 fun _ _ _ _ _ _ _ q=>add_int q
theorem op_sub:OpR X (binaryOp .Sub) (rI0 fun i j=>.int (i - j)):=opI0 fun _ _ _ _ _ _ _ q=>sub_int q
theorem op_modN:OpR X (binaryOp .Mod) (rI (fun _ j=>j≠0) fun i j=>.int (i.fmod j)):=opI fun _ _ _ _ _ _ _ hc q=>mod_int' hc q
theorem op_pow:OpR X (binaryOp .Pow) (rI CPow fun i j=>.int (i ^ j.toNat)):=opI fun _ _ _ _ _ _ _ hc q=>pow_int_small hc.1 hc.2.1 hc.2.2 q
theorem iop_sub:OpR X (inplaceOp .Sub) (rI0 fun i j=>.int (i - j)):=opI0 fun _ _ _ _ _ _ _ q=>isub_int q
theorem unI {f:Value→Sem Value}{g:Int→Int}
  (rule:∀ (i:Int) (t:Tok) (s:Shared) (Q:Value→Shared→Prop) (E:Value→Shared→Prop),Q (.int (g i) s.toks) { s with toks:=s.toks+1 }→wpAny (model X.prog X.w) X.A (f (.int i t)) Q E s):
  UnR X f (rU fun i=>.int (g i)):=by
 intro pins s σ H x v Q I rx h
 obtain⟨i,rfl,q⟩:=h
 obtain⟨t,rfl⟩:=rx
 exact rule i t s _ _ ⟨.int (g i),H,I.tok _,⟨_,rfl⟩,q⟩
theorem un_neg:UnR X (unaryOp .USub) (rU fun i=>.int (-i)):=unI fun _ _ _ _ _ q=>neg_int q
end
def scal:V→V→Bool
 | .non,.non=>true | .non,.int _=>true | .int _,.non=>true | .non,.bl _=>true | .bl _,.non=>true | .non,.str _=>true | .str _,.non=>true
 | .int _,.int _=>true | .bl _,.bl _=>true | .str _,.str _=>true | .byt _,.byt _=>true
 | .int _,.str _=>true | .str _,.int _=>true | .bl _,.str _=>true | .str _,.bl _=>true
 | _,_=>false
def rEq:R2:=fun x y H Q=>scal x y=true∧Q (.bl (decide (x=y))) H
def rNe:R2:=fun x y H Q=>scal x y=true∧Q (.bl (!decide (x=y))) H
theorem dec_int {i j:Int}:decide (V.int i=V.int j)=(i == j):=by
 rw[Bool.eq_iff_iff]
 simp
theorem dec_bl {i j:Bool}:decide (V.bl i=V.bl j)=(i == j):=by
 rw[Bool.eq_iff_iff]
 simp
theorem dec_str {i j:Str}:decide (V.str i=V.str j)=(i == j):=by
 rw[Bool.eq_iff_iff]
 simp
theorem dec_byt {i j:Array UInt8}:decide (V.byt i=V.byt j)=(i.toList == j.toList):=by
 rw[Bool.eq_iff_iff]
 cases i
 cases j
 simp
section
variable {X:Cx} {a b c:Expr} {ta tb tc:TE} {pos:Pos}
theorem fin_bl {pins:List (Addr×Obj)}{σ:St}{H:Hp}{s:Shared}{Q:VK}{k k':Bool}(I:Inv X pins σ H s)(q:Q (.bl k) H)(e:k=k'):EP X pins σ Q (.bool k') s:=by
 subst e
 exact⟨.bl k,H,I,rfl,q⟩
theorem op_eq:OpR X (compareOp .Eq) rEq:=by
 intro pins s σ H x y v u Q I rx ry h
 obtain⟨hs,q⟩:=h
 cases x with
 | non=>
  cases rx
  cases y with
  | non=>cases ry;exact PySem.EqNone.eq_none_none (fin_bl I q (by simp))
  | bl j=>cases ry;exact PySem.EqNone.eq_none_bool (fin_bl I q (by simp))
  | int j=>obtain⟨t',rfl⟩:=ry;exact PySem.EqNone.eq_none_int (fin_bl I q (by simp))
  | str j=>obtain⟨t',rfl⟩:=ry;exact PySem.EqNone.eq_none_str (fin_bl I q (by simp))
  | _=>exact absurd (show false=true from hs) Bool.false_ne_true
 | bl i=>
  cases rx
  cases y with
  | non=>cases ry;exact PySem.EqNone.eq_bool_none (fin_bl I q (by simp))
  | bl j=>cases ry;exact eq_bool (fin_bl I q dec_bl)
  | str j=>obtain⟨t',rfl⟩:=ry;exact PySem.EqMixed.eq_bool_str (fin_bl I q (by simp))
  | _=>exact absurd (show false=true from hs) Bool.false_ne_true
 | int i=>
  obtain⟨t,rfl⟩:=rx
  cases y with
  | non=>cases ry;exact PySem.EqNone.eq_int_none (fin_bl I q (by simp))
  | int j=>obtain⟨t',rfl⟩:=ry;exact eq_int (fin_bl I q dec_int)
  | str j=>obtain⟨t',rfl⟩:=ry;exact PySem.EqMixed.eq_int_str (fin_bl I q (by simp))
  | _=>exact absurd (show false=true from hs) Bool.false_ne_true
 | str i=>
  obtain⟨t,rfl⟩:=rx
  cases y with
  | non=>cases ry;exact PySem.EqNone.eq_str_none (fin_bl I q (by simp))
  | bl j=>cases ry;exact PySem.EqMixed.eq_str_bool (fin_bl I q (by simp))
  | int j=>obtain⟨t',rfl⟩:=ry;exact PySem.EqMixed.eq_str_int (fin_bl I q (by simp))
  | str j=>obtain⟨t',rfl⟩:=ry;exact eq_str (fin_bl I q dec_str)
  | _=>exact absurd (show false=true from hs) Bool.false_ne_true
 | byt i=>
  obtain⟨t,rfl⟩:=rx
  cases y with
  | byt j=>obtain⟨t',rfl⟩:=ry;exact PySem.W.eq_bytes (fin_bl I q dec_byt)
  | _=>exact absurd (show false=true from hs) Bool.false_ne_true
 | _=>cases y <;> exact absurd (show false=true from hs) Bool.false_ne_true
theorem op_ne:OpR X (compareOp .NotEq) rNe:=by
 intro pins s σ H x y v u Q I rx ry h
 obtain⟨hs,q⟩:=h
 cases x with
 | non=>
  cases rx
  cases y with
  | non=>cases ry;exact PySem.EqNone.ne_none_none (fin_bl I q (by simp))
  | bl j=>cases ry;exact PySem.EqNone.ne_none_bool (fin_bl I q (by simp))
  | int j=>obtain⟨t',rfl⟩:=ry;exact PySem.EqNone.ne_none_int (fin_bl I q (by simp))
  | str j=>obtain⟨t',rfl⟩:=ry;exact PySem.EqNone.ne_none_str (fin_bl I q (by simp))
  | _=>exact absurd (show false=true from hs) Bool.false_ne_true
 | bl i=>
  cases rx
  cases y with
  | non=>cases ry;exact PySem.EqNone.ne_bool_none (fin_bl I q (by simp))
  | bl j=>cases ry;exact ne_bool (fin_bl I q (congrArg not dec_bl))
  | str j=>obtain⟨t',rfl⟩:=ry;exact PySem.EqMixed.ne_bool_str (fin_bl I q (by simp))
  | _=>exact absurd (show false=true from hs) Bool.false_ne_true
 | int i=>
  obtain⟨t,rfl⟩:=rx
  cases y with
  | non=>cases ry;exact PySem.EqNone.ne_int_none (fin_bl I q (by simp))
  | int j=>obtain⟨t',rfl⟩:=ry;exact ne_int (fin_bl I q (congrArg not dec_int))
  | str j=>obtain⟨t',rfl⟩:=ry;exact PySem.EqMixed.ne_int_str (fin_bl I q (by simp))
  | _=>exact absurd (show false=true from hs) Bool.false_ne_true
 | str i=>
  obtain⟨t,rfl⟩:=rx
  cases y with
  | non=>cases ry;exact PySem.EqNone.ne_str_none (fin_bl I q (by simp))
  | bl j=>cases ry;exact PySem.EqMixed.ne_str_bool (fin_bl I q (by simp))
  | int j=>obtain⟨t',rfl⟩:=ry;exact PySem.EqMixed.ne_str_int (fin_bl I q (by simp))
  | str j=>obtain⟨t',rfl⟩:=ry;exact ne_str (fin_bl I q (congrArg not dec_str))
  | _=>exact absurd (show false=true from hs) Bool.false_ne_true
 | byt i=>
  obtain⟨t,rfl⟩:=rx
  cases y with
  | byt j=>obtain⟨t',rfl⟩:=ry;exact PySem.W.ne_bytes (fin_bl I q (congrArg not dec_byt))
  | _=>exact absurd (show false=true from hs) Bool.false_ne_true
 | _=>cases y <;> exact absurd (show false=true from hs) Bool.false_ne_true
theorem op_lt:OpR X (compareOp .Lt) (rI0 fun i j=>.bl (decide (i<j))):=opB0 fun _ _ _ _ _ _ _ q=>lt_int q
theorem op_le:OpR X (compareOp .LtE) (rI0 fun i j=>.bl (decide (i≤j))):=opB0 fun _ _ _ _ _ _ _ q=>le_int q
theorem op_gt:OpR X (compareOp .Gt) (rI0 fun i j=>.bl (decide (j<i))):=opB0 fun _ _ _ _ _ _ _ q=>gt_int q
theorem op_ge:OpR X (compareOp .GtE) (rI0 fun i j=>.bl (decide (j≤i))):=opB0 fun _ _ _ _ _ _ _ q=>ge_int q
theorem nomark (b:Expr){op:CmpOp}(h:op≠.In:=by decide)(h2:op≠.NotIn:=by decide):behindInMarks op b=false:=by
 have e1:(op == CmpOp.In)=false:=by cases op <;> first|rfl|exact absurd rfl h
 have e2:(op == CmpOp.NotIn)=false:=by cases op <;> first|rfl|exact absurd rfl h2
 cases b <;> simp[behindInMarks,e1,e2]
theorem pe_cmpR {op:CmpOp}{r:R2}(ho:OpR X (compareOp op) r)(ha:PE X a ta)(hb:PE X b tb)(hm:behindInMarks op b=false):PE X (.Compare a [op] [b] pos) (tOp r ta tb):=by
 refine⟨?_⟩
 intro pins s σ H Q I h
 exact wpAny_Compare1 (binT ha hb I h fun v u s2 x y H2 I2 rx ry q=>ho pins s2 σ H2 x y v u Q I2 rx ry q) hm
def tTest (t:TE):TT:=fun σ H Q=>t σ H fun x H'=>∃ k,x=.bl k∧Q k H'
theorem pt_cmpR {op:CmpOp}{r:R2}(ho:OpR X (compareOp op) r)(ha:PE X a ta)(hb:PE X b tb)(hm:behindInMarks op b=false):PT X (.Compare a [op] [b] pos) (tTest (tOp r ta tb)):=by
 refine⟨?_⟩
 intro pins s σ H Q I h
 refine wpAny_isTrue_Compare1 (thn (ha pins s σ H _ I h) fun v s1 ⟨x,H1,I1,r1,q1⟩=>thn (hb pins s1 σ H1 _ I1 q1) fun u s2 ⟨y,H2,I2,r2,q2⟩=>
  thn (ho pins s2 σ H2 x y v u _ I2 r1 r2 q2) fun c s3 ⟨z,H3,I3,r3,k,e,q3⟩=>?_) hm
 subst e
 cases r3
 exact wpAny_truthy_bool ⟨H3,I3,q3⟩
def tChain (r r':R2)(ta tb tc:TE):TE:=fun σ H Q=>ta σ H fun x H1=>tb σ H1 fun y H2=>r x y H2 fun z H3=>∃ k,z=.bl k∧
 (if k=true then tc σ H3 fun w' H4=>r' y w' H4 Q else Q (.bl false) H3)
theorem pe_chain {op op':CmpOp}{r r':R2}(ho:OpR X (compareOp op) r)(ho':OpR X (compareOp op') r')(ha:PE X a ta)(hb:PE X b tb)(hc:PE X c tc)
  (hm:lastMarks [op,op'] [b,c]=false:=by with_unfolding_all rfl):PE X (.Compare a [op,op'] [b,c] pos) (tChain r r' ta tb tc):=by
 refine⟨?_⟩
 intro pins s σ H Q I h
 refine Compare_chain (thn (ha pins s σ H _ I h) fun v s1 ⟨x,H1,I1,r1,q1⟩=>chain_link (thn (hb pins s1 σ H1 _ I1 q1) fun u s2 ⟨y,H2,I2,r2,q2⟩=>
  thn (ho pins s2 σ H2 x y v u _ I2 r1 r2 q2) fun d s3 ⟨z,H3,I3,r3,k,e,q3⟩=>?_)) hm
 subst e
 cases r3
 refine wpAny_truthy_bool ?_
 cases k with
 | false=>exact ite_ff ⟨.bl false,H3,I3,rfl,q3⟩
 | true=>exact ite_tt (chain_last (thn (hc pins s3 σ H3 _ I3 q3) fun w' s4 ⟨z',H4,I4,r4,q4⟩=>ho' pins s4 σ H4 y z' u w' Q I4 r2 r4 q4))
theorem line63:(sizeLine:Nat)<2 ^ 63:=by rw[sizeLine_eq];decide
theorem vals1 {x:V}{us:List Value}(r:Vals [x] us):∃ u,us=[u]∧RelV x u:=by
 cases r with
 | cons r1 r2=>cases r2;exact⟨_,rfl,r1⟩
theorem vals2 {x y:V}{us:List Value}(r:Vals [x,y] us):∃ u w',us=[u,w']∧RelV x u∧RelV y w':=by
 cases r with
 | cons r1 r2=>
  cases r2 with
  | cons r3 r4=>cases r4;exact⟨_,_,rfl,r1,r3⟩
theorem call_abs:CallR X (.builtin "abs") (fun xs H Q=>∃ i,xs=[.int i]∧Q (.int (if i<0 then -i else i)) H):=by
 intro pins s σ H xs us Q I r h
 obtain⟨i,rfl,q⟩:=h
 obtain⟨u,rfl,t,rfl⟩:=vals1 r
 exact call_abs_int fun u tk=>⟨.int (if i<0 then -i else i),H,I.tok _,⟨_,rfl⟩,q⟩
theorem call_max2 (hc:X.calm=true):CallR X (.builtin "max") (fun xs H Q=>∃ i j,xs=[.int i,.int j]∧Q (.int (if j > i then j else i)) H):=by
 intro pins s σ H xs us Q I r h
 obtain⟨i,j,rfl,q⟩:=h
 obtain⟨u,w',rfl,⟨t,rfl⟩,⟨t',rfl⟩⟩:=vals2 r
 refine max_two_ints (I.ok.hd hc) fun h' tk k=>⟨_,H,I.kept k,?_,q⟩
 by_cases hj:j > i
 ·rw[if_pos hj,if_pos hj];exact⟨_,rfl⟩
 ·rw[if_neg hj,if_neg hj];exact⟨_,rfl⟩
theorem call_min2 (hc:X.calm=true):CallR X (.builtin "min") (fun xs H Q=>∃ i j,xs=[.int i,.int j]∧Q (.int (if j<i then j else i)) H):=by
 intro pins s σ H xs us Q I r h
 obtain⟨i,j,rfl,q⟩:=h
 obtain⟨u,w',rfl,⟨t,rfl⟩,⟨t',rfl⟩⟩:=vals2 r
 refine min_two_ints (I.ok.hd hc) fun h' tk k=>⟨_,H,I.kept k,?_,q⟩
 by_cases hj:j<i
 ·rw[if_pos hj,if_pos hj];exact⟨_,rfl⟩
 ·rw[if_neg hj,if_neg hj];exact⟨_,rfl⟩
theorem call_int1:CallR X (.type "int") (fun xs H Q=>(∃ i,xs=[.int i]∧Q (.int i) H)∨∃ k,xs=[.bl k]∧Q (.int (if k then 1 else 0)) H):=by
 intro pins s σ H xs us Q I r h
 rcases h with ⟨i,rfl,q⟩ | ⟨k,rfl,q⟩
 ·obtain⟨u,rfl,t,rfl⟩:=vals1 r
  exact call_int_int ⟨.int i,H,I,⟨_,rfl⟩,q⟩
 ·obtain⟨u,rfl,r1⟩:=vals1 r
  cases r1
  exact call_int_bool ⟨.int (if k then 1 else 0),H,I.tok _,⟨_,rfl⟩,q⟩
end
end L2
namespace L2
open PySem PySem.Spec PyProof.Rows
structure ObjM (h:Heap)(x dx C:Addr)(mA:Str→Option Value):Prop where
 obj:h.get? x=some (PySem.W.instObj C dx)
 ns:h.Ns1 dx mA
 ne:dx≠x
theorem lookIn_ns {h:Heap}{dx:Addr}{mA:Str→Option Value}(n:h.Ns1 dx mA):∃ od,h.get? dx=some od∧∀ name,PySem.W.lookIn name od=some (mA name):=by
 obtain⟨o,es,ep,ho,hd,hk,_,hm⟩:=n
 refine⟨o,ho,fun name=>?_⟩
 have e:=hm name
 unfold nsFind findBy at e
 rw[← Array.find?_toList] at e
 unfold PySem.W.lookIn
 rw[hd]
 dsimp only
 split
 ·rename_i y q
  rw[q] at e
  exact congrArg some e
 ·rename_i q
  rw[q] at e
  have a:es.toList.any (·.refKey)=false:=by
   rw[List.any_eq_false]
   intro y hy
   obtain⟨z,t,hkey⟩:=hk y (Array.mem_toList_iff.mp hy)
   simp[DictEntry.refKey,hkey]
  have a':¬ es.toList.any (·.refKey)=true:=by rw[a];exact Bool.false_ne_true
  rw[if_neg a']
  exact congrArg some e
theorem ObjM.look {h:Heap}{x dx C:Addr}{mA:Str→Option Value}(I:ObjM h x dx C mA):∃ od,PySem.W.InstAt h x (PySem.W.instObj C dx) C (some od)∧∀ name,PySem.W.lookIn name od=some (mA name):=
 let ⟨od,ho,hl⟩:=lookIn_ns I.ns
 ⟨od,⟨I.obj,rfl,rfl,ho⟩,hl⟩
section
variable {prog:Program} {w:World} {A:Around} {E:Value→Shared→Prop} {s:Shared} {K:FrQ} {x dx C f:Addr} {mA:Str→Option Value} {name:Str} {v:Value}
theorem get_map {expr:Bool}{Q:Value→Shared→Prop}(X:K.In s.heap)(I:ObjM s.heap x dx C mA)(hg:PySem.W.plainGet K C name=true)(hh:PySem.W.hasDictIn K C=true)
  (ha:PySem.W.findIn K (.ref C) name=some none) (hv:mA name=some v) (hv':PySem.W.handedIn v=true) (h:Q v { s with toks:=s.toks+1 }):
  wpAny (model prog w) A (getAttr (.ref x) name expr) Q E s:=by
 obtain⟨od,J,hl⟩:=I.look
 exact PySem.W.get_value X J (PySem.W.plainGet_of hg).1 (PySem.W.findObj_own hh ha rfl (by rw[hl,hv])) hv' h
theorem get_meth {pl:Sem Bool}{Q:Value×List Value→Shared→Prop}(X:K.In s.heap)(I:ObjM s.heap x dx C mA)(hg:PySem.W.plainGet K C name=true)
  (hf:PySem.W.findIn K (.ref C) name=some (some (.ref f))) (ht:PySem.W.isFn K (.ref f)=true) (hv:mA name=none) (h:Q (.ref f,[.ref x]) s):
  wpAny (model prog w) A (getMethod (.ref x) name pl) Q E s:=by
 obtain⟨od,J,hl⟩:=I.look
 exact PySem.W.method_fn X J (PySem.W.plainGet_of hg).1 (PySem.W.plainGet_of hg).2 hf (beq_iff_eq.mp ht) (by show (PySem.W.lookIn name od).map (·.isSome)=some false;rw[hl,hv];rfl) h
theorem set_map {ns:List Str}{Q:Unit→Shared→Prop}(X:K.In s.heap)(I:ObjM s.heap x dx C mA)
  (hs:PySem.W.findIn K (.ref C) "__setattr__"=some (some (.builtin "object.__setattr__"))) (hp:PySem.W.plainOver K C=true) (ht:PySem.W.takerIn K C name=some none) (hh:PySem.W.hasDictIn K C=true)
  (hw:PySem.Within mA ns) (hsz:ns.length≤sizeLine)
  (h:∀ h',ObjM h' x dx C (fun y=>if y=name then some v else mA y)→Heap.SameBut dx s.heap h'→Q () { s with heap:=h',toks:=s.toks+2 }):
  wpAny (model prog w) A (setAttr (.ref x) name v) Q E s:=by
 obtain⟨od,J,hl⟩:=I.look
 refine PySem.W.set_plain X J hs (PySem.W.osa_open (s:={ s with toks:=s.toks+1 }) (r:=none) X J hp ht fun b=>?_)
 obtain⟨cd,hc,hd'⟩:=PySem.W.any_some hh
 have hx:s.heap.get? x=some ⟨.ref C,some dx,.plain,#[]⟩:=I.obj
 refine wpAny_bind (wpAny_pure (wpAny_bind (wpAny_bind (wpAny_loadPart hx (wpAny_bind (PySem.W.Looks.here (s:={ s with toks:=s.toks+1 }) (PySem.W.looks_clsIn X hc) ?_))))))
 rw[hd']
 refine wpAny_pure (a:=some dx) (wpAny_bind (wpAny_pure (wpAny_bind ?_)))
 refine wpAny_nsSet1 (s:={ s with toks:=s.toks+1 }) I.ns fun h' hn2 hs2=>?_
 obtain⟨oD,esD,epD,hoD,hdD,hcD⟩:=hn2.count (PySem.Within.cons name v hw)
 refine wpAny_bind (wpAny_lookBehind hoD (by rw[hdD];exact pastItsLine_dict (Nat.le_trans hcD (by rw[List.length_cons];omega))) ?_)
 exact wpAny_pure (h _ ⟨(hs2.2 _ (Ne.symm I.ne)).trans I.obj,hn2,I.ne⟩ hs2)
theorem make_map {R:Result→Shared→Prop}{vs:List Value}{kw:List (Str×Value)}(X:K.In s.heap)(hm:PySem.W.makesIn K C=true)
  (hi:PySem.W.findIn K (.ref C) "__init__"=some (some (.ref f))) (hf:PySem.W.typeIn K (.ref f)=some (.type "function"))
  (h:codeAny (model prog w) (A.under (.builtin "type.__call__" ⟨.ref C::vs,kw⟩)) (.call (.ref f) ⟨.ref (s.heap.objs.size+1)::vs,kw⟩) (PySem.W.InitBack (s.heap.objs.size+1) R)
   { s with heap:=(s.heap.push PySem.W.emptyDict).push (PySem.W.instObj C s.heap.objs.size) }):
  codeAny (model prog w) A (.call (.ref C) ⟨vs,kw⟩) R s:=by
 obtain⟨hh,g,d,t,os⟩:=s
 exact PySem.W.make_core (PySem.W.makes_of X hm) (PySem.W.looks_findIn X hi) (fun self=>PySem.W.bind_fn X self hf) (.inl rfl) h
end
def putF (f:Str)(v:V):List (Str×V)→List (Str×V)
 | []=>[(f,v)]
 | (g,x)::r=>if g=f then (g,v)::r else (g,x)::putF f v r
theorem lookup_putF (f g:Str)(v:V):∀ fs:List (Str×V),(putF f v fs).lookup g=if g=f then some v else fs.lookup g
 | []=>by
  show List.lookup g [(f,v)]=_
  by_cases h:g=f
  ·have hb:(g == f)=true:=beq_iff_eq.mpr h
   simp only[List.lookup,hb,if_pos h]
  ·have hb:(g == f)=false:=beq_eq_false_iff_ne.mpr h
   simp only[List.lookup,hb,if_neg h]
 | (k,x)::r=>by
  have ih:=lookup_putF f g v r
  rw[show putF f v ((k,x)::r)=(if k=f then (k,v)::r else (k,x)::putF f v r) from rfl]
  by_cases hk:k=f
  ·rw[if_pos hk]
   by_cases h:g=k
   ·have hb:(g == k)=true:=beq_iff_eq.mpr h
    simp only[List.lookup,hb,if_pos (h.trans hk)]
   ·have hb:(g == k)=false:=beq_eq_false_iff_ne.mpr h
    simp only[List.lookup,hb,if_neg (fun e:g=f=>h (e.trans hk.symm))]
  ·rw[if_neg hk]
   by_cases h:g=k
   ·have hb:(g == k)=true:=beq_iff_eq.mpr h
    simp only[List.lookup,hb,if_neg (fun e:g=f=>hk (h.symm.trans e))]
   ·have hb:(g == k)=false:=beq_eq_false_iff_ne.mpr h
    simp only[List.lookup,hb]
    exact ih
theorem keys_putF (f:Str)(v:V):∀ fs:List (Str×V),f∈(putF f v fs).map (·.1)∧∀ g,g∈fs.map (·.1)→g∈(putF f v fs).map (·.1)
 | []=>⟨by simp[putF],fun g h=>by simp at h⟩
 | (k,x)::r=>by
  obtain⟨i1,i2⟩:=keys_putF f v r
  rw[show putF f v ((k,x)::r)=(if k=f then (k,v)::r else (k,x)::putF f v r) from rfl]
  by_cases hk:k=f
  ·rw[if_pos hk]
   subst hk
   exact⟨by simp,fun g h=>by simpa using h⟩
  ·rw[if_neg hk]
   refine⟨?_,fun g h=>?_⟩
   ·rw[List.map_cons]
    exact List.mem_cons_of_mem _ i1
   ·rw[List.map_cons] at h ⊢
    rcases List.mem_cons.mp h with e | e
    ·exact List.mem_cons.mpr (.inl e)
    ·exact List.mem_cons_of_mem _ (i2 g e)
theorem length_putF (f:Str)(v:V):∀ fs:List (Str×V),(putF f v fs).length≤fs.length+1
 | []=>by simp[putF]
 | (k,x)::r=>by
  have ih:=length_putF f v r
  rw[show putF f v ((k,x)::r)=(if k=f then (k,v)::r else (k,x)::putF f v r) from rfl]
  by_cases hk:k=f
  ·rw[if_pos hk,List.length_cons,List.length_cons];omega
  ·rw[if_neg hk,List.length_cons,List.length_cons];omega
theorem RelO.some_of {v:V}{o:Option Value}(r:RelO (some v) o):∃ u,o=some u∧RelV v u:=by
 cases o with
 | none=>exact (show False from r).elim
 | some u=>exact⟨u,rfl,r⟩
theorem RelO.none_of {o:Option Value}(r:RelO none o):o=none:=by
 cases o with
 | none=>rfl
 | some u=>exact (show False from r).elim
theorem handed_of {v:V}{u:Value}(r:RelV v u):PySem.W.handedIn u=true:=by
 cases v with
 | non=>cases (show u=Value.none from r);rfl
 | bl b=>cases (show u=Value.bool b from r);rfl
 | int i=>obtain⟨t,e⟩:=(show ∃ t,u=Value.int i t from r);cases e;rfl
 | str x=>obtain⟨t,e⟩:=(show ∃ t,u=Value.str x t from r);cases e;rfl
 | byt b=>obtain⟨t,e⟩:=(show ∃ t,u=Value.bytes b t from r);cases e;rfl
 | flt b=>obtain⟨t,e⟩:=(show ∃ t,u=Value.float b t from r);cases e;rfl
 | ref a=>cases (show u=Value.ref a from r);rfl
 | ty n=>cases (show u=Value.type n from r);rfl
section
variable {P:Program} {w:World} {H H':Hp} {h h':Heap} {a C dx:Addr} {fs fs':List (Str×V)}
theorem ins_get (hok:HOk P w H h)(e:H a=some (.ins C dx fs)):∃ mA,ObjM h a dx C mA∧(∀ f,RelO (fs.lookup f) (mA f))∧PySem.Within mA (fs.map (·.1))∧fs.length≤1000∧H dx=some (.own a):=by
 obtain⟨d,z,ne,ob,mA,n,r,q⟩:=(show ObjOk P w H h a (.ins C dx fs) from hok a _ e)
 exact⟨mA,⟨ob,n,ne⟩,r,q,z,d⟩
end
structure Cls (K:FrQ)(C:Addr):Prop where
 pg:PySem.W.plainGet K C Str.empty=true
 hd:PySem.W.hasDictIn K C=true
 po:PySem.W.plainOver K C=true
 sa:PySem.W.findIn K (.ref C) "__setattr__"=some (some (.builtin "object.__setattr__"))
theorem Cls.get {K:FrQ}{C:Addr}(c:Cls K C)(f:Str):PySem.W.plainGet K C f=true:=c.pg
def NoAttr (K:FrQ)(C:Addr)(f:Str):Prop:=PySem.W.findIn K (.ref C) f=some none
theorem NoAttr.taker {K:FrQ}{C:Addr}{f:Str}(n:NoAttr K C f):PySem.W.takerIn K C f=some none:=by
 unfold PySem.W.takerIn
 rw[show PySem.W.findIn K (.ref C) f=some none from n]
 rfl
structure Con (K:FrQ)(C:Addr)(f:Str)(v:V)(u:Value):Prop where
 at_:PySem.W.findIn K (.ref C) f=some (some u)
 rel:RelV v u
 get:PySem.W.specialIn K u "__get__"=some none
 cp:PySem.W.copiedNames.contains f=false
structure Meth (K:FrQ)(C:Addr)(m:Str)(f:Addr):Prop where
 at_:PySem.W.findIn K (.ref C) m=some (some (.ref f))
 fn:PySem.W.isFn K (.ref f)=true
 kp:PySem.W.keepIn K (.ref f)=true
section
variable {X:Cx} {pins:List (Addr×Obj)} {σ:St} {H:Hp} {s:Shared} {a C dx:Addr} {fs:List (Str×V)} {f:Str} {v:V} {A:Around} {E:Value→Shared→Prop}
theorem getattr_ok {b:Bool}{Q:Value→Shared→Prop}(I:Inv X pins σ H s)(e:H a=some (.ins C dx fs))(c:Cls X.K C)(n:NoAttr X.K C f)(l:fs.lookup f=some v)
  (h:∀ u s',Inv X pins σ H s'→RelV v u→Q u s'):wpAny (model X.prog X.w) A (getAttr (.ref a) f b) Q E s:=by
 obtain⟨mA,O,r,_,_,_⟩:=ins_get I.hok e
 obtain⟨u,hu,ru⟩:=RelO.some_of (v:=v) (o:=mA f) (by rw[← l];exact r f)
 exact get_map I.kIn O (c.get f) c.hd n hu (handed_of ru) (h u _ (I.tok _) ru)
theorem getmeth_ok {m:Str}{g:Addr}{pl:Sem Bool}{Q:Value×List Value→Shared→Prop}(I:Inv X pins σ H s)(e:H a=some (.ins C dx fs))(c:Cls X.K C)(k:Meth X.K C m g)(l:fs.lookup m=none)
  (h:Q (.ref g,[.ref a]) s):wpAny (model X.prog X.w) A (getMethod (.ref a) m pl) Q E s:=by
 obtain⟨mA,O,r,_,_,_⟩:=ins_get I.hok e
 have hn:mA m=none:=RelO.none_of (by rw[← l];exact r m)
 exact get_meth I.kIn O (c.get m) k.at_ k.fn hn h
theorem setattr_ok {y:V}{u:Value}{Q:Unit→Shared→Prop}(I:Inv X pins σ H s)(e:H a=some (.ins C dx fs))(c:Cls X.K C)(n:NoAttr X.K C f)(hl:fs.length<1000)(ry:RelV y u)
  (h:∀ s',Inv X pins σ (upd H a (.ins C dx (putF f y fs))) s'→Q () s'):wpAny (model X.prog X.w) A (setAttr (.ref a) f u) Q E s:=by
 obtain⟨mA,O,r,wi,_,ho⟩:=ins_get I.hok e
 have hz:(fs.map (·.1)).length≤sizeLine:=by rw[List.length_map,sizeLine_eq];omega
 refine set_map I.kIn O c.sa c.po n.taker c.hd wi hz fun h' O' sb=>h _ ?_
 have hd:∃ o,h'.get? dx=some o:=let ⟨o,_,_,e',_⟩:=O'.ns;⟨o,e'⟩
 refine I.write (x:=a) (e:=dx) (by rw[e];exact True.intro) (.inr ho) (fun b q hb z=>(sb.2 b hb).trans z) hd ?_
 refine⟨by rw[upd_ne O.ne];exact ho,?_,O.ne,O'.obj,_,O'.ns,fun g=>?_,fun g hg=>?_⟩
 ·have:=length_putF f y fs;omega
 ·show RelO ((putF f y fs).lookup g) (if g=f then some u else mA g)
  rw[lookup_putF]
  by_cases q:g=f
  ·rw[if_pos q,if_pos q];exact ry
  ·rw[if_neg q,if_neg q];exact r g
 ·by_cases q:g=f
  ·rw[q];exact (keys_putF f y fs).1
  ·refine (keys_putF f y fs).2 g (wi g fun z=>hg ?_)
   show (if g=f then some u else mA g)=none
   rw[if_neg q];exact z
theorem Inv.made (I:Inv X pins σ H s):Inv X pins σ (upd (upd H s.heap.objs.size (.own (s.heap.objs.size+1))) (s.heap.objs.size+1) (.ins C s.heap.objs.size []))
  { s with heap:=(s.heap.push PySem.W.emptyDict).push (PySem.W.instObj C s.heap.objs.size) }:=by
 have e1:(s.heap.push PySem.W.emptyDict).get? s.heap.objs.size=some PySem.W.emptyDict:=Heap.get?_push_size s.heap rfl
 have e2:((s.heap.push PySem.W.emptyDict).push (PySem.W.instObj C s.heap.objs.size)).get? (s.heap.objs.size+1)=some (PySem.W.instObj C s.heap.objs.size):=by
  have:=Heap.get?_push_size (s.heap.push PySem.W.emptyDict) (o:=PySem.W.instObj C s.heap.objs.size) rfl
  rwa [Heap.size_push] at this
 have e3:(s.heap.push PySem.W.emptyDict).Ns s.heap.objs.size (fun _=>none):=⟨PySem.W.emptyDict,#[],_,e1,rfl,(fun e he=>absurd he (by simp)),fun _=>rfl⟩
 have I1:=I.laid (a:=s.heap.objs.size) (o:=.own (s.heap.objs.size+1)) (h':=s.heap.push PySem.W.emptyDict) (t':=s.toks) (fun b u q=>Heap.get?_push_of_some _ q) (Nat.le_refl _) ⟨_,e1⟩
 refine I1.laid (a:=s.heap.objs.size+1) (o:=.ins C s.heap.objs.size []) (t':=s.toks) (fun b u q=>Heap.get?_push_of_some _ q) (Nat.le_of_eq (Heap.size_push _ _)) ?_
 have ne:s.heap.objs.size≠s.heap.objs.size+1:=Nat.ne_of_lt (Nat.lt_succ_self _)
 refine⟨by rw[upd_ne ne,upd_same],Nat.zero_le _,ne,e2,fun _=>none,(Heap.Ns1.of_empty e3).at fun o q=>Heap.get?_push_of_some _ q,fun _=>True.intro,fun y hy=>absurd rfl hy⟩
theorem attr_of {prog:Program}{w:World}{env:Env}{e:Expr}{f:Str}{pos:Pos}{s:Shared}{Q:Value→Shared→Prop}(hb:attributeBase e f env (eval e env)=eval e env)
  (h:wpAny (model prog w) A (eval e env) (fun o s₁=>wpAny (model prog w) A (getAttr o f true) Q E s₁) E s):wpAny (model prog w) A (eval (.Attribute e f pos) env) Q E s:=
 Attribute_any_ h (by rw[arm_eval_Attribute,hb])
end
def tFld (K:FrQ)(ta:TE)(f:Str):TE:=fun σ H Q=>ta σ H fun x H1=>∃ a C dx fs v,x=.ref a∧H1 a=some (.ins C dx fs)∧Cls K C∧NoAttr K C f∧fs.lookup f=some v∧Q v H1
def sFld (K:FrQ)(ta tv:TE)(f:Str):TS:=fun D σ H=>tv σ H fun y H1=>ta σ H1 fun x H2=>∃ a C dx fs,x=.ref a∧H2 a=some (.ins C dx fs)∧Cls K C∧NoAttr K C f∧fs.length<1000∧
 D.nx σ (upd H2 a (.ins C dx (putF f y fs)))
section
variable {X:Cx} {o e value:Expr} {f:Str} {pos pos' tpos:Pos} {ta tv:TE}
theorem pe_fld (he:PE X e ta)(hb:attributeBase e f X.env (eval e X.env)=eval e X.env):PE X (.Attribute e f pos) (tFld X.K ta f):=by
 refine⟨?_⟩
 intro pins s σ H Q I h
 refine attr_of hb (thn (he pins s σ H _ I h) fun u s1 ⟨x,H1,I1,rx,a,C,dx,fs,v,ex,ea,c,n,l,q⟩=>?_)
 subst ex
 obtain rfl:u=Value.ref a:=rx
 exact getattr_ok I1 ea c n l fun u' s2 I2 ru=>⟨v,H1,I2,ru,q⟩
theorem ps_fld (ha:PE X o ta)(hv:PE X value tv)(hs:swapsWith value (some (.Attribute o f pos')) pos.line X.env=pure false):PS X (.Assign [.Attribute o f pos'] value pos) (sFld X.K ta tv f):=by
 refine⟨?_⟩
 intro pins s σ H D I h
 refine plainObj_wpAny_Assign_Attribute (thn (hv pins s σ H _ I h) fun u s1 ⟨y,H1,I1,ry,q⟩=>thn (ha pins s1 σ H1 _ I1 q) fun ov s2 ⟨x,H2,I2,rx,a,C,dx,fs,ex,ea,c,n,l,q2⟩=>?_) hs
 subst ex
 obtain rfl:ov=Value.ref a:=rx
 exact setattr_ok I2 ea c n l ry fun s3 I3=>⟨σ,_,I3,q2⟩
end
section
variable {X:Cx} {pins:List (Addr×Obj)} {σ:St} {H:Hp} {s:Shared} {A:Around} {E:Value→Shared→Prop} {Q:Value→Shared→Prop} {c:Value} {b:Bool}
inductive TyOf (K:FrQ)(H:Hp):V→Value→Prop where
 | non:TyOf K H .non (.type "NoneType")
 | bl (x:Bool):TyOf K H (.bl x) (.type "bool")
 | int (i:Int):TyOf K H (.int i) (.type "int")
 | str (x:Str):TyOf K H (.str x) (.type "str")
 | flt (x:UInt64):TyOf K H (.flt x) (.type "float")
 | lst {a:Addr} {xs:List V} (e:H a=some (.lst xs)):TyOf K H (.ref a) (.type "list")
 | frz {a:Addr} {o:Obj} {xs:List V} (e:H a=some (.frz o (.lst xs))):TyOf K H (.ref a) (.type "list")
 | tup {a:Addr} {xs:List V} (e:H a=some (.tup xs)):TyOf K H (.ref a) (.type "tuple")
 | dK {a:Addr} {kvs:List (Key×V)} (e:H a=some (.dK kvs)):TyOf K H (.ref a) (.type "dict")
 | dT {a:Addr} {kvs:List (List Key×V)} (e:H a=some (.dT kvs)):TyOf K H (.ref a) (.type "dict")
 | ins {a C dx:Addr} {fs:List (Str×V)} (e:H a=some (.ins C dx fs)) (cl:Cls K C) (ha:PySem.W.findIn K (.ref C) "__class__"=some (some (.builtin "object.__class__")))
   (hn:PySem.W.specialIn K (.builtin "object.__class__") "__get__"=some (some (.builtin "getset_descriptor.__get__"))) (htk:PySem.W.takesIn K (.builtin "object.__class__")=some true)
   (hm:PySem.W.mroIn K C (.type "object")=some true):TyOf K H (.ref a) (.ref C)
end
end L2
namespace L2
open PySem PySem.Spec PyProof.Rows
structure Room (k:Nat)(A:Around):Prop where
 hd:A.handled=none
 dp:A.depth+3*k+5<recursionLimit
 un:A.units+16*k+200<cLine
 gd:A.guards=some []
theorem Room.mono {j k:Nat}{A:Around}(r:Room k A)(h:j≤k):Room j A:=⟨r.hd,by have:=r.dp;omega,by have:=r.un;omega,r.gd⟩
theorem Room.deeper {k:Nat}{A:Around}(r:Room (k+1) A)(env:Env):Room k (A.deeper env):=
 ⟨r.hd,by have:=r.dp;show A.depth+1+3*k+5<_;omega,by have:=r.un;show A.units+3+16*k+200<_;omega,r.gd⟩
theorem make_depth {A:Around}{C:Addr}{us:List Value}{kw:List (Str×Value)}:(A.under (.builtin "type.__call__" ⟨.ref C::us,kw⟩)).depth=A.depth+1:=by
 first|rfl|simp[Around.under,Code.weight,Code.isCreation,Code.isGuard,Code.isCaller,Code.frames,Code.isFrame,guardIds]
theorem make_units {A:Around}{C:Addr}{us:List Value}{kw:List (Str×Value)}:(A.under (.builtin "type.__call__" ⟨.ref C::us,kw⟩)).units=A.units+1:=by
 first|rfl|simp[Around.under,Code.cUnits,Code.frames,Code.isFrame]
theorem Room.make {k:Nat}{A:Around}(r:Room (k+1) A)(C:Addr)(us:List Value)(kw:List (Str×Value)):Room k (A.under (.builtin "type.__call__" ⟨.ref C::us,kw⟩)):=
 ⟨r.hd,by have:=r.dp;rw[make_depth];omega,by have:=r.un;rw[make_units];omega,by first|exact r.gd|simpa [Around.under,Code.guards,Code.isGuard,guardIds] using r.gd⟩
theorem Room.depth {k:Nat}{A:Around}(r:Room k A):A.depth<recursionLimit:=by have:=r.dp;omega
theorem Room.units {k:Nat}{A:Around}(r:Room k A):A.units+64<cLine:=by have:=r.un;omega
def tNil:TA:=fun _ H Q=>Q [] H
def tCons (ta:TE)(tr:TA):TA:=fun σ H Q=>ta σ H fun x H1=>tr σ H1 fun xs H2=>Q (x::xs) H2
section
variable {X:Cx} {e:Expr} {es:List Expr} {te:TE} {t:TA} {pos:Pos}
theorem pa_nil:PA X [] tNil:=⟨fun _ _ _ _ H Q I h=>Calls.spliced_nil ⟨[],H,I,.nil,h⟩⟩
theorem pa_cons (ha:PE X e te)(hr:PA X es t)(hs:starEach (e::es) X.env=(false,eval e X.env)::starEach es X.env:=by rfl):PA X (e::es) (tCons te t):=by
 refine⟨?_⟩
 intro pos pins s σ H Q I h
 rw[hs]
 show wpAny _ _ (spliced ((false,eval e X.env)::backTo pos (starEach es X.env))) _ _ s
 refine Calls.spliced_cons (thn (ha pins s σ H _ I h) fun u s1 ⟨x,H1,I1,r1,q1⟩=>?_)
 exact thn (hr pos pins s1 σ H1 _ I1 q1) fun us s2 ⟨xs,H2,I2,r2,q2⟩=>⟨x::xs,H2,I2,.cons r1 r2,q2⟩
def tTup (t:TA):TE:=fun σ H Q=>t σ H fun xs H1=>xs.length≤sizeLine∧∀ p,H1 p=none→Q (.ref p) (upd H1 p (.tup xs))
def tLst (t:TA):TE:=fun σ H Q=>t σ H fun xs H1=>xs.length≤sizeLine∧∀ p,H1 p=none→Q (.ref p) (upd H1 p (.lst xs))
theorem pe_tup {x1}(h:PA X es t):PE X (.Tuple es x1 pos) (tTup t):=by
 refine⟨?_⟩
 intro pins s σ H Q I hq
 refine wpAny_Tuple_spliced (thn (h pos pins s σ H _ I hq) fun us s1 ⟨xs,H1,I1,r,z,q⟩=>⟨by rw[← r.length];exact z,?_⟩)
 have hf:H1 s1.heap.objs.size=none:=I1.hok.fresh (Nat.le_refl _)
 refine⟨.ref s1.heap.objs.size,upd H1 s1.heap.objs.size (.tup xs),I1.laid (t':=s1.toks) (fun b u e=>Heap.get?_push_of_some _ e) (Nat.le_refl _) ?_,rfl,q _ hf⟩
 exact⟨z,us,r,⟨_,Heap.get?_push_size _ rfl,rfl,_,rfl⟩⟩
theorem pe_lst (h:PA X es t):PE X (.List es pos) (tLst t):=by
 refine⟨?_⟩
 intro pins s σ H Q I hq
 refine wpAny_List_spliced (thn (h pos pins s σ H _ I hq) fun us s1 ⟨xs,H1,I1,r,z,q⟩=>⟨by rw[← r.length];exact z,?_⟩)
 have hf:H1 s1.heap.objs.size=none:=I1.hok.fresh (Nat.le_refl _)
 refine⟨.ref s1.heap.objs.size,upd H1 s1.heap.objs.size (.lst xs),I1.laid (t':=s1.toks) (fun b u e=>Heap.get?_push_of_some _ e) (Nat.le_refl _) ?_,rfl,q _ hf⟩
 exact⟨z,us,0,r,Heap.get?_push_size _ rfl⟩
end
abbrev Sp:=List V→Hp→VK→XK→Prop
abbrev CXT:=List Env→Hp→Shared→XK→Value→Shared→Prop
structure Env0 (P:Program)(w:World)(K:FrQ)(mg:Str→Option Value)(base:Heap)(A:Around)(outer:List Env)(s:Shared)(H:Hp):Prop where
 frames:A.frames=some outer
 mod:Mod K mg base
 bs:∀ b o,base.get? b=some o→s.heap.get? b=some o∧H b=none
 bsz:base.objs.size≤s.heap.objs.size
 funs:s.heap.FunFrames base outer
 frf:∀ b∈frs outer,H b=none
 hok:HOk P w H s.heap
 bare:AllBare s.gens
def CE (outer:List Env)(P:Program)(w:World)(H:Hp)(s:Shared)(Q:VK)(u:Value)(s':Shared):Prop:=
 ∃ v H',s'.os=s.os∧AllBare s'.gens∧Un (frs outer) [] H H' s.heap s'.heap∧HOk P w H' s'.heap∧RelV v u∧Q v H'
def CR (CX:CXT)(outer:List Env)(P:Program)(w:World)(H:Hp)(s:Shared)(Q:VK)(E:XK)(r:Result)(s':Shared):Prop:=
 match r with
 | .ok (.ret u)=>CE outer P w H s Q u s'
 | .ok _=>False
 | .error e=>CX outer H s E e s'
structure FnOk (P:Program)(w:World)(K:FrQ)(mg:Str→Option Value)(base:Heap)(CX:CXT)(k:Nat)(f:Addr)(fd:FuncData)(ps:List Str)(sp:Sp):Prop where
 len:∀ vs H Q E,sp vs H Q E→vs.length=ps.length
 run:∀ (A:Around) (outer:List Env) (s:Shared) (H:Hp) (args:Args) (us:List Value) (vs:List V) (Q:VK) (E:XK),Room k A→Env0 P w K mg base A outer s H→BindsTo s fd args (ps.zip us)→Vals vs us→sp vs H Q E→
  codeAny (model P w) A (.call (.ref f) args) (CR CX outer P w H s Q E) s
theorem FnOk.mono {P:Program}{w:World}{K:FrQ}{mg:Str→Option Value}{base:Heap}{CX:CXT}{j k:Nat}{f:Addr}{fd:FuncData}{ps:List Str}{sp:Sp}(F:FnOk P w K mg base CX j f fd ps sp)(h:j≤k):
  FnOk P w K mg base CX k f fd ps sp:=⟨F.len,fun A outer s H args us vs Q E hr=>F.run A outer s H args us vs Q E (hr.mono h)⟩
theorem FnOk.imp {P:Program}{w:World}{K:FrQ}{mg:Str→Option Value}{base:Heap}{CX:CXT}{k:Nat}{f:Addr}{fd:FuncData}{ps:List Str}{sp sp':Sp}(F:FnOk P w K mg base CX k f fd ps sp)
  (h:∀ vs H Q E,sp' vs H Q E→sp vs H Q E):FnOk P w K mg base CX k f fd ps sp':=
 ⟨fun vs H Q E q=>F.len vs H Q E (h _ _ _ _ q),fun A outer s H args us vs Q E hr he hb hv hs=>F.run A outer s H args us vs Q E hr he hb hv (h _ _ _ _ hs)⟩
theorem Env0.make {P:Program}{w:World}{K:FrQ}{mg:Str→Option Value}{base:Heap}{A:Around}{outer:List Env}{s:Shared}{H:Hp}(e:Env0 P w K mg base A outer s H)(C:Addr)(us:List Value)(kw:List (Str×Value)):
  Env0 P w K mg base (A.under (.builtin "type.__call__" ⟨.ref C::us,kw⟩)) outer s H:=⟨by first|exact e.frames|(simpa [Around.under,Code.envs,Code.isFrame,pushEnvs] using e.frames),e.mod,e.bs,e.bsz,e.funs,e.frf,e.hok,e.bare⟩
section
variable {X:Cx} {pins:List (Addr×Obj)} {σ:St} {H:Hp} {s s':Shared}
theorem Inv.env0 (I:Inv X pins σ H s):Env0 X.prog X.w X.K X.mg X.base X.A X.stack s H:=
 ⟨I.ok.frames,I.ok.mod,I.bs,Nat.le_trans I.ok.bsz I.sz,I.stack,I.stkFree,I.hok,I.bare⟩
theorem Inv.after {Q:VK}{u:Value}(I:Inv X pins σ H s)(h:CE X.stack X.prog X.w H s Q u s'):EP X pins σ Q u s':=by
 obtain⟨v,H',os,bare,un,hok,r,q⟩:=h
 obtain⟨hh,g,d,t,os'⟩:=s'
 obtain rfl:os'=s.os:=os
 exact⟨v,H',I.call (h':=hh) (g':=g) (d':=d) (t':=t) (ch:=[]) un hok bare (fun b z=>absurd z (by simp)),r,q⟩
end
def tCall (sp:Sp)(dvs:List V)(E:XK)(t:TA):TE:=fun σ H Q=>t σ H fun vs H1=>sp (vs++dvs) H1 Q E
def tMake (C:Addr)(sp:Sp)(dvs:List V)(E:XK)(t:TA):TE:=fun σ H Q=>t σ H fun vs H1=>∀ x dx,H1 x=none→H1 dx=none→dx≠x→
 sp (.ref x::(vs++dvs)) (upd (upd H1 dx (.own x)) x (.ins C dx [])) (fun v H2=>v=.non∧Q (.ref x) H2) E
def Binds (K:FrQ)(fd:FuncData)(ps:List Str)(ds:List Value):Prop:=
 ∀ (s:Shared) (us:List Value),K.In s.heap→(us++ds).length=ps.length→BindsTo s fd ⟨us,[]⟩ (ps.zip (us++ds))
theorem Binds.all {K:FrQ}{fd:FuncData}{ps:List Str}(h:∀ us:List Value,us.length=ps.length→bindArgs fd ⟨us,[]⟩=pure (ps.zip us)):Binds K fd ps []:=fun s us _ hl=>by
 rw[List.append_nil] at hl ⊢
 exact .of_eq (h us hl)
def Passes (CX:CXT)(X:Cx)(E:XK):Prop:=∀ (pins:List (Addr×Obj)) (σ:St) (H:Hp) (s:Shared) (e:Value) (s':Shared),Inv X pins σ H s→CX X.stack H s E e s'→X.xe e s'
section
variable {X:Cx} {CX:CXT} {k:Nat} {f C:Addr} {fd:FuncData} {ps:List Str} {sp:Sp} {dvs:List V} {ds:List Value} {E:XK} {x m:Str} {p pos apos:Pos} {e o:Expr} {es:List Expr} {ta:TE} {t:TA}
theorem run_fn {pins:List (Addr×Obj)}{σ:St}{H:Hp}{s:Shared}{Q:VK}{us:List Value}{vs:List V}(F:FnOk X.prog X.w X.K X.mg X.base CX k f fd ps sp)(hr:Room k X.A)(hb:Binds X.K fd ps ds)(hd:Vals dvs ds)(hx:Passes CX X E)
  (I:Inv X pins σ H s) (r:Vals vs us) (h:sp (vs++dvs) H Q E):wpAny (model X.prog X.w) X.A (call (.ref f) us) (EP X pins σ Q) X.xe s:=by
 have r2:Vals (vs++dvs) (us++ds):=r.append hd
 have hl:(us++ds).length=ps.length:=by rw[← r2.length];exact F.len _ _ _ _ h
 refine wpAny_call (codeAny_mono (F.run X.A X.stack s H ⟨us,[]⟩ (us++ds) (vs++dvs) Q E hr I.env0 (hb s us I.kIn hl) r2 h) fun r s' hq=>?_)
 cases r with
 | error e=>exact hx pins σ H s e s' I hq
 | ok fl=>
  cases fl with
  | ret u=>exact I.after hq
  | next=>exact False.elim hq
  | brk=>exact False.elim hq
  | cont=>exact False.elim hq
theorem pe_call (F:FnOk X.prog X.w X.K X.mg X.base CX k f fd ps sp)(hr:Room k X.A)(hg:Gl X x)(hm:X.mg x=some (.ref f))(hk:PySem.W.keepIn X.K (.ref f)=true)(hb:Binds X.K fd ps ds)(hd:Vals dvs ds)(hx:Passes CX X E)
  (ha:PA X (e::es) t) (hdb:(x ==("__debug__":Str))=false:=by decide) (he:starEach (e::es) X.env=(false,eval e X.env)::starEach es X.env:=by rfl) (hpl:(backTo pos (starEach es X.env)).any (·.1)=false:=by rfl):
  PE X (.Call (.Name x p) (e::es) [] pos) (tCall sp dvs E t):=by
 refine⟨?_⟩
 intro pins s σ H Q I h
 refine wpAny_Call_Name_kw (ld_glob I hg hm ?_ hdb)
 refine PySem.W.callWith_K (h₀:=X.base) I.ok.mod.kin hk (thn (ha pos pins s σ H _ I h) fun us s1 ⟨vs,H1,I1,r,q⟩=>⟨I1.kIn,?_⟩) he hpl
 exact run_fn F hr hb hd hx I1 r q
theorem pe_call0 (F:FnOk X.prog X.w X.K X.mg X.base CX k f fd ps sp)(hr:Room k X.A)(hg:Gl X x)(hm:X.mg x=some (.ref f))(hk:PySem.W.keepIn X.K (.ref f)=true)(hb:Binds X.K fd ps ds)(hd:Vals dvs ds)(hx:Passes CX X E)
  (hdb:(x ==("__debug__":Str))=false:=by decide):PE X (.Call (.Name x p) [] [] pos) (tCall sp dvs E tNil):=by
 refine⟨?_⟩
 intro pins s σ H Q I h
 refine wpAny_Call_Name_kw (ld_glob I hg hm ?_ hdb)
 exact PySem.W.callWith_K0 I.kIn hk (run_fn (us:=[]) F hr hb hd hx I .nil h)
structure Mk (K:FrQ)(C f:Addr):Prop where
 makes:PySem.W.makesIn K C=true
 init:PySem.W.findIn K (.ref C) "__init__"=some (some (.ref f))
 fn:PySem.W.isFn K (.ref f)=true
 kp:PySem.W.keepIn K (.ref C)=true
theorem run_make {pins:List (Addr×Obj)}{σ:St}{H:Hp}{s:Shared}{Q:VK}{us:List Value}{vs:List V}(M:Mk X.K C f)(F:FnOk X.prog X.w X.K X.mg X.base CX k f fd ps sp)(hr:Room (k+1) X.A)(hb:Binds X.K fd ps ds)(hd:Vals dvs ds)
  (hx:Passes CX X E) (I:Inv X pins σ H s) (r:Vals vs us)
  (h:∀ x dx,H x=none→H dx=none→dx≠x→sp (.ref x::(vs++dvs)) (upd (upd H dx (.own x)) x (.ins C dx [])) (fun v H2=>v=.non∧Q (.ref x) H2) E):
  wpAny (model X.prog X.w) X.A (call (.ref C) us) (EP X pins σ Q) X.xe s:=by
 have hq:=h (s.heap.objs.size+1) s.heap.objs.size (I.hok.fresh (Nat.le_succ _)) (I.hok.fresh (Nat.le_refl _)) (Nat.ne_of_lt (Nat.lt_succ_self _))
 have I2:=Inv.made (C:=C) I
 have r2:Vals (V.ref (s.heap.objs.size+1)::(vs++dvs)) (Value.ref (s.heap.objs.size+1)::(us++ds)):=.cons rfl (r.append hd)
 have hl:(Value.ref (s.heap.objs.size+1)::us++ds).length=ps.length:=by
  have e:=r2.length
  rw[F.len _ _ _ _ hq] at e
  exact e.symm
 refine wpAny_call (make_map (f:=f) I.kIn M.makes M.init (beq_iff_eq.mp M.fn) (codeAny_mono (F.run _ X.stack _ _ ⟨Value.ref (s.heap.objs.size+1)::us,[]⟩ (Value.ref (s.heap.objs.size+1)::(us++ds)) _ _ E (hr.make C us [])
  (I2.env0.make C us []) (hb _ (Value.ref (s.heap.objs.size+1)::us) I2.kIn hl) r2 hq) fun r s' hq'=>?_))
 cases r with
 | error e=>exact hx pins σ _ _ e s' I2 hq'
 | ok fl=>
  cases fl with
  | ret u=>
   obtain⟨v,H',I3,rv,ev,q3⟩:=I2.after hq'
   subst ev
   exact⟨rv,⟨V.ref (s.heap.objs.size+1),H',I3,rfl,q3⟩⟩
  | next=>exact False.elim hq'
  | brk=>exact False.elim hq'
  | cont=>exact False.elim hq'
theorem pe_make (M:Mk X.K C f)(F:FnOk X.prog X.w X.K X.mg X.base CX k f fd ps sp)(hr:Room (k+1) X.A)(hg:Gl X x)(hm:X.mg x=some (.ref C))(hb:Binds X.K fd ps ds)(hd:Vals dvs ds)(hx:Passes CX X E)
  (ha:PA X (e::es) t) (hdb:(x ==("__debug__":Str))=false:=by decide) (he:starEach (e::es) X.env=(false,eval e X.env)::starEach es X.env:=by rfl) (hpl:(backTo pos (starEach es X.env)).any (·.1)=false:=by rfl):
  PE X (.Call (.Name x p) (e::es) [] pos) (tMake C sp dvs E t):=by
 refine⟨?_⟩
 intro pins s σ H Q I h
 refine wpAny_Call_Name_kw (ld_glob I hg hm ?_ hdb)
 refine PySem.W.callWith_K (h₀:=X.base) I.ok.mod.kin M.kp (thn (ha pos pins s σ H _ I h) fun us s1 ⟨vs,H1,I1,r,q⟩=>⟨I1.kIn,?_⟩) he hpl
 exact run_make M F hr hb hd hx I1 r q
end
def PK (X:Cx)(kws:List Keyword)(t:TA):Prop:=
 ∀ (pos:Pos) (pins:List (Addr×Obj)) (s:Shared) (σ:St) (H:Hp) (Q:List V→Hp→Prop),Inv X pins σ H s→t σ H Q→wpAny (model X.prog X.w) X.A (evalAll ((backToKw pos (keywordEach kws X.env)).map (·.2))) (AP X pins σ Q) X.xe s
section
variable {X:Cx} {CX:CXT} {k:Nat} {f C:Addr} {fd:FuncData} {ps ks:List Str} {sp:Sp} {E:XK} {x m:Str} {p pos apos kpos:Pos} {e o:Expr} {es:List Expr} {kws:List Keyword} {te ta:TE} {t tk:TA} {nm:Option Str}
theorem pk_nil:PK X [] tNil:=fun _ _ _ _ H Q I h=>wpAny_evalAll_nil ⟨[],H,I,.nil,h⟩
theorem pk_cons (ha:PE X e te)(hr:PK X kws t):PK X (⟨nm,e,kpos⟩::kws) (tCons te t):=by
 intro pos pins s σ H Q I h
 show wpAny _ _ (evalAll ((do let v ← eval e X.env;standAt pos;pure v)::(backToKw pos (keywordEach kws X.env)).map (·.2))) _ _ s
 refine wpAny_evalAll_cons (wpAny_bind (thn (ha pins s σ H _ I h) fun u s1 ⟨x,H1,I1,r1,q1⟩=>wpAny_bind (wpAny_standAt (wpAny_pure ?_))))
 exact thn (hr pos pins s1 σ H1 _ I1 q1) fun us s2 ⟨xs,H2,I2,r2,q2⟩=>⟨x::xs,H2,I2,.cons r1 r2,q2⟩
structure KBinds (K:FrQ)(fd:FuncData)(ps ks:List Str)(g:List Value→List Value→List Value)(gV:List V→List V→List V):Prop where
 to:∀ (s:Shared) (us ws:List Value),K.In s.heap→(g us ws).length=ps.length→BindsTo s fd ⟨us,ks.zip ws⟩ (ps.zip (g us ws))
 rel:∀ {vs:List V} {us:List Value} {zs:List V} {ws:List Value},Vals vs us→Vals zs ws→Vals (gV vs zs) (g us ws)
variable {g:List Value→List Value→List Value} {gV:List V→List V→List V}
end
structure FnScope (N P:List Str)(sc:Scope):Prop where
 kind:sc.kind=.function
 co:sc.isCoroutine=false
 gen:sc.isGenerator=false
 nd:N.Nodup
 pre:N.take P.length=P
 par:∀ x∈P,sc.names.lookup x=some .local∨sc.names.lookup x=some .cell
 nofree:∀ y∈sc.names,y.2≠.free
theorem bindL_out {kindOf:Str→Option NameKind}{x:Str}:∀ {binds:List (Str×Value)} {m:Str→Option Value},(∀ v,(x,v) ∉ binds)→bindL kindOf binds m x=m x
 | [],_,_=>rfl
 | (n,v)::r,m,h=>by
  unfold bindL
  rw[bindL_out fun w hw=>h w (List.mem_cons_of_mem _ hw)]
  split
  ·have:x≠n:=by rintro rfl;exact h v List.mem_cons_self
   simp[this]
  ·rfl
theorem bindC_out {kindOf:Str→Option NameKind}{x:Str}:∀ {binds:List (Str×Value)} {m:Str→Option Value},(∀ v,(x,v) ∉ binds)→bindC kindOf binds m x=m x
 | [],_,_=>rfl
 | (n,v)::r,m,h=>by
  unfold bindC
  rw[bindC_out fun w hw=>h w (List.mem_cons_of_mem _ hw)]
  split
  ·rfl
  ·have:x≠n:=by rintro rfl;exact h v List.mem_cons_self
   simp[this]
theorem bindL_get {kindOf:Str→Option NameKind}{x:Str}{v:Value}:∀ {P:List Str} {vs:List Value} {i:Nat} {m:Str→Option Value},P.Nodup→P[i]?=some x→vs[i]?=some v→kindOf x=some .local→
  bindL kindOf (P.zip vs) m x=some v
 | [],_,_,_,_,h,_,_=>by simp at h
 | _::_,[],_,_,_,_,h,_=>by simp at h
 | p::P,w::vs,0,m,nd,h1,h2,hk=>by
  simp at h1 h2;subst h1;subst h2
  show bindL kindOf ((p,w)::P.zip vs) m p=_
  unfold bindL
  rw[bindL_out fun v hv=>(List.nodup_cons.mp nd).1 (List.of_mem_zip hv).1,if_pos hk]
  simp
 | p::P,w::vs,i+1,m,nd,h1,h2,hk=>by
  show bindL kindOf ((p,w)::P.zip vs) m x=_
  unfold bindL
  exact bindL_get (i:=i) (List.nodup_cons.mp nd).2 (by simpa using h1) (by simpa using h2) hk
theorem bindC_get {kindOf:Str→Option NameKind}{x:Str}{v:Value}:∀ {P:List Str} {vs:List Value} {i:Nat} {m:Str→Option Value},P.Nodup→P[i]?=some x→vs[i]?=some v→kindOf x≠some .local→
  bindC kindOf (P.zip vs) m x=some v
 | [],_,_,_,_,h,_,_=>by simp at h
 | _::_,[],_,_,_,_,h,_=>by simp at h
 | p::P,w::vs,0,m,nd,h1,h2,hk=>by
  simp at h1 h2;subst h1;subst h2
  show bindC kindOf ((p,w)::P.zip vs) m p=_
  unfold bindC
  rw[bindC_out fun v hv=>(List.nodup_cons.mp nd).1 (List.of_mem_zip hv).1,if_neg hk]
  simp
 | p::P,w::vs,i+1,m,nd,h1,h2,hk=>by
  show bindC kindOf ((p,w)::P.zip vs) m x=_
  unfold bindC
  exact bindC_get (i:=i) (List.nodup_cons.mp nd).2 (by simpa using h1) (by simpa using h2) hk
def start (N:List Str)(vs:List V):St:=vs.map some++List.replicate (N.length - vs.length) none
def cxOf (CX:CXT)(P:Program)(w:World)(K:FrQ)(mg:Str→Option Value)(base:Heap)(N:List Str)(qual:Str)(scope:Scope)(f:Addr)(cd:Value)(A:Around)(outer:List Env)(s:Shared)(H:Hp)(E:XK):Cx where
 prog:=P
 w:=w
 K:=K
 mg:=mg
 base:=base
 A:=A.deeper (envOfC qual scope s.heap.objs.size f cd)
 N:=N
 s₀:=s
 H₀:=H
 env:=envOfC qual scope s.heap.objs.size f cd
 outer:=outer
 stack:=envOfC qual scope s.heap.objs.size f cd::outer
 ex:=[]
 calm:=true
 fn:=fun _=>true
 pn:=[]
 xe:=fun e s'=>wpAny (model P w) (A.deeper (envOfC qual scope s.heap.objs.size f cd)) (leaving (envOfC qual scope s.heap.objs.size f cd) e) (fun _ s''=>CX outer H s E e s'') (fun e' s''=>CX outer H s E e' s'') s'
theorem cell_has {sc:Scope}{n:Nat}{x:Str}(h:sc.names.lookup x=some .cell):∃ c,(cellsFrom n sc.names []).lookup x=some c:=by
 have q:=PySem.W.cellsFrom_some sc.names n [] (.inl h)
 exact Option.isSome_iff_exists.mp q
theorem inv_start {CX:CXT}{P:Program}{w:World}{K:FrQ}{mg:Str→Option Value}{base:Heap}{N ps:List Str}{qual:Str}{scope:Scope}{f:Addr}{cd:Value}{A:Around}{outer:List Env}{s s1:Shared}{H:Hp}{E:XK}{us:List Value}{vs:List V}
  (S:FnScope N ps scope) (hd:A.handled=none) (e0:Env0 P w K mg base A outer s H) (hl:vs.length=ps.length) (r:Vals vs us)
  (x:InCallC s s.heap.objs.size (bindL (envOfC qual scope s.heap.objs.size f cd).kindOf (ps.zip us) fun _=>none) (cellsFrom (s.heap.objs.size+1) scope.names []) (bindC (envOfC qual scope s.heap.objs.size f cd).kindOf (ps.zip us) fun _=>none) s1):
  Inv (cxOf CX P w K mg base N qual scope f cd A outer s H E) [] (start N vs) H s1:=by
 have hpl:ps.length≤N.length:=by have:=congrArg List.length S.pre;rw[List.length_take] at this;omega
 obtain⟨h1,tk,rfl,hk⟩:=x.done
 have noA:∀ b:Addr,b ∉ (cxOf CX P w K mg base N qual scope f cd A outer s H E).ex:=fun b z=>absurd (show b∈([]:List Addr) from z) (by simp)
 refine⟨⟨e0.mod,S.kind,rfl,rfl,Nat.le_refl _,fun y z c h1 h2=>?_,fun y hy=>?_,fun y c _ h=>?_,fun _=>hd,Around.frames_deeper e0.frames,.inr ⟨rfl,rfl⟩,fun b z=>absurd z (noA b),e0.bs,e0.bsz,fun b _ _=>noA b,fun b z=>absurd z (noA b),e0.funs,e0.frf⟩,
  rfl,e0.bare,Un.kept hk,⟨_,x.toInCall.ns,fun i y v h1 h2 h3=>?_⟩,fun y c h=>⟨_,x.cell y c h⟩,e0.hok.fresh (Nat.le_refl _),fun y c h=>?_,fun p hp=>absurd (show p∈([]:List (Addr×Obj)) from hp) (by simp),e0.hok.kept hk,?_⟩
 ·exact name_of_addr x.apart (PySem.mem_of_lookup h1) (PySem.mem_of_lookup h2)
 ·have hy:scope.names.lookup y=some .cell∨scope.names.lookup y=some .free:=hy
  rcases hy with hy | hy
  ·exact cell_has hy
  ·exact absurd rfl (S.nofree _ (PySem.mem_of_lookup hy))
 ·exact Nat.le_of_lt (x.above y c (PySem.mem_of_lookup h))
 ·have hi:i<vs.length:=by
   unfold start at h2
   by_cases hi:i<vs.length
   ·exact hi
   ·rw[List.getElem?_append_right (by simpa using hi)] at h2
    rw[List.getElem?_replicate] at h2
    split at h2 <;> cases h2
  have ha:vs[i]?=some v:=by
   unfold start at h2
   rw[List.getElem?_append_left (by simpa using hi),List.getElem?_map] at h2
   cases e:vs[i]? with
   | none=>rw[e] at h2;cases h2
   | some a=>rw[e] at h2;cases h2;rfl
  obtain⟨u,hu,rv⟩:=r.get ha
  have hp:ps[i]?=some y:=by
   rw[← S.pre,List.getElem?_take_of_lt (by omega)];exact h1
  have ndP:ps.Nodup:=by rw[← S.pre];exact S.nd.sublist (List.take_sublist _ _)
  refine⟨u,rv,?_⟩
  rcases S.par y (List.mem_of_getElem? hp) with k | k
  ·exact .inl ⟨k,bindL_get ndP hp hu k⟩
  ·obtain⟨c,e⟩:=cell_has (n:=s.heap.objs.size+1) k
   refine .inr ⟨.inl k,c,e,?_⟩
   have q:=x.cell y c e
   rw[bindC_get ndP hp hu (by show scope.names.lookup y≠_;rw[k];decide)] at q
   exact q
 ·exact e0.hok.fresh (Nat.le_of_lt (x.above y c (PySem.mem_of_lookup h)))
 ·unfold start
  show _=N.length
  rw[List.length_append,List.length_map,List.length_replicate]
  omega
theorem fn_of {CX:CXT}{P:Program}{w:World}{K:FrQ}{mg:Str→Option Value}{base:Heap}{k:Nat}{f:Addr}{name qual:Str}{params:Arguments}{body:List Stmt}{scope:Scope}{dV kV doc pm cdv ct oc:Value}{an od:Option Addr}
  {osl:Array (Option Value)} {N ps:List Str} {sp:Sp} (lk:K.lookup f=some ⟨oc,od,.func (PySem.W.fnOf name qual params body scope dV kV doc pm an cdv ct),osl⟩) (hcd:PySem.W.codeIn K cdv qual=true) (S:FnScope N ps scope)
  (len:∀ vs H Q E,sp vs H Q E→vs.length=ps.length)
  (hbody:∀ (A:Around) (outer:List Env) (s:Shared) (H:Hp) (vs:List V) (Q:VK) (E:XK),Room k (A.deeper (envOfC qual scope s.heap.objs.size f cdv))→sp vs H Q E→
   ∃ t,PSs (cxOf CX P w K mg base N qual scope f cdv A outer s H E) body t∧t { nx:=fun _ H'=>Q .non H',rt:=Q } (start N vs) H):
  FnOk P w K mg base CX (k+1) f (PySem.W.fnOf name qual params body scope dV kV doc pm an cdv ct) ps sp:=by
 refine⟨len,fun A outer s H args us vs Q E hr e0 hb r hsp=>?_⟩
 have hl:=len _ _ _ _ hsp
 have KX:K.In s.heap:=e0.mod.kin.keeps fun b o e=>(e0.bs b o e).1
 have lim:s.heap.NoLimit:=e0.mod.nolimit.keeps fun b o e=>(e0.bs b o e).1
 have hkind:∀ y∈ps.zip us,scope.names.lookup y.1=some .local∨(scope.names.lookup y.1=some .cell∧((cellsFrom (s.heap.objs.size+1) scope.names []).lookup y.1).isSome=true):=fun ⟨n,v⟩ hy=>by
  rcases S.par n (List.of_mem_zip hy).1 with q | q
  ·exact .inl q
  ·exact .inr ⟨q,PySem.W.cellsFrom_some _ _ _ (.inl q)⟩
 refine codeAny_call_function hr.depth (KX _ _ lk) rfl S.co S.gen rfl (PySem.W.codeRec_of KX hcd) (hb _ _ _ _ ?_)
 refine wpAny_newFunctionEnv_cells S.kind hkind fun env he s1 x=>?_
 subst he
 refine⟨lim.keeps x.toInCall.keep,codeAny_func ?_⟩
 obtain⟨t,ht,hq⟩:=hbody A outer s H vs Q E (hr.deeper _) hsp
 have I:Inv (cxOf CX P w K mg base N qual scope f cdv A outer s H E) [] (start N vs) H s1:=inv_start S hr.hd e0 hl r x
 refine wpAny_mono (ht [] s1 (start N vs) H _ I hq) (fun fl s' hs=>?_) fun e s' hs=>hs
 have fin:∀ {σ':St} {H':Hp} {v:V} {u:Value},Inv (cxOf CX P w K mg base N qual scope f cdv A outer s H E) [] σ' H' s'→RelV v u→Q v H'→CE outer P w H s Q u s':=
  fun {σ' H' v u} J rv q=>⟨v,H',J.os,J.bare,J.base,J.hok,rv,q⟩
 cases fl with
 | ret u=>
  obtain⟨v,σ',H',J,rv,q⟩:=hs
  exact fin J rv q
 | next=>
  obtain⟨σ',H',J,q⟩:=hs
  exact fin (v:=V.non) (u:=Value.none) J rfl q
 | brk=>
  obtain⟨_,_,_,q⟩:=hs
  exact False.elim q
 | cont=>
  obtain⟨_,_,_,q⟩:=hs
  exact False.elim q
end L2
namespace L2
open PySem PySem.Spec PyProof.Rows
section
variable {X:Cx} {x:Str} {p pos:Pos} {e:Expr} {es:List Expr} {t:TA} {id T:String} {r:List V→Hp→VK→Prop}
def tCB (r:List V→Hp→VK→Prop)(t:TA):TE:=fun σ H Q=>t σ H fun vs H1=>r vs H1 Q
theorem pe_callB (hc:CallR X (.builtin id) r)(hg:Gl X x)(hm:X.mg x=none)(hv:bootBuiltins x=some (.builtin id))(ha:PA X (e::es) t)(hn:x≠"__name__":=by decide)(hdb:(x ==("__debug__":Str))=false:=by decide)
  (he:starEach (e::es) X.env=(false,eval e X.env)::starEach es X.env:=by rfl) (hpl:(backTo pos (starEach es X.env)).any (·.1)=false:=by rfl):PE X (.Call (.Name x p) (e::es) [] pos) (tCB r t):=by
 refine⟨?_⟩
 intro pins s σ H Q I h
 refine wpAny_Call_Name_kw (ld_blt I hg hm hv ?_ hn hdb)
 exact PyProof.Rows.callWith_builtin1 (thn (ha pos pins s σ H _ I h) fun us s1 ⟨vs,H1,I1,r1,q1⟩=>hc pins s1 σ H1 vs us Q I1 r1 q1) he hpl
theorem pe_callTy (hc:CallR X (.type T) r)(hg:Gl X x)(hm:X.mg x=none)(hv:bootBuiltins x=some (.type T))(ha:PA X (e::es) t)(hn:x≠"__name__":=by decide)(hdb:(x ==("__debug__":Str))=false:=by decide)
  (he:starEach (e::es) X.env=(false,eval e X.env)::starEach es X.env:=by rfl) (hpl:(backTo pos (starEach es X.env)).any (·.1)=false:=by rfl):PE X (.Call (.Name x p) (e::es) [] pos) (tCB r t):=by
 refine⟨?_⟩
 intro pins s σ H Q I h
 refine wpAny_Call_Name_kw (ld_blt I hg hm hv ?_ hn hdb)
 exact PyProof.Rows.callWith_type1 (thn (ha pos pins s σ H _ I h) fun us s1 ⟨vs,H1,I1,r1,q1⟩=>hc pins s1 σ H1 vs us Q I1 r1 q1) he hpl
end
end L2
namespace HT
open PySem PyProof.Rows
section
open PySem.SeqAt
open PySem.AutoSeq1 (wpAny_loadPart')
open PySem.MeetsSeq PySem.MeetsSeq2 PySem.MeetsSeq3
end
section
variable {prog:Program} {w:World} {A:Around} {E:Value→Shared→Prop} {s:Shared}
def sIx (n d:Nat):Option Int→Nat
 | none=>d
 | some v=>if v<0 then (v+(n:Int)).toNat else min v.toNat n
theorem sIx_nat (n d k:Nat):sIx n d (some (k:Int))=min k n:=by
 show (if (k:Int)<0 then ((k:Int)+(n:Int)).toNat else min (k:Int).toNat n)=min k n
 rw[if_neg (by omega),Int.toNat_natCast]
end
end HT
namespace L2
open PySem PySem.Spec PyProof.Rows
abbrev TO:=St→Hp→(Option Int→Hp→Prop)→Prop
def PO (X:Cx)(e:Option Expr)(t:TO):Prop:=
 ∀ (pins:List (Addr×Obj)) (s:Shared) (σ:St) (H:Hp) (Q:Option Int→Hp→Prop),Inv X pins σ H s→t σ H Q→
  wpAny (model X.prog X.w) X.A (evalPart e X.env) (fun u s'=>∃ o H',Inv X pins σ H' s'∧IsPart u o∧Q o H') X.xe s
def tNoPart:TO:=fun _ H Q=>Q none H
def tPart (t:TE):TO:=fun σ H Q=>t σ H fun x H1=>∃ i,x=.int i∧Q (some i) H1
section
variable {X:Cx} {e:Expr} {te:TE} {lo hi:Option Expr} {tl th:TO} {pos p2:Pos}
theorem po_none:PO X none tNoPart:=by
 intro pins s σ H Q I h
 rw[evalPart_none]
 exact wpAny_pure ⟨none,H,I,.none,h⟩
theorem po_some (h:PE X e te):PO X (some e) (tPart te):=by
 intro pins s σ H Q I hw
 rw[evalPart_some]
 refine thn (h pins s σ H _ I hw) fun u s1 ⟨x,H1,I1,r1,q1⟩=>?_
 obtain⟨i,rfl,q⟩:=q1
 obtain⟨t,rfl⟩:=r1
 exact⟨some i,H1,I1,.int i t,q⟩
def SlR (X:Cx)(r:V→Option Int→Option Int→Hp→VK→Prop):Prop:=
 ∀ (pins:List (Addr×Obj)) (s:Shared) (σ:St) (H:Hp) (x:V) (v vl vu:Value) (lo hi:Option Int) (sl:Addr) (Q:VK),Inv X pins σ H s→RelV x v→s.heap.IsSliceOf sl vl vu .none→IsPart vl lo→IsPart vu hi→r x lo hi H Q→
  ∃ T id,typeLookup (.type T) "__getitem__"=pure (some (.builtin id))∧s.TypeIs v T∧wpAny (model X.prog X.w) X.A (getItem v (.ref sl)) (EP X pins σ Q) X.xe s
def tSl (r:V→Option Int→Option Int→Hp→VK→Prop)(te:TE)(tl th:TO):TE:=fun σ H Q=>te σ H fun x H1=>tl σ H1 fun l H2=>th σ H2 fun u H3=>r x l u H3 Q
theorem pe_slice {r:V→Option Int→Option Int→Hp→VK→Prop}(hr:SlR X r)(he:PE X e te)(hl:PO X lo tl)(hu:PO X hi th):PE X (.Subscript e (.Slice lo hi none p2) pos) (tSl r te tl th):=by
 refine⟨?_⟩
 intro pins s σ H Q I h
 refine Subscript_ (thn (he pins s σ H _ I h) fun v s1 ⟨x,H1,I1,r1,q1⟩=>?_)
 refine wpAny_Slice (thn (hl pins s1 σ H1 _ I1 q1) fun vl s2 ⟨l,H2,I2,pl,q2⟩=>thn (hu pins s2 σ H2 _ I2 q2) fun vu s3 ⟨u,H3,I3,pu,q3⟩=>?_)
 rw[evalPart_none]
 refine wpAny_pure ?_
 have I4:Inv X pins σ H3 { s3 with heap:=s3.heap.push { cls:=.type "slice",data:=.fields #[vl,vu,.none] } }:=I3.kept (t':=s3.toks) fun b ob q=>Heap.get?_push_of_some _ q
 obtain⟨T,id,hT,ht,hg⟩:=hr pins { s3 with heap:=s3.heap.push { cls:=.type "slice",data:=.fields #[vl,vu,.none] } } σ H3 x v vl vu l u s3.heap.objs.size Q I4 r1 (Heap.IsSliceOf.new ..) pl pu q3
 show wpAny (model X.prog X.w) X.A (subscriptTail e (.Slice lo hi none p2) v (.ref s3.heap.objs.size)) (EP X pins σ Q) X.xe { s3 with heap:=s3.heap.push { cls:=.type "slice",data:=.fields #[vl,vu,.none] } }
 exact tail_any (ops:=[.ref s3.heap.objs.size,v]) ht hT hg (by with_unfolding_all rfl)
def cutV (xs:List V)(lo hi:Option Int):List V:=(xs.drop (HT.sIx xs.length 0 lo)).take (HT.sIx xs.length xs.length hi - HT.sIx xs.length 0 lo)
theorem cutV_length (xs:List V)(lo hi:Option Int):(cutV xs lo hi).length≤xs.length:=by
 unfold cutV
 rw[List.length_take,List.length_drop]
 omega
end
end L2
namespace L2
open PySem PySem.Spec PyProof.Rows
def ixN (n:Nat)(i:Int):Option Nat:=if 0≤i then (if i<n then some i.toNat else none) else if -(n:Int)≤i then some (i+n).toNat else none
def atI {α:Type}(xs:List α)(i:Int):Option α:=(ixN xs.length i).bind fun j=>xs[j]?
theorem ixN_seq {n:Nat}{i:Int}{j:Nat}(h:ixN n i=some j):seqIndex? i n=some j∧j<n∧-(n:Int)≤i∧i<n:=by
 unfold ixN at h
 by_cases h0:0≤i
 ·rw[if_pos h0] at h
  by_cases h1:i<n
  ·rw[if_pos h1] at h
   have e:i.toNat=j:=Option.some.inj h
   exact⟨by rw[seqIndex_of h0 h1,e],by omega,by omega,h1⟩
  ·rw[if_neg h1] at h;cases h
 ·rw[if_neg h0] at h
  by_cases h1:-(n:Int)≤i
  ·rw[if_pos h1] at h
   have e:(i+n).toNat=j:=Option.some.inj h
   exact⟨by rw[seqIndex_neg (by omega) h1,e],by omega,h1,by omega⟩
  ·rw[if_neg h1] at h;cases h
theorem atI_get {α:Type}{xs:List α}{i:Int}{v:α}(h:atI xs i=some v):∃ j,seqIndex? i xs.length=some j∧xs[j]?=some v∧j<xs.length∧-(xs.length:Int)≤i∧i<xs.length:=by
 unfold atI at h
 cases e:ixN xs.length i with
 | none=>rw[e] at h;cases h
 | some j=>
  rw[e] at h
  obtain⟨h1,h2,h3,h4⟩:=ixN_seq e
  exact⟨j,h1,h,h2,h3,h4⟩
theorem atI_nat {α:Type}{xs:List α}{j:Nat}{v:α}(h:xs[j]?=some v):atI xs (j:Int)=some v:=by
 have hj:j<xs.length:=(List.getElem?_eq_some_iff.mp h).1
 have e:ixN xs.length (j:Int)=some j:=by
  unfold ixN
  rw[if_pos (by omega),if_pos (by omega)];simp
 unfold atI;rw[e];exact h
def PlainIx (b:Expr):Prop:=∀ o i,subscripted b false o i=operate [o,i] (getItem o i)
def IxR (X:Cx)(r:R2):Prop:=
 ∀ (value slice:Expr) (pins:List (Addr×Obj)) (s:Shared) (σ:St) (H:Hp) (x y:V) (v u:Value) (Q:VK),Inv X pins σ H s→RelV x v→RelV y u→r x y H Q→
  subscripted slice false v u=operate [v,u] (getItem v u)→wpAny (model X.prog X.w) X.A (subscriptTail value slice v u) (EP X pins σ Q) X.xe s
def MtR (X:Cx)(id:String)(r:V→List V→Hp→VK→Prop):Prop:=
 ∀ (pins:List (Addr×Obj)) (s:Shared) (σ:St) (H:Hp) (x:V) (xs:List V) (v:Value) (us:List Value) (Q:VK),Inv X pins σ H s→RelV x v→Vals xs us→r x xs H Q→
  wpAny (model X.prog X.w) X.A (call (.builtin id) (v::us)) (EP X pins σ Q) X.xe s
section
variable {X:Cx} {a b:Expr} {ta tb:TE} {pos:Pos}
theorem pe_ix {r:R2}(hr:IxR X r)(ha:PE X a ta)(hb:PE X b tb)(hs:PlainIx b):PE X (.Subscript a b pos) (tOp r ta tb):=by
 refine⟨?_⟩
 intro pins s σ H Q I h
 exact Subscript_ (binT ha hb I h fun v u s2 x y H2 I2 rx ry q=>hr a b pins s2 σ H2 x y v u Q I2 rx ry q (hs _ _))
def rIxL (K:FrQ):R2:=fun x y H Q=>∃ p xs i v,x=.ref p∧y=.int i∧SqL K H p xs∧atI xs i=some v∧Q v H
def rIxT (K:FrQ):R2:=fun x y H Q=>∃ p xs i v,x=.ref p∧y=.int i∧SqT K H p xs∧atI xs i=some v∧Q v H
theorem ix_list:IxR X (rIxL X.K):=by
 intro value slice pins s σ H x y v u Q I rx ry h hs
 obtain⟨p,xs,i,z,rfl,rfl,hq,he,q⟩:=h
 cases rx
 obtain⟨t,rfl⟩:=ry
 obtain⟨its,r,pl,hz⟩:=I.list hq
 obtain⟨j,h1,h2,h3,h4,h5⟩:=atI_get he
 obtain⟨w,ew,rw'⟩:=r.get h2
 have hl:=r.length
 have hn:=line63
 have fin:EP X pins σ Q w s:=⟨z,H,I,rw',q⟩
 by_cases h0:0≤i
 ·have hj:i.toNat=j:=by
   rw[seqIndex_of h0 h5] at h1
   exact Option.some.inj h1
  exact item_listR pl.isList h0 (by omega) (by rw[hj];simpa using ew) fin hs
 ·have hj:(i+(its.toArray.size:Int)).toNat=j:=by
   rw[seqIndex_neg (by omega) h4] at h1
   rw[List.size_toArray,← hl]
   exact Option.some.inj h1
  exact subscriptTail_builtinR (x:=w) pl.isList.typeIs slot_list_getitem.lookup
   (wpAny_getItem_list_neg (Q:=fun r s'=>r=w∧EP X pins σ Q r s') pl.isList (by omega) (by rw[List.size_toArray] <;> omega) (by omega) (by rw[hj];simpa using ew) ⟨rfl,fin⟩) hs
theorem ix_tup:IxR X (rIxT X.K):=by
 intro value slice pins s σ H x y v u Q I rx ry h hs
 obtain⟨p,xs,i,z,rfl,rfl,hq,he,q⟩:=h
 cases rx
 obtain⟨t,rfl⟩:=ry
 obtain⟨its,r,pl,hz⟩:=I.tuple hq
 obtain⟨j,h1,h2,h3,h4,h5⟩:=atI_get he
 obtain⟨w,ew,rw'⟩:=r.get h2
 have hl:=r.length
 have hn:=line63
 have fin:EP X pins σ Q w s:=⟨z,H,I,rw',q⟩
 exact subscriptTail_builtinR (x:=w) pl.typeIs slot_tuple_getitem.lookup
  (getItem_tuple (j:=j) (Q:=fun r s'=>r=w∧EP X pins σ Q r s') pl (by omega) (by omega) (by rw[List.size_toArray,← hl];exact h1) (by simpa using ew) ⟨rfl,fin⟩) hs
theorem mapSeq_set (its:List Value)(n j:Nat)(u:Value):Obj.mapSeq (·.setIfInBounds j u) { cls:=.type "list",data:=.seq its.toArray n }={ cls:=.type "list",data:=.seq (its.set j u).toArray n }:=by
 simp[Obj.mapSeq]
theorem Inv.lst {pins:List (Addr×Obj)}{σ:St}{H:Hp}{s:Shared}{p:Addr}{xs:List V}(I:Inv X pins σ H s)(h:H p=some (.lst xs)):
  ∃ (its:List Value) (n:Nat),Vals xs its∧s.heap.get? p=some { cls:=.type "list",data:=.seq its.toArray n }∧xs.length≤sizeLine:=by
 obtain⟨z,its,n,r,e⟩:=I.hok p _ h
 exact⟨its,n,r,e,z⟩
theorem Inv.lstUpd {pins:List (Addr×Obj)}{σ:St}{H:Hp}{s:Shared}{p:Addr}{xs ys:List V}{its its':List Value}{n n':Nat}{f:Obj→Obj}(I:Inv X pins σ H s)(h:H p=some (.lst xs))
  (ho:s.heap.get? p=some { cls:=.type "list",data:=.seq its.toArray n }) (hf:f { cls:=.type "list",data:=.seq its.toArray n }={ cls:=.type "list",data:=.seq its'.toArray n' }) (r:Vals ys its') (hz:ys.length≤sizeLine) (t:Nat):
  Inv X pins σ (upd H p (.lst ys)) { s with heap:=s.heap.update p f,toks:=t }:=by
 have e:(s.heap.update p f).get? p=some { cls:=.type "list",data:=.seq its'.toArray n' }:=by
  rw[Heap.get?_update_self f ho (by rw[hf] <;> rfl),hf]
 refine I.write (x:=p) (e:=p) (by rw[h];trivial) (.inl rfl) (fun b u hb q=>(Heap.get?_update_other _ _ (Ne.symm hb)).trans q) ⟨_,e⟩ ?_
 exact⟨hz,its',n',r,e⟩
def rSetL:V→V→V→Hp→(Hp→Prop)→Prop:=fun o i v H Q=>∃ p xs k j,o=.ref p∧i=.int k∧H p=some (.lst xs)∧ixN xs.length k=some j∧Q (upd H p (.lst (xs.set j v)))
theorem set_list:PSet X rSetL:=by
 intro pins s σ H o i v ov iv u Q I ro ri rv h
 obtain⟨p,xs,k,j,rfl,rfl,hp,hj,q⟩:=h
 cases ro
 obtain⟨t,rfl⟩:=ri
 obtain⟨its,n,r,ho,hz⟩:=I.lst hp
 obtain⟨h1,h2,h3,h4⟩:=ixN_seq hj
 have hl:=r.length
 have hn:=line63
 have I':Inv X pins σ (upd H p (.lst (xs.set j v))) { s with heap:=s.heap.update p (Obj.mapSeq (·.setIfInBounds j u)) }:=
  I.lstUpd hp ho (mapSeq_set its n j u) (r.set rv j) (by rw[List.length_set];exact hz) s.toks
 by_cases h0:0≤k
 ·have hk:k.toNat=j:=by
   rw[seqIndex_of h0 h4] at h1
   exact Option.some.inj h1
  exact PySem.W.ki_setAt ho h0 (by omega) (by rw[List.size_toArray,← hl];exact h4) (by rw[hk];exact⟨_,I',q⟩)
 ·have hk:(k+(its.toArray.size:Int)).toNat=j:=by
   rw[seqIndex_neg (by omega) h3] at h1
   rw[List.size_toArray,← hl]
   exact Option.some.inj h1
  exact PySem.W.ki_setBack ho (by omega) (by rw[List.size_toArray,← hl];exact h3) (by omega) (by rw[hk];exact⟨_,I',q⟩)
theorem slice_bounds (lo hi:Option Int)(n:Nat):(sliceBounds lo hi none n).1=((HT.sIx n 0 lo:Nat):Int)∧(sliceBounds lo hi none n).2.1=((HT.sIx n n hi:Nat):Int)∧(sliceBounds lo hi none n).2.2=1:=by
 refine⟨?_,?_,rfl⟩
 ·cases lo with
  | none=>simp[sliceBounds,HT.sIx]
  | some i=>
   simp only[sliceBounds,HT.sIx,Option.getD_none,show (1:Int) > 0 by decide,if_true]
   by_cases h:i<0
   ·simp only[h,if_true] <;> omega
   ·simp only[h,if_false] <;> omega
 ·cases hi with
  | none=>simp[sliceBounds,HT.sIx]
  | some i=>
   simp only[sliceBounds,HT.sIx,Option.getD_none,show (1:Int) > 0 by decide,if_true]
   by_cases h:i<0
   ·simp only[h,if_true] <;> omega
   ·simp only[h,if_false] <;> omega
theorem slicePick_cut (its:List Value)(lo hi:Option Int):slicePick its.toArray lo hi none=((its.drop (HT.sIx its.length 0 lo)).take (HT.sIx its.length its.length hi - HT.sIx its.length 0 lo)).toArray:=by
 obtain⟨h1,h2,h3⟩:=slice_bounds lo hi its.toArray.size
 unfold slicePick
 rw[h1,h2,h3]
 simp only[sliceRange_one,pick_run,List.size_toArray] <;> rfl
def rSlL (K:FrQ):V→Option Int→Option Int→Hp→VK→Prop:=fun x lo hi H Q=>∃ a xs,x=.ref a∧SqL K H a xs∧∀ p,H p=none→Q (.ref p) (upd H p (.lst (cutV xs lo hi)))
theorem sl_list:SlR X (rSlL X.K):=by
 intro pins s σ H x v vl vu lo hi sl Q I rx hs pl pu h
 obtain⟨a,xs,rfl,hx,q⟩:=h
 cases rx
 obtain⟨its,r,ht,hz⟩:=I.list hx
 have hlen:=r.length
 refine⟨"list",_,slot_list_getitem.lookup,ht.isList.typeIs,?_⟩
 refine wpAny_getItem_list_slice ht.isList hs pl pu .none (by simp) ?_ (by rw[List.size_toArray] <;> omega)
 rw[slicePick_cut,← hlen]
 refine⟨.ref s.heap.objs.size,_,I.laid (t':=s.toks) (o:=.lst (cutV xs lo hi)) (fun b ob q=>Heap.get?_push_of_some _ q) (Nat.le_refl _) ?_,rfl,q _ (I.hok.fresh (Nat.le_refl _))⟩
 exact⟨Nat.le_trans (cutV_length xs lo hi) hz,_,0,(r.drop (HT.sIx xs.length 0 lo)).take (HT.sIx xs.length xs.length hi - HT.sIx xs.length 0 lo),Heap.get?_push_size _ rfl⟩
def flatV:V→Bool
 | .non=>true
 | .bl _=>true
 | .int _=>true
 | .str _=>true
 | _=>false
def eqV:V→V→Bool
 | .non,.non=>true
 | .bl a,.bl b=>a == b
 | .bl a,.int b=>(if a then 1 else 0) == b
 | .int a,.bl b=>a ==(if b then 1 else 0)
 | .int a,.int b=>a == b
 | .str a,.str b=>a == b
 | _,_=>false
theorem eqAt_V {A:Around}{s:Shared}{y x:V}{u v:Value}(ry:RelV y u)(rx:RelV x v)(fy:flatV y=true)(fx:flatV x=true):SeqAt.EqAt A s u v (eqV y x):=by
 cases y with
 | non=>
  cases ry
  cases x with
  | non=>cases rx;exact SeqAt.EqAt.same _
  | bl b=>cases rx;exact SeqAt.EqAt.none_bool b
  | int b=>obtain⟨t,rfl⟩:=rx;exact SeqAt.EqAt.none_int b t
  | str b=>obtain⟨t,rfl⟩:=rx;exact SeqAt.EqAt.none_str b t
  | _=>exact absurd (show false=true from fx) Bool.false_ne_true
 | bl a=>
  cases ry
  cases x with
  | non=>cases rx;exact SeqAt.EqAt.bool_none a
  | bl b=>cases rx;exact SeqAt.EqAt.bool_bool a b
  | int b=>obtain⟨t,rfl⟩:=rx;exact SeqAt.EqAt.bool_int a b t
  | str b=>obtain⟨t,rfl⟩:=rx;exact SeqAt.EqAt.bool_str a b t
  | _=>exact absurd (show false=true from fx) Bool.false_ne_true
 | int a=>
  obtain⟨t',rfl⟩:=ry
  cases x with
  | non=>cases rx;exact SeqAt.EqAt.int_none a t'
  | bl b=>cases rx;exact SeqAt.EqAt.int_bool a t' b
  | int b=>obtain⟨t,rfl⟩:=rx;exact SeqAt.EqAt.int_int a t' b t
  | str b=>obtain⟨t,rfl⟩:=rx;exact SeqAt.EqAt.int_str a t' b t
  | _=>exact absurd (show false=true from fx) Bool.false_ne_true
 | str a=>
  obtain⟨t',rfl⟩:=ry
  cases x with
  | non=>cases rx;exact SeqAt.EqAt.str_none a t'
  | bl b=>cases rx;exact SeqAt.EqAt.str_bool a t' b
  | int b=>obtain⟨t,rfl⟩:=rx;exact SeqAt.EqAt.str_int a t' b t
  | str b=>obtain⟨t,rfl⟩:=rx;exact SeqAt.EqAt.str_str a t' b t
  | _=>exact absurd (show false=true from fx) Bool.false_ne_true
 | _=>exact absurd (show false=true from fy) Bool.false_ne_true
def eqU (x:V)(u:Value):Bool:=match u with
 | .none=>eqV .non x
 | .bool b=>eqV (.bl b) x
 | .int i _=>eqV (.int i) x
 | .str z _=>eqV (.str z) x
 | _=>false
theorem eqU_of {x y:V}{u:Value}(r:RelV y u)(f:flatV y=true):eqU x u=eqV y x:=by
 cases y with
 | non=>cases r;rfl
 | bl b=>cases r;rfl
 | int i=>obtain⟨t,rfl⟩:=r;rfl
 | str z=>obtain⟨t,rfl⟩:=r;rfl
 | _=>exact absurd (show false=true from f) Bool.false_ne_true
theorem any_eqU {x:V}:∀ {xs:List V} {us:List Value},Vals xs us→xs.all flatV=true→us.any (eqU x)=xs.any fun y=>eqV y x
 | _,_,.nil,_=>rfl
 | y::xs,u::us,.cons r t,f=>by
  rw[List.all_cons,Bool.and_eq_true] at f
  rw[List.any_cons,List.any_cons,eqU_of r f.1,any_eqU t f.2]
theorem mem_eqAt {A:Around}{s:Shared}{x:V}{v:Value}(rx:RelV x v)(fx:flatV x=true):∀ {xs:List V} {us:List Value},Vals xs us→xs.all flatV=true→∀ u∈us,SeqAt.EqAt A s u v (eqU x u)
 | _,_,.nil,_=>fun u hu=>by cases hu
 | y::xs,u::us,.cons r t,f=>fun u' hu=>by
  rw[List.all_cons,Bool.and_eq_true] at f
  rcases List.mem_cons.mp hu with rfl | hu
  ·rw[eqU_of r f.1];exact eqAt_V r rx f.1 fx
  ·exact mem_eqAt rx fx t f.2 u' hu
def inV (x:V)(xs:List V):Bool:=xs.any fun y=>eqV y x
def rIn (K:FrQ)(neg:Bool):R2:=fun x y H Q=>∃ p xs,y=.ref p∧(SqL K H p xs∨SqT K H p xs)∧flatV x=true∧xs.all flatV=true∧Q (.bl (if neg then !inV x xs else inV x xs)) H
theorem op_in_seq:OpR X (compareOp .In) (rIn X.K false):=by
 intro pins s σ H x y v u Q I rx ry h
 obtain⟨p,xs,rfl,hq,fx,fs,q⟩:=h
 cases ry
 rcases hq with hq | hq
 ·obtain⟨its,r,pl,hz⟩:=I.list hq
  refine SeqAt.in_listAt (eqU x) pl.isList (fun w hw=>mem_eqAt rx fx r fs w (by simpa using hw)) ⟨.bl _,H,I,rfl,?_⟩
  rw[show its.toArray.any (eqU x)=its.any (eqU x) by simp,any_eqU r fs]
  exact q
 ·obtain⟨its,r,pl,hz⟩:=I.tuple hq
  refine SeqAt.in_tupleAt (eqU x) pl (fun w hw=>mem_eqAt rx fx r fs w (by simpa using hw)) ⟨.bl _,H,I,rfl,?_⟩
  rw[show its.toArray.any (eqU x)=its.any (eqU x) by simp,any_eqU r fs]
  exact q
theorem call_len_seq:CallR X (.builtin "len") (fun xs H Q=>∃ p ys,xs=[.ref p]∧(SqL X.K H p ys∨SqT X.K H p ys)∧Q (.int ys.length) H):=by
 intro pins s σ H xs us Q I r h
 obtain⟨p,ys,rfl,hq,q⟩:=h
 obtain⟨u,rfl,rx⟩:=vals1 r
 cases rx
 have hn:=line63
 rcases hq with hq | hq
 ·obtain⟨its,r',pl,hz⟩:=I.list hq
  have hlen:=r'.length
  exact Calls.call_len_list pl.isList (by simp only[List.size_toArray] <;> omega) ⟨.int ys.length,H,I.tok _,⟨s.toks+1,by rw[List.size_toArray,hlen]⟩,q⟩
 ·obtain⟨its,r',pl,hz⟩:=I.tuple hq
  have hlen:=r'.length
  exact len_tuple pl (by simp only[List.size_toArray] <;> omega) ⟨.int ys.length,H,I.tok _,⟨s.toks+1,by rw[List.size_toArray,hlen]⟩,q⟩
theorem call_tuple_of:CallR X (.type "tuple") (fun xs H Q=>∃ p ys,xs=[.ref p]∧((SqL X.K H p ys∧∀ l,H l=none→Q (.ref l) (upd H l (.tup ys)))∨(SqT X.K H p ys∧Q (.ref p) H))):=by
 intro pins s σ H xs us Q I r h
 obtain⟨p,ys,rfl,h⟩:=h
 obtain⟨u,rfl,rx⟩:=vals1 r
 cases rx
 rcases h with ⟨hq,q⟩ | ⟨hq,q⟩
 ·obtain⟨its,r',pl,hz⟩:=I.list hq
  have hlen:=r'.length
  refine call_tuple_list pl.isList (fun h' kp=>?_) (by simp only[List.size_toArray] <;> omega)
  have I1:Inv X pins σ H { s with heap:=h' }:=I.kept (t':=s.toks) kp
  have I2:Inv X pins σ (upd H h'.objs.size (.tup ys)) { s with heap:=h'.push { cls:=.type "tuple",data:=.seq its.toArray } }:=
   I1.laid (t':=s.toks) (fun b o e=>Heap.get?_push_of_some _ e) (Nat.le_refl _) (show ObjOk X.prog X.w _ _ _ (.tup ys) from ⟨hz,its,r',IsTup.new _ _⟩)
  exact⟨.ref h'.objs.size,_,I2,rfl,q _ (I1.hok.fresh (Nat.le_refl _))⟩
 ·obtain⟨its,r',pl,hz⟩:=I.tuple hq
  exact call_tuple_same pl ⟨.ref p,H,I,rfl,q⟩
def tyV (K:FrQ)(T:String)(x:V)(H:Hp):Prop:=match x with
 | .str _=>T="str"
 | .int _=>T="int"
 | .ref p=>(T="list"∧∃ xs,SqL K H p xs)∨(T="tuple"∧∃ o,K.lookup p=some o∧o.cls=.type "tuple"∧o.dict=none)∨
   (T="dict"∧((∃ kvs,H p=some (.dK kvs))∨∃ kvs,H p=some (.dT kvs)))∨(T="set"∧∃ S n,H p=some (.set S n))
 | _=>False
theorem tyV_is {pins:List (Addr×Obj)}{σ:St}{H:Hp}{s:Shared}{T:String}{x:V}{v:Value}(I:Inv X pins σ H s)(r:RelV x v)(ty:tyV X.K T x H):
  s.TypeIs v T∧∀ a,v=.ref a→∃ ob,s.heap.get? a=some ob∧ob.dict=none:=by
 cases x with
 | str z=>
  obtain⟨t,rfl⟩:=r
  cases (show T="str" from ty)
  exact⟨typeIs_str s z t,fun _ e=>nomatch e⟩
 | int i=>
  obtain⟨t,rfl⟩:=r
  cases (show T="int" from ty)
  exact⟨typeIs_int s i t,fun _ e=>nomatch e⟩
 | ref p=>
  cases r
  rcases ty with ⟨rfl,xs,hq⟩ | ⟨rfl,o,hk,hc,hd⟩ | ⟨rfl,hk⟩ | ⟨rfl,S,n,hk⟩
  ·obtain⟨its,_,pl,_⟩:=I.list hq
   refine⟨pl.isList.typeIs,fun a e=>?_⟩
   cases e
   obtain⟨o,n,e,c,hd,_⟩:=pl
   exact⟨o,e,hd⟩
  ·refine⟨⟨o,I.kIn p o hk,hc⟩,fun a e=>?_⟩
   cases e
   exact⟨o,I.kIn _ o hk,hd⟩
  ·have z:∃ o,s.heap.get? p=some o∧o.ExactDict:=by
    rcases hk with ⟨kvs,hk⟩ | ⟨kvs,hk⟩
    ·obtain⟨_,_,_,_,o,_,_,e,ex,_⟩:=I.hok p _ hk
     exact⟨o,e,ex⟩
    ·obtain⟨_,_,_,_,o,_,_,e,ex,_⟩:=I.hok p _ hk
     exact⟨o,e,ex⟩
   obtain⟨o,e,ex⟩:=z
   refine⟨⟨o,e,ex.1⟩,fun a e2=>?_⟩
   cases e2
   exact⟨o,e,ex.2.1⟩
  ·obtain⟨o,_,_,_,e,ex,_⟩:=I.hok p _ hk
   refine⟨⟨o,e,ex.1⟩,fun a e2=>?_⟩
   cases e2
   exact⟨o,e,ex.2.1⟩
 | _=>exact False.elim ty
def tBM0 (K:FrQ)(T:String)(r:V→List V→Hp→VK→Prop)(to:TE):TE:=fun σ H Q=>to σ H fun x H1=>tyV K T x H1∧r x [] H1 Q
def tBM (K:FrQ)(T:String)(r:V→List V→Hp→VK→Prop)(to:TE)(t:TA):TE:=fun σ H Q=>to σ H fun x H1=>tyV K T x H1∧t σ H1 fun xs H2=>r x xs H2 Q
variable {o e:Expr} {es:List Expr} {to:TE} {t:TA} {name:Str} {apos cpos:Pos} {T id:String} {r:V→List V→Hp→VK→Prop}
theorem pe_bm0 (pa:PlainAttrs T)(slot:Slot T name id)(hty:typeOf (.builtin id)=pure (.type "method_descriptor"))(hm:MtR X id r)(ho:PE X o to)
  (hbase:attributeBase o name X.env (eval o X.env)=eval o X.env:=by rfl) (hline:(apos.endLine == cpos.line)=true:=by rfl):PE X (.Call (.Attribute o name apos) [] [] cpos) (tBM0 X.K T r to):=by
 refine⟨?_⟩
 intro pins s σ H Q I h
 refine wpAny_Call_method0_late hbase hline (thn (ho pins s σ H _ I h) fun v s1 ⟨x,H1,I1,r1,ty,q1⟩=>?_)
 obtain⟨h1,h2⟩:=tyV_is I1 r1 ty
 exact⟨T,id,pa,slot,hty,h1,h2,Calls.callWith_builtin rfl (PySem.evalArgs_none (hm pins s1 σ H1 x [] v [] Q I1 r1 .nil q1))⟩
theorem pe_bm (pa:PlainAttrs T)(slot:Slot T name id)(hty:typeOf (.builtin id)=pure (.type "method_descriptor"))(hm:MtR X id r)(ho:PE X o to)(ha:PA X (e::es) t)
  (hbase:attributeBase o name X.env (eval o X.env)=eval o X.env:=by rfl)
  (hfew:((backTo cpos (starEach (e::es) X.env)).all (fun x=>!x.1) && (backToKw cpos (keywordEach [] X.env)).all (fun x=>x.1.isSome)
   && decide ((e::es).length+([]:List Keyword).length+(if ([]:List Keyword).isEmpty then 0 else 1)<30))=true:=by rfl)
  (hline:(apos.endLine == cpos.line)=true:=by rfl) (hs:starEach (e::es) X.env=(false,eval e X.env)::starEach es X.env:=by rfl) (hplain:(backTo cpos (starEach es X.env)).any (·.1)=false:=by rfl):
  PE X (.Call (.Attribute o name apos) (e::es) [] cpos) (tBM X.K T r to t):=by
 refine⟨?_⟩
 intro pins s σ H Q I h
 refine wpAny_Call_method_late hbase hfew hline rfl (thn (ho pins s σ H _ I h) fun v s1 ⟨x,H1,I1,r1,ty,q1⟩=>?_)
 obtain⟨h1,h2⟩:=tyV_is I1 r1 ty
 refine⟨T,id,pa,slot,hty,h1,h2,?_⟩
 have hA:=ha cpos pins s1 σ H1 _ I1 q1
 rw[hs] at hA ⊢
 refine Calls.callWith_builtin (by show (false || (backTo cpos (starEach es X.env)).any (·.1))=false;rw[hplain] <;> rfl) (Calls.evalArgs_plain ?_)
 exact thn hA fun us s2 ⟨vs,H2,I2,r2,q2⟩=>hm pins s2 σ H2 x vs v us Q I2 r1 r2 q2
end
end L2
namespace L2
open PySem PySem.Spec PyProof.Rows
def MtM (X:Cx)(id:String)(r:V→List V→Hp→VK→Prop):Prop:=
 ∀ (pins:List (Addr×Obj)) (s:Shared) (σ:St) (H:Hp) (x:V) (xs:List V) (v:Value) (us:List Value) (Q:VK),Inv X pins σ H s→RelV x v→Vals xs us→r x xs H Q→
  wpAny (model X.prog X.w) X.A (call (.builtin id) (v::us)) (EP X pins σ Q) X.xe s
theorem Vals.one:∀ {x:V} {us:List Value},Vals [x] us→∃ u,us=[u]∧RelV x u
 | _,_,.cons r .nil=>⟨_,rfl,r⟩
theorem Vals.zero:∀ {us:List Value},Vals [] us→us=[]
 | _,.nil=>rfl
theorem Vals.dropLast {xs:List V}{us:List Value}(h:Vals xs us):Vals xs.dropLast us.dropLast:=by
 induction h with
 | nil=>exact .nil
 | cons r t ih=>
  cases t with
  | nil=>exact .nil
  | cons q t'=>exact .cons r ih
theorem Vals.reverse {xs:List V}{us:List Value}(h:Vals xs us):Vals xs.reverse us.reverse:=by
 induction h with
 | nil=>exact .nil
 | cons r t ih=>rw[List.reverse_cons,List.reverse_cons];exact Vals.append ih (.cons r .nil)
theorem Vals.rep {xs:List V}{us:List Value}(h:Vals xs us):∀ k:Nat,Vals (List.replicate k xs).flatten (List.replicate k us).flatten
 | 0=>.nil
 | k+1=>by
  rw[List.replicate_succ,List.replicate_succ,List.flatten_cons,List.flatten_cons]
  exact Vals.append h (Vals.rep h k)
theorem erase_last {α:Type}(l:List α):l.eraseIdx (l.length - 1)=l.dropLast:=by
 induction l with
 | nil=>rfl
 | cons a r ih=>
  cases r with
  | nil=>rfl
  | cons b r=>
   have e:(a::b::r).length - 1=((b::r).length - 1)+1:=by
    have h1:(a::b::r).length=r.length+2:=rfl
    have h2:(b::r).length=r.length+1:=rfl
    omega
   rw[e,List.eraseIdx_cons_succ,ih]
   all_goals rfl
theorem foldl_rep (its:List Value):∀ (k:Nat) (acc:List Value),
  List.foldl (fun x1 x2=>x1++x2) acc.toArray (List.replicate k its.toArray)=(acc++(List.replicate k its).flatten).toArray
 | 0,acc=>by simp
 | k+1,acc=>by
  have e:acc.toArray++its.toArray=(acc++its).toArray:=by simp
  have e2:(acc++its)++(List.replicate k its).flatten=acc++(List.replicate (k+1) its).flatten:=by
   rw[List.replicate_succ,List.flatten_cons,List.append_assoc]
  rw[← e2,← foldl_rep its k (acc++its),← e,List.replicate_succ,List.foldl_cons]
section
variable {X:Cx} {pins:List (Addr×Obj)} {σ:St} {H:Hp} {s:Shared} {l b:Addr} {xs ys zs:List V}
theorem Inv.lset {its its':List Value}{n:Nat}{f:Array Value→Array Value}{t':Nat}(I:Inv X pins σ H s)(hH:H l=some (.lst xs))
  (e:s.heap.get? l=some { cls:=.type "list",data:=.seq its.toArray n }) (hf:f its.toArray=its'.toArray) (hv:Vals ys its') (hz:ys.length≤sizeLine):
  Inv X pins σ (upd H l (.lst ys)) { s with heap:=s.heap.update l (Obj.mapSeq f),toks:=t' }:=by
 have q:=PySem.IsL.update e f
 rw[hf] at q
 refine I.write (x:=l) (e:=l) (by rw[hH];exact trivial) (.inl rfl) (fun b' u hb hu=>(Heap.get?_update_other s.heap (Obj.mapSeq f) (Ne.symm hb)).trans hu) ⟨_,q⟩ ?_
 exact⟨hz,its',_,hv,q⟩
theorem Inv.lnew {its:List Value}{t':Nat}(I:Inv X pins σ H s)(hv:Vals ys its)(hz:ys.length≤sizeLine):
  Inv X pins σ (upd H s.heap.objs.size (.lst ys)) { s with heap:=s.heap.push { cls:=.type "list",data:=.seq its.toArray },toks:=t' }:=
 I.laid (fun _ _ q=>Heap.get?_push_of_some _ q) (Nat.le_refl _) ⟨hz,its,0,hv,Heap.get?_push_size _ rfl⟩
theorem Inv.fresh (I:Inv X pins σ H s):H s.heap.objs.size=none:=I.hok.fresh (Nat.le_refl _)
theorem Inv.lstM (I:Inv X pins σ H s)(hH:H l=some (.lst xs)):xs.length≤sizeLine∧∃ (its:List Value) (n:Nat),Vals xs its∧xs.length=its.length∧s.heap.get? l=some { cls:=.type "list",data:=.seq its.toArray n }:=by
 obtain⟨z,its,n,r,e⟩:=I.hok l _ hH
 exact⟨z,its,n,r,r.length,e⟩
theorem notLongL {n:Nat}(h:n≤sizeLine):Builtin.List.listTooLong n=false:=by
 unfold Builtin.List.listTooLong
 exact decide_eq_false (by omega)
end
section
variable {X:Cx}
def rAppend:V→List V→Hp→VK→Prop:=fun x vs H Q=>∃ l xs y,x=.ref l∧vs=[y]∧H l=some (.lst xs)∧xs.length<sizeLine∧Q .non (upd H l (.lst (xs++[y])))
theorem mt_append:MtM X "list.append" rAppend:=by
 intro pins s σ H x vs v us Q I rx rv h
 obtain⟨l,xs,y,rfl,rfl,hH,hz,q⟩:=h
 cases rx
 obtain⟨u,rfl,ru⟩:=rv.one
 obtain⟨z,its,n,r,hl,e⟩:=I.lstM hH
 refine call_meets F.slot_list_append ⟨_,e,rfl⟩ F.entry_list_append (F.args_list_append_2 _ _) (PySem.list_append l its.toArray n u (by rw[List.size_toArray];omega)) ⟨e,?_⟩
 refine⟨.non,_,I.lset (its':=its++[u]) hH e (by simp) (r.append (.cons ru .nil)) ?_,rfl,q⟩
 rw[List.length_append,List.length_singleton]
 omega
def rPop:V→List V→Hp→VK→Prop:=fun x vs H Q=>∃ l xs y,x=.ref l∧vs=[]∧H l=some (.lst xs)∧xs[xs.length - 1]?=some y∧Q y (upd H l (.lst xs.dropLast))
theorem mt_pop:MtM X "list.pop" rPop:=by
 intro pins s σ H x vs v us Q I rx rv h
 obtain⟨l,xs,y,rfl,rfl,hH,hy,q⟩:=h
 cases rx
 have hus:=rv.zero
 subst hus
 obtain⟨z,its,n,r,hl,e⟩:=I.lstM hH
 obtain⟨u,hu,ru⟩:=r.get hy
 have hy':its.toArray[its.toArray.size - 1]?=some u:=by
  show its.toArray[its.length - 1]?=some u
  rw[← Array.getElem?_toList,← hl]
  exact hu
 refine call_meets F.slot_list_pop ⟨_,e,rfl⟩ F.entry_list_pop (F.args_list_pop_1 _) (MeetsSeq.list_pop_last l its.toArray n u hy' (by rw[List.size_toArray];omega)) ⟨e,?_⟩
 refine⟨y,_,I.lset (its':=its.dropLast) hH e ?_ r.dropLast ?_,ru,q⟩
 ·show its.toArray.eraseIdxIfInBounds (its.toArray.size - 1)=its.dropLast.toArray
  rw[List.size_toArray,List.eraseIdxIfInBounds_toArray,erase_last]
 ·rw[List.length_dropLast]
  omega
def rReverse:V→List V→Hp→VK→Prop:=fun x vs H Q=>∃ l xs,x=.ref l∧vs=[]∧H l=some (.lst xs)∧Q .non (upd H l (.lst xs.reverse))
theorem mt_reverse:MtM X "list.reverse" rReverse:=by
 intro pins s σ H x vs v us Q I rx rv h
 obtain⟨l,xs,rfl,rfl,hH,q⟩:=h
 cases rx
 have hus:=rv.zero
 subst hus
 obtain⟨z,its,n,r,hl,e⟩:=I.lstM hH
 refine call_meets F.slot_list_reverse ⟨_,e,rfl⟩ F.entry_list_reverse (F.args_list_reverse_1 _) (AutoSeq1.list_reverse_list_0 l its.toArray n (by rw[List.size_toArray];omega)) ⟨e,?_⟩
 refine⟨.non,_,I.lset (its':=its.reverse) hH e (by simp) r.reverse ?_,rfl,q⟩
 rw[List.length_reverse]
 omega
def rCat:R2:=fun x y H Q=>∃ l b xs zs,x=.ref l∧y=.ref b∧H l=some (.lst xs)∧H b=some (.lst zs)∧xs.length+zs.length≤sizeLine∧∀ p,H p=none→Q (.ref p) (upd H p (.lst (xs++zs)))
theorem op_cat:OpR X (binaryOp .Add) rCat:=by
 intro pins s σ H x y v u Q I rx ry h
 obtain⟨l,b,xs,zs,rfl,rfl,hH,hB,hz,q⟩:=h
 cases rx
 cases ry
 obtain⟨z,its,n,r,hl,e⟩:=I.lstM hH
 obtain⟨z2,its2,n2,r2,hl2,e2⟩:=I.lstM hB
 refine PySem.P.add_list e e2 ?_ (by rw[List.size_toArray,List.size_toArray];omega)
 have ea:its.toArray++its2.toArray=(its++its2).toArray:=by simp
 rw[ea]
 exact⟨.ref _,_,I.lnew (t':=s.toks) (r.append r2) (by rw[List.length_append];omega),rfl,q _ I.fresh⟩
def rRep:R2:=fun x y H Q=>∃ l k xs,x=.ref l∧y=.int k∧H l=some (.lst xs)∧-(2 ^ 63)≤k∧k<2 ^ 63∧xs.length*k.toNat≤sizeLine∧
 ∀ p,H p=none→Q (.ref p) (upd H p (.lst (List.replicate k.toNat xs).flatten))
theorem len_rep {α:Type}(xs:List α)(k:Nat):(List.replicate k xs).flatten.length=k*xs.length:=by
 induction k with
 | zero=>simp
 | succ k ih=>rw[List.replicate_succ,List.flatten_cons,List.length_append,ih,Nat.succ_mul,Nat.add_comm]
theorem op_rep:OpR X (binaryOp .Mult) rRep:=by
 intro pins s σ H x y v u Q I rx ry h
 obtain⟨l,k,xs,rfl,rfl,hH,h1,h2,hz,q⟩:=h
 cases rx
 obtain⟨t,rfl⟩:=ry
 obtain⟨z,its,n,r,hl,e⟩:=I.lstM hH
 have hlen:its.toArray.size*k.toNat≤sizeLine:=by rw[List.size_toArray,← hl];exact hz
 have hcap:¬ its.toArray.size*k.toNat > (2 ^ 63 - 1) / 8:=by
  have:(sizeLine:Nat)≤(2 ^ 63 - 1) / 8:=by decide
  omega
 have hfit:¬ (!Builtin.List.listFitsIndex k)=true:=by
  rw[fitsIndex_both h1 h2]
  exact Bool.false_ne_true
 have hlong:¬ Builtin.List.listTooLong (its.toArray.size*k.toNat)=true:=by
  rw[notLongL hlen]
  exact Bool.false_ne_true
 have hnew:List.foldl (fun x1 x2=>x1++x2) #[] (List.replicate (if its.toArray.isEmpty=true then 0 else k.toNat) its.toArray)=(List.replicate k.toNat its).flatten.toArray:=by
  have f0:∀ m:Nat,List.foldl (fun x1 x2=>x1++x2) #[] (List.replicate m its.toArray)=(List.replicate m its).flatten.toArray:=fun m=>by
   have:=foldl_rep its m []
   rw[List.nil_append] at this
   exact this
  rw[f0]
  cases its with
  | nil=>simp
  | cons a r'=>rw[if_neg (by simp)]
 refine wpAny_binaryOp_repeat_ref (T:="list") (U:="int") (by decide) ⟨_,e,rfl⟩ (fun s'=>typeIs_int s' k t) noFill_list_mul F.fills_int_mul F.slot_int_rmul repeat_list F.slot_int_index.lookup
  (call_meets F.slot_int_rmul (typeIs_int s k t) F.entry_int_rmul (F.args_int_rmul_2 _ _) (int___rmul___int_list k t l its.toArray n)
   ⟨e,rfl,⟨_,e,rfl⟩,call_meets F.slot_list_mul ⟨_,e,rfl⟩ F.entry_list_mul (F.args_list_mul_2 _ _) (AutoListH.list___mul___list_int_3 l its.toArray n k t hfit hcap hlong) ⟨e,?_⟩⟩)
 rw[hnew]
 exact⟨.ref _,_,I.lnew (t':=s.toks) (r.rep k.toNat) (by rw[len_rep,Nat.mul_comm];exact hz),rfl,q _ I.fresh⟩
end
section
variable {prog:Program} {w:World} {A:Around} {E:Value→Shared→Prop} {s:Shared}
end
section
variable {X:Cx}
end
end L2
namespace Att
open PySem PySem.W PySem.Calls PyProof.Rows
theorem ints_of_wellAll {P:Params}{h:Heap}:∀ (ns:List Int) (vs:List Value),WellAll P h vs (ns.map WData.int)→IntsAre vs ns:=by
 intro ns
 induction ns with
 | nil=>
  intro vs w
  rw[List.map_nil] at w
  cases w
  exact .nil
 | cons n ns ih=>
  intro vs w
  rw[List.map_cons] at w
  cases w with
  | cons a b=>
   cases a
   exact .cons _ _ (ih _ b)
theorem script_of {l:OpenLaw}{n:Nat}(hn:l.most=some n){P:Params}{h:Heap}{args:List WData}{vals:List Value}
  (hpre:l.row.toRowW.claim.pre args=true) (hwl:WellAll P h vals args):
  ∃ a vs ns,vals=[Value.ref a]∧args=[WData.list (ns.map WData.int)]∧h.get? a=some { cls:=.type "list",data:=.seq vs.toArray }∧IntsAre vs ns∧ns.length≤n:=by
 have hsh:WShape.hasAll [] args [.list .int]=true:=(pre_splitW hpre).1
 have hc:l.pre.holds [] { args:=args }=true:=(pre_splitW hpre).2
 obtain⟨d,r,rfl,h1,h2⟩:=hasAllW_cons hsh
 obtain rfl:=hasAllW_nil h2
 obtain⟨xs,rfl,h3⟩:=hasW_list h1
 obtain⟨ns,rfl⟩:=items_int h3
 have hlen:ns.length≤n:=by
  unfold OpenLaw.pre at hc
  have h4:(WTm.not (.lt (.lit (.int (n:Int))) (.len (.arg 0)))).holds [] { args:=[.list (ns.map .int)] }=true:=by
   have h4:=(holds_andW hc).1
   rw[hn] at h4
   exact h4
  have h5:=condW_of h4 (w_not (w_lt w_lit (w_len_list (w_arg rfl))))
  rw[List.length_map] at h5
  refine Nat.le_of_not_lt fun q=>?_
  have q':(n:Int)<((ns.length:Nat):Int):=by omega
  first
   | (rw[decide_eq_true q'] at h5;exact absurd h5 (by decide))
   | (simp at h5;omega)
 cases hwl with
 | cons w1 w2=>
  cases w2
  cases w1 with
  | list ho hall=>exact⟨_,_,ns,rfl,rfl,ho,ints_of_wellAll ns _ hall,hlen⟩
theorem post_true (l:OpenLaw)(args:List WData):l.row.toRowW.claim.post args (.bool true) args=true:=
 postW_of (r:=l.row.toRowW) (X:=(true == true))
  (show WShape.has [] (.bool true) .bool=true by first|rfl|decide|simp[WShape.has,WShape.arms,WShape.armsAll])
  (show (WTm.eq .res (.lit (.bool true))).value [] { args:=args,res:=some (.bool true),after:=args }=some (.bool (true == true)) from w_eq_bool (w_res rfl) w_lit) rfl
theorem attach_call {l:OpenLaw}{n:Nat}{q:Program}{loose:List Str}{XP:(Str→Option Value)→Heap→Prop}{YP:World→Heap→Prop}{d:DefRec}
  (hn:l.most=some n) (hdf:d.params.defaults=[])
  (call:∀ (w:World) (s₀ s₁:Shared) (mg mb:Str→Option Value) (fa:Addr) (o:Obj) (pm cd doc:Value) (a:Addr) (vs:List Value) (ns:List Int),
   Ground q loose [] XP w s₀ mg mb s₁.heap→YP w s₁.heap→
   s₁.heap.get? fa=some o→o.data=.func (docDef d.name d.params d.body d.scope pm cd doc)→s₁.heap.CodeRec cd d.name→mg d.name=some (.ref fa)→
   s₁.heap.get? a=some { cls:=.type "list",data:=.seq vs.toArray }→IntsAre vs ns→ns.length≤n→s₁.gens=#[]→
   codeAny (model l.prog w) callerA (.call (.ref fa) ⟨[.ref a],[]⟩) (fun r s'=>r=.ok (.ret (.bool true))∧OldK s₁.heap s'.heap∧s'.os=s₁.os∧AllBare s'.gens) s₁):
  WalkO q loose XP YP l.row.toRowW d [] (fun f vs=>PySem.call f vs):=by
 intro w s₀ s₁ mg mb G Y fa o pm cd doc dV kV ho hd hcd hD hmg hg args vals as hpre hlay hrd hwl hlo
 obtain rfl:dV=.none:=Dflts.none hD hdf
 obtain rfl:kV=.none:=Dflts.noKw hD
 obtain⟨a,vs,ns,rfl,rfl,hobj,hints,hlen⟩:=script_of hn hpre hwl
 refine enter_call (codeAny_mono (call w s₀ s₁ mg mb fa o pm cd doc a vs ns G Y ho (fd_plain hd) hcd hmg hobj hints hlen hg) fun r s' hq=>?_)
 obtain⟨rfl,h2,h3,h4⟩:=hq
 exact⟨.inl ⟨.bool true,.bool true,[],rfl,fun _=>rfl,.bool true,post_true l _,fun _=>⟨List.Pairwise.nil,fun _ hm=>(nomatch hm)⟩⟩,h2,h3,h4⟩
section
variable {prog:Program} {w:World} {A:Around} {E:Value→Shared→Prop} {s:Shared} {K:Frag}
end
end Att
namespace L2
open PySem PySem.Spec PyProof.Rows
theorem vals_ints:∀ {vs:List Value} {ns:List Int},IntsAre vs ns→Vals (ns.map V.int) vs
 | _,_,.nil=>.nil
 | _,_,.cons n t h=>.cons ⟨t,rfl⟩ (vals_ints h)
def Only (H:Hp):Prop:=∀ b,H b=none∨∃ o xs,H b=some (.frz o (.lst xs))
theorem law_call {P:Program}{w:World}{K:FrQ}{mg mb:Str→Option Value}{CX:CXT}{k:Nat}{fa a:Addr}{fd:FuncData}{x:Str}{sp:Sp}{s₁:Shared}{vs:List Value}{ns:List Int}
  (KX:K.In s₁.heap) (hns:s₁.heap.Ns mainGlobals mg) (hb:s₁.heap.Ns builtinsNs mb) (hbb:∀ x:Str,x≠"__name__"→mb x=bootBuiltins x) (hlim:s₁.heap.NoLimit) (hg:s₁.gens=#[])
  (ha:s₁.heap.get? a=some { cls:=.type "list",data:=.seq vs.toArray }) (hi:IntsAre vs ns) (hl:ns.length≤sizeLine) (hr:Room k callerA)
  (F:∀ base:Heap,K.In base→base.Ns mainGlobals mg→FnOk P w K mg base CX k fa fd [x] sp) (hbind:∀ (s:Shared) (u:Value),BindsTo s fd ⟨[u],[]⟩ [(x,u)])
  (hsp:∀ H:Hp,Only H→SqL K H a (ns.map V.int)→sp [.ref a] H (fun v _=>v=.bl true) fun _ _ _=>False)
  (hCX:∀ H e s',CX [] H s₁ (fun _ _ _=>False) e s'→False):
  codeAny (model P w) callerA (.call (.ref fa) ⟨[.ref a],[]⟩) (fun r s'=>r=.ok (.ret (.bool true))∧OldK s₁.heap s'.heap∧s'.os=s₁.os∧AllBare s'.gens) s₁:=by
 have rv:=vals_ints hi
 have lenV:=hi.length
 have core:∀ H:Hp,Only H→SqL K H a (ns.map V.int)→HOk P w H s₁.heap→(∀ b,H b≠none→b=a)→(H a≠none→K.lookup a=none)→
   codeAny (model P w) callerA (.call (.ref fa) ⟨[.ref a],[]⟩) (fun r s'=>r=.ok (.ret (.bool true))∧OldK s₁.heap s'.heap∧s'.os=s₁.os∧AllBare s'.gens) s₁:=by
  intro H hO hS hok hA hK
  have base_of:∀ {b:Addr} {o:Obj},s₁.heap.get? b=some o→H b=none→(hidT s₁.heap H).get? b=some o:=fun e n=>hidT_get e n
  have noA:∀ {b:Addr} {o:Obj} {es:Array DictEntry} {ep:Nat},s₁.heap.get? b=some o→o.data=.dict es ep→H b=none:=fun {b o es ep} e d=>by
   cases q:H b with
   | none=>rfl
   | some u=>
    have e':b=a:=hA b (by rw[q];simp)
    subst e'
    rw[ha] at e;cases e
    have d':Data.seq vs.toArray _=Data.dict es ep:=d
    cases d'
  have nsK:∀ {b:Addr} {m:Str→Option Value},s₁.heap.Ns b m→(hidT s₁.heap H).Ns b m:=fun {b m} ⟨o,es,ep,e,d,r⟩=>⟨o,es,ep,base_of e (noA e d),d,r⟩
  have hKb:K.In (hidT s₁.heap H):=fun b o e=>base_of (KX b o e) (by
   cases q:H b with
   | none=>rfl
   | some u=>
    have e':b=a:=hA b (by rw[q];simp)
    subst e'
    rw[hK (by rw[q];simp)] at e;cases e)
  have hM:Mod K mg (hidT s₁.heap H):=⟨hKb,nsK hns,⟨mb,nsK hb,hbb⟩,let ⟨mc,h1,h2⟩:=hlim;⟨mc,nsK h1,h2⟩⟩
  have e0:Env0 P w K mg (hidT s₁.heap H) callerA [] s₁ H:=⟨rfl,hM,fun b o e=>of_hidT e,Nat.le_of_eq (hidT_size _ _),trivial,fun b hb=>absurd (show b∈([]:List Addr) from hb) (by simp),hok,.of_eq hg⟩
  refine codeAny_mono ((F _ hKb (nsK hns)).run callerA [] s₁ H ⟨[.ref a],[]⟩ [.ref a] [.ref a] _ _ hr e0 (hbind s₁ (.ref a)) (.cons rfl .nil) (hsp H hO hS)) fun r s' h=>?_
  cases r with
  | error e=>exact (hCX H e s' h).elim
  | ok fl=>
   cases fl with
   | next=>exact False.elim h
   | brk=>exact False.elim h
   | cont=>exact False.elim h
   | ret u=>
    obtain⟨v,H',os,bare,un,hok',r',q⟩:=h
    have q':v=.bl true:=q
    subst q'
    obtain rfl:u=Value.bool true:=r'
    refine⟨rfl,OldK.of_keep fun b o e=>?_,os,bare⟩
    cases q:H b with
    | none=>exact un.keep b o e q (by intro z;exact absurd (show b∈([]:List Addr) from z) (by simp)) (by simp)
    | some u=>
     rcases hO b with z | ⟨ob,xs,z⟩
     ·rw[q] at z;cases z
     ·have z2:=un.frzs b ob _ z
      obtain⟨e1,_⟩:=hok b _ z
      obtain⟨e2,_⟩:=hok' b _ z2
      rw[e] at e1;cases e1
      exact e2
 cases hk:K.lookup a with
 | some o=>
  have e:=KX a o hk
  rw[ha] at e
  cases e
  refine core (fun _=>none) (fun _=>.inl rfl) (.inr ⟨_,vs.toArray,_,hk,rfl,rfl,rfl,by rw[List.size_toArray,lenV];exact hl,by simpa using rv⟩) (fun b u z=>by have z':(none:Option HO)=some u:=z;cases z') (fun b z=>absurd rfl z) fun z=>absurd rfl z
 | none=>
  refine core (fun b=>if b=a then some (.frz { cls:=.type "list",data:=.seq vs.toArray } (.lst (ns.map V.int))) else none) (fun b=>?_) (.inl (.inr ⟨{ cls:=.type "list",data:=.seq vs.toArray },if_pos rfl⟩)) (fun b u z=>?_) (fun b z=>?_) fun _=>hk
  ·by_cases hb:b=a
   ·exact .inr ⟨_,_,if_pos hb⟩
   ·exact .inl (if_neg hb)
  ·by_cases hb:b=a
   ·have z':=(if_pos hb).symm.trans z
    cases z'
    subst hb
    exact⟨ha,by rw[List.length_map];exact hl,vs,_,rv,ha⟩
   ·have z':=(if_neg hb).symm.trans z
    cases z'
  ·by_cases hb:b=a
   ·exact hb
   ·exact absurd (if_neg hb) z
end L2
namespace L2
open PySem PySem.Spec PyProof.Rows
theorem walk_of {l:PySem.W.OpenLaw}{n k:Nat}{q:Program}{loose:List Str}{XP:(Str→Option Value)→Heap→Prop}{YP:World→Heap→Prop}{d:DefRec}{K:Params→FrQ}{CX:World→CXT}{sp:World→Sp}{x:Str}
  (hn:l.most=some n) (hn2:n≤sizeLine) (hdf:d.params.defaults=[]) (hr:Room k callerA)
  (hY:∀ (w:World) (h:Heap),YP w h→(K w.params).In h)
  (F:∀ (w:World) (mg:Str→Option Value) (fa:Addr) (h:Heap),(K w.params).In h→h.Ns mainGlobals mg→mg d.name=some (.ref fa)→
   ∃ fd:FuncData,(∀ (s:Shared) (u:Value),BindsTo s fd ⟨[u],[]⟩ [(x,u)])∧
    ∀ base:Heap,(K w.params).In base→base.Ns mainGlobals mg→FnOk l.prog w (K w.params) mg base (CX w) k fa fd [x] (sp w))
  (hsp:∀ (w:World) (H:Hp) (a:Addr) (ns:List Int),ns.length≤n→Only H→SqL (K w.params) H a (ns.map V.int)→sp w [.ref a] H (fun v _=>v=.bl true) fun _ _ _=>False)
  (hCX:∀ (w:World) (H:Hp) (s:Shared) (e:Value) (s':Shared),CX w [] H s (fun _ _ _=>False) e s'→False):
  PySem.W.WalkO q loose XP YP l.row.toRowW d [] (fun f vs=>PySem.call f vs):=by
 refine Att.attach_call hn hdf fun w s₀ s₁ mg mb fa o pm cd doc a vs ns G Y ho hd hcd hmg hobj hints hlen hg=>?_
 have KX:=hY w _ Y
 obtain⟨fd,hb,hF⟩:=F w mg fa _ KX G.T.g hmg
 exact law_call KX G.T.g G.T.b G.T.builtins G.T.nolimit hg hobj hints (Nat.le_trans hlen hn2) hr hF hb (fun H hO hS=>hsp w H a ns hlen hO hS) fun H e s'=>hCX w H s₁ e s'
end L2
namespace L2
open PySem PySem.Spec PyProof.Rows
def inClass (s:Stmt)(j:Nat):Stmt:=match s with
 | .ClassDef _ _ _ body _ _ _ _ _ _ _=>body.getD j (.Pass ⟨0,0,0,0⟩)
 | _=>.Pass ⟨0,0,0,0⟩
def defArgs (s:Stmt):Arguments:=match s with
 | .FunctionDef _ a _ _ _ _ _ _ _ _=>a
 | _=>{ posonlyargs:=[],args:=[],vararg:=none,kwonlyargs:=[],kw_defaults:=[],kwarg:=none,defaults:=[] }
def defBody (s:Stmt):List Stmt:=match s with
 | .FunctionDef _ _ b _ _ _ _ _ _ _=>b
 | _=>[]
def defScope (s:Stmt):Scope:=match s with
 | .FunctionDef _ _ _ _ _ _ sc _ _ _=>sc
 | _=>{ kind:=.function,names:=[],isGenerator:=false,isCoroutine:=false }
abbrev CX0:CXT:=fun _ _ _ _ _ _=>False
abbrev E0:XK:=fun _ _ _=>False
theorem pass0 {X:Cx}:Passes CX0 X E0:=fun _ _ _ _ _ _ _ h=>h.elim
structure Fun (K:FrQ)(x qual:Str)(st:Stmt)(f:Addr)(fd:FuncData):Prop where
 ex:∃ (oc:Value) (od:Option Addr) (kV doc pm:Value) (an:Option Addr) (cdv ct:Value) (osl:Array (Option Value)),
  fd=PySem.W.fnOf x qual (defArgs st) (defBody st) (defScope st) .none kV doc pm an cdv ct∧K.lookup f=some ⟨oc,od,.func fd,osl⟩∧PySem.W.codeIn K cdv qual=true
 kp:PySem.W.keepIn K (.ref f)=true
section
variable {P:Program} {w:World} {K:FrQ} {mg:Str→Option Value} {base:Heap}
theorem Fun.ok {x qual:Str}{st:Stmt}{f:Addr}{fd:FuncData}{N ps:List Str}{k:Nat}{sp:Sp}(F:Fun K x qual st f fd)(S:FnScope N ps (defScope st))(len:∀ vs H Q E,sp vs H Q E→vs.length=ps.length)
  (hbody:∀ (cdv:Value) (A:Around) (outer:List Env) (s:Shared) (H:Hp) (vs:List V) (Q:VK) (E:XK),Room k (A.deeper (envOfC qual (defScope st) s.heap.objs.size f cdv))→sp vs H Q E→
   ∃ t,PSs (cxOf CX0 P w K mg base N qual (defScope st) f cdv A outer s H E).nox (defBody st) t∧t { nx:=fun _ H'=>Q .non H',rt:=Q } (start N vs) H):FnOk P w K mg base CX0 (k+1) f fd ps sp:=by
 obtain⟨oc,od,kV,doc,pm,an,cdv,ct,osl,rfl,lk,hcd⟩:=F.ex
 refine fn_of lk hcd S len fun A outer s H vs Q E hr hsp=>?_
 obtain⟨t,h,q⟩:=hbody cdv A outer s H vs Q E hr hsp
 exact⟨t,h.nox,q⟩
theorem Fun.binds {x qual:Str}{st:Stmt}{f:Addr}{fd:FuncData}{ps:List Str}(F:Fun K x qual st f fd)
  (h:∀ (kV doc pm:Value) (an:Option Addr) (cdv ct:Value) (us:List Value),us.length=ps.length→bindArgs (PySem.W.fnOf x qual (defArgs st) (defBody st) (defScope st) .none kV doc pm an cdv ct) ⟨us,[]⟩=pure (ps.zip us)):Binds K fd ps []:=by
 obtain⟨oc,od,kV,doc,pm,an,cdv,ct,osl,rfl,lk,hcd⟩:=F.ex
 exact .all (h kV doc pm an cdv ct)
theorem fun_mk {x qual:Str}{st:Stmt}{f:Addr}{oc:Value}{od an:Option Addr}{osl:Array (Option Value)}{kV doc pm cdv ct:Value}(l:K.lookup f=some ⟨oc,od,.func (PySem.W.fnOf x qual (defArgs st) (defBody st) (defScope st) .none kV doc pm an cdv ct),osl⟩)
  (c:PySem.W.codeIn K cdv qual=true) (k:PySem.W.keepIn K (.ref f)=true):Fun K x qual st f (PySem.W.fnOf x qual (defArgs st) (defBody st) (defScope st) .none kV doc pm an cdv ct):=⟨⟨oc,od,kV,doc,pm,an,cdv,ct,osl,rfl,l,c⟩,k⟩
end
section
variable {X:Cx}
theorem pv (i:Nat){x:Str}{pos:Pos}(hN:X.N[i]?=some x:=by rfl)(hv:Vis X.env.scope x:=by first|exact Or.inl rfl|exact Or.inr (Or.inl rfl)|exact Or.inr (Or.inr rfl))(hd:(x ==("__debug__":Str))=false:=by decide)
  (hcd:(x ==("__classdict__":Str))=false:=by decide):PE X (.Name x pos) (tVar i):=pe_var hN hv hd hcd
end
theorem iteF {A B:Prop}(h:B):if false=true then A else B:=by
 rw[if_neg Bool.false_ne_true]
 exact h
theorem iteT {A B:Prop}(h:A):if true=true then A else B:=by
 rw[if_pos rfl]
 exact h
theorem ite2 {c A B:Prop}[Decidable c](h1:c→A)(h2:¬ c→B):if c then A else B:=by
 by_cases h:c
 ·rw[if_pos h]
  exact h1 h
 ·rw[if_neg h]
  exact h2 h
theorem iteNS {c A B:Prop}[Decidable c](hc:c)(h:B):if (!decide c)=true then A else B:=by
 rw[decide_eq_true hc]
 exact iteF h
def Same (H H':Hp):Prop:=∀ b o,H b=some o→H' b=some o
theorem Same.refl (H:Hp):Same H H:=fun _ _ h=>h
theorem Same.trans {H H1 H2:Hp}(a:Same H H1)(b:Same H1 H2):Same H H2:=fun c o h=>b c o (a c o h)
theorem Same.free {H H':Hp}(e:Same H H'){l:Addr}(h:H' l=Option.none):H l=Option.none:=by
 cases q:H l with
 | none=>rfl
 | some o=>
  rw[e l o q] at h
  cases h
theorem Same.seq {K:FrQ}{H H':Hp}{a:Addr}{xs:List V}(e:Same H H')(h:SqL K H a xs):SqL K H' a xs:=by
 rcases h with (h | ⟨o,h⟩) | h
 ·exact .inl (.inl (e _ _ h))
 ·exact .inl (.inr ⟨o,e _ _ h⟩)
 ·exact .inr h
end L2
set_option Elab.async false
set_option linter.all false
set_option maxRecDepth 100000
namespace L2
open PySem PySem.Spec PyProof.Rows
theorem lookup_relabel_free {env:Env}:∀ {names:List (Str×NameKind)} {x:Str},names.lookup x=some .free→
  (names.map fun (n,k)=>if (k == NameKind.free && env.scope.kind == .function && env.kindOf n == some .cell) then (n,NameKind.cell) else (n,k)).lookup x=some .free∨
  (names.map fun (n,k)=>if (k == NameKind.free && env.scope.kind == .function && env.kindOf n == some .cell) then (n,NameKind.cell) else (n,k)).lookup x=some .cell
 | [],_,h=>by simp at h
 | (n,k)::r,x,h=>by
  have ih:=@lookup_relabel_free env r x
  show List.lookup x ((if (k == NameKind.free && env.scope.kind == .function && env.kindOf n == some .cell)=true then (n,NameKind.cell) else (n,k))::_)=_∨List.lookup x ((if (k == NameKind.free && env.scope.kind == .function && env.kindOf n == some .cell)=true then (n,NameKind.cell) else (n,k))::_)=_
  cases hx:x == n with
  | true=>
   simp only[List.lookup_cons,hx] at h
   cases h
   by_cases hc:(NameKind.free == NameKind.free && env.scope.kind == .function && env.kindOf n == some .cell)=true
   ·rw[if_pos hc];exact .inr (by simp only[List.lookup_cons,hx])
   ·rw[if_neg hc];exact .inl (by simp only[List.lookup_cons,hx])
  | false=>
   simp only[List.lookup_cons,hx] at h
   by_cases hc:(k == NameKind.free && env.scope.kind == .function && env.kindOf n == some .cell)=true
   ·rw[if_pos hc];simp only[List.lookup_cons,hx];exact ih h
   ·rw[if_neg hc];simp only[List.lookup_cons,hx];exact ih h
theorem relabel_back {env:Env}:∀ {names:List (Str×NameKind)} {x:Str} {kd:NameKind},(∀ y∈names,y.2≠.cell)→kd=.cell∨kd=.free→
  (names.map fun (n,k)=>if (k == NameKind.free && env.scope.kind == .function && env.kindOf n == some .cell) then (n,NameKind.cell) else (n,k)).lookup x=some kd→names.lookup x=some .free
 | [],_,_,_,_,h=>by simp at h
 | (n,k)::r,x,kd,hn,hk,h=>by
  have ih:=@relabel_back env r x kd (fun y hy=>hn y (List.mem_cons_of_mem _ hy)) hk
  have h':List.lookup x ((if (k == NameKind.free && env.scope.kind == .function && env.kindOf n == some .cell)=true then (n,NameKind.cell) else (n,k))::(r.map fun (n,k)=>if (k == NameKind.free && env.scope.kind == .function && env.kindOf n == some .cell) then (n,NameKind.cell) else (n,k)))=some kd:=h
  have hkc:k≠.cell:=hn (n,k) List.mem_cons_self
  by_cases hc:(k == NameKind.free && env.scope.kind == .function && env.kindOf n == some .cell)=true
  ·rw[if_pos hc] at h'
   have hkf:k=.free:=by
    simp only[Bool.and_eq_true,beq_iff_eq] at hc
    exact hc.1.1
   subst hkf
   cases hx:x == n with
   | true=>simp only[List.lookup_cons,hx]
   | false=>simp only[List.lookup_cons,hx] at h' ⊢;exact ih h'
  ·rw[if_neg hc] at h'
   cases hx:x == n with
   | true=>
    simp only[List.lookup_cons,hx] at h' ⊢
    have e:k=kd:=Option.some.inj h'
    subst e
    rcases hk with hk | hk
    ·exact absurd hk hkc
    ·rw[hk]
   | false=>simp only[List.lookup_cons,hx] at h' ⊢;exact ih h'
def closOf (cells:List (Str×Addr)):List (Str×NameKind)→List (Str×Addr)→List (Str×Addr)
 | [],acc=>acc
 | (n,k)::r,acc=>closOf cells r (if k=.free then match cells.lookup n with | some c=>(n,c)::acc | none=>acc else acc)
theorem closureFor_eq {scope:Scope}{env:Env}(h:∀ y∈scope.names,y.2=.free→∃ c,env.cells.lookup y.1=some c):closureFor scope env=pure (closOf env.cells scope.names []):=by
 have go:∀ (l:List (Str×NameKind)) (acc:List (Str×Addr)),(∀ y∈l,y.2=.free→∃ c,env.cells.lookup y.1=some c)→
   (forIn l acc fun x (r:List (Str×Addr))=>(match x with | (name,kind)=>if (kind == NameKind.free)=true then do let c ← cellOf env name;pure (ForInStep.yield ((name,c)::r)) else pure (ForInStep.yield r):Sem (ForInStep (List (Str×Addr)))))=pure (closOf env.cells l acc):=by
  intro l
  induction l with
  | nil=>intro acc _;rfl
  | cons x l ih=>
   intro acc hl
   obtain⟨n,k⟩:=x
   rw[List.forIn_cons]
   by_cases hk:k=.free
   ·subst hk
    obtain⟨c,hc⟩:=hl (n,.free) List.mem_cons_self rfl
    have e1:cellOf env n=pure c:=by unfold cellOf;rw[hc]
    simp only[beq_self_eq_true,if_true,e1,pure_bind]
    rw[ih _ fun y hy=>hl y (List.mem_cons_of_mem _ hy)]
    show _=pure (closOf env.cells l (if NameKind.free=.free then match env.cells.lookup n with | some c=>(n,c)::acc | none=>acc else acc))
    rw[if_pos rfl,hc]
   ·have hb:(k == NameKind.free)=false:=by simpa using hk
    simp only[hb,Bool.false_eq_true,if_false,pure_bind]
    rw[ih _ fun y hy=>hl y (List.mem_cons_of_mem _ hy)]
    show _=pure (closOf env.cells l (if k=.free then _ else acc))
    rw[if_neg hk]
 unfold closureFor
 have:=go scope.names [] h
 simp only[bind_pure_comp] at this ⊢
 first
  | exact this
  | simpa using this
theorem closOf_lookup {cells:List (Str×Addr)}{x:Str}{c:Addr}:∀ (l:List (Str×NameKind)) (acc:List (Str×Addr)),(∀ d,acc.lookup x=some d→cells.lookup x=some d)→(closOf cells l acc).lookup x=some c→cells.lookup x=some c
 | [],acc,h,e=>h c e
 | (n,k)::r,acc,h,e=>by
  refine closOf_lookup r _ (fun d hd=>?_) e
  split at hd
  ·split at hd
   ·rename_i c' hc'
    cases hx:x == n with
    | true=>
     simp only[List.lookup_cons,hx] at hd
     have:x=n:=by simpa using hx
     subst this
     rw[hc'];exact hd
    | false=>simp only[List.lookup_cons,hx] at hd;exact h d hd
   ·exact h d hd
  ·exact h d hd
theorem closOf_has {cells:List (Str×Addr)}{x:Str}{c:Addr}(hc:cells.lookup x=some c):∀ (l:List (Str×NameKind)) (acc:List (Str×Addr)),(acc.lookup x=some c∨(x,NameKind.free)∈l)→(∀ d,acc.lookup x=some d→d=c)→(closOf cells l acc).lookup x=some c
 | [],acc,h,_=>by
  rcases h with h | h
  ·exact h
  ·cases h
 | (n,k)::r,acc,h,u=>by
  by_cases hk:k=.free
  ·subst hk
   show (closOf cells r (if NameKind.free=.free then match cells.lookup n with | some c=>(n,c)::acc | none=>acc else acc)).lookup x=some c
   rw[if_pos rfl]
   by_cases hx:x=n
   ·subst hx
    rw[hc]
    refine closOf_has hc r _ (.inl (by simp)) fun d hd=>?_
    simp at hd
    exact hd.symm
   ·have hb:(x == n)=false:=by simpa using hx
    have keep:∀ (a2:List (Str×Addr)),(match cells.lookup n with | some c=>(n,c)::acc | none=>acc)=a2→a2.lookup x=acc.lookup x:=by
     intro a2 e
     subst e
     cases cells.lookup n with
     | none=>rfl
     | some c'=>simp only[List.lookup_cons,hb]
    refine closOf_has hc r _ ?_ fun d hd=>u d (by rw[keep _ rfl] at hd;exact hd)
    rcases h with h | h
    ·exact .inl (by rw[keep _ rfl];exact h)
    ·rcases List.mem_cons.mp h with h | h
     ·exact absurd (congrArg Prod.fst h) hx
     ·exact .inr h
  ·show (closOf cells r (if k=.free then _ else acc)).lookup x=some c
   rw[if_neg hk]
   refine closOf_has hc r _ ?_ u
   rcases h with h | h
   ·exact .inl h
   ·rcases List.mem_cons.mp h with h | h
    ·exact absurd (congrArg Prod.snd h).symm hk
    ·exact .inr h
abbrev cmpCx (X:Cx)(N:List Str)(scope:Scope)(cl:List (Str×Addr))(C:Addr)(s2:Shared)(H2:Hp)(fp:List Addr):Cx:=
 { X with N:=N,s₀:=s2,H₀:=H2,env:=compEnvC scope cl C X.env,outer:=X.stack,ex:=fp,fn:=fun _=>false,pn:=[],xe:=fun _ _=>False }
def innerSt (sl:List (Option Nat))(σ:St):St:=sl.map fun o=>match o with | some i=>(σ[i]?).join | none=>none
structure CompScope (X:Cx)(N:List Str)(sl:List (Option Nat))(scope:Scope):Prop where
 kind:scope.kind=.function
 nocell:∀ y∈scope.names,y.2≠.cell
 locs:∀ y∈scope.names,y.2=.local→scope.names.lookup y.1=some .local
 frees:∀ y∈scope.names,y.2=.free→X.env.kindOf y.1=some .cell∨X.env.kindOf y.1=some .free
 len:sl.length=N.length
 out:∀ (j i:Nat) (x:Str),N[j]?=some x→sl[j]?=some (some i)→X.N[i]?=some x∧scope.names.lookup x=some .free
def PIf (X:Cx)(ifs:List Expr)(t:TT):Prop:=
 ∀ (pins:List (Addr×Obj)) (s:Shared) (σ:St) (H:Hp) (Q:Bool→Hp→Prop),Inv X pins σ H s→t σ H Q→
  wpAny (model X.prog X.w) X.A (forIn ifs true fun c r=>if r=true then do let ok ← isTrue c X.env (eval c X.env);pure (ForInStep.yield ok) else pure (ForInStep.yield r)) (TP X pins σ Q) X.xe s
def tAll:TT:=fun _ H Q=>Q true H
theorem pif_none {X:Cx}:PIf X [] tAll:=fun pins s σ H Q I h=>by
 rw[List.forIn_nil]
 exact wpAny_pure ⟨H,I,h⟩
theorem pif_one {X:Cx}{c:Expr}{t:TT}(h:PT X c t):PIf X [c] t:=fun pins s σ H Q I q=>by
 rw[List.forIn_cons]
 refine wpAny_bind ?_
 rw[if_pos rfl]
 refine wpAny_bind (thn (h pins s σ H Q I q) fun b s1 r=>wpAny_pure ?_)
 show wpAny _ _ (forIn [] b _) _ _ _
 rw[List.forIn_nil]
 exact wpAny_pure r
def compW (J:It)(D:Addr)(st:St)(g:TG)(tif:TT)(te:TE)(Q:VK)(H1:Hp):Prop:=∃ W:Nat→Nat→Hp→Prop,
 (∃ m,W 0 m (upd H1 D (.lst [])))∧∀ i m H2,W i m H2→
  (J.stop i H2∧Q (.ref D) H2)∨(J.go i H2∧∀ x H',J.yld i H2 x H'→g x st H' fun σ3 H3=>tif σ3 H3 fun b H4=>
   if b=true then te σ3 H4 fun y H5=>∃ ys,H5 D=some (.lst ys)∧ys.length<sizeLine∧∃ m',m'<m∧W (i+1) m' (upd H5 D (.lst (ys++[y]))) else ∃ m',m'<m∧W (i+1) m' H4)
def tComp (wi:TI)(sl:List (Option Nat))(g:TG)(tif:TT)(te:TE):TE:=fun σ H Q=>wi σ H fun J H1=>∀ D,H1 D=none→compW J D (innerSt sl σ) g tif te Q H1
end L2
set_option Elab.async false
set_option linter.all false
set_option maxRecDepth 100000
namespace L2
open PySem PySem.Spec PyProof.Rows
section
variable {X:Cx} {N:List Str} {sl:List (Option Nat)} {scope:Scope}
theorem innerSt_get {σ:St}{j:Nat}{v:V}(h:(innerSt sl σ)[j]?=some (some v)):∃ i,sl[j]?=some (some i)∧σ[i]?=some (some v):=by
 unfold innerSt at h
 rw[List.getElem?_map] at h
 cases e:sl[j]? with
 | none=>rw[e] at h;cases h
 | some o=>
  rw[e] at h
  cases o with
  | none=>cases h
  | some i=>
   refine⟨i,rfl,?_⟩
   have h':(σ[i]?).join=some v:=Option.some.inj h
   cases e2:σ[i]? with
   | none=>rw[e2] at h';cases h'
   | some q=>rw[e2] at h';exact congrArg some h'
theorem CompScope.clos (S:CompScope X N sl scope)(ok:X.Ok):closureFor scope X.env=pure (closOf X.env.cells scope.names []):=
 closureFor_eq fun y hy hf=>ok.has y.1 (S.frees y hy hf)
theorem CompScope.cell (S:CompScope X N sl scope)(ok:X.Ok){x:Str}(hf:scope.names.lookup x=some .free){c:Addr}(hc:X.env.cells.lookup x=some c):(closOf X.env.cells scope.names []).lookup x=some c:=
 closOf_has hc _ _ (.inr (PySem.mem_of_lookup hf)) fun d hd=>by simp at hd
theorem CompScope.back {x:Str}{c:Addr}(h:(closOf X.env.cells scope.names []).lookup x=some c):X.env.cells.lookup x=some c:=
 closOf_lookup _ _ (fun d hd=>by simp at hd) h
theorem CompScope.ok (S:CompScope X N sl scope){pins:List (Addr×Obj)}{σ:St}{H2:Hp}{s2:Shared}{fp:List Addr}{C:Addr}(I:Inv X pins σ H2 s2)(hf:∀ b∈fp,FpOk X pins H2 b)(hlt:∀ b∈fp,b<s2.heap.objs.size)(hC:s2.heap.objs.size≤C):
  (cmpCx X N scope (closOf X.env.cells scope.names []) C s2 H2 fp).Ok where
 mod:=I.ok.mod
 kind:=S.kind
 glob:=I.ok.glob
 blt:=I.ok.blt
 above:=hC
 inj:=fun x y c h1 h2=>I.ok.inj x y c (CompScope.back h1) (CompScope.back h2)
 has:=fun x hx=>by
  have hx':scope.names.lookup x=some .free:=by
   rcases hx with hx | hx
   ·exact relabel_back S.nocell (.inl rfl) hx
   ·exact relabel_back S.nocell (.inr rfl) hx
  obtain⟨c,hc⟩:=I.ok.has x (S.frees _ (PySem.mem_of_lookup hx') rfl)
  exact⟨c,S.cell I.ok hx' hc⟩
 cab:=fun x c h=>absurd (show false=true from h) Bool.false_ne_true
 hd:=I.ok.hd
 frames:=I.ok.frames
 stk:=.inl rfl
 exf:=fun b hb=>⟨Nat.ne_of_lt (Nat.lt_of_lt_of_le (hlt b hb) hC),fun x c h=>(hf b hb).2.2.2.2.1 x c (CompScope.back h)⟩
 bs:=I.bs
 bsz:=Nat.le_trans I.ok.bsz I.sz
 noex:=fun b o e hb=>by
  rcases (hf b hb).2.2.2.1 with z | z
  ·exact I.ok.noex b o e z
  ·exact absurd (Nat.lt_of_lt_of_le (Nat.lt_of_lt_of_le (Heap.lt_size e) I.ok.bsz) z) (Nat.lt_irrefl _)
 exfs:=fun b hb z=>by
  rcases List.mem_cons.mp (I.stkSub b z) with e | e
  ·exact (hf b hb).2.1 e
  ·exact (hf b hb).2.2.1 e
 funs:=I.stack
 frf:=I.stkFree
theorem CompScope.again (S:CompScope X N sl scope){pins:List (Addr×Obj)}{σ:St}{H2:Hp}{s2:Shared}{fp:List Addr}{C:Addr}(I:Inv X pins σ H2 s2)(hf:∀ b∈fp,FpOk X pins H2 b)
  {pins':List (Addr×Obj)} {σ':St} {H':Hp} {s':Shared} (J:Inv (cmpCx X N scope (closOf X.env.cells scope.names []) C s2 H2 fp) pins' σ' H' s'):
  Inv (cmpCx X N scope (closOf X.env.cells scope.names []) C s2 H2 fp) pins' (innerSt sl σ) H' s':=by
 obtain⟨m,hn,_⟩:=J.loc
 refine⟨J.ok,J.os,J.bare,J.base,⟨m,hn,fun j x v e1 e2 _=>?_⟩,J.cell,J.free,J.freeC,J.pin,J.hok,?_⟩
 ·obtain⟨i,h1,h2⟩:=innerSt_get e2
  obtain⟨hN,hfree⟩:=S.out j i x e1 h1
  have hk:=S.frees _ (PySem.mem_of_lookup hfree) rfl
  obtain⟨m0,hn0,hl0⟩:=I.loc
  have hv:Vis X.env.scope x:=by
   rcases hk with hk | hk
   ·exact .inr (.inl hk)
   ·exact .inr (.inr hk)
  obtain⟨u,r,l⟩:=hl0 i x v hN h2 hv
  refine⟨u,r,.inr ⟨?_,?_⟩⟩
  ·rcases lookup_relabel_free (env:=X.env) hfree with z | z
   ·exact .inr z
   ·exact .inl z
  ·rcases l with ⟨z,_⟩ | ⟨_,c,hc,q⟩
   ·rcases hk with hk | hk
    ·have hk':X.env.kindOf x=some .cell:=hk
     rw[hk'] at z;cases z
    ·have hk':X.env.kindOf x=some .free:=hk
     rw[hk'] at z;cases z
   ·refine⟨c,S.cell I.ok hfree hc,?_⟩
    obtain⟨o,ho,hd⟩:=q
    have ncfp:c ∉ fp:=fun z=>(hf c z).2.2.2.2.1 x c hc rfl
    obtain⟨sl',e⟩:=J.base.any ho (I.freeC x c hc) ncfp
    exact⟨_,e,hd⟩
 ·unfold innerSt
  rw[List.length_map]
  exact S.len
theorem comp_run {elt tg iter:Expr}{ifs:List Expr}{pos pos2:Pos}{wi:TI}{g:TG}{tif:TT}{te:TE}{use:Option (Value→Sem Unit)}{QQ:Value→Shared→Prop}(S:CompScope X N sl scope)(hcalm:X.calm=true)(hi:PI X tg iter wi)
  (hg:∀ cl C s2 H2 fp,PG (cmpCx X N scope cl C s2 H2 fp) tg g) (hif:∀ cl C s2 H2 fp,PIf (cmpCx X N scope cl C s2 H2 fp) ifs tif) (he:∀ cl C s2 H2 fp,PE (cmpCx X N scope cl C s2 H2 fp) elt te)
  (hs:∀ x,foldedSetIterable iter X.env x=pure x) {pins:List (Addr×Obj)} {s:Shared} {σ:St} {H:Hp} {Q:VK} (I:Inv X pins σ H s) (h:tComp wi sl g tif te σ H Q)
  (hend:∀ (D C:Addr) (H3:Hp) (s4:Shared) (fl:Flow),Inv X pins σ H3 s4→H3 C=none→C≠X.env.locals→C ∉ X.fs→X.s₀.heap.objs.size≤C→(∀ x c,X.env.cells.lookup x=some c→c≠C)→(∀ p∈X.pn++pins,p.1≠C)→(∃ m,s4.heap.Ns C m)→Q (.ref D) H3→
   compPost (model X.prog X.w) X.A X.xe use QQ (.ref D) C (.ok fl) s4):
  wpAny (model X.prog X.w) X.A (comprehension (.ListComp elt [⟨tg,iter,ifs,0⟩] scope pos) scope X.env pos2 (newList []) false (eval iter X.env) use) QQ X.xe s:=by
 refine wpAny_comprehension_free (use:=use) rfl hs (S.clos I.ok) S.kind S.locs (wpAny_mono (hi pins s σ H _ I h) (fun xv s1 h1=>wpAny_mono h1 (fun itv s2 h2=>?_) fun _ _ e=>e) fun _ _ e=>e)
 obtain⟨it,fp,tn,J,H2,rfl,I2,T,st2,f2,hR⟩:=h2
 obtain⟨W,⟨m0,w0⟩,turn⟩:=hR _ I2.fresh
 refine wpAny_newObj_type (wpAny_newFunctionEnv S.nocell (by intro y hy;simp at hy) (fun h₁ hns₁ hsb₁=>?_) S.kind)
 dsimp only at hns₁ hsb₁ ⊢
 generalize hP:s2.heap.push { cls:=.type "list",dict:=none,data:=.seq ([]:List Value).toArray }=P2 at hns₁ hsb₁ ⊢
 have hC:P2.objs.size=s2.heap.objs.size+1:=by rw[← hP,Heap.size_push]
 have hDC:s2.heap.objs.size≠P2.objs.size:=by rw[hC];exact Nat.ne_of_lt (Nat.lt_succ_self _)
 have hCle:s2.heap.objs.size≤P2.objs.size:=by rw[hC];exact Nat.le_succ _
 have hlt:∀ b∈fp,b<s2.heap.objs.size:=fun b hb=>let ⟨o,e,_⟩:=T.obj 0 _ st2 b hb;Heap.lt_size e
 have old:∀ b o,s2.heap.get? b=some o→h₁.get? b=some o:=fun b o e=>hsb₁.extBut b o (Nat.ne_of_lt (Nat.lt_of_lt_of_le (Heap.lt_size e) hCle)) (Heap.get?_push_of_some _ (hP ▸ Heap.get?_push_of_some _ e))
 have hD1:h₁.get? s2.heap.objs.size=some { cls:=.type "list",dict:=none,data:=.seq ([]:List Value).toArray }:=hsb₁.extBut _ _ hDC (Heap.get?_push_of_some _ (hP ▸ Heap.get?_push_size _ rfl))
 have hok:=S.ok (C:=P2.objs.size) I2 f2 hlt hCle
 have hokH:HOk X.prog X.w (upd H2 s2.heap.objs.size (.lst [])) h₁:=I2.hok.laid old (Nat.le_refl _) ⟨Nat.zero_le _,[],_,.nil,hD1⟩
 have hUn:Un (frs X.stack) fp H2 (upd H2 s2.heap.objs.size (.lst [])) s2.heap h₁:=Un.laid old (Nat.le_refl _) I2.fresh
 have hcellK:∀ x c,(closOf X.env.cells scope.names []).lookup x=some c→∃ v,h₁.IsCell c v:=fun x c hc=>by
  obtain⟨v,o,ho,hd⟩:=I2.cell x c (CompScope.back hc)
  exact⟨v,o,old c o ho,hd⟩
 have hfreeK:∀ x c,(closOf X.env.cells scope.names []).lookup x=some c→upd H2 s2.heap.objs.size (.lst []) c=none:=fun x c hc=>by
  obtain⟨v,q⟩:=I2.cell x c (CompScope.back hc)
  rw[upd_ne (Nat.ne_of_lt q.lt)]
  exact I2.freeC x c (CompScope.back hc)
 have hfreeC:upd H2 s2.heap.objs.size (.lst []) P2.objs.size=none:=by
  rw[upd_ne (Ne.symm hDC)]
  exact I2.hok.fresh hCle
 have start:∀ tk:Nat,Inv (cmpCx X N scope (closOf X.env.cells scope.names []) P2.objs.size s2 H2 fp) [] (innerSt sl σ) (upd H2 s2.heap.objs.size (.lst [])) { s2 with heap:=h₁,toks:=tk }:=fun tk=>by
  have J0:Inv (cmpCx X N scope (closOf X.env.cells scope.names []) P2.objs.size s2 H2 fp) [] (List.replicate N.length none) (upd H2 s2.heap.objs.size (.lst [])) { s2 with heap:=h₁,toks:=tk }:=
   ⟨hok,rfl,I2.bare,hUn,⟨_,hns₁,fun i x v e1 e2 _=>by
    rw[List.getElem?_replicate] at e2
    split at e2 <;> cases e2⟩,hcellK,hfreeC,hfreeK,fun p hp=>absurd (show p∈([]:List (Addr×Obj)) from hp) (by simp),hokH,by simp⟩
  exact S.again I2 f2 J0
 have stK:tn 0 h₁:=T.keep _ _ _ st2 fun b hb o e=>old b o e
 have fr1:∀ b∈fp,upd H2 s2.heap.objs.size (.lst []) b=none:=fun b hb=>by
  rw[upd_ne (Nat.ne_of_lt (hlt b hb))]
  exact (f2 b hb).1
 have stat:∀ {H':Hp},(∀ b∈fp,H' b=none)→∀ b∈fp,FpOk (cmpCx X N scope (closOf X.env.cells scope.names []) P2.objs.size s2 H2 fp) [] H' b:=fun hn b hb=>
  ⟨hn b hb,Nat.ne_of_lt (Nat.lt_of_lt_of_le (hlt b hb) hCle),fun z=>hok.exfs b hb z,.inl hb,fun x c hc=>(hok.exf b hb).2 x c hc,fun p hp=>absurd (show p∈([]:List (Addr×Obj)) from hp) (by simp)⟩
 have loop:∀ tk:Nat,codeAny (model X.prog X.w) X.A (.compLoop (.ListComp elt [⟨tg,iter,ifs,0⟩] scope pos) 0 (.ref it) (.ref s2.heap.objs.size) (compEnvC scope (closOf X.env.cells scope.names []) P2.objs.size X.env))
   (compPost (model X.prog X.w) X.A X.xe use QQ (.ref s2.heap.objs.size) P2.objs.size) { s2 with heap:=h₁,toks:=tk }:=fun tk=>by
  refine codeAny_loop rfl (fun n s'=>∃ i H',Inv (cmpCx X N scope (closOf X.env.cells scope.names []) P2.objs.size s2 H2 fp) [] (innerSt sl σ) H' s'∧tn i s'.heap∧(∀ b∈fp,H' b=none)∧W i n H') ?_ m0 ⟨0,_,start tk,stK,fr1,w0⟩
  rintro n s3 ⟨i,H3,I3,st3,fr3,w3⟩
  show wpAny _ X.A ((compTurn (.ListComp elt [⟨tg,iter,ifs,0⟩] scope pos) 0 (.ref it) (.ref s2.heap.objs.size) (compEnvC scope (closOf X.env.cells scope.names []) P2.objs.size X.env)).onRaise (fun x=>do noteFrame x (compEnvC scope (closOf X.env.cells scope.names []) P2.objs.size X.env);theTreesLotGoes x)) _ _ s3
  refine wpAny_noted ?_
  rw[compTurn_list]
  rcases turn i n H3 w3 with ⟨stop,qn⟩ | ⟨go,step⟩
  ·refine wpAny_bind (wpAny_standAt (wpAny_bind (wpAny_mono (T.done (cmpCx X N scope (closOf X.env.cells scope.names []) P2.objs.size s2 H2 fp) rfl rfl rfl hcalm i [] s3 _ H3 _ I3 (stat fr3) st3 stop) (fun r s4 ⟨hr,I4⟩=>?_) fun _ _ z=>z)))
   subst hr
   refine wpAny_pure ?_
   obtain⟨m4,hn4,_⟩:=I4.loc
   have u0:Un (frs X.stack) fp H2 H3 s2.heap s4.heap:=I4.base
   have hI:Inv X pins σ H3 s4:=I2.call' (s':=s4) (ch:=fp) I4.os u0 I4.hok I4.bare fun b hb=>⟨(f2 b hb).2.2.2.1,(f2 b hb).2.1,(f2 b hb).2.2.2.2.1,(f2 b hb).2.2.2.2.2⟩
   have hC':=I2.fpOk (H':=H3) hCle I4.free
   exact hend _ _ H3 s4 _ hI I4.free hC'.2.1 hC'.2.2.1 (Nat.le_trans I2.sz hCle) hC'.2.2.2.2.1 hC'.2.2.2.2.2 ⟨m4,hn4⟩ qn
  ·refine wpAny_bind (wpAny_standAt (wpAny_bind (wpAny_mono (T.item (cmpCx X N scope (closOf X.env.cells scope.names []) P2.objs.size s2 H2 fp) rfl rfl rfl hcalm i [] s3 _ H3 (fun _ _=>False) I3 (stat fr3) st3 go) (fun r s4 ⟨u,hr,h4⟩=>?_) fun _ _ z=>z.elim)))
   subst hr
   refine wpAny_bind (wpAny_mono h4 (fun _ s5 ⟨x,H5,I5,r5,y5,st5,fr5⟩=>?_) fun _ _ z=>z.elim)
   have I5':=I5.pinned (stat fr5) (T.obj _ _ st5)
   refine wpAny_bind (wpAny_mono (hg _ _ _ _ _ _ s5 _ H5 x u _ I5' r5 (step x H5 y5)) (fun _ s6 ⟨σ6,H6,I6,q6⟩=>?_) fun _ _ z=>(show False from z).elim)
   have again:∀ {σ7:St} {H7:Hp} {s7:Shared},Inv (cmpCx X N scope (closOf X.env.cells scope.names []) P2.objs.size s2 H2 fp) ([]++pinsAt fp s5.heap) σ7 H7 s7→(∃ m',m'<n∧W (i+1) m' H7)→
     ∃ m',m'<n∧∃ i H',Inv (cmpCx X N scope (closOf X.env.cells scope.names []) P2.objs.size s2 H2 fp) [] (innerSt sl σ) H' s7∧tn i s7.heap∧(∀ b∈fp,H' b=none)∧W i m' H':=fun {σ7 H7 s7} I7 ⟨m',hm,w7⟩=>by
    refine⟨m',hm,i+1,H7,S.again I2 f2 I7.unpinned,T.keep _ _ _ st5 fun b hb o e=>(I7.pin (b,o) (List.mem_append_right _ (List.mem_append_right _ (mem_pinsAt hb e)))).1,fun b hb=>?_,w7⟩
    obtain⟨o,e,d⟩:=T.obj _ _ st5 b hb
    exact (I7.pin (b,o) (List.mem_append_right _ (List.mem_append_right _ (mem_pinsAt hb e)))).2.1
   refine wpAny_bind (wpAny_mono (hif _ _ _ _ _ _ s6 σ6 H6 _ I6 q6) (fun ok s7 ⟨H7,I7,q7⟩=>?_) fun _ _ z=>(show False from z).elim)
   cases ok with
   | false=>
    exact wpAny_pure ⟨rfl,again I7 (by simpa using q7)⟩
   | true=>
    rw[if_pos rfl] at q7
    refine wpAny_bind (wpAny_bind (wpAny_mono ((he _ _ _ _ _).out _ s7 σ6 H7 _ I7 q7) (fun y s8 ⟨yv,H8,I8,r8,ys,hys,hlen,w8⟩=>?_) fun _ _ z=>(show False from z).elim))
    refine wpAny_bind (wpAny_mono (mt_append (X:=cmpCx X N scope (closOf X.env.cells scope.names []) P2.objs.size s2 H2 fp) _ s8 σ6 H8 (.ref s2.heap.objs.size) [yv] (.ref s2.heap.objs.size) [y]
     (fun v H9=>v=.non∧∃ m',m'<n∧W (i+1) m' H9) I8 rfl (.cons r8 .nil) ⟨_,ys,yv,rfl,rfl,hys,hlen,rfl,w8⟩) (fun r s9 ⟨v9,H9,I9,r9,e9,w9⟩=>?_) fun _ _ z=>(show False from z).elim)
    exact wpAny_pure (wpAny_pure ⟨rfl,again I9 w9⟩)
 exact codeAny_compStart_list (loop _) (T.self _ 0 _ _ _ stK (loop _))
theorem pe_comp {elt tg iter:Expr}{ifs:List Expr}{pos:Pos}{wi:TI}{g:TG}{tif:TT}{te:TE}(S:CompScope X N sl scope)(hcalm:X.calm=true)(hi:PI X tg iter wi)
  (hg:∀ cl C s2 H2 fp,PG (cmpCx X N scope cl C s2 H2 fp) tg g) (hif:∀ cl C s2 H2 fp,PIf (cmpCx X N scope cl C s2 H2 fp) ifs tif) (he:∀ cl C s2 H2 fp,PE (cmpCx X N scope cl C s2 H2 fp) elt te)
  (hs:∀ x,foldedSetIterable iter X.env x=pure x:=by intro _;rfl):
  PE X (.ListComp elt [⟨tg,iter,ifs,0⟩] scope pos) (tComp wi sl g tif te):=by
 refine⟨?_⟩
 intro pins s σ H Q I h
 rw[eval_ListComp]
 refine comp_run S hcalm hi hg hif he hs I h fun D C H3 s4 fl I4 n1 n2 n3 n4 n5 n6 ⟨m,hn⟩ q=>?_
 exact⟨m,hn,fun h' hsb=>⟨.ref D,H3,I4.turned (t':=s4.toks) (fun b o hb e=>(hsb.2 b hb).trans e) n1 n2 (.inr n4) n5 n6,rfl,q⟩⟩
theorem ps_setC {i:Nat}{x:Str}{elt tg iter:Expr}{ifs:List Expr}{cpos pos pos':Pos}{wi:TI}{g:TG}{tif:TT}{te:TE}(hN:X.N.Nodup)(hi':X.N[i]?=some x)(hx:Loc X.env.scope x)(S:CompScope X N sl scope)(hcalm:X.calm=true)(hi:PI X tg iter wi)
  (hg:∀ cl C s2 H2 fp,PG (cmpCx X N scope cl C s2 H2 fp) tg g) (hif:∀ cl C s2 H2 fp,PIf (cmpCx X N scope cl C s2 H2 fp) ifs tif) (he:∀ cl C s2 H2 fp,PE (cmpCx X N scope cl C s2 H2 fp) elt te)
  (hsw:swapsWith (.ListComp elt [⟨tg,iter,ifs,0⟩] scope cpos) (some (.Name x pos')) pos.line X.env=pure true:=by rfl)
  (hs:∀ x,foldedSetIterable iter X.env x=pure x:=by intro _;rfl) (hf:X.fn x=true∨X.env.scope.names.lookup x=some .local:=by first|exact .inl rfl|exact .inr rfl|assumption):
  PS X (.Assign [.Name x pos'] (.ListComp elt [⟨tg,iter,ifs,0⟩] scope cpos) pos) (tAsg (tComp wi sl g tif te) (gName i)):=by
 refine⟨?_⟩
 intro pins s σ H D0 I h
 rw[exec_Assign_Name_used _ _ _ _ hsw]
 refine wpAny_bind (wpAny_standAt (wpAny_bind ?_))
 show wpAny _ X.A (do let _ ← comprehension (.ListComp elt [⟨tg,iter,ifs,0⟩] scope cpos) scope X.env _ (newList []) false (eval iter X.env) (some (assign (.Name x pos') X.env))) _ _ s
 refine wpAny_bind (wpAny_mono (comp_run (QQ:=fun _ s'=>∃ σ' H',Inv X pins σ' H' s'∧D0.nx σ' H') (use:=some (assign (.Name x pos') X.env)) S hcalm hi hg hif he hs I h fun D C H3 s4 fl I4 n1 n2 n3 n4 n5 n6 hm q=>?_)
  (fun _ s' hq=>wpAny_pure (wpAny_pure hq)) fun _ _ e=>e)
 obtain⟨m,hn⟩:=hm
 show wpAny _ X.A (assign (.Name x pos') X.env (.ref D)) _ _ _
 refine wpAny_assign_Name (store_ok2 I4 hN hi' hx (show RelV (.ref D) (.ref D) from rfl) (fun s5 I5 ⟨a,hsb,ha⟩=>?_) hf)
 have hCa:C≠a:=by
  rcases ha with rfl | ha
  ·exact n2
  ·exact fun z=>n5 _ _ ha z.symm
 refine⟨m,hn.sameBut hsb hCa,fun h' hsb'=>⟨_,H3,I5.turned (t':=s5.toks) (fun b o hb e=>(hsb'.2 b hb).trans e) n1 n2 (.inr n4) n5 n6,q⟩⟩
end
end L2
set_option Elab.async false
set_option linter.all false
set_option maxRecDepth 100000
namespace L2
open PySem PySem.Spec PyProof.Rows
section
variable {X:Cx}
def CMulO (i j:Int):Prop:=IntMulOk i j
def CDivW (i j:Int):Prop:=j≠0∧j.natAbs<2 ^ 9000
theorem CDivW.py {i j:Int}(h:CDivW i j):Builtin.divisionGoesByPylong i j=false:=by
 refine PyProof.noPylong_of_log2 ?_
 have h0:j.natAbs≠0:=fun z=>h.1 (Int.natAbs_eq_zero.mp z)
 exact (Nat.log2_lt h0).mpr h.2
theorem op_mulO:OpR X (binaryOp .Mult) (rI CMulO fun i j=>.int (i*j)):=opI fun _ _ _ _ _ _ _ hc q=>mul_int q hc
theorem op_fdivW:OpR X (binaryOp .FloorDiv) (rI CDivW fun i j=>.int (i.fdiv j)):=opI fun _ _ _ _ _ _ _ hc q=>floordiv_int hc.1 q (.inl hc.py)
theorem mulOk {a b:Int}{m n:Nat}(ha:a.natAbs<2 ^ m)(hb:b.natAbs<2 ^ n)(h:m+n≤134217728):CMulO a b:=
 IntMulOk.of_le (intBits_le_iff.mpr ha) (intBits_le_iff.mpr hb) h
theorem mulOkL {a b:Int}(h1:-(2 ^ 64)<a)(h2:a<2 ^ 64):CMulO a b:=.of_left (intBits_le_64 h1 h2)
theorem mulOkR {a b:Int}(h1:-(2 ^ 64)<b)(h2:b<2 ^ 64):CMulO a b:=.of_right (intBits_le_64 h1 h2)
def isPlain:V→Bool
 | .non=>true
 | .bl _=>true
 | _=>false
inductive TyB (K:FrQ)(H:Hp):V→String→Prop where
 | non:TyB K H .non "NoneType"
 | bl (x:Bool):TyB K H (.bl x) "bool"
 | int (i:Int):TyB K H (.int i) "int"
 | str (x:Str):TyB K H (.str x) "str"
 | lst {a:Addr} {xs:List V} (e:SqL K H a xs):TyB K H (.ref a) "list"
 | tup {a:Addr} {xs:List V} (e:SqT K H a xs):TyB K H (.ref a) "tuple"
theorem call_isinst:CallR X (.builtin "isinstance") (fun xs H Q=>∃ x T T' b,xs=[x,.ty T']∧TyB X.K H x T∧PySem.W.kitOne X.K (.type T) (.type T')=some b∧Q (.bl b) H):=by
 intro pins s σ H xs us Q I rv h
 obtain⟨x,T,T',b,rfl,ty,e,q⟩:=h
 obtain⟨u,w',rfl,rx,rt⟩:=vals2 rv
 obtain rfl:w'=Value.type T':=rt
 have fin:∀ tk,EP X pins σ Q (.bool b) { s with toks:=tk }:=fun tk=>⟨.bl b,H,I.tok tk,rfl,q⟩
 cases ty with
 | non=>cases (show u=Value.none from rx);exact PySem.W.kia_one PySem.W.kitx_none I.kIn True.intro e (fun z=>nomatch z) fin
 | bl y=>cases (show u=Value.bool y from rx);exact PySem.W.kia_one PySem.W.kitx_bool I.kIn True.intro e (fun z=>nomatch z) fin
 | int i=>obtain⟨t,q'⟩:=(show ∃ t,u=Value.int i t from rx);cases q';exact PySem.W.kia_one PySem.W.kitx_int I.kIn True.intro e (fun z=>nomatch z) fin
 | str y=>obtain⟨t,q'⟩:=(show ∃ t,u=Value.str y t from rx);cases q';exact PySem.W.kia_one PySem.W.kitx_str I.kIn True.intro e (fun z=>nomatch z) fin
 | @lst a ys ea=>
  cases (show u=Value.ref a from rx)
  obtain⟨its,_,⟨o,n,h1,h2,_⟩,_⟩:=I.list ea
  exact PySem.W.kia_one PySem.W.kitx_list I.kIn ⟨o,h1,h2⟩ e (fun z=>nomatch z) fin
 | @tup a ys ea=>
  cases (show u=Value.ref a from rx)
  obtain⟨its,_,⟨o,h1,h2,_⟩,_⟩:=I.tuple ea
  exact PySem.W.kia_one PySem.W.kitx_tuple I.kIn ⟨o,h1,h2⟩ e (fun z=>nomatch z) fin
inductive Den (K:FrQ)(H:Hp):V→PyData→Prop where
 | non:Den K H .non .none
 | bl (b:Bool):Den K H (.bl b) (.bool b)
 | int (i:Int):Den K H (.int i) (.int i)
 | str (x:Str):Den K H (.str x) (.str x)
 | lst {a:Addr} {xs:List V} {ds:List PyData}:SqL K H a xs→xs.length=ds.length→(∀ (i:Nat) x d,xs[i]?=some x→ds[i]?=some d→Den K H x d)→Den K H (.ref a) (.list ds)
 | tup {a:Addr} {xs:List V} {ds:List PyData}:SqT K H a xs→xs.length=ds.length→(∀ (i:Nat) x d,xs[i]?=some x→ds[i]?=some d→Den K H x d)→Den K H (.ref a) (.tuple ds)
theorem readsAll_of {h:Heap}:∀ {us:List Value} {ds:List PyData},us.length=ds.length→(∀ (i:Nat) u d,us[i]?=some u→ds[i]?=some d→∃ as,Reads h u d as)→∃ as,ReadsAll h us ds as
 | [],[],_,_=>⟨[],.nil⟩
 | [],_::_,e,_=>by simp at e
 | _::_,[],e,_=>by simp at e
 | u::us,d::ds,e,f=>by
  obtain⟨as,r⟩:=f 0 u d rfl rfl
  obtain⟨bs,rs⟩:=readsAll_of (us:=us) (ds:=ds) (by simpa using e) fun i u d h1 h2=>f (i+1) u d (by simpa using h1) (by simpa using h2)
  exact⟨as++bs,.cons r rs⟩
theorem Vals.back {xs:List V}{us:List Value}(r:Vals xs us){i:Nat}{u:Value}(h:us[i]?=some u):∃ x,xs[i]?=some x∧RelV x u:=by
 have hi:i<us.length:=(List.getElem?_eq_some_iff.mp h).1
 have hx:i<xs.length:=by rw[r.length];exact hi
 obtain⟨u',h',rel⟩:=r.get (List.getElem?_eq_getElem hx)
 rw[h] at h';cases h'
 exact⟨_,List.getElem?_eq_getElem hx,rel⟩
theorem Den.reads {pins:List (Addr×Obj)}{σ:St}{H:Hp}{s:Shared}(I:Inv X pins σ H s){v:V}{d:PyData}(D:Den X.K H v d):∀ {u:Value},RelV v u→∃ as,Reads s.heap u d as:=by
 induction D with
 | non=>intro u r;cases (show u=Value.none from r);exact⟨_,.none⟩
 | bl b=>intro u r;cases (show u=Value.bool b from r);exact⟨_,.bool b⟩
 | int i=>intro u r;obtain⟨t,rfl⟩:=(show ∃ t,u=Value.int i t from r);exact⟨_,.int i t⟩
 | str x=>intro u r;obtain⟨t,rfl⟩:=(show ∃ t,u=Value.str x t from r);exact⟨_,.str x t⟩
 | @lst a xs ds q hl _ ih=>
  intro u r
  cases (show u=Value.ref a from r)
  obtain⟨its,rv,⟨o,n,h1,h2,h3,h4⟩,_⟩:=I.list q
  obtain⟨as,ra⟩:=readsAll_of (h:=s.heap) (us:=its) (ds:=ds) (by rw[← rv.length];exact hl) fun i u d e1 e2=>by
   obtain⟨x,ex,rel⟩:=rv.back e1
   exact ih i x d ex e2 rel
  exact⟨_,.list h1 h2 h4 (by simpa using ra)⟩
 | @tup a xs ds q hl _ ih=>
  intro u r
  cases (show u=Value.ref a from r)
  obtain⟨its,rv,⟨o,h1,h2,n,h4⟩,_⟩:=I.tuple q
  obtain⟨as,ra⟩:=readsAll_of (h:=s.heap) (us:=its) (ds:=ds) (by rw[← rv.length];exact hl) fun i u d e1 e2=>by
   obtain⟨x,ex,rel⟩:=rv.back e1
   exact ih i x d ex e2 rel
  exact⟨_,.tuple h1 h2 h4 (by simpa using ra)⟩
theorem Same.tup {K:FrQ}{H H':Hp}{a:Addr}{xs:List V}(e:Same H H')(h:SqT K H a xs):SqT K H' a xs:=by
 rcases h with (h | ⟨o,h⟩) | h
 ·exact .inl (.inl (e _ _ h))
 ·exact .inl (.inr ⟨o,e _ _ h⟩)
 ·exact .inr h
theorem Den.same {K:FrQ}{H H':Hp}(e:Same H H'){v:V}{d:PyData}(D:Den K H v d):Den K H' v d:=by
 induction D with
 | non=>exact .non
 | bl b=>exact .bl b
 | int i=>exact .int i
 | str x=>exact .str x
 | lst q hl _ ih=>exact .lst (e.seq q) hl ih
 | tup q hl _ ih=>exact .tup (e.tup q) hl ih
def rEqD (K:FrQ)(neg:Bool):R2:=fun x y H Q=>∃ d e,Den K H x d∧Den K H y e∧SeqAt.shaped d=true∧SeqAt.shaped e=true∧Q (.bl (if neg then !PyData.eqv d e else PyData.eqv d e)) H
theorem op_eqD (hu:X.A.units+64<cLine):OpR X (compareOp .Eq) (rEqD X.K false):=by
 intro pins s σ H x y v u Q I rx ry h
 obtain⟨d,e,Dx,Dy,sd,se,q⟩:=h
 obtain⟨as,ra⟩:=Dx.reads I rx
 obtain⟨bs,rb⟩:=Dy.reads I ry
 exact SeqAt.compareEq_shaped ra rb sd se hu (fin_bl I q rfl)
theorem op_neD (hu:X.A.units+64<cLine):OpR X (compareOp .NotEq) (rEqD X.K true):=by
 intro pins s σ H x y v u Q I rx ry h
 obtain⟨d,e,Dx,Dy,sd,se,q⟩:=h
 obtain⟨as,ra⟩:=Dx.reads I rx
 obtain⟨bs,rb⟩:=Dy.reads I ry
 exact SeqAt.compareNe_shaped ra rb sd se hu (fin_bl I q rfl)
def scalD:V→Option PyData
 | .non=>some .none
 | .bl b=>some (.bool b)
 | .int i=>some (.int i)
 | .str x=>some (.str x)
 | _=>none
theorem den_scal {K:FrQ}{H:Hp}{v:V}{d:PyData}(h:scalD v=some d):Den K H v d:=by
 cases v <;> first|(cases h;constructor)|cases h
def scalDs:List V→Option (List PyData)
 | []=>some []
 | v::r=>match scalD v,scalDs r with
  | some d,some ds=>some (d::ds)
  | _,_=>none
theorem scalDs_ok:∀ {xs:List V} {ds:List PyData},scalDs xs=some ds→xs.length=ds.length∧∀ (i:Nat) x d,xs[i]?=some x→ds[i]?=some d→scalD x=some d
 | [],ds,h=>by cases h;exact⟨rfl,fun i x d h=>by simp at h⟩
 | v::r,ds,h=>by
  unfold scalDs at h
  cases e1:scalD v with
  | none=>rw[e1] at h;cases h
  | some d0=>
   cases e2:scalDs r with
   | none=>rw[e1,e2] at h;cases h
   | some dr=>
    rw[e1,e2] at h
    cases h
    obtain⟨hl,hx⟩:=scalDs_ok e2
    refine⟨by simp[hl],fun i x d h1 h2=>?_⟩
    cases i with
    | zero=>simp at h1 h2;rw[← h1,← h2];exact e1
    | succ i=>exact hx i x d (by simpa using h1) (by simpa using h2)
theorem den_lst {K:FrQ}{H:Hp}{a:Addr}{xs:List V}{ds:List PyData}(q:SqL K H a xs)(h:scalDs xs=some ds):Den K H (.ref a) (.list ds):=
 .lst q (scalDs_ok h).1 fun i x d h1 h2=>den_scal ((scalDs_ok h).2 i x d h1 h2)
theorem scalDs_ints:∀ (ns:List Int),scalDs (ns.map V.int)=some (ns.map PyData.int)
 | []=>rfl
 | n::ns=>by
  show (match scalD (.int n),scalDs (ns.map V.int) with | some d,some ds=>some (d::ds) | _,_=>none)=_
  rw[scalDs_ints ns]
  rfl
theorem boolsAre_of:∀ {bs:List Bool} {us:List Value},Vals (bs.map V.bl) us→LSm.BoolsAre us bs
 | [],_,.nil=>.nil
 | b::bs,_,.cons r t=>by
  cases (show _=Value.bool b from r)
  exact .cons b (boolsAre_of t)
theorem call_all (hc:X.calm=true):CallR X (.builtin "all") (fun xs H Q=>∃ p,∃ bs:List Bool,xs=[.ref p]∧SqL X.K H p (bs.map V.bl)∧Q (.bl (bs.all id)) H):=by
 intro pins s σ H xs us Q I rv h
 obtain⟨p,bs,rfl,hq,q⟩:=h
 obtain⟨u,rfl,ru⟩:=vals1 rv
 cases (show u=Value.ref p from ru)
 obtain⟨its,r,hp,_⟩:=I.list hq
 have hb:=boolsAre_of r
 have hl:=hp.isList
 have hlt:p<s.heap.objs.size:=by obtain⟨_,e,_⟩:=hl;exact Heap.lt_size e
 refine call_all_walk (wpAny_pyIter_list hl ?_)
 refine⟨s.heap.objs.size,[s.heap.objs.size,p],[s.heap.objs.size],its.toArray.size,_,_,fun i=>(bs[i]?).getD true,rfl,Walks.list (A:=X.A.in1) (I.ok.hd hc) _ p (Nat.ne_of_lt hlt) its.toArray,
  ⟨⟨_,Heap.get?_push_size _ rfl,rfl,rfl⟩,hl.push _⟩,fun i v s' Q' E' hP hQ=>?_,fun h' tk hk=>?_⟩
 ·obtain⟨b,e,rfl⟩:=hb.get i v (by simpa using hP)
  simp only[e,Option.getD_some] at hQ
  exact wpAny_truthy_bool hQ
 ·have e:((List.range its.toArray.size).all fun i=>(bs[i]?).getD true)=bs.all id:=by
   rw[List.size_toArray,hb.length];exact LSm.range_all bs
  rw[e]
  exact⟨.bl _,H,I.kept (h':=h') (t':=tk) (LSm.kept_iter hk),rfl,q⟩
end
structure Src (K:FrQ)(mg:Str→Option Value)(x:Str)(st:Stmt)(ps:List Str):Prop where
 ex:∃ f fd,Fun K x x st f fd∧Binds K fd ps []∧mg x=some (.ref f)
structure Dfn (P:Program)(w:World)(K:FrQ)(mg:Str→Option Value)(base:Heap)(k:Nat)(x:Str)(ps:List Str)(sp:Sp):Prop where
 ex:∃ f fd,FnOk P w K mg base CX0 k f fd ps sp∧Binds K fd ps []∧PySem.W.keepIn K (.ref f)=true∧mg x=some (.ref f)
section
variable {P:Program} {w:World} {K:FrQ} {mg:Str→Option Value} {base:Heap}
theorem Src.ok {x:Str}{st:Stmt}{N ps:List Str}{k:Nat}{sp:Sp}(F:Src K mg x st ps)(S:FnScope N ps (defScope st))(len:∀ vs H Q E,sp vs H Q E→vs.length=ps.length)
  (hbody:∀ (f:Addr) (cdv:Value) (A:Around) (outer:List Env) (s:Shared) (H:Hp) (vs:List V) (Q:VK) (E:XK),Room k (A.deeper (envOfC x (defScope st) s.heap.objs.size f cdv))→sp vs H Q E→
   ∃ t,PSs (cxOf CX0 P w K mg base N x (defScope st) f cdv A outer s H E).nox (defBody st) t∧t { nx:=fun _ H'=>Q .non H',rt:=Q } (start N vs) H):Dfn P w K mg base (k+1) x ps sp:=by
 obtain⟨f,fd,F,B,M⟩:=F.ex
 exact⟨f,fd,F.ok S len (hbody f),B,F.kp,M⟩
theorem Dfn.imp {k:Nat}{x:Str}{ps:List Str}{sp sp':Sp}(D:Dfn P w K mg base k x ps sp)(h:∀ vs H Q E,sp' vs H Q E→sp vs H Q E):Dfn P w K mg base k x ps sp':=by
 obtain⟨f,fd,F,B,kp,M⟩:=D.ex
 exact⟨f,fd,F.imp h,B,kp,M⟩
theorem src_mk {x:Str}{st:Stmt}{ps:List Str}{f:Addr}{oc:Value}{od an:Option Addr}{osl:Array (Option Value)}{kV doc pm cdv ct:Value}{h:Heap}(X:K.In h)(G:h.Ns mainGlobals mg)
  (a:PySem.W.nsIn K mainGlobals x=some (some (.ref f))) (l:K.lookup f=some ⟨oc,od,.func (PySem.W.fnOf x x (defArgs st) (defBody st) (defScope st) .none kV doc pm an cdv ct),osl⟩) (c:PySem.W.codeIn K cdv x=true) (k:PySem.W.keepIn K (.ref f)=true)
  (hb:∀ (kV doc pm:Value) (an:Option Addr) (cdv ct:Value) (us:List Value),us.length=ps.length→bindArgs (PySem.W.fnOf x x (defArgs st) (defBody st) (defScope st) .none kV doc pm an cdv ct) ⟨us,[]⟩=pure (ps.zip us)):Src K mg x st ps:=
 ⟨f,_,fun_mk l c k,(fun_mk l c k).binds hb,PySem.W.mg_of X G a⟩
end
theorem pe_def {X:Cx}{k n:Nat}{x:Str}{ps:List Str}{sp:Sp}{e:Expr}{es:List Expr}{t:TA}{p pos:Pos}(D:Dfn X.prog X.w X.K X.mg X.base k x ps sp)(hr:Room n X.A)(ha:PA X (e::es) t)(hle:k≤n:=by decide)(hg:Gl X x:=by rfl)
  (hdb:(x ==("__debug__":Str))=false:=by decide) (he:starEach (e::es) X.env=(false,eval e X.env)::starEach es X.env:=by rfl) (hpl:(backTo pos (starEach es X.env)).any (·.1)=false:=by rfl):
  PE X (.Call (.Name x p) (e::es) [] pos) (tCall sp [] E0 t):=by
 obtain⟨f,fd,F,B,kp,M⟩:=D.ex
 exact pe_call F (hr.mono hle) hg M kp B .nil pass0 ha hdb he hpl
theorem pe_def0 {X:Cx}{k n:Nat}{x:Str}{ps:List Str}{sp:Sp}{p pos:Pos}(D:Dfn X.prog X.w X.K X.mg X.base k x ps sp)(hr:Room n X.A)(hle:k≤n:=by decide)(hg:Gl X x:=by rfl)
  (hdb:(x ==("__debug__":Str))=false:=by decide):PE X (.Call (.Name x p) [] [] pos) (tCall sp [] E0 tNil):=by
 obtain⟨f,fd,F,B,kp,M⟩:=D.ex
 exact pe_call0 F (hr.mono hle) hg M kp B .nil pass0 hdb
theorem same_new {H:Hp}{p:Addr}(h:H p=none)(o:HO):Same H (upd H p o):=fun b u q=>by rw[upd_ne (ne_of_none q h)];exact q
end L2
namespace L2
open PySem PySem.Spec PyProof.Rows
def compOk (osc:Scope)(ON N:List Str)(sl:List (Option Nat))(scope:Scope):Bool:=
 decide (scope.kind=.function) && scope.names.all (fun y=>decide (y.2≠.cell)) && scope.names.all (fun y=>decide (y.2=.local→scope.names.lookup y.1=some .local)) &&
 scope.names.all (fun y=>decide (y.2=.free→osc.names.lookup y.1=some .cell∨osc.names.lookup y.1=some .free)) && decide (sl.length=N.length) &&
 (List.range N.length).all fun j=>match N[j]?,sl[j]? with
  | some x,some (some i)=>decide (ON[i]?=some x∧scope.names.lookup x=some .free)
  | _,_=>true
theorem compScope_mk {X:Cx}{N:List Str}{sl:List (Option Nat)}{scope:Scope}(osc:Scope)(ON:List Str)(h1:X.env.scope=osc)(h2:X.N=ON)(hb:compOk osc ON N sl scope=true):CompScope X N sl scope:=by
 unfold compOk at hb
 simp only[Bool.and_eq_true,decide_eq_true_eq,List.all_eq_true] at hb
 obtain⟨⟨⟨⟨⟨b1,b2⟩,b3⟩,b4⟩,b5⟩,b6⟩:=hb
 refine⟨b1,b2,b3,fun y hy hf=>?_,b5,fun j i x e1 e2=>?_⟩
 ·have:=b4 y hy hf
  show X.env.scope.names.lookup y.1=_∨X.env.scope.names.lookup y.1=_
  rw[h1]
  exact this
 ·have hj:j<N.length:=(List.getElem?_eq_some_iff.mp e1).1
  have:=b6 j (List.mem_range.mpr hj)
  rw[e1,e2] at this
  have q:=of_decide_eq_true this
  rw[h2]
  exact q
theorem bt_len:bootBuiltins "len"=some (.builtin "len"):=by decide +kernel
theorem bt_abs:bootBuiltins "abs"=some (.builtin "abs"):=by decide +kernel
theorem bt_isinstance:bootBuiltins "isinstance"=some (.builtin "isinstance"):=by decide +kernel
theorem bt_all:bootBuiltins "all"=some (.builtin "all"):=by decide +kernel
theorem bt_min:bootBuiltins "min"=some (.builtin "min"):=by decide +kernel
theorem bt_max:bootBuiltins "max"=some (.builtin "max"):=by decide +kernel
theorem bt_int:bootBuiltins "int"=some (.type "int"):=by decide +kernel
theorem bt_bool:bootBuiltins "bool"=some (.type "bool"):=by decide +kernel
theorem bt_list:bootBuiltins "list"=some (.type "list"):=by decide +kernel
theorem bt_tuple:bootBuiltins "tuple"=some (.type "tuple"):=by decide +kernel
end L2
namespace L2
open PySem PySem.Spec PyProof.Rows
def rIsi (K:FrQ):List V→Hp→VK→Prop:=fun xs H Q=>∃ x T T' b,xs=[x,.ty T']∧TyB K H x T∧PySem.W.kitOne K (.type T) (.type T')=some b∧Q (.bl b) H
def rAllB (K:FrQ):List V→Hp→VK→Prop:=fun xs H Q=>∃ p,∃ bs:List Bool,xs=[.ref p]∧SqL K H p (bs.map V.bl)∧Q (.bl (bs.all id)) H
def rLenS (K:FrQ):List V→Hp→VK→Prop:=fun xs H Q=>∃ p ys,xs=[.ref p]∧(SqL K H p ys∨SqT K H p ys)∧Q (.int ys.length) H
section
variable {X:Cx} {K:FrQ}
theorem callK_isinst (h:X.K=K):CallR X (.builtin "isinstance") (rIsi K):=by subst h;exact call_isinst
theorem callK_all (h:X.K=K)(hc:X.calm=true):CallR X (.builtin "all") (rAllB K):=by subst h;exact call_all hc
theorem callK_len (h:X.K=K):CallR X (.builtin "len") (rLenS K):=by subst h;exact call_len_seq
theorem ixK_list (h:X.K=K):IxR X (rIxL K):=by subst h;exact ix_list
theorem ixK_tup (h:X.K=K):IxR X (rIxT K):=by subst h;exact ix_tup
theorem slK_list (h:X.K=K):SlR X (rSlL K):=by subst h;exact sl_list
theorem opK_in (h:X.K=K):OpR X (compareOp .In) (rIn K false):=by subst h;exact op_in_seq
theorem opK_eqD (h:X.K=K)(hu:X.A.units+64<cLine):OpR X (compareOp .Eq) (rEqD K false):=by subst h;exact op_eqD hu
theorem opK_neD (h:X.K=K)(hu:X.A.units+64<cLine):OpR X (compareOp .NotEq) (rEqD K true):=by subst h;exact op_neD hu
theorem piK_list {tg l:Expr}{tl:TE}(h:X.K=K)(hl:PE X l tl):PI X tg l (iList K tl):=by subst h;exact pi_list hl
theorem pgK_tup {es:List Expr}{k:Nat}{t:TGs}{n:Nat}{pos:Pos}(hK:X.K=K)(hc:X.calm=true)(h:PGs X es t)
  (hn:(assignEach es X.env).length=n:=by rfl) (hst:(assignEach es X.env).findIdx? (·.1)=none:=by rfl):PG X (.Tuple es k pos) (gTup K n t):=by subst hK;exact pg_tup hc h hn hst
end
end L2
set_option Elab.async false
set_option linter.all false
set_option maxRecDepth 100000
namespace L2
open PySem PySem.Spec PyProof.Rows
def Bd (m:Nat)(x:Int):Prop:=x.natAbs<2 ^ m
theorem Bd.mono {m n:Nat}{x:Int}(h:Bd m x)(hmn:m≤n):Bd n x:=Nat.lt_of_lt_of_le h (Nat.pow_le_pow_right (by decide) hmn)
theorem Bd.ok {m n:Nat}{x y:Int}(hx:Bd m x)(hy:Bd n y)(h:m+n≤134217728:=by decide):CMulO x y:=mulOk hx hy h
theorem Bd.dv {m:Nat}{i j:Int}(h:Bd m j)(h0:j≠0)(hm:m≤9000:=by decide):CDivW i j:=⟨h0,h.mono hm⟩
theorem Bd.small {x:Int}(h1:-(2 ^ 64)<x)(h2:x<2 ^ 64):Bd 64 x:=by unfold Bd;omega
theorem atI_get_nat {α:Type}{xs:List α}{i:Int}(h0:0≤i)(h1:i.toNat<xs.length):atI xs i=some xs[i.toNat]:=by
 have e:i=((i.toNat:Nat):Int):=by omega
 have q:atI xs ((i.toNat:Nat):Int)=some xs[i.toNat]:=atI_nat (List.getElem?_eq_getElem h1)
 rw[← e] at q
 exact q
theorem atI_mem {α:Type}{xs:List α}{i:Int}(h0:0≤i)(h1:i<xs.length):∃ v,atI xs i=some v∧v∈xs:=by
 have hi:i.toNat<xs.length:=by omega
 exact⟨xs[i.toNat],atI_get_nat h0 hi,List.getElem_mem hi⟩
theorem fmod_range (x:Int){y:Int}(hy:0<y):0≤x.fmod y∧x.fmod y<y:=⟨Int.fmod_nonneg_of_pos x hy,Int.fmod_lt_of_pos x hy⟩
theorem len_ok {α:Type}{xs:List α}(h:decide (xs.length≤1000)=true):xs.length≤sizeLine:=Nat.le_trans (of_decide_eq_true h) (by decide)
def gcdI (a b:Int):Int:=(Int.gcd a b:Int)
def frD (t b:Int):Int:=if b<0 then -gcdI t b else gcdI t b
def fr (t b:Int):Int×Int:=(t.fdiv (frD t b),b.fdiv (frD t b))
structure FrSpec (t b t' b' d:Int):Prop where
 d0:d≠0
 ht:t=d*t'
 hb:b=d*b'
 pos:0<b'
 cop:Int.gcd t' b'=1
end L2
namespace L2
open PySem PySem.Spec PyProof.Rows
theorem pick {xs:List V}{i:Int}{P:Int→Prop}(h0:0≤i)(h1:i<xs.length)(hP:∀ v∈xs,∃ n,v=.int n∧P n):∃ n,atI xs i=some (.int n)∧P n:=by
 obtain⟨v,e,hm⟩:=atI_mem h0 h1
 obtain⟨n,rfl,p⟩:=hP v hm
 exact⟨n,e,p⟩
theorem iteN {c A B:Prop}[Decidable c](h:¬ c)(hB:B):if decide c=true then A else B:=by
 rw[decide_eq_false h]
 exact iteF hB
theorem iteY {c A B:Prop}[Decidable c](h:c)(hA:A):if decide c=true then A else B:=by
 rw[decide_eq_true h]
 exact iteT hA
def CW (n:Nat)(D:Addr)(Pv:Nat→List V→Hp→Prop):Nat→Nat→Hp→Prop:=fun i m H2=>m=n - i∧i≤n∧∃ ys,H2 D=some (.lst ys)∧ys.length≤i∧Pv i ys H2
theorem CW.emit {n:Nat}{D:Addr}{Pv:Nat→List V→Hp→Prop}{i m:Nat}{ys:List V}{y:V}{H5:Hp}(hm:m=n - i)(hi:i<n)(hn:n≤sizeLine)(hy:H5 D=some (.lst ys))(hl:ys.length≤i)
  (p:Pv (i+1) (ys++[y]) (upd H5 D (.lst (ys++[y])))):∃ ys,H5 D=some (.lst ys)∧ys.length<sizeLine∧∃ m',m'<m∧CW n D Pv (i+1) m' (upd H5 D (.lst (ys++[y]))):=
 ⟨ys,hy,by omega,n - (i+1),by omega,rfl,hi,ys++[y],upd_same,by simp;omega,p⟩
theorem CW.skip {n:Nat}{D:Addr}{Pv:Nat→List V→Hp→Prop}{i m:Nat}{ys:List V}{H4:Hp}(hm:m=n - i)(hi:i<n)(hy:H4 D=some (.lst ys))(hl:ys.length≤i)(p:Pv (i+1) ys H4):
  ∃ m',m'<m∧CW n D Pv (i+1) m' H4:=⟨n - (i+1),by omega,rfl,hi,ys,hy,by omega,p⟩
theorem comp_list {K:FrQ}{a D:Addr}{xs:List V}{st:St}{g:TG}{tif:TT}{te:TE}{H1:Hp}{Q:VK}(Pv:Nat→List V→Hp→Prop)(h0:Pv 0 [] (upd H1 D (.lst [])))
  (hl:∀ i ys H2,H2 D=some (.lst ys)→Pv i ys H2→SqL K H2 a xs)
  (hs:∀ i m x ys H2,m=xs.length - i→i<xs.length→xs[i]?=some x→H2 D=some (.lst ys)→ys.length≤i→Pv i ys H2→g x st H2 fun σ3 H3=>tif σ3 H3 fun b H4=>
   if b=true then te σ3 H4 fun y H5=>∃ ys,H5 D=some (.lst ys)∧ys.length<sizeLine∧∃ m',m'<m∧CW xs.length D Pv (i+1) m' (upd H5 D (.lst (ys++[y]))) else ∃ m',m'<m∧CW xs.length D Pv (i+1) m' H4)
  (hd:∀ ys H2,H2 D=some (.lst ys)→Pv xs.length ys H2→Q (.ref D) H2):
  compW (Itl K a) D st g tif te Q H1:=by
 refine⟨CW xs.length D Pv,⟨xs.length,by simp,Nat.zero_le _,[],upd_same,Nat.le_refl _,h0⟩,?_⟩
 rintro i m H2 ⟨hm,hi,ys,hy,hlen,p⟩
 have q:=hl i ys H2 hy p
 by_cases hlt:i<xs.length
 ·refine .inr ⟨⟨xs,xs[i],q,by simp[hlt]⟩,fun x H' y=>?_⟩
  obtain⟨e,y⟩:=y
  subst e
  exact hs i m x ys _ hm hlt (y xs q) hy hlen p
 ·have e:i=xs.length:=by omega
  subst e
  exact .inl ⟨⟨xs,q,Nat.le_refl _⟩,hd ys H2 hy p⟩
theorem comp_range {lo:Int}{n:Nat}{D:Addr}{st:St}{g:TG}{tif:TT}{te:TE}{H1:Hp}{Q:VK}(Pv:Nat→List V→Hp→Prop)(h0:Pv 0 [] (upd H1 D (.lst [])))
  (hs:∀ i m ys H2,m=n - i→i<n→H2 D=some (.lst ys)→ys.length≤i→Pv i ys H2→g (.int (lo+i)) st H2 fun σ3 H3=>tif σ3 H3 fun b H4=>
   if b=true then te σ3 H4 fun y H5=>∃ ys,H5 D=some (.lst ys)∧ys.length<sizeLine∧∃ m',m'<m∧CW n D Pv (i+1) m' (upd H5 D (.lst (ys++[y]))) else ∃ m',m'<m∧CW n D Pv (i+1) m' H4)
  (hd:∀ ys H2,H2 D=some (.lst ys)→Pv n ys H2→Q (.ref D) H2):
  compW (Itr lo n) D st g tif te Q H1:=by
 refine⟨CW n D Pv,⟨n,by simp,Nat.zero_le _,[],upd_same,Nat.le_refl _,h0⟩,?_⟩
 rintro i m H2 ⟨hm,hi,ys,hy,hlen,p⟩
 by_cases hlt:i<n
 ·refine .inr ⟨hlt,fun x H' y=>?_⟩
  obtain⟨e,y⟩:=y
  subst e y
  exact hs i m ys _ hm hlt hy hlen p
 ·have e:i=n:=by omega
  subst e
  exact .inl ⟨Nat.le_refl _,hd ys H2 hy p⟩
end L2
set_option Elab.async false
set_option linter.all false
set_option maxRecDepth 100000
namespace L2
open PySem PySem.Spec PyProof.Rows
structure IsVal (p n:Int)(v:Nat):Prop where
 dv:p ^ v ∣ n
 no:¬ p ^ (v+1) ∣ n
def primes:List Int:=[2,3,5,7,11,13,17,19,23,29,31,37,41,43,47]
end L2
namespace L2
theorem Same.free_upd {H H':Hp}{D:PySem.Addr}(g:Same H H')(hD:H D=none)(o:HO):Same H (upd H' D o):=fun b u q=>by rw[upd_ne (ne_of_none q hD)];exact g b u q
theorem iteS {c A B:Prop}[Decidable c](h:¬ c)(hA:A):if (!decide c)=true then A else B:=by
 rw[decide_eq_false h]
 exact iteT hA
end L2
namespace L2
open PySem PySem.Spec PyProof.Rows
def tupInts (o:Obj)(ns:List Int):Bool:=decide (o.cls=.type "tuple") && match o.data with
 | .seq its _=>decide (its.size≤1000) && decide (its.toList.map absV=ns.map fun n=>some (V.int n))
 | _=>false
theorem vals_of_abs:∀ {us:List Value} {ns:List Int},us.map absV=ns.map (fun n=>some (V.int n))→Vals (ns.map V.int) us
 | [],[],_=>.nil
 | [],_::_,h=>by simp at h
 | _::_,[],h=>by simp at h
 | u::us,n::ns,h=>by
  simp only[List.map_cons,List.cons.injEq] at h
  refine .cons ?_ (vals_of_abs h.2)
  have e:=h.1
  cases u <;> simp[absV] at e
  subst e
  exact⟨_,rfl⟩
theorem tupInts_ok {K:FrQ}{H:Hp}{a:Addr}{o:Obj}{ns:List Int}(h:K.lookup a=some o)(t:tupInts o ns=true):SqT K H a (ns.map V.int):=by
 unfold tupInts at t
 rw[Bool.and_eq_true] at t
 obtain⟨t1,t2⟩:=t
 have hc:=of_decide_eq_true t1
 cases hd:o.data with
 | seq its n=>
  rw[hd] at t2
  rw[Bool.and_eq_true] at t2
  have h1:=of_decide_eq_true t2.1
  have h2:=of_decide_eq_true t2.2
  exact .inr ⟨o,its,n,h,hc,hd,Nat.le_trans h1 (by decide),vals_of_abs h2⟩
 | _=>rw[hd] at t2;exact absurd t2 Bool.false_ne_true
end L2
set_option Elab.async false
set_option linter.all false
set_option maxRecDepth 100000
namespace L2
open PySem PySem.Spec PyProof.Rows
inductive Fl:Nat→PyData→Prop where
 | non {n:Nat}:Fl n .none
 | int {n:Nat} (i:Int):Fl n (.int i)
 | lst {n:Nat} {ds:List PyData}:(∀ d∈ds,Fl n d)→Fl (n+1) (.list ds)
 | tup {n:Nat} {ds:List PyData}:(∀ d∈ds,Fl n d)→Fl (n+1) (.tuple ds)
theorem canLayAll_of:∀ {ds:List PyData},(∀ d∈ds,PyData.canLay0 d=true)→PyData.canLayAll0 ds=true
 | [],_=>by simp[PyData.canLayAll0]
 | d::ds,h=>by
  simp only[PyData.canLayAll0,Bool.and_eq_true]
  exact⟨h d List.mem_cons_self,canLayAll_of fun e he=>h e (List.mem_cons_of_mem _ he)⟩
theorem depthAll_of {n:Nat}:∀ {ds:List PyData},(∀ d∈ds,PyData.depth d≤n)→PyData.depthAll ds≤n
 | [],_=>by simp[PyData.depthAll]
 | d::ds,h=>by
  simp only[PyData.depthAll]
  exact Nat.max_le.mpr ⟨h d List.mem_cons_self,depthAll_of fun e he=>h e (List.mem_cons_of_mem _ he)⟩
theorem Fl.both {n:Nat}{d:PyData}(h:Fl n d):PyData.canLay0 d=true∧PyData.depth d≤n:=by
 induction h with
 | non=>exact⟨by simp[PyData.canLay0],by simp[PyData.depth]⟩
 | int i=>exact⟨by simp[PyData.canLay0],by simp[PyData.depth]⟩
 | lst _ ih=>exact⟨by simp only[PyData.canLay0];exact canLayAll_of fun d hd=>(ih d hd).1,by simp only[PyData.depth];exact Nat.succ_le_succ (depthAll_of fun d hd=>(ih d hd).2)⟩
 | tup _ ih=>exact⟨by simp only[PyData.canLay0];exact canLayAll_of fun d hd=>(ih d hd).1,by simp only[PyData.depth];exact Nat.succ_le_succ (depthAll_of fun d hd=>(ih d hd).2)⟩
theorem Fl.shaped {n:Nat}{d:PyData}(h:Fl n d)(hn:n≤64):SeqAt.shaped d=true:=by
 unfold SeqAt.shaped
 rw[Bool.and_eq_true]
 exact⟨h.both.1,decide_eq_true (Nat.le_trans h.both.2 hn)⟩
theorem Fl.self {n:Nat}{d:PyData}(h:Fl n d):PyData.eqv d d=true:=SeqAt.eqv_refl d h.both.1
mutual
theorem eqv_eq:∀ {n m:Nat} {d e:PyData},Fl n d→Fl m e→PyData.eqv d e=true→d=e
 | _,_,_,_,.non,.non,_=>rfl
 | _,_,_,_,.non,.int _,h=>by simp[PyData.eqv] at h
 | _,_,_,_,.non,.lst _,h=>by simp[PyData.eqv] at h
 | _,_,_,_,.non,.tup _,h=>by simp[PyData.eqv] at h
 | _,_,_,_,.int _,.non,h=>by simp[PyData.eqv] at h
 | _,_,_,_,.int i,.int j,h=>by
  simp only[PyData.eqv,beq_iff_eq] at h
  rw[h]
 | _,_,_,_,.int _,.lst _,h=>by simp[PyData.eqv] at h
 | _,_,_,_,.int _,.tup _,h=>by simp[PyData.eqv] at h
 | _,_,_,_,.lst _,.non,h=>by simp[PyData.eqv] at h
 | _,_,_,_,.lst _,.int _,h=>by simp[PyData.eqv] at h
 | _,_,.list ds,.list es,.lst a,.lst b,h=>by
  simp only[PyData.eqv] at h
  rw[eqvAll_eq a b h]
 | _,_,_,_,.lst _,.tup _,h=>by simp[PyData.eqv] at h
 | _,_,_,_,.tup _,.non,h=>by simp[PyData.eqv] at h
 | _,_,_,_,.tup _,.int _,h=>by simp[PyData.eqv] at h
 | _,_,_,_,.tup _,.lst _,h=>by simp[PyData.eqv] at h
 | _,_,.tuple ds,.tuple es,.tup a,.tup b,h=>by
  simp only[PyData.eqv] at h
  rw[eqvAll_eq a b h]
theorem eqvAll_eq:∀ {n m:Nat} {ds es:List PyData},(∀ d∈ds,Fl n d)→(∀ d∈es,Fl m d)→PyData.eqvAll ds es=true→ds=es
 | _,_,[],[],_,_,_=>rfl
 | _,_,[],_::_,_,_,h=>by simp[PyData.eqvAll] at h
 | _,_,_::_,[],_,_,h=>by simp[PyData.eqvAll] at h
 | _,_,d::ds,e::es,a,b,h=>by
  simp only[PyData.eqvAll,Bool.and_eq_true] at h
  rw[eqv_eq (a d List.mem_cons_self) (b e List.mem_cons_self) h.1,eqvAll_eq (fun x hx=>a x (List.mem_cons_of_mem _ hx)) (fun x hx=>b x (List.mem_cons_of_mem _ hx)) h.2]
end
noncomputable instance:DecidableEq PyData:=fun a b=>Classical.propDecidable _
theorem eqv_dec {n m:Nat}{d e:PyData}(a:Fl n d)(b:Fl m e):PyData.eqv d e=decide (d=e):=by
 cases h:PyData.eqv d e with
 | true=>exact (decide_eq_true (eqv_eq a b h)).symm
 | false=>
  refine (decide_eq_false fun z=>?_).symm
  subst z
  rw[a.self] at h
  cases h
abbrev dI (ns:List Int):PyData:=.list (ns.map .int)
theorem fl_ints (ns:List Int):Fl 1 (dI ns):=.lst fun d hd=>by
 obtain⟨i,_,rfl⟩:=List.mem_map.mp hd
 exact .int i
theorem dI_inj {a b:List Int}(h:dI a=dI b):a=b:=by
 have h':a.map PyData.int=b.map PyData.int:=PyData.list.inj h
 induction a generalizing b with
 | nil=>
  cases b with
  | nil=>rfl
  | cons _ _=>simp at h'
 | cons x a ih=>
  cases b with
  | nil=>simp at h'
  | cons y b=>
   simp only[List.map_cons,List.cons.injEq,PyData.int.injEq] at h'
   rw[h'.1,ih (congrArg PyData.list h'.2) h'.2]
theorem eqv_ints (a b:List Int):PyData.eqv (dI a) (dI b)=decide (a=b):=by
 rw[eqv_dec (fl_ints a) (fl_ints b)]
 by_cases h:a=b
 ·rw[decide_eq_true h,decide_eq_true (congrArg dI h)]
 ·rw[decide_eq_false h,decide_eq_false fun z=>h (dI_inj z)]
theorem eqL {K:FrQ}{H:Hp}{a b:Addr}{xs ys:List Int}{Q:VK}(ha:SqL K H a (xs.map V.int))(hb:SqL K H b (ys.map V.int))(q:Q (.bl (decide (xs=ys))) H):rEqD K false (.ref a) (.ref b) H Q:=
 ⟨dI xs,dI ys,den_lst ha (scalDs_ints _),den_lst hb (scalDs_ints _),(fl_ints _).shaped (by decide),(fl_ints _).shaped (by decide),by
  show Q (.bl (PyData.eqv (dI xs) (dI ys))) H
  rw[eqv_ints];exact q⟩
theorem neL {K:FrQ}{H:Hp}{a b:Addr}{xs ys:List Int}{Q:VK}(ha:SqL K H a (xs.map V.int))(hb:SqL K H b (ys.map V.int))(q:Q (.bl (!decide (xs=ys))) H):rEqD K true (.ref a) (.ref b) H Q:=
 ⟨dI xs,dI ys,den_lst ha (scalDs_ints _),den_lst hb (scalDs_ints _),(fl_ints _).shaped (by decide),(fl_ints _).shaped (by decide),by
  show Q (.bl (!PyData.eqv (dI xs) (dI ys))) H
  rw[eqv_ints];exact q⟩
end L2
set_option Elab.async false
set_option linter.all false
set_option maxRecDepth 100000
namespace L2
open PySem PySem.Spec PyProof.Rows
section
variable {X:Cx} {pins:List (Addr×Obj)} {σ:St} {H:Hp} {s:Shared} {h':Heap}
theorem Inv.turnedL {t':Nat}{ch:List Addr}(I:Inv X pins σ H s)(k:∀ b u,b ∉ ch→s.heap.get? b=some u→h'.get? b=some u)(hf:∀ b∈ch,FpOk X pins H b):Inv X pins σ H { s with heap:=h',toks:=t' }:=by
 have nit:∀ b u,H b=some u→b ∉ ch:=fun b u e z=>by rw[(hf b z).1] at e;cases e
 refine I.step (g':=s.gens) (d':=s.drawn) (ch:=ch) (fun b hb=>⟨(hf b hb).2.2.2.1,(hf b hb).2.1,(hf b hb).2.2.2.2.1,(hf b hb).2.2.2.2.2⟩) (fun b o _ _ hc e _=>k b o hc e) (fun b o _ _ hc e _=>⟨o.slots,k b o hc e⟩) (fun _ _ _ _ n=>n)
  (fun b o hc e=>⟨o,k b o hc e⟩) (fun _ _ e=>e) (fun _ _ _ e=>e) (fun b ps e=>⟨#[],by rw[e];simp⟩) (fun m hm=>?_) (fun b u e=>?_) I.bare
 ·obtain⟨o,es,ep,ho,r⟩:=hm
  exact⟨o,es,ep,k _ o (fun z=>(hf _ z).2.1 rfl) ho,r⟩
 ·refine (I.hok b u e).stay (fun c v hc q=>k c v ?_ q) (fun _ q=>q) fun _ _ q=>q
  rcases hc with z | z
  ·rw[z];exact nit b u e
  ·exact nit c _ z
theorem Inv.turnedNew {t':Nat}{ch:List Addr}{a:Addr}{o:HO}(I:Inv X pins σ H s)(k:∀ b u,b ∉ ch→s.heap.get? b=some u→h'.get? b=some u)(hf:∀ b∈ch,FpOk X pins H b)(ha:s.heap.objs.size≤a)(new:ObjOk X.prog X.w (upd H a o) h' a o):
  Inv X pins σ (upd H a o) { s with heap:=h',toks:=t' }:=by
 have hn:H a=none:=I.hok.fresh ha
 have nit:∀ b u,H b=some u→b ∉ ch:=fun b u e z=>by rw[(hf b z).1] at e;cases e
 have nea:∀ b u,s.heap.get? b=some u→b≠a:=fun b u e=>Nat.ne_of_lt (Nat.lt_of_lt_of_le (Heap.lt_size e) ha)
 refine I.step (g':=s.gens) (d':=s.drawn) (ch:=ch) (fun b hb=>⟨(hf b hb).2.2.2.1,(hf b hb).2.1,(hf b hb).2.2.2.2.1,(hf b hb).2.2.2.2.2⟩) (fun b o _ _ hc e _=>k b o hc e) (fun b o _ _ hc e _=>⟨o.slots,k b o hc e⟩) (fun b u _ e n=>by rw[upd_ne (nea b u e)];exact n)
  (fun b o hc e=>⟨o,k b o hc e⟩) (fun b xs e=>by rw[upd_ne (ne_of_none e hn)];exact e) (fun b u xs e=>by rw[upd_ne (ne_of_none e hn)];exact e) (fun b ps e=>⟨#[],by rw[upd_ne (ne_of_none e hn),e];simp⟩) (fun m hm=>?_) (fun b u e=>?_) I.bare
 ·obtain⟨o,es,ep,ho,r⟩:=hm
  exact⟨o,es,ep,k _ o (fun z=>(hf _ z).2.1 rfl) ho,r⟩
 ·by_cases hb:b=a
  ·subst hb
   rw[upd_same] at e
   cases e
   exact new
  ·rw[upd_ne hb] at e
   refine (I.hok b u e).stay (fun c v hc q=>k c v ?_ q) (fun c q=>by rw[upd_ne (ne_of_none q hn)];exact q) fun c xs q=>by rw[upd_ne (ne_of_none q hn)];exact q
   rcases hc with z | z
   ·rw[z];exact nit b u e
   ·exact nit c _ z
end
def Ite (K:FrQ)(a:Addr)(st:Nat):It:=
 ⟨fun i H=>∃ xs x,SqL K H a xs∧xs[i]?=some x,fun i H v H'=>∃ r x,v=.ref r∧H r=none∧(∀ xs,SqL K H a xs→xs[i]?=some x)∧H'=upd H r (.tup [.int ((st+i:Nat):Int),x]),fun i H=>∃ xs,SqL K H a xs∧xs.length≤i⟩
theorem draws_from {prog:Program}{w:World}{A:Around}(hh:A.handled=none)(it l:Addr)(hne:l≠it)(items:Array Value)(st:Nat):
  Draws prog w A it [it,l] (st+items.size) (fun i v=>items[i - st]?=some v) (fun i h=>st≤i∧h.IsListIter it l (i - st)∧h.IsList l items) where
 live:=fun _ _ x=>let ⟨o,ho,_⟩:=x.2.1;⟨o,ho⟩
 frame:=fun _ _ _ x hk=>⟨x.1,x.2.1.at fun o e=>hk it (by simp) o e,x.2.2.at fun o e=>hk l (by simp) o e⟩
 item:=fun i s Q E hi x hQ=>by
  have hlt:i - st<items.size:=by have:=x.1;omega
  refine wpAny_nextOf_list_item x.2.1 x.2.2 (x:=items[i - st]) (by simp[hlt]) fun h' hit' hs'=>?_
  have e:i - st+1=i+1 - st:=by have:=x.1;omega
  rw[e] at hit'
  exact hQ _ h' s.toks (by simp[hlt]) ⟨Nat.le_succ_of_le x.1,hit',x.2.2.extBut hs'.extBut hne⟩ hs'
 done:=fun s Q E x hE=>wpAny_nextOf_list_end hh x.2.1 x.2.2 (by simp) hE
theorem turn_enum {P:Program}{w:World}{K:FrQ}{elts:List Expr}{k:Nat}{pos:Pos}(a e it:Addr)(hei:e≠it)(hae:a≠e)(hai:a≠it)(st:Nat):
  Turn P w K (.Tuple elts k pos) (Ite K a st) [e,it] e (fun i h=>(∃ old,IsEnum h e it ((st+i:Nat):Int) old)∧h.IsListIter it a i) where
 mem:=by simp
 obj:=fun i h x b hb=>by
  obtain⟨⟨old,he⟩,o,ho,c,d⟩:=x
  rcases List.mem_cons.mp hb with rfl | hb
  ·exact⟨_,he,fun v z=>by
    have z':Data.fields _=Data.cell v:=z
    cases z'⟩
  ·have e':b=it:=by simpa using hb
   subst e'
   exact⟨o,ho,fun v z=>by rw[d] at z;cases z⟩
 keep:=fun i h h' x kk=>⟨let ⟨old,he⟩:=x.1;⟨old,kk e (by simp) _ he⟩,x.2.at fun o ho=>kk it (by simp) o ho⟩
 item:=by
  intro X hP hw hK hc i pins s σ H E I hf x hg
  subst hP hw hK
  obtain⟨xs,v,hq,hx⟩:=hg
  obtain⟨its,rv,p,hz⟩:=I.list hq
  obtain⟨u,hu,ru⟩:=rv.get hx
  obtain⟨⟨old,he⟩,hit⟩:=x
  have hi:i<its.length:=(List.getElem?_eq_some_iff.mp hu).1
  have D:=draws_from (prog:=X.prog) (w:=X.w) (A:=X.A.in1) (I.ok.hd hc) it a hai its.toArray st
  have hn0:H s.heap.objs.size=none:=I.fresh
  have helt:e<s.heap.objs.size:=Heap.lt_size he
  have hilt:it<s.heap.objs.size:=by obtain⟨_,y,_⟩:=id hit;exact Heap.lt_size y
  refine wpAny_pyNext_enum_itemD (i:=st+i) D he ⟨Nat.le_add_right _ _,by rw[Nat.add_sub_cancel_left];exact hit,p.isList⟩ (by simp;omega) hei (by simp[hei,Ne.symm hae]) fun y h1 tk hy ho st1 hT hsz hk=>?_
  rw[Nat.add_sub_cancel_left] at hy
  have ey:y=u:=by
   have:its[i]?=some y:=by simpa using hy
   rw[hu] at this
   exact (Option.some.inj this).symm
  subst ey
  refine⟨_,rfl,wpAny_letOwnedTupleGo_enum ho fun h2 he2 hs2=>?_⟩
  have hT2:h2.get? s.heap.objs.size=some { cls:=.type "tuple",data:=.seq #[.int ((st+i:Nat):Int) tk,y] }:=(hs2.2 _ (Nat.ne_of_gt helt)).trans hT
  have I2:Inv X pins σ (upd H s.heap.objs.size (.tup [.int ((st+i:Nat):Int),v])) { s with heap:=h2,toks:=tk+1 }:=
   I.turnedNew (ch:=[e,it]) (fun b u hb q=>(hs2.2 b fun z=>hb (by simp[z])).trans (hk b u (fun z=>hb (by simp[z])) (fun z=>hb (by simp[z])) q)) hf (Nat.le_refl _)
    ⟨by show 2≤sizeLine;rw[sizeLine_eq];omega,[.int ((st+i:Nat):Int) tk,y],.cons ⟨_,rfl⟩ (.cons ru .nil),_,hT2,rfl,0,rfl⟩
  refine⟨.ref s.heap.objs.size,_,I2,rfl,⟨_,v,rfl,hn0,fun ys hy=>by rw[I.list_inj hy hq];exact hx,rfl⟩,⟨⟨y,?_⟩,?_⟩,fun b hb=>?_⟩
  ·have e1:((st+i:Nat):Int)+1=((st+(i+1):Nat):Int):=by omega
   rw[← e1]
   exact he2
  ·have hl1:=st1.2.1
   have e2:st+i+1 - st=i+1:=by omega
   rw[e2] at hl1
   exact hl1.at fun o q=>(hs2.2 it hei.symm).trans q
  ·rw[upd_ne ?_]
   ·exact (hf b hb).1
   ·rcases List.mem_cons.mp hb with rfl | hb
    ·exact Nat.ne_of_lt helt
    ·have:b=it:=by simpa using hb
     subst this
     exact Nat.ne_of_lt hilt
 done:=by
  intro X hP hw hK hc i pins s σ H E I hf x hg
  subst hP hw hK
  obtain⟨xs,hq,hx⟩:=hg
  obtain⟨its,rv,p,hz⟩:=I.list hq
  obtain⟨⟨old,he⟩,hit⟩:=x
  have hl:=rv.length
  have hT:s.TypeIs (.ref e) "enumerate":=⟨_,he,rfl⟩
  unfold pyNext
  refine wpAny_bind (wpAny_attempt (wpAny_callSpecial?_slot (name:=Str.ofString "__next__") hT PySem.F.slot_enumerate_next (wpAny_call_entry PySem.F.slot_enumerate_next hT PySem.F.entry_enumerate_next ?_ (PySem.F.args_enumerate_next_1 _))))
  show wpAny _ _ (field (.ref e) 2 >>= _) _ _ _
  refine wpAny_bind (wpAny_field he rfl (x:=.ref it) rfl ?_)
  refine wpAny_bind (wpAny_nextOf_list_end (I.ok.hd hc) hit p.isList (by simp;omega) fun h' x he' hx'=>?_)
  obtain⟨o,ho,hc'⟩:=hx'
  refine wpAny_bind (wpAny_isInstance (T:="StopIteration") (b:=true) ⟨o,ho,hc'⟩ isSubtype_stop ?_)
  exact wpAny_pure ⟨rfl,I.turnedL (t':=s.toks) (ch:=[e,it]) (fun b u hb q=>he' b u (fun z=>hb (by simp[z])) q) hf⟩
 self:=fun _ _ _ _ _ x h=>let ⟨_,he⟩:=x.1;wpAny_pyIter_enum he h
section
variable {X:Cx} {elts:List Expr} {k:Nat} {tpos:Pos}
def iEnum (K:FrQ)(ta:TA):TI:=fun σ H R=>ta σ H fun vs H1=>∃ a,vs=[.ref a]∧(∃ xs,SqL K H1 a xs)∧R (Ite K a 0) H1
theorem pi_enum {l:Expr}{ta:TA}{p pos:Pos}(hg:Gl X "enumerate")(hm:X.mg "enumerate"=none)(ha:PA X [l] ta)(hs:starEach [l] X.env=[(false,eval l X.env)]:=by rfl):
  PI X (.Tuple elts k tpos) (.Call (.Name "enumerate" p) [l] [] pos) (iEnum X.K ta):=by
 intro pins s σ H R I h
 refine Call_ (ld_blt I hg hm boot_enumerate (PyProof.Rows.callWith_type1 (thn (ha pos pins s σ H _ I h) fun us s1 ⟨vs,H1,I1,r1,q1⟩=>?_) hs rfl))
 obtain⟨a,e,⟨xs,hq⟩,q⟩:=q1
 subst e
 obtain⟨u,rfl,ru⟩:=vals1 r1
 cases (show u=Value.ref a from ru)
 obtain⟨its,rv,pl,hz⟩:=I1.list hq
 have hlt:a<s1.heap.objs.size:=by obtain⟨_,y,_⟩:=pl.isList;exact Heap.lt_size y
 refine call_enumerate_list pl.isList fun h' he hit hsz hk=>?_
 refine wpAny_pyIter_enum he ?_
 have I2:Inv X pins σ H1 { s1 with heap:=h' }:=I1.kept (t':=s1.toks) hk
 refine⟨_,[s1.heap.objs.size+1,s1.heap.objs.size],_,_,H1,rfl,I2,turn_enum a (s1.heap.objs.size+1) s1.heap.objs.size (Nat.succ_ne_self _) (Nat.ne_of_lt (Nat.lt_succ_of_lt hlt)) (Nat.ne_of_lt hlt) 0,⟨⟨_,he⟩,hit⟩,fun b hb=>?_,q⟩
 rcases List.mem_cons.mp hb with rfl | hb
 ·exact I1.fpOk (Nat.le_succ _) (I1.hok.fresh (Nat.le_succ _))
 ·have:b=s1.heap.objs.size:=by simpa using hb
  subst this
  exact I1.fpOk (Nat.le_refl _) (I1.hok.fresh (Nat.le_refl _))
theorem piK_enum {K:FrQ}{l:Expr}{ta:TA}{p pos:Pos}(hK:X.K=K)(hg:Gl X "enumerate")(hm:X.mg "enumerate"=none)(ha:PA X [l] ta)(hs:starEach [l] X.env=[(false,eval l X.env)]:=by rfl):
  PI X (.Tuple elts k tpos) (.Call (.Name "enumerate" p) [l] [] pos) (iEnum K ta):=by subst hK;exact pi_enum hg hm ha hs
end
theorem for_enum {K:FrQ}{a:Addr}{st:Nat}{xs:List V}{g:TG}{tb:TS}{D:Ends}{σ:St}{H:Hp}(Pv:Nat→St→Hp→Prop)(h0:Pv 0 σ H)(hl:∀ i σ H,i≤xs.length→Pv i σ H→SqL K H a xs)
  (hs:∀ i x σ H r,xs[i]?=some x→Pv i σ H→H r=none→g (.ref r) σ (upd H r (.tup [.int ((st+i:Nat):Int),x])) fun σ2 H2=>tb { D with nx:=Pv (i+1),ct:=Pv (i+1),bk:=D.nx } σ2 H2) (hd:∀ σ H,Pv xs.length σ H→D.nx σ H):
  ∃ W:Nat→Nat→St→Hp→Prop,(∃ m,W 0 m σ H)∧∀ i m σ H,W i m σ H→
   ((Ite K a st).stop i H∧D.nx σ H)∨((Ite K a st).go i H∧∃ N:St→Hp→Prop,(∀ σ' H',N σ' H'→∃ m',m'<m∧W (i+1) m' σ' H')∧∀ x H',(Ite K a st).yld i H x H'→g x σ H' fun σ2 H2=>tb { D with nx:=N,ct:=N,bk:=D.nx } σ2 H2):=by
 refine⟨fun i m σ H=>m=xs.length - i∧i≤xs.length∧Pv i σ H,⟨xs.length,by simp,Nat.zero_le _,h0⟩,?_⟩
 rintro i m σ H ⟨rfl,hi,p⟩
 have q:=hl i σ H hi p
 by_cases hlt:i<xs.length
 ·refine .inr ⟨⟨xs,xs[i],q,by simp[hlt]⟩,Pv (i+1),fun σ' H' p'=>⟨xs.length - (i+1),by omega,rfl,hlt,p'⟩,fun v H' y=>?_⟩
  obtain⟨r,x,e1,hr,hx,e2⟩:=y
  subst e1 e2
  exact hs i x σ _ r (hx xs q) p hr
 ·have e:i=xs.length:=by omega
  subst e
  exact .inl ⟨⟨xs,q,Nat.le_refl _⟩,hd σ H p⟩
section
variable {X:Cx} {tg:Expr}
end
section
variable {prog:Program} {w:World} {A:Around} {E:Value→Shared→Prop} {s:Shared}
end
section
variable {X:Cx} {tg:Expr}
end
def WIn (tb:TS)(D:Ends)(Pv:St→Hp→Prop)(μ:St→Hp→Nat)(m:Nat)(σ:St)(H1:Hp):Prop:=
 ∃ N:St→Hp→Prop,(∀ σ' H',N σ' H'→∃ m',m'<m∧(m'=μ σ' H'∧Pv σ' H'))∧tb { D with nx:=N,ct:=N,bk:=D.nx } σ H1
theorem win {tb:TS}{D:Ends}{Pv:St→Hp→Prop}{μ:St→Hp→Nat}{m:Nat}{σ:St}{H1:Hp}(h:tb { D with nx:=fun σ' H'=>Pv σ' H'∧μ σ' H'<m,ct:=fun σ' H'=>Pv σ' H'∧μ σ' H'<m,bk:=D.nx } σ H1):WIn tb D Pv μ m σ H1:=
 ⟨_,fun σ' H' ⟨p,l⟩=>⟨_,l,rfl,p⟩,h⟩
theorem while_in {c:TT}{tb:TS}{D:Ends}{σ:St}{H:Hp}(Pv:St→Hp→Prop)(μ:St→Hp→Nat)(h0:Pv σ H)
  (hs:∀ σ H,Pv σ H→c σ H fun b H1=>if b=true then WIn tb D Pv μ (μ σ H) σ H1 else D.nx σ H1):tWhile c tb D σ H:=by
 refine⟨fun m σ H=>m=μ σ H∧Pv σ H,⟨_,rfl,h0⟩,?_⟩
 rintro m σ H ⟨rfl,p⟩
 exact hs σ H p
theorem merge {C:St→Hp→Prop}{G:Prop}(M:St→Hp→Prop)(h1:(∀ σ H,M σ H→C σ H)→G)(h2:∀ σ H,M σ H→C σ H):G:=h1 h2
end L2
set_option Elab.async false
set_option linter.all false
set_option maxRecDepth 100000
namespace L2
open PySem PySem.Spec PyProof.Rows
def coef (f:List Int)(i:Nat):Int:=f.getD i 0
def tlen (f:List Int):Nat→Nat
 | 0=>0
 | n+1=>if coef f n=0 then tlen f n else n+1
def trim (f:List Int):List Int:=f.take (tlen f f.length)
def Norm (f:List Int):Prop:=f=[]∨coef f (f.length - 1)≠0
def addc (f g:List Int):List Int:=(List.range (max f.length g.length)).map fun i=>coef f i+coef g i
def padd (f g:List Int):List Int:=trim (addc f g)
def rowS (f g:List Int):Nat→Nat→Int
 | 0,_=>0
 | i+1,m=>rowS f g i m+(if i≤m then coef f i*coef g (m - i) else 0)
def conv (f g:List Int)(m:Nat):Int:=rowS f g f.length m
def pmul (f g:List Int):List Int:=if f=[]∨g=[] then [] else (List.range (f.length+g.length - 1)).map (conv f g)
def Bds (m:Nat)(f:List Int):Prop:=∀ x∈f,Bd m x
theorem ixN_nat {n:Nat}{k:Int}(h0:0≤k)(h1:k<(n:Int)):ixN n k=some k.toNat:=by
 unfold ixN
 rw[if_pos h0]
 first
  | rw[if_pos h1]
  | rw[if_pos (by omega)]
end L2
set_option Elab.async false
set_option linter.all false
set_option maxRecDepth 100000
namespace L2
open PySem PySem.Spec PyProof.Rows
def Monic (g:List Int):Prop:=g≠[]∧coef g (g.length - 1)=1
structure IsDiv (f g q r:List Int):Prop where
 eq:∀ m,coef f m=conv q g m+coef r m
 nq:Norm f→Norm q
 nr:Norm r
 len:r.length<g.length
 lq:q.length=f.length - (g.length - 1)
def qSo (N i:Nat)(Qr:List Int):List Int:=List.replicate (N - i) 0++Qr.reverse
structure DivSo (f g:List Int)(N i:Nat)(Qr R:List Int):Prop where
 lq:Qr.length=i
 lr:R.length=f.length
 eq:∀ m,m<R.length→coef R m=coef f m - conv (qSo N i Qr) g m
 top:∀ m,f.length - i≤m→m<R.length→coef R m=0
 lead:0<i→coef Qr 0=coef f (f.length - 1)
def RIn (g:List Int)(R R':List Int)(t:Nat)(lead:Int)(j:Nat):Prop:=R'.length=R.length∧∀ m,m<R.length→coef R' m=coef R m - if t≤m∧m - t<j then lead*coef g (m - t) else 0
end L2
set_option Elab.async false
set_option linter.all false
set_option maxRecDepth 100000
namespace L2
open PySem PySem.Spec PyProof.Rows
def sumN:Nat→(Nat→Int)→Int
 | 0,_=>0
 | n+1,f=>sumN n f+f n
def cv (a b:Nat→Int)(m:Nat):Int:=sumN (m+1) fun i=>a i*b (m - i)
structure IsDig (key:List Int)(ds:List (List Int)):Prop where
 nm:∀ d∈ds,Norm d
 ln:∀ d∈ds,d.length<key.length
 last:ds.getLast?≠some []
end L2
set_option Elab.async false
set_option linter.all false
set_option maxRecDepth 100000
namespace L2
open PySem PySem.Spec PyProof.Rows
abbrev LP:=Addr×List Int
abbrev lrefs (ts:List LP):List V:=ts.map fun t=>V.ref t.1
abbrev lvals (ts:List LP):List (List Int):=ts.map fun t=>t.2
structure LLs (H:Hp)(p:Addr)(ts:List LP):Prop where
 top:H p=some (.lst (lrefs ts))
 it:∀ t∈ts,H t.1=some (.lst (t.2.map V.int))
abbrev dLL (ls:List (List Int)):PyData:=.list (ls.map dI)
end L2
set_option Elab.async false
set_option linter.all false
set_option maxRecDepth 100000
namespace Alg
open Lean.Grind
inductive El where
 | num (n:Int)
 | vec (l:List El)
inductive FlE:Nat→El→Prop where
 | num {n:Nat} (i:Int):FlE n (.num i)
 | vec {n:Nat} {l:List El}:l.length≤100→(∀ e∈l,FlE n e)→FlE (n+1) (.vec l)
theorem FlE.mono {n:Nat}{e:El}(h:FlE n e):∀ {m:Nat},n≤m→FlE m e:=by
 induction h with
 | num i=>intro m _;exact .num i
 | vec hl _ ih=>
  intro m hm
  obtain⟨k,rfl⟩:∃ k,m=k+1:=⟨m - 1,by omega⟩
  exact .vec hl fun e he=>ih e he (by omega)
structure Twr:Type 1 where
 α:Type
 ring:CommRing α
 p:Nat
 d:Nat
 pr:p∈PR
 fld:Fld α
 ch:nt α p=0
 fr:∀ x:α,x ^ (p ^ d)=x
 enc:α→El
 inj:∀ x y,enc x=enc y→x=y
 ht:Nat
 fl:∀ x,FlE ht (enc x)
instance Twr.rg (T:Twr):Lean.Grind.CommRing T.α:=T.ring
theorem Twr.ok (T:Twr):okrow T.p=true:=okrows _ T.pr
theorem pr_pos {p:Nat}(h:p∈PR):2≤p∧p<50:=by
 revert p;decide
def fpow (p:Nat)(x:Nat):Nat→Nat
 | 0=>1 % p
 | n+1=>fpow p x n*x % p
theorem fp_inv:∀ p∈PR,∀ x,x<p→x≠0→∃ y,y<p∧x*y % p=1 % p:=by
 have h:(PR.all fun p=>(List.range p).all fun x=>x == 0 || (List.range p).any fun y=>x*y % p == 1 % p)=true:=by decide +kernel
 intro p hp x hx x0
 rw[List.all_eq_true] at h
 have h2:=h p hp
 rw[List.all_eq_true] at h2
 have h3:=h2 x (List.mem_range.mpr hx)
 rw[Bool.or_eq_true] at h3
 rcases h3 with z | z
 ·exact absurd (by simpa using z) x0
 ·rw[List.any_eq_true] at z
  obtain⟨y,h4,h5⟩:=z
  exact⟨y,List.mem_range.mp h4,by simpa using h5⟩
theorem fp_pow:∀ p∈PR,∀ x,x<p→fpow p x p=x:=by
 have h:(PR.all fun p=>(List.range p).all fun x=>fpow p x p == x)=true:=by decide +kernel
 intro p hp x hx
 rw[List.all_eq_true] at h
 have h2:=h p hp
 rw[List.all_eq_true] at h2
 simpa using h2 x (List.mem_range.mpr hx)
@[ext] structure Zp (p:Nat) where
 v:Nat
 lt:v<p
def zmk {p:Nat}(h:0<p)(n:Nat):Zp p:=⟨n % p,Nat.mod_lt _ h⟩
@[reducible] def zring {p:Nat} (h:2≤p):CommRing (Zp p):=mkR ⟨0,by omega⟩ ⟨1,by omega⟩ (fun a b=>zmk (by omega) (a.v+b.v)) (fun a b=>zmk (by omega) (a.v*b.v)) (fun a=>zmk (by omega) (p - a.v))
 (fun a=>by apply Zp.ext;show (a.v+0) % p=a.v;rw[Nat.add_zero];exact Nat.mod_eq_of_lt a.lt)
 (fun a b=>by apply Zp.ext;show (a.v+b.v) % p=(b.v+a.v) % p;rw[Nat.add_comm])
 (fun a b c=>by apply Zp.ext;show ((a.v+b.v) % p+c.v) % p=(a.v+(b.v+c.v) % p) % p;rw[Nat.mod_add_mod,Nat.add_mod_mod,Nat.add_assoc])
 (fun a b c=>by apply Zp.ext;show ((a.v*b.v) % p*c.v) % p=(a.v*((b.v*c.v) % p)) % p;rw[Nat.mod_mul_mod,Nat.mul_mod_mod,Nat.mul_assoc])
 (fun a=>by apply Zp.ext;show (a.v*1) % p=a.v;rw[Nat.mul_one];exact Nat.mod_eq_of_lt a.lt)
 (fun a b c=>by apply Zp.ext;show (a.v*((b.v+c.v) % p)) % p=((a.v*b.v) % p+(a.v*c.v) % p) % p;rw[Nat.mul_mod_mod,Nat.mul_add,Nat.mod_add_mod,Nat.add_mod_mod])
 (fun a b=>by apply Zp.ext;show (a.v*b.v) % p=(b.v*a.v) % p;rw[Nat.mul_comm])
 (fun a=>by
  apply Zp.ext
  show ((p - a.v) % p+a.v) % p=0
  rw[Nat.mod_add_mod]
  have:=a.lt
  have e:p - a.v+a.v=p:=by omega
  rw[e,Nat.mod_self])
section
variable {p:Nat} (h:2≤p)
theorem zv_pow (x:Zp p):∀ n:Nat,(letI:=zring h;x ^ n:Zp p).v=fpow p x.v n
 | 0=>by
  show 1=1 % p
  exact (Nat.mod_eq_of_lt (by omega)).symm
 | n+1=>by
  have e:=zv_pow x n
  show ((letI:=zring h;x ^ n:Zp p).v*x.v) % p=fpow p x.v n*x.v % p
  rw[e]
theorem zv_nt:∀ n:Nat,(letI:=zring h;nt (Zp p) n:Zp p).v=n % p
 | 0=>(Nat.zero_mod p).symm
 | n+1=>by
  have e:=zv_nt n
  show ((letI:=zring h;nt (Zp p) n:Zp p).v+1) % p=(n+1) % p
  rw[e,Nat.mod_add_mod]
end
def ground (p:Nat)(hp:p∈PR):Twr where
 α:=Zp p
 ring:=zring (pr_pos hp).1
 p:=p
 d:=1
 pr:=hp
 fld:=by
  letI:=zring (pr_pos hp).1
  have p2:=(pr_pos hp).1
  refine⟨fun z=>?_,fun x hx=>?_⟩
  ·have e:(1:Nat)=0:=congrArg Zp.v z
   omega
  ·obtain⟨y,h1,h2⟩:=fp_inv p hp x.v x.lt fun z=>hx (Zp.ext z)
   refine⟨⟨y,h1⟩,Zp.ext ?_⟩
   show x.v*y % p=1
   rw[h2];exact Nat.mod_eq_of_lt (by omega)
 ch:=by
  letI:=zring (pr_pos hp).1
  apply Zp.ext
  rw[zv_nt (pr_pos hp).1,Nat.mod_self];rfl
 fr:=fun x=>by
  letI:=zring (pr_pos hp).1
  apply Zp.ext
  rw[zv_pow (pr_pos hp).1,Nat.pow_one]
  exact fp_pow p hp x.v x.lt
 enc:=fun x=>.num x.v
 inj:=fun x y e=>by
  apply Zp.ext
  injection e with e
  exact Int.ofNat.inj e
 ht:=0
 fl:=fun x=>.num _
structure Alone (T:Twr)(M:Md T.α):Prop where
 irr:Irr M
 pw:Cg M.f ((X:Ser T.α) ^ ((T.p ^ T.d) ^ M.n)) X
theorem mapr_inj {β γ:Type}{f:β→γ}(hf:∀ x y,f x=f y→x=y){g h:Nat→β}{n:Nat}(e:(List.range n).map (fun i=>f (g i))=(List.range n).map (fun i=>f (h i))){i:Nat}(hi:i<n):g i=h i:=by
 have e2:=congrArg (fun l=>l[i]?) e
 simp only[List.getElem?_map] at e2
 rw[List.getElem?_range hi] at e2
 exact hf _ _ (Option.some.inj e2)
noncomputable def Twr.up (T:Twr)(M:Md T.α)(h:Alone T M)(hn:M.n≤100):Twr where
 α:=Qt M
 ring:=inferInstance
 p:=T.p
 d:=T.d*M.n
 pr:=T.pr
 fld:=qt_fld T.fld.1 h.irr
 ch:=nt_qt0 T.ch
 fr:=qt_pow T.ok T.ch T.fr M h.pw
 enc:=fun x=>.vec ((List.range M.n).map fun i=>T.enc (x.s.c i))
 inj:=fun x y e=>by
  apply Qt.ext
  apply Ser.ext
  funext i
  injection e with e
  by_cases hi:i<M.n
  ·exact mapr_inj (f:=T.enc) T.inj e hi
  ·rw[x.lt i (by omega),y.lt i (by omega)]
 ht:=T.ht+1
 fl:=fun x=>.vec (by rw[List.length_map,List.length_range];exact hn) fun e he=>by
  obtain⟨i,_,rfl⟩:=List.mem_map.mp he
  exact T.fl _
theorem mk_alone (T:Twr)(M:Md T.α)(h1:Cg M.f ((X:Ser T.α) ^ ((T.p ^ T.d) ^ M.n)) X)(h2:∀ r,IsPr r→r ∣ M.n→∃ u v,IsP u∧IsP v∧u*M.f+v*((X:Ser T.α) ^ ((T.p ^ T.d) ^ (M.n / r)) - X)=1):Alone T M:=
 ⟨rabin T.fld T.ok T.ch T.fr M h1 h2,h1⟩
theorem alone1 (T:Twr)(M:Md T.α)(h:M.n=1):Alone T M:=by
 have xm:Cg M.f X (cst (- M.f.c 0)):=by
  refine⟨1,IsP.one,?_⟩
  have e:M.f=X+cst (M.f.c 0):=by
   apply Ser.ext;funext i
   rw[c_add]
   show M.f.c i=(if i=1 then (1:T.α) else 0)+(if i=0 then M.f.c 0 else 0)
   by_cases a:i=0
   ·rw[if_neg (by omega),if_pos a,a];grind
   ·by_cases b:i=1
    ·have:=M.mon.top
     rw[h] at this
     rw[if_pos b,if_neg a,b,this];grind
    ·rw[if_neg a,if_neg b,M.mon.dg i (by omega)];grind
  have e2:cst (- M.f.c 0)=- cst (M.f.c 0):=by
   apply Ser.ext;funext i
   rw[c_neg]
   show (if i=0 then - M.f.c 0 else 0)=- (if i=0 then M.f.c 0 else 0)
   split <;> grind
  rw[e2]
  grind
 refine⟨fun w hw w0=>?_,?_⟩
 ·rw[h] at hw
  have e:=cst_of hw
  have x0:w.c 0≠0:=fun z=>w0 (by rw[e,z,cst_zero])
  obtain⟨y,hy⟩:=T.fld.2 _ x0
  refine⟨cst y,IsP.cst y,?_⟩
  have:cst y*w=1:=by
   rw[e,← cst_mul']
   have:y*w.c 0=1:=by grind
   rw[this];rfl
  rw[this];exact Cg.refl _ _
 ·have hp:∀ k:Nat,Cg M.f ((X:Ser T.α) ^ k) (cst (- M.f.c 0) ^ k):=fun k=>by
   induction k with
   | zero=>rw[pw_zero,pw_zero];exact Cg.refl _ _
   | succ k ih=>rw[pw_succ,pw_succ];exact Cg.mul ((IsP.cst _).pow k) IsP.X ih xm
  refine (hp _).trans ?_
  rw[h,Nat.pow_one,← cst_pow,T.fr]
  exact xm.symm
end Alg
set_option Elab.async false
set_option linter.all false
set_option maxRecDepth 100000
namespace L2
open PySem PySem.Spec PyProof.Rows
section
variable {X:Cx}
end
section
variable {X:Cx} {x:Str} {id:String} {p pos:Pos} {e:Expr} {es:List Expr} {kws:List Keyword} {t tk:TA} {ks:List Str}
end
section
variable {prog:Program} {w:World} {A:Around} {R:Result→Shared→Prop} {J:Addr} {fp wr:List Addr} {n:Nat} {P:Nat→Value→Prop} {St:Nat→Heap→Prop}
end
section
variable {X:Cx}
end
end L2
set_option Elab.async false
set_option linter.all false
set_option maxRecDepth 100000
set_option maxHeartbeats 1000000
namespace L2
open PySem PySem.Spec PyProof.Rows
open AutoSeq1 (wpAny_loadPart')
section
variable {prog:Program} {w:World} {A:Around} {E:Value→Shared→Prop} {s:Shared}
theorem callType_kw {T newId initId:String}{Bn Bi:Builtin}{args:List Value}{kw:List (Str×Value)}{S:PySem.Spec}{Q Q₁:Value→Shared→Prop}(ft:TypeCalled T newId initId)
  (hct:checkTypeCall T ⟨args,kw⟩=pure ()) (hcn:checkBuiltinCall newId ⟨.type T::args,kw⟩=pure ())
  (entryN:entryFor table newId=some Bn) (entryI:entryFor table initId=some Bi) (g:Meets (Bn ⟨.type T::args,kw⟩) S)
  (h:S A.in1 (wants Q₁ E) s)
  (hnext:∀ obj s₁,Q₁ obj s₁→s₁.TypeIs obj T∧argsOk initId ⟨obj::args,kw⟩∧∃ Si,Meets (Bi ⟨obj::args,kw⟩) Si∧Si A.in1 (wants (fun r s₂=>r=.none∧Q obj s₂) E) s₁):
  wpAny (model prog w) A (call (.type T) args kw) Q E s:=by
 obtain⟨c,tl,hmro⟩:=ft.mro
 have hmade:=ft.made
 have hsub:=ft.sub
 refine wpAny_call (codeAny_of_tree ?_)
 show wpAny _ _ (callAny (.type T) _) _ _ _
 refine wpAny_pure ⟨Code.quiet_builtin _ (by decide +kernel),codeAny_builtin PySem.F.entry_type_call ?_⟩
 rw[Around.under_plain (weight_type_call_type T args kw) (units_type_call_type T args kw)]
 have h1:=ft.notType
 have h2:=ft.canCreate
 repeat (any_goals (first|assumption|wp_step))
 refine codeAny_mono (codeAny_call_builtin ft.plain entryN (wpAny_of_eq hcn (g prog w A.in1 _ s h))) fun r s₁ hr=>?_
 cases r with
 | error e=>exact hr
 | ok fl=>
  cases fl with
  | ret obj=>
   obtain⟨hT,hok,Si,gi,hsi⟩:=hnext _ _ hr
   have hli:=ft.init.lookup
   have hbi:=ft.init.bind obj
   repeat (any_goals (first|assumption|wp_step))
   refine codeAny_mono (codeAny_call_builtin ft.init.plain entryI (ft.init.check _ _ _ _ _ _ _ _ hT hok (gi prog w A.in1 _ s₁ hsi))) fun r₂ s₂ hr₂=>?_
   cases r₂ with
   | error e=>exact hr₂
   | ok fl₂=>
    cases fl₂ with
    | ret r=>
     obtain⟨rfl,hq⟩:=hr₂
     repeat (any_goals (first|assumption|wp_step))
    | _=>exact hr₂.elim
  | _=>exact hr.elim
theorem object_init_kw {T newId:String}{self:Value}{rest:List Value}{kw:List (Str×Value)}(hl:typeLookup (.type T) "__init__"=pure (some (.builtin "object.__init__")))
  (hm:Bind.madeBy (.type T)=pure (some newId)) (hne:(some newId != some "object.__new__")=true) (hr:rest≠[]):
  Meets (Builtin.«object.__init__» ⟨self::rest,kw⟩) (fun _ R s=>s.TypeIs self T∧R (.ok (.ret .none)) s):=by
 refine Meets.of_wp fun prog w A R s hs=>?_
 obtain⟨hT,hq⟩:=hs
 cases rest with
 | nil=>exact absurd rfl hr
 | cons a rest=>
  repeat (any_goals (first|assumption|wp_step))
  exact⟨_,rfl,hq⟩
theorem typeCall_enumS (a b:Value):checkTypeCall "enumerate" ⟨[a],[(Str.ofString "start",b)]⟩=pure ():=by kernel_rfl
theorem newCall_enumS (a b:Value):checkBuiltinCall "enumerate.__new__" ⟨[.type "enumerate",a],[(Str.ofString "start",b)]⟩=pure ():=by kernel_rfl
theorem init_enumS (obj a b:Value):argsOk "object.__init__" ⟨[obj,a],[(Str.ofString "start",b)]⟩:=by
 unfold argsOk;rw[signature?_of (id:="object.__init__") (n:=['_','_','t','i','n','i','_','_']) (o:=['t','c','e','j','b','o']) (by kernel_rfl) PySem.F.owner_object];kernel_rfl
theorem meets_enumS (l:Addr)(items:Array Value)(n:Nat)(dct:Option Addr)(sl:Array (Option Value))(st:Int)(t:Tok)(hf:Builtin.SmallTypes.fitsIndex st=true):
  Meets (Builtin.«enumerate.__new__» ⟨[.type "enumerate",.ref l],[(Str.ofString "start",.int st t)]⟩) (fun _ R s=>s.heap.get? l=some { cls:=.type "list",dict:=dct,data:=.seq items n,slots:=sl }∧
   R (.ok (.ret (.ref (s.heap.push { cls:=.type "list_iterator",data:=.fields #[.ref l,.int 0 0] }).objs.size)))
    { s with heap:=(s.heap.push { cls:=.type "list_iterator",data:=.fields #[.ref l,.int 0 0] }).push { cls:=.type "enumerate",data:=.fields #[.none,.bool false,.ref s.heap.objs.size,rawInt st,.none,.none] } }):=
 .of_wp fun prog w A R s h=>by
  obtain⟨hp,g,d,tk,os⟩:=s;obtain⟨hl,h⟩:=h
  have hsub:=sub_enumerate
  have hL:Heap.IsList (Shared.heap ⟨hp,g,d,tk,os⟩) l items:=⟨_,hl,rfl,n,rfl⟩
  have hf':¬ (!Builtin.SmallTypes.fitsIndex st)=true:=by rw[hf];decide
  wp_walk using wpAny_loadPart' hl
  refine wpAny_stack_any fun stk=>wpAny_pure ?_
  split
  ·rename_i c _ _ _ _ _
   cases (c == Value.type "enumerate")
   ·wp_walk using wpAny_loadPart' hl,wpAny_pyIter_list hL
    exact⟨_,rfl,h⟩
   ·wp_walk using wpAny_loadPart' hl,wpAny_pyIter_list hL
    exact⟨_,rfl,h⟩
  ·wp_walk using wpAny_loadPart' hl,wpAny_pyIter_list hL
   exact⟨_,rfl,h⟩
theorem call_enumS {l:Addr}{items:Array Value}{st:Int}{t:Tok}{Q:Value→Shared→Prop}(hL:s.heap.IsList l items)(hf:Builtin.SmallTypes.fitsIndex st=true)
  (h:∀ h',IsEnum h' (s.heap.objs.size+1) s.heap.objs.size st .none→h'.IsListIter s.heap.objs.size l 0→h'.objs.size=s.heap.objs.size+2→
   (∀ b o,s.heap.get? b=some o→h'.get? b=some o)→Q (.ref (s.heap.objs.size+1)) { s with heap:=h' }):
  wpAny (model prog w) A (call (.type "enumerate") [.ref l] [(Str.ofString "start",.int st t)]) Q E s:=by
 obtain⟨⟨c,dct,dt,sl⟩,hl,hc,n,hd⟩:=hL
 replace hc:c=.type "list":=hc
 replace hd:dt=.seq items n:=hd
 subst hc hd
 refine callType_kw (Q₁:=fun obj s₁=>s₁.TypeIs obj "enumerate"∧Q obj s₁) PySem.F.called_enumerate (typeCall_enumS _ _) (newCall_enumS _ _) PySem.F.entry_enumerate_new PySem.F.entry_object_init (meets_enumS l items n dct sl st t hf) ⟨hl,?_⟩ fun obj s₁ hq=>⟨hq.1,init_enumS _ _ _,_,object_init_kw PySem.F.called_enumerate.init.lookup PySem.F.called_enumerate.made (by decide) (by simp),hq.1,rfl,hq.2⟩
 have hz:(s.heap.push { cls:=.type "list_iterator",data:=.fields #[.ref l,.int 0 0] }).objs.size=s.heap.objs.size+1:=Heap.size_push ..
 show _∧_
 rw[hz]
 have he:IsEnum ((s.heap.push { cls:=.type "list_iterator",data:=.fields #[.ref l,.int 0 0] }).push
   { cls:=.type "enumerate",data:=.fields #[.none,.bool false,.ref s.heap.objs.size,rawInt st,.none,.none] }) (s.heap.objs.size+1) s.heap.objs.size st .none:=by
  have:=Heap.get?_push_size (s.heap.push { cls:=.type "list_iterator",data:=.fields #[.ref l,.int 0 0] })
   (o:={ cls:=.type "enumerate",data:=.fields #[.none,.bool false,.ref s.heap.objs.size,rawInt st,.none,.none] }) rfl
  rw[hz] at this;exact this
 exact⟨⟨_,he,rfl⟩,h _ he ⟨_,Heap.get?_push_of_some _ (Heap.get?_push_size _ rfl),rfl,rfl⟩ (by rw[Heap.size_push,hz]) fun b o x=>Heap.get?_push_of_some _ (Heap.get?_push_of_some _ x)⟩
end
section
variable {M:Model} {A:Around} {E:Value→Shared→Prop} {s:Shared} {env:Env}
theorem callWith_type_kw {pos:Pos}{T:String}{first:List Value}{args:List (Bool×Sem Value)}{keywords:List (Option Str×Sem Value)}{Q:Value→Shared→Prop}
  (hplain:args.any (·.1)=false) (hkw:keywords.any (·.1.isNone)=false)
  (h:wpAny M A (evalArgs (.type T) true args keywords) (fun a s₁=>wpAny M A (call (.type T) (first++a.pos) a.kw) Q E s₁) E s):
  wpAny M A (callWith pos (.type T) first args keywords) Q E s:=by
 unfold callWith
 refine wpAny_bind (wpAny_holding (wpAny_mono h (fun a s₁ h₁=>wpAny_bind (wpAny_standAt ?_)) fun _ _ x=>x))
 simp only[hplain,hkw,Bool.or_false]
 refine wpAny_bind (wpAny_pure ?_)
 exact wpAny_bind (wpAny_mono h₁ (fun r s₂ hr=>wpAny_bind (wpAny_holding (wpAny_point (wpAny_pure hr)))) fun _ _ x=>x)
end
theorem fits_small {i:Int}(h0:0≤i)(h1:i<2 ^ 62):Builtin.SmallTypes.fitsIndex i=true:=by
 unfold Builtin.SmallTypes.fitsIndex
 simp
 omega
section
variable {X:Cx} {elts:List Expr} {k:Nat} {tpos:Pos}
def iEnumS (K:FrQ)(ta tk:TA):TI:=fun σ H R=>ta σ H fun vs H1=>tk σ H1 fun ws H2=>∃ a,∃ n:Nat,vs=[.ref a]∧ws=[.int (n:Int)]∧n<2 ^ 62∧(∃ xs,SqL K H2 a xs)∧R (Ite K a n) H2
theorem pi_enumS {l e:Expr}{ta tk:TA}{p pos kp:Pos}(hg:Gl X "enumerate")(hm:X.mg "enumerate"=none)(ha:PA X [l] ta)(hk:PK X [⟨some (Str.ofString "start"),e,kp⟩] tk)
  (he:backTo pos (starEach [l] X.env)=(false,eval l X.env)::backTo pos (starEach [] X.env):=by rfl)
  (hplain:(backTo pos (starEach [l] X.env)).any (·.1)=false:=by rfl)
  (hall:(backToKw pos (keywordEach [⟨some (Str.ofString "start"),e,kp⟩] X.env)).all (·.1.isSome)=true:=by rfl)
  (hkw:(backToKw pos (keywordEach [⟨some (Str.ofString "start"),e,kp⟩] X.env)).any (·.1.isNone)=false:=by rfl):
  PI X (.Tuple elts k tpos) (.Call (.Name "enumerate" p) [l] [⟨some (Str.ofString "start"),e,kp⟩] pos) (iEnumS X.K ta tk):=by
 intro pins s σ H R I h
 refine wpAny_Call_Name_kw (ld_blt I hg hm boot_enumerate ?_)
 refine callWith_type_kw hplain hkw ?_
 have hb:=ha pos pins s σ H _ I h
 rw[he] at hb ⊢
 refine evalArgs_kwB hall (thn hb fun us s1 ⟨vs,H1,I1,r1,q1⟩=>?_)
 refine thn (hk pos pins s1 σ H1 _ I1 q1) fun ws s2 ⟨ys,H2,I2,r2,q2⟩=>?_
 obtain⟨a,n,e1,e2,hn,⟨xs,hq⟩,q⟩:=q2
 subst e1 e2
 obtain⟨u,rfl,ru⟩:=vals1 r1
 cases (show u=Value.ref a from ru)
 obtain⟨v,rfl,rv'⟩:=vals1 r2
 obtain⟨tk',rfl⟩:=(show ∃ tk,v=Value.int (n:Int) tk from rv')
 obtain⟨its,rv,pl,hz⟩:=I2.list hq
 have hlt:a<s2.heap.objs.size:=by obtain⟨_,y,_⟩:=pl.isList;exact Heap.lt_size y
 show wpAny _ _ (call (.type "enumerate") [.ref a] [(Str.ofString "start",.int (n:Int) tk')]) _ _ _
 refine call_enumS pl.isList (fits_small (by omega) (by omega)) fun h' he' hit hsz hk'=>?_
 refine wpAny_pyIter_enum he' ?_
 have I3:Inv X pins σ H2 { s2 with heap:=h' }:=I2.kept (t':=s2.toks) hk'
 refine⟨_,[s2.heap.objs.size+1,s2.heap.objs.size],_,_,H2,rfl,I3,turn_enum a (s2.heap.objs.size+1) s2.heap.objs.size (Nat.succ_ne_self _) (Nat.ne_of_lt (Nat.lt_succ_of_lt hlt)) (Nat.ne_of_lt hlt) n,⟨⟨_,he'⟩,hit⟩,fun b hb=>?_,q⟩
 rcases List.mem_cons.mp hb with rfl | hb
 ·exact I2.fpOk (Nat.le_succ _) (I2.hok.fresh (Nat.le_succ _))
 ·have:b=s2.heap.objs.size:=by simpa using hb
  subst this
  exact I2.fpOk (Nat.le_refl _) (I2.hok.fresh (Nat.le_refl _))
theorem piK_enumS {K:FrQ}{l e:Expr}{ta tk:TA}{p pos kp:Pos}(hK:X.K=K)(hg:Gl X "enumerate")(hm:X.mg "enumerate"=none)(ha:PA X [l] ta)(hk:PK X [⟨some (Str.ofString "start"),e,kp⟩] tk)
  (he:backTo pos (starEach [l] X.env)=(false,eval l X.env)::backTo pos (starEach [] X.env):=by rfl)
  (hplain:(backTo pos (starEach [l] X.env)).any (·.1)=false:=by rfl)
  (hall:(backToKw pos (keywordEach [⟨some (Str.ofString "start"),e,kp⟩] X.env)).all (·.1.isSome)=true:=by rfl)
  (hkw:(backToKw pos (keywordEach [⟨some (Str.ofString "start"),e,kp⟩] X.env)).any (·.1.isNone)=false:=by rfl):
  PI X (.Tuple elts k tpos) (.Call (.Name "enumerate" p) [l] [⟨some (Str.ofString "start"),e,kp⟩] pos) (iEnumS K ta tk):=by subst hK;exact pi_enumS hg hm ha hk he hplain hall hkw
end
section
variable {X:Cx} {tg:Expr}
end
end L2
set_option Elab.async false
set_option linter.all false
set_option maxRecDepth 100000
namespace L2
open PySem PySem.Spec PyProof.Rows
def Itz (K:FrQ)(a b:Addr):It:=
 ⟨fun i H=>∃ xs ys x y,SqL K H a xs∧SqL K H b ys∧xs[i]?=some x∧ys[i]?=some y,
  fun i H v H'=>∃ r x y,v=.ref r∧H r=none∧(∀ xs,SqL K H a xs→xs[i]?=some x)∧(∀ ys,SqL K H b ys→ys[i]?=some y)∧H'=upd H r (.tup [x,y]),
  fun i H=>∃ xs ys,SqL K H a xs∧SqL K H b ys∧(xs.length≤i∨ys.length≤i)⟩
theorem turn_zip {P:Program}{w:World}{K:FrQ}{elts:List Expr}{k:Nat}{pos:Pos}(a b z TI TO i1 i2:Addr)(D:ZipApart z TI TO i1 i2 a b):
  Turn P w K (.Tuple elts k pos) (Itz K a b) [z,TI,TO,i1,i2] z (fun i h=>IsZip h z TI TO .none∧IsPair h TI (.ref i1) (.ref i2)∧(∃ a b,IsPair h TO a b)∧h.IsListIter i1 a i∧h.IsListIter i2 b i) where
 mem:=by simp
 obj:=fun i h x c hc=>by
  obtain⟨hz,hTI,⟨u,v,hTO⟩,⟨o1,h1,_,d1⟩,⟨o2,h2,_,d2⟩⟩:=x
  simp only[List.mem_cons,List.not_mem_nil,or_false] at hc
  rcases hc with rfl | rfl | rfl | rfl | rfl
  ·exact⟨_,hz,fun v z=>by have z':Data.fields _=Data.cell v:=z;cases z'⟩
  ·exact⟨_,hTI,fun v z=>by have z':Data.seq _ _=Data.cell v:=z;cases z'⟩
  ·exact⟨_,hTO,fun v z=>by have z':Data.seq _ _=Data.cell v:=z;cases z'⟩
  ·exact⟨o1,h1,fun v z=>by rw[d1] at z;cases z⟩
  ·exact⟨o2,h2,fun v z=>by rw[d2] at z;cases z⟩
 keep:=fun i h h' x kk=>by
  obtain⟨hz,hTI,⟨u,v,hTO⟩,h1,h2⟩:=x
  exact⟨kk z (by simp) _ hz,kk TI (by simp) _ hTI,⟨u,v,kk TO (by simp) _ hTO⟩,h1.at fun o ho=>kk i1 (by simp) o ho,h2.at fun o ho=>kk i2 (by simp) o ho⟩
 item:=by
  intro X hP hw hK hc i pins s σ H E I hf x hg
  subst hP hw hK
  obtain⟨xs,ys,vx,vy,hqx,hqy,hx,hy⟩:=hg
  obtain⟨its,rv,p,_⟩:=I.list hqx
  obtain⟨jts,rw',p',_⟩:=I.list hqy
  obtain⟨ux,hux,rux⟩:=rv.get hx
  obtain⟨uy,huy,ruy⟩:=rw'.get hy
  obtain⟨hz,hTI,⟨u,v,hTO⟩,h1,h2⟩:=x
  have hn0:H s.heap.objs.size=none:=I.fresh
  have hzl:z<s.heap.objs.size:=Heap.lt_size hz
  have hTOl:TO<s.heap.objs.size:=Heap.lt_size hTO
  have hTIl:TI<s.heap.objs.size:=Heap.lt_size hTI
  have h1l:i1<s.heap.objs.size:=by obtain⟨_,y,_⟩:=id h1;exact Heap.lt_size y
  have h2l:i2<s.heap.objs.size:=by obtain⟨_,y,_⟩:=id h2;exact Heap.lt_size y
  refine wpAny_pyNext_zip_item (x:=ux) (y:=uy) D hz hTI hTO h1 h2 p.isList p'.isList (by simpa using hux) (by simpa using huy) fun h' a1 a2 a3 a4 a5 a6 a7=>?_
  refine⟨_,rfl,wpAny_letOwnedTupleGo_zip a1 fun h3 b1 hs3=>?_⟩
  have hT2:h3.get? s.heap.objs.size=some { cls:=.type "tuple",data:=.seq #[ux,uy] }:=(hs3.2 _ (Nat.ne_of_gt hzl)).trans a5
  have I2:Inv X pins σ (upd H s.heap.objs.size (.tup [vx,vy])) { s with heap:=h3 }:=
   I.turnedNew (t':=s.toks) (ch:=[z,TI,TO,i1,i2]) (fun c o hc q=>(hs3.2 c fun e=>hc (by simp[e])).trans (a7 c o (fun e=>hc (by simp[e])) (fun e=>hc (by simp[e])) (fun e=>hc (by simp[e])) (fun e=>hc (by simp[e])) q)) hf (Nat.le_refl _)
    ⟨by show 2≤sizeLine;rw[sizeLine_eq];omega,[ux,uy],.cons rux (.cons ruy .nil),_,hT2,rfl,0,rfl⟩
  refine⟨.ref s.heap.objs.size,_,I2,rfl,⟨_,vx,vy,rfl,hn0,fun zs hzs=>by rw[I.list_inj hzs hqx];exact hx,fun zs hzs=>by rw[I.list_inj hzs hqy];exact hy,rfl⟩,⟨b1,?_,⟨_,_,(hs3.2 TO D.TOz).trans a2⟩,?_,?_⟩,fun c hc=>?_⟩
  ·exact (hs3.2 TI D.TIz).trans (a7 TI _ D.TIz D.TITO D.TIi1 D.TIi2 hTI)
  ·exact a3.at fun o q=>(hs3.2 i1 D.i1z).trans q
  ·exact a4.at fun o q=>(hs3.2 i2 D.i2z).trans q
  ·have hc0:=(hf c hc).1
   rw[upd_ne ?_]
   ·exact hc0
   ·simp only[List.mem_cons,List.not_mem_nil,or_false] at hc
    rcases hc with rfl | rfl | rfl | rfl | rfl <;> exact Nat.ne_of_lt ‹_›
 done:=by
  intro X hP hw hK hc i pins s σ H E I hf x hg
  subst hP hw hK
  obtain⟨xs,ys,hqx,hqy,hle⟩:=hg
  obtain⟨its,rv,p,_⟩:=I.list hqx
  obtain⟨jts,rw',p',_⟩:=I.list hqy
  obtain⟨hz,hTI,⟨u,v,hTO⟩,h1,h2⟩:=x
  have l1:=rv.length
  have l2:=rw'.length
  refine wpAny_pyNext_zip_end (I.ok.hd hc) D hz hTI hTO h1 h2 p.isList p'.isList (by rcases hle with z | z;exact .inl (by simp;omega);exact .inr (by simp;omega)) fun h' hk=>?_
  exact⟨rfl,I.turnedL (t':=s.toks) (ch:=[z,TI,TO,i1,i2]) (fun c o hc q=>hk c o (fun e=>hc (by simp[e])) (fun e=>hc (by simp[e])) (fun e=>hc (by simp[e])) (fun e=>hc (by simp[e])) q) hf⟩
 self:=fun _ _ _ _ _ x h=>wpAny_pyIter_zip x.1 h
section
variable {X:Cx} {elts:List Expr} {k:Nat} {tpos:Pos}
def iZip (K:FrQ)(ta:TA):TI:=fun σ H R=>ta σ H fun vs H1=>∃ a b,vs=[.ref a,.ref b]∧(∃ xs,SqL K H1 a xs)∧(∃ ys,SqL K H1 b ys)∧R (Itz K a b) H1
theorem boot_zip:bootBuiltins "zip"=some (.type "zip"):=by decide +kernel
theorem pi_zip {l m:Expr}{ta:TA}{p pos:Pos}(hg:Gl X "zip")(hm:X.mg "zip"=none)(ha:PA X [l,m] ta)(hs:starEach [l,m] X.env=(false,eval l X.env)::starEach [m] X.env:=by rfl)(ht:((backTo pos (starEach [m] X.env)).any fun x=>x.1)=false:=by rfl):
  PI X (.Tuple elts k tpos) (.Call (.Name "zip" p) [l,m] [] pos) (iZip X.K ta):=by
 intro pins s σ H R I h
 refine Call_ (ld_blt I hg hm boot_zip (PyProof.Rows.callWith_type1 (thn (ha pos pins s σ H _ I h) fun us s1 ⟨vs,H1,I1,r1,q1⟩=>?_) hs ht))
 obtain⟨a,b,e,⟨xs,hqx⟩,⟨ys,hqy⟩,q⟩:=q1
 subst e
 obtain⟨u1,u2,rfl,x1,x2⟩:=vals2 r1
 cases (show u1=Value.ref a from x1)
 cases (show u2=Value.ref b from x2)
 obtain⟨its,rv,pl,_⟩:=I1.list hqx
 obtain⟨jts,rw',pl',_⟩:=I1.list hqy
 have hla:a<s1.heap.objs.size:=by obtain⟨_,y,_⟩:=pl.isList;exact Heap.lt_size y
 have hlb:b<s1.heap.objs.size:=by obtain⟨_,y,_⟩:=pl'.isList;exact Heap.lt_size y
 refine call_zip_2 pl.isList pl'.isList fun h' hz hTI hTO h1 h2 hsz hk=>?_
 refine wpAny_pyIter_zip hz ?_
 have I2:Inv X pins σ H1 { s1 with heap:=h' }:=I1.kept (t':=s1.toks) hk
 refine⟨_,[s1.heap.objs.size+4,s1.heap.objs.size+2,s1.heap.objs.size+3,s1.heap.objs.size,s1.heap.objs.size+1],_,_,H1,rfl,I2,turn_zip a b (s1.heap.objs.size+4) (s1.heap.objs.size+2) (s1.heap.objs.size+3) s1.heap.objs.size (s1.heap.objs.size+1) ?_,⟨hz,hTI,⟨_,_,hTO⟩,h1,h2⟩,fun c hc=>?_,q⟩
 ·generalize s1.heap.objs.size=n at*
  constructor <;> (simp only[Addr] at *;omega)
 ·have hge:s1.heap.objs.size≤c:=by
   simp only[List.mem_cons,List.not_mem_nil,or_false] at hc
   rcases hc with rfl | rfl | rfl | rfl | rfl
   ·exact Nat.le_add_right _ _
   ·exact Nat.le_add_right _ _
   ·exact Nat.le_add_right _ _
   ·exact Nat.le_refl _
   ·exact Nat.le_add_right _ _
  exact I1.fpOk hge (I1.hok.fresh hge)
theorem piK_zip {K:FrQ}{l m:Expr}{ta:TA}{p pos:Pos}(hK:X.K=K)(hg:Gl X "zip")(hm:X.mg "zip"=none)(ha:PA X [l,m] ta)(hs:starEach [l,m] X.env=(false,eval l X.env)::starEach [m] X.env:=by rfl)(ht:((backTo pos (starEach [m] X.env)).any fun x=>x.1)=false:=by rfl):
  PI X (.Tuple elts k tpos) (.Call (.Name "zip" p) [l,m] [] pos) (iZip K ta):=by subst hK;exact pi_zip hg hm ha hs ht
end
theorem comp_zip {K:FrQ}{a b D:Addr}{xs ys:List V}{st:St}{g:TG}{tif:TT}{te:TE}{H1:Hp}{Q:VK}(Pv:Nat→List V→Hp→Prop)(hle:xs.length=ys.length)(h0:Pv 0 [] (upd H1 D (.lst [])))
  (hl:∀ i zs H2,H2 D=some (.lst zs)→Pv i zs H2→SqL K H2 a xs∧SqL K H2 b ys)
  (hs:∀ i m x y zs H2 r,m=xs.length - i→i<xs.length→xs[i]?=some x→ys[i]?=some y→H2 D=some (.lst zs)→zs.length≤i→Pv i zs H2→H2 r=none→g (.ref r) st (upd H2 r (.tup [x,y])) fun σ3 H3=>tif σ3 H3 fun bb H4=>
   if bb=true then te σ3 H4 fun y H5=>∃ ys,H5 D=some (.lst ys)∧ys.length<sizeLine∧∃ m',m'<m∧CW xs.length D Pv (i+1) m' (upd H5 D (.lst (ys++[y]))) else ∃ m',m'<m∧CW xs.length D Pv (i+1) m' H4)
  (hd:∀ zs H2,H2 D=some (.lst zs)→Pv xs.length zs H2→Q (.ref D) H2):
  compW (Itz K a b) D st g tif te Q H1:=by
 refine⟨CW xs.length D Pv,⟨xs.length,by simp,Nat.zero_le _,[],upd_same,Nat.le_refl _,h0⟩,?_⟩
 rintro i m H2 ⟨hm,hi,zs,hz,hlen,p⟩
 obtain⟨q1,q2⟩:=hl i zs H2 hz p
 by_cases hlt:i<xs.length
 ·have hlt2:i<ys.length:=by omega
  refine .inr ⟨⟨xs,ys,xs[i],ys[i],q1,q2,by simp[hlt],by simp[hlt2]⟩,fun v H' y=>?_⟩
  obtain⟨r,x,y',e1,hr,hx,hy,e2⟩:=y
  subst e1 e2
  exact hs i m x y' zs _ r hm hlt (hx xs q1) (hy ys q2) hz hlen p hr
 ·have e:i=xs.length:=by omega
  subst e
  exact .inl ⟨⟨xs,ys,q1,q2,.inl (Nat.le_refl _)⟩,hd zs H2 hz p⟩
end L2
set_option Elab.async false
set_option linter.all false
set_option maxRecDepth 100000
namespace L2
open PySem PySem.Spec PyProof.Rows Alg
inductive Rep (H:Hp)(ok:Addr→Prop):V→El→Prop where
 | num (n:Int):Rep H ok (.int n) (.num n)
 | vec {a:Addr} {vs:List V} {l:List El} (h:H a=some (.lst vs)) (k:ok a) (hl:vs.length=l.length) (r:∀ (i:Nat) x e,vs[i]?=some x→l[i]?=some e→Rep H ok x e):Rep H ok (.ref a) (.vec l)
theorem Rep.imp {H H':Hp}{ok ok':Addr→Prop}(f:∀ b o,H b=some o→ok b→H' b=some o∧ok' b){v:V}{e:El}(R:Rep H ok v e):Rep H' ok' v e:=by
 induction R with
 | num n=>exact .num n
 | vec h k hl _ ih=>exact .vec (f _ _ h k).1 (f _ _ h k).2 hl ih
abbrev Any:Addr→Prop:=fun _=>True
abbrev NewB (H:Hp):Addr→Prop:=fun b=>H b=none
theorem Rep.same {H H':Hp}{ok:Addr→Prop}{v:V}{e:El}(R:Rep H ok v e)(g:Same H H'):Rep H' ok v e:=R.imp fun b o h k=>⟨g b o h,k⟩
theorem Rep.any {H:Hp}{ok:Addr→Prop}{v:V}{e:El}(R:Rep H ok v e):Rep H Any v e:=R.imp fun b o h k=>⟨h,trivial⟩
theorem Rep.older {H H0 H1:Hp}{v:V}{e:El}(R:Rep H (NewB H1) v e)(g:Same H0 H1):Rep H (NewB H0) v e:=R.imp fun b o h k=>⟨h,g.free k⟩
mutual
def toD:El→PyData
 | .num n=>.int n
 | .vec l=>.list (toDs l)
def toDs:List El→List PyData
 | []=>[]
 | e::l=>toD e::toDs l
end
theorem toDs_map:∀ l:List El,toDs l=l.map toD
 | []=>rfl
 | e::l=>by show toD e::toDs l=_;rw[toDs_map l];rfl
mutual
theorem toD_inj:∀ {a b:El},toD a=toD b→a=b
 | .num n,.num m,h=>by
  have:PyData.int n=PyData.int m:=h
  injection this with e;rw[e]
 | .num n,.vec l,h=>by
  have:PyData.int n=PyData.list (toDs l):=h
  cases this
 | .vec l,.num n,h=>by
  have:PyData.list (toDs l)=PyData.int n:=h
  cases this
 | .vec l,.vec k,h=>by
  have:PyData.list (toDs l)=PyData.list (toDs k):=h
  injection this with e;rw[toDs_inj e]
theorem toDs_inj:∀ {a b:List El},toDs a=toDs b→a=b
 | [],[],_=>rfl
 | [],e::l,h=>by
  have:([]:List PyData)=toD e::toDs l:=h
  cases this
 | e::l,[],h=>by
  have:toD e::toDs l=[]:=h
  cases this
 | e::l,f::k,h=>by
  have:toD e::toDs l=toD f::toDs k:=h
  injection this with h1 h2
  rw[toD_inj h1,toDs_inj h2]
end
theorem fl_toD {n:Nat}{e:El}(h:FlE n e):Fl n (toD e):=by
 induction h with
 | num i=>exact .int i
 | @vec n l _ _ ih=>
  show Fl (n+1) (.list (toDs l))
  rw[toDs_map]
  exact .lst fun d hd=>by
   obtain⟨e,he,rfl⟩:=List.mem_map.mp hd
   exact ih e he
theorem Rep.den {K:FrQ}{H:Hp}{ok:Addr→Prop}{v:V}{e:El}(R:Rep H ok v e):Den K H v (toD e):=by
 induction R with
 | num n=>exact .int n
 | @vec a vs l h k hl r ih=>
  show Den K H (.ref a) (.list (toDs l))
  rw[toDs_map]
  refine .lst (SqL.of h) (by rw[List.length_map];exact hl) fun i x d h1 h2=>?_
  rw[List.getElem?_map] at h2
  cases e:l[i]? with
  | none=>rw[e] at h2;cases h2
  | some y=>
   rw[e] at h2
   cases h2
   exact ih i x y h1 e
theorem eqRep {K:FrQ}{H:Hp}{o1 o2:Addr→Prop}{u v:V}{a b:El}{n m:Nat}{Q:VK}(R:Rep H o1 u a)(S:Rep H o2 v b)(f:FlE n a)(g:FlE m b)(hn:n≤64)(hm:m≤64)
  (q1:a=b→Q (.bl true) H) (q2:a≠b→Q (.bl false) H):rEqD K false u v H Q:=by
 refine⟨toD a,toD b,R.den,S.den,(fl_toD f).shaped hn,(fl_toD g).shaped hm,?_⟩
 show Q (.bl (PyData.eqv (toD a) (toD b))) H
 rw[eqv_dec (fl_toD f) (fl_toD g)]
 by_cases h:a=b
 ·rw[decide_eq_true (congrArg toD h)];exact q1 h
 ·rw[decide_eq_false fun z=>h (toD_inj z)];exact q2 h
theorem neRep {K:FrQ}{H:Hp}{o1 o2:Addr→Prop}{u v:V}{a b:El}{n m:Nat}{Q:VK}(R:Rep H o1 u a)(S:Rep H o2 v b)(f:FlE n a)(g:FlE m b)(hn:n≤64)(hm:m≤64)
  (q1:a=b→Q (.bl false) H) (q2:a≠b→Q (.bl true) H):rEqD K true u v H Q:=by
 refine⟨toD a,toD b,R.den,S.den,(fl_toD f).shaped hn,(fl_toD g).shaped hm,?_⟩
 show Q (.bl (!PyData.eqv (toD a) (toD b))) H
 rw[eqv_dec (fl_toD f) (fl_toD g)]
 by_cases h:a=b
 ·rw[decide_eq_true (congrArg toD h)];exact q1 h
 ·rw[decide_eq_false fun z=>h (toD_inj z)];exact q2 h
def FD (K:FrQ)(f:Addr)(fd:FuncData):Prop:=∃ oc od osl,K.lookup f=some ⟨oc,od,.func fd,osl⟩
theorem FD.uniq {K:FrQ}{f:Addr}{fd fd':FuncData}(h:FD K f fd)(h':FD K f fd'):fd=fd':=by
 obtain⟨oc,od,osl,e⟩:=h
 obtain⟨oc',od',osl',e'⟩:=h'
 rw[e] at e'
 injection e' with e'
 injection e' with _ _ e3 _
 injection e3
def onC (C:Addr)(sp:Sp):Sp:=fun vs H Q E=>sp vs H Q E∧∃ a dx fs,vs.head?=some (.ref a)∧H a=some (.ins C dx fs)
structure Mth (P:Program)(w:World)(K:FrQ)(mg:Str→Option Value)(base:Heap)(k:Nat)(J:Hp→Addr→Prop)(m:Str)(ps:List Str)(sp:Sp):Prop where
 ex:∀ H a,J H a→∃ C dx fs f fd,H a=some (.ins C dx fs)∧fs.lookup m=none∧Cls K C∧Meth K C m f∧FD K f fd∧Binds K fd ps []∧FnOk P w K mg base CX0 k f fd ps (onC C sp)
def tMth (J:Hp→Addr→Prop)(sp:Sp)(to:TE)(t:TA):TE:=fun σ H Q=>to σ H fun x H1=>∃ a,x=.ref a∧J H1 a∧t σ H1 fun vs H2=>(∀ o,H1 a=some o→H2 a=some o)∧sp (x::vs) H2 Q E0
section
variable {X:Cx} {k n:Nat} {J:Hp→Addr→Prop} {m:Str} {ps:List Str} {sp:Sp} {pos apos:Pos} {e o:Expr} {es:List Expr} {ta:TE} {t:TA}
theorem pe_mth {pl:Sem Bool}(M:Mth X.prog X.w X.K X.mg X.base k J m ps sp)(hr:Room n X.A)(he:PE X o ta)(ha:PA X (e::es) t)(hle:k≤n:=by first|decide|omega)
  (hst:starEach (e::es) X.env=(false,eval e X.env)::starEach es X.env:=by rfl) (hpl:(backTo pos (starEach es X.env)).any (·.1)=false:=by rfl)
  (ht:eval (.Call (.Attribute o m apos) (e::es) [] pos) X.env=(do
   let ov ← eval o X.env
   standAt apos.atName
   let (f,first) ← holding [ov] (getMethod ov m pl)
   callWith pos f first (backTo pos (starEach (e::es) X.env)) (backToKw pos (keywordEach [] X.env))):=by rfl):
  PE X (.Call (.Attribute o m apos) (e::es) [] pos) (tMth J sp ta t):=by
 refine⟨?_⟩
 intro pins s σ H Q I h
 refine PySem.W.methodCall_KW (pl:=pl) (thn (he pins s σ H _ I h) fun u s1 ⟨x,H1,I1,rx,a,ex,ej,q⟩=>?_) ht
 subst ex
 obtain rfl:u=Value.ref a:=rx
 obtain⟨C,dx,fs,f,fd,ea,l,c,hm,_,hb,F⟩:=M.ex H1 a ej
 refine getmeth_ok I1 ea c hm l ?_
 refine PySem.W.callWith_K (first:=[.ref a]) (h₀:=X.base) I.ok.mod.kin hm.kp (thn (ha pos pins s1 σ H1 _ I1 q) fun us s2 ⟨vs,H2,I2,r,st,q2⟩=>⟨I2.kIn,?_⟩) hst hpl
 refine run_fn (us:=.ref a::us) (vs:=.ref a::vs) F (hr.mono hle) hb .nil pass0 I2 (.cons rfl r) ?_
 rw[List.append_nil]
 exact⟨q2,a,dx,fs,rfl,st _ ea⟩
theorem pe_mth0 {pl:Sem Bool}(M:Mth X.prog X.w X.K X.mg X.base k J m ps sp)(hr:Room n X.A)(he:PE X o ta)(hle:k≤n:=by first|decide|omega)
  (ht:eval (.Call (.Attribute o m apos) [] [] pos) X.env=(do
   let ov ← eval o X.env
   standAt apos.atName
   let (f,first) ← holding [ov] (getMethod ov m pl)
   callWith pos f first (backTo pos (starEach [] X.env)) (backToKw pos (keywordEach [] X.env))):=by rfl):
  PE X (.Call (.Attribute o m apos) [] [] pos) (tMth J sp ta tNil):=by
 refine⟨?_⟩
 intro pins s σ H Q I h
 refine PySem.W.methodCall_KW (pl:=pl) (thn (he pins s σ H _ I h) fun u s1 ⟨x,H1,I1,rx,a,ex,ej,st,q⟩=>?_) ht
 subst ex
 obtain rfl:u=Value.ref a:=rx
 obtain⟨C,dx,fs,f,fd,ea,l,c,hm,_,hb,F⟩:=M.ex H1 a ej
 refine getmeth_ok I1 ea c hm l ?_
 refine PySem.W.callWith_K0 (first:=[.ref a]) I1.kIn hm.kp (run_fn (us:=[.ref a]) (vs:=[.ref a]) F (hr.mono hle) hb .nil pass0 I1 (.cons rfl .nil) ?_)
 exact⟨q,a,dx,fs,rfl,ea⟩
end
theorem pe_fldK {X:Cx}{K:FrQ}{e:Expr}{f:Str}{pos:Pos}{ta:TE}(hK:X.K=K)(he:PE X e ta)(hb:attributeBase e f X.env (eval e X.env)=eval e X.env:=by rfl):PE X (.Attribute e f pos) (tFld K ta f):=by subst hK;exact pe_fld he hb
structure Maker (P:Program)(w:World)(K:FrQ)(mg:Str→Option Value)(base:Heap)(k:Nat)(x:Str)(C:Addr)(ps:List Str)(sp:Sp):Prop where
 ex:∃ f fd,Mk K C f∧Binds K fd ps []∧FnOk P w K mg base CX0 k f fd ps sp∧mg x=some (.ref C)
section
variable {X:Cx} {k n:Nat} {C:Addr} {x:Str} {ps:List Str} {sp:Sp} {p pos:Pos} {e:Expr} {es:List Expr} {t:TA}
theorem pe_mkr (M:Maker X.prog X.w X.K X.mg X.base k x C ps sp)(hr:Room n X.A)(ha:PA X (e::es) t)(hle:k+1≤n:=by first|decide|omega)(hg:Gl X x:=by rfl)(hdb:(x ==("__debug__":Str))=false:=by decide)
  (he:starEach (e::es) X.env=(false,eval e X.env)::starEach es X.env:=by rfl) (hpl:(backTo pos (starEach es X.env)).any (·.1)=false:=by rfl):
  PE X (.Call (.Name x p) (e::es) [] pos) (tMake C sp [] E0 t):=by
 obtain⟨f,fd,mk,b,F,hm⟩:=M.ex
 exact pe_make mk F (hr.mono hle) hg hm b .nil pass0 ha hdb he hpl
end
structure MSrc (K:FrQ)(C:Addr)(m qual:Str)(st:Stmt)(ps:List Str):Prop where
 ex:∃ f fd,Fun K m qual st f fd∧Binds K fd ps []∧Meth K C m f
structure Mok (P:Program)(w:World)(K:FrQ)(mg:Str→Option Value)(base:Heap)(k:Nat)(C:Addr)(m:Str)(ps:List Str)(sp:Sp):Prop where
 ex:∃ f fd,Meth K C m f∧FD K f fd∧Binds K fd ps []∧FnOk P w K mg base CX0 k f fd ps sp
section
variable {P:Program} {w:World} {K:FrQ} {mg:Str→Option Value} {base:Heap} {C:Addr}
theorem MSrc.ok {m qual:Str}{st:Stmt}{N ps:List Str}{k:Nat}{sp:Sp}(F:MSrc K C m qual st ps)(S:FnScope N ps (defScope st))(len:∀ vs H Q E,sp vs H Q E→vs.length=ps.length)
  (hbody:∀ (f:Addr) (cdv:Value) (A:Around) (outer:List Env) (s:Shared) (H:Hp) (vs:List V) (Q:VK) (E:XK),Room k (A.deeper (envOfC qual (defScope st) s.heap.objs.size f cdv))→sp vs H Q E→
   ∃ t,PSs (cxOf CX0 P w K mg base N qual (defScope st) f cdv A outer s H E).nox (defBody st) t∧t { nx:=fun _ H'=>Q .non H',rt:=Q } (start N vs) H):Mok P w K mg base (k+1) C m ps sp:=by
 obtain⟨f,fd,F,B,M⟩:=F.ex
 have fdk:FD K f fd:=by
  obtain⟨oc,od,kV,doc,pm,an,cdv,ct,osl,_,lk,_⟩:=F.ex
  exact⟨oc,od,osl,lk⟩
 exact⟨f,fd,M,fdk,B,F.ok S len (hbody f)⟩
theorem Mok.imp {k:Nat}{m:Str}{ps:List Str}{sp sp':Sp}(D:Mok P w K mg base k C m ps sp)(h:∀ vs H Q E,sp' vs H Q E→sp vs H Q E):Mok P w K mg base k C m ps sp':=by
 obtain⟨f,fd,M,D,B,F⟩:=D.ex
 exact⟨f,fd,M,D,B,F.imp h⟩
theorem Dfn.mono {j k:Nat}{x:Str}{ps:List Str}{sp:Sp}(D:Dfn P w K mg base j x ps sp)(h:j≤k):Dfn P w K mg base k x ps sp:=by
 obtain⟨f,fd,F,B,kp,M⟩:=D.ex
 exact⟨f,fd,F.mono h,B,kp,M⟩
theorem Mth.of {k:Nat}{J:Hp→Addr→Prop}{m:Str}{ps:List Str}{sp:Sp}(h:∀ H a,J H a→∃ C dx fs,H a=some (.ins C dx fs)∧fs.lookup m=none∧Cls K C∧Mok P w K mg base k C m ps (onC C sp)):Mth P w K mg base k J m ps sp:=⟨fun H a j=>by
 obtain⟨C,dx,fs,h1,h2,h3,h4⟩:=h H a j
 obtain⟨f,fd,M,D,B,F⟩:=h4.ex
 exact⟨C,dx,fs,f,fd,h1,h2,h3,M,D,B,F⟩⟩
theorem Mth.mono {j k:Nat}{J:Hp→Addr→Prop}{m:Str}{ps:List Str}{sp:Sp}(M:Mth P w K mg base j J m ps sp)(h:j≤k):Mth P w K mg base k J m ps sp:=⟨fun H a q=>by
 obtain⟨C,dx,fs,f,fd,h1,h2,h3,h4,h5,h6,F⟩:=M.ex H a q
 exact⟨C,dx,fs,f,fd,h1,h2,h3,h4,h5,h6,F.mono h⟩⟩
theorem Mth.imp {k:Nat}{J:Hp→Addr→Prop}{m:Str}{ps:List Str}{sp sp':Sp}(M:Mth P w K mg base k J m ps sp)(h:∀ vs H Q E,sp' vs H Q E→sp vs H Q E):Mth P w K mg base k J m ps sp':=⟨fun H a q=>by
 obtain⟨C,dx,fs,f,fd,h1,h2,h3,h4,h5,h6,F⟩:=M.ex H a q
 exact⟨C,dx,fs,f,fd,h1,h2,h3,h4,h5,h6,F.imp fun vs H Q E ⟨a,b⟩=>⟨h vs H Q E a,b⟩⟩⟩
theorem Mth.union {I:Type}{k:Nat}{J:I→Hp→Addr→Prop}{m:Str}{ps:List Str}{sp:I→Sp}(M:∀ i,Mth P w K mg base k (J i) m ps (sp i))(hs:∀ i vs H Q E,sp i vs H Q E→∃ a,vs.head?=some (.ref a)∧J i H a):
  Mth P w K mg base k (fun H a=>∃ i,J i H a) m ps (fun vs H Q E=>∃ i,sp i vs H Q E):=⟨fun H a ⟨i,j⟩=>by
 obtain⟨C,dx,fs,f,fd,h1,h2,h3,h4,h5,h6,F⟩:=(M i).ex H a j
 refine⟨C,dx,fs,f,fd,h1,h2,h3,h4,h5,h6,?_⟩
 have key:∀ (i':I) (vs:List V) (H:Hp) (a:Addr),J i' H a→(∃ dx fs,H a=some (.ins C dx fs))→FnOk P w K mg base CX0 k f fd ps (onC C (sp i')):=fun i' vs H a j' ⟨dx',fs',e'⟩=>by
  obtain⟨C2,dx2,fs2,f2,fd2,k1,k2,k3,k4,k5,k6,F2⟩:=(M i').ex H a j'
  rw[e'] at k1
  obtain⟨rfl,_,_⟩:C=C2∧dx'=dx2∧fs'=fs2:=by
   injection k1 with k1
   injection k1 with a1 a2 a3
   exact⟨a1,a2,a3⟩
  obtain rfl:f=f2:=by
   have:=h4.at_.symm.trans k4.at_
   injection this with this
   injection this with this
   injection this
  obtain rfl:=h5.uniq k5
  exact F2
 refine⟨fun vs H Q E ⟨⟨i',s'⟩,a',dx',fs',hh,e'⟩=>?_,fun A outer s H args us vs Q E hr he hb hv ⟨⟨i',s'⟩,a',dx',fs',hh,e'⟩=>?_⟩
 ·obtain⟨a2,h2',j2⟩:=hs i' vs H Q E s'
  rw[hh] at h2'
  cases h2'
  exact (key i' vs H a' j2 ⟨_,_,e'⟩).len vs H Q E ⟨s',a',dx',fs',hh,e'⟩
 ·obtain⟨a2,h2',j2⟩:=hs i' vs H Q E s'
  rw[hh] at h2'
  cases h2'
  exact (key i' vs H a' j2 ⟨_,_,e'⟩).run A outer s H args us vs Q E hr he hb hv ⟨s',a',dx',fs',hh,e'⟩⟩
theorem FnOk.union {I:Type}{k:Nat}{f:Addr}{fd:FuncData}{ps:List Str}{sp:I→Sp}(F:∀ i,FnOk P w K mg base CX0 k f fd ps (sp i)):FnOk P w K mg base CX0 k f fd ps (fun vs H Q E=>∃ i,sp i vs H Q E):=
 ⟨fun vs H Q E ⟨i,h⟩=>(F i).len vs H Q E h,fun A outer s H args us vs Q E hr he hb hv ⟨i,h⟩=>(F i).run A outer s H args us vs Q E hr he hb hv h⟩
theorem msrc_mk {m qual:Str}{st:Stmt}{ps:List Str}{f:Addr}{oc:Value}{od an:Option Addr}{osl:Array (Option Value)}{kV doc pm cdv ct:Value}
  (a:PySem.W.findIn K (.ref C) m=some (some (.ref f))) (i:PySem.W.isFn K (.ref f)=true) (l:K.lookup f=some ⟨oc,od,.func (PySem.W.fnOf m qual (defArgs st) (defBody st) (defScope st) .none kV doc pm an cdv ct),osl⟩) (c:PySem.W.codeIn K cdv qual=true) (k:PySem.W.keepIn K (.ref f)=true)
  (hb:∀ (kV doc pm:Value) (an:Option Addr) (cdv ct:Value) (us:List Value),us.length=ps.length→bindArgs (PySem.W.fnOf m qual (defArgs st) (defBody st) (defScope st) .none kV doc pm an cdv ct) ⟨us,[]⟩=pure (ps.zip us)):MSrc K C m qual st ps:=
 ⟨f,_,fun_mk l c k,(fun_mk l c k).binds hb,⟨a,i,k⟩⟩
end
end L2
set_option Elab.async false
set_option linter.all false
set_option maxRecDepth 100000
namespace L2
open PySem PySem.Spec PyProof.Rows Alg
abbrev Kind:=Hp→Addr→Twr→Prop
abbrev JJ (J:Kind):Hp→Addr→Prop:=fun H a=>∃ T,J H a T
def spNul (J:Kind)(c:∀ T:Twr,T.α):Sp:=fun vs H Q _=>∃ (a:Addr) (T:Twr),vs=[.ref a]∧J H a T∧∀ r H',Same H H'→Rep H' (NewB H) r (T.enc (c T))→Q r H'
abbrev spZero (J:Kind):Sp:=spNul J fun T=>0
abbrev spOne (J:Kind):Sp:=spNul J fun T=>1
def spBin (J:Kind)(op:∀ T:Twr,T.α→T.α→T.α):Sp:=fun vs H Q _=>∃ (a:Addr) (T:Twr) (u v:V) (x y:T.α),vs=[.ref a,u,v]∧J H a T∧Rep H Any u (T.enc x)∧Rep H Any v (T.enc y)∧∀ r H',Same H H'→Rep H' (NewB H) r (T.enc (op T x y))→Q r H'
abbrev spPlus (J:Kind):Sp:=spBin J fun T x y=>x+y
abbrev spMinus (J:Kind):Sp:=spBin J fun T x y=>x - y
abbrev spTimes (J:Kind):Sp:=spBin J fun T x y=>x*y
def spBack (J:Kind):Sp:=fun vs H Q _=>∃ (a:Addr) (T:Twr) (u:V) (x:T.α),vs=[.ref a,u]∧J H a T∧Rep H Any u (T.enc x)∧x≠0∧∀ r H' y,x*y=1→Same H H'→Rep H' (NewB H) r (T.enc y)→Q r H'
def spNought (J:Kind):Sp:=fun vs H Q _=>∃ (a:Addr) (T:Twr) (u:V) (x:T.α),vs=[.ref a,u]∧J H a T∧Rep H Any u (T.enc x)∧(x=0→∀ H',Same H H'→Q (.bl true) H')∧(x≠0→∀ H',Same H H'→Q (.bl false) H')
def spDeg (J:Kind):Sp:=fun vs H Q _=>∃ (a:Addr) (T:Twr),vs=[.ref a]∧J H a T∧∀ H',Same H H'→Q (.int (T.d:Int)) H'
def spPow (J:Kind):Sp:=fun vs H Q _=>∃ (a:Addr) (T:Twr) (u:V) (x:T.α) (n:Nat),vs=[.ref a,u,.int (n:Int)]∧J H a T∧Rep H Any u (T.enc x)∧n<2 ^ 400∧∀ r H',Same H H'→Rep H' (NewB H) r (T.enc (x ^ n))→Q r H'
structure TwO (P:Program)(w:World)(K:FrQ)(mg:Str→Option Value)(base:Heap)(k:Nat)(J:Kind):Prop where
 mono:∀ {H H':Hp} {a:Addr} {T:Twr},Same H H'→J H a T→J H' a T
 fld:∀ {H:Hp} {a:Addr} {T:Twr},J H a T→∃ C dx fs,H a=some (.ins C dx fs)∧Cls K C∧NoAttr K C "p"∧fs.lookup ("p":Str)=some (V.int (T.p:Int))
 bd:∀ {H:Hp} {a:Addr} {T:Twr},J H a T→T.d≤12∧T.ht≤5
 d1:∀ {H:Hp} {a:Addr} {T:Twr},J H a T→1≤T.d
 degree:Mth P w K mg base k (JJ J) "degree" ["self"] (spDeg J)
 zero:Mth P w K mg base k (JJ J) "zero" ["self"] (spZero J)
 one:Mth P w K mg base k (JJ J) "one" ["self"] (spOne J)
 plus:Mth P w K mg base k (JJ J) "plus" ["self","u","v"] (spPlus J)
 minus:Mth P w K mg base k (JJ J) "minus" ["self","u","v"] (spMinus J)
 times:Mth P w K mg base k (JJ J) "times" ["self","u","v"] (spTimes J)
 is_nought:Mth P w K mg base k (JJ J) "is_nought" ["self","u"] (spNought J)
structure TwB (P:Program)(w:World)(K:FrQ)(mg:Str→Option Value)(base:Heap)(k:Nat)(J:Kind):Prop extends TwO P w K mg base k J where
 back:Mth P w K mg base k (JJ J) "back" ["self","u"] (spBack J)
structure TwP (P:Program)(w:World)(K:FrQ)(mg:Str→Option Value)(base:Heap)(k:Nat)(J:Kind):Prop extends TwO P w K mg base k J where
 power:Mth P w K mg base k (JJ J) "power" ["self","u","n"] (spPow J)
theorem TwO.up {P:Program}{w:World}{K:FrQ}{mg:Str→Option Value}{base:Heap}{j k:Nat}{J:Kind}(O:TwO P w K mg base j J)(h:j≤k):TwO P w K mg base k J:=
 ⟨O.mono,O.fld,O.bd,O.d1,O.degree.mono h,O.zero.mono h,O.one.mono h,O.plus.mono h,O.minus.mono h,O.times.mono h,O.is_nought.mono h⟩
theorem TwB.up {P:Program}{w:World}{K:FrQ}{mg:Str→Option Value}{base:Heap}{j k:Nat}{J:Kind}(O:TwB P w K mg base j J)(h:j≤k):TwB P w K mg base k J:=⟨O.toTwO.up h,O.back.mono h⟩
def stf (b q:Addr)(p:Nat):List (Str×V):=[("floor",.ref b),("p",.int (p:Int)),("part",.ref q)]
def grf (p:Nat):List (Str×V):=[("p",.int (p:Int))]
def partE (T:Twr)(M:Md T.α):El:=.vec ((List.range (M.n+1)).map fun i=>T.enc (M.f.c i))
inductive IsT (CG CS:Addr):Nat→Kind where
 | gr {H:Hp} {a dx:Addr} {p:Nat} (hp:p∈PR) (h:H a=some (.ins CG dx (grf p))):IsT CG CS 0 H a (ground p hp)
 | st {n:Nat} {H:Hp} {a b q dx:Addr} {T:Twr} {M:Md T.α} (al:Alone T M) (h:H a=some (.ins CS dx (stf b q T.p))) (f:IsT CG CS n H b T) (r:Rep H Any (.ref q) (partE T M)) (hd:T.d*M.n≤12) (hn:M.n≤100):IsT CG CS (n+1) H a (T.up M al hn)
theorem IsT.mono {CG CS:Addr}{n:Nat}{H H':Hp}{a:Addr}{T:Twr}(g:Same H H')(h:IsT CG CS n H a T):IsT CG CS n H' a T:=by
 induction h with
 | gr hp h=>exact .gr hp (g _ _ h)
 | st al h _ r hd hn ih=>exact .st al (g _ _ h) (ih g) (r.same g) hd hn
theorem IsT.ht {CG CS:Addr}{n:Nat}{H:Hp}{a:Addr}{T:Twr}(h:IsT CG CS n H a T):T.ht=n:=by
 induction h with
 | gr hp h=>rfl
 | @st n H a b q dx T M al h f r hd hn ih=>show T.ht+1=n+1;rw[ih]
theorem IsT.d {CG CS:Addr}{n:Nat}{H:Hp}{a:Addr}{T:Twr}(h:IsT CG CS n H a T):1≤T.d∧T.d≤12:=by
 induction h with
 | gr hp h=>exact⟨Nat.le_refl _,by show 1≤12;decide⟩
 | @st n H a b q dx T M al h f r hd hn ih=>exact⟨Nat.mul_pos ih.1 M.pos,hd⟩
theorem lk_p {b q:Addr}{p:Nat}:(stf b q p).lookup ("p":Str)=some (.int (p:Int)):=by rfl
theorem lk_floor {b q:Addr}{p:Nat}:(stf b q p).lookup ("floor":Str)=some (.ref b):=by rfl
theorem lk_part {b q:Addr}{p:Nat}:(stf b q p).lookup ("part":Str)=some (.ref q):=by rfl
theorem lg_p {p:Nat}:(grf p).lookup ("p":Str)=some (.int (p:Int)):=by rfl
structure ClG (K:FrQ)(CG:Addr):Prop where
 cl:Cls K CG
 nP:NoAttr K CG "p"
section
variable {P:Program} {w:World} {K:FrQ} {mg:Str→Option Value} {base:Heap} {CG CS:Addr}
abbrev Gr (CG:Addr):Hp→Addr→(p:Nat)→Prop:=fun H a p=>∃ dx,H a=some (.ins CG dx (grf p))
def gNul (CG:Addr)(n:Nat→Int):Sp:=fun vs H Q _=>∃ (a:Addr) (p:Nat),vs=[.ref a]∧Gr CG H a p∧Q (.int (n p)) H
def gBin (CG:Addr)(op:Int→Int→Int):Sp:=fun vs H Q _=>∃ (a:Addr) (p x y:Nat),vs=[.ref a,.int (x:Int),.int (y:Int)]∧Gr CG H a p∧2≤p∧p<50∧x<p∧y<p∧Q (.int (op (x:Int) (y:Int) % (p:Int))) H
theorem fmod_p (i:Int)(p:Nat):i.fmod (p:Int)=i % (p:Int):=Int.fmod_eq_emod_of_nonneg i (Int.natCast_nonneg p)
def gNought (CG:Addr):Sp:=fun vs H Q _=>∃ (a:Addr) (p x:Nat),vs=[.ref a,.int (x:Int)]∧Gr CG H a p∧Q (.bl (decide (x=0))) H
theorem IsT.inv0 {H:Hp}{a:Addr}{T:Twr}(h:IsT CG CS 0 H a T):∃ p,∃ hp:p∈PR,T=ground p hp∧Gr CG H a p:=by
 cases h with
 | gr hp h=>exact⟨_,hp,rfl,_,h⟩
theorem rep_gr {H:Hp}{ok:Addr→Prop}{p:Nat}{hp:p∈PR}{u:V}{x:(ground p hp).α}(h:Rep H ok u ((ground p hp).enc x)):u=.int ((show Zp p from x).v:Int):=by
 have h:Rep H ok u (.num ((show Zp p from x).v:Int)):=h
 cases h;rfl
theorem gr_bin {op:∀ T:Twr,T.α→T.α→T.α}{oi:Int→Int→Int}{m:Str}(h:∀ (p:Nat) (hp:p∈PR) (x y:Zp p),oi (x.v:Int) (y.v:Int) % (p:Int)=((show Zp p from op (ground p hp) x y).v:Int))
  {k:Nat} (M:Mok P w K mg base k CG m ["self","u","v"] (gBin CG oi)):Mok P w K mg base k CG m ["self","u","v"] (onC CG (spBin (IsT CG CS 0) op)):=by
 refine M.imp fun vs H Q E ⟨⟨a,T,u,v,x,y,e,j,ru,rv,q⟩,_⟩=>?_
 obtain⟨p,hp,rfl,g⟩:=j.inv0
 rw[rep_gr ru,rep_gr rv] at e
 have pp:=pr_pos hp
 refine⟨a,p,_,_,e,g,pp.1,pp.2,(show Zp p from x).lt,(show Zp p from y).lt,?_⟩
 rw[h p hp]
 exact q _ H (Same.refl H) (.num _)
theorem gr_nul {c:∀ T:Twr,T.α}{n:Nat→Int}{m:Str}(h:∀ (p:Nat) (hp:p∈PR),n p=((show Zp p from c (ground p hp)).v:Int)){k:Nat}(M:Mok P w K mg base k CG m ["self"] (gNul CG n)):Mok P w K mg base k CG m ["self"] (onC CG (spNul (IsT CG CS 0) c)):=by
 refine M.imp fun vs H Q E ⟨⟨a,T,e,j,q⟩,_⟩=>?_
 obtain⟨p,hp,rfl,g⟩:=j.inv0
 refine⟨a,p,e,g,?_⟩
 rw[h p hp]
 exact q _ H (Same.refl H) (.num _)
theorem gr_mth {m:Str}{ps:List Str}{sp:Sp}{k:Nat}(c:ClG K CG)(hm:m≠"p")(M:Mok P w K mg base k CG m ps (onC CG sp)):Mth P w K mg base k (JJ (IsT CG CS 0)) m ps sp:=by
 refine .of fun H a ⟨T,j⟩=>?_
 obtain⟨p,hp,rfl,dx,g⟩:=j.inv0
 refine⟨CG,dx,_,g,?_,c.cl,M⟩
 show (match m ==("p":Str) with | true=>some _ | false=>_)=none
 rw[beq_eq_false_iff_ne.mpr hm];rfl
end
end L2
set_option Elab.async false
set_option linter.all false
set_option maxRecDepth 100000
namespace L2
open PySem PySem.Spec PyProof.Rows Alg
def vecN (n:Nat)(e:Nat→El):El:=.vec ((List.range n).map e)
theorem vec_of (l:List El):El.vec l=vecN l.length fun i=>l.getD i (.num 0):=by
 unfold vecN
 congr 1
 apply List.ext_getElem?
 intro i
 by_cases h:i<l.length
 ·rw[List.getElem?_map,List.getElem?_range h,List.getElem?_eq_getElem h]
  show some _=some (l.getD i (.num 0))
  rw[List.getD_eq_getElem?_getD,List.getElem?_eq_getElem h];rfl
 ·rw[List.getElem?_eq_none_iff.mpr (by omega),List.getElem?_eq_none_iff.mpr (by rw[List.length_map,List.length_range];omega)]
structure Cf (H:Hp)(ok:Addr→Prop)(vs:List V)(n:Nat)(e:Nat→El):Prop where
 len:vs.length=n
 at_:∀ i,i<n→∃ v,vs[i]?=some v∧Rep H ok v (e i)
theorem Cf.rep {H:Hp}{ok:Addr→Prop}{vs:List V}{n:Nat}{e:Nat→El}{a:Addr}(C:Cf H ok vs n e)(h:H a=some (.lst vs))(k:ok a):Rep H ok (.ref a) (vecN n e):=by
 refine .vec h k (by rw[C.len,List.length_map,List.length_range]) fun i x d h1 h2=>?_
 have hi:i<n:=by rw[← C.len];exact (List.getElem?_eq_some_iff.mp h1).1
 obtain⟨v,h3,r⟩:=C.at_ i hi
 rw[h1] at h3;cases h3
 rw[List.getElem?_map,List.getElem?_range hi] at h2
 cases h2;exact r
theorem Rep.cf {H:Hp}{ok:Addr→Prop}{v:V}{n:Nat}{e:Nat→El}(R:Rep H ok v (vecN n e)):∃ a vs,v=.ref a∧H a=some (.lst vs)∧ok a∧Cf H ok vs n e:=by
 unfold vecN at R
 cases R with
 | @vec a vs l h k hl r=>
  rw[List.length_map,List.length_range] at hl
  refine⟨a,vs,rfl,h,k,hl,fun i hi=>?_⟩
  refine⟨vs[i]'(by omega),List.getElem?_eq_getElem (by omega),r i _ _ (List.getElem?_eq_getElem (by omega)) ?_⟩
  rw[List.getElem?_map,List.getElem?_range hi];rfl
theorem Cf.imp {H H':Hp}{ok ok':Addr→Prop}{vs:List V}{n:Nat}{e:Nat→El}(C:Cf H ok vs n e)(f:∀ b o,H b=some o→ok b→H' b=some o∧ok' b):Cf H' ok' vs n e:=
 ⟨C.len,fun i hi=>let ⟨v,h,r⟩:=C.at_ i hi;⟨v,h,r.imp f⟩⟩
theorem Cf.same {H H':Hp}{ok:Addr→Prop}{vs:List V}{n:Nat}{e:Nat→El}(C:Cf H ok vs n e)(g:Same H H'):Cf H' ok vs n e:=C.imp fun b o h k=>⟨g b o h,k⟩
theorem Cf.nil {H:Hp}{ok:Addr→Prop}{e:Nat→El}:Cf H ok [] 0 e:=⟨rfl,fun i hi=>by omega⟩
theorem Cf.push {H:Hp}{ok:Addr→Prop}{vs:List V}{n:Nat}{e:Nat→El}{v:V}(C:Cf H ok vs n e)(R:Rep H ok v (e n)):Cf H ok (vs++[v]) (n+1) e:=by
 refine⟨by rw[List.length_append,C.len];rfl,fun i hi=>?_⟩
 by_cases h:i<n
 ·obtain⟨x,h1,h2⟩:=C.at_ i h
  exact⟨x,by rw[List.getElem?_append_left (by rw[C.len];exact h)];exact h1,h2⟩
 ·have:i=n:=by omega
  subst this
  exact⟨v,by rw[← C.len,List.getElem?_concat_length],R⟩
theorem Cf.congr {H:Hp}{ok:Addr→Prop}{vs:List V}{n:Nat}{e d:Nat→El}(C:Cf H ok vs n e)(h:∀ i,i<n→e i=d i):Cf H ok vs n d:=⟨C.len,fun i hi=>by rw[← h i hi];exact C.at_ i hi⟩
theorem Cf.take {H:Hp}{ok:Addr→Prop}{vs:List V}{n m:Nat}{e:Nat→El}(C:Cf H ok vs n e)(h:m≤n):Cf H ok (vs.take m) m e:=
 ⟨by rw[List.length_take,C.len];omega,fun i hi=>by
  obtain⟨v,h1,h2⟩:=C.at_ i (by omega)
  exact⟨v,by rw[List.getElem?_take_of_lt hi];exact h1,h2⟩⟩
theorem Cf.set {H:Hp}{ok:Addr→Prop}{vs:List V}{n:Nat}{e:Nat→El}{j:Nat}{v:V}{x:El}(C:Cf H ok vs n e)(hj:j<n)(R:Rep H ok v x):Cf H ok (vs.set j v) n fun i=>if i=j then x else e i:=by
 refine⟨by rw[List.length_set];exact C.len,fun i hi=>?_⟩
 by_cases h:i=j
 ·subst h
  refine⟨v,?_,by rw[if_pos rfl];exact R⟩
  rw[List.getElem?_set_self (by rw[C.len];exact hi)]
 ·obtain⟨y,h1,h2⟩:=C.at_ i hi
  exact⟨y,by rw[List.getElem?_set_ne (fun z=>h z.symm)];exact h1,by rw[if_neg h];exact h2⟩
theorem Cf.append {H:Hp}{ok:Addr→Prop}{vs ws:List V}{n m:Nat}{e d:Nat→El}(C:Cf H ok vs n e)(D:Cf H ok ws m d):Cf H ok (vs++ws) (n+m) fun i=>if i<n then e i else d (i - n):=by
 refine⟨by rw[List.length_append,C.len,D.len],fun i hi=>?_⟩
 by_cases h:i<n
 ·obtain⟨x,h1,h2⟩:=C.at_ i h
  exact⟨x,by rw[List.getElem?_append_left (by rw[C.len];exact h)];exact h1,by rw[if_pos h];exact h2⟩
 ·obtain⟨x,h1,h2⟩:=D.at_ (i - n) (by omega)
  exact⟨x,by rw[List.getElem?_append_right (by rw[C.len];omega),C.len];exact h1,by rw[if_neg h];exact h2⟩
theorem Cf.get {H:Hp}{ok:Addr→Prop}{vs:List V}{n:Nat}{e:Nat→El}(C:Cf H ok vs n e){i:Nat}{v:V}(h:vs[i]?=some v):i<n∧Rep H ok v (e i):=by
 have hi:i<n:=by rw[← C.len];exact (List.getElem?_eq_some_iff.mp h).1
 obtain⟨x,h1,h2⟩:=C.at_ i hi
 rw[h] at h1;cases h1
 exact⟨hi,h2⟩
abbrev Off (H:Hp)(D:Addr):Addr→Prop:=fun b=>H b=none∧b≠D
theorem Cf.upd {H H':Hp}{D:Addr}{vs:List V}{n:Nat}{e:Nat→El}{o:HO}(C:Cf H' (Off H D) vs n e):Cf (upd H' D o) (Off H D) vs n e:=C.imp fun b u h k=>⟨by rw[upd_ne k.2];exact h,k⟩
theorem Rep.offN {H H' H1:Hp}{D:Addr}{v:V}{e:El}{o:HO}(R:Rep H' (NewB H1) v e)(g:Same H H1)(hD:H1 D=some o):Rep H' (Off H D) v e:=R.imp fun b u h k=>⟨h,g.free k,fun z=>by rw[z] at k;rw[show H1 D=none from k] at hD;cases hD⟩
theorem Cf.newB {H H':Hp}{D:Addr}{vs:List V}{n:Nat}{e:Nat→El}(C:Cf H' (Off H D) vs n e):Cf H' (NewB H) vs n e:=C.imp fun b u h k=>⟨h,k.1⟩
theorem cutV_vs (xs:List V)(k:Nat)(h:k≤xs.length):cutV xs none (some (k:Int))=xs.take k:=by
 unfold cutV
 have e1:HT.sIx xs.length 0 none=0:=rfl
 have e2:HT.sIx xs.length xs.length (some (k:Int))=k:=by rw[HT.sIx_nat];omega
 rw[e1,e2]
 simp
theorem atI_end {xs:List V}{n:Nat}{v:V}(h:xs.length=n+1)(hv:xs[n]?=some v):atI xs (-1)=some v:=by
 unfold atI ixN
 rw[if_neg (by decide),if_pos (by omega)]
 have e:(-1+(xs.length:Int)).toNat=n:=by omega
 show xs[(-1+(xs.length:Int)).toNat]?=_
 rw[e];exact hv
def lenAt (σ:St)(i:Nat)(H:Hp):Nat:=match σ[i]? with
 | some (some (.ref b))=>(match H b with
  | some (.lst xs)=>xs.length
  | _=>0)
 | _=>0
theorem lenAt_of {σ:St}{i:Nat}{H:Hp}{b:Addr}{xs:List V}(h:σ[i]?=some (some (.ref b)))(hb:H b=some (.lst xs)):lenAt σ i H=xs.length:=by
 unfold lenAt
 rw[h]
 simp only
 rw[hb]
theorem int_mod2 (l:Nat):((l:Int)).fmod 2=((l % 2:Nat):Int):=by
 rw[Int.fmod_eq_emod_of_nonneg _ (by decide)];omega
theorem int_div2 (l:Nat):((l:Int)).fdiv 2=((l / 2:Nat):Int):=by
 rw[Int.fdiv_eq_ediv_of_nonneg _ (by decide)];omega
theorem ixN_at {n j:Nat}(h:j<n):ixN n (j:Int)=some j:=by
 rw[ixN_nat (by omega) (by omega)];rfl
abbrev polE (T:Twr)(n:Nat)(s:Ser T.α):El:=vecN n fun i=>T.enc (s.c i)
structure Nz (T:Twr)(n:Nat)(s:Ser T.α):Prop where
 dg:Dg s n
 last:n=0∨s.c (n - 1)≠0
theorem fl_vecN {n m:Nat}{e:Nat→El}(hm:m≤100)(h:∀ i,FlE n (e i)):FlE (n+1) (vecN m e):=.vec (by rw[List.length_map,List.length_range];exact hm) fun d hd=>by
 obtain⟨i,_,rfl⟩:=List.mem_map.mp hd
 exact h i
theorem fl_pol (T:Twr){n:Nat}(hn:n≤100)(s:Ser T.α):FlE (T.ht+1) (polE T n s):=fl_vecN hn fun i=>T.fl _
theorem vecN_inj {n m:Nat}{e d:Nat→El}(h:vecN n e=vecN m d):n=m∧∀ i,i<n→e i=d i:=by
 unfold vecN at h
 injection h with h
 have hn:n=m:=by
  have:=congrArg List.length h
  simpa using this
 subst hn
 refine⟨rfl,fun i hi=>?_⟩
 have:=congrArg (fun l=>l[i]?) h
 simp only[List.getElem?_map] at this
 rw[List.getElem?_range hi] at this
 exact Option.some.inj this
theorem polE_inj {T:Twr}{n m:Nat}{s t:Ser T.α}(hs:Dg s n)(ht:Dg t m)(h:polE T n s=polE T m t):n=m∧s=t:=by
 obtain⟨rfl,h2⟩:=vecN_inj h
 refine⟨rfl,?_⟩
 apply Ser.ext;funext i
 by_cases hi:i<n
 ·exact T.inj _ _ (h2 i hi)
 ·rw[hs i (by omega),ht i (by omega)]
theorem Nz.uniq {T:Twr}{n m:Nat}{s:Ser T.α}(h:Nz T n s)(k:Nz T m s):n=m:=by
 rcases Nat.lt_trichotomy n m with z | z | z
 ·rcases k.last with y | y
  ·omega
  ·exact absurd (h.dg _ (by omega)) y
 ·exact z
 ·rcases h.last with y | y
  ·omega
  ·exact absurd (k.dg _ (by omega)) y
section
variable {P:Program} {w:World} {K:FrQ} {mg:Str→Option Value} {base:Heap} {k:Nat} {J:L2.Kind}
theorem comp_zerosP (Jp:Hp→Prop)(mono:∀ {H H':Hp},Same H H'→Jp H→Jp H'){v:V}{T:Twr}{lo:Int}{n:Nat}{D:Addr}{H1:Hp}{Q:VK}{te:TE}(ja:Jp H1)(hD:H1 D=none)(hn:n≤1000)
  (hte:∀ y H2 R,Jp H2→(∀ r H3,Same H2 H3→Rep H3 (NewB H2) r (T.enc 0)→R r H3)→te [some y,some v] H2 R)
  (q:∀ ys H2,Same H1 H2→H2 D=some (.lst ys)→Cf H2 (Off H1 D) ys n (fun _=>T.enc 0)→Q (.ref D) H2):compW (Itr lo n) D [none,some v] (gName 0) tAll te Q H1:=by
 refine comp_range (fun i ys H2=>Same H1 H2∧Cf H2 (Off H1 D) ys i fun _=>T.enc 0) ⟨same_new hD _,.nil⟩ ?_ ?_
 ·rintro i m ys H2 hm hi hy hlen ⟨gg,cy⟩
  refine hte _ _ _ (mono gg ja) fun r H3 g3 rr=>?_
  refine CW.emit hm hi (by rw[sizeLine_eq];omega) (g3 _ _ hy) hlen ⟨Same.free_upd (gg.trans g3) hD _,?_⟩
  exact ((cy.same g3).push (rr.offN gg hy)).upd
 ·rintro ys H2 hy ⟨gg,cy⟩
  exact q _ _ gg hy cy
theorem comp_zeros (mono:∀ {H H':Hp} {a:Addr} {T:Twr},Same H H'→J H a T→J H' a T){a:Addr}{T:Twr}{lo:Int}{n:Nat}{D:Addr}{H1:Hp}{Q:VK}{te:TE}(ja:J H1 a T)(hD:H1 D=none)(hn:n≤1000)
  (hte:∀ y H2 R,J H2 a T→(∀ r H3,Same H2 H3→Rep H3 (NewB H2) r (T.enc 0)→R r H3)→te [some y,some (.ref a)] H2 R)
  (q:∀ ys H2,Same H1 H2→H2 D=some (.lst ys)→Cf H2 (Off H1 D) ys n (fun _=>T.enc 0)→Q (.ref D) H2):compW (Itr lo n) D [none,some (.ref a)] (gName 0) tAll te Q H1:=
 comp_zerosP (fun H=>J H a T) (fun g h=>mono g h) ja hD hn hte q
theorem comp_pairsP (Jp:Hp→Prop)(mono:∀ {H H':Hp},Same H H'→Jp H→Jp H'){v:V}{l1 l2:Addr}{n:Nat}{xs ys:List V}{c d e:Nat→El}{D:Addr}{H1:Hp}{Q:VK}{te:TE}(ja:Jp H1)(h1:H1 l1=some (.lst xs))(h2:H1 l2=some (.lst ys))
  (cx:Cf H1 Any xs n c) (cy:Cf H1 Any ys n d) (hD:H1 D=none) (hn:n≤1000)
  (hte:∀ i x y H2 R,i<n→Jp H2→Rep H2 Any x (c i)→Rep H2 Any y (d i)→(∀ r H3,Same H2 H3→Rep H3 (NewB H2) r (e i)→R r H3)→te [some x,some y,some v] H2 R)
  (q:∀ zs H2,Same H1 H2→H2 D=some (.lst zs)→Cf H2 (Off H1 D) zs n e→Q (.ref D) H2):compW (Itz K l1 l2) D [none,none,some v] (gTup K 2 (gCons (gName 0) (gCons (gName 1) gNil))) tAll te Q H1:=by
 refine comp_zip (xs:=xs) (ys:=ys) (fun i zs H2=>Same H1 H2∧Cf H2 (Off H1 D) zs i e) (by rw[cx.len,cy.len]) ⟨same_new hD _,.nil⟩ (fun i zs H2 _ h=>⟨SqL.of (h.1 _ _ h1),SqL.of (h.1 _ _ h2)⟩) ?_ ?_
 ·rintro i m x y zs H2 r hm hi hx hy hz hlen ⟨gg,cz⟩ hr
  have kr:=same_new hr (.tup [x,y])
  refine⟨r,_,rfl,SqT.of upd_same,rfl,_,_,rfl,_,_,rfl,rfl,?_⟩
  obtain⟨hi',rx⟩:=cx.get hx
  obtain⟨_,ry⟩:=cy.get hy
  refine hte i x y _ _ hi' (mono (gg.trans kr) ja) (rx.same (gg.trans kr)) (ry.same (gg.trans kr)) fun r2 H3 g3 rr=>?_
  refine CW.emit hm hi (by rw[cx.len,sizeLine_eq];omega) (g3 _ _ (kr _ _ hz)) hlen ⟨Same.free_upd ((gg.trans kr).trans g3) hD _,?_⟩
  exact ((cz.same (kr.trans g3)).push (rr.offN (gg.trans kr) (kr _ _ hz))).upd
 ·rintro zs H2 hz ⟨gg,cz⟩
  rw[cx.len] at cz
  exact q _ _ gg hz cz
theorem comp_pairs (mono:∀ {H H':Hp} {a:Addr} {T:Twr},Same H H'→J H a T→J H' a T){a l1 l2:Addr}{T:Twr}{n:Nat}{xs ys:List V}{c d e:Nat→El}{D:Addr}{H1:Hp}{Q:VK}{te:TE}(ja:J H1 a T)(h1:H1 l1=some (.lst xs))(h2:H1 l2=some (.lst ys))
  (cx:Cf H1 Any xs n c) (cy:Cf H1 Any ys n d) (hD:H1 D=none) (hn:n≤1000)
  (hte:∀ i x y H2 R,i<n→J H2 a T→Rep H2 Any x (c i)→Rep H2 Any y (d i)→(∀ r H3,Same H2 H3→Rep H3 (NewB H2) r (e i)→R r H3)→te [some x,some y,some (.ref a)] H2 R)
  (q:∀ zs H2,Same H1 H2→H2 D=some (.lst zs)→Cf H2 (Off H1 D) zs n e→Q (.ref D) H2):compW (Itz K l1 l2) D [none,none,some (.ref a)] (gTup K 2 (gCons (gName 0) (gCons (gName 1) gNil))) tAll te Q H1:=
 comp_pairsP (fun H=>J H a T) (fun g h=>mono g h) ja h1 h2 cx cy hD hn hte q
end
section
variable {α:Type} [Lean.Grind.CommRing α]
open Lean.Grind
def psum (s t:Ser α):Nat→Nat→α
 | 0,_=>0
 | i+1,m=>psum s t i m+(if i≤m then s.c i*t.c (m - i) else 0)
def pcell (s t:Ser α)(i j m:Nat):α:=psum s t i m+(if i≤m∧m - i<j then s.c i*t.c (m - i) else 0)
def tr (s:Ser α)(n:Nat):Ser α:=⟨fun i=>if i<n then s.c i else 0⟩
theorem tr_all {s:Ser α}{n:Nat}(h:Dg s n):tr s n=s:=by
 apply Ser.ext;funext i
 show (if i<n then s.c i else 0)=s.c i
 by_cases c:i<n
 ·rw[if_pos c]
 ·rw[if_neg c,h i (by omega)]
theorem psum_tr (s t:Ser α)(m:Nat):∀ i,psum s t i m=(tr s i*t).c m
 | 0=>by
  have:tr s 0=0:=by apply Ser.ext;funext i;show (if i<0 then s.c i else 0)=0;rw[if_neg (by omega)]
  rw[this]
  have e:(0:Ser α)*t=0:=by grind
  rw[e];rfl
 | i+1=>by
  have:tr s (i+1)=tr s i+mon (s.c i) i:=by
   apply Ser.ext;funext j
   rw[c_add]
   show (if j<i+1 then s.c j else 0)=(if j<i then s.c j else 0)+(if j=i then s.c i else 0)
   by_cases a:j<i
   ·rw[if_pos a,if_pos (by omega),if_neg (by omega)];grind
   ·by_cases b:j=i
    ·rw[if_neg a,if_pos b,if_pos (by omega),b];grind
    ·rw[if_neg a,if_neg b,if_neg (by omega)];grind
  have e:(tr s i+mon (s.c i) i)*t=tr s i*t+mon (s.c i) i*t:=by grind
  rw[this,e,c_add,mon_mul,← psum_tr s t m i]
  rfl
theorem psum_all {s t:Ser α}{n:Nat}(h:Dg s n)(m:Nat):psum s t n m=(s*t).c m:=by rw[psum_tr,tr_all h]
theorem pcell_zero (s t:Ser α)(i m:Nat):pcell s t i 0 m=psum s t i m:=by
 unfold pcell
 rw[if_neg (by omega)];grind
theorem pcell_all {s t:Ser α}{n:Nat}(h:Dg t n)(i m:Nat):pcell s t i n m=psum s t (i+1) m:=by
 show psum s t i m+_=psum s t i m+_
 by_cases a:i≤m
 ·by_cases b:m - i<n
  ·rw[if_pos ⟨a,b⟩,if_pos a]
  ·rw[if_neg (fun z=>b z.2),if_pos a,h _ (by omega)];grind
 ·rw[if_neg (fun z=>a z.1),if_neg a]
theorem pcell_step (s t:Ser α)(i j m:Nat):pcell s t i (j+1) m=if m=i+j then pcell s t i j m+s.c i*t.c j else pcell s t i j m:=by
 unfold pcell
 by_cases a:m=i+j
 ·rw[if_pos a,if_pos (by omega),if_neg (by omega)]
  have:m - i=j:=by omega
  rw[this];grind
 ·rw[if_neg a]
  by_cases b:i≤m∧m - i<j
  ·rw[if_pos b,if_pos (by omega)]
  ·rw[if_neg b,if_neg (by omega)]
theorem psum_nought {s t:Ser α}{i:Nat}(h:s.c i=0)(m:Nat):psum s t (i+1) m=psum s t i m:=by
 show psum s t i m+_=_
 rw[h]
 split <;> grind
end
section
variable {α:Type} [Lean.Grind.CommRing α]
open Lean.Grind
def dstep (f ρ:Ser α)(M n:Nat):Ser α:=ρ - mon (ρ.c (M - 1)) (M - 1 - n)*f
theorem dstep_c (f ρ:Ser α)(M n i:Nat):(dstep f ρ M n).c i=ρ.c i - (if M - 1 - n≤i then ρ.c (M - 1)*f.c (i - (M - 1 - n)) else 0):=by
 unfold dstep
 rw[c_sub,mon_mul]
theorem dstep_dg {f ρ:Ser α}{M n:Nat}(hf:Alg.Monic f n)(h:n<M)(d:Dg ρ M):Dg (dstep f ρ M n) (M - 1):=fun i hi=>by
 rw[dstep_c,if_pos (by omega)]
 by_cases e:i=M - 1
 ·have:i - (M - 1 - n)=n:=by omega
  rw[this,hf.top,e];grind
 ·rw[d i (by omega),hf.dg _ (by omega)];grind
theorem dstep_eq {f ρ x s:Ser α}{M n:Nat}(hs:s=x*f+ρ):s=(x+mon (ρ.c (M - 1)) (M - 1 - n))*f+dstep f ρ M n:=by
 unfold dstep
 rw[hs];grind
theorem dstep_cg (f ρ:Ser α)(M n:Nat):Cg f ρ (dstep f ρ M n):=⟨mon (ρ.c (M - 1)) (M - 1 - n),⟨_,Dg.mon _ _⟩,by unfold dstep;grind⟩
theorem mon_c (y:α)(k i:Nat):(mon y k).c i=if i=k then y else 0:=rfl
theorem dstep_x {x:Ser α}{M n N i:Nat}{y:α}(hM:M≤N)(h:n<M)(hx0:∀ i,i<M - n→x.c i=0)(hi:i<M - 1 - n):(x+mon y (M - 1 - n)).c i=0:=by
 rw[c_add,mon_c,if_neg (by omega),hx0 i (by omega)];grind
theorem dstep_xlast {x:Ser α}{M n N:Nat}{y:α}(hM:M≤N)(h:n<M)(hx0:∀ i,i<M - n→x.c i=0):(x+mon y (M - 1 - n)).c (N - n - 1 - (N - M))=y:=by
 have e:N - n - 1 - (N - M)=M - 1 - n:=by omega
 rw[e,c_add,mon_c,if_pos rfl,hx0 _ (by omega)];grind
theorem dstep_xold {x:Ser α}{M n N j:Nat}{y:α}(hM:M≤N)(h:n<M)(hj:j<N - M):(x+mon y (M - 1 - n)).c (N - n - 1 - j)=x.c (N - n - 1 - j):=by
 rw[c_add,mon_c,if_neg (by omega)];grind
theorem dstep_xdg {x:Ser α}{M n N:Nat}{y:α}(hM:M≤N)(h:n<M)(d:Dg x (N - n)):Dg (x+mon y (M - 1 - n)) (N - n):=fun i hi=>by
 rw[c_add,mon_c,if_neg (by omega),d i hi];grind
theorem dstep_nought {f ρ:Ser α}{M n i:Nat}(h:ρ.c (M - 1)=0):(dstep f ρ M n).c i=ρ.c i:=by
 rw[dstep_c,h]
 split <;> grind
theorem dstep_low {f ρ:Ser α}{M n i:Nat}(h:i<M - 1 - n):(dstep f ρ M n).c i=ρ.c i:=by
 rw[dstep_c,if_neg (by omega)];grind
theorem dstep_at {f ρ:Ser α}{M n j:Nat}:(dstep f ρ M n).c (M - 1 - n+j)=ρ.c (M - 1 - n+j) - ρ.c (M - 1)*f.c j:=by
 rw[dstep_c,if_pos (by omega)]
 have:M - 1 - n+j - (M - 1 - n)=j:=by omega
 rw[this]
end
def Fresh (H H':Hp)(r:V)(n:Nat)(e:Nat→El):Prop:=∃ a ys,r=.ref a∧H a=none∧H' a=some (.lst ys)∧Cf H' (Off H a) ys n e
theorem Cf.updG {H:Hp}{ok:Addr→Prop}{p:Addr}{vs:List V}{n:Nat}{e:Nat→El}{o:HO}(C:Cf H ok vs n e)(h:∀ b,ok b→b≠p):Cf (L2.upd H p o) ok vs n e:=C.imp fun b u hb k=>⟨by rw[upd_ne (h b k)];exact hb,k⟩
theorem Rep.updG {H:Hp}{ok:Addr→Prop}{p:Addr}{v:V}{e:El}{o:HO}(C:Rep H ok v e)(h:∀ b,ok b→b≠p):Rep (L2.upd H p o) ok v e:=C.imp fun b u hb k=>⟨by rw[upd_ne (h b k)];exact hb,k⟩
abbrev Off2 (H:Hp)(p q:Addr):Addr→Prop:=fun b=>H b=none∧b≠p∧b≠q
theorem Rep.off2 {H H' H1:Hp}{p q:Addr}{v:V}{e:El}{o o':HO}(R:Rep H' (NewB H1) v e)(g:Same H H1)(hp:H1 p=some o)(hq:H1 q=some o'):Rep H' (Off2 H p q) v e:=R.imp fun b u h k=>⟨h,g.free k,(fun z=>by rw[z] at k;rw[show H1 p=none from k] at hp;cases hp),(fun z=>by rw[z] at k;rw[show H1 q=none from k] at hq;cases hq)⟩
abbrev OkR (H:Hp)(ok:Addr→Prop)(R:Addr):Addr→Prop:=fun b=>(H b=none∨ok b)∧b≠R
theorem Rep.okR {H H' H1:Hp}{ok:Addr→Prop}{R:Addr}{v:V}{e:El}{o:HO}(r:Rep H' (NewB H1) v e)(g:Same H H1)(hR:H1 R=some o):Rep H' (OkR H ok R) v e:=r.imp fun b u h k=>⟨h,.inl (g.free k),fun z=>by rw[z] at k;rw[show H1 R=none from k] at hR;cases hR⟩
theorem Cf.rev {H:Hp}{ok:Addr→Prop}{vs:List V}{n:Nat}{e:Nat→El}(C:Cf H ok vs n e):Cf H ok vs.reverse n fun i=>e (n - 1 - i):=by
 refine⟨by rw[List.length_reverse];exact C.len,fun i hi=>?_⟩
 obtain⟨v,h1,h2⟩:=C.at_ (n - 1 - i) (by omega)
 refine⟨v,?_,h2⟩
 rw[List.getElem?_reverse (by rw[C.len];exact hi),C.len]
 exact h1
open Classical in
noncomputable def prL (n i:Nat):List Nat:=((List.range i).map fun j=>j+2).filter fun r=>decide (IsPr r∧r ∣ n)
open Classical in
theorem prL_succ (n i:Nat):prL n (i+1)=if IsPr (i+2)∧i+2 ∣ n then prL n i++[i+2] else prL n i:=by
 unfold prL
 rw[List.range_succ,List.map_append,List.filter_append]
 by_cases h:IsPr (i+2)∧i+2 ∣ n
 ·rw[if_pos h]
  simp[h]
 ·rw[if_neg h]
  simp only[List.map_cons,List.map_nil,List.filter_cons,List.filter_nil]
  rw[if_neg (by simpa using h),List.append_nil]
theorem prL_mem {n:Nat}(h:1≤n)(r:Nat):r∈prL n (n - 1)↔IsPr r∧r ∣ n:=by
 unfold prL
 rw[List.mem_filter,List.mem_map]
 constructor
 ·rintro⟨_,h2⟩
  simpa using h2
 ·intro h2
  refine⟨⟨r - 2,List.mem_range.mpr ?_,?_⟩,by simpa using h2⟩
  ·have:=Nat.le_of_dvd (by omega) h2.2
   have:=h2.1.1
   omega
  ·have:=h2.1.1
   omega
theorem prL_len (n i:Nat):(prL n i).length≤i:=by
 unfold prL
 refine Nat.le_trans (List.length_filter_le _ _) ?_
 rw[List.length_map,List.length_range];exact Nat.le_refl _
theorem all_pr {r:Nat}(h:2≤r):(((List.range (r - 2)).map fun j=>decide (r % (j+2)≠0)).all id=true)↔IsPr r:=by
 rw[List.all_eq_true]
 constructor
 ·intro a
  refine⟨h,fun m hm=>?_⟩
  by_cases m1:m=1
  ·exact .inl m1
  ·refine .inr (Classical.byContradiction fun c=>?_)
   have le:=Nat.le_of_dvd (by omega) hm
   have m0:m≠0:=fun z=>by rw[z] at hm;have:=Nat.eq_zero_of_zero_dvd hm;omega
   have:=a (decide (r % (m - 2+2)≠0)) (List.mem_map.mpr ⟨m - 2,List.mem_range.mpr (by omega),rfl⟩)
   have e:m - 2+2=m:=by omega
   rw[e] at this
   have:=of_decide_eq_true this
   exact this (Nat.mod_eq_zero_of_dvd hm)
 ·intro p b hb
  obtain⟨j,hj,rfl⟩:=List.mem_map.mp hb
  have hj:=List.mem_range.mp hj
  refine decide_eq_true fun z=>?_
  rcases p.2 (j+2) (Nat.dvd_of_mod_eq_zero z) with y | y <;> omega
theorem int_mod (a b:Nat):((a:Int)).fmod (b:Int)=((a % b:Nat):Int):=by
 rw[Int.fmod_eq_emod_of_nonneg _ (Int.natCast_nonneg b),Int.natCast_emod]
theorem int_div (a b:Nat):((a:Int)).fdiv (b:Int)=((a / b:Nat):Int):=by
 rw[Int.fdiv_eq_ediv_of_nonneg _ (Int.natCast_nonneg b),Int.natCast_ediv]
def spCopied (n:Nat):Sp:=fun vs H Q _=>∃ (v:V) (e:El) (m:Nat),vs=[v]∧n=m+1∧FlE m e∧Rep H Any v e∧∀ r H',Same H H'→Rep H' (NewB H) r e→(∀ n d,e=vecN n d→Fresh H H' r n d)→Q r H'
theorem Src.none {P:Program}{w:World}{K:FrQ}{mg:Str→Option Value}{base:Heap}{x:Str}{st:Stmt}{ps:List Str}(F:Src K mg x st ps):Dfn P w K mg base 0 x ps (fun _ _ _ _=>False):=by
 obtain⟨f,fd,F,B,M⟩:=F.ex
 exact⟨f,fd,⟨fun _ _ _ _ h=>h.elim,fun _ _ _ _ _ _ _ _ _ _ _ _ _ h=>h.elim⟩,B,F.kp,M⟩
def spNumPow:Sp:=fun vs H Q _=>∃ (k n:Nat),vs=[.int (k:Int),.int (n:Int)]∧k<50∧n≤100∧Q (.int ((k ^ n:Nat):Int)) H
section
variable (J:Kind)
def spCut:Sp:=fun vs H Q _=>∃ (a:Addr) (T:Twr) (v:V) (n:Nat) (s:Ser T.α) (ok:Addr→Prop),vs=[.ref a,v]∧J H a T∧Rep H ok v (polE T n s)∧Dg s n∧n≤100∧
 ∀ r m H',m≤n→Nz T m s→Same H H'→Rep H' (fun b=>H b=none∨ok b) r (polE T m s)→Q r H'
def spMinusP:Sp:=fun vs H Q _=>∃ (a:Addr) (T:Twr) (u v:V) (n m:Nat) (s t:Ser T.α),vs=[.ref a,u,v]∧J H a T∧Rep H Any u (polE T n s)∧Dg s n∧n≤100∧Rep H Any v (polE T m t)∧Dg t m∧m≤100∧
 ∀ r k H',k≤max n m→Nz T k (s - t)→Same H H'→Rep H' (NewB H) r (polE T k (s - t))→Q r H'
def spScaled:Sp:=fun vs H Q _=>∃ (a:Addr) (T:Twr) (u v:V) (x:T.α) (n:Nat) (s:Ser T.α),vs=[.ref a,u,v]∧J H a T∧Rep H Any u (T.enc x)∧Rep H Any v (polE T n s)∧n≤100∧
 ∀ r H',Same H H'→Rep H' (NewB H) r (polE T n (cst x*s))→Q r H'
def spTimesP:Sp:=fun vs H Q _=>∃ (a:Addr) (T:Twr) (u v:V) (n m:Nat) (s t:Ser T.α),vs=[.ref a,u,v]∧J H a T∧Rep H Any u (polE T n s)∧Dg s n∧Rep H Any v (polE T m t)∧Dg t m∧n+m≤100∧
 ∀ r H',Same H H'→Rep H' (NewB H) r (polE T (if n=0∨m=0 then 0 else n+m - 1) (s*t))→Q r H'
def spOverM:Sp:=fun vs H Q _=>∃ (a:Addr) (T:Twr) (u v:V) (N n:Nat) (s f:Ser T.α),vs=[.ref a,u,v]∧J H a T∧Rep H Any u (polE T N s)∧Dg s N∧N≤100∧Rep H Any v (polE T (n+1) f)∧Alg.Monic f n∧n≤99∧
 ∀ (t:Addr) (q r:V) (m:Nat) (x y:Ser T.α) H',Same H H'→H t=none→H' t=some (.tup [q,r])→Rep H' (NewB H) q (polE T (N - n) x)→Rep H' (NewB H) r (polE T m y)→s=x*f+y→Dg x (N - n)→Nz T m y→m≤n→Q (.ref t) H'
def spMonicOf:Sp:=fun vs H Q _=>∃ (a:Addr) (T:Twr) (v:V) (n:Nat) (s:Ser T.α),vs=[.ref a,v]∧J H a T∧Rep H Any v (polE T (n+1) s)∧Dg s (n+1)∧s.c n≠0∧n≤99∧
 ∀ r y H',s.c n*y=1→Same H H'→Rep H' (NewB H) r (polE T (n+1) (cst y*s))→Q r H'
def spOverP:Sp:=fun vs H Q _=>∃ (a:Addr) (T:Twr) (u v:V) (N n:Nat) (s f:Ser T.α),vs=[.ref a,u,v]∧J H a T∧Rep H Any u (polE T N s)∧Dg s N∧N≤100∧Rep H Any v (polE T (n+1) f)∧Dg f (n+1)∧f.c n≠0∧n≤99∧
 ∀ (t:Addr) (q r:V) (m:Nat) (x y:Ser T.α) H',Same H H'→H t=none→H' t=some (.tup [q,r])→Rep H' (NewB H) q (polE T (N - n) x)→Rep H' (NewB H) r (polE T m y)→s=x*f+y→Dg x (N - n)→Nz T m y→m≤n→Q (.ref t) H'
structure IsCom (T:Twr)(s t g:Ser T.α)(k:Nat):Prop where
 mon:Alg.Monic g k
 sum:∃ u v,IsP u∧IsP v∧g=u*s+v*t
 left:∃ e,IsP e∧s=e*g
 right:∃ e,IsP e∧t=e*g
def spCommon:Sp:=fun vs H Q _=>∃ (a:Addr) (T:Twr) (u v:V) (n m:Nat) (s t:Ser T.α),vs=[.ref a,u,v]∧J H a T∧Rep H Any u (polE T n s)∧Nz T n s∧n≤100∧Rep H Any v (polE T m t)∧Nz T m t∧m≤100∧(0<n∨0<m)∧
 ∀ r k g H',IsCom T s t g k→k≤99→Same H H'→Rep H' (NewB H) r (polE T (k+1) g)→Q r H'
def spPowerBy:Sp:=fun vs H Q _=>∃ (a:Addr) (T:Twr) (u v:V) (m d n:Nat) (s f:Ser T.α),vs=[.ref a,u,.int (n:Int),v]∧J H a T∧Rep H Any u (polE T m s)∧Dg s m∧m≤40∧Rep H Any v (polE T (d+1) f)∧Alg.Monic f d∧1≤d∧d≤40∧1≤n∧n<100∧
 ∀ r k y H',Cg f (s ^ n) y→Nz T k y→k≤d→Same H H'→Rep H' (NewB H) r (polE T k y)→Q r H'
def spLetterOf:Sp:=fun vs H Q _=>∃ (a:Addr) (T:Twr),vs=[.ref a]∧J H a T∧∀ r H',Same H H'→Rep H' (NewB H) r (polE T 2 X)→Q r H'
structure Pws (H H':Hp)(T:Twr)(f:Ser T.α)(d many:Nat)(L:Addr)(vs:List V):Prop where
 nw:H L=none
 at_:H' L=some (.lst vs)
 len:vs.length=many+1
 el:∀ i,i≤many→∃ v k y,vs[i]?=some v∧Rep H' (NewB H) v (polE T k y)∧Nz T k y∧k≤d∧Cg f ((X:Ser T.α) ^ (T.p ^ i)) y
def spLetters:Sp:=fun vs H Q _=>∃ (a:Addr) (T:Twr) (v:V) (d many:Nat) (f:Ser T.α),vs=[.ref a,v,.int (many:Int)]∧J H a T∧Rep H Any v (polE T (d+1) f)∧Alg.Monic f d∧1≤d∧d≤40∧many≤1000∧∀ L vs H',Same H H'→Pws H H' T f d many L vs→Q (.ref L) H'
def spPrimesIn:Sp:=fun vs H Q _=>∃ n:Nat,vs=[.int (n:Int)]∧1≤n∧n≤100∧∀ l (rs:List Nat) H',Same H H'→H l=none→H' l=some (.lst (rs.map fun r:Nat=>V.int (r:Int)))→rs.length≤100→(∀ r,r∈rs↔IsPr r∧r ∣ n)→Q (.ref l) H'
def AlM (T:Twr)(M:Md T.α):Prop:=M.n=1∨(Cg M.f ((X:Ser T.α) ^ ((T.p ^ T.d) ^ M.n)) X∧∀ r,IsPr r→r ∣ M.n→∃ u v,IsP u∧IsP v∧u*M.f+v*((X:Ser T.α) ^ ((T.p ^ T.d) ^ (M.n / r)) - X)=1)
def spAlone:Sp:=fun vs H Q _=>∃ (a:Addr) (T:Twr) (v:V) (M:Md T.α),vs=[.ref a,v]∧J H a T∧Rep H Any v (polE T (M.n+1) M.f)∧M.n≤12∧(AlM T M→∀ H',Same H H'→Q (.bl true) H')∧(¬ AlM T M→∀ H',Same H H'→Q (.bl false) H')
def IsAl (T:Twr)(n:Nat)(s:Ser T.α):Prop:=∃ M:Md T.α,M.n+1=n∧M.f=s∧AlM T M
def spAloneG:Sp:=fun vs H Q _=>∃ (a:Addr) (T:Twr) (v:V) (n:Nat) (s:Ser T.α),vs=[.ref a,v]∧J H a T∧Rep H Any v (polE T n s)∧Nz T n s∧n≤13∧(IsAl T n s→∀ H',Same H H'→Q (.bl true) H')∧(¬ IsAl T n s→∀ H',Same H H'→Q (.bl false) H')
end
theorem md_same {T:Twr}{M M':Md T.α}(h1:M.n=M'.n)(h2:M.f=M'.f):M=M':=by
 cases M with
 | mk f n mon pos=>
  cases M' with
  | mk f' n' mon' pos'=>
   have h1:n=n':=h1
   have h2:f=f':=h2
   subst h1 h2
   rfl
theorem isAl_md {T:Twr}{M:Md T.α}:IsAl T (M.n+1) M.f↔AlM T M:=⟨fun ⟨M',h1,h2,h⟩=>by
  obtain rfl:=md_same (by omega:M'.n=M.n) h2
  exact h,fun h=>⟨M,rfl,rfl,h⟩⟩
theorem md_nz {T:Twr}(M:Md T.α):Nz T (M.n+1) M.f:=⟨M.mon.dg,.inr (by rw[show M.n+1 - 1=M.n by omega,M.mon.top];exact T.fld.1)⟩
theorem alone_of {J:L2.Kind}{vs:List V}{H:Hp}{Q:VK}{E:XK}(h:spAlone J vs H Q E):spAloneG J vs H Q E:=by
 obtain⟨a,T,v,M,rfl,ja,rv,hn,qt,qf⟩:=h
 exact⟨a,T,v,M.n+1,M.f,rfl,ja,rv,md_nz M,by omega,fun h=>qt (isAl_md.mp h),fun h=>qf fun z=>h (isAl_md.mpr z)⟩
theorem AlM.alone {T:Twr}{M:Md T.α}(h:AlM T M):Alone T M:=by
 rcases h with h | h
 ·exact alone1 T M h
 ·exact mk_alone T M h.1 h.2
structure Polys (P:Program)(w:World)(K:FrQ)(mg:Str→Option Value)(base:Heap)(k:Nat)(J:L2.Kind):Prop where
 cut:Dfn P w K mg base (k+1) "without_noughts" ["tower","terms"] (spCut J)
 minus:Dfn P w K mg base (k+2) "minus_poly" ["tower","f","g"] (spMinusP J)
 scaled:Dfn P w K mg base (k+1) "scaled_poly" ["tower","u","f"] (spScaled J)
 times:Dfn P w K mg base (k+1) "times_poly" ["tower","f","g"] (spTimesP J)
 overM:Dfn P w K mg base (k+2) "over_monic" ["tower","f","g"] (spOverM J)
 overP:Dfn P w K mg base (k+3) "over_poly" ["tower","f","g"] (spOverP J)
 common:Dfn P w K mg base (k+4) "common_poly" ["tower","f","g"] (spCommon J)
 letter:Dfn P w K mg base (k+1) "letter_of" ["tower"] (spLetterOf J)
 alone:Dfn P w K mg base (k+5) "is_alone" ["tower","f"] (spAlone J)
 aloneG:Dfn P w K mg base (k+5) "is_alone" ["tower","f"] (spAloneG J)
structure ClS (K:FrQ)(CS:Addr):Prop where
 cl:Cls K CS
 nF:NoAttr K CS "floor"
 nP:NoAttr K CS "p"
 nQ:NoAttr K CS "part"
structure StAt (CG CS:Addr)(n:Nat)(H:Hp)(a b q dx:Addr)(T:Twr)(M:Md T.α):Prop where
 h:H a=some (.ins CS dx (stf b q T.p))
 f:IsT CG CS n H b T
 r:Rep H Any (.ref q) (polE T (M.n+1) M.f)
 hd:T.d*M.n≤12
theorem StAt.mono {CG CS:Addr}{n:Nat}{H H':Hp}{a b q dx:Addr}{T:Twr}{M:Md T.α}(h:StAt CG CS n H a b q dx T M)(g:Same H H'):StAt CG CS n H' a b q dx T M:=⟨g _ _ h.h,h.f.mono g,h.r.same g,h.hd⟩
theorem StAt.n {CG CS:Addr}{n:Nat}{H:Hp}{a b q dx:Addr}{T:Twr}{M:Md T.α}(h:StAt CG CS n H a b q dx T M):M.n≤12:=by
 have h1:=h.f.d.1
 have h2:=h.hd
 have:1*M.n≤T.d*M.n:=Nat.mul_le_mul_right _ h1
 omega
theorem IsT.invS {CG CS:Addr}{n:Nat}{H:Hp}{a:Addr}{T':Twr}(h:IsT CG CS (n+1) H a T'):∃ (b q dx:Addr) (T:Twr) (M:Md T.α) (al:Alone T M) (hn:M.n≤100),T'=T.up M al hn∧StAt CG CS n H a b q dx T M:=by
 cases h with
 | @st n H a b q dx T M al h f r hd hn=>exact⟨b,q,dx,T,M,al,hn,rfl,h,f,r,hd⟩
theorem StAt.isT {CG CS:Addr}{n:Nat}{H:Hp}{a b q dx:Addr}{T:Twr}{M:Md T.α}(h:StAt CG CS n H a b q dx T M)(al:Alone T M)(hn:M.n≤100):IsT CG CS (n+1) H a (T.up M al hn):=.st al h.h h.f h.r h.hd hn
abbrev JSt (CG CS:Addr)(n:Nat):Hp→Addr→Prop:=fun H a=>∃ (b q dx:Addr) (T:Twr) (M:Md T.α),StAt CG CS n H a b q dx T M
def spWidth (CG CS:Addr)(n:Nat):Sp:=fun vs H Q _=>∃ (a b q dx:Addr) (T:Twr) (M:Md T.α),vs=[.ref a]∧StAt CG CS n H a b q dx T M∧∀ H',Same H H'→Q (.int (M.n:Int)) H'
def spLifted (CG CS:Addr)(n:Nat):Sp:=fun vs H Q _=>∃ (a b q dx:Addr) (T:Twr) (M:Md T.α) (u:V) (x:T.α),vs=[.ref a,u]∧StAt CG CS n H a b q dx T M∧Rep H Any u (T.enc x)∧∀ r H',Same H H'→Rep H' (NewB H) r (polE T M.n (cst x))→Q r H'
def spByPart (CG CS:Addr)(n:Nat):Sp:=fun vs H Q _=>∃ (a b q dx:Addr) (T:Twr) (M:Md T.α) (u:V) (N:Nat) (s:Ser T.α) (ok:Addr→Prop),vs=[.ref a,u]∧StAt CG CS n H a b q dx T M∧Rep H ok u (polE T N s)∧Dg s N∧N≤100∧
 ∀ r H',Same H H'→Rep H' (fun b=>H b=none∨ok b) r (polE T M.n (Alg.rest M s))→Q r H'
structure StW (P:Program)(w:World)(K:FrQ)(mg:Str→Option Value)(base:Heap)(k:Nat)(CG CS:Addr)(n:Nat):Prop where
 width:Mth P w K mg base k (JSt CG CS n) "width" ["self"] (spWidth CG CS n)
structure StB (P:Program)(w:World)(K:FrQ)(mg:Str→Option Value)(base:Heap)(k:Nat)(CG CS:Addr)(n:Nat):Prop extends StW P w K mg base k CG CS n where
 by_part:Mth P w K mg base k (JSt CG CS n) "by_part" ["self","terms"] (spByPart CG CS n)
structure StL (P:Program)(w:World)(K:FrQ)(mg:Str→Option Value)(base:Heap)(k:Nat)(CG CS:Addr)(n:Nat):Prop where
 lifted:Mth P w K mg base k (JSt CG CS n) "lifted" ["self","u"] (spLifted CG CS n)
theorem lk_no {b q:Addr}{p:Nat}{m:Str}(h1:m≠"floor")(h2:m≠"p")(h3:m≠"part"):(stf b q p).lookup m=none:=by
 show (match m ==("floor":Str) with | true=>some (V.ref b) | false=>(match m ==("p":Str) with | true=>some (V.int (p:Int)) | false=>(match m ==("part":Str) with | true=>some (V.ref q) | false=>none)))=none
 rw[beq_eq_false_iff_ne.mpr h1,beq_eq_false_iff_ne.mpr h2,beq_eq_false_iff_ne.mpr h3]
section
variable {P:Program} {w:World} {K:FrQ} {mg:Str→Option Value} {base:Heap} {CG CS:Addr} {n k:Nat}
theorem st_mth (c:ClS K CS){m:Str}{ps:List Str}{sp:Sp}(h1:m≠"floor")(h2:m≠"p")(h3:m≠"part")(M:Mok P w K mg base k CS m ps sp):Mth P w K mg base k (JSt CG CS n) m ps sp:=by
 refine .of fun H a ⟨b,q,dx,T,M',s⟩=>⟨CS,dx,_,s.h,lk_no h1 h2 h3,c.cl,M.imp fun vs H Q E h=>h.1⟩
theorem st_mthT (c:ClS K CS){m:Str}{ps:List Str}{sp:Sp}(h1:m≠"floor")(h2:m≠"p")(h3:m≠"part")(M:Mok P w K mg base k CS m ps sp):Mth P w K mg base k (JJ (IsT CG CS (n+1))) m ps sp:=by
 refine .of fun H a ⟨T',j⟩=>?_
 obtain⟨b,q,dx,T,M',al,hn,rfl,s⟩:=j.invS
 exact⟨CS,dx,_,s.h,lk_no h1 h2 h3,c.cl,M.imp fun vs H Q E h=>h.1⟩
end
end L2
set_option Elab.async false
set_option linter.all false
set_option maxRecDepth 100000
namespace L2
open PySem PySem.Spec PyProof.Rows Alg
inductive Up:Nat→List El→Twr→Twr→Prop where
 | nil {i:Nat} {T:Twr}:Up i [] T T
 | cons {i:Nat} {T T':Twr} {M:Md T.α} {ps:List El} (al:AlM T M) (hn:M.n≤100) (hd:T.d*M.n≤12) (hl:i=0∨polE T (M.n+1) M.f≠polE T 2 X) (u:Up (i+1) ps (T.up M al.alone hn) T'):Up i (polE T (M.n+1) M.f::ps) T T'
theorem Up.snoc {i:Nat}{ps:List El}{T T':Twr}(h:Up i ps T T'):∀ {M:Md T'.α} (al:AlM T' M) (hn:M.n≤100) (hd:T'.d*M.n≤12) (hl:i+ps.length=0∨polE T' (M.n+1) M.f≠polE T' 2 X),Up i (ps++[polE T' (M.n+1) M.f]) T (T'.up M al.alone hn):=by
 induction h with
 | nil=>intro M al hn hd hl;exact .cons al hn hd (hl.imp (fun z=>by simpa using z) id) .nil
 | cons al hn hd hl u ih=>
  intro M al' hn' hd' hl'
  exact .cons al hn hd hl (ih al' hn' hd' (hl'.imp (fun z=>by simp at z) id))
inductive Wd:Twr→List Nat→Prop where
 | gr {p:Nat} (hp:p∈PR):Wd (ground p hp) []
 | up {T:Twr} {ws:List Nat} {M:Md T.α} (al:Alone T M) (hn:M.n≤100) (w:Wd T ws):Wd (T.up M al hn) (ws++[M.n])
def IsElD (T:Twr)(d:PyData):Prop:=∃ x:T.α,d=toD (T.enc x)
def wh (T:Twr)(i:Int):T.α:=nt T.α (i % (T.p:Int)).toNat
theorem isElD_gr {p:Nat}{hp:p∈PR}{d:PyData}:IsElD (ground p hp) d↔∃ i:Int,d=.int i∧0≤i∧i<(p:Int):=by
 constructor
 ·rintro⟨x,rfl⟩
  exact⟨((show Zp p from x).v:Int),rfl,Int.natCast_nonneg _,by have:=(show Zp p from x).lt;omega⟩
 ·rintro⟨i,rfl,h1,h2⟩
  refine⟨(⟨i.toNat,by omega⟩:Zp p),?_⟩
  show PyData.int i=PyData.int ((i.toNat:Nat):Int)
  rw[Int.toNat_of_nonneg h1]
theorem isElD_up {T:Twr}{M:Md T.α}{al:Alone T M}{hn:M.n≤100}{d:PyData}:IsElD (T.up M al hn) d↔∃ ds:List PyData,d=.list ds∧ds.length=M.n∧∀ e∈ds,IsElD T e:=by
 constructor
 ·rintro⟨x,rfl⟩
  refine⟨toDs ((List.range M.n).map fun i=>T.enc ((show Qt M from x).s.c i)),rfl,by rw[toDs_map];simp,fun e he=>?_⟩
  rw[toDs_map] at he
  obtain⟨y,hy,rfl⟩:=List.mem_map.mp he
  obtain⟨i,_,rfl⟩:=List.mem_map.mp hy
  exact⟨_,rfl⟩
 ·rintro⟨ds,rfl,hl,h⟩
  have ch:∀ i,∃ x:T.α,i<M.n→ds[i]?=some (toD (T.enc x)):=fun i=>by
   by_cases hi:i<M.n
   ·obtain⟨x,hx⟩:=h (ds[i]'(by omega)) (List.getElem_mem _)
    exact⟨x,fun _=>by rw[List.getElem?_eq_getElem (by omega),hx]⟩
   ·exact⟨0,fun z=>absurd z hi⟩
  obtain⟨f,hf⟩:=Classical.axiomOfChoice ch
  let s:Ser T.α:=⟨fun i=>if i<M.n then f i else 0⟩
  have ds':Dg s M.n:=fun i hi=>by show (if i<M.n then f i else 0)=0;rw[if_neg (by omega)]
  refine⟨(⟨s,ds'⟩:Qt M),?_⟩
  show PyData.list ds=PyData.list (toDs ((List.range M.n).map fun i=>T.enc (s.c i)))
  congr 1
  rw[toDs_map]
  apply List.ext_getElem?
  intro i
  by_cases hi:i<M.n
  ·rw[hf i hi,List.getElem?_map,List.getElem?_map,List.getElem?_range hi]
   show some (toD (T.enc (f i)))=some (toD (T.enc (if i<M.n then f i else 0)))
   rw[if_pos hi]
  ·rw[List.getElem?_eq_none_iff.mpr (by omega),List.getElem?_eq_none_iff.mpr (by simp;omega)]
def spIsEl (K:FrQ)(J:L2.Kind):Sp:=fun vs H Q _=>∃ (a:Addr) (T:Twr) (v:V) (d:PyData),vs=[.ref a,v]∧J H a T∧Den K H v d∧(IsElD T d→∀ H',Same H H'→Q (.bl true) H')∧(¬ IsElD T d→∀ H',Same H H'→Q (.bl false) H')
def spWhole (J:L2.Kind):Sp:=fun vs H Q _=>∃ (a:Addr) (T:Twr) (i:Int),vs=[.ref a,.int i]∧J H a T∧∀ r H',Same H H'→Rep H' (NewB H) r (T.enc (wh T i))→Q r H'
theorem wh_up {T:Twr}{M:Md T.α}{al:Alone T M}{hn:M.n≤100}(i:Int):(T.up M al hn).enc (wh (T.up M al hn) i)=polE T M.n (cst (wh T i)):=by
 show polE T M.n (nt (Qt M) (i % (T.p:Int)).toNat).s=_
 rw[nt_qt]
 show polE T M.n (Alg.rest M _)=_
 rw[rest_eq ((Dg.cst _).mono M.pos) (Cg.refl _ _)]
 rfl
theorem wh_gr {p:Nat}{hp:p∈PR}(i:Int):(ground p hp).enc (wh (ground p hp) i)=.num (i % (p:Int)):=by
 have pp:=pr_pos hp
 show El.num _=_
 congr 1
 show (((letI:=zring (pr_pos hp).1;nt (Zp p) (i % (p:Int)).toNat:Zp p).v:Nat):Int)=i % (p:Int)
 rw[zv_nt]
 have h1:=Int.emod_nonneg i (b:=(p:Int)) (by omega)
 have h2:=Int.emod_lt_of_pos i (b:=(p:Int)) (by omega)
 rw[Nat.mod_eq_of_lt (by omega),Int.toNat_of_nonneg h1]
theorem wh_one (T:Twr):wh T 1=1:=by
 unfold wh
 have pp:=pr_pos T.pr
 rw[Int.emod_eq_of_lt (by omega) (by omega)]
 exact nt_one
structure TwE (P:Program)(w:World)(K:FrQ)(mg:Str→Option Value)(base:Heap)(k:Nat)(J:L2.Kind):Prop extends TwB P w K mg base k J where
 is_element:Mth P w K mg base k (JJ J) "is_element" ["self","thing"] (spIsEl K J)
 whole:Mth P w K mg base k (JJ J) "whole" ["self","k"] (spWhole J)
theorem TwE.up {P:Program}{w:World}{K:FrQ}{mg:Str→Option Value}{base:Heap}{j k:Nat}{J:L2.Kind}(O:TwE P w K mg base j J)(h:j≤k):TwE P w K mg base k J:=⟨O.toTwB.up h,O.is_element.mono h,O.whole.mono h⟩
def IsTU (CG CS:Addr):L2.Kind:=fun H a T=>∃ n:Nat,n≤5∧IsT CG CS n H a T
abbrev Ix:={ n:Nat // n≤5 }
section
variable {P:Program} {w:World} {K:FrQ} {mg:Str→Option Value} {base:Heap} {CG CS:Addr} {k:Nat}
theorem union_of {m:Str}{ps:List Str}{sp:L2.Kind→Sp}(M:∀ i:Ix,Mth P w K mg base k (JJ (IsT CG CS i.1)) m ps (sp (IsT CG CS i.1)))(hs:∀ (J:L2.Kind) vs H Q E,sp J vs H Q E→∃ a,vs.head?=some (.ref a)∧∃ T,J H a T)
  (hu:∀ vs H Q E,sp (IsTU CG CS) vs H Q E→∃ i:Ix,sp (IsT CG CS i.1) vs H Q E):Mth P w K mg base k (JJ (IsTU CG CS)) m ps (sp (IsTU CG CS)):=by
 have U:=(Mth.union (J:=fun i:Ix=>JJ (IsT CG CS i.1)) (sp:=fun i:Ix=>sp (IsT CG CS i.1)) M fun i vs H Q E h=>hs _ vs H Q E h).imp hu
 exact⟨fun H a ⟨T,n,hn,j⟩=>U.ex H a ⟨⟨n,hn⟩,T,j⟩⟩
theorem tweU (M:∀ n,n≤5→TwE P w K mg base k (IsT CG CS n)):TwE P w K mg base k (IsTU CG CS):=by
 refine⟨⟨⟨fun g ⟨n,hn,j⟩=>⟨n,hn,j.mono g⟩,fun ⟨n,hn,j⟩=>(M n hn).fld j,fun ⟨n,hn,j⟩=>(M n hn).bd j,fun ⟨n,hn,j⟩=>(M n hn).d1 j,?_,?_,?_,?_,?_,?_,?_⟩,?_⟩,?_,?_⟩
 ·exact union_of (sp:=spDeg) (fun i=>(M i.1 i.2).degree) (fun J vs H Q E h=>by obtain⟨a,T,e,j,_⟩:=h;exact⟨a,by rw[e];rfl,T,j⟩) (fun vs H Q E h=>by obtain⟨a,T,e,⟨n,hn,j⟩,q⟩:=h;exact⟨⟨n,hn⟩,a,T,e,j,q⟩)
 ·exact union_of (sp:=spZero) (fun i=>(M i.1 i.2).zero) (fun J vs H Q E h=>by obtain⟨a,T,e,j,_⟩:=h;exact⟨a,by rw[e];rfl,T,j⟩) (fun vs H Q E h=>by obtain⟨a,T,e,⟨n,hn,j⟩,q⟩:=h;exact⟨⟨n,hn⟩,a,T,e,j,q⟩)
 ·exact union_of (sp:=spOne) (fun i=>(M i.1 i.2).one) (fun J vs H Q E h=>by obtain⟨a,T,e,j,_⟩:=h;exact⟨a,by rw[e];rfl,T,j⟩) (fun vs H Q E h=>by obtain⟨a,T,e,⟨n,hn,j⟩,q⟩:=h;exact⟨⟨n,hn⟩,a,T,e,j,q⟩)
 ·exact union_of (sp:=spPlus) (fun i=>(M i.1 i.2).plus) (fun J vs H Q E h=>by obtain⟨a,T,u,v,x,y,e,j,_⟩:=h;exact⟨a,by rw[e];rfl,T,j⟩) (fun vs H Q E h=>by obtain⟨a,T,u,v,x,y,e,⟨n,hn,j⟩,q⟩:=h;exact⟨⟨n,hn⟩,a,T,u,v,x,y,e,j,q⟩)
 ·exact union_of (sp:=spMinus) (fun i=>(M i.1 i.2).minus) (fun J vs H Q E h=>by obtain⟨a,T,u,v,x,y,e,j,_⟩:=h;exact⟨a,by rw[e];rfl,T,j⟩) (fun vs H Q E h=>by obtain⟨a,T,u,v,x,y,e,⟨n,hn,j⟩,q⟩:=h;exact⟨⟨n,hn⟩,a,T,u,v,x,y,e,j,q⟩)
 ·exact union_of (sp:=spTimes) (fun i=>(M i.1 i.2).times) (fun J vs H Q E h=>by obtain⟨a,T,u,v,x,y,e,j,_⟩:=h;exact⟨a,by rw[e];rfl,T,j⟩) (fun vs H Q E h=>by obtain⟨a,T,u,v,x,y,e,⟨n,hn,j⟩,q⟩:=h;exact⟨⟨n,hn⟩,a,T,u,v,x,y,e,j,q⟩)
 ·exact union_of (sp:=spNought) (fun i=>(M i.1 i.2).is_nought) (fun J vs H Q E h=>by obtain⟨a,T,u,x,e,j,_⟩:=h;exact⟨a,by rw[e];rfl,T,j⟩) (fun vs H Q E h=>by obtain⟨a,T,u,x,e,⟨n,hn,j⟩,q⟩:=h;exact⟨⟨n,hn⟩,a,T,u,x,e,j,q⟩)
 ·exact union_of (sp:=spBack) (fun i=>(M i.1 i.2).back) (fun J vs H Q E h=>by obtain⟨a,T,u,x,e,j,_⟩:=h;exact⟨a,by rw[e];rfl,T,j⟩) (fun vs H Q E h=>by obtain⟨a,T,u,x,e,⟨n,hn,j⟩,q⟩:=h;exact⟨⟨n,hn⟩,a,T,u,x,e,j,q⟩)
 ·exact union_of (sp:=spIsEl K) (fun i=>(M i.1 i.2).is_element) (fun J vs H Q E h=>by obtain⟨a,T,u,x,e,j,_⟩:=h;exact⟨a,by rw[e];rfl,T,j⟩) (fun vs H Q E h=>by obtain⟨a,T,u,x,e,⟨n,hn,j⟩,q⟩:=h;exact⟨⟨n,hn⟩,a,T,u,x,e,j,q⟩)
 ·exact union_of (sp:=spWhole) (fun i=>(M i.1 i.2).whole) (fun J vs H Q E h=>by obtain⟨a,T,i,e,j,_⟩:=h;exact⟨a,by rw[e];rfl,T,j⟩) (fun vs H Q E h=>by obtain⟨a,T,i,e,⟨n,hn,j⟩,q⟩:=h;exact⟨⟨n,hn⟩,a,T,i,e,j,q⟩)
end
def nw (H H':Hp):Hp:=fun c=>match H c with
 | none=>H' c
 | some _=>none
theorem nw_of {H H':Hp}{c:Addr}(h:H c=none):nw H H' c=H' c:=by unfold nw;rw[h]
theorem nw_inv {H H':Hp}{c:Addr}{o:HO}(h:nw H H' c=some o):H c=none∧H' c=some o:=by
 unfold nw at h
 cases e:H c with
 | none=>rw[e] at h;exact⟨rfl,h⟩
 | some u=>rw[e] at h;cases h
theorem nw_same (H H':Hp):Same (nw H H') H':=fun c o h=>(nw_inv h).2
theorem nw_mono {H H' H'':Hp}(g:Same H' H''):Same (nw H H') (nw H H''):=fun c o h=>by rw[nw_of (nw_inv h).1];exact g _ _ (nw_inv h).2
theorem nw_older {H0 H H':Hp}(g:Same H0 H):Same (nw H H') (nw H0 H'):=fun c o h=>by rw[nw_of (g.free (nw_inv h).1)];exact (nw_inv h).2
theorem Rep.nw {H H':Hp}{v:V}{e:El}(r:Rep H' (NewB H) v e):Rep (L2.nw H H') Any v e:=r.imp fun b o h k=>⟨by rw[nw_of k];exact h,trivial⟩
def del (H:Hp)(b:Addr):Hp:=fun c=>if c=b then none else H c
theorem del_inv {H:Hp}{b c:Addr}{o:HO}(h:del H b c=some o):c≠b∧H c=some o:=by
 unfold del at h
 by_cases e:c=b
 ·rw[if_pos e] at h;cases h
 ·rw[if_neg e] at h;exact⟨e,h⟩
theorem del_of {H:Hp}{b c:Addr}(h:c≠b):del H b c=H c:=if_neg h
theorem del_same (H:Hp)(b:Addr):Same (del H b) H:=fun c o h=>(del_inv h).2
def spInitG (CG:Addr):Sp:=fun vs H Q _=>∃ (x dx:Addr) (p:Nat),vs=[.ref x,.int (p:Int)]∧H x=some (.ins CG dx [])∧Q .non (upd H x (.ins CG dx (grf p)))
def spInitS (CG CS:Addr)(n:Nat):Sp:=fun vs H Q _=>∃ (x dx b:Addr) (u:V) (T:Twr) (M:Md T.α) (H0:Hp),vs=[.ref x,.ref b,u]∧H x=some (.ins CS dx [])∧Same H0 H∧H0 x=none∧IsT CG CS n H0 b T∧Rep H0 Any u (polE T (M.n+1) M.f)∧M.n≤12∧
 ∀ q H',Same H0 H'→H' x=some (.ins CS dx (stf b q T.p))→Rep H' (NewB H0) (.ref q) (polE T (M.n+1) M.f)→Q .non H'
def spIsWhole (K:FrQ):Sp:=fun vs H Q _=>∃ (v:V) (d:PyData),vs=[v]∧Den K H v d∧((∃ i,d=.int i)→Q (.bl true) H)∧((¬ ∃ i,d=.int i)→Q (.bl false) H)
section
variable (J:L2.Kind)
end
def Topped (CG CS:Addr){p:Nat}(hp:p∈PR)(H:Hp)(b:Addr)(T:Twr)(ps:List El):Prop:=∀ ps' e,ps=ps'++[e]→∃ (b0 q dx:Addr) (T0:Twr) (M:Md T0.α) (al:AlM T0 M) (hn:M.n≤100),T=T0.up M al.alone hn∧StAt CG CS ps'.length H b b0 q dx T0 M∧Up 0 ps' (ground p hp) T0∧e=polE T0 (M.n+1) M.f
theorem Up.inv {i:Nat}{e:El}{ps:List El}{T T':Twr}(h:Up i (e::ps) T T'):∃ (M:Md T.α) (al:AlM T M) (hn:M.n≤100),e=polE T (M.n+1) M.f∧Up (i+1) ps (T.up M al.alone hn) T':=by
 cases h with
 | @cons _ _ _ M _ al hn hd hl u=>exact⟨M,al,hn,rfl,u⟩
theorem md_eq {T:Twr}{M M':Md T.α}(h:polE T (M.n+1) M.f=polE T (M'.n+1) M'.f):M=M':=by
 obtain⟨h1,h2⟩:=polE_inj M.mon.dg M'.mon.dg h
 cases M with
 | mk f n mon pos=>
  cases M' with
  | mk f' n' mon' pos'=>
   have h1:n+1=n'+1:=h1
   have h2:f=f':=h2
   obtain rfl:n=n':=by omega
   subst h2
   rfl
theorem Up.uniq:∀ {ps:List El} {i:Nat} {T T1 T2:Twr},Up i ps T T1→Up i ps T T2→T1=T2
 | [],_,_,_,_,h,k=>by cases h;cases k;rfl
 | e::ps,_,_,_,_,h,k=>by
  obtain⟨M,al,hn,e1,u⟩:=h.inv
  obtain⟨M',al',hn',e2,u'⟩:=k.inv
  obtain rfl:=md_eq (e1.symm.trans e2)
  exact u.uniq u'
structure ClT (K:FrQ)(CT:Addr):Prop where
 cl:Cls K CT
 nT:NoAttr K CT "top"
 nP:NoAttr K CT "p"
 nQ:NoAttr K CT "parts"
 nK:NoAttr K CT "kept"
def twf (b:Addr)(p:Nat)(v1 v2:V):List (Str×V):=[("top",.ref b),("p",.int (p:Int)),("parts",v1),("kept",v2)]
theorem lt_top {b:Addr}{p:Nat}{v1 v2:V}:(twf b p v1 v2).lookup ("top":Str)=some (.ref b):=by rfl
theorem lt_p {b:Addr}{p:Nat}{v1 v2:V}:(twf b p v1 v2).lookup ("p":Str)=some (.int (p:Int)):=by rfl
theorem lt_parts {b:Addr}{p:Nat}{v1 v2:V}:(twf b p v1 v2).lookup ("parts":Str)=some v1:=by rfl
theorem lt_no {b:Addr}{p:Nat}{v1 v2:V}{m:Str}(h1:m≠"top")(h2:m≠"p")(h3:m≠"parts")(h4:m≠"kept"):(twf b p v1 v2).lookup m=none:=by
 show (match m ==("top":Str) with | true=>some (V.ref b) | false=>(match m ==("p":Str) with | true=>some (V.int (p:Int)) | false=>(match m ==("parts":Str) with | true=>some v1 | false=>(match m ==("kept":Str) with | true=>some v2 | false=>none))))=none
 rw[beq_eq_false_iff_ne.mpr h1,beq_eq_false_iff_ne.mpr h2,beq_eq_false_iff_ne.mpr h3,beq_eq_false_iff_ne.mpr h4]
def IsF (CG CS CT:Addr):L2.Kind:=fun H a T=>∃ (dx b:Addr) (v1 v2:V),H a=some (.ins CT dx (twf b T.p v1 v2))∧IsTU CG CS H b T
theorem IsF.mono {CG CS CT:Addr}{H H':Hp}{a:Addr}{T:Twr}(g:Same H H')(h:IsF CG CS CT H a T):IsF CG CS CT H' a T:=by
 obtain⟨dx,b,v1,v2,h1,n,hn,j⟩:=h
 exact⟨dx,b,v1,v2,g _ _ h1,n,hn,j.mono g⟩
def spInitT (CG CS CT:Addr):Sp:=fun vs H Q _=>∃ (x dx:Addr) (p:Nat) (hp:p∈PR) (v:V) (ps:List El) (T:Twr) (H0:Hp),vs=[.ref x,.int (p:Int),v]∧H x=some (.ins CT dx [])∧Same H0 H∧H0 x=none∧Rep H0 Any v (.vec ps)∧ps.length≤5∧Up 0 ps (ground p hp) T∧
 ∀ (b:Addr) (v1 v2:V) H',Same H0 H'→H' x=some (.ins CT dx (twf b p v1 v2))→IsT CG CS ps.length (nw H0 H') b T→Rep H' (NewB H0) v1 (.vec ps)→Rep H' (NewB H0) v2 (.vec ps)→Topped CG CS hp (nw H0 H') b T ps→Q .non H'
theorem Up.p {i:Nat}{ps:List El}{T T':Twr}(h:Up i ps T T'):T'.p=T.p:=by
 induction h with
 | nil=>rfl
 | cons al hn hd hl u ih=>exact ih
theorem Up.ht {i:Nat}{ps:List El}{T T':Twr}(h:Up i ps T T'):T'.ht=T.ht+ps.length:=by
 induction h with
 | nil=>rfl
 | @cons i T T' M ps al hn hd hl u ih=>
  rw[ih]
  show T.ht+1+ps.length=T.ht+(ps.length+1)
  omega
theorem Up.fl {i:Nat}{ps:List El}{T T':Twr}(h:Up i ps T T'):1≤T.d→∀ e∈ps,FlE T'.ht e:=by
 induction h with
 | nil=>intro _ e he;simp at he
 | @cons i T T' M ps al hn hd hl u ih=>
  intro d1 e he
  have hM:M.n≤12:=by
   have:1*M.n≤T.d*M.n:=Nat.mul_le_mul_right _ d1
   omega
  rcases List.mem_cons.mp he with z | z
  ·rw[z]
   refine (fl_pol T (by omega) M.f).mono ?_
   have:=u.ht
   have e2:(T.up M al.alone hn).ht=T.ht+1:=rfl
   omega
  ·exact ih (Nat.mul_pos d1 M.pos) e z
theorem cutV_last (xs:List V)(h:xs≠[]):cutV xs none (some (-1))=xs.dropLast:=by
 have hl:0<xs.length:=List.length_pos_iff.mpr h
 unfold cutV
 have e1:HT.sIx xs.length 0 none=0:=rfl
 have e2:HT.sIx xs.length xs.length (some (-1))=xs.length - 1:=by
  simp only[HT.sIx]
  rw[if_pos (by decide)]
  omega
 rw[e1,e2,List.dropLast_eq_take]
 simp
theorem Wd.nil {T:Twr}(h:Wd T []):∃ p,∃ hp:p∈PR,T=ground p hp:=by
 generalize e:([]:List Nat)=ws at h
 cases h with
 | gr hp=>exact⟨_,hp,rfl⟩
 | up al hn w=>simp at e
theorem Wd.snoc {T:Twr}{ws:List Nat}{m:Nat}(h:Wd T (ws++[m])):∃ (T':Twr) (M:Md T'.α) (al:Alone T' M) (hn:M.n≤100),T=T'.up M al hn∧M.n=m∧Wd T' ws:=by
 generalize e:ws++[m]=us at h
 cases h with
 | gr hp=>simp at e
 | @up T' ws' M al hn w=>
  obtain⟨e1,e2⟩:=List.append_inj' e rfl
  subst e1
  exact⟨T',M,al,hn,rfl,by simpa using e2.symm,w⟩
inductive Bld {p:Nat}(hp:p∈PR):List El→List Nat→Twr→Prop where
 | nil:Bld hp [] [] (ground p hp)
 | snoc {ps:List El} {ws:List Nat} {T:Twr} {M:Md T.α} (b:Bld hp ps ws T) (al:AlM T M) (hn:M.n≤100) (hd:T.d*M.n≤12) (hl:ps=[]∨polE T (M.n+1) M.f≠polE T 2 X):Bld hp (ps++[polE T (M.n+1) M.f]) (ws++[M.n]) (T.up M al.alone hn)
theorem Bld.wd {p:Nat}{hp:p∈PR}{ps:List El}{ws:List Nat}{T:Twr}(h:Bld hp ps ws T):Wd T ws:=by
 induction h with
 | nil=>exact .gr hp
 | snoc b al hn hd hl ih=>exact .up al.alone hn ih
theorem Bld.len {p:Nat}{hp:p∈PR}{ps:List El}{ws:List Nat}{T:Twr}(h:Bld hp ps ws T):ps.length=ws.length:=by
 induction h with
 | nil=>rfl
 | snoc b al hn hd hl ih=>rw[List.length_append,List.length_append,ih];rfl
theorem Bld.up {p:Nat}{hp:p∈PR}{ps:List El}{ws:List Nat}{T:Twr}(h:Bld hp ps ws T):Up 0 ps (ground p hp) T:=by
 induction h with
 | nil=>exact .nil
 | snoc b al hn hd hl ih=>exact ih.snoc al hn hd (hl.imp (fun z=>by rw[z];rfl) id)
theorem Bld.p {p:Nat}{hp:p∈PR}{ps:List El}{ws:List Nat}{T:Twr}(h:Bld hp ps ws T):T.p=p:=h.up.p
abbrev Bag (H:Hp)(b:Addr):Prop:=∃ g r:Int,H b=some (.lst [.int g,.int r])
def wv (ws:List Nat):List V:=ws.map fun m:Nat=>V.int (m:Int)
def NewO (H:Hp)(b:Addr)(H':Hp):Prop:=∀ a o,a≠b→H a=some o→H' a=some o
theorem NewO.del {b:Addr}{H H':Hp}(h:NewO H b H'):Same (L2.del H b) (L2.del H' b):=fun c o e=>by rw[del_of (del_inv e).1];exact h c o (del_inv e).1 (del_inv e).2
theorem NewO.refl (H:Hp)(b:Addr):NewO H b H:=fun _ _ _ h=>h
theorem NewO.trans {b:Addr}{H H' H'':Hp}(h:NewO H b H')(h':NewO H' b H''):NewO H b H'':=fun a o n e=>h' a o n (h a o n e)
theorem NewO.of {b:Addr}{H H':Hp}(h:Same H H'):NewO H b H':=fun a o _ e=>h a o e
theorem NewO.upd {b:Addr}{H H':Hp}(h:NewO H b H')(o:HO):NewO H b (L2.upd H' b o):=fun a u n e=>by rw[upd_ne n];exact h a u n e
theorem NewO.fresh {b:Addr}{H H':Hp}(h:NewO H b H')(hb':∃ o,H' b=some o){a:Addr}(ha:H' a=none):H a=none:=by
 have hne:a≠b:=fun z=>by obtain⟨o,e⟩:=hb';rw[z,e] at ha;cases ha
 cases q:H a with
 | none=>rfl
 | some o=>rw[h a o hne q] at ha;cases ha
theorem NewO.free_upd {b p:Addr}{H H':Hp}(h:NewO H b H')(hp:H p=none)(o:HO):NewO H b (L2.upd H' p o):=fun a u n e=>by
 rw[upd_ne (ne_of_none e hp)]
 exact h a u n e
theorem Cf.newO {b:Addr}{H H':Hp}{ok:Addr→Prop}{vs:List V}{n:Nat}{e:Nat→El}(r:Cf H ok vs n e)(g:NewO H b H')(hok:∀ a,ok a→a≠b):Cf H' ok vs n e:=r.imp fun a o h k=>⟨g a o (hok a k) h,k⟩
def mdOf {α:Type}[Lean.Grind.CommRing α](m:Nat)(hm:0<m)(c:Nat→α):Md α where
 f:=⟨fun i=>if i<m then c i else if i=m then 1 else 0⟩
 n:=m
 mon:=⟨by show (if m<m then c m else if m=m then (1:α) else 0)=1;rw[if_neg (by omega),if_pos rfl],fun i hi=>by show (if i<m then c i else if i=m then (1:α) else 0)=0;rw[if_neg (by omega),if_neg (by omega)]⟩
 pos:=hm
theorem nw_dom {H0 H1 H':Hp}(h:∀ c,H0 c=none→H1 c=none):Same (nw H0 H') (nw H1 H'):=fun c o e=>by rw[nw_of (h c (nw_inv e).1)];exact (nw_inv e).2
theorem nw_step {H1 H2 H3:Hp}(h:∀ c o,H1 c=none→H2 c=some o→H3 c=some o):Same (nw H1 H2) (nw H1 H3):=fun c o e=>by rw[nw_of (nw_inv e).1];exact h c o (nw_inv e).1 (nw_inv e).2
theorem nw_del {H1 H2:Hp}{b:Addr}{o:HO}(hb:H1 b=some o):Same (nw H1 H2) (del H2 b):=fun c u e=>by
 have:=nw_inv e
 rw[del_of (fun z=>by rw[z,hb] at this;cases this.1)]
 exact this.2
inductive DpE:Nat→El→Prop where
 | num (i:Int):DpE 0 (.num i)
 | vec {n:Nat} {l:List El}:l≠[]→(∀ e∈l,DpE n e)→DpE (n+1) (.vec l)
structure DenL (K:FrQ)(H:Hp)(xs:List V)(ds:List PyData):Prop where
 len:xs.length=ds.length
 at_:∀ (i:Nat) x d,xs[i]?=some x→ds[i]?=some d→Den K H x d
theorem cutV_from (xs:List V)(k:Nat)(h:k≤xs.length):cutV xs (some (k:Int)) none=xs.drop k:=by
 unfold cutV
 have e1:HT.sIx xs.length xs.length none=xs.length:=rfl
 have e2:HT.sIx xs.length 0 (some (k:Int))=k:=by rw[HT.sIx_nat];omega
 rw[e1,e2]
 rw[List.take_of_length_le (by rw[List.length_drop];omega)]
def Bad (K:FrQ)(H:Hp)(T:Twr)(v:V):Prop:=∃ d,Den K H v d∧¬ IsElD T d
open Classical in
noncomputable def rs (H:Hp)(ok:Addr→Prop):Hp:=fun c=>if ok c then H c else none
theorem rs_inv {H:Hp}{ok:Addr→Prop}{c:Addr}{o:HO}(h:rs H ok c=some o):ok c∧H c=some o:=by
 unfold rs at h
 by_cases k:ok c
 ·rw[if_pos k] at h;exact⟨k,h⟩
 ·rw[if_neg k] at h;cases h
theorem rs_of {H:Hp}{ok:Addr→Prop}{c:Addr}(k:ok c):rs H ok c=H c:=by unfold rs;rw[if_pos k]
theorem rs_mono {H H':Hp}{ok ok':Addr→Prop}(h:∀ c o,ok c→H c=some o→H' c=some o)(k:∀ c o,ok c→H c=some o→ok' c):Same (rs H ok) (rs H' ok'):=fun c o e=>by
 obtain⟨a,b⟩:=rs_inv e
 rw[rs_of (k c o a b)];exact h c o a b
theorem rs_same (H:Hp)(ok:Addr→Prop):Same (rs H ok) H:=fun c o e=>(rs_inv e).2
end L2
set_option Elab.async false
set_option linter.all false
set_option maxRecDepth 100000
set_option maxHeartbeats 1000000
namespace L2
open PySem PySem.Spec PyProof.Rows
section
variable {P:Program} {w:World} {H H':Hp} {h h':Heap} {a:Addr} {o:HO}
theorem ObjOk.here (x:ObjOk P w H h a o):∃ u,h.get? a=some u:=by
 induction o with
 | lst xs=>obtain⟨_,_,_,_,e⟩:=x;exact⟨_,e⟩
 | tup xs=>obtain⟨_,_,_,ob,e,_⟩:=x;exact⟨_,e⟩
 | dK kvs=>obtain⟨_,_,_,_,o,_,_,e,_⟩:=x;exact⟨_,e⟩
 | dT kvs=>obtain⟨_,_,_,_,o,_,_,e,_⟩:=x;exact⟨_,e⟩
 | set S n=>obtain⟨o,_,_,_,e,_⟩:=x;exact⟨_,e⟩
 | ins C dx fs=>obtain⟨_,_,_,e,_⟩:=x;exact⟨_,e⟩
 | own y=>obtain⟨_,e⟩:=x;exact⟨_,e⟩
 | xd fs=>obtain⟨_,⟨_,_,_,e,_⟩,_⟩:=x;exact⟨_,e⟩
 | rng lo hi=>obtain⟨_,_,_,e⟩:=x;exact⟨_,e⟩
 | frz ob u ih=>obtain⟨e,_⟩:=x;exact⟨_,e⟩
 | tbl ps=>exact⟨_,(show h.get? a=some _ from x)⟩
 | met f y=>exact⟨_,(show h.get? a=some _ from x)⟩
 | ext φ=>obtain⟨_,⟨_,e⟩,_⟩:=x;exact⟨_,e⟩
end
structure Out (P:Program)(w:World)(outer:List Env)(H:Hp)(s:Shared)(C ea:Addr)(H':Hp)(s':Shared):Prop where
 os:s'.os=s.os
 bare:AllBare s'.gens
 un:Un (frs outer) [] H H' s.heap s'.heap
 hok:HOk P w H' s'.heap
 free:H' ea=none
 fly:∃ (B:Heap) (t:Addr),Heap.FlyingW B outer ea (.ref C) (.ref t) s'.heap∧∀ b o,s'.heap.get? b=some o→((∃ u,s.heap.get? b=some u)∨H' b≠none)→b ∉ frs outer→B.get? b=some o
def CXe (P:Program)(w:World):CXT:=fun outer H s E e s'=>∃ ea C H',e=.ref ea∧Out P w outer H s C ea H' s'∧E e (some C) H'
section
variable {X:Cx} {pins:List (Addr×Obj)} {σ:St} {H1 H':Hp} {s1 s2:Shared} {C ea:Addr}
theorem Inv.outOf (J:Inv X pins σ H' s2)(stk:X.stack=X.env::X.outer)(hf:X.env.frame=some X.env.locals)(hex:X.ex=[]){h3:Heap}{B:Heap}{t:Addr}(he:H' ea=none)(fl:Heap.FlyingW B X.outer ea (.ref C) (.ref t) h3)
  (hB:∀ b o,s2.heap.get? b=some o→((∃ u,X.s₀.heap.get? b=some u)∨H' b≠none)→b ∉ frs X.stack→B.get? b=some o) (ups:s2.heap.UpToSlots h3):Out X.prog X.w X.outer X.H₀ X.s₀ C ea H' { s2 with heap:=h3 }:=by
 have hL:∀ b,((∃ u,X.s₀.heap.get? b=some u)∨H' b≠none)→b≠X.env.locals:=fun b hc z=>by
  rcases hc with ⟨u,h⟩ | h
  ·have:=Nat.lt_of_lt_of_le (Heap.lt_size h) J.ok.above
   rw[z] at this
   exact absurd this (Nat.lt_irrefl _)
  ·rw[z] at h
   exact h J.free
 have hns:∀ b,((∃ u,X.s₀.heap.get? b=some u)∨H' b≠none)→b ∉ frs X.outer→b ∉ frs X.stack:=fun b hc hn hm=>by
  rcases List.mem_cons.mp (J.stkSub b hm) with e | e
  ·exact hL b hc e
  ·exact hn e
 have keep:∀ b u,s2.heap.get? b=some u→((∃ u,X.s₀.heap.get? b=some u)∨H' b≠none)→b ∉ frs X.outer→h3.get? b=some u:=fun b u hb hc hn=>fl.1 _ _ (hB b u hb hc (hns b hc hn))
 have U:=J.base
 rw[hex] at U
 have slot:∀ b o,X.s₀.heap.get? b=some o→X.H₀ b=none→b∈frs X.outer→∃ sl,h3.get? b=some { o with slots:=sl }:=fun b o e n hb=>by
  obtain⟨sl,h2⟩:=U.slot b o e n hb (by simp)
  obtain⟨_,o',ho',hd⟩:=J.ok.funs.mem hb
  rw[e] at ho'
  cases ho'
  obtain⟨sl',h4⟩:=ups b _ h2 hd
  exact⟨sl',h4⟩
 refine⟨J.os,J.bare,⟨fun b o e n hb hx=>keep b o (U.keep b o e n hb hx) (.inl ⟨_,e⟩) hb,fun b o e n hb hx=>slot b o e n hb,fun b o e n hx=>U.free b o e n hx,fun b o e hx=>?_,U.tups,U.frzs,U.tbls⟩,fun a o ha=>?_,he,B,t,fl,fun b o h3b hc hn=>?_⟩
 ·by_cases hb:b∈frs X.outer
  ·obtain⟨sl,z⟩:=slot b o e (J.ok.frf b hb) hb
   exact⟨_,z⟩
  ·obtain⟨o',z⟩:=U.there b o e hx
   exact⟨_,keep b o' z (.inl ⟨_,e⟩) hb⟩
 ·refine (J.hok a o ha).stay (fun b u hb hu=>?_) (fun b z=>z) fun b xs z=>z
  have tr:H' b≠none:=by
   rcases hb with z | z
   ·rw[z,ha];simp
   ·rw[z];simp
  refine keep b u hu (.inr tr) fun hm=>tr ?_
  refine J.stkFree b ?_
  rw[stk]
  obtain⟨env,he',hfe⟩:=List.mem_filterMap.mp hm
  exact List.mem_filterMap.mpr ⟨env,List.mem_cons_of_mem _ he',hfe⟩
 ·obtain⟨o2,h2⟩:∃ o2,s2.heap.get? b=some o2:=by
   rcases hc with ⟨u,e⟩ | z
   ·exact U.there b u e (by simp)
   ·cases q:H' b with
    | none=>exact absurd q z
    | some v=>exact (J.hok b v q).here
  have:=keep b o2 h2 hc hn
  rw[h3b] at this
  cases this
  exact hB b o h2 hc (hns b hc hn)
theorem Inv.passes (I:Inv X pins σ H1 s1)(stk:X.stack=X.env::X.outer)(hf:X.env.frame=some X.env.locals)(hex:X.ex=[])(o:Out X.prog X.w X.stack H1 s1 C ea H' s2){M:Model}{E:Value→Shared→Prop}{Q:Unit→Shared→Prop}
  (q:∀ s3,Out X.prog X.w X.outer X.H₀ X.s₀ C ea H' s3→Q () s3):wpAny M X.A (leaving X.env (.ref ea)) Q E s2:=by
 have J:Inv X pins σ H' s2:=I.call' o.os o.un o.hok o.bare (fun b z=>absurd z (by simp))
 obtain⟨B,t,fl,hB⟩:=o.fly
 have hfr:=I.ok.frames
 rw[stk] at hfr fl
 refine wpAny_leaves_onW hfr hf fl fun h3 fl3 ups=>q _ (J.outOf stk hf hex o.free fl3 (fun b o' hb hc hn=>hB b o' hb ?_ hn) ups)
 refine hc.imp (fun ⟨u,e⟩=>?_) id
 exact I.base.there b u e (by rw[hex];simp)
end
section
variable {P:Program} {w:World} {K:FrQ} {mg:Str→Option Value} {base:Heap} {N:List Str} {qual:Str} {scope:Scope} {f:Addr} {cd:Value} {A:Around} {outer:List Env} {s:Shared} {H:Hp} {E:XK}
theorem pass_e:Passes (CXe P w) (cxOf (CXe P w) P w K mg base N qual scope f cd A outer s H E) E:=fun pins σ H1 s1 e s2 I h=>by
 obtain⟨ea,C,H',rfl,o,hE⟩:=h
 exact I.passes rfl rfl rfl o fun s3 o3=>⟨ea,C,H',rfl,o3,hE⟩
theorem own_e:PassesOwn (model P w) (cxOf (CXe P w) P w K mg base N qual scope f cd A outer s H E).A (cxOf (CXe P w) P w K mg base N qual scope f cd A outer s H E).env (cxOf (CXe P w) P w K mg base N qual scope f cd A outer s H E).xe:=PassesOwn.leaving
end
section
variable {X:Cx} {pins:List (Addr×Obj)} {σ:St} {H1:Hp} {s1:Shared} {C ea:Addr}
theorem Inv.raised (J:Inv X pins σ H1 s1)(stk:X.stack=X.env::X.outer)(hf:X.env.frame=some X.env.locals)(hex:X.ex=[]){h':Heap}{args:List Value}(hx:Heap.MadeExcOf s1.heap h' ea (.ref C) args){M:Model}{E:Value→Shared→Prop}{Q:Unit→Shared→Prop}
  (q:∀ s3,Out X.prog X.w X.outer X.H₀ X.s₀ C ea H1 s3→Q () s3):wpAny M X.A (leaving X.env (.ref ea)) Q E { s1 with heap:=h' }:=by
 have hfr:=J.ok.frames
 have hin:∀ env∈X.stack,∀ b,env.frame=some b→b∈frs X.stack:=fun env he b hb=>List.mem_filterMap.mpr ⟨env,he,hb⟩
 have hl:=PySem.W.funFrames_hide J.stack hin
 have he:H1 ea=none:=by
  cases z:H1 ea with
  | none=>rfl
  | some o=>
   obtain⟨u,hu⟩:=(J.hok ea o z).here
   rw[hx.new] at hu
   cases hu
 rw[stk] at hfr hl
 refine wpAny_leaves_madeW (base:=PySem.W.hideAll s1.heap (frs X.stack)) hfr hf (fun b o z=>PySem.W.of_hideAll _ z) (by rw[stk];exact hl) hx fun h3 t fl _ _ ups=>?_
 exact q _ (J.outOf stk hf hex he fl (fun b o hb _ hn=>PySem.W.hideAll_get _ hb hn) ((Heap.UpToSlots.of_keeps hx.keeps).trans ups))
end
def Raises (X:Cx)(E:XK):Prop:=∀ (pins:List (Addr×Obj)) (σ:St) (H:Hp) (s:Shared) (ea C:Addr) (args:List Value) (h':Heap),Inv X pins σ H s→Heap.MadeExcOf s.heap h' ea (.ref C) args→E (.ref ea) (some C) H→X.xe (.ref ea) { s with heap:=h' }
theorem raises_e {P:Program}{w:World}{K:FrQ}{mg:Str→Option Value}{base:Heap}{N:List Str}{qual:Str}{scope:Scope}{f:Addr}{cd:Value}{A:Around}{outer:List Env}{s:Shared}{H:Hp}{E:XK}:
  Raises (cxOf (CXe P w) P w K mg base N qual scope f cd A outer s H E) E:=fun pins σ H1 s1 ea C args h' I hx hE=>I.raised rfl rfl rfl hx fun s3 o=>⟨ea,C,H1,rfl,o,hE⟩
theorem exc_obj {K:FrQ}{h:Heap}{C:Addr}{bmB:List Value}{newId:String}(X:K.In h)(q:PySem.W.excIn K C bmB newId=true):∃ (bm:List Value) (N:Addr) (nm qn:Str) (bs:List Value) (hdct:Bool) (sn:List Str) (sub:List Value) (ab:Bool) (col:Option Bool) (dd:Option Addr) (k0 k1 k2 k3 k5:Option Value) (mN:Str→Option Value),
  h.get? C=some (excClassObj nm qn C N bs bm hdct sn sub ab col dd k0 k1 k2 k3 k5 newId)∧h.Ns N mN∧mN "__init__"=none∧OwnTail h bmB bm:=by
 rw[PySem.W.excIn.eq_1] at q
 split at q <;> try contradiction
 next dict data slots found=>
  split at q <;> try contradiction
  next D tail s0 s1 s2 s3 id s5 isMro isSlots=>
   rw[Bool.and_eq_true,Bool.and_eq_true,Bool.and_eq_true,Bool.and_eq_true,Bool.and_eq_true] at q
   obtain⟨⟨⟨⟨⟨c1,c2⟩,c3⟩,c4⟩,c5⟩,c6⟩:=q
   have c1:=eq_of_beq c1
   have c2:=eq_of_beq c2
   have c6:=eq_of_beq c6
   subst c1
   subst c2
   obtain⟨n1,b1,m1,ns1,q1,d1,l1,u1,a1,o1,e1⟩:=data
   have c3:e1=false:=by simpa using c3
   have isMro:m1=_:=isMro
   rw[isMro,c3] at found
   have es:slots=#[s0,s1,s2,s3,some (.builtin id),s5]:=by
    rw[← isSlots]
   rw[es] at found
   exact⟨tail,ns1,n1,q1,b1,d1,l1,u1,a1,o1,dict,s0,s1,s2,s3,s5,_,X _ _ found,.of_isNs (PySem.W.isNs_of_in X c5),PySem.W.nsMap_none_of_in X c5 c6,PySem.W.tail_of_in X c4⟩
def tRaise (C:Addr)(E:XK)(t:TA):TS:=fun _ σ H=>t σ H fun vs H1=>vs.length≤sizeLine∧∀ ea,H1 ea=none→E (.ref ea) (some C) H1
theorem ps_raise {X:Cx}{E:XK}{x:Str}{C:Addr}{bmB bmN:List Value}{B Bn newId nid initId inN:String}{np cpos pos:Pos}{e:Expr}{es:List Expr}{t:TA}(hx:Raises X E)(hc:X.calm=true)(hg:Gl X x)(hm:X.mg x=some (.ref C))(q:PySem.W.excIn X.K C bmB newId=true)
  (Fn:ExcBaseFacts Bn newId inN bmN) (hBn:bmB.contains (.type Bn)=true) (F:ExcBaseFacts B nid initId bmB) (ha:PA X (e::es) t) (hd:(x ==("__debug__":Str))=false:=by decide)
  (he:starEach (e::es) X.env=(false,eval e X.env)::starEach es X.env:=by rfl) (hpl:(backTo cpos (starEach es X.env)).any (·.1)=false:=by rfl):PS X (.Raise (some (.Call (.Name x np) (e::es) [] cpos)) none pos) (tRaise C E t):=by
 refine⟨?_⟩
 intro pins s σ H D I h
 obtain⟨v1,v2,v3,v4,v5,v6,v7,v8,v9,w1,w2,w3,w4,w5,w6,w7,mN,isC,isN,hni,TL⟩:=exc_obj I.mod.kin q
 refine wpAny_Raise_call_subU (bm:=v1) (N:=v2) (nm:=v3) (q:=v4) (bs:=v5) (hdct:=v6) (sn:=v7) (sub:=v8) (ab:=v9) (col:=w1) (dd:=w2) (k0:=w3) (k1:=w4) (k2:=w5) (k3:=w6) (k5:=w7) (C:=C) Fn hBn F (TL.hasType F.hasBase) (I.ok.hd hc) ?_ hni (ld_glob I hg hm ⟨rfl,?_⟩ hd)
 ·rw[he]
  show (false || (backTo cpos (starEach es X.env)).any (·.1))=false
  rw[hpl]
  rfl
 ·rw[he]
  have run:=ha cpos pins s σ H _ I h
  rw[he] at run
  refine Calls.evalArgs_plain (thn run fun us s1 z=>?_)
  ·obtain⟨vs,J,I1,r,hl,hE⟩:=z
   refine⟨rfl,by rw[← r.length];exact hl,I1.bk _ _ isC,isN.keeps I1.bk,TL.keeps I1.bk,fun h' ea hm=>hx pins σ J s1 ea C us h' I1 hm (hE ea ?_)⟩
   cases z:J ea with
   | none=>rfl
   | some o=>
    obtain⟨u,hu⟩:=(I1.hok ea o z).here
    rw[hm.new] at hu
    cases hu
structure DfnE (P:Program)(w:World)(K:FrQ)(mg:Str→Option Value)(base:Heap)(k:Nat)(x:Str)(ps:List Str)(sp:Sp):Prop where
 ex:∃ f fd,FnOk P w K mg base (CXe P w) k f fd ps sp∧Binds K fd ps []∧PySem.W.keepIn K (.ref f)=true∧mg x=some (.ref f)
section
variable {P:Program} {w:World} {K:FrQ} {mg:Str→Option Value} {base:Heap}
theorem Src.okE {x:Str}{st:Stmt}{N ps:List Str}{k:Nat}{sp:Sp}(F:Src K mg x st ps)(S:FnScope N ps (defScope st))(len:∀ vs H Q E,sp vs H Q E→vs.length=ps.length)
  (body:∀ (f:Addr) (cdv:Value) (A:Around) (outer:List Env) (s:Shared) (H:Hp) (vs:List V) (Q:VK) (E:XK),Room k (A.deeper (envOfC x (defScope st) s.heap.objs.size f cdv))→sp vs H Q E→
   ∃ t,PSs (cxOf (CXe P w) P w K mg base N x (defScope st) f cdv A outer s H E) (defBody st) t∧t { nx:=fun _ H'=>Q .non H',rt:=Q } (start N vs) H):DfnE P w K mg base (k+1) x ps sp:=by
 obtain⟨f,fd,G,B,M⟩:=F.ex
 have kp:=G.kp
 obtain⟨_,_,_,_,_,_,cdv,_,_,rfl,lk,hcd⟩:=G.ex
 exact⟨f,_,fn_of lk hcd S len (body f cdv),B,kp,M⟩
end
theorem pe_defE {X:Cx}{E:XK}{k n:Nat}{x:Str}{ps:List Str}{sp:Sp}{e:Expr}{es:List Expr}{t:TA}{p pos:Pos}(D:DfnE X.prog X.w X.K X.mg X.base k x ps sp)(hp:Passes (CXe X.prog X.w) X E)(hr:Room n X.A)(ha:PA X (e::es) t)(hle:k≤n:=by decide)(hg:Gl X x:=by rfl)
  (hdb:(x ==("__debug__":Str))=false:=by decide) (he:starEach (e::es) X.env=(false,eval e X.env)::starEach es X.env:=by rfl) (hpl:(backTo pos (starEach es X.env)).any (·.1)=false:=by rfl):
  PE X (.Call (.Name x p) (e::es) [] pos) (tCall sp [] E t):=by
 obtain⟨f,fd,F,B,kp,M⟩:=D.ex
 exact pe_call F (hr.mono hle) hg M kp B .nil hp ha hdb he hpl
end L2
set_option Elab.async false
set_option linter.all false
set_option maxRecDepth 100000
set_option maxHeartbeats 1000000
namespace L2
open PySem PySem.Spec PySem.W PyProof.Rows PySem.Calls PySem.Builtin PySem.Builtin.ObjectAttr PySem.Builtin.Getset_descriptor
def ExAt (a C:Addr)(h:Heap):Prop:=∃ o vs,h.get? a=some o∧o.cls=.ref C∧o.data=.fields vs
structure ExcK (K:FrQ)(C:Addr):Prop where
 ga:findIn K (.ref C) "__getattribute__"=some (some (.builtin "BaseException.__getattribute__"))
 no:findIn K (.ref C) "__getattr__"=some none
 at_:findIn K (.ref C) "__class__"=some (some (.builtin "object.__class__"))
 get:specialIn K (.builtin "object.__class__") "__get__"=some (some (.builtin "getset_descriptor.__get__"))
 tk:takesIn K (.builtin "object.__class__")=some true
 ob:mroIn K C (.type "object")=some true
 be:mroIn K C (.type "BaseException")=some true
section
variable {prog:Program} {w:World} {A:Around} {E:Value→Shared→Prop} {s:Shared} {K:FrQ} {x C:Addr}
theorem ExAt.type {M:Model}{h:Heap}(I:ExAt x C h):Looks M h (typeOf (.ref x)) (.ref C):=by
 obtain⟨o,vs,h1,h2,_⟩:=I
 exact h2 ▸ (Looks.ld h1).andThen .now
theorem exc_get {R:Result→Shared→Prop}{tp:Value}(X:K.In s.heap)(I:ExAt x C s.heap)(hm:mroIn K C (.type "object")=some true)
  (h:R (.ok (.ret (.ref C))) s):codeAny (model prog w) A (.call (.builtin "getset_descriptor.__get__") ⟨[.builtin "object.__class__",.ref x,tp],[]⟩) R s:=by
 obtain⟨hh,g,dr,t,os⟩:=s
 have L0:=I.type (M:=model prog w)
 have L1:=looks_mroIn (M:=model prog w) X hm
 refine codeAny_call_builtin KF.slot_gs.plain KF.entry_gs (KF.slot_gs.check _ _ _ _ _ _ _ _ KF.type_class (KF.args_gs _ _ _) ?_)
 unfold Builtin.«getset_descriptor.__get__» descrGet
 rw[dga_obj]
 refine wpAny_bind (wpAny_pure ?_)
 unfold descrGetter descrCheckInstance descrNameAndClass isInstance
 simp only[KF.owner_class]
 repeat lk
 refine⟨Code.quiet_builtin _ (by decide +kernel),codeAny_builtin KF.entry_class ?_⟩
 unfold Builtin.«object.__class__» shownTypeOf
 repeat lk
 exact h
theorem exc_find {M:Model}{h:Heap}(X:K.In h)(k:ExcK K C):Looks M h (find (.ref x) (.ref C) "__class__") (.bind (.builtin "getset_descriptor.__get__") (.builtin "object.__class__")):=by
 have L1:=looks_findIn (M:=M) X k.at_
 have L2:Looks M h (getOf (some (.builtin "object.__class__"))) (some (.builtin "getset_descriptor.__get__")):=looks_specialIn X k.get
 have L3:=looks_takesIn (M:=M) X k.tk
 exact L1.andThen (L2.andThen ((show Looks M h (dataDescriptor? (some (.builtin "object.__class__")) (some (.builtin "getset_descriptor.__get__"))) (some (.builtin "getset_descriptor.__get__",.builtin "object.__class__")) from L3.andThen .now).andThen (Looks.tag .now)))
theorem exc_check {M:Model}{nameV:Value}{Q:Unit→Shared→Prop}(X:K.In s.heap)(k:ExcK K C)(I:ExAt x C s.heap)(hq:Q () s):wpAny M A (checkBuiltinCall "BaseException.__getattribute__" ⟨[.ref x,nameV],[]⟩) Q E s:=by
 have hk:builtinKind "BaseException.__getattribute__"=some .slot:=by decide +kernel
 have hsplit:splitId "BaseException.__getattribute__"=some ("BaseException","__getattribute__"):=by decide +kernel
 have ha:=F.args_bexc_ga (.ref x) nameV
 have L0:=I.type (M:=M)
 have L1:=looks_mroIn (M:=M) X k.be
 obtain⟨hh,g,dr,t,os⟩:=s
 simp only[checkBuiltinCall,hk,hsplit]
 refine wpAny_bind ?_
 unfold isInstance
 repeat (first|lk|wp_step)
 exact hq
theorem exc_class {Q:Option Value→Shared→Prop}(X:K.In s.heap)(k:ExcK K C)(I:ExAt x C s.heap)(h:Q (some (.ref C)) { s with toks:=s.toks+1 }):wpAny (model prog w) A (getAttr? (.ref x) "__class__") Q E s:=by
 obtain⟨hh,g,d,t,os⟩:=s
 have L0:=I.type (M:=model prog w)
 have L1:=looks_findIn (M:=model prog w) X k.ga
 have L2:=looks_findIn (M:=model prog w) X k.no
 have LF:=exc_find (M:=model prog w) (x:=x) X k
 have f3:=F.excAttr_ValueError.ga.bind (.ref x)
 have hx2:(Value.builtin "BaseException.__getattribute__" == Value.builtin "object.__getattribute__")=false:=by decide +kernel
 have hx1:(onTheHeap (Value.ref C) && Value.builtin "BaseException.__getattribute__" == Value.builtin "object.__getattribute__")=false:=by rw[hx2];rfl
 unfold getAttr? getAttrBy? getAttrBy
 refine wpAny_bind (wpAny_mkText (wpAny_bind (wpAny_attempt (wpAny_holding (wpAny_bind (L0.at (wpAny_bind (L1.at ?_))))))))
 dsimp only
 rw[if_neg (by rw[hx1];decide)]
 unfold getAttrByItsOwn hookBefore
 rw[if_pos (show onTheHeap (Value.ref C)=true from rfl)]
 refine wpAny_bind (L2.at ?_)
 refine wpAny_bind (wpAny_attempt (wpAny_holding ?_))
 unfold callGetattribute
 rw[if_neg (by decide)]
 unfold boundAndCalled
 rw[f3]
 refine wpAny_bind (wpAny_pure ?_)
 refine wpAny_call (codeAny_call_builtin F.excAttr_ValueError.ga.plain F.entry_bexc_ga (exc_check (K:=K) (C:=C) X k I ?_))
 have f4:attrName (Value.str ("__class__":Str) t)=pure "__class__":=rfl
 have e0:slotArgs "__getattribute__" 1 ⟨[Value.ref x,.str "__class__" t],[]⟩=pure (.ref x,[.str "__class__" t]):=rfl
 unfold Builtin.«object.__getattribute__»
 show wpAny _ _ (slotArgs "__getattribute__" 1 ⟨[Value.ref x,.str "__class__" t],[]⟩ >>= _) _ _ _
 rw[e0]
 refine wpAny_bind (wpAny_pure ?_)
 dsimp only
 rw[f4]
 refine wpAny_bind (wpAny_pure (wpAny_bind (L0.at (wpAny_bind (LF.at ?_)))))
 dsimp only
 unfold bindTo
 dsimp only
 refine wpAny_bind (wpAny_holding (wpAny_call (exc_get (K:=K) (C:=C) X I k.ob ?_)))
 refine wpAny_pure ?_
 exact handed_on rfl (wpAny_pure h)
end
section
variable {K:FrQ}
theorem kitx_exc {x C:Addr}(k:ExcK K C):KitX K (.ref x) (.ref C) (ExAt x C) where
 ty:=fun _ _ _ I=>I.type
 it:=fun _ _ X _=>by
  obtain⟨cd,hcD,_⟩:=Option.bind_eq_some_iff.mp k.ob
  unfold clsIn at hcD
  split at hcD
  ·rename_i c' d' cd' sl' ho
   intro A' Q' E' s' k q
   unfold isType loadHead
   exact wpAny_bind (wpAny_loadPart (k _ _ (X _ _ ho)) (wpAny_pure q))
  ·cases hcD
 ne:=fun h tp dd its n sl X htp=>by
  obtain⟨cd,hcD,_⟩:=Option.bind_eq_some_iff.mp k.ob
  refine Bool.eq_false_iff.mpr fun q=>?_
  have e:C=tp:=Value.ref.inj (beq_iff_eq.mp q)
  subst e
  unfold clsIn at hcD
  split at hcD
  ·rename_i c' d' cd' sl' ho
   have z:=(X _ _ ho).symm.trans htp
   cases z
  ·cases hcD
 ca:=fun X I q=>exc_class X k I q
end
inductive Ksi (K:FrQ)(H:Hp)(C:Addr):V→Bool→Prop where
 | ty {T:String} {b:Bool} (h:kitOne K (.ref C) (.type T)=some b):Ksi K H C (.ty T) b
 | own {D:Addr} {b:Bool} (h:kitOne K (.ref C) (.ref D)=some b):Ksi K H C (.ref D) b
 | tup {a:Addr} {cs:List Addr} {b:Bool} (e:H a=some (.tup (cs.map V.ref))) (h:kitAny K (.ref C) (cs.map Value.ref)=some b):Ksi K H C (.ref a) b
theorem vals_refs:∀ {cs:List Addr} {us:List Value},Vals (cs.map V.ref) us→us=cs.map Value.ref
 | [],_,r=>by cases r;rfl
 | c::cs,_,r=>by
  cases r with
  | cons r1 r2=>
   cases (show _=Value.ref c from r1)
   rw[vals_refs r2]
   rfl
def rIsiE (K:FrQ):List V→Hp→VK→Prop:=fun xs H Q=>∃ a C c b,xs=[.ref a,c]∧H a=some (.ext (ExAt a C))∧ExcK K C∧Ksi K H C c b∧Q (.bl b) H
section
variable {X:Cx}
theorem call_isiE:CallR X (.builtin "isinstance") (rIsiE X.K):=by
 intro pins s σ H xs us Q I rv h
 obtain⟨a,C,c,b,rfl,ha,k,kb,q⟩:=h
 obtain⟨u,w',rfl,rx,rt⟩:=vals2 rv
 cases (show u=Value.ref a from rx)
 have fin:∀ tk,EP X pins σ Q (.bool b) { s with toks:=tk }:=fun tk=>⟨.bl b,H,I.tok tk,rfl,q⟩
 have hE:ExAt a C s.heap:=(I.hok a _ ha).1
 cases kb with
 | ty h=>cases (show w'=Value.type _ from rt);exact kia_one (kitx_exc k) I.kIn hE h (fun z=>nomatch z) fin
 | own h=>cases (show w'=Value.ref _ from rt);exact kia_one (kitx_exc k) I.kIn hE h (fun z=>nomatch z) fin
 | tup e h=>
  cases (show w'=Value.ref _ from rt)
  obtain⟨its,r,tt,_⟩:=I.tuple (SqT.of e)
  have er:=vals_refs r
  subst er
  obtain⟨o,h1,h2,h3⟩:=tt
  obtain⟨oc,od,oda,osl⟩:=o
  dsimp only at h2 h3
  subst h2
  obtain⟨n,h3⟩:=h3
  subst h3
  exact kia_tup (kitx_exc k) I.kIn hE h1 h (fun z=>nomatch z) fin
theorem callK_isiE {K:FrQ}(h:X.K=K):CallR X (.builtin "isinstance") (rIsiE K):=by subst h;exact call_isiE
end
section
variable {X:Cx} {pins:List (Addr×Obj)} {σ:St} {H1 H':Hp} {s1 s2:Shared} {C ea:Addr}
theorem Inv.caught (I:Inv X pins σ H1 s1)(o:Out X.prog X.w X.stack H1 s1 C ea H' s2):∃ (B:Heap) (t:Addr),Heap.FlyingW B X.stack ea (.ref C) (.ref t) s2.heap∧
  ∀ h5,Heap.FlyingW B X.stack ea (.ref C) (.ref t) h5→s2.heap.UpToSlots h5→Inv X pins σ (upd H' ea (.ext (ExAt ea C))) { s2 with heap:=h5 }:=by
 obtain⟨B,t,fl,hB⟩:=o.fly
 refine⟨B,t,fl,fun h5 f5 ups=>?_⟩
 have nofr:ea ∉ frs X.stack:=fun hb=>by
  obtain⟨_,o',ho',hd⟩:=f5.2.2.1.mem hb
  obtain⟨oe,vs,he,_,hdd,_⟩:=f5.first
  rw[he] at ho'
  cases ho'
  exact hd vs hdd
 have fresh:∀ u,s1.heap.get? ea≠some u:=fun u z=>by
  obtain⟨o2,h2⟩:=o.un.there ea u z (by simp)
  have:=hB ea o2 h2 (.inl ⟨_,z⟩) nofr
  rw[f5.2.1] at this
  cases this
 have keep:∀ b u,s2.heap.get? b=some u→((∃ u,s1.heap.get? b=some u)∨H' b≠none)→b ∉ frs X.stack→h5.get? b=some u:=fun b u hb hc hn=>f5.1 _ _ (hB b u hb hc hn)
 have slot:∀ b o',s1.heap.get? b=some o'→H1 b=none→b∈frs X.stack→∃ sl,h5.get? b=some { o' with slots:=sl }:=fun b o' e n hb=>by
  obtain⟨sl,h2⟩:=o.un.slot b o' e n hb (by simp)
  obtain⟨_,oo,ho',hd⟩:=I.stack.mem hb
  rw[e] at ho'
  cases ho'
  obtain⟨sl',h4⟩:=ups b _ h2 hd
  exact⟨sl',h4⟩
 have ne:∀ b o',H' b=some o'→b≠ea:=fun b o' z w=>by rw[w,o.free] at z;cases z
 refine I.call' (s':={ s2 with heap:=h5 }) o.os ⟨fun b o' e n hb hx=>keep b o' (o.un.keep b o' e n hb hx) (.inl ⟨_,e⟩) hb,fun b o' e n hb hx=>slot b o' e n hb,fun b o' e n hx=>?_,fun b o' e hx=>?_,fun b xs z=>?_,fun b o' u z=>?_,fun b ps z=>?_⟩ (fun a u ha=>?_) o.bare (fun b z=>absurd z (by simp))
 ·have:b≠ea:=fun z=>fresh o' (z ▸ e)
  rw[upd_ne this]
  exact o.un.free b o' e n hx
 ·by_cases hb:b∈frs X.stack
  ·obtain⟨sl,z⟩:=slot b o' e (I.stkFree b hb) hb
   exact⟨_,z⟩
  ·obtain⟨o2,z⟩:=o.un.there b o' e hx
   exact⟨_,keep b o2 z (.inl ⟨_,e⟩) hb⟩
 ·have:=o.un.tups b xs z
  rw[upd_ne (ne b _ this)];exact this
 ·have:=o.un.frzs b o' u z
  rw[upd_ne (ne b _ this)];exact this
 ·obtain⟨m,this⟩:=o.un.tbls b ps z
  exact⟨m,by rw[upd_ne (ne b _ this)];exact this⟩
 ·by_cases c:a=ea
  ·subst c
   rw[upd_same] at ha
   cases ha
   obtain⟨oe,vs,he,hc,hdd,_⟩:=f5.first
   refine⟨⟨oe,vs,he,hc,hdd⟩,⟨_,he⟩,fun h1 h2 z k=>?_⟩
   obtain⟨o1,v1,z1,z2,z3⟩:=z
   exact⟨o1,v1,k _ z1,z2,z3⟩
  ·rw[upd_ne c] at ha
   have tr:∀ b,(b=a∨H' b=some (.own a))→H' b≠none:=fun b hb=>by
    rcases hb with z | z
    ·rw[z,ha];simp
    ·rw[z];simp
   refine (o.hok a u ha).stay (fun b v hb hv=>?_) (fun b z=>by rw[upd_ne (ne b _ z)];exact z) fun b xs z=>by rw[upd_ne (ne b _ z)];exact z
   refine keep b v hv (.inr (tr b hb)) fun hm=>tr b hb ?_
   obtain⟨_,o',ho',hd⟩:=I.stack.mem hm
   exact o.un.free b o' ho' (I.stkFree b hm) (by simp)
end
abbrev Cx.bears (X:Cx)(pn:List (Addr×Obj)):Cx:={ X with pn:=pn }
abbrev Cx.inTry (X:Cx)(pn:List (Addr×Obj))(E:XK):Cx:=(X.bears pn).wish fun e s'=>∃ pins σ H1 s1,Inv (X.bears pn) pins σ H1 s1∧CXe X.prog X.w X.stack H1 s1 E e s'
abbrev Cx.inExc (X:Cx)(ea:Addr):Cx:={ X with A:=X.A.mark (some (.ref ea)),calm:=false,xe:=fun _ _=>False }
section
variable {X:Cx} {pins pn:List (Addr×Obj)} {σ:St} {H:Hp} {s:Shared} {ea:Addr}
theorem Cx.Ok.bears (ok:X.Ok)(pn:List (Addr×Obj)):(X.bears pn).Ok:=
 ⟨ok.mod,ok.kind,ok.glob,ok.blt,ok.above,ok.inj,ok.has,ok.cab,ok.hd,ok.frames,ok.stk,ok.exf,ok.bs,ok.bsz,ok.noex,ok.exfs,ok.funs,ok.frf⟩
theorem Cx.Ok.unbears (ok:(X.bears pn).Ok):X.Ok:=
 ⟨ok.mod,ok.kind,ok.glob,ok.blt,ok.above,ok.inj,ok.has,ok.cab,ok.hd,ok.frames,ok.stk,ok.exf,ok.bs,ok.bsz,ok.noex,ok.exfs,ok.funs,ok.frf⟩
theorem Inv.bears (I:Inv X pins σ H s):Inv (X.bears (X.pn++pins)) [] σ H s:=⟨I.ok.bears _,I.os,I.bare,I.base,I.loc,I.cell,I.free,I.freeC,fun p hp=>I.pin p (by rw[List.append_nil] at hp;exact hp),I.hok,I.len⟩
theorem Inv.unbears {pl:List (Addr×Obj)}(I:Inv (X.bears (X.pn++pins)) pl σ H s):Inv X pins σ H s:=⟨I.ok.unbears,I.os,I.bare,I.base,I.loc,I.cell,I.free,I.freeC,fun p hp=>I.pin p (List.mem_append_left _ hp),I.hok,I.len⟩
theorem SP.unbears {D:Ends}{f:Flow}(h:SP (X.bears (X.pn++pins)) [] D f s):SP X pins D f s:=by
 cases f with
 | next=>obtain⟨σ',H',I,q⟩:=h;exact⟨σ',H',I.unbears,q⟩
 | brk=>obtain⟨σ',H',I,q⟩:=h;exact⟨σ',H',I.unbears,q⟩
 | cont=>obtain⟨σ',H',I,q⟩:=h;exact⟨σ',H',I.unbears,q⟩
 | ret u=>obtain⟨v,σ',H',I,r,q⟩:=h;exact⟨v,σ',H',I.unbears,r,q⟩
theorem Cx.Ok.inExc (ok:X.Ok)(ea:Addr):(X.inExc ea).Ok:=
 ⟨ok.mod,ok.kind,ok.glob,ok.blt,ok.above,ok.inj,ok.has,ok.cab,(fun z=>nomatch z),ok.frames,ok.stk,ok.exf,ok.bs,ok.bsz,ok.noex,ok.exfs,ok.funs,ok.frf⟩
theorem Inv.inExc (I:Inv X pins σ H s)(ea:Addr):Inv (X.inExc ea) pins σ H s:=⟨I.ok.inExc ea,I.os,I.bare,I.base,I.loc,I.cell,I.free,I.freeC,I.pin,I.hok,I.len⟩
theorem Inv.outExc (ok:X.Ok)(I:Inv (X.inExc ea) pins σ H s):Inv X pins σ H s:=⟨ok,I.os,I.bare,I.base,I.loc,I.cell,I.free,I.freeC,I.pin,I.hok,I.len⟩
theorem pass_try {E:XK}:Passes (CXe X.prog X.w) (X.inTry pn E) E:=fun pins σ H s e s' I h=>⟨pins,σ,H,s,I.unwish,h⟩
theorem Inv.forgot (I:Inv X pins σ H s){h':Heap}{m':Str→Option Value}{t':Nat}(hn:h'.Ns X.env.locals m')(hs:Heap.SameBut X.env.locals s.heap h'):Inv X pins (List.replicate X.N.length none) H { s with heap:=h',toks:=t' }:=by
 have ne:∀ b o,X.s₀.heap.get? b=some o→b≠X.env.locals:=fun b o e=>Nat.ne_of_lt (Nat.lt_of_lt_of_le (Heap.lt_size e) I.ok.above)
 refine⟨I.ok,I.os,I.bare,⟨fun b o e n hb hx=>(hs.2 b (ne b o e)).trans (I.base.keep b o e n hb hx),fun b o e n hb hx=>?_,I.base.free,fun b o e hx=>?_,I.base.tups,I.base.frzs,I.base.tbls⟩,⟨m',hn,fun i x v e1 e2 e3=>?_⟩,fun x c e=>?_,I.free,I.freeC,fun p hp=>?_,fun b ob e=>?_,by rw[List.length_replicate]⟩
 ·obtain⟨sl,z⟩:=I.base.slot b o e n hb hx
  exact⟨sl,(hs.2 b (ne b o e)).trans z⟩
 ·obtain⟨o',z⟩:=I.base.there b o e hx
  exact⟨o',(hs.2 b (ne b o e)).trans z⟩
 ·rw[List.getElem?_replicate] at e2
  split at e2 <;> cases e2
 ·obtain⟨v,z⟩:=I.cell x c e
  exact⟨v,z.sameBut hs (I.cne x c e)⟩
 ·obtain⟨z1,z2,z3,z4,z5⟩:=I.pin p hp
  exact⟨(hs.2 _ z3).trans z1,z2,z3,z4,z5⟩
 ·refine (I.hok b ob e).stay (fun c w' hc q=>(hs.2 c ?_).trans q) (fun _ q=>q) fun _ _ q=>q
  rintro rfl
  rcases hc with z | z
  ·rw[← z,I.free] at e;cases e
  ·rw[I.free] at z;cases z
end
def tTry (K:FrQ)(i len:Nat)(D:Addr)(tb:XK→TS)(ts:TS):TS:=fun Dn σ H=>tb (fun e C H'=>∃ c,C=some c∧exmOne K (.ref c) (.ref D)=some true∧∀ (ea:Addr) (σ':St),e=.ref ea→H' ea=none→σ'.length=len→
 ts { nx:=fun _ H2=>Dn.nx (List.replicate len none) H2,rt:=Dn.rt,bk:=fun _ H2=>Dn.bk (List.replicate len none) H2,ct:=fun _ H2=>Dn.ct (List.replicate len none) H2 } (σ'.set i (some (.ref ea))) (upd H' ea (.ext (ExAt ea c)))) Dn σ H
theorem ps_try {X:Cx}{i:Nat}{n x:Str}{D:Addr}{body suite:List Stmt}{b₀:Stmt}{tb:XK→TS}{ts:TS}{np hpos pos:Pos}(hf:X.stack=X.env::X.outer∧X.env.frame=some X.env.locals)(hN:X.N.Nodup)(hi:X.N[i]?=some n)(hl:X.env.kindOf n=some .local)
  (hg:Gl X x) (hm:X.mg x=some (.ref D)) (hb:∀ pn E,PSs (X.inTry pn E) body (tb E)) (hs:∀ ea,PSs (X.inExc ea) (b₀::suite) ts) (hd:(x ==("__debug__":Str))=false:=by decide):
  PS X (.Try body [.ExceptHandler (some (.Name x np)) (some n) (b₀::suite) hpos] [] [] pos) (tTry X.K i X.N.length D tb ts):=by
 refine⟨?_⟩
 intro pins s σ H Dn I h
 refine wpAny_Try_except (wpAny_mono ((hb (X.pn++pins) _).1 [] s σ H Dn (I.bears.wish _) h) (fun f s1 q=>?_) fun e s2 q=>?_)
 ·have q:=q.unwish.unbears
  cases f with
  | next=>exact wpAny_execs_nil q
  | brk=>exact q
  | cont=>exact q
  | ret u=>exact q
 ·obtain⟨pl,σ1,H1,s1,I1,ea,C,H',rfl,o,c,hc,hx,hts⟩:=q
  cases hc
  have I1:=I1.unbears
  obtain⟨B,t,fl,nxt⟩:=I1.caught o
  have hfr:=I1.ok.frames
  rw[hf.1] at hfr fl nxt
  refine wpAny_looks_onW hfr hf.2 fl fun h3 held3 u3=>?_
  refine wpAny_landsW held3 fun h4 f4 u4=>?_
  have J4:=(nxt h4 f4 (u3.trans u4)).inExc ea
  refine wpAny_handleBy_cons (codeAny_handlers_test (ld_glob (X:=X.inExc ea) J4 hg hm ?_ hd)) (by intro q;cases q)
  have hE4:ExAt ea C h4:=(J4.hok ea _ upd_same).1
  refine (exm_one (K:=X.K) J4.kIn hE4.type hx).at ?_
  refine codeAny_handlers_suite_as ?_
  refine lands_againW f4 fun h5 f5 u5=>?_
  have J5:=(nxt h5 f5 ((u3.trans u4).trans u5)).inExc ea
  refine store_ok (X:=X.inExc ea) J5 hN hi (.inl hl) (v:=.ref ea) rfl (fun s6 I6=>?_) (.inr hl)
  refine wpAny_mono ((hs ea).1 pins s6 _ _ _ I6 (hts ea σ1 rfl o.free I1.len)) (fun f s7 q=>?_) fun _ _ z=>False.elim z
  have hcls:(X.env.scope.kind == .class || (X.env.scope.kind == .module && X.env.locals != X.env.globals))=false:=by rw[I.ok.kind];rfl
  have gone:∀ σ' H2,Inv (X.inExc ea) pins σ' H2 s7→∀ Q:Unit→Shared→Prop,(∀ s8,Inv X pins (List.replicate X.N.length none) H2 s8→Q () s8)→wpAny (model X.prog X.w) X.A (do bindName X.env n .none;unbindBehindTheSuite X.env n hpos) Q X.xe s7:=fun σ' H2 I7 Q k=>by
   obtain⟨m,hn,_⟩:=id I7.loc
   exact wpAny_nameGoes hl hn hcls fun h' m' hn' hs'=>k _ ((I7.outExc I.ok).forgot hn' hs')
  cases f with
  | next=>obtain⟨σ',H2,I7,z⟩:=q;exact gone _ _ I7 _ fun s8 I8=>⟨_,_,I8,z⟩
  | brk=>obtain⟨σ',H2,I7,z⟩:=q;exact gone _ _ I7 _ fun s8 I8=>⟨_,_,I8,z⟩
  | cont=>obtain⟨σ',H2,I7,z⟩:=q;exact gone _ _ I7 _ fun s8 I8=>⟨_,_,I8,z⟩
  | ret u=>obtain⟨v,σ',H2,I7,r,z⟩:=q;exact gone _ _ I7 _ fun s8 I8=>⟨v,_,_,I8,r,z⟩
section
variable {K:FrQ} {N C:Addr} {b:Bool}
theorem cls_of (hm:mroIn K C (.type "object")=some true):(clsIn K C).isSome=true:=by
 obtain⟨cd,hcD,_⟩:=Option.bind_eq_some_iff.mp hm
 rw[hcD];rfl
theorem kit_cl (hm:mroIn K C (.type "object")=some true)(ht:typeIn K (.ref C)=some (.type "type"))(hs:subIn K (.ref N) (.ref C)=some b):kitCls K (.ref N) (.ref C)=some b:=by
 show (if ((clsIn K C).isSome && typeIn K (.ref C) == some (.type "type"))=true then subIn K (.ref N) (.ref C) else none)=some b
 rw[cls_of hm,ht,if_pos (by simp),hs]
theorem kit_no (hN:subIn K (.ref N) (.ref N)=some true)(hm:mroIn K C (.type "object")=some true)(ht:typeIn K (.ref C)=some (.type "type"))(hs:subIn K (.ref N) (.ref C)=some false):kitOne K (.ref N) (.ref C)=some false:=by
 unfold kitOne
 rw[if_neg (fun z=>by
  have e:N=C:=Value.ref.inj (beq_iff_eq.mp z)
  rw[← e,hN] at hs
  cases hs)]
 exact kit_cl hm ht hs
theorem kit_ty {T:String}(hk:kitMeta T=true)(hs:subIn K (.ref N) (.type T)=some b):kitOne K (.ref N) (.type T)=some b:=by
 unfold kitOne
 rw[if_neg (fun z=>by have:=beq_iff_eq.mp z;cases this)]
 show (if kitMeta T=true then subIn K (.ref N) (.type T) else none)=some b
 rw[if_pos hk,hs]
theorem kitAny_no {r:List Value}(h:kitOne K (.ref N) (.ref C)=some false)(hr:kitAny K (.ref N) r=some false):kitAny K (.ref N) (.ref C::r)=some false:=by
 unfold kitAny
 rw[h]
 exact hr
theorem exm_yes (hm:mroIn K C (.type "object")=some true)(ht:typeIn K (.ref C)=some (.type "type"))(hb:subIn K (.ref C) (.type "BaseException")=some true)(hs:subIn K (.ref N) (.ref C)=some true):exmOne K (.ref N) (.ref C)=some true:=by
 unfold exmOne
 rw[hb,if_pos (by simp)]
 exact kit_cl hm ht hs
end
end L2
set_option Elab.async false
set_option linter.all false
set_option maxRecDepth 100000
namespace L2
open PySem PySem.Spec PySem.W PyProof.Rows
theorem pass_no {X:Cx}:Passes (CXe X.prog X.w) X (fun _ _ _=>False):=fun pins σ H s e s' I h=>by
 obtain⟨ea,C,H',_,o,hE⟩:=h
 exact hE.elim
structure MakerE (P:Program)(w:World)(K:FrQ)(mg:Str→Option Value)(base:Heap)(k:Nat)(x:Str)(C:Addr)(ps:List Str)(sp:Sp):Prop where
 ex:∃ f fd,Mk K C f∧Binds K fd ps []∧FnOk P w K mg base (CXe P w) k f fd ps sp∧mg x=some (.ref C)
theorem MakerE.imp {P:Program}{w:World}{K:FrQ}{mg:Str→Option Value}{base:Heap}{k:Nat}{x:Str}{C:Addr}{ps:List Str}{sp sp':Sp}(M:MakerE P w K mg base k x C ps sp)(h:∀ vs H Q E,sp' vs H Q E→sp vs H Q E):MakerE P w K mg base k x C ps sp':=by
 obtain⟨f,fd,a,b,c,d⟩:=M.ex
 exact⟨f,fd,a,b,c.imp h,d⟩
section
variable {X:Cx} {E:XK} {k n:Nat} {C:Addr} {x:Str} {ps:List Str} {sp:Sp} {p pos:Pos} {e:Expr} {es:List Expr} {t:TA}
theorem pe_mkrE (M:MakerE X.prog X.w X.K X.mg X.base k x C ps sp)(hp:Passes (CXe X.prog X.w) X E)(hr:Room n X.A)(ha:PA X (e::es) t)(hle:k+1≤n:=by first|decide|omega)(hg:Gl X x:=by rfl)(hdb:(x ==("__debug__":Str))=false:=by decide)
  (he:starEach (e::es) X.env=(false,eval e X.env)::starEach es X.env:=by rfl) (hpl:(backTo pos (starEach es X.env)).any (·.1)=false:=by rfl):
  PE X (.Call (.Name x p) (e::es) [] pos) (tMake C sp [] E t):=by
 obtain⟨f,fd,mk,b,F,hm⟩:=M.ex
 exact pe_make mk F (hr.mono hle) hg hm b .nil hp ha hdb he hpl
end
section
variable {P:Program} {w:World} {K:FrQ} {mg:Str→Option Value} {base:Heap}
theorem Fun.okE {x qual:Str}{st:Stmt}{f:Addr}{fd:FuncData}{N ps:List Str}{k:Nat}{sp:Sp}(F:Fun K x qual st f fd)(S:FnScope N ps (defScope st))(len:∀ vs H Q E,sp vs H Q E→vs.length=ps.length)
  (hbody:∀ (cdv:Value) (A:Around) (outer:List Env) (s:Shared) (H:Hp) (vs:List V) (Q:VK) (E:XK),Room k (A.deeper (envOfC qual (defScope st) s.heap.objs.size f cdv))→sp vs H Q E→
   ∃ t,PSs (cxOf (CXe P w) P w K mg base N qual (defScope st) f cdv A outer s H E) (defBody st) t∧t { nx:=fun _ H'=>Q .non H',rt:=Q } (start N vs) H):FnOk P w K mg base (CXe P w) (k+1) f fd ps sp:=by
 obtain⟨oc,od,kV,doc,pm,an,cdv,ct,osl,rfl,lk,hcd⟩:=F.ex
 exact fn_of lk hcd S len fun A outer s H vs Q E hr hsp=>hbody cdv A outer s H vs Q E hr hsp
end
end L2
set_option Elab.async false
set_option linter.all false
set_option maxRecDepth 100000
namespace L2
open PySem PySem.Spec PySem.W PyProof.Rows
section
variable {X:Cx}
def sNo:TS:=fun _ _ _=>False
theorem ps_no {st:Stmt}:PS X st sNo:=⟨fun _ _ _ _ _ _ h=>h.elim⟩
inductive PEs (X:Cx):List Expr→List TE→Prop
 | nil:PEs X [] []
 | cons {e:Expr} {es:List Expr} {t:TE} {ts:List TE}:PE X e t→PEs X es ts→PEs X (e::es) (t::ts)
end
end L2
set_option Elab.async false
set_option linter.all false
set_option maxRecDepth 100000
namespace L2
open PySem PySem.Spec PyProof.Rows Alg
section
variable {X:Cx}
end
theorem nodict_toD:∀ {n:Nat} {e:El},FlE n e→(toD e).hasDict=false:=by
 intro n e h
 induction h with
 | num i=>rfl
 | @vec n l _ _ ih=>
  show PyData.hasDict (.list (toDs l))=false
  simp only[PyData.hasDict]
  have:∀ l:List El,(∀ e∈l,(toD e).hasDict=false)→PyData.hasDictAll (toDs l)=false:=fun l=>by
   induction l with
   | nil=>intro _;rfl
   | cons e l ih2=>
    intro h
    show ((toD e).hasDict || PyData.hasDictAll (toDs l))=false
    rw[h e List.mem_cons_self,ih2 fun x hx=>h x (List.mem_cons_of_mem _ hx)];rfl
  exact this l ih
theorem depth_toD:∀ {n:Nat} {e:El},FlE n e→(toD e).depth≤n+1:=by
 intro n e h
 induction h with
 | num i=>simp[toD,PyData.depth]
 | @vec n l _ _ ih=>
  show PyData.depth (.list (toDs l))≤n+1+1
  simp only[PyData.depth]
  have:∀ l:List El,(∀ e∈l,(toD e).depth≤n+1)→PyData.depthAll (toDs l)≤n+1:=fun l=>by
   induction l with
   | nil=>intro _;show PyData.depthAll []≤_;simp[PyData.depthAll]
   | cons e l ih2=>
    intro h
    show PyData.depthAll (toD e::toDs l)≤_
    have h1:=h e List.mem_cons_self
    have h2:=ih2 fun x hx=>h x (List.mem_cons_of_mem _ hx)
    simp only[PyData.depthAll]
    omega
  have:=this l ih
  omega
inductive Sm:Nat→El→Prop where
 | num {n:Nat} (i:Int):0≤i→i<100→2≤n→Sm n (.num i)
 | vec {n m:Nat} {l:List El}:(∀ e∈l,Sm n e)→l.length*(n+2)+2≤m→Sm m (.vec l)
theorem Sm.showable {n:Nat}{e:El}(h:Sm n e):(toD e).showable=true:=by
 induction h with
 | num i h0 h1 _=>
  show PyData.showable (.int i)=true
  simp only[PyData.showable]
  refine decide_eq_true ?_
  have:i.natAbs<2 ^ 7:=by omega
  rcases Nat.eq_zero_or_pos i.natAbs with z | z
  ·rw[z];decide
  ·have:=(Nat.log2_lt (by omega)).mpr this
   omega
 | @vec n m l _ _ ih=>
  show PyData.showable (.list (toDs l))=true
  simp only[PyData.showable]
  have:∀ l:List El,(∀ e∈l,(toD e).showable=true)→PyData.showableAll (toDs l)=true:=fun l=>by
   induction l with
   | nil=>intro _;rfl
   | cons e l ih2=>
    intro h
    show ((toD e).showable && PyData.showableAll (toDs l))=true
    rw[h e List.mem_cons_self,ih2 fun x hx=>h x (List.mem_cons_of_mem _ hx)];rfl
  exact this l ih
theorem listText_len:∀ ts:List Str,(listText ts).length≤piled ts+2
 | []=>by
  show (textFrom 0 "[" []++"]").length≤_
  rw[strLen_append]
  show 1+1≤_
  rw[piled_nil];omega
 | t::r=>by
  have h:=textFrom_length_pos r 1 (("[":Str)++(if (0:Nat) > 0 then ", " else "":String)++t) (Nat.succ_pos 0)
  have e:((("[":Str)++(if (0:Nat) > 0 then ", " else "":String)++t)).length=1+t.length:=by
   rw[strLen_append,strLen_append];rfl
  have hX:(listText (t::r)).length=(textFrom 0 "[" (t::r)).length+1:=by
   show (textFrom 0 "[" (t::r)++"]").length=_
   rw[strLen_append];rfl
  have hY:(textFrom 0 "[" (t::r)).length=(textFrom 1 (("[":Str)++(if (0:Nat) > 0 then ", " else "":String)++t) r).length:=rfl
  rw[hX,hY,h,e,piled_cons];omega
theorem digits2:∀ i:Nat,i<100→(Str.ofString (toString (i:Int))).length≤2:=by
 have h:((List.range 100).all fun i=>decide ((Str.ofString (toString (i:Int))).length≤2))=true:=by decide +kernel
 intro i hi
 rw[List.all_eq_true] at h
 exact of_decide_eq_true (h i (List.mem_range.mpr hi))
theorem Sm.len {n:Nat}{e:El}(h:Sm n e):(toD e).shown.length≤n:=by
 induction h with
 | num i h0 h1 h2=>
  obtain⟨k,rfl⟩:=Int.eq_ofNat_of_zero_le h0
  have:=digits2 k (by omega)
  show (PyData.shown (.int _)).length≤_
  simp only[PyData.shown]
  exact Nat.le_trans this h2
 | @vec n m l _ hm ih=>
  show (PyData.shown (.list (toDs l))).length≤_
  simp only[PyData.shown]
  have:∀ l:List El,(∀ e∈l,(toD e).shown.length≤n)→piled (PyData.shownAll (toDs l))≤l.length*(n+2):=fun l=>by
   induction l with
   | nil=>intro _;show piled []≤_;rw[piled_nil];omega
   | cons e l ih2=>
    intro h
    show piled ((toD e).shown::PyData.shownAll (toDs l))≤_
    rw[piled_cons,List.length_cons,Nat.succ_mul]
    have h1:=h e List.mem_cons_self
    have h2:=ih2 fun x hx=>h x (List.mem_cons_of_mem _ hx)
    omega
  have h1:=listText_len (PyData.shownAll (toDs l))
  have h2:=this l ih
  omega
def wdt:List Nat→Nat
 | ws=>ws.foldl (fun n m=>m*(n+2)+2) 2
theorem Wd.sm {T:Twr}{ws:List Nat}(h:Wd T ws):∀ x:T.α,Sm (wdt ws) (T.enc x):=by
 induction h with
 | @gr p hp=>
  intro x
  have h:=(show Zp p from x).lt
  have pp:=(pr_pos hp).2
  exact .num _ (Int.natCast_nonneg _) (Int.ofNat_lt.mpr (show _<100 from Nat.lt_trans h (Nat.lt_trans pp (by decide)))) (Nat.le_refl _)
 | @up T ws M al hn w ih=>
  intro x
  refine .vec (n:=wdt ws) (fun e he=>?_) ?_
  ·obtain⟨i,_,rfl⟩:=List.mem_map.mp he
   exact ih _
  ·rw[List.length_map,List.length_range]
   show _≤(ws++[M.n]).foldl (fun n m=>m*(n+2)+2) 2
   rw[List.foldl_append]
   exact Nat.le_refl _
theorem Wd.deg {T:Twr}{ws:List Nat}(h:Wd T ws):wdt ws≤T.d*(2+4*ws.length):=by
 induction h with
 | gr hp=>show 2≤1*_;omega
 | @up T ws M al hn w ih=>
  have hp:=M.pos
  have e:wdt (ws++[M.n])=M.n*(wdt ws+2)+2:=by
   show (ws++[M.n]).foldl (fun n m=>m*(n+2)+2) 2=_
   rw[List.foldl_append];rfl
  rw[e,List.length_append]
  show _≤T.d*M.n*(2+4*(ws.length+1))
  have d1:1≤T.d:=by
   have h2:2≤wdt ws:=by
    clear ih e
    have:∀ (l:List Nat) (a:Nat),2≤a→2≤l.foldl (fun n m=>m*(n+2)+2) a:=fun l=>by
     induction l with
     | nil=>intro a h;exact h
     | cons x l ih=>intro a h;exact ih _ (by show 2≤x*(a+2)+2;omega)
    exact this ws 2 (by omega)
   rcases Nat.eq_zero_or_pos T.d with z | z
   ·rw[z,Nat.zero_mul] at ih;omega
   ·exact z
  have h1:M.n*(wdt ws+2)≤M.n*(T.d*(2+4*ws.length)+2):=Nat.mul_le_mul_left _ (by omega)
  have h2:M.n*(T.d*(2+4*ws.length)+2)+2≤T.d*M.n*(2+4*(ws.length+1)):=by
   have e1:T.d*M.n*(2+4*(ws.length+1))=M.n*(T.d*(2+4*ws.length))+4*(T.d*M.n):=by
    rw[show 2+4*(ws.length+1)=(2+4*ws.length)+4 by omega,Nat.mul_add,Nat.mul_comm T.d M.n,Nat.mul_assoc]
    omega
   have e2:M.n*(T.d*(2+4*ws.length)+2)=M.n*(T.d*(2+4*ws.length))+M.n*2:=Nat.mul_add _ _ _
   have e3:M.n≤T.d*M.n:=by
    have:=Nat.mul_le_mul_right M.n d1
    omega
   omega
  omega
end L2
set_option Elab.async false
set_option linter.all false
set_option maxRecDepth 100000
namespace L2
open PySem PySem.Spec PyProof.Rows Alg
section
variable {X:Cx}
theorem bt_repr:bootBuiltins "repr"=some (.builtin "repr"):=by decide +kernel
def rRepr (K:FrQ):List V→Hp→VK→Prop:=fun xs H Q=>∃ (v:V) (d:PyData),xs=[v]∧Den K H v d∧d.showable=true∧d.hasDict=false∧d.depth≤30∧d.shown.length≤sizeLine∧Q (.str d.shown) H
theorem call_repr (hg:X.A.guards=some [])(hu:X.A.units+64<cLine):CallR X (.builtin "repr") (rRepr X.K):=by
 intro pins s σ H xs us Q I r h
 obtain⟨v,d,rfl,D,sh,nd,dp,sz,q⟩:=h
 obtain⟨u,rfl,rx⟩:=vals1 r
 have deep:∀ (a:Addr),u=.ref a→wpAny (model X.prog X.w) X.A (PySem.call (.builtin "repr") [u]) (EP X pins σ Q) X.xe s:=fun a e=>by
  obtain⟨as,rd⟩:=D.reads I rx
  subst e
  exact repr_of_reads' rd sh (PyData.noDict_hsm nd) hg (by omega) (fun _ _ e=>e) (fun h' u tk hk=>⟨.str _,H,I.kept hk,⟨_,rfl⟩,q⟩) sz
 cases D with
 | non=>
  cases rx
  exact PySem.P.repr_of_none ⟨.str _,H,I.tok _,⟨_,rfl⟩,q⟩
 | bl b=>
  cases rx
  have e:PyData.shown (.bool b)=if b then Str.ofString "True" else Str.ofString "False":=by simp only[PyData.shown]
  rw[e] at q
  exact PySem.P.repr_of_bool ⟨.str _,H,I.tok _,⟨_,rfl⟩,q⟩
 | int i=>
  obtain⟨t,rfl⟩:=rx
  exact PySem.P.repr_of_int (by simpa [PyData.showable] using sh) ⟨.str _,H,I.tok _,⟨_,rfl⟩,q⟩
 | str x=>
  obtain⟨t,rfl⟩:=rx
  exact PySem.P.repr_of_str ⟨.str _,H,I.tok _,⟨_,rfl⟩,q⟩ sz
 | lst hl hlen hit=>cases rx;exact deep _ rfl
 | tup hl hlen hit=>cases rx;exact deep _ rfl
theorem callK_repr {K:FrQ}(h:X.K=K)(hg:X.A.guards=some [])(hu:X.A.units+64<cLine):CallR X (.builtin "repr") (rRepr K):=by subst h;exact call_repr hg hu
end
structure Shy (k n:Nat)(d:PyData):Prop where
 sh:d.showable=true
 nd:d.hasDict=false
 dp:d.depth≤k
 ln:d.shown.length≤n
theorem Shy.mono {k n k' n':Nat}{d:PyData}(h:Shy k n d)(hk:k≤k')(hn:n≤n'):Shy k' n' d:=⟨h.sh,h.nd,Nat.le_trans h.dp hk,Nat.le_trans h.ln hn⟩
theorem shy_all {k n:Nat}:∀ {ds:List PyData},(∀ e∈ds,Shy k n e)→PyData.showableAll ds=true∧PyData.hasDictAll ds=false∧PyData.depthAll ds≤k∧piled (PyData.shownAll ds)≤ds.length*(n+2)
 | [],_=>⟨rfl,rfl,Nat.zero_le _,by show piled []≤_;rw[piled_nil];omega⟩
 | e::ds,h=>by
  obtain⟨h1,h2,h3,h4⟩:=shy_all (ds:=ds) fun x hx=>h x (List.mem_cons_of_mem _ hx)
  have he:=h e List.mem_cons_self
  refine⟨?_,?_,?_,?_⟩
  ·show (e.showable && PyData.showableAll ds)=true
   rw[he.sh,h1];rfl
  ·show (e.hasDict || PyData.hasDictAll ds)=false
   rw[he.nd,h2];rfl
  ·show PyData.depthAll (e::ds)≤k
   have:=he.dp
   simp only[PyData.depthAll]
   omega
  ·show piled (e.shown::PyData.shownAll ds)≤_
   have:=he.ln
   rw[piled_cons,List.length_cons,Nat.succ_mul]
   omega
theorem shy_list {k n m:Nat}{ds:List PyData}(h:∀ e∈ds,Shy k n e)(hm:ds.length*(n+2)+2≤m):Shy (k+1) m (.list ds):=by
 obtain⟨h1,h2,h3,h4⟩:=shy_all h
 refine⟨?_,?_,?_,?_⟩
 ·simp only[PyData.showable];exact h1
 ·simp only[PyData.hasDict];exact h2
 ·simp only[PyData.depth];omega
 ·simp only[PyData.shown]
  have:=listText_len (PyData.shownAll ds)
  omega
theorem shy_tuple {k n m:Nat}{ds:List PyData}(h:∀ e∈ds,Shy k n e)(hm:ds.length*(n+2)+3≤m):Shy (k+1) m (.tuple ds):=by
 obtain⟨h1,h2,h3,h4⟩:=shy_all h
 refine⟨?_,?_,?_,?_⟩
 ·simp only[PyData.showable];exact h1
 ·simp only[PyData.hasDict];exact h2
 ·simp only[PyData.depth];omega
 ·simp only[PyData.shown]
  have e:(tupleText (PyData.shownAll ds)).length≤1+(Str.join ", " (PyData.shownAll ds)).length+2:=by
   show ((("(":Str)++Str.join ", " (PyData.shownAll ds))++(if (PyData.shownAll ds).length == 1 then ",)" else ")":String)).length≤_
   rw[strLen_append,strLen_append]
   have:((if (PyData.shownAll ds).length == 1 then ",)" else ")":String):Str).length≤2:=by split <;> decide
   show 1+_+_≤_
   omega
  cases z:PyData.shownAll ds with
  | nil=>
   rw[z] at e
   have:(Str.join ", " ([]:List Str)).length=0:=rfl
   omega
  | cons t r=>
   have:=join_length_add (PyData.shownAll ds) (by rw[z];simp)
   rw[← z]
   omega
theorem shy_el {T:Twr}{ws:List Nat}(h:Wd T ws)(x:T.α):Shy (T.ht+1) (wdt ws) (toD (T.enc x)):=⟨(h.sm x).showable,nodict_toD (T.fl x),depth_toD (T.fl x),(h.sm x).len⟩
theorem shy_none:Shy 0 4 .none:=⟨rfl,rfl,by simp[PyData.depth],by simp only[PyData.shown];decide⟩
theorem shy_bool (b:Bool):Shy 0 5 (.bool b):=⟨rfl,rfl,by simp[PyData.depth],by simp only[PyData.shown];cases b <;> decide⟩
end L2
set_option Elab.async false
set_option linter.all false
set_option maxRecDepth 100000
namespace L2
open PySem PySem.Spec PyProof.Rows Alg
inductive Dl (H:Hp):V→PyData→Prop where
 | non:Dl H .non .none
 | bl (b:Bool):Dl H (.bl b) (.bool b)
 | int (i:Int):Dl H (.int i) (.int i)
 | str (x:Str):Dl H (.str x) (.str x)
 | lst {a:Addr} {xs:List V} {ds:List PyData}:H a=some (.lst xs)→xs.length=ds.length→(∀ (i:Nat) x d,xs[i]?=some x→ds[i]?=some d→Dl H x d)→Dl H (.ref a) (.list ds)
 | tup {a:Addr} {xs:List V} {ds:List PyData}:H a=some (.tup xs)→xs.length=ds.length→(∀ (i:Nat) x d,xs[i]?=some x→ds[i]?=some d→Dl H x d)→Dl H (.ref a) (.tuple ds)
theorem Dl.den {K:FrQ}{H:Hp}{v:V}{d:PyData}(h:Dl H v d):Den K H v d:=by
 induction h with
 | non=>exact .non
 | bl b=>exact .bl b
 | int i=>exact .int i
 | str x=>exact .str x
 | lst h hl _ ih=>exact .lst (SqL.of h) hl ih
 | tup h hl _ ih=>exact .tup (SqT.of h) hl ih
theorem Dl.same {H H':Hp}{v:V}{d:PyData}(h:Dl H v d)(g:Same H H'):Dl H' v d:=by
 induction h with
 | non=>exact .non
 | bl b=>exact .bl b
 | int i=>exact .int i
 | str x=>exact .str x
 | lst h hl _ ih=>exact .lst (g _ _ h) hl ih
 | tup h hl _ ih=>exact .tup (g _ _ h) hl ih
theorem Rep.dl {H:Hp}{ok:Addr→Prop}{v:V}{e:El}(r:Rep H ok v e):Dl H v (toD e):=by
 induction r with
 | num n=>exact .int n
 | @vec a vs l h k hl r ih=>
  show Dl H (.ref a) (.list (toDs l))
  rw[toDs_map]
  refine .lst h (by rw[List.length_map];exact hl) fun i x d h1 h2=>?_
  rw[List.getElem?_map] at h2
  cases e:l[i]? with
  | none=>rw[e] at h2;cases h2
  | some y=>rw[e] at h2;cases h2;exact ih i x y h1 e
theorem dl_rep {H:Hp}{v:V}{d:PyData}(h:Dl H v d):∀ {e:El},d=toD e→Rep H Any v e:=by
 induction h with
 | non=>intro e z;cases e <;> cases (show PyData.none=_ from z)
 | bl b=>intro e z;cases e <;> cases (show PyData.bool b=_ from z)
 | str x=>intro e z;cases e <;> cases (show PyData.str x=_ from z)
 | int i=>
  intro e z
  cases e with
  | num n=>cases (show PyData.int i=.int n from z);exact .num _
  | vec l=>cases (show PyData.int i=.list (toDs l) from z)
 | @tup a xs ds h hl _ ih=>intro e z;cases e <;> cases (show PyData.tuple ds=_ from z)
 | @lst a xs ds h hl _ ih=>
  intro e z
  cases e with
  | num n=>cases (show PyData.list ds=.int n from z)
  | vec l=>
   have z:PyData.list ds=.list (toDs l):=z
   injection z with z
   subst z
   rw[toDs_map] at hl ih
   refine .vec h trivial (by rw[hl,List.length_map]) fun i x e h1 h2=>?_
   exact ih i x (toD e) h1 (by rw[List.getElem?_map,h2];rfl) rfl
theorem eqDl {K:FrQ}{H:Hp}{u v:V}{a b:El}{n m:Nat}{Q:VK}(R:Den K H u (toD a))(S:Den K H v (toD b))(f:FlE n a)(g:FlE m b)(hn:n≤64)(hm:m≤64)
  (q1:a=b→Q (.bl true) H) (q2:a≠b→Q (.bl false) H):rEqD K false u v H Q:=by
 refine⟨toD a,toD b,R,S,(fl_toD f).shaped hn,(fl_toD g).shaped hm,?_⟩
 show Q (.bl (PyData.eqv (toD a) (toD b))) H
 rw[eqv_dec (fl_toD f) (fl_toD g)]
 by_cases h:a=b
 ·rw[decide_eq_true (congrArg toD h)];exact q1 h
 ·rw[decide_eq_false fun z=>h (toD_inj z)];exact q2 h
end L2
set_option Elab.async false
set_option linter.all false
set_option maxRecDepth 100000
namespace L2
open PySem Alg
section
variable {α:Type} [Lean.Grind.CommRing α]
theorem x_pow (k:Nat):(X:Ser α) ^ k=mon 1 k:=by
 induction k with
 | zero=>rw[pw_zero];rfl
 | succ k ih=>
  rw[pw_succ,ih]
  apply Ser.ext
  funext i
  rw[mon_mul]
  show (if k≤i then (1:α)*(if i - k=1 then 1 else 0) else 0)=if i=k+1 then 1 else 0
  by_cases h:i=k+1
  ·rw[if_pos h,if_pos (by omega),if_pos (by omega)];grind
  ·rw[if_neg h]
   by_cases h2:k≤i
   ·rw[if_pos h2,if_neg (by omega)];grind
   ·rw[if_neg h2]
theorem cg_sq {f a b c:Ser α}(pa:IsP a)(pb:IsP b)(h:Cg f a b)(k:Cg f (b*b) c):Cg f (a*a) c:=(Cg.mul pb pa h h).trans k
section
variable {x:Ser α}
theorem cg3 (px:IsP x)(two:(1:Ser α)+1=0):Cg (x ^ 3+x+1) (x ^ 8) x:=
 ⟨x ^ 5+x ^ 3+x ^ 2+x,(((px.pow 5).add (px.pow 3)).add (px.pow 2)).add px,by grind⟩
theorem cg4 (px:IsP x)(two:(1:Ser α)+1=0):Cg (x ^ 4+x+1) (x ^ 16) x:=by
 have c4:Cg (x ^ 4+x+1) (x ^ 4) (x+1):=⟨1,IsP.one,by grind⟩
 have c8:Cg (x ^ 4+x+1) (x ^ 4*x ^ 4) (x ^ 2+1):=cg_sq (px.pow 4) (px.add IsP.one) c4 ⟨0,IsP.zero,by grind⟩
 have c16:Cg (x ^ 4+x+1) (x ^ 4*x ^ 4*(x ^ 4*x ^ 4)) x:=cg_sq ((px.pow 4).mul (px.pow 4)) ((px.pow 2).add IsP.one) c8 ⟨1,IsP.one,by grind⟩
 have e:x ^ 16=x ^ 4*x ^ 4*(x ^ 4*x ^ 4):=by grind
 rw[e]
 exact c16
theorem cg7 (px:IsP x)(two:(1:Ser α)+1=0):Cg (x ^ 7+x+1) (x ^ 128) x:=by
 have c8:Cg (x ^ 7+x+1) (x ^ 8) (x ^ 2+x):=⟨x,px,by grind⟩
 have c16:Cg (x ^ 7+x+1) (x ^ 8*x ^ 8) (x ^ 4+x ^ 2):=cg_sq (px.pow 8) ((px.pow 2).add px) c8 ⟨0,IsP.zero,by grind⟩
 rw[← pw_add] at c16
 have c32:Cg (x ^ 7+x+1) (x ^ 16*x ^ 16) (x ^ 4+x ^ 2+x):=cg_sq (px.pow 16) ((px.pow 4).add (px.pow 2)) c16 ⟨x,px,by grind⟩
 rw[← pw_add] at c32
 have c64:Cg (x ^ 7+x+1) (x ^ 32*x ^ 32) (x ^ 4+x):=cg_sq (px.pow 32) (((px.pow 4).add (px.pow 2)).add px) c32 ⟨x,px,by grind⟩
 rw[← pw_add] at c64
 have c128:Cg (x ^ 7+x+1) (x ^ 64*x ^ 64) x:=cg_sq (px.pow 64) ((px.pow 4).add px) c64 ⟨x,px,by grind⟩
 rw[← pw_add] at c128
 exact c128
theorem cg2 {c:Ser α}(px:IsP x)(pc:IsP c)(two:(1:Ser α)+1=0)(tr:c+c ^ 2+c ^ 4+c ^ 8=1):Cg (x ^ 2+x+c) (x ^ 16) (x+1)∧Cg (x ^ 2+x+c) (x ^ 256) x:=by
 have c2:Cg (x ^ 2+x+c) (x ^ 2) (x+c):=⟨1,IsP.one,by grind⟩
 have c4:Cg (x ^ 2+x+c) (x ^ 2*x ^ 2) (x+c+c ^ 2):=cg_sq (px.pow 2) (px.add pc) c2 ⟨1,IsP.one,by grind⟩
 rw[← pw_add] at c4
 have c8:Cg (x ^ 2+x+c) (x ^ 4*x ^ 4) (x+c+c ^ 2+c ^ 4):=cg_sq (px.pow 4) ((px.add pc).add (pc.pow 2)) c4 ⟨1,IsP.one,by grind⟩
 rw[← pw_add] at c8
 have c16:Cg (x ^ 2+x+c) (x ^ 8*x ^ 8) (x+1):=cg_sq (px.pow 8) (((px.add pc).add (pc.pow 2)).add (pc.pow 4)) c8 ⟨1,IsP.one,by grind⟩
 rw[← pw_add] at c16
 have c32:Cg (x ^ 2+x+c) (x ^ 16*x ^ 16) (x+c+1):=cg_sq (px.pow 16) (px.add IsP.one) c16 ⟨1,IsP.one,by grind⟩
 rw[← pw_add] at c32
 have c64:Cg (x ^ 2+x+c) (x ^ 32*x ^ 32) (x+c+c ^ 2+1):=cg_sq (px.pow 32) ((px.add pc).add IsP.one) c32 ⟨1,IsP.one,by grind⟩
 rw[← pw_add] at c64
 have c128:Cg (x ^ 2+x+c) (x ^ 64*x ^ 64) (x+c+c ^ 2+c ^ 4+1):=cg_sq (px.pow 64) (((px.add pc).add (pc.pow 2)).add IsP.one) c64 ⟨1,IsP.one,by grind⟩
 rw[← pw_add] at c128
 have c256:Cg (x ^ 2+x+c) (x ^ 128*x ^ 128) x:=cg_sq (px.pow 128) ((((px.add pc).add (pc.pow 2)).add (pc.pow 4)).add IsP.one) c128 ⟨1,IsP.one,by grind⟩
 rw[← pw_add] at c256
 exact⟨c16,c256⟩
end
end
section
variable {T:Twr} {M:Md T.α}
theorem pr_3 {r:Nat}(h:IsPr r)(d:r ∣ 3):r=3:=by
 have h1:=h.1
 have h2:=Nat.le_of_dvd (by decide) d
 have:r=2∨r=3:=by omega
 rcases this with rfl | rfl
 ·exact absurd d (by decide)
 ·rfl
theorem pr_7 {r:Nat}(h:IsPr r)(d:r ∣ 7):r=7:=by
 have h1:=h.1
 have h2:=Nat.le_of_dvd (by decide) d
 have:r=2∨r=3∨r=4∨r=5∨r=6∨r=7:=by omega
 rcases this with rfl | rfl | rfl | rfl | rfl | rfl
 all_goals first|rfl|exact absurd d (by decide)
theorem pr_4 {r:Nat}(h:IsPr r)(d:r ∣ 4):r=2:=by
 have h1:=h.1
 have h2:=Nat.le_of_dvd (by decide) d
 have:r=2∨r=3∨r=4:=by omega
 rcases this with rfl | rfl | rfl
 ·rfl
 ·exact absurd d (by decide)
 ·rcases h.2 2 (by decide) with z | z <;> exact absurd z (by decide)
theorem pr_2 {r:Nat}(h:IsPr r)(d:r ∣ 2):r=2:=by
 have h1:=h.1
 have h2:=Nat.le_of_dvd (by decide) d
 omega
theorem alone3 (hq:T.p ^ T.d=2)(two:(1:Ser T.α)+1=0)(hn:M.n=3)(hf:M.f=(X:Ser T.α) ^ 3+(X:Ser T.α)+1):AlM T M:=by
 have px:IsP (X:Ser T.α):=IsP.X
 unfold AlM
 rw[hn,hq,hf]
 generalize (X:Ser T.α)=x at px
 refine .inr ⟨cg3 px two,fun r pr hr=>?_⟩
 obtain rfl:=pr_3 pr hr
 exact⟨1,x+1,IsP.one,px.add IsP.one,by show 1*(x ^ 3+x+1)+(x+1)*(x ^ 2 - x)=1;grind⟩
theorem alone7 (hq:T.p ^ T.d=2)(two:(1:Ser T.α)+1=0)(hn:M.n=7)(hf:M.f=(X:Ser T.α) ^ 7+(X:Ser T.α)+1):AlM T M:=by
 have px:IsP (X:Ser T.α):=IsP.X
 unfold AlM
 rw[hn,hq,hf]
 generalize (X:Ser T.α)=x at px
 refine .inr ⟨cg7 px two,fun r pr hr=>?_⟩
 obtain rfl:=pr_7 pr hr
 exact⟨1,x ^ 5+x ^ 4+x ^ 3+x ^ 2+x+1,IsP.one,(((((px.pow 5).add (px.pow 4)).add (px.pow 3)).add (px.pow 2)).add px).add IsP.one,by show 1*(x ^ 7+x+1)+(x ^ 5+x ^ 4+x ^ 3+x ^ 2+x+1)*(x ^ 2 - x)=1;grind⟩
theorem alone4 (hq:T.p ^ T.d=2)(two:(1:Ser T.α)+1=0)(hn:M.n=4)(hf:M.f=(X:Ser T.α) ^ 4+(X:Ser T.α)+1):AlM T M:=by
 have px:IsP (X:Ser T.α):=IsP.X
 unfold AlM
 rw[hn,hq,hf]
 generalize (X:Ser T.α)=x at px
 refine .inr ⟨cg4 px two,fun r pr hr=>?_⟩
 obtain rfl:=pr_4 pr hr
 exact⟨1,1,IsP.one,IsP.one,by show 1*(x ^ 4+x+1)+1*(x ^ 4 - x)=1;grind⟩
theorem alone2 {c:Ser T.α}(pc:IsP c)(hq:T.p ^ T.d=16)(two:(1:Ser T.α)+1=0)(tr:c+c ^ 2+c ^ 4+c ^ 8=1)(hn:M.n=2)(hf:M.f=(X:Ser T.α) ^ 2+(X:Ser T.α)+c):AlM T M:=by
 have px:IsP (X:Ser T.α):=IsP.X
 unfold AlM
 rw[hn,hq,hf]
 generalize (X:Ser T.α)=x at px
 obtain⟨h16,h256⟩:=cg2 px pc two tr
 refine .inr ⟨h256,fun r pr hr=>?_⟩
 obtain rfl:=pr_2 pr hr
 obtain⟨q,pq,e⟩:=h16
 exact⟨-q,1,pq.neg,IsP.one,by show -q*(x ^ 2+x+c)+1*(x ^ 16 - x)=1;grind⟩
end
theorem tri_f {α:Type}[Lean.Grind.CommRing α](n:Nat)(h:2≤n):(mdOf n (by omega) fun i=>if i≤1 then (1:α) else 0).f=(X:Ser α) ^ n+(X:Ser α)+1:=by
 rw[x_pow]
 apply Ser.ext
 funext i
 show (if i<n then (if i≤1 then (1:α) else 0) else if i=n then 1 else 0)=(if i=n then (1:α) else 0)+(if i=1 then 1 else 0)+(if i=0 then 1 else 0)
 by_cases h0:i=0
 ·rw[if_pos (by omega),if_pos (by omega),if_neg (by omega),if_neg (by omega),if_pos h0];grind
 ·by_cases h1:i=1
  ·rw[if_pos (by omega),if_pos (by omega),if_neg (by omega),if_pos h1,if_neg h0];grind
  ·by_cases h2:i=n
   ·rw[if_neg (by omega),if_pos h2,if_neg h1,if_neg h0];grind
   ·by_cases h3:i<n
    ·rw[if_pos h3,if_neg (by omega),if_neg h2,if_neg h1,if_neg h0];grind
    ·rw[if_neg h3,if_neg h2,if_neg h1,if_neg h0];grind
def lnE:El→Nat
 | .vec l=>l.length - 1
 | .num _=>0
theorem lnE_pol {T:Twr}{n:Nat}{f:Ser T.α}:lnE (polE T (n+1) f)=n:=by
 show ((List.range (n+1)).map _).length - 1=n
 rw[List.length_map,List.length_range];rfl
theorem up_deg {i:Nat}{ps:List El}{T T':Twr}(h:Up i ps T T'):T'.d=ps.foldl (fun n e=>n*lnE e) T.d∧(T.d≤12→T'.d≤12):=by
 induction h with
 | nil=>exact⟨rfl,id⟩
 | @cons i T T' M ps al hn hd hl u ih=>
  refine⟨?_,fun _=>ih.2 hd⟩
  rw[List.foldl_cons,lnE_pol]
  exact ih.1
theorem h2:2∈PR:=by decide
theorem two2:(1:Ser (ground 2 h2).α)+1=0:=by
 apply Ser.ext
 funext i
 show (if i=0 then (1:(ground 2 h2).α) else 0)+(if i=0 then 1 else 0)=0
 by_cases z:i=0
 ·rw[if_pos z];exact Zp.ext rfl
 ·rw[if_neg z];exact Zp.ext rfl
def M3:Md (ground 2 h2).α:=mdOf 3 (by decide) fun i=>if i≤1 then 1 else 0
def M7:Md (ground 2 h2).α:=mdOf 7 (by decide) fun i=>if i≤1 then 1 else 0
def M4:Md (ground 2 h2).α:=mdOf 4 (by decide) fun i=>if i≤1 then 1 else 0
theorem al3:AlM (ground 2 h2) M3:=alone3 rfl two2 rfl (tri_f 3 (by decide))
theorem al7:AlM (ground 2 h2) M7:=alone7 rfl two2 rfl (tri_f 7 (by decide))
theorem al4:AlM (ground 2 h2) M4:=alone4 rfl two2 rfl (tri_f 4 (by decide))
theorem up3:Up 0 [.vec [.num 1,.num 1,.num 0,.num 1]] (ground 2 h2) ((ground 2 h2).up M3 al3.alone (by decide)):=Up.cons (M:=M3) al3 (by decide) (by decide) (.inl rfl) .nil
theorem up7:Up 0 [.vec [.num 1,.num 1,.num 0,.num 0,.num 0,.num 0,.num 0,.num 1]] (ground 2 h2) ((ground 2 h2).up M7 al7.alone (by decide)):=Up.cons (M:=M7) al7 (by decide) (by decide) (.inl rfl) .nil
theorem two_of {T:Twr}(h:T.p=2):(1:T.α)+1=0:=by
 have e:=T.ch
 rw[h] at e
 have e:(0:T.α)+1+1=0:=e
 grind
theorem two_ser {α:Type}[Lean.Grind.CommRing α](h:(1:α)+1=0):(1:Ser α)+1=0:=by
 apply Ser.ext
 funext i
 show (if i=0 then (1:α) else 0)+(if i=0 then 1 else 0)=0
 by_cases z:i=0
 ·rw[if_pos z];exact h
 ·rw[if_neg z];grind
noncomputable abbrev T16:Twr:=(ground 2 h2).up M4 al4.alone (by decide)
noncomputable def xi:T16.α:=Qt.of M4 X
theorem xi_rel:xi ^ 4+xi+1=0:=by
 have e:Qt.of M4 M4.f=0:=of_f
 have f4:M4.f=(X:Ser (ground 2 h2).α) ^ 4+(X:Ser (ground 2 h2).α)+1:=tri_f 4 (by decide)
 rw[f4,of_add ((IsP.X.pow 4).add IsP.X) IsP.one,of_add (IsP.X.pow 4) IsP.X,of_pow IsP.X,of_one] at e
 exact e
theorem xi_tr:xi ^ 3+(xi ^ 3) ^ 2+(xi ^ 3) ^ 4+(xi ^ 3) ^ 8=1:=by
 have t:=two_of (T:=T16) rfl
 have r:=xi_rel
 generalize xi=x at r ⊢
 have e4:x ^ 4=x+1:=by grind
 have e6:(x ^ 3) ^ 2=x ^ 3+x ^ 2:=by grind
 have e12:(x ^ 3) ^ 4=x ^ 3+x ^ 2+x+1:=by grind
 have e24:(x ^ 3) ^ 8=x ^ 3+x:=by grind
 grind
noncomputable def M2:Md T16.α:=mdOf 2 (by decide) fun i=>if i=0 then xi ^ 3 else 1
theorem m2_f:M2.f=(X:Ser T16.α) ^ 2+(X:Ser T16.α)+cst (xi ^ 3):=by
 rw[x_pow]
 apply Ser.ext
 funext i
 show (if i<2 then (if i=0 then xi ^ 3 else (1:T16.α)) else if i=2 then 1 else 0)=(if i=2 then (1:T16.α) else 0)+(if i=1 then 1 else 0)+(if i=0 then xi ^ 3 else 0)
 match i with
 | 0=>simp;try grind
 | 1=>simp;try grind
 | 2=>simp;try grind
 | i+3=>rw[if_neg (by omega),if_neg (by omega),if_neg (by omega),if_neg (by omega)];grind
theorem al2:AlM T16 M2:=by
 refine alone2 (IsP.cst (xi ^ 3)) rfl (two_ser (two_of rfl)) ?_ rfl m2_f
 rw[← cst_pow,← cst_pow,← cst_pow,← cst_add,← cst_add,← cst_add,xi_tr,cst_one]
theorem xi_s:(show Qt M4 from xi ^ 3).s=(X:Ser (ground 2 h2).α) ^ 3:=by
 have e:(show Qt M4 from xi ^ 3)=Qt.of M4 ((X:Ser (ground 2 h2).α) ^ 3):=(of_pow IsP.X 3).symm
 rw[e]
 exact rest_eq (by rw[x_pow];exact Dg.mon 1 3) (Cg.refl _ _)
theorem enc_xi:T16.enc (xi ^ 3)=.vec [.num 0,.num 0,.num 0,.num 1]:=by
 show polE (ground 2 h2) 4 (show Qt M4 from xi ^ 3).s=_
 rw[xi_s,x_pow]
 rfl
theorem enc_one16:T16.enc 1=.vec [.num 1,.num 0,.num 0,.num 0]:=rfl
theorem pol_m2:polE T16 3 M2.f=.vec [.vec [.num 0,.num 0,.num 0,.num 1],.vec [.num 1,.num 0,.num 0,.num 0],.vec [.num 1,.num 0,.num 0,.num 0]]:=by
 have e:polE T16 3 M2.f=.vec [T16.enc (xi ^ 3),T16.enc 1,T16.enc 1]:=rfl
 rw[e,enc_xi,enc_one16]
theorem up42:∃ T,Up 0 [.vec [.num 1,.num 1,.num 0,.num 0,.num 1],.vec [.vec [.num 0,.num 0,.num 0,.num 1],.vec [.num 1,.num 0,.num 0,.num 0],.vec [.num 1,.num 0,.num 0,.num 0]]] (ground 2 h2) T:=by
 have u2:Up 1 [polE T16 3 M2.f] T16 (T16.up M2 al2.alone (by decide)):=Up.cons (M:=M2) al2 (by decide) (by decide) (.inr fun z=>by
  have:=(polE_inj M2.mon.dg (Dg.mon 1 1) z).1
  exact absurd this (by decide)) .nil
 rw[pol_m2] at u2
 exact⟨_,Up.cons (M:=M4) al4 (by decide) (by decide) (.inl rfl) u2⟩
end L2
set_option Elab.async false
set_option linter.all false
set_option maxRecDepth 100000
namespace L2
open PySem PySem.Spec PyProof.Rows Alg
theorem le_line {n:Nat}(h:n≤1000):n≤sizeLine:=by rw[sizeLine_eq];omega
theorem new_of {H H':Hp}{l:Addr}{o:HO}(n:H l=none)(hX:upd H l o=H'):Same H H'∧H' l=some o:=by
 subst hX
 exact⟨same_new n _,upd_same⟩
theorem dk {H H':Hp}{b l:Addr}{o:HO}(s:Same H H')(e:del H b l=some o):del H' b l=some o:=(NewO.of s).del _ _ e
theorem new_b {H H':Hp}{b l:Addr}{bo o:HO}(B:H b=some bo)(n:H l=none)(hX:upd H l o=H'):Same H H'∧H' b=some bo∧del H' b l=some o:=by
 subst hX
 exact⟨same_new n _,same_new n _ _ _ B,by rw[del_of (ne_of_none B n).symm];exact upd_same⟩
theorem new_c {H H':Hp}{b l l2:Addr}{bo o o2:HO}(B:H b=some bo)(n:H l=none)(n2:(upd H l o) l2=none)(hX:upd (upd H l o) l2 o2=H'):Same H H'∧H' b=some bo∧del H' b l2=some o2:=by
 obtain⟨k,B1,e1⟩:=new_b B n rfl
 obtain⟨k2,B2,e2⟩:=new_b B1 n2 hX
 exact⟨k.trans k2,B2,e2⟩
theorem two_of' {ys:List V}{u v:V}(h:ys.length=2)(hu:ys[0]?=some u)(hv:ys[1]?=some v):ys=[u,v]:=by
 refine List.ext_getElem? fun i=>?_
 by_cases h0:i=0
 ·subst h0;exact hu
 ·by_cases h1:i=1
  ·subst h1;exact hv
  ·rw[List.getElem?_eq_none (by omega),List.getElem?_eq_none (by show 2≤i;omega)]
theorem st3 {σ:St}(h:σ.length=3):∃ a b c,σ=[a,b,c]:=by
 cases σ with
 | nil=>simp at h
 | cons a σ=>cases σ with
  | nil=>simp at h
  | cons b σ=>cases σ with
   | nil=>simp at h
   | cons c σ=>cases σ with
    | nil=>exact⟨a,b,c,rfl⟩
    | cons d σ=>simp at h
theorem mseq {a b:TS}{D:Ends}{σ:St}{H:Hp}(M:St→Hp→Prop)(h1:∀ C:St→Hp→Prop,(∀ σ H,M σ H→C σ H)→a { D with nx:=C } σ H)(h2:∀ σ H,M σ H→b D σ H):tSeq a b D σ H:=h1 _ h2
theorem mseqF {a b:TS}{D:Ends}{σ:St}{H:Hp}{I:Type}(f:I→St)(P:I→Hp→Prop)(h1:∀ C:St→Hp→Prop,(∀ i H,P i H→C (f i) H)→a { D with nx:=C } σ H)(h2:∀ i H,P i H→b D (f i) H):tSeq a b D σ H:=h1 (b D) h2
theorem gsetF {C:St→Hp→Prop}{I:Type}{f:I→St}{P:I→Hp→Prop}{j:Nat}{v:V}{σ:St}{H:Hp}(k:∀ i H,P i H→C (f i) H)(i:I)(p:P i H)(e:σ.set j (some v)=f i):gName j v σ H C:=by
 show C (σ.set j (some v)) H
 rw[e];exact k i H p
end L2
set_option Elab.async false
set_option linter.all false
set_option maxRecDepth 100000
namespace L2
open PySem PySem.Spec PyProof.Rows
theorem relabel_back2 {env:Env}:∀ {names:List (Str×NameKind)} {x:Str} {kd:NameKind},kd=.cell∨kd=.free→
  (names.map fun (n,k)=>if (k == NameKind.free && env.scope.kind == .function && env.kindOf n == some .cell) then (n,NameKind.cell) else (n,k)).lookup x=some kd→names.lookup x=some .free∨names.lookup x=some .cell
 | [],_,_,_,h=>by simp at h
 | (n,k)::r,x,kd,hk,h=>by
  have ih:=@relabel_back2 env r x kd hk
  have h':List.lookup x ((if (k == NameKind.free && env.scope.kind == .function && env.kindOf n == some .cell)=true then (n,NameKind.cell) else (n,k))::(r.map fun (n,k)=>if (k == NameKind.free && env.scope.kind == .function && env.kindOf n == some .cell) then (n,NameKind.cell) else (n,k)))=some kd:=h
  by_cases hc:(k == NameKind.free && env.scope.kind == .function && env.kindOf n == some .cell)=true
  ·rw[if_pos hc] at h'
   have hkf:k=.free:=by
    simp only[Bool.and_eq_true,beq_iff_eq] at hc
    exact hc.1.1
   subst hkf
   cases hx:x == n with
   | true=>exact .inl (by simp only[List.lookup_cons,hx])
   | false=>simp only[List.lookup_cons,hx] at h' ⊢;exact ih h'
  ·rw[if_neg hc] at h'
   cases hx:x == n with
   | true=>
    simp only[List.lookup_cons,hx] at h' ⊢
    have e:k=kd:=Option.some.inj h'
    subst e
    rcases hk with hk | hk
    ·rw[hk];exact .inr rfl
    ·rw[hk];exact .inl rfl
   | false=>simp only[List.lookup_cons,hx] at h' ⊢;exact ih h'
structure CompScopeC (X:Cx)(N:List Str)(sl:List (Option Nat))(scope:Scope)(own:Str):Prop where
 kind:scope.kind=.function
 cells:∀ n acc,cellsFrom n scope.names acc=(own,n)::acc
 push:∀ h,pushCells h scope.names=h.push { cls:=.type "cell",data:=.cell none }
 cell1:∀ x,scope.names.lookup x=some .cell→x=own
 ownc:scope.names.lookup own=some .cell
 locs:∀ y∈scope.names,y.2=.local→scope.names.lookup y.1=some .local
 frees:∀ y∈scope.names,y.2=.free→X.env.kindOf y.1=some .cell∨X.env.kindOf y.1=some .free
 len:sl.length=N.length
 out:∀ (j i:Nat) (x:Str),N[j]?=some x→sl[j]?=some (some i)→X.N[i]?=some x∧scope.names.lookup x=some .free
abbrev cmpCxC (X:Cx)(N:List Str)(scope:Scope)(own:Str)(cl:List (Str×Addr))(C:Addr)(s2:Shared)(H2:Hp)(fp:List Addr):Cx:=
 { X with N:=N,s₀:=s2,H₀:=H2,env:=compEnvC scope cl C X.env,outer:=X.stack,ex:=fp,fn:=fun x=>decide (x=own),pn:=[],xe:=fun _ _=>False }
theorem newEnv_one {M:Model}{A:Around}{E:Value→Shared→Prop}{s:Shared}{scope:Scope}{own:Str}{globals:Addr}{cl:List (Str×Addr)}{qual:Str}{env:Env}{Q:Env→Shared→Prop}
  (hc:∀ n acc,cellsFrom n scope.names acc=(own,n)::acc) (hp:∀ h,pushCells h scope.names=h.push { cls:=.type "cell",data:=.cell none })
  (hQ:Q (newEnv scope s.heap.objs.size globals ((own,s.heap.objs.size+1)::cl) qual none .none (some env) builtinsNs) { s with heap:=(s.heap.push { cls:=.type "dict",data:=.dict #[] }).push { cls:=.type "cell",data:=.cell none } }):
  wpAny M A (newFunctionEnv scope globals cl [] qual none .none (some env)) Q E s:=by
 simp only[newFunctionEnv,Option.isSome_some,if_true]
 refine wpAny_bind (wpAny_alloc ?_)
 refine wpAny_bind (wpAny_layCells _ (fun name kind cells=>by cases hkc:kind == NameKind.cell <;> simp[hkc]) _ _ _ _ ?_)
 rw[hc,hp]
 rw[show ({ s with heap:=s.heap.push { cls:=.type "dict",data:=.dict #[] } }:Shared).heap.objs.size=s.heap.objs.size+1 from Heap.size_push ..]
 rw[List.forIn_nil]
 exact wpAny_bind (wpAny_pure (wpAny_pure hQ))
section
variable {X:Cx} {N:List Str} {sl:List (Option Nat)} {scope:Scope} {own:Str}
theorem CompScopeC.clos (S:CompScopeC X N sl scope own)(ok:X.Ok):closureFor scope X.env=pure (closOf X.env.cells scope.names []):=
 closureFor_eq fun y hy hf=>ok.has y.1 (S.frees y hy hf)
theorem CompScopeC.cell0 (S:CompScopeC X N sl scope own){x:Str}(hf:scope.names.lookup x=some .free){c:Addr}(hc:X.env.cells.lookup x=some c):(closOf X.env.cells scope.names []).lookup x=some c:=
 closOf_has hc _ _ (.inr (PySem.mem_of_lookup hf)) fun d hd=>by simp at hd
theorem CompScopeC.cell (S:CompScopeC X N sl scope own){x:Str}(hf:scope.names.lookup x=some .free){c c0:Addr}(hc:X.env.cells.lookup x=some c):((own,c0)::closOf X.env.cells scope.names []).lookup x=some c:=by
 have hne:(x == own)=false:=by
  refine beq_eq_false_iff_ne.mpr fun z=>?_
  subst z
  rw[S.ownc] at hf;cases hf
 rw[List.lookup_cons,hne]
 exact S.cell0 hf hc
theorem lookC {cl:List (Str×Addr)}{x:Str}{c c0:Addr}(h:((own,c0)::cl).lookup x=some c):(x=own∧c=c0)∨(x≠own∧cl.lookup x=some c):=by
 rw[List.lookup_cons] at h
 cases e:x == own with
 | true=>rw[e] at h;exact .inl ⟨by simpa using e,(Option.some.inj h).symm⟩
 | false=>rw[e] at h;exact .inr ⟨by simpa using e,h⟩
theorem CompScopeC.ok (S:CompScopeC X N sl scope own){pins:List (Addr×Obj)}{σ:St}{H2:Hp}{s2:Shared}{fp:List Addr}{C c0:Addr}(I:Inv X pins σ H2 s2)(hf:∀ b∈fp,FpOk X pins H2 b)(hlt:∀ b∈fp,b<s2.heap.objs.size)(hC:s2.heap.objs.size≤C)(hc0:s2.heap.objs.size≤c0):
  (cmpCxC X N scope own ((own,c0)::closOf X.env.cells scope.names []) C s2 H2 fp).Ok where
 mod:=I.ok.mod
 kind:=S.kind
 glob:=I.ok.glob
 blt:=I.ok.blt
 above:=hC
 inj:=fun x y c h1 h2=>by
  rcases lookC h1 with ⟨e1,e2⟩ | ⟨e1,e2⟩
  ·rcases lookC h2 with ⟨e3,e4⟩ | ⟨e3,e4⟩
   ·rw[e1,e3]
   ·obtain⟨v,q⟩:=I.cell y c (CompScope.back e4)
    have:=q.lt
    rw[e2] at this
    exact absurd (Nat.lt_of_lt_of_le this hc0) (Nat.lt_irrefl _)
  ·rcases lookC h2 with ⟨e3,e4⟩ | ⟨e3,e4⟩
   ·obtain⟨v,q⟩:=I.cell x c (CompScope.back e2)
    have:=q.lt
    rw[e4] at this
    exact absurd (Nat.lt_of_lt_of_le this hc0) (Nat.lt_irrefl _)
   ·exact I.ok.inj x y c (CompScope.back e2) (CompScope.back e4)
 has:=fun x hx=>by
  have hx':scope.names.lookup x=some .free∨scope.names.lookup x=some .cell:=by
   rcases hx with hx | hx
   ·exact relabel_back2 (.inl rfl) hx
   ·exact relabel_back2 (.inr rfl) hx
  rcases hx' with hx' | hx'
  ·obtain⟨c,hc⟩:=I.ok.has x (S.frees _ (PySem.mem_of_lookup hx') rfl)
   exact⟨c,S.cell hx' hc⟩
  ·have:=S.cell1 x hx'
   subst this
   exact⟨c0,by show List.lookup x ((x,c0)::_)=_;rw[List.lookup_cons,beq_self_eq_true]⟩
 cab:=fun x c h hl=>by
  rcases lookC hl with ⟨_,e2⟩ | ⟨e1,_⟩
  ·rw[e2];exact hc0
  ·exact absurd (of_decide_eq_true h) e1
 hd:=I.ok.hd
 frames:=I.ok.frames
 stk:=.inl rfl
 exf:=fun b hb=>⟨Nat.ne_of_lt (Nat.lt_of_lt_of_le (hlt b hb) hC),fun x c h=>by
  rcases lookC h with ⟨_,e2⟩ | ⟨_,e2⟩
  ·rw[e2];exact Nat.ne_of_gt (Nat.lt_of_lt_of_le (hlt b hb) hc0)
  ·exact (hf b hb).2.2.2.2.1 x c (CompScope.back e2)⟩
 bs:=I.bs
 bsz:=Nat.le_trans I.ok.bsz I.sz
 noex:=fun b o e hb=>by
  rcases (hf b hb).2.2.2.1 with z | z
  ·exact I.ok.noex b o e z
  ·exact absurd (Nat.lt_of_lt_of_le (Nat.lt_of_lt_of_le (Heap.lt_size e) I.ok.bsz) z) (Nat.lt_irrefl _)
 exfs:=fun b hb z=>by
  rcases List.mem_cons.mp (I.stkSub b z) with e | e
  ·exact (hf b hb).2.1 e
  ·exact (hf b hb).2.2.1 e
 funs:=I.stack
 frf:=I.stkFree
theorem CompScopeC.again (S:CompScopeC X N sl scope own){pins:List (Addr×Obj)}{σ:St}{H2:Hp}{s2:Shared}{fp:List Addr}{C c0:Addr}(I:Inv X pins σ H2 s2)(hf:∀ b∈fp,FpOk X pins H2 b)
  {pins':List (Addr×Obj)} {σ':St} {H':Hp} {s':Shared} (J:Inv (cmpCxC X N scope own ((own,c0)::closOf X.env.cells scope.names []) C s2 H2 fp) pins' σ' H' s'):
  Inv (cmpCxC X N scope own ((own,c0)::closOf X.env.cells scope.names []) C s2 H2 fp) pins' (innerSt sl σ) H' s':=by
 obtain⟨m,hn,_⟩:=J.loc
 refine⟨J.ok,J.os,J.bare,J.base,⟨m,hn,fun j x v e1 e2 _=>?_⟩,J.cell,J.free,J.freeC,J.pin,J.hok,?_⟩
 ·obtain⟨i,h1,h2⟩:=innerSt_get e2
  obtain⟨hN,hfree⟩:=S.out j i x e1 h1
  have hk:=S.frees _ (PySem.mem_of_lookup hfree) rfl
  obtain⟨m0,hn0,hl0⟩:=I.loc
  have hv:Vis X.env.scope x:=by
   rcases hk with hk | hk
   ·exact .inr (.inl hk)
   ·exact .inr (.inr hk)
  obtain⟨u,r,l⟩:=hl0 i x v hN h2 hv
  refine⟨u,r,.inr ⟨?_,?_⟩⟩
  ·rcases lookup_relabel_free (env:=X.env) hfree with z | z
   ·exact .inr z
   ·exact .inl z
  ·rcases l with ⟨z,_⟩ | ⟨_,c,hc,q⟩
   ·rcases hk with hk | hk
    ·have hk':X.env.kindOf x=some .cell:=hk
     rw[hk'] at z;cases z
    ·have hk':X.env.kindOf x=some .free:=hk
     rw[hk'] at z;cases z
   ·refine⟨c,S.cell hfree hc,?_⟩
    obtain⟨o,ho,hd⟩:=q
    have ncfp:c ∉ fp:=fun z=>(hf c z).2.2.2.2.1 x c hc rfl
    obtain⟨sl',e⟩:=J.base.any ho (I.freeC x c hc) ncfp
    exact⟨_,e,hd⟩
 ·unfold innerSt
  rw[List.length_map]
  exact S.len
theorem comp_runC {elt tg iter:Expr}{ifs:List Expr}{pos pos2:Pos}{wi:TI}{g:TG}{tif:TT}{te:TE}{use:Option (Value→Sem Unit)}{QQ:Value→Shared→Prop}(S:CompScopeC X N sl scope own)(hcalm:X.calm=true)(hi:PI X tg iter wi)
  (hg:∀ cl C s2 H2 fp,PG (cmpCxC X N scope own cl C s2 H2 fp) tg g) (hif:∀ cl C s2 H2 fp,PIf (cmpCxC X N scope own cl C s2 H2 fp) ifs tif) (he:∀ cl C s2 H2 fp,PE (cmpCxC X N scope own cl C s2 H2 fp) elt te)
  (hs:∀ x,foldedSetIterable iter X.env x=pure x) {pins:List (Addr×Obj)} {s:Shared} {σ:St} {H:Hp} {Q:VK} (I:Inv X pins σ H s) (h:tComp wi sl g tif te σ H Q)
  (hend:∀ (D C:Addr) (H3:Hp) (s4:Shared) (fl:Flow),Inv X pins σ H3 s4→H3 C=none→C≠X.env.locals→C ∉ X.fs→X.s₀.heap.objs.size≤C→(∀ x c,X.env.cells.lookup x=some c→c≠C)→(∀ p∈X.pn++pins,p.1≠C)→(∃ m,s4.heap.Ns C m)→Q (.ref D) H3→
   compPost (model X.prog X.w) X.A X.xe use QQ (.ref D) C (.ok fl) s4):
  wpAny (model X.prog X.w) X.A (comprehension (.ListComp elt [⟨tg,iter,ifs,0⟩] scope pos) scope X.env pos2 (newList []) false (eval iter X.env) use) QQ X.xe s:=by
 refine wpAny_comprehension_free (use:=use) rfl hs (S.clos I.ok) S.kind S.locs (wpAny_mono (hi pins s σ H _ I h) (fun xv s1 h1=>wpAny_mono h1 (fun itv s2 h2=>?_) fun _ _ e=>e) fun _ _ e=>e)
 obtain⟨it,fp,tn,J,H2,rfl,I2,T,st2,f2,hR⟩:=h2
 obtain⟨W,⟨m0,w0⟩,turn⟩:=hR _ I2.fresh
 refine wpAny_newObj_type (newEnv_one S.cells S.push ?_)
 dsimp only
 generalize hP:s2.heap.push { cls:=.type "list",dict:=none,data:=.seq ([]:List Value).toArray }=P2
 generalize hh1:(P2.push { cls:=.type "dict",data:=.dict #[] }).push { cls:=.type "cell",data:=.cell none }=h₁
 have hC:P2.objs.size=s2.heap.objs.size+1:=by rw[← hP,Heap.size_push]
 have hDC:s2.heap.objs.size≠P2.objs.size:=by rw[hC];exact Nat.ne_of_lt (Nat.lt_succ_self _)
 have hCle:s2.heap.objs.size≤P2.objs.size:=by rw[hC];exact Nat.le_succ _
 have hcle:s2.heap.objs.size≤P2.objs.size+1:=Nat.le_succ_of_le hCle
 have hDc:s2.heap.objs.size≠P2.objs.size+1:=by rw[hC];exact Nat.ne_of_lt (Nat.lt_succ_of_lt (Nat.lt_succ_self _))
 have hns₁:h₁.Ns P2.objs.size (fun _=>none):=hh1 ▸ (Heap.Ns.new P2 (.type "dict")).keeps (fun b o e=>Heap.get?_push_of_some _ e)
 have hlt:∀ b∈fp,b<s2.heap.objs.size:=fun b hb=>let ⟨o,e,_⟩:=T.obj 0 _ st2 b hb;Heap.lt_size e
 have old:∀ b o,s2.heap.get? b=some o→h₁.get? b=some o:=fun b o e=>hh1 ▸ Heap.get?_push_of_some _ (Heap.get?_push_of_some _ (hP ▸ Heap.get?_push_of_some _ e))
 have hD1:h₁.get? s2.heap.objs.size=some { cls:=.type "list",dict:=none,data:=.seq ([]:List Value).toArray }:=hh1 ▸ Heap.get?_push_of_some _ (Heap.get?_push_of_some _ (hP ▸ Heap.get?_push_size _ rfl))
 have hc1:h₁.IsCell (P2.objs.size+1) none:=by
  have:(P2.push { cls:=.type "dict",data:=.dict #[] }).objs.size=P2.objs.size+1:=Heap.size_push ..
  rw[← this,← hh1]
  exact⟨_,Heap.get?_push_size _ rfl,rfl⟩
 have hok:=S.ok (C:=P2.objs.size) (c0:=P2.objs.size+1) I2 f2 hlt hCle hcle
 have hokH:HOk X.prog X.w (upd H2 s2.heap.objs.size (.lst [])) h₁:=I2.hok.laid old (Nat.le_refl _) ⟨Nat.zero_le _,[],_,.nil,hD1⟩
 have hUn:Un (frs X.stack) fp H2 (upd H2 s2.heap.objs.size (.lst [])) s2.heap h₁:=Un.laid old (Nat.le_refl _) I2.fresh
 have hcellK:∀ x c,((own,P2.objs.size+1)::closOf X.env.cells scope.names []).lookup x=some c→∃ v,h₁.IsCell c v:=fun x c hc=>by
  rcases lookC hc with ⟨_,e2⟩ | ⟨_,e2⟩
  ·rw[e2];exact⟨_,hc1⟩
  ·obtain⟨v,o,ho,hd⟩:=I2.cell x c (CompScope.back e2)
   exact⟨v,o,old c o ho,hd⟩
 have hfreeK:∀ x c,((own,P2.objs.size+1)::closOf X.env.cells scope.names []).lookup x=some c→upd H2 s2.heap.objs.size (.lst []) c=none:=fun x c hc=>by
  rcases lookC hc with ⟨_,e2⟩ | ⟨_,e2⟩
  ·rw[e2,upd_ne (Ne.symm hDc)]
   exact I2.hok.fresh hcle
  ·obtain⟨v,q⟩:=I2.cell x c (CompScope.back e2)
   rw[upd_ne (Nat.ne_of_lt q.lt)]
   exact I2.freeC x c (CompScope.back e2)
 have hfreeC:upd H2 s2.heap.objs.size (.lst []) P2.objs.size=none:=by
  rw[upd_ne (Ne.symm hDC)]
  exact I2.hok.fresh hCle
 have start:∀ tk:Nat,Inv (cmpCxC X N scope own ((own,P2.objs.size+1)::closOf X.env.cells scope.names []) P2.objs.size s2 H2 fp) [] (innerSt sl σ) (upd H2 s2.heap.objs.size (.lst [])) { s2 with heap:=h₁,toks:=tk }:=fun tk=>by
  have J0:Inv (cmpCxC X N scope own ((own,P2.objs.size+1)::closOf X.env.cells scope.names []) P2.objs.size s2 H2 fp) [] (List.replicate N.length none) (upd H2 s2.heap.objs.size (.lst [])) { s2 with heap:=h₁,toks:=tk }:=
   ⟨hok,rfl,I2.bare,hUn,⟨_,hns₁,fun i x v e1 e2 _=>by
    rw[List.getElem?_replicate] at e2
    split at e2 <;> cases e2⟩,hcellK,hfreeC,hfreeK,fun p hp=>absurd (show p∈([]:List (Addr×Obj)) from hp) (by simp),hokH,by simp⟩
  exact S.again I2 f2 J0
 have stK:tn 0 h₁:=T.keep _ _ _ st2 fun b hb o e=>old b o e
 have fr1:∀ b∈fp,upd H2 s2.heap.objs.size (.lst []) b=none:=fun b hb=>by
  rw[upd_ne (Nat.ne_of_lt (hlt b hb))]
  exact (f2 b hb).1
 have stat:∀ {H':Hp},(∀ b∈fp,H' b=none)→∀ b∈fp,FpOk (cmpCxC X N scope own ((own,P2.objs.size+1)::closOf X.env.cells scope.names []) P2.objs.size s2 H2 fp) [] H' b:=fun hn b hb=>
  ⟨hn b hb,Nat.ne_of_lt (Nat.lt_of_lt_of_le (hlt b hb) hCle),fun z=>hok.exfs b hb z,.inl hb,fun x c hc=>(hok.exf b hb).2 x c hc,fun p hp=>absurd (show p∈([]:List (Addr×Obj)) from hp) (by simp)⟩
 have loop:∀ tk:Nat,codeAny (model X.prog X.w) X.A (.compLoop (.ListComp elt [⟨tg,iter,ifs,0⟩] scope pos) 0 (.ref it) (.ref s2.heap.objs.size) (compEnvC scope ((own,P2.objs.size+1)::closOf X.env.cells scope.names []) P2.objs.size X.env))
   (compPost (model X.prog X.w) X.A X.xe use QQ (.ref s2.heap.objs.size) P2.objs.size) { s2 with heap:=h₁,toks:=tk }:=fun tk=>by
  refine codeAny_loop rfl (fun n s'=>∃ i H',Inv (cmpCxC X N scope own ((own,P2.objs.size+1)::closOf X.env.cells scope.names []) P2.objs.size s2 H2 fp) [] (innerSt sl σ) H' s'∧tn i s'.heap∧(∀ b∈fp,H' b=none)∧W i n H') ?_ m0 ⟨0,_,start tk,stK,fr1,w0⟩
  rintro n s3 ⟨i,H3,I3,st3,fr3,w3⟩
  show wpAny _ X.A ((compTurn (.ListComp elt [⟨tg,iter,ifs,0⟩] scope pos) 0 (.ref it) (.ref s2.heap.objs.size) (compEnvC scope ((own,P2.objs.size+1)::closOf X.env.cells scope.names []) P2.objs.size X.env)).onRaise (fun x=>do noteFrame x (compEnvC scope ((own,P2.objs.size+1)::closOf X.env.cells scope.names []) P2.objs.size X.env);theTreesLotGoes x)) _ _ s3
  refine wpAny_noted ?_
  rw[compTurn_list]
  rcases turn i n H3 w3 with ⟨stop,qn⟩ | ⟨go,step⟩
  ·refine wpAny_bind (wpAny_standAt (wpAny_bind (wpAny_mono (T.done (cmpCxC X N scope own ((own,P2.objs.size+1)::closOf X.env.cells scope.names []) P2.objs.size s2 H2 fp) rfl rfl rfl hcalm i [] s3 _ H3 _ I3 (stat fr3) st3 stop) (fun r s4 ⟨hr,I4⟩=>?_) fun _ _ z=>z)))
   subst hr
   refine wpAny_pure ?_
   obtain⟨m4,hn4,_⟩:=I4.loc
   have u0:Un (frs X.stack) fp H2 H3 s2.heap s4.heap:=I4.base
   have hI:Inv X pins σ H3 s4:=I2.call' (s':=s4) (ch:=fp) I4.os u0 I4.hok I4.bare fun b hb=>⟨(f2 b hb).2.2.2.1,(f2 b hb).2.1,(f2 b hb).2.2.2.2.1,(f2 b hb).2.2.2.2.2⟩
   have hC':=I2.fpOk (H':=H3) hCle I4.free
   exact hend _ _ H3 s4 _ hI I4.free hC'.2.1 hC'.2.2.1 (Nat.le_trans I2.sz hCle) hC'.2.2.2.2.1 hC'.2.2.2.2.2 ⟨m4,hn4⟩ qn
  ·refine wpAny_bind (wpAny_standAt (wpAny_bind (wpAny_mono (T.item (cmpCxC X N scope own ((own,P2.objs.size+1)::closOf X.env.cells scope.names []) P2.objs.size s2 H2 fp) rfl rfl rfl hcalm i [] s3 _ H3 (fun _ _=>False) I3 (stat fr3) st3 go) (fun r s4 ⟨u,hr,h4⟩=>?_) fun _ _ z=>z.elim)))
   subst hr
   refine wpAny_bind (wpAny_mono h4 (fun _ s5 ⟨x,H5,I5,r5,y5,st5,fr5⟩=>?_) fun _ _ z=>z.elim)
   have I5':=I5.pinned (stat fr5) (T.obj _ _ st5)
   refine wpAny_bind (wpAny_mono (hg _ _ _ _ _ _ s5 _ H5 x u _ I5' r5 (step x H5 y5)) (fun _ s6 ⟨σ6,H6,I6,q6⟩=>?_) fun _ _ z=>(show False from z).elim)
   have again:∀ {σ7:St} {H7:Hp} {s7:Shared},Inv (cmpCxC X N scope own ((own,P2.objs.size+1)::closOf X.env.cells scope.names []) P2.objs.size s2 H2 fp) ([]++pinsAt fp s5.heap) σ7 H7 s7→(∃ m',m'<n∧W (i+1) m' H7)→
     ∃ m',m'<n∧∃ i H',Inv (cmpCxC X N scope own ((own,P2.objs.size+1)::closOf X.env.cells scope.names []) P2.objs.size s2 H2 fp) [] (innerSt sl σ) H' s7∧tn i s7.heap∧(∀ b∈fp,H' b=none)∧W i m' H':=fun {σ7 H7 s7} I7 ⟨m',hm,w7⟩=>by
    refine⟨m',hm,i+1,H7,S.again I2 f2 I7.unpinned,T.keep _ _ _ st5 fun b hb o e=>(I7.pin (b,o) (List.mem_append_right _ (List.mem_append_right _ (mem_pinsAt hb e)))).1,fun b hb=>?_,w7⟩
    obtain⟨o,e,d⟩:=T.obj _ _ st5 b hb
    exact (I7.pin (b,o) (List.mem_append_right _ (List.mem_append_right _ (mem_pinsAt hb e)))).2.1
   refine wpAny_bind (wpAny_mono (hif _ _ _ _ _ _ s6 σ6 H6 _ I6 q6) (fun ok s7 ⟨H7,I7,q7⟩=>?_) fun _ _ z=>(show False from z).elim)
   cases ok with
   | false=>
    exact wpAny_pure ⟨rfl,again I7 (by simpa using q7)⟩
   | true=>
    rw[if_pos rfl] at q7
    refine wpAny_bind (wpAny_bind (wpAny_mono ((he _ _ _ _ _).out _ s7 σ6 H7 _ I7 q7) (fun y s8 ⟨yv,H8,I8,r8,ys,hys,hlen,w8⟩=>?_) fun _ _ z=>(show False from z).elim))
    refine wpAny_bind (wpAny_mono (mt_append (X:=cmpCxC X N scope own ((own,P2.objs.size+1)::closOf X.env.cells scope.names []) P2.objs.size s2 H2 fp) _ s8 σ6 H8 (.ref s2.heap.objs.size) [yv] (.ref s2.heap.objs.size) [y]
     (fun v H9=>v=.non∧∃ m',m'<n∧W (i+1) m' H9) I8 rfl (.cons r8 .nil) ⟨_,ys,yv,rfl,rfl,hys,hlen,rfl,w8⟩) (fun r s9 ⟨v9,H9,I9,r9,e9,w9⟩=>?_) fun _ _ z=>(show False from z).elim)
    exact wpAny_pure (wpAny_pure ⟨rfl,again I9 w9⟩)
 exact codeAny_compStart_list (loop _) (T.self _ 0 _ _ _ stK (loop _))
theorem pe_compC {elt tg iter:Expr}{ifs:List Expr}{pos:Pos}{wi:TI}{g:TG}{tif:TT}{te:TE}(S:CompScopeC X N sl scope own)(hcalm:X.calm=true)(hi:PI X tg iter wi)
  (hg:∀ cl C s2 H2 fp,PG (cmpCxC X N scope own cl C s2 H2 fp) tg g) (hif:∀ cl C s2 H2 fp,PIf (cmpCxC X N scope own cl C s2 H2 fp) ifs tif) (he:∀ cl C s2 H2 fp,PE (cmpCxC X N scope own cl C s2 H2 fp) elt te)
  (hs:∀ x,foldedSetIterable iter X.env x=pure x:=by intro _;rfl):
  PE X (.ListComp elt [⟨tg,iter,ifs,0⟩] scope pos) (tComp wi sl g tif te):=by
 refine⟨?_⟩
 intro pins s σ H Q I h
 rw[eval_ListComp]
 refine comp_runC S hcalm hi hg hif he hs I h fun D C H3 s4 fl I4 n1 n2 n3 n4 n5 n6 ⟨m,hn⟩ q=>?_
 exact⟨m,hn,fun h' hsb=>⟨.ref D,H3,I4.turned (t':=s4.toks) (fun b o hb e=>(hsb.2 b hb).trans e) n1 n2 (.inr n4) n5 n6,rfl,q⟩⟩
end
def relabelS (scope osc:Scope):Scope:=
 { scope with names:=scope.names.map fun (n,k)=>if (k == .free && osc.kind == .function && osc.names.lookup n == some .cell) then (n,.cell) else (n,k) }
theorem one_cell {own:Str}:∀ {names:List (Str×NameKind)},(names.filter fun y=>decide (y.2=.cell))=[(own,.cell)]→(∀ n acc,cellsFrom n names acc=(own,n)::acc)∧∀ h,pushCells h names=h.push { cls:=.type "cell",data:=.cell none }
 | [],h=>by simp at h
 | (x,k)::r,h=>by
  by_cases c:k=.cell
  ·subst c
   rw[List.filter_cons_of_pos (by simp)] at h
   have h1:x=own:=congrArg Prod.fst (List.cons.inj h).1
   have h2:(r.filter fun y=>decide (y.2=.cell))=[]:=(List.cons.inj h).2
   have none:∀ (l:List (Str×NameKind)),(l.filter fun y=>decide (y.2=.cell))=[]→(∀ n acc,cellsFrom n l acc=acc)∧∀ h,pushCells h l=h:=by
    intro l
    induction l with
    | nil=>intro _;exact⟨fun _ _=>rfl,fun _=>rfl⟩
    | cons y l ih=>
     intro hl
     obtain⟨y1,y2⟩:=y
     have hy:y2≠.cell:=fun z=>by
      rw[List.filter_cons_of_pos (by simpa using z)] at hl
      cases hl
     rw[List.filter_cons_of_neg (by simpa using hy)] at hl
     obtain⟨i1,i2⟩:=ih hl
     have hb:(y2 == NameKind.cell)=false:=by simpa using hy
     refine⟨fun n acc=>?_,fun h=>?_⟩
     ·unfold cellsFrom;rw[hb];exact i1 n acc
     ·unfold pushCells;rw[hb];exact i2 h
   obtain⟨n1,n2⟩:=none r h2
   subst h1
   refine⟨fun n acc=>?_,fun h=>?_⟩
   ·unfold cellsFrom;exact n1 _ _
   ·unfold pushCells;exact n2 _
  ·rw[List.filter_cons_of_neg (by simpa using c)] at h
   obtain⟨i1,i2⟩:=one_cell h
   have hb:(k == NameKind.cell)=false:=by simpa using c
   refine⟨fun n acc=>?_,fun h=>?_⟩
   ·unfold cellsFrom;rw[hb];exact i1 n acc
   ·unfold pushCells;rw[hb];exact i2 h
def compOkC (osc:Scope)(ON N:List Str)(sl:List (Option Nat))(scope:Scope)(own:Str):Bool:=
 decide (scope.kind=.function) && decide ((scope.names.filter fun y=>decide (y.2=.cell))=[(own,.cell)]) && decide (scope.names.lookup own=some .cell) && scope.names.all (fun y=>decide (y.2=.local→scope.names.lookup y.1=some .local)) &&
 scope.names.all (fun y=>decide (y.2=.free→osc.names.lookup y.1=some .cell∨osc.names.lookup y.1=some .free)) && decide (sl.length=N.length) &&
 (List.range N.length).all fun j=>match N[j]?,sl[j]? with
  | some x,some (some i)=>decide (ON[i]?=some x∧scope.names.lookup x=some .free)
  | _,_=>true
theorem compScopeC_mk {X:Cx}{N:List Str}{sl:List (Option Nat)}{scope:Scope}(own:Str)(osc:Scope)(ON:List Str)(h1:X.env.scope=osc)(h2:X.N=ON)(hb:compOkC osc ON N sl scope own=true):CompScopeC X N sl scope own:=by
 unfold compOkC at hb
 simp only[Bool.and_eq_true,decide_eq_true_eq,List.all_eq_true] at hb
 obtain⟨⟨⟨⟨⟨⟨b1,b2⟩,b2'⟩,b3⟩,b4⟩,b5⟩,b6⟩:=hb
 obtain⟨o1,o2⟩:=one_cell b2
 refine⟨b1,o1,o2,fun x hx=>?_,b2',b3,fun y hy hf=>?_,b5,fun j i x e1 e2=>?_⟩
 ·have:(x,NameKind.cell)∈(scope.names.filter fun y=>decide (y.2=.cell)):=List.mem_filter.mpr ⟨PySem.mem_of_lookup hx,by simp⟩
  rw[b2] at this
  exact congrArg Prod.fst (List.mem_singleton.mp this)
 ·have:=b4 y hy hf
  show X.env.scope.names.lookup y.1=_∨X.env.scope.names.lookup y.1=_
  rw[h1]
  exact this
 ·have hj:j<N.length:=(List.getElem?_eq_some_iff.mp e1).1
  have:=b6 j (List.mem_range.mpr hj)
  rw[e1,e2] at this
  have q:=of_decide_eq_true this
  rw[h2]
  exact q
def stComp:Stmt→Scope
 | .Return (some (.ListComp _ _ sc _)) _=>sc
 | .Assign _ (.ListComp _ _ sc _) _=>sc
 | _=>default
end L2
set_option Elab.async false
set_option linter.all false
set_option maxRecDepth 100000
namespace L2
open PySem PySem.Spec PyProof.Rows
section
variable {X:Cx} {tg:Expr}
end
end L2
set_option Elab.async false
set_option linter.all false
set_option maxRecDepth 100000
namespace L2
open PySem PySem.Spec PySem.W PyProof.Rows
section
variable {prog:Program} {w:World} {A:Around} {E:Value→Shared→Prop}
theorem draw_list {it t:Addr}{items:Array Value}(hne:t≠it):∀ (n i:Nat) (s:Shared) (Q:List Value→Shared→Prop),s.heap.IsListIter it t i→s.heap.IsList t items→i+n≤items.size→
  (∀ h',h'.IsListIter it t (i+n)→Heap.SameBut it s.heap h'→Q ((items.toList.drop i).take n) { s with heap:=h' })→wpAny (model prog w) A (draw (.ref it) n) Q E s
 | 0,i,s,Q,hit,_,_,hQ=>by
  show wpAny _ _ (pure []) Q E s
  exact wpAny_pure (by simpa using hQ s.heap hit (Heap.SameBut.refl ..))
 | n+1,i,s,Q,hit,ht,hle,hQ=>by
  have hlt:i<items.size:=by omega
  show wpAny _ _ (pyNext (.ref it) >>= _) Q E s
  refine wpAny_bind (wpAny_pyNext_list_item hit ht (x:=items[i]) (by simp[hlt]) fun h₁ hit₁ hs₁=>?_)
  refine wpAny_bind (wpAny_holding (draw_list hne n (i+1) _ _ hit₁ (ht.extBut hs₁.extBut hne) (by omega) fun h₂ hit₂ hs₂=>wpAny_pure ?_))
  have hd:items.toList.drop i=items[i]::items.toList.drop (i+1):=by simp[List.drop_eq_getElem_cons,hlt]
  have:=hQ h₂ (by rw[show i+(n+1)=i+1+n by omega];exact hit₂) (hs₁.trans hs₂)
  rw[hd,List.take_succ_cons] at this
  exact this
variable {s:Shared}
theorem unpackItems_list {t:Addr}{items:Array Value}{Q:List Value→Shared→Prop}(hh:A.handled=none)(ht:s.heap.IsList t items)
  (hQ:∀ h',Heap.ExtBut s.heap.objs.size s.heap h'→Q items.toList { s with heap:=h' }):wpAny (model prog w) A (unpackItems (.ref t) items.size none) Q E s:=by
 have hlt:t≠s.heap.objs.size:=by obtain⟨o,ho,_⟩:=ht;exact Nat.ne_of_lt (Heap.lt_size ho)
 unfold unpackItems
 refine wpAny_bind ?_
 ·unfold notIterableAtAll
  refine wpAny_bind (wpAny_specialOf ht.typeIs slot_list_iter.lookup ?_)
  refine wpAny_pure ?_
  simp only[Bool.false_eq_true,if_false]
  refine wpAny_bind (wpAny_holding (wpAny_pyIter_list ht ?_))
  refine wpAny_bind (wpAny_holding (draw_list hlt items.size 0 _ _ ⟨_,Heap.get?_push_size _ rfl,rfl,rfl⟩ (ht.push _) (by omega) fun h₁ hit₁ hs₁=>?_))
  have hall:List.take items.size (List.drop 0 items.toList)=items.toList:=by
   rw[List.drop_zero];exact List.take_of_length_le (by simp)
  rw[hall]
  rw[if_neg (by simp)]
  have ht₁:h₁.IsList t items:=(ht.push _).extBut hs₁.extBut hlt
  refine wpAny_bind (wpAny_holding (wpAny_pyNext_list_end hh hit₁ ht₁ (by simp) fun h₂ he₂=>?_))
  simp only[Option.isSome_none,Bool.false_eq_true,if_false]
  refine wpAny_pure (hQ h₂ fun b o hb e=>he₂ b o hb (hs₁.extBut b o hb (Heap.get?_push_of_some _ e)))
theorem unpack_list {t:Addr}{items:Array Value}{targets:List (Bool×(Value→Sem Unit))}{Q:Unit→Shared→Prop}(hh:A.handled=none)(ht:s.heap.IsList t items)
  (hn:targets.length=items.size) (hstar:targets.findIdx? (·.1)=none)
  (h:∀ h',Heap.ExtBut s.heap.objs.size s.heap h'→wpAny (model prog w) A (assignInOrder (targets.map (·.2)) items.toList) Q E { s with heap:=h' }):
  wpAny (model prog w) A (unpack (.ref t) targets) Q E s:=by
 unfold unpack
 rw[hn,hstar]
 exact wpAny_bind (wpAny_holding (unpackItems_list hh ht h))
theorem assign_Tuple_list {env:Env}{elts:List Expr}{x1}{pos:Pos}{t:Addr}{items:Array Value}{Q:Unit→Shared→Prop}(hh:A.handled=none)(ht:s.heap.IsList t items)
  (hn:(assignEach elts env).length=items.size) (hstar:(assignEach elts env).findIdx? (·.1)=none)
  (h:∀ h',Heap.ExtBut s.heap.objs.size s.heap h'→wpAny (model prog w) A (assignInOrder ((assignEach elts env).map (·.2)) items.toList) Q E { s with heap:=h' }):
  wpAny (model prog w) A (assign (.Tuple elts x1 pos) env (.ref t)) Q E s:=by
 rw[assign_Tuple]
 exact wpAny_bind (wpAny_standAt (unpack_list hh ht hn hstar h))
end
section
variable {X:Cx}
def gLst (K:FrQ)(n:Nat)(t:TGs):TG:=fun v σ H Q=>∃ a xs,v=.ref a∧SqL K H a xs∧xs.length=n∧t xs σ H Q
theorem pg_lst {es:List Expr}{k:Nat}{t:TGs}{n:Nat}{pos:Pos}(hc:X.calm=true)(h:PGs X es t)
  (hn:(assignEach es X.env).length=n:=by rfl) (hst:(assignEach es X.env).findIdx? (·.1)=none:=by rfl):PG X (.Tuple es k pos) (gLst X.K n t):=by
 intro pins s σ H v u Q I r hw
 obtain⟨a,xs,e1,hq,hl,hw⟩:=hw
 subst e1
 cases r
 obtain⟨its,rv,ht,hz⟩:=I.list hq
 refine assign_Tuple_list (I.ok.hd hc) ht.isList (by simp[hn,← hl,rv.length]) hst fun h' hx=>?_
 have I1:Inv X pins σ H { s with heap:=h' }:=I.kept (t':=s.toks) fun b o e=>hx b o (Nat.ne_of_lt (Heap.lt_size e)) e
 exact h pins _ σ H xs _ Q I1 (by simpa using rv) hw
theorem pgK_lst {K:FrQ}{es:List Expr}{k:Nat}{t:TGs}{n:Nat}{pos:Pos}(hK:X.K=K)(hc:X.calm=true)(h:PGs X es t)
  (hn:(assignEach es X.env).length=n:=by rfl) (hst:(assignEach es X.env).findIdx? (·.1)=none:=by rfl):PG X (.Tuple es k pos) (gLst K n t):=by subst hK;exact pg_lst hc h hn hst
end
end L2
set_option Elab.async false
set_option linter.all false
namespace L2
open PySem
section
variable {K:FrQ} {mg:Str→Option Value} {x qual:Str} {st:Stmt} {ps:List Str} {C:Addr}
def FnIn (K:FrQ)(x qual:Str)(st:Stmt)(f:Addr):Prop:=∃ (oc:Value) (od an:Option Addr) (osl:Array (Option Value)) (kV doc pm cdv ct:Value),K.lookup f=some ⟨oc,od,.func (PySem.W.fnOf x qual (defArgs st) (defBody st) (defScope st) .none kV doc pm an cdv ct),osl⟩∧PySem.W.codeIn K cdv qual=true∧PySem.W.keepIn K (.ref f)=true
def GlIn (K:FrQ)(x:Str)(st:Stmt):Prop:=∃ f,PySem.W.nsIn K mainGlobals x=some (some (.ref f))∧FnIn K x x st f
def MtIn (K:FrQ)(C:Addr)(m qual:Str)(st:Stmt):Prop:=∃ f,PySem.W.findIn K (.ref C) m=some (some (.ref f))∧PySem.W.isFn K (.ref f)=true∧FnIn K m qual st f
def BdAs (x qual:Str)(st:Stmt)(ps:List Str):Prop:=∀ (kV doc pm:Value) (an:Option Addr) (cdv ct:Value) (us:List Value),us.length=ps.length→bindArgs (PySem.W.fnOf x qual (defArgs st) (defBody st) (defScope st) .none kV doc pm an cdv ct) ⟨us,[]⟩=pure (ps.zip us)
theorem gl_mk {f:Addr}{oc:Value}{od an:Option Addr}{osl:Array (Option Value)}{kV doc pm cdv ct:Value}(a:PySem.W.nsIn K mainGlobals x=some (some (.ref f)))(l:K.lookup f=some ⟨oc,od,.func (PySem.W.fnOf x x (defArgs st) (defBody st) (defScope st) .none kV doc pm an cdv ct),osl⟩)(c:PySem.W.codeIn K cdv x=true)(k:PySem.W.keepIn K (.ref f)=true):GlIn K x st:=
 ⟨f,a,oc,od,an,osl,kV,doc,pm,cdv,ct,l,c,k⟩
theorem mt_mk {f:Addr}{oc:Value}{od an:Option Addr}{osl:Array (Option Value)}{kV doc pm cdv ct:Value}(a:PySem.W.findIn K (.ref C) x=some (some (.ref f)))(i:PySem.W.isFn K (.ref f)=true)(l:K.lookup f=some ⟨oc,od,.func (PySem.W.fnOf x qual (defArgs st) (defBody st) (defScope st) .none kV doc pm an cdv ct),osl⟩)(c:PySem.W.codeIn K cdv qual=true)(k:PySem.W.keepIn K (.ref f)=true):MtIn K C x qual st:=
 ⟨f,a,i,oc,od,an,osl,kV,doc,pm,cdv,ct,l,c,k⟩
theorem src_in {h:Heap}(X:K.In h)(G:h.Ns mainGlobals mg)(g:GlIn K x st)(hb:BdAs x x st ps):Src K mg x st ps:=by
 obtain⟨f,a,oc,od,an,osl,kV,doc,pm,cdv,ct,l,c,k⟩:=g
 exact src_mk X G a l c k hb
theorem msrc_in (g:MtIn K C x qual st)(hb:BdAs x qual st ps):MSrc K C x qual st ps:=by
 obtain⟨f,a,i,oc,od,an,osl,kV,doc,pm,cdv,ct,l,c,k⟩:=g
 exact msrc_mk a i l c k hb
theorem init_in {h:Heap}{y:Str}(X:K.In h)(G:h.Ns mainGlobals mg)(mk:PySem.W.makesIn K C=true)(kc:PySem.W.keepIn K (.ref C)=true)(aC:PySem.W.nsIn K mainGlobals y=some (some (.ref C)))(g:MtIn K C "__init__" qual st)(hb:BdAs "__init__" qual st ps):∃ f fd,Mk K C f∧Fun K "__init__" qual st f fd∧Binds K fd ps []∧mg y=some (.ref C):=by
 obtain⟨f,a,i,oc,od,an,osl,kV,doc,pm,cdv,ct,l,c,k⟩:=g
 exact⟨f,_,⟨mk,a,i,kc⟩,fun_mk l c k,(fun_mk l c k).binds (ps:=ps) hb,PySem.W.mg_of X G aC⟩
theorem us_cons {us:List Value}{n:Nat}(h:us.length=n+1):∃ x t,us=x::t∧t.length=n:=by
 cases us with
 | nil=>simp at h
 | cons x t=>exact⟨x,t,rfl,by simpa using h⟩
theorem bd0 (h:∀ (kV doc pm:Value) (an:Option Addr) (cdv ct:Value),bindArgs (PySem.W.fnOf x qual (defArgs st) (defBody st) (defScope st) .none kV doc pm an cdv ct) ⟨[],[]⟩=pure ([])):BdAs x qual st []:=by
 intro a b c d e f us hl
 obtain rfl:=List.eq_nil_of_length_eq_zero hl
 exact h a b c d e f
theorem bd1 {a0:Str}(h:∀ (kV doc pm:Value) (an:Option Addr) (cdv ct:Value) (u0:Value),bindArgs (PySem.W.fnOf x qual (defArgs st) (defBody st) (defScope st) .none kV doc pm an cdv ct) ⟨[u0],[]⟩=pure ([(a0,u0)])):BdAs x qual st [a0]:=by
 intro a b c d e f us hl
 obtain⟨u0,t0,rfl,h0⟩:=us_cons hl
 obtain rfl:=List.eq_nil_of_length_eq_zero h0
 exact h a b c d e f u0
theorem bd2 {a0 a1:Str}(h:∀ (kV doc pm:Value) (an:Option Addr) (cdv ct:Value) (u0 u1:Value),bindArgs (PySem.W.fnOf x qual (defArgs st) (defBody st) (defScope st) .none kV doc pm an cdv ct) ⟨[u0,u1],[]⟩=pure ([(a0,u0),(a1,u1)])):BdAs x qual st [a0,a1]:=by
 intro a b c d e f us hl
 obtain⟨u0,t0,rfl,h0⟩:=us_cons hl
 obtain⟨u1,t1,rfl,h1⟩:=us_cons h0
 obtain rfl:=List.eq_nil_of_length_eq_zero h1
 exact h a b c d e f u0 u1
theorem bd3 {a0 a1 a2:Str}(h:∀ (kV doc pm:Value) (an:Option Addr) (cdv ct:Value) (u0 u1 u2:Value),bindArgs (PySem.W.fnOf x qual (defArgs st) (defBody st) (defScope st) .none kV doc pm an cdv ct) ⟨[u0,u1,u2],[]⟩=pure ([(a0,u0),(a1,u1),(a2,u2)])):BdAs x qual st [a0,a1,a2]:=by
 intro a b c d e f us hl
 obtain⟨u0,t0,rfl,h0⟩:=us_cons hl
 obtain⟨u1,t1,rfl,h1⟩:=us_cons h0
 obtain⟨u2,t2,rfl,h2⟩:=us_cons h1
 obtain rfl:=List.eq_nil_of_length_eq_zero h2
 exact h a b c d e f u0 u1 u2
theorem bd4 {a0 a1 a2 a3:Str}(h:∀ (kV doc pm:Value) (an:Option Addr) (cdv ct:Value) (u0 u1 u2 u3:Value),bindArgs (PySem.W.fnOf x qual (defArgs st) (defBody st) (defScope st) .none kV doc pm an cdv ct) ⟨[u0,u1,u2,u3],[]⟩=pure ([(a0,u0),(a1,u1),(a2,u2),(a3,u3)])):BdAs x qual st [a0,a1,a2,a3]:=by
 intro a b c d e f us hl
 obtain⟨u0,t0,rfl,h0⟩:=us_cons hl
 obtain⟨u1,t1,rfl,h1⟩:=us_cons h0
 obtain⟨u2,t2,rfl,h2⟩:=us_cons h1
 obtain⟨u3,t3,rfl,h3⟩:=us_cons h2
 obtain rfl:=List.eq_nil_of_length_eq_zero h3
 exact h a b c d e f u0 u1 u2 u3
end
end L2
set_option Elab.async false
set_option linter.all false
set_option maxRecDepth 100000
set_option maxHeartbeats 1000000
namespace K15
open PySem L2 Alg
local macro_rules | `(tactic| walk_at "sc") => `(tactic| exact ⟨rfl, rfl, rfl, by decide +kernel, rfl, by decide +kernel, by decide +kernel⟩)
local macro_rules | `(tactic| walk_at "rd") => `(tactic| repeat ((fail_if_success with_reducible refine ite2 ?_ ?_); first | refine ⟨_, rfl, ?_⟩ | refine ⟨_, _, rfl, rfl, ?_⟩ | refine ⟨show (_ : Int) ≠ 0 by decide, ?_⟩ | refine ⟨show CMulO _ _ from mulOkR (by decide) (by decide), ?_⟩ | refine ⟨show CMulO _ _ from mulOkL (by decide) (by decide), ?_⟩ | refine ⟨show CDivW _ _ from (Bd.small (by decide) (by decide)).dv (by decide), ?_⟩ | refine ⟨show CPow _ _ from ⟨by decide, by decide, by decide⟩, ?_⟩ | refine ⟨show scal _ _ = true from rfl, ?_⟩ | refine ⟨show isPlain _ = true from rfl, ?_⟩ | refine ⟨show List.length _ ≤ sizeLine from len_ok rfl, ?_⟩))
def top (i:Nat):Stmt:=PySem.Challenge.pw_branchdepth_k15_what_is_no_tower.main.body.getD i (.Pass ⟨0,0,0,0⟩)
abbrev s_copied:Stmt:=top 2
theorem sc_copied:FnScope ["thing"] ["thing"] (defScope s_copied):=by walk_at "sc"
abbrev s_is_whole:Stmt:=top 15
theorem sc_is_whole:FnScope ["thing"] ["thing"] (defScope s_is_whole):=by walk_at "sc"
abbrev s_is_prime:Stmt:=top 16
theorem sc_is_prime:FnScope ["k"] ["k"] (defScope s_is_prime):=by walk_at "sc"
abbrev s_number_power:Stmt:=top 17
theorem sc_number_power:FnScope ["k","n","told","turn"] ["k","n"] (defScope s_number_power):=by walk_at "sc"
abbrev s_without_noughts:Stmt:=top 19
theorem sc_without_noughts:FnScope ["tower","terms","many"] ["tower","terms"] (defScope s_without_noughts):=by walk_at "sc"
abbrev s_minus_poly:Stmt:=top 20
theorem sc_minus_poly:FnScope ["tower","f","g","many","ahead","behind"] ["tower","f","g"] (defScope s_minus_poly):=by walk_at "sc"
abbrev s_scaled_poly:Stmt:=top 21
theorem sc_scaled_poly:FnScope ["tower","u","f"] ["tower","u","f"] (defScope s_scaled_poly):=by walk_at "sc"
abbrev s_times_poly:Stmt:=top 22
theorem sc_times_poly:FnScope ["tower","f","g","product","at","one","place","other"] ["tower","f","g"] (defScope s_times_poly):=by walk_at "sc"
abbrev s_over_monic:Stmt:=top 23
theorem sc_over_monic:FnScope ["tower","f","g","rest","quotient","degree","lead","at","place"] ["tower","f","g"] (defScope s_over_monic):=by walk_at "sc"
abbrev s_monic_of:Stmt:=top 24
theorem sc_monic_of:FnScope ["tower","f"] ["tower","f"] (defScope s_monic_of):=by walk_at "sc"
abbrev s_over_poly:Stmt:=top 25
theorem sc_over_poly:FnScope ["tower","f","g","back","quotient","rest"] ["tower","f","g"] (defScope s_over_poly):=by walk_at "sc"
abbrev s_common_poly:Stmt:=top 26
theorem sc_common_poly:FnScope ["tower","f","g","one","other"] ["tower","f","g"] (defScope s_common_poly):=by walk_at "sc"
abbrev s_power_by:Stmt:=top 27
theorem sc_power_by:FnScope ["tower","g","n","f","told","square","left"] ["tower","g","n","f"] (defScope s_power_by):=by walk_at "sc"
abbrev s_letter_of:Stmt:=top 28
theorem sc_letter_of:FnScope ["tower"] ["tower"] (defScope s_letter_of):=by walk_at "sc"
abbrev s_letter_to_powers:Stmt:=top 29
theorem sc_letter_to_powers:FnScope ["tower","f","many","told","turn"] ["tower","f","many"] (defScope s_letter_to_powers):=by walk_at "sc"
abbrev s_primes_in:Stmt:=top 30
theorem sc_primes_in:FnScope ["n"] ["n"] (defScope s_primes_in):=by walk_at "sc"
abbrev s_is_alone:Stmt:=top 31
theorem sc_is_alone:FnScope ["tower","f","degree","powers","r","ahead"] ["tower","f"] (defScope s_is_alone):=by walk_at "sc"
abbrev s_power_in:Stmt:=top 33
theorem sc_power_in:FnScope ["storey","u","n","left","told","square"] ["storey","u","n"] (defScope s_power_in):=by walk_at "sc"
abbrev s_is_monic_over:Stmt:=top 39
theorem sc_is_monic_over:FnScope ["top","thing","term"] ["top","thing"] (defScope s_is_monic_over):=by walk_at "sc"
abbrev s_is_next_part:Stmt:=top 40
theorem sc_is_next_part:FnScope ["top","thing"] ["top","thing"] (defScope s_is_next_part):=by walk_at "sc"
abbrev s_top_of_any:Stmt:=top 41
theorem sc_top_of_any:FnScope ["p","parts","top","at","part"] ["p","parts"] (defScope s_top_of_any):=by walk_at "sc"
abbrev s_q_bag:Stmt:=top 44
theorem sc_q_bag:FnScope ["_law_script","_law_at","_law_cell","_law_great"] ["_law_script","_law_at"] (defScope s_q_bag):=by walk_at "sc"
abbrev s_q_take:Stmt:=top 45
theorem sc_q_take:FnScope ["_law_bag_here","_law_many","_law_digit"] ["_law_bag_here","_law_many"] (defScope s_q_take):=by walk_at "sc"
abbrev s_q_element:Stmt:=top 46
theorem sc_q_element:FnScope ["_law_bag_here","_law_p","_law_wides"] ["_law_bag_here","_law_p","_law_wides"] (defScope s_q_element):=by walk_at "sc"
abbrev s_q_part:Stmt:=top 47
theorem sc_q_part:FnScope ["_law_bag_here","_law_tower_here","_law_wides","_law_many","_law_turn","_law_part_here"] ["_law_bag_here","_law_tower_here","_law_wides","_law_many"] (defScope s_q_part):=by walk_at "sc"
abbrev s_q_tower:Stmt:=top 48
theorem sc_q_tower:FnScope ["_law_bag_here","_law_p","_law_room","_law_wides","_law_parts","_law_tower_here","_law_k","_law_part_here"] ["_law_bag_here"] (defScope s_q_tower):=by walk_at "sc"
abbrev s_q_refusal:Stmt:=top 49
theorem sc_q_refusal:FnScope ["_law_p","_law_parts","e"] ["_law_p","_law_parts"] (defScope s_q_refusal):=by walk_at "sc"
abbrev s_q_product:Stmt:=top 50
theorem sc_q_product:FnScope ["_law_tower_here","_law_u","_law_v"] ["_law_tower_here","_law_u","_law_v"] (defScope s_q_product):=by walk_at "sc"
abbrev s_q_bad_parts:Stmt:=top 51
theorem sc_q_bad_parts:FnScope ["_law_tower_here","_law_parts","_law_bag_here","_law_wides","_law_some","_law_zero","_law_one","_law_odd","_law_found"] ["_law_tower_here","_law_parts","_law_bag_here","_law_wides"] (defScope s_q_bad_parts):=by walk_at "sc"
abbrev s_q_not_alone:Stmt:=top 52
theorem sc_q_not_alone:FnScope ["_law_tower_here","_law_parts","_law_bag_here","_law_wides","_law_at","_law_lower","_law_some","_law_more"] ["_law_tower_here","_law_parts","_law_bag_here","_law_wides"] (defScope s_q_not_alone):=by walk_at "sc"
abbrev s_q_wide_parts:Stmt:=top 53
theorem sc_q_wide_parts:FnScope ["_law_one","_law_zero","_law_wide","_law_more","_law_last","_law_both"] [] (defScope s_q_wide_parts):=by walk_at "sc"
abbrev s_q_parts_apart:Stmt:=top 54
theorem sc_q_parts_apart:FnScope ["_law_tower_here","_law_parts","_law_bag_here","_law_wides","_law_u","_law_v","_law_ahead","_law_field","_law_part_here"] ["_law_tower_here","_law_parts","_law_bag_here","_law_wides"] (defScope s_q_parts_apart):=by walk_at "sc"
abbrev s_law:Stmt:=top 55
theorem sc_law:FnScope ["_law_script","_law_tower_here","_law_parts","_law_wides","_law_bag_here","_law_p","_law_thing","_law_kept"] ["_law_script"] (defScope s_law):=by walk_at "sc"
abbrev s_Ground_init:Stmt:=inClass (top 34) 0
theorem sc_Ground_init:FnScope ["self","p"] ["self","p"] (defScope s_Ground_init):=by walk_at "sc"
abbrev s_Ground_degree:Stmt:=inClass (top 34) 1
theorem sc_Ground_degree:FnScope ["self"] ["self"] (defScope s_Ground_degree):=by walk_at "sc"
abbrev s_Ground_zero:Stmt:=inClass (top 34) 2
theorem sc_Ground_zero:FnScope ["self"] ["self"] (defScope s_Ground_zero):=by walk_at "sc"
abbrev s_Ground_one:Stmt:=inClass (top 34) 3
theorem sc_Ground_one:FnScope ["self"] ["self"] (defScope s_Ground_one):=by walk_at "sc"
abbrev s_Ground_whole:Stmt:=inClass (top 34) 4
theorem sc_Ground_whole:FnScope ["self","k"] ["self","k"] (defScope s_Ground_whole):=by walk_at "sc"
abbrev s_Ground_plus:Stmt:=inClass (top 34) 5
theorem sc_Ground_plus:FnScope ["self","u","v"] ["self","u","v"] (defScope s_Ground_plus):=by walk_at "sc"
abbrev s_Ground_minus:Stmt:=inClass (top 34) 6
theorem sc_Ground_minus:FnScope ["self","u","v"] ["self","u","v"] (defScope s_Ground_minus):=by walk_at "sc"
abbrev s_Ground_times:Stmt:=inClass (top 34) 7
theorem sc_Ground_times:FnScope ["self","u","v"] ["self","u","v"] (defScope s_Ground_times):=by walk_at "sc"
abbrev s_Ground_back:Stmt:=inClass (top 34) 8
theorem sc_Ground_back:FnScope ["self","u"] ["self","u"] (defScope s_Ground_back):=by walk_at "sc"
abbrev s_Ground_power:Stmt:=inClass (top 34) 9
theorem sc_Ground_power:FnScope ["self","u","n"] ["self","u","n"] (defScope s_Ground_power):=by walk_at "sc"
abbrev s_Ground_is_nought:Stmt:=inClass (top 34) 10
theorem sc_Ground_is_nought:FnScope ["self","u"] ["self","u"] (defScope s_Ground_is_nought):=by walk_at "sc"
abbrev s_Ground_is_element:Stmt:=inClass (top 34) 11
theorem sc_Ground_is_element:FnScope ["self","thing"] ["self","thing"] (defScope s_Ground_is_element):=by walk_at "sc"
abbrev s_Storey_init:Stmt:=inClass (top 35) 0
theorem sc_Storey_init:FnScope ["self","floor","part"] ["self","floor","part"] (defScope s_Storey_init):=by walk_at "sc"
abbrev s_Storey_width:Stmt:=inClass (top 35) 1
theorem sc_Storey_width:FnScope ["self"] ["self"] (defScope s_Storey_width):=by walk_at "sc"
abbrev s_Storey_degree:Stmt:=inClass (top 35) 2
theorem sc_Storey_degree:FnScope ["self"] ["self"] (defScope s_Storey_degree):=by walk_at "sc"
abbrev s_Storey_zero:Stmt:=inClass (top 35) 3
theorem sc_Storey_zero:FnScope ["self"] ["self"] (defScope s_Storey_zero):=by walk_at "sc"
abbrev s_Storey_one:Stmt:=inClass (top 35) 4
theorem sc_Storey_one:FnScope ["self"] ["self"] (defScope s_Storey_one):=by walk_at "sc"
abbrev s_Storey_whole:Stmt:=inClass (top 35) 6
theorem sc_Storey_whole:FnScope ["self","k"] ["self","k"] (defScope s_Storey_whole):=by walk_at "sc"
abbrev s_Storey_lifted:Stmt:=inClass (top 35) 7
theorem sc_Storey_lifted:FnScope ["self","u"] ["self","u"] (defScope s_Storey_lifted):=by walk_at "sc"
abbrev s_Storey_plus:Stmt:=inClass (top 35) 8
theorem sc_Storey_plus:FnScope ["self","u","v"] ["self","u","v"] (defScope s_Storey_plus):=by walk_at "sc"
abbrev s_Storey_minus:Stmt:=inClass (top 35) 9
theorem sc_Storey_minus:FnScope ["self","u","v"] ["self","u","v"] (defScope s_Storey_minus):=by walk_at "sc"
abbrev s_Storey_times:Stmt:=inClass (top 35) 10
theorem sc_Storey_times:FnScope ["self","u","v","floor","product","at","one","place","other"] ["self","u","v"] (defScope s_Storey_times):=by walk_at "sc"
abbrev s_Storey_back:Stmt:=inClass (top 35) 11
theorem sc_Storey_back:FnScope ["self","u","floor","rest_ahead","rest","factor_ahead","factor","quotient","next_rest","next_factor"] ["self","u"] (defScope s_Storey_back):=by walk_at "sc"
abbrev s_Storey_by_part:Stmt:=inClass (top 35) 13
theorem sc_Storey_by_part:FnScope ["self","terms","floor","width","told","lead","at","place"] ["self","terms"] (defScope s_Storey_by_part):=by walk_at "sc"
abbrev s_Storey_is_nought:Stmt:=inClass (top 35) 14
theorem sc_Storey_is_nought:FnScope ["self","u","term"] ["self","u"] (defScope s_Storey_is_nought):=by walk_at "sc"
abbrev s_Storey_is_element:Stmt:=inClass (top 35) 15
theorem sc_Storey_is_element:FnScope ["self","thing","term"] ["self","thing"] (defScope s_Storey_is_element):=by walk_at "sc"
abbrev s_Tower_init:Stmt:=inClass (top 42) 0
theorem sc_Tower_init:FnScope ["self","p","parts"] ["self","p","parts"] (defScope s_Tower_init):=by walk_at "sc"
abbrev s_Tower_degree:Stmt:=inClass (top 42) 1
theorem sc_Tower_degree:FnScope ["self"] ["self"] (defScope s_Tower_degree):=by walk_at "sc"
abbrev s_Tower_zero:Stmt:=inClass (top 42) 2
theorem sc_Tower_zero:FnScope ["self"] ["self"] (defScope s_Tower_zero):=by walk_at "sc"
abbrev s_Tower_one:Stmt:=inClass (top 42) 3
theorem sc_Tower_one:FnScope ["self"] ["self"] (defScope s_Tower_one):=by walk_at "sc"
abbrev s_Tower_whole:Stmt:=inClass (top 42) 5
theorem sc_Tower_whole:FnScope ["self","k"] ["self","k"] (defScope s_Tower_whole):=by walk_at "sc"
abbrev s_Tower_plus:Stmt:=inClass (top 42) 6
theorem sc_Tower_plus:FnScope ["self","u","v"] ["self","u","v"] (defScope s_Tower_plus):=by walk_at "sc"
abbrev s_Tower_minus:Stmt:=inClass (top 42) 7
theorem sc_Tower_minus:FnScope ["self","u","v"] ["self","u","v"] (defScope s_Tower_minus):=by walk_at "sc"
abbrev s_Tower_times:Stmt:=inClass (top 42) 8
theorem sc_Tower_times:FnScope ["self","u","v"] ["self","u","v"] (defScope s_Tower_times):=by walk_at "sc"
abbrev s_Tower_back:Stmt:=inClass (top 42) 9
theorem sc_Tower_back:FnScope ["self","u"] ["self","u"] (defScope s_Tower_back):=by walk_at "sc"
abbrev s_Tower_is_nought:Stmt:=inClass (top 42) 11
theorem sc_Tower_is_nought:FnScope ["self","u"] ["self","u"] (defScope s_Tower_is_nought):=by walk_at "sc"
abbrev s_Tower_is_element:Stmt:=inClass (top 42) 12
theorem sc_Tower_is_element:FnScope ["self","thing"] ["self","thing"] (defScope s_Tower_is_element):=by walk_at "sc"
structure Blt (mg:Str→Option Value):Prop where
 «ValueError»:mg "ValueError"=none
 «abs»:mg "abs"=none
 «all»:mg "all"=none
 «bool»:mg "bool"=none
 «enumerate»:mg "enumerate"=none
 «int»:mg "int"=none
 «isinstance»:mg "isinstance"=none
 «len»:mg "len"=none
 «list»:mg "list"=none
 «max»:mg "max"=none
 «min»:mg "min"=none
 «range»:mg "range"=none
 «repr»:mg "repr"=none
 «tuple»:mg "tuple"=none
 «zip»:mg "zip"=none
section
variable {P:Program} {w:World} {K:FrQ} {mg:Str→Option Value} {base:Heap} {CG CS:Addr}
theorem ok_Ground_degree (B:Blt mg)(F:MSrc K CG "degree" "Ground.degree" s_Ground_degree ["self"]):Mok P w K mg base 1 CG "degree" ["self"] (gNul CG fun _=>1):=by
 refine F.ok sc_Ground_degree (fun vs H Q E h=>?_) (fun fa cdv A outer s H vs Q E hr h=>?_)
 ·obtain⟨a,p,rfl,_⟩:=h;rfl
 obtain⟨a,p,rfl,⟨dx,ha⟩,q⟩:=h
 refine⟨_,pss_one (ps_ret pe_int),?_⟩
 exact q
theorem ok_Ground_zero (B:Blt mg)(F:MSrc K CG "zero" "Ground.zero" s_Ground_zero ["self"]):Mok P w K mg base 1 CG "zero" ["self"] (gNul CG fun _=>0):=by
 refine F.ok sc_Ground_zero (fun vs H Q E h=>?_) (fun fa cdv A outer s H vs Q E hr h=>?_)
 ·obtain⟨a,p,rfl,_⟩:=h;rfl
 obtain⟨a,p,rfl,⟨dx,ha⟩,q⟩:=h
 refine⟨_,pss_one (ps_ret pe_int),?_⟩
 exact q
theorem ok_Ground_one (B:Blt mg)(F:MSrc K CG "one" "Ground.one" s_Ground_one ["self"]):Mok P w K mg base 1 CG "one" ["self"] (gNul CG fun _=>1):=by
 refine F.ok sc_Ground_one (fun vs H Q E h=>?_) (fun fa cdv A outer s H vs Q E hr h=>?_)
 ·obtain⟨a,p,rfl,_⟩:=h;rfl
 obtain⟨a,p,rfl,⟨dx,ha⟩,q⟩:=h
 refine⟨_,pss_one (ps_ret pe_int),?_⟩
 exact q
theorem ok_Ground_plus (B:Blt mg)(c:ClG K CG)(F:MSrc K CG "plus" "Ground.plus" s_Ground_plus ["self","u","v"]):Mok P w K mg base 1 CG "plus" ["self","u","v"] (gBin CG fun x y=>x+y):=by
 refine F.ok sc_Ground_plus (fun vs H Q E h=>?_) (fun fa cdv A outer s H vs Q E hr h=>?_)
 ·obtain⟨a,p,x,y,rfl,_⟩:=h;rfl
 obtain⟨a,p,x,y,rfl,⟨dx,ha⟩,p2,p5,hx,hy,q⟩:=h
 refine⟨_,pss_one (ps_ret (pe_op op_modN (pe_op op_add (pv 1) (pv 2)) (pe_fldK (K:=K) rfl (pv 0)))),?_⟩
 walk_at "rd"
 refine⟨a,CG,dx,_,_,rfl,ha,c.cl,c.nP,lg_p,?_⟩
 refine⟨_,_,rfl,rfl,by omega,?_⟩
 show Q (V.int (Int.fmod _ (p:Int))) H
 rw[fmod_p];exact q
theorem ok_Ground_minus (B:Blt mg)(c:ClG K CG)(F:MSrc K CG "minus" "Ground.minus" s_Ground_minus ["self","u","v"]):Mok P w K mg base 1 CG "minus" ["self","u","v"] (gBin CG fun x y=>x - y):=by
 refine F.ok sc_Ground_minus (fun vs H Q E h=>?_) (fun fa cdv A outer s H vs Q E hr h=>?_)
 ·obtain⟨a,p,x,y,rfl,_⟩:=h;rfl
 obtain⟨a,p,x,y,rfl,⟨dx,ha⟩,p2,p5,hx,hy,q⟩:=h
 refine⟨_,pss_one (ps_ret (pe_op op_modN (pe_op op_sub (pv 1) (pv 2)) (pe_fldK (K:=K) rfl (pv 0)))),?_⟩
 walk_at "rd"
 refine⟨a,CG,dx,_,_,rfl,ha,c.cl,c.nP,lg_p,?_⟩
 refine⟨_,_,rfl,rfl,by omega,?_⟩
 show Q (V.int (Int.fmod _ (p:Int))) H
 rw[fmod_p];exact q
theorem ok_Ground_times (B:Blt mg)(c:ClG K CG)(F:MSrc K CG "times" "Ground.times" s_Ground_times ["self","u","v"]):Mok P w K mg base 1 CG "times" ["self","u","v"] (gBin CG fun x y=>x*y):=by
 refine F.ok sc_Ground_times (fun vs H Q E h=>?_) (fun fa cdv A outer s H vs Q E hr h=>?_)
 ·obtain⟨a,p,x,y,rfl,_⟩:=h;rfl
 obtain⟨a,p,x,y,rfl,⟨dx,ha⟩,p2,p5,hx,hy,q⟩:=h
 refine⟨_,pss_one (ps_ret (pe_op op_modN (pe_op op_mulO (pv 1) (pv 2)) (pe_fldK (K:=K) rfl (pv 0)))),?_⟩
 refine⟨_,rfl,_,rfl,_,_,rfl,rfl,mulOkR (by omega) (by omega),_,rfl,?_⟩
 refine⟨a,CG,dx,_,_,rfl,ha,c.cl,c.nP,lg_p,?_⟩
 refine⟨_,_,rfl,rfl,by omega,?_⟩
 show Q (V.int (Int.fmod _ (p:Int))) H
 rw[fmod_p];exact q
theorem ok_Ground_is_nought (B:Blt mg)(F:MSrc K CG "is_nought" "Ground.is_nought" s_Ground_is_nought ["self","u"]):Mok P w K mg base 1 CG "is_nought" ["self","u"] (gNought CG):=by
 refine F.ok sc_Ground_is_nought (fun vs H Q E h=>?_) (fun fa cdv A outer s H vs Q E hr h=>?_)
 ·obtain⟨a,p,x,rfl,_⟩:=h;rfl
 obtain⟨a,p,x,rfl,⟨dx,ha⟩,q⟩:=h
 refine⟨_,pss_one (ps_ret (pe_cmpR op_eq (pv 1) pe_int (nomark _))),?_⟩
 refine⟨_,rfl,rfl,?_⟩
 have e:decide (V.int (x:Int)=V.int 0)=decide (x=0):=by
  by_cases h:x=0
  ·rw[decide_eq_true h,decide_eq_true (by rw[h];rfl)]
  ·rw[decide_eq_false h,decide_eq_false (fun z=>h (by injection z with z;omega))]
 show Q (V.bl (decide (V.int (x:Int)=V.int 0))) H
 rw[e];exact q
theorem two0 (B:Blt mg)(c:ClG K CG)(f1:MSrc K CG "degree" "Ground.degree" s_Ground_degree ["self"])(f2:MSrc K CG "zero" "Ground.zero" s_Ground_zero ["self"])(f3:MSrc K CG "one" "Ground.one" s_Ground_one ["self"])
  (f4:MSrc K CG "plus" "Ground.plus" s_Ground_plus ["self","u","v"]) (f5:MSrc K CG "minus" "Ground.minus" s_Ground_minus ["self","u","v"]) (f6:MSrc K CG "times" "Ground.times" s_Ground_times ["self","u","v"]) (f7:MSrc K CG "is_nought" "Ground.is_nought" s_Ground_is_nought ["self","u"]):
  TwO P w K mg base 1 (IsT CG CS 0) where
 mono:=IsT.mono
 fld:=fun j=>by
  obtain⟨p,hp,rfl,dx,g⟩:=j.inv0
  exact⟨CG,dx,_,g,c.cl,c.nP,lg_p⟩
 bd:=fun j=>⟨j.d.2,by rw[j.ht];decide⟩
 d1:=fun j=>j.d.1
 degree:=gr_mth c (by decide) ((ok_Ground_degree B f1).imp fun vs H Q E ⟨⟨a,T,e,j,q⟩,_⟩=>by
  obtain⟨p,hp,rfl,g⟩:=j.inv0
  exact⟨a,p,e,g,q H (Same.refl H)⟩)
 zero:=gr_mth c (by decide) (gr_nul (fun _ _=>rfl) (ok_Ground_zero B f2))
 one:=gr_mth c (by decide) (gr_nul (fun _ _=>rfl) (ok_Ground_one B f3))
 plus:=gr_mth c (by decide) (gr_bin (fun p hp x y=>by show ((x.v:Int)+y.v) % p=(((x.v+y.v) % p:Nat):Int);rw[Int.natCast_emod,Int.natCast_add]) (ok_Ground_plus B c f4))
 minus:=gr_mth c (by decide) (gr_bin (fun p hp x y=>by
  show ((x.v:Int) - y.v) % p=(((x.v+(p - y.v) % p) % p:Nat):Int)
  have hx:=x.lt
  have hy:=y.lt
  rw[Nat.add_mod_mod,Int.natCast_emod,Int.natCast_add,Int.natCast_sub (Nat.le_of_lt hy)]
  have e:(x.v:Int)+(p - y.v)=(x.v - y.v)+p:=by omega
  rw[e,Int.add_emod_right]) (ok_Ground_minus B c f5))
 times:=gr_mth c (by decide) (gr_bin (fun p hp x y=>by
  show ((x.v:Int)*y.v) % p=(((x.v*y.v) % p:Nat):Int)
  rw[Int.natCast_emod,Int.natCast_mul]) (ok_Ground_times B c f6))
 is_nought:=gr_mth c (by decide) ((ok_Ground_is_nought B f7).imp fun vs H Q E ⟨⟨a,T,u,x,e,j,ru,q1,q2⟩,_⟩=>by
  obtain⟨p,hp,rfl,g⟩:=j.inv0
  rw[rep_gr ru] at e
  refine⟨a,p,_,e,g,?_⟩
  by_cases z:(show Zp p from x).v=0
  ·rw[decide_eq_true z];exact q1 (Zp.ext z) H (Same.refl H)
  ·rw[decide_eq_false z];exact q2 (fun y=>z (congrArg Zp.v y)) H (Same.refl H))
end
section
variable {P:Program} {w:World} {K:FrQ} {mg:Str→Option Value} {base:Heap}
theorem ok_copied (B:Blt mg)(F:Src K mg "copied" s_copied ["thing"]):∀ n,Dfn P w K mg base n "copied" ["thing"] (spCopied n)
 | 0=>F.none.imp fun vs H Q E h=>by obtain⟨v,e,m,_,h,_⟩:=h;omega
 | n+1=>by
  have d_copied:=ok_copied B F n
  refine F.ok sc_copied (fun vs H Q E h=>?_) (fun fa cdv A outer s H vs Q E hr h=>?_)
  ·obtain⟨v,e,m,rfl,_⟩:=h;rfl
  obtain⟨v,e,m,rfl,hm,fl,r,q⟩:=h
  obtain rfl:n=m:=by omega
  refine⟨_,pss_cons (ps_if (pt_val (pe_callB (callK_isinst (K:=K) rfl) rfl B.«isinstance» bt_isinstance (pa_cons (pv 0) (pa_cons (pe_bltn (v:=.ty "list") rfl B.«list» bt_list rfl) pa_nil))))
   (pss_one (ps_ret (pe_comp (compScope_mk (N:=["inner"]) (sl:=[none]) (defScope s_copied) ["thing"] rfl rfl (by decide +kernel)) rfl (piK_list (K:=K) rfl (pv 0)) (fun _ _ _ _ _=>(pg_name (i:=0) (by show List.Nodup (["inner"]:List Str);decide +kernel) rfl (Or.inl rfl))) (fun _ _ _ _ _=>pif_none) (fun _ _ _ _ _=>(pe_def d_copied hr (pa_cons (pv 0) pa_nil) (by first|decide|omega))))))
   (pss_nil))
  (pss_cons (ps_if (pt_val (pe_callB (callK_isinst (K:=K) rfl) rfl B.«isinstance» bt_isinstance (pa_cons (pv 0) (pa_cons (pe_bltn (v:=.ty "tuple") rfl B.«tuple» bt_tuple rfl) pa_nil))))
   (pss_one (ps_no))
   (pss_nil))
  (pss_one (ps_ret (pv 0)))),?_⟩
  cases fl with
  | num i=>
   cases r
   refine⟨_,rfl,_,"int","list",false,rfl,.int i,by with_unfolding_all rfl,_,rfl,iteF ?_⟩
   refine⟨_,rfl,_,"int","tuple",false,rfl,.int i,by with_unfolding_all rfl,_,rfl,iteF ?_⟩
   exact⟨_,rfl,q _ _ (Same.refl H) (.num i) fun n d e=>by cases e⟩
  | @vec n l hl fe=>
   rw[vec_of] at r q
   obtain⟨a,vs,rfl,ha,_,C⟩:=r.cf
   refine⟨_,rfl,_,"list","list",true,rfl,.lst (SqL.of ha),rfl,_,rfl,iteT ?_⟩
   refine⟨_,rfl,a,rfl,⟨_,SqL.of ha⟩,fun D hD=>?_⟩
   refine comp_list (xs:=vs) (fun i ys H2=>Same H H2∧Cf H2 (Off H D) ys i fun i=>l.getD i (.num 0)) ⟨same_new hD _,.nil⟩ (fun i ys H2 _ h=>SqL.of (h.1 _ _ ha)) ?_ ?_
   ·rintro i m x ys H2 hm hi hx hy hlen ⟨gg,cy⟩
    obtain⟨hi',rx⟩:=C.get hx
    refine⟨_,rfl,x,_,n,rfl,rfl,?_,rx.same gg,fun r H3 g3 rr _=>?_⟩
    ·have:l.getD i (.num 0)∈l:=by
      rw[List.getD_eq_getElem?_getD,List.getElem?_eq_getElem hi']
      exact List.getElem_mem hi'
     exact fe _ this
    ·refine CW.emit hm hi (by rw[C.len,sizeLine_eq];omega) (g3 _ _ hy) hlen ⟨Same.free_upd (gg.trans g3) hD _,?_⟩
     exact ((cy.same g3).push (rr.offN gg hy)).upd
   ·rintro ys H2 hy ⟨gg,cy⟩
    rw[C.len] at cy
    refine q _ _ gg (cy.newB.rep hy hD) (fun n d e=>?_)
    refine⟨D,ys,rfl,hD,hy,?_⟩
    obtain⟨e1,e2⟩:=vecN_inj e
    rw[← e1]
    exact cy.congr e2
theorem ok_number_power (B:Blt mg)(F:Src K mg "number_power" s_number_power ["k","n"]):Dfn P w K mg base 1 "number_power" ["k","n"] spNumPow:=by
 refine F.ok sc_number_power (fun vs H Q E h=>?_) (fun fa cdv A outer s H vs Q E hr h=>?_)
 ·obtain⟨k,n,rfl,_⟩:=h;rfl
 obtain⟨k,n,rfl,hk,hn,q⟩:=h
 refine⟨_,pss_cons (ps_set (i:=2) sc_number_power.nd rfl (Or.inl rfl) pe_int)
  (pss_cons (ps_for PassesOwn.never rfl (pi_range1 rfl B.«range» (pa_cons (pv 1) pa_nil)) (pg_name (i:=3) sc_number_power.nd rfl (Or.inl rfl))
   (pss_one (ps_set (i:=2) sc_number_power.nd rfl (Or.inl rfl) (pe_op op_mulO (pv 2) (pv 0)))))
  (pss_one (ps_ret (pv 2)))),?_⟩
 walk_at "rd"
 refine⟨by omega,by omega,?_⟩
 have b:∀ i:Nat,i≤100→Bd 640 ((k ^ i:Nat):Int):=fun i hi=>by
  show ((k ^ i:Nat):Int).natAbs<_
  rw[Int.natAbs_natCast]
  refine Nat.lt_of_le_of_lt (Nat.pow_le_pow_left (show k≤2 ^ 6 by omega) i) ?_
  rw[← Nat.pow_mul]
  exact Nat.pow_lt_pow_right (by decide) (by omega)
 refine for_range (fun i σ H2=>H2=H∧∃ o,σ=[some (.int k),some (.int n),some (.int ((k ^ i:Nat):Int)),o]) ⟨rfl,_,rfl⟩ ?_ ?_
 ·rintro i σ H2 hi ⟨rfl,o,rfl⟩
  refine⟨_,rfl,_,rfl,_,_,rfl,rfl,(b i (by omega)).ok (Bd.small (x:=(k:Int)) (by omega) (by omega)),?_⟩
  have e:((k ^ (i+1):Nat):Int)=((k ^ i:Nat):Int)*(k:Int):=by rw[Nat.pow_succ,Int.natCast_mul]
  rw[e]
  exact⟨rfl,_,rfl⟩
 ·rintro σ H2 ⟨rfl,o,rfl⟩
  refine⟨_,rfl,?_⟩
  rw[Int.toNat_natCast]
  exact q
end
section
variable {P:Program} {w:World} {K:FrQ} {mg:Str→Option Value} {base:Heap} {k:Nat} {J:L2.Kind}
theorem ok_without_noughts (B:Blt mg)(O:TwO P w K mg base k J)(F:Src K mg "without_noughts" s_without_noughts ["tower","terms"]):Dfn P w K mg base (k+1) "without_noughts" ["tower","terms"] (spCut J):=by
 refine F.ok sc_without_noughts (fun vs H Q E h=>?_) (fun fa cdv A outer s H vs Q E hr h=>?_)
 ·obtain⟨a,T,v,n,s,ok,rfl,_⟩:=h;rfl
 obtain⟨a,T,v,n,s,ok,rfl,ja,rv,dg,hn,q⟩:=h
 obtain⟨p,vs,rfl,hp,okp,C⟩:=rv.cf
 refine⟨_,pss_cons (ps_set (i:=2) sc_without_noughts.nd rfl (Or.inl rfl) (pe_callB (callK_len (K:=K) rfl) rfl B.«len» bt_len (pa_cons (pv 1) pa_nil)))
  (pss_cons (ps_while PassesOwn.never (PW.pt (pw_and (pt_cmpR op_gt (pv 2) pe_int (nomark _)) (pw_and1 (pt_val (pe_mth O.is_nought hr (pv 0) (pa_cons (pe_ix (ixK_list (K:=K) rfl) (pv 1) (pe_op op_sub (pv 2) pe_int) (fun _ _=>rfl)) pa_nil))))))
   (pss_one (ps_aug (i:=2) sc_without_noughts.nd rfl (Or.inl rfl) pe_int iop_sub)))
  (pss_one (ps_ret (pe_slice (slK_list (K:=K) rfl) (pv 1) po_none (po_some (pv 2)))))),?_⟩
 refine⟨_,rfl,p,_,rfl,.inl (SqL.of hp),?_⟩
 rw[C.len]
 refine while_in (fun σ H2=>Same H H2∧∃ m,m≤n∧Dg s m∧σ=[some (.ref a),some (.ref p),some (.int (m:Int))]) (fun σ _=>match σ with | [_,_,some (.int m)]=>m.toNat | _=>0) ⟨Same.refl H,n,Nat.le_refl _,dg,rfl⟩ ?_
 rintro σ H2 ⟨gg,m,hm,dm,rfl⟩
 have fin:Nz T m s→∀ H3,Same H H3→tRet (tSl (rSlL K) (tVar 1) tNoPart (tPart (tVar 2))) { nx:=fun x H'=>Q V.non H',rt:=Q } [some (V.ref a),some (V.ref p),some (V.int (m:Int))] H3:=fun nz H3 g3=>by
  refine⟨_,rfl,_,rfl,_,rfl,p,_,rfl,SqL.of (g3 _ _ hp),fun l hl=>?_⟩
  rw[cutV_vs _ _ (by rw[C.len];exact hm)]
  have hlH:H l=none:=g3.free hl
  refine q _ m _ hm nz (g3.trans (same_new hl _)) (((C.take hm).imp fun b o h k=>⟨same_new hl _ _ _ (g3 _ _ h),.inr k⟩).rep upd_same (.inl hlH))
 refine⟨_,rfl,_,_,rfl,rfl,_,rfl,ite2 (fun c=>?_) (fun c=>?_)⟩
 ·have m0:0<m:=by have:=of_decide_eq_true c;omega
  obtain⟨x,hx,rx⟩:=C.at_ (m - 1) (by omega)
  have em:(m:Int) - 1=((m - 1:Nat):Int):=by omega
  refine⟨_,rfl,a,rfl,⟨T,O.mono gg ja⟩,_,rfl,_,rfl,_,_,rfl,rfl,p,_,_,_,rfl,rfl,SqL.of (gg _ _ hp),by rw[em];exact atI_nat hx,fun _ h=>h,a,T,x,s.c (m - 1),rfl,O.mono gg ja,(rx.same gg).any,fun z H3 g3=>?_,fun z H3 g3=>?_⟩
  ·refine⟨_,rfl,iteT (win ⟨_,rfl,_,_,rfl,rfl,⟨gg.trans g3,m - 1,by omega,fun i hi=>?_,?_⟩,?_⟩)⟩
   ·by_cases y:i=m - 1
    ·rw[y];exact z
    ·exact dm i (by omega)
   ·show [_,_,some (V.int ((m:Int) - 1))]=_
    rw[em]
   ·show ((m:Int) - 1).toNat<((m:Int)).toNat
    omega
  ·exact⟨_,rfl,iteF (fin ⟨dm,.inr z⟩ H3 (gg.trans g3))⟩
 ·have m0:m=0:=by
   refine Nat.eq_zero_of_not_pos fun z=>c (decide_eq_true ?_)
   omega
  exact fin ⟨dm,.inl m0⟩ H2 gg
theorem ok_scaled_poly (B:Blt mg)(O:TwO P w K mg base k J)(F:Src K mg "scaled_poly" s_scaled_poly ["tower","u","f"]):Dfn P w K mg base (k+1) "scaled_poly" ["tower","u","f"] (spScaled J):=by
 refine F.ok sc_scaled_poly (fun vs H Q E h=>?_) (fun fa cdv A outer s H vs Q E hr h=>?_)
 ·obtain⟨a,T,u,v,x,n,s,rfl,_⟩:=h;rfl
 obtain⟨a,T,u,v,x,n,s,rfl,ja,ru,rv,hn,q⟩:=h
 obtain⟨p,vs,rfl,hp,_,C⟩:=rv.cf
 refine⟨_,pss_one (ps_ret (pe_comp (compScope_mk (N:=["term","u","tower"]) (sl:=[none,some 1,some 0]) (defScope s_scaled_poly) ["tower","u","f"] rfl rfl (by decide +kernel)) rfl (piK_list (K:=K) rfl (pv 2)) (fun _ _ _ _ _=>(pg_name (i:=0) (by show List.Nodup (["term","u","tower"]:List Str);decide +kernel) rfl (Or.inl rfl))) (fun _ _ _ _ _=>pif_none) (fun _ _ _ _ _=>(pe_mth O.times hr (pv 2) (pa_cons (pv 1) (pa_cons (pv 0) pa_nil)))))),?_⟩
 refine⟨_,rfl,p,rfl,⟨_,SqL.of hp⟩,fun D hD=>?_⟩
 refine comp_list (xs:=vs) (fun i ys H2=>Same H H2∧Cf H2 (Off H D) ys i fun i=>T.enc ((cst x*s).c i)) ⟨same_new hD _,.nil⟩ (fun i ys H2 _ h=>SqL.of (h.1 _ _ hp)) ?_ ?_
 ·rintro i m y ys H2 hm hi hy' hy hlen ⟨gg,cy⟩
  obtain⟨hi',ry⟩:=C.get hy'
  refine⟨_,rfl,a,rfl,⟨T,O.mono gg ja⟩,_,rfl,_,rfl,fun _ h=>h,a,T,u,y,x,_,rfl,O.mono gg ja,ru.same gg,ry.same gg,fun r H3 g3 rr=>?_⟩
  refine CW.emit hm hi (by rw[C.len,sizeLine_eq];omega) (g3 _ _ hy) hlen ⟨Same.free_upd (gg.trans g3) hD _,?_⟩
  refine ((cy.same g3).push ?_).upd
  rw[cst_mul]
  exact rr.offN gg hy
 ·rintro ys H2 hy ⟨gg,cy⟩
  rw[C.len] at cy
  exact q _ _ gg (cy.newB.rep hy hD)
theorem ok_minus_poly (B:Blt mg)(O:TwO P w K mg base k J)(d_without_noughts:Dfn P w K mg base (k+1) "without_noughts" ["tower","terms"] (spCut J))(F:Src K mg "minus_poly" s_minus_poly ["tower","f","g"]):Dfn P w K mg base (k+2) "minus_poly" ["tower","f","g"] (spMinusP J):=by
 refine F.ok sc_minus_poly (fun vs H Q E h=>?_) (fun fa cdv A outer s H vs Q E hr h=>?_)
 ·obtain⟨a,T,u,v,n,m,s,t,rfl,_⟩:=h;rfl
 obtain⟨a,T,u,v,n,m,s,t,rfl,ja,ru,ds,hn,rv,dt,hm,q⟩:=h
 obtain⟨p,vs,rfl,hp,_,C⟩:=ru.cf
 obtain⟨p',ws,rfl,hp',_,C'⟩:=rv.cf
 refine⟨_,pss_cons (ps_set (i:=3) sc_minus_poly.nd rfl (Or.inl rfl) (pe_callB (call_max2 rfl) rfl B.«max» bt_max (pa_cons (pe_callB (callK_len (K:=K) rfl) rfl B.«len» bt_len (pa_cons (pv 1) pa_nil)) (pa_cons (pe_callB (callK_len (K:=K) rfl) rfl B.«len» bt_len (pa_cons (pv 2) pa_nil)) pa_nil))))
  (pss_cons (ps_set (i:=4) sc_minus_poly.nd rfl (Or.inl rfl) (pe_op op_cat (pv 1) (pe_comp (compScope_mk (N:=["place","tower"]) (sl:=[none,some 0]) (defScope s_minus_poly) ["tower","f","g","many","ahead","behind"] rfl rfl (by decide +kernel)) rfl (pi_range2 rfl B.«range» (pa_cons (pe_callB (callK_len (K:=K) rfl) rfl B.«len» bt_len (pa_cons (pv 1) pa_nil)) (pa_cons (pv 3) pa_nil))) (fun _ _ _ _ _=>(pg_name (i:=0) (by show List.Nodup (["place","tower"]:List Str);decide +kernel) rfl (Or.inl rfl))) (fun _ _ _ _ _=>pif_none) (fun _ _ _ _ _=>(pe_mth0 O.zero hr (pv 1) )))))
  (pss_cons (ps_set (i:=5) sc_minus_poly.nd rfl (Or.inl rfl) (pe_op op_cat (pv 2) (pe_comp (compScope_mk (N:=["place","tower"]) (sl:=[none,some 0]) (defScope s_minus_poly) ["tower","f","g","many","ahead","behind"] rfl rfl (by decide +kernel)) rfl (pi_range2 rfl B.«range» (pa_cons (pe_callB (callK_len (K:=K) rfl) rfl B.«len» bt_len (pa_cons (pv 2) pa_nil)) (pa_cons (pv 3) pa_nil))) (fun _ _ _ _ _=>(pg_name (i:=0) (by show List.Nodup (["place","tower"]:List Str);decide +kernel) rfl (Or.inl rfl))) (fun _ _ _ _ _=>pif_none) (fun _ _ _ _ _=>(pe_mth0 O.zero hr (pv 1) )))))
  (pss_one (ps_ret (pe_def d_without_noughts hr (pa_cons (pv 0) (pa_cons (pe_comp (compScope_mk (N:=["one","other","tower"]) (sl:=[none,none,some 0]) (defScope s_minus_poly) ["tower","f","g","many","ahead","behind"] rfl rfl (by decide +kernel)) rfl (piK_zip (K:=K) rfl rfl B.«zip» (pa_cons (pv 4) (pa_cons (pv 5) pa_nil))) (fun _ _ _ _ _=>(pgK_tup (n:=2) (K:=K) rfl rfl (pgs_cons (pg_name (i:=0) (by show List.Nodup (["one","other","tower"]:List Str);decide +kernel) rfl (Or.inl rfl)) (pgs_cons (pg_name (i:=1) (by show List.Nodup (["one","other","tower"]:List Str);decide +kernel) rfl (Or.inl rfl)) pgs_nil)))) (fun _ _ _ _ _=>pif_none) (fun _ _ _ _ _=>(pe_mth O.minus hr (pv 2) (pa_cons (pv 0) (pa_cons (pv 1) pa_nil))))) pa_nil)) (by first|decide|omega)))))),?_⟩
 refine⟨_,rfl,p,_,rfl,.inl (SqL.of hp),_,rfl,p',_,rfl,.inl (SqL.of hp'),?_⟩
 rw[C.len,C'.len]
 obtain⟨mx,emx,hmx1,hmx2,hmx3⟩:∃ mx:Nat,(if (m:Int) > (n:Int) then (m:Int) else (n:Int))=(mx:Int)∧n≤mx∧m≤mx∧mx=max n m:=by
  by_cases c:(m:Int) > (n:Int)
  ·exact⟨m,by rw[if_pos c],by omega,Nat.le_refl _,by omega⟩
  ·exact⟨n,by rw[if_neg c],Nat.le_refl _,by omega,by omega⟩
 refine⟨_,_,rfl,?_⟩
 rw[emx]
 refine⟨_,rfl,_,rfl,p,_,rfl,.inl (SqL.of hp),_,rfl,_,_,rfl,by rw[C.len];omega,fun D hD=>?_⟩
 rw[C.len]
 have en:((mx:Int) - (n:Int)).toNat=mx - n:=by omega
 rw[en]
 refine comp_zeros (J:=J) (T:=T) O.mono ja hD (by omega) (fun y H2 R j2 h2=>⟨_,rfl,a,rfl,⟨T,j2⟩,fun _ h=>h,a,T,rfl,j2,h2⟩) fun ys H2 g2 hy cy=>?_
 refine⟨p,D,_,_,rfl,rfl,g2 _ _ hp,hy,by rw[C.len,cy.len,sizeLine_eq];omega,fun l1 hl1=>?_⟩
 have k1:=same_new hl1 (.lst (vs++ys))
 have g3:=g2.trans k1
 have c1:Cf (upd H2 l1 (.lst (vs++ys))) Any (vs++ys) mx fun i=>T.enc (s.c i):=by
  have:=((C.same g3).append ((cy.imp fun b o h _=>⟨k1 _ _ h,trivial⟩:Cf _ Any _ _ _)))
  rw[show n+(mx - n)=mx by omega] at this
  refine this.congr fun i hi=>?_
  by_cases c:i<n
  ·rw[if_pos c]
  ·rw[if_neg c,ds i (by omega)]
 refine⟨_,rfl,_,rfl,p',_,rfl,.inl (SqL.of (g3 _ _ hp')),_,rfl,_,_,rfl,by rw[C'.len];omega,fun D' hD'=>?_⟩
 rw[C'.len]
 have em:((mx:Int) - (m:Int)).toNat=mx - m:=by omega
 rw[em]
 refine comp_zeros (J:=J) (T:=T) O.mono (O.mono g3 ja) hD' (by omega) (fun y H2 R j2 h2=>⟨_,rfl,a,rfl,⟨T,j2⟩,fun _ h=>h,a,T,rfl,j2,h2⟩) fun zs H4 g4 hz cz=>?_
 have g34:=g3.trans g4
 refine⟨p',D',_,_,rfl,rfl,g34 _ _ hp',hz,by rw[C'.len,cz.len,sizeLine_eq];omega,fun l2 hl2=>?_⟩
 have k2:=same_new hl2 (.lst (ws++zs))
 have g5:=g34.trans k2
 have c2:Cf (upd H4 l2 (.lst (ws++zs))) Any (ws++zs) mx fun i=>T.enc (t.c i):=by
  have:=((C'.same g5).append ((cz.imp fun b o h _=>⟨k2 _ _ h,trivial⟩:Cf _ Any _ _ _)))
  rw[show m+(mx - m)=mx by omega] at this
  refine this.congr fun i hi=>?_
  by_cases c:i<m
  ·rw[if_pos c]
  ·rw[if_neg c,dt i (by omega)]
 refine⟨_,rfl,_,rfl,_,rfl,l1,l2,rfl,⟨_,SqL.of (k2 _ _ (g4 _ _ upd_same))⟩,⟨_,SqL.of upd_same⟩,fun D2 hD2=>?_⟩
 refine comp_pairs (J:=J) (T:=T) O.mono (O.mono g5 ja) (k2 _ _ (g4 _ _ upd_same)) upd_same (c1.same (g4.trans k2)) c2 hD2 (by omega) (fun i x y H6 R hi j6 rx ry h6=>⟨_,rfl,a,rfl,⟨T,j6⟩,_,rfl,_,rfl,fun _ h=>h,a,T,x,y,_,_,rfl,j6,rx,ry,h6⟩) fun zs' H6 g6 hz' cz'=>?_
 have g56:=g5.trans g6
 have dst:Dg (s - t) mx:=fun i hi=>by rw[c_sub,ds i (by omega),dt i (by omega)];exact sub_same 0
 refine⟨a,T,.ref D2,mx,s - t,NewB H,rfl,O.mono g56 ja,?_,dst,by omega,fun r k' H7 hk nz g7 rr=>?_⟩
 ·refine ((cz'.imp fun b o h kk=>⟨h,g5.free kk.1⟩).congr fun i hi=>?_).rep hz' (g5.free hD2)
  rw[c_sub]
 ·exact q r k' H7 (by omega) nz (g56.trans g7) (rr.imp fun b o h kk=>⟨h,kk.elim (fun z=>g56.free z) id⟩)
theorem ok_times_poly (B:Blt mg)(O:TwO P w K mg base k J)(F:Src K mg "times_poly" s_times_poly ["tower","f","g"]):Dfn P w K mg base (k+1) "times_poly" ["tower","f","g"] (spTimesP J):=by
 refine F.ok sc_times_poly (fun vs H Q E h=>?_) (fun fa cdv A outer s H vs Q E hr h=>?_)
 ·obtain⟨a,T,u,v,n,m,s,t,rfl,_⟩:=h;rfl
 obtain⟨a,T,u,v,n,m,s,t,rfl,ja,ru,ds,rv,dt,hnm,q⟩:=h
 obtain⟨p,vs,rfl,hp,_,C⟩:=id ru.cf
 obtain⟨p',ws,rfl,hp',_,C'⟩:=id rv.cf
 have hb:=(O.bd ja).2
 refine⟨_,pss_cons (ps_if (PW.pt (pw_or (pt_cmpR (opK_eqD (K:=K) rfl hr.units) (pv 1) (pe_lst pa_nil) (nomark _)) (pw_or1 (pt_cmpR (opK_eqD (K:=K) rfl hr.units) (pv 2) (pe_lst pa_nil) (nomark _)))))
   (pss_one (ps_ret (pe_lst pa_nil)))
   (pss_nil))
  (pss_cons (ps_setC (i:=3) sc_times_poly.nd rfl (Or.inl rfl) (compScope_mk (N:=["place","tower"]) (sl:=[none,some 0]) (defScope s_times_poly) ["tower","f","g","product","at","one","place","other"] rfl rfl (by decide +kernel)) rfl (pi_range1 rfl B.«range» (pa_cons (pe_op op_sub (pe_op op_add (pe_callB (callK_len (K:=K) rfl) rfl B.«len» bt_len (pa_cons (pv 1) pa_nil)) (pe_callB (callK_len (K:=K) rfl) rfl B.«len» bt_len (pa_cons (pv 2) pa_nil))) pe_int) pa_nil)) (fun _ _ _ _ _=>(pg_name (i:=0) (by show List.Nodup (["place","tower"]:List Str);decide +kernel) rfl (Or.inl rfl))) (fun _ _ _ _ _=>pif_none) (fun _ _ _ _ _=>(pe_mth0 O.zero hr (pv 1) )))
  (pss_cons (ps_for PassesOwn.never rfl (piK_enum (K:=K) rfl rfl B.«enumerate» (pa_cons (pv 1) pa_nil)) (pgK_tup (n:=2) (K:=K) rfl rfl (pgs_cons (pg_name (i:=4) sc_times_poly.nd rfl (Or.inl rfl)) (pgs_cons (pg_name (i:=5) sc_times_poly.nd rfl (Or.inl rfl)) pgs_nil)))
   (pss_one (ps_if (pt_not (pt_val (pe_mth O.is_nought hr (pv 0) (pa_cons (pv 5) pa_nil))))
    (pss_one (ps_for PassesOwn.never rfl (piK_enumS (K:=K) rfl rfl B.«enumerate» (pa_cons (pv 2) pa_nil) (pk_cons (pv 4) pk_nil)) (pgK_tup (n:=2) (K:=K) rfl rfl (pgs_cons (pg_name (i:=6) sc_times_poly.nd rfl (Or.inl rfl)) (pgs_cons (pg_name (i:=7) sc_times_poly.nd rfl (Or.inl rfl)) pgs_nil)))
     (pss_one (ps_asg (pe_mth O.plus hr (pv 0) (pa_cons (pe_ix (ixK_list (K:=K) rfl) (pv 3) (pv 6) (fun _ _=>rfl)) (pa_cons (pe_mth O.times hr (pv 0) (pa_cons (pv 5) (pa_cons (pv 7) pa_nil))) pa_nil))) (pg_sub (pv 3) (pv 6) set_list)))))
    (pss_nil))))
  (pss_one (ps_ret (pv 3))))),?_⟩
 refine⟨_,rfl,len_ok rfl,fun l0 h0=>?_⟩
 have k0:=same_new h0 (.lst [])
 have nil:n=0∨m=0→∀ H2,Same H H2→∀ l,H2 l=none→Q (.ref l) (upd H2 l (.lst [])):=fun z H2 g2 l hl=>by
  refine q _ _ (g2.trans (same_new hl _)) ?_
  rw[if_pos z]
  exact Cf.nil.rep upd_same (g2.free hl)
 refine eqRep (ru.same k0) ((Cf.nil (ok:=Any) (e:=fun _=>.num 0)).rep upd_same trivial) (fl_pol T (by omega) s) (fl_vecN (n:=0) (by omega) fun _=>.num 0) (by omega) (by omega) (fun e=>?_) (fun e=>?_)
 ·refine⟨_,rfl,iteT ?_⟩
  have n0:=(vecN_inj e).1
  exact⟨len_ok rfl,fun l hl=>nil (.inl n0) _ k0 l hl⟩
 ·have n0:n≠0:=fun z=>e (by rw[z];rfl)
  refine⟨_,rfl,iteF ?_⟩
  refine⟨_,rfl,len_ok rfl,fun l1 h1=>?_⟩
  have k1:=k0.trans (same_new h1 (.lst []))
  refine eqRep (rv.same k1) ((Cf.nil (ok:=Any) (e:=fun _=>.num 0)).rep upd_same trivial) (fl_pol T (by omega) t) (fl_vecN (n:=0) (by omega) fun _=>.num 0) (by omega) (by omega) (fun e=>?_) (fun e=>?_)
  ·refine⟨_,rfl,iteT ?_⟩
   have m0:=(vecN_inj e).1
   exact⟨len_ok rfl,fun l hl=>nil (.inr m0) _ k1 l hl⟩
  ·have m0:m≠0:=fun z=>e (by rw[z];rfl)
   refine⟨_,rfl,iteF ?_⟩
   clear nil
   rw[if_neg (by omega)] at q
   refine⟨_,rfl,p,_,rfl,.inl (SqL.of (k1 _ _ hp)),_,rfl,p',_,rfl,.inl (SqL.of (k1 _ _ hp')),_,_,rfl,rfl,_,_,rfl,rfl,_,rfl,?_⟩
   rw[C.len,C'.len]
   have en:((n:Int)+(m:Int) - 1).toNat=n+m - 1:=by omega
   refine⟨by omega,by omega,fun D hD=>?_⟩
   rw[en]
   refine comp_zeros (J:=J) (T:=T) O.mono (O.mono k1 ja) hD (by omega) (fun y H2 R j2 h2=>⟨_,rfl,a,rfl,⟨T,j2⟩,fun _ h=>h,a,T,rfl,j2,h2⟩) fun ys H2 g2 hy cy=>?_
   have g12:=k1.trans g2
   have hDH:H D=none:=k1.free hD
   have cy:Cf H2 (Off H D) ys (n+m - 1) fun i=>T.enc (psum s t 0 i):=cy.imp fun b o h kk=>⟨h,k1.free kk.1,kk.2⟩
   refine⟨_,rfl,p,rfl,⟨_,SqL.of (g12 _ _ hp)⟩,for_enum (st:=0) (xs:=vs) (fun i σ H3=>Same H H3∧∃ (ps:List V) (o1 o2 o3 o4:Option V),σ=[some (.ref a),some (.ref p),some (.ref p'),some (.ref D),o1,o2,o3,o4]∧H3 D=some (.lst ps)∧Cf H3 (Off H D) ps (n+m - 1) fun x=>T.enc (psum s t i x))
    ⟨g12,ys,_,_,_,_,rfl,hy,cy⟩ (fun i σ H3 _ h=>SqL.of (h.1 _ _ hp)) ?_ ?_⟩
   ·rintro i x σ H3 r hx ⟨gg,ps,o1,o2,o3,o4,rfl,eP,cP⟩ hr'
    obtain⟨hi,rx⟩:=C.get hx
    have gr:=same_new hr' (.tup [.int ((0+i:Nat):Int),x])
    have g3:=gg.trans gr
    refine⟨r,_,rfl,SqT.of upd_same,rfl,_,_,rfl,_,_,rfl,rfl,?_⟩
    refine⟨_,rfl,a,rfl,⟨T,O.mono g3 ja⟩,_,rfl,fun _ h=>h,a,T,x,s.c i,rfl,O.mono g3 ja,rx.same g3,fun z H4 g4=>?_,fun z H4 g4=>?_⟩
    ·exact⟨_,rfl,iteF ⟨g3.trans g4,ps,_,_,_,_,rfl,g4 _ _ (gr _ _ eP),(cP.same (gr.trans g4)).congr fun x hx=>by rw[psum_nought z]⟩⟩
    ·refine⟨_,rfl,iteT ?_⟩
     have g34:=g3.trans g4
     refine⟨_,rfl,_,rfl,p',0+i,rfl,rfl,by omega,⟨_,SqL.of (g34 _ _ hp')⟩,for_enum (st:=0+i) (xs:=ws) (fun j σ H5=>Same H H5∧∃ (ps:List V) (o3 o4:Option V),σ=[some (.ref a),some (.ref p),some (.ref p'),some (.ref D),some (.int ((0+i:Nat):Int)),some x,o3,o4]∧H5 D=some (.lst ps)∧Cf H5 (Off H D) ps (n+m - 1) fun x=>T.enc (pcell s t i j x))
      ⟨g34,ps,_,_,rfl,g4 _ _ (gr _ _ eP),(cP.same (gr.trans g4)).congr fun x hx=>by rw[pcell_zero]⟩ (fun j σ H5 _ h=>SqL.of (h.1 _ _ hp')) ?_ ?_⟩
     ·rintro j y σ H5 r5 hy ⟨g5,qs,o3,o4,rfl,eQ,cQ⟩ hr5
      obtain⟨hj,ry⟩:=C'.get hy
      have kr:=same_new hr5 (.tup [.int ((0+i+j:Nat):Int),y])
      have g6:=g5.trans kr
      refine⟨r5,_,rfl,SqT.of upd_same,rfl,_,_,rfl,_,_,rfl,rfl,?_⟩
      have hij:i+j<n+m - 1:=by omega
      obtain⟨c,hc,rc⟩:=cQ.at_ (i+j) hij
      refine⟨_,rfl,a,rfl,⟨T,O.mono g6 ja⟩,_,rfl,_,rfl,D,_,_,_,rfl,rfl,SqL.of (kr _ _ eQ),by rw[Nat.zero_add];exact atI_nat hc,?_⟩
      refine⟨_,rfl,a,rfl,⟨T,O.mono g6 ja⟩,_,rfl,_,rfl,fun _ h=>h,a,T,x,y,s.c i,t.c j,rfl,O.mono g6 ja,rx.same g6,ry.same g6,fun r6 H6 g67 rr=>?_⟩
      have g7:=g6.trans g67
      refine⟨fun _ h=>g67 _ _ h,a,T,c,r6,pcell s t i j (i+j),_,rfl,O.mono g7 ja,(rc.same (kr.trans g67)).any,rr.any,fun r7 H7 g78 rr7=>?_⟩
      have g8:=g7.trans g78
      have eD7:H7 D=some (.lst qs):=g78 _ _ (g67 _ _ (kr _ _ eQ))
      refine⟨_,rfl,_,rfl,D,_,_,i+j,rfl,rfl,eD7,by rw[cQ.len,Nat.zero_add];exact ixN_at hij,?_⟩
      refine⟨g8.free_upd hDH _,qs.set (i+j) r7,_,_,rfl,upd_same,?_⟩
      have cQ7:=cQ.same ((kr.trans g67).trans g78)
      refine (((cQ7.set hij (rr7.offN g7 (g67 _ _ (kr _ _ eQ)))).congr fun x hx=>?_).upd)
      rw[pcell_step]
      by_cases z:x=i+j
      ·rw[if_pos z,if_pos z,z]
      ·rw[if_neg z,if_neg z]
     ·rintro σ H5 ⟨g5,qs,o3,o4,rfl,eQ,cQ⟩
      rw[C'.len] at cQ
      exact⟨g5,qs,_,_,_,_,rfl,eQ,cQ.congr fun x hx=>by rw[pcell_all dt]⟩
   ·rintro σ H3 ⟨gg,ps,o1,o2,o3,o4,rfl,eP,cP⟩
    rw[C.len] at cP
    refine⟨_,rfl,q _ _ gg ((cP.newB.congr fun i hi=>?_).rep eP hDH)⟩
    rw[psum_all ds]
theorem ok_over_monic (B:Blt mg)(O:TwO P w K mg base k J)(hk8:8≤k)(d_copied:Dfn P w K mg base 8 "copied" ["thing"] (spCopied 8))(d_without_noughts:Dfn P w K mg base (k+1) "without_noughts" ["tower","terms"] (spCut J))(F:Src K mg "over_monic" s_over_monic ["tower","f","g"]):Dfn P w K mg base (k+2) "over_monic" ["tower","f","g"] (spOverM J):=by
 refine F.ok sc_over_monic (fun vs H Q E h=>?_) (fun fa cdv A outer s H vs Q E hr h=>?_)
 ·obtain⟨a,T,u,v,N,n,s,f,rfl,_⟩:=h;rfl
 obtain⟨a,T,u,v,N,n,s,f,rfl,ja,ru,ds,hN,rv,hf,hn,q⟩:=h
 obtain⟨p',ws,rfl,hp',_,C'⟩:=id rv.cf
 have hb:=(O.bd ja).2
 refine⟨_,pss_cons (ps_set (i:=3) sc_over_monic.nd rfl (Or.inl rfl) (pe_def d_copied hr (pa_cons (pv 1) pa_nil) (by first|decide|omega)))
  (pss_cons (ps_set (i:=4) sc_over_monic.nd rfl (Or.inl rfl) (pe_lst pa_nil))
  (pss_cons (ps_set (i:=5) sc_over_monic.nd rfl (Or.inl rfl) (pe_op op_sub (pe_callB (callK_len (K:=K) rfl) rfl B.«len» bt_len (pa_cons (pv 2) pa_nil)) pe_int))
  (pss_cons (ps_while PassesOwn.never (pt_cmpR op_gt (pe_callB (callK_len (K:=K) rfl) rfl B.«len» bt_len (pa_cons (pv 3) pa_nil)) (pv 5) (nomark _))
   (pss_cons (ps_set (i:=6) sc_over_monic.nd rfl (Or.inl rfl) (pe_bm0 PySem.F.plainAttrs_list PySem.F.slot_list_pop PySem.F.type_list_pop mt_pop (pv 3) ))
   (pss_cons (ps_expr (pe_bm PySem.F.plainAttrs_list PySem.F.slot_list_append PySem.F.type_list_append mt_append (pv 4) (pa_cons (pv 6) pa_nil)))
   (pss_one (ps_if (pt_not (pt_val (pe_mth O.is_nought hr (pv 0) (pa_cons (pv 6) pa_nil))))
    (pss_one (ps_for PassesOwn.never rfl (pi_range1 rfl B.«range» (pa_cons (pv 5) pa_nil)) (pg_name (i:=7) sc_over_monic.nd rfl (Or.inl rfl))
     (pss_cons (ps_set (i:=8) sc_over_monic.nd rfl (Or.inl rfl) (pe_op op_add (pe_op op_sub (pe_callB (callK_len (K:=K) rfl) rfl B.«len» bt_len (pa_cons (pv 3) pa_nil)) (pv 5)) (pv 7)))
     (pss_one (ps_asg (pe_mth O.minus hr (pv 0) (pa_cons (pe_ix (ixK_list (K:=K) rfl) (pv 3) (pv 8) (fun _ _=>rfl)) (pa_cons (pe_mth O.times hr (pv 0) (pa_cons (pv 6) (pa_cons (pe_ix (ixK_list (K:=K) rfl) (pv 2) (pv 7) (fun _ _=>rfl)) pa_nil))) pa_nil))) (pg_sub (pv 3) (pv 8) set_list))))))
    (pss_nil))))))
  (pss_cons (ps_expr (pe_bm0 PySem.F.plainAttrs_list PySem.F.slot_list_reverse PySem.F.type_list_reverse mt_reverse (pv 4) ))
  (pss_one (ps_ret (pe_tup (pa_cons (pv 4) (pa_cons (pe_def d_without_noughts hr (pa_cons (pv 0) (pa_cons (pv 3) pa_nil)) (by first|decide|omega)) pa_nil))))))))),?_⟩
 refine⟨_,rfl,u,_,7,rfl,rfl,(fl_pol T hN s).mono (by omega),ru,fun r0 H1 g1 _ fr=>?_⟩
 obtain⟨R,rs0,rfl,hRH,hR1,cR⟩:=fr _ _ rfl
 refine⟨len_ok rfl,fun Qd hQd=>?_⟩
 have kQ:=same_new hQd (.lst [])
 have g2:=g1.trans kQ
 have hQH:H Qd=none:=g1.free hQd
 have hRQ:R≠Qd:=ne_of_none hR1 hQd
 refine⟨_,rfl,p',_,rfl,.inl (SqL.of (g2 _ _ hp')),_,_,rfl,rfl,?_⟩
 rw[C'.len]
 have en:((n+1:Nat):Int) - 1=(n:Int):=by omega
 rw[show (fun i j:Int=>V.int (i - j)) ((n+1:Nat):Int) 1=V.int (n:Int) from congrArg V.int en]
 refine while_in (fun σ H2=>Same H H2∧∃ (M:Nat) (x ρ:Ser T.α) (rs qs:List V) (o1 o2 o3:Option V),σ=[some (.ref a),some u,some (.ref p'),some (.ref R),some (.ref Qd),some (.int (n:Int)),o1,o2,o3]∧H2 R=some (.lst rs)∧H2 Qd=some (.lst qs)∧
  Cf H2 (Off2 H R Qd) rs M (fun i=>T.enc (ρ.c i))∧Cf H2 (Off2 H R Qd) qs (N - M) (fun j=>T.enc (x.c (N - n - 1 - j)))∧s=x*f+ρ∧Dg ρ M∧Dg x (N - n)∧(∀ i,i<M - n→x.c i=0)∧M≤N∧(M=N∨n≤M)) (fun _ H2=>match H2 R with | some (.lst xs)=>xs.length | _=>0) ?_ ?_
 ·refine⟨g2,N,0,s,rs0,[],_,_,_,rfl,kQ _ _ hR1,upd_same,?_,?_,?_,ds,Dg.zero _,fun i _=>rfl,Nat.le_refl _,.inl rfl⟩
  ·exact cR.imp fun b o h kk=>⟨kQ _ _ h,kk.1,kk.2,ne_of_none h hQd⟩
  ·rw[Nat.sub_self];exact .nil
  ·exact zero_over f s
 rintro σ H2 ⟨gg,M,x,ρ,rs,qs,o1,o2,o3,rfl,eR,eQ,cρ,cx,hs,dρ,dx,hx0,hMN,hMn⟩
 have hmu:(match H2 R with | some (.lst xs)=>xs.length | _=>0)=M:=by
  rw[eR];exact cρ.len
 rw[hmu]
 refine⟨_,rfl,R,_,rfl,.inl (SqL.of eR),_,rfl,_,_,rfl,rfl,_,rfl,?_⟩
 rw[cρ.len]
 refine ite2 (fun c=>win ?_) (fun c=>?_)
 ·have c':n<M:=by have:=of_decide_eq_true c;omega
  obtain⟨ld,hld,rld⟩:=cρ.at_ (M - 1) (by omega)
  refine⟨_,rfl,.inl ⟨rfl,_,SqL.of eR⟩,R,rs,ld,rfl,rfl,eR,by rw[cρ.len];exact hld,?_⟩
  have eQ':(upd H2 R (.lst rs.dropLast)) Qd=some (.lst qs):=by rw[upd_ne hRQ.symm];exact eQ
  refine⟨_,rfl,.inl ⟨rfl,_,SqL.of eQ'⟩,_,rfl,Qd,qs,ld,rfl,rfl,eQ',by rw[cx.len,sizeLine_eq];omega,?_⟩
  have gB:Same H (upd (upd H2 R (.lst rs.dropLast)) Qd (.lst (qs++[ld]))):=(gg.free_upd hRH _).free_upd hQH _
  have eRb:(upd (upd H2 R (.lst rs.dropLast)) Qd (.lst (qs++[ld]))) R=some (.lst rs.dropLast):=by rw[upd_ne hRQ];exact upd_same
  have eQb:(upd (upd H2 R (.lst rs.dropLast)) Qd (.lst (qs++[ld]))) Qd=some (.lst (qs++[ld])):=upd_same
  have cρb:Cf (upd (upd H2 R (.lst rs.dropLast)) Qd (.lst (qs++[ld]))) (Off2 H R Qd) rs.dropLast (M - 1) (fun i=>T.enc (ρ.c i)):=by
   rw[List.dropLast_eq_take,cρ.len]
   exact ((cρ.take (by omega)).updG fun b kk=>kk.2.1).updG fun b kk=>kk.2.2
  have rb:=(rld.updG (o:=.lst rs.dropLast) (p:=R) fun b kk=>kk.2.1).updG (o:=.lst (qs++[ld])) (p:=Qd) fun b kk=>kk.2.2
  have cxb:Cf (upd (upd H2 R (.lst rs.dropLast)) Qd (.lst (qs++[ld]))) (Off2 H R Qd) (qs++[ld]) (N - (M - 1)) (fun j=>T.enc ((x+mon (ρ.c (M - 1)) (M - 1 - n)).c (N - n - 1 - j))):=by
   have e1:N - (M - 1)=N - M+1:=by omega
   rw[e1]
   refine Cf.push ((((cx.updG fun b kk=>kk.2.1).updG fun b kk=>kk.2.2)).congr fun j hj=>?_) ?_
   ·rw[dstep_xold hMN c' hj]
   ·rw[dstep_xlast hMN c' hx0];exact rb
  generalize upd (upd H2 R (.lst rs.dropLast)) Qd (.lst (qs++[ld]))=HB at gB eRb eQb cρb rb cxb
  have done:∀ H5 rs' o2 o3,Same H H5→H5 R=some (.lst rs')→H5 Qd=some (.lst (qs++[ld]))→Cf H5 (Off2 H R Qd) rs' (M - 1) (fun i=>T.enc ((dstep f ρ M n).c i))→Cf H5 (Off2 H R Qd) (qs++[ld]) (N - (M - 1)) (fun j=>T.enc ((x+mon (ρ.c (M - 1)) (M - 1 - n)).c (N - n - 1 - j)))→(Same H H5∧∃ (M:Nat) (x ρ:Ser T.α) (rs qs:List V) (p1 p2 p3:Option V),[some (.ref a),some u,some (.ref p'),some (.ref R),some (.ref Qd),some (.int (n:Int)),some ld,o2,o3]=[some (.ref a),some u,some (.ref p'),some (.ref R),some (.ref Qd),some (.int (n:Int)),p1,p2,p3]∧H5 R=some (.lst rs)∧H5 Qd=some (.lst qs)∧
   Cf H5 (Off2 H R Qd) rs M (fun i=>T.enc (ρ.c i))∧Cf H5 (Off2 H R Qd) qs (N - M) (fun j=>T.enc (x.c (N - n - 1 - j)))∧s=x*f+ρ∧Dg ρ M∧Dg x (N - n)∧(∀ i,i<M - n→x.c i=0)∧M≤N∧(M=N∨n≤M))∧(match H5 R with | some (.lst xs)=>xs.length | _=>0)<M:=fun H5 rs' o2 o3 g5 e1 e2 c1 c2=>by
   refine⟨⟨g5,M - 1,_,_,rs',_,_,_,_,rfl,e1,e2,c1,c2,dstep_eq hs,dstep_dg hf c' dρ,dstep_xdg hMN c' dx,fun i hi=>dstep_x hMN c' hx0 (by omega),by omega,.inr (by omega)⟩,?_⟩
   rw[e1]
   show rs'.length<M
   rw[c1.len];omega
  refine⟨_,rfl,a,rfl,⟨T,O.mono gB ja⟩,_,rfl,fun _ h=>h,a,T,ld,ρ.c (M - 1),rfl,O.mono gB ja,rb.any,fun z H4 g4=>?_,fun z H4 g4=>?_⟩
  ·exact⟨_,rfl,iteF (done H4 _ _ _ (gB.trans g4) (g4 _ _ eRb) (g4 _ _ eQb) ((cρb.same g4).congr fun i hi=>by rw[dstep_nought z]) (cxb.same g4))⟩
  ·refine⟨_,rfl,iteT ?_⟩
   refine⟨_,rfl,_,rfl,by omega,by omega,?_⟩
   rw[Int.toNat_natCast]
   refine for_range (fun i σ H5=>Same H H5∧∃ (rs:List V) (o2 o3:Option V),σ=[some (.ref a),some u,some (.ref p'),some (.ref R),some (.ref Qd),some (.int (n:Int)),some ld,o2,o3]∧H5 R=some (.lst rs)∧H5 Qd=some (.lst (qs++[ld]))∧
    Cf H5 (Off2 H R Qd) rs (M - 1) (fun j=>T.enc (if j<M - 1 - n+i then (dstep f ρ M n).c j else ρ.c j))∧Cf H5 (Off2 H R Qd) (qs++[ld]) (N - (M - 1)) (fun j=>T.enc ((x+mon (ρ.c (M - 1)) (M - 1 - n)).c (N - n - 1 - j)))∧Rep H5 (Off2 H R Qd) ld (T.enc (ρ.c (M - 1))))
    ⟨gB.trans g4,_,_,_,rfl,g4 _ _ eRb,g4 _ _ eQb,(cρb.same g4).congr fun i hi=>?_,cxb.same g4,rb.same g4⟩ ?_ ?_
   ·by_cases y:i<M - 1 - n+0
    ·rw[if_pos y,dstep_low y]
    ·rw[if_neg y]
   ·rintro i σ H5 hi ⟨g5,rs',o2,o3,rfl,e1,e2,c1,c2,r5⟩
    refine⟨_,rfl,R,_,rfl,.inl (SqL.of e1),_,rfl,_,_,rfl,rfl,_,rfl,_,_,rfl,rfl,?_⟩
    have ep:((rs'.length:Nat):Int) - (n:Int)+(0+(i:Int))=((M - 1 - n+i:Nat):Int):=by rw[c1.len];omega
    show gName 8 (V.int (((rs'.length:Nat):Int) - (n:Int)+(0+(i:Int)))) _ _ _
    rw[ep]
    obtain⟨cv,hcv,rcv⟩:=c1.at_ (M - 1 - n+i) (by omega)
    rw[if_neg (by omega)] at rcv
    obtain⟨fv,hfv,rfv⟩:=C'.at_ i (by omega)
    refine⟨_,rfl,a,rfl,⟨T,O.mono g5 ja⟩,_,rfl,_,rfl,R,_,_,_,rfl,rfl,SqL.of e1,atI_nat hcv,?_⟩
    refine⟨_,rfl,a,rfl,⟨T,O.mono g5 ja⟩,_,rfl,_,rfl,_,rfl,p',_,_,_,rfl,rfl,SqL.of (g5 _ _ hp'),by rw[Int.zero_add];exact atI_nat hfv,fun _ h=>h,a,T,ld,fv,ρ.c (M - 1),f.c i,rfl,O.mono g5 ja,r5.any,rfv.same g5,fun r6 H6 g6 rr=>?_⟩
    have g56:=g5.trans g6
    refine⟨fun _ h=>g6 _ _ h,a,T,cv,r6,ρ.c (M - 1 - n+i),_,rfl,O.mono g56 ja,(rcv.same g6).any,rr.any,fun r7 H7 g7 rr7=>?_⟩
    have g57:=g56.trans g7
    have e17:H7 R=some (.lst rs'):=g7 _ _ (g6 _ _ e1)
    refine⟨_,rfl,_,rfl,R,_,_,M - 1 - n+i,rfl,rfl,e17,by rw[c1.len];exact ixN_at (by omega),?_⟩
    have g67:=g6.trans g7
    refine⟨g57.free_upd hRH _,rs'.set (M - 1 - n+i) r7,_,_,rfl,upd_same,by rw[upd_ne hRQ.symm];exact g67 _ _ e2,?_,(c2.same g67).updG fun b kk=>kk.2.1,(r5.same g67).updG fun b kk=>kk.2.1⟩
    refine (((c1.same g67).set (by omega) (rr7.off2 g56 (g6 _ _ e1) (g6 _ _ e2))).congr fun j hj=>?_).updG fun b kk=>kk.2.1
    by_cases y:j=M - 1 - n+i
    ·rw[if_pos y,if_pos (by omega),y,dstep_at]
    ·rw[if_neg y]
     by_cases y2:j<M - 1 - n+i
     ·rw[if_pos y2,if_pos (by omega)]
     ·rw[if_neg y2,if_neg (by omega)]
   ·rintro σ H5 ⟨g5,rs',o2,o3,rfl,e1,e2,c1,c2,r5⟩
    refine done H5 _ _ _ g5 e1 e2 (c1.congr fun i hi=>?_) c2
    rw[if_pos (by omega)]
 ·have c':M≤n:=Nat.le_of_not_lt fun z=>c (decide_eq_true (by omega))
  refine⟨_,rfl,.inl ⟨rfl,_,SqL.of eQ⟩,Qd,qs,rfl,rfl,eQ,?_⟩
  have gB:Same H (upd H2 Qd (.lst qs.reverse)):=gg.free_upd hQH _
  have eRb:(upd H2 Qd (.lst qs.reverse)) R=some (.lst rs):=by rw[upd_ne hRQ];exact eR
  have cρb:Cf (upd H2 Qd (.lst qs.reverse)) (Off2 H R Qd) rs M (fun i=>T.enc (ρ.c i)):=cρ.updG fun b kk=>kk.2.2
  have eNM:N - M=N - n:=by omega
  have cxb:Cf (upd H2 Qd (.lst qs.reverse)) (Off2 H R Qd) qs.reverse (N - n) (fun j=>T.enc (x.c j)):=by
   rw[eNM] at cx
   refine (cx.rev.updG fun b kk=>kk.2.2).congr fun i hi=>?_
   have:N - n - 1 - (N - n - 1 - i)=i:=by omega
   rw[this]
  have eQb:(upd H2 Qd (.lst qs.reverse)) Qd=some (.lst qs.reverse):=upd_same
  generalize upd H2 Qd (.lst qs.reverse)=HB at gB eRb cρb cxb eQb
  refine⟨_,rfl,_,rfl,_,rfl,a,T,.ref R,M,ρ,NewB H,rfl,O.mono gB ja,?_,dρ,by omega,fun r m H5 hm nz g5 rr=>?_⟩
  ·exact (cρb.imp fun b o h kk=>⟨h,kk.1⟩).rep eRb hRH
  ·refine⟨len_ok rfl,fun t ht=>?_⟩
   have kt:=same_new ht (.tup [.ref Qd,r])
   have g6:=(gB.trans g5).trans kt
   refine q t (.ref Qd) r m x ρ _ g6 ((gB.trans g5).free ht) upd_same ?_ ?_ hs dx nz (by omega)
   ·exact (cxb.imp fun b o h kk=>⟨kt _ _ (g5 _ _ h),kk.1⟩).rep (kt _ _ (g5 _ _ eQb)) hQH
   ·exact rr.imp fun b o h kk=>⟨kt _ _ h,kk.elim (fun z=>gB.free z) id⟩
end
section
variable {P:Program} {w:World} {K:FrQ} {mg:Str→Option Value} {base:Heap} {k:Nat} {J:L2.Kind}
theorem ok_monic_of (B:Blt mg)(O:TwB P w K mg base k J)(hk8:8≤k)(d_copied:Dfn P w K mg base 8 "copied" ["thing"] (spCopied 8))(d_scaled_poly:Dfn P w K mg base (k+1) "scaled_poly" ["tower","u","f"] (spScaled J))(F:Src K mg "monic_of" s_monic_of ["tower","f"]):Dfn P w K mg base (k+2) "monic_of" ["tower","f"] (spMonicOf J):=by
 refine F.ok sc_monic_of (fun vs H Q E h=>?_) (fun fa cdv A outer s H vs Q E hr h=>?_)
 ·obtain⟨a,T,v,n,s,rfl,_⟩:=h;rfl
 obtain⟨a,T,v,n,s,rfl,ja,rv,ds,hl,hn,q⟩:=h
 obtain⟨p,vs,rfl,hp,_,C⟩:=id rv.cf
 have hb:=(O.bd ja).2
 obtain⟨lv,hlv,rlv⟩:=C.at_ n (by omega)
 refine⟨_,pss_cons (ps_if (pt_cmpR (opK_eqD (K:=K) rfl hr.units) (pe_ix (ixK_list (K:=K) rfl) (pv 1) (pe_un un_neg pe_int) (fun _ _=>rfl)) (pe_mth0 O.one hr (pv 0) ) (nomark _))
   (pss_one (ps_ret (pe_def d_copied hr (pa_cons (pv 1) pa_nil) (by first|decide|omega))))
   (pss_nil))
  (pss_one (ps_ret (pe_def d_scaled_poly hr (pa_cons (pv 0) (pa_cons (pe_mth O.back hr (pv 0) (pa_cons (pe_ix (ixK_list (K:=K) rfl) (pv 1) (pe_un un_neg pe_int) (fun _ _=>rfl)) pa_nil)) (pa_cons (pv 1) pa_nil))) (by first|decide|omega)))),?_⟩
 have a1:atI vs (-1)=some lv:=atI_end C.len hlv
 refine⟨_,rfl,_,rfl,p,_,_,_,rfl,rfl,SqL.of hp,a1,?_⟩
 refine⟨_,rfl,a,rfl,⟨T,ja⟩,fun _ h=>h,a,T,rfl,ja,fun r1 H1 g1 rr1=>?_⟩
 refine eqRep (rlv.same g1) rr1 (T.fl _) (T.fl _) (by omega) (by omega) (fun e=>?_) (fun e=>?_)
 ·refine⟨_,rfl,iteT ?_⟩
  have e1:s.c n=1:=T.inj _ _ e
  refine⟨_,rfl,.ref p,_,7,rfl,rfl,(fl_pol T (by omega) s).mono (by omega),rv.same g1,fun r H2 g2 rr _=>?_⟩
  refine q r 1 H2 (by rw[e1];exact one_one) (g1.trans g2) ?_
  rw[one_cst_mul]
  exact rr.older g1
 ·refine⟨_,rfl,iteF ?_⟩
  refine⟨_,rfl,_,rfl,a,rfl,⟨T,O.mono g1 ja⟩,_,rfl,_,rfl,p,_,_,_,rfl,rfl,SqL.of (g1 _ _ hp),a1,fun _ h=>h,a,T,lv,s.c n,rfl,O.mono g1 ja,rlv.same g1,hl,fun r2 H2 y hy g2 rr2=>?_⟩
  refine⟨_,rfl,a,T,r2,.ref p,y,n+1,s,rfl,O.mono (g1.trans g2) ja,rr2.any,rv.same (g1.trans g2),by omega,fun r3 H3 g3 rr3=>?_⟩
  exact q r3 y H3 hy ((g1.trans g2).trans g3) (rr3.older (g1.trans g2))
theorem ok_over_poly (B:Blt mg)(O:TwB P w K mg base k J)(d_over_monic:Dfn P w K mg base (k+2) "over_monic" ["tower","f","g"] (spOverM J))(d_scaled_poly:Dfn P w K mg base (k+1) "scaled_poly" ["tower","u","f"] (spScaled J))(F:Src K mg "over_poly" s_over_poly ["tower","f","g"]):Dfn P w K mg base (k+3) "over_poly" ["tower","f","g"] (spOverP J):=by
 refine F.ok sc_over_poly (fun vs H Q E h=>?_) (fun fa cdv A outer s H vs Q E hr h=>?_)
 ·obtain⟨a,T,u,v,N,n,s,f,rfl,_⟩:=h;rfl
 obtain⟨a,T,u,v,N,n,s,f,rfl,ja,ru,ds,hN,rv,df,hl,hn,q⟩:=h
 obtain⟨p,vs,rfl,hp,_,C⟩:=id rv.cf
 have hb:=(O.bd ja).2
 obtain⟨lv,hlv,rlv⟩:=C.at_ n (by omega)
 refine⟨_,pss_cons (ps_if (pt_cmpR (opK_eqD (K:=K) rfl hr.units) (pe_ix (ixK_list (K:=K) rfl) (pv 2) (pe_un un_neg pe_int) (fun _ _=>rfl)) (pe_mth0 O.one hr (pv 0) ) (nomark _))
   (pss_one (ps_ret (pe_def d_over_monic hr (pa_cons (pv 0) (pa_cons (pv 1) (pa_cons (pv 2) pa_nil))) (by first|decide|omega))))
   (pss_nil))
  (pss_cons (ps_set (i:=3) sc_over_poly.nd rfl (Or.inl rfl) (pe_mth O.back hr (pv 0) (pa_cons (pe_ix (ixK_list (K:=K) rfl) (pv 2) (pe_un un_neg pe_int) (fun _ _=>rfl)) pa_nil)))
  (pss_cons (ps_asg (pe_def d_over_monic hr (pa_cons (pv 0) (pa_cons (pv 1) (pa_cons (pe_def d_scaled_poly hr (pa_cons (pv 0) (pa_cons (pv 3) (pa_cons (pv 2) pa_nil))) (by first|decide|omega)) pa_nil))) (by first|decide|omega)) (pgK_tup (n:=2) (K:=K) rfl rfl (pgs_cons (pg_name (i:=4) sc_over_poly.nd rfl (Or.inl rfl)) (pgs_cons (pg_name (i:=5) sc_over_poly.nd rfl (Or.inl rfl)) pgs_nil))))
  (pss_one (ps_ret (pe_tup (pa_cons (pe_def d_scaled_poly hr (pa_cons (pv 0) (pa_cons (pv 3) (pa_cons (pv 4) pa_nil))) (by first|decide|omega)) (pa_cons (pv 5) pa_nil))))))),?_⟩
 have a1:atI vs (-1)=some lv:=atI_end C.len hlv
 refine⟨_,rfl,_,rfl,p,_,_,_,rfl,rfl,SqL.of hp,a1,?_⟩
 refine⟨_,rfl,a,rfl,⟨T,ja⟩,fun _ h=>h,a,T,rfl,ja,fun r1 H1 g1 rr1=>?_⟩
 refine eqRep (rlv.same g1) rr1 (T.fl _) (T.fl _) (by omega) (by omega) (fun e=>?_) (fun e=>?_)
 ·refine⟨_,rfl,iteT ?_⟩
  have e1:f.c n=1:=T.inj _ _ e
  refine⟨_,rfl,_,rfl,_,rfl,a,T,u,.ref p,N,n,s,f,rfl,O.mono g1 ja,ru.same g1,ds,hN,rv.same g1,⟨e1,df⟩,hn,fun t q' r m x y H2 g2 ht et rq rr es dx nz hm=>?_⟩
  exact q t q' r m x y H2 (g1.trans g2) (g1.free ht) et (rq.older g1) (rr.older g1) es dx nz hm
 ·refine⟨_,rfl,iteF ?_⟩
  refine⟨_,rfl,a,rfl,⟨T,O.mono g1 ja⟩,_,rfl,_,rfl,p,_,_,_,rfl,rfl,SqL.of (g1 _ _ hp),a1,fun _ h=>h,a,T,lv,f.c n,rfl,O.mono g1 ja,rlv.same g1,hl,fun r2 H2 y hy g2 rr2=>?_⟩
  have g12:=g1.trans g2
  refine⟨_,rfl,_,rfl,_,rfl,_,rfl,_,rfl,a,T,r2,.ref p,y,n+1,f,rfl,O.mono g12 ja,rr2.any,rv.same g12,by omega,fun r3 H3 g3 rr3=>?_⟩
  have g13:=g12.trans g3
  have hm:Alg.Monic (cst y*f) n:=⟨by rw[cst_mul];exact mul_comm_one hy,fun i hi=>by rw[cst_mul,df i hi];exact mul_nought y⟩
  refine⟨a,T,u,r3,N,n,s,cst y*f,rfl,O.mono g13 ja,ru.same g13,ds,hN,rr3.any,hm,hn,fun t q' r m x z H4 g4 ht et rq rr es dx nz hm'=>?_⟩
  have g14:=g13.trans g4
  refine⟨t,_,rfl,SqT.of et,rfl,_,_,rfl,_,_,rfl,rfl,?_⟩
  refine⟨_,rfl,_,rfl,_,rfl,a,T,r2,q',y,N - n,x,rfl,O.mono g14 ja,(rr2.same (g3.trans g4)).any,rq.any,by omega,fun r5 H5 g5 rr5=>?_⟩
  refine⟨_,rfl,len_ok rfl,fun t' ht'=>?_⟩
  have g15:=g14.trans g5
  have kt:=same_new ht' (.tup [r5,r])
  refine q t' r5 r m (cst y*x) z _ (g15.trans kt) (g15.free ht') upd_same ((rr5.older g14).same kt) (((rr.older g13).same g5).same kt) ?_ (fun i hi=>by rw[cst_mul,dx i hi];exact mul_nought y) nz hm'
  rw[es];exact swap_mul x (cst y) f z
theorem ok_common_poly (B:Blt mg)(O:TwB P w K mg base k J)(d_over_poly:Dfn P w K mg base (k+3) "over_poly" ["tower","f","g"] (spOverP J))(d_monic_of:Dfn P w K mg base (k+2) "monic_of" ["tower","f"] (spMonicOf J))(F:Src K mg "common_poly" s_common_poly ["tower","f","g"]):Dfn P w K mg base (k+4) "common_poly" ["tower","f","g"] (spCommon J):=by
 refine F.ok sc_common_poly (fun vs H Q E h=>?_) (fun fa cdv A outer s H vs Q E hr h=>?_)
 ·obtain⟨a,T,u,v,n,m,s,t,rfl,_⟩:=h;rfl
 obtain⟨a,T,u,v,n,m,s,t,rfl,ja,ru,ds,hn,rv,dt,hm,h0,q⟩:=h
 have hb:=(O.bd ja).2
 refine⟨_,pss_cons (ps_set (i:=3) sc_common_poly.nd rfl (Or.inl rfl) (pv 1))
  (pss_cons (ps_set (i:=4) sc_common_poly.nd rfl (Or.inl rfl) (pv 2))
  (pss_cons (ps_while PassesOwn.never (pt_cmpR (opK_neD (K:=K) rfl hr.units) (pv 4) (pe_lst pa_nil) (nomark _))
   (pss_one (ps_par (i:=3) (j:=4) rfl sc_common_poly.nd rfl rfl (by decide) rfl rfl (pa_cons (pv 4) (pa_cons (pe_ix (ixK_tup (K:=K) rfl) (pe_def d_over_poly hr (pa_cons (pv 0) (pa_cons (pv 3) (pa_cons (pv 4) pa_nil))) (by first|decide|omega)) pe_int (fun _ _=>rfl)) pa_nil)) rfl)))
  (pss_one (ps_ret (pe_def d_monic_of hr (pa_cons (pv 0) (pa_cons (pv 3) pa_nil)) (by first|decide|omega)))))),?_⟩
 refine⟨_,rfl,_,rfl,?_⟩
 refine while_in (fun σ H2=>Same H H2∧∃ (o1 o2:V) (n m:Nat) (s' t':Ser T.α),σ=[some (.ref a),some u,some v,some o1,some o2]∧Rep H2 Any o1 (polE T n s')∧Nz T n s'∧n≤100∧Rep H2 Any o2 (polE T m t')∧Nz T m t'∧m≤100∧(0<n∨0<m)∧Mix s t s' t')
  (fun σ H=>lenAt σ 4 H) ⟨Same.refl H,u,v,n,m,s,t,rfl,ru,ds,hn,rv,dt,hm,h0,Mix.refl s t⟩ ?_
 clear ru ds hn rv dt hm h0
 rintro σ H2 ⟨gg,o1,o2,n,m,s',t',rfl,ru,ds,hn,rv,dt,hm,h0,mx⟩
 obtain⟨p,vs,rfl,hp,_,C⟩:=id rv.cf
 have hmu:lenAt [some (V.ref a),some u,some v,some o1,some (V.ref p)] 4 H2=m:=by rw[lenAt_of rfl hp];exact C.len
 rw[hmu]
 refine⟨_,rfl,len_ok rfl,fun l0 h0'=>?_⟩
 have k0:=same_new h0' (.lst [])
 have g2:=gg.trans k0
 refine neRep (rv.same k0) ((Cf.nil (ok:=Any) (e:=fun _=>.num 0)).rep upd_same trivial) (fl_pol T hm t') (fl_vecN (n:=0) (by omega) fun _=>.num 0) (by omega) (by omega) (fun e=>?_) (fun e=>?_)
 ·refine⟨_,rfl,iteF ?_⟩
  have m0:=(vecN_inj e).1
  subst m0
  have t0:t'=0:=dt.dg.eq0
  subst t0
  have n0:0<n:=h0.elim id fun z=>by omega
  obtain⟨n',rfl⟩:∃ n',n=n'+1:=⟨n - 1,by omega⟩
  have hl:s'.c n'≠0:=ds.last.elim (fun z=>by omega) id
  refine⟨_,rfl,_,rfl,a,T,o1,n',s',rfl,O.mono g2 ja,ru.same k0,ds.dg,hl,by omega,fun r y H3 hy g3 rr=>?_⟩
  obtain⟨w1,w2,w3⟩:=mx.last hy
  refine q r n' (cst y*s') H3 ⟨⟨by rw[cst_mul];exact mul_comm_one hy,fun i hi=>by rw[cst_mul,ds.dg i hi];exact mul_nought y⟩,w1,w2,w3⟩ (by omega) (g2.trans g3) (rr.older g2)
 ·refine⟨_,rfl,iteT (win ?_)⟩
  have m0:m≠0:=fun z=>e (by rw[z];rfl)
  obtain⟨m',rfl⟩:∃ m',m=m'+1:=⟨m - 1,by omega⟩
  have hl:t'.c m'≠0:=dt.last.elim (fun z=>by omega) id
  refine⟨_,rfl,_,rfl,_,rfl,_,rfl,a,T,o1,.ref p,n,m',s',t',rfl,O.mono g2 ja,ru.same k0,ds.dg,hn,rv.same k0,dt.dg,hl,by omega,fun tt q' r j x y H3 g3 ht et rq rr es dx nz hj=>?_⟩
  have g23:=g2.trans g3
  refine⟨tt,_,_,_,rfl,rfl,SqT.of et,rfl,?_⟩
  obtain⟨pr,zs,rfl,hpr,_,Cr⟩:=id rr.cf
  refine⟨_,_,rfl,⟨g23,.ref p,.ref pr,m'+1,j,t',y,rfl,rv.same (k0.trans g3),dt,hm,rr.any,nz,by omega,.inl (by omega),mx.step ⟨_,dx⟩ es⟩,?_⟩
  show lenAt [some (V.ref a),some u,some v,some (V.ref p),some (V.ref pr)] 4 H3<m'+1
  rw[lenAt_of rfl hpr,Cr.len];omega
theorem ok_power_by (B:Blt mg)(O:TwB P w K mg base k J)(d_over_monic:Dfn P w K mg base (k+2) "over_monic" ["tower","f","g"] (spOverM J))(d_times_poly:Dfn P w K mg base (k+1) "times_poly" ["tower","f","g"] (spTimesP J))(F:Src K mg "power_by" s_power_by ["tower","g","n","f"]):Dfn P w K mg base (k+3) "power_by" ["tower","g","n","f"] (spPowerBy J):=by
 refine F.ok sc_power_by (fun vs H Q E h=>?_) (fun fa cdv A outer s H vs Q E hr h=>?_)
 ·obtain⟨a,T,u,v,m,d,n,s,f,rfl,_⟩:=h;rfl
 obtain⟨a,T,u,v,m,d,n,s,f,rfl,ja,ru,ds,hm,rv,hf,d1,d2,n1,n2,q⟩:=h
 refine⟨_,pss_cons (ps_set (i:=4) sc_power_by.nd rfl (Or.inl rfl) (pe_lst (pa_cons (pe_mth0 O.one hr (pv 0) ) pa_nil)))
  (pss_cons (ps_set (i:=5) sc_power_by.nd rfl (Or.inl rfl) (pv 1))
  (pss_cons (ps_set (i:=6) sc_power_by.nd rfl (Or.inl rfl) (pv 2))
  (pss_cons (ps_while PassesOwn.never (pt_cmpR op_gt (pv 6) pe_int (nomark _))
   (pss_cons (ps_if (pt_cmpR op_eq (pe_op op_modN (pv 6) pe_int) pe_int (nomark _))
    (pss_one (ps_set (i:=4) sc_power_by.nd rfl (Or.inl rfl) (pe_ix (ixK_tup (K:=K) rfl) (pe_def d_over_monic hr (pa_cons (pv 0) (pa_cons (pe_def d_times_poly hr (pa_cons (pv 0) (pa_cons (pv 4) (pa_cons (pv 5) pa_nil))) (by first|decide|omega)) (pa_cons (pv 3) pa_nil))) (by first|decide|omega)) pe_int (fun _ _=>rfl))))
    (pss_nil))
   (pss_cons (ps_set (i:=6) sc_power_by.nd rfl (Or.inl rfl) (pe_op op_fdivW (pv 6) pe_int))
   (pss_one (ps_if (pt_cmpR op_gt (pv 6) pe_int (nomark _))
    (pss_one (ps_set (i:=5) sc_power_by.nd rfl (Or.inl rfl) (pe_ix (ixK_tup (K:=K) rfl) (pe_def d_over_monic hr (pa_cons (pv 0) (pa_cons (pe_def d_times_poly hr (pa_cons (pv 0) (pa_cons (pv 5) (pa_cons (pv 5) pa_nil))) (by first|decide|omega)) (pa_cons (pv 3) pa_nil))) (by first|decide|omega)) pe_int (fun _ _=>rfl))))
    (pss_nil))))))
  (pss_one (ps_ret (pv 4)))))),?_⟩
 refine⟨_,rfl,a,rfl,⟨T,ja⟩,fun _ h=>h,a,T,rfl,ja,fun r1 H1 g1 rr1=>?_⟩
 refine⟨len_ok rfl,fun l1 hl1=>?_⟩
 have k1:=same_new hl1 (.lst [r1])
 have g2:=g1.trans k1
 refine⟨_,rfl,_,rfl,?_⟩
 have r0:Rep (upd H1 l1 (.lst [r1])) (NewB H) (.ref l1) (polE T 1 (1:Ser T.α)):=by
  refine (Cf.push (n:=0) .nil ?_:Cf _ _ ([]++[r1]) 1 _).rep upd_same (g1.free hl1)
  exact rr1.same k1
 refine while_in (fun σ H2=>Same H H2∧∃ (o1 o2:V) (i j l:Nat) (y z:Ser T.α),σ=[some (.ref a),some u,some (.int (n:Int)),some v,some o1,some o2,some (.int (l:Int))]∧Rep H2 (NewB H) o1 (polE T i y)∧Dg y i∧i≤40∧Rep H2 Any o2 (polE T j z)∧Dg z j∧j≤40∧Cg f (s ^ n) (y*z ^ l)∧(0<l∨Nz T i y∧i≤d))
  (fun σ _=>match σ with | [_,_,_,_,_,_,some (.int l)]=>l.toNat | _=>0) ⟨g2,.ref l1,u,1,m,n,1,s,rfl,r0,Dg.one,by omega,ru.same g2,ds,hm,by rw[one_times];exact Cg.refl _ _,.inl (by omega)⟩ ?_
 rintro σ H2 ⟨gg,o1,o2,i,j,l,y,z,rfl,ry,dy,hi,rz,dz,hj,hc,hl⟩
 refine⟨_,rfl,_,_,rfl,rfl,_,rfl,ite2 (fun c=>win ?_) (fun c=>?_)⟩
 ·have l0:0<l:=by have:=of_decide_eq_true c;omega
  have pz:IsP z:=⟨_,dz⟩
  have py:IsP y:=⟨_,dy⟩
  have two:∀ (o3 o4:V) (i3 j3:Nat) (y3 z3:Ser T.α) (H3:Hp) (R C:VK),(∀ r2 H4,spOverM J [.ref a,r2,v] H4 (fun x1 H5=>rIxT K x1 (.int 1) H5 R) E0→C r2 H4)→Same H H3→Rep H3 Any o3 (polE T i3 y3)→Dg y3 i3→i3≤40→Rep H3 Any o4 (polE T j3 z3)→Dg z3 j3→j3≤40→(∀ r e w H4,Same H3 H4→Rep H4 (NewB H) r (polE T e w)→Nz T e w→e≤d→Cg f (y3*z3) w→R r H4)→
   spTimesP J [.ref a,o3,o4] H3 C E0:=fun o3 o4 i3 j3 y3 z3 H3 R C hC g3 r3 d3 h3 r4 d4 h4 hR=>by
   refine⟨a,T,o3,o4,i3,j3,y3,z3,rfl,O.mono g3 ja,r3,d3,r4,d4,by omega,fun r2 H4 g4 rr2=>?_⟩
   have g34:=g3.trans g4
   refine hC r2 H4 ⟨a,T,r2,v,_,d,y3*z3,f,rfl,O.mono g34 ja,rr2.any,dg_prod d3 d4,by split <;> omega,rv.same g34,hf,by omega,fun t q' r e x w H5 g5 ht et rq rr es dx nz he=>?_⟩
   exact⟨t,_,_,_,rfl,rfl,SqT.of et,rfl,hR r e w H5 (g4.trans g5) (rr.older g34) nz he (Cg.of_div ⟨_,dx⟩ es)⟩
  refine⟨_,rfl,_,_,rfl,rfl,(show (2:Int)≠0 by decide),rfl,_,rfl,?_⟩
  apply merge (M:=fun σ HM=>Same H HM∧∃ (o3:V) (i3:Nat) (y3:Ser T.α),σ=[some (.ref a),some u,some (.int (n:Int)),some v,some o3,some o2,some (.int (l:Int))]∧Rep HM (NewB H) o3 (polE T i3 y3)∧Dg y3 i3∧i3≤40∧Rep HM Any o2 (polE T j z)∧Cg f (s ^ n) (y3*(z*z) ^ (l / 2))∧(0<l / 2∨Nz T i3 y3∧i3≤d))
  case h1=>
   intro key
   by_cases c2:l % 2=1
   ·refine iteY (by show V.int ((l:Int).fmod 2)=V.int 1;rw[int_mod2,c2];rfl) ?_
    refine⟨_,rfl,_,rfl,_,rfl,_,rfl,two o1 o2 i j y z H2 _ _ (fun r2 H4 h=>⟨_,rfl,h⟩) gg ry.any dy hi rz dz hj fun r e w H4 g4 rr nz he hcw=>?_⟩
    refine key _ _ ⟨gg.trans g4,r,e,w,rfl,rr,nz.dg,by omega,rz.same g4,?_,.inr ⟨nz,he⟩⟩
    rw[half_odd y z c2] at hc
    exact hc.trans (Cg.mul ⟨_,nz.dg⟩ ((pz.mul pz).pow _) hcw (Cg.refl _ _))
   ·refine iteN (fun z=>c2 (by have z':V.int ((l:Int).fmod 2)=V.int 1:=z;have:=V.int.inj z';rw[int_mod2] at this;omega)) ?_
    refine key _ _ ⟨gg,o1,i,y,rfl,ry,dy,hi,rz,?_,.inl (by omega)⟩
    rw[half_even y z (by omega)] at hc
    exact hc
  case h2=>
   rintro σ HM ⟨gm,o3,i3,y3,rfl,r3,d3,h3,rz3,hc3,hl3⟩
   refine⟨_,rfl,_,_,rfl,rfl,(Bd.small (x:=2) (by decide) (by decide)).dv (by decide),?_⟩
   show gName 6 (V.int ((l:Int).fdiv 2)) _ _ _
   rw[int_div2]
   refine⟨_,rfl,_,_,rfl,rfl,_,rfl,ite2 (fun c3=>?_) (fun c3=>?_)⟩
   ·refine⟨_,rfl,_,rfl,_,rfl,_,rfl,two o2 o2 j j z z HM _ _ (fun r2 H4 h=>⟨_,rfl,h⟩) gm rz3 dz hj rz3 dz hj fun r e w H4 g4 rr nz he hcw=>?_⟩
    refine⟨⟨gm.trans g4,o3,r,i3,e,l / 2,y3,w,rfl,r3.same g4,d3,h3,rr.any,nz.dg,by omega,?_,hl3⟩,?_⟩
    ·exact hc3.trans (Cg.mul ⟨_,d3⟩ ((pz.mul pz).pow _) (Cg.refl _ _) (Cg.pow ⟨_,nz.dg⟩ (pz.mul pz) hcw _))
    ·show ((l / 2:Nat):Int).toNat<((l:Int)).toNat
     omega
   ·have l20:l / 2=0:=by
     refine Nat.eq_zero_of_not_pos fun z=>c3 (decide_eq_true ?_)
     omega
    refine⟨⟨gm,o3,o2,i3,j,l / 2,y3,z,rfl,r3,d3,h3,rz3,dz,hj,?_,hl3⟩,?_⟩
    ·rw[l20,pw_zero];rw[l20,pw_zero] at hc3;exact hc3
    ·show ((l / 2:Nat):Int).toNat<((l:Int)).toNat
     omega
 ·have l0:l=0:=by
   refine Nat.eq_zero_of_not_pos fun z=>c (decide_eq_true ?_)
   omega
  obtain⟨nz,hid⟩:=hl.elim (fun z=>by omega) id
  refine⟨_,rfl,q o1 i y H2 ?_ nz hid gg ry⟩
  rw[l0,pw_zero,times_one] at hc
  exact hc
theorem ok_letter_of (B:Blt mg)(O:TwB P w K mg base k J)(F:Src K mg "letter_of" s_letter_of ["tower"]):Dfn P w K mg base (k+1) "letter_of" ["tower"] (spLetterOf J):=by
 refine F.ok sc_letter_of (fun vs H Q E h=>?_) (fun fa cdv A outer s H vs Q E hr h=>?_)
 ·obtain⟨a,T,rfl,_⟩:=h;rfl
 obtain⟨a,T,rfl,ja,q⟩:=h
 refine⟨_,pss_one (ps_ret (pe_lst (pa_cons (pe_mth0 O.zero hr (pv 0) ) (pa_cons (pe_mth0 O.one hr (pv 0) ) pa_nil)))),?_⟩
 refine⟨_,rfl,a,rfl,⟨T,ja⟩,fun _ h=>h,a,T,rfl,ja,fun r1 H1 g1 rr1=>?_⟩
 refine⟨_,rfl,a,rfl,⟨T,O.mono g1 ja⟩,fun _ h=>h,a,T,rfl,O.mono g1 ja,fun r2 H2 g2 rr2=>?_⟩
 refine⟨len_ok rfl,fun l hl=>?_⟩
 have kl:=same_new hl (.lst [r1,r2])
 have g12:=g1.trans g2
 refine q _ _ (g12.trans kl) ?_
 exact ((Cf.push (n:=1) (Cf.push (n:=0) .nil ((rr1.same g2).same kl)) ((rr2.older g1).same kl):Cf _ (NewB H) [r1,r2] 2 fun i=>T.enc ((X:Ser T.α).c i))).rep upd_same (g12.free hl)
theorem ok_letter_to_powers (B:Blt mg)(O:TwB P w K mg base k J)(d_over_monic:Dfn P w K mg base (k+2) "over_monic" ["tower","f","g"] (spOverM J))(d_letter_of:Dfn P w K mg base (k+1) "letter_of" ["tower"] (spLetterOf J))(d_power_by:Dfn P w K mg base (k+3) "power_by" ["tower","g","n","f"] (spPowerBy J))(F:Src K mg "letter_to_powers" s_letter_to_powers ["tower","f","many"]):Dfn P w K mg base (k+4) "letter_to_powers" ["tower","f","many"] (spLetters J):=by
 refine F.ok sc_letter_to_powers (fun vs H Q E h=>?_) (fun fa cdv A outer s H vs Q E hr h=>?_)
 ·obtain⟨a,T,v,d,many,f,rfl,_⟩:=h;rfl
 obtain⟨a,T,v,d,many,f,rfl,ja,rv,hf,d1,d2,hmany,q⟩:=h
 refine⟨_,pss_cons (ps_set (i:=3) sc_letter_to_powers.nd rfl (Or.inl rfl) (pe_lst (pa_cons (pe_ix (ixK_tup (K:=K) rfl) (pe_def d_over_monic hr (pa_cons (pv 0) (pa_cons (pe_def d_letter_of hr (pa_cons (pv 0) pa_nil) (by first|decide|omega)) (pa_cons (pv 1) pa_nil))) (by first|decide|omega)) pe_int (fun _ _=>rfl)) pa_nil)))
  (pss_cons (ps_for PassesOwn.never rfl (pi_range1 rfl B.«range» (pa_cons (pv 2) pa_nil)) (pg_name (i:=4) sc_letter_to_powers.nd rfl (Or.inl rfl))
   (pss_one (ps_expr (pe_bm PySem.F.plainAttrs_list PySem.F.slot_list_append PySem.F.type_list_append mt_append (pv 3) (pa_cons (pe_def d_power_by hr (pa_cons (pv 0) (pa_cons (pe_ix (ixK_list (K:=K) rfl) (pv 3) (pe_un un_neg pe_int) (fun _ _=>rfl)) (pa_cons (pe_fldK (K:=K) rfl (pv 0)) (pa_cons (pv 1) pa_nil)))) (by first|decide|omega)) pa_nil)))))
  (pss_one (ps_ret (pv 3)))),?_⟩
 refine⟨_,rfl,_,rfl,a,T,rfl,ja,fun r1 H1 g1 rr1=>?_⟩
 refine⟨_,rfl,a,T,r1,v,2,d,X,f,rfl,O.mono g1 ja,rr1.any,Dg.mon 1 1,by omega,rv.same g1,hf,by omega,fun t q' r m x y H2 g2 ht et rq rr es dx nz hm=>?_⟩
 have g12:=g1.trans g2
 refine⟨t,_,_,_,rfl,rfl,SqT.of et,rfl,?_⟩
 refine⟨len_ok rfl,fun L hL=>?_⟩
 have kL:=same_new hL (.lst [r])
 have g3:=g12.trans kL
 have hLH:H L=none:=g12.free hL
 refine⟨_,rfl,_,rfl,by omega,by omega,?_⟩
 rw[Int.toNat_natCast]
 refine for_range (fun i σ H4=>Same H H4∧∃ (vs:List V) (o:Option V),σ=[some (.ref a),some v,some (.int (many:Int)),some (.ref L),o]∧H4 L=some (.lst vs)∧vs.length=i+1∧∀ j,j≤i→∃ v k y,vs[j]?=some v∧Rep H4 (Off H L) v (polE T k y)∧Nz T k y∧k≤d∧Cg f ((X:Ser T.α) ^ (T.p ^ j)) y) ?_ ?_ ?_
 ·refine⟨g3,[r],_,rfl,upd_same,rfl,fun j hj=>?_⟩
  obtain rfl:j=0:=by omega
  refine⟨r,m,y,rfl,?_,nz,hm,?_⟩
  ·exact (rr.older g1).imp fun b o h kk=>⟨kL _ _ h,kk,ne_of_none h hL⟩
  ·rw[Nat.pow_zero,pw_one]
   exact Cg.of_div ⟨_,dx⟩ es
 ·rintro i σ H4 hi ⟨g4,vs,o,rfl,eL,lL,hel⟩
  obtain⟨lv,k',y',hlv,rlv,nz',hk',hcg'⟩:=hel i (Nat.le_refl _)
  have j4:=O.mono g4 ja
  obtain⟨C,dx,fs,hins,hcl,hna,hlk⟩:=O.fld j4
  have pp:=pr_pos T.pr
  refine⟨_,rfl,.inl ⟨rfl,_,SqL.of eL⟩,_,rfl,_,rfl,_,rfl,L,_,_,_,rfl,rfl,SqL.of eL,atI_end lL hlv,_,rfl,a,C,dx,_,_,rfl,hins,hcl,hna,hlk,_,rfl,?_⟩
  refine⟨a,T,lv,v,k',d,T.p,y',f,rfl,j4,rlv.any,nz'.dg,by omega,rv.same g4,hf,d1,d2,by omega,by omega,fun r' k2 y2 H5 hcg nz2 hk2 g5 rr5=>?_⟩
  have g45:=g4.trans g5
  refine⟨L,vs,r',rfl,rfl,g5 _ _ eL,by rw[lL,sizeLine_eq];omega,?_⟩
  refine⟨g45.free_upd hLH _,vs++[r'],_,rfl,upd_same,by rw[List.length_append,lL];rfl,fun j hj=>?_⟩
  by_cases z:j≤i
  ·obtain⟨v1,k1,y1,h1,h2,h3,h4,h5⟩:=hel j z
   refine⟨v1,k1,y1,by rw[List.getElem?_append_left (by omega)];exact h1,?_,h3,h4,h5⟩
   exact h2.imp fun b o h kk=>⟨by rw[upd_ne kk.2];exact g5 _ _ h,kk⟩
  ·obtain rfl:j=i+1:=by omega
   refine⟨r',k2,y2,by rw[← lL,List.getElem?_concat_length],?_,nz2,hk2,?_⟩
   ·exact (rr5.offN g4 eL).updG fun b kk=>kk.2
   ·rw[Nat.pow_succ,pw_mul]
    exact (Cg.pow ⟨_,nz'.dg⟩ (IsP.X.pow _) hcg' _).trans hcg
 ·rintro σ H4 ⟨g4,vs,o,rfl,eL,lL,hel⟩
  refine⟨_,rfl,q L vs H4 g4 ⟨hLH,eL,lL,fun i hi=>?_⟩⟩
  obtain⟨v,k',y,h1,h2,h3,h4,h5⟩:=hel i hi
  exact⟨v,k',y,h1,h2.imp fun b o h kk=>⟨h,kk.1⟩,h3,h4,h5⟩
end
section
variable {P:Program} {w:World} {K:FrQ} {mg:Str→Option Value} {base:Heap}
theorem ok_primes_in (B:Blt mg)(F:Src K mg "primes_in" s_primes_in ["n"]):Dfn P w K mg base 1 "primes_in" ["n"] spPrimesIn:=by
 refine F.ok sc_primes_in (fun vs H Q E h=>?_) (fun fa cdv A outer s H vs Q E hr h=>?_)
 ·obtain⟨n,rfl,_⟩:=h;rfl
 obtain⟨n,rfl,n1,n2,q⟩:=h
 refine⟨_,pss_one (ps_ret (pe_compC (compScopeC_mk (N:=["r","n"]) (sl:=[none,some 0]) "r" (defScope s_primes_in) ["n"] rfl rfl (by decide +kernel)) rfl (pi_range2 rfl B.«range» (pa_cons pe_int (pa_cons (pe_op op_add (pv 0) pe_int) pa_nil))) (fun _ _ _ _ _=>(pg_name (i:=0) (by show List.Nodup (["r","n"]:List Str);decide +kernel) rfl (Or.inr rfl))) (fun _ _ _ _ _=>(pif_one (PW.pt (pw_and (pt_cmpR op_eq (pe_op op_modN (pv 1) (pv 0)) pe_int (nomark _)) (pw_and1 (pt_val (pe_callB (callK_all (K:=K) rfl rfl) rfl B.«all» bt_all (pa_cons (pe_comp (compScope_mk (N:=["low","r"]) (sl:=[none,some 0]) (relabelS (stComp ((defBody s_primes_in).getD 0 (.Pass ⟨0,0,0,0⟩))) (defScope s_primes_in)) ["r","n"] rfl rfl (by decide +kernel)) rfl (pi_range2 rfl B.«range» (pa_cons pe_int (pa_cons (pv 0) pa_nil))) (fun _ _ _ _ _=>(pg_name (i:=0) (by show List.Nodup (["low","r"]:List Str);decide +kernel) rfl (Or.inl rfl))) (fun _ _ _ _ _=>pif_none) (fun _ _ _ _ _=>(pe_cmpR op_ne (pe_op op_modN (pv 1) (pv 0)) pe_int (nomark _)))) pa_nil)))))))) (fun _ _ _ _ _=>(pv 0)))),?_⟩
 refine⟨_,rfl,_,_,rfl,rfl,_,_,rfl,by omega,fun D hD=>?_⟩
 have en:((n:Int)+1 - 2).toNat=n - 1:=by omega
 rw[en]
 refine comp_range (fun i ys H2=>Same H H2∧ys=(prL n i).map fun r:Nat=>V.int (r:Int)) ⟨same_new hD _,rfl⟩ ?_ ?_
 ·rintro i m ys H2 hm hi hy hlen ⟨gg,rfl⟩
  have e2:(2:Int)+(i:Int)=((i+2:Nat):Int):=by omega
  rw[e2]
  refine⟨_,rfl,_,rfl,_,_,rfl,rfl,by show ((i+2:Nat):Int)≠0;omega,rfl,_,rfl,?_⟩
  by_cases c:n % (i+2)=0
  ·refine iteY (by show V.int ((n:Int).fmod ((i+2:Nat):Int))=V.int 0;rw[int_mod,c];rfl) ?_
   refine⟨_,rfl,_,_,rfl,by omega,fun D2 hD2=>?_⟩
   have en2:(((i+2:Nat):Int) - 2).toNat=i:=by omega
   rw[en2]
   refine comp_range (fun j zs H3=>Same H2 H3∧zs=((List.range j).map fun j=>decide ((i+2) % (j+2)≠0)).map V.bl) ⟨same_new hD2 _,rfl⟩ ?_ ?_
   ·rintro j m2 zs H3 hm2 hj hz hlen2 ⟨g3,rfl⟩
    have e3:(2:Int)+(j:Int)=((j+2:Nat):Int):=by omega
    rw[e3]
    refine⟨_,rfl,_,rfl,_,_,rfl,rfl,by show ((j+2:Nat):Int)≠0;omega,rfl,?_⟩
    refine CW.emit hm2 hj (by rw[sizeLine_eq];omega) hz hlen2 ⟨Same.free_upd g3 hD2 _,?_⟩
    rw[List.range_succ,List.map_append,List.map_append]
    congr 1
    show [V.bl (!decide (V.int (((i+2:Nat):Int).fmod ((j+2:Nat):Int))=V.int 0))]=[V.bl (decide ((i+2) % (j+2)≠0))]
    rw[int_mod]
    congr 2
    by_cases z:(i+2) % (j+2)=0
    ·rw[z];rfl
    ·rw[decide_eq_true (p:=_≠0) z,decide_eq_false (fun y=>z (by have:=V.int.inj y;omega))];rfl
   ·rintro zs H3 hz ⟨g3,rfl⟩
    refine⟨D2,_,rfl,SqL.of hz,?_⟩
    refine⟨_,rfl,?_⟩
    have ap:=all_pr (r:=i+2) (by omega)
    rw[Nat.add_sub_cancel] at ap
    by_cases z:((List.range i).map fun j=>decide ((i+2) % (j+2)≠0)).all id=true
    ·rw[z]
     refine iteT ⟨_,rfl,?_⟩
     refine CW.emit hm hi (by rw[sizeLine_eq];omega) (g3 _ _ hy) hlen ⟨Same.free_upd (gg.trans g3) hD _,?_⟩
     rw[prL_succ,if_pos ⟨ap.mp z,Nat.dvd_of_mod_eq_zero c⟩,List.map_append]
     rfl
    ·rw[Bool.not_eq_true] at z
     rw[z]
     refine iteF (CW.skip hm hi (g3 _ _ hy) hlen ⟨gg.trans g3,?_⟩)
     rw[prL_succ,if_neg (fun y=>by rw[ap.mpr y.1] at z;cases z)]
  ·refine iteN (fun z=>c (by have z':V.int ((n:Int).fmod ((i+2:Nat):Int))=V.int 0:=z;have:=V.int.inj z';rw[int_mod] at this;omega)) ?_
   refine iteF (CW.skip hm hi hy hlen ⟨gg,?_⟩)
   rw[prL_succ,if_neg (fun y=>c (Nat.mod_eq_zero_of_dvd y.2))]
 ·rintro ys H2 hy ⟨gg,rfl⟩
  exact q D (prL n (n - 1)) H2 gg hD hy (Nat.le_trans (prL_len _ _) (by omega)) (prL_mem n1)
end
section
variable {P:Program} {w:World} {K:FrQ} {mg:Str→Option Value} {base:Heap} {k:Nat} {J:L2.Kind}
theorem ok_is_alone (B:Blt mg)(O:TwB P w K mg base k J)(d_letter_to_powers:Dfn P w K mg base (k+4) "letter_to_powers" ["tower","f","many"] (spLetters J))(d_primes_in:Dfn P w K mg base 1 "primes_in" ["n"] spPrimesIn)(d_common_poly:Dfn P w K mg base (k+4) "common_poly" ["tower","f","g"] (spCommon J))(d_minus_poly:Dfn P w K mg base (k+2) "minus_poly" ["tower","f","g"] (spMinusP J))(F:Src K mg "is_alone" s_is_alone ["tower","f"]):Dfn P w K mg base (k+5) "is_alone" ["tower","f"] (spAloneG J):=by
 refine F.ok sc_is_alone (fun vs H Q E h=>?_) (fun fa cdv A outer s H vs Q E hr h=>?_)
 ·obtain⟨a,T,v,n,s,rfl,_⟩:=h;rfl
 obtain⟨a,T,v,n,s,rfl,ja,rv,nz,hn13,qt,qf⟩:=h
 obtain⟨p,vs,rfl,hp,_,C⟩:=id rv.cf
 have hb:=O.bd ja
 refine⟨_,pss_cons (ps_if (PW.pt (pw_or (pt_cmpR op_lt (pe_callB (callK_len (K:=K) rfl) rfl B.«len» bt_len (pa_cons (pv 1) pa_nil)) pe_int (nomark _)) (pw_or1 (pt_cmpR (opK_neD (K:=K) rfl hr.units) (pe_ix (ixK_list (K:=K) rfl) (pv 1) (pe_un un_neg pe_int) (fun _ _=>rfl)) (pe_mth0 O.one hr (pv 0) ) (nomark _)))))
   (pss_one (ps_ret pe_bl))
   (pss_nil))
  (pss_cons (ps_set (i:=2) sc_is_alone.nd rfl (Or.inl rfl) (pe_op op_sub (pe_callB (callK_len (K:=K) rfl) rfl B.«len» bt_len (pa_cons (pv 1) pa_nil)) pe_int))
  (pss_cons (ps_if (pt_cmpR op_eq (pv 2) pe_int (nomark _))
   (pss_one (ps_ret pe_bl))
   (pss_nil))
  (pss_cons (ps_set (i:=3) sc_is_alone.nd rfl (Or.inl rfl) (pe_def d_letter_to_powers hr (pa_cons (pv 0) (pa_cons (pv 1) (pa_cons (pe_op op_mulO (pe_mth0 O.degree hr (pv 0) ) (pv 2)) pa_nil))) (by first|decide|omega)))
  (pss_cons (ps_if (pt_cmpR (opK_neD (K:=K) rfl hr.units) (pe_ix (ixK_list (K:=K) rfl) (pv 3) (pe_un un_neg pe_int) (fun _ _=>rfl)) (pe_ix (ixK_list (K:=K) rfl) (pv 3) pe_int (fun _ _=>rfl)) (nomark _))
   (pss_one (ps_ret pe_bl))
   (pss_nil))
  (pss_cons (ps_for PassesOwn.never rfl (piK_list (K:=K) rfl (pe_def d_primes_in hr (pa_cons (pv 2) pa_nil) (by first|decide|omega))) (pg_name (i:=4) sc_is_alone.nd rfl (Or.inl rfl))
   (pss_cons (ps_set (i:=5) sc_is_alone.nd rfl (Or.inl rfl) (pe_ix (ixK_list (K:=K) rfl) (pv 3) (pe_op op_fdivW (pe_op op_mulO (pe_mth0 O.degree hr (pv 0) ) (pv 2)) (pv 4)) (fun _ _=>rfl)))
   (pss_one (ps_if (pt_cmpR (opK_neD (K:=K) rfl hr.units) (pe_def d_common_poly hr (pa_cons (pv 0) (pa_cons (pv 1) (pa_cons (pe_def d_minus_poly hr (pa_cons (pv 0) (pa_cons (pv 5) (pa_cons (pe_ix (ixK_list (K:=K) rfl) (pv 3) pe_int (fun _ _=>rfl)) pa_nil))) (by first|decide|omega)) pa_nil))) (by first|decide|omega)) (pe_lst (pa_cons (pe_mth0 O.one hr (pv 0) ) pa_nil)) (nomark _))
    (pss_one (ps_ret pe_bl))
    (pss_nil)))))
  (pss_one (ps_ret pe_bl))))))),?_⟩
 refine⟨_,rfl,p,_,rfl,.inl (SqL.of hp),_,_,rfl,rfl,_,rfl,?_⟩
 rw[C.len]
 by_cases c2:n<2
 ·refine iteY (by omega) (iteT ?_)
  refine qf (fun ⟨M,e,_,_⟩=>?_) H (Same.refl H)
  have:=M.pos
  omega
 refine iteN (by omega) ?_
 obtain⟨lv,hlv,rlv⟩:=C.at_ (n - 1) (by omega)
 refine⟨_,rfl,_,rfl,p,_,_,_,rfl,rfl,SqL.of hp,atI_end (n:=n - 1) (by rw[C.len];omega) hlv,?_⟩
 refine⟨_,rfl,a,rfl,⟨T,ja⟩,fun _ h=>h,a,T,rfl,ja,fun r1 H1 g1 rr1=>?_⟩
 refine neRep (rlv.same g1) rr1 (T.fl _) (T.fl _) (by omega) (by omega) (fun e1=>?_) (fun e1=>?_)
 rotate_left
 ·refine⟨_,rfl,iteT ?_⟩
  refine qf (fun ⟨M,e,ef,_⟩=>e1 ?_) H1 g1
  rw[← ef,show n - 1=M.n by omega,M.mon.top]
 obtain⟨M,eM,eF⟩:∃ M:Md T.α,M.n+1=n∧M.f=s:=⟨⟨s,n - 1,⟨T.inj _ _ e1,by rw[show n - 1+1=n by omega];exact nz.dg⟩,by omega⟩,by show n - 1+1=n;omega,rfl⟩
 subst eM
 subst eF
 have qt:=fun h:AlM T M=>qt (isAl_md.mpr h)
 have qf:=fun h:¬ AlM T M=>qf (fun z=>h (isAl_md.mp z))
 have hn:M.n≤12:=by omega
 have np:=M.pos
 clear e1 rlv hlv c2
 refine⟨_,rfl,iteF ?_⟩
 refine⟨_,rfl,p,_,rfl,.inl (SqL.of (g1 _ _ hp)),_,_,rfl,rfl,?_⟩
 rw[C.len]
 rw[show (fun i j:Int=>V.int (i - j)) ((M.n+1:Nat):Int) 1=V.int (M.n:Int) from congrArg V.int (by omega)]
 refine⟨_,rfl,rfl,_,rfl,?_⟩
 by_cases c1:M.n=1
 ·refine iteY (by rw[c1];rfl) ?_
  exact qt (.inl c1) H1 g1
 refine iteN (fun z=>c1 (by have:=V.int.inj z;omega)) ?_
 refine⟨_,rfl,_,rfl,_,rfl,a,rfl,⟨T,O.mono g1 ja⟩,fun _ h=>h,a,T,rfl,O.mono g1 ja,fun H2 g2=>?_⟩
 have g12:=g1.trans g2
 refine⟨_,rfl,_,_,rfl,rfl,mulOkR (by omega) (by omega),?_⟩
 have em:(T.d:Int)*(M.n:Int)=((T.d*M.n:Nat):Int):=(Int.natCast_mul _ _).symm
 have bm:T.d*M.n≤144:=Nat.mul_le_mul hb.1 hn
 refine⟨a,T,.ref p,M.n,T.d*M.n,M.f,by rw[← em];rfl,O.mono g12 ja,rv.same g12,M.mon,M.pos,by omega,by omega,fun L ps H3 g3 pw=>?_⟩
 have g13:=g12.trans g3
 obtain⟨v0,k0,y0,h0,r0,nz0,hk0,cg0⟩:=pw.el 0 (by omega)
 obtain⟨vN,kN,yN,hN,rN,nzN,hkN,cgN⟩:=pw.el (T.d*M.n) (Nat.le_refl _)
 rw[Nat.pow_zero,pw_one] at cg0
 rw[Nat.pow_mul] at cgN
 refine⟨_,rfl,_,rfl,L,_,_,_,rfl,rfl,SqL.of pw.at_,atI_end pw.len hN,_,rfl,L,_,_,_,rfl,rfl,SqL.of pw.at_,atI_nat (j:=0) h0,?_⟩
 refine neRep rN r0 (fl_pol T (by omega) yN) (fl_pol T (by omega) y0) (by omega) (by omega) (fun e=>?_) (fun e=>?_)
 ·refine⟨_,rfl,iteF ?_⟩
  have eN0:=(polE_inj nzN.dg nz0.dg e).2
  have hx:Cg M.f ((X:Ser T.α) ^ ((T.p ^ T.d) ^ M.n)) X:=cgN.trans (by rw[eN0];exact cg0.symm)
  refine⟨_,rfl,M.n,rfl,M.pos,by omega,fun l rs H4 g4 hl el lr hrs=>?_⟩
  have g14:=g13.trans g4
  have lrs:(rs.map fun r:Nat=>V.int (r:Int)).length=rs.length:=List.length_map _
  refine⟨l,rfl,⟨_,SqL.of el⟩,for_list (xs:=rs.map fun r:Nat=>V.int (r:Int)) (fun i σ H5=>Same H4 H5∧(∃ o1 o2,σ=[some (.ref a),some (.ref p),some (.int (M.n:Int)),some (.ref L),o1,o2])∧∀ r∈rs.take i,∃ u v,IsP u∧IsP v∧u*M.f+v*((X:Ser T.α) ^ ((T.p ^ T.d) ^ (M.n / r)) - X)=1)
   ⟨Same.refl _,⟨_,_,rfl⟩,fun r hr'=>by simp at hr'⟩ (fun i σ H5 _ h=>SqL.of (h.1 _ _ el)) ?_ ?_⟩
  ·rintro i x σ H5 hx' ⟨g5,⟨o1,o2,rfl⟩,hall⟩
   obtain⟨r,hr',rfl⟩:∃ r,rs[i]?=some r∧x=V.int (r:Int):=by
    rw[List.getElem?_map] at hx'
    cases e:rs[i]? with
    | none=>rw[e] at hx';cases hx'
    | some r=>rw[e] at hx';exact⟨r,rfl,(Option.some.inj hx').symm⟩
   obtain⟨pr,dr⟩:=(hrs r).mp (List.mem_of_getElem? hr')
   have r2:=pr.1
   have rle:=Nat.le_of_dvd M.pos dr
   have g15:=g14.trans g5
   have e5:H5 L=some (.lst ps):=g5 _ _ (g4 _ _ pw.at_)
   refine⟨_,rfl,_,rfl,a,rfl,⟨T,O.mono g15 ja⟩,fun _ h=>h,a,T,rfl,O.mono g15 ja,fun H6 g6=>?_⟩
   have g16:=g15.trans g6
   have ei:(T.d*M.n) / r=T.d*(M.n / r):=Nat.mul_div_assoc _ dr
   obtain⟨va,ka,ya,ha,ra,nza,hka,cga⟩:=pw.el (T.d*(M.n / r)) (Nat.mul_le_mul_left _ (Nat.div_le_self _ _))
   rw[Nat.pow_mul] at cga
   have e6:H6 L=some (.lst ps):=g6 _ _ e5
   refine⟨_,rfl,_,_,rfl,rfl,mulOkR (by omega) (by omega),_,rfl,_,_,rfl,rfl,(Bd.small (x:=(r:Int)) (by omega) (by omega)).dv (by omega),L,_,_,va,rfl,rfl,SqL.of e6,?_,?_⟩
   ·show atI ps (((T.d:Int)*(M.n:Int)).fdiv (r:Int))=some va
    rw[em,int_div,ei]
    exact atI_nat ha
   have g36:Same H3 H6:=(g4.trans g5).trans g6
   refine⟨_,rfl,_,rfl,_,rfl,_,rfl,_,rfl,L,_,_,_,rfl,rfl,SqL.of e6,atI_nat (j:=0) h0,?_⟩
   refine⟨a,T,va,v0,ka,k0,ya,y0,rfl,O.mono g16 ja,(ra.same g36).any,nza.dg,by omega,(r0.same g36).any,nz0.dg,by omega,fun rm km H7 hkm nzm g7 rrm=>?_⟩
   have g17:=g16.trans g7
   have nzf:Nz T (M.n+1) M.f:=⟨M.mon.dg,.inr (by show M.f.c M.n≠0;rw[M.mon.top];exact T.fld.1)⟩
   refine⟨a,T,.ref p,rm,M.n+1,km,M.f,ya - y0,rfl,O.mono g17 ja,rv.same g17,nzf,by omega,rrm.any,nzm,by omega,.inl (by omega),fun rg kg gg H8 com hkg g8 rrg=>?_⟩
   have g18:=g17.trans g8
   refine⟨_,rfl,a,rfl,⟨T,O.mono g18 ja⟩,fun _ h=>h,a,T,rfl,O.mono g18 ja,fun r9 H9 g9 rr9=>?_⟩
   refine⟨len_ok rfl,fun l9 hl9=>?_⟩
   have k9:=same_new hl9 (.lst [r9])
   have g19:=(g18.trans g9).trans k9
   have rone:Rep (upd H9 l9 (.lst [r9])) Any (.ref l9) (vecN 1 fun _=>T.enc 1):=by
    refine (Cf.push (n:=0) .nil ?_:Cf _ _ ([]++[r9]) 1 _).rep upd_same trivial
    exact (rr9.same k9).any
   obtain⟨u1,v1,pu1,pv1,esum⟩:=com.sum
   obtain⟨w1,pw1,eleft⟩:=com.left
   obtain⟨w2,pw2,eright⟩:=com.right
   refine neRep (rrg.same (g9.trans k9)) rone (fl_pol T (by omega) gg) (fl_vecN (by omega) fun _=>T.fl _) (by omega) (by omega) (fun e=>?_) (fun e=>?_)
   ·refine⟨_,rfl,iteF ?_⟩
    refine⟨((((g5.trans g6).trans g7).trans g8).trans g9).trans k9,⟨_,_,rfl⟩,fun r' hr''=>?_⟩
    rw[List.take_succ,hr'] at hr''
    rcases List.mem_append.mp hr'' with z | z
    ·exact hall r' z
    ·obtain rfl:r'=r:=by simpa using z
     have e':=vecN_inj e
     have kg0:kg=0:=by have:=e'.1;omega
     subst kg0
     have g1':gg=1:=by rw[cst_of com.mon.dg,com.mon.top];rfl
     rw[g1'] at esum
     exact cop_of pu1 pv1 cga cg0 esum
   ·refine⟨_,rfl,iteT ?_⟩
    refine qf (fun al=>e ?_) _ g19
    rcases al with z | z
    ·exact absurd z c1
    ·obtain⟨u2,v2,pu2,pv2,e2⟩:=z.2 r pr dr
     obtain⟨kg0,g1'⟩:=cop_one T.fld.1 cga cg0 pu2 pv2 e2 com.mon pw1 pw2 eleft eright
     subst kg0 g1'
     rfl
  ·rintro σ H5 ⟨g5,⟨o1,o2,rfl⟩,hall⟩
   rw[lrs,List.take_length] at hall
   exact qt (.inr ⟨hx,fun r pr dr=>hall r ((hrs r).mpr ⟨pr,dr⟩)⟩) H5 (g14.trans g5)
 ·refine⟨_,rfl,iteT ?_⟩
  refine qf (fun al=>e ?_) H3 g13
  rcases al with z | z
  ·exact absurd z c1
  ·have ey:yN=y0:=Cg.uniq M.mon (nzN.dg.mono hkN) (nz0.dg.mono hk0) (cgN.symm.trans (z.1.trans cg0))
   subst ey
   rw[nzN.uniq nz0]
end
section
variable {P:Program} {w:World} {K:FrQ} {mg:Str→Option Value} {base:Heap} {k:Nat} {J:L2.Kind}
theorem ok_power_in (B:Blt mg)(O:TwO P w K mg base k J)(hk1:1≤k)(d_number_power:Dfn P w K mg base 1 "number_power" ["k","n"] spNumPow)(F:Src K mg "power_in" s_power_in ["storey","u","n"]):Dfn P w K mg base (k+1) "power_in" ["storey","u","n"] (spPow J):=by
 refine F.ok sc_power_in (fun vs H Q E h=>?_) (fun fa cdv A outer s H vs Q E hr h=>?_)
 ·obtain⟨a,T,u,x,n,rfl,_⟩:=h;rfl
 obtain⟨a,T,u,x,n,rfl,ja,ru,hn,q⟩:=h
 have hb:=O.bd ja
 have pp:=pr_pos T.pr
 refine⟨_,pss_cons (ps_if (pt_cmpR op_eq (pv 2) pe_int (nomark _))
   (pss_one (ps_ret (pe_mth0 O.one hr (pv 0) )))
   (pss_nil))
  (pss_cons (ps_if (pt_val (pe_mth O.is_nought hr (pv 0) (pa_cons (pv 1) pa_nil)))
   (pss_one (ps_ret (pe_mth0 O.zero hr (pv 0) )))
   (pss_nil))
  (pss_cons (ps_set (i:=3) sc_power_in.nd rfl (Or.inl rfl) (pe_op op_modN (pv 2) (pe_op op_sub (pe_def d_number_power hr (pa_cons (pe_fldK (K:=K) rfl (pv 0)) (pa_cons (pe_mth0 O.degree hr (pv 0) ) pa_nil)) (by first|decide|omega)) pe_int)))
  (pss_cons (ps_set (i:=4) sc_power_in.nd rfl (Or.inl rfl) (pe_mth0 O.one hr (pv 0) ))
  (pss_cons (ps_set (i:=5) sc_power_in.nd rfl (Or.inl rfl) (pv 1))
  (pss_cons (ps_while PassesOwn.never (pt_cmpR op_gt (pv 3) pe_int (nomark _))
   (pss_cons (ps_if (pt_cmpR op_eq (pe_op op_modN (pv 3) pe_int) pe_int (nomark _))
    (pss_one (ps_set (i:=4) sc_power_in.nd rfl (Or.inl rfl) (pe_mth O.times hr (pv 0) (pa_cons (pv 4) (pa_cons (pv 5) pa_nil)))))
    (pss_nil))
   (pss_cons (ps_set (i:=5) sc_power_in.nd rfl (Or.inl rfl) (pe_mth O.times hr (pv 0) (pa_cons (pv 5) (pa_cons (pv 5) pa_nil))))
   (pss_one (ps_set (i:=3) sc_power_in.nd rfl (Or.inl rfl) (pe_op op_fdivW (pv 3) pe_int))))))
  (pss_one (ps_ret (pv 4)))))))),?_⟩
 refine⟨_,rfl,rfl,_,rfl,?_⟩
 by_cases n0:n=0
 ·refine iteY (by rw[n0];rfl) ?_
  refine⟨_,rfl,a,rfl,⟨T,ja⟩,fun _ h=>h,a,T,rfl,ja,fun r H1 g1 rr=>?_⟩
  refine q r H1 g1 ?_
  rw[n0,pw_zero];exact rr
 refine iteN (fun z=>n0 (by have:=V.int.inj z;omega)) ?_
 refine⟨_,rfl,a,rfl,⟨T,ja⟩,_,rfl,fun _ h=>h,a,T,u,x,rfl,ja,ru,fun z H1 g1=>?_,fun z H1 g1=>?_⟩
 ·refine⟨_,rfl,iteT ?_⟩
  refine⟨_,rfl,a,rfl,⟨T,O.mono g1 ja⟩,fun _ h=>h,a,T,rfl,O.mono g1 ja,fun r H2 g2 rr=>?_⟩
  refine q r H2 (g1.trans g2) ?_
  rw[z,zero_pw (by omega)];exact rr.older g1
 ·refine⟨_,rfl,iteF ?_⟩
  have j1:=O.mono g1 ja
  obtain⟨C,dx,fs,hins,hcl,hna,hlk⟩:=O.fld j1
  refine⟨_,rfl,_,rfl,a,C,dx,_,_,rfl,hins,hcl,hna,hlk,_,rfl,a,rfl,⟨T,j1⟩,fun _ h=>h,a,T,rfl,j1,fun H2 g2=>?_⟩
  have g12:=g1.trans g2
  refine⟨T.p,T.d,rfl,by omega,by omega,?_⟩
  have q2:2≤T.p ^ T.d:=by
   have:=Nat.pow_le_pow_left pp.1 T.d
   have d1:=O.d1 ja
   have:2 ^ 1≤2 ^ T.d:=Nat.pow_le_pow_right (by decide) d1
   omega
  have eq1:((T.p ^ T.d:Nat):Int) - 1=((T.p ^ T.d - 1:Nat):Int):=by omega
  refine⟨_,_,rfl,rfl,_,_,rfl,rfl,by show ((T.p ^ T.d:Nat):Int) - 1≠0;omega,?_⟩
  show gName 3 (V.int ((n:Int).fmod (((T.p ^ T.d:Nat):Int) - 1))) _ _ _
  rw[eq1,int_mod]
  have epw:=pow_less T.fld.dom q2 (T.fr x) z n
  generalize n % (T.p ^ T.d - 1)=l0 at epw
  refine⟨_,rfl,a,rfl,⟨T,O.mono g12 ja⟩,fun _ h=>h,a,T,rfl,O.mono g12 ja,fun r1 H3 g3 rr1=>?_⟩
  have g13:=g12.trans g3
  refine⟨_,rfl,?_⟩
  refine while_in (fun σ H4=>Same H H4∧∃ (o1 o2:V) (l:Nat) (y z:T.α),σ=[some (.ref a),some u,some (.int (n:Int)),some (.int (l:Int)),some o1,some o2]∧Rep H4 (NewB H) o1 (T.enc y)∧Rep H4 Any o2 (T.enc z)∧x ^ n=y*z ^ l)
   (fun σ _=>match σ with | [_,_,_,some (.int l),_,_]=>l.toNat | _=>0) ⟨g13,r1,u,l0,1,x,rfl,rr1.older g12,ru.same g13,by rw[one_times,epw]⟩ ?_
  rintro σ H4 ⟨gg,o1,o2,l,y,z',rfl,ry,rz,hc⟩
  refine⟨_,rfl,_,_,rfl,rfl,_,rfl,ite2 (fun c=>win ?_) (fun c=>?_)⟩
  ·have l1:0<l:=by have:=of_decide_eq_true c;omega
   refine⟨_,rfl,_,_,rfl,rfl,(show (2:Int)≠0 by decide),rfl,_,rfl,?_⟩
   apply merge (M:=fun σ HM=>Same H HM∧∃ (o3:V) (y3:T.α),σ=[some (.ref a),some u,some (.int (n:Int)),some (.int (l:Int)),some o3,some o2]∧Rep HM (NewB H) o3 (T.enc y3)∧Rep HM Any o2 (T.enc z')∧x ^ n=y3*(z'*z') ^ (l / 2))
   case h1=>
    intro key
    by_cases c2:l % 2=1
    ·refine iteY (by show V.int ((l:Int).fmod 2)=V.int 1;rw[int_mod2,c2];rfl) ?_
     refine⟨_,rfl,a,rfl,⟨T,O.mono gg ja⟩,_,rfl,_,rfl,fun _ h=>h,a,T,o1,o2,y,z',rfl,O.mono gg ja,ry.any,rz,fun r H5 g5 rr=>?_⟩
     refine key _ _ ⟨gg.trans g5,r,y*z',rfl,rr.older gg,rz.same g5,?_⟩
     rw[← half_odd y z' c2];exact hc
    ·refine iteN (fun z=>c2 (by have z':V.int ((l:Int).fmod 2)=V.int 1:=z;have:=V.int.inj z';rw[int_mod2] at this;omega)) ?_
     refine key _ _ ⟨gg,o1,y,rfl,ry,rz,?_⟩
     rw[← half_even y z' (by omega)];exact hc
   case h2=>
    rintro σ HM ⟨gm,o3,y3,rfl,r3,rz3,hc3⟩
    refine⟨_,rfl,a,rfl,⟨T,O.mono gm ja⟩,_,rfl,_,rfl,fun _ h=>h,a,T,o2,o2,z',z',rfl,O.mono gm ja,rz3,rz3,fun r H5 g5 rr=>?_⟩
    refine⟨_,rfl,_,_,rfl,rfl,(Bd.small (x:=2) (by decide) (by decide)).dv (by decide),?_⟩
    show gName 3 (V.int ((l:Int).fdiv 2)) _ _ _
    rw[int_div2]
    refine⟨⟨gm.trans g5,o3,r,l / 2,y3,z'*z',rfl,r3.same g5,rr.any,hc3⟩,?_⟩
    show ((l / 2:Nat):Int).toNat<((l:Int)).toNat
    omega
  ·have l1:l=0:=by
    refine Nat.eq_zero_of_not_pos fun z=>c (decide_eq_true ?_)
    omega
   refine⟨_,rfl,q o1 H4 gg ?_⟩
   rw[hc,l1,pw_zero,times_one];exact ry
end
section
variable {P:Program} {w:World} {K:FrQ} {mg:Str→Option Value} {base:Heap} {CG CS:Addr} {k:Nat}
theorem ok_Ground_power (B:Blt mg)(d_power_in:Dfn P w K mg base k "power_in" ["storey","u","n"] (spPow (IsT CG CS 0)))(F:MSrc K CG "power" "Ground.power" s_Ground_power ["self","u","n"]):Mok P w K mg base (k+1) CG "power" ["self","u","n"] (spPow (IsT CG CS 0)):=by
 refine F.ok sc_Ground_power (fun vs H Q E h=>?_) (fun fa cdv A outer s H vs Q E hr h=>?_)
 ·obtain⟨a,T,u,x,n,rfl,_⟩:=h;rfl
 obtain⟨a,T,u,x,n,rfl,ja,ru,hn,q⟩:=h
 refine⟨_,pss_one (ps_ret (pe_def d_power_in hr (pa_cons (pv 0) (pa_cons (pv 1) (pa_cons (pv 2) pa_nil))) (by first|decide|omega))),?_⟩
 exact⟨_,rfl,_,rfl,_,rfl,a,T,u,x,n,rfl,ja,ru,hn,q⟩
theorem ok_Ground_back (B:Blt mg)(c:ClG K CG)(O:TwP P w K mg base k (IsT CG CS 0))(F:MSrc K CG "back" "Ground.back" s_Ground_back ["self","u"]):Mok P w K mg base (k+1) CG "back" ["self","u"] (spBack (IsT CG CS 0)):=by
 refine F.ok sc_Ground_back (fun vs H Q E h=>?_) (fun fa cdv A outer s H vs Q E hr h=>?_)
 ·obtain⟨a,T,u,x,rfl,_⟩:=h;rfl
 obtain⟨a,T,u,x,rfl,ja,ru,x0,q⟩:=h
 have pp:=pr_pos T.pr
 obtain⟨p,hp,rfl,dx,g⟩:=ja.inv0
 refine⟨_,pss_one (ps_ret (pe_mth O.power hr (pv 0) (pa_cons (pv 1) (pa_cons (pe_op op_sub (pe_fldK (K:=K) rfl (pv 0)) pe_int) pa_nil)))),?_⟩
 refine⟨_,rfl,a,rfl,⟨_,ja⟩,_,rfl,_,rfl,a,CG,dx,_,_,rfl,g,c.cl,c.nP,lg_p,_,_,rfl,rfl,fun _ h=>h,?_⟩
 have ep:(p:Int) - 2=((p - 2:Nat):Int):=by have:2≤p:=pp.1;omega
 refine⟨a,ground p hp,u,x,p - 2,by rw[← ep],ja,ru,?_,fun r H1 g1 rr=>q r H1 (x ^ (p - 2)) ?_ g1 rr⟩
 ·have:p<50:=pp.2
  exact Nat.lt_of_lt_of_le (show p - 2<2 ^ 6 by omega) (Nat.pow_le_pow_right (by decide) (by decide))
 ·have h2:2≤p:=pp.1
  have e:=pow_less (ground p hp).fld.dom (q:=p) h2 (by have:=(ground p hp).fr x;rw[show (ground p hp).d=1 from rfl,Nat.pow_one] at this;exact this) x0 (p - 1)
  rw[Nat.mod_self,pw_zero] at e
  have e2:=pw_succ x (p - 2)
  rw[show p - 2+1=p - 1 by omega,← e] at e2
  exact mul_comm_one e2.symm
end
section
variable {P:Program} {w:World} {K:FrQ} {mg:Str→Option Value} {base:Heap} {CG CS:Addr} {n k:Nat}
theorem ok_Storey_width (B:Blt mg)(c:ClS K CS)(F:MSrc K CS "width" "Storey.width" s_Storey_width ["self"]):Mok P w K mg base 1 CS "width" ["self"] (spWidth CG CS n):=by
 refine F.ok sc_Storey_width (fun vs H Q E h=>?_) (fun fa cdv A outer s H vs Q E hr h=>?_)
 ·obtain⟨a,b,q',dx,T,M,rfl,_⟩:=h;rfl
 obtain⟨a,b,q',dx,T,M,rfl,sa,q⟩:=h
 obtain⟨p,vs,e,hp,_,C⟩:=sa.r.cf
 cases e
 refine⟨_,pss_one (ps_ret (pe_op op_sub (pe_callB (callK_len (K:=K) rfl) rfl B.«len» bt_len (pa_cons (pe_fldK (K:=K) rfl (pv 0)) pa_nil)) pe_int)),?_⟩
 refine⟨_,rfl,a,CS,dx,_,_,rfl,sa.h,c.cl,c.nQ,lk_part,q',_,rfl,.inl (SqL.of hp),_,_,rfl,rfl,?_⟩
 show Q (V.int ((vs.length:Int) - 1)) H
 rw[C.len,show ((M.n+1:Nat):Int) - 1=(M.n:Int) by omega]
 exact q H (Same.refl H)
theorem ok_Storey_degree (B:Blt mg)(c:ClS K CS)(O:TwB P w K mg base k (IsT CG CS n))(S:StW P w K mg base k CG CS n)(F:MSrc K CS "degree" "Storey.degree" s_Storey_degree ["self"]):Mok P w K mg base (k+1) CS "degree" ["self"] (spDeg (IsT CG CS (n+1))):=by
 refine F.ok sc_Storey_degree (fun vs H Q E h=>?_) (fun fa cdv A outer s H vs Q E hr h=>?_)
 ·obtain⟨a,T',rfl,_⟩:=h;rfl
 obtain⟨a,T',rfl,ja,q⟩:=h
 obtain⟨b,q',dx,T,M,al,hn,rfl,sa⟩:=ja.invS
 have hb:=O.bd sa.f
 have hM:=sa.n
 refine⟨_,pss_one (ps_ret (pe_op op_mulO (pe_mth0 O.degree hr (pe_fldK (K:=K) rfl (pv 0)) ) (pe_mth0 S.width hr (pv 0) ))),?_⟩
 refine⟨_,rfl,a,CS,dx,_,_,rfl,sa.h,c.cl,c.nF,lk_floor,b,rfl,⟨T,sa.f⟩,fun _ h=>h,b,T,rfl,sa.f,fun H1 g1=>?_⟩
 have s1:=sa.mono g1
 refine⟨_,rfl,a,rfl,⟨b,q',dx,T,M,s1⟩,fun _ h=>h,a,b,q',dx,T,M,rfl,s1,fun H2 g2=>?_⟩
 refine⟨_,_,rfl,rfl,mulOkR (by omega) (by omega),?_⟩
 show Q (V.int ((T.d:Int)*(M.n:Int))) H2
 rw[← Int.natCast_mul]
 exact q H2 (g1.trans g2)
theorem ok_Storey_zero (B:Blt mg)(c:ClS K CS)(O:TwB P w K mg base k (IsT CG CS n))(S:StW P w K mg base k CG CS n)(F:MSrc K CS "zero" "Storey.zero" s_Storey_zero ["self"]):Mok P w K mg base (k+1) CS "zero" ["self"] (spZero (IsT CG CS (n+1))):=by
 refine F.ok sc_Storey_zero (fun vs H Q E h=>?_) (fun fa cdv A outer s H vs Q E hr h=>?_)
 ·obtain⟨a,T',rfl,_⟩:=h;rfl
 obtain⟨a,T',rfl,ja,q⟩:=h
 obtain⟨b,q',dx,T,M,al,hn,rfl,sa⟩:=ja.invS
 have hM:=sa.n
 refine⟨_,pss_one (ps_ret (pe_comp (compScope_mk (N:=["place","self"]) (sl:=[none,some 0]) (defScope s_Storey_zero) ["self"] rfl rfl (by decide +kernel)) rfl (pi_range1 rfl B.«range» (pa_cons (pe_mth0 S.width hr (pv 0) ) pa_nil)) (fun _ _ _ _ _=>(pg_name (i:=0) (by show List.Nodup (["place","self"]:List Str);decide +kernel) rfl (Or.inl rfl))) (fun _ _ _ _ _=>pif_none) (fun _ _ _ _ _=>(pe_mth0 O.zero hr (pe_fldK (K:=K) rfl (pv 1)) )))),?_⟩
 refine⟨_,rfl,a,rfl,⟨b,q',dx,T,M,sa⟩,fun _ h=>h,a,b,q',dx,T,M,rfl,sa,fun H1 g1=>?_⟩
 refine⟨_,rfl,by omega,by omega,fun D hD=>?_⟩
 rw[Int.toNat_natCast]
 refine comp_zerosP (T:=T) (fun H=>StAt CG CS n H a b q' dx T M) (fun g h=>h.mono g) (sa.mono g1) hD (by omega) (fun y H2 R s2 h2=>⟨_,rfl,a,CS,dx,_,_,rfl,s2.h,c.cl,c.nF,lk_floor,b,rfl,⟨T,s2.f⟩,fun _ h=>h,b,T,rfl,s2.f,h2⟩) fun ys H2 g2 hy cy=>?_
 exact q _ H2 (g1.trans g2) ((cy.imp fun b o h kk=>⟨h,g1.free kk.1⟩).rep hy (g1.free hD))
theorem ok_Storey_lifted (B:Blt mg)(c:ClS K CS)(hk8:8≤k)(d_copied:Dfn P w K mg base 8 "copied" ["thing"] (spCopied 8))(O:TwB P w K mg base k (IsT CG CS n))(S:StW P w K mg base k CG CS n)(F:MSrc K CS "lifted" "Storey.lifted" s_Storey_lifted ["self","u"]):Mok P w K mg base (k+1) CS "lifted" ["self","u"] (spLifted CG CS n):=by
 refine F.ok sc_Storey_lifted (fun vs H Q E h=>?_) (fun fa cdv A outer s H vs Q E hr h=>?_)
 ·obtain⟨a,b,q',dx,T,M,u,x,rfl,_⟩:=h;rfl
 obtain⟨a,b,q',dx,T,M,u,x,rfl,sa,ru,q⟩:=h
 have hM:=sa.n
 have hM1:=M.pos
 have hb:=O.bd sa.f
 refine⟨_,pss_one (ps_ret (pe_op op_cat (pe_lst (pa_cons (pe_def d_copied hr (pa_cons (pv 1) pa_nil) (by first|decide|omega)) pa_nil)) (pe_comp (compScope_mk (N:=["place","self"]) (sl:=[none,some 0]) (defScope s_Storey_lifted) ["self","u"] rfl rfl (by decide +kernel)) rfl (pi_range2 rfl B.«range» (pa_cons pe_int (pa_cons (pe_mth0 S.width hr (pv 0) ) pa_nil))) (fun _ _ _ _ _=>(pg_name (i:=0) (by show List.Nodup (["place","self"]:List Str);decide +kernel) rfl (Or.inl rfl))) (fun _ _ _ _ _=>pif_none) (fun _ _ _ _ _=>(pe_mth0 O.zero hr (pe_fldK (K:=K) rfl (pv 1)) ))))),?_⟩
 refine⟨_,rfl,u,_,7,rfl,rfl,(T.fl x).mono (by omega),ru,fun r1 H1 g1 rr1 _=>?_⟩
 refine⟨len_ok rfl,fun l1 hl1=>?_⟩
 have k1:=same_new hl1 (.lst [r1])
 have g2:=g1.trans k1
 refine⟨_,rfl,a,rfl,⟨b,q',dx,T,M,sa.mono g2⟩,fun _ h=>h,a,b,q',dx,T,M,rfl,sa.mono g2,fun H3 g3=>?_⟩
 have g13:=g2.trans g3
 refine⟨_,_,rfl,by omega,fun D hD=>?_⟩
 have en:((M.n:Int) - 1).toNat=M.n - 1:=by omega
 rw[en]
 refine comp_zerosP (T:=T) (fun H=>StAt CG CS n H a b q' dx T M) (fun g h=>h.mono g) (sa.mono g13) hD (by omega) (fun y H2 R s2 h2=>⟨_,rfl,a,CS,dx,_,_,rfl,s2.h,c.cl,c.nF,lk_floor,b,rfl,⟨T,s2.f⟩,fun _ h=>h,b,T,rfl,s2.f,h2⟩) fun ys H4 g4 hy cy=>?_
 have g14:=g13.trans g4
 have e1:H4 l1=some (.lst [r1]):=g4 _ _ (g3 _ _ upd_same)
 refine⟨l1,D,_,_,rfl,rfl,e1,hy,by rw[cy.len,sizeLine_eq];show 1+_≤_;omega,fun l2 hl2=>?_⟩
 have k2:=same_new hl2 (.lst ([r1]++ys))
 refine q _ _ (g14.trans k2) ?_
 have c1:Cf (upd H4 l2 (.lst ([r1]++ys))) (NewB H) [r1] 1 fun _=>T.enc x:=(Cf.push (n:=0) .nil ((rr1.same (((k1.trans g3).trans g4).trans k2))):Cf _ _ ([]++[r1]) 1 _)
 have c2:Cf (upd H4 l2 (.lst ([r1]++ys))) (NewB H) ys (M.n - 1) fun _=>T.enc 0:=cy.imp fun b o h kk=>⟨k2 _ _ h,g13.free kk.1⟩
 have c3:=c1.append c2
 rw[show 1+(M.n - 1)=M.n by omega] at c3
 refine (c3.congr fun i hi=>?_).rep upd_same (g14.free hl2)
 show _=T.enc (if i=0 then x else 0)
 by_cases z:i=0
 ·rw[if_pos z,if_pos (by omega)]
 ·rw[if_neg z,if_neg (by omega)]
theorem ok_Storey_one (B:Blt mg)(c:ClS K CS)(O:TwB P w K mg base k (IsT CG CS n)){k':Nat}(hk':k≤k')(S:StL P w K mg base k' CG CS n)(F:MSrc K CS "one" "Storey.one" s_Storey_one ["self"]):Mok P w K mg base (k'+1) CS "one" ["self"] (spOne (IsT CG CS (n+1))):=by
 refine F.ok sc_Storey_one (fun vs H Q E h=>?_) (fun fa cdv A outer s H vs Q E hr h=>?_)
 ·obtain⟨a,T',rfl,_⟩:=h;rfl
 obtain⟨a,T',rfl,ja,q⟩:=h
 obtain⟨b,q',dx,T,M,al,hn,rfl,sa⟩:=ja.invS
 refine⟨_,pss_one (ps_ret (pe_mth S.lifted hr (pv 0) (pa_cons (pe_mth0 O.one hr (pe_fldK (K:=K) rfl (pv 0)) ) pa_nil))),?_⟩
 refine⟨_,rfl,a,rfl,⟨b,q',dx,T,M,sa⟩,_,rfl,a,CS,dx,_,_,rfl,sa.h,c.cl,c.nF,lk_floor,b,rfl,⟨T,sa.f⟩,fun _ h=>h,b,T,rfl,sa.f,fun r1 H1 g1 rr1=>?_⟩
 refine⟨fun _ h=>g1 _ _ h,a,b,q',dx,T,M,r1,1,rfl,sa.mono g1,rr1.any,fun r2 H2 g2 rr2=>?_⟩
 exact q r2 H2 (g1.trans g2) (rr2.older g1)
theorem ok_Storey_plus (B:Blt mg)(c:ClS K CS)(O:TwB P w K mg base k (IsT CG CS n))(F:MSrc K CS "plus" "Storey.plus" s_Storey_plus ["self","u","v"]):Mok P w K mg base (k+1) CS "plus" ["self","u","v"] (spPlus (IsT CG CS (n+1))):=by
 refine F.ok sc_Storey_plus (fun vs H Q E h=>?_) (fun fa cdv A outer s H vs Q E hr h=>?_)
 ·obtain⟨a,T',u,v,x,y,rfl,_⟩:=h;rfl
 obtain⟨a,T',u,v,x,y,rfl,ja,ru,rv,q⟩:=h
 obtain⟨b,q',dx,T,M,al,hn,rfl,sa⟩:=ja.invS
 have hM:=sa.n
 have ru:Rep H Any u (polE T M.n (show Qt M from x).s):=ru
 have rv:Rep H Any v (polE T M.n (show Qt M from y).s):=rv
 obtain⟨l1,us,rfl,h1,_,c1⟩:=ru.cf
 obtain⟨l2,ws,rfl,h2,_,c2⟩:=rv.cf
 refine⟨_,pss_one (ps_ret (pe_comp (compScope_mk (N:=["one","other","self"]) (sl:=[none,none,some 0]) (defScope s_Storey_plus) ["self","u","v"] rfl rfl (by decide +kernel)) rfl (piK_zip (K:=K) rfl rfl B.«zip» (pa_cons (pv 1) (pa_cons (pv 2) pa_nil))) (fun _ _ _ _ _=>(pgK_tup (n:=2) (K:=K) rfl rfl (pgs_cons (pg_name (i:=0) (by show List.Nodup (["one","other","self"]:List Str);decide +kernel) rfl (Or.inl rfl)) (pgs_cons (pg_name (i:=1) (by show List.Nodup (["one","other","self"]:List Str);decide +kernel) rfl (Or.inl rfl)) pgs_nil)))) (fun _ _ _ _ _=>pif_none) (fun _ _ _ _ _=>(pe_mth O.plus hr (pe_fldK (K:=K) rfl (pv 2)) (pa_cons (pv 0) (pa_cons (pv 1) pa_nil)))))),?_⟩
 refine⟨_,rfl,_,rfl,l1,l2,rfl,⟨_,SqL.of h1⟩,⟨_,SqL.of h2⟩,fun D hD=>?_⟩
 refine comp_pairsP (e:=fun i=>T.enc ((show Qt M from x).s.c i+(show Qt M from y).s.c i)) (fun H=>StAt CG CS n H a b q' dx T M) (fun g h=>h.mono g) sa h1 h2 c1 c2 hD (by omega) (fun i x1 y1 H2 R hi s2 rx ry h6=>⟨_,rfl,a,CS,dx,_,_,rfl,s2.h,c.cl,c.nF,lk_floor,b,rfl,⟨T,s2.f⟩,_,rfl,_,rfl,fun _ h=>h,b,T,x1,y1,_,_,rfl,s2.f,rx,ry,h6⟩) fun zs H2 g2 hz cz=>?_
 exact q _ H2 g2 (cz.newB.rep hz hD)
theorem ok_Storey_minus (B:Blt mg)(c:ClS K CS)(O:TwB P w K mg base k (IsT CG CS n))(F:MSrc K CS "minus" "Storey.minus" s_Storey_minus ["self","u","v"]):Mok P w K mg base (k+1) CS "minus" ["self","u","v"] (spMinus (IsT CG CS (n+1))):=by
 refine F.ok sc_Storey_minus (fun vs H Q E h=>?_) (fun fa cdv A outer s H vs Q E hr h=>?_)
 ·obtain⟨a,T',u,v,x,y,rfl,_⟩:=h;rfl
 obtain⟨a,T',u,v,x,y,rfl,ja,ru,rv,q⟩:=h
 obtain⟨b,q',dx,T,M,al,hn,rfl,sa⟩:=ja.invS
 have hM:=sa.n
 have ru:Rep H Any u (polE T M.n (show Qt M from x).s):=ru
 have rv:Rep H Any v (polE T M.n (show Qt M from y).s):=rv
 obtain⟨l1,us,rfl,h1,_,c1⟩:=ru.cf
 obtain⟨l2,ws,rfl,h2,_,c2⟩:=rv.cf
 refine⟨_,pss_one (ps_ret (pe_comp (compScope_mk (N:=["one","other","self"]) (sl:=[none,none,some 0]) (defScope s_Storey_minus) ["self","u","v"] rfl rfl (by decide +kernel)) rfl (piK_zip (K:=K) rfl rfl B.«zip» (pa_cons (pv 1) (pa_cons (pv 2) pa_nil))) (fun _ _ _ _ _=>(pgK_tup (n:=2) (K:=K) rfl rfl (pgs_cons (pg_name (i:=0) (by show List.Nodup (["one","other","self"]:List Str);decide +kernel) rfl (Or.inl rfl)) (pgs_cons (pg_name (i:=1) (by show List.Nodup (["one","other","self"]:List Str);decide +kernel) rfl (Or.inl rfl)) pgs_nil)))) (fun _ _ _ _ _=>pif_none) (fun _ _ _ _ _=>(pe_mth O.minus hr (pe_fldK (K:=K) rfl (pv 2)) (pa_cons (pv 0) (pa_cons (pv 1) pa_nil)))))),?_⟩
 refine⟨_,rfl,_,rfl,l1,l2,rfl,⟨_,SqL.of h1⟩,⟨_,SqL.of h2⟩,fun D hD=>?_⟩
 refine comp_pairsP (e:=fun i=>T.enc ((show Qt M from x).s.c i - (show Qt M from y).s.c i)) (fun H=>StAt CG CS n H a b q' dx T M) (fun g h=>h.mono g) sa h1 h2 c1 c2 hD (by omega) (fun i x1 y1 H2 R hi s2 rx ry h6=>⟨_,rfl,a,CS,dx,_,_,rfl,s2.h,c.cl,c.nF,lk_floor,b,rfl,⟨T,s2.f⟩,_,rfl,_,rfl,fun _ h=>h,b,T,x1,y1,_,_,rfl,s2.f,rx,ry,h6⟩) fun zs H2 g2 hz cz=>?_
 refine q _ H2 g2 ((cz.newB.congr fun i hi=>?_).rep hz hD)
 show _=T.enc (((show Qt M from x) - (show Qt M from y)).s.c i)
 rw[s_sub,c_sub]
theorem ok_Storey_is_nought (B:Blt mg)(c:ClS K CS)(O:TwB P w K mg base k (IsT CG CS n))(F:MSrc K CS "is_nought" "Storey.is_nought" s_Storey_is_nought ["self","u"]):Mok P w K mg base (k+1) CS "is_nought" ["self","u"] (spNought (IsT CG CS (n+1))):=by
 refine F.ok sc_Storey_is_nought (fun vs H Q E h=>?_) (fun fa cdv A outer s H vs Q E hr h=>?_)
 ·obtain⟨a,T',u,x,rfl,_⟩:=h;rfl
 obtain⟨a,T',u,x,rfl,ja,ru,qt,qf⟩:=h
 obtain⟨b,q',dx,T,M,al,hn,rfl,sa⟩:=ja.invS
 have ru:Rep H Any u (polE T M.n (show Qt M from x).s):=ru
 obtain⟨l1,us,rfl,h1,_,c1⟩:=ru.cf
 refine⟨_,pss_cons (ps_for PassesOwn.never rfl (piK_list (K:=K) rfl (pv 1)) (pg_name (i:=2) sc_Storey_is_nought.nd rfl (Or.inl rfl))
   (pss_one (ps_if (pt_not (pt_val (pe_mth O.is_nought hr (pe_fldK (K:=K) rfl (pv 0)) (pa_cons (pv 2) pa_nil))))
    (pss_one (ps_ret pe_bl))
    (pss_nil))))
  (pss_one (ps_ret pe_bl)),?_⟩
 refine⟨_,rfl,l1,rfl,⟨_,SqL.of h1⟩,for_list (xs:=us) (fun i σ H2=>Same H H2∧(∃ o,σ=[some (.ref a),some (.ref l1),o])∧∀ j,j<i→(show Qt M from x).s.c j=0) ⟨Same.refl H,⟨_,rfl⟩,fun j hj=>by omega⟩ (fun i σ H2 _ h=>SqL.of (h.1 _ _ h1)) ?_ ?_⟩
 ·rintro i v σ H2 hv ⟨g2,⟨o,rfl⟩,hall⟩
  obtain⟨hi,rv⟩:=c1.get hv
  have s2:=sa.mono g2
  refine⟨_,rfl,a,CS,dx,_,_,rfl,s2.h,c.cl,c.nF,lk_floor,b,rfl,⟨T,s2.f⟩,_,rfl,fun _ h=>h,b,T,v,_,rfl,s2.f,rv.same g2,fun z H3 g3=>?_,fun z H3 g3=>?_⟩
  ·refine⟨_,rfl,iteF ⟨g2.trans g3,⟨_,rfl⟩,fun j hj=>?_⟩⟩
   by_cases e:j=i
   ·rw[e];exact z
   ·exact hall j (by omega)
  ·refine⟨_,rfl,iteT ?_⟩
   refine qf (fun e=>z ?_) H3 (g2.trans g3)
   have e':(show Qt M from x).s=0:=congrArg Qt.s e
   rw[e'];rfl
 ·rintro σ H2 ⟨g2,⟨o,rfl⟩,hall⟩
  rw[c1.len] at hall
  refine qt ?_ H2 g2
  show (show Qt M from x)=0
  apply Qt.ext
  apply Ser.ext
  funext i
  by_cases e:i<M.n
  ·exact hall i e
  ·exact (show Qt M from x).lt i (by omega)
theorem ok_Storey_by_part (B:Blt mg)(c:ClS K CS)(O:TwB P w K mg base k (IsT CG CS n))(S:StW P w K mg base k CG CS n)(F:MSrc K CS "by_part" "Storey.by_part" s_Storey_by_part ["self","terms"]):Mok P w K mg base (k+1) CS "by_part" ["self","terms"] (spByPart CG CS n):=by
 refine F.ok sc_Storey_by_part (fun vs H Q E h=>?_) (fun fa cdv A outer s H vs Q E hr h=>?_)
 ·obtain⟨a,b,q',dx,T,M,u,N,s,ok,rfl,_⟩:=h;rfl
 obtain⟨a,b,q',dx,T,M,u,N,s,ok,rfl,sa,ru,ds,hN,q⟩:=h
 have hM:=sa.n
 have hM1:=M.pos
 obtain⟨l1,us,rfl,h1,okl,c1⟩:=ru.cf
 obtain⟨pq,ps,epq,hpq,_,cp⟩:=sa.r.cf
 cases epq
 refine⟨_,pss_cons (ps_set (i:=2) sc_Storey_by_part.nd rfl (Or.inr rfl) (pe_fldK (K:=K) rfl (pv 0)))
  (pss_cons (ps_set (i:=3) sc_Storey_by_part.nd rfl (Or.inl rfl) (pe_mth0 S.width hr (pv 0) ))
  (pss_cons (ps_set (i:=4) sc_Storey_by_part.nd rfl (Or.inl rfl) (pe_op op_cat (pv 1) (pe_comp (compScope_mk (N:=["place","floor"]) (sl:=[none,some 2]) (defScope s_Storey_by_part) ["self","terms","floor","width","told","lead","at","place"] rfl rfl (by decide +kernel)) rfl (pi_range2 rfl B.«range» (pa_cons (pe_callB (callK_len (K:=K) rfl) rfl B.«len» bt_len (pa_cons (pv 1) pa_nil)) (pa_cons (pv 3) pa_nil))) (fun _ _ _ _ _=>(pg_name (i:=0) (by show List.Nodup (["place","floor"]:List Str);decide +kernel) rfl (Or.inl rfl))) (fun _ _ _ _ _=>pif_none) (fun _ _ _ _ _=>(pe_mth0 O.zero hr (pv 1) )))))
  (pss_cons (ps_while PassesOwn.never (pt_cmpR op_gt (pe_callB (callK_len (K:=K) rfl) rfl B.«len» bt_len (pa_cons (pv 4) pa_nil)) (pv 3) (nomark _))
   (pss_cons (ps_set (i:=5) sc_Storey_by_part.nd rfl (Or.inl rfl) (pe_bm0 PySem.F.plainAttrs_list PySem.F.slot_list_pop PySem.F.type_list_pop mt_pop (pv 4) ))
   (pss_one (ps_if (pt_not (pt_val (pe_mth O.is_nought hr (pv 2) (pa_cons (pv 5) pa_nil))))
    (pss_one (ps_for PassesOwn.never rfl (pi_range1 rfl B.«range» (pa_cons (pv 3) pa_nil)) (pg_name (i:=6) sc_Storey_by_part.nd rfl (Or.inl rfl))
     (pss_cons (ps_set (i:=7) sc_Storey_by_part.nd rfl (Or.inl rfl) (pe_op op_add (pe_op op_sub (pe_callB (callK_len (K:=K) rfl) rfl B.«len» bt_len (pa_cons (pv 4) pa_nil)) (pv 3)) (pv 6)))
     (pss_one (ps_asg (pe_mth O.minus hr (pv 2) (pa_cons (pe_ix (ixK_list (K:=K) rfl) (pv 4) (pv 7) (fun _ _=>rfl)) (pa_cons (pe_mth O.times hr (pv 2) (pa_cons (pv 5) (pa_cons (pe_ix (ixK_list (K:=K) rfl) (pe_fldK (K:=K) rfl (pv 0)) (pv 6) (fun _ _=>rfl)) pa_nil))) pa_nil))) (pg_sub (pv 4) (pv 7) set_list))))))
    (pss_nil)))))
  (pss_one (ps_ret (pv 4)))))),?_⟩
 refine⟨_,rfl,a,CS,dx,_,_,rfl,sa.h,c.cl,c.nF,lk_floor,?_⟩
 refine⟨_,rfl,a,rfl,⟨b,q',dx,T,M,sa⟩,fun _ h=>h,a,b,q',dx,T,M,rfl,sa,fun H1 g1=>?_⟩
 refine⟨_,rfl,_,rfl,l1,_,rfl,.inl (SqL.of (g1 _ _ h1)),_,rfl,_,_,rfl,by rw[c1.len];omega,fun D hD=>?_⟩
 rw[c1.len]
 have en:((M.n:Int) - (N:Int)).toNat=M.n - N:=by omega
 rw[en]
 refine comp_zerosP (T:=T) (fun H=>IsT CG CS n H b T) (fun g h=>h.mono g) (sa.f.mono g1) hD (by omega) (fun y H2 R s2 h2=>⟨_,rfl,b,rfl,⟨T,s2⟩,fun _ h=>h,b,T,rfl,s2,h2⟩) fun ys H2 g2 hy cy=>?_
 have g12:=g1.trans g2
 refine⟨l1,D,_,_,rfl,rfl,g12 _ _ h1,hy,by rw[c1.len,cy.len,sizeLine_eq];omega,fun R hR=>?_⟩
 have kR:=same_new hR (.lst (us++ys))
 have g3:=g12.trans kR
 have hRH:H R=none:=g12.free hR
 have c2:Cf (upd H2 R (.lst (us++ys))) (OkR H ok R) (us++ys) (N+(M.n - N)) fun i=>T.enc (s.c i):=by
  have w1:Cf (upd H2 R (.lst (us++ys))) (OkR H ok R) us N fun i=>T.enc (s.c i):=c1.imp fun b o h kk=>⟨g3 _ _ h,.inr kk,ne_of_none h hRH⟩
  have w2:Cf (upd H2 R (.lst (us++ys))) (OkR H ok R) ys (M.n - N) fun _=>T.enc 0:=cy.imp fun b o h kk=>⟨kR _ _ h,.inl (g1.free kk.1),ne_of_none h hR⟩
  refine (w1.append w2).congr fun i hi=>?_
  by_cases z:i<N
  ·rw[if_pos z]
  ·rw[if_neg z,ds i (by omega)]
 refine while_in (fun σ H4=>Same H H4∧∃ (L:Nat) (ρ:Ser T.α) (rs:List V) (o1 o2 o3:Option V),σ=[some (.ref a),some (.ref l1),some (.ref b),some (.int (M.n:Int)),some (.ref R),o1,o2,o3]∧H4 R=some (.lst rs)∧
  Cf H4 (OkR H ok R) rs L (fun i=>T.enc (ρ.c i))∧Cg M.f s ρ∧Dg ρ L∧M.n≤L∧L≤200) (fun σ H=>lenAt σ 4 H) ⟨g3,_,s,_,_,_,_,rfl,upd_same,c2,Cg.refl _ _,ds.mono (by omega),by omega,by omega⟩ ?_
 rintro σ H4 ⟨gg,L,ρ,rs,o1,o2,o3,rfl,eR,cρ,hcg,dρ,hML,hL⟩
 have hmu:lenAt [some (V.ref a),some (V.ref l1),some (V.ref b),some (V.int (M.n:Int)),some (V.ref R),o1,o2,o3] 4 H4=L:=by rw[lenAt_of rfl eR];exact cρ.len
 rw[hmu]
 refine⟨_,rfl,R,_,rfl,.inl (SqL.of eR),_,rfl,_,_,rfl,rfl,_,rfl,?_⟩
 rw[cρ.len]
 refine ite2 (fun cc=>win ?_) (fun cc=>?_)
 ·have c':M.n<L:=by have:=of_decide_eq_true cc;omega
  obtain⟨ld,hld,rld⟩:=cρ.at_ (L - 1) (by omega)
  refine⟨_,rfl,.inl ⟨rfl,_,SqL.of eR⟩,R,rs,ld,rfl,rfl,eR,by rw[cρ.len];exact hld,?_⟩
  have gB:Same H (upd H4 R (.lst rs.dropLast)):=gg.free_upd hRH _
  have eRb:(upd H4 R (.lst rs.dropLast)) R=some (.lst rs.dropLast):=upd_same
  have cρb:Cf (upd H4 R (.lst rs.dropLast)) (OkR H ok R) rs.dropLast (L - 1) (fun i=>T.enc (ρ.c i)):=by
   rw[List.dropLast_eq_take,cρ.len]
   exact (cρ.take (by omega)).updG fun b kk=>kk.2
  have rb:Rep (upd H4 R (.lst rs.dropLast)) (OkR H ok R) ld (T.enc (ρ.c (L - 1))):=rld.updG fun b kk=>kk.2
  generalize upd H4 R (.lst rs.dropLast)=HB at gB eRb cρb rb
  have done:∀ H5 rs' o2 o3,Same H H5→H5 R=some (.lst rs')→Cf H5 (OkR H ok R) rs' (L - 1) (fun i=>T.enc ((dstep M.f ρ L M.n).c i))→(Same H H5∧∃ (L:Nat) (ρ:Ser T.α) (rs:List V) (p1 p2 p3:Option V),[some (.ref a),some (.ref l1),some (.ref b),some (.int (M.n:Int)),some (.ref R),some ld,o2,o3]=[some (.ref a),some (.ref l1),some (.ref b),some (.int (M.n:Int)),some (.ref R),p1,p2,p3]∧H5 R=some (.lst rs)∧
   Cf H5 (OkR H ok R) rs L (fun i=>T.enc (ρ.c i))∧Cg M.f s ρ∧Dg ρ L∧M.n≤L∧L≤200)∧lenAt [some (.ref a),some (.ref l1),some (.ref b),some (.int (M.n:Int)),some (.ref R),some ld,o2,o3] 4 H5<L:=fun H5 rs' o2 o3 g5 e1 c1=>by
   refine⟨⟨g5,L - 1,_,rs',_,_,_,rfl,e1,c1,hcg.trans (dstep_cg M.f ρ L M.n),dstep_dg M.mon c' dρ,by omega,by omega⟩,?_⟩
   rw[lenAt_of rfl e1,c1.len];omega
  have sB:=sa.mono gB
  refine⟨_,rfl,b,rfl,⟨T,sB.f⟩,_,rfl,fun _ h=>h,b,T,ld,ρ.c (L - 1),rfl,sB.f,rb.any,fun z H5 g5=>?_,fun z H5 g5=>?_⟩
  ·exact⟨_,rfl,iteF (done H5 _ _ _ (gB.trans g5) (g5 _ _ eRb) ((cρb.same g5).congr fun i hi=>by rw[dstep_nought z]))⟩
  ·refine⟨_,rfl,iteT ?_⟩
   refine⟨_,rfl,_,rfl,by omega,by omega,?_⟩
   rw[Int.toNat_natCast]
   refine for_range (fun i σ H6=>Same H H6∧∃ (rs:List V) (o2 o3:Option V),σ=[some (.ref a),some (.ref l1),some (.ref b),some (.int (M.n:Int)),some (.ref R),some ld,o2,o3]∧H6 R=some (.lst rs)∧
    Cf H6 (OkR H ok R) rs (L - 1) (fun j=>T.enc (if j<L - 1 - M.n+i then (dstep M.f ρ L M.n).c j else ρ.c j))∧Rep H6 (OkR H ok R) ld (T.enc (ρ.c (L - 1))))
    ⟨gB.trans g5,_,_,_,rfl,g5 _ _ eRb,(cρb.same g5).congr fun i hi=>?_,rb.same g5⟩ ?_ ?_
   ·by_cases y:i<L - 1 - M.n+0
    ·rw[if_pos y,dstep_low y]
    ·rw[if_neg y]
   ·rintro i σ H6 hi ⟨g6,rs',o2,o3,rfl,e1,c1,r5⟩
    refine⟨_,rfl,R,_,rfl,.inl (SqL.of e1),_,rfl,_,_,rfl,rfl,_,rfl,_,_,rfl,rfl,?_⟩
    have ep:((rs'.length:Nat):Int) - (M.n:Int)+(0+(i:Int))=((L - 1 - M.n+i:Nat):Int):=by rw[c1.len];omega
    show gName 7 (V.int (((rs'.length:Nat):Int) - (M.n:Int)+(0+(i:Int)))) _ _ _
    rw[ep]
    obtain⟨cv,hcv,rcv⟩:=c1.at_ (L - 1 - M.n+i) (by omega)
    rw[if_neg (by omega)] at rcv
    obtain⟨fv,hfv,rfv⟩:=cp.at_ i (by omega)
    have s6:=sa.mono g6
    refine⟨_,rfl,b,rfl,⟨T,s6.f⟩,_,rfl,_,rfl,R,_,_,_,rfl,rfl,SqL.of e1,atI_nat hcv,?_⟩
    refine⟨_,rfl,b,rfl,⟨T,s6.f⟩,_,rfl,_,rfl,a,CS,dx,_,_,rfl,s6.h,c.cl,c.nQ,lk_part,_,rfl,q',_,_,_,rfl,rfl,SqL.of (g6 _ _ hpq),by rw[Int.zero_add];exact atI_nat hfv,fun _ h=>h,b,T,ld,fv,ρ.c (L - 1),M.f.c i,rfl,s6.f,r5.any,rfv.same g6,fun r6 H7 g7 rr=>?_⟩
    have g67:=g6.trans g7
    have s7:=sa.mono g67
    refine⟨fun _ h=>g7 _ _ h,b,T,cv,r6,ρ.c (L - 1 - M.n+i),_,rfl,s7.f,(rcv.same g7).any,rr.any,fun r7 H8 g8 rr7=>?_⟩
    have g68:=g67.trans g8
    have e18:H8 R=some (.lst rs'):=g8 _ _ (g7 _ _ e1)
    refine⟨_,rfl,_,rfl,R,_,_,L - 1 - M.n+i,rfl,rfl,e18,by rw[c1.len];exact ixN_at (by omega),?_⟩
    have g78:=g7.trans g8
    refine⟨g68.free_upd hRH _,rs'.set (L - 1 - M.n+i) r7,_,_,rfl,upd_same,?_,(r5.same g78).updG fun b kk=>kk.2⟩
    refine (((c1.same g78).set (by omega) (rr7.okR g67 (g7 _ _ e1))).congr fun j hj=>?_).updG fun b kk=>kk.2
    by_cases y:j=L - 1 - M.n+i
    ·rw[if_pos y,if_pos (by omega),y,dstep_at]
    ·rw[if_neg y]
     by_cases y2:j<L - 1 - M.n+i
     ·rw[if_pos y2,if_pos (by omega)]
     ·rw[if_neg y2,if_neg (by omega)]
   ·rintro σ H6 ⟨g6,rs',o2,o3,rfl,e1,c1,r5⟩
    refine done H6 _ _ _ g6 e1 (c1.congr fun i hi=>?_)
    rw[if_pos (by omega)]
 ·have c':L=M.n:=Nat.le_antisymm (Nat.le_of_not_lt fun z=>cc (decide_eq_true (by omega))) hML
  subst c'
  refine⟨_,rfl,q _ H4 gg ?_⟩
  rw[rest_eq dρ hcg]
  exact (cρ.imp fun b o h kk=>⟨h,kk.1⟩).rep eR (.inl hRH)
theorem ok_Storey_times (B:Blt mg)(c:ClS K CS)(O:TwB P w K mg base k (IsT CG CS n)){k':Nat}(hk':k≤k')(S:StB P w K mg base k' CG CS n)(F:MSrc K CS "times" "Storey.times" s_Storey_times ["self","u","v"]):Mok P w K mg base (k'+1) CS "times" ["self","u","v"] (spTimes (IsT CG CS (n+1))):=by
 refine F.ok sc_Storey_times (fun vs H Q E h=>?_) (fun fa cdv A outer s H vs Q E hr h=>?_)
 ·obtain⟨a,T',u,v,x,y,rfl,_⟩:=h;rfl
 obtain⟨a,T',u,v,x,y,rfl,ja,ru,rv,q⟩:=h
 obtain⟨b,q',dx,T,M,al,hn,rfl,sa⟩:=ja.invS
 have hM:=sa.n
 have hM1:=M.pos
 have ru:Rep H Any u (polE T M.n (show Qt M from x).s):=ru
 have rv:Rep H Any v (polE T M.n (show Qt M from y).s):=rv
 have ds:Dg (show Qt M from x).s M.n:=(show Qt M from x).lt
 have dt:Dg (show Qt M from y).s M.n:=(show Qt M from y).lt
 have q:∀ r H',Same H H'→Rep H' (NewB H) r (polE T M.n (Alg.rest M ((show Qt M from x).s*(show Qt M from y).s)))→Q r H':=q
 generalize (show Qt M from x).s=s at ru ds q
 generalize (show Qt M from y).s=t at rv dt q
 obtain⟨p,vs,rfl,hp,_,C⟩:=ru.cf
 obtain⟨p',ws,rfl,hp',_,C'⟩:=rv.cf
 refine⟨_,pss_cons (ps_set (i:=3) sc_Storey_times.nd rfl (Or.inr rfl) (pe_fldK (K:=K) rfl (pv 0)))
  (pss_cons (ps_if (pt_cmpR op_eq (pe_mth0 S.width hr (pv 0) ) pe_int (nomark _))
   (pss_one (ps_ret (pe_lst (pa_cons (pe_mth O.times hr (pv 3) (pa_cons (pe_ix (ixK_list (K:=K) rfl) (pv 1) pe_int (fun _ _=>rfl)) (pa_cons (pe_ix (ixK_list (K:=K) rfl) (pv 2) pe_int (fun _ _=>rfl)) pa_nil))) pa_nil))))
   (pss_nil))
  (pss_cons (ps_setC (i:=4) sc_Storey_times.nd rfl (Or.inl rfl) (compScope_mk (N:=["place","floor"]) (sl:=[none,some 3]) (defScope s_Storey_times) ["self","u","v","floor","product","at","one","place","other"] rfl rfl (by decide +kernel)) rfl (pi_range1 rfl B.«range» (pa_cons (pe_op op_sub (pe_op op_mulO pe_int (pe_mth0 S.width hr (pv 0) )) pe_int) pa_nil)) (fun _ _ _ _ _=>(pg_name (i:=0) (by show List.Nodup (["place","floor"]:List Str);decide +kernel) rfl (Or.inl rfl))) (fun _ _ _ _ _=>pif_none) (fun _ _ _ _ _=>(pe_mth0 O.zero hr (pv 1) )))
  (pss_cons (ps_for PassesOwn.never rfl (piK_enum (K:=K) rfl rfl B.«enumerate» (pa_cons (pv 1) pa_nil)) (pgK_tup (n:=2) (K:=K) rfl rfl (pgs_cons (pg_name (i:=5) sc_Storey_times.nd rfl (Or.inl rfl)) (pgs_cons (pg_name (i:=6) sc_Storey_times.nd rfl (Or.inl rfl)) pgs_nil)))
   (pss_one (ps_if (pt_not (pt_val (pe_mth O.is_nought hr (pv 3) (pa_cons (pv 6) pa_nil))))
    (pss_one (ps_for PassesOwn.never rfl (piK_enumS (K:=K) rfl rfl B.«enumerate» (pa_cons (pv 2) pa_nil) (pk_cons (pv 5) pk_nil)) (pgK_tup (n:=2) (K:=K) rfl rfl (pgs_cons (pg_name (i:=7) sc_Storey_times.nd rfl (Or.inl rfl)) (pgs_cons (pg_name (i:=8) sc_Storey_times.nd rfl (Or.inl rfl)) pgs_nil)))
     (pss_one (ps_asg (pe_mth O.plus hr (pv 3) (pa_cons (pe_ix (ixK_list (K:=K) rfl) (pv 4) (pv 7) (fun _ _=>rfl)) (pa_cons (pe_mth O.times hr (pv 3) (pa_cons (pv 6) (pa_cons (pv 8) pa_nil))) pa_nil))) (pg_sub (pv 4) (pv 7) set_list)))))
    (pss_nil))))
  (pss_one (ps_ret (pe_mth S.by_part hr (pv 0) (pa_cons (pv 4) pa_nil))))))),?_⟩
 refine⟨_,rfl,a,CS,dx,_,_,rfl,sa.h,c.cl,c.nF,lk_floor,?_⟩
 refine⟨_,rfl,a,rfl,⟨b,q',dx,T,M,sa⟩,fun _ h=>h,a,b,q',dx,T,M,rfl,sa,fun H1 g1=>?_⟩
 have s1:=sa.mono g1
 refine⟨rfl,_,rfl,?_⟩
 by_cases c1:M.n=1
 ·refine iteY (by rw[c1];rfl) ?_
  obtain⟨u0,hu0,ru0⟩:=C.at_ 0 (by omega)
  obtain⟨v0,hv0,rv0⟩:=C'.at_ 0 (by omega)
  refine⟨_,rfl,b,rfl,⟨T,s1.f⟩,_,rfl,p,_,_,_,rfl,rfl,SqL.of (g1 _ _ hp),atI_nat (j:=0) hu0,_,rfl,p',_,_,_,rfl,rfl,SqL.of (g1 _ _ hp'),atI_nat (j:=0) hv0,fun _ h=>h,b,T,u0,v0,_,_,rfl,s1.f,ru0.same g1,rv0.same g1,fun r2 H2 g2 rr2=>?_⟩
  refine⟨len_ok rfl,fun l hl=>?_⟩
  have kl:=same_new hl (.lst [r2])
  have g12:=g1.trans g2
  refine q _ _ (g12.trans kl) ?_
  have er:Alg.rest M (s*t)=cst (s.c 0*t.c 0):=by
   refine rest_eq (by rw[c1];exact Dg.cst _) ?_
   rw[c1] at ds dt
   rw[cst_mul',← cst_of ds,← cst_of dt]
   exact Cg.refl _ _
  rw[er]
  have cc:Cf (upd H2 l (.lst [r2])) (NewB H) [r2] M.n fun i=>T.enc ((cst (s.c 0*t.c 0):Ser T.α).c i):=by
   rw[c1]
   have rr3:Rep (upd H2 l (.lst [r2])) (NewB H) r2 (T.enc ((cst (s.c 0*t.c 0):Ser T.α).c 0)):=(rr2.older g1).same kl
   exact (Cf.push (n:=0) (e:=fun i=>T.enc ((cst (s.c 0*t.c 0):Ser T.α).c i)) .nil rr3:Cf _ _ ([]++[r2]) 1 _)
  exact cc.rep upd_same (g12.free hl)
 ·refine iteN (fun z=>c1 (by have:=V.int.inj z;omega)) ?_
  refine⟨_,rfl,a,rfl,⟨b,q',dx,T,M,s1⟩,fun _ h=>h,a,b,q',dx,T,M,rfl,s1,fun H2 g2=>?_⟩
  have k1:=g1.trans g2
  refine⟨_,_,rfl,rfl,mulOkR (by omega) (by omega),_,_,rfl,rfl,_,rfl,by omega,by omega,fun D hD=>?_⟩
  have en:((2:Int)*(M.n:Int) - 1).toNat=M.n+M.n - 1:=by omega
  rw[en]
  have s2:=sa.mono k1
  refine comp_zerosP (T:=T) (fun H=>IsT CG CS n H b T) (fun g h=>h.mono g) s2.f hD (by omega) (fun y H2 R j2 h2=>⟨_,rfl,b,rfl,⟨T,j2⟩,fun _ h=>h,b,T,rfl,j2,h2⟩) fun ys H3 g3 hy cy=>?_
  have g12:=k1.trans g3
  have hDH:H D=none:=k1.free hD
  have cy:Cf H3 (Off H D) ys (M.n+M.n - 1) fun i=>T.enc (psum s t 0 i):=cy.imp fun b o h kk=>⟨h,k1.free kk.1,kk.2⟩
  refine⟨_,rfl,p,rfl,⟨_,SqL.of (g12 _ _ hp)⟩,for_enum (st:=0) (xs:=vs) (fun i σ H3=>Same H H3∧∃ (ps:List V) (o1 o2 o3 o4:Option V),σ=[some (.ref a),some (.ref p),some (.ref p'),some (.ref b),some (.ref D),o1,o2,o3,o4]∧H3 D=some (.lst ps)∧Cf H3 (Off H D) ps (M.n+M.n - 1) fun x=>T.enc (psum s t i x))
   ⟨g12,ys,_,_,_,_,rfl,hy,cy⟩ (fun i σ H3 _ h=>SqL.of (h.1 _ _ hp)) ?_ ?_⟩
  ·rintro i x σ H3 r hx ⟨gg,ps,o1,o2,o3,o4,rfl,eP,cP⟩ hr'
   obtain⟨hi,rx⟩:=C.get hx
   have gr:=same_new hr' (.tup [.int ((0+i:Nat):Int),x])
   have g3:=gg.trans gr
   have s3:=sa.mono g3
   refine⟨r,_,rfl,SqT.of upd_same,rfl,_,_,rfl,_,_,rfl,rfl,?_⟩
   refine⟨_,rfl,b,rfl,⟨T,s3.f⟩,_,rfl,fun _ h=>h,b,T,x,s.c i,rfl,s3.f,rx.same g3,fun z H4 g4=>?_,fun z H4 g4=>?_⟩
   ·exact⟨_,rfl,iteF ⟨g3.trans g4,ps,_,_,_,_,rfl,g4 _ _ (gr _ _ eP),(cP.same (gr.trans g4)).congr fun x hx=>by rw[psum_nought z]⟩⟩
   ·refine⟨_,rfl,iteT ?_⟩
    have g34:=g3.trans g4
    refine⟨_,rfl,_,rfl,p',0+i,rfl,rfl,by omega,⟨_,SqL.of (g34 _ _ hp')⟩,for_enum (st:=0+i) (xs:=ws) (fun j σ H5=>Same H H5∧∃ (ps:List V) (o3 o4:Option V),σ=[some (.ref a),some (.ref p),some (.ref p'),some (.ref b),some (.ref D),some (.int ((0+i:Nat):Int)),some x,o3,o4]∧H5 D=some (.lst ps)∧Cf H5 (Off H D) ps (M.n+M.n - 1) fun x=>T.enc (pcell s t i j x))
     ⟨g34,ps,_,_,rfl,g4 _ _ (gr _ _ eP),(cP.same (gr.trans g4)).congr fun x hx=>by rw[pcell_zero]⟩ (fun j σ H5 _ h=>SqL.of (h.1 _ _ hp')) ?_ ?_⟩
    ·rintro j y σ H5 r5 hy ⟨g5,qs,o3,o4,rfl,eQ,cQ⟩ hr5
     obtain⟨hj,ry⟩:=C'.get hy
     have kr:=same_new hr5 (.tup [.int ((0+i+j:Nat):Int),y])
     have g6:=g5.trans kr
     have s6:=sa.mono g6
     refine⟨r5,_,rfl,SqT.of upd_same,rfl,_,_,rfl,_,_,rfl,rfl,?_⟩
     have hij:i+j<M.n+M.n - 1:=by omega
     obtain⟨cv,hc,rc⟩:=cQ.at_ (i+j) hij
     refine⟨_,rfl,b,rfl,⟨T,s6.f⟩,_,rfl,_,rfl,D,_,_,_,rfl,rfl,SqL.of (kr _ _ eQ),by rw[Nat.zero_add];exact atI_nat hc,?_⟩
     refine⟨_,rfl,b,rfl,⟨T,s6.f⟩,_,rfl,_,rfl,fun _ h=>h,b,T,x,y,s.c i,t.c j,rfl,s6.f,rx.same g6,ry.same g6,fun r6 H6 g67 rr=>?_⟩
     have g7:=g6.trans g67
     have s7:=sa.mono g7
     refine⟨fun _ h=>g67 _ _ h,b,T,cv,r6,pcell s t i j (i+j),_,rfl,s7.f,(rc.same (kr.trans g67)).any,rr.any,fun r7 H7 g78 rr7=>?_⟩
     have g8:=g7.trans g78
     have eD7:H7 D=some (.lst qs):=g78 _ _ (g67 _ _ (kr _ _ eQ))
     refine⟨_,rfl,_,rfl,D,_,_,i+j,rfl,rfl,eD7,by rw[cQ.len,Nat.zero_add];exact ixN_at hij,?_⟩
     refine⟨g8.free_upd hDH _,qs.set (i+j) r7,_,_,rfl,upd_same,?_⟩
     have cQ7:=cQ.same ((kr.trans g67).trans g78)
     refine (((cQ7.set hij (rr7.offN g7 (g67 _ _ (kr _ _ eQ)))).congr fun x hx=>?_).upd)
     rw[pcell_step]
     by_cases z:x=i+j
     ·rw[if_pos z,if_pos z,z]
     ·rw[if_neg z,if_neg z]
    ·rintro σ H5 ⟨g5,qs,o3,o4,rfl,eQ,cQ⟩
     rw[C'.len] at cQ
     exact⟨g5,qs,_,_,_,_,rfl,eQ,cQ.congr fun x hx=>by rw[pcell_all dt]⟩
  ·rintro σ H3 ⟨gg,ps,o1,o2,o3,o4,rfl,eP,cP⟩
   rw[C.len] at cP
   have s3:=sa.mono gg
   refine⟨_,rfl,a,rfl,⟨b,q',dx,T,M,s3⟩,_,rfl,fun _ h=>h,a,b,q',dx,T,M,.ref D,M.n+M.n - 1,s*t,NewB H,rfl,s3,?_,?_,by omega,fun r H4 g4 rr=>?_⟩
   ·refine (cP.newB.congr fun i hi=>?_).rep eP hDH
    rw[psum_all ds]
   ·have:=dg_prod ds dt
    rw[if_neg (by omega)] at this
    exact this
   ·exact q r H4 (gg.trans g4) (rr.imp fun b o h kk=>⟨h,kk.elim (fun z=>gg.free z) id⟩)
theorem ok_Storey_back (B:Blt mg)(c:ClS K CS)(O:TwB P w K mg base k (IsT CG CS n)){k':Nat}(hk':k+3≤k')(S:StB P w K mg base k' CG CS n)(d_without_noughts:Dfn P w K mg base (k+1) "without_noughts" ["tower","terms"] (spCut (IsT CG CS n)))(d_over_poly:Dfn P w K mg base (k+3) "over_poly" ["tower","f","g"] (spOverP (IsT CG CS n)))(d_minus_poly:Dfn P w K mg base (k+2) "minus_poly" ["tower","f","g"] (spMinusP (IsT CG CS n)))(d_times_poly:Dfn P w K mg base (k+1) "times_poly" ["tower","f","g"] (spTimesP (IsT CG CS n)))(d_scaled_poly:Dfn P w K mg base (k+1) "scaled_poly" ["tower","u","f"] (spScaled (IsT CG CS n)))(F:MSrc K CS "back" "Storey.back" s_Storey_back ["self","u"]):Mok P w K mg base (k'+1) CS "back" ["self","u"] (spBack (IsT CG CS (n+1))):=by
 refine F.ok sc_Storey_back (fun vs H Q E h=>?_) (fun fa cdv A outer s H vs Q E hr h=>?_)
 ·obtain⟨a,T',u,x,rfl,_⟩:=h;rfl
 obtain⟨a,T',u,x,rfl,ja,ru,x0,q⟩:=h
 obtain⟨b,q',dx,T,M,al,hn,rfl,sa⟩:=ja.invS
 have hM:=sa.n
 have hM1:=M.pos
 obtain⟨xs,dxs,rfl⟩:∃ (xs:Ser T.α) (dxs:Dg xs M.n),x=(⟨xs,dxs⟩:Qt M):=⟨_,(show Qt M from x).lt,rfl⟩
 have ru:Rep H Any u (polE T M.n xs):=ru
 have xs0:xs≠0:=fun z=>x0 (Qt.ext z)
 obtain⟨U,V',pU,pV,hUV⟩:=one_of_irr al.irr dxs xs0
 have hD:=T.fld.dom
 refine⟨_,pss_cons (ps_set (i:=2) sc_Storey_back.nd rfl (Or.inl rfl) (pe_fldK (K:=K) rfl (pv 0)))
  (pss_cons (ps_set (i:=3) sc_Storey_back.nd rfl (Or.inl rfl) (pe_fldK (K:=K) rfl (pv 0)))
  (pss_cons (ps_set (i:=4) sc_Storey_back.nd rfl (Or.inl rfl) (pe_def d_without_noughts hr (pa_cons (pv 2) (pa_cons (pv 1) pa_nil)) (by first|decide|omega)))
  (pss_cons (ps_set (i:=5) sc_Storey_back.nd rfl (Or.inl rfl) (pe_lst pa_nil))
  (pss_cons (ps_set (i:=6) sc_Storey_back.nd rfl (Or.inl rfl) (pe_lst (pa_cons (pe_mth0 O.one hr (pv 2) ) pa_nil)))
  (pss_cons (ps_while PassesOwn.never (pt_cmpR op_gt (pe_callB (callK_len (K:=K) rfl) rfl B.«len» bt_len (pa_cons (pv 4) pa_nil)) pe_int (nomark _))
   (pss_cons (ps_asg (pe_def d_over_poly hr (pa_cons (pv 2) (pa_cons (pv 3) (pa_cons (pv 4) pa_nil))) (by first|decide|omega)) (pgK_tup (n:=2) (K:=K) rfl rfl (pgs_cons (pg_name (i:=7) sc_Storey_back.nd rfl (Or.inl rfl)) (pgs_cons (pg_name (i:=8) sc_Storey_back.nd rfl (Or.inl rfl)) pgs_nil))))
   (pss_cons (ps_set (i:=9) sc_Storey_back.nd rfl (Or.inl rfl) (pe_def d_minus_poly hr (pa_cons (pv 2) (pa_cons (pv 5) (pa_cons (pe_def d_times_poly hr (pa_cons (pv 2) (pa_cons (pv 7) (pa_cons (pv 6) pa_nil))) (by first|decide|omega)) pa_nil))) (by first|decide|omega)))
   (pss_cons (ps_par (i:=3) (j:=4) rfl sc_Storey_back.nd rfl rfl (by decide) rfl rfl (pa_cons (pv 4) (pa_cons (pv 8) pa_nil)) rfl)
   (pss_one (ps_par (i:=5) (j:=6) rfl sc_Storey_back.nd rfl rfl (by decide) rfl rfl (pa_cons (pv 6) (pa_cons (pv 9) pa_nil)) rfl))))))
  (pss_one (ps_ret (pe_mth S.by_part hr (pv 0) (pa_cons (pe_def d_scaled_poly hr (pa_cons (pv 2) (pa_cons (pe_mth O.back hr (pv 2) (pa_cons (pe_ix (ixK_list (K:=K) rfl) (pv 4) pe_int (fun _ _=>rfl)) pa_nil)) (pa_cons (pv 6) pa_nil))) (by first|decide|omega)) pa_nil))))))))),?_⟩
 refine⟨_,rfl,a,CS,dx,_,_,rfl,sa.h,c.cl,c.nF,lk_floor,?_⟩
 refine⟨_,rfl,a,CS,dx,_,_,rfl,sa.h,c.cl,c.nQ,lk_part,?_⟩
 refine⟨_,rfl,_,rfl,b,T,u,M.n,xs,Any,rfl,sa.f,ru,dxs,by omega,fun r1 n2 H1 hn2 nz1 g1 rr1=>?_⟩
 refine⟨len_ok rfl,fun l1 hl1=>?_⟩
 have k1:=same_new hl1 (.lst [])
 have g2:=g1.trans k1
 have s2:=sa.mono g2
 refine⟨_,rfl,b,rfl,⟨T,s2.f⟩,fun _ h=>h,b,T,rfl,s2.f,fun r2 H3 g3 rr2=>?_⟩
 refine⟨len_ok rfl,fun l2 hl2=>?_⟩
 have k3:=same_new hl2 (.lst [r2])
 have g4:=(g2.trans g3).trans k3
 have g14:=(k1.trans g3).trans k3
 have rf2:Rep (upd H3 l2 (.lst [r2])) Any (.ref l2) (polE T 1 (1:Ser T.α)):=by
  refine (Cf.push (n:=0) (e:=fun i=>T.enc ((1:Ser T.α).c i)) .nil ?_:Cf _ Any ([]++[r2]) 1 _).rep upd_same trivial
  exact (rr2.same k3).any
 have rf1:Rep (upd H3 l2 (.lst [r2])) Any (.ref l1) (polE T 0 (0:Ser T.α)):=Cf.nil.rep (k3 _ _ (g3 _ _ upd_same)) trivial
 refine while_in (fun σ H5=>Same H H5∧∃ (o1 o2 o3 o4:V) (o5 o6 o7:Option V) (n1 n2 m1 m2:Nat) (a1 a2 f1 f2:Ser T.α),σ=[some (.ref a),some u,some (.ref b),some o1,some o2,some o3,some o4,o5,o6,o7]∧Rep H5 Any o1 (polE T n1 a1)∧Dg a1 n1∧Rep H5 Any o2 (polE T n2 a2)∧Nz T n2 a2∧1≤n2∧n2<n1∧Rep H5 Any o3 (polE T m1 f1)∧Dg f1 m1∧Rep H5 Any o4 (polE T m2 f2)∧Dg f2 m2∧
  m2+n1≤M.n+2∧m1+n2≤M.n+2∧Mix M.f xs a1 a2∧Cg M.f (xs*f1) a1∧Cg M.f (xs*f2) a2) (fun σ H=>lenAt σ 4 H) ?_ ?_
 ·refine⟨g4,.ref q',r1,.ref l1,.ref l2,_,_,_,M.n+1,n2,0,1,M.f,xs,0,1,rfl,sa.r.same g4,M.mon.dg,(rr1.same g14).any,nz1,?_,by omega,rf1,Dg.zero _,rf2,Dg.one,by omega,by omega,Mix.refl _ _,zero_cg _ _,by rw[times_one];exact Cg.refl _ _⟩
  refine Nat.pos_of_ne_zero fun z=>xs0 ?_
  have:=nz1.dg
  rw[z] at this
  exact this.eq0
 clear rf1 rf2 rr1 nz1 hn2
 rintro σ H5 ⟨gg,o1,o2,o3,o4,o5,o6,o7,n1,n2,m1,m2,a1,a2,f1,f2,rfl,ra1,da1,ra2,nz2,h1n2,hn12,rf1,df1,rf2,df2,hb1,hb2,mx,cg1,cg2⟩
 obtain⟨p2,ws,rfl,hp2,_,C2⟩:=id ra2.cf
 have hmu:lenAt [some (V.ref a),some u,some (V.ref b),some o1,some (V.ref p2),some o3,some o4,o5,o6,o7] 4 H5=n2:=by rw[lenAt_of rfl hp2];exact C2.len
 rw[hmu]
 refine⟨_,rfl,p2,_,rfl,.inl (SqL.of hp2),_,_,rfl,rfl,_,rfl,?_⟩
 rw[C2.len]
 have s5:=sa.mono gg
 obtain⟨d,rfl⟩:∃ d,n2=d+1:=⟨n2 - 1,by omega⟩
 have ld:a2.c d≠0:=nz2.last.elim (fun z=>by omega) id
 refine ite2 (fun cc=>win ?_) (fun cc=>?_)
 ·have c':1≤d:=by have:=of_decide_eq_true cc;omega
  refine⟨_,rfl,_,rfl,_,rfl,b,T,o1,.ref p2,n1,d,a1,a2,rfl,s5.f,ra1,da1,by omega,ra2,nz2.dg,ld,by omega,fun t qq rr m x y H6 g6 ht et rq rrr es dxx nz hm=>?_⟩
  have g56:=gg.trans g6
  have s6:=sa.mono g56
  refine⟨t,_,rfl,SqT.of et,rfl,_,_,rfl,_,_,rfl,rfl,?_⟩
  refine⟨_,rfl,_,rfl,_,rfl,_,rfl,_,rfl,b,T,qq,o4,n1 - d,m2,x,f2,rfl,s6.f,rq.any,dxx,rf2.same g6,df2,by omega,fun r7 H7 g7 rr7=>?_⟩
  have g57:=g56.trans g7
  have s7:=sa.mono g57
  have px:IsP x:=⟨_,dxx⟩
  refine⟨b,T,o3,r7,m1,_,f1,x*f2,rfl,s7.f,(rf1.same (g6.trans g7)),df1,by omega,rr7.any,dg_prod dxx df2,by split <;> omega,fun r8 k8 H8 hk8 nz8 g8 rr8=>?_⟩
  have g58:=g57.trans g8
  have g68:=(g6.trans g7).trans g8
  have g78:=g7.trans g8
  have y0:=euclid_step hD T.fld.1 mx pU pV hUV px es c' nz2.dg ld
  have m0:1≤m:=Nat.pos_of_ne_zero fun z=>y0 (by have:=nz.dg;rw[z] at this;exact this.eq0)
  refine⟨_,rfl,_,rfl,_,_,rfl,?_⟩
  refine⟨_,rfl,_,rfl,_,_,rfl,?_⟩
  obtain⟨p3,zs,rfl,hp3,_,C3⟩:=id rrr.cf
  have hkk:k8+(d+1)≤M.n+2:=by
   have:(if n1 - d=0∨m2=0 then 0 else n1 - d+m2 - 1)≤n1 - d+m2 - 1:=by split <;> omega
   omega
  refine⟨⟨g58,.ref p2,.ref p3,o4,r8,_,_,_,d+1,m,m2,k8,a2,y,f2,f1 - x*f2,rfl,ra2.same g68,nz2.dg,(rrr.same g78).any,nz,m0,by omega,rf2.same g68,df2,rr8.any,nz8.dg,hkk,by omega,mx.step px es,cg2,back_cg ⟨_,dxs⟩ ⟨_,df2⟩ ⟨_,df1⟩ px cg1 cg2 es⟩,?_⟩
  show lenAt [some (V.ref a),some u,some (V.ref b),some (V.ref p2),some (V.ref p3),some o4,some r8,_,_,_] 4 H8<d+1
  rw[lenAt_of rfl (g78 _ _ hp3),C3.len];omega
 ·have c':d=0:=by
   refine Nat.eq_zero_of_not_pos fun z=>cc (decide_eq_true ?_)
   omega
  subst c'
  obtain⟨v0,hv0,rv0⟩:=C2.at_ 0 (by omega)
  refine⟨_,rfl,a,rfl,⟨b,q',dx,T,M,s5⟩,_,rfl,_,rfl,b,rfl,⟨T,s5.f⟩,_,rfl,p2,_,_,_,rfl,rfl,SqL.of hp2,atI_nat (j:=0) hv0,fun _ h=>h,b,T,v0,_,rfl,s5.f,rv0,ld,fun r6 H6 y hy g6 rr6=>?_⟩
  have g56:=gg.trans g6
  have s6:=sa.mono g56
  refine⟨_,rfl,b,T,r6,o4,y,m2,f2,rfl,s6.f,rr6.any,rf2.same g6,by omega,fun r7 H7 g7 rr7=>?_⟩
  have g57:=g56.trans g7
  have s7:=sa.mono g57
  refine⟨fun _ h=>g7 _ _ (g6 _ _ h),a,b,q',dx,T,M,r7,m2,cst y*f2,NewB H,rfl,s7,rr7.older g56,(fun i hi=>by rw[cst_mul,df2 i hi];exact mul_nought y),by omega,fun r8 H8 g8 rr8=>?_⟩
  refine q r8 H8 (Qt.of M (cst y*f2)) ?_ (g57.trans g8) (rr8.imp fun b o h kk=>⟨h,kk.elim (fun z=>g57.free z) id⟩)
  exact back_end dxs ⟨_,df2⟩ cg2 nz2.dg hy
end
structure TwSrc (K:FrQ)(mg:Str→Option Value)(CG CS:Addr):Prop where
 cg:ClG K CG
 cs:ClS K CS
 g1:MSrc K CG "degree" "Ground.degree" s_Ground_degree ["self"]
 g2:MSrc K CG "zero" "Ground.zero" s_Ground_zero ["self"]
 g3:MSrc K CG "one" "Ground.one" s_Ground_one ["self"]
 g4:MSrc K CG "plus" "Ground.plus" s_Ground_plus ["self","u","v"]
 g5:MSrc K CG "minus" "Ground.minus" s_Ground_minus ["self","u","v"]
 g6:MSrc K CG "times" "Ground.times" s_Ground_times ["self","u","v"]
 g7:MSrc K CG "is_nought" "Ground.is_nought" s_Ground_is_nought ["self","u"]
 g8:MSrc K CG "power" "Ground.power" s_Ground_power ["self","u","n"]
 g9:MSrc K CG "back" "Ground.back" s_Ground_back ["self","u"]
 s0:MSrc K CS "width" "Storey.width" s_Storey_width ["self"]
 s1:MSrc K CS "degree" "Storey.degree" s_Storey_degree ["self"]
 s2:MSrc K CS "zero" "Storey.zero" s_Storey_zero ["self"]
 s3:MSrc K CS "one" "Storey.one" s_Storey_one ["self"]
 s4:MSrc K CS "plus" "Storey.plus" s_Storey_plus ["self","u","v"]
 s5:MSrc K CS "minus" "Storey.minus" s_Storey_minus ["self","u","v"]
 s6:MSrc K CS "times" "Storey.times" s_Storey_times ["self","u","v"]
 s7:MSrc K CS "is_nought" "Storey.is_nought" s_Storey_is_nought ["self","u"]
 s8:MSrc K CS "by_part" "Storey.by_part" s_Storey_by_part ["self","terms"]
 s9:MSrc K CS "back" "Storey.back" s_Storey_back ["self","u"]
 s10:MSrc K CS "lifted" "Storey.lifted" s_Storey_lifted ["self","u"]
 f1:Src K mg "copied" s_copied ["thing"]
 f2:Src K mg "number_power" s_number_power ["k","n"]
 f3:Src K mg "without_noughts" s_without_noughts ["tower","terms"]
 f4:Src K mg "minus_poly" s_minus_poly ["tower","f","g"]
 f5:Src K mg "scaled_poly" s_scaled_poly ["tower","u","f"]
 f6:Src K mg "times_poly" s_times_poly ["tower","f","g"]
 f7:Src K mg "over_monic" s_over_monic ["tower","f","g"]
 f8:Src K mg "monic_of" s_monic_of ["tower","f"]
 f9:Src K mg "over_poly" s_over_poly ["tower","f","g"]
 f10:Src K mg "common_poly" s_common_poly ["tower","f","g"]
 f11:Src K mg "power_by" s_power_by ["tower","g","n","f"]
 f12:Src K mg "letter_of" s_letter_of ["tower"]
 f13:Src K mg "letter_to_powers" s_letter_to_powers ["tower","f","many"]
 f14:Src K mg "primes_in" s_primes_in ["n"]
 f15:Src K mg "is_alone" s_is_alone ["tower","f"]
 f16:Src K mg "power_in" s_power_in ["storey","u","n"]
section
variable {P:Program} {w:World} {K:FrQ} {mg:Str→Option Value} {base:Heap} {CG CS:Addr}
theorem polys_of {k:Nat}{J:L2.Kind}(B:Blt mg)(X:TwSrc K mg CG CS)(hk8:8≤k)(O:TwB P w K mg base k J):Polys P w K mg base k J:=by
 have dc:=ok_copied (P:=P) (w:=w) (base:=base) B X.f1 8
 have cut:=ok_without_noughts B O.toTwO X.f3
 have minus:=ok_minus_poly B O.toTwO cut X.f4
 have scaled:=ok_scaled_poly B O.toTwO X.f5
 have times:=ok_times_poly B O.toTwO X.f6
 have overM:=ok_over_monic B O.toTwO hk8 dc cut X.f7
 have monic:=ok_monic_of B O hk8 dc scaled X.f8
 have overP:=ok_over_poly B O overM scaled X.f9
 have common:=ok_common_poly B O overP monic X.f10
 have pow:=ok_power_by B O overM times X.f11
 have letter:=ok_letter_of B O X.f12
 have letters:=ok_letter_to_powers B O overM letter pow X.f13
 have al:=ok_is_alone B O letters (ok_primes_in B X.f14) common minus X.f15
 exact⟨cut,minus,scaled,times,overM,overP,common,letter,al.imp fun vs H Q E h=>alone_of h,al⟩
theorem twb0 (B:Blt mg)(X:TwSrc K mg CG CS):TwB P w K mg base 8 (IsT CG CS 0):=by
 have O:=two0 (P:=P) (w:=w) (base:=base) (CS:=CS) B X.cg X.g1 X.g2 X.g3 X.g4 X.g5 X.g6 X.g7
 have pi:=ok_power_in B O (Nat.le_refl 1) (ok_number_power B X.f2) X.f16
 have pw:=ok_Ground_power B pi X.g8
 have OP:TwP P w K mg base 3 (IsT CG CS 0):=⟨O.up (by decide),gr_mth X.cg (by decide) (pw.imp fun vs H Q E h=>h.1)⟩
 have bk:=ok_Ground_back B X.cg OP X.g9
 exact⟨O.up (by decide),(gr_mth X.cg (by decide) (bk.imp fun vs H Q E h=>h.1)).mono (by decide)⟩
theorem twb_succ {n k:Nat}(B:Blt mg)(X:TwSrc K mg CG CS)(hk8:8≤k)(hn:n+1≤5)(O:TwB P w K mg base k (IsT CG CS n)):TwB P w K mg base (k+4) (IsT CG CS (n+1)):=by
 have dc:=ok_copied (P:=P) (w:=w) (base:=base) B X.f1 8
 have Y:=polys_of B X hk8 O
 have wd:Mth P w K mg base 1 (JSt CG CS n) "width" ["self"] (spWidth CG CS n):=st_mth X.cs (by decide) (by decide) (by decide) (ok_Storey_width B X.cs X.s0)
 have W:StW P w K mg base k CG CS n:=⟨wd.mono (by omega)⟩
 have bp:=ok_Storey_by_part B X.cs O W X.s8
 have bm:Mth P w K mg base (k+1) (JSt CG CS n) "by_part" ["self","terms"] (spByPart CG CS n):=st_mth X.cs (by decide) (by decide) (by decide) bp
 have SB:StB P w K mg base (k+1) CG CS n:=⟨⟨wd.mono (by omega)⟩,bm⟩
 have SB3:StB P w K mg base (k+3) CG CS n:=⟨⟨wd.mono (by omega)⟩,bm.mono (by omega)⟩
 have lf:Mth P w K mg base (k+1) (JSt CG CS n) "lifted" ["self","u"] (spLifted CG CS n):=st_mth X.cs (by decide) (by decide) (by decide) (ok_Storey_lifted B X.cs hk8 dc O W X.s10)
 have SL:StL P w K mg base (k+1) CG CS n:=⟨lf⟩
 refine⟨⟨IsT.mono,fun j=>?_,fun j=>⟨j.d.2,by rw[j.ht];exact hn⟩,fun j=>j.d.1,?_,?_,?_,?_,?_,?_,?_⟩,?_⟩
 ·obtain⟨b,q',dx,T,M,al,hn,rfl,sa⟩:=j.invS
  exact⟨CS,dx,_,sa.h,X.cs.cl,X.cs.nP,lk_p⟩
 ·exact (st_mthT X.cs (by decide) (by decide) (by decide) (ok_Storey_degree B X.cs O W X.s1)).mono (by omega)
 ·exact (st_mthT X.cs (by decide) (by decide) (by decide) (ok_Storey_zero B X.cs O W X.s2)).mono (by omega)
 ·exact (st_mthT X.cs (by decide) (by decide) (by decide) (ok_Storey_one B X.cs O (by omega) SL X.s3)).mono (by omega)
 ·exact (st_mthT X.cs (by decide) (by decide) (by decide) (ok_Storey_plus B X.cs O X.s4)).mono (by omega)
 ·exact (st_mthT X.cs (by decide) (by decide) (by decide) (ok_Storey_minus B X.cs O X.s5)).mono (by omega)
 ·exact (st_mthT X.cs (by decide) (by decide) (by decide) (ok_Storey_times B X.cs O (by omega) SB X.s6)).mono (by omega)
 ·exact (st_mthT X.cs (by decide) (by decide) (by decide) (ok_Storey_is_nought B X.cs O X.s7)).mono (by omega)
 ·exact (st_mthT X.cs (by decide) (by decide) (by decide) (ok_Storey_back B X.cs O (by omega) SB3 Y.cut Y.overP Y.minus Y.times Y.scaled X.s9)).mono (by omega)
theorem twb_all (B:Blt mg)(X:TwSrc K mg CG CS):∀ n,n≤5→TwB P w K mg base (8+4*n) (IsT CG CS n)
 | 0,_=>twb0 B X
 | n+1,h=>by
  have:=twb_succ B X (by omega) h (twb_all B X n (by omega))
  rw[show 8+4*(n+1)=8+4*n+4 by omega]
  exact this
end
section
variable {P:Program} {w:World} {K:FrQ} {mg:Str→Option Value} {base:Heap} {CG CS:Addr} {n k:Nat}
theorem ok_is_whole (B:Blt mg)(F:Src K mg "is_whole" s_is_whole ["thing"]):Dfn P w K mg base 1 "is_whole" ["thing"] (L2.spIsWhole K):=by
 refine F.ok sc_is_whole (fun vs H Q E h=>?_) (fun f cdv A outer s H vs Q E hr h=>?_)
 ·obtain⟨v,d,rfl,_⟩:=h;rfl
 obtain⟨v,d,rfl,D,qt,qf⟩:=h
 refine⟨_,pss_one (ps_ret (pe_and (pe_callB (callK_isinst (K:=K) rfl) rfl B.«isinstance» bt_isinstance (pa_cons (pv 0) (pa_cons (pe_bltn (v:=.ty "int") rfl B.«int» bt_int rfl) pa_nil))) (pe_one (pe_not (pe_callB (callK_isinst (K:=K) rfl) rfl B.«isinstance» bt_isinstance (pa_cons (pv 0) (pa_cons (pe_bltn (v:=.ty "bool") rfl B.«bool» bt_bool rfl) pa_nil))))))),?_⟩
 cases D with
 | non=>exact⟨_,rfl,_,_,"int",false,rfl,.non,by with_unfolding_all rfl,_,rfl,qf (fun ⟨_,z⟩=>by cases z)⟩
 | bl x=>exact⟨_,rfl,_,_,"int",true,rfl,.bl x,by with_unfolding_all rfl,_,rfl,_,rfl,_,_,"bool",true,rfl,.bl x,rfl,_,rfl,qf (fun ⟨_,z⟩=>by cases z)⟩
 | int i=>exact⟨_,rfl,_,_,"int",true,rfl,.int i,rfl,_,rfl,_,rfl,_,_,"bool",false,rfl,.int i,by with_unfolding_all rfl,_,rfl,qt ⟨i,rfl⟩⟩
 | str x=>exact⟨_,rfl,_,_,"int",false,rfl,.str x,by with_unfolding_all rfl,_,rfl,qf (fun ⟨_,z⟩=>by cases z)⟩
 | lst e _ _=>exact⟨_,rfl,_,_,"int",false,rfl,.lst e,by with_unfolding_all rfl,_,rfl,qf (fun ⟨_,z⟩=>by cases z)⟩
 | tup e _ _=>exact⟨_,rfl,_,_,"int",false,rfl,.tup e,by with_unfolding_all rfl,_,rfl,qf (fun ⟨_,z⟩=>by cases z)⟩
theorem ok_Ground_is_element (B:Blt mg)(c:ClG K CG)(d_is_whole:Dfn P w K mg base 1 "is_whole" ["thing"] (L2.spIsWhole K))(F:MSrc K CG "is_element" "Ground.is_element" s_Ground_is_element ["self","thing"]):Mok P w K mg base 2 CG "is_element" ["self","thing"] (spIsEl K (IsT CG CS 0)):=by
 refine F.ok sc_Ground_is_element (fun vs H Q E h=>?_) (fun fa cdv A outer s H vs Q E hr h=>?_)
 ·obtain⟨a,T,v,d,rfl,_⟩:=h;rfl
 obtain⟨a,T,v,d,rfl,ja,D,qt,qf⟩:=h
 obtain⟨p,hp,rfl,dx,g⟩:=ja.inv0
 rw[isElD_gr] at qt qf
 refine⟨_,pss_one (ps_ret (pe_and (pe_def d_is_whole hr (pa_cons (pv 1) pa_nil) (by first|decide|omega)) (pe_one (pe_chain op_le op_lt pe_int (pv 1) (pe_fldK (K:=K) rfl (pv 0)))))),?_⟩
 refine⟨_,rfl,v,d,rfl,D,fun hi=>?_,fun hi=>?_⟩
 ·obtain⟨i,rfl⟩:=hi
  cases D
  refine⟨_,rfl,iteT ?_⟩
  refine⟨_,rfl,_,_,rfl,rfl,_,rfl,ite2 (fun c1=>?_) (fun c1=>?_)⟩
  ·refine⟨_,rfl,a,CG,dx,_,_,rfl,g,c.cl,c.nP,lg_p,_,_,rfl,rfl,?_⟩
   show Q (V.bl (decide (i<(p:Int)))) H
   by_cases c2:i<(p:Int)
   ·rw[decide_eq_true c2];exact qt ⟨i,rfl,of_decide_eq_true c1,c2⟩ H (Same.refl H)
   ·rw[decide_eq_false c2];exact qf (fun ⟨j,e,_,h⟩=>by cases e;exact c2 h) H (Same.refl H)
  ·exact qf (fun ⟨j,e,h,_⟩=>by cases e;exact c1 (decide_eq_true h)) H (Same.refl H)
 ·exact⟨_,rfl,qf (fun ⟨i,e,_⟩=>hi ⟨i,e⟩) H (Same.refl H)⟩
theorem ok_Ground_whole (B:Blt mg)(c:ClG K CG)(F:MSrc K CG "whole" "Ground.whole" s_Ground_whole ["self","k"]):Mok P w K mg base 1 CG "whole" ["self","k"] (spWhole (IsT CG CS 0)):=by
 refine F.ok sc_Ground_whole (fun vs H Q E h=>?_) (fun fa cdv A outer s H vs Q E hr h=>?_)
 ·obtain⟨a,T,i,rfl,_⟩:=h;rfl
 obtain⟨a,T,i,rfl,ja,q⟩:=h
 obtain⟨p,hp,rfl,dx,g⟩:=ja.inv0
 have pp:=pr_pos hp
 refine⟨_,pss_one (ps_ret (pe_op op_modN (pv 1) (pe_fldK (K:=K) rfl (pv 0)))),?_⟩
 refine⟨_,rfl,_,rfl,a,CG,dx,_,_,rfl,g,c.cl,c.nP,lg_p,_,_,rfl,rfl,by show ((p:Nat):Int)≠0;omega,?_⟩
 show Q (V.int (i.fmod (p:Int))) H
 rw[fmod_p]
 refine q _ H (Same.refl H) ?_
 rw[wh_gr];exact .num _
theorem ok_Storey_whole (B:Blt mg)(c:ClS K CS)(O:TwE P w K mg base k (IsT CG CS n)){k':Nat}(hk':k≤k')(S:StL P w K mg base k' CG CS n)(F:MSrc K CS "whole" "Storey.whole" s_Storey_whole ["self","k"]):Mok P w K mg base (k'+1) CS "whole" ["self","k"] (spWhole (IsT CG CS (n+1))):=by
 refine F.ok sc_Storey_whole (fun vs H Q E h=>?_) (fun fa cdv A outer s H vs Q E hr h=>?_)
 ·obtain⟨a,T',i,rfl,_⟩:=h;rfl
 obtain⟨a,T',i,rfl,ja,q⟩:=h
 obtain⟨b,q',dx,T,M,al,hn,rfl,sa⟩:=ja.invS
 refine⟨_,pss_one (ps_ret (pe_mth S.lifted hr (pv 0) (pa_cons (pe_mth O.whole hr (pe_fldK (K:=K) rfl (pv 0)) (pa_cons (pv 1) pa_nil)) pa_nil))),?_⟩
 refine⟨_,rfl,a,rfl,⟨b,q',dx,T,M,sa⟩,_,rfl,a,CS,dx,_,_,rfl,sa.h,c.cl,c.nF,lk_floor,b,rfl,⟨T,sa.f⟩,_,rfl,fun _ h=>h,b,T,i,rfl,sa.f,fun r1 H1 g1 rr1=>?_⟩
 refine⟨fun _ h=>g1 _ _ h,a,b,q',dx,T,M,r1,wh T i,rfl,sa.mono g1,rr1.any,fun r2 H2 g2 rr2=>?_⟩
 refine q r2 H2 (g1.trans g2) ?_
 rw[wh_up];exact rr2.older g1
theorem ok_Storey_is_element (B:Blt mg)(c:ClS K CS)(O:TwE P w K mg base k (IsT CG CS n))(S:StW P w K mg base k CG CS n)(F:MSrc K CS "is_element" "Storey.is_element" s_Storey_is_element ["self","thing"]):Mok P w K mg base (k+1) CS "is_element" ["self","thing"] (spIsEl K (IsT CG CS (n+1))):=by
 refine F.ok sc_Storey_is_element (fun vs H Q E h=>?_) (fun fa cdv A outer s H vs Q E hr h=>?_)
 ·obtain⟨a,T',v,d,rfl,_⟩:=h;rfl
 obtain⟨a,T',v,d,rfl,ja,D,qt,qf⟩:=h
 obtain⟨b,q',dx,T,M,al,hn,rfl,sa⟩:=ja.invS
 rw[isElD_up] at qt qf
 refine⟨_,pss_cons (ps_if (PW.pt (pw_or (pt_not (pt_val (pe_callB (callK_isinst (K:=K) rfl) rfl B.«isinstance» bt_isinstance (pa_cons (pv 1) (pa_cons (pe_bltn (v:=.ty "list") rfl B.«list» bt_list rfl) pa_nil))))) (pw_or1 (pt_cmpR op_ne (pe_callB (callK_len (K:=K) rfl) rfl B.«len» bt_len (pa_cons (pv 1) pa_nil)) (pe_mth0 S.width hr (pv 0) ) (nomark _)))))
   (pss_one (ps_ret pe_bl))
   (pss_nil))
  (pss_cons (ps_for PassesOwn.never rfl (piK_list (K:=K) rfl (pv 1)) (pg_name (i:=2) sc_Storey_is_element.nd rfl (Or.inl rfl))
   (pss_one (ps_if (pt_not (pt_val (pe_mth O.is_element hr (pe_fldK (K:=K) rfl (pv 0)) (pa_cons (pv 2) pa_nil))))
    (pss_one (ps_ret pe_bl))
    (pss_nil))))
  (pss_one (ps_ret pe_bl))),?_⟩
 cases D with
 | @lst la xs ds e hl hel=>
  refine⟨_,rfl,_,"list","list",true,rfl,.lst e,rfl,_,rfl,iteF ?_⟩
  refine⟨_,rfl,la,_,rfl,.inl e,_,rfl,a,rfl,⟨b,q',dx,T,M,sa⟩,fun _ h=>h,a,b,q',dx,T,M,rfl,sa,fun H1 g1=>?_⟩
  refine⟨rfl,_,rfl,?_⟩
  rw[hl]
  by_cases c1:ds.length=M.n
  ·refine iteNS (by rw[c1]) ?_
   have s1:=sa.mono g1
   refine⟨_,rfl,la,rfl,⟨_,g1.seq e⟩,for_list (xs:=xs) (fun i σ H2=>Same H H2∧(∃ o,σ=[some (.ref a),some (.ref la),o])∧∀ d∈ds.take i,IsElD T d) ⟨g1,⟨_,rfl⟩,fun d hd=>by simp at hd⟩ (fun i σ H2 _ h=>h.1.seq e) ?_ ?_⟩
   ·rintro i v σ H2 hv ⟨g2,⟨o,rfl⟩,hall⟩
    have s2:=sa.mono g2
    have hi:i<ds.length:=by rw[← hl];exact (List.getElem?_eq_some_iff.mp hv).1
    have hdi:ds[i]?=some ds[i]:=List.getElem?_eq_getElem hi
    have D2:=(hel i v ds[i] hv hdi).same g2
    refine⟨_,rfl,a,CS,dx,_,_,rfl,s2.h,c.cl,c.nF,lk_floor,b,rfl,⟨T,s2.f⟩,_,rfl,fun _ h=>h,b,T,v,ds[i],rfl,s2.f,D2,fun z H3 g3=>?_,fun z H3 g3=>?_⟩
    ·refine⟨_,rfl,iteF ⟨g2.trans g3,⟨_,rfl⟩,fun d hd=>?_⟩⟩
     rw[List.take_succ,hdi] at hd
     rcases List.mem_append.mp hd with y | y
     ·exact hall d y
     ·obtain rfl:d=ds[i]:=by simpa using y
      exact z
    ·refine⟨_,rfl,iteT ?_⟩
     exact qf (fun ⟨ds',e',_,h'⟩=>by cases e';exact z (h' _ (List.getElem_mem hi))) H3 (g2.trans g3)
   ·rintro σ H2 ⟨g2,⟨o,rfl⟩,hall⟩
    rw[hl,List.take_length] at hall
    exact qt ⟨ds,rfl,c1,hall⟩ H2 g2
  ·refine iteS (fun z=>c1 (by have:=V.int.inj z;omega)) ?_
   exact qf (fun ⟨ds',e',h',_⟩=>by cases e';exact c1 h') H1 g1
 | non=>exact⟨_,rfl,_,_,"list",false,rfl,.non,by with_unfolding_all rfl,_,rfl,iteT (qf (fun ⟨_,z,_⟩=>by cases z) H (Same.refl H))⟩
 | bl x=>exact⟨_,rfl,_,_,"list",false,rfl,.bl x,by with_unfolding_all rfl,_,rfl,iteT (qf (fun ⟨_,z,_⟩=>by cases z) H (Same.refl H))⟩
 | int i=>exact⟨_,rfl,_,_,"list",false,rfl,.int i,by with_unfolding_all rfl,_,rfl,iteT (qf (fun ⟨_,z,_⟩=>by cases z) H (Same.refl H))⟩
 | str x=>exact⟨_,rfl,_,_,"list",false,rfl,.str x,by with_unfolding_all rfl,_,rfl,iteT (qf (fun ⟨_,z,_⟩=>by cases z) H (Same.refl H))⟩
 | tup e _ _=>exact⟨_,rfl,_,_,"list",false,rfl,.tup e,by with_unfolding_all rfl,_,rfl,iteT (qf (fun ⟨_,z,_⟩=>by cases z) H (Same.refl H))⟩
structure ElSrc (K:FrQ)(mg:Str→Option Value)(CG CS:Addr):Prop where
 g1:MSrc K CG "is_element" "Ground.is_element" s_Ground_is_element ["self","thing"]
 g2:MSrc K CG "whole" "Ground.whole" s_Ground_whole ["self","k"]
 s1:MSrc K CS "is_element" "Storey.is_element" s_Storey_is_element ["self","thing"]
 s2:MSrc K CS "whole" "Storey.whole" s_Storey_whole ["self","k"]
 f1:Src K mg "is_whole" s_is_whole ["thing"]
theorem twe_all (B:Blt mg)(X:TwSrc K mg CG CS)(Y:ElSrc K mg CG CS):∀ n,n≤5→TwE P w K mg base (8+4*n) (IsT CG CS n)
 | 0,h=>by
  refine⟨twb_all B X 0 h,?_,?_⟩
  ·exact (gr_mth X.cg (by decide) ((ok_Ground_is_element B X.cg (ok_is_whole B Y.f1) Y.g1).imp fun vs H Q E h=>h.1)).mono (by decide)
  ·exact (gr_mth X.cg (by decide) ((ok_Ground_whole B X.cg Y.g2).imp fun vs H Q E h=>h.1)).mono (by decide)
 | n+1,h=>by
  have O:=twe_all B X Y n (by omega)
  have dc:=ok_copied (P:=P) (w:=w) (base:=base) B X.f1 8
  have wd:Mth P w K mg base 1 (JSt CG CS n) "width" ["self"] (spWidth CG CS n):=st_mth X.cs (by decide) (by decide) (by decide) (ok_Storey_width B X.cs X.s0)
  have W:StW P w K mg base (8+4*n) CG CS n:=⟨wd.mono (by omega)⟩
  have lf:Mth P w K mg base (8+4*n+1) (JSt CG CS n) "lifted" ["self","u"] (spLifted CG CS n):=st_mth X.cs (by decide) (by decide) (by decide) (ok_Storey_lifted B X.cs (by omega) dc O.toTwB W X.s10)
  refine⟨twb_all B X (n+1) h,?_,?_⟩
  ·exact (st_mthT X.cs (by decide) (by decide) (by decide) (ok_Storey_is_element B X.cs O W Y.s1)).mono (by omega)
  ·exact (st_mthT X.cs (by decide) (by decide) (by decide) (ok_Storey_whole B X.cs O (by omega) ⟨lf⟩ Y.s2)).mono (by omega)
end
section
variable {P:Program} {w:World} {K:FrQ} {mg:Str→Option Value} {base:Heap} {CG CS:Addr} {n k:Nat} {J:L2.Kind}
theorem ok_Ground_init (B:Blt mg)(c:ClG K CG){f:Addr}{fd:FuncData}(F:Fun K "__init__" "Ground.__init__" s_Ground_init f fd):FnOk P w K mg base CX0 1 f fd ["self","p"] (spInitG CG):=by
 refine F.ok sc_Ground_init (fun vs H Q E h=>?_) (fun cdv A outer s H vs Q E hr h=>?_)
 ·obtain⟨x,dx,p,rfl,_⟩:=h;rfl
 obtain⟨x,dx,p,rfl,hx,q⟩:=h
 refine⟨_,pss_one (ps_fld (pv 0) (pv 1) rfl),?_⟩
 exact⟨_,rfl,_,rfl,x,CG,dx,[],rfl,hx,c.cl,c.nP,(by show 0<1000;decide),q⟩
theorem ok_Storey_init (B:Blt mg)(c:ClS K CS)(d_copied:Dfn P w K mg base 8 "copied" ["thing"] (spCopied 8))(O:TwE P w K mg base k (IsT CG CS n)){f:Addr}{fd:FuncData}(F:Fun K "__init__" "Storey.__init__" s_Storey_init f fd):FnOk P w K mg base CX0 9 f fd ["self","floor","part"] (spInitS CG CS n):=by
 refine F.ok sc_Storey_init (fun vs H Q E h=>?_) (fun cdv A outer s H vs Q E hr h=>?_)
 ·obtain⟨x,dx,b,u,T,M,H0,rfl,_⟩:=h;rfl
 obtain⟨x,dx,b,u,T,M,H0,rfl,hx,g0,nx,jb,ru,hM,q⟩:=h
 have hb:=O.bd jb
 obtain⟨C,dy,fs,hins,hcl,hna,hlk⟩:=O.fld jb
 refine⟨_,pss_cons (ps_fld (pv 0) (pv 1) rfl)
  (pss_cons (ps_fld (pv 0) (pe_fldK (K:=K) rfl (pv 1)) rfl)
  (pss_one (ps_fld (pv 0) (pe_def d_copied hr (pa_cons (pv 2) pa_nil) (by first|decide|omega)) rfl))),?_⟩
 refine⟨_,rfl,_,rfl,x,CS,dx,[],rfl,hx,c.cl,c.nF,(by show 0<1000;decide),?_⟩
 have g1:Same H0 (upd H x (.ins CS dx (putF "floor" (.ref b) []))):=g0.free_upd nx _
 refine⟨_,rfl,b,C,dy,_,_,rfl,g1 _ _ hins,hcl,hna,hlk,_,rfl,x,CS,dx,_,rfl,upd_same,c.cl,c.nP,(by show 1<1000;decide),?_⟩
 have g2:Same H0 (upd (upd H x (.ins CS dx (putF "floor" (.ref b) []))) x (.ins CS dx (putF "p" (.int (T.p:Int)) (putF "floor" (.ref b) [])))):=g1.free_upd nx _
 refine⟨_,rfl,u,_,7,rfl,rfl,(fl_pol T (by omega) M.f).mono (by omega),ru.same g2,fun r H1 g3 rr fr=>?_⟩
 obtain⟨R,rs0,rfl,hRH,hR1,cR⟩:=fr _ _ rfl
 refine⟨_,rfl,x,CS,dx,_,rfl,g3 _ _ upd_same,c.cl,c.nQ,(by show 2<1000;decide),?_⟩
 refine q R _ ((g2.trans g3).free_upd nx _) upd_same ?_
 exact ((rr.offN g2 upd_same).updG fun b kk=>kk.2).imp fun b o h kk=>⟨h,kk.1⟩
end
section
variable {P:Program} {w:World} {K:FrQ} {mg:Str→Option Value} {base:Heap} {CG CS CT:Addr} {k:Nat}
theorem ok_Tower_degree (B:Blt mg)(c:ClT K CT)(O:TwE P w K mg base k (IsTU CG CS))(F:MSrc K CT "degree" "Tower.degree" s_Tower_degree ["self"]):Mok P w K mg base (k+1) CT "degree" ["self"] (spDeg (IsF CG CS CT)):=by
 refine F.ok sc_Tower_degree (fun vs H Q E h=>?_) (fun fa cdv A outer s H vs Q E hr h=>?_)
 ·obtain⟨a,T,rfl,_⟩:=h;rfl
 obtain⟨a,T,rfl,⟨dx,b,v1,v2,h1,ju⟩,q⟩:=h
 refine⟨_,pss_one (ps_ret (pe_mth0 O.degree hr (pe_fldK (K:=K) rfl (pv 0)) )),?_⟩
 exact⟨_,rfl,a,CT,dx,_,_,rfl,h1,c.cl,c.nT,lt_top,b,rfl,⟨T,ju⟩,fun _ h=>h,b,T,rfl,ju,q⟩
theorem ok_Tower_zero (B:Blt mg)(c:ClT K CT)(O:TwE P w K mg base k (IsTU CG CS))(F:MSrc K CT "zero" "Tower.zero" s_Tower_zero ["self"]):Mok P w K mg base (k+1) CT "zero" ["self"] (spZero (IsF CG CS CT)):=by
 refine F.ok sc_Tower_zero (fun vs H Q E h=>?_) (fun fa cdv A outer s H vs Q E hr h=>?_)
 ·obtain⟨a,T,rfl,_⟩:=h;rfl
 obtain⟨a,T,rfl,⟨dx,b,v1,v2,h1,ju⟩,q⟩:=h
 refine⟨_,pss_one (ps_ret (pe_mth0 O.zero hr (pe_fldK (K:=K) rfl (pv 0)) )),?_⟩
 exact⟨_,rfl,a,CT,dx,_,_,rfl,h1,c.cl,c.nT,lt_top,b,rfl,⟨T,ju⟩,fun _ h=>h,b,T,rfl,ju,q⟩
theorem ok_Tower_one (B:Blt mg)(c:ClT K CT)(O:TwE P w K mg base k (IsTU CG CS))(F:MSrc K CT "one" "Tower.one" s_Tower_one ["self"]):Mok P w K mg base (k+1) CT "one" ["self"] (spOne (IsF CG CS CT)):=by
 refine F.ok sc_Tower_one (fun vs H Q E h=>?_) (fun fa cdv A outer s H vs Q E hr h=>?_)
 ·obtain⟨a,T,rfl,_⟩:=h;rfl
 obtain⟨a,T,rfl,⟨dx,b,v1,v2,h1,ju⟩,q⟩:=h
 refine⟨_,pss_one (ps_ret (pe_mth0 O.one hr (pe_fldK (K:=K) rfl (pv 0)) )),?_⟩
 exact⟨_,rfl,a,CT,dx,_,_,rfl,h1,c.cl,c.nT,lt_top,b,rfl,⟨T,ju⟩,fun _ h=>h,b,T,rfl,ju,q⟩
theorem ok_Tower_whole (B:Blt mg)(c:ClT K CT)(O:TwE P w K mg base k (IsTU CG CS))(F:MSrc K CT "whole" "Tower.whole" s_Tower_whole ["self","k"]):Mok P w K mg base (k+1) CT "whole" ["self","k"] (spWhole (IsF CG CS CT)):=by
 refine F.ok sc_Tower_whole (fun vs H Q E h=>?_) (fun fa cdv A outer s H vs Q E hr h=>?_)
 ·obtain⟨a,T,i,rfl,_⟩:=h;rfl
 obtain⟨a,T,i,rfl,⟨dx,b,v1,v2,h1,ju⟩,q⟩:=h
 refine⟨_,pss_one (ps_ret (pe_mth O.whole hr (pe_fldK (K:=K) rfl (pv 0)) (pa_cons (pv 1) pa_nil))),?_⟩
 exact⟨_,rfl,a,CT,dx,_,_,rfl,h1,c.cl,c.nT,lt_top,b,rfl,⟨T,ju⟩,_,rfl,fun _ h=>h,b,T,i,rfl,ju,q⟩
theorem ok_Tower_plus (B:Blt mg)(c:ClT K CT)(O:TwE P w K mg base k (IsTU CG CS))(F:MSrc K CT "plus" "Tower.plus" s_Tower_plus ["self","u","v"]):Mok P w K mg base (k+1) CT "plus" ["self","u","v"] (spPlus (IsF CG CS CT)):=by
 refine F.ok sc_Tower_plus (fun vs H Q E h=>?_) (fun fa cdv A outer s H vs Q E hr h=>?_)
 ·obtain⟨a,T,u,v,x,y,rfl,_⟩:=h;rfl
 obtain⟨a,T,u,v,x,y,rfl,⟨dx,b,v1,v2,h1,ju⟩,q⟩:=h
 refine⟨_,pss_one (ps_ret (pe_mth O.plus hr (pe_fldK (K:=K) rfl (pv 0)) (pa_cons (pv 1) (pa_cons (pv 2) pa_nil)))),?_⟩
 exact⟨_,rfl,a,CT,dx,_,_,rfl,h1,c.cl,c.nT,lt_top,b,rfl,⟨T,ju⟩,_,rfl,_,rfl,fun _ h=>h,b,T,u,v,x,y,rfl,ju,q⟩
theorem ok_Tower_minus (B:Blt mg)(c:ClT K CT)(O:TwE P w K mg base k (IsTU CG CS))(F:MSrc K CT "minus" "Tower.minus" s_Tower_minus ["self","u","v"]):Mok P w K mg base (k+1) CT "minus" ["self","u","v"] (spMinus (IsF CG CS CT)):=by
 refine F.ok sc_Tower_minus (fun vs H Q E h=>?_) (fun fa cdv A outer s H vs Q E hr h=>?_)
 ·obtain⟨a,T,u,v,x,y,rfl,_⟩:=h;rfl
 obtain⟨a,T,u,v,x,y,rfl,⟨dx,b,v1,v2,h1,ju⟩,q⟩:=h
 refine⟨_,pss_one (ps_ret (pe_mth O.minus hr (pe_fldK (K:=K) rfl (pv 0)) (pa_cons (pv 1) (pa_cons (pv 2) pa_nil)))),?_⟩
 exact⟨_,rfl,a,CT,dx,_,_,rfl,h1,c.cl,c.nT,lt_top,b,rfl,⟨T,ju⟩,_,rfl,_,rfl,fun _ h=>h,b,T,u,v,x,y,rfl,ju,q⟩
theorem ok_Tower_times (B:Blt mg)(c:ClT K CT)(O:TwE P w K mg base k (IsTU CG CS))(F:MSrc K CT "times" "Tower.times" s_Tower_times ["self","u","v"]):Mok P w K mg base (k+1) CT "times" ["self","u","v"] (spTimes (IsF CG CS CT)):=by
 refine F.ok sc_Tower_times (fun vs H Q E h=>?_) (fun fa cdv A outer s H vs Q E hr h=>?_)
 ·obtain⟨a,T,u,v,x,y,rfl,_⟩:=h;rfl
 obtain⟨a,T,u,v,x,y,rfl,⟨dx,b,v1,v2,h1,ju⟩,q⟩:=h
 refine⟨_,pss_one (ps_ret (pe_mth O.times hr (pe_fldK (K:=K) rfl (pv 0)) (pa_cons (pv 1) (pa_cons (pv 2) pa_nil)))),?_⟩
 exact⟨_,rfl,a,CT,dx,_,_,rfl,h1,c.cl,c.nT,lt_top,b,rfl,⟨T,ju⟩,_,rfl,_,rfl,fun _ h=>h,b,T,u,v,x,y,rfl,ju,q⟩
theorem ok_Tower_back (B:Blt mg)(c:ClT K CT)(O:TwE P w K mg base k (IsTU CG CS))(F:MSrc K CT "back" "Tower.back" s_Tower_back ["self","u"]):Mok P w K mg base (k+1) CT "back" ["self","u"] (spBack (IsF CG CS CT)):=by
 refine F.ok sc_Tower_back (fun vs H Q E h=>?_) (fun fa cdv A outer s H vs Q E hr h=>?_)
 ·obtain⟨a,T,u,x,rfl,_⟩:=h;rfl
 obtain⟨a,T,u,x,rfl,⟨dx,b,v1,v2,h1,ju⟩,q⟩:=h
 refine⟨_,pss_one (ps_ret (pe_mth O.back hr (pe_fldK (K:=K) rfl (pv 0)) (pa_cons (pv 1) pa_nil))),?_⟩
 exact⟨_,rfl,a,CT,dx,_,_,rfl,h1,c.cl,c.nT,lt_top,b,rfl,⟨T,ju⟩,_,rfl,fun _ h=>h,b,T,u,x,rfl,ju,q⟩
theorem ok_Tower_is_nought (B:Blt mg)(c:ClT K CT)(O:TwE P w K mg base k (IsTU CG CS))(F:MSrc K CT "is_nought" "Tower.is_nought" s_Tower_is_nought ["self","u"]):Mok P w K mg base (k+1) CT "is_nought" ["self","u"] (spNought (IsF CG CS CT)):=by
 refine F.ok sc_Tower_is_nought (fun vs H Q E h=>?_) (fun fa cdv A outer s H vs Q E hr h=>?_)
 ·obtain⟨a,T,u,x,rfl,_⟩:=h;rfl
 obtain⟨a,T,u,x,rfl,⟨dx,b,v1,v2,h1,ju⟩,q⟩:=h
 refine⟨_,pss_one (ps_ret (pe_mth O.is_nought hr (pe_fldK (K:=K) rfl (pv 0)) (pa_cons (pv 1) pa_nil))),?_⟩
 exact⟨_,rfl,a,CT,dx,_,_,rfl,h1,c.cl,c.nT,lt_top,b,rfl,⟨T,ju⟩,_,rfl,fun _ h=>h,b,T,u,x,rfl,ju,q⟩
theorem ok_Tower_is_element (B:Blt mg)(c:ClT K CT)(O:TwE P w K mg base k (IsTU CG CS))(F:MSrc K CT "is_element" "Tower.is_element" s_Tower_is_element ["self","thing"]):Mok P w K mg base (k+1) CT "is_element" ["self","thing"] (spIsEl K (IsF CG CS CT)):=by
 refine F.ok sc_Tower_is_element (fun vs H Q E h=>?_) (fun fa cdv A outer s H vs Q E hr h=>?_)
 ·obtain⟨a,T,u,x,rfl,_⟩:=h;rfl
 obtain⟨a,T,u,x,rfl,⟨dx,b,v1,v2,h1,ju⟩,q⟩:=h
 refine⟨_,pss_one (ps_ret (pe_mth O.is_element hr (pe_fldK (K:=K) rfl (pv 0)) (pa_cons (pv 1) pa_nil))),?_⟩
 exact⟨_,rfl,a,CT,dx,_,_,rfl,h1,c.cl,c.nT,lt_top,b,rfl,⟨T,ju⟩,_,rfl,fun _ h=>h,b,T,u,x,rfl,ju,q⟩
end
structure TcSrc (K:FrQ)(CT:Addr):Prop where
 c:ClT K CT
 t0:MSrc K CT "degree" "Tower.degree" s_Tower_degree ["self"]
 t1:MSrc K CT "zero" "Tower.zero" s_Tower_zero ["self"]
 t2:MSrc K CT "one" "Tower.one" s_Tower_one ["self"]
 t3:MSrc K CT "whole" "Tower.whole" s_Tower_whole ["self","k"]
 t4:MSrc K CT "plus" "Tower.plus" s_Tower_plus ["self","u","v"]
 t5:MSrc K CT "minus" "Tower.minus" s_Tower_minus ["self","u","v"]
 t6:MSrc K CT "times" "Tower.times" s_Tower_times ["self","u","v"]
 t7:MSrc K CT "back" "Tower.back" s_Tower_back ["self","u"]
 t8:MSrc K CT "is_nought" "Tower.is_nought" s_Tower_is_nought ["self","u"]
 t9:MSrc K CT "is_element" "Tower.is_element" s_Tower_is_element ["self","thing"]
section
variable {P:Program} {w:World} {K:FrQ} {mg:Str→Option Value} {base:Heap} {CG CS CT:Addr} {k:Nat}
theorem tf_mth (c:ClT K CT){m:Str}{ps:List Str}{sp:Sp}(h1:m≠"top")(h2:m≠"p")(h3:m≠"parts")(h4:m≠"kept")(M:Mok P w K mg base k CT m ps sp):Mth P w K mg base k (JJ (IsF CG CS CT)) m ps sp:=
 .of fun H a ⟨T,dx,b,v1,v2,h,_⟩=>⟨CT,dx,_,h,lt_no h1 h2 h3 h4,c.cl,M.imp fun vs H Q E h=>h.1⟩
theorem tweF (B:Blt mg)(X:TcSrc K CT)(O:TwE P w K mg base k (IsTU CG CS)):TwE P w K mg base (k+1) (IsF CG CS CT):=by
 refine⟨⟨⟨IsF.mono,fun ⟨dx,b,v1,v2,h,j⟩=>⟨CT,dx,_,h,X.c.cl,X.c.nP,lt_p⟩,fun ⟨dx,b,v1,v2,h,j⟩=>O.bd j,fun ⟨dx,b,v1,v2,h,j⟩=>O.d1 j,?_,?_,?_,?_,?_,?_,?_⟩,?_⟩,?_,?_⟩
 ·exact tf_mth X.c (by decide) (by decide) (by decide) (by decide) (ok_Tower_degree B X.c O X.t0)
 ·exact tf_mth X.c (by decide) (by decide) (by decide) (by decide) (ok_Tower_zero B X.c O X.t1)
 ·exact tf_mth X.c (by decide) (by decide) (by decide) (by decide) (ok_Tower_one B X.c O X.t2)
 ·exact tf_mth X.c (by decide) (by decide) (by decide) (by decide) (ok_Tower_plus B X.c O X.t4)
 ·exact tf_mth X.c (by decide) (by decide) (by decide) (by decide) (ok_Tower_minus B X.c O X.t5)
 ·exact tf_mth X.c (by decide) (by decide) (by decide) (by decide) (ok_Tower_times B X.c O X.t6)
 ·exact tf_mth X.c (by decide) (by decide) (by decide) (by decide) (ok_Tower_is_nought B X.c O X.t8)
 ·exact tf_mth X.c (by decide) (by decide) (by decide) (by decide) (ok_Tower_back B X.c O X.t7)
 ·exact tf_mth X.c (by decide) (by decide) (by decide) (by decide) (ok_Tower_is_element B X.c O X.t9)
 ·exact tf_mth X.c (by decide) (by decide) (by decide) (by decide) (ok_Tower_whole B X.c O X.t3)
structure MkSrc (K:FrQ)(mg:Str→Option Value)(CG CS CT:Addr):Prop where
 g:∃ f fd,Mk K CG f∧Fun K "__init__" "Ground.__init__" s_Ground_init f fd∧Binds K fd ["self","p"] []∧mg "Ground"=some (.ref CG)
 s:∃ f fd,Mk K CS f∧Fun K "__init__" "Storey.__init__" s_Storey_init f fd∧Binds K fd ["self","floor","part"] []∧mg "Storey"=some (.ref CS)
 t:∃ f fd,Mk K CT f∧Fun K "__init__" "Tower.__init__" s_Tower_init f fd∧Binds K fd ["self","p","parts"] []∧mg "Tower"=some (.ref CT)
 f1:Src K mg "is_monic_over" s_is_monic_over ["top","thing"]
 f2:Src K mg "is_next_part" s_is_next_part ["top","thing"]
 f3:Src K mg "top_of_any" s_top_of_any ["p","parts"]
 f4:Src K mg "is_prime" s_is_prime ["k"]
 p1:∃ t,mg "MOST_DEGREE"=some (.int 12 t)
 p2:∃ t,mg "MOST_PARTS"=some (.int 5 t)
 p3:∃ x,mg "PRIMES"=some (.ref x)∧∀ H,SqT K H x (PR.map fun p:Nat=>V.int (p:Int))
structure Twrs (P:Program)(w:World)(K:FrQ)(mg:Str→Option Value)(base:Heap)(CG CS CT:Addr):Prop where
 O:TwE P w K mg base 29 (IsF CG CS CT)
 poly:Polys P w K mg base 29 (IsF CG CS CT)
 make:Maker P w K mg base 36 "Tower" CT ["self","p","parts"] (spInitT CG CS CT)
end
def spBag (K:FrQ):Sp:=fun vs H Q _=>∃ (a:Addr) (ns:List Int) (k:Int),vs=[.ref a,.int k]∧SqL K H a (ns.map V.int)∧0≤k∧∀ (p:Addr) (g r:Int) (H':Hp),Same H H'→H p=none→H' p=some (.lst [.int g,.int r])→Q (.ref p) H'
def spTake (K:FrQ):Sp:=fun vs H Q _=>∃ (b:Addr) (g r m:Int),vs=[.ref b,.int m]∧H b=some (.lst [.int g,.int r])∧0<m∧Bd 9000 m∧∀ d g' r':Int,0≤d→d<m→Q (.int d) (upd H b (.lst [.int g',.int r']))
def IsSg (n:Int):Prop:=n=1∨n=-1
section
variable {P:Program} {w:World} {K:FrQ} {mg:Str→Option Value} {base:Heap}
theorem ok_q_bag (B:Blt mg)(F:Src K mg "_law_bag" s_q_bag ["_law_script","_law_at"]):Dfn P w K mg base 1 "_law_bag" ["_law_script","_law_at"] (spBag K):=by
 refine F.ok sc_q_bag (fun vs H Q E h=>?_) (fun f cdv A outer s H vs Q E hr h=>?_)
 ·obtain⟨a,ns,k,rfl,_⟩:=h;rfl
 obtain⟨a,ns,k,rfl,hS,h0,q⟩:=h
 refine⟨_,pss_cons (ps_set (i:=2) sc_q_bag.nd rfl (Or.inl rfl) pe_int)
  (pss_cons (ps_if (pt_cmpR op_lt (pv 1) (pe_callB (callK_len (K:=K) rfl) rfl B.«len» bt_len (pa_cons (pv 0) pa_nil)) (nomark _))
   (pss_one (ps_set (i:=2) sc_q_bag.nd rfl (Or.inl rfl) (pe_ix (ixK_list (K:=K) rfl) (pv 0) (pv 1) (fun _ _=>rfl))))
   (pss_nil))
  (pss_cons (ps_set (i:=3) sc_q_bag.nd rfl (Or.inl rfl) pe_int)
  (pss_cons (ps_if (pt_cmpR op_ge (pe_callB call_abs rfl B.«abs» bt_abs (pa_cons (pv 2) pa_nil)) (pe_op op_pow pe_int pe_int) (nomark _))
   (pss_one (ps_set (i:=3) sc_q_bag.nd rfl (Or.inl rfl) (pe_callB call_abs rfl B.«abs» bt_abs (pa_cons (pv 2) pa_nil))))
   (pss_nil))
  (pss_one (ps_ret (pe_lst (pa_cons (pv 3) (pa_cons (pe_op op_add (pe_op op_modN (pe_op op_add (pe_op op_add (pv 2) (pe_op op_mulO pe_int (pv 1))) pe_int) pe_int) pe_int) pa_nil)))))))),?_⟩
 apply merge (M:=fun σ HM=>HM=H∧∃ (c:Int) (o:Option V),σ=[some (.ref a),some (.int k),some (.int c),o])
 case h1=>
  intro key
  refine⟨_,rfl,_,rfl,a,_,rfl,.inl hS,_,_,rfl,rfl,_,rfl,?_⟩
  refine ite2 (fun c=>?_) (fun c=>?_)
  ·have hk:k<((ns.map V.int).length:Nat):=of_decide_eq_true c
   obtain⟨v,e,hm⟩:=atI_mem (xs:=ns.map V.int) h0 hk
   obtain⟨n,_,rfl⟩:=List.mem_map.mp hm
   exact⟨_,rfl,_,rfl,_,_,_,_,rfl,rfl,hS,e,key _ _ ⟨rfl,n,_,rfl⟩⟩
  ·exact key _ _ ⟨rfl,0,_,rfl⟩
 case h2=>
  rintro σ HM ⟨rfl,c,o,rfl⟩
  apply merge (M:=fun σ HN=>HN=HM∧∃ (g:Int),σ=[some (.ref a),some (.int k),some (.int c),some (.int g)])
  case h1=>
   intro key
   walk_at "rd"
   refine ite2 (fun _=>?_) (fun _=>?_)
   ·exact⟨_,rfl,_,rfl,key _ _ ⟨rfl,_,rfl⟩⟩
   ·exact key _ _ ⟨rfl,_,rfl⟩
  case h2=>
   rintro σ HN ⟨rfl,g,rfl⟩
   walk_at "rd"
   exact fun p hp=>q p g _ _ (same_new hp _) hp upd_same
theorem ok_q_take (B:Blt mg)(F:Src K mg "_law_take" s_q_take ["_law_bag_here","_law_many"]):Dfn P w K mg base 1 "_law_take" ["_law_bag_here","_law_many"] (spTake K):=by
 refine F.ok sc_q_take (fun vs H Q E h=>?_) (fun f cdv A outer s H vs Q E hr h=>?_)
 ·obtain⟨b,g,r,m,rfl,_⟩:=h;rfl
 obtain⟨b,g,r,m,rfl,hb,m0,bm,q⟩:=h
 refine⟨_,pss_cons (ps_if (pt_cmpR op_gt (pe_ix (ixK_list (K:=K) rfl) (pv 0) pe_int (fun _ _=>rfl)) pe_int (nomark _))
   (pss_cons (ps_set (i:=2) sc_q_take.nd rfl (Or.inl rfl) (pe_op op_modN (pe_ix (ixK_list (K:=K) rfl) (pv 0) pe_int (fun _ _=>rfl)) (pv 1)))
   (pss_cons (ps_asg (pe_op op_fdivW (pe_ix (ixK_list (K:=K) rfl) (pv 0) pe_int (fun _ _=>rfl)) (pv 1)) (pg_sub (pv 0) pe_int set_list))
   (pss_one (ps_ret (pv 2)))))
   (pss_nil))
  (pss_cons (ps_asg (pe_op op_modN (pe_op op_add (pe_op op_mulO (pe_ix (ixK_list (K:=K) rfl) (pv 0) pe_int (fun _ _=>rfl)) pe_int) pe_int) pe_int) (pg_sub (pv 0) pe_int set_list))
  (pss_one (ps_ret (pe_op op_modN (pe_op op_modN (pe_op op_mulO (pe_op op_fdivW (pe_ix (ixK_list (K:=K) rfl) (pv 0) pe_int (fun _ _=>rfl)) pe_int) pe_int) pe_int) (pv 1))))),?_⟩
 refine⟨_,rfl,b,_,_,_,rfl,rfl,SqL.of hb,rfl,_,_,rfl,rfl,_,rfl,ite2 (fun c=>?_) (fun c=>?_)⟩
 ·refine⟨_,rfl,b,_,_,_,rfl,rfl,SqL.of hb,rfl,_,rfl,_,_,rfl,rfl,show m≠0 by omega,?_⟩
  refine⟨_,rfl,b,_,_,_,rfl,rfl,SqL.of hb,rfl,_,rfl,_,_,rfl,rfl,bm.dv (by omega),?_⟩
  refine⟨_,rfl,b,_,_,0,rfl,rfl,hb,rfl,?_⟩
  obtain⟨r1,r2⟩:=fmod_range g m0
  exact⟨_,rfl,q _ _ _ r1 r2⟩
 ·refine⟨_,rfl,b,_,_,_,rfl,rfl,SqL.of hb,rfl,?_⟩
  walk_at "rd"
  refine⟨b,_,_,1,rfl,rfl,hb,rfl,?_⟩
  refine⟨_,rfl,b,_,_,_,rfl,rfl,SqL.of upd_same,rfl,?_⟩
  walk_at "rd"
  refine⟨show m≠0 by omega,?_⟩
  obtain⟨r1,r2⟩:=fmod_range ((((r*48271+11).fmod 2147483647).fdiv 8*69621).fmod 2147483629) m0
  exact q _ _ _ r1 r2
def spElem (K:FrQ)(n:Nat):Sp:=fun vs H Q _=>∃ (b wl:Addr) (T:Twr) (ws:List Nat),vs=[.ref b,.int (T.p:Int),.ref wl]∧Bag H b∧H wl=some (.lst (wv ws))∧wl≠b∧Wd T ws∧ws.length<n∧n≤10∧
 ∀ (x:T.α) r H',NewO H b H'→Bag H' b→Rep H' (NewB H) r (T.enc x)→Q r H'
theorem ok_q_element (B:Blt mg)(d_q_take:Dfn P w K mg base 1 "_law_take" ["_law_bag_here","_law_many"] (spTake K))(F:Src K mg "_law_element" s_q_element ["_law_bag_here","_law_p","_law_wides"]):∀ n,Dfn P w K mg base (n+1) "_law_element" ["_law_bag_here","_law_p","_law_wides"] (spElem K n)
 | 0=>(F.none.mono (Nat.le_succ 0)).imp fun vs H Q E h=>by obtain⟨b,wl,T,ws,_,_,_,_,_,h,_⟩:=h;omega
 | n+1=>by
  have d_q_element:=ok_q_element B d_q_take F n
  refine F.ok sc_q_element (fun vs H Q E h=>?_) (fun fa cdv A outer s H vs Q E hr h=>?_)
  ·obtain⟨b,wl,T,ws,rfl,_⟩:=h;rfl
  obtain⟨b,wl,T,ws,rfl,⟨g,r,hb⟩,hw,hne,wd,hlw,hn,q⟩:=h
  have pp:=pr_pos T.pr
  refine⟨_,pss_cons (ps_if (pt_cmpR (opK_eqD (K:=K) rfl hr.units) (pv 2) (pe_lst pa_nil) (nomark _))
   (pss_one (ps_ret (pe_def d_q_take hr (pa_cons (pv 0) (pa_cons (pv 1) pa_nil)) (by first|decide|omega))))
   (pss_nil))
  (pss_one (ps_ret (pe_comp (compScope_mk (N:=["_law_k","_law_bag_here","_law_p","_law_wides"]) (sl:=[none,some 0,some 1,some 2]) (defScope s_q_element) ["_law_bag_here","_law_p","_law_wides"] rfl rfl (by decide +kernel)) rfl (pi_range1 rfl B.«range» (pa_cons (pe_ix (ixK_list (K:=K) rfl) (pv 2) (pe_un un_neg pe_int) (fun _ _=>rfl)) pa_nil)) (fun _ _ _ _ _=>(pg_name (i:=0) (by show List.Nodup (["_law_k","_law_bag_here","_law_p","_law_wides"]:List Str);decide +kernel) rfl (Or.inl rfl))) (fun _ _ _ _ _=>pif_none) (fun _ _ _ _ _=>(pe_def d_q_element hr (pa_cons (pv 1) (pa_cons (pv 2) (pa_cons (pe_slice (slK_list (K:=K) rfl) (pv 3) po_none (po_some (pe_un un_neg pe_int))) pa_nil))) (by first|decide|omega)))))),?_⟩
  have ewv:wv ws=(ws.map fun m:Nat=>(m:Int)).map V.int:=by unfold wv;rw[List.map_map];rfl
  refine⟨_,rfl,len_ok rfl,fun l0 h0=>?_⟩
  have k0:=same_new h0 (.lst [])
  refine eqL (xs:=ws.map fun m:Nat=>(m:Int)) (ys:=[]) (by rw[← ewv];exact SqL.of (k0 _ _ hw)) (SqL.of upd_same) ⟨_,rfl,?_⟩
  have hcat:ws=[]∨∃ ws' m,ws=ws'++[m]:=by
   rcases List.eq_nil_or_concat ws with h | ⟨ws',m,h⟩
   ·exact .inl h
   ·exact .inr ⟨ws',m,by rw[h,List.concat_eq_append]⟩
  rcases hcat with rfl | ⟨ws',m,rfl⟩
  ·refine iteT ?_
   obtain⟨p,hp,rfl⟩:=wd.nil
   refine⟨_,rfl,_,rfl,b,g,r,(p:Int),rfl,k0 _ _ hb,by have:2≤p:=pp.1;omega,Bd.mono (m:=64) (Bd.small (by have:p<50:=pp.2;omega) (by have:p<50:=pp.2;omega)) (by decide),fun d g' r' d0 d1=>?_⟩
   obtain⟨dn,rfl⟩:=Int.eq_ofNat_of_zero_le d0
   exact q (⟨dn,by omega⟩:Zp p) _ _ ((NewO.of k0).upd _) ⟨_,_,upd_same⟩ (.num _)
  ·refine iteN (fun z=>by simp at z) ?_
   obtain⟨T',M,al,hM,rfl,rfl,wd'⟩:=wd.snoc
   have ewl:(wv (ws'++[M.n])).length=ws'.length+1:=by unfold wv;simp
   have elast:(wv (ws'++[M.n]))[ws'.length]?=some (.int (M.n:Int)):=by unfold wv;simp
   have edrop:(wv (ws'++[M.n])).dropLast=wv ws':=by unfold wv;simp
   have hwne:wv (ws'++[M.n])≠[]:=fun z=>by rw[z] at ewl;simp at ewl
   have hw0:=k0 _ _ hw
   refine⟨_,rfl,_,rfl,wl,_,_,_,rfl,rfl,SqL.of hw0,atI_end ewl elast,_,rfl,by omega,by omega,fun D hD=>?_⟩
   rw[Int.toNat_natCast]
   have hDH:H D=none:=k0.free hD
   refine comp_range (fun i ys H2=>NewO H b H2∧Bag H2 b∧∃ c:Nat→T'.α,Cf H2 (Off H D) ys i fun j=>T'.enc (c j)) ⟨(NewO.of k0).free_upd hDH _,⟨g,r,?_⟩,fun _=>0,.nil⟩ ?_ ?_
   ·rw[upd_ne (ne_of_none (k0 _ _ hb) hD)];exact k0 _ _ hb
   ·rintro i m' ys H2 hm hi hy hlen ⟨gg,⟨g2,r2,hb2⟩,cc,cy⟩
    have hw2:=gg _ _ hne hw
    refine⟨_,rfl,_,rfl,_,rfl,_,rfl,_,rfl,wl,_,rfl,SqL.of hw2,fun l hl=>?_⟩
    have ecut:cutV (wv (ws'++[M.n])) none (some (-1))=wv ws':=by rw[cutV_last _ hwne,edrop]
    rw[show cutV (wv (ws'++[M.n])) none (some ((-1:Int)))=wv ws' from ecut]
    have kl:=same_new hl (.lst (wv ws'))
    refine⟨b,l,T',ws',rfl,⟨g2,r2,kl _ _ hb2⟩,upd_same,(ne_of_none hb2 hl).symm,wd',by rw[List.length_append] at hlw;simp at hlw;omega,by omega,fun x r3 H3 g3 hb3 rr3=>?_⟩
    have hDb:D≠b:=(ne_of_none hb hDH).symm
    have g2l:NewO H b (upd H2 l (.lst (wv ws'))):=gg.trans (NewO.of kl)
    have hb2l:∃ o,(upd H2 l (.lst (wv ws'))) b=some o:=⟨_,kl _ _ hb2⟩
    have okb:∀ a,Off H D a→a≠b:=fun a kk z=>by have k1:H a=none:=kk.1;rw[z,hb] at k1;cases k1
    refine CW.emit hm hi (by rw[sizeLine_eq];omega) (g3 _ _ hDb (kl _ _ hy)) hlen ⟨(g2l.trans g3).free_upd hDH _,?_,fun j=>if j=i then x else cc j,?_⟩
    ·obtain⟨g4,r4,e4⟩:=hb3
     exact⟨g4,r4,by rw[upd_ne (fun z=>hDb z.symm)];exact e4⟩
    ·refine (Cf.push ((((cy.same kl).newO g3 okb)).congr fun j hj=>by show T'.enc (cc j)=T'.enc (if j=i then x else cc j);rw[if_neg (by omega)]) ?_).upd
     show Rep H3 (Off H D) r3 (T'.enc (if i=i then x else cc i))
     rw[if_pos rfl]
     refine rr3.imp fun a o h kk=>⟨h,g2l.fresh hb2l kk,fun z=>?_⟩
     rw[z] at kk
     have:=kl _ _ hy
     rw[show (upd H2 l (.lst (wv ws'))) D=none from kk] at this
     cases this
   ·rintro ys H2 hy ⟨gg,hb2,cc,cy⟩
    let sx:Ser T'.α:=⟨fun i=>if i<M.n then cc i else 0⟩
    have dsx:Dg sx M.n:=fun i hi=>by show (if i<M.n then cc i else 0)=0;rw[if_neg (by omega)]
    refine q (⟨sx,dsx⟩:Qt M) _ H2 gg hb2 ?_
    refine (cy.newB.congr fun i hi=>?_).rep hy hDH
    show T'.enc (cc i)=T'.enc (if i<M.n then cc i else 0)
    rw[if_pos hi]
variable {CG CS CT:Addr}
def spPart (CG CS CT:Addr):Sp:=fun vs H Q _=>∃ (b a wl:Addr) (T:Twr) (ws:List Nat) (m:Nat),vs=[.ref b,.ref a,.ref wl,.int (m:Int)]∧Bag H b∧IsF CG CS CT (del H b) a T∧H wl=some (.lst (wv ws))∧wl≠b∧Wd T ws∧ws.length≤5∧1≤m∧m≤12∧
 ∀ (M:Md T.α) r H',AlM T M→M.n≤m→(ws=[]∨polE T (M.n+1) M.f≠polE T 2 X)→NewO H b H'→Bag H' b→Rep H' (NewB H) r (polE T (M.n+1) M.f)→Q r H'
theorem ok_q_part (B:Blt mg)(O:TwE P w K mg base 29 (IsF CG CS CT))(d_q_element:Dfn P w K mg base 8 "_law_element" ["_law_bag_here","_law_p","_law_wides"] (spElem K 7))(d_is_alone:Dfn P w K mg base 34 "is_alone" ["tower","f"] (spAlone (IsF CG CS CT)))(F:Src K mg "_law_part" s_q_part ["_law_bag_here","_law_tower_here","_law_wides","_law_many"]):Dfn P w K mg base 35 "_law_part" ["_law_bag_here","_law_tower_here","_law_wides","_law_many"] (spPart CG CS CT):=by
 refine F.ok sc_q_part (fun vs H Q E h=>?_) (fun fa cdv A outer s H vs Q E hr h=>?_)
 ·obtain⟨b,a,wl,T,ws,m,rfl,_⟩:=h;rfl
 obtain⟨b,a,wl,T,ws,m,rfl,hb,ja,hw,hne,wd,hl,m1,m2,q⟩:=h
 have hbd:=O.bd ja
 have jat:∀ {H2:Hp},NewO H b H2→IsF CG CS CT H2 a T:=fun g=>(ja.mono g.del).mono (del_same _ _)
 have okb:∀ c,NewB H c→c≠b:=fun c k z=>by obtain⟨g,r,e⟩:=hb;rw[z] at k;rw[show H b=none from k] at e;cases e
 have ewv:wv ws=(ws.map fun m:Nat=>(m:Int)).map V.int:=by unfold wv;rw[List.map_map];rfl
 refine⟨_,pss_cons (ps_for PassesOwn.never rfl (pi_range1 rfl B.«range» (pa_cons pe_int pa_nil)) (pg_name (i:=4) sc_q_part.nd rfl (Or.inl rfl))
   (pss_cons (ps_set (i:=5) sc_q_part.nd rfl (Or.inl rfl) (pe_op op_cat (pe_comp (compScope_mk (N:=["_law_k","_law_bag_here","_law_wides","_law_tower_here"]) (sl:=[none,some 0,some 2,some 1]) (defScope s_q_part) ["_law_bag_here","_law_tower_here","_law_wides","_law_many","_law_turn","_law_part_here"] rfl rfl (by decide +kernel)) rfl (pi_range1 rfl B.«range» (pa_cons (pv 3) pa_nil)) (fun _ _ _ _ _=>(pg_name (i:=0) (by show List.Nodup (["_law_k","_law_bag_here","_law_wides","_law_tower_here"]:List Str);decide +kernel) rfl (Or.inl rfl))) (fun _ _ _ _ _=>pif_none) (fun _ _ _ _ _=>(pe_def d_q_element hr (pa_cons (pv 1) (pa_cons (pe_fldK (K:=K) rfl (pv 3)) (pa_cons (pv 2) pa_nil))) (by first|decide|omega)))) (pe_lst (pa_cons (pe_mth0 O.one hr (pv 1) ) pa_nil))))
   (pss_one (ps_if (PW.pt (pw_and (pt_val (pe_def d_is_alone hr (pa_cons (pv 1) (pa_cons (pv 5) pa_nil)) (by first|decide|omega))) (pw_and1 (PW.pt (pw_or (pt_cmpR (opK_eqD (K:=K) rfl hr.units) (pv 2) (pe_lst pa_nil) (nomark _)) (pw_or1 (pt_cmpR (opK_neD (K:=K) rfl hr.units) (pv 5) (pe_lst (pa_cons (pe_mth0 O.zero hr (pv 1) ) (pa_cons (pe_mth0 O.one hr (pv 1) ) pa_nil))) (nomark _))))))))
    (pss_one (ps_ret (pv 5)))
    (pss_nil)))))
  (pss_one (ps_ret (pe_lst (pa_cons (pe_mth O.whole hr (pv 1) (pa_cons pe_int pa_nil)) (pa_cons (pe_mth0 O.one hr (pv 1) ) pa_nil))))),?_⟩
 refine⟨_,rfl,by decide,by decide,for_range (n:=3) (fun i σ H2=>NewO H b H2∧Bag H2 b∧∃ o1 o2,σ=[some (.ref b),some (.ref a),some (.ref wl),some (.int (m:Int)),o1,o2]) ⟨NewO.refl H b,hb,_,_,rfl⟩ ?_ ?_⟩
 ·rintro i σ H2 hi ⟨g2,hb2,o1,o2,rfl⟩
  refine⟨_,rfl,_,rfl,by omega,by omega,fun D hD=>?_⟩
  rw[Int.toNat_natCast]
  have hDH:H D=none:=g2.fresh (by obtain⟨g,r,e⟩:=hb2;exact⟨_,e⟩) hD
  have hDb:D≠b:=fun z=>by obtain⟨g,r,e⟩:=hb2;rw[z,e] at hD;cases hD
  refine comp_range (fun j ys H3=>NewO H b H3∧Bag H3 b∧∃ c:Nat→T.α,Cf H3 (Off H D) ys j fun j=>T.enc (c j)) ⟨g2.free_upd hDH _,?_,fun _=>0,.nil⟩ ?_ ?_
  ·obtain⟨g,r,e⟩:=hb2
   exact⟨g,r,by rw[upd_ne (fun z=>hDb z.symm)];exact e⟩
  ·rintro j m' ys H3 hm hj hy hlen ⟨g3,hb3,cc,cy⟩
   obtain⟨C,dx,fs,hins,hcl,hna,hlk⟩:=O.fld (jat g3)
   refine⟨_,rfl,_,rfl,a,C,dx,_,_,rfl,hins,hcl,hna,hlk,_,rfl,b,wl,T,ws,rfl,hb3,g3 _ _ hne hw,hne,wd,by omega,by decide,fun x r4 H4 g4 hb4 rr4=>?_⟩
   have hb3':∃ o,H3 b=some o:=by obtain⟨g,r,e⟩:=hb3;exact⟨_,e⟩
   have okD:∀ c,Off H D c→c≠b:=fun c kk=>okb c kk.1
   refine CW.emit hm hj (by rw[sizeLine_eq];omega) (g4 _ _ hDb hy) hlen ⟨(g3.trans g4).free_upd hDH _,?_,fun k=>if k=j then x else cc k,?_⟩
   ·obtain⟨g,r,e⟩:=hb4
    exact⟨g,r,by rw[upd_ne (fun z=>hDb z.symm)];exact e⟩
   ·refine (Cf.push ((cy.newO g4 okD).congr fun k hk=>by show T.enc (cc k)=T.enc (if k=j then x else cc k);rw[if_neg (by omega)]) ?_).upd
    show Rep H4 (Off H D) r4 (T.enc (if j=j then x else cc j))
    rw[if_pos rfl]
    refine rr4.imp fun c o h kk=>⟨h,g3.fresh hb3' kk,fun z=>?_⟩
    rw[z] at kk
    rw[show H3 D=none from kk] at hy
    cases hy
  ·rintro ys H3 hy ⟨g3,hb3,cc,cy⟩
   have j3:=jat g3
   refine⟨_,rfl,a,rfl,⟨T,j3⟩,fun _ h=>h,a,T,rfl,j3,fun r4 H4 g4 rr4=>?_⟩
   refine⟨len_ok rfl,fun l4 hl4=>?_⟩
   have k4:=same_new hl4 (.lst [r4])
   have g34:=g4.trans k4
   refine⟨D,l4,_,_,rfl,rfl,g34 _ _ hy,upd_same,by rw[cy.len,sizeLine_eq];show _+1≤_;omega,fun L hL=>?_⟩
   have kL:=same_new hL (.lst (ys++[r4]))
   have g3L:=g34.trans kL
   have gL:NewO H b (upd (upd H4 l4 (.lst [r4])) L (.lst (ys++[r4]))):=g3.trans (NewO.of g3L)
   have hb3':∃ o,H3 b=some o:=by obtain⟨g,r,e⟩:=hb3;exact⟨_,e⟩
   have hbL:Bag (upd (upd H4 l4 (.lst [r4])) L (.lst (ys++[r4]))) b:=by obtain⟨g,r,e⟩:=hb3;exact⟨g,r,g3L _ _ e⟩
   have hLH:H L=none:=g3.fresh hb3' (g34.free hL)
   have rL:Rep (upd (upd H4 l4 (.lst [r4])) L (.lst (ys++[r4]))) (NewB H) (.ref L) (polE T ((mdOf m m1 cc).n+1) (mdOf m m1 cc).f):=by
    have c1:Cf (upd (upd H4 l4 (.lst [r4])) L (.lst (ys++[r4]))) (NewB H) ys m fun i=>T.enc ((mdOf m m1 cc).f.c i):=((cy.imp fun c o h kk=>⟨g3L _ _ h,kk.1⟩)).congr fun i hi=>by
     show T.enc (cc i)=T.enc (if i<m then cc i else if i=m then 1 else 0)
     rw[if_pos hi]
    refine (c1.push (v:=r4) ?_).rep upd_same hLH
    show Rep _ _ _ (T.enc (if m<m then cc m else if m=m then 1 else 0))
    rw[if_neg (by omega),if_pos rfl]
    exact ((rr4.same k4).same kL).imp fun c o h kk=>⟨h,g3.fresh hb3' kk⟩
   generalize upd (upd H4 l4 (.lst [r4])) L (.lst (ys++[r4]))=HL at gL hbL rL
   have jL:=jat gL
   refine⟨_,rfl,_,rfl,a,T,.ref L,mdOf m m1 cc,rfl,jL,rL.any,m2,fun al H5 g5=>?_,fun al H5 g5=>?_⟩
   ·refine⟨_,rfl,iteT ?_⟩
    have gL5:=gL.trans (NewO.of (b:=b) g5)
    have hb5:Bag H5 b:=by obtain⟨g,r,e⟩:=hbL;exact⟨g,r,g5 _ _ e⟩
    refine⟨_,rfl,len_ok rfl,fun l6 hl6=>?_⟩
    have k6:=same_new hl6 (.lst [])
    have hw6:=k6 _ _ (gL5 _ _ hne hw)
    have gL6:=gL5.trans (NewO.of (b:=b) k6)
    have hb6:Bag (upd H5 l6 (.lst [])) b:=by obtain⟨g,r,e⟩:=hb5;exact⟨g,r,k6 _ _ e⟩
    have r6:=(rL.same g5).same k6
    refine eqL (xs:=ws.map fun m:Nat=>(m:Int)) (ys:=[]) (by rw[← ewv];exact SqL.of hw6) (SqL.of upd_same) ⟨_,rfl,?_⟩
    by_cases w0:ws=[]
    ·refine iteY (by rw[w0];rfl) (iteT ?_)
     exact⟨_,rfl,q (mdOf m m1 cc) _ _ al (Nat.le_refl _) (.inl w0) gL6 hb6 r6⟩
    ·refine iteN (fun z=>w0 (by simpa using z)) ?_
     have j6:=jat gL6
     refine⟨_,rfl,_,rfl,a,rfl,⟨T,j6⟩,fun _ h=>h,a,T,rfl,j6,fun r7 H7 g7 rr7=>?_⟩
     have j7:=O.mono g7 j6
     refine⟨_,rfl,a,rfl,⟨T,j7⟩,fun _ h=>h,a,T,rfl,j7,fun r8 H8 g8 rr8=>?_⟩
     refine⟨len_ok rfl,fun l9 hl9=>?_⟩
     have k9:=same_new hl9 (.lst [r7,r8])
     have rX:Rep (upd H8 l9 (.lst [r7,r8])) Any (.ref l9) (polE T 2 X):=by
      refine (Cf.push (n:=1) (Cf.push (n:=0) (e:=fun i=>T.enc ((X:Ser T.α).c i)) .nil ?_) ?_:Cf _ Any ([]++[r7]++[r8]) 2 _).rep upd_same trivial
      ·exact ((rr7.same g8).same k9).any
      ·exact (rr8.same k9).any
     have g69:=(g7.trans g8).trans k9
     have gL9:=gL6.trans (NewO.of (b:=b) g69)
     have hb9:Bag (upd H8 l9 (.lst [r7,r8])) b:=by obtain⟨g,r,e⟩:=hb6;exact⟨g,r,g69 _ _ e⟩
     refine neRep (r6.same g69) rX (fl_pol T (by show m+1≤100;omega) _) (fl_pol T (by omega) _) (by omega) (by omega) (fun z=>?_) (fun z=>?_)
     ·exact⟨_,rfl,iteF ⟨gL9,hb9,_,_,rfl⟩⟩
     ·exact⟨_,rfl,iteT ⟨_,rfl,q (mdOf m m1 cc) _ _ al (Nat.le_refl _) (.inr z) gL9 hb9 (r6.same g69)⟩⟩
   ·refine⟨_,rfl,iteF ?_⟩
    exact⟨gL.trans (NewO.of g5),by obtain⟨g,r,e⟩:=hbL;exact⟨g,r,g5 _ _ e⟩,_,_,rfl⟩
 ·rintro σ H2 ⟨g2,hb2,o1,o2,rfl⟩
  have j2:=jat g2
  refine⟨_,rfl,a,rfl,⟨T,j2⟩,fun _ h=>h,a,T,1,rfl,j2,fun r3 H3 g3 rr3=>?_⟩
  have j3:=O.mono g3 j2
  refine⟨_,rfl,a,rfl,⟨T,j3⟩,fun _ h=>h,a,T,rfl,j3,fun r4 H4 g4 rr4=>?_⟩
  refine⟨len_ok rfl,fun l hl=>?_⟩
  have kl:=same_new hl (.lst [r3,r4])
  have g24:=g3.trans g4
  have hb2':∃ o,H2 b=some o:=by obtain⟨g,r,e⟩:=hb2;exact⟨_,e⟩
  have nf:∀ c,NewB H2 c→NewB H c:=fun c k=>g2.fresh hb2' k
  refine q (mdOf 1 (by decide) fun _=>1) _ _ (.inl rfl) (by show 1≤m;omega) (.inr fun z=>?_) (g2.trans (NewO.of (g24.trans kl))) (by obtain⟨g,r,e⟩:=hb2;exact⟨g,r,(g24.trans kl) _ _ e⟩) ?_
  ·have e:=T.inj _ _ ((vecN_inj z).2 0 (by show 0<1+1;decide))
   exact T.fld.1 e
  ·rw[wh_one] at rr3
   refine (Cf.push (n:=1) (Cf.push (n:=0) (e:=fun i=>T.enc ((mdOf 1 (by decide) fun _=>(1:T.α)).f.c i)) .nil ?_) ?_:Cf _ (NewB H) ([]++[r3]++[r4]) 2 _).rep upd_same (nf _ (g24.free hl))
   ·exact ((rr3.same g4).same kl).imp fun c o h kk=>⟨h,nf c kk⟩
   ·exact ((rr4.older g3).same kl).imp fun c o h kk=>⟨h,nf c kk⟩
end
section
variable {P:Program} {w:World} {K:FrQ} {mg:Str→Option Value} {base:Heap} {CG CS CT:Addr} {k:Nat} {J:L2.Kind}
def MonD (T:Twr)(d:PyData):Prop:=∃ M:Md T.α,d=toD (polE T (M.n+1) M.f)
def spMonicAny (J:L2.Kind):Sp:=fun vs H Q _=>∃ (a:Addr) (T:Twr) (v:V) (d:PyData),vs=[.ref a,v]∧J H a T∧Dl H v d∧(MonD T d→∀ H',Same H H'→Q (.bl true) H')∧(¬ MonD T d→∀ H',Same H H'→Q (.bl false) H')
theorem monD_list {T:Twr}{d:PyData}(h:MonD T d):∃ ds,d=.list ds∧2≤ds.length∧∀ e∈ds,IsElD T e:=by
 obtain⟨M,rfl⟩:=h
 have:=M.pos
 refine⟨toDs ((List.range (M.n+1)).map fun i=>T.enc (M.f.c i)),rfl,?_,fun e he=>?_⟩
 ·rw[toDs_map,List.length_map,List.length_map,List.length_range];omega
 ·rw[toDs_map] at he
  obtain⟨y,hy,rfl⟩:=List.mem_map.mp he
  obtain⟨i,_,rfl⟩:=List.mem_map.mp hy
  exact⟨_,rfl⟩
theorem ok_is_monic_any (B:Blt mg)(O:TwE P w K mg base k J)(F:Src K mg "is_monic_over" s_is_monic_over ["top","thing"]):Dfn P w K mg base (k+1) "is_monic_over" ["top","thing"] (spMonicAny J):=by
 refine F.ok sc_is_monic_over (fun vs H Q E h=>?_) (fun fa cdv A outer s H vs Q E hr h=>?_)
 ·obtain⟨a,T,v,d,rfl,_⟩:=h;rfl
 obtain⟨a,T,v,d,rfl,ja,dv,qT,qF⟩:=h
 have hb:=O.bd ja
 refine⟨_,pss_cons (ps_if (PW.pt (pw_or (pt_not (pt_val (pe_callB (callK_isinst (K:=K) rfl) rfl B.«isinstance» bt_isinstance (pa_cons (pv 1) (pa_cons (pe_bltn (v:=.ty "list") rfl B.«list» bt_list rfl) pa_nil))))) (pw_or1 (pt_cmpR op_lt (pe_callB (callK_len (K:=K) rfl) rfl B.«len» bt_len (pa_cons (pv 1) pa_nil)) pe_int (nomark _)))))
   (pss_one (ps_ret pe_bl))
   (pss_nil))
  (pss_cons (ps_for PassesOwn.never rfl (piK_list (K:=K) rfl (pv 1)) (pg_name (i:=2) sc_is_monic_over.nd rfl (Or.inl rfl))
   (pss_one (ps_if (pt_not (pt_val (pe_mth O.is_element hr (pv 0) (pa_cons (pv 2) pa_nil))))
    (pss_one (ps_ret pe_bl))
    (pss_nil))))
  (pss_one (ps_ret (pe_cmpR (opK_eqD (K:=K) rfl hr.units) (pe_ix (ixK_list (K:=K) rfl) (pv 1) (pe_un un_neg pe_int) (fun _ _=>rfl)) (pe_mth0 O.one hr (pv 0) ) (nomark _))))),?_⟩
 have no:∀ (hd:∀ ds,d≠.list ds),∀ H',Same H H'→Q (.bl false) H':=fun hd=>qF fun z=>by obtain⟨ds,e,_⟩:=monD_list z;exact hd ds e
 cases dv with
 | non=>exact⟨_,rfl,_,"NoneType","list",false,rfl,.non,by with_unfolding_all rfl,_,rfl,iteT (no (fun ds z=>by cases z) _ (Same.refl _))⟩
 | bl b=>exact⟨_,rfl,_,"bool","list",false,rfl,.bl b,by with_unfolding_all rfl,_,rfl,iteT (no (fun ds z=>by cases z) _ (Same.refl _))⟩
 | int i=>exact⟨_,rfl,_,"int","list",false,rfl,.int i,by with_unfolding_all rfl,_,rfl,iteT (no (fun ds z=>by cases z) _ (Same.refl _))⟩
 | str x=>exact⟨_,rfl,_,"str","list",false,rfl,.str x,by with_unfolding_all rfl,_,rfl,iteT (no (fun ds z=>by cases z) _ (Same.refl _))⟩
 | @tup p xs ds hp hl it=>exact⟨_,rfl,_,"tuple","list",false,rfl,.tup (SqT.of hp),by with_unfolding_all rfl,_,rfl,iteT (no (fun ds z=>by cases z) _ (Same.refl _))⟩
 | @lst p xs ds hp hl it=>
  refine⟨_,rfl,_,"list","list",true,rfl,.lst (SqL.of hp),rfl,_,rfl,iteF ?_⟩
  refine⟨_,rfl,p,_,rfl,.inl (SqL.of hp),_,_,rfl,rfl,_,rfl,?_⟩
  by_cases h2:xs.length<2
  ·refine iteY (by omega) (qF (fun z=>?_) _ (Same.refl _))
   obtain⟨ds',e,h3,_⟩:=monD_list z
   cases e
   omega
  refine iteN (by omega) ?_
  refine⟨_,rfl,p,rfl,⟨_,SqL.of hp⟩,for_list (xs:=xs) (fun i σ H2=>Same H H2∧(∀ (j:Nat) e,j<i→ds[j]?=some e→IsElD T e)∧∃ o,σ=[some (.ref a),some (.ref p),o]) ⟨Same.refl H,fun j e hj=>absurd hj (Nat.not_lt_zero _),_,rfl⟩ (fun i σ H2 _ h=>SqL.of (h.1 _ _ hp)) ?_ ?_⟩
  ·rintro i x σ H2 hx ⟨g2,al,o,rfl⟩
   have hi:i<ds.length:=by rw[← hl];exact (List.getElem?_eq_some_iff.mp hx).1
   have di:=it i x ds[i] hx (List.getElem?_eq_getElem hi)
   refine⟨_,rfl,a,rfl,⟨T,O.mono g2 ja⟩,_,rfl,fun _ h=>h,a,T,x,ds[i],rfl,O.mono g2 ja,(di.same g2).den,fun y H3 g3=>⟨_,rfl,iteF ⟨g2.trans g3,fun j e hj he=>?_,_,rfl⟩⟩,fun z H3 g3=>⟨_,rfl,iteT (qF (fun m=>?_) _ (g2.trans g3))⟩⟩
   ·by_cases hji:j<i
    ·exact al j e hji he
    ·obtain rfl:j=i:=by omega
     rw[List.getElem?_eq_getElem hi] at he
     cases he
     exact y
   ·obtain⟨ds',e,_,h4⟩:=monD_list m
    cases e
    exact z (h4 _ (List.getElem_mem hi))
  ·rintro σ H2 ⟨g2,al,o,rfl⟩
   have hlast:xs.length - 1<ds.length:=by omega
   obtain⟨lv,hlv⟩:∃ lv,xs[xs.length - 1]?=some lv:=⟨_,List.getElem?_eq_getElem (by omega)⟩
   have dl:=it _ lv _ hlv (List.getElem?_eq_getElem hlast)
   obtain⟨y,hy⟩:=al _ _ (by omega) (List.getElem?_eq_getElem hlast)
   rw[hy] at dl
   have hall:∀ j:Nat,∃ c:T.α,j<ds.length→ds[j]?=some (toD (T.enc c)):=fun j=>by
    by_cases hj:j<ds.length
    ·obtain⟨c,hc⟩:=al j _ (by omega) (List.getElem?_eq_getElem hj)
     exact⟨c,fun _=>by rw[List.getElem?_eq_getElem hj,hc]⟩
    ·exact⟨0,fun z=>absurd z hj⟩
   refine⟨_,rfl,_,rfl,p,_,_,_,rfl,rfl,SqL.of (g2 _ _ hp),atI_end (n:=xs.length - 1) (by omega) hlv,?_⟩
   refine⟨_,rfl,a,rfl,⟨T,O.mono g2 ja⟩,fun _ h=>h,a,T,rfl,O.mono g2 ja,fun r1 H3 g3 rr1=>?_⟩
   refine eqDl (dl.same (g2.trans g3)).den rr1.den (T.fl _) (T.fl _) (by omega) (by omega) (fun e=>qT ?_ _ (g2.trans g3)) (fun e=>qF ?_ _ (g2.trans g3))
   ·refine⟨mdOf (ds.length - 1) (by omega) fun j=>(hall j).choose,?_⟩
    show PyData.list ds=.list (toDs ((List.range (ds.length - 1+1)).map fun i=>T.enc ((mdOf (ds.length - 1) (by omega) fun j=>(hall j).choose).f.c i)))
    rw[toDs_map,List.map_map,show ds.length - 1+1=ds.length by omega]
    congr 1
    refine List.ext_getElem? fun j=>?_
    rw[List.getElem?_map]
    by_cases hj:j<ds.length
    ·rw[List.getElem?_range hj]
     show ds[j]?=some (toD (T.enc (if j<ds.length - 1 then (hall j).choose else if j=ds.length - 1 then 1 else 0)))
     by_cases hj2:j<ds.length - 1
     ·rw[if_pos hj2];exact (hall j).choose_spec hj
     ·have ej:j=xs.length - 1:=by omega
      rw[if_neg hj2,if_pos (by omega),ej,List.getElem?_eq_getElem hlast,hy,e]
    ·rw[List.getElem?_eq_none (by omega),List.getElem?_eq_none (by rw[List.length_range];omega)]
     rfl
   ·rintro⟨M,hM⟩
    have hM:PyData.list ds=.list (toDs ((List.range (M.n+1)).map fun i=>T.enc (M.f.c i))):=hM
    injection hM with hM
    rw[toDs_map,List.map_map] at hM
    subst hM
    have ln:xs.length - 1=M.n:=by rw[hl,List.length_map,List.length_range];rfl
    have z:toD (T.enc (M.f.c (xs.length - 1)))=toD (T.enc y):=by
     rw[← hy,List.getElem_map,List.getElem_range]
     rfl
    rw[ln,M.mon.top] at z
    exact e (toD_inj z).symm
def lenD:PyData→Nat
 | .list ds=>ds.length
 | _=>0
def NextD (T:Twr)(d:PyData)(M:Md T.α):Prop:=d=toD (polE T (M.n+1) M.f)∧T.d*M.n≤12∧AlM T M
def spNextAny (J:L2.Kind):Sp:=fun vs H Q _=>∃ (a:Addr) (T:Twr) (v:V) (d:PyData),vs=[.ref a,v]∧J H a T∧Dl H v d∧lenD d≤1000∧(∀ M,NextD T d M→∀ H',Same H H'→Q (.bl true) H')∧((¬ ∃ M,NextD T d M)→∀ H',Same H H'→Q (.bl false) H')
theorem ok_is_next_any (B:Blt mg)(O:TwE P w K mg base k J){t1:Tok}(m_MOST_DEGREE:mg "MOST_DEGREE"=some (.int 12 t1))(d_is_monic_over:Dfn P w K mg base (k+1) "is_monic_over" ["top","thing"] (spMonicAny J))(d_is_alone:Dfn P w K mg base (k+5) "is_alone" ["tower","f"] (spAlone J))(F:Src K mg "is_next_part" s_is_next_part ["top","thing"]):Dfn P w K mg base (k+6) "is_next_part" ["top","thing"] (spNextAny J):=by
 refine F.ok sc_is_next_part (fun vs H Q E h=>?_) (fun fa cdv A outer s H vs Q E hr h=>?_)
 ·obtain⟨a,T,v,d,rfl,_⟩:=h;rfl
 obtain⟨a,T,v,d,rfl,ja,dv,hlen,qT,qF⟩:=h
 have hb:=O.bd ja
 have d1:=O.d1 ja
 refine⟨_,pss_cons (ps_if (PW.pt (pw_or (pt_not (pt_val (pe_def d_is_monic_over hr (pa_cons (pv 0) (pa_cons (pv 1) pa_nil)) (by first|decide|omega)))) (pw_or1 (pt_cmpR op_gt (pe_op op_mulO (pe_mth0 O.degree hr (pv 0) ) (pe_op op_sub (pe_callB (callK_len (K:=K) rfl) rfl B.«len» bt_len (pa_cons (pv 1) pa_nil)) pe_int)) (pe_glob (v:=.int 12) rfl m_MOST_DEGREE ⟨_,rfl⟩) (nomark _)))))
   (pss_one (ps_ret pe_bl))
   (pss_nil))
  (pss_one (ps_ret (pe_def d_is_alone hr (pa_cons (pv 0) (pa_cons (pv 1) pa_nil)) (by first|decide|omega)))),?_⟩
 refine⟨_,rfl,_,rfl,a,T,v,d,rfl,ja,dv,fun mon H1 g1=>?_,fun nm H1 g1=>?_⟩
 ·obtain⟨M,rfl⟩:=mon
  have np:=M.pos
  have ru:=dl_rep dv rfl
  obtain⟨p,vs,rfl,hp,_,C⟩:=id ru.cf
  refine⟨_,rfl,iteF ?_⟩
  refine⟨_,rfl,a,rfl,⟨T,O.mono g1 ja⟩,fun _ h=>h,a,T,rfl,O.mono g1 ja,fun H2 g2=>?_⟩
  have g12:=g1.trans g2
  have hn:M.n+1≤1000:=by
   have:lenD (toD (polE T (M.n+1) M.f))=M.n+1:=by
    show (toDs _).length=_
    rw[toDs_map,List.length_map,List.length_map,List.length_range]
   omega
  refine⟨_,rfl,p,_,rfl,.inl (SqL.of (g12 _ _ hp)),_,_,rfl,rfl,_,_,rfl,rfl,?_,_,_,rfl,rfl,_,rfl,?_⟩
  ·rw[C.len]
   exact mulOkL (by omega) (by omega)
  rw[C.len]
  have em:(T.d:Int)*(((M.n+1:Nat):Int) - 1)=((T.d*M.n:Nat):Int):=by
   rw[Int.natCast_mul,show ((M.n+1:Nat):Int) - 1=(M.n:Int) by omega]
  by_cases hd:T.d*M.n≤12
  ·refine iteN (by rw[em];omega) ?_
   have hM:M.n≤12:=by
    have:1*M.n≤T.d*M.n:=Nat.mul_le_mul_right _ d1
    omega
   refine⟨_,rfl,_,rfl,a,T,.ref p,M,rfl,O.mono g12 ja,ru.same g12,hM,fun al H3 g3=>qT M ⟨rfl,hd,al⟩ H3 (g12.trans g3),fun z H3 g3=>qF ?_ H3 (g12.trans g3)⟩
   rintro⟨M',e,_,al⟩
   exact z (by rw[md_eq (toD_inj e)];exact al)
  ·refine iteY (by rw[em];omega) (qF ?_ _ g12)
   rintro⟨M',e,hd',_⟩
   rw[← md_eq (toD_inj e)] at hd'
   exact hd hd'
 ·refine⟨_,rfl,iteT (qF ?_ _ g1)⟩
  rintro⟨M',e,_⟩
  exact nm ⟨M',e⟩
abbrev bmV:List Value:=[.type "ValueError",.type "Exception",.type "BaseException",.type "object"]
def Rz (CN:Addr)(H:Hp)(E:XK):Prop:=∀ (ea:Addr) (H':Hp),Same H H'→E (.ref ea) (some CN) H'
theorem Rz.on {CN:Addr}{H H':Hp}{E:XK}(r:Rz CN H E)(g:Same H H'):Rz CN H' E:=fun ea H2 g2=>r ea H2 (g.trans g2)
theorem up_split:∀ {l1 l2:List El} {i:Nat} {T T':Twr},Up i (l1++l2) T T'→∃ Ti,Up i l1 T Ti∧Up (i+l1.length) l2 Ti T'
 | [],l2,i,T,T',h=>⟨T,.nil,h⟩
 | e::l1,l2,i,T,T',h=>by
  have h:Up i (e::(l1++l2)) T T':=h
  cases h with
  | @cons _ _ _ M _ al hn hd hl u=>
   obtain⟨Ti,a,b⟩:=up_split u
   exact⟨Ti,.cons al hn hd hl a,by rw[List.length_cons,← Nat.add_assoc,Nat.add_right_comm];exact b⟩
theorem up_inv {i:Nat}{e:El}{ps:List El}{T T':Twr}(h:Up i (e::ps) T T'):∃ (M:Md T.α) (al:AlM T M) (hn:M.n≤100),e=polE T (M.n+1) M.f∧T.d*M.n≤12∧(i=0∨polE T (M.n+1) M.f≠polE T 2 X)∧Up (i+1) ps (T.up M al.alone hn) T':=by
 cases h with
 | @cons _ _ _ M _ al hn hd hl u=>exact⟨M,al,hn,rfl,hd,hl,u⟩
def PartsD {p:Nat}(hp:p∈PR)(d:PyData)(ps:List El)(T:Twr):Prop:=d=toD (.vec ps)∧ps.length≤5∧Up 0 ps (ground p hp) T
theorem PartsD.list {p:Nat}{hp:p∈PR}{d:PyData}{ps:List El}{T:Twr}(h:PartsD hp d ps T):d=.list (ps.map toD):=by rw[h.1];show PyData.list (toDs ps)=_;rw[toDs_map]
def spTopAny (CG CS CN:Addr):Sp:=fun vs H Q E=>∃ (p:Nat) (hp:p∈PR) (v:V) (d:PyData),vs=[.int (p:Int),v]∧Dl H v d∧lenD d≤1000∧(∀ ds,d=.list ds→∀ e∈ds,lenD e≤1000)∧
 (∀ ps T,PartsD hp d ps T→∀ b H',Same H H'→IsT CG CS ps.length (nw H H') b T→Topped CG CS hp (nw H H') b T ps→Q (.ref b) H')∧((¬ ∃ ps T,PartsD hp d ps T)→Rz CN H E)
theorem ok_top_any {C_NoTower:Addr}(m_NoTower:mg "NoTower"=some (.ref C_NoTower))(q_NoTower:PySem.W.excIn K C_NoTower bmV "ValueError.__new__"=true)(B:Blt mg)(hk8:8≤k)(O:TwE P w K mg base k (IsTU CG CS)){t1:Tok}(m_MOST_PARTS:mg "MOST_PARTS"=some (.int 5 t1))(mk_Ground:Maker P w K mg base 1 "Ground" CG ["self","p"] (spInitG CG))(mk_Storey:Maker P w K mg base 9 "Storey" CS ["self","floor","part"] (fun vs H Q E=>∃ i:Ix,spInitS CG CS i.1 vs H Q E))(d_is_next_part:Dfn P w K mg base (k+6) "is_next_part" ["top","thing"] (spNextAny (IsTU CG CS)))(d_letter_of:Dfn P w K mg base (k+1) "letter_of" ["tower"] (spLetterOf (IsTU CG CS)))(F:Src K mg "top_of_any" s_top_of_any ["p","parts"]):DfnE P w K mg base (k+7) "top_of_any" ["p","parts"] (spTopAny CG CS C_NoTower):=by
 refine F.okE sc_top_of_any (fun vs H Q E h=>?_) (fun fa cdv A outer s H vs Q E hr h=>?_)
 ·obtain⟨p,hp,v,d,rfl,_⟩:=h;rfl
 obtain⟨p,hp,v,d,rfl,dv,hlen,hel,qT,qF⟩:=h
 refine⟨_,pss_cons (ps_if (PW.pt (pw_or (pt_not (pt_val (pe_callB (callK_isinst (K:=K) rfl) rfl B.«isinstance» bt_isinstance (pa_cons (pv 1) (pa_cons (pe_bltn (v:=.ty "list") rfl B.«list» bt_list rfl) pa_nil))))) (pw_or1 (pt_cmpR op_gt (pe_callB (callK_len (K:=K) rfl) rfl B.«len» bt_len (pa_cons (pv 1) pa_nil)) (pe_glob (v:=.int 5) rfl m_MOST_PARTS ⟨_,rfl⟩) (nomark _)))))
   (pss_one (ps_raise raises_e rfl rfl m_NoTower q_NoTower PySem.F.excBase_ValueError rfl PySem.F.excBase_ValueError (pa_cons pe_str pa_nil)))
   (pss_nil))
  (pss_cons (ps_set (i:=2) sc_top_of_any.nd rfl (Or.inl rfl) (pe_mkr mk_Ground hr (pa_cons (pv 0) pa_nil)))
  (pss_cons (ps_for own_e rfl (piK_enum (K:=K) rfl rfl B.«enumerate» (pa_cons (pv 1) pa_nil)) (pgK_tup (n:=2) (K:=K) rfl rfl (pgs_cons (pg_name (i:=3) sc_top_of_any.nd rfl (Or.inl rfl)) (pgs_cons (pg_name (i:=4) sc_top_of_any.nd rfl (Or.inl rfl)) pgs_nil)))
   (pss_cons (ps_if (PW.pt (pw_or (pt_not (pt_val (pe_def d_is_next_part hr (pa_cons (pv 2) (pa_cons (pv 4) pa_nil)) (by first|decide|omega)))) (pw_or1 (PW.pt (pw_and (pt_cmpR op_gt (pv 3) pe_int (nomark _)) (pw_and1 (pt_cmpR (opK_eqD (K:=K) rfl hr.units) (pv 4) (pe_def d_letter_of hr (pa_cons (pv 2) pa_nil) (by first|decide|omega)) (nomark _))))))))
    (pss_one (ps_raise raises_e rfl rfl m_NoTower q_NoTower PySem.F.excBase_ValueError rfl PySem.F.excBase_ValueError (pa_cons pe_str pa_nil)))
    (pss_nil))
   (pss_one (ps_set (i:=2) sc_top_of_any.nd rfl (Or.inl rfl) (pe_mkr mk_Storey hr (pa_cons (pv 2) (pa_cons (pv 4) pa_nil)))))))
  (pss_one (ps_ret (pv 2))))),?_⟩
 have no:∀ (hd:∀ ds,d≠.list ds),Rz C_NoTower H E:=fun hd=>qF fun ⟨ps,T,z⟩=>hd _ z.list
 cases dv with
 | non=>exact⟨_,rfl,_,"NoneType","list",false,rfl,.non,by with_unfolding_all rfl,_,rfl,iteT ⟨by rw[sizeLine_eq];decide,fun ea _=>no (fun ds z=>by cases z) ea _ (Same.refl _)⟩⟩
 | bl b=>exact⟨_,rfl,_,"bool","list",false,rfl,.bl b,by with_unfolding_all rfl,_,rfl,iteT ⟨by rw[sizeLine_eq];decide,fun ea _=>no (fun ds z=>by cases z) ea _ (Same.refl _)⟩⟩
 | int i=>exact⟨_,rfl,_,"int","list",false,rfl,.int i,by with_unfolding_all rfl,_,rfl,iteT ⟨by rw[sizeLine_eq];decide,fun ea _=>no (fun ds z=>by cases z) ea _ (Same.refl _)⟩⟩
 | str x=>exact⟨_,rfl,_,"str","list",false,rfl,.str x,by with_unfolding_all rfl,_,rfl,iteT ⟨by rw[sizeLine_eq];decide,fun ea _=>no (fun ds z=>by cases z) ea _ (Same.refl _)⟩⟩
 | @tup a xs ds hp' hl it=>exact⟨_,rfl,_,"tuple","list",false,rfl,.tup (SqT.of hp'),by with_unfolding_all rfl,_,rfl,iteT ⟨by rw[sizeLine_eq];decide,fun ea _=>no (fun ds z=>by cases z) ea _ (Same.refl _)⟩⟩
 | @lst pl xs ds hpl hl it=>
  have hel:=hel ds rfl
  refine⟨_,rfl,_,"list","list",true,rfl,.lst (SqL.of hpl),rfl,_,rfl,iteF ?_⟩
  refine⟨_,rfl,pl,_,rfl,.inl (SqL.of hpl),_,_,rfl,rfl,_,rfl,?_⟩
  by_cases h5:xs.length≤5
  case neg=>
   refine iteY (by omega) ⟨by rw[sizeLine_eq];decide,fun ea _=>qF ?_ ea _ (Same.refl _)⟩
   rintro⟨ps,T,z⟩
   have e:=z.list
   injection e with e
   have:=z.2.1
   rw[e,List.length_map] at hl
   omega
  refine iteN (by omega) ?_
  refine⟨_,rfl,fun x dx nx ndx hne=>?_⟩
  refine⟨x,dx,p,rfl,upd_same,rfl,?_⟩
  have g1:Same H (upd (upd (upd H dx (.own x)) x (.ins CG dx [])) x (.ins CG dx (grf p))):=((same_new ndx _).free_upd nx _).free_upd nx _
  refine⟨_,rfl,pl,rfl,⟨_,SqL.of (g1 _ _ hpl)⟩,for_enum (st:=0) (xs:=xs) (fun i σ H2=>Same H H2∧∃ (o1 o2:Option V) (b:Addr) (Ti:Twr) (qs:List El),σ=[some (.int (p:Int)),some (.ref pl),some (.ref b),o1,o2]∧qs.length=i∧ds.take i=qs.map toD∧IsT CG CS i (nw H H2) b Ti∧Up 0 qs (ground p hp) Ti∧Topped CG CS hp (nw H H2) b Ti qs)
   ⟨g1,_,_,x,ground p hp,[],rfl,rfl,rfl,(.gr hp (by rw[nw_of nx];exact upd_same)),.nil,(fun ps' e z=>by simp at z)⟩ (fun i σ H2 _ h=>SqL.of (h.1 _ _ hpl)) ?_ ?_⟩
  ·rintro i v σ H2 r hv ⟨gg,o1,o2,b,Ti,qs,rfl,lq,etk,jb,hlo,htp⟩ hr'
   have hi:i<xs.length:=(List.getElem?_eq_some_iff.mp hv).1
   have hid:i<ds.length:=by omega
   have gr:=same_new hr' (.tup [.int ((0+i:Nat):Int),v])
   have g3:=gg.trans gr
   have j3:=(jb.mono (nw_same H H2)).mono gr
   have di:=it i v ds[i] hv (List.getElem?_eq_getElem hid)
   have ju:IsTU CG CS (upd H2 r (.tup [.int ((0+i:Nat):Int),v])) b Ti:=⟨i,by omega,j3⟩
   have hb:=O.bd ju
   have d1:=O.d1 ju
   have inv:∀ ps T,PartsD hp (.list ds) ps T→∃ M:Md Ti.α,NextD Ti ds[i] M∧(i=0∨polE Ti (M.n+1) M.f≠polE Ti 2 X):=fun ps T z=>by
    have e:=z.list
    injection e with e
    have hip:i<ps.length:=by rw[e,List.length_map] at hid;exact hid
    have esp:ps.take i++ps[i]::ps.drop (i+1)=ps:=by rw[← List.drop_eq_getElem_cons hip,List.take_append_drop]
    have eq1:ps.take i=qs:=by
     have:(ps.take i).map toD=qs.map toD:=by rw[← etk,e,List.map_take]
     exact (List.map_inj_right fun x y h=>toD_inj h).mp this
    have up:=z.2.2
    rw[← esp,eq1] at up
    obtain⟨Tm,u1,u2⟩:=up_split up
    obtain rfl:=u1.uniq hlo
    obtain⟨M,al,hn,e1,hd,hlt,_⟩:=up_inv u2
    refine⟨M,⟨?_,hd,al⟩,hlt.imp (fun z=>by omega) id⟩
    have:ds[i]=toD ps[i]:=by
     have:ds[i]?=(ps.map toD)[i]?:=by rw[e]
     rw[List.getElem?_eq_getElem hid,List.getElem?_map,List.getElem?_eq_getElem hip] at this
     exact Option.some.inj this
    rw[this,e1]
   refine⟨r,_,rfl,SqT.of upd_same,rfl,_,_,rfl,_,_,rfl,rfl,?_⟩
   refine⟨_,rfl,_,rfl,b,Ti,v,ds[i],rfl,ju,di.same g3,hel _ (List.getElem_mem hid),fun M hM H4 g4=>?_,fun nn H4 g4=>?_⟩
   case refine_2=>
    refine⟨_,rfl,iteT ⟨by rw[sizeLine_eq];decide,fun ea _=>qF ?_ ea _ (g3.trans g4)⟩⟩
    rintro⟨ps,T,z⟩
    obtain⟨M,hM,_⟩:=inv ps T z
    exact nn ⟨M,hM⟩
   refine⟨_,rfl,iteF ?_⟩
   have g14:=g3.trans g4
   have rv3:=dl_rep (di.same g3) hM.1
   have hA:((0+i:Nat):Int)=(i:Int):=by omega
   have hMn:M.n≤12:=by
    have:1*M.n≤Ti.d*M.n:=Nat.mul_le_mul_right _ d1
    have:=hM.2.1
    omega
   have hn:M.n≤100:=by omega
   apply merge (M:=fun σ HM=>Same H4 HM∧(i=0∨polE Ti (M.n+1) M.f≠polE Ti 2 X)∧σ=[some (.int (p:Int)),some (.ref pl),some (.ref b),some (.int ((0+i:Nat):Int)),some v])
   case h1=>
    intro key
    refine⟨_,rfl,_,_,rfl,rfl,_,rfl,?_⟩
    by_cases i0:i=0
    ·refine iteN (by rw[hA];omega) (iteF (key _ _ ⟨Same.refl _,.inl i0,rfl⟩))
    ·refine iteY (by rw[hA];omega) ?_
     have ju4:IsTU CG CS H4 b Ti:=⟨i,by omega,j3.mono g4⟩
     refine⟨_,rfl,_,rfl,b,Ti,rfl,ju4,fun r5 H5 g5 rr5=>?_⟩
     refine eqRep (rv3.same (g4.trans g5)) rr5 (fl_pol Ti (by omega) _) (fl_pol Ti (by omega) _) (by omega) (by omega) (fun z=>?_) (fun z=>?_)
     ·refine⟨_,rfl,iteT ⟨by rw[sizeLine_eq];decide,fun ea _=>qF ?_ ea _ (g14.trans g5)⟩⟩
      rintro⟨ps,T,zz⟩
      obtain⟨M',hM',hl'⟩:=inv ps T zz
      rw[← md_eq (toD_inj (hM.1.symm.trans hM'.1))] at hl'
      exact hl'.elim i0 fun y=>y z
     ·exact⟨_,rfl,iteF (key _ _ ⟨g5,.inr z,rfl⟩)⟩
   case h2=>
    rintro σ HM ⟨gm,hlt,rfl⟩
    refine⟨_,rfl,_,rfl,fun x' dx' nx' ndx' hne'=>?_⟩
    have g1M:=g14.trans gm
    have g2M:=(gr.trans g4).trans gm
    refine⟨⟨i,by omega⟩,x',dx',b,v,Ti,M,HM,rfl,upd_same,(same_new ndx' _).free_upd nx' _,nx',(jb.mono (nw_same H H2)).mono g2M,rv3.same (g4.trans gm),hMn,fun qq H5 g5 e5 r5=>⟨rfl,?_⟩⟩
    have est:StAt CG CS i (nw H H5) x' b qq dx' Ti M:=⟨by rw[nw_of (g1M.free nx')];exact e5,jb.mono (nw_mono (g2M.trans g5)),(r5.older g1M).nw,hM.2.1⟩
    refine⟨g1M.trans g5,_,_,x',Ti.up M hM.2.2.alone hn,qs++[polE Ti (M.n+1) M.f],rfl,by rw[List.length_append,lq];rfl,?_,est.isT hM.2.2.alone hn,hlo.snoc hM.2.2 hn hM.2.1 (hlt.imp (fun z=>by omega) id),?_⟩
    ·rw[List.take_succ_eq_append_getElem hid,etk,List.map_append,hM.1];rfl
    ·intro ps' e' z
     obtain⟨z1,z2⟩:=List.append_inj' z rfl
     obtain rfl:polE Ti (M.n+1) M.f=e':=by simpa using z2
     subst z1
     exact⟨b,qq,dx',Ti,M,hM.2.2,hn,rfl,by rw[lq];exact est,hlo,rfl⟩
  ·rintro σ H2 ⟨gg,o1,o2,b,Ti,qs,rfl,lq,etk,jb,hlo,htp⟩
   rw[← lq] at jb
   refine⟨_,rfl,qT qs Ti ⟨?_,by omega,hlo⟩ b H2 gg jb htp⟩
   show PyData.list ds=.list (toDs qs)
   rw[toDs_map,← etk,List.take_of_length_le (by omega)]
def IsFq (CG CS CT:Addr)(ok:Addr→Prop)(ps:List El):L2.Kind:=fun H a T=>∃ (dx b:Addr) (v1 v2:V),H a=some (.ins CT dx (twf b T.p v1 v2))∧¬ ok a∧(∀ c,ok c→∃ o,H c=some o)∧Rep H ok v1 (.vec ps)∧∃ n,n≤5∧IsT CG CS n (rs H fun c=>¬ ok c) b T
theorem IsFq.mono {ok:Addr→Prop}{ps:List El}{H H':Hp}{a:Addr}{T:Twr}(h:IsFq CG CS CT ok ps H a T)(g:Same H H'):IsFq CG CS CT ok ps H' a T:=by
 obtain⟨dx,b,v1,v2,h1,h2,h3,h4,n,hn,h5⟩:=h
 exact⟨dx,b,v1,v2,g _ _ h1,h2,fun c hc=>let ⟨o,e⟩:=h3 c hc;⟨o,g _ _ e⟩,h4.same g,n,hn,h5.mono (rs_mono (fun c o _ e=>g _ _ e) fun c o k _=>k)⟩
theorem IsFq.isF {ok:Addr→Prop}{ps:List El}{H:Hp}{a:Addr}{T:Twr}(h:IsFq CG CS CT ok ps H a T):IsF CG CS CT H a T:=by
 obtain⟨dx,b,v1,v2,h1,h2,h3,h4,n,hn,h5⟩:=h
 exact⟨dx,b,v1,v2,h1,n,hn,h5.mono (rs_same _ _)⟩
def spPrimeAny:Sp:=fun vs H Q _=>∃ (v:V) (d:PyData),vs=[v]∧Dl H v d∧(∀ p∈PR,d=.int ((p:Nat):Int)→∀ H',Same H H'→Q (.bl true) H')∧((∀ p∈PR,d≠.int ((p:Nat):Int))→∀ H',Same H H'→Q (.bl false) H')
theorem ok_is_prime_any {x_PRIMES:Addr}(B:Blt mg)(m_PRIMES:mg "PRIMES"=some (.ref x_PRIMES))(hP:∀ H,SqT K H x_PRIMES (PR.map fun p:Nat=>V.int (p:Int)))(d_is_whole:Dfn P w K mg base 1 "is_whole" ["thing"] (L2.spIsWhole K))(F:Src K mg "is_prime" s_is_prime ["k"]):Dfn P w K mg base 2 "is_prime" ["k"] spPrimeAny:=by
 refine F.ok sc_is_prime (fun vs H Q E h=>?_) (fun f cdv A outer s H vs Q E hr h=>?_)
 ·obtain⟨v,d,rfl,_⟩:=h;rfl
 obtain⟨v,d,rfl,dv,qT,qF⟩:=h
 refine⟨_,pss_one (ps_ret (pe_and (pe_def d_is_whole hr (pa_cons (pv 0) pa_nil) (by first | decide | omega)) (pe_one (pe_cmpR (opK_in (K:=K) rfl) (pv 0) (pe_glob (v:=.ref x_PRIMES) rfl m_PRIMES rfl) (by with_unfolding_all rfl))))),?_⟩
 refine⟨_,rfl,v,d,rfl,dv.den,fun z=>?_,fun z=>⟨_,rfl,iteF (qF (fun p _ e=>z ⟨_,e⟩) _ (Same.refl _))⟩⟩
 obtain⟨i,rfl⟩:=z
 cases dv
 refine⟨_,rfl,iteT ?_⟩
 refine⟨_,rfl,x_PRIMES,_,rfl,.inr (hP H),rfl,by decide,?_⟩
 show Q (V.bl (inV (V.int i) (PR.map fun p:Nat=>V.int (p:Int)))) H
 by_cases hi:∃ p∈PR,i=((p:Nat):Int)
 ·obtain⟨p,hp,rfl⟩:=hi
  have e:∀ p∈PR,inV (V.int (p:Int)) (PR.map fun p:Nat=>V.int (p:Int))=true:=by decide
  rw[e p hp]
  exact qT p hp rfl _ (Same.refl _)
 ·have e:inV (V.int i) (PR.map fun p:Nat=>V.int (p:Int))=false:=by
   cases h:inV (V.int i) (PR.map fun p:Nat=>V.int (p:Int)) with
   | false=>rfl
   | true=>
    exfalso
    obtain⟨y,hy,he⟩:=List.any_eq_true.mp h
    obtain⟨p,hp,rfl⟩:=List.mem_map.mp hy
    exact hi ⟨p,hp,(of_decide_eq_true he).symm⟩
  rw[e]
  exact qF (fun p hp z=>hi ⟨p,hp,by injection z⟩) _ (Same.refl _)
def spInitAny (CG CS CT CP CN:Addr):Sp:=fun vs H Q E=>∃ (x dx:Addr) (vp:V) (dp:PyData) (v:V) (d:PyData) (H0:Hp),vs=[.ref x,vp,v]∧H x=some (.ins CT dx [])∧Same H0 H∧H0 x=none∧Dl H0 vp dp∧Dl H0 v d∧lenD d≤1000∧(∀ ds,d=.list ds→∀ e∈ds,lenD e≤1000)∧
 ((∀ p∈PR,dp≠.int ((p:Nat):Int))→Rz CP H0 E)∧(∀ (p:Nat) (hp:p∈PR),dp=.int (p:Int)→(¬ ∃ ps T,PartsD hp d ps T)→Rz CN H0 E)∧
 (∀ (p:Nat) (hp:p∈PR),dp=.int (p:Int)→∀ ps T,PartsD hp d ps T→∀ (b:Addr) (v1 v2:V) H',Same H0 H'→H' x=some (.ins CT dx (twf b p v1 v2))→∀ ok:Addr→Prop,(∀ c,ok c→H0 c=none)→IsFq CG CS CT ok ps (nw H0 H') x T→Q .non H')
theorem ok_Tower_any {C_NoTower C_NoPrime:Addr}(m_NoPrime:mg "NoPrime"=some (.ref C_NoPrime))(q_NoPrime:PySem.W.excIn K C_NoPrime bmV "ValueError.__new__"=true)(B:Blt mg)(c:ClT K CT)(hk:8≤k)(d_is_prime:Dfn P w K mg base 2 "is_prime" ["k"] spPrimeAny)(d_copied:Dfn P w K mg base 8 "copied" ["thing"] (spCopied 8))(d_top_of_any:DfnE P w K mg base k "top_of_any" ["p","parts"] (spTopAny CG CS C_NoTower)){f:Addr}{fd:FuncData}(F:Fun K "__init__" "Tower.__init__" s_Tower_init f fd):FnOk P w K mg base (CXe P w) (k+1) f fd ["self","p","parts"] (spInitAny CG CS CT C_NoPrime C_NoTower):=by
 refine F.okE sc_Tower_init (fun vs H Q E h=>?_) (fun cdv A outer s H vs Q E hr h=>?_)
 ·obtain⟨x,dx,vp,dp,v,d,H0,rfl,_⟩:=h;rfl
 obtain⟨x,dx,vp,dp,v,d,H0,rfl,hx,g0,nx,dvp,dv,hlen,hel,qP,qN,q⟩:=h
 refine⟨_,pss_cons (ps_if (pt_not (pt_val (pe_def d_is_prime hr (pa_cons (pv 1) pa_nil) (by first|decide|omega))))
   (pss_one (ps_raise raises_e rfl rfl m_NoPrime q_NoPrime PySem.F.excBase_ValueError rfl PySem.F.excBase_ValueError (pa_cons pe_str pa_nil)))
   (pss_nil))
  (pss_cons (ps_fld (pv 0) (pe_defE d_top_of_any pass_e hr (pa_cons (pv 1) (pa_cons (pv 2) pa_nil)) (by first|decide|omega)) rfl)
  (pss_cons (ps_fld (pv 0) (pv 1) rfl)
  (pss_cons (ps_fld (pv 0) (pe_def d_copied hr (pa_cons (pv 2) pa_nil) (by first|decide|omega)) rfl)
  (pss_one (ps_fld (pv 0) (pe_def d_copied hr (pa_cons (pv 2) pa_nil) (by first|decide|omega)) rfl))))),?_⟩
 by_cases hpr:∃ p∈PR,dp=.int ((p:Nat):Int)
 case neg=>
  refine⟨_,rfl,vp,dp,rfl,dvp.same g0,fun p hp e=>absurd ⟨p,hp,e⟩ hpr,fun _ H1 g1=>⟨_,rfl,iteT ⟨by rw[sizeLine_eq];decide,fun ea _=>qP (fun p hp e=>hpr ⟨p,hp,e⟩) ea _ (g0.trans g1)⟩⟩⟩
 obtain⟨p,hp,rfl⟩:=hpr
 cases dvp
 refine⟨_,rfl,_,_,rfl,.int _,fun p' hp' e' H1 g1=>⟨_,rfl,iteF ?_⟩,fun z=>absurd rfl (z p hp)⟩
 have g01:=g0.trans g1
 have hx1:=g1 _ _ hx
 refine⟨_,rfl,_,rfl,p,hp,v,d,rfl,dv.same g01,hlen,hel,fun ps T pd b H2 g2 jb tb=>?_,fun z=>(qN p hp rfl z).on g01⟩
 have rv:Rep H0 Any v (.vec ps):=dl_rep dv pd.1
 have hl:=pd.2.1
 have up:=pd.2.2
 have hx2:=g2 _ _ hx1
 have g02:=g01.trans g2
 refine⟨_,rfl,x,CT,dx,[],rfl,hx2,c.cl,c.nT,(by show 0<1000;decide),?_⟩
 have st:∀ (H3:Hp) (o:HO),(∀ c o,c≠x→H2 c=some o→H3 c=some o)→∀ c o',c≠x→H2 c=some o'→upd H3 x o c=some o':=fun H3 o g c o' hc e=>by rw[upd_ne hc];exact g c o' hc e
 have s3:=st H2 (.ins CT dx (putF "top" (.ref b) [])) fun c o _ e=>e
 have g03:Same H0 (upd H2 x (.ins CT dx (putF "top" (.ref b) []))):=g02.free_upd nx _
 refine⟨_,rfl,_,rfl,x,CT,dx,_,rfl,upd_same,c.cl,c.nP,(by show 1<1000;decide),?_⟩
 have s4:=st _ (.ins CT dx (putF "p" (.int (p:Int)) (putF "top" (.ref b) []))) s3
 have g04:=g03.free_upd nx (.ins CT dx (putF "p" (.int (p:Int)) (putF "top" (.ref b) [])))
 generalize hH4:upd (upd H2 x (.ins CT dx (putF "top" (.ref b) []))) x (.ins CT dx (putF "p" (.int (p:Int)) (putF "top" (.ref b) [])))=H4 at s4 g04
 have e4:H4 x=some (.ins CT dx (putF "p" (.int (p:Int)) (putF "top" (.ref b) []))):=by rw[← hH4];exact upd_same
 have hfl:FlE 7 (.vec ps):=by
  refine .vec (by omega) fun e he=>(up.fl (Nat.le_refl 1) e he).mono ?_
  have:=up.ht
  have e0:(ground p hp).ht=0:=rfl
  omega
 refine⟨_,rfl,v,.vec ps,7,rfl,rfl,hfl,rv.same g04,fun r5 H5 g5 rr5 _=>?_⟩
 have e5:=g5 _ _ e4
 refine⟨_,rfl,x,CT,dx,_,rfl,e5,c.cl,c.nQ,(by show 2<1000;decide),?_⟩
 have s6:=st H5 (.ins CT dx (putF "parts" r5 (putF "p" (.int (p:Int)) (putF "top" (.ref b) [])))) fun c o hc e=>g5 _ _ (s4 c o hc e)
 have g06:=(g04.trans g5).free_upd nx (.ins CT dx (putF "parts" r5 (putF "p" (.int (p:Int)) (putF "top" (.ref b) []))))
 have rr6:Rep (upd H5 x (.ins CT dx (putF "parts" r5 (putF "p" (.int (p:Int)) (putF "top" (.ref b) []))))) (Off H0 x) r5 (.vec ps):=(rr5.offN g04 e4).updG fun b kk=>kk.2
 refine⟨_,rfl,v,.vec ps,7,rfl,rfl,hfl,rv.same g06,fun r7 H7 g7 rr7 _=>?_⟩
 refine⟨_,rfl,x,CT,dx,_,rfl,g7 _ _ upd_same,c.cl,c.nK,(by show 3<1000;decide),?_⟩
 have nx4:∀ c,H4 c=none→H0 c=none∧c≠x:=fun c hc=>⟨g04.free hc,fun z=>by rw[z,e4] at hc;cases hc⟩
 have up7:∀ c o,H4 c=none→H5 c=some o→upd H7 x (.ins CT dx (twf b p r5 r7)) c=some o:=fun c o hc e=>by
  rw[upd_ne (nx4 c hc).2]
  exact g7 _ _ (by rw[upd_ne (nx4 c hc).2];exact e)
 refine q p hp rfl ps T pd b r5 r7 _ ((g06.trans g7).free_upd nx _) upd_same (fun c=>H4 c=none∧∃ o,H5 c=some o) (fun c hc=>(nx4 c hc.1).1) ⟨dx,b,r5,r7,by rw[nw_of nx,up.p];exact upd_same,fun z=>(nx4 x z.1).2 rfl,fun c hc=>?_,?_,_,hl,jb.mono fun c o h=>?_⟩
 ·obtain⟨h1,o,h2⟩:=hc
  exact⟨o,by rw[nw_of (nx4 c h1).1];exact up7 c o h1 h2⟩
 ·exact rr5.imp fun c o h kk=>⟨by rw[nw_of (nx4 c kk).1];exact up7 c o kk h,kk,o,h⟩
 ·obtain⟨hn,hc⟩:=nw_inv h
  have hcx:c≠x:=fun z=>by rw[z,hx1] at hn;cases hn
  have h4:=s4 c o hcx hc
  rw[rs_of (fun z=>by rw[z.1] at h4;cases h4),nw_of (g01.free hn)]
  exact st H7 (.ins CT dx (twf b p r5 r7)) (fun c o hc e=>g7 _ _ (s6 c o hc e)) c o hcx hc
def spInitP (CG CS CT:Addr):Sp:=fun vs H Q E=>E=(fun _ _ _=>False)∧∃ (x dx:Addr) (p:Nat) (hp:p∈PR) (v:V) (ps:List El) (T:Twr) (H0:Hp),vs=[.ref x,.int (p:Int),v]∧H x=some (.ins CT dx [])∧Same H0 H∧H0 x=none∧Rep H0 Any v (.vec ps)∧ps.length≤5∧Up 0 ps (ground p hp) T∧
 ∀ (b:Addr) (v1 v2:V) H',Same H0 H'→H' x=some (.ins CT dx (twf b p v1 v2))→∀ ok:Addr→Prop,(∀ c,ok c→H0 c=none)→IsFq CG CS CT ok ps (nw H0 H') x T→Q .non H'
theorem up_len {i:Nat}{ps:List El}{T T':Twr}(h:Up i ps T T'):∀ e∈ps,lenD (toD e)≤1000:=by
 induction h with
 | nil=>intro e he;cases he
 | @cons i T T' M ps al hn hd hl u ih=>
  intro e he
  rcases List.mem_cons.mp he with z | z
  ·rw[z]
   show (toDs _).length≤1000
   rw[toDs_map,List.length_map,List.length_map,List.length_range];omega
  ·exact ih e z
theorem any_of_p {CP CN:Addr}(vs:List V)(H:Hp)(Q:VK)(E:XK)(h:spInitP CG CS CT vs H Q E):spInitAny CG CS CT CP CN vs H Q E:=by
 obtain⟨rfl,x,dx,p,hp,v,ps,T,H0,rfl,h1,h2,h3,rv,hl,up,q⟩:=h
 have pd:PartsD hp (toD (.vec ps)) ps T:=⟨rfl,hl,up⟩
 refine⟨x,dx,_,_,v,_,H0,rfl,h1,h2,h3,.int _,rv.dl,?_,fun ds e x hx=>?_,fun z=>absurd rfl (z p hp),fun p' hp' e z=>?_,fun p' hp' e ps' T' pd' b v1 v2 H' g e' ok nok jq=>?_⟩
 ·show (toDs ps).length≤1000
  rw[toDs_map,List.length_map];omega
 ·have e:PyData.list (toDs ps)=.list ds:=e
  injection e with e
  rw[← e,toDs_map] at hx
  obtain⟨y,hy,rfl⟩:=List.mem_map.mp hx
  exact up_len up y hy
 ·obtain rfl:p=p':=by injection e with e;omega
  exact absurd ⟨_,_,pd⟩ z
 ·obtain rfl:p=p':=by injection e with e;omega
  obtain rfl:ps=ps':=by have:=toD_inj (pd.1.symm.trans pd'.1);injection this
  obtain rfl:=up.uniq pd'.2.2
  exact q b v1 v2 H' g e' ok nok jq
structure Exk (K:FrQ)(N B:Addr)(cs:List Addr):Prop where
 ex:PySem.W.exmOne K (.ref N) (.ref B)=some true
 k:ExcK K N
 no:PySem.W.kitAny K (.ref N) (cs.map Value.ref)=some false
 va:PySem.W.kitOne K (.ref N) (.type "ValueError")=some true
theorem bt_ValueError:bootBuiltins "ValueError"=some (.type "ValueError"):=by decide +kernel
def spRefusal (CG CS CT:Addr):Sp:=fun vs H Q _=>∃ (vp:V) (dp:PyData) (v:V) (d:PyData),vs=[vp,v]∧Dl H vp dp∧Dl H v d∧lenD d≤1000∧(∀ ds,d=.list ds→∀ e∈ds,lenD e≤1000)∧
 ((∀ p∈PR,dp≠.int ((p:Nat):Int))→∀ H',Same H H'→Q (.str "prime") H')∧(∀ (p:Nat) (hp:p∈PR),dp=.int (p:Int)→(¬ ∃ ps T,PartsD hp d ps T)→∀ H',Same H H'→Q (.str "tower") H')∧(∀ (p:Nat) (hp:p∈PR),dp=.int (p:Int)→∀ ps T,PartsD hp d ps T→∀ H',Same H H'→Q (.str "none") H')
theorem ok_q_refusal {C_NoText C_BranchError C_NoPolynomial C_NoPrime C_NoRow C_NoSize C_NotPlain C_NoTower C_TooDeep:Addr}(xp:Exk K C_NoPrime C_BranchError [C_NoPolynomial,C_NoRow,C_NoSize,C_NotPlain,C_NoText,C_TooDeep])(xt:Exk K C_NoTower C_BranchError [C_NoPolynomial,C_NoRow,C_NoSize,C_NotPlain,C_NoText,C_TooDeep])(pt0:PySem.W.kitOne K (.ref C_NoPrime) (.ref C_NoTower)=some false)(tp0:PySem.W.kitOne K (.ref C_NoTower) (.ref C_NoPrime)=some false)
  (m_NoText:mg "NoText"=some (.ref C_NoText)) (m_BranchError:mg "BranchError"=some (.ref C_BranchError)) (m_NoPolynomial:mg "NoPolynomial"=some (.ref C_NoPolynomial)) (m_NoPrime:mg "NoPrime"=some (.ref C_NoPrime)) (m_NoRow:mg "NoRow"=some (.ref C_NoRow)) (m_NoSize:mg "NoSize"=some (.ref C_NoSize)) (m_NotPlain:mg "NotPlain"=some (.ref C_NotPlain)) (m_NoTower:mg "NoTower"=some (.ref C_NoTower)) (m_TooDeep:mg "TooDeep"=some (.ref C_TooDeep))
  (B:Blt mg) (mkE_Tower:MakerE P w K mg base 36 "Tower" CT ["self","p","parts"] (spInitAny CG CS CT C_NoPrime C_NoTower)) (F:Src K mg "_law_refusal" s_q_refusal ["_law_p","_law_parts"]):Dfn P w K mg base 38 "_law_refusal" ["_law_p","_law_parts"] (spRefusal CG CS CT):=by
 refine F.ok sc_q_refusal (fun vs H Q E h=>?_) (fun fa cdv A outer s H vs Q E hr h=>?_)
 ·obtain⟨vp,dp,v,d,rfl,_⟩:=h;rfl
 obtain⟨vp,dp,v,d,rfl,dvp,dv,hlen,hel,qP,qN,q0⟩:=h
 refine⟨_,pss_cons (ps_try (i:=2) ⟨rfl,rfl⟩ sc_q_refusal.nd rfl rfl rfl m_BranchError
   (fun pn E=>pss_one (ps_expr (pe_mkrE mkE_Tower pass_try hr (pa_cons (pv 0) (pa_cons (pv 1) pa_nil)))))
   (fun ea=>pss_cons (ps_if (PW.pt (pw_or (pt_val (pe_callB (callK_isiE (K:=K) rfl) rfl B.«isinstance» bt_isinstance (pa_cons (pv 2) (pa_cons (pe_tup (pa_cons (pe_glob (v:=.ref C_NoPolynomial) rfl m_NoPolynomial rfl) (pa_cons (pe_glob (v:=.ref C_NoRow) rfl m_NoRow rfl) (pa_cons (pe_glob (v:=.ref C_NoSize) rfl m_NoSize rfl) (pa_cons (pe_glob (v:=.ref C_NotPlain) rfl m_NotPlain rfl) (pa_cons (pe_glob (v:=.ref C_NoText) rfl m_NoText rfl) (pa_cons (pe_glob (v:=.ref C_TooDeep) rfl m_TooDeep rfl) pa_nil))))))) pa_nil)))) (pw_or1 (pt_not (pt_val (pe_callB (callK_isiE (K:=K) rfl) rfl B.«isinstance» bt_isinstance (pa_cons (pv 2) (pa_cons (pe_bltn (v:=.ty "ValueError") rfl B.«ValueError» bt_ValueError rfl) pa_nil))))))))
    (pss_one (ps_ret pe_str))
    (pss_nil))
   (pss_cons (ps_if (PW.pt (pw_and (pt_val (pe_callB (callK_isiE (K:=K) rfl) rfl B.«isinstance» bt_isinstance (pa_cons (pv 2) (pa_cons (pe_glob (v:=.ref C_NoPrime) rfl m_NoPrime rfl) pa_nil)))) (pw_and1 (pt_not (pt_val (pe_callB (callK_isiE (K:=K) rfl) rfl B.«isinstance» bt_isinstance (pa_cons (pv 2) (pa_cons (pe_glob (v:=.ref C_NoTower) rfl m_NoTower rfl) pa_nil))))))))
    (pss_one (ps_ret pe_str))
    (pss_nil))
   (pss_cons (ps_if (PW.pt (pw_and (pt_val (pe_callB (callK_isiE (K:=K) rfl) rfl B.«isinstance» bt_isinstance (pa_cons (pv 2) (pa_cons (pe_glob (v:=.ref C_NoTower) rfl m_NoTower rfl) pa_nil)))) (pw_and1 (pt_not (pt_val (pe_callB (callK_isiE (K:=K) rfl) rfl B.«isinstance» bt_isinstance (pa_cons (pv 2) (pa_cons (pe_glob (v:=.ref C_NoPrime) rfl m_NoPrime rfl) pa_nil))))))))
    (pss_one (ps_ret pe_str))
    (pss_nil))
   (pss_one (ps_ret pe_str))))))
  (pss_one (ps_ret pe_str)),?_⟩
 refine⟨_,rfl,_,rfl,fun x dx nx ndx hne=>⟨x,dx,vp,dp,v,d,H,rfl,upd_same,(same_new ndx _).free_upd nx _,nx,dvp,dv,hlen,hel,fun z ea H1 g1=>?_,fun p hp e z ea H1 g1=>?_,fun p hp e ps T pd b v1 v2 H1 g1 e1 ok nok jq=>⟨rfl,?_⟩⟩⟩
 ·refine⟨C_NoPrime,rfl,xp.ex,fun ea' σ' he hf hl=>?_⟩
  cases he
  obtain⟨a0,b0,c0,rfl⟩:=st3 hl
  have e1:(upd H1 ea (.ext (ExAt ea C_NoPrime))) ea=some (.ext (ExAt ea C_NoPrime)):=upd_same
  have gE:=g1.trans (same_new hf (.ext (ExAt ea C_NoPrime)))
  generalize upd H1 ea _=H2 at e1 gE
  refine⟨_,rfl,len_ok rfl,fun pt nt=>?_⟩
  have kt:=same_new nt (.tup [.ref C_NoPolynomial,.ref C_NoRow,.ref C_NoSize,.ref C_NotPlain,.ref C_NoText,.ref C_TooDeep])
  refine⟨ea,C_NoPrime,_,false,rfl,kt _ _ e1,xp.k,.tup (cs:=[C_NoPolynomial,C_NoRow,C_NoSize,C_NotPlain,C_NoText,C_TooDeep]) upd_same xp.no,_,rfl,iteF ?_⟩
  have e2:=kt _ _ e1
  have gT:=gE.trans kt
  generalize upd H2 pt _=H3 at e2 gT
  refine⟨_,rfl,ea,C_NoPrime,_,true,rfl,e2,xp.k,.ty xp.va,_,rfl,iteF ?_⟩
  refine⟨_,rfl,ea,C_NoPrime,_,true,rfl,e2,xp.k,.own (by unfold PySem.W.kitOne;rw[if_pos (by simp)]),_,rfl,iteT ⟨_,rfl,ea,C_NoPrime,_,false,rfl,e2,xp.k,.own pt0,_,rfl,iteT ?_⟩⟩
  exact qP z _ gT
 ·refine⟨C_NoTower,rfl,xt.ex,fun ea' σ' he hf hl=>?_⟩
  cases he
  obtain⟨a0,b0,c0,rfl⟩:=st3 hl
  have e1:(upd H1 ea (.ext (ExAt ea C_NoTower))) ea=some (.ext (ExAt ea C_NoTower)):=upd_same
  have gE:=g1.trans (same_new hf (.ext (ExAt ea C_NoTower)))
  generalize upd H1 ea _=H2 at e1 gE
  refine⟨_,rfl,len_ok rfl,fun pt nt=>?_⟩
  have kt:=same_new nt (.tup [.ref C_NoPolynomial,.ref C_NoRow,.ref C_NoSize,.ref C_NotPlain,.ref C_NoText,.ref C_TooDeep])
  refine⟨ea,C_NoTower,_,false,rfl,kt _ _ e1,xt.k,.tup (cs:=[C_NoPolynomial,C_NoRow,C_NoSize,C_NotPlain,C_NoText,C_TooDeep]) upd_same xt.no,_,rfl,iteF ?_⟩
  have e2:=kt _ _ e1
  have gT:=gE.trans kt
  generalize upd H2 pt _=H3 at e2 gT
  refine⟨_,rfl,ea,C_NoTower,_,true,rfl,e2,xt.k,.ty xt.va,_,rfl,iteF ?_⟩
  refine⟨_,rfl,ea,C_NoTower,_,false,rfl,e2,xt.k,.own tp0,_,rfl,iteF ?_⟩
  refine⟨_,rfl,ea,C_NoTower,_,true,rfl,e2,xt.k,.own (by unfold PySem.W.kitOne;rw[if_pos (by simp)]),_,rfl,iteT ⟨_,rfl,ea,C_NoTower,_,false,rfl,e2,xt.k,.own tp0,_,rfl,iteT ?_⟩⟩
  exact qN p hp e z _ gT
 ·exact q0 p hp e ps T pd _ g1
def spProd2 (J:L2.Kind):Sp:=fun vs H Q _=>∃ (a:Addr) (T:Twr) (u v:V) (x y:T.α),vs=[.ref a,u,v]∧J H a T∧Rep H Any u (T.enc x)∧Rep H Any v (T.enc y)∧∀ r H',Same H H'→Rep H' (NewB H) r (.vec [T.enc (x*y),T.enc (x+y),T.enc 1])→Q r H'
theorem rep3 {H:Hp}{ok:Addr→Prop}{l:Addr}{u v w:V}{a b c:El}(h:H l=some (.lst [u,v,w]))(k:ok l)(ru:Rep H ok u a)(rv:Rep H ok v b)(rw':Rep H ok w c):Rep H ok (.ref l) (.vec [a,b,c]):=.vec h k rfl fun i v' e h1 h2=>by
 match i,h1,h2 with
 | 0,h1,h2=>cases h1;cases h2;exact ru
 | 1,h1,h2=>cases h1;cases h2;exact rv
 | 2,h1,h2=>cases h1;cases h2;exact rw'
 | n+3,h1,h2=>simp at h1
theorem ok_q_product (B:Blt mg)(O:TwE P w K mg base k J)(F:Src K mg "_law_product" s_q_product ["_law_tower_here","_law_u","_law_v"]):Dfn P w K mg base (k+1) "_law_product" ["_law_tower_here","_law_u","_law_v"] (spProd2 J):=by
 refine F.ok sc_q_product (fun vs H Q E h=>?_) (fun fa cdv A outer s H vs Q E hr h=>?_)
 ·obtain⟨a,T,u,v,x,y,rfl,_⟩:=h;rfl
 obtain⟨a,T,u,v,x,y,rfl,ja,ru,rv,q⟩:=h
 refine⟨_,pss_one (ps_ret (pe_lst (pa_cons (pe_mth O.times hr (pv 0) (pa_cons (pv 1) (pa_cons (pv 2) pa_nil))) (pa_cons (pe_mth O.plus hr (pv 0) (pa_cons (pv 1) (pa_cons (pv 2) pa_nil))) (pa_cons (pe_mth0 O.one hr (pv 0) ) pa_nil))))),?_⟩
 refine⟨_,rfl,a,rfl,⟨T,ja⟩,_,rfl,_,rfl,fun _ h=>h,a,T,u,v,x,y,rfl,ja,ru,rv,fun r1 H1 g1 rr1=>?_⟩
 refine⟨_,rfl,a,rfl,⟨T,O.mono g1 ja⟩,_,rfl,_,rfl,fun _ h=>h,a,T,u,v,x,y,rfl,O.mono g1 ja,ru.same g1,rv.same g1,fun r2 H2 g2 rr2=>?_⟩
 have g12:=g1.trans g2
 refine⟨_,rfl,a,rfl,⟨T,O.mono g12 ja⟩,fun _ h=>h,a,T,rfl,O.mono g12 ja,fun r3 H3 g3 rr3=>?_⟩
 refine⟨len_ok rfl,fun l hl=>?_⟩
 have kl:=same_new hl (.lst [r1,r2,r3])
 have g13:=g12.trans g3
 exact q _ _ (g13.trans kl) (rep3 upd_same (g13.free hl) (rr1.same ((g2.trans g3).trans kl)) ((rr2.same (g3.trans kl)).older g1) ((rr3.same kl).older g12))
theorem no_more {p:Nat}{hp:p∈PR}{ps:List El}{T:Twr}(up:Up 0 ps (ground p hp) T){d:PyData}{rest:List PyData}(h:∀ M:Md T.α,NextD T d M→ps≠[]∧polE T (M.n+1) M.f=polE T 2 X):¬ ∃ qs T',PartsD hp (.list (ps.map toD++d::rest)) qs T':=by
 rintro⟨qs,T',z⟩
 have e:=z.list
 injection e with e
 obtain⟨q1,q2,rfl,e1,e2⟩:=List.map_eq_append_iff.mp e.symm
 obtain rfl:q1=ps:=(List.map_inj_right fun x y h=>toD_inj h).mp e1
 obtain⟨e0,q3,rfl,rfl,e3⟩:=List.map_eq_cons_iff.mp e2
 obtain⟨Tm,u1,u2⟩:=up_split z.2.2
 obtain rfl:=u1.uniq up
 obtain⟨M,al,hn,e4,hd,hlt,_⟩:=up_inv u2
 obtain⟨h1,h2⟩:=h M ⟨by rw[e4],hd,al⟩
 rcases hlt with y | y
 ·exact h1 (List.eq_nil_of_length_eq_zero (by omega))
 ·exact y h2
theorem NextD.shape {T:Twr}{d:PyData}{M:Md T.α}(h:NextD T d M):d=.list ((List.range (M.n+1)).map fun i=>toD (T.enc (M.f.c i))):=by
 rw[h.1]
 show PyData.list (toDs _)=_
 rw[toDs_map,List.map_map]
 rfl
theorem NextD.len {T:Twr}{ds:List PyData}{M:Md T.α}(h:NextD T (.list ds) M):ds.length=M.n+1:=by
 have e:=h.shape
 injection e with e
 rw[e,List.length_map,List.length_range]
theorem NextD.el {T:Twr}{ds:List PyData}{M:Md T.α}(h:NextD T (.list ds) M){e:PyData}(he:e∈ds):IsElD T e:=by
 have z:=h.shape
 injection z with z
 rw[z] at he
 obtain⟨i,_,rfl⟩:=List.mem_map.mp he
 exact⟨_,rfl⟩
theorem NextD.last {T:Twr}{ds:List PyData}{e:PyData}{M:Md T.α}(h:NextD T (.list (ds++[e])) M):e=toD (T.enc 1):=by
 have z:=h.shape
 have ln:=h.len
 injection z with z
 rw[List.range_succ,List.map_append] at z
 have:=(List.append_inj' z rfl).2
 rw[← M.mon.top]
 simpa using this
theorem enc_deep {T:Twr}{ws:List Nat}(h:Wd T ws):∀ (x y:T.α) (l:List El),T.enc x=.vec l→T.enc y ∉ l:=by
 induction h with
 | gr hp=>intro x y l e;cases e
 | @up T ws M al hn w ih=>
  intro x y l e hy
  have e:El.vec ((List.range M.n).map fun i=>T.enc ((show Qt M from x).s.c i))=.vec l:=e
  injection e with e
  rw[← e] at hy
  obtain⟨i,_,hi⟩:=List.mem_map.mp hy
  have hi:T.enc _=El.vec ((List.range M.n).map fun i=>T.enc ((show Qt M from y).s.c i)):=hi
  have mp:=M.pos
  exact ih _ ((show Qt M from y).s.c 0) _ hi (List.mem_map.mpr ⟨0,List.mem_range.mpr mp,rfl⟩)
theorem notEl_list {T:Twr}{ws:List Nat}(h:Wd T ws){y:T.α}{ds:List PyData}(hy:toD (T.enc y)∈ds):¬ IsElD T (.list ds):=by
 rintro⟨x,e⟩
 cases ex:T.enc x with
 | num i=>rw[ex] at e;cases (show PyData.list ds=.int i from e)
 | vec l=>
  rw[ex] at e
  have e:PyData.list ds=.list (toDs l):=e
  injection e with e
  rw[e,toDs_map] at hy
  obtain⟨z,hz,ez⟩:=List.mem_map.mp hy
  exact enc_deep h x y l ex (by rw[← toD_inj ez];exact hz)
theorem notEl_int {T:Twr}{ws:List Nat}(h:Wd T ws){i:Int}(hi:i<0∨(T.p:Int)≤i):¬ IsElD T (.int i):=by
 rintro⟨x,e⟩
 cases h with
 | @gr p hp=>
  have e:PyData.int i=.int ((show Zp p from x).v:Int):=e
  injection e with e
  have:=(show Zp p from x).lt
  have hi:i<0∨((p:Nat):Int)≤i:=hi
  omega
 | @up T ws M al hn w=>cases (show PyData.int i=.list _ from e)
theorem notEl_other {T:Twr}{ws:List Nat}(h:Wd T ws){d:PyData}(h1:∀ i,d≠.int i)(h2:∀ l,d≠.list l):¬ IsElD T d:=by
 rintro⟨x,e⟩
 cases ex:T.enc x with
 | num i=>rw[ex] at e;exact h1 i e
 | vec l=>rw[ex] at e;exact h2 _ e
theorem pr2_c {α:Type}[Lean.Grind.CommRing α](x y:α)(i:Nat):(((X:Ser α)+cst x)*((X:Ser α)+cst y)).c i=if i=0 then x*y else if i=1 then x+y else if i=2 then 1 else 0:=by
 have e:((X:Ser α)+cst x)*(X+cst y)=mon 1 1*(X+cst y)+mon x 0*(X+cst y):=by
  have:(cst x:Ser α)=mon x 0:=rfl
  rw[this]
  show (mon 1 1+mon x 0)*_=_
  grind
 have b:∀ j,((X:Ser α)+cst y).c j=(if j=1 then (1:α) else 0)+(if j=0 then y else 0):=fun j=>rfl
 rw[e]
 show (mon 1 1*(X+cst y)).c i+(mon x 0*(X+cst y)).c i=_
 rw[mon_mul,mon_mul,b,b]
 match i with
 | 0=>simp;try grind
 | 1=>simp;try grind
 | 2=>simp;try grind
 | i+3=>simp;try grind
theorem prod_not {T:Twr}{M:Md T.α}{x y:T.α}(hn:M.n=2)(h0:M.f.c 0=x*y)(h1:M.f.c 1=x+y):¬ AlM T M:=fun al=>by
 have hf:M.f=(X+cst x)*(X+cst y):=by
  apply Ser.ext
  funext i
  rw[pr2_c]
  have t:=M.mon.top
  have dg:=M.mon.dg
  rw[hn] at t dg
  match i with
  | 0=>rw[if_pos rfl];exact h0
  | 1=>rw[if_neg (by decide),if_pos rfl];exact h1
  | 2=>rw[if_neg (by decide),if_neg (by decide),if_pos rfl];exact t
  | i+3=>rw[if_neg (by omega),if_neg (by omega),if_neg (by omega)];exact dg _ (by omega)
 have d2:∀ z:T.α,Dg ((X:Ser T.α)+cst z) 2:=fun z=>(Dg.mon 1 1).add ((Dg.cst z).mono (by decide))
 have ne:∀ z:T.α,(X:Ser T.α)+cst z≠0:=fun z e=>by
  have:((X:Ser T.α)+cst z).c 1=(0:Ser T.α).c 1:=by rw[e]
  have h:(1:T.α)+0=0:=this
  exact T.fld.1 (by grind)
 obtain⟨u,pu,q,pq,hc⟩:=al.alone.irr (X+cst x) (by rw[hn];exact d2 x) (ne x)
 refine ne y (Cg.uniq M.mon (by rw[hn];exact d2 y) (fun i _=>rfl) ⟨u - q*(X+cst y),?_,?_⟩)
 ·exact pu.sub (pq.mul ⟨2,d2 y⟩)
 ·have e1:u*(X+cst x)=1+q*M.f:=by grind
  rw[hf] at e1 ⊢
  grind
end
section
variable {P:Program} {w:World} {K:FrQ} {mg:Str→Option Value} {base:Heap} {CG CS CT:Addr} {k:Nat} {J:L2.Kind}
def eN (l:List Int):El:=.vec (l.map El.num)
def one3:El:=eN [1,0,0]
def zero3:El:=eN [0,0,0]
def one7:El:=eN [1,0,0,0,0,0,0]
def one4:El:=eN [1,0,0,0]
def zero4:El:=eN [0,0,0,0]
def last4:El:=eN [0,0,0,1]
def both4:El:=.vec [one4,zero4]
def wideE:List El:=[.vec [eN [1,1,0,1],.vec [one3,zero3,one3,zero3,zero3,one3]],.vec [eN [1,1,0,0,0,0,0,1],.vec [one7,one7,one7]],.vec [eN [1,1,0,0,1],.vec [last4,one4,one4],.vec [.vec [zero4,last4],both4,both4]]]
theorem rep_ints {H:Hp}{ok:Addr→Prop}{l:Addr}{ns:List Int}(h:H l=some (.lst (ns.map V.int)))(k:ok l):Rep H ok (.ref l) (eN ns):=.vec h k (by rw[List.length_map,List.length_map]) fun i v e h1 h2=>by
 rw[List.getElem?_map] at h1 h2
 cases z:ns[i]? with
 | none=>rw[z] at h1;cases h1
 | some n=>rw[z] at h1 h2;cases h1;cases h2;exact .num n
inductive RL (H:Hp)(ok:Addr→Prop):List V→List El→Prop where
 | nil:RL H ok [] []
 | cons {v:V} {e:El} {vs:List V} {es:List El} (a:Rep H ok v e) (r:RL H ok vs es):RL H ok (v::vs) (e::es)
theorem RL.get {H:Hp}{ok:Addr→Prop}{vs:List V}{es:List El}(h:RL H ok vs es):vs.length=es.length∧∀ (i:Nat) v e,vs[i]?=some v→es[i]?=some e→Rep H ok v e:=by
 induction h with
 | nil=>exact⟨rfl,fun i v e h=>by simp at h⟩
 | cons a _ ih=>
  refine⟨by rw[List.length_cons,List.length_cons,ih.1],fun i v e h1 h2=>?_⟩
  cases i with
  | zero=>cases h1;cases h2;exact a
  | succ i=>exact ih.2 i v e h1 h2
theorem rep_list {H:Hp}{ok:Addr→Prop}{l:Addr}{vs:List V}{es:List El}(h:H l=some (.lst vs))(k:ok l)(hv:RL H ok vs es):Rep H ok (.ref l) (.vec es):=.vec h k hv.get.1 hv.get.2
def spWide:Sp:=fun vs H Q _=>vs=[]∧∀ r H',Same H H'→Rep H' Any r (.vec wideE)→Q r H'
theorem ok_q_wide_parts (B:Blt mg)(F:Src K mg "_law_wide_parts" s_q_wide_parts []):Dfn P w K mg base 1 "_law_wide_parts" [] spWide:=by
 refine F.ok sc_q_wide_parts (fun vs H Q E h=>?_) (fun fa cdv A outer s H vs Q E hr h=>?_)
 ·obtain⟨rfl,_⟩:=h;rfl
 obtain⟨rfl,q⟩:=h
 refine⟨_,pss_cons (ps_par (i:=0) (j:=1) rfl sc_q_wide_parts.nd rfl rfl (by decide) rfl rfl (pa_cons (pe_lst (pa_cons pe_int (pa_cons pe_int (pa_cons pe_int pa_nil)))) (pa_cons (pe_lst (pa_cons pe_int (pa_cons pe_int (pa_cons pe_int pa_nil)))) pa_nil)) rfl)
  (pss_cons (ps_set (i:=2) sc_q_wide_parts.nd rfl (Or.inl rfl) (pe_lst (pa_cons (pe_lst (pa_cons pe_int (pa_cons pe_int (pa_cons pe_int (pa_cons pe_int pa_nil))))) (pa_cons (pe_lst (pa_cons (pv 0) (pa_cons (pv 1) (pa_cons (pv 0) (pa_cons (pv 1) (pa_cons (pv 1) (pa_cons (pv 0) pa_nil))))))) pa_nil))))
  (pss_cons (ps_set (i:=0) sc_q_wide_parts.nd rfl (Or.inl rfl) (pe_lst (pa_cons pe_int (pa_cons pe_int (pa_cons pe_int (pa_cons pe_int (pa_cons pe_int (pa_cons pe_int (pa_cons pe_int pa_nil)))))))))
  (pss_cons (ps_set (i:=3) sc_q_wide_parts.nd rfl (Or.inl rfl) (pe_lst (pa_cons (pe_lst (pa_cons pe_int (pa_cons pe_int (pa_cons pe_int (pa_cons pe_int (pa_cons pe_int (pa_cons pe_int (pa_cons pe_int (pa_cons pe_int pa_nil))))))))) (pa_cons (pe_lst (pa_cons (pv 0) (pa_cons (pv 0) (pa_cons (pv 0) pa_nil)))) pa_nil))))
  (pss_cons (ps_par (i:=0) (j:=4) rfl sc_q_wide_parts.nd rfl rfl (by decide) rfl rfl (pa_cons (pe_lst (pa_cons pe_int (pa_cons pe_int (pa_cons pe_int (pa_cons pe_int pa_nil))))) (pa_cons (pe_lst (pa_cons pe_int (pa_cons pe_int (pa_cons pe_int (pa_cons pe_int pa_nil))))) pa_nil)) rfl)
  (pss_cons (ps_set (i:=5) sc_q_wide_parts.nd rfl (Or.inl rfl) (pe_lst (pa_cons (pv 0) (pa_cons (pe_lst (pa_cons pe_int (pa_cons pe_int (pa_cons pe_int (pa_cons pe_int pa_nil))))) pa_nil))))
  (pss_one (ps_ret (pe_lst (pa_cons (pv 2) (pa_cons (pv 3) (pa_cons (pe_lst (pa_cons (pe_lst (pa_cons pe_int (pa_cons pe_int (pa_cons pe_int (pa_cons pe_int (pa_cons pe_int pa_nil)))))) (pa_cons (pe_lst (pa_cons (pv 4) (pa_cons (pv 0) (pa_cons (pv 0) pa_nil)))) (pa_cons (pe_lst (pa_cons (pe_lst (pa_cons (pe_lst (pa_cons pe_int (pa_cons pe_int (pa_cons pe_int (pa_cons pe_int pa_nil))))) (pa_cons (pv 4) pa_nil))) (pa_cons (pv 5) (pa_cons (pv 5) pa_nil)))) pa_nil)))) pa_nil))))))))))),?_⟩
 refine⟨len_ok rfl,fun l1 n1=>?_⟩
 generalize hX:upd _ l1 _=H1
 have x1:=new_of n1 hX
 clear hX
 refine⟨len_ok rfl,fun l2 n2=>?_⟩
 generalize hX:upd _ l2 _=H2
 have x2:=new_of n2 hX
 clear hX
 refine⟨_,_,rfl,?_⟩
 refine⟨len_ok rfl,fun l3 n3=>?_⟩
 generalize hX:upd _ l3 _=H3
 have x3:=new_of n3 hX
 clear hX
 refine⟨_,rfl,_,rfl,_,rfl,_,rfl,_,rfl,_,rfl,len_ok rfl,fun l4 n4=>?_⟩
 generalize hX:upd _ l4 _=H4
 have x4:=new_of n4 hX
 clear hX
 refine⟨len_ok rfl,fun l5 n5=>?_⟩
 generalize hX:upd _ l5 _=H5
 have x5:=new_of n5 hX
 clear hX
 refine⟨len_ok rfl,fun l6 n6=>?_⟩
 generalize hX:upd _ l6 _=H6
 have x6:=new_of n6 hX
 clear hX
 refine⟨len_ok rfl,fun l7 n7=>?_⟩
 generalize hX:upd _ l7 _=H7
 have x7:=new_of n7 hX
 clear hX
 refine⟨_,rfl,_,rfl,_,rfl,len_ok rfl,fun l8 n8=>?_⟩
 generalize hX:upd _ l8 _=H8
 have x8:=new_of n8 hX
 clear hX
 refine⟨len_ok rfl,fun l9 n9=>?_⟩
 generalize hX:upd _ l9 _=H9
 have x9:=new_of n9 hX
 clear hX
 refine⟨len_ok rfl,fun l10 n10=>?_⟩
 generalize hX:upd _ l10 _=H10
 have x10:=new_of n10 hX
 clear hX
 refine⟨len_ok rfl,fun l11 n11=>?_⟩
 generalize hX:upd _ l11 _=H11
 have x11:=new_of n11 hX
 clear hX
 refine⟨_,_,rfl,?_⟩
 refine⟨_,rfl,len_ok rfl,fun l12 n12=>?_⟩
 generalize hX:upd _ l12 _=H12
 have x12:=new_of n12 hX
 clear hX
 refine⟨len_ok rfl,fun l13 n13=>?_⟩
 generalize hX:upd _ l13 _=H13
 have x13:=new_of n13 hX
 clear hX
 refine⟨_,rfl,_,rfl,len_ok rfl,fun l14 n14=>?_⟩
 generalize hX:upd _ l14 _=H14
 have x14:=new_of n14 hX
 clear hX
 refine⟨_,rfl,_,rfl,_,rfl,len_ok rfl,fun l15 n15=>?_⟩
 generalize hX:upd _ l15 _=H15
 have x15:=new_of n15 hX
 clear hX
 refine⟨len_ok rfl,fun l16 n16=>?_⟩
 generalize hX:upd _ l16 _=H16
 have x16:=new_of n16 hX
 clear hX
 refine⟨_,rfl,len_ok rfl,fun l17 n17=>?_⟩
 generalize hX:upd _ l17 _=H17
 have x17:=new_of n17 hX
 clear hX
 refine⟨_,rfl,_,rfl,len_ok rfl,fun l18 n18=>?_⟩
 generalize hX:upd _ l18 _=H18
 have x18:=new_of n18 hX
 clear hX
 refine⟨len_ok rfl,fun l19 n19=>?_⟩
 generalize hX:upd _ l19 _=H19
 have x19:=new_of n19 hX
 clear hX
 refine⟨len_ok rfl,fun l20 n20=>?_⟩
 generalize hX:upd _ l20 _=H20
 have x20:=new_of n20 hX
 clear hX
 have s20:=Same.refl H20
 have s19:=x20.1.trans s20
 have s18:=x19.1.trans s19
 have s17:=x18.1.trans s18
 have s16:=x17.1.trans s17
 have s15:=x16.1.trans s16
 have s14:=x15.1.trans s15
 have s13:=x14.1.trans s14
 have s12:=x13.1.trans s13
 have s11:=x12.1.trans s12
 have s10:=x11.1.trans s11
 have s9:=x10.1.trans s10
 have s8:=x9.1.trans s9
 have s7:=x8.1.trans s8
 have s6:=x7.1.trans s7
 have s5:=x6.1.trans s6
 have s4:=x5.1.trans s5
 have s3:=x4.1.trans s4
 have s2:=x3.1.trans s3
 have s1:=x2.1.trans s2
 have eOne3:Rep H20 Any (.ref l1) (one3):=rep_ints (ns:=[1,0,0]) (s1 _ _ x1.2) trivial
 have eZero3:Rep H20 Any (.ref l2) (zero3):=rep_ints (ns:=[0,0,0]) (s2 _ _ x2.2) trivial
 have eA:Rep H20 Any (.ref l3) (eN [1,1,0,1]):=rep_ints (ns:=[1,1,0,1]) (s3 _ _ x3.2) trivial
 have eB:Rep H20 Any (.ref l4) (.vec [one3,zero3,one3,zero3,zero3,one3]):=rep_list (s4 _ _ x4.2) trivial (.cons eOne3 (.cons eZero3 (.cons eOne3 (.cons eZero3 (.cons eZero3 (.cons eOne3 .nil))))))
 have eW:Rep H20 Any (.ref l5) (.vec [eN [1,1,0,1],.vec [one3,zero3,one3,zero3,zero3,one3]]):=rep_list (s5 _ _ x5.2) trivial (.cons eA (.cons eB .nil))
 have eOne7:Rep H20 Any (.ref l6) (one7):=rep_ints (ns:=[1,0,0,0,0,0,0]) (s6 _ _ x6.2) trivial
 have eC:Rep H20 Any (.ref l7) (eN [1,1,0,0,0,0,0,1]):=rep_ints (ns:=[1,1,0,0,0,0,0,1]) (s7 _ _ x7.2) trivial
 have eD:Rep H20 Any (.ref l8) (.vec [one7,one7,one7]):=rep_list (s8 _ _ x8.2) trivial (.cons eOne7 (.cons eOne7 (.cons eOne7 .nil)))
 have eM:Rep H20 Any (.ref l9) (.vec [eN [1,1,0,0,0,0,0,1],.vec [one7,one7,one7]]):=rep_list (s9 _ _ x9.2) trivial (.cons eC (.cons eD .nil))
 have eOne4:Rep H20 Any (.ref l10) (one4):=rep_ints (ns:=[1,0,0,0]) (s10 _ _ x10.2) trivial
 have eLast:Rep H20 Any (.ref l11) (last4):=rep_ints (ns:=[0,0,0,1]) (s11 _ _ x11.2) trivial
 have eZero4:Rep H20 Any (.ref l12) (zero4):=rep_ints (ns:=[0,0,0,0]) (s12 _ _ x12.2) trivial
 have eBoth:Rep H20 Any (.ref l13) (both4):=rep_list (s13 _ _ x13.2) trivial (.cons eOne4 (.cons eZero4 .nil))
 have eF:Rep H20 Any (.ref l14) (eN [1,1,0,0,1]):=rep_ints (ns:=[1,1,0,0,1]) (s14 _ _ x14.2) trivial
 have eG:Rep H20 Any (.ref l15) (.vec [last4,one4,one4]):=rep_list (s15 _ _ x15.2) trivial (.cons eLast (.cons eOne4 (.cons eOne4 .nil)))
 have eZero5:Rep H20 Any (.ref l16) (zero4):=rep_ints (ns:=[0,0,0,0]) (s16 _ _ x16.2) trivial
 have eI:Rep H20 Any (.ref l17) (.vec [zero4,last4]):=rep_list (s17 _ _ x17.2) trivial (.cons eZero5 (.cons eLast .nil))
 have eJ:Rep H20 Any (.ref l18) (.vec [.vec [zero4,last4],both4,both4]):=rep_list (s18 _ _ x18.2) trivial (.cons eI (.cons eBoth (.cons eBoth .nil)))
 have eT:Rep H20 Any (.ref l19) (.vec [eN [1,1,0,0,1],.vec [last4,one4,one4],.vec [.vec [zero4,last4],both4,both4]]):=rep_list (s19 _ _ x19.2) trivial (.cons eF (.cons eG (.cons eJ .nil)))
 have eR:Rep H20 Any (.ref l20) (.vec wideE):=rep_list (s20 _ _ x20.2) trivial (.cons eW (.cons eM (.cons eT .nil)))
 exact q _ _ (x1.1.trans s1) eR
theorem bld_take {p:Nat}{hp:p∈PR}{ps:List El}{ws:List Nat}{T:Twr}(b:Bld hp ps ws T):∀ k,k≤ps.length→∃ T',Bld hp (ps.take k) (ws.take k) T':=by
 induction b with
 | nil=>intro k _;exact⟨_,by rw[List.take_nil,List.take_nil];exact .nil⟩
 | @snoc ps ws T M b al hn hd hl ih=>
  intro k hk
  by_cases c:k≤ps.length
  ·obtain⟨T',h⟩:=ih k c
   rw[List.take_append_of_le_length c,List.take_append_of_le_length (by rw[← b.len];exact c)]
   exact⟨T',h⟩
  ·rw[List.take_of_length_le (by rw[List.length_append] at hk ⊢;simp at hk ⊢;omega),List.take_of_length_le (by rw[List.length_append,← b.len];rw[List.length_append] at hk;simp at hk ⊢;omega)]
   exact⟨_,.snoc b al hn hd hl⟩
structure BadV (H:Hp){p:Nat}(hp:p∈PR)(v:V)(d:PyData):Prop where
 dl:Dl H v d
 len:lenD d≤1000
 el:∀ ds,d=.list ds→∀ e∈ds,lenD e≤1000
 shy:Shy 30 100000 d
 no:¬ ∃ ps T,PartsD hp d ps T
theorem BadV.same {H H':Hp}{p:Nat}{hp:p∈PR}{v:V}{d:PyData}(h:BadV H hp v d)(g:Same H H'):BadV H' hp v d:=⟨h.dl.same g,h.len,h.el,h.shy,h.no⟩
theorem not_list {p:Nat}{hp:p∈PR}{d:PyData}(h:∀ ds,d≠.list ds):¬ ∃ ps T,PartsD hp d ps T:=fun ⟨_,_,z⟩=>h _ z.list
theorem too_many {p:Nat}{hp:p∈PR}{ds:List PyData}(h:5<ds.length):¬ ∃ ps T,PartsD hp (.list ds) ps T:=fun ⟨ps,T,z⟩=>by
 have e:=z.list
 injection e with e
 have:=z.2.1
 rw[e,List.length_map] at h
 omega
theorem too_wide {p:Nat}{hp:p∈PR}{qs:List El}(h:12<qs.foldl (fun n e=>n*lnE e) 1):¬ ∃ ps T,PartsD hp (toD (.vec qs)) ps T:=fun ⟨ps,T,z⟩=>by
 have e:qs=ps:=by
  have:=toD_inj z.1
  injection this
 subst e
 obtain⟨h1,h2⟩:=up_deg z.2.2
 have h3:T.d=qs.foldl (fun n e=>n*lnE e) 1:=h1
 have:=h2 (by show 1≤12;decide)
 omega
theorem not_prod {T:Twr}{x y:T.α}{M:Md T.α}:¬ NextD T (toD (.vec [T.enc (x*y),T.enc (x+y),T.enc 1])) M:=fun h=>by
 have e:=toD_inj h.1
 have e:El.vec [T.enc (x*y),T.enc (x+y),T.enc 1]=.vec ((List.range (M.n+1)).map fun i=>T.enc (M.f.c i)):=e
 injection e with e
 have ln:M.n=2:=by
  have:=congrArg List.length e
  rw[List.length_map,List.length_range] at this
  have:3=M.n+1:=this
  omega
 rw[ln] at e
 have e:[T.enc (x*y),T.enc (x+y),T.enc 1]=[T.enc (M.f.c 0),T.enc (M.f.c 1),T.enc (M.f.c 2)]:=e
 injection e with e0 e
 injection e with e1 e
 exact prod_not ln (T.inj _ _ e0).symm (T.inj _ _ e1).symm h.2.2
theorem wd_d1 {T:Twr}{ws:List Nat}(h:Wd T ws):1≤T.d:=by
 induction h with
 | gr hp=>exact Nat.le_refl 1
 | @up T ws M al hn w ih=>exact Nat.mul_pos ih M.pos
theorem wd_ht {T:Twr}{ws:List Nat}(h:Wd T ws):T.ht=ws.length:=by
 induction h with
 | gr hp=>rfl
 | @up T ws M al hn w ih=>rw[List.length_append];show T.ht+1=ws.length+1;rw[ih]
theorem part_shy {p:Nat}{hp:p∈PR}{ps:List El}{ws:List Nat}{T:Twr}(b:Bld hp ps ws T)(hl:ws.length≤5):∀ e∈ps,lenD (toD e)≤13∧Shy 8 3500 (toD e):=by
 induction b with
 | nil=>intro e he;simp at he
 | @snoc ps ws T M b al hn hd hlt ih=>
  have hl':ws.length≤4:=by rw[List.length_append,List.length_singleton] at hl;omega
  intro e he
  rcases List.mem_append.mp he with h | h
  ·exact ih (by omega) e h
  ·rw[List.mem_singleton.mp h]
   have wd:=b.wd
   have d1:=wd_d1 wd
   have m1:=M.pos
   have hM:M.n≤12:=Nat.le_trans (Nat.le_mul_of_pos_left _ d1) hd
   have hT:T.d≤12:=Nat.le_trans (Nat.le_mul_of_pos_right _ m1) hd
   have hht:=wd_ht wd
   have hw:wdt ws≤12*(2+4*4):=Nat.le_trans wd.deg (Nat.mul_le_mul hT (by omega))
   have e1:toD (polE T (M.n+1) M.f)=.list (((List.range (M.n+1)).map fun i=>T.enc (M.f.c i)).map toD):=by
    show PyData.list (toDs _)=_
    rw[toDs_map]
   rw[e1]
   refine⟨?_,?_⟩
   ·show (List.map toD _).length≤13
    rw[List.length_map,List.length_map,List.length_range];omega
   ·refine (shy_list (k:=7) (n:=216) (fun e he=>?_) ?_)
    ·obtain⟨y,hy,rfl⟩:=List.mem_map.mp he
     obtain⟨i,_,rfl⟩:=List.mem_map.mp hy
     exact (shy_el wd _).mono (by omega) (by omega)
    ·rw[List.length_map,List.length_map,List.length_range]
     have:(M.n+1)*(216+2)≤13*(216+2):=Nat.mul_le_mul_right _ (by omega)
     omega
theorem dl_append {H:Hp}{l:Addr}{xs ys:List V}{ds es:List PyData}(h:H l=some (.lst (xs++ys)))(lx:xs.length=ds.length)(ly:ys.length=es.length)(hx:∀ (i:Nat) x d,xs[i]?=some x→ds[i]?=some d→Dl H x d)(hy:∀ (i:Nat) x d,ys[i]?=some x→es[i]?=some d→Dl H x d):Dl H (.ref l) (.list (ds++es)):=.lst h (by rw[List.length_append,List.length_append,lx,ly]) fun i x d h1 h2=>by
 by_cases c:i<xs.length
 ·rw[List.getElem?_append_left c] at h1
  rw[List.getElem?_append_left (by omega)] at h2
  exact hx i x d h1 h2
 ·rw[List.getElem?_append_right (by omega)] at h1
  rw[List.getElem?_append_right (by omega)] at h2
  rw[lx] at h1
  exact hy _ x d h1 h2
def spNotAlone (CG CS CT:Addr):Sp:=fun vs H Q _=>∃ (a pl b wl:Addr) (T:Twr) (ws:List Nat) (ps:List El) (hp:T.p∈PR),vs=[.ref a,.ref pl,.ref b,.ref wl]∧Bag H b∧IsF CG CS CT (del H b) a T∧Rep (del H b) Any (.ref pl) (.vec ps)∧H wl=some (.lst (wv ws))∧wl≠b∧Bld hp ps ws T∧ws.length≤5∧
 ∀ r d H',NewO H b H'→Bag H' b→BadV H' hp r d→Q r H'
theorem ok_q_not_alone (B:Blt mg)(O:TwE P w K mg base 29 (IsF CG CS CT))(mk_Tower:MakerE P w K mg base 36 "Tower" CT ["self","p","parts"] (spInitP CG CS CT))(d_q_take:Dfn P w K mg base 1 "_law_take" ["_law_bag_here","_law_many"] (spTake K))(d_q_element:Dfn P w K mg base 8 "_law_element" ["_law_bag_here","_law_p","_law_wides"] (spElem K 7))(d_q_product:Dfn P w K mg base 30 "_law_product" ["_law_tower_here","_law_u","_law_v"] (spProd2 (IsF CG CS CT)))(F:Src K mg "_law_not_alone" s_q_not_alone ["_law_tower_here","_law_parts","_law_bag_here","_law_wides"]):Dfn P w K mg base 38 "_law_not_alone" ["_law_tower_here","_law_parts","_law_bag_here","_law_wides"] (spNotAlone CG CS CT):=by
 refine F.ok sc_q_not_alone (fun vs H Q E h=>?_) (fun fa cdv A outer s H vs Q E hr h=>?_)
 ·obtain⟨a,pl,b,wl,T,ws,ps,hp,rfl,_⟩:=h;rfl
 obtain⟨a,pl,b,wl,T,ws,ps,hp,rfl,⟨gb,rb,eb⟩,jd,rpl,hw,hwb,bl,hlw,q⟩:=h
 refine⟨_,pss_cons (ps_set (i:=4) sc_q_not_alone.nd rfl (Or.inr rfl) (pe_def d_q_take hr (pa_cons (pv 2) (pa_cons (pe_op op_add pe_int (pe_callB (call_min2 rfl) rfl B.«min» bt_min (pa_cons pe_int (pa_cons (pe_callB (callK_len (K:=K) rfl) rfl B.«len» bt_len (pa_cons (pv 1) pa_nil)) pa_nil)))) pa_nil)) (by first|decide|omega)))
  (pss_cons (ps_set (i:=5) sc_q_not_alone.nd rfl (Or.inl rfl) (pe_mkrE mk_Tower pass_no hr (pa_cons (pe_fldK (K:=K) rfl (pv 0)) (pa_cons (pe_slice (slK_list (K:=K) rfl) (pv 1) po_none (po_some (pv 4))) pa_nil))))
  (pss_cons (ps_setC (i:=6) sc_q_not_alone.nd rfl (Or.inl rfl) (compScope_mk (N:=["_law_k","_law_bag_here","_law_tower_here","_law_wides","_law_at"]) (sl:=[none,some 2,some 0,some 3,some 4]) (defScope s_q_not_alone) ["_law_tower_here","_law_parts","_law_bag_here","_law_wides","_law_at","_law_lower","_law_some","_law_more"] rfl rfl (by decide +kernel)) rfl (pi_range1 rfl B.«range» (pa_cons pe_int pa_nil)) (fun _ _ _ _ _=>(pg_name (i:=0) (by show List.Nodup (["_law_k","_law_bag_here","_law_tower_here","_law_wides","_law_at"]:List Str);decide +kernel) rfl (Or.inl rfl))) (fun _ _ _ _ _=>pif_none) (fun _ _ _ _ _=>(pe_def d_q_element hr (pa_cons (pv 1) (pa_cons (pe_fldK (K:=K) rfl (pv 2)) (pa_cons (pe_slice (slK_list (K:=K) rfl) (pv 3) po_none (po_some (pv 4))) pa_nil))) (by first|decide|omega))))
  (pss_cons (ps_set (i:=7) sc_q_not_alone.nd rfl (Or.inl rfl) (pe_lst (pa_cons (pe_mth0 O.one hr (pv 5) ) (pa_cons (pe_mth0 O.zero hr (pv 5) ) pa_nil))))
  (pss_one (ps_ret (pe_op op_cat (pe_slice (slK_list (K:=K) rfl) (pv 1) po_none (po_some (pv 4))) (pe_slice (slK_list (K:=K) rfl) (pe_lst (pa_cons (pe_def d_q_product hr (pa_cons (pv 5) (pa_cons (pe_ix (ixK_list (K:=K) rfl) (pv 6) pe_int (fun _ _=>rfl)) (pa_cons (pe_ix (ixK_list (K:=K) rfl) (pv 6) pe_int (fun _ _=>rfl)) pa_nil))) (by first|decide|omega)) (pa_cons (pe_lst (pa_cons (pv 7) (pa_cons (pv 7) pa_nil))) pa_nil))) po_none (po_some (pe_op op_sub pe_int (pv 4)))))))))),?_⟩
 rw[vec_of] at rpl
 obtain⟨pl',pv,epl,hpl,_,cpl⟩:=rpl.cf
 obtain rfl:pl=pl':=V.ref.inj epl
 have hplH:=(del_same _ _) _ _ hpl
 have hplb:pl≠b:=(del_inv hpl).1
 have lpv:pv.length=ws.length:=by rw[cpl.len,bl.len]
 have lps:ps.length=ws.length:=bl.len
 have hbd:=O.bd jd
 refine⟨_,rfl,_,rfl,pl,_,rfl,.inl (SqL.of hplH),_,_,rfl,_,_,rfl,rfl,b,gb,rb,_,rfl,eb,?_,?_,fun d1 g1 r1 d10 d11=>?_⟩
 ·show (0:Int)<1+(if (pv.length:Int)<4 then (pv.length:Int) else 4)
  split <;> omega
 ·have:(1:Int)+(if (pv.length:Int)<4 then (pv.length:Int) else 4)<100:=by split <;> omega
  have h0:(0:Int)≤1+(if (pv.length:Int)<4 then (pv.length:Int) else 4):=by split <;> omega
  exact Bd.mono (m:=64) (Bd.small (by omega) (by omega)) (by decide)
 obtain⟨at',rfl⟩:=Int.eq_ofNat_of_zero_le d10
 have hat:at'≤4∧at'≤pv.length:=by
  have h:(at':Int)<1+(if (pv.length:Int)<4 then (pv.length:Int) else 4):=d11
  by_cases c:(pv.length:Int)<4
  ·rw[if_pos c] at h;omega
  ·rw[if_neg c] at h;omega
 clear d10 d11
 have n1:NewO H b (upd H b (.lst [.int g1,.int r1])):=(NewO.refl H b).upd _
 have e1:(upd H b (.lst [.int g1,.int r1])) b=some (.lst [.int g1,.int r1]):=upd_same
 generalize upd H b (.lst [.int g1,.int r1])=H1 at n1 e1
 have jat:∀ {H2:Hp},NewO H b H2→IsF CG CS CT (del H2 b) a T:=fun g=>jd.mono g.del
 obtain⟨bT,bl'⟩:=bld_take bl at' (by omega)
 obtain⟨C,dx,fs,hins,hcl,hna,hlk⟩:=O.fld ((jat n1).mono (del_same _ _))
 refine⟨_,rfl,a,C,dx,_,_,rfl,hins,hcl,hna,hlk,_,rfl,_,rfl,_,rfl,pl,_,rfl,SqL.of (n1 _ _ hplb hplH),fun l2 hl2=>?_⟩
 rw[cutV_vs pv at' hat.2]
 have k2:=same_new hl2 (.lst (pv.take at'))
 have rl2:Rep (upd H1 l2 (.lst (pv.take at'))) Any (.ref l2) (.vec (ps.take at')):=by
  rw[vec_of,List.length_take,Nat.min_eq_left (by omega)]
  refine (((cpl.take (m:=at') (by omega)).same ((n1.del.trans (del_same _ _)).trans k2)).congr fun i hi=>?_).rep upd_same trivial
  rw[List.getD_eq_getElem?_getD,List.getD_eq_getElem?_getD,List.getElem?_take_of_lt hi]
 have e2:=k2 _ _ e1
 have n2:=n1.trans (NewO.of (b:=b) k2)
 generalize upd H1 l2 (.lst (pv.take at'))=H2 at k2 rl2 e2 n2
 intro x dx' nx ndx hne
 have hpb:bT.p=T.p:=bl'.p
 refine⟨rfl,x,dx',T.p,hp,.ref l2,ps.take at',bT,H2,rfl,upd_same,(same_new ndx _).free_upd nx _,nx,rl2,by rw[List.length_take];omega,bl'.up,fun bt w1 w2 H3 g3 e3 ok nok jq=>⟨rfl,?_⟩⟩
 have jx:IsF CG CS CT (del H3 b) x bT:=jq.isF.mono (nw_del e2)
 have s13:=k2.trans g3
 have n3:=n2.trans (NewO.of (b:=b) g3)
 have e3b:H3 b=some (.lst [.int g1,.int r1]):=g3 _ _ e2
 have wd':=bl'.wd
 have ecw:cutV (wv ws) none (some (at':Int))=wv (ws.take at'):=by
  rw[cutV_vs _ _ (by unfold wv;rw[List.length_map];omega)]
  unfold wv
  rw[List.map_take]
 refine⟨_,rfl,by decide,by decide,fun L hL=>?_⟩
 have hLb:L≠b:=fun z=>by rw[z,e3b] at hL;cases hL
 refine comp_range (n:=2) (fun j ys H4=>NewO H3 b H4∧Bag H4 b∧∃ c:Nat→bT.α,Cf H4 (Off H3 L) ys j fun j=>bT.enc (c j)) ⟨(NewO.refl H3 b).free_upd hL _,⟨_,_,by rw[upd_ne (fun z=>hLb z.symm)];exact e3b⟩,fun _=>0,.nil⟩ ?_ ?_
 ·rintro j m' ys H4 hm hj hy hlen ⟨g4,hb4,cc,cy⟩
  have n4:=n3.trans g4
  obtain⟨C,dx,fs,hins,hcl,hna,hlk⟩:=O.fld ((jat n4).mono (del_same _ _))
  refine⟨_,rfl,_,rfl,a,C,dx,_,_,rfl,hins,hcl,hna,hlk,_,rfl,_,rfl,_,rfl,wl,_,rfl,SqL.of (n4 _ _ hwb hw),fun l5 hl5=>?_⟩
  rw[ecw]
  have k5:=same_new hl5 (.lst (wv (ws.take at')))
  have hl5b:l5≠b:=fun z=>by obtain⟨g,r,e⟩:=hb4;rw[z,e] at hl5;cases hl5
  refine⟨b,l5,bT,ws.take at',by rw[hpb];rfl,by obtain⟨g,r,e⟩:=hb4;exact⟨g,r,k5 _ _ e⟩,upd_same,hl5b,wd',by rw[List.length_take];omega,by decide,fun x1 r8 H8 g8 hb8 rr8=>?_⟩
  have g48:NewO H4 b H8:=(NewO.of (b:=b) k5).trans g8
  have hb4':∃ o,H4 b=some o:=by obtain⟨g,r,e⟩:=hb4;exact⟨_,e⟩
  have okD:∀ c,Off H3 L c→c≠b:=fun c kk z=>by have:=kk.1;rw[z] at this;rw[show H3 b=none from this] at e3b;cases e3b
  refine CW.emit hm hj (by rw[sizeLine_eq];omega) (g48 _ _ hLb hy) hlen ⟨(g4.trans g48).free_upd hL _,?_,fun k=>if k=j then x1 else cc k,?_⟩
  ·obtain⟨g,r,e⟩:=hb8
   exact⟨g,r,by rw[upd_ne (fun z=>hLb z.symm)];exact e⟩
  ·refine (Cf.push ((cy.newO g48 okD).congr fun k hk=>by show bT.enc (cc k)=bT.enc (if k=j then x1 else cc k);rw[if_neg (by omega)]) ?_).upd
   show Rep H8 (Off H3 L) r8 (bT.enc (if j=j then x1 else cc j))
   rw[if_pos rfl]
   refine rr8.imp fun c o h kk=>⟨h,g4.fresh hb4' (k5.free kk),fun z=>?_⟩
   rw[z] at kk
   have:=k5 _ _ hy
   rw[show _=none from kk] at this
   cases this
 rintro ys H4 hy ⟨g4,hb4,cc,cy⟩
 show gName 6 (V.ref L) _ _ _
 have n4:=n3.trans g4
 have jx4:IsF CG CS CT H4 x bT:=(jx.mono g4.del).mono (del_same _ _)
 refine⟨_,rfl,x,rfl,⟨bT,jx4⟩,fun _ h=>h,x,bT,rfl,jx4,fun r5 H5 g5 rr5=>?_⟩
 refine⟨_,rfl,x,rfl,⟨bT,O.mono g5 jx4⟩,fun _ h=>h,x,bT,rfl,O.mono g5 jx4,fun r6 H6 g6 rr6=>?_⟩
 refine⟨len_ok rfl,fun l7 hl7=>?_⟩
 have k7:=same_new hl7 (.lst [r5,r6])
 have g57:=(g5.trans g6).trans k7
 have r7:Rep (upd H6 l7 (.lst [r5,r6])) Any (.ref l7) (.vec [bT.enc 1,bT.enc 0]):=rep_list upd_same trivial (.cons (rr5.same (g6.trans k7)).any (.cons (rr6.same k7).any .nil))
 generalize upd H6 l7 (.lst [r5,r6])=H7 at k7 g57 r7
 have n7:=n4.trans (NewO.of (b:=b) g57)
 refine⟨_,rfl,_,rfl,_,rfl,pl,_,rfl,SqL.of (n7 _ _ hplb hplH),fun l8 hl8=>?_⟩
 rw[cutV_vs pv at' hat.2]
 have k8:=same_new hl8 (.lst (pv.take at'))
 have g58:=g57.trans k8
 have h8:(upd H7 l8 (.lst (pv.take at'))) l8=some (.lst (pv.take at')):=upd_same
 replace r7:=r7.same k8
 generalize upd H7 l8 (.lst (pv.take at'))=H8 at k8 g58 h8 r7
 obtain⟨u,hu,ru⟩:=cy.at_ 0 (by decide)
 obtain⟨v,hv,rv⟩:=cy.at_ 1 (by decide)
 have jx8:=O.mono g58 jx4
 refine⟨_,rfl,_,rfl,L,_,_,_,rfl,rfl,SqL.of (g58 _ _ hy),atI_nat (j:=0) hu,_,rfl,L,_,_,_,rfl,rfl,SqL.of (g58 _ _ hy),atI_nat (j:=1) hv,x,bT,u,v,cc 0,cc 1,rfl,jx8,(ru.same g58).any,(rv.same g58).any,fun r9 H9 g9 rr9=>?_⟩
 refine⟨_,rfl,_,rfl,len_ok rfl,fun l10 hl10=>?_⟩
 have k10:=same_new hl10 (.lst [.ref l7,.ref l7])
 have r10:Rep (upd H9 l10 (.lst [.ref l7,.ref l7])) Any (.ref l10) (.vec [.vec [bT.enc 1,bT.enc 0],.vec [bT.enc 1,bT.enc 0]]):=rep_list upd_same trivial (.cons ((r7.same g9).same k10) (.cons ((r7.same g9).same k10) .nil))
 have g10:=g9.trans k10
 have rr10:=(rr9.same k10).any
 generalize upd H9 l10 (.lst [.ref l7,.ref l7])=H10 at k10 r10 g10 rr10
 refine⟨len_ok rfl,fun l11 hl11=>?_⟩
 have k11:=same_new hl11 (.lst [r9,.ref l10])
 have h11:(upd H10 l11 (.lst [r9,.ref l10])) l11=some (.lst [r9,.ref l10]):=upd_same
 have g11:=g10.trans k11
 generalize upd H10 l11 (.lst [r9,.ref l10])=H11 at k11 h11 g11
 refine⟨_,rfl,_,_,rfl,rfl,_,rfl,l11,_,rfl,SqL.of h11,fun l12 hl12=>?_⟩
 obtain⟨zs,es,hz,lz,iz⟩:∃ zs es,cutV [r9,.ref l10] none (some ((5:Int) - (at':Int)))=zs∧zs.length=1+es.length∧((zs=[r9]∧es=[])∨(zs=[r9,.ref l10]∧es=[toD (.vec [.vec [bT.enc 1,bT.enc 0],.vec [bT.enc 1,bT.enc 0]])])):=by
  have h4:=hat.1
  have:at'=0∨at'=1∨at'=2∨at'=3∨at'=4:=by omega
  rcases this with rfl | rfl | rfl | rfl | rfl
  ·exact⟨_,_,rfl,rfl,.inr ⟨rfl,rfl⟩⟩
  ·exact⟨_,_,rfl,rfl,.inr ⟨rfl,rfl⟩⟩
  ·exact⟨_,_,rfl,rfl,.inr ⟨rfl,rfl⟩⟩
  ·exact⟨_,_,rfl,rfl,.inr ⟨rfl,rfl⟩⟩
  ·exact⟨_,_,rfl,rfl,.inl ⟨rfl,rfl⟩⟩
 have hz':cutV [r9,.ref l10] none (some ((fun i j:Int=>i - j) 5 (at':Int)))=zs:=hz
 rw[show cutV [r9,V.ref l10] none (some ((5:Int) - (at':Int)))=zs from hz]
 have k12:=same_new hl12 (.lst zs)
 have zl:zs.length≤2:=by rcases iz with ⟨h,_⟩ | ⟨h,_⟩ <;> rw[h] <;> simp
 refine⟨l8,l12,_,_,rfl,rfl,k12 _ _ (g11 _ _ h8),upd_same,by rw[List.length_take,sizeLine_eq];omega,fun l13 hl13=>?_⟩
 have k13:=same_new hl13 (.lst (pv.take at'++zs))
 have h13:(upd (upd H11 l12 (.lst zs)) l13 (.lst (pv.take at'++zs))) l13=some (.lst (pv.take at'++zs)):=upd_same
 have gF:=(k11.trans k12).trans k13
 have gA:=g58.trans (g10.trans gF)
 generalize upd (upd H11 l12 (.lst zs)) l13 (.lst (pv.take at'++zs))=HF at k13 h13 gF gA
 have nF:=n4.trans (NewO.of (b:=b) gA)
 have hbF:Bag HF b:=by obtain⟨g,r,e⟩:=hb4;exact⟨g,r,gA _ _ e⟩
 have lw5:ws.length≤5:=hlw
 have shyp:=part_shy bl lw5
 have wb5:(ws.take at').length≤4:=by rw[List.length_take];omega
 have hT12:bT.d≤12:=(O.bd jx8).1
 have hw':wdt (ws.take at')≤12*(2+4*4):=Nat.le_trans wd'.deg (Nat.mul_le_mul hT12 (by omega))
 have hht':=wd_ht wd'
 have shE:∀ y:bT.α,Shy 7 216 (toD (bT.enc y)):=fun y=>(shy_el wd' y).mono (by omega) (by omega)
 have sh9:Shy 8 3500 (toD (.vec [bT.enc (cc 0*cc 1),bT.enc (cc 0+cc 1),bT.enc 1])):=(shy_list (k:=7) (n:=216) (ds:=[toD (bT.enc (cc 0*cc 1)),toD (bT.enc (cc 0+cc 1)),toD (bT.enc 1)]) (fun e he=>by
  simp only[List.mem_cons,List.not_mem_nil,or_false] at he
  rcases he with rfl | rfl | rfl <;> exact shE _) (by show 3*(216+2)+2≤3500;decide))
 have shm:Shy 8 500 (toD (.vec [bT.enc 1,bT.enc 0])):=shy_list (k:=7) (n:=216) (ds:=[toD (bT.enc 1),toD (bT.enc 0)]) (fun e he=>by
  simp only[List.mem_cons,List.not_mem_nil,or_false] at he
  rcases he with rfl | rfl <;> exact shE _) (by show 2*(216+2)+2≤500;decide)
 have shmm:Shy 9 3500 (toD (.vec [.vec [bT.enc 1,bT.enc 0],.vec [bT.enc 1,bT.enc 0]])):=shy_list (k:=8) (n:=500) (ds:=[toD (.vec [bT.enc 1,bT.enc 0]),toD (.vec [bT.enc 1,bT.enc 0])]) (fun e he=>by
  simp only[List.mem_cons,List.not_mem_nil,or_false] at he
  rcases he with rfl | rfl <;> exact shm) (by show 2*(500+2)+2≤3500;decide)
 have items:∀ e∈(ps.take at').map toD++(toD (.vec [bT.enc (cc 0*cc 1),bT.enc (cc 0+cc 1),bT.enc 1])::es),lenD e≤13∧Shy 9 3500 e:=fun e he=>by
  rcases List.mem_append.mp he with h | h
  ·obtain⟨y,hy,rfl⟩:=List.mem_map.mp h
   have:=shyp y (List.mem_of_mem_take hy)
   exact⟨this.1,this.2.mono (by omega) (by omega)⟩
  ·rcases List.mem_cons.mp h with rfl | h
   ·exact⟨by show 3≤13;decide,sh9.mono (by omega) (by omega)⟩
   ·rcases iz with ⟨_,rfl⟩ | ⟨_,rfl⟩
    ·simp at h
    ·rw[List.mem_singleton.mp h];exact⟨by show 2≤13;decide,shmm⟩
 have llen:((ps.take at').map toD++(toD (.vec [bT.enc (cc 0*cc 1),bT.enc (cc 0+cc 1),bT.enc 1])::es)).length≤7:=by
  rw[List.length_append,List.length_map,List.length_take,List.length_cons]
  omega
 refine q _ (.list ((ps.take at').map toD++(toD (.vec [bT.enc (cc 0*cc 1),bT.enc (cc 0+cc 1),bT.enc 1])::es))) HF nF hbF ⟨?_,?_,?_,?_,?_⟩
 ·have c2:=((cpl.take (m:=at') (by omega)).same ((nF.del).trans (del_same _ _)))
  refine dl_append h13 (by rw[List.length_take,List.length_map,List.length_take];omega) (by rw[lz,List.length_cons];omega) (fun i y d h1 h2=>?_) (fun i y d h1 h2=>?_)
  ·obtain⟨hi,ry⟩:=c2.get h1
   rw[List.getElem?_map,List.getElem?_take_of_lt hi] at h2
   have e:ps[i]?=some (ps.getD i (.num 0)):=by rw[List.getD_eq_getElem?_getD,List.getElem?_eq_getElem (by omega)];rfl
   rw[e] at h2
   cases h2
   exact ry.dl
  ·rcases iz with ⟨rfl,rfl⟩ | ⟨rfl,rfl⟩
   ·match i,h1,h2 with
    | 0,h1,h2=>cases h1;cases h2;exact (rr10.same gF).dl
    | i+1,h1,h2=>simp at h1
   ·match i,h1,h2 with
    | 0,h1,h2=>cases h1;cases h2;exact (rr10.same gF).dl
    | 1,h1,h2=>cases h1;cases h2;exact (r10.same gF).dl
    | i+2,h1,h2=>simp at h1
 ·exact Nat.le_trans llen (by decide)
 ·intro ds e x hx
  cases e
  exact Nat.le_trans (items x hx).1 (by decide)
 ·refine ((shy_list (k:=9) (n:=3500) (m:=30000) (fun e he=>(items e he).2) ?_).mono (by decide) (by decide))
  have:(_:Nat)*(3500+2)≤7*(3500+2):=Nat.mul_le_mul_right _ llen
  omega
 ·exact no_more bl'.up fun M hM=>absurd hM not_prod
end
section
variable {P:Program} {w:World} {K:FrQ} {mg:Str→Option Value} {base:Heap} {CG CS CT:Addr} {k:Nat} {J:L2.Kind}
structure TowP (CG CS CT:Addr)(H H':Hp)(a pl wl:Addr)(T:Twr)(ws:List Nat)(ps:List El)(ok:Addr→Prop):Prop where
 tow:IsFq CG CS CT ok ps (nw H H') a T
 nl:H wl=none
 nwl:¬ ok wl
 wl:H' wl=some (.lst (wv ws))
 len:ws.length≤5
 np:H pl=none
 pl:Rep H' (fun c=>NewB H c∧¬ ok c) (.ref pl) (.vec ps)
 nb:∀ c,ok c→H c=none
 bld:∃ hp:T.p∈PR,Bld hp ps ws T
def spTowerP (CG CS CT:Addr):Sp:=fun vs H Q _=>∃ b:Addr,vs=[.ref b]∧Bag H b∧∀ (t a pl wl:Addr) (T:Twr) (ws:List Nat) (ps:List El) (ok:Addr→Prop) H',NewO H b H'→Bag H' b→H t=none→H' t=some (.tup [.ref a,.ref pl,.ref wl])→TowP CG CS CT H H' a pl wl T ws ps ok→Q (.ref t) H'
theorem rep_and {H:Hp}{ok1 ok2:Addr→Prop}{v:V}{e:El}(h:Rep H ok1 v e):Rep H ok2 v e→Rep H (fun c=>ok1 c∧ok2 c) v e:=by
 induction h with
 | num n=>intro _;exact .num n
 | @vec a vs l h k hl _ ih=>
  intro h2
  generalize hw:V.ref a=w at h2
  generalize he:El.vec l=e2 at h2
  cases h2 with
  | num n=>cases hw
  | @vec a' vs' l' h' k' hl' it'=>
   cases hw
   cases he
   rw[h] at h'
   cases h'
   exact .vec h ⟨k,k'⟩ hl fun i v e h1 h2=>ih i v e h1 h2 (it' i v e h1 h2)
theorem ok_q_tower2 (B:Blt mg)(O:TwE P w K mg base 29 (IsF CG CS CT))(mk_Tower:MakerE P w K mg base 36 "Tower" CT ["self","p","parts"] (spInitP CG CS CT))(d_q_take:Dfn P w K mg base 1 "_law_take" ["_law_bag_here","_law_many"] (spTake K))(d_q_part:Dfn P w K mg base 35 "_law_part" ["_law_bag_here","_law_tower_here","_law_wides","_law_many"] (spPart CG CS CT))(F:Src K mg "_law_tower" s_q_tower ["_law_bag_here"]):Dfn P w K mg base 38 "_law_tower" ["_law_bag_here"] (spTowerP CG CS CT):=by
 refine F.ok sc_q_tower (fun vs H Q E h=>?_) (fun fa cdv A outer s H vs Q E hr h=>?_)
 ·obtain⟨b,rfl,_⟩:=h;rfl
 obtain⟨b,rfl,⟨g,r,hb⟩,q⟩:=h
 refine⟨_,pss_cons (ps_set (i:=1) sc_q_tower.nd rfl (Or.inl rfl) (pe_ix (ixK_list (K:=K) rfl) (pe_lst (pa_cons pe_int (pa_cons pe_int (pa_cons pe_int (pa_cons pe_int (pa_cons pe_int (pa_cons pe_int (pa_cons pe_int (pa_cons pe_int (pa_cons pe_int (pa_cons pe_int (pa_cons pe_int (pa_cons pe_int (pa_cons pe_int (pa_cons pe_int (pa_cons pe_int (pa_cons pe_int (pa_cons pe_int (pa_cons pe_int pa_nil))))))))))))))))))) (pe_def d_q_take hr (pa_cons (pv 0) (pa_cons pe_int pa_nil)) (by first|decide|omega)) (fun _ _=>rfl)))
  (pss_cons (ps_set (i:=2) sc_q_tower.nd rfl (Or.inl rfl) (pe_ix (ixK_list (K:=K) rfl) (pe_lst (pa_cons pe_int (pa_cons pe_int pa_nil))) (pe_callTy call_int1 rfl B.«int» bt_int (pa_cons (pe_cmpR op_lt (pv 1) pe_int (nomark _)) pa_nil)) (fun _ _=>rfl)))
  (pss_cons (ps_if (pt_cmpR op_eq (pe_def d_q_take hr (pa_cons (pv 0) (pa_cons pe_int pa_nil)) (by first|decide|omega)) pe_int (nomark _))
   (pss_cons (ps_set (i:=1) sc_q_tower.nd rfl (Or.inl rfl) (pe_op op_add pe_int (pe_op op_modN (pv 1) pe_int)))
   (pss_one (ps_set (i:=2) sc_q_tower.nd rfl (Or.inl rfl) (pe_ix (ixK_list (K:=K) rfl) (pe_lst (pa_cons pe_int (pa_cons pe_int pa_nil))) (pe_op op_modN (pv 1) pe_int) (fun _ _=>rfl)))))
   (pss_nil))
  (pss_cons (ps_set (i:=3) sc_q_tower.nd rfl (Or.inl rfl) (pe_lst pa_nil))
  (pss_cons (ps_set (i:=4) sc_q_tower.nd rfl (Or.inl rfl) (pe_lst pa_nil))
  (pss_cons (ps_set (i:=5) sc_q_tower.nd rfl (Or.inl rfl) (pe_mkrE mk_Tower pass_no hr (pa_cons (pv 1) (pa_cons (pe_lst pa_nil) pa_nil))))
  (pss_cons (ps_for PassesOwn.never rfl (pi_range1 rfl B.«range» (pa_cons (pe_ix (ixK_list (K:=K) rfl) (pe_lst (pa_cons pe_int (pa_cons pe_int (pa_cons pe_int (pa_cons pe_int (pa_cons pe_int (pa_cons pe_int (pa_cons pe_int (pa_cons pe_int pa_nil))))))))) (pe_def d_q_take hr (pa_cons (pv 0) (pa_cons pe_int pa_nil)) (by first|decide|omega)) (fun _ _=>rfl)) pa_nil)) (pg_name (i:=6) sc_q_tower.nd rfl (Or.inl rfl))
   (pss_cons (ps_set (i:=7) sc_q_tower.nd rfl (Or.inl rfl) (pe_def d_q_part hr (pa_cons (pv 0) (pa_cons (pv 5) (pa_cons (pv 3) (pa_cons (pe_op op_add pe_int (pe_def d_q_take hr (pa_cons (pv 0) (pa_cons (pe_callB (call_min2 rfl) rfl B.«min» bt_min (pa_cons pe_int (pa_cons (pv 2) pa_nil))) pa_nil)) (by first|decide|omega))) pa_nil)))) (by first|decide|omega)))
   (pss_cons (ps_expr (pe_bm PySem.F.plainAttrs_list PySem.F.slot_list_append PySem.F.type_list_append mt_append (pv 3) (pa_cons (pe_op op_sub (pe_callB (callK_len (K:=K) rfl) rfl B.«len» bt_len (pa_cons (pv 7) pa_nil)) pe_int) pa_nil)))
   (pss_cons (ps_expr (pe_bm PySem.F.plainAttrs_list PySem.F.slot_list_append PySem.F.type_list_append mt_append (pv 4) (pa_cons (pv 7) pa_nil)))
   (pss_cons (ps_set (i:=2) sc_q_tower.nd rfl (Or.inl rfl) (pe_op op_fdivW (pv 2) (pe_op op_sub (pe_callB (callK_len (K:=K) rfl) rfl B.«len» bt_len (pa_cons (pv 7) pa_nil)) pe_int)))
   (pss_one (ps_set (i:=5) sc_q_tower.nd rfl (Or.inl rfl) (pe_mkrE mk_Tower pass_no hr (pa_cons (pv 1) (pa_cons (pv 4) pa_nil))))))))))
  (pss_one (ps_ret (pe_tup (pa_cons (pv 5) (pa_cons (pv 4) (pa_cons (pv 3) pa_nil)))))))))))),?_⟩
 walk_at "rd"
 intro l1 hl1
 have k1:=same_new hl1 (.lst [.int 2,.int 3,.int 2,.int 5,.int 3,.int 7,.int 2,.int 11,.int 13,.int 17,.int 19,.int 23,.int 29,.int 31,.int 37,.int 41,.int 43,.int 47])
 have hl1b:l1≠b:=(ne_of_none hb hl1).symm
 refine⟨_,rfl,b,g,r,18,rfl,k1 _ _ hb,by decide,Bd.mono (m:=64) (Bd.small (by decide) (by decide)) (by decide),fun d g1 r1 d0 d1=>?_⟩
 obtain⟨p0,hp0,p1,p2⟩:=pick (xs:=[.int 2,.int 3,.int 2,.int 5,.int 3,.int 7,.int 2,.int 11,.int 13,.int 17,.int 19,.int 23,.int 29,.int 31,.int 37,.int 41,.int 43,.int 47]) (P:=fun n=>n.toNat∈PR∧0≤n) d0 d1 (by
  intro v hv
  simp only[List.mem_cons,List.not_mem_nil,or_false] at hv
  rcases hv with rfl | rfl | rfl | rfl | rfl | rfl | rfl | rfl | rfl | rfl | rfl | rfl | rfl | rfl | rfl | rfl | rfl | rfl <;> exact⟨_,rfl,by decide,by decide⟩)
 refine⟨l1,_,_,_,rfl,rfl,SqL.of (by rw[upd_ne hl1b];exact upd_same),hp0,?_⟩
 have n1:NewO H b (upd (upd H l1 (.lst [.int 2,.int 3,.int 2,.int 5,.int 3,.int 7,.int 2,.int 11,.int 13,.int 17,.int 19,.int 23,.int 29,.int 31,.int 37,.int 41,.int 43,.int 47])) b (.lst [.int g1,.int r1])):=(NewO.of k1).upd _
 have e1:(upd (upd H l1 (.lst [.int 2,.int 3,.int 2,.int 5,.int 3,.int 7,.int 2,.int 11,.int 13,.int 17,.int 19,.int 23,.int 29,.int 31,.int 37,.int 41,.int 43,.int 47])) b (.lst [.int g1,.int r1])) b=some (.lst [.int g1,.int r1]):=upd_same
 generalize upd (upd H l1 (.lst [.int 2,.int 3,.int 2,.int 5,.int 3,.int 7,.int 2,.int 11,.int 13,.int 17,.int 19,.int 23,.int 29,.int 31,.int 37,.int 41,.int 43,.int 47])) b (.lst [.int g1,.int r1])=H1 at n1 e1
 walk_at "rd"
 intro l2 hl2
 have k2:=same_new hl2 (.lst [.int 4,.int 6])
 refine⟨_,rfl,_,_,rfl,rfl,.inr ⟨_,rfl,?_⟩⟩
 obtain⟨room0,hr0,q1,q2⟩:=pick (xs:=[.int 4,.int 6]) (i:=if decide (p0<8)=true then 1 else 0) (P:=fun n=>1≤n∧n≤12) (by split <;> decide) (by split <;> decide) (by
  intro v hv
  simp only[List.mem_cons,List.not_mem_nil,or_false] at hv
  rcases hv with rfl | rfl <;> exact⟨_,rfl,by decide,by decide⟩)
 refine⟨l2,_,_,_,rfl,rfl,SqL.of upd_same,hr0,?_⟩
 have n2:=n1.trans (NewO.of (b:=b) k2)
 have e2:=k2 _ _ e1
 generalize upd H1 l2 (.lst [.int 4,.int 6])=H2 at n2 e2
 refine⟨_,rfl,b,g1,r1,8,rfl,e2,by decide,Bd.mono (m:=64) (Bd.small (by decide) (by decide)) (by decide),fun d2 g2 r2 d20 d21=>?_⟩
 have n3:=n2.upd (.lst [.int g2,.int r2])
 have e3:(upd H2 b (.lst [.int g2,.int r2])) b=some (.lst [.int g2,.int r2]):=upd_same
 generalize upd H2 b (.lst [.int g2,.int r2])=H3 at n3 e3
 apply merge (M:=fun σ HM=>NewO H b HM∧HM b=some (.lst [.int g2,.int r2])∧∃ (pn room:Nat),σ=[some (.ref b),some (.int (pn:Int)),some (.int (room:Int)),none,none,none,none,none]∧pn∈PR∧1≤room∧room≤12)
 case h1=>
  intro key
  refine⟨rfl,_,rfl,ite2 (fun c=>?_) (fun c=>?_)⟩
  ·have r3:=fmod_range p0 (y:=2) (by decide)
   refine⟨_,rfl,_,_,rfl,rfl,(show (2:Int)≠0 by decide),_,_,rfl,rfl,?_⟩
   show gName 1 (V.int (2+p0.fmod 2)) _ _ _
   obtain⟨pn,epn,hpn⟩:∃ pn:Nat,2+p0.fmod 2=(pn:Int)∧pn∈PR:=by
    have:p0.fmod 2=0∨p0.fmod 2=1:=by omega
    rcases this with z | z
    ·exact⟨2,by rw[z];rfl,by decide⟩
    ·exact⟨3,by rw[z];rfl,by decide⟩
   rw[epn]
   refine⟨len_ok rfl,fun l4 hl4=>?_⟩
   have k4:=same_new hl4 (.lst [.int 12,.int 8])
   have r4:=fmod_range (pn:Int) (y:=2) (by decide)
   obtain⟨room1,hr1,q3,q4⟩:=pick (xs:=[.int 12,.int 8]) (i:=(pn:Int).fmod 2) (P:=fun n=>1≤n∧n≤12) r4.1 r4.2 (by
    intro v hv
    simp only[List.mem_cons,List.not_mem_nil,or_false] at hv
    rcases hv with rfl | rfl <;> exact⟨_,rfl,by decide,by decide⟩)
   refine⟨_,rfl,_,_,rfl,rfl,(show (2:Int)≠0 by decide),l4,_,_,_,rfl,rfl,SqL.of upd_same,hr1,?_⟩
   obtain⟨rn,rfl⟩:=Int.eq_ofNat_of_zero_le (show 0≤room1 by omega)
   exact key _ _ ⟨n3.trans (NewO.of k4),k4 _ _ e3,pn,rn,rfl,hpn,by omega,by omega⟩
  ·obtain⟨pn,rfl⟩:=Int.eq_ofNat_of_zero_le p2
   obtain⟨rn,rfl⟩:=Int.eq_ofNat_of_zero_le (show 0≤room0 by omega)
   exact key _ _ ⟨n3,e3,pn,rn,rfl,by rw[Int.toNat_natCast] at p1;exact p1,by omega,by omega⟩
 case h2=>
  rintro σ HM ⟨nM,eM,pn,room,rfl,hpn,rm1,rm2⟩
  refine⟨len_ok rfl,fun wl hwl=>?_⟩
  have kw:=same_new hwl (.lst [])
  refine⟨len_ok rfl,fun pl hpl=>?_⟩
  have kp:=same_new hpl (.lst [])
  have hwp:wl≠pl:=fun z=>by rw[z] at hpl;rw[upd_same] at hpl;cases hpl
  have eS:(upd (upd HM wl (.lst [])) pl (.lst [])) b=some (.lst [.int g2,.int r2]):=kp _ _ (kw _ _ eM)
  have ewl:(upd (upd HM wl (.lst [])) pl (.lst [])) wl=some (.lst []):=kp _ _ upd_same
  have epl:(upd (upd HM wl (.lst [])) pl (.lst [])) pl=some (.lst []):=upd_same
  have nS:NewO H b (upd (upd HM wl (.lst [])) pl (.lst [])):=nM.trans (NewO.of (kw.trans kp))
  have hwlH:H wl=none:=nM.fresh ⟨_,eM⟩ hwl
  have hplH:H pl=none:=nM.fresh ⟨_,eM⟩ (kw.free hpl)
  generalize upd (upd HM wl (.lst [])) pl (.lst [])=HS at eS ewl epl nS
  have bwl:wl≠b:=(ne_of_none hb hwlH).symm
  have bpl:pl≠b:=(ne_of_none hb hplH).symm
  refine⟨_,rfl,len_ok rfl,fun l5 hl5=>?_⟩
  have k5:=same_new hl5 (.lst [])
  intro x dx nx ndx hne
  have pp:=pr_pos hpn
  refine⟨rfl,x,dx,pn,hpn,.ref l5,[],ground pn hpn,upd HS l5 (.lst []),rfl,upd_same,(same_new ndx _).free_upd nx _,nx,.vec upd_same trivial rfl (fun i _ _ h=>by simp at h),by decide,.nil,fun bt v1 v2 H6 g6 e6 ok0 nok0 jP=>⟨rfl,?_⟩⟩
  have gS6:Same HS H6:=k5.trans g6
  have hxS:HS x=none:=k5.free nx
  have jF:IsFq CG CS CT ok0 [] (nw HS H6) x (ground pn hpn):=jP.mono (nw_older k5)
  refine⟨len_ok rfl,fun l7 hl7=>?_⟩
  have k7:=same_new hl7 (.lst [.int 0,.int 1,.int 1,.int 2,.int 2,.int 3,.int 1,.int 5])
  have gS7:=gS6.trans k7
  have e7:=gS7 _ _ eS
  have l7b:l7≠b:=fun z=>by rw[z] at hl7;rw[gS6 _ _ eS] at hl7;cases hl7
  refine⟨_,rfl,b,g2,r2,8,rfl,e7,by decide,Bd.mono (m:=64) (Bd.small (by decide) (by decide)) (by decide),fun d3 g3 r3 d30 d31=>?_⟩
  obtain⟨cnt,hcnt,q5,q6⟩:=pick (xs:=[.int 0,.int 1,.int 1,.int 2,.int 2,.int 3,.int 1,.int 5]) (P:=fun n=>0≤n∧n≤5) d30 d31 (by
   intro v hv
   simp only[List.mem_cons,List.not_mem_nil,or_false] at hv
   rcases hv with rfl | rfl | rfl | rfl | rfl | rfl | rfl | rfl <;> exact⟨_,rfl,by decide,by decide⟩)
  refine⟨l7,_,_,_,rfl,rfl,SqL.of (by rw[upd_ne l7b];exact upd_same),hcnt,_,rfl,by omega,by omega,?_⟩
  obtain⟨cn,rfl⟩:=Int.eq_ofNat_of_zero_le q5
  rw[Int.toNat_natCast]
  have nS7:NewO HS b (upd (upd H6 l7 (.lst [.int 0,.int 1,.int 1,.int 2,.int 2,.int 3,.int 1,.int 5])) b (.lst [.int g3,.int r3])):=(NewO.of gS7).upd _
  have e8:(upd (upd H6 l7 (.lst [.int 0,.int 1,.int 1,.int 2,.int 2,.int 3,.int 1,.int 5])) b (.lst [.int g3,.int r3])) b=some (.lst [.int g3,.int r3]):=upd_same
  have s67:∀ c o,HS c=none→H6 c=some o→(upd (upd H6 l7 (.lst [.int 0,.int 1,.int 1,.int 2,.int 2,.int 3,.int 1,.int 5])) b (.lst [.int g3,.int r3])) c=some o:=fun c o hc e=>by
   rw[upd_ne (fun z=>by rw[z,eS] at hc;cases hc)];exact k7 _ _ e
  generalize upd (upd H6 l7 (.lst [.int 0,.int 1,.int 1,.int 2,.int 2,.int 3,.int 1,.int 5])) b (.lst [.int g3,.int r3])=H8 at nS7 e8 s67
  have jF8:=jF.mono (nw_step s67)
  refine for_range (fun i σ H9=>NewO H b H9∧Bag H9 b∧(∀ c,H9 c=none→HS c=none)∧∃ (room:Nat) (a:Addr) (T:Twr) (ps:List El) (ws:List Nat) (pvs:List V) (o1 o2:Option V) (ok:Addr→Prop),σ=[some (.ref b),some (.int (pn:Int)),some (.int (room:Int)),some (.ref wl),some (.ref pl),some (.ref a),o1,o2]∧
   H9 wl=some (.lst (wv ws))∧H9 pl=some (.lst pvs)∧Cf H9 (NewB HS) pvs i (fun j=>ps.getD j (.num 0))∧ps.length=i∧ws.length=i∧(IsFq CG CS CT ok ps (nw HS H9) a T∧(∀ c,ok c→HS c=none)∧Cf H9 (fun c=>¬ ok c) pvs i (fun j=>ps.getD j (.num 0)))∧Wd T ws∧Up 0 ps (ground pn hpn) T∧Bld hpn ps ws T∧1≤room∧T.d*room≤12) ?_ ?_ ?_
  ·refine⟨nS.trans nS7,⟨_,_,e8⟩,fun c hc=>nS7.fresh ⟨_,e8⟩ hc,room,x,ground pn hpn,[],[],[],_,_,ok0,rfl,nS7 _ _ bwl ewl,nS7 _ _ bpl epl,.nil,rfl,rfl,⟨jF8,fun c hc=>k5.free (nok0 c hc),.nil⟩,.gr hpn,.nil,.nil,rm1,?_⟩
   show 1*room≤12
   omega
  ·rintro i σ H9 hi ⟨n9,⟨g9,r9,e9⟩,dom9,room,a,T,ps,ws,pvs,o1,o2,ok,rfl,hw9,hp9,cp9,lps,lws,⟨jF9,nok9,cn9⟩,wd,up,bl,rm1,hd⟩
   have hTp:T.p=pn:=up.p
   refine⟨_,rfl,_,rfl,_,rfl,_,rfl,_,rfl,_,_,rfl,?_⟩
   obtain⟨mm,emm,m1,m2,m3⟩:∃ mm:Nat,(if (room:Int)<4 then (room:Int) else 4)=(mm:Int)∧1≤mm∧mm≤4∧mm≤room:=by
    by_cases c:(room:Int)<4
    ·exact⟨room,by rw[if_pos c],rm1,by omega,Nat.le_refl _⟩
    ·exact⟨4,by rw[if_neg c];rfl,by decide,by decide,by omega⟩
   rw[emm]
   refine⟨b,g9,r9,(mm:Int),rfl,e9,by omega,Bd.mono (m:=64) (Bd.small (by omega) (by omega)) (by decide),fun d4 g10 r10 d40 d41=>?_⟩
   obtain⟨dn,rfl⟩:=Int.eq_ofNat_of_zero_le d40
   have n10:=n9.upd (.lst [.int g10,.int r10])
   have e10:(upd H9 b (.lst [.int g10,.int r10])) b=some (.lst [.int g10,.int r10]):=upd_same
   have st10:∀ c o,c≠b→H9 c=some o→(upd H9 b (.lst [.int g10,.int r10])) c=some o:=fun c o hc e=>by rw[upd_ne hc];exact e
   generalize upd H9 b (.lst [.int g10,.int r10])=H10 at n10 e10 st10
   have hSb:∀ c,HS c=none→c≠b:=fun c hc z=>by rw[z,eS] at hc;cases hc
   have jF10:=jF9.mono (nw_step fun c o hc e=>st10 c o (hSb c hc) e)
   refine⟨_,_,rfl,rfl,?_⟩
   have edn:(1:Int)+(dn:Int)=((1+dn:Nat):Int):=by omega
   refine⟨b,a,wl,T,ws,1+dn,by rw[← edn];rfl,⟨_,_,e10⟩,(jF10.mono (nw_del eS)).isF,st10 _ _ bwl hw9,bwl,wd,by omega,by omega,by omega,fun M rp H11 al hMm hlt n11 hb11 rr11=>?_⟩
   obtain⟨lp,vsp,rfl,hlp,nlp,cpp⟩:=id rr11.cf
   have hM1:=M.pos
   have w10:=st10 _ _ bwl hw9
   have p10:=st10 _ _ bpl hp9
   have hw11:=n11 _ _ bwl w10
   have hp11:=n11 _ _ bpl p10
   have dom10:∀ c,H10 c=none→HS c=none:=fun c hc=>dom9 c (by
    cases e:H9 c with
    | none=>rfl
    | some o=>
     have hcb:c≠b:=fun z=>by rw[z,e10] at hc;cases hc
     rw[st10 c o hcb e] at hc;cases hc)
   have dom11:∀ c,H11 c=none→HS c=none:=fun c hc=>dom10 c (n11.fresh (by obtain⟨g,r,e⟩:=hb11;exact⟨_,e⟩) hc)
   have hlpw:lp≠wl:=fun z=>by rw[z] at nlp;rw[show H10 wl=none from nlp] at w10;cases w10
   have hlpp:lp≠pl:=fun z=>by rw[z] at nlp;rw[show H10 pl=none from nlp] at p10;cases p10
   have elen:(vsp.length:Int) - 1=(M.n:Int):=by rw[cpp.len];omega
   have ew:wv ws++[(fun i j:Int=>V.int (i - j)) (vsp.length:Int) 1]=wv (ws++[M.n]):=by
    show wv ws++[V.int ((vsp.length:Int) - 1)]=_
    rw[elen];unfold wv;simp
   refine⟨_,rfl,.inl ⟨rfl,_,SqL.of hw11⟩,_,rfl,lp,_,rfl,.inl (SqL.of hlp),_,_,rfl,rfl,wl,_,_,rfl,rfl,hw11,by unfold wv;rw[List.length_map,sizeLine_eq];omega,?_⟩
   rw[ew]
   have eP12:(upd H11 wl (.lst (wv (ws++[M.n])))) pl=some (.lst pvs):=by rw[upd_ne hwp.symm];exact hp11
   refine⟨_,rfl,.inl ⟨rfl,_,SqL.of eP12⟩,_,rfl,pl,pvs,_,rfl,rfl,eP12,by rw[cp9.len,sizeLine_eq];omega,?_⟩
   have st13:∀ c o,c≠wl→c≠pl→H11 c=some o→(upd (upd H11 wl (.lst (wv (ws++[M.n])))) pl (.lst (pvs++[.ref lp]))) c=some o:=fun c o h1 h2 e=>by rw[upd_ne h2,upd_ne h1];exact e
   have w13:(upd (upd H11 wl (.lst (wv (ws++[M.n])))) pl (.lst (pvs++[.ref lp]))) wl=some (.lst (wv (ws++[M.n]))):=by rw[upd_ne hwp];exact upd_same
   have p13:(upd (upd H11 wl (.lst (wv (ws++[M.n])))) pl (.lst (pvs++[.ref lp]))) pl=some (.lst (pvs++[.ref lp])):=upd_same
   have n13:NewO H b (upd (upd H11 wl (.lst (wv (ws++[M.n])))) pl (.lst (pvs++[.ref lp]))):=((n10.trans n11).free_upd hwlH _).free_upd hplH _
   generalize upd (upd H11 wl (.lst (wv (ws++[M.n])))) pl (.lst (pvs++[.ref lp]))=H13 at st13 w13 p13 n13
   have hlp13:=st13 _ _ hlpw hlpp hlp
   have dom13:∀ c,H13 c=none→HS c=none:=fun c hc=>by
    by_cases z1:c=wl
    ·rw[z1,w13] at hc;cases hc
    ·by_cases z2:c=pl
     ·rw[z2,p13] at hc;cases hc
     ·refine dom11 c ?_
      cases e:H11 c with
      | none=>rfl
      | some o=>rw[st13 c o z1 z2 e] at hc;cases hc
   have offw:∀ c,HS c=none→c≠wl:=fun c hc z=>by rw[z,ewl] at hc;cases hc
   have offp:∀ c,HS c=none→c≠pl:=fun c hc z=>by rw[z,epl] at hc;cases hc
   have s913:∀ c o,HS c=none→H9 c=some o→H13 c=some o:=fun c o hc e=>st13 c o (offw c hc) (offp c hc) (n11 _ _ (hSb c hc) (st10 _ _ (hSb c hc) e))
   have c13:Cf H13 (NewB HS) (pvs++[.ref lp]) (i+1) fun j=>(ps++[polE T (M.n+1) M.f]).getD j (.num 0):=by
    refine Cf.push ((cp9.imp fun c o h kk=>⟨s913 c o kk h,kk⟩).congr fun j hj=>?_) ?_
    ·rw[List.getD_eq_getElem?_getD,List.getD_eq_getElem?_getD,List.getElem?_append_left (by omega)]
    ·have eg:(ps++[polE T (M.n+1) M.f]).getD i (.num 0)=polE T (M.n+1) M.f:=by
      rw[List.getD_eq_getElem?_getD,← lps,List.getElem?_concat_length];rfl
     rw[eg]
     exact rr11.imp fun c o h kk=>⟨st13 c o (offw c (dom10 c kk)) (offp c (dom10 c kk)) h,dom10 c kk⟩
   refine⟨_,rfl,_,rfl,lp,_,rfl,.inl (SqL.of hlp13),_,_,rfl,rfl,_,_,rfl,rfl,?_,?_⟩
   ·show CDivW _ ((vsp.length:Int) - 1)
    rw[elen]
    exact (Bd.small (x:=(M.n:Int)) (by omega) (by omega)).dv (by omega)
   show gName 2 (V.int ((room:Int).fdiv ((vsp.length:Int) - 1))) _ _ _
   rw[elen,int_div]
   have hn100:M.n≤100:=by omega
   have hMr:M.n≤room:=by omega
   have hdM:T.d*M.n≤12:=Nat.le_trans (Nat.mul_le_mul_left _ hMr) hd
   refine⟨_,rfl,_,rfl,fun x' dx' nx' ndx' hne'=>?_⟩
   have llen:(ps++[polE T (M.n+1) M.f]).length=i+1:=by rw[List.length_append,lps];rfl
   refine⟨rfl,x',dx',pn,hpn,.ref pl,ps++[polE T (M.n+1) M.f],T.up M al.alone hn100,H13,rfl,upd_same,(same_new ndx' _).free_upd nx' _,nx',?_,by omega,up.snoc al hn100 hdM (hlt.imp (fun z=>by rw[z] at lws;simp at lws;omega) id),fun bt' v1' v2' H14 g14 e14 ok1 nok1 jP1=>⟨rfl,?_⟩⟩
   ·rw[vec_of,llen]
    exact (c13.imp fun c o h _=>⟨h,trivial⟩).rep p13 trivial
   ·refine⟨n13.trans (NewO.of g14),?_,fun c hc=>dom13 c (g14.free hc),room / M.n,x',T.up M al.alone hn100,ps++[polE T (M.n+1) M.f],ws++[M.n],pvs++[.ref lp],_,_,ok1,rfl,g14 _ _ w13,g14 _ _ p13,c13.same g14,llen,by rw[List.length_append,lws];rfl,?_,.up al.alone hn100 wd,up.snoc al hn100 hdM (hlt.imp (fun z=>by rw[z] at lws;simp at lws;omega) id),bl.snoc al hn100 hdM (hlt.imp (fun z=>by rw[z] at lws;simp at lws;rw[← lws] at lps;exact List.eq_nil_of_length_eq_zero lps) id),Nat.div_pos hMr hM1,?_⟩
    ·obtain⟨g,r,e⟩:=hb11
     exact⟨g,r,g14 _ _ (st13 _ _ bwl.symm bpl.symm e)⟩
    ·refine⟨jP1.mono (nw_dom dom13),fun c hc=>dom13 c (nok1 c hc),c13.imp fun c o h kk=>⟨g14 _ _ h,fun z=>?_⟩⟩
     rw[nok1 c z] at h;cases h
    ·show T.d*M.n*(room / M.n)≤12
     rw[Nat.mul_assoc]
     exact Nat.le_trans (Nat.mul_le_mul_left _ (Nat.mul_div_le _ _)) hd
  ·rintro σ H9 ⟨n9,hb9,dom9,room,a,T,ps,ws,pvs,o1,o2,ok,rfl,hw9,hp9,cp9,lps,lws,⟨jF9,nok9,cn9⟩,wd,up,bl,rm1,hd⟩
   have hTp:T.p=pn:=up.p
   refine⟨_,rfl,_,rfl,_,rfl,len_ok rfl,fun t ht=>?_⟩
   have kt:=same_new ht (.tup [.ref a,.ref pl,.ref wl])
   have nt':NewO H b _:=n9.trans (NewO.of (b:=b) kt)
   have fS:∀ c,HS c=none→H c=none:=fun c hc=>nS.fresh ⟨_,eS⟩ hc
   refine q t a pl wl T ws ps ok _ nt' (by obtain⟨g,r,e⟩:=hb9;exact⟨g,r,kt _ _ e⟩) (fS t (dom9 t ht)) upd_same ⟨jF9.mono ((nw_mono kt).trans (nw_dom fS)),hwlH,fun z=>?_,kt _ _ hw9,by omega,hplH,?_,fun c hc=>fS c (nok9 c hc),?_⟩
   ·have:=nok9 _ z
    rw[ewl] at this;cases this
   ·rw[vec_of,lps]
    refine Cf.rep (vs:=pvs) ⟨cp9.len,fun j hj=>?_⟩ (kt _ _ hp9) ⟨hplH,fun z=>?_⟩
    ·obtain⟨v1,hv1,r1⟩:=cp9.at_ j hj
     obtain⟨v2,hv2,r2⟩:=cn9.at_ j hj
     rw[hv1] at hv2
     cases hv2
     exact⟨v1,hv1,rep_and (r1.imp fun c o h kk=>⟨kt _ _ h,fS c kk⟩) (r2.same kt)⟩
    ·have:=nok9 _ z
     rw[epl] at this;cases this
   ·subst hTp
    exact⟨hpn,bl⟩
inductive DL (G:Hp):List V→List PyData→Prop where
 | nil:DL G [] []
 | cons {v:V} {e:PyData} {vs:List V} {es:List PyData} (a:Dl G v e) (r:DL G vs es):DL G (v::vs) (e::es)
theorem DL.get {G:Hp}{vs:List V}{es:List PyData}(h:DL G vs es):vs.length=es.length∧∀ (i:Nat) v e,vs[i]?=some v→es[i]?=some e→Dl G v e:=by
 induction h with
 | nil=>exact⟨rfl,fun i v e h=>by simp at h⟩
 | cons a _ ih=>
  refine⟨by rw[List.length_cons,List.length_cons,ih.1],fun i v e h1 h2=>?_⟩
  cases i with
  | zero=>cases h1;cases h2;exact a
  | succ i=>exact ih.2 i v e h1 h2
theorem DL.l {G:Hp}{l:Addr}{vs:List V}{es:List PyData}(h:G l=some (.lst vs))(d:DL G vs es):Dl G (.ref l) (.list es):=.lst h d.get.1 d.get.2
theorem DL.t {G:Hp}{l:Addr}{vs:List V}{es:List PyData}(h:G l=some (.tup vs))(d:DL G vs es):Dl G (.ref l) (.tuple es):=.tup h d.get.1 d.get.2
theorem rep_uniq {H:Hp}{ok1 ok2:Addr→Prop}{v:V}{e:El}(h:Rep H ok1 v e):∀ {e':El},Rep H ok2 v e'→e=e':=by
 induction h with
 | num n=>intro e' h2;cases h2;rfl
 | @vec a vs l h k hl _ ih=>
  intro e' h2
  generalize hw:V.ref a=w at h2
  cases h2 with
  | num n=>cases hw
  | @vec a' vs' l' h' k' hl' it'=>
   cases hw
   rw[h] at h'
   cases h'
   congr 1
   refine List.ext_getElem? fun i=>?_
   cases e1:vs[i]? with
   | none=>
    have:=List.getElem?_eq_none_iff.mp e1
    rw[List.getElem?_eq_none_iff.mpr (by omega),List.getElem?_eq_none_iff.mpr (by omega)]
   | some y=>
    have hi:=(List.getElem?_eq_some_iff.mp e1).1
    have e2:l[i]?=some (l[i]'(by omega)):=List.getElem?_eq_getElem _
    have e3:l'[i]?=some (l'[i]'(by omega)):=List.getElem?_eq_getElem _
    rw[e2,e3,ih i y _ e1 e2 (it' i y _ e1 e3)]
structure Mut (ok:Addr→Prop)(H0 H:Hp)(n:Nat):Prop where
 out:∀ c o,¬ ok c→H0 c=some o→H c=some o
 lst:∀ c xs,ok c→H0 c=some (.lst xs)→∃ ys,H c=some (.lst ys)∧xs.length≤ys.length∧ys.length≤xs.length+n∧∀ v,ys[0]?=some v→v=.non∨(∃ i,v=.int i)∨xs[0]?=some v
theorem Mut.refl (ok:Addr→Prop)(H:Hp):Mut ok H H 0:=⟨fun _ _ _ e=>e,fun c xs _ e=>⟨xs,e,Nat.le_refl _,Nat.le_refl _,fun v h=>.inr (.inr h)⟩⟩
theorem Mut.app {ok:Addr→Prop}{H0 H:Hp}{n:Nat}(m:Mut ok H0 H n){c:Addr}{xs ys:List V}(hc:ok c)(h0:H0 c=some (.lst xs))(h:H c=some (.lst ys))(k:Int):Mut ok H0 (upd H c (.lst (ys++[.int k]))) (n+1):=by
 refine⟨fun d o hd e=>by rw[upd_ne (fun z:d=c=>hd (by rw[z];exact hc))];exact m.out d o hd e,fun d zs hd e=>?_⟩
 by_cases z:d=c
 ·subst z
  rw[h0] at e
  cases e
  obtain⟨ys',e1,e2,e3,e4⟩:=m.lst d xs hd h0
  rw[h] at e1
  cases e1
  refine⟨_,upd_same,by rw[List.length_append];omega,by rw[List.length_append];show _+1≤_;omega,fun v hv=>?_⟩
  cases ys with
  | nil=>cases hv;exact .inr (.inl ⟨k,rfl⟩)
  | cons y ys=>exact e4 v hv
 ·obtain⟨ys',e1,e2,e3,e4⟩:=m.lst d zs hd e
  exact⟨ys',by rw[upd_ne z];exact e1,e2,by omega,e4⟩
theorem Mut.set {ok:Addr→Prop}{H0 H:Hp}{n:Nat}(m:Mut ok H0 H n){c:Addr}{xs ys:List V}(hc:ok c)(h0:H0 c=some (.lst xs))(h:H c=some (.lst ys)):Mut ok H0 (upd H c (.lst (ys.set 0 .non))) n:=by
 refine⟨fun d o hd e=>by rw[upd_ne (fun z:d=c=>hd (by rw[z];exact hc))];exact m.out d o hd e,fun d zs hd e=>?_⟩
 by_cases z:d=c
 ·subst z
  rw[h0] at e
  cases e
  obtain⟨ys',e1,e2,e3,e4⟩:=m.lst d xs hd h0
  rw[h] at e1
  cases e1
  refine⟨_,upd_same,by rw[List.length_set];omega,by rw[List.length_set];omega,fun v hv=>?_⟩
  cases ys with
  | nil=>cases hv
  | cons y ys=>cases hv;exact .inl rfl
 ·obtain⟨ys',e1,e2,e3,e4⟩:=m.lst d zs hd e
  exact⟨ys',by rw[upd_ne z];exact e1,e2,e3,e4⟩
theorem bld_mem {p:Nat}{hp:p∈PR}{ps:List El}{ws:List Nat}{T:Twr}(b:Bld hp ps ws T):∀ e∈ps,∃ (T0:Twr) (M:Md T0.α),e=polE T0 (M.n+1) M.f∧M.n≤12:=by
 induction b with
 | nil=>intro e he;simp at he
 | @snoc ps ws T M b al hn hd hl ih=>
  intro e he
  rcases List.mem_append.mp he with h | h
  ·exact ih e h
  ·have d1:=wd_d1 b.wd
   exact⟨T,M,List.mem_singleton.mp h,Nat.le_trans (Nat.le_mul_of_pos_left _ d1) hd⟩
theorem enc_or {T:Twr}(x:T.α):(∃ i,T.enc x=.num i)∨∃ l,T.enc x=.vec l∧l.length≤100:=by
 have h:=T.fl x
 cases e:T.enc x with
 | num i=>exact .inl ⟨i,rfl⟩
 | vec l=>
  rw[e] at h
  generalize T.ht=n at h
  cases h with
  | vec h1 _=>exact .inr ⟨l,rfl,h1⟩
def spApart (CG CS CT:Addr):Sp:=fun vs H Q _=>∃ (a pl b wl:Addr) (T:Twr) (ws:List Nat) (ps:List El) (hp:T.p∈PR) (ok:Addr→Prop),vs=[.ref a,.ref pl,.ref b,.ref wl]∧Bag H b∧¬ ok b∧IsFq CG CS CT ok ps (del H b) a T∧Rep (del H b) (fun c=>¬ ok c) (.ref pl) (.vec ps)∧H wl=some (.lst (wv ws))∧wl≠b∧Bld hp ps ws T∧ws.length≤5∧
 ∀ H',(∀ c o,¬ ok c→c≠b→H c=some o→H' c=some o)→Q (.bl true) H'
theorem ok_q_parts_apart (B:Blt mg)(c:ClT K CT)(O:TwE P w K mg base 29 (IsF CG CS CT))(mk_Tower:MakerE P w K mg base 36 "Tower" CT ["self","p","parts"] (spInitP CG CS CT))(d_q_element:Dfn P w K mg base 8 "_law_element" ["_law_bag_here","_law_p","_law_wides"] (spElem K 7))(F:Src K mg "_law_parts_apart" s_q_parts_apart ["_law_tower_here","_law_parts","_law_bag_here","_law_wides"]):Dfn P w K mg base 38 "_law_parts_apart" ["_law_tower_here","_law_parts","_law_bag_here","_law_wides"] (spApart CG CS CT):=by
 refine F.ok sc_q_parts_apart (fun vs H Q E h=>?_) (fun fa cdv A outer s H vs Q E hr h=>?_)
 ·obtain⟨a,pl,b,wl,T,ws,ps,hp,ok,rfl,_⟩:=h;rfl
 obtain⟨a,pl,b,wl,T,ws,ps,hp,ok,rfl,⟨gb,rb,eb⟩,nob,jd,rpl,hw,hwb,bl,hlw,q⟩:=h
 refine⟨_,pss_cons (ps_asg (pe_comp (compScope_mk (N:=["_law_k","_law_bag_here","_law_wides","_law_tower_here"]) (sl:=[none,some 2,some 3,some 0]) (defScope s_q_parts_apart) ["_law_tower_here","_law_parts","_law_bag_here","_law_wides","_law_u","_law_v","_law_ahead","_law_field","_law_part_here"] rfl rfl (by decide +kernel)) rfl (pi_range1 rfl B.«range» (pa_cons pe_int pa_nil)) (fun _ _ _ _ _=>(pg_name (i:=0) (by show List.Nodup (["_law_k","_law_bag_here","_law_wides","_law_tower_here"]:List Str);decide +kernel) rfl (Or.inl rfl))) (fun _ _ _ _ _=>pif_none) (fun _ _ _ _ _=>(pe_def d_q_element hr (pa_cons (pv 1) (pa_cons (pe_fldK (K:=K) rfl (pv 3)) (pa_cons (pv 2) pa_nil))) (by first|decide|omega)))) (pgK_lst (n:=2) (K:=K) rfl rfl (pgs_cons (pg_name (i:=4) sc_q_parts_apart.nd rfl (Or.inl rfl)) (pgs_cons (pg_name (i:=5) sc_q_parts_apart.nd rfl (Or.inl rfl)) pgs_nil))))
  (pss_cons (ps_set (i:=6) sc_q_parts_apart.nd rfl (Or.inl rfl) (pe_lst (pa_cons (pe_mth O.times hr (pv 0) (pa_cons (pv 4) (pa_cons (pv 5) pa_nil))) (pa_cons (pe_mth0 O.degree hr (pv 0) ) (pa_cons (pe_mth O.is_element hr (pv 0) (pa_cons (pv 4) pa_nil)) pa_nil)))))
  (pss_cons (ps_set (i:=7) sc_q_parts_apart.nd rfl (Or.inl rfl) (pe_fldK (K:=K) rfl (pv 0)))
  (pss_cons (ps_for PassesOwn.never rfl (piK_list (K:=K) rfl (pv 7)) (pg_name (i:=8) sc_q_parts_apart.nd rfl (Or.inl rfl))
   (pss_cons (ps_if (pt_val (pe_callB (callK_isinst (K:=K) rfl) rfl B.«isinstance» bt_isinstance (pa_cons (pe_ix (ixK_list (K:=K) rfl) (pv 8) pe_int (fun _ _=>rfl)) (pa_cons (pe_bltn (v:=.ty "list") rfl B.«list» bt_list rfl) pa_nil))))
    (pss_one (ps_expr (pe_bm PySem.F.plainAttrs_list PySem.F.slot_list_append PySem.F.type_list_append mt_append (pe_ix (ixK_list (K:=K) rfl) (pv 8) pe_int (fun _ _=>rfl)) (pa_cons pe_int pa_nil))))
    (pss_nil))
   (pss_cons (ps_asg pe_non (pg_sub (pv 8) pe_int set_list))
   (pss_one (ps_expr (pe_bm PySem.F.plainAttrs_list PySem.F.slot_list_append PySem.F.type_list_append mt_append (pv 8) (pa_cons pe_int pa_nil)))))))
  (pss_cons (ps_expr (pe_bm PySem.F.plainAttrs_list PySem.F.slot_list_append PySem.F.type_list_append mt_append (pv 7) (pa_cons pe_int pa_nil)))
  (pss_cons (ps_if (pt_cmpR (opK_neD (K:=K) rfl hr.units) (pe_lst (pa_cons (pe_mth O.times hr (pv 0) (pa_cons (pv 4) (pa_cons (pv 5) pa_nil))) (pa_cons (pe_mth0 O.degree hr (pv 0) ) (pa_cons (pe_mth O.is_element hr (pv 0) (pa_cons (pv 4) pa_nil)) pa_nil)))) (pv 6) (nomark _))
   (pss_one (ps_ret pe_bl))
   (pss_nil))
  (pss_one (ps_ret (pe_and (pe_cmpR (opK_eqD (K:=K) rfl hr.units) (pe_fldK (K:=K) rfl (pe_mkrE mk_Tower pass_no hr (pa_cons (pe_fldK (K:=K) rfl (pv 0)) (pa_cons (pv 1) pa_nil)))) (pv 1) (nomark _)) (pe_one (pe_cmpR (opK_eqD (K:=K) rfl hr.units) (pe_mth O.times hr (pe_mkrE mk_Tower pass_no hr (pa_cons (pe_fldK (K:=K) rfl (pv 0)) (pa_cons (pv 1) pa_nil))) (pa_cons (pv 4) (pa_cons (pv 5) pa_nil))) (pe_ix (ixK_list (K:=K) rfl) (pv 6) pe_int (fun _ _=>rfl)) (nomark _))))))))))),?_⟩
 have wd:=bl.wd
 have jat:∀ {H2:Hp},NewO H b H2→IsFq CG CS CT ok ps (del H2 b) a T:=fun g=>jd.mono g.del
 have okH:∀ c,ok c→∃ o,H c=some o:=fun c hc=>by
  obtain⟨dx,bb,v1,v2,h1,h2,h3,_⟩:=jd
  obtain⟨o,e⟩:=h3 c hc
  exact⟨o,(del_inv e).2⟩
 refine mseqF (fun i:V×V=>[some (.ref a),some (.ref pl),some (.ref b),some (.ref wl),some i.1,some i.2,none,none,none]) (fun i H4=>NewO H b H4∧∃ x y:T.α,Rep H4 (fun c=>¬ ok c) i.1 (T.enc x)∧Rep H4 (fun c=>¬ ok c) i.2 (T.enc y)) (fun C key=>?_) ?_
 ·skip
  refine⟨_,rfl,by decide,by decide,fun L hL=>?_⟩
  have hLb:L≠b:=fun z=>by rw[z,eb] at hL;cases hL
  refine comp_range (n:=2) (fun j ys H4=>NewO H b H4∧Bag H4 b∧∃ c:Nat→T.α,Cf H4 (Off H L) ys j fun j=>T.enc (c j)) ⟨(NewO.refl H b).free_upd hL _,⟨_,_,by rw[upd_ne (fun z=>hLb z.symm)];exact eb⟩,fun _=>0,.nil⟩ ?_ ?_
  ·rintro j m' ys H4 hm hj hy hlen ⟨g4,hb4,cc,cy⟩
   obtain⟨C,dx,fs,hins,hcl,hna,hlk⟩:=O.fld ((jat g4).isF.mono (del_same _ _))
   refine⟨_,rfl,_,rfl,a,C,dx,_,_,rfl,hins,hcl,hna,hlk,_,rfl,b,wl,T,ws,rfl,hb4,g4 _ _ hwb hw,hwb,wd,by omega,by decide,fun x1 r8 H8 g8 hb8 rr8=>?_⟩
   have hb4':∃ o,H4 b=some o:=by obtain⟨g,r,e⟩:=hb4;exact⟨_,e⟩
   have okD:∀ c,Off H L c→c≠b:=fun c kk z=>by have:=kk.1;rw[z] at this;rw[show H b=none from this] at eb;cases eb
   refine CW.emit hm hj (by rw[sizeLine_eq];omega) (g8 _ _ hLb hy) hlen ⟨(g4.trans g8).free_upd hL _,?_,fun k=>if k=j then x1 else cc k,?_⟩
   ·obtain⟨g,r,e⟩:=hb8
    exact⟨g,r,by rw[upd_ne (fun z=>hLb z.symm)];exact e⟩
   ·refine (Cf.push ((cy.newO g8 okD).congr fun k hk=>by show T.enc (cc k)=T.enc (if k=j then x1 else cc k);rw[if_neg (by omega)]) ?_).upd
    show Rep H8 (Off H L) r8 (T.enc (if j=j then x1 else cc j))
    rw[if_pos rfl]
    refine rr8.imp fun c o h kk=>⟨h,g4.fresh hb4' kk,fun z=>?_⟩
    rw[z] at kk
    rw[show _=none from kk] at hy
    cases hy
  rintro ys H4 hy ⟨g4,hb4,cc,cy⟩
  obtain⟨u,hu,ru⟩:=cy.at_ 0 (by decide)
  obtain⟨v,hv,rv⟩:=cy.at_ 1 (by decide)
  have hys:=two_of' cy.len hu hv
  subst hys
  have ru:Rep H4 (fun c=>¬ ok c) u (T.enc (cc 0)):=ru.imp fun c o h kk=>⟨h,fun z=>by obtain⟨o,e⟩:=okH c z;have:=kk.1;rw[show H c=none from this] at e;cases e⟩
  have rv:Rep H4 (fun c=>¬ ok c) v (T.enc (cc 1)):=rv.imp fun c o h kk=>⟨h,fun z=>by obtain⟨o,e⟩:=okH c z;have:=kk.1;rw[show H c=none from this] at e;cases e⟩
  exact⟨L,_,rfl,SqL.of hy,rfl,_,_,rfl,_,_,rfl,rfl,key (u,v) _ ⟨g4,_,_,ru,rv⟩⟩
 rintro⟨u,v⟩ H4 ⟨g4,x0,y0,ru,rv⟩
 have j4:=(jat g4).isF.mono (del_same _ _)
 refine mseqF (fun l:Addr=>[some (.ref a),some (.ref pl),some (.ref b),some (.ref wl),some u,some v,some (.ref l),none,none]) (fun l H8=>Same H4 H8∧H4 l=none∧∃ r5,H8 l=some (.lst [r5,.int (T.d:Int),.bl true])∧Rep H8 (NewB H4) r5 (T.enc (x0*y0))) (fun C key=>?_) ?_
 ·skip
  refine⟨_,rfl,a,rfl,⟨T,j4⟩,_,rfl,_,rfl,fun _ h=>h,a,T,u,v,x0,y0,rfl,j4,ru.any,rv.any,fun r5 H5 g5 rr5=>?_⟩
  refine⟨_,rfl,a,rfl,⟨T,O.mono g5 j4⟩,fun _ h=>h,a,T,rfl,O.mono g5 j4,fun H6 g6=>?_⟩
  have g46:=g5.trans g6
  refine⟨_,rfl,a,rfl,⟨T,O.mono g46 j4⟩,_,rfl,fun _ h=>h,a,T,u,_,rfl,O.mono g46 j4,(ru.same g46).den,fun _ H7 g7=>?_,fun z=>absurd ⟨_,rfl⟩ z⟩
  have g47:=g46.trans g7
  refine⟨len_ok rfl,fun l8 hl8=>?_⟩
  have k8:=same_new hl8 (.lst [r5,.int (T.d:Int),.bl true])
  have h8:(upd H7 l8 (.lst [r5,.int (T.d:Int),.bl true])) l8=some (.lst [r5,.int (T.d:Int),.bl true]):=upd_same
  have g48:=g47.trans k8
  have rr8:=rr5.same ((g6.trans g7).trans k8)
  have n8l:H4 l8=none:=g47.free hl8
  generalize upd H7 l8 (.lst [r5,.int (T.d:Int),.bl true])=H8 at k8 h8 g48 rr8
  exact gsetF key l8 ⟨g48,n8l,r5,h8,rr8⟩ rfl
 rintro l8 H8 ⟨g48,n8l,r5,h8,rr8⟩
 have n8:NewO H b H8:=g4.trans (NewO.of g48)
 obtain⟨dx,bt,v1,v2,f1,f2,f3,f4,n5,hn5,f5⟩:=jat n8
 have f1':=(del_same _ _) _ _ f1
 rw[vec_of] at f4
 obtain⟨fl,fv,rfl,hfl,okfl,cfl⟩:=id f4.cf
 have hfl8:=(del_same _ _) _ _ hfl
 have lfv:fv.length=ps.length:=cfl.len
 have lps:ps.length≤5:=by rw[bl.len];exact hlw
 rw[← vec_of] at f4
 refine mseqF (fun _:Unit=>[some (.ref a),some (.ref pl),some (.ref b),some (.ref wl),some u,some v,some (.ref l8),some (.ref fl),none]) (fun _ H'=>H8=H') (fun C key=>⟨_,rfl,a,CT,dx,_,_,rfl,f1',c.cl,c.nQ,lt_parts,gsetF key () rfl rfl⟩) ?_
 rintro _ _ rfl
 refine mseqF (fun o:Option V=>[some (.ref a),some (.ref pl),some (.ref b),some (.ref wl),some u,some v,some (.ref l8),some (.ref fl),o]) (fun _ H9=>Mut ok H8 H9 (2*fv.length)∧H9 fl=some (.lst fv)) (fun C key=>?_) ?_
 ·skip
  refine⟨_,rfl,fl,rfl,⟨_,SqL.of hfl8⟩,for_list (xs:=fv) (fun i σ H9=>Mut ok H8 H9 (2*i)∧H9 fl=some (.lst fv)∧∃ o,σ=[some (.ref a),some (.ref pl),some (.ref b),some (.ref wl),some u,some v,some (.ref l8),some (.ref fl),o]) ⟨Mut.refl _ _,hfl8,_,rfl⟩ (fun i σ H9 _ h=>SqL.of h.2.1) ?_ ?_⟩
  ·rintro i x σ H9 hx ⟨m9,hfl9,o,rfl⟩
   obtain⟨hi,rx⟩:=cfl.get hx
   have hei:ps.getD i (.num 0)∈ps:=by rw[List.getD_eq_getElem?_getD,List.getElem?_eq_getElem hi];exact List.getElem_mem hi
   have rx0:=rx
   obtain⟨T0,M,eM,hM⟩:=bld_mem bl _ hei
   have hMp:=M.pos
   rw[eM] at rx
   obtain⟨q0,vs,rfl,hq,okq,cq⟩:=id rx.cf
   have hq8:=(del_same _ _) _ _ hq
   obtain⟨ys,hy9,y1,y2,y3⟩:=m9.lst q0 vs okq hq8
   have lvs:=cq.len
   obtain⟨w0,hw0⟩:∃ w0,ys[0]?=some w0:=⟨_,List.getElem?_eq_getElem (by omega)⟩
   obtain⟨v0,hv0,rv0⟩:=cq.at_ 0 (by omega)
   have qne:q0≠fl:=fun z=>by
    rw[z] at rx0
    have e:=rep_uniq rx0 f4
    have h1:=List.sizeOf_lt_of_mem hei
    have h2:=congrArg sizeOf e
    rw[El.vec.sizeOf_spec] at h2
    omega
   apply merge (M:=fun σ HM=>Mut ok H8 HM (2*i+1)∧HM fl=some (.lst fv)∧σ=[some (.ref a),some (.ref pl),some (.ref b),some (.ref wl),some u,some v,some (.ref l8),some (.ref fl),some (.ref q0)])
   case h1=>
    intro key
    have weak:Mut ok H8 H9 (2*i+1):=⟨m9.out,fun c xs hc e=>let ⟨ys,a1,a2,a3,a4⟩:=m9.lst c xs hc e;⟨ys,a1,a2,by omega,a4⟩⟩
    refine⟨_,rfl,q0,_,_,_,rfl,rfl,SqL.of hy9,atI_nat (j:=0) hw0,?_⟩
    rcases y3 w0 hw0 with rfl | ⟨k,rfl⟩ | e0
    ·exact⟨_,"NoneType","list",false,rfl,.non,by with_unfolding_all rfl,_,rfl,iteF (key _ _ ⟨weak,hfl9,rfl⟩)⟩
    ·exact⟨_,"int","list",false,rfl,.int k,by with_unfolding_all rfl,_,rfl,iteF (key _ _ ⟨weak,hfl9,rfl⟩)⟩
    ·rw[hv0] at e0
     obtain rfl:v0=w0:=Option.some.inj e0
     rcases enc_or (M.f.c 0) with ⟨k,ek⟩ | ⟨l0,el,hl0⟩
     ·rw[ek] at rv0
      cases rv0
      exact⟨_,"int","list",false,rfl,.int k,by with_unfolding_all rfl,_,rfl,iteF (key _ _ ⟨weak,hfl9,rfl⟩)⟩
     ·rw[el] at rv0
      have rv1:=rv0
      cases rv0 with
      | @vec c0 vs0 _ hc0 okc0 hlc0 _=>
       have hc8:=(del_same _ _) _ _ hc0
       obtain⟨zs,hz9,z1,z2,z3⟩:=m9.lst c0 vs0 okc0 hc8
       have cne:c0≠fl:=fun z=>by
        rw[z] at rv1
        have e:=rep_uniq rv1 f4
        have h1:=List.sizeOf_lt_of_mem hei
        have h2:=congrArg sizeOf e
        rw[El.vec.sizeOf_spec,El.vec.sizeOf_spec] at h2
        have h3:T0.enc (M.f.c 0)∈(List.range (M.n+1)).map fun i=>T0.enc (M.f.c i):=List.mem_map.mpr ⟨0,List.mem_range.mpr (by omega),rfl⟩
        have h4:=List.sizeOf_lt_of_mem h3
        have h5:=congrArg sizeOf eM
        rw[show polE T0 (M.n+1) M.f=El.vec ((List.range (M.n+1)).map fun i=>T0.enc (M.f.c i)) from rfl,El.vec.sizeOf_spec] at h5
        rw[el,El.vec.sizeOf_spec] at h4
        omega
       refine⟨_,"list","list",true,rfl,.lst (SqL.of hz9),rfl,_,rfl,iteT ?_⟩
       refine⟨_,rfl,q0,_,_,_,rfl,rfl,SqL.of hy9,atI_nat (j:=0) hw0,.inl ⟨rfl,_,SqL.of hz9⟩,c0,zs,_,rfl,rfl,hz9,by rw[sizeLine_eq];omega,?_⟩
       exact key _ _ ⟨m9.app okc0 hc8 hz9 1,by rw[upd_ne cne.symm];exact hfl9,rfl⟩
   case h2=>
    rintro σ HM ⟨mM,hflM,rfl⟩
    obtain⟨ys2,hyM,a1,a2,a3⟩:=mM.lst q0 vs okq hq8
    refine⟨_,rfl,q0,ys2,0,0,rfl,rfl,hyM,ixN_nat (k:=0) (by omega) (by omega),?_⟩
    have mS:=mM.set okq hq8 hyM
    refine⟨_,rfl,.inl ⟨rfl,_,SqL.of upd_same⟩,q0,_,_,rfl,rfl,upd_same,by rw[List.length_set,sizeLine_eq];omega,?_⟩
    exact⟨mS.app okq hq8 upd_same 5,by rw[upd_ne qne.symm,upd_ne qne.symm];exact hflM,_,rfl⟩
  ·rintro σ H9 ⟨m9,hfl9,o,rfl⟩
   exact key o _ ⟨m9,hfl9⟩
 rintro o H9 ⟨m9,hfl9⟩
 refine mseqF (fun _:Unit=>[some (.ref a),some (.ref pl),some (.ref b),some (.ref wl),some u,some v,some (.ref l8),some (.ref fl),o]) (fun _ HA=>∀ c o,¬ ok c→H8 c=some o→HA c=some o) (fun C key=>?_) ?_
 ·skip
  refine⟨_,rfl,.inl ⟨rfl,_,SqL.of hfl9⟩,fl,_,_,rfl,rfl,hfl9,by rw[sizeLine_eq];omega,?_⟩
  have out:∀ c o,¬ ok c→H8 c=some o→(upd H9 fl (.lst (fv++[.int 5]))) c=some o:=fun c o hc e=>by
   rw[upd_ne (fun z=>hc (by rw[z];exact okfl))];exact m9.out c o hc e
  exact key () _ out
 intro _ HA out
 clear m9 hfl9 hfl hfl8 cfl
 have ok4:∀ c,ok c→∃ o,H4 c=some o:=fun c hc=>by
  obtain⟨o,e⟩:=okH c hc
  exact⟨o,g4 c o (fun z=>nob (z ▸ hc)) e⟩
 have nn:∀ c,NewB H4 c→¬ ok c:=fun c h z=>by obtain⟨o,e⟩:=ok4 c z;rw[show H4 c=none from h] at e;cases e
 have jA:IsF CG CS CT HA a T:=⟨dx,bt,_,v2,out _ _ f2 f1',n5,hn5,f5.mono fun c o e=>by
  obtain⟨k1,k2⟩:=rs_inv e
  exact out c o k1 ((del_same _ _) _ _ k2)⟩
 have ruA:Rep HA (fun c=>¬ ok c) u (T.enc (x0)):=(ru.same g48).imp fun c o h kk=>⟨out c o kk h,kk⟩
 have rvA:Rep HA (fun c=>¬ ok c) v (T.enc (y0)):=(rv.same g48).imp fun c o h kk=>⟨out c o kk h,kk⟩
 have rrA:Rep HA (fun c=>¬ ok c) r5 (T.enc (x0*y0)):=rr8.imp fun c o h kk=>⟨out c o (nn c kk) h,nn c kk⟩
 have hA8:=out l8 _ (nn l8 n8l) h8
 have rplA:Rep HA Any (.ref pl) (.vec ps):=rpl.imp fun c o h kk=>⟨out c o kk (n8 c o (del_inv h).1 (del_inv h).2),trivial⟩
 have outH:∀ c o,¬ ok c→c≠b→H c=some o→HA c=some o:=fun c o h1 h2 e=>out c o h1 (n8 c o h2 e)
 clear f1 f1' f2 f3 f4 f5 ru rv rr8 out
 have hbd:=O.bd jA
 refine mseqF (fun _:Unit=>[some (.ref a),some (.ref pl),some (.ref b),some (.ref wl),some u,some v,some (.ref l8),some (.ref fl),o]) (fun _ HE=>Same HA HE) (fun C key=>?_) ?_
 ·skip
  refine⟨_,rfl,a,rfl,⟨T,jA⟩,_,rfl,_,rfl,fun _ h=>h,a,T,u,v,x0,y0,rfl,jA,ruA.any,rvA.any,fun r10 HB gB rrB=>?_⟩
  have jB:=O.mono gB jA
  refine⟨_,rfl,a,rfl,⟨T,jB⟩,fun _ h=>h,a,T,rfl,jB,fun HC gC=>?_⟩
  have gAC:=gB.trans gC
  refine⟨_,rfl,a,rfl,⟨T,O.mono gAC jA⟩,_,rfl,fun _ h=>h,a,T,u,_,rfl,O.mono gAC jA,(ruA.same gAC).den,fun _ HD gD=>?_,fun z=>absurd ⟨_,rfl⟩ z⟩
  refine⟨len_ok rfl,fun lE nE=>?_⟩
  have kE:=same_new nE (.lst [r10,.int (T.d:Int),.bl true])
  have gAE:=(gAC.trans gD).trans kE
  have d1:Den K (upd HD lE (.lst [r10,.int (T.d:Int),.bl true])) (.ref lE) (.list [toD (T.enc (x0*y0)),.int (T.d:Int),.bool true]):=(DL.l upd_same (.cons ((rrB.same ((gC.trans gD).trans kE))).dl (.cons (.int _) (.cons (.bl true) .nil)))).den
  have d2:Den K (upd HD lE (.lst [r10,.int (T.d:Int),.bl true])) (.ref l8) (.list [toD (T.enc (x0*y0)),.int (T.d:Int),.bool true]):=(DL.l (gAE _ _ hA8) (.cons (rrA.same gAE).dl (.cons (.int _) (.cons (.bl true) .nil)))).den
  have cl:=(fl_toD (T.fl (x0*y0))).both
  have c3:PyData.canLay0 (.list [toD (T.enc (x0*y0)),.int (T.d:Int),.bool true])=true:=by
   simp only[PyData.canLay0,PyData.canLayAll0,cl.1];rfl
  have s3:SeqAt.shaped (.list [toD (T.enc (x0*y0)),.int (T.d:Int),.bool true])=true:=by
   unfold SeqAt.shaped
   have dp:PyData.depth (.list [toD (T.enc (x0*y0)),.int (T.d:Int),.bool true])≤64:=by
    simp only[PyData.depth,PyData.depthAll]
    omega
   rw[Bool.and_eq_true]
   exact⟨c3,decide_eq_true dp⟩
  refine⟨_,rfl,_,_,d1,d2,s3,s3,?_⟩
  rw[SeqAt.eqv_refl _ c3]
  exact⟨_,rfl,iteF (key () _ gAE)⟩
 intro _ HE gAE
 have jE:=O.mono gAE jA
 have ruE:=ruA.same gAE
 have rvE:=rvA.same gAE
 have rrE:=rrA.same gAE
 have hE8:=gAE _ _ hA8
 have rplE:=rplA.same gAE
 have outE:∀ c o,¬ ok c→c≠b→H c=some o→HE c=some o:=fun c o h1 h2 e=>gAE _ _ (outH c o h1 h2 e)
 have hfl:FlE 7 (.vec ps):=by
  refine .vec (by omega) fun e he=>(bl.up.fl (Nat.le_refl 1) e he).mono ?_
  have:=bl.up.ht
  have e0:(ground T.p hp).ht=0:=rfl
  omega
 obtain⟨C,dx1,fs,hins,hcl,hna,hlk⟩:=O.fld jE
 refine⟨_,rfl,a,C,dx1,_,_,rfl,hins,hcl,hna,hlk,_,rfl,fun x dx2 nx ndx hne=>?_⟩
 refine⟨rfl,x,dx2,T.p,hp,.ref pl,ps,T,HE,rfl,upd_same,(same_new ndx _).free_upd nx _,nx,rplE,lps,bl.up,fun b1 w1 w2 HF gF eF ok1 nok1 jq=>⟨rfl,?_⟩⟩
 obtain⟨dx3,b3,w3,w4,q1,q2,q3,q4,n6,hn6,q5⟩:=jq
 have q1':HF x=some (.ins CT dx3 (twf b3 T.p w3 w4)):=(nw_same _ _) _ _ q1
 refine⟨x,CT,dx3,_,_,rfl,q1',c.cl,c.nQ,lt_parts,_,rfl,eqRep (q4.same (nw_same _ _)) (rplE.same gF) hfl hfl (by omega) (by omega) (fun _=>?_) (fun z=>absurd rfl z)⟩
 refine⟨_,rfl,iteT ?_⟩
 have jF:=O.mono gF jE
 obtain⟨C,dx4,fs4,hins4,hcl4,hna4,hlk4⟩:=O.fld jF
 refine⟨_,rfl,a,C,dx4,_,_,rfl,hins4,hcl4,hna4,hlk4,_,rfl,fun x' dx5 nx' ndx' hne'=>?_⟩
 refine⟨rfl,x',dx5,T.p,hp,.ref pl,ps,T,HF,rfl,upd_same,(same_new ndx' _).free_upd nx' _,nx',rplE.same gF,lps,bl.up,fun b5 w5 w6 HG gG eG ok2 nok2 jq2=>⟨rfl,?_⟩⟩
 have jx:=(jq2.isF).mono (nw_same _ _)
 have gEG:=gF.trans gG
 refine⟨x',rfl,⟨T,jx⟩,_,rfl,_,rfl,fun _ h=>h,x',T,u,v,x0,y0,rfl,jx,(ruE.same gEG).any,(rvE.same gEG).any,fun r20 HI gI rrI=>?_⟩
 refine⟨_,rfl,l8,_,_,_,rfl,rfl,SqL.of (gI _ _ (gEG _ _ hE8)),atI_nat (j:=0) rfl,?_⟩
 refine eqRep rrI (rrE.same (gEG.trans gI)) (T.fl _) (T.fl _) (by omega) (by omega) (fun _=>?_) (fun z=>absurd rfl z)
 exact q HI fun c o h1 h2 e=>(gEG.trans gI) _ _ (outE c o h1 h2 e)
def BadL (G:Hp){p:Nat}(hp:p∈PR)(vs:List V):Prop:=∀ v∈vs,∃ d,BadV G hp v d
theorem BadL.same {G G':Hp}{p:Nat}{hp:p∈PR}{vs:List V}(h:BadL G hp vs)(g:Same G G'):BadL G' hp vs:=fun v hv=>let ⟨d,e⟩:=h v hv;⟨d,e.same g⟩
theorem BadL.app {G:Hp}{p:Nat}{hp:p∈PR}{vs ws:List V}(h:BadL G hp vs)(h':BadL G hp ws):BadL G hp (vs++ws):=fun v hv=>(List.mem_append.mp hv).elim (h v) (h' v)
theorem BadL.nil {G:Hp}{p:Nat}{hp:p∈PR}:BadL G hp []:=fun v hv=>by cases hv
theorem BadL.cons {G:Hp}{p:Nat}{hp:p∈PR}{v:V}{d:PyData}{vs:List V}(h:BadV G hp v d)(t:BadL G hp vs):BadL G hp (v::vs):=fun w hw=>(List.mem_cons.mp hw).elim (fun e=>⟨d,e ▸ h⟩) (t w)
theorem bad_cat {G:Hp}{p:Nat}{hp:p∈PR}{ps:List El}{ws:List Nat}{T:Twr}(bl:Bld hp ps ws T)(hl:ws.length≤5){pv xs:List V}{ds:List PyData}{l:Addr}(cp:Cf G Any pv ps.length fun j=>ps.getD j (.num 0))(h:G l=some (.lst (pv++xs)))(lx:xs.length=ds.length)(hx:∀ (i:Nat) x d,xs[i]?=some x→ds[i]?=some d→Dl G x d)(h6:ds.length≤6)(it:∀ d∈ds,lenD d≤1000∧Shy 9 8000 d)(no:¬ ∃ qs T',PartsD hp (.list (ps.map toD++ds)) qs T'):BadV G hp (.ref l) (.list (ps.map toD++ds)):=by
 have lps:=bl.len
 have items:∀ e∈ps.map toD++ds,lenD e≤1000∧Shy 9 8000 e:=fun e he=>by
  rcases List.mem_append.mp he with h | h
  ·obtain⟨y,hy,rfl⟩:=List.mem_map.mp h
   have:=part_shy bl hl y hy
   exact⟨by omega,this.2.mono (by omega) (by omega)⟩
  ·exact it e h
 have llen:(ps.map toD++ds).length≤11:=by rw[List.length_append,List.length_map];omega
 refine⟨dl_append h (by rw[cp.len,List.length_map]) lx (fun i y d h1 h2=>?_) hx,Nat.le_trans llen (by decide),fun ds' e x hx=>?_,?_,no⟩
 ·obtain⟨hi,ry⟩:=cp.get h1
  have e:ps[i]?=some (ps.getD i (.num 0)):=by rw[List.getD_eq_getElem?_getD,List.getElem?_eq_getElem hi];rfl
  rw[List.getElem?_map,e] at h2
  cases h2
  exact ry.dl
 ·cases e
  exact (items x hx).1
 ·refine ((shy_list (k:=9) (n:=8000) (m:=100000) (fun e he=>(items e he).2) ?_).mono (by decide) (Nat.le_refl _))
  have:(_:Nat)*(8000+2)≤11*(8000+2):=Nat.mul_le_mul_right _ llen
  omega
theorem bad_one {G:Hp}{p:Nat}{hp:p∈PR}{ps:List El}{ws:List Nat}{T:Twr}(bl:Bld hp ps ws T)(hl:ws.length≤5){pv:List V}{x:V}{d:PyData}{l:Addr}(cp:Cf G Any pv ps.length fun j=>ps.getD j (.num 0))(h:G l=some (.lst (pv++[x])))(hx:Dl G x d)(h1:lenD d≤1000)(h2:Shy 9 8000 d)(no:∀ M:Md T.α,NextD T d M→ps≠[]∧polE T (M.n+1) M.f=polE T 2 X):∃ d',BadV G hp (.ref l) d':=
 ⟨_,bad_cat bl hl cp h (ds:=[d]) rfl (fun i y d' e1 e2=>by
  match i,e1,e2 with
  | 0,e1,e2=>cases e1;cases e2;exact hx
  | i+1,e1,e2=>simp at e1) (by show 1≤6;decide) (fun d' hd=>by rw[List.mem_singleton.mp hd];exact⟨h1,h2⟩) (no_more bl.up no)⟩
theorem bad_tail {G:Hp}{p:Nat}{hp:p∈PR}{ps:List El}{ws:List Nat}{T:Twr}(bl:Bld hp ps ws T)(hl:ws.length≤5){pv:List V}{x:V}{d:PyData}{l:Addr}(cp:Cf G Any pv ps.length fun j=>ps.getD j (.num 0))(h:G l=some (.lst ([x]++pv.drop 1)))(hx:Dl G x d)(h1:lenD d≤1000)(h2:Shy 9 8000 d)(no:∀ M:Md (ground p hp).α,NextD (ground p hp) d M→False):∃ d',BadV G hp (.ref l) d':=by
 have lps:=bl.len
 have items:∀ e∈[d]++(ps.drop 1).map toD,lenD e≤1000∧Shy 9 8000 e:=fun e he=>by
  rcases List.mem_append.mp he with h | h
  ·rw[List.mem_singleton.mp h];exact⟨h1,h2⟩
  ·obtain⟨y,hy,rfl⟩:=List.mem_map.mp h
   have:=part_shy bl hl y (List.mem_of_mem_drop hy)
   exact⟨by omega,this.2.mono (by omega) (by omega)⟩
 have llen:([d]++(ps.drop 1).map toD).length≤11:=by rw[List.length_append,List.length_map,List.length_drop];show 1+_≤_;omega
 refine⟨.list ([d]++(ps.drop 1).map toD),dl_append h rfl (by rw[List.length_drop,List.length_map,List.length_drop,cp.len]) (fun i y d' e1 e2=>?_) (fun i y d' e1 e2=>?_),Nat.le_trans llen (by decide),fun ds' e x hx=>?_,?_,?_⟩
 ·match i,e1,e2 with
  | 0,e1,e2=>cases e1;cases e2;exact hx
  | i+1,e1,e2=>simp at e1
 ·rw[List.getElem?_drop] at e1
  rw[List.getElem?_map,List.getElem?_drop] at e2
  obtain⟨hi,ry⟩:=cp.get e1
  have e:ps[1+i]?=some (ps.getD (1+i) (.num 0)):=by rw[List.getD_eq_getElem?_getD,List.getElem?_eq_getElem hi];rfl
  rw[e] at e2
  cases e2
  exact ry.dl
 ·cases e
  exact (items x hx).1
 ·refine ((shy_list (k:=9) (n:=8000) (m:=100000) (fun e he=>(items e he).2) ?_).mono (by decide) (Nat.le_refl _))
  have:(_:Nat)*(8000+2)≤11*(8000+2):=Nat.mul_le_mul_right _ llen
  omega
 ·exact no_more (ps:=[]) (T:=ground p hp) .nil fun M hM=>absurd hM (no M)
theorem shy_pr:∀ p∈PR,Shy 0 40 (.int ((p:Nat):Int)):=by
 intro p hp
 have h:∀ p∈PR,((PyData.int ((p:Nat):Int)).showable=true∧(PyData.int ((p:Nat):Int)).shown.length≤40):=by simp only[PyData.shown,PyData.showable];decide +kernel
 exact⟨(h p hp).1,rfl,by simp[PyData.depth],(h p hp).2⟩
theorem shy_m1:Shy 0 40 (.int (-1)):=⟨rfl,rfl,by simp[PyData.depth],by simp only[PyData.shown];decide +kernel⟩
theorem shy_big:Shy 0 40 (.int (10 ^ 30)):=⟨rfl,rfl,by simp[PyData.depth],by simp only[PyData.shown];decide +kernel⟩
theorem shy_7:Shy 0 40 (.int 7):=⟨rfl,rfl,by simp[PyData.depth],by simp only[PyData.shown];decide +kernel⟩
theorem shy_s1:Shy 0 40 (.str "1"):=⟨rfl,rfl,by simp[PyData.depth],by simp only[PyData.shown];decide +kernel⟩
theorem shy_s2:Shy 0 40 (.str "parts"):=⟨rfl,rfl,by simp[PyData.depth],by simp only[PyData.shown];decide +kernel⟩
def spBadP (CG CS CT:Addr):Sp:=fun vs H Q _=>∃ (a pl b wl:Addr) (T:Twr) (ws:List Nat) (ps:List El) (hp:T.p∈PR),vs=[.ref a,.ref pl,.ref b,.ref wl]∧Bag H b∧IsF CG CS CT (del H b) a T∧Rep (del H b) Any (.ref pl) (.vec ps)∧H wl=some (.lst (wv ws))∧wl≠b∧Bld hp ps ws T∧ws.length≤5∧
 ∀ (r:Addr) (vs:List V) H',NewO H b H'→Bag H' b→r≠b→H' r=some (.lst vs)→vs.length≤100→BadL (del H' b) hp vs→Q (.ref r) H'
theorem gset {C M:St→Hp→Prop}{i:Nat}{v:V}{σ:St}{H:Hp}(k:∀ σ H,M σ H→C σ H)(m:M (σ.set i (some v)) H):gName i v σ H C:=k _ _ m
structure OddV (G:Hp)(T:Twr)(v:V)(d:PyData):Prop where
 dl:Dl G v d
 len:lenD d≤1000
 shy:Shy 8 3600 d
 no:¬ IsElD T d
 sh:SeqAt.shaped d=true
theorem OddV.same {G G':Hp}{T:Twr}{v:V}{d:PyData}(h:OddV G T v d)(g:Same G G'):OddV G' T v d:=⟨h.dl.same g,h.len,h.shy,h.no,h.sh⟩
structure BadS (HM:Hp)(b:Addr){p:Nat}(hp:p∈PR)(n:Nat)(i:Addr×List V)(HN:Hp):Prop where
 g:Same HM HN
 f:HN i.1=some (.lst i.2)
 fb:i.1≠b
 lv:i.2.length≤n
 bad:BadL (del HN b) hp i.2
theorem ok_q_bad_parts (B:Blt mg)(O:TwE P w K mg base 29 (IsF CG CS CT))(d_q_take:Dfn P w K mg base 1 "_law_take" ["_law_bag_here","_law_many"] (spTake K))(d_q_element:Dfn P w K mg base 8 "_law_element" ["_law_bag_here","_law_p","_law_wides"] (spElem K 7))(d_q_product:Dfn P w K mg base 30 "_law_product" ["_law_tower_here","_law_u","_law_v"] (spProd2 (IsF CG CS CT)))(F:Src K mg "_law_bad_parts" s_q_bad_parts ["_law_tower_here","_law_parts","_law_bag_here","_law_wides"]):Dfn P w K mg base 38 "_law_bad_parts" ["_law_tower_here","_law_parts","_law_bag_here","_law_wides"] (spBadP CG CS CT):=by
 refine F.ok sc_q_bad_parts (fun vs H Q E h=>?_) (fun fa cdv A outer s H vs Q E hr h=>?_)
 ·obtain⟨a,pl,b,wl,T,ws,ps,hp,rfl,_⟩:=h;rfl
 obtain⟨a,pl,b,wl,T,ws,ps,hp,rfl,⟨gb,rb,eb⟩,jd,rpl,hw,hwb,bl,hlw,q⟩:=h
 refine⟨_,pss_cons (ps_setC (i:=4) sc_q_bad_parts.nd rfl (Or.inl rfl) (compScope_mk (N:=["_law_k","_law_bag_here","_law_wides","_law_tower_here"]) (sl:=[none,some 2,some 3,some 0]) (defScope s_q_bad_parts) ["_law_tower_here","_law_parts","_law_bag_here","_law_wides","_law_some","_law_zero","_law_one","_law_odd","_law_found"] rfl rfl (by decide +kernel)) rfl (pi_range1 rfl B.«range» (pa_cons pe_int pa_nil)) (fun _ _ _ _ _=>(pg_name (i:=0) (by show List.Nodup (["_law_k","_law_bag_here","_law_wides","_law_tower_here"]:List Str);decide +kernel) rfl (Or.inl rfl))) (fun _ _ _ _ _=>pif_none) (fun _ _ _ _ _=>(pe_def d_q_element hr (pa_cons (pv 1) (pa_cons (pe_fldK (K:=K) rfl (pv 3)) (pa_cons (pv 2) pa_nil))) (by first|decide|omega))))
  (pss_cons (ps_set (i:=5) sc_q_bad_parts.nd rfl (Or.inl rfl) (pe_mth0 O.zero hr (pv 0) ))
  (pss_cons (ps_set (i:=6) sc_q_bad_parts.nd rfl (Or.inl rfl) (pe_mth0 O.one hr (pv 0) ))
  (pss_cons (ps_set (i:=7) sc_q_bad_parts.nd rfl (Or.inl rfl) (pe_ix (ixK_list (K:=K) rfl) (pe_lst (pa_cons pe_non (pa_cons pe_bl (pa_cons (pe_un un_neg pe_int) (pa_cons (pe_fldK (K:=K) rfl (pv 0)) (pa_cons pe_str (pa_cons (pe_lst (pa_cons (pv 6) pa_nil)) (pa_cons (pe_lst (pa_cons (pv 5) pa_nil)) (pa_cons (pe_op op_pow pe_int pe_int) pa_nil))))))))) (pe_def d_q_take hr (pa_cons (pv 2) (pa_cons pe_int pa_nil)) (by first|decide|omega)) (fun _ _=>rfl)))
  (pss_cons (ps_if (PW.pt (pw_and (pt_cmpR (opK_neD (K:=K) rfl hr.units) (pv 3) (pe_lst pa_nil) (nomark _)) (pw_and1 (pt_cmpR (opK_eqD (K:=K) rfl hr.units) (pv 7) (pe_lst (pa_cons (pv 6) pa_nil)) (nomark _)))))
   (pss_one (ps_set (i:=7) sc_q_bad_parts.nd rfl (Or.inl rfl) (pe_op op_cat (pv 6) (pe_lst (pa_cons (pv 6) pa_nil)))))
   (pss_nil))
  (pss_cons (ps_set (i:=8) sc_q_bad_parts.nd rfl (Or.inl rfl) (pe_lst (pa_cons pe_non (pa_cons pe_int (pa_cons pe_str (pa_cons (pe_tup pa_nil) (pa_cons (pe_callTy call_tuple_of rfl B.«tuple» bt_tuple (pa_cons (pv 1) pa_nil)) (pa_cons (pe_op op_cat (pv 1) (pe_lst (pa_cons pe_non pa_nil))) (pa_cons (pe_op op_cat (pv 1) (pe_lst (pa_cons (pe_tup pa_nil) pa_nil))) (pa_cons (pe_op op_cat (pv 1) (pe_lst (pa_cons (pe_tup (pa_cons (pe_ix (ixK_list (K:=K) rfl) (pv 4) pe_int (fun _ _=>rfl)) (pa_cons (pv 6) pa_nil))) pa_nil))) (pa_cons (pe_op op_cat (pv 1) (pe_lst (pa_cons (pe_lst pa_nil) pa_nil))) pa_nil)))))))))))
  (pss_cons (ps_set (i:=8) sc_q_bad_parts.nd rfl (Or.inl rfl) (pe_op op_cat (pv 8) (pe_lst (pa_cons (pe_op op_cat (pv 1) (pe_lst (pa_cons (pe_lst (pa_cons (pv 6) pa_nil)) pa_nil))) (pa_cons (pe_op op_cat (pv 1) (pe_lst (pa_cons (pe_lst (pa_cons (pe_ix (ixK_list (K:=K) rfl) (pv 4) pe_int (fun _ _=>rfl)) (pa_cons (pv 5) pa_nil))) pa_nil))) (pa_cons (pe_op op_cat (pv 1) (pe_lst (pa_cons (pe_lst (pa_cons (pv 7) (pa_cons (pv 6) pa_nil))) pa_nil))) (pa_cons (pe_op op_cat (pv 1) (pe_lst (pa_cons (pe_lst (pa_cons (pe_ix (ixK_list (K:=K) rfl) (pv 4) pe_int (fun _ _=>rfl)) (pa_cons (pv 7) pa_nil))) pa_nil))) pa_nil)))))))
  (pss_cons (ps_set (i:=8) sc_q_bad_parts.nd rfl (Or.inl rfl) (pe_op op_cat (pv 8) (pe_lst (pa_cons (pe_op op_cat (pv 1) (pe_lst (pa_cons (pe_def d_q_product hr (pa_cons (pv 0) (pa_cons (pe_ix (ixK_list (K:=K) rfl) (pv 4) pe_int (fun _ _=>rfl)) (pa_cons (pe_ix (ixK_list (K:=K) rfl) (pv 4) pe_int (fun _ _=>rfl)) pa_nil))) (by first|decide|omega)) pa_nil))) (pa_cons (pe_op op_cat (pv 1) (pe_lst (pa_cons (pe_op op_cat (pe_op op_cat (pe_lst (pa_cons (pv 6) pa_nil)) (pe_op op_rep (pe_lst (pa_cons (pv 5) pa_nil)) pe_int)) (pe_lst (pa_cons (pv 6) pa_nil))) pa_nil))) pa_nil)))))
  (pss_cons (ps_set (i:=8) sc_q_bad_parts.nd rfl (Or.inl rfl) (pe_op op_cat (pv 8) (pe_lst (pa_cons (pe_op op_cat (pv 1) (pe_lst (pa_cons (pe_lst (pa_cons (pe_ix (ixK_list (K:=K) rfl) (pv 4) pe_int (fun _ _=>rfl)) (pa_cons (pv 6) (pa_cons (pv 6) (pa_cons (pv 5) pa_nil))))) pa_nil))) (pa_cons (pe_op op_cat (pv 1) (pe_op op_rep (pe_lst (pa_cons (pe_lst (pa_cons (pv 6) (pa_cons (pv 6) pa_nil))) pa_nil)) pe_int)) pa_nil)))))
  (pss_cons (ps_if (pt_cmpR (opK_neD (K:=K) rfl hr.units) (pv 3) (pe_lst pa_nil) (nomark _))
   (pss_one (ps_set (i:=8) sc_q_bad_parts.nd rfl (Or.inl rfl) (pe_op op_cat (pv 8) (pe_lst (pa_cons (pe_op op_cat (pv 1) (pe_lst (pa_cons (pe_lst (pa_cons (pv 5) (pa_cons (pv 6) pa_nil))) pa_nil))) (pa_cons (pe_op op_cat (pe_lst (pa_cons pe_non pa_nil)) (pe_slice (slK_list (K:=K) rfl) (pv 1) (po_some pe_int) po_none)) (pa_cons (pe_op op_cat (pe_lst (pa_cons (pe_op op_cat (pe_slice (slK_list (K:=K) rfl) (pe_ix (ixK_list (K:=K) rfl) (pv 1) pe_int (fun _ _=>rfl)) po_none (po_some (pe_un un_neg pe_int))) (pe_lst (pa_cons pe_int pa_nil))) pa_nil)) (pe_slice (slK_list (K:=K) rfl) (pv 1) (po_some pe_int) po_none)) pa_nil)))))))
   (pss_nil))
  (pss_one (ps_ret (pv 8)))))))))))),?_⟩
 rw[vec_of] at rpl
 obtain⟨pl',pv,epl,hpl,_,cpl⟩:=rpl.cf
 obtain rfl:pl=pl':=V.ref.inj epl
 have hplH:=(del_same _ _) _ _ hpl
 have hplb:pl≠b:=(del_inv hpl).1
 have lpv:pv.length=ws.length:=by rw[cpl.len,bl.len]
 have lps:ps.length=ws.length:=bl.len
 have wd:=bl.wd
 have jat:∀ {H2:Hp},NewO H b H2→IsF CG CS CT (del H2 b) a T:=fun g=>jd.mono g.del
 have hbd:=O.bd jd
 have ewv:wv ws=(ws.map fun m:Nat=>(m:Int)).map V.int:=by unfold wv;rw[List.map_map];rfl
 refine mseq (M:=fun σ H4=>∃ (L:Addr) (u v:V) (cc:Nat→T.α),NewO H b H4∧Bag H4 b∧L≠b∧H4 L=some (.lst [u,v])∧Rep (del H4 b) Any u (T.enc (cc 0))∧Rep (del H4 b) Any v (T.enc (cc 1))∧σ=[some (.ref a),some (.ref pl),some (.ref b),some (.ref wl),some (.ref L),none,none,none,none]) (fun C key=>?_) ?_
 ·skip
  refine⟨_,rfl,by decide,by decide,fun L hL=>?_⟩
  have hLb:L≠b:=fun z=>by rw[z,eb] at hL;cases hL
  refine comp_range (n:=2) (fun j ys H4=>NewO H b H4∧Bag H4 b∧∃ c:Nat→T.α,Cf H4 (Off H L) ys j fun j=>T.enc (c j)) ⟨(NewO.refl H b).free_upd hL _,⟨_,_,by rw[upd_ne (fun z=>hLb z.symm)];exact eb⟩,fun _=>0,.nil⟩ ?_ ?_
  ·rintro j m' ys H4 hm hj hy hlen ⟨g4,hb4,cc,cy⟩
   obtain⟨C,dx,fs,hins,hcl,hna,hlk⟩:=O.fld ((jat g4).mono (del_same _ _))
   refine⟨_,rfl,_,rfl,a,C,dx,_,_,rfl,hins,hcl,hna,hlk,_,rfl,b,wl,T,ws,rfl,hb4,g4 _ _ hwb hw,hwb,wd,by omega,by decide,fun x1 r8 H8 g8 hb8 rr8=>?_⟩
   have hb4':∃ o,H4 b=some o:=by obtain⟨g,r,e⟩:=hb4;exact⟨_,e⟩
   have okD:∀ c,Off H L c→c≠b:=fun c kk z=>by have:=kk.1;rw[z] at this;rw[show H b=none from this] at eb;cases eb
   refine CW.emit hm hj (by rw[sizeLine_eq];omega) (g8 _ _ hLb hy) hlen ⟨(g4.trans g8).free_upd hL _,?_,fun k=>if k=j then x1 else cc k,?_⟩
   ·obtain⟨g,r,e⟩:=hb8
    exact⟨g,r,by rw[upd_ne (fun z=>hLb z.symm)];exact e⟩
   ·refine (Cf.push ((cy.newO g8 okD).congr fun k hk=>by show T.enc (cc k)=T.enc (if k=j then x1 else cc k);rw[if_neg (by omega)]) ?_).upd
    show Rep H8 (Off H L) r8 (T.enc (if j=j then x1 else cc j))
    rw[if_pos rfl]
    refine rr8.imp fun c o h kk=>⟨h,g4.fresh hb4' kk,fun z=>?_⟩
    rw[z] at kk
    rw[show _=none from kk] at hy
    cases hy
  rintro ys H4 hy ⟨g4,hb4,cc,cy⟩
  obtain⟨u,hu,ru⟩:=cy.at_ 0 (by decide)
  obtain⟨v,hv,rv⟩:=cy.at_ 1 (by decide)
  have hys:=two_of' cy.len hu hv
  subst hys
  have offb:∀ c,Off H L c→c≠b:=fun c kk z=>by have:=kk.1;rw[z] at this;rw[show H b=none from this] at eb;cases eb
  have ru:Rep (del H4 b) Any u (T.enc (cc 0)):=ru.imp fun c o h kk=>⟨by rw[del_of (offb c kk)];exact h,trivial⟩
  have rv:Rep (del H4 b) Any v (T.enc (cc 1)):=rv.imp fun c o h kk=>⟨by rw[del_of (offb c kk)];exact h,trivial⟩
  exact gset key ⟨L,u,v,cc,g4,hb4,hLb,hy,ru,rv,rfl⟩
 rintro σ H4 ⟨L,u,v,cc,g4,hb4,hLb,hy,ru,rv,rfl⟩
 have j4:=(jat g4).mono (del_same _ _)
 obtain⟨gb4,rb4,eb4⟩:=hb4
 refine mseq (M:=fun σ H5=>∃ rz,Same H4 H5∧Rep H5 (NewB H4) rz (T.enc 0)∧σ=[some (.ref a),some (.ref pl),some (.ref b),some (.ref wl),some (.ref L),some rz,none,none,none]) (fun C key=>⟨_,rfl,a,rfl,⟨T,j4⟩,fun _ h=>h,a,T,rfl,j4,fun rz H5 g5 rrz=>gset key ⟨rz,g5,rrz,rfl⟩⟩) ?_
 rintro σ H5 ⟨rz,g5,rrz,rfl⟩
 refine mseq (M:=fun σ H6=>∃ ro,Same H5 H6∧Rep H6 (NewB H5) ro (T.enc 1)∧σ=[some (.ref a),some (.ref pl),some (.ref b),some (.ref wl),some (.ref L),some rz,some ro,none,none]) (fun C key=>⟨_,rfl,a,rfl,⟨T,O.mono g5 j4⟩,fun _ h=>h,a,T,rfl,O.mono g5 j4,fun ro H6 g6 rro=>gset key ⟨ro,g6,rro,rfl⟩⟩) ?_
 rintro σ H6 ⟨ro,g6,rro,rfl⟩
 have g46:=g5.trans g6
 have dn:∀ {H1 H2:Hp} {v:V} {e:El} {o:HO},Rep H2 (NewB H1) v e→H1 b=some o→Rep (del H2 b) Any v e:=fun r h=>r.imp fun c o' h' k=>⟨by rw[del_of (fun z=>by rw[z] at k;rw[show _=none from k] at h;cases h)];exact h',trivial⟩
 have rz6:Rep (del H6 b) Any rz (T.enc 0):=(dn rrz eb4).same (NewO.of g6).del
 have ro6:Rep (del H6 b) Any ro (T.enc 1):=dn rro (g5 _ _ eb4)
 have n6:NewO H b H6:=g4.trans (NewO.of g46)
 have ru6:=ru.same (NewO.of (b:=b) g46).del
 have rv6:=rv.same (NewO.of (b:=b) g46).del
 have eb6:=g46 _ _ eb4
 have hL6:=g46 _ _ hy
 have j6:=(jat n6).mono (del_same _ _)
 clear ru rv rrz rro g5 g6 g46 eb4 hy j4
 have hht:=wd_ht wd
 have hw':wdt ws≤12*(2+4*5):=Nat.le_trans wd.deg (Nat.mul_le_mul hbd.1 (by omega))
 have shE:∀ y:T.α,Shy 6 264 (toD (T.enc y)):=fun y=>(shy_el wd y).mono (by omega) (by omega)
 refine mseq (M:=fun σ H9=>∃ (ov:V) (dO:PyData) (gb5 rb5:Int),NewO H6 b H9∧H9 b=some (.lst [.int gb5,.int rb5])∧OddV (del H9 b) T ov dO∧σ=[some (.ref a),some (.ref pl),some (.ref b),some (.ref wl),some (.ref L),some rz,some ro,some ov,none]) (fun C key=>?_) ?_
 ·skip
  obtain⟨C,dx,fs,hins,hcl,hna,hlk⟩:=O.fld j6
  refine⟨_,rfl,_,rfl,a,C,dx,_,_,rfl,hins,hcl,hna,hlk,?_⟩
  refine⟨_,rfl,len_ok rfl,fun l1 n1=>?_⟩
  have k1:=same_new n1 (.lst [ro])
  have e1:(upd H6 l1 (.lst [ro])) l1=some (.lst [ro]):=upd_same
  have l1b:l1≠b:=fun z=>by rw[z,eb6] at n1;cases n1
  generalize upd H6 l1 (.lst [ro])=H7 at k1 e1
  refine⟨_,rfl,len_ok rfl,fun l2 n2=>?_⟩
  have k2:=same_new n2 (.lst [rz])
  have e2:(upd H7 l2 (.lst [rz])) l2=some (.lst [rz]):=upd_same
  have l2b:l2≠b:=fun z=>by rw[z,k1 _ _ eb6] at n2;cases n2
  generalize upd H7 l2 (.lst [rz])=H8 at k2 e2
  refine⟨_,_,rfl,rfl,⟨by decide,by decide,by decide⟩,len_ok rfl,fun l3 n3=>?_⟩
  generalize hX:upd H8 l3 _=HX
  have e3:HX l3=some (.lst [.non,.bl true,.int (-1),.int (T.p:Int),.str "1",.ref l1,.ref l2,.int (10 ^ 30)]):=by rw[← hX];exact upd_same
  have k3:Same H8 HX:=by rw[← hX];exact same_new n3 _
  have l3b:l3≠b:=fun z=>by rw[z,k2 _ _ (k1 _ _ eb6)] at n3;cases n3
  have g69:=(k1.trans k2).trans k3
  have e19:=(k2.trans k3) _ _ e1
  have e29:=k3 _ _ e2
  refine⟨_,rfl,b,gb4,rb4,8,rfl,g69 _ _ eb6,by decide,Bd.mono (m:=64) (Bd.small (by decide) (by decide)) (by decide),fun d1 gb5 rb5 d10 d11=>?_⟩
  have n9:NewO H6 b (upd HX b (.lst [.int gb5,.int rb5])):=(NewO.of g69).upd _
  have eb9:(upd HX b (.lst [.int gb5,.int rb5])) b=some (.lst [.int gb5,.int rb5]):=upd_same
  have e19':(upd HX b (.lst [.int gb5,.int rb5])) l1=some (.lst [ro]):=by rw[upd_ne l1b];exact e19
  have e29':(upd HX b (.lst [.int gb5,.int rb5])) l2=some (.lst [rz]):=by rw[upd_ne l2b];exact e29
  have e39':(upd HX b (.lst [.int gb5,.int rb5])) l3=some (.lst [.non,.bl true,.int (-1),.int (T.p:Int),.str "1",.ref l1,.ref l2,.int (10 ^ 30)]):=by rw[upd_ne l3b];exact e3
  generalize upd HX b (.lst [.int gb5,.int rb5])=H9 at n9 eb9 e19' e29' e39'
  have rz9:=rz6.same n9.del
  have ro9:=ro6.same n9.del
  have one1:∀ (y:T.α) (l:Addr) (r:V),del H9 b l=some (.lst [r])→Rep (del H9 b) Any r (T.enc y)→OddV (del H9 b) T (.ref l) (.list [toD (T.enc y)]):=fun y l r h1 h2=>
   ⟨DL.l h1 (.cons h2.dl .nil),by show 1≤1000;decide,(shy_list (k:=6) (n:=264) (m:=300) (fun e he=>by rw[List.mem_singleton.mp he];exact shE y) (by show 1*(264+2)+2≤300;decide)).mono (by decide) (by decide),notEl_list wd (y:=y) (by simp),by
    have f:FlE 6 (.vec [T.enc y]):=.vec (by show 1≤100;decide) fun e he=>by rw[List.mem_singleton.mp he];exact (T.fl _).mono (by omega)
    exact (fl_toD f).shaped (by decide)⟩
  obtain⟨ov,dO,ho,od⟩:∃ ov dO,atI [V.non,.bl true,.int (-1),.int (T.p:Int),.str "1",.ref l1,.ref l2,.int (10 ^ 30)] d1=some ov∧OddV (del H9 b) T ov dO:=by
   have:d1=0∨d1=1∨d1=2∨d1=3∨d1=4∨d1=5∨d1=6∨d1=7:=by omega
   rcases this with rfl | rfl | rfl | rfl | rfl | rfl | rfl | rfl
   ·exact⟨_,_,atI_nat (j:=0) rfl,.non,by decide,shy_none.mono (by decide) (by decide),notEl_other wd (fun _ z=>by cases z) (fun _ z=>by cases z),by rfl⟩
   ·exact⟨_,_,atI_nat (j:=1) rfl,.bl true,by decide,(shy_bool true).mono (by decide) (by decide),notEl_other wd (fun _ z=>by cases z) (fun _ z=>by cases z),by rfl⟩
   ·exact⟨_,_,atI_nat (j:=2) rfl,.int (-1),by decide,shy_m1.mono (by decide) (by decide),notEl_int wd (.inl (by decide)),by rfl⟩
   ·exact⟨_,_,atI_nat (j:=3) rfl,.int (T.p:Int),by show 0≤1000;decide,(shy_pr _ hp).mono (by decide) (by decide),notEl_int wd (.inr (Int.le_refl _)),by rfl⟩
   ·exact⟨_,_,atI_nat (j:=4) rfl,.str "1",by decide,shy_s1.mono (by decide) (by decide),notEl_other wd (fun _ z=>by cases z) (fun _ z=>by cases z),by unfold SeqAt.shaped;simp[PyData.canLay0,PyData.depth];decide +kernel⟩
   ·exact⟨_,_,atI_nat (j:=5) rfl,one1 1 l1 ro (by rw[del_of l1b];exact e19') ro9⟩
   ·exact⟨_,_,atI_nat (j:=6) rfl,one1 0 l2 rz (by rw[del_of l2b];exact e29') rz9⟩
   ·refine⟨_,_,atI_nat (j:=7) rfl,.int (10 ^ 30),by decide,shy_big.mono (by decide) (by decide),notEl_int wd (.inr ?_),by rfl⟩
    have:T.p<50:=(pr_pos hp).2
    have:(50:Int)<10 ^ 30:=by decide
    omega
  exact⟨l3,_,_,_,rfl,rfl,SqL.of e39',ho,gset key ⟨ov,dO,gb5,rb5,n9,eb9,od,rfl⟩⟩
 rintro σ H9 ⟨ov,dO,gb5,rb5,n9,eb9,od,rfl⟩
 have rz9:=rz6.same n9.del
 have ro9:=ro6.same n9.del
 have n9H:=n6.trans n9
 have ru9:=ru6.same n9.del
 have rv9:=rv6.same n9.del
 have hL9:=n9 _ _ hLb hL6
 have j9:=jat n9H
 clear ru6 rv6 rz6 ro6 eb6 hL6 j6 n6
 have hpl9:=n9H _ _ hplb hplH
 have hw9:=n9H _ _ hwb hw
 refine mseq (M:=fun σ HM=>∃ (ov:V) (dO:PyData),Same H9 HM∧OddV (del HM b) T ov dO∧σ=[some (.ref a),some (.ref pl),some (.ref b),some (.ref wl),some (.ref L),some rz,some ro,some ov,none]) (fun C key=>?_) ?_
 ·skip
  refine⟨_,rfl,len_ok rfl,fun l4 n4=>?_⟩
  have k4:=same_new n4 (.lst [])
  refine neL (xs:=ws.map fun m:Nat=>(m:Int)) (ys:=[]) (by rw[← ewv];exact SqL.of (k4 _ _ hw9)) (SqL.of upd_same) ?_
  generalize upd H9 l4 (.lst [])=HA at k4
  have odA:=od.same (NewO.of (b:=b) k4).del
  by_cases w0:ws=[]
  ·subst w0
   exact⟨_,rfl,iteF (iteF (key _ _ ⟨ov,dO,k4,odA,rfl⟩))⟩
  have wne:¬ (ws.map fun m:Nat=>(m:Int))=[]:=fun z=>w0 (List.map_eq_nil_iff.mp z)
  refine⟨_,rfl,iteS wne ?_⟩
  refine⟨_,rfl,_,rfl,len_ok rfl,fun l5 n5=>?_⟩
  have k5:=same_new n5 (.lst [ro])
  have e5:(upd HA l5 (.lst [ro])) l5=some (.lst [ro]):=upd_same
  generalize upd HA l5 (.lst [ro])=HB at k5 e5
  have g9B:=k4.trans k5
  have odB:=odA.same (NewO.of (b:=b) k5).del
  have roB:=ro9.same (NewO.of (b:=b) g9B).del
  have fo:FlE 6 (.vec [T.enc 1]):=.vec (by show 1≤100;decide) fun e he=>by rw[List.mem_singleton.mp he];exact (T.fl _).mono (by omega)
  have r5:Rep HB Any (.ref l5) (.vec [T.enc 1]):=rep_list e5 trivial (.cons (roB.same (del_same _ _)) .nil)
  refine⟨dO,_,(odB.dl.same (del_same _ _)).den,r5.den,odB.sh,(fl_toD fo).shaped (by decide),?_⟩
  cases (if false=true then !PyData.eqv dO (toD (.vec [T.enc 1])) else PyData.eqv dO (toD (.vec [T.enc 1]))) with
  | false=>exact⟨_,rfl,iteF (key _ _ ⟨ov,dO,g9B,odB,rfl⟩)⟩
  | true=>
   refine⟨_,rfl,iteT ?_⟩
   obtain⟨T0,M,al,hM,rfl,ws0,wd0,lw0⟩:∃ (T0:Twr) (M:Md T0.α) (al:Alone T0 M) (hM:M.n≤100),T=T0.up M al hM∧∃ ws0,Wd T0 ws0∧ws0.length+1=ws.length:=by
    rcases List.eq_nil_or_concat ws with h | ⟨ws',m,h⟩
    ·exact absurd h w0
    ·rw[List.concat_eq_append] at h
     subst h
     obtain⟨T',M,al,hM,h,_,h'⟩:=wd.snoc
     exact⟨T',M,al,hM,h,ws',h',by rw[List.length_append];rfl⟩
   have dm:T0.d*M.n≤12:=hbd.1
   have mp:=M.pos
   have hM12:M.n≤12:=Nat.le_trans (Nat.le_mul_of_pos_left _ (wd_d1 wd0)) dm
   have hT12:T0.d≤12:=Nat.le_trans (Nat.le_mul_of_pos_right _ mp) dm
   have hht0:=wd_ht wd0
   have hw0':wdt ws0≤12*(2+4*5):=Nat.le_trans wd0.deg (Nat.mul_le_mul hT12 (by omega))
   have roB':Rep (del HB b) Any ro (polE T0 M.n (show Qt M from (1:(T0.up M al hM).α)).s):=roB
   obtain⟨lo,ovs,rfl,hlo,_,co⟩:=id roB'.cf
   have hloB:=(del_same _ _) _ _ hlo
   refine⟨_,rfl,_,rfl,len_ok rfl,fun l6 n6=>?_⟩
   have k6:=same_new n6 (.lst [.ref lo])
   have e6:(upd HB l6 (.lst [.ref lo])) l6=some (.lst [.ref lo]):=upd_same
   generalize upd HB l6 (.lst [.ref lo])=HC at k6 e6
   refine⟨lo,l6,_,_,rfl,rfl,k6 _ _ hloB,e6,by rw[co.len,sizeLine_eq];show _+1≤_;omega,fun l7 n7=>?_⟩
   have k7:=same_new n7 (.lst (ovs++[.ref lo]))
   have e7:(upd HC l7 (.lst (ovs++[.ref lo]))) l7=some (.lst (ovs++[.ref lo])):=upd_same
   have l7b:l7≠b:=fun z=>by rw[z,k6 _ _ (g9B _ _ eb9)] at n7;cases n7
   generalize upd HC l7 (.lst (ovs++[.ref lo]))=HD at k7 e7
   have gBD:=k6.trans k7
   have roD:=roB.same (NewO.of (b:=b) gBD).del
   have coD:=co.same (NewO.of (b:=b) gBD).del
   have lenc:(T0.up M al hM).enc 1=.vec ((List.range M.n).map fun i=>T0.enc ((show Qt M from (1:(T0.up M al hM).α)).s.c i)):=rfl
   have shI:∀ e∈((List.range M.n).map fun i=>toD (T0.enc ((show Qt M from (1:(T0.up M al hM).α)).s.c i))),Shy 6 264 e:=fun e he=>by
    obtain⟨i,_,rfl⟩:=List.mem_map.mp he
    exact (shy_el wd0 _).mono (by omega) (by omega)
   refine key _ _ ⟨.ref l7,.list (((List.range M.n).map fun i=>toD (T0.enc ((show Qt M from (1:(T0.up M al hM).α)).s.c i)))++[toD ((T0.up M al hM).enc 1)]),g9B.trans gBD,⟨?_,?_,?_,?_,?_⟩,rfl⟩
   ·refine dl_append (by rw[del_of l7b];exact e7) (by rw[coD.len,List.length_map,List.length_range]) rfl (fun i y d h1 h2=>?_) (fun i y d h1 h2=>?_)
    ·obtain⟨hi,ry⟩:=coD.get h1
     rw[List.getElem?_map,List.getElem?_range hi] at h2
     cases h2
     exact ry.dl
    ·match i,h1,h2 with
     | 0,h1,h2=>cases h1;cases h2;exact roD.dl
     | i+1,h1,h2=>simp at h1
   ·show List.length _≤1000
    rw[List.length_append,List.length_map,List.length_range]
    show _+1≤_
    omega
   ·refine (shy_list (k:=6) (n:=264) (m:=3600) (fun e he=>?_) ?_).mono (by decide) (Nat.le_refl _)
    ·rcases List.mem_append.mp he with h | h
     ·exact shI e h
     ·rw[List.mem_singleton.mp h];exact shE 1
    ·rw[List.length_append,List.length_map,List.length_range]
     have:(M.n+1)*(264+2)≤13*(264+2):=Nat.mul_le_mul_right _ (by omega)
     show (M.n+1)*(264+2)+2≤3600
     omega
   ·exact notEl_list wd (y:=1) (by simp)
   ·have f:FlE 7 (.vec (((List.range M.n).map fun i=>T0.enc ((show Qt M from (1:(T0.up M al hM).α)).s.c i))++[(T0.up M al hM).enc 1])):=.vec (by rw[List.length_append,List.length_map,List.length_range];show _+1≤_;omega) fun e he=>by
     rcases List.mem_append.mp he with h | h
     ·obtain⟨i,_,rfl⟩:=List.mem_map.mp h
      exact (T0.fl _).mono (by omega)
     ·rw[List.mem_singleton.mp h];exact ((T0.up M al hM).fl _).mono (by omega)
    have hN2.f:=(fl_toD f).shaped (by decide)
    rw[show toD (.vec (((List.range M.n).map fun i=>T0.enc ((show Qt M from (1:(T0.up M al hM).α)).s.c i))++[(T0.up M al hM).enc 1]))=.list (((List.range M.n).map fun i=>toD (T0.enc ((show Qt M from (1:(T0.up M al hM).α)).s.c i)))++[toD ((T0.up M al hM).enc 1)]) from by
     show PyData.list (toDs _)=_
     rw[toDs_map,List.map_append,List.map_map];rfl] at hN2.f
    exact hN2.f
 ·skip
  rintro σ HM ⟨ov,dO,gM,od,rfl⟩
  have lp1:pv.length+1≤sizeLine:=le_line (by omega)
  have shS:∀ {x y:T.α},Shy 9 8000 (.list [toD (T.enc x),toD (T.enc y)]):=fun {x y}=>shy_list (k:=8) (n:=264) (fun e he=>by (simp only[List.mem_cons,List.not_mem_nil,or_false] at he);rcases he with h | h <;> rw[h] <;> exact (shE _).mono (by decide) (Nat.le_refl _)) (by show 2*(264+2)+2≤8000;decide)
  let sf:Addr×List V→St:=fun i=>[some (.ref a),some (.ref pl),some (.ref b),some (.ref wl),some (.ref L),some rz,some ro,some ov,some (.ref i.1)]
  refine mseqF sf (BadS HM b hp 20) (fun C key=>?_) ?_
  ·skip
   have BA0:=gM _ _ eb9
   have pA:=gM _ _ hpl9
   refine⟨len_ok rfl,fun lA1 nA1=>?_⟩
   generalize hX:upd _ lA1 _=HA1
   have xA1:=new_b BA0 nA1 hX
   clear hX
   have gA1:=xA1.1
   refine⟨_,rfl,pl,pv,rfl,.inl ⟨SqL.of (gA1 _ _ pA),fun lA2 nA2=>?_⟩⟩
   generalize hX:upd _ lA2 _=HA2
   have xA2:=new_b xA1.2.1 nA2 hX
   clear hX
   have gA2:=gA1.trans xA2.1
   refine⟨_,rfl,len_ok rfl,fun mA3 nA3=>⟨pl,mA3,_,_,rfl,rfl,same_new nA3 _ _ _ (gA2 _ _ pA),upd_same,lp1,fun lA3 nA3'=>?_⟩⟩
   generalize hX:upd (upd _ mA3 _) lA3 _=HA3
   have xA3:=new_c xA2.2.1 nA3 nA3' hX
   clear hX
   have gA3:=gA2.trans xA3.1
   refine⟨_,rfl,len_ok rfl,fun lA4 nA4=>?_⟩
   generalize hX:upd _ lA4 _=HA4
   have xA4:=new_b xA3.2.1 nA4 hX
   clear hX
   have gA4:=gA3.trans xA4.1
   refine⟨len_ok rfl,fun mA5 nA5=>⟨pl,mA5,_,_,rfl,rfl,same_new nA5 _ _ _ (gA4 _ _ pA),upd_same,lp1,fun lA5 nA5'=>?_⟩⟩
   generalize hX:upd (upd _ mA5 _) lA5 _=HA5
   have xA5:=new_c xA4.2.1 nA5 nA5' hX
   clear hX
   have gA5:=gA4.trans xA5.1
   refine⟨_,rfl,_,rfl,L,_,_,_,rfl,rfl,SqL.of ((gM.trans gA5) _ _ hL9),atI_nat (j:=0) rfl,_,rfl,len_ok rfl,fun lA6 nA6=>?_⟩
   generalize hX:upd _ lA6 _=HA6
   have xA6:=new_b xA5.2.1 nA6 hX
   clear hX
   have gA6:=gA5.trans xA6.1
   refine⟨len_ok rfl,fun mA7 nA7=>⟨pl,mA7,_,_,rfl,rfl,same_new nA7 _ _ _ (gA6 _ _ pA),upd_same,lp1,fun lA7 nA7'=>?_⟩⟩
   generalize hX:upd (upd _ mA7 _) lA7 _=HA7
   have xA7:=new_c xA6.2.1 nA7 nA7' hX
   clear hX
   have gA7:=gA6.trans xA7.1
   refine⟨_,rfl,len_ok rfl,fun lA8 nA8=>?_⟩
   generalize hX:upd _ lA8 _=HA8
   have xA8:=new_b xA7.2.1 nA8 hX
   clear hX
   have gA8:=gA7.trans xA8.1
   refine⟨len_ok rfl,fun mA9 nA9=>⟨pl,mA9,_,_,rfl,rfl,same_new nA9 _ _ _ (gA8 _ _ pA),upd_same,lp1,fun lA9 nA9'=>?_⟩⟩
   generalize hX:upd (upd _ mA9 _) lA9 _=HA9
   have xA9:=new_c xA8.2.1 nA9 nA9' hX
   clear hX
   have gA9:=gA8.trans xA9.1
   refine⟨len_ok rfl,fun lA10 nA10=>?_⟩
   generalize hX:upd _ lA10 _=HA10
   have xA10:=new_b xA9.2.1 nA10 hX
   clear hX
   have gA10:=gA9.trans xA10.1
   have sA10:=Same.refl HA10
   have sA9:=xA10.1.trans sA10
   have sA8:=xA9.1.trans sA9
   have sA7:=xA8.1.trans sA8
   have sA6:=xA7.1.trans sA7
   have sA5:=xA6.1.trans sA6
   have sA4:=xA5.1.trans sA5
   have sA3:=xA4.1.trans sA4
   have sA2:=xA3.1.trans sA3
   have sA1:=xA2.1.trans sA2
   have d9:=(NewO.of (b:=b) (gM.trans gA10)).del
   have cpF:=(cpl.same n9H.del).same d9
   have ruF:=ru9.same d9
   have rvF:=rv9.same d9
   have rzF:=rz9.same d9
   have roF:=ro9.same d9
   have odF:=od.same (NewO.of (b:=b) gA10).del
   have b1:=bad_one bl hlw cpF (dk sA3 xA3.2.2) (d:=.none) (.non) (by decide) (shy_none.mono (by decide) (by decide)) (fun M hM=>(by cases hM.shape))
   have b2:=bad_one bl hlw cpF (dk sA5 xA5.2.2) (d:=.tuple []) (DL.t (dk sA4 xA4.2.2) .nil) (by decide) ((shy_tuple (k:=8) (n:=0) (ds:=[]) (fun e he=>by cases he) (by decide))) (fun M hM=>(by cases hM.shape))
   have b3:=bad_one bl hlw cpF (dk sA7 xA7.2.2) (d:=.tuple [toD (T.enc (cc 0)),toD (T.enc 1)]) (DL.t (dk sA6 xA6.2.2) (.cons ruF.dl (.cons roF.dl .nil))) (by show 0≤1000;decide) (shy_tuple (k:=8) (n:=264) (fun e he=>by simp only[List.mem_cons,List.not_mem_nil,or_false] at he;rcases he with h | h <;> rw[h] <;> exact (shE _).mono (by decide) (Nat.le_refl _)) (by show 2*(264+2)+3≤8000;decide)) (fun M hM=>(by cases hM.shape))
   have b4:=bad_one bl hlw cpF (dk sA9 xA9.2.2) (d:=.list []) (DL.l (dk sA8 xA8.2.2) .nil) (by decide) ((shy_list (k:=8) (n:=0) (ds:=[]) (fun e he=>by cases he) (by decide))) (fun M hM=>(by have:=hM.len;simp at this))
   have bt:BadV (del HA10 b) hp (.ref lA2) (.tuple (ps.map toD)):=by
    refine⟨.tup (dk sA2 xA2.2.2) (by rw[cpF.len,List.length_map]) (fun i y d h1 h2=>?_),by show 0≤1000;decide,(fun ds z=>by cases z),?_,not_list (fun ds z=>by cases z)⟩
    ·obtain⟨hi,ry⟩:=cpF.get h1
     rw[List.getElem?_map,List.getElem?_eq_getElem hi] at h2
     have e:ps.getD i (.num 0)=ps[i]:=by rw[List.getD_eq_getElem?_getD,List.getElem?_eq_getElem hi];rfl
     cases h2
     rw[← e]
     exact ry.dl
    ·refine (shy_tuple (k:=9) (n:=3500) (m:=60000) (fun e he=>?_) ?_).mono (by decide) (by decide)
     ·obtain⟨y,hy,rfl⟩:=List.mem_map.mp he
      exact (part_shy bl hlw y hy).2.mono (by decide) (Nat.le_refl _)
     ·rw[List.length_map]
      have:ps.length*(3500+2)≤5*(3500+2):=Nat.mul_le_mul_right _ (by omega)
      omega
   refine gsetF key (lA10,_) ⟨gA10,del_same _ _ _ _ xA10.2.2,(del_inv xA10.2.2).1,by show 9≤20;decide,?_⟩ rfl
   have nl:∀ {v:V} {d:PyData} {k n:Nat},Dl (del HA10 b) v d→Shy k n d→k≤30→n≤100000→(∀ ds,d≠.list ds)→lenD d≤1000→BadV (del HA10 b) hp v d:=fun h1 h2 h3 h4 h5 h6=>⟨h1,h6,fun ds z=>absurd z (h5 ds),h2.mono h3 h4,not_list h5⟩
   refine .cons (nl .non shy_none (by decide) (by decide) (fun ds z=>by cases z) (by decide)) (.cons (nl (.int 7) shy_7 (by decide) (by decide) (fun ds z=>by cases z) (by decide)) (.cons (nl (.str "parts") shy_s2 (by decide) (by decide) (fun ds z=>by cases z) (by decide)) (.cons (nl (DL.t (dk sA1 xA1.2.2) .nil) (shy_tuple (k:=0) (n:=0) (m:=3) (fun e he=>by cases he) (by decide)) (by decide) (by decide) (fun ds z=>by cases z) (by decide)) (.cons bt ?_))))
   obtain⟨_,b1⟩:=b1;obtain⟨_,b2⟩:=b2;obtain⟨_,b3⟩:=b3;obtain⟨_,b4⟩:=b4
   exact .cons b1 (.cons b2 (.cons b3 (.cons b4 .nil)))
  intro i1 N1 hN1
  have lv1:=hN1.lv
  refine mseqF sf (BadS HM b hp 30) (fun C key=>?_) ?_
  ·skip
   have BC0:=(gM.trans hN1.g) _ _ eb9
   have pC:=(gM.trans hN1.g) _ _ hpl9
   refine⟨_,rfl,_,rfl,_,rfl,len_ok rfl,fun lC1 nC1=>?_⟩
   generalize hX:upd _ lC1 _=HC1
   have xC1:=new_b BC0 nC1 hX
   clear hX
   have gC1:=xC1.1
   refine⟨len_ok rfl,fun mC2 nC2=>⟨pl,mC2,_,_,rfl,rfl,same_new nC2 _ _ _ (gC1 _ _ pC),upd_same,lp1,fun lC2 nC2'=>?_⟩⟩
   generalize hX:upd (upd _ mC2 _) lC2 _=HC2
   have xC2:=new_c xC1.2.1 nC2 nC2' hX
   clear hX
   have gC2:=gC1.trans xC2.1
   refine⟨_,rfl,_,rfl,L,_,_,_,rfl,rfl,SqL.of (((gM.trans hN1.g).trans gC2) _ _ hL9),atI_nat (j:=0) rfl,_,rfl,len_ok rfl,fun lC3 nC3=>?_⟩
   generalize hX:upd _ lC3 _=HC3
   have xC3:=new_b xC2.2.1 nC3 hX
   clear hX
   have gC3:=gC2.trans xC3.1
   refine⟨len_ok rfl,fun mC4 nC4=>⟨pl,mC4,_,_,rfl,rfl,same_new nC4 _ _ _ (gC3 _ _ pC),upd_same,lp1,fun lC4 nC4'=>?_⟩⟩
   generalize hX:upd (upd _ mC4 _) lC4 _=HC4
   have xC4:=new_c xC3.2.1 nC4 nC4' hX
   clear hX
   have gC4:=gC3.trans xC4.1
   refine⟨_,rfl,_,rfl,_,rfl,len_ok rfl,fun lC5 nC5=>?_⟩
   generalize hX:upd _ lC5 _=HC5
   have xC5:=new_b xC4.2.1 nC5 hX
   clear hX
   have gC5:=gC4.trans xC5.1
   refine⟨len_ok rfl,fun mC6 nC6=>⟨pl,mC6,_,_,rfl,rfl,same_new nC6 _ _ _ (gC5 _ _ pC),upd_same,lp1,fun lC6 nC6'=>?_⟩⟩
   generalize hX:upd (upd _ mC6 _) lC6 _=HC6
   have xC6:=new_c xC5.2.1 nC6 nC6' hX
   clear hX
   have gC6:=gC5.trans xC6.1
   refine⟨_,rfl,_,rfl,L,_,_,_,rfl,rfl,SqL.of (((gM.trans hN1.g).trans gC6) _ _ hL9),atI_nat (j:=0) rfl,_,rfl,len_ok rfl,fun lC7 nC7=>?_⟩
   generalize hX:upd _ lC7 _=HC7
   have xC7:=new_b xC6.2.1 nC7 hX
   clear hX
   have gC7:=gC6.trans xC7.1
   refine⟨len_ok rfl,fun mC8 nC8=>⟨pl,mC8,_,_,rfl,rfl,same_new nC8 _ _ _ (gC7 _ _ pC),upd_same,lp1,fun lC8 nC8'=>?_⟩⟩
   generalize hX:upd (upd _ mC8 _) lC8 _=HC8
   have xC8:=new_c xC7.2.1 nC8 nC8' hX
   clear hX
   have gC8:=gC7.trans xC8.1
   refine⟨len_ok rfl,fun mC9 nC9=>⟨i1.1,mC9,_,_,rfl,rfl,same_new nC9 _ _ _ (gC8 _ _ hN1.f),upd_same,(le_line (show i1.2.length+4≤1000 by omega)),fun lC9 nC9'=>?_⟩⟩
   generalize hX:upd (upd _ mC9 _) lC9 _=HC9
   have xC9:=new_c xC8.2.1 nC9 nC9' hX
   clear hX
   have gC9:=gC8.trans xC9.1
   have sC9:=Same.refl HC9
   have sC8:=xC9.1.trans sC9
   have sC7:=xC8.1.trans sC8
   have sC6:=xC7.1.trans sC7
   have sC5:=xC6.1.trans sC6
   have sC4:=xC5.1.trans sC5
   have sC3:=xC4.1.trans sC4
   have sC2:=xC3.1.trans sC3
   have sC1:=xC2.1.trans sC2
   have d9:=(NewO.of (b:=b) ((gM.trans hN1.g).trans gC9)).del
   have cpF:=(cpl.same n9H.del).same d9
   have ruF:=ru9.same d9
   have rvF:=rv9.same d9
   have rzF:=rz9.same d9
   have roF:=ro9.same d9
   have odF:=od.same (NewO.of (b:=b) (hN1.g.trans gC9)).del
   have b1:=bad_one bl hlw cpF (dk sC2 xC2.2.2) (d:=.list [toD (T.enc 1)]) (DL.l (dk sC1 xC1.2.2) (.cons roF.dl .nil)) (by show 1≤1000;decide) (shy_list (k:=8) (n:=264) (fun e he=>by rw[List.mem_singleton.mp he];exact (shE _).mono (by decide) (Nat.le_refl _)) (by show 1*(264+2)+2≤8000;decide)) (fun M hM=>(by have h:=hM.len;have:=M.pos;have h:1=M.n+1:=h;omega))
   have b2:=bad_one bl hlw cpF (dk sC4 xC4.2.2) (d:=.list [toD (T.enc (cc 0)),toD (T.enc 0)]) (DL.l (dk sC3 xC3.2.2) (.cons ruF.dl (.cons rzF.dl .nil))) (by show 2≤1000;decide) (shS) (fun M hM=>(by have h:=NextD.last (ds:=[toD (T.enc (cc 0))]) (e:=toD (T.enc 0)) hM;exact absurd (T.inj _ _ (toD_inj h)) (fun z=>T.fld.1 z.symm)))
   have b3:=bad_one bl hlw cpF (dk sC6 xC6.2.2) (d:=.list [dO,toD (T.enc 1)]) (DL.l (dk sC5 xC5.2.2) (.cons odF.dl (.cons roF.dl .nil))) (by show 2≤1000;decide) (shy_list (k:=8) (n:=3600) (m:=8000) (fun e he=>by (simp only[List.mem_cons,List.not_mem_nil,or_false] at he);rcases he with h | h;(· rw[h];exact od.shy);(· rw[h];exact (shE _).mono (by decide) (by decide))) (by show 2*(3600+2)+2≤8000;decide)) (fun M hM=>absurd (hM.el (e:=dO) (by simp)) od.no)
   have b4:=bad_one bl hlw cpF (dk sC8 xC8.2.2) (d:=.list [toD (T.enc (cc 0)),dO]) (DL.l (dk sC7 xC7.2.2) (.cons ruF.dl (.cons odF.dl .nil))) (by show 2≤1000;decide) (shy_list (k:=8) (n:=3600) (m:=8000) (fun e he=>by (simp only[List.mem_cons,List.not_mem_nil,or_false] at he);rcases he with h | h;(· rw[h];exact (shE _).mono (by decide) (by decide));(· rw[h];exact od.shy)) (by show 2*(3600+2)+2≤8000;decide)) (fun M hM=>absurd (hM.el (e:=dO) (by simp)) od.no)
   refine gsetF key (lC9,_) ⟨hN1.g.trans gC9,del_same _ _ _ _ xC9.2.2,(del_inv xC9.2.2).1,by rw[List.length_append];show _+4≤_;omega,(hN1.bad.same (NewO.of (b:=b) gC9).del).app ?_⟩ rfl
   obtain⟨_,b1⟩:=b1;obtain⟨_,b2⟩:=b2;obtain⟨_,b3⟩:=b3;obtain⟨_,b4⟩:=b4
   exact .cons b1 (.cons b2 (.cons b3 (.cons b4 .nil)))
  intro i2 N2 hN2
  have lv2:=hN2.lv
  refine mseqF sf (BadS HM b hp 40) (fun C key=>?_) ?_
  ·skip
   have BD0:=(gM.trans hN2.g) _ _ eb9
   have pD:=(gM.trans hN2.g) _ _ hpl9
   have n2d:=(NewO.of (b:=b) (gM.trans hN2.g)).del
   have jD:=(j9.mono n2d).mono (del_same _ _)
   refine⟨_,rfl,_,rfl,_,rfl,_,rfl,L,_,_,_,rfl,rfl,SqL.of ((gM.trans hN2.g) _ _ hL9),atI_nat (j:=0) rfl,_,rfl,L,_,_,_,rfl,rfl,SqL.of ((gM.trans hN2.g) _ _ hL9),atI_nat (j:=1) rfl,a,T,u,v,cc 0,cc 1,rfl,jD,(ru9.same n2d).same (del_same _ _),(rv9.same n2d).same (del_same _ _),fun rp HP gP rrP=>?_⟩
   have rpP:Rep (del HP b) Any rp (.vec [T.enc (cc 0*cc 1),T.enc (cc 0+cc 1),T.enc 1]):=dn rrP BD0
   have BDP:=gP _ _ BD0
   refine⟨len_ok rfl,fun mD1 nD1=>⟨pl,mD1,_,_,rfl,rfl,same_new nD1 _ _ _ (gP _ _ pD),upd_same,lp1,fun lD1 nD1'=>?_⟩⟩
   generalize hX:upd (upd _ mD1 _) lD1 _=HD1
   have xD1:=new_c BDP nD1 nD1' hX
   clear hX
   have gD1:=gP.trans xD1.1
   refine⟨_,rfl,_,rfl,len_ok rfl,fun lD2 nD2=>?_⟩
   generalize hX:upd _ lD2 _=HD2
   have xD2:=new_b xD1.2.1 nD2 hX
   clear hX
   have gD2:=gD1.trans xD2.1
   refine⟨_,rfl,len_ok rfl,fun lD3 nD3=>?_⟩
   generalize hX:upd _ lD3 _=HD3
   have xD3:=new_b xD2.2.1 nD3 hX
   clear hX
   have gD3:=gD2.trans xD3.1
   refine⟨lD3,12,_,rfl,rfl,(del_same _ _ _ _ xD3.2.2),by decide,by decide,le_line (by show 1*12≤1000;decide),fun lD4 nD4=>?_⟩
   generalize hX:upd _ lD4 _=HD4
   have xD4:=new_b xD3.2.1 nD4 hX
   clear hX
   have gD4:=gD3.trans xD4.1
   refine⟨lD2,lD4,_,_,rfl,rfl,(xD4.1 _ _ (xD3.1 _ _ (del_same _ _ _ _ xD2.2.2))),(del_same _ _ _ _ xD4.2.2),le_line (by show 1+12≤1000;decide),fun lD5 nD5=>?_⟩
   generalize hX:upd _ lD5 _=HD5
   have xD5:=new_b xD4.2.1 nD5 hX
   clear hX
   have gD5:=gD4.trans xD5.1
   refine⟨_,rfl,len_ok rfl,fun lD6 nD6=>?_⟩
   generalize hX:upd _ lD6 _=HD6
   have xD6:=new_b xD5.2.1 nD6 hX
   clear hX
   have gD6:=gD5.trans xD6.1
   refine⟨lD5,lD6,_,_,rfl,rfl,(xD6.1 _ _ (del_same _ _ _ _ xD5.2.2)),(del_same _ _ _ _ xD6.2.2),le_line (by show 13+1≤1000;decide),fun lD7 nD7=>?_⟩
   generalize hX:upd _ lD7 _=HD7
   have xD7:=new_b xD6.2.1 nD7 hX
   clear hX
   have gD7:=gD6.trans xD7.1
   refine⟨len_ok rfl,fun mD8 nD8=>⟨pl,mD8,_,_,rfl,rfl,same_new nD8 _ _ _ (gD7 _ _ pD),upd_same,lp1,fun lD8 nD8'=>?_⟩⟩
   generalize hX:upd (upd _ mD8 _) lD8 _=HD8
   have xD8:=new_c xD7.2.1 nD8 nD8' hX
   clear hX
   have gD8:=gD7.trans xD8.1
   refine⟨len_ok rfl,fun mD9 nD9=>⟨i2.1,mD9,_,_,rfl,rfl,same_new nD9 _ _ _ (gD8 _ _ hN2.f),upd_same,(le_line (show i2.2.length+2≤1000 by omega)),fun lD9 nD9'=>?_⟩⟩
   generalize hX:upd (upd _ mD9 _) lD9 _=HD9
   have xD9:=new_c xD8.2.1 nD9 nD9' hX
   clear hX
   have gD9:=gD8.trans xD9.1
   have sD9:=Same.refl HD9
   have sD8:=xD9.1.trans sD9
   have sD7:=xD8.1.trans sD8
   have sD6:=xD7.1.trans sD7
   have sD5:=xD6.1.trans sD6
   have sD4:=xD5.1.trans sD5
   have sD3:=xD4.1.trans sD4
   have sD2:=xD3.1.trans sD3
   have sD1:=xD2.1.trans sD2
   have d9:=(NewO.of (b:=b) ((gM.trans hN2.g).trans gD9)).del
   have cpF:=(cpl.same n9H.del).same d9
   have ruF:=ru9.same d9
   have rvF:=rv9.same d9
   have rzF:=rz9.same d9
   have roF:=ro9.same d9
   have odF:=od.same (NewO.of (b:=b) (hN2.g.trans gD9)).del
   have rpF:=rpP.same (NewO.of (b:=b) (xD1.1.trans sD1)).del
   have b1:=bad_one bl hlw cpF (dk sD1 xD1.2.2) (d:=toD (.vec [T.enc (cc 0*cc 1),T.enc (cc 0+cc 1),T.enc 1])) (rpF.dl) (by show 3≤1000;decide) (shy_list (k:=8) (n:=264) (ds:=[toD (T.enc (cc 0*cc 1)),toD (T.enc (cc 0+cc 1)),toD (T.enc 1)]) (fun e he=>by (simp only[List.mem_cons,List.not_mem_nil,or_false] at he);rcases he with h | h | h <;> rw[h] <;> exact (shE _).mono (by decide) (Nat.le_refl _)) (by show 3*(264+2)+2≤8000;decide)) (fun M hM=>absurd hM not_prod)
   have em:del HD9 b lD7=some (.lst ([ro]++List.replicate 12 rz++[ro])):=(dk sD7 xD7.2.2)
   have dm:Dl (del HD9 b) (.ref lD7) (.list ([toD (T.enc 1)]++List.replicate 12 (toD (T.enc 0))++[toD (T.enc 1)])):=by
    refine dl_append em rfl rfl (fun i y d h1 h2=>?_) (fun i y d h1 h2=>?_)
    ·have hd:d=toD (T.enc 1)∧y=ro∨d=toD (T.enc 0)∧y=rz:=by
      cases i with
      | zero=>cases h1;cases h2;exact .inl ⟨rfl,rfl⟩
      | succ i=>
       have h1:(List.replicate 12 rz)[i]?=some y:=h1
       have h2:(List.replicate 12 (toD (T.enc 0)))[i]?=some d:=h2
       exact .inr ⟨List.eq_of_mem_replicate (List.mem_of_getElem? h2),List.eq_of_mem_replicate (List.mem_of_getElem? h1)⟩
     rcases hd with ⟨h3,h4⟩ | ⟨h3,h4⟩ <;> rw[h3,h4]
     ·exact roF.dl
     ·exact rzF.dl
    ·match i,h1,h2 with
     | 0,h1,h2=>cases h1;cases h2;exact roF.dl
     | i+1,h1,h2=>simp at h1
   have shD:∀ e∈[toD (T.enc 1)]++List.replicate 12 (toD (T.enc 0))++[toD (T.enc 1)],Shy 6 264 e:=fun e he=>by
    have hd:e=toD (T.enc 1)∨e=toD (T.enc 0):=by
     rcases List.mem_append.mp he with h | h
     ·rcases List.mem_append.mp h with h | h
      ·exact .inl (List.mem_singleton.mp h)
      ·exact .inr (List.eq_of_mem_replicate h)
     ·exact .inl (List.mem_singleton.mp h)
    rcases hd with h | h <;> rw[h] <;> exact shE _
   have b2:=bad_one bl hlw cpF (dk sD8 xD8.2.2) (d:=.list ([toD (T.enc 1)]++List.replicate 12 (toD (T.enc 0))++[toD (T.enc 1)])) (dm) (by show 14≤1000;decide) (shy_list (k:=8) (n:=264) (fun e he=>(shD e he).mono (by decide) (Nat.le_refl _)) (by show 14*(264+2)+2≤8000;decide)) (fun M hM=>(by have h:=hM.len;have h:14=M.n+1:=h;have h2:=hM.2.1;have h3:=wd_d1 wd;have h4:1*M.n≤T.d*M.n:=Nat.mul_le_mul_right _ h3;omega))
   refine gsetF key (lD9,_) ⟨hN2.g.trans gD9,del_same _ _ _ _ xD9.2.2,(del_inv xD9.2.2).1,by rw[List.length_append];show _+2≤_;omega,(hN2.bad.same (NewO.of (b:=b) gD9).del).app ?_⟩ rfl
   obtain⟨_,b1⟩:=b1;obtain⟨_,b2⟩:=b2
   exact .cons b1 (.cons b2 .nil)
  intro i3 N3 hN3
  have lv3:=hN3.lv
  refine mseqF sf (BadS HM b hp 50) (fun C key=>?_) ?_
  ·skip
   have BE0:=(gM.trans hN3.g) _ _ eb9
   have pE:=(gM.trans hN3.g) _ _ hpl9
   refine⟨_,rfl,_,rfl,_,rfl,L,_,_,_,rfl,rfl,SqL.of ((gM.trans hN3.g) _ _ hL9),atI_nat (j:=0) rfl,_,rfl,_,rfl,_,rfl,len_ok rfl,fun lE1 nE1=>?_⟩
   generalize hX:upd _ lE1 _=HE1
   have xE1:=new_b BE0 nE1 hX
   clear hX
   have gE1:=xE1.1
   refine⟨len_ok rfl,fun mE2 nE2=>⟨pl,mE2,_,_,rfl,rfl,same_new nE2 _ _ _ (gE1 _ _ pE),upd_same,lp1,fun lE2 nE2'=>?_⟩⟩
   generalize hX:upd (upd _ mE2 _) lE2 _=HE2
   have xE2:=new_c xE1.2.1 nE2 nE2' hX
   clear hX
   have gE2:=gE1.trans xE2.1
   refine⟨_,rfl,_,rfl,_,rfl,len_ok rfl,fun lE3 nE3=>?_⟩
   generalize hX:upd _ lE3 _=HE3
   have xE3:=new_b xE2.2.1 nE3 hX
   clear hX
   have gE3:=gE2.trans xE3.1
   refine⟨len_ok rfl,fun lE4 nE4=>?_⟩
   generalize hX:upd _ lE4 _=HE4
   have xE4:=new_b xE3.2.1 nE4 hX
   clear hX
   have gE4:=gE3.trans xE4.1
   refine⟨lE4,6,_,rfl,rfl,(del_same _ _ _ _ xE4.2.2),by decide,by decide,le_line (by show 1*6≤1000;decide),fun lE5 nE5=>?_⟩
   generalize hX:upd _ lE5 _=HE5
   have xE5:=new_b xE4.2.1 nE5 hX
   clear hX
   have gE5:=gE4.trans xE5.1
   refine⟨pl,lE5,_,_,rfl,rfl,(gE5 _ _ pE),(del_same _ _ _ _ xE5.2.2),(le_line (show pv.length+6≤1000 by omega)),fun lE6 nE6=>?_⟩
   generalize hX:upd _ lE6 _=HE6
   have xE6:=new_b xE5.2.1 nE6 hX
   clear hX
   have gE6:=gE5.trans xE6.1
   refine⟨len_ok rfl,fun mE7 nE7=>⟨i3.1,mE7,_,_,rfl,rfl,same_new nE7 _ _ _ (gE6 _ _ hN3.f),upd_same,(le_line (show i3.2.length+2≤1000 by omega)),fun lE7 nE7'=>?_⟩⟩
   generalize hX:upd (upd _ mE7 _) lE7 _=HE7
   have xE7:=new_c xE6.2.1 nE7 nE7' hX
   clear hX
   have gE7:=gE6.trans xE7.1
   have sE7:=Same.refl HE7
   have sE6:=xE7.1.trans sE7
   have sE5:=xE6.1.trans sE6
   have sE4:=xE5.1.trans sE5
   have sE3:=xE4.1.trans sE4
   have sE2:=xE3.1.trans sE3
   have sE1:=xE2.1.trans sE2
   have d9:=(NewO.of (b:=b) ((gM.trans hN3.g).trans gE7)).del
   have cpF:=(cpl.same n9H.del).same d9
   have ruF:=ru9.same d9
   have rvF:=rv9.same d9
   have rzF:=rz9.same d9
   have roF:=ro9.same d9
   have odF:=od.same (NewO.of (b:=b) (hN3.g.trans gE7)).del
   have b1:=bad_one bl hlw cpF (dk sE2 xE2.2.2) (d:=.list [toD (T.enc (cc 0)),toD (T.enc 1),toD (T.enc 1),toD (T.enc 0)]) (DL.l (dk sE1 xE1.2.2) (.cons ruF.dl (.cons roF.dl (.cons roF.dl (.cons rzF.dl .nil))))) (by show 4≤1000;decide) (shy_list (k:=8) (n:=264) (fun e he=>by (simp only[List.mem_cons,List.not_mem_nil,or_false] at he);rcases he with h | h | h | h <;> rw[h] <;> exact (shE _).mono (by decide) (Nat.le_refl _)) (by show 4*(264+2)+2≤8000;decide)) (fun M hM=>(by have h:=NextD.last (ds:=[toD (T.enc (cc 0)),toD (T.enc 1),toD (T.enc 1)]) (e:=toD (T.enc 0)) hM;exact absurd (T.inj _ _ (toD_inj h)) (fun z=>T.fld.1 z.symm)))
   have ec:del HE7 b lE6=some (.lst (pv++List.replicate 6 (.ref lE3))):=(dk sE6 xE6.2.2)
   have b2:=bad_cat bl hlw cpF ec (ds:=List.replicate 6 (PyData.list [toD (T.enc 1),toD (T.enc 1)])) (by rw[List.length_replicate,List.length_replicate]) (fun i y d h1 h2=>by rw[List.eq_of_mem_replicate (List.mem_of_getElem? h1),List.eq_of_mem_replicate (List.mem_of_getElem? h2)];exact DL.l (dk sE3 xE3.2.2) (.cons roF.dl (.cons roF.dl .nil))) (by rw[List.length_replicate];decide) (fun d hd=>by rw[List.eq_of_mem_replicate hd];exact⟨by show 2≤1000;decide,shS⟩) (too_many (by rw[List.length_append,List.length_replicate];omega))
   refine gsetF key (lE7,_) ⟨hN3.g.trans gE7,del_same _ _ _ _ xE7.2.2,(del_inv xE7.2.2).1,by rw[List.length_append];show _+2≤_;omega,(hN3.bad.same (NewO.of (b:=b) gE7).del).app ?_⟩ rfl
   obtain⟨_,b1⟩:=b1
   exact .cons b1 (.cons b2 .nil)
  intro i4 N4 hN4
  have lv4:=hN4.lv
  refine mseqF sf (BadS HM b hp 60) (fun C key=>?_) ?_
  ·skip
   have BF0:=(gM.trans hN4.g) _ _ eb9
   have pF:=(gM.trans hN4.g) _ _ hpl9
   refine⟨_,rfl,len_ok rfl,fun lF1 nF1=>?_⟩
   generalize hX:upd _ lF1 _=HF1
   have xF1:=new_b BF0 nF1 hX
   clear hX
   have gF1:=xF1.1
   refine neL (xs:=ws.map fun m:Nat=>(m:Int)) (ys:=[]) (by rw[← ewv];exact SqL.of (((gM.trans hN4.g).trans gF1) _ _ hw9)) (SqL.of (del_same _ _ _ _ xF1.2.2)) ?_
   by_cases w0:ws=[]
   ·exact⟨_,rfl,iteNS (by rw[w0];rfl) (key i4 _ ⟨hN4.g.trans gF1,gF1 _ _ hN4.f,hN4.fb,by omega,hN4.bad.same (NewO.of (b:=b) gF1).del⟩)⟩
   have wne:¬ (ws.map fun m:Nat=>(m:Int))=[]:=fun z=>w0 (List.map_eq_nil_iff.mp z)
   have lw1:1≤ws.length:=by cases hws:ws with | nil=>exact absurd hws w0 | cons x y=>show 1≤y.length+1;omega
   obtain⟨x0,hx0⟩:∃ x0,pv[0]?=some x0:=⟨_,List.getElem?_eq_getElem (by omega)⟩
   obtain⟨e0,pr,eps⟩:∃ e0 pr,ps=e0::pr:=by cases hps:ps with | nil=>rw[hps] at lps;simp at lps;omega | cons e0 pr=>exact⟨e0,pr,rfl⟩
   obtain⟨M0,eM0,hM0⟩:∃ M0:Md (ground T.p hp).α,e0=polE (ground T.p hp) (M0.n+1) M0.f∧M0.n≤12:=by
    have up:=bl.up
    rw[eps] at up
    obtain⟨M0,al,hn,e1,hd,_,_⟩:=up_inv up
    have hd:1*M0.n≤12:=hd
    exact⟨M0,e1,by omega⟩
   have rx0:=(cpl.get hx0).2
   have eg0:ps.getD 0 (.num 0)=polE (ground T.p hp) (M0.n+1) M0.f:=by rw[eps];exact eM0
   rw[eg0] at rx0
   obtain⟨q0,vs0,ex0,hq0,_,cq0⟩:=id rx0.cf
   have hq9:=n9H _ _ (del_inv hq0).1 (del_inv hq0).2
   have lvs0:=cq0.len
   have vne:vs0≠[]:=fun z=>by rw[z] at lvs0;simp at lvs0
   rw[ex0] at hx0
   refine⟨_,rfl,iteS wne ?_⟩
   refine⟨_,rfl,_,rfl,_,rfl,_,rfl,len_ok rfl,fun lF2 nF2=>?_⟩
   generalize hX:upd _ lF2 _=HF2
   have xF2:=new_b xF1.2.1 nF2 hX
   clear hX
   have gF2:=gF1.trans xF2.1
   refine⟨len_ok rfl,fun mF3 nF3=>⟨pl,mF3,_,_,rfl,rfl,same_new nF3 _ _ _ (gF2 _ _ pF),upd_same,lp1,fun lF3 nF3'=>?_⟩⟩
   generalize hX:upd (upd _ mF3 _) lF3 _=HF3
   have xF3:=new_c xF2.2.1 nF3 nF3' hX
   clear hX
   have gF3:=gF2.trans xF3.1
   refine⟨len_ok rfl,fun lF4 nF4=>?_⟩
   generalize hX:upd _ lF4 _=HF4
   have xF4:=new_b xF3.2.1 nF4 hX
   clear hX
   have gF4:=gF3.trans xF4.1
   refine⟨_,rfl,_,rfl,pl,_,rfl,SqL.of (gF4 _ _ pF),fun lF5 nF5=>?_⟩
   generalize hX:upd _ lF5 _=HF5
   have xF5:=new_b xF4.2.1 nF5 hX
   clear hX
   have eF5:=xF5.2.2
   rw[show cutV pv (some 1) none=pv.drop 1 from cutV_from pv 1 (by omega)] at eF5
   have gF5:=gF4.trans xF5.1
   refine⟨lF4,lF5,_,_,rfl,rfl,(xF5.1 _ _ (del_same _ _ _ _ xF4.2.2)),(del_same _ _ _ _ eF5),(le_line (by rw[List.length_drop];show 1+_≤_;omega)),fun lF6 nF6=>?_⟩
   generalize hX:upd _ lF6 _=HF6
   have xF6:=new_b xF5.2.1 nF6 hX
   clear hX
   have gF6:=gF5.trans xF6.1
   refine⟨_,rfl,pl,_,_,_,rfl,rfl,SqL.of (gF6 _ _ pF),atI_nat (j:=0) hx0,_,rfl,_,rfl,q0,_,rfl,SqL.of (((gM.trans hN4.g).trans gF6) _ _ hq9),fun lF7 nF7=>?_⟩
   generalize hX:upd _ lF7 _=HF7
   have xF7:=new_b xF6.2.1 nF7 hX
   clear hX
   have eF7:=xF7.2.2
   rw[show cutV vs0 none (some (-1))=vs0.dropLast from cutV_last vs0 vne] at eF7
   have gF7:=gF6.trans xF7.1
   refine⟨len_ok rfl,fun lF8 nF8=>?_⟩
   generalize hX:upd _ lF8 _=HF8
   have xF8:=new_b xF7.2.1 nF8 hX
   clear hX
   have gF8:=gF7.trans xF8.1
   refine⟨lF7,lF8,_,_,rfl,rfl,(xF8.1 _ _ (del_same _ _ _ _ eF7)),(del_same _ _ _ _ xF8.2.2),(le_line (by rw[List.length_dropLast];show _+1≤_;omega)),fun lF9 nF9=>?_⟩
   generalize hX:upd _ lF9 _=HF9
   have xF9:=new_b xF8.2.1 nF9 hX
   clear hX
   have gF9:=gF8.trans xF9.1
   refine⟨len_ok rfl,fun lF10 nF10=>?_⟩
   generalize hX:upd _ lF10 _=HF10
   have xF10:=new_b xF9.2.1 nF10 hX
   clear hX
   have gF10:=gF9.trans xF10.1
   refine⟨_,rfl,_,rfl,pl,_,rfl,SqL.of (gF10 _ _ pF),fun lF11 nF11=>?_⟩
   generalize hX:upd _ lF11 _=HF11
   have xF11:=new_b xF10.2.1 nF11 hX
   clear hX
   have eF11:=xF11.2.2
   rw[show cutV pv (some 1) none=pv.drop 1 from cutV_from pv 1 (by omega)] at eF11
   have gF11:=gF10.trans xF11.1
   refine⟨lF10,lF11,_,_,rfl,rfl,(xF11.1 _ _ (del_same _ _ _ _ xF10.2.2)),(del_same _ _ _ _ eF11),(le_line (by rw[List.length_drop];show 1+_≤_;omega)),fun lF12 nF12=>?_⟩
   generalize hX:upd _ lF12 _=HF12
   have xF12:=new_b xF11.2.1 nF12 hX
   clear hX
   have gF12:=gF11.trans xF12.1
   refine⟨len_ok rfl,fun mF13 nF13=>⟨i4.1,mF13,_,_,rfl,rfl,same_new nF13 _ _ _ (gF12 _ _ hN4.f),upd_same,(le_line (show i4.2.length+3≤1000 by omega)),fun lF13 nF13'=>?_⟩⟩
   generalize hX:upd (upd _ mF13 _) lF13 _=HF13
   have xF13:=new_c xF12.2.1 nF13 nF13' hX
   clear hX
   have gF13:=gF12.trans xF13.1
   have sF13:=Same.refl HF13
   have sF12:=xF13.1.trans sF13
   have sF11:=xF12.1.trans sF12
   have sF10:=xF11.1.trans sF11
   have sF9:=xF10.1.trans sF10
   have sF8:=xF9.1.trans sF9
   have sF7:=xF8.1.trans sF8
   have sF6:=xF7.1.trans sF7
   have sF5:=xF6.1.trans sF6
   have sF4:=xF5.1.trans sF5
   have sF3:=xF4.1.trans sF4
   have sF2:=xF3.1.trans sF3
   have sF1:=xF2.1.trans sF2
   have d9:=(NewO.of (b:=b) ((gM.trans hN4.g).trans gF13)).del
   have cpF:=(cpl.same n9H.del).same d9
   have ruF:=ru9.same d9
   have rvF:=rv9.same d9
   have rzF:=rz9.same d9
   have roF:=ro9.same d9
   have odF:=od.same (NewO.of (b:=b) (hN4.g.trans gF13)).del
   have b1:=bad_one bl hlw cpF (dk sF3 xF3.2.2) (d:=.list [toD (T.enc 0),toD (T.enc 1)]) (DL.l (dk sF2 xF2.2.2) (.cons rzF.dl (.cons roF.dl .nil))) (by show 2≤1000;decide) shS (fun M hM=>⟨by rw[eps];simp,(toD_inj (a:=polE T 2 X) (show toD (polE T 2 X)=_ from hM.1)).symm⟩)
   have b2:=bad_tail bl hlw cpF (dk sF6 xF6.2.2) (d:=.none) .non (by decide) (shy_none.mono (by decide) (by decide)) (fun M hM=>by cases hM.shape)
   have cq0F:=(cq0.same n9H.del).same d9
   have dm:Dl (del HF13 b) (.ref lF9) (.list (((List.range M0.n).map fun i=>toD ((ground T.p hp).enc (M0.f.c i)))++[PyData.int 0])):=by
    refine dl_append (dk sF9 xF9.2.2) (by rw[List.length_dropLast,List.length_map,List.length_range,lvs0];rfl) rfl (fun i y d h1 h2=>?_) (fun i y d h1 h2=>?_)
    ·rw[List.dropLast_eq_take,lvs0] at h1
     have h1:(vs0.take M0.n)[i]?=some y:=h1
     obtain⟨hi,ry⟩:=(cq0F.take (m:=M0.n) (by omega)).get h1
     rw[List.getElem?_map,List.getElem?_range hi] at h2
     cases h2
     exact ry.dl
    ·match i,h1,h2 with
     | 0,h1,h2=>cases h1;cases h2;exact .int 0
     | i+1,h1,h2=>simp at h1
   have shG:∀ e∈((List.range M0.n).map fun i=>toD ((ground T.p hp).enc (M0.f.c i)))++[PyData.int 0],Shy 8 264 e:=fun e he=>by
    have h0:(PyData.int 0)=toD ((ground T.p hp).enc 0):=rfl
    have:∃ y,e=toD ((ground T.p hp).enc y):=by
     rcases List.mem_append.mp he with h | h
     ·obtain⟨i,_,hi⟩:=List.mem_map.mp h
      exact⟨_,hi.symm⟩
     ·exact⟨0,by rw[List.mem_singleton.mp h,h0]⟩
    obtain⟨y,hy⟩:=this
    rw[hy]
    exact (shy_el (.gr hp) y).mono (by show 0+1≤8;decide) (Nat.le_trans (Wd.deg (.gr hp)) (by show 1*(2+4*0)≤264;decide))
   have lD:(((List.range M0.n).map fun i=>toD ((ground T.p hp).enc (M0.f.c i)))++[PyData.int 0]).length≤13:=by rw[List.length_append,List.length_map,List.length_range];show _+1≤_;omega
   have b3:=bad_tail bl hlw cpF (dk sF12 xF12.2.2) dm (Nat.le_trans lD (by decide)) ((shy_list (k:=8) (n:=264) shG (m:=8000) (by have:=Nat.mul_le_mul_right (264+2) lD;omega))) (fun M hM=>by
    have h:=NextD.last hM
    have h0:(PyData.int 0)=toD ((ground T.p hp).enc 0):=rfl
    rw[h0] at h
    exact (ground T.p hp).fld.1 ((ground T.p hp).inj _ _ (toD_inj h)).symm)
   refine gsetF key (lF13,_) ⟨hN4.g.trans gF13,del_same _ _ _ _ xF13.2.2,(del_inv xF13.2.2).1,by rw[List.length_append];show _+3≤_;omega,(hN4.bad.same (NewO.of (b:=b) gF13).del).app ?_⟩ rfl
   obtain⟨_,b1⟩:=b1;obtain⟨_,b2⟩:=b2;obtain⟨_,b3⟩:=b3
   exact .cons b1 (.cons b2 (.cons b3 .nil))
  intro i5 N5 hN5
  have lv5:=hN5.lv
  have g5:=gM.trans hN5.g
  exact⟨_,rfl,q i5.1 i5.2 N5 (n9H.trans (NewO.of g5)) ⟨_,_,g5 _ _ eb9⟩ hN5.fb hN5.f (by omega) hN5.bad⟩
end
section
variable {P:Program} {w:World} {K:FrQ} {mg:Str→Option Value} {base:Heap} {CG CS CT:Addr} {k:Nat} {J:L2.Kind}
def spLaw (K:FrQ):Sp:=fun vs H Q _=>∃ (a:Addr) (ns:List Int),vs=[.ref a]∧SqL K H a (ns.map V.int)∧ns.length≤63∧∀ H',Q (.bl true) H'
theorem ok_law (B:Blt mg)(c:ClT K CT)(O:TwE P w K mg base 29 (IsF CG CS CT))(d_q_bag:Dfn P w K mg base 1 "_law_bag" ["_law_script","_law_at"] (spBag K))(d_q_tower:Dfn P w K mg base 38 "_law_tower" ["_law_bag_here"] (spTowerP CG CS CT))(d_q_parts_apart:Dfn P w K mg base 38 "_law_parts_apart" ["_law_tower_here","_law_parts","_law_bag_here","_law_wides"] (spApart CG CS CT))(d_q_refusal:Dfn P w K mg base 38 "_law_refusal" ["_law_p","_law_parts"] (spRefusal CG CS CT))
  (d_q_bad_parts:Dfn P w K mg base 38 "_law_bad_parts" ["_law_tower_here","_law_parts","_law_bag_here","_law_wides"] (spBadP CG CS CT)) (d_q_not_alone:Dfn P w K mg base 38 "_law_not_alone" ["_law_tower_here","_law_parts","_law_bag_here","_law_wides"] (spNotAlone CG CS CT)) (d_q_wide_parts:Dfn P w K mg base 1 "_law_wide_parts" [] spWide)
  {f:Addr} {fd:FuncData} (F:Fun K "law" "law" s_law f fd):FnOk P w K mg base CX0 39 f fd ["_law_script"] (spLaw K):=by
 refine F.ok sc_law (fun vs H Q E h=>?_) (fun cdv A outer s H vs Q E hr h=>?_)
 ·obtain⟨a,ns,rfl,_⟩:=h;rfl
 obtain⟨sa,ns,rfl,hS,hlen,q⟩:=h
 refine⟨_,pss_cons (ps_asg (pe_def d_q_tower hr (pa_cons (pe_def d_q_bag hr (pa_cons (pv 0) (pa_cons pe_int pa_nil)) (by first|decide|omega)) pa_nil) (by first|decide|omega)) (pgK_tup (n:=3) (K:=K) rfl rfl (pgs_cons (pg_name (i:=1) sc_law.nd rfl (Or.inl rfl)) (pgs_cons (pg_name (i:=2) sc_law.nd rfl (Or.inl rfl)) (pgs_cons (pg_name (i:=3) sc_law.nd rfl (Or.inl rfl)) pgs_nil)))))
  (pss_cons (ps_set (i:=4) sc_law.nd rfl (Or.inl rfl) (pe_def d_q_bag hr (pa_cons (pv 0) (pa_cons pe_int pa_nil)) (by first|decide|omega)))
  (pss_cons (ps_if (PW.pt (pw_or (pt_cmpR (opK_neD (K:=K) rfl hr.units) (pe_fldK (K:=K) rfl (pv 1)) (pv 2) (nomark _)) (pw_or (pt_val (pe_callB (callK_isinst (K:=K) rfl) rfl B.«isinstance» bt_isinstance (pa_cons (pe_fldK (K:=K) rfl (pv 1)) (pa_cons (pe_bltn (v:=.ty "bool") rfl B.«bool» bt_bool rfl) pa_nil)))) (pw_or1 (pt_cmpR (opK_neD (K:=K) rfl hr.units) (pe_mth O.times hr (pv 1) (pa_cons (pe_mth0 O.one hr (pv 1) ) (pa_cons (pe_mth0 O.one hr (pv 1) ) pa_nil))) (pe_mth0 O.one hr (pv 1) ) (nomark _))))))
   (pss_one (ps_ret pe_bl))
   (pss_nil))
  (pss_cons (ps_if (pt_not (pt_val (pe_def d_q_parts_apart hr (pa_cons (pv 1) (pa_cons (pv 2) (pa_cons (pe_def d_q_bag hr (pa_cons (pv 0) (pa_cons pe_int pa_nil)) (by first|decide|omega)) (pa_cons (pv 3) pa_nil)))) (by first|decide|omega))))
   (pss_one (ps_ret pe_bl))
   (pss_nil))
  (pss_cons (ps_for PassesOwn.never rfl (piK_list (K:=K) rfl (pe_lst (pa_cons pe_int (pa_cons pe_int (pa_cons pe_int (pa_cons pe_int (pa_cons (pe_un un_neg pe_int) (pa_cons pe_bl (pa_cons pe_non (pa_cons pe_str (pa_cons (pe_lst (pa_cons pe_int pa_nil)) (pa_cons pe_int pa_nil)))))))))))) (pg_name (i:=5) sc_law.nd rfl (Or.inl rfl))
   (pss_one (ps_if (PW.pt (pw_or (pt_cmpR op_ne (pe_def d_q_refusal hr (pa_cons (pv 5) (pa_cons (pv 2) pa_nil)) (by first|decide|omega)) pe_str (nomark _)) (pw_or1 (pt_cmpR op_ne (pe_def d_q_refusal hr (pa_cons (pv 5) (pa_cons pe_non pa_nil)) (by first|decide|omega)) pe_str (nomark _)))))
    (pss_one (ps_ret pe_bl))
    (pss_nil))))
  (pss_cons (ps_for PassesOwn.never rfl (piK_list (K:=K) rfl (pe_op op_cat (pe_def d_q_bad_parts hr (pa_cons (pv 1) (pa_cons (pv 2) (pa_cons (pv 4) (pa_cons (pv 3) pa_nil)))) (by first|decide|omega)) (pe_lst (pa_cons (pe_def d_q_not_alone hr (pa_cons (pv 1) (pa_cons (pv 2) (pa_cons (pv 4) (pa_cons (pv 3) pa_nil)))) (by first|decide|omega)) pa_nil)))) (pg_name (i:=6) sc_law.nd rfl (Or.inl rfl))
   (pss_cons (ps_set (i:=7) sc_law.nd rfl (Or.inl rfl) (pe_callB (callK_repr (K:=K) rfl hr.gd hr.units) rfl B.«repr» bt_repr (pa_cons (pv 6) pa_nil)))
   (pss_one (ps_if (PW.pt (pw_or (pt_cmpR op_ne (pe_def d_q_refusal hr (pa_cons (pe_fldK (K:=K) rfl (pv 1)) (pa_cons (pv 6) pa_nil)) (by first|decide|omega)) pe_str (nomark _)) (pw_or1 (pt_cmpR op_ne (pe_callB (callK_repr (K:=K) rfl hr.gd hr.units) rfl B.«repr» bt_repr (pa_cons (pv 6) pa_nil)) (pv 7) (nomark _)))))
    (pss_one (ps_ret pe_bl))
    (pss_nil)))))
  (pss_cons (ps_for PassesOwn.never rfl (piK_list (K:=K) rfl (pe_def0 d_q_wide_parts hr (by first|decide|omega))) (pg_name (i:=6) sc_law.nd rfl (Or.inl rfl))
   (pss_one (ps_if (PW.pt (pw_or (pt_cmpR op_ne (pe_def d_q_refusal hr (pa_cons pe_int (pa_cons (pv 6) pa_nil)) (by first|decide|omega)) pe_str (nomark _)) (pw_or1 (pt_cmpR op_ne (pe_def d_q_refusal hr (pa_cons pe_int (pa_cons (pe_slice (slK_list (K:=K) rfl) (pv 6) po_none (po_some (pe_un un_neg pe_int))) pa_nil)) (by first|decide|omega)) pe_str (nomark _)))))
    (pss_one (ps_ret pe_bl))
    (pss_nil))))
  (pss_one (ps_ret pe_bl)))))))),?_⟩
 refine mseqF (fun i:Addr×Addr×Addr=>[some (.ref sa),some (.ref i.1),some (.ref i.2.1),some (.ref i.2.2),none,none,none,none]) (fun i H2=>∃ (b0:Addr) (H1:Hp) (T:Twr) (ws:List Nat) (ps:List El) (ok:Addr→Prop),Same H H2∧TowP CG CS CT H1 H2 i.1 i.2.1 i.2.2 T ws ps ok) (fun C key=>?_) ?_
 ·skip
  refine⟨_,rfl,sa,ns,0,rfl,hS,by decide,fun b0 g0 r0 H1 g1 nb0 eb0=>?_⟩
  refine⟨b0,rfl,⟨_,_,eb0⟩,fun t a pl wl T ws ps ok H2 n2 hb2 nt et TL=>?_⟩
  have s12:Same H H2:=fun c o e=>n2 c o (ne_of_none e nb0) (g1 c o e)
  exact⟨t,_,rfl,SqT.of et,rfl,_,_,rfl,_,_,rfl,_,_,rfl,rfl,key (a,pl,wl) _ ⟨b0,H1,T,ws,ps,ok,s12,TL⟩⟩
 rintro⟨a,pl,wl⟩ H2 ⟨b0,H1,T,ws,ps,ok,s12,TL⟩
 refine mseqF (fun b:Addr=>[some (.ref sa),some (.ref a),some (.ref pl),some (.ref wl),some (.ref b),none,none,none]) (fun b H3=>Same H2 H3∧H2 b=none∧Bag H3 b) (fun C key=>⟨_,rfl,sa,ns,1,rfl,s12.seq hS,by decide,fun b g3 r3 H3 g23 nb eb=>gsetF key b ⟨g23,nb,_,_,eb⟩ rfl⟩) ?_
 rintro b H3 ⟨g23,nb,g3,r3,eb⟩
 have jq2:IsFq CG CS CT ok ps H2 a T:=TL.tow.mono (nw_same _ _)
 have jq:=jq2.mono g23
 have rpl2:Rep H2 (fun c=>¬ ok c) (.ref pl) (.vec ps):=TL.pl.imp fun c o h k=>⟨h,k.2⟩
 have okH2:∀ c,ok c→∃ o,H2 c=some o:=fun c hc=>by
  obtain⟨dx,bb,v1,v2,h1,h2,h3,_⟩:=TL.tow
  obtain⟨o,e⟩:=h3 c hc
  exact⟨o,(nw_same _ _) _ _ e⟩
 have nob:¬ ok b:=fun z=>by obtain⟨o,e⟩:=okH2 _ z;rw[nb] at e;cases e
 have now:=TL.nwl
 have hw3:=g23 _ _ TL.wl
 have rpl3:Rep H3 (fun c=>¬ ok c) (.ref pl) (.vec ps):=(TL.pl.same g23).imp fun c o h k=>⟨h,k.2⟩
 obtain⟨hp,bl⟩:=TL.bld
 have hlw:=TL.len
 have lps:ps.length≤5:=by rw[bl.len];exact hlw
 have s13:=s12.trans g23
 have hwb:wl≠b:=ne_of_none TL.wl nb
 have okH3:∀ c,ok c→∃ o,H3 c=some o:=fun c hc=>let ⟨o,e⟩:=okH2 c hc;⟨o,g23 _ _ e⟩
 clear TL okH2 s12
 have hfl:FlE 7 (.vec ps):=by
  refine .vec (by omega) fun e he=>(bl.up.fl (Nat.le_refl 1) e he).mono ?_
  have:=bl.up.ht
  have e0:(ground T.p hp).ht=0:=rfl
  omega
 have j3:=jq.isF
 obtain⟨dx,bt,v1,v2,f1,f2,f3,f4,n5,hn5,f5⟩:=id jq
 refine mseqF (fun _:Unit=>[some (.ref sa),some (.ref a),some (.ref pl),some (.ref wl),some (.ref b),none,none,none]) (fun _ H7=>Same H3 H7) (fun C key=>?_) ?_
 ·skip
  refine⟨_,rfl,a,CT,dx,_,_,rfl,f1,c.cl,c.nQ,lt_parts,_,rfl,neRep f4 rpl3 hfl hfl (by omega) (by omega) (fun _=>?_) (fun z=>absurd rfl z)⟩
  refine⟨_,rfl,iteF ?_⟩
  refine⟨_,rfl,a,CT,dx,_,_,rfl,f1,c.cl,c.nP,lt_p,_,"int","bool",false,rfl,.int _,by with_unfolding_all rfl,_,rfl,iteF ?_⟩
  have hbd:=O.bd j3
  refine⟨_,rfl,a,rfl,⟨T,j3⟩,_,rfl,a,rfl,⟨T,j3⟩,fun _ h=>h,a,T,rfl,j3,fun r4 H4 g4 rr4=>?_⟩
  have j4:=O.mono g4 j3
  refine⟨_,rfl,a,rfl,⟨T,j4⟩,fun _ h=>h,a,T,rfl,j4,fun r5 H5 g5 rr5=>?_⟩
  have j5:=O.mono g5 j4
  refine⟨fun _ h=>(g4.trans g5) _ _ h,a,T,r4,r5,1,1,rfl,j5,(rr4.same g5).any,rr5.any,fun r6 H6 g6 rr6=>?_⟩
  have j6:=O.mono g6 j5
  refine⟨_,rfl,a,rfl,⟨T,j6⟩,fun _ h=>h,a,T,rfl,j6,fun r7 H7 g7 rr7=>?_⟩
  refine neRep (rr6.same g7) rr7 (T.fl _) (T.fl _) (by omega) (by omega) (fun _=>?_) (fun z=>absurd (by congr 1;grind) z)
  exact⟨_,rfl,iteF (key () _ (((g4.trans g5).trans g6).trans g7))⟩
 intro _ H7 g37
 refine mseqF (fun _:Unit=>[some (.ref sa),some (.ref a),some (.ref pl),some (.ref wl),some (.ref b),none,none,none]) (fun _ H9=>∀ c o,¬ ok c→H3 c=some o→H9 c=some o) (fun C key=>?_) ?_
 ·skip
  refine⟨_,rfl,_,rfl,_,rfl,sa,ns,2,rfl,(s13.trans g37).seq hS,by decide,fun b3 gb3 rb3 H8 g78 nb3 eb3=>?_⟩
  have g38:=g37.trans g78
  have nb33:H3 b3=none:=g37.free nb3
  have ne3:∀ {c:Addr} {o:HO},H3 c=some o→c≠b3:=fun e z=>by rw[z,nb33] at e;cases e
  have nob3:¬ ok b3:=fun z=>by obtain⟨o,e⟩:=okH3 _ z;exact ne3 e rfl
  have d38:Same H3 (del H8 b3):=fun c o e=>by rw[del_of (ne3 e)];exact g38 _ _ e
  refine⟨_,rfl,a,pl,b3,wl,T,ws,ps,hp,ok,rfl,⟨_,_,eb3⟩,nob3,jq.mono d38,rpl3.same d38,g38 _ _ hw3,ne3 hw3,bl,hlw,fun H9 out=>?_⟩
  exact⟨_,rfl,iteF (key () _ fun c o hc e=>out c o hc (ne3 e) (g38 _ _ e))⟩
 intro _ H9 out39
 have out2:∀ c o,¬ ok c→H2 c=some o→del H9 b c=some o:=fun c o hc e=>by rw[del_of (fun z=>by rw[z,nb] at e;cases e)];exact out39 c o hc (g23 _ _ e)
 have jd9:IsF CG CS CT (del H9 b) a T:=by
  obtain⟨dx,bt,v1,v2,f1,f2,f3,f4,n5,hn5,f5⟩:=jq2
  exact⟨dx,bt,v1,v2,out2 _ _ f2 f1,n5,hn5,f5.mono fun c o e=>by
   obtain⟨k1,k2⟩:=rs_inv e
   exact out2 c o k1 k2⟩
 have rpld:Rep (del H9 b) Any (.ref pl) (.vec ps):=rpl2.imp fun c o h k=>⟨out2 c o k h,trivial⟩
 have rpl9:Rep H9 Any (.ref pl) (.vec ps):=rpl3.imp fun c o h k=>⟨out39 c o k h,trivial⟩
 have hw9:=out39 _ _ now hw3
 have eb9:=out39 _ _ nob eb
 clear out39 out2 j3 f1 f2 f3 f4 f5 jq jq2 rpl2 rpl3 hw3 eb g37 okH3 nob now nb g23 s13 hS
 have ln1:lenD (toD (.vec ps))≤1000:=by
  show (toDs ps).length≤1000
  rw[toDs_map,List.length_map];omega
 have ln2:∀ ds,toD (.vec ps)=.list ds→∀ e∈ds,lenD e≤1000:=fun ds e x hx=>by
  have e:PyData.list (toDs ps)=.list ds:=e
  injection e with e
  rw[← e,toDs_map] at hx
  obtain⟨y,hy,rfl⟩:=List.mem_map.mp hx
  have:=(part_shy bl hlw y hy).1
  omega
 refine mseq (M:=fun σ HN=>Same H9 HN∧∃ o,σ=[some (.ref sa),some (.ref a),some (.ref pl),some (.ref wl),some (.ref b),o,none,none]) (fun C key=>?_) ?_
 ·skip
  refine⟨_,rfl,len_ok rfl,fun l1 n1=>?_⟩
  generalize hX:upd H9 l1 _=HX
  have e1:HX l1=some (.lst [.int 2]):=by rw[← hX];exact upd_same
  have k1:Same H9 HX:=by rw[← hX];exact same_new n1 _
  clear hX
  refine⟨len_ok rfl,fun l2 n2=>?_⟩
  generalize hX:upd HX l2 _=HY
  have e2:HY l2=some (.lst [.int 1,.int 4,.int 49,.int 53,.int (-2),.bl true,.non,.str "2",.ref l1,.int 2147483647]):=by rw[← hX];exact upd_same
  have k2:Same HX HY:=by rw[← hX];exact same_new n2 _
  clear hX
  have g9Y:=k1.trans k2
  have e1Y:=k2 _ _ e1
  have hit:∀ x∈[V.int 1,.int 4,.int 49,.int 53,.int (-2),.bl true,.non,.str "2",.ref l1,.int 2147483647],∃ d,Dl HY x d∧∀ p∈PR,d≠.int ((p:Nat):Int):=fun x hx=>by
   have np:∀ i:Int,(∀ p∈PR,i≠((p:Nat):Int))→∀ p∈PR,PyData.int i≠.int ((p:Nat):Int):=fun i h p hp z=>by injection z with z;exact h p hp z
   simp only[List.mem_cons,List.not_mem_nil,or_false] at hx
   rcases hx with h | h | h | h | h | h | h | h | h | h <;> rw[h]
   ·exact⟨_,.int 1,np _ (by decide)⟩
   ·exact⟨_,.int 4,np _ (by decide)⟩
   ·exact⟨_,.int 49,np _ (by decide)⟩
   ·exact⟨_,.int 53,np _ (by decide)⟩
   ·exact⟨_,.int (-2),np _ (by decide)⟩
   ·exact⟨_,.bl true,fun p _ z=>by cases z⟩
   ·exact⟨_,.non,fun p _ z=>by cases z⟩
   ·exact⟨_,.str "2",fun p _ z=>by cases z⟩
   ·exact⟨_,DL.l e1Y (.cons (.int 2) .nil),fun p _ z=>by cases z⟩
   ·exact⟨_,.int 2147483647,np _ (by decide)⟩
  refine⟨l2,rfl,⟨_,SqL.of e2⟩,for_list (xs:=[V.int 1,.int 4,.int 49,.int 53,.int (-2),.bl true,.non,.str "2",.ref l1,.int 2147483647]) (fun i σ HZ=>Same HY HZ∧∃ o,σ=[some (.ref sa),some (.ref a),some (.ref pl),some (.ref wl),some (.ref b),o,none,none]) ⟨Same.refl _,_,rfl⟩ (fun i σ HZ _ h=>SqL.of (h.1 _ _ e2)) ?_ ?_⟩
  ·rintro i x σ HZ hx ⟨gZ,o,rfl⟩
   obtain⟨d,dx,nd⟩:=hit x (List.mem_of_getElem? hx)
   have dx:=dx.same gZ
   have rp:=rpl9.same (g9Y.trans gZ)
   refine⟨_,rfl,_,rfl,x,d,.ref pl,_,rfl,dx,rp.dl,ln1,ln2,fun _ HA gA=>?_,fun p hp e=>absurd e (nd p hp),fun p hp e=>absurd e (nd p hp)⟩
   refine⟨rfl,_,rfl,iteNS rfl ?_⟩
   refine⟨_,rfl,x,d,.non,.none,rfl,dx.same gA,.non,by decide,(fun ds z=>by cases z),fun _ HB gB=>?_,fun p hp e=>absurd e (nd p hp),fun p hp e=>absurd e (nd p hp)⟩
   exact⟨rfl,_,rfl,iteNS rfl ⟨(gZ.trans gA).trans gB,_,rfl⟩⟩
  ·rintro σ HZ ⟨gZ,o,rfl⟩
   exact key _ _ ⟨g9Y.trans gZ,_,rfl⟩
 rintro σ HN ⟨gN,o,rfl⟩
 refine mseqF (fun i:Option V×Option V×Option V=>[some (.ref sa),some (.ref a),some (.ref pl),some (.ref wl),some (.ref b),i.1,i.2.1,i.2.2]) (fun _ _=>True) (fun C key=>?_) ?_
 ·skip
  have dN:=(NewO.of (b:=b) gN).del
  have jdN:=jd9.mono dN
  have rpN:=rpld.same dN
  have hwN:=gN _ _ hw9
  have ebN:=gN _ _ eb9
  have wdN:=bl.wd
  refine⟨_,rfl,_,rfl,_,rfl,_,rfl,a,pl,b,wl,T,ws,ps,hp,rfl,⟨_,_,ebN⟩,jdN,rpN,hwN,hwb,bl,hlw,fun l1 vs H10 n10 hb10 l1b e10 lv10 bad10=>?_⟩
  refine⟨_,rfl,_,rfl,_,rfl,_,rfl,a,pl,b,wl,T,ws,ps,hp,rfl,hb10,jdN.mono n10.del,rpN.same n10.del,n10 _ _ hwb hwN,hwb,bl,hlw,fun r d H11 n11 hb11 badr=>?_⟩
  have bad11:=bad10.same n11.del
  refine⟨len_ok rfl,fun l2 n2=>?_⟩
  generalize hX:upd H11 l2 _=H12
  have e2:H12 l2=some (.lst [r]):=by rw[← hX];exact upd_same
  have k2:Same H11 H12:=by rw[← hX];exact same_new n2 _
  clear hX
  refine⟨l1,l2,_,_,rfl,rfl,k2 _ _ (n11 _ _ l1b e10),e2,by rw[sizeLine_eq];show _+1≤_;omega,fun l3 n3=>?_⟩
  generalize hX:upd H12 l3 _=H13
  have e3:H13 l3=some (.lst (vs++[r])):=by rw[← hX];exact upd_same
  have k3:Same H12 H13:=by rw[← hX];exact same_new n3 _
  clear hX
  have g13:=k2.trans k3
  have bad13:BadL H13 hp (vs++[r]):=((bad11.same (del_same _ _)).same g13).app (.cons (badr.same g13) .nil)
  have nA:NewO HN b H13:=(n10.trans n11).trans (NewO.of g13)
  have j13:IsF CG CS CT H13 a T:=(jdN.mono nA.del).mono (del_same _ _)
  clear bad10 bad11 badr e10 e2 n2 n3 k2 k3 n10 n11
  refine⟨l3,rfl,⟨_,SqL.of e3⟩,for_list (xs:=vs++[r]) (fun i σ HZ=>Same H13 HZ∧∃ o1 o2 o3,σ=[some (.ref sa),some (.ref a),some (.ref pl),some (.ref wl),some (.ref b),o1,o2,o3]) ⟨Same.refl _,_,_,_,rfl⟩ (fun i σ HZ _ h=>SqL.of (h.1 _ _ e3)) ?_ ?_⟩
  ·rintro i x σ HZ hx ⟨gZ,o1,o2,o3,rfl⟩
   obtain⟨d,bv⟩:=bad13 x (List.mem_of_getElem? hx)
   have bv:=bv.same gZ
   have shl:d.shown.length≤sizeLine:=by have:=bv.shy.ln;rw[sizeLine_eq];omega
   have jZ:=j13.mono gZ
   obtain⟨C,dx,fs,hins,hcl,hna,hlk⟩:=O.fld jZ
   refine⟨_,rfl,x,d,rfl,bv.dl.den,bv.shy.sh,bv.shy.nd,bv.shy.dp,shl,?_⟩
   refine⟨_,rfl,a,C,dx,_,_,rfl,hins,hcl,hna,hlk,_,rfl,.int (T.p:Int),_,x,d,rfl,.int _,bv.dl,bv.len,bv.el,fun z=>absurd rfl (z T.p hp),fun p hp' e=>?_,fun p hp' e ps T' pd=>?_⟩
   ·obtain rfl:T.p=p:=by injection e with e;omega
    intro _ HA gA
    refine⟨rfl,_,rfl,iteNS rfl ?_⟩
    refine⟨_,rfl,x,d,rfl,(bv.dl.same gA).den,bv.shy.sh,bv.shy.nd,bv.shy.dp,shl,_,rfl,rfl,_,rfl,iteNS rfl ⟨gZ.trans gA,_,_,_,rfl⟩⟩
   ·obtain rfl:T.p=p:=by injection e with e;omega
    exact absurd ⟨ps,T',pd⟩ bv.no
  ·rintro σ HZ ⟨gZ,o1,o2,o3,rfl⟩
   exact key (o1,o2,o3) _ trivial
 rintro⟨o1,o2,o3⟩ HM _
 refine⟨rfl,fun rw0 H14 g14 rr=>?_⟩
 obtain⟨lw,wvs,rfl,hlw',_,lwl,wit⟩:∃ lw wvs,rw0=.ref lw∧H14 lw=some (.lst wvs)∧True∧wvs.length=wideE.length∧∀ (i:Nat) v e,wvs[i]?=some v→wideE[i]?=some e→Rep H14 Any v e:=by
  cases rr with
  | vec h k hl it=>exact⟨_,_,rfl,h,trivial,hl,it⟩
 refine⟨lw,rfl,⟨_,SqL.of hlw'⟩,for_list (xs:=wvs) (fun i σ HZ=>Same H14 HZ∧∃ o1 o2 o3,σ=[some (.ref sa),some (.ref a),some (.ref pl),some (.ref wl),some (.ref b),o1,o2,o3]) ⟨Same.refl _,_,_,_,rfl⟩ (fun i σ HZ _ h=>SqL.of (h.1 _ _ hlw')) ?_ ?_⟩
 ·rintro i x σ HZ hx ⟨gZ,o1,o2,o3,rfl⟩
  have hi:i<3:=by
   have:=(List.getElem?_eq_some_iff.mp hx).1
   rw[lwl] at this
   exact this
  obtain⟨es,he,wide,le1,le2,le3,T',up⟩:∃ es,wideE[i]?=some (.vec es)∧12<es.foldl (fun n e=>n*lnE e) 1∧1≤es.length∧es.length≤5∧(∀ e∈es,lenD (toD e)≤1000)∧∃ T',Up 0 es.dropLast (ground 2 h2) T':=by
   have:i=0∨i=1∨i=2:=by omega
   rcases this with rfl | rfl | rfl
   ·exact⟨_,rfl,by decide,by decide,by decide,by decide,_,up3⟩
   ·exact⟨_,rfl,by decide,by decide,by decide,by decide,_,up7⟩
   ·exact⟨_,rfl,by decide,by decide,by decide,by decide,up42⟩
  have dl1:∀ es':List El,es'.length≤5→lenD (toD (.vec es'))≤1000:=fun es' h=>by
   show (toDs es').length≤1000
   rw[toDs_map,List.length_map];omega
  have dl2:∀ es':List El,(∀ e∈es',lenD (toD e)≤1000)→∀ ds,toD (.vec es')=.list ds→∀ e∈ds,lenD e≤1000:=fun es' h ds e x hx=>by
   have e:PyData.list (toDs es')=.list ds:=e
   injection e with e
   rw[← e,toDs_map] at hx
   obtain⟨y,hy,rfl⟩:=List.mem_map.mp hx
   exact h y hy
  have rx:Rep HZ Any x (.vec es):=(wit i x _ hx he).same gZ
  refine⟨_,rfl,.int 2,_,x,toD (.vec es),rfl,.int 2,rx.dl,dl1 es le2,dl2 es le3,fun z=>absurd rfl (z 2 h2),fun p hp' e=>?_,fun p hp' e qs T2 pd=>absurd ⟨_,_,pd⟩ (too_wide wide)⟩
  obtain rfl:2=p:=by injection e with e;omega
  intro _ HA gA
  refine⟨rfl,_,rfl,iteNS rfl ?_⟩
  have rxA:=rx.same gA
  rw[vec_of] at rxA
  obtain⟨lx,vx,rfl,hlx,_,cx⟩:=id rxA.cf
  have lvx:=cx.len
  have vne:vx≠[]:=fun z=>by rw[z] at lvx;simp at lvx;omega
  refine⟨_,rfl,_,rfl,_,rfl,lx,_,rfl,SqL.of hlx,fun l5 n5=>?_⟩
  generalize hX:upd HA l5 _=HB
  have e5:HB l5=some (.lst vx.dropLast):=by rw[← hX,← cutV_last vx vne];exact upd_same
  have k5:Same HA HB:=by rw[← hX];exact same_new n5 _
  clear hX
  have r5:Rep HB Any (.ref l5) (.vec es.dropLast):=by
   rw[vec_of,List.length_dropLast]
   rw[List.dropLast_eq_take,lvx] at e5
   refine (((cx.take (m:=es.length - 1) (by omega)).same k5).congr fun i hi=>?_).rep e5 trivial
   rw[List.getD_eq_getElem?_getD,List.getD_eq_getElem?_getD,List.dropLast_eq_take,List.getElem?_take_of_lt hi]
  refine⟨.int 2,_,.ref l5,toD (.vec es.dropLast),rfl,.int 2,r5.dl,dl1 _ (by rw[List.length_dropLast];omega),dl2 _ (fun e he=>le3 e (List.dropLast_subset _ he)),fun z=>absurd rfl (z 2 h2),fun p hp' e no=>?_,fun p hp' e qs T2 pd HC gC=>?_⟩
  ·obtain rfl:2=p:=by injection e with e;omega
   exact absurd ⟨es.dropLast,T',rfl,by rw[List.length_dropLast];omega,up⟩ no
  ·exact⟨rfl,_,rfl,iteNS rfl ⟨((gZ.trans gA).trans k5).trans gC,_,_,_,rfl⟩⟩
 ·rintro σ HZ ⟨gZ,o1,o2,o3,rfl⟩
  exact q _
theorem mks (B:Blt mg)(X:TwSrc K mg CG CS)(Y:ElSrc K mg CG CS)(Z:TcSrc K CT)(M:MkSrc K mg CG CS CT){C_NoTower C_NoPrime:Addr}(m_NoTower:mg "NoTower"=some (.ref C_NoTower))(q_NoTower:PySem.W.excIn K C_NoTower bmV "ValueError.__new__"=true)(m_NoPrime:mg "NoPrime"=some (.ref C_NoPrime))(q_NoPrime:PySem.W.excIn K C_NoPrime bmV "ValueError.__new__"=true):
  MakerE P w K mg base 36 "Tower" CT ["self","p","parts"] (spInitP CG CS CT)∧MakerE P w K mg base 36 "Tower" CT ["self","p","parts"] (spInitAny CG CS CT C_NoPrime C_NoTower):=by
 have dc:=ok_copied (P:=P) (w:=w) (base:=base) B X.f1 8
 have E:=twe_all (P:=P) (w:=w) (base:=base) B X Y
 have O:TwE P w K mg base 28 (IsTU CG CS):=tweU fun n hn=>(E n hn).up (by omega)
 have Pl:=polys_of B X (by decide) O.toTwB
 obtain⟨fg,fdg,mkg,Fg,bg,mgg⟩:=M.g
 obtain⟨fs,fds,mks,Fs,bs,mgs⟩:=M.s
 obtain⟨ft,fdt,mkt,Ft,bt,mgt⟩:=M.t
 obtain⟨t1,ht1⟩:=M.p1
 obtain⟨t2,ht2⟩:=M.p2
 obtain⟨xp,hx1,hx2⟩:=M.p3
 have mG:Maker P w K mg base 1 "Ground" CG ["self","p"] (spInitG CG):=⟨fg,fdg,mkg,bg,ok_Ground_init B X.cg Fg,mgg⟩
 have mS:Maker P w K mg base 9 "Storey" CS ["self","floor","part"] (fun vs H Q E=>∃ i:Ix,spInitS CG CS i.1 vs H Q E):=⟨fs,fds,mks,bs,FnOk.union fun i=>ok_Storey_init B X.cs dc (E i.1 i.2) Fs,mgs⟩
 have mo2:=ok_is_monic_any B O M.f1
 have np2:=ok_is_next_any B O ht1 mo2 Pl.alone M.f2
 have tp2:=ok_top_any m_NoTower q_NoTower B (by decide) O ht2 mG mS np2 Pl.letter M.f3
 have wh:=ok_is_whole (P:=P) (w:=w) (base:=base) B Y.f1
 have pr2:=ok_is_prime_any B hx1 hx2 wh M.f4
 have mE:MakerE P w K mg base 36 "Tower" CT ["self","p","parts"] (spInitAny CG CS CT C_NoPrime C_NoTower):=⟨ft,fdt,mkt,bt,ok_Tower_any m_NoPrime q_NoPrime B Z.c (by decide) pr2 dc tp2 Ft,mgt⟩
 exact⟨mE.imp any_of_p,mE⟩
end
local macro_rules | `(tactic| walk_at "b0") => `(tactic| exact L2.bd0 fun _ _ _ _ _ _ => rfl)
local macro_rules | `(tactic| walk_at "b1") => `(tactic| exact L2.bd1 fun _ _ _ _ _ _ _ => rfl)
local macro_rules | `(tactic| walk_at "b2") => `(tactic| exact L2.bd2 fun _ _ _ _ _ _ _ _ => rfl)
local macro_rules | `(tactic| walk_at "b3") => `(tactic| exact L2.bd3 fun _ _ _ _ _ _ _ _ _ => rfl)
local macro_rules | `(tactic| walk_at "b4") => `(tactic| exact L2.bd4 fun _ _ _ _ _ _ _ _ _ _ => rfl)
theorem all_mk {l:PySem.W.OpenLaw}{w:World}{K:FrQ}{h:Heap}{mg:Str→Option Value}{fa:Addr}(X:K.In h)(G:h.Ns mainGlobals mg)(hfa:mg "law"=some (.ref fa))
  {C_Ground:Addr}
  {C_Storey:Addr}
  {C_Tower:Addr}
  {f33:Addr} {od33 an33:Option Addr} {sl33:Array (Option Value)} {oc33 kV33 dc33 pm33 cd33 ct33:Value}
  {C_BranchError:Addr}
  {C_NoPrime:Addr}
  {C_NoPolynomial:Addr}
  {C_NotPlain:Addr}
  {C_TooDeep:Addr}
  {C_NoTower:Addr}
  {C_NoSize:Addr}
  {C_NoText:Addr}
  {C_NoRow:Addr}
  {t_MOST_DEGREE:Tok}
  {t_MOST_PARTS:Tok}
  {x_PRIMES:Addr} {o_PRIMES:Obj}
  (aC_Ground:PySem.W.nsIn K mainGlobals "Ground"=some (some (.ref C_Ground)))
  (aC_Storey:PySem.W.nsIn K mainGlobals "Storey"=some (some (.ref C_Storey)))
  (aC_Tower:PySem.W.nsIn K mainGlobals "Tower"=some (some (.ref C_Tower)))
  (h_copied:GlIn K "copied" s_copied)
  (h_is_whole:GlIn K "is_whole" s_is_whole)
  (h_is_prime:GlIn K "is_prime" s_is_prime)
  (h_number_power:GlIn K "number_power" s_number_power)
  (h_without_noughts:GlIn K "without_noughts" s_without_noughts)
  (h_minus_poly:GlIn K "minus_poly" s_minus_poly)
  (h_scaled_poly:GlIn K "scaled_poly" s_scaled_poly)
  (h_times_poly:GlIn K "times_poly" s_times_poly)
  (h_over_monic:GlIn K "over_monic" s_over_monic)
  (h_monic_of:GlIn K "monic_of" s_monic_of)
  (h_over_poly:GlIn K "over_poly" s_over_poly)
  (h_common_poly:GlIn K "common_poly" s_common_poly)
  (h_power_by:GlIn K "power_by" s_power_by)
  (h_letter_of:GlIn K "letter_of" s_letter_of)
  (h_letter_to_powers:GlIn K "letter_to_powers" s_letter_to_powers)
  (h_primes_in:GlIn K "primes_in" s_primes_in)
  (h_is_alone:GlIn K "is_alone" s_is_alone)
  (h_power_in:GlIn K "power_in" s_power_in)
  (h_is_monic_over:GlIn K "is_monic_over" s_is_monic_over)
  (h_is_next_part:GlIn K "is_next_part" s_is_next_part)
  (h_top_of_any:GlIn K "top_of_any" s_top_of_any)
  (h_q_bag:GlIn K "_law_bag" s_q_bag)
  (h_q_take:GlIn K "_law_take" s_q_take)
  (h_q_element:GlIn K "_law_element" s_q_element)
  (h_q_part:GlIn K "_law_part" s_q_part)
  (h_q_tower:GlIn K "_law_tower" s_q_tower)
  (h_q_refusal:GlIn K "_law_refusal" s_q_refusal)
  (h_q_product:GlIn K "_law_product" s_q_product)
  (h_q_bad_parts:GlIn K "_law_bad_parts" s_q_bad_parts)
  (h_q_not_alone:GlIn K "_law_not_alone" s_q_not_alone)
  (h_q_wide_parts:GlIn K "_law_wide_parts" s_q_wide_parts)
  (h_q_parts_apart:GlIn K "_law_parts_apart" s_q_parts_apart)
  (a33:PySem.W.nsIn K mainGlobals "law"=some (some (.ref f33))) (l33:K.lookup f33=some ⟨oc33,od33,.func (PySem.W.fnOf "law" "law" (defArgs s_law) (defBody s_law) (defScope s_law) .none kV33 dc33 pm33 an33 cd33 ct33),sl33⟩) (c33:PySem.W.codeIn K cd33 "law"=true) (k33:PySem.W.keepIn K (.ref f33)=true)
  (h_Ground_init:MtIn K C_Ground "__init__" "Ground.__init__" s_Ground_init)
  (h_Ground_degree:MtIn K C_Ground "degree" "Ground.degree" s_Ground_degree)
  (h_Ground_zero:MtIn K C_Ground "zero" "Ground.zero" s_Ground_zero)
  (h_Ground_one:MtIn K C_Ground "one" "Ground.one" s_Ground_one)
  (h_Ground_whole:MtIn K C_Ground "whole" "Ground.whole" s_Ground_whole)
  (h_Ground_plus:MtIn K C_Ground "plus" "Ground.plus" s_Ground_plus)
  (h_Ground_minus:MtIn K C_Ground "minus" "Ground.minus" s_Ground_minus)
  (h_Ground_times:MtIn K C_Ground "times" "Ground.times" s_Ground_times)
  (h_Ground_back:MtIn K C_Ground "back" "Ground.back" s_Ground_back)
  (h_Ground_power:MtIn K C_Ground "power" "Ground.power" s_Ground_power)
  (h_Ground_is_nought:MtIn K C_Ground "is_nought" "Ground.is_nought" s_Ground_is_nought)
  (h_Ground_is_element:MtIn K C_Ground "is_element" "Ground.is_element" s_Ground_is_element)
  (h_Storey_init:MtIn K C_Storey "__init__" "Storey.__init__" s_Storey_init)
  (h_Storey_width:MtIn K C_Storey "width" "Storey.width" s_Storey_width)
  (h_Storey_degree:MtIn K C_Storey "degree" "Storey.degree" s_Storey_degree)
  (h_Storey_zero:MtIn K C_Storey "zero" "Storey.zero" s_Storey_zero)
  (h_Storey_one:MtIn K C_Storey "one" "Storey.one" s_Storey_one)
  (h_Storey_whole:MtIn K C_Storey "whole" "Storey.whole" s_Storey_whole)
  (h_Storey_lifted:MtIn K C_Storey "lifted" "Storey.lifted" s_Storey_lifted)
  (h_Storey_plus:MtIn K C_Storey "plus" "Storey.plus" s_Storey_plus)
  (h_Storey_minus:MtIn K C_Storey "minus" "Storey.minus" s_Storey_minus)
  (h_Storey_times:MtIn K C_Storey "times" "Storey.times" s_Storey_times)
  (h_Storey_back:MtIn K C_Storey "back" "Storey.back" s_Storey_back)
  (h_Storey_by_part:MtIn K C_Storey "by_part" "Storey.by_part" s_Storey_by_part)
  (h_Storey_is_nought:MtIn K C_Storey "is_nought" "Storey.is_nought" s_Storey_is_nought)
  (h_Storey_is_element:MtIn K C_Storey "is_element" "Storey.is_element" s_Storey_is_element)
  (h_Tower_init:MtIn K C_Tower "__init__" "Tower.__init__" s_Tower_init)
  (h_Tower_degree:MtIn K C_Tower "degree" "Tower.degree" s_Tower_degree)
  (h_Tower_zero:MtIn K C_Tower "zero" "Tower.zero" s_Tower_zero)
  (h_Tower_one:MtIn K C_Tower "one" "Tower.one" s_Tower_one)
  (h_Tower_whole:MtIn K C_Tower "whole" "Tower.whole" s_Tower_whole)
  (h_Tower_plus:MtIn K C_Tower "plus" "Tower.plus" s_Tower_plus)
  (h_Tower_minus:MtIn K C_Tower "minus" "Tower.minus" s_Tower_minus)
  (h_Tower_times:MtIn K C_Tower "times" "Tower.times" s_Tower_times)
  (h_Tower_back:MtIn K C_Tower "back" "Tower.back" s_Tower_back)
  (h_Tower_is_nought:MtIn K C_Tower "is_nought" "Tower.is_nought" s_Tower_is_nought)
  (h_Tower_is_element:MtIn K C_Tower "is_element" "Tower.is_element" s_Tower_is_element)
  (pg_Ground:PySem.W.plainGet K C_Ground Str.empty=true) (hd_Ground:PySem.W.hasDictIn K C_Ground=true) (po_Ground:PySem.W.plainOver K C_Ground=true) (sa_Ground:PySem.W.findIn K (.ref C_Ground) "__setattr__"=some (some (.builtin "object.__setattr__"))) (mk_Ground:PySem.W.makesIn K C_Ground=true) (kc_Ground:PySem.W.keepIn K (.ref C_Ground)=true)
  (n_Ground_p:PySem.W.findIn K (.ref C_Ground) "p"=some none)
  (pg_Storey:PySem.W.plainGet K C_Storey Str.empty=true) (hd_Storey:PySem.W.hasDictIn K C_Storey=true) (po_Storey:PySem.W.plainOver K C_Storey=true) (sa_Storey:PySem.W.findIn K (.ref C_Storey) "__setattr__"=some (some (.builtin "object.__setattr__"))) (mk_Storey:PySem.W.makesIn K C_Storey=true) (kc_Storey:PySem.W.keepIn K (.ref C_Storey)=true)
  (n_Storey_floor:PySem.W.findIn K (.ref C_Storey) "floor"=some none)
  (n_Storey_p:PySem.W.findIn K (.ref C_Storey) "p"=some none)
  (n_Storey_part:PySem.W.findIn K (.ref C_Storey) "part"=some none)
  (pg_Tower:PySem.W.plainGet K C_Tower Str.empty=true) (hd_Tower:PySem.W.hasDictIn K C_Tower=true) (po_Tower:PySem.W.plainOver K C_Tower=true) (sa_Tower:PySem.W.findIn K (.ref C_Tower) "__setattr__"=some (some (.builtin "object.__setattr__"))) (mk_Tower:PySem.W.makesIn K C_Tower=true) (kc_Tower:PySem.W.keepIn K (.ref C_Tower)=true)
  (n_Tower_top:PySem.W.findIn K (.ref C_Tower) "top"=some none)
  (n_Tower_p:PySem.W.findIn K (.ref C_Tower) "p"=some none)
  (n_Tower_parts:PySem.W.findIn K (.ref C_Tower) "parts"=some none)
  (n_Tower_kept:PySem.W.findIn K (.ref C_Tower) "kept"=some none)
  (aC_BranchError:PySem.W.nsIn K mainGlobals "BranchError"=some (some (.ref C_BranchError)))
  (aC_NoPrime:PySem.W.nsIn K mainGlobals "NoPrime"=some (some (.ref C_NoPrime)))
  (aC_NoPolynomial:PySem.W.nsIn K mainGlobals "NoPolynomial"=some (some (.ref C_NoPolynomial)))
  (aC_NotPlain:PySem.W.nsIn K mainGlobals "NotPlain"=some (some (.ref C_NotPlain)))
  (aC_TooDeep:PySem.W.nsIn K mainGlobals "TooDeep"=some (some (.ref C_TooDeep)))
  (aC_NoTower:PySem.W.nsIn K mainGlobals "NoTower"=some (some (.ref C_NoTower)))
  (aC_NoSize:PySem.W.nsIn K mainGlobals "NoSize"=some (some (.ref C_NoSize)))
  (aC_NoText:PySem.W.nsIn K mainGlobals "NoText"=some (some (.ref C_NoText)))
  (aC_NoRow:PySem.W.nsIn K mainGlobals "NoRow"=some (some (.ref C_NoRow)))
  (q_NoPrime:PySem.W.excIn K C_NoPrime [.type "ValueError",.type "Exception",.type "BaseException",.type "object"] "ValueError.__new__"=true)
  (xp_ga:PySem.W.findIn K (.ref C_NoPrime) "__getattribute__"=some (some (.builtin "BaseException.__getattribute__")))
  (xp_no:PySem.W.findIn K (.ref C_NoPrime) "__getattr__"=some none)
  (xp_at:PySem.W.findIn K (.ref C_NoPrime) "__class__"=some (some (.builtin "object.__class__")))
  (xp_ob:PySem.W.mroIn K C_NoPrime (.type "object")=some true)
  (xp_be:PySem.W.mroIn K C_NoPrime (.type "BaseException")=some true)
  (xp_va:PySem.W.subIn K (.ref C_NoPrime) (.type "ValueError")=some true)
  (xp_bs:PySem.W.subIn K (.ref C_NoPrime) (.ref C_BranchError)=some true)
  (xp_nn:PySem.W.subIn K (.ref C_NoPrime) (.ref C_NoPrime)=some true)
  (xp_NoPolynomial:PySem.W.subIn K (.ref C_NoPrime) (.ref C_NoPolynomial)=some false)
  (xp_NoRow:PySem.W.subIn K (.ref C_NoPrime) (.ref C_NoRow)=some false)
  (xp_NoSize:PySem.W.subIn K (.ref C_NoPrime) (.ref C_NoSize)=some false)
  (xp_NotPlain:PySem.W.subIn K (.ref C_NoPrime) (.ref C_NotPlain)=some false)
  (xp_NoText:PySem.W.subIn K (.ref C_NoPrime) (.ref C_NoText)=some false)
  (xp_TooDeep:PySem.W.subIn K (.ref C_NoPrime) (.ref C_TooDeep)=some false)
  (xp_NoTower:PySem.W.subIn K (.ref C_NoPrime) (.ref C_NoTower)=some false)
  (q_NoTower:PySem.W.excIn K C_NoTower [.type "ValueError",.type "Exception",.type "BaseException",.type "object"] "ValueError.__new__"=true)
  (xt_ga:PySem.W.findIn K (.ref C_NoTower) "__getattribute__"=some (some (.builtin "BaseException.__getattribute__")))
  (xt_no:PySem.W.findIn K (.ref C_NoTower) "__getattr__"=some none)
  (xt_at:PySem.W.findIn K (.ref C_NoTower) "__class__"=some (some (.builtin "object.__class__")))
  (xt_ob:PySem.W.mroIn K C_NoTower (.type "object")=some true)
  (xt_be:PySem.W.mroIn K C_NoTower (.type "BaseException")=some true)
  (xt_va:PySem.W.subIn K (.ref C_NoTower) (.type "ValueError")=some true)
  (xt_bs:PySem.W.subIn K (.ref C_NoTower) (.ref C_BranchError)=some true)
  (xt_nn:PySem.W.subIn K (.ref C_NoTower) (.ref C_NoTower)=some true)
  (xw_NoPolynomial:PySem.W.subIn K (.ref C_NoTower) (.ref C_NoPolynomial)=some false)
  (xw_NoRow:PySem.W.subIn K (.ref C_NoTower) (.ref C_NoRow)=some false)
  (xw_NoSize:PySem.W.subIn K (.ref C_NoTower) (.ref C_NoSize)=some false)
  (xw_NotPlain:PySem.W.subIn K (.ref C_NoTower) (.ref C_NotPlain)=some false)
  (xw_NoText:PySem.W.subIn K (.ref C_NoTower) (.ref C_NoText)=some false)
  (xw_TooDeep:PySem.W.subIn K (.ref C_NoTower) (.ref C_TooDeep)=some false)
  (xt_NoPrime2:PySem.W.subIn K (.ref C_NoTower) (.ref C_NoPrime)=some false)
  (x_get:PySem.W.specialIn K (.builtin "object.__class__") "__get__"=some (some (.builtin "getset_descriptor.__get__")))
  (x_tk:PySem.W.takesIn K (.builtin "object.__class__")=some true)
  (x_bb:PySem.W.subIn K (.ref C_BranchError) (.type "BaseException")=some true)
  (xm_BranchError:PySem.W.mroIn K C_BranchError (.type "object")=some true)
  (xt_BranchError:PySem.W.typeIn K (.ref C_BranchError)=some (.type "type"))
  (xm_NoPolynomial:PySem.W.mroIn K C_NoPolynomial (.type "object")=some true)
  (xt_NoPolynomial:PySem.W.typeIn K (.ref C_NoPolynomial)=some (.type "type"))
  (xm_NoRow:PySem.W.mroIn K C_NoRow (.type "object")=some true)
  (xt_NoRow:PySem.W.typeIn K (.ref C_NoRow)=some (.type "type"))
  (xm_NoSize:PySem.W.mroIn K C_NoSize (.type "object")=some true)
  (xt_NoSize:PySem.W.typeIn K (.ref C_NoSize)=some (.type "type"))
  (xm_NotPlain:PySem.W.mroIn K C_NotPlain (.type "object")=some true)
  (xt_NotPlain:PySem.W.typeIn K (.ref C_NotPlain)=some (.type "type"))
  (xm_NoText:PySem.W.mroIn K C_NoText (.type "object")=some true)
  (xt_NoText:PySem.W.typeIn K (.ref C_NoText)=some (.type "type"))
  (xm_TooDeep:PySem.W.mroIn K C_TooDeep (.type "object")=some true)
  (xt_TooDeep:PySem.W.typeIn K (.ref C_TooDeep)=some (.type "type"))
  (xm_NoPrime:PySem.W.mroIn K C_NoPrime (.type "object")=some true)
  (xt_NoPrime:PySem.W.typeIn K (.ref C_NoPrime)=some (.type "type"))
  (xm_NoTower:PySem.W.mroIn K C_NoTower (.type "object")=some true)
  (xt_NoTower:PySem.W.typeIn K (.ref C_NoTower)=some (.type "type"))
  (y_MOST_DEGREE:PySem.W.nsIn K mainGlobals "MOST_DEGREE"=some (some (.int 12 t_MOST_DEGREE)))
  (y_MOST_PARTS:PySem.W.nsIn K mainGlobals "MOST_PARTS"=some (some (.int 5 t_MOST_PARTS)))
  (y_PRIMES:PySem.W.nsIn K mainGlobals "PRIMES"=some (some (.ref x_PRIMES))) (w_PRIMES:K.lookup x_PRIMES=some o_PRIMES)
  (v_PRIMES:tupInts o_PRIMES (PR.map fun p:Nat=>(p:Int))=true)
  (z_ValueError:PySem.W.nsIn K mainGlobals "ValueError"=some none)
  (z_abs:PySem.W.nsIn K mainGlobals "abs"=some none)
  (z_all:PySem.W.nsIn K mainGlobals "all"=some none)
  (z_bool:PySem.W.nsIn K mainGlobals "bool"=some none)
  (z_enumerate:PySem.W.nsIn K mainGlobals "enumerate"=some none)
  (z_int:PySem.W.nsIn K mainGlobals "int"=some none)
  (z_isinstance:PySem.W.nsIn K mainGlobals "isinstance"=some none)
  (z_len:PySem.W.nsIn K mainGlobals "len"=some none)
  (z_list:PySem.W.nsIn K mainGlobals "list"=some none)
  (z_max:PySem.W.nsIn K mainGlobals "max"=some none)
  (z_min:PySem.W.nsIn K mainGlobals "min"=some none)
  (z_range:PySem.W.nsIn K mainGlobals "range"=some none)
  (z_repr:PySem.W.nsIn K mainGlobals "repr"=some none)
  (z_tuple:PySem.W.nsIn K mainGlobals "tuple"=some none)
  (z_zip:PySem.W.nsIn K mainGlobals "zip"=some none):
  ∃ fd:FuncData,(∀ (s:Shared) (v:Value),BindsTo s fd ⟨[v],[]⟩ [("_law_script",v)])∧∀ base:Heap,K.In base→base.Ns mainGlobals mg→FnOk l.prog w K mg base CX0 39 fa fd ["_law_script"] (spLaw K):=by
 have e:=hfa.symm.trans (PySem.W.mg_of X G a33)
 cases e
 have S_copied:=src_in (mg:=mg) (ps:=["thing"]) X G h_copied (by walk_at "b1")
 have S_is_whole:=src_in (mg:=mg) (ps:=["thing"]) X G h_is_whole (by walk_at "b1")
 have S_is_prime:=src_in (mg:=mg) (ps:=["k"]) X G h_is_prime (by walk_at "b1")
 have S_number_power:=src_in (mg:=mg) (ps:=["k","n"]) X G h_number_power (by walk_at "b2")
 have S_without_noughts:=src_in (mg:=mg) (ps:=["tower","terms"]) X G h_without_noughts (by walk_at "b2")
 have S_minus_poly:=src_in (mg:=mg) (ps:=["tower","f","g"]) X G h_minus_poly (by walk_at "b3")
 have S_scaled_poly:=src_in (mg:=mg) (ps:=["tower","u","f"]) X G h_scaled_poly (by walk_at "b3")
 have S_times_poly:=src_in (mg:=mg) (ps:=["tower","f","g"]) X G h_times_poly (by walk_at "b3")
 have S_over_monic:=src_in (mg:=mg) (ps:=["tower","f","g"]) X G h_over_monic (by walk_at "b3")
 have S_monic_of:=src_in (mg:=mg) (ps:=["tower","f"]) X G h_monic_of (by walk_at "b2")
 have S_over_poly:=src_in (mg:=mg) (ps:=["tower","f","g"]) X G h_over_poly (by walk_at "b3")
 have S_common_poly:=src_in (mg:=mg) (ps:=["tower","f","g"]) X G h_common_poly (by walk_at "b3")
 have S_power_by:=src_in (mg:=mg) (ps:=["tower","g","n","f"]) X G h_power_by (by walk_at "b4")
 have S_letter_of:=src_in (mg:=mg) (ps:=["tower"]) X G h_letter_of (by walk_at "b1")
 have S_letter_to_powers:=src_in (mg:=mg) (ps:=["tower","f","many"]) X G h_letter_to_powers (by walk_at "b3")
 have S_primes_in:=src_in (mg:=mg) (ps:=["n"]) X G h_primes_in (by walk_at "b1")
 have S_is_alone:=src_in (mg:=mg) (ps:=["tower","f"]) X G h_is_alone (by walk_at "b2")
 have S_power_in:=src_in (mg:=mg) (ps:=["storey","u","n"]) X G h_power_in (by walk_at "b3")
 have S_is_monic_over:=src_in (mg:=mg) (ps:=["top","thing"]) X G h_is_monic_over (by walk_at "b2")
 have S_is_next_part:=src_in (mg:=mg) (ps:=["top","thing"]) X G h_is_next_part (by walk_at "b2")
 have S_top_of_any:=src_in (mg:=mg) (ps:=["p","parts"]) X G h_top_of_any (by walk_at "b2")
 have S_q_bag:=src_in (mg:=mg) (ps:=["_law_script","_law_at"]) X G h_q_bag (by walk_at "b2")
 have S_q_take:=src_in (mg:=mg) (ps:=["_law_bag_here","_law_many"]) X G h_q_take (by walk_at "b2")
 have S_q_element:=src_in (mg:=mg) (ps:=["_law_bag_here","_law_p","_law_wides"]) X G h_q_element (by walk_at "b3")
 have S_q_part:=src_in (mg:=mg) (ps:=["_law_bag_here","_law_tower_here","_law_wides","_law_many"]) X G h_q_part (by walk_at "b4")
 have S_q_tower:=src_in (mg:=mg) (ps:=["_law_bag_here"]) X G h_q_tower (by walk_at "b1")
 have S_q_refusal:=src_in (mg:=mg) (ps:=["_law_p","_law_parts"]) X G h_q_refusal (by walk_at "b2")
 have S_q_product:=src_in (mg:=mg) (ps:=["_law_tower_here","_law_u","_law_v"]) X G h_q_product (by walk_at "b3")
 have S_q_bad_parts:=src_in (mg:=mg) (ps:=["_law_tower_here","_law_parts","_law_bag_here","_law_wides"]) X G h_q_bad_parts (by walk_at "b4")
 have S_q_not_alone:=src_in (mg:=mg) (ps:=["_law_tower_here","_law_parts","_law_bag_here","_law_wides"]) X G h_q_not_alone (by walk_at "b4")
 have S_q_wide_parts:=src_in (mg:=mg) (ps:=[]) X G h_q_wide_parts (by walk_at "b0")
 have S_q_parts_apart:=src_in (mg:=mg) (ps:=["_law_tower_here","_law_parts","_law_bag_here","_law_wides"]) X G h_q_parts_apart (by walk_at "b4")
 have F_law:=fun_mk (st:=s_law) l33 c33 k33
 have S_Ground_init:=init_in (mg:=mg) (ps:=["self","p"]) X G mk_Ground kc_Ground aC_Ground h_Ground_init (by walk_at "b2")
 have S_Ground_degree:=msrc_in (ps:=["self"]) h_Ground_degree (by walk_at "b1")
 have S_Ground_zero:=msrc_in (ps:=["self"]) h_Ground_zero (by walk_at "b1")
 have S_Ground_one:=msrc_in (ps:=["self"]) h_Ground_one (by walk_at "b1")
 have S_Ground_whole:=msrc_in (ps:=["self","k"]) h_Ground_whole (by walk_at "b2")
 have S_Ground_plus:=msrc_in (ps:=["self","u","v"]) h_Ground_plus (by walk_at "b3")
 have S_Ground_minus:=msrc_in (ps:=["self","u","v"]) h_Ground_minus (by walk_at "b3")
 have S_Ground_times:=msrc_in (ps:=["self","u","v"]) h_Ground_times (by walk_at "b3")
 have S_Ground_back:=msrc_in (ps:=["self","u"]) h_Ground_back (by walk_at "b2")
 have S_Ground_power:=msrc_in (ps:=["self","u","n"]) h_Ground_power (by walk_at "b3")
 have S_Ground_is_nought:=msrc_in (ps:=["self","u"]) h_Ground_is_nought (by walk_at "b2")
 have S_Ground_is_element:=msrc_in (ps:=["self","thing"]) h_Ground_is_element (by walk_at "b2")
 have S_Storey_init:=init_in (mg:=mg) (ps:=["self","floor","part"]) X G mk_Storey kc_Storey aC_Storey h_Storey_init (by walk_at "b3")
 have S_Storey_width:=msrc_in (ps:=["self"]) h_Storey_width (by walk_at "b1")
 have S_Storey_degree:=msrc_in (ps:=["self"]) h_Storey_degree (by walk_at "b1")
 have S_Storey_zero:=msrc_in (ps:=["self"]) h_Storey_zero (by walk_at "b1")
 have S_Storey_one:=msrc_in (ps:=["self"]) h_Storey_one (by walk_at "b1")
 have S_Storey_whole:=msrc_in (ps:=["self","k"]) h_Storey_whole (by walk_at "b2")
 have S_Storey_lifted:=msrc_in (ps:=["self","u"]) h_Storey_lifted (by walk_at "b2")
 have S_Storey_plus:=msrc_in (ps:=["self","u","v"]) h_Storey_plus (by walk_at "b3")
 have S_Storey_minus:=msrc_in (ps:=["self","u","v"]) h_Storey_minus (by walk_at "b3")
 have S_Storey_times:=msrc_in (ps:=["self","u","v"]) h_Storey_times (by walk_at "b3")
 have S_Storey_back:=msrc_in (ps:=["self","u"]) h_Storey_back (by walk_at "b2")
 have S_Storey_by_part:=msrc_in (ps:=["self","terms"]) h_Storey_by_part (by walk_at "b2")
 have S_Storey_is_nought:=msrc_in (ps:=["self","u"]) h_Storey_is_nought (by walk_at "b2")
 have S_Storey_is_element:=msrc_in (ps:=["self","thing"]) h_Storey_is_element (by walk_at "b2")
 have S_Tower_init:=init_in (mg:=mg) (ps:=["self","p","parts"]) X G mk_Tower kc_Tower aC_Tower h_Tower_init (by walk_at "b3")
 have S_Tower_degree:=msrc_in (ps:=["self"]) h_Tower_degree (by walk_at "b1")
 have S_Tower_zero:=msrc_in (ps:=["self"]) h_Tower_zero (by walk_at "b1")
 have S_Tower_one:=msrc_in (ps:=["self"]) h_Tower_one (by walk_at "b1")
 have S_Tower_whole:=msrc_in (ps:=["self","k"]) h_Tower_whole (by walk_at "b2")
 have S_Tower_plus:=msrc_in (ps:=["self","u","v"]) h_Tower_plus (by walk_at "b3")
 have S_Tower_minus:=msrc_in (ps:=["self","u","v"]) h_Tower_minus (by walk_at "b3")
 have S_Tower_times:=msrc_in (ps:=["self","u","v"]) h_Tower_times (by walk_at "b3")
 have S_Tower_back:=msrc_in (ps:=["self","u"]) h_Tower_back (by walk_at "b2")
 have S_Tower_is_nought:=msrc_in (ps:=["self","u"]) h_Tower_is_nought (by walk_at "b2")
 have S_Tower_is_element:=msrc_in (ps:=["self","thing"]) h_Tower_is_element (by walk_at "b2")
 have L_Ground:Cls K C_Ground:=⟨pg_Ground,hd_Ground,po_Ground,sa_Ground⟩
 have L_Storey:Cls K C_Storey:=⟨pg_Storey,hd_Storey,po_Storey,sa_Storey⟩
 have L_Tower:Cls K C_Tower:=⟨pg_Tower,hd_Tower,po_Tower,sa_Tower⟩
 have m_BranchError:mg "BranchError"=some (.ref C_BranchError):=PySem.W.mg_of X G aC_BranchError
 have m_NoPrime:mg "NoPrime"=some (.ref C_NoPrime):=PySem.W.mg_of X G aC_NoPrime
 have m_NoPolynomial:mg "NoPolynomial"=some (.ref C_NoPolynomial):=PySem.W.mg_of X G aC_NoPolynomial
 have m_NotPlain:mg "NotPlain"=some (.ref C_NotPlain):=PySem.W.mg_of X G aC_NotPlain
 have m_TooDeep:mg "TooDeep"=some (.ref C_TooDeep):=PySem.W.mg_of X G aC_TooDeep
 have m_NoTower:mg "NoTower"=some (.ref C_NoTower):=PySem.W.mg_of X G aC_NoTower
 have m_NoSize:mg "NoSize"=some (.ref C_NoSize):=PySem.W.mg_of X G aC_NoSize
 have m_NoText:mg "NoText"=some (.ref C_NoText):=PySem.W.mg_of X G aC_NoText
 have m_NoRow:mg "NoRow"=some (.ref C_NoRow):=PySem.W.mg_of X G aC_NoRow
 have B:Blt mg:=⟨PySem.W.mg_none_of X G z_ValueError,PySem.W.mg_none_of X G z_abs,PySem.W.mg_none_of X G z_all,PySem.W.mg_none_of X G z_bool,PySem.W.mg_none_of X G z_enumerate,PySem.W.mg_none_of X G z_int,PySem.W.mg_none_of X G z_isinstance,PySem.W.mg_none_of X G z_len,PySem.W.mg_none_of X G z_list,PySem.W.mg_none_of X G z_max,PySem.W.mg_none_of X G z_min,PySem.W.mg_none_of X G z_range,PySem.W.mg_none_of X G z_repr,PySem.W.mg_none_of X G z_tuple,PySem.W.mg_none_of X G z_zip⟩
 refine⟨PySem.W.fnOf "law" "law" (defArgs s_law) (defBody s_law) (defScope s_law) .none kV33 dc33 pm33 an33 cd33 ct33,fun s v=>.of_eq rfl,fun base _ _=>?_⟩
 have hPR:∀ H,SqT K H x_PRIMES (PR.map fun p:Nat=>V.int (p:Int)):=fun H=>by
  have z:SqT K H x_PRIMES ((PR.map fun p:Nat=>(p:Int)).map V.int):=tupInts_ok w_PRIMES v_PRIMES
  rw[List.map_map] at z
  exact z
 have tX:TwSrc K mg C_Ground C_Storey:=⟨⟨L_Ground,n_Ground_p⟩,⟨L_Storey,n_Storey_floor,n_Storey_p,n_Storey_part⟩,
  S_Ground_degree,S_Ground_zero,S_Ground_one,S_Ground_plus,S_Ground_minus,S_Ground_times,S_Ground_is_nought,S_Ground_power,S_Ground_back,
  S_Storey_width,S_Storey_degree,S_Storey_zero,S_Storey_one,S_Storey_plus,S_Storey_minus,S_Storey_times,S_Storey_is_nought,S_Storey_by_part,S_Storey_back,S_Storey_lifted,
  S_copied,S_number_power,S_without_noughts,S_minus_poly,S_scaled_poly,S_times_poly,S_over_monic,S_monic_of,S_over_poly,S_common_poly,S_power_by,S_letter_of,S_letter_to_powers,S_primes_in,S_is_alone,S_power_in⟩
 have tY:ElSrc K mg C_Ground C_Storey:=⟨S_Ground_is_element,S_Ground_whole,S_Storey_is_element,S_Storey_whole,S_is_whole⟩
 have tZ:TcSrc K C_Tower:=⟨⟨L_Tower,n_Tower_top,n_Tower_p,n_Tower_parts,n_Tower_kept⟩,S_Tower_degree,S_Tower_zero,S_Tower_one,S_Tower_whole,S_Tower_plus,S_Tower_minus,S_Tower_times,S_Tower_back,S_Tower_is_nought,S_Tower_is_element⟩
 have tM:MkSrc K mg C_Ground C_Storey C_Tower:=⟨S_Ground_init,S_Storey_init,S_Tower_init,S_is_monic_over,S_is_next_part,S_top_of_any,S_is_prime,⟨_,PySem.W.mg_of X G y_MOST_DEGREE⟩,⟨_,PySem.W.mg_of X G y_MOST_PARTS⟩,⟨_,PySem.W.mg_of X G y_PRIMES,hPR⟩⟩
 have O28:TwE l.prog w K mg base 28 (IsTU C_Ground C_Storey):=tweU fun n hn=>((twe_all (P:=l.prog) (w:=w) (base:=base) B tX tY) n hn).up (by omega)
 have OF:=tweF B tZ O28
 have pl:=polys_of B tX (by decide) OF.toTwB
 obtain⟨mP,mE⟩:=mks (P:=l.prog) (w:=w) (base:=base) B tX tY tZ tM m_NoTower q_NoTower m_NoPrime q_NoPrime
 have dtake:=ok_q_take (P:=l.prog) (w:=w) (base:=base) B S_q_take
 have dbag:=ok_q_bag (P:=l.prog) (w:=w) (base:=base) B S_q_bag
 have delem:=ok_q_element B dtake S_q_element 7
 have dpart:=ok_q_part B OF delem pl.alone S_q_part
 have dtower:=ok_q_tower2 B OF mP dtake dpart S_q_tower
 have ep:Exk K C_NoPrime C_BranchError [C_NoPolynomial,C_NoRow,C_NoSize,C_NotPlain,C_NoText,C_TooDeep]:=⟨exm_yes xm_BranchError xt_BranchError x_bb xp_bs,⟨xp_ga,xp_no,xp_at,x_get,x_tk,xp_ob,xp_be⟩,kitAny_no (kit_no xp_nn xm_NoPolynomial xt_NoPolynomial xp_NoPolynomial) (kitAny_no (kit_no xp_nn xm_NoRow xt_NoRow xp_NoRow) (kitAny_no (kit_no xp_nn xm_NoSize xt_NoSize xp_NoSize) (kitAny_no (kit_no xp_nn xm_NotPlain xt_NotPlain xp_NotPlain) (kitAny_no (kit_no xp_nn xm_NoText xt_NoText xp_NoText) (kitAny_no (kit_no xp_nn xm_TooDeep xt_TooDeep xp_TooDeep) (rfl)))))),kit_ty (by decide +kernel) xp_va⟩
 have et:Exk K C_NoTower C_BranchError [C_NoPolynomial,C_NoRow,C_NoSize,C_NotPlain,C_NoText,C_TooDeep]:=⟨exm_yes xm_BranchError xt_BranchError x_bb xt_bs,⟨xt_ga,xt_no,xt_at,x_get,x_tk,xt_ob,xt_be⟩,kitAny_no (kit_no xt_nn xm_NoPolynomial xt_NoPolynomial xw_NoPolynomial) (kitAny_no (kit_no xt_nn xm_NoRow xt_NoRow xw_NoRow) (kitAny_no (kit_no xt_nn xm_NoSize xt_NoSize xw_NoSize) (kitAny_no (kit_no xt_nn xm_NotPlain xt_NotPlain xw_NotPlain) (kitAny_no (kit_no xt_nn xm_NoText xt_NoText xw_NoText) (kitAny_no (kit_no xt_nn xm_TooDeep xt_TooDeep xw_TooDeep) (rfl)))))),kit_ty (by decide +kernel) xt_va⟩
 have dref:=ok_q_refusal ep et (kit_no xp_nn xm_NoTower xt_NoTower xp_NoTower) (kit_no xt_nn xm_NoPrime xt_NoPrime xt_NoPrime2) m_NoText m_BranchError m_NoPolynomial m_NoPrime m_NoRow m_NoSize m_NotPlain m_NoTower m_TooDeep B mE S_q_refusal
 have dprod:=ok_q_product B OF S_q_product
 have dbad:=ok_q_bad_parts B OF dtake delem dprod S_q_bad_parts
 have dnot:=ok_q_not_alone B OF mP dtake delem dprod S_q_not_alone
 have dapart:=ok_q_parts_apart B tZ.c OF mP delem S_q_parts_apart
 exact ok_law B tZ.c OF dbag dtower dapart dref dbad dnot (ok_q_wide_parts (P:=l.prog) (w:=w) (base:=base) B S_q_wide_parts) F_law
theorem walk {l:PySem.W.OpenLaw}{q:Program}{loose:List Str}{XP:(Str→Option Value)→Heap→Prop}{YP:World→Heap→Prop}{d:DefRec}{K:Params→FrQ}(hn:l.most=some 63)(hdf:d.params.defaults=[])
  (hY:∀ (w:World) (h:Heap),YP w h→(K w.params).In h)
  (F:∀ (w:World) (mg:Str→Option Value) (fa:Addr) (h:Heap),(K w.params).In h→h.Ns mainGlobals mg→mg d.name=some (.ref fa)→
   ∃ fd:FuncData,(∀ (s:Shared) (u:Value),BindsTo s fd ⟨[u],[]⟩ [("_law_script",u)])∧∀ base:Heap,(K w.params).In base→base.Ns mainGlobals mg→FnOk l.prog w (K w.params) mg base CX0 39 fa fd ["_law_script"] (spLaw (K w.params))):
  PySem.W.WalkO q loose XP YP l.row.toRowW d [] (fun f vs=>PySem.call f vs):=
 L2.walk_of (n:=63) (k:=39) (x:="_law_script") (CX:=fun _=>CX0) (sp:=fun w=>spLaw (K w.params)) hn (by decide) hdf ⟨rfl,by decide,by decide,rfl⟩ hY F (fun _ _ a ns hl _ hS=>⟨a,ns,rfl,hS,hl,fun _=>rfl⟩) fun _ _ _ _ _ z=>z
end K15
namespace PySem.W.Fast
def tw7836562998972056454:Nat:=0
def tw2469814234346476815:Nat:=0
def tw5397273393740757037:Nat:=0
def tw11958006684395237192:Nat:=0
def tw4968311454533631366:Nat:=0
def tw15813152037107444320:Nat:=0
def tw2659250875093886390:Nat:=0
def tw3483009596933216256:Nat:=0
def tw9359120169206526117:Nat:=0
def tw1842067344241821946:Nat:=0
def tw17035605478016373532:Nat:=0
def tw5778948687464205019:Nat:=0
def tw9382647820695766832:Nat:=0
def tw13735788938821118470:Nat:=0
def tw11303537424070492325:Nat:=0
def tw9877146991722967745:Nat:=0
def tw8722683565816695984:Nat:=0
def tw16112521800853394629:Nat:=0
def tw2509563817768462964:Nat:=0
def tw14468197561080652488:Nat:=0
def tw13201499310695329940:Nat:=0
def tw7993774722421223173:Nat:=0
def tw16875917890456334974:Nat:=0
def tw7844462185140668448:Nat:=0
def tw7067309210750713163:Nat:=0
def tw1901328613664026649:Nat:=0
def tw1681407820034845390:Nat:=0
def tw14781729867549138551:Nat:=0
def tw8560592200806589878:Nat:=0
def tw10811749314784498659:Nat:=0
def tw3396937049849879668:Nat:=0
def tw17137630760604842800:Nat:=0
def tw7422069161002263180:Nat:=0
def tw12240437932450839057:Nat:=0
def tw2480225303685704470:Nat:=0
def tw7353640968236027649:Nat:=0
def tw11953378121849996:Nat:=0
def tw10055896972260438594:Nat:=0
def tw9562284614559709837:Nat:=0
def tw9924356304038861781:Nat:=0
def tw1533721051422383621:Nat:=0
def tw13813905607136993849:Nat:=0
def tw6344705111500280813:Nat:=0
end PySem.W.Fast
namespace PySem.W.Fast
def tw4740757939577297295:Nat:=0
def tw2595410326185778568:Nat:=0
def tw16101085512075062538:Nat:=0
def tw4838301716661322155:Nat:=0
def tw8816420553427514916:Nat:=0
def tw10083108405791367889:Nat:=0
def tw14433578706596052571:Nat:=0
def tw17082287015620482101:Nat:=0
def tw10235594423913583065:Nat:=0
def tw3272667839510301488:Nat:=0
def tw4647922293072754234:Nat:=0
def tw6629298886083487821:Nat:=0
def tw3996163087372209998:Nat:=0
def tw2683585510576517445:Nat:=0
def tw4873656167878434752:Nat:=0
def tw5839225399805231159:Nat:=0
def tw10945009929189556453:Nat:=0
def tw12094868616884240245:Nat:=0
def tw17632474541275784446:Nat:=0
def tw4038941119974076006:Nat:=0
def tw14675726246802880321:Nat:=0
def tw234548746432210987:Nat:=0
def tw3652707521982536133:Nat:=0
def tw17224352969375056544:Nat:=0
def tw12233476491960725182:Nat:=0
def tw10708457170964030106:Nat:=0
def tw18077812515833705932:Nat:=0
def tw119136742864641486:Nat:=0
def tw7090523649489686360:Nat:=0
def tw4350713562920464593:Nat:=0
def tw17553537178813149372:Nat:=0
def tw15533091302316262691:Nat:=0
def tw5607722230186086999:Nat:=0
def tw15417942680485740819:Nat:=0
def tw527105950601709301:Nat:=0
def tw3286572313797599189:Nat:=0
def tw10413790482914467527:Nat:=0
def tw3211348803761898774:Nat:=0
def tw5437047431985975680:Nat:=0
def tw7153983170112265095:Nat:=0
def tw1803898802048119978:Nat:=0
def tw16044567975217263193:Nat:=0
def tw6482154604549705278:Nat:=0
def tw12233277959510896464:Nat:=0
def tw10605283482714367071:Nat:=0
def tw8442672894341775726:Nat:=0
def tw15498002331290826717:Nat:=0
def tw4599685936448161733:Nat:=0
def tw13212044992286521783:Nat:=0
def tw14590206283228129615:Nat:=0
def tw13722961467553757799:Nat:=0
def tw2628682517592011285:Nat:=0
def tw6895534677036150552:Nat:=0
def tw3781353054779667344:Nat:=0
def tw13144091039405996838:Nat:=0
def tw4806628642328648707:Nat:=0
def tw18097427688792547539:Nat:=0
def tw501251083386291207:Nat:=0
def tw17761028927365958020:Nat:=0
def tw6837188881994094603:Nat:=0
def tw15437962389671365605:Nat:=0
def tw13480811895350544390:Nat:=0
def tw7964133438910512537:Nat:=0
def tw13408201181535523877:Nat:=0
def tw1020042635509849880:Nat:=0
def tw1739250379916501760:Nat:=0
def tw1853835681232410976:Nat:=0
def tw16428747543847033628:Nat:=0
def tw9297044898966365068:Nat:=0
def tw16782711753923354197:Nat:=0
def tw15255500802777767803:Nat:=0
def tw4133943458144046882:Nat:=0
def tw4164978808423369583:Nat:=0
def tw14326460395229215152:Nat:=0
def tw4437316634696332002:Nat:=0
def tw6022863414766734700:Nat:=0
def tw13731277478376219704:Nat:=0
def tw1598657891254711340:Nat:=0
def tw11632902728366182354:Nat:=0
def tw6135779462071419298:Nat:=0
def tw11446790820191531886:Nat:=0
def tw3783304225019372745:Nat:=0
def tw9885558287728359767:Nat:=0
def tw4705063687666929160:Nat:=0
def tw6333908804340128145:Nat:=0
def tw6565029420754941934:Nat:=0
def tw2690541763335225191:Nat:=0
def tw9999444606994714778:Nat:=0
def tw13870749902947821783:Nat:=0
def tw3021597844444774473:Nat:=0
def tw15867165927386386356:Nat:=0
def tw1386955019768528420:Nat:=0
def tw15421257514472127069:Nat:=0
def tw16784129380334980782:Nat:=0
def tw15653945682550458919:Nat:=0
def tw1202587936701665719:Nat:=0
def tw11555603039428903387:Nat:=0
def tw17065166164719050195:Nat:=0
def tw15084639367384694429:Nat:=0
def tw7153633642742766055:Nat:=0
def tw9460888545992766501:Nat:=0
def tw8069171590859657469:Nat:=0
def tw11092225987199544438:Nat:=0
def tw1591016689381997583:Nat:=0
def tw7914757821619860715:Nat:=0
def tw15789636582271984106:Nat:=0
def tw11008065798508848498:Nat:=0
def tw16965410521961166608:Nat:=0
def tw989840399336797629:Nat:=0
def tw4687190673360569792:Nat:=0
def tw192649949680220666:Nat:=0
def tw12536759814338835279:Nat:=0
def tw9558074003054418701:Nat:=0
def tw4832395677339966146:Nat:=0
def tw5583543059727870514:Nat:=0
def tw6014985969607594225:Nat:=0
def tw9473265986155506476:Nat:=0
def tw4689048487004398404:Nat:=0
def tw17839179833944738728:Nat:=0
def tw2676914112174538625:Nat:=0
def tw10919027713505692702:Nat:=0
def tw4741898649828360355:Nat:=0
def tw2538283650677820013:Nat:=0
def tw4617150866387311128:Nat:=0
def tw16168949656635838745:Nat:=0
def tw8689440577224978413:Nat:=0
def tw17135259290635885362:Nat:=0
def tw13720007219127246872:Nat:=0
def tw13791354302221754930:Nat:=0
def tw4842982143258033468:Nat:=0
def tw16447775685612091699:Nat:=0
def tw2025600025360388175:Nat:=0
def tw6671283506491208975:Nat:=0
def tw12204054528678348026:Nat:=0
def tw3449117360848145611:Nat:=0
def tw15070294546271217766:Nat:=0
def tw3641789714627110959:Nat:=0
def tw8743375527599396893:Nat:=0
def tw11308126470321054032:Nat:=0
def tw15263306146250007141:Nat:=0
def tw8364595295622266914:Nat:=0
def tw1032615219795611874:Nat:=0
def tw372268839453020874:Nat:=0
def tw5536084924534559678:Nat:=0
def tw6597668412977042239:Nat:=0
def tw13197909468612957189:Nat:=0
def tw648052749499577040:Nat:=0
def tw4088944809014151944:Nat:=0
def tw13154742628786416084:Nat:=0
def tw18014090596674829668:Nat:=0
def tw775532910015334398:Nat:=0
def tw17093776740086286688:Nat:=0
def tw15144648795343573418:Nat:=0
def tw3215860121610191534:Nat:=0
def tw17229908755380137499:Nat:=0
def tw10924276953837984097:Nat:=0
def tw17592168056059913:Nat:=0
def tw7508973622053128095:Nat:=0
def tw15820244183043144434:Nat:=0
def tw2926311364193053631:Nat:=0
def tw15561343238074748492:Nat:=0
def tw2465397505425596422:Nat:=0
def tw11527471842790618812:Nat:=0
def tw541286813522676211:Nat:=0
def tw12718209299126325297:Nat:=0
def tw17833845697601597350:Nat:=0
def tw2761930931911636988:Nat:=0
def tw2852510184829342383:Nat:=0
def tw17357466107795065229:Nat:=0
def tw13936277730289664217:Nat:=0
def tw6218720500691471347:Nat:=0
def tw12048530913039508618:Nat:=0
def tw12116079115703910829:Nat:=0
def tw4954063742188519709:Nat:=0
def tw8995361542742230864:Nat:=0
def tw15287468271853835403:Nat:=0
def tw10069961874342031291:Nat:=0
def tw17689999069119436887:Nat:=0
def tw15856663270963981398:Nat:=0
def tw16641776835849794475:Nat:=0
def tw9486764722540809746:Nat:=0
def tw1789467511663112059:Nat:=0
def tw4511635365197494911:Nat:=0
def tw9769790552097610138:Nat:=0
def tw5021567320990518106:Nat:=0
def tw5015387969239738776:Nat:=0
def tw12602605136485052954:Nat:=0
def tw17863719588495869024:Nat:=0
def tw15922523288732248647:Nat:=0
def tw5216536501126049582:Nat:=0
def tw790124559436013349:Nat:=0
def tw12054427855871905694:Nat:=0
def tw13827508404114450053:Nat:=0
def tw14621241020458951579:Nat:=0
def tw10780387802334746332:Nat:=0
def tw256234090111341730:Nat:=0
def tw4818064671168535301:Nat:=0
def tw17786227594024350030:Nat:=0
def tw12361680517671919873:Nat:=0
def tw8986478003377353119:Nat:=0
def tw11485731505308750401:Nat:=0
def tw12088070646123538015:Nat:=0
def tw13530956862113278337:Nat:=0
def tw2587155805329249934:Nat:=0
def tw5628352641466978653:Nat:=0
def tw12085133766305309085:Nat:=0
def tw11733154813779110269:Nat:=0
def tw3363405567394116037:Nat:=0
def tw16685528035562173594:Nat:=0
def tw17292537624485242713:Nat:=0
def tw913091022858837701:Nat:=0
def tw13630999177062489882:Nat:=0
def tw3361822661760409523:Nat:=0
def tw15454775679796902083:Nat:=0
def tw12272314375214641134:Nat:=0
def tw727688678821527475:Nat:=0
def tw3846503438634443697:Nat:=0
def tw1885569102392219742:Nat:=0
def tw9056503918074423045:Nat:=0
def tw1039775745845654666:Nat:=0
def tw4627456362942190903:Nat:=0
def tw8523463468826916315:Nat:=0
def tw9128136441008505524:Nat:=0
def tw411191062957394174:Nat:=0
def tw831007432396152433:Nat:=0
def tw15873223050487497636:Nat:=0
def tw2922207614655887506:Nat:=0
def tw13535820725557916003:Nat:=0
def tw16721722718271199152:Nat:=0
def tw5578041579253990716:Nat:=0
def tw13527488673647738916:Nat:=0
def tw7836131116113349673:Nat:=0
def tw17492560311579202060:Nat:=0
def tw3012978411172250921:Nat:=0
def tw2376222139866807973:Nat:=0
def tw5853932265419915828:Nat:=0
def tw770281168069247100:Nat:=0
def tw7151093567355858166:Nat:=0
def tw15499278194869005628:Nat:=0
def tw8136417193638403837:Nat:=0
def tw14269284272516572835:Nat:=0
def tw7417646138446885824:Nat:=0
def tw11587806844088023144:Nat:=0
def tw604793470957117664:Nat:=0
def tw3769594983817274181:Nat:=0
def tw4663512446904932160:Nat:=0
def tw16929617066765433239:Nat:=0
def tw6936743358503560055:Nat:=0
def tw3782609540311832369:Nat:=0
def tw8422955590154918673:Nat:=0
def tw13214408760020499668:Nat:=0
def tw697607380514617023:Nat:=0
def tw3324891575115150602:Nat:=0
def tw10611389639115635097:Nat:=0
def tw8899676923912353514:Nat:=0
def tw14759880593810475415:Nat:=0
def tw13333529405328722290:Nat:=0
def tw3426914849715088066:Nat:=0
def tw448941181435837687:Nat:=0
def tw2973611563705077712:Nat:=0
def tw3895137816773266535:Nat:=0
def tw6797969987123232151:Nat:=0
def tw5021864844172698019:Nat:=0
def tw562024001398298252:Nat:=0
def tw11406295938937553470:Nat:=0
def tw1357086332310776005:Nat:=0
def tw10253318975428259280:Nat:=0
def tw11196727202378639424:Nat:=0
def tw16924865753750416149:Nat:=0
def tw14042611895881664298:Nat:=0
def tw10213755064035428152:Nat:=0
def tw11669901300801950222:Nat:=0
def tw16421457591199119164:Nat:=0
def tw1888585455536460583:Nat:=0
def tw189991560698566981:Nat:=0
def tw8992567230944826670:Nat:=0
def tw10380773998600908175:Nat:=0
def tw16718596040338549792:Nat:=0
def tw12870038119811278601:Nat:=0
def tw3711251352383750053:Nat:=0
def tw2469976839843618432:Nat:=0
def tw15468177210190820299:Nat:=0
def tw16341557745557544996:Nat:=0
def tw2065030880938045803:Nat:=0
def tw11252736217937896539:Nat:=0
def tw11178864883935819609:Nat:=0
def tw10535636293487748912:Nat:=0
def tw13515148183374768985:Nat:=0
def tw14178926050500784741:Nat:=0
def tw1758679403541491032:Nat:=0
def tw15117462873656989172:Nat:=0
def tw645648949920972733:Nat:=0
def tw9284030533534507845:Nat:=0
def tw2519897345882981422:Nat:=0
def tw14409476380362670428:Nat:=0
def tw18402575427762206774:Nat:=0
def tw13997788912201431290:Nat:=0
def tw17920941434126145693:Nat:=0
def tw13513350548153844420:Nat:=0
def tw8270649233260880131:Nat:=0
end PySem.W.Fast
namespace PySem.W.Fast
def tw16427306317969608119:Nat:=0
def tw6924769856521991938:Nat:=0
def tw3872421122011690973:Nat:=0
def tw9641186415166298567:Nat:=0
def tw12394225418761539803:Nat:=0
def tw14562365581512947174:Nat:=0
def tw4461704772988119096:Nat:=0
def tw2949859615356671764:Nat:=0
def tw14057561954930650447:Nat:=0
def tw13607291311505265746:Nat:=0
def tw7204741375984796079:Nat:=0
def tw8616627153274764429:Nat:=0
def tw18323869523782932241:Nat:=0
def tw9029009564019075141:Nat:=0
def tw15228068534843368466:Nat:=0
def tw14663898654383440761:Nat:=0
def tw7480185422447581748:Nat:=0
def tw16600969999152748355:Nat:=0
def tw14482162352729072273:Nat:=0
def tw5514409134092155328:Nat:=0
def tw4018643252842206598:Nat:=0
def tw7456905443050770225:Nat:=0
def tw808707772043663206:Nat:=0
def tw2235803710723133339:Nat:=0
def tw129877208550113843:Nat:=0
def tw5793586741888001566:Nat:=0
def tw3768943499414521376:Nat:=0
def tw2108197407776798906:Nat:=0
def tw3701501316498053617:Nat:=0
def tw12164511002253451355:Nat:=0
def tw14310265926938019594:Nat:=0
def tw7031426166615950471:Nat:=0
def tw9020582658480572227:Nat:=0
def tw10538944157843227603:Nat:=0
def tw8440928088048925937:Nat:=0
def tw14060635654071395437:Nat:=0
def tw6134486609444386809:Nat:=0
def tw1999824999264363183:Nat:=0
def tw4084748501055550615:Nat:=0
def tw519935481617881908:Nat:=0
end PySem.W.Fast
open PySem PySem.W PyProof.Rows
local macro_rules | `(tactic| walk_at "gl") => `(tactic| (refine' L2.gl_mk ?a ?l ?c ?k; (case a => k_is); (case l => k_is); (case c => k_is); (case k => k_is)))
local macro_rules | `(tactic| walk_at "mt") => `(tactic| (refine' L2.mt_mk ?a ?i ?l ?c ?k; (case a => k_is); (case i => k_is); (case l => k_is); (case c => k_is); (case k => k_is)))
set_option maxRecDepth 100000 in
set_option maxHeartbeats 0 in
theorem PySem.Challenge.cw_branchdepth_k15_what_is_no_tower_holds : PySem.Challenge.rw_branchdepth_k15_what_is_no_tower.Holds := by
 w_on;o_law;k_head;(case hw=>w_witness2)
 k_fill
 refine K15.walk (l:=PySem.Challenge.rw_branchdepth_k15_what_is_no_tower) rfl rfl (fun w h Y=>PySem.W.kIn_of Y) ?F
 case F=>
  intro w mg fa h KX G hmg
  refine' K15.all_mk KX G hmg ?aC_Ground ?aC_Storey ?aC_Tower ?h_copied ?h_is_whole ?h_is_prime ?h_number_power ?h_without_noughts ?h_minus_poly ?h_scaled_poly ?h_times_poly ?h_over_monic ?h_monic_of ?h_over_poly ?h_common_poly ?h_power_by ?h_letter_of ?h_letter_to_powers ?h_primes_in ?h_is_alone ?h_power_in ?h_is_monic_over ?h_is_next_part ?h_top_of_any ?h_q_bag ?h_q_take ?h_q_element ?h_q_part ?h_q_tower ?h_q_refusal ?h_q_product ?h_q_bad_parts ?h_q_not_alone ?h_q_wide_parts ?h_q_parts_apart ?a33 ?l33 ?c33 ?k33 ?h_Ground_init ?h_Ground_degree ?h_Ground_zero ?h_Ground_one ?h_Ground_whole ?h_Ground_plus ?h_Ground_minus ?h_Ground_times ?h_Ground_back ?h_Ground_power ?h_Ground_is_nought ?h_Ground_is_element ?h_Storey_init ?h_Storey_width ?h_Storey_degree ?h_Storey_zero ?h_Storey_one ?h_Storey_whole ?h_Storey_lifted ?h_Storey_plus ?h_Storey_minus ?h_Storey_times ?h_Storey_back ?h_Storey_by_part ?h_Storey_is_nought ?h_Storey_is_element ?h_Tower_init ?h_Tower_degree ?h_Tower_zero ?h_Tower_one ?h_Tower_whole ?h_Tower_plus ?h_Tower_minus ?h_Tower_times ?h_Tower_back ?h_Tower_is_nought ?h_Tower_is_element ?pg_Ground ?hd_Ground ?po_Ground ?sa_Ground ?mk_Ground ?kc_Ground ?n_Ground_p ?pg_Storey ?hd_Storey ?po_Storey ?sa_Storey ?mk_Storey ?kc_Storey ?n_Storey_floor ?n_Storey_p ?n_Storey_part ?pg_Tower ?hd_Tower ?po_Tower ?sa_Tower ?mk_Tower ?kc_Tower ?n_Tower_top ?n_Tower_p ?n_Tower_parts ?n_Tower_kept ?aC_BranchError ?aC_NoPrime ?aC_NoPolynomial ?aC_NotPlain ?aC_TooDeep ?aC_NoTower ?aC_NoSize ?aC_NoText ?aC_NoRow ?q_NoPrime ?xp_ga ?xp_no ?xp_at ?xp_ob ?xp_be ?xp_va ?xp_bs ?xp_nn ?xp_NoPolynomial ?xp_NoRow ?xp_NoSize ?xp_NotPlain ?xp_NoText ?xp_TooDeep ?xp_NoTower ?q_NoTower ?xt_ga ?xt_no ?xt_at ?xt_ob ?xt_be ?xt_va ?xt_bs ?xt_nn ?xw_NoPolynomial ?xw_NoRow ?xw_NoSize ?xw_NotPlain ?xw_NoText ?xw_TooDeep ?xt_NoPrime2 ?x_get ?x_tk ?x_bb ?xm_BranchError ?xt_BranchError ?xm_NoPolynomial ?xt_NoPolynomial ?xm_NoRow ?xt_NoRow ?xm_NoSize ?xt_NoSize ?xm_NotPlain ?xt_NotPlain ?xm_NoText ?xt_NoText ?xm_TooDeep ?xt_TooDeep ?xm_NoPrime ?xt_NoPrime ?xm_NoTower ?xt_NoTower ?y_MOST_DEGREE ?y_MOST_PARTS ?y_PRIMES ?w_PRIMES ?v_PRIMES ?z_ValueError ?z_abs ?z_all ?z_bool ?z_enumerate ?z_int ?z_isinstance ?z_len ?z_list ?z_max ?z_min ?z_range ?z_repr ?z_tuple ?z_zip
  (case aC_Ground=>k_is)
  (case aC_Storey=>k_is)
  (case aC_Tower=>k_is)
  (case h_copied=>walk_at "gl")
  (case h_is_whole=>walk_at "gl")
  (case h_is_prime=>walk_at "gl")
  (case h_number_power=>walk_at "gl")
  (case h_without_noughts=>walk_at "gl")
  (case h_minus_poly=>walk_at "gl")
  (case h_scaled_poly=>walk_at "gl")
  (case h_times_poly=>walk_at "gl")
  (case h_over_monic=>walk_at "gl")
  (case h_monic_of=>walk_at "gl")
  (case h_over_poly=>walk_at "gl")
  (case h_common_poly=>walk_at "gl")
  (case h_power_by=>walk_at "gl")
  (case h_letter_of=>walk_at "gl")
  (case h_letter_to_powers=>walk_at "gl")
  (case h_primes_in=>walk_at "gl")
  (case h_is_alone=>walk_at "gl")
  (case h_power_in=>walk_at "gl")
  (case h_is_monic_over=>walk_at "gl")
  (case h_is_next_part=>walk_at "gl")
  (case h_top_of_any=>walk_at "gl")
  (case h_q_bag=>walk_at "gl")
  (case h_q_take=>walk_at "gl")
  (case h_q_element=>walk_at "gl")
  (case h_q_part=>walk_at "gl")
  (case h_q_tower=>walk_at "gl")
  (case h_q_refusal=>walk_at "gl")
  (case h_q_product=>walk_at "gl")
  (case h_q_bad_parts=>walk_at "gl")
  (case h_q_not_alone=>walk_at "gl")
  (case h_q_wide_parts=>walk_at "gl")
  (case h_q_parts_apart=>walk_at "gl")
  (case a33=>k_is)
  (case l33=>k_is)
  (case c33=>k_is)
  (case k33=>k_is)
  (case h_Ground_init=>walk_at "mt")
  (case h_Ground_degree=>walk_at "mt")
  (case h_Ground_zero=>walk_at "mt")
  (case h_Ground_one=>walk_at "mt")
  (case h_Ground_whole=>walk_at "mt")
  (case h_Ground_plus=>walk_at "mt")
  (case h_Ground_minus=>walk_at "mt")
  (case h_Ground_times=>walk_at "mt")
  (case h_Ground_back=>walk_at "mt")
  (case h_Ground_power=>walk_at "mt")
  (case h_Ground_is_nought=>walk_at "mt")
  (case h_Ground_is_element=>walk_at "mt")
  (case h_Storey_init=>walk_at "mt")
  (case h_Storey_width=>walk_at "mt")
  (case h_Storey_degree=>walk_at "mt")
  (case h_Storey_zero=>walk_at "mt")
  (case h_Storey_one=>walk_at "mt")
  (case h_Storey_whole=>walk_at "mt")
  (case h_Storey_lifted=>walk_at "mt")
  (case h_Storey_plus=>walk_at "mt")
  (case h_Storey_minus=>walk_at "mt")
  (case h_Storey_times=>walk_at "mt")
  (case h_Storey_back=>walk_at "mt")
  (case h_Storey_by_part=>walk_at "mt")
  (case h_Storey_is_nought=>walk_at "mt")
  (case h_Storey_is_element=>walk_at "mt")
  (case h_Tower_init=>walk_at "mt")
  (case h_Tower_degree=>walk_at "mt")
  (case h_Tower_zero=>walk_at "mt")
  (case h_Tower_one=>walk_at "mt")
  (case h_Tower_whole=>walk_at "mt")
  (case h_Tower_plus=>walk_at "mt")
  (case h_Tower_minus=>walk_at "mt")
  (case h_Tower_times=>walk_at "mt")
  (case h_Tower_back=>walk_at "mt")
  (case h_Tower_is_nought=>walk_at "mt")
  (case h_Tower_is_element=>walk_at "mt")
  (case pg_Ground=>k_is)
  (case hd_Ground=>k_is)
  (case po_Ground=>k_is)
  (case sa_Ground=>k_is)
  (case mk_Ground=>k_is)
  (case kc_Ground=>k_is)
  (case n_Ground_p=>k_is)
  (case pg_Storey=>k_is)
  (case hd_Storey=>k_is)
  (case po_Storey=>k_is)
  (case sa_Storey=>k_is)
  (case mk_Storey=>k_is)
  (case kc_Storey=>k_is)
  (case n_Storey_floor=>k_is)
  (case n_Storey_p=>k_is)
  (case n_Storey_part=>k_is)
  (case pg_Tower=>k_is)
  (case hd_Tower=>k_is)
  (case po_Tower=>k_is)
  (case sa_Tower=>k_is)
  (case mk_Tower=>k_is)
  (case kc_Tower=>k_is)
  (case n_Tower_top=>k_is)
  (case n_Tower_p=>k_is)
  (case n_Tower_parts=>k_is)
  (case n_Tower_kept=>k_is)
  (case aC_BranchError=>k_is)
  (case aC_NoPrime=>k_is)
  (case aC_NoPolynomial=>k_is)
  (case aC_NotPlain=>k_is)
  (case aC_TooDeep=>k_is)
  (case aC_NoTower=>k_is)
  (case aC_NoSize=>k_is)
  (case aC_NoText=>k_is)
  (case aC_NoRow=>k_is)
  (case q_NoPrime=>k_exc)
  (case xp_ga=>k_is)
  (case xp_no=>k_is)
  (case xp_at=>k_is)
  (case xp_ob=>k_is)
  (case xp_be=>k_is)
  (case xp_va=>k_is)
  (case xp_bs=>k_is)
  (case xp_nn=>k_is)
  (case xp_NoPolynomial=>k_is)
  (case xp_NoRow=>k_is)
  (case xp_NoSize=>k_is)
  (case xp_NotPlain=>k_is)
  (case xp_NoText=>k_is)
  (case xp_TooDeep=>k_is)
  (case xp_NoTower=>k_is)
  (case q_NoTower=>k_exc)
  (case xt_ga=>k_is)
  (case xt_no=>k_is)
  (case xt_at=>k_is)
  (case xt_ob=>k_is)
  (case xt_be=>k_is)
  (case xt_va=>k_is)
  (case xt_bs=>k_is)
  (case xt_nn=>k_is)
  (case xw_NoPolynomial=>k_is)
  (case xw_NoRow=>k_is)
  (case xw_NoSize=>k_is)
  (case xw_NotPlain=>k_is)
  (case xw_NoText=>k_is)
  (case xw_TooDeep=>k_is)
  (case xt_NoPrime2=>k_is)
  (case x_get=>k_is)
  (case x_tk=>k_is)
  (case x_bb=>k_is)
  (case xm_BranchError=>k_is)
  (case xt_BranchError=>k_is)
  (case xm_NoPolynomial=>k_is)
  (case xt_NoPolynomial=>k_is)
  (case xm_NoRow=>k_is)
  (case xt_NoRow=>k_is)
  (case xm_NoSize=>k_is)
  (case xt_NoSize=>k_is)
  (case xm_NotPlain=>k_is)
  (case xt_NotPlain=>k_is)
  (case xm_NoText=>k_is)
  (case xt_NoText=>k_is)
  (case xm_TooDeep=>k_is)
  (case xt_TooDeep=>k_is)
  (case xm_NoPrime=>k_is)
  (case xt_NoPrime=>k_is)
  (case xm_NoTower=>k_is)
  (case xt_NoTower=>k_is)
  (case y_MOST_DEGREE=>k_is)
  (case y_MOST_PARTS=>k_is)
  (case y_PRIMES=>k_is)
  (case w_PRIMES=>k_is)
  (case v_PRIMES=>first|rfl|decide +kernel|k_is)
  (case z_ValueError=>k_is)
  (case z_abs=>k_is)
  (case z_all=>k_is)
  (case z_bool=>k_is)
  (case z_enumerate=>k_is)
  (case z_int=>k_is)
  (case z_isinstance=>k_is)
  (case z_len=>k_is)
  (case z_list=>k_is)
  (case z_max=>k_is)
  (case z_min=>k_is)
  (case z_range=>k_is)
  (case z_repr=>k_is)
  (case z_tuple=>k_is)
  (case z_zip=>k_is)