import PyProof.Rows.All
import Wide.All
import OpenK.AllK
import Wide.FinOn
import Lean
import PyProof.EqAt
import PyProof.EqKinds
import PyProof.TupleCall
import KE.KMinKey
import PyProof.Rows.Range3
import KE.KTryMore
import KE.KLam
import KE.KNestM
import KE.KSortKey
import KE.KSortTup
import PySem.Challenge.RW_branchdepth_k62_a_basis_has_the_index
open Option renaming some->j?,none->q?
open PySem renaming Value->l?,Addr->o?,Shared->u?,wpAny_bind->B?,sizeLine_eq->C?,Program->F?,mainGlobals->G?,World->H?,starEach->I?,wpAny_pure->J?,sizeLine->K?,wpAny->L?,Heap->O?,Stmt->Q?,model->S?,mem_of_lookup->U?,Around->A!,wpAny_mono->B!,bootBuiltins->H!,compareOp->J!,PyData->N!,FuncData->O!
open Or renaming inl->z?
open PySem.PassesOwn renaming never->D?
open Bool renaming false_ne_true->E?,and_eq_true->T?
open Option.some renaming inj->M?
open PySem.W renaming nsIn->N?,fnOf->W?,mg_none_of->Y?,keepIn->C!,codeIn->P!
open PySem.F renaming plainAttrs_list->R?,slot_list_append->F!,type_list_append->G!
open Classical renaming byContradiction->V?
open PySem.NameKind renaming free->Z?,cell->K!
open PySem.Obj renaming mapSeq->D!
open PySem.PyData renaming eqv->E!
open PySem.Value renaming ref->I!
open PyProof.Rows renaming callWith_type1->L!
open False renaming elim->M!
set_option Elab.async false
set_option linter.all false
set_option maxRecDepth 100000
local macro_rules|`(tactic|omega)=>`(tactic|first|lia|omega+splitDisjunctions)
abbrev bX:=PySem.W.Frag
open List renaming length_map->Ya,getD_eq_getElem?_getD->Yb,getElem?_eq_getElem->Yc,getElem?_map->Ye,length_range->Yf,length_append->Yg,range->Yk,replicate->Yn,length_replicate->Ys,Nodup->Yt,mem_append_right->Yv,size_toArray->Yx,mem_of_getElem?->Yy,map_append->Yz,getElem_mem->Y0,getElem?_range->Y1,length_take->Y3,lookup_cons->Y7,mem_cons_of_mem->Zb,getElem?_append_left->Zd,length_drop->Ze,getElem?_append_right->Zh,mem_cons_self->Zj,take_of_length_le->Zz,replicate_succ->Z2,ext_getElem?->Z7,length_reverse->Z8,not_mem_nil->Wc,zipWith->Wd,map_congr_left->Wg,all_eq_true->Wi,eq_nil_of_length_eq_zero->Wq,getElem?_replicate->Wr,getElem_of_mem->Ws,getElem?_eq_none->Ww,range_succ->Wy,mem_cons->Wz,flatten_cons->W0,length_set->W7,map_map->Jg,length->Jh
open Nat renaming le_refl->Yd,lt_of_lt_of_le->Yj,le_trans->Ym,mul_le_mul_right->Yp,ne_of_lt->Yw,pow_le_pow_right->Y2,zero_le->Y5,mul_le_mul_left->Y6,add_sub_cancel_left->Zc,mul_add->Zi,mul_comm->Zk,add_mul->Zn,pow_succ->Zu,mul_succ->Zw,mul_le_mul->Zy,pow_add->Z0,mod_eq_of_lt->Z1,mul_assoc->Z6,pow_le_pow_left->Z9,lt_of_le_of_lt->Wb,lt_irrefl->We,pow_pos->Wf,le_add_right->Wj,sub_add_cancel->Wk,not_lt_zero->Wm,mul_zero->Wn,pow_lt_pow_right->Wp,pow_mul->Wu,add_sub_cancel->Wv,one_mul->W2,sub_self->W4,add_sub_cancel'->W5,le_of_lt->W9,div_add_mod->Jc,add_comm->Jd,zero_add->Jf,le_succ->Ji
open PySem.Heap renaming get?_push_of_some->Yh,lt_size->Yl,get?_push_size->Y9
open Int renaming toNat_natCast->Yi,pow_add->Yo,pow_succ->Yq,mul_zero->Yr,pow_zero->Yu,zero_mul->Y4,fmod_eq_emod_of_nonneg->Y8,eq_of_mul_eq_mul_left->Za,mul_comm->Zf,one_mul->Zg,natCast_mul->Zl,emod_lt_of_pos->Zm,eq_ofNat_of_zero_le->Zo,natAbs_mul->Zq,emod_nonneg->Zr,fdiv_eq_ediv_of_nonneg->Zs,mul_assoc->Zv,mul_one->Zx,emod_add_mul_ediv->Z3,add_zero->Z4,zero_add->Z5,natAbs->Wa,toNat_of_nonneg->Wh,pow_pos->Wl,pow_ne_zero->Wo,natCast_pow->Wx,one_pow->W1,mul_pow->W3,le_of_dvd->W6,natAbs_natCast->W8,mul_nonneg->Ja,natCast_emod->Jb,le_of_lt->Je,pow_mul->Jj
abbrev Jk:=@if_neg
abbrev Jl:=@if_pos
abbrev Jm:=@decide_eq_true
abbrev Jn:=@of_decide_eq_true
abbrev Jo:=@decide_eq_false
abbrev Jp:=@congrArg
abbrev Jr:=@absurd
namespace L2
open PySem PySem.Spec PyProof.Rows
abbrev Key:=Sum Int Str
def Ng:Key->l?->Bool
 | .inl k,v=>Value.isInt k v
 | .inr x,v=>Value.isStrOf x v
def Ur (w:H?):Key->Int
 | .inl k=>hashInt k
 | .inr x=>hashStr w x
theorem dR:∀ {k:Key} {v:l?},Ng k v=true->(∃i t,k=Sum.inl i/\v=Value.int i t)\/(∃x t,k=Sum.inr x/\v=Value.str x t)
 | .inl i,v,h=>by
  obtain⟨t,e⟩:=Value.isInt_shape (k:=i) (v:=v) h;exact .inl ⟨i,t,rfl,e⟩
 | .inr x,v,h=>by
  obtain⟨t,e⟩:=Value.isStrOf_shape (x:=x) (v:=v) h;exact .inr ⟨x,t,rfl,e⟩
theorem Ol (a b:Int):decide ((Sum.inl a:Key)=Sum.inl b)=(a == b):=by
 by_cases e:a=b
 ·subst e;simp
 ·have h:¬ (Sum.inl a:Key)=Sum.inl b:=λq=>e (Sum.inl.inj q)
  rw[Jo h];exact(beq_eq_false_iff_ne.mpr e).symm
theorem Om (a b:Str):decide ((Sum.inr a:Key)=Sum.inr b)=decide (a=b):=by
 by_cases e:a=b
 ·subst e;simp
 ·have h:¬ (Sum.inr a:Key)=Sum.inr b:=λq=>e (Sum.inr.inj q)
  rw[Jo h,Jo e]
theorem Oo (a:Int)(b:Str):decide ((Sum.inl a:Key)=Sum.inr b)=false:=Jo (λq=>nomatch q)
theorem Oq (a:Str)(b:Int):decide ((Sum.inr a:Key)=Sum.inl b)=false:=Jo (λq=>nomatch q)
def EU (prog:F?)(w:H?):PySem.KeyKind prog w Key where
 is:=Ng
 hash:=Ur w
 inj:=λv a b ha hb=>by
  rcases dR ha with ⟨i,t,rfl,rfl⟩|⟨x,t,rfl,rfl⟩
  ·rcases dR hb with ⟨j,u,rfl,e⟩|⟨y,u,rfl,e⟩
   ·injection e with e1 _;rw[e1]
   ·exact nomatch e
  ·rcases dR hb with ⟨j,u,rfl,e⟩|⟨y,u,rfl,e⟩
   ·exact nomatch e
   ·injection e with e1 _;rw[e1]
 byValue:=λk v h=>by
  rcases dR h with ⟨i,t,rfl,rfl⟩|⟨x,t,rfl,rfl⟩ <;> rfl
 pyHash:=λhv h=>by
  rcases dR hv with ⟨i,t,rfl,rfl⟩|⟨x,t,rfl,rfl⟩
  ·exact wpAny_pyHash_int h
  ·exact wpAny_pyHash_str h
 eqBool:=λhu hv h=>by
  rcases dR hu with ⟨i,t,rfl,rfl⟩|⟨x,t,rfl,rfl⟩
  ·rcases dR hv with ⟨j,u,rfl,rfl⟩|⟨y,u,rfl,rfl⟩
   ·rw[Ol] at h;exact wpAny_eqBool_int h
   ·rw[Oo] at h;exact SeqAt.EqAt.int_str i t y u _ _ _ _ h
  ·rcases dR hv with ⟨j,u,rfl,rfl⟩|⟨y,u,rfl,rfl⟩
   ·rw[Oq] at h;exact SeqAt.EqAt.str_int x t j u _ _ _ _ h
   ·rw[Om] at h;exact wpAny_eqBool_str h
 «strs»:=λk x t v h=>by
  rcases dR h with ⟨i,u,rfl,e⟩|⟨y,u,rfl,e⟩
  ·exact nomatch e
  ·injection e with e1 _
   subst e1;cases v <;> rfl
inductive V where
 | fm|bl (b:Bool)|int (i:Int)|str (x:Str)|byt (b:Array UInt8)|flt (b:UInt64)|ref (a:o?)|ty (n:String)
 deriving DecidableEq
def RelV:V->l?->Prop
 | .fm,u=>u=Value.none
 | .bl b,u=>u=Value.bool b
 | .int i,u=>∃t,u=Value.int i t
 | .str x,u=>∃t,u=Value.str x t
 | .byt b,u=>∃t,u=Value.bytes b t
 | .flt b,u=>∃t,u=Value.float b t
 | .ref a,u=>u=I! a
 | .ty n,u=>u=Value.type n
abbrev Vals:List V->List l?->Prop:=Paired RelV
theorem Vals.length {xs:List V}{us:List l?}(r:Vals xs us):xs.length=us.length:=Paired.length r
theorem Vals.get:∀ {xs:List V} {us:List l?} {i:Nat} {x:V},Vals xs us->xs[i]?=j? x->∃u,us[i]?=j? u/\RelV x u
 | _,_,_,_,.nil,e=>by simp at e
 | _,_,0,_,.cons r _,e=>by simp at e;subst e;exact⟨_,rfl,r⟩
 | _,_,i+1,x,.cons _ t,e=>by
  obtain⟨u,h1,h2⟩:=Vals.get (i:=i) (x:=x) t (by simpa using e)
  exact⟨u,by simpa using h1,h2⟩
theorem Vals.set {x:V}{u:l?}(r:RelV x u):∀ {xs:List V} {us:List l?} (i:Nat),Vals xs us->Vals (xs.set i x) (us.set i u)
 | _,_,_,.nil=>.nil
 | _,_,0,.cons _ t=>.cons r t
 | _,_,i+1,.cons q t=>.cons q (Vals.set r i t)
theorem Vals.append:∀ {xs ys:List V} {us ws:List l?},Vals xs us->Vals ys ws->Vals (xs++ys) (us++ws)
 | _,_,_,_,.nil,s=>s
 | _,_,_,_,.cons r t,s=>.cons r (Vals.append t s)
theorem Vals.take:∀ {xs:List V} {us:List l?} (n:Nat),Vals xs us->Vals (xs.take n) (us.take n)
 | _,_,0,_=>.nil
 | _,_,_+1,.nil=>.nil
 | _,_,n+1,.cons r t=>.cons r (Vals.take n t)
theorem Vals.drop:∀ {xs:List V} {us:List l?} (n:Nat),Vals xs us->Vals (xs.drop n) (us.drop n)
 | _,_,0,r=>r
 | _,_,_+1,.nil=>.nil
 | _,_,n+1,.cons _ t=>Vals.drop n t
def Rb:Option V->Option l?->Prop
 | some v,j? u=>RelV v u
 | none,q?=>True
 | _,_=>False
def KV {κ:Type}:List (κ×V)->List (κ×l?)->Prop:=Paired λ(p:κ×V) (q:κ×l?)=>p.1=q.1/\RelV p.2 q.2
def kV:Key->V
 | .inl i=>.int i
 | .inr x=>.str x
inductive HO where
 | lst (xs:List V)
 | tup (xs:List V)
 | dK (kvs:List (Key×V))|dT (kvs:List (List Key×V))
 | set (S:Int->Bool) (n:Nat)
 | ins (C dx:o?) (fs:List (Str×V))
 | own (x:o?)
 | xd (fs:List (Str×V))
 | met (f x:o?)
 | sO (lo hi:Int)
 | Ln (o:Obj) (u:HO)
 | vO (ps:Array l?)
 | ext (φ:O?->Prop)
abbrev Hp:=o?->Option HO
def upd (H:Hp)(a:o?)(o:HO):Hp:=λb=>if b=a then j? o else H b
theorem av {H:Hp}{a:o?}{o:HO}:upd H a o a=j? o:=by unfold upd;rw[Jl rfl]
theorem aN {H:Hp}{a b:o?}{o:HO}(h:b≠a):upd H a o b=H b:=by unfold upd;rw[Jk h]
theorem bG {H:Hp}{a b:o?}{o:HO}(h:H a=j? o)(h':H b=q?):a≠b:=by
 intro e;subst e;rw[h] at h';cases h'
section
variable (P:F?) (w:H?)
def jv (H:Hp)(h:O?)(a:o?):HO->Prop
 | .lst xs=>xs.length<=K?/\∃(its:List l?) (n:Nat),Vals xs its/\h.get? a=j? { cls:=.type "list",data:=.seq its.toArray n }
 | .tup xs=>xs.length<=K?/\∃its:List l?,Vals xs its/\IsTup h a its.toArray
 | .dK kvs=>kvs.length<=K?/\(a == sysModules)=false/\∃vs,KV kvs vs/\h.DictOf (EU P w) a vs
 | .dT kvs=>kvs.length<=K?/\(a == sysModules)=false/\∃xs:List (List Key×o?×l?),
   Paired (λ(p:List Key×V) (q:List Key×o?×l?)=>p.1=q.1/\H q.2.1=j? (.tup (p.1.map kV))/\RelV p.2 q.2.2) kvs xs/\
   ∃o es ep,h.get? a=j? o/\o.ExactDict/\o.data=.dict es ep/\es.toList=xs.map (entryOfKey (tupleKind (EU P w)))/\(xs.map (·.1)).Nodup
 | .set S n=>h.SetOf (intKind P w) a S n
 | .ins C dx fs=>H dx=j? (.own a)/\fs.length<=1000/\dx≠a/\h.get? a=j? (PySem.W.instObj C dx)/\
   ∃mA,h.Ns1 dx mA/\(∀f,Rb (fs.lookup f) (mA f))/\PySem.Within mA (fs.map (·.1))
 | .own _=>∃o,h.get? a=j? o
 | .xd fs=>∃mA,h.Ns1 a mA/\∀f,Rb (fs.lookup f) (mA f)
 | .sO lo hi=>∃t u v,h.get? a=j? { cls:=.type "range",data:=.fields #[.int lo t,.int hi u,.int 1 v] }
 | .Ln o u=>h.get? a=j? o/\jv H h a u
 | .vO ps=>h.get? a=j? { cls:=.none,data:=.fields ps }
 | .met f x=>h.get? a=j? (PySem.W.methodObj (.ref f) (.ref x))
 | .ext φ=>φ h/\(∃o,h.get? a=j? o)/\∀h1 h2:O?,φ h1->(∀o,h1.get? a=j? o->h2.get? a=j? o)->φ h2
def uW (H:Hp)(h:O?):Prop:=∀a o,H a=j? o->jv P w H h a o
end
section
variable {P:F?} {w:H?} {H H':Hp} {h h':O?} {a:o?} {o:HO}
theorem jv.lt (x:jv P w H h a o):a<h.objs.size:=by
 cases o with
 | lst xs=>obtain⟨_,_,_,_,e⟩:=x;exact Yl e
 | tup xs=>obtain⟨_,_,_,p⟩:=x;exact p.lt
 | dK kvs=>obtain⟨_,_,_,_,o,_,_,e,_⟩:=x;exact Yl e
 | dT kvs=>obtain⟨_,_,_,_,o,_,_,e,_⟩:=x;exact Yl e
 | set S n=>obtain⟨o,_,_,_,e,_⟩:=x;exact Yl e
 | ins C dx fs=>obtain⟨_,_,_,e,_⟩:=x;exact Yl e
 | own y=>obtain⟨_,e⟩:=x;exact Yl e
 | xd fs=>obtain⟨_,⟨_,_,_,e,_⟩,_⟩:=x;exact Yl e
 | sO lo hi=>obtain⟨_,_,_,e⟩:=x;exact Yl e
 | Ln ob u=>obtain⟨e,_⟩:=x;exact Yl e
 | vO ps=>exact Yl (show h.get? a=j? _ from x)
 | met f y=>exact Yl (show h.get? a=j? _ from x)
 | ext φ=>obtain⟨_,⟨_,e⟩,_⟩:=x;exact Yl e
theorem Paired.Rc {α β:Type}{F G:α->β->Prop}:∀ {l₁:List α} {l₂:List β},Paired F l₁ l₂->(∀a b,F a b->G a b)->Paired G l₁ l₂
 | _,_,.nil,_=>.nil
 | _,_,.cons r t,f=>.cons (f _ _ r) (Paired.Rc t f)
theorem jv.stay (x:jv P w H h a o)(k:∀b u,(b=a\/H b=j? (.own a))->h.get? b=j? u->h'.get? b=j? u)
  (ho:∀b,H b=j? (.own a)->H' b=j? (.own a)) (ht:∀b xs,H b=j? (.tup xs)->H' b=j? (.tup xs)):jv P w H' h' a o:=by
 induction o with
 | lst xs=>obtain⟨z,its,n,r,e⟩:=x;exact⟨z,its,n,r,k _ _ (.inl rfl) e⟩
 | tup xs=>obtain⟨z,its,r,ob,e,c⟩:=x;exact⟨z,its,r,ob,k _ _ (.inl rfl) e,c⟩
 | dK kvs=>obtain⟨z,y,vs,r,ob,es,ep,e,c⟩:=x;exact⟨z,y,vs,r,ob,es,ep,k _ _ (.inl rfl) e,c⟩
 | dT kvs=>
  obtain⟨z,y,xs,r,ob,es,ep,e,c⟩:=x;exact⟨z,y,xs,Paired.Rc r λp q z=>⟨z.1,ht _ _ z.2.1,z.2.2⟩,ob,es,ep,k _ _ (.inl rfl) e,c⟩
 | set S n=>obtain⟨ob,es,ep,t,e,c⟩:=x;exact⟨ob,es,ep,t,k _ _ (.inl rfl) e,c⟩
 | ins C dx fs=>
  obtain⟨d,z,ne,e,mA,⟨od,es,ep,e2,c⟩,r⟩:=x;exact⟨ho _ d,z,ne,k _ _ (.inl rfl) e,mA,⟨od,es,ep,k _ _ (.inr d) e2,c⟩,r⟩
 | own y=>obtain⟨ob,e⟩:=x;exact⟨ob,k _ _ (.inl rfl) e⟩
 | xd fs=>obtain⟨mA,⟨od,es,ep,e,c⟩,r⟩:=x;exact⟨mA,⟨od,es,ep,k _ _ (.inl rfl) e,c⟩,r⟩
 | sO lo hi=>obtain⟨t,u,v,e⟩:=x;exact⟨t,u,v,k _ _ (.inl rfl) e⟩
 | Ln ob u ih=>obtain⟨e,q⟩:=x;exact⟨k _ _ (.inl rfl) e,ih q⟩
 | vO ps=>
  have e:h.get? a=j? { cls:=.none,data:=.fields ps }:=x;show h'.get? a=j? { cls:=.none,data:=.fields ps }
  exact k a _ (.inl rfl) e
 | met f y=>
  have e:h.get? a=j? (PySem.W.methodObj (.ref f) (.ref y)):=x;show h'.get? a=j? (PySem.W.methodObj (.ref f) (.ref y))
  exact k a _ (.inl rfl) e
 | ext φ=>obtain⟨p,⟨o,e⟩,st⟩:=x;exact⟨st _ _ p λo q=>k _ _ (.inl rfl) q,⟨o,k _ _ (.inl rfl) e⟩,st⟩
theorem uW.lt (x:uW P w H h)(e:H a=j? o):a<h.objs.size:=(x a o e).lt
theorem uW.fresh (x:uW P w H h)(e:h.objs.size<=a):H a=q?:=by
 cases q:H a with
 | none=>rfl
 | some u=>exact Jr (Yj (x.lt q) e) (We _)
theorem uW.kept (x:uW P w H h)(k:∀b u,h.get? b=j? u->h'.get? b=j? u):uW P w H h':=λa o e=>
 (x a o e).stay (λb u _ q=>k b u q) (λ_ q=>q) λ_ _ q=>q
theorem uW.laid (x:uW P w H h)(k:∀b u,h.get? b=j? u->h'.get? b=j? u)(hp:h.objs.size<=a)(new:jv P w (upd H a o) h' a o):uW P w (upd H a o) h':=λb u e=>by
 have hn:=x.fresh hp;by_cases hb:b=a
 ·subst hb;rw[av] at e;cases e;exact new
 ·rw[aN hb] at e
  exact(x b u e).stay (λc v _ q=>k c v q) (λc q=>by rw[aN (bG q hn)];exact q) λc xs q=>by rw[aN (bG q hn)];exact q
end
def Rd (H:Hp)(a:o?)(u:HO):Prop:=H a=j? u\/∃o,H a=j? (.Ln o u)
theorem Rd.ok {P:F?}{w:H?}{H:Hp}{h:O?}{a:o?}{u:HO}(r:Rd H a u)(x:uW P w H h):jv P w H h a u:=by
 rcases r with r|⟨o,r⟩
 ·exact x a u r
 ·obtain⟨_,q⟩:=x a _ r
  exact q
def Tt:Option HO->Prop
 | some (.lst _)=>True
 | some (.dK _)=>True
 | some (.dT _)=>True
 | some (.set _ _)=>True
 | some (.ins _ _ _)=>True
 | some (.ext _)=>True
 | _=>False
section
variable {P:F?} {w:H?} {H:Hp} {h h':O?} {x e:o?} {o':HO}
theorem uW.write (ok:uW P w H h)(mu:Tt (H x))(he:e=x\/H e=j? (.own x))(k:∀b u,b≠e->h.get? b=j? u->h'.get? b=j? u)(QE:∃u,h'.get? e=j? u)
  (new:jv P w (upd H x o') h' x o'):uW P w (upd H x o') h':=λb u q=>by
 have Rf:∀c y,H c=j? (.own y)->c≠x:=λc y r z=>by subst z;rw[r] at mu;exact mu
 have Us:∀c xs,H c=j? (.tup xs)->c≠x:=λc xs r z=>by subst z;rw[r] at mu;exact mu
 by_cases hb:b=x
 ·subst hb;rw[av] at q;cases q;exact new
 ·rw[aN hb] at q
  by_cases hbe:b=e
  ·have q':H b=j? (.own x):=by
    rcases he with z|z
    ·exact Jr (hbe.trans z) hb
    ·rw[hbe];exact z
   rw[q] at q';cases q';obtain⟨v,hv⟩:=QE;exact⟨v,by rw[hbe];exact hv⟩
  ·refine(ok b u q).stay (λc v hc r=>k c v ?_ r) (λc r=>by rw[aN (Rf c b r)];exact r) λc xs r=>by rw[aN (Us c xs r)];exact r
   rcases hc with rfl|hc
   ·exact hbe
   ·rintro rfl
    rcases he with z|z
    ·exact Rf c b hc z
    ·rw[hc] at z;cases z;exact hb rfl
end
structure Un (fs ex:List o?)(H H':Hp)(h h':O?):Prop where
 keep:∀b o,h.get? b=j? o->H b=q?->b ∉ fs->b ∉ ex->h'.get? b=j? o
 slot:∀b o,h.get? b=j? o->H b=q?->b∈fs->b ∉ ex->∃sl,h'.get? b=j? { o with slots:=sl }
 free:∀b o,h.get? b=j? o->H b=q?->b ∉ ex->H' b=q?
 there:∀b o,h.get? b=j? o->b ∉ ex->∃o',h'.get? b=j? o'
 tups:∀b xs,H b=j? (.tup xs)->H' b=j? (.tup xs)
 zy:∀b o u,H b=j? (.Ln o u)->H' b=j? (.Ln o u)
 zz:∀b ps,H b=j? (.vO ps)->∃more,H' b=j? (.vO (ps++more))
section
variable {fs fs' ex ex':List o?} {H H1 H2:Hp} {h h1 h2 h':O?} {a x e:o?} {o:HO}
theorem Un.any (u:Un fs ex H H1 h h1){b:o?}{ob:Obj}(q:h.get? b=j? ob)(n:H b=q?)(hx:b ∉ ex):∃sl,h1.get? b=j? { ob with slots:=sl }:=by
 by_cases hb:b∈fs
 ·exact u.slot b ob q n hb hx
 ·exact⟨ob.slots,u.keep b ob q n hb hx⟩
theorem Un.kept (k:∀b u,h.get? b=j? u->h'.get? b=j? u):Un fs ex H H h h':=
 ⟨λb ob q _ _ _=>k b ob q,λb ob q _ _ _=>⟨ob.slots,k b ob q⟩,λ_ _ _ n _=>n,λb ob q _=>⟨ob,k b ob q⟩,λ_ _ q=>q,λ_ _ _ q=>q,λ_ ps q=>⟨#[],by rw[q];simp⟩⟩
theorem Un.refl:Un fs ex H H h h:=Un.kept λ_ _ q=>q
theorem Un.laid (k:∀b u,h.get? b=j? u->h'.get? b=j? u)(hp:h.objs.size<=a)(hn:H a=q?):Un fs ex H (upd H a o) h h' where
 keep:=λb u q _ _ _=>k b u q
 slot:=λb u q _ _ _=>⟨u.slots,k b u q⟩
 free:=λb u q n _=>by rw[aN (Yw (Yj (Yl q) hp))];exact n
 there:=λb u q _=>⟨u,k b u q⟩
 tups:=λb xs q=>by rw[aN (bG q hn)];exact q
 zy:=λb u xs q=>by rw[aN (bG q hn)];exact q
 zz:=λb ps q=>⟨#[],by rw[aN (bG q hn),q];simp⟩
theorem Un.write (mu:Tt (H x))(he:e=x\/H e=j? (.own x))(k:∀b u,b≠e->h.get? b=j? u->h'.get? b=j? u)(QE:∃u,h'.get? e=j? u):Un fs ex H (upd H x o) h h':=by
 have hx:∀b,H b=q?->b≠x:=λb n z=>by subst z;rw[n] at mu;exact mu
 have hb:∀b,H b=q?->b≠e:=λb n z=>by
  subst z;rcases he with r|r
  ·exact hx b n r
  ·rw[n] at r;cases r
 have hm:∀b u,H b=j? u->¬ Tt (j? u)->b≠x:=λb u q nm z=>by subst z;rw[q] at mu;exact nm mu
 refine⟨λb u q n _ _=>k b u (hb b n) q,λb u q n _ _=>⟨u.slots,k b u (hb b n) q⟩,λb u q n _=>by rw[aN (hx b n)];exact n,λb u q _=>?_,
  λb xs q=>by rw[aN (hm b _ q λz=>z)];exact q,λb u xs q=>by rw[aN (hm b _ q λz=>z)];exact q,λb ps q=>⟨#[],by rw[aN (hm b _ q λz=>z),q];simp⟩⟩
 by_cases hbe:b=e
 ·subst hbe;exact QE
 ·exact⟨u,k b u hbe q⟩
end
def Tu (h:O?)(H:Hp):List o?:=(Yk h.objs.size).filter λa=>(H a).isSome
def yd (h:O?)(H:Hp):O?:=PySem.W.hideAll h (Tu h H)
theorem Gp (h:O?)(H:Hp):(yd h H).objs.size=h.objs.size:=PySem.W.hideAll_size _ _
theorem HG {h:O?}{H:Hp}{b:o?}{o:Obj}(e:h.get? b=j? o)(n:H b=q?):(yd h H).get? b=j? o:=
 PySem.W.hideAll_get _ e λhm=>by
  have q:(H b).isSome=true:=(List.mem_filter.mp hm).2;rw[n] at q;simp at q
theorem Lz {h:O?}{H:Hp}{b:o?}{o:Obj}(e:(yd h H).get? b=j? o):h.get? b=j? o/\H b=q?:=by
 have e':h.get? b=j? o:=PySem.W.of_hideAll (Tu h H) e;refine⟨e',?_⟩
 cases q:H b with
 | none=>rfl
 | some x=>
  have hm:b∈Tu h H:=List.mem_filter.mpr ⟨List.mem_range.mpr (Yl e'),by simp[q]⟩
  have z:(yd h H).get? b=q?:=PySem.W.hideAll_none (Tu h H) hm;rw[z] at e;cases e
structure Mod (K:bX)(mg:Str->Option l?)(base:O?):Prop where
 Ut:K.In base
 glob:base.Ns G? mg
 blt:∃mb,base.Ns builtinsNs mb/\∀x:Str,x≠"__name__"->mb x=H! x
 nolimit:base.NoLimit
structure Cx where
 prog:F?
 w:H?
 K:bX
 mg:Str->Option l?
 base:O?
 A:A!
 N:List Str
 s₀:u?
 H₀:Hp
 env:Env
 outer:List Env
 stack:List Env
 ex:List o?
 fn:Str->Bool
 calm:Bool
 pn:List (o?×Obj)
 xe:l?->u?->Prop
def frs (l:List Env):List o?:=l.filterMap (·.frame)
abbrev Cx.fs (X:Cx):List o?:=frs X.outer
def QF (sc:Scope)(x:Str):Prop:=sc.names.lookup x=j? .local\/sc.names.lookup x=j? .cell\/sc.names.lookup x=j? .free
def Loc (sc:Scope)(x:Str):Prop:=sc.names.lookup x=j? .local\/sc.names.lookup x=j? .cell
def Look (env:Env)(h:O?)(m:Str->Option l?)(x:Str)(u:l?):Prop:=
 (env.kindOf x=j? .local/\m x=j? u)\/((env.kindOf x=j? .cell\/env.kindOf x=j? .free)/\∃c,env.cells.lookup x=j? c/\h.IsCell c (j? u))
structure Cx.Ok (X:Cx):Prop where
 mod:Mod X.K X.mg X.base
 kind:X.env.scope.kind=.function
 glob:X.env.globals=G?
 blt:X.env.builtins=builtinsNs
 above:X.s₀.heap.objs.size<=X.env.locals
 inj:∀x y c,X.env.cells.lookup x=j? c->X.env.cells.lookup y=j? c->x=y
 has:∀x,(X.env.kindOf x=j? .cell\/X.env.kindOf x=j? .free)->∃c,X.env.cells.lookup x=j? c
 Nh:∀x c,X.fn x=true->X.env.cells.lookup x=j? c->X.s₀.heap.objs.size<=c
 hd:X.calm=true->X.A.handled=q?
 frames:X.A.frames=j? X.stack
 stk:X.stack=X.outer\/(X.stack=X.env::X.outer/\X.env.frame=j? X.env.locals)
 QG:∀b∈X.ex,b≠X.env.locals/\∀x c,X.env.cells.lookup x=j? c->c≠b
 bs:∀b o,X.base.get? b=j? o->X.s₀.heap.get? b=j? o/\X.H₀ b=q?
 EV:X.base.objs.size<=X.s₀.heap.objs.size
 Bg:∀b o,X.base.get? b=j? o->b ∉ X.ex
 Bh:∀b∈X.ex,b ∉ X.fs
 oZ:X.s₀.heap.FunFrames X.base X.outer
 Lo:∀b∈X.fs,X.H₀ b=q?
structure Inv (X:Cx)(pins:List (o?×Obj))(σ:List (Option V))(H:Hp)(s:u?):Prop where
 ok:X.Ok
 os:s.os=X.s₀.os
 bare:AllBare s.gens
 base:Un X.fs X.ex X.H₀ H X.s₀.heap s.heap
 loc:∃m,s.heap.Ns X.env.locals m/\∀(i:Nat) (x:Str) (v:V),X.N[i]?=j? x->σ[i]?=j? (j? v)->QF X.env.scope x->∃u,RelV v u/\Look X.env s.heap m x u
 cell:∀x c,X.env.cells.lookup x=j? c->∃v,s.heap.IsCell c v
 free:H X.env.locals=q?
 jd:∀x c,X.env.cells.lookup x=j? c->H c=q?
 pin:∀p∈X.pn++pins,s.heap.get? p.1=j? p.2/\H p.1=q?/\p.1≠X.env.locals/\p.1 ∉ X.fs/\∀v,p.2.data≠.cell v
 hok:uW X.prog X.w H s.heap
 len:σ.length=X.N.length
section
variable {X:Cx} {pins:List (o?×Obj)} {σ:List (Option V)} {H H':Hp} {s:u?} {h':O?}
theorem Cx.Ok.Uu (ok:X.Ok){b:o?}{o:Obj}(e:X.base.get? b=j? o):b ∉ X.fs:=λhb=>by
 have:=(ok.oZ.mem hb).1
 rw[e] at this;cases this
theorem Inv.bs (I:Inv X pins σ H s):∀b o,X.base.get? b=j? o->s.heap.get? b=j? o/\H b=q?:=λb o e=>
 ⟨I.base.keep b o (I.ok.bs b o e).1 (I.ok.bs b o e).2 (I.ok.Uu e) (I.ok.Bg b o e),I.base.free b o (I.ok.bs b o e).1 (I.ok.bs b o e).2 (I.ok.Bg b o e)⟩
theorem Inv.bk (I:Inv X pins σ H s):∀b o,X.base.get? b=j? o->s.heap.get? b=j? o:=λb o e=>(I.bs b o e).1
theorem Inv.mod (I:Inv X pins σ H s):Mod X.K X.mg X.base:=I.ok.mod
theorem Inv.EW (I:Inv X pins σ H s):X.K.In s.heap:=I.ok.mod.Ut.keeps I.bk
theorem Inv.lt (I:Inv X pins σ H s):X.env.locals<s.heap.objs.size:=let ⟨_,hn,_⟩:=I.loc;hn.lt
theorem Inv.sz (I:Inv X pins σ H s):X.s₀.heap.objs.size<=s.heap.objs.size:=Ym I.ok.above (W9 I.lt)
theorem Inv.Uv (I:Inv X pins σ H s){a:o?}(h:s.heap.objs.size<=a):a ∉ X.fs:=λhb=>by
 obtain⟨_,o,ho,_⟩:=I.ok.oZ.mem hb;exact Jr (Yj (Yl ho) (Ym I.sz h)) (We _)
theorem Inv.Ni (I:Inv X pins σ H s):∀x c,X.env.cells.lookup x=j? c->c≠X.env.locals:=λx c e z=>by
 obtain⟨v,o,ho,hd⟩:=I.cell x c e;obtain⟨m,⟨o',es,ep,ho',hd',_⟩,_⟩:=I.loc;rw[z,ho'] at ho;cases ho;rw[hd'] at hd;cases hd
theorem Inv.oZ (I:Inv X pins σ H s):s.heap.FunFrames X.base X.outer:=by
 have all:∀(l:List Env),(∀b∈frs l,b∈X.fs)->X.s₀.heap.FunFrames X.base l->s.heap.FunFrames X.base l:=by
  intro l;induction l with
  | nil=>intro _ _;trivial
  | cons env r ih=>
   intro hs hl;obtain⟨hk,⟨L,o,hf,hn,ho,hd⟩,hr⟩:=hl;have hL:L∈X.fs:=hs L (by unfold frs;rw[List.filterMap_cons,hf];exact Zj)
   obtain⟨sl,e⟩:=I.base.slot L o ho (I.ok.Lo L hL) hL λz=>I.ok.Bh L z hL
   exact⟨hk,⟨L,_,hf,hn,e,hd⟩,ih (λb hb=>hs b (by unfold frs;rw[List.filterMap_cons,hf];exact Zb _ hb)) hr⟩
 exact all X.outer (λ_ hb=>hb) I.ok.oZ
theorem Inv.stack (I:Inv X pins σ H s):s.heap.FunFrames X.base X.stack:=by
 rcases I.ok.stk with e|⟨e,hf⟩
 ·rw[e];exact I.oZ
 ·rw[e]
  obtain⟨m,hn,_⟩:=I.loc;refine .cons (by rw[I.ok.kind];decide) hf hn ?_ I.oZ
  exact Heap.get?_none_of_le (Ym I.ok.EV I.ok.above)
theorem Inv.vP (I:Inv X pins σ H s):∀b∈frs X.stack,b∈X.env.locals::X.fs:=λb hb=>by
 rcases I.ok.stk with e|⟨e,hf⟩
 ·rw[e] at hb;exact Zb _ hb
 ·rw[e] at hb
  unfold frs at hb;rw[List.filterMap_cons,hf] at hb;exact hb
theorem Inv.zA (I:Inv X pins σ H s):∀b∈frs X.stack,H b=q?:=λb hb=>by
 rcases List.mem_cons.mp (I.vP b hb) with e|hb
 ·rw[e];exact I.free
 ·obtain⟨_,o,ho,_⟩:=I.ok.oZ.mem hb
  exact I.base.free b o ho (I.ok.Lo b hb) λz=>I.ok.Bh b z hb
theorem Inv.step {g':Array GenState}{t':Nat}{d':Drawn}{ch:List o?}(I:Inv X pins σ H s)
  (hch:∀b∈ch,(b∈X.ex\/X.s₀.heap.objs.size<=b)/\b≠X.env.locals/\(∀x c,X.env.cells.lookup x=j? c->c≠b)/\∀p∈X.pn++pins,p.1≠b)
  (keep:∀b o,b≠X.env.locals->b ∉ X.fs->b ∉ ch->s.heap.get? b=j? o->H b=q?->h'.get? b=j? o)
  (slot:∀b o,b≠X.env.locals->b∈X.fs->b ∉ ch->s.heap.get? b=j? o->H b=q?->∃sl,h'.get? b=j? { o with slots:=sl }) (free:∀b o,b ∉ ch->s.heap.get? b=j? o->H b=q?->H' b=q?)
  (there:∀b o,b ∉ ch->s.heap.get? b=j? o->∃o',h'.get? b=j? o')
  (tups:∀b xs,H b=j? (.tup xs)->H' b=j? (.tup xs)) (zy:∀b o u,H b=j? (.Ln o u)->H' b=j? (.Ln o u)) (zz:∀b ps,H b=j? (.vO ps)->∃more,H' b=j? (.vO (ps++more)))
  (ns:∀m,s.heap.Ns X.env.locals m->h'.Ns X.env.locals m) (hok:uW X.prog X.w H' h') (hg:AllBare g'):
  Inv X pins σ H' { s with heap:=h',gens:=g',drawn:=d',toks:=t' }:=by
 have Tv:∀b o,X.s₀.heap.get? b=j? o->b≠X.env.locals:=λb o e=>Yw (Yj (Yl e) I.ok.above)
 have Tw:∀b o,X.s₀.heap.get? b=j? o->b ∉ X.ex->b ∉ ch:=λb o e hx hb=>by
  rcases (hch b hb).1 with z|z
  ·exact hx z
  ·exact Jr (Yj (Yl e) z) (We _)
 have cellK:∀x c,X.env.cells.lookup x=j? c->∀v,s.heap.IsCell c v->h'.IsCell c v:=λx c e v ⟨o,ho,hd⟩=>by
  have Rg:c ∉ ch:=λz=>(hch c z).2.2.1 x c e rfl
  by_cases hc:c∈X.fs
  ·obtain⟨sl,q⟩:=slot c o (I.Ni x c e) hc Rg ho (I.jd x c e)
   exact⟨_,q,hd⟩
  ·exact⟨o,keep c o (I.Ni x c e) hc Rg ho (I.jd x c e),hd⟩
 refine⟨I.ok,I.os,hg,⟨λb o e n hb hx=>?_,λb o e n hb hx=>?_,λb o e n hx=>?_,λb o e hx=>?_,λb xs e=>tups b xs (I.base.tups b xs e),λb o xs e=>zy b o xs (I.base.zy b o xs e),λb ps e=>?_⟩,?_,λx c e=>?_,?_,λx c e=>?_,λp hp=>?_,hok,I.len⟩
 ·exact keep b o (Tv b o e) hb (Tw b o e hx) (I.base.keep b o e n hb hx) (I.base.free b o e n hx)
 ·obtain⟨sl,e1⟩:=I.base.slot b o e n hb hx
  obtain⟨Uw,e2⟩:=slot b _ (Tv b o e) hb (Tw b o e hx) e1 (I.base.free b o e n hx);exact⟨Uw,e2⟩
 ·obtain⟨o',e1⟩:=I.base.there b o e hx
  exact free b o' (Tw b o e hx) e1 (I.base.free b o e n hx)
 ·obtain⟨o',e1⟩:=I.base.there b o e hx
  exact there b o' (Tw b o e hx) e1
 ·obtain⟨m1,e1⟩:=I.base.zz b ps e
  obtain⟨m2,e2⟩:=zz b _ e1;exact⟨m1++m2,by rw[e2,Array.append_assoc]⟩
 ·obtain⟨m,hn,hl⟩:=I.loc
  refine⟨m,ns m hn,λi x v e1 e2 e3=>?_⟩
  obtain⟨u,r,l⟩:=hl i x v e1 e2 e3;refine⟨u,r,?_⟩
  rcases l with l|⟨k,c,e,z⟩
  ·exact .inl l
  ·exact .inr ⟨k,c,e,cellK x c e _ z⟩
 ·obtain⟨v,z⟩:=I.cell x c e
  exact⟨v,cellK x c e v z⟩
 ·obtain⟨m,⟨o,_,_,ho,_⟩,_⟩:=I.loc
  exact free _ o (λz=>(hch _ z).2.1 rfl) ho I.free
 ·obtain⟨v,o,ho,hd⟩:=I.cell x c e
  exact free c o (λz=>(hch c z).2.2.1 x c e rfl) ho (I.jd x c e)
 ·obtain⟨e,n,ne,nf,d⟩:=I.pin p hp
  have Rg:p.1 ∉ ch:=λz=>(hch p.1 z).2.2.2 p hp rfl
  exact⟨keep p.1 p.2 ne nf Rg e n,free p.1 p.2 Rg e n,ne,nf,d⟩
theorem Inv.un {t':Nat}(I:Inv X pins σ H s)(u:Un X.fs [] H H' s.heap h')(hok:uW X.prog X.w H' h'):Inv X pins σ H' { s with heap:=h',toks:=t' }:=by
 obtain⟨m,⟨o,es,ep,ho,r⟩,_⟩:=id I.loc;obtain⟨sl,hL⟩:=u.any ho I.free (by simp)
 exact I.step (g':=s.gens) (d':=s.drawn) (ch:=[]) (λ_ z=>nomatch z) (λb o _ hb _ e n=>u.keep b o e n hb (by simp)) (λb o _ hb _ e n=>u.slot b o e n hb (by simp)) (λb o _ e n=>u.free b o e n (by simp)) (λb o _ e=>u.there b o e (by simp)) u.tups u.zy u.zz (λm' hm=>by
  obtain⟨o',es',Ux,ho',r'⟩:=hm;rw[ho] at ho';cases ho';exact⟨_,es',Ux,hL,r'⟩) hok I.bare
theorem Inv.call {g':Array GenState}{t':Nat}{d':Drawn}{ch:List o?}(I:Inv X pins σ H s)(u:Un (frs X.stack) ch H H' s.heap h')(hok:uW X.prog X.w H' h')(hg:AllBare g')
  (hch:∀b∈ch,(b∈X.ex\/X.s₀.heap.objs.size<=b)/\b≠X.env.locals/\(∀x c,X.env.cells.lookup x=j? c->c≠b)/\∀p∈X.pn++pins,p.1≠b):
  Inv X pins σ H' { s with heap:=h',gens:=g',drawn:=d',toks:=t' }:=by
 obtain⟨m,⟨o,es,ep,ho,r⟩,_⟩:=id I.loc;obtain⟨sl,hL⟩:=u.any ho I.free λz=>(hch _ z).2.1 rfl
 exact I.step (ch:=ch) hch (λb o hL hb hc e n=>u.keep b o e n (λz=>(List.mem_cons.mp (I.vP b z)).elim hL hb) hc) (λb o _ _ hc e n=>u.any e n hc) (λb o hc e n=>u.free b o e n hc) (λb o hc e=>u.there b o e hc) u.tups u.zy u.zz (λm' hm=>by
  obtain⟨o',es',Ux,ho',r'⟩:=hm;rw[ho] at ho';cases ho';exact⟨_,es',Ux,hL,r'⟩) hok hg
theorem Inv.turned {t':Nat}{it:o?}(I:Inv X pins σ H s)(k:∀b o,b≠it->s.heap.get? b=j? o->h'.get? b=j? o)(hn:H it=q?)(hL:it≠X.env.locals)
  (h1:it∈X.ex\/X.s₀.heap.objs.size<=it) (h2:∀x c,X.env.cells.lookup x=j? c->c≠it) (h3:∀p∈X.pn++pins,p.1≠it):Inv X pins σ H { s with heap:=h',toks:=t' }:=by
 have Nj:∀b u,H b=j? u->b≠it:=λb u e z=>by rw[z,hn] at e;cases e
 refine I.step (g':=s.gens) (d':=s.drawn) (ch:=[it]) (λb hb=>?_) (λb o _ _ hc e _=>k b o (λz=>hc (by simp[z])) e) (λb o _ _ hc e _=>⟨o.slots,k b o (λz=>hc (by simp[z])) e⟩) (λ_ _ _ _ n=>n)
  (λb o hc e=>⟨o,k b o (λz=>hc (by simp[z])) e⟩) (λ_ _ e=>e) (λ_ _ _ e=>e) (λb ps e=>⟨#[],by rw[e];simp⟩) (λm hm=>?_) (λb u e=>?_) I.bare
 ·have e:b=it:=by simpa using hb
  subst e;exact⟨h1,hL,h2,h3⟩
 ·obtain⟨o,es,ep,ho,r⟩:=hm
  exact⟨o,es,ep,k _ o (Ne.symm hL) ho,r⟩
 ·refine(I.hok b u e).stay (λc v hc q=>k c v ?_ q) (λ_ q=>q) λ_ _ q=>q
  rcases hc with z|z
  ·rw[z];exact Nj b u e
  ·exact Nj c _ z
theorem Inv.tok (I:Inv X pins σ H s)(t:Nat):Inv X pins σ H { s with toks:=t }:=I.un (h':=s.heap) (t':=t) Un.refl I.hok
theorem Inv.kept {t':Nat}(I:Inv X pins σ H s)(k:∀b u,s.heap.get? b=j? u->h'.get? b=j? u):Inv X pins σ H { s with heap:=h',toks:=t' }:=I.un (Un.kept k) (I.hok.kept k)
theorem Inv.laid {a:o?}{o:HO}{t':Nat}(I:Inv X pins σ H s)(k:∀b u,s.heap.get? b=j? u->h'.get? b=j? u)(hp:s.heap.objs.size<=a)(new:jv X.prog X.w (upd H a o) h' a o):
  Inv X pins σ (upd H a o) { s with heap:=h',toks:=t' }:=I.un (Un.laid k hp (I.hok.fresh hp)) (I.hok.laid k hp new)
theorem Inv.write {x e:o?}{o:HO}{t':Nat}(I:Inv X pins σ H s)(mu:Tt (H x))(he:e=x\/H e=j? (.own x))(k:∀b u,b≠e->s.heap.get? b=j? u->h'.get? b=j? u)(QE:∃u,h'.get? e=j? u)
  (new:jv X.prog X.w (upd H x o) h' x o):Inv X pins σ (upd H x o) { s with heap:=h',toks:=t' }:=I.un (Un.write mu he k QE) (I.hok.write mu he k QE new)
theorem Inv.EX {uH:List (o?×Obj)}(I:Inv X pins σ H s)(h:∀p∈uH,s.heap.get? p.1=j? p.2/\H p.1=q?/\p.1≠X.env.locals/\p.1 ∉ X.fs/\∀v,p.2.data≠.cell v):Inv X uH σ H s:=
 ⟨I.ok,I.os,I.bare,I.base,I.loc,I.cell,I.free,I.jd,λp hp=>(List.mem_append.mp hp).elim (λz=>I.pin p (List.mem_append_left _ z)) (h p),I.hok,I.len⟩
theorem Bj {N:List Str}(hN:N.Nodup){i j:Nat}{x:Str}(a:N[i]?=j? x)(b:N[j]?=j? x):i=j:=by
 obtain⟨h1,e1⟩:=List.getElem?_eq_some_iff.mp a;obtain⟨h2,e2⟩:=List.getElem?_eq_some_iff.mp b;exact(List.getElem_inj hN).mp (e1.trans e2.symm)
theorem sP {M:Model}{A:A!}{E:l?->u?->Prop}{i:Nat}{x:Str}{v:V}{u:l?}{Q:Unit->u?->Prop}(I:Inv X pins σ H s)(hN:X.N.Nodup)(hi:X.N[i]?=j? x)(hx:Loc X.env.scope x)(r:RelV v u)
  (h:∀s',Inv X pins (σ.set i (j? v)) H s'->(∃a,Heap.SameBut a s.heap s'.heap/\(a=X.env.locals\/X.env.cells.lookup x=j? a))->Q () s') (hf:X.fn x=true\/X.env.scope.names.lookup x=j? .local:=by first|exact .inl rfl|exact .inr rfl|assumption):L? M A (storeName X.env x u) Q E s:=by
 obtain⟨m,hn,hl⟩:=id I.loc;have hcls:(X.env.scope.kind == .class || (X.env.scope.kind == .module && X.env.locals != X.env.globals))=false:=by rw[I.ok.kind];rfl
 have Rh:i<σ.length:=by rw[I.len];exact(List.getElem?_eq_some_iff.mp hi).1
 have Ni:=I.Ni;have tracked:∀ {a:o?} {h':O?},(∃o,s.heap.get? a=j? o/\H a=q?)->Heap.SameBut a s.heap h'->uW X.prog X.w H h':=λ{a h'} ha hs b ob e=>by
  obtain⟨_,_,hfree⟩:=ha;refine(I.hok b ob e).stay (λc w' hc q=>(hs.2 c ?_).trans q) (λ_ q=>q) λ_ _ q=>q
  rintro rfl;rcases hc with rfl|hc
  ·rw[hfree] at e;cases e
  ·rw[hfree] at hc;cases hc
 rcases hx with hk|hk
 ·refine wpAny_storeName_local hk hn (λh' hn' hs=>?_) hcls
  obtain⟨oL,_,_,hoL,_⟩:=id hn;refine h _ ⟨I.ok,I.os,I.bare,⟨λb o e n hb hx=>?_,λb o e n hb hx=>?_,I.base.free,λb o e hx=>?_,I.base.tups,I.base.zy,I.base.zz⟩,⟨_,hn',λj y v' e1 e2 e3=>?_⟩,λy c e=>?_,I.free,I.jd,λp hp=>?_,tracked ⟨oL,hoL,I.free⟩ hs,by simpa using I.len⟩ ⟨_,hs,.inl rfl⟩
  ·exact(hs.2 b (Yw (Yj (Yl e) I.ok.above))).trans (I.base.keep b o e n hb hx)
  ·obtain⟨sl,e1⟩:=I.base.slot b o e n hb hx
   exact⟨sl,(hs.2 b (Yw (Yj (Yl e) I.ok.above))).trans e1⟩
  ·obtain⟨o',e1⟩:=I.base.there b o e hx
   exact⟨o',(hs.2 b (Yw (Yj (Yl e) I.ok.above))).trans e1⟩
  ·by_cases hj:j=i
   ·subst hj
    rw[hi] at e1;cases e1;rw[List.getElem?_set_self Rh] at e2;cases e2;exact⟨u,r,.inl ⟨hk,by simp⟩⟩
   ·rw[List.getElem?_set_ne (Ne.symm hj)] at e2
    obtain⟨u',r',q⟩:=hl j y v' e1 e2 e3;refine⟨u',r',?_⟩
    rcases q with ⟨k,e⟩|⟨k,c,e,z⟩
    ·refine .inl ⟨k,?_⟩
     have:y≠x:=λe=>hj (Bj hN e1 (e ▸ hi))
     simp[this,e]
    ·exact .inr ⟨k,c,e,z.sameBut hs (Ni y c e)⟩
  ·obtain⟨w',z⟩:=I.cell y c e
   exact⟨w',z.sameBut hs (Ni y c e)⟩
  ·obtain⟨e,n,ne,nf,d⟩:=I.pin p hp
   exact⟨(hs.2 p.1 ne).trans e,n,ne,nf,d⟩
 ·have hfn:X.fn x=true:=by
   rcases hf with z|z
   ·exact z
   ·rw[z] at hk;cases hk
  obtain⟨c,hc⟩:=I.ok.has x (.inl hk);obtain⟨w',z⟩:=I.cell x c hc;refine wpAny_storeName_cell I.ok.kind hk hc z (λh' hc' hs=>?_)
  obtain⟨oc,hoc,Uy⟩:=id z;refine h { s with heap:=h' } ⟨I.ok,I.os,I.bare,⟨λb o e n hb hx=>?_,λb o e n hb hx=>?_,I.base.free,λb o e hx=>?_,I.base.tups,I.base.zy,I.base.zz⟩,⟨m,hn.sameBut hs (Ne.symm (Ni x c hc)),λj y v' e1 e2 e3=>?_⟩,λy c' e=>?_,I.free,I.jd,λp hp=>?_,tracked ⟨oc,hoc,I.jd x c hc⟩ hs,by simpa using I.len⟩ ⟨c,hs,.inr hc⟩
  ·exact(hs.2 b (Yw (Yj (Yl e) (I.ok.Nh x c hfn hc)))).trans (I.base.keep b o e n hb hx)
  ·obtain⟨sl,e1⟩:=I.base.slot b o e n hb hx
   exact⟨sl,(hs.2 b (Yw (Yj (Yl e) (I.ok.Nh x c hfn hc)))).trans e1⟩
  ·obtain⟨o',e1⟩:=I.base.there b o e hx
   exact⟨o',(hs.2 b (Yw (Yj (Yl e) (I.ok.Nh x c hfn hc)))).trans e1⟩
  ·by_cases hj:j=i
   ·subst hj
    rw[hi] at e1;cases e1;rw[List.getElem?_set_self Rh] at e2;cases e2;exact⟨u,r,.inr ⟨.inl hk,c,hc,hc'⟩⟩
   ·rw[List.getElem?_set_ne (Ne.symm hj)] at e2
    obtain⟨u',r',q⟩:=hl j y v' e1 e2 e3;refine⟨u',r',?_⟩
    rcases q with q|⟨k,c',e,z'⟩
    ·exact .inl q
    ·refine .inr ⟨k,c',e,z'.sameBut hs ?_⟩
     rintro rfl;exact hj (Bj hN e1 (I.ok.inj _ _ _ e hc ▸ hi))
  ·by_cases hcc:c'=c
   ·subst hcc;exact⟨_,hc'⟩
   ·obtain⟨w2,z2⟩:=I.cell y c' e
    exact⟨w2,z2.sameBut hs hcc⟩
  ·obtain⟨e,n,ne,nf,d⟩:=I.pin p hp
   refine⟨(hs.2 p.1 ?_).trans e,n,ne,nf,d⟩
   intro q;rw[q,hoc] at e;have q':oc=p.2:=M? e;exact d w' (by rw[<- q'];exact Uy)
theorem m9 {M:Model}{A:A!}{E:l?->u?->Prop}{i:Nat}{x:Str}{v:V}{u:l?}{Q:Unit->u?->Prop}(I:Inv X pins σ H s)(hN:X.N.Nodup)(hi:X.N[i]?=j? x)(hx:Loc X.env.scope x)(r:RelV v u)
  (h:∀s',Inv X pins (σ.set i (j? v)) H s'->Q () s') (hf:X.fn x=true\/X.env.scope.names.lookup x=j? .local:=by first|exact .inl rfl|exact .inr rfl|assumption):L? M A (storeName X.env x u) Q E s:=
 sP I hN hi hx r (λs' I' _=>h s' I') hf
theorem Inv.Nk {s':u?}{ch:List o?}(I:Inv X pins σ H s)(ho:s'.os=s.os)(u:Un (frs X.stack) ch H H' s.heap s'.heap)(hok:uW X.prog X.w H' s'.heap)(hg:AllBare s'.gens)
  (hch:∀b∈ch,(b∈X.ex\/X.s₀.heap.objs.size<=b)/\b≠X.env.locals/\(∀x c,X.env.cells.lookup x=j? c->c≠b)/\∀p∈X.pn++pins,p.1≠b):Inv X pins σ H' s':=by
 obtain⟨h',g',d',t',o'⟩:=s';have e:o'=s.os:=ho;subst e;exact I.call (g':=g') (t':=t') (d':=d') u hok hg hch
end
abbrev XK:=l?->Option o?->Hp->Prop
abbrev St:=List (Option V)
abbrev VK:=V->Hp->Prop
abbrev TE:=St->Hp->VK->Prop
abbrev TT:=St->Hp->(Bool->Hp->Prop)->Prop
abbrev TA:=St->Hp->(List V->Hp->Prop)->Prop
structure Ends where
 nx:St->Hp->Prop
 rt:VK
 bk:St->Hp->Prop:=λ_ _=>False
 ct:St->Hp->Prop:=λ_ _=>False
abbrev TS:=Ends->St->Hp->Prop
def EP (X:Cx)(pins:List (o?×Obj))(σ:St)(Q:VK)(u:l?)(s':u?):Prop:=∃v H',Inv X pins σ H' s'/\RelV v u/\Q v H'
def TP (X:Cx)(pins:List (o?×Obj))(σ:St)(Q:Bool->Hp->Prop)(b:Bool)(s':u?):Prop:=∃H',Inv X pins σ H' s'/\Q b H'
def AP (X:Cx)(pins:List (o?×Obj))(σ:St)(Q:List V->Hp->Prop)(us:List l?)(s':u?):Prop:=∃vs H',Inv X pins σ H' s'/\Vals vs us/\Q vs H'
def SP (X:Cx)(pins:List (o?×Obj))(D:Ends)(f:Flow)(s':u?):Prop:=
 match f with
 | .next=>∃σ' H',Inv X pins σ' H' s'/\D.nx σ' H'
 | .brk=>∃σ' H',Inv X pins σ' H' s'/\D.bk σ' H'
 | .cont=>∃σ' H',Inv X pins σ' H' s'/\D.ct σ' H'
 | .ret u=>∃v σ' H',Inv X pins σ' H' s'/\RelV v u/\D.rt v H'
structure Dc (p:Prop):Prop where
 out:p
instance {α:Sort _}{β:α->Prop}:CoeFun (Dc (∀a,β a)) (λ_=>∀a,β a):=⟨Dc.out⟩
abbrev PE (X:Cx)(e:Expr)(t:TE):Prop:=Dc (
 ∀(pins:List (o?×Obj)) (s:u?) (σ:St) (H:Hp) (Q:VK),Inv X pins σ H s->t σ H Q->L? (S? X.prog X.w) X.A (eval e X.env) (EP X pins σ Q) X.xe s)
abbrev PT (X:Cx)(e:Expr)(t:TT):Prop:=Dc (
 ∀(pins:List (o?×Obj)) (s:u?) (σ:St) (H:Hp) (Q:Bool->Hp->Prop),Inv X pins σ H s->t σ H Q->L? (S? X.prog X.w) X.A (isTrue e X.env (eval e X.env)) (TP X pins σ Q) X.xe s)
def PW (X:Cx)(e:Expr)(t:TT):Prop:=
 ∀(whole:Sem l?) (pins:List (o?×Obj)) (s:u?) (σ:St) (H:Hp) (Q:Bool->Hp->Prop),Inv X pins σ H s->t σ H Q->L? (S? X.prog X.w) X.A (isTrue e X.env whole) (TP X pins σ Q) X.xe s
theorem PW.pt {X:Cx}{e:Expr}{t:TT}(h:PW X e t):PT X e t:=⟨h _⟩
abbrev PA (X:Cx)(es:List Expr)(t:TA):Prop:=Dc (
 ∀(pos:Pos) (pins:List (o?×Obj)) (s:u?) (σ:St) (H:Hp) (Q:List V->Hp->Prop),Inv X pins σ H s->t σ H Q->L? (S? X.prog X.w) X.A (spliced (backTo pos (I? es X.env))) (AP X pins σ Q) X.xe s)
abbrev PS (X:Cx)(st:Q?)(t:TS):Prop:=Dc (
 ∀(pins:List (o?×Obj)) (s:u?) (σ:St) (H:Hp) (D:Ends),Inv X pins σ H s->t D σ H->L? (S? X.prog X.w) X.A (exec st X.env) (SP X pins D) X.xe s)
abbrev C6 (X:Cx)(st:List Q?)(t:TS):Prop:=Dc (
 ∀(pins:List (o?×Obj)) (s:u?) (σ:St) (H:Hp) (D:Ends),Inv X pins σ H s->t D σ H->L? (S? X.prog X.w) X.A (execs st X.env) (SP X pins D) X.xe s)
theorem eY {α:Type}{t:Sem α}{Q Q':α->u?->Prop}{M:Model}{A:A!}{E:l?->u?->Prop}{s:u?}(h:L? M A t Q E s)(hQ:∀a s,Q a s->Q' a s):L? M A t Q' E s:=B! h hQ λ_ _ x=>x
section
variable {X:Cx}
def Ot (i:Nat):TE:=λσ H Q=>∃v,σ[i]?=j? (j? v)/\Q v H
def tC (v:V):TE:=λ_ H Q=>Q v H
theorem Ou {i:Nat}{x:Str}{pos:Pos}(hN:X.N[i]?=j? x)(hv:QF X.env.scope x)(hd:(x ==("__debug__":Str))=false:=by decide)(hcd:(x ==("__classdict__":Str))=false:=by decide):PE X (.Name x pos) (Ot i):=by
 refine⟨?_⟩
 intro pins s σ H Q I h;obtain⟨v,e,h⟩:=h;obtain⟨m,hn,hl⟩:=I.loc;obtain⟨u,r,l⟩:=hl i x v hN e hv;have fin:EP X pins σ Q u s:=⟨v,H,I,r,h⟩;rcases l with ⟨hk,hm⟩|⟨hk,c,hc,hcell⟩
 ·exact wpAny_Name (wpAny_loadName_local I.ok.kind hk hn hm fin) hd
 ·rcases hk with hk|hk
  ·exact wpAny_Name (wpAny_loadName_cell I.ok.kind hk hc hcell fin) hd
  ·exact wpAny_Name (wpAny_loadName_free I.ok.kind hk hc hcell fin hcd) hd
theorem ak {i j pos}:PE X (.Constant (.int i) j pos) (tC (.int i)):=⟨λ_ _ _ H _ I h=>wpAny_Constant_int ⟨.int i,H,I.tok _,⟨_,rfl⟩,h⟩⟩
theorem EY {b j pos}:PE X (.Constant (.bool b) j pos) (tC (.bl b)):=⟨λ_ _ _ H _ I h=>Constant_bool ⟨.bl b,H,I,rfl,h⟩⟩
theorem sQ {j pos}:PE X (.Constant .none j pos) (tC .fm):=⟨λ_ _ _ H _ I h=>Constant_none ⟨.fm,H,I,rfl,h⟩⟩
def Gl (X:Cx)(x:Str):Prop:=X.env.kindOf x=j? .globalImplicit
theorem EZ {E:l?->u?->Prop}{pins:List (o?×Obj)}{s:u?}{σ:St}{H:Hp}{x:Str}{u:l?}{pos:Pos}{Q:l?->u?->Prop}(I:Inv X pins σ H s)(hg:Gl X x)(hm:X.mg x=j? u)(h:Q u s)
  (hd:(x ==("__debug__":Str))=false:=by decide):L? (S? X.prog X.w) X.A (eval (.Name x pos) X.env) Q E s:=
 Calls.Name_function_global I.ok.kind hg (Calls.loadGlobal_global (by rw[I.ok.glob];exact I.mod.glob.keeps I.bk) hm h) hd
theorem j4 {E:l?->u?->Prop}{pins:List (o?×Obj)}{s:u?}{σ:St}{H:Hp}{x:Str}{u:l?}{pos:Pos}{Q:l?->u?->Prop}(I:Inv X pins σ H s)(hg:Gl X x)(hm:X.mg x=q?)(hv:H! x=j? u)(h:Q u s)
  (hn:x≠"__name__":=by decide) (hd:(x ==("__debug__":Str))=false:=by decide):L? (S? X.prog X.w) X.A (eval (.Name x pos) X.env) Q E s:=by
 obtain⟨mb,h1,h2⟩:=I.mod.blt;exact Calls.Name_function_global I.ok.kind hg (Calls.loadGlobal_builtin (by rw[I.ok.glob];exact I.mod.glob.keeps I.bk) hm (by rw[I.ok.blt];exact h1.keeps I.bk) ((h2 x hn).trans hv) h) hd
theorem vo {x:Str}{v:V}{u:l?}{pos:Pos}(hg:Gl X x)(hm:X.mg x=j? u)(r:RelV v u)(hd:(x ==("__debug__":Str))=false:=by decide):PE X (.Name x pos) (tC v):=
 ⟨λ_ _ _ H _ I h=>EZ I hg hm ⟨v,H,I,r,h⟩ hd⟩
theorem zB {x:Str}{v:V}{u:l?}{pos:Pos}(hg:Gl X x)(hm:X.mg x=q?)(hv:H! x=j? u)(r:RelV v u)(hn:x≠"__name__":=by decide)(hd:(x ==("__debug__":Str))=false:=by decide):PE X (.Name x pos) (tC v):=
 ⟨λ_ _ _ H _ I h=>j4 I hg hm hv ⟨v,H,I,r,h⟩ hn hd⟩
variable {a b:Expr} {ta tb:TE} {pos:Pos}
def tB (t:TE):TT:=λσ H Q=>t σ H λx H1=>∃c,x=.bl c/\Q c H1
theorem zC {e:Expr}{t:TE}(h:PE X e t)(he:∀whole,isTrue e X.env whole=(do let v <- whole;standAt e.pos;holding [v] (truthy v)):=by intro _;rfl):PT X e (tB t):=by
 refine⟨?_⟩
 intro pins s σ H Q I hw;refine isTrue_plain (eY (h pins s σ H _ I hw) λv s1 ⟨x,H1,I1,r1,q1⟩=>?_) (he _)
 obtain⟨d,rfl,q⟩:=q1;cases r1;exact wpAny_truthy_bool ⟨H1,I1,q⟩
variable {tA Tz:TT} {rest:List Expr}
def Uz (t u:TT):TT:=λσ H Q=>t σ H λc H1=>if c=true then u σ H1 Q else Q false H1
def tOr (t u:TT):TT:=λσ H Q=>t σ H λc H1=>if c=true then Q true H1 else u σ H1 Q
def UA (t:TT):TT:=λσ H Q=>t σ H λc H1=>Q (!c) H1
theorem E1 (ha:PT X a tA):PW X (.BoolOp .And [a] pos) tA:=by
 intro wh pins s σ H Q I h;refine isTrue_and (eY (ha pins s σ H Q I h) λc s1 e=>?_)
 cases c with
 | true=>exact isTrue_and_nil e
 | false=>exact e
theorem zD (ha:PT X a tA):PW X (.BoolOp .Or [a] pos) tA:=by
 intro wh pins s σ H Q I h;refine isTrue_or (eY (ha pins s σ H Q I h) λc s1 e=>?_)
 cases c with
 | false=>exact isTrue_or_nil e
 | true=>exact e
theorem HH (ha:PT X a tA)(hb:PW X (.BoolOp .And (b::rest) pos) Tz):PW X (.BoolOp .And (a::b::rest) pos) (Uz tA Tz):=by
 intro wh pins s σ H Q I h;refine isTrue_and (eY (ha pins s σ H _ I h) λc s1 ⟨H1,I1,q1⟩=>?_)
 cases c with
 | true=>exact hb wh pins s1 σ H1 Q I1 q1
 | false=>exact⟨H1,I1,q1⟩
theorem E2 (ha:PT X a tA)(hb:PW X (.BoolOp .Or (b::rest) pos) Tz):PW X (.BoolOp .Or (a::b::rest) pos) (tOr tA Tz):=by
 intro wh pins s σ H Q I h;refine isTrue_or (eY (ha pins s σ H _ I h) λc s1 ⟨H1,I1,q1⟩=>?_)
 cases c with
 | true=>exact⟨H1,I1,q1⟩
 | false=>exact hb wh pins s1 σ H1 Q I1 q1
theorem zE (ha:PT X a tA):PT X (.UnaryOp .Not a pos) (UA tA):=by
 refine⟨?_⟩
 intro pins s σ H Q I h;exact isTrue_not (ha pins s σ H (λc H1=>Q (!c) H1) I h)
def Ri (ta tb:TE):TE:=λσ H Q=>ta σ H λx H1=>∃c,x=.bl c/\if c=true then tb σ H1 Q else Q (.bl false) H1
def UB (ta tb:TE):TE:=λσ H Q=>ta σ H λx H1=>∃c,x=.bl c/\if c=true then Q (.bl true) H1 else tb σ H1 Q
def Rj (ta:TE):TE:=λσ H Q=>ta σ H λx H1=>∃c,x=.bl c/\Q (.bl (!c)) H1
theorem sS {op}{t:TE}(h:PE X a t):PE X (.BoolOp op [a] pos) t:=⟨λpins s σ H Q I hw=>BoolOp_one (h pins s σ H Q I hw)⟩
theorem sU (ha:PE X a ta)(hb:PE X (.BoolOp .And (b::rest) pos) tb):PE X (.BoolOp .And (a::b::rest) pos) (Ri ta tb):=by
 refine⟨?_⟩
 intro pins s σ H Q I h;refine BoolOp_and (eY (ha pins s σ H _ I h) λv s1 ⟨x,H1,I1,r1,q1⟩=>?_)
 obtain⟨c,rfl,q1⟩:=q1;cases r1;refine wpAny_truthy_bool ?_
 cases c with
 | true=>exact hb pins s1 σ H1 Q I1 q1
 | false=>exact⟨.bl false,H1,I1,rfl,q1⟩
theorem Rk (ha:PE X a ta)(hb:PE X (.BoolOp .Or (b::rest) pos) tb):PE X (.BoolOp .Or (a::b::rest) pos) (UB ta tb):=by
 refine⟨?_⟩
 intro pins s σ H Q I h;refine BoolOp_or (eY (ha pins s σ H _ I h) λv s1 ⟨x,H1,I1,r1,q1⟩=>?_)
 obtain⟨c,rfl,q1⟩:=q1;cases r1;refine wpAny_truthy_bool ?_
 cases c with
 | false=>exact hb pins s1 σ H1 Q I1 q1
 | true=>exact⟨.bl true,H1,I1,rfl,q1⟩
theorem Ov (ha:PE X a ta):PE X (.UnaryOp .Not a pos) (Rj ta):=by
 refine⟨?_⟩
 intro pins s σ H Q I h;refine UnaryOp_ (eY (ha pins s σ H _ I h) λv s1 ⟨x,H1,I1,r1,q1⟩=>?_)
 obtain⟨c,rfl,q1⟩:=q1;cases r1;exact not_of (wpAny_truthy_bool ⟨.bl (!c),H1,I1,rfl,q1⟩)
def tIf (t:TT)(ta tb:TE):TE:=λσ H Q=>t σ H λc H1=>if c=true then ta σ H1 Q else tb σ H1 Q
theorem vQ {c:Expr}(hc:PT X c tA)(ha:PE X a ta)(hb:PE X b tb):PE X (.IfExp c a b pos) (tIf tA ta tb):=by
 refine⟨?_⟩
 intro pins s σ H Q I h;refine wpAny_IfExp (eY (hc pins s σ H _ I h) λd s1 ⟨H1,I1,q1⟩=>?_)
 cases d with
 | true=>exact ha pins s1 σ H1 Q I1 q1
 | false=>exact hb pins s1 σ H1 Q I1 q1
end
def aQ (K:bX)(H:Hp)(a:o?)(xs:List V):Prop:=
 Rd H a (.lst xs)\/
  ∃(o:Obj) (its:Array l?) (n:Nat),K.lookup a=j? o/\o.cls=.type "list"/\o.dict=q?/\o.data=.seq its n/\its.size<=K?/\Vals xs its.toList
def k8 (K:bX)(H:Hp)(a:o?)(xs:List V):Prop:=
 Rd H a (.tup xs)\/
  ∃(o:Obj) (its:Array l?) (n:Nat),K.lookup a=j? o/\o.cls=.type "tuple"/\o.data=.seq its n/\its.size<=K?/\Vals xs its.toList
def LA:l?->Option V
 | .none=>j? .fm
 | .bool b=>j? (.bl b)
 | .int i _=>j? (.int i)
 | .str x _=>j? (.str x)
 | .bytes b _=>j? (.byt b)
 | .float b _=>j? (.flt b)
 | .ref a=>j? (.ref a)
 | .type n=>j? (.ty n)
 | _=>q?
theorem RelV.abs {x:V}{u:l?}(r:RelV x u):LA u=j? x:=by
 cases x with
 | fm=>cases r;rfl
 | bl _=>cases r;rfl
 | int _=>obtain⟨t,rfl⟩:=r;rfl
 | str _=>obtain⟨t,rfl⟩:=r;rfl
 | byt _=>obtain⟨t,rfl⟩:=r;rfl
 | flt _=>obtain⟨t,rfl⟩:=r;rfl
 | ref _=>cases r;rfl
 | ty _=>cases r;rfl
theorem RelV.inj {x y:V}{u:l?}(r:RelV x u)(q:RelV y u):x=y:=M? (r.abs.symm.trans q.abs)
theorem Vals.inj:∀ {xs ys:List V} {us:List l?},Vals xs us->Vals ys us->xs=ys
 | _,_,_,.nil,.nil=>rfl
 | _,_,_,.cons r t,.cons r' t'=>by rw[r.inj r',Vals.inj t t']
section
variable {X:Cx} {pins:List (o?×Obj)} {σ:St} {H:Hp} {s:u?} {a:o?} {xs ys:List V}
theorem aQ.of {K:bX}(h:H a=j? (.lst xs)):aQ K H a xs:=.inl (.inl h)
theorem k8.of {K:bX}(h:H a=j? (.tup xs)):k8 K H a xs:=.inl (.inl h)
theorem Inv.list (I:Inv X pins σ H s)(h:aQ X.K H a xs):∃its:List l?,Vals xs its/\PlainL s.heap a its.toArray/\xs.length<=K?:=by
 rcases h with h|⟨o,its,n,hk,hc,hd,hs,hz,r⟩
 ·obtain⟨z,its,n,r,e⟩:=h.ok I.hok
  exact⟨its,r,⟨_,n,e,rfl,rfl,rfl⟩,z⟩
 ·refine⟨its.toList,r,⟨o,n,I.EW a o hk,hc,hd,by simpa using hs⟩,?_⟩
  have e:=r.length;simp only[Array.length_toList] at e
  omega
theorem Inv.tuple (I:Inv X pins σ H s)(h:k8 X.K H a xs):∃its:List l?,Vals xs its/\IsTup s.heap a its.toArray/\xs.length<=K?:=by
 rcases h with h|⟨o,its,n,hk,hc,hs,hz,r⟩
 ·obtain⟨z,its,r,p⟩:=h.ok I.hok
  exact⟨its,r,p,z⟩
 ·refine⟨its.toList,r,⟨o,I.EW a o hk,hc,n,by simpa using hs⟩,?_⟩
  have e:=r.length;simp only[Array.length_toList] at e
  omega
theorem Inv.qX (I:Inv X pins σ H s)(h:aQ X.K H a xs)(h':aQ X.K H a ys):xs=ys:=by
 obtain⟨its,r,⟨o,n,e,_,_,d⟩,_⟩:=I.list h;obtain⟨its',r',⟨o',n',e',_,_,d'⟩,_⟩:=I.list h';rw[e] at e';cases e';rw[d] at d';injection d' with d1 _
 have:its=its':=by simpa using Jp Array.toList d1
 subst this;exact r.inj r'
end
abbrev Cx.ye (X:Cx)(E:l?->u?->Prop):Cx:={ X with xe:=E }
abbrev Cx.Nl (X:Cx):Cx:=X.ye λ_ _=>False
theorem Cx.Ok.ye {X:Cx}(ok:X.Ok)(E:l?->u?->Prop):(X.ye E).Ok:=
 ⟨ok.mod,ok.kind,ok.glob,ok.blt,ok.above,ok.inj,ok.has,ok.Nh,ok.hd,ok.frames,ok.stk,ok.QG,ok.bs,ok.EV,ok.Bg,ok.Bh,ok.oZ,ok.Lo⟩
theorem Cx.Ok.m_ {X:Cx}{E:l?->u?->Prop}(ok:(X.ye E).Ok):X.Ok:=
 ⟨ok.mod,ok.kind,ok.glob,ok.blt,ok.above,ok.inj,ok.has,ok.Nh,ok.hd,ok.frames,ok.stk,ok.QG,ok.bs,ok.EV,ok.Bg,ok.Bh,ok.oZ,ok.Lo⟩
section
variable {X:Cx} {pins:List (o?×Obj)} {σ:St} {H:Hp} {s:u?} {E:l?->u?->Prop}
theorem Inv.ye (I:Inv X pins σ H s)(E:l?->u?->Prop):Inv (X.ye E) pins σ H s:=⟨I.ok.ye E,I.os,I.bare,I.base,I.loc,I.cell,I.free,I.jd,I.pin,I.hok,I.len⟩
theorem Inv.m_ (I:Inv (X.ye E) pins σ H s):Inv X pins σ H s:=⟨I.ok.m_,I.os,I.bare,I.base,I.loc,I.cell,I.free,I.jd,I.pin,I.hok,I.len⟩
theorem SP.m_ {D:Ends}{f:Flow}{s':u?}(h:SP (X.ye E) pins D f s'):SP X pins D f s':=by
 cases f with
 | next=>obtain⟨σ',H',I,q⟩:=h;exact⟨σ',H',I.m_,q⟩
 | brk=>obtain⟨σ',H',I,q⟩:=h;exact⟨σ',H',I.m_,q⟩
 | cont=>obtain⟨σ',H',I,q⟩:=h;exact⟨σ',H',I.m_,q⟩
 | ret u=>obtain⟨v,σ',H',I,r,q⟩:=h;exact⟨v,σ',H',I.m_,r,q⟩
theorem C6.Nl {st:List Q?}{t:TS}(h:C6 X.Nl st t):C6 X st t:=⟨λpins s σ H D I hw=>
 B! (h pins s σ H D (I.ye _) hw) (λ_ _ q=>q.m_) λ_ _ z=>M! z⟩
end
section
variable {X:Cx} {st:Q?} {rest:List Q?} {t u:TS} {e:Expr} {te:TE} {pos:Pos}
def Rl:TS:=λD σ H=>D.nx σ H
def Rm (t u:TS):TS:=λD σ H=>t { D with nx:=u D } σ H
theorem cD:C6 X [] Rl:=⟨λ_ _ σ H _ I h=>wpAny_execs_nil ⟨σ,H,I,h⟩⟩
theorem ah (h1:PS X st t)(h2:C6 X rest u):C6 X (st::rest) (Rm t u):=by
 refine⟨?_⟩
 intro pins s σ H D I h;refine wpAny_execs_cons (eY (h1 pins s σ H { D with nx:=u D } I h) λf s1 q=>?_)
 cases f with
 | next=>
  obtain⟨σ',H',I',q⟩:=q;exact h2 pins s1 σ' H' D I' q
 | ret v=>exact q
 | brk=>exact q
 | cont=>exact q
theorem ay (h1:PS X st t):C6 X [st] t:=by
 refine⟨?_⟩
 intro pins s σ H D I h;refine wpAny_execs_cons (eY (h1 pins s σ H D I h) λf s1 q=>?_)
 cases f with
 | next=>exact wpAny_execs_nil q
 | ret v=>exact q
 | brk=>exact q
 | cont=>exact q
theorem Inv.quiet {pins:List (o?×Obj)}{σ:St}{H:Hp}{s:u?}(I:Inv X pins σ H s):interactive X.env=false:=by simp[interactive,I.ok.kind]
def Rn (te:TE):TS:=λD σ H=>te σ H λ_ H1=>D.nx σ H1
theorem fH (he:PE X e te)(hs:swapsWith e q? pos.line X.env=pure false:=by rfl):PS X (.Expr e pos) (Rn te):=by
 refine⟨?_⟩
 intro pins s σ H D I h;exact wpAny_Expr_any (eY (he pins s σ H _ I h) λv s1 ⟨x,H1,I1,r1,q1⟩=>⟨σ,H1,I1,q1⟩) I.quiet hs
def UC (te:TE):TS:=λD σ H=>te σ H D.rt
theorem aL (he:PE X e te):PS X (.Return (j? e) pos) (UC te):=by
 refine⟨?_⟩
 intro pins s σ H D I h;exact wpAny_Return_some (eY (he pins s σ H _ I h) λv s1 ⟨x,H1,I1,r1,q1⟩=>⟨x,σ,H1,I1,r1,q1⟩)
def UD (c:TT)(t u:TS):TS:=λD σ H=>c σ H λb H1=>if b=true then t D σ H1 else u D σ H1
theorem eT {c:Expr}{a b:List Q?}{tc:TT}(hc:PT X c tc)(ha:C6 X a t)(hb:C6 X b u):PS X (.If c a b pos) (UD tc t u):=by
 refine⟨?_⟩
 intro pins s σ H D I h;refine wpAny_If (eY (hc pins s σ H _ I h) λd s1 ⟨H1,I1,q1⟩=>?_)
 cases d with
 | true=>exact ha pins s1 σ H1 D I1 q1
 | false=>exact hb pins s1 σ H1 D I1 q1
end
abbrev TG:=V->St->Hp->(St->Hp->Prop)->Prop
abbrev Nm:=List V->St->Hp->(St->Hp->Prop)->Prop
def PG (X:Cx)(target:Expr)(t:TG):Prop:=
 ∀(pins:List (o?×Obj)) (s:u?) (σ:St) (H:Hp) (v:V) (u:l?) (Q:St->Hp->Prop),Inv X pins σ H s->RelV v u->t v σ H Q->
  L? (S? X.prog X.w) X.A (assign target X.env u) (λ_ s'=>∃σ' H',Inv X pins σ' H' s'/\Q σ' H') X.xe s
def Ro (X:Cx)(ts:List Expr)(t:Nm):Prop:=
 ∀(pins:List (o?×Obj)) (s:u?) (σ:St) (H:Hp) (vs:List V) (us:List l?) (Q:St->Hp->Prop),Inv X pins σ H s->Vals vs us->t vs σ H Q->
  L? (S? X.prog X.w) X.A (assignInOrder ((assignEach ts X.env).map (·.2)) us) (λ_ s'=>∃σ' H',Inv X pins σ' H' s'/\Q σ' H') X.xe s
abbrev HJ:=V->V->V->Hp->(Hp->Prop)->Prop
def Ow (X:Cx)(t:HJ):Prop:=
 ∀(pins:List (o?×Obj)) (s:u?) (σ:St) (H:Hp) (o i v:V) (ov iv u:l?) (Q:Hp->Prop),Inv X pins σ H s->RelV o ov->RelV i iv->RelV v u->t o i v H Q->
  L? (S? X.prog X.w) X.A (setItem ov iv u) (λ_ s'=>∃H',Inv X pins σ H' s'/\Q H') X.xe s
abbrev QH:=V->V->Hp->VK->Prop
def TF (X:Cx)(op:Operator)(t:QH):Prop:=
 ∀(pins:List (o?×Obj)) (s:u?) (σ:St) (H:Hp) (x y:V) (v u:l?) (Q:VK),Inv X pins σ H s->RelV x v->RelV y u->t x y H Q->
  L? (S? X.prog X.w) X.A (inplaceOp op v u) (EP X pins σ Q) X.xe s
section
variable {X:Cx} {pos:Pos}
def iO (i:Nat):TG:=λv σ H Q=>Q (σ.set i (j? v)) H
theorem aE {i:Nat}{x:Str}(hN:X.N.Nodup)(hi:X.N[i]?=j? x)(hx:Loc X.env.scope x)(hf:X.fn x=true\/X.env.scope.names.lookup x=j? .local:=by first|exact .inl rfl|exact .inr rfl|assumption):PG X (.Name x pos) (iO i):=by
 intro pins s σ H v u Q I r h;exact wpAny_assign_Name (m9 I hN hi hx r (λs' I'=>⟨_,H,I',h⟩) hf)
def UE:Nm:=λvs σ H Q=>vs=[]/\Q σ H
def Rp (t:TG)(u:Nm):Nm:=λvs σ H Q=>∃v r,vs=v::r/\t v σ H λσ' H'=>u r σ' H' Q
theorem dD:Ro X [] UE:=by
 intro pins s σ H vs us Q I r h;obtain⟨e,h⟩:=h;subst e;cases r;exact assignInOrder_nil ⟨σ,H,I,h⟩
theorem aY {e:Expr}{es:List Expr}{t:TG}{u:Nm}(h1:PG X e t)(h2:Ro X es u)
  (hs:(assignEach (e::es) X.env).map (·.2)=assign e X.env::(assignEach es X.env).map (·.2):=by rfl):Ro X (e::es) (Rp t u):=by
 intro pins s σ H vs us Q I r h;obtain⟨v,vr,e1,h⟩:=h;subst e1;cases r with
 | cons r rr=>
  rw[hs];refine assignInOrder_cons (eY (h1 pins s σ H _ _ _ I r h) λ_ s1 ⟨σ1,H1,I1,q1⟩=>?_)
  exact h2 pins s1 σ1 H1 _ _ Q I1 rr q1
def Rr (K:bX)(n:Nat)(t:Nm):TG:=λv σ H Q=>∃a xs,v=.ref a/\k8 K H a xs/\xs.length=n/\t xs σ H Q
theorem Ox {es:List Expr}{k:Nat}{t:Nm}{n:Nat}(hc:X.calm=true)(h:Ro X es t)
  (hn:(assignEach es X.env).length=n:=by rfl) (hst:(assignEach es X.env).findIdx? (·.1)=q?:=by rfl):PG X (.Tuple es k pos) (Rr X.K n t):=by
 intro pins s σ H v u Q I r hw;obtain⟨a,xs,e1,hq,hl,hw⟩:=hw;subst e1;cases r;obtain⟨its,rv,ht,hz⟩:=I.tuple hq;refine assign_Tuple_tuple (I.ok.hd hc) ht (by simp[hn,<- hl,rv.length]) hst λh' hx=>?_
 have I1:Inv X pins σ H { s with heap:=h' }:=I.kept (t':=s.toks) λb o e=>hx b o (Yw (Yl e)) e
 exact h pins _ σ H xs _ Q I1 (by simpa using rv) hw
def UG (to ti:TE)(t:HJ):TG:=λv σ H Q=>to σ H λo H1=>ti σ H1 λi H2=>t o i v H2 λH3=>Q σ H3
theorem Oz {o i:Expr}{to ti:TE}{t:HJ}(ho:PE X o to)(hi:PE X i ti)(hs:Ow X t)
  (ha:∀v,assign (.Subscript o i pos) X.env v=(do
   let ov <- holding [v] (eval o X.env)
   let iv <- holding [v,ov] (eval i X.env)
   standAt pos
   holding [v,ov,iv] (setItem ov iv v)
   release [v,ov,iv] []):=by intro _;rfl):PG X (.Subscript o i pos) (UG to ti t):=by
 intro pins s σ H v u Q I r h;rw[ha];refine B? (wpAny_holding (eY (ho pins s σ H _ I h) λov s1 ⟨x,H1,I1,r1,q1⟩=>?_))
 refine B? (wpAny_holding (eY (hi pins s1 σ H1 _ I1 q1) λiv s2 ⟨y,H2,I2,r2,q2⟩=>?_))
 refine B? (wpAny_standAt (B? (wpAny_holding (eY (hs pins s2 σ H2 x y v ov iv u _ I2 r1 r2 r q2) λ_ s3 ⟨H3,I3,q3⟩=>?_))))
 exact wpAny_release ⟨σ,H3,I3,q3⟩
def LB (te:TE)(g:TG):TS:=λD σ H=>te σ H λx H1=>g x σ H1 D.nx
theorem sW {tg e:Expr}{te:TE}{g:TG}(he:PE X e te)(hg:PG X tg g)(hs:swapsWithSole [tg] e pos.line X.env=pure false:=by rfl)(hw:swappedStores [tg] e X.env=pure q?:=by rfl)
  (h1:(assignEach [tg] X.env).map (·.2)=[assign tg X.env]:=by rfl):PS X (.Assign [tg] e pos) (LB te g):=by
 refine⟨?_⟩
 intro pins s σ H D I h;refine wpAny_Assign_stores (eY (he pins s σ H _ I h) λv s1 ⟨x,H1,I1,r1,q1⟩=>?_) hs hw
 rw[h1];exact eY (hg pins s1 σ H1 x v _ I1 r1 q1) λ_ s2 q=>q
theorem aD {i:Nat}{x:Str}{e:Expr}{te:TE}{pos':Pos}(hN:X.N.Nodup)(hi:X.N[i]?=j? x)(hx:Loc X.env.scope x)(he:PE X e te)(hs:swapsWith e (j? (.Name x pos')) pos.line X.env=pure false:=by rfl)(hf:X.fn x=true\/X.env.scope.names.lookup x=j? .local:=by first|exact .inl rfl|exact .inr rfl|assumption):
  PS X (.Assign [.Name x pos'] e pos) (LB te (iO i)):=by
 refine⟨?_⟩
 intro pins s σ H D I h;refine wpAny_Assign_Name (eY (he pins s σ H _ I h) λv s1 ⟨y,H1,I1,r1,q1⟩=>?_) hs
 exact m9 I1 hN hi hx r1 (λs2 I2=>⟨_,H1,I2,q1⟩) hf
def UH (i j:Nat)(ta:TA):TS:=λD σ H=>ta σ H λvs H1=>∃v w,vs=[v,w]/\D.nx ((σ.set i (j? v)).set j (j? w)) H1
theorem vR {i j:Nat}{x y:Str}{a b:Expr}{ta:TA}{px py pt:Pos}{kt k2 pt2}(hc:X.calm=true)(hN:X.N.Nodup)(hi:X.N[i]?=j? x)(hj:X.N[j]?=j? y)(hij:i≠j)
  (hx:X.env.scope.names.lookup x=j? .local) (hy:X.env.scope.names.lookup y=j? .local) (ha:PA X [a,b] ta)
  (hw:swappedStores [.Tuple [.Name x px,.Name y py] kt pt] (.Tuple [a,b] k2 pt2) X.env=pure (j? [x,y]))
  (hs:swapsWithSole [.Tuple [.Name x px,.Name y py] kt pt] (.Tuple [a,b] k2 pt2) pos.line X.env=pure false:=by rfl):
  PS X (.Assign [.Tuple [.Name x px,.Name y py] kt pt] (.Tuple [a,b] k2 pt2) pos) (UH i j ta):=by
 refine⟨?_⟩
 intro pins s σ H D I h;rw[exec_Assign_arm];refine B? (wpAny_standAt ?_)
 rw[hs];refine B? (J? ?_)
 rw[Jk (by decide)]
 refine B? (Tuple_ (eY (ha _ pins s σ H _ I h) λus s1 ⟨vs,H1,I1,r1,q1⟩=>?_))
 obtain⟨v,w,e1,q1⟩:=q1;subst e1;obtain⟨u1,u2,rfl,rv,rw'⟩:∃u1 u2,us=[u1,u2]/\RelV v u1/\RelV w u2:=by
  cases r1 with
  | cons p q=>
   cases q with
   | cons p' q'=>
    cases q';exact⟨_,_,rfl,p,p'⟩
 refine wpAny_newObj_type ?_ (by show 2<=K?;decide)
 have I2:Inv X pins σ H1 { s1 with heap:=s1.heap.push { cls:=.type "tuple",data:=.seq [u1,u2].toArray } }:=I1.kept (t':=s1.toks) λb o e=>Yh _ e
 rw[hw];refine B? (J? ?_)
 show L? (S? X.prog X.w) X.A (do rule "assign.swapped-stores";let items <- unpackItems (.ref s1.heap.objs.size) 2 q?;assignInOrder [λv=>bindName X.env y v,λv=>bindName X.env x v] items.reverse;pure Flow.next) _ _ _
 refine B? (wpAny_rule (B? (unpackItems_tuple (items:=#[u1,u2]) (I.ok.hd hc) (IsTup.new s1.heap _) λh' hx'=>?_)))
 have I3:=I2.kept (h':=h') (t':=s1.toks) λb o e=>hx' b o (Yw (Yl e)) e
 show L? _ _ (assignInOrder [λv=>bindName X.env y v,λv=>bindName X.env x v] [u2,u1] >>= λ_=>pure Flow.next) _ _ _
 refine B? (assignInOrder_cons (wpAny_bindName (m9 I3 hN hj (.inl hy) rw' (λs2 I4=>?_) (.inr hy))))
 refine assignInOrder_cons (wpAny_bindName (m9 I4 hN hi (.inl hx) rv (λs3 I5=>assignInOrder_nil (J? ?_)) (.inr hx)))
 rw[List.set_comm _ _ (Ne.symm hij)] at I5;exact⟨_,H1,I5,q1⟩
def UI (i:Nat)(te:TE)(ti:QH):TS:=λD σ H=>∃x,σ[i]?=j? (j? x)/\te σ H λy H1=>ti x y H1 λz H2=>D.nx (σ.set i (j? z)) H2
theorem zF {i:Nat}{x:Str}{e:Expr}{te:TE}{op:Operator}{ti:QH}{pos':Pos}(hN:X.N.Nodup)(hi:X.N[i]?=j? x)(hx:Loc X.env.scope x)(he:PE X e te)(ho:TF X op ti)(hf:X.fn x=true\/X.env.scope.names.lookup x=j? .local:=by first|exact .inl rfl|exact .inr rfl|assumption):
  PS X (.AugAssign (.Name x pos') op e pos) (UI i te ti):=by
 refine⟨?_⟩
 intro pins s σ H D I h;obtain⟨v,e1,h⟩:=h;obtain⟨m,hn,hl⟩:=I.loc;have vis:QF X.env.scope x:=by rcases hx with k|k;exact .inl k;exact .inr (.inl k)
 obtain⟨u,r,l⟩:=hl i x v hi e1 vis;refine wpAny_AugAssign_Name ?_
 have go:L? (S? X.prog X.w) X.A (eval e X.env) (λw s₂=>L? (S? X.prog X.w) X.A (inplaceOp op u w) (λr s₃=>L? (S? X.prog X.w) X.A (storeName X.env x r) (λ_=>SP X pins D .next) X.xe s₃) X.xe s₂) X.xe s:=by
  refine eY (he pins s σ H _ I h) λw s1 ⟨y,H1,I1,r1,q1⟩=>?_
  refine eY (ho pins s1 σ H1 v y u w _ I1 r r1 q1) λz s2 ⟨zv,H2,I2,r2,q2⟩=>?_
  exact m9 I2 hN hi hx r2 (λs3 I3=>⟨_,H2,I3,q2⟩) hf
 rcases l with ⟨hk,hm⟩|⟨hk,c,hc,hcell⟩
 ·exact wpAny_loadName_local I.ok.kind hk hn hm go
 ·rcases hk with hk|hk
  ·exact wpAny_loadName_cell I.ok.kind hk hc hcell go
  ·rcases hx with k|k
   ·have:X.env.scope.names.lookup x=j? .free:=hk
    rw[k] at this;cases this
   ·have:X.env.scope.names.lookup x=j? .free:=hk
    rw[k] at this;cases this
def Ru (to ti te:TE)(LC:V->V->Hp->VK->Prop)(TH:QH)(LD:HJ):TS:=λD σ H=>to σ H λo H1=>ti σ H1 λi H2=>LC o i H2 λx H3=>te σ H3 λy H4=>TH x y H4 λz H5=>LD o i z H5 λH6=>D.nx σ H6
def OA (X:Cx)(t:V->V->Hp->VK->Prop):Prop:=
 ∀(pins:List (o?×Obj)) (s:u?) (σ:St) (H:Hp) (o i:V) (ov iv:l?) (Q:VK),Inv X pins σ H s->RelV o ov->RelV i iv->t o i H Q->
  L? (S? X.prog X.w) X.A (getItem ov iv) (EP X pins σ Q) X.xe s
theorem E3 {o i e:Expr}{to ti te:TE}{LC:V->V->Hp->VK->Prop}{TH:QH}{LD:HJ}{op:Operator}{tpos:Pos}(ho:PE X o to)(hi:PE X i ti)(hg:OA X LC)(he:PE X e te)(hp:TF X op TH)(hs:Ow X LD)
  (ha:∀ov iv new,augStore i ov iv new=(do holding [new,ov,iv] (setItem ov iv new);release [new,ov,iv] [];pure .next):=by intros;rfl):PS X (.AugAssign (.Subscript o i tpos) op e pos) (Ru to ti te LC TH LD):=by
 refine⟨?_⟩
 intro pins s σ H D I h;refine wpAny_AugAssign_SubscriptAny (eY (ho pins s σ H _ I h) λov s1 ⟨x1,H1,I1,r1,q1⟩=>?_) ha
 refine eY (hi pins s1 σ H1 _ I1 q1) λiv s2 ⟨x2,H2,I2,r2,q2⟩=>?_
 refine eY (hg pins s2 σ H2 x1 x2 ov iv _ I2 r1 r2 q2) λold s3 ⟨x3,H3,I3,r3,q3⟩=>?_
 refine eY (he pins s3 σ H3 _ I3 q3) λv s4 ⟨x4,H4,I4,r4,q4⟩=>?_
 refine eY (hp pins s4 σ H4 x3 x4 old v _ I4 r3 r4 q4) λnew s5 ⟨x5,H5,I5,r5,q5⟩=>?_
 exact eY (hs pins s5 σ H5 x1 x2 x5 ov iv new _ I5 r1 r2 r5 q5) λ_ s6 ⟨H6,I6,q6⟩=>⟨σ,H6,I6,q6⟩
def Xl (f:Int->Int->Int):QH:=λx y H Q=>∃i j,x=.int i/\y=.int j/\Q (.int (f i j)) H
theorem OB:TF X .Add (Xl λi j=>i+j):=by
 intro pins s σ H x y v u Q I r1 r2 h;obtain⟨i,j,e1,e2,q⟩:=h;subst e1;subst e2;obtain⟨t,rfl⟩:=r1;obtain⟨t',rfl⟩:=r2;exact iadd_int ⟨.int _,H,I.tok _,⟨_,rfl⟩,q⟩
theorem OC:TF X .Sub (Xl λi j=>i-j):=by
 intro pins s σ H x y v u Q I r1 r2 h;obtain⟨i,j,e1,e2,q⟩:=h;subst e1;subst e2;obtain⟨t,rfl⟩:=r1;obtain⟨t',rfl⟩:=r2;exact isub_int ⟨.int _,H,I.tok _,⟨_,rfl⟩,q⟩
end
section
variable {X:Cx} {pos:Pos}
def Dd (c:TT)(tb:TS):TS:=λD σ H=>∃W:Nat->St->Hp->Prop,(∃m,W m σ H)/\∀m σ H,W m σ H->
 c σ H λb H1=>if b=true then ∃N:St->Hp->Prop,(∀σ' H',N σ' H'->∃m',m'<m/\W m' σ' H')/\tb { D with nx:=N,ct:=N,bk:=D.nx } σ H1 else D.nx σ H1
theorem eV {c:Expr}{body:List Q?}{tc:TT}{tb:TS}(hp:PassesOwn (S? X.prog X.w) X.A X.env X.xe)(hc:PT X c tc)(hb:C6 X body tb):PS X (.While c body [] pos) (Dd tc tb):=by
 refine⟨?_⟩
 intro pins s σ H D I h;obtain⟨W,⟨m0,w0⟩,turn⟩:=h;refine wpAny_While (codeAny_whileLoop (λn s'=>∃σ' H',Inv X pins σ' H' s'/\W n σ' H') ?_ m0 ⟨σ,H,I,w0⟩)
 rintro n s1 ⟨σ1,H1,I1,w1⟩;refine wpAny_passesOwn hp (eY (hc pins s1 σ1 H1 _ I1 (turn n σ1 H1 w1)) λb s2 ⟨H2,I2,q2⟩=>?_)
 cases b with
 | true=>
  obtain⟨N,hN,q2⟩:=q2;rw[Jl rfl];refine wpAny_passesOwn hp (eY (hb pins s2 σ1 H2 _ I2 q2) λf s3 q3=>?_)
  cases f with
  | next=>
   obtain⟨σ3,H3,I3,n3⟩:=q3;obtain⟨m',hm,w3⟩:=hN σ3 H3 n3;exact⟨m',hm,σ3,H3,I3,w3⟩
  | cont=>
   obtain⟨σ3,H3,I3,n3⟩:=q3;obtain⟨m',hm,w3⟩:=hN σ3 H3 n3;exact⟨m',hm,σ3,H3,I3,w3⟩
  | brk=>exact q3
  | ret v=>exact q3
 | false=>
  rw[Jk E?];exact wpAny_execs_nil ⟨σ1,H2,I2,q2⟩
end
structure It where
 go:Nat->Hp->Prop
 OD:Nat->Hp->V->Hp->Prop
 stop:Nat->Hp->Prop
def jP (X:Cx)(pins:List (o?×Obj))(H:Hp)(b:o?):Prop:=
 H b=q?/\b≠X.env.locals/\b ∉ X.fs/\(b∈X.ex\/X.s₀.heap.objs.size<=b)/\(∀x c,X.env.cells.lookup x=j? c->c≠b)/\∀p∈X.pn++pins,p.1≠b
theorem Inv.vS {X:Cx}{pins:List (o?×Obj)}{σ:St}{H H':Hp}{s:u?}{b:o?}(I:Inv X pins σ H s)(hb:s.heap.objs.size<=b)(hn:H' b=q?):jP X pins H' b:=by
 refine⟨hn,Nat.ne_of_gt (Yj I.lt hb),I.Uv hb,.inr (Ym I.sz hb),λx c e z=>?_,λp hp z=>?_⟩
 ·obtain⟨v,q⟩:=I.cell x c e
  exact Jr (Yj q.lt (by rw[z];exact hb)) (We _)
 ·exact Jr (Yj (Yl (I.pin p hp).1) (by rw[z];exact hb)) (We _)
structure Turn (P:F?)(w:H?)(K:bX)(tg:Expr)(J:It)(fp:List o?)(it:o?)(tn:Nat->O?->Prop):Prop where
 mem:it∈fp
 obj:∀i h,tn i h->∀b∈fp,∃o,h.get? b=j? o/\∀v,o.data≠.cell v
 keep:∀i h h',tn i h->(∀b∈fp,∀o,h.get? b=j? o->h'.get? b=j? o)->tn i h'
 item:∀(X:Cx),X.prog=P->X.w=w->X.K=K->X.calm=true->∀(i:Nat) (pins:List (o?×Obj)) (s:u?) (σ:St) (H:Hp) (E:l?->u?->Prop),Inv X pins σ H s->(∀b∈fp,jP X pins H b)->tn i s.heap->J.go i H->
  L? (S? P w) X.A (pyNext (.ref it)) (λr s1=>∃u,r=j? u/\
   L? (S? P w) X.A (letOwnedTupleGo tg (.ref it) u) (λ_ s2=>∃x H',Inv X pins σ H' s2/\RelV x u/\J.OD i H x H'/\tn (i+1) s2.heap/\∀b∈fp,H' b=q?) E s1) E s
 done:∀(X:Cx),X.prog=P->X.w=w->X.K=K->X.calm=true->∀(i:Nat) (pins:List (o?×Obj)) (s:u?) (σ:St) (H:Hp) (E:l?->u?->Prop),Inv X pins σ H s->(∀b∈fp,jP X pins H b)->tn i s.heap->J.stop i H->
  L? (S? P w) X.A (pyNext (.ref it)) (λr s1=>r=q?/\Inv X pins σ H s1) E s
 self:∀(A:A!) (i:Nat) (s:u?) (Q:l?->u?->Prop) (E:l?->u?->Prop),tn i s.heap->Q (.ref it) s->L? (S? P w) A (pyIter (.ref it)) Q E s
abbrev TI:=St->Hp->(It->Hp->Prop)->Prop
def Xm (X:Cx)(pins:List (o?×Obj))(σ:St)(tg:Expr)(R:It->Hp->Prop)(itv:l?)(s2:u?):Prop:=
 ∃(it:o?) (fp:List o?) (tn:Nat->O?->Prop) (J:It) (H':Hp),itv=.ref it/\Inv X pins σ H' s2/\Turn X.prog X.w X.K tg J fp it tn/\tn 0 s2.heap/\(∀b∈fp,jP X pins H' b)/\R J H'
def PI (X:Cx)(tg iter:Expr)(wi:TI):Prop:=
 ∀(pins:List (o?×Obj)) (s:u?) (σ:St) (H:Hp) (R:It->Hp->Prop),Inv X pins σ H s->wi σ H R->
  L? (S? X.prog X.w) X.A (eval iter X.env) (λv s1=>L? (S? X.prog X.w) X.A (pyIter v) (Xm X pins σ tg R) X.xe s1) X.xe s
theorem HK {M:Model}{A:A!}{E:l?->u?->Prop}{s:u?}{tg:Expr}{it:o?}{u:l?}{o:Obj}{n:String}{vs:Array l?}{Q:Unit->u?->Prop}(ho:s.heap.get? it=j? o)(hc:o.cls=.type n)(hd:o.data=.fields vs)
    (hn:["enumerate","zip","dict_itemiterator","dict_reverseitemiterator","odict_iterator","itertools.zip_longest","itertools.pairwise"].contains n=false) (hQ:Q () s):L? M A (letOwnedTupleGo tg (.ref it) u) Q E s:=by
  unfold letOwnedTupleGo;cases tg <;> first
    | exact J? hQ
    | (cases u <;> first
        | exact J? hQ
        | (refine B? (wpAny_load ho ?_)
           rw[hc,hd];show L? M A (if (["enumerate","zip","dict_itemiterator","dict_reverseitemiterator","odict_iterator","itertools.zip_longest","itertools.pairwise"].contains n && vs[0]? == j? (rawInt _))=true then _ else _) Q E s
           rw[Jk (by intro h;rw[hn,Bool.false_and] at h;cases h)]
           exact J? hQ))
def OE (K:bX)(a:o?):It:=
 ⟨λi H=>∃xs x,aQ K H a xs/\xs[i]?=j? x,λi H x H'=>H'=H/\∀xs,aQ K H a xs->xs[i]?=j? x,λi H=>∃xs,aQ K H a xs/\xs.length<=i⟩
def LF (lo:Int)(n:Nat):It:=⟨λi _=>i<n,λi H x H'=>H'=H/\x=.int (lo+i),λi _=>n<=i⟩
theorem Gr {P:F?}{w:H?}{K:bX}{tg:Expr}(a it:o?):Turn P w K tg (OE K a) [it] it (λi h=>h.IsListIter it a i) where
 mem:=by simp
 obj:=λi h st b hb=>by
  have e:b=it:=by simpa using hb
  subst e;obtain⟨o,e,c,d⟩:=st;exact⟨o,e,λv z=>by rw[d] at z;cases z⟩
 keep:=λi h h' st k=>st.at λo e=>k it (by simp) o e
 item:=by
  intro X hP hw hK hc i pins s σ H E I hf st hg;subst hP hw hK;obtain⟨xs,x,hq,hx⟩:=hg;obtain⟨its,rv,p,hz⟩:=I.list hq;obtain⟨u,hu,ru⟩:=rv.get hx;obtain⟨f0,f1,f2,f3,f4,f5⟩:=hf it (by simp)
  refine wpAny_pyNext_list_item st p.isList (x:=u) (by simpa using hu) λh' st' sb=>?_
  have I1:Inv X pins σ H { s with heap:=h' }:=I.turned (t':=s.toks) (λb o hb e=>(sb.2 b hb).trans e) f0 f1 f3 f4 f5
  obtain⟨o,e,c,d⟩:=id st';exact⟨u,rfl,HK (s:={ s with heap:=h' }) e c d (by decide) ⟨x,H,I1,ru,⟨rfl,λys hy=>by rw[I.qX hy hq];exact hx⟩,st',λb hb=>(hf b hb).1⟩⟩
 done:=by
  intro X hP hw hK hc i pins s σ H E I hf st hg;subst hP hw hK;obtain⟨xs,hq,hx⟩:=hg;obtain⟨its,rv,p,hz⟩:=I.list hq;obtain⟨f0,f1,f2,f3,f4,f5⟩:=hf it (by simp)
  have hl:=rv.length;exact wpAny_pyNext_list_end (I.ok.hd hc) st p.isList (by simp;omega) λh' eb=>⟨rfl,I.turned (t':=s.toks) (λb o hb e=>eb b o hb e) f0 f1 f3 f4 f5⟩
 self:=λ_ _ _ _ _ st h=>wpAny_pyIter_listiter st h
theorem De {P:F?}{w:H?}{K:bX}{tg:Expr}(it:o?)(lo:Int)(n:Nat):Turn P w K tg (LF lo n) [it] it (λi h=>IsRangeIter h it (lo+(i:Nat)*1) ((n:Int)-(i:Nat)) 1) where
 mem:=by simp
 obj:=λi h st b hb=>by
  have e:b=it:=by simpa using hb
  subst e;exact⟨_,st,λv z=>by
   have z':Data.fields _=Data.cell v:=z;cases z'⟩
 keep:=λi h h' st k=>k it (by simp) _ st
 item:=by
  intro X hP hw hK hc i pins s σ H E I hf st hg;subst hP hw hK;obtain⟨f0,f1,f2,f3,f4,f5⟩:=hf it (by simp)
  have W:=Walks.range (prog:=X.prog) (w:=X.w) (I.ok.hd hc) it lo 1 n;refine W.item i s _ _ hg st λv h' tk hv st' kk=>?_
  obtain⟨t,rfl⟩:=hv;have I1:Inv X pins σ H { s with heap:=h',toks:=tk }:=I.turned (λb o hb e=>kk b o (by simpa using hb) e) f0 f1 f3 f4 f5
  refine⟨_,rfl,HK (s:={ s with heap:=h',toks:=tk }) (n:="range_iterator") st' rfl rfl (by decide) ⟨.int (lo+i),H,I1,⟨t,?_⟩,⟨rfl,rfl⟩,st',λb hb=>(hf b hb).1⟩⟩
  rw[Zx]
 done:=by
  intro X hP hw hK hc i pins s σ H E I hf st hg;subst hP hw hK;obtain⟨f0,f1,f2,f3,f4,f5⟩:=hf it (by simp)
  exact wpAny_pyNext_range_end (I.ok.hd hc) st (by have:n<=i:=hg;omega) λh' eb=>⟨rfl,I.turned (t':=s.toks) (λb o hb e=>eb b o hb e) f0 f1 f3 f4 f5⟩
 self:=λ_ _ _ _ _ st h=>wpAny_pyIter_rangeiter st h
section
variable {X:Cx} {tg:Expr}
def Nn (K:bX)(tl:TE):TI:=λσ H R=>tl σ H λx H1=>∃a,x=.ref a/\(∃xs,aQ K H1 a xs)/\R (OE K a) H1
theorem LG {l:Expr}{tl:TE}(hl:PE X l tl):PI X tg l (Nn X.K tl):=by
 intro pins s σ H R I h;refine eY (hl pins s σ H _ I h) λv s1 ⟨x,H1,I1,r1,q1⟩=>?_
 obtain⟨a,e,⟨xs,hq⟩,q⟩:=q1;subst e;cases r1;obtain⟨its,rv,p,hz⟩:=I1.list hq;refine wpAny_pyIter_list p.isList ?_
 refine⟨s1.heap.objs.size,[s1.heap.objs.size],_,_,H1,rfl,I1.kept (t':=s1.toks) λb o e=>Yh _ e,Gr a _,⟨_,Y9 _ rfl,rfl,rfl⟩,λb hb=>?_,q⟩
 have e:b=s1.heap.objs.size:=by simpa using hb
 subst e;exact I1.vS (Yd _) (I1.hok.fresh (Yd _))
theorem Bk {pins:List (o?×Obj)}{σ:St}{H:Hp}{s:u?}{R:It->Hp->Prop}{E:l?->u?->Prop}{lo hi:Int}{t u v:Tok}{tk:Nat}(I:Inv X pins σ H s)(h1:-(2 ^ 62)<=lo)(h2:lo<2 ^ 62)(h3:-(2 ^ 62)<=hi)(h4:hi<2 ^ 62)
  (q:R (LF lo (hi-lo).toNat) H):L? (S? X.prog X.w) X.A (pyIter (.ref s.heap.objs.size)) (Xm X pins σ tg R) E { s with heap:=s.heap.push { cls:=.type "range",data:=.fields #[.int lo t,.int hi u,.int 1 v] },toks:=tk }:=by
 refine wpAny_pyIter_range (IsRange.new ..) (small_one h1 h2 h3 h4) ?_
 have I1:Inv X pins σ H { s with heap:=s.heap.push { cls:=.type "range",data:=.fields #[.int lo t,.int hi u,.int 1 v] },toks:=tk }:=I.kept λb o e=>Yh _ e
 refine⟨(s.heap.push { cls:=.type "range",data:=.fields #[.int lo t,.int hi u,.int 1 v] }).objs.size,[(s.heap.push { cls:=.type "range",data:=.fields #[.int lo t,.int hi u,.int 1 v] }).objs.size],_,_,H,rfl,
  I1.kept (t':=tk) λb o e=>Yh _ e,De _ lo (hi-lo).toNat,?_,λb hb=>?_,q⟩
 ·have e1:lo+((0:Nat):Int)*1=lo:=by simp
  have e2:(((hi-lo).toNat:Nat):Int)-((0:Nat):Int)=Builtin.Range.rangeSize lo hi 1:=by rw[rangeSize_one];split <;> omega
  show IsRangeIter _ _ (lo+((0:Nat):Int)*1) ((((hi-lo).toNat:Nat):Int)-((0:Nat):Int)) 1
  rw[e1,e2];exact Y9 _ rfl
 ·have e:b=(s.heap.push { cls:=.type "range",data:=.fields #[.int lo t,.int hi u,.int 1 v] }).objs.size:=by simpa using hb
  subst e;exact I1.vS (Yd _) (I1.hok.fresh (Yd _))
def Rv (ta:TA):TI:=λσ H R=>ta σ H λvs H1=>∃j:Int,vs=[.int j]/\-(2 ^ 62)<=j/\j<2 ^ 62/\R (LF 0 j.toNat) H1
def Rx (ta:TA):TI:=λσ H R=>ta σ H λvs H1=>∃i j:Int,vs=[.int i,.int j]/\(-(2 ^ 62)<=i/\i<2 ^ 62/\-(2 ^ 62)<=j/\j<2 ^ 62)/\R (LF i (j-i).toNat) H1
theorem bU {a:Expr}{ta:TA}{p pos:Pos}(hg:Gl X "range")(hm:X.mg "range"=q?)(ha:PA X [a] ta)(hs:I? [a] X.env=[(false,eval a X.env)]:=by rfl):PI X tg (.Call (.Name "range" p) [a] [] pos) (Rv ta):=by
 intro pins s σ H R I h;refine Call_ (j4 I hg hm boot_range (L! (eY (ha pos pins s σ H _ I h) λus s1 ⟨vs,H1,I1,r1,q1⟩=>?_) hs rfl))
 obtain⟨j,e,q1,q2,q⟩:=q1;subst e;cases r1 with
 | cons r rr=>
  cases rr;obtain⟨t,rfl⟩:=r;exact call_range_1 (Bk I1 (by omega) (by omega) q1 q2 (by simpa using q))
theorem yG {a b:Expr}{ta:TA}{p pos:Pos}(hg:Gl X "range")(hm:X.mg "range"=q?)(ha:PA X [a,b] ta)(hs:I? [a,b] X.env=[(false,eval a X.env),(false,eval b X.env)]:=by rfl)(hs2:I? [b] X.env=[(false,eval b X.env)]:=by rfl):
  PI X tg (.Call (.Name "range" p) [a,b] [] pos) (Rx ta):=by
 intro pins s σ H R I h;refine Call_ (j4 I hg hm boot_range (L! (eY (ha pos pins s σ H _ I h) λus s1 ⟨vs,H1,I1,r1,q1⟩=>?_) (by rw[hs,hs2]) (by rw[hs2];rfl)))
 obtain⟨i,j,e,⟨q1,q2,q3,q4⟩,q⟩:=q1;subst e;cases r1 with
 | cons r rr=>
  cases rr with
  | cons r' rr=>
   cases rr;obtain⟨t,rfl⟩:=r;obtain⟨t',rfl⟩:=r';exact call_range_2 (Bk I1 q1 q2 q3 q4 q)
def UJ (wi:TI)(g:TG)(tb:TS):TS:=λD σ H=>wi σ H λJ H1=>∃W:Nat->Nat->St->Hp->Prop,(∃m,W 0 m σ H1)/\∀i m σ H,W i m σ H->
 (J.stop i H/\D.nx σ H)\/(J.go i H/\∃N:St->Hp->Prop,(∀σ' H',N σ' H'->∃m',m'<m/\W (i+1) m' σ' H')/\∀x H',J.OD i H x H'->g x σ H' λσ2 H2=>tb { D with nx:=N,ct:=N,bk:=D.nx } σ2 H2)
def sX (fp:List o?)(h:O?):List (o?×Obj):=fp.filterMap λb=>(h.get? b).map λo=>(b,o)
theorem fq {fp:List o?}{h:O?}{b:o?}{o:Obj}(hb:b∈fp)(e:h.get? b=j? o):(b,o)∈sX fp h:=List.mem_filterMap.mpr ⟨b,hb,by rw[e];rfl⟩
theorem Gs {fp:List o?}{h:O?}{p:o?×Obj}(hp:p∈sX fp h):p.1∈fp/\h.get? p.1=j? p.2:=by
 obtain⟨b,hb,e⟩:=List.mem_filterMap.mp hp;cases q:h.get? b with
 | none=>rw[q] at e;cases e
 | some o=>
  rw[q] at e;have e':(b,o)=p:=M? e;subst e';exact⟨hb,q⟩
theorem Inv.pinned {pins:List (o?×Obj)}{σ:St}{H:Hp}{s:u?}{fp:List o?}(I:Inv X pins σ H s)(hf:∀b∈fp,jP X pins H b)(ho:∀b∈fp,∃o,s.heap.get? b=j? o/\∀v,o.data≠.cell v):Inv X (pins++sX fp s.heap) σ H s:=
 I.EX λp hp=>(List.mem_append.mp hp).elim (λz=>I.pin p (Yv _ z)) λz=>by
  obtain⟨hb,e⟩:=Gs z;obtain⟨f0,f1,f2,_⟩:=hf p.1 hb;obtain⟨o,e',d⟩:=ho p.1 hb;rw[e] at e';cases e';exact⟨e,f0,f1,f2,d⟩
theorem Inv.kH {pins pl:List (o?×Obj)}{σ:St}{H:Hp}{s:u?}(I:Inv X (pins++pl) σ H s):Inv X pins σ H s:=I.EX λp hp=>I.pin p (Yv _ (List.mem_append_left _ hp))
theorem cU {iter:Expr}{body:List Q?}{wi:TI}{g:TG}{tb:TS}{pos:Pos}(hp:PassesOwn (S? X.prog X.w) X.A X.env X.xe)(hc:X.calm=true)(hi:PI X tg iter wi)(hg:PG X tg g)(hb:C6 X body tb)
  (hs:∀x,foldedSetIterable iter X.env x=pure x:=by intro _;rfl):PS X (.For tg iter body [] pos) (UJ wi g tb):=by
 refine⟨?_⟩
 intro pins s σ H D I h;refine wpAny_For (eY (hi pins s σ H _ I h) λv s1 h1=>eY h1 λitv s2 h2=>?_) hs
 obtain⟨it,fp,tn,J,H2,e,I2,T,st2,f2,W,⟨m0,w0⟩,turn⟩:=h2;subst e;have vU:∀ {H':Hp},(∀b∈fp,H' b=q?)->∀b∈fp,jP X pins H' b:=λhn b hb=>⟨hn b hb,(f2 b hb).2⟩
 refine codeAny_forLoop_any (λn s'=>∃i σ' H',Inv X pins σ' H' s'/\tn i s'.heap/\(∀b∈fp,H' b=q?)/\W i n σ' H') ?_ m0 ⟨0,σ,H2,I2,st2,λb hb=>(f2 b hb).1,w0⟩
 rintro n s3 ⟨i,σ3,H3,I3,st3,Np,w3⟩;rcases turn i n σ3 H3 w3 with ⟨stop,qn⟩|⟨go,N,hN,step⟩
 ·refine wpAny_passesOwn hp (eY (T.done X rfl rfl rfl hc i pins s3 σ3 H3 X.xe I3 (vU Np) st3 stop) λr s4 ⟨hr,I4⟩=>?_)
  subst hr;exact wpAny_execs_nil ⟨σ3,H3,I4,qn⟩
 ·refine wpAny_passesOwn hp (eY (T.item X rfl rfl rfl hc i pins s3 σ3 H3 X.xe I3 (vU Np) st3 go) λr s4 ⟨u,hr,h4⟩=>?_)
  subst hr;refine wpAny_passesOwn hp (eY h4 λ_ s5 ⟨x,H5,I5,r5,y5,HL,Ry⟩=>?_)
  have Rz:=I5.pinned (vU Ry) (T.obj _ _ HL);refine wpAny_passesOwn hp (eY (hg _ s5 σ3 H5 x u _ Rz r5 (step x H5 y5)) λ_ s6 ⟨σ6,H6,I6,q6⟩=>?_)
  refine wpAny_passesOwn hp (eY (hb _ s6 σ6 H6 _ I6 q6) λf s7 q7=>?_)
  have again:∀ {σ7:St} {H7:Hp},Inv X (pins++sX fp s5.heap) σ7 H7 s7->N σ7 H7->∃m,m<n/\∃i σ' H',Inv X pins σ' H' s7/\tn i s7.heap/\(∀b∈fp,H' b=q?)/\W i m σ' H':=λ{σ7 H7} I7 n7=>by
   obtain⟨m',hm,w7⟩:=hN σ7 H7 n7;refine⟨m',hm,i+1,σ7,H7,I7.kH,T.keep _ _ _ HL λb hb o e=>(I7.pin (b,o) (Yv _ (Yv _ (fq hb e)))).1,λb hb=>?_,w7⟩
   obtain⟨o,e,d⟩:=T.obj _ _ HL b hb;exact(I7.pin (b,o) (Yv _ (Yv _ (fq hb e)))).2.1
  cases f with
  | next=>obtain⟨σ7,H7,I7,n7⟩:=q7;exact again I7 n7
  | cont=>obtain⟨σ7,H7,I7,n7⟩:=q7;exact again I7 n7
  | brk=>obtain⟨σ7,H7,I7,q7⟩:=q7;exact⟨σ7,H7,I7.kH,q7⟩
  | ret v=>obtain⟨x7,σ7,H7,I7,r7,q7⟩:=q7;exact⟨x7,σ7,H7,I7.kH,r7,q7⟩
end
theorem nh {K:bX}{a:o?}{xs:List V}{g:TG}{tb:TS}{D:Ends}{σ:St}{H:Hp}(Pv:Nat->St->Hp->Prop)(h0:Pv 0 σ H)(hl:∀i σ H,i<=xs.length->Pv i σ H->aQ K H a xs)
  (hs:∀i x σ H,xs[i]?=j? x->Pv i σ H->g x σ H λσ2 H2=>tb { D with nx:=Pv (i+1),ct:=Pv (i+1),bk:=D.nx } σ2 H2) (hd:∀σ H,Pv xs.length σ H->D.nx σ H):
  ∃W:Nat->Nat->St->Hp->Prop,(∃m,W 0 m σ H)/\∀i m σ H,W i m σ H->
   ((OE K a).stop i H/\D.nx σ H)\/((OE K a).go i H/\∃N:St->Hp->Prop,(∀σ' H',N σ' H'->∃m',m'<m/\W (i+1) m' σ' H')/\∀x H',(OE K a).OD i H x H'->g x σ H' λσ2 H2=>tb { D with nx:=N,ct:=N,bk:=D.nx } σ2 H2):=by
 refine⟨λi m σ H=>m=xs.length-i/\i<=xs.length/\Pv i σ H,⟨xs.length,by simp,Y5 _,h0⟩,?_⟩
 rintro i m σ H ⟨rfl,hi,p⟩;have q:=hl i σ H hi p;by_cases hlt:i<xs.length
 ·refine .inr ⟨⟨xs,xs[i],q,by simp[hlt]⟩,Pv (i+1),λσ' H' p'=>⟨xs.length-(i+1),by omega,rfl,hlt,p'⟩,λx H' y=>?_⟩
  obtain⟨e,y⟩:=y;subst e;exact hs i x σ _ (y xs q) p
 ·have e:i=xs.length:=by omega
  subst e;exact .inl ⟨⟨xs,q,Yd _⟩,hd σ H p⟩
theorem dO {lo:Int}{n:Nat}{g:TG}{tb:TS}{D:Ends}{σ:St}{H:Hp}(Pv:Nat->St->Hp->Prop)(h0:Pv 0 σ H)
  (hs:∀i σ H,i<n->Pv i σ H->g (.int (lo+i)) σ H λσ2 H2=>tb { D with nx:=Pv (i+1),ct:=Pv (i+1),bk:=D.nx } σ2 H2) (hd:∀σ H,Pv n σ H->D.nx σ H):
  ∃W:Nat->Nat->St->Hp->Prop,(∃m,W 0 m σ H)/\∀i m σ H,W i m σ H->
   ((LF lo n).stop i H/\D.nx σ H)\/((LF lo n).go i H/\∃N:St->Hp->Prop,(∀σ' H',N σ' H'->∃m',m'<m/\W (i+1) m' σ' H')/\∀x H',(LF lo n).OD i H x H'->g x σ H' λσ2 H2=>tb { D with nx:=N,ct:=N,bk:=D.nx } σ2 H2):=by
 refine⟨λi m σ H=>m=n-i/\i<=n/\Pv i σ H,⟨n,by simp,Y5 _,h0⟩,?_⟩
 rintro i m σ H ⟨rfl,hi,p⟩;by_cases hlt:i<n
 ·refine .inr ⟨hlt,Pv (i+1),λσ' H' p'=>⟨n-(i+1),by omega,rfl,hlt,p'⟩,λx H' y=>?_⟩
  obtain⟨e,y⟩:=y;subst e y;exact hs i σ _ hlt p
 ·have e:i=n:=by omega
  subst e;exact .inl ⟨Yd _,hd σ H p⟩
theorem ni {c:TT}{tb:TS}{D:Ends}{σ:St}{H:Hp}(Pv:St->Hp->Prop)(μ:St->Hp->Nat)(h0:Pv σ H)
  (hs:∀σ H,Pv σ H->c σ H λb H1=>if b=true then tb { D with nx:=λσ' H'=>Pv σ' H'/\μ σ' H'<μ σ H,ct:=λσ' H'=>Pv σ' H'/\μ σ' H'<μ σ H,bk:=D.nx } σ H1 else D.nx σ H1)
  (mono:∀σ H Q Q',(∀b H1,Q b H1->Q' b H1)->c σ H Q->c σ H Q'):Dd c tb D σ H:=by
 refine⟨λm σ H=>m=μ σ H/\Pv σ H,⟨_,rfl,h0⟩,?_⟩
 rintro m σ H ⟨rfl,p⟩;refine mono σ H _ _ (λb H1 q=>?_) (hs σ H p)
 cases b with
 | true=>exact⟨_,λσ' H' ⟨p',l⟩=>⟨_,l,rfl,p'⟩,q⟩
 | false=>exact q
abbrev R2:=V->V->Hp->VK->Prop
def pQ (X:Cx)(f:l?->l?->Sem l?)(r:R2):Prop:=
 ∀(pins:List (o?×Obj)) (s:u?) (σ:St) (H:Hp) (x y:V) (v u:l?) (Q:VK),Inv X pins σ H s->RelV x v->RelV y u->r x y H Q->
  L? (S? X.prog X.w) X.A (f v u) (EP X pins σ Q) X.xe s
def UK (X:Cx)(f:l?->Sem l?)(r:V->Hp->VK->Prop):Prop:=
 ∀(pins:List (o?×Obj)) (s:u?) (σ:St) (H:Hp) (x:V) (v:l?) (Q:VK),Inv X pins σ H s->RelV x v->r x H Q->
  L? (S? X.prog X.w) X.A (f v) (EP X pins σ Q) X.xe s
def nj (X:Cx)(f:l?)(r:List V->Hp->VK->Prop):Prop:=
 ∀(pins:List (o?×Obj)) (s:u?) (σ:St) (H:Hp) (xs:List V) (us:List l?) (Q:VK),Inv X pins σ H s->Vals xs us->r xs H Q->
  L? (S? X.prog X.w) X.A (call f us) (EP X pins σ Q) X.xe s
def TJ (r:R2)(ta tb:TE):TE:=λσ H Q=>ta σ H λx H1=>tb σ H1 λy H2=>r x y H2 Q
def tUn (r:V->Hp->VK->Prop)(ta:TE):TE:=λσ H Q=>ta σ H λx H1=>r x H1 Q
def rI (C:Int->Int->Prop)(g:Int->Int->V):R2:=λx y H Q=>∃i j,x=.int i/\y=.int j/\C i j/\Q (g i j) H
def Lp (g:Int->Int->V):R2:=λx y H Q=>∃i j,x=.int i/\y=.int j/\Q (g i j) H
def rU (g:Int->V):V->Hp->VK->Prop:=λx H Q=>∃i,x=.int i/\Q (g i) H
section
variable {X:Cx} {a b c:Expr} {ta tb tc:TE} {pos:Pos}
theorem OF (ha:PE X a ta)(hb:PE X b tb){pins:List (o?×Obj)}{s:u?}{σ:St}{H:Hp}{R:V->V->Hp->Prop}(I:Inv X pins σ H s)
  (h:ta σ H λx H1=>tb σ H1 λy H2=>R x y H2) {Q:l?->u?->Prop} {f:l?->l?->Sem l?}
  (hf:∀v u s2 x y H2,Inv X pins σ H2 s2->RelV x v->RelV y u->R x y H2->L? (S? X.prog X.w) X.A (f v u) Q X.xe s2):
  L? (S? X.prog X.w) X.A (eval a X.env) (λv s₁=>L? (S? X.prog X.w) X.A (eval b X.env) (λu s₂=>L? (S? X.prog X.w) X.A (f v u) Q X.xe s₂) X.xe s₁) X.xe s:=by
 refine eY (ha pins s σ H _ I h) λv s1 ⟨x,H1,I1,r1,q1⟩=>?_
 refine eY (hb pins s1 σ H1 _ I1 q1) λu s2 ⟨y,H2,I2,r2,q2⟩=>?_
 exact hf v u s2 x y H2 I2 r1 r2 q2
theorem au {op:Operator}{r:R2}(ho:pQ X (binaryOp op) r)(ha:PE X a ta)(hb:PE X b tb):PE X (.BinOp a op b pos) (TJ r ta tb):=by
 refine⟨?_⟩
 intro pins s σ H Q I h;exact wpAny_BinOp (OF ha hb I h λv u s2 x y H2 I2 rx ry q=>ho pins s2 σ H2 x y v u Q I2 rx ry q)
theorem yH {op:UnaryOp}{r:V->Hp->VK->Prop}(ho:UK X (unaryOp op) r)(ha:PE X a ta):PE X (.UnaryOp op a pos) (tUn r ta):=by
 refine⟨?_⟩
 intro pins s σ H Q I h;exact UnaryOp_ (eY (ha pins s σ H _ I h) λv s1 ⟨x,H1,I1,r1,q1⟩=>ho pins s1 σ H1 x v Q I1 r1 q1)
theorem TL {f:l?->l?->Sem l?}{C:Int->Int->Prop}{g:Int->Int->Int}
  (rule:∀(i j:Int) (t u:Tok) (s:u?) (Q:l?->u?->Prop) (E:l?->u?->Prop),C i j->Q (.int (g i j) s.toks) { s with toks:=s.toks+1 }->L? (S? X.prog X.w) X.A (f (.int i t) (.int j u)) Q E s):
  pQ X f (rI C λi j=>.int (g i j)):=by
 intro pins s σ H x y v u Q I rx ry h;obtain⟨i,j,rfl,rfl,hc,q⟩:=h;obtain⟨t,rfl⟩:=rx;obtain⟨t',rfl⟩:=ry;exact rule i j t t' s _ _ hc ⟨.int (g i j),H,I.tok _,⟨_,rfl⟩,q⟩
theorem LH {f:l?->l?->Sem l?}{g:Int->Int->Int}
  (rule:∀(i j:Int) (t u:Tok) (s:u?) (Q:l?->u?->Prop) (E:l?->u?->Prop),Q (.int (g i j) s.toks) { s with toks:=s.toks+1 }->L? (S? X.prog X.w) X.A (f (.int i t) (.int j u)) Q E s):
  pQ X f (Lp λi j=>.int (g i j)):=by
 intro pins s σ H x y v u Q I rx ry h;obtain⟨i,j,rfl,rfl,q⟩:=h;obtain⟨t,rfl⟩:=rx;obtain⟨t',rfl⟩:=ry;exact rule i j t t' s _ _ ⟨.int (g i j),H,I.tok _,⟨_,rfl⟩,q⟩
theorem LI {f:l?->l?->Sem l?}{g:Int->Int->Bool}
  (rule:∀(i j:Int) (t u:Tok) (s:u?) (Q:l?->u?->Prop) (E:l?->u?->Prop),Q (.bool (g i j)) s->L? (S? X.prog X.w) X.A (f (.int i t) (.int j u)) Q E s):
  pQ X f (Lp λi j=>.bl (g i j)):=by
 intro pins s σ H x y v u Q I rx ry h;obtain⟨i,j,rfl,rfl,q⟩:=h;obtain⟨t,rfl⟩:=rx;obtain⟨t',rfl⟩:=ry;exact rule i j t t' s _ _ ⟨.bl (g i j),H,I,rfl,q⟩
def OG (i j:Int):Prop:=0<=j/\j<=1000000/\i.natAbs<2 ^ 64
theorem b8:pQ X (binaryOp .Add) (Lp λi j=>.int (i+j)):=LH λ_ _ _ _ _ _ _ q=>add_int q
theorem bY:pQ X (binaryOp .Sub) (Lp λi j=>.int (i-j)):=LH λ_ _ _ _ _ _ _ q=>sub_int q
theorem bw:pQ X (binaryOp .Mod) (rI (λ_ j=>j≠0) λi j=>.int (i.fmod j)):=TL λ_ _ _ _ _ _ _ hc q=>mod_int' hc q
theorem zG:pQ X (binaryOp .Pow) (rI OG λi j=>.int (i ^ j.toNat)):=TL λ_ _ _ _ _ _ _ hc q=>pow_int_small hc.1 hc.2.1 hc.2.2 q
theorem zH:pQ X (inplaceOp .Add) (Lp λi j=>.int (i+j)):=LH λ_ _ _ _ _ _ _ q=>iadd_int q
theorem LJ:pQ X (inplaceOp .Sub) (Lp λi j=>.int (i-j)):=LH λ_ _ _ _ _ _ _ q=>isub_int q
theorem unI {f:l?->Sem l?}{g:Int->Int}
  (rule:∀(i:Int) (t:Tok) (s:u?) (Q:l?->u?->Prop) (E:l?->u?->Prop),Q (.int (g i) s.toks) { s with toks:=s.toks+1 }->L? (S? X.prog X.w) X.A (f (.int i t)) Q E s):
  UK X f (rU λi=>.int (g i)):=by
 intro pins s σ H x v Q I rx h;obtain⟨i,rfl,q⟩:=h;obtain⟨t,rfl⟩:=rx;exact rule i t s _ _ ⟨.int (g i),H,I.tok _,⟨_,rfl⟩,q⟩
theorem sY:UK X (unaryOp .USub) (rU λi=>.int (-i)):=unI λ_ _ _ _ _ q=>neg_int q
end
def OH:V->V->Bool
 | .fm,.fm=>true | .fm,.int _=>true | .int _,.fm=>true | .fm,.bl _=>true | .bl _,.fm=>true | .fm,.str _=>true | .str _,.fm=>true
 | .int _,.int _=>true | .bl _,.bl _=>true | .str _,.str _=>true | .byt _,.byt _=>true
 | .int _,.str _=>true | .str _,.int _=>true | .bl _,.str _=>true | .str _,.bl _=>true
 | _,_=>false
def rEq:R2:=λx y H Q=>OH x y=true/\Q (.bl (decide (x=y))) H
def rNe:R2:=λx y H Q=>OH x y=true/\Q (.bl (!decide (x=y))) H
theorem E4 {i j:Int}:decide (V.int i=V.int j)=(i == j):=by
 rw[Bool.eq_iff_iff];simp
theorem HN {i j:Bool}:decide (V.bl i=V.bl j)=(i == j):=by
 rw[Bool.eq_iff_iff];simp
theorem E5 {i j:Str}:decide (V.str i=V.str j)=(i == j):=by
 rw[Bool.eq_iff_iff];simp
theorem E6 {i j:Array UInt8}:decide (V.byt i=V.byt j)=(i.toList == j.toList):=by
 rw[Bool.eq_iff_iff];cases i;cases j;simp
section
variable {X:Cx} {a b c:Expr} {ta tb tc:TE} {pos:Pos}
theorem cu {pins:List (o?×Obj)}{σ:St}{H:Hp}{s:u?}{Q:VK}{k k':Bool}(I:Inv X pins σ H s)(q:Q (.bl k) H)(e:k=k'):EP X pins σ Q (.bool k') s:=by
 subst e;exact⟨.bl k,H,I,rfl,q⟩
theorem iP:pQ X (J! .Eq) rEq:=by
 intro pins s σ H x y v u Q I rx ry h;obtain⟨hs,q⟩:=h;cases x with
 | fm=>
  cases rx;cases y with
  | fm=>cases ry;exact PySem.EqNone.eq_none_none (cu I q (by simp))
  | bl j=>cases ry;exact PySem.EqNone.eq_none_bool (cu I q (by simp))
  | int j=>obtain⟨t',rfl⟩:=ry;exact PySem.EqNone.eq_none_int (cu I q (by simp))
  | str j=>obtain⟨t',rfl⟩:=ry;exact PySem.EqNone.eq_none_str (cu I q (by simp))
  | _=>exact Jr (show false=true from hs) E?
 | bl i=>
  cases rx;cases y with
  | fm=>cases ry;exact PySem.EqNone.eq_bool_none (cu I q (by simp))
  | bl j=>cases ry;exact eq_bool (cu I q HN)
  | str j=>obtain⟨t',rfl⟩:=ry;exact PySem.EqMixed.eq_bool_str (cu I q (by simp))
  | _=>exact Jr (show false=true from hs) E?
 | int i=>
  obtain⟨t,rfl⟩:=rx;cases y with
  | fm=>cases ry;exact PySem.EqNone.eq_int_none (cu I q (by simp))
  | int j=>obtain⟨t',rfl⟩:=ry;exact eq_int (cu I q E4)
  | str j=>obtain⟨t',rfl⟩:=ry;exact PySem.EqMixed.eq_int_str (cu I q (by simp))
  | _=>exact Jr (show false=true from hs) E?
 | str i=>
  obtain⟨t,rfl⟩:=rx;cases y with
  | fm=>cases ry;exact PySem.EqNone.eq_str_none (cu I q (by simp))
  | bl j=>cases ry;exact PySem.EqMixed.eq_str_bool (cu I q (by simp))
  | int j=>obtain⟨t',rfl⟩:=ry;exact PySem.EqMixed.eq_str_int (cu I q (by simp))
  | str j=>obtain⟨t',rfl⟩:=ry;exact eq_str (cu I q E5)
  | _=>exact Jr (show false=true from hs) E?
 | byt i=>
  obtain⟨t,rfl⟩:=rx;cases y with
  | byt j=>obtain⟨t',rfl⟩:=ry;exact PySem.W.eq_bytes (cu I q E6)
  | _=>exact Jr (show false=true from hs) E?
 | _=>cases y <;> exact Jr (show false=true from hs) E?
theorem uI:pQ X (J! .NotEq) rNe:=by
 intro pins s σ H x y v u Q I rx ry h;obtain⟨hs,q⟩:=h;cases x with
 | fm=>
  cases rx;cases y with
  | fm=>cases ry;exact PySem.EqNone.ne_none_none (cu I q (by simp))
  | bl j=>cases ry;exact PySem.EqNone.ne_none_bool (cu I q (by simp))
  | int j=>obtain⟨t',rfl⟩:=ry;exact PySem.EqNone.ne_none_int (cu I q (by simp))
  | str j=>obtain⟨t',rfl⟩:=ry;exact PySem.EqNone.ne_none_str (cu I q (by simp))
  | _=>exact Jr (show false=true from hs) E?
 | bl i=>
  cases rx;cases y with
  | fm=>cases ry;exact PySem.EqNone.ne_bool_none (cu I q (by simp))
  | bl j=>cases ry;exact ne_bool (cu I q (Jp not HN))
  | str j=>obtain⟨t',rfl⟩:=ry;exact PySem.EqMixed.ne_bool_str (cu I q (by simp))
  | _=>exact Jr (show false=true from hs) E?
 | int i=>
  obtain⟨t,rfl⟩:=rx;cases y with
  | fm=>cases ry;exact PySem.EqNone.ne_int_none (cu I q (by simp))
  | int j=>obtain⟨t',rfl⟩:=ry;exact ne_int (cu I q (Jp not E4))
  | str j=>obtain⟨t',rfl⟩:=ry;exact PySem.EqMixed.ne_int_str (cu I q (by simp))
  | _=>exact Jr (show false=true from hs) E?
 | str i=>
  obtain⟨t,rfl⟩:=rx;cases y with
  | fm=>cases ry;exact PySem.EqNone.ne_str_none (cu I q (by simp))
  | bl j=>cases ry;exact PySem.EqMixed.ne_str_bool (cu I q (by simp))
  | int j=>obtain⟨t',rfl⟩:=ry;exact PySem.EqMixed.ne_str_int (cu I q (by simp))
  | str j=>obtain⟨t',rfl⟩:=ry;exact ne_str (cu I q (Jp not E5))
  | _=>exact Jr (show false=true from hs) E?
 | byt i=>
  obtain⟨t,rfl⟩:=rx;cases y with
  | byt j=>obtain⟨t',rfl⟩:=ry;exact PySem.W.ne_bytes (cu I q (Jp not E6))
  | _=>exact Jr (show false=true from hs) E?
 | _=>cases y <;> exact Jr (show false=true from hs) E?
theorem E7:pQ X (J! .Lt) (Lp λi j=>.bl (decide (i<j))):=LI λ_ _ _ _ _ _ _ q=>lt_int q
theorem Nq:pQ X (J! .LtE) (Lp λi j=>.bl (decide (i<=j))):=LI λ_ _ _ _ _ _ _ q=>le_int q
theorem yI:pQ X (J! .Gt) (Lp λi j=>.bl (decide (j<i))):=LI λ_ _ _ _ _ _ _ q=>gt_int q
theorem RA:pQ X (J! .GtE) (Lp λi j=>.bl (decide (j<=i))):=LI λ_ _ _ _ _ _ _ q=>ge_int q
theorem bC (b:Expr){op:CmpOp}(h:op≠.In:=by decide)(h2:op≠.NotIn:=by decide):behindInMarks op b=false:=by
 have e1:(op == CmpOp.In)=false:=by cases op <;> first|rfl|exact Jr rfl h
 have e2:(op == CmpOp.NotIn)=false:=by cases op <;> first|rfl|exact Jr rfl h2
 cases b <;> simp[behindInMarks,e1,e2]
theorem k_ {op:CmpOp}{r:R2}(ho:pQ X (J! op) r)(ha:PE X a ta)(hb:PE X b tb)(hm:behindInMarks op b=false):PE X (.Compare a [op] [b] pos) (TJ r ta tb):=by
 refine⟨?_⟩
 intro pins s σ H Q I h;exact wpAny_Compare1 (OF ha hb I h λv u s2 x y H2 I2 rx ry q=>ho pins s2 σ H2 x y v u Q I2 rx ry q) hm
def RB (t:TE):TT:=λσ H Q=>t σ H λx H'=>∃k,x=.bl k/\Q k H'
theorem aX {op:CmpOp}{r:R2}(ho:pQ X (J! op) r)(ha:PE X a ta)(hb:PE X b tb)(hm:behindInMarks op b=false):PT X (.Compare a [op] [b] pos) (RB (TJ r ta tb)):=by
 refine⟨?_⟩
 intro pins s σ H Q I h;refine wpAny_isTrue_Compare1 (eY (ha pins s σ H _ I h) λv s1 ⟨x,H1,I1,r1,q1⟩=>eY (hb pins s1 σ H1 _ I1 q1) λu s2 ⟨y,H2,I2,r2,q2⟩=>
  eY (ho pins s2 σ H2 x y v u _ I2 r1 r2 q2) λc s3 ⟨z,H3,I3,r3,k,e,q3⟩=>?_) hm
 subst e;cases r3;exact wpAny_truthy_bool ⟨H3,I3,q3⟩
def OI (r r':R2)(ta tb tc:TE):TE:=λσ H Q=>ta σ H λx H1=>tb σ H1 λy H2=>r x y H2 λz H3=>∃k,z=.bl k/\
 (if k=true then tc σ H3 λw' H4=>r' y w' H4 Q else Q (.bl false) H3)
theorem HP {op op':CmpOp}{r r':R2}(ho:pQ X (J! op) r)(ho':pQ X (J! op') r')(ha:PE X a ta)(hb:PE X b tb)(hc:PE X c tc)
  (hm:lastMarks [op,op'] [b,c]=false:=by with_unfolding_all rfl):PE X (.Compare a [op,op'] [b,c] pos) (OI r r' ta tb tc):=by
 refine⟨?_⟩
 intro pins s σ H Q I h;refine Compare_chain (eY (ha pins s σ H _ I h) λv s1 ⟨x,H1,I1,r1,q1⟩=>chain_link (eY (hb pins s1 σ H1 _ I1 q1) λu s2 ⟨y,H2,I2,r2,q2⟩=>
  eY (ho pins s2 σ H2 x y v u _ I2 r1 r2 q2) λd s3 ⟨z,H3,I3,r3,k,e,q3⟩=>?_)) hm
 subst e;cases r3;refine wpAny_truthy_bool ?_
 cases k with
 | false=>exact ite_ff ⟨.bl false,H3,I3,rfl,q3⟩
 | true=>exact ite_tt (chain_last (eY (hc pins s3 σ H3 _ I3 q3) λw' s4 ⟨z',H4,I4,r4,q4⟩=>ho' pins s4 σ H4 y z' u w' Q I4 r2 r4 q4))
theorem vV:(K?:Nat)<2 ^ 63:=by rw[C?];decide
theorem vals1 {x:V}{us:List l?}(r:Vals [x] us):∃u,us=[u]/\RelV x u:=by
 cases r with
 | cons r1 r2=>cases r2;exact⟨_,rfl,r1⟩
theorem vals2 {x y:V}{us:List l?}(r:Vals [x,y] us):∃u w',us=[u,w']/\RelV x u/\RelV y w':=by
 cases r with
 | cons r1 r2=>
  cases r2 with
  | cons r3 r4=>cases r4;exact⟨_,_,rfl,r1,r3⟩
theorem Bl:nj X (.builtin "abs") (λxs H Q=>∃i,xs=[.int i]/\Q (.int (if i<0 then -i else i)) H):=by
 intro pins s σ H xs us Q I r h;obtain⟨i,rfl,q⟩:=h;obtain⟨u,rfl,t,rfl⟩:=vals1 r;exact call_abs_int λu tk=>⟨.int (if i<0 then -i else i),H,I.tok _,⟨_,rfl⟩,q⟩
theorem Gu (hc:X.calm=true):nj X (.builtin "max") (λxs H Q=>∃i j,xs=[.int i,.int j]/\Q (.int (if j > i then j else i)) H):=by
 intro pins s σ H xs us Q I r h;obtain⟨i,j,rfl,q⟩:=h;obtain⟨u,w',rfl,⟨t,rfl⟩,⟨t',rfl⟩⟩:=vals2 r;refine max_two_ints (I.ok.hd hc) λh' tk k=>⟨_,H,I.kept k,?_,q⟩
 by_cases hj:j > i
 ·rw[Jl hj,Jl hj];exact⟨_,rfl⟩
 ·rw[Jk hj,Jk hj];exact⟨_,rfl⟩
end
structure fR (k:Nat)(A:A!):Prop where
 hd:A.handled=q?
 dp:A.depth+3*k+5<recursionLimit
 un:A.units+16*k+200<cLine
 gd:A.guards=j? []
theorem fR.mono {j k:Nat}{A:A!}(r:fR k A)(h:j<=k):fR j A:=⟨r.hd,by have:=r.dp;omega,by have:=r.un;omega,r.gd⟩
theorem fR.deeper {k:Nat}{A:A!}(r:fR (k+1) A)(env:Env):fR k (A.deeper env):=
 ⟨r.hd,by have:=r.dp;show A.depth+1+3*k+5<_;omega,by have:=r.un;show A.units+3+16*k+200<_;omega,r.gd⟩
theorem fR.in1 {k:Nat}{A:A!}(r:fR (k+1) A):fR k A.in1:=
 ⟨r.hd,by have:=r.dp;show A.depth+3*k+5<_;omega,by have:=r.un;show A.units+1+16*k+200<_;omega,r.gd⟩
theorem fR.depth {k:Nat}{A:A!}(r:fR k A):A.depth<recursionLimit:=by have:=r.dp;omega
theorem fR.units {k:Nat}{A:A!}(r:fR k A):A.units+64<cLine:=by have:=r.un;omega
def HQ:TA:=λ_ H Q=>Q [] H
def Bm (ta:TE)(tr:TA):TA:=λσ H Q=>ta σ H λx H1=>tr σ H1 λxs H2=>Q (x::xs) H2
section
variable {X:Cx} {e:Expr} {es:List Expr} {te:TE} {t:TA} {pos:Pos}
theorem ai:PA X [] HQ:=⟨λ_ _ _ _ H Q I h=>Calls.spliced_nil ⟨[],H,I,.nil,h⟩⟩
theorem af (ha:PE X e te)(hr:PA X es t)(hs:I? (e::es) X.env=(false,eval e X.env)::I? es X.env:=by rfl):PA X (e::es) (Bm te t):=by
 refine⟨?_⟩
 intro pos pins s σ H Q I h;rw[hs];show L? _ _ (spliced ((false,eval e X.env)::backTo pos (I? es X.env))) _ _ s
 refine Calls.spliced_cons (eY (ha pins s σ H _ I h) λu s1 ⟨x,H1,I1,r1,q1⟩=>?_)
 exact eY (hr pos pins s1 σ H1 _ I1 q1) λus s2 ⟨xs,H2,I2,r2,q2⟩=>⟨x::xs,H2,I2,.cons r1 r2,q2⟩
def UL (t:TA):TE:=λσ H Q=>t σ H λxs H1=>xs.length<=K?/\∀p,H1 p=q?->Q (.ref p) (upd H1 p (.tup xs))
def UM (t:TA):TE:=λσ H Q=>t σ H λxs H1=>xs.length<=K?/\∀p,H1 p=q?->Q (.ref p) (upd H1 p (.lst xs))
theorem jw {x1}(h:PA X es t):PE X (.Tuple es x1 pos) (UL t):=by
 refine⟨?_⟩
 intro pins s σ H Q I hq;refine wpAny_Tuple_spliced (eY (h pos pins s σ H _ I hq) λus s1 ⟨xs,H1,I1,r,z,q⟩=>⟨by rw[<- r.length];exact z,?_⟩)
 have hf:H1 s1.heap.objs.size=q?:=I1.hok.fresh (Yd _);refine⟨.ref s1.heap.objs.size,upd H1 s1.heap.objs.size (.tup xs),I1.laid (t':=s1.toks) (λb u e=>Yh _ e) (Yd _) ?_,rfl,q _ hf⟩
 exact⟨z,us,r,⟨_,Y9 _ rfl,rfl,_,rfl⟩⟩
theorem bI (h:PA X es t):PE X (.List es pos) (UM t):=by
 refine⟨?_⟩
 intro pins s σ H Q I hq;refine wpAny_List_spliced (eY (h pos pins s σ H _ I hq) λus s1 ⟨xs,H1,I1,r,z,q⟩=>⟨by rw[<- r.length];exact z,?_⟩)
 have hf:H1 s1.heap.objs.size=q?:=I1.hok.fresh (Yd _);refine⟨.ref s1.heap.objs.size,upd H1 s1.heap.objs.size (.lst xs),I1.laid (t':=s1.toks) (λb u e=>Yh _ e) (Yd _) ?_,rfl,q _ hf⟩
 exact⟨z,us,0,r,Y9 _ rfl⟩
end
abbrev Sp:=List V->Hp->VK->XK->Prop
abbrev HD:=List Env->Hp->u?->XK->l?->u?->Prop
structure Gv (P:F?)(w:H?)(K:bX)(mg:Str->Option l?)(base:O?)(A:A!)(outer:List Env)(s:u?)(H:Hp):Prop where
 frames:A.frames=j? outer
 mod:Mod K mg base
 bs:∀b o,base.get? b=j? o->s.heap.get? b=j? o/\H b=q?
 EV:base.objs.size<=s.heap.objs.size
 oZ:s.heap.FunFrames base outer
 Lo:∀b∈frs outer,H b=q?
 hok:uW P w H s.heap
 bare:AllBare s.gens
def CE (outer:List Env)(P:F?)(w:H?)(H:Hp)(s:u?)(Q:VK)(u:l?)(s':u?):Prop:=
 ∃v H',s'.os=s.os/\AllBare s'.gens/\Un (frs outer) [] H H' s.heap s'.heap/\uW P w H' s'.heap/\RelV v u/\Q v H'
def CR (CX:HD)(outer:List Env)(P:F?)(w:H?)(H:Hp)(s:u?)(Q:VK)(E:XK)(r:Result)(s':u?):Prop:=
 match r with
 | .ok (.ret u)=>CE outer P w H s Q u s'
 | .ok _=>False
 | .error e=>CX outer H s E e s'
structure qY (P:F?)(w:H?)(K:bX)(mg:Str->Option l?)(base:O?)(CX:HD)(k:Nat)(f:o?)(fd:O!)(ps:List Str)(sp:Sp):Prop where
 len:∀vs H Q E,sp vs H Q E->vs.length=ps.length
 run:∀(A:A!) (outer:List Env) (s:u?) (H:Hp) (args:Args) (us:List l?) (vs:List V) (Q:VK) (E:XK),fR k A->Gv P w K mg base A outer s H->BindsTo s fd args (ps.zip us)->Vals vs us->sp vs H Q E->
  codeAny (S? P w) A (.call (.ref f) args) (CR CX outer P w H s Q E) s
theorem qY.imp {P:F?}{w:H?}{K:bX}{mg:Str->Option l?}{base:O?}{CX:HD}{k:Nat}{f:o?}{fd:O!}{ps:List Str}{sp Xn:Sp}(F:qY P w K mg base CX k f fd ps sp)
  (h:∀vs H Q E,Xn vs H Q E->sp vs H Q E):qY P w K mg base CX k f fd ps Xn:=
 ⟨λvs H Q E q=>F.len vs H Q E (h _ _ _ _ q),λA outer s H args us vs Q E hr he hb hv hs=>F.run A outer s H args us vs Q E hr he hb hv (h _ _ _ _ hs)⟩
section
variable {X:Cx} {pins:List (o?×Obj)} {σ:St} {H:Hp} {s s':u?}
theorem Inv.RC (I:Inv X pins σ H s):Gv X.prog X.w X.K X.mg X.base X.A X.stack s H:=
 ⟨I.ok.frames,I.ok.mod,I.bs,Ym I.ok.EV I.sz,I.stack,I.zA,I.hok,I.bare⟩
theorem Inv.after {Q:VK}{u:l?}(I:Inv X pins σ H s)(h:CE X.stack X.prog X.w H s Q u s'):EP X pins σ Q u s':=by
 obtain⟨v,H',os,bare,un,hok,r,q⟩:=h;obtain⟨hh,g,d,t,os'⟩:=s';obtain rfl:os'=s.os:=os
 exact⟨v,H',I.call (h':=hh) (g':=g) (d':=d) (t':=t) (ch:=[]) un hok bare (λb z=>Jr z (by simp)),r,q⟩
end
def Nr (sp:Sp)(Nt:List V)(E:XK)(t:TA):TE:=λσ H Q=>t σ H λvs H1=>sp (vs++Nt) H1 Q E
def Binds (K:bX)(fd:O!)(ps:List Str)(ds:List l?):Prop:=
 ∀(s:u?) (us:List l?),K.In s.heap->(us++ds).length=ps.length->BindsTo s fd ⟨us,[]⟩ (ps.zip (us++ds))
theorem Binds.all {K:bX}{fd:O!}{ps:List Str}(h:∀us:List l?,us.length=ps.length->bindArgs fd ⟨us,[]⟩=pure (ps.zip us)):Binds K fd ps []:=λs us _ hl=>by
 rw[List.append_nil] at hl ⊢;exact .of_eq (h us hl)
def Passes (CX:HD)(X:Cx)(E:XK):Prop:=∀(pins:List (o?×Obj)) (σ:St) (H:Hp) (s:u?) (e:l?) (s':u?),Inv X pins σ H s->CX X.stack H s E e s'->X.xe e s'
section
variable {X:Cx} {CX:HD} {k:Nat} {f C:o?} {fd:O!} {ps:List Str} {sp:Sp} {Nt:List V} {ds:List l?} {E:XK} {x m:Str} {p pos apos:Pos} {e o:Expr} {es:List Expr} {ta:TE} {t:TA}
theorem OJ {pins:List (o?×Obj)}{σ:St}{H:Hp}{s:u?}{Q:VK}{us:List l?}{vs:List V}(F:qY X.prog X.w X.K X.mg X.base CX k f fd ps sp)(hr:fR k X.A)(hb:Binds X.K fd ps ds)(hd:Vals Nt ds)(hx:Passes CX X E)
  (I:Inv X pins σ H s) (r:Vals vs us) (h:sp (vs++Nt) H Q E):L? (S? X.prog X.w) X.A (call (.ref f) us) (EP X pins σ Q) X.xe s:=by
 have r2:Vals (vs++Nt) (us++ds):=r.append hd;have hl:(us++ds).length=ps.length:=by rw[<- r2.length];exact F.len _ _ _ _ h
 refine wpAny_call (codeAny_mono (F.run X.A X.stack s H ⟨us,[]⟩ (us++ds) (vs++Nt) Q E hr I.RC (hb s us I.EW hl) r2 h) λr s' hq=>?_)
 cases r with
 | error e=>exact hx pins σ H s e s' I hq
 | ok fl=>
  cases fl with
  | ret u=>exact I.after hq
  | next=>exact M! hq
  | brk=>exact M! hq
  | cont=>exact M! hq
theorem LK (F:qY X.prog X.w X.K X.mg X.base CX k f fd ps sp)(hr:fR k X.A)(hg:Gl X x)(hm:X.mg x=j? (.ref f))(hk:C! X.K (.ref f)=true)(hb:Binds X.K fd ps ds)(hd:Vals Nt ds)(hx:Passes CX X E)
  (ha:PA X (e::es) t) (hdb:(x ==("__debug__":Str))=false:=by decide) (he:I? (e::es) X.env=(false,eval e X.env)::I? es X.env:=by rfl) (hpl:(backTo pos (I? es X.env)).any (·.1)=false:=by rfl):
  PE X (.Call (.Name x p) (e::es) [] pos) (Nr sp Nt E t):=by
 refine⟨?_⟩
 intro pins s σ H Q I h;refine wpAny_Call_Name_kw (EZ I hg hm ?_ hdb)
 refine PySem.W.callWith_K (h₀:=X.base) I.ok.mod.Ut hk (eY (ha pos pins s σ H _ I h) λus s1 ⟨vs,H1,I1,r,q⟩=>⟨I1.EW,?_⟩) he hpl
 exact OJ F hr hb hd hx I1 r q
end
def PK (X:Cx)(kws:List Keyword)(t:TA):Prop:=
 ∀(pos:Pos) (pins:List (o?×Obj)) (s:u?) (σ:St) (H:Hp) (Q:List V->Hp->Prop),Inv X pins σ H s->t σ H Q->L? (S? X.prog X.w) X.A (evalAll ((backToKw pos (keywordEach kws X.env)).map (·.2))) (AP X pins σ Q) X.xe s
section
variable {X:Cx} {CX:HD} {k:Nat} {f C:o?} {fd:O!} {ps ks:List Str} {sp:Sp} {E:XK} {x m:Str} {p pos apos kpos:Pos} {e o:Expr} {es:List Expr} {kws:List Keyword} {te ta:TE} {t tk:TA} {nm:Option Str}
theorem OL:PK X [] HQ:=λ_ _ _ _ H Q I h=>wpAny_evalAll_nil ⟨[],H,I,.nil,h⟩
theorem LL (ha:PE X e te)(hr:PK X kws t):PK X (⟨nm,e,kpos⟩::kws) (Bm te t):=by
 intro pos pins s σ H Q I h;show L? _ _ (evalAll ((do let v <- eval e X.env;standAt pos;pure v)::(backToKw pos (keywordEach kws X.env)).map (·.2))) _ _ s
 refine wpAny_evalAll_cons (B? (eY (ha pins s σ H _ I h) λu s1 ⟨x,H1,I1,r1,q1⟩=>B? (wpAny_standAt (J? ?_))))
 exact eY (hr pos pins s1 σ H1 _ I1 q1) λus s2 ⟨xs,H2,I2,r2,q2⟩=>⟨x::xs,H2,I2,.cons r1 r2,q2⟩
variable {g:List l?->List l?->List l?} {gV:List V->List V->List V}
end
structure aK (N P:List Str)(sc:Scope):Prop where
 kind:sc.kind=.function
 co:sc.isCoroutine=false
 gen:sc.isGenerator=false
 nd:N.Nodup
 pre:N.take P.length=P
 par:∀x∈P,sc.names.lookup x=j? .local\/sc.names.lookup x=j? .cell
 OM:∀y∈sc.names,y.2≠.free
theorem yJ {kindOf:Str->Option NameKind}{x:Str}:∀ {binds:List (Str×l?)} {m:Str->Option l?},(∀v,(x,v) ∉ binds)->bindL kindOf binds m x=m x
 | [],_,_=>rfl
 | (n,v)::r,m,h=>by
  unfold bindL;rw[yJ λw hw=>h w (Zb _ hw)]
  split
  ·have:x≠n:=by rintro rfl;exact h v Zj
   simp[this]
  ·rfl
theorem yK {kindOf:Str->Option NameKind}{x:Str}:∀ {binds:List (Str×l?)} {m:Str->Option l?},(∀v,(x,v) ∉ binds)->bindC kindOf binds m x=m x
 | [],_,_=>rfl
 | (n,v)::r,m,h=>by
  unfold bindC;rw[yK λw hw=>h w (Zb _ hw)]
  split
  ·rfl
  ·have:x≠n:=by rintro rfl;exact h v Zj
   simp[this]
theorem yL {kindOf:Str->Option NameKind}{x:Str}{v:l?}:∀ {P:List Str} {vs:List l?} {i:Nat} {m:Str->Option l?},P.Nodup->P[i]?=j? x->vs[i]?=j? v->kindOf x=j? .local->
  bindL kindOf (P.zip vs) m x=j? v
 | [],_,_,_,_,h,_,_=>by simp at h
 | _::_,[],_,_,_,_,h,_=>by simp at h
 | p::P,w::vs,0,m,nd,h1,h2,hk=>by
  simp at h1 h2;subst h1;subst h2;show bindL kindOf ((p,w)::P.zip vs) m p=_
  unfold bindL;rw[yJ λv hv=>(List.nodup_cons.mp nd).1 (List.of_mem_zip hv).1,Jl hk]
  simp
 | p::P,w::vs,i+1,m,nd,h1,h2,hk=>by
  show bindL kindOf ((p,w)::P.zip vs) m x=_
  unfold bindL;exact yL (i:=i) (List.nodup_cons.mp nd).2 (by simpa using h1) (by simpa using h2) hk
theorem yM {kindOf:Str->Option NameKind}{x:Str}{v:l?}:∀ {P:List Str} {vs:List l?} {i:Nat} {m:Str->Option l?},P.Nodup->P[i]?=j? x->vs[i]?=j? v->kindOf x≠j? .local->
  bindC kindOf (P.zip vs) m x=j? v
 | [],_,_,_,_,h,_,_=>by simp at h
 | _::_,[],_,_,_,_,h,_=>by simp at h
 | p::P,w::vs,0,m,nd,h1,h2,hk=>by
  simp at h1 h2;subst h1;subst h2;show bindC kindOf ((p,w)::P.zip vs) m p=_
  unfold bindC;rw[yK λv hv=>(List.nodup_cons.mp nd).1 (List.of_mem_zip hv).1,Jk hk]
  simp
 | p::P,w::vs,i+1,m,nd,h1,h2,hk=>by
  show bindC kindOf ((p,w)::P.zip vs) m x=_
  unfold bindC;exact yM (i:=i) (List.nodup_cons.mp nd).2 (by simpa using h1) (by simpa using h2) hk
def start (N:List Str)(vs:List V):St:=vs.map j?++Yn (N.length-vs.length) q?
def zI (CX:HD)(P:F?)(w:H?)(K:bX)(mg:Str->Option l?)(base:O?)(N:List Str)(qual:Str)(scope:Scope)(f:o?)(cd:l?)(A:A!)(outer:List Env)(s:u?)(H:Hp)(E:XK):Cx where
 prog:=P
 w:=w
 K:=K
 mg:=mg
 base:=base
 A:=A.deeper (envOfC qual scope s.heap.objs.size f cd)
 N:=N
 s₀:=s
 H₀:=H
 env:=envOfC qual scope s.heap.objs.size f cd
 outer:=outer
 stack:=envOfC qual scope s.heap.objs.size f cd::outer
 ex:=[]
 calm:=true
 fn:=λ_=>true
 pn:=[]
 xe:=λe s'=>L? (S? P w) (A.deeper (envOfC qual scope s.heap.objs.size f cd)) (leaving (envOfC qual scope s.heap.objs.size f cd) e) (λ_ s''=>CX outer H s E e s'') (λe' s''=>CX outer H s E e' s'') s'
theorem vW {sc:Scope}{n:Nat}{x:Str}(h:sc.names.lookup x=j? .cell):∃c,(cellsFrom n sc.names []).lookup x=j? c:=by
 have q:=PySem.W.cellsFrom_some sc.names n [] (.inl h);exact Option.isSome_iff_exists.mp q
theorem Gw {CX:HD}{P:F?}{w:H?}{K:bX}{mg:Str->Option l?}{base:O?}{N ps:List Str}{qual:Str}{scope:Scope}{f:o?}{cd:l?}{A:A!}{outer:List Env}{s s1:u?}{H:Hp}{E:XK}{us:List l?}{vs:List V}
  (S:aK N ps scope) (hd:A.handled=q?) (e0:Gv P w K mg base A outer s H) (hl:vs.length=ps.length) (r:Vals vs us)
  (x:InCallC s s.heap.objs.size (bindL (envOfC qual scope s.heap.objs.size f cd).kindOf (ps.zip us) λ_=>q?) (cellsFrom (s.heap.objs.size+1) scope.names []) (bindC (envOfC qual scope s.heap.objs.size f cd).kindOf (ps.zip us) λ_=>q?) s1):
  Inv (zI CX P w K mg base N qual scope f cd A outer s H E) [] (start N vs) H s1:=by
 have hpl:ps.length<=N.length:=by have:=Jp Jh S.pre;rw[Y3] at this;omega
 obtain⟨h1,tk,rfl,hk⟩:=x.done;have RD:∀b:o?,b ∉ (zI CX P w K mg base N qual scope f cd A outer s H E).ex:=λb z=>Jr (show b∈([]:List o?) from z) (by simp)
 refine⟨⟨e0.mod,S.kind,rfl,rfl,Yd _,λy z c h1 h2=>?_,λy hy=>?_,λy c _ h=>?_,λ_=>hd,Around.frames_deeper e0.frames,.inr ⟨rfl,rfl⟩,λb z=>Jr z (RD b),e0.bs,e0.EV,λb _ _=>RD b,λb z=>Jr z (RD b),e0.oZ,e0.Lo⟩,
  rfl,e0.bare,Un.kept hk,⟨_,x.toInCall.ns,λi y v h1 h2 h3=>?_⟩,λy c h=>⟨_,x.cell y c h⟩,e0.hok.fresh (Yd _),λy c h=>?_,λp hp=>Jr (show p∈([]:List (o?×Obj)) from hp) (by simp),e0.hok.kept hk,?_⟩
 ·exact name_of_addr x.apart (U? h1) (U? h2)
 ·have hy:scope.names.lookup y=j? .cell\/scope.names.lookup y=j? .free:=hy
  rcases hy with hy|hy
  ·exact vW hy
  ·exact Jr rfl (S.OM _ (U? hy))
 ·exact W9 (x.above y c (U? h))
 ·have hi:i<vs.length:=by
   unfold start at h2;by_cases hi:i<vs.length
   ·exact hi
   ·rw[Zh (by simpa using hi)] at h2
    rw[Wr] at h2;split at h2 <;> cases h2
  have ha:vs[i]?=j? v:=by
   unfold start at h2;rw[Zd (by simpa using hi),Ye] at h2
   cases e:vs[i]? with
   | none=>rw[e] at h2;cases h2
   | some a=>rw[e] at h2;cases h2;rfl
  obtain⟨u,hu,rv⟩:=r.get ha;have hp:ps[i]?=j? y:=by
   rw[<- S.pre,List.getElem?_take_of_lt (by omega)];exact h1
  have Xo:ps.Nodup:=by rw[<- S.pre];exact S.nd.sublist (List.take_sublist _ _)
  refine⟨u,rv,?_⟩
  rcases S.par y (Yy hp) with k|k
  ·exact .inl ⟨k,yL Xo hp hu k⟩
  ·obtain⟨c,e⟩:=vW (n:=s.heap.objs.size+1) k
   refine .inr ⟨.inl k,c,e,?_⟩
   have q:=x.cell y c e;rw[yM Xo hp hu (by show scope.names.lookup y≠_;rw[k];decide)] at q
   exact q
 ·exact e0.hok.fresh (W9 (x.above y c (U? h)))
 ·unfold start
  show _=N.length
  rw[Yg,Ya,Ys];omega
theorem Nu {CX:HD}{P:F?}{w:H?}{K:bX}{mg:Str->Option l?}{base:O?}{k:Nat}{f:o?}{name qual:Str}{params:Arguments}{body:List Q?}{scope:Scope}{dV kV doc pm cdv ct oc:l?}{an od:Option o?}
  {osl:Array (Option l?)} {N ps:List Str} {sp:Sp} (lk:K.lookup f=j? ⟨oc,od,.func (W? name qual params body scope dV kV doc pm an cdv ct),osl⟩) (hcd:P! K cdv qual=true) (S:aK N ps scope)
  (len:∀vs H Q E,sp vs H Q E->vs.length=ps.length)
  (hbody:∀(A:A!) (outer:List Env) (s:u?) (H:Hp) (vs:List V) (Q:VK) (E:XK),fR k (A.deeper (envOfC qual scope s.heap.objs.size f cdv))->sp vs H Q E->
   ∃t,C6 (zI CX P w K mg base N qual scope f cdv A outer s H E) body t/\t { nx:=λ_ H'=>Q .fm H',rt:=Q } (start N vs) H):
  qY P w K mg base CX (k+1) f (W? name qual params body scope dV kV doc pm an cdv ct) ps sp:=by
 refine⟨len,λA outer s H args us vs Q E hr e0 hb r Lq=>?_⟩
 have hl:=len _ _ _ _ Lq;have KX:K.In s.heap:=e0.mod.Ut.keeps λb o e=>(e0.bs b o e).1
 have lim:s.heap.NoLimit:=e0.mod.nolimit.keeps λb o e=>(e0.bs b o e).1
 have hkind:∀y∈ps.zip us,scope.names.lookup y.1=j? .local\/(scope.names.lookup y.1=j? .cell/\((cellsFrom (s.heap.objs.size+1) scope.names []).lookup y.1).isSome=true):=λ⟨n,v⟩ hy=>by
  rcases S.par n (List.of_mem_zip hy).1 with q|q
  ·exact .inl q
  ·exact .inr ⟨q,PySem.W.cellsFrom_some _ _ _ (.inl q)⟩
 refine codeAny_call_function hr.depth (KX _ _ lk) rfl S.co S.gen rfl (PySem.W.codeRec_of KX hcd) (hb _ _ _ _ ?_)
 refine wpAny_newFunctionEnv_cells S.kind hkind λenv he s1 x=>?_
 subst he;refine⟨lim.keeps x.toInCall.keep,codeAny_func ?_⟩
 obtain⟨t,ht,hq⟩:=hbody A outer s H vs Q E (hr.deeper _) Lq;have I:Inv (zI CX P w K mg base N qual scope f cdv A outer s H E) [] (start N vs) H s1:=Gw S hr.hd e0 hl r x;refine B! (ht [] s1 (start N vs) H _ I hq) (λfl s' hs=>?_) λe s' hs=>hs
 have fin:∀ {σ':St} {H':Hp} {v:V} {u:l?},Inv (zI CX P w K mg base N qual scope f cdv A outer s H E) [] σ' H' s'->RelV v u->Q v H'->CE outer P w H s Q u s':=
  λ{σ' H' v u} J rv q=>⟨v,H',J.os,J.bare,J.base,J.hok,rv,q⟩
 cases fl with
 | ret u=>
  obtain⟨v,σ',H',J,rv,q⟩:=hs;exact fin J rv q
 | next=>
  obtain⟨σ',H',J,q⟩:=hs;exact fin (v:=V.fm) (u:=Value.none) J rfl q
 | brk=>
  obtain⟨_,_,_,q⟩:=hs;exact M! q
 | cont=>
  obtain⟨_,_,_,q⟩:=hs;exact M! q
section
variable {X:Cx} {x:Str} {p pos:Pos} {e:Expr} {es:List Expr} {t:TA} {id T:String} {r:List V->Hp->VK->Prop}
def Xp (r:List V->Hp->VK->Prop)(t:TA):TE:=λσ H Q=>t σ H λvs H1=>r vs H1 Q
theorem aS (hc:nj X (.builtin id) r)(hg:Gl X x)(hm:X.mg x=q?)(hv:H! x=j? (.builtin id))(ha:PA X (e::es) t)(hn:x≠"__name__":=by decide)(hdb:(x ==("__debug__":Str))=false:=by decide)
  (he:I? (e::es) X.env=(false,eval e X.env)::I? es X.env:=by rfl) (hpl:(backTo pos (I? es X.env)).any (·.1)=false:=by rfl):PE X (.Call (.Name x p) (e::es) [] pos) (Xp r t):=by
 refine⟨?_⟩
 intro pins s σ H Q I h;refine wpAny_Call_Name_kw (j4 I hg hm hv ?_ hn hdb)
 exact PyProof.Rows.callWith_builtin1 (eY (ha pos pins s σ H _ I h) λus s1 ⟨vs,H1,I1,r1,q1⟩=>hc pins s1 σ H1 vs us Q I1 r1 q1) he hpl
theorem sZ (hc:nj X (.type T) r)(hg:Gl X x)(hm:X.mg x=q?)(hv:H! x=j? (.type T))(ha:PA X (e::es) t)(hn:x≠"__name__":=by decide)(hdb:(x ==("__debug__":Str))=false:=by decide)
  (he:I? (e::es) X.env=(false,eval e X.env)::I? es X.env:=by rfl) (hpl:(backTo pos (I? es X.env)).any (·.1)=false:=by rfl):PE X (.Call (.Name x p) (e::es) [] pos) (Xp r t):=by
 refine⟨?_⟩
 intro pins s σ H Q I h;refine wpAny_Call_Name_kw (j4 I hg hm hv ?_ hn hdb)
 exact L! (eY (ha pos pins s σ H _ I h) λus s1 ⟨vs,H1,I1,r1,q1⟩=>hc pins s1 σ H1 vs us Q I1 r1 q1) he hpl
end
end L2
namespace HT
open PySem PyProof.Rows
section
variable {prog:F?} {w:H?} {A:A!} {E:l?->u?->Prop} {s:u?}
def qU (n d:Nat):Option Int->Nat
 | none=>d
 | some v=>if v<0 then (v+(n:Int)).toNat else min v.toNat n
theorem lB (n d k:Nat):qU n d (j? (k:Int))=min k n:=by
 show(if (k:Int)<0 then ((k:Int)+(n:Int)).toNat else min (k:Int).toNat n)=min k n
 rw[Jk (by omega),Yi]
end
end HT
namespace L2
open PySem PySem.Spec PyProof.Rows
abbrev TO:=St->Hp->(Option Int->Hp->Prop)->Prop
def PO (X:Cx)(e:Option Expr)(t:TO):Prop:=
 ∀(pins:List (o?×Obj)) (s:u?) (σ:St) (H:Hp) (Q:Option Int->Hp->Prop),Inv X pins σ H s->t σ H Q->
  L? (S? X.prog X.w) X.A (evalPart e X.env) (λu s'=>∃o H',Inv X pins σ H' s'/\IsPart u o/\Q o H') X.xe s
def LM:TO:=λ_ H Q=>Q q? H
def RE (t:TE):TO:=λσ H Q=>t σ H λx H1=>∃i,x=.int i/\Q (j? i) H1
section
variable {X:Cx} {e:Expr} {te:TE} {lo hi:Option Expr} {tl th:TO} {pos p2:Pos}
theorem iC:PO X q? LM:=by
 intro pins s σ H Q I h;rw[evalPart_none];exact J? ⟨q?,H,I,.none,h⟩
theorem iD (h:PE X e te):PO X (j? e) (RE te):=by
 intro pins s σ H Q I hw;rw[evalPart_some];refine eY (h pins s σ H _ I hw) λu s1 ⟨x,H1,I1,r1,q1⟩=>?_
 obtain⟨i,rfl,q⟩:=q1;obtain⟨t,rfl⟩:=r1;exact⟨j? i,H1,I1,.int i t,q⟩
def UN (X:Cx)(r:V->Option Int->Option Int->Hp->VK->Prop):Prop:=
 ∀(pins:List (o?×Obj)) (s:u?) (σ:St) (H:Hp) (x:V) (v vl vu:l?) (lo hi:Option Int) (sl:o?) (Q:VK),Inv X pins σ H s->RelV x v->s.heap.IsSliceOf sl vl vu .none->IsPart vl lo->IsPart vu hi->r x lo hi H Q->
  ∃T id,typeLookup (.type T) "__getitem__"=pure (j? (.builtin id))/\s.TypeIs v T/\wpAny (S? X.prog X.w) X.A (getItem v (.ref sl)) (EP X pins σ Q) X.xe s
def tSl (r:V->Option Int->Option Int->Hp->VK->Prop)(te:TE)(tl th:TO):TE:=λσ H Q=>te σ H λx H1=>tl σ H1 λl H2=>th σ H2 λu H3=>r x l u H3 Q
theorem fU {r:V->Option Int->Option Int->Hp->VK->Prop}(hr:UN X r)(he:PE X e te)(hl:PO X lo tl)(hu:PO X hi th):PE X (.Subscript e (.Slice lo hi q? p2) pos) (tSl r te tl th):=by
 refine⟨?_⟩
 intro pins s σ H Q I h;refine Subscript_ (eY (he pins s σ H _ I h) λv s1 ⟨x,H1,I1,r1,q1⟩=>?_)
 refine wpAny_Slice (eY (hl pins s1 σ H1 _ I1 q1) λvl s2 ⟨l,H2,I2,pl,q2⟩=>eY (hu pins s2 σ H2 _ I2 q2) λvu s3 ⟨u,H3,I3,pu,q3⟩=>?_)
 rw[evalPart_none];refine J? ?_
 have I4:Inv X pins σ H3 { s3 with heap:=s3.heap.push { cls:=.type "slice",data:=.fields #[vl,vu,.none] } }:=I3.kept (t':=s3.toks) λb ob q=>Yh _ q
 obtain⟨T,id,hT,ht,hg⟩:=hr pins { s3 with heap:=s3.heap.push { cls:=.type "slice",data:=.fields #[vl,vu,.none] } } σ H3 x v vl vu l u s3.heap.objs.size Q I4 r1 (Heap.IsSliceOf.new ..) pl pu q3
 show L? (S? X.prog X.w) X.A (subscriptTail e (.Slice lo hi q? p2) v (.ref s3.heap.objs.size)) (EP X pins σ Q) X.xe { s3 with heap:=s3.heap.push { cls:=.type "slice",data:=.fields #[vl,vu,.none] } }
 exact tail_any (ops:=[.ref s3.heap.objs.size,v]) ht hT hg (by with_unfolding_all rfl)
def iZ (xs:List V)(lo hi:Option Int):List V:=(xs.drop (HT.qU xs.length 0 lo)).take (HT.qU xs.length xs.length hi-HT.qU xs.length 0 lo)
theorem Bo (xs:List V)(lo hi:Option Int):(iZ xs lo hi).length<=xs.length:=by
 unfold iZ;rw[Y3,Ze];omega
end
def Lr (n:Nat)(i:Int):Option Nat:=if 0<=i then (if i<n then j? i.toNat else q?) else if -(n:Int)<=i then j? (i+n).toNat else q?
def qZ {α:Type}(xs:List α)(i:Int):Option α:=(Lr xs.length i).bind λj=>xs[j]?
theorem E8 {n:Nat}{i:Int}{j:Nat}(h:Lr n i=j? j):seqIndex? i n=j? j/\j<n/\-(n:Int)<=i/\i<n:=by
 unfold Lr at h;by_cases h0:0<=i
 ·rw[Jl h0] at h
  by_cases h1:i<n
  ·rw[Jl h1] at h
   have e:i.toNat=j:=M? h;exact⟨by rw[seqIndex_of h0 h1,e],by omega,by omega,h1⟩
  ·rw[Jk h1] at h;cases h
 ·rw[Jk h0] at h
  by_cases h1:-(n:Int)<=i
  ·rw[Jl h1] at h
   have e:(i+n).toNat=j:=M? h;exact⟨by rw[seqIndex_neg (by omega) h1,e],by omega,h1,by omega⟩
  ·rw[Jk h1] at h;cases h
theorem E_ {α:Type}{xs:List α}{i:Int}{v:α}(h:qZ xs i=j? v):∃j,seqIndex? i xs.length=j? j/\xs[j]?=j? v/\j<xs.length/\-(xs.length:Int)<=i/\i<xs.length:=by
 unfold qZ at h;cases e:Lr xs.length i with
 | none=>rw[e] at h;cases h
 | some j=>
  rw[e] at h;obtain⟨h1,h2,h3,h4⟩:=E8 e;exact⟨j,h1,h,h2,h3,h4⟩
theorem f9 {α:Type}{xs:List α}{j:Nat}{v:α}(h:xs[j]?=j? v):qZ xs (j:Int)=j? v:=by
 have hj:j<xs.length:=(List.getElem?_eq_some_iff.mp h).1;have e:Lr xs.length (j:Int)=j? j:=by
  unfold Lr;rw[Jl (by omega),Jl (by omega)];simp
 unfold qZ;rw[e];exact h
def LN (b:Expr):Prop:=∀o i,subscripted b false o i=operate [o,i] (getItem o i)
def RG (X:Cx)(r:R2):Prop:=
 ∀(value slice:Expr) (pins:List (o?×Obj)) (s:u?) (σ:St) (H:Hp) (x y:V) (v u:l?) (Q:VK),Inv X pins σ H s->RelV x v->RelV y u->r x y H Q->
  subscripted slice false v u=operate [v,u] (getItem v u)->L? (S? X.prog X.w) X.A (subscriptTail value slice v u) (EP X pins σ Q) X.xe s
def Xq (X:Cx)(id:String)(r:V->List V->Hp->VK->Prop):Prop:=
 ∀(pins:List (o?×Obj)) (s:u?) (σ:St) (H:Hp) (x:V) (xs:List V) (v:l?) (us:List l?) (Q:VK),Inv X pins σ H s->RelV x v->Vals xs us->r x xs H Q->
  L? (S? X.prog X.w) X.A (call (.builtin id) (v::us)) (EP X pins σ Q) X.xe s
section
variable {X:Cx} {a b:Expr} {ta tb:TE} {pos:Pos}
theorem bL {r:R2}(hr:RG X r)(ha:PE X a ta)(hb:PE X b tb)(hs:LN b):PE X (.Subscript a b pos) (TJ r ta tb):=by
 refine⟨?_⟩
 intro pins s σ H Q I h;exact Subscript_ (OF ha hb I h λv u s2 x y H2 I2 rx ry q=>hr a b pins s2 σ H2 x y v u Q I2 rx ry q (hs _ _))
def RH (K:bX):R2:=λx y H Q=>∃p xs i v,x=.ref p/\y=.int i/\aQ K H p xs/\qZ xs i=j? v/\Q v H
def RI (K:bX):R2:=λx y H Q=>∃p xs i v,x=.ref p/\y=.int i/\k8 K H p xs/\qZ xs i=j? v/\Q v H
theorem LO:RG X (RH X.K):=by
 intro value slice pins s σ H x y v u Q I rx ry h hs;obtain⟨p,xs,i,z,rfl,rfl,hq,he,q⟩:=h;cases rx;obtain⟨t,rfl⟩:=ry;obtain⟨its,r,pl,hz⟩:=I.list hq;obtain⟨j,h1,h2,h3,h4,h5⟩:=E_ he;obtain⟨w,ew,rw'⟩:=r.get h2;have hl:=r.length;have hn:=vV;have fin:EP X pins σ Q w s:=⟨z,H,I,rw',q⟩;by_cases h0:0<=i
 ·have hj:i.toNat=j:=by
   rw[seqIndex_of h0 h5] at h1;exact M? h1
  exact item_listR pl.isList h0 (by omega) (by rw[hj];simpa using ew) fin hs
 ·have hj:(i+(its.toArray.size:Int)).toNat=j:=by
   rw[seqIndex_neg (by omega) h4] at h1
   rw[Yx,<- hl];exact M? h1
  exact subscriptTail_builtinR (x:=w) pl.isList.typeIs slot_list_getitem.lookup
   (wpAny_getItem_list_neg (Q:=λr s'=>r=w/\EP X pins σ Q r s') pl.isList (by omega) (by rw[Yx] <;> omega) (by omega) (by rw[hj];simpa using ew) ⟨rfl,fin⟩) hs
theorem OO:RG X (RI X.K):=by
 intro value slice pins s σ H x y v u Q I rx ry h hs;obtain⟨p,xs,i,z,rfl,rfl,hq,he,q⟩:=h;cases rx;obtain⟨t,rfl⟩:=ry;obtain⟨its,r,pl,hz⟩:=I.tuple hq;obtain⟨j,h1,h2,h3,h4,h5⟩:=E_ he;obtain⟨w,ew,rw'⟩:=r.get h2;have hl:=r.length;have hn:=vV;have fin:EP X pins σ Q w s:=⟨z,H,I,rw',q⟩;exact subscriptTail_builtinR (x:=w) pl.typeIs slot_tuple_getitem.lookup
  (getItem_tuple (j:=j) (Q:=λr s'=>r=w/\EP X pins σ Q r s') pl (by omega) (by omega) (by rw[Yx,<- hl];exact h1) (by simpa using ew) ⟨rfl,fin⟩) hs
theorem Df (its:List l?)(n j:Nat)(u:l?):D! (·.setIfInBounds j u) { cls:=.type "list",data:=.seq its.toArray n }={ cls:=.type "list",data:=.seq (its.set j u).toArray n }:=by
 simp[D!]
theorem Inv.lst {pins:List (o?×Obj)}{σ:St}{H:Hp}{s:u?}{p:o?}{xs:List V}(I:Inv X pins σ H s)(h:H p=j? (.lst xs)):
  ∃(its:List l?) (n:Nat),Vals xs its/\s.heap.get? p=j? { cls:=.type "list",data:=.seq its.toArray n }/\xs.length<=K?:=by
 obtain⟨z,its,n,r,e⟩:=I.hok p _ h;exact⟨its,n,r,e,z⟩
theorem Inv.OP {pins:List (o?×Obj)}{σ:St}{H:Hp}{s:u?}{p:o?}{xs ys:List V}{its its':List l?}{n n':Nat}{f:Obj->Obj}(I:Inv X pins σ H s)(h:H p=j? (.lst xs))
  (ho:s.heap.get? p=j? { cls:=.type "list",data:=.seq its.toArray n }) (hf:f { cls:=.type "list",data:=.seq its.toArray n }={ cls:=.type "list",data:=.seq its'.toArray n' }) (r:Vals ys its') (hz:ys.length<=K?) (t:Nat):
  Inv X pins σ (upd H p (.lst ys)) { s with heap:=s.heap.update p f,toks:=t }:=by
 have e:(s.heap.update p f).get? p=j? { cls:=.type "list",data:=.seq its'.toArray n' }:=by
  rw[Heap.get?_update_self f ho (by rw[hf] <;> rfl),hf]
 refine I.write (x:=p) (e:=p) (by rw[h];trivial) (.inl rfl) (λb u hb q=>(Heap.get?_update_other _ _ (Ne.symm hb)).trans q) ⟨_,e⟩ ?_
 exact⟨hz,its',n',r,e⟩
def RJ:V->V->V->Hp->(Hp->Prop)->Prop:=λo i v H Q=>∃p xs k j,o=.ref p/\i=.int k/\H p=j? (.lst xs)/\Lr xs.length k=j? j/\Q (upd H p (.lst (xs.set j v)))
theorem set_list:Ow X RJ:=by
 intro pins s σ H o i v ov iv u Q I ro ri rv h;obtain⟨p,xs,k,j,rfl,rfl,hp,hj,q⟩:=h;cases ro;obtain⟨t,rfl⟩:=ri;obtain⟨its,n,r,ho,hz⟩:=I.lst hp;obtain⟨h1,h2,h3,h4⟩:=E8 hj;have hl:=r.length;have hn:=vV;have I':Inv X pins σ (upd H p (.lst (xs.set j v))) { s with heap:=s.heap.update p (D! (·.setIfInBounds j u)) }:=
  I.OP hp ho (Df its n j u) (r.set rv j) (by rw[W7];exact hz) s.toks
 by_cases h0:0<=k
 ·have hk:k.toNat=j:=by
   rw[seqIndex_of h0 h4] at h1;exact M? h1
  exact PySem.W.ki_setAt ho h0 (by omega) (by rw[Yx,<- hl];exact h4) (by rw[hk];exact⟨_,I',q⟩)
 ·have hk:(k+(its.toArray.size:Int)).toNat=j:=by
   rw[seqIndex_neg (by omega) h3] at h1
   rw[Yx,<- hl];exact M? h1
  exact PySem.W.ki_setBack ho (by omega) (by rw[Yx,<- hl];exact h3) (by omega) (by rw[hk];exact⟨_,I',q⟩)
theorem zJ (lo hi:Option Int)(n:Nat):(sliceBounds lo hi q? n).1=((HT.qU n 0 lo:Nat):Int)/\(sliceBounds lo hi q? n).2.1=((HT.qU n n hi:Nat):Int)/\(sliceBounds lo hi q? n).2.2=1:=by
 refine⟨?_,?_,rfl⟩
 ·cases lo with
  | none=>simp[sliceBounds,HT.qU]
  | some i=>
   simp only[sliceBounds,HT.qU,Option.getD_none,show(1:Int) > 0 by decide,if_true]
   by_cases h:i<0
   ·simp only[h,if_true] <;> omega
   ·simp only[h,if_false] <;> omega
 ·cases hi with
  | none=>simp[sliceBounds,HT.qU]
  | some i=>
   simp only[sliceBounds,HT.qU,Option.getD_none,show(1:Int) > 0 by decide,if_true]
   by_cases h:i<0
   ·simp only[h,if_true] <;> omega
   ·simp only[h,if_false] <;> omega
theorem yf (its:List l?)(lo hi:Option Int):slicePick its.toArray lo hi q?=((its.drop (HT.qU its.length 0 lo)).take (HT.qU its.length its.length hi-HT.qU its.length 0 lo)).toArray:=by
 obtain⟨h1,h2,h3⟩:=zJ lo hi its.toArray.size;unfold slicePick;rw[h1,h2,h3];simp only[sliceRange_one,pick_run,Yx] <;> rfl
def RK (K:bX):V->Option Int->Option Int->Hp->VK->Prop:=λx lo hi H Q=>∃a xs,x=.ref a/\aQ K H a xs/\∀p,H p=q?->Q (.ref p) (upd H p (.lst (iZ xs lo hi)))
theorem LQ:UN X (RK X.K):=by
 intro pins s σ H x v vl vu lo hi sl Q I rx hs pl pu h;obtain⟨a,xs,rfl,hx,q⟩:=h;cases rx;obtain⟨its,r,ht,hz⟩:=I.list hx;have hlen:=r.length;refine⟨"list",_,slot_list_getitem.lookup,ht.isList.typeIs,?_⟩
 refine wpAny_getItem_list_slice ht.isList hs pl pu .none (by simp) ?_ (by rw[Yx] <;> omega)
 rw[yf,<- hlen];refine⟨.ref s.heap.objs.size,_,I.laid (t':=s.toks) (o:=.lst (iZ xs lo hi)) (λb ob q=>Yh _ q) (Yd _) ?_,rfl,q _ (I.hok.fresh (Yd _))⟩
 exact⟨Ym (Bo xs lo hi) hz,_,0,(r.drop (HT.qU xs.length 0 lo)).take (HT.qU xs.length xs.length hi-HT.qU xs.length 0 lo),Y9 _ rfl⟩
def q8:V->Bool
 | .fm=>true
 | .bl _=>true
 | .int _=>true
 | .str _=>true
 | _=>false
def Nv:V->V->Bool
 | .fm,.fm=>true
 | .bl a,.bl b=>a == b
 | .bl a,.int b=>(if a then 1 else 0) == b
 | .int a,.bl b=>a ==(if b then 1 else 0)
 | .int a,.int b=>a == b
 | .str a,.str b=>a == b
 | _,_=>false
theorem OQ {A:A!}{s:u?}{y x:V}{u v:l?}(ry:RelV y u)(rx:RelV x v)(fy:q8 y=true)(fx:q8 x=true):SeqAt.EqAt A s u v (Nv y x):=by
 cases y with
 | fm=>
  cases ry;cases x with
  | fm=>cases rx;exact SeqAt.EqAt.same _
  | bl b=>cases rx;exact SeqAt.EqAt.none_bool b
  | int b=>obtain⟨t,rfl⟩:=rx;exact SeqAt.EqAt.none_int b t
  | str b=>obtain⟨t,rfl⟩:=rx;exact SeqAt.EqAt.none_str b t
  | _=>exact Jr (show false=true from fx) E?
 | bl a=>
  cases ry;cases x with
  | fm=>cases rx;exact SeqAt.EqAt.bool_none a
  | bl b=>cases rx;exact SeqAt.EqAt.bool_bool a b
  | int b=>obtain⟨t,rfl⟩:=rx;exact SeqAt.EqAt.bool_int a b t
  | str b=>obtain⟨t,rfl⟩:=rx;exact SeqAt.EqAt.bool_str a b t
  | _=>exact Jr (show false=true from fx) E?
 | int a=>
  obtain⟨t',rfl⟩:=ry;cases x with
  | fm=>cases rx;exact SeqAt.EqAt.int_none a t'
  | bl b=>cases rx;exact SeqAt.EqAt.int_bool a t' b
  | int b=>obtain⟨t,rfl⟩:=rx;exact SeqAt.EqAt.int_int a t' b t
  | str b=>obtain⟨t,rfl⟩:=rx;exact SeqAt.EqAt.int_str a t' b t
  | _=>exact Jr (show false=true from fx) E?
 | str a=>
  obtain⟨t',rfl⟩:=ry;cases x with
  | fm=>cases rx;exact SeqAt.EqAt.str_none a t'
  | bl b=>cases rx;exact SeqAt.EqAt.str_bool a t' b
  | int b=>obtain⟨t,rfl⟩:=rx;exact SeqAt.EqAt.str_int a t' b t
  | str b=>obtain⟨t,rfl⟩:=rx;exact SeqAt.EqAt.str_str a t' b t
  | _=>exact Jr (show false=true from fx) E?
 | _=>exact Jr (show false=true from fy) E?
def LR (x:V)(u:l?):Bool:=match u with
 | .none=>Nv .fm x
 | .bool b=>Nv (.bl b) x
 | .int i _=>Nv (.int i) x
 | .str z _=>Nv (.str z) x
 | _=>false
theorem HR {x y:V}{u:l?}(r:RelV y u)(f:q8 y=true):LR x u=Nv y x:=by
 cases y with
 | fm=>cases r;rfl
 | bl b=>cases r;rfl
 | int i=>obtain⟨t,rfl⟩:=r;rfl
 | str z=>obtain⟨t,rfl⟩:=r;rfl
 | _=>exact Jr (show false=true from f) E?
theorem zK {x:V}:∀ {xs:List V} {us:List l?},Vals xs us->xs.all q8=true->us.any (LR x)=xs.any λy=>Nv y x
 | _,_,.nil,_=>rfl
 | y::xs,u::us,.cons r t,f=>by
  rw[List.all_cons,T?] at f;rw[List.any_cons,List.any_cons,HR r f.1,zK t f.2]
theorem vX {A:A!}{s:u?}{x:V}{v:l?}(rx:RelV x v)(fx:q8 x=true):∀ {xs:List V} {us:List l?},Vals xs us->xs.all q8=true->∀u∈us,SeqAt.EqAt A s u v (LR x u)
 | _,_,.nil,_=>λu hu=>by cases hu
 | y::xs,u::us,.cons r t,f=>λu' hu=>by
  rw[List.all_cons,T?] at f;rcases List.mem_cons.mp hu with rfl|hu
  ·rw[HR r f.1];exact OQ r rx f.1 fx
  ·exact vX rx fx t f.2 u' hu
def QI (x:V)(xs:List V):Bool:=xs.any λy=>Nv y x
def Xs (K:bX)(neg:Bool):R2:=λx y H Q=>∃p xs,y=.ref p/\(aQ K H p xs\/k8 K H p xs)/\q8 x=true/\xs.all q8=true/\Q (.bl (if neg then !QI x xs else QI x xs)) H
theorem Gx:pQ X (J! .In) (Xs X.K false):=by
 intro pins s σ H x y v u Q I rx ry h;obtain⟨p,xs,rfl,hq,fx,fs,q⟩:=h;cases ry;rcases hq with hq|hq
 ·obtain⟨its,r,pl,hz⟩:=I.list hq
  refine SeqAt.in_listAt (LR x) pl.isList (λw hw=>vX rx fx r fs w (by simpa using hw)) ⟨.bl _,H,I,rfl,?_⟩
  rw[show its.toArray.any (LR x)=its.any (LR x) by simp,zK r fs]
  exact q
 ·obtain⟨its,r,pl,hz⟩:=I.tuple hq
  refine SeqAt.in_tupleAt (LR x) pl (λw hw=>vX rx fx r fs w (by simpa using hw)) ⟨.bl _,H,I,rfl,?_⟩
  rw[show its.toArray.any (LR x)=its.any (LR x) by simp,zK r fs]
  exact q
theorem zL:nj X (.builtin "len") (λxs H Q=>∃p ys,xs=[.ref p]/\(aQ X.K H p ys\/k8 X.K H p ys)/\Q (.int ys.length) H):=by
 intro pins s σ H xs us Q I r h;obtain⟨p,ys,rfl,hq,q⟩:=h;obtain⟨u,rfl,rx⟩:=vals1 r;cases rx;have hn:=vV;rcases hq with hq|hq
 ·obtain⟨its,r',pl,hz⟩:=I.list hq
  have hlen:=r'.length;exact Calls.call_len_list pl.isList (by simp only[Yx] <;> omega) ⟨.int ys.length,H,I.tok _,⟨s.toks+1,by rw[Yx,hlen]⟩,q⟩
 ·obtain⟨its,r',pl,hz⟩:=I.tuple hq
  have hlen:=r'.length;exact len_tuple pl (by simp only[Yx] <;> omega) ⟨.int ys.length,H,I.tok _,⟨s.toks+1,by rw[Yx,hlen]⟩,q⟩
theorem lC:nj X (.type "list") (λxs H Q=>∃p ys,xs=[.ref p]/\(aQ X.K H p ys\/k8 X.K H p ys)/\∀l,H l=q?->Q (.ref l) (upd H l (.lst ys))):=by
 intro pins s σ H xs us Q I r h;obtain⟨p,ys,rfl,hq,q⟩:=h;obtain⟨u,rfl,rx⟩:=vals1 r;cases rx;have fin:∀(its:List l?),Vals ys its->ys.length<=K?->∀(h':O?) (c':Nat),(∀b o',s.heap.get? b=j? o'->h'.get? b=j? o')->
   h'.get? s.heap.objs.size=j? { cls:=.type "list",dict:=q?,data:=.seq its.toArray c',slots:=#[] }->EP X pins σ Q (.ref s.heap.objs.size) { s with heap:=h' }:=λits r' hz h' c' kp e=>
  ⟨.ref s.heap.objs.size,_,I.laid (t':=s.toks) kp (Yd _) (show jv X.prog X.w _ h' _ (.lst ys) from⟨hz,its,c',r',e⟩),rfl,q _ (I.hok.fresh (Yd _))⟩
 rcases hq with hq|hq
 ·obtain⟨its,r',pl,hz⟩:=I.list hq
  have hlen:=r'.length;obtain⟨o,ho,hc,n,hd⟩:=pl.isList;exact call_list_seq p (.inl rfl) ho hc hd (λh' c' kp e=>fin its r' hz h' c' kp e) (by simp only[Yx] <;> omega)
 ·obtain⟨its,r',pl,hz⟩:=I.tuple hq
  have hlen:=r'.length;obtain⟨o,ho,hc,n,hd⟩:=pl;exact call_list_seq p (.inr rfl) ho hc hd (λh' c' kp e=>fin its r' hz h' c' kp e) (by simp only[Yx] <;> omega)
def UO (K:bX)(T:String)(x:V)(H:Hp):Prop:=match x with
 | .str _=>T="str"
 | .int _=>T="int"
 | .ref p=>(T="list"/\∃xs,aQ K H p xs)\/(T="tuple"/\∃o,K.lookup p=j? o/\o.cls=.type "tuple"/\o.dict=q?)\/
   (T="dict"/\((∃kvs,H p=j? (.dK kvs))\/∃kvs,H p=j? (.dT kvs)))\/(T="set"/\∃S n,H p=j? (.set S n))
 | _=>False
theorem HS {pins:List (o?×Obj)}{σ:St}{H:Hp}{s:u?}{T:String}{x:V}{v:l?}(I:Inv X pins σ H s)(r:RelV x v)(ty:UO X.K T x H):
  s.TypeIs v T/\∀a,v=.ref a->∃ob,s.heap.get? a=j? ob/\ob.dict=q?:=by
 cases x with
 | str z=>
  obtain⟨t,rfl⟩:=r;cases (show T="str" from ty)
  exact⟨typeIs_str s z t,λ_ e=>nomatch e⟩
 | int i=>
  obtain⟨t,rfl⟩:=r;cases (show T="int" from ty)
  exact⟨typeIs_int s i t,λ_ e=>nomatch e⟩
 | ref p=>
  cases r;rcases ty with ⟨rfl,xs,hq⟩|⟨rfl,o,hk,hc,hd⟩|⟨rfl,hk⟩|⟨rfl,S,n,hk⟩
  ·obtain⟨its,_,pl,_⟩:=I.list hq
   refine⟨pl.isList.typeIs,λa e=>?_⟩
   cases e;obtain⟨o,n,e,c,hd,_⟩:=pl;exact⟨o,e,hd⟩
  ·refine⟨⟨o,I.EW p o hk,hc⟩,λa e=>?_⟩
   cases e;exact⟨o,I.EW _ o hk,hd⟩
  ·have z:∃o,s.heap.get? p=j? o/\o.ExactDict:=by
    rcases hk with ⟨kvs,hk⟩|⟨kvs,hk⟩
    ·obtain⟨_,_,_,_,o,_,_,e,ex,_⟩:=I.hok p _ hk
     exact⟨o,e,ex⟩
    ·obtain⟨_,_,_,_,o,_,_,e,ex,_⟩:=I.hok p _ hk
     exact⟨o,e,ex⟩
   obtain⟨o,e,ex⟩:=z;refine⟨⟨o,e,ex.1⟩,λa e2=>?_⟩
   cases e2;exact⟨o,e,ex.2.1⟩
  ·obtain⟨o,_,_,_,e,ex,_⟩:=I.hok p _ hk
   refine⟨⟨o,e,ex.1⟩,λa e2=>?_⟩
   cases e2;exact⟨o,e,ex.2.1⟩
 | _=>exact M! ty
def UP (K:bX)(T:String)(r:V->List V->Hp->VK->Prop)(to:TE):TE:=λσ H Q=>to σ H λx H1=>UO K T x H1/\r x [] H1 Q
def tBM (K:bX)(T:String)(r:V->List V->Hp->VK->Prop)(to:TE)(t:TA):TE:=λσ H Q=>to σ H λx H1=>UO K T x H1/\t σ H1 λxs H2=>r x xs H2 Q
variable {o e:Expr} {es:List Expr} {to:TE} {t:TA} {name:Str} {apos cpos:Pos} {T id:String} {r:V->List V->Hp->VK->Prop}
theorem Dh (pa:PlainAttrs T)(slot:Slot T name id)(hty:typeOf (.builtin id)=pure (.type "method_descriptor"))(hm:Xq X id r)(ho:PE X o to)
  (hbase:attributeBase o name X.env (eval o X.env)=eval o X.env:=by rfl) (hline:(apos.endLine == cpos.line)=true:=by rfl):PE X (.Call (.Attribute o name apos) [] [] cpos) (UP X.K T r to):=by
 refine⟨?_⟩
 intro pins s σ H Q I h;refine wpAny_Call_method0_late hbase hline (eY (ho pins s σ H _ I h) λv s1 ⟨x,H1,I1,r1,ty,q1⟩=>?_)
 obtain⟨h1,h2⟩:=HS I1 r1 ty;exact⟨T,id,pa,slot,hty,h1,h2,Calls.callWith_builtin rfl (PySem.evalArgs_none (hm pins s1 σ H1 x [] v [] Q I1 r1 .nil q1))⟩
theorem q9 (pa:PlainAttrs T)(slot:Slot T name id)(hty:typeOf (.builtin id)=pure (.type "method_descriptor"))(hm:Xq X id r)(ho:PE X o to)(ha:PA X (e::es) t)
  (hbase:attributeBase o name X.env (eval o X.env)=eval o X.env:=by rfl)
  (hfew:((backTo cpos (I? (e::es) X.env)).all (λx=>!x.1) && (backToKw cpos (keywordEach [] X.env)).all (λx=>x.1.isSome)
   && decide ((e::es).length+([]:List Keyword).length+(if ([]:List Keyword).isEmpty then 0 else 1)<30))=true:=by rfl)
  (hline:(apos.endLine == cpos.line)=true:=by rfl) (hs:I? (e::es) X.env=(false,eval e X.env)::I? es X.env:=by rfl) (hplain:(backTo cpos (I? es X.env)).any (·.1)=false:=by rfl):
  PE X (.Call (.Attribute o name apos) (e::es) [] cpos) (tBM X.K T r to t):=by
 refine⟨?_⟩
 intro pins s σ H Q I h;refine wpAny_Call_method_late hbase hfew hline rfl (eY (ho pins s σ H _ I h) λv s1 ⟨x,H1,I1,r1,ty,q1⟩=>?_)
 obtain⟨h1,h2⟩:=HS I1 r1 ty;refine⟨T,id,pa,slot,hty,h1,h2,?_⟩
 have hA:=ha cpos pins s1 σ H1 _ I1 q1;rw[hs] at hA ⊢;refine Calls.callWith_builtin (by show(false || (backTo cpos (I? es X.env)).any (·.1))=false;rw[hplain] <;> rfl) (Calls.evalArgs_plain ?_)
 exact eY hA λus s2 ⟨vs,H2,I2,r2,q2⟩=>hm pins s2 σ H2 x vs v us Q I2 r1 r2 q2
end
def Xu (X:Cx)(id:String)(r:V->List V->Hp->VK->Prop):Prop:=
 ∀(pins:List (o?×Obj)) (s:u?) (σ:St) (H:Hp) (x:V) (xs:List V) (v:l?) (us:List l?) (Q:VK),Inv X pins σ H s->RelV x v->Vals xs us->r x xs H Q->
  L? (S? X.prog X.w) X.A (call (.builtin id) (v::us)) (EP X pins σ Q) X.xe s
theorem Vals.one:∀ {x:V} {us:List l?},Vals [x] us->∃u,us=[u]/\RelV x u
 | _,_,.cons r .nil=>⟨_,rfl,r⟩
theorem Vals.zero:∀ {us:List l?},Vals [] us->us=[]
 | _,.nil=>rfl
theorem Vals.reverse {xs:List V}{us:List l?}(h:Vals xs us):Vals xs.reverse us.reverse:=by
 induction h with
 | nil=>exact .nil
 | cons r t ih=>rw[List.reverse_cons,List.reverse_cons];exact Vals.append ih (.cons r .nil)
theorem Vals.rep {xs:List V}{us:List l?}(h:Vals xs us):∀k:Nat,Vals (Yn k xs).flatten (Yn k us).flatten
 | 0=>.nil
 | k+1=>by
  rw[Z2,Z2,W0,W0];exact Vals.append h (Vals.rep h k)
theorem foldl_rep (its:List l?):∀(k:Nat) (acc:List l?),
  List.foldl (λx1 x2=>x1++x2) acc.toArray (Yn k its.toArray)=(acc++(Yn k its).flatten).toArray
 | 0,acc=>by simp
 | k+1,acc=>by
  have e:acc.toArray++its.toArray=(acc++its).toArray:=by simp
  have e2:(acc++its)++(Yn k its).flatten=acc++(Yn (k+1) its).flatten:=by
   rw[Z2,W0,List.append_assoc]
  rw[<- e2,<- foldl_rep its k (acc++its),<- e,Z2,List.foldl_cons]
section
variable {X:Cx} {pins:List (o?×Obj)} {σ:St} {H:Hp} {s:u?} {l b:o?} {xs ys zs:List V}
theorem Inv.RL {its its':List l?}{n:Nat}{f:Array l?->Array l?}{t':Nat}(I:Inv X pins σ H s)(hH:H l=j? (.lst xs))
  (e:s.heap.get? l=j? { cls:=.type "list",data:=.seq its.toArray n }) (hf:f its.toArray=its'.toArray) (hv:Vals ys its') (hz:ys.length<=K?):
  Inv X pins σ (upd H l (.lst ys)) { s with heap:=s.heap.update l (D! f),toks:=t' }:=by
 have q:=PySem.IsL.update e f;rw[hf] at q;refine I.write (x:=l) (e:=l) (by rw[hH];exact trivial) (.inl rfl) (λb' u hb hu=>(Heap.get?_update_other s.heap (D! f) (Ne.symm hb)).trans hu) ⟨_,q⟩ ?_
 exact⟨hz,its',_,hv,q⟩
theorem Inv.RM {its:List l?}{t':Nat}(I:Inv X pins σ H s)(hv:Vals ys its)(hz:ys.length<=K?):
  Inv X pins σ (upd H s.heap.objs.size (.lst ys)) { s with heap:=s.heap.push { cls:=.type "list",data:=.seq its.toArray },toks:=t' }:=
 I.laid (λ_ _ q=>Yh _ q) (Yd _) ⟨hz,its,0,hv,Y9 _ rfl⟩
theorem Inv.fresh (I:Inv X pins σ H s):H s.heap.objs.size=q?:=I.hok.fresh (Yd _)
theorem Inv.HU (I:Inv X pins σ H s)(hH:H l=j? (.lst xs)):xs.length<=K?/\∃(its:List l?) (n:Nat),Vals xs its/\xs.length=its.length/\s.heap.get? l=j? { cls:=.type "list",data:=.seq its.toArray n }:=by
 obtain⟨z,its,n,r,e⟩:=I.hok l _ hH;exact⟨z,its,n,r,r.length,e⟩
theorem HV {n:Nat}(h:n<=K?):Builtin.List.listTooLong n=false:=by
 unfold Builtin.List.listTooLong;exact Jo (by omega)
end
section
variable {X:Cx}
def LS:V->List V->Hp->VK->Prop:=λx vs H Q=>∃l xs y,x=.ref l/\vs=[y]/\H l=j? (.lst xs)/\xs.length<K?/\Q .fm (upd H l (.lst (xs++[y])))
theorem eB:Xu X "list.append" LS:=by
 intro pins s σ H x vs v us Q I rx rv h;obtain⟨l,xs,y,rfl,rfl,hH,hz,q⟩:=h;cases rx;obtain⟨u,rfl,ru⟩:=rv.one;obtain⟨z,its,n,r,hl,e⟩:=I.HU hH;refine call_meets F.slot_list_append ⟨_,e,rfl⟩ F.entry_list_append (F.args_list_append_2 _ _) (PySem.list_append l its.toArray n u (by rw[Yx];omega)) ⟨e,?_⟩
 refine⟨.fm,_,I.RL (its':=its++[u]) hH e (by simp) (r.append (.cons ru .nil)) ?_,rfl,q⟩
 rw[Yg,List.length_singleton];omega
def HW:V->List V->Hp->VK->Prop:=λx vs H Q=>∃l xs,x=.ref l/\vs=[]/\H l=j? (.lst xs)/\Q .fm (upd H l (.lst xs.reverse))
theorem pZ:Xu X "list.reverse" HW:=by
 intro pins s σ H x vs v us Q I rx rv h;obtain⟨l,xs,rfl,rfl,hH,q⟩:=h;cases rx;have hus:=rv.zero;subst hus;obtain⟨z,its,n,r,hl,e⟩:=I.HU hH;refine call_meets F.slot_list_reverse ⟨_,e,rfl⟩ F.entry_list_reverse (F.args_list_reverse_1 _) (AutoSeq1.list_reverse_list_0 l its.toArray n (by rw[Yx];omega)) ⟨e,?_⟩
 refine⟨.fm,_,I.RL (its':=its.reverse) hH e (by simp) r.reverse ?_,rfl,q⟩
 rw[Z8];omega
def UQ:R2:=λx y H Q=>∃l b xs zs,x=.ref l/\y=.ref b/\H l=j? (.lst xs)/\H b=j? (.lst zs)/\xs.length+zs.length<=K?/\∀p,H p=q?->Q (.ref p) (upd H p (.lst (xs++zs)))
theorem i6:pQ X (binaryOp .Add) UQ:=by
 intro pins s σ H x y v u Q I rx ry h;obtain⟨l,b,xs,zs,rfl,rfl,hH,hB,hz,q⟩:=h;cases rx;cases ry;obtain⟨z,its,n,r,hl,e⟩:=I.HU hH;obtain⟨z2,its2,n2,r2,hl2,e2⟩:=I.HU hB;refine PySem.P.add_list e e2 ?_ (by rw[Yx,Yx];omega)
 have ea:its.toArray++its2.toArray=(its++its2).toArray:=by simp
 rw[ea];exact⟨.ref _,_,I.RM (t':=s.toks) (r.append r2) (by rw[Yg];omega),rfl,q _ I.fresh⟩
def UR:R2:=λx y H Q=>∃l k xs,x=.ref l/\y=.int k/\H l=j? (.lst xs)/\-(2 ^ 63)<=k/\k<2 ^ 63/\xs.length*k.toNat<=K?/\
 ∀p,H p=q?->Q (.ref p) (upd H p (.lst (Yn k.toNat xs).flatten))
theorem len_rep {α:Type}(xs:List α)(k:Nat):(Yn k xs).flatten.length=k*xs.length:=by
 induction k with
 | zero=>simp
 | succ k ih=>rw[Z2,W0,Yg,ih,Nat.succ_mul,Jd]
theorem s_:pQ X (binaryOp .Mult) UR:=by
 intro pins s σ H x y v u Q I rx ry h;obtain⟨l,k,xs,rfl,rfl,hH,h1,h2,hz,q⟩:=h;cases rx;obtain⟨t,rfl⟩:=ry;obtain⟨z,its,n,r,hl,e⟩:=I.HU hH;have hlen:its.toArray.size*k.toNat<=K?:=by rw[Yx,<- hl];exact hz
 have hcap:¬ its.toArray.size*k.toNat > (2 ^ 63-1) / 8:=by
  have:(K?:Nat)<=(2 ^ 63-1) / 8:=by decide
  omega
 have hfit:¬ (!Builtin.List.listFitsIndex k)=true:=by
  rw[fitsIndex_both h1 h2];exact E?
 have RN:¬ Builtin.List.listTooLong (its.toArray.size*k.toNat)=true:=by
  rw[HV hlen];exact E?
 have hnew:List.foldl (λx1 x2=>x1++x2) #[] (Yn (if its.toArray.isEmpty=true then 0 else k.toNat) its.toArray)=(Yn k.toNat its).flatten.toArray:=by
  have f0:∀m:Nat,List.foldl (λx1 x2=>x1++x2) #[] (Yn m its.toArray)=(Yn m its).flatten.toArray:=λm=>by
   have:=foldl_rep its m []
   rw[List.nil_append] at this;exact this
  rw[f0];cases its with
  | nil=>simp
  | cons a r'=>rw[Jk (by simp)]
 refine wpAny_binaryOp_repeat_ref (T:="list") (U:="int") (by decide) ⟨_,e,rfl⟩ (λs'=>typeIs_int s' k t) noFill_list_mul F.fills_int_mul F.slot_int_rmul repeat_list F.slot_int_index.lookup
  (call_meets F.slot_int_rmul (typeIs_int s k t) F.entry_int_rmul (F.args_int_rmul_2 _ _) (int___rmul___int_list k t l its.toArray n)
   ⟨e,rfl,⟨_,e,rfl⟩,call_meets F.slot_list_mul ⟨_,e,rfl⟩ F.entry_list_mul (F.args_list_mul_2 _ _) (AutoListH.list___mul___list_int_3 l its.toArray n k t hfit hcap RN) ⟨e,?_⟩⟩)
 rw[hnew];exact⟨.ref _,_,I.RM (t':=s.toks) (r.rep k.toNat) (by rw[len_rep,Zk];exact hz),rfl,q _ I.fresh⟩
end
end L2
namespace Att
open PySem PySem.W PySem.Calls PyProof.Rows
theorem uX {P:Params}{h:O?}:∀(ns:List Int) (vs:List l?),WellAll P h vs (ns.map WData.int)->IntsAre vs ns:=by
 intro ns;induction ns with
 | nil=>
  intro vs w;rw[List.map_nil] at w;cases w;exact .nil
 | cons n ns ih=>
  intro vs w;rw[List.map_cons] at w;cases w with
  | cons a b=>
   cases a;exact .cons _ _ (ih _ b)
theorem Gy {l:OpenLaw}{n:Nat}(hn:l.most=j? n){P:Params}{h:O?}{args:List WData}{vals:List l?}
  (hpre:l.row.toRowW.claim.pre args=true) (hwl:WellAll P h vals args):
  ∃a vs ns,vals=[I! a]/\args=[WData.list (ns.map WData.int)]/\h.get? a=j? { cls:=.type "list",data:=.seq vs.toArray }/\IntsAre vs ns/\ns.length<=n:=by
 have hsh:WShape.hasAll [] args [.list .int]=true:=(pre_splitW hpre).1;have hc:l.pre.holds [] { args:=args }=true:=(pre_splitW hpre).2;obtain⟨d,r,rfl,h1,h2⟩:=hasAllW_cons hsh;obtain rfl:=hasAllW_nil h2
 obtain⟨xs,rfl,h3⟩:=hasW_list h1;obtain⟨ns,rfl⟩:=items_int h3;have hlen:ns.length<=n:=by
  unfold OpenLaw.pre at hc;have h4:(WTm.not (.lt (.lit (.int (n:Int))) (.len (.arg 0)))).holds [] { args:=[.list (ns.map .int)] }=true:=by
   have h4:=(holds_andW hc).1;rw[hn] at h4;exact h4
  have h5:=condW_of h4 (w_not (w_lt w_lit (w_len_list (w_arg rfl))));rw[Ya] at h5;refine Nat.le_of_not_lt λq=>?_
  have q':(n:Int)<((ns.length:Nat):Int):=by omega
  first
   | (rw[Jm q'] at h5;exact Jr h5 (by decide))
   | (simp at h5;omega)
 cases hwl with
 | cons w1 w2=>
  cases w2;cases w1 with
  | list ho hall=>exact⟨_,_,ns,rfl,rfl,ho,uX ns _ hall,hlen⟩
theorem Gz (l:OpenLaw)(args:List WData):l.row.toRowW.claim.post args (.bool true) args=true:=
 postW_of (r:=l.row.toRowW) (X:=(true == true))
  (show WShape.has [] (.bool true) .bool=true by first|rfl|decide|simp[WShape.has,WShape.arms,WShape.armsAll])
  (show(WTm.eq .res (.lit (.bool true))).value [] { args:=args,res:=j? (.bool true),after:=args }=j? (.bool (true == true)) from w_eq_bool (w_res rfl) w_lit) rfl
theorem Bp {l:OpenLaw}{n:Nat}{q:F?}{loose:List Str}{XP:(Str->Option l?)->O?->Prop}{YP:H?->O?->Prop}{d:DefRec}
  (hn:l.most=j? n) (hdf:d.params.defaults=[])
  (call:∀(w:H?) (s₀ s₁:u?) (mg mb:Str->Option l?) (fa:o?) (o:Obj) (pm cd doc:l?) (a:o?) (vs:List l?) (ns:List Int),
   Ground q loose [] XP w s₀ mg mb s₁.heap->YP w s₁.heap->
   s₁.heap.get? fa=j? o->o.data=.func (docDef d.name d.params d.body d.scope pm cd doc)->s₁.heap.CodeRec cd d.name->mg d.name=j? (.ref fa)->
   s₁.heap.get? a=j? { cls:=.type "list",data:=.seq vs.toArray }->IntsAre vs ns->ns.length<=n->s₁.gens=#[]->
   codeAny (S? l.prog w) callerA (.call (.ref fa) ⟨[.ref a],[]⟩) (λr s'=>r=.ok (.ret (.bool true))/\OldK s₁.heap s'.heap/\s'.os=s₁.os/\AllBare s'.gens) s₁):
  WalkO q loose XP YP l.row.toRowW d [] (λf vs=>PySem.call f vs):=by
 intro w s₀ s₁ mg mb G Y fa o pm cd doc dV kV ho hd hcd hD hmg hg args vals as hpre hlay hrd hwl hlo;obtain rfl:dV=.none:=Dflts.none hD hdf
 obtain rfl:kV=.none:=Dflts.noKw hD
 obtain⟨a,vs,ns,rfl,rfl,hobj,hints,hlen⟩:=Gy hn hpre hwl;refine enter_call (codeAny_mono (call w s₀ s₁ mg mb fa o pm cd doc a vs ns G Y ho (fd_plain hd) hcd hmg hobj hints hlen hg) λr s' hq=>?_)
 obtain⟨rfl,h2,h3,h4⟩:=hq;exact⟨.inl ⟨.bool true,.bool true,[],rfl,λ_=>rfl,.bool true,Gz l _,λ_=>⟨List.Pairwise.nil,λ_ hm=>(nomatch hm)⟩⟩,h2,h3,h4⟩
end Att
namespace L2
open PySem PySem.Spec PyProof.Rows
theorem yN:∀ {vs:List l?} {ns:List Int},IntsAre vs ns->Vals (ns.map V.int) vs
 | _,_,.nil=>.nil
 | _,_,.cons n t h=>.cons ⟨t,rfl⟩ (yN h)
def dF (s:Q?):Arguments:=match s with
 | .FunctionDef _ a _ _ _ _ _ _ _ _=>a
 | _=>{ posonlyargs:=[],args:=[],vararg:=q?,kwonlyargs:=[],kw_defaults:=[],kwarg:=q?,defaults:=[] }
def cE (s:Q?):List Q?:=match s with
 | .FunctionDef _ _ b _ _ _ _ _ _ _=>b
 | _=>[]
def aq (s:Q?):Scope:=match s with
 | .FunctionDef _ _ _ _ _ _ sc _ _ _=>sc
 | _=>{ kind:=.function,names:=[],isGenerator:=false,isCoroutine:=false }
abbrev GA:HD:=λ_ _ _ _ _ _=>False
abbrev E0:XK:=λ_ _ _=>False
theorem RO {X:Cx}:Passes GA X E0:=λ_ _ _ _ _ _ _ h=>h.elim
structure Ls (K:bX)(x qual:Str)(st:Q?)(f:o?)(fd:O!):Prop where
 ex:∃(oc:l?) (od:Option o?) (kV doc pm:l?) (an:Option o?) (cdv ct:l?) (osl:Array (Option l?)),
  fd=W? x qual (dF st) (cE st) (aq st) .none kV doc pm an cdv ct/\K.lookup f=j? ⟨oc,od,.func fd,osl⟩/\PySem.W.codeIn K cdv qual=true
 kp:C! K (.ref f)=true
section
variable {P:F?} {w:H?} {K:bX} {mg:Str->Option l?} {base:O?}
theorem Ls.ok {x qual:Str}{st:Q?}{f:o?}{fd:O!}{N ps:List Str}{k:Nat}{sp:Sp}(F:Ls K x qual st f fd)(S:aK N ps (aq st))(len:∀vs H Q E,sp vs H Q E->vs.length=ps.length)
  (hbody:∀(cdv:l?) (A:A!) (outer:List Env) (s:u?) (H:Hp) (vs:List V) (Q:VK) (E:XK),fR k (A.deeper (envOfC qual (aq st) s.heap.objs.size f cdv))->sp vs H Q E->
   ∃t,C6 (zI GA P w K mg base N qual (aq st) f cdv A outer s H E).Nl (cE st) t/\t { nx:=λ_ H'=>Q .fm H',rt:=Q } (start N vs) H):qY P w K mg base GA (k+1) f fd ps sp:=by
 obtain⟨oc,od,kV,doc,pm,an,cdv,ct,osl,rfl,lk,hcd⟩:=F.ex;refine Nu lk hcd S len λA outer s H vs Q E hr Lq=>?_
 obtain⟨t,h,q⟩:=hbody cdv A outer s H vs Q E hr Lq;exact⟨t,h.Nl,q⟩
theorem Ls.binds {x qual:Str}{st:Q?}{f:o?}{fd:O!}{ps:List Str}(F:Ls K x qual st f fd)
  (h:∀(kV doc pm:l?) (an:Option o?) (cdv ct:l?) (us:List l?),us.length=ps.length->bindArgs (W? x qual (dF st) (cE st) (aq st) .none kV doc pm an cdv ct) ⟨us,[]⟩=pure (ps.zip us)):Binds K fd ps []:=by
 obtain⟨oc,od,kV,doc,pm,an,cdv,ct,osl,rfl,lk,hcd⟩:=F.ex;exact .all (h kV doc pm an cdv ct)
theorem vY {x qual:Str}{st:Q?}{f:o?}{oc:l?}{od an:Option o?}{osl:Array (Option l?)}{kV doc pm cdv ct:l?}(l:K.lookup f=j? ⟨oc,od,.func (W? x qual (dF st) (cE st) (aq st) .none kV doc pm an cdv ct),osl⟩)
  (c:P! K cdv qual=true) (k:C! K (.ref f)=true):Ls K x qual st f (W? x qual (dF st) (cE st) (aq st) .none kV doc pm an cdv ct):=⟨⟨oc,od,kV,doc,pm,an,cdv,ct,osl,rfl,l,c⟩,k⟩
end
section
variable {X:Cx}
theorem pv (i:Nat){x:Str}{pos:Pos}(hN:X.N[i]?=j? x:=by rfl)(hv:QF X.env.scope x:=by first|exact z? rfl|exact Or.inr (z? rfl)|exact Or.inr (Or.inr rfl))(hd:(x ==("__debug__":Str))=false:=by decide)
  (hcd:(x ==("__classdict__":Str))=false:=by decide):PE X (.Name x pos) (Ot i):=Ou hN hv hd hcd
end
theorem tu {A B:Prop}(h:B):if false=true then A else B:=by
 rw[Jk E?];exact h
theorem vZ {A B:Prop}(h:A):if true=true then A else B:=by
 rw[Jl rfl];exact h
theorem fV {c A B:Prop}[Decidable c](h1:c->A)(h2:¬ c->B):if c then A else B:=by
 by_cases h:c
 ·rw[Jl h]
  exact h1 h
 ·rw[Jk h]
  exact h2 h
theorem v5 {c A B:Prop}[Decidable c](hc:c)(h:B):if (!decide c)=true then A else B:=by
 rw[Jm hc];exact tu h
def aI (H H':Hp):Prop:=∀b o,H b=j? o->H' b=j? o
theorem aI.refl (H:Hp):aI H H:=λ_ _ h=>h
theorem aI.trans {H H1 H2:Hp}(a:aI H H1)(b:aI H1 H2):aI H H2:=λc o h=>b c o (a c o h)
theorem aI.free {H H':Hp}(e:aI H H'){l:o?}(h:H' l=Option.none):H l=Option.none:=by
 cases q:H l with
 | none=>rfl
 | some o=>
  rw[e l o q] at h;cases h
theorem aI.seq {K:bX}{H H':Hp}{a:o?}{xs:List V}(e:aI H H')(h:aQ K H a xs):aQ K H' a xs:=by
 rcases h with (h|⟨o,h⟩)|h
 ·exact .inl (.inl (e _ _ h))
 ·exact .inl (.inr ⟨o,e _ _ h⟩)
 ·exact .inr h
theorem fP {env:Env}:∀ {names:List (Str×NameKind)} {x:Str},names.lookup x=j? .free->
  (names.map λ(n,k)=>if (k == Z? && env.scope.kind == .function && env.kindOf n == j? .cell) then (n,K!) else (n,k)).lookup x=j? .free\/
  (names.map λ(n,k)=>if (k == Z? && env.scope.kind == .function && env.kindOf n == j? .cell) then (n,K!) else (n,k)).lookup x=j? .cell
 | [],_,h=>by simp at h
 | (n,k)::r,x,h=>by
  have ih:=@fP env r x;show List.lookup x ((if (k == Z? && env.scope.kind == .function && env.kindOf n == j? .cell)=true then (n,K!) else (n,k))::_)=_\/List.lookup x ((if (k == Z? && env.scope.kind == .function && env.kindOf n == j? .cell)=true then (n,K!) else (n,k))::_)=_
  cases hx:x == n with
  | true=>
   simp only[Y7,hx] at h
   cases h;by_cases hc:(Z? == Z? && env.scope.kind == .function && env.kindOf n == j? .cell)=true
   ·rw[Jl hc];exact .inr (by simp only[Y7,hx])
   ·rw[Jk hc];exact .inl (by simp only[Y7,hx])
  | false=>
   simp only[Y7,hx] at h
   by_cases hc:(k == Z? && env.scope.kind == .function && env.kindOf n == j? .cell)=true
   ·rw[Jl hc];simp only[Y7,hx];exact ih h
   ·rw[Jk hc];simp only[Y7,hx];exact ih h
theorem lE {env:Env}:∀ {names:List (Str×NameKind)} {x:Str} {kd:NameKind},(∀y∈names,y.2≠.cell)->kd=.cell\/kd=.free->
  (names.map λ(n,k)=>if (k == Z? && env.scope.kind == .function && env.kindOf n == j? .cell) then (n,K!) else (n,k)).lookup x=j? kd->names.lookup x=j? .free
 | [],_,_,_,_,h=>by simp at h
 | (n,k)::r,x,kd,hn,hk,h=>by
  have ih:=@lE env r x kd (λy hy=>hn y (Zb _ hy)) hk
  have h':List.lookup x ((if (k == Z? && env.scope.kind == .function && env.kindOf n == j? .cell)=true then (n,K!) else (n,k))::(r.map λ(n,k)=>if (k == Z? && env.scope.kind == .function && env.kindOf n == j? .cell) then (n,K!) else (n,k)))=j? kd:=h
  have hkc:k≠.cell:=hn (n,k) Zj;by_cases hc:(k == Z? && env.scope.kind == .function && env.kindOf n == j? .cell)=true
  ·rw[Jl hc] at h'
   have hkf:k=.free:=by
    simp only[T?,beq_iff_eq] at hc
    exact hc.1.1
   subst hkf;cases hx:x == n with
   | true=>simp only[Y7,hx]
   | false=>simp only[Y7,hx] at h' ⊢;exact ih h'
  ·rw[Jk hc] at h'
   cases hx:x == n with
   | true=>
    simp only[Y7,hx] at h' ⊢
    have e:k=kd:=M? h';subst e;rcases hk with hk|hk
    ·exact Jr hk hkc
    ·rw[hk]
   | false=>simp only[Y7,hx] at h' ⊢;exact ih h'
def aR (cells:List (Str×o?)):List (Str×NameKind)->List (Str×o?)->List (Str×o?)
 | [],acc=>acc
 | (n,k)::r,acc=>aR cells r (if k=.free then match cells.lookup n with|some c=>(n,c)::acc|none=>acc else acc)
theorem iE {scope:Scope}{env:Env}(h:∀y∈scope.names,y.2=.free->∃c,env.cells.lookup y.1=j? c):closureFor scope env=pure (aR env.cells scope.names []):=by
 have go:∀(l:List (Str×NameKind)) (acc:List (Str×o?)),(∀y∈l,y.2=.free->∃c,env.cells.lookup y.1=j? c)->
   (forIn l acc λx (r:List (Str×o?))=>(match x with|(name,kind)=>if (kind == Z?)=true then do let c <- cellOf env name;pure (ForInStep.yield ((name,c)::r)) else pure (ForInStep.yield r):Sem (ForInStep (List (Str×o?)))))=pure (aR env.cells l acc):=by
  intro l;induction l with
  | nil=>intro acc _;rfl
  | cons x l ih=>
   intro acc hl;obtain⟨n,k⟩:=x;rw[List.forIn_cons];by_cases hk:k=.free
   ·subst hk
    obtain⟨c,hc⟩:=hl (n,.free) Zj rfl;have e1:cellOf env n=pure c:=by unfold cellOf;rw[hc]
    simp only[beq_self_eq_true,if_true,e1,pure_bind]
    rw[ih _ λy hy=>hl y (Zb _ hy)]
    show _=pure (aR env.cells l (if Z?=.free then match env.cells.lookup n with|some c=>(n,c)::acc|none=>acc else acc))
    rw[Jl rfl,hc]
   ·have hb:(k == Z?)=false:=by simpa using hk
    simp only[hb,Bool.false_eq_true,if_false,pure_bind]
    rw[ih _ λy hy=>hl y (Zb _ hy)]
    show _=pure (aR env.cells l (if k=.free then _ else acc))
    rw[Jk hk]
 unfold closureFor;have:=go scope.names [] h
 simp only[bind_pure_comp] at this ⊢
 first
  | exact this
  | simpa using this
theorem j5 {cells:List (Str×o?)}{x:Str}{c:o?}:∀(l:List (Str×NameKind)) (acc:List (Str×o?)),(∀d,acc.lookup x=j? d->cells.lookup x=j? d)->(aR cells l acc).lookup x=j? c->cells.lookup x=j? c
 | [],acc,h,e=>h c e
 | (n,k)::r,acc,h,e=>by
  refine j5 r _ (λd hd=>?_) e
  split at hd
  ·split at hd
   ·rename_i c' hc'
    cases hx:x == n with
    | true=>
     simp only[Y7,hx] at hd
     have:x=n:=by simpa using hx
     subst this;rw[hc'];exact hd
    | false=>simp only[Y7,hx] at hd;exact h d hd
   ·exact h d hd
  ·exact h d hd
theorem gk {cells:List (Str×o?)}{x:Str}{c:o?}(hc:cells.lookup x=j? c):∀(l:List (Str×NameKind)) (acc:List (Str×o?)),(acc.lookup x=j? c\/(x,Z?)∈l)->(∀d,acc.lookup x=j? d->d=c)->(aR cells l acc).lookup x=j? c
 | [],acc,h,_=>by
  rcases h with h|h
  ·exact h
  ·cases h
 | (n,k)::r,acc,h,u=>by
  by_cases hk:k=.free
  ·subst hk
   show(aR cells r (if Z?=.free then match cells.lookup n with|some c=>(n,c)::acc|none=>acc else acc)).lookup x=j? c
   rw[Jl rfl];by_cases hx:x=n
   ·subst hx
    rw[hc];refine gk hc r _ (.inl (by simp)) λd hd=>?_
    simp at hd
    exact hd.symm
   ·have hb:(x == n)=false:=by simpa using hx
    have keep:∀(a2:List (Str×o?)),(match cells.lookup n with|some c=>(n,c)::acc|none=>acc)=a2->a2.lookup x=acc.lookup x:=by
     intro a2 e;subst e;cases cells.lookup n with
     | none=>rfl
     | some c'=>simp only[Y7,hb]
    refine gk hc r _ ?_ λd hd=>u d (by rw[keep _ rfl] at hd;exact hd)
    rcases h with h|h
    ·exact .inl (by rw[keep _ rfl];exact h)
    ·rcases List.mem_cons.mp h with h|h
     ·exact Jr (Jp Prod.fst h) hx
     ·exact .inr h
  ·show(aR cells r (if k=.free then _ else acc)).lookup x=j? c
   rw[Jk hk];refine gk hc r _ ?_ u
   rcases h with h|h
   ·exact .inl h
   ·rcases List.mem_cons.mp h with h|h
    ·exact Jr (Jp Prod.snd h).symm hk
    ·exact .inr h
abbrev fW (X:Cx)(N:List Str)(scope:Scope)(cl:List (Str×o?))(C:o?)(s2:u?)(H2:Hp)(fp:List o?):Cx:=
 { X with N:=N,s₀:=s2,H₀:=H2,env:=compEnvC scope cl C X.env,outer:=X.stack,ex:=fp,fn:=λ_=>false,pn:=[],xe:=λ_ _=>False }
def fK (sl:List (Option Nat))(σ:St):St:=sl.map λo=>match o with|some i=>(σ[i]?).join|none=>q?
structure bF (X:Cx)(N:List Str)(sl:List (Option Nat))(scope:Scope):Prop where
 kind:scope.kind=.function
 tw:∀y∈scope.names,y.2≠.cell
 locs:∀y∈scope.names,y.2=.local->scope.names.lookup y.1=j? .local
 frees:∀y∈scope.names,y.2=.free->X.env.kindOf y.1=j? .cell\/X.env.kindOf y.1=j? .free
 len:sl.length=N.length
 out:∀(j i:Nat) (x:Str),N[j]?=j? x->sl[j]?=j? (j? i)->X.N[i]?=j? x/\scope.names.lookup x=j? .free
def Nx (X:Cx)(ifs:List Expr)(t:TT):Prop:=
 ∀(pins:List (o?×Obj)) (s:u?) (σ:St) (H:Hp) (Q:Bool->Hp->Prop),Inv X pins σ H s->t σ H Q->
  L? (S? X.prog X.w) X.A (forIn ifs true λc r=>if r=true then do let ok <- isTrue c X.env (eval c X.env);pure (ForInStep.yield ok) else pure (ForInStep.yield r)) (TP X pins σ Q) X.xe s
def LU:TT:=λ_ H Q=>Q true H
theorem aU {X:Cx}:Nx X [] LU:=λpins s σ H Q I h=>by
 rw[List.forIn_nil];exact J? ⟨H,I,h⟩
theorem LV {X:Cx}{c:Expr}{t:TT}(h:PT X c t):Nx X [c] t:=λpins s σ H Q I q=>by
 rw[List.forIn_cons];refine B? ?_
 rw[Jl rfl];refine B? (eY (h pins s σ H Q I q) λb s1 r=>J? ?_)
 show L? _ _ (forIn [] b _) _ _ _
 rw[List.forIn_nil];exact J? r
def uJ (J:It)(D:o?)(st:St)(g:TG)(o_:TT)(te:TE)(Q:VK)(H1:Hp):Prop:=∃W:Nat->Nat->Hp->Prop,
 (∃m,W 0 m (upd H1 D (.lst [])))/\∀i m H2,W i m H2->
  (J.stop i H2/\Q (.ref D) H2)\/(J.go i H2/\∀x H',J.OD i H2 x H'->g x st H' λσ3 H3=>o_ σ3 H3 λb H4=>
   if b=true then te σ3 H4 λy H5=>∃ys,H5 D=j? (.lst ys)/\ys.length<K?/\∃m',m'<m/\W (i+1) m' (upd H5 D (.lst (ys++[y]))) else ∃m',m'<m/\W (i+1) m' H4)
def yO (wi:TI)(sl:List (Option Nat))(g:TG)(o_:TT)(te:TE):TE:=λσ H Q=>wi σ H λJ H1=>∀D,H1 D=q?->uJ J D (fK sl σ) g o_ te Q H1
section
variable {X:Cx} {N:List Str} {sl:List (Option Nat)} {scope:Scope}
theorem uK {σ:St}{j:Nat}{v:V}(h:(fK sl σ)[j]?=j? (j? v)):∃i,sl[j]?=j? (j? i)/\σ[i]?=j? (j? v):=by
 unfold fK at h;rw[Ye] at h;cases e:sl[j]? with
 | none=>rw[e] at h;cases h
 | some o=>
  rw[e] at h;cases o with
  | none=>cases h
  | some i=>
   refine⟨i,rfl,?_⟩
   have h':(σ[i]?).join=j? v:=M? h;cases e2:σ[i]? with
   | none=>rw[e2] at h';cases h'
   | some q=>rw[e2] at h';exact Jp j? h'
theorem bF.clos (S:bF X N sl scope)(ok:X.Ok):closureFor scope X.env=pure (aR X.env.cells scope.names []):=
 iE λy hy hf=>ok.has y.1 (S.frees y hy hf)
theorem bF.cell (S:bF X N sl scope)(ok:X.Ok){x:Str}(hf:scope.names.lookup x=j? .free){c:o?}(hc:X.env.cells.lookup x=j? c):(aR X.env.cells scope.names []).lookup x=j? c:=
 gk hc _ _ (.inr (U? hf)) λd hd=>by simp at hd
theorem bF.back {x:Str}{c:o?}(h:(aR X.env.cells scope.names []).lookup x=j? c):X.env.cells.lookup x=j? c:=
 j5 _ _ (λd hd=>by simp at hd) h
theorem bF.ok (S:bF X N sl scope){pins:List (o?×Obj)}{σ:St}{H2:Hp}{s2:u?}{fp:List o?}{C:o?}(I:Inv X pins σ H2 s2)(hf:∀b∈fp,jP X pins H2 b)(hlt:∀b∈fp,b<s2.heap.objs.size)(hC:s2.heap.objs.size<=C):
  (fW X N scope (aR X.env.cells scope.names []) C s2 H2 fp).Ok where
 mod:=I.ok.mod
 kind:=S.kind
 glob:=I.ok.glob
 blt:=I.ok.blt
 above:=hC
 inj:=λx y c h1 h2=>I.ok.inj x y c (bF.back h1) (bF.back h2)
 has:=λx hx=>by
  have hx':scope.names.lookup x=j? .free:=by
   rcases hx with hx|hx
   ·exact lE S.tw (.inl rfl) hx
   ·exact lE S.tw (.inr rfl) hx
  obtain⟨c,hc⟩:=I.ok.has x (S.frees _ (U? hx') rfl);exact⟨c,S.cell I.ok hx' hc⟩
 Nh:=λx c h=>Jr (show false=true from h) E?
 hd:=I.ok.hd
 frames:=I.ok.frames
 stk:=.inl rfl
 QG:=λb hb=>⟨Yw (Yj (hlt b hb) hC),λx c h=>(hf b hb).2.2.2.2.1 x c (bF.back h)⟩
 bs:=I.bs
 EV:=Ym I.ok.EV I.sz
 Bg:=λb o e hb=>by
  rcases (hf b hb).2.2.2.1 with z|z
  ·exact I.ok.Bg b o e z
  ·exact Jr (Yj (Yj (Yl e) I.ok.EV) z) (We _)
 Bh:=λb hb z=>by
  rcases List.mem_cons.mp (I.vP b z) with e|e
  ·exact(hf b hb).2.1 e
  ·exact(hf b hb).2.2.1 e
 oZ:=I.stack
 Lo:=I.zA
theorem bF.again (S:bF X N sl scope){pins:List (o?×Obj)}{σ:St}{H2:Hp}{s2:u?}{fp:List o?}{C:o?}(I:Inv X pins σ H2 s2)(hf:∀b∈fp,jP X pins H2 b)
  {uH:List (o?×Obj)} {σ':St} {H':Hp} {s':u?} (J:Inv (fW X N scope (aR X.env.cells scope.names []) C s2 H2 fp) uH σ' H' s'):
  Inv (fW X N scope (aR X.env.cells scope.names []) C s2 H2 fp) uH (fK sl σ) H' s':=by
 obtain⟨m,hn,_⟩:=J.loc;refine⟨J.ok,J.os,J.bare,J.base,⟨m,hn,λj x v e1 e2 _=>?_⟩,J.cell,J.free,J.jd,J.pin,J.hok,?_⟩
 ·obtain⟨i,h1,h2⟩:=uK e2
  obtain⟨hN,hfree⟩:=S.out j i x e1 h1;have hk:=S.frees _ (U? hfree) rfl;obtain⟨m0,hn0,HX⟩:=I.loc;have hv:QF X.env.scope x:=by
   rcases hk with hk|hk
   ·exact .inr (.inl hk)
   ·exact .inr (.inr hk)
  obtain⟨u,r,l⟩:=HX i x v hN h2 hv;refine⟨u,r,.inr ⟨?_,?_⟩⟩
  ·rcases fP (env:=X.env) hfree with z|z
   ·exact .inr z
   ·exact .inl z
  ·rcases l with ⟨z,_⟩|⟨_,c,hc,q⟩
   ·rcases hk with hk|hk
    ·have hk':X.env.kindOf x=j? .cell:=hk
     rw[hk'] at z;cases z
    ·have hk':X.env.kindOf x=j? .free:=hk
     rw[hk'] at z;cases z
   ·refine⟨c,S.cell I.ok hfree hc,?_⟩
    obtain⟨o,ho,hd⟩:=q;have OR:c ∉ fp:=λz=>(hf c z).2.2.2.2.1 x c hc rfl
    obtain⟨Uw,e⟩:=J.base.any ho (I.jd x c hc) OR;exact⟨_,e,hd⟩
 ·unfold fK
  rw[Ya];exact S.len
theorem Bq {elt tg iter:Expr}{ifs:List Expr}{pos pos2:Pos}{wi:TI}{g:TG}{o_:TT}{te:TE}{use:Option (l?->Sem Unit)}{QQ:l?->u?->Prop}(S:bF X N sl scope)(kI:X.calm=true)(hi:PI X tg iter wi)
  (hg:∀cl C s2 H2 fp,PG (fW X N scope cl C s2 H2 fp) tg g) (hif:∀cl C s2 H2 fp,Nx (fW X N scope cl C s2 H2 fp) ifs o_) (he:∀cl C s2 H2 fp,PE (fW X N scope cl C s2 H2 fp) elt te)
  (hs:∀x,foldedSetIterable iter X.env x=pure x) {pins:List (o?×Obj)} {s:u?} {σ:St} {H:Hp} {Q:VK} (I:Inv X pins σ H s) (h:yO wi sl g o_ te σ H Q)
  (hend:∀(D C:o?) (H3:Hp) (s4:u?) (fl:Flow),Inv X pins σ H3 s4->H3 C=q?->C≠X.env.locals->C ∉ X.fs->X.s₀.heap.objs.size<=C->(∀x c,X.env.cells.lookup x=j? c->c≠C)->(∀p∈X.pn++pins,p.1≠C)->(∃m,s4.heap.Ns C m)->Q (.ref D) H3->
   compPost (S? X.prog X.w) X.A X.xe use QQ (.ref D) C (.ok fl) s4):
  L? (S? X.prog X.w) X.A (comprehension (.ListComp elt [⟨tg,iter,ifs,0⟩] scope pos) scope X.env pos2 (newList []) false (eval iter X.env) use) QQ X.xe s:=by
 refine wpAny_comprehension_free (use:=use) rfl hs (S.clos I.ok) S.kind S.locs (B! (hi pins s σ H _ I h) (λxv s1 h1=>B! h1 (λitv s2 h2=>?_) λ_ _ e=>e) λ_ _ e=>e)
 obtain⟨it,fp,tn,J,H2,rfl,I2,T,st2,f2,hR⟩:=h2;obtain⟨W,⟨m0,w0⟩,turn⟩:=hR _ I2.fresh;refine wpAny_newObj_type (wpAny_newFunctionEnv S.tw (by intro y hy;simp at hy) (λh₁ v7 zM=>?_) S.kind)
 dsimp only at v7 zM ⊢
 generalize hP:s2.heap.push { cls:=.type "list",dict:=q?,data:=.seq ([]:List l?).toArray }=P2 at v7 zM ⊢;have hC:P2.objs.size=s2.heap.objs.size+1:=by rw[<- hP,Heap.size_push]
 have hDC:s2.heap.objs.size≠P2.objs.size:=by rw[hC];exact Yw (Nat.lt_succ_self _)
 have tD:s2.heap.objs.size<=P2.objs.size:=by rw[hC];exact Ji _
 have hlt:∀b∈fp,b<s2.heap.objs.size:=λb hb=>let ⟨o,e,_⟩:=T.obj 0 _ st2 b hb;Yl e
 have old:∀b o,s2.heap.get? b=j? o->h₁.get? b=j? o:=λb o e=>zM.extBut b o (Yw (Yj (Yl e) tD)) (Yh _ (hP ▸ Yh _ e))
 have US:h₁.get? s2.heap.objs.size=j? { cls:=.type "list",dict:=q?,data:=.seq ([]:List l?).toArray }:=zM.extBut _ _ hDC (Yh _ (hP ▸ Y9 _ rfl));have hok:=S.ok (C:=P2.objs.size) I2 f2 hlt tD;have OS:uW X.prog X.w (upd H2 s2.heap.objs.size (.lst [])) h₁:=I2.hok.laid old (Yd _) ⟨Y5 _,[],_,.nil,US⟩;have UT:Un (frs X.stack) fp H2 (upd H2 s2.heap.objs.size (.lst [])) s2.heap h₁:=Un.laid old (Yd _) I2.fresh;have Di:∀x c,(aR X.env.cells scope.names []).lookup x=j? c->∃v,h₁.IsCell c v:=λx c hc=>by
  obtain⟨v,o,ho,hd⟩:=I2.cell x c (bF.back hc);exact⟨v,o,old c o ho,hd⟩
 have Dj:∀x c,(aR X.env.cells scope.names []).lookup x=j? c->upd H2 s2.heap.objs.size (.lst []) c=q?:=λx c hc=>by
  obtain⟨v,q⟩:=I2.cell x c (bF.back hc);rw[aN (Yw q.lt)];exact I2.jd x c (bF.back hc)
 have Dk:upd H2 s2.heap.objs.size (.lst []) P2.objs.size=q?:=by
  rw[aN (Ne.symm hDC)];exact I2.hok.fresh tD
 have start:∀tk:Nat,Inv (fW X N scope (aR X.env.cells scope.names []) P2.objs.size s2 H2 fp) [] (fK sl σ) (upd H2 s2.heap.objs.size (.lst [])) { s2 with heap:=h₁,toks:=tk }:=λtk=>by
  have J0:Inv (fW X N scope (aR X.env.cells scope.names []) P2.objs.size s2 H2 fp) [] (Yn N.length q?) (upd H2 s2.heap.objs.size (.lst [])) { s2 with heap:=h₁,toks:=tk }:=
   ⟨hok,rfl,I2.bare,UT,⟨_,v7,λi x v e1 e2 _=>by
    rw[Wr] at e2;split at e2 <;> cases e2⟩,Di,Dk,Dj,λp hp=>Jr (show p∈([]:List (o?×Obj)) from hp) (by simp),OS,by simp⟩
  exact S.again I2 f2 J0
 have stK:tn 0 h₁:=T.keep _ _ _ st2 λb hb o e=>old b o e
 have UU:∀b∈fp,upd H2 s2.heap.objs.size (.lst []) b=q?:=λb hb=>by
  rw[aN (Yw (hlt b hb))];exact(f2 b hb).1
 have vU:∀ {H':Hp},(∀b∈fp,H' b=q?)->∀b∈fp,jP (fW X N scope (aR X.env.cells scope.names []) P2.objs.size s2 H2 fp) [] H' b:=λhn b hb=>
  ⟨hn b hb,Yw (Yj (hlt b hb) tD),λz=>hok.Bh b hb z,.inl hb,λx c hc=>(hok.QG b hb).2 x c hc,λp hp=>Jr (show p∈([]:List (o?×Obj)) from hp) (by simp)⟩
 have loop:∀tk:Nat,codeAny (S? X.prog X.w) X.A (.compLoop (.ListComp elt [⟨tg,iter,ifs,0⟩] scope pos) 0 (.ref it) (.ref s2.heap.objs.size) (compEnvC scope (aR X.env.cells scope.names []) P2.objs.size X.env))
   (compPost (S? X.prog X.w) X.A X.xe use QQ (.ref s2.heap.objs.size) P2.objs.size) { s2 with heap:=h₁,toks:=tk }:=λtk=>by
  refine codeAny_loop rfl (λn s'=>∃i H',Inv (fW X N scope (aR X.env.cells scope.names []) P2.objs.size s2 H2 fp) [] (fK sl σ) H' s'/\tn i s'.heap/\(∀b∈fp,H' b=q?)/\W i n H') ?_ m0 ⟨0,_,start tk,stK,UU,w0⟩
  rintro n s3 ⟨i,H3,I3,st3,Np,w3⟩;show L? _ X.A ((compTurn (.ListComp elt [⟨tg,iter,ifs,0⟩] scope pos) 0 (.ref it) (.ref s2.heap.objs.size) (compEnvC scope (aR X.env.cells scope.names []) P2.objs.size X.env)).onRaise (λx=>do noteFrame x (compEnvC scope (aR X.env.cells scope.names []) P2.objs.size X.env);theTreesLotGoes x)) _ _ s3
  refine wpAny_noted ?_
  rw[compTurn_list];rcases turn i n H3 w3 with ⟨stop,qn⟩|⟨go,step⟩
  ·refine B? (wpAny_standAt (B? (B! (T.done (fW X N scope (aR X.env.cells scope.names []) P2.objs.size s2 H2 fp) rfl rfl rfl kI i [] s3 _ H3 _ I3 (vU Np) st3 stop) (λr s4 ⟨hr,I4⟩=>?_) λ_ _ z=>z)))
   subst hr;refine J? ?_
   obtain⟨m4,UW,_⟩:=I4.loc;have u0:Un (frs X.stack) fp H2 H3 s2.heap s4.heap:=I4.base;have hI:Inv X pins σ H3 s4:=I2.Nk (s':=s4) (ch:=fp) I4.os u0 I4.hok I4.bare λb hb=>⟨(f2 b hb).2.2.2.1,(f2 b hb).2.1,(f2 b hb).2.2.2.2.1,(f2 b hb).2.2.2.2.2⟩
   have LW:=I2.vS (H':=H3) tD I4.free;exact hend _ _ H3 s4 _ hI I4.free LW.2.1 LW.2.2.1 (Ym I2.sz tD) LW.2.2.2.2.1 LW.2.2.2.2.2 ⟨m4,UW⟩ qn
  ·refine B? (wpAny_standAt (B? (B! (T.item (fW X N scope (aR X.env.cells scope.names []) P2.objs.size s2 H2 fp) rfl rfl rfl kI i [] s3 _ H3 (λ_ _=>False) I3 (vU Np) st3 go) (λr s4 ⟨u,hr,h4⟩=>?_) λ_ _ z=>z.elim)))
   subst hr;refine B? (B! h4 (λ_ s5 ⟨x,H5,I5,r5,y5,HL,Ry⟩=>?_) λ_ _ z=>z.elim)
   have Rz:=I5.pinned (vU Ry) (T.obj _ _ HL);refine B? (B! (hg _ _ _ _ _ _ s5 _ H5 x u _ Rz r5 (step x H5 y5)) (λ_ s6 ⟨σ6,H6,I6,q6⟩=>?_) λ_ _ z=>(show False from z).elim)
   have again:∀ {σ7:St} {H7:Hp} {s7:u?},Inv (fW X N scope (aR X.env.cells scope.names []) P2.objs.size s2 H2 fp) ([]++sX fp s5.heap) σ7 H7 s7->(∃m',m'<n/\W (i+1) m' H7)->
     ∃m',m'<n/\∃i H',Inv (fW X N scope (aR X.env.cells scope.names []) P2.objs.size s2 H2 fp) [] (fK sl σ) H' s7/\tn i s7.heap/\(∀b∈fp,H' b=q?)/\W i m' H':=λ{σ7 H7 s7} I7 ⟨m',hm,w7⟩=>by
    refine⟨m',hm,i+1,H7,S.again I2 f2 I7.kH,T.keep _ _ _ HL λb hb o e=>(I7.pin (b,o) (Yv _ (Yv _ (fq hb e)))).1,λb hb=>?_,w7⟩
    obtain⟨o,e,d⟩:=T.obj _ _ HL b hb;exact(I7.pin (b,o) (Yv _ (Yv _ (fq hb e)))).2.1
   refine B? (B! (hif _ _ _ _ _ _ s6 σ6 H6 _ I6 q6) (λok s7 ⟨H7,I7,q7⟩=>?_) λ_ _ z=>(show False from z).elim)
   cases ok with
   | false=>
    exact J? ⟨rfl,again I7 (by simpa using q7)⟩
   | true=>
    rw[Jl rfl] at q7;refine B? (B? (B! ((he _ _ _ _ _).out _ s7 σ6 H7 _ I7 q7) (λy s8 ⟨yv,H8,I8,r8,ys,hys,hlen,w8⟩=>?_) λ_ _ z=>(show False from z).elim))
    refine B? (B! (eB (X:=fW X N scope (aR X.env.cells scope.names []) P2.objs.size s2 H2 fp) _ s8 σ6 H8 (.ref s2.heap.objs.size) [yv] (.ref s2.heap.objs.size) [y]
     (λv H9=>v=.fm/\∃m',m'<n/\W (i+1) m' H9) I8 rfl (.cons r8 .nil) ⟨_,ys,yv,rfl,rfl,hys,hlen,rfl,w8⟩) (λr s9 ⟨v9,H9,I9,r9,e9,w9⟩=>?_) λ_ _ z=>(show False from z).elim)
    exact J? (J? ⟨rfl,again I9 w9⟩)
 exact codeAny_compStart_list (loop _) (T.self _ 0 _ _ _ stK (loop _))
theorem cA {elt tg iter:Expr}{ifs:List Expr}{pos:Pos}{wi:TI}{g:TG}{o_:TT}{te:TE}(S:bF X N sl scope)(kI:X.calm=true)(hi:PI X tg iter wi)
  (hg:∀cl C s2 H2 fp,PG (fW X N scope cl C s2 H2 fp) tg g) (hif:∀cl C s2 H2 fp,Nx (fW X N scope cl C s2 H2 fp) ifs o_) (he:∀cl C s2 H2 fp,PE (fW X N scope cl C s2 H2 fp) elt te)
  (hs:∀x,foldedSetIterable iter X.env x=pure x:=by intro _;rfl):
  PE X (.ListComp elt [⟨tg,iter,ifs,0⟩] scope pos) (yO wi sl g o_ te):=by
 refine⟨?_⟩
 intro pins s σ H Q I h;rw[eval_ListComp];refine Bq S kI hi hg hif he hs I h λD C H3 s4 fl I4 n1 n2 n3 n4 n5 n6 ⟨m,hn⟩ q=>?_
 exact⟨m,hn,λh' Lu=>⟨.ref D,H3,I4.turned (t':=s4.toks) (λb o hb e=>(Lu.2 b hb).trans e) n1 n2 (.inr n4) n5 n6,rfl,q⟩⟩
theorem jT {i:Nat}{x:Str}{elt tg iter:Expr}{ifs:List Expr}{cpos pos pos':Pos}{wi:TI}{g:TG}{o_:TT}{te:TE}(hN:X.N.Nodup)(hi':X.N[i]?=j? x)(hx:Loc X.env.scope x)(S:bF X N sl scope)(kI:X.calm=true)(hi:PI X tg iter wi)
  (hg:∀cl C s2 H2 fp,PG (fW X N scope cl C s2 H2 fp) tg g) (hif:∀cl C s2 H2 fp,Nx (fW X N scope cl C s2 H2 fp) ifs o_) (he:∀cl C s2 H2 fp,PE (fW X N scope cl C s2 H2 fp) elt te)
  (hsw:swapsWith (.ListComp elt [⟨tg,iter,ifs,0⟩] scope cpos) (j? (.Name x pos')) pos.line X.env=pure true:=by rfl)
  (hs:∀x,foldedSetIterable iter X.env x=pure x:=by intro _;rfl) (hf:X.fn x=true\/X.env.scope.names.lookup x=j? .local:=by first|exact .inl rfl|exact .inr rfl|assumption):
  PS X (.Assign [.Name x pos'] (.ListComp elt [⟨tg,iter,ifs,0⟩] scope cpos) pos) (LB (yO wi sl g o_ te) (iO i)):=by
 refine⟨?_⟩
 intro pins s σ H D0 I h;rw[exec_Assign_Name_used _ _ _ _ hsw];refine B? (wpAny_standAt (B? ?_))
 show L? _ X.A (do let _ <- comprehension (.ListComp elt [⟨tg,iter,ifs,0⟩] scope cpos) scope X.env _ (newList []) false (eval iter X.env) (j? (assign (.Name x pos') X.env))) _ _ s
 refine B? (B! (Bq (QQ:=λ_ s'=>∃σ' H',Inv X pins σ' H' s'/\D0.nx σ' H') (use:=j? (assign (.Name x pos') X.env)) S kI hi hg hif he hs I h λD C H3 s4 fl I4 n1 n2 n3 n4 n5 n6 hm q=>?_)
  (λ_ s' hq=>J? (J? hq)) λ_ _ e=>e)
 obtain⟨m,hn⟩:=hm;show L? _ X.A (assign (.Name x pos') X.env (.ref D)) _ _ _
 refine wpAny_assign_Name (sP I4 hN hi' hx (show RelV (.ref D) (.ref D) from rfl) (λs5 I5 ⟨a,Lu,ha⟩=>?_) hf)
 have UX:C≠a:=by
  rcases ha with rfl|ha
  ·exact n2
  ·exact λz=>n5 _ _ ha z.symm
 refine⟨m,hn.sameBut Lu UX,λh' OT=>⟨_,H3,I5.turned (t':=s5.toks) (λb o hb e=>(OT.2 b hb).trans e) n1 n2 (.inr n4) n5 n6,q⟩⟩
end
section
variable {X:Cx}
def mW (i j:Int):Prop:=IntMulOk i j
def yP (i j:Int):Prop:=j≠0/\j.natAbs<2 ^ 9000
theorem yP.py {i j:Int}(h:yP i j):Builtin.divisionGoesByPylong i j=false:=by
 refine PyProof.noPylong_of_log2 ?_
 have h0:j.natAbs≠0:=λz=>h.1 (Int.natAbs_eq_zero.mp z)
 exact(Nat.log2_lt h0).mpr h.2
theorem aV:pQ X (binaryOp .Mult) (rI mW λi j=>.int (i*j)):=TL λ_ _ _ _ _ _ _ hc q=>mul_int q hc
theorem bK:pQ X (binaryOp .FloorDiv) (rI yP λi j=>.int (i.fdiv j)):=TL λ_ _ _ _ _ _ _ hc q=>floordiv_int hc.1 q (.inl hc.py)
theorem Fb {a b:Int}{m n:Nat}(ha:a.natAbs<2 ^ m)(hb:b.natAbs<2 ^ n)(h:m+n<=134217728):mW a b:=
 IntMulOk.of_le (intBits_le_iff.mpr ha) (intBits_le_iff.mpr hb) h
theorem gE {a b:Int}(h1:-(2 ^ 64)<a)(h2:a<2 ^ 64):mW a b:=.of_left (intBits_le_64 h1 h2)
theorem j6 {a b:Int}(h1:-(2 ^ 64)<b)(h2:b<2 ^ 64):mW a b:=.of_right (intBits_le_64 h1 h2)
def isPlain:V->Bool
 | .fm=>true
 | .bl _=>true
 | _=>false
theorem RelV.yQ {x y:V}{v u:l?}(rx:RelV x v)(ry:RelV y u)(hy:isPlain y=true):plainIs v u=true/\(v == u)=decide (x=y):=by
 cases y with
 | fm=>
  cases ry;cases x <;> first|(cases rx;exact⟨rfl,rfl⟩)|(obtain⟨t,rfl⟩:=rx;exact⟨rfl,rfl⟩)
 | bl b=>
  cases ry;cases x with
  | bl c=>
   cases rx;refine⟨rfl,?_⟩
   cases b <;> cases c <;> rfl
  | fm=>cases rx;exact⟨rfl,rfl⟩
  | ref a=>cases rx;exact⟨rfl,rfl⟩
  | ty n=>cases rx;exact⟨rfl,rfl⟩
  | int _=>obtain⟨t,rfl⟩:=rx;exact⟨rfl,rfl⟩
  | str _=>obtain⟨t,rfl⟩:=rx;exact⟨rfl,rfl⟩
  | byt _=>obtain⟨t,rfl⟩:=rx;exact⟨rfl,rfl⟩
  | flt _=>obtain⟨t,rfl⟩:=rx;exact⟨rfl,rfl⟩
 | _=>exact Jr (show false=true from hy) E?
theorem Ny:pQ X (J! .Is) (λx y H Q=>isPlain y=true/\Q (.bl (decide (x=y))) H):=by
 intro pins s σ H x y v u Q I rx ry h;obtain⟨hy,q⟩:=h;obtain⟨p,e⟩:=rx.yQ ry hy;exact wpAny_is_plain p (cu I q e.symm)
theorem HY:pQ X (J! .IsNot) (λx y H Q=>isPlain y=true/\Q (.bl (!decide (x=y))) H):=by
 intro pins s σ H x y v u Q I rx ry h;obtain⟨hy,q⟩:=h;obtain⟨p,e⟩:=rx.yQ ry hy;exact wpAny_isNot_plain p (cu I q (Jp not e.symm))
inductive LX (K:bX)(H:Hp):V->String->Prop where
 | fm:LX K H .fm "NoneType"
 | bl (x:Bool):LX K H (.bl x) "bool"
 | int (i:Int):LX K H (.int i) "int"
 | str (x:Str):LX K H (.str x) "str"
 | lst {a:o?} {xs:List V} (e:aQ K H a xs):LX K H (.ref a) "list"
 | tup {a:o?} {xs:List V} (e:k8 K H a xs):LX K H (.ref a) "tuple"
theorem Br:nj X (.builtin "isinstance") (λxs H Q=>∃x T T' b,xs=[x,.ty T']/\LX X.K H x T/\PySem.W.kitOne X.K (.type T) (.type T')=j? b/\Q (.bl b) H):=by
 intro pins s σ H xs us Q I rv h;obtain⟨x,T,T',b,rfl,ty,e,q⟩:=h;obtain⟨u,w',rfl,rx,rt⟩:=vals2 rv;obtain rfl:w'=Value.type T':=rt
 have fin:∀tk,EP X pins σ Q (.bool b) { s with toks:=tk }:=λtk=>⟨.bl b,H,I.tok tk,rfl,q⟩
 cases ty with
 | fm=>cases (show u=Value.none from rx);exact PySem.W.kia_one PySem.W.kitx_none I.EW True.intro e (λz=>nomatch z) fin
 | bl y=>cases (show u=Value.bool y from rx);exact PySem.W.kia_one PySem.W.kitx_bool I.EW True.intro e (λz=>nomatch z) fin
 | int i=>obtain⟨t,q'⟩:=(show ∃t,u=Value.int i t from rx);cases q';exact PySem.W.kia_one PySem.W.kitx_int I.EW True.intro e (λz=>nomatch z) fin
 | str y=>obtain⟨t,q'⟩:=(show ∃t,u=Value.str y t from rx);cases q';exact PySem.W.kia_one PySem.W.kitx_str I.EW True.intro e (λz=>nomatch z) fin
 | @lst a ys ea=>
  cases (show u=I! a from rx)
  obtain⟨its,_,⟨o,n,h1,h2,_⟩,_⟩:=I.list ea;exact PySem.W.kia_one PySem.W.kitx_list I.EW ⟨o,h1,h2⟩ e (λz=>nomatch z) fin
 | @tup a ys ea=>
  cases (show u=I! a from rx)
  obtain⟨its,_,⟨o,h1,h2,_⟩,_⟩:=I.tuple ea;exact PySem.W.kia_one PySem.W.kitx_tuple I.EW ⟨o,h1,h2⟩ e (λz=>nomatch z) fin
inductive Den (K:bX)(H:Hp):V->N!->Prop where
 | fm:Den K H .fm .none
 | bl (b:Bool):Den K H (.bl b) (.bool b)
 | int (i:Int):Den K H (.int i) (.int i)
 | str (x:Str):Den K H (.str x) (.str x)
 | lst {a:o?} {xs:List V} {ds:List N!}:aQ K H a xs->xs.length=ds.length->(∀(i:Nat) x d,xs[i]?=j? x->ds[i]?=j? d->Den K H x d)->Den K H (.ref a) (.list ds)
 | tup {a:o?} {xs:List V} {ds:List N!}:k8 K H a xs->xs.length=ds.length->(∀(i:Nat) x d,xs[i]?=j? x->ds[i]?=j? d->Den K H x d)->Den K H (.ref a) (.tuple ds)
theorem nk {h:O?}:∀ {us:List l?} {ds:List N!},us.length=ds.length->(∀(i:Nat) u d,us[i]?=j? u->ds[i]?=j? d->∃as,Reads h u d as)->∃as,ReadsAll h us ds as
 | [],[],_,_=>⟨[],.nil⟩
 | [],_::_,e,_=>by simp at e
 | _::_,[],e,_=>by simp at e
 | u::us,d::ds,e,f=>by
  obtain⟨as,r⟩:=f 0 u d rfl rfl;obtain⟨bs,rs⟩:=nk (us:=us) (ds:=ds) (by simpa using e) λi u d h1 h2=>f (i+1) u d (by simpa using h1) (by simpa using h2)
  exact⟨as++bs,.cons r rs⟩
theorem Vals.back {xs:List V}{us:List l?}(r:Vals xs us){i:Nat}{u:l?}(h:us[i]?=j? u):∃x,xs[i]?=j? x/\RelV x u:=by
 have hi:i<us.length:=(List.getElem?_eq_some_iff.mp h).1;have hx:i<xs.length:=by rw[r.length];exact hi
 obtain⟨u',h',rel⟩:=r.get (Yc hx);rw[h] at h';cases h';exact⟨_,Yc hx,rel⟩
theorem Den.reads {pins:List (o?×Obj)}{σ:St}{H:Hp}{s:u?}(I:Inv X pins σ H s){v:V}{d:N!}(D:Den X.K H v d):∀ {u:l?},RelV v u->∃as,Reads s.heap u d as:=by
 induction D with
 | fm=>intro u r;cases (show u=Value.none from r);exact⟨_,.none⟩
 | bl b=>intro u r;cases (show u=Value.bool b from r);exact⟨_,.bool b⟩
 | int i=>intro u r;obtain⟨t,rfl⟩:=(show ∃t,u=Value.int i t from r);exact⟨_,.int i t⟩
 | str x=>intro u r;obtain⟨t,rfl⟩:=(show ∃t,u=Value.str x t from r);exact⟨_,.str x t⟩
 | @lst a xs ds q hl _ ih=>
  intro u r;cases (show u=I! a from r)
  obtain⟨its,rv,⟨o,n,h1,h2,h3,h4⟩,_⟩:=I.list q;obtain⟨as,ra⟩:=nk (h:=s.heap) (us:=its) (ds:=ds) (by rw[<- rv.length];exact hl) λi u d e1 e2=>by
   obtain⟨x,ex,rel⟩:=rv.back e1;exact ih i x d ex e2 rel
  exact⟨_,.list h1 h2 h4 (by simpa using ra)⟩
 | @tup a xs ds q hl _ ih=>
  intro u r;cases (show u=I! a from r)
  obtain⟨its,rv,⟨o,h1,h2,n,h4⟩,_⟩:=I.tuple q;obtain⟨as,ra⟩:=nk (h:=s.heap) (us:=its) (ds:=ds) (by rw[<- rv.length];exact hl) λi u d e1 e2=>by
   obtain⟨x,ex,rel⟩:=rv.back e1;exact ih i x d ex e2 rel
  exact⟨_,.tuple h1 h2 h4 (by simpa using ra)⟩
def zO (K:bX)(neg:Bool):R2:=λx y H Q=>∃d e,Den K H x d/\Den K H y e/\SeqAt.shaped d=true/\SeqAt.shaped e=true/\Q (.bl (if neg then !E! d e else E! d e)) H
theorem OU (hu:X.A.units+64<cLine):pQ X (J! .Eq) (zO X.K false):=by
 intro pins s σ H x y v u Q I rx ry h;obtain⟨d,e,Dx,Dy,sd,se,q⟩:=h;obtain⟨as,ra⟩:=Dx.reads I rx;obtain⟨bs,rb⟩:=Dy.reads I ry;exact SeqAt.compareEq_shaped ra rb sd se hu (cu I q rfl)
theorem OV (hu:X.A.units+64<cLine):pQ X (J! .NotEq) (zO X.K true):=by
 intro pins s σ H x y v u Q I rx ry h;obtain⟨d,e,Dx,Dy,sd,se,q⟩:=h;obtain⟨as,ra⟩:=Dx.reads I rx;obtain⟨bs,rb⟩:=Dy.reads I ry;exact SeqAt.compareNe_shaped ra rb sd se hu (cu I q rfl)
def Bs:V->Option N!
 | .fm=>j? .none
 | .bl b=>j? (.bool b)
 | .int i=>j? (.int i)
 | .str x=>j? (.str x)
 | _=>q?
theorem HZ {K:bX}{H:Hp}{v:V}{d:N!}(h:Bs v=j? d):Den K H v d:=by
 cases v <;> first|(cases h;constructor)|cases h
def p_:List V->Option (List N!)
 | []=>j? []
 | v::r=>match Bs v,p_ r with
  | some d,j? ds=>j? (d::ds)
  | _,_=>q?
theorem tF:∀ {xs:List V} {ds:List N!},p_ xs=j? ds->xs.length=ds.length/\∀(i:Nat) x d,xs[i]?=j? x->ds[i]?=j? d->Bs x=j? d
 | [],ds,h=>by cases h;exact⟨rfl,λi x d h=>by simp at h⟩
 | v::r,ds,h=>by
  unfold p_ at h;cases e1:Bs v with
  | none=>rw[e1] at h;cases h
  | some d0=>
   cases e2:p_ r with
   | none=>rw[e1,e2] at h;cases h
   | some dr=>
    rw[e1,e2] at h;cases h;obtain⟨hl,hx⟩:=tF e2;refine⟨by simp[hl],λi x d h1 h2=>?_⟩
    cases i with
    | zero=>simp at h1 h2;rw[<- h1,<- h2];exact e1
    | succ i=>exact hx i x d (by simpa using h1) (by simpa using h2)
theorem q_ {K:bX}{H:Hp}{a:o?}{xs:List V}{ds:List N!}(q:aQ K H a xs)(h:p_ xs=j? ds):Den K H (.ref a) (.list ds):=
 .lst q (tF h).1 λi x d h1 h2=>HZ ((tF h).2 i x d h1 h2)
theorem gB:∀(ns:List Int),p_ (ns.map V.int)=j? (ns.map PyData.int)
 | []=>rfl
 | n::ns=>by
  show(match Bs (.int n),p_ (ns.map V.int) with|some d,j? ds=>j? (d::ds)|_,_=>q?)=_
  rw[gB ns];rfl
end
structure Src (K:bX)(mg:Str->Option l?)(x:Str)(st:Q?)(ps:List Str):Prop where
 ex:∃f fd,Ls K x x st f fd/\Binds K fd ps []/\mg x=j? (.ref f)
structure b_ (P:F?)(w:H?)(K:bX)(mg:Str->Option l?)(base:O?)(k:Nat)(x:Str)(ps:List Str)(sp:Sp):Prop where
 ex:∃f fd,qY P w K mg base GA k f fd ps sp/\Binds K fd ps []/\PySem.W.keepIn K (.ref f)=true/\mg x=j? (.ref f)
section
variable {P:F?} {w:H?} {K:bX} {mg:Str->Option l?} {base:O?}
theorem Src.ok {x:Str}{st:Q?}{N ps:List Str}{k:Nat}{sp:Sp}(F:Src K mg x st ps)(S:aK N ps (aq st))(len:∀vs H Q E,sp vs H Q E->vs.length=ps.length)
  (hbody:∀(f:o?) (cdv:l?) (A:A!) (outer:List Env) (s:u?) (H:Hp) (vs:List V) (Q:VK) (E:XK),fR k (A.deeper (envOfC x (aq st) s.heap.objs.size f cdv))->sp vs H Q E->
   ∃t,C6 (zI GA P w K mg base N x (aq st) f cdv A outer s H E).Nl (cE st) t/\t { nx:=λ_ H'=>Q .fm H',rt:=Q } (start N vs) H):b_ P w K mg base (k+1) x ps sp:=by
 obtain⟨f,fd,F,B,M⟩:=F.ex;exact⟨f,fd,F.ok S len (hbody f),B,F.kp,M⟩
theorem OW {x:Str}{st:Q?}{ps:List Str}{f:o?}{oc:l?}{od an:Option o?}{osl:Array (Option l?)}{kV doc pm cdv ct:l?}{h:O?}(X:K.In h)(G:h.Ns G? mg)
  (a:N? K G? x=j? (j? (.ref f))) (l:K.lookup f=j? ⟨oc,od,.func (W? x x (dF st) (cE st) (aq st) .none kV doc pm an cdv ct),osl⟩) (c:P! K cdv x=true) (k:C! K (.ref f)=true)
  (hb:∀(kV doc pm:l?) (an:Option o?) (cdv ct:l?) (us:List l?),us.length=ps.length->bindArgs (W? x x (dF st) (cE st) (aq st) .none kV doc pm an cdv ct) ⟨us,[]⟩=pure (ps.zip us)):Src K mg x st ps:=
 ⟨f,_,vY l c k,(vY l c k).binds hb,PySem.W.mg_of X G a⟩
end
theorem aF {X:Cx}{k n:Nat}{x:Str}{ps:List Str}{sp:Sp}{e:Expr}{es:List Expr}{t:TA}{p pos:Pos}(D:b_ X.prog X.w X.K X.mg X.base k x ps sp)(hr:fR n X.A)(ha:PA X (e::es) t)(hle:k<=n:=by first|decide|omega)(hg:Gl X x:=by rfl)
  (hdb:(x ==("__debug__":Str))=false:=by decide) (he:I? (e::es) X.env=(false,eval e X.env)::I? es X.env:=by rfl) (hpl:(backTo pos (I? es X.env)).any (·.1)=false:=by rfl):
  PE X (.Call (.Name x p) (e::es) [] pos) (Nr sp [] E0 t):=by
 obtain⟨f,fd,F,B,kp,M⟩:=D.ex;exact LK F (hr.mono hle) hg M kp B .nil RO ha hdb he hpl
theorem aB {H:Hp}{p:o?}(h:H p=q?)(o:HO):aI H (upd H p o):=λb u q=>by rw[aN (bG q h)];exact q
def H_ (Fc:Scope)(ON N:List Str)(sl:List (Option Nat))(scope:Scope):Bool:=
 decide (scope.kind=.function) && scope.names.all (λy=>decide (y.2≠.cell)) && scope.names.all (λy=>decide (y.2=.local->scope.names.lookup y.1=j? .local)) &&
 scope.names.all (λy=>decide (y.2=.free->Fc.names.lookup y.1=j? .cell\/Fc.names.lookup y.1=j? .free)) && decide (sl.length=N.length) &&
 (Yk N.length).all λj=>match N[j]?,sl[j]? with
  | some x,j? (j? i)=>decide (ON[i]?=j? x/\scope.names.lookup x=j? .free)
  | _,_=>true
theorem aG {X:Cx}{N:List Str}{sl:List (Option Nat)}{scope:Scope}(Fc:Scope)(ON:List Str)(h1:X.env.scope=Fc)(h2:X.N=ON)(hb:H_ Fc ON N sl scope=true):bF X N sl scope:=by
 unfold H_ at hb;simp only[T?,decide_eq_true_eq,Wi] at hb
 obtain⟨⟨⟨⟨⟨b1,b2⟩,b3⟩,b4⟩,b5⟩,b6⟩:=hb;refine⟨b1,b2,b3,λy hy hf=>?_,b5,λj i x e1 e2=>?_⟩
 ·have:=b4 y hy hf
  show X.env.scope.names.lookup y.1=_\/X.env.scope.names.lookup y.1=_
  rw[h1];exact this
 ·have hj:j<N.length:=(List.getElem?_eq_some_iff.mp e1).1
  have:=b6 j (List.mem_range.mpr hj)
  rw[e1,e2] at this;have q:=Jn this;rw[h2];exact q
theorem cB:H! "len"=j? (.builtin "len"):=by decide +kernel
theorem Ia:H! "abs"=j? (.builtin "abs"):=by decide +kernel
theorem j7:H! "isinstance"=j? (.builtin "isinstance"):=by decide +kernel
theorem OX:H! "min"=j? (.builtin "min"):=by decide +kernel
theorem OY:H! "max"=j? (.builtin "max"):=by decide +kernel
theorem Dl:H! "sum"=j? (.builtin "sum"):=by decide +kernel
theorem OZ:H! "int"=j? (.type "int"):=by decide +kernel
theorem LY:H! "bool"=j? (.type "bool"):=by decide +kernel
theorem vp:H! "list"=j? (.type "list"):=by decide +kernel
def UY (K:bX):List V->Hp->VK->Prop:=λxs H Q=>∃x T T' b,xs=[x,.ty T']/\LX K H x T/\PySem.W.kitOne K (.type T) (.type T')=j? b/\Q (.bl b) H
def RP (K:bX):List V->Hp->VK->Prop:=λxs H Q=>∃p ys,xs=[.ref p]/\(aQ K H p ys\/k8 K H p ys)/\Q (.int ys.length) H
section
variable {X:Cx} {K:bX}
theorem lG (h:X.K=K):nj X (.builtin "isinstance") (UY K):=by subst h;exact λpins s σ H xs us Q I rv ⟨a,b,c,d,e,f,g,i⟩=>Br pins s σ H xs us Q I rv ⟨a,b,c,d,e,f,g,i⟩
theorem aT (h:X.K=K):nj X (.builtin "len") (RP K):=by subst h;exact λpins s σ H xs us Q I rv ⟨a,b,c,d,e⟩=>zL pins s σ H xs us Q I rv ⟨a,b,c,d,e⟩
theorem aJ (h:X.K=K):RG X (RH K):=by subst h;exact LO
theorem rq (h:X.K=K):RG X (RI K):=by subst h;exact OO
theorem fX (h:X.K=K):UN X (RK K):=by subst h;exact LQ
theorem Ib (h:X.K=K):pQ X (J! .In) (Xs K false):=by subst h;exact Gx
theorem lH (h:X.K=K)(hu:X.A.units+64<cLine):pQ X (J! .Eq) (zO K false):=by subst h;exact OU hu
theorem zQ (h:X.K=K)(hu:X.A.units+64<cLine):pQ X (J! .NotEq) (zO K true):=by subst h;exact OV hu
theorem bN {tg l:Expr}{tl:TE}(h:X.K=K)(hl:PE X l tl):PI X tg l (Nn K tl):=by subst h;exact LG hl
theorem dG {es:List Expr}{k:Nat}{t:Nm}{n:Nat}{pos:Pos}(hK:X.K=K)(hc:X.calm=true)(h:Ro X es t)
  (hn:(assignEach es X.env).length=n:=by rfl) (hst:(assignEach es X.env).findIdx? (·.1)=q?:=by rfl):PG X (.Tuple es k pos) (Rr K n t):=by subst hK;exact Ox hc h hn hst
end
def Bd (m:Nat)(x:Int):Prop:=x.natAbs<2 ^ m
theorem Bd.mono {m n:Nat}{x:Int}(h:Bd m x)(hmn:m<=n):Bd n x:=Yj h (Y2 (by decide) hmn)
theorem Bd.bits {m:Nat}{x:Int}(h:Bd m x):Builtin.Int.intBits x<=m:=intBits_le_iff.mpr h
theorem Bd.of_bits {m:Nat}{x:Int}(h:Builtin.Int.intBits x<=m):Bd m x:=intBits_le_iff.mp h
theorem Bd.mul {m n:Nat}{x y:Int}(hx:Bd m x)(hy:Bd n y):Bd (m+n) (x*y):=.of_bits (intBits_mul_le hx.bits hy.bits)
theorem Bd.add {m n:Nat}{x y:Int}(hx:Bd m x)(hy:Bd n y):Bd (max m n+1) (x+y):=.of_bits (intBits_add_le hx.bits hy.bits)
theorem Bd.sub {m n:Nat}{x y:Int}(hx:Bd m x)(hy:Bd n y):Bd (max m n+1) (x-y):=.of_bits (intBits_sub_le hx.bits hy.bits)
theorem Bd.le {m:Nat}{x y:Int}(h:x.natAbs<=y.natAbs)(hy:Bd m y):Bd m x:=Wb h hy
theorem Bd.fdiv {m:Nat}{x y:Int}(hx:Bd m x):Bd m (x.fdiv y):=.of_bits (intBits_fdiv_le hx.bits)
theorem Bd.ok {m n:Nat}{x y:Int}(hx:Bd m x)(hy:Bd n y)(h:m+n<=134217728:=by decide):mW x y:=Fb hx hy h
theorem Bd.dv {m:Nat}{i j:Int}(h:Bd m j)(h0:j≠0)(hm:m<=9000:=by decide):yP i j:=⟨h0,h.mono hm⟩
theorem Bd.small {x:Int}(h1:-(2 ^ 64)<x)(h2:x<2 ^ 64):Bd 64 x:=by unfold Bd;omega
theorem iQ {α:Type}{xs:List α}{i:Int}(h0:0<=i)(h1:i.toNat<xs.length):qZ xs i=j? xs[i.toNat]:=by
 have e:i=((i.toNat:Nat):Int):=by omega
 have q:qZ xs ((i.toNat:Nat):Int)=j? xs[i.toNat]:=f9 (Yc h1);rw[<- e] at q;exact q
theorem Fd {α:Type}{xs:List α}{i:Int}(h0:0<=i)(h1:i<xs.length):∃v,qZ xs i=j? v/\v∈xs:=by
 have hi:i.toNat<xs.length:=by omega
 exact⟨xs[i.toNat],iQ h0 hi,Y0 hi⟩
theorem gm (x:Int){y:Int}(hy:0<y):0<=x.fmod y/\x.fmod y<y:=⟨Int.fmod_nonneg_of_pos x hy,Int.fmod_lt_of_pos x hy⟩
theorem a_ {α:Type}{xs:List α}(h:decide (xs.length<=1000)=true):xs.length<=K?:=Ym (Jn h) (by decide)
theorem Ic (x y:Int)(hy:0<y):Int.gcd y (x.fmod y)=Int.gcd x y:=by
 rw[Y8 x (Je hy),Int.gcd_comm x y,Int.emod_def,Int.gcd_comm y];simp
 exact Int.gcd_comm ..
def Bt (a b:Int):Int:=(Int.gcd a b:Int)
theorem pick {xs:List V}{i:Int}{P:Int->Prop}(h0:0<=i)(h1:i<xs.length)(hP:∀v∈xs,∃n,v=.int n/\P n):∃n,qZ xs i=j? (.int n)/\P n:=by
 obtain⟨v,e,hm⟩:=Fd h0 h1;obtain⟨n,rfl,p⟩:=hP v hm;exact⟨n,e,p⟩
theorem O0 {c A B:Prop}[Decidable c](h:¬ c)(hB:B):if decide c=true then A else B:=by
 rw[Jo h];exact tu hB
theorem O1 {c A B:Prop}[Decidable c](h:c)(hA:A):if decide c=true then A else B:=by
 rw[Jm h];exact vZ hA
def CW (n:Nat)(D:o?)(Pv:Nat->List V->Hp->Prop):Nat->Nat->Hp->Prop:=λi m H2=>m=n-i/\i<=n/\∃ys,H2 D=j? (.lst ys)/\ys.length<=i/\Pv i ys H2
theorem CW.emit {n:Nat}{D:o?}{Pv:Nat->List V->Hp->Prop}{i m:Nat}{ys:List V}{y:V}{H5:Hp}(hm:m=n-i)(hi:i<n)(hn:n<=K?)(hy:H5 D=j? (.lst ys))(hl:ys.length<=i)
  (p:Pv (i+1) (ys++[y]) (upd H5 D (.lst (ys++[y])))):∃ys,H5 D=j? (.lst ys)/\ys.length<K?/\∃m',m'<m/\CW n D Pv (i+1) m' (upd H5 D (.lst (ys++[y]))):=
 ⟨ys,hy,by omega,n-(i+1),by omega,rfl,hi,ys++[y],av,by simp;omega,p⟩
theorem CW.skip {n:Nat}{D:o?}{Pv:Nat->List V->Hp->Prop}{i m:Nat}{ys:List V}{H4:Hp}(hm:m=n-i)(hi:i<n)(hy:H4 D=j? (.lst ys))(hl:ys.length<=i)(p:Pv (i+1) ys H4):
  ∃m',m'<m/\CW n D Pv (i+1) m' H4:=⟨n-(i+1),by omega,rfl,hi,ys,hy,by omega,p⟩
theorem gY {K:bX}{a D:o?}{xs:List V}{st:St}{g:TG}{o_:TT}{te:TE}{H1:Hp}{Q:VK}(Pv:Nat->List V->Hp->Prop)(h0:Pv 0 [] (upd H1 D (.lst [])))
  (hl:∀i ys H2,H2 D=j? (.lst ys)->Pv i ys H2->aQ K H2 a xs)
  (hs:∀i m x ys H2,m=xs.length-i->i<xs.length->xs[i]?=j? x->H2 D=j? (.lst ys)->ys.length<=i->Pv i ys H2->g x st H2 λσ3 H3=>o_ σ3 H3 λb H4=>
   if b=true then te σ3 H4 λy H5=>∃ys,H5 D=j? (.lst ys)/\ys.length<K?/\∃m',m'<m/\CW xs.length D Pv (i+1) m' (upd H5 D (.lst (ys++[y]))) else ∃m',m'<m/\CW xs.length D Pv (i+1) m' H4)
  (hd:∀ys H2,H2 D=j? (.lst ys)->Pv xs.length ys H2->Q (.ref D) H2):
  uJ (OE K a) D st g o_ te Q H1:=by
 refine⟨CW xs.length D Pv,⟨xs.length,by simp,Y5 _,[],av,Yd _,h0⟩,?_⟩
 rintro i m H2 ⟨hm,hi,ys,hy,hlen,p⟩;have q:=hl i ys H2 hy p;by_cases hlt:i<xs.length
 ·refine .inr ⟨⟨xs,xs[i],q,by simp[hlt]⟩,λx H' y=>?_⟩
  obtain⟨e,y⟩:=y;subst e;exact hs i m x ys _ hm hlt (y xs q) hy hlen p
 ·have e:i=xs.length:=by omega
  subst e;exact .inl ⟨⟨xs,q,Yd _⟩,hd ys H2 hy p⟩
theorem jx {lo:Int}{n:Nat}{D:o?}{st:St}{g:TG}{o_:TT}{te:TE}{H1:Hp}{Q:VK}(Pv:Nat->List V->Hp->Prop)(h0:Pv 0 [] (upd H1 D (.lst [])))
  (hs:∀i m ys H2,m=n-i->i<n->H2 D=j? (.lst ys)->ys.length<=i->Pv i ys H2->g (.int (lo+i)) st H2 λσ3 H3=>o_ σ3 H3 λb H4=>
   if b=true then te σ3 H4 λy H5=>∃ys,H5 D=j? (.lst ys)/\ys.length<K?/\∃m',m'<m/\CW n D Pv (i+1) m' (upd H5 D (.lst (ys++[y]))) else ∃m',m'<m/\CW n D Pv (i+1) m' H4)
  (hd:∀ys H2,H2 D=j? (.lst ys)->Pv n ys H2->Q (.ref D) H2):
  uJ (LF lo n) D st g o_ te Q H1:=by
 refine⟨CW n D Pv,⟨n,by simp,Y5 _,[],av,Yd _,h0⟩,?_⟩
 rintro i m H2 ⟨hm,hi,ys,hy,hlen,p⟩;by_cases hlt:i<n
 ·refine .inr ⟨hlt,λx H' y=>?_⟩
  obtain⟨e,y⟩:=y;subst e y;exact hs i m ys _ hm hlt hy hlen p
 ·have e:i=n:=by omega
  subst e;exact .inl ⟨Yd _,hd ys H2 hy p⟩
structure cG (p n:Int)(v:Nat):Prop where
 dv:p ^ v ∣ n
 no:¬ p ^ (v+1) ∣ n
theorem rz {p:Int}(hp:p≠0):∀v:Nat,p ^ v≠0
 | 0=>by rw[Yu];decide
 | v+1=>by rw[Yq];exact Int.mul_ne_zero (rz hp v) hp
theorem gF (p:Int){v w:Nat}(h:v<=w):p ^ v ∣ p ^ w:=by
 obtain⟨k,rfl⟩:=Nat.exists_eq_add_of_le h;exact⟨p ^ k,Yo p v k⟩
theorem cG.uniq {p n:Int}{v w:Nat}(a:cG p n v)(b:cG p n w):v=w:=by
 rcases Nat.lt_trichotomy v w with h|h|h
 ·exact Jr (Int.dvd_trans (gF p h) b.dv) a.no
 ·exact h
 ·exact Jr (Int.dvd_trans (gF p h) a.dv) b.no
theorem cG.of {p n m:Int}{v:Nat}(hp:p≠0)(h:n=p ^ v*m)(hm:¬ p ∣ m):cG p n v:=by
 refine⟨⟨m,h⟩,λ⟨k,hk⟩=>hm ?_⟩
 rw[h,Yq,Zv] at hk;exact⟨k,Za (rz hp v) hk⟩
theorem cG.NB {p n:Int}{v:Nat}(h:cG p n v):∃m,n=p ^ v*m/\¬ p ∣ m:=by
 obtain⟨m,e⟩:=h.dv;refine⟨m,e,λ⟨k,hk⟩=>h.no ⟨k,?_⟩⟩
 rw[e,hk,Yq,Zv]
theorem cG.mul {p a b:Int}{v w:Nat}(hp:p≠0)(he:∀x y:Int,p ∣ x*y->p ∣ x\/p ∣ y)(ha:cG p a v)(hb:cG p b w):cG p (a*b) (v+w):=by
 obtain⟨m,e1,h1⟩:=ha.NB;obtain⟨n,e2,h2⟩:=hb.NB;refine cG.of hp (m:=m*n) ?_ λz=>?_
 ·rw[e1,e2,Yo];ac_rfl
 ·rcases he _ _ z with z|z
  ·exact h1 z
  ·exact h2 z
theorem Dm {p:Int}(hp:2<=p){n:Int}(hn:n≠0):∃v,cG p n v:=by
  have go:∀(k:Nat) (n:Int),n≠0->n.natAbs<=k->∃v,cG p n v:=by
    intro k;induction k with
    | zero=>intro n h0 h1;exact Jr (by omega) h0
    | succ k ih=>
      intro n h0 h1;by_cases hd:p ∣ n
      . obtain⟨m,rfl⟩:=hd
        have hm:m≠0:=λz=>h0 (by rw[z];simp)
        have hlt:m.natAbs<(p*m).natAbs:=by
          rw[Zq];have h2:2<=p.natAbs:=by omega
          have h3:0<m.natAbs:=by omega
          calc m.natAbs<2*m.natAbs:=by omega
            _<=p.natAbs*m.natAbs:=Yp _ h2
        obtain⟨v,hv⟩:=ih m hm (by omega)
        obtain⟨c,ec,hc⟩:=hv.NB;exact⟨v+1,cG.of (by omega) (m:=c) (by rw[ec,Yq];ac_rfl) hc⟩
      . exact⟨0,cG.of (by omega) (m:=n) (by simp) hd⟩
  exact go n.natAbs n hn (Yd _)
theorem nv {x y:Int}(hy:0<y):x.fmod y=0↔y ∣ x:=by
 rw[Y8 x (Je hy)];exact⟨Int.dvd_of_emod_eq_zero,Int.emod_eq_zero_of_dvd⟩
theorem lI {y m:Int}(hy:y≠0):(y*m).fdiv y=m:=Int.mul_fdiv_cancel_left m hy
end L2
namespace L2
theorem aI.bE {H H':Hp}{D:PySem.Addr}(g:aI H H')(hD:H D=q?)(o:HO):aI H (upd H' D o):=λb u q=>by rw[aN (bG q hD)];exact g b u q
theorem Bu {c A B:Prop}[Decidable c](h:¬ c)(hA:A):if (!decide c)=true then A else B:=by
 rw[Jo h];exact vZ hA
end L2
namespace L2
open PySem PySem.Spec PyProof.Rows
def zR (o:Obj)(ns:List Int):Bool:=decide (o.cls=.type "tuple") && match o.data with
 | .seq its _=>decide (its.size<=1000) && decide (its.toList.map LA=ns.map λn=>j? (V.int n))
 | _=>false
theorem uL:∀ {us:List l?} {ns:List Int},us.map LA=ns.map (λn=>j? (V.int n))->Vals (ns.map V.int) us
 | [],[],_=>.nil
 | [],_::_,h=>by simp at h
 | _::_,[],h=>by simp at h
 | u::us,n::ns,h=>by
  simp only[List.map_cons,List.cons.injEq] at h
  refine .cons ?_ (uL h.2)
  have e:=h.1;cases u <;> simp[LA] at e
  subst e;exact⟨_,rfl⟩
theorem Dn {K:bX}{H:Hp}{a:o?}{o:Obj}{ns:List Int}(h:K.lookup a=j? o)(t:zR o ns=true):k8 K H a (ns.map V.int):=by
 unfold zR at t;rw[T?] at t;obtain⟨t1,t2⟩:=t;have hc:=Jn t1;cases hd:o.data with
 | seq its n=>
  rw[hd] at t2;rw[T?] at t2;have h1:=Jn t2.1;have h2:=Jn t2.2;exact .inr ⟨o,its,n,h,hc,hd,Ym h1 (by decide),uL h2⟩
 | _=>rw[hd] at t2;exact Jr t2 E?
inductive Fl:Nat->N!->Prop where
 | fm {n:Nat}:Fl n .none
 | int {n:Nat} (i:Int):Fl n (.int i)
 | lst {n:Nat} {ds:List N!}:(∀d∈ds,Fl n d)->Fl (n+1) (.list ds)
 | tup {n:Nat} {ds:List N!}:(∀d∈ds,Fl n d)->Fl (n+1) (.tuple ds)
theorem lJ:∀ {ds:List N!},(∀d∈ds,PyData.canLay0 d=true)->PyData.canLayAll0 ds=true
 | [],_=>by simp[PyData.canLayAll0]
 | d::ds,h=>by
  simp only[PyData.canLayAll0,T?]
  exact⟨h d Zj,lJ λe he=>h e (Zb _ he)⟩
theorem ny {n:Nat}:∀ {ds:List N!},(∀d∈ds,PyData.depth d<=n)->PyData.depthAll ds<=n
 | [],_=>by simp[PyData.depthAll]
 | d::ds,h=>by
  simp only[PyData.depthAll]
  exact Nat.max_le.mpr ⟨h d Zj,ny λe he=>h e (Zb _ he)⟩
theorem Fl.both {n:Nat}{d:N!}(h:Fl n d):PyData.canLay0 d=true/\PyData.depth d<=n:=by
 induction h with
 | fm=>exact⟨by simp[PyData.canLay0],by simp[PyData.depth]⟩
 | int i=>exact⟨by simp[PyData.canLay0],by simp[PyData.depth]⟩
 | lst _ ih=>exact⟨by simp only[PyData.canLay0];exact lJ λd hd=>(ih d hd).1,by simp only[PyData.depth];exact Nat.succ_le_succ (ny λd hd=>(ih d hd).2)⟩
 | tup _ ih=>exact⟨by simp only[PyData.canLay0];exact lJ λd hd=>(ih d hd).1,by simp only[PyData.depth];exact Nat.succ_le_succ (ny λd hd=>(ih d hd).2)⟩
theorem Fl.shaped {n:Nat}{d:N!}(h:Fl n d)(hn:n<=64):SeqAt.shaped d=true:=by
 unfold SeqAt.shaped;rw[T?];exact⟨h.both.1,Jm (Ym h.both.2 hn)⟩
theorem Fl.self {n:Nat}{d:N!}(h:Fl n d):E! d d=true:=SeqAt.eqv_refl d h.both.1
mutual
theorem Ie:∀ {n m:Nat} {d e:N!},Fl n d->Fl m e->E! d e=true->d=e
 | _,_,_,_,.fm,.fm,_=>rfl
 | _,_,_,_,.fm,.int _,h=>by simp[E!] at h
 | _,_,_,_,.fm,.lst _,h=>by simp[E!] at h
 | _,_,_,_,.fm,.tup _,h=>by simp[E!] at h
 | _,_,_,_,.int _,.fm,h=>by simp[E!] at h
 | _,_,_,_,.int i,.int j,h=>by
  simp only[E!,beq_iff_eq] at h
  rw[h]
 | _,_,_,_,.int _,.lst _,h=>by simp[E!] at h
 | _,_,_,_,.int _,.tup _,h=>by simp[E!] at h
 | _,_,_,_,.lst _,.fm,h=>by simp[E!] at h
 | _,_,_,_,.lst _,.int _,h=>by simp[E!] at h
 | _,_,.list ds,.list es,.lst a,.lst b,h=>by
  simp only[E!] at h
  rw[eqvAll_eq a b h]
 | _,_,_,_,.lst _,.tup _,h=>by simp[E!] at h
 | _,_,_,_,.tup _,.fm,h=>by simp[E!] at h
 | _,_,_,_,.tup _,.int _,h=>by simp[E!] at h
 | _,_,_,_,.tup _,.lst _,h=>by simp[E!] at h
 | _,_,.tuple ds,.tuple es,.tup a,.tup b,h=>by
  simp only[E!] at h
  rw[eqvAll_eq a b h]
theorem eqvAll_eq:∀ {n m:Nat} {ds es:List N!},(∀d∈ds,Fl n d)->(∀d∈es,Fl m d)->PyData.eqvAll ds es=true->ds=es
 | _,_,[],[],_,_,_=>rfl
 | _,_,[],_::_,_,_,h=>by simp[PyData.eqvAll] at h
 | _,_,_::_,[],_,_,h=>by simp[PyData.eqvAll] at h
 | _,_,d::ds,e::es,a,b,h=>by
  simp only[PyData.eqvAll,T?] at h
  rw[Ie (a d Zj) (b e Zj) h.1,eqvAll_eq (λx hx=>a x (Zb _ hx)) (λx hx=>b x (Zb _ hx)) h.2]
end
noncomputable instance:DecidableEq N!:=λa b=>Classical.propDecidable _
theorem vq {n m:Nat}{d e:N!}(a:Fl n d)(b:Fl m e):E! d e=decide (d=e):=by
 cases h:E! d e with
 | true=>exact(Jm (Ie a b h)).symm
 | false=>
  refine(Jo λz=>?_).symm
  subst z;rw[a.self] at h;cases h
abbrev dI (ns:List Int):N!:=.list (ns.map .int)
theorem lK (ns:List Int):Fl 1 (dI ns):=.lst λd hd=>by
 obtain⟨i,_,rfl⟩:=List.mem_map.mp hd;exact .int i
theorem Ig {a b:List Int}(h:dI a=dI b):a=b:=by
 have h':a.map PyData.int=b.map PyData.int:=PyData.list.inj h;induction a generalizing b with
 | nil=>
  cases b with
  | nil=>rfl
  | cons _ _=>simp at h'
 | cons x a ih=>
  cases b with
  | nil=>simp at h'
  | cons y b=>
   simp only[List.map_cons,List.cons.injEq,PyData.int.injEq] at h'
   rw[h'.1,ih (Jp PyData.list h'.2) h'.2]
theorem Bv (a b:List Int):E! (dI a) (dI b)=decide (a=b):=by
 rw[vq (lK a) (lK b)];by_cases h:a=b
 ·rw[Jm h,Jm (Jp dI h)]
 ·rw[Jo h,Jo λz=>h (Ig z)]
theorem RQ {K:bX}{H:Hp}{a b:o?}{xs ys:List Int}{Q:VK}(ha:aQ K H a (xs.map V.int))(hb:aQ K H b (ys.map V.int))(q:Q (.bl (decide (xs=ys))) H):zO K false (.ref a) (.ref b) H Q:=
 ⟨dI xs,dI ys,q_ ha (gB _),q_ hb (gB _),(lK _).shaped (by decide),(lK _).shaped (by decide),by
  show Q (.bl (E! (dI xs) (dI ys))) H
  rw[Bv];exact q⟩
theorem Tv {K:bX}{H:Hp}{a b:o?}{xs ys:List Int}{Q:VK}(ha:aQ K H a (xs.map V.int))(hb:aQ K H b (ys.map V.int))(q:Q (.bl (!decide (xs=ys))) H):zO K true (.ref a) (.ref b) H Q:=
 ⟨dI xs,dI ys,q_ ha (gB _),q_ hb (gB _),(lK _).shaped (by decide),(lK _).shaped (by decide),by
  show Q (.bl (!E! (dI xs) (dI ys))) H
  rw[Bv];exact q⟩
section
variable {X:Cx} {pins:List (o?×Obj)} {σ:St} {H:Hp} {s:u?} {h':O?}
theorem Inv.zS {t':Nat}{ch:List o?}(I:Inv X pins σ H s)(k:∀b u,b ∉ ch->s.heap.get? b=j? u->h'.get? b=j? u)(hf:∀b∈ch,jP X pins H b):Inv X pins σ H { s with heap:=h',toks:=t' }:=by
 have Nj:∀b u,H b=j? u->b ∉ ch:=λb u e z=>by rw[(hf b z).1] at e;cases e
 refine I.step (g':=s.gens) (d':=s.drawn) (ch:=ch) (λb hb=>⟨(hf b hb).2.2.2.1,(hf b hb).2.1,(hf b hb).2.2.2.2.1,(hf b hb).2.2.2.2.2⟩) (λb o _ _ hc e _=>k b o hc e) (λb o _ _ hc e _=>⟨o.slots,k b o hc e⟩) (λ_ _ _ _ n=>n)
  (λb o hc e=>⟨o,k b o hc e⟩) (λ_ _ e=>e) (λ_ _ _ e=>e) (λb ps e=>⟨#[],by rw[e];simp⟩) (λm hm=>?_) (λb u e=>?_) I.bare
 ·obtain⟨o,es,ep,ho,r⟩:=hm
  exact⟨o,es,ep,k _ o (λz=>(hf _ z).2.1 rfl) ho,r⟩
 ·refine(I.hok b u e).stay (λc v hc q=>k c v ?_ q) (λ_ q=>q) λ_ _ q=>q
  rcases hc with z|z
  ·rw[z];exact Nj b u e
  ·exact Nj c _ z
theorem Inv.yR {t':Nat}{ch:List o?}{a:o?}{o:HO}(I:Inv X pins σ H s)(k:∀b u,b ∉ ch->s.heap.get? b=j? u->h'.get? b=j? u)(hf:∀b∈ch,jP X pins H b)(ha:s.heap.objs.size<=a)(new:jv X.prog X.w (upd H a o) h' a o):
  Inv X pins σ (upd H a o) { s with heap:=h',toks:=t' }:=by
 have hn:H a=q?:=I.hok.fresh ha;have Nj:∀b u,H b=j? u->b ∉ ch:=λb u e z=>by rw[(hf b z).1] at e;cases e
 have nea:∀b u,s.heap.get? b=j? u->b≠a:=λb u e=>Yw (Yj (Yl e) ha)
 refine I.step (g':=s.gens) (d':=s.drawn) (ch:=ch) (λb hb=>⟨(hf b hb).2.2.2.1,(hf b hb).2.1,(hf b hb).2.2.2.2.1,(hf b hb).2.2.2.2.2⟩) (λb o _ _ hc e _=>k b o hc e) (λb o _ _ hc e _=>⟨o.slots,k b o hc e⟩) (λb u _ e n=>by rw[aN (nea b u e)];exact n)
  (λb o hc e=>⟨o,k b o hc e⟩) (λb xs e=>by rw[aN (bG e hn)];exact e) (λb u xs e=>by rw[aN (bG e hn)];exact e) (λb ps e=>⟨#[],by rw[aN (bG e hn),e];simp⟩) (λm hm=>?_) (λb u e=>?_) I.bare
 ·obtain⟨o,es,ep,ho,r⟩:=hm
  exact⟨o,es,ep,k _ o (λz=>(hf _ z).2.1 rfl) ho,r⟩
 ·by_cases hb:b=a
  ·subst hb
   rw[av] at e;cases e;exact new
  ·rw[aN hb] at e
   refine(I.hok b u e).stay (λc v hc q=>k c v ?_ q) (λc q=>by rw[aN (bG q hn)];exact q) λc xs q=>by rw[aN (bG q hn)];exact q
   rcases hc with z|z
   ·rw[z];exact Nj b u e
   ·exact Nj c _ z
end
def QJ (K:bX)(a:o?)(st:Nat):It:=
 ⟨λi H=>∃xs x,aQ K H a xs/\xs[i]?=j? x,λi H v H'=>∃r x,v=.ref r/\H r=q?/\(∀xs,aQ K H a xs->xs[i]?=j? x)/\H'=upd H r (.tup [.int ((st+i:Nat):Int),x]),λi H=>∃xs,aQ K H a xs/\xs.length<=i⟩
theorem Dp {prog:F?}{w:H?}{A:A!}(hh:A.handled=q?)(it l:o?)(hne:l≠it)(items:Array l?)(st:Nat):
  Draws prog w A it [it,l] (st+items.size) (λi v=>items[i-st]?=j? v) (λi h=>st<=i/\h.IsListIter it l (i-st)/\h.IsList l items) where
 live:=λ_ _ x=>let ⟨o,ho,_⟩:=x.2.1;⟨o,ho⟩
 frame:=λ_ _ _ x hk=>⟨x.1,x.2.1.at λo e=>hk it (by simp) o e,x.2.2.at λo e=>hk l (by simp) o e⟩
 item:=λi s Q E hi x hQ=>by
  have hlt:i-st<items.size:=by have:=x.1;omega
  refine wpAny_nextOf_list_item x.2.1 x.2.2 (x:=items[i-st]) (by simp[hlt]) λh' RS hs'=>?_
  have e:i-st+1=i+1-st:=by have:=x.1;omega
  rw[e] at RS;exact hQ _ h' s.toks (by simp[hlt]) ⟨Nat.le_succ_of_le x.1,RS,x.2.2.extBut hs'.extBut hne⟩ hs'
 done:=λs Q E x hE=>wpAny_nextOf_list_end hh x.2.1 x.2.2 (by simp) hE
theorem GB {P:F?}{w:H?}{K:bX}{elts:List Expr}{k:Nat}{pos:Pos}(a e it:o?)(hei:e≠it)(hae:a≠e)(hai:a≠it)(st:Nat):
  Turn P w K (.Tuple elts k pos) (QJ K a st) [e,it] e (λi h=>(∃old,IsEnum h e it ((st+i:Nat):Int) old)/\h.IsListIter it a i) where
 mem:=by simp
 obj:=λi h x b hb=>by
  obtain⟨⟨old,he⟩,o,ho,c,d⟩:=x;rcases List.mem_cons.mp hb with rfl|hb
  ·exact⟨_,he,λv z=>by
    have z':Data.fields _=Data.cell v:=z;cases z'⟩
  ·have e':b=it:=by simpa using hb
   subst e';exact⟨o,ho,λv z=>by rw[d] at z;cases z⟩
 keep:=λi h h' x kk=>⟨let ⟨old,he⟩:=x.1;⟨old,kk e (by simp) _ he⟩,x.2.at λo ho=>kk it (by simp) o ho⟩
 item:=by
  intro X hP hw hK hc i pins s σ H E I hf x hg;subst hP hw hK;obtain⟨xs,v,hq,hx⟩:=hg;obtain⟨its,rv,p,hz⟩:=I.list hq;obtain⟨u,hu,ru⟩:=rv.get hx;obtain⟨⟨old,he⟩,hit⟩:=x;have hi:i<its.length:=(List.getElem?_eq_some_iff.mp hu).1;have D:=Dp (prog:=X.prog) (w:=X.w) (A:=X.A.in1) (I.ok.hd hc) it a hai its.toArray st;have hn0:H s.heap.objs.size=q?:=I.fresh;have helt:e<s.heap.objs.size:=Yl he;have hilt:it<s.heap.objs.size:=by obtain⟨_,y,_⟩:=id hit;exact Yl y
  refine wpAny_pyNext_enum_itemD (i:=st+i) D he ⟨Wj _ _,by rw[Zc];exact hit,p.isList⟩ (by simp;omega) hei (by simp[hei,Ne.symm hae]) λy h1 tk hy ho st1 hT hsz hk=>?_
  rw[Zc] at hy;have ey:y=u:=by
   have:its[i]?=j? y:=by simpa using hy
   rw[hu] at this;exact(M? this).symm
  subst ey;refine⟨_,rfl,wpAny_letOwnedTupleGo_enum ho λh2 he2 hs2=>?_⟩
  have hT2:h2.get? s.heap.objs.size=j? { cls:=.type "tuple",data:=.seq #[.int ((st+i:Nat):Int) tk,y] }:=(hs2.2 _ (Nat.ne_of_gt helt)).trans hT;have I2:Inv X pins σ (upd H s.heap.objs.size (.tup [.int ((st+i:Nat):Int),v])) { s with heap:=h2,toks:=tk+1 }:=
   I.yR (ch:=[e,it]) (λb u hb q=>(hs2.2 b λz=>hb (by simp[z])).trans (hk b u (λz=>hb (by simp[z])) (λz=>hb (by simp[z])) q)) hf (Yd _)
    ⟨by show 2<=K?;rw[C?];omega,[.int ((st+i:Nat):Int) tk,y],.cons ⟨_,rfl⟩ (.cons ru .nil),_,hT2,rfl,0,rfl⟩
  refine⟨.ref s.heap.objs.size,_,I2,rfl,⟨_,v,rfl,hn0,λys hy=>by rw[I.qX hy hq];exact hx,rfl⟩,⟨⟨y,?_⟩,?_⟩,λb hb=>?_⟩
  ·have e1:((st+i:Nat):Int)+1=((st+(i+1):Nat):Int):=by omega
   rw[<- e1];exact he2
  ·have hl1:=st1.2.1
   have e2:st+i+1-st=i+1:=by omega
   rw[e2] at hl1;exact hl1.at λo q=>(hs2.2 it hei.symm).trans q
  ·rw[aN ?_]
   ·exact(hf b hb).1
   ·rcases List.mem_cons.mp hb with rfl|hb
    ·exact Yw helt
    ·have:b=it:=by simpa using hb
     subst this;exact Yw hilt
 done:=by
  intro X hP hw hK hc i pins s σ H E I hf x hg;subst hP hw hK;obtain⟨xs,hq,hx⟩:=hg;obtain⟨its,rv,p,hz⟩:=I.list hq;obtain⟨⟨old,he⟩,hit⟩:=x;have hl:=rv.length;have hT:s.TypeIs (.ref e) "enumerate":=⟨_,he,rfl⟩;unfold pyNext;refine B? (wpAny_attempt (wpAny_callSpecial?_slot (name:=Str.ofString "__next__") hT PySem.F.slot_enumerate_next (wpAny_call_entry PySem.F.slot_enumerate_next hT PySem.F.entry_enumerate_next ?_ (PySem.F.args_enumerate_next_1 _))))
  show L? _ _ (field (.ref e) 2 >>= _) _ _ _
  refine B? (wpAny_field he rfl (x:=.ref it) rfl ?_)
  refine B? (wpAny_nextOf_list_end (I.ok.hd hc) hit p.isList (by simp;omega) λh' x he' hx'=>?_)
  obtain⟨o,ho,hc'⟩:=hx';refine B? (wpAny_isInstance (T:="StopIteration") (b:=true) ⟨o,ho,hc'⟩ isSubtype_stop ?_)
  exact J? ⟨rfl,I.zS (t':=s.toks) (ch:=[e,it]) (λb u hb q=>he' b u (λz=>hb (by simp[z])) q) hf⟩
 self:=λ_ _ _ _ _ x h=>let ⟨_,he⟩:=x.1;wpAny_pyIter_enum he h
section
variable {X:Cx} {elts:List Expr} {k:Nat} {tpos:Pos}
def NC (K:bX)(ta:TA):TI:=λσ H R=>ta σ H λvs H1=>∃a,vs=[.ref a]/\(∃xs,aQ K H1 a xs)/\R (QJ K a 0) H1
theorem LZ {l:Expr}{ta:TA}{p pos:Pos}(hg:Gl X "enumerate")(hm:X.mg "enumerate"=q?)(ha:PA X [l] ta)(hs:I? [l] X.env=[(false,eval l X.env)]:=by rfl):
  PI X (.Tuple elts k tpos) (.Call (.Name "enumerate" p) [l] [] pos) (NC X.K ta):=by
 intro pins s σ H R I h;refine Call_ (j4 I hg hm boot_enumerate (L! (eY (ha pos pins s σ H _ I h) λus s1 ⟨vs,H1,I1,r1,q1⟩=>?_) hs rfl))
 obtain⟨a,e,⟨xs,hq⟩,q⟩:=q1;subst e;obtain⟨u,rfl,ru⟩:=vals1 r1;cases (show u=I! a from ru)
 obtain⟨its,rv,pl,hz⟩:=I1.list hq;have hlt:a<s1.heap.objs.size:=by obtain⟨_,y,_⟩:=pl.isList;exact Yl y
 refine call_enumerate_list pl.isList λh' he hit hsz hk=>?_
 refine wpAny_pyIter_enum he ?_
 have I2:Inv X pins σ H1 { s1 with heap:=h' }:=I1.kept (t':=s1.toks) hk
 refine⟨_,[s1.heap.objs.size+1,s1.heap.objs.size],_,_,H1,rfl,I2,GB a (s1.heap.objs.size+1) s1.heap.objs.size (Nat.succ_ne_self _) (Yw (Nat.lt_succ_of_lt hlt)) (Yw hlt) 0,⟨⟨_,he⟩,hit⟩,λb hb=>?_,q⟩
 rcases List.mem_cons.mp hb with rfl|hb
 ·exact I1.vS (Ji _) (I1.hok.fresh (Ji _))
 ·have:b=s1.heap.objs.size:=by simpa using hb
  subst this;exact I1.vS (Yd _) (I1.hok.fresh (Yd _))
theorem iR {K:bX}{l:Expr}{ta:TA}{p pos:Pos}(hK:X.K=K)(hg:Gl X "enumerate")(hm:X.mg "enumerate"=q?)(ha:PA X [l] ta)(hs:I? [l] X.env=[(false,eval l X.env)]:=by rfl):
  PI X (.Tuple elts k tpos) (.Call (.Name "enumerate" p) [l] [] pos) (NC K ta):=by subst hK;exact LZ hg hm ha hs
end
theorem kJ {K:bX}{a:o?}{st:Nat}{xs:List V}{g:TG}{tb:TS}{D:Ends}{σ:St}{H:Hp}(Pv:Nat->St->Hp->Prop)(h0:Pv 0 σ H)(hl:∀i σ H,i<=xs.length->Pv i σ H->aQ K H a xs)
  (hs:∀i x σ H r,xs[i]?=j? x->Pv i σ H->H r=q?->g (.ref r) σ (upd H r (.tup [.int ((st+i:Nat):Int),x])) λσ2 H2=>tb { D with nx:=Pv (i+1),ct:=Pv (i+1),bk:=D.nx } σ2 H2) (hd:∀σ H,Pv xs.length σ H->D.nx σ H):
  ∃W:Nat->Nat->St->Hp->Prop,(∃m,W 0 m σ H)/\∀i m σ H,W i m σ H->
   ((QJ K a st).stop i H/\D.nx σ H)\/((QJ K a st).go i H/\∃N:St->Hp->Prop,(∀σ' H',N σ' H'->∃m',m'<m/\W (i+1) m' σ' H')/\∀x H',(QJ K a st).OD i H x H'->g x σ H' λσ2 H2=>tb { D with nx:=N,ct:=N,bk:=D.nx } σ2 H2):=by
 refine⟨λi m σ H=>m=xs.length-i/\i<=xs.length/\Pv i σ H,⟨xs.length,by simp,Y5 _,h0⟩,?_⟩
 rintro i m σ H ⟨rfl,hi,p⟩;have q:=hl i σ H hi p;by_cases hlt:i<xs.length
 ·refine .inr ⟨⟨xs,xs[i],q,by simp[hlt]⟩,Pv (i+1),λσ' H' p'=>⟨xs.length-(i+1),by omega,rfl,hlt,p'⟩,λv H' y=>?_⟩
  obtain⟨r,x,e1,hr,hx,e2⟩:=y;subst e1 e2;exact hs i x σ _ r (hx xs q) p hr
 ·have e:i=xs.length:=by omega
  subst e;exact .inl ⟨⟨xs,q,Yd _⟩,hd σ H p⟩
theorem yS {K:bX}{a D:o?}{TM:Nat}{xs:List V}{st:St}{g:TG}{o_:TT}{te:TE}{H1:Hp}{Q:VK}(Pv:Nat->List V->Hp->Prop)(h0:Pv 0 [] (upd H1 D (.lst [])))
  (hl:∀i ys H2,H2 D=j? (.lst ys)->Pv i ys H2->aQ K H2 a xs)
  (hs:∀i m x ys H2 r,m=xs.length-i->i<xs.length->xs[i]?=j? x->H2 D=j? (.lst ys)->ys.length<=i->Pv i ys H2->H2 r=q?->g (.ref r) st (upd H2 r (.tup [.int ((TM+i:Nat):Int),x])) λσ3 H3=>o_ σ3 H3 λb H4=>
   if b=true then te σ3 H4 λy H5=>∃ys,H5 D=j? (.lst ys)/\ys.length<K?/\∃m',m'<m/\CW xs.length D Pv (i+1) m' (upd H5 D (.lst (ys++[y]))) else ∃m',m'<m/\CW xs.length D Pv (i+1) m' H4)
  (hd:∀ys H2,H2 D=j? (.lst ys)->Pv xs.length ys H2->Q (.ref D) H2):
  uJ (QJ K a TM) D st g o_ te Q H1:=by
 refine⟨CW xs.length D Pv,⟨xs.length,by simp,Y5 _,[],av,Yd _,h0⟩,?_⟩
 rintro i m H2 ⟨hm,hi,ys,hy,hlen,p⟩;have q:=hl i ys H2 hy p;by_cases hlt:i<xs.length
 ·refine .inr ⟨⟨xs,xs[i],q,by simp[hlt]⟩,λv H' y=>?_⟩
  obtain⟨r,x,e1,hr,hx,e2⟩:=y;subst e1 e2;exact hs i m x ys _ r hm hlt (hx xs q) hy hlen p hr
 ·have e:i=xs.length:=by omega
  subst e;exact .inl ⟨⟨xs,q,Yd _⟩,hd ys H2 hy p⟩
def QK (top:Int)(n:Nat):It:=⟨λi _=>i<n,λi H x H'=>H'=H/\x=.int (top-i),λi _=>n<=i⟩
theorem yT {P:F?}{w:H?}{K:bX}{tg:Expr}(it:o?)(top:Int)(n:Nat):Turn P w K tg (QK top n) [it] it (λi h=>IsRangeIter h it (top+(i:Nat)*(-1)) ((n:Int)-(i:Nat)) (-1)) where
 mem:=by simp
 obj:=λi h st b hb=>by
  have e:b=it:=by simpa using hb
  subst e;exact⟨_,st,λv z=>by
   have z':Data.fields _=Data.cell v:=z;cases z'⟩
 keep:=λi h h' st k=>k it (by simp) _ st
 item:=by
  intro X hP hw hK hc i pins s σ H E I hf st hg;subst hP hw hK;obtain⟨f0,f1,f2,f3,f4,f5⟩:=hf it (by simp)
  have W:=Walks.range (prog:=X.prog) (w:=X.w) (I.ok.hd hc) it top (-1) n;refine W.item i s _ _ hg st λv h' tk hv st' kk=>?_
  obtain⟨t,rfl⟩:=hv;have I1:Inv X pins σ H { s with heap:=h',toks:=tk }:=I.turned (λb o hb e=>kk b o (by simpa using hb) e) f0 f1 f3 f4 f5
  refine⟨_,rfl,HK (s:={ s with heap:=h',toks:=tk }) (n:="range_iterator") st' rfl rfl (by decide) ⟨.int (top-i),H,I1,⟨t,?_⟩,⟨rfl,rfl⟩,st',λb hb=>(hf b hb).1⟩⟩
  have e:top+(i:Int)*(-1)=top-(i:Int):=by omega
  rw[e]
 done:=by
  intro X hP hw hK hc i pins s σ H E I hf st hg;subst hP hw hK;obtain⟨f0,f1,f2,f3,f4,f5⟩:=hf it (by simp)
  exact wpAny_pyNext_range_end (I.ok.hd hc) st (by have:n<=i:=hg;omega) λh' eb=>⟨rfl,I.turned (t':=s.toks) (λb o hb e=>eb b o hb e) f0 f1 f3 f4 f5⟩
 self:=λ_ _ _ _ _ st h=>wpAny_pyIter_rangeiter st h
theorem Ih (hi:Int):Builtin.Range.rangeSize 0 hi 1=if 0<hi then hi else 0:=by
 rw[rangeSize_one];by_cases h:0<hi
 ·rw[Jl h,Jl h];omega
 ·rw[Jk h,Jk h]
theorem uY:isSubtype (.type "range_iterator") (.type "reversed")=pure false:=by rw[isSubtype_type];kernel_rfl
theorem uZ (r:o?)(a b c:Int)(t u v:Tok)(hc0:¬ (!(Builtin.Range.rangeFitsLong a && Builtin.Range.rangeFitsLong b && Builtin.Range.rangeFitsLong c && Builtin.Range.rangeFitsLong (-c) && Builtin.Range.rangeFitsLong (a-c) && Builtin.Range.rangeFitsLong (Builtin.Range.rangeSize a b c)))=true):
  Meets (Builtin.«range.__reversed__» ⟨[.ref r],[]⟩) (λ_ R s=>s.heap.get? r=j? { cls:=.type "range",dict:=q?,data:=.fields #[.int a t,.int b u,.int c v],slots:=#[] }/\
   R (.ok (.ret (I! s.heap.objs.size))) { s with heap:=s.heap.push { cls:=Value.type (if (Builtin.Range.rangeFitsLong a && Builtin.Range.rangeFitsLong b && Builtin.Range.rangeFitsLong c && Builtin.Range.rangeFitsLong (-c) && Builtin.Range.rangeFitsLong (a-c) && Builtin.Range.rangeFitsLong (Builtin.Range.rangeSize a b c))=true then "range_iterator" else "longrange_iterator"),data:=Data.fields #[rawInt (a+(Builtin.Range.rangeSize a b c-1)*c),rawInt (Builtin.Range.rangeSize a b c),rawInt (-c)] },toks:=s.toks }):=
 .of_wp λprog w A R s h=>by obtain⟨hp,g,d,tk,os⟩:=s;obtain⟨hl,h⟩:=h;wp_walk;exact⟨_,rfl,h⟩
section
variable {prog:F?} {w:H?} {A:A!} {E:l?->u?->Prop} {s:u?}
theorem qc {x:Int}(h1:-(2 ^ 62)-2<=x)(h2:x<=2 ^ 62+2):Builtin.Range.rangeFitsLong x=true:=by
 unfold Builtin.Range.rangeFitsLong;simp only[T?,decide_eq_true_eq]
 omega
theorem v8 {r:o?}{hi:Int}{t u v:Tok}{Q:l?->u?->Prop}(hr:IsRange s.heap r 0 hi 1 t u v)(h3:-(2 ^ 62)<=hi)(h4:hi<2 ^ 62)
  (h:Q (.ref s.heap.objs.size) { s with heap:=s.heap.push { cls:=.type "range_iterator",data:=.fields #[rawInt (0+((if 0<hi then hi else 0)-1)*1),rawInt (if 0<hi then hi else 0),rawInt (-1)] } }):
  L? (S? prog w) A (call (.builtin "range.__reversed__") [.ref r]) Q E s:=by
 have hs:(Builtin.Range.rangeFitsLong 0 && Builtin.Range.rangeFitsLong hi && Builtin.Range.rangeFitsLong 1 && Builtin.Range.rangeFitsLong (-1) && Builtin.Range.rangeFitsLong (0-1) && Builtin.Range.rangeFitsLong (Builtin.Range.rangeSize 0 hi 1))=true:=by
  rw[Ih];simp only[T?]
  refine⟨⟨⟨⟨⟨qc (by decide) (by decide),qc (by omega) (by omega)⟩,qc (by decide) (by decide)⟩,qc (by decide) (by decide)⟩,qc (by decide) (by decide)⟩,?_⟩
  split
  ·exact qc (by omega) (by omega)
  ·exact qc (by decide) (by decide)
 refine call_meets PySem.F.slot_range_reversed ⟨_,hr,rfl⟩ PySem.F.entry_range_reversed (PySem.F.args_range_reversed_1 _) (uZ r 0 hi 1 t u v (by rw[hs];simp)) ⟨hr,?_⟩
 rw[hs,Ih];simp only[if_true]
 exact h
theorem rB {r:o?}{hi:Int}{t u v:Tok}{Q1:l?->u?->Prop}(hr:IsRange s.heap r 0 hi 1 t u v)(h3:-(2 ^ 62)<=hi)(h4:hi<2 ^ 62)
  (h:Q1 (.ref s.heap.objs.size) { s with heap:=s.heap.push { cls:=.type "range_iterator",data:=.fields #[rawInt (0+((if 0<hi then hi else 0)-1)*1),rawInt (if 0<hi then hi else 0),rawInt (-1)] } }):
  codeAny (S? prog w) A (.call (.builtin "reversed.__new__") ⟨[.type "reversed",.ref r],[]⟩) (wants Q1 E) s:=by
 have hT:s.TypeIs (.ref r) "range":=⟨_,hr,rfl⟩;refine codeAny_of_tree ?_
 show L? _ A.in1 (do checkBuiltinCall "reversed.__new__" ⟨[.type "reversed",.ref r],[]⟩;again (.builtin "reversed.__new__" ⟨[.type "reversed",.ref r],[]⟩)) _ _ s
 refine B? (wpAny_of_eq (PySem.F.newCall_reversed_1 _) (J? ⟨plainId_quiet PySem.F.plain_reversed_new _,codeAny_builtin PySem.F.entry_reversed_new ?_⟩))
 rw[Around.under_plainId PySem.F.plain_reversed_new _];unfold Builtin.«reversed.__new__»;refine B? (wpAny_of_eq (newClass_reversed _) ?_)
 try dsimp only
 refine B? (wpAny_of_eq (a:=()) (by first|rfl|kernel_rfl) ?_)
 refine B? (wpAny_of_eq (a:=()) (by first|rfl|kernel_rfl) ?_)
 try dsimp only
 refine B? (wpAny_specialOf hT PySem.F.slot_range_reversed.lookup ?_)
 try dsimp only
 refine B? (wpAny_of_eq (PySem.F.slot_range_reversed.bind _) ?_)
 try dsimp only
 have nn:¬ ((Value.builtin "range.__reversed__" == Value.none)=true):=E?;rw[Jk nn];refine B? (wpAny_rule ?_)
 refine B? (m:=runValue (.call (.builtin "range.__reversed__") ⟨[.ref r],[]⟩)) (show L? _ _ (call (.builtin "range.__reversed__") [.ref r]) _ _ _ from v8 hr h3 h4 ?_)
 first
 | exact J? h
 | exact B? (J? (J? h))
theorem pA {r:o?}{hi:Int}{t u v:Tok}{Q:l?->u?->Prop}(hr:IsRange s.heap r 0 hi 1 t u v)(h3:-(2 ^ 62)<=hi)(h4:hi<2 ^ 62)
  (h:Q (.ref s.heap.objs.size) { s with heap:=s.heap.push { cls:=.type "range_iterator",data:=.fields #[rawInt (0+((if 0<hi then hi else 0)-1)*1),rawInt (if 0<hi then hi else 0),rawInt (-1)] } }):
  L? (S? prog w) A (call (.type "reversed") [.ref r]) Q E s:=by
 refine callType_other (U:="range_iterator") (Q₁:=λobj s₁=>obj=.ref s.heap.objs.size/\s₁={ s with heap:=s.heap.push { cls:=.type "range_iterator",data:=.fields #[rawInt (0+((if 0<hi then hi else 0)-1)*1),rawInt (if 0<hi then hi else 0),rawInt (-1)] } })
  (by decide +kernel) PySem.F.create_reversed ⟨_,_,PySem.F.mro_reversed⟩ PySem.F.made_reversed uY (PySem.F.typeCall_reversed_1 _) (rB hr h3 h4 ⟨rfl,rfl⟩) ?_
 rintro obj s1 ⟨rfl,rfl⟩;exact⟨⟨_,Y9 _ rfl,rfl⟩,h⟩
end
section
variable {X:Cx} {tg:Expr}
def UZ (ta:TA):TE:=λσ H Q=>ta σ H λvs H1=>∃j:Int,vs=[.int j]/\∀p,H1 p=q?->Q (.ref p) (upd H1 p (.sO 0 j))
theorem v_ {a:Expr}{ta:TA}{p pos:Pos}(hg:Gl X "range")(hm:X.mg "range"=q?)(ha:PA X [a] ta)(hs:I? [a] X.env=[(false,eval a X.env)]:=by rfl):PE X (.Call (.Name "range" p) [a] [] pos) (UZ ta):=by
 refine⟨?_⟩
 intro pins s σ H Q I h;refine Call_ (j4 I hg hm boot_range (L! (eY (ha pos pins s σ H _ I h) λus s1 ⟨vs,H1,I1,r1,q1⟩=>?_) hs rfl))
 obtain⟨j,e,q⟩:=q1;subst e;obtain⟨u,rfl,ru⟩:=vals1 r1;obtain⟨t,rfl⟩:=(show ∃t,u=Value.int j t from ru)
 refine call_range_1 ?_
 exact⟨.ref s1.heap.objs.size,_,I1.laid (o:=.sO 0 j) (λb o e=>Yh _ e) (Yd _) ⟨_,_,_,Y9 _ rfl⟩,rfl,q _ I1.fresh⟩
def RT (ta:TA):TI:=λσ H R=>ta σ H λvs H1=>∃a,∃n:Int,vs=[.ref a]/\H1 a=j? (.sO 0 n)/\-(2 ^ 62)<=n/\n<2 ^ 62/\R (QK (n-1) n.toNat) H1
theorem zT {l:Expr}{ta:TA}{p pos:Pos}(hg:Gl X "reversed")(hm:X.mg "reversed"=q?)(ha:PA X [l] ta)(hs:I? [l] X.env=[(false,eval l X.env)]:=by rfl):
  PI X tg (.Call (.Name "reversed" p) [l] [] pos) (RT ta):=by
 intro pins s σ H R I h;refine Call_ (j4 I hg hm boot_reversed (L! (eY (ha pos pins s σ H _ I h) λus s1 ⟨vs,H1,I1,r1,q1⟩=>?_) hs rfl))
 obtain⟨a,n,e,hq,h1,h2,q⟩:=q1;subst e;obtain⟨u,rfl,ru⟩:=vals1 r1;cases (show u=I! a from ru)
 obtain⟨t,u,v,hr⟩:=I1.hok a _ hq;refine pA hr h1 h2 ?_
 have en:((n.toNat:Nat):Int)=if 0<n then n else 0:=by split <;> omega
 have hit:IsRangeIter (s1.heap.push { cls:=.type "range_iterator",data:=.fields #[rawInt (0+((if 0<n then n else 0)-1)*1),rawInt (if 0<n then n else 0),rawInt (-1)] }) s1.heap.objs.size (0+((if 0<n then n else 0)-1)*1) (if 0<n then n else 0) (-1):=Y9 _ rfl
 refine wpAny_pyIter_rangeiter (s:={ s1 with heap:=_ }) hit ?_
 by_cases hn:0<n
 ·rw[Jl hn] at en hit ⊢
  refine⟨_,[s1.heap.objs.size],_,_,H1,rfl,I1.kept (t':=s1.toks) λb o e=>Yh _ e,yT s1.heap.objs.size (n-1) n.toNat,?_,λb hb=>?_,q⟩
  ·have e1:n-1+((0:Nat):Int)*(-1)=0+(n-1)*1:=by omega
   have e2:((n.toNat:Nat):Int)-((0:Nat):Int)=n:=by omega
   show IsRangeIter _ _ (n-1+((0:Nat):Int)*(-1)) (((n.toNat:Nat):Int)-((0:Nat):Int)) (-1)
   rw[e1,e2];exact hit
  ·have e:b=s1.heap.objs.size:=by simpa using hb
   subst e;exact I1.vS (Yd _) (I1.hok.fresh (Yd _))
 ·rw[Jk hn] at en hit ⊢
  have e0:n.toNat=0:=by omega
  rw[e0] at q;have tr:Turn X.prog X.w X.K tg (QK (n-1) 0) [s1.heap.objs.size] s1.heap.objs.size (λi h=>IsRangeIter h s1.heap.objs.size (-1+(i:Nat)*(-1)) (((0:Nat):Int)-(i:Nat)) (-1)):=by
   have T:=yT (P:=X.prog) (w:=X.w) (K:=X.K) (tg:=tg) s1.heap.objs.size (-1) 0;exact⟨T.mem,T.obj,T.keep,λX a b c d i pins s σ H E I hf st hg=>Jr (show i<0 from hg) (Wm _),T.done,T.self⟩
  refine⟨_,[s1.heap.objs.size],_,_,H1,rfl,I1.kept (t':=s1.toks) λb o e=>Yh _ e,tr,hit,λb hb=>?_,q⟩
  have e:b=s1.heap.objs.size:=by simpa using hb
  subst e;exact I1.vS (Yd _) (I1.hok.fresh (Yd _))
end
theorem wc {top:Int}{n:Nat}{g:TG}{tb:TS}{D:Ends}{σ:St}{H:Hp}(Pv:Nat->St->Hp->Prop)(h0:Pv 0 σ H)
  (hs:∀i σ H,i<n->Pv i σ H->g (.int (top-i)) σ H λσ2 H2=>tb { D with nx:=Pv (i+1),ct:=Pv (i+1),bk:=D.nx } σ2 H2) (hd:∀σ H,Pv n σ H->D.nx σ H):
  ∃W:Nat->Nat->St->Hp->Prop,(∃m,W 0 m σ H)/\∀i m σ H,W i m σ H->
   ((QK top n).stop i H/\D.nx σ H)\/((QK top n).go i H/\∃N:St->Hp->Prop,(∀σ' H',N σ' H'->∃m',m'<m/\W (i+1) m' σ' H')/\∀x H',(QK top n).OD i H x H'->g x σ H' λσ2 H2=>tb { D with nx:=N,ct:=N,bk:=D.nx } σ2 H2):=by
 refine⟨λi m σ H=>m=n-i/\i<=n/\Pv i σ H,⟨n,by simp,Y5 _,h0⟩,?_⟩
 rintro i m σ H ⟨rfl,hi,p⟩;by_cases hlt:i<n
 ·refine .inr ⟨hlt,Pv (i+1),λσ' H' p'=>⟨n-(i+1),by omega,rfl,hlt,p'⟩,λx H' y=>?_⟩
  obtain⟨e,y⟩:=y;subst e y;exact hs i σ _ hlt p
 ·have e:i=n:=by omega
  subst e;exact .inl ⟨Yd _,hd σ H p⟩
def Xv (tb:TS)(D:Ends)(Pv:St->Hp->Prop)(μ:St->Hp->Nat)(m:Nat)(σ:St)(H1:Hp):Prop:=
 ∃N:St->Hp->Prop,(∀σ' H',N σ' H'->∃m',m'<m/\(m'=μ σ' H'/\Pv σ' H'))/\tb { D with nx:=N,ct:=N,bk:=D.nx } σ H1
theorem win {tb:TS}{D:Ends}{Pv:St->Hp->Prop}{μ:St->Hp->Nat}{m:Nat}{σ:St}{H1:Hp}(h:tb { D with nx:=λσ' H'=>Pv σ' H'/\μ σ' H'<m,ct:=λσ' H'=>Pv σ' H'/\μ σ' H'<m,bk:=D.nx } σ H1):Xv tb D Pv μ m σ H1:=
 ⟨_,λσ' H' ⟨p,l⟩=>⟨_,l,rfl,p⟩,h⟩
theorem jy {c:TT}{tb:TS}{D:Ends}{σ:St}{H:Hp}(Pv:St->Hp->Prop)(μ:St->Hp->Nat)(h0:Pv σ H)
  (hs:∀σ H,Pv σ H->c σ H λb H1=>if b=true then Xv tb D Pv μ (μ σ H) σ H1 else D.nx σ H1):Dd c tb D σ H:=by
 refine⟨λm σ H=>m=μ σ H/\Pv σ H,⟨_,rfl,h0⟩,?_⟩
 rintro m σ H ⟨rfl,p⟩;exact hs σ H p
theorem merge {C:St->Hp->Prop}{G:Prop}(M:St->Hp->Prop)(h1:(∀σ H,M σ H->C σ H)->G)(h2:∀σ H,M σ H->C σ H):G:=h1 h2
def ao (f:List Int)(i:Nat):Int:=f.getD i 0
theorem iS (i:Nat):ao [] i=0:=by simp[ao]
theorem bD {f:List Int}{i:Nat}(h:f.length<=i):ao f i=0:=by
 unfold ao;rw[Yb,Ww h];rfl
theorem fh {f:List Int}{i:Nat}(h:i<f.length):ao f i=f[i]:=by
 unfold ao;rw[Yb,Yc h];rfl
theorem rC {f:List Int}{i:Nat}{x:Int}(h:f[i]?=j? x):ao f i=x:=by
 unfold ao;rw[Yb,h];rfl
theorem rF {f g:List Int}(hl:f.length=g.length)(h:∀i,i<f.length->ao f i=ao g i):f=g:=by
 refine List.ext_getElem hl λi h1 h2=>?_
 rw[<- fh h1,<- fh h2];exact h i h1
theorem nA {n:Nat}{c:Nat->Int}{i:Nat}(h:i<n):ao ((Yk n).map c) i=c i:=by
 rw[fh (by simpa using h)]
 simp
theorem f_ {n:Nat}{c:Nat->Int}(hc:∀i,n<=i->c i=0)(i:Nat):ao ((Yk n).map c) i=c i:=by
 by_cases h:i<n
 ·exact nA h
 ·rw[bD (by simp;omega),hc i (by omega)]
theorem rG {f:List Int}{k:Nat}{v:Int}(hk:k<f.length)(i:Nat):ao (f.set k v) i=if i=k then v else ao f i:=by
 unfold ao;rw[Yb,List.getElem?_set];by_cases h:k=i
 ·subst h
  simp[hk]
 ·rw[Jk h,Jk (Ne.symm h),Yb]
theorem GC {f:List Int}{n i:Nat}(h:i<n):ao (f.take n) i=ao f i:=by
 unfold ao;rw[Yb,List.getElem?_take,Jl h,Yb]
theorem zU {f:List Int}{n i:Nat}(h:n<=i):ao (f.take n) i=0:=bD (by rw[Y3];omega)
theorem Ii {f:List Int}{g:Int->Int}(h0:g 0=0)(i:Nat):ao (f.map g) i=g (ao f i):=by
 by_cases h:i<f.length
 ·rw[fh (by simpa using h),fh h];simp
 ·rw[bD (by simp;omega),bD (by omega),h0]
theorem jU {f g:List Int}(i:Nat):ao (f++g) i=if i<f.length then ao f i else ao g (i-f.length):=by
 unfold ao;rw[Yb,List.getElem?_append];split
 ·rw[Yb]
 ·rw[Yb]
theorem cV (n i:Nat):ao (Yn n 0) i=0:=by
 by_cases h:i<n
 ·rw[fh (by simpa using h)];simp
 ·exact bD (by simp;omega)
theorem Bw (f:List Int)(n i:Nat):ao (f++Yn n 0) i=ao f i:=by
 rw[jU];split
 ·rfl
 ·rw[cV,bD (by omega)]
def gU (f:List Int):Nat->Nat
 | 0=>0
 | n+1=>if ao f n=0 then gU f n else n+1
def trim (f:List Int):List Int:=f.take (gU f f.length)
def Norm (f:List Int):Prop:=f=[]\/ao f (f.length-1)≠0
theorem rH (f:List Int):∀n,gU f n<=n
 | 0=>Yd _
 | n+1=>by
  unfold gU;split
  ·exact Nat.le_succ_of_le (rH f n)
  ·exact Yd _
theorem Bx (f:List Int):∀n,gU f n=0\/ao f (gU f n-1)≠0
 | 0=>.inl rfl
 | n+1=>by
  unfold gU;split
  ·exact Bx f n
  ·rename_i h;exact .inr h
theorem yU (f:List Int):∀n i,gU f n<=i->i<n->ao f i=0
 | 0,i,_,h=>Jr h (Wm _)
 | n+1,i,h1,h2=>by
  unfold gU at h1;split at h1
  ·rename_i h
   by_cases e:i=n
   ·rw[e];exact h
   ·exact yU f n i h1 (by omega)
  ·omega
theorem gC (f:List Int):(trim f).length=gU f f.length:=by
 unfold trim;rw[Y3,Nat.min_eq_left (rH f _)]
theorem dQ (f:List Int)(i:Nat):ao (trim f) i=ao f i:=by
 unfold trim;by_cases h:i<gU f f.length
 ·exact GC h
 ·rw[zU (by omega)]
  by_cases h2:i<f.length
  ·exact(yU f _ i (by omega) h2).symm
  ·exact(bD (by omega)).symm
theorem jo (f:List Int):Norm (trim f):=by
 rcases Bx f f.length with h|h
 ·left
  have:(trim f).length=0:=by rw[gC];exact h
  exact List.length_eq_zero_iff.mp this
 ·right
  rw[dQ,gC];exact h
theorem rJ {f g:List Int}(hf:Norm f)(hg:Norm g)(h:∀i,ao f i=ao g i):f=g:=by
 have key:∀ {f g:List Int},Norm f->(∀i,ao f i=ao g i)->f.length<=g.length:=by
  intro f g hf h;rcases hf with rfl|hf
  ·exact Y5 _
  ·refine V? λhn=>hf ?_
   rw[h];exact bD (by omega)
 have hl:f.length=g.length:=Nat.le_antisymm (key hf h) (key hg λi=>(h i).symm)
 exact rF hl λi _=>h i
theorem Ij {f g:List Int}(h:∀i,ao f i=ao g i):trim f=trim g:=rJ (jo f) (jo g) λi=>by rw[dQ,dQ,h]
theorem GD {f:List Int}(h:Norm f):trim f=f:=rJ (jo f) h λi=>dQ f i
theorem Norm.last {f:List Int}(h:Norm f)(hne:f≠[]):ao f (f.length-1)≠0:=by
 rcases h with h|h
 ·exact Jr h hne
 ·exact h
def Ik (f g:List Int):List Int:=(Yk (max f.length g.length)).map λi=>ao f i+ao g i
theorem GF (f g:List Int)(i:Nat):ao (Ik f g) i=ao f i+ao g i:=
 f_ (λi h=>by rw[bD (by omega),bD (by omega)];rfl) i
def rK (f g:List Int):List Int:=trim (Ik f g)
theorem oA (f g:List Int)(i:Nat):ao (rK f g) i=ao f i+ao g i:=by
 unfold rK;rw[dQ,GF]
theorem oB (f g:List Int):Norm (rK f g):=jo _
def fY (f g:List Int):Nat->Nat->Int
 | 0,_=>0
 | i+1,m=>fY f g i m+(if i<=m then ao f i*ao g (m-i) else 0)
def conv (f g:List Int)(m:Nat):Int:=fY f g f.length m
def pR (f g:List Int)(i j m:Nat):Int:=fY f g i m+(if i<=m/\m-i<j then ao f i*ao g (m-i) else 0)
theorem we (f g:List Int)(i m:Nat):pR f g i 0 m=fY f g i m:=by
 unfold pR;rw[Jk (by omega),Z4]
theorem yV (f g:List Int)(i m:Nat):pR f g i g.length m=fY f g (i+1) m:=by
 show _=fY f g i m+_
 unfold pR;congr 1
 by_cases h:i<=m
 ·by_cases h2:m-i<g.length
  ·rw[Jl ⟨h,h2⟩,Jl h]
  ·rw[Jk (by omega),Jl h,bD (f:=g) (by omega),Yr]
 ·rw[Jk (by omega),Jk h]
theorem wg (f g:List Int)(i j m:Nat):pR f g i (j+1) m=if m=i+j then pR f g i j m+ao f i*ao g j else pR f g i j m:=by
 unfold pR;by_cases h:m=i+j
 ·subst h
  have e:i+j-i=j:=by omega
  rw[Jl rfl,Jl ⟨by omega,by omega⟩,Jk (by omega),e]
  omega
 ·rw[Jk h]
  congr 1
  by_cases h1:i<=m/\m-i<j
  ·rw[Jl h1,Jl ⟨h1.1,by omega⟩]
  ·rw[Jk h1,Jk (by omega)]
theorem uM (f g:List Int):∀(i m:Nat),f.length<=i->fY f g i m=fY f g f.length m
 | 0,m,h=>by
  have:f.length=0:=by omega
  rw[this]
 | i+1,m,h=>by
  by_cases e:f.length=i+1
  ·rw[e]
  ·show fY f g i m+_=_
   rw[uM f g i m (by omega),bD (f:=f) (i:=i) (by omega)]
   simp
theorem tG (f g:List Int):∀(i m:Nat),(∀a,a<i->a<=m->ao f a*ao g (m-a)=0)->fY f g i m=0
 | 0,m,_=>rfl
 | i+1,m,h=>by
  show fY f g i m+_=0
  rw[tG f g i m λa h1 h2=>h a (by omega) h2]
  by_cases hi:i<=m
  ·rw[Jl hi,h i (by omega) hi];rfl
  ·rw[Jk hi];rfl
theorem nC (f g:List Int)(m:Nat)(h:f.length+g.length<=m+1):conv f g m=0:=
 tG f g f.length m λa h1 h2=>by rw[bD (f:=g) (by omega),Yr]
def dY (f g:List Int):List Int:=if f=[]\/g=[] then [] else (Yk (f.length+g.length-1)).map (conv f g)
theorem oE (f g:List Int)(m:Nat):ao (dY f g) m=conv f g m:=by
 unfold dY;by_cases h:f=[]\/g=[]
 ·rw[Jl h,iS]
  rcases h with rfl|rfl
  ·rfl
  ·exact(tG f [] f.length m λa _ _=>by rw[iS,Yr]).symm
 ·rw[Jk h]
  refine f_ (λi hi=>nC f g i ?_) m
  have:0<f.length:=List.length_pos_iff.mpr λz=>h (.inl z)
  omega
def gR (m:Nat)(f:List Int):Prop:=∀x∈f,Bd m x
theorem gR.ao {m:Nat}{f:List Int}(h:gR m f)(i:Nat):Bd m (ao f i):=by
 by_cases hi:i<f.length
 ·rw[fh hi];exact h _ (Y0 hi)
 ·rw[bD (by omega)]
  show Wa 0<2 ^ m
  exact Wf (by decide)
theorem gR.mono {m n:Nat}{f:List Int}(h:gR m f)(hmn:m<=n):gR n f:=λx hx=>(h x hx).mono hmn
theorem zV {m:Nat}{f:List Int}(h:∀i,i<f.length->Bd m (ao f i)):gR m f:=λx hx=>by
 obtain⟨i,hi,rfl⟩:=Ws hx;rw[<- fh hi];exact h i hi
theorem gR.trim {m:Nat}{f:List Int}(h:gR m f):gR m (trim f):=λx hx=>h x (List.mem_of_mem_take hx)
theorem Fe (m:Nat):Bd m 0:=Wf (by decide)
theorem gR.fY {m n:Nat}{f g:List Int}(hf:gR m f)(hg:gR n g):∀(i k:Nat),Bd (m+n+i) (fY f g i k)
 | 0,k=>Fe _
 | i+1,k=>by
  have ih:=gR.fY hf hg i k;have h2:Bd (m+n+i) (if i<=k then L2.ao f i*L2.ao g (k-i) else 0):=by
   split
   ·exact((hf.ao i).mul (hg.ao (k-i))).mono (by omega)
   ·exact Fe _
  exact(ih.add h2).mono (by omega)
theorem gR.dY {m n:Nat}{f g:List Int}(hf:gR m f)(hg:gR n g):gR (m+n+f.length) (dY f g):=zV λi _=>by
 rw[oE];exact gR.fY hf hg _ _
def O2 (H:Hp)(Q:VK)(ns:List Int):Prop:=∀p H',aI H H'->H p=q?->H' p=j? (.lst (ns.map V.int))->Q (.ref p) H'
theorem tH (ns:List Int)(k:Nat)(h:k<=ns.length):iZ (ns.map V.int) q? (j? (k:Int))=(ns.take k).map V.int:=by
 unfold iZ;have e1:HT.qU (ns.map V.int).length 0 q?=0:=rfl;have e2:HT.qU (ns.map V.int).length (ns.map V.int).length (j? (k:Int))=k:=by
  rw[HT.lB,Ya];omega
 rw[e1,e2];simp
theorem rL (n:Nat):(Yn n [V.int 0]).flatten=(Yn n (0:Int)).map V.int:=by
 induction n with
 | zero=>rfl
 | succ n ih=>rw[Z2,W0,ih,Z2];rfl
theorem bh {ns:List Int}{i:Nat}{x:V}(h:(ns.map V.int)[i]?=j? x):∃n,ns[i]?=j? n/\x=.int n:=by
 rw[Ye] at h;cases e:ns[i]? with
 | none=>rw[e] at h;cases h
 | some n=>rw[e] at h;exact⟨n,rfl,(M? h).symm⟩
theorem qd {ns:List Int}{i:Nat}(h:i<ns.length):(ns.map V.int)[i]?=j? (.int (ao ns i)):=by
 rw[Ye,Yc h,fh h];rfl
theorem fL {ns:List Int}{i:Int}(h0:0<=i)(h1:i<(ns.length:Int)):qZ (ns.map V.int) i=j? (.int (ao ns i.toNat)):=by
 have hi:i.toNat<(ns.map V.int).length:=by rw[Ya];omega
 rw[iQ h0 hi];rw[fh (by rw[Ya] at hi;exact hi)]
 simp
theorem nE (ns:List Int)(i:Nat)(v:Int):(ns.map V.int).set i (.int v)=(ns.set i v).map V.int:=by rw[List.map_set]
theorem zW {n:Nat}{k:Int}(h0:0<=k)(h1:k<(n:Int)):Lr n k=j? k.toNat:=by
 unfold Lr;rw[Jl h0];first
  | rw[Jl h1]
  | rw[Jl (by omega)]
def ND (K:bX):V->V->Hp->VK->Prop:=λx y H Q=>∃p xs i v,x=.ref p/\y=.int i/\aQ K H p xs/\0<=i/\xs[i.toNat]?=j? v/\Q v H
theorem Il {X:Cx}:OA X (ND X.K):=by
 intro pins s σ H o i ov iv Q I ro ri h;obtain⟨p,xs,k,v,rfl,rfl,hq,h0,hx,q⟩:=h;cases ro;obtain⟨t,rfl⟩:=ri;obtain⟨its,r,pl,hz⟩:=I.list hq;obtain⟨u,hu,ru⟩:=r.get hx;have hl:=r.length;have hi:k.toNat<its.length:=(List.getElem?_eq_some_iff.mp hu).1;have hn:=vV;exact wpAny_getItem_list pl.isList h0 (by omega) (by simpa using hu) ⟨v,H,I,ru,q⟩
theorem yW {X:Cx}{K:bX}(h:X.K=K):OA X (ND K):=by subst h;exact Il
theorem By {ns:List Int}(h:ns≠[]):qZ (ns.map V.int) (-1)=j? (.int (ao ns (ns.length-1))):=by
 have hl:0<ns.length:=List.length_pos_iff.mpr h;unfold qZ Lr;rw[Jk (by decide),Jl (by rw[Ya];omega),Ya]
 have e:(-1+(ns.length:Int)).toNat=ns.length-1:=by omega
 show(ns.map V.int)[(-1+(ns.length:Int)).toNat]?=_
 rw[e];exact qd (by omega)
theorem gR.snoc {m:Nat}{f:List Int}{x:Int}(h:gR m f)(hx:Bd m x):gR m (f++[x]):=λy hy=>by
 rcases List.mem_append.mp hy with z|z
 ·exact h y z
 ·have:y=x:=by simpa using z
  rw[this];exact hx
theorem rM (f:List Int)(x:Int):f.map V.int++[V.int x]=(f++[x]).map V.int:=by simp
theorem Dq (ns:List Int)(k:Nat):iZ (ns.map V.int) q? (j? (k:Int))=(ns.take k).map V.int:=by
 by_cases h:k<=ns.length
 ·exact tH ns k h
 ·unfold iZ
  have e1:HT.qU (ns.map V.int).length 0 q?=0:=rfl;have e2:HT.qU (ns.map V.int).length (ns.map V.int).length (j? (k:Int))=ns.length:=by
   rw[HT.lB,Ya];omega
  rw[e1,e2,Zz (by simp),Zz (by omega)]
  simp
theorem wj (f g:List Int):∀(i m:Nat),m+1<=i->fY f g i m=fY f g (m+1) m
 | 0,m,h=>Jr h (by omega)
 | i+1,m,h=>by
  by_cases e:m=i
  ·rw[e]
  ·show fY f g i m+_=_
   rw[wj f g i m (by omega),Jk (by omega),Z4]
theorem rN (f g:List Int)(m:Nat):conv f g m=fY f g (m+1) m:=by
 unfold conv;by_cases h:f.length<=m+1
 ·exact(uM f g (m+1) m h).symm
 ·exact wj f g f.length m (by omega)
theorem wk {f f' g g':List Int}(hf:∀a,ao f a=ao f' a)(hg:∀a,ao g a=ao g' a):∀(i m:Nat),fY f g i m=fY f' g' i m
 | 0,m=>rfl
 | i+1,m=>by
  show fY f g i m+_=fY f' g' i m+_
  rw[wk hf hg i m,hf,hg]
theorem wm {f f' g g':List Int}(hf:∀a,ao f a=ao f' a)(hg:∀a,ao g a=ao g' a)(m:Nat):conv f g m=conv f' g' m:=by
 rw[rN,rN,wk hf hg]
theorem BA {u f g:List Int}{t:Nat}{c:Int}(hc:∀a,ao u a=ao f a+if a=t then c else 0):∀(i m:Nat),fY u g i m=fY f g i m+if t<i/\t<=m then c*ao g (m-t) else 0
 | 0,m=>by
  rw[Jk (by omega)];simp[fY]
 | i+1,m=>by
  show fY u g i m+_=fY f g i m+_+_
  rw[BA hc i m,hc];by_cases hi:i<=m
  ·rw[Jl hi,Jl hi]
   by_cases e:i=t
   ·subst e
    rw[Jk (by omega),Jl rfl,Jl ⟨by omega,hi⟩,Int.add_mul]
    omega
   ·rw[Jk e,Z4]
    by_cases h2:t<i/\t<=m
    ·rw[Jl h2,Jl ⟨by omega,h2.2⟩];omega
    ·rw[Jk h2,Jk (by omega)];omega
  ·rw[Jk hi,Jk hi]
   by_cases h2:t<i/\t<=m
   ·rw[Jl h2,Jl ⟨by omega,h2.2⟩];omega
   ·rw[Jk h2,Jk (by omega)]
theorem Im {u f g:List Int}{t:Nat}{c:Int}(hc:∀a,ao u a=ao f a+if a=t then c else 0)(m:Nat):conv u g m=conv f g m+if t<=m then c*ao g (m-t) else 0:=by
 rw[rN,rN,BA hc];congr 1
 by_cases h:t<=m
 ·rw[Jl h,Jl ⟨by omega,h⟩]
 ·rw[Jk h,Jk (by omega)]
def b7 (g:List Int):Prop:=g≠[]/\ao g (g.length-1)=1
theorem wo {f:List Int}{d:Nat}:∀n,(∀m,d<=m->m<n->ao f m=0)->gU f n<=d
 | 0,_=>Y5 _
 | n+1,h=>by
  unfold gU;split
  ·exact wo n λm h1 h2=>h m h1 (by omega)
  ·rename_i hne
   refine V? λhn=>hne ?_
   exact h n (by omega) (by omega)
structure wu (f g q r:List Int):Prop where
 eq:∀m,ao f m=conv q g m+ao r m
 nq:Norm f->Norm q
 nr:Norm r
 len:r.length<g.length
 lq:q.length=f.length-(g.length-1)
def Lv (N i:Nat)(Qr:List Int):List Int:=Yn (N-i) 0++Qr.reverse
theorem Io {l:List Int}{i:Nat}(h:i<l.length):ao l.reverse i=ao l (l.length-1-i):=by
 rw[fh (by rw[Z8];exact h),fh (by omega)]
 rw[List.getElem_reverse]
theorem Ir {N i:Nat}{Qr:List Int}{c:Int}(hl:Qr.length=i)(hi:i<N)(a:Nat):ao (Lv N (i+1) (Qr++[c])) a=ao (Lv N i Qr) a+if a=N-1-i then c else 0:=by
 unfold Lv;have e0:(Qr++[c]).reverse=c::Qr.reverse:=by simp
 rw[e0,jU (f:=Yn (N-(i+1)) 0),jU (f:=Yn (N-i) 0),Ys,Ys];by_cases h1:a<N-(i+1)
 ·rw[Jl h1,Jl (by omega),Jk (by omega),cV,cV];rfl
 ·rw[Jk h1]
  by_cases h2:a=N-1-i
  ·rw[Jl h2,Jl (by omega),cV]
   have e:a-(N-(i+1))=0:=by omega
   rw[e];show c=0+c
   omega
  ·rw[Jk h2,Jk (by omega)]
   have e:a-(N-(i+1))=(a-(N-i))+1:=by omega
   rw[e];show ao (c::Qr.reverse) ((a-(N-i))+1)=_
   have:ao (c::Qr.reverse) ((a-(N-i))+1)=ao Qr.reverse (a-(N-i)):=by simp[ao]
   rw[this];omega
theorem L0 {N:Nat}{Qr:List Int}(hl:Qr.length=N):Lv N N Qr=Qr.reverse:=by
 unfold Lv;rw[W4];rfl
structure yX (f g:List Int)(N i:Nat)(Qr R:List Int):Prop where
 lq:Qr.length=i
 lr:R.length=f.length
 eq:∀m,m<R.length->ao R m=ao f m-conv (Lv N i Qr) g m
 top:∀m,f.length-i<=m->m<R.length->ao R m=0
 lead:0<i->ao Qr 0=ao f (f.length-1)
def NF (g:List Int)(R R':List Int)(t:Nat)(lead:Int)(j:Nat):Prop:=R'.length=R.length/\∀m,m<R.length->ao R' m=ao R m-if t<=m/\m-t<j then lead*ao g (m-t) else 0
theorem NF.start (g R:List Int)(t:Nat)(lead:Int):NF g R R t lead 0:=⟨rfl,λm _=>by rw[Jk (by omega)];omega⟩
theorem NF.step {g R R':List Int}{t:Nat}{lead:Int}{j:Nat}(h:NF g R R' t lead j)(hj:t+j<R.length):NF g R (R'.set (t+j) (ao R' (t+j)-lead*ao g j)) t lead (j+1):=by
 refine⟨by rw[W7];exact h.1,λm hm=>?_⟩
 rw[rG (by rw[h.1];exact hj)]
 by_cases e:m=t+j
 ·subst e
  have e2:t+j-t=j:=by omega
  rw[Jl rfl,Jl ⟨by omega,by omega⟩,h.2 _ hm,Jk (by omega),e2]
  omega
 ·rw[Jk e,h.2 m hm]
  congr 1
  by_cases h1:t<=m/\m-t<j
  ·rw[Jl h1,Jl ⟨h1.1,by omega⟩]
  ·rw[Jk h1,Jk (by omega)]
theorem yX.next {f g Qr R R':List Int}{N i:Nat}(hg:b7 g)(hN:N=f.length-(g.length-1))(D:yX f g N i Qr R)(hi:i<N)(h:NF g R R' (N-1-i) (ao R (N-1-i+(g.length-1))) g.length):
  yX f g N (i+1) (Qr++[ao R (N-1-i+(g.length-1))]) R':=by
 have Xw:0<g.length:=List.length_pos_iff.mpr hg.1;have lr:=D.lr;have lq:=D.lq;refine⟨by rw[Yg,D.lq];rfl,h.1.trans D.lr,λm hm=>?_,λm h1 h2=>?_,λ_=>?_⟩
 ·rw[h.1] at hm
  rw[h.2 m hm,D.eq m hm,Im (Ir (c:=ao R (N-1-i+(g.length-1))) D.lq hi)];have:(if N-1-i<=m/\m-(N-1-i)<g.length then ao R (N-1-i+(g.length-1))*ao g (m-(N-1-i)) else 0)=if N-1-i<=m then ao R (N-1-i+(g.length-1))*ao g (m-(N-1-i)) else 0:=by
   by_cases h1:N-1-i<=m
   ·by_cases h2:m-(N-1-i)<g.length
    ·rw[Jl ⟨h1,h2⟩,Jl h1]
    ·rw[Jk (by omega),Jl h1,bD (f:=g) (by omega),Yr]
   ·rw[Jk (by omega),Jk h1]
  rw[this];omega
 ·have h2':m<R.length:=by rw[h.1] at h2;exact h2
  rw[h.2 m h2'];by_cases e:m=f.length-(i+1)
  ·have e1:m-(N-1-i)=g.length-1:=by omega
   have e2:N-1-i+(g.length-1)=m:=by omega
   rw[Jl ⟨by omega,by omega⟩,e1,hg.2,e2,Zx]
   omega
  ·rw[D.top m (by omega) h2']
   have e1:g.length<=m-(N-1-i):=by omega
   rw[Jk (by omega)]
   rfl
 ·rw[jU]
  by_cases h0:0<i
  ·rw[Jl (by omega)];exact D.lead h0
  ·have e0:i=0:=by omega
   subst e0;rw[Jk (by omega)]
   have e1:N-1-0+(g.length-1)=f.length-1:=by omega
   have RU:Qr=[]:=List.length_eq_zero_iff.mp D.lq;rw[e1,D.eq _ (by omega)]
   have hz:conv (Lv N 0 Qr) g (f.length-1)=0:=by
    rw[wm (f':=[]) (g':=g) (λa=>?_) (λ_=>rfl)]
    ·rfl
    ·unfold Lv
     rw[RU,List.reverse_nil,List.append_nil,cV,iS]
   rw[hz];have:ao [ao f (f.length-1)-0] (0-Qr.length)=ao f (f.length-1)-0:=by rw[RU];rfl
   rw[this];omega
theorem yX.done {f g Qr R:List Int}{N:Nat}(hg:b7 g)(hN:N=f.length-(g.length-1))(D:yX f g N N Qr R):wu f g Qr.reverse (trim R):=by
 have Xw:0<g.length:=List.length_pos_iff.mpr hg.1;refine⟨λm=>?_,λnf=>?_,jo R,?_,by rw[Z8,D.lq,hN]⟩
 ·rw[dQ]
  by_cases hm:m<R.length
  ·have:=D.eq m hm
   rw[L0 D.lq] at this;omega
  ·have lr:=D.lr
   have lq:=D.lq;rw[bD (f:=f) (by omega),bD (f:=R) (by omega)]
   have hb:conv Qr.reverse g m=0:=by
    by_cases hz:Qr=[]
    ·subst hz;rfl
    ·have:0<Qr.length:=List.length_pos_iff.mpr hz
     exact nC _ _ _ (by rw[Z8];omega)
   rw[hb];rfl
 ·by_cases hz:Qr=[]
  ·left;rw[hz];rfl
  ·right
   have hl:0<Qr.length:=List.length_pos_iff.mpr hz;have lq:=D.lq;rw[Io (by rw[Z8];omega),Z8]
   have e:Qr.length-1-(Qr.length-1)=0:=by omega
   rw[e,D.lead (by omega)]
   exact nf.last λz=>by rw[z] at hN;simp at hN;omega
 ·rw[gC]
  have:gU R R.length<=g.length-1:=wo _ λm h1 h2=>D.top m (by have:=D.lr;omega) h2
  omega
def bO:Nat->(Nat->Int)->Int
 | 0,_=>0
 | n+1,f=>bO n f+f n
theorem bJ {f g:Nat->Int}:∀ {n:Nat},(∀i,i<n->f i=g i)->bO n f=bO n g
 | 0,_=>rfl
 | n+1,h=>by
  show bO n f+f n=bO n g+g n
  rw[bJ λi hi=>h i (by omega),h n (by omega)]
theorem rO (f g:Nat->Int):∀n,bO n (λi=>f i+g i)=bO n f+bO n g
 | 0=>rfl
 | n+1=>by
  show bO n (λi=>f i+g i)+(f n+g n)=bO n f+f n+(bO n g+g n)
  rw[rO f g n];omega
theorem nF (c:Int)(f:Nat->Int):∀n,bO n (λi=>c*f i)=c*bO n f
 | 0=>by simp[bO]
 | n+1=>by
  show bO n (λi=>c*f i)+c*f n=c*(bO n f+f n)
  rw[nF c f n,Int.mul_add]
theorem tK (c:Int)(f:Nat->Int)(n:Nat):bO n (λi=>f i*c)=bO n f*c:=by
 rw[Zf,<- nF];exact bJ λi _=>Zf _ _
theorem cN {f:Nat->Int}:∀ {n:Nat},(∀i,i<n->f i=0)->bO n f=0
 | 0,_=>rfl
 | n+1,h=>by
  show bO n f+f n=0
  rw[cN λi hi=>h i (by omega),h n (by omega)]
  rfl
theorem kK (f:Nat->Int):∀n,bO (n+1) f=f 0+bO n λi=>f (i+1)
 | 0=>by simp[bO]
 | n+1=>by
  show bO (n+1) f+f (n+1)=f 0+(bO n (λi=>f (i+1))+f (n+1))
  rw[kK f n];omega
theorem BB (f:Nat->Int):∀n,bO n f=bO n λi=>f (n-1-i)
 | 0=>rfl
 | n+1=>by
  rw[kK λi=>f (n+1-1-i)]
  show bO n f+f n=_
  rw[BB f n];have e0:n+1-1-0=n:=by omega
  have e1:bO n (λi=>f (n-1-i))=bO n λi=>f (n+1-1-(i+1)):=bJ λi hi=>by
   have:n-1-i=n+1-1-(i+1):=by omega
   rw[this]
  rw[e0,e1];omega
theorem lM (f:Nat->Int)(a:Nat):∀b,bO (a+b) f=bO a f+bO b λi=>f (a+i)
 | 0=>by simp[bO]
 | b+1=>by
  show bO (a+b) f+f (a+b)=bO a f+(bO b (λi=>f (a+i))+f (a+b))
  rw[lM f a b];omega
theorem jz {f:Nat->Int}{k:Nat}:∀ {n:Nat},k<n->(∀i,i<n->i≠k->f i=0)->bO n f=f k
 | 0,h,_=>Jr h (Wm _)
 | n+1,h,z=>by
  show bO n f+f n=f k
  by_cases e:k=n
  ·subst e
   rw[cN λi hi=>z i (by omega) (by omega)]
   omega
  ·rw[jz (n:=n) (by omega) λi hi=>z i (by omega),z n (by omega) (Ne.symm e)]
   omega
theorem rP (F:Nat->Nat->Int):∀m,bO (m+1) (λk=>bO (k+1) λi=>F i k)=bO (m+1) λi=>bO (m-i+1) λj=>F i (i+j)
 | 0=>by simp[bO]
 | m+1=>by
  show bO (m+1) (λk=>bO (k+1) λi=>F i k)+bO (m+1+1) (λi=>F i (m+1))=_
  rw[rP F m];show _=bO (m+1) (λi=>bO (m+1-i+1) λj=>F i (i+j))+bO (m+1-(m+1)+1) (λj=>F (m+1) (m+1+j))
  have e1:bO (m+1) (λi=>bO (m+1-i+1) λj=>F i (i+j))=bO (m+1) (λi=>bO (m-i+1) (λj=>F i (i+j))+F i (m+1)):=bJ λi hi=>by
   have h1:m+1-i+1=(m-i+1)+1:=by omega
   rw[h1];show bO (m-i+1) _+F i (i+(m-i+1))=_
   have h2:i+(m-i+1)=m+1:=by omega
   rw[h2]
  rw[e1,rO];have e2:m+1-(m+1)+1=1:=by omega
  rw[e2];show _+(bO (m+1) (λi=>F i (m+1))+F (m+1) (m+1))=_+(0+F (m+1) (m+1+0))
  have e3:m+1+0=m+1:=by omega
  rw[e3];omega
def cv (a b:Nat->Int)(m:Nat):Int:=bO (m+1) λi=>a i*b (m-i)
theorem BC {a a' b b':Nat->Int}{m:Nat}(ha:∀i,i<=m->a i=a' i)(hb:∀i,i<=m->b i=b' i):cv a b m=cv a' b' m:=bJ λi hi=>by rw[ha i (by omega),hb (m-i) (by omega)]
theorem lN (a b:Nat->Int)(m:Nat):cv a b m=cv b a m:=by
 unfold cv;rw[BB];refine bJ λi hi=>?_
 have e1:m+1-1-i=m-i:=by omega
 have e2:m-(m-i)=i:=by omega
 rw[e1,e2,Zf]
theorem BD (a b c:Nat->Int)(m:Nat):cv (cv a b) c m=cv a (cv b c) m:=by
 have l:cv (cv a b) c m=bO (m+1) λk=>bO (k+1) λi=>a i*b (k-i)*c (m-k):=bJ λk _=>by
  show bO (k+1) (λi=>a i*b (k-i))*c (m-k)=_
  rw[<- tK]
 rw[l,rP λi k=>a i*b (k-i)*c (m-k)]
 refine bJ λi hi=>?_
 show _=a i*bO (m-i+1) λj=>b j*c (m-i-j)
 rw[<- nF];refine bJ λj hj=>?_
 have e1:i+j-i=j:=by omega
 have e2:m-(i+j)=m-i-j:=by omega
 rw[e1,e2,Zv]
theorem wz (a b c:Nat->Int)(m:Nat):cv (λi=>a i+b i) c m=cv a c m+cv b c m:=by
 unfold cv;rw[<- rO];exact bJ λi _=>Int.add_mul ..
theorem L1 (a b c:Nat->Int)(m:Nat):cv a (λi=>b i+c i) m=cv a b m+cv a c m:=by
 rw[lN,wz,lN b,lN c]
theorem zX (b:Nat->Int)(m:Nat):cv (λ_=>0) b m=0:=cN λi _=>Y4 _
theorem vt {a b:Nat->Int}{c:Int}(h0:a 0=c)(hs:∀i,0<i->a i=0)(m:Nat):cv a b m=c*b m:=by
 unfold cv;rw[jz (k:=0) (by omega) λi _ hi=>by rw[hs i (by omega),Y4],h0,Nat.sub_zero]
theorem BE (f g:List Int):∀(i m:Nat),i<=m+1->fY f g i m=bO i λa=>ao f a*ao g (m-a)
 | 0,m,_=>rfl
 | i+1,m,h=>by
  show fY f g i m+_=bO i _+_
  rw[BE f g i m (by omega),Jl (by omega)]
theorem Ff (f g:List Int)(m:Nat):conv f g m=cv (ao f) (ao g) m:=by
 rw[rN,BE f g (m+1) m (Yd _)];rfl
theorem cp (f g:List Int)(m:Nat):ao (dY f g) m=cv (ao f) (ao g) m:=by rw[oE,Ff]
theorem L3 (f g:List Int):ao (dY f g)=cv (ao f) (ao g):=funext λm=>cp f g m
theorem Xx (f g:List Int):ao (rK f g)=λm=>ao f m+ao g m:=funext λm=>oA f g m
theorem TN (f:List Int):ao (trim f)=ao f:=funext λm=>dQ f m
def uN (key:List Int):List (List Int)->List Int
 | []=>[]
 | d::r=>rK (dY (uN key r) key) d
theorem wA (key:List Int):∀ds,Norm (uN key ds)
 | []=>.inl rfl
 | _::_=>oB _ _
def jl (key:List Int)(found step:List Int):List (List Int)->List Int
 | []=>found
 | d::r=>jl key (rK found (trim (dY d step))) (trim (dY step key)) r
theorem NG (key:List Int):∀(ds:List (List Int)) (found step:List Int) (m:Nat),ao (jl key found step ds) m=ao found m+cv (ao (uN key ds)) (ao step) m
 | [],found,step,m=>by
  show ao found m=ao found m+cv (ao []) (ao step) m
  have e:cv (ao []) (ao step) m=0:=cN λi _=>by rw[iS,Y4]
  rw[e,Z4]
 | d::r,found,step,m=>by
  show ao (jl key (rK found (trim (dY d step))) (trim (dY step key)) r) m=ao found m+cv (ao (rK (dY (uN key r) key) d)) (ao step) m
  rw[NG key r,Xx,Xx,TN,TN,L3,L3,L3,wz];have e1:cv (ao (uN key r)) (cv (ao step) (ao key)) m=cv (cv (ao (uN key r)) (ao key)) (ao step) m:=by
   rw[BD];exact BC (λ_ _=>rfl) λi _=>lN _ _ i
  rw[e1];show ao found m+cv (ao d) (ao step) m+_=_
  omega
theorem Fg (key:List Int):∀(ds:List (List Int)) (found step:List Int),Norm found->Norm (jl key found step ds)
 | [],_,_,h=>h
 | _::r,_,_,_=>Fg key r _ _ (oB _ _)
theorem Iu (key:List Int)(ds:List (List Int)):jl key [] [1] ds=uN key ds:=by
 refine rJ (Fg key ds _ _ (.inl rfl)) (wA key ds) λm=>?_
 rw[NG,iS,Z5,lN,vt (c:=1) rfl λi hi=>bD (by show 1<=i;omega),Zg]
abbrev LP:=o?×List Int
abbrev lrefs (ts:List LP):List V:=ts.map λt=>V.ref t.1
abbrev lvals (ts:List LP):List (List Int):=ts.map λt=>t.2
structure C7 (H:Hp)(p:o?)(ts:List LP):Prop where
 top:H p=j? (.lst (lrefs ts))
 it:∀t∈ts,H t.1=j? (.lst (t.2.map V.int))
theorem C7.same {H H':Hp}{p:o?}{ts:List LP}(h:C7 H p ts)(g:aI H H'):C7 H' p ts:=⟨g _ _ h.top,λt ht=>g _ _ (h.it t ht)⟩
theorem C7.snoc {H:Hp}{p:o?}{ts:List LP}{t:LP}(h:C7 H p ts)(hp:∀t∈ts,t.1≠p)(ht:H t.1=j? (.lst (t.2.map V.int)))(hn:t.1≠p):C7 (upd H p (.lst (lrefs ts++[.ref t.1]))) p (ts++[t]):=by
 refine⟨?_,λx hx=>?_⟩
 ·rw[av];simp[lrefs]
 ·rcases List.mem_append.mp hx with z|z
  ·rw[aN (hp x z)];exact h.it x z
  ·have:x=t:=by simpa using z
   subst this;rw[aN hn];exact ht
abbrev GG (ls:List (List Int)):N!:=.list (ls.map dI)
theorem Fj (ls:List (List Int)):Fl 2 (GG ls):=.lst λd hd=>by
 obtain⟨i,_,rfl⟩:=List.mem_map.mp hd;exact lK i
theorem L4 {a b:List (List Int)}(h:GG a=GG b):a=b:=by
 have h':a.map dI=b.map dI:=PyData.list.inj h;induction a generalizing b with
 | nil=>
  cases b with
  | nil=>rfl
  | cons _ _=>simp at h'
 | cons x a ih=>
  cases b with
  | nil=>simp at h'
  | cons y b=>
   have h2:dI x=dI y/\a.map dI=b.map dI:=List.cons.inj h';rw[Ig h2.1,ih (Jp PyData.list h2.2) h2.2]
theorem O3 (a b:List (List Int)):E! (GG a) (GG b)=decide (a=b):=by
 rw[vq (Fj a) (Fj b)];by_cases h:a=b
 ·rw[Jm h,Jm (Jp GG h)]
 ·rw[Jo h,Jo λz=>h (L4 z)]
theorem O4 {K:bX}{H:Hp}{p:o?}{ts:List LP}(ht:aQ K H p (lrefs ts))(hi:∀t∈ts,aQ K H t.1 (t.2.map V.int)):Den K H (.ref p) (GG (lvals ts)):=by
 refine .lst ht (by simp) λi x d h1 h2=>?_
 rw[Ye] at h1 h2;cases e:ts[i]? with
 | none=>rw[e] at h1;cases h1
 | some t=>
  rw[e] at h1;rw[Ye,e] at h2;have hm:t∈ts:=Yy e;cases h1;cases h2;exact q_ (hi t hm) (gB _)
theorem C7.den {K:bX}{H:Hp}{p:o?}{ts:List LP}(h:C7 H p ts):Den K H (.ref p) (GG (lvals ts)):=O4 (aQ.of h.top) λt ht=>aQ.of (h.it t ht)
theorem C7.sql {K:bX}{H:Hp}{p:o?}{ts:List LP}(h:C7 H p ts):aQ K H p (lrefs ts):=aQ.of h.top
theorem U0 {K:bX}{H:Hp}{x y:V}{a b:List (List Int)}{Q:VK}(hx:Den K H x (GG a))(hy:Den K H y (GG b))(q:Q (.bl (!decide (a=b))) H):zO K true x y H Q:=
 ⟨_,_,hx,hy,(Fj _).shaped (by decide),(Fj _).shaped (by decide),by show Q (.bl (!E! (GG a) (GG b))) H;rw[O3];exact q⟩
theorem GH {K:bX}{H:Hp}{p:o?}(h:aQ K H p []):Den K H (.ref p) (GG []):=.lst h rfl λi x d h1 _=>by simp at h1
theorem yY {ts:List LP}{i:Nat}{x:V}(h:(lrefs ts)[i]?=j? x):∃hi:i<ts.length,x=.ref ts[i].1:=by
 rw[Ye] at h;cases e:ts[i]? with
 | none=>rw[e] at h;cases h
 | some t=>
  rw[e] at h;obtain⟨hi,e2⟩:=List.getElem?_eq_some_iff.mp e;subst e2;exact⟨hi,(M? h).symm⟩
end L2
namespace L2
def aW:Nat->(Nat->Int)->Int
 | 0,_=>0
 | n+1,f=>aW n f+f n
theorem aA:∀ {n:Nat} {f g:Nat->Int},(∀i,i<n->f i=g i)->aW n f=aW n g
 | 0,_,_,_=>rfl
 | n+1,f,g,h=>by
  show aW n f+f n=aW n g+g n
  rw[aA λi hi=>h i (by omega),h n (by omega)]
theorem rQ (a b:Int)(f g:Nat->Int):∀n,aW n (λi=>a*f i+b*g i)=a*aW n f+b*aW n g
 | 0=>by show(0:Int)=a*0+b*0;omega
 | n+1=>by
  show aW n _+(a*f n+b*g n)=a*(aW n f+f n)+b*(aW n g+g n)
  rw[rQ a b f g n];generalize aW n f=x;generalize aW n g=y;grind
theorem cL (a:Int)(f:Nat->Int):∀n,aW n (λi=>a*f i)=a*aW n f
 | 0=>by show(0:Int)=a*0;omega
 | n+1=>by
  show aW n _+a*f n=a*(aW n f+f n)
  rw[cL a f n,Int.mul_add]
theorem dS:∀ {n:Nat} {f:Nat->Int},(∀i,i<n->f i=0)->aW n f=0
 | 0,_,_=>rfl
 | n+1,f,h=>by
  show aW n f+f n=0
  rw[dS λi hi=>h i (by omega),h n (by omega)]
  rfl
theorem kL (f:Nat->Int):∀n,aW (n+1) f=f 0+aW n (λi=>f (i+1))
 | 0=>by show 0+f 0=f 0+0;omega
 | n+1=>by
  show aW (n+1) f+f (n+1)=f 0+(aW n (λi=>f (i+1))+f (n+1))
  rw[kL f n];omega
theorem Fo {f:Nat->Int}{r:Nat}:∀ {n:Nat},r+1<n->(∀i,i<n->i≠r->i≠r+1->f i=0)->f r+f (r+1)=0->aW n f=0
 | 0,h,_,_=>Jr h (by omega)
 | n+1,h,z,e=>by
  show aW n f+f n=0
  by_cases c:r+1=n
  ·subst c
   show aW r f+f r+f (r+1)=0
   rw[dS λi hi=>z i (by omega) (by omega) (by omega)]
   omega
  ·rw[Fo (n:=n) (by omega) (λi hi=>z i (by omega)) e,z n (by omega) (by omega) (by omega)]
   rfl
abbrev Mx:=Nat->Nat->Int
def c6 (i r:Nat):Nat:=if r<i then r else r+1
def sg (k:Nat):Int:=if k % 2=0 then 1 else -1
theorem Fp (k:Nat):sg (k+1)=- sg k:=by
 unfold sg;rcases Nat.mod_two_eq_zero_or_one k with h|h
 ·rw[Jk (by omega),Jl h]
 ·rw[Jl (by omega),Jk (by omega)];rfl
theorem NH (k:Nat):sg k*sg k=1:=by
 unfold sg;split <;> rfl
def det:Nat->Mx->Int
 | 0,_=>1
 | n+1,M=>aW (n+1) λi=>sg (n-i)*M i n*det n λr c=>M (c6 i r) c
theorem dj (n:Nat)(M:Mx):det (n+1) M=aW (n+1) λi=>sg (n-i)*M i n*det n λr c=>M (c6 i r) c:=rfl
theorem wB {i r n:Nat}(h:r<n):c6 i r<n+1:=by unfold c6;split <;> omega
theorem O5 (i r:Nat):c6 i r≠i:=by unfold c6;split <;> omega
theorem Iv {i r x:Nat}(h:i≠r):c6 i x=r↔x=if r<i then r else r-1:=by
 unfold c6;split <;> split <;> omega
theorem aP:∀ {n:Nat} {M N:Mx},(∀r c,r<n->c<n->M r c=N r c)->det n M=det n N
 | 0,_,_,_=>rfl
 | n+1,M,N,h=>by
  rw[dj,dj];refine aA λi hi=>?_
  rw[h i n hi (by omega),aP λr c hr hc=>h (c6 i r) c (wB hr) (by omega)]
def eE (M:Mx)(r:Nat)(u:Nat->Int):Mx:=λi c=>if i=r then u c else M i c
theorem eG (M:Mx)(r:Nat)(u:Nat->Int)(c:Nat):eE M r u r c=u c:=Jl rfl
theorem eo {M:Mx}{r i:Nat}{u:Nat->Int}(h:i≠r)(c:Nat):eE M r u i c=M i c:=Jk h
theorem kM (M:Mx)(r:Nat):eE M r (M r)=M:=by
 funext i c
 unfold eE;split
 ·rename_i h;rw[h]
 ·rfl
theorem tL {M:Mx}{i r:Nat}(h:i≠r)(u:Nat->Int):(λx c=>eE M r u (c6 i x) c)=eE (λx c=>M (c6 i x) c) (if r<i then r else r-1) u:=by
 funext x c
 unfold eE;by_cases e:c6 i x=r
 ·rw[Jl e,Jl ((Iv h).mp e)]
 ·rw[Jk e,Jk λz=>e ((Iv h).mpr z)]
theorem tM (M:Mx)(r:Nat)(u:Nat->Int):(λx c=>eE M r u (c6 r x) c)=λx c=>M (c6 r x) c:=by
 funext x c
 exact eo (O5 r x) c
theorem jV (a b:Int)(u v:Nat->Int):∀(n:Nat) (M:Mx) (r:Nat),r<n->det n (eE M r λc=>a*u c+b*v c)=a*det n (eE M r u)+b*det n (eE M r v)
 | 0,_,_,h=>Jr h (by omega)
 | n+1,M,r,h=>by
  rw[dj,dj,dj,<- rQ];refine aA λi hi=>?_
  by_cases e:i=r
  ·subst e
   rw[tM,tM,tM,eG,eG,eG];generalize det n _=D;generalize sg (n-i)=S;grind
  ·rw[tL e,tL e,tL e,eo e,eo e,eo e,jV a b u v n _ _ (by split <;> omega)]
   generalize det n (eE _ _ u)=D1;generalize det n (eE _ _ v)=D2;generalize sg (n-i)=S;grind
theorem vv:∀(n:Nat) (M:Mx) (r:Nat),r+1<n->(∀c,M r c=M (r+1) c)->det n M=0
 | 0,_,_,h,_=>Jr h (by omega)
 | n+1,M,r,h,e=>by
  rw[dj];refine Fo (r:=r) h (λi hi h1 h2=>?_) ?_
  ·have z:det n (λx c=>M (c6 i x) c)=0:=by
    by_cases c:i<r
    ·refine vv n _ (r-1) (by omega) λc'=>?_
     have e1:c6 i (r-1)=r:=by unfold c6;rw[Jk (by omega)];omega
     have e2:c6 i (r-1+1)=r+1:=by unfold c6;rw[Jk (by omega)];omega
     show M (c6 i (r-1)) c'=M (c6 i (r-1+1)) c'
     rw[e1,e2];exact e c'
    ·refine vv n _ r (by omega) λc'=>?_
     have e1:c6 i r=r:=by unfold c6;rw[Jl (by omega)]
     have e2:c6 i (r+1)=r+1:=by unfold c6;rw[Jl (by omega)]
     show M (c6 i r) c'=M (c6 i (r+1)) c'
     rw[e1,e2];exact e c'
   rw[z,Yr]
  ·have e1:(λx c=>M (c6 (r+1) x) c)=λx c=>M (c6 r x) c:=by
    funext x c
    unfold c6;by_cases c1:x<r
    ·rw[Jl (by omega),Jl c1]
    ·by_cases c2:x=r
     ·subst c2
      rw[Jl (by omega),Jk (by omega)];exact e c
     ·rw[Jk (by omega),Jk c1]
   have e2:n-r=n-(r+1)+1:=by omega
   rw[e1,<- e n,e2,Fp];generalize det n _=D;generalize sg (n-(r+1))=S;grind
def u5 (M:Mx)(p q:Nat)(u v:Nat->Int):Mx:=eE (eE M p u) q v
theorem jq {M:Mx}{p q:Nat}(h:p≠q)(u v:Nat->Int):eE (eE M p u) q v=eE (eE M q v) p u:=by
 funext i c
 unfold eE;by_cases c1:i=q
 ·subst c1;rw[Jl rfl,Jk λz=>h z.symm,Jl rfl]
 ·rw[Jk c1,Jk c1]
theorem L5 {n:Nat}{M:Mx}{p q:Nat}(hp:p<n)(hq:q<n)(hne:p≠q)(h:∀u,det n (u5 M p q u u)=0)(u v:Nat->Int):det n (u5 M p q u v)=- det n (u5 M p q v u):=by
 have z:=h λc=>1*u c+1*v c
 unfold u5 at*;rw[jV 1 1 u v n _ q hq,jq hne,jq hne,jV 1 1 u v n _ p hp,jV 1 1 u v n _ p hp,<- jq hne,<- jq hne,<- jq hne,<- jq hne,h u,h v] at z;omega
theorem GI (M:Mx)(p q:Nat):u5 M p q (M p) (M q)=M:=by
 unfold u5;rw[kM,kM]
theorem BF {n:Nat}(M:Mx){r:Nat}(h:r+1<n):det n (u5 M r (r+1) (M (r+1)) (M r))=- det n M:=by
 rw[L5 (by omega) h (by omega) λu=>vv n _ r h λc=>?_,GI]
 unfold u5;rw[eo (by omega),eG,eG]
theorem zY {n:Nat}{p:Nat}:∀(d:Nat) (M:Mx),p+d+1<n->(∀c,M p c=M (p+d+1) c)->det n M=0
 | 0,M,h,e=>vv n M p h e
 | d+1,M,h,e=>by
  have s:=BF M (r:=p+d+1) (n:=n) h;have z:det n (u5 M (p+d+1) (p+d+1+1) (M (p+d+1+1)) (M (p+d+1)))=0:=by
   refine zY (p:=p) d _ (by omega) λc=>?_
   unfold u5;rw[eo (by omega),eo (by omega),eo (by omega),eG]
   exact e c
  rw[z] at s;omega
theorem wC {n:Nat}{M:Mx}{p q:Nat}(hp:p<n)(hq:q<n)(hne:p≠q)(h:∀c,M p c=M q c):det n M=0:=by
 rcases Nat.lt_or_gt_of_ne hne with z|z
 ·have e:q=p+(q-p-1)+1:=by omega
  rw[e] at h;exact zY (q-p-1) M (by omega) h
 ·have e:p=q+(p-q-1)+1:=by omega
  rw[e] at h;exact zY (p-q-1) M (by omega) λc=>(h c).symm
theorem L6 {n:Nat}(M:Mx){p q:Nat}(hp:p<n)(hq:q<n)(hne:p≠q)(a k:Int):det n (eE M p λc=>a*M p c+k*M q c)=a*det n M:=by
 rw[jV a k (M p) (M q) n M p hp,kM,wC (M:=eE M p (M q)) hp hq hne λc=>?_]
 ·omega
 ·rw[eG,eo λz=>hne z.symm]
theorem wD:∀(n:Nat) (M:Mx),(∀i,i<=n->M i 0=0)->det (n+1) M=0
 | 0,M,h=>by
  show 0+sg 0*M 0 0*1=0
  rw[h 0 (Yd _)];rfl
 | n+1,M,h=>by
  rw[dj];refine dS λi hi=>?_
  rw[wD n _ λj hj=>h (c6 i j) (by have:=wB (i:=i) (r:=j) (n:=n+1) (by omega);omega),Yr]
theorem oF:∀(n:Nat) (M:Mx),(∀i,0<i->i<=n->M i 0=0)->det (n+1) M=M 0 0*det n λr c=>M (r+1) (c+1)
 | 0,M,h=>by
  show 0+sg 0*M 0 0*1=M 0 0*1
  have:sg 0=1:=rfl
  rw[this];omega
 | n+1,M,h=>by
  rw[dj (n+1),kL];have z:det (n+1) (λr c=>M (c6 0 r) c)=0:=wD n _ λj hj=>h (c6 0 j) (by unfold c6;rw[Jk (by omega)];omega) (by unfold c6;rw[Jk (by omega)];omega)
  rw[z,Yr,Z5,dj n,<- cL];refine aA λj hj=>?_
  rw[oF n _ λi h1 h2=>h (c6 (j+1) i) (by unfold c6;split <;> omega) (by have:=wB (i:=j+1) (r:=i) (n:=n+1) (by omega);omega)]
  have e0:c6 (j+1) 0=0:=by unfold c6;rw[Jl (by omega)]
  have e1:(λr c=>M (c6 (j+1) (r+1)) (c+1))=λr c=>M (c6 j r+1) (c+1):=by
   funext r c
   have:c6 (j+1) (r+1)=c6 j r+1:=by unfold c6;split <;> split <;> omega
   rw[this]
  rw[e0,e1];have e2:n+1-(j+1)=n-j:=by omega
  rw[e2];generalize det n _=D;generalize sg (n-j)=S;grind
theorem eW (k:Int):∀(n:Nat) (M:Mx),det n (λr c=>k*M r c)=k ^ n*det n M
 | 0,M=>by show(1:Int)=k ^ 0*1;rw[Yu];rfl
 | n+1,M=>by
  rw[dj,dj,<- cL];refine aA λi hi=>?_
  rw[eW k n λr c=>M (c6 i r) c,Yq]
  generalize det n _=D;generalize sg (n-i)=S;generalize k ^ n=K;grind
def Iw (N:Mx):Mx:=λa b=>N 0 0*N (a+1) (b+1)-N (a+1) 0*N 0 (b+1)
def fu (N:Mx)(k:Nat):Mx:=λr c=>if 0<r/\r<=k then N 0 0*N r c+(- N r 0)*N 0 c else N r c
theorem wF (N:Mx)(n:Nat):∀k,k<=n->det (n+1) (fu N k)=N 0 0 ^ k*det (n+1) N
 | 0,_=>by
  have e:fu N 0=N:=by
   funext r c
   exact Jk (by omega)
  rw[e,Yu,Zg]
 | k+1,h=>by
  have e:fu N (k+1)=eE (fu N k) (k+1) λc=>N 0 0*fu N k (k+1) c+(- N (k+1) 0)*fu N k 0 c:=by
   funext r c
   have p0:fu N k 0 c=N 0 c:=Jk (by omega)
   have p1:fu N k (k+1) c=N (k+1) c:=Jk (by omega)
   unfold eE;by_cases c1:r=k+1
   ·subst c1
    rw[Jl rfl];show _=N 0 0*fu N k (k+1) c+(- N (k+1) 0)*fu N k 0 c
    rw[p0,p1];exact Jl (by omega)
   ·rw[Jk c1]
    unfold fu;by_cases c2:0<r/\r<=k
    ·rw[Jl c2,Jl (by omega)]
    ·rw[Jk c2,Jk (by omega)]
  rw[e,L6 (fu N k) (by omega) (by omega) (by omega),wF N n k (by omega),Yq]
  generalize N 0 0 ^ k=K;generalize det (n+1) N=D;grind
theorem O6 {n:Nat}{N:Mx}(h:N 0 0≠0):det (n+1) (Iw N)=N 0 0 ^ n*det (n+2) N:=by
 have e:=wF N (n+1) (n+1) (Yd _);rw[oF (n+1) (fu N (n+1)) λi h1 h2=>?_] at e
 ·have e1:det (n+1) (λr c=>fu N (n+1) (r+1) (c+1))=det (n+1) (Iw N):=aP λr c hr hc=>by
   unfold fu Iw;rw[Jl (by omega)]
   generalize N 0 0=a;generalize N (r+1) (c+1)=b;generalize N (r+1) 0=d;generalize N 0 (c+1)=f;grind
  have e2:fu N (n+1) 0 0=N 0 0:=Jk (by omega)
  rw[e1,e2,Yq] at e;have e3:N 0 0*det (n+1) (Iw N)=N 0 0*(N 0 0 ^ n*det (n+2) N):=by
   rw[e];generalize N 0 0 ^ n=K;grind
  exact Za h e3
 ·unfold fu
  rw[Jl (by omega)]
  generalize N 0 0=a;generalize N i 0=b;grind
def yg (t:Nat):Nat->Nat
 | 0=>t
 | a+1=>c6 t a
theorem Iz {t a m:Nat}(ht:t<m)(ha:a<m):yg t a<m:=by
 cases a with
 | zero=>exact ht
 | succ a=>show c6 t a<m;unfold c6;split <;> omega
theorem zZ {n:Nat}:∀(t:Nat) (M:Mx),t<n->det n (λa c=>M (yg t a) c)=sg t*det n M
 | 0,M,h=>by
  have e:(λa c=>M (yg 0 a) c)=M:=by
   funext a c
   cases a with
   | zero=>rfl
   | succ a=>show M (c6 0 a) c=M (a+1) c;unfold c6;rw[Jk (by omega)]
  rw[e];show _=1*_
  omega
 | t+1,M,h=>by
  have e:(λa c=>M (yg (t+1) a) c)=λa c=>u5 M t (t+1) (M (t+1)) (M t) (yg t a) c:=by
   funext a c
   unfold u5;cases a with
   | zero=>
    show M (t+1) c=eE _ _ _ t c
    rw[eo (by omega),eG]
   | succ a=>
    show M (c6 (t+1) a) c=eE _ _ _ (c6 t a) c
    rcases Nat.lt_trichotomy a t with z|z|z
    ·have e1:c6 (t+1) a=a:=by unfold c6;rw[Jl (by omega)]
     have e2:c6 t a=a:=by unfold c6;rw[Jl (by omega)]
     rw[e1,e2,eo (by omega),eo (by omega)]
    ·subst z
     have e1:c6 (a+1) a=a:=by unfold c6;rw[Jl (by omega)]
     have e2:c6 a a=a+1:=by unfold c6;rw[Jk (by omega)]
     rw[e1,e2,eG]
    ·have e1:c6 (t+1) a=a+1:=by unfold c6;rw[Jk (by omega)]
     have e2:c6 t a=a+1:=by unfold c6;rw[Jk (by omega)]
     rw[e1,e2,eo (by omega),eo (by omega)]
  rw[e,zZ t _ (by omega),BF M h,Fp]
  generalize det n M=D;generalize sg t=S;grind
end L2
namespace L2
theorem Fq {d:Int}(h:d≠0):∀n:Nat,d ^ n≠0
 | 0=>by rw[Yu];decide
 | n+1=>by rw[Yq];exact Int.mul_ne_zero (Fq h n) h
theorem vA (M:Mx):det 1 M=M 0 0:=by
 show 0+sg 0*M 0 0*1=M 0 0
 have:sg 0=1:=rfl
 rw[this];omega
def sh (I:Nat->Nat):Nat->Nat
 | 0=>0
 | a+1=>I a+1
structure Ba (A:Mx)(n k:Nat)(d:Int)(B:Mx)(m:Nat)(s:Int):Prop where
 d0:d≠0
 L7:∀(r:Nat) (I J:Nat->Nat),(∀a,a<=r->I a<m/\J a<m)->∃I' J':Nat->Nat,(∀a,a<r+1+k->I' a<n/\J' a<n)/\det (r+1) (λa b=>B (I a) (J b))=d ^ r*det (r+1+k) λa b=>A (I' a) (J' b)
 whole:∀m',m=m'+1->det m B=s*det n A*d ^ m'
 sq:s*s=1
 lead:∃I' J':Nat->Nat,(∀a,a<k->I' a<n/\J' a<n)/\d=det k λa b=>A (I' a) (J' b)
theorem Ba.start (A:Mx)(n:Nat):Ba A n 0 1 A n 1:=by
 refine⟨by decide,λr I J h=>⟨I,J,λa ha=>h a (by omega),?_⟩,λm' e=>?_,rfl,⟨λa=>a,λa=>a,λa ha=>Jr ha (by omega),rfl⟩⟩
 ·rw[W1,Zg]
 ·rw[W1];omega
section
variable {A B B':Mx} {n k m t:Nat} {d s:Int}
theorem Ba.divides (h:Ba A n k d B (m+1) s)(ht:t<m+1)(hp:B t 0≠0){a c:Nat}(ha:a<m)(hc:c<m):∃q,Iw (λa c=>B (yg t a) c) a c=d*q:=by
 have hI:∀x,x<=1->yg t (sh (λ_=>a) x)<m+1/\sh (λ_=>c) x<m+1:=λx hx=>by
  match x with
  | 0=>exact⟨ht,by show 0<m+1;omega⟩
  | 1=>exact⟨Iz ht (by show a+1<m+1;omega),by show c+1<m+1;omega⟩
  | x+2=>omega
 obtain⟨I',J',_,e⟩:=h.L7 1 (λx=>yg t (sh (λ_=>a) x)) (sh (λ_=>c)) hI
 have e2:=O6 (n:=0) (N:=λx y=>B (yg t (sh (λ_=>a) x)) (sh (λ_=>c) y)) hp
 rw[vA,Yu,Zg,e,Yq,Yu,Zg] at e2;exact⟨_,e2⟩
theorem Ba.step (h:Ba A n k d B (m+1) s)(ht:t<m+1)(hp:B t 0≠0)(hB:∀a c,a<m->c<m->Iw (λa c=>B (yg t a) c) a c=d*B' a c):Ba A n (k+1) (B t 0) B' m (sg t*s):=by
 refine⟨hp,λr I J U1=>?_,λm' em=>?_,?_,?_⟩
 ·have hI:∀x,x<=r+1->yg t (sh I x)<m+1/\sh J x<m+1:=λx hx=>by
   match x with
   | 0=>exact⟨ht,by show 0<m+1;omega⟩
   | x+1=>
    have:=U1 x (by omega)
    exact⟨Iz ht (by show I x+1<m+1;omega),by show J x+1<m+1;omega⟩
  obtain⟨I',J',rg,e⟩:=h.L7 (r+1) (λx=>yg t (sh I x)) (sh J) hI
  have e2:=O6 (n:=r) (N:=λx y=>B (yg t (sh I x)) (sh J y)) hp
  have e3:det (r+1) (Iw λx y=>B (yg t (sh I x)) (sh J y))=d ^ (r+1)*det (r+1) (λa b=>B' (I a) (J b)):=by
   rw[<- eW];refine aP λa b ha hb=>?_
   have h1:=U1 a (by omega)
   have h2:=U1 b (by omega)
   exact hB (I a) (J b) h1.1 h2.2
  rw[e3,e] at e2;have ei:r+1+1+k=r+1+(k+1):=by omega
  rw[ei] at e2 rg;refine⟨I',J',rg,?_⟩
  refine Za (Fq h.d0 (r+1)) (e2.trans ?_)
  show B t 0 ^ r*(d ^ (r+1)*_)=d ^ (r+1)*(B t 0 ^ r*_)
  generalize det (r+1+(k+1)) _=D;generalize B t 0 ^ r=P;generalize d ^ (r+1)=Q;grind
 ·subst em
  have e2:=O6 (n:=m') (N:=λa c=>B (yg t a) c) hp
  have e3:det (m'+1) (Iw λa c=>B (yg t a) c)=d ^ (m'+1)*det (m'+1) B':=by
   rw[<- eW];exact aP λa b ha hb=>hB a b ha hb
  have e4:=h.whole (m'+1) rfl;have e5:=zZ (n:=m'+2) t B ht;rw[e3,e5,e4] at e2;refine Za (Fq h.d0 (m'+1)) (e2.trans ?_)
  show B t 0 ^ m'*(sg t*(s*det n A*d ^ (m'+1)))=d ^ (m'+1)*(sg t*s*det n A*B t 0 ^ m')
  generalize B t 0 ^ m'=P;generalize d ^ (m'+1)=Q;generalize det n A=D;generalize sg t=S;grind
 ·have e1:=NH t
  have e2:=h.sq;generalize sg t=S at*;grind
 ·obtain⟨I',J',rg,e⟩:=h.L7 0 (λ_=>t) (λ_=>0) λa ha=>⟨ht,by omega⟩
  rw[vA,Yu,Zg] at e;have ei:0+1+k=k+1:=by omega
  rw[ei] at e rg;exact⟨I',J',rg,e⟩
theorem Ba.fin (h:Ba A n k d B 1 s):s*B 0 0=det n A:=by
 have e:=h.whole 0 rfl;rw[vA,Yu,Zx] at e;rw[e];have:=h.sq
 generalize det n A=D at*;grind
theorem Ba.none (h:Ba A n k d B (m+1) s)(hz:∀i,i<m+1->B i 0=0):det n A=0:=by
 have e:=h.whole m rfl;rw[wD m B λi hi=>hz i (by omega)] at e
 rcases Int.mul_eq_zero.mp e.symm with z|z
 ·rcases Int.mul_eq_zero.mp z with y|y
  ·have:=h.sq
   rw[y] at this;cases this
  ·exact y
 ·exact Jr z (Fq h.d0 m)
end
theorem z4 {X:Nat}:∀ {n:Nat} {f:Nat->Int},(∀i,i<n->(f i).natAbs<=X)->(aW n f).natAbs<=n*X
 | 0,_,_=>by show(0:Int).natAbs<=_;simp
 | n+1,f,h=>by
  have h1:=z4 (n:=n) (f:=f) λi hi=>h i (by omega)
  have h2:=h n (by omega)
  have h3:=Int.natAbs_add_le (aW n f) (f n);show(aW n f+f n).natAbs<=(n+1)*X
  rw[Nat.succ_mul];omega
theorem IA (k:Nat):(sg k).natAbs=1:=by unfold sg;split <;> rfl
theorem z5 {E:Nat}:∀(n:Nat) (M:Mx),n<=32->(∀r c,r<n->c<n->(M r c).natAbs<=2 ^ E)->(det n M).natAbs<=2 ^ (n*(E+5))
 | 0,M,_,_=>by show(1:Int).natAbs<=2 ^ (0*(E+5));rw[Nat.zero_mul];decide
 | n+1,M,hn,h=>by
  rw[dj];refine Ym (z4 (X:=2 ^ E*2 ^ (n*(E+5))) λi hi=>?_) ?_
  ·rw[Zq,Zq,IA,W2]
   exact Zy (h i n hi (by omega)) (z5 n _ (by omega) λr c hr hc=>h (c6 i r) c (wB hr) (by omega))
  ·have e:2 ^ ((n+1)*(E+5))=32*(2 ^ E*2 ^ (n*(E+5))):=by
    rw[Nat.succ_mul,Z0,Z0 2 E 5];have:(2:Nat) ^ 5=32:=rfl
    rw[this];ac_rfl
   rw[e];exact Yp _ (by omega)
theorem Ba.Ft {A B:Mx}{n k m:Nat}{d s:Int}{E:Nat}(h:Ba A n k d B m s)(hn:n<=32)(hk:m+k=n)(hA:∀r c,r<n->c<n->(A r c).natAbs<=2 ^ E):d.natAbs<=2 ^ (n*(E+5))/\∀i j,i<m->j<m->(B i j).natAbs<=2 ^ (n*(E+5)):=by
 refine⟨?_,λi j hi hj=>?_⟩
 ·obtain⟨I',J',rg,e⟩:=h.lead
  rw[e];exact Ym (z5 (E:=E) k _ (by omega) λr c hr hc=>hA _ _ (rg r hr).1 (rg c hc).2) (Y2 (by decide) (Yp _ (by omega)))
 ·obtain⟨I',J',rg,e⟩:=h.L7 0 (λ_=>i) (λ_=>j) λa ha=>⟨hi,hj⟩
  rw[vA,Yu,Zg] at e;rw[e];exact Ym (z5 (E:=E) (0+1+k) _ (by omega) λr c hr hc=>hA _ _ (rg r hr).1 (rg c hc).2) (Y2 (by decide) (Yp _ (by omega)))
def dM:Nat->(Nat->Int)->Int
 | 0,_=>1
 | n+1,f=>dM n f*f n
theorem gZ:∀ {n:Nat} {f g:Nat->Int},(∀i,i<n->f i=g i)->dM n f=dM n g
 | 0,_,_,_=>rfl
 | n+1,f,g,h=>by
  show dM n f*f n=dM n g*g n
  rw[gZ λi hi=>h i (by omega),h n (by omega)]
theorem yZ (f:Nat->Int):∀n,dM (n+1) f=f 0*dM n (λi=>f (i+1))
 | 0=>by show 1*f 0=f 0*1;omega
 | n+1=>by
  show dM (n+1) f*f (n+1)=f 0*(dM n (λi=>f (i+1))*f (n+1))
  rw[yZ f n,Zv]
theorem rR:∀(n:Nat) (M:Mx),(∀i j,j<i->i<n->M i j=0)->det n M=dM n λi=>M i i
 | 0,_,_=>rfl
 | n+1,M,h=>by
  rw[oF n M λi h1 h2=>h i 0 h1 (by omega),yZ,rR n _ λi j h1 h2=>h (i+1) (j+1) (by omega) (by omega)]
end L2
namespace L2
theorem BG {n:Nat}(M:Mx){p:Nat}(hp:p<n)(q:Nat->Nat)(a:Nat->Int):∀m,(∀k,k<m->q k<n/\q k≠p)->det n (eE M p λc=>M p c+aW m λk=>a k*M (q k) c)=det n M
 | 0,_=>by
  have e:eE M p (λc=>M p c+aW 0 λk=>a k*M (q k) c)=M:=by
   have:(λc=>M p c+aW 0 λk=>a k*M (q k) c)=M p:=by
    funext c
    show M p c+0=M p c
    omega
   rw[this,kM]
  rw[e]
 | m+1,h=>by
  have e:(λc=>M p c+aW (m+1) λk=>a k*M (q k) c)=λc=>1*(M p c+aW m λk=>a k*M (q k) c)+a m*M (q m) c:=by
   funext c
   show M p c+(aW m (λk=>a k*M (q k) c)+a m*M (q m) c)=_
   omega
  have hq:=h m (by omega)
  rw[e,jV 1 (a m) (λc=>M p c+aW m λk=>a k*M (q k) c) (M (q m)) n M p hp,BG M hp q a m λk hk=>h k (by omega),wC (M:=eE M p (M (q m))) hp hq.1 (λz=>hq.2 z.symm) λc=>?_]
  ·omega
  ·rw[eG,eo hq.2]
theorem oG {n:Nat}{A:Mx}:∀(m:Nat) (M:Mx),(∀r c,r<n->c<n->M r c=A r c)->(∀r c,r<n->n<=c->M r c=0)->det (n+m) M=det n A*det m λr c=>M (n+r) (n+c)
 | 0,M,h1,_=>by
  show det n M=det n A*1
  rw[aP h1];omega
 | m+1,M,h1,h2=>by
  show det (n+m+1) M=det n A*det (m+1) _
  rw[dj (n+m),dj m,<- cL];have split:∀(f:Nat->Int) (a b:Nat),aW (a+b) f=aW a f+aW b λi=>f (a+i):=by
   intro f a b;induction b with
   | zero=>show aW a f=aW a f+0;omega
   | succ b ih=>show aW (a+b) f+f (a+b)=aW a f+(aW b (λi=>f (a+i))+f (a+b));rw[ih];omega
  rw[show n+m+1=n+(m+1) by omega,split,dS λi hi=>?_,Z5]
  ·refine aA λi hi=>?_
   have e1:n+m-(n+i)=m-i:=by omega
   rw[e1,oG m (λr c=>M (c6 (n+i) r) c) (λr c hr hc=>?_) (λr c hr hc=>?_)]
   ·have e2:(λr c=>M (c6 (n+i) (n+r)) (n+c))=λr c=>M (n+c6 i r) (n+c):=by
     funext r c
     have:c6 (n+i) (n+r)=n+c6 i r:=by unfold c6;split <;> split <;> omega
     rw[this]
    show sg (m-i)*M (n+i) (n+m)*(det n A*det m λr c=>M (c6 (n+i) (n+r)) (n+c))=_
    rw[e2];generalize det m _=D;generalize det n A=D2;generalize sg (m-i)=S;generalize M (n+i) (n+m)=X;grind
   ·have:c6 (n+i) r=r:=by unfold c6;rw[Jl (by omega)]
    rw[this];exact h1 r c hr hc
   ·have:c6 (n+i) r=r:=by unfold c6;rw[Jl (by omega)]
    rw[this];exact h2 r c hr hc
  ·rw[h2 i (n+m) hi (by omega)]
   generalize sg _=S;generalize det _ _=D;grind
theorem wG {n:Nat}{C:Mx}:∀(m:Nat) (M:Mx),(∀r c,r<n->c<m->M r c=0)->(∀r c,r<n->c<n->M r (m+c)=C r c)->(∀r c,r<m->c<m->M (n+r) c=if r=c then -1 else 0)->det (n+m) M=(- sg n) ^ m*det n C
 | 0,M,_,h2,_=>by
  show det n M=_
  rw[Yu,Zg];exact aP λr c hr hc=>by have:=h2 r c hr hc;rw[Jf] at this;exact this
 | m+1,M,h1,h2,h3=>by
  show det (n+m+1) M=_
  have e:=zZ (n:=n+m+1) n M (by omega)
  rw[oF (n+m) _ λi hi hle=>?_] at e
  ·have e0:M (yg n 0) 0=-1:=by
    have:=h3 0 0 (by omega) (by omega)
    rw[Jl rfl] at this;exact this
   have ih:=wG (n:=n) (C:=C) m (λr c=>M (c6 n r) (c+1)) (λr c hr hc=>?_) (λr c hr hc=>?_) (λr c hr hc=>?_)
   ·have e1:det (n+m) (λr c=>M (yg n (r+1)) (c+1))=(- sg n) ^ m*det n C:=ih
    rw[e0,e1] at e;have s2:=NH n;have e2:det (n+m+1) M=sg n*(sg n*det (n+m+1) M):=by
     rw[<- Zv,s2,Zg]
    rw[e2,<- e,Yq];generalize (- sg n) ^ m=P;generalize det n C=D;generalize sg n=S;grind
   ·have:c6 n r=r:=by unfold c6;rw[Jl hr]
    show M (c6 n r) (c+1)=0
    rw[this];exact h1 r (c+1) hr (by omega)
   ·have:c6 n r=r:=by unfold c6;rw[Jl hr]
    show M (c6 n r) (m+c+1)=C r c
    rw[this,show m+c+1=m+1+c by omega];exact h2 r c hr hc
   ·have:c6 n (n+r)=n+(r+1):=by unfold c6;rw[Jk (by omega)];omega
    show M (c6 n (n+r)) (c+1)=_
    rw[this,h3 (r+1) (c+1) (by omega) (by omega)]
    by_cases z:r=c
    ·rw[Jl z,Jl (by omega)]
    ·rw[Jk z,Jk (by omega)]
  ·match i,hi with
   | i+1,_=>
    show M (c6 n i) 0=0
    unfold c6;by_cases z:i<n
    ·rw[Jl z];exact h1 i 0 z (by omega)
    ·rw[Jk z]
     have e4:i+1=n+(i+1-n):=by omega
     rw[e4,h3 (i+1-n) 0 (by omega) (by omega),Jk (by omega)]
def gp (n:Nat)(A B:Mx):Mx:=λi c=>aW n λk=>A i k*B k c
def qV (n:Nat)(A B:Mx)(t:Nat):Mx:=λr c=>
 if r<n then (if c<n then (if r<t then 0 else A r c) else (if r<t then gp n A B r (c-n) else 0))
 else (if c<n then (if r-n=c then -1 else 0) else B (r-n) (c-n))
theorem BH (n:Nat)(A B:Mx):∀t,t<=n->det (n+n) (qV n A B t)=det (n+n) (qV n A B 0)
 | 0,_=>rfl
 | t+1,h=>by
  rw[<- BH n A B t (by omega),<- BG (n:=n+n) (qV n A B t) (p:=t) (by omega) (λk=>n+k) (λk=>A t k) n λk hk=>⟨by omega,by omega⟩]
  refine aP λr c hr hc=>?_
  unfold eE;by_cases e:r=t
  ·subst e
   rw[Jl rfl];have L8:r<n:=by omega
   by_cases hcn:c<n
   ·have e1:qV n A B (r+1) r c=0:=by unfold qV;rw[Jl L8,Jl hcn,Jl (by omega)]
    have e2:qV n A B r r c=A r c:=by unfold qV;rw[Jl L8,Jl hcn,Jk (by omega)]
    have e3:(aW n λk=>A r k*qV n A B r (n+k) c)=aW n λk=>if k=c then-A r c else 0:=aA λk hk=>by
     unfold qV;rw[Jk (by omega),Jl hcn,show n+k-n=k by omega]
     by_cases z:k=c
     ·rw[Jl z,Jl z,z];omega
     ·rw[Jk z,Jk z];omega
    have e4:∀m,c<m->(aW m λk=>if k=c then-A r c else 0)=- A r c:=by
     intro m;induction m with
     | zero=>intro h;omega
     | succ m ih=>
      intro h;show aW m (λk=>if k=c then-A r c else 0)+(if m=c then-A r c else 0)=_
      by_cases z:m=c
      ·subst z
       rw[Jl rfl,dS λi hi=>Jk (by omega)];omega
      ·rw[Jk z,ih (by omega)];omega
    show _=qV n A B r r c+aW n λk=>A r k*qV n A B r (n+k) c
    rw[e1,e2,e3,e4 n hcn];omega
   ·have e1:qV n A B (r+1) r c=gp n A B r (c-n):=by unfold qV;rw[Jl L8,Jk hcn,Jl (by omega)]
    have e2:qV n A B r r c=0:=by unfold qV;rw[Jl L8,Jk hcn,Jk (by omega)]
    have e3:(aW n λk=>A r k*qV n A B r (n+k) c)=gp n A B r (c-n):=aA λk hk=>by
     unfold qV;rw[Jk (by omega),Jk hcn,show n+k-n=k by omega]
    show _=qV n A B r r c+aW n λk=>A r k*qV n A B r (n+k) c
    rw[e1,e2,e3];omega
  ·rw[Jk e]
   unfold qV;by_cases L8:r<n
   ·rw[Jl L8,Jl L8]
    have ez:(r<t+1)=(r<t):=propext ⟨λh=>by omega,λh=>by omega⟩
    simp only[ez]
   ·rw[Jk L8,Jk L8]
theorem O7 (n:Nat):(- sg n) ^ n=1:=by
 rcases Nat.mod_two_eq_zero_or_one n with h|h
 ·have e:sg n=1:=Jl h
  obtain⟨k,hk⟩:∃k,n=2*k:=⟨n / 2,by omega⟩
  rw[e,hk,Jj];have:(-1:Int) ^ 2=1:=by decide
  rw[this,W1]
 ·have e:sg n=-1:=Jk (by omega)
  rw[e,Int.neg_neg,W1]
theorem dU (n:Nat)(A B:Mx):det n (gp n A B)=det n A*det n B:=by
 have e1:det (n+n) (qV n A B 0)=det n A*det n B:=by
  rw[oG (n:=n) (A:=A) n (qV n A B 0) (λr c hr hc=>?_) (λr c hr hc=>?_)]
  ·congr 1
   refine aP λr c hr hc=>?_
   unfold qV;rw[Jk (by omega),Jk (by omega),show n+r-n=r by omega,show n+c-n=c by omega]
  ·unfold qV;rw[Jl hr,Jl hc,Jk (by omega)]
  ·unfold qV;rw[Jl hr,Jk (by omega),Jk (by omega)]
 have e2:det (n+n) (qV n A B n)=(- sg n) ^ n*det n (gp n A B):=by
  refine wG (n:=n) (C:=gp n A B) n (qV n A B n) (λr c hr hc=>?_) (λr c hr hc=>?_) (λr c hr hc=>?_)
  ·unfold qV;rw[Jl hr,Jl hc,Jl hr]
  ·unfold qV;rw[Jl hr,Jk (by omega),Jl hr,show n+c-n=c by omega]
  ·unfold qV;rw[Jk (by omega),Jl hc,show n+r-n=r by omega]
 rw[O7,Zg] at e2;rw[<- e2,BH n A B n (Yd _),e1]
theorem jW:∀(n:Nat) (M:Mx),(∀i j,i<j->j<n->M i j=0)->det n M=dM n λi=>M i i
 | 0,_,_=>rfl
 | n+1,M,h=>by
  rw[dj];show aW n _+_=dM n (λi=>M i i)*M n n
  rw[dS λi hi=>?_]
  ·have e:det n (λr c=>M (c6 n r) c)=det n M:=aP λr c hr hc=>by
    have:c6 n r=r:=by unfold c6;rw[Jl hr]
    rw[this]
   show 0+sg (n-n)*M n n*det n (λr c=>M (c6 n r) c)=_
   rw[e,W4,jW n M λi j hi hj=>h i j hi (by omega)]
   have:sg 0=1:=rfl
   rw[this];generalize dM n _=P;generalize M n n=X;grind
  ·rw[h i n hi (by omega)]
   generalize sg _=S;generalize det _ _=D;grind
end L2
namespace L2
open PySem PySem.Spec PyProof.Rows
theorem wH:∀ {ns:List Int} {us:List l?},Vals (ns.map V.int) us->∃xs:Array (Int×Tok),us.toArray=intItems xs/\xs.toList.map (·.1)=ns
 | [],_,.nil=>⟨#[],by simp[intItems],rfl⟩
 | n::ns,_,.cons r rr=>by
  obtain⟨t,rfl⟩:=(show ∃t,_=Value.int n t from r)
  obtain⟨xs,e1,e2⟩:=wH rr;refine⟨((n,t)::xs.toList).toArray,?_,by simp[e2]⟩
  have e3:=Jp Array.toList e1;apply Array.toList_inj.mp
  simp only[intItems,Array.toList_map] at e3 ⊢
  simp[e3]
theorem Dr {xs:Array (Int×Tok)}{ns:List Int}(h:xs.toList.map (·.1)=ns)(i:Nat):numAt xs i=ao ns i:=by
 unfold numAt ao;rw[<- h,Yb,Ye];simp
def E (N:Nat)(a:Nat->Int)(x:Int):Int:=bO N λi=>a i*x ^ i
theorem O8 {a:Nat->Int}{x:Int}{n:Nat}(h:∀i,n<=i->a i=0):∀ {N:Nat},n<=N->E N a x=E n a x:=by
 intro N hN;obtain⟨k,rfl⟩:=Nat.exists_eq_add_of_le hN;unfold E;rw[lM,cN (n:=k) λi _=>by rw[h _ (Wj _ _),Y4],Z4]
theorem U3 {a b:Nat->Int}{x:Int}{n m:Nat}(ha:∀i,n<=i->a i=0)(hb:∀i,m<=i->b i=0):E (n+m+1) (cv a b) x=E n a x*E m b x:=by
 have e1:E (n+m+1) (cv a b) x=bO (n+m+1) λk=>bO (k+1) λi=>a i*b (k-i)*x ^ k:=bJ λk _=>by
  show bO (k+1) (λi=>a i*b (k-i))*x ^ k=_
  rw[<- tK]
 rw[e1,rP λi k=>a i*b (k-i)*x ^ k]
 have e2:(bO (n+m+1) λi=>bO (n+m-i+1) λj=>a i*b (i+j-i)*x ^ (i+j))=bO (n+m+1) λi=>a i*x ^ i*E m b x:=bJ λi hi=>by
  by_cases h:n<=i
  ·rw[ha i h,Y4,Y4]
   exact cN λj _=>by rw[Y4,Y4]
  ·rw[<- O8 (N:=n+m-i+1) hb (by omega)]
   unfold E;rw[<- nF];refine bJ λj _=>?_
   have e:i+j-i=j:=by omega
   rw[e,Yo];ac_rfl
 rw[e2,tK];congr 1
 exact O8 ha (by omega)
def ev (f:List Int)(x:Int):Int:=E f.length (ao f) x
theorem IB {f:List Int}{x:Int}{N:Nat}(h:f.length<=N):ev f x=E N (ao f) x:=(O8 (λi hi=>bD hi) h).symm
theorem IC {f g:List Int}(h:∀i,ao f i=ao g i)(x:Int):ev f x=ev g x:=by
 rw[IB (N:=max f.length g.length) (Nat.le_max_left _ _),IB (f:=g) (N:=max f.length g.length) (Nat.le_max_right _ _)];exact bJ λi _=>by rw[h]
theorem L_ (f:List Int)(x:Int):ev (trim f) x=ev f x:=IC (λi=>dQ f i) x
theorem Ma (f g:List Int)(x:Int):ev (dY f g) x=ev f x*ev g x:=by
 have hl:(dY f g).length<=f.length+g.length+1:=by
  unfold dY;split
  ·exact Y5 _
  ·rw[Ya,Yf];omega
 rw[IB hl,L3];exact U3 (λi hi=>bD hi) λi hi=>bD hi
theorem wI (a:Int)(r:List Int)(i:Nat):ao (a::r) (i+1)=ao r i:=by simp[ao]
def cP (c:Int)(f:List Int):List Int:=uN [c,1] (f.map λa=>trim [a])
theorem O9 (c x:Int):ev [c,1] x=x+c:=by
 show 0+c*x ^ 0+1*x ^ 1=x+c
 rw[Yu,Yq,Yu];omega
theorem Ds (found step:List Int)(a:Int):rK found (step.map λx=>a*x)=rK found (trim (dY (trim [a]) step)):=rJ (oB _ _) (oB _ _) λm=>by
 rw[oA,oA,dQ,cp,Ii (by simp),TN,vt (c:=a) rfl λi hi=>bD (by show 1<=i;omega)]
def dl (f:List Int):List Int:=(Yk (f.length-1)).map λi=>((i+1:Nat):Int)*ao f (i+1)
theorem jX (f:List Int)(m:Nat):ao (dl f) m=((m+1:Nat):Int)*ao f (m+1):=
 f_ (c:=λi=>((i+1:Nat):Int)*ao f (i+1)) (λi hi=>by rw[bD (by omega),Yr]) m
theorem Mb {f:List Int}(h:Norm f):Norm (dl f):=by
 by_cases hl:f.length<=1
 ·left
  unfold dl;have:f.length-1=0:=by omega
  rw[this];rfl
 ·right
  have e:(dl f).length=f.length-1:=by unfold dl;simp
  rw[jX,e];have e2:f.length-1-1+1=f.length-1:=by omega
  rw[e2];refine Int.mul_ne_zero (by omega) (h.last λz=>by rw[z] at hl;exact hl (by decide))
end L2
namespace L2
abbrev Fn:=Nat->Int
theorem eH (f:Nat->Int):∀n,aW n f=bO n f
 | 0=>rfl
 | n+1=>by
  show aW n f+f n=bO n f+f n
  rw[eH f n]
def xp (i:Nat):Fn:=λk=>if k=i then 1 else 0
structure Top (f:Fn)(n:Nat):Prop where
 one:f n=1
 top:∀m,n<m->f m=0
structure lO (f:Fn)(n:Nat)(u r:Fn):Prop where
 ex:∃(q:Fn) (N:Nat),(∀m,N<=m->q m=0)/\∀m,u m=cv q f m+r m
 lo:∀m,n<=m->r m=0
theorem Dt {d f:Fn}{n t:Nat}(hf:Top f n)(hd:∀i,t<i->d i=0):cv d f (t+n)=d t:=by
 unfold cv;rw[jz (k:=t) (by omega) λi hi hne=>?_]
 ·rw[show t+n-t=n by omega,hf.one,Zx]
 ·by_cases c:t<i
  ·rw[hd i c,Y4]
  ·rw[hf.top _ (by omega),Yr]
theorem O_ (a b c:Fn)(m:Nat):cv (λi=>a i-b i) c m=cv a c m-cv b c m:=by
 have h:=wz (λi=>a i-b i) b c m
 have e:(λi=>a i-b i+b i)=a:=by funext i;omega
 rw[e] at h;omega
theorem lO.uniq {f:Fn}{n:Nat}{u r s:Fn}(hf:Top f n)(h:lO f n u r)(h':lO f n u s):r=s:=by
 obtain⟨⟨q,N,hq,e⟩,lo⟩:=h;obtain⟨⟨q',N',hq',e'⟩,lo'⟩:=h';have eq1:∀m,cv (λi=>q i-q' i) f m=s m-r m:=λm=>by
  rw[O_];have:=e m
  have:=e' m
  omega
 have dz:∀k t,max N N'-k<=t->q t-q' t=0:=by
  intro k;induction k with
  | zero=>intro t ht;rw[hq t (by omega),hq' t (by omega)];rfl
  | succ k ih=>
   intro t ht;by_cases c:max N N'-k<=t
   ·exact ih t c
   ·have:=Dt (d:=λi=>q i-q' i) (t:=t) hf λi hi=>ih i (by omega)
    rw[eq1,lo _ (by omega),lo' _ (by omega)] at this
    exact this.symm
 funext m
 have h0:(λi=>q i-q' i)=λ_=>0:=funext λt=>dz (max N N') t (by omega)
 have:=eq1 m
 rw[h0,zX] at this;omega
theorem Mc (k:Int)(a c:Fn)(m:Nat):cv (λi=>k*a i) c m=k*cv a c m:=by
 unfold cv;rw[<- nF];exact bJ λi hi=>by rw[Zv]
theorem lO.add {f:Fn}{n:Nat}{u r v s:Fn}(h:lO f n u r)(h':lO f n v s)(k:Int):lO f n (λm=>u m+k*v m) (λm=>r m+k*s m):=by
 obtain⟨⟨q,N,hq,e⟩,lo⟩:=h;obtain⟨⟨q',N',hq',e'⟩,lo'⟩:=h';refine⟨⟨λi=>q i+k*q' i,max N N',λm hm=>by show q m+k*q' m=0;rw[hq m (by omega),hq' m (by omega)];omega,λm=>?_⟩,λm hm=>by show r m+k*s m=0;rw[lo m hm,lo' m hm];omega⟩
 rw[wz,Mc,e m,e' m,Int.mul_add];omega
theorem lO.zero (f:Fn)(n:Nat):lO f n (λ_=>0) (λ_=>0):=⟨⟨λ_=>0,0,λ_ _=>rfl,λm=>by rw[zX];rfl⟩,λ_ _=>rfl⟩
theorem lO.sum {f:Fn}{n:Nat}{u r:Nat->Fn}(a:Nat->Int):∀m,(∀k,k<m->lO f n (u k) (r k))->lO f n (λc=>aW m λk=>a k*u k c) (λc=>aW m λk=>a k*r k c)
 | 0,_=>lO.zero f n
 | m+1,h=>(lO.sum a m λk hk=>h k (by omega)).add (h m (by omega)) (a m)
theorem lO.next {f:Fn}{n:Nat}{p u r s:Fn}{P:Nat}(hp:∀m,P<=m->p m=0)(h:lO f n u r)(h':lO f n (cv p r) s):lO f n (cv p u) s:=by
 obtain⟨⟨q,N,hq,e⟩,lo⟩:=h;obtain⟨⟨q',N',hq',e'⟩,lo'⟩:=h';refine⟨⟨λi=>cv p q i+q' i,max (P+N) N',λm hm=>?_,λm=>?_⟩,lo'⟩
 ·show cv p q m+q' m=0
  rw[hq' m (by omega)]
  unfold cv;rw[cN λi hi=>?_]
  ·rfl
  ·by_cases c:P<=i
   ·rw[hp i c,Y4]
   ·rw[hq (m-i) (by omega),Yr]
 ·have e1:cv p u m=cv p (λi=>cv q f i+r i) m:=BC (λi _=>rfl) λi _=>e i
  rw[e1,L1,wz,<- BD,e' m];omega
theorem lO.self {f:Fn}{n:Nat}{u:Fn}(h:∀m,n<=m->u m=0):lO f n u u:=⟨⟨λ_=>0,0,λ_ _=>rfl,λm=>by rw[zX];omega⟩,h⟩
theorem je (i:Nat)(u:Fn)(m:Nat):cv (xp i) u m=if i<=m then u (m-i) else 0:=by
 unfold cv xp;by_cases c:i<=m
 ·rw[Jl c,jz (k:=i) (by omega) λj hj hne=>by rw[Jk hne,Y4],Jl rfl,Zg]
 ·rw[Jk c,cN λj hj=>by rw[Jk (by omega),Y4]]
theorem Fv (i m:Nat)(h:i+1<=m):xp i m=0:=Jk (by omega)
theorem Me (i:Nat)(u:Fn):cv (xp (i+1)) u=cv (xp 1) (cv (xp i) u):=by
 funext m
 rw[je,je];by_cases c:1<=m
 ·rw[Jl c,je]
  by_cases c2:i<=m-1
  ·rw[Jl c2,Jl (by omega),show m-1-i=m-(i+1) by omega]
  ·rw[Jk c2,Jk (by omega)]
 ·rw[Jk c,Jk (by omega)]
structure Rows (f:Fn)(n:Nat)(g:Fn)(R:Nat->Fn):Prop where
 zero:lO f n g (R 0)
 succ:∀i,lO f n (cv (xp 1) (R i)) (R (i+1))
theorem Rows.at {f:Fn}{n:Nat}{g:Fn}{R:Nat->Fn}(h:Rows f n g R):∀i,lO f n (cv (xp i) g) (R i)
 | 0=>by
  have:cv (xp 0) g=g:=by funext m;rw[je,Jl (by omega)];rfl
  rw[this];exact h.zero
 | i+1=>by
  rw[Me];exact lO.next (λm hm=>Fv 1 m hm) (h.at i) (h.succ i)
theorem Rows.comb {f:Fn}{n:Nat}{g:Fn}{R:Nat->Fn}(h:Rows f n g R){p:Fn}{P:Nat}(hp:∀m,P<=m->p m=0):lO f n (cv p g) λc=>aW P λk=>p k*R k c:=by
 have e:cv p g=λc=>aW P λk=>p k*cv (xp k) g c:=by
  funext c
  rw[eH];have e1:∀k,k<P->p k*cv (xp k) g c=if k<=c then p k*g (c-k) else 0:=λk _=>by
   rw[je];split
   ·rfl
   ·rw[Yr]
  rw[bJ e1];unfold cv;by_cases z:P<=c+1
  ·have:c+1=P+(c+1-P):=by omega
   rw[this,lM,cN (f:=λi=>p (P+i)*_) λi hi=>by rw[hp _ (by omega),Y4],Z4]
   exact bJ λi hi=>by rw[Jl (by omega)]
  ·obtain⟨d,rfl⟩:∃d,P=(c+1)+d:=⟨P-(c+1),by omega⟩
   have s1:=lM (λi=>if i<=c then p i*g (c-i) else 0) (c+1) d
   have s2:(bO d λi=>if c+1+i<=c then p (c+1+i)*g (c-(c+1+i)) else 0)=0:=cN λi hi=>Jk (by omega)
   rw[s1,s2,Z4];exact bJ λi hi=>(Jl (by omega)).symm
 rw[e];exact lO.sum p P λk _=>h.at k
def gT (z:Int):Fn:=λk=>if k=0 then-z else if k=1 then 1 else 0
def pD (z:Nat->Int):Nat->Fn
 | 0=>xp 0
 | j+1=>cv (pD z j) (gT (z j))
theorem Du (a:Fn)(z:Int)(m:Nat):cv a (gT z) m=(if 1<=m then a (m-1) else 0)-z*a m:=by
 rw[lN];unfold cv;cases m with
 | zero=>
  show 0+gT z 0*a (0-0)=_
  rw[Jk (by omega)]
  show 0+(- z)*a 0=0-z*a 0
  rw[Int.neg_mul];omega
 | succ m=>
  rw[kK,kK,cN λi hi=>?_]
  ·show(- z)*a (m+1-0)+(1*a (m+1-(0+1))+0)=_
   rw[Jl (by omega),Int.neg_mul,Zg,Nat.sub_zero]
   show-(z*a (m+1))+(a (m+1-1)+0)=_
   omega
  ·show gT z (i+1+1)*_=0
   have:gT z (i+1+1)=0:=by unfold gT;rw[Jk (by omega),Jk (by omega)]
   rw[this,Y4]
theorem wJ (z:Nat->Int):∀j,Top (pD z j) j
 | 0=>⟨by show xp 0 0=1;rfl,λm hm=>by show xp 0 m=0;exact Jk (by omega)⟩
 | j+1=>by
  have ih:=wJ z j;refine⟨?_,λm hm=>?_⟩
  ·show cv (pD z j) (gT (z j)) (j+1)=1
   rw[Du,Jl (by omega),ih.top (j+1) (by omega),show j+1-1=j by omega,ih.one];omega
  ·show cv (pD z j) (gT (z j)) m=0
   rw[Du,Jl (by omega),ih.top m (by omega),ih.top (m-1) (by omega)];omega
end L2
namespace L2
def tk (f:Fn)(n:Nat):Nat->Fn
 | 0=>xp 0
 | k+1=>λm=>(if m=0 then 0 else tk f n k (m-1))-tk f n k (n-1)*f m
section
variable {f:Fn} {n:Nat}
theorem wK (hf:Top f n)(hn:1<=n):∀k m,n<=m->tk f n k m=0
 | 0,m,h=>Jk (by omega)
 | k+1,m,h=>by
  show(if m=0 then 0 else tk f n k (m-1))-tk f n k (n-1)*f m=0
  rw[Jk (by omega)]
  by_cases c:m=n
  ·rw[c,hf.one];omega
  ·rw[hf.top m (by omega),wK hf hn k (m-1) (by omega)];omega
theorem Dv (hf:Top f n)(hn:1<=n):∀k,lO f n (xp k) (tk f n k)
 | 0=>lO.self λm hm=>wK hf hn 0 m hm
 | k+1=>by
  have e:xp (k+1)=cv (xp 1) (xp k):=by
   funext m
   rw[je];unfold xp;by_cases c:1<=m
   ·rw[Jl c]
    by_cases c2:m=k+1
    ·rw[Jl c2,Jl (by omega)]
    ·rw[Jk c2,Jk (by omega)]
   ·rw[Jk c,Jk (by omega)]
  rw[e];refine lO.next (λm hm=>Fv 1 m hm) (Dv hf hn k) ⟨⟨λi=>if i=0 then tk f n k (n-1) else 0,1,λm hm=>Jk (by omega),λm=>?_⟩,wK hf hn (k+1)⟩
  have e1:cv (λi=>if i=0 then tk f n k (n-1) else 0) f m=tk f n k (n-1)*f m:=vt (Jl rfl) (λi hi=>Jk (by omega)) m
  rw[e1,je];show _=_+((if m=0 then 0 else tk f n k (m-1))-tk f n k (n-1)*f m)
  by_cases c:1<=m
  ·rw[Jl c,Jk (by omega)];omega
  ·rw[Jk c,Jl (by omega)];omega
theorem Mg (hf:Top f n)(hn:1<=n){g:Fn}{L:Nat}(hg:∀m,L<=m->g m=0){R:Nat->Fn}(h:Rows f n g R)(i:Nat):R i=λc=>aW L λk=>g k*tk f n (k+i) c:=by
 refine lO.uniq hf (h.at i) ?_
 have e:cv (xp i) g=λc=>aW L λk=>g k*xp (k+i) c:=by
  funext c
  rw[je,eH];by_cases z:i<=c
  ·rw[Jl z]
   by_cases y:c-i<L
   ·rw[jz (k:=c-i) y λk hk hne=>by unfold xp;rw[Jk (by omega),Yr]]
    unfold xp;rw[Jl (by omega),Zx]
   ·rw[hg _ (by omega),cN λk hk=>by unfold xp;rw[Jk (by omega),Yr]]
  ·rw[Jk z,cN λk hk=>by unfold xp;rw[Jk (by omega),Yr]]
 rw[e];exact lO.sum g L λk _=>Dv hf hn (k+i)
def wb (W c:Nat)(u:Fn):Prop:=∀j,(u j).natAbs*W ^ j<=c
end
end L2
namespace L2
theorem Pa (z:Int):∀i,2<=i->gT z i=0:=λi h=>by unfold gT;rw[Jk (by omega),Jk (by omega)]
def tg:Nat->Int
 | 0=>1
 | n+1=>tg n*sg n
theorem GJ (c:Int):ao [c,1]=gT (- c):=by
 funext m
 match m with
 | 0=>show c=-(-c);omega
 | 1=>rfl
 | m+2=>rw[bD (by show 2<=_;omega),Pa _ _ (by omega)]
theorem Dw (a:Int)(m:Nat):ao (trim [a]) m=if m=0 then a else 0:=by
 rw[dQ];match m with
 | 0=>rfl
 | m+1=>rw[bD (by show 1<=_;omega),Jk (by omega)]
theorem rS (c a:Int)(r:List Int)(m:Nat):ao (cP c (a::r)) m=cv (ao (cP c r)) (gT (- c)) m+if m=0 then a else 0:=by
 show ao (rK (dY (cP c r) [c,1]) (trim [a])) m=_
 rw[oA,cp,GJ,Dw]
theorem Dz (c:Int):ao (cP c [])=λ_=>0:=funext λm=>iS m
end L2
namespace L2
open PySem PySem.Spec PyProof.Rows
theorem j8 {env:Env}:∀ {names:List (Str×NameKind)} {x:Str} {kd:NameKind},kd=.cell\/kd=.free->
  (names.map λ(n,k)=>if (k == Z? && env.scope.kind == .function && env.kindOf n == j? .cell) then (n,K!) else (n,k)).lookup x=j? kd->names.lookup x=j? .free\/names.lookup x=j? .cell
 | [],_,_,_,h=>by simp at h
 | (n,k)::r,x,kd,hk,h=>by
  have ih:=@j8 env r x kd hk;have h':List.lookup x ((if (k == Z? && env.scope.kind == .function && env.kindOf n == j? .cell)=true then (n,K!) else (n,k))::(r.map λ(n,k)=>if (k == Z? && env.scope.kind == .function && env.kindOf n == j? .cell) then (n,K!) else (n,k)))=j? kd:=h
  by_cases hc:(k == Z? && env.scope.kind == .function && env.kindOf n == j? .cell)=true
  ·rw[Jl hc] at h'
   have hkf:k=.free:=by
    simp only[T?,beq_iff_eq] at hc
    exact hc.1.1
   subst hkf;cases hx:x == n with
   | true=>exact .inl (by simp only[Y7,hx])
   | false=>simp only[Y7,hx] at h' ⊢;exact ih h'
  ·rw[Jk hc] at h'
   cases hx:x == n with
   | true=>
    simp only[Y7,hx] at h' ⊢
    have e:k=kd:=M? h';subst e;rcases hk with hk|hk
    ·rw[hk];exact .inr rfl
    ·rw[hk];exact .inl rfl
   | false=>simp only[Y7,hx] at h' ⊢;exact ih h'
structure cM (X:Cx)(N:List Str)(sl:List (Option Nat))(scope:Scope)(own:Str):Prop where
 kind:scope.kind=.function
 cells:∀n acc,cellsFrom n scope.names acc=(own,n)::acc
 push:∀h,pushCells h scope.names=h.push { cls:=.type "cell",data:=.cell q? }
 RV:∀x,scope.names.lookup x=j? .cell->x=own
 U4:scope.names.lookup own=j? .cell
 locs:∀y∈scope.names,y.2=.local->scope.names.lookup y.1=j? .local
 frees:∀y∈scope.names,y.2=.free->X.env.kindOf y.1=j? .cell\/X.env.kindOf y.1=j? .free
 len:sl.length=N.length
 out:∀(j i:Nat) (x:Str),N[j]?=j? x->sl[j]?=j? (j? i)->X.N[i]?=j? x/\scope.names.lookup x=j? .free
abbrev dZ (X:Cx)(N:List Str)(scope:Scope)(own:Str)(cl:List (Str×o?))(C:o?)(s2:u?)(H2:Hp)(fp:List o?):Cx:=
 { X with N:=N,s₀:=s2,H₀:=H2,env:=compEnvC scope cl C X.env,outer:=X.stack,ex:=fp,fn:=λx=>decide (x=own),pn:=[],xe:=λ_ _=>False }
theorem DA {M:Model}{A:A!}{E:l?->u?->Prop}{s:u?}{scope:Scope}{own:Str}{globals:o?}{cl:List (Str×o?)}{qual:Str}{env:Env}{Q:Env->u?->Prop}
  (hc:∀n acc,cellsFrom n scope.names acc=(own,n)::acc) (hp:∀h,pushCells h scope.names=h.push { cls:=.type "cell",data:=.cell q? })
  (hQ:Q (newEnv scope s.heap.objs.size globals ((own,s.heap.objs.size+1)::cl) qual q? .none (j? env) builtinsNs) { s with heap:=(s.heap.push { cls:=.type "dict",data:=.dict #[] }).push { cls:=.type "cell",data:=.cell q? } }):
  L? M A (newFunctionEnv scope globals cl [] qual q? .none (j? env)) Q E s:=by
 simp only[newFunctionEnv,Option.isSome_some,if_true]
 refine B? (wpAny_alloc ?_)
 refine B? (wpAny_layCells _ (λname kind cells=>by cases hkc:kind == K! <;> simp[hkc]) _ _ _ _ ?_)
 rw[hc,hp];rw[show({ s with heap:=s.heap.push { cls:=.type "dict",data:=.dict #[] } }:u?).heap.objs.size=s.heap.objs.size+1 from Heap.size_push ..]
 rw[List.forIn_nil];exact B? (J? (J? hQ))
section
variable {X:Cx} {N:List Str} {sl:List (Option Nat)} {scope:Scope} {own:Str}
theorem cM.clos (S:cM X N sl scope own)(ok:X.Ok):closureFor scope X.env=pure (aR X.env.cells scope.names []):=
 iE λy hy hf=>ok.has y.1 (S.frees y hy hf)
theorem cM.RW (S:cM X N sl scope own){x:Str}(hf:scope.names.lookup x=j? .free){c:o?}(hc:X.env.cells.lookup x=j? c):(aR X.env.cells scope.names []).lookup x=j? c:=
 gk hc _ _ (.inr (U? hf)) λd hd=>by simp at hd
theorem cM.cell (S:cM X N sl scope own){x:Str}(hf:scope.names.lookup x=j? .free){c c0:o?}(hc:X.env.cells.lookup x=j? c):((own,c0)::aR X.env.cells scope.names []).lookup x=j? c:=by
 have hne:(x == own)=false:=by
  refine beq_eq_false_iff_ne.mpr λz=>?_
  subst z;rw[S.U4] at hf;cases hf
 rw[Y7,hne];exact S.RW hf hc
theorem wL {cl:List (Str×o?)}{x:Str}{c c0:o?}(h:((own,c0)::cl).lookup x=j? c):(x=own/\c=c0)\/(x≠own/\cl.lookup x=j? c):=by
 rw[Y7] at h;cases e:x == own with
 | true=>rw[e] at h;exact .inl ⟨by simpa using e,(M? h).symm⟩
 | false=>rw[e] at h;exact .inr ⟨by simpa using e,h⟩
theorem cM.ok (S:cM X N sl scope own){pins:List (o?×Obj)}{σ:St}{H2:Hp}{s2:u?}{fp:List o?}{C c0:o?}(I:Inv X pins σ H2 s2)(hf:∀b∈fp,jP X pins H2 b)(hlt:∀b∈fp,b<s2.heap.objs.size)(hC:s2.heap.objs.size<=C)(hc0:s2.heap.objs.size<=c0):
  (dZ X N scope own ((own,c0)::aR X.env.cells scope.names []) C s2 H2 fp).Ok where
 mod:=I.ok.mod
 kind:=S.kind
 glob:=I.ok.glob
 blt:=I.ok.blt
 above:=hC
 inj:=λx y c h1 h2=>by
  rcases wL h1 with ⟨e1,e2⟩|⟨e1,e2⟩
  ·rcases wL h2 with ⟨e3,e4⟩|⟨e3,e4⟩
   ·rw[e1,e3]
   ·obtain⟨v,q⟩:=I.cell y c (bF.back e4)
    have:=q.lt
    rw[e2] at this;exact Jr (Yj this hc0) (We _)
  ·rcases wL h2 with ⟨e3,e4⟩|⟨e3,e4⟩
   ·obtain⟨v,q⟩:=I.cell x c (bF.back e2)
    have:=q.lt
    rw[e4] at this;exact Jr (Yj this hc0) (We _)
   ·exact I.ok.inj x y c (bF.back e2) (bF.back e4)
 has:=λx hx=>by
  have hx':scope.names.lookup x=j? .free\/scope.names.lookup x=j? .cell:=by
   rcases hx with hx|hx
   ·exact j8 (.inl rfl) hx
   ·exact j8 (.inr rfl) hx
  rcases hx' with hx'|hx'
  ·obtain⟨c,hc⟩:=I.ok.has x (S.frees _ (U? hx') rfl)
   exact⟨c,S.cell hx' hc⟩
  ·have:=S.RV x hx'
   subst this;exact⟨c0,by show List.lookup x ((x,c0)::_)=_;rw[Y7,beq_self_eq_true]⟩
 Nh:=λx c h hl=>by
  rcases wL hl with ⟨_,e2⟩|⟨e1,_⟩
  ·rw[e2];exact hc0
  ·exact Jr (Jn h) e1
 hd:=I.ok.hd
 frames:=I.ok.frames
 stk:=.inl rfl
 QG:=λb hb=>⟨Yw (Yj (hlt b hb) hC),λx c h=>by
  rcases wL h with ⟨_,e2⟩|⟨_,e2⟩
  ·rw[e2];exact Nat.ne_of_gt (Yj (hlt b hb) hc0)
  ·exact(hf b hb).2.2.2.2.1 x c (bF.back e2)⟩
 bs:=I.bs
 EV:=Ym I.ok.EV I.sz
 Bg:=λb o e hb=>by
  rcases (hf b hb).2.2.2.1 with z|z
  ·exact I.ok.Bg b o e z
  ·exact Jr (Yj (Yj (Yl e) I.ok.EV) z) (We _)
 Bh:=λb hb z=>by
  rcases List.mem_cons.mp (I.vP b z) with e|e
  ·exact(hf b hb).2.1 e
  ·exact(hf b hb).2.2.1 e
 oZ:=I.stack
 Lo:=I.zA
theorem cM.again (S:cM X N sl scope own){pins:List (o?×Obj)}{σ:St}{H2:Hp}{s2:u?}{fp:List o?}{C c0:o?}(I:Inv X pins σ H2 s2)(hf:∀b∈fp,jP X pins H2 b)
  {uH:List (o?×Obj)} {σ':St} {H':Hp} {s':u?} (J:Inv (dZ X N scope own ((own,c0)::aR X.env.cells scope.names []) C s2 H2 fp) uH σ' H' s'):
  Inv (dZ X N scope own ((own,c0)::aR X.env.cells scope.names []) C s2 H2 fp) uH (fK sl σ) H' s':=by
 obtain⟨m,hn,_⟩:=J.loc;refine⟨J.ok,J.os,J.bare,J.base,⟨m,hn,λj x v e1 e2 _=>?_⟩,J.cell,J.free,J.jd,J.pin,J.hok,?_⟩
 ·obtain⟨i,h1,h2⟩:=uK e2
  obtain⟨hN,hfree⟩:=S.out j i x e1 h1;have hk:=S.frees _ (U? hfree) rfl;obtain⟨m0,hn0,HX⟩:=I.loc;have hv:QF X.env.scope x:=by
   rcases hk with hk|hk
   ·exact .inr (.inl hk)
   ·exact .inr (.inr hk)
  obtain⟨u,r,l⟩:=HX i x v hN h2 hv;refine⟨u,r,.inr ⟨?_,?_⟩⟩
  ·rcases fP (env:=X.env) hfree with z|z
   ·exact .inr z
   ·exact .inl z
  ·rcases l with ⟨z,_⟩|⟨_,c,hc,q⟩
   ·rcases hk with hk|hk
    ·have hk':X.env.kindOf x=j? .cell:=hk
     rw[hk'] at z;cases z
    ·have hk':X.env.kindOf x=j? .free:=hk
     rw[hk'] at z;cases z
   ·refine⟨c,S.cell hfree hc,?_⟩
    obtain⟨o,ho,hd⟩:=q;have OR:c ∉ fp:=λz=>(hf c z).2.2.2.2.1 x c hc rfl
    obtain⟨Uw,e⟩:=J.base.any ho (I.jd x c hc) OR;exact⟨_,e,hd⟩
 ·unfold fK
  rw[Ya];exact S.len
theorem y9 {elt tg iter:Expr}{ifs:List Expr}{pos pos2:Pos}{wi:TI}{g:TG}{o_:TT}{te:TE}{use:Option (l?->Sem Unit)}{QQ:l?->u?->Prop}(S:cM X N sl scope own)(kI:X.calm=true)(hi:PI X tg iter wi)
  (hg:∀cl C s2 H2 fp,PG (dZ X N scope own cl C s2 H2 fp) tg g) (hif:∀cl C s2 H2 fp,Nx (dZ X N scope own cl C s2 H2 fp) ifs o_) (he:∀cl C s2 H2 fp,PE (dZ X N scope own cl C s2 H2 fp) elt te)
  (hs:∀x,foldedSetIterable iter X.env x=pure x) {pins:List (o?×Obj)} {s:u?} {σ:St} {H:Hp} {Q:VK} (I:Inv X pins σ H s) (h:yO wi sl g o_ te σ H Q)
  (hend:∀(D C:o?) (H3:Hp) (s4:u?) (fl:Flow),Inv X pins σ H3 s4->H3 C=q?->C≠X.env.locals->C ∉ X.fs->X.s₀.heap.objs.size<=C->(∀x c,X.env.cells.lookup x=j? c->c≠C)->(∀p∈X.pn++pins,p.1≠C)->(∃m,s4.heap.Ns C m)->Q (.ref D) H3->
   compPost (S? X.prog X.w) X.A X.xe use QQ (.ref D) C (.ok fl) s4):
  L? (S? X.prog X.w) X.A (comprehension (.ListComp elt [⟨tg,iter,ifs,0⟩] scope pos) scope X.env pos2 (newList []) false (eval iter X.env) use) QQ X.xe s:=by
 refine wpAny_comprehension_free (use:=use) rfl hs (S.clos I.ok) S.kind S.locs (B! (hi pins s σ H _ I h) (λxv s1 h1=>B! h1 (λitv s2 h2=>?_) λ_ _ e=>e) λ_ _ e=>e)
 obtain⟨it,fp,tn,J,H2,rfl,I2,T,st2,f2,hR⟩:=h2;obtain⟨W,⟨m0,w0⟩,turn⟩:=hR _ I2.fresh;refine wpAny_newObj_type (DA S.cells S.push ?_)
 dsimp only
 generalize hP:s2.heap.push { cls:=.type "list",dict:=q?,data:=.seq ([]:List l?).toArray }=P2;generalize hh1:(P2.push { cls:=.type "dict",data:=.dict #[] }).push { cls:=.type "cell",data:=.cell q? }=h₁;have hC:P2.objs.size=s2.heap.objs.size+1:=by rw[<- hP,Heap.size_push]
 have hDC:s2.heap.objs.size≠P2.objs.size:=by rw[hC];exact Yw (Nat.lt_succ_self _)
 have tD:s2.heap.objs.size<=P2.objs.size:=by rw[hC];exact Ji _
 have hcle:s2.heap.objs.size<=P2.objs.size+1:=Nat.le_succ_of_le tD;have hDc:s2.heap.objs.size≠P2.objs.size+1:=by rw[hC];exact Yw (Nat.lt_succ_of_lt (Nat.lt_succ_self _))
 have v7:h₁.Ns P2.objs.size (λ_=>q?):=hh1 ▸ (Heap.Ns.new P2 (.type "dict")).keeps (λb o e=>Yh _ e)
 have hlt:∀b∈fp,b<s2.heap.objs.size:=λb hb=>let ⟨o,e,_⟩:=T.obj 0 _ st2 b hb;Yl e
 have old:∀b o,s2.heap.get? b=j? o->h₁.get? b=j? o:=λb o e=>hh1 ▸ Yh _ (Yh _ (hP ▸ Yh _ e))
 have US:h₁.get? s2.heap.objs.size=j? { cls:=.type "list",dict:=q?,data:=.seq ([]:List l?).toArray }:=hh1 ▸ Yh _ (Yh _ (hP ▸ Y9 _ rfl));have hc1:h₁.IsCell (P2.objs.size+1) q?:=by
  have:(P2.push { cls:=.type "dict",data:=.dict #[] }).objs.size=P2.objs.size+1:=Heap.size_push ..
  rw[<- this,<- hh1];exact⟨_,Y9 _ rfl,rfl⟩
 have hok:=S.ok (C:=P2.objs.size) (c0:=P2.objs.size+1) I2 f2 hlt tD hcle;have OS:uW X.prog X.w (upd H2 s2.heap.objs.size (.lst [])) h₁:=I2.hok.laid old (Yd _) ⟨Y5 _,[],_,.nil,US⟩;have UT:Un (frs X.stack) fp H2 (upd H2 s2.heap.objs.size (.lst [])) s2.heap h₁:=Un.laid old (Yd _) I2.fresh;have Di:∀x c,((own,P2.objs.size+1)::aR X.env.cells scope.names []).lookup x=j? c->∃v,h₁.IsCell c v:=λx c hc=>by
  rcases wL hc with ⟨_,e2⟩|⟨_,e2⟩
  ·rw[e2];exact⟨_,hc1⟩
  ·obtain⟨v,o,ho,hd⟩:=I2.cell x c (bF.back e2)
   exact⟨v,o,old c o ho,hd⟩
 have Dj:∀x c,((own,P2.objs.size+1)::aR X.env.cells scope.names []).lookup x=j? c->upd H2 s2.heap.objs.size (.lst []) c=q?:=λx c hc=>by
  rcases wL hc with ⟨_,e2⟩|⟨_,e2⟩
  ·rw[e2,aN (Ne.symm hDc)]
   exact I2.hok.fresh hcle
  ·obtain⟨v,q⟩:=I2.cell x c (bF.back e2)
   rw[aN (Yw q.lt)];exact I2.jd x c (bF.back e2)
 have Dk:upd H2 s2.heap.objs.size (.lst []) P2.objs.size=q?:=by
  rw[aN (Ne.symm hDC)];exact I2.hok.fresh tD
 have start:∀tk:Nat,Inv (dZ X N scope own ((own,P2.objs.size+1)::aR X.env.cells scope.names []) P2.objs.size s2 H2 fp) [] (fK sl σ) (upd H2 s2.heap.objs.size (.lst [])) { s2 with heap:=h₁,toks:=tk }:=λtk=>by
  have J0:Inv (dZ X N scope own ((own,P2.objs.size+1)::aR X.env.cells scope.names []) P2.objs.size s2 H2 fp) [] (Yn N.length q?) (upd H2 s2.heap.objs.size (.lst [])) { s2 with heap:=h₁,toks:=tk }:=
   ⟨hok,rfl,I2.bare,UT,⟨_,v7,λi x v e1 e2 _=>by
    rw[Wr] at e2;split at e2 <;> cases e2⟩,Di,Dk,Dj,λp hp=>Jr (show p∈([]:List (o?×Obj)) from hp) (by simp),OS,by simp⟩
  exact S.again I2 f2 J0
 have stK:tn 0 h₁:=T.keep _ _ _ st2 λb hb o e=>old b o e
 have UU:∀b∈fp,upd H2 s2.heap.objs.size (.lst []) b=q?:=λb hb=>by
  rw[aN (Yw (hlt b hb))];exact(f2 b hb).1
 have vU:∀ {H':Hp},(∀b∈fp,H' b=q?)->∀b∈fp,jP (dZ X N scope own ((own,P2.objs.size+1)::aR X.env.cells scope.names []) P2.objs.size s2 H2 fp) [] H' b:=λhn b hb=>
  ⟨hn b hb,Yw (Yj (hlt b hb) tD),λz=>hok.Bh b hb z,.inl hb,λx c hc=>(hok.QG b hb).2 x c hc,λp hp=>Jr (show p∈([]:List (o?×Obj)) from hp) (by simp)⟩
 have loop:∀tk:Nat,codeAny (S? X.prog X.w) X.A (.compLoop (.ListComp elt [⟨tg,iter,ifs,0⟩] scope pos) 0 (.ref it) (.ref s2.heap.objs.size) (compEnvC scope ((own,P2.objs.size+1)::aR X.env.cells scope.names []) P2.objs.size X.env))
   (compPost (S? X.prog X.w) X.A X.xe use QQ (.ref s2.heap.objs.size) P2.objs.size) { s2 with heap:=h₁,toks:=tk }:=λtk=>by
  refine codeAny_loop rfl (λn s'=>∃i H',Inv (dZ X N scope own ((own,P2.objs.size+1)::aR X.env.cells scope.names []) P2.objs.size s2 H2 fp) [] (fK sl σ) H' s'/\tn i s'.heap/\(∀b∈fp,H' b=q?)/\W i n H') ?_ m0 ⟨0,_,start tk,stK,UU,w0⟩
  rintro n s3 ⟨i,H3,I3,st3,Np,w3⟩;show L? _ X.A ((compTurn (.ListComp elt [⟨tg,iter,ifs,0⟩] scope pos) 0 (.ref it) (.ref s2.heap.objs.size) (compEnvC scope ((own,P2.objs.size+1)::aR X.env.cells scope.names []) P2.objs.size X.env)).onRaise (λx=>do noteFrame x (compEnvC scope ((own,P2.objs.size+1)::aR X.env.cells scope.names []) P2.objs.size X.env);theTreesLotGoes x)) _ _ s3
  refine wpAny_noted ?_
  rw[compTurn_list];rcases turn i n H3 w3 with ⟨stop,qn⟩|⟨go,step⟩
  ·refine B? (wpAny_standAt (B? (B! (T.done (dZ X N scope own ((own,P2.objs.size+1)::aR X.env.cells scope.names []) P2.objs.size s2 H2 fp) rfl rfl rfl kI i [] s3 _ H3 _ I3 (vU Np) st3 stop) (λr s4 ⟨hr,I4⟩=>?_) λ_ _ z=>z)))
   subst hr;refine J? ?_
   obtain⟨m4,UW,_⟩:=I4.loc;have u0:Un (frs X.stack) fp H2 H3 s2.heap s4.heap:=I4.base;have hI:Inv X pins σ H3 s4:=I2.Nk (s':=s4) (ch:=fp) I4.os u0 I4.hok I4.bare λb hb=>⟨(f2 b hb).2.2.2.1,(f2 b hb).2.1,(f2 b hb).2.2.2.2.1,(f2 b hb).2.2.2.2.2⟩
   have LW:=I2.vS (H':=H3) tD I4.free;exact hend _ _ H3 s4 _ hI I4.free LW.2.1 LW.2.2.1 (Ym I2.sz tD) LW.2.2.2.2.1 LW.2.2.2.2.2 ⟨m4,UW⟩ qn
  ·refine B? (wpAny_standAt (B? (B! (T.item (dZ X N scope own ((own,P2.objs.size+1)::aR X.env.cells scope.names []) P2.objs.size s2 H2 fp) rfl rfl rfl kI i [] s3 _ H3 (λ_ _=>False) I3 (vU Np) st3 go) (λr s4 ⟨u,hr,h4⟩=>?_) λ_ _ z=>z.elim)))
   subst hr;refine B? (B! h4 (λ_ s5 ⟨x,H5,I5,r5,y5,HL,Ry⟩=>?_) λ_ _ z=>z.elim)
   have Rz:=I5.pinned (vU Ry) (T.obj _ _ HL);refine B? (B! (hg _ _ _ _ _ _ s5 _ H5 x u _ Rz r5 (step x H5 y5)) (λ_ s6 ⟨σ6,H6,I6,q6⟩=>?_) λ_ _ z=>(show False from z).elim)
   have again:∀ {σ7:St} {H7:Hp} {s7:u?},Inv (dZ X N scope own ((own,P2.objs.size+1)::aR X.env.cells scope.names []) P2.objs.size s2 H2 fp) ([]++sX fp s5.heap) σ7 H7 s7->(∃m',m'<n/\W (i+1) m' H7)->
     ∃m',m'<n/\∃i H',Inv (dZ X N scope own ((own,P2.objs.size+1)::aR X.env.cells scope.names []) P2.objs.size s2 H2 fp) [] (fK sl σ) H' s7/\tn i s7.heap/\(∀b∈fp,H' b=q?)/\W i m' H':=λ{σ7 H7 s7} I7 ⟨m',hm,w7⟩=>by
    refine⟨m',hm,i+1,H7,S.again I2 f2 I7.kH,T.keep _ _ _ HL λb hb o e=>(I7.pin (b,o) (Yv _ (Yv _ (fq hb e)))).1,λb hb=>?_,w7⟩
    obtain⟨o,e,d⟩:=T.obj _ _ HL b hb;exact(I7.pin (b,o) (Yv _ (Yv _ (fq hb e)))).2.1
   refine B? (B! (hif _ _ _ _ _ _ s6 σ6 H6 _ I6 q6) (λok s7 ⟨H7,I7,q7⟩=>?_) λ_ _ z=>(show False from z).elim)
   cases ok with
   | false=>
    exact J? ⟨rfl,again I7 (by simpa using q7)⟩
   | true=>
    rw[Jl rfl] at q7;refine B? (B? (B! ((he _ _ _ _ _).out _ s7 σ6 H7 _ I7 q7) (λy s8 ⟨yv,H8,I8,r8,ys,hys,hlen,w8⟩=>?_) λ_ _ z=>(show False from z).elim))
    refine B? (B! (eB (X:=dZ X N scope own ((own,P2.objs.size+1)::aR X.env.cells scope.names []) P2.objs.size s2 H2 fp) _ s8 σ6 H8 (.ref s2.heap.objs.size) [yv] (.ref s2.heap.objs.size) [y]
     (λv H9=>v=.fm/\∃m',m'<n/\W (i+1) m' H9) I8 rfl (.cons r8 .nil) ⟨_,ys,yv,rfl,rfl,hys,hlen,rfl,w8⟩) (λr s9 ⟨v9,H9,I9,r9,e9,w9⟩=>?_) λ_ _ z=>(show False from z).elim)
    exact J? (J? ⟨rfl,again I9 w9⟩)
 exact codeAny_compStart_list (loop _) (T.self _ 0 _ _ _ stK (loop _))
theorem wM {elt tg iter:Expr}{ifs:List Expr}{pos:Pos}{wi:TI}{g:TG}{o_:TT}{te:TE}(S:cM X N sl scope own)(kI:X.calm=true)(hi:PI X tg iter wi)
  (hg:∀cl C s2 H2 fp,PG (dZ X N scope own cl C s2 H2 fp) tg g) (hif:∀cl C s2 H2 fp,Nx (dZ X N scope own cl C s2 H2 fp) ifs o_) (he:∀cl C s2 H2 fp,PE (dZ X N scope own cl C s2 H2 fp) elt te)
  (hs:∀x,foldedSetIterable iter X.env x=pure x:=by intro _;rfl):
  PE X (.ListComp elt [⟨tg,iter,ifs,0⟩] scope pos) (yO wi sl g o_ te):=by
 refine⟨?_⟩
 intro pins s σ H Q I h;rw[eval_ListComp];refine y9 S kI hi hg hif he hs I h λD C H3 s4 fl I4 n1 n2 n3 n4 n5 n6 ⟨m,hn⟩ q=>?_
 exact⟨m,hn,λh' Lu=>⟨.ref D,H3,I4.turned (t':=s4.toks) (λb o hb e=>(Lu.2 b hb).trans e) n1 n2 (.inr n4) n5 n6,rfl,q⟩⟩
end
def rT (scope Fc:Scope):Scope:=
 { scope with names:=scope.names.map λ(n,k)=>if (k == .free && Fc.kind == .function && Fc.names.lookup n == j? .cell) then (n,.cell) else (n,k) }
theorem BI {own:Str}:∀ {names:List (Str×NameKind)},(names.filter λy=>decide (y.2=.cell))=[(own,.cell)]->(∀n acc,cellsFrom n names acc=(own,n)::acc)/\∀h,pushCells h names=h.push { cls:=.type "cell",data:=.cell q? }
 | [],h=>by simp at h
 | (x,k)::r,h=>by
  by_cases c:k=.cell
  ·subst c
   rw[List.filter_cons_of_pos (by simp)] at h
   have h1:x=own:=Jp Prod.fst (List.cons.inj h).1;have h2:(r.filter λy=>decide (y.2=.cell))=[]:=(List.cons.inj h).2
   have q?:∀(l:List (Str×NameKind)),(l.filter λy=>decide (y.2=.cell))=[]->(∀n acc,cellsFrom n l acc=acc)/\∀h,pushCells h l=h:=by
    intro l;induction l with
    | nil=>intro _;exact⟨λ_ _=>rfl,λ_=>rfl⟩
    | cons y l ih=>
     intro hl;obtain⟨y1,y2⟩:=y;have hy:y2≠.cell:=λz=>by
      rw[List.filter_cons_of_pos (by simpa using z)] at hl
      cases hl
     rw[List.filter_cons_of_neg (by simpa using hy)] at hl
     obtain⟨i1,i2⟩:=ih hl;have hb:(y2 == K!)=false:=by simpa using hy
     refine⟨λn acc=>?_,λh=>?_⟩
     ·unfold cellsFrom;rw[hb];exact i1 n acc
     ·unfold pushCells;rw[hb];exact i2 h
   obtain⟨n1,n2⟩:=q? r h2;subst h1;refine⟨λn acc=>?_,λh=>?_⟩
   ·unfold cellsFrom;exact n1 _ _
   ·unfold pushCells;exact n2 _
  ·rw[List.filter_cons_of_neg (by simpa using c)] at h
   obtain⟨i1,i2⟩:=BI h;have hb:(k == K!)=false:=by simpa using c
   refine⟨λn acc=>?_,λh=>?_⟩
   ·unfold cellsFrom;rw[hb];exact i1 n acc
   ·unfold pushCells;rw[hb];exact i2 h
def Fw (Fc:Scope)(ON N:List Str)(sl:List (Option Nat))(scope:Scope)(own:Str):Bool:=
 decide (scope.kind=.function) && decide ((scope.names.filter λy=>decide (y.2=.cell))=[(own,.cell)]) && decide (scope.names.lookup own=j? .cell) && scope.names.all (λy=>decide (y.2=.local->scope.names.lookup y.1=j? .local)) &&
 scope.names.all (λy=>decide (y.2=.free->Fc.names.lookup y.1=j? .cell\/Fc.names.lookup y.1=j? .free)) && decide (sl.length=N.length) &&
 (Yk N.length).all λj=>match N[j]?,sl[j]? with
  | some x,j? (j? i)=>decide (ON[i]?=j? x/\scope.names.lookup x=j? .free)
  | _,_=>true
theorem iF {X:Cx}{N:List Str}{sl:List (Option Nat)}{scope:Scope}(own:Str)(Fc:Scope)(ON:List Str)(h1:X.env.scope=Fc)(h2:X.N=ON)(hb:Fw Fc ON N sl scope own=true):cM X N sl scope own:=by
 unfold Fw at hb;simp only[T?,decide_eq_true_eq,Wi] at hb
 obtain⟨⟨⟨⟨⟨⟨b1,b2⟩,b2'⟩,b3⟩,b4⟩,b5⟩,b6⟩:=hb;obtain⟨o1,o2⟩:=BI b2;refine⟨b1,o1,o2,λx hx=>?_,b2',b3,λy hy hf=>?_,b5,λj i x e1 e2=>?_⟩
 ·have:(x,K!)∈(scope.names.filter λy=>decide (y.2=.cell)):=List.mem_filter.mpr ⟨U? hx,by simp⟩
  rw[b2] at this;exact Jp Prod.fst (List.mem_singleton.mp this)
 ·have:=b4 y hy hf
  show X.env.scope.names.lookup y.1=_\/X.env.scope.names.lookup y.1=_
  rw[h1];exact this
 ·have hj:j<N.length:=(List.getElem?_eq_some_iff.mp e1).1
  have:=b6 j (List.mem_range.mpr hj)
  rw[e1,e2] at this;have q:=Jn this;rw[h2];exact q
def z6:Q?->Scope
 | .Return (j? (.ListComp _ _ sc _)) _=>sc
 | .Assign _ (.ListComp _ _ sc _) _=>sc
 | _=>default
end L2
namespace L2
open PySem PySem.Spec PySem.W PyProof.Rows
section
variable {X:Cx} {N:List Str} {sl:List (Option Nat)} {scope:Scope} {own:Str}
theorem ID {i:Nat}{x:Str}{elt tg iter:Expr}{ifs:List Expr}{cpos pos pos':Pos}{wi:TI}{g:TG}{o_:TT}{te:TE}(hN:X.N.Nodup)(hi':X.N[i]?=j? x)(hx:Loc X.env.scope x)(S:cM X N sl scope own)(kI:X.calm=true)(hi:PI X tg iter wi)
  (hg:∀cl C s2 H2 fp,PG (dZ X N scope own cl C s2 H2 fp) tg g) (hif:∀cl C s2 H2 fp,Nx (dZ X N scope own cl C s2 H2 fp) ifs o_) (he:∀cl C s2 H2 fp,PE (dZ X N scope own cl C s2 H2 fp) elt te)
  (hsw:swapsWith (.ListComp elt [⟨tg,iter,ifs,0⟩] scope cpos) (j? (.Name x pos')) pos.line X.env=pure true:=by rfl)
  (hs:∀x,foldedSetIterable iter X.env x=pure x:=by intro _;rfl) (hf:X.fn x=true\/X.env.scope.names.lookup x=j? .local:=by first|exact .inl rfl|exact .inr rfl|assumption):
  PS X (.Assign [.Name x pos'] (.ListComp elt [⟨tg,iter,ifs,0⟩] scope cpos) pos) (LB (yO wi sl g o_ te) (iO i)):=by
 refine⟨?_⟩
 intro pins s σ H D0 I h;rw[exec_Assign_Name_used _ _ _ _ hsw];refine B? (wpAny_standAt (B? ?_))
 show L? _ X.A (do let _ <- comprehension (.ListComp elt [⟨tg,iter,ifs,0⟩] scope cpos) scope X.env _ (newList []) false (eval iter X.env) (j? (assign (.Name x pos') X.env))) _ _ s
 refine B? (B! (y9 (QQ:=λ_ s'=>∃σ' H',Inv X pins σ' H' s'/\D0.nx σ' H') (use:=j? (assign (.Name x pos') X.env)) S kI hi hg hif he hs I h λD C H3 s4 fl I4 n1 n2 n3 n4 n5 n6 hm q=>?_)
  (λ_ s' hq=>J? (J? hq)) λ_ _ e=>e)
 obtain⟨m,hn⟩:=hm;show L? _ X.A (assign (.Name x pos') X.env (.ref D)) _ _ _
 refine wpAny_assign_Name (sP I4 hN hi' hx (show RelV (.ref D) (.ref D) from rfl) (λs5 I5 ⟨a,Lu,ha⟩=>?_) hf)
 have UX:C≠a:=by
  rcases ha with rfl|ha
  ·exact n2
  ·exact λz=>n5 _ _ ha z.symm
 refine⟨m,hn.sameBut Lu UX,λh' OT=>⟨_,H3,I5.turned (t':=s5.toks) (λb o hb e=>(OT.2 b hb).trans e) n1 n2 (.inr n4) n5 n6,q⟩⟩
end
end L2
set_option maxHeartbeats 1000000
namespace L2
open PySem PySem.Spec PyProof.Rows
open AutoSeq1 (wpAny_loadPart')
end L2
namespace L2
open PySem PySem.Spec PyProof.Rows
end L2
namespace L2
open PySem PySem.Spec PySem.W PyProof.Rows PySem.Calls PySem.Builtin PySem.Builtin.ObjectAttr PySem.Builtin.Getset_descriptor
end L2
namespace L2
open PySem PySem.Spec PySem.W PyProof.Rows
end L2
namespace Alg
open Lean.Grind
section mk
variable {α:Type} (zero one:α) (add mul:α->α->α) (neg:α->α)
def nc:Nat->α
 | 0=>zero
 | 1=>one
 | n+2=>add (nc (n+1)) one
def ic:Int->α
 | .ofNat n=>nc zero one add n
 | .negSucc n=>neg (nc zero one add (n+1))
def Xy (x:α):Nat->α
 | 0=>one
 | n+1=>mul (Xy x n) x
@[reducible] def U5 (az:∀a,add a zero=a) (ac:∀a b,add a b=add b a) (aa:∀a b c,add (add a b) c=add a (add b c)) (ma:∀a b c,mul (mul a b) c=mul a (mul b c)) (mo:∀a,mul a one=a)
    (ld:∀a b c,mul a (add b c)=add (mul a b) (mul a c)) (mc:∀a b,mul a b=mul b a) (na:∀a,add (neg a) a=zero):CommRing α:=
  have mz:∀a,mul a zero=zero:=λa=>by
    have h1:mul a zero=add (mul a zero) (mul a zero):=by rw[<- ld,az]
    calc mul a zero=add zero (mul a zero):=by rw[ac,az]
      _=add (add (neg (mul a zero)) (mul a zero)) (mul a zero):=by rw[na]
      _=add (neg (mul a zero)) (mul a zero):=by rw[aa,<- h1]
      _=zero:=na _
  have nn:∀a,neg (neg a)=a:=λa=>by
    calc neg (neg a)=add (neg (neg a)) (add (neg a) a):=by rw[na,az]
      _=add (add (neg (neg a)) (neg a)) a:=by rw[aa]
      _=a:=by rw[na,ac,az]
  have nz:neg zero=zero:=by rw[<- az (neg zero),na]
  have nm:∀a b,mul (neg a) b=neg (mul a b):=λa b=>by
    calc mul (neg a) b=add (mul (neg a) b) (add (mul a b) (neg (mul a b))):=by rw[ac (mul a b),na,az]
      _=add (add (mul (neg a) b) (mul a b)) (neg (mul a b)):=by rw[aa]
      _=add (mul b (add (neg a) a)) (neg (mul a b)):=by rw[mc (neg a),mc a,ld]
      _=neg (mul a b):=by rw[na,mz,ac,az]
  have Xz:∀i:Int,ic zero one add neg (-i)=neg (ic zero one add neg i):=λi=>by
    match i with
    | .ofNat 0=>exact nz.symm
    | .ofNat (n+1)=>rfl
    | .negSucc n=>exact(nn _).symm
  { add:=add,mul:=mul,neg:=neg,sub:=λa b=>add a (neg b)
    natCast:=⟨nc zero one add⟩,ofNat:=λn=>⟨nc zero one add n⟩,nsmul:=⟨λn a=>mul (nc zero one add n) a⟩,npow:=⟨Xy one mul⟩
    add_zero:=az,add_comm:=ac,add_assoc:=aa,mul_assoc:=ma,mul_one:=mo,one_mul:=λa=>(mc _ _).trans (mo a),left_distrib:=ld
    right_distrib:=λa b c=>by
      show mul (add a b) c=add (mul a c) (mul b c)
      rw[mc,ld,mc c,mc c]
    zero_mul:=λa=>(mc _ _).trans (mz a),mul_zero:=mz,pow_zero:=λ_=>rfl,pow_succ:=λ_ _=>rfl
    ofNat_succ:=λa=>by
      match a with
      | 0=>exact((ac _ _).trans (az one)).symm
      | n+1=>rfl
    ofNat_eq_natCast:=λ_=>rfl,nsmul_eq_natCast_mul:=λ_ _=>rfl
    intCast:=⟨ic zero one add neg⟩,zsmul:=⟨λi a=>mul (ic zero one add neg i) a⟩
    neg_add_cancel:=na,sub_eq_add_neg:=λ_ _=>rfl
    neg_zsmul:=λi a=>by
      show mul (ic zero one add neg (-i)) a=neg (mul (ic zero one add neg i) a)
      rw[Xz,nm]
    zsmul_natCast_eq_nsmul:=λ_ _=>rfl,intCast_ofNat:=λ_=>rfl,intCast_neg:=Xz,mul_comm:=mc }
end mk
@[ext] structure aO (α:Type) where
 c:Nat->α
section ser
variable {α:Type} [CommRing α]
def tl (a:aO α):aO α:=⟨λi=>a.c (i+1)⟩
def QL (x:α)(a:aO α):aO α:=⟨λi=>x*a.c i⟩
def IE (a b:aO α):aO α:=⟨λi=>a.c i+b.c i⟩
def U6 (a:aO α):aO α:=⟨λi=>- a.c i⟩
def Fx:aO α:=⟨λ_=>0⟩
def cst (x:α):aO α:=⟨λi=>if i=0 then x else 0⟩
def cK (a b:aO α):Nat->α
 | 0=>a.c 0*b.c 0
 | k+1=>a.c 0*b.c (k+1)+cK (tl a) b k
def smul (a b:aO α):aO α:=⟨cK a b⟩
theorem rW (b:aO α):∀k,cK Fx b k=0
 | 0=>by show(0:α)*b.c 0=0;grind
 | k+1=>by
  have:=rW b k
  show(0:α)*b.c (k+1)+cK Fx b k=0
  grind
theorem nG (c:aO α):∀(k:Nat) (a b:aO α),cK (IE a b) c k=cK a c k+cK b c k
 | 0,a,b=>by show(a.c 0+b.c 0)*c.c 0=a.c 0*c.c 0+b.c 0*c.c 0;grind
 | k+1,a,b=>by
  have:=nG c k (tl a) (tl b)
  show(a.c 0+b.c 0)*c.c (k+1)+cK (IE (tl a) (tl b)) c k=(a.c 0*c.c (k+1)+cK (tl a) c k)+(b.c 0*c.c (k+1)+cK (tl b) c k)
  grind
theorem uO (x:α)(c:aO α):∀(k:Nat) (a:aO α),cK (QL x a) c k=x*cK a c k
 | 0,a=>by show(x*a.c 0)*c.c 0=x*(a.c 0*c.c 0);grind
 | k+1,a=>by
  have:=uO x c k (tl a)
  show(x*a.c 0)*c.c (k+1)+cK (QL x (tl a)) c k=x*(a.c 0*c.c (k+1)+cK (tl a) c k)
  grind
theorem BJ:∀(k:Nat) (a b:aO α),cK a b (k+1)=cK a (tl b) k+a.c (k+1)*b.c 0
 | 0,a,b=>rfl
 | k+1,a,b=>by
  have:=BJ k (tl a) b
  show a.c 0*b.c (k+2)+cK (tl a) b (k+1)=(a.c 0*b.c (k+2)+cK (tl a) (tl b) k)+a.c (k+2)*b.c 0
  have e:(tl a).c (k+1)=a.c (k+2):=rfl;grind
theorem oH:∀(k:Nat) (a b:aO α),cK a b k=cK b a k
 | 0,a,b=>by show a.c 0*b.c 0=b.c 0*a.c 0;grind
 | k+1,a,b=>by
  have:=oH k (tl a) b
  rw[BJ k b a];show a.c 0*b.c (k+1)+cK (tl a) b k=_
  grind
theorem Mh (a b:aO α):tl (smul a b)=IE (QL (a.c 0) (tl b)) (smul (tl a) b):=rfl
theorem BK (c:aO α):∀(k:Nat) (a b:aO α),cK (smul a b) c k=cK a (smul b c) k
 | 0,a,b=>by show(a.c 0*b.c 0)*c.c 0=a.c 0*(b.c 0*c.c 0);grind
 | k+1,a,b=>by
  have:=BK c k (tl a) b
  show(a.c 0*b.c 0)*c.c (k+1)+cK (tl (smul a b)) c k=a.c 0*(b.c 0*c.c (k+1)+cK (tl b) c k)+cK (tl a) (smul b c) k
  rw[Mh,nG,uO];show _+(_+cK (smul (tl a) b) c k)=_
  grind
theorem IF (x:α)(b:aO α):∀k,cK (cst x) b k=x*b.c k
 | 0=>rfl
 | k+1=>by
  have e:tl (cst x)=Fx:=by
   apply aO.ext;funext i;show(if i+1=0 then x else 0)=(0:α);rw[Jk (by omega)]
  show(if 0=0 then x else 0)*b.c (k+1)+cK (tl (cst x)) b k=x*b.c (k+1)
  rw[e,rW,Jl rfl];grind
instance:CommRing (aO α):=U5 Fx (cst 1) IE smul U6
 (λa=>by apply aO.ext;funext i;show a.c i+0=a.c i;grind) (λa b=>by apply aO.ext;funext i;show a.c i+b.c i=b.c i+a.c i;grind)
 (λa b c=>by apply aO.ext;funext i;show a.c i+b.c i+c.c i=a.c i+(b.c i+c.c i);grind) (λa b c=>by apply aO.ext;funext i;exact BK c i a b)
 (λa=>by apply aO.ext;funext i;show cK a (cst 1) i=a.c i;rw[oH,IF];grind)
 (λa b c=>by apply aO.ext;funext i;show cK a (IE b c) i=cK a b i+cK a c i;rw[oH,nG,oH _ b,oH _ c])
 (λa b=>by apply aO.ext;funext i;exact oH i a b) (λa=>by apply aO.ext;funext i;show-a.c i+a.c i=0;grind)
theorem rX (a b:aO α)(i:Nat):(a+b).c i=a.c i+b.c i:=rfl
theorem RX (a:aO α)(i:Nat):(-a).c i=- a.c i:=rfl
theorem Fy (a b:aO α)(i:Nat):(a-b).c i=a.c i-b.c i:=by
 show a.c i+- b.c i=_
 grind
theorem BL (i:Nat):(1:aO α).c i=if i=0 then 1 else 0:=rfl
theorem RY (a b:aO α)(i:Nat):(a*b).c i=cK a b i:=rfl
theorem cQ (x:α)(a:aO α)(i:Nat):(cst x*a).c i=x*a.c i:=IF x a i
end ser
end Alg
namespace Alg
open Lean.Grind
section
variable {α:Type} [CommRing α]
def Dg (a:aO α)(n:Nat):Prop:=∀i,n<=i->a.c i=0
def cO (a:aO α):Prop:=∃N,Dg a N
theorem Dg.mono {a:aO α}{m n:Nat}(h:Dg a m)(k:m<=n):Dg a n:=λi hi=>h i (by omega)
theorem Dg.add {a b:aO α}{n:Nat}(h:Dg a n)(k:Dg b n):Dg (a+b) n:=λi hi=>by rw[rX,h i hi,k i hi];grind
theorem Dg.neg {a:aO α}{n:Nat}(h:Dg a n):Dg (-a) n:=λi hi=>by rw[RX,h i hi];grind
theorem Dg.sub {a b:aO α}{n:Nat}(h:Dg a n)(k:Dg b n):Dg (a-b) n:=λi hi=>by rw[Fy,h i hi,k i hi];grind
theorem Dg.zero (n:Nat):Dg (0:aO α) n:=λi _=>rfl
theorem Dg.cst (x:α):Dg (cst x) 1:=λi hi=>by show(if i=0 then x else 0)=0;rw[Jk (by omega)]
theorem Dg.one:Dg (1:aO α) 1:=Dg.cst 1
theorem Dg.tl {a:aO α}{n:Nat}(h:Dg a (n+1)):Dg (tl a) n:=λi hi=>h (i+1) (by omega)
theorem Dg.Mi {a:aO α}(h:Dg a 0):a=0:=by
 apply aO.ext;funext i;exact h i (Y5 _)
theorem Pc {a:aO α}(h:Dg a 1):a=Alg.cst (a.c 0):=by
 apply aO.ext;funext i
 show a.c i=if i=0 then a.c 0 else 0
 by_cases e:i=0
 ·rw[Jl e,e]
 ·rw[Jk e];exact h i (by omega)
theorem lQ (b:aO α)(n:Nat)(hb:Dg b (n+1)):∀(m:Nat) (a:aO α),Dg a (m+1)->(a*b).c (m+n)=a.c m*b.c n/\Dg (a*b) (m+n+1)
 | 0,a,ha=>by
  rw[Pc ha];refine⟨by rw[Jf,cQ];rfl,λi hi=>?_⟩
  rw[cQ,hb i (by omega)];grind
 | m+1,a,ha=>by
  obtain⟨h1,h2⟩:=lQ b n hb m (tl a) ha.tl;have s:∀k,(a*b).c (k+1)=a.c 0*b.c (k+1)+(tl a*b).c k:=λk=>rfl
  refine⟨?_,λi hi=>?_⟩
  ·have e:m+1+n=(m+n)+1:=by omega
   rw[e,s,h1,hb _ (by omega)]
   show _+a.c (m+1)*_=_
   grind
  ·obtain⟨k,rfl⟩:∃k,i=k+1:=⟨i-1,by omega⟩
   rw[s,hb _ (by omega),h2 _ (by omega)];grind
theorem Dg.mul {a b:aO α}{m n:Nat}(ha:Dg a m)(hb:Dg b n):Dg (a*b) (m+n):=λi hi=>by
 obtain⟨h1,h2⟩:=lQ b n (hb.mono (by omega)) m a (ha.mono (by omega))
 by_cases e:i=m+n
 ·rw[e,h1,ha m (Yd _)];grind
 ·exact h2 i (by omega)
theorem cO.add {a b:aO α}:cO a->cO b->cO (a+b):=λ⟨m,h⟩ ⟨n,k⟩=>⟨m+n,(h.mono (by omega)).add (k.mono (by omega))⟩
theorem cO.sub {a b:aO α}:cO a->cO b->cO (a-b):=λ⟨m,h⟩ ⟨n,k⟩=>⟨m+n,(h.mono (by omega)).sub (k.mono (by omega))⟩
theorem cO.neg {a:aO α}:cO a->cO (-a):=λ⟨m,h⟩=>⟨m,h.neg⟩
theorem cO.mul {a b:aO α}:cO a->cO b->cO (a*b):=λ⟨m,h⟩ ⟨n,k⟩=>⟨m+n,h.mul k⟩
theorem cO.zero:cO (0:aO α):=⟨0,Dg.zero 0⟩
theorem cO.one:cO (1:aO α):=⟨1,Dg.one⟩
theorem cO.cst (x:α):cO (cst x):=⟨1,Dg.cst x⟩
theorem aH {β:Type}[CommRing β](x:β)(n:Nat):x ^ (n+1)=x ^ n*x:=Semiring.pow_succ x n
theorem aM {β:Type}[CommRing β](x:β):x ^ 0=1:=Semiring.pow_zero x
theorem eZ {β:Type}[CommRing β](x:β)(m:Nat):∀n,x ^ (m+n)=x ^ m*x ^ n
 | 0=>by rw[Nat.add_zero,aM];grind
 | n+1=>by rw[<- Nat.add_assoc,aH,eZ x m n,aH];grind
theorem IG {β:Type}[CommRing β]:∀n:Nat,(1:β) ^ n=1
 | 0=>aM _
 | n+1=>by rw[aH,IG n];grind
theorem lU {β:Type}[CommRing β](x y:β):∀n:Nat,(x*y) ^ n=x ^ n*y ^ n
 | 0=>by rw[aM,aM,aM];grind
 | n+1=>by rw[aH,lU x y n,aH,aH];grind
theorem qe {β:Type}[CommRing β](x:β)(m:Nat):∀n,x ^ (m*n)=(x ^ m) ^ n
 | 0=>by rw[Wn,aM,aM]
 | n+1=>by rw[Zw,eZ,qe x m n,aH]
theorem cO.pow {a:aO α}(h:cO a):∀n:Nat,cO (a ^ n)
 | 0=>by rw[aM];exact cO.one
 | n+1=>by rw[aH];exact(cO.pow h n).mul h
def mon (x:α)(k:Nat):aO α:=⟨λi=>if i=k then x else 0⟩
theorem jh (x:α)(b:aO α):∀k i,(mon x k*b).c i=if k<=i then x*b.c (i-k) else 0
 | 0,i=>by
  have e:mon x 0=cst x:=rfl;rw[e,cQ,Jl (Y5 _)];rfl
 | k+1,0=>by
  show(if 0=k+1 then x else 0)*b.c 0=_
  rw[Jk (by omega),Jk (by omega)];grind
 | k+1,i+1=>by
  have e:tl (mon x (k+1))=mon x k:=by
   apply aO.ext;funext j
   show(if j+1=k+1 then x else 0)=if j=k then x else 0
   by_cases h:j=k
   ·rw[Jl h,Jl (by omega)]
   ·rw[Jk h,Jk (by omega)]
  show(if 0=k+1 then x else 0)*b.c (i+1)+(tl (mon x (k+1))*b).c i=_
  rw[e,jh x b k i,Jk (by omega)]
  by_cases h:k<=i
  ·rw[Jl h,Jl (by omega)]
   have:i+1-(k+1)=i-k:=by omega
   rw[this];grind
  ·rw[Jk h,Jk (by omega)];grind
theorem Dg.mon (x:α)(k:Nat):Dg (mon x k) (k+1):=λi hi=>by show(if i=k then x else 0)=0;rw[Jk (by omega)]
structure b7 (f:aO α)(n:Nat):Prop where
 top:f.c n=1
 dg:Dg f (n+1)
theorem b7.jr {f:aO α}{n:Nat}(h:b7 f n):cO f:=⟨_,h.dg⟩
theorem II {f:aO α}{n:Nat}(hf:b7 f n):∀(N:Nat) (a:aO α),Dg a N->∃q,Dg q (N-n)/\Dg (a-q*f) n
 | 0,a,ha=>⟨0,Dg.zero _,by
   have:a-0*f=a:=by grind
   rw[this];exact ha.mono (Y5 _)⟩
 | N+1,a,ha=>by
  by_cases hn:N+1<=n
  ·refine⟨0,Dg.zero _,?_⟩
   have:a-0*f=a:=by grind
   rw[this];exact ha.mono hn
  ·have hd:Dg (a-Alg.mon (a.c N) (N-n)*f) N:=λi hi=>by
    rw[Fy,jh,Jl (by omega)]
    by_cases e:i=N
    ·have:N-(N-n)=n:=by omega
     rw[e,this,hf.top];grind
    ·rw[ha i (by omega),hf.dg _ (by omega)];grind
   obtain⟨q,h1,h2⟩:=II hf N _ hd;refine⟨q+Alg.mon (a.c N) (N-n),?_,?_⟩
   ·refine(h1.mono (by omega)).add ?_
    have:N+1-n=N-n+1:=by omega
    rw[this];exact Dg.mon _ _
   ·have:a-(q+Alg.mon (a.c N) (N-n))*f=a-Alg.mon (a.c N) (N-n)*f-q*f:=by grind
    rw[this];exact h2
theorem rY {f:aO α}{n:Nat}(hf:b7 f n):∀(M:Nat) (q:aO α),Dg q M->Dg (q*f) n->q=0
 | 0,q,h,_=>h.Mi
 | M+1,q,h,k=>by
  have e:=(lQ f n hf.dg M q h).1;rw[k _ (by omega),hf.top] at e
  refine rY hf M q (λi hi=>?_) k
  by_cases z:i=M
  ·rw[z];grind
  ·exact h i (by omega)
def Cg (f a b:aO α):Prop:=∃q,cO q/\a-b=q*f
theorem Cg.refl (f a:aO α):Cg f a a:=⟨0,cO.zero,by grind⟩
theorem Cg.symm {f a b:aO α}:Cg f a b->Cg f b a:=λ⟨q,h,e⟩=>⟨-q,h.neg,by grind⟩
theorem Cg.trans {f a b c:aO α}:Cg f a b->Cg f b c->Cg f a c:=λ⟨q,h,e⟩ ⟨r,k,g⟩=>⟨q+r,h.add k,by grind⟩
theorem Cg.add {f a b c d:aO α}:Cg f a b->Cg f c d->Cg f (a+c) (b+d):=λ⟨q,h,e⟩ ⟨r,k,g⟩=>⟨q+r,h.add k,by grind⟩
theorem Cg.sub {f a b c d:aO α}:Cg f a b->Cg f c d->Cg f (a-c) (b-d):=λ⟨q,h,e⟩ ⟨r,k,g⟩=>⟨q-r,h.sub k,by grind⟩
theorem Cg.mul {f a b c d:aO α}(pb:cO b)(pc:cO c):Cg f a b->Cg f c d->Cg f (a*c) (b*d):=λ⟨q,h,e⟩ ⟨r,k,g⟩=>⟨q*c+b*r,(h.mul pc).add (pb.mul k),by grind⟩
theorem Cg.uniq {f:aO α}{n:Nat}(hf:b7 f n){a b:aO α}(ha:Dg a n)(hb:Dg b n)(h:Cg f a b):a=b:=by
 obtain⟨q,⟨M,hq⟩,e⟩:=h;have z:=rY hf M q hq (by rw[<- e];exact ha.sub hb)
 rw[z] at e;grind
end
structure Md (α:Type)[CommRing α] where
 f:aO α
 n:Nat
 mon:b7 f n
 pos:0<n
section
variable {α:Type} [CommRing α]
@[ext] structure Qt (M:Md α) where
 s:aO α
 lt:Dg s M.n
theorem Fz (M:Md α)(a:aO α)(ha:cO a):∃r,Dg r M.n/\Cg M.f a r:=by
 obtain⟨N,h⟩:=ha;obtain⟨q,h1,h2⟩:=II M.mon N a h;exact⟨a-q*M.f,h2,q,⟨_,h1⟩,by grind⟩
open Classical in
noncomputable def rest (M:Md α)(a:aO α):aO α:=if h:∃r,Dg r M.n/\Cg M.f a r then h.choose else 0
theorem fj (M:Md α)(a:aO α):Dg (rest M a) M.n:=by
 unfold rest;split
 ·rename_i h;exact h.choose_spec.1
 ·exact Dg.zero _
theorem dH {M:Md α}{a:aO α}(ha:cO a):Cg M.f a (rest M a):=by
 unfold rest;rw[dif_pos (Fz M a ha)];exact(Fz M a ha).choose_spec.2
theorem rest_eq {M:Md α}{a r:aO α}(hr:Dg r M.n)(h:Cg M.f a r):rest M a=r:=by
 have ex:∃r,Dg r M.n/\Cg M.f a r:=⟨r,hr,h⟩;refine Cg.uniq M.mon (fj M a) hr (Cg.trans (Cg.symm ?_) h)
 unfold rest;rw[dif_pos ex];exact ex.choose_spec.2
theorem Qt.jr {M:Md α}(x:Qt M):cO x.s:=⟨_,x.lt⟩
noncomputable def Qt.of (M:Md α)(a:aO α):Qt M:=⟨rest M a,fj M a⟩
theorem IJ (M:Md α):Dg (1:aO α) M.n:=Dg.one.mono M.pos
noncomputable instance (M:Md α):CommRing (Qt M):=U5 ⟨0,Dg.zero _⟩ ⟨1,IJ M⟩ (λa b=>⟨a.s+b.s,a.lt.add b.lt⟩) (λa b=>Qt.of M (a.s*b.s)) (λa=>⟨-a.s,a.lt.neg⟩)
 (λa=>by apply Qt.ext;show a.s+0=a.s;grind) (λa b=>by apply Qt.ext;show a.s+b.s=b.s+a.s;grind) (λa b c=>by apply Qt.ext;show a.s+b.s+c.s=a.s+(b.s+c.s);grind)
 (λa b c=>by
  apply Qt.ext
  show rest M (rest M (a.s*b.s)*c.s)=rest M (a.s*rest M (b.s*c.s))
  refine rest_eq (fj _ _) ?_
  have h1:Cg M.f (rest M (a.s*b.s)*c.s) (a.s*b.s*c.s):=Cg.mul (a.jr.mul b.jr) c.jr (dH (a.jr.mul b.jr)).symm (Cg.refl _ _);have h2:Cg M.f (a.s*(b.s*c.s)) (a.s*rest M (b.s*c.s)):=Cg.mul a.jr (b.jr.mul c.jr) (Cg.refl _ _) (dH (b.jr.mul c.jr));have e:a.s*b.s*c.s=a.s*(b.s*c.s):=by grind
  rw[e] at h1;exact h1.trans (h2.trans (dH (a.jr.mul ⟨_,fj _ _⟩))))
 (λa=>by
  apply Qt.ext
  show rest M (a.s*1)=a.s
  refine rest_eq a.lt ?_
  have e:a.s*1=a.s:=by grind
  rw[e];exact Cg.refl _ _)
 (λa b c=>by
  apply Qt.ext
  show rest M (a.s*(b.s+c.s))=rest M (a.s*b.s)+rest M (a.s*c.s)
  refine rest_eq ((fj _ _).add (fj _ _)) ?_
  have e:a.s*(b.s+c.s)=a.s*b.s+a.s*c.s:=by grind
  rw[e];exact Cg.add (dH (a.jr.mul b.jr)) (dH (a.jr.mul c.jr)))
 (λa b=>by
  apply Qt.ext
  show rest M (a.s*b.s)=rest M (b.s*a.s)
  have e:a.s*b.s=b.s*a.s:=by grind
  rw[e])
 (λa=>by apply Qt.ext;show -a.s+a.s=0;grind)
theorem FA {M:Md α}(a b:Qt M):(a+b).s=a.s+b.s:=rfl
theorem RZ {M:Md α}(a:Qt M):(-a).s=-a.s:=rfl
theorem R1 {M:Md α}(a b:Qt M):(a-b).s=a.s-b.s:=by
 show a.s+-b.s=_
 grind
theorem BN {M:Md α}(a b:Qt M):(a*b).s=rest M (a.s*b.s):=rfl
theorem Pd {M:Md α}{a b:aO α}(ha:cO a)(hb:cO b):Qt.of M (a+b)=Qt.of M a+Qt.of M b:=by
 apply Qt.ext
 exact rest_eq ((fj _ _).add (fj _ _)) (Cg.add (dH ha) (dH hb))
theorem Pe {M:Md α}{a b:aO α}(ha:cO a)(hb:cO b):Qt.of M (a-b)=Qt.of M a-Qt.of M b:=by
 apply Qt.ext
 rw[R1];exact rest_eq ((fj _ _).sub (fj _ _)) (Cg.sub (dH ha) (dH hb))
theorem g_ {M:Md α}{a b:aO α}(ha:cO a)(hb:cO b):Qt.of M (a*b)=Qt.of M a*Qt.of M b:=by
 apply Qt.ext
 refine rest_eq (fj _ _) ?_
 exact(Cg.mul ⟨_,fj _ _⟩ hb (dH ha) (dH hb)).trans (dH (cO.mul ⟨_,fj _ _⟩ ⟨_,fj _ _⟩))
theorem Pf {M:Md α}:Qt.of M 1=1:=by
 apply Qt.ext
 exact rest_eq (IJ M) (Cg.refl _ _)
theorem Mj {M:Md α}:Qt.of M 0=0:=by
 apply Qt.ext
 exact rest_eq (Dg.zero _) (Cg.refl _ _)
theorem z7 {M:Md α}{a:aO α}(ha:cO a):∀n:Nat,Qt.of M (a ^ n)=Qt.of M a ^ n
 | 0=>by rw[aM,aM,Pf]
 | n+1=>by rw[aH,g_ (ha.pow n) ha,z7 ha n,aH]
theorem IK {M:Md α}(x:Qt M):Qt.of M x.s=x:=by
 apply Qt.ext
 exact rest_eq x.lt (Cg.refl _ _)
theorem GK {M:Md α}:Qt.of M M.f=0:=by
 apply Qt.ext
 refine rest_eq (Dg.zero _) ⟨1,cO.one,?_⟩
 show M.f-0=1*M.f
 grind
theorem DB {M:Md α}{a:aO α}(ha:cO a)(h:Qt.of M a=0):∃q,cO q/\a=q*M.f:=by
 have e:rest M a=0:=Jp Qt.s h;obtain⟨q,hq,g⟩:=dH (M:=M) ha;rw[e] at g;exact⟨q,hq,by grind⟩
end
end Alg
namespace Alg
open Lean.Grind
section
variable {α:Type} [CommRing α]
theorem z8 (x y:α):cst (x+y)=cst x+cst y:=by
 apply aO.ext;funext i
 show(if i=0 then x+y else 0)=(if i=0 then x else 0)+(if i=0 then y else 0)
 split <;> grind
theorem kN (x y:α):cst (x*y)=cst x*cst y:=by
 apply aO.ext;funext i
 rw[cQ];show(if i=0 then x*y else 0)=x*(if i=0 then y else 0)
 split <;> grind
theorem lV:cst (1:α)=1:=rfl
theorem iT:cst (0:α)=0:=by
 apply aO.ext;funext i
 show(if i=0 then (0:α) else 0)=0
 split <;> rfl
theorem FD (x:α):∀n:Nat,cst (x ^ n)=cst x ^ n
 | 0=>by rw[aM,aM];rfl
 | n+1=>by rw[aH,kN,FD x n,aH]
def X:aO α:=mon 1 1
theorem cO.X:cO (X:aO α):=⟨2,Dg.mon 1 1⟩
theorem split0 (a:aO α):a=cst (a.c 0)+X*tl a:=by
 apply aO.ext;funext i
 rw[rX];show _=_+(mon 1 1*tl a).c i
 rw[jh];show _=(if i=0 then a.c 0 else 0)+_
 by_cases h:i=0
 ·rw[Jl h,Jk (by omega),h];grind
 ·rw[Jk h,Jl (by omega)]
  show _=0+1*a.c (i-1+1)
  have:i-1+1=i:=by omega
  rw[this];grind
def ev:Nat->aO α->α->α
 | 0,_,_=>0
 | N+1,b,y=>b.c 0+y*ev N (tl b) y
theorem vB (y:α):∀(N:Nat) (a:aO α),Dg a 0->ev N a y=0
 | 0,_,_=>rfl
 | N+1,a,h=>by
  have e:=vB y N (tl a) (λi hi=>h (i+1) (Y5 _))
  show a.c 0+y*ev N (tl a) y=0
  rw[e,h 0 (Yd _)];grind
theorem tN (y:α):∀(N:Nat) (a b:aO α),ev N (a+b) y=ev N a y+ev N b y
 | 0,_,_=>by show(0:α)=0+0;grind
 | N+1,a,b=>by
  have e:=tN y N (tl a) (tl b);have t:tl (a+b)=tl a+tl b:=rfl;show(a.c 0+b.c 0)+y*ev N (tl (a+b)) y=(a.c 0+y*ev N (tl a) y)+(b.c 0+y*ev N (tl b) y)
  rw[t,e];grind
theorem DC (x y:α):∀(N:Nat) (a:aO α),ev N (cst x*a) y=x*ev N a y
 | 0,_=>by show(0:α)=x*0;grind
 | N+1,a=>by
  have t:tl (cst x*a)=cst x*tl a:=by
   apply aO.ext;funext i
   show(cst x*a).c (i+1)=_
   rw[cQ,cQ];rfl
  have e:=DC x y N (tl a);show(cst x*a).c 0+y*ev N (tl (cst x*a)) y=x*(a.c 0+y*ev N (tl a) y)
  rw[t,e,cQ];grind
theorem iG (y:α):∀(N M:Nat) (a:aO α),Dg a N->N<=M->ev M a y=ev N a y
 | 0,M,a,h,_=>vB y M a h
 | N+1,0,_,_,k=>by omega
 | N+1,M+1,a,h,k=>by
  show a.c 0+y*ev M (tl a) y=a.c 0+y*ev N (tl a) y
  rw[iG y N M (tl a) h.tl (by omega)]
theorem wN (y:α)(n:Nat)(b:aO α)(hb:Dg b n):∀(m:Nat) (a:aO α),Dg a m->ev (m+n) (a*b) y=ev m a y*ev n b y
 | 0,a,ha=>by
  have:a*b=0:=by rw[ha.Mi];grind
  rw[this,vB y _ _ (Dg.zero 0)];show(0:α)=0*_
  grind
 | m+1,a,ha=>by
  have e:=wN y n b hb m (tl a) ha.tl;have t:tl (a*b)=cst (a.c 0)*tl b+tl a*b:=by
   apply aO.ext;funext i
   rw[rX,cQ];rfl
  have s:ev (m+n+1) b y=ev n b y:=iG y n _ b hb (by omega)
  have q:m+1+n=(m+n)+1:=by omega
  rw[q];show a.c 0*b.c 0+y*ev (m+n) (tl (a*b)) y=(a.c 0+y*ev m (tl a) y)*ev n b y
  rw[t,tN,DC,e];have s2:ev n b y=b.c 0+y*ev (m+n) (tl b) y:=s.symm;rw[s2];grind
end
section
variable {α:Type} [CommRing α]
def Dom (α:Type)[CommRing α]:Prop:=∀x y:α,x*y=0->x=0\/y=0
def U7 (α:Type)[CommRing α]:Prop:=(1:α)≠0/\∀x:α,x≠0->∃y,x*y=1
theorem U7.dom (h:U7 α):Dom α:=λx y e=>by
 by_cases z:x=0
 ·exact .inl z
 ·obtain⟨u,hu⟩:=h.2 x z
  refine .inr ?_
  have:u*(x*y)=y:=by grind
  rw[e] at this;grind
def go (a:Nat):List Nat->List Nat
 | []=>[a]
 | c::l=>(a+c)::go c l
def row:Nat->List Nat
 | 0=>[1]
 | n+1=>go 0 (row n)
def nt (α:Type)[CommRing α]:Nat->α
 | 0=>0
 | n+1=>nt α n+1
theorem tO (a:Nat):∀b:Nat,nt α (a+b)=nt α a+nt α b
 | 0=>by show nt α a=nt α a+0;grind
 | b+1=>by
  have e:=tO a b;show nt α (a+b)+1=nt α a+(nt α b+1)
  rw[e];grind
theorem nH (a:Nat):∀b:Nat,nt α (a*b)=nt α a*nt α b
 | 0=>by show(0:α)=nt α a*0;grind
 | b+1=>by
  rw[Zw,tO,nH a b];show _=nt α a*(nt α b+1)
  grind
theorem Mk:nt α 0=0:=rfl
theorem nI:nt α 1=1:=by show(0:α)+1=1;grind
def hs (x y:α):List Nat->α
 | []=>0
 | c::l=>nt α c*y ^ l.length+x*hs x y l
theorem IL:∀(a:Nat) (l:List Nat),(go a l).length=l.length+1
 | _,[]=>rfl
 | _,c::l=>Jp (·+1) (IL c l)
theorem NI (x y:α):∀(a:Nat) (l:List Nat),hs x y (go a l)=nt α a*y ^ l.length+(x+y)*hs x y l
 | a,[]=>by
  show nt α a*y ^ 0+x*0=nt α a*y ^ 0+(x+y)*0
  grind
 | a,c::l=>by
  have e:=NI x y c l;show nt α (a+c)*y ^ (go c l).length+x*hs x y (go c l)=nt α a*y ^ (l.length+1)+(x+y)*(nt α c*y ^ l.length+x*hs x y l)
  rw[IL,e,tO,aH];grind
theorem IM (x y:α):∀n:Nat,(x+y) ^ n=hs x y (row n)
 | 0=>by
  show _=nt α 1*y ^ 0+x*0
  rw[aM,aM,nI];grind
 | n+1=>by
  show _=hs x y (go 0 (row n))
  rw[NI,aH,IM x y n,Mk];grind
def NJ (p:Nat):Bool:=(row p).head? == j? 1 && (row p).getLast? == j? 1 && ((row p).drop 1).dropLast.all (λc=>c % p == 0) && (row p).length == p+1 && decide (2<=p)
def PR:List Nat:=[2,3,5,7,11,13,17,19,23,29,31,37,41,43,47]
theorem Pg:∀p∈PR,NJ p=true:=by decide +kernel
end
end Alg
namespace Alg
open Lean.Grind
section
variable {α:Type} [CommRing α]
noncomputable def mp (M:Md α)(a:aO α):aO (Qt M):=⟨λi=>Qt.of M (cst (a.c i))⟩
theorem NK {M:Md α}:∀(N:Nat) (a:aO α),Dg a N->Qt.of M a=ev N (mp M a) (Qt.of M X)
 | 0,a,h=>by rw[h.Mi,Mj];rfl
 | N+1,a,h=>by
  have e:=NK (M:=M) N (tl a) h.tl;have hs:a=cst (a.c 0)+X*tl a:=split0 a;have e2:Qt.of M a=Qt.of M (cst (a.c 0))+Qt.of M X*Qt.of M (tl a):=by
   have h2:=Jp (Qt.of M) hs;rw[Pd (cO.cst _) (cO.X.mul ⟨_,h.tl⟩),g_ cO.X ⟨_,h.tl⟩] at h2;exact h2
  rw[e2,e];rfl
theorem vC {β:Type}[CommRing β]{q:Nat}(h:0<q):(0:β) ^ q=0:=by
 obtain⟨k,rfl⟩:∃k,q=k+1:=⟨q-1,by omega⟩
 rw[aH];grind
theorem Ml {s t:aO α}{n m:Nat}(ds:Dg s n)(dt:Dg t m):Dg (s*t) (if n=0\/m=0 then 0 else n+m-1):=by
 by_cases a:n=0
 ·subst a
  have:s*t=0:=by rw[ds.Mi];grind
  rw[this];exact Dg.zero _
 ·by_cases b:m=0
  ·subst b
   have:s*t=0:=by rw[dt.Mi];grind
   rw[this];exact Dg.zero _
  ·rw[Jk (by omega)]
   have:=(lQ t (m-1) (by rw[show m-1+1=m by omega];exact dt) (n-1) s (by rw[show n-1+1=n by omega];exact ds)).2
   exact this.mono (by omega)
end
end Alg
namespace Alg
open Lean.Grind
inductive El where
 | num (n:Int)
 | vec (l:List El)
inductive GL:Nat->El->Prop where
 | num {n:Nat} (i:Int):GL n (.num i)
 | vec {n:Nat} {l:List El}:l.length<=100->(∀e∈l,GL n e)->GL (n+1) (.vec l)
structure FE:Type 1 where
 α:Type
 ring:CommRing α
 p:Nat
 d:Nat
 pr:p∈PR
 fld:U7 α
 ch:nt α p=0
 fr:∀x:α,x ^ (p ^ d)=x
 enc:α->El
 inj:∀x y,enc x=enc y->x=y
 ht:Nat
 fl:∀x,GL ht (enc x)
instance FE.rg (T:FE):Lean.Grind.CommRing T.α:=T.ring
theorem bM {p:Nat}(h:p∈PR):2<=p/\p<50:=by
 revert p;decide
def IP (p:Nat)(x:Nat):Nat->Nat
 | 0=>1 % p
 | n+1=>IP p x n*x % p
theorem wO:∀p∈PR,∀x,x<p->x≠0->∃y,y<p/\x*y % p=1 % p:=by
 have h:(PR.all λp=>(Yk p).all λx=>x == 0 || (Yk p).any λy=>x*y % p == 1 % p)=true:=by decide +kernel
 intro p hp x hx x0;rw[Wi] at h;have h2:=h p hp;rw[Wi] at h2;have h3:=h2 x (List.mem_range.mpr hx);rw[Bool.or_eq_true] at h3;rcases h3 with z|z
 ·exact Jr (by simpa using z) x0
 ·rw[List.any_eq_true] at z
  obtain⟨y,h4,h5⟩:=z;exact⟨y,List.mem_range.mp h4,by simpa using h5⟩
theorem Ph:∀p∈PR,∀x,x<p->IP p x p=x:=by
 have h:(PR.all λp=>(Yk p).all λx=>IP p x p == x)=true:=by decide +kernel
 intro p hp x hx;rw[Wi] at h;have h2:=h p hp;rw[Wi] at h2;simpa using h2 x (List.mem_range.mpr hx)
@[ext] structure Zp (p:Nat) where
 v:Nat
 lt:v<p
def U8 {p:Nat}(h:0<p)(n:Nat):Zp p:=⟨n % p,Nat.mod_lt _ h⟩
@[reducible] def rZ {p:Nat} (h:2<=p):CommRing (Zp p):=U5 ⟨0,by omega⟩ ⟨1,by omega⟩ (λa b=>U8 (by omega) (a.v+b.v)) (λa b=>U8 (by omega) (a.v*b.v)) (λa=>U8 (by omega) (p-a.v))
 (λa=>by apply Zp.ext;show(a.v+0) % p=a.v;rw[Nat.add_zero];exact Z1 a.lt)
 (λa b=>by apply Zp.ext;show(a.v+b.v) % p=(b.v+a.v) % p;rw[Jd])
 (λa b c=>by apply Zp.ext;show((a.v+b.v) % p+c.v) % p=(a.v+(b.v+c.v) % p) % p;rw[Nat.mod_add_mod,Nat.add_mod_mod,Nat.add_assoc])
 (λa b c=>by apply Zp.ext;show((a.v*b.v) % p*c.v) % p=(a.v*((b.v*c.v) % p)) % p;rw[Nat.mod_mul_mod,Nat.mul_mod_mod,Z6])
 (λa=>by apply Zp.ext;show(a.v*1) % p=a.v;rw[Nat.mul_one];exact Z1 a.lt)
 (λa b c=>by apply Zp.ext;show(a.v*((b.v+c.v) % p)) % p=((a.v*b.v) % p+(a.v*c.v) % p) % p;rw[Nat.mul_mod_mod,Zi,Nat.mod_add_mod,Nat.add_mod_mod])
 (λa b=>by apply Zp.ext;show(a.v*b.v) % p=(b.v*a.v) % p;rw[Zk])
 (λa=>by
  apply Zp.ext
  show((p-a.v) % p+a.v) % p=0
  rw[Nat.mod_add_mod];have:=a.lt
  have e:p-a.v+a.v=p:=by omega
  rw[e,Nat.mod_self])
section
variable {p:Nat} (h:2<=p)
theorem IQ (x:Zp p):∀n:Nat,(letI:=rZ h;x ^ n:Zp p).v=IP p x.v n
 | 0=>by
  show 1=1 % p
  exact(Z1 (by omega)).symm
 | n+1=>by
  have e:=IQ x n;show((letI:=rZ h;x ^ n:Zp p).v*x.v) % p=IP p x.v n*x.v % p
  rw[e]
theorem IS:∀n:Nat,(letI:=rZ h;nt (Zp p) n:Zp p).v=n % p
 | 0=>(Nat.zero_mod p).symm
 | n+1=>by
  have e:=IS n;show((letI:=rZ h;nt (Zp p) n:Zp p).v+1) % p=(n+1) % p
  rw[e,Nat.mod_add_mod]
end
def ground (p:Nat)(hp:p∈PR):FE where
 α:=Zp p
 ring:=rZ (bM hp).1
 p:=p
 d:=1
 pr:=hp
 fld:=by
  letI:=rZ (bM hp).1
  have p2:=(bM hp).1;refine⟨λz=>?_,λx hx=>?_⟩
  ·have e:(1:Nat)=0:=Jp Zp.v z
   omega
  ·obtain⟨y,h1,h2⟩:=wO p hp x.v x.lt λz=>hx (Zp.ext z)
   refine⟨⟨y,h1⟩,Zp.ext ?_⟩
   show x.v*y % p=1
   rw[h2];exact Z1 (by omega)
 ch:=by
  letI:=rZ (bM hp).1
  apply Zp.ext
  rw[IS (bM hp).1,Nat.mod_self];rfl
 fr:=λx=>by
  letI:=rZ (bM hp).1
  apply Zp.ext
  rw[IQ (bM hp).1,Nat.pow_one];exact Ph p hp x.v x.lt
 enc:=λx=>.num x.v
 inj:=λx y e=>by
  apply Zp.ext
  injection e with e
  exact Int.ofNat.inj e
 ht:=0
 fl:=λx=>.num _
end Alg
namespace L2
open PySem PySem.Spec PyProof.Rows
def TQ (K:bX)(a b:o?):It:=
 ⟨λi H=>∃xs ys x y,aQ K H a xs/\aQ K H b ys/\xs[i]?=j? x/\ys[i]?=j? y,
  λi H v H'=>∃r x y,v=.ref r/\H r=q?/\(∀xs,aQ K H a xs->xs[i]?=j? x)/\(∀ys,aQ K H b ys->ys[i]?=j? y)/\H'=upd H r (.tup [x,y]),
  λi H=>∃xs ys,aQ K H a xs/\aQ K H b ys/\(xs.length<=i\/ys.length<=i)⟩
theorem IT {P:F?}{w:H?}{K:bX}{elts:List Expr}{k:Nat}{pos:Pos}(a b z TI TO i1 i2:o?)(D:ZipApart z TI TO i1 i2 a b):
  Turn P w K (.Tuple elts k pos) (TQ K a b) [z,TI,TO,i1,i2] z (λi h=>IsZip h z TI TO .none/\IsPair h TI (.ref i1) (.ref i2)/\(∃a b,IsPair h TO a b)/\h.IsListIter i1 a i/\h.IsListIter i2 b i) where
 mem:=by simp
 obj:=λi h x c hc=>by
  obtain⟨hz,hTI,⟨u,v,hTO⟩,⟨o1,h1,_,d1⟩,⟨o2,h2,_,d2⟩⟩:=x;simp only[Wz,Wc,or_false] at hc
  rcases hc with rfl|rfl|rfl|rfl|rfl
  ·exact⟨_,hz,λv z=>by have z':Data.fields _=Data.cell v:=z;cases z'⟩
  ·exact⟨_,hTI,λv z=>by have z':Data.seq _ _=Data.cell v:=z;cases z'⟩
  ·exact⟨_,hTO,λv z=>by have z':Data.seq _ _=Data.cell v:=z;cases z'⟩
  ·exact⟨o1,h1,λv z=>by rw[d1] at z;cases z⟩
  ·exact⟨o2,h2,λv z=>by rw[d2] at z;cases z⟩
 keep:=λi h h' x kk=>by
  obtain⟨hz,hTI,⟨u,v,hTO⟩,h1,h2⟩:=x;exact⟨kk z (by simp) _ hz,kk TI (by simp) _ hTI,⟨u,v,kk TO (by simp) _ hTO⟩,h1.at λo ho=>kk i1 (by simp) o ho,h2.at λo ho=>kk i2 (by simp) o ho⟩
 item:=by
  intro X hP hw hK hc i pins s σ H E I hf x hg;subst hP hw hK;obtain⟨xs,ys,vx,vy,QM,QN,hx,hy⟩:=hg;obtain⟨its,rv,p,_⟩:=I.list QM;obtain⟨XA,rw',p',_⟩:=I.list QN;obtain⟨ux,hux,rux⟩:=rv.get hx;obtain⟨uy,huy,ruy⟩:=rw'.get hy;obtain⟨hz,hTI,⟨u,v,hTO⟩,h1,h2⟩:=x;have hn0:H s.heap.objs.size=q?:=I.fresh;have hzl:z<s.heap.objs.size:=Yl hz;have aaE:TO<s.heap.objs.size:=Yl hTO;have aaF:TI<s.heap.objs.size:=Yl hTI;have h1l:i1<s.heap.objs.size:=by obtain⟨_,y,_⟩:=id h1;exact Yl y
  have h2l:i2<s.heap.objs.size:=by obtain⟨_,y,_⟩:=id h2;exact Yl y
  refine wpAny_pyNext_zip_item (x:=ux) (y:=uy) D hz hTI hTO h1 h2 p.isList p'.isList (by simpa using hux) (by simpa using huy) λh' a1 a2 a3 a4 a5 a6 a7=>?_
  refine⟨_,rfl,wpAny_letOwnedTupleGo_zip a1 λh3 b1 Mm=>?_⟩
  have hT2:h3.get? s.heap.objs.size=j? { cls:=.type "tuple",data:=.seq #[ux,uy] }:=(Mm.2 _ (Nat.ne_of_gt hzl)).trans a5;have I2:Inv X pins σ (upd H s.heap.objs.size (.tup [vx,vy])) { s with heap:=h3 }:=
   I.yR (t':=s.toks) (ch:=[z,TI,TO,i1,i2]) (λc o hc q=>(Mm.2 c λe=>hc (by simp[e])).trans (a7 c o (λe=>hc (by simp[e])) (λe=>hc (by simp[e])) (λe=>hc (by simp[e])) (λe=>hc (by simp[e])) q)) hf (Yd _)
    ⟨by show 2<=K?;rw[C?];omega,[ux,uy],.cons rux (.cons ruy .nil),_,hT2,rfl,0,rfl⟩
  refine⟨.ref s.heap.objs.size,_,I2,rfl,⟨_,vx,vy,rfl,hn0,λzs hzs=>by rw[I.qX hzs QM];exact hx,λzs hzs=>by rw[I.qX hzs QN];exact hy,rfl⟩,⟨b1,?_,⟨_,_,(Mm.2 TO D.TOz).trans a2⟩,?_,?_⟩,λc hc=>?_⟩
  ·exact(Mm.2 TI D.TIz).trans (a7 TI _ D.TIz D.TITO D.TIi1 D.TIi2 hTI)
  ·exact a3.at λo q=>(Mm.2 i1 D.i1z).trans q
  ·exact a4.at λo q=>(Mm.2 i2 D.i2z).trans q
  ·have hc0:=(hf c hc).1
   rw[aN ?_]
   ·exact hc0
   ·simp only[Wz,Wc,or_false] at hc
    rcases hc with rfl|rfl|rfl|rfl|rfl <;> exact Yw ‹_›
 done:=by
  intro X hP hw hK hc i pins s σ H E I hf x hg;subst hP hw hK;obtain⟨xs,ys,QM,QN,hle⟩:=hg;obtain⟨its,rv,p,_⟩:=I.list QM;obtain⟨XA,rw',p',_⟩:=I.list QN;obtain⟨hz,hTI,⟨u,v,hTO⟩,h1,h2⟩:=x;have l1:=rv.length;have l2:=rw'.length;refine wpAny_pyNext_zip_end (I.ok.hd hc) D hz hTI hTO h1 h2 p.isList p'.isList (by rcases hle with z|z;exact .inl (by simp;omega);exact .inr (by simp;omega)) λh' hk=>?_
  exact⟨rfl,I.zS (t':=s.toks) (ch:=[z,TI,TO,i1,i2]) (λc o hc q=>hk c o (λe=>hc (by simp[e])) (λe=>hc (by simp[e])) (λe=>hc (by simp[e])) (λe=>hc (by simp[e])) q) hf⟩
 self:=λ_ _ _ _ _ x h=>wpAny_pyIter_zip x.1 h
section
variable {X:Cx} {elts:List Expr} {k:Nat} {tpos:Pos}
def R3 (K:bX)(ta:TA):TI:=λσ H R=>ta σ H λvs H1=>∃a b,vs=[.ref a,.ref b]/\(∃xs,aQ K H1 a xs)/\(∃ys,aQ K H1 b ys)/\R (TQ K a b) H1
theorem boot_zip:H! "zip"=j? (.type "zip"):=by decide +kernel
theorem Pj {l m:Expr}{ta:TA}{p pos:Pos}(hg:Gl X "zip")(hm:X.mg "zip"=q?)(ha:PA X [l,m] ta)(hs:I? [l,m] X.env=(false,eval l X.env)::I? [m] X.env:=by rfl)(ht:((backTo pos (I? [m] X.env)).any λx=>x.1)=false:=by rfl):
  PI X (.Tuple elts k tpos) (.Call (.Name "zip" p) [l,m] [] pos) (R3 X.K ta):=by
 intro pins s σ H R I h;refine Call_ (j4 I hg hm boot_zip (L! (eY (ha pos pins s σ H _ I h) λus s1 ⟨vs,H1,I1,r1,q1⟩=>?_) hs ht))
 obtain⟨a,b,e,⟨xs,QM⟩,⟨ys,QN⟩,q⟩:=q1;subst e;obtain⟨u1,u2,rfl,x1,x2⟩:=vals2 r1;cases (show u1=I! a from x1)
 cases (show u2=I! b from x2)
 obtain⟨its,rv,pl,_⟩:=I1.list QM;obtain⟨XA,rw',XC,_⟩:=I1.list QN;have hla:a<s1.heap.objs.size:=by obtain⟨_,y,_⟩:=pl.isList;exact Yl y
 have hlb:b<s1.heap.objs.size:=by obtain⟨_,y,_⟩:=XC.isList;exact Yl y
 refine call_zip_2 pl.isList XC.isList λh' hz hTI hTO h1 h2 hsz hk=>?_
 refine wpAny_pyIter_zip hz ?_
 have I2:Inv X pins σ H1 { s1 with heap:=h' }:=I1.kept (t':=s1.toks) hk
 refine⟨_,[s1.heap.objs.size+4,s1.heap.objs.size+2,s1.heap.objs.size+3,s1.heap.objs.size,s1.heap.objs.size+1],_,_,H1,rfl,I2,IT a b (s1.heap.objs.size+4) (s1.heap.objs.size+2) (s1.heap.objs.size+3) s1.heap.objs.size (s1.heap.objs.size+1) ?_,⟨hz,hTI,⟨_,_,hTO⟩,h1,h2⟩,λc hc=>?_,q⟩
 ·generalize s1.heap.objs.size=n at*
  constructor <;> (simp only[o?] at *;omega)
 ·have hge:s1.heap.objs.size<=c:=by
   simp only[Wz,Wc,or_false] at hc
   rcases hc with rfl|rfl|rfl|rfl|rfl
   ·exact Wj _ _
   ·exact Wj _ _
   ·exact Wj _ _
   ·exact Yd _
   ·exact Wj _ _
  exact I1.vS hge (I1.hok.fresh hge)
theorem vD {K:bX}{l m:Expr}{ta:TA}{p pos:Pos}(hK:X.K=K)(hg:Gl X "zip")(hm:X.mg "zip"=q?)(ha:PA X [l,m] ta)(hs:I? [l,m] X.env=(false,eval l X.env)::I? [m] X.env:=by rfl)(ht:((backTo pos (I? [m] X.env)).any λx=>x.1)=false:=by rfl):
  PI X (.Tuple elts k tpos) (.Call (.Name "zip" p) [l,m] [] pos) (R3 K ta):=by subst hK;exact Pj hg hm ha hs ht
end
theorem BO {K:bX}{a b D:o?}{xs ys:List V}{st:St}{g:TG}{o_:TT}{te:TE}{H1:Hp}{Q:VK}(Pv:Nat->List V->Hp->Prop)(hle:xs.length=ys.length)(h0:Pv 0 [] (upd H1 D (.lst [])))
  (hl:∀i zs H2,H2 D=j? (.lst zs)->Pv i zs H2->aQ K H2 a xs/\aQ K H2 b ys)
  (hs:∀i m x y zs H2 r,m=xs.length-i->i<xs.length->xs[i]?=j? x->ys[i]?=j? y->H2 D=j? (.lst zs)->zs.length<=i->Pv i zs H2->H2 r=q?->g (.ref r) st (upd H2 r (.tup [x,y])) λσ3 H3=>o_ σ3 H3 λbb H4=>
   if bb=true then te σ3 H4 λy H5=>∃ys,H5 D=j? (.lst ys)/\ys.length<K?/\∃m',m'<m/\CW xs.length D Pv (i+1) m' (upd H5 D (.lst (ys++[y]))) else ∃m',m'<m/\CW xs.length D Pv (i+1) m' H4)
  (hd:∀zs H2,H2 D=j? (.lst zs)->Pv xs.length zs H2->Q (.ref D) H2):
  uJ (TQ K a b) D st g o_ te Q H1:=by
 refine⟨CW xs.length D Pv,⟨xs.length,by simp,Y5 _,[],av,Yd _,h0⟩,?_⟩
 rintro i m H2 ⟨hm,hi,zs,hz,hlen,p⟩;obtain⟨q1,q2⟩:=hl i zs H2 hz p;by_cases hlt:i<xs.length
 ·have Pk:i<ys.length:=by omega
  refine .inr ⟨⟨xs,ys,xs[i],ys[i],q1,q2,by simp[hlt],by simp[Pk]⟩,λv H' y=>?_⟩
  obtain⟨r,x,y',e1,hr,hx,hy,e2⟩:=y;subst e1 e2;exact hs i m x y' zs _ r hm hlt (hx xs q1) (hy ys q2) hz hlen p hr
 ·have e:i=xs.length:=by omega
  subst e;exact .inl ⟨⟨xs,ys,q1,q2,.inl (Yd _)⟩,hd zs H2 hz p⟩
end L2
namespace L2
open PySem PySem.Spec PyProof.Rows Alg
inductive Rep (H:Hp)(ok:o?->Prop):V->El->Prop where
 | num (n:Int):Rep H ok (.int n) (.num n)
 | vec {a:o?} {vs:List V} {l:List El} (h:H a=j? (.lst vs)) (k:ok a) (hl:vs.length=l.length) (r:∀(i:Nat) x e,vs[i]?=j? x->l[i]?=j? e->Rep H ok x e):Rep H ok (.ref a) (.vec l)
theorem Rep.imp {H H':Hp}{ok ok':o?->Prop}(f:∀b o,H b=j? o->ok b->H' b=j? o/\ok' b){v:V}{e:El}(R:Rep H ok v e):Rep H' ok' v e:=by
 induction R with
 | num n=>exact .num n
 | vec h k hl _ ih=>exact .vec (f _ _ h k).1 (f _ _ h k).2 hl ih
abbrev Any:o?->Prop:=λ_=>True
abbrev eK (H:Hp):o?->Prop:=λb=>H b=q?
theorem Rep.same {H H':Hp}{ok:o?->Prop}{v:V}{e:El}(R:Rep H ok v e)(g:aI H H'):Rep H' ok v e:=R.imp λb o h k=>⟨g b o h,k⟩
theorem Rep.any {H:Hp}{ok:o?->Prop}{v:V}{e:El}(R:Rep H ok v e):Rep H Any v e:=R.imp λb o h k=>⟨h,trivial⟩
theorem Rep.older {H H0 H1:Hp}{v:V}{e:El}(R:Rep H (eK H1) v e)(g:aI H0 H1):Rep H (eK H0) v e:=R.imp λb o h k=>⟨h,g.free k⟩
mutual
def toD:El->N!
 | .num n=>.int n
 | .vec l=>.list (pH l)
def pH:List El->List N!
 | []=>[]
 | e::l=>toD e::pH l
end
theorem wQ:∀l:List El,pH l=l.map toD
 | []=>rfl
 | e::l=>by show toD e::pH l=_;rw[wQ l];rfl
mutual
theorem z9:∀ {a b:El},toD a=toD b->a=b
 | .num n,.num m,h=>by
  have:PyData.int n=PyData.int m:=h
  injection this with e;rw[e]
 | .num n,.vec l,h=>by
  have:PyData.int n=PyData.list (pH l):=h
  cases this
 | .vec l,.num n,h=>by
  have:PyData.list (pH l)=PyData.int n:=h
  cases this
 | .vec l,.vec k,h=>by
  have:PyData.list (pH l)=PyData.list (pH k):=h
  injection this with e;rw[BP e]
theorem BP:∀ {a b:List El},pH a=pH b->a=b
 | [],[],_=>rfl
 | [],e::l,h=>by
  have:([]:List N!)=toD e::pH l:=h
  cases this
 | e::l,[],h=>by
  have:toD e::pH l=[]:=h
  cases this
 | e::l,f::k,h=>by
  have:toD e::pH l=toD f::pH k:=h
  injection this with h1 h2
  rw[z9 h1,BP h2]
end
theorem nK {n:Nat}{e:El}(h:GL n e):Fl n (toD e):=by
 induction h with
 | num i=>exact .int i
 | @vec n l _ _ ih=>
  show Fl (n+1) (.list (pH l))
  rw[wQ];exact .lst λd hd=>by
   obtain⟨e,he,rfl⟩:=List.mem_map.mp hd;exact ih e he
theorem Rep.den {K:bX}{H:Hp}{ok:o?->Prop}{v:V}{e:El}(R:Rep H ok v e):Den K H v (toD e):=by
 induction R with
 | num n=>exact .int n
 | @vec a vs l h k hl r ih=>
  show Den K H (.ref a) (.list (pH l))
  rw[wQ];refine .lst (aQ.of h) (by rw[Ya];exact hl) λi x d h1 h2=>?_
  rw[Ye] at h2;cases e:l[i]? with
  | none=>rw[e] at h2;cases h2
  | some y=>
   rw[e] at h2;cases h2;exact ih i x y h1 e
theorem NL {K:bX}{H:Hp}{o1 o2:o?->Prop}{u v:V}{a b:El}{n m:Nat}{Q:VK}(R:Rep H o1 u a)(S:Rep H o2 v b)(f:GL n a)(g:GL m b)(hn:n<=64)(hm:m<=64)
  (q1:a=b->Q (.bl true) H) (q2:a≠b->Q (.bl false) H):zO K false u v H Q:=by
 refine⟨toD a,toD b,R.den,S.den,(nK f).shaped hn,(nK g).shaped hm,?_⟩
 show Q (.bl (E! (toD a) (toD b))) H
 rw[vq (nK f) (nK g)];by_cases h:a=b
 ·rw[Jm (Jp toD h)];exact q1 h
 ·rw[Jo λz=>h (z9 z)];exact q2 h
theorem R4 {K:bX}{H:Hp}{o1 o2:o?->Prop}{u v:V}{a b:El}{n m:Nat}{Q:VK}(R:Rep H o1 u a)(S:Rep H o2 v b)(f:GL n a)(g:GL m b)(hn:n<=64)(hm:m<=64)
  (q1:a=b->Q (.bl false) H) (q2:a≠b->Q (.bl true) H):zO K true u v H Q:=by
 refine⟨toD a,toD b,R.den,S.den,(nK f).shaped hn,(nK g).shaped hm,?_⟩
 show Q (.bl (!E! (toD a) (toD b))) H
 rw[vq (nK f) (nK g)];by_cases h:a=b
 ·rw[Jm (Jp toD h)];exact q1 h
 ·rw[Jo λz=>h (z9 z)];exact q2 h
end L2
namespace L2
open PySem
section
variable {K:bX} {mg:Str->Option l?} {x qual:Str} {st:Q?} {ps:List Str} {C:o?}
def U9 (K:bX)(x qual:Str)(st:Q?)(f:o?):Prop:=∃(oc:l?) (od an:Option o?) (osl:Array (Option l?)) (kV doc pm cdv ct:l?),K.lookup f=j? ⟨oc,od,.func (W? x qual (dF st) (cE st) (aq st) .none kV doc pm an cdv ct),osl⟩/\PySem.W.codeIn K cdv qual=true/\PySem.W.keepIn K (.ref f)=true
def cR (K:bX)(x:Str)(st:Q?):Prop:=∃f,N? K G? x=j? (j? (.ref f))/\U9 K x x st f
def IU (x qual:Str)(st:Q?)(ps:List Str):Prop:=∀(kV doc pm:l?) (an:Option o?) (cdv ct:l?) (us:List l?),us.length=ps.length->bindArgs (W? x qual (dF st) (cE st) (aq st) .none kV doc pm an cdv ct) ⟨us,[]⟩=pure (ps.zip us)
theorem R5 {f:o?}{oc:l?}{od an:Option o?}{osl:Array (Option l?)}{kV doc pm cdv ct:l?}(a:N? K G? x=j? (j? (.ref f)))(l:K.lookup f=j? ⟨oc,od,.func (W? x x (dF st) (cE st) (aq st) .none kV doc pm an cdv ct),osl⟩)(c:P! K cdv x=true)(k:C! K (.ref f)=true):cR K x st:=
 ⟨f,a,oc,od,an,osl,kV,doc,pm,cdv,ct,l,c,k⟩
theorem aZ {h:O?}(X:K.In h)(G:h.Ns G? mg)(g:cR K x st)(hb:IU x x st ps):Src K mg x st ps:=by
 obtain⟨f,a,oc,od,an,osl,kV,doc,pm,cdv,ct,l,c,k⟩:=g;exact OW X G a l c k hb
theorem iH {us:List l?}{n:Nat}(h:us.length=n+1):∃x t,us=x::t/\t.length=n:=by
 cases us with
 | nil=>simp at h
 | cons x t=>exact⟨x,t,rfl,by simpa using h⟩
theorem bd1 {a0:Str}(h:∀(kV doc pm:l?) (an:Option o?) (cdv ct:l?) (u0:l?),bindArgs (W? x qual (dF st) (cE st) (aq st) .none kV doc pm an cdv ct) ⟨[u0],[]⟩=pure ([(a0,u0)])):IU x qual st [a0]:=by
 intro a b c d e f us hl;obtain⟨u0,t0,rfl,h0⟩:=iH hl;obtain rfl:=Wq h0
 exact h a b c d e f u0
theorem bd2 {a0 a1:Str}(h:∀(kV doc pm:l?) (an:Option o?) (cdv ct:l?) (u0 u1:l?),bindArgs (W? x qual (dF st) (cE st) (aq st) .none kV doc pm an cdv ct) ⟨[u0,u1],[]⟩=pure ([(a0,u0),(a1,u1)])):IU x qual st [a0,a1]:=by
 intro a b c d e f us hl;obtain⟨u0,t0,rfl,h0⟩:=iH hl;obtain⟨u1,t1,rfl,h1⟩:=iH h0;obtain rfl:=Wq h1
 exact h a b c d e f u0 u1
theorem bd3 {a0 a1 a2:Str}(h:∀(kV doc pm:l?) (an:Option o?) (cdv ct:l?) (u0 u1 u2:l?),bindArgs (W? x qual (dF st) (cE st) (aq st) .none kV doc pm an cdv ct) ⟨[u0,u1,u2],[]⟩=pure ([(a0,u0),(a1,u1),(a2,u2)])):IU x qual st [a0,a1,a2]:=by
 intro a b c d e f us hl;obtain⟨u0,t0,rfl,h0⟩:=iH hl;obtain⟨u1,t1,rfl,h1⟩:=iH h0;obtain⟨u2,t2,rfl,h2⟩:=iH h1;obtain rfl:=Wq h2
 exact h a b c d e f u0 u1 u2
theorem bd4 {a0 a1 a2 a3:Str}(h:∀(kV doc pm:l?) (an:Option o?) (cdv ct:l?) (u0 u1 u2 u3:l?),bindArgs (W? x qual (dF st) (cE st) (aq st) .none kV doc pm an cdv ct) ⟨[u0,u1,u2,u3],[]⟩=pure ([(a0,u0),(a1,u1),(a2,u2),(a3,u3)])):IU x qual st [a0,a1,a2,a3]:=by
 intro a b c d e f us hl;obtain⟨u0,t0,rfl,h0⟩:=iH hl;obtain⟨u1,t1,rfl,h1⟩:=iH h0;obtain⟨u2,t2,rfl,h2⟩:=iH h1;obtain⟨u3,t3,rfl,h3⟩:=iH h2;obtain rfl:=Wq h3
 exact h a b c d e f u0 u1 u2 u3
end
end L2
namespace L2
open PySem PySem.Spec PyProof.Rows
end L2
namespace L2
open PySem PySem.Spec PySem.W PyProof.Rows
def DE (f c':o?)(qual:Str)(params:Arguments)(body:Expr)(scope:Scope)(cl:List (Str×o?)):O?->Prop:=λh=>∃pm ctv,h.get? f=j? (kla_obj "<lambda>" qual params body scope cl pm c' ctv)
def GN (c':o?)(qual:Str):O?->Prop:=λh=>∃oc vs t,h.get? c'=j? oc/\oc.data=.fields vs/\vs[1]?=j? (.str qual t)
def pI (H:Hp)(P f c':o?)(ps:Array l?)(pos:Pos)(qual:Str)(params:Arguments)(body:Expr)(scope:Scope)(cl:List (Str×o?)):Hp:=
 upd (upd (upd H P (.vO (ps++#[rawInt pos.line,rawInt pos.col,.ref c']))) c' (.ext (GN c' qual))) f (.ext (DE f c' qual params body scope cl))
def U_ (P:o?)(pos:Pos)(qual:Str)(params:Arguments)(body:Expr)(scope:Scope)(cl:List (Str×o?)):TE:=λ_ H Q=>∃ps:Array l?,H P=j? (.vO ps)/\TriplesOk ps.toList/\codeAmong pos ps.toList=q?/\
 ∀f c',H f=q?->H c'=q?->f≠c'->Q (.ref f) (pI H P f c' ps pos qual params body scope cl)
def BMain (mg:Str->Option l?)(base:O?):Prop:=∃(bm:o?) (ob:Obj),mg "__builtins__"=j? (.ref bm)/\bm≠builtinsNs/\base.get? bm=j? ob/\ob.cls=.type "module"/\ob.dict=j? builtinsNs/\ob.data=.plain
section
variable {X:Cx}
theorem Pn {c P:o?}{params:Arguments}{body:Expr}{scope:Scope}{pos:Pos}(hb:BMain X.mg X.base)(hc:X.env.code=.ref c)(hk:codeHdIn X.K c P=true)(hcl:∀y∈scope.names,y.2=.free->∃c,X.env.cells.lookup y.1=j? c)(hdef:defaultsOf params X.env=([],[]):=by rfl):
  PE X (.Lambda params body scope pos) (U_ P pos (X.env.qual++"<lambda>") params body scope (aR X.env.cells scope.names [])):=by
 refine⟨?_⟩
 intro pins s σ H Q I h;obtain⟨ps,hP,ht,hn,q⟩:=h;have eP:s.heap.get? P=j? (tabObj ps):=I.hok P _ hP;have hgs:=I.mod.glob.keeps I.bk;have hgP:G?≠P:=λz=>by
  obtain⟨o,es,ep,e,hd,_⟩:=hgs;rw[z,eP] at e;cases e;cases hd
 obtain⟨bm,ob,b1,b2,b3,b4,b5,b6⟩:=hb;have IV:=I.bk _ _ b3;have Va:bm≠P:=λz=>by rw[z,eP] at IV;cases IV;cases b4
 have Vb:bm≠G?:=λz=>by
  obtain⟨o,es,ep,e,hd,_⟩:=hgs;rw[z,e] at IV;cases IV;rw[hd] at b6;cases b6
 refine kla_eval hdef (kla_makeFunction (mg:=X.mg) (iE hcl) I.ok.glob hgs hc (codeHd_of_K I.EW hk) eP ht hn hgP ⟨bm,ob,b1,b2,Vb,Va,IV,b4,b5,b6⟩ λc' ctv h' tk hx hge hlt hrec htb=>?_)
 have XD:P<s.heap.objs.size:=Yl eP;have Ve:c'≠P:=λz=>Jr (Yj XD hge) (by rw[z];exact We _)
 have hfc:h'.objs.size≠c':=Ne.symm (Yw hlt);have hsz:s.heap.objs.size<=h'.objs.size:=Ym hge (W9 hlt);have Vf:h'.objs.size≠P:=Ne.symm (Yw (Yj XD hsz));have nf:H h'.objs.size=q?:=I.hok.fresh hsz;have nc:H c'=q?:=I.hok.fresh hge;refine⟨.ref h'.objs.size,_,?_,rfl,q h'.objs.size c' nf nc hfc⟩
 generalize hO:kla_obj "<lambda>" (X.env.qual++"<lambda>") params body scope (aR X.env.cells scope.names []) ((X.mg "__name__").getD .none) c' ctv=O;have kp:∀b o,b≠P->s.heap.get? b=j? o->(h'.push O).get? b=j? o:=λb o hb e=>Yh _ (hx b o hb e)
 have ne:∀b o,H b=j? o->b≠P->pI H P h'.objs.size c' ps pos (X.env.qual++"<lambda>") params body scope (aR X.env.cells scope.names []) b=j? o:=λb o e hb=>by
  unfold pI;rw[aN (bG e nf),aN (bG e nc),aN hb];exact e
 have XE:pI H P h'.objs.size c' ps pos (X.env.qual++"<lambda>") params body scope (aR X.env.cells scope.names []) P=j? (.vO (ps++#[rawInt pos.line,rawInt pos.col,.ref c'])):=by
  unfold pI;rw[aN (Ne.symm Vf),aN (Ne.symm Ve),av]
 refine I.un ⟨λb o e n hb _=>?_,λb o e n hb _=>?_,λb o e n _=>?_,λb o e _=>?_,λb xs e=>?_,λb o u e=>?_,λb qs e=>?_⟩ λb o e=>?_
 ·exact kp b o (λz=>by rw[z,hP] at n;cases n) e
 ·exact⟨o.slots,kp b o (λz=>by rw[z,hP] at n;cases n) e⟩
 ·have hlb:=Yl e
  unfold pI;rw[aN (Yw (Yj hlb hsz)),aN (Yw (Yj hlb hge)),aN (λz=>by rw[z,hP] at n;cases n)]
  exact n
 ·by_cases z:b=P
  ·rw[z];exact⟨_,Yh _ htb⟩
  ·exact⟨o,kp b o z e⟩
 ·exact ne b _ e λz=>by rw[z,hP] at e;cases e
 ·exact ne b _ e λz=>by rw[z,hP] at e;cases e
 ·by_cases z:b=P
  ·rw[z,hP] at e;cases e
   exact⟨_,by rw[z];exact XE⟩
  ·exact⟨#[],by rw[ne b _ e z];simp⟩
 ·by_cases zf:b=h'.objs.size
  ·subst zf
   have e':j? (HO.ext (DE h'.objs.size c' (X.env.qual++"<lambda>") params body scope (aR X.env.cells scope.names [])))=j? o:=by rw[<- e];exact av.symm
   cases e';have g:(h'.push O).get? h'.objs.size=j? O:=Y9 _ (by rw[<- hO];rfl)
   refine⟨⟨_,_,by rw[hO];exact g⟩,⟨_,g⟩,λh1 h2 z k=>?_⟩
   obtain⟨pm,cv,z⟩:=z;exact⟨pm,cv,k _ z⟩
  ·by_cases zc:b=c'
   ·subst zc
    have e':j? (HO.ext (GN b (X.env.qual++"<lambda>")))=j? o:=by
     rw[<- e];unfold pI;rw[aN zf,av]
    cases e';obtain⟨c2,oc,vs,t,ec,g1,g2,g3⟩:=hrec;cases ec;refine⟨⟨oc,vs,t,Yh _ g1,g2,g3⟩,⟨_,Yh _ g1⟩,λh1 h2 z k=>?_⟩
    obtain⟨o1,v1,t1,z1,z2,z3⟩:=z;exact⟨o1,v1,t1,k _ z1,z2,z3⟩
   ·by_cases zP:b=P
    ·subst zP
     rw[XE] at e;cases e;exact Yh _ htb
    ·have e':H b=j? o:=by
      rw[<- e];unfold pI;rw[aN zf,aN zc,aN zP]
     refine(I.hok b o e').stay (λd u hd hu=>kp d u (λz=>?_) hu) (λd hd=>ne d _ hd λz=>by rw[z,hP] at hd;cases hd) λd xs hd=>ne d _ hd λz=>by rw[z,hP] at hd;cases hd
     rcases hd with y|y
     ·exact zP (y.symm.trans z)
     ·rw[z,hP] at y;cases y
end
structure lW (h:O?)(H:Hp)(outer:List Env)(cl:List (Str×o?))(N:List Str)(vals:List V):Prop where
 inj:∀x y c,cl.lookup x=j? c->cl.lookup y=j? c->x=y
 cell:∀x c,cl.lookup x=j? c->(∃v,h.IsCell c v)/\H c=q?/\c ∉ frs outer
 val:∀(i:Nat) x v,N[i]?=j? x->vals[i]?=j? v->∃c u,cl.lookup x=j? c/\h.IsCell c (j? u)/\RelV v u
 len:vals.length=N.length
def FF (P:F?)(w:H?)(K:bX)(mg:Str->Option l?)(base:O?)(N:List Str)(qual:Str)(scope:Scope)(f c':o?)(cl:List (Str×o?))(A:A!)(outer:List Env)(s:u?)(H:Hp):Cx where
 prog:=P
 w:=w
 K:=K
 mg:=mg
 base:=base
 A:=A.deeper (envX qual scope s.heap.objs.size f (.ref c') cl)
 N:=N
 s₀:=s
 H₀:=H
 env:=envX qual scope s.heap.objs.size f (.ref c') cl
 outer:=outer
 stack:=envX qual scope s.heap.objs.size f (.ref c') cl::outer
 ex:=[]
 fn:=λ_=>false
 calm:=true
 pn:=[]
 xe:=λ_ _=>False
section
variable {X:Cx} {pins:List (o?×Obj)} {σ:St} {H1:Hp} {s1:u?}
theorem lW.made {scope:Scope}{N:List Str}{vals:List V}(I:Inv X pins σ H1 s1)(hfn:∀x,X.fn x=true)(hst:X.stack=X.env::X.outer/\X.env.frame=j? X.env.locals)(hfr:∀x∈N,X.env.kindOf x=j? .cell/\(x,Z?)∈scope.names)
  (hv:∀(j:Nat) x v,N[j]?=j? x->vals[j]?=j? v->∃i:Nat,X.N[i]?=j? x/\σ[i]?=j? (j? v)) (hl:vals.length=N.length):lW s1.heap H1 X.stack (aR X.env.cells scope.names []) N vals:=by
 have back:∀x c,(aR X.env.cells scope.names []).lookup x=j? c->X.env.cells.lookup x=j? c:=λx c e=>j5 scope.names [] (λd z=>by simp at z) e
 refine⟨λx y c e1 e2=>I.ok.inj x y c (back x c e1) (back y c e2),λx c e=>?_,λi x v e1 e2=>?_,hl⟩
 ·obtain⟨v,ic⟩:=I.cell x c (back x c e)
  refine⟨⟨v,ic⟩,I.jd x c (back x c e),λhm=>?_⟩
  rcases List.mem_cons.mp (I.vP c hm) with z|z
  ·exact I.Ni x c (back x c e) z
  ·obtain⟨_,o,ho,_⟩:=I.ok.oZ.mem z
   have:=Yj (Yl ho) (I.ok.Nh x c (hfn x) (back x c e))
   exact Jr this (We _)
 ·obtain⟨hk,hm⟩:=hfr x (Yy e1)
  obtain⟨j,hj,hs⟩:=hv i x v e1 e2;obtain⟨m,_,hloc⟩:=I.loc;obtain⟨u,r,lk⟩:=hloc j x v hj hs (.inr (.inl hk));rcases lk with ⟨z,_⟩|⟨_,c,hc,ic⟩
  ·rw[hk] at z;cases z
  ·exact⟨c,u,gk hc scope.names [] (.inr hm) (λd z=>by simp at z),ic,r⟩
end
end L2
namespace L2
open PySem Alg
open Classical
end L2
namespace L2
open PySem PySem.Spec PyProof.Rows Alg
section
variable {P:F?} {w:H?} {K:bX} {mg:Str->Option l?} {base:O?} {CG CS:o?}
theorem z_ (i:Int)(p:Nat):i.fmod (p:Int)=i % (p:Int):=Y8 i (Int.natCast_nonneg p)
end
def kO (n:Nat)(e:Nat->El):El:=.vec ((Yk n).map e)
theorem tQ (l:List El):El.vec l=kO l.length λi=>l.getD i (.num 0):=by
 unfold kO;congr 1
 apply Z7
 intro i;by_cases h:i<l.length
 ·rw[Ye,Y1 h,Yc h]
  show j? _=j? (l.getD i (.num 0))
  rw[Yb,Yc h];rfl
 ·rw[List.getElem?_eq_none_iff.mpr (by omega),List.getElem?_eq_none_iff.mpr (by rw[Ya,Yf];omega)]
structure Cf (H:Hp)(ok:o?->Prop)(vs:List V)(n:Nat)(e:Nat->El):Prop where
 len:vs.length=n
 at_:∀i,i<n->∃v,vs[i]?=j? v/\Rep H ok v (e i)
theorem Cf.rep {H:Hp}{ok:o?->Prop}{vs:List V}{n:Nat}{e:Nat->El}{a:o?}(C:Cf H ok vs n e)(h:H a=j? (.lst vs))(k:ok a):Rep H ok (.ref a) (kO n e):=by
 refine .vec h k (by rw[C.len,Ya,Yf]) λi x d h1 h2=>?_
 have hi:i<n:=by rw[<- C.len];exact(List.getElem?_eq_some_iff.mp h1).1
 obtain⟨v,h3,r⟩:=C.at_ i hi;rw[h1] at h3;cases h3;rw[Ye,Y1 hi] at h2;cases h2;exact r
theorem Rep.cf {H:Hp}{ok:o?->Prop}{v:V}{n:Nat}{e:Nat->El}(R:Rep H ok v (kO n e)):∃a vs,v=.ref a/\H a=j? (.lst vs)/\ok a/\Cf H ok vs n e:=by
 unfold kO at R;cases R with
 | @vec a vs l h k hl r=>
  rw[Ya,Yf] at hl;refine⟨a,vs,rfl,h,k,hl,λi hi=>?_⟩
  refine⟨vs[i]'(by omega),Yc (by omega),r i _ _ (Yc (by omega)) ?_⟩
  rw[Ye,Y1 hi];rfl
theorem Cf.imp {H H':Hp}{ok ok':o?->Prop}{vs:List V}{n:Nat}{e:Nat->El}(C:Cf H ok vs n e)(f:∀b o,H b=j? o->ok b->H' b=j? o/\ok' b):Cf H' ok' vs n e:=
 ⟨C.len,λi hi=>let ⟨v,h,r⟩:=C.at_ i hi;⟨v,h,r.imp f⟩⟩
theorem Cf.same {H H':Hp}{ok:o?->Prop}{vs:List V}{n:Nat}{e:Nat->El}(C:Cf H ok vs n e)(g:aI H H'):Cf H' ok vs n e:=C.imp λb o h k=>⟨g b o h,k⟩
theorem Cf.nil {H:Hp}{ok:o?->Prop}{e:Nat->El}:Cf H ok [] 0 e:=⟨rfl,λi hi=>by omega⟩
theorem Cf.push {H:Hp}{ok:o?->Prop}{vs:List V}{n:Nat}{e:Nat->El}{v:V}(C:Cf H ok vs n e)(R:Rep H ok v (e n)):Cf H ok (vs++[v]) (n+1) e:=by
 refine⟨by rw[Yg,C.len];rfl,λi hi=>?_⟩
 by_cases h:i<n
 ·obtain⟨x,h1,h2⟩:=C.at_ i h
  exact⟨x,by rw[Zd (by rw[C.len];exact h)];exact h1,h2⟩
 ·have:i=n:=by omega
  subst this;exact⟨v,by rw[<- C.len,List.getElem?_concat_length],R⟩
theorem Cf.congr {H:Hp}{ok:o?->Prop}{vs:List V}{n:Nat}{e d:Nat->El}(C:Cf H ok vs n e)(h:∀i,i<n->e i=d i):Cf H ok vs n d:=⟨C.len,λi hi=>by rw[<- h i hi];exact C.at_ i hi⟩
theorem Cf.append {H:Hp}{ok:o?->Prop}{vs ws:List V}{n m:Nat}{e d:Nat->El}(C:Cf H ok vs n e)(D:Cf H ok ws m d):Cf H ok (vs++ws) (n+m) λi=>if i<n then e i else d (i-n):=by
 refine⟨by rw[Yg,C.len,D.len],λi hi=>?_⟩
 by_cases h:i<n
 ·obtain⟨x,h1,h2⟩:=C.at_ i h
  exact⟨x,by rw[Zd (by rw[C.len];exact h)];exact h1,by rw[Jl h];exact h2⟩
 ·obtain⟨x,h1,h2⟩:=D.at_ (i-n) (by omega)
  exact⟨x,by rw[Zh (by rw[C.len];omega),C.len];exact h1,by rw[Jk h];exact h2⟩
theorem Cf.get {H:Hp}{ok:o?->Prop}{vs:List V}{n:Nat}{e:Nat->El}(C:Cf H ok vs n e){i:Nat}{v:V}(h:vs[i]?=j? v):i<n/\Rep H ok v (e i):=by
 have hi:i<n:=by rw[<- C.len];exact(List.getElem?_eq_some_iff.mp h).1
 obtain⟨x,h1,h2⟩:=C.at_ i hi;rw[h] at h1;cases h1;exact⟨hi,h2⟩
abbrev Off (H:Hp)(D:o?):o?->Prop:=λb=>H b=q?/\b≠D
theorem Cf.upd {H H':Hp}{D:o?}{vs:List V}{n:Nat}{e:Nat->El}{o:HO}(C:Cf H' (Off H D) vs n e):Cf (upd H' D o) (Off H D) vs n e:=C.imp λb u h k=>⟨by rw[aN k.2];exact h,k⟩
theorem Rep.Mp {H H' H1:Hp}{D:o?}{v:V}{e:El}{o:HO}(R:Rep H' (eK H1) v e)(g:aI H H1)(hD:H1 D=j? o):Rep H' (Off H D) v e:=R.imp λb u h k=>⟨h,g.free k,λz=>by rw[z] at k;rw[show H1 D=q? from k] at hD;cases hD⟩
theorem Cf.IW {H H':Hp}{D:o?}{vs:List V}{n:Nat}{e:Nat->El}(C:Cf H' (Off H D) vs n e):Cf H' (eK H) vs n e:=C.imp λb u h k=>⟨h,k.1⟩
theorem Mq (xs:List V)(k:Nat)(h:k<=xs.length):iZ xs q? (j? (k:Int))=xs.take k:=by
 unfold iZ;have e1:HT.qU xs.length 0 q?=0:=rfl;have e2:HT.qU xs.length xs.length (j? (k:Int))=k:=by rw[HT.lB];omega
 rw[e1,e2];simp
structure Nz (T:FE)(n:Nat)(s:aO T.α):Prop where
 dg:Dg s n
 last:n=0\/s.c (n-1)≠0
theorem Nz.uniq {T:FE}{n m:Nat}{s:aO T.α}(h:Nz T n s)(k:Nz T m s):n=m:=by
 rcases Nat.lt_trichotomy n m with z|z|z
 ·rcases k.last with y|y
  ·omega
  ·exact Jr (h.dg _ (by omega)) y
 ·exact z
 ·rcases h.last with y|y
  ·omega
  ·exact Jr (k.dg _ (by omega)) y
theorem Cf.rev {H:Hp}{ok:o?->Prop}{vs:List V}{n:Nat}{e:Nat->El}(C:Cf H ok vs n e):Cf H ok vs.reverse n λi=>e (n-1-i):=by
 refine⟨by rw[Z8];exact C.len,λi hi=>?_⟩
 obtain⟨v,h1,h2⟩:=C.at_ (n-1-i) (by omega)
 refine⟨v,?_,h2⟩
 rw[List.getElem?_reverse (by rw[C.len];exact hi),C.len]
 exact h1
def wR:Sp:=λvs H Q _=>∃(k n:Nat),vs=[.int (k:Int),.int (n:Int)]/\k<50/\n<=100/\Q (.int ((k ^ n:Nat):Int)) H
def del (H:Hp)(b:o?):Hp:=λc=>if c=b then q? else H c
theorem cF {H:Hp}{b c:o?}{o:HO}(h:del H b c=j? o):c≠b/\H c=j? o:=by
 unfold del at h;by_cases e:c=b
 ·rw[Jl e] at h;cases h
 ·rw[Jk e] at h;exact⟨e,h⟩
theorem jA {H:Hp}{b c:o?}(h:c≠b):del H b c=H c:=Jk h
theorem fz (H:Hp)(b:o?):aI (del H b) H:=λc o h=>(cF h).2
def cH (H:Hp)(b:o?)(H':Hp):Prop:=∀a o,a≠b->H a=j? o->H' a=j? o
theorem cH.del {b:o?}{H H':Hp}(h:cH H b H'):aI (L2.del H b) (L2.del H' b):=λc o e=>by rw[jA (cF e).1];exact h c o (cF e).1 (cF e).2
theorem cH.trans {b:o?}{H H' XF:Hp}(h:cH H b H')(h':cH H' b XF):cH H b XF:=λa o n e=>h' a o n (h a o n e)
theorem cH.of {b:o?}{H H':Hp}(h:aI H H'):cH H b H':=λa o _ e=>h a o e
theorem cH.fresh {b:o?}{H H':Hp}(h:cH H b H')(hb':∃o,H' b=j? o){a:o?}(ha:H' a=q?):H a=q?:=by
 have hne:a≠b:=λz=>by obtain⟨o,e⟩:=hb';rw[z,e] at ha;cases ha
 cases q:H a with
 | none=>rfl
 | some o=>rw[h a o hne q] at ha;cases ha
theorem cH.bE {b p:o?}{H H':Hp}(h:cH H b H')(hp:H p=q?)(o:HO):cH H b (L2.upd H' p o):=λa u n e=>by
 rw[aN (bG e hp)];exact h a u n e
theorem y_ (xs:List V)(k:Nat)(h:k<=xs.length):iZ xs (j? (k:Int)) q?=xs.drop k:=by
 unfold iZ;have e1:HT.qU xs.length xs.length q?=xs.length:=rfl;have e2:HT.qU xs.length 0 (j? (k:Int))=k:=by rw[HT.lB];omega
 rw[e1,e2];rw[Zz (by rw[Ze];omega)]
end L2
namespace L2
open PySem PySem.Spec PySem.W PyProof.Rows Alg
end L2
namespace L2
open PySem PySem.Spec PySem.W PyProof.Rows
end L2
namespace L2
open PySem PySem.Spec PySem.W PyProof.Rows Alg
end L2
namespace L2
open PySem PySem.Spec PySem.W PyProof.Rows
end L2
namespace L2
open PySem PySem.Spec PySem.W PyProof.Rows Alg
end L2
namespace L2
open PySem PySem.Spec PySem.W PyProof.Rows
theorem GO {P:F?}{w:H?}{K:bX}{mg mb:Str->Option l?}{CX:HD}{k:Nat}{fa a:o?}{fd:O!}{x:Str}{sp:Sp}{s₁:u?}{vs:List l?}{ns:List Int}{tabs:List (o?×o?)}
  (KX:K.In s₁.heap) (hns:s₁.heap.Ns G? mg) (hb:s₁.heap.Ns builtinsNs mb) (hbb:∀x:Str,x≠"__name__"->mb x=H! x) (hlim:s₁.heap.NoLimit) (hbm:BMain mg s₁.heap) (hT:TabsAt tabs s₁.heap) (hK:noTabs K=true) (hg:s₁.gens=#[])
  (ha:s₁.heap.get? a=j? { cls:=.type "list",data:=.seq vs.toArray }) (hi:IntsAre vs ns) (hl:ns.length<=K?) (hr:fR k callerA)
  (F:∀base:O?,K.In base->base.Ns G? mg->BMain mg base->qY P w K mg base CX k fa fd [x] sp) (hbind:∀(s:u?) (u:l?),BindsTo s fd ⟨[u],[]⟩ [(x,u)])
  (Lq:∀H:Hp,aQ K H a (ns.map V.int)->(∀q∈tabs,H q.2=j? (.vO #[]))->sp [.ref a] H (λv _=>v=.bl true) λ_ _ _=>False)
  (Vg:∀H e s',CX [] H s₁ (λ_ _ _=>False) e s'->False):
  codeAny (S? P w) callerA (.call (.ref fa) ⟨[.ref a],[]⟩) (λr s'=>r=.ok (.ret (.bool true))/\OldK s₁.heap s'.heap/\s'.os=s₁.os/\AllBare s'.gens) s₁:=by
 have rv:=yN hi;have Vh:=hi.length;have Po:∀b o,K.lookup b=j? o->b ∉ tabs.map (·.2):=λb o e hm=>by
  obtain⟨q,hq,rfl⟩:=List.mem_map.mp hm;have e1:=(hT q hq).2;rw[KX _ _ e] at e1;cases e1;have h2:=List.all_eq_true.mp hK (_,_) (mem_of_lookupK e);exact Jr (show false=true from h2) E?
 have R6:a ∉ tabs.map (·.2):=λhm=>by
  obtain⟨q,hq,e⟩:=List.mem_map.mp hm;have e1:=(hT q hq).2;rw[show q.2=a from e,ha] at e1
  cases e1
 have core:∀H:Hp,(∀b,H b=q?\/(b=a/\∃o xs,H b=j? (.Ln o (.lst xs)))\/(b∈tabs.map (·.2)/\H b=j? (.vO #[])))->(∀q∈tabs,H q.2=j? (.vO #[]))->aQ K H a (ns.map V.int)->uW P w H s₁.heap->(H a≠q?->K.lookup a=q?)->
   codeAny (S? P w) callerA (.call (.ref fa) ⟨[.ref a],[]⟩) (λr s'=>r=.ok (.ret (.bool true))/\OldK s₁.heap s'.heap/\s'.os=s₁.os/\AllBare s'.gens) s₁:=by
  intro H hO hTb hS hok hKa;have Aa:∀ {b:o?} {o:Obj},s₁.heap.get? b=j? o->H b=q?->(yd s₁.heap H).get? b=j? o:=λe n=>HG e n
  have RD:∀ {b:o?} {o:Obj},s₁.heap.get? b=j? o->o.cls≠.type "list"->o.cls≠.none->H b=q?:=λ{b o} e d1 d2=>by
   rcases hO b with z|⟨z,_⟩|⟨z,_⟩
   ·exact z
   ·rw[z,ha] at e;cases e;exact Jr rfl d1
   ·obtain⟨q,hq,rfl⟩:=List.mem_map.mp z
    rw[(hT q hq).2] at e;cases e;exact Jr rfl d2
  have noD:∀ {b:o?} {o:Obj} {es:Array DictEntry} {ep:Nat},s₁.heap.get? b=j? o->o.data=.dict es ep->H b=q?:=λ{b o es ep} e d=>by
   rcases hO b with z|⟨z,_⟩|⟨z,_⟩
   ·exact z
   ·rw[z,ha] at e;cases e;cases d
   ·obtain⟨q,hq,rfl⟩:=List.mem_map.mp z
    rw[(hT q hq).2] at e;cases e;cases d
  have TR:∀ {b:o?} {m:Str->Option l?},s₁.heap.Ns b m->(yd s₁.heap H).Ns b m:=λ{b m} ⟨o,es,ep,e,d,r⟩=>⟨o,es,ep,Aa e (noD e d),d,r⟩
  have XG:K.In (yd s₁.heap H):=λb o e=>Aa (KX b o e) (by
   rcases hO b with z|⟨z,o',xs,z2⟩|⟨z,_⟩
   ·exact z
   ·subst z
    rw[hKa (by rw[z2];simp)] at e;cases e
   ·exact Jr z (Po b o e))
  have hBM:BMain mg (yd s₁.heap H):=by
   obtain⟨bm,ob,b1,b2,b3,b4,b5,b6⟩:=hbm;exact⟨bm,ob,b1,b2,Aa b3 (RD b3 (by rw[b4];decide) (by rw[b4];decide)),b4,b5,b6⟩
  have hM:Mod K mg (yd s₁.heap H):=⟨XG,TR hns,⟨mb,TR hb,hbb⟩,let ⟨mc,h1,h2⟩:=hlim;⟨mc,TR h1,h2⟩⟩
  have e0:Gv P w K mg (yd s₁.heap H) callerA [] s₁ H:=⟨rfl,hM,λb o e=>Lz e,Nat.le_of_eq (Gp _ _),trivial,λb hb=>Jr (show b∈([]:List o?) from hb) (by simp),hok,.of_eq hg⟩
  refine codeAny_mono ((F _ XG (TR hns) hBM).run callerA [] s₁ H ⟨[.ref a],[]⟩ [.ref a] [.ref a] _ _ hr e0 (hbind s₁ (.ref a)) (.cons rfl .nil) (Lq H hS hTb)) λr s' h=>?_
  cases r with
  | error e=>exact(Vg H e s' h).elim
  | ok fl=>
   cases fl with
   | next=>exact M! h
   | brk=>exact M! h
   | cont=>exact M! h
   | ret u=>
    obtain⟨v,H',os,bare,un,R7,r',q⟩:=h;have q':v=.bl true:=q;subst q';obtain rfl:u=Value.bool true:=r'
    have old:∀b o,s₁.heap.get? b=j? o->s'.heap.get? b=j? o\/(isCodeTable s₁.heap b/\o=tabObj #[]/\∃ps,s'.heap.get? b=j? (tabObj ps)):=λb o e=>by
     rcases hO b with z|⟨z,ob,xs,z2⟩|⟨z,z2⟩
     ·exact .inl (un.keep b o e z (by intro y;exact Jr (show b∈([]:List o?) from y) (by simp)) (by simp))
     ·have z3:=un.zy b ob _ z2
      obtain⟨e1,_⟩:=hok b _ z2;obtain⟨e2,_⟩:=R7 b _ z3;rw[e] at e1;cases e1;exact .inl e2
     ·obtain⟨q,hq,rfl⟩:=List.mem_map.mp z
      obtain⟨m,z3⟩:=un.zz _ _ z2;have e1:=(hT q hq).2;rw[e] at e1;exact .inr ⟨((hT q hq).1.tab (hT q hq).2).isCodeTable,M? e1,_,R7 _ _ z3⟩
    refine⟨rfl,⟨λb o e=>?_,λb o e=>?_⟩,os,bare⟩
    ·rcases old b o e with z|⟨ht,rfl,ps,hP⟩
     ·exact .inl z
     ·exact .inr (.inl ⟨ht,rfl,#[],ps,rfl,by rw[Array.empty_append];exact hP⟩)
    ·rcases old b o e with z|⟨_,_,ps,hP⟩
     ·exact⟨_,z⟩
     ·exact⟨_,hP⟩
 have tok:∀(H:Hp) (q:o?×o?),q∈tabs->jv P w H s₁.heap q.2 (.vO #[]):=λH q hq=>(hT q hq).2
 cases hk:K.lookup a with
 | some o=>
  have e:=KX a o hk;rw[ha] at e;cases e;refine core (λb=>if b∈tabs.map (·.2) then j? (.vO #[]) else q?) (λb=>?_) (λq hq=>Jl (List.mem_map_of_mem hq)) (.inr ⟨_,vs.toArray,_,hk,rfl,rfl,rfl,by rw[Yx,Vh];exact hl,by simpa using rv⟩) (λb u z=>?_) (λz=>Jr (Jk R6) z)
  ·by_cases hb:b∈tabs.map (·.2)
   ·exact .inr (.inr ⟨hb,Jl hb⟩)
   ·exact .inl (Jk hb)
  ·by_cases hb:b∈tabs.map (·.2)
   ·have z':=(Jl hb).symm.trans z
    cases z';obtain⟨q,hq,rfl⟩:=List.mem_map.mp hb;exact tok _ q hq
   ·have z':=(Jk hb).symm.trans z
    cases z'
 | none=>
  refine core (λb=>if b∈tabs.map (·.2) then j? (.vO #[]) else if b=a then j? (.Ln { cls:=.type "list",data:=.seq vs.toArray } (.lst (ns.map V.int))) else q?) (λb=>?_) (λq hq=>Jl (List.mem_map_of_mem hq)) (.inl (.inr ⟨{ cls:=.type "list",data:=.seq vs.toArray },(Jk R6).trans (Jl rfl)⟩)) (λb u z=>?_) λ_=>hk
  ·by_cases hb:b∈tabs.map (·.2)
   ·exact .inr (.inr ⟨hb,Jl hb⟩)
   ·by_cases hb2:b=a
    ·exact .inr (.inl ⟨hb2,_,_,(Jk hb).trans (Jl hb2)⟩)
    ·exact .inl ((Jk hb).trans (Jk hb2))
  ·by_cases hb:b∈tabs.map (·.2)
   ·have z':=(Jl hb).symm.trans z
    cases z';obtain⟨q,hq,rfl⟩:=List.mem_map.mp hb;exact tok _ q hq
   ·by_cases hb2:b=a
    ·have z':=((Jk hb).trans (Jl hb2)).symm.trans z
     cases z';subst hb2;exact⟨ha,by rw[Ya];exact hl,vs,_,rv,ha⟩
    ·have z':=((Jk hb).trans (Jk hb2)).symm.trans z
     cases z'
theorem IX {l:PySem.W.OpenLaw}{n k:Nat}{q:F?}{loose:List Str}{XP:(Str->Option l?)->O?->Prop}{YP:H?->O?->Prop}{d:DefRec}{K:Params->bX}{CX:H?->HD}{sp:H?->Sp}{x:Str}{tabs:List (o?×o?)}
  (hn:l.most=j? n) (hn2:n<=K?) (hdf:d.params.defaults=[]) (hr:fR k callerA)
  (hY:∀(w:H?) (h:O?),YP w h->(K w.params).In h/\TabsAt tabs h) (hK:∀w:H?,noTabs (K w.params)=true)
  (F:∀(w:H?) (mg:Str->Option l?) (fa:o?) (h:O?),(K w.params).In h->h.Ns G? mg->mg d.name=j? (.ref fa)->
   ∃fd:O!,(∀(s:u?) (u:l?),BindsTo s fd ⟨[u],[]⟩ [(x,u)])/\
    ∀base:O?,(K w.params).In base->base.Ns G? mg->BMain mg base->qY l.prog w (K w.params) mg base (CX w) k fa fd [x] (sp w))
  (Lq:∀(w:H?) (H:Hp) (a:o?) (ns:List Int),ns.length<=n->aQ (K w.params) H a (ns.map V.int)->(∀q∈tabs,H q.2=j? (.vO #[]))->sp w [.ref a] H (λv _=>v=.bl true) λ_ _ _=>False)
  (Vg:∀(w:H?) (H:Hp) (s:u?) (e:l?) (s':u?),CX w [] H s (λ_ _ _=>False) e s'->False):
  PySem.W.WalkO q loose XP YP l.row.toRowW d [] (λf vs=>PySem.call f vs):=by
 refine Att.Bp hn hdf λw s₀ s₁ mg mb fa o pm cd doc a vs ns G Y ho hd hcd hmg hobj hints hlen hg=>?_
 obtain⟨KX,hT⟩:=hY w _ Y;obtain⟨fd,hb,hF⟩:=F w mg fa _ KX G.T.g hmg;have hbm:BMain mg s₁.heap:=by
  obtain⟨bm,ob,b1,b2,b3,b4,b5,b6⟩:=G.T.bmain;exact⟨bm,ob,b1,b2,b3,b4,b5,b6⟩
 exact GO KX G.T.g G.T.b G.T.builtins G.T.nolimit hbm hT (hK w) hg hobj hints (Ym hlen hn2) hr hF hb (λH hS hTb=>Lq w H a ns hlen hS hTb) λH e s'=>Vg w H s₁ e s'
section
variable {P:F?} {w:H?} {K:bX} {mg:Str->Option l?} {base:O?}
theorem Ls.okC {x qual:Str}{st:Q?}{f c:o?}{fd:O!}{N ps:List Str}{k:Nat}{sp:Sp}(F:Ls K x qual st f fd)(hc:fd.code=.ref c)(S:aK N ps (aq st))(len:∀vs H Q E,sp vs H Q E->vs.length=ps.length)
  (hbody:∀(A:A!) (outer:List Env) (s:u?) (H:Hp) (vs:List V) (Q:VK) (E:XK),fR k (A.deeper (envOfC qual (aq st) s.heap.objs.size f (.ref c)))->sp vs H Q E->
   ∃t,C6 (zI GA P w K mg base N qual (aq st) f (.ref c) A outer s H E).Nl (cE st) t/\t { nx:=λ_ H'=>Q .fm H',rt:=Q } (start N vs) H):qY P w K mg base GA (k+1) f fd ps sp:=by
 obtain⟨oc,od,kV,doc,pm,an,cdv,ct,osl,rfl,lk,hcd⟩:=F.ex;have e:cdv=.ref c:=hc;subst e;refine Nu lk hcd S len λA outer s H vs Q E hr Lq=>?_
 obtain⟨t,h,q⟩:=hbody A outer s H vs Q E hr Lq;exact⟨t,h.Nl,q⟩
structure IY (K:bX)(mg:Str->Option l?)(x:Str)(st:Q?)(ps:List Str)(c:o?):Prop where
 ex:∃f fd,Ls K x x st f fd/\Binds K fd ps []/\mg x=j? (.ref f)/\fd.code=.ref c
theorem IY.ok {x:Str}{st:Q?}{N ps:List Str}{k:Nat}{c:o?}{sp:Sp}(F:IY K mg x st ps c)(S:aK N ps (aq st))(len:∀vs H Q E,sp vs H Q E->vs.length=ps.length)
  (hbody:∀(f:o?) (A:A!) (outer:List Env) (s:u?) (H:Hp) (vs:List V) (Q:VK) (E:XK),fR k (A.deeper (envOfC x (aq st) s.heap.objs.size f (.ref c)))->sp vs H Q E->
   ∃t,C6 (zI GA P w K mg base N x (aq st) f (.ref c) A outer s H E).Nl (cE st) t/\t { nx:=λ_ H'=>Q .fm H',rt:=Q } (start N vs) H):b_ P w K mg base (k+1) x ps sp:=by
 obtain⟨f,fd,G,B,M,hc⟩:=F.ex;exact⟨f,fd,G.okC hc S len (hbody f),B,G.kp,M⟩
theorem Mr {x:Str}{st:Q?}{ps:List Str}{f c0:o?}{oc:l?}{od an:Option o?}{osl:Array (Option l?)}{kV doc pm cdv ct:l?}{h:O?}(X:K.In h)(G:h.Ns G? mg)
  (a:N? K G? x=j? (j? (.ref f))) (l:K.lookup f=j? ⟨oc,od,.func (W? x x (dF st) (cE st) (aq st) .none kV doc pm an cdv ct),osl⟩) (c:P! K cdv x=true) (k:C! K (.ref f)=true)
  (hb:∀(kV doc pm:l?) (an:Option o?) (cdv ct:l?) (us:List l?),us.length=ps.length->bindArgs (W? x x (dF st) (cE st) (aq st) .none kV doc pm an cdv ct) ⟨us,[]⟩=pure (ps.zip us)) (hc:cdv=.ref c0):IY K mg x st ps c0:=
 ⟨f,_,vY l c k,(vY l c k).binds hb,PySem.W.mg_of X G a,hc⟩
theorem GP {n:Nat}{sc scope:Scope}(h:∀y∈scope.names,y.2=.free->sc.names.lookup y.1=j? .cell):∀y∈scope.names,y.2=.free->∃c,(cellsFrom n sc.names []).lookup y.1=j? c:=λy hy hf=>vW (h y hy hf)
theorem Ms {cells:List (Str×o?)}{scope:Scope}(h:∀y∈scope.names,y.2=.free->∃c,cells.lookup y.1=j? c):∀x,scope.names.lookup x=j? .free->∃c,(aR cells scope.names []).lookup x=j? c:=λx hx=>by
 have hm:=U? hx;obtain⟨c,hc⟩:=h _ hm rfl;exact⟨c,gk hc scope.names [] (.inr hm) (λd z=>by simp at z)⟩
theorem Ab {a b c:l?}{i j:Int}{t u:Tok}(ha:a=.int i t)(hb:b=.int j u):∀(l:List l?),TriplesOk l->TriplesOk (l++[a,b,c]):=by
 subst ha hb;intro l h;fun_induction TriplesOk l with
 | case1=>exact trivial
 | case2 _ _ _ _ _ rest ih=>exact ih h
 | case3=>exact h.elim
theorem DF {pos:Pos}{a b:Nat}{c:l?}(hne:¬ (a=pos.line/\b=pos.col)):∀(l:List l?),TriplesOk l->codeAmong pos l=q?->codeAmong pos (l++[rawInt a,rawInt b,c])=q?:=by
 intro l h hn;fun_induction TriplesOk l with
 | case1=>
  show(if ((a:Int) == pos.line && (b:Int) == pos.col)=true then j? c else q?)=q?
  rw[Jk];intro z;rw[T?,beq_iff_eq,beq_iff_eq] at z;exact hne ⟨by omega,by omega⟩
 | case2 i t j u x rest ih=>
  have hn':(if ((i:Int) == pos.line && j == pos.col)=true then j? x else codeAmong pos rest)=q?:=hn
  show(if ((i:Int) == pos.line && j == pos.col)=true then j? x else codeAmong pos (rest++[rawInt a,rawInt b,c]))=q?
  by_cases z:((i:Int) == pos.line && j == pos.col)=true
  ·rw[Jl z] at hn';cases hn'
  ·rw[Jk z] at hn' ⊢
   exact ih h hn'
 | case3=>exact h.elim
end
end L2
namespace L2
open PySem PySem.Spec PyProof.Rows Alg
theorem cC {H H':Hp}{l:o?}{o:HO}(n:H l=q?)(hX:upd H l o=H'):aI H H'/\H' l=j? o:=by
 subst hX;exact⟨aB n _,av⟩
theorem uP {a b:TS}{D:Ends}{σ:St}{H:Hp}{I:Type}(f:I->St)(P:I->Hp->Prop)(h1:∀C:St->Hp->Prop,(∀i H,P i H->C (f i) H)->a { D with nx:=C } σ H)(h2:∀i H,P i H->b D (f i) H):Rm a b D σ H:=h1 (b D) h2
theorem IZ {C:St->Hp->Prop}{I:Type}{f:I->St}{P:I->Hp->Prop}{j:Nat}{v:V}{σ:St}{H:Hp}(k:∀i H,P i H->C (f i) H)(i:I)(p:P i H)(e:σ.set j (j? v)=f i):iO j v σ H C:=by
 show C (σ.set j (j? v)) H
 rw[e];exact k i H p
end L2
namespace L2
open PySem PySem.Spec PySem.W PyProof.Rows Alg
theorem DG {pos:Pos}{x:l?}{m:List l?}:∀(l:List l?),TriplesOk l->codeAmong pos l=j? x->codeAmong pos (l++m)=j? x:=by
 intro l h hx;fun_induction TriplesOk l with
 | case1=>cases hx
 | case2 i t j u y rest ih=>
  have hx':(if ((i:Int) == pos.line && j == pos.col)=true then j? y else codeAmong pos rest)=j? x:=hx
  show(if ((i:Int) == pos.line && j == pos.col)=true then j? y else codeAmong pos (rest++m))=j? x
  by_cases z:((i:Int) == pos.line && j == pos.col)=true
  ·rw[Jl z] at hx' ⊢;exact hx'
  ·rw[Jk z] at hx' ⊢;exact ih h hx'
 | case3=>exact h.elim
theorem GQ {pos:Pos}{c:l?}:∀(l:List l?),TriplesOk l->codeAmong pos l=q?->codeAmong pos (l++[rawInt pos.line,rawInt pos.col,c])=j? c:=by
 intro l h hn;fun_induction TriplesOk l with
 | case1=>
  show(if ((pos.line:Int) == pos.line && (pos.col:Int) == pos.col)=true then j? c else q?)=j? c
  rw[Jl];rw[T?,beq_iff_eq,beq_iff_eq];exact⟨rfl,rfl⟩
 | case2 i t j u x rest ih=>
  have hn':(if ((i:Int) == pos.line && j == pos.col)=true then j? x else codeAmong pos rest)=q?:=hn
  show(if ((i:Int) == pos.line && j == pos.col)=true then j? x else codeAmong pos (rest++[rawInt pos.line,rawInt pos.col,c]))=j? c
  by_cases z:((i:Int) == pos.line && j == pos.col)=true
  ·rw[Jl z] at hn';cases hn'
  ·rw[Jk z] at hn' ⊢
   exact ih h hn'
 | case3=>exact h.elim
def fM (qual:Str)(Pp:o?)(H:Hp):Prop:=∃ps:Array l?,H Pp=j? (.vO ps)/\TriplesOk ps.toList/\∀pos:Pos,codeAmong pos ps.toList=q?\/∃c,codeAmong pos ps.toList=j? (.ref c)/\H c=j? (.ext (GN c qual))
theorem fM.nil {qual:Str}{Pp:o?}{H:Hp}(h:H Pp=j? (.vO #[])):fM qual Pp H:=⟨#[],h,trivial,λ_=>.inl rfl⟩
theorem fM.same {qual:Str}{Pp:o?}{H H':Hp}(h:fM qual Pp H)(g:aI H H'):fM qual Pp H':=by
 obtain⟨ps,h1,h2,h3⟩:=h;exact⟨ps,g _ _ h1,h2,λpos=>(h3 pos).imp id λ⟨c,a,b⟩=>⟨c,a,g _ _ b⟩⟩
structure pK where
 qual:Str
 params:Arguments
 body:Expr
 scope:Scope
 x:Str
 N:List Str
 t:TE
def pK.here (L:pK)(cl:List (Str×o?))(f c:o?)(H:Hp):Prop:=H f=j? (.ext (DE f c L.qual L.params L.body L.scope cl))/\H c=j? (.ext (GN c L.qual))
theorem pK.here.same {L:pK}{cl:List (Str×o?)}{f c:o?}{H H':Hp}(h:L.here cl f c H)(g:aI H H'):L.here cl f c H':=⟨g _ _ h.1,g _ _ h.2⟩
structure pK.Ok (L:pK)(P:F?)(w:H?)(K:bX)(mg:Str->Option l?)(base:O?)(k:Nat):Prop where
 kind:L.scope.kind=.function
 co:L.scope.isCoroutine=false
 gen:L.scope.isGenerator=false
 tw:∀y∈L.scope.names,y.2≠.cell
 loc:L.scope.names.lookup L.x=j? .local
 frees:∀x∈L.N,L.scope.names.lookup x=j? .free
 bind:∀cl pm cdv ct u,bindArgs (kla_fn "<lambda>" L.qual L.params L.body L.scope cl pm cdv ct) ⟨[u],[]⟩=pure [(L.x,u)]
 pe:∀(cl:List (Str×o?)) (f c:o?) (A:A!) (outer:List Env) (s:u?) (H:Hp),fR k (A.deeper (envX L.qual L.scope s.heap.objs.size f (.ref c) cl))->PE (FF P w K mg base (L.x::L.N) L.qual L.scope f c cl A outer s H) L.body L.t
section
variable {P:F?} {w:H?} {K:bX} {mg:Str->Option l?} {base:O?}
theorem I_ {L:pK}{k:Nat}{f c:o?}{cl:List (Str×o?)}{vals:List V}(g:L.Ok P w K mg base k){A:A!}{outer:List Env}{s:u?}{H:Hp}{Q:VK}{v:V}{u:l?}(hr:fR (k+1) A)(e0:Gv P w K mg base A outer s H)(hh:L.here cl f c H)
  (has:∀x,L.scope.names.lookup x=j? .free->∃c,cl.lookup x=j? c) (hc:lW s.heap H outer cl L.N vals) (rv:RelV v u) (q:L.t (j? v::vals.map j?) H Q):codeAny (S? P w) A (.call (.ref f) ⟨[u],[]⟩) (CR GA outer P w H s Q E0) s:=by
 obtain⟨h1,h2⟩:=hh;obtain⟨⟨pm,ctv,hf⟩,_⟩:=e0.hok _ _ h1;obtain⟨⟨oc,vs,t,hc1,hc2,hc3⟩,_⟩:=e0.hok _ _ h2;have lim:s.heap.NoLimit:=e0.mod.nolimit.keeps λb o e=>(e0.bs b o e).1
 refine kla_callFunE hr.depth hf rfl g.co g.gen rfl ⟨c,oc,vs,t,rfl,hc1,hc2,hc3⟩ ?_
 rw[g.bind];refine J? (wpAny_newFunctionEnv g.tw (λy hy=>by rw[List.mem_singleton.mp hy];exact g.loc) (λh₁ hns Lu=>⟨lim.fresh _ Lu,?_⟩) g.kind)
 show codeAny _ _ (.expr L.body (envX L.qual L.scope s.heap.objs.size f (.ref c) cl)) _ _
 have hk₁:∀b o,s.heap.get? b=j? o->h₁.get? b=j? o:=λb o e=>Lu.extBut b o (Yw (Yl e)) (Yh _ e)
 have XH:∀c v,s.heap.IsCell c v->h₁.IsCell c v:=λc v ⟨o,e,d⟩=>⟨o,hk₁ c o e,d⟩
 have ok:(FF P w K mg base (L.x::L.N) L.qual L.scope f c cl A outer s H).Ok:=
  ⟨e0.mod,g.kind,rfl,rfl,Yd _,hc.inj,λx hx=>by
   rcases hx with z|z
   ·exact Jr rfl (g.tw _ (U? z))
   ·exact has x z,λx c z=>(nomatch (show false=true from z)),λ_=>hr.hd,Around.frames_deeper e0.frames,.inr ⟨rfl,rfl⟩,λb z=>Jr (show b∈([]:List o?) from z) (by simp),e0.bs,e0.EV,λb o _ z=>Jr (show b∈([]:List o?) from z) (by simp),λb z=>Jr (show b∈([]:List o?) from z) (by simp),e0.oZ,e0.Lo⟩
 have I:Inv (FF P w K mg base (L.x::L.N) L.qual L.scope f c cl A outer s H) [] (j? v::vals.map j?) H { s with heap:=h₁,toks:=s.toks+1 }:=by
  refine⟨ok,rfl,e0.bare,Un.kept hk₁,⟨_,hns,λi x v' e1 e2 e3=>?_⟩,λx c e=>?_,e0.hok.fresh (Yd _),λx c e=>(hc.cell x c e).2.1,λp hp=>Jr (show p∈([]:List (o?×Obj)) from hp) (by simp),e0.hok.kept hk₁,by show(vals.map j?).length+1=L.N.length+1;rw[Ya,hc.len]⟩
  ·cases i with
   | zero=>
    cases e1;cases e2;exact⟨u,rv,.inl ⟨g.loc,by simp⟩⟩
   | succ i=>
    have e1:L.N[i]?=j? x:=e1;have e2:(vals.map j?)[i]?=j? (j? v'):=e2;have ev:vals[i]?=j? v':=by
     rw[Ye] at e2;cases z:vals[i]? with
     | none=>rw[z] at e2;cases e2
     | some y=>rw[z] at e2;cases e2;rfl
    obtain⟨c,u,l,ic,r⟩:=hc.val i x v' e1 ev;exact⟨u,r,.inr ⟨.inr (g.frees x (Yy e1)),c,l,XH _ _ ic⟩⟩
  ·obtain⟨⟨v,ic⟩,_⟩:=hc.cell x c e
   exact⟨v,XH _ _ ic⟩
 refine kla_codeExpr (B! ((g.pe cl f c A outer s H (hr.deeper _)).1 [] _ _ H Q I q) (λv s' hl=>?_) λ_ _ z=>M! z)
 obtain⟨y,H',J,r,q'⟩:=hl;exact⟨y,H',J.os,J.bare,J.base,J.hok,r,q'⟩
end
def za (P:o?)(pos:Pos)(L:pK)(cl:List (Str×o?)):TE:=λ_ H Q=>∃ps:Array l?,H P=j? (.vO ps)/\TriplesOk ps.toList/\
  ((codeAmong pos ps.toList=q?/\∀f c',H f=q?->H c'=q?->f≠c'->Q (.ref f) (pI H P f c' ps pos L.qual L.params L.body L.scope cl))\/
   (∃c',codeAmong pos ps.toList=j? (.ref c')/\H c'=j? (.ext (GN c' L.qual))/\∀f,H f=q?->Q (.ref f) (upd H f (.ext (DE f c' L.qual L.params L.body L.scope cl)))))
section
variable {X:Cx}
theorem Mt {c P:o?}{params:Arguments}{body:Expr}{scope:Scope}{pos:Pos}{L:pK}(hL:L.params=params/\L.body=body/\L.scope=scope)(hq:X.env.qual++"<lambda>"=L.qual)(hb:BMain X.mg X.base)(hc:X.env.code=.ref c)(hk:codeHdIn X.K c P=true)(hcf:∀y∈scope.names,y.2=.free->∃c,X.env.cells.lookup y.1=j? c)(hdef:defaultsOf params X.env=([],[]):=by rfl):
  PE X (.Lambda params body scope pos) (za P pos L (aR X.env.cells scope.names [])):=by
 obtain⟨rfl,rfl,rfl⟩:=hL;have hm:=Pn (X:=X) (params:=L.params) (body:=L.body) (scope:=L.scope) (pos:=pos) hb hc hk hcf hdef;rw[hq] at hm;refine⟨?_⟩
 intro pins s σ H Q I h;obtain⟨ps,hP,ht,⟨hn,q⟩|⟨c',hf,hc',q⟩⟩:=h
 ·exact hm.1 pins s σ H Q I ⟨ps,hP,ht,hn,q⟩
 have eP:s.heap.get? P=j? (tabObj ps):=I.hok P _ hP;have hgs:=I.mod.glob.keeps I.bk;obtain⟨bm,ob,b1,b2,b3,b4,b5,b6⟩:=hb;have IV:=I.bk _ _ b3;have Va:bm≠P:=λz=>by rw[z,eP] at IV;cases IV;cases b4
 have Vb:bm≠G?:=λz=>by
  obtain⟨o,es,ep,e,hd,_⟩:=hgs;rw[z,e] at IV;cases IV;rw[hd] at b6;cases b6
 refine kla_eval hdef (kla_makeFunctionHit (mg:=X.mg) (iE hcf) I.ok.glob hgs hc (codeHd_of_K I.EW hk) eP ht hf ⟨bm,ob,b1,b2,Vb,Va,IV,b4,b5,b6⟩ λctv h' tk hx hsz=>?_)
 rw[hq];generalize hO:({ cls:=.type "function",data:=.func (kla_fn "<lambda>" L.qual L.params L.body L.scope (aR X.env.cells L.scope.names []) ((X.mg "__name__").getD .none) (.ref c') ctv) }:Obj)=O;have g:(h'.push O).get? h'.objs.size=j? O:=Y9 _ (by rw[<- hO];rfl)
 refine⟨.ref h'.objs.size,_,I.laid (a:=h'.objs.size) (o:=.ext (DE h'.objs.size c' L.qual L.params L.body L.scope (aR X.env.cells L.scope.names []))) (λb o e=>Yh _ (hx b o e)) hsz ⟨⟨_,_,by rw[g,<- hO]⟩,⟨_,g⟩,λh1 h2 z k=>?_⟩,rfl,q _ (I.hok.fresh hsz)⟩
 obtain⟨pm,cv,z⟩:=z;exact⟨pm,cv,k _ z⟩
end
theorem GR {Pp:o?}{pos:Pos}{L:pK}{cl:List (Str×o?)}{σ:St}{H:Hp}{Q:VK}(tq:fM L.qual Pp H)(q:∀f c H',cH H Pp H'->fM L.qual Pp H'->L.here cl f c H'->Q (.ref f) H'):za Pp pos L cl σ H Q:=by
 obtain⟨ps,h1,h2,h3⟩:=tq;refine⟨ps,h1,h2,?_⟩
 rcases h3 pos with h|⟨c,h,hc⟩
 ·refine .inl ⟨h,λf c nf nc hfc=>?_⟩
  have Vf:Pp≠f:=bG h1 nf;have Ve:Pp≠c:=bG h1 nc;have nw:cH H Pp (pI H Pp f c ps pos L.qual L.params L.body L.scope cl):=λb o hb e=>by
   unfold pI;rw[aN (bG e nf),aN (bG e nc),aN hb];exact e
  have ef:(pI H Pp f c ps pos L.qual L.params L.body L.scope cl) f=j? (.ext (DE f c L.qual L.params L.body L.scope cl)):=av;have ec:(pI H Pp f c ps pos L.qual L.params L.body L.scope cl) c=j? (.ext (GN c L.qual)):=by
   unfold pI;rw[aN (Ne.symm hfc),av]
  have eP:(pI H Pp f c ps pos L.qual L.params L.body L.scope cl) Pp=j? (.vO (ps++#[rawInt pos.line,rawInt pos.col,.ref c])):=by
   unfold pI;rw[aN Vf,aN Ve,av]
  have e:(ps++#[rawInt pos.line,rawInt pos.col,.ref c]).toList=ps.toList++[rawInt pos.line,rawInt pos.col,.ref c]:=by simp
  refine q f c _ nw ⟨_,eP,by rw[e];exact Ab rfl rfl _ h2,λp2=>?_⟩ ⟨ef,ec⟩
  rw[e];rcases h3 p2 with h'|⟨c2,h',hc2⟩
  ·by_cases z:pos.line=p2.line/\pos.col=p2.col
   ·refine .inr ⟨c,?_,ec⟩
    rw[z.1,z.2];exact GQ _ h2 h'
   ·exact .inl (DF z _ h2 h')
  ·exact .inr ⟨c2,DG _ h2 h',nw _ _ (λz=>by rw[z,h1] at hc2;cases hc2) hc2⟩
 ·refine .inr ⟨c,h,hc,λf nf=>?_⟩
  have g:=aB nf (.ext (DE f c L.qual L.params L.body L.scope cl));exact q f c _ (cH.of g) (fM.same ⟨ps,h1,h2,h3⟩ g) ⟨av,g _ _ hc⟩
section
variable {X:Cx} {x:Str} {id:String} {p pos:Pos} {e:Expr} {es:List Expr} {kws:List Keyword} {t tk:TA} {ks:List Str}
def Jq (X:Cx)(f:l?)(ks:List Str)(r:St->List V->List V->Hp->VK->Prop):Prop:=
 ∀(pins:List (o?×Obj)) (s:u?) (σ:St) (H:Hp) (xs ys:List V) (us ws:List l?) (Q:VK),Inv X pins σ H s->Vals xs us->Vals ys ws->r σ xs ys H Q->L? (S? X.prog X.w) X.A (call f us (ks.zip ws)) (EP X pins σ Q) X.xe s
def Js (r:St->List V->List V->Hp->VK->Prop)(t tk:TA):TE:=λσ H Q=>t σ H λvs H1=>tk σ H1 λws H2=>r σ vs ws H2 Q
theorem DH {r:St->List V->List V->Hp->VK->Prop}(hc:Jq X (.builtin id) ks r)(hg:Gl X x)(hm:X.mg x=q?)(hv:H! x=j? (.builtin id))(ha:PA X (e::es) t)(hk:PK X kws tk)
  (hks:(backToKw pos (keywordEach kws X.env)).filterMap (·.1)=ks:=by rfl)
  (hn:x≠"__name__":=by decide) (hdb:(x ==("__debug__":Str))=false:=by decide)
  (he:backTo pos (I? (e::es) X.env)=(false,eval e X.env)::backTo pos (I? es X.env):=by rfl)
  (hplain:(backTo pos (I? (e::es) X.env)).any (·.1)=false:=by rfl)
  (hall:(backToKw pos (keywordEach kws X.env)).all (·.1.isSome)=true:=by rfl)
  (hkw:(backToKw pos (keywordEach kws X.env)).any (·.1.isNone)=false:=by rfl):PE X (.Call (.Name x p) (e::es) kws pos) (Js r t tk):=by
 refine⟨?_⟩
 intro pins s σ H Q I h;refine wpAny_Call_Name_kw (j4 I hg hm hv ?_ hn hdb)
 refine callWith_builtin_kwB hplain hkw ?_
 have hb:=ha pos pins s σ H _ I h;rw[he] at hb ⊢;refine evalArgs_kwB hall (eY hb λus s1 ⟨vs,H1,I1,r1,q1⟩=>?_)
 refine eY (hk pos pins s1 σ H1 _ I1 q1) λws s2 ⟨ys,H2,I2,r2,q2⟩=>?_
 rw[hks];exact hc pins s2 σ H2 vs ys us ws Q I2 r1 r2 q2
end
theorem Mu {sc scope:Scope}{N:List Str}(h:∀x∈N,sc.names.lookup x=j? .cell/\(x,Z?)∈scope.names):∀x∈N,sc.names.lookup x=j? .cell/\(x,Z?)∈scope.names:=h
structure Pq (K:bX)(L:pK)(cl:List (Str×o?))(l f c:o?)(vs vals:List V)(kf:Nat->Int)(Pv:Nat->Hp->Prop)(Q:VK):Prop where
 lst:∀i H',Pv i H'->aQ K H' l vs
 key:∀i v H',vs[i]?=j? v->Pv i H'->L.here cl f c H'/\L.t (j? v::vals.map j?) H' λkv H2=>kv=.int (kf i)/\Pv (i+1) H2
 fin:∀i v H',vs[i]?=j? v->(∀j,j<vs.length->kf i<=kf j)->Pv vs.length H'->Q v H'
def BQ (K:bX)(N:List Str)(L:pK)(cl:List (Str×o?)):St->List V->List V->Hp->VK->Prop:=λσ xs ys H Q=>∃(l f c:o?) (vs vals:List V) (kf:Nat->Int) (Pv:Nat->Hp->Prop),xs=[.ref l]/\ys=[.ref f]/\0<vs.length/\
 (∀(j:Nat) x v,L.N[j]?=j? x->vals[j]?=j? v->∃i:Nat,N[i]?=j? x/\σ[i]?=j? (j? v))/\vals.length=L.N.length/\Pv 0 H/\Pq K L cl l f c vs vals kf Pv Q
section
variable {X:Cx} {pins:List (o?×Obj)} {σ:St} {L:pK} {cl:List (Str×o?)} {k:Nat} {l f c J S:o?} {vs vals:List V} {kf:Nat->Int} {Pv:Nat->Hp->Prop} {Q:VK}
theorem BR (g:L.Ok X.prog X.w X.K X.mg X.base k)(hr:fR (k+2) X.A)(has:∀x,L.scope.names.lookup x=j? .free->∃c,cl.lookup x=j? c)(mc:∀ {pins:List (o?×Obj)} {H1:Hp} {s1:u?},Inv X pins σ H1 s1->lW s1.heap H1 X.stack cl L.N vals)
  (M:Pq X.K L cl l f c vs vals kf Pv Q) {i:Nat} {v:V} {u:l?} {s:u?} {H:Hp} {oJ oS:Obj} (hv:vs[i]?=j? v) (ru:RelV v u) (I:Inv X pins σ H s) (fJ:jP X pins H J) (fS:jP X pins H S) (gJ:s.heap.get? J=j? oJ) (gS:s.heap.get? S=j? oS) (nJ:∀v,oJ.data≠.cell v) (nS:∀v,oS.data≠.cell v) (pv:Pv i H)
  {R:l?->u?->Prop} {E:l?->u?->Prop} (q:∀t s2 H2,Inv X pins σ H2 s2->jP X pins H2 J->jP X pins H2 S->s2.heap.get? J=j? oJ->s2.heap.get? S=j? oS->Pv (i+1) H2->R (.int (kf i) t) s2):
  L? (S? X.prog X.w) X.A.in1 (call (.ref f) [u]) R E s:=by
 obtain⟨hh,ht⟩:=M.key i v H hv pv;have hfp:∀b∈[J,S],jP X pins H b:=λb hb=>by
  rcases List.mem_cons.mp hb with rfl|hb
  ·exact fJ
  ·rw[List.mem_singleton.mp hb];exact fS
 have hob:∀b∈[J,S],∃o,s.heap.get? b=j? o/\∀v,o.data≠.cell v:=λb hb=>by
  rcases List.mem_cons.mp hb with rfl|hb
  ·exact⟨_,gJ,nJ⟩
  ·rw[List.mem_singleton.mp hb];exact⟨_,gS,nS⟩
 have Ip:=I.pinned hfp hob;have e0:=Ip.RC;have e2:Gv X.prog X.w X.K X.mg X.base X.A.in1 X.stack s H:=⟨e0.frames,e0.mod,e0.bs,e0.EV,e0.oZ,e0.Lo,e0.hok,e0.bare⟩;refine wpAny_call (codeAny_mono (I_ g (fR.in1 hr) e2 hh has (mc Ip) ru ht) λr s2 hq2=>?_)
 cases r with
 | error er=>exact M! hq2
 | ok fl=>
  cases fl with
  | next=>exact M! hq2
  | brk=>exact M! hq2
  | cont=>exact M! hq2
  | ret u=>
   obtain⟨kv,H2,I2,rk2,ek,QO⟩:=Ip.after hq2;subst ek;obtain⟨t2,rfl⟩:=(show ∃t,u=Value.int _ t from rk2)
   have pJ:=I2.pin (J,oJ) (Yv _ (Yv _ (fq Zj gJ)));have pS:=I2.pin (S,oS) (Yv _ (Yv _ (fq (Zb _ Zj) gS)));exact q t2 s2 H2 I2.kH ⟨pJ.2.1,fJ.2⟩ ⟨pS.2.1,fS.2⟩ pJ.1 pS.1 QO
theorem Ae {h:O?}{n:Nat}{xs:Array l?}(a:h.IsListIter J l n)(b:h.IsList l xs):l≠J:=λz=>by
 obtain⟨o,e,d,_⟩:=a;obtain⟨u,e',d',_⟩:=b;rw[z,e] at e';cases e';rw[d] at d';injection d' with d'
 exact Jr d' (by decide)
theorem GS (g:L.Ok X.prog X.w X.K X.mg X.base k)(hr:fR (k+2) X.A)(Pr:X.calm=true)(has:∀x,L.scope.names.lookup x=j? .free->∃c,cl.lookup x=j? c)(mc:∀ {pins:List (o?×Obj)} {H1:Hp} {s1:u?},Inv X pins σ H1 s1->lW s1.heap H1 X.stack cl L.N vals)
  (M:Pq X.K L cl l f c vs vals kf Pv Q) (Mv:S≠J):∀(r j i:Nat) (s:u?) (H:Hp) (vb:l?) (tb:Tok) (cc:Nat) (v:V),vs.length-(j+1)=r->j+1<=vs.length->Inv X pins σ H s->jP X pins H J->jP X pins H S->s.heap.get? S=j? (seqObj "list" #[vb,.int (kf i) tb] cc)->s.heap.IsListIter J l (j+1)->
   vs[i]?=j? v->RelV v vb->(∀j',j'<=j->kf i<=kf j')->Pv (j+1) H->codeAny (S? X.prog X.w) X.A (.builtin "min.loop" ⟨[.ref J,.ref f,.ref S],[]⟩) (λr s'=>match r with | .ok (.ret v)=>EP X pins σ Q v s' | .ok _=>False | .error e=>X.xe e s') s:=by
 have nm:(toString "min"++toString ".loop":String)="min.loop":=by decide
 intro r;induction r with
 | zero=>
  intro j i s H vb tb cc v hrr hj I fJ fS gS hit hv rv hb pv;obtain⟨its,Pu,hp,_⟩:=I.list (M.lst _ _ pv);have hls:=hp.isList;have hlen:vs.length=its.length:=Pu.length;have W:=Walks.list (prog:=X.prog) (w:=X.w) (A:=X.A.in1) (I.ok.hd Pr) J l (Ae hit hls) its.toArray;refine codeAny_builtin PySem.F.entry_min_loop ?_
  rw[Around.under_plainId PySem.F.plain_min_loop _];show L? _ X.A.in1 (seqItems? (.ref S) >>= _) _ _ s
  refine B? (wpAny_seqItems gS rfl ?_)
  show L? _ X.A.in1 (tryCatch (pyNext (.ref J)) _ >>= _) _ _ s
  refine B? (wpAny_tryCatch (W.done s _ _ ⟨by rw[Yx,show its.length=j+1 by omega];exact hit,hls⟩ λh' tk kk=>?_))
  have R8:=kk S _ (by simpa using Mv) gS
  have sb:=Heap.SameBut.update h' S (D! λ_=>(#[]:Array l?))
  show L? _ X.A.in1 (updateSeq S (λ_=>#[]) >>= _) _ _ _
  refine B? (wpAny_updateSeq R8 rfl (B? (wpAny_letGo (J? ?_))))
  have I9:Inv X pins σ H { s with heap:=h'.update S (D! λ_=>(#[]:Array l?)),toks:=tk }:=I.zS (ch:=[J,S]) (λb u hb q=>(sb.2 b (λz=>hb (by simp[z]))).trans (kk b u (λz=>hb (by simp at z;simp[z])) q)) (λb hb=>by
   rcases List.mem_cons.mp hb with rfl|hb
   ·exact fJ
   ·rw[List.mem_singleton.mp hb];exact fS)
  exact⟨v,H,I9,rv,M.fin i v H hv (λj' hj'=>hb j' (by omega)) (by rw[show vs.length=j+1 by omega];exact pv)⟩
 | succ r ih=>
  intro j i s H vb tb cc v hrr hj I fJ fS gS hit hv rv hb pv;obtain⟨its,Pu,hp,_⟩:=I.list (M.lst _ _ pv);have hls:=hp.isList;have hlen:vs.length=its.length:=Pu.length;have W:=Walks.list (prog:=X.prog) (w:=X.w) (A:=X.A.in1) (I.ok.hd Pr) J l (Ae hit hls) its.toArray;refine codeAny_builtin PySem.F.entry_min_loop ?_
  rw[Around.under_plainId PySem.F.plain_min_loop _];show L? _ X.A.in1 (seqItems? (.ref S) >>= _) _ _ s
  refine B? (wpAny_seqItems gS rfl ?_)
  show L? _ X.A.in1 (tryCatch (pyNext (.ref J)) _ >>= _) _ _ s
  refine B? (wpAny_tryCatch (W.item (j+1) s _ _ (by rw[Yx];omega) ⟨hit,hls⟩ λu h' tk hP Px kk=>?_))
  have hu:its[j+1]?=j? u:=by simpa using hP
  obtain⟨v2,hv2⟩:∃v2,vs[j+1]?=j? v2:=⟨_,Yc (by omega)⟩
  obtain⟨u2,R9,Py⟩:=Pu.get hv2;rw[hu] at R9;cases R9;have R8:=kk S _ (by simpa using Mv) gS
  obtain⟨oJ,gJ,cJ,dJ⟩:=id Px.1;have I1:Inv X pins σ H { s with heap:=h',toks:=tk }:=I.turned (it:=J) (λb o hb q=>kk b o (by simpa using hb) q) fJ.1 fJ.2.1 fJ.2.2.2.1 fJ.2.2.2.2.1 fJ.2.2.2.2.2
  show L? _ X.A.in1 (tryCatch (holding [u] (call (.ref f) [u])) _ >>= _) _ _ _
  refine B? (wpAny_tryCatch (wpAny_holding (BR g hr has mc M hv2 Py I1 fJ fS gJ R8 (λv z=>by rw[dJ] at z;cases z) (λv z=>by cases z) pv λt2 s2 H2 I2 TU FG TV QS QO=>?_)))
  show L? _ X.A.in1 (tryCatch (holding [u,.int (kf (j+1)) t2] (richCompare .Lt (.int (kf (j+1)) t2) (.int (kf i) tb) >>= _)) _ >>= _) _ _ _
  refine B? (wpAny_tryCatch (wpAny_holding (B? (CmpOf.ints_lt (prog:=X.prog) (w:=X.w) (A:=X.A.in1) (P:=λi v=>∃t,v=.int (kf i) t) kf (λi v h=>h) (j+1) i _ _ _ _ _ ⟨t2,rfl⟩ ⟨tb,rfl⟩ ?_))))
  refine B? (wpAny_holding (wpAny_truthy_bool ?_))
  refine B? (wpAny_letGo (J? ?_))
  by_cases hb':kf (j+1)<kf i
  ·have sb:=Heap.SameBut.update s2.heap S (D! λ_=>#[u,.int (kf (j+1)) t2])
   obtain⟨c2,hc2⟩:∃c2,(s2.heap.update S (D! λ_=>#[u,.int (kf (j+1)) t2])).get? S=j? (seqObj "list" #[u,.int (kf (j+1)) t2] c2):=⟨_,get?_update_seq QS λ_=>#[u,.int (kf (j+1)) t2]⟩
   simp only[hb',decide_true,if_true]
   refine B? ?_
   refine wpAny_updateSeq QS rfl (B? (wpAny_letGo ?_))
   rw[nm];refine J? ⟨plainId_quiet PySem.F.plain_min_loop _,ih (j+1) (j+1) _ H2 u t2 c2 v2 (by omega) (by omega) (I2.turned (it:=S) (t':=s2.toks) (λb o hb q=>(sb.2 b hb).trans q) FG.1 FG.2.1 FG.2.2.2.1 FG.2.2.2.2.1 FG.2.2.2.2.2) TU FG hc2 ⟨oJ,(sb.2 J (Ne.symm Mv)).trans TV,cJ,dJ⟩ hv2 Py (λj' hj'=>?_) QO⟩
   by_cases e:j'=j+1
   ·rw[e];exact Int.le_refl _
   ·have:=hb j' (by omega);omega
  ·simp only[hb',decide_false,Bool.false_eq_true,if_false]
   refine B? (wpAny_letGo ?_)
   rw[nm];refine J? ⟨plainId_quiet PySem.F.plain_min_loop _,ih (j+1) i _ H2 vb tb cc v (by omega) (by omega) I2 TU FG QS ⟨oJ,TV,cJ,dJ⟩ hv rv (λj' hj'=>?_) QO⟩
   by_cases e:j'=j+1
   ·rw[e];omega
   ·exact hb j' (by omega)
end
section
variable {X:Cx}
theorem GU {L:pK}{k:Nat}{scope:Scope}(g:L.Ok X.prog X.w X.K X.mg X.base k)(hr:fR (k+2) X.A)(Pr:X.calm=true)(hsc:L.scope=scope)(hcf:∀y∈scope.names,y.2=.free->∃c,X.env.cells.lookup y.1=j? c)(hst:X.stack=X.env::X.outer/\X.env.frame=j? X.env.locals)(hfn:∀x,X.fn x=true)
  (hfr:∀x∈L.N,X.env.kindOf x=j? .cell/\(x,Z?)∈scope.names):Jq X (.builtin "min") ["key"] (BQ X.K X.N L (aR X.env.cells scope.names [])):=by
 intro pins s σ H xs ys us ws Q I rx ry h;obtain⟨l,f,c,vs,vals,kf,Pv,rfl,rfl,hne,R_,hvl,pv,M⟩:=h;obtain⟨u,rfl,ru⟩:=vals1 rx;cases (show u=I! l from ru)
 obtain⟨u2,rfl,Py⟩:=vals1 ry;cases (show u2=I! f from Py)
 have mc:∀ {pins:List (o?×Obj)} {H1:Hp} {s1:u?},Inv X pins σ H1 s1->lW s1.heap H1 X.stack (aR X.env.cells scope.names []) L.N vals:=λI'=>lW.made I' hfn hst hfr R_ hvl
 have has:∀x,L.scope.names.lookup x=j? .free->∃c,(aR X.env.cells scope.names []).lookup x=j? c:=by rw[hsc];exact Ms hcf
 obtain⟨its,Pu,hp,_⟩:=I.list (M.lst _ _ pv);have hls:=hp.isList;have hlen:vs.length=its.length:=Pu.length;have Pz:l<s.heap.objs.size:=by obtain⟨_,e,_⟩:=id hls;exact Yl e
 have nm:(toString "min"++toString ".loop":String)="min.loop":=by decide
 show L? _ _ (call (.builtin "min") [.ref l] [(Str.ofString "key",.ref f)]) _ _ _
 refine kmk_tree PySem.F.kind_min PySem.F.plain_min PySem.F.entry_min (kmk_min_key _ _) ?_
 show L? _ X.A.in1 (Builtin.Builtins.bindParams "min" ["key","default"] 0 ⟨[],[(Str.ofString "key",.ref f)]⟩ >>= _) _ _ s
 refine B? (wpAny_of_eq (show Builtin.Builtins.bindParams "min" ["key","default"] 0 ⟨[],[(Str.ofString "key",.ref f)]⟩=pure [j? (.ref f),q?] from rfl) (B? (J? ?_)))
 refine B? (wpAny_pyIter_list hls ?_)
 refine B? (wpAny_newList ?_ (Y5 _))
 rw[nm];have hS:(s.heap.push { cls:=.type "list_iterator",data:=.fields #[.ref l,.int 0 0] }).objs.size=s.heap.objs.size+1:=size_push' ..;have Vi:((s.heap.push { cls:=.type "list_iterator",data:=.fields #[.ref l,.int 0 0] }).push (seqObj "list" #[] 0)).get? s.heap.objs.size=j? { cls:=.type "list_iterator",data:=.fields #[.ref l,.int 0 0] }:=Yh _ (Y9 _ rfl);have TX:((s.heap.push { cls:=.type "list_iterator",data:=.fields #[.ref l,.int 0 0] }).push (seqObj "list" #[] 0)).get? (s.heap.objs.size+1)=j? (seqObj "list" #[] 0):=by
  rw[<- hS];exact Y9 _ rfl
 have keep:∀b o,s.heap.get? b=j? o->((s.heap.push { cls:=.type "list_iterator",data:=.fields #[.ref l,.int 0 0] }).push (seqObj "list" #[] 0)).get? b=j? o:=λb o e=>Yh _ (Yh _ e)
 refine J? ⟨plainId_quiet PySem.F.plain_min_loop _,?_⟩
 rw[hS];show codeAny _ _ _ _ { s with heap:=(s.heap.push { cls:=.type "list_iterator",data:=.fields #[.ref l,.int 0 0] }).push (seqObj "list" #[] 0) }
 have PB:((s.heap.push { cls:=.type "list_iterator",data:=.fields #[.ref l,.int 0 0] }).push (seqObj "list" #[] 0)).IsList l its.toArray:=by
  obtain⟨o,e,r⟩:=hls;exact⟨o,keep _ _ e,r⟩
 generalize (s.heap.push { cls:=.type "list_iterator",data:=.fields #[.ref l,.int 0 0] }).push (seqObj "list" #[] 0)=h1 at Vi TX keep PB ⊢;have fJ:=I.vS (Yd _) (I.hok.fresh (Yd s.heap.objs.size));have fS:jP X pins H (s.heap.objs.size+1):=I.vS (Ji s.heap.objs.size) (I.hok.fresh (Ji s.heap.objs.size));have I0:Inv X pins σ H { s with heap:=h1,toks:=s.toks }:=I.kept keep
 have Mv:s.heap.objs.size+1≠s.heap.objs.size:=Nat.succ_ne_self _;generalize s.heap.objs.size+1=S at TX fS Mv ⊢;generalize s.heap.objs.size=J at Vi fJ Mv ⊢;have hit:h1.IsListIter J l 0:=⟨_,Vi,rfl,rfl⟩;have W:=Walks.list (prog:=X.prog) (w:=X.w) (A:=X.A.in1) (I.ok.hd Pr) J l (Ae hit PB) its.toArray;refine codeAny_builtin PySem.F.entry_min_loop ?_
 rw[Around.under_plainId PySem.F.plain_min_loop _];show L? _ X.A.in1 (seqItems? (.ref S) >>= _) _ _ _
 refine B? (wpAny_seqItems TX rfl ?_)
 show L? _ X.A.in1 (tryCatch (pyNext (.ref J)) _ >>= _) _ _ _
 refine B? (wpAny_tryCatch (W.item 0 _ _ _ (by rw[Yx];omega) ⟨hit,PB⟩ λu h' tk hP Px kk=>?_))
 have hu:its[0]?=j? u:=by simpa using hP
 obtain⟨v2,hv2⟩:∃v2,vs[0]?=j? v2:=⟨_,Yc (by omega)⟩
 obtain⟨u2,R9,Py⟩:=Pu.get hv2;rw[hu] at R9;cases R9;have R8:=kk S _ (by simpa using Mv) TX
 obtain⟨oJ,gJ,cJ,dJ⟩:=id Px.1;have I1:Inv X pins σ H { s with heap:=h',toks:=tk }:=Inv.turned (s:={ s with heap:=h1,toks:=s.toks }) I0 (it:=J) (λb o hb q=>kk b o (by simpa using hb) q) fJ.1 fJ.2.1 fJ.2.2.2.1 fJ.2.2.2.2.1 fJ.2.2.2.2.2
 show L? _ X.A.in1 (tryCatch (holding [u] (call (.ref f) [u])) _ >>= _) _ _ _
 refine B? (wpAny_tryCatch (wpAny_holding (BR g hr has mc M hv2 Py I1 fJ fS gJ R8 (λv z=>by rw[dJ] at z;cases z) (λv z=>by cases z) pv λt2 s2 H2 I2 TU FG TV QS QO=>?_)))
 have sb:=Heap.SameBut.update s2.heap S (D! λ_=>#[u,.int (kf 0) t2])
 obtain⟨c2,hc2⟩:∃c2,(s2.heap.update S (D! λ_=>#[u,.int (kf 0) t2])).get? S=j? (seqObj "list" #[u,.int (kf 0) t2] c2):=⟨_,get?_update_seq QS λ_=>#[u,.int (kf 0) t2]⟩
 show L? _ X.A.in1 (updateSeq S (λ_=>#[u,.int (kf 0) t2]) >>= _) _ _ _
 refine B? ?_
 refine wpAny_updateSeq QS rfl ?_
 rw[nm];refine J? ⟨plainId_quiet PySem.F.plain_min_loop _,GS g hr Pr has mc M Mv _ 0 0 _ H2 u t2 c2 v2 rfl (by omega) (I2.turned (it:=S) (t':=s2.toks) (λb o hb q=>(sb.2 b hb).trans q) FG.1 FG.2.1 FG.2.2.2.1 FG.2.2.2.2.1 FG.2.2.2.2.2) TU FG hc2 ⟨oJ,(sb.2 J (Ne.symm Mv)).trans TV,cJ,dJ⟩ hv2 Py (λj' hj'=>?_) QO⟩
 rw[show j'=0 by omega];exact Int.le_refl _
theorem Mw {K:bX}{c P:o?}{e:Expr}{params:Arguments}{body:Expr}{scope:Scope}{pos pos2 p kp:Pos}{x:Str}{N:List Str}{t:TE}{ta:TA}{k:Nat}(hK:X.K=K)
  (hbody:∀(cl:List (Str×o?)) (f c:o?) (A:A!) (outer:List Env) (s:u?) (H:Hp),fR k (A.deeper (envX (X.env.qual++"<lambda>") scope s.heap.objs.size f (.ref c) cl))->PE (FF X.prog X.w K X.mg X.base (x::N) (X.env.qual++"<lambda>") scope f c cl A outer s H) body t)
  (hr:fR (k+2) X.A) (Pr:X.calm=true) (hst:X.stack=X.env::X.outer/\X.env.frame=j? X.env.locals) (hfn:∀x,X.fn x=true) (hb:BMain X.mg X.base) (hc:X.env.code=.ref c) (hk:codeHdIn K c P=true) (hg:Gl X "min") (hm:X.mg "min"=q?) (ha:PA X [e] ta)
  (hbind:∀cl pm cdv ct u,bindArgs (kla_fn "<lambda>" (X.env.qual++"<lambda>") params body scope cl pm cdv ct) ⟨[u],[]⟩=pure [(x,u)])
  (hcf:∀y∈scope.names,y.2=.free->∃c,X.env.cells.lookup y.1=j? c) (hfr:∀x∈N,X.env.kindOf x=j? .cell/\(x,Z?)∈scope.names) (hnc:∀y∈scope.names,y.2≠.cell) (hloc:scope.names.lookup x=j? .local) (PC:∀x∈N,scope.names.lookup x=j? .free)
  (hdef:defaultsOf params X.env=([],[]):=by rfl) (hkind:scope.kind=.function:=by rfl) (hco:scope.isCoroutine=false:=by rfl) (hgen:scope.isGenerator=false:=by rfl)
  (he1:backTo pos2 (I? [e] X.env)=(false,eval e X.env)::backTo pos2 (I? [] X.env):=by rfl)
  (hplain:(backTo pos2 (I? [e] X.env)).any (·.1)=false:=by rfl):
  PE X (.Call (.Name "min" p) [e] [.mk (j? "key") (.Lambda params body scope pos) kp] pos2) (Js (BQ K X.N ⟨X.env.qual++"<lambda>",params,body,scope,x,N,t⟩ (aR X.env.cells scope.names [])) ta (Bm (za P pos ⟨X.env.qual++"<lambda>",params,body,scope,x,N,t⟩ (aR X.env.cells scope.names [])) HQ)):=by
 subst hK;exact DH (GU (k:=k) (L:=⟨X.env.qual++"<lambda>",params,body,scope,x,N,t⟩) ⟨hkind,hco,hgen,hnc,hloc,PC,hbind,hbody⟩ hr Pr rfl hcf hst hfn hfr) hg hm OX ha (LL (Mt ⟨rfl,rfl,rfl⟩ rfl hb hc hk hcf hdef) OL) (he:=he1) (hplain:=hplain)
end
end L2
namespace L2
open PySem PySem.SeqAt PySem.Spec PySem.W PyProof.Rows
end L2
namespace L2
open PySem PySem.Spec PyProof.Rows Alg
theorem My {T:FE}{n m:Nat}{f g:aO T.α}(a:Nz T n f)(b:Nz T m g):Nz T (if n=0\/m=0 then 0 else n+m-1) (f*g):=by
 refine⟨Ml a.dg b.dg,?_⟩
 by_cases c:n=0\/m=0
 ·rw[Jl c];exact .inl rfl
 ·rw[Jk c]
  have h:=(lQ g (m-1) (by rw[show m-1+1=m by omega];exact b.dg) (n-1) f (by rw[show n-1+1=n by omega];exact a.dg)).1
  rw[show n-1+(m-1)=n+m-1-1 by omega] at h
  refine .inr λz=>?_
  rw[h] at z;rcases T.fld.dom _ _ z with y|y
  ·exact(a.last.resolve_left (by omega)) y
  ·exact(b.last.resolve_left (by omega)) y
theorem NN {T:FE}{d:aO T.α}:∀N,Dg d N->∃k,k<=N/\Nz T k d
 | 0,h=>⟨0,Yd _,h,.inl rfl⟩
 | N+1,h=>by
  by_cases c:d.c N=0
  ·obtain⟨k,hk,nz⟩:=NN N λi hi=>by
    by_cases e:i=N
    ·rw[e];exact c
    ·exact h i (by omega)
   exact⟨k,by omega,nz⟩
  ·exact⟨N+1,Yd _,h,.inr c⟩
theorem NO {T:FE}{d:aO T.α}(h:cO d):∃k,Nz T k d:=by
 obtain⟨N,h⟩:=h;obtain⟨k,_,z⟩:=NN N h;exact⟨k,z⟩
end L2
namespace Alg
open Lean.Grind
end Alg
namespace L2
open Alg
end L2
namespace Alg
open Lean.Grind
section
variable {α:Type} [CommRing α]
inductive gW (S:List (Nat->α)):(Nat->α)->Prop where
 | zero:gW S λ_=>0
 | add {r v:Nat->α} (a:α) (h:r∈S) (t:gW S v):gW S λi=>a*r i+v i
theorem gW.of {S:List (Nat->α)}{v w:Nat->α}(h:gW S v)(e:∀i,v i=w i):gW S w:=by
 rw[<- funext e];exact h
theorem gW.plus {S:List (Nat->α)}{v w:Nat->α}(h:gW S v)(k:gW S w):gW S λi=>v i+w i:=by
 induction h with
 | zero=>exact k.of λi=>by grind
 | @add r v a hr _ ih=>exact(gW.add a hr ih).of λi=>by grind
theorem gW.smul {S:List (Nat->α)}{v:Nat->α}(c:α)(h:gW S v):gW S λi=>c*v i:=by
 induction h with
 | zero=>exact gW.zero.of λi=>by grind
 | @add r v a hr _ ih=>exact(gW.add (c*a) hr ih).of λi=>by grind
theorem gW.mem {S:List (Nat->α)}{r:Nat->α}(h:r∈S):gW S r:=(gW.add 1 h gW.zero).of λi=>by grind
theorem gW.trans {S S':List (Nat->α)}(hs:∀r∈S,gW S' r){v:Nat->α}(h:gW S v):gW S' v:=by
 induction h with
 | zero=>exact .zero
 | @add r v a hr _ ih=>exact((hs r hr).smul a).plus ih
theorem gW.DI {S:List (Nat->α)}{k:Nat}(hs:∀r∈S,r k=0){v:Nat->α}(h:gW S v):v k=0:=by
 induction h with
 | zero=>rfl
 | @add r v a hr _ ih=>show a*r k+v k=0;rw[hs r hr,ih];grind
theorem gW.step {S S':List (Nat->α)}{r s0:Nat->α}{k:Nat}{b:α}(e0:∀i,r i=b*s0 i)(e1:r k=1)(hs:∀s∈S,s=s0\/(λi=>s i-s k*r i)∈S'){v:Nat->α}(h:gW S v):gW S' λi=>v i-v k*r i:=by
 induction h with
 | zero=>exact gW.zero.of λi=>by grind
 | @add s v a hr _ ih=>
  rcases hs s hr with rfl|h
  ·have e2:b*s k=1:=by rw[<- e0];exact e1
   refine ih.of λi=>?_
   rw[e0 i];grind
  ·refine(gW.add a h ih).of λi=>?_
   grind
theorem gW.back {S:List (Nat->α)}{r s0 s:Nat->α}{k:Nat}{b:α}(e0:∀i,r i=b*s0 i)(h0:s0∈S)(hs:s∈S):gW S λi=>s i-s k*r i:=by
 refine(gW.add (-(s k*b)) h0 (gW.mem hs)).of λi=>?_
 rw[e0 i];grind
def sm (n:Nat)(d:Nat->α)(R:Nat->Nat->α)(j:Nat):α:=match n with
 | 0=>0
 | n+1=>sm n d R j+d n*R n j
theorem cW {n:Nat}{d d':Nat->α}{R R':Nat->Nat->α}{j:Nat}(h:∀i,i<n->d i=d' i)(k:∀i,i<n->R i j=R' i j):sm n d R j=sm n d' R' j:=by
 induction n with
 | zero=>rfl
 | succ n ih=>
  show sm n d R j+d n*R n j=sm n d' R' j+d' n*R' n j
  rw[ih (λi hi=>h i (by omega)) (λi hi=>k i (by omega)),h n (by omega),k n (by omega)]
theorem iI {n:Nat}{R:Nat->Nat->α}{j:Nat}:sm n (λ_=>0) R j=0:=by
 induction n with
 | zero=>rfl
 | succ n ih=>
  show sm n (λ_=>0) R j+0*R n j=0
  rw[ih];grind
theorem j9 {n:Nat}(a:α){d e:Nat->α}{R:Nat->Nat->α}{j:Nat}:sm n (λi=>a*d i+e i) R j=a*sm n d R j+sm n e R j:=by
 induction n with
 | zero=>show(0:α)=a*0+0;grind
 | succ n ih=>
  show sm n (λi=>a*d i+e i) R j+(a*d n+e n)*R n j=a*(sm n d R j+d n*R n j)+(sm n e R j+e n*R n j)
  rw[ih];grind
theorem iJ {n:Nat}{R:Nat->Nat->α}{j k:Nat}(hk:k<n):sm n (λi=>if i=k then 1 else 0) R j=R k j:=by
 induction n with
 | zero=>omega
 | succ n ih=>
  show sm n (λi=>if i=k then 1 else 0) R j+(if n=k then 1 else 0)*R n j=R k j
  by_cases h:n=k
  ·subst h
   rw[Jl rfl,cW (d':=λ_=>0) (λi hi=>by show(if i=n then (1:α) else 0)=0;rw[Jk (by omega)]) (λi hi=>rfl),iI];grind
  ·rw[ih (by omega),Jk h];grind
def jQ (W n:Nat)(R:Nat->Nat->α)(k:Nat):Nat->α:=λj=>if j<W then R k j else if j<W+n then (if j-W=k then 1 else 0) else 0
theorem Mz {W n:Nat}{R:Nat->Nat->α}{S:List (Nat->α)}(hS:∀r∈S,∃k,k<n/\r=jQ W n R k){v:Nat->α}(h:gW S v):(∀j,j<W->v j=sm n (λi=>v (W+i)) R j)/\∀j,W+n<=j->v j=0:=by
 induction h with
 | zero=>exact⟨λj _=>iI.symm,λ_ _=>rfl⟩
 | @add r v a hr _ ih=>
  obtain⟨k,hk,rfl⟩:=hS r hr;refine⟨λj hj=>?_,λj hj=>?_⟩
  ·show a*jQ W n R k j+v j=_
   rw[j9 (n:=n) a (d:=λi=>jQ W n R k (W+i)) (e:=λi=>v (W+i)),<- ih.1 j hj]
   congr 1
   rw[cW (n:=n) (d':=λi=>if i=k then 1 else 0) (λi hi=>?_) (λi hi=>rfl),iJ hk]
   ·show a*(if j<W then R k j else _)=_
    rw[Jl hj]
   ·show(if W+i<W then R k (W+i) else if W+i<W+n then (if W+i-W=k then (1:α) else 0) else 0)=_
    rw[Jk (by omega),Jl (by omega),Zc]
  ·show a*(if j<W then R k j else if j<W+n then _ else 0)+v j=0
   rw[Jk (by omega),Jk (by omega),ih.2 j hj];grind
theorem BS {W n:Nat}{R:Nat->Nat->α}(d:Nat->α):∀m,m<=n->gW ((Yk n).map (jQ W n R)) λj=>sm m d (jQ W n R) j
 | 0,_=>.zero
 | m+1,hm=>(gW.add (d m) (List.mem_map.mpr ⟨m,List.mem_range.mpr (by omega),rfl⟩) (BS d m (by omega))).of λj=>by
   show d m*jQ W n R m j+sm m d (jQ W n R) j=sm m d (jQ W n R) j+d m*jQ W n R m j
   grind
theorem MA {W n:Nat}{R:Nat->Nat->α}{d:Nat->α}:(∀j,j<W->sm n d (jQ W n R) j=sm n d R j)/\(∀i,i<n->sm n d (jQ W n R) (W+i)=d i)/\∀j,W+n<=j->sm n d (jQ W n R) j=0:=by
 refine⟨λj hj=>cW (λi _=>rfl) λi _=>by show(if j<W then R i j else _)=_;rw[Jl hj],λi hi=>?_,λj hj=>?_⟩
 ·have e:∀m,m<=n->sm m d (jQ W n R) (W+i)=if i<m then d i else 0:=by
   intro m;induction m with
   | zero=>intro _;rw[Jk (by omega)];rfl
   | succ m ih=>
    intro hm;show sm m d (jQ W n R) (W+i)+d m*(if W+i<W then R m (W+i) else if W+i<W+n then (if W+i-W=m then (1:α) else 0) else 0)=_
    rw[ih (by omega),Jk (show ¬ W+i<W by omega),Jl (show W+i<W+n by omega),Zc]
    by_cases h1:i=m
    ·subst h1
     rw[Jk (show ¬ i<i by omega),Jl rfl,Jl (show i<i+1 by omega)];grind
    ·rw[Jk h1]
     by_cases h2:i<m
     ·rw[Jl h2,Jl (show i<m+1 by omega)];grind
     ·rw[Jk h2,Jk (show ¬ i<m+1 by omega)];grind
  rw[e n (Yd n),Jl hi]
 ·have:sm n d (jQ W n R) j=sm n d (λ_ _=>0) j:=cW (λi _=>rfl) λi _=>by
   show(if j<W then R i j else if j<W+n then _ else 0)=0
   rw[Jk (by omega),Jk (by omega)]
  rw[this];have z:∀m,sm m d (λ_ _=>(0:α)) j=0:=λm=>by
   induction m with
   | zero=>rfl
   | succ m ih=>show sm m d (λ_ _=>(0:α)) j+d m*0=0;rw[ih];grind
  exact z n
structure C8 (W n:Nat)(R:Nat->Nat->α)(k:Nat)(S:List (Nat->α)):Prop where
 sub:∀r∈S,gW ((Yk n).map (jQ W n R)) r
 nil:∀r∈S,∀j,j<k->r j=0
 all:∀v,gW ((Yk n).map (jQ W n R)) v->(∀j,j<k->v j=0)->gW S v
theorem C8.start {W n:Nat}{R:Nat->Nat->α}:C8 W n R 0 ((Yk n).map (jQ W n R)):=⟨λr h=>.mem h,λr _ j hj=>Jr hj (Wm _),λv h _=>h⟩
theorem C8.skip {W n k:Nat}{R:Nat->Nat->α}{S:List (Nat->α)}(h:C8 W n R k S)(h0:∀r∈S,r k=0):C8 W n R (k+1) S:=
 ⟨h.sub,λr hr j hj=>by
  by_cases e:j=k
  ·rw[e];exact h0 r hr
  ·exact h.nil r hr j (by omega),λv hv h1=>h.all v hv λj hj=>h1 j (by omega)⟩
theorem C8.step {W n k:Nat}{R:Nat->Nat->α}{S S':List (Nat->α)}{r s0:Nat->α}{b:α}(h:C8 W n R k S)(h0:s0∈S)(e0:∀i,r i=b*s0 i)(e1:r k=1)(hs:∀s∈S,s=s0\/(λi=>s i-s k*r i)∈S')(hs':∀t∈S',∃s∈S,t=λi=>s i-s k*r i):C8 W n R (k+1) S':=by
 refine⟨λt ht=>?_,λt ht j hj=>?_,λv hv h1=>?_⟩
 ·obtain⟨s,hs,rfl⟩:=hs' t ht
  exact(gW.back e0 h0 hs).trans h.sub
 ·obtain⟨s,hs,rfl⟩:=hs' t ht
  show s j-s k*r j=0
  by_cases e:j=k
  ·rw[e,e1];grind
  ·rw[e0 j,h.nil s hs j (by omega),h.nil s0 h0 j (by omega)];grind
 ·have:=(h.all v hv λj hj=>h1 j (by omega)).step e0 e1 hs
  refine this.of λi=>?_
  rw[h1 k (by omega)];grind
theorem C8.done {W n:Nat}{R:Nat->Nat->α}{S:List (Nat->α)}(h:C8 W n R W S):(∀r∈S,∀j,j<W->sm n (λi=>r (W+i)) R j=0)/\∀d:Nat->α,(∀j,j<W->sm n d R j=0)->∃v,gW S v/\∀i,i<n->v (W+i)=d i:=by
 refine⟨λr hr j hj=>?_,λd hd=>?_⟩
 ·have:=(Mz (W:=W) (n:=n) (R:=R) (λr hr=>by obtain⟨k,hk,e⟩:=List.mem_map.mp hr;exact⟨k,List.mem_range.mp hk,e.symm⟩) (h.sub r hr)).1 j hj
  rw[<- this];exact h.nil r hr j hj
 ·obtain⟨a,b,_⟩:=MA (W:=W) (n:=n) (R:=R) (d:=d)
  exact⟨_,h.all _ (BS d n (Yd n)) λj hj=>by rw[a j hj];exact hd j hj,b⟩
end
end Alg
namespace L2
open PySem Alg
end L2
namespace Alg
open Lean.Grind
section
variable {α:Type} [CommRing α]
def dr (a:aO α):aO α:=⟨λi=>nt α (i+1)*a.c (i+1)⟩
theorem wU (a b:aO α):dr (a+b)=dr a+dr b:=by
 apply aO.ext;funext i
 show nt α (i+1)*(a.c (i+1)+b.c (i+1))=nt α (i+1)*a.c (i+1)+nt α (i+1)*b.c (i+1)
 grind
theorem qf (x:α):dr (cst x)=0:=by
 apply aO.ext;funext i
 show nt α (i+1)*(if i+1=0 then x else 0)=0
 rw[Jk (by omega)];grind
theorem Af (x:α)(a:aO α):dr (cst x*a)=cst x*dr a:=by
 apply aO.ext;funext i
 show nt α (i+1)*(cst x*a).c (i+1)=(cst x*dr a).c i
 rw[cQ,cQ];show nt α (i+1)*(x*a.c (i+1))=x*(nt α (i+1)*a.c (i+1))
 grind
theorem Vj (a:aO α)(i:Nat):(X*a).c i=if i=0 then 0 else a.c (i-1):=by
 show(mon 1 1*a).c i=_
 rw[jh];by_cases h:i=0
 ·rw[Jk (by omega),Jl h]
 ·rw[Jl (by omega),Jk h];grind
theorem MB (a:aO α):dr (X*a)=a+X*dr a:=by
 apply aO.ext;funext i
 show nt α (i+1)*(X*a).c (i+1)=a.c i+(X*dr a).c i
 rw[Vj,Vj,Jk (by omega),Wv]
 by_cases h:i=0
 ·subst h
  rw[Jl rfl,nI];grind
 ·rw[Jk h]
  show nt α (i+1)*a.c i=a.c i+nt α (i-1+1)*a.c (i-1+1)
  rw[show i-1+1=i by omega]
  show(nt α i+1)*a.c i=a.c i+nt α i*a.c i
  grind
theorem Dg.dr {a:aO α}{n:Nat}(h:Dg a (n+1)):Dg (dr a) n:=λi hi=>by
 show nt α (i+1)*a.c (i+1)=0
 rw[h (i+1) (by omega)];grind
theorem cO.dr {a:aO α}:cO a->cO (dr a):=λ⟨n,h⟩=>⟨n,Dg.dr (h.mono (by omega))⟩
theorem zb (b:aO α):∀(n:Nat) (a:aO α),Dg a n->dr (a*b)=dr a*b+a*dr b
 | 0,a,h=>by
  rw[h.Mi,show(0:aO α)*b=0 by grind,show dr (0:aO α)=0 by rw[<- iT,qf,iT]];grind
 | n+1,a,h=>by
  have ih:=zb b n (tl a) h.tl;have e:=split0 a;rw[e,show(cst (a.c 0)+X*tl a)*b=cst (a.c 0)*b+X*(tl a*b) by grind,wU,Af,MB,ih,wU,qf,MB]
  grind
theorem DJ {a b:aO α}(h:cO a):dr (a*b)=dr a*b+a*dr b:=by
 obtain⟨n,h⟩:=h;exact zb b n a h
theorem DK {a:aO α}(h:cO a):∀n:Nat,dr (a ^ (n+1))=cst (nt α (n+1))*(a ^ n*dr a)
 | 0=>by
  rw[aH,aM,show(1:aO α)*a=a by grind,nI,lV];grind
 | n+1=>by
  rw[aH,DJ (h.pow _),DK h n,aH];have:cst (nt α (n+1+1))=cst (nt α (n+1))+1:=by
   show cst (nt α (n+1)+1)=_
   rw[z8,lV]
  rw[this];grind
theorem DL:∀n:Nat,nt (aO α) n=cst (nt α n)
 | 0=>iT.symm
 | n+1=>by
  show nt (aO α) n+1=cst (nt α n+1)
  rw[DL n,z8,lV]
theorem MC (k:Nat)(a:aO α)(i:Nat):((X:aO α) ^ k*a).c i=if k<=i then a.c (i-k) else 0:=by
 have e:∀k:Nat,(X:aO α) ^ k=mon 1 k:=by
  intro k;induction k with
  | zero=>rw[aM];rfl
  | succ k ih=>
   rw[aH,ih];apply aO.ext;funext i
   rw[jh];show(if k<=i then (1:α)*(if i-k=1 then 1 else 0) else 0)=if i=k+1 then 1 else 0
   by_cases h:k<=i
   ·rw[Jl h]
    by_cases h2:i-k=1
    ·rw[Jl h2,Jl (by omega)];grind
    ·rw[Jk h2,Jk (by omega)];grind
   ·rw[Jk h,Jk (by omega)]
 rw[e,jh];by_cases h:k<=i
 ·rw[Jl h,Jl h];grind
 ·rw[Jk h,Jk h]
theorem wV (hD:∀a b:aO α,cO a->cO b->a*b=0->a=0\/b=0){a:aO α}(pa:cO a):∀n:Nat,a ^ n=0->a=0\/(1:aO α)=0
 | 0,h=>by rw[aM] at h;exact .inr h
 | n+1,h=>by
  rw[aH] at h;rcases hD _ _ (pa.pow n) pa h with z|z
  ·exact wV hD pa n z
  ·exact .inl z
end
end Alg
namespace L2
open PySem Alg
section
variable {T:FE}
theorem FH (a b:aO T.α)(pa:cO a)(pb:cO b)(h:a*b=0):a=0\/b=0:=by
 obtain⟨n,na⟩:=NO pa;obtain⟨m,nb⟩:=NO pb;have hp:=My na nb;rw[h] at hp;have hj:=hp.uniq (⟨Dg.zero 0,.inl rfl⟩:Nz T 0 0);by_cases n0:n=0
 ·subst n0;exact .inl na.dg.Mi
 ·by_cases m0:m=0
  ·subst m0;exact .inr nb.dg.Mi
  ·rw[Jk (by omega)] at hj;omega
theorem PD:(1:aO T.α)≠0:=λz=>T.fld.1 (Jp (λs=>s.c 0) z)
theorem MD {r:Nat}(h0:r % T.p≠0):nt T.α r≠0:=by
 have pp:=(bM T.pr).1;obtain⟨y,hy,e⟩:=wO T.p T.pr (r % T.p) (Nat.mod_lt _ (by omega)) h0
 have hm:∀k,nt T.α (k % T.p)=nt T.α k:=λk=>by
  have h:=Jc k T.p;have h2:nt T.α k=nt T.α (T.p*(k / T.p)+k % T.p):=by rw[h]
  rw[h2,tO,nH,T.ch];grind
 intro z;have h1:nt T.α (r % T.p*y)=nt T.α 1:=by rw[<- hm (r % T.p*y),e,Z1 (by omega)]
 rw[nH,hm,z,nI] at h1;exact T.fld.1 (by rw[<- h1];grind)
end
end L2
namespace Alg
open Lean.Grind
section
variable {α:Type} [CommRing α]
theorem DM {p:Nat}(hc:nt α p=0)(k:Nat):nt α (k % p)=nt α k:=by
 have h:=Jc k p;have h2:nt α k=nt α (p*(k / p)+k % p):=by rw[h]
 rw[h2,tO,nH,hc];grind
end
end Alg
namespace L2
open PySem Alg
abbrev Zt (T:FE):Type:=(ground T.p T.pr).α
def zv {T:FE}(x:Zt T):Nat:=(show Zp T.p from x).v
section
variable {T:FE} {F:T.α->Nat->Zt T}
theorem Sa (z:Zt T):Alg.nt (Zt T) (zv z)=z:=by
 apply Zp.ext
 show(letI:=rZ (bM T.pr).1;Alg.nt (Zp T.p) (zv z):Zp T.p).v=(show Zp T.p from z).v
 rw[IS];exact Z1 (show Zp T.p from z).lt
end
end L2
namespace Alg
open Lean.Grind
abbrev Vc:=Nat->Int
def Gq (S:List Vc)(m:Int)(q:Nat)(v:Vc):Prop:=(∀j,q<=j->v j=0)/\∃u z:Vc,gW S u/\∀j,v j=u j+m*z j
theorem Gq.zero {S:List Vc}{m:Int}{q:Nat}:Gq S m q λ_=>0:=⟨λ_ _=>rfl,_,λ_=>0,.zero,λj=>by show(0:Int)=0+m*0;omega⟩
theorem Gq.gT {S:List Vc}{m:Int}{q:Nat}(a:Int){v w:Vc}(h:Gq S m q v)(k:Gq S m q w):Gq S m q λj=>a*v j+w j:=by
 obtain⟨h0,u,z,hu,e⟩:=h;obtain⟨k0,u',z',NP,e'⟩:=k;exact⟨λj hj=>by show a*v j+w j=0;rw[h0 j hj,k0 j hj];omega,_,λj=>a*z j+z' j,(hu.smul a).plus NP,λj=>by show a*v j+w j=a*u j+u' j+m*(a*z j+z' j);rw[e j,e' j];grind⟩
theorem Gq.of {S:List Vc}{m:Int}{q:Nat}{v w:Vc}(h:Gq S m q v)(e:∀j,v j=w j):Gq S m q w:=by rw[<- funext e];exact h
theorem Gq.mem {S:List Vc}{m:Int}{q:Nat}{r:Vc}(h:r∈S)(h0:∀j,q<=j->r j=0):Gq S m q r:=⟨h0,r,λ_=>0,.mem h,λj=>by show r j=r j+m*0;omega⟩
theorem Gq.Jt {S:List Vc}{m:Int}{q:Nat}{v w z:Vc}(h:Gq S m q v)(w0:∀j,q<=j->w j=0)(e:∀j,w j=v j+m*z j):Gq S m q w:=by
 obtain⟨h0,u,z',hu,e'⟩:=h;exact⟨w0,u,λj=>z j+z' j,hu,λj=>by rw[e j,e' j];grind⟩
theorem Gq.unit {S:List Vc}{m:Int}{q k:Nat}(hk:k<q):Gq S m q λj=>if j=k then m else 0:=by
 refine(Gq.zero (S:=S) (m:=m) (q:=q)).Jt (z:=λj=>if j=k then 1 else 0) (λj hj=>Jk (by omega)) λj=>?_
 by_cases e:j=k
 ·simp[e]
 ·simp[e]
theorem Gq.sm {S:List Vc}{m:Int}{q:Nat}{c:Vc}{T:Nat->Vc}:∀n,(∀i,i<n->Gq S m q (T i))->Gq S m q λj=>sm n c T j
 | 0,_=>.zero
 | n+1,h=>((h n (by omega)).gT (c n) (Gq.sm n λi hi=>h i (by omega))).of λj=>by
   show c n*T n j+Alg.sm n c T j=Alg.sm n c T j+c n*T n j
   omega
theorem gW.lead {S S':List Vc}{lead:Vc}{m:Int}(h:∀r∈S,∃r'∈S',∃(o:Int) (w:Vc),∀j,r j=r' j+o*lead j+m*w j){u:Vc}(hu:gW S u):∃(A:Int) (u' w:Vc),gW S' u'/\∀j,u j=A*lead j+u' j+m*w j:=by
 induction hu with
 | zero=>exact⟨0,_,λ_=>0,.zero,λj=>by show(0:Int)=0*lead j+0+m*0;grind⟩
 | @add r v a hr _ ih=>
  obtain⟨r',hr',o,w,e⟩:=h r hr;obtain⟨A,u',w',NP,e'⟩:=ih;exact⟨a*o+A,_,λj=>a*w j+w' j,.add a hr' NP,λj=>by show a*r j+v j=(a*o+A)*lead j+(a*r' j+u' j)+m*(a*w j+w' j);rw[e j,e' j];grind⟩
theorem Gq.step {S S':List Vc}{lead:Vc}{m t:Int}{q:Nat}(hs:∀r∈S,∃r'∈S',∃(o:Int) (w:Vc),∀j,r j=r' j+o*lead j+m*w j)(hx:∃x∈S',∃w:Vc,∀j,t*lead j=x j+m*w j)(hl:t*lead q=m)(hup:∀j,q+1<=j->lead j=0)(h0:∀r∈S',∀j,q<=j->r j=0)(m0:m≠0){g:Vc}(hg:Gq S m (q+1) g):∃(a:Int) (g':Vc),Gq S' m q g'/\∀j,g j=a*lead j+g' j:=by
 obtain⟨gz,u,z,hu,eg⟩:=hg;obtain⟨A,u',w,NP,eu⟩:=hu.lead hs;obtain⟨x,xs,wx,ex⟩:=hx;have w1:wx q=1:=by
  have:=ex q
  rw[hl,h0 x xs q (Yd q),Z5] at this;have e:m*(wx q-1)=0:=by grind
  rcases Int.mul_eq_zero.mp e with y|y
  ·exact Jr y m0
  ·omega
 have XI:∀j,g j=(A+(w q+z q)*t)*lead j+(u' j-(w q+z q)*x j+m*(w j+z j-(w q+z q)*wx j)):=λj=>by
  have:=ex j
  rw[eg j,eu j];grind
 refine⟨A+(w q+z q)*t,_,⟨λj hj=>?_,λj=>u' j-(w q+z q)*x j,λj=>w j+z j-(w q+z q)*wx j,(gW.add (-(w q+z q)) xs NP).of λj=>by show -(w q+z q)*x j+u' j=u' j-(w q+z q)*x j;grind,λj=>rfl⟩,XI⟩
 by_cases e:j=q
 ·subst e
  show u' j-(w j+z j)*x j+m*(w j+z j-(w j+z j)*wx j)=0
  rw[w1,h0 x xs j (Yd j),NP.DI λr hr=>h0 r hr j (Yd j)];grind
 ·have h1:=XI j
  rw[gz j (by omega),hup j (by omega)] at h1
  grind
theorem BU {n:Nat}{d d':Vc}{R R':Nat->Vc}{j:Nat}(h:∀i,i<n->d i*R i j=d' i*R' i j):sm n d R j=sm n d' R' j:=by
 induction n with
 | zero=>rfl
 | succ n ih=>
  show sm n d R j+d n*R n j=sm n d' R' j+d' n*R' n j
  rw[ih λi hi=>h i (by omega),h n (by omega)]
theorem DN {n q:Nat}(hq:q<n){c:Vc}(c0:c q=0){T:Nat->Vc}{lead:Vc}{a:Int}(j:Nat):sm n (λi=>if i=q then a else c i) (λi=>if i=q then lead else T i) j=sm n c T j+a*lead j:=by
 induction n with
 | zero=>omega
 | succ n ih=>
  show sm n _ _ j+(if n=q then a else c n)*(if n=q then lead else T n) j=sm n c T j+c n*T n j+a*lead j
  by_cases e:n=q
  ·rw[Jl e,Jl e,BU (d':=c) (R':=T) λi hi=>by
    show(if i=q then a else c i)*(if i=q then lead else T i) j=_
    rw[Jk (by omega),Jk (by omega)]]
   rw[e,c0];grind
  ·rw[Jk e,Jk e,ih (by omega)];grind
structure Ju (n:Nat)(R:List Vc)(m:Int)(q:Nat)(T:Nat->Vc)(S:List Vc):Prop where
 low:∀r∈S,∀j,q<=j->r j=0
 sub:∀r∈S,Gq R m n r
 told:∀i,q<=i->i<n->Gq R m n (T i)
 lX:∀i,q<=i->i<n->∀j,i<j->T i j=0
 all:∀v,Gq R m n v->∃c g:Vc,(∀i,i<q->c i=0)/\Gq S m q g/\∀j,v j=sm n c T j+g j
theorem Ju.step {n q:Nat}{R S S':List Vc}{m t:Int}{T:Nat->Vc}{lead:Vc}(h:Ju n R m (q+1) T S)(hq:q<n)(m0:m≠0)
  (wW:Gq R m n lead) (hup:∀j,q+1<=j->lead j=0) (hl:t*lead q=m)
  (hs:∀r∈S,∃r'∈S',∃(o:Int) (w:Vc),∀j,r j=r' j+o*lead j+m*w j) (hx:∃x∈S',∃w:Vc,∀j,t*lead j=x j+m*w j)
  (hb:∀r'∈S',(∃r∈S,∃(o:Int) (w:Vc),∀j,r j=r' j+o*lead j+m*w j)\/∃w:Vc,∀j,t*lead j=r' j+m*w j) (h0:∀r∈S',∀j,q<=j->r j=0):Ju n R m q (λi=>if i=q then lead else T i) S':=by
 refine⟨h0,λr' hr'=>?_,λi hi hn=>?_,λi hi hn j hj=>?_,λv hv=>?_⟩
 ·rcases hb r' hr' with ⟨r,hr,o,w,e⟩|⟨w,e⟩
  ·exact(wW.gT (-o) (h.sub r hr)).Jt (z:=λj=>-w j) (λj hj=>h0 r' hr' j (by omega)) λj=>by have:=e j;grind
  ·exact(wW.gT t Gq.zero).Jt (z:=λj=>-w j) (λj hj=>h0 r' hr' j (by omega)) λj=>by have:=e j;grind
 ·by_cases e:i=q
  ·rw[Jl e];exact wW
  ·rw[Jk e];exact h.told i (by omega) hn
 ·by_cases e:i=q
  ·rw[Jl e];exact hup j (by omega)
  ·rw[Jk e];exact h.lX i (by omega) hn j hj
 ·obtain⟨c,g,c0,hg,e⟩:=h.all v hv
  obtain⟨a,g',hg',e'⟩:=hg.step hs hx hl hup h0 m0;refine⟨λi=>if i=q then a else c i,g',λi hi=>?_,hg',λj=>?_⟩
  ·show(if i=q then a else c i)=0
   rw[Jk (by omega)];exact c0 i (by omega)
  ·rw[DN hq (c0 q (by omega)) j,e j,e' j];omega
theorem Ju.start {n:Nat}{R:List Vc}{m:Int}{T:Nat->Vc}{S:List Vc}(h1:∀r∈S,Gq R m n r)(h2:∀r∈R,∃r'∈S,∃w:Vc,∀j,r j=r' j+m*w j):Ju n R m n T S:=by
 refine⟨λr hr=>(h1 r hr).1,h1,λi hi hn=>by omega,λi hi hn=>by omega,λv hv=>⟨λ_=>0,v,λ_ _=>rfl,?_,λj=>by rw[iI];omega⟩⟩
 obtain⟨v0,u,z,hu,e⟩:=hv;obtain⟨A,u',w,NP,eu⟩:=hu.lead (S':=S) (lead:=λ_=>0) (m:=m) λr hr=>by
  obtain⟨r',hr',w,e⟩:=h2 r hr;exact⟨r',hr',0,w,λj=>by rw[e j];omega⟩
 exact⟨v0,u',λj=>w j+z j,NP,λj=>by rw[e j,eu j];grind⟩
structure c7 (n:Nat)(T:Nat->Vc):Prop where
 lX:∀i,i<n->∀j,i<j->T i j=0
 nz:∀i,i<n->T i i≠0
def jt (n:Nat)(T:Nat->Vc)(v:Vc):Prop:=∃c:Vc,∀j,v j=sm n c T j
theorem Ju.done {n:Nat}{R S:List Vc}{m:Int}{T:Nat->Vc}(h:Ju n R m 0 T S){v:Vc}:Gq R m n v↔jt n T v:=by
 refine⟨λhv=>?_,λ⟨c,e⟩=>(Gq.sm n λi hi=>h.told i (by omega) hi).of λj=>(e j).symm⟩
 obtain⟨c,g,_,hg,e⟩:=h.all v hv;exact⟨c,λj=>by rw[e j,hg.1 j (by omega)];omega⟩
theorem jB {n q j:Nat}{c:Vc}{T:Nat->Vc}(hT:∀i,i<n->T i j=0):sm n c T j=0:=by
 induction n with
 | zero=>rfl
 | succ n ih=>
  show sm n c T j+c n*T n j=0
  rw[ih λi hi=>hT i (by omega),hT n (by omega)];omega
theorem c7.at_ {n:Nat}{T:Nat->Vc}(h:c7 n T)(c:Vc){q:Nat}(hq:q<n):sm (q+1) c T q=c q*T q q:=by
 show sm q c T q+c q*T q q=_
 rw[jB (q:=q) λi hi=>h.lX i (by omega) q hi];omega
theorem c7.uniq {n:Nat}{T:Nat->Vc}(h:c7 n T):∀q,q<=n->∀ {c c':Vc},(∀j,sm q c T j=sm q c' T j)->∀i,i<q->c i=c' i
 | 0,_,c,c',_,i,hi=>by omega
 | q+1,hq,c,c',e,i,hi=>by
  have e1:c q=c' q:=by
   have:=e q
   rw[h.at_ c (by omega),h.at_ c' (by omega)] at this
   exact Int.eq_of_mul_eq_mul_right (h.nz q (by omega)) this
  by_cases y:i=q
  ·rw[y];exact e1
  ·refine c7.uniq h q (by omega) (λj=>?_) i (by omega)
   have h1:sm q c T j+c q*T q j=sm q c' T j+c' q*T q j:=e j;rw[e1] at h1;omega
theorem jt.gT {n:Nat}{T:Nat->Vc}(a:Int){v w:Vc}(h:jt n T v)(k:jt n T w):jt n T λj=>a*v j+w j:=by
 obtain⟨c,e⟩:=h;obtain⟨d,e'⟩:=k;exact⟨λi=>a*c i+d i,λj=>by show a*v j+w j=_;rw[j9,e j,e' j]⟩
theorem jt.of {n:Nat}{T:Nat->Vc}{v w:Vc}(h:jt n T v)(e:∀j,v j=w j):jt n T w:=by rw[<- funext e];exact h
theorem jt.row {n:Nat}{T:Nat->Vc}{i:Nat}(hi:i<n):jt n T (T i):=⟨λk=>if k=i then 1 else 0,λj=>(iJ hi).symm⟩
theorem jt.zero {n:Nat}{T:Nat->Vc}:jt n T λ_=>0:=⟨λ_=>0,λj=>iI.symm⟩
theorem jt.sm {n:Nat}{T:Nat->Vc}{c:Vc}{U:Nat->Vc}:∀k,(∀i,i<k->jt n T (U i))->jt n T λj=>sm k c U j
 | 0,_=>.zero
 | k+1,h=>((h k (by omega)).gT (c k) (jt.sm k λi hi=>h i (by omega))).of λj=>by
   show c k*U k j+Alg.sm k c U j=Alg.sm k c U j+c k*U k j
   omega
theorem c7.cut {n:Nat}{T:Nat->Vc}(h:c7 n T){v:Vc}{q:Nat}(hv:jt n T v)(v0:∀j,q<=j->v j=0)(hq:q<=n):∃c:Vc,∀j,v j=sm q c T j:=by
 obtain⟨c,e⟩:=hv;have key:∀k,q<=k->k<=n->(∀j,v j=sm k c T j)->∃c:Vc,∀j,v j=sm q c T j:=by
  intro k;induction k with
  | zero=>
   intro h1 _ e;have h5:q=0:=by omega
   rw[h5];exact⟨c,e⟩
  | succ k ih=>
   intro h1 h2 e;by_cases y:q=k+1
   ·subst y;exact⟨c,e⟩
   ·refine ih (by omega) (by omega) λj=>?_
    have h3:=e k;rw[v0 k (by omega),h.at_ c (by omega)] at h3
    rcases Int.mul_eq_zero.mp h3.symm with z|z
    ·rw[e j]
     show Alg.sm k c T j+c k*T k j=_
     rw[z];omega
    ·exact Jr z (h.nz k (by omega))
 exact key n hq (Yd n) e
theorem c7.dvd {n:Nat}{T U:Nat->Vc}(hT:c7 n T)(hU:c7 n U)(sub:∀i,i<n->jt n T (U i)){i:Nat}(hi:i<n):T i i ∣ U i i:=by
 obtain⟨c,e⟩:=hT.cut (q:=i+1) (sub i hi) (λj hj=>hU.lX i hi j (by omega)) (by omega)
 have:=e i
 rw[hT.at_ c hi] at this;exact⟨c i,by rw[this,Zf]⟩
theorem c7.same {n:Nat}{T U:Nat->Vc}(hT:c7 n T)(hU:c7 n U)(sub:∀i,i<n->jt n T (U i))(eq:∀i,i<n->U i i=T i i):∀i,i<n->jt n U (T i):=by
 have key:∀k,∀i,i<k->i<n->jt n U (T i):=by
  intro k;induction k with
  | zero=>intro i hi;omega
  | succ k ih=>
   intro i hik hi;by_cases y:i<k
   ·exact ih i y hi
   obtain rfl:i=k:=by omega
   obtain⟨c,e⟩:=hT.cut (q:=i+1) (sub i hi) (λj hj=>hU.lX i hi j (by omega)) (by omega)
   have c1:c i=1:=by
    have:=e i
    rw[hT.at_ c hi,eq i hi] at this;have z:=hT.nz i hi;have:(c i-1)*T i i=0:=by grind
    rcases Int.mul_eq_zero.mp this with y|y
    ·omega
    ·exact Jr y z
   refine(jt.gT (-1) (jt.sm (c:=c) (U:=T) i λk hk=>ih k hk (by omega)) (jt.row (T:=U) hi)).of λj=>?_
   have h3:U i j=Alg.sm i c T j+c i*T i j:=e j;rw[c1] at h3;omega
 exact λi hi=>key n i hi hi
end Alg
namespace L2
open PySem PySem.Spec PyProof.Rows Alg
def rE (n:Nat)(v:Vc):El:=kO n λj=>.num (v j)
def mE (r c:Nat)(A:Nat->Vc):El:=kO r λi=>rE c (A i)
def tE (r c d:Nat)(A:Nat->Nat->Vc):El:=kO r λi=>mE c d (A i)
def lv (n:Nat)(v:Vc):List Int:=(Yk n).map v
theorem bW (n:Nat)(v:Vc):(lv n v).length=n:=by unfold lv;rw[Ya,Yf]
theorem d7 {n:Nat}{v:Vc}{j:Nat}(h:j<n):(lv n v)[j]?=j? (v j):=by unfold lv;rw[Ye,Y1 h];rfl
theorem lY (n:Nat)(v:Vc)(j:Nat):ao (lv n v) j=if j<n then v j else 0:=by
 unfold ao;by_cases h:j<n
 ·rw[Jl h,Yb,d7 h];rfl
 ·rw[Jk h,Yb,List.getElem?_eq_none_iff.mpr (by rw[bW];omega)];rfl
theorem wX {n:Nat}{e d:Nat->El}(h:∀i,i<n->e i=d i):kO n e=kO n d:=by
 unfold kO;congr 1
 exact Wg λi hi=>h i (List.mem_range.mp hi)
theorem wY {n:Nat}{v w:Vc}(h:∀j,j<n->v j=w j):rE n v=rE n w:=wX λj hj=>by rw[h j hj]
theorem Jv {n:Nat}{v:Vc}{H:Hp}{ok:o?->Prop}{l:o?}(h:H l=j? (.lst ((lv n v).map V.int)))(k:ok l):Rep H ok (.ref l) (rE n v):=by
 refine Cf.rep (vs:=(lv n v).map V.int) ⟨by rw[Ya,bW],λi hi=>⟨.int (v i),by rw[Ye,d7 hi];rfl,.num _⟩⟩ h k
theorem ME {H:Hp}{ok:o?->Prop}{v:V}{n:Int}(h:Rep H ok v (.num n)):v=.int n:=by cases h;rfl
theorem eU {n:Nat}{v:Vc}{H:Hp}{ok:o?->Prop}{x:V}(h:Rep H ok x (rE n v)):∃l,x=.ref l/\H l=j? (.lst ((lv n v).map V.int))/\ok l:=by
 obtain⟨l,vs,rfl,hl,k,C⟩:=h.cf;refine⟨l,rfl,?_,k⟩
 have:vs=(lv n v).map V.int:=by
  refine Z7 λi=>?_
  by_cases hi:i<n
  ·obtain⟨y,h1,r⟩:=C.at_ i hi
   rw[h1,Ye,d7 hi,ME r];rfl
  ·rw[List.getElem?_eq_none_iff.mpr (by rw[C.len];omega),List.getElem?_eq_none_iff.mpr (by rw[Ya,bW];omega)]
 rw[<- this];exact hl
theorem pT {n j:Nat}{v:Vc}(h:j<n):qZ ((lv n v).map V.int) (j:Int)=j? (.int (v j)):=f9 (by rw[Ye,d7 h];rfl)
section
variable {K:bX} {D:o?} {st:St} {g:TG} {te:TE} {H1:Hp} {Q:VK} {n:Nat}
theorem qg {a:o?}{xs:List V}(e:Nat->El)(hn:xs.length=n)(h:H1 a=j? (.lst xs))(hD:H1 D=q?)(hz:n<=1000)
  (hs:∀i x H2 (Q2:VK),i<n->aI H1 H2->xs[i]?=j? x->(∀r H3,aI H2 H3->Rep H3 (eK H2) r (e i)->Q2 r H3)->g x st H2 λσ3 H3=>te σ3 H3 Q2)
  (q:∀H2,aI H1 H2->Rep H2 (eK H1) (.ref D) (kO n e)->Q (.ref D) H2):uJ (OE K a) D st g LU te Q H1:=by
 refine gY (xs:=xs) (λi ys H2=>aI H1 H2/\Cf H2 (Off H1 D) ys i e) ⟨aB hD _,.nil⟩ (λi ys H2 _ h'=>aQ.of (h'.1 _ _ h)) ?_ ?_
 ·rintro i m x ys H2 hm hi hx hy hlen ⟨gg,cy⟩
  refine hs i x H2 _ (by omega) gg hx λr H3 g3 rr=>?_
  exact CW.emit hm hi (by rw[C?];omega) (g3 _ _ hy) hlen ⟨aI.bE (gg.trans g3) hD _,((cy.same g3).push (rr.Mp gg hy)).upd⟩
 ·rintro ys H2 hy ⟨gg,cy⟩
  rw[hn] at cy;exact q H2 gg (cy.IW.rep hy hD)
theorem BV {lo:Int}(e:Nat->El)(hD:H1 D=q?)(hz:n<=1000)
  (hs:∀i H2 (Q2:VK),i<n->aI H1 H2->(∀r H3,aI H2 H3->Rep H3 (eK H2) r (e i)->Q2 r H3)->g (.int (lo+(i:Int))) st H2 λσ3 H3=>te σ3 H3 Q2)
  (q:∀H2,aI H1 H2->Rep H2 (eK H1) (.ref D) (kO n e)->Q (.ref D) H2):uJ (LF lo n) D st g LU te Q H1:=by
 refine jx (λi ys H2=>aI H1 H2/\Cf H2 (Off H1 D) ys i e) ⟨aB hD _,.nil⟩ ?_ ?_
 ·rintro i m ys H2 hm hi hy hlen ⟨gg,cy⟩
  refine hs i H2 _ hi gg λr H3 g3 rr=>?_
  exact CW.emit hm hi (by rw[C?];omega) (g3 _ _ hy) hlen ⟨aI.bE (gg.trans g3) hD _,((cy.same g3).push (rr.Mp gg hy)).upd⟩
 ·rintro ys H2 hy ⟨gg,cy⟩
  exact q H2 gg (cy.IW.rep hy hD)
theorem PF {a b:o?}{xs ys:List V}(e:Nat->El)(hn:xs.length=n)(hm:ys.length=n)(ha:H1 a=j? (.lst xs))(hb:H1 b=j? (.lst ys))(hD:H1 D=q?)(hz:n<=1000)
  (hs:∀i x y t H2 (Q2:VK),i<n->aI H1 H2->xs[i]?=j? x->ys[i]?=j? y->H2 t=j? (.tup [x,y])->(∀r H3,aI H2 H3->Rep H3 (eK H2) r (e i)->Q2 r H3)->g (.ref t) st H2 λσ3 H3=>te σ3 H3 Q2)
  (q:∀H2,aI H1 H2->Rep H2 (eK H1) (.ref D) (kO n e)->Q (.ref D) H2):uJ (TQ K a b) D st g LU te Q H1:=by
 refine BO (xs:=xs) (ys:=ys) (λi zs H2=>aI H1 H2/\Cf H2 (Off H1 D) zs i e) (by rw[hn,hm]) ⟨aB hD _,.nil⟩ (λi zs H2 _ h=>⟨aQ.of (h.1 _ _ ha),aQ.of (h.1 _ _ hb)⟩) ?_ ?_
 ·rintro i m x y zs H2 r hm hi hx hy hz' hlen ⟨gg,cz⟩ hr
  have kr:=aB hr (.tup [x,y]);refine hs i x y r _ _ (by omega) (gg.trans kr) hx hy av λr2 H3 g3 rr=>?_
  exact CW.emit hm hi (by rw[C?];omega) (g3 _ _ (kr _ _ hz')) hlen ⟨aI.bE ((gg.trans kr).trans g3) hD _,((cz.same (kr.trans g3)).push (rr.Mp (gg.trans kr) (kr _ _ hz'))).upd⟩
 ·rintro zs H2 hz' ⟨gg,cz⟩
  rw[hn] at cz;exact q H2 gg (cz.IW.rep hz' hD)
end
end L2
namespace L2
open PySem PySem.Spec PyProof.Rows
section
variable {X:Cx}
def Sb (K:bX):List V->Hp->VK->Prop:=λxs H Q=>∃p,∃ns:List Int,xs=[.ref p]/\aQ K H p (ns.map V.int)/\Q (.int ns.sum) H
theorem DO {ys:Array (Int×Tok)}{ns:List Int}(e2:ys.toList.map (·.1)=ns):preSum (numAt ys) ys.size=ns.sum:=by
 have key:∀n,n<=ns.length->preSum (numAt ys) n=(ns.take n).sum:=by
  intro n;induction n with
  | zero=>intro _;simp[preSum]
  | succ n ih=>
   intro h;rw[List.take_succ_eq_append_getElem (by omega),List.sum_append,<- ih (by omega)]
   show preSum (numAt ys) n+numAt ys n=_
   rw[Dr e2,fh (by omega)]
   simp
 have hsz:ys.size=ns.length:=by rw[<- e2];simp
 rw[hsz,key _ (Yd _),List.take_length]
theorem Jw (hc:X.calm=true):nj X (.builtin "sum") (Sb X.K):=by
 intro pins s σ H xs us Q I rv h;obtain⟨p,ns,rfl,hq,q⟩:=h;obtain⟨u,rfl,ru⟩:=vals1 rv;cases (show u=I! p from ru)
 obtain⟨its,r,hp,_⟩:=I.list hq;obtain⟨ys,e1,e2⟩:=wH r;have hl:=hp.isList;rw[e1] at hl;refine sum_intListG (I.ok.hd hc) hl λh' tk t hk=>?_
 refine⟨.int _,H,I.kept (h':=h') (t':=tk) hk,⟨t,rfl⟩,?_⟩
 rw[DO e2];exact q
theorem tR {K:bX}(h:X.K=K)(hc:X.calm=true):nj X (.builtin "sum") (Sb K):=by subst h;exact Jw hc
end
end L2
namespace L2
open PySem PySem.Spec PySem.W PyProof.Rows
section
variable {X:Cx}
def sNo:TS:=λ_ _ _=>False
theorem FJ {st:Q?}:PS X st sNo:=⟨λ_ _ _ _ _ _ h=>h.elim⟩
end
end L2
namespace L2
theorem Ag {f:Nat->Int}:∀ {n:Nat},(∀i,i<n->f i=1)->dM n f=1
 | 0,_=>rfl
 | n+1,h=>by
  show dM n f*f n=1
  rw[Ag λi hi=>h i (by omega),h n (by omega)];rfl
def dX (i k:Nat):Int:=if k=i then 1 else 0
theorem oK (n:Nat):det n dX=1:=by
 rw[rR n dX λi j h _=>show dX i j=0 from Jk (by omega)]
 exact Ag λi _=>Jl rfl
theorem lZ {f:Nat->Int}{k n:Nat}(hk:k<n)(h:∀i,i<n->i≠k->f i=0):aW n f=f k:=by rw[eH,jz hk h]
theorem FL (f g:Nat->Int)(n:Nat):aW n (λi=>f i+g i)=aW n f+aW n g:=by rw[eH,eH,eH,rO]
theorem r_ {n i:Nat}(hi:i<n)(f:Nat->Int):aW n (λk=>dX i k*f k)=f i:=by
 rw[lZ hi λk _ hne=>by show dX i k*f k=0;unfold dX;rw[Jk hne,Y4]]
 show dX i i*f i=f i
 unfold dX;rw[Jl rfl,Zg]
theorem c8 {n c:Nat}(hc:c<n)(f:Nat->Int):aW n (λk=>f k*dX k c)=f c:=by
 rw[lZ hc λk _ hne=>by show f k*dX k c=0;unfold dX;rw[Jk (λz=>hne z.symm),Yr]]
 show f c*dX c c=f c
 unfold dX;rw[Jl rfl,Zx]
theorem wZ {n m:Nat}{M:Mx}(h:∀i j,n<=i->i<n+m->j<n->M i j=0):det (n+m) M=det n M*det m λr c=>M (n+r) (n+c):=by
 let Pm:Mx:=λi k=>if i<n then dX i k else if k<n then 0 else M i k
 let Qm:Mx:=λk c=>if k<n then M k c else dX k c
 let Um:Mx:=λi k=>if i<n then (if k<n then dX i k else M i k) else dX i k
 let Vm:Mx:=λk c=>if k<n then (if c<n then M k c else 0) else dX k c
 have e1:det (n+m) M=det (n+m) (gp (n+m) Pm Qm):=aP λi c hi hc=>by
  show M i c=aW (n+m) λk=>Pm i k*Qm k c
  by_cases a:i<n
  ·have:(λk=>Pm i k*Qm k c)=λk=>dX i k*Qm k c:=funext λk=>by show(if i<n then _ else _)*_=_;rw[Jl a]
   rw[this,r_ hi λk=>Qm k c]
   show M i c=if i<n then M i c else _
   rw[Jl a]
  ·have:(λk=>Pm i k*Qm k c)=λk=>(if k<n then 0 else M i k)*dX k c:=funext λk=>by
    show(if i<n then _ else (if k<n then 0 else M i k))*(if k<n then _ else _)=_
    rw[Jk a];by_cases y:k<n
    ·rw[Jl y,Y4,Y4]
    ·rw[Jk y,Jk y]
   rw[this,c8 hc λk=>if k<n then 0 else M i k]
   split
   ·exact h i c (by omega) hi (by assumption)
   ·rfl
 have e2:det (n+m) Pm=det m λr c=>M (n+r) (n+c):=by
  rw[oG (A:=dX) m Pm (λr c hr hc=>Jl hr) (λr c hr hc=>by show(if r<n then dX r c else _)=0;rw[Jl hr];exact Jk (by omega)),oK,Zg]
  refine aP λr c hr hc=>?_
  show(if n+r<n then _ else if n+c<n then 0 else M (n+r) (n+c))=_
  rw[Jk (by omega),Jk (by omega)]
 have e3:det (n+m) Qm=det (n+m) (gp (n+m) Um Vm):=aP λi c hi hc=>by
  show Qm i c=aW (n+m) λk=>Um i k*Vm k c
  by_cases a:i<n
  ·show(if i<n then M i c else _)=_
   rw[Jl a];have:(λk=>Um i k*Vm k c)=λk=>dX i k*(if c<n then M k c else 0)+(if k<n then 0 else M i k)*dX k c:=funext λk=>by
    show(if i<n then (if k<n then dX i k else M i k) else _)*(if k<n then (if c<n then M k c else 0) else dX k c)=_
    rw[Jl a];by_cases y:k<n
    ·rw[Jl y,Jl y,Jl y,Y4,Z4]
    ·rw[Jk y,Jk y,Jk y]
     have:dX i k=0:=Jk (by omega)
     rw[this,Y4,Z5]
   rw[this,FL,r_ hi λk=>if c<n then M k c else 0,c8 hc λk=>if k<n then 0 else M i k]
   split
   ·omega
   ·omega
  ·show(if i<n then M i c else dX i c)=_
   rw[Jk a];have:(λk=>Um i k*Vm k c)=λk=>dX i k*Vm k c:=funext λk=>by
    show(if i<n then _ else dX i k)*_=_
    rw[Jk a]
   rw[this,r_ hi λk=>Vm k c]
   show _=if i<n then _ else dX i c
   rw[Jk a]
 have e4:det (n+m) Um=1:=by
  rw[rR (n+m) Um λi j hij hi=>?_]
  ·refine Ag λi _=>?_
   show(if i<n then (if i<n then dX i i else M i i) else dX i i)=1
   have:dX i i=1:=Jl rfl
   split
   ·exact this
   ·exact this
  ·show(if i<n then (if j<n then dX i j else M i j) else dX i j)=0
   have:dX i j=0:=Jk (by omega)
   split
   ·rw[Jl (by omega)];exact this
   ·exact this
 have e5:det (n+m) Vm=det n M:=by
  rw[oG (A:=M) m Vm (λr c hr hc=>by show(if r<n then (if c<n then M r c else 0) else _)=_;rw[Jl hr,Jl hc]) (λr c hr hc=>by show(if r<n then (if c<n then M r c else 0) else _)=0;rw[Jl hr,Jk (by omega)])]
  have:(det m λr c=>Vm (n+r) (n+c))=det m dX:=aP λr c _ _=>by
   show(if n+r<n then _ else dX (n+r) (n+c))=_
   rw[Jk (by omega)]
   unfold dX;by_cases y:c=r
   ·rw[Jl y,Jl (by omega)]
   ·rw[Jk y,Jk (by omega)]
  rw[this,oK,Zx]
 rw[e1,dU,e2,e3,dU,e4,e5,Zg,Zf]
theorem Top.mul {f g:Fn}{n m:Nat}(hf:Top f n)(hg:Top g m):Top (cv f g) (n+m):=by
 refine⟨by rw[Dt hg λi hi=>hf.top i hi];exact hf.one,λk hk=>?_⟩
 unfold cv;refine cN λi hi=>?_
 by_cases c:n<i
 ·rw[hf.top i c,Y4]
 ·rw[hg.top _ (by omega),Yr]
section
variable {f:Fn} {n:Nat}
theorem Jx (hf:Top f n)(hn:1<=n){W C:Nat}(hW:1<=W)(hb:wb W (C*W ^ n) f):∀k,wb W ((W*(1+C)) ^ k) (tk f n k)
 | 0,j=>by
  show(xp 0 j).natAbs*W ^ j<=1
  unfold xp;by_cases c:j=0
  ·rw[Jl c,c];simp
  ·rw[Jk c];simp
 | k+1,j=>by
  have ih:=Jx hf hn hW hb k;show((if j=0 then 0 else tk f n k (j-1))-tk f n k (n-1)*f j).natAbs*W ^ j<=_
  generalize hc:(W*(1+C)) ^ k=c at ih;have h1:(if j=0 then (0:Int) else tk f n k (j-1)).natAbs*W ^ j<=c*W:=by
   by_cases z:j=0
   ·rw[Jl z];simp
   ·rw[Jk z]
    have:=Yp W (ih (j-1))
    rw[Z6,<- Zu,show(j-1).succ=j by omega] at this
    exact this
  have h2:(tk f n k (n-1)*f j).natAbs*W ^ j<=c*W*C:=by
   rw[Zq,Z6];have a1:=Y6 (tk f n k (n-1)).natAbs (hb j);refine Ym a1 ?_
   have e:(tk f n k (n-1)).natAbs*(C*W ^ n)=(tk f n k (n-1)).natAbs*W ^ (n-1)*(W*C):=by
    have:W ^ n=W ^ (n-1)*W:=by rw[<- Zu,show(n-1).succ=n by omega]
    rw[this];ac_rfl
   rw[e,Z6 c];exact Yp _ (ih (n-1))
  have h3:=Int.natAbs_sub_le (if j=0 then (0:Int) else tk f n k (j-1)) (tk f n k (n-1)*f j)
  refine Ym (Yp _ h3) ?_
  rw[Zn,Zu,hc,<- Z6,Zi,Nat.mul_one];exact Nat.add_le_add h1 h2
theorem GV (hf:Top f n)(hn:1<=n){W C cg L:Nat}(hW:1<=W)(hb:wb W (C*W ^ n) f){g:Fn}(hg:∀m,L<=m->g m=0)(bg:wb W cg g){R:Nat->Fn}(h:Rows f n g R)(i j:Nat):(R i j).natAbs<=L*(cg*(1+C) ^ L*(W*(1+C)) ^ i):=by
 rw[Mg hf hn hg h i];refine z4 λk hk=>?_
 rw[Zq];have h1:=Jx hf hn hW hb (k+i) j;have h2:(tk f n (k+i) j).natAbs<=(W*(1+C)) ^ (k+i):=Ym (Nat.le_mul_of_pos_right _ (Wf hW)) h1;refine Ym (Y6 _ h2) ?_
 rw[Z0,<- Z6];refine Yp _ ?_
 rw[Nat.mul_pow,<- Z6];exact Zy (bg k) (Y2 (Ym (Yd 1) (Wj 1 _)) (W9 hk))
end
end L2
namespace Alg
open Lean.Grind
section
variable {R:Type} [CommRing R]
def zc (R:Type)[CommRing R](k:Int):R:=@IntCast.intCast R Ring.intCast k
theorem jC (a b:Int):zc R (a+b)=zc R a+zc R b:=Ring.intCast_add a b
theorem bH (a b:Int):zc R (a*b)=zc R a*zc R b:=Ring.intCast_mul a b
theorem gG (a:Int):zc R (-a)=-zc R a:=Ring.intCast_neg a
theorem fk:zc R 0=0:=Ring.intCast_zero
theorem b9:zc R 1=1:=Ring.intCast_one
theorem bZ:∀n:Nat,zc R (n:Int)=nt R n
 | 0=>fk
 | n+1=>by
  rw[show((n+1:Nat):Int)=(n:Int)+1 by omega,jC,bZ n,b9];rfl
structure c9 (O:R->Prop):Prop where
 one:O 1
 add {a b:R}:O a->O b->O (a+b)
 neg {a:R}:O a->O (-a)
 mul {a b:R}:O a->O b->O (a*b)
section
variable {O:R->Prop}
theorem c9.zero (h:c9 O):O 0:=by
 have:=h.add h.one (h.neg h.one)
 rwa [show(1:R)+-1=0 by grind] at this
theorem c9.pow (h:c9 O){a:R}(ha:O a):∀n:Nat,O (a ^ n)
 | 0=>by rw[aM];exact h.one
 | n+1=>by rw[aH];exact h.mul (h.pow ha n) ha
theorem c9.nt (h:c9 O):∀n:Nat,O (nt R n)
 | 0=>h.zero
 | n+1=>h.add (h.nt n) h.one
theorem c9.zc (h:c9 O)(k:Int):O (zc R k):=by
 rcases Int.le_total 0 k with y|y
 ·obtain⟨n,rfl⟩:=Zo y
  rw[bZ];exact h.nt n
 ·obtain⟨n,e⟩:=Zo (show 0<=-k by omega)
  rw[show k=-(n:Int) by omega,gG,bZ];exact h.neg (h.nt n)
def Cp (O:R->Prop)(p a b:R):Prop:=∃w,O w/\a=b+p*w
variable {p:R}
theorem Cp.refl (h:c9 O)(a:R):Cp O p a a:=⟨0,h.zero,by grind⟩
theorem Cp.symm (h:c9 O){a b:R}:Cp O p a b->Cp O p b a:=λ⟨w,hw,e⟩=>⟨-w,h.neg hw,by grind⟩
theorem Cp.trans (h:c9 O){a b c:R}:Cp O p a b->Cp O p b c->Cp O p a c:=λ⟨w,hw,e⟩ ⟨v,hv,g⟩=>⟨w+v,h.add hw hv,by grind⟩
theorem Cp.add (h:c9 O){a b c d:R}:Cp O p a b->Cp O p c d->Cp O p (a+c) (b+d):=λ⟨w,hw,e⟩ ⟨v,hv,g⟩=>⟨w+v,h.add hw hv,by grind⟩
theorem Cp.mul (h:c9 O){a b c d:R}(hb:O b)(hc:O c):Cp O p a b->Cp O p c d->Cp O p (a*c) (b*d):=λ⟨w,hw,e⟩ ⟨v,hv,g⟩=>⟨w*c+b*v,h.add (h.mul hw hc) (h.mul hb hv),by grind⟩
theorem Cp.pow (h:c9 O){a b:R}(ha:O a)(hb:O b)(c:Cp O p a b):∀n:Nat,Cp O p (a ^ n) (b ^ n)
 | 0=>by rw[aM,aM];exact .refl h _
 | n+1=>by rw[aH,aH];exact .mul h (h.pow hb n) ha (Cp.pow h ha hb c n) c
theorem BW (h:c9 O){x y:R}(hx:O x)(hy:O y)(p:Nat):∀l:List Nat,(∀c∈l,c % p=0)->Cp O (Alg.nt R p) (hs x y (l++[1])) (x ^ l.length)
 | [],_=>by
  show Cp O _ (Alg.nt R 1*y ^ 0+x*0) (x ^ 0)
  rw[aM,aM,nI,show(1:R)*1+x*0=1 by grind];exact .refl h _
 | c::l,hc=>by
  obtain⟨w,hw,e⟩:=BW h hx hy p l λd hd=>hc d (Zb _ hd)
  obtain⟨k,hk⟩:=Nat.dvd_of_mod_eq_zero (hc c Zj);refine⟨Alg.nt R k*y ^ (l++[1]).length+x*w,h.add (h.mul (h.nt k) (h.pow hy _)) (h.mul hx hw),?_⟩
  show Alg.nt R c*y ^ (l++[1]).length+x*hs x y (l++[1])=x ^ (l.length+1)+_
  rw[e,hk,nH,aH];grind
theorem Jy (h:c9 O){p:Nat}(hp:p∈PR){x y:R}(hx:O x)(hy:O y):Cp O (Alg.nt R p) ((x+y) ^ p) (x ^ p+y ^ p):=by
 have h':=Pg p hp;unfold NJ at h';simp only[T?,beq_iff_eq,decide_eq_true_eq,Wi] at h'
 obtain⟨⟨⟨⟨h1,h2⟩,h3⟩,h4⟩,h5⟩:=h';rw[IM];match e:row p,h1 with
 | c::t,h1=>
  rw[e] at h2 h3 h4;have c1:c=1:=by simpa using h1
  have tl:t.length=p:=by simpa using h4
  have TY:t≠[]:=by intro z;rw[z] at tl;simp at tl;omega
  have t2:t=t.dropLast++[1]:=by
   have:=List.dropLast_concat_getLast TY
   have gl:t.getLast TY=1:=by
    rw[List.getLast?_cons_of_ne_nil TY] at h2;rw[List.getLast?_eq_some_getLast TY] at h2;simpa using h2
   rw[gl] at this;exact this.symm
  have dl:t.dropLast.length+1=p:=by rw[List.length_dropLast];omega
  have h3:∀d∈t.dropLast,d % p=0:=h3;obtain⟨w,hw,e⟩:=BW h hx hy p t.dropLast h3;refine⟨x*w,h.mul hx hw,?_⟩
  show Alg.nt R c*y ^ t.length+x*hs x y t=_
  rw[tl,c1,nI,t2,e];have:x*x ^ t.dropLast.length=x ^ p:=by
   rw[<- dl,aH];grind
  grind
theorem qh {p:Nat}(hp:p∈PR):1<=p:=by
 have:∀q∈PR,1<=q:=by decide
 exact this p hp
theorem Jz (h:c9 O){p:Nat}(hp:p∈PR):∀n:Nat,Cp O (Alg.nt R p) (Alg.nt R n ^ p) (Alg.nt R n)
 | 0=>by show Cp O _ ((0:R) ^ p) 0;rw[vC (qh hp)];exact .refl h _
 | n+1=>by
  refine(Jy h hp (h.nt n) h.one).trans h ?_
  rw[IG];exact(Jz h hp n).add h (.refl h _)
theorem Sd (h:c9 O){p:Nat}(hp:p∈PR)(k:Int):Cp O (Alg.nt R p) (Alg.zc R k ^ p) (Alg.zc R k):=by
 rcases Int.le_total 0 k with y|y
 ·obtain⟨n,rfl⟩:=Zo y
  rw[bZ];exact Jz h hp n
 ·obtain⟨n,e⟩:=Zo (show 0<=-k by omega)
  rw[show k=-(n:Int) by omega,gG,bZ]
  obtain⟨w,hw,e1⟩:=Jy h hp (h.nt n) (h.neg (h.nt n));obtain⟨v,hv,e2⟩:=Jz h hp n;rw[show Alg.nt R n+-Alg.nt R n=0 by grind,vC (qh hp)] at e1
  exact⟨-w-v,by have:=h.add (h.neg hw) (h.neg hv);rwa [show -w+-v=-w-v by grind] at this,by grind⟩
def sR (n:Nat)(x:Vc)(o:Nat->R):R:=match n with
 | 0=>0
 | n+1=>sR n x o+zc R (x n)*o n
theorem JA (h:c9 O){x:Vc}{o:Nat->R}:∀n,(∀i,i<n->O (o i))->O (sR n x o)
 | 0,_=>h.zero
 | n+1,k=>h.add (JA h n λi hi=>k i (by omega)) (h.mul (h.zc _) (k n (by omega)))
theorem FN (h:c9 O){p:Nat}(hp:p∈PR){x:Vc}{o:Nat->R}:∀n,(∀i,i<n->O (o i))->Cp O (Alg.nt R p) (sR n x o ^ p) (sR n x λi=>o i ^ p)
 | 0,_=>by show Cp O _ ((0:R) ^ p) 0;rw[vC (qh hp)];exact .refl h _
 | n+1,k=>by
  refine(Jy h hp (JA h n λi hi=>k i (by omega)) (h.mul (h.zc (x n)) (k n (by omega)))).trans h ?_
  refine(FN h hp n λi hi=>k i (by omega)).add h ?_
  rw[lU];exact .mul h (h.zc _) (h.pow (k n (by omega)) p) (Sd h hp (x n)) (.refl h _)
theorem w4 (h:c9 O){p:Nat}(hp:p∈PR){x:Vc}{o:Nat->R}{n:Nat}(ho:∀i,i<n->O (o i)):∀d:Nat,Cp O (Alg.nt R p) (sR n x o ^ (p ^ d)) (sR n x λi=>o i ^ (p ^ d))
 | 0=>by
  have:∀z:R,z ^ (p ^ 0)=z:=λz=>by
   rw[Nat.pow_zero];have:=aH z 0
   rw[aM] at this;grind
  simp only[this];exact .refl h _
 | d+1=>by
  have e:∀z:R,z ^ (p ^ (d+1))=(z ^ (p ^ d)) ^ p:=λz=>by rw[Zu,qe]
  simp only[e]
  refine((w4 h hp ho d).pow h (h.pow (JA h n ho) _) (JA h n λi hi=>h.pow (ho i hi) _) p).trans h ?_
  exact FN h hp n λi hi=>h.pow (ho i hi) _
def m7 (O:R->Prop)(p:R)(q:Nat)(a:R):Prop:=O a/\∃w,O w/\a ^ q=p*w
theorem m7.add (h:c9 O){p:Nat}(hp:p∈PR){d:Nat}{a b:R}(ha:m7 O (Alg.nt R p) (p ^ d) a)(hb:m7 O (Alg.nt R p) (p ^ d) b):m7 O (Alg.nt R p) (p ^ d) (a+b):=by
 obtain⟨oa,w,hw,e⟩:=ha;obtain⟨ob,v,hv,g⟩:=hb;have:=w4 h hp (x:=λ_=>1) (o:=λi=>if i=0 then a else b) (n:=2) (λi hi=>by
  by_cases c:i=0
  ·rw[Jl c];exact oa
  ·rw[Jk c];exact ob) d
 obtain⟨u,hu,e1⟩:=this;have s2:∀o:Nat->R,sR 2 (λ_=>1) o=o 0+o 1:=λo=>by
  show(0:R)+zc R 1*o 0+zc R 1*o 1=_
  rw[b9];grind
 rw[s2,s2] at e1;simp only[Jl,Jk (show ¬ (1:Nat)=0 by decide)] at e1
 exact⟨h.add oa ob,w+v+u,h.add (h.add hw hv) hu,by rw[e1,e,g];grind⟩
theorem m7.mul (h:c9 O){p:R}{q:Nat}{a b:R}(ha:m7 O p q a)(hb:O b):m7 O p q (b*a):=by
 obtain⟨oa,w,hw,e⟩:=ha;exact⟨h.mul hb oa,b ^ q*w,h.mul (h.pow hb q) hw,by rw[lU,e];grind⟩
theorem m7.neg (h:c9 O){p:R}{q:Nat}{a:R}(ha:m7 O p q a):m7 O p q (-a):=by
 have:=ha.mul h (h.neg h.one)
 rwa [show -1*a=-a by grind] at this
theorem m7.own (h:c9 O){p:R}{q:Nat}(hq:1<=q)(hp:O p){a:R}(ha:O a):m7 O p q (p*a):=by
 obtain⟨k,rfl⟩:∃k,q=k+1:=⟨q-1,by omega⟩
 exact⟨h.mul hp ha,(p*a) ^ k*a,h.mul (h.pow (h.mul hp ha) k) ha,by rw[aH];grind⟩
def Ah (O:R->Prop)(p:R)(q:Nat)(a:R):Prop:=O (p*a)/\∀b,m7 O p q b->m7 O p q (a*b)
theorem Ah.of (h:c9 O){p:R}(hp:O p){q:Nat}{a:R}(ha:O a):Ah O p q a:=⟨h.mul hp ha,λb hb=>hb.mul h ha⟩
theorem Ah.sub (h:c9 O){p:Nat}(hp:p∈PR)(d:Nat):c9 (Ah O (Alg.nt R p) (p ^ d)) where
 one:=.of h (h.nt p) h.one
 add {a b} ha hb:=⟨by
   have:=h.add ha.1 hb.1
   rwa [show Alg.nt R p*a+Alg.nt R p*b=Alg.nt R p*(a+b) by grind] at this,λc hc=>by
   have:=(ha.2 c hc).add h hp (hb.2 c hc)
   rwa [show a*c+b*c=(a+b)*c by grind] at this⟩
 neg {a} ha:=⟨by
   have:=h.neg ha.1
   rwa [show -(Alg.nt R p*a)=Alg.nt R p*-a by grind] at this,λc hc=>by
   have:=(ha.2 c hc).neg h
   rwa [show -(a*c)=-a*c by grind] at this⟩
 mul {a b} ha hb:=⟨by
   have h1:=hb.2 _ (m7.own h (Nat.pos_of_ne_zero λz=>by
    have:=Wf (n:=d) (qh hp);omega) (h.nt p) h.one)
   have:=(ha.2 _ h1).1
   rwa [show a*(b*(Alg.nt R p*1))=Alg.nt R p*(a*b) by grind] at this,λc hc=>by
   have:=ha.2 _ (hb.2 c hc)
   rwa [show a*(b*c)=a*b*c by grind] at this⟩
end
end
end Alg
namespace Alg
open Lean.Grind
section
variable {R:Type} [CommRing R]
structure oM (n:Nat)(el:Vc->R):Prop where
 gT:∀(a:Int) (v w:Vc),el (λj=>a*v j+w j)=zc R a*el v+el w
 inj:∀v w:Vc,el v=el w->∀j,j<n->v j=w j
 sup:∀v w:Vc,(∀j,j<n->v j=w j)->el v=el w
def Of (el:Vc->R)(a:R):Prop:=∃c,a=el c
def un (i:Nat):Vc:=λj=>if j=i then 1 else 0
theorem FO {x:Vc}{j:Nat}:∀m,sm m x un j=if j<m then x j else 0
 | 0=>by rw[Jk (by omega)];rfl
 | m+1=>by
  show sm m x un j+x m*(if j=m then 1 else 0)=_
  rw[FO m];by_cases e:j=m
  ·subst e;rw[Jk (by omega),Jl rfl,Jl (by omega)];omega
  ·rw[Jk e]
   by_cases h:j<m
   ·rw[Jl h,Jl (by omega)];omega
   ·rw[Jk h,Jk (by omega)];omega
theorem w5 {n:Nat}{x:Vc}{t:Nat->Vc}{V:Nat->Vc}{k:Nat}:∀a,sm a x (λi k=>sm n (t i) V k) k=sm n (λm=>sm a x t m) V k
 | 0=>(iI (n:=n) (R:=V) (j:=k)).symm
 | a+1=>by
  show sm a x _ k+x a*sm n (t a) V k=sm n (λm=>sm a x t m+x a*t a m) V k
  rw[w5 a];have:=j9 (n:=n) (x a) (d:=t a) (e:=λm=>sm a x t m) (R:=V) (j:=k)
  rw[show(λm=>sm a x t m+x a*t a m)=λm=>x a*t a m+sm a x t m from funext λm=>by omega,this]
  omega
theorem c_ {x x':Vc}{o o':Nat->R}:∀n,(∀i,i<n->x i=x' i)->(∀i,i<n->o i=o' i)->sR n x o=sR n x' o'
 | 0,_,_=>rfl
 | n+1,h,k=>by
  show sR n x o+zc R (x n)*o n=sR n x' o'+zc R (x' n)*o' n
  rw[c_ n (λi hi=>h i (by omega)) (λi hi=>k i (by omega)),h n (by omega),k n (by omega)]
theorem d8 {x:Vc}{o:Nat->R}(b:R):∀n,b*sR n x o=sR n x λi=>b*o i
 | 0=>by show b*0=0;grind
 | n+1=>by
  show b*(sR n x o+zc R (x n)*o n)=sR n x (λi=>b*o i)+zc R (x n)*(b*o n)
  rw[<- d8 b n];grind
theorem NQ {O:R->Prop}(h:c9 O){p:R}{x:Vc}{o o':Nat->R}:∀n,(∀i,i<n->Cp O p (o i) (o' i))->(∀i,i<n->O (o i))->Cp O p (sR n x o) (sR n x o')
 | 0,_,_=>.refl h _
 | n+1,k,l=>(NQ h n (λi hi=>k i (by omega)) λi hi=>l i (by omega)).add h (.mul h (h.zc _) (l n (by omega)) (.refl h _) (k n (by omega)))
theorem m7.zero {O:R->Prop}(h:c9 O){p:R}{q:Nat}(hq:0<q):m7 O p q 0:=⟨h.zero,0,h.zero,by rw[vC hq];grind⟩
theorem JB {O:R->Prop}(h:c9 O){p:Nat}(hp:p∈PR){d:Nat}{x:Vc}{o:Nat->R}:∀n,(∀i,i<n->m7 O (nt R p) (p ^ d) (o i))->m7 O (nt R p) (p ^ d) (sR n x o)
 | 0,_=>.zero h (Wf (qh hp))
 | n+1,k=>(JB h hp n λi hi=>k i (by omega)).add h hp ((k n (by omega)).mul h (h.zc _))
section
variable {n:Nat} {el:Vc->R}
theorem oM.zero (B:oM n el):el (λ_=>0)=0:=by
 have:=B.gT 1 (λ_=>0) λ_=>0
 rw[b9,show(λj:Nat=>(1:Int)*0+0)=λ_=>0 from rfl] at this
 grind
theorem oM.smul (B:oM n el)(a:Int)(v:Vc):el (λj=>a*v j)=zc R a*el v:=by
 have:=B.gT a v λ_=>0
 rw[B.zero,show(λj=>a*v j+0)=λj=>a*v j from funext λj=>by omega] at this
 rw[this];grind
theorem oM.sm (B:oM n el){d:Vc}{U:Nat->Vc}:∀k,el (λj=>sm k d U j)=sR k d λi=>el (U i)
 | 0=>B.zero
 | k+1=>by
  have:=B.gT (d k) (U k) λj=>Alg.sm k d U j
  rw[B.sm k] at this;rw[show(λj=>Alg.sm (k+1) d U j)=λj=>d k*U k j+Alg.sm k d U j from funext λj=>by show Alg.sm k d U j+d k*U k j=_;omega,this]
  show _=sR k d (λi=>el (U i))+zc R (d k)*el (U k)
  grind
theorem oM.un (B:oM n el)(x:Vc):el x=sR n x λi=>el (un i):=by
 rw[<- B.sm n];exact B.sup _ _ λj hj=>by rw[FO,Jl hj]
theorem oM.dvd (B:oM n el){a:Int}{y w:Vc}(h:el y=zc R a*el w):∀j,j<n->y j=a*w j:=by
 rw[<- B.smul] at h;exact B.inj _ _ h
variable {c:Nat->Nat->Vc}
theorem oM.DP (B:oM n el)(hc:∀i j,i<n->j<n->el (Alg.un i)*el (Alg.un j)=el (c i j)){i:Nat}(hi:i<n)(y:Vc):el (Alg.un i)*el y=el λk=>Alg.sm n y (c i) k:=by
 rw[B.sm n,B.un y,d8];exact c_ n (λ_ _=>rfl) λj hj=>hc i j hi hj
theorem oM.mul (B:oM n el)(hc:∀i j,i<n->j<n->el (Alg.un i)*el (Alg.un j)=el (c i j))(x y:Vc):el x*el y=el λk=>Alg.sm n x (λi k=>Alg.sm n y (c i) k) k:=by
 rw[B.sm n,B.un x,show ∀a b:R,a*b=b*a from λa b=>by grind,d8]
 exact c_ n (λ_ _=>rfl) λi hi=>by rw[<- B.DP hc hi y];grind
theorem oM.JC (B:oM n el)(i:Nat):Of el (el (Alg.un i)):=⟨_,rfl⟩
theorem oM.power (B:oM n el)(h:c9 (Of el)){p:Nat}(hp:p∈PR){d:Nat}{told:Nat->Vc}(ht:∀i,i<n->Cp (Of el) (nt R p) (el (told i)) (el (Alg.un i) ^ (p ^ d)))(x:Vc):Cp (Of el) (nt R p) (el x ^ (p ^ d)) (el λj=>Alg.sm n x told j):=by
 rw[B.sm n,B.un x];refine(w4 h hp (λi _=>B.JC i) d).trans h ?_
 exact NQ h n (λi hi=>(ht i hi).symm h) λi hi=>h.pow (B.JC i) _
theorem oM.idl (B:oM n el)(h:c9 (Of el)){p:Nat}(hp:p∈PR){d:Nat}{told:Nat->Vc}(ht:∀i,i<n->Cp (Of el) (nt R p) (el (told i)) (el (Alg.un i) ^ (p ^ d)))(x:Vc):m7 (Of el) (nt R p) (p ^ d) (el x)↔∀j,j<n->(p:Int) ∣ Alg.sm n x told j:=by
 obtain⟨w,⟨w',rfl⟩,e⟩:=B.power h hp ht x;rw[<- bZ] at e ⊢;constructor
 ·rintro⟨_,v,⟨v',rfl⟩,e1⟩ j hj
  have:el (λj=>Alg.sm n x told j)=zc R (p:Int)*el λj=>-1*w' j+v' j:=by
   rw[B.gT,gG,b9];rw[e1] at e;grind
  exact⟨_,B.dvd this j hj⟩
 ·intro hd
  have:∀j,∃z:Int,j<n->Alg.sm n x told j=(p:Int)*z:=λj=>by
   by_cases hj:j<n
   ·obtain⟨z,hz⟩:=hd j hj;exact⟨z,λ_=>hz⟩
   ·exact⟨0,λy=>Jr y hj⟩
  obtain⟨z,hz⟩:=Classical.axiomOfChoice this;have e2:el (λj=>Alg.sm n x told j)=zc R (p:Int)*el z:=by
   rw[<- B.smul];exact B.sup _ _ hz
  refine⟨⟨_,rfl⟩,el λj=>1*z j+w' j,⟨_,rfl⟩,?_⟩
  rw[e,e2,B.gT,b9];grind
theorem oM.mlt (B:oM n el)(h:c9 (Of el)){p:Nat}(hp:p∈PR){d:Nat}(hc:∀i j,i<n->j<n->el (Alg.un i)*el (Alg.un j)=el (c i j)){V:Nat->Vc}(hV:c7 n V)
  (hI:∀x:Vc,(∀j,n<=j->x j=0)->(jt n V x↔m7 (Of el) (nt R p) (p ^ d) (el x))) {t:Nat->Nat->Vc} (ht:∀i j,i<n->j<n->∀k,k<n->Alg.sm n (V j) (c i) k=Alg.sm n (t i j) V k)
  {ip:R} (JD:nt R p*ip=1) (x:Vc):(∀j,j<n->∀m,m<n->(p:Int) ∣ Alg.sm n x (λi=>t i j) m)↔Ah (Of el) (nt R p) (p ^ d) (ip*el x):=by
 have V0:∀a:Vc,∀k,n<=k->Alg.sm n a V k=0:=λa k hk=>jB (q:=0) λi hi=>hV.lX i hi k (by omega)
 have key:∀j,j<n->el x*el (V j)=el λk=>Alg.sm n (λm=>Alg.sm n x (λi=>t i j) m) V k:=λj hj=>by
  rw[B.un x,show ∀a b:R,a*b=b*a from λa b=>by grind,d8]
  have:(sR n x λi=>el (V j)*el (Alg.un i))=sR n x λi=>el λk=>Alg.sm n (t i j) V k:=c_ n (λ_ _=>rfl) λi hi=>by
   rw[show el (V j)*el (Alg.un i)=el (Alg.un i)*el (V j) by grind,B.DP hc hi]
   exact B.sup _ _ λk hk=>ht i j hi hj k hk
  rw[this,<- B.sm n];exact B.sup _ _ λk _=>w5 n
 have Se:∀b,m7 (Of el) (nt R p) (p ^ d) b->∃a:Vc,b=el λk=>Alg.sm n a V k:=λb hb=>by
  obtain⟨y,rfl⟩:=hb.1;have e:el y=el λj=>if j<n then y j else 0:=B.sup _ _ λj hj=>by rw[Jl hj]
  rw[e] at hb;obtain⟨a,ha⟩:=(hI _ λj hj=>Jk (by omega)).mpr hb
  exact⟨a,by rw[e];exact B.sup _ _ λj _=>ha j⟩
 have inI:∀a:Vc,m7 (Of el) (nt R p) (p ^ d) (el λk=>Alg.sm n a V k):=λa=>(hI _ (V0 a)).mp ⟨a,λ_=>rfl⟩
 constructor
 ·intro hd
  refine⟨⟨x,by rw[show nt R p*(ip*el x)=nt R p*ip*el x by grind,JD];grind⟩,λb hb=>?_⟩
  obtain⟨a,rfl⟩:=Se b hb;rw[B.sm n,d8];refine JB h hp n λj hj=>?_
  have:∀m,∃z:Int,m<n->Alg.sm n x (λi=>t i j) m=(p:Int)*z:=λm=>by
   by_cases hm:m<n
   ·obtain⟨z,hz⟩:=hd j hj m hm;exact⟨z,λ_=>hz⟩
   ·exact⟨0,λy=>Jr y hm⟩
  obtain⟨z,hz⟩:=Classical.axiomOfChoice this;have e:el x*el (V j)=nt R p*el λk=>Alg.sm n z V k:=by
   rw[key j hj,<- bZ,<- B.smul];refine B.sup _ _ λk _=>?_
   rw[cW (d':=λm=>(p:Int)*z m) (λi hi=>hz i hi) λi _=>rfl]
   have:=j9 (n:=n) (p:Int) (d:=z) (e:=λ_=>0) (R:=V) (j:=k)
   rw[iI] at this;rw[show(λm=>(p:Int)*z m)=λm=>(p:Int)*z m+0 from funext λm=>by omega,this];omega
  rw[show ip*el x*el (V j)=ip*(el x*el (V j)) by grind,e,show ∀b:R,ip*(nt R p*b)=nt R p*ip*b from λb=>by grind,JD,show ∀b:R,1*b=b from λb=>by grind]
  exact inI z
 ·intro hm j hj m hmn
  have hVj:m7 (Of el) (nt R p) (p ^ d) (el (V j)):=(hI (V j) λk hk=>hV.lX j hj k (by omega)).mp (.row hj)
  obtain⟨a,ha⟩:=Se _ (hm.2 _ hVj);have e:(el λk=>Alg.sm n (λm=>Alg.sm n x (λi=>t i j) m) V k)=zc R (p:Int)*el λk=>Alg.sm n a V k:=by
   rw[<- key j hj,bZ,<- ha,show nt R p*(ip*el x*el (V j))=nt R p*ip*(el x*el (V j)) by grind,JD];grind
  have e2:=B.dvd e;have e3:∀k,Alg.sm n (λm=>Alg.sm n x (λi=>t i j) m) V k=Alg.sm n (λm=>(p:Int)*a m) V k:=λk=>by
   have:=j9 (n:=n) (p:Int) (d:=a) (e:=λ_=>0) (R:=V) (j:=k)
   rw[iI] at this;rw[show(λm=>(p:Int)*a m)=λm=>(p:Int)*a m+0 from funext λm=>by omega,this]
   by_cases hk:k<n
   ·rw[e2 k hk];omega
   ·rw[V0 _ k (by omega),V0 _ k (by omega)];omega
  exact⟨_,hV.uniq n (Yd n) e3 m hmn⟩
end
def gX (n:Nat)(φ:Vc->R)(ip:R)(d:Nat)(T:Nat->Vc)(c:Vc):R:=ip ^ d*φ λj=>sm n c T j
section
variable {n:Nat} {φ:Vc->R} {ip:R} {p d:Nat} {T:Nat->Vc}
theorem l_ (JD:nt R p*ip=1):∀d:Nat,zc R ((p:Int) ^ d)*ip ^ d=1
 | 0=>by rw[Yu,b9,aM];grind
 | d+1=>by
  have:=l_ JD d
  rw[Yq,bH,bZ,aH];grind
theorem oM.lX (B:oM n φ)(JD:nt R p*ip=1)(hT:c7 n T):oM n (gX n φ ip d T) where
 gT a v w:=by
  show ip ^ d*(φ λj=>Alg.sm n (λj=>a*v j+w j) T j)=zc R a*(ip ^ d*φ _)+ip ^ d*φ _
  rw[show(λj=>Alg.sm n (λj=>a*v j+w j) T j)=λj=>a*Alg.sm n v T j+Alg.sm n w T j from funext λj=>j9 a,B.gT];grind
 inj v w e:=by
  have e1:φ (λj=>Alg.sm n v T j)=φ λj=>Alg.sm n w T j:=by
   have e2:zc R ((p:Int) ^ d)*(ip ^ d*φ λj=>Alg.sm n v T j)=zc R ((p:Int) ^ d)*(ip ^ d*φ λj=>Alg.sm n w T j):=Jp _ e
   have:=l_ JD d
   grind
  have e3:=B.inj _ _ e1;refine hT.uniq n (Yd n) λj=>?_
  by_cases hj:j<n
  ·exact e3 j hj
  ·rw[jB (q:=0) λi hi=>hT.lX i hi j (by omega),jB (q:=0) λi hi=>hT.lX i hi j (by omega)]
 sup v w e:=by
  show ip ^ d*φ _=ip ^ d*φ _
  congr 2
  exact funext λj=>cW (λi hi=>e i hi) λi _=>rfl
structure uQ (n p:Nat)(φ:Vc->R)(ip:R)(d:Nat)(T:Nat->Vc):Prop where
 st:c7 n T
 sub:c9 (Of (gX n φ ip d T))
 all:∀z,Of (gX n φ ip d T) (φ z)
theorem uQ.next (B:oM n φ)(hp:p∈PR)(JD:nt R p*ip=1)(L:uQ n p φ ip d T){k:Nat}{N:List Vc}{T':Nat->Vc}(TZ:c7 n T')
  (hN:∀r∈N,Ah (Of (gX n φ ip d T)) (nt R p) (p ^ k) (ip*gX n φ ip d T r)) (hN':∀x,Ah (Of (gX n φ ip d T)) (nt R p) (p ^ k) (ip*gX n φ ip d T x)->∃v z:Vc,gW N v/\∀i,i<n->x i=v i+(p:Int)*z i)
  (hG:∀v,Gq ((Yk n).map (λi j=>(p:Int)*T i j)++N.map λr j=>sm n r T j) ((p:Int) ^ (d+1)) n v↔jt n T' v):uQ n p φ ip (d+1) T':=by
 have BT:=B.lX (d:=d) JD L.st;have T0:∀a:Vc,∀k,n<=k->sm n a T k=0:=λa k hk=>jB (q:=0) λi hi=>L.st.lX i hi k (by omega)
 have sM:=Ah.sub L.sub hp k;have oP:=L.sub.nt p;have key:∀a,Of (gX n φ ip (d+1) T') a↔Ah (Of (gX n φ ip d T)) (nt R p) (p ^ k) a:=by
  intro a;constructor
  ·rintro⟨c,rfl⟩
   have hv:=(hG λj=>sm n c T' j).mpr ⟨c,λ_=>rfl⟩
   show Ah _ _ _ (ip ^ (d+1)*φ λj=>sm n c T' j)
   generalize (λj=>sm n c T' j)=v at hv
   obtain⟨v0,u,z,hu,e⟩:=hv;have key:∀ {u:Vc},gW ((Yk n).map (λi j=>(p:Int)*T i j)++N.map λr j=>sm n r T j) u->Ah (Of (gX n φ ip d T)) (nt R p) (p ^ k) (ip ^ (d+1)*φ u):=by
    intro u hu;induction hu with
    | zero=>rw[B.zero,show ip ^ (d+1)*0=0 by grind];exact sM.zero
    | @add r v a hr _ ih=>
     have e1:ip ^ (d+1)*φ (λi=>a*r i+v i)=zc R a*(ip ^ (d+1)*φ r)+ip ^ (d+1)*φ v:=by rw[B.gT];grind
     rw[e1];refine sM.add (sM.mul (sM.zc a) ?_) ih
     rcases List.mem_append.mp hr with y|y
     ·obtain⟨i,hi,rfl⟩:=List.mem_map.mp y
      have hi:=List.mem_range.mp hi;have:ip ^ (d+1)*φ (λj=>(p:Int)*T i j)=gX n φ ip d T (un i):=by
       show _=ip ^ d*φ _
       rw[B.smul,bZ,aH,show(λj=>sm n (un i) T j)=T i from funext λj=>iJ hi];grind
      rw[this];exact .of L.sub oP ⟨_,rfl⟩
     ·obtain⟨s,hs,rfl⟩:=List.mem_map.mp y
      have:ip ^ (d+1)*φ (λj=>sm n s T j)=ip*gX n φ ip d T s:=by
       show _=ip*(ip ^ d*φ _)
       rw[aH];grind
      rw[this];exact hN s hs
   have e1:ip ^ (d+1)*φ v=φ z+ip ^ (d+1)*φ u:=by
    have e2:φ v=zc R ((p:Int) ^ (d+1))*φ z+φ u:=by
     rw[<- B.gT];exact B.sup _ _ λj _=>by rw[e j];omega
    have:=l_ JD (d+1)
    rw[e2];grind
   rw[e1];exact sM.add (.of L.sub oP (L.all z)) (key hu)
  ·intro ha
   obtain⟨x,hx⟩:=ha.1;have ea:a=ip*gX n φ ip d T x:=by rw[<- hx];grind
   rw[ea] at ha;obtain⟨v,z,hv,e⟩:=hN' x ha;have e1:gX n φ ip d T x=zc R (p:Int)*gX n φ ip d T z+gX n φ ip d T v:=by
    rw[<- BT.gT];exact BT.sup _ _ λj hj=>by rw[e j hj];omega
   have g1:Gq ((Yk n).map (λi j=>(p:Int)*T i j)++N.map λr j=>sm n r T j) ((p:Int) ^ (d+1)) n λj=>sm n v T j:=by
    clear e e1;induction hv with
    | zero=>exact Gq.zero.of λj=>iI.symm
    | @add r w a hr _ ih=>
     exact((Gq.mem (List.mem_append.mpr (.inr (List.mem_map.mpr ⟨r,hr,rfl⟩))) (T0 r)).gT a ih).of λj=>(j9 a).symm
   have g2:Gq ((Yk n).map (λi j=>(p:Int)*T i j)++N.map λr j=>sm n r T j) ((p:Int) ^ (d+1)) n λj=>sm n z (λi j=>(p:Int)*T i j) j:=
    Gq.sm n λi hi=>Gq.mem (List.mem_append.mpr (.inl (List.mem_map.mpr ⟨i,List.mem_range.mpr hi,rfl⟩))) λj hj=>by show(p:Int)*T i j=0;rw[L.st.lX i hi j (by omega)];omega
   obtain⟨c,hc⟩:=(hG _).mp (g1.gT 1 g2);refine⟨c,?_⟩
   show a=ip ^ (d+1)*φ λj=>sm n c T' j
   have e3:(φ λj=>sm n c T' j)=zc R (p:Int)*(φ λj=>sm n z T j)+φ λj=>sm n v T j:=by
    rw[<- B.gT];refine B.sup _ _ λj _=>?_
    rw[<- hc j];have:sm n z (λi j=>(p:Int)*T i j) j=(p:Int)*sm n z T j:=by
     have:∀m,sm m z (λi j=>(p:Int)*T i j) j=(p:Int)*sm m z T j:=λm=>by
      induction m with
      | zero=>show(0:Int)=_*0;omega
      | succ m ih=>show sm m z _ j+z m*(_*T m j)=_*(sm m z T j+z m*T m j);rw[ih];grind
     exact this n
    show 1*sm n v T j+sm n z (λi j=>(p:Int)*T i j) j=_
    rw[this];omega
   rw[ea,e1,e3];show ip*(zc R (p:Int)*(ip ^ d*φ _)+ip ^ d*φ _)=_
   rw[aH];grind
 exact⟨TZ,⟨(key _).mpr sM.one,λa b=>(key _).mpr (sM.add ((key _).mp a) ((key _).mp b)),λa=>(key _).mpr (sM.neg ((key _).mp a)),λa b=>(key _).mpr (sM.mul ((key _).mp a) ((key _).mp b))⟩,λz=>(key _).mpr (.of L.sub oP (L.all z))⟩
end
end
end Alg
namespace L2
open Alg
theorem gH (g:Nat->Nat->Int)(m:Nat):∀n,aW n (λi=>aW m λj=>g i j)=aW m λj=>aW n λi=>g i j
 | 0=>(dS λ_ _=>rfl).symm
 | n+1=>by
  show aW n (λi=>aW m λj=>g i j)+aW m (λj=>g n j)=aW m λj=>aW n (λi=>g i j)+g n j
  rw[gH g m n,FL]
theorem nL (a:Int)(f:Nat->Int)(n:Nat):aW n (λi=>f i*a)=aW n f*a:=by
 rw[Zf,<- cL];exact aA λi _=>Zf _ _
theorem vE {g:Nat->Int}{m:Nat}:∀ {n},m<=n->(∀i,m<=i->i<n->g i=0)->aW n g=aW m g
 | 0,h,_=>by rw[show m=0 by omega]
 | n+1,h,k=>by
  by_cases c:m=n+1
  ·rw[c]
  ·show aW n g+g n=_
   rw[k n (by omega) (by omega),vE (n:=n) (by omega) λi hi hn=>k i hi (by omega)];omega
theorem e_ (n:Nat)(d:Nat->Int)(R:Nat->Nat->Int)(j:Nat):sm n d R j=aW n λi=>d i*R i j:=by
 induction n with
 | zero=>rfl
 | succ n ih=>show sm n d R j+d n*R n j=_+_;rw[ih]
section
variable {f:Fn} {n:Nat}
theorem h_:∀k,k<n->tk f n k=xp k
 | 0,_=>rfl
 | k+1,hk=>by
  funext m
  show(if m=0 then 0 else tk f n k (m-1))-tk f n k (n-1)*f m=xp (k+1) m
  rw[h_ k (by omega)]
  unfold xp;rw[Jk (show ¬ n-1=k by omega)]
  by_cases c:m=0
  ·rw[Jl c,Jk (by omega)];omega
  ·rw[Jk c]
   by_cases e:m=k+1
   ·rw[Jl e,Jl (by omega)];omega
   ·rw[Jk e,Jk (by omega)];omega
theorem DQ (hf:Top f n)(hn:1<=n):∀b j,aW n (λc=>f c*tk f n (c+b) j)+tk f n (n+b) j=0
 | 0,j=>by
  have e1:aW n (λc=>f c*tk f n (c+0) j)=if j<n then f j else 0:=by
   by_cases c:j<n
   ·rw[Jl c,lZ (k:=j) c λi hi hne=>by rw[h_ (i+0) (by omega)];unfold xp;rw[Jk (by omega)];omega]
    rw[h_ (j+0) (by omega)];unfold xp;rw[Jl (by omega)];omega
   ·rw[Jk c]
    exact dS λi hi=>by rw[h_ (i+0) (by omega)];unfold xp;rw[Jk (by omega)];omega
  rw[e1];by_cases c:j<n
  ·obtain⟨k,rfl⟩:∃k,n=k+1:=⟨n-1,by omega⟩
   rw[Jl c];show f j+((if j=0 then 0 else tk f (k+1) k (j-1))-tk f (k+1) k (k+1-1)*f j)=0
   rw[h_ k (by omega)]
   unfold xp;rw[Jl (show k+1-1=k by omega)]
   by_cases z:j=0
   ·rw[Jl z];omega
   ·rw[Jk z,Jk (by omega)];omega
  ·rw[Jk c,wK hf hn _ _ (by omega)];omega
 | b+1,j=>by
  have h1:=DQ hf hn b (n-1);have e:aW n (λc=>f c*tk f n (c+(b+1)) j)+tk f n (n+(b+1)) j=(if j=0 then 0 else aW n (λc=>f c*tk f n (c+b) (j-1))+tk f n (n+b) (j-1))-(aW n (λc=>f c*tk f n (c+b) (n-1))+tk f n (n+b) (n-1))*f j:=by
   have e1:aW n (λc=>f c*tk f n (c+(b+1)) j)=(if j=0 then 0 else aW n (λc=>f c*tk f n (c+b) (j-1)))-aW n (λc=>f c*tk f n (c+b) (n-1))*f j:=by
    have:aW n (λc=>f c*tk f n (c+(b+1)) j)=aW n λc=>1*(if j=0 then 0 else f c*tk f n (c+b) (j-1))+(-f j)*(f c*tk f n (c+b) (n-1)):=aA λc _=>by
     show f c*((if j=0 then 0 else tk f n (c+b) (j-1))-tk f n (c+b) (n-1)*f j)=_
     by_cases z:j=0
     ·rw[Jl z,Jl z];grind
     ·rw[Jk z,Jk z];grind
    rw[this,rQ];by_cases z:j=0
    ·simp only[Jl z];rw[dS λ_ _=>rfl];grind
    ·simp only[Jk z];grind
   rw[e1];show _+((if j=0 then 0 else tk f n (n+b) (j-1))-tk f n (n+b) (n-1)*f j)=_
   by_cases z:j=0
   ·rw[Jl z,Jl z,Jl z];grind
   ·rw[Jk z,Jk z,Jk z];grind
  rw[e,h1];by_cases z:j=0
  ·rw[Jl z];omega
  ·rw[Jk z,DQ hf hn b (j-1)];omega
theorem DR (hf:Top f n)(hn:1<=n):∀l b j,aW n (λc=>tk f n l c*tk f n (c+b) j)=tk f n (l+b) j
 | 0,b,j=>by
  rw[lZ (k:=0) (by omega) λi hi hne=>by show xp 0 i*_=0;unfold xp;rw[Jk (by omega)];omega]
  show xp 0 0*tk f n (0+b) j=_
  unfold xp;rw[Jl rfl];omega
 | l+1,b,j=>by
  have ih:=DR hf hn l (b+1) j;have rl:=DQ hf hn b j;have e:aW n (λc=>tk f n (l+1) c*tk f n (c+b) j)=aW n (λc=>(if c=0 then 0 else tk f n l (c-1))*tk f n (c+b) j)-tk f n l (n-1)*aW n (λc=>f c*tk f n (c+b) j):=by
   have:=rQ 1 (-tk f n l (n-1)) (λc=>(if c=0 then 0 else tk f n l (c-1))*tk f n (c+b) j) (λc=>f c*tk f n (c+b) j) n
   rw[show ∀x y z:Int,x-y*z=1*x+-y*z from λx y z=>by grind,<- this]
   exact aA λc _=>by
    show((if c=0 then 0 else tk f n l (c-1))-tk f n l (n-1)*f c)*_=_
    grind
  obtain⟨k,rfl⟩:∃k,n=k+1:=⟨n-1,by omega⟩
  rw[e,kL];rw[show l+1+b=l+(b+1) by omega,<- ih]
  show(if (0:Nat)=0 then 0 else _)*_+aW k (λi=>(if i+1=0 then 0 else tk f (k+1) l (i+1-1))*tk f (k+1) (i+1+b) j)-tk f (k+1) l (k+1-1)*_=aW k (λc=>tk f (k+1) l c*tk f (k+1) (c+(b+1)) j)+tk f (k+1) l k*tk f (k+1) (k+(b+1)) j
  rw[Jl rfl,show aW k (λi=>(if i+1=0 then 0 else tk f (k+1) l (i+1-1))*tk f (k+1) (i+1+b) j)=aW k λc=>tk f (k+1) l c*tk f (k+1) (c+(b+1)) j from aA λi _=>by
   rw[Jk (by omega),show i+1+b=i+(b+1) by omega,show i+1-1=i by omega]]
  rw[show k+1+b=k+(b+1) by omega] at rl
  rw[show k+1-1=k by omega]
  grind
theorem Ai (hf:Top f n):∀e i l,i+e+1=n->tk f n l i=aW (e+1) λc=>f (c+i+1)*tk f n (l+c) (n-1)
 | 0,i,l,h=>by
  show _=0+f (0+i+1)*tk f n (l+0) (n-1)
  rw[show 0+i+1=n by omega,hf.one,show n-1=i by omega,show l+0=l by omega];omega
 | e+1,i,l,h=>by
  have ih:=Ai hf e (i+1) (l+1) (by omega)
  rw[kL];have h1:tk f n (l+1) (i+1)=(if i+1=0 then 0 else tk f n l (i+1-1))-tk f n l (n-1)*f (i+1):=rfl
  rw[Jk (by omega),show i+1-1=i by omega,ih] at h1
  have h2:aW (e+1) (λc=>f (c+(i+1)+1)*tk f n (l+1+c) (n-1))=aW (e+1) λc=>f (c+1+i+1)*tk f n (l+(c+1)) (n-1):=aA λc _=>by
   rw[show c+(i+1)+1=c+1+i+1 by omega,show l+1+c=l+(c+1) by omega]
  rw[h2] at h1;show _=f (0+i+1)*tk f n (l+0) (n-1)+_
  rw[show 0+i+1=i+1 by omega,show l+0=l by omega]
  grind
def t1 (f:Fn)(n k:Nat):Int:=aW n λi=>tk f n (k+i) i
theorem Sf (hf:Top f n)(hn:1<=n)(k:Nat):t1 f n k=aW n λm=>((m+1:Nat):Int)*f (m+1)*tk f n (m+k) (n-1):=by
 obtain⟨q,rfl⟩:∃q,n=q+1:=⟨n-1,by omega⟩
 have e1:t1 f (q+1) k=bO (q+1) λi=>bO (q-i+1) λj=>f (i+j+1)*tk f (q+1) (k+(i+j)) q:=by
  unfold t1;rw[eH];refine bJ λi hi=>?_
  rw[Ai hf (q-i) i (k+i) (by omega),eH]
  refine bJ λj hj=>?_
  rw[show j+i+1=i+j+1 by omega,show k+i+j=k+(i+j) by omega,show q+1-1=q by omega]
 rw[e1,<- rP λi k'=>f (k'+1)*tk f (q+1) (k+k') q,eH]
 refine bJ λm hm=>?_
 have e2:∀(x:Int) (c:Nat),bO c (λ_=>x)=(c:Int)*x:=λx c=>by
  induction c with
  | zero=>show(0:Int)=0*x;omega
  | succ c ih=>
   show bO c (λ_=>x)+x=_
   rw[ih,show((c+1:Nat):Int)=(c:Int)+1 by omega];grind
 rw[e2,show k+m=m+k by omega,show q+1-1=q by omega];grind
def XJ (f:Fn)(n:Nat):Mx:=λa b=>t1 f n (a+b)
def lam (f:Fn)(n:Nat):Mx:=λc b=>tk f n (c+b) (n-1)
theorem MF (hf:Top f n)(hn:1<=n):∃w,w*det n (lam f n)=1:=by
 refine⟨det n λi c=>f (c+i+1),?_⟩
 rw[<- dU,<- oK n];refine aP λi b hi hb=>?_
 have e:tk f n b i=aW n λc=>f (c+i+1)*tk f n (b+c) (n-1):=by
  rw[Ai hf (n-1-i) i b (by omega)]
  exact(vE (m:=n-1-i+1) (by omega) λj hj _=>by
   show f (j+i+1)*_=0
   rw[hf.top _ (by omega)];omega).symm
 show aW n (λk=>f (k+i+1)*tk f n (k+b) (n-1))=dX i b
 rw[aA (g:=λc=>f (c+i+1)*tk f n (b+c) (n-1)) λc _=>by rw[Jd c b],<- e,h_ b hb]
 unfold xp dX;by_cases c:i=b
 ·rw[Jl c,Jl c.symm]
 ·rw[Jk c,Jk λz=>c z.symm]
theorem MG (hf:Top f n)(hn:1<=n){g:Fn}(hg:∀m,m<n->g m=((m+1:Nat):Int)*f (m+1)):det n (XJ f n)=(det n λa c=>aW n λk=>g k*tk f n (k+a) c)*det n (lam f n):=by
 rw[<- dU];refine aP λa b ha hb=>?_
 show t1 f n (a+b)=aW n λc=>(aW n λk=>g k*tk f n (k+a) c)*tk f n (c+b) (n-1)
 rw[Sf hf hn];have:(aW n λc=>(aW n λk=>g k*tk f n (k+a) c)*tk f n (c+b) (n-1))=aW n λc=>aW n λk=>g k*(tk f n (k+a) c*tk f n (c+b) (n-1)):=aA λc _=>by
  rw[<- nL];exact aA λk _=>by grind
 rw[this,gH];refine aA λm hm=>?_
 rw[cL,DR hf hn,hg m hm,show m+a+b=m+(a+b) by omega]
def yc (n:Nat)(A:Mx):Int:=aW n λi=>A i i
theorem JE (n:Nat)(A B:Mx):yc n (gp n A B)=yc n (gp n B A):=by
 show aW n (λi=>aW n λk=>A i k*B k i)=aW n λi=>aW n λk=>B i k*A k i
 rw[gH];exact aA λi _=>aA λk _=>Zf _ _
theorem kP (n:Nat)(A B C:Mx)(i k:Nat):gp n (gp n A B) C i k=gp n A (gp n B C) i k:=by
 show aW n (λm=>(aW n λl=>A i l*B l m)*C m k)=aW n λl=>A i l*aW n λm=>B l m*C m k
 have e1:aW n (λm=>(aW n λl=>A i l*B l m)*C m k)=aW n λm=>aW n λl=>A i l*(B l m*C m k):=aA λm _=>by
  rw[<- nL];exact aA λl _=>by grind
 rw[e1,gH];exact aA λl _=>by rw[cL]
theorem zd {n:Nat}{A A' B B':Mx}{i k:Nat}(h1:∀l,l<n->A i l=A' i l)(h2:∀l,l<n->B l k=B' l k):gp n A B i k=gp n A' B' i k:=aA λl hl=>by rw[h1 l hl,h2 l hl]
theorem JF {n:Nat}{A C T S:Mx}{P:Int}(hP:P≠0)(h1:∀i k,i<n->k<n->gp n T A i k=P*gp n C T i k)(h2:∀i k,i<n->k<n->gp n S T i k=P*dX i k)(h3:∀i k,i<n->k<n->gp n T S i k=P*dX i k):yc n A=P*yc n C:=by
 have e1:P*yc n A=yc n (gp n A (gp n S T)):=by
  unfold yc;rw[<- cL];refine aA λi hi=>?_
  rw[zd (A':=A) (B':=λl k=>P*dX l k) (λ_ _=>rfl) λl hl=>h2 l i hl hi]
  show _=aW n λk=>A i k*(P*dX k i)
  rw[aA (g:=λk=>P*(A i k*dX k i)) λk _=>by grind,cL,c8 hi]
 have e2:yc n (gp n A (gp n S T))=yc n (gp n (gp n T A) S):=by
  rw[show yc n (gp n A (gp n S T))=yc n (gp n (gp n A S) T) from aA λi _=>(kP n A S T i i).symm,JE]
  exact aA λi _=>(kP n T A S i i).symm
 have e3:yc n (gp n (gp n T A) S)=P*(P*yc n C):=by
  have:yc n (gp n (gp n T A) S)=P*yc n (gp n (gp n C T) S):=by
   unfold yc;rw[<- cL];refine aA λi hi=>?_
   show aW n (λl=>gp n T A i l*S l i)=P*aW n λl=>gp n C T i l*S l i
   rw[<- cL];exact aA λl hl=>by rw[h1 i l hi hl];grind
  rw[this];congr 1
  unfold yc;rw[<- cL];refine aA λi hi=>?_
  rw[kP,zd (A':=C) (B':=λl k=>P*dX l k) (λ_ _=>rfl) λl hl=>h3 l i hl hi]
  show(aW n λk=>C i k*(P*dX k i))=_
  rw[aA (g:=λk=>P*(C i k*dX k i)) λk _=>by grind,cL,c8 hi]
 rw[e2,e3] at e1;exact Za hP e1
end
end L2
namespace L2
open Alg Lean.Grind
structure Xr (f:Fn)(n p:Nat){R:Type}[CommRing R](φ:Vc->R)(ip:R):Prop where
 oN:oM n φ
 inv:nt R p*ip=1
 one:φ (un 0)=1
 mul:∀a b,a<n->b<n->φ (un a)*φ (un b)=φ (tk f n (a+b))
section
variable {R:Type} [CommRing R] {f:Fn} {n p d:Nat} {φ:Vc->R} {ip:R} {T:Nat->Vc}
theorem BX:c7 n un:=⟨λi _ j hj=>Jk (by omega),λi _=>by show(if i=i then (1:Int) else 0)≠0;rw[Jl rfl];decide⟩
theorem Xr.start (X:Xr f n p φ ip):uQ n p φ ip 0 un:=by
 have e:∀c,gX n φ ip 0 un c=φ c:=λc=>by
  show ip ^ 0*φ _=_
  rw[aM,X.oN.sup (λj=>sm n c un j) c λj hj=>by rw[FO,Jl hj]];grind
 have B:=X.oN;refine⟨BX,⟨⟨un 0,by rw[e,X.one]⟩,?_,?_,?_⟩,λz=>⟨z,(e z).symm⟩⟩
 ·rintro a b ⟨x,rfl⟩ ⟨y,rfl⟩
  exact⟨λj=>1*x j+y j,by rw[e,e,e,B.gT,b9];grind⟩
 ·rintro a ⟨x,rfl⟩
  exact⟨λj=>-1*x j,by rw[e,e,B.smul,gG,b9];grind⟩
 ·rintro a b ⟨x,rfl⟩ ⟨y,rfl⟩
  rw[e,e,B.mul (c:=λa b=>tk f n (a+b)) X.mul]
  exact⟨_,(e _).symm⟩
theorem Sg (hf:Top f n)(hn:1<=n)(l:Nat):aW n (λk=>tk f n l k*t1 f n k)=t1 f n l:=by
 unfold t1;rw[show aW n (λk=>tk f n l k*aW n λi=>tk f n (k+i) i)=aW n λk=>aW n λi=>tk f n l k*tk f n (k+i) i from aA λk _=>(cL _ _ _).symm,gH]
 exact aA λi _=>DR hf hn l i i
theorem uQ.PJ (X:Xr f n p φ ip)(hf:Top f n)(hn:1<=n)(p0:p≠0)(L:uQ n p φ ip d T){g:Fn}(hg:∀m,m<n->g m=((m+1:Nat):Int)*f (m+1)):
  ∃w:Int,(dM n λi=>T i i)*(dM n λi=>T i i)*(det n λa c=>aW n λk=>g k*tk f n (k+a) c)=((p:Int) ^ d*(p:Int) ^ d) ^ n*w:=by
 have B:=X.oN;have BT:=B.lX (d:=d) X.inv L.st;generalize hP:(p:Int) ^ d=P;have P0:P≠0:=by rw[<- hP];exact Wo (by omega)
 have Sh:zc R P*ip ^ d=1:=by rw[<- hP];exact l_ X.inv d
 have hel:∀y,(φ λj=>sm n y T j)=zc R P*gX n φ ip d T y:=λy=>by
  show _=zc R P*(ip ^ d*φ _)
  grind
 have hT:∀i,i<n->φ (T i)=zc R P*gX n φ ip d T (un i):=λi hi=>by
  rw[<- hel];exact B.sup _ _ λj _=>(iJ hi).symm
 have T0:∀a:Vc,∀k,n<=k->sm n a T k=0:=λa k hk=>jB (q:=0) λi hi=>L.st.lX i hi k (by omega)
 have hc0:∀i,∃ci:Nat->Vc,∀j,gX n φ ip d T (un i)*gX n φ ip d T (un j)=gX n φ ip d T (ci j):=λi=>Classical.axiomOfChoice λj=>L.sub.mul ⟨_,rfl⟩ ⟨_,rfl⟩
 obtain⟨c,hc⟩:=Classical.axiomOfChoice hc0;obtain⟨S,hS⟩:=Classical.axiomOfChoice λi=>L.all (un i)
 have hA:∀v i,i<n->φ v*φ (un i)=φ λk=>sm n v (λa=>tk f n (a+i)) k:=λv i hi=>by
  rw[B.mul (c:=λa b=>tk f n (a+b)) X.mul]
  refine B.sup _ _ λk _=>cW (λ_ _=>rfl) λa _=>iJ hi
 have hC:∀y i,i<n->gX n φ ip d T y*gX n φ ip d T (un i)=gX n φ ip d T λk=>sm n y (λj=>c j i) k:=λy i hi=>by
  rw[BT.mul (c:=c) λi j _ _=>hc i j]
  refine BT.sup _ _ λk _=>cW (λ_ _=>rfl) λa _=>iJ hi
 have hS':∀i k,i<n->k<n->sm n (S i) T k=P*un i k:=λi k hi hk=>by
  have:(φ λj=>sm n (S i) T j)=φ λk=>P*un i k:=by rw[hel,<- hS i,B.smul]
  exact B.inj _ _ this k hk
 have pun:∀(x:Vc) (k:Nat),k<n->sm n x (λj k=>P*un j k) k=P*x k:=λx k hk=>by
  rw[e_,aA (g:=λi=>P*(x i*un i k)) λi _=>by grind,cL,<- e_ n x un k,FO,Jl hk]
 have h3:∀i k,i<n->k<n->sm n (T i) S k=P*un i k:=λi k hi hk=>by
  refine L.st.uniq n (Yd n) (c:=λm=>sm n (T i) S m) (c':=λm=>P*un i m) (λj=>?_) k hk
  by_cases hj:j<n
  ·rw[<- w5,cW (R':=λj k=>P*un j k) (λ_ _=>rfl) λl hl=>hS' l j hl hj,pun _ _ hj]
   have:=j9 (n:=n) P (d:=un i) (e:=λ_=>0) (R:=T) (j:=j)
   rw[iI] at this;rw[show(λm=>P*un i m)=λm=>P*un i m+0 from funext λm=>by omega,this,show sm n (un i) T j=T i j from iJ hi];omega
  ·rw[T0 _ j (by omega),T0 _ j (by omega)]
 have htr:∀y,aW n (λk=>sm n y T k*t1 f n k)=P*yc n λi k=>sm n y (λj=>c j i) k:=λy=>by
  rw[<- JF (A:=λi k=>sm n (λj=>sm n y T j) (λa=>tk f n (a+i)) k) (T:=T) (S:=S) P0 (λi k hi hk=>?_) (λi k hi hk=>?_) λi k hi hk=>?_]
  ·unfold yc t1
   rw[show aW n (λk=>sm n y T k*aW n λi=>tk f n (k+i) i)=aW n λk=>aW n λi=>sm n y T k*tk f n (k+i) i from aA λk _=>(cL _ _ _).symm,gH]
   exact aA λi _=>(e_ _ _ _ _).symm
  ·show aW n (λl=>T i l*sm n (λj=>sm n y T j) (λa=>tk f n (a+l)) k)=P*aW n λl=>sm n y (λj=>c j i) l*T l k
   rw[<- e_ n (T i) (λl k=>sm n (λj=>sm n y T j) (λa=>tk f n (a+l)) k) k,<- e_ n (λl=>sm n y (λj=>c j i) l) T k]
   have e:(φ λk=>sm n (T i) (λl k=>sm n (λj=>sm n y T j) (λa=>tk f n (a+l)) k) k)=φ λk=>P*sm n (λl=>sm n y (λj=>c j i) l) T k:=by
    rw[B.sm n,c_ n (λ_ _=>rfl) λl hl=>(hA (λj=>sm n y T j) l hl).symm,<- d8,<- B.un (T i),B.smul,hel,hT i hi,hel,<- hC y i hi]
    grind
   exact B.inj _ _ e k hk
  ·show aW n (λl=>S i l*T l k)=P*dX i k
   rw[<- e_ n (S i) T k];exact hS' i k hi hk
  ·show aW n (λl=>T i l*S l k)=P*dX i k
   rw[<- e_ n (T i) S k];exact h3 i k hi hk
 obtain⟨w,hw⟩:=MF hf hn;have BY:det n (gp n (gp n T (XJ f n)) λa b=>T b a)=(P*P) ^ n*det n λi j=>yc n λm k=>sm n (c i j) (λj=>c j m) k:=by
  rw[<- eW];refine aP λi j hi hj=>?_
  have e1:∀k,k<n->sm n (T i) (λa k=>sm n (T j) (λb=>tk f n (a+b)) k) k=P*sm n (c i j) T k:=by
   have:(φ λk=>sm n (T i) (λa k=>sm n (T j) (λb=>tk f n (a+b)) k) k)=φ λk=>P*sm n (c i j) T k:=by
    rw[<- B.mul (c:=λa b=>tk f n (a+b)) X.mul,B.smul,hel,hT i hi,hT j hj,<- hc i j];grind
   exact B.inj _ _ this
  have e2:aW n (λk=>sm n (T i) (λa k=>sm n (T j) (λb=>tk f n (a+b)) k) k*t1 f n k)=P*P*yc n λm k=>sm n (c i j) (λj=>c j m) k:=by
   rw[aA (g:=λk=>P*(sm n (c i j) T k*t1 f n k)) λk hk=>by rw[e1 k hk];grind,cL,htr];grind
  rw[<- e2];show aW n (λb=>(aW n λa=>T i a*t1 f n (a+b))*T j b)=_
  have e3:∀k,sm n (T i) (λa k=>sm n (T j) (λb=>tk f n (a+b)) k) k*t1 f n k=aW n λa=>aW n λb=>T i a*T j b*(tk f n (a+b) k*t1 f n k):=λk=>by
   rw[e_,<- nL];refine aA λa _=>?_
   rw[e_,<- cL,<- nL];exact aA λb _=>by grind
  rw[aA λk _=>e3 k,gH]
  have e4:aW n (λa=>aW n λk=>aW n λb=>T i a*T j b*(tk f n (a+b) k*t1 f n k))=aW n λa=>aW n λb=>T i a*T j b*t1 f n (a+b):=aA λa _=>by
   rw[gH];exact aA λb _=>by rw[cL,Sg hf hn]
  rw[e4,gH];refine aA λb _=>?_
  rw[<- nL];exact aA λa _=>by grind
 rw[dU,dU,jW n T λi j hij hj=>L.st.lX i (by omega) j hij,rR n (λa b=>T b a) λi j hij hi=>L.st.lX j (by omega) i hij,MG hf hn hg] at BY
 generalize (det n λi j=>yc n λm k=>sm n (c i j) (λj=>c j m) k)=E at BY
 generalize det n (lam f n)=Λ at hw BY;generalize (det n λa c=>aW n λk=>g k*tk f n (k+a) c)=D at BY
 refine⟨w*E,?_⟩
 generalize (dM n λi=>T i i)=Z at BY
 generalize (P*P) ^ n=Y at BY;grind
def tot:Nat->(Nat->Nat)->Nat
 | 0,_=>0
 | n+1,s=>tot n s+s n
theorem JG {s s':Nat->Nat}:∀n,(∀i,i<n->s' i<=s i+1)->tot n s'<=tot n s+n/\(tot n s'=tot n s+n->∀i,i<n->s' i=s i+1)
 | 0,_=>⟨Yd 0,λ_ i hi=>by omega⟩
 | n+1,h=>by
  obtain⟨a,b⟩:=JG n λi hi=>h i (by omega)
  have hn:=h n (by omega)
  refine⟨by show tot n s'+s' n<=tot n s+s n+(n+1);omega,λe i hi=>?_⟩
  have e:tot n s'+s' n=tot n s+s n+(n+1):=e;by_cases c:i=n
  ·subst c;omega
  ·exact b (by omega) i (by omega)
theorem Aj {T:Nat->Vc}{s:Nat->Nat}:∀n,(∀i,i<n->T i i=(p:Int) ^ s i)->dM n (λi=>T i i)=(p:Int) ^ tot n s
 | 0,_=>rfl
 | n+1,h=>by
  show dM n (λi=>T i i)*T n n=(p:Int) ^ (tot n s+s n)
  rw[Aj n λi hi=>h i (by omega),h n (by omega),Yo]
theorem DS {a b:Nat}(hp:2<=p)(h:(p:Int) ^ a ∣ (p:Int) ^ b):a<=b:=by
 rw[<- Wx,<- Wx,Int.natCast_dvd_natCast] at h;exact(Nat.pow_dvd_pow_iff_le_right (by omega)).mp h
theorem c7.grow {T':Nat->Vc}(hp:2<=p)(hT:c7 n T)(TZ:c7 n T'){s s':Nat->Nat}(es:∀i,i<n->T i i=(p:Int) ^ s i)(es':∀i,i<n->T' i i=(p:Int) ^ s' i)
  (sub:∀i,i<n->jt n T' λj=>(p:Int)*T i j) {r:Vc} (hr:jt n T' λj=>sm n r T j) {k:Nat} (hk:k<n) (nd:¬ (p:Int) ∣ r k):tot n s'<tot n s+n:=by
 have hU:c7 n λi j=>(p:Int)*T i j:=⟨λi hi j hj=>by show(p:Int)*T i j=0;rw[hT.lX i hi j hj];omega,λi hi z=>by
  rcases Int.mul_eq_zero.mp z with y|y
  ·omega
  ·exact hT.nz i hi y⟩
 have hle:∀i,i<n->s' i<=s i+1:=λi hi=>by
  have:=TZ.dvd hU sub hi
  rw[es' i hi,show(p:Int)*T i i=(p:Int) ^ (s i+1) by rw[es i hi,Yq,Zf]] at this
  exact DS hp this
 obtain⟨a,b⟩:=JG n hle;rcases Nat.lt_or_eq_of_le a with y|y
 ·exact y
 ·exfalso
  have hs:=TZ.same hU sub λi hi=>by
   show(p:Int)*T i i=T' i i
   rw[es i hi,es' i hi,b y i hi,Yq,Zf]
  obtain⟨cr,er⟩:=hr;obtain⟨w,hw⟩:=jt.sm (c:=cr) (U:=T') n hs;have e:∀j,sm n r T j=sm n (λm=>(p:Int)*w m) T j:=λj=>by
   have e1:sm n r T j=sm n cr T' j:=er j;have e2:sm n cr T' j=sm n w (λi j=>(p:Int)*T i j) j:=hw j
   rw[e1,e2];exact BU λi _=>by grind
  exact nd ⟨_,hT.uniq n (Yd n) e k hk⟩
theorem uQ.le (X:Xr f n p φ ip)(hf:Top f n)(hn:1<=n)(hp:2<=p)(L:uQ n p φ ip d T){g:Fn}(hg:∀m,m<n->g m=((m+1:Nat):Int)*f (m+1)){s:Nat->Nat}(es:∀i,i<n->T i i=(p:Int) ^ s i)
  {z:Nat} {u:Int} (hD:(det n λa c=>aW n λk=>g k*tk f n (k+a) c)=(p:Int) ^ z*u) (hu:¬ (p:Int) ∣ u):2*(d*n)<=2*tot n s+z:=by
 obtain⟨w,e⟩:=uQ.PJ X hf hn (by omega) L hg
 rw[Aj n es,hD] at e;by_cases c:2*(d*n)<=2*tot n s+z
 ·exact c
 exfalso
 obtain⟨k,hk⟩:∃k,2*(d*n)=2*tot n s+z+(k+1):=⟨2*(d*n)-(2*tot n s+z)-1,by omega⟩
 have e1:((p:Int) ^ d*(p:Int) ^ d) ^ n=(p:Int) ^ (2*tot n s+z)*((p:Int)*(p:Int) ^ k):=by
  rw[<- Yo,<- Jj,show(d+d)*n=2*(d*n) by rw[Zn];omega,hk,Yo,Yq,Zf ((p:Int) ^ k)]
 have e2:(p:Int) ^ tot n s*(p:Int) ^ tot n s*((p:Int) ^ z*u)=(p:Int) ^ (2*tot n s+z)*u:=by
  rw[Yo,show 2*tot n s=tot n s+tot n s by omega,Yo];grind
 rw[e1,e2,Zv] at e;have:=Za (Wo (by omega)) e
 exact hu ⟨(p:Int) ^ k*w,by rw[this];grind⟩
end
section
variable {α:Type} [CommRing α]
theorem nM {M:Md α}{a:aO α}(h:Dg a M.n):Alg.rest M a=a:=rest_eq h (Cg.refl _ _)
theorem PL {M:Md α}:∀k:Nat,(nt (Qt M) k).s=cst (nt α k)
 | 0=>iT.symm
 | k+1=>by
  show(nt (Qt M) k).s+1=cst (nt α k+1)
  rw[PL k,z8];rfl
theorem u6 {M:Md α}(k:Int):(zc (Qt M) k).s=cst (zc α k):=by
 rcases Int.le_total 0 k with y|y
 ·obtain⟨n,rfl⟩:=Zo y
  rw[bZ,bZ,PL]
 ·obtain⟨n,e⟩:=Zo (show 0<=-k by omega)
  rw[show k=-(n:Int) by omega,gG,gG,bZ,bZ,RZ,PL]
  apply aO.ext
  funext i
  show -(cst (nt α n)).c i=if i=0 then -nt α n else 0
  show -(if i=0 then nt α n else 0)=_
  by_cases c:i=0
  ·rw[Jl c,Jl c]
  ·rw[Jk c,Jk c];grind
end
theorem JH (k:Int):zc Rat k=(k:Rat):=rfl
section
variable {f:Fn} {n p:Nat}
def Sv (v:Vc):aO Rat:=⟨λi=>(v i:Rat)⟩
theorem JI {v:Vc}{n:Nat}(h:∀j,n<=j->v j=0):Dg (Sv v) n:=λi hi=>by show((v i:Int):Rat)=0;rw[h i hi];rfl
def Mf (hf:Top f n)(hn:1<=n):Md Rat:=⟨Sv f,n,⟨by show((f n:Int):Rat)=1;rw[hf.one];rfl,JI λj hj=>hf.top j (by omega)⟩,hn⟩
def fc (n:Nat)(v:Vc):Vc:=λj=>if j<n then v j else 0
def PM (hf:Top f n)(hn:1<=n)(v:Vc):Qt (Mf hf hn):=⟨Sv (fc n v),JI λj (hj:n<=j)=>Jk (by omega)⟩
theorem NR (hf:Top f n)(hn:1<=n):∀k,Cg (Sv f) (mon 1 k) (Sv (tk f n k))
 | 0=>by
  have:Sv (tk f n 0)=mon 1 0:=by
   apply aO.ext;funext i
   show((xp 0 i:Int):Rat)=if i=0 then 1 else 0
   unfold xp;by_cases c:i=0
   ·rw[Jl c,Jl c];rfl
   ·rw[Jk c,Jk c];rfl
  rw[this];exact Cg.refl _ _
 | k+1=>by
  have e1:(mon 1 (k+1):aO Rat)=X*mon 1 k:=by
   apply aO.ext;funext i
   show _=(mon 1 1*mon 1 k:aO Rat).c i
   rw[jh];show(if i=k+1 then (1:Rat) else 0)=if 1<=i then 1*(if i-1=k then (1:Rat) else 0) else 0
   by_cases c:1<=i
   ·rw[Jl c]
    by_cases d:i=k+1
    ·rw[Jl d,Jl (by omega)];grind
    ·rw[Jk d,Jk (by omega)];grind
   ·rw[Jk c,Jk (by omega)]
  rw[e1];have px:cO (Sv (tk f n k)):=⟨n,JI λj hj=>wK hf hn k j hj⟩
  refine(Cg.mul cO.X (⟨_,Dg.mon 1 k⟩) (Cg.refl _ _) (NR hf hn k)).trans ⟨cst ((tk f n k (n-1):Int):Rat),cO.cst _,?_⟩
  apply aO.ext;funext i
  rw[Fy,cQ];show(mon 1 1*Sv (tk f n k):aO Rat).c i-(((if i=0 then 0 else tk f n k (i-1))-tk f n k (n-1)*f i:Int):Rat)=((tk f n k (n-1):Int):Rat)*((f i:Int):Rat)
  rw[jh,Rat.intCast_sub,Rat.intCast_mul];by_cases c:1<=i
  ·rw[Jl c,Jk (by omega)]
   show(1:Rat)*((tk f n k (i-1):Int):Rat)-_=_
   grind
  ·rw[Jk c,Jl (by omega)]
   show(0:Rat)-((0:Rat)-_)=_
   grind
theorem Sj (hf:Top f n)(hn:1<=n)(hp:1<=p):∃ip,Xr f n p (PM hf hn) ip:=by
 have Mn:(Mf hf hn).n=n:=rfl;have d1:∀x:Rat,Dg (cst x) (Mf hf hn).n:=λx=>(Dg.cst x).mono (by rw[Mn];exact hn)
 have QL:∀(x:Rat) (a b:Qt (Mf hf hn)),a.s=cst x->∀i,(a*b).s.c i=x*b.s.c i:=λx a b h i=>by
  rw[BN,h,nM,cQ];exact λj hj=>by rw[cQ,b.lt j hj];grind
 have hp0:((p:Int):Rat)≠0:=λz=>by
  have:((p:Int):Rat)=((0:Int):Rat):=z
  have:=Rat.intCast_inj.mp this
  omega
 refine⟨⟨cst ((p:Int):Rat)⁻¹,d1 _⟩,⟨λa v w=>?_,λv w e j hj=>?_,λv w e=>?_⟩,?_,?_,λa b ha hb=>?_⟩
 ·apply Qt.ext;apply aO.ext;funext i
  rw[FA,rX,QL _ _ _ (u6 a),JH];show(((if i<n then a*v i+w i else 0:Int)):Rat)=(a:Rat)*(((if i<n then v i else 0:Int)):Rat)+(((if i<n then w i else 0:Int)):Rat)
  by_cases c:i<n
  ·rw[Jl c,Jl c,Jl c,Rat.intCast_add,Rat.intCast_mul]
  ·rw[Jk c,Jk c,Jk c]
   show(0:Rat)=(a:Rat)*0+0
   grind
 ·have h:(PM hf hn v).s.c j=(PM hf hn w).s.c j:=by rw[e]
  have h:(((if j<n then v j else 0:Int)):Rat)=(((if j<n then w j else 0:Int)):Rat):=h
  rw[Jl hj,Jl hj] at h;exact Rat.intCast_inj.mp h
 ·apply Qt.ext;apply aO.ext;funext i
  show(((if i<n then v i else 0:Int)):Rat)=(((if i<n then w i else 0:Int)):Rat)
  by_cases c:i<n
  ·rw[Jl c,Jl c,e i c]
  ·rw[Jk c,Jk c]
 ·apply Qt.ext;apply aO.ext;funext i
  rw[<- bZ,QL _ _ _ (u6 (p:Int)),JH];show((p:Int):Rat)*(if i=0 then ((p:Int):Rat)⁻¹ else 0)=if i=0 then 1 else 0
  by_cases c:i=0
  ·rw[Jl c,Jl c];exact Rat.mul_inv_cancel _ hp0
  ·rw[Jk c,Jk c];grind
 ·apply Qt.ext;apply aO.ext;funext i
  show(((if i<n then (if i=0 then 1 else 0) else 0:Int)):Rat)=if i=0 then 1 else 0
  by_cases c:i=0
  ·rw[Jl (by omega),Jl c,Jl c];rfl
  ·rw[Jk c,Jk c]
   by_cases h:i<n
   ·rw[Jl h];rfl
   ·rw[Jk h];rfl
 ·have hu:∀a,a<n->(PM hf hn (un a)).s=mon 1 a:=λa ha=>by
   apply aO.ext;funext i
   show(((if i<n then (if i=a then 1 else 0) else 0:Int)):Rat)=if i=a then 1 else 0
   by_cases c:i=a
   ·rw[Jl (by omega),Jl c,Jl c];rfl
   ·rw[Jk c,Jk c]
    by_cases h:i<n
    ·rw[Jl h];rfl
    ·rw[Jk h];rfl
  apply Qt.ext
  rw[BN,hu a ha,hu b hb];refine rest_eq (PM hf hn _).lt ?_
  have e1:(mon 1 a*mon 1 b:aO Rat)=mon 1 (a+b):=by
   apply aO.ext;funext i
   rw[jh];show(if a<=i then 1*(if i-a=b then (1:Rat) else 0) else 0)=if i=a+b then 1 else 0
   by_cases c:a<=i
   ·rw[Jl c]
    by_cases d:i=a+b
    ·rw[Jl d,Jl (by omega)];grind
    ·rw[Jk d,Jk (by omega)];grind
   ·rw[Jk c,Jk (by omega)]
  have e2:(PM hf hn (tk f n (a+b))).s=Sv (tk f n (a+b)):=by
   apply aO.ext;funext i
   show(((if i<n then tk f n (a+b) i else 0:Int)):Rat)=((tk f n (a+b) i:Int):Rat)
   by_cases c:i<n
   ·rw[Jl c]
   ·rw[Jk c,wK hf hn _ _ (by omega)]
  rw[e1,e2];exact NR hf hn (a+b)
end
end L2
set_option exponentiation.threshold 2000
namespace L2
open PySem PySem.Spec PyProof.Rows
def sN (W:Nat):Nat->Fn->Nat
 | 0,_=>0
 | N+1,h=>sN W N h+(h N).natAbs*W ^ N
theorem Ak {W:Nat}{h:Fn}:∀ {N M:Nat},N<=M->sN W N h<=sN W M h
 | N,0,h=>by rw[show N=0 by omega];exact Yd _
 | N,M+1,h=>by
  by_cases c:N=M+1
  ·rw[c];exact Yd _
  ·have:=Ak (W:=W) (h:=by assumption) (show N<=M by omega)
   show _<=sN W M _+_
   omega
theorem FP {W:Nat}{h:Fn}{N j:Nat}(hj:j<N):(h j).natAbs*W ^ j<=sN W N h:=by
 have h1:(h j).natAbs*W ^ j<=sN W (j+1) h:=Nat.le_add_left _ _;exact Ym h1 (Ak (by omega))
theorem DT {W:Nat}{a b c:Fn}(e:∀j,c j=a j+b j):∀N,sN W N c<=sN W N a+sN W N b
 | 0=>Yd 0
 | N+1=>by
  show sN W N c+(c N).natAbs*W ^ N<=sN W N a+(a N).natAbs*W ^ N+(sN W N b+(b N).natAbs*W ^ N)
  have h1:=DT (W:=W) e N;have h2:(c N).natAbs<=(a N).natAbs+(b N).natAbs:=by rw[e N];exact Int.natAbs_add_le _ _
  have h3:=Yp (W ^ N) h2;rw[Zn] at h3;omega
theorem JJ {W i:Nat}{g:Fn}(c:Int):∀N,sN W N (λj=>c*cv (xp i) g j)<=c.natAbs*W ^ i*sN W N g
 | 0=>Y5 _
 | N+1=>by
  have key:∀M,sN W (M+i) (λj=>c*cv (xp i) g j)<=c.natAbs*W ^ i*sN W M g:=by
   intro M;induction M with
   | zero=>
    have z:∀k,k<=i->sN W k (λj=>c*cv (xp i) g j)=0:=by
     intro k;induction k with
     | zero=>intro _;rfl
     | succ k ih=>
      intro hk;show sN W k _+(c*cv (xp i) g k).natAbs*W ^ k=0
      rw[ih (by omega),je,Jk (by omega)];simp
    rw[Jf,z i (Yd i)];exact Y5 _
   | succ M ih=>
    rw[show M+1+i=M+i+1 by omega]
    show sN W (M+i) _+(c*cv (xp i) g (M+i)).natAbs*W ^ (M+i)<=c.natAbs*W ^ i*(sN W M g+(g M).natAbs*W ^ M)
    rw[je,Jl (by omega),Wv,Zq,Zi,Z0]
    have:c.natAbs*(g M).natAbs*(W ^ M*W ^ i)=c.natAbs*W ^ i*((g M).natAbs*W ^ M):=by ac_rfl
    omega
  refine Ym (Ak (show N+1<=N+1+i by omega)) (key (N+1))
theorem NS {W L:Nat}{a g:Fn}(ha:∀j,L<=j->a j=0)(N:Nat):sN W N (cv a g)<=sN W L a*sN W N g:=by
 have e:∀m,cv a g m=aW L λi=>a i*cv (xp i) g m:=by
  intro m;have h1:cv a g m=bO (m+1) λi=>a i*g (m-i):=rfl
  rw[h1,<- eH];have h2:aW L (λi=>a i*cv (xp i) g m)=aW (L+(m+1)) λi=>a i*cv (xp i) g m:=(vE (by omega) λi hi _=>by rw[ha i hi,Y4]).symm
  have h3:aW (m+1) (λi=>a i*g (m-i))=aW (L+(m+1)) λi=>a i*cv (xp i) g m:=by
   rw[vE (m:=m+1) (n:=L+(m+1)) (by omega) λi hi _=>by rw[je,Jk (by omega),Yr]]
   exact aA λi hi=>by rw[je,Jl (by omega)]
  rw[h2,h3]
 have key:∀M,sN W N (λm=>aW M λi=>a i*cv (xp i) g m)<=sN W M a*sN W N g:=by
  intro M;induction M with
  | zero=>
   have:∀K,sN W K (λ_=>(0:Int))=0:=λK=>by
    induction K with
    | zero=>rfl
    | succ K ih=>show sN W K _+Wa 0*_=0;rw[ih];simp
   show sN W N (λ_=>(0:Int))<=_
   rw[this];exact Y5 _
  | succ M ih=>
   refine Ym (DT (a:=λm=>aW M λi=>a i*cv (xp i) g m) (b:=λm=>a M*cv (xp M) g m) (λm=>rfl) N) ?_
   show _<=(sN W M a+(a M).natAbs*W ^ M)*sN W N g
   rw[Zn];exact Nat.add_le_add ih (JJ (a M) N)
 rw[show cv a g=λm=>aW L λi=>a i*cv (xp i) g m from funext e]
 exact key L
theorem FQ {W:Nat}{h:Fn}{N:Nat}(h0:∀j,N<=j->h j=0):∀ {M},N<=M->sN W M h=sN W N h
 | 0,hM=>by rw[show N=0 by omega]
 | M+1,hM=>by
  by_cases c:N=M+1
  ·rw[c]
  ·show sN W M h+(h M).natAbs*W ^ M=_
   rw[FQ h0 (show N<=M by omega),h0 M (by omega)];simp
theorem GW {p:List Int}{n:Nat}(hp:Norm p)(h:Top (ao p) n):p.length=n+1:=by
 rcases hp with z|z
 ·rw[z] at h
  have:=h.one
  rw[iS] at this;cases this
 ·have h1:¬ p.length-1 > n:=λc=>z (h.top _ c)
  have h2:¬ p.length<=n:=λc=>by
   have:=h.one
   rw[bD c] at this;cases this
  omega
theorem topC {f:List Int}{n:Nat}(hl:f.length=n+1)(hm:L2.b7 f):Top (ao f) n:=⟨by have:=hm.2;rw[hl] at this;exact this,λm hm=>bD (by omega)⟩
structure Pw (r:Nat)(f:List Int)(n:Nat):Prop where
 len:f.length=n+1
 mon:L2.b7 f
 nm:sN (2 ^ 40) (n+1) (ao f)<=(2 ^ (40+r)) ^ n
variable {r s n m:Nat} {f g:List Int}
theorem Pw.hi (h:Pw r f n){j:Nat}(hj:n+1<=j):ao f j=0:=bD (by rw[h.len];exact hj)
theorem Pw.top (h:Pw r f n):Top (ao f) n:=topC h.len h.mon
theorem Pw.mono (h:Pw r f n)(hr:r<=s):Pw s f n:=⟨h.len,h.mon,Ym h.nm (Z9 (Y2 (by decide) (by omega)) n)⟩
theorem Pw.mul (hf:Pw r f n)(hg:Pw r g m):Pw r (trim (dY f g)) (n+m):=by
 have fn:f≠[]:=hf.mon.1;have gn:g≠[]:=hg.mon.1;have hl:(dY f g).length=n+m+1:=by
  unfold dY;rw[Jk (by rintro (z|z);exact fn z;exact gn z),Ya,Yf,hf.len,hg.len];omega
 have top:ao (dY f g) (n+m)=1:=by
  rw[L3,Dt hg.top λi hi=>hf.hi (by omega)];exact hf.top.one
 have nn:Norm (dY f g):=.inr (by rw[hl];show ao _ (n+m)≠0;rw[top];decide)
 rw[GD nn];refine⟨hl,⟨(λz=>by rw[z] at hl;cases hl),by rw[hl];exact top⟩,?_⟩
 rw[L3,Z0];refine Ym (NS (L:=n+1) (λj hj=>hf.hi hj) _) (Zy hf.nm ?_)
 rw[FQ (N:=m+1) (λj hj=>hg.hi hj) (by omega)]
 exact hg.nm
theorem Pw.one:Pw r [1] 0:=⟨rfl,⟨by simp,rfl⟩,by show 0+1*(2 ^ 40) ^ 0<=_;simp⟩
theorem Pw.of (hl:f.length=n+1)(hm:L2.b7 f)(hn:n<=8)(h:∀k,k<n->8*(ao f k).natAbs<=(2 ^ 40) ^ (n-k)):Pw 1 f n:=by
 refine⟨hl,hm,?_⟩
 have key:∀k,k<=n->8*sN (2 ^ 40) k (ao f)<=k*(2 ^ 40) ^ n:=by
  intro k;induction k with
  | zero=>intro _;show 8*0<=0*_;simp
  | succ k ih=>
   intro hk;show 8*(sN (2 ^ 40) k (ao f)+(ao f k).natAbs*(2 ^ 40) ^ k)<=_
   have h1:=ih (by omega)
   have h2:=Yp ((2 ^ 40) ^ k) (h k (by omega))
   rw[<- Z0,Wk (by omega)] at h2
   rw[Zn,Zi];rw[Z6] at h2;omega
 have top:ao f n=1:=(topC hl hm).one;show sN (2 ^ 40) n (ao f)+(ao f n).natAbs*(2 ^ 40) ^ n<=_
 rw[top];cases n with
 | zero=>simp[sN]
 | succ n=>
  have h1:=key (n+1) (Yd _);have h2:(n+1)*(2 ^ 40) ^ (n+1)<=8*(2 ^ 40) ^ (n+1):=Yp _ hn;have h3:2*(2 ^ 40) ^ (n+1)<=(2 ^ (40+1)) ^ (n+1):=by
   rw[Zu 2 40,Nat.mul_pow,Zk];exact Y6 _ (by rw[Zu];have:=Wf (n:=n) (show 0<2 by decide);omega)
  have e:Wa 1=1:=rfl;rw[e];omega
theorem Pw.gT {c:Int}(h:c.natAbs<=2 ^ 37):Pw 1 [c,1] 1:=Pw.of rfl ⟨by simp,rfl⟩ (by decide) λk hk=>by
 rw[show k=0 by omega]
 show 8*c.natAbs<=(2 ^ 40) ^ 1
 omega
theorem FT (W:Nat)(a:Int)(r:List Int):∀N,sN W (N+1) (ao (a::r))=a.natAbs+W*sN W N (ao r)
 | 0=>by show 0+(ao (a::r) 0).natAbs*W ^ 0=a.natAbs+W*0;rw[show ao (a::r) 0=a from rfl];simp
 | N+1=>by
  show sN W (N+1) (ao (a::r))+(ao (a::r) (N+1)).natAbs*W ^ (N+1)=a.natAbs+W*(sN W N (ao r)+(ao r N).natAbs*W ^ N)
  rw[FT W a r N,show ao (a::r) (N+1)=ao r N from rfl,Zi,Zu]
  have:(ao r N).natAbs*(W ^ N*W)=W*((ao r N).natAbs*W ^ N):=by ac_rfl
  omega
theorem FU (W:Nat):∀N,sN W N (λ_=>(0:Int))=0
 | 0=>rfl
 | N+1=>by show sN W N _+Wa 0*_=0;rw[FU W N];simp
theorem JK (W:Nat)(a:Int):∀N,sN W N (λm=>if m=0 then a else 0)<=a.natAbs
 | 0=>Y5 _
 | 1=>by show 0+a.natAbs*W ^ 0<=_;simp
 | N+2=>by
  show sN W (N+1) _+(if N+1=0 then a else 0).natAbs*_<=_
  rw[Jk (by omega)]
  have:=JK W a (N+1)
  simp
  exact this
theorem JL {W:Nat}{c:Int}(hc:c.natAbs<=W):∀N,sN W N (gT (-c))<=2*W
 | 0=>Y5 _
 | 1=>by show 0+(gT (-c) 0).natAbs*W ^ 0<=_;rw[show gT (-c) 0=-(-c) from rfl];simp;omega
 | 2=>by
  show 0+(gT (-c) 0).natAbs*W ^ 0+(gT (-c) 1).natAbs*W ^ 1<=_
  rw[show gT (-c) 0=-(-c) from rfl,show gT (-c) 1=1 from rfl]
  simp;omega
 | N+3=>by
  show sN W (N+2) _+(gT (-c) (N+2)).natAbs*_<=_
  have e:gT (-c) (N+2)=0:=by unfold L2.gT;rw[Jk (by omega),Jk (by omega)]
  rw[e];have:=JL hc (N+2)
  simp
  exact this
theorem NT {W:Nat}{c:Int}(hc:c.natAbs<=W):∀(f:List Int) (N:Nat),sN W N (ao (cP c f))<=sN (2*W) f.length (ao f)
 | [],N=>by rw[Dz,FU];exact Y5 _
 | a::r,N=>by
  rw[List.length_cons,FT];have h1:=DT (W:=W) (a:=cv (ao (cP c r)) (gT (-c))) (b:=λm=>if m=0 then a else 0) (c:=ao (cP c (a::r))) (λj=>rS c a r j) N
  have h2:=NS (W:=W) (L:=(cP c r).length) (a:=ao (cP c r)) (g:=gT (-c)) (λj hj=>bD hj) N
  have h3:=NT hc r (cP c r).length;have h4:=JL hc N;have h5:=JK W a N;have h6:=Zy h3 h4;rw[Zk (sN (2*W) r.length (ao r))] at h6;omega
theorem JM {W:Nat}{h:Fn}(n:Nat):∀N,N<=n+1->sN (2*W) N h<=2 ^ n*sN W N h
 | 0,_=>Y5 _
 | N+1,hN=>by
  show sN (2*W) N h+(h N).natAbs*(2*W) ^ N<=2 ^ n*(sN W N h+(h N).natAbs*W ^ N)
  have h1:=JM (W:=W) (h:=h) n N (by omega)
  have h2:2 ^ N<=2 ^ n:=Y2 (by decide) (by omega)
  have h3:=Yp ((h N).natAbs*W ^ N) h2;rw[Nat.mul_pow,Zi];have:(h N).natAbs*(2 ^ N*W ^ N)=2 ^ N*((h N).natAbs*W ^ N):=by ac_rfl
  omega
theorem JN (c:Int):∀(f:List Int) (n:Nat),f.length=n+1->ao f n=1->Top (ao (cP c f)) n
 | [],n,h,_=>by cases h
 | [a],n,h,e=>by
  have hn:n=0:=by simp at h;omega
  subst hn;have ha:a=1:=e;have e2:ao (cP c [a])=λm=>if m=0 then a else 0:=funext λm=>by
   rw[rS,Dz];have:cv (λ_=>0) (L2.gT (-c)) m=0:=by
    show bO (m+1) (λi=>(0:Int)*_)=0
    rw[show(λi=>(0:Int)*L2.gT (-c) (m-i))=λ_=>0 from funext λi=>Y4 _]
    exact cN λ_ _=>rfl
   rw[this,Z5]
  rw[e2];exact⟨by rw[Jl rfl];exact ha,λm hm=>by rw[Jk (by omega)]⟩
 | a::b::r,n,h,e=>by
  cases n with
  | zero=>simp at h
  | succ n=>
   have ih:=JN c (b::r) n (by simpa using h) e
   have hl:Top (L2.gT (-c)) 1:=⟨rfl,λm hm=>by unfold L2.gT;rw[Jk (by omega),Jk (by omega)]⟩
   have t:=ih.mul hl;exact⟨by rw[rS,Jk (by omega),Z4];exact t.one,λm hm=>by rw[rS,Jk (by omega),Z4];exact t.top m hm⟩
theorem Pw.shift {c:Int}(h:Pw r f n)(hc:c.natAbs<=2 ^ 40):Pw (r+1) (cP c f) n:=by
 have t:=JN c f n h.len h.top.one;have nn:Norm (cP c f):=wA _ _;have hl:=GW nn t;refine⟨hl,⟨(λz=>by rw[z] at hl;cases hl),by rw[hl];exact t.one⟩,?_⟩
 have h1:=NT hc f (n+1);rw[h.len] at h1;have h2:=JM (W:=2 ^ 40) (h:=ao f) n (n+1) (Yd _);refine Ym h1 (Ym h2 (Ym (Y6 _ h.nm) ?_))
 rw[<- Nat.mul_pow,show 40+(r+1)=40+r+1 by omega,Zu 2 (40+r),Zk]
 exact Yd _
theorem Pw.wb (h:Pw r f n):wb (2 ^ 40) (2 ^ (r*n)*(2 ^ 40) ^ n) (ao f):=λj=>by
 have e:(2 ^ (40+r)) ^ n=2 ^ (r*n)*(2 ^ 40) ^ n:=by
  rw[Z0,Nat.mul_pow,Zk,<- Wu 2 r n]
 rw[<- e];by_cases c:j<n+1
 ·exact Ym (FP c) h.nm
 ·rw[h.hi (by omega)];simp
theorem Pw.bd (h:Pw r f n)(j:Nat):(ao f j).natAbs<=2 ^ ((40+r)*n):=by
 rw[Wu];by_cases c:j<n+1
 ·exact Ym (Nat.le_mul_of_pos_right _ (Wf (by decide))) (Ym (FP (W:=2 ^ 40) c) h.nm)
 ·rw[h.hi (by omega)];exact Y5 _
theorem Pw.Ft (h:Pw r f n):gR ((40+r)*n+1) f:=zV λj _=>Wb (h.bd j) (Wp (by decide) (by omega))
end L2
namespace L2
open Alg Lean.Grind
theorem ze {T:Nat->Vc}{c v:Vc}{i:Nat}:∀n,(∀k,k<n->∀j,k<j->T k j=0)->(∀k,k<n->T k k≠0)->(∀j,v j=sm n c T j)->i<n->(∀j,i<j->v j=0)->∀j,v j=sm (i+1) c T j
 | 0,_,_,_,hi,_=>by omega
 | n+1,lX,nz,e,hi,h0=>by
  by_cases h:i=n
  ·rw[h];exact e
  ·have e1:v n=c n*T n n:=by
    rw[e n];show sm n c T n+c n*T n n=_
    rw[jB (q:=0) λk hk=>lX k (by omega) n hk];omega
   have e2:c n=0:=by
    rw[h0 n (by omega)] at e1
    rcases Int.mul_eq_zero.mp e1.symm with z|z
    ·exact z
    ·exact Jr z (nz n (by omega))
   refine ze n (λk hk=>lX k (by omega)) (λk hk=>nz k (by omega)) (λj=>?_) (by omega) h0
   rw[e j];show sm n c T j+c n*T n j=_
   rw[e2];simp
theorem jt.add {n:Nat}{T:Nat->Vc}{v w:Vc}(a:Int):jt n T v->jt n T w->jt n T λj=>a*v j+w j:=λ⟨c,e⟩ ⟨d,g⟩=>⟨λi=>a*c i+d i,λj=>by rw[j9,<- e,<- g]⟩
theorem jt.row {n:Nat}{T:Nat->Vc}{i:Nat}(hi:i<n):jt n T (T i):=⟨λk=>if k=i then 1 else 0,λj=>(iJ hi).symm⟩
theorem jt.of {n:Nat}{T:Nat->Vc}{v w:Vc}(h:jt n T v)(e:∀j,w j=v j):jt n T w:=by
 obtain⟨c,g⟩:=h;exact⟨c,λj=>by rw[e j,g j]⟩
theorem jt.cut {n:Nat}{T:Nat->Vc}(st:c7 n T){v:Vc}{i:Nat}(h:jt n T v)(hi:i<n)(h0:∀j,i<j->v j=0):∃a:Int,v i=a*T i i/\jt n T (λj=>v j-a*T i j)/\∀j,i<=j->v j-a*T i j=0:=by
 obtain⟨c,e⟩:=id h;have e1:=ze n st.lX st.nz e hi h0;have e2:v i=c i*T i i:=by
  rw[e1 i];show sm i c T i+c i*T i i=_
  rw[jB (q:=0) λk hk=>st.lX k (by omega) i hk];omega
 refine⟨c i,e2,?_,λj hj=>?_⟩
 ·exact jt.of (jt.add (-(c i)) (jt.row hi) h) λj=>by grind
 ·by_cases z:j=i
  ·rw[z,e2];omega
  ·rw[h0 j (by omega),st.lX i hi j (by omega)];simp
theorem vF {p:Nat}(hp:p∈PR){a:Int}(h:¬ (p:Int) ∣ a):∃y u:Int,a*y=1+p*u:=by
 have p1:=bM hp;have h0:0<=a % (p:Int):=Zr _ (by omega)
 have h1:a % (p:Int)<p:=Zm _ (by omega)
 obtain⟨y,_,e⟩:=wO p hp (a % (p:Int)).toNat (by omega) (λz=>h (Int.dvd_of_emod_eq_zero (by omega)))
 have e2:((a % (p:Int))*(y:Int)) % (p:Int)=1 % (p:Int):=by
  have:=Jp (λn:Nat=>(n:Int)) e
  simp only[Jb,Zl,Wh h0] at this
  exact this
 have e3:(p:Int) ∣ (a % (p:Int))*(y:Int)-1:=Int.dvd_of_emod_eq_zero (by rw[Int.sub_emod,e2];simp)
 obtain⟨u,hu⟩:=e3;have ha:=Z3 a (p:Int);generalize a % (p:Int)=r at*;generalize a / (p:Int)=t at*;exact⟨y,u+t*y,by rw[<- ha];grind⟩
theorem tS {p:Nat}(hp:p∈PR){a b:Int}(h:(p:Int) ∣ a*b):(p:Int) ∣ a\/(p:Int) ∣ b:=by
 by_cases c:(p:Int) ∣ a
 ·exact .inl c
 ·right
  obtain⟨y,u,e⟩:=vF hp c;obtain⟨w,hw⟩:=h;exact⟨y*w-u*b,by grind⟩
theorem JO {q:Int}{c:Vc}{A:Nat->Vc}{j:Nat}:∀n,(∀i,i<n->q ∣ A i j)->q ∣ sm n c A j
 | 0,_=>⟨0,by show(0:Int)=_;simp⟩
 | n+1,h=>by
  obtain⟨x,hx⟩:=JO n (c:=c) λi hi=>h i (by omega)
  obtain⟨y,hy⟩:=h n (by omega)
  exact⟨x+c n*y,by show sm n c A j+c n*A n j=_;rw[hx,hy];grind⟩
theorem JP {a b:Int}{c:Vc}{A D:Nat->Vc}{j k:Nat}:∀n,(∀i,i<n->D i j=a*A i j-A i k*b)->sm n c D j=a*sm n c A j-sm n c A k*b
 | 0,_=>by show(0:Int)=a*0-0*b;simp
 | n+1,h=>by
  show sm n c D j+c n*D n j=a*(sm n c A j+c n*A n j)-(sm n c A k+c n*A n k)*b
  rw[JP n λi hi=>h i (by omega),h n (by omega)];grind
theorem Al {p:Nat}(hp:p∈PR):∀(n:Nat) (A:Nat->Vc),∃c:Vc,(∃i,i<=n/\¬ (p:Int) ∣ c i)/\∀j,j<n->(p:Int) ∣ sm (n+1) c A j
 | 0,A=>⟨λ_=>1,⟨0,Yd _,λz=>by have:=bM hp;have z:(p:Int) ∣ 1:=z;have:=W6 (by decide) z;omega⟩,λj hj=>Jr hj (Wm _)⟩
 | n+1,A=>by
  by_cases all:∀i,i<=n+1->(p:Int) ∣ A i n
  ·obtain⟨c,⟨i,hi,hc⟩,h⟩:=Al hp n A
   refine⟨λi=>if i=n+1 then 0 else c i,⟨i,by omega,by show ¬ (p:Int) ∣ (if i=n+1 then 0 else c i);rw[Jk (by omega)];exact hc⟩,λj hj=>?_⟩
   by_cases z:j=n
   ·rw[z];exact JO _ λi hi=>all i (by omega)
   ·show(p:Int) ∣ sm (n+1) (λi=>if i=n+1 then 0 else c i) A j+(if n+1=n+1 then 0 else c (n+1))*A (n+1) j
    rw[Jl rfl,Y4,Z4,cW (d':=c) (R':=A) (λi hi=>Jk (by omega)) λ_ _=>rfl]
    exact h j (by omega)
  ·obtain⟨r,hr⟩:=Classical.not_forall.mp all
   obtain⟨hr1,hr2⟩:=Classical.not_imp.mp hr;obtain⟨B,hB⟩:∃B:Nat->Vc,B=λi=>if i=r then A (n+1) else A i:=⟨_,rfl⟩
   obtain⟨c,⟨i0,hi0,hc⟩,h⟩:=Al hp n λi j=>A r n*B i j-B i n*A r j
   obtain⟨s,hs⟩:∃s,s=- sm (n+1) c B n:=⟨_,rfl⟩;have key:∀j,sm (n+2) (λi=>if i=r then s else if i=n+1 then c r*A r n else c i*A r n) A j=A r n*sm (n+1) c B j-sm (n+1) c B n*A r j:=by
    intro j;have e0:A r n*sm (n+1) c B j=sm (n+1) (λi=>c i*A r n) B j:=by
     have:=j9 (n:=n+1) (A r n) (d:=c) (e:=λ_=>0) (R:=B) (j:=j)
     rw[iI,Z4] at this;rw[<- this];exact cW (λi _=>by show A r n*c i+0=_;rw[Z4,Zf]) λ_ _=>rfl
    rw[e0];show sm (n+1) (λi=>if i=r then s else if i=n+1 then c r*A r n else c i*A r n) A j+(if n+1=r then s else if n+1=n+1 then c r*A r n else c (n+1)*A r n)*A (n+1) j=_
    by_cases z:n+1=r
    ·rw[Jl z,cW (d':=λi=>c i*A r n) (R':=B) (λi hi=>by rw[Jk (by omega),Jk (by omega)]) λi hi=>by rw[hB];simp only[];rw[Jk (by omega)],hs,z]
     grind
    ·rw[Jk z,Jl rfl]
     have q:r<n+1:=by omega
     have e1:=DN q (c:=λi=>if i=r then 0 else c i*A r n) (Jl rfl) (T:=A) (lead:=A r) (a:=s) j
     have e2:=DN q (c:=λi=>if i=r then 0 else c i*A r n) (Jl rfl) (T:=A) (lead:=A (n+1)) (a:=c r*A r n) j
     have e3:sm (n+1) (λi=>if i=r then s else if i=n+1 then c r*A r n else c i*A r n) A j=sm (n+1) (λi=>if i=r then s else if i=r then 0 else c i*A r n) (λi=>if i=r then A r else A i) j:=by
      refine cW (λi hi=>?_) λi hi=>?_
      ·by_cases w:i=r
       ·rw[Jl w,Jl w]
       ·rw[Jk w,Jk w,Jk w,Jk (by omega)]
      ·by_cases w:i=r
       ·rw[Jl w,w]
       ·rw[Jk w]
     have e4:sm (n+1) (λi=>c i*A r n) B j=sm (n+1) (λi=>if i=r then c r*A r n else if i=r then 0 else c i*A r n) (λi=>if i=r then A (n+1) else A i) j:=by
      refine cW (λi hi=>?_) λi hi=>by rw[hB]
      by_cases w:i=r
      ·rw[Jl w,w]
      ·rw[Jk w,Jk w]
     rw[e3,e4,e1,e2,hs];grind
   refine⟨λi=>if i=r then s else if i=n+1 then c r*A r n else c i*A r n,⟨if i0=r then n+1 else i0,by split <;> omega,?_⟩,λj hj=>?_⟩
   ·intro z
    have e:(if (if i0=r then n+1 else i0)=r then s else if (if i0=r then n+1 else i0)=n+1 then c r*A r n else c (if i0=r then n+1 else i0)*A r n)=c i0*A r n:=by
     by_cases w:i0=r
     ·rw[Jl w,Jk (by omega),Jl rfl,w]
     ·rw[Jk w,Jk w,Jk (by omega)]
    have z:(p:Int) ∣ c i0*A r n:=by rw[<- e];exact z
    rcases tS hp z with z|z
    ·exact hc z
    ·exact hr2 z
   ·rw[key j]
    by_cases z:j=n
    ·rw[z];exact⟨0,by grind⟩
    ·have:=h j (by omega)
     rw[JP (a:=A r n) (b:=A r j) (A:=B) (k:=n) (n+1) λi _=>rfl] at this
     exact this
section
variable {R:Type} [CommRing R] {O:R->Prop}
def qW (O:R->Prop)(p a:R):Prop:=∃w,O w/\a=p*w
theorem qW.add (h:c9 O){p a b:R}:qW O p a->qW O p b->qW O p (a+b):=λ⟨x,hx,e⟩ ⟨y,hy,g⟩=>⟨x+y,h.add hx hy,by rw[e,g];grind⟩
theorem qW.mul (h:c9 O){p a b:R}(hb:O b):qW O p a->qW O p (b*a):=λ⟨x,hx,e⟩=>⟨b*x,h.mul hb hx,by rw[e];grind⟩
theorem qW.sub (h:c9 O){p a b:R}:qW O p a->qW O p b->qW O p (a-b):=λ⟨x,hx,e⟩ ⟨y,hy,g⟩=>⟨x+-y,h.add hx (h.neg hy),by rw[e,g];grind⟩
theorem PN (h:c9 O){p:R}{c:Vc}{o:Nat->R}{i0:Nat}:∀N,i0<N->qW O p (sR N c o)->(∀i,i<N->i≠i0->qW O p (zc R (c i)*o i))->qW O p (zc R (c i0)*o i0):=by
 have z:∀N,N<=i0->(∀i,i<N->i≠i0->qW O p (zc R (c i)*o i))->qW O p (sR N c o):=by
  intro N;induction N with
  | zero=>intro _ _;exact⟨0,h.zero,by show(0:R)=_;grind⟩
  | succ N ih=>intro hN ha;exact qW.add h (ih (by omega) λi hi=>ha i (by omega)) (ha N (by omega) (by omega))
 intro N;induction N with
 | zero=>intro hi;omega
 | succ N ih=>
  intro hi hs ha;have e:sR (N+1) c o=sR N c o+zc R (c N)*o N:=rfl;by_cases q:i0=N
  ·have h1:=z N (by omega) λi hi'=>ha i (by omega)
   have:=qW.sub h hs h1
   rw[e,show sR N c o+zc R (c N)*o N-sR N c o=zc R (c N)*o N by grind] at this
   rw[q];exact this
  ·refine ih (by omega) ?_ λi hi'=>ha i (by omega)
   have:=qW.sub h hs (ha N (by omega) (λw=>q w.symm))
   rw[e,show sR N c o+zc R (c N)*o N-zc R (c N)*o N=sR N c o by grind] at this
   exact this
variable {n:Nat} {el:Vc->R}
theorem eZ (a:R)(m:Nat):∀k,a ^ (m+k)=a ^ m*a ^ k
 | 0=>by rw[Nat.add_zero,aM];grind
 | k+1=>by rw[<- Nat.add_assoc,aH,eZ a m k,aH];grind
theorem nN {P:Nat->Prop}:∀n,P n->∃i,i<=n/\P i/\∀j,j<i->¬ P j
 | n,h=>by
  by_cases c:∃j,j<n/\P j
  ·obtain⟨j,hj,pj⟩:=c
   obtain⟨i,hi,pi,l⟩:=nN j pj;exact⟨i,by omega,pi,l⟩
  ·exact⟨n,Yd _,h,λj hj pj=>c ⟨j,hj,pj⟩⟩
theorem FW (B:oM n el)(h:c9 (Of el)){p:Nat}(hp:p∈PR){a:R}(ha:Of el a):∀m:Nat,qW (Of el) (nt R p) (a ^ m)->qW (Of el) (nt R p) (a ^ n)
 | m,hm=>by
  by_cases c:m<=n
  ·rw[show n=n-m+m by omega,eZ]
   exact qW.mul h (h.pow ha _) hm
  ·obtain⟨v,hv⟩:=Classical.axiomOfChoice λi=>h.pow ha i
   obtain⟨c,⟨i1,hi1,hc1⟩,hr⟩:=Al hp n v;obtain⟨i0,hi0,hc0,hl⟩:=nN (P:=λi=>¬ (p:Int) ∣ c i) i1 hc1
   have Vk:qW (Of el) (nt R p) (sR (n+1) c λi=>a ^ i):=by
    have e:(sR (n+1) c λi=>a ^ i)=el λj=>sm (n+1) c v j:=by
     rw[B.sm (n+1)];exact c_ (n+1) (λ_ _=>rfl) λi _=>hv i
    obtain⟨z,hz⟩:∃z:Vc,∀j,j<n->sm (n+1) c v j=(p:Int)*z j:=⟨λj=>sm (n+1) c v j / (p:Int),λj hj=>(Int.mul_ediv_cancel' (hr j hj)).symm⟩
    refine⟨el z,⟨z,rfl⟩,?_⟩
    rw[e,B.sup _ (λj=>(p:Int)*z j) hz,B.smul,bZ]
   have Sk:qW (Of el) (nt R p) (sR (n+1) c λi=>a ^ (m-1-i0)*a ^ i):=by
    rw[<- d8];exact qW.mul h (h.pow ha _) Vk
   have h1:=PN (i0:=i0) h (n+1) (by omega) Sk λi hi hne=>by
    by_cases q:i<i0
    ·obtain⟨u,hu⟩:=Classical.not_not.mp (hl i q)
     rw[hu,bH,bZ];exact⟨zc R u*(a ^ (m-1-i0)*a ^ i),h.mul (h.zc u) (h.mul (h.pow ha _) (h.pow ha _)),by grind⟩
    ·refine qW.mul h (h.zc _) ?_
     rw[<- eZ,show m-1-i0+i=m-1-i0+i-m+m by omega,eZ]
     exact qW.mul h (h.pow ha _) hm
   rw[<- eZ,show m-1-i0+i0=m-1 by omega] at h1
   obtain⟨y,u,hy⟩:=vF hp hc0;refine FW B h hp ha (m-1) ?_
   have h2:=qW.mul h (h.zc y) h1;have e:zc R y*(zc R (c i0)*a ^ (m-1))=a ^ (m-1)+nt R p*(zc R u*a ^ (m-1)):=by
    have:zc R (c i0*y)=1+nt R p*zc R u:=by rw[hy,jC,b9,bH,bZ]
    rw[bH] at this;grind
   rw[e] at h2;have h3:=qW.sub h h2 ⟨zc R u*a ^ (m-1),h.mul (h.zc u) (h.pow ha _),rfl⟩;rw[show a ^ (m-1)+nt R p*(zc R u*a ^ (m-1))-nt R p*(zc R u*a ^ (m-1))=a ^ (m-1) by grind] at h3
   exact h3
termination_by m=>m
theorem PU {α:Type}{M:α->Prop}{Q:α->α->Prop}(h:∀a,M a->∃b,M b/\Q a b){a0:α}(h0:M a0):∃s:Nat->α,(∀i,M (s i))/\∀i,Q (s i) (s (i+1)):=by
 obtain⟨g,hg⟩:=Classical.axiomOfChoice λa:{ a // M a }=>h a.1 a.2
 let t:Nat->{ a // M a }:=λi=>Nat.rec ⟨a0,h0⟩ (λ_ x=>⟨g x,(hg x).1⟩) i
 exact⟨λi=>(t i).1,λi=>(t i).2,λi=>(hg (t i)).2⟩
theorem Am (a b:R):∀m:Nat,(a*b) ^ m=a ^ m*b ^ m
 | 0=>by rw[aM,aM,aM];grind
 | m+1=>by rw[aH,Am a b m,aH,aH];grind
theorem NU (a:R)(m:Nat):∀k:Nat,a ^ (m*k)=(a ^ m) ^ k
 | 0=>by rw[Wn,aM,aM]
 | k+1=>by rw[Zw,eZ,NU a m k,aH]
theorem MH (B:oM n el)(h:c9 (Of el)){p:Nat}(hp:p∈PR){ip:R}(JD:nt R p*ip=1){k:Nat}(hq:n<=p ^ k)(hM:∀a,Ah (Of el) (nt R p) (p ^ k) a->Of el a)
  {O':R->Prop} (h':c9 O') (sub:∀a,Of el a->O' a) {N:Nat} (fin:∀a,O' a->Of el (nt R p ^ N*a)) (a0:R) (ha0:O' a0):Of el a0:=by
 refine V? λna0=>?_
 have q1:1<=p ^ k:=Wf (by have:=bM hp;omega)
 have oP:Of el (nt R p):=h.nt p;obtain⟨j,_,pj,lj⟩:=nN (P:=λj=>Of el (nt R p ^ j*a0)) N (fin a0 ha0)
 have j1:j≠0:=λz=>na0 (by rw[z,aM] at pj;rw[show a0=1*a0 by grind];exact pj)
 have M1:O' (nt R p ^ (j-1)*a0)/\¬ Of el (nt R p ^ (j-1)*a0)/\Of el (nt R p*(nt R p ^ (j-1)*a0)):=by
  refine⟨h'.mul (h'.pow (sub _ oP) _) ha0,lj (j-1) (by omega),?_⟩
  have e:nt R p ^ j=nt R p ^ (j-1)*nt R p:=by rw[<- aH];congr 1;omega
  have pj:Of el (nt R p ^ j*a0):=pj;rw[e] at pj;rw[show nt R p*(nt R p ^ (j-1)*a0)=nt R p ^ (j-1)*nt R p*a0 by grind]
  exact pj
 by_cases c:∃a,(O' a/\¬ Of el a/\Of el (nt R p*a))/\∀x,m7 (Of el) (nt R p) (p ^ k) x->Of el (x*a)
 ·obtain⟨a,⟨oa,na,pa⟩,ha⟩:=c
  refine na (hM a ⟨pa,λb hb=>?_⟩)
  have Vl:Of el (a*b):=by have:=ha b hb;rw[show a*b=b*a by grind];exact this
  refine⟨Vl,?_⟩
  obtain⟨w,ow,ew⟩:=hb.2;have key:qW (Of el) (nt R p) ((a*b) ^ (p ^ k*(N+1))):=by
   have e1:b ^ (p ^ k*(N+1))=nt R p*(nt R p ^ N*w ^ (N+1)):=by
    rw[NU,ew,Am,aH];grind
   have o1:=fin _ (h'.pow oa (p ^ k*(N+1)));refine⟨nt R p ^ N*a ^ (p ^ k*(N+1))*w ^ (N+1),h.mul o1 (h.pow ow _),?_⟩
   rw[Am,e1];grind
  obtain⟨w2,ow2,ew2⟩:=FW B h hp Vl _ key;refine⟨(a*b) ^ (p ^ k-n)*w2,h.mul (h.pow Vl _) ow2,?_⟩
  have:(a*b) ^ (p ^ k)=(a*b) ^ (p ^ k-n)*(a*b) ^ n:=by rw[<- eZ];congr 1;omega
  rw[this,ew2];grind
 ·have step:∀a,(O' a/\¬ Of el a/\Of el (nt R p*a))->∃b,(O' b/\¬ Of el b/\Of el (nt R p*b))/\∃x,m7 (Of el) (nt R p) (p ^ k) x/\b=x*a:=by
   intro a ha;refine V? λz=>c ⟨a,ha,λx hx=>V? λw=>z ⟨x*a,⟨h'.mul (sub _ hx.1) ha.1,w,?_⟩,x,hx,rfl⟩⟩
   rw[show nt R p*(x*a)=x*(nt R p*a) by grind]
   exact h.mul hx.1 ha.2.2
  obtain⟨s,hs,hx⟩:=PU step M1;have far:∀i d,∃z,m7 (Of el) (nt R p) (p ^ k) z/\s (i+d+1)=z*s i:=by
   intro i d;induction d with
   | zero=>
    obtain⟨x,Vn,e⟩:=hx i;exact⟨x,Vn,e⟩
   | succ d ih=>
    obtain⟨z,hz,e⟩:=ih;obtain⟨x,Vn,e2⟩:=hx (i+d+1);refine⟨x*z,hz.mul h Vn.1,?_⟩
    rw[show i+(d+1)+1=i+d+1+1 by omega,e2,e];grind
  obtain⟨v,hv⟩:=Classical.axiomOfChoice λi=>(hs i).2.2
  obtain⟨c,⟨i1,hi1,hc1⟩,hr⟩:=Al hp n v;obtain⟨i0,hi0,hc0,hl⟩:=nN (P:=λi=>¬ (p:Int) ∣ c i) i1 hc1
  have rel:Of el (sR (n+1) c s):=by
   have e:nt R p*sR (n+1) c s=el λj=>sm (n+1) c v j:=by
    rw[d8,B.sm (n+1)];exact c_ (n+1) (λ_ _=>rfl) λi _=>hv i
   obtain⟨z,hz⟩:∃z:Vc,∀j,j<n->sm (n+1) c v j=(p:Int)*z j:=⟨λj=>sm (n+1) c v j / (p:Int),λj hj=>(Int.mul_ediv_cancel' (hr j hj)).symm⟩
   rw[B.sup _ (λj=>(p:Int)*z j) hz,B.smul,bZ] at e
   exact⟨z,by grind⟩
  have split:∀M,i0<M->∃y o,m7 (Of el) (nt R p) (p ^ k) y/\Of el o/\sR M c s=zc R (c i0)*s i0+y*s i0+o:=by
   have low:∀M,M<=i0->Of el (sR M c s):=by
    intro M;induction M with
    | zero=>intro _;exact h.zero
    | succ M ih=>
     intro hM';obtain⟨u,hu⟩:=Classical.not_not.mp (hl M (by omega))
     refine h.add (ih (by omega)) ?_
     show Of el (zc R (c M)*s M)
     rw[hu,bH,bZ,show nt R p*zc R u*s M=zc R u*(nt R p*s M) by grind]
     exact h.mul (h.zc u) (hs M).2.2
   intro M;induction M with
   | zero=>intro z;omega
   | succ M ih=>
    intro hM';have e:sR (M+1) c s=sR M c s+zc R (c M)*s M:=rfl;by_cases q:M=i0
    ·refine⟨0,sR M c s,m7.zero h (by omega),low M (by omega),?_⟩
     rw[e,q];grind
    ·obtain⟨y,o,hy,ho,e2⟩:=ih (by omega)
     obtain⟨z,hz,e3⟩:=far i0 (M-i0-1);rw[show i0+(M-i0-1)+1=M by omega] at e3
     refine⟨y+zc R (c M)*z,o,hy.add h hp (hz.mul h (h.zc _)),ho,?_⟩
     rw[e,e2,e3];grind
  obtain⟨y,o,hy,ho,e⟩:=split (n+1) (by omega)
  obtain⟨u,t,hu⟩:=vF hp hc0;have pa:=(hs i0).2.2;have na:=(hs i0).2.1;rw[e] at rel;generalize s i0=a at rel pa na;have r1:Of el (zc R (c i0)*a+y*a):=by
   have:=h.add rel (h.neg ho)
   rw[show zc R (c i0)*a+y*a+o+-o=zc R (c i0)*a+y*a by grind] at this
   exact this
  have hY:m7 (Of el) (nt R p) (p ^ k) (-(zc R u*y)):=(hy.mul h (h.zc u)).neg h;have r2:Of el (a-(-(zc R u*y))*a):=by
   have h1:=h.add (h.mul (h.zc u) r1) (h.neg (h.mul (h.zc t) pa));have e2:zc R (c i0)*zc R u=1+nt R p*zc R t:=by rw[<- bH,hu,jC,b9,bH,bZ]
   rw[show zc R u*(zc R (c i0)*a+y*a)+-(zc R t*(nt R p*a))=a-(-(zc R u*y))*a by grind] at h1
   exact h1
  generalize -(zc R u*y)=Y at hY r2;have r3:∀m:Nat,Of el (a-Y ^ m*a):=by
   intro m;induction m with
   | zero=>rw[aM,show a-1*a=0 by grind];exact h.zero
   | succ m ih=>
    have h1:=h.add ih (h.mul (h.pow hY.1 m) r2);rw[show a-Y ^ m*a+Y ^ m*(a-Y*a)=a-Y ^ (m+1)*a by rw[aH];grind] at h1
    exact h1
  obtain⟨w,ow,ew⟩:=hY.2;have h1:=h.add (r3 (p ^ k)) (h.mul ow pa);rw[ew,show a-nt R p*w*a+w*(nt R p*a)=a by grind] at h1
  exact na h1
end
def Vo (f:Fn)(n:Nat)(u v:Vc):Vc:=λk=>sm n u (λa k=>sm n v (λb=>tk f n (a+b)) k) k
section
variable {R:Type} [CommRing R]
inductive Cl (O P:R->Prop):R->Prop where
 | mul {a b:R}:O a->P b->Cl O P (a*b)
 | add {a b:R}:Cl O P a->Cl O P b->Cl O P (a+b)
 | neg {a:R}:Cl O P a->Cl O P (-a)
theorem Cl.sub {O P:R->Prop}(h:c9 O)(k:c9 P):c9 (Cl O P) where
 one:=by rw[show(1:R)=1*1 by grind];exact .mul h.one k.one
 add:=.add
 neg:=.neg
 mul:=by
  intro a b ha hb;induction ha with
  | @mul x y hx hy=>
   induction hb with
   | @mul u v hu hv=>rw[show x*y*(u*v)=x*u*(y*v) by grind];exact .mul (h.mul hx hu) (k.mul hy hv)
   | @add u v _ _ i1 i2=>rw[show x*y*(u+v)=x*y*u+x*y*v by grind];exact .add i1 i2
   | @neg u _ i=>rw[show x*y*-u=-(x*y*u) by grind];exact .neg i
  | @add x y _ _ i1 i2=>rw[show(x+y)*b=x*b+y*b by grind];exact .add i1 i2
  | @neg x _ i=>rw[show -x*b=-(x*b) by grind];exact .neg i
variable {f:Fn} {n p d d':Nat} {φ:Vc->R} {ip:R} {T T':Nat->Vc}
theorem DU:∀d:Nat,nt R p ^ d=zc R ((p:Int) ^ d)
 | 0=>by rw[aM,Yu,b9]
 | d+1=>by rw[aH,DU d,Yq,bH,bZ]
end
theorem w6 {M:Int}{a b:Nat->Int}:∀n,(∀i,i<n->M ∣ b i-a i)->M ∣ aW n b-aW n a
 | 0,_=>⟨0,by show(0:Int)-0=_;simp⟩
 | n+1,h=>by
  obtain⟨x,hx⟩:=w6 n λi hi=>h i (by omega)
  obtain⟨y,hy⟩:=h n (by omega)
  exact⟨x+y,by show aW n b+b n-(aW n a+a n)=_;rw[Int.mul_add];omega⟩
theorem JQ {n:Nat}(M:Mx){r:Nat}(hr:r<n):det n (eE M r λ_=>0)=0:=by
 have:=jV 0 0 (λ_=>0) (λ_=>0) n M r hr
 rw[show(λc:Nat=>(0:Int)*0+0*0)=λ_=>0 from rfl] at this
 rw[this];omega
theorem BZ {n:Nat}(M:Mx){r:Nat}(hr:r<n)(u:Nat->Int)(v:Nat->Nat->Int):∀m,det n (eE M r λc=>aW m λk=>u k*v k c)=aW m λk=>u k*det n (eE M r (v k))
 | 0=>JQ M hr
 | m+1=>by
  show det n (eE M r λc=>aW m (λk=>u k*v k c)+u m*v m c)=aW m (λk=>u k*det n (eE M r (v k)))+u m*det n (eE M r (v m))
  have:=jV 1 (u m) (λc=>aW m λk=>u k*v k c) (v m) n M r hr
  rw[<- BZ M hr u v m,show(λc=>aW m (λk=>u k*v k c)+u m*v m c)=λc=>1*aW m (λk=>u k*v k c)+u m*v m c from funext λc=>by omega,this]
  omega
def iU (n:Nat)(M:Mx):Mx:=λk i=>det n (eE M i (dX k))
theorem oO {n:Nat}(M:Mx){i j:Nat}(hi:i<n)(hj:j<n):gp n M (iU n M) i j=det n M*dX i j:=by
 show(aW n λk=>M i k*det n (eE M j (dX k)))=_
 rw[<- BZ M hj (M i) dX n];have e:det n (eE M j λc=>aW n λk=>M i k*dX k c)=det n (eE M j (M i)):=aP λr c _ hc=>by
  unfold eE;by_cases z:r=j
  ·rw[Jl z,Jl z];exact c8 hc _
  ·rw[Jk z,Jk z]
 rw[e];unfold dX;by_cases z:j=i
 ·rw[Jl z,z,kM];omega
 ·rw[Jk z,wC hi hj (λw=>z w.symm) λc=>by rw[eo (λw=>z w.symm),eG]];omega
section
variable {R:Type} [CommRing R]
inductive Ad (α:R):R->Prop where
 | one:Ad α 1
 | gen:Ad α α
 | add {a b:R}:Ad α a->Ad α b->Ad α (a+b)
 | neg {a:R}:Ad α a->Ad α (-a)
 | mul {a b:R}:Ad α a->Ad α b->Ad α (a*b)
theorem Ad.sub (α:R):c9 (Ad α):=⟨.one,.add,.neg,.mul⟩
variable {n:Nat} {α:R} {β:Nat->R} {d:Nat->Int}
variable {f:Fn} {p:Nat} {φ:Vc->R} {ip:R}
end
section
variable {R:Type} [CommRing R]
def red (R:Type)[CommRing R](a:aO Int):aO R:=⟨λi=>zc R (a.c i)⟩
theorem dh {a:aO Int}{n:Nat}(h:Dg a n):Dg (red R a) n:=λi hi=>by show zc R (a.c i)=0;rw[h i hi];exact fk
theorem vG (a b:aO Int):red R (a+b)=red R a+red R b:=by
 apply aO.ext;funext i
 exact jC _ _
theorem JR:∀(k:Nat) (a b:aO Int),zc R (cK a b k)=cK (red R a) (red R b) k
 | 0,a,b=>bH _ _
 | k+1,a,b=>by
  show zc R (a.c 0*b.c (k+1)+cK (tl a) b k)=zc R (a.c 0)*zc R (b.c (k+1))+cK (red R (tl a)) (red R b) k
  rw[jC,bH,JR k]
theorem sr (a b:aO Int):red R (a*b)=red R a*red R b:=by
 apply aO.ext;funext i
 exact JR i a b
theorem PV {y:R}{a:aO R}{m n:Nat}(h:Dg a m)(k:Dg a n):Alg.ev m a y=Alg.ev n a y:=by
 rw[<- iG y m (m+n) a h (by omega),iG y n (m+n) a k (by omega)]
end
section
variable {M:Md Int}
theorem fZ (k:Int)(U:Qt M)(i:Nat):(zc (Qt M) k*U).s.c i=k*U.s.c i:=by
 rw[BN,u6,nM]
 ·rw[cQ];rfl
 ·exact λj hj=>by rw[cQ,U.lt j hj];grind
theorem gI {x:Vc}{o:Nat->Qt M}{i:Nat}:∀m,(sR m x o).s.c i=aW m λl=>x l*(o l).s.c i
 | 0=>rfl
 | m+1=>by
  show(sR m x o+zc (Qt M) (x m)*o m).s.c i=_
  rw[FA,rX,gI m,fZ];rfl
theorem DV {k:Int}(hk:k≠0){U V:Qt M}(h:zc (Qt M) k*U=zc (Qt M) k*V):U=V:=by
 apply Qt.ext;apply aO.ext;funext i
 have:=Jp (λZ:Qt M=>Z.s.c i) h
 simp only[fZ] at this
 exact Za hk this
def qv (M:Md Int)(v:Vc):Qt M:=⟨⟨λj=>if j<M.n then v j else 0⟩,λj hj=>Jk (by omega)⟩
theorem fB {v:Vc}{j:Nat}(h:j<M.n):(qv M v).s.c j=v j:=Jl h
theorem i7 {U V:Qt M}(h:∀j,j<M.n->U.s.c j=V.s.c j):U=V:=by
 apply Qt.ext;apply aO.ext;funext j
 by_cases c:j<M.n
 ·exact h j c
 ·rw[U.lt j (by omega),V.lt j (by omega)]
noncomputable def lt (M:Md Int):Qt M:=Qt.of M X
theorem lt_mul (U:Qt M):lt M*U=qv M λj=>(if j=0 then 0 else U.s.c (j-1))-U.s.c (M.n-1)*M.f.c j:=by
 have e:lt M*U=Qt.of M (X*U.s):=by rw[g_ cO.X U.jr,IK];rfl
 rw[e];apply Qt.ext
 refine rest_eq (qv M _).lt ⟨cst (U.s.c (M.n-1)),cO.cst _,?_⟩
 apply aO.ext;funext i
 rw[Fy,cQ,Vj];show _-(if i<M.n then _ else 0)=_
 have pos:=M.pos;by_cases c:i<M.n
 ·rw[Jl c]
  by_cases d:i=0
  ·rw[Jl d];show(0:Int)-(0-_)=_;omega
  ·rw[Jk d];show _-(_-_)=_;omega
 ·rw[Jk c,Jk (by omega)]
  by_cases d:i=M.n
  ·rw[d,M.mon.top];show _-(0:Int)=_*1;omega
  ·rw[U.lt (i-1) (by omega),M.mon.dg i (by omega)];show(0:Int)-0=_*0;omega
theorem jD:∀k:Nat,lt M ^ k=qv M (tk M.f.c M.n k)
 | 0=>by
  rw[Alg.aM];refine i7 λj hj=>?_
  rw[fB hj];show(1:aO Int).c j=xp 0 j
  rw[BL];rfl
 | k+1=>by
  rw[Alg.aH,jD k,show qv M (tk M.f.c M.n k)*lt M=lt M*qv M (tk M.f.c M.n k) by grind,lt_mul]
  refine i7 λj hj=>?_
  have pos:=M.pos;rw[fB hj,fB hj,fB (show M.n-1<M.n by omega)]
  show _=(if j=0 then 0 else tk M.f.c M.n k (j-1))-tk M.f.c M.n k (M.n-1)*M.f.c j
  by_cases d:j=0
  ·rw[Jl d,Jl d]
  ·rw[Jk d,Jk d,fB (by omega)]
theorem qi (U:Qt M):U=sR M.n U.s.c λi=>lt M ^ i:=by
 refine i7 λj hj=>?_
 rw[gI,aA (g:=λl=>U.s.c l*dX l j) λl hl=>by rw[jD,fB hj,h_ l hl];rfl,c8 hj]
theorem JS (U V:Qt M){j:Nat}(hj:j<M.n):(U*V).s.c j=Vo M.f.c M.n U.s.c V.s.c j:=by
 have e:U*V=sR M.n U.s.c λa=>sR M.n V.s.c λb=>lt M ^ (a+b):=by
  rw[show U*V=V*sR M.n U.s.c λi=>lt M ^ i by rw[<- qi U];grind,d8]
  refine c_ M.n (λ_ _=>rfl) λa _=>?_
  rw[show V*lt M ^ a=lt M ^ a*sR M.n V.s.c λi=>lt M ^ i by rw[<- qi V];grind,d8]
  exact c_ M.n (λ_ _=>rfl) λb _=>(Alg.eZ _ _ _).symm
 rw[e,gI];unfold Vo;rw[e_];refine aA λa _=>?_
 rw[gI,e_];congr 1
 exact aA λb _=>by rw[jD,fB hj]
end
section
variable {R:Type} [CommRing R] {M:Md Int} {y:R}
structure Rt (M:Md Int)(y:R):Prop where
 rt:Alg.ev (M.n+1) (red R M.f) y=0
def hm (M:Md Int)(y:R)(U:Qt M):R:=Alg.ev M.n (red R U.s) y
theorem qj (U V:Qt M):hm M y (U+V)=hm M y U+hm M y V:=by
 unfold hm;rw[FA,vG,tN]
theorem uR (k:Int):hm M y (zc (Qt M) k)=zc R k:=by
 unfold hm;rw[u6];obtain⟨N,hN⟩:∃N,M.n=N+1:=⟨M.n-1,by have:=M.pos;omega⟩
 rw[hN];show zc R (if 0=0 then zc Int k else 0)+y*Alg.ev N (tl (red R (cst (zc Int k)))) y=_
 rw[Jl rfl,vB y N _ λi _=>by show zc R (if i+1=0 then zc Int k else 0)=0;rw[Jk (by omega)];exact fk]
 show zc R k+y*0=_
 grind
theorem PX:hm M y 1=1:=by
 have:=uR (M:=M) (y:=y) 1
 rw[b9,b9] at this;exact this
theorem An (h:Rt M y)(U V:Qt M):hm M y (U*V)=hm M y U*hm M y V:=by
 obtain⟨q,⟨m,hq⟩,e⟩:=dH (M:=M) (U.jr.mul V.jr);have e1:U.s*V.s=(U*V).s+q*M.f:=by rw[BN];grind
 have e2:red R U.s*red R V.s=red R (U*V).s+red R q*red R M.f:=by rw[<- sr,<- sr,<- vG,e1]
 have L:=M.n+M.n+(m+(M.n+1));have h1:Alg.ev (M.n+M.n) (red R U.s*red R V.s) y=hm M y U*hm M y V:=wN y _ _ (dh V.lt) _ _ (dh U.lt);have h2:Alg.ev (m+(M.n+1)) (red R q*red R M.f) y=0:=by
  rw[wN y _ _ (dh M.mon.dg) _ _ (dh hq),h.rt];grind
 have d1:Dg (red R U.s*red R V.s) (M.n+M.n):=Dg.mul (dh U.lt) (dh V.lt);have d2:Dg (red R q*red R M.f) (m+(M.n+1)):=Dg.mul (dh hq) (dh M.mon.dg);have d3:Dg (red R (U*V).s) M.n:=dh (U*V).lt;rw[<- h1,<- iG y _ (M.n+M.n+(m+(M.n+1))) _ d1 (by omega),e2,tN,iG y _ _ _ d2 (by omega),h2,iG y _ _ _ d3 (by omega)]
 show _=hm M y (U*V)+0
 grind
theorem qk (h:Rt M y)(U:Qt M):∀k:Nat,hm M y (U ^ k)=hm M y U ^ k
 | 0=>by rw[Alg.aM,Alg.aM,PX]
 | k+1=>by rw[Alg.aH,An h,qk h U k,Alg.aH]
theorem gf (k:Int)(U:Qt M):hm M y (zc (Qt M) k*U)=zc R k*hm M y U:=by
 have e:(zc (Qt M) k*U).s=cst k*U.s:=by
  apply aO.ext;funext i
  rw[fZ,cQ]
 unfold hm;rw[e,sr,show red R (cst k)=cst (zc R k) by
  apply aO.ext;funext i
  show zc R (if i=0 then k else 0)=if i=0 then zc R k else 0
  by_cases c:i=0
  ·rw[Jl c,Jl c]
  ·rw[Jk c,Jk c];exact fk,DC]
theorem FY {x:Vc}{o:Nat->Qt M}:∀m,hm M y (sR m x o)=sR m x λi=>hm M y (o i)
 | 0=>by
  show hm M y 0=0
  have:=uR (M:=M) (y:=y) 0
  rw[fk,fk] at this;exact this
 | m+1=>by
  show hm M y (sR m x o+zc (Qt M) (x m)*o m)=sR m x _+zc R (x m)*hm M y (o m)
  rw[qj,FY m,gf]
theorem FZ (h:Rt M y):hm M y (lt M)=y:=by
 have e:X=red R (X:aO Int):=by
  apply aO.ext;funext i
  show(if i=1 then (1:R) else 0)=zc R (if i=1 then 1 else 0)
  by_cases c:i=1
  ·rw[Jl c,Jl c];exact b9.symm
  ·rw[Jk c,Jk c];exact fk.symm
 obtain⟨q,⟨m,hq⟩,e1⟩:=dH (M:=M) (cO.X (α:=Int));have e2:(X:aO R)=red R (lt M).s+red R q*red R M.f:=by
  rw[e,<- sr,<- vG];congr 1
  show X=Alg.rest M X+_
  grind
 have h2:Alg.ev (m+(M.n+1)) (red R q*red R M.f) y=0:=by
  rw[wN y _ _ (dh M.mon.dg) _ _ (dh hq),h.rt];grind
 have h3:Alg.ev 2 (X:aO R) y=y:=by
  show(if 0=1 then (1:R) else 0)+y*((if 0+1=1 then (1:R) else 0)+y*0)=y
  rw[Jk (by decide),Jl rfl];grind
 have h4:=iG y 2 (2+M.n+(m+(M.n+1))) (X:aO R) (Dg.mon 1 1) (by omega)
 rw[h3,e2,tN,iG y _ _ _ (Dg.mul (dh hq) (dh M.mon.dg)) (by omega),h2,iG y M.n _ _ (dh (lt M).lt) (by omega)] at h4
 show Alg.ev M.n _ y=y
 grind
theorem Sl {M':Md Int}{x:Qt M'}(h:Rt M' y)(U:Qt M):hm M' y (hm M x U)=hm M (hm M' y x) U:=by
 have key:∀(N:Nat) (a:aO Int),hm M' y (Alg.ev N (red (Qt M') a) x)=Alg.ev N (red R a) (hm M' y x):=by
  intro N;induction N with
  | zero=>
   intro a;show hm M' y 0=0
   have:=uR (M:=M') (y:=y) 0
   rw[fk,fk] at this;exact this
  | succ N ih=>
   intro a;show hm M' y (zc (Qt M') (a.c 0)+x*Alg.ev N (red (Qt M') (tl a)) x)=zc R (a.c 0)+hm M' y x*Alg.ev N (red R (tl a)) (hm M' y x)
   rw[qj,An h,uR,ih]
 exact key _ _
theorem F0 (U:Qt M):hm M (lt M) U=U:=by
 have e:∀(N:Nat) (a:aO Int),Alg.ev N (red (Qt M) a) (lt M)=sR N a.c λi=>lt M ^ i:=by
  intro N;induction N with
  | zero=>intro a;rfl
  | succ N ih=>
   intro a;have sh:∀(m:Nat) (x:Vc) (o:Nat->Qt M),sR (m+1) x o=zc (Qt M) (x 0)*o 0+sR m (λi=>x (i+1)) λi=>o (i+1):=by
    intro m;induction m with
    | zero=>intro x o;show(0:Qt M)+_=_+0;grind
    | succ m ihm=>
     intro x o;show sR (m+1) x o+zc (Qt M) (x (m+1))*o (m+1)=_+(sR m _ _+zc (Qt M) (x (m+1))*o (m+1))
     rw[ihm];grind
   show zc (Qt M) (a.c 0)+lt M*Alg.ev N (red (Qt M) (tl a)) (lt M)=_
   rw[ih,sh,d8,Alg.aM];congr 1
   ·grind
   ·exact c_ N (λ_ _=>rfl) λi _=>by rw[Alg.aH];grind
 unfold hm;rw[e];exact(qi U).symm
def Pb (p:Nat)(a:R)(N:Nat):Prop:=∃K:Nat,∀j:Nat,∃z:R,zc R ((p:Int) ^ K)*a ^ j=zc R ((p:Int) ^ (N*j))*z
theorem Pb.map (h:Rt M y){p:Nat}{U:Qt M}{N:Nat}:Pb p U N->Pb p (hm M y U) N:=λ⟨K,hK⟩=>⟨K,λj=>by
 obtain⟨z,hz⟩:=hK j;exact⟨hm M y z,by rw[<- qk h,<- gf,hz,gf]⟩⟩
theorem Pb.less {p:Nat}{a:R}{N N':Nat}(h:N'<=N):Pb p a N->Pb p a N':=λ⟨K,hK⟩=>⟨K,λj=>by
 obtain⟨z,hz⟩:=hK j;refine⟨zc R ((p:Int) ^ ((N-N')*j))*z,?_⟩
 rw[hz,show N*j=N'*j+(N-N')*j by rw[<- Zn,W5 h],Yo,bH]
 grind⟩
end
theorem w_ {p:Nat}(hp:p∈PR){a b:Nat}{x y:Int}(hx:¬ (p:Int) ∣ x)(e:(p:Int) ^ a*x=(p:Int) ^ b*y):b<=a:=by
 have p2:=bM hp;refine V? λz=>?_
 have pz:(p:Int) ^ a≠0:=Wo (by omega)
 rw[show b=a+(b-a-1+1) by omega,Yo,Yq,Zv] at e
 have:=Za pz e
 exact hx ⟨(p:Int) ^ (b-a-1)*y,by rw[this];grind⟩
theorem mh {p:Nat}(hp:p∈PR):¬ (p:Int) ∣ 1:=λz=>by
 have:=bM hp
 have:=W6 (by decide) z
 omega
theorem j_ {p:Nat}(hp:p∈PR){a b:Int}(ha:¬ (p:Int) ∣ a)(hb:¬ (p:Int) ∣ b):¬ (p:Int) ∣ a*b:=λz=>(tS hp z).elim ha hb
theorem DW {p:Nat}(hp:p∈PR){m:Nat->Int}:∀n,(∀i,i<n->¬ (p:Int) ∣ m i)->¬ (p:Int) ∣ dM n m
 | 0,_=>mh hp
 | n+1,h=>j_ hp (DW hp n λi hi=>h i (by omega)) (h n (by omega))
theorem tT {n:Nat}(a:Nat->Int)(A:Mx):det n (λi j=>a i*A i j)=dM n a*det n A:=by
 have e:det n (λi j=>a i*A i j)=det n (gp n (λi j=>a i*dX j i) A):=aP λi j hi _=>by
  show _=aW n λk=>a i*dX k i*A k j
  rw[aA (g:=λk=>(a i*A k j)*dX k i) λk _=>by grind,c8 hi]
 rw[e,dU,jW n (λi j=>a i*dX j i) λi j hij _=>by show a i*(if i=j then 1 else 0)=0;rw[Jk (by omega)];omega]
 congr 1
 exact gZ λi _=>by show a i*(if i=i then 1 else 0)=_;rw[Jl rfl];omega
theorem xg {p:Nat}{e:Nat->Nat}:∀n,(dM n λi=>(p:Int) ^ e i)=(p:Int) ^ tot n e
 | 0=>rfl
 | n+1=>by
  show dM n (λi=>(p:Int) ^ e i)*(p:Int) ^ e n=(p:Int) ^ (tot n e+e n)
  rw[xg n,Yo]
theorem B0 {E:Nat}{e:Nat->Nat}:∀n,(∀i,i<n->e i<=E)->tot n (λi=>E-e i)+tot n e=n*E
 | 0,_=>by show 0+0=_;omega
 | n+1,h=>by
  have:=B0 n λi hi=>h i (by omega)
  have:=h n (by omega)
  show tot n (λi=>E-e i)+(E-e n)+(tot n e+e n)=_
  rw[Zn];omega
structure Idx (M:Md Int)(p I:Nat):Prop where
 ex:∃(Y:Nat->Qt M) (e:Nat->Nat) (D E:Nat) (u:Int),(∀i,i<M.n->Pb p (Y i) (e i)/\e i<=E)/\det M.n (λi j=>(Y i).s.c j)=(p:Int) ^ D*u/\¬ (p:Int) ∣ u/\D+I=tot M.n e/\
  ∀V N,Pb p V N->∃(m:Int) (c:Vc),¬ (p:Int) ∣ m/\zc (Qt M) (m*(p:Int) ^ E)*V=zc (Qt M) ((p:Int) ^ N)*sR M.n (λi=>c i*(p:Int) ^ (E-e i)) Y
section
variable {R:Type} [CommRing R] {M:Md Int} {p d:Nat} {φ:Vc->R} {ip:R} {T:Nat->Vc}
theorem MI (X:Xr M.f.c M.n p φ ip)(U V:Qt M):φ (U*V).s.c=φ U.s.c*φ V.s.c:=by
 rw[X.oN.mul (c:=λa b=>tk M.f.c M.n (a+b)) X.mul]
 exact X.oN.sup _ _ λj hj=>JS U V hj
theorem MJ (X:Xr M.f.c M.n p φ ip):φ (1:Qt M).s.c=1:=by
 rw[<- X.one];refine X.oN.sup _ _ λj _=>?_
 show(1:aO Int).c j=_
 rw[BL];rfl
theorem Ao (X:Xr M.f.c M.n p φ ip)(U:Qt M):∀k:Nat,φ (U ^ k).s.c=φ U.s.c ^ k
 | 0=>by rw[Alg.aM,Alg.aM,MJ X]
 | k+1=>by rw[Alg.aH,MI X,Ao X U k,Alg.aH]
theorem DX (X:Xr M.f.c M.n p φ ip)(k:Int)(U:Qt M):φ (zc (Qt M) k*U).s.c=zc R k*φ U.s.c:=by
 rw[<- X.oN.smul];exact X.oN.sup _ _ λj _=>fZ k U j
theorem MK (X:Xr M.f.c M.n p φ ip){U V:Qt M}(h:φ U.s.c=φ V.s.c):U=V:=i7 λj hj=>X.oN.inj _ _ h j hj
theorem JT (X:Xr M.f.c M.n p φ ip)(v:Vc):φ (qv M v).s.c=φ v:=X.oN.sup _ _ λj hj=>fB hj
theorem Aq (X:Xr M.f.c M.n p φ ip)(N:Nat):∀j:Nat,zc R ((p:Int) ^ (N*j))*(ip ^ N) ^ j=1
 | 0=>by rw[Wn,Yu,b9,Alg.aM];grind
 | j+1=>by
  have h1:=Aq X N j;have h2:zc R ((p:Int) ^ N)*ip ^ N=1:=l_ X.inv N;rw[Zw,Yo,bH,Alg.aH];grind
theorem uQ.pb (X:Xr M.f.c M.n p φ ip)(L:uQ M.n p φ ip d T){i:Nat}(hi:i<M.n):Pb p (qv M (T i)) d:=by
 have B:=X.oN;refine⟨d,λj=>?_⟩
 have hu:gX M.n φ ip d T (un i)=ip ^ d*φ (T i):=by
  unfold gX;rw[B.sup (λj=>sm M.n (un i) T j) (T i) λj _=>iJ hi]
 obtain⟨c,hc⟩:=L.sub.pow ⟨un i,rfl⟩ j;rw[hu] at hc;refine⟨qv M λk=>sm M.n c T k,MK X ?_⟩
 rw[DX X,DX X,Ao X,JT X,JT X];have h1:(ip ^ d*φ (T i)) ^ j=ip ^ d*φ λk=>sm M.n c T k:=hc
 rw[lU] at h1;have h2:=Aq X d j;have h3:zc R ((p:Int) ^ d)*ip ^ d=1:=l_ X.inv d;generalize φ (T i) ^ j=A at h1 ⊢;generalize (ip ^ d) ^ j=B at h1 h2;generalize (φ λk=>sm M.n c T k)=C at h1 ⊢
 generalize zc R ((p:Int) ^ (d*j))=G at h2 ⊢;generalize zc R ((p:Int) ^ d)=P at h3 ⊢;have:G*(P*(B*A))=G*(P*(ip ^ d*C)):=by rw[h1]
 grind
theorem Pb.home (X:Xr M.f.c M.n p φ ip)(hp:p∈PR)(L:uQ M.n p φ ip d T){q:Nat}(hq:M.n<=p ^ q)(hM:∀a,Ah (Of (gX M.n φ ip d T)) (nt R p) (p ^ q) a->Of (gX M.n φ ip d T) a){U:Qt M}{N:Nat}(h:Pb p U N):Of (gX M.n φ ip d T) (ip ^ N*φ U.s.c):=by
 obtain⟨K,hK⟩:=h;have BT:=X.oN.lX (d:=d) X.inv L.st;have sub:=L.sub;have hj:∀j:Nat,Of (gX M.n φ ip d T) (nt R p ^ K*(ip ^ N*φ U.s.c) ^ j):=λj=>by
  obtain⟨z,hz⟩:=hK j;have h1:=Jp (λZ:Qt M=>φ Z.s.c) hz
  simp only[DX X,Ao X] at h1
  have h2:=Aq X N j;rw[DU,lU];have e:zc R ((p:Int) ^ K)*((ip ^ N) ^ j*φ U.s.c ^ j)=φ z.s.c:=by
   generalize φ U.s.c ^ j=A at h1 ⊢;generalize (ip ^ N) ^ j=B at h2 ⊢;generalize zc R ((p:Int) ^ K)=P at h1 ⊢;generalize zc R ((p:Int) ^ (N*j))=G at h1 h2;grind
  rw[e];exact L.all _
 have home:∀x,Ad (ip ^ N*φ U.s.c) x->∃(m:Nat) (z:Vc),x=sR m z λi=>(ip ^ N*φ U.s.c) ^ i:=by
  generalize ip ^ N*φ U.s.c=α;have pad:∀(m k:Nat) (z:Vc),sR m z (λi=>α ^ i)=sR (m+k) (λi=>if i<m then z i else 0) λi=>α ^ i:=by
   intro m k z;induction k with
   | zero=>exact c_ m (λi hi=>(Jl hi).symm) λ_ _=>rfl
   | succ k ih=>
    rw[ih];show _=sR (m+k) _ _+zc R (if m+k<m then z (m+k) else 0)*α ^ (m+k)
    rw[Jk (by omega),fk];grind
  have gT:∀(m:Nat) (a:Int) (z w:Vc),sR m (λi=>a*z i+w i) (λi=>α ^ i)=zc R a*sR m z (λi=>α ^ i)+sR m w λi=>α ^ i:=by
   intro m a z w;induction m with
   | zero=>show(0:R)=zc R a*0+0;grind
   | succ m ih=>
    show sR m _ _+zc R (a*z m+w m)*α ^ m=zc R a*(sR m z _+zc R (z m)*α ^ m)+(sR m w _+zc R (w m)*α ^ m)
    rw[ih,jC,bH];grind
  have one:∀k:Nat,∃(m:Nat) (z:Vc),α ^ k=sR m z λi=>α ^ i:=λk=>⟨k+1,λi=>if i=k then 1 else 0,by
   have:∀m,m<=k->sR m (λi=>if i=k then (1:Int) else 0) (λi=>α ^ i)=0:=λm=>by
    induction m with
    | zero=>intro _;rfl
    | succ m ih=>
     intro hm;show sR m _ _+zc R (if m=k then 1 else 0)*_=0
     rw[ih (by omega),Jk (by omega),fk];grind
   show _=sR k _ _+zc R (if k=k then 1 else 0)*α ^ k
   rw[this k (Yd k),Jl rfl,b9];grind⟩
  have add:∀(a:Int) (x y:R),(∃(m:Nat) (z:Vc),x=sR m z λi=>α ^ i)->(∃(m:Nat) (z:Vc),y=sR m z λi=>α ^ i)->∃(m:Nat) (z:Vc),zc R a*x+y=sR m z λi=>α ^ i:=by
   rintro a x y ⟨m,z,rfl⟩ ⟨k,w,rfl⟩;refine⟨m+k,λi=>a*(if i<m then z i else 0)+if i<k then w i else 0,?_⟩
   rw[pad m k z,pad k m w,Jd k m,<- gT]
  intro x hx;have Vp:∀(m:Nat) (z:Vc),∃(k:Nat) (w:Vc),α*sR m z (λi=>α ^ i)=sR k w λi=>α ^ i:=λm z=>by
   induction m with
   | zero=>exact⟨0,λ_=>0,by show α*0=0;grind⟩
   | succ m ih=>
    obtain⟨k,w,e⟩:=add (z m) _ _ (one (m+1)) ih;exact⟨k,w,by rw[<- e];show α*(sR m z _+zc R (z m)*α ^ m)=_;rw[Alg.aH];grind⟩
  have key:∀x,Ad α x->∀(m:Nat) (z:Vc),∃(k:Nat) (w:Vc),x*sR m z (λi=>α ^ i)=sR k w λi=>α ^ i:=λx hx=>by
   induction hx with
   | one=>intro m z;exact⟨m,z,by grind⟩
   | gen=>exact Vp
   | @add a b _ _ i1 i2=>
    intro m z;obtain⟨k,w,e⟩:=add 1 _ _ (i1 m z) (i2 m z);exact⟨k,w,by rw[<- e,b9];grind⟩
   | @neg a _ i=>
    intro m z;obtain⟨k,w,e⟩:=add (-1) _ 0 (i m z) ⟨0,λ_=>0,rfl⟩
    exact⟨k,w,by rw[<- e,gG,b9];grind⟩
   | @mul a b _ _ i1 i2=>
    intro m z;obtain⟨k,w,e⟩:=i2 m z;obtain⟨k2,w2,e2⟩:=i1 k w;exact⟨k2,w2,by rw[<- e2,<- e];grind⟩
  obtain⟨m,z,e⟩:=one 0;obtain⟨k,w,e2⟩:=key x hx m z;exact⟨k,w,by rw[<- e2,<- e,Alg.aM];grind⟩
 have Sm:∀x,Ad (ip ^ N*φ U.s.c) x->Of (gX M.n φ ip d T) (nt R p ^ K*x):=λx hx=>by
  obtain⟨m,z,rfl⟩:=home x hx;rw[d8];exact JA sub m λi _=>hj i
 have fin:∀a,Cl (Of (gX M.n φ ip d T)) (Ad (ip ^ N*φ U.s.c)) a->Of (gX M.n φ ip d T) (nt R p ^ K*a):=by
  intro a ha;induction ha with
  | @mul x y hx hy=>rw[show nt R p ^ K*(x*y)=x*(nt R p ^ K*y) by grind];exact sub.mul hx (Sm y hy)
  | @add x y _ _ i1 i2=>rw[show nt R p ^ K*(x+y)=nt R p ^ K*x+nt R p ^ K*y by grind];exact sub.add i1 i2
  | @neg x _ i=>rw[show nt R p ^ K*-x=-(nt R p ^ K*x) by grind];exact sub.neg i
 exact MH BT sub hp X.inv hq hM (Cl.sub sub (Ad.sub _)) (λa ha=>by rw[show a=a*1 by grind];exact .mul ha .one) fin _ (by
  have:=Cl.mul (O:=Of (gX M.n φ ip d T)) (P:=Ad (ip ^ N*φ U.s.c)) sub.one Ad.gen
  rw[show 1*(ip ^ N*φ U.s.c)=ip ^ N*φ U.s.c by grind] at this
  exact this)
theorem Pb.rows (X:Xr M.f.c M.n p φ ip)(hp:p∈PR)(L:uQ M.n p φ ip d T){q:Nat}(hq:M.n<=p ^ q)(hM:∀a,Ah (Of (gX M.n φ ip d T)) (nt R p) (p ^ q) a->Of (gX M.n φ ip d T) a){U:Qt M}{N:Nat}(h:Pb p U N):∃c:Vc,∀j,j<M.n->(p:Int) ^ d*U.s.c j=(p:Int) ^ N*sm M.n c T j:=by
 obtain⟨c,hc⟩:=Pb.home X hp L hq hM h;refine⟨c,?_⟩
 have h1:ip ^ N*φ U.s.c=ip ^ d*φ λj=>sm M.n c T j:=hc
 have h2:zc R ((p:Int) ^ N)*ip ^ N=1:=l_ X.inv N;have h3:zc R ((p:Int) ^ d)*ip ^ d=1:=l_ X.inv d;have:(φ λj=>(p:Int) ^ d*U.s.c j)=φ λj=>(p:Int) ^ N*sm M.n c T j:=by
  rw[X.oN.smul,X.oN.smul];have:zc R ((p:Int) ^ N)*(zc R ((p:Int) ^ d)*(ip ^ N*φ U.s.c))=zc R ((p:Int) ^ N)*(zc R ((p:Int) ^ d)*(ip ^ d*φ λj=>sm M.n c T j)):=by rw[h1]
  grind
 exact X.oN.inj _ _ this
theorem Idx.tot {I:Nat}(h:Idx M p I)(X:Xr M.f.c M.n p φ ip)(hp:p∈PR)(L:uQ M.n p φ ip d T){q:Nat}(hq:M.n<=p ^ q)(hM:∀a,Ah (Of (gX M.n φ ip d T)) (nt R p) (p ^ q) a->Of (gX M.n φ ip d T) a){s:Nat->Nat}(es:∀i,i<M.n->T i i=(p:Int) ^ s i):I+tot M.n s=M.n*d:=by
 obtain⟨Y,e,D,E,u,hY,hd,hu,hDI,all⟩:=h.ex;have dT:det M.n T=(p:Int) ^ L2.tot M.n s:=by
  rw[jW M.n T λi j hij hj=>L.st.lX i (by omega) j hij,Aj M.n es]
 have te:=B0 (E:=E) (e:=e) M.n λi hi=>(hY i hi).2
 refine Nat.le_antisymm ?_ ?_
 ·
  have ex:∀i,∃c:Vc,i<M.n->∀j,j<M.n->(p:Int) ^ d*(Y i).s.c j=(p:Int) ^ e i*sm M.n c T j:=λi=>by
   by_cases hi:i<M.n
   ·obtain⟨c,hc⟩:=Pb.rows X hp L hq hM (hY i hi).1
    exact⟨c,λ_=>hc⟩
   ·exact⟨λ_=>0,λz=>Jr z hi⟩
  obtain⟨C,hC⟩:=Classical.axiomOfChoice ex;have e1:det M.n (λi j=>(p:Int) ^ d*(Y i).s.c j)=det M.n λi j=>(p:Int) ^ e i*gp M.n C T i j:=aP λi j hi hj=>by
   rw[hC i hi j hj,e_];rfl
  rw[eW,tT,xg,dU,dT,hd] at e1;have:=w_ hp (a:=d*M.n+D) (b:=L2.tot M.n e+L2.tot M.n s) (x:=u) (y:=det M.n C) hu (by
   rw[Yo,Yo,Jj,Zv,e1];grind)
  rw[Zk];omega
 ·have ex:∀i,∃mc:Int×Vc,i<M.n->¬ (p:Int) ∣ mc.1/\∀j,mc.1*(p:Int) ^ E*T i j=(p:Int) ^ d*aW M.n λl=>mc.2 l*(p:Int) ^ (E-e l)*(Y l).s.c j:=λi=>by
   by_cases hi:i<M.n
   ·obtain⟨m,c,hm,hc⟩:=all _ _ (uQ.pb X L hi)
    refine⟨(m,c),λ_=>⟨hm,λj=>?_⟩⟩
    have:=Jp (λZ:Qt M=>Z.s.c j) hc
    simp only[fZ,gI] at this
    rw[<- this];by_cases hj:j<M.n
    ·rw[fB hj]
    ·rw[(qv M (T i)).lt j (by omega),L.st.lX i hi j (by omega)]
   ·exact⟨(1,λ_=>0),λz=>Jr z hi⟩
  obtain⟨C,hC⟩:=Classical.axiomOfChoice ex;have e1:det M.n (λi j=>((C i).1*(p:Int) ^ E)*T i j)=det M.n λi j=>(p:Int) ^ d*gp M.n (λi l=>(C i).2 l) (λl j=>(p:Int) ^ (E-e l)*(Y l).s.c j) i j:=aP λi j hi hj=>by
   rw[(hC i hi).2 j];congr 1
   exact aA λl _=>by grind
  rw[tT,eW,dU,tT,xg,dT,hd] at e1;have e2:(dM M.n λi=>(C i).1*(p:Int) ^ E)=dM M.n (λi=>(C i).1)*(p:Int) ^ (E*M.n):=by
   have:∀n,(dM n λi=>(C i).1*(p:Int) ^ E)=dM n (λi=>(C i).1)*(p:Int) ^ (E*n):=λn=>by
    induction n with
    | zero=>show(1:Int)=1*_;rw[Wn,Yu];rfl
    | succ n ih=>
     show dM n _*_=dM n _*_*_
     rw[ih,Zw,Yo];grind
   exact this _
  rw[e2] at e1;have:=w_ hp (a:=E*M.n+L2.tot M.n s) (b:=d*M.n+(L2.tot M.n (λi=>E-e i)+D)) (x:=dM M.n λi=>(C i).1) (y:=det M.n (λi l=>(C i).2 l)*u) (DW hp M.n λi hi=>(hC i hi).1) (by
   have GX:(p:Int) ^ (d*M.n)=((p:Int) ^ d) ^ M.n:=Jj;rw[Yo,Yo,Yo,GX];generalize dM M.n (λi=>(C i).1)=Z at e1 ⊢
   generalize det M.n (λi l=>(C i).2 l)=W at e1 ⊢
   rw[show(p:Int) ^ (E*M.n)*(p:Int) ^ L2.tot M.n s*Z=Z*(p:Int) ^ (E*M.n)*(p:Int) ^ L2.tot M.n s by grind,e1];grind)
  rw[Zk M.n d];rw[Zk M.n E] at te;omega
end
theorem xh {n:Nat}{M:Mx}(h0:det n M≠0){i j:Nat}(hi:i<n)(hj:j<n):gp n (iU n M) M i j=det n M*dX i j:=by
 have cl:∀(A B:Mx) (i j:Nat),j<n->(∀k,k<n->B k j=det n M*dX k j)->gp n A B i j=det n M*A i j:=λA B i j hj h=>by
  show aW n (λk=>A i k*B k j)=_
  rw[aA (g:=λk=>(det n M*A i k)*dX k j) λk hk=>by rw[h k hk];grind,c8 hj]
 have T3:det n M*det n (iU n M)=det n M ^ n:=by
  rw[<- dU];have:=eW (det n M) n dX
  rw[oK,Zx] at this;rw[<- this];exact aP λi j hi hj=>oO M hi hj
 have hA0:det n (iU n M)≠0:=λz=>by
  rw[z,Yr] at T3;exact Wo h0 T3.symm
 have h1:∀i j,i<n->j<n->det n (iU n M)*M i j=det n M*iU n (iU n M) i j:=λi j hi hj=>by
  have e1:gp n M (gp n (iU n M) (iU n (iU n M))) i j=det n (iU n M)*M i j:=by
   show aW n (λk=>M i k*gp n (iU n M) (iU n (iU n M)) k j)=_
   rw[aA (g:=λk=>(det n (iU n M)*M i k)*dX k j) λk hk=>by rw[oO (iU n M) hk hj];grind,c8 hj]
  have e2:gp n (gp n M (iU n M)) (iU n (iU n M)) i j=det n M*iU n (iU n M) i j:=by
   show aW n (λk=>gp n M (iU n M) i k*iU n (iU n M) k j)=_
   rw[aA (g:=λk=>det n M*(dX i k*iU n (iU n M) k j)) λk hk=>by rw[oO M hi hk];grind,cL,r_ hi]
  rw[<- e1,<- e2,kP]
 refine Za hA0 ?_
 have e3:det n (iU n M)*gp n (iU n M) M i j=det n M*gp n (iU n M) (iU n (iU n M)) i j:=by
  show _*aW n (λk=>iU n M i k*M k j)=_*aW n λk=>iU n M i k*iU n (iU n M) k j
  rw[<- cL,<- cL];exact aA λk hk=>by have:=h1 k j hk hj;grind
 rw[e3,oO (iU n M) hi hj];grind
theorem ML {n:Nat}{M:Mx}(n1:1<=n)(h0:det n M≠0):det n (iU n M)=det n M ^ (n-1):=by
 have T3:det n M*det n (iU n M)=det n M ^ n:=by
  rw[<- dU];have:=eW (det n M) n dX
  rw[oK,Zx] at this;rw[<- this];exact aP λi j hi hj=>oO M hi hj
 refine Za h0 ?_
 rw[T3,Zf,<- Yq];show det n M ^ n=det n M ^ (n-1+1)
 rw[Wk n1]
theorem Ar {p:Nat}(hp:p∈PR):∀(b:Nat) (t:Int),t.natAbs<=b->t≠0->∃(v:Nat) (c:Int),t=(p:Int) ^ v*c/\¬ (p:Int) ∣ c
 | 0,t,h,h0=>by omega
 | b+1,t,h,h0=>by
  by_cases c:(p:Int) ∣ t
  ·obtain⟨t',ht⟩:=c
   have p2:=bM hp;have t0:t'≠0:=λz=>by rw[z] at ht;simp at ht;exact h0 ht
   have:t.natAbs=p*t'.natAbs:=by rw[ht,Zq,W8]
   have h2:2*t'.natAbs<=p*t'.natAbs:=Yp _ (by omega)
   obtain⟨v,c,e,nc⟩:=Ar hp b t' (by omega) t0
   exact⟨v+1,c,by rw[ht,e,Yq];grind,nc⟩
  ·exact⟨0,t,by rw[Yu];omega,c⟩
theorem tU {p:Nat}(hp:p∈PR){c:Int}(h:¬ (p:Int) ∣ c):∀j:Nat,¬ (p:Int) ∣ c ^ j
 | 0=>by rw[Yu];exact mh hp
 | j+1=>by rw[Yq];exact j_ hp (tU hp h j) h
theorem tV (k:Int):zc Int k=k:=rfl
theorem PY {p:Nat}(hp:p∈PR){t:Int}{N:Nat}(h:Pb p t N):(p:Int) ^ N ∣ t:=by
 by_cases t0:t=0
 ·rw[t0];exact⟨0,by simp⟩
 obtain⟨v,c,e,nc⟩:=Ar hp _ t (Yd _) t0;obtain⟨K,hK⟩:=h;obtain⟨z,hz⟩:=hK (K+1);rw[tV,tV] at hz;have hz:(p:Int) ^ K*t ^ (K+1)=(p:Int) ^ (N*(K+1))*z:=hz;have GX:((p:Int) ^ v) ^ (K+1)=(p:Int) ^ (v*(K+1)):=Int.pow_mul.symm;rw[e,W3,GX,<- Zv,<- Yo] at hz;have h1:=w_ hp (tU hp nc (K+1)) hz;have h2:N<=v:=by
  refine V? λw=>?_
  have:(v+1)*(K+1)<=N*(K+1):=Yp _ (by omega)
  rw[Zn] at this;omega
 exact⟨(p:Int) ^ (v-N)*c,by rw[e,<- Zv,<- Yo,W5 h2]⟩
section
variable {M:Md Int} {z:Nat->Int} {p:Nat}
def Vd (z:Nat->Int):Mx:=λi j=>z j ^ i
theorem As {x:Vc}{o:Nat->Int}:∀m,sR m x o=aW m λi=>x i*o i
 | 0=>rfl
 | m+1=>by show sR m x o+zc Int (x m)*o m=aW m _+x m*o m;rw[As m];rfl
theorem NV {t:Int}(h:Rt M t)(U:Qt M):hm M t U=aW M.n λi=>U.s.c i*t ^ i:=by
 have e:hm M t U=hm M t (sR M.n U.s.c λi=>lt M ^ i):=by rw[<- qi U]
 rw[e,FY,As];exact aA λi _=>by rw[qk h,FZ h]
theorem JU (hz:∀j,j<M.n->Rt M (z j))(h0:det M.n (Vd z)≠0){U V:Qt M}(h:∀j,j<M.n->hm M (z j) U=hm M (z j) V):U=V:=by
 have key:∀(U:Qt M) (k:Nat),k<M.n->(aW M.n λj=>hm M (z j) U*iU M.n (Vd z) j k)=det M.n (Vd z)*U.s.c k:=λU k hk=>by
  have e1:(aW M.n λj=>hm M (z j) U*iU M.n (Vd z) j k)=gp M.n (gp M.n (λ_ i=>U.s.c i) (Vd z)) (iU M.n (Vd z)) 0 k:=aA λj hj=>by rw[NV (hz j hj)];rfl
  rw[e1,kP];show aW M.n (λi=>U.s.c i*gp M.n (Vd z) (iU M.n (Vd z)) i k)=_
  rw[aA (g:=λi=>(det M.n (Vd z)*U.s.c i)*dX i k) λi hi=>by rw[oO (Vd z) hi hk];grind,c8 hk]
 refine i7 λk hk=>Za h0 ?_
 rw[<- key U k hk,<- key V k hk];exact aA λj hj=>by rw[h j hj]
theorem Idx.zeros (hp:p∈PR)(hz:∀j,j<M.n->Rt M (z j)){I:Nat}{u:Int}(hd:det M.n (Vd z)=(p:Int) ^ I*u)(hu:¬ (p:Int) ∣ u):Idx M p I:=by
 have p2:=bM hp;have n1:=M.pos;have u0:u≠0:=λz=>hu (by rw[z];exact⟨0,by simp⟩)
 have h0:det M.n (Vd z)≠0:=by
  rw[hd];exact λw=>by
   rcases Int.mul_eq_zero.mp w with y|y
   ·exact Wo (by omega) y
   ·exact u0 y
 have hY:∀i l,i<M.n->l<M.n->hm M (z l) (qv M (iU M.n (Vd z) i))=det M.n (Vd z)*dX i l:=λi l hi hl=>by
  rw[NV (hz l hl),<- xh h0 hi hl];exact aA λk hk=>by rw[fB hk];rfl
 refine⟨λi=>qv M (iU M.n (Vd z) i),λ_=>I,(M.n-1)*I,I,u ^ (M.n-1),λi hi=>⟨⟨I,λj=>?_⟩,Yd I⟩,?_,tU hp hu _,?_,λV N hV=>?_⟩
 ·cases j with
  | zero=>exact⟨zc (Qt M) ((p:Int) ^ I),by rw[Wn,Yu,b9,Alg.aM];grind⟩
  | succ j=>
   have e:qv M (iU M.n (Vd z) i) ^ (j+1)=zc (Qt M) (det M.n (Vd z) ^ j)*qv M (iU M.n (Vd z) i):=by
    refine JU hz h0 λl hl=>?_
    rw[qk (hz l hl),gf,hY i l hi hl,tV];show(det M.n (Vd z)*dX i l) ^ (j+1)=_
    unfold dX;by_cases c:l=i
    ·rw[Jl c,Zx,Yq]
    ·rw[Jk c,Yr,Yr]
     exact Int.zero_pow (by omega)
   refine⟨zc (Qt M) (u ^ j)*qv M (iU M.n (Vd z) i),?_⟩
   have GX:((p:Int) ^ I) ^ j=(p:Int) ^ (I*j):=Int.pow_mul.symm;rw[e,hd,W3,GX,bH,Zw,Yo,bH];grind
 ·have:det M.n (λi j=>(qv M (iU M.n (Vd z) i)).s.c j)=det M.n (iU M.n (Vd z)):=aP λi j _ hj=>fB hj
  have GX:((p:Int) ^ I) ^ (M.n-1)=(p:Int) ^ ((M.n-1)*I):=by rw[Zk];exact Int.pow_mul.symm
  rw[this,ML n1 h0,hd,W3,GX]
 ·have:∀n,L2.tot n (λ_=>I)=n*I:=λn=>by
   induction n with
   | zero=>show 0=_;omega
   | succ n ih=>show L2.tot n _+I=_;rw[ih,Zn];omega
  rw[this,<- Nat.succ_mul];congr 1
  omega
 ·have ex:∀l,∃w:Int,l<M.n->hm M (z l) V=(p:Int) ^ N*w:=λl=>by
   by_cases hl:l<M.n
   ·obtain⟨w,hw⟩:=PY hp (hV.map (hz l hl))
    exact⟨w,λ_=>hw⟩
   ·exact⟨0,λx=>Jr x hl⟩
  obtain⟨w,hw⟩:=Classical.axiomOfChoice ex;refine⟨u,w,hu,?_⟩
  refine JU hz h0 λl hl=>?_
  rw[gf,gf,FY,As,hw l hl,tV,tV,aA (g:=λi=>(det M.n (Vd z)*w i)*dX i l) λi hi=>by show w i*(p:Int) ^ (I-I)*_=_;rw[hY i l hi hl,W4,Yu];grind,c8 hl,hd]
  show u*(p:Int) ^ I*((p:Int) ^ N*w l)=(p:Int) ^ N*((p:Int) ^ I*u*w l)
  grind
end
section
variable {M:Md Int} {p:Nat}
theorem JV:det M.n (λi j=>(lt M ^ i).s.c j)=1:=by
 rw[<- oK M.n];exact aP λi j hi hj=>by rw[jD,fB hj,h_ i hi];rfl
theorem Idx.mono {e:Nat->Nat}{E:Nat}(hp:p∈PR)(hE:∀i,i<M.n->e i<=E)(pb:∀i,i<M.n->Pb p (lt M ^ i) (e i))(all:∀(V:Qt M) (N:Nat),Pb p V N->∀d,d<M.n->(p:Int) ^ N ∣ (p:Int) ^ e d*V.s.c d):Idx M p (L2.tot M.n e):=by
 refine⟨λi=>lt M ^ i,e,0,E,1,λi hi=>⟨pb i hi,hE i hi⟩,by rw[JV,Yu];rfl,mh hp,by omega,λV N hV=>?_⟩
 have ex:∀d,∃c:Int,d<M.n->(p:Int) ^ e d*V.s.c d=(p:Int) ^ N*c:=λd=>by
  by_cases hd:d<M.n
  ·obtain⟨c,hc⟩:=all V N hV d hd;exact⟨c,λ_=>hc⟩
  ·exact⟨0,λz=>Jr z hd⟩
 obtain⟨c,hc⟩:=Classical.axiomOfChoice ex;refine⟨1,c,mh hp,i7 λd hd=>?_⟩
 rw[fZ,fZ,gI,aA (g:=λi=>c i*(p:Int) ^ (E-e i)*dX i d) λi hi=>by rw[jD,fB hd,h_ i hi];rfl,c8 hd]
 have h1:=hc d hd;have h2:(p:Int) ^ E=(p:Int) ^ (E-e d)*(p:Int) ^ e d:=by rw[<- Yo,Wk (hE d hd)]
 rw[h2];grind
end
def cl (n h t d:Nat):Nat:=(t-h*d+(n-1)) / n
theorem xj {n h t d m:Nat}(n1:1<=n):cl n h t d<=m↔t<=n*m+h*d:=by
 unfold cl;rw[<- Nat.lt_succ_iff,Nat.div_lt_iff_lt_mul (by omega),Nat.succ_mul,Zk m n]
 omega
theorem Au {p:Int}{a b:Nat}{x:Int}(h:a<=b)(k:p ^ b ∣ x):p ^ a ∣ x:=by
 obtain⟨c,hc⟩:=k;exact⟨p ^ (b-a)*c,by rw[hc,<- Zv,<- Yo,W5 h]⟩
theorem Av {q:Int}{g:Nat->Int}:∀n,(∀i,i<n->q ∣ g i)->q ∣ aW n g
 | 0,_=>⟨0,by show(0:Int)=_;simp⟩
 | n+1,h=>Int.dvd_add (Av n λi hi=>h i (by omega)) (h n (by omega))
section
variable {M:Md Int} {p h:Nat} {u:Int}
structure MM (M:Md Int)(p h:Nat)(u:Int):Prop where
 f0:M.f.c 0=-(u*(p:Int) ^ h)
 fi:∀j,0<j->j<M.n->M.f.c j=0
 cop:∀a b,a<M.n->b<M.n->∀x y,M.n*x+h*a=M.n*y+h*b->a=b
 nu:¬ (p:Int) ∣ u
theorem MM.top (r:MM M p h u):lt M ^ M.n=zc (Qt M) (u*(p:Int) ^ h):=by
 rw[jD];refine i7 λj hj=>?_
 have pos:=M.pos;rw[fB hj,u6];obtain⟨N,hN⟩:∃N,M.n=N+1:=⟨M.n-1,by omega⟩
 rw[hN];show(if j=0 then 0 else tk M.f.c (N+1) N (j-1))-tk M.f.c (N+1) N (N+1-1)*M.f.c j=if j=0 then u*(p:Int) ^ h else 0
 rw[h_ N (by omega)]
 unfold xp;rw[Jl (show N+1-1=N by omega)]
 by_cases c:j=0
 ·rw[Jl c,Jl c,c,r.f0];omega
 ·rw[Jk c,Jk c,Jk (by omega),r.fi j (by omega) hj];rfl
theorem MM.tk (r:MM M p h u){k e:Nat}(hk:k<2*M.n)(he:e<M.n):tk M.f.c M.n k e=if k=e then 1 else if k=e+M.n then u*(p:Int) ^ h else 0:=by
 by_cases c:k<M.n
 ·rw[h_ k c,Jk (show ¬ k=e+M.n by omega)]
  unfold xp;by_cases d:k=e
  ·rw[Jl d,Jl d.symm]
  ·rw[Jk d,Jk λz=>d z.symm]
 ·rw[Jk (by omega)]
  have e1:lt M ^ k=zc (Qt M) (u*(p:Int) ^ h)*lt M ^ (k-M.n):=by rw[<- r.top,<- Alg.eZ,W5 (by omega)]
  have e2:=Jp (λZ:Qt M=>Z.s.c e) e1
  simp only[fZ,jD,fB he] at e2
  rw[e2,h_ (k-M.n) (by omega)]
  unfold xp;by_cases d:k=e+M.n
  ·rw[Jl d,Jl (by omega),Zx]
  ·rw[Jk d,Jk (by omega),Yr]
theorem MM.pb (r:MM M p h u){i:Nat}:Pb p (lt M ^ i) (i*h / M.n):=by
 have pos:=M.pos;obtain⟨e,he⟩:∃e,e=i*h / M.n:=⟨_,rfl⟩;have hen:e*M.n<=i*h:=by rw[he];exact Nat.div_mul_le_self _ _
 rw[<- he];refine⟨e*M.n,λj=>?_⟩
 have hj:j=M.n*(j / M.n)+j % M.n:=(Jc j M.n).symm;have hb:j % M.n<M.n:=Nat.mod_lt _ pos;generalize j / M.n=a at hj;generalize j % M.n=b at hj hb;have h1:(lt M ^ i) ^ j=zc (Qt M) ((u*(p:Int) ^ h) ^ (i*a))*(lt M ^ i) ^ b:=by
  rw[hj,Alg.eZ];congr 1
  rw[<- Alg.qe,show i*(M.n*a)=M.n*(i*a) by ac_rfl,Alg.qe,r.top]
  have:∀(k:Int) (m:Nat),zc (Qt M) k ^ m=zc (Qt M) (k ^ m):=λk m=>by
   induction m with
   | zero=>rw[Alg.aM,Yu,b9]
   | succ m ih=>rw[Alg.aH,ih,Yq,bH]
  exact this _ _
 have h2:e*j<=e*M.n+h*(i*a):=by
  rw[hj,Zi];have x1:e*(M.n*a)<=i*h*a:=by rw[<- Z6];exact Yp a hen
  have x2:e*b<=e*M.n:=Y6 _ (by omega)
  have x3:i*h*a=h*(i*a):=by ac_rfl
  omega
 refine⟨zc (Qt M) (u ^ (i*a)*(p:Int) ^ (e*M.n+h*(i*a)-e*j))*(lt M ^ i) ^ b,?_⟩
 rw[h1];have GX:((p:Int) ^ h) ^ (i*a)=(p:Int) ^ (h*(i*a)):=Int.pow_mul.symm;have h3:(p:Int) ^ (e*M.n)*(u*(p:Int) ^ h) ^ (i*a)=(p:Int) ^ (e*j)*(u ^ (i*a)*(p:Int) ^ (e*M.n+h*(i*a)-e*j)):=by
  rw[W3,GX];have:(p:Int) ^ (e*j)*(p:Int) ^ (e*M.n+h*(i*a)-e*j)=(p:Int) ^ (e*M.n)*(p:Int) ^ (h*(i*a)):=by rw[<- Yo,<- Yo,W5 h2]
  generalize (p:Int) ^ (e*j)=A at this ⊢;generalize (p:Int) ^ (e*M.n+h*(i*a)-e*j)=B at this ⊢;grind
 have h4:∀(x y:Int) (W:Qt M),zc (Qt M) x*(zc (Qt M) y*W)=zc (Qt M) (x*y)*W:=λx y W=>by rw[bH];grind
 rw[h4,h4,h3]
structure Wt (M:Md Int)(p h:Nat)(V:Qt M)(t:Nat):Prop where
 ge:∀d,d<M.n->(p:Int) ^ cl M.n h t d ∣ V.s.c d
 ex:∃(d m:Nat) (c:Int),d<M.n/\V.s.c d=(p:Int) ^ m*c/\¬ (p:Int) ∣ c/\t=M.n*m+h*d
theorem Wt.some (hp:p∈PR){V:Qt M}(h0:V≠0):∃t,Wt M p h V t:=by
 have n1:=M.pos;have nz:∃d,d<M.n/\V.s.c d≠0:=V? λz=>h0 (i7 λd hd=>V? λw=>z ⟨d,hd,w⟩)
 obtain⟨d,hd,hd0⟩:=nz;obtain⟨m,c,e,nc⟩:=Ar hp _ _ (Yd _) hd0;obtain⟨t,_,pt,mt⟩:=nN (P:=λt=>∃(d m:Nat) (c:Int),d<M.n/\V.s.c d=(p:Int) ^ m*c/\¬ (p:Int) ∣ c/\t=M.n*m+h*d) (M.n*m+h*d) ⟨d,m,c,hd,e,nc,rfl⟩
 refine⟨t,λd hd=>?_,pt⟩
 by_cases z:V.s.c d=0
 ·rw[z];exact⟨0,by simp⟩
 ·obtain⟨m,c,e,nc⟩:=Ar hp _ _ (Yd _) z
  refine Au ((xj n1).mpr ?_) ⟨c,e⟩
  exact V? λw=>mt (M.n*m+h*d) (by omega) ⟨d,m,c,hd,e,nc,rfl⟩
theorem Wt.sq (hp:p∈PR)(r:MM M p h u){V:Qt M}{t:Nat}(w:Wt M p h V t):Wt M p h (V*V) (2*t):=by
 have n1:=M.pos;obtain⟨d0,m0,c0,hd0,e0,XM,et⟩:=w.ex;have ex:∀d,∃x:Int,d<M.n->V.s.c d=(p:Int) ^ cl M.n h t d*x:=λd=>by
  by_cases hd:d<M.n
  ·obtain⟨x,hx⟩:=w.ge d hd;exact⟨x,λ_=>hx⟩
  ·exact⟨0,λz=>Jr z hd⟩
 obtain⟨x,hx⟩:=Classical.axiomOfChoice ex;have wt:∀d,t<=M.n*cl M.n h t d+h*d:=λd=>(xj n1).mp (Yd _)
 have XN:∀d,d<M.n->d≠d0->t+1<=M.n*cl M.n h t d+h*d:=λd hd hne=>by
  have:=wt d
  refine V? λz=>hne (r.cop d d0 hd hd0 (cl M.n h t d) m0 (by omega))
 have term:∀a b e,a<M.n->b<M.n->e<M.n->∀T,T<=M.n*cl M.n h t a+h*a+(M.n*cl M.n h t b+h*b)->(p:Int) ^ cl M.n h T e ∣ V.s.c a*(V.s.c b*tk M.f.c M.n (a+b) e):=λa b e ha hb he T hT=>by
  rw[r.tk (by omega) he]
  by_cases c1:a+b=e
  ·rw[Jl c1,Zx,hx a ha,hx b hb]
   refine Au (b:=cl M.n h t a+cl M.n h t b) ((xj n1).mpr ?_) ⟨x a*x b,by rw[Yo];grind⟩
   rw[<- c1,Zi,Zi];omega
  ·rw[Jk c1]
   by_cases c2:a+b=e+M.n
   ·rw[Jl c2,hx a ha,hx b hb]
    refine Au (b:=cl M.n h t a+cl M.n h t b+h) ((xj n1).mpr ?_) ⟨x a*x b*u,by rw[Yo,Yo];grind⟩
    have:h*a+h*b=h*e+M.n*h:=by rw[<- Zi,c2,Zi,Zk h M.n]
    rw[Zi,Zi];omega
   ·rw[Jk c2,Yr,Yr];exact⟨0,by simp⟩
 have co:∀e,e<M.n->(V*V).s.c e=aW M.n λa=>aW M.n λb=>V.s.c a*(V.s.c b*L2.tk M.f.c M.n (a+b) e):=λe he=>by
  rw[JS V V he];unfold Vo;rw[e_];exact aA λa _=>by rw[e_,cL]
 refine⟨λe he=>?_,?_⟩
 ·rw[co e he]
  exact Av M.n λa ha=>Av M.n λb hb=>term a b e ha hb he _ (by have:=wt a;have:=wt b;omega)
 ·
  obtain⟨e,δ,g,he,hδ,ng,hw⟩:∃(e δ:Nat) (g:Int),e<M.n/\L2.tk M.f.c M.n (d0+d0) e=(p:Int) ^ δ*g/\¬ (p:Int) ∣ g/\M.n*δ+h*e=h*d0+h*d0:=by
   by_cases c:d0+d0<M.n
   ·exact⟨d0+d0,0,1,c,by rw[r.tk (by omega) c,Jl rfl,Yu];rfl,mh hp,by rw[Zi];omega⟩
   ·refine⟨d0+d0-M.n,h,u,by omega,by rw[r.tk (by omega) (by omega),Jk (by omega),Jl (by omega)];exact Zf _ _,r.nu,?_⟩
    have:h*(d0+d0-M.n)+h*M.n=h*d0+h*d0:=by rw[<- Zi,<- Zi,Wk (by omega)]
    rw[Zk M.n h];omega
  have cl1:cl M.n h (2*t+1) e=m0+m0+δ+1:=by
   have w2:2*t=M.n*(m0+m0+δ)+h*e:=by rw[et,Zi M.n (m0+m0),Zi M.n m0];omega
   refine Nat.le_antisymm ((xj n1).mpr (by rw[Zw];omega)) (V? λz=>?_)
   have:=(xj (h:=h) (t:=2*t+1) (d:=e) (m:=m0+m0+δ) n1).mp (by omega)
   omega
  have near:(p:Int) ^ (m0+m0+δ+1) ∣ (V*V).s.c e-V.s.c d0*(V.s.c d0*L2.tk M.f.c M.n (d0+d0) e):=by
   rw[co e he];have e2:V.s.c d0*(V.s.c d0*L2.tk M.f.c M.n (d0+d0) e)=aW M.n λa=>aW M.n λb=>if a=d0/\b=d0 then V.s.c a*(V.s.c b*L2.tk M.f.c M.n (a+b) e) else 0:=by
    rw[lZ (k:=d0) hd0 λa _ hne=>dS λb _=>Jk λz=>hne z.1,lZ (k:=d0) hd0 λb _ hne=>Jk λz=>hne z.2,Jl ⟨rfl,rfl⟩]
   rw[e2];refine w6 M.n λa ha=>w6 M.n λb hb=>?_
   by_cases c:a=d0/\b=d0
   ·rw[Jl c];exact⟨0,by simp⟩
   ·rw[Jk c,Int.sub_zero,<- cl1]
    refine term a b e ha hb he _ ?_
    have:=wt a
    have:=wt b
    by_cases c1:a=d0
    ·have:=XN b hb λz=>c ⟨c1,z⟩
     omega
    ·have:=XN a ha c1
     omega
  obtain⟨y,hy⟩:=near;refine⟨e,m0+m0+δ,c0*c0*g+(p:Int)*y,he,?_,λz=>?_,by rw[et,Zi M.n (m0+m0),Zi M.n m0];omega⟩
  ·have:(V*V).s.c e=V.s.c d0*(V.s.c d0*L2.tk M.f.c M.n (d0+d0) e)+(p:Int) ^ (m0+m0+δ+1)*y:=by omega
   rw[this,e0,hδ,Yo,Yo,Yo];have:(p:Int) ^ 1=(p:Int):=by rw[Yq,Yu,Zg]
   rw[this];grind
  ·obtain⟨k,hk⟩:=z
   exact j_ hp (j_ hp XM XM) ng ⟨k-y,by grind⟩
theorem Wt.pow (hp:p∈PR)(r:MM M p h u){V:Qt M}{t:Nat}(w:Wt M p h V t):∀j:Nat,Wt M p h (V ^ (2 ^ j)) (2 ^ j*t)
 | 0=>by
  rw[Nat.pow_zero,W2,show V ^ 1=V by rw[show V ^ 1=V ^ 0*V from Alg.aH V 0,Alg.aM];grind]
  exact w
 | j+1=>by
  have:=Wt.sq hp r (Wt.pow hp r w j)
  rw[<- Alg.eZ,show 2 ^ j+2 ^ j=2 ^ (j+1) by rw[Zu];omega,<- Z6,show 2*2 ^ j=2 ^ (j+1) by rw[Zu];omega] at this
  exact this
theorem Idx.Vq (hp:p∈PR)(r:MM M p h u):Idx M p (L2.tot M.n λd=>d*h / M.n):=by
 have n1:=M.pos;have p2:=bM hp;refine Idx.mono hp (E:=M.n*h) (λi hi=>Ym (Nat.div_le_self _ _) (Yp _ (by omega))) (λi _=>r.pb) λV N hV d hd=>?_
 by_cases h0:V=0
 ·rw[h0];exact⟨0,by show _*(0:Int)=_*0;simp⟩
 obtain⟨t,w⟩:=Wt.some (h:=h) hp h0;have ht:M.n*N<=t:=by
  refine V? λz=>?_
  obtain⟨K,hK⟩:=hV;obtain⟨y,hy⟩:=hK (2 ^ (M.n*K));obtain⟨e,m,c,he,hc,nc,hw⟩:=(Wt.pow hp r w (M.n*K)).ex;have h1:=Jp (λZ:Qt M=>Z.s.c e) hy
  simp only[fZ] at h1
  rw[hc,<- Zv,<- Yo] at h1;have h2:=w_ hp nc h1;have big:M.n*K<2 ^ (M.n*K):=Nat.lt_two_pow_self;generalize 2 ^ (M.n*K)=q at*;have h3:M.n*(N*q)<=M.n*(K+m):=Y6 _ h2;have h4:(t+1)*q<=M.n*N*q:=Yp _ (by omega)
  rw[Zi] at h3;rw[Zn,Zk t q] at h4;have h5:M.n*N*q=M.n*(N*q):=Z6 _ _ _;omega
 obtain⟨y,hy⟩:=w.ge d hd;have hc:=(xj (n:=M.n) (h:=h) (t:=t) (d:=d) (m:=cl M.n h t d) n1).mp (Yd _);have h6:N<=d*h / M.n+cl M.n h t d:=by
  have:N-cl M.n h t d<=d*h / M.n:=by
   rw[Nat.le_div_iff_mul_le n1,Nat.sub_mul,Zk N,Zk (cl M.n h t d),Zk d h];omega
  omega
 refine Au h6 ⟨y,?_⟩
 rw[hy,Yo];grind
end
theorem b7.mul {α:Type}[CommRing α]{f g:aO α}{m n:Nat}(hf:Alg.b7 f m)(hg:Alg.b7 g n):Alg.b7 (f*g) (m+n):=by
 obtain⟨h1,h2⟩:=lQ g n hg.dg m f hf.dg;exact⟨by rw[h1,hf.top,hg.top];grind,h2⟩
theorem b7.pow {α:Type}[CommRing α]{f:aO α}{m:Nat}(hf:Alg.b7 f m):∀k:Nat,Alg.b7 (f ^ k) (m*k)
 | 0=>by rw[Alg.aM];exact⟨rfl,Dg.one⟩
 | k+1=>by rw[Alg.aH,Zw];exact b7.mul (b7.pow hf k) hf
theorem Dg.pow {α:Type}[CommRing α]{f:aO α}{m:Nat}(hf:Dg f m):∀k:Nat,Dg (f ^ (k+1)) (m*(k+1))
 | 0=>by
  rw[show f ^ (0+1)=f by rw[Alg.aH,Alg.aM];grind,Nat.mul_one];exact hf
 | k+1=>by rw[Alg.aH,Zw];exact Dg.mul (Dg.pow hf k) hf
theorem MN {T:FE}{g:aO T.α}{n:Nat}(hg:Alg.b7 g n){B C:aO T.α}{δ:T.α}(pB:cO B)(pC:cO C)(hδ:δ≠0)(hB:B*dr g=cst δ+C*g){W q:aO T.α}(dW:Dg W n)(pq:cO q)(h:W ^ T.p=q*g):W=0:=by
 have p2:=bM T.pr;have pW:cO W:=⟨n,dW⟩;have dP:dr (W ^ T.p)=0:=by
  obtain⟨p',hp'⟩:∃p',T.p=p'+1:=⟨T.p-1,by omega⟩
  rw[hp',DK pW,<- hp',T.ch,iT];grind
 have pg:=hg.jr;have g0:∀k:Nat,g ^ k≠0:=λk z=>by
  have:=(b7.pow hg k).top
  rw[z] at this;exact T.fld.1 this.symm
 have key:∀k,k<T.p->∃q,cO q/\W ^ T.p=q*g ^ (k+1):=λk=>by
  induction k with
  | zero=>intro _;exact⟨q,pq,by rw[h,Alg.aH,Alg.aM];grind⟩
  | succ k ih=>
   intro hk;obtain⟨q,pq,e⟩:=ih (by omega)
   have e1:=dP;rw[e,DJ pq,DK pg] at e1;have e2:g ^ k*(dr q*g+q*(cst (nt T.α (k+1))*dr g))=0:=by
    rw[<- e1,Alg.aH];grind
   rcases FH _ _ (pg.pow k) (((pq.dr).mul pg).add (pq.mul ((cO.cst _).mul pg.dr))) e2 with z|z
   ·exact Jr z (g0 k)
   ·have hk0:nt T.α (k+1)*δ≠0:=λw=>by
     rcases T.fld.dom _ _ w with y|y
     ·exact MD (T:=T) (r:=k+1) (by rw[Z1 hk];omega) y
     ·exact hδ y
    obtain⟨κ,hκ⟩:=T.fld.2 _ hk0;have c1:cst (nt T.α (k+1))*cst δ*cst κ=1:=by rw[<- kN,<- kN,hκ,lV]
    refine⟨cst κ*(-(B*dr q)-q*cst (nt T.α (k+1))*C),(cO.cst _).mul ((pB.mul pq.dr).neg.sub ((pq.mul (cO.cst _)).mul pC)),?_⟩
    have e3:q=cst κ*(-(B*dr q)-q*cst (nt T.α (k+1))*C)*g:=by
     generalize cst (nt T.α (k+1))=a at*;generalize cst δ=b at*;generalize cst κ=c at*;generalize dr g=g' at*;generalize dr q=q' at*;grind
    rw[e,Alg.aH g (k+1)];generalize cst κ*(-(B*dr q)-q*cst (nt T.α (k+1))*C)=Z at e3;rw[e3];grind
 obtain⟨q,⟨m,hq⟩,e⟩:=key (T.p-1) (by omega)
 rw[show T.p-1+1=T.p by omega] at e
 have dP2:Dg (W ^ T.p) (n*T.p):=by
  have:=Dg.pow dW (T.p-1)
  rw[show T.p-1+1=T.p by omega] at this
  exact this
 have q0:=rY (b7.pow hg T.p) m q hq (by rw[<- e];exact dP2)
 rw[q0,show(0:aO T.α)*g ^ T.p=0 by grind] at e
 rcases wV FH pW _ e with z|z
 ·exact z
 ·exact Jr z PD
section
variable {R:Type} [CommRing R] {M:Md Int}
theorem kQ {y:R}:∀(N:Nat) (a:aO Int),Alg.ev N (red R a) y=sR N a.c λi=>y ^ i
 | 0,_=>rfl
 | N+1,a=>by
  have sh:∀(m:Nat) (x:Vc) (o:Nat->R),sR (m+1) x o=zc R (x 0)*o 0+sR m (λi=>x (i+1)) λi=>o (i+1):=by
   intro m;induction m with
   | zero=>intro x o;show(0:R)+_=_+0;grind
   | succ m ihm=>
    intro x o;show sR (m+1) x o+zc R (x (m+1))*o (m+1)=_+(sR m _ _+zc R (x (m+1))*o (m+1))
    rw[ihm];grind
  show zc R (a.c 0)+y*Alg.ev N (red R (tl a)) y=_
  rw[kQ N,sh,d8,Alg.aM];congr 1
  ·grind
  ·exact c_ N (λ_ _=>rfl) λi _=>by rw[Alg.aH];grind
theorem qm {α:Type}[CommRing α]{N:Md α}{a:aO Int}{k:Nat}(h:Dg a k):Alg.ev k (red (Qt N) a) (Qt.of N X)=Qt.of N (red α a):=by
 rw[NK k (red α a) (dh h)];congr 1
 apply aO.ext;funext i
 apply Qt.ext
 show(zc (Qt N) (a.c i)).s=Alg.rest N (cst (zc α (a.c i)))
 rw[u6];exact(nM ((Dg.cst _).mono N.pos)).symm
theorem Aw (a:aO Int):red Int a=a:=rfl
theorem Ax:Rt M (lt M):=⟨by
 have:=qm (N:=M) M.mon.dg
 rw[Aw,GK] at this;exact this⟩
end
section
variable {M:Md Int} {p:Nat}
def F1 (M:Md Int)(p:Nat):Prop:=∀(W z:Qt M) (m:Nat),W ^ m=zc (Qt M) (p:Int)*z->∃w,W=zc (Qt M) (p:Int)*w
theorem F1.ofT (T:FE){β D:Qt M}{δ:Int}(hD:D.s.c=λj=>((j+1:Nat):Int)*M.f.c (j+1))(hβ:β*D=zc (Qt M) δ)(hδ:¬ (T.p:Int) ∣ δ):F1 M T.p:=by
 have zp:zc T.α (T.p:Int)=0:=by rw[bZ];exact T.ch
 have zk:∀k:Int,zc T.α k=0->(T.p:Int) ∣ k:=λk hk=>V? λnd=>by
  obtain⟨y,u,e⟩:=vF T.pr nd;have:=Jp (zc T.α) e
  rw[bH,jC,bH,b9,hk,zp] at this;exact T.fld.1 (by grind)
 obtain⟨N,hNf,hNn⟩:∃N:Md T.α,N.f=red T.α M.f/\N.n=M.n:=⟨⟨red T.α M.f,M.n,⟨by show zc T.α (M.f.c M.n)=1;rw[M.mon.top];exact b9,dh M.mon.dg⟩,M.pos⟩,rfl,rfl⟩
 have XO:∀W:Qt M,Dg (red T.α W.s) N.n:=λW=>by rw[hNn];exact dh W.lt
 have rt:Rt M (Qt.of N X):=⟨by rw[qm M.mon.dg,<- hNf];exact GK (M:=N)⟩
 have hmN:∀W:Qt M,hm M (Qt.of N X) W=⟨red T.α W.s,XO W⟩:=λW=>by
  show Alg.ev M.n (red (Qt N) W.s) (Qt.of N X)=_
  rw[qm W.lt];apply Qt.ext
  exact nM (XO W)
 have Vr:∀W:Qt M,hm M (Qt.of N X) W=0->∃w,W=zc (Qt M) (T.p:Int)*w:=λW hW=>by
  rw[hmN W] at hW;have h1:∀j,(T.p:Int) ∣ W.s.c j:=λj=>zk _ (Jp (λZ:Qt N=>Z.s.c j) hW)
  refine⟨qv M λj=>W.s.c j / (T.p:Int),i7 λj hj=>?_⟩
  rw[fZ,fB hj,Int.mul_ediv_cancel' (h1 j)]
 have hb:=Jp (hm M (Qt.of N X)) hβ;rw[An rt,uR,hmN β,hmN D] at hb;have edr:red T.α D.s=dr N.f:=by
  apply aO.ext;funext j
  rw[hNf];show zc T.α (D.s.c j)=nt T.α (j+1)*zc T.α (M.f.c (j+1))
  rw[hD,bH,bZ]
 obtain⟨C,pC,hC⟩:=dH (M:=N) (a:=red T.α β.s*red T.α D.s) (cO.mul ⟨_,dh β.lt⟩ ⟨_,dh D.lt⟩);have e1:Alg.rest N (red T.α β.s*red T.α D.s)=cst (zc T.α δ):=by
  have:=Jp Qt.s hb
  rw[u6] at this;exact this
 have hB:red T.α β.s*dr N.f=cst (zc T.α δ)+C*N.f:=by
  rw[<- edr];rw[e1] at hC;generalize red T.α β.s*red T.α D.s=A at hC ⊢;grind
 have free:∀x:Qt N,x ^ T.p=0->x=0:=λx hx=>by
  have h1:Qt.of N (x.s ^ T.p)=0:=by rw[z7 x.jr,IK];exact hx
  obtain⟨q,pq,hq⟩:=DB (x.jr.pow T.p) h1;apply Qt.ext
  exact MN (T:=T) N.mon ⟨_,dh β.lt⟩ pC (λz=>hδ (zk δ z)) hB x.lt pq hq
 intro W z m hW;refine Vr W ?_
 have h1:=Jp (hm M (Qt.of N X)) hW;have zN:zc (Qt N) (T.p:Int)=0:=by
  apply Qt.ext
  rw[u6,zp,iT];rfl
 rw[qk rt,gf,zN] at h1;have p2:=bM T.pr;generalize hm M (Qt.of N X) W=y at h1 ⊢;have key:∀s:Nat,y ^ (T.p ^ s)=0->y=0:=λs=>by
  induction s with
  | zero=>intro hx;rw[Nat.pow_zero,show y ^ 1=y by rw[show y ^ 1=y ^ 0*y from Alg.aH _ 0,Alg.aM];grind] at hx;exact hx
  | succ s ih=>intro hx;rw[Zu,Alg.qe] at hx;exact ih (free _ hx)
 refine key m ?_
 have hm2:m<=T.p ^ m:=W9 (Nat.lt_pow_self (by omega))
 rw[show T.p ^ m=m+(T.p ^ m-m) by omega,Alg.eZ,h1];grind
theorem F1.of (hp:p∈PR){β D:Qt M}{δ:Int}(hD:D.s.c=λj=>((j+1:Nat):Int)*M.f.c (j+1))(hβ:β*D=zc (Qt M) δ)(hδ:¬ (p:Int) ∣ δ):F1 M p:=F1.ofT (ground p hp) hD hβ hδ
theorem F1.pb (hp:p∈PR)(r:F1 M p):∀(N:Nat) (W:Qt M),Pb p W N->∃w,W=zc (Qt M) ((p:Int) ^ N)*w
 | 0,W,_=>⟨W,by rw[Yu,b9];grind⟩
 | N+1,W,h=>by
  have p2:=bM hp;have T4:∀k:Nat,(p:Int) ^ k≠0:=λk=>Wo (by omega)
  obtain⟨K,hK⟩:=Pb.less (N':=1) (by omega) h
  obtain⟨z,hz⟩:=hK (K+1);have h1:W ^ (K+1)=zc (Qt M) (p:Int)*z:=DV (T4 K) (by
   rw[hz,W2,Yq,bH];grind)
  obtain⟨w,rfl⟩:=r W z (K+1) h1;have h2:Pb p w N:=by
   obtain⟨K,hK⟩:=h;refine⟨K,λj=>?_⟩
   obtain⟨z,hz⟩:=hK j;refine⟨z,DV (T4 j) ?_⟩
   have Sn:zc (Qt M) (p:Int) ^ j=zc (Qt M) ((p:Int) ^ j):=by rw[bZ,DU]
   rw[lU,Sn,show(N+1)*j=j+N*j by rw[Zn];omega,Yo,bH] at hz
   grind
  obtain⟨v,rfl⟩:=F1.pb hp r N w h2;exact⟨v,by rw[Yq,bH];grind⟩
theorem Idx.Ay {G:Md Int}{h:Nat}(hp:p∈PR)(hn:M.n=G.n)(hf:∀i,i<=M.n->M.f.c i=(p:Int) ^ (h*(M.n-i))*G.f.c i)(r:F1 G p):Idx M p (L2.tot M.n λi=>h*i):=by
 have Sn:∀k:Nat,(zc (Qt G) ((p:Int) ^ h)*lt G) ^ k=zc (Qt G) ((p:Int) ^ (h*k))*lt G ^ k:=λk=>by
  rw[lU];congr 1
  induction k with
  | zero=>rw[Alg.aM,Wn,Yu,b9]
  | succ k ih=>rw[Alg.aH,ih,Zw,Yo,bH]
 have rt:Rt M (zc (Qt G) ((p:Int) ^ h)*lt G):=⟨by
  have h0:=(Ax (M:=G)).rt;rw[kQ] at h0 ⊢;rw[hn];have e:(sR (G.n+1) M.f.c λi=>(zc (Qt G) ((p:Int) ^ h)*lt G) ^ i)=zc (Qt G) ((p:Int) ^ (h*G.n))*sR (G.n+1) G.f.c λi=>lt G ^ i:=by
   have:∀m,m<=G.n+1->(sR m M.f.c λi=>(zc (Qt G) ((p:Int) ^ h)*lt G) ^ i)=zc (Qt G) ((p:Int) ^ (h*G.n))*sR m G.f.c λi=>lt G ^ i:=λm=>by
    induction m with
    | zero=>intro _;show(0:Qt G)=_*0;grind
    | succ m ih=>
     intro hm;show sR m _ _+zc (Qt G) (M.f.c m)*(zc (Qt G) ((p:Int) ^ h)*lt G) ^ m=_*(sR m _ _+zc (Qt G) (G.f.c m)*lt G ^ m)
     rw[ih (by omega),Sn,hf m (by omega),hn,bH]
     have:zc (Qt G) ((p:Int) ^ (h*G.n))=zc (Qt G) ((p:Int) ^ (h*(G.n-m)))*zc (Qt G) ((p:Int) ^ (h*m)):=by
      rw[<- bH,<- Yo,<- Zi,Wk (by omega)]
     rw[this];grind
   exact this _ (Yd _)
  rw[e,h0];grind⟩
 have co:∀(V:Qt M) (d:Nat),d<M.n->(hm M (zc (Qt G) ((p:Int) ^ h)*lt G) V).s.c d=(p:Int) ^ (h*d)*V.s.c d:=λV d hd=>by
  unfold hm;rw[kQ,gI,aA (g:=λl=>(V.s.c l*(p:Int) ^ (h*l))*dX l d) λl hl=>by
   rw[Sn,fZ,jD,fB (by omega),h_ l (by omega)]
   show _*(_*dX l d)=_
   grind,c8 hd]
  exact Zf _ _
 refine Idx.mono hp (E:=h*M.n) (λi hi=>Y6 _ (by omega)) (λi hi=>⟨h*M.n,λj=>?_⟩) λV N hV d hd=>?_
 ·refine⟨qv M λd=>(p:Int) ^ (h*M.n-h*d)*(lt G ^ (i*j)).s.c d,i7 λd hd=>?_⟩
  rw[fZ,fZ,fB hd,<- Alg.qe];have h1:=co (lt M ^ (i*j)) d hd;rw[qk rt,FZ rt,Sn,fZ] at h1;have h2:(p:Int) ^ (h*M.n)=(p:Int) ^ (h*M.n-h*d)*(p:Int) ^ (h*d):=by rw[<- Yo,Wk (Y6 _ (by omega))]
  rw[h2,Zv,<- h1,Z6];grind
 ·obtain⟨w,hw⟩:=F1.pb hp r N _ (hV.map rt)
  exact⟨w.s.c d,by rw[<- co V d hd,hw,fZ]⟩
end
theorem MO {α:Type}[CommRing α]:Alg.b7 (X:aO α) 1:=⟨rfl,Dg.mon 1 1⟩
theorem B3 {α:Type}[CommRing α](k:Nat):Alg.b7 ((X:aO α) ^ k) k:=by
 have:=b7.pow (MO (α:=α)) k
 rw[W2] at this;exact this
theorem B4 {R:Type}[CommRing R]{x:Vc}{o:Nat->R}{n:Nat}:∀m,sR (n+m) x o=sR n x o+sR m (λi=>x (n+i)) λi=>o (n+i)
 | 0=>by show sR n x o=sR n x o+0;grind
 | m+1=>by
  show sR (n+m) x o+zc R (x (n+m))*o (n+m)=sR n x o+(sR m _ _+zc R (x (n+m))*o (n+m))
  rw[B4 m];grind
theorem zg {e:Nat->Nat}{n:Nat}:∀m,tot (n+m) e=tot n e+tot m λi=>e (n+i)
 | 0=>rfl
 | m+1=>by
  show tot (n+m) e+e (n+m)=tot n e+(tot m _+e (n+m))
  rw[zg m];omega
theorem xm {e:Nat->Nat}{r:Nat}:∀n,tot n (λi=>e i+r)=tot n e+n*r
 | 0=>by show 0=0+_;omega
 | n+1=>by show tot n _+(e n+r)=tot n e+e n+_;rw[xm n,Zn];omega
theorem tW {e e':Nat->Nat}:∀n,(∀i,i<n->e i=e' i)->tot n e=tot n e'
 | 0,_=>rfl
 | n+1,h=>by show tot n e+e n=tot n e'+e' n;rw[tW n λi hi=>h i (by omega),h n (by omega)]
section
variable {F G M:Md Int} {p:Nat}
theorem So (U:Qt F):Dg (G.f*U.s) (G.n+F.n):=by
 obtain⟨k,hk⟩:∃k,F.n=k+1:=⟨F.n-1,by have:=F.pos;omega⟩
 have h:=U.lt;rw[hk] at h ⊢;exact(lQ U.s k h G.n G.f G.mon.dg).2
def lf (hn:M.n=G.n+F.n)(U:Qt F):Qt M:=⟨G.f*U.s,by rw[hn];exact So U⟩
structure yh (M G F:Md Int):Prop where
 n:M.n=G.n+F.n
 f:M.f=G.f*F.f
theorem yh.swap (h:yh M G F):yh M F G:=⟨by rw[h.n];omega,by rw[h.f];grind⟩
theorem yh.rt (h:yh M G F):Rt M (lt F):=⟨by
 have:=qm (N:=F) M.mon.dg
 rw[Aw,h.f,g_ G.mon.jr F.mon.jr,GK,show Qt.of F G.f*0=0 by grind] at this
 rw[h.f];exact this⟩
theorem yh.to (h:yh M G F)(V:Qt M):hm M (lt F) V=Qt.of F V.s:=qm (N:=F) V.lt
theorem PZ (hn:M.n=G.n+F.n)(U V:Qt F):lf (G:=G) hn (U+V)=lf hn U+lf hn V:=by
 apply Qt.ext
 show G.f*(U.s+V.s)=G.f*U.s+G.f*V.s
 grind
theorem uT (hn:M.n=G.n+F.n)(k:Int)(U:Qt F):lf (G:=G) hn (zc (Qt F) k*U)=zc (Qt M) k*lf hn U:=by
 have e:∀(N:Md Int) (Z:Qt N),(zc (Qt N) k*Z).s=cst k*Z.s:=λN Z=>by
  apply aO.ext;funext i
  rw[fZ,cQ]
 apply Qt.ext
 rw[e];show G.f*(zc (Qt F) k*U).s=cst k*(G.f*U.s)
 rw[e];grind
theorem JW (hn:M.n=G.n+F.n){x:Vc}{o:Nat->Qt F}:∀m,lf (G:=G) hn (sR m x o)=sR m x λi=>lf hn (o i)
 | 0=>by
  apply Qt.ext
  show G.f*(0:aO Int)=0
  grind
 | m+1=>by
  show lf hn (sR m x o+zc (Qt F) (x m)*o m)=sR m x _+zc (Qt M) (x m)*lf hn (o m)
  rw[PZ,JW hn m,uT]
theorem DY (h:yh M G F)(U:Qt F)(V:Qt M):lf h.n U*V=lf (G:=G) h.n (U*hm M (lt F) V):=by
 apply Qt.ext
 rw[BN];refine rest_eq (lf h.n _).lt ?_
 have e1:Qt.of F (U.s*V.s)=U*hm M (lt F) V:=by rw[g_ U.jr V.jr,IK,h.to]
 have e2:Alg.rest F (U.s*V.s)=(U*hm M (lt F) V).s:=Jp Qt.s e1;obtain⟨q,pq,hq⟩:=dH (M:=F) (U.jr.mul V.jr);rw[e2] at hq;refine⟨q,pq,?_⟩
 rw[h.f];show G.f*U.s*V.s-G.f*(U*hm M (lt F) V).s=q*(G.f*F.f)
 generalize (U*hm M (lt F) V).s=A at hq;grind
theorem xo (h:yh M G F)(U:Qt F):hm M (lt F) (lf (G:=G) h.n U)=Qt.of F G.f*U:=by
 rw[h.to];show Qt.of F (G.f*U.s)=_
 rw[g_ G.mon.jr U.jr,IK]
theorem Az (h:yh M G F)(U:Qt F):hm M (lt G) (lf (G:=G) h.n U)=0:=by
 rw[h.swap.to];show Qt.of G (G.f*U.s)=0
 rw[g_ G.mon.jr U.jr,GK];grind
theorem JX (h:yh M G F)(U:Qt F):∀j:Nat,lf (G:=G) h.n U ^ (j+1)=lf h.n (U*(Qt.of F G.f*U) ^ j)
 | 0=>by rw[Alg.aH,Alg.aM,Alg.aM,show U*1=U by grind];grind
 | j+1=>by
  rw[Alg.aH,JX h U j,DY h,xo h,Alg.aH];congr 1
  grind
theorem yh.inj (h:yh M G F){A:Qt G}{ρ:Int}(ρ0:ρ≠0)(hA:A*Qt.of G F.f=zc (Qt G) ρ){V:Qt M}(h1:hm M (lt F) V=0)(h2:hm M (lt G) V=0):V=0:=by
 rw[h.to] at h1;rw[h.swap.to] at h2;obtain⟨q,pq,e⟩:=DB V.jr h1;rw[e,g_ pq F.mon.jr] at h2;have z:Qt.of G q=0:=DV ρ0 (by rw[<- hA];grind)
 obtain⟨q',⟨m,pq'⟩,e'⟩:=DB pq z;have e2:V.s=q'*M.f:=by rw[e,e',h.f];grind
 have:=rY M.mon m q' pq' (by rw[<- e2];exact V.lt)
 apply Qt.ext
 rw[e2,this];show(0:aO Int)*M.f=0
 grind
theorem yh.both (h:yh M G F){A:Qt G}{B:Qt F}{ρ:Int}(ρ0:ρ≠0)(hA:A*Qt.of G F.f=zc (Qt G) ρ)(hB:B*Qt.of F G.f=zc (Qt F) ρ)(V:Qt M):zc (Qt M) ρ*V=lf (G:=G) h.n (B*hm M (lt F) V)+lf (G:=F) h.swap.n (A*hm M (lt G) V):=by
 have e:lf (G:=G) h.n B+lf (G:=F) h.swap.n A=zc (Qt M) ρ:=by
  have:lf (G:=G) h.n B+lf (G:=F) h.swap.n A+zc (Qt M) (-1)*zc (Qt M) ρ=0:=by
   refine h.inj ρ0 hA ?_ ?_
   ·rw[qj,qj,gf,uR,xo h,Az h.swap,gG,b9]
    rw[show Qt.of F G.f*B=B*Qt.of F G.f by grind,hB];grind
   ·rw[qj,qj,gf,uR,xo h.swap,Az h,gG,b9]
    rw[show Qt.of G F.f*A=A*Qt.of G F.f by grind,hA];grind
  rw[gG,b9] at this;grind
 rw[<- e,<- DY h,<- DY h.swap];grind
noncomputable def bp (G:Md Int)(i:Nat):aO Int:=if i<G.n then (X:aO Int) ^ i else G.f*(X:aO Int) ^ (i-G.n)
theorem yh.det (h:yh M G F):L2.det (G.n+F.n) (λk j=>if j<G.n then (lt G ^ k).s.c j else (lt F ^ k).s.c (j-G.n))=L2.det F.n λl j=>(Qt.of F G.f*lt F ^ l).s.c j:=by
 have Sh:∀i,Alg.b7 (bp G i) i:=λi=>by
  unfold bp;split
  ·exact B3 i
  ·have:=b7.mul G.mon (B3 (α:=Int) (i-G.n))
   rw[show G.n+(i-G.n)=i by omega] at this
   exact this
 have dP:L2.det (G.n+F.n) (λi j=>(bp G i).c j)=1:=by
  rw[jW _ _ λi j hij _=>(Sh i).dg j (by omega),gZ (g:=λ_=>1) λi _=>(Sh i).top]
  have:∀n,dM n (λ_=>(1:Int))=1:=λn=>by
   induction n with
   | zero=>rfl
   | succ n ih=>show dM n _*1=1;rw[ih];rfl
  exact this _
 have XQ:∀(N:Md Int) (i:Nat),i<G.n+F.n->(sR (G.n+F.n) (bp G i).c λk=>lt N ^ k)=Qt.of N (bp G i):=λN i hi=>by
  rw[<- kQ];exact qm (N:=N) ((Sh i).dg.mono (by omega))
 have e1:L2.det (G.n+F.n) (gp (G.n+F.n) (λi j=>(bp G i).c j) λk j=>if j<G.n then (lt G ^ k).s.c j else (lt F ^ k).s.c (j-G.n))=L2.det (G.n+F.n) λi j=>if j<G.n then (Qt.of G (bp G i)).s.c j else (Qt.of F (bp G i)).s.c (j-G.n):=aP λi j hi hj=>by
  show aW (G.n+F.n) (λk=>(bp G i).c k*if j<G.n then (lt G ^ k).s.c j else (lt F ^ k).s.c (j-G.n))=_
  by_cases c:j<G.n
  ·rw[Jl c,<- XQ G i hi,gI]
   exact aA λk _=>by rw[Jl c]
  ·rw[Jk c,<- XQ F i hi,gI]
   exact aA λk _=>by rw[Jk c]
 rw[dU,dP,Zg] at e1;rw[e1];have pG:∀i,i<G.n->Qt.of G (bp G i)=lt G ^ i:=λi hi=>by unfold bp;rw[Jl hi,z7 cO.X];rfl
 have pG0:∀i,G.n<=i->Qt.of G (bp G i)=0:=λi hi=>by unfold bp;rw[Jk (by omega),g_ G.mon.jr (cO.X.pow _),GK];grind
 have pF:∀l,Qt.of F (bp G (G.n+l))=Qt.of F G.f*lt F ^ l:=λl=>by unfold bp;rw[Jk (by omega),g_ G.mon.jr (cO.X.pow _),z7 cO.X,Zc];rfl
 have h1:L2.det G.n (λi j=>(lt G ^ i).s.c j)=1:=JV
 rw[wZ (n:=G.n) (m:=F.n) λi j hi _ hj=>by rw[Jl hj,pG0 i hi];rfl,aP (N:=λi j=>(lt G ^ i).s.c j) λr c hr hc=>by rw[Jl hc,pG r hr],h1,Zg]
 exact aP λr c _ _=>by rw[Jk (by omega),pF,Zc]
theorem yh.pb (h:yh M G F){B Y:Qt F}{ρ u:Int}{r e:Nat}(hB:B*Qt.of F G.f=zc (Qt F) ρ)(hρ:ρ=(p:Int) ^ r*u)(hY:Pb p Y e):Pb p (lf (G:=G) h.n (B*Y)) (e+r):=by
 obtain⟨K,hK⟩:=hY;refine⟨K+r,λj=>?_⟩
 cases j with
 | zero=>exact⟨zc (Qt M) ((p:Int) ^ (K+r)),by rw[Wn,Yu,b9,Alg.aM];grind⟩
 | succ j=>
  obtain⟨z,hz⟩:=hK (j+1);have zpw:∀(k:Int) (m:Nat),zc (Qt F) k ^ m=zc (Qt F) (k ^ m):=λk m=>by
   induction m with
   | zero=>rw[Alg.aM,Yu,b9]
   | succ m ih=>rw[Alg.aH,ih,Yq,bH]
  have e1:B*Y*(Qt.of F G.f*(B*Y)) ^ j=zc (Qt F) (ρ ^ j)*(B*Y ^ (j+1)):=by
   rw[show Qt.of F G.f*(B*Y)=zc (Qt F) ρ*Y by rw[<- hB];grind,lU,zpw,Alg.aH];grind
  refine⟨zc (Qt M) (u ^ j)*lf h.n (B*z),?_⟩
  rw[JX h,e1,uT];have e2:zc (Qt M) ((p:Int) ^ K)*lf (G:=G) h.n (B*Y ^ (j+1))=zc (Qt M) ((p:Int) ^ (e*(j+1)))*lf h.n (B*z):=by
   rw[<- uT,<- uT];congr 1
   rw[show zc (Qt F) ((p:Int) ^ K)*(B*Y ^ (j+1))=B*(zc (Qt F) ((p:Int) ^ K)*Y ^ (j+1)) by grind,hz];grind
  have GX:((p:Int) ^ r) ^ j=(p:Int) ^ (r*j):=Int.pow_mul.symm;have e3:(e+r)*(j+1)=e*(j+1)+(r+r*j):=by rw[Zn,Zw r j];omega
  rw[hρ,W3,GX,e3,Yo,Yo,Yo,bH,bH,bH,bH];generalize lf (G:=G) h.n (B*Y ^ (j+1))=P at e2 ⊢;generalize lf (G:=G) h.n (B*z)=Q at e2 ⊢;generalize zc (Qt M) ((p:Int) ^ K)=a at e2 ⊢;generalize zc (Qt M) ((p:Int) ^ (e*(j+1)))=b at e2 ⊢;grind
theorem Idx.prod (hp:p∈PR)(h:yh M G F){I J r:Nat}(hF:Idx F p I)(hG:Idx G p J){u:Int}(hR:(L2.det F.n λl j=>(Qt.of F G.f*lt F ^ l).s.c j)=(p:Int) ^ r*u)(hu:¬ (p:Int) ∣ u):Idx M p (I+J+r):=by
 have p2:=bM hp;have T4:∀k:Nat,(p:Int) ^ k≠0:=λk=>Wo (by omega)
 obtain⟨ρ,hρ⟩:∃ρ,ρ=L2.det F.n λl j=>(Qt.of F G.f*lt F ^ l).s.c j:=⟨_,rfl⟩
 have eρ:ρ=(p:Int) ^ r*u:=hρ.trans hR;have ρ0:ρ≠0:=λz=>by
  rw[eρ] at z;rcases Int.mul_eq_zero.mp z with y|y
  ·exact T4 r y
  ·exact hu ⟨0,by rw[y];simp⟩
 have hpos:=F.pos;obtain⟨B,hB⟩:∃B:Qt F,B*Qt.of F G.f=zc (Qt F) ρ:=by
  refine⟨sR F.n (λl=>iU F.n (λl j=>(Qt.of F G.f*lt F ^ l).s.c j) 0 l) λl=>lt F ^ l,?_⟩
  rw[show ∀a b:Qt F,a*b=b*a from λa b=>by grind,d8]
  refine i7 λj hj=>?_
  rw[gI,u6];have:=xh (n:=F.n) (M:=λl j=>(Qt.of F G.f*lt F ^ l).s.c j) (by rw[<- hρ];exact ρ0) hpos hj
  rw[<- hρ] at this;have e:(aW F.n λl=>iU F.n (λl j=>(Qt.of F G.f*lt F ^ l).s.c j) 0 l*(Qt.of F G.f*lt F ^ l).s.c j)=ρ*dX 0 j:=this
  rw[e];show ρ*(if j=0 then 1 else 0)=if j=0 then ρ else 0
  split <;> omega
 obtain⟨A,hA⟩:∃A:Qt G,A*Qt.of G F.f=zc (Qt G) ρ:=by
  have e1:Qt.of F (B.s*G.f)=zc (Qt F) ρ:=by rw[g_ B.jr G.mon.jr,IK,hB]
  have e2:Alg.rest F (B.s*G.f)=cst ρ:=by
   have:=Jp Qt.s e1
   rw[u6] at this;exact this
  obtain⟨q,pq,hq⟩:=dH (M:=F) (B.jr.mul G.mon.jr);rw[e2] at hq;refine⟨Qt.of G (-q),?_⟩
  rw[<- g_ pq.neg F.mon.jr];have e3:-q*F.f=cst ρ-B.s*G.f:=by grind
  rw[e3,Pe (cO.cst _) (B.jr.mul G.mon.jr),g_ B.jr G.mon.jr,GK];have:Qt.of G (cst ρ)=zc (Qt G) ρ:=by
   apply Qt.ext
   rw[u6];exact nM ((Dg.cst ρ).mono G.pos)
  rw[this];grind
 obtain⟨Y,e,D,E,v,hY,hd,hv,hDI,Vs⟩:=hF.ex;obtain⟨Z,e',D',E',v',hZ,hd',hv',Vt,Vu⟩:=hG.ex;have key:∀i,G.n<=i->G.n+(i-G.n)=i:=λi hi=>by omega
 refine⟨λi=>if i<G.n then lf (G:=F) h.swap.n (A*Z i) else lf (G:=G) h.n (B*Y (i-G.n)),λi=>if i<G.n then e' i+r else e (i-G.n)+r,D+D'+(G.n+F.n-1)*r,E+E'+r,u ^ (G.n+F.n-1)*(v*v'),λi hi=>?_,?_,j_ hp (tU hp hu _) (j_ hp hv hv'),?_,λV N hV=>?_⟩
 ·rw[h.n] at hi
  dsimp only
  by_cases c:i<G.n
  ·rw[Jl c,Jl c]
   exact⟨h.swap.pb hA eρ (hZ i c).1,by have:=(hZ i c).2;omega⟩
  ·rw[Jk c,Jk c]
   exact⟨h.pb hB eρ (hY _ (by omega)).1,by have:=(hY (i-G.n) (by omega)).2;omega⟩
 ·
  rw[h.n];have red:∀(V:Qt M) (j:Nat),(aW (G.n+F.n) λk=>V.s.c k*if j<G.n then (lt G ^ k).s.c j else (lt F ^ k).s.c (j-G.n))=if j<G.n then (hm M (lt G) V).s.c j else (hm M (lt F) V).s.c (j-G.n):=λV j=>by
   unfold hm;rw[kQ,kQ,h.n];by_cases c:j<G.n
   ·rw[Jl c,gI];exact aA λk _=>by rw[Jl c]
   ·rw[Jk c,gI];exact aA λk _=>by rw[Jk c]
  have e1:=dU (G.n+F.n) (λi j=>(if i<G.n then lf (G:=F) h.swap.n (A*Z i) else lf (G:=G) h.n (B*Y (i-G.n)):Qt M).s.c j) (λk j=>if j<G.n then (lt G ^ k).s.c j else (lt F ^ k).s.c (j-G.n))
  rw[h.det,<- hρ] at e1;have mZ:∀i,hm M (lt G) (lf (G:=F) h.swap.n (A*Z i))=zc (Qt G) ρ*Z i:=λi=>by rw[xo h.swap,<- hA];grind
  have mY:∀i,hm M (lt F) (lf (G:=G) h.n (B*Y i))=zc (Qt F) ρ*Y i:=λi=>by rw[xo h,<- hB];grind
  have e2:L2.det (G.n+F.n) (gp (G.n+F.n) (λi j=>(if i<G.n then lf (G:=F) h.swap.n (A*Z i) else lf (G:=G) h.n (B*Y (i-G.n)):Qt M).s.c j) (λk j=>if j<G.n then (lt G ^ k).s.c j else (lt F ^ k).s.c (j-G.n)))=ρ ^ (G.n+F.n)*(L2.det G.n (λi j=>(Z i).s.c j)*L2.det F.n λi j=>(Y i).s.c j):=by
   have eb:L2.det (G.n+F.n) (λi j=>if i<G.n then (if j<G.n then (Z i).s.c j else 0) else if j<G.n then 0 else (Y (i-G.n)).s.c (j-G.n))=L2.det G.n (λi j=>(Z i).s.c j)*L2.det F.n λi j=>(Y i).s.c j:=by
    rw[wZ (n:=G.n) (m:=F.n) λi j hi _ hj=>by rw[Jk (by omega),Jl hj]]
    congr 1
    ·exact aP λr c hr hc=>by rw[Jl hr,Jl hc]
    ·exact aP λr c _ _=>by rw[Jk (by omega),Jk (by omega),Zc,Zc]
   rw[<- eb,<- eW];refine aP λi j hi hj=>?_
   have:=red (if i<G.n then lf (G:=F) h.swap.n (A*Z i) else lf (G:=G) h.n (B*Y (i-G.n))) j
   refine Eq.trans this ?_
   by_cases c:i<G.n
   ·rw[Jl c,Jl c,mZ,Az h.swap]
    by_cases d:j<G.n
    ·rw[Jl d,Jl d,fZ]
    ·rw[Jk d,Jk d];show(0:Int)=_;omega
   ·rw[Jk c,Jk c,mY,Az h]
    by_cases d:j<G.n
    ·rw[Jl d,Jl d];show(0:Int)=_;omega
    ·rw[Jk d,Jk d,fZ]
  rw[e2,hd,hd'] at e1;have hn1:G.n+F.n=G.n+F.n-1+1:=by omega
  have e3:ρ ^ (G.n+F.n)=ρ ^ (G.n+F.n-1)*ρ:=by
   have:ρ ^ (G.n+F.n)=ρ ^ (G.n+F.n-1+1):=by rw[<- hn1]
   rw[this,Yq]
  refine Int.eq_of_mul_eq_mul_right ρ0 ?_
  rw[<- e1,e3,eρ,W3];have GX:((p:Int) ^ r) ^ (G.n+F.n-1)=(p:Int) ^ ((G.n+F.n-1)*r):=by rw[Zk];exact Int.pow_mul.symm
  rw[GX,Yo,Yo];grind
 ·rw[h.n,zg]
  rw[tW (e':=λi=>e' i+r) G.n λi hi=>by rw[Jl hi],tW (e:=λi=>if G.n+i<G.n then e' (G.n+i)+r else e (G.n+i-G.n)+r) (e':=λi=>e i+r) F.n λi hi=>by rw[Jk (by omega),Zc],xm,xm,<- hDI,<- Vt]
  have:G.n*r+F.n*r=(G.n+F.n-1)*r+r:=by
   have:(G.n+F.n-1+1)*r=G.n*r+F.n*r:=by rw[show G.n+F.n-1+1=G.n+F.n by omega,Zn]
   rw[<- this,Zn];omega
  omega
 ·obtain⟨m1,c1,hm1,h1⟩:=Vs _ _ (hV.map h.rt)
  obtain⟨m2,c2,hm2,h2⟩:=Vu _ _ (hV.map h.swap.rt);refine⟨m1*m2*u,λi=>if i<G.n then m1*c2 i else m2*c1 (i-G.n),j_ hp (j_ hp hm1 hm2) hu,?_⟩
  have b1:zc (Qt M) (m1*(p:Int) ^ E)*lf (G:=G) h.n (B*hm M (lt F) V)=zc (Qt M) ((p:Int) ^ N)*sR F.n (λi=>c1 i*(p:Int) ^ (E-e i)) λi=>lf (G:=G) h.n (B*Y i):=by
   rw[<- JW,<- uT,<- uT];congr 1
   rw[show zc (Qt F) (m1*(p:Int) ^ E)*(B*hm M (lt F) V)=B*(zc (Qt F) (m1*(p:Int) ^ E)*hm M (lt F) V) by grind,h1,<- d8];grind
  have b2:zc (Qt M) (m2*(p:Int) ^ E')*lf (G:=F) h.swap.n (A*hm M (lt G) V)=zc (Qt M) ((p:Int) ^ N)*sR G.n (λi=>c2 i*(p:Int) ^ (E'-e' i)) λi=>lf (G:=F) h.swap.n (A*Z i):=by
   rw[<- JW,<- uT,<- uT];congr 1
   rw[show zc (Qt G) (m2*(p:Int) ^ E')*(A*hm M (lt G) V)=A*(zc (Qt G) (m2*(p:Int) ^ E')*hm M (lt G) V) by grind,h2,<- d8];grind
  have hb:=h.both ρ0 hA hB V;have sc:∀(n:Nat) (k:Int) (x:Vc) (o:Nat->Qt M),zc (Qt M) k*sR n x o=sR n (λi=>k*x i) o:=λn k x o=>by
   induction n with
   | zero=>show _*(0:Qt M)=0;grind
   | succ n ih=>
    show _*(sR n x o+zc (Qt M) (x n)*o n)=sR n _ o+zc (Qt M) (k*x n)*o n
    rw[<- ih,bH];grind
  rw[h.n,B4];have s1:(sR G.n (λi=>(if i<G.n then m1*c2 i else m2*c1 (i-G.n))*(p:Int) ^ (E+E'+r-if i<G.n then e' i+r else e (i-G.n)+r)) λi=>if i<G.n then lf (G:=F) h.swap.n (A*Z i) else lf (G:=G) h.n (B*Y (i-G.n)))=zc (Qt M) (m1*(p:Int) ^ E)*sR G.n (λi=>c2 i*(p:Int) ^ (E'-e' i)) λi=>lf (G:=F) h.swap.n (A*Z i):=by
   rw[sc];refine c_ G.n (λi hi=>?_) λi hi=>by rw[Jl hi]
   rw[Jl hi,Jl hi];have:=(hZ i hi).2
   rw[show E+E'+r-(e' i+r)=E+(E'-e' i) by omega,Yo];grind
  have s2:(sR F.n (λi=>(if G.n+i<G.n then m1*c2 (G.n+i) else m2*c1 (G.n+i-G.n))*(p:Int) ^ (E+E'+r-if G.n+i<G.n then e' (G.n+i)+r else e (G.n+i-G.n)+r)) λi=>if G.n+i<G.n then lf (G:=F) h.swap.n (A*Z (G.n+i)) else lf (G:=G) h.n (B*Y (G.n+i-G.n)))=zc (Qt M) (m2*(p:Int) ^ E')*sR F.n (λi=>c1 i*(p:Int) ^ (E-e i)) λi=>lf (G:=G) h.n (B*Y i):=by
   rw[sc];refine c_ F.n (λi hi=>?_) λi hi=>by rw[Jk (by omega),Zc]
   rw[Jk (by omega),Jk (by omega),Zc]
   have:=(hY i hi).2
   rw[show E+E'+r-(e i+r)=E'+(E-e i) by omega,Yo];grind
  rw[s1,s2];have e4:zc (Qt M) (m1*m2*u*(p:Int) ^ (E+E'+r))=zc (Qt M) (m1*(p:Int) ^ E)*zc (Qt M) (m2*(p:Int) ^ E')*zc (Qt M) ρ:=by
   rw[<- bH,<- bH,eρ,Yo,Yo];congr 1
   grind
  rw[e4,show ∀a b c d:Qt M,a*b*c*d=a*b*(c*d) from λa b c d=>by grind,hb]
  generalize lf (G:=G) h.n (B*hm M (lt F) V)=P at b1 ⊢;generalize lf (G:=F) h.swap.n (A*hm M (lt G) V)=Q at b2 ⊢;grind
end
theorem nO (k:Int):zc (aO Int) k=cst k:=by
 rcases Int.le_total 0 k with y|y
 ·obtain⟨n,rfl⟩:=Zo y
  rw[bZ,DL,<- bZ];rfl
 ·obtain⟨n,e⟩:=Zo (show 0<=-k by omega)
  rw[show k=-(n:Int) by omega,gG,bZ,DL,<- bZ]
  apply aO.ext;funext i
  show -(if i=0 then zc Int (n:Int) else 0)=if i=0 then -(n:Int) else 0
  rw[tV];split <;> omega
section
variable {R:Type} [CommRing R] {y:R}
open Classical in
noncomputable def tv (y:R)(q:aO Int):R:=if h:cO q then Alg.ev h.choose (red R q) y else 0
theorem jY {q:aO Int}{K:Nat}(h:Dg q K):tv y q=Alg.ev K (red R q) y:=by
 have hp:cO q:=⟨K,h⟩;unfold tv;rw[dif_pos hp];exact PV (dh hp.choose_spec) (dh h)
theorem AA {a b:aO Int}(ha:cO a)(hb:cO b):tv y (a+b)=tv y a+tv y b:=by
 obtain⟨m,hm⟩:=ha;obtain⟨n,hn⟩:=hb;have h1:=hm.mono (Wj m n);have h2:=hn.mono (Nat.le_add_left n m);rw[jY h1,jY h2,jY (h1.add h2),vG,tN]
theorem mj {a b:aO Int}(ha:cO a)(hb:cO b):tv y (a*b)=tv y a*tv y b:=by
 obtain⟨m,hm⟩:=ha;obtain⟨n,hn⟩:=hb;rw[jY hm,jY hn,jY (hm.mul hn),sr,wN y n _ (dh hn) m _ (dh hm)]
theorem nQ (k:Int):tv y (cst k)=zc R k:=by
 rw[jY (Dg.cst k)];show zc R (if 0=0 then k else 0)+y*0=_
 rw[Jl rfl];grind
theorem P1:tv y X=y:=by
 rw[jY (show Dg (X:aO Int) 2 from Dg.mon 1 1)]
 show zc R (if 0=1 then 1 else 0)+y*(zc R (if 0+1=1 then 1 else 0)+y*0)=y
 rw[Jk (by decide),Jl rfl,fk,b9];grind
theorem AB {x:aO Int}(hx:cO x):∀(N:Nat) (a:aO Int),cO (Alg.ev N (red (aO Int) a) x)
 | 0,_=>cO.zero
 | N+1,a=>by
  show cO (zc (aO Int) (a.c 0)+x*Alg.ev N (red (aO Int) (tl a)) x)
  rw[nO];exact(cO.cst _).add (hx.mul (AB hx N (tl a)))
theorem B5 {x:aO Int}(hx:cO x):∀(N:Nat) (a:aO Int),tv y (Alg.ev N (red (aO Int) a) x)=Alg.ev N (red R a) (tv y x)
 | 0,_=>by
  show tv y 0=0
  rw[jY (Dg.zero 0)];rfl
 | N+1,a=>by
  show tv y (zc (aO Int) (a.c 0)+x*Alg.ev N (red (aO Int) (tl a)) x)=zc R (a.c 0)+tv y x*Alg.ev N (red R (tl a)) (tv y x)
  rw[nO,AA (cO.cst _) (hx.mul (AB hx N _)),mj hx (AB hx N _),nQ,B5 hx N]
end
structure u7 (M M':Md Int)(a c:Int):Prop where
 n:M.n=M'.n
 aa:a*a=1
 f:∃σ:Int,σ*σ=1/\cst σ*M'.f=Alg.ev (M.n+1) (red (aO Int) M.f) (cst a*X+cst c)
noncomputable def sy (M:Md Int)(a c:Int):Qt M:=zc (Qt M) a*lt M+zc (Qt M) c
section
variable {M M':Md Int} {a c:Int} {p:Nat}
theorem tX (a c:Int):cO (cst a*X+cst c:aO Int):=((cO.cst a).mul cO.X).add (cO.cst c)
theorem F2 {R:Type}[CommRing R]{y:R}:tv y (cst a*X+cst c)=zc R a*y+zc R c:=by
 rw[AA ((cO.cst a).mul cO.X) (cO.cst c),mj (cO.cst a) cO.X,nQ,nQ,P1]
theorem MP {R:Type}[CommRing R]{y:R}:tv y M.f=Alg.ev (M.n+1) (red R M.f) y:=jY M.mon.dg
theorem u7.rt (h:u7 M M' a c):Rt M (sy M' a c):=⟨by
 obtain⟨σ,_,e⟩:=h.f;have:=Jp (tv (lt M')) e
 rw[B5 (tX a c),F2,mj (cO.cst σ) M'.mon.jr,MP,Ax.rt] at this;show Alg.ev _ _ (zc (Qt M') a*lt M'+zc (Qt M') c)=0
 rw[<- this];grind⟩
theorem u7.rt' (h:u7 M M' a c):Rt M' (sy M a (-(a*c))):=⟨by
 obtain⟨σ,s2,e⟩:=h.f;have aa:=h.aa;have e0:zc (Qt M) a*sy M a (-(a*c))+zc (Qt M) c=lt M:=by
  have:zc (Qt M) a*zc (Qt M) a=1:=by rw[<- bH,aa,b9]
  unfold sy;rw[gG,bH];grind
 have:=Jp (tv (sy M a (-(a*c)))) e
 rw[B5 (tX a c),F2,mj (cO.cst σ) M'.mon.jr,MP,nQ,e0,Ax.rt] at this;have s3:zc (Qt M) σ*zc (Qt M) σ=1:=by rw[<- bH,s2,b9]
 generalize Alg.ev (M'.n+1) (red (Qt M) M'.f) (sy M a (-(a*c)))=Z at this ⊢;grind⟩
theorem u7.to (h:u7 M M' a c)(U:Qt M'):hm M (sy M' a c) (hm M' (sy M a (-(a*c))) U)=U:=by
 rw[Sl h.rt];have e0:hm M (sy M' a c) (sy M a (-(a*c)))=lt M':=by
  show hm M _ (zc (Qt M) a*lt M+zc (Qt M) (-(a*c)))=_
  rw[qj,gf,FZ h.rt,uR];have:zc (Qt M') a*zc (Qt M') a=1:=by rw[<- bH,h.aa,b9]
  unfold sy;rw[gG,bH];grind
 rw[e0,F0]
theorem nR (a c:Int):∀k,k<M.n->(sy M a c ^ k).s.c k=a ^ k/\∀j,k<j->(sy M a c ^ k).s.c j=0
 | 0,_=>by
  rw[Alg.aM];refine⟨by show(1:aO Int).c 0=_;rw[BL,Jl rfl,Yu],λj hj=>?_⟩
  show(1:aO Int).c j=_
  rw[BL,Jk (by omega)]
 | k+1,hk=>by
  obtain⟨h1,h2⟩:=nR a c k (by omega)
  have e:∀j,(sy M a c ^ (k+1)).s.c j=a*(if j=0 then 0 else (sy M a c ^ k).s.c (j-1))+c*(sy M a c ^ k).s.c j:=λj=>by
   have e1:sy M a c ^ (k+1)=zc (Qt M) a*(lt M*sy M a c ^ k)+zc (Qt M) c*sy M a c ^ k:=by
    rw[Alg.aH];show _*(zc (Qt M) a*lt M+zc (Qt M) c)=_
    grind
   rw[e1,FA,rX,fZ,fZ,lt_mul];congr 2
   show(if j<M.n then (if j=0 then 0 else (sy M a c ^ k).s.c (j-1))-(sy M a c ^ k).s.c (M.n-1)*M.f.c j else 0)=_
   rw[h2 (M.n-1) (by omega),Y4,Int.sub_zero]
   by_cases d:j<M.n
   ·rw[Jl d]
   ·rw[Jk d,Jk (by omega),h2 (j-1) (by omega)]
  refine⟨by rw[e,Jk (by omega),Wv,h1,h2 _ (by omega),Yq,Zf];omega,λj hj=>by rw[e,Jk (by omega),h2 _ (by omega),h2 _ (by omega)];omega⟩
theorem u7.lead (h:u7 M M' a c){U:Qt M}{i:Nat}(hi:i<M.n)(h0:∀j,i<j->U.s.c j=0):(hm M (sy M' a c) U).s.c i=a ^ i*U.s.c i/\∀j,i<j->(hm M (sy M' a c) U).s.c j=0:=by
 have hn:=h.n;have e:∀j,(hm M (sy M' a c) U).s.c j=aW M.n λl=>U.s.c l*(sy M' a c ^ l).s.c j:=λj=>by
  unfold hm;rw[kQ,gI]
 refine⟨?_,λj hj=>?_⟩
 ·rw[e,lZ (k:=i) hi λl hl hne=>?_,(nR (M:=M') a c i (by omega)).1,Zf]
  by_cases d:l<i
  ·rw[(nR (M:=M') a c l (by omega)).2 i d,Yr]
  ·rw[h0 l (by omega),Y4]
 ·rw[e]
  refine dS λl hl=>?_
  by_cases d:l<j
  ·rw[(nR (M:=M') a c l (by omega)).2 j d,Yr]
  ·rw[h0 l (by omega),Y4]
theorem xq (hp:p∈PR)(aa:a*a=1):¬ (p:Int) ∣ a:=λ⟨k,hk⟩=>mh hp ⟨a*k,by rw[<- aa];grind⟩
theorem Idx.sbs (hp:p∈PR)(h:u7 M M' a c){I:Nat}(hI:Idx M p I):Idx M' p I:=by
 obtain⟨Y,e,D,E,u,hY,hd,hu,hDI,all⟩:=hI.ex;have hn:=h.n;refine⟨λi=>hm M (sy M' a c) (Y i),e,D,E,u*dM M.n λi=>a ^ i,λi hi=>⟨(hY i (by omega)).1.map h.rt,(hY i (by omega)).2⟩,?_,j_ hp hu (DW hp _ λi _=>tU hp (xq hp h.aa) i),by rw[<- hn];exact hDI,λV N hV=>?_⟩
 ·rw[<- hn]
  have e1:L2.det M.n (λi j=>(hm M (sy M' a c) (Y i)).s.c j)=L2.det M.n (gp M.n (λi j=>(Y i).s.c j) λl j=>(sy M' a c ^ l).s.c j):=aP λi j _ _=>by
   unfold hm;rw[kQ,gI];rfl
  rw[e1,dU,hd,jW M.n (λl j=>(sy M' a c ^ l).s.c j) λi j hij hj=>(nR (M:=M') a c i (by omega)).2 j hij,gZ (g:=λi=>a ^ i) λi hi=>(nR (M:=M') a c i (by omega)).1]
  grind
 ·obtain⟨m,k,hm',e1⟩:=all _ _ (hV.map h.rt')
  refine⟨m,k,hm',?_⟩
  have:=Jp (hm M (sy M' a c)) e1
  rw[gf,gf,FY,h.to] at this;rw[<- hn];exact this
theorem u7.ks {R R':Type}[CommRing R][CommRing R']{d d':Nat}{φ:Vc->R}{ip:R}{T:Nat->Vc}{φ':Vc->R'}{Sq:R'}{T':Nat->Vc}(hp:p∈PR)(h:u7 M M' a c)(X:Xr M.f.c M.n p φ ip)(L:uQ M.n p φ ip d T)(X':Xr M'.f.c M'.n p φ' Sq)(L':uQ M'.n p φ' Sq d' T')
  {q:Nat} (hq:M'.n<=p ^ q) (hM:∀a,Ah (Of (gX M'.n φ' Sq d' T')) (nt R' p) (p ^ q) a->Of (gX M'.n φ' Sq d' T') a) {s s':Nat->Nat} (es:∀i,i<M.n->T i i=(p:Int) ^ s i) (es':∀i,i<M'.n->T' i i=(p:Int) ^ s' i) {i:Nat} (hi:i<M.n):d+s' i<=d'+s i:=by
 have hn:=h.n;have p2:=bM hp;obtain⟨c',hc'⟩:=Pb.rows X' hp L' hq hM ((uQ.pb X L hi).map h.rt);obtain⟨h1,h2⟩:=h.lead (U:=qv M (T i)) hi λj hj=>by
  by_cases hj':j<M.n
  ·rw[fB hj',L.st.lX i hi j hj]
  ·exact(qv M (T i)).lt j (by omega)
 rw[fB hi,es i hi] at h1;have z:∀j,i<j->sm M'.n c' T' j=0:=λj hj=>by
  by_cases hj':j<M'.n
  ·have:=hc' j hj'
   rw[h2 j hj,Yr] at this;rcases Int.mul_eq_zero.mp this.symm with w|w
   ·exact Jr w (Wo (by omega))
   ·exact w
  ·exact jB (q:=0) λt ht=>L'.st.lX t ht j (by omega)
 obtain⟨b,eb,_,_⟩:=jt.cut L'.st ⟨c',λj=>rfl⟩ (show i<M'.n by omega) z
 have e2:=hc' i (by omega)
 rw[eb,h1,es' i (by omega)] at e2
 refine w_ hp (tU hp (xq hp h.aa) i) (y:=b) ?_
 rw[Yo,Yo];generalize a ^ i=A at e2 ⊢;grind
end
theorem JY:∀(k:Nat) (a b:aO Int),cK a b k=cv a.c b.c k
 | 0,a,b=>by show a.c 0*b.c 0=0+a.c 0*b.c (0-0);rw[W4];omega
 | k+1,a,b=>by
  show a.c 0*b.c (k+1)+cK (tl a) b k=bO (k+1+1) λi=>a.c i*b.c (k+1-i)
  rw[JY k,kK];congr 1
  exact bJ λi _=>by rw[show k+1-(i+1)=k-i by omega];rfl
theorem DZ {x:Vc}{o:Nat->aO Int}{j:Nat}:∀m,(sR m x o).c j=aW m λl=>x l*(o l).c j
 | 0=>rfl
 | m+1=>by
  show(sR m x o+zc (aO Int) (x m)*o m).c j=_
  rw[rX,DZ m,nO,cQ];rfl
theorem Ss (k j:Nat):((X:aO Int) ^ k).c j=dX k j:=by
 have:=MC (α:=Int) k 1 j
 rw[show(X:aO Int) ^ k*1=(X:aO Int) ^ k by grind] at this
 rw[this];unfold dX;by_cases c:k<=j
 ·rw[Jl c,BL]
  by_cases d:j=k
  ·rw[Jl d,Jl (by omega)]
  ·rw[Jk d,Jk (by omega)]
 ·rw[Jk c,Jk (by omega)]
theorem Vv {M:Md Int}:Alg.ev (M.n+1) (red (aO Int) M.f) X=M.f:=by
 rw[kQ];apply aO.ext;funext j
 rw[DZ,aA (g:=λl=>M.f.c l*dX l j) λl _=>by rw[Ss]]
 by_cases c:j<M.n+1
 ·exact c8 c _
 ·rw[M.mon.dg j (by omega)]
  exact dS λl hl=>by unfold dX;rw[Jk (by omega),Yr]
theorem u7.symm {M M':Md Int}{a c:Int}(h:u7 M M' a c):u7 M' M a (-(a*c)):=by
 obtain⟨σ,s2,e⟩:=h.f;refine⟨h.n.symm,h.aa,σ,s2,?_⟩
 have e1:=Jp (tv (cst a*X+cst (-(a*c)):aO Int)) e;have e0:zc (aO Int) a*(cst a*X+cst (-(a*c)))+zc (aO Int) c=X:=by
  rw[nO,nO];have h1:(cst a*cst a:aO Int)=1:=by rw[<- kN,h.aa,lV]
  have h2:(cst a*cst (-(a*c)):aO Int)=- cst c:=by
   rw[<- kN];have h3:a*-(a*c)=-c:=by have:=h.aa;grind
   rw[h3];apply aO.ext;funext i
   show(if i=0 then -c else 0)=-(if i=0 then c else 0)
   split <;> omega
  grind
 rw[B5 (tX a c),F2,mj (cO.cst σ) M'.mon.jr,MP,nQ,e0,Vv,nO] at e1;have s3:(cst σ*cst σ:aO Int)=1:=by rw[<- kN,s2,lV]
 generalize Alg.ev (M'.n+1) (red (aO Int) M'.f) (cst a*X+cst (-(a*c)))=Z at e1 ⊢;grind
structure FI (f:Fn)(n p:Nat)(I:Int):Prop where
 ex:∃(M:Md Int) (J:Nat),M.f.c=f/\M.n=n/\Idx M p J/\I=(J:Int)
def jE {f:Fn}{n:Nat}(h:Top f n)(hn:1<=n):Md Int:=⟨⟨f⟩,n,⟨h.one,λi hi=>h.top i (by omega)⟩,hn⟩
theorem JZ (c:Int):∀f:List Int,(⟨ao (cP c f)⟩:aO Int)=Alg.ev f.length (red (aO Int) ⟨ao f⟩) (cst 1*X+cst c)
 | []=>by
  apply aO.ext;funext m
  show ao (cP c []) m=0
  rw[Dz]
 | a::r=>by
  show _=zc (aO Int) (ao (a::r) 0)+(cst 1*X+cst c)*Alg.ev r.length (red (aO Int) (tl ⟨ao (a::r)⟩)) (cst 1*X+cst c)
  have e:(tl ⟨ao (a::r)⟩:aO Int)=⟨ao r⟩:=by
   apply aO.ext;funext i
   exact wI a r i
  rw[e,<- JZ c r,nO];apply aO.ext;funext m
  rw[rX,show((cst 1*X+cst c)*(⟨ao (cP c r)⟩:aO Int))=(⟨ao (cP c r)⟩:aO Int)*(cst 1*X+cst c) by grind,RY,JY]
  show ao (cP c (a::r)) m=(if m=0 then a else 0)+cv (ao (cP c r)) _ m
  rw[rS,Int.add_comm];congr 2
  funext k
  show(if k=0 then -(-c) else if k=1 then 1 else 0)=(cst 1*X+cst c:aO Int).c k
  rw[rX,cQ];show _=1*(if k=1 then (1:Int) else 0)+if k=0 then c else 0
  by_cases d:k=0
  ·rw[Jl d,Jl d,Jk (by omega)];omega
  ·rw[Jk d,Jk d];split <;> omega
theorem zh {f:List Int}{n:Nat}{c:Int}(lf:f.length=n+1)(hn:1<=n)(t:Top (ao f) n)(t':Top (ao (cP c f)) n):u7 (jE t hn) (jE t' hn) 1 c:=by
 refine⟨rfl,rfl,1,rfl,?_⟩
 show cst 1*(⟨ao (cP c f)⟩:aO Int)=Alg.ev (n+1) (red (aO Int) ⟨ao f⟩) (cst 1*X+cst c)
 rw[JZ,lf,lV];grind
theorem J1 {M M':Md Int}(h:M.f.c=M'.f.c)(k:M.n=M'.n):M=M':=by
 obtain⟨⟨f⟩,n,a,b⟩:=M;obtain⟨⟨f'⟩,n',a',b'⟩:=M';cases h;cases k;rfl
theorem FI.of {f:Fn}{n p:Nat}{I:Int}(h:FI f n p I)(t:Top f n)(hn:1<=n):∃J:Nat,Idx (jE t hn) p J/\I=(J:Int):=by
 obtain⟨M,J,h1,h2,h3,h4⟩:=h.ex;have e:M=jE t hn:=J1 h1 h2;rw[<- e];exact⟨J,h3,h4⟩
theorem FI.shift {f:List Int}{n p:Nat}{c I:Int}(hp:p∈PR)(lf:f.length=n+1)(hn:1<=n)(t:Top (ao f) n)(t':Top (ao (cP c f)) n)(h:FI (ao f) n p I):FI (ao (cP c f)) n p I:=by
 obtain⟨J,h1,h2⟩:=h.of t hn;exact⟨jE t' hn,J,rfl,rfl,Idx.sbs hp (zh lf hn t t') h1,h2⟩
theorem AD {f g:Fn}{n:Nat}(hn:1<=n)(t:Top f n)(t':Top g n)(h:∀k,k<=n->g k=f k*(-1) ^ (n-k)):u7 (jE t hn) (jE t' hn) (-1) 0:=by
 have sq:∀m:Nat,((-1:Int) ^ m)*(-1) ^ m=1:=λm=>by rw[<- W3];exact W1
 refine⟨rfl,rfl,(-1) ^ n,sq n,?_⟩
 show cst ((-1) ^ n)*(⟨g⟩:aO Int)=Alg.ev (n+1) (red (aO Int) ⟨f⟩) (cst (-1)*X+cst 0)
 rw[kQ];apply aO.ext;funext j
 rw[cQ,DZ];have e:∀l,((cst (-1)*X+cst 0:aO Int) ^ l).c j=(-1) ^ l*dX l j:=λl=>by
  rw[show(cst (-1)*X+cst 0:aO Int)=cst (-1)*X by rw[iT];grind,lU,<- FD,cQ,Ss]
 rw[aA (g:=λl=>(f l*(-1) ^ l)*dX l j) λl _=>by rw[e];grind]
 show(-1) ^ n*g j=_
 by_cases c:j<n+1
 ·rw[c8 c,h j (by omega)]
  have h1:(-1:Int) ^ n=(-1) ^ (n-j)*(-1) ^ j:=by rw[<- Yo,Wk (by omega)]
  have h2:=sq (n-j);rw[h1];generalize (-1:Int) ^ (n-j)=A at*;grind
 ·rw[t'.top j (by omega),Yr]
  exact(dS λl hl=>by unfold dX;rw[Jk (by omega),Yr]).symm
theorem AE {e:Nat->Nat}:∀n,(lv n λj=>(e j:Int)).sum=(tot n e:Int)
 | 0=>rfl
 | n+1=>by
  have:lv (n+1) (λj=>(e j:Int))=lv n (λj=>(e j:Int))++[(e n:Int)]:=by unfold lv;rw[Wy,Yz];rfl
  rw[this,List.sum_append,AE n];show _+((e n:Int)+0)=((tot n e+e n:Nat):Int)
  omega
theorem FI.Vq {f:Fn}{n p h u:Nat}(hp:p∈PR)(hn:1<=n)(t:Top f n)(f0:f 0=0-(u:Int)*((p ^ h:Nat):Int))(fi:∀j,0<j->j<n->f j=0)(g:Nat.gcd h n=1)(u1:1<=u)(u2:u<p):FI f n p (tot n (λd=>d*h / n):Nat):=by
 refine⟨jE t hn,_,rfl,rfl,Idx.Vq (h:=h) (u:=(u:Int)) hp ⟨?_,fi,λa b ha hb x y e=>?_,λz=>?_⟩,rfl⟩
 ·show f 0=_
  rw[f0,Wx];omega
 ·have ha:a<n:=ha
  have hb:b<n:=hb;have e:n*x+h*a=n*y+h*b:=e;have key:∀a b x y,a<n->b<=a->n*x+h*a=n*y+h*b->a=b:=λa b x y ha hab e=>by
   have h1:n ∣ h*(a-b):=⟨y-x,by
    rw[Nat.mul_sub,Nat.mul_sub];have:=Y6 h hab
    omega⟩
   have h2:n ∣ a-b:=(Nat.Coprime.symm g).dvd_of_dvd_mul_left h1;rcases Nat.eq_zero_or_pos (a-b) with z|z
   ·omega
   ·have:=Nat.le_of_dvd z h2;omega
  rcases Nat.le_total b a with q|q
  ·exact key a b x y ha q e
  ·exact(key b a y x hb q e.symm).symm
 ·have:=W6 (by omega) z
  omega
theorem P4 (z:Nat->Int)(n:Nat):det n (Vd z)=dM n λi=>dM i λl=>z i-z l:=by
 have ev1:∀(i:Nat) (x:Int) (N:Nat),i<N->(aW N λk=>pD z i k*x ^ k)=dM i λl=>x-z l:=λi=>by
  induction i with
  | zero=>
   intro x N hN;have e:∀k,pD z 0 k=dX k 0:=λk=>by
    show xp 0 k=_
    unfold xp dX;by_cases c:k=0
    ·rw[Jl c,Jl c.symm]
    ·rw[Jk c,Jk λw=>c w.symm]
   rw[aA (g:=λk=>x ^ k*dX k 0) λk _=>by rw[e];exact Zf _ _,c8 hN,Yu];rfl
  | succ i ih=>
   intro x N hN;obtain⟨N,rfl⟩:∃M,N=M+1:=⟨N-1,by omega⟩
   have e:∀k,pD z (i+1) k=(if 1<=k then pD z i (k-1) else 0)-z i*pD z i k:=λk=>Du (pD z i) (z i) k
   rw[aA (g:=λk=>1*((if 1<=k then pD z i (k-1) else 0)*x ^ k)+(-(z i))*(pD z i k*x ^ k)) λk _=>by rw[e];grind,rQ,ih x (N+1) (by omega),kL]
   have e2:(aW N λk=>(if 1<=k+1 then pD z i (k+1-1) else 0)*x ^ (k+1))=x*aW N λk=>pD z i k*x ^ k:=by
    rw[<- cL];exact aA λk _=>by rw[Jl (by omega),Wv,Yq];grind
   rw[Jk (by omega),e2,ih x N (by omega)]
   show _=(dM i λl=>x-z l)*(x-z i)
   grind
 have e1:det n (gp n (λi k=>pD z i k) (Vd z))=det n λi j=>dM i λl=>z j-z l:=aP λi j hi _=>ev1 i (z j) n hi
 have d1:det n (λi k=>pD z i k)=1:=by
  rw[jW n _ λi j hij _=>(wJ z i).top j hij,gZ (g:=λ_=>1) λi _=>(wJ z i).one]
  have:∀n,dM n (λ_=>(1:Int))=1:=λn=>by
   induction n with
   | zero=>rfl
   | succ n ih=>show dM n _*1=1;rw[ih];rfl
  exact this n
 rw[dU,d1,Zg] at e1;rw[e1];refine rR n _ λi j hj _=>?_
 have:∀i,j<i->(dM i λl=>z j-z l)=0:=λi=>by
  induction i with
  | zero=>intro h;omega
  | succ i ih=>
   intro h;show(dM i λl=>z j-z l)*(z j-z i)=0
   by_cases c:j=i
   ·rw[c];simp
   ·rw[ih (by omega),Y4]
 exact this i hj
theorem zj (g:Nat->Nat->Int):∀n,(dM n λa=>dM (n-1-a) λb=>g a (a+1+b))=dM n λi=>dM i λl=>g l i
 | 0=>rfl
 | n+1=>by
  show(dM n λa=>dM (n+1-1-a) λb=>g a (a+1+b))*(dM (n+1-1-n) λb=>g n (n+1+b))=(dM n λi=>dM i λl=>g l i)*dM n λl=>g l n
  rw[show n+1-1-n=0 by omega,<- zj g n]
  show _*1=_
  rw[Zx];have mul:∀(m:Nat) (x y:Nat->Int),(dM m λa=>x a*y a)=dM m x*dM m y:=λm x y=>by
   induction m with
   | zero=>rfl
   | succ m ih=>show(dM m _)*_=dM m x*x m*(dM m y*y m);rw[ih];grind
  rw[<- mul];exact gZ λa ha=>by
   rw[show n+1-1-a=n-1-a+1 by omega]
   show _*g a (a+1+(n-1-a))=_
   rw[show a+1+(n-1-a)=n by omega]
theorem FI.zeros {f:List Int}{n p J:Nat}{z:Nat->Int}(hp:p∈PR)(hn:1<=n)(lf:f.length=n+1)(t:Top (ao f) n)(hz:∀j,j<n->L2.ev f (z j)=0)(hv:cG (p:Int) (dM n λa=>dM (n-1-a) λb=>z a-z (a+1+b)) J):FI (ao f) n p J:=by
 obtain⟨u,eu,nu⟩:=hv.NB;have neg:∀i,(dM i λl=>z i-z l)=(-1) ^ i*dM i λl=>z l-z i:=λi=>by
  have:∀m,(dM m λl=>z i-z l)=(-1) ^ m*dM m λl=>z l-z i:=λm=>by
   induction m with
   | zero=>rfl
   | succ m ih=>show dM m _*_=_*(dM m _*_);rw[ih,Yq];grind
  exact this i
 obtain⟨σ,s2,e⟩:∃σ:Int,σ*σ=1/\(dM n λi=>dM i λl=>z i-z l)=σ*dM n λi=>dM i λl=>z l-z i:=by
  have sq:∀m:Nat,((-1:Int) ^ m)*(-1) ^ m=1:=λm=>by rw[<- W3];exact W1
  have:∀m,∃σ:Int,σ*σ=1/\(dM m λi=>dM i λl=>z i-z l)=σ*dM m λi=>dM i λl=>z l-z i:=λm=>by
   induction m with
   | zero=>exact⟨1,rfl,rfl⟩
   | succ m ih=>
    obtain⟨σ,s,e⟩:=ih;refine⟨σ*(-1) ^ m,by have:=sq m;grind,?_⟩
    show(dM m λi=>dM i λl=>z i-z l)*(dM m λl=>z m-z l)=_*(dM m (λi=>dM i λl=>z l-z i)*dM m λl=>z l-z m)
    rw[e,neg m];grind
  exact this n
 refine⟨jE t hn,J,rfl,rfl,Idx.zeros (z:=z) hp (λj hj=>⟨?_⟩) (u:=σ*u) ?_ (j_ hp (xq hp s2) nu),rfl⟩
 ·have:=hz j hj
  rw[kQ,As];show(aW (n+1) λi=>ao f i*z j ^ i)=0
  rw[<- this,eH,<- lf];rfl
 ·show det n (Vd z)=_
  rw[P4,e,<- zj,eu];grind
theorem P5 {f:Fn}{n p:Nat}(hp:p∈PR)(hn:1<=n)(t:Top f n){g:Fn}{L:Nat}(hL:L=n)(hg:∀k,g k=((k+1:Nat):Int)*f (k+1))(hd:¬ (p:Int) ∣ det n λi j=>aW L λk=>g k*tk f n (k+i) j):F1 (jE t hn) p:=by
 let D:Qt (jE t hn):=⟨⟨λj=>((j+1:Nat):Int)*f (j+1)⟩,λj (hj:n<=j)=>by show _*f (j+1)=0;rw[t.top (j+1) (by omega),Yr]⟩
 have h0:(det n λi j=>aW L λk=>g k*tk f n (k+i) j)≠0:=λz=>hd (by rw[z];exact⟨0,by simp⟩)
 refine F1.of (D:=D) (β:=sR n (λl=>iU n (λi j=>aW L λk=>g k*tk f n (k+i) j) 0 l) λl=>lt (jE t hn) ^ l) (δ:=det n λi j=>aW L λk=>g k*tk f n (k+i) j) hp rfl ?_ hd
 rw[show ∀a b:Qt (jE t hn),a*b=b*a from λa b=>by grind,d8]
 refine i7 λj hj=>?_
 have hj:j<n:=hj;rw[gI,u6];have e:∀l,(D*lt (jE t hn) ^ l).s.c j=aW L λk=>g k*tk f n (k+l) j:=λl=>by
  have e1:D*lt (jE t hn) ^ l=sR n D.s.c λk=>lt (jE t hn) ^ (k+l):=by
   have:=qi D
   rw[show D*lt (jE t hn) ^ l=lt (jE t hn) ^ l*sR n D.s.c λi=>lt (jE t hn) ^ i by rw[show(sR n D.s.c λi=>lt (jE t hn) ^ i)=D from this.symm];grind,d8]
   exact c_ n (λ_ _=>rfl) λk _=>by rw[Alg.eZ];grind
  rw[e1,gI];rw[hL];exact aA λk _=>by rw[jD,fB hj,hg];rfl
 rw[aA (g:=λl=>iU n (λi j=>aW L λk=>g k*tk f n (k+i) j) 0 l*aW L λk=>g k*tk f n (k+l) j) λl _=>by rw[e]]
 have:=xh h0 (show 0<n by omega) hj
 refine Eq.trans this ?_
 show(det n λi j=>aW L λk=>g k*tk f n (k+i) j)*(if j=0 then 1 else 0)=if j=0 then _ else 0
 split
 ·rw[Zx];rfl
 ·rw[Yr]
theorem B6 (h:Nat):∀n,2*tot n (λi=>h*i)=h*n*(n-1)
 | 0=>by show 2*0=_;simp
 | n+1=>by
  show 2*(tot n _+h*n)=_
  rw[Zi,B6 h n,Wv];cases n with
  | zero=>simp
  | succ n=>rw[Wv];grind
theorem FI.Ay {f g:Fn}{n p h:Nat}(hp:p∈PR)(hn:1<=n)(t:Top f n)(t':Top g n)(hf:∀k,k<=n->f k=g k*((p ^ (h*(n-k)):Nat):Int))(r:F1 (jE t' hn) p):FI f n p (tot n (λi=>h*i):Nat):=
 ⟨jE t hn,_,rfl,rfl,Idx.Ay (G:=jE t' hn) hp rfl (λi hi=>by show f i=_*g i;rw[hf i hi,Wx,Zf];rfl) r,rfl⟩
theorem FI.prod {f g:Fn}{n m p v:Nat}{I J:Int}{L:Nat}(hp:p∈PR)(hn:1<=n)(hm:1<=m)(t:Top f n)(t':Top g m)(tp:Top (cv f g) (n+m))(hf:FI f n p I)(hg:FI g m p J)(hL:m<L)(hv:cG (p:Int) (det n λi j=>aW L λk=>g k*tk f n (k+i) j) v):FI (cv f g) (n+m) p (I+J+v):=by
 obtain⟨I',h1,rfl⟩:=hf.of t hn;obtain⟨J',h2,rfl⟩:=hg.of t' hm;obtain⟨u,eu,nu⟩:=hv.NB;have hfg:cv f g=cv g f:=funext λk=>lN f g k
 have P:yh (jE tp (by omega)) (jE t' hm) (jE t hn):=⟨by show n+m=m+n;omega,by
  apply aO.ext;funext k
  show cv f g k=cK ⟨g⟩ ⟨f⟩ k
  rw[JY,hfg]⟩
 refine⟨jE tp (by omega),I'+J'+v,rfl,rfl,Idx.prod hp P h1 h2 (u:=u) ?_ nu,by omega⟩
 rw[<- eu];refine aP λl j _ hj=>?_
 have hj:j<n:=hj;have e1:Qt.of (jE t hn) (jE t' hm).f=sR L g λk=>lt (jE t hn) ^ k:=by
  have:=qm (N:=jE t hn) ((jE t' hm).mon.dg.mono (show m+1<=L by omega))
  rw[Aw,kQ] at this;exact this.symm
 rw[e1,show ∀a b:Qt (jE t hn),a*b=b*a from λa b=>by grind,d8,gI]
 exact aA λk _=>by rw[<- Alg.eZ,Jd l k,jD,fB hj];rfl
theorem NW {q:aO Int}{a:Int}(hq:cO q)(hd:dr q=cst a):∀(N:Nat) (f:aO Int),Dg f N->dr (tv q f)=cst a*tv q (dr f)
 | 0,f,h=>by
  have e0:tv q (0:aO Int)=0:=by rw[jY (Dg.zero 0)];rfl
  have e1:dr (0:aO Int)=0:=by
   have:=qf (0:Int)
   rw[iT] at this;exact this
  rw[h.Mi,e0,e1,e0];grind
 | N+1,f,h=>by
  have pt:cO (tl f):=⟨N,h.tl⟩;have e:tv q f=cst (f.c 0)+q*tv q (tl f):=by
   have:=Jp (tv q) (split0 f)
   rw[AA (cO.cst _) (cO.X.mul pt),mj cO.X pt,nQ,P1,nO] at this;exact this
  have e2:dr f=tl f+X*dr (tl f):=by
   have:=Jp dr (split0 f)
   rw[wU,qf,MB] at this;rw[this];grind
  rw[e,wU,qf,DJ hq,hd,NW hq hd N (tl f) h.tl,e2,AA pt (cO.X.mul pt.dr),mj cO.X pt.dr,P1];grind
theorem AF:∀k:Nat,nt Int k=(k:Int):=λk=>by rw[<- bZ];rfl
def sL (M:Md Int):Qt M:=⟨dr M.f,Dg.dr M.mon.dg⟩
theorem J2 {M:Md Int}(l:Nat){j:Nat}(hj:j<M.n):(sL M*lt M ^ l).s.c j=aW M.n λk=>(((k+1:Nat):Int)*M.f.c (k+1))*tk M.f.c M.n (k+l) j:=by
 have e1:sL M*lt M ^ l=sR M.n (sL M).s.c λk=>lt M ^ (k+l):=by
  rw[show sL M*lt M ^ l=lt M ^ l*sR M.n (sL M).s.c λi=>lt M ^ i by rw[<- qi (sL M)];grind,d8]
  exact c_ M.n (λ_ _=>rfl) λk _=>by rw[Alg.eZ];grind
 rw[e1,gI];exact aA λk _=>by
  rw[jD,fB hj];show nt Int (k+1)*M.f.c (k+1)*_=_
  rw[AF]
theorem u7.dvd {M M':Md Int}{a c:Int}(h:u7 M M' a c):∃τ:Int,τ*τ=1/\sL M'=zc (Qt M') τ*hm M (sy M' a c) (sL M):=by
 obtain⟨σ,s2,e⟩:=h.f;have aa:=h.aa;have eq:dr (cst a*X+cst c:aO Int)=cst a:=by
  have hX:dr (X:aO Int)=1:=by
   have:=MB (1:aO Int)
   rw[show(X:aO Int)*1=X by grind,show dr (1:aO Int)=0 from qf 1] at this
   rw[this];grind
  rw[wU,qf,Af,hX];grind
 rw[<- MP] at e;have e1:=Jp dr e;rw[Af,NW (tX a c) eq _ _ M.mon.dg] at e1;have e2:=Jp (tv (lt M')) e1;have pd:cO (dr M.f):=⟨_,Dg.dr M.mon.dg⟩;have pd':cO (dr M'.f):=⟨_,Dg.dr M'.mon.dg⟩;have ptv:cO (tv (cst a*X+cst c:aO Int) (dr M.f)):=by
  rw[jY (Dg.dr M.mon.dg)];exact AB (tX a c) _ _
 rw[mj (cO.cst σ) pd',mj (cO.cst a) ptv,nQ,nQ] at e2;have e3:tv (lt M') (tv (cst a*X+cst c:aO Int) (dr M.f))=hm M (sy M' a c) (sL M):=by
  rw[jY (y:=(cst a*X+cst c:aO Int)) (Dg.dr M.mon.dg),B5 (tX a c),F2];rfl
 have e4:tv (lt M') (dr M'.f)=sL M':=by
  rw[jY (Dg.dr M'.mon.dg)];exact F0 (sL M')
 rw[e3,e4] at e2;refine⟨σ*a,by grind,?_⟩
 have s3:zc (Qt M') σ*zc (Qt M') σ=1:=by rw[<- bH,s2,b9]
 rw[bH];grind
theorem u7.PJ {M M':Md Int}{a c:Int}(h:u7 M M' a c):∃ε:Int,ε*ε=1/\(L2.det M'.n λi j=>(sL M'*lt M' ^ i).s.c j)=ε*L2.det M.n λi j=>(sL M*lt M ^ i).s.c j:=by
 obtain⟨τ,t2,e⟩:=h.dvd;have hn:=h.n;have sq:∀(x:Int),x*x=1->∀m:Nat,x ^ m*x ^ m=1:=λx hx m=>by rw[<- W3,hx];exact W1
 have dP:L2.det M.n (λl j=>(sy M' a c ^ l).s.c j)=dM M.n λi=>a ^ i:=by
  rw[jW M.n (λl j=>(sy M' a c ^ l).s.c j) λi j hij hj=>(nR (M:=M') a c i (by omega)).2 j hij]
  exact gZ λi hi=>(nR (M:=M') a c i (by omega)).1
 have p0:(dM M.n λi=>a ^ i)≠0:=by
  have:∀m,(dM m λi=>a ^ i)*(dM m λi=>a ^ i)=1:=λm=>by
   induction m with
   | zero=>rfl
   | succ m ih=>
    have:=sq a h.aa m
    show dM m _*a ^ m*(dM m _*a ^ m)=1
    grind
  intro z;have:=this M.n
  rw[z] at this;cases this
 have em:L2.det M.n (gp M.n (λl j=>(sy M' a c ^ l).s.c j) λi j=>(hm M (sy M' a c) (sL M)*lt M' ^ i).s.c j)=L2.det M.n (gp M.n (λi j=>(sL M*lt M ^ i).s.c j) λl j=>(sy M' a c ^ l).s.c j):=aP λi j hi hj=>by
  have e1:sy M' a c ^ i*hm M (sy M' a c) (sL M)=sR M.n (sy M' a c ^ i).s.c λl=>hm M (sy M' a c) (sL M)*lt M' ^ l:=by
   rw[show sy M' a c ^ i*hm M (sy M' a c) (sL M)=hm M (sy M' a c) (sL M)*sR M'.n (sy M' a c ^ i).s.c λl=>lt M' ^ l by rw[<- qi (sy M' a c ^ i)];grind,d8,hn]
  have e2:sy M' a c ^ i*hm M (sy M' a c) (sL M)=sR M.n (sL M*lt M ^ i).s.c λl=>sy M' a c ^ l:=by
   have:hm M (sy M' a c) (sL M*lt M ^ i)=sR M.n (sL M*lt M ^ i).s.c λl=>sy M' a c ^ l:=by
    unfold hm;rw[kQ]
   rw[<- this,An h.rt,qk h.rt,FZ h.rt];grind
  have e3:=Jp (λZ:Qt M'=>Z.s.c j) (e1.symm.trans e2)
  simp only[gI] at e3
  exact e3
 rw[dU,dU,dP] at em;have e5:L2.det M.n (λi j=>(hm M (sy M' a c) (sL M)*lt M' ^ i).s.c j)=L2.det M.n λi j=>(sL M*lt M ^ i).s.c j:=Za p0 (by rw[em,Zf])
 refine⟨τ ^ M.n,sq τ t2 _,?_⟩
 rw[<- hn,<- e5,<- eW];exact aP λi j _ _=>by
  rw[e,show ∀x y z:Qt M',x*y*z=x*(y*z) from λx y z=>by grind,fZ]
theorem J3 {f g:Fn}{n L:Nat}{a c:Int}(hn:1<=n)(t:Top f n)(t':Top g n)(h:u7 (jE t hn) (jE t' hn) a c)(hL:L=n){u w:Fn}(hu:∀k,u k=((k+1:Nat):Int)*f (k+1))(hw:∀k,w k=((k+1:Nat):Int)*g (k+1)):∃ε:Int,ε*ε=1/\(L2.det n λi j=>aW L λk=>w k*tk g n (k+i) j)=ε*L2.det n λi j=>aW L λk=>u k*tk f n (k+i) j:=by
 obtain⟨ε,e2,e⟩:=h.PJ;refine⟨ε,e2,?_⟩
 have key:∀(f:Fn) (t:Top f n) (u:Fn),(∀k,u k=((k+1:Nat):Int)*f (k+1))->(L2.det n λi j=>aW L λk=>u k*tk f n (k+i) j)=L2.det n λi j=>(sL (jE t hn)*lt (jE t hn) ^ i).s.c j:=λf t u hu=>aP λi j _ hj=>by
  rw[J2 (M:=jE t hn) i hj,hL];exact aA λk _=>by rw[hu];rfl
 rw[key f t u hu,key g t' w hw];exact e
theorem cG.sign {p a ε:Int}{v:Nat}(hp:p≠0)(e:ε*ε=1)(h:cG p a v):cG p (ε*a) v:=by
 obtain⟨m,em,nd⟩:=h.NB;exact cG.of hp (m:=ε*m) (by rw[em];grind) λ⟨k,hk⟩=>nd ⟨ε*k,by grind⟩
theorem Pw.Su {f g:List Int}{n:Nat}(h:Pw 3 f n)(n1:1<=n)(n6:n<=6)(lg:g.length<=7)(bg:∀k,(ao g k).natAbs<=2 ^ 261){R:Nat->Fn}(hR:Rows (ao f) n (ao g) R):∀i j,i<=n->(R i j).natAbs<=2 ^ 1100:=by
 intro i j hi;have bgw:L2.wb (2 ^ 40) (2 ^ 261*(2 ^ 40) ^ 7) (ao g):=λk=>by
  by_cases c:k<g.length
  ·exact Zy (bg k) (Y2 (by decide) (by omega))
  ·rw[bD (by omega)];simp
 refine Ym (GV h.top n1 (W:=2 ^ 40) (by decide) h.wb (λm hm=>bD hm) bgw hR i j) ?_
 have e1:1+2 ^ (3*n)<=2 ^ 19:=by
  have:2 ^ (3*n)<=2 ^ 18:=Y2 (by decide) (by omega)
  omega
 have e2:(1+2 ^ (3*n)) ^ g.length<=(2 ^ 19) ^ 7:=Ym (Z9 e1 _) (Y2 (by decide) lg)
 have e3:(2 ^ 40*(1+2 ^ (3*n))) ^ i<=(2 ^ 59) ^ 6:=by
  refine Ym (Z9 (Y6 _ e1) _) ?_
  rw[<- Z0];exact Y2 (by decide) (by omega)
 refine Ym (Zy (show g.length<=2 ^ 3 by omega) (Zy (Y6 _ e2) e3)) ?_
 have e4:2 ^ 3*(2 ^ 261*(2 ^ 40) ^ 7*(2 ^ 19) ^ 7*(2 ^ 59) ^ 6)=2 ^ (3+(261+40*7+19*7+59*6)):=by
  rw[<- Wu,<- Wu,<- Wu,<- Z0,<- Z0,<- Z0,<- Z0]
 rw[e4];exact Y2 (by decide) (by decide)
theorem Pw.Vw {f:List Int}{n:Nat}(h:Pw 3 f n)(n6:n<=6)(k:Nat):(ao (dl f) k).natAbs<=2 ^ 261:=by
 rw[jX];by_cases c:k+1<n+1
 ·rw[Zq]
  refine Ym (Zy (show((k+1:Nat):Int).natAbs<=2 ^ 3 by omega) (Ym (h.bd (k+1)) (Y2 (n:=2) (by decide) (show(40+3)*n<=258 by omega)))) ?_
  rw[<- Z0];exact Y2 (by decide) (by decide)
 ·rw[h.hi (by omega),Yr];exact Y5 _
theorem J4 {W:Nat}{f g:Fn}:∀N,(∀j,j<N->(g j).natAbs=(f j).natAbs)->sN W N g=sN W N f
 | 0,_=>rfl
 | N+1,h=>by
  show sN W N g+(g N).natAbs*W ^ N=sN W N f+(f N).natAbs*W ^ N
  rw[J4 N λj hj=>h j (by omega),h N (by omega)]
end L2
namespace K62
open PySem L2 Alg
variable {P:F?} {w:H?} {K:bX} {mg:Str->Option l?} {base:O?}
theorem Yk_(l:List Str)(h:Yt l:=by decide +kernel):Yt l:=h
abbrev XR:List Str:=["_law_script","_law_p","_law_f","_law_index","_law_number_here","_law_due","_law_n","_law_contrary"]
abbrev XS:List Str:=["_law_f","_law_number_here","_law_found","_law_step","_law_one"]
abbrev T5:List Str:=["rows","p","many","width","left","place","at","lead_row"]
abbrev XT:List Str:=["rows","p","depth","power","left","told","place","lead"]
abbrev XU:List Str:=["_law_p","_law_n","_law_high","_law_unit","_law_index"]
abbrev XW:List Str:=["_law_f","_law_g","_law_many","_law_one","_law_other"]
abbrev XX:List Str:=["f","p","lattice","depth","told","place","row","lead"]
abbrev XY:List Str:=["table","p","low","ideal","rows","line","row","one"]
abbrev T6:List Str:=["f","p","degree","lattice","depth","found","deeper"]
abbrev Vx:List Str:=["rows","lead","place","power","told","row","often"]
abbrev P6:List Str:=["rows","place","p","power","those","row","back"]
abbrev J5:List Str:=["_law_p","_law_one","_law_other","_law_most"]
abbrev J6:List Str:=["_law_p","_law_n","_law_high","_law_unit"]
abbrev P7:List Str:=["table","p","many","told","reached"]
abbrev J7:List Str:=["_law_cell","_law_most","_law_kind"]
abbrev J8:List Str:=["_law_p","_law_cell","_law_most"]
abbrev J9:List Str:=["_law_p","_law_rest","_law_many"]
abbrev P8:List Str:=["number","more","often","power"]
abbrev P9:List Str:=["table","one","other","p","row"]
abbrev GY:List Str:=["_law_number_here","_law_many"]
abbrev J_:List Str:=["_law_p","_law_g","_law_high"]
abbrev Ka:List Str:=["rows","lead","place","power"]
abbrev D5:List Str:=["row","lead_row","place","p"]
abbrev P_:List Str:=["one","lattice","f","power"]
abbrev GZ:List Str:=["_law_f","_law_number_here"]
abbrev D6:List Str:=["_law_number_here","_law_p"]
abbrev Qa:List Str:=["one","other","factor","p"]
abbrev Kc:List Str:=["rows","place","p","power"]
abbrev Kd:List Str:=["f","one","other","power"]
abbrev Ke:List Str:=["table","one","other","p"]
abbrev AH:List Str:=["width","place","number"]
abbrev G0:List Str:=["_law_one","_law_other"]
abbrev Kf:List Str:=["table","at","divisor"]
abbrev xr:List Str:=["_law_script","_law_k"]
abbrev Kg:List Str:=["table","row","n","p"]
abbrev D7:List Str:=["f","lattice","power"]
abbrev G1:List Str:=["rows","p","depth"]
abbrev Kh:List Str:=["row","place","p"]
abbrev D8:List Str:=["_law_f","_law_p"]
abbrev u9:List Str:=["_law_f","_law_g"]
abbrev AI:List Str:=["numbers","rows"]
abbrev G2:List Str:=["lattice","row"]
abbrev Kl:List Str:=["rows","place"]
abbrev D9:List Str:=["_law_numbers"]
abbrev G3:List Str:=["number","p"]
abbrev D_:List Str:=["f","place"]
abbrev yi:List Str:=["table","p"]
abbrev su:List Str:=["k","p"]
abbrev m8:List Str:=["f","g"]
abbrev jR:List Str:=["f","p"]
abbrev ji:List Str:=["thing"]
abbrev Rq(a:o?):Option V:=j? (.ref a)
abbrev Iq(i:Int):Option V:=j? (.int i)
local macro_rules | `(tactic| walk_at "sc") => `(tactic| exact⟨rfl, rfl, rfl, by decide +kernel, rfl, by decide +kernel, by decide +kernel⟩)
local macro_rules | `(tactic| walk_at "rd") => `(tactic| repeat ((fail_if_success with_reducible refine fV ?_ ?_); first|refine⟨_, rfl, ?_⟩|refine⟨_, _, rfl, rfl, ?_⟩|refine⟨_, _, rfl, rfl, show(_ : Int) ≠ 0 by decide, ?_⟩|refine⟨_, _, rfl, rfl, show mW _ _ from j6 (by decide) (by decide), ?_⟩|refine⟨_, _, rfl, rfl, show mW _ _ from gE (by decide) (by decide), ?_⟩|refine⟨_, _, rfl, rfl, show yP _ _ from(Bd.small (by decide) (by decide)).dv (by decide), ?_⟩|refine⟨_, _, rfl, rfl, show OG _ _ from⟨by decide, by decide, by decide⟩, ?_⟩|refine⟨show(_ : Int) ≠ 0 by decide, ?_⟩|refine⟨show mW _ _ from j6 (by decide) (by decide), ?_⟩|refine⟨show mW _ _ from gE (by decide) (by decide), ?_⟩|refine⟨show yP _ _ from(Bd.small (by decide) (by decide)).dv (by decide), ?_⟩|refine⟨show OG _ _ from⟨by decide, by decide, by decide⟩, ?_⟩|refine⟨show OH _ _ = true from rfl, ?_⟩|refine⟨show isPlain _ = true from rfl, ?_⟩|refine⟨show Jh _ <= K? from a_ rfl, ?_⟩))
def top (i:Nat):Q?:=PySem.Challenge.pw_branchdepth_k62_a_basis_has_the_index.main.body.getD i (.Pass ⟨0,0,0,0⟩)
abbrev qp:Q?:=top 8
theorem B7:aK ji ji (aq qp):=by walk_at "sc"
abbrev qt:Q?:=top 9
theorem B8:aK ["k"] ["k"] (aq qt):=by walk_at "sc"
abbrev jF:Q?:=top 10
theorem gh:aK ["k","n","told","turn"] ["k","n"] (aq jF):=by walk_at "sc"
abbrev nT:Q?:=top 11
theorem jj:aK ["k","p","size"] su (aq nT):=by walk_at "sc"
abbrev ia:Q?:=top 12
theorem sA:aK su su (aq ia):=by walk_at "sc"
abbrev i8:Q?:=top 14
theorem kR:aK ["thing","part"] ji (aq i8):=by walk_at "sc"
abbrev qu:Q?:=top 15
theorem B9:aK ji ji (aq qu):=by walk_at "sc"
abbrev d9:Q?:=top 16
theorem dN:aK ["numbers","many"] ["numbers"] (aq d9):=by walk_at "sc"
abbrev kc:Q?:=top 17
theorem xu:aK D_ D_ (aq kc):=by walk_at "sc"
abbrev mq:Q?:=top 18
theorem eX:aK ["f","g","product","at","one","behind","other"] m8 (aq mq):=by walk_at "sc"
abbrev oQ:Q?:=top 19
theorem Ea:aK ["f"] ["f"] (aq oQ):=by walk_at "sc"
abbrev tY:Q?:=top 20
theorem fC:aK ["f","g","rest","quotient","degree","place","lead","at","part"] m8 (aq tY):=by walk_at "sc"
abbrev i9:Q?:=top 22
theorem ie:aK ["table","at","row"] ["table"] (aq i9):=by walk_at "sc"
abbrev ig:Q?:=top 23
theorem nU:aK ["table","at","divisor","top","others"] Kf (aq ig):=by walk_at "sc"
abbrev kg:Q?:=top 24
theorem dw:aK ["table","rows","sign","lead","at"] ["table"] (aq kg):=by walk_at "sc"
abbrev jZ:Q?:=top 25
theorem fN:aK ["f","g","degree","table","rest","turn"] m8 (aq jZ):=by walk_at "sc"
abbrev jG:Q?:=top 26
theorem i_:aK ["f","degree","told"] ["f"] (aq jG):=by walk_at "sc"
abbrev gq:Q?:=top 31
theorem pL:aK ji ji (aq gq):=by walk_at "sc"
abbrev mw:Q?:=top 32
theorem pU:aK ["f","p","size"] jR (aq mw):=by walk_at "sc"
abbrev gu:Q?:=top 33
theorem jg:aK ["f","p","size"] jR (aq gu):=by walk_at "sc"
abbrev gK:Q?:=top 35
theorem mX:aK ["row","lead_row","place","p","factor"] D5 (aq gK):=by walk_at "sc"
abbrev gi:Q?:=top 36
theorem ir:aK ["row","place","p","back"] Kh (aq gi):=by walk_at "sc"
abbrev mC:Q?:=top 37
theorem kh:aK ["rows","place","at","row"] Kl (aq mC):=by walk_at "sc"
abbrev iV:Q?:=top 38
theorem gD:aK T5 ["rows","p"] (aq iV):=by walk_at "sc"
abbrev tZ:Q?:=top 40
theorem gv:aK ["k","power","one","other","factor","next_factor","quotient"] ["k","power"] (aq tZ):=by walk_at "sc"
abbrev mD:Q?:=top 41
theorem B_:aK AH AH (aq mD):=by walk_at "sc"
abbrev fO:Q?:=top 42
theorem mF:aK P6 Kc (aq fO):=by walk_at "sc"
abbrev kT:Q?:=top 43
theorem jH:aK Vx Ka (aq kT):=by walk_at "sc"
abbrev jk:Q?:=top 44
theorem d_:aK XT G1 (aq jk):=by walk_at "sc"
abbrev iK:Q?:=top 45
theorem eL:aK ["lattice","row","left","told","place","often"] G2 (aq iK):=by walk_at "sc"
abbrev kU:Q?:=top 46
theorem G4:aK AI AI (aq kU):=by walk_at "sc"
abbrev jm:Q?:=top 48
theorem ki:aK ["f","one","other","power","product","rest"] Kd (aq jm):=by walk_at "sc"
abbrev iw:Q?:=top 49
theorem Ca:aK D7 D7 (aq iw):=by walk_at "sc"
abbrev jI:Q?:=top 50
theorem uU:aK P9 Ke (aq jI):=by walk_at "sc"
abbrev qw:Q?:=top 51
theorem j0:aK ["table","row","n","p","told","turn"] Kg (aq qw):=by walk_at "sc"
abbrev nV:Q?:=top 52
theorem ju:aK P7 yi (aq nV):=by walk_at "sc"
abbrev iL:Q?:=top 53
theorem cX:aK XY yi (aq iL):=by walk_at "sc"
abbrev oR:Q?:=top 54
theorem gM:aK T6 jR (aq oR):=by walk_at "sc"
abbrev iM:Q?:=top 55
theorem dB:aK XX jR (aq iM):=by walk_at "sc"
abbrev nW:Q?:=top 57
theorem AJ:aK xr xr (aq nW):=by walk_at "sc"
abbrev qx:Q?:=top 58
theorem fE:aK ["_law_script","_law_k","_law_x","_law_total","_law_j"] xr (aq qx):=by walk_at "sc"
abbrev qy:Q?:=top 59
theorem uV:aK G0 G0 (aq qy):=by walk_at "sc"
abbrev nX:Q?:=top 60
theorem mG:aK ["_law_numbers","_law_many"] D9 (aq nX):=by walk_at "sc"
abbrev t6:Q?:=top 61
theorem mH:aK ["_law_f","_law_g","_law_found","_law_i","_law_j"] u9 (aq t6):=by walk_at "sc"
abbrev sC:Q?:=top 62
theorem oU:aK XW u9 (aq sC):=by walk_at "sc"
abbrev xw:Q?:=top 63
theorem iy:aK ["_law_cell","_law_most","_law_kind","_law_found","_law_many","_law_rest","_law_base","_law_k"] J7 (aq xw):=by walk_at "sc"
abbrev t_:Q?:=top 64
theorem mJ:aK ["_law_number_here","_law_many","_law_found","_law_k"] GY (aq t_):=by walk_at "sc"
abbrev xx:Q?:=top 65
theorem oV:aK ["_law_number_here","_law_p","_law_found"] D6 (aq xx):=by walk_at "sc"
abbrev jn:Q?:=top 66
theorem pV:aK XU J6 (aq jn):=by walk_at "sc"
abbrev ua:Q?:=top 67
theorem cS:aK ["_law_p","_law_rest","_law_many","_law_zeros_here","_law_f","_law_k","_law_number_here","_law_index","_law_i","_law_j"] J9 (aq ua):=by walk_at "sc"
abbrev iN:Q?:=top 68
theorem nY:aK ["_law_p","_law_g","_law_high","_law_n"] J_ (aq iN):=by walk_at "sc"
abbrev oW:Q?:=top 69
theorem iz:aK XS GZ (aq oW):=by walk_at "sc"
abbrev uc:Q?:=top 70
theorem fF:aK ["_law_p","_law_cell","_law_most","_law_n","_law_rest","_law_high","_law_unit","_law_g"] J8 (aq uc):=by walk_at "sc"
abbrev ud:Q?:=top 71
theorem gw:aK ["_law_p","_law_one","_law_other","_law_most","_law_f","_law_index","_law_g","_law_more","_law_both"] J5 (aq ud):=by walk_at "sc"
abbrev AK:Q?:=top 72
theorem MQ:aK D8 D8 (aq AK):=by walk_at "sc"
abbrev pX:Q?:=top 73
theorem nZ:aK XR ["_law_script"] (aq pX):=by walk_at "sc"
structure iY (mg:Str->Option l?):Prop where
 «abs»:mg "abs"=q?
 «bool»:mg "bool"=q?
 «enumerate»:mg "enumerate"=q?
 «int»:mg "int"=q?
 «isinstance»:mg "isinstance"=q?
 «len»:mg "len"=q?
 «list»:mg "list"=q?
 «max»:mg "max"=q?
 «min»:mg "min"=q?
 «range»:mg "range"=q?
 «reversed»:mg "reversed"=q?
 «sum»:mg "sum"=q?
 «zip»:mg "zip"=q?
def ue (K:bX):Sp:=λvs H Q _=>∃(x:V) (T:String),vs=[x]/\LX K H x T/\Q (.bl (decide (T="int"))) H
def AL:Sp:=λvs H Q _=>∃k p:Int,vs=[.int k,.int p]/\k≠0/\2<=p/\p<2 ^ 62/\∀(v:Nat) (m:Int) (r:o?) (H':Hp),aI H H'->k=p ^ v*m->¬ p ∣ m->H' r=j? (.tup [.int v,.int m])->Q (.ref r) H'
def Sw (p k:Int)(x:V):Prop:=(k=0/\x=.fm)\/(k≠0/\∃v:Nat,cG p k v/\x=.int v)
def vH:Sp:=λvs H Q _=>∃k p:Int,vs=[.int k,.int p]/\2<=p/\p<2 ^ 62/\∀(x:V) (H':Hp),aI H H'->Sw p k x->Q x H'
section
theorem Cb (B:iY mg)(F:Src K mg "is_whole" qp ji):b_ P w K mg base 1 "is_whole" ji (ue K):=by
 refine F.ok B7 (λvs H Q E h=>?_) (λf cdv A outer s H vs Q E hr h=>?_)
 ·obtain⟨x,T,rfl,_⟩:=h;rfl
 obtain⟨x,T,rfl,ty,q⟩:=h;refine⟨_,ay (aL (sU (aS (lG (K:=K) rfl) rfl B.isinstance j7 (af (pv 0) (af (zB (v:=.ty "int") rfl B.int OZ rfl) ai))) (sS (Ov (aS (lG (K:=K) rfl) rfl B.isinstance j7 (af (pv 0) (af (zB (v:=.ty "bool") rfl B.bool LY rfl) ai))))))),?_⟩
 cases ty with
 | fm=>exact⟨_,rfl,_,_,"int",false,rfl,.fm,by with_unfolding_all rfl,_,rfl,q⟩
 | bl b=>exact⟨_,rfl,_,_,"int",true,rfl,.bl b,by with_unfolding_all rfl,_,rfl,_,rfl,_,_,"bool",true,rfl,.bl b,rfl,_,rfl,q⟩
 | int i=>exact⟨_,rfl,_,_,"int",true,rfl,.int i,rfl,_,rfl,_,rfl,_,_,"bool",false,rfl,.int i,by with_unfolding_all rfl,_,rfl,q⟩
 | str b=>exact⟨_,rfl,_,_,"int",false,rfl,.str b,by with_unfolding_all rfl,_,rfl,q⟩
 | lst e=>exact⟨_,rfl,_,_,"int",false,rfl,.lst e,by with_unfolding_all rfl,_,rfl,q⟩
 | tup e=>exact⟨_,rfl,_,_,"int",false,rfl,.tup e,by with_unfolding_all rfl,_,rfl,q⟩
theorem AM (F:Src K mg "taken_out" nT su):b_ P w K mg base 1 "taken_out" su AL:=by
  refine F.ok jj (λvs H Q E h=>?_) (λf cdv A outer s H vs Q E hr h=>?_)
  . obtain⟨a,b,rfl,_⟩:=h;rfl
  obtain⟨k,p,rfl,h0,hp,hp2,q⟩:=h;refine⟨_,ah (aD (i:=2) jj.nd rfl (z? rfl) ak)
    (ah (eV D? (aX iP (au bw (pv 0) (pv 1)) ak (bC _))
      (ah (aD (i:=0) jj.nd rfl (z? rfl) (au bK (pv 0) (pv 1)))
      (ay (zF (i:=2) jj.nd rfl (z? rfl) ak zH))))
    (ay (aL (jw (af (pv 2) (af (pv 0) ai)))))),?_⟩
  refine ni (λσ H2=>H2=H/\∃(m:Int) (v:Nat),σ=[j? (.int m),j? (.int p),j? (.int v)]/\m≠0/\k=p ^ v*m) (λσ _=>match σ with|some (.int m)::_=>m.natAbs|_=>0) ?_ ?_ ?_
  . exact⟨rfl,k,0,rfl,h0,by simp⟩
  . rintro σ H2 ⟨rfl,m,v,rfl,hm,hk⟩
    refine⟨_,rfl,_,rfl,_,_,rfl,rfl,show p≠0 by omega,rfl,_,rfl,?_⟩
    refine fV (λc=>?_) (λc=>?_)
    . have c':m.fmod p=0:=V.int.inj (Jn c)
      obtain⟨m',rfl⟩:=(nv (by omega)).mp c'
      have hm':m'≠0:=λz=>hm (by rw[z];simp)
      refine⟨_,rfl,_,rfl,_,_,rfl,rfl,(Bd.small (by omega) (by omega)).dv (by omega),?_⟩
      refine⟨_,rfl,_,_,rfl,rfl,⟨rfl,m',v+1,?_,hm',?_⟩,?_⟩
      . show [j? (V.int ((p*m').fdiv p)),j? (V.int p),j? (V.int ((v:Int)+1))]=_
        rw[lI (show p≠0 by omega)]
        rfl
      . rw[hk,Yq];ac_rfl
      . show((p*m').fdiv p).natAbs<(p*m').natAbs
        rw[lI (show p≠0 by omega),Zq]
        have h2:2<=p.natAbs:=by omega
        have h3:0<m'.natAbs:=by omega
        calc m'.natAbs<2*m'.natAbs:=by omega
          _<=p.natAbs*m'.natAbs:=Yp _ h2
    . have c':¬ p ∣ m:=λz=>c (Jm (Jp V.int ((nv (by omega)).mpr z)))
      refine⟨_,rfl,_,rfl,a_ rfl,λr hr'=>?_⟩
      exact q v m r _ (aB hr' _) hk c' av
  . rintro σ H Q Q' f ⟨v,e,v2,e2,i,j,e3,e4,c,s,k,ek,h⟩
    exact⟨v,e,v2,e2,i,j,e3,e4,c,s,k,ek,f _ _ h⟩
theorem sD (n_:b_ P w K mg base 1 "taken_out" su AL)(F:Src K mg "size_of_number" ia su):b_ P w K mg base 2 "size_of_number" su vH:=by
 refine F.ok sA (λvs H Q E h=>?_) (λf cdv A outer s H vs Q E hr h=>?_)
 ·obtain⟨a,b,rfl,_⟩:=h;rfl
 obtain⟨k,p,rfl,hp,hp2,q⟩:=h;refine⟨_,ah (eT (aX iP (pv 0) ak (bC _))
   (ay (aL sQ))
   (cD))
  (ay (aL (bL (rq (K:=K) rfl) (aF n_ hr (af (pv 0) (af (pv 1) ai))) ak (λ_ _=>rfl)))),?_⟩
 refine⟨_,rfl,rfl,_,rfl,?_⟩
 refine fV (λc=>?_) (λc=>?_)
 ·exact q _ H (aI.refl H) (.inl ⟨V.int.inj (Jn c),rfl⟩)
 ·have h0:k≠0:=λz=>c (Jm (Jp V.int z))
  refine⟨_,rfl,_,rfl,k,p,rfl,h0,hp,hp2,λv m r H' g hk hm e=>?_⟩
  exact⟨_,_,_,_,rfl,rfl,k8.of e,rfl,q _ H' g (.inr ⟨h0,v,cG.of (by omega) hk hm,rfl⟩)⟩
end
section
theorem u_ (B:iY mg)(F:Src K mg "number_power" jF ["k","n"]):b_ P w K mg base 1 "number_power" ["k","n"] wR:=by
 refine F.ok gh (λvs H Q E h=>?_) (λfa cdv A outer s H vs Q E hr h=>?_)
 ·obtain⟨k,n,rfl,_⟩:=h;rfl
 obtain⟨k,n,rfl,hk,hn,q⟩:=h;refine⟨_,ah (aD (i:=2) gh.nd rfl (z? rfl) ak)
  (ah (cU D? rfl (bU rfl B.range (af (pv 1) ai)) (aE (i:=3) gh.nd rfl (z? rfl))
   (ay (aD (i:=2) gh.nd rfl (z? rfl) (au aV (pv 2) (pv 0)))))
  (ay (aL (pv 2)))),?_⟩
 walk_at "rd"
 refine⟨by omega,by omega,?_⟩
 have b:∀i:Nat,i<=100->Bd 640 ((k ^ i:Nat):Int):=λi hi=>by
  show((k ^ i:Nat):Int).natAbs<_
  rw[W8];refine Wb (Z9 (show k<=2 ^ 6 by omega) i) ?_
  rw[<- Wu];exact Wp (by decide) (by omega)
 rw[Yi];refine dO (λi σ H2=>H2=H/\∃o,σ=[j? (.int k),j? (.int n),Iq ((k ^ i:Nat)),o]) ⟨rfl,_,rfl⟩ ?_ ?_
 ·rintro i σ H2 hi ⟨rfl,o,rfl⟩
  refine⟨_,rfl,_,rfl,_,_,rfl,rfl,(b i (by omega)).ok (Bd.small (x:=(k:Int)) (by omega) (by omega)),?_⟩
  have e:((k ^ (i+1):Nat):Int)=((k ^ i:Nat):Int)*(k:Int):=by rw[Zu,Zl]
  rw[e];exact⟨rfl,_,rfl⟩
 ·rintro σ H2 ⟨rfl,o,rfl⟩
  exact⟨_,rfl,q⟩
end
def AN (ls:List (List Int)):Mx:=λi j=>(ls.getD i []).getD j 0
structure T7 (m:Nat)(ts:List LP):Prop where
 len:ts.length=m
 row:∀t∈ts,t.2.length=m
theorem qz {ts:List LP}{i:Nat}(hi:i<ts.length)(j:Nat):AN (lvals ts) i j=ts[i].2.getD j 0:=by
 have:(lvals ts).getD i []=ts[i].2:=by simp[Yb,hi]
 unfold AN;rw[this]
theorem uf {xs:List Int}{j:Nat}(h:j<xs.length):qZ (xs.map V.int) (j:Int)=j? (.int (xs.getD j 0)):=by
 rw[iQ (by omega) (by rw[Ya];omega)]
 simp[Yb,h]
def Km (K:bX):Sp:=λvs H Q _=>∃(p:o?) (ts:List LP),vs=[.ref p]/\C7 H p ts/\(∀t∈ts,0<t.2.length)/\ts.length<=1000/\
 (∀(t:Nat) (H':Hp),aI H H'->t<ts.length->AN (lvals ts) t 0≠0->Q (.int (t:Int)) H')/\∀H',aI H H'->(∀i,i<ts.length->AN (lvals ts) i 0=0)->Q .fm H'
section
theorem ug (B:iY mg)(F:Src K mg "place_of_lead" i9 ["table"]):b_ P w K mg base 1 "place_of_lead" ["table"] (Km K):=by
 refine F.ok ie (λvs H Q E h=>?_) (λf cdv A outer s' H vs Q E hr h=>?_)
 ·obtain⟨p,ts,rfl,_⟩:=h;rfl
 obtain⟨p,ts,rfl,hT,hp,lt,q1,q2⟩:=h;refine⟨_,ah (cU D? rfl (iR (K:=K) rfl rfl B.enumerate (af (pv 0) ai)) (dG (n:=2) (K:=K) rfl rfl (aY (aE (i:=1) ie.nd rfl (z? rfl)) (aY (aE (i:=2) ie.nd rfl (z? rfl)) dD)))
   (ay (eT (aX uI (bL (aJ (K:=K) rfl) (pv 2) ak (λ_ _=>rfl)) ak (bC _))
    (ay (aL (pv 1)))
    (cD))))
  (ay (aL sQ)),?_⟩
 have lrl:(lrefs ts).length=ts.length:=Ya _;refine⟨_,rfl,p,rfl,⟨_,hT.sql⟩,kJ (st:=0) (xs:=lrefs ts) (λi σ H2=>aI H H2/\(∃o1 o2,σ=[Rq p,o1,o2])/\∀j,j<i->AN (lvals ts) j 0=0) ⟨aI.refl _,⟨_,_,rfl⟩,λj hj=>Jr hj (by omega)⟩ (λi σ H2 _ h=>(hT.same h.1).sql) ?_ ?_⟩
 ·rintro i x σ H2 r hx ⟨gg,⟨o1,o2,rfl⟩,hz⟩ hr'
  obtain⟨hi,rfl⟩:=yY hx;have gr:=aB hr' (.tup [.int ((0+i:Nat):Int),.ref ts[i].1]);have g2:=gg.trans gr;have e1:=g2 _ _ (hT.it ts[i] (Y0 _));have a0:=uf (xs:=ts[i].2) (j:=0) (hp ts[i] (Y0 _));have em:=qz hi 0;refine⟨r,_,rfl,k8.of av,rfl,_,_,rfl,_,_,rfl,rfl,?_⟩
  refine⟨_,rfl,ts[i].1,_,_,_,rfl,rfl,aQ.of e1,a0,rfl,_,rfl,?_⟩
  rw[<- em];by_cases c:AN (lvals ts) i 0=0
  ·refine v5 (Jp V.int c) ⟨g2,⟨_,_,rfl⟩,λj hj=>?_⟩
   by_cases e:j=i
   ·rw[e];exact c
   ·exact hz j (by omega)
  ·refine Bu (λz=>c (V.int.inj z)) ⟨_,rfl,?_⟩
   simp only[Jf] at g2 ⊢
   exact q1 i _ g2 hi c
 ·rintro σ H2 ⟨gg,_,hz⟩
  exact q2 H2 gg λi hi=>hz i (by rw[lrl];exact hi)
end
def Lw (ts:List LP)(t m:Nat)(d:Int)(a:Nat):List Int:=(Yk m).map λc=>(Iw (λa c=>AN (lvals ts) (yg t a) c) a c).fdiv d
def Cc (K:bX):Sp:=λvs H Q _=>∃(p:o?) (ts:List LP) (t m:Nat) (d:Int),vs=[.ref p,.int (t:Int),.int d]/\C7 H p ts/\T7 (m+1) ts/\t<m+1/\m<=100/\d≠0/\Bd 9000 d/\(∀i j,i<m+1->j<m+1->Bd 9000 (AN (lvals ts) i j))/\
 ∀(q:o?) (us:List LP) (H':Hp),aI H H'->H q=q?->C7 H' q us->lvals us=(Yk m).map (Lw ts t m d)->Q (.ref q) H'
theorem Eb {xs:List V}{k:Nat}(h:k<=xs.length):iZ xs (j? (k:Int)) q?=xs.drop k:=by
 unfold iZ;have e1:HT.qU xs.length 0 (j? (k:Int))=k:=by rw[HT.lB];omega
 have e2:HT.qU xs.length xs.length q?=xs.length:=rfl;rw[e1,e2,Zz (by rw[Ze];exact Yd _)]
theorem xy {xs:List V}{k:Nat}(h:k<=xs.length):iZ xs q? (j? (k:Int))=xs.take k:=by
 unfold iZ;have e1:HT.qU xs.length 0 q?=0:=rfl;have e2:HT.qU xs.length xs.length (j? (k:Int))=k:=by rw[HT.lB];omega
 rw[e1,e2,Nat.sub_zero,List.drop_zero]
section
theorem Qc {ts:List LP}{t a:Nat}(ht:t<ts.length):(ts.take t++ts.drop (t+1))[a]?=ts[c6 t a]?:=by
 unfold c6;by_cases c:a<t
 ·rw[Jl c,Zd (by rw[Y3];omega),List.getElem?_take,Jl c]
 ·rw[Jk c,Zh (by rw[Y3];omega),Y3,List.getElem?_drop]
  congr 1
  omega
theorem Cd (B:iY mg)(F:Src K mg "lessened" ig Kf):b_ P w K mg base 1 "lessened" Kf (Cc K):=by
 refine F.ok nU (λvs H Q E h=>?_) (λf cdv A outer s' H vs Q E hr h=>?_)
 ·obtain⟨p,ts,t,m,d,rfl,_⟩:=h;rfl
 obtain⟨p,ts,t,m,d,rfl,hT,sq,ht,hm,d0,bd,bT,q⟩:=h;refine⟨_,ah (aD (i:=3) nU.nd rfl (Or.inr rfl) (bL (aJ (K:=K) rfl) (pv 0) (pv 1) (λ_ _=>rfl)))
  (ah (aD (i:=4) nU.nd rfl (z? rfl) (au i6 (fU (fX (K:=K) rfl) (pv 0) iC (iD (pv 1))) (fU (fX (K:=K) rfl) (pv 0) (iD (au b8 (pv 1) ak)) iC)))
  (ay (aL (wM (iF (N:=["row","top","divisor"]) (sl:=[q?,j? 3,j? 2]) "row" (aq ig) ["table","at","divisor","top","others"] rfl rfl (by decide +kernel)) rfl (bN (K:=K) rfl (pv 4)) (λ_ _ _ _ _=>(aE (i:=0) (Yk_ ["row","top","divisor"]) rfl (Or.inr rfl))) (λ_ _ _ _ _=>aU) (λ_ _ _ _ _=>(cA (aG (N:=["place","top","row","divisor"]) (sl:=[q?,j? 1,j? 0,j? 2]) (rT (z6 ((cE ig).getD 2 (.Pass ⟨0,0,0,0⟩))) (aq ig)) ["row","top","divisor"] rfl rfl (by decide +kernel)) rfl (yG rfl B.range (af ak (af (aS (aT (K:=K) rfl) rfl B.len cB (af (pv 0) ai)) ai))) (λ_ _ _ _ _=>(aE (i:=0) (Yk_ ["place","top","row","divisor"]) rfl (z? rfl))) (λ_ _ _ _ _=>aU) (λ_ _ _ _ _=>(au bK (au bY (au aV (bL (aJ (K:=K) rfl) (pv 1) ak (λ_ _=>rfl)) (bL (aJ (K:=K) rfl) (pv 2) (pv 0) (λ_ _=>rfl))) (au aV (bL (aJ (K:=K) rfl) (pv 2) ak (λ_ _=>rfl)) (bL (aJ (K:=K) rfl) (pv 1) (pv 0) (λ_ _=>rfl)))) (pv 3))))))))),?_⟩
 have lrl:(lrefs ts).length=m+1:=by rw[Ya];exact sq.len
 have Vy:t<ts.length:=by rw[sq.len];exact ht
 have MR:qZ (lrefs ts) (t:Int)=j? (.ref ts[t].1):=by
  rw[iQ (by omega) (by rw[lrl];omega)]
  simp
 refine⟨_,rfl,_,rfl,p,_,_,_,rfl,rfl,hT.sql,MR,?_⟩
 walk_at "rd"
 refine⟨p,_,rfl,hT.sql,λp1 n1=>?_⟩
 rw[xy (by rw[lrl];omega)]
 have k1:=aB n1 (.lst ((lrefs ts).take t));refine⟨_,rfl,_,rfl,_,_,rfl,rfl,_,rfl,p,_,rfl,(hT.same k1).sql,λp2 n2=>?_⟩
 rw[show(t:Int)+1=((t+1:Nat):Int) by omega] at*
 rw[Eb (by rw[lrl];omega)] at*
 have k2:=aB n2 (.lst ((lrefs ts).drop (t+1)));refine⟨p1,p2,_,_,rfl,rfl,k2 _ _ av,av,by rw[Y3,Ze,lrl,C?];omega,λp3 n3=>?_⟩
 have k3:=aB n3 (.lst ((lrefs ts).take t++(lrefs ts).drop (t+1)));have e3:=av (H:=L2.upd (L2.upd H p1 (.lst ((lrefs ts).take t))) p2 (.lst ((lrefs ts).drop (t+1)))) (a:=p3) (o:=.lst ((lrefs ts).take t++(lrefs ts).drop (t+1)));have g3:=(k1.trans k2).trans k3;generalize L2.upd (L2.upd (L2.upd H p1 (.lst ((lrefs ts).take t))) p2 (.lst ((lrefs ts).drop (t+1)))) p3 (.lst ((lrefs ts).take t++(lrefs ts).drop (t+1)))=H3 at e3 g3 ⊢;have XZ:(lrefs ts).take t++(lrefs ts).drop (t+1)=lrefs (ts.take t++ts.drop (t+1)):=by simp[lrefs,List.map_take,List.map_drop]
 rw[XZ] at e3;have hos:=λa=>Qc (ts:=ts) (t:=t) (a:=a) Vy
 have X0:(ts.take t++ts.drop (t+1)).length=m:=by rw[Yg,Y3,Ze,sq.len];omega
 generalize ts.take t++ts.drop (t+1)=os at e3 hos X0;clear k1 k2 k3 XZ n1 n2 n3;have MS:=hT.same g3;have X3:(lrefs os).length=m:=by rw[Ya];exact X0
 have et:=MS.it ts[t] (Y0 _);have lt_:=sq.row ts[t] (Y0 _);have X4:=λj=>qz Vy j
 generalize ts[t]=tt at et lt_ X4 MR ⊢;refine⟨_,rfl,p3,rfl,⟨_,aQ.of e3⟩,λD hD=>gY (xs:=lrefs os) (λa ys H4=>aI H3 H4/\∃us:List LP,ys=lrefs us/\(∀u∈us,H4 u.1=j? (.lst (u.2.map V.int))/\u.1≠D)/\lvals us=(Yk a).map (Lw ts t m d)) ⟨aB hD _,[],rfl,λu hu=>by simp at hu,rfl⟩ (λa ys H4 _ h=>aQ.of (h.1 _ _ e3)) (λa m' x ys H4 hm' ha hx hy hlen h=>?_) (λys H4 hy h=>?_)⟩
 ·obtain⟨g4,us,rfl,hu,hv⟩:=h
  obtain⟨ha',rfl⟩:=yY hx;have Vz:c6 t a<ts.length:=by rw[sq.len];exact wB (by omega)
  have eoa:os[a]=ts[c6 t a]:=by
   have:=hos a
   rw[Yc ha',Yc Vz] at this;exact M? this
  rw[eoa];have er:=g4 _ _ (MS.it ts[c6 t a] (Y0 _));have X5:=sq.row ts[c6 t a] (Y0 _);have X6:=λj=>qz Vz j
  generalize ts[c6 t a]=rr at er X5 X6 ⊢;have T8:=g4 _ _ et;have lrr:(rr.2.map V.int).length=m+1:=by rw[Ya];exact X5
  refine⟨_,rfl,rr.1,_,rfl,.inl (aQ.of er),?_⟩
  rw[lrr];refine⟨1,_,rfl,⟨by decide,by decide,by omega,by omega⟩,λD2 AO=>?_⟩
  rw[show((m+1:Nat):Int)-1=(m:Int) by omega,Yi]
  refine jx (λc zs H5=>aI H4 H5/\zs=((Yk c).map λc=>(Iw (λa c=>AN (lvals ts) (yg t a) c) a c).fdiv d).map V.int) ⟨aB AO _,rfl⟩ (λc m2 zs H5 hm2 hc MT hlen2 h2=>?_) (λzs H5 MT h2=>?_)
  ·obtain⟨g5,rfl⟩:=h2
   have X7:=g5 _ _ er;have X8:=g5 _ _ T8;have Sx:=uf (xs:=tt.2) (j:=0) (by omega)
   have X_:=uf (xs:=tt.2) (j:=c+1) (by omega)
   have YA:=uf (xs:=rr.2) (j:=0) (by omega)
   have YB:=uf (xs:=rr.2) (j:=c+1) (by omega)
   rw[<- X4] at Sx X_;rw[<- X6] at YA YB;rw[show(1:Int)+(c:Int)=((c+1:Nat):Int) by omega]
   have Sy:c6 t a<m+1:=by rw[<- sq.len];exact Vz
   have b1:=bT t 0 ht (by omega)
   have b2:=bT (c6 t a) (c+1) Sy (by omega)
   have b3:=bT (c6 t a) 0 Sy (by omega)
   have b4:=bT t (c+1) ht (by omega)
   refine⟨_,rfl,tt.1,_,_,_,rfl,rfl,aQ.of X8,Sx,_,rfl,_,rfl,rr.1,_,_,_,rfl,rfl,aQ.of X7,YB,_,_,rfl,rfl,b1.ok b2,?_⟩
   refine⟨_,rfl,rr.1,_,_,_,rfl,rfl,aQ.of X7,YA,_,rfl,_,rfl,tt.1,_,_,_,rfl,rfl,aQ.of X8,X_,_,_,rfl,rfl,b3.ok b4,?_⟩
   refine⟨_,_,rfl,rfl,_,rfl,_,_,rfl,rfl,bd.dv d0,?_⟩
   refine CW.emit hm2 hc (by rw[C?];omega) MT hlen2 ⟨aI.bE g5 AO _,?_⟩
   rw[Wy,Yz,Yz];rfl
  ·obtain⟨g5,rfl⟩:=h2
   have hyD:=g5 _ _ hy;have T9:D2≠D:=λz=>by rw[z,hy] at AO;cases AO
   refine CW.emit hm' ha (by rw[X3,C?];omega) hyD hlen ⟨aI.bE (g4.trans g5) hD _,us++[(D2,Lw ts t m d a)],by simp[lrefs],λu mu=>?_,?_⟩
   ·rcases List.mem_append.mp mu with y|y
    ·obtain⟨u1,u2⟩:=hu u y
     exact⟨by rw[aN u2];exact g5 _ _ u1,u2⟩
    ·have:u=(D2,Lw ts t m d a):=by simpa using y
     rw[this];exact⟨by rw[aN T9];exact MT,T9⟩
   ·have el:lvals (us++[((D2,Lw ts t m d a):LP)])=lvals us++[Lw ts t m d a]:=by simp[lvals]
    rw[el,Wy,Yz,hv];rfl
 ·obtain⟨g4,us,rfl,hu,hv⟩:=h
  rw[X3] at hv;exact q D us H4 (g3.trans g4) (g3.free hD) ⟨hy,λu mu=>(hu u mu).1⟩ hv
end
theorem Qd {ts us:List LP}{t m:Nat}{d:Int}(h:lvals us=(Yk m).map (Lw ts t m d)):T7 m us/\∀a c,a<m->c<m->AN (lvals us) a c=(Iw (λa c=>AN (lvals ts) (yg t a) c) a c).fdiv d:=by
 have hl:us.length=m:=by have:=Jp Jh h;simpa using this
 refine⟨⟨hl,λu hu=>?_⟩,λa c ha hc=>?_⟩
 ·have:u.2∈lvals us:=List.mem_map_of_mem hu
  rw[h] at this;obtain⟨a,_,e⟩:=List.mem_map.mp this;rw[<- e];simp[Lw]
 ·have e:(lvals us).getD a []=Lw ts t m d a:=by rw[h];simp[Yb,ha]
  show((lvals us).getD a []).getD c 0=_
  rw[e];unfold Lw;rw[Yb,Ye,Y1 hc];rfl
def NX (K:bX):Sp:=λvs H Q _=>∃(p:o?) (ts:List LP) (n E:Nat),vs=[.ref p]/\C7 H p ts/\T7 n ts/\n<=26/\n*(E+5)<9000/\(∀i j,i<n->j<n->(AN (lvals ts) i j).natAbs<=2 ^ E)/\∀H',aI H H'->Q (.int (det n (AN (lvals ts)))) H'
theorem NY {x:Int}{k:Nat}(hk:k<9000)(h:x.natAbs<=2 ^ k):Bd 9000 x:=Wb h (Wp (by decide) hk)
def μd:St->Hp->Nat:=λσ H=>match σ with
 | [_,j? (.ref p),_,_,_]=>match H p with
  | some (.lst xs)=>xs.length
  | _=>0
 | _=>0
section
theorem xA (B:iY mg)(vc:b_ P w K mg base 1 "place_of_lead" ["table"] (Km K))(Ec:b_ P w K mg base 1 "lessened" Kf (Cc K))(F:Src K mg "determinant" kg ["table"]):b_ P w K mg base 2 "determinant" ["table"] (NX K):=by
 refine F.ok dw (λvs H Q E h=>?_) (λf cdv A outer s' H vs Q E hr h=>?_)
 ·obtain⟨p,ts,n,E,rfl,_⟩:=h;rfl
 obtain⟨p0,YC,n,E9,rfl,hT0,sq0,hn,NZ,bA,q⟩:=h;refine⟨_,ah (aD (i:=1) dw.nd rfl (z? rfl) (pv 0))
  (ah (aD (i:=2) dw.nd rfl (z? rfl) ak)
  (ah (aD (i:=3) dw.nd rfl (z? rfl) ak)
  (ah (eV D? (aX (zQ (K:=K) rfl hr.units) (pv 1) (bI ai) (bC _))
   (ah (aD (i:=4) dw.nd rfl (z? rfl) (aF vc hr (af (pv 1) ai)))
   (ah (eT (aX Ny (pv 4) sQ (bC _))
    (ay (aL ak))
    (cD))
   (ah (eT (aX iP (au bw (pv 4) ak) ak (bC _))
    (ay (aD (i:=2) dw.nd rfl (z? rfl) (yH sY (pv 2))))
    (cD))
   (ay (vR (i:=1) (j:=3) rfl dw.nd rfl rfl (by decide) rfl rfl (af (aF Ec hr (af (pv 1) (af (pv 4) (af (pv 3) ai)))) (af (bL (aJ (K:=K) rfl) (bL (aJ (K:=K) rfl) (pv 1) (pv 4) (λ_ _=>rfl)) ak (λ_ _=>rfl)) ai)) rfl))))))
  (ay (aL (au aV (pv 2) (pv 3))))))),?_⟩
 generalize hA:AN (lvals YC)=A0 at bA q;refine⟨_,rfl,?_⟩
 refine jy (λσ H2=>aI H H2/\∃(p:o?) (ts:List LP) (s d:Int) (o:Option V) (m:Nat),σ=[Rq p0,Rq p,j? (.int s),j? (.int d),o]/\C7 H2 p ts/\T7 m ts/\Bd 64 s/\Bd 9000 d/\((∃m' k,m=m'+1/\m+k=n/\Ba A0 n k d (AN (lvals ts)) m s)\/(m=0/\s*d=det n A0))) μd ⟨aI.refl _,p0,YC,1,1,_,n,rfl,hT0,sq0,Bd.small (by decide) (by decide),(Bd.small (by decide) (by decide)).mono (by decide),?_⟩ ?_
 ·cases n with
  | zero=>exact .inr ⟨rfl,rfl⟩
  | succ n'=>exact .inl ⟨n',0,rfl,rfl,hA ▸ Ba.start A0 (n'+1)⟩
 ·rintro σ H2 ⟨g2,p,ts,s,d,o,m,rfl,hT,sq,bs,bd,hB⟩
  refine⟨_,rfl,a_ rfl,λpe MU=>?_⟩
  have ke:=aB MU (.lst []);refine U0 (hT.same ke).den (GH (aQ.of av)) ⟨_,rfl,?_⟩
  rcases hB with ⟨m',k,em,hk,hBa⟩|⟨em,BY⟩
  ·subst em
   have hne:lvals ts≠[]:=λz=>by
    have:=Jp Jh z
    rw[Ya,sq.len] at this;cases this
   have MS:=hT.same ke;have g3:=g2.trans ke;have hmu:μd [Rq p0,Rq p,j? (.int s),j? (.int d),o] H2=m'+1:=by
    show(match H2 p with|some (.lst xs)=>xs.length|_=>0)=m'+1
    rw[hT.top];show(lrefs ts).length=m'+1
    rw[Ya];exact sq.len
   rw[hmu];generalize L2.upd H2 pe (.lst [])=H3 at MS g3;obtain⟨bd',bB⟩:=hBa.Ft (by omega) hk bA
   refine Bu hne (win ?_)
   refine⟨_,rfl,p,ts,rfl,MS,λt ht=>by rw[sq.row t ht];omega,by rw[sq.len];omega,λt H4 g4 ht hnz=>?_,λH4 g4 hz=>?_⟩
   ·have ht':t<m'+1:=by rw[<- sq.len];exact ht
    refine⟨_,rfl,rfl,_,rfl,tu ?_⟩
    have QT:=MS.same g4;apply merge (M:=λσ HM=>HM=H4/\σ=[Rq p0,Rq p,j? (.int (sg t*s)),j? (.int d),Iq (t)])
    case h1=>
     intro key;refine⟨_,rfl,_,_,rfl,rfl,(by decide:(2:Int)≠0),rfl,_,rfl,?_⟩
     have YD:((t:Int)).fmod 2=((t % 2:Nat):Int):=by
      rw[Y8 _ (by decide)];omega
     by_cases c:t % 2=1
     ·have es:sg t*s=-s:=by unfold sg;rw[Jk (by omega)];omega
      refine O1 (by show V.int (((t:Int)).fmod 2)=V.int 1;rw[YD,c];rfl) ⟨_,rfl,_,rfl,key _ _ ⟨rfl,by rw[es];rfl⟩⟩
     ·have es:sg t*s=s:=by unfold sg;rw[Jl (by omega)];omega
      refine O0 (λz=>c (by have z':V.int (((t:Int)).fmod 2)=V.int 1:=z;have:=V.int.inj z';rw[YD] at this;omega)) (key _ _ ⟨rfl,by rw[es];rfl⟩)
    case h2=>
     rintro σ HM ⟨rfl,rfl⟩;refine⟨_,rfl,_,rfl,_,rfl,p,ts,t,m',d,rfl,QT,sq,ht',by omega,hBa.d0,bd,λi j hi hj=>NY NZ (bB i j hi hj),λq1 us H5 g5 n5 hU hv=>?_⟩
     have YE:=QT.same g5;have MR:qZ (lrefs ts) (t:Int)=j? (.ref ts[t].1):=by
      rw[iQ (by omega) (by rw[Ya];omega)]
      simp
     have Sx:=uf (xs:=ts[t].2) (j:=0) (by rw[sq.row _ (Y0 _)];omega)
     rw[<- qz ht] at Sx;refine⟨_,rfl,_,rfl,p,_,_,_,rfl,rfl,YE.sql,MR,ts[t].1,_,_,_,rfl,rfl,aQ.of (YE.it ts[t] (Y0 _)),Sx,_,_,rfl,?_⟩
     obtain⟨YF,QU⟩:=Qd hv;have bs':Bd 64 (sg t*s):=by
      refine Bd.le (y:=s) ?_ bs
      rw[Zq,IA,W2];exact Yd _
     refine⟨⟨((g3.trans g4).trans g5),q1,us,sg t*s,AN (lvals ts) t 0,_,m',rfl,hU,YF,bs',NY NZ (bB t 0 ht' (by omega)),?_⟩,?_⟩
     ·cases m' with
      | zero=>
       have:t=0:=by omega
       subst this;refine .inr ⟨rfl,?_⟩
       have:=hBa.fin
       have e1:sg 0=1:=rfl;rw[e1,Zg];exact this
      | succ m2=>
       refine .inl ⟨m2,k+1,rfl,by omega,hBa.step ht' hnz λa c ha hc=>?_⟩
       obtain⟨qq,e⟩:=hBa.divides ht' hnz ha hc;rw[QU a c ha hc,e,Int.mul_fdiv_cancel_left _ hBa.d0]
     ·show(match H5 q1 with|some (.lst xs)=>xs.length|_=>0)<m'+1
      rw[hU.top];show(lrefs us).length<m'+1
      rw[Ya,YF.len];omega
   ·refine⟨_,rfl,rfl,_,rfl,vZ ?_⟩
    have:=hBa.none λi hi=>hz i (by rw[sq.len];exact hi)
    rw[this] at q;exact q H4 (g3.trans g4)
  ·subst em
   have he:lvals ts=[]:=by
    have:=sq.len
    rw[List.length_eq_zero_iff] at this;rw[this];rfl
   refine v5 he ?_
   refine⟨_,rfl,_,rfl,_,_,rfl,rfl,bs.ok bd,?_⟩
   show Q (.int (s*d)) _
   rw[BY];exact q _ (g2.trans ke)
end
def qA (K:bX):Sp:=λvs H Q _=>∃(a:o?) (f:List Int),vs=[.ref a]/\aQ K H a (f.map V.int)/\f.length<=1000/\O2 H Q (trim f)
def Ed (K:bX):Sp:=λvs H Q _=>∃(a:o?) (f:List Int) (i:Nat),vs=[.ref a,.int i]/\aQ K H a (f.map V.int)/\Q (.int (ao f i)) H
def Kn (K:bX):Sp:=λvs H Q _=>∃(a b:o?) (f g:List Int),vs=[.ref a,.ref b]/\aQ K H a (f.map V.int)/\aQ K H b (g.map V.int)/\f.length<=1000/\g.length<=1000/\gR 1000000 f/\gR 1000000 g/\O2 H Q (dY f g)
theorem AQ {x y:Int}(hx:Bd 1000000 x)(hy:Bd 1000000 y):mW x y:=hx.ok hy
section
theorem jS (B:iY mg)(F:Src K mg "without_noughts_behind" d9 ["numbers"]):b_ P w K mg base 1 "without_noughts_behind" ["numbers"] (qA K):=by
 refine F.ok dN (λvs H Q E h=>?_) (λf cdv A outer s H vs Q E hr h=>?_)
 ·obtain⟨a,f,rfl,_⟩:=h;rfl
 obtain⟨a,f,rfl,hS,hlen,q⟩:=h;refine⟨_,ah (aD (i:=1) dN.nd rfl (z? rfl) (aS (aT (K:=K) rfl) rfl B.len cB (af (pv 0) ai)))
  (ah (eV D? (PW.pt (HH (aX yI (pv 1) ak (bC _)) (E1 (aX iP (bL (aJ (K:=K) rfl) (pv 0) (au bY (pv 1) ak) (λ_ _=>rfl)) ak (bC _)))))
   (ay (zF (i:=1) dN.nd rfl (z? rfl) ak LJ)))
  (ay (aL (fU (fX (K:=K) rfl) (pv 0) iC (iD (pv 1)))))),?_⟩
 refine⟨_,rfl,a,_,rfl,.inl hS,?_⟩
 rw[Ya];have fin:∀(k:Nat) H2,aI H H2->k<=f.length->gU f f.length=gU f k->gU f k=k->aQ K H2 a (f.map V.int)->∀p,H2 p=q?->Q (.ref p) (upd H2 p (.lst (iZ (f.map V.int) q? (j? (k:Int))))):=λk H2 g hk e1 e2 hS2 p hp=>by
  rw[tH f k hk];refine q p _ (g.trans (aB hp _)) (g.free hp) ?_
  unfold trim;rw[e1,e2];exact av
 refine jy (λσ H2=>H2=H/\∃k:Nat,σ=[Rq a,j? (.int k)]/\k<=f.length/\gU f f.length=gU f k) (λσ _=>match σ with | [_,j? (.int k)]=>k.toNat|_=>0) ⟨rfl,f.length,rfl,Yd _,rfl⟩ ?_
 rintro σ H2 ⟨rfl,k,rfl,hk,ht⟩;refine⟨_,rfl,_,_,rfl,rfl,_,rfl,fV (λc=>?_) (λc=>?_)⟩
 ·have c':(0:Int)<k:=Jn c
  obtain⟨m,rfl⟩:∃m,k=m+1:=⟨k-1,by omega⟩
  refine⟨_,rfl,_,rfl,_,_,rfl,rfl,a,_,_,_,rfl,rfl,hS,fL (by omega) (by omega),rfl,_,rfl,?_⟩
  have em:(((m+1:Nat):Int)-1).toNat=m:=by omega
  rw[em];refine fV (λc=>?_) (λc=>?_)
  ·have c2:ao f m=0:=V.int.inj (Jn c)
   refine win ⟨_,rfl,_,_,rfl,rfl,⟨rfl,m,?_,by omega,?_⟩,?_⟩
   ·have e:((m+1:Nat):Int)-1=(m:Int):=by omega
    show [j? (V.ref a),j? (V.int (((m+1:Nat):Int)-1))]=_
    rw[e]
   ·exact ht.trans (by show(if ao f m=0 then gU f m else m+1)=_;rw[Jl c2])
   ·show(((m+1:Nat):Int)-1).toNat<(((m+1:Nat):Int)).toNat
    omega
  ·have c2:ao f m≠0:=λz=>c (Jm (Jp V.int z))
   exact⟨_,rfl,_,rfl,_,rfl,a,_,rfl,hS,fin (m+1) _ (aI.refl _) hk ht (by show(if ao f m=0 then gU f m else m+1)=_;rw[Jk c2]) hS⟩
 ·have c':k=0:=by
   have:¬ (0:Int)<k:=λz=>c (Jm z)
   omega
  subst c';refine tu ?_
  exact⟨_,rfl,_,rfl,_,rfl,a,_,rfl,hS,fin 0 _ (aI.refl _) hk ht rfl hS⟩
end
section
theorem xB (B:iY mg)(F:Src K mg "coefficient" kc D_):b_ P w K mg base 1 "coefficient" D_ (Ed K):=by
 refine F.ok xu (λvs H Q E h=>?_) (λf cdv A outer s H vs Q E hr h=>?_)
 ·obtain⟨a,f,i,rfl,_⟩:=h;rfl
 obtain⟨a,f,i,rfl,hS,q⟩:=h;refine⟨_,ay (aL (vQ (aX E7 (pv 1) (aS (aT (K:=K) rfl) rfl B.len cB (af (pv 0) ai)) (bC _)) (bL (aJ (K:=K) rfl) (pv 0) (pv 1) (λ_ _=>rfl)) ak)),?_⟩
 refine⟨_,rfl,_,rfl,a,_,rfl,.inl hS,_,_,rfl,rfl,_,rfl,?_⟩
 rw[Ya];refine fV (λc=>?_) (λc=>?_)
 ·have c':(i:Int)<(f.length:Nat):=Jn c
  refine⟨_,rfl,_,rfl,a,_,_,_,rfl,rfl,hS,fL (by omega) (by omega),?_⟩
  rw[Yi];exact q
 ·have c':¬ (i:Int)<(f.length:Nat):=λz=>c (Jm z)
  rw[bD (by omega)] at q
  exact q
end
section
theorem yj (B:iY mg)(F:Src K mg "multiplied" mq m8):b_ P w K mg base 1 "multiplied" m8 (Kn K):=by
 refine F.ok eX (λvs H Q E h=>?_) (λf cdv A outer s H vs Q E hr h=>?_)
 ·obtain⟨a,b,f,g,rfl,_⟩:=h;rfl
 obtain⟨a,b,f,g,rfl,ha,hb,lf,lg,bf,bg,q⟩:=h;refine⟨_,ah (eT (PW.pt (E2 (aX (lH (K:=K) rfl hr.units) (pv 0) (bI ai) (bC _)) (zD (aX (lH (K:=K) rfl hr.units) (pv 1) (bI ai) (bC _)))))
   (ay (aL (bI ai)))
   (cD))
  (ah (aD (i:=2) eX.nd rfl (z? rfl) (au s_ (bI (af ak ai)) (au bY (au b8 (aS (aT (K:=K) rfl) rfl B.len cB (af (pv 0) ai)) (aS (aT (K:=K) rfl) rfl B.len cB (af (pv 1) ai))) ak)))
  (ah (cU D? rfl (iR (K:=K) rfl rfl B.enumerate (af (pv 0) ai)) (dG (n:=2) (K:=K) rfl rfl (aY (aE (i:=3) eX.nd rfl (z? rfl)) (aY (aE (i:=4) eX.nd rfl (z? rfl)) dD)))
   (ay (cU D? rfl (iR (K:=K) rfl rfl B.enumerate (af (pv 1) ai)) (dG (n:=2) (K:=K) rfl rfl (aY (aE (i:=5) eX.nd rfl (z? rfl)) (aY (aE (i:=6) eX.nd rfl (z? rfl)) dD)))
    (ay (E3 (pv 2) (au b8 (pv 3) (pv 5)) (yW (K:=K) rfl) (au aV (pv 4) (pv 6)) OB set_list)))))
  (ay (aL (pv 2))))),?_⟩
 have Sz:f=[]\/g=[]->∀H2,aI H H2->∀p,H2 p=q?->Q (.ref p) (upd H2 p (.lst [])):=λhn H2 g2 p hp=>by
  have e:dY f g=[]:=by unfold dY;rw[Jl hn]
  refine q p _ (g2.trans (aB hp _)) (g2.free hp) ?_
  rw[e];exact av
 refine⟨_,rfl,a_ rfl,λp1 n1=>?_⟩
 have g1:=aB n1 (.lst []);refine RQ (xs:=f) (ys:=[]) (g1.seq ha) (aQ.of av) ⟨_,rfl,fV (λc=>?_) (λc=>?_)⟩
 ·refine vZ ?_
  exact⟨a_ rfl,Sz (.inl (Jn c)) _ g1⟩
 have hf:f≠[]:=λz=>c (Jm z)
 refine⟨_,rfl,a_ rfl,λp2 n2=>?_⟩
 have g2:=g1.trans (aB n2 (.lst []));refine RQ (xs:=g) (ys:=[]) (g2.seq hb) (aQ.of av) ⟨_,rfl,fV (λc=>?_) (λc=>?_)⟩
 ·exact⟨a_ rfl,Sz (.inr (Jn c)) _ g2⟩
 have hg:g≠[]:=λz=>c (Jm z)
 have l1:0<f.length:=List.length_pos_iff.mpr hf;have l2:0<g.length:=List.length_pos_iff.mpr hg;refine⟨a_ rfl,λp3 n3=>?_⟩
 have g3:=g2.trans (aB n3 (.lst [.int 0]));refine⟨_,rfl,a,_,rfl,.inl (g3.seq ha),_,rfl,b,_,rfl,.inl (g3.seq hb),?_⟩
 rw[Ya,Ya];have en:((f.length:Int)+(g.length:Int)-1)=((f.length+g.length-1:Nat):Int):=by omega
 refine⟨_,_,rfl,rfl,_,_,rfl,rfl,p3,_,_,rfl,rfl,av,by omega,by omega,?_,λp hp=>?_⟩
 ·rw[C?];show 1*_<=_;omega
 rw[en,Yi,rL];have g4:=g3.trans (aB hp (.lst ((Yn (f.length+g.length-1) (0:Int)).map V.int)));have f4:H p=q?:=g3.free hp;refine⟨_,rfl,a,rfl,⟨_,g4.seq ha⟩,kJ (st:=0) (xs:=f.map V.int) (λi σ H2=>aI H H2/\∃(P:List Int) (o1 o2 o3 o4:Option V),σ=[Rq a,Rq b,Rq p,o1,o2,o3,o4]/\H2 p=j? (.lst (P.map V.int))/\P.length=f.length+g.length-1/\∀m,m<P.length->ao P m=fY f g i m)
  ⟨g4,_,_,_,_,_,rfl,av,by simp,λm hm=>cV _ _⟩ ?_ ?_ ?_⟩
 ·rintro i σ H2 hi ⟨gg,_⟩
  exact gg.seq ha
 ·rintro i x σ H2 r hx ⟨gg,P,o1,o2,o3,o4,rfl,eP,lP,hP⟩ hr'
  obtain⟨fi,QV,rfl⟩:=bh hx;have hi:i<f.length:=(List.getElem?_eq_some_iff.mp QV).1;have YG:ao f i=fi:=rC QV;have gr:=aB hr' (.tup [.int ((0+i:Nat):Int),.int fi]);refine⟨r,_,rfl,k8.of av,rfl,_,_,rfl,_,_,rfl,rfl,?_⟩
  refine⟨_,rfl,b,rfl,⟨_,(gg.trans gr).seq hb⟩,kJ (st:=0) (xs:=g.map V.int) (λj σ H2=>aI H H2/\∃(P:List Int) (o3 o4:Option V),σ=[Rq a,Rq b,Rq p,Iq ((0+i:Nat)),j? (.int fi),o3,o4]/\H2 p=j? (.lst (P.map V.int))/\P.length=f.length+g.length-1/\∀m,m<P.length->ao P m=pR f g i j m)
   ⟨gg.trans gr,P,_,_,rfl,gr _ _ eP,lP,λm hm=>by rw[we];exact hP m hm⟩ ?_ ?_ ?_⟩
  ·rintro j σ H3 hj ⟨gg,_⟩
   exact gg.seq hb
  ·rintro j y σ H3 r2 hy ⟨gg,P,o3,o4,rfl,eP,lP,hP⟩ hr2
   obtain⟨gj,SA,rfl⟩:=bh hy;have hj:j<g.length:=(List.getElem?_eq_some_iff.mp SA).1;have SD:ao g j=gj:=rC SA;have QW:=aB hr2 (.tup [.int ((0+j:Nat):Int),.int gj]);refine⟨r2,_,rfl,k8.of av,rfl,_,_,rfl,_,_,rfl,rfl,?_⟩
   have N1:(((0+i:Nat):Int)+((0+j:Nat):Int))=((i+j:Nat):Int):=by omega
   have hij:i+j<P.length:=by omega
   have YH:=QW _ _ eP;refine⟨_,rfl,_,rfl,_,rfl,_,_,rfl,rfl,p,_,_,.int (ao P (i+j)),rfl,rfl,aQ.of YH,by omega,?_,?_⟩
   ·rw[N1,Yi];exact qd hij
   refine⟨_,rfl,_,rfl,_,_,rfl,rfl,AQ (by rw[<- YG];exact bf.ao i) (by rw[<- SD];exact bg.ao j),_,_,rfl,rfl,p,_,_,i+j,rfl,rfl,YH,?_,?_⟩
   ·rw[N1,Ya];exact zW (by omega) (by omega)
   refine⟨(gg.trans QW).bE f4 _,P.set (i+j) (ao P (i+j)+fi*gj),_,_,rfl,?_,by rw[W7];exact lP,λm hm=>?_⟩
   ·rw[nE];exact av
   ·rw[W7] at hm
    rw[rG hij,wg,hP m hm,<- YG,<- SD];split
    ·rename_i h;subst h;rw[hP _ hm]
    ·rfl
  ·rintro σ H3 ⟨gg,P,o3,o4,rfl,eP,lP,hP⟩
   refine⟨gg,P,_,_,_,_,rfl,eP,lP,λm hm=>?_⟩
   rw[<- yV];have:=hP m hm
   rw[Ya] at this;exact this
 ·rintro σ H2 ⟨gg,P,o1,o2,o3,o4,rfl,eP,lP,hP⟩
  refine⟨_,rfl,q p H2 gg f4 ?_⟩
  have e:P=dY f g:=by
   refine rF ?_ λm hm=>?_
   ·unfold dY;rw[Jk (by rintro (z|z);exact hf z;exact hg z),Ya,Yf];exact lP
   ·rw[oE,hP m hm,Ya];rfl
  rw[<- e];exact eP
end
def N2 (K:bX):Sp:=λvs H Q _=>∃(a:o?) (f:List Int),vs=[.ref a]/\aQ K H a (f.map V.int)/\f.length<=1000/\O2 H Q (dl f)
section
theorem Ef (B:iY mg)(F:Src K mg "derived" oQ ["f"]):b_ P w K mg base 1 "derived" ["f"] (N2 K):=by
 refine F.ok Ea (λvs H Q E h=>?_) (λf cdv A outer s H vs Q E hr h=>?_)
 ·obtain⟨a,f,rfl,_⟩:=h;rfl
 obtain⟨a,f,rfl,ha,lf,q⟩:=h;refine⟨_,ay (aL (fU (fX (K:=K) rfl) (cA (aG (N:=["at","part"]) (sl:=[q?,q?]) (aq oQ) ["f"] rfl rfl (by decide +kernel)) rfl (iR (K:=K) rfl rfl B.enumerate (af (pv 0) ai)) (λ_ _ _ _ _=>(dG (n:=2) (K:=K) rfl rfl (aY (aE (i:=0) (Yk_ ["at","part"]) rfl (z? rfl)) (aY (aE (i:=1) (Yk_ ["at","part"]) rfl (z? rfl)) dD)))) (λ_ _ _ _ _=>aU) (λ_ _ _ _ _=>(au aV (pv 0) (pv 1)))) (iD ak) iC)),?_⟩
 refine⟨_,rfl,a,rfl,⟨_,ha⟩,λD hD=>?_⟩
 refine yS (TM:=0) (xs:=f.map V.int) (λi ys H2=>aI H H2/\ys=((Yk i).map λi:Nat=>(i:Int)*ao f i).map V.int) ⟨aB hD _,rfl⟩ (λi ys H2 _ h=>h.1.seq ha) ?_ ?_
 ·rintro i m x ys H2 r hm hi hx hy hlen ⟨gg,rfl⟩ hr'
  obtain⟨n,hn,rfl⟩:=bh hx;have kr:=aB hr' (.tup [.int ((0+i:Nat):Int),.int n]);rw[Ya] at hi;refine⟨r,_,rfl,k8.of av,rfl,_,_,rfl,_,_,rfl,rfl,?_⟩
  refine⟨_,rfl,_,rfl,_,_,rfl,rfl,gE (by omega) (by omega),?_⟩
  refine CW.emit hm (by rw[Ya];exact hi) (by rw[Ya,C?];omega) (kr _ _ hy) hlen ⟨aI.bE (gg.trans kr) hD _,?_⟩
  rw[Wy,Yz,Yz];have e:((0+i:Nat):Int)=(i:Int):=by omega
  show _++[V.int (((0+i:Nat):Int)*n)]=_++[V.int ((i:Int)*ao f i)]
  rw[e,rC hn]
 ·rintro ys H2 hy ⟨gg,rfl⟩
  rw[Ya] at hy;refine⟨_,rfl,D,_,rfl,aQ.of hy,λp hp=>?_⟩
  refine q p _ (gg.trans (aB hp _)) (gg.free hp) ?_
  rw[av];congr 2
  have e1:iZ (((Yk f.length).map λi:Nat=>(i:Int)*ao f i).map V.int) (j? 1) q?=(((Yk f.length).map λi:Nat=>(i:Int)*ao f i).drop 1).map V.int:=by
   unfold iZ;have h1:HT.qU (((Yk f.length).map λi:Nat=>(i:Int)*ao f i).map V.int).length 0 (j? 1)=min 1 f.length:=by
    have:=HT.lB (((Yk f.length).map λi:Nat=>(i:Int)*ao f i).map V.int).length 0 1
    rw[Ya,Ya,Yf] at this ⊢;exact this
   have h2:HT.qU (((Yk f.length).map λi:Nat=>(i:Int)*ao f i).map V.int).length (((Yk f.length).map λi:Nat=>(i:Int)*ao f i).map V.int).length q?=f.length:=by
    rw[Ya,Ya,Yf];rfl
   rw[h1,h2,Zz (by rw[Ze,Ya,Ya,Yf];exact Yd _)]
   by_cases hz:f.length=0
   ·rw[hz];rfl
   ·rw[Nat.min_eq_left (by omega),List.map_drop]
  rw[e1];congr 1
  refine rF ?_ λi hi=>?_
  ·unfold dl;rw[Ze,Ya,Yf,Ya,Yf]
  ·rw[Ze,Ya,Yf] at hi
   rw[jX,fh (by rw[Ze,Ya,Yf];exact hi)]
   simp
end
def SE (H:Hp)(Q:VK)(q r:List Int):Prop:=∀t a b H',aI H H'->H a=q?->H b=q?->a≠b->H' t=j? (.tup [.ref a,.ref b])->H' a=j? (.lst (q.map V.int))->H' b=j? (.lst (r.map V.int))->Q (.ref t) H'
inductive Ko (K:bX)(vs:List V)(H:Hp)(Q:VK)(Ce:XK):Prop where
 | mk (a b:o?) (f g:List Int) (m n:Nat) (Ci:vs=[.ref a,.ref b]) (Cj:aQ K H a (f.map V.int)) (Ck:aQ K H b (g.map V.int)) (Cm:f.length<=1000) (Cn:g.length<=1000) (Co:b7 g) (Cq:gR m f) (C9:gR n g) (Eg:m+f.length*(n+2)<=1000000) (HE:∀q r,wu f g q r->gR (m+f.length*(n+2)) q->gR (m+f.length*(n+2)) r->SE H Q q r)
section
theorem Eh (B:iY mg)(cT:b_ P w K mg base 1 "without_noughts_behind" ["numbers"] (qA K))(F:Src K mg "divided" tY m8):b_ P w K mg base 2 "divided" m8 (Ko K):=by
 refine F.ok fC (λvs H Q E h=>?_) (λf cdv A outer s H vs Q E hr h=>?_)
 ·obtain⟨a,b,f,g,m,n,rfl,_⟩:=h;rfl
 obtain⟨a,b,f,g,mB,nB,rfl,ha,hb,lf,lg,hg,bf,bg,hB,q⟩:=h;have Xw:0<g.length:=List.length_pos_iff.mpr hg.1;refine⟨_,ah (aD (i:=2) fC.nd rfl (z? rfl) (sZ lC rfl B.list vp (af (pv 0) ai)))
  (ah (aD (i:=3) fC.nd rfl (z? rfl) (bI ai))
  (ah (aD (i:=4) fC.nd rfl (z? rfl) (au bY (aS (aT (K:=K) rfl) rfl B.len cB (af (pv 1) ai)) ak))
  (ah (cU D? rfl (zT rfl B.reversed (af (v_ rfl B.range (af (au bY (aS (aT (K:=K) rfl) rfl B.len cB (af (pv 0) ai)) (pv 4)) ai)) ai)) (aE (i:=5) fC.nd rfl (z? rfl))
   (ah (aD (i:=6) fC.nd rfl (z? rfl) (bL (aJ (K:=K) rfl) (pv 2) (au b8 (pv 5) (pv 4)) (λ_ _=>rfl)))
   (ah (fH (q9 R? F! G! eB (pv 3) (af (pv 6) ai)))
   (ay (cU D? rfl (iR (K:=K) rfl rfl B.enumerate (af (pv 1) ai)) (dG (n:=2) (K:=K) rfl rfl (aY (aE (i:=7) fC.nd rfl (z? rfl)) (aY (aE (i:=8) fC.nd rfl (z? rfl)) dD)))
    (ay (E3 (pv 2) (au b8 (pv 5) (pv 7)) (yW (K:=K) rfl) (au aV (pv 6) (pv 8)) OC set_list)))))))
  (ah (fH (Dh R? PySem.F.slot_list_reverse PySem.F.type_list_reverse pZ (pv 3) ))
  (ay (aL (jw (af (pv 3) (af (aF cT hr (af (pv 2) ai)) ai))))))))),?_⟩
 refine⟨_,rfl,a,_,rfl,.inl ha,λp1 n1=>?_⟩
 have k1:=aB n1 (.lst (f.map V.int));refine⟨a_ rfl,λp2 n2=>?_⟩
 have k2:=aB n2 (.lst []);have g2:=k1.trans k2;have f2:H p2=q?:=k1.free n2;have hne:p1≠p2:=bG av n2;refine⟨_,rfl,b,_,rfl,.inl (g2.seq hb),_,_,rfl,rfl,?_⟩
 rw[Ya];refine⟨_,rfl,a,_,rfl,.inl (g2.seq ha),?_⟩
 rw[Ya];refine⟨_,rfl,_,_,rfl,rfl,_,rfl,λp3 n3=>?_⟩
 have k3:=aB n3 (.sO 0 ((f.length:Int)-((g.length:Int)-1)));have g3:=g2.trans k3;obtain⟨N,hN⟩:∃N,N=f.length-(g.length-1):=⟨_,rfl⟩;have eN:((f.length:Int)-((g.length:Int)-1)).toNat=N:=by omega
 refine⟨p3,_,rfl,av,by omega,by omega,?_⟩
 rw[eN];refine wc (λi σ H2=>aI H H2/\∃(Qr R:List Int) (o1 o2 o3 o4:Option V),σ=[Rq a,Rq b,Rq p1,Rq p2,j? (.int ((g.length:Int)-1)),o1,o2,o3,o4]/\H2 p2=j? (.lst (Qr.map V.int))/\H2 p1=j? (.lst (R.map V.int))/\yX f g N i Qr R/\gR (mB+i*(nB+2)) R/\gR (mB+i*(nB+2)) Qr)
  ⟨g3,[],f,_,_,_,_,rfl,k3 _ _ av,k3 _ _ (k2 _ _ av),⟨rfl,rfl,λm hm=>?_,λm h1 h2=>by omega,λh=>Jr h (by decide)⟩,bf.mono (by omega),λx hx=>by simp at hx⟩ ?_ ?_
 ·have hz:conv (Lv N 0 []) g m=0:=by
   rw[wm (f':=[]) (g':=g) (λa=>?_) (λ_=>rfl)]
   ·rfl
   ·unfold Lv
    rw[List.reverse_nil,List.append_nil,cV,iS]
  rw[hz];omega
 ·rintro i σ H2 hi ⟨gg,Qr,R,o1,o2,o3,o4,rfl,eQ,eR,D,bR,bQ⟩
  have lr:=D.lr;have lq:=D.lq;have hN1:N<=f.length:=by omega
  have et:((f.length:Int)-((g.length:Int)-1)-1-(i:Int))=((N-1-i:Nat):Int):=by omega
  rw[et];have ep:(((N-1-i:Nat):Int)+((g.length:Int)-1))=((N-1-i+(g.length-1):Nat):Int):=by omega
  refine⟨_,rfl,_,rfl,_,rfl,_,_,rfl,rfl,p1,_,_,_,rfl,rfl,aQ.of eR,fL (by omega) (by omega),?_⟩
  rw[ep,Yi];generalize wW:ao R (N-1-i+(g.length-1))=lead;have Kp:Bd (mB+i*(nB+2)) lead:=wW ▸ bR.ao _;refine⟨_,rfl,.inl ⟨rfl,_,aQ.of eQ⟩,_,rfl,p2,_,_,rfl,rfl,eQ,by rw[Ya,C?];omega,?_⟩
  have g4:aI H (upd H2 p2 (.lst (Qr.map V.int++[V.int lead]))):=gg.bE f2 _;have hR4:upd H2 p2 (.lst (Qr.map V.int++[V.int lead])) p1=j? (.lst (R.map V.int)):=by rw[aN hne];exact eR
  have hmul:(i+1)*(nB+2)=i*(nB+2)+(nB+2):=by rw[Zn,W2]
  have hle:(i+1)*(nB+2)<=f.length*(nB+2):=Yp _ (by omega)
  refine⟨_,rfl,b,rfl,⟨_,g4.seq hb⟩,kJ (st:=0) (xs:=g.map V.int) (λj σ H3=>aI H H3/\∃(R':List Int) (o3 o4:Option V),σ=[Rq a,Rq b,Rq p1,Rq p2,j? (.int ((g.length:Int)-1)),Iq ((N-1-i:Nat)),j? (.int lead),o3,o4]/\H3 p2=j? (.lst ((Qr++[lead]).map V.int))/\H3 p1=j? (.lst (R'.map V.int))/\NF g R R' (N-1-i) lead j/\gR (mB+(i+1)*(nB+2)) R')
   ⟨g4,R,_,_,rfl,by rw[<- rM];exact av,hR4,NF.start ..,bR.mono (by omega)⟩ ?_ ?_ ?_⟩
  ·rintro j σ H3 hj ⟨gg,_⟩
   exact gg.seq hb
  ·rintro j y σ H3 r2 hy ⟨gg,R',o3,o4,rfl,VA,VB,hR,VC⟩ hr2
   obtain⟨gj,SA,rfl⟩:=bh hy;have hj:j<g.length:=(List.getElem?_eq_some_iff.mp SA).1;have SD:ao g j=gj:=rC SA;have QW:=aB hr2 (.tup [.int ((0+j:Nat):Int),.int gj]);refine⟨r2,_,rfl,k8.of av,rfl,_,_,rfl,_,_,rfl,rfl,?_⟩
   have N1:(((N-1-i:Nat):Int)+((0+j:Nat):Int))=((N-1-i+j:Nat):Int):=by omega
   have hij:N-1-i+j<R.length:=by omega
   have SG:N-1-i+j<R'.length:=by rw[hR.1];exact hij
   have YI:=QW _ _ VB;have YJ:Bd nB gj:=SD ▸ bg.ao j;refine⟨_,rfl,_,rfl,_,rfl,_,_,rfl,rfl,p1,_,_,.int (ao R' (N-1-i+j)),rfl,rfl,aQ.of YI,by omega,?_,?_⟩
   ·rw[N1,Yi];exact qd SG
   refine⟨_,rfl,_,rfl,_,_,rfl,rfl,AQ (Kp.mono (by omega)) (YJ.mono (by omega)),_,_,rfl,rfl,p1,_,_,N-1-i+j,rfl,rfl,YI,?_,?_⟩
   ·rw[N1,Ya];exact zW (by omega) (by omega)
   have hstep:=hR.step (t:=N-1-i) hij;rw[SD] at hstep;refine⟨(gg.trans QW).bE n1 _,R'.set (N-1-i+j) (ao R' (N-1-i+j)-lead*gj),_,_,rfl,?_,?_,hstep,zV λm hm=>?_⟩
   ·rw[aN (Ne.symm hne)];exact QW _ _ VA
   ·rw[nE];exact av
   ·rw[rG SG]
    split
    ·have hmR:N-1-i+j<R.length:=hij
     have e1:=hR.2 (N-1-i+j) hmR;rw[Jk (by omega)] at e1
     rw[e1];have b1:Bd (mB+i*(nB+2)) (ao R (N-1-i+j)-0):=by rw[Int.sub_zero];exact bR.ao _
     exact(b1.sub (Kp.mul YJ)).mono (by omega)
    ·exact VC.ao m
  ·rintro σ H3 ⟨gg,R',o3,o4,rfl,VA,VB,hR,VC⟩
   rw[Ya] at hR;rw[<- wW] at hR;refine⟨gg,Qr++[lead],R',_,_,_,_,rfl,VA,VB,?_,VC,(bQ.mono (by omega)).snoc (Kp.mono (by omega))⟩
   have:=D.next hg hN hi hR
   rw[wW] at this;exact this
 ·rintro σ H2 ⟨gg,Qr,R,o1,o2,o3,o4,rfl,eQ,eR,D,bR,bQ⟩
  have lr:=D.lr;have hle:N*(nB+2)<=f.length*(nB+2):=Yp _ (by omega)
  refine⟨_,rfl,.inl ⟨rfl,_,aQ.of eQ⟩,p2,_,rfl,rfl,eQ,?_⟩
  have hrv:(Qr.map V.int).reverse=Qr.reverse.map V.int:=by rw[List.map_reverse]
  rw[hrv];have g5:aI H (upd H2 p2 (.lst (Qr.reverse.map V.int))):=gg.bE f2 _;have hR5:upd H2 p2 (.lst (Qr.reverse.map V.int)) p1=j? (.lst (R.map V.int)):=by rw[aN hne];exact eR
  refine⟨_,rfl,_,rfl,p1,R,rfl,aQ.of hR5,by omega,λp6 H6 g6 n6 e6=>⟨a_ rfl,λp7 n7=>?_⟩⟩
  have k7:=aB n7 (.tup [.ref p2,.ref p6]);have e2:=g6 _ _ (show upd H2 p2 (.lst (Qr.reverse.map V.int)) p2=j? (.lst (Qr.reverse.map V.int)) from av)
  refine q Qr.reverse (trim R) (D.done hg hN) (λx hx=>(bQ x (List.mem_reverse.mp hx)).mono (by omega)) (bR.trim.mono (by omega)) p7 p2 p6 _ ((g5.trans g6).trans k7) f2 (g5.free n6) ?_ av (k7 _ _ e2) (k7 _ _ e6)
  exact bG (show upd H2 p2 (.lst (Qr.reverse.map V.int)) p2=j? (.lst (Qr.reverse.map V.int)) from av) n6
end
def rr (f:Fn)(n:Nat)(g:Fn)(L:Nat):Nat->Fn:=λi c=>aW L λk=>g k*tk f n (k+i) c
theorem MV {f:Fn}{n:Nat}(hf:Top f n)(hn:1<=n)(k:Nat):lO f n (cv (xp 1) (tk f n k)) (tk f n (k+1)):=by
 refine⟨⟨λi=>if i=0 then tk f n k (n-1) else 0,1,λm hm=>Jk (by omega),λm=>?_⟩,wK hf hn (k+1)⟩
 have e1:cv (λi=>if i=0 then tk f n k (n-1) else 0) f m=tk f n k (n-1)*f m:=vt (Jl rfl) (λi hi=>Jk (by omega)) m
 rw[e1,je];show _=_+((if m=0 then 0 else tk f n k (m-1))-tk f n k (n-1)*f m)
 by_cases c:1<=m
 ·rw[Jl c,Jk (by omega)];omega
 ·rw[Jk c,Jl (by omega)];omega
theorem vI {f:Fn}{n:Nat}(hf:Top f n)(hn:1<=n){g:Fn}{L:Nat}(hg:∀m,L<=m->g m=0):Rows f n g (rr f n g L):=by
 refine⟨?_,λi=>?_⟩
 ·have e:g=λc=>aW L λk=>g k*xp (k+0) c:=by
   funext c
   rw[eH];by_cases y:c<L
   ·rw[jz (k:=c) y λk hk hne=>by unfold xp;rw[Jk (by omega),Yr]]
    unfold xp;rw[Jl (by omega),Zx]
   ·rw[hg _ (by omega),cN λk hk=>by unfold xp;rw[Jk (by omega),Yr]]
  have:=lO.sum (f:=f) (n:=n) (u:=λk=>xp (k+0)) (r:=λk=>tk f n (k+0)) g L λk _=>Dv hf hn (k+0)
  rw[<- e] at this;exact this
 ·have e:cv (xp 1) (rr f n g L i)=λc=>aW L λk=>g k*cv (xp 1) (tk f n (k+i)) c:=by
   funext c
   rw[je];by_cases z:1<=c
   ·rw[Jl z]
    exact aA λk hk=>by rw[je,Jl z]
   ·rw[Jk z]
    exact(dS λk hk=>by rw[je,Jk z,Yr]).symm
  rw[e];exact lO.sum g L λk _=>MV hf hn (k+i)
theorem wu.VD {u f q r:List Int}{n:Nat}(hl:f.length=n+1)(h:wu u f q r):lO (ao f) n (ao u) (ao r):=
 ⟨⟨ao q,q.length,λm hm=>bD hm,λm=>by rw[h.eq m,Ff]⟩,λm hm=>bD (by have:=h.len;omega)⟩
theorem xC {f:List Int}{n:Nat}(hl:f.length=n+1)(hm:b7 f):Top (ao f) n:=⟨by have:=hm.2;rw[hl] at this;exact this,λm h=>bD (by omega)⟩
theorem Qe:ao [0,1]=xp 1:=by
 funext m
 match m with
 | 0=>rfl
 | 1=>rfl
 | m+2=>rw[bD (by show 2<=_;omega)];unfold xp;rw[Jk (by omega)]
inductive Kq (K:bX)(vs:List V)(H:Hp)(Q:VK)(Ce:XK):Prop where
 | mk (a b:o?) (f g:List Int) (n E:Nat) (Ci:vs=[.ref a,.ref b]) (Cj:aQ K H a (f.map V.int)) (Ck:aQ K H b (g.map V.int)) (Cm:f.length=n+1) (Cn:1<=n) (Co:n<=26) (Cq:g.length<=60) (C9:b7 f) (Eg:Norm g) (HE:gR 5000 f) (yk:gR 5000 g) (Cr:E<=9000) (Kr:n*(E+5)<9000) (SH:(∀i j,i<=n->(rr (ao f) n (ao g) g.length i j).natAbs<=2 ^ E)) (VE:∀H',aI H H'->Q (.int (det n λi j=>rr (ao f) n (ao g) g.length i j)) H')
section
theorem AR (B:iY mg)(kj:b_ P w K mg base 1 "coefficient" D_ (Ed K))(mK:b_ P w K mg base 1 "multiplied" m8 (Kn K))(oX:b_ P w K mg base 2 "divided" m8 (Ko K))(yl:b_ P w K mg base 2 "determinant" ["table"] (NX K))(F:Src K mg "resultant" jZ m8):b_ P w K mg base 3 "resultant" m8 (Kq K):=by
 refine F.ok fN (λvs H Q E h=>?_) (λfa cdv A outer s H vs Q E hr h=>?_)
 ·obtain⟨a,b,f,g,n,E,rfl,_⟩:=h;rfl
 obtain⟨a,b,f,g,n,E9,rfl,ha,hb,lf,hn1,hn,lg,mf,ng,bf,bg,hE,NZ,bR,q⟩:=h;have hf:=xC lf mf;have hR:=vI hf hn1 (g:=ao g) (L:=g.length) λm hm=>bD hm
 generalize hrr:rr (ao f) n (ao g) g.length=R at hR bR q;refine⟨_,ah (aD (i:=2) fN.nd rfl (z? rfl) (au bY (aS (aT (K:=K) rfl) rfl B.len cB (af (pv 0) ai)) ak))
  (ah (aD (i:=3) fN.nd rfl (z? rfl) (bI ai))
  (ah (aD (i:=4) fN.nd rfl (Or.inr rfl) (bL (rq (K:=K) rfl) (aF oX hr (af (pv 1) (af (pv 0) ai))) ak (λ_ _=>rfl)))
  (ah (cU D? rfl (bU rfl B.range (af (pv 2) ai)) (aE (i:=5) fN.nd rfl (z? rfl))
   (ah (fH (q9 R? F! G! eB (pv 3) (af (cA (aG (N:=["place","rest"]) (sl:=[q?,j? 4]) (aq jZ) ["f","g","degree","table","rest","turn"] rfl rfl (by decide +kernel)) rfl (bU rfl B.range (af (pv 2) ai)) (λ_ _ _ _ _=>(aE (i:=0) (Yk_ ["place","rest"]) rfl (z? rfl))) (λ_ _ _ _ _=>aU) (λ_ _ _ _ _=>(aF kj hr (af (pv 1) (af (pv 0) ai))))) ai)))
   (ay (aD (i:=4) fN.nd rfl (Or.inr rfl) (bL (rq (K:=K) rfl) (aF oX hr (af (aF mK hr (af (bI (af ak (af ak ai))) (af (pv 4) ai))) (af (pv 0) ai))) ak (λ_ _=>rfl))))))
  (ay (aL (aF yl hr (af (pv 3) ai))))))),?_⟩
 refine⟨_,rfl,a,_,rfl,.inl ha,?_⟩
 rw[Ya,lf];refine⟨_,_,rfl,rfl,a_ rfl,λp0 n0=>?_⟩
 have k0:=aB n0 (.lst []);refine⟨_,rfl,_,rfl,b,a,g,f,5000,5000,rfl,k0.seq hb,k0.seq ha,by omega,by omega,mf,bg,bf,by omega,λq0 r0 hd0 _ _ t0 qa ra H1 g1 n1 n2 hne et eq er=>?_⟩
 refine⟨t0,_,_,_,rfl,rfl,k8.of et,rfl,?_⟩
 have e0:ao r0=R 0:=lO.uniq hf (wu.VD lf hd0) hR.zero;have l0:r0.length<=n:=by have:=hd0.len;omega
 have bdR:∀(r:List Int) (i:Nat),ao r=R i->i<=n->gR 9001 r:=λr i e hi=>zV λj _=>by
  rw[e];exact Wb (bR i j hi) (Wp (by decide) (by omega))
 refine⟨_,rfl,_,rfl,by omega,by omega,?_⟩
 rw[show(((n+1:Nat):Int)-1).toNat=n by omega]
 refine dO (λi σ H2=>aI H H2/\∃(ts:List LP) (r:List Int) (ra:o?) (o:Option V),σ=[Rq a,Rq b,j? (.int (((n+1:Nat):Int)-1)),Rq p0,Rq ra,o]/\C7 H2 p0 ts/\ts.length=i/\(∀t∈ts,t.2.length=n/\t.1≠p0)/\(∀x j,x<i->j<n->AN (lvals ts) x j=R x j)/\H2 ra=j? (.lst (r.map V.int))/\ao r=R i/\r.length<=n/\Norm r/\ra≠p0)
  ⟨k0.trans g1,[],r0,ra,_,rfl,⟨g1 _ _ av,λt ht=>by simp at ht⟩,rfl,λt ht=>by simp at ht,λx j hx=>Jr hx (by omega),er,e0,l0,hd0.nr,λz=>by rw[z,av] at n2;cases n2⟩ ?_ ?_
 ·rintro i σ H2 hi ⟨g2,ts,r,ra,o,rfl,hT,lt,hts,QU,er,eR,lr,nr,YK⟩
  refine⟨_,rfl,.inl ⟨rfl,_,aQ.of hT.top⟩,_,rfl,_,rfl,by omega,by omega,λD hD=>?_⟩
  rw[show(((n+1:Nat):Int)-1).toNat=n by omega]
  refine jx (λj ys H3=>aI H2 H3/\ys=((Yk j).map (R i)).map V.int) ⟨aB hD _,rfl⟩ (λj m ys H3 hm hj hy hlen h=>?_) (λys H3 hy h=>?_)
  ·obtain⟨g3,rfl⟩:=h
   rw[show(0:Int)+(j:Int)=((j:Nat):Int) by omega]
   refine⟨_,rfl,_,rfl,ra,r,j,rfl,aQ.of (g3 _ _ er),?_⟩
   refine CW.emit hm hj (by rw[C?];omega) hy hlen ⟨aI.bE g3 hD _,?_⟩
   rw[Wy,Yz,Yz,eR];rfl
  ·obtain⟨g3,rfl⟩:=h
   have MS:=hT.same g3;have SI:D≠p0:=λz=>by rw[z,hT.top] at hD;cases hD
   refine⟨p0,_,_,rfl,rfl,MS.top,by rw[Ya,C?];omega,?_⟩
   have QT:=MS.snoc (t:=(D,(Yk n).map (R i))) (λt ht=>(hts t ht).2) hy SI
   have g4:aI H (L2.upd H3 p0 (.lst (lrefs ts++[V.ref D]))):=(g2.trans g3).bE n0 _;have YL:(L2.upd H3 p0 (.lst (lrefs ts++[V.ref D]))) ra=j? (.lst (r.map V.int)):=by rw[aN YK];exact g3 _ _ er
   generalize L2.upd H3 p0 (.lst (lrefs ts++[V.ref D]))=H4 at QT g4 YL ⊢;refine⟨a_ rfl,λl1 m1=>?_⟩
   have k1:=aB m1 (.lst [.int 0,.int 1]);have b01:gR 1000000 ([0,1]:List Int):=λx hx=>by
    simp only[Wz,Wc,or_false] at hx
    rcases hx with rfl|rfl <;> exact Bd.mono (m:=64) (Bd.small (by decide) (by decide)) (by decide)
   have VF:gR 1 ([0,1]:List Int):=λx hx=>by
    simp only[Wz,Wc,or_false] at hx
    rcases hx with rfl|rfl <;> (show Wa _<2 ^ 1;decide)
   have br:=bdR r i eR (by omega)
   refine⟨_,rfl,l1,ra,[0,1],r,rfl,aQ.of av,aQ.of (k1 _ _ YL),by decide,by omega,b01,br.mono (by decide),λpm H5 g5 n5 e5=>?_⟩
   have VG:=k1.trans g5;have lpm:(dY [0,1] r).length<=28:=by
    unfold dY;split
    ·simp
    ·rw[Ya,Yf];show 2+r.length-1<=28;omega
   have bpm:gR 9010 (dY [0,1] r):=(VF.dY br).mono (by show 1+9001+2<=9010;decide)
   have tot:9010+(dY [0,1] r).length*(5000+2)<=1000000:=by omega
   refine⟨_,rfl,pm,a,dY [0,1] r,f,9010,5000,rfl,aQ.of e5,(g4.trans VG).seq ha,by omega,by omega,mf,bpm,bf,tot,λq1 r1 hd1 _ _ t1 qa1 ra1 H6 g6 n6 n7 abq et1 eq1 er1=>?_⟩
   refine⟨t1,_,_,_,rfl,rfl,k8.of et1,rfl,?_⟩
   have e1:ao r1=R (i+1):=by
    have h1:=wu.VD lf hd1;rw[L3,Qe,eR] at h1;exact lO.uniq hf h1 (hR.succ i)
   have QX:=VG.trans g6;refine⟨g4.trans QX,ts++[(D,(Yk n).map (R i))],r1,ra1,_,rfl,QT.same QX,by rw[Yg,lt];rfl,λt ht=>?_,λx j hx hj=>?_,er1,e1,by have:=hd1.len;omega,hd1.nr,λz=>by rw[z,(QT.same VG).top] at n7;cases n7⟩
   ·rcases List.mem_append.mp ht with y|y
    ·exact hts t y
    ·have:t=(D,(Yk n).map (R i)):=by simpa using y
     rw[this];exact⟨by simp,SI⟩
   ·by_cases e:x=i
    ·have ex:x=ts.length:=by omega
     have:AN (lvals (ts++[(D,(Yk n).map (R i))])) ts.length j=((Yk n).map (R i)).getD j 0:=by
      rw[qz (by rw[Yg];show _<_+1;omega)]
      simp
     rw[ex,this,<- ex,e,Yb,Ye,Y1 hj];rfl
    ·rw[qz (by rw[Yg];omega),List.getElem_append_left (by omega),<- qz (by omega)]
     exact QU x j (by omega) hj
 ·rintro σ H2 ⟨g2,ts,r,ra,o,rfl,hT,lt,hts,QU,er,eR,lr,nr,YK⟩
  have ed:det n (AN (lvals ts))=det n λi j=>R i j:=aP λi j hi hj=>QU i j hi hj
  refine⟨_,rfl,p0,ts,n,E9,rfl,hT,⟨lt,λt ht=>(hts t ht).1⟩,hn,NZ,λi j hi hj=>by rw[QU i j hi hj];exact bR i j (by omega),λH3 g3=>?_⟩
  rw[ed];exact q H3 (g2.trans g3)
end
theorem qB (f:List Int):(dl f).length=f.length-1:=by unfold dl;rw[Ya,Yf]
theorem Qf {f:List Int}{m:Nat}(h:gR m f)(l:f.length<=1000):gR (m+10) (dl f):=by
 intro x hx;obtain⟨i,hi,rfl⟩:=List.mem_map.mp hx;have hi':=List.mem_range.mp hi;have b1:Bd 10 ((i+1:Nat):Int):=show Wa _<2 ^ 10 by omega
 exact(b1.mul (h.ao _)).mono (by omega)
theorem Ks (n:Nat)(h:n<=26):(n*(n-1) / 2 % 2=1->tg n=-1)/\(¬ n*(n-1) / 2 % 2=1->tg n=1):=by
 have key:∀n:Fin 27,(n.val*(n.val-1) / 2 % 2=1->tg n.val=-1)/\(¬ n.val*(n.val-1) / 2 % 2=1->tg n.val=1):=by decide +kernel
 exact key ⟨n,by omega⟩
inductive AS (K:bX)(vs:List V)(H:Hp)(Q:VK)(Ce:XK):Prop where
 | mk (a:o?) (f:List Int) (n E:Nat) (Ci:vs=[.ref a]) (Cj:aQ K H a (f.map V.int)) (Ck:f.length=n+1) (Cm:1<=n) (Cn:n<=26) (Co:b7 f) (Cq:gR 4990 f) (C9:E<=9000) (Eg:n*(E+5)<9000) (HE:(∀i j,i<=n->(rr (ao f) n (ao (dl f)) (dl f).length i j).natAbs<=2 ^ E)) (yk:∀H',aI H H'->Q (.int (tg n*det n λi j=>rr (ao f) n (ao (dl f)) (dl f).length i j)) H')
section
theorem ve (B:iY mg)(G5:b_ P w K mg base 1 "derived" ["f"] (N2 K))(oh:b_ P w K mg base 3 "resultant" m8 (Kq K))(F:Src K mg "discriminant" jG ["f"]):b_ P w K mg base 4 "discriminant" ["f"] (AS K):=by
 refine F.ok i_ (λvs H Q E h=>?_) (λfa cdv A outer s H vs Q E hr h=>?_)
 ·obtain⟨a,f,n,E,rfl,_⟩:=h;rfl
 obtain⟨a,f,n,E9,rfl,ha,lf,hn1,hn,mf,bf,hE,NZ,bR,q⟩:=h;generalize hd:(det n λi j=>rr (ao f) n (ao (dl f)) (dl f).length i j)=D at q
 refine⟨_,ah (aD (i:=1) i_.nd rfl (z? rfl) (au bY (aS (aT (K:=K) rfl) rfl B.len cB (af (pv 0) ai)) ak))
  (ah (aD (i:=2) i_.nd rfl (z? rfl) (aF oh hr (af (pv 0) (af (aF G5 hr (af (pv 0) ai)) ai))))
  (ah (eT (aX iP (au bw (au bK (au aV (pv 1) (au bY (pv 1) ak)) ak) ak) ak (bC _))
   (ay (aL (yH sY (pv 2))))
   (cD))
  (ay (aL (pv 2))))),?_⟩
 refine⟨_,rfl,a,_,rfl,.inl ha,?_⟩
 rw[Ya,lf];refine⟨_,_,rfl,rfl,?_⟩
 show iO 1 (V.int (((n+1:Nat):Int)-1)) _ _ _
 rw[show((n+1:Nat):Int)-1=(n:Int) by omega]
 refine⟨_,rfl,_,rfl,a,f,rfl,ha,by omega,λpd H1 g1 n1 e1=>?_⟩
 refine⟨a,pd,f,dl f,n,E9,rfl,g1.seq ha,aQ.of e1,lf,hn1,hn,by rw[qB];omega,mf,Mb (.inr (by rw[mf.2];decide)),bf.mono (by decide),Qf bf (by omega),hE,NZ,bR,λH2 g2=>?_⟩
 rw[hd];have g:=g1.trans g2;obtain⟨t1,t2⟩:=Ks n hn;have em:((((n:Int)*((n:Int)-1)).fdiv 2).fmod 2)=((n*(n-1) / 2 % 2:Nat):Int):=by
  obtain⟨k,rfl⟩:∃k,n=k+1:=⟨n-1,by omega⟩
  have e1:((k+1:Nat):Int)-1=(k:Int):=by omega
  have e2:k+1-1=k:=by omega
  rw[e1,e2,<- Zl,Zs _ (by decide),Y8 _ (by decide)]
  omega
 refine⟨_,rfl,_,rfl,_,_,rfl,rfl,_,_,rfl,rfl,gE (by omega) (by omega),?_⟩
 refine⟨_,_,rfl,rfl,(Bd.small (by decide) (by decide)).dv (by decide),_,_,rfl,rfl,(by decide:(2:Int)≠0),rfl,_,rfl,?_⟩
 by_cases c:n*(n-1) / 2 % 2=1
 ·refine O1 (by show V.int ((((n:Int)*((n:Int)-1)).fdiv 2).fmod 2)=V.int 1;rw[em,c];rfl) ?_
  have:=q H2 g
  rw[t1 c,show -1*D=- D by omega] at this
  exact⟨_,rfl,_,rfl,this⟩
 ·refine O0 (λz=>c (by have z':V.int ((((n:Int)*((n:Int)-1)).fdiv 2).fmod 2)=V.int 1:=z;have:=V.int.inj z';rw[em] at this;omega)) ?_
  have:=q H2 g
  rw[t2 c,Zg] at this;exact⟨_,rfl,this⟩
end
section
def eN (l:List Int):El:=.vec (l.map El.num)
def Rw (p:Nat)(n:Nat)(l:List Int):Prop:=l.length=n/\∀x∈l,0<=x/\x<(p:Int)
theorem sE {H:Hp}{ok:o?->Prop}{l:o?}{ns:List Int}(h:H l=j? (.lst (ns.map V.int)))(k:ok l):Rep H ok (.ref l) (eN ns):=.vec h k (by rw[Ya,Ya]) λi v e h1 h2=>by
 rw[Ye] at h1 h2;cases z:ns[i]? with
 | none=>rw[z] at h1;cases h1
 | some n=>rw[z] at h1 h2;cases h1;cases h2;exact .num n
theorem ints_rep {H:Hp}{ok:o?->Prop}{v:V}{ns:List Int}(h:Rep H ok v (eN ns)):∃l,v=.ref l/\H l=j? (.lst (ns.map V.int))/\ok l:=by
 unfold eN at h;generalize he:El.vec (ns.map El.num)=e at h;cases h with
 | num n=>cases he
 | @vec a vs l h k hl it=>
  injection he with he
  refine⟨a,rfl,?_,k⟩
  have:vs=ns.map V.int:=by
   refine Z7 λi=>?_
   rw[Ye];cases z:ns[i]? with
   | none=>
    have:=List.getElem?_eq_none_iff.mp z
    rw[List.getElem?_eq_none_iff.mpr (by rw[hl,<- he,Ya];exact this)];rfl
   | some n=>
    have hi:=(List.getElem?_eq_some_iff.mp z).1;have h2:l[i]?=j? (.num n):=by rw[<- he,Ye,z];rfl
    have h1:vs[i]?=j? (vs[i]'(by rw[hl,<- he,Ya];exact hi)):=Yc _
    have:=it i _ _ h1 h2
    rw[h1];generalize vs[i]'(by rw[hl,<- he,Ya];exact hi)=y at this
    cases this;rfl
  rw[<- this];exact h
def zl:Sp:=λvs H Q _=>∃(p m:Nat) (i:Nat) (u v:V) (a b:List Int),vs=[u,v,.int (i:Int),.int (p:Int)]/\p∈PR/\Rep H Any u (eN a)/\Rep H Any v (eN b)/\Rw p m a/\Rw p m b/\i<m/\m<=100/\∀r H',aI H H'->Rep H' (eK H) r (eN (Wd (λx y=>(x-a.getD i 0*y) % (p:Int)) a b))->Q r H'
theorem vf (B:iY mg)(F:Src K mg "without_lead" gK D5):b_ P w K mg base 1 "without_lead" D5 zl:=by
 refine F.ok mX (λvs H Q E h=>?_) (λfa cdv A outer s H vs Q E hr h=>?_)
 ·obtain⟨p,m,i,u,v,a,b,rfl,_⟩:=h;rfl
 obtain⟨p,m,i,u,v,a,b,rfl,hp,ru,rv,ra,rb,hi,hm,q⟩:=h;obtain⟨la,rfl,hla,_⟩:=ints_rep ru;obtain⟨lb,rfl,hlb,_⟩:=ints_rep rv;refine⟨_,ah (aD (i:=4) mX.nd rfl (Or.inr rfl) (bL (aJ (K:=K) rfl) (pv 0) (pv 2) (λ_ _=>rfl)))
  (ay (aL (cA (aG (N:=Qa) (sl:=[q?,q?,j? 4,j? 3]) (aq gK) ["row","lead_row","place","p","factor"] rfl rfl (by decide +kernel)) rfl (vD (K:=K) rfl rfl B.zip (af (pv 0) (af (pv 1) ai))) (λ_ _ _ _ _=>(dG (n:=2) (K:=K) rfl rfl (aY (aE (i:=0) (Yk_ Qa) rfl (z? rfl)) (aY (aE (i:=1) (Yk_ Qa) rfl (z? rfl)) dD)))) (λ_ _ _ _ _=>aU) (λ_ _ _ _ _=>(au bw (au bY (pv 0) (au aV (pv 2) (pv 1))) (pv 3)))))),?_⟩
 have pp:=bM hp;have hget:a[i]?=j? (a.getD i 0):=by rw[Yb,Yc (by rw[ra.1];exact hi)];rfl
 have hga:=ra.2 _ (Yy hget);generalize a.getD i 0=c at hget hga q;refine⟨_,rfl,_,rfl,la,_,_,_,rfl,rfl,aQ.of hla,f9 (j:=i) (by rw[Ye,hget];rfl),?_⟩
 refine⟨_,rfl,_,rfl,la,lb,rfl,⟨_,aQ.of hla⟩,⟨_,aQ.of hlb⟩,λD hD=>?_⟩
 refine BO (xs:=a.map V.int) (ys:=b.map V.int) (λn zs H2=>aI H H2/\zs=((Wd (λx y=>(x-c*y) % (p:Int)) a b).take n).map V.int) (by rw[Ya,Ya,ra.1,rb.1]) ⟨aB hD _,rfl⟩ (λn zs H2 _ h=>⟨aQ.of (h.1 _ _ hla),aQ.of (h.1 _ _ hlb)⟩) (λn m' vx vy zs H2 r hm hn kZ Ku hy hlen h hr2=>?_) (λzs H2 hy h=>?_)
 ·obtain⟨g2,rfl⟩:=h
  rw[Ya,ra.1] at hn;obtain⟨x,hx,rfl⟩:=bh kZ;obtain⟨y,hy',rfl⟩:=bh Ku;have k2:=aB hr2 (.tup [.int x,.int y]);have yb:=rb.2 _ (Yy hy');refine⟨r,_,rfl,k8.of av,rfl,_,_,rfl,_,_,rfl,rfl,?_⟩
  refine⟨_,rfl,_,rfl,_,rfl,_,_,rfl,rfl,Fb (Bd.small (by omega) (by omega)) (Bd.small (by omega) (by omega)) (by decide),_,_,rfl,rfl,_,rfl,_,_,rfl,rfl,(show(p:Int)≠0 by omega),?_⟩
  refine CW.emit hm (by rw[Ya,ra.1];exact hn) (by rw[Ya,ra.1,C?];omega) (k2 _ _ hy) hlen ⟨aI.bE (g2.trans k2) hD _,?_⟩
  have hz:(Wd (λx y=>(x-c*y) % (p:Int)) a b)[n]?=j? ((x-c*y) % (p:Int)):=by rw[List.getElem?_zipWith,hx,hy']
  rw[List.take_succ,hz,Yz];show _++[V.int ((x-c*y).fmod (p:Int))]=_++[V.int ((x-c*y) % (p:Int))]
  rw[z_]
 ·obtain⟨g2,rfl⟩:=h
  rw[Zz (by rw[List.length_zipWith,Ya,ra.1,rb.1];omega)] at hy
  exact q _ _ g2 (sE hy (show H D=q? from hD))
def zm:Sp:=λvs H Q _=>∃(p:Nat) (hp:p∈PR) (m i:Nat) (u:V) (a:List Int),vs=[u,.int (i:Int),.int (p:Int)]/\Rep H Any u (eN a)/\Rw p m a/\i<m/\m<=100/\a.getD i 0≠0/\∀(b:Nat) r H',(b*(a.getD i 0).toNat) % p=1->aI H H'->Rep H' (eK H) r (eN (a.map λx=>((b:Int)*x) % (p:Int)))->Q r H'
theorem uh (B:iY mg)(F:Src K mg "with_lead_one" gi Kh):b_ P w K mg base 1 "with_lead_one" Kh zm:=by
 refine F.ok ir (λvs H Q E h=>?_) (λfa cdv A outer s H vs Q E hr h=>?_)
 ·obtain⟨p,hp,m,i,u,a,rfl,_⟩:=h;rfl
 obtain⟨p,hp,m,i,u,a,rfl,ru,ra,hi,hm,h0,q⟩:=h;obtain⟨la,rfl,hla,_⟩:=ints_rep ru;refine⟨_,ah (aD (i:=3) ir.nd rfl (Or.inr rfl) ak)
  (ah (eV D? (aX uI (au bw (au aV (pv 3) (bL (aJ (K:=K) rfl) (pv 0) (pv 1) (λ_ _=>rfl))) (pv 2)) ak (bC _))
   (ay (zF (i:=3) ir.nd rfl (Or.inr rfl) ak zH)))
  (ay (aL (cA (aG (N:=["one","back","p"]) (sl:=[q?,j? 3,j? 2]) (aq gi) ["row","place","p","back"] rfl rfl (by decide +kernel)) rfl (bN (K:=K) rfl (pv 0)) (λ_ _ _ _ _=>(aE (i:=0) (Yk_ ["one","back","p"]) rfl (z? rfl))) (λ_ _ _ _ _=>aU) (λ_ _ _ _ _=>(au bw (au aV (pv 1) (pv 0)) (pv 2))))))),?_⟩
 have pp:=bM hp;have hget:a[i]?=j? (a.getD i 0):=by rw[Yb,Yc (by rw[ra.1];exact hi)];rfl
 have hga:=ra.2 _ (Yy hget);generalize a.getD i 0=c at hget hga h0 q;obtain⟨cn,rfl⟩:=Zo hga.1;obtain⟨y,hy,e1⟩:=wO p hp cn (by omega) (by omega)
 have e1:cn*y % p=1:=by rw[e1];exact Z1 (by omega)
 have y0:y≠0:=λz=>by rw[z,Wn,Nat.zero_mod] at e1;omega
 refine jy (λσ H2=>H2=H/\∃b:Nat,σ=[Rq la,Iq (i),Iq (p),Iq (b)]/\1<=b/\b<=y) (λσ _=>match σ with | [_,_,_,j? (.int b)]=>(y:Nat)-b.toNat|_=>0) ⟨rfl,1,rfl,Yd 1,by omega⟩ ?_
 rintro σ H2 ⟨rfl,b,rfl,b1,b2⟩;refine⟨_,rfl,_,rfl,_,rfl,la,_,_,_,rfl,rfl,aQ.of hla,f9 (j:=i) (by rw[Ye,hget];rfl),_,_,rfl,rfl,Fb (Bd.small (by omega) (by omega)) (Bd.small (by omega) (by omega)) (by decide),_,rfl,_,_,rfl,rfl,(show(p:Int)≠0 by omega),?_⟩
 have ev:((b:Int)*(cn:Int)).fmod (p:Int)=((b*cn % p:Nat):Int):=by rw[z_,<- Zl,<- Jb]
 refine⟨rfl,_,rfl,?_⟩
 by_cases e:b*cn % p=1
 ·refine v5 (by show V.int (((b:Int)*(cn:Int)).fmod (p:Int))=V.int 1;rw[ev,e];rfl) ?_
  refine⟨_,rfl,la,rfl,⟨_,aQ.of hla⟩,λD hD=>?_⟩
  refine gY (xs:=a.map V.int) (λn zs H3=>aI H2 H3/\zs=((a.map λx=>((b:Int)*x) % (p:Int)).take n).map V.int) ⟨aB hD _,rfl⟩ (λn zs H3 _ h=>aQ.of (h.1 _ _ hla)) ?_ ?_
  ·rintro n m' vx zs H3 hm' hn kZ hy' hlen ⟨g3,rfl⟩
   rw[Ya,ra.1] at hn;obtain⟨x,hx,rfl⟩:=bh kZ;have xb:=ra.2 _ (Yy hx);refine⟨_,rfl,_,rfl,_,_,rfl,rfl,Fb (Bd.small (by omega) (by omega)) (Bd.small (by omega) (by omega)) (by decide),_,rfl,_,_,rfl,rfl,(show(p:Int)≠0 by omega),?_⟩
   refine CW.emit hm' (by rw[Ya,ra.1];exact hn) (by rw[Ya,ra.1,C?];omega) hy' hlen ⟨aI.bE g3 hD _,?_⟩
   have hz:(a.map λx=>((b:Int)*x) % (p:Int))[n]?=j? (((b:Int)*x) % (p:Int)):=by rw[Ye,hx];rfl
   rw[List.take_succ,hz,Yz];show _++[V.int (((b:Int)*x).fmod (p:Int))]=_++[V.int (((b:Int)*x) % (p:Int))]
   rw[z_]
  ·rintro zs H3 hy' ⟨g3,rfl⟩
   rw[Zz (by rw[Ya,Ya];omega)] at hy'
   exact q b _ _ (by rw[Yi];exact e) g3 (sE hy' (show H2 D=q? from hD))
 ·refine Bu (λz=>e ?_) ?_
  ·have z:V.int (((b:Int)*(cn:Int)).fmod (p:Int))=V.int 1:=z
   rw[ev] at z;injection z with z
   omega
  ·have hne:b≠y:=λz=>e (by rw[z,Zk];exact e1)
   refine win ⟨_,rfl,_,_,rfl,rfl,⟨rfl,b+1,rfl,by omega,by omega⟩,?_⟩
   show y-((b:Int)+1).toNat<y-(b:Int).toNat
   omega
def F3 (K:bX):Sp:=λvs H Q _=>∃(p m i:Nat) (u:V) (R:List (List Int)),vs=[u,.int (i:Int)]/\Rep H Any u (.vec (R.map eN))/\(∀a∈R,Rw p m a)/\i<m/\R.length<=100/\
 (∀(t:Nat) (a:List Int) H',aI H H'->R[t]?=j? a->a.getD i 0≠0->Q (.int (t:Int)) H')/\((∀a∈R,a.getD i 0=0)->∀H',aI H H'->Q .fm H')
theorem ym (B:iY mg)(F:Src K mg "first_lead" mC Kl):b_ P w K mg base 1 "first_lead" Kl (F3 K):=by
 refine F.ok kh (λvs H Q E h=>?_) (λfa cdv A outer s H vs Q E hr h=>?_)
 ·obtain⟨p,m,i,u,R,rfl,_⟩:=h;rfl
 obtain⟨p,m,i,u,R,rfl,ru,rw',hi,hR,q1,q2⟩:=h;refine⟨_,ah (cU D? rfl (iR (K:=K) rfl rfl B.enumerate (af (pv 0) ai)) (dG (n:=2) (K:=K) rfl rfl (aY (aE (i:=2) kh.nd rfl (z? rfl)) (aY (aE (i:=3) kh.nd rfl (z? rfl)) dD)))
   (ay (eT (aX uI (bL (aJ (K:=K) rfl) (pv 3) (pv 1) (λ_ _=>rfl)) ak (bC _))
    (ay (aL (pv 2)))
    (cD))))
  (ay (aL sQ)),?_⟩
 rw[tQ] at ru;obtain⟨l,vs,rfl,hl,_,C⟩:=id ru.cf;have lv:vs.length=R.length:=by rw[C.len,Ya]
 refine⟨_,rfl,l,rfl,⟨_,aQ.of hl⟩,kJ (st:=0) (xs:=vs) (λn σ H2=>aI H H2/\(∀(t:Nat) a,t<n->R[t]?=j? a->a.getD i 0=0)/\∃o1 o2,σ=[Rq l,Iq (i),o1,o2]) ⟨aI.refl H,λt a ht=>Jr ht (Wm _),_,_,rfl⟩ (λn σ H2 _ h=>aQ.of (h.1 _ _ hl)) ?_ ?_⟩
 ·rintro n v σ H2 r hv ⟨g2,h2,o1,o2,rfl⟩ hr2
  obtain⟨hn,rv⟩:=C.get hv;have T_:n<R.length:=by rw[Ya] at hn;exact hn
  have e:(R.map eN).getD n (.num 0)=eN R[n]:=by rw[Yb,Ye,Yc T_];rfl
  rw[e] at rv;have k2:=aB hr2 (.tup [.int ((0+n:Nat):Int),v]);have e3:(upd H2 r (.tup [.int ((0+n:Nat):Int),v])) r=j? (.tup [.int ((0+n:Nat):Int),v]):=av;generalize upd H2 r (.tup [.int ((0+n:Nat):Int),v])=H3 at k2 e3;have wn:=rw' _ (Y0 T_);obtain⟨la,rfl,hla,_⟩:=ints_rep ((rv.same g2).same k2);have hget:R[n][i]?=j? (R[n].getD i 0):=by rw[Yb,Yc (by rw[wn.1];exact hi)];rfl
  refine⟨r,_,rfl,k8.of e3,rfl,_,_,rfl,_,_,rfl,rfl,?_⟩
  refine⟨_,rfl,_,rfl,la,_,_,_,rfl,rfl,aQ.of hla,f9 (j:=i) (by rw[Ye,hget];rfl),rfl,_,rfl,?_⟩
  by_cases z:R[n].getD i 0=0
  ·refine v5 (by rw[z]) ⟨g2.trans k2,λt a ht hat=>?_,_,_,rfl⟩
   by_cases c:t<n
   ·exact h2 t a c hat
   ·obtain rfl:t=n:=by omega
    rw[Yc T_] at hat;cases hat;exact z
  ·refine Bu (λy=>z (V.int.inj y)) ⟨_,rfl,?_⟩
   rw[Jf];exact q1 n _ _ (g2.trans k2) (Yc T_) z
 ·rintro σ H2 ⟨g2,h2,o1,o2,rfl⟩
  refine q2 (λa ha=>?_) _ g2
  obtain⟨t,ht,rfl⟩:=Ws ha;exact h2 t _ (by omega) (Yc ht)
theorem vJ {β:Type}{l:List β}{t:Nat}(ht:t<l.length)(i:Nat):(l.take t++l.drop (t+1))[i]?=l[if i<t then i else i+1]?:=by
 by_cases h:i<t
 ·rw[Jl h,Zd (by rw[Y3];omega),List.getElem?_take_of_lt h]
 ·rw[Jk h,Zh (by rw[Y3];omega),Y3,List.getElem?_drop]
  congr 1
  omega
theorem Rw.get {p m:Nat}{l:List Int}(h:Rw p m l)(j:Nat):0<=l.getD j 0/\(l.getD j 0<(p:Int)\/l.getD j 0=0):=by
 rw[Yb];cases e:l[j]? with
 | none=>exact⟨Int.le_refl 0,.inr rfl⟩
 | some x=>have:=h.2 x (Yy e);exact⟨this.1,.inl this.2⟩
def zr {p:Nat}(hp:p∈PR)(l:List Int)(j:Nat):(ground p hp).α:=nt (ground p hp).α (l.getD j 0).toNat
theorem AF {p:Nat}(hp:p∈PR){x y:Int}(hx:0<=x)(hy:0<=y)(h:x % (p:Int)=y % (p:Int)):nt (ground p hp).α x.toNat=nt (ground p hp).α y.toNat:=by
 rw[<- DM (ground p hp).ch x.toNat,<- DM (ground p hp).ch y.toNat];congr 1
 show x.toNat % p=y.toNat % p
 have e1:((x.toNat % p:Nat):Int)=x % (p:Int):=by rw[Jb,Wh hx]
 have e2:((y.toNat % p:Nat):Int)=y % (p:Int):=by rw[Jb,Wh hy]
 omega
theorem qC {p m:Nat}(hp:p∈PR){a b:List Int}{c:Int}(ra:Rw p m a)(rb:Rw p m b)(c0:0<=c)(j:Nat):zr hp (Wd (λx y=>(x-c*y) % (p:Int)) a b) j=zr hp a j-nt (ground p hp).α c.toNat*zr hp b j:=by
 have pp:=bM hp;have key:∀x y:Int,0<=x->0<=y->nt (ground p hp).α ((x-c*y) % (p:Int)).toNat=nt (ground p hp).α x.toNat-nt (ground p hp).α c.toNat*nt (ground p hp).α y.toNat:=λx y hx hy=>by
  have h:nt (ground p hp).α ((x-c*y) % (p:Int)).toNat+nt (ground p hp).α (c.toNat*y.toNat)=nt (ground p hp).α x.toNat:=by
   rw[<- tO];have hm:=Zr (x-c*y) (show(p:Int)≠0 by omega)
   have hcy:0<=c*y:=Ja c0 hy;have e:(((x-c*y) % (p:Int)).toNat+c.toNat*y.toNat:Nat)=((x-c*y) % (p:Int)+c*y).toNat:=by
    have:((c.toNat*y.toNat:Nat):Int)=c*y:=by rw[Zl,Wh c0,Wh hy]
    omega
   rw[e];refine AF hp (by omega) hx ?_
   rw[Int.emod_add_emod];congr 1
   omega
  rw[nH] at h;grind
 unfold zr;by_cases hj:j<m
 ·have h1:a[j]?=j? (a.getD j 0):=by rw[Yb,Yc (by rw[ra.1];exact hj)];rfl
  have h2:b[j]?=j? (b.getD j 0):=by rw[Yb,Yc (by rw[rb.1];exact hj)];rfl
  have h3:(Wd (λx y=>(x-c*y) % (p:Int)) a b).getD j 0=(a.getD j 0-c*b.getD j 0) % (p:Int):=by rw[Yb,List.getElem?_zipWith,h1,h2];rfl
  rw[h3];exact key _ _ (ra.get j).1 (rb.get j).1
 ·have h1:a.getD j 0=0:=by rw[Yb,Ww (by rw[ra.1];omega)];rfl
  have h2:b.getD j 0=0:=by rw[Yb,Ww (by rw[rb.1];omega)];rfl
  have h3:(Wd (λx y=>(x-c*y) % (p:Int)) a b).getD j 0=0:=by rw[Yb,Ww (by rw[List.length_zipWith,ra.1,rb.1];omega)];rfl
  rw[h1,h2,h3];show(0:(ground p hp).α)=0-nt (ground p hp).α c.toNat*0
  grind
theorem Rw.without {p m:Nat}(hp:p∈PR){a b:List Int}{c:Int}(ra:Rw p m a)(rb:Rw p m b):Rw p m (Wd (λx y=>(x-c*y) % (p:Int)) a b):=by
 have pp:=bM hp;refine⟨by rw[List.length_zipWith,ra.1,rb.1,Nat.min_self],λx hx=>?_⟩
 obtain⟨i,hi,rfl⟩:=Ws hx;rw[List.getElem_zipWith];exact⟨Zr _ (by omega),Zm _ (by omega)⟩
theorem AU {p m:Nat}(hp:p∈PR){a:List Int}{b:Nat}(ra:Rw p m a)(j:Nat):zr hp (a.map λx=>((b:Int)*x) % (p:Int)) j=nt (ground p hp).α b*zr hp a j:=by
 have pp:=bM hp;unfold zr;have h3:(a.map λx=>((b:Int)*x) % (p:Int)).getD j 0=((b:Int)*a.getD j 0) % (p:Int):=by
  rw[Yb,Yb,Ye];cases a[j]? with
  | none=>show(0:Int)=((b:Int)*0) % (p:Int);simp
  | some x=>rfl
 have h0:=(ra.get j).1;rw[h3,<- nH];have e:(b*(a.getD j 0).toNat:Nat)=((b:Int)*a.getD j 0).toNat:=by
  have:((b*(a.getD j 0).toNat:Nat):Int)=(b:Int)*a.getD j 0:=by rw[Zl,Wh h0]
  omega
 rw[e];exact AF hp (Zr _ (by omega)) (Ja (by omega) h0) (Int.emod_emod _ _)
theorem Rw.lead {p m:Nat}(hp:p∈PR){a:List Int}{b:Nat}(ra:Rw p m a):Rw p m (a.map λx=>((b:Int)*x) % (p:Int)):=by
 have pp:=bM hp;refine⟨by rw[Ya,ra.1],λx hx=>?_⟩
 obtain⟨y,_,rfl⟩:=List.mem_map.mp hx;exact⟨Zr _ (by omega),Zm _ (by omega)⟩
def f6 (n t:Nat):List Int:=(Yk n).map λj=>if j=t then 1 else 0
theorem Cs {p W n:Nat}(hp:p∈PR){R:List (List Int)}(hn:R.length=n)(hR:∀a∈R,Rw p W a){t:Nat}{a:List Int}(ht:R[t]?=j? a):zr hp (a++f6 n t)=jQ W n (λr j=>zr hp (R.getD r []) j) t:=by
 funext j
 have ra:=hR a (Yy ht);have et:R.getD t []=a:=by rw[Yb,ht];rfl
 show nt (ground p hp).α ((a++f6 n t).getD j 0).toNat=if j<W then zr hp (R.getD t []) j else if j<W+n then (if j-W=t then 1 else 0) else 0
 have lu:(f6 n t).length=n:=by unfold f6;rw[Ya,Yf]
 by_cases h1:j<W
 ·rw[Jl h1,et,Yb,Zd (by rw[ra.1];exact h1)]
  unfold zr;rw[Yb]
 ·rw[Jk h1,Yb,Zh (by rw[ra.1];omega),ra.1]
  by_cases h2:j<W+n
  ·rw[Jl h2]
   unfold f6;rw[Ye,Y1 (by omega)]
   show nt (ground p hp).α (if j-W=t then (1:Int) else 0).toNat=_
   by_cases h3:j-W=t
   ·rw[Jl h3,Jl h3];exact nI
   ·rw[Jk h3,Jk h3];rfl
  ·rw[Jk h2,Ww (by rw[lu];omega)];rfl
def MW {α:Type}[Lean.Grind.CommRing α](W n:Nat)(S:List (Nat->α)):Prop:=∃ι:Nat->Nat,(∀u,u<S.length->ι u<n)/\∀(t u:Nat) s,S[t]?=j? s->u<S.length->s (W+ι u)=if t=u then 1 else 0
theorem MW.step {α:Type}[Lean.Grind.CommRing α]{W n t k:Nat}{S S':List (Nat->α)}{s0 r:Nat->α}{b:α}(h:MW W n S)(ht:S[t]?=j? s0)(er:∀j,r j=b*s0 j)(hl:S'.length+1=S.length)(hs:∀(i:Nat) s',S'[i]?=j? s'->∃s,S[if i<t then i else i+1]?=j? s/\∀j,s' j=s j-s k*r j):MW W n S':=by
 obtain⟨ι,h1,h2⟩:=h;have Vy:=(List.getElem?_eq_some_iff.mp ht).1;refine⟨λu=>ι (if u<t then u else u+1),λu hu=>h1 _ (by split <;> omega),λi u s' hi hu=>?_⟩
 obtain⟨s,hs1,hs2⟩:=hs i s' hi;have hk:(if u<t then u else u+1)<S.length:=by split <;> omega
 have e1:=h2 _ _ s hs1 hk;have e2:=h2 _ _ s0 ht hk;rw[Jk (show ¬ t=(if u<t then u else u+1) by split <;> omega)] at e2
 show s' (W+ι (if u<t then u else u+1))=_
 rw[hs2,er,e1,e2];by_cases c:i=u
 ·rw[Jl (by rw[c]),Jl c];grind
 ·rw[Jk (show ¬ (if i<t then i else i+1)=(if u<t then u else u+1) by split <;> split <;> omega),Jk c];grind
theorem MW.start {α:Type}[Lean.Grind.CommRing α]{W n:Nat}{R:Nat->Nat->α}:MW W n ((Yk n).map (jQ W n R)):=by
 refine⟨λu=>u,λu hu=>by rw[Ya,Yf] at hu;exact hu,λt u s hs hu=>?_⟩
 rw[Ya,Yf] at hu;rw[Ye] at hs;have ht:t<n:=by
  rcases Nat.lt_or_ge t n with y|y
  ·exact y
  ·rw[List.getElem?_eq_none_iff.mpr (by rw[Yf];exact y)] at hs;cases hs
 rw[Y1 ht] at hs;cases hs;show(if W+u<W then R t (W+u) else if W+u<W+n then (if W+u-W=t then (1:α) else 0) else 0)=_
 rw[Jk (by omega),Jl (by omega),Zc]
 by_cases c:t=u
 ·rw[Jl c,Jl c.symm]
 ·rw[Jk c,Jk λz=>c z.symm]
inductive Ct  (vs:List V)(H:Hp)(Q:VK)(Ce:XK):Prop where
 | mk (p:Nat) (hp:p∈PR) (W:Nat) (v:V) (R:List (List Int)) (Ci:vs=[v,.int (p:Int)]) (Cj:Rep H Any v (.vec (R.map eN))) (Ck:1<=R.length) (Cm:R.length<=50) (Cn:W<=50) (Co:(∀a∈R,Rw p W a)) (Cq:∀(S:List (List Int)) r H',aI H H'->(∀l∈S,Rw p (W+R.length) l)->S.length<=50->(∀l∈S,∃i,i<R.length/\l.getD (W+i) 0≠0)->C8 W R.length (λr j=>zr hp (R.getD r []) j) W (S.map (zr hp))->Rep H' (eK H) r (.vec (S.map λl=>eN (l.drop W)))->Q r H')
theorem G6 (B:iY mg)(xD:b_ P w K mg base 1 "without_lead" D5 zl)(vg:b_ P w K mg base 1 "with_lead_one" Kh zm)(AV:b_ P w K mg base 1 "first_lead" Kl (F3 K))(F:Src K mg "kernel" iV ["rows","p"]):b_ P w K mg base 2 "kernel" ["rows","p"] Ct:=by
 refine F.ok gD (λvs H Q E h=>?_) (λfa cdv A outer s H vs Q E hr h=>?_)
 ·obtain⟨p,hp,W,v,R,rfl,_⟩:=h;rfl
 obtain⟨p,hp,W,v,R,rfl,rv,n1,n2,hW,hR,q⟩:=h;refine⟨_,ah (aD (i:=2) gD.nd rfl (Or.inr rfl) (aS (aT (K:=K) rfl) rfl B.len cB (af (pv 0) ai)))
  (ah (aD (i:=3) gD.nd rfl (Or.inr rfl) (aS (aT (K:=K) rfl) rfl B.len cB (af (bL (aJ (K:=K) rfl) (pv 0) ak (λ_ _=>rfl)) ai)))
  (ah (ID (i:=4) gD.nd rfl (z? rfl) (iF (N:=["at","row","many"]) (sl:=[q?,q?,j? 2]) "at" (aq iV) T5 rfl rfl (by decide +kernel)) rfl (iR (K:=K) rfl rfl B.enumerate (af (pv 0) ai)) (λ_ _ _ _ _=>(dG (n:=2) (K:=K) rfl rfl (aY (aE (i:=0) (Yk_ ["at","row","many"]) rfl (Or.inr rfl)) (aY (aE (i:=1) (Yk_ ["at","row","many"]) rfl (z? rfl)) dD)))) (λ_ _ _ _ _=>aU) (λ_ _ _ _ _=>(au i6 (pv 1) (cA (aG (N:=["place","at"]) (sl:=[q?,j? 0]) (rT (z6 ((cE iV).getD 2 (.Pass ⟨0,0,0,0⟩))) (aq iV)) ["at","row","many"] rfl rfl (by decide +kernel)) rfl (bU rfl B.range (af (pv 2) ai)) (λ_ _ _ _ _=>(aE (i:=0) (Yk_ ["place","at"]) rfl (z? rfl))) (λ_ _ _ _ _=>aU) (λ_ _ _ _ _=>(vQ (aX iP (pv 0) (pv 1) (bC _)) ak ak))))))
  (ah (cU D? rfl (bU rfl B.range (af (pv 3) ai)) (aE (i:=5) gD.nd rfl (Or.inr rfl))
   (ah (aD (i:=6) gD.nd rfl (z? rfl) (aF AV hr (af (pv 4) (af (pv 5) ai))))
   (ay (eT (aX HY (pv 6) sQ (bC _))
    (ah (aD (i:=7) gD.nd rfl (Or.inr rfl) (aF vg hr (af (bL (aJ (K:=K) rfl) (pv 4) (pv 6) (λ_ _=>rfl)) (af (pv 5) (af (pv 1) ai)))))
    (ay (jT (i:=4) gD.nd rfl (z? rfl) (aG (N:=D5) (sl:=[q?,j? 7,j? 5,j? 1]) (aq iV) T5 rfl rfl (by decide +kernel)) rfl (bN (K:=K) rfl (au i6 (fU (fX (K:=K) rfl) (pv 4) iC (iD (pv 6))) (fU (fX (K:=K) rfl) (pv 4) (iD (au b8 (pv 6) ak)) iC))) (λ_ _ _ _ _=>(aE (i:=0) (Yk_ D5) rfl (z? rfl))) (λ_ _ _ _ _=>aU) (λ_ _ _ _ _=>(aF xD hr (af (pv 0) (af (pv 1) (af (pv 2) (af (pv 3) ai)))))))))
    (cD)))))
  (ay (aL (cA (aG (N:=["row","width"]) (sl:=[q?,j? 3]) (aq iV) T5 rfl rfl (by decide +kernel)) rfl (bN (K:=K) rfl (pv 4)) (λ_ _ _ _ _=>(aE (i:=0) (Yk_ ["row","width"]) rfl (z? rfl))) (λ_ _ _ _ _=>aU) (λ_ _ _ _ _=>(fU (fX (K:=K) rfl) (pv 0) (iD (pv 1)) iC)))))))),?_⟩
 have pp:=bM hp;have rv0:=rv;rw[tQ] at rv;obtain⟨l,vs,rfl,hl,_,C⟩:=id rv.cf;have lv:vs.length=R.length:=by rw[C.len,Ya]
 have SJ:∀ {i:Nat} {x:V} {H2:Hp},aI H H2->vs[i]?=j? x->∃a,R[i]?=j? a/\Rep H2 Any x (eN a):=λg hx=>by
  obtain⟨hi,r⟩:=C.get hx;rw[Ya] at hi;refine⟨_,Yc hi,?_⟩
  rw[Yb,Ye,Yc hi] at r;exact r.same g
 obtain⟨v0,hv0⟩:∃v0,vs[0]?=j? v0:=⟨_,Yc (by omega)⟩
 obtain⟨a0,ha0,r0⟩:=SJ (aI.refl H) hv0;obtain⟨l0,rfl,HX,_⟩:=ints_rep r0;have w0:=(hR a0 (Yy ha0)).1;refine uP (λ_:Unit=>[Rq l,Iq (p),Iq (R.length),q?,q?,q?,q?,q?]) (λ_ H2=>H=H2) (λC' key=>⟨_,rfl,l,_,rfl,.inl (aQ.of hl),IZ key () rfl (by rw[lv];rfl)⟩) ?_
 rintro _ _ rfl;refine uP (λ_:Unit=>[Rq l,Iq (p),Iq (R.length),Iq (W),q?,q?,q?,q?]) (λ_ H2=>H=H2) (λC' key=>⟨_,rfl,l,_,_,_,rfl,rfl,aQ.of hl,f9 (j:=0) hv0,l0,_,rfl,.inl (aQ.of HX),IZ key () rfl (by rw[Ya,w0];rfl)⟩) ?_
 rintro _ _ rfl;refine uP (λi:o?×List (List Int)=>[Rq l,Iq (p),Iq (R.length),Iq (W),Rq i.1,q?,q?,q?]) (λi H2=>aI H H2/\Rep H2 (eK H) (.ref i.1) (.vec (i.2.map eN))/\i.2=(Yk R.length).map λt=>R.getD t []++f6 R.length t) (λC' key=>?_) ?_
 ·skip
  refine⟨_,rfl,l,rfl,⟨_,aQ.of hl⟩,λD hD=>?_⟩
  refine yS (TM:=0) (xs:=vs) (λi ys H2=>aI H H2/\Cf H2 (Off H D) ys i λt=>eN (R.getD t []++f6 R.length t)) ⟨aB hD _,.nil⟩ (λi ys H2 _ h=>aQ.of (h.1 _ _ hl)) ?_ ?_
  ·rintro t m' x ys H2 r hm' ht hx hy hlen ⟨g2,cy⟩ hr2
   have htR:t<R.length:=by omega
   obtain⟨a,ha,ra⟩:=SJ g2 hx;have wa:=hR a (Yy ha);have k2:=aB hr2 (.tup [.int ((0+t:Nat):Int),x]);have e3:(upd H2 r (.tup [.int ((0+t:Nat):Int),x])) r=j? (.tup [.int ((0+t:Nat):Int),x]):=av;generalize upd H2 r (.tup [.int ((0+t:Nat):Int),x])=H3 at k2 e3;obtain⟨la,rfl,hla,_⟩:=ints_rep (ra.same k2);refine⟨r,_,rfl,k8.of e3,rfl,_,_,rfl,_,_,rfl,rfl,?_⟩
   refine⟨_,rfl,_,rfl,_,rfl,by omega,by omega,λD2 AO=>?_⟩
   rw[Yi];refine jx (λj zs H4=>aI H3 H4/\zs=((f6 R.length t).take j).map V.int) ⟨aB AO _,rfl⟩ ?_ ?_
   ·rintro j m2 zs H4 hm2 hj hz hlz ⟨g4,rfl⟩
    have hu:(f6 R.length t)[j]?=j? (if j=t then 1 else 0):=by unfold f6;rw[Ye,Y1 hj];rfl
    refine⟨_,rfl,_,rfl,rfl,_,rfl,?_⟩
    have fin:∀w:Int,(if j=t then (1:Int) else 0)=w->∃ys,H4 D2=j? (.lst ys)/\ys.length<K?/\∃m',m'<m2/\CW R.length D2 (λj zs H4=>aI H3 H4/\zs=((f6 R.length t).take j).map V.int) (j+1) m' (upd H4 D2 (.lst (ys++[V.int w]))):=λw hw=>
     CW.emit hm2 hj (by rw[C?];omega) hz hlz ⟨aI.bE g4 AO _,by rw[List.take_succ,hu,hw,Yz];rfl⟩
    by_cases c:j=t
    ·refine O1 (by rw[c];congr 1;try omega) (fin 1 (Jl c))
    ·refine O0 (λz=>c ?_) (fin 0 (Jk c))
     injection z with z
     omega
   ·rintro zs H4 hz ⟨g4,rfl⟩
    rw[Zz (by unfold f6;rw[Ya,Yf];exact Yd _)] at hz
    have lu:(f6 R.length t).length=R.length:=by unfold f6;rw[Ya,Yf]
    refine⟨la,D2,_,_,rfl,rfl,g4 _ _ hla,hz,by rw[Ya,Ya,wa.1,lu,C?];omega,λl5 n5=>?_⟩
    have k5:=aB n5 (.lst (a.map V.int++(f6 R.length t).map V.int));have e5:(upd H4 l5 (.lst (a.map V.int++(f6 R.length t).map V.int))) l5=j? (.lst ((a++f6 R.length t).map V.int)):=by rw[Yz];exact av
    generalize upd H4 l5 (.lst (a.map V.int++(f6 R.length t).map V.int))=H5 at k5 e5;have N3:=(k2.trans g4).trans k5;have VH:∀c,H2 c=q?->c≠D:=λc hc z=>by rw[z,hy] at hc;cases hc
    have YM:H2 l5=q?:=(k2.trans g4).free n5;refine CW.emit hm' ht (by rw[lv,C?];omega) (N3 _ _ hy) hlen ⟨aI.bE (g2.trans N3) hD _,?_⟩
    refine(Cf.push (cy.same N3) ?_).upd
    have et:R.getD t []=a:=by rw[Yb,ha];rfl
    rw[et];exact sE e5 ⟨g2.free YM,VH _ YM⟩
  ·rintro ys H2 hy ⟨g2,cy⟩
   refine IZ key (D,(Yk R.length).map λt=>R.getD t []++f6 R.length t) ⟨g2,?_,rfl⟩ rfl
   show Rep H2 (eK H) (.ref D) (.vec (((Yk R.length).map λt=>R.getD t []++f6 R.length t).map eN))
   rw[Jg];rw[lv] at cy;exact(cy.imp λc o h k=>⟨h,k.1⟩).rep hy hD
 rintro⟨lf,S⟩ H3 ⟨g3,rf,eS⟩
 have rf:Rep H3 (eK H) (.ref lf) (.vec (S.map eN)):=rf;have lS:S.length<=50:=by rw[show S=_ from eS,Ya,Yf];exact n2
 have hS:∀l∈S,Rw p (W+R.length) l:=λl hl'=>by
  rw[show S=_ from eS] at hl'
  obtain⟨t,ht,rfl⟩:=List.mem_map.mp hl';have ht:=List.mem_range.mp ht;have wt:=hR (R.getD t []) (by rw[Yb,Yc ht];exact Y0 ht)
  refine⟨by rw[Yg,wt.1];unfold f6;rw[Ya,Yf],λx hx=>?_⟩
  rcases List.mem_append.mp hx with h|h
  ·exact wt.2 x h
  ·obtain⟨j,_,rfl⟩:=List.mem_map.mp h
   split <;> omega
 have kS:C8 W R.length (λr j=>zr hp (R.getD r []) j) 0 (S.map (zr hp)):=by
  have:S.map (zr hp)=(Yk R.length).map (jQ W R.length λr j=>zr hp (R.getD r []) j):=by
   rw[show S=_ from eS,Jg]
   refine Wg λt ht=>?_
   have ht:=List.mem_range.mp ht;have e:R[t]?=j? (R.getD t []):=by rw[Yb,Yc ht];rfl
   exact Cs hp rfl hR e
  rw[this];exact C8.start
 have uS:MW W R.length (S.map (zr hp)):=by
  have:S.map (zr hp)=(Yk R.length).map (jQ W R.length λr j=>zr hp (R.getD r []) j):=by
   rw[show S=_ from eS,Jg]
   refine Wg λt ht=>?_
   have ht:=List.mem_range.mp ht;have e:R[t]?=j? (R.getD t []):=by rw[Yb,Yc ht];rfl
   exact Cs hp rfl hR e
  rw[this];exact MW.start
 clear eS;refine uP (λi:o?×Option V×Option V×Option V=>[Rq l,Iq (p),Iq (R.length),Iq (W),Rq i.1,i.2.1,i.2.2.1,i.2.2.2]) (λi H4=>aI H H4/\∃S:List (List Int),Rep H4 (eK H) (.ref i.1) (.vec (S.map eN))/\S.length<=50/\(∀l∈S,Rw p (W+R.length) l)/\MW W R.length (S.map (zr hp))/\C8 W R.length (λr j=>zr hp (R.getD r []) j) W (S.map (zr hp))) (λC' key=>?_) ?_
 ·skip
  refine⟨_,rfl,_,rfl,by omega,by omega,?_⟩
  rw[Yi];refine dO (λk σ H4=>aI H H4/\∃(lf:o?) (S:List (List Int)) (o1 o2 o3:Option V),σ=[Rq l,Iq (p),Iq (R.length),Iq (W),Rq lf,o1,o2,o3]/\Rep H4 (eK H) (.ref lf) (.vec (S.map eN))/\S.length<=50/\(∀l∈S,Rw p (W+R.length) l)/\MW W R.length (S.map (zr hp))/\C8 W R.length (λr j=>zr hp (R.getD r []) j) k (S.map (zr hp))) ⟨g3,lf,S,_,_,_,rfl,rf,lS,hS,uS,kS⟩ ?_ ?_
  ·rintro k σ H4 hk ⟨g4,lf,S,o1,o2,o3,rfl,rf,lS,hS,uS,kS⟩
   show iO 5 (V.int (0+(k:Int))) _ _ _
   rw[Z5];have YN:=rf;rw[tQ] at rf;obtain⟨VI,fs,VJ,QY,nlf,CF⟩:=id rf.cf;obtain rfl:lf=VI:=V.ref.inj VJ
   have Ua:fs.length=S.length:=by rw[CF.len,Ya]
   have fget:∀ {i:Nat} {x:V} {H2:Hp},aI H4 H2->fs[i]?=j? x->∃a,S[i]?=j? a/\Rep H2 Any x (eN a):=λg hx=>by
    obtain⟨hi,r⟩:=CF.get hx;rw[Ya] at hi;refine⟨_,Yc hi,?_⟩
    rw[Yb,Ye,Yc hi] at r;exact(r.same g).any
   refine⟨_,rfl,_,rfl,p,W+R.length,k,.ref lf,S,rfl,YN.any,hS,by omega,by omega,λt s0 H5 g5 ht h0=>?_,λh0 H5 g5=>?_⟩
   ·have ht':=(List.getElem?_eq_some_iff.mp ht).1
    refine⟨_,rfl,rfl,_,rfl,Bu (λz=>by cases z) ?_⟩
    have g45:=g4.trans g5;obtain⟨xt,hxt⟩:∃x,fs[t]?=j? x:=⟨_,Yc (by omega)⟩
    obtain⟨s0',SK,rx0⟩:=fget g5 hxt;obtain rfl:s0=s0':=by rw[ht] at SK;exact M? SK
    have SM:=Yy ht;refine⟨_,rfl,_,rfl,lf,_,_,_,rfl,rfl,aQ.of (g5 _ _ QY),f9 (j:=t) hxt,_,rfl,_,rfl,p,hp,W+R.length,k,xt,s0,rfl,rx0,hS s0 SM,by omega,by omega,h0,λb r6 H6 hb g6 Ub=>?_⟩
    have QX:=g5.trans g6;refine⟨_,rfl,_,rfl,_,rfl,lf,_,rfl,aQ.of (QX _ _ QY),λl7 n7=>?_⟩
    rw[Mq fs t (by omega)]
    generalize hX:upd H6 l7 _=H7;have x7:=cC n7 hX;clear hX;refine⟨_,rfl,_,rfl,_,_,rfl,rfl,_,rfl,lf,_,rfl,aQ.of (x7.1 _ _ (QX _ _ QY)),λl8 n8=>?_⟩
    rw[show iZ fs (j? ((t:Int)+1)) q?=fs.drop (t+1) from by rw[show(t:Int)+1=((t+1:Nat):Int) by omega];exact y_ fs (t+1) (by omega)]
    generalize hX:upd H7 l8 _=H8;have x8:=cC n8 hX;clear hX;refine⟨l7,l8,_,_,rfl,rfl,x8.1 _ _ x7.2,x8.2,by rw[Y3,Ze,C?];omega,λl9 n9=>?_⟩
    generalize hX:upd H8 l9 _=H9;have x9:=cC n9 hX;clear hX;have QZ:=(x7.1.trans x8.1).trans x9.1;have MX:=QX.trans QZ;refine⟨l9,rfl,⟨_,aQ.of x9.2⟩,λD hD=>?_⟩
    have VL:=Ub.same QZ;have wl:=(hS s0 SM).lead hp (b:=b);have hSS:∀(i:Nat) x,(fs.take t++fs.drop (t+1))[i]?=j? x->∃a,(S.take t++S.drop (t+1))[i]?=j? a/\∀H2,aI H4 H2->Rep H2 Any x (eN a):=λi x hx=>by
     rw[vJ (by omega)] at hx
     obtain⟨a,ha,_⟩:=fget (aI.refl H4) hx;exact⟨a,by rw[vJ ht'];exact ha,λH2 g=>by obtain⟨a',ha',r⟩:=fget g hx;rw[ha] at ha';cases ha';exact r⟩
    have VM:(S.take t++S.drop (t+1)).length=(fs.take t++fs.drop (t+1)).length:=by rw[Yg,Yg,Y3,Y3,Ze,Ze,Ua]
    have SN:∀a∈S.take t++S.drop (t+1),a∈S:=λa ha=>(List.mem_append.mp ha).elim List.mem_of_mem_take List.mem_of_mem_drop
    have nD:H D=q?:=(g4.trans MX).free hD;refine gY (xs:=fs.take t++fs.drop (t+1)) (λi ys H2=>aI H9 H2/\Cf H2 (Off H D) ys i λi=>eN (((S.take t++S.drop (t+1)).map λa=>Wd (λx y=>(x-a.getD k 0*y) % (p:Int)) a (s0.map λx=>((b:Int)*x) % (p:Int))).getD i [])) ⟨aB hD _,.nil⟩ (λi ys H2 _ h=>aQ.of (h.1 _ _ x9.2)) ?_ ?_
    ·rintro i m' x ys H2 hm' hi hx hy hlen ⟨g2,cy⟩
     obtain⟨a,ha,ra⟩:=hSS i x hx;have ma:=SN a (Yy ha);refine⟨_,rfl,_,rfl,_,rfl,_,rfl,p,W+R.length,k,x,r6,a,_,rfl,hp,ra H2 (MX.trans g2),(VL.same g2).any,hS a ma,wl,by omega,by omega,λr H3 g3 rr=>?_⟩
     refine CW.emit hm' hi (by rw[<- VM,Yg,Y3,Ze,C?];omega) (g3 _ _ hy) hlen ⟨aI.bE (g2.trans g3) hD _,?_⟩
     refine(Cf.push (cy.same g3) ?_).upd
     have e:((S.take t++S.drop (t+1)).map λa=>Wd (λx y=>(x-a.getD k 0*y) % (p:Int)) a (s0.map λx=>((b:Int)*x) % (p:Int))).getD i []=Wd (λx y=>(x-a.getD k 0*y) % (p:Int)) a (s0.map λx=>((b:Int)*x) % (p:Int)):=by rw[Yb,Ye,ha];rfl
     rw[e];refine rr.imp λc o h kk=>⟨h,((g4.trans MX).trans g2).free kk,λz=>?_⟩
     rw[z] at kk;rw[show H2 D=q? from kk] at hy
     cases hy
    ·rintro ys H2 hy ⟨g2,cy⟩
     show iO 4 (V.ref D) _ _ _
     have gA:=(g4.trans MX).trans g2;refine⟨gA,D,(S.take t++S.drop (t+1)).map (λa=>Wd (λx y=>(x-a.getD k 0*y) % (p:Int)) a (s0.map λx=>((b:Int)*x) % (p:Int))),_,_,_,rfl,?_,?_,?_,?_,?_⟩
     ·rw[tQ,Ya,Ya,VM]
      refine(Cf.congr (cy.imp λc o h kk=>⟨h,kk.1⟩) λi hi=>?_).rep hy nD
      rw[Yb,Yb,Ye (f:=eN)];cases hz:((S.take t++S.drop (t+1)).map λa=>Wd (λx y=>(x-a.getD k 0*y) % (p:Int)) a (s0.map λx=>((b:Int)*x) % (p:Int)))[i]? with
      | none=>exact Jr (List.getElem?_eq_none_iff.mp hz) (by rw[Ya,VM];omega)
      | some z=>rfl
     ·rw[Ya,Yg,Y3,Ze];omega
     ·intro l' hl'
      obtain⟨a,ha,rfl⟩:=List.mem_map.mp hl';exact(hS a (SN a ha)).without hp wl
     ·refine uS.step (t:=t) (k:=k) (s0:=zr hp s0) (r:=zr hp (s0.map λx=>((b:Int)*x) % (p:Int))) (b:=nt (ground p hp).α b) (by rw[Ye,ht];rfl) (λj=>AU hp (hS s0 SM) j) (by rw[Ya,Ya,Ya,Yg,Y3,Ze];omega) λi s' hi=>?_
      rw[Ye,Ye,vJ ht'] at hi;cases hz:S[if i<t then i else i+1]? with
      | none=>rw[hz] at hi;cases hi
      | some a=>
       rw[hz] at hi;cases hi;have wa:=hS a (Yy hz);exact⟨zr hp a,by rw[Ye,hz];rfl,λj=>qC hp wa wl (wa.get k).1 j⟩
     ·have b0:=hS s0 SM
      refine kS.step (r:=zr hp (s0.map λx=>((b:Int)*x) % (p:Int))) (s0:=zr hp s0) (b:=nt (ground p hp).α b) (List.mem_map.mpr ⟨s0,SM,rfl⟩) (λj=>AU hp b0 j) ?_ ?_ ?_
      ·rw[AU hp b0]
       show nt (ground p hp).α b*nt (ground p hp).α (s0.getD k 0).toNat=1
       rw[<- nH,<- DM (ground p hp).ch];show nt (ground p hp).α (b*(s0.getD k 0).toNat % p)=1
       rw[hb];exact nI
      ·intro z hz
       obtain⟨a,ha,rfl⟩:=List.mem_map.mp hz;obtain⟨i,hi,rfl⟩:=Ws ha;by_cases c:i=t
       ·left
        subst c;rw[Yc hi] at ht;cases ht;rfl
       ·right
        refine List.mem_map.mpr ⟨_,List.mem_map.mpr ⟨S[i],?_,rfl⟩,?_⟩
        ·refine List.mem_iff_getElem?.mpr ⟨if i<t then i else i-1,?_⟩
         rw[vJ ht'];by_cases c2:i<t
         ·rw[Jl c2,Jl c2];exact Yc hi
         ·rw[Jk c2,Jk (by omega),show i-1+1=i by omega];exact Yc hi
        ·funext j
         exact qC hp (hS _ (Y0 hi)) wl ((hS _ (Y0 hi)).get k).1 j
      ·intro z hz
       obtain⟨y,hy',rfl⟩:=List.mem_map.mp hz;obtain⟨a,ha,rfl⟩:=List.mem_map.mp hy';refine⟨zr hp a,List.mem_map.mpr ⟨a,SN a ha,rfl⟩,?_⟩
       funext j
       exact qC hp (hS a (SN a ha)) wl ((hS a (SN a ha)).get k).1 j
   ·refine⟨_,rfl,rfl,_,rfl,v5 rfl ?_⟩
    exact⟨g4.trans g5,lf,S,_,_,_,rfl,YN.same g5,lS,hS,uS,kS.skip λr hr=>by
     obtain⟨a,ha,rfl⟩:=List.mem_map.mp hr;show nt (ground p hp).α (a.getD k 0).toNat=0
     rw[h0 a ha];rfl⟩
  ·rintro σ H4 ⟨g4,lf,S,o1,o2,o3,rfl,rf,lS,hS,uS,kS⟩
   exact key (lf,o1,o2,o3) _ ⟨g4,S,rf,lS,hS,uS,kS⟩
 rintro⟨lf,o1,o2,o3⟩ H4 ⟨g4,S,rf,lS,hS,uS,kS⟩
 rw[tQ] at rf;obtain⟨VI,fs,VJ,QY,nlf,CF⟩:=id rf.cf;obtain rfl:lf=VI:=V.ref.inj VJ
 have Ua:fs.length=S.length:=by rw[CF.len,Ya]
 refine⟨_,rfl,lf,rfl,⟨_,aQ.of QY⟩,λD hD=>?_⟩
 have nD:H D=q?:=g4.free hD;refine gY (xs:=fs) (λi ys H2=>aI H4 H2/\Cf H2 (Off H D) ys i λi=>eN ((S.getD i []).drop W)) ⟨aB hD _,.nil⟩ (λi ys H2 _ h=>aQ.of (h.1 _ _ QY)) ?_ ?_
 ·rintro i m' x ys H2 hm' hi hx hy hlen ⟨g2,cy⟩
  obtain⟨hi',rx⟩:=CF.get hx;rw[Ya] at hi';rw[Yb,Ye,Yc hi'] at rx;have rx:Rep H4 (eK H) x (eN S[i]):=rx;obtain⟨la,rfl,hla,_⟩:=ints_rep (rx.same g2);have wa:=hS _ (Y0 hi');refine⟨_,rfl,_,rfl,_,rfl,la,_,rfl,aQ.of hla,λl5 n5=>?_⟩
  rw[y_ _ W (by rw[Ya,wa.1];omega)]
  generalize hX:upd H2 l5 _=H5;have x5:=cC n5 hX;clear hX;have N3:=g2.trans x5.1;refine CW.emit hm' hi (by rw[Ua,C?];omega) (x5.1 _ _ hy) hlen ⟨aI.bE N3 hD _,?_⟩
  refine(Cf.push (cy.same x5.1) ?_).upd
  have e:S.getD i []=S[i]:=by rw[Yb,Yc hi'];rfl
  rw[e];refine sE (by rw[List.map_drop];exact x5.2) ⟨(g4.trans g2).free n5,λz=>?_⟩
  rw[z,hy] at n5;cases n5
 ·rintro ys H2 hy ⟨g2,cy⟩
  refine q S _ H2 (g4.trans g2) hS lS (λl hl=>?_) kS ?_
  ·obtain⟨ι,h1,h2⟩:=uS
   obtain⟨t,ht,rfl⟩:=Ws hl;have e:=h2 t t (zr hp S[t]) (by rw[Ye,Yc ht];rfl) (by rw[Ya];exact ht)
   refine⟨ι t,h1 t (by rw[Ya];exact ht),λz=>?_⟩
   rw[Jl rfl] at e;unfold zr at e;rw[z] at e;exact(ground p hp).fld.1 e.symm
  rw[tQ,Ya,<- Ua];refine(Cf.congr (cy.imp λc o h kk=>⟨h,kk.1⟩) λi hi=>?_).rep hy nD
  rw[Yb,Yb,Ye,Yc (by omega)]
  rfl
end
def AW:Sp:=λvs H Q _=>∃(n k:Nat) (x:Int),vs=[.int (n:Int),.int (k:Int),.int x]/\n<=1000/\∀r H',aI H H'->Rep H' (eK H) r (rE n λj=>if j=k then x else 0)->Q r H'
section
theorem Cz (B:iY mg)(F:Src K mg "unit_row" mD AH):b_ P w K mg base 1 "unit_row" AH AW:=by
 refine F.ok B_ (λvs H Q E h=>?_) (λf cdv A outer s H vs Q E hr h=>?_)
 ·obtain⟨n,k,x,rfl,_⟩:=h;rfl
 obtain⟨n,k,x,rfl,hn,q⟩:=h;refine⟨_,ay (aL (cA (aG (N:=["at","place","number"]) (sl:=[q?,j? 1,j? 2]) (aq mD) AH rfl rfl (by decide +kernel)) rfl (bU rfl B.range (af (pv 0) ai)) (λ_ _ _ _ _=>(aE (i:=0) (Yk_ ["at","place","number"]) rfl (z? rfl))) (λ_ _ _ _ _=>aU) (λ_ _ _ _ _=>(vQ (aX iP (pv 0) (pv 1) (bC _)) (pv 2) ak)))),?_⟩
 refine⟨_,rfl,_,rfl,by omega,by omega,λD hD=>?_⟩
 rw[Yi];refine BV (λj=>.num (if j=k then x else 0)) hD hn (λi H2 Q2 hi g2 q2=>?_) λH2 g2 rr=>q _ H2 g2 rr
 walk_at "rd"
 refine fV (λc=>?_) (λc=>?_)
 ·have e:i=k:=by have:=V.int.inj (Jn c);omega
  rw[Jl e] at q2;exact⟨_,rfl,q2 _ H2 (aI.refl _) (.num _)⟩
 ·have e:i≠k:=λz=>c (Jm (by rw[z,Z5]))
  rw[Jk e] at q2;exact q2 _ H2 (aI.refl _) (.num _)
structure Eu (k m a b f g A C:Int):Prop where
 pos:0<a
 nn:0<=b
 le:b<=m
 A0:0<=A
 C0:0<=C
 sg:(f=A/\g=-C)\/(f=-A/\g=C)
 sum:a*C+b*A=m
 cf:∃t,f*k=a+m*t
 cg:∃t,g*k=b+m*t
 bz:∃x y:Int,x*a+y*b=1
theorem Eu.bnd {k m a b f g A C:Int}(h:Eu k m a b f g A C):g.natAbs<=m.natAbs:=by
 have h1:C<=a*C:=by
  have:=Int.mul_le_mul_of_nonneg_right (show 1<=a by have:=h.pos;omega) h.C0
  omega
 have h2:=Ja h.nn h.A0;have h3:=h.sum;have h4:=h.C0;rcases h.sg with ⟨_,e⟩|⟨_,e⟩ <;> omega
theorem Eu.step {k m a b f g A C q:Int}(h:Eu k m a b f g A C)(hb:0<b)(hq:q=a / b):Eu k m b (a-q*b) g (f-q*g) C (A+q*C)/\a-q*b<b:=by
 have e1:a-q*b=a % b:=by rw[hq,Int.emod_def,Zf]
 have h1:=Zr a (show b≠0 by omega)
 have h2:=Zm a hb;have q0:0<=q:=by rw[hq];exact Int.ediv_nonneg (by have:=h.pos;omega) (by omega)
 have le:=h.le;obtain⟨t,ht⟩:=h.cf;obtain⟨t',ht'⟩:=h.cg;obtain⟨x,y,hxy⟩:=h.bz;refine⟨⟨hb,by omega,by omega,h.C0,by have:=Ja q0 h.C0;have:=h.A0;omega,?_,?_,⟨t',ht'⟩,⟨t-q*t',?_⟩,⟨x*q+y,x,?_⟩⟩,by omega⟩
 ·rcases h.sg with ⟨e,e'⟩|⟨e,e'⟩
  ·exact .inr ⟨e',by rw[e,e'];grind⟩
  ·exact .inl ⟨e',by rw[e,e'];grind⟩
 ·have:=h.sum;grind
 ·grind
 ·grind
def Kv:Sp:=λvs H Q _=>∃k m:Int,vs=[.int k,.int m]/\0<k/\2<=m/\Bd 8000 k/\Bd 8000 m/\(∃x y:Int,x*k+y*m=1)/\∀b t:Int,0<=b->b<m->b*k=1+m*t->∀H',aI H H'->Q (.int b) H'
theorem Ei (F:Src K mg "back_by" tZ ["k","power"]):b_ P w K mg base 1 "back_by" ["k","power"] Kv:=by
 refine F.ok gv (λvs H Q E h=>?_) (λf cdv A outer s H vs Q E hr h=>?_)
 ·obtain⟨k,m,rfl,_⟩:=h;rfl
 obtain⟨k,m,rfl,hk,hm,bk,bm,hb,q⟩:=h;refine⟨_,ah (vR (i:=2) (j:=3) rfl gv.nd rfl rfl (by decide) rfl rfl (af (pv 0) (af (pv 1) ai)) rfl)
  (ah (sW (jw (af ak (af ak ai))) (dG (n:=2) (K:=K) rfl rfl (aY (aE (i:=4) gv.nd rfl (z? rfl)) (aY (aE (i:=5) gv.nd rfl (z? rfl)) dD))))
  (ah (eV D? (aX uI (pv 3) ak (bC _))
   (ah (aD (i:=6) gv.nd rfl (z? rfl) (au bK (pv 2) (pv 3)))
   (ah (vR (i:=2) (j:=3) rfl gv.nd rfl rfl (by decide) rfl rfl (af (pv 3) (af (au bY (pv 2) (au aV (pv 6) (pv 3))) ai)) rfl)
   (ay (vR (i:=4) (j:=5) rfl gv.nd rfl rfl (by decide) rfl rfl (af (pv 5) (af (au bY (pv 4) (au aV (pv 6) (pv 5))) ai)) rfl)))))
  (ay (aL (au bw (pv 4) (pv 1)))))),?_⟩
 walk_at "rd"
 refine⟨_,_,rfl,a_ rfl,λp hp=>⟨p,_,rfl,k8.of av,rfl,_,_,rfl,_,_,rfl,rfl,?_⟩⟩
 have g0:=aB hp (.tup [.int 1,.int 0]);generalize L2.upd H p (.tup [.int 1,.int 0])=H1 at g0 ⊢;refine jy (λσ H2=>H2=H1/\∃(a b f g:Int) (o:Option V) (A C:Int),σ=[j? (.int k),j? (.int m),j? (.int a),j? (.int b),j? (.int f),j? (.int g),o]/\Eu k m a b f g A C/\Bd 8000 a) (λσ _=>match σ with | [_,_,_,j? (.int b),_,_,_]=>b.toNat|_=>0)
  ⟨rfl,k,m,1,0,_,1,0,rfl,⟨hk,by omega,by omega,by decide,by decide,.inl ⟨rfl,rfl⟩,by omega,⟨0,by omega⟩,⟨-1,by omega⟩,hb⟩,bk⟩ ?_
 rintro σ H2 ⟨rfl,a,b,f,g,o,A,C,rfl,e,ba⟩;refine⟨_,rfl,rfl,_,rfl,?_⟩
 have le:=e.le;have nn:=e.nn;by_cases z:b=0
 ·refine v5 (by rw[z]) ?_
  refine⟨_,rfl,_,rfl,_,_,rfl,rfl,(show m≠0 by omega),?_⟩
  obtain⟨x,y,hxy⟩:=e.bz;have a1:a=1:=by
   have:a ∣ 1:=⟨x,by rw[<- hxy,z];grind⟩
   have:=W6 (by decide) this
   have:=e.pos;omega
  obtain⟨t,ht⟩:=e.cf;show Q (V.int (f.fmod m)) H2
  rw[Y8 _ (show 0<=m by omega)]
  exact q _ (t-f / m*k) (Zr _ (by omega)) (Zm _ (by omega)) (by rw[Int.emod_def,a1] at *;grind) H2 g0
 ·refine Bu (λy=>z (V.int.inj y)) (win ?_)
  have b0:0<b:=by omega
  have bb:Bd 8000 b:=Bd.le (y:=m) (by omega) bm
  have bg:Bd 8000 g:=Bd.le e.bnd bm;have eq:a.fdiv b=a / b:=Zs _ (by omega)
  obtain⟨e',hlt⟩:=e.step b0 eq;have bq:Bd 8000 (a.fdiv b):=ba.fdiv;refine⟨_,rfl,_,rfl,_,_,rfl,rfl,bb.dv (by omega),?_⟩
  refine⟨_,rfl,_,rfl,_,rfl,_,rfl,_,_,rfl,rfl,bq.ok bb,_,_,rfl,rfl,_,_,rfl,?_⟩
  refine⟨_,rfl,_,rfl,_,rfl,_,rfl,_,_,rfl,rfl,bq.ok bg,_,_,rfl,rfl,_,_,rfl,?_⟩
  refine⟨⟨rfl,b,_,g,_,_,C,_,rfl,e',bb⟩,?_⟩
  show(a-a.fdiv b*b).toNat<b.toNat
  omega
inductive xE (K:bX)(vs:List V)(H:Hp)(Q:VK)(Ce:XK):Prop where
 | mk (n:Nat) (u v:V) (T:Nat->Vc) (x c:Vc) (Ci:vs=[u,v]) (Cj:Rep H Any u (mE n n T)) (Ck:Rep H Any v (rE n x)) (Cm:n<=100) (Cn:c7 n T) (Co:(∀j,j<n->x j=sm n c T j)) (Cq:(∀i,i<n->Bd 100000 (c i))) (C9:(∀i j,i<n->j<n->Bd 8000 (T i j))) (Eg:∀r H',aI H H'->Rep H' (eK H) r (rE n c)->Q r H')
theorem Qg {n:Nat}{c:Vc}{i:Nat}(hi:i<=n):(lv i λj=>c (n-1-j)).reverse=(lv n c).drop (n-i):=by
 refine Z7 λk=>?_
 unfold lv;by_cases hk:k<i
 ·rw[List.getElem?_reverse (by rw[Ya,Yf];exact hk),Ya,Yf,Ye,Y1 (by omega),List.getElem?_drop,Ye,Y1 (by omega)]
  show j? (c (n-1-(i-1-k)))=j? (c (n-i+k))
  congr 2;omega
 ·rw[List.getElem?_eq_none_iff.mpr (by rw[Z8,Ya,Yf];omega),List.getElem?_eq_none_iff.mpr (by rw[Ze,Ya,Yf];omega)]
theorem F4 (n:Nat)(v:Vc):lv (n+1) v=lv n v++[v n]:=by unfold lv;rw[Wy,Yz];rfl
theorem xF (B:iY mg)(F:Src K mg "coordinates" iK G2):b_ P w K mg base 1 "coordinates" G2 (xE K):=by
 refine F.ok eL (λvs H Q E h=>?_) (λf cdv A outer s H vs Q E hr h=>?_)
 ·obtain⟨n,u,v,T,x,c,rfl,_⟩:=h;rfl
 obtain⟨n,u,v,T,x,c,rfl,ru,rv,hn,hT,hx,bc,bT,q⟩:=h;obtain⟨lu,us,rfl,YO,_,Cu⟩:=ru.cf;obtain⟨lx,rfl,hlx,_⟩:=eU rv;refine⟨_,ah (aD (i:=2) eL.nd rfl (z? rfl) (pv 1))
  (ah (aD (i:=3) eL.nd rfl (z? rfl) (bI ai))
  (ah (cU D? rfl (zT rfl B.reversed (af (v_ rfl B.range (af (aS (aT (K:=K) rfl) rfl B.len cB (af (pv 1) ai)) ai)) ai)) (aE (i:=4) eL.nd rfl (z? rfl))
   (ah (aD (i:=5) eL.nd rfl (Or.inr rfl) (au bK (bL (aJ (K:=K) rfl) (pv 2) (pv 4) (λ_ _=>rfl)) (bL (aJ (K:=K) rfl) (bL (aJ (K:=K) rfl) (pv 0) (pv 4) (λ_ _=>rfl)) (pv 4) (λ_ _=>rfl))))
   (ah (jT (i:=2) eL.nd rfl (z? rfl) (aG (N:=["number","more","often"]) (sl:=[q?,q?,j? 5]) (aq iK) ["lattice","row","left","told","place","often"] rfl rfl (by decide +kernel)) rfl (vD (K:=K) rfl rfl B.zip (af (pv 2) (af (bL (aJ (K:=K) rfl) (pv 0) (pv 4) (λ_ _=>rfl)) ai))) (λ_ _ _ _ _=>(dG (n:=2) (K:=K) rfl rfl (aY (aE (i:=0) (Yk_ ["number","more","often"]) rfl (z? rfl)) (aY (aE (i:=1) (Yk_ ["number","more","often"]) rfl (z? rfl)) dD)))) (λ_ _ _ _ _=>aU) (λ_ _ _ _ _=>(au bY (pv 0) (au aV (pv 2) (pv 1)))))
   (ay (fH (q9 R? F! G! eB (pv 3) (af (pv 5) ai)))))))
  (ah (fH (Dh R? PySem.F.slot_list_reverse PySem.F.type_list_reverse pZ (pv 3) ))
  (ay (aL (pv 3)))))),?_⟩
 walk_at "rd"
 intro p hp;have g0:=aB hp (.lst []);refine⟨_,rfl,lx,_,rfl,.inl (aQ.of (g0 _ _ hlx)),?_⟩
 rw[Ya,bW];refine⟨_,rfl,λp3 n3=>?_⟩
 have k3:=aB n3 (.sO 0 (n:Int));refine⟨p3,_,rfl,av,by omega,by omega,?_⟩
 rw[Yi];have g3:=g0.trans k3;have lxp:lx≠p:=bG hlx hp;refine wc (λi σ H2=>aI H H2/\∃(ra:o?) (o1 o2:Option V),σ=[Rq lu,Rq lx,Rq ra,Rq p,o1,o2]/\H2 p=j? (.lst ((lv i λj=>c (n-1-j)).map V.int))/\H2 ra=j? (.lst ((lv n λj=>sm (n-i) c T j).map V.int))/\ra≠p)
  ⟨g3,lx,_,_,rfl,k3 _ _ av,?_,lxp⟩ ?_ ?_
 ·rw[g3 _ _ hlx]
  congr 3
  unfold lv;exact Wg λj hj=>hx j (List.mem_range.mp hj)
 ·rintro i σ H2 hi ⟨g2,ra,o1,o2,rfl,ep,era,hne⟩
  obtain⟨d,hd⟩:∃d,d+1+i=n:=⟨n-1-i,by omega⟩
  have ed:((n:Int)-1-(i:Int))=((d:Nat):Int):=by omega
  rw[show n-i=d+1 by omega] at era
  obtain⟨vd,hvd,rd⟩:=Cu.at_ d (by omega)
  obtain⟨ld,rfl,VN,_⟩:=eU rd;have hat:qZ us ((d:Nat):Int)=j? (.ref ld):=f9 hvd;have T0:=hT.nz d (by omega)
  rw[ed];refine⟨_,rfl,_,rfl,ra,_,_,_,rfl,rfl,aQ.of era,pT (by omega),_,rfl,_,rfl,lu,_,_,_,rfl,rfl,aQ.of (g2 _ _ YO),hat,_,rfl,ld,_,_,_,rfl,rfl,aQ.of (g2 _ _ VN),pT (by omega),_,_,rfl,rfl,(bT d d (by omega) (by omega)).dv T0,?_⟩
  show iO 5 (V.int ((sm (d+1) c T d).fdiv (T d d))) _ _ _
  rw[hT.at_ c (by omega),Int.mul_fdiv_cancel _ T0]
  refine⟨_,rfl,_,rfl,_,rfl,lu,_,_,_,rfl,rfl,aQ.of (g2 _ _ YO),hat,ra,ld,rfl,⟨_,aQ.of era⟩,⟨_,aQ.of (g2 _ _ VN)⟩,λD hD=>?_⟩
  refine PF (λj=>.num (sm d c T j)) (n:=n) (by rw[Ya,bW]) (by rw[Ya,bW]) era (g2 _ _ VN) hD (by omega) (λj vx vy t H3 Q2 hj g3 kZ Ku ht q2=>?_) λH3 g3 rr=>?_
  ·obtain⟨y1,hy1,rfl⟩:=bh kZ
   obtain⟨y2,MT,rfl⟩:=bh Ku;rw[d7 hj] at hy1 MT;cases hy1;cases MT;refine⟨t,_,rfl,k8.of ht,rfl,_,_,rfl,_,_,rfl,rfl,?_⟩
   refine⟨_,rfl,_,rfl,_,rfl,_,_,rfl,rfl,(bc d (by omega)).ok (bT d j (by omega) hj),_,_,rfl,rfl,?_⟩
   have e:sm (d+1) c T j-c d*T d j=sm d c T j:=by show sm d c T j+c d*T d j-c d*T d j=_;omega
   show Q2 (V.int (sm (d+1) c T j-c d*T d j)) H3
   rw[e];exact q2 _ H3 (aI.refl _) (.num _)
  ·have fD:H D=q?:=g2.free hD
   obtain⟨l2,e2,VO,_⟩:=eU rr;cases e2;have YQ:=g3 _ _ ep;have SI:D≠p:=λz=>by rw[z,ep] at hD;cases hD
   refine⟨_,rfl,.inl ⟨rfl,_,aQ.of YQ⟩,_,rfl,p,_,_,rfl,rfl,YQ,by rw[Ya,bW,C?];omega,?_⟩
   refine⟨(g2.trans g3).bE hp _,D,_,_,rfl,?_,?_,SI⟩
   ·rw[av,F4,Yz,show n-1-i=d by omega];rfl
   ·rw[aN SI,show n-(i+1)=d by omega];exact VO
 ·rintro σ H2 ⟨g2,ra,o1,o2,rfl,ep,era,hne⟩
  refine⟨_,rfl,.inl ⟨rfl,_,aQ.of ep⟩,p,_,rfl,rfl,ep,?_⟩
  rw[<- List.map_reverse,Qg (Yd n),W4,List.drop_zero];exact⟨_,rfl,q _ _ (g2.bE hp _) (Jv av hp)⟩
theorem Kw {x:Vc}{A:Nat->Vc}{i:Nat}:∀k,(lv k λm=>x m*A m i).sum=sm k x A i
 | 0=>rfl
 | k+1=>by rw[F4,List.sum_append,Kw k];show sm k x A i+(x k*A k i+0)=sm k x A i+x k*A k i;omega
inductive sF (K:bX)(vs:List V)(H:Hp)(Q:VK)(Ce:XK):Prop where
 | mk (k n:Nat) (u v:V) (x:Vc) (A:Nat->Vc) (Ci:vs=[u,v]) (Cj:Rep H Any u (rE k x)) (Ck:Rep H Any v (mE k n A)) (Cm:1<=k) (Cn:k<=1000) (Co:n<=1000) (Cq:(∀i,i<k->Bd 100000 (x i))) (C9:(∀i j,i<k->j<n->Bd 100000 (A i j))) (Eg:∀r H',aI H H'->Rep H' (eK H) r (rE n λj=>sm k x A j)->Q r H')
theorem G7 (B:iY mg)(F:Src K mg "summed" kU AI):b_ P w K mg base 1 "summed" AI (sF K):=by
 refine F.ok G4 (λvs H Q E h=>?_) (λf cdv A outer s H vs Q E hr h=>?_)
 ·obtain⟨k,n,u,v,x,A,rfl,_⟩:=h;rfl
 obtain⟨k,n,u,v,x,A,rfl,ru,rv,hk1,hk,hn,bx,bA,q⟩:=h;obtain⟨lx,rfl,hlx,_⟩:=eU ru;obtain⟨lA,us,rfl,Lx,_,C⟩:=rv.cf;refine⟨_,ay (aL (wM (iF (N:=["place","numbers","rows"]) (sl:=[q?,j? 0,j? 1]) "place" (aq kU) AI rfl rfl (by decide +kernel)) rfl (bU rfl B.range (af (aS (aT (K:=K) rfl) rfl B.len cB (af (bL (aJ (K:=K) rfl) (pv 1) ak (λ_ _=>rfl)) ai)) ai)) (λ_ _ _ _ _=>(aE (i:=0) (Yk_ ["place","numbers","rows"]) rfl (Or.inr rfl))) (λ_ _ _ _ _=>aU) (λ_ _ _ _ _=>(aS (tR (K:=K) rfl rfl) rfl B.sum Dl (af (cA (aG (N:=["many","row","place"]) (sl:=[q?,q?,j? 0]) (rT (z6 ((cE kU).getD 0 (.Pass ⟨0,0,0,0⟩))) (aq kU)) ["place","numbers","rows"] rfl rfl (by decide +kernel)) rfl (vD (K:=K) rfl rfl B.zip (af (pv 1) (af (pv 2) ai))) (λ_ _ _ _ _=>(dG (n:=2) (K:=K) rfl rfl (aY (aE (i:=0) (Yk_ ["many","row","place"]) rfl (z? rfl)) (aY (aE (i:=1) (Yk_ ["many","row","place"]) rfl (z? rfl)) dD)))) (λ_ _ _ _ _=>aU) (λ_ _ _ _ _=>(au aV (pv 0) (bL (aJ (K:=K) rfl) (pv 1) (pv 2) (λ_ _=>rfl))))) ai))))),?_⟩
 walk_at "rd"
 obtain⟨v0,hv0,r0⟩:=C.at_ 0 (by omega)
 obtain⟨l0,rfl,HX,_⟩:=eU r0;have Ky:qZ us 0=j? (.ref l0):=f9 (j:=0) hv0;refine⟨lA,_,_,_,rfl,rfl,aQ.of Lx,Ky,l0,_,rfl,.inl (aQ.of HX),?_⟩
 rw[Ya,bW];refine⟨_,rfl,by omega,by omega,λD hD=>?_⟩
 rw[Yi];refine BV (λj=>.num (sm k x A j)) hD hn (λi H2 Q2 hi g2 q2=>?_) λH2 g2 rr=>q _ H2 g2 rr
 rw[Z5];refine⟨_,rfl,_,rfl,lx,lA,rfl,⟨_,aQ.of (g2 _ _ hlx)⟩,⟨_,aQ.of (g2 _ _ Lx)⟩,λD2 AO=>?_⟩
 refine PF (λm=>.num (x m*A m i)) (n:=k) (by rw[Ya,bW]) C.len (g2 _ _ hlx) (g2 _ _ Lx) AO (by omega) (λm vx vy t H3 Q3 hm g3 kZ Ku ht q3=>?_) λH3 g3 rr=>?_
 ·obtain⟨y1,hy1,rfl⟩:=bh kZ
  rw[d7 hm] at hy1;cases hy1;obtain⟨_,ry⟩:=C.get Ku;obtain⟨lm,rfl,hlm,_⟩:=eU ry;refine⟨t,_,rfl,k8.of ht,rfl,_,_,rfl,_,_,rfl,rfl,?_⟩
  refine⟨_,rfl,_,rfl,_,rfl,lm,_,_,_,rfl,rfl,aQ.of ((g2.trans g3) _ _ hlm),pT hi,_,_,rfl,rfl,(bx m hm).ok (bA m i hm hi),?_⟩
  exact q3 _ H3 (aI.refl _) (.num _)
 ·obtain⟨l2,e2,VO,_⟩:=eU rr
  cases e2;refine⟨D2,_,rfl,aQ.of VO,?_⟩
  rw[Kw];exact q2 _ H3 g3 (.num _)
end
def F5 (f:Fn)(n:Nat)(u v:Vc):Vc:=λk=>sm n u (λa k=>sm n v (λb=>tk f n (a+b)) k) k
theorem MY {f:Fn}{n:Nat}(hf:Top f n)(hn:1<=n)(u v:Vc):lO f n (cv (ao (lv n u)) (ao (lv n v))) (F5 f n u v):=by
 have hz:∀w:Vc,∀m,n<=m->ao (lv n w) m=0:=λw m hm=>by rw[lY,Jk (by omega)]
 have h:=(vI hf hn (g:=ao (lv n v)) (L:=n) (hz v)).comb (p:=ao (lv n u)) (P:=n) (hz u);have e:(λc=>aW n λk=>ao (lv n u) k*rr f n (ao (lv n v)) n k c)=F5 f n u v:=by
  funext c
  unfold F5 rr;rw[e_];refine aA λa ha=>?_
  rw[e_,lY,Jl ha];congr 1
  exact aA λb hb=>by rw[lY,Jl hb,Jd]
 rw[e] at h;exact h
inductive Kz (K:bX)(vs:List V)(H:Hp)(Q:VK)(Ce:XK):Prop where
 | mk (a:o?) (fl:List Int) (n:Nat) (x y:V) (u v:Vc) (m:Int) (Ci:vs=[.ref a,x,y,.int m]) (Cj:aQ K H a (fl.map V.int)) (Ck:fl.length=n+1) (Cm:1<=n) (Cn:n<=20) (Co:L2.b7 fl) (Cq:gR 5000 fl) (C9:Rep H Any x (rE n u)) (Eg:Rep H Any y (rE n v)) (HE:(∀j,j<n->Bd 2000 (u j))) (yk:(∀j,j<n->Bd 2000 (v j))) (Cr:m≠0) (Kr:Bd 8000 m) (SH:∀r H',aI H H'->Rep H' (eK H) r (rE n λj=>(F5 (ao fl) n u v j).fdiv m)->Q r H')
section
theorem KA {n m:Nat}{u:Vc}(h:∀j,j<n->Bd m (u j)):gR m (lv n u):=λx hx=>by
 unfold lv at hx;obtain⟨j,hj,rfl⟩:=List.mem_map.mp hx;exact h j (List.mem_range.mp hj)
theorem yo (B:iY mg)(cT:b_ P w K mg base 1 "without_noughts_behind" ["numbers"] (qA K))(mK:b_ P w K mg base 1 "multiplied" m8 (Kn K))(oX:b_ P w K mg base 2 "divided" m8 (Ko K))(kj:b_ P w K mg base 1 "coefficient" D_ (Ed K))(F:Src K mg "product_by" jm Kd):b_ P w K mg base 3 "product_by" Kd (Kz K):=by
 refine F.ok ki (λvs H Q E h=>?_) (λf cdv A outer s H vs Q E hr h=>?_)
 ·obtain⟨a,fl,n,x,y,u,v,m,rfl,_⟩:=h;rfl
 obtain⟨a,fl,n,x,y,u,v,m,rfl,ha,lf,hn1,hn,mf,bf,rx,ry,bu,bv,m0,bm,q⟩:=h;obtain⟨lx,rfl,hlx,_⟩:=eU rx;obtain⟨ly,rfl,YR,_⟩:=eU ry;have hf:=xC lf mf;refine⟨_,ah (aD (i:=4) ki.nd rfl (z? rfl) (aF mK hr (af (aF cT hr (af (pv 1) ai)) (af (aF cT hr (af (pv 2) ai)) ai))))
  (ah (aD (i:=5) ki.nd rfl (Or.inr rfl) (bL (rq (K:=K) rfl) (aF oX hr (af (pv 4) (af (pv 0) ai))) ak (λ_ _=>rfl)))
  (ay (aL (cA (aG (N:=["place","rest","power"]) (sl:=[q?,j? 5,j? 3]) (aq jm) ["f","one","other","power","product","rest"] rfl rfl (by decide +kernel)) rfl (bU rfl B.range (af (aS (aT (K:=K) rfl) rfl B.len cB (af (pv 1) ai)) ai)) (λ_ _ _ _ _=>(aE (i:=0) (Yk_ ["place","rest","power"]) rfl (z? rfl))) (λ_ _ _ _ _=>aU) (λ_ _ _ _ _=>(au bK (aF kj hr (af (pv 1) (af (pv 0) ai))) (pv 2))))))),?_⟩
 walk_at "rd"
 refine⟨lx,lv n u,rfl,aQ.of hlx,by rw[bW];omega,λp1 H1 g1 n1 e1=>?_⟩
 walk_at "rd"
 refine⟨ly,lv n v,rfl,aQ.of (g1 _ _ YR),by rw[bW];omega,λp2 H2 g2 n2 e2=>?_⟩
 have b1:gR 2000 (trim (lv n u)):=(KA bu).trim;have b2:gR 2000 (trim (lv n v)):=(KA bv).trim;have l1:(trim (lv n u)).length<=n:=by unfold trim;rw[Y3,bW];omega
 have l2:(trim (lv n v)).length<=n:=by unfold trim;rw[Y3,bW];omega
 refine⟨p1,p2,_,_,rfl,aQ.of (g2 _ _ e1),aQ.of e2,by omega,by omega,b1.mono (by decide),b2.mono (by decide),λp3 H3 g3 n3 e3=>?_⟩
 walk_at "rd"
 have N4:=(g1.trans g2).trans g3;have lp:(dY (trim (lv n u)) (trim (lv n v))).length<=40:=by
  unfold dY;split
  ·simp
  ·rw[Ya,Yf];omega
 refine⟨p3,a,_,fl,4100,5000,rfl,aQ.of e3,N4.seq ha,by omega,by omega,mf,((b1.dY b2).mono (by omega)),bf,by omega,λq0 r0 hd0 _ _ t0 qa ra H4 g4 n4 n5 hne et eq er=>?_⟩
 refine⟨t0,_,_,_,rfl,rfl,k8.of et,rfl,?_⟩
 have VP:=N4.trans g4;have e0:ao r0=F5 (ao fl) n u v:=by
  have h1:=wu.VD lf hd0;rw[L3,show ao (trim (lv n u))=ao (lv n u) from funext λi=>dQ _ i,show ao (trim (lv n v))=ao (lv n v) from funext λi=>dQ _ i] at h1
  exact lO.uniq hf h1 (MY hf hn1 u v)
 walk_at "rd"
 refine⟨lx,_,rfl,.inl (aQ.of (VP _ _ hlx)),?_⟩
 rw[Ya,bW];refine⟨_,rfl,by omega,by omega,λD hD=>?_⟩
 rw[Yi];refine BV (λj=>.num ((F5 (ao fl) n u v j).fdiv m)) hD (by omega) (λi H5 Q2 hi g5 q2=>?_) λH5 g5 rr=>q _ H5 (VP.trans g5) (rr.older VP)
 rw[Z5];refine⟨_,rfl,_,rfl,ra,r0,i,rfl,aQ.of (g5 _ _ er),_,rfl,_,_,rfl,rfl,bm.dv m0,?_⟩
 show Q2 (V.int ((ao r0 i).fdiv m)) H5
 rw[e0];exact q2 _ H5 (aI.refl _) (.num _)
inductive F6 (K:bX)(vs:List V)(H:Hp)(Q:VK)(Ce:XK):Prop where
 | mk (a:o?) (fl:List Int) (n:Nat) (x:V) (T:Nat->Vc) (c:Nat->Nat->Vc) (m:Int) (Ci:vs=[.ref a,x,.int m]) (Cj:aQ K H a (fl.map V.int)) (Ck:fl.length=n+1) (Cm:1<=n) (Cn:n<=20) (Co:L2.b7 fl) (Cq:gR 5000 fl) (C9:Rep H Any x (mE n n T)) (Eg:c7 n T) (HE:(∀i j,i<n->j<n->Bd 2000 (T i j))) (yk:m≠0) (Cr:Bd 8000 m) (Kr:(∀i j,i<n->j<n->∀k,k<n->F5 (ao fl) n (T i) (T j) k=m*sm n (c i j) T k)) (SH:(∀i j k,i<n->j<n->k<n->Bd 100000 (c i j k))) (VE:∀r H',aI H H'->Rep H' (eK H) r (tE n n n c)->Q r H')
theorem CA (B:iY mg)(AX:b_ P w K mg base 3 "product_by" Kd (Kz K))(ko:b_ P w K mg base 1 "coordinates" G2 (xE K))(F:Src K mg "table_of" iw D7):b_ P w K mg base 4 "table_of" D7 (F6 K):=by
 refine F.ok Ca (λvs H Q E h=>?_) (λf cdv A outer s H vs Q E hr h=>?_)
 ·obtain⟨a,fl,n,x,T,c,m,rfl,_⟩:=h;rfl
 obtain⟨a,fl,n,x,T,c,m,rfl,ha,lf,hn1,hn,mf,bf,rx,hT,bT,m0,bm,hc,bc,q⟩:=h;obtain⟨lT,us,rfl,Uc,_,C⟩:=id rx.cf;refine⟨_,ay (aL (wM (iF (N:=P_) (sl:=[q?,j? 1,j? 0,j? 2]) "one" (aq iw) D7 rfl rfl (by decide +kernel)) rfl (bN (K:=K) rfl (pv 1)) (λ_ _ _ _ _=>(aE (i:=0) (Yk_ P_) rfl (Or.inr rfl))) (λ_ _ _ _ _=>aU) (λ_ _ _ _ _=>(cA (aG (N:=["other","lattice","f","one","power"]) (sl:=[q?,j? 1,j? 2,j? 0,j? 3]) (rT (z6 ((cE iw).getD 0 (.Pass ⟨0,0,0,0⟩))) (aq iw)) P_ rfl rfl (by decide +kernel)) rfl (bN (K:=K) rfl (pv 1)) (λ_ _ _ _ _=>(aE (i:=0) (Yk_ ["other","lattice","f","one","power"]) rfl (z? rfl))) (λ_ _ _ _ _=>aU) (λ_ _ _ _ _=>(aF ko hr (af (pv 1) (af (aF AX hr (af (pv 2) (af (pv 3) (af (pv 0) (af (pv 4) ai))))) ai)))))))),?_⟩
 walk_at "rd"
 refine⟨⟨_,aQ.of Uc⟩,λD hD=>?_⟩
 refine qg (λi=>mE n n (c i)) (n:=n) C.len Uc hD (by omega) (λi vx H2 Q2 hi g2 kZ q2=>?_) λH2 g2 rr=>q _ H2 g2 rr
 obtain⟨_,ri⟩:=C.get kZ;refine⟨_,rfl,lT,rfl,⟨_,aQ.of (g2 _ _ Uc)⟩,λD2 AO=>?_⟩
 refine qg (λj=>rE n (c i j)) (n:=n) C.len (g2 _ _ Uc) AO (by omega) (λj vy H3 Q3 hj g3 Ku q3=>?_) λH3 g3 rr=>q2 _ H3 g3 rr
 obtain⟨_,rj⟩:=C.get Ku;have Ud:=g2.trans g3;refine⟨_,rfl,_,rfl,_,rfl,_,rfl,_,rfl,a,fl,n,vx,vy,T i,T j,m,rfl,Ud.seq ha,lf,hn1,hn,mf,bf,ri.same Ud,rj.same Ud,λk hk=>bT i k hi hk,λk hk=>bT j k hj hk,m0,bm,λr4 H4 g4 Qh=>?_⟩
 refine⟨n,_,_,T,_,c i j,rfl,rx.same (Ud.trans g4),Qh.any,by omega,hT,λk hk=>?_,λk hk=>bc i j k hi hj hk,λk l hk hl=>(bT k l hk hl).mono (by decide),λr5 H5 g5 N5=>q3 _ H5 (g4.trans g5) (N5.older g4)⟩
 rw[hc i j hi hj k hk,Int.mul_fdiv_cancel_left _ m0]
def Ly (n:Nat)(c:Nat->Nat->Vc)(p:Int)(x y:Vc):Vc:=λk=>sm n x (λi k=>sm n y (c i) k) k % p
def MZ (n:Nat)(c:Nat->Nat->Vc)(p:Int)(x:Vc):Nat->Vc
 | 0=>x
 | m+1=>Ly n c p (MZ n c p x m) x
def G8 (n:Nat)(c:Nat->Nat->Vc)(p:Nat):Nat->Nat->Vc
 | 0,i=>un i
 | k+1,i=>MZ n c (p:Int) (G8 n c p k i) (p-1)
theorem F7 {n k:Nat}{a b:Nat}{x:Vc}{A:Nat->Vc}{j:Nat}(hn:n<2 ^ k)(hx:∀i,i<n->Bd a (x i))(hA:∀i,i<n->Bd b (A i j)):Bd (a+b+k) (sm n x A j):=by
 have key:∀m,m<=n->(sm m x A j).natAbs<=m*2 ^ (a+b):=by
  intro m;induction m with
  | zero=>intro _;show Wa 0<=_;simp
  | succ m ih=>
   intro hm;have h1:=ih (by omega)
   have h2:Bd (a+b) (x m*A m j):=(hx m (by omega)).mul (hA m (by omega))
   have h3:(sm m x A j+x m*A m j).natAbs<=(sm m x A j).natAbs+(x m*A m j).natAbs:=Int.natAbs_add_le _ _;have h2':(x m*A m j).natAbs<2 ^ (a+b):=h2;show(sm m x A j+x m*A m j).natAbs<=(m+1)*2 ^ (a+b)
   rw[Zn,W2];omega
 have h:=key n (Yd n);refine Wb h ?_
 rw[Z0 2 (a+b) k,Zk (2 ^ (a+b))];exact Nat.mul_lt_mul_of_pos_right hn (Wf (by decide))
inductive CB (K:bX)(vs:List V)(H:Hp)(Q:VK)(Ce:XK):Prop where
 | mk (n p:Nat) (t x y:V) (c:Nat->Nat->Vc) (u v:Vc) (Ci:vs=[t,x,y,.int (p:Int)]) (Cj:Rep H Any t (tE n n n c)) (Ck:Rep H Any x (rE n u)) (Cm:Rep H Any y (rE n v)) (Cn:1<=n) (Co:n<=20) (Cq:2<=p) (C9:p<=50) (Eg:(∀i j k,i<n->j<n->k<n->Bd 90000 (c i j k))) (HE:(∀i,i<n->Bd 64 (u i))) (yk:(∀i,i<n->Bd 64 (v i))) (Cr:∀r H',aI H H'->Rep H' (eK H) r (rE n (Ly n c (p:Int) u v))->Q r H')
theorem CC (B:iY mg)(kW:b_ P w K mg base 1 "summed" AI (sF K))(F:Src K mg "times_by" jI Ke):b_ P w K mg base 2 "times_by" Ke (CB K):=by
 refine F.ok uU (λvs H Q E h=>?_) (λf cdv A outer s H vs Q E hr h=>?_)
 ·obtain⟨n,p,t,x,y,c,u,v,rfl,_⟩:=h;rfl
 obtain⟨n,p,t,x,y,c,u,v,rfl,rt,rx,ry,hn1,hn,hp,hp2,bc,bu,bv,q⟩:=h;obtain⟨lt,us,rfl,hlt,_,C⟩:=id rt.cf;obtain⟨lx,rfl,hlx,_⟩:=eU rx;obtain⟨ly,rfl,YR,_⟩:=eU ry;refine⟨_,ah (aD (i:=4) uU.nd rfl (z? rfl) (aF kW hr (af (pv 1) (af (cA (aG (N:=["line","other"]) (sl:=[q?,j? 2]) (aq jI) P9 rfl rfl (by decide +kernel)) rfl (bN (K:=K) rfl (pv 0)) (λ_ _ _ _ _=>(aE (i:=0) (Yk_ ["line","other"]) rfl (z? rfl))) (λ_ _ _ _ _=>aU) (λ_ _ _ _ _=>(aF kW hr (af (pv 1) (af (pv 0) ai))))) ai))))
  (ay (aL (cA (aG (N:=G3) (sl:=[q?,j? 3]) (aq jI) P9 rfl rfl (by decide +kernel)) rfl (bN (K:=K) rfl (pv 4)) (λ_ _ _ _ _=>(aE (i:=0) (Yk_ G3) rfl (z? rfl))) (λ_ _ _ _ _=>aU) (λ_ _ _ _ _=>(au bw (pv 0) (pv 1)))))),?_⟩
 walk_at "rd"
 refine⟨⟨_,aQ.of hlt⟩,λD hD=>?_⟩
 refine qg (λi=>rE n λk=>sm n v (c i) k) (n:=n) C.len hlt hD (by omega) (λi vx H2 Q2 hi g2 kZ q2=>?_) λH2 g2 rr=>?_
 ·obtain⟨_,ri⟩:=C.get kZ
  exact⟨_,rfl,_,rfl,n,n,_,vx,v,c i,rfl,ry.same g2,ri.same g2,hn1,by omega,by omega,λj hj=>(bv j hj).mono (by decide),λj k hj hk=>(bc i j k hi hj hk).mono (by decide),λr H3 g3 rr=>q2 _ H3 g3 rr⟩
 refine⟨n,n,_,_,u,λi k=>sm n v (c i) k,rfl,rx.same g2,rr.any,hn1,by omega,by omega,λj hj=>(bu j hj).mono (by decide),λi k hi hk=>(F7 (k:=5) (by omega) bv λj hj=>bc i j k hi hj hk).mono (by decide),λr3 H3 g3 Q0=>?_⟩
 obtain⟨l3,rfl,hl3,_⟩:=eU Q0;refine⟨_,rfl,l3,rfl,⟨_,aQ.of hl3⟩,λD4 hD4=>?_⟩
 refine qg (λk=>.num (Ly n c (p:Int) u v k)) (n:=n) (by rw[Ya,bW]) hl3 hD4 (by omega) (λk vx H5 Q5 hk g5 kZ q5=>?_) λH5 g5 N5=>q _ H5 ((g2.trans g3).trans g5) (N5.older (g2.trans g3))
 obtain⟨y1,hy1,rfl⟩:=bh kZ;rw[d7 hk] at hy1;cases hy1;refine⟨_,rfl,_,rfl,_,_,rfl,rfl,(show(p:Int)≠0 by omega),?_⟩
 have e:(sm n u (λi k=>sm n v (c i) k) k).fmod (p:Int)=Ly n c (p:Int) u v k:=Y8 _ (by omega)
 show Q5 (V.int ((sm n u (λi k=>sm n v (c i) k) k).fmod (p:Int))) H5
 rw[e];exact q5 _ H5 (aI.refl _) (.num _)
theorem M0 {n p:Nat}(hp:2<=p){c:Nat->Nat->Vc}{x y:Vc}(k:Nat):0<=Ly n c (p:Int) x y k/\Ly n c (p:Int) x y k<(p:Int):=⟨Zr _ (by omega),Zm _ (by omega)⟩
theorem F8 {n p:Nat}(hp:2<=p){c:Nat->Nat->Vc}{x:Vc}{k:Nat}(hx:0<=x k/\x k<(p:Int)):∀m,0<=MZ n c (p:Int) x m k/\MZ n c (p:Int) x m k<(p:Int)
 | 0=>hx
 | m+1=>M0 hp k
theorem vK {n p:Nat}(hp:2<=p){c:Nat->Nat->Vc}{i j:Nat}:∀k,0<=G8 n c p k i j/\G8 n c p k i j<(p:Int)
 | 0=>by
  show 0<=(if j=i then (1:Int) else 0)/\(if j=i then (1:Int) else 0)<_
  by_cases e:j=i
  ·rw[Jl e];omega
  ·rw[Jk e];omega
 | k+1=>F8 hp (vK hp k) _
inductive KC (K:bX)(vs:List V)(H:Hp)(Q:VK)(Ce:XK):Prop where
 | mk (n p:Nat) (t x:V) (c:Nat->Nat->Vc) (u:Vc) (Ci:vs=[t,x,.int (p:Int),.int (p:Int)]) (Cj:Rep H Any t (tE n n n c)) (Ck:Rep H Any x (rE n u)) (Cm:1<=n) (Cn:n<=20) (Co:2<=p) (Cq:p<=50) (C9:(∀i j k,i<n->j<n->k<n->Bd 90000 (c i j k))) (Eg:(∀i,i<n->0<=u i/\u i<(p:Int))) (HE:∀r H',aI H H'->Rep H' (eK H) r (rE n (MZ n c (p:Int) u (p-1)))->Q r H')
theorem CD (B:iY mg)(Ej:b_ P w K mg base 2 "times_by" Ke (CB K))(F:Src K mg "power_by" qw Kg):b_ P w K mg base 3 "power_by" Kg (KC K):=by
 refine F.ok j0 (λvs H Q E h=>?_) (λf cdv A outer s H vs Q E hr h=>?_)
 ·obtain⟨n,p,t,x,c,u,rfl,_⟩:=h;rfl
 obtain⟨n,p,t,x,c,u,rfl,rt,rx,hn1,hn,hp,hp2,bc,hu,q⟩:=h;refine⟨_,ah (aD (i:=4) j0.nd rfl (z? rfl) (pv 1))
  (ah (cU D? rfl (bU rfl B.range (af (au bY (pv 2) ak) ai)) (aE (i:=5) j0.nd rfl (z? rfl))
   (ay (aD (i:=4) j0.nd rfl (z? rfl) (aF Ej hr (af (pv 0) (af (pv 4) (af (pv 1) (af (pv 3) ai))))))))
  (ay (aL (pv 4)))),?_⟩
 walk_at "rd"
 refine⟨by omega,by omega,?_⟩
 rw[show((p:Int)-1).toNat=p-1 by omega]
 have bu:∀m,∀i,i<n->Bd 64 (MZ n c (p:Int) u m i):=λm i hi=>by
  have:=F8 (n:=n) (c:=c) hp (hu i hi) m
  exact Bd.small (by omega) (by omega)
 refine dO (λi σ H2=>aI H H2/\∃(v:V) (o:Option V),σ=[j? t,j? x,Iq (p),Iq (p),j? v,o]/\Rep H2 Any v (rE n (MZ n c (p:Int) u i))/\(1<=i->Rep H2 (eK H) v (rE n (MZ n c (p:Int) u i)))) ⟨aI.refl H,x,_,rfl,rx,λh=>Jr h (by decide)⟩ ?_ ?_
 ·rintro i σ H2 hi ⟨g2,v,o,rfl,rv,_⟩
  refine⟨_,rfl,_,rfl,_,rfl,_,rfl,n,p,t,v,x,c,_,u,rfl,rt.same g2,rv,rx.same g2,hn1,hn,hp,hp2,bc,bu i,λj hj=>bu 0 j hj,λr H3 g3 rr=>?_⟩
  exact⟨g2.trans g3,_,_,rfl,rr.any,λ_=>rr.older g2⟩
 ·rintro σ H2 ⟨g2,v,o,rfl,rv,rn⟩
  exact⟨_,rfl,q _ H2 g2 (rn (by omega))⟩
inductive CH (K:bX)(vs:List V)(H:Hp)(Q:VK)(Ce:XK):Prop where
 | mk (n p:Nat) (t:V) (c:Nat->Nat->Vc) (Ci:vs=[t,.int (p:Int)]) (Cj:Rep H Any t (tE n n n c)) (Ck:1<=n) (Cm:n<=20) (Cn:2<=p) (Co:p<=50) (Cq:(∀i j k,i<n->j<n->k<n->Bd 90000 (c i j k))) (C9:∀k r H',n<=p ^ k->aI H H'->Rep H' (eK H) r (mE n n (G8 n c p k))->Q r H')
theorem G9 (B:iY mg)(jJ:b_ P w K mg base 1 "unit_row" AH AW)(Ek:b_ P w K mg base 3 "power_by" Kg (KC K))(F:Src K mg "raised" nV yi):b_ P w K mg base 4 "raised" yi (CH K):=by
 refine F.ok ju (λvs H Q E h=>?_) (λf cdv A outer s H vs Q E hr h=>?_)
 ·obtain⟨n,p,t,c,rfl,_⟩:=h;rfl
 obtain⟨n,p,t,c,rfl,rt,hn1,hn,hp,hp2,bc,q⟩:=h;obtain⟨lt,us,rfl,hlt,_,C⟩:=id rt.cf;refine⟨_,ah (aD (i:=2) ju.nd rfl (Or.inr rfl) (aS (aT (K:=K) rfl) rfl B.len cB (af (pv 0) ai)))
  (ah (jT (i:=3) ju.nd rfl (z? rfl) (aG (N:=["place","many"]) (sl:=[q?,j? 2]) (aq nV) P7 rfl rfl (by decide +kernel)) rfl (bU rfl B.range (af (pv 2) ai)) (λ_ _ _ _ _=>(aE (i:=0) (Yk_ ["place","many"]) rfl (z? rfl))) (λ_ _ _ _ _=>aU) (λ_ _ _ _ _=>(aF jJ hr (af (pv 1) (af (pv 0) (af ak ai))))))
  (ah (aD (i:=4) ju.nd rfl (z? rfl) ak)
  (ah (eV D? (aX E7 (pv 4) (pv 2) (bC _))
   (ah (jT (i:=3) ju.nd rfl (z? rfl) (aG (N:=["row","table","p"]) (sl:=[q?,j? 0,j? 1]) (aq nV) P7 rfl rfl (by decide +kernel)) rfl (bN (K:=K) rfl (pv 3)) (λ_ _ _ _ _=>(aE (i:=0) (Yk_ ["row","table","p"]) rfl (z? rfl))) (λ_ _ _ _ _=>aU) (λ_ _ _ _ _=>(aF Ek hr (af (pv 1) (af (pv 0) (af (pv 2) (af (pv 2) ai)))))))
   (ay (aD (i:=4) ju.nd rfl (z? rfl) (au aV (pv 4) (pv 1))))))
  (ay (aL (pv 3)))))),?_⟩
 walk_at "rd"
 refine⟨lt,_,rfl,.inl (aQ.of hlt),?_⟩
 rw[C.len];refine⟨_,rfl,_,rfl,by omega,by omega,λD hD=>?_⟩
 rw[Yi];refine BV (λi=>rE n (un i)) hD (by omega) (λi H2 Q2 hi g2 q2=>?_) λH2 g2 rr=>?_
 ·rw[Z5]
  exact⟨_,rfl,_,rfl,n,i,1,rfl,by omega,λr H3 g3 rr=>q2 _ H3 g3 rr⟩
 refine jy (λσ H2=>aI H H2/\∃(k:Nat) (v:V),σ=[Rq lt,Iq (p),Iq (n),j? v,Iq ((p ^ k:Nat))]/\p ^ k<=1000/\Rep H2 (eK H) v (mE n n (G8 n c p k))) (λσ _=>match σ with | [_,_,_,_,j? (.int r)]=>n-r.toNat|_=>0)
  ⟨g2,0,_,rfl,by rw[Nat.pow_zero];decide,rr⟩ ?_
 rintro σ H3 ⟨g3,k,v,rfl,hk,rv⟩;refine⟨_,rfl,_,rfl,_,_,rfl,rfl,_,rfl,fV (λc1=>?_) (λc1=>?_)⟩
 ·have hlt':p ^ k<n:=by have:=Jn c1;omega
  obtain⟨lv',vs,rfl,YS,_,Cv⟩:=id rv.cf;refine win ⟨_,rfl,lv',rfl,⟨_,aQ.of YS⟩,λD2 AO=>?_⟩
  refine qg (λi=>rE n (G8 n c p (k+1) i)) (n:=n) Cv.len YS AO (by omega) (λi vx H4 Q4 hi g4 kZ q4=>?_) λH4 g4 Qh=>?_
  ·obtain⟨_,ri⟩:=Cv.get kZ
   exact⟨_,rfl,_,rfl,_,rfl,_,rfl,n,p,_,vx,c,G8 n c p k i,rfl,rt.same (g3.trans g4),(ri.same g4).any,hn1,hn,hp,hp2,bc,λj _=>vK hp k,λr H5 g5 N5=>q4 _ H5 g5 N5⟩
  ·have h1:p ^ k*p<=19*50:=Zy (by omega) hp2
   have e1:((p ^ k:Nat):Int)*(p:Int)=((p ^ (k+1):Nat):Int):=by rw[Zu,Zl]
   refine⟨_,rfl,_,rfl,_,_,rfl,rfl,gE (by omega) (by omega),?_⟩
   show(aI H H4/\_)/\_
   refine⟨⟨g3.trans g4,k+1,_,by show _=[_,_,_,_,j? (V.int ((p ^ (k+1):Nat):Int))];rw[<- e1];rfl,by rw[Zu];omega,Qh.older g3⟩,?_⟩
   show n-(((p ^ k:Nat):Int)*(p:Int)).toNat<n-(((p ^ k:Nat):Int)).toNat
   rw[e1,Yi,Yi,Zu];have h2:1<=p ^ k:=Wf (by omega)
   have h3:p ^ k*2<=p ^ k*p:=Y6 _ hp;omega
 ·have hge:n<=p ^ k:=by
   have:¬ ((p ^ k:Nat):Int)<(n:Int):=λz=>c1 (Jm z)
   omega
  exact⟨_,rfl,q k _ H3 hge g3 rv⟩
end
def C_ (k:Nat)(A:Nat->Vc)(lead:Vc)(q:Nat)(m:Int):Nat->Vc:=λi j=>if i<k then (A i j-(A i q / lead q)*lead j) % m else ((m / lead q)*lead j) % m
inductive N6 (K:bX)(vs:List V)(H:Hp)(Q:VK)(Ce:XK):Prop where
 | mk (k n q:Nat) (u v:V) (A:Nat->Vc) (lead:Vc) (m:Int) (Ci:vs=[u,v,.int (q:Int),.int m]) (Cj:Rep H Any u (mE k n A)) (Ck:Rep H Any v (rE n lead)) (Cm:q<n) (Cn:n<=100) (Co:k<=100) (Cq:0<m) (C9:0<lead q) (Eg:Bd 8000 m) (HE:(∀i j,i<k->j<n->Bd 8000 (A i j))) (yk:(∀j,j<n->Bd 8000 (lead j))) (Cr:∀r H',aI H H'->Rep H' (eK H) r (mE (k+1) n (C_ k A lead q m))->Q r H')
section
theorem Em (B:iY mg)(F:Src K mg "without" kT Ka):b_ P w K mg base 1 "without" Ka (N6 K):=by
 refine F.ok jH (λvs H Q E h=>?_) (λf cdv A outer s H vs Q E hr h=>?_)
 ·obtain⟨k,n,q,u,v,A,lead,m,rfl,_⟩:=h;rfl
 obtain⟨k,n,q,u,v,A,lead,m,rfl,ru,rv,hq,hn,hk,m0,l0,bm,bA,bl,qq⟩:=h;obtain⟨lA,us,rfl,Lx,_,C⟩:=ru.cf;obtain⟨ll,rfl,Pz,_⟩:=eU rv;refine⟨_,ah (aD (i:=4) jH.nd rfl (z? rfl) (bI ai))
  (ah (cU D? rfl (bN (K:=K) rfl (pv 0)) (aE (i:=5) jH.nd rfl (z? rfl))
   (ah (aD (i:=6) jH.nd rfl (Or.inr rfl) (au bK (bL (aJ (K:=K) rfl) (pv 5) (pv 2) (λ_ _=>rfl)) (bL (aJ (K:=K) rfl) (pv 1) (pv 2) (λ_ _=>rfl))))
   (ay (fH (q9 R? F! G! eB (pv 4) (af (cA (aG (N:=P8) (sl:=[q?,q?,j? 6,j? 3]) (aq kT) Vx rfl rfl (by decide +kernel)) rfl (vD (K:=K) rfl rfl B.zip (af (pv 5) (af (pv 1) ai))) (λ_ _ _ _ _=>(dG (n:=2) (K:=K) rfl rfl (aY (aE (i:=0) (Yk_ P8) rfl (z? rfl)) (aY (aE (i:=1) (Yk_ P8) rfl (z? rfl)) dD)))) (λ_ _ _ _ _=>aU) (λ_ _ _ _ _=>(au bw (au bY (pv 0) (au aV (pv 2) (pv 1))) (pv 3)))) ai))))))
  (ah (aD (i:=6) jH.nd rfl (Or.inr rfl) (au bK (pv 3) (bL (aJ (K:=K) rfl) (pv 1) (pv 2) (λ_ _=>rfl))))
  (ay (aL (au i6 (pv 4) (bI (af (cA (aG (N:=["number","often","power"]) (sl:=[q?,j? 6,j? 3]) (aq kT) Vx rfl rfl (by decide +kernel)) rfl (bN (K:=K) rfl (pv 1)) (λ_ _ _ _ _=>(aE (i:=0) (Yk_ ["number","often","power"]) rfl (z? rfl))) (λ_ _ _ _ _=>aU) (λ_ _ _ _ _=>(au bw (au aV (pv 1) (pv 0)) (pv 2)))) ai))))))),?_⟩
 walk_at "rd"
 intro p hp;have g0:=aB hp (.lst []);refine⟨_,rfl,lA,rfl,⟨_,aQ.of (g0 _ _ Lx)⟩,nh (xs:=us) (λi σ H2=>aI H H2/\∃(ys:List V) (o1 o2:Option V),σ=[Rq lA,Rq ll,Iq (q),j? (.int m),Rq p,o1,o2]/\H2 p=j? (.lst ys)/\Cf H2 (Off H p) ys i λi=>rE n (C_ k A lead q m i))
  ⟨g0,[],_,_,rfl,av,.nil⟩ (λi σ H2 _ h=>aQ.of (h.1 _ _ Lx)) ?_ ?_⟩
 ·rintro i vx σ H2 kZ ⟨g2,ys,o1,o2,rfl,ep,Cy⟩
  obtain⟨hi,ri⟩:=C.get kZ;obtain⟨lr,rfl,hlr,_⟩:=eU ri;refine⟨_,rfl,_,rfl,lr,_,_,_,rfl,rfl,aQ.of (g2 _ _ hlr),pT hq,_,rfl,_,rfl,ll,_,_,_,rfl,rfl,aQ.of (g2 _ _ Pz),pT hq,_,_,rfl,rfl,(bl q hq).dv (by omega),?_⟩
  show iO 6 (V.int ((A i q).fdiv (lead q))) _ _ _
  rw[Zs _ (show 0<=lead q by omega)]
  refine⟨_,rfl,.inl ⟨rfl,_,aQ.of ep⟩,_,rfl,_,rfl,lr,ll,rfl,⟨_,aQ.of (g2 _ _ hlr)⟩,⟨_,aQ.of (g2 _ _ Pz)⟩,λD hD=>?_⟩
  have bo:Bd 8000 (A i q / lead q):=by
   rw[<- Zs _ (show 0<=lead q by omega)];exact(bA i q hi hq).fdiv
  refine PF (λj=>.num (C_ k A lead q m i j)) (n:=n) (by rw[Ya,bW]) (by rw[Ya,bW]) (g2 _ _ hlr) (g2 _ _ Pz) hD (by omega) (λj vx vy t H3 Q2 hj g3 kZ Ku ht q2=>?_) λH3 g3 rr=>?_
  ·obtain⟨y1,hy1,rfl⟩:=bh kZ
   obtain⟨y2,MT,rfl⟩:=bh Ku;rw[d7 hj] at hy1 MT;cases hy1;cases MT;refine⟨t,_,rfl,k8.of ht,rfl,_,_,rfl,_,_,rfl,rfl,?_⟩
   refine⟨_,rfl,_,rfl,_,rfl,_,_,rfl,rfl,bo.ok (bl j hj),_,_,rfl,rfl,_,rfl,_,_,rfl,rfl,(show m≠0 by omega),?_⟩
   show Q2 (V.int ((A i j-A i q / lead q*lead j).fmod m)) H3
   have e:(A i j-A i q / lead q*lead j).fmod m=C_ k A lead q m i j:=by
    unfold C_;rw[Jl hi,Y8 _ (by omega)]
   rw[e];exact q2 _ H3 (aI.refl _) (.num _)
  ·refine⟨p,_,_,rfl,rfl,g3 _ _ ep,by rw[Cy.len,C?];omega,?_⟩
   exact⟨(g2.trans g3).bE hp _,_,_,_,rfl,av,((Cy.same g3).push (rr.Mp g2 ep)).upd⟩
 ·rintro σ H2 ⟨g2,ys,o1,o2,rfl,ep,Cy⟩
  rw[C.len] at Cy;refine⟨_,rfl,_,rfl,_,rfl,ll,_,_,_,rfl,rfl,aQ.of (g2 _ _ Pz),pT hq,_,_,rfl,rfl,(bl q hq).dv (by omega),?_⟩
  show iO 6 (V.int (m.fdiv (lead q))) _ _ _
  rw[Zs _ (show 0<=lead q by omega)]
  have bo:Bd 8000 (m / lead q):=by
   rw[<- Zs _ (show 0<=lead q by omega)];exact bm.fdiv
  refine⟨_,rfl,_,rfl,ll,rfl,⟨_,aQ.of (g2 _ _ Pz)⟩,λD hD=>?_⟩
  refine qg (λj=>.num (C_ k A lead q m k j)) (n:=n) (by rw[Ya,bW]) (g2 _ _ Pz) hD (by omega) (λj vx H3 Q2 hj g3 kZ q2=>?_) λH3 g3 rr=>?_
  ·obtain⟨y1,hy1,rfl⟩:=bh kZ
   rw[d7 hj] at hy1;cases hy1;refine⟨_,rfl,_,rfl,_,_,rfl,rfl,bo.ok (bl j hj),_,rfl,_,_,rfl,rfl,(show m≠0 by omega),?_⟩
   show Q2 (V.int ((m / lead q*lead j).fmod m)) H3
   have e:(m / lead q*lead j).fmod m=C_ k A lead q m k j:=by
    unfold C_;rw[Jk (by omega),Y8 _ (by omega)]
   rw[e];exact q2 _ H3 (aI.refl _) (.num _)
  ·refine⟨a_ rfl,λp2 n2=>?_⟩
   have k2:=aB n2 (.lst [.ref D]);have g4:=(g2.trans g3).trans k2;refine⟨p,p2,_,_,rfl,rfl,k2 _ _ (g3 _ _ ep),av,by rw[Cy.len,C?];show k+1<=_;omega,λp3 n3=>?_⟩
   have k3:=aB n3 (.lst (ys++[.ref D]));refine qq _ _ (g4.trans k3) ?_
   have c1:=((Cy.IW.same g3).push (rr.older g2)).same (k2.trans k3);exact c1.rep av (g4.free n3)
end
def f7:Str:="lead_at.<locals>.<lambda>"
structure KD (k n:Nat)(A:Nat->Vc)(q p d:Nat)(lead:Vc):Prop where
 pw:∃s,s<=d/\lead q=(p:Int) ^ s
 sO:∀j,j<n->0<=lead j/\lead j<=(p:Int) ^ d
 dv:∀i,i<k->lead q ∣ A i q
 src:(∃i,i<k/\∃b:Int,∀j,j<n->lead j=(b*A i j) % (p:Int) ^ d)\/∀j,j<n->lead j=if j=q then (p:Int) ^ d else 0
inductive CJ (K:bX)(Pp:o?)(vs:List V)(H:Hp)(Q:VK)(Ce:XK):Prop where
 | mk (k n q d p:Nat) (u:V) (A:Nat->Vc) (Ci:vs=[u,.int (q:Int),.int (p:Int),.int ((p:Int) ^ d)]) (Cj:p∈PR) (Ck:Rep (del H Pp) Any u (mE k n A)) (Cm:q<n) (Cn:n<=20) (Co:1<=k) (Cq:k<=90) (C9:1<=d) (Eg:d<=30) (HE:(∀i j,i<k->j<n->0<=A i j/\A i j<(p:Int) ^ d)) (yk:fM f7 Pp H) (Cr:∀lead r H',cH H Pp H'->fM f7 Pp H'->KD k n A q p d lead->Rep (del H' Pp) (eK H) r (rE n lead)->Q r H')
theorem En {Pp:o?}{pos:Pos}{L:pK}{cl:List (Str×o?)}{σ:St}{H:Hp}{Q:VK}{ql:Str}(hq:L.qual=ql)(tq:fM ql Pp H)(q:∀f c H',cH H Pp H'->fM ql Pp H'->L.here cl f c H'->Q (.ref f) H'):za Pp pos L cl σ H Q:=by subst hq;exact GR tq q
theorem KG {K:bX}{N:List Str}{Pp l:o?}{pos:Pos}{L:pK}{cl:List (Str×o?)}{σ:St}{H:Hp}{Q:VK}{ql:Str}{i:Nat}(hq:L.qual=ql)(hσ:σ[i]?=j? (j? (.ref l)))(tq:fM ql Pp H)(q:∀f c H',cH H Pp H'->fM ql Pp H'->L.here cl f c H'->BQ K N L cl σ [.ref l] [.ref f] H' Q):
  Js (BQ K N L cl) (Bm (Ot i) HQ) (Bm (za Pp pos L cl) HQ) σ H Q:=by
 refine⟨_,hσ,?_⟩
 show za Pp pos L cl σ H λy H2=>BQ K N L cl σ [.ref l] [y] H2 Q
 exact En hq tq q
theorem AY {p:Nat}(hp:p∈PR){m:Int}(hm:¬ (p:Int) ∣ m):∀d:Nat,∃x y:Int,x*m+y*(p:Int) ^ d=1
 | 0=>⟨0,1,by rw[Yu];omega⟩
 | d+1=>by
  obtain⟨x,y,e⟩:=AY hp hm d;have pp:=bM hp;have h1:=Zr m (show(p:Int)≠0 by omega)
  have h2:=Zm m (show(0:Int)<p by omega)
  obtain⟨c,hc⟩:=Zo h1;have c0:c≠0:=λz=>hm (Int.dvd_of_emod_eq_zero (by rw[hc,z];rfl))
  obtain⟨b,hb,e1⟩:=wO p hp c (by omega) (by omega)
  have p2:2<=p:=by
   have:∀q∈PR,2<=q:=by decide
   exact this p hp
  have e1:c*b % p=1:=by rw[e1];exact Z1 (by omega)
  have e2:(c:Int)*(b:Int)=1+(p:Int)*((c*b / p:Nat):Int):=by
   have:=Jc (c*b) p
   rw[e1] at this;have h:((p*(c*b / p)+1:Nat):Int)=((c*b:Nat):Int):=by rw[this]
   rw[Int.natCast_add,Zl,Zl] at h;omega
  have e3:m=(c:Int)+(p:Int)*(m / p):=by
   have:=Z3 m (p:Int)
   rw[hc] at this;omega
  generalize m / (p:Int)=g at e3;generalize ((c*b / p:Nat):Int)=t at e2;refine⟨x*(b*m-(p:Int)*(g*b+t))+y*(p:Int) ^ d*b,-(y*(g*b+t)),?_⟩
  rw[Yq];generalize (p:Int) ^ d=W at e;have e4:(b:Int)*m-(p:Int)*(g*b+t)=1:=by rw[e3];grind
  rw[e4];grind
theorem F9 {H:Hp}{ok:o?->Prop}{n:Nat}:∀ {ys:List V},(∀y∈ys,∃e,Rep H ok y e/\GL n e)->∃es:List El,ys.length=es.length/\(∀(i:Nat) v e,ys[i]?=j? v->es[i]?=j? e->Rep H ok v e)/\∀e∈es,GL n e
 | [],_=>⟨[],rfl,λi v e h=>by simp at h,λe h=>by simp at h⟩
 | y::ys,h=>by
  obtain⟨e,r,f⟩:=h y Zj;obtain⟨es,h1,h2,h3⟩:=F9 (ys:=ys) λz hz=>h z (Zb _ hz)
  refine⟨e::es,by simp[h1],λi v d a b=>?_,λd hd=>?_⟩
  ·cases i with
   | zero=>cases a;cases b;exact r
   | succ i=>exact h2 i v d a b
  ·rcases List.mem_cons.mp hd with rfl|hd
   ·exact f
   ·exact h3 d hd
theorem N7 {n:Nat}{v:Vc}(h:n<=100):GL 1 (rE n v):=.vec (by rw[Ya,Yf];exact h) λe he=>by
 obtain⟨i,_,rfl⟩:=List.mem_map.mp he;exact .num _
theorem Rep.AZ {H0 H1 H2:Hp}{Pp:o?}{o:HO}{v:V}{e:El}(r:Rep H2 (eK H1) v e)(hP:H1 Pp=j? o)(f:∀b,H1 b=q?->H0 b=q?):Rep (del H2 Pp) (eK H0) v e:=r.imp λb u h k=>⟨by
  rw[jA (λz=>by rw[z] at k;rw[show H1 Pp=q? from k] at hP;cases hP)];exact h,f b k⟩
theorem zo {p d:Nat}(hp:p∈PR)(hd:d<=30):Bd 200 ((p:Int) ^ d):=by
 have:∀q∈PR,q<=2 ^ 6:=by decide
 show((p:Int) ^ d).natAbs<2 ^ 200
 rw[<- Wx,W8];refine Wb (Z9 (this p hp) d) ?_
 rw[<- Wu];exact Wp (by decide) (by omega)
section
theorem Eo {iA aC:o?}(B:iY mg)(hbm:BMain mg base)(jK:PySem.W.codeHdIn K iA aC=true)(n_:b_ P w K mg base 1 "taken_out" su AL)(eO:b_ P w K mg base 2 "size_of_number" su vH)(G_:b_ P w K mg base 1 "back_by" ["k","power"] Kv)(jJ:b_ P w K mg base 1 "unit_row" AH AW)(F:IY K mg "lead_at" fO Kc iA):b_ P w K mg base 7 "lead_at" Kc (CJ K aC):=by
 refine F.ok mF (λvs H Q E h=>?_) (λfa A outer s H vs Q E hr h=>?_)
 ·obtain⟨k,n,q,d,p,u,A,rfl,_⟩:=h;rfl
 obtain⟨k,n,q,d,p,u,A,rfl,hp,ru,hq,hn,hk1,hk,hd1,hd,hA,tq,qq⟩:=h;obtain⟨lA,us,rfl,Lx,_,C⟩:=id ru.cf;refine⟨_,ah (jT (i:=4) mF.nd rfl (z? rfl) (aG (N:=["row","place"]) (sl:=[q?,j? 1]) (aq fO) P6 rfl rfl (by decide +kernel)) rfl (bN (K:=K) rfl (pv 0)) (λ_ _ _ _ _=>(aE (i:=0) (Yk_ ["row","place"]) rfl (z? rfl))) (λ_ _ _ _ _=>(LV (aX uI (bL (aJ (K:=K) rfl) (pv 0) (pv 1) (λ_ _=>rfl)) ak (bC _)))) (λ_ _ _ _ _=>(pv 0)))
  (ah (eT (aX (lH (K:=K) rfl hr.units) (pv 4) (bI ai) (bC _))
   (ay (aL (aF jJ hr (af (aS (aT (K:=K) rfl) rfl B.len cB (af (bL (aJ (K:=K) rfl) (pv 0) ak (λ_ _=>rfl)) ai)) (af (pv 1) (af (pv 3) ai))))))
   (cD))
  (ah (aD (i:=5) mF.nd rfl (z? rfl) (Mw (c:=iA) (P:=aC) (x:="one") (N:=["place","p"]) (k:=2) (K:=K) rfl (λ_ _ _ _ _ _ _ hr=>(aF eO hr (af (bL (aJ (K:=K) rfl) (pv 0) (pv 1) (λ_ _=>rfl)) (af (pv 2) ai)))) (hr.mono (by first|decide|omega)) rfl ⟨rfl,rfl⟩ (λ_=>rfl) hbm rfl jK rfl B.«min» (af (pv 4) ai) (λ_ _ _ _ _=>rfl) (GP (by decide +kernel)) (Mu (sc:=aq fO) (by decide +kernel)) (by decide +kernel) rfl (by decide +kernel)))
  (ah (aD (i:=6) mF.nd rfl (Or.inr rfl) (aF G_ hr (af (bL (rq (K:=K) rfl) (aF n_ hr (af (bL (aJ (K:=K) rfl) (pv 5) (pv 1) (λ_ _=>rfl)) (af (pv 2) ai))) ak (λ_ _=>rfl)) (af (pv 3) ai))))
  (ay (aL (cA (aG (N:=["number","back","power"]) (sl:=[q?,j? 6,j? 3]) (aq fO) P6 rfl rfl (by decide +kernel)) rfl (bN (K:=K) rfl (pv 5)) (λ_ _ _ _ _=>(aE (i:=0) (Yk_ ["number","back","power"]) rfl (z? rfl))) (λ_ _ _ _ _=>aU) (λ_ _ _ _ _=>(au bw (au aV (pv 1) (pv 0)) (pv 2))))))))),?_⟩
 have Ep:=(cF Lx).2;have p2:2<=p/\p<50:=by
  have:∀q∈PR,2<=q/\q<50:=by decide
  exact this p hp
 have N8:=zo hp hd;have hm0:(0:Int)<(p:Int) ^ d:=Wl (by omega)
 walk_at "rd"
 refine⟨⟨_,aQ.of Ep⟩,λD hD=>?_⟩
 refine gY (xs:=us) (λi ys H2=>aI H H2/\ys.length<=i/\(∀y∈ys,∃j,us[j]?=j? y/\A j q≠0)/\∀j y,j<i->us[j]?=j? y->A j q≠0->y∈ys) ⟨aB hD _,Yd 0,λy hy=>by simp at hy,λj y hj=>Jr hj (Wm _)⟩ (λi ys H2 _ h=>aQ.of (h.1 _ _ Ep)) ?_ ?_
 ·rintro i m x ys H2 hm hi hx hy hlen ⟨g2,hle,h1,h2⟩
  obtain⟨hik,ri⟩:=C.get hx;obtain⟨lr,rfl,hlr,_⟩:=eU ri;have M3:=(cF hlr).2;refine⟨_,rfl,_,rfl,lr,_,_,_,rfl,rfl,aQ.of (g2 _ _ M3),pT hq,rfl,_,rfl,?_⟩
  by_cases z:A i q=0
  ·refine v5 (by rw[z]) (CW.skip hm hi hy hlen ⟨g2,by omega,h1,λj y hj e nz=>?_⟩)
   by_cases c:j=i
   ·rw[c] at nz;exact Jr z nz
   ·exact h2 j y (by omega) e nz
  ·refine Bu (λy=>z (V.int.inj y)) ⟨_,rfl,CW.emit hm hi (by rw[C.len,C?];omega) hy hlen ⟨aI.bE g2 hD _,by rw[Yg];show ys.length+1<=_;omega,λy hy=>?_,λj y hj e nz=>?_⟩⟩
   ·rcases List.mem_append.mp hy with y1|y1
    ·exact h1 y y1
    ·rw[List.mem_singleton.mp y1];exact⟨i,hx,z⟩
   ·by_cases c:j=i
    ·rw[c,hx] at e;cases e
     exact Yv _ Zj
    ·exact List.mem_append_left _ (h2 j y (by omega) e nz)
 ·rintro ys H2 hy ⟨g2,hle,h1,h2⟩
  rw[C.len] at h2 hle;have fD:H D=q?:=hD;refine⟨_,rfl,a_ rfl,λpe MU=>?_⟩
  have k3:=aB MU (.lst []);have g3:=g2.trans k3;have hyp:=k3 _ _ hy;have N9:(L2.upd H2 pe (.lst [])) pe=j? (.lst []):=av;have Hf:=tq.same g3;generalize L2.upd H2 pe (.lst [])=H3 at k3 g3 hyp N9 Hf;have um:∀y j,us[j]?=j? y->j<k/\∃lr,y=.ref lr/\H lr=j? (.lst ((lv n (A j)).map V.int))/\lr≠aC:=λy j e=>by
   obtain⟨hj,rj⟩:=C.get e;obtain⟨lr,rfl,hlr,_⟩:=eU rj;exact⟨hj,lr,rfl,(cF hlr).2,(cF hlr).1⟩
  obtain⟨es,el,er,ef⟩:=F9 (H:=H3) (ok:=Any) (n:=1) (ys:=ys) λy hy=>by
   obtain⟨j,e,_⟩:=h1 y hy;obtain⟨hj,lr,rfl,hlr,_⟩:=um y j e;exact⟨_,Jv (g3 _ _ hlr) trivial,N7 (by omega)⟩
  have abC:ys.length<=100:=by omega
  have rys:Rep H3 Any (.ref D) (.vec es):=.vec hyp trivial el er;have KH:Rep H3 Any (.ref pe) (.vec []):=.vec N9 trivial rfl λi v e h=>by simp at h
  refine NL rys KH (.vec (by omega) ef) (.vec (n:=1) (by decide) λe he=>by simp at he) (by decide) (by decide) (λe=>?_) (λe=>?_)
  ·have y0:ys=[]:=by
    have:es=[]:=by injection e
    rw[this] at el;exact List.length_eq_zero_iff.mp el
   have az:∀i,i<k->A i q=0:=λi hi=>V? λz=>by
    have:=h2 i _ hi (Yc (by rw[C.len];exact hi)) z
    rw[y0] at this;simp at this
   refine⟨_,rfl,vZ ?_⟩
   obtain⟨v0,hv0,_⟩:=C.at_ 0 (by omega)
   obtain⟨_,l0,rfl,HX,_⟩:=um v0 0 hv0;have Ky:qZ us 0=j? (.ref l0):=f9 (j:=0) hv0;refine⟨_,rfl,lA,_,_,_,rfl,rfl,aQ.of (g3 _ _ Ep),Ky,l0,_,rfl,.inl (aQ.of (g3 _ _ HX)),?_⟩
   rw[Ya,bW];refine⟨_,rfl,_,rfl,n,q,(p:Int) ^ d,rfl,by omega,λr H4 g4 rr=>?_⟩
   obtain⟨ps,N_,_⟩:=id Hf;refine qq (λj=>if j=q then (p:Int) ^ d else 0) r H4 (cH.of (g3.trans g4)) (Hf.same g4) ⟨⟨d,Yd d,Jl rfl⟩,λj _=>?_,λi hi=>by rw[az i hi];exact Int.dvd_zero _,.inr λj _=>rfl⟩ (Rep.AZ rr N_ λb hb=>g3.free hb)
   by_cases c:j=q
   ·rw[Jl c];omega
   ·rw[Jk c];omega
  ·have y0:ys≠[]:=λz=>e (by rw[z] at el;rw[List.length_eq_zero_iff.mp el.symm])
   refine⟨_,rfl,tu ?_⟩
   have hj:∀i:Nat,∃j:Nat,∀y,ys[i]?=j? y->us[j]?=j? y/\A j q≠0:=λi=>by
    cases h:ys[i]? with
    | none=>exact⟨0,λy z=>by cases z⟩
    | some y=>
     obtain⟨j,a,b⟩:=h1 y (Yy h);exact⟨j,λy' z=>by cases z;exact⟨a,b⟩⟩
   obtain⟨jf,VQ⟩:=Classical.axiomOfChoice hj;have hs:∀i,∃s:Nat,A (jf i) q≠0->cG (p:Int) (A (jf i) q) s:=λi=>by
    by_cases z:A (jf i) q=0
    ·exact⟨0,λy=>Jr z y⟩
    ·obtain⟨s,hs⟩:=Dm (p:=(p:Int)) (by omega) z
     exact⟨s,λ_=>hs⟩
   obtain⟨sf,VR⟩:=Classical.axiomOfChoice hs;have hPl:∃o,H3 aC=j? o:=by obtain⟨ps,h,_⟩:=id Hf;exact⟨_,h⟩
   refine KG (i:=4) (l:=D) rfl rfl Hf λf c H4 YT Qi hh=>?_
   have hDP:D≠aC:=λz=>by
    obtain⟨ps,h,_⟩:=id tq;rw[z] at hD;rw[h] at hD;cases hD
   have n4:cH H aC H4:=(cH.of g3).trans YT;have hy4:=YT D _ hDP hyp;refine⟨D,f,c,ys,[.int (q:Int),.int (p:Int)],λi=>(sf i:Int),λi H'=>aI H4 H',rfl,rfl,List.length_pos_iff.mpr y0,?_,rfl,aI.refl _,⟨λi H' g=>aQ.of (g _ _ hy4),λi v H' hv g=>⟨hh.same g,?_⟩,λi v H5 hv hmin g5=>?_⟩⟩
   ·intro j x v e1 e2
    match j,e1,e2 with
    | 0,e1,e2=>cases e1;cases e2;exact⟨1,rfl,rfl⟩
    | 1,e1,e2=>cases e1;cases e2;exact⟨2,rfl,rfl⟩
    | j+2,e1,e2=>have e2:([]:List V)[j]?=j? v:=e2;simp at e2
   ·obtain⟨e1,e2⟩:=VQ i v hv
    obtain⟨_,lr,rfl,hlr,hne⟩:=um v _ e1;refine⟨_,rfl,_,rfl,lr,_,_,_,rfl,rfl,aQ.of (g _ _ (n4 _ _ hne hlr)),pT hq,_,rfl,_,(p:Int),rfl,by omega,by omega,λx H6 g6 sv=>?_⟩
    rcases sv with ⟨z,_⟩|⟨_,s',hv',rfl⟩
    ·exact Jr z e2
    ·exact⟨by rw[hv'.uniq (VR i e2)],g.trans g6⟩
   ·obtain⟨e1,e2⟩:=VQ i v hv
    obtain⟨hjk,lr,rfl,hlr,hne⟩:=um v _ e1;have vi:=VR i e2;have n5:cH H aC H5:=n4.trans (cH.of g5);have VS:=n5 _ _ hne hlr;obtain⟨a0,a1⟩:=hA (jf i) q hjk hq;have dv:∀i',i'<k->(p:Int) ^ sf i ∣ A i' q:=λi' hi'=>by
     by_cases z:A i' q=0
     ·rw[z];exact Int.dvd_zero _
     ·have eg:us[i']?=j? (us[i']'(by rw[C.len];exact hi')):=Yc _
      have hin:=h2 i' _ hi' eg z;obtain⟨m,hm,em⟩:=Ws hin;have hym:ys[m]?=j? (us[i']'(by rw[C.len];exact hi')):=by rw[Yc hm,em]
      obtain⟨e3,e4⟩:=VQ m _ hym;have hle:=hmin m hm;obtain⟨_,l1,x1,x2,_⟩:=um _ _ e3;obtain⟨_,l2,x3,x4,_⟩:=um _ _ eg;rw[x1] at x3;cases x3;rw[x2] at x4;have x5:(lv n (A (jf m))).map V.int=(lv n (A i')).map V.int:=by injection x4 with x4;injection x4
      have x6:A (jf m) q=A i' q:=by
       have:=Jp (λl=>l[q]?) x5
       simp only[Ye,d7 hq] at this
       injection this with this;injection this
      rw[<- x6];exact Int.dvd_trans (gF _ (by have:(sf i:Int)<=(sf m:Int):=hle;omega)) (VR m e4).dv
    have hps:(0:Int)<(p:Int) ^ sf i:=Wl (by omega)
    refine⟨_,rfl,_,rfl,lr,_,_,_,rfl,rfl,aQ.of VS,pT hq,_,rfl,A (jf i) q,(p:Int),rfl,e2,by omega,by omega,λv' m' r H6 g6 ek nd et=>?_⟩
    have ev:v'=sf i:=(cG.of (by omega) ek nd).uniq vi
    subst ev;have mp:0<m':=by
     rcases Int.lt_or_le 0 m' with y|y
     ·exact y
     ·have h:=Ja (Je hps) (show 0<=-m' by omega)
      rw[Int.mul_neg,<- ek] at h;omega
    have mle:m'<=A (jf i) q/\(p:Int) ^ sf i<=A (jf i) q:=by
     have h1:=Int.mul_le_mul_of_nonneg_right (show 1<=(p:Int) ^ sf i by omega) (Je mp)
     have h2:=Int.mul_le_mul_of_nonneg_left (show 1<=m' by omega) (Je hps)
     rw[<- ek] at h1 h2;omega
    have pd2:2<=(p:Int) ^ d:=by
     obtain⟨d',rfl⟩:∃d',d=d'+1:=⟨d-1,by omega⟩
     rw[Yq];have h1:(0:Int)<(p:Int) ^ d':=Wl (by omega)
     have h2:=Int.mul_le_mul_of_nonneg_right (show 1<=(p:Int) ^ d' by omega) (show(0:Int)<=p by omega)
     omega
    have bm':Bd 200 m':=Bd.le (y:=(p:Int) ^ d) (by omega) N8
    refine⟨r,_,_,_,rfl,rfl,k8.of et,rfl,_,rfl,m',(p:Int) ^ d,rfl,mp,pd2,bm'.mono (by decide),N8.mono (by decide),AY hp nd d,λb t b0 b1 eb H7 g7=>?_⟩
    have n7:cH H aC H7:=n5.trans (cH.of (g6.trans g7));have YU:=((Qi.same g5).same g6).same g7;have SO:=n7 _ _ hne hlr;refine⟨_,rfl,lr,rfl,⟨_,aQ.of SO⟩,λD2 AO=>?_⟩
    refine qg (λj=>.num ((b*A (jf i) j) % (p:Int) ^ d)) (n:=n) (by rw[Ya,bW]) SO AO (by omega) (λj vx H8 Q2 hj g8 kZ q2=>?_) λH8 g8 rr=>?_
    ·obtain⟨y1,hy1,rfl⟩:=bh kZ
     rw[d7 hj] at hy1;cases hy1;have aj:=hA (jf i) j hjk hj;refine⟨_,rfl,_,rfl,_,_,rfl,rfl,(Bd.le (y:=(p:Int) ^ d) (by omega) N8).ok (Bd.le (y:=(p:Int) ^ d) (by omega) N8),_,rfl,_,_,rfl,rfl,(show(p:Int) ^ d≠0 by omega),?_⟩
     show Q2 (V.int ((b*A (jf i) j).fmod ((p:Int) ^ d))) H8
     rw[Y8 _ (by omega)]
     exact q2 _ H8 (aI.refl _) (.num _)
    ·have hP7:∃o,H7 aC=j? o:=by obtain⟨ps,h,_⟩:=id YU;exact⟨_,h⟩
     obtain⟨o7,YV⟩:=hP7;have eq:(b*A (jf i) q) % (p:Int) ^ d=(p:Int) ^ sf i:=by
      have:b*A (jf i) q=(p:Int) ^ sf i+(p:Int) ^ d*((p:Int) ^ sf i*t):=by rw[ek];grind
      rw[this,Int.add_mul_emod_self_left];exact Int.emod_eq_of_lt (by omega) (by omega)
     have sd:sf i<=d:=by
      rcases Nat.le_total (sf i) d with y|y
      ·exact y
      ·exact Jr (W6 hps (gF (p:Int) y)) (by omega)
     refine qq (λj=>(b*A (jf i) j) % (p:Int) ^ d) _ H8 (n7.trans (cH.of g8)) (YU.same g8) ⟨⟨sf i,sd,eq⟩,λj hj=>?_,λi' hi'=>by show(b*A (jf i) q) % (p:Int) ^ d ∣ _;rw[eq];exact dv i' hi',.inl ⟨jf i,hjk,b,λj _=>rfl⟩⟩ (Rep.AZ rr YV λb hb=>n7.fresh ⟨o7,YV⟩ hb)
     have h1:=Zr (b*A (jf i) j) (show(p:Int) ^ d≠0 by omega)
     have h2:=Zm (b*A (jf i) j) hm0;exact⟨h1,Je h2⟩
end
def rowsOf (k n:Nat)(A:Nat->Vc):List Vc:=(Yk k).map λi=>fc n (A i)
theorem cY {k n:Nat}{A:Nat->Vc}{r:Vc}:r∈rowsOf k n A↔∃i,i<k/\r=fc n (A i):=by
 unfold rowsOf;rw[List.mem_map];exact⟨λ⟨i,h,e⟩=>⟨i,List.mem_range.mp h,e.symm⟩,λ⟨i,h,e⟩=>⟨i,List.mem_range.mpr h,e.symm⟩⟩
theorem cZ {n j:Nat}{v:Vc}(h:n<=j):fc n v j=0:=Jk (by omega)
theorem cI {n j:Nat}{v:Vc}(h:j<n):fc n v j=v j:=Jl h
theorem KI {n q k p d:Nat}{R:List Vc}{T:Nat->Vc}{A:Nat->Vc}{ld:Vc}(hp:2<=p)(hq:q<n)(h:Ju n R ((p:Int) ^ d) (q+1) T (rowsOf k n A))(L:KD k n A q p d ld):Ju n R ((p:Int) ^ d) q (λi=>if i=q then fc n ld else T i) (rowsOf (k+1) n (C_ k A ld q ((p:Int) ^ d))):=by
 have m0:(0:Int)<(p:Int) ^ d:=Wl (by omega)
 obtain⟨s,hs,es⟩:=L.pw;have l0:(0:Int)<ld q:=by rw[es];exact Wl (by omega)
 have ht:(p:Int) ^ d / ld q*ld q=(p:Int) ^ d:=Int.ediv_mul_cancel (by rw[es];exact gF _ hs)
 have low:∀i,i<k->∀j,q+1<=j->j<n->A i j=0:=λi hi j h1 h2=>by
  have:=h.low (fc n (A i)) (cY.mpr ⟨i,hi,rfl⟩) j h1
  rw[cI h2] at this;exact this
 have VT:∀j,q+1<=j->j<n->ld j=0:=λj h1 h2=>by
  rcases L.src with ⟨i,hi,b,e⟩|e
  ·rw[e j h2,low i hi j h1 h2,Yr,Int.zero_emod]
  ·rw[e j h2,Jk (by omega)]
 have sL:∀i,i<k->A i q / ld q*ld q=A i q:=λi hi=>Int.ediv_mul_cancel (L.dv i hi)
 have w1:∀i,i<k->∀j,fc n (A i) j=fc n (C_ k A ld q ((p:Int) ^ d) i) j+(A i q / ld q)*fc n ld j+(p:Int) ^ d*fc n (λj=>(A i j-(A i q / ld q)*ld j) / (p:Int) ^ d) j:=λi hi j=>by
  by_cases c:j<n
  ·rw[cI c,cI c,cI c,cI c]
   unfold C_;rw[Jl hi];have:=Z3 (A i j-(A i q / ld q)*ld j) ((p:Int) ^ d)
   omega
  ·rw[cZ (by omega),cZ (by omega),cZ (by omega),cZ (by omega)];omega
 have w2:∀j,((p:Int) ^ d / ld q)*fc n ld j=fc n (C_ k A ld q ((p:Int) ^ d) k) j+(p:Int) ^ d*fc n (λj=>(((p:Int) ^ d / ld q)*ld j) / (p:Int) ^ d) j:=λj=>by
  by_cases c:j<n
  ·rw[cI c,cI c,cI c]
   unfold C_;rw[Jk (by omega)]
   have:=Z3 (((p:Int) ^ d / ld q)*ld j) ((p:Int) ^ d)
   omega
  ·rw[cZ (by omega),cZ (by omega),cZ (by omega)];omega
 refine h.step hq (by omega) ?_ (λj hj=>?_) (t:=(p:Int) ^ d / ld q) (by rw[cI hq];exact ht) (λr hr=>?_) ⟨_,cY.mpr ⟨k,by omega,rfl⟩,_,w2⟩ (λr' hr'=>?_) λr' hr' j hj=>?_
 ·rcases L.src with ⟨i,hi,b,e⟩|e
  ·refine((h.sub _ (cY.mpr ⟨i,hi,rfl⟩)).gT b Gq.zero).Jt (z:=λj=>-fc n (λj=>(b*A i j) / (p:Int) ^ d) j) (λj hj=>cZ hj) λj=>?_
   by_cases c:j<n
   ·rw[cI c,cI c,cI c,e j c]
    have:=Z3 (b*A i j) ((p:Int) ^ d)
    grind
   ·rw[cZ (by omega),cZ (by omega),cZ (by omega)];grind
  ·refine(Gq.unit hq).of λj=>?_
   by_cases c:j<n
   ·rw[cI c,e j c]
   ·rw[cZ (by omega),Jk (by omega)]
 ·by_cases c:j<n
  ·rw[cI c];exact VT j hj c
  ·exact cZ (by omega)
 ·obtain⟨i,hi,rfl⟩:=cY.mp hr
  exact⟨_,cY.mpr ⟨i,by omega,rfl⟩,_,_,w1 i hi⟩
 ·obtain⟨i,hi,rfl⟩:=cY.mp hr'
  by_cases c:i<k
  ·exact .inl ⟨_,cY.mpr ⟨i,c,rfl⟩,_,_,w1 i c⟩
  ·obtain rfl:i=k:=by omega
   exact .inr ⟨_,w2⟩
 ·obtain⟨i,hi,rfl⟩:=cY.mp hr'
  by_cases c:j<n
  ·rw[cI c]
   unfold C_;by_cases ci:i<k
   ·rw[Jl ci]
    by_cases e:j=q
    ·rw[e,sL i ci,Int.sub_self,Int.zero_emod]
    ·rw[low i ci j (by omega) c,VT j (by omega) c,Yr,Int.sub_zero,Int.zero_emod]
   ·rw[Jk ci]
    by_cases e:j=q
    ·rw[e,ht,Int.emod_self]
    ·rw[VT j (by omega) c,Yr,Int.zero_emod]
  ·exact cZ (by omega)
theorem Hg {n k:Nat}{m:Int}{A:Nat->Vc}{T:Nat->Vc}:Ju n (rowsOf k n A) m n T (rowsOf k n λi j=>A i j % m):=by
 have e:∀i j,fc n (A i) j=fc n (λj=>A i j % m) j+m*fc n (λj=>A i j / m) j:=λi j=>by
  by_cases c:j<n
  ·rw[cI c,cI c,cI c];exact(Z3 _ _).symm
  ·rw[cZ (by omega),cZ (by omega),cZ (by omega)];omega
 refine .start (λr hr=>?_) λr hr=>?_
 ·obtain⟨i,hi,rfl⟩:=cY.mp hr
  exact(Gq.mem (cY.mpr ⟨i,hi,rfl⟩) λj hj=>cZ hj).Jt (z:=λj=>-fc n (λj=>A i j / m) j) (λj hj=>cZ hj) λj=>by have:=e i j;grind
 ·obtain⟨i,hi,rfl⟩:=cY.mp hr
  exact⟨_,cY.mpr ⟨i,hi,rfl⟩,_,e i⟩
inductive KJ (K:bX)(Pp:o?)(vs:List V)(H:Hp)(Q:VK)(Ce:XK):Prop where
 | mk (k n d p:Nat) (u:V) (A:Nat->Vc) (Ci:vs=[u,.int (p:Int),.int (d:Int)]) (Cj:p∈PR) (Ck:Rep (del H Pp) Any u (mE k n A)) (Cm:1<=n) (Cn:n<=20) (Co:1<=k) (Cq:k<=60) (C9:1<=d) (Eg:d<=30) (HE:fM f7 Pp H) (yk:∀(T:Nat->Vc) (s:Nat->Nat) r H',cH H Pp H'->fM f7 Pp H'->c7 n T->(∀i,i<n->T i i=(p:Int) ^ s i/\s i<=d)->(∀i j,i<n->j<n->0<=T i j/\T i j<=(p:Int) ^ d/\(j≠i->T i j<(p:Int) ^ d))->(∀v,Gq (rowsOf k n A) ((p:Int) ^ d) n v↔jt n T v)->Rep (del H' Pp) (eK H) r (mE n n T)->Q r H')
section
theorem yp {aC:o?}(B:iY mg)(jL:b_ P w K mg base 1 "number_power" ["k","n"] wR)(Hh:b_ P w K mg base 7 "lead_at" Kc (CJ K aC))(Hi:b_ P w K mg base 1 "without" Ka (N6 K))(F:Src K mg "triangular" jk G1):b_ P w K mg base 8 "triangular" G1 (KJ K aC):=by
 refine F.ok d_ (λvs H Q E h=>?_) (λf cdv A outer s H vs Q E hr h=>?_)
 ·obtain⟨k,n,d,p,u,A,rfl,_⟩:=h;rfl
 obtain⟨k,n,d,p,u,A,rfl,hp,ru,hn1,hn,hk1,hk,hd1,hd,tq,qq⟩:=h;obtain⟨lA,us,rfl,Lx,_,C⟩:=id ru.cf;have Ep:=(cF Lx).2;have pp:=bM hp;refine⟨_,ah (aD (i:=3) d_.nd rfl (Or.inr rfl) (aF jL hr (af (pv 1) (af (pv 2) ai))))
  (ah (jT (i:=4) d_.nd rfl (z? rfl) (aG (N:=["row","power"]) (sl:=[q?,j? 3]) (aq jk) XT rfl rfl (by decide +kernel)) rfl (bN (K:=K) rfl (pv 0)) (λ_ _ _ _ _=>(aE (i:=0) (Yk_ ["row","power"]) rfl (z? rfl))) (λ_ _ _ _ _=>aU) (λ_ _ _ _ _=>(cA (aG (N:=["number","power"]) (sl:=[q?,j? 1]) _ ["row","power"] rfl rfl (by kernel_rfl)) rfl (bN (K:=K) rfl (pv 0)) (λ_ _ _ _ _=>(aE (i:=0) (Yk_ ["number","power"]) rfl (z? rfl))) (λ_ _ _ _ _=>aU) (λ_ _ _ _ _=>(au bw (pv 0) (pv 1))))))
  (ah (aD (i:=5) d_.nd rfl (z? rfl) (bI ai))
  (ah (cU D? rfl (zT rfl B.reversed (af (v_ rfl B.range (af (aS (aT (K:=K) rfl) rfl B.len cB (af (bL (aJ (K:=K) rfl) (pv 0) ak (λ_ _=>rfl)) ai)) ai)) ai)) (aE (i:=6) d_.nd rfl (z? rfl))
   (ah (aD (i:=7) d_.nd rfl (z? rfl) (aF Hh hr (af (pv 4) (af (pv 6) (af (pv 1) (af (pv 3) ai))))))
   (ah (aD (i:=4) d_.nd rfl (z? rfl) (aF Hi hr (af (pv 4) (af (pv 7) (af (pv 6) (af (pv 3) ai))))))
   (ay (fH (q9 R? F! G! eB (pv 5) (af (pv 7) ai)))))))
  (ah (fH (Dh R? PySem.F.slot_list_reverse PySem.F.type_list_reverse pZ (pv 5) ))
  (ay (aL (pv 5))))))),?_⟩
 walk_at "rd"
 refine⟨p,d,rfl,by omega,by omega,?_⟩
 rw[Wx];have m0:(0:Int)<(p:Int) ^ d:=Wl (by omega)
 have N8:=zo hp hd;have SQ:∀vx i,us[i]?=j? vx->i<k/\∃lr,vx=.ref lr/\H lr=j? (.lst ((lv n (A i)).map V.int)):=λvx i e=>by
  obtain⟨hi,ri⟩:=C.get e;obtain⟨lr,rfl,hlr,_⟩:=eU ri;exact⟨hi,lr,rfl,(cF hlr).2⟩
 refine⟨_,rfl,lA,rfl,⟨_,aQ.of Ep⟩,λD hD=>?_⟩
 refine qg (λi=>rE n λj=>A i j % (p:Int) ^ d) (n:=k) C.len Ep hD (by omega) (λi vx H2 Q2 hi g2 kZ q2=>?_) λH2 g2 rr=>?_
 ·obtain⟨_,lr,rfl,hlr⟩:=SQ vx i kZ
  refine⟨_,rfl,lr,rfl,⟨_,aQ.of (g2 _ _ hlr)⟩,λD2 AO=>?_⟩
  refine qg (λj=>.num (A i j % (p:Int) ^ d)) (n:=n) (by rw[Ya,bW]) (g2 _ _ hlr) AO (by omega) (λj vx H3 Q3 hj g3 kZ q3=>?_) λH3 g3 rr=>q2 _ H3 g3 rr
  obtain⟨y1,hy1,rfl⟩:=bh kZ;rw[d7 hj] at hy1;cases hy1;refine⟨_,rfl,_,rfl,_,_,rfl,rfl,(show(p:Int) ^ d≠0 by omega),?_⟩
  show Q3 (V.int ((A i j).fmod ((p:Int) ^ d))) H3
  rw[Y8 _ (by omega)]
  exact q3 _ H3 (aI.refl _) (.num _)
 refine⟨a_ rfl,λtp htp=>?_⟩
 have k3:=aB htp (.lst []);have g3:=g2.trans k3;have fT:H tp=q?:=g2.free htp;obtain⟨ps,N_,_⟩:=id tq;have Q6:tp≠aC:=λz=>by rw[z,N_] at fT;cases fT
 obtain⟨v0,hv0,_⟩:=C.at_ 0 (by omega)
 obtain⟨_,l0,rfl,HX⟩:=SQ v0 0 hv0;have Ky:qZ us 0=j? (.ref l0):=f9 (j:=0) hv0;refine⟨_,rfl,lA,_,_,_,rfl,rfl,aQ.of (g3 _ _ Ep),Ky,l0,_,rfl,.inl (aQ.of (g3 _ _ HX)),?_⟩
 rw[Ya,bW];refine⟨_,rfl,λp3 n3=>⟨p3,_,rfl,av,by omega,by omega,?_⟩⟩
 have k4:=aB n3 (.sO 0 (n:Int));have g4:=g3.trans k4;rw[Yi];have T8:=k4 _ _ (show L2.upd H2 tp (.lst []) tp=j? (.lst []) from av)
 have YW:=k3.trans k4;generalize L2.upd (L2.upd H2 tp (.lst [])) p3 (.sO 0 (n:Int))=H4 at k4 g4 T8 YW;refine wc (λi σ H5=>cH H aC H5/\fM f7 aC H5/\∃(lf:V) (ys:List V) (A' T:Nat->Vc) (s:Nat->Nat) (o1 o2:Option V),σ=[Rq lA,Iq (p),Iq (d),j? (.int ((p:Int) ^ d)),j? lf,Rq tp,o1,o2]/\Rep (del H5 aC) (·≠tp) lf (mE (k+i) n A')/\
   (∀a j,a<k+i->j<n->0<=A' a j/\A' a j<(p:Int) ^ d)/\H5 tp=j? (.lst ys)/\Cf (del H5 aC) (λb=>H b=q?/\b≠tp) ys i (λt=>rE n (T (n-1-t)))/\Ju n (rowsOf k n A) ((p:Int) ^ d) (n-i) T (rowsOf (k+i) n A')/\(∀a,n-i<=a->a<n->T a a=(p:Int) ^ s a/\s a<=d)/\∀a j,n-i<=a->a<n->j<n->0<=T a j/\T a j<=(p:Int) ^ d/\(j≠a->T a j<(p:Int) ^ d))
  ⟨cH.of g4,tq.same g4,_,[],_,λ_ _=>0,λ_=>0,_,_,rfl,?_,λa j _ _=>⟨Zr _ (by omega),Zm _ m0⟩,T8,.nil,Hg,λa h1 h2=>by omega,λa j h1 h2=>by omega⟩ ?_ ?_
 ·exact rr.imp λb u h kb=>⟨by rw[jA (λz=>by rw[z] at kb;rw[show H aC=q? from kb] at N_;cases N_)];exact YW b u h,bG h htp⟩
 ·rintro i σ H5 hi ⟨n5,Q7,lf,ys,A',T,s,o1,o2,rfl,VU,rA,e5,Cy,tr,Q8,hT⟩
  obtain⟨q,hq⟩:∃q,q+1+i=n:=⟨n-1-i,by omega⟩
  have hqn:q<n:=by omega
  have eq1:((n:Int)-1-(i:Int))=((q:Nat):Int):=by omega
  rw[show n-i=q+1 by omega] at tr Q8 hT
  rw[eq1];refine⟨_,rfl,_,rfl,_,rfl,_,rfl,k+i,n,q,d,p,lf,A',rfl,hp,VU.any,hqn,hn,by omega,by omega,hd1,hd,rA,Q7,λld r H6 n6 Oa Q9 Ub=>?_⟩
  have m6:∃o,H6 aC=j? o:=by obtain⟨ps,h,_⟩:=id Oa;exact⟨_,h⟩
  have m5:∃o,H5 aC=j? o:=by obtain⟨ps,h,_⟩:=id Q7;exact⟨_,h⟩
  obtain⟨o6,ho6⟩:=m6;obtain⟨o5,ho5⟩:=m5;obtain⟨sq,hsq,YX⟩:=Q9.pw;have l0:0<ld q:=by rw[YX];exact Wl (by omega)
  have bl:∀j,j<n->Bd 8000 (ld j):=λj hj=>by
   have:=Q9.sO j hj
   exact(Bd.le (y:=(p:Int) ^ d) (by omega) N8).mono (by decide)
  refine⟨_,rfl,_,rfl,_,rfl,_,rfl,k+i,n,q,lf,r,A',ld,(p:Int) ^ d,rfl,((VU.same n6.del).any).same (fz _ _),Ub.any.same (fz _ _),hqn,by omega,by omega,m0,l0,N8.mono (by decide),λa j ha hj=>?_,bl,λr2 H7 g7 Ob=>?_⟩
  ·have:=rA a j ha hj
   exact(Bd.le (y:=(p:Int) ^ d) (by omega) N8).mono (by decide)
  have e6:=n6 tp _ Q6 e5;have e7:=g7 _ _ e6;refine⟨_,rfl,.inl ⟨rfl,_,aQ.of e7⟩,_,rfl,tp,_,_,rfl,rfl,e7,by rw[Cy.len,C?];omega,?_⟩
  have n7:cH H aC H7:=(n5.trans n6).trans (cH.of g7);have n8:=n7.bE fT (.lst (ys++[r]));have up:∀b u,b≠aC->b≠tp->H7 b=j? u->del (L2.upd H7 tp (.lst (ys++[r]))) aC b=j? u:=λb u h1 h2 h3=>by rw[jA h1,aN h2];exact h3
  have tq8:fM f7 aC (L2.upd H7 tp (.lst (ys++[r]))):=by
   obtain⟨ps,h1,h2,h3⟩:=Oa.same g7;refine⟨ps,by rw[aN (Ne.symm Q6)];exact h1,h2,λpos=>(h3 pos).imp id λ⟨c,a,b⟩=>⟨c,a,?_⟩⟩
   rw[aN (λz=>by rw[z,e7] at b;cases b)];exact b
  refine⟨n8,tq8,r2,ys++[r],C_ (k+i) A' ld q ((p:Int) ^ d),λa=>if a=q then fc n ld else T a,λa=>if a=q then sq else s a,_,_,rfl,?_,λa j _ _=>?_,av,?_,?_,λa h1 h2=>?_,λa j h1 h2 hj=>?_⟩
  ·exact Ob.imp λb u h kb=>⟨up b u (λz=>by rw[z] at kb;rw[show H6 aC=q? from kb] at ho6;cases ho6) (λz=>by rw[z] at kb;rw[show H6 tp=q? from kb] at e6;cases e6) h,λz=>by rw[z] at kb;rw[show H6 tp=q? from kb] at e6;cases e6⟩
  ·unfold C_
   split
   ·exact⟨Zr _ (by omega),Zm _ m0⟩
   ·exact⟨Zr _ (by omega),Zm _ m0⟩
  ·refine Cf.push ((Cy.imp λb u h kb=>⟨up b u (cF h).1 kb.2 (g7 _ _ (n6 b u (cF h).1 (cF h).2)),kb⟩).congr λt ht=>?_) ?_
   ·show rE n (T (n-1-t))=rE n (if n-1-t=q then fc n ld else T (n-1-t))
    rw[Jk (by omega)]
   ·show Rep _ _ r (rE n (if n-1-i=q then fc n ld else T (n-1-i)))
    rw[Jl (by omega),wY (w:=ld) λj hj=>cI hj]
    refine Ub.imp λb u h kb=>⟨up b u (cF h).1 (λz=>?_) (g7 _ _ (cF h).2),n5.fresh ⟨o5,ho5⟩ kb,λz=>?_⟩
    ·rw[z] at kb;rw[show H5 tp=q? from kb] at e5;cases e5
    ·rw[z] at kb;rw[show H5 tp=q? from kb] at e5;cases e5
  ·rw[show n-(i+1)=q by omega]
   exact KI (by omega) hqn tr Q9
  ·by_cases c:a=q
   ·subst c
    refine⟨?_,by show(if a=a then sq else s a)<=d;rw[Jl rfl];exact hsq⟩
    show(if a=a then fc n ld else T a) a=(p:Int) ^ (if a=a then sq else s a)
    rw[Jl rfl,Jl rfl,cI h2];exact YX
   ·have:=Q8 a (by omega) h2
    refine⟨?_,by show(if a=q then sq else s a)<=d;rw[Jk c];exact this.2⟩
    show(if a=q then fc n ld else T a) a=(p:Int) ^ (if a=q then sq else s a)
    rw[Jk c,Jk c];exact this.1
  ·show 0<=(if a=q then fc n ld else T a) j/\(if a=q then fc n ld else T a) j<=_/\(j≠a->(if a=q then fc n ld else T a) j<_)
   by_cases c:a=q
   ·rw[Jl c,cI hj]
    refine⟨(Q9.sO j hj).1,(Q9.sO j hj).2,λhja=>?_⟩
    rcases Q9.src with ⟨_,_,b,e⟩|e
    ·rw[e j hj];exact Zm _ m0
    ·rw[e j hj,Jk (λz=>hja (z.trans c.symm))];exact m0
   ·rw[Jk c];exact hT a j (by omega) h2 hj
 ·rintro σ H5 ⟨n5,Q7,lf,ys,A',T,s,o1,o2,rfl,VU,rA,e5,Cy,tr,Q8,hT⟩
  rw[W4] at tr Q8 hT;refine⟨_,rfl,.inl ⟨rfl,_,aQ.of e5⟩,tp,_,rfl,rfl,e5,⟨_,rfl,?_⟩⟩
  have n6:=n5.bE fT (.lst ys.reverse);have Oa:fM f7 aC (L2.upd H5 tp (.lst ys.reverse)):=by
   obtain⟨ps,h1,h2,h3⟩:=Q7;refine⟨ps,by rw[aN (Ne.symm Q6)];exact h1,h2,λpos=>(h3 pos).imp id λ⟨c,a,b⟩=>⟨c,a,?_⟩⟩
   rw[aN (λz=>by rw[z,e5] at b;cases b)];exact b
  refine qq T s _ _ n6 Oa ⟨λa ha j hj=>tr.lX a (by omega) ha j hj,λa ha=>?_⟩ (λa ha=>Q8 a (by omega) ha) (λa j ha hj=>hT a j (by omega) ha hj) (λv=>tr.done) ?_
  ·rw[(Q8 a (by omega) ha).1]
   exact Int.ne_of_gt (Wl (by omega))
  ·have c1:Cf (del (L2.upd H5 tp (.lst ys.reverse)) aC) (eK H) ys.reverse n λi=>rE n (T i):=by
    refine Cf.congr (Cf.rev (Cy.imp λb u h kb=>⟨by rw[jA (cF h).1,aN kb.2];exact(cF h).2,kb.1⟩)) λa ha=>?_
    show rE n (T (n-1-(n-1-a)))=_
    rw[show n-1-(n-1-a)=a by omega]
   exact c1.rep (by rw[jA Q6];exact av) fT
end
section
variable {R:Type} [Lean.Grind.CommRing R]
theorem Oc {k:Nat}{x:Vc}{A:Nat->Vc}{j:Nat}:zc R (sm k x A j)=sm k (λi=>zc R (x i)) (λi j=>zc R (A i j)) j:=by
 induction k with
 | zero=>exact fk
 | succ k ih=>
  show zc R (sm k x A j+x k*A k j)=sm k _ _ j+zc R (x k)*zc R (A k j)
  rw[jC,bH,ih]
end
theorem Qj {p:Nat}(hp:p∈PR){x:Int}:zc (ground p hp).α x=0↔(p:Int) ∣ x:=by
 have hz:zc (ground p hp).α (p:Int)=0:=by rw[bZ];exact(ground p hp).ch
 constructor
 ·intro h
  refine V? λnd=>?_
  obtain⟨u,v,e⟩:=AY hp nd 1;have e2:zc (ground p hp).α (u*x+v*(p:Int) ^ 1)=1:=by rw[e,b9]
  rw[Yq,Yu,Zg,jC,bH,bH,h,hz] at e2;refine(ground p hp).fld.1 ?_
  rw[<- e2];grind
 ·rintro⟨c,rfl⟩
  rw[bH,hz];grind
theorem KL {p:Nat}(hp:p∈PR){m:Nat}{l:List Int}(h:Rw p m l)(j:Nat):zr hp l j=zc (ground p hp).α (l.getD j 0):=by
 have:=(h.get j).1
 show nt (ground p hp).α (l.getD j 0).toNat=_
 rw[<- bZ,Wh this]
theorem SR {p:Nat}(hp:p∈PR)(a:(ground p hp).α):∃k:Int,zc (ground p hp).α k=a:=⟨(zv (T:=ground p hp) a:Int),by rw[bZ];exact Sa (T:=ground p hp) a⟩
def oi (W:Nat)(l:List Int):Vc:=λi=>l.getD (W+i) 0
theorem CK {p:Nat}(hp:p∈PR){W k:Nat}{A:Nat->Vc}(sO:∀i j,i<k->j<W->0<=A i j/\A i j<(p:Int)){S:List (List Int)}(hS:∀l∈S,Rw p (W+k) l)(hK:C8 W k (λr j=>zr hp (((Yk k).map λi=>lv W (A i)).getD r []) j) W (S.map (zr hp))):
  (∀l∈S,∀j,j<W->(p:Int) ∣ sm k (oi W l) A j)/\∀x:Vc,(∀j,j<W->(p:Int) ∣ sm k x A j)->∃v z:Vc,gW (S.map (oi W)) v/\∀i,i<k->x i=v i+(p:Int)*z i:=by
 have er:∀i j,i<k->j<W->zr hp (((Yk k).map λi=>lv W (A i)).getD i []) j=zc (ground p hp).α (A i j):=λi j hi hj=>by
  have e1:((Yk k).map λi=>lv W (A i)).getD i []=lv W (A i):=by rw[Yb,Ye,Y1 hi];rfl
  have h:Rw p W (lv W (A i)):=⟨bW _ _,λx hx=>by
   unfold lv at hx;obtain⟨j,hj,rfl⟩:=List.mem_map.mp hx;exact sO i j hi (List.mem_range.mp hj)⟩
  rw[e1,KL hp h,Yb,d7 hj];rfl
 obtain⟨d1,d2⟩:=hK.done;refine⟨λl hl j hj=>?_,λx hx=>?_⟩
 ·have:=d1 _ (List.mem_map.mpr ⟨l,hl,rfl⟩) j hj
  rw[cW (d':=λi=>zc (ground p hp).α (oi W l i)) (R':=λi j=>zc (ground p hp).α (A i j)) (λi _=>KL hp (hS l hl) (W+i)) (λi hi=>er i j hi hj),<- Oc] at this
  exact(Qj hp).mp this
 ·obtain⟨v,hv,ev⟩:=d2 (λi=>zc (ground p hp).α (x i)) λj hj=>by
   rw[cW (d':=λi=>zc (ground p hp).α (x i)) (R':=λi j=>zc (ground p hp).α (A i j)) (λi _=>rfl) (λi hi=>er i j hi hj),<- Oc]
   exact(Qj hp).mpr (hx j hj)
  have lift:∀ {v:Nat->(ground p hp).α},gW (S.map (zr hp)) v->∃u:Vc,gW (S.map (oi W)) u/\∀i,v (W+i)=zc (ground p hp).α (u i):=by
   intro v hv;induction hv with
   | zero=>exact⟨_,.zero,λi=>fk.symm⟩
   | @add r v a hr _ ih=>
    obtain⟨l,hl,rfl⟩:=List.mem_map.mp hr;obtain⟨u,hu,eu⟩:=ih;obtain⟨k',rfl⟩:=SR hp a;refine⟨_,.add k' (List.mem_map.mpr ⟨l,hl,rfl⟩) hu,λi=>?_⟩
    show zc _ k'*zr hp l (W+i)+v (W+i)=zc _ (k'*oi W l i+u i)
    rw[jC,bH,eu i,KL hp (hS l hl)];rfl
  obtain⟨u,hu,eu⟩:=lift hv;have hz:∀i,∃z:Int,i<k->x i=u i+(p:Int)*z:=λi=>by
   by_cases c:i<k
   ·have e:zc (ground p hp).α (x i+-u i)=0:=by rw[jC,gG,<- ev i c,<- eu i];grind
    obtain⟨z,hz⟩:=(Qj hp).mp e;exact⟨z,λ_=>by omega⟩
   ·exact⟨0,λh=>Jr h c⟩
  obtain⟨z,hz⟩:=Classical.axiomOfChoice hz;exact⟨u,z,hu,hz⟩
theorem c7.bnd {n b e:Nat}{T:Nat->Vc}(hT:c7 n T)(bT:∀i j,i<n->j<n->Bd e (T i j)){c:Vc}(hb:∀j,j<n->Bd b (sm n c T j)):∀i,i<n->Bd (b+(e+1)*n) (c i):=by
 have key:∀m k,k+m=n->(∀j,j<n->Bd (b+(e+1)*m) (sm k c T j))/\∀i,k<=i->i<n->Bd (b+(e+1)*n) (c i):=by
  intro m;induction m with
  | zero=>
   intro k hk;obtain rfl:k=n:=by omega
   exact⟨λj hj=>(hb j hj).mono (by omega),λi h1 h2=>by omega⟩
  | succ m ih=>
   intro k hk;obtain⟨h1,h2⟩:=ih (k+1) (by omega)
   have e1:=h1 k (by omega)
   rw[hT.at_ c (by omega)] at e1
   have ck:Bd (b+(e+1)*m) (c k):=by
    refine Bd.le ?_ e1
    rw[Zq];exact Nat.le_mul_of_pos_right _ (by have:=hT.nz k (by omega);omega)
   refine⟨λj hj=>?_,λi hi hn=>?_⟩
   ·have e2:sm k c T j=sm (k+1) c T j-c k*T k j:=by show _=sm k c T j+c k*T k j-c k*T k j;omega
    rw[e2];refine((h1 j hj).sub (ck.mul (bT k j (by omega) hj))).mono ?_
    rw[Zw];omega
   ·by_cases c1:i=k
    ·rw[c1]
     refine ck.mono ?_
     have:(e+1)*m<=(e+1)*n:=Y6 _ (by omega)
     omega
    ·exact h2 i (by omega) hn
 exact λi hi=>(key n 0 (by omega)).2 i (Y5 _) hi
theorem KN {f:Fn}{n a:Nat}(hf:∀j,Bd a (f j)):∀k j,Bd (1+k*(a+1)) (tk f n k j)
 | 0,j=>by
  show Bd _ (if j=0 then 1 else 0)
  split
  ·show Wa 1<2 ^ _;rw[Nat.zero_mul];decide
  ·show Wa 0<2 ^ _;rw[Nat.zero_mul];decide
 | k+1,j=>by
  show Bd _ ((if j=0 then 0 else tk f n k (j-1))-tk f n k (n-1)*f j)
  have h1:Bd (1+k*(a+1)) (if j=0 then 0 else tk f n k (j-1)):=by
   split
   ·exact Wf (by decide)
   ·exact KN hf k (j-1)
  refine(h1.sub ((KN hf k (n-1)).mul (hf j))).mono ?_
  rw[Zn];omega
theorem Qk {f:Fn}{n a b:Nat}{u v:Vc}(hn:n<=6)(hf:∀j,Bd a (f j))(hu:∀j,j<n->Bd b (u j))(hv:∀j,j<n->Bd b (v j))(k:Nat):Bd (b+(b+(1+10*(a+1))+3)+3) (F5 f n u v k):=by
 unfold F5;refine F7 (k:=3) (by omega) hu λi hi=>F7 (k:=3) (by omega) hv λj hj=>(KN hf (i+j) k).mono ?_
 have:(i+j)*(a+1)<=10*(a+1):=Yp _ (by omega)
 omega
section
variable {R:Type} [Lean.Grind.CommRing R] {n p:Nat} {el:Vc->R} {c:Nat->Nat->Vc}
theorem Ql (Ba:oM n el)(h:c9 (Of el))(hc:∀i j,i<n->j<n->el (un i)*el (un j)=el (c i j))(x y:Vc):Cp (Of el) (nt R p) (el (Ly n c (p:Int) x y)) (el x*el y):=by
 refine Cp.symm h ⟨el λk=>sm n x (λi k=>sm n y (c i) k) k / (p:Int),⟨_,rfl⟩,?_⟩
 rw[Ba.mul hc,<- bZ];have:=Ba.gT (p:Int) (λk=>sm n x (λi k=>sm n y (c i) k) k / (p:Int)) (Ly n c (p:Int) x y)
 rw[show(λj=>(p:Int)*(sm n x (λi k=>sm n y (c i) k) j / (p:Int))+Ly n c (p:Int) x y j)=λk=>sm n x (λi k=>sm n y (c i) k) k from funext λj=>by
  have:=Z3 (sm n x (λi k=>sm n y (c i) k) j) (p:Int)
  unfold Ly;omega] at this
 rw[this];grind
theorem KO (Ba:oM n el)(h:c9 (Of el))(hc:∀i j,i<n->j<n->el (un i)*el (un j)=el (c i j))(x:Vc):∀m,Cp (Of el) (nt R p) (el (MZ n c (p:Int) x m)) (el x ^ (m+1))
 | 0=>by
  have:el x ^ (0+1)=el x:=by rw[aH,aM];grind
  rw[this];exact .refl h _
 | m+1=>by
  refine(Ql Ba h hc _ x).trans h ?_
  rw[aH (el x) (m+1)];exact .mul h (h.pow ⟨_,rfl⟩ _) ⟨_,rfl⟩ (KO Ba h hc x m) (.refl h _)
theorem KP (hp:p∈PR)(Ba:oM n el)(h:c9 (Of el))(hc:∀i j,i<n->j<n->el (un i)*el (un j)=el (c i j))(i:Nat):∀k,Cp (Of el) (nt R p) (el (G8 n c p k i)) (el (un i) ^ (p ^ k))
 | 0=>by
  have:el (un i) ^ (p ^ 0)=el (un i):=by rw[Nat.pow_zero,show(1:Nat)=0+1 from rfl,aH,aM];grind
  rw[this];exact .refl h _
 | k+1=>by
  have pp:=bM hp;refine(KO Ba h hc (G8 n c p k i) (p-1)).trans h ?_
  rw[show p-1+1=p by omega,Zu,qe]
  exact(KP hp Ba h hc i k).pow h ⟨_,rfl⟩ (h.pow ⟨_,rfl⟩ _) p
end
theorem SS (n:Nat)(v:Vc):rE n v=eN (lv n v):=by
 unfold rE kO eN lv;rw[Jg];rfl
theorem A1 (r c:Nat)(A:Nat->Vc):mE r c A=.vec (((Yk r).map λi=>lv c (A i)).map eN):=by
 unfold mE kO;rw[Jg];congr 1
 exact Wg λi _=>SS c (A i)
theorem F_ {p W k:Nat}{S:List (List Int)}(hS:∀l∈S,Rw p (W+k) l):El.vec (S.map λl=>eN (l.drop W))=mE S.length k λt=>oi W (S.getD t []):=by
 rw[A1];congr 1
 refine Z7 λt=>?_
 rw[Ye,Ye,Ye];by_cases ht:t<S.length
 ·rw[Y1 ht,Yc ht]
  show j? (eN (S[t].drop W))=j? (eN (lv k (oi W (S.getD t []))))
  have e:S.getD t []=S[t]:=by rw[Yb,Yc ht];rfl
  have hl:=(hS _ (Y0 ht)).1;rw[e];congr 2
  refine Z7 λi=>?_
  by_cases hi:i<k
  ·rw[d7 hi,List.getElem?_drop]
   show _=j? (S[t].getD (W+i) 0)
   rw[Yb,Yc (by omega)];rfl
  ·rw[List.getElem?_eq_none_iff.mpr (by rw[Ze];omega),List.getElem?_eq_none_iff.mpr (by rw[bW];omega)]
 ·rw[List.getElem?_eq_none_iff.mpr (by omega),List.getElem?_eq_none_iff.mpr (by rw[Yf];omega)];rfl
theorem CL {p W k:Nat}{S:List (List Int)}(hS:∀l∈S,Rw p (W+k) l):rowsOf S.length k (λt=>oi W (S.getD t []))=S.map (oi W):=by
 refine Z7 λt=>?_
 unfold rowsOf;rw[Ye,Ye];by_cases ht:t<S.length
 ·rw[Y1 ht,Yc ht]
  show j? (fc k (oi W (S.getD t [])))=j? (oi W S[t])
  have e:S.getD t []=S[t]:=by rw[Yb,Yc ht];rfl
  have hl:=(hS _ (Y0 ht)).1;rw[e];congr 1
  funext i
  by_cases hi:i<k
  ·exact cI hi
  ·rw[cZ (by omega)]
   show 0=S[t].getD (W+i) 0
   rw[Yb,List.getElem?_eq_none_iff.mpr (by omega)];rfl
 ·rw[List.getElem?_eq_none_iff.mpr (by rw[Yf];omega),List.getElem?_eq_none_iff.mpr (by omega)];rfl
theorem M4 {p W k:Nat}{S:List (List Int)}(hS:∀l∈S,Rw p (W+k) l){t i:Nat}(ht:t<S.length)(hi:i<k):0<=oi W (S.getD t []) i/\oi W (S.getD t []) i<(p:Int):=by
 have e:S.getD t []=S[t]:=by rw[Yb,Yc ht];rfl
 have hl:=hS _ (Y0 ht);rw[e];have hg:S[t][W+i]?=j? (S[t].getD (W+i) 0):=by rw[Yb,Yc (by rw[hl.1];omega)];rfl
 exact hl.2 _ (Yy hg)
theorem Qn {p:Int}{n:Nat}{x:Vc}{A B:Nat->Vc}{j:Nat}(h:∀i,i<n->p ∣ A i j-B i j):p ∣ sm n x A j-sm n x B j:=by
 induction n with
 | zero=>exact⟨0,by show(0:Int)-0=p*0;omega⟩
 | succ n ih=>
  obtain⟨a,ha⟩:=ih λi hi=>h i (by omega)
  obtain⟨b,hb⟩:=h n (by omega)
  refine⟨a+x n*b,?_⟩
  show sm n x A j+x n*A n j-(sm n x B j+x n*B n j)=_
  grind
section
variable {R:Type} [Lean.Grind.CommRing R]
structure KQ (n p:Nat)(el:Vc->R)(ip:R)(c:Nat->Nat->Vc):Prop where
 oN:oM n el
 sub:c9 (Of el)
 mul:∀i j,i<n->j<n->el (un i)*el (un j)=el (c i j)
 inv:nt R p*ip=1
structure MulOk (n p:Nat)(el:Vc->R)(ip:R)(d m:Nat)(N:Nat->Vc):Prop where
 le:m<=50
 sO:∀t i,t<m->i<n->0<=N t i/\N t i<(p:Int)
 nz:∀t,t<m->∃i,i<n/\N t i≠0
 mlt:∀t,t<m->Ah (Of el) (nt R p) (p ^ d) (ip*el (N t))
 all:∀x,Ah (Of el) (nt R p) (p ^ d) (ip*el x)->∃v z:Vc,gW (rowsOf m n N) v/\∀i,i<n->x i=v i+(p:Int)*z i
 ge:n<=p ^ d
variable {n p d:Nat} {el:Vc->R} {ip:R} {c:Nat->Nat->Vc}
theorem KR (hp:p∈PR)(G:KQ n p el ip c){told:Nat->Vc}(ht:∀i,i<n->Cp (Of el) (nt R p) (el (told i)) (el (un i) ^ (p ^ d))){m0:Nat}{N:Nat->Vc}(k1:∀t,t<m0->∀j,j<n->(p:Int) ∣ sm n (N t) told j)
  (k2:∀x:Vc,(∀j,j<n->(p:Int) ∣ sm n x told j)->∃v z:Vc,gW (rowsOf m0 n N) v/\∀i,i<n->x i=v i+(p:Int)*z i) {x:Vc} (x0:∀j,n<=j->x j=0):Gq (rowsOf m0 n N) ((p:Int) ^ 1) n x↔m7 (Of el) (nt R p) (p ^ d) (el x):=by
 have e1:(p:Int) ^ 1=(p:Int):=by rw[Yq,Yu,Zg]
 have hq:1<=p ^ d:=Wf (qh hp);rw[e1];constructor
 ·rintro⟨_,u,z,hu,e⟩
  have iu:m7 (Of el) (nt R p) (p ^ d) (el u):=by
   clear e;induction hu with
   | zero=>rw[G.oN.zero];exact .zero G.sub hq
   | @add r v a hr _ ih=>
    obtain⟨t,ht',rfl⟩:=cY.mp hr;rw[G.oN.gT];refine m7.add G.sub hp (m7.mul G.sub ?_ (G.sub.zc a)) ih
    rw[G.oN.sup _ (N t) λj hj=>cI hj]
    exact(G.oN.idl G.sub hp ht _).mpr (k1 t ht')
  have e2:el x=zc R (p:Int)*el z+el u:=by
   rw[<- G.oN.gT];exact G.oN.sup _ _ λj _=>by rw[e j];omega
  rw[e2,bZ];exact(m7.own G.sub hq (G.sub.nt p) ⟨z,rfl⟩).add G.sub hp iu
 ·intro h
  obtain⟨v,z,hv,e⟩:=k2 x ((G.oN.idl G.sub hp ht x).mp h);have v0:∀j,n<=j->v j=0:=λj hj=>hv.DI λr hr=>by
   obtain⟨t,_,rfl⟩:=cY.mp hr;exact cZ hj
  exact⟨x0,v,fc n z,hv,λj=>by
   by_cases cj:j<n
   ·rw[cI cj];exact e j cj
   ·rw[cZ (by omega),x0 j (by omega),v0 j (by omega)];omega⟩
theorem KS (hp:p∈PR)(G:KQ n p el ip c)(hge:n<=p ^ d){told:Nat->Vc}(ht:∀i,i<n->Cp (Of el) (nt R p) (el (told i)) (el (un i) ^ (p ^ d)))(k2:∀x:Vc,(∀j,j<n->(p:Int) ∣ sm n x told j)->∃z:Vc,∀i,i<n->x i=(p:Int)*z i)(N:Nat->Vc):MulOk n p el ip d 0 N:=by
 refine⟨by decide,λt i h=>by omega,λt h=>by omega,λt h=>by omega,λx hx=>?_,hge⟩
 have h1:=hx.2 _ (m7.own G.sub (Wf (qh hp)) (G.sub.nt p) G.sub.one);have inv:=G.inv;rw[show ip*el x*(nt R p*1)=el x by grind] at h1
 obtain⟨z,hz⟩:=k2 x ((G.oN.idl G.sub hp ht x).mp h1);exact⟨_,z,.zero,λi hi=>by rw[hz i hi];omega⟩
end
theorem Od {r c:Nat}{A:Nat->Vc}(h:r<=100)(k:c<=100):GL 2 (mE r c A):=.vec (by rw[Ya,Yf];exact h) λe he=>by
 obtain⟨i,_,rfl⟩:=List.mem_map.mp he;exact N7 k
theorem Qo {n j:Nat}{u v:Vc}(h:∀k,k<n->u (n*j+k)=v k):lv (n*j) u++lv n v=lv (n*(j+1)) u:=by
 refine Z7 λq=>?_
 have e:n*(j+1)=n*j+n:=Zw n j;by_cases c1:q<n*j
 ·rw[Zd (by rw[bW];exact c1),d7 c1,d7 (by omega)]
 ·rw[Zh (by rw[bW];omega),bW]
  by_cases c2:q<n*j+n
  ·rw[d7 (by omega),d7 (by omega),<- h (q-n*j) (by omega),show n*j+(q-n*j)=q by omega]
  ·rw[List.getElem?_eq_none_iff.mpr (by rw[bW];omega),List.getElem?_eq_none_iff.mpr (by rw[bW];omega)]
inductive KU (K:bX)(Pp:o?)(vs:List V)(H:Hp)(Q:VK)(Ce:XK):Prop where
 | mk (n p:Nat) (R:Type) (_:Lean.Grind.CommRing R) (el:Vc->R) (ip:R) (c:Nat->Nat->Vc) (t:V) (Ci:vs=[t,.int (p:Int)]) (Cj:p∈PR) (Ck:Rep (del H Pp) Any t (tE n n n c)) (Cm:1<=n) (Cn:n<=6) (Co:(∀i j k,i<n->j<n->k<n->Bd 60000 (c i j k))) (Cq:KQ n p el ip c) (C9:fM f7 Pp H) (Eg:∀(d m:Nat) (N:Nat->Vc) r H',cH H Pp H'->fM f7 Pp H'->MulOk n p el ip d m N->Rep (del H' Pp) (eK H) r (mE m n N)->Q r H')
section
theorem xG {aC:o?}(B:iY mg)(KW:b_ P w K mg base 4 "raised" yi (CH K))(CM:b_ P w K mg base 2 "kernel" ["rows","p"] Ct)(mL:b_ P w K mg base 8 "triangular" G1 (KJ K aC))(ko:b_ P w K mg base 1 "coordinates" G2 (xE K))(kW:b_ P w K mg base 1 "summed" AI (sF K))(F:Src K mg "multipliers" iL yi):b_ P w K mg base 9 "multipliers" yi (KU K aC):=by
 refine F.ok cX (λvs H Q E h=>?_) (λf cdv A outer s H vs Q E hr h=>?_)
 ·obtain⟨n,p,R,_,el,ip,c,t,rfl,_⟩:=h;rfl
 obtain⟨n,p,R,_,el,ip,c,t,rfl,hp,rt,hn1,hn,bc,G,tq,qq⟩:=h;have pp:=bM hp;obtain⟨lt,us,rfl,hlt,_,C⟩:=id rt.cf;have hlt':=(cF hlt).2;refine⟨_,ah (aD (i:=2) cX.nd rfl (z? rfl) (aF CM hr (af (aF KW hr (af (pv 0) (af (pv 1) ai))) (af (pv 1) ai))))
  (ah (eT (aX (lH (K:=K) rfl hr.units) (pv 2) (bI ai) (bC _))
   (ay (aL (bI ai)))
   (cD))
  (ah (aD (i:=3) cX.nd rfl (z? rfl) (aF mL hr (af (pv 2) (af (pv 1) (af ak ai)))))
  (ah (aD (i:=4) cX.nd rfl (z? rfl) (bI ai))
  (ah (cU D? rfl (bN (K:=K) rfl (pv 0)) (aE (i:=5) cX.nd rfl (z? rfl))
   (ah (aD (i:=6) cX.nd rfl (z? rfl) (bI ai))
   (ah (cU D? rfl (bN (K:=K) rfl (pv 3)) (aE (i:=7) cX.nd rfl (z? rfl))
    (ay (aD (i:=6) cX.nd rfl (z? rfl) (au i6 (pv 6) (cA (aG (N:=G3) (sl:=[q?,j? 1]) (aq iL) XY rfl rfl (by decide +kernel)) rfl (bN (K:=K) rfl (aF ko hr (af (pv 3) (af (aF kW hr (af (pv 7) (af (pv 5) ai))) ai)))) (λ_ _ _ _ _=>(aE (i:=0) (Yk_ G3) rfl (z? rfl))) (λ_ _ _ _ _=>aU) (λ_ _ _ _ _=>(au bw (pv 0) (pv 1))))))))
   (ay (fH (q9 R? F! G! eB (pv 4) (af (pv 6) ai)))))))
  (ay (aL (aF CM hr (af (pv 4) (af (pv 1) ai))))))))),?_⟩
 walk_at "rd"
 have rtH:Rep H Any (.ref lt) (tE n n n c):=rt.same (fz _ _);refine⟨n,p,.ref lt,c,rfl,rtH,hn1,by omega,by omega,by omega,λi j k hi hj hk=>(bc i j k hi hj hk).mono (by decide),λk1 r1 H1 hge g1 rr1=>?_⟩
 have lR:((Yk n).map λi=>lv n (G8 n c p k1 i)).length=n:=by rw[Ya,Yf]
 refine⟨_,rfl,p,hp,n,r1,(Yk n).map λi=>lv n (G8 n c p k1 i),rfl,by rw[<- A1];exact rr1.any,by rw[lR];exact hn1,by rw[lR];omega,by omega,λa ha=>?_,λS r2 H2 g2 hS lS nzS kS YY=>?_⟩
 ·obtain⟨i,_,rfl⟩:=List.mem_map.mp ha
  refine⟨bW _ _,λx hx=>?_⟩
  obtain⟨j,_,rfl⟩:=List.mem_map.mp hx;exact vK (by omega) k1
 rw[lR] at hS nzS kS;obtain⟨km1,VV⟩:=CK hp (W:=n) (k:=n) (A:=G8 n c p k1) (λi j _ _=>vK (by omega) k1) hS kS
 rw[F_ hS] at YY;rw[<- CL hS] at VV;have ht:=λi (_:i<n)=>KP hp G.oN G.sub G.mul i k1
 have VW:∀t,t<S.length->∀j,j<n->(p:Int) ∣ sm n (oi n (S.getD t [])) (G8 n c p k1) j:=λt ht'=>km1 _ (by rw[Yb,Yc ht'];exact Y0 ht')
 have idk:=λ{x:Vc} x0=>KR hp G ht VW VV (x:=x) x0
 have g12:=g1.trans g2;refine⟨_,rfl,a_ rfl,λpe MU=>?_⟩
 have k3:=aB MU (.lst []);have N9:(L2.upd H2 pe (.lst [])) pe=j? (.lst []):=av;have N4:=g12.trans k3;generalize L2.upd H2 pe (.lst [])=H3 at k3 N9 N4;have Q0:=YY.same k3;have tq1:=tq.same g1;have Hf:=tq.same N4;obtain⟨ps1,hP1,_⟩:=id tq1;obtain⟨ps3,Ue,_⟩:=id Hf;have KH:Rep H3 Any (.ref pe) (.vec []):=.vec N9 trivial rfl λi v e h=>by simp at h
 refine NL Q0 KH (Od (by omega) (by omega)) (.vec (n:=1) (by decide) λe he=>by simp at he) (by decide) (by decide) (λe=>?_) (λe=>?_)
 ·have s0:S.length=0:=by
   unfold mE kO at e;injection e with e
   have:=Jp Jh e
   rw[Ya,Yf] at this;exact this
  refine⟨_,rfl,vZ ⟨a_ rfl,λp4 n4=>?_⟩⟩
  have k4:=aB n4 (.lst []);refine qq k1 0 (λ_ _=>0) _ _ (cH.of (N4.trans k4)) (Hf.same k4) (KS hp G hge ht (λx hx=>?_) _) ?_
  ·obtain⟨v,z,hv,ev⟩:=VV x hx
   rw[s0] at hv;have v0:∀j,v j=0:=λj=>hv.DI λr hr=>by
    obtain⟨t,ht,_⟩:=cY.mp hr;omega
   exact⟨z,λi hi=>by rw[ev i hi,v0 i];omega⟩
  ·exact Rep.AZ (H1:=H3) (.vec av (show H3 p4=q? from n4) rfl λi v e h=>by simp at h) Ue λb hb=>N4.free hb
 ·have s1:1<=S.length:=by
   rcases Nat.eq_zero_or_pos S.length with y|y
   ·exact Jr (by unfold mE kO;rw[y];rfl) e
   ·exact y
  refine⟨_,rfl,tu ?_⟩
  refine⟨_,rfl,_,rfl,S.length,n,1,p,r2,λt=>oi n (S.getD t []),rfl,hp,Rep.any (Rep.AZ (H0:=H1) Q0 hP1 λb hb=>hb),hn1,by omega,s1,by omega,Yd 1,by decide,Hf,λVm sV r4 H4 n4 Qi Ug pwV rV gqV Qh=>?_⟩
  obtain⟨ps4,hP4,_⟩:=id Qi;have Uh:cH H aC H4:=(cH.of N4).trans n4;have VX:Rep H4 Any (.ref lt) (tE n n n c):=(rt.same Uh.del).same (fz _ _);have YZ:Rep H4 Any r4 (mE n n Vm):=Qh.any.same (fz _ _);clear VX C hlt hlt';have VX:Rep H4 Any (.ref lt) (tE n n n c):=(rt.same Uh.del).same (fz _ _);obtain⟨lt',us,elt,hlt,_,C⟩:=id VX.cf;cases elt;obtain⟨la,vs4,rfl,hla,_,CI⟩:=id YZ.cf;have p1:(p:Int) ^ 1=(p:Int):=by rw[Yq,Yu,Zg]
  have bV:∀i j,i<n->j<n->Bd 6 (Vm i j):=λi j hi hj=>by
   have:=rV i j hi hj
   rw[p1] at this;show Wa _<2 ^ 6
   omega
  have hI:∀x:Vc,(∀j,n<=j->x j=0)->(jt n Vm x↔m7 (Of el) (nt R p) (p ^ k1) (el x)):=λx x0=>(gqV x).symm.trans (idk x0)
  have htx:∀i,∃ti:Nat->Vc,∀j,i<n->j<n->∀k,fc n (λk=>sm n (Vm j) (c i) k) k=sm n (ti j) Vm k:=λi=>by
   refine Classical.axiomOfChoice (r:=λj (t:Vc)=>i<n->j<n->∀k,fc n (λk=>sm n (Vm j) (c i) k) k=sm n t Vm k) λj=>?_
   by_cases hi:i<n
   ·by_cases hj:j<n
    ·have h1:=(hI (Vm j) λk hk=>Ug.lX j hj k (by omega)).mp (.row hj)
     have h2:=h1.mul G.sub (G.oN.JC i);rw[G.oN.DP G.mul hi,G.oN.sup (λk=>sm n (Vm j) (c i) k) (fc n λk=>sm n (Vm j) (c i) k) λk hk=>(cI hk).symm] at h2
     obtain⟨t,ht⟩:=(hI _ λk hk=>cZ hk).mpr h2
     exact⟨t,λ_ _=>ht⟩
    ·exact⟨λ_=>0,λ_ h=>Jr h hj⟩
   ·exact⟨λ_=>0,λh=>Jr h hi⟩
  obtain⟨tt,htt⟩:=Classical.axiomOfChoice htx;have Qp:∀i j,i<n->j<n->∀k,k<n->sm n (Vm j) (c i) k=sm n (tt i j) Vm k:=λi j hi hj k hk=>by rw[<- htt i j hi hj k,cI hk]
  have btt:∀i j,i<n->j<n->∀k,k<n->Bd 100000 (tt i j k):=λi j hi hj k hk=>by
   refine(c7.bnd (b:=60009) Ug bV (λq hq=>?_) k hk).mono ?_
   ·rw[<- Qp i j hi hj q hq]
    exact(F7 (k:=3) (by omega) (λa ha=>bV j a hj ha) λa ha=>bc i a q hi ha hq).mono (by decide)
   ·have:7*n<=7*6:=Y6 _ hn
    omega
  have mlt:=λx=>G.oN.mlt G.sub hp G.mul Ug hI Qp G.inv x
  refine⟨a_ rfl,λrp VY=>?_⟩
  have k5:=aB VY (.lst []);have Y_:(L2.upd H4 rp (.lst [])) rp=j? (.lst []):=av;generalize L2.upd H4 rp (.lst [])=H5 at k5 Y_;have nn:n*n<=6*6:=Zy hn hn;refine⟨_,rfl,lt,rfl,⟨_,aQ.of (k5 _ _ hlt)⟩,nh (xs:=us) (λi σ H6=>aI H4 H6/\∃(ys:List V) (o1 o2 o3:Option V),σ=[Rq lt,Iq (p),j? r2,Rq la,Rq rp,o1,o2,o3]/\H6 rp=j? (.lst ys)/\Cf H6 (Off H4 rp) ys i λi=>rE (n*n) λq=>tt i (q / n) (q % n) % (p:Int))
   ⟨k5,[],_,_,_,rfl,Y_,.nil⟩ (λi σ H6 _ h=>aQ.of (h.1 _ _ hlt)) ?_ ?_⟩
  ·rintro i vx σ H6 kZ ⟨g6,ys,o1,o2,o3,rfl,e6,Cy⟩
   obtain⟨hi,ri⟩:=C.get kZ;refine⟨a_ rfl,λr0 n0=>?_⟩
   have k7:=aB n0 (.lst []);have ZA:(L2.upd H6 r0 (.lst [])) r0=j? (.lst []):=av;generalize L2.upd H6 r0 (.lst [])=H7 at k7 ZA;have g7:=g6.trans k7;refine⟨_,rfl,la,rfl,⟨_,aQ.of (g7 _ _ hla)⟩,nh (xs:=vs4) (λj σ H8=>aI H7 H8/\∃(ra:o?) (o:Option V),σ=[Rq lt,Iq (p),j? r2,Rq la,Rq rp,j? vx,Rq ra,o]/\H8 ra=j? (.lst ((lv (n*j) λq=>tt i (q / n) (q % n) % (p:Int)).map V.int))/\H6 ra=q?)
    ⟨aI.refl _,r0,_,rfl,by rw[Wn];exact ZA,n0⟩ (λj σ H8 _ h=>aQ.of ((g7.trans h.1) _ _ hla)) ?_ ?_⟩
   ·rintro j vy σ H8 Ku ⟨g8,ra,o,rfl,e8,n8⟩
    obtain⟨hj,rj⟩:=CI.get Ku;have VZ:=g7.trans g8;refine⟨_,rfl,_,rfl,_,rfl,_,rfl,n,n,vy,vx,Vm j,c i,rfl,rj.same VZ,ri.same VZ,hn1,by omega,by omega,λa ha=>(bV j a hj ha).mono (by decide),λa b ha hb=>(bc i a b hi ha hb).mono (by decide),λr9 H9 g9 VL=>?_⟩
    refine⟨n,.ref la,r9,Vm,_,tt i j,rfl,YZ.same (VZ.trans g9),VL.any,by omega,Ug,Qp i j hi hj,btt i j hi hj,λa b ha hb=>(bV a b ha hb).mono (by decide),λr10 Ui g10 M5=>?_⟩
    obtain⟨l10,rfl,ZC,_⟩:=eU M5;refine⟨l10,rfl,⟨_,aQ.of ZC⟩,λD hD=>?_⟩
    refine qg (λk=>.num (tt i j k % (p:Int))) (n:=n) (by rw[Ya,bW]) ZC hD (by omega) (λk vz Uj Q2 hk SV V1 q2=>?_) λUj SV Qq=>?_
    ·obtain⟨y1,hy1,rfl⟩:=bh V1
     rw[d7 hk] at hy1;cases hy1;refine⟨_,rfl,_,rfl,_,_,rfl,rfl,(show(p:Int)≠0 by omega),?_⟩
     show Q2 (V.int ((tt i j k).fmod (p:Int))) Uj
     rw[z_];exact q2 _ Uj (aI.refl _) (.num _)
    ·obtain⟨l11,e11,h11,_⟩:=eU Qq
     cases e11;have Qs:=(g9.trans g10).trans SV;have ZD:n*j+n<=n*n:=by
      have:=Y6 n (show j+1<=n by omega)
      rw[Zw] at this;exact this
     refine⟨ra,D,_,_,rfl,rfl,Qs _ _ e8,h11,by rw[Ya,Ya,bW,bW,C?];omega,λp12 Uk=>?_⟩
     have k12:=aB Uk (.lst ((lv (n*j) λq=>tt i (q / n) (q % n) % (p:Int)).map V.int++(lv n λk=>tt i j k % (p:Int)).map V.int))
     refine⟨(g8.trans Qs).trans k12,p12,_,rfl,?_,?_⟩
     ·rw[av,<- Yz,Qo λk hk=>?_]
      show tt i ((n*j+k) / n) ((n*j+k) % n) % (p:Int)=_
      rw[Nat.mul_add_div (by omega),Nat.div_eq_of_lt hk,Nat.mul_add_mod,Z1 hk,Nat.add_zero]
     ·exact(k7.trans (g8.trans Qs)).free Uk
   ·rintro σ H8 ⟨g8,ra,o,rfl,e8,n8⟩
    rw[CI.len] at e8;have ZE:=(k7.trans g8) _ _ e6;refine⟨_,rfl,.inl ⟨rfl,_,aQ.of ZE⟩,_,rfl,rp,_,_,rfl,rfl,ZE,by rw[Cy.len,C?];omega,?_⟩
    have hne:ra≠rp:=λz=>by rw[z,e6] at n8;cases n8
    exact⟨(g7.trans g8).bE VY _,_,_,_,_,rfl,av,((Cy.same (k7.trans g8)).push (Jv e8 ⟨g6.free n8,hne⟩)).upd⟩
  ·rintro σ H6 ⟨g6,ys,o1,o2,o3,rfl,e6,Cy⟩
   rw[C.len] at Cy;have V2:Rep H6 (eK H4) (.ref rp) (mE n (n*n) λi q=>tt i (q / n) (q % n) % (p:Int)):=Cy.IW.rep e6 VY
   have SW:∀i q,i<n->q<n*n->0<=tt i (q / n) (q % n) % (p:Int)/\tt i (q / n) (q % n) % (p:Int)<(p:Int):=λi q _ _=>⟨Zr _ (by omega),Zm _ (by omega)⟩
   have V3:((Yk n).map λi=>lv (n*n) λq=>tt i (q / n) (q % n) % (p:Int)).length=n:=by rw[Ya,Yf]
   refine⟨_,rfl,_,rfl,p,hp,n*n,.ref rp,(Yk n).map λi=>lv (n*n) λq=>tt i (q / n) (q % n) % (p:Int),rfl,by rw[<- A1 n (n*n) λi q=>tt i (q / n) (q % n) % (p:Int)];exact V2.any,by rw[V3];exact hn1,by rw[V3];omega,by omega,λa ha=>?_,λS' r7 H7 g7 hS' lS' ZF ZG Ob=>?_⟩
   ·obtain⟨i,hi,rfl⟩:=List.mem_map.mp ha
    refine⟨bW _ _,λx hx=>?_⟩
    obtain⟨j,hj,rfl⟩:=List.mem_map.mp hx;exact SW i j (List.mem_range.mp hi) (List.mem_range.mp hj)
   rw[V3] at hS' ZF ZG;obtain⟨q1,q2⟩:=CK hp (W:=n*n) (k:=n) (A:=λi q=>tt i (q / n) (q % n) % (p:Int)) SW hS' ZG
   rw[F_ hS'] at Ob;rw[<- CL hS'] at q2;have hmod:∀(x:Vc) j m,j<n->m<n->(p:Int) ∣ sm n x (λi q=>tt i (q / n) (q % n) % (p:Int)) (n*j+m)-sm n x (λi=>tt i j) m:=λx j m hj hm=>by
    have e1:sm n x (λi=>tt i j) m=sm n x (λi _=>tt i j m) (n*j+m):=by rw[e_,e_]
    rw[e1];refine Qn λi _=>?_
    show(p:Int) ∣ tt i ((n*j+m) / n) ((n*j+m) % n) % (p:Int)-tt i j m
    rw[Nat.mul_add_div (by omega),Nat.div_eq_of_lt hm,Nat.mul_add_mod,Z1 hm,Nat.add_zero]
    have:=Z3 (tt i j m) (p:Int)
    exact⟨-(tt i j m / (p:Int)),by grind⟩
   have Pk:∀j m,j<n->m<n->n*j+m<n*n:=λj m hj hm=>by
    have:=Y6 n (show j+1<=n by omega)
    rw[Zw] at this;omega
   obtain⟨ps4,SX,_⟩:=id (Qi.same g6);refine qq k1 S'.length (λt=>oi (n*n) (S'.getD t [])) r7 H7 (Uh.trans (cH.of (g6.trans g7))) ((Qi.same g6).same g7) ⟨lS',λt i ht hi=>M4 hS' ht hi,λt ht=>?_,λt ht=>(mlt _).mp λj hj m hm=>?_,λx hx=>q2 x λq hq=>?_,hge⟩ (Rep.AZ Ob SX λb hb=>(Uh.trans (cH.of g6)).fresh ⟨_,SX⟩ hb)
   ·obtain⟨i,hi,h⟩:=ZF (S'.getD t []) (by rw[Yb,Yc ht];exact Y0 ht)
    exact⟨i,hi,h⟩
   ·have h1:=q1 (S'.getD t []) (by rw[Yb,Yc ht];exact Y0 ht) (n*j+m) (Pk j m hj hm)
    obtain⟨a,ha⟩:=h1;obtain⟨b,hb⟩:=hmod (oi (n*n) (S'.getD t [])) j m hj hm;exact⟨a-b,by grind⟩
   ·obtain⟨a,ha⟩:=(mlt x).mpr hx (q / n) (Nat.div_lt_of_lt_mul hq) (q % n) (Nat.mod_lt _ (by omega))
    obtain⟨b,hb⟩:=hmod x (q / n) (q % n) (Nat.div_lt_of_lt_mul hq) (Nat.mod_lt _ (by omega))
    rw[Jc] at hb;exact⟨a+b,by grind⟩
end
section
variable {R:Type} [Lean.Grind.CommRing R] {f:Fn} {n p d:Nat} {φ:Vc->R} {ip:R} {T:Nat->Vc}
theorem uQ.table (X:Xr f n p φ ip)(L:uQ n p φ ip d T):∃c:Nat->Nat->Vc,KQ n p (gX n φ ip d T) ip c/\∀i j,i<n->j<n->∀k,k<n->F5 f n (T i) (T j) k=(p:Int) ^ d*sm n (c i j) T k:=by
 have Ba:=X.oN;have BT:=Ba.lX (d:=d) X.inv L.st;have Sh:zc R ((p:Int) ^ d)*ip ^ d=1:=l_ X.inv d;have hel:∀y,(φ λj=>sm n y T j)=zc R ((p:Int) ^ d)*gX n φ ip d T y:=λy=>by
  show _=zc R ((p:Int) ^ d)*(ip ^ d*φ _)
  grind
 have hT:∀i,i<n->φ (T i)=zc R ((p:Int) ^ d)*gX n φ ip d T (un i):=λi hi=>by
  rw[<- hel];exact Ba.sup _ _ λj _=>(iJ hi).symm
 have hc0:∀i,∃ci:Nat->Vc,∀j,gX n φ ip d T (un i)*gX n φ ip d T (un j)=gX n φ ip d T (ci j):=λi=>Classical.axiomOfChoice λj=>L.sub.mul ⟨_,rfl⟩ ⟨_,rfl⟩
 obtain⟨c,hc⟩:=Classical.axiomOfChoice hc0;refine⟨c,⟨BT,L.sub,λi j _ _=>hc i j,X.inv⟩,λi j hi hj=>?_⟩
 have:φ (F5 f n (T i) (T j))=φ λk=>(p:Int) ^ d*sm n (c i j) T k:=by
  unfold F5;rw[<- Ba.mul (c:=λa b=>tk f n (a+b)) X.mul,Ba.smul,hel,hT i hi,hT j hj,<- hc i j];grind
 exact Ba.inj _ _ this
structure gO (n p:Nat)(φ:Vc->R)(ip:R)(d:Nat)(T:Nat->Vc)(s:Nat->Nat):Prop where
 lor:uQ n p φ ip d T
 pw:∀i,i<n->T i i=(p:Int) ^ s i/\s i<=d
 sO:∀i j,i<n->j<n->0<=T i j/\T i j<=(p:Int) ^ d/\(j≠i->T i j<(p:Int) ^ d)
 dep:d+tot n s<=d*n
theorem CN:∀n,tot n (λ_=>0)=0
 | 0=>rfl
 | n+1=>by show tot n (λ_=>0)+0=0;rw[CN n]
theorem gO.start (X:Xr f n p φ ip):gO n p φ ip 0 un λ_=>0:=by
 refine⟨X.start,λi _=>⟨by show(if i=i then (1:Int) else 0)=_;rw[Jl rfl,Yu],Yd 0⟩,λi j _ _=>?_,by rw[CN];omega⟩
 show 0<=(if j=i then (1:Int) else 0)/\(if j=i then (1:Int) else 0)<=_/\(j≠i->(if j=i then (1:Int) else 0)<_)
 rw[Yu];by_cases c:j=i
 ·rw[Jl c];exact⟨by decide,by decide,λz=>Jr c z⟩
 ·rw[Jk c];exact⟨by decide,by decide,λ_=>by decide⟩
theorem Hj {m:Nat}{N:Nat->Vc}(hT:c7 n T):rowsOf (n+m) n (λi j=>if i<n then (p:Int)*T i j else sm n (N (i-n)) T j)=(Yk n).map (λi j=>(p:Int)*T i j)++(rowsOf m n N).map λr j=>sm n r T j:=by
 have T0:∀a:Vc,∀k,n<=k->sm n a T k=0:=λa k hk=>jB (q:=0) λi hi=>hT.lX i hi k (by omega)
 refine Z7 λt=>?_
 unfold rowsOf;rw[Ye];by_cases h1:t<n
 ·rw[Zd (by rw[Ya,Yf];exact h1),Ye,Y1 h1,Y1 (by omega)]
  show j? (fc n _)=j? _
  congr 1
  funext j
  by_cases c:j<n
  ·rw[cI c];exact Jl h1
  ·rw[cZ (by omega)];show 0=(p:Int)*T t j;rw[hT.lX t h1 j (by omega)];omega
 ·rw[Zh (by rw[Ya,Yf];omega),Ya,Yf,Ye,Ye]
  by_cases h2:t<n+m
  ·rw[Y1 h2,Y1 (by omega)]
   show j? (fc n _)=j? _
   congr 1
   funext j
   show _=sm n (fc n (N (t-n))) T j
   rw[cW (d':=N (t-n)) (λi hi=>cI hi) λi _=>rfl]
   by_cases c:j<n
   ·rw[cI c];exact Jk h1
   ·rw[cZ (by omega),T0 _ j (by omega)]
  ·rw[List.getElem?_eq_none_iff.mpr (by rw[Yf];omega),List.getElem?_eq_none_iff.mpr (by rw[Yf];omega)];rfl
theorem gO.next (X:Xr f n p φ ip)(hp:p∈PR){s:Nat->Nat}(G:gO n p φ ip d T s){k m:Nat}{N:Nat->Vc}(M:MulOk n p (gX n φ ip d T) ip k m N)(hm:1<=m){T':Nat->Vc}{s':Nat->Nat}(st:c7 n T')(pw:∀i,i<n->T' i i=(p:Int) ^ s' i/\s' i<=d+1)(sO:∀i j,i<n->j<n->0<=T' i j/\T' i j<=(p:Int) ^ (d+1)/\(j≠i->T' i j<(p:Int) ^ (d+1)))
  (hG:∀v,Gq (rowsOf (n+m) n (λi j=>if i<n then (p:Int)*T i j else sm n (N (i-n)) T j)) ((p:Int) ^ (d+1)) n v↔jt n T' v):gO n p φ ip (d+1) T' s':=by
 have hT:=G.lor.st;have BT:=X.oN.lX (d:=d) X.inv hT;have pp:=bM hp;have T0:∀a:Vc,∀k,n<=k->sm n a T k=0:=λa k hk=>jB (q:=0) λi hi=>hT.lX i hi k (by omega)
 rw[Hj hT] at hG;have L':uQ n p φ ip (d+1) T':=uQ.next X.oN hp X.inv G.lor (k:=k) (N:=rowsOf m n N) st (λr hr=>by
   obtain⟨t,ht,rfl⟩:=cY.mp hr;rw[BT.sup (fc n (N t)) (N t) λj hj=>cI hj]
   exact M.mlt t ht) M.all hG
 obtain⟨i0,hi0,nz⟩:=M.nz 0 hm;have r0:=M.sO 0 i0 hm hi0;have hgr:=c7.grow (p:=p) (by omega) hT st (s:=s) (s':=s') (λi hi=>(G.pw i hi).1) (λi hi=>(pw i hi).1) (λi hi=>(hG _).mp (Gq.mem (List.mem_append.mpr (.inl (List.mem_map.mpr ⟨i,List.mem_range.mpr hi,rfl⟩))) λj hj=>by show(p:Int)*T i j=0;rw[hT.lX i hi j (by omega)];omega)) (r:=fc n (N 0))
  ((hG _).mp (Gq.mem (List.mem_append.mpr (.inr (List.mem_map.mpr ⟨_,cY.mpr ⟨0,hm,rfl⟩,rfl⟩))) λj hj=>T0 _ j hj)) (k:=i0) hi0 (λhd=>by
   rw[cI hi0] at hd;have:=W6 (by omega) hd
   omega)
 have dep:=G.dep;exact⟨L',pw,sO,by rw[Zn];omega⟩
end
inductive Ga (K:bX)(Pp:o?)(vs:List V)(H:Hp)(Q:VK)(Ce:XK):Prop where
 | mk (a:o?) (fl:List Int) (n p z:Nat) (u:Int) (Ci:vs=[.ref a,.int (p:Int)]) (Cj:p∈PR) (Ck:del H Pp a=j? (.lst (fl.map V.int))) (Cm:fl.length=n+1) (Cn:1<=n) (Co:n<=6) (Cq:L2.b7 fl) (C9:gR 4990 fl) (Eg:(det n λi j=>rr (ao fl) n (ao (dl fl)) (dl fl).length i j)=(p:Int) ^ z*u) (HE:¬ (p:Int) ∣ u) (yk:z<=24) (Cr:fM f7 Pp H) (Kr:∀(R:Type) (_:Lean.Grind.CommRing R) (φ:Vc->R) (ip:R) (d k:Nat) (T:Nat->Vc) (s:Nat->Nat) r t H',cH H Pp H'->fM f7 Pp H'->Xr (ao fl) n p φ ip->gO n p φ ip d T s->MulOk n p (gX n φ ip d T) ip k 0 (λ_ _=>0)->d<=12->H t=q?->del H' Pp t=j? (.tup [r,.int (d:Int)])->Rep (del H' Pp) (eK H) r (mE n n T)->Q (.ref t) H')
section
theorem KY {aC:o?}(B:iY mg)(jJ:b_ P w K mg base 1 "unit_row" AH AW)(jL:b_ P w K mg base 1 "number_power" ["k","n"] wR)(xH:b_ P w K mg base 4 "table_of" D7 (F6 K))(pY:b_ P w K mg base 9 "multipliers" yi (KU K aC))(mL:b_ P w K mg base 8 "triangular" G1 (KJ K aC))(kW:b_ P w K mg base 1 "summed" AI (sF K))(F:Src K mg "grown" oR jR):b_ P w K mg base 10 "grown" jR (Ga K aC):=by
 refine F.ok gM (λvs H Q E h=>?_) (λfa cdv A outer s H vs Q E hr h=>?_)
 ·obtain⟨a,fl,n,p,z,u,rfl,_⟩:=h;rfl
 obtain⟨a,fl,n,p,z,u,rfl,hp,ha,lf,hn1,hn,mf,bf,hD,hu,hz,tq,qq⟩:=h;have pp:=bM hp;have ha':=(cF ha).2;have hf:=xC lf mf;obtain⟨ip,X⟩:=Sj (p:=p) hf hn1 (by omega)
 generalize PM hf hn1=φ at X;have hg:∀m,m<n->ao (dl fl) m=((m+1:Nat):Int)*ao fl (m+1):=λm _=>jX fl m
 have hD':(det n λa c=>aW n λk=>ao (dl fl) k*tk (ao fl) n (k+a) c)=(p:Int) ^ z*u:=by
  rw[<- hD];refine aP λi j _ _=>?_
  unfold rr;rw[qB,lf];rfl
 have deep:∀ {d:Nat} {T:Nat->Vc} {s:Nat->Nat},gO n p φ ip d T s->d<=12:=λ{d T s} G=>by
  have h1:=uQ.le X hf hn1 (by omega) G.lor hg (s:=s) (λi hi=>(G.pw i hi).1) hD' hu
  have h2:=G.dep;omega
 have bf':∀j,Bd 5000 (ao fl j):=λj=>(bf.ao j).mono (by decide)
 have turn:∀ {d:Nat} {T:Nat->Vc} {s:Nat->Nat} (G:gO n p φ ip d T s),∃c:Nat->Nat->Vc,KQ n p (gX n φ ip d T) ip c/\(∀i j,i<n->j<n->∀k,k<n->F5 (ao fl) n (T i) (T j) k=(p:Int) ^ d*sm n (c i j) T k)/\(∀i j,i<n->j<n->Bd 200 (T i j))/\∀i j k,i<n->j<n->k<n->Bd 60000 (c i j k):=λ{d T s} G=>by
  obtain⟨c,h1,h2⟩:=uQ.table X G.lor;have hd:=deep G;have bT:∀i j,i<n->j<n->Bd 200 (T i j):=λi j hi hj=>by
   have:=G.sO i j hi hj
   exact Bd.le (y:=(p:Int) ^ d) (by omega) (zo hp (by omega))
  refine⟨c,h1,h2,bT,λi j k hi hj hk=>?_⟩
  have m0:(0:Int)<(p:Int) ^ d:=Wl (by omega)
  refine(c7.bnd (b:=50417) G.lor.st bT (λq hq=>?_) k hk).mono ?_
  ·refine Bd.le (y:=F5 (ao fl) n (T i) (T j) q) ?_ (Qk hn bf' (λa ha=>bT i a hi ha) (λa ha=>bT j a hj ha) q)
   rw[h2 i j hi hj q hq,Zq];exact Nat.le_mul_of_pos_left _ (by omega)
  ·have:201*n<=201*6:=Y6 _ hn
   omega
 refine⟨_,ah (aD (i:=2) gM.nd rfl (Or.inr rfl) (au bY (aS (aT (K:=K) rfl) rfl B.len cB (af (pv 0) ai)) ak))
  (ah (aD (i:=3) gM.nd rfl (Or.inr rfl) (cA (aG (N:=["place","degree"]) (sl:=[q?,j? 2]) (aq oR) T6 rfl rfl (by decide +kernel)) rfl (bU rfl B.range (af (pv 2) ai)) (λ_ _ _ _ _=>(aE (i:=0) (Yk_ ["place","degree"]) rfl (z? rfl))) (λ_ _ _ _ _=>aU) (λ_ _ _ _ _=>(aF jJ hr (af (pv 1) (af (pv 0) (af ak ai)))))))
  (ah (aD (i:=4) gM.nd rfl (z? rfl) ak)
  (ah (aD (i:=5) gM.nd rfl (z? rfl) (aF pY hr (af (aF xH hr (af (pv 0) (af (pv 3) (af ak ai)))) (af (pv 1) ai))))
  (ah (eV D? (aX (zQ (K:=K) rfl hr.units) (pv 5) (bI ai) (bC _))
   (ah (jT (i:=6) gM.nd rfl (z? rfl) (aG (N:=["row","p"]) (sl:=[q?,j? 1]) (aq oR) T6 rfl rfl (by decide +kernel)) rfl (bN (K:=K) rfl (pv 3)) (λ_ _ _ _ _=>(aE (i:=0) (Yk_ ["row","p"]) rfl (z? rfl))) (λ_ _ _ _ _=>aU) (λ_ _ _ _ _=>(cA (aG (N:=G3) (sl:=[q?,j? 1]) _ ["row","p"] rfl rfl (by kernel_rfl)) rfl (bN (K:=K) rfl (pv 0)) (λ_ _ _ _ _=>(aE (i:=0) (Yk_ G3) rfl (z? rfl))) (λ_ _ _ _ _=>aU) (λ_ _ _ _ _=>(au aV (pv 1) (pv 0))))))
   (ah (zF (i:=4) gM.nd rfl (z? rfl) ak zH)
   (ah (aD (i:=3) gM.nd rfl (Or.inr rfl) (aF mL hr (af (au i6 (pv 6) (cA (aG (N:=["numbers","lattice"]) (sl:=[q?,j? 3]) (aq oR) T6 rfl rfl (by decide +kernel)) rfl (bN (K:=K) rfl (pv 5)) (λ_ _ _ _ _=>(aE (i:=0) (Yk_ ["numbers","lattice"]) rfl (z? rfl))) (λ_ _ _ _ _=>aU) (λ_ _ _ _ _=>(aF kW hr (af (pv 0) (af (pv 1) ai)))))) (af (pv 1) (af (pv 4) ai)))))
   (ay (aD (i:=5) gM.nd rfl (z? rfl) (aF pY hr (af (aF xH hr (af (pv 0) (af (pv 3) (af (aF jL hr (af (pv 1) (af (pv 4) ai))) ai)))) (af (pv 1) ai)))))))))
  (ay (aL (jw (af (pv 3) (af (pv 4) ai))))))))),?_⟩
 walk_at "rd"
 refine⟨a,_,rfl,.inl (aQ.of ha'),?_⟩
 rw[Ya,lf];refine⟨_,_,rfl,rfl,?_⟩
 show iO 2 (V.int (((n+1:Nat):Int)-1)) _ _ _
 rw[show((n+1:Nat):Int)-1=(n:Int) by omega]
 refine⟨_,rfl,_,rfl,by omega,by omega,λD T9=>?_⟩
 rw[Yi];refine BV (λi=>rE n (un i)) T9 (by omega) (λi H2 Q2 hi g2 q2=>?_) λH2 g2 rr=>?_
 ·rw[Z5]
  exact⟨_,rfl,_,rfl,n,i,1,rfl,by omega,λr H3 g3 rr=>q2 _ H3 g3 rr⟩
 have SY:=tq.same g2;obtain⟨ps,N_,_⟩:=id tq;obtain⟨ps2,Q_,_⟩:=id SY;obtain⟨c,AG,hc,bT,bc⟩:=turn (gO.start X);refine⟨_,rfl,_,rfl,a,fl,n,.ref D,un,c,1,rfl,aQ.of (g2 _ _ ha'),lf,hn1,by omega,mf,bf.mono (by decide),rr.any,BX,λi j hi hj=>(bT i j hi hj).mono (by decide),by decide,(Bd.small (by decide) (by decide)).mono (by decide),λi j hi hj k hk=>by
  have:=hc i j hi hj k hk
  rw[Yu] at this;exact this,λi j k hi hj hk=>(bc i j k hi hj hk).mono (by decide),λr3 H3 g3 Q0=>?_⟩
 refine⟨_,rfl,n,p,_,_,gX n φ ip 0 un,ip,c,r3,rfl,hp,Rep.any (Rep.AZ (H0:=H2) Q0 Q_ λb hb=>hb),hn1,hn,bc,AG,SY.same g3,λk0 m N r4 H4 n4 Qi M Qh=>?_⟩
 have rD:Rep (del H2 aC) (eK H) (.ref D) (mE n n un):=Rep.AZ rr N_ λb hb=>hb
 have ZH:cH H2 aC H4:=(cH.of g3).trans n4;refine jy (λσ H5=>cH H aC H5/\fM f7 aC H5/\∃(lt fv:V) (T:Nat->Vc) (s:Nat->Nat) (d k m:Nat) (N:Nat->Vc) (o:Option V),σ=[Rq a,Iq (p),Iq (n),j? lt,Iq (d),j? fv,o]/\Rep (del H5 aC) (eK H) lt (mE n n T)/\Rep (del H5 aC) Any fv (mE m n N)/\gO n p φ ip d T s/\MulOk n p (gX n φ ip d T) ip k m N)
  (λσ _=>match σ with | [_,_,_,_,j? (.int d),_,_]=>30-d.toNat|_=>0) ⟨(cH.of g2).trans ZH,Qi,.ref D,r4,un,λ_=>0,0,k0,m,N,_,rfl,rD.same ZH.del,Qh.any,gO.start X,M⟩ ?_
 rintro σ H5 ⟨n5,Q7,lt,fv,T,s,d,k,m,N,o,rfl,rlt,rfv,G,M⟩;have V4:=deep G;have m50:=M.le;refine⟨_,rfl,a_ rfl,λpe MU=>?_⟩
 have k6:=aB MU (.lst []);have N9:(L2.upd H5 pe (.lst [])) pe=j? (.lst []):=av;generalize L2.upd H5 pe (.lst [])=H6 at k6 N9;have n6:=n5.trans (cH.of k6);have Oa:=Q7.same k6;have ZI:cH H5 aC H6:=cH.of k6;have Qu:=rlt.same ZI.del;have S0:=rfv.same ZI.del;obtain⟨ps6,V5,_⟩:=id Oa;have KH:Rep H6 Any (.ref pe) (.vec []):=.vec N9 trivial rfl λi v e h=>by simp at h
 refine R4 (S0.same (fz _ _)) KH (Od (by omega) (by omega)) (.vec (n:=1) (by decide) λe he=>by simp at he) (by decide) (by decide) (λe=>?_) (λe=>?_)
 ·have s0:m=0:=by
   unfold mE kO at e;injection e with e
   have:=Jp Jh e
   rw[Ya,Yf] at this;exact this
  subst s0;refine⟨_,rfl,tu ?_⟩
  refine⟨_,rfl,_,rfl,a_ rfl,λt nt=>?_⟩
  have k7:=aB nt (.tup [lt,.int (d:Int)]);have ZJ:cH H6 aC _:=cH.of k7;have tP:t≠aC:=λz=>by rw[z,V5] at nt;cases nt
  refine qq _ _ φ ip d k T s lt t _ (n6.trans ZJ) (Oa.same k7) X G ⟨M.le,λt i h=>by omega,λt h=>by omega,λt h=>by omega,M.all,M.ge⟩ V4 (n6.fresh ⟨_,V5⟩ nt) (by rw[jA tP];exact av) (Qu.same ZJ.del)
 ·have m1:1<=m:=by
   rcases Nat.eq_zero_or_pos m with y|y
   ·exact Jr (by unfold mE kO;rw[y];rfl) e
   ·exact y
  refine⟨_,rfl,vZ (win ?_)⟩
  obtain⟨la,us,rfl,hla,_,C⟩:=id Qu.cf;obtain⟨lb,ws,rfl,hlb,_,Cw⟩:=id S0.cf;have S1:=(cF hla).2;have S2:=(cF hlb).2;have bT:∀i j,i<n->j<n->Bd 200 (T i j):=λi j hi hj=>by
   have:=G.sO i j hi hj
   exact Bd.le (y:=(p:Int) ^ d) (by omega) (zo hp (by omega))
  refine⟨_,rfl,la,rfl,⟨_,aQ.of S1⟩,λD2 AO=>?_⟩
  refine qg (λi=>rE n λj=>(p:Int)*T i j) (n:=n) C.len S1 AO (by omega) (λi vx H7 Q2 hi g7 kZ q2=>?_) λH7 g7 Ob=>?_
  ·obtain⟨_,ri⟩:=C.get kZ
   obtain⟨lr,rfl,hlr,_⟩:=eU ri;have M3:=g7 _ _ (cF hlr).2;refine⟨_,rfl,lr,rfl,⟨_,aQ.of M3⟩,λD3 S3=>?_⟩
   refine qg (λj=>.num ((p:Int)*T i j)) (n:=n) (by rw[Ya,bW]) M3 S3 (by omega) (λj vx H8 Q3 hj g8 kZ q3=>?_) λH8 g8 rr=>q2 _ H8 g8 rr
   obtain⟨y1,hy1,rfl⟩:=bh kZ;rw[d7 hj] at hy1;cases hy1;exact⟨_,rfl,_,rfl,_,_,rfl,rfl,gE (by omega) (by omega),q3 _ H8 (aI.refl _) (.num _)⟩
  refine⟨_,rfl,_,_,rfl,rfl,?_⟩
  refine⟨_,rfl,_,rfl,lb,rfl,⟨_,aQ.of (g7 _ _ S2)⟩,λD3 S3=>?_⟩
  refine qg (λt=>rE n λj=>sm n (N t) T j) (n:=m) Cw.len (g7 _ _ S2) S3 (by omega) (λt vx H8 Q2 ht g8 kZ q2=>?_) λH8 g8 rr8=>?_
  ·obtain⟨_,rt⟩:=Cw.get kZ
   refine⟨_,rfl,_,rfl,n,n,vx,.ref la,N t,T,rfl,(rt.any.same (fz _ _)).same (g7.trans g8),(Qu.any.same (fz _ _)).same (g7.trans g8),hn1,by omega,by omega,λi hi=>?_,λi j hi hj=>(bT i j hi hj).mono (by decide),λr H9 g9 rr=>q2 _ H9 g9 rr⟩
   have:=M.sO t i ht hi
   exact(Bd.small (by omega) (by omega)).mono (by decide)
  obtain⟨_,Ul,e2,h2,nD2,C2⟩:=id (Ob.same g8).cf;cases e2;obtain⟨_,Uo,e3,h3,nD3,C3⟩:=id rr8.cf;cases e3;refine⟨D2,D3,_,_,rfl,rfl,h2,h3,by rw[C2.len,C3.len,C?];omega,λp4 ZK=>?_⟩
  have k9:=aB ZK (.lst (Ul++Uo));have e9:(L2.upd H8 p4 (.lst (Ul++Uo))) p4=j? (.lst (Ul++Uo)):=av;generalize L2.upd H8 p4 (.lst (Ul++Uo))=H9 at k9 e9;have QZ:=(g7.trans g8).trans k9;have rA:Rep H9 (eK H6) (.ref p4) (mE (n+m) n λi j=>if i<n then (p:Int)*T i j else sm n (N (i-n)) T j):=by
   have:=((C2.same k9).append ((C3.imp λb o h kb=>⟨h,g7.free kb⟩).same k9)).rep e9 ((g7.trans g8).free ZK)
   unfold mE;rw[wX (d:=λi=>if i<n then rE n λj=>(p:Int)*T i j else rE n λj=>sm n (N (i-n)) T j) λi _=>?_]
   ·exact this
   ·by_cases c1:i<n
    ·rw[Jl c1];exact wY λj _=>Jl c1
    ·rw[Jk c1];exact wY λj _=>Jk c1
  have ZL:=Oa.same QZ;refine⟨_,rfl,_,rfl,n+m,n,d+1,p,.ref p4,λi j=>if i<n then (p:Int)*T i j else sm n (N (i-n)) T j,rfl,hp,Rep.any (Rep.AZ (H0:=H6) rA V5 λb hb=>hb),hn1,by omega,by omega,by omega,by omega,by omega,ZL,λT' s' r5 Ui n10 S4 st pw sO hG M5=>?_⟩
  have G':=G.next X hp M m1 st pw sO hG;have hd':=deep G';obtain⟨c',AG',hc',bT',ZM⟩:=turn G';have S5:cH H aC Ui:=(n6.trans (cH.of QZ)).trans n10;obtain⟨acg,V6,_⟩:=id S4;refine⟨_,rfl,_,rfl,_,rfl,_,rfl,p,d+1,rfl,by omega,by omega,?_⟩
  rw[Wx];have m0:(0:Int)<(p:Int) ^ (d+1):=Wl (by omega)
  refine⟨a,fl,n,r5,T',c',(p:Int) ^ (d+1),rfl,aQ.of (S5 _ _ (cF ha).1 ha'),lf,hn1,by omega,mf,bf.mono (by decide),M5.any.same (fz _ _),st,λi j hi hj=>(bT' i j hi hj).mono (by decide),by omega,(zo hp (by omega)).mono (by decide),hc',λi j k hi hj hk=>(ZM i j k hi hj hk).mono (by decide),λr11 Uj SV Qq=>?_⟩
  refine⟨_,rfl,n,p,_,_,gX n φ ip (d+1) T',ip,c',r11,rfl,hp,Rep.any (Rep.AZ (H0:=Ui) Qq V6 λb hb=>hb),hn1,hn,ZM,AG',S4.same SV,λk' m' N' r12 H12 Uk V7 M' V8=>?_⟩
  have Oe:cH Ui aC H12:=(cH.of SV).trans Uk;refine⟨⟨S5.trans Oe,V7,r5,r12,T',s',d+1,k',m',N',_,rfl,Rep.same (M5.imp λb o h kb=>⟨h,(n6.trans (cH.of QZ)).fresh ⟨_,ZL.choose_spec.1⟩ kb⟩) Oe.del,V8.any,G',M'⟩,?_⟩
  show 30-((d:Int)+1).toNat<30-((d:Int)).toNat
  omega
end
def xJ (ns:List Int):Prop:=gR 4990 ns/\∃E:Nat,E<=9000/\(ns.length-1)*(E+5)<9000/\∀i j,i<=ns.length-1->(rr (ao ns) (ns.length-1) (ao (dl ns)) (dl ns).length i j).natAbs<=2 ^ E
def c5 (ns:List Int):Int:=tg (ns.length-1)*det (ns.length-1) λi j=>rr (ao ns) (ns.length-1) (ao (dl ns)) (dl ns).length i j
theorem V9 {p:Nat}(h:p∈PR):QI (V.int (p:Int)) (PR.map λp:Nat=>V.int (p:Int))=true:=by
 unfold QI;rw[List.any_eq_true];exact⟨_,List.mem_map.mpr ⟨p,h,rfl⟩,by show((p:Int) ==(p:Int))=true;exact beq_self_eq_true _⟩
def S6:Sp:=λvs H Q _=>∃p:Nat,vs=[.int (p:Int)]/\p∈PR/\Q (.bl true) H
def Gb (K:bX):Sp:=λvs H Q _=>∃(a:o?) (ns:List Int),vs=[.ref a]/\aQ K H a (ns.map V.int)/\ns.length<=13/\L2.b7 ns/\∀H',aI H H'->Q (.bl true) H'
def A2 (K:bX)(z:Nat->V):Sp:=λvs H Q _=>∃(a:o?) (ns:List Int) (n p v:Nat),vs=[.ref a,.int (p:Int)]/\aQ K H a (ns.map V.int)/\ns.length=n+1/\L2.b7 ns/\xJ ns/\1<=n/\n<=6/\p∈PR/\c5 ns≠0/\cG (p:Int) (c5 ns) v/\v<=24/\∀H',aI H H'->Q (z v) H'
section
theorem CO {gP:o?}(B:iY mg)(KZ:mg "PRIMES"=j? (.ref gP))(hP:∀H,k8 K H gP (PR.map λp:Nat=>V.int (p:Int)))(qD:b_ P w K mg base 1 "is_whole" ji (ue K))(F:Src K mg "is_prime" qt ["k"]):b_ P w K mg base 2 "is_prime" ["k"] S6:=by
 refine F.ok B8 (λvs H Q E h=>?_) (λf cdv A outer s H vs Q E hr h=>?_)
 ·obtain⟨p,rfl,_⟩:=h;rfl
 obtain⟨p,rfl,hp,q⟩:=h;refine⟨_,ay (aL (sU (aF qD hr (af (pv 0) ai)) (sS (k_ (Ib (K:=K) rfl) (pv 0) (vo (v:=.ref gP) rfl KZ rfl) (by with_unfolding_all rfl))))),?_⟩
 refine⟨_,rfl,_,_,rfl,.int (p:Int),_,rfl,_,rfl,gP,_,rfl,.inr (hP H),rfl,by decide,?_⟩
 rw[V9 hp];exact q
theorem uo (B:iY mg)(qD:b_ P w K mg base 1 "is_whole" ji (ue K))(F:Src K mg "is_polynomial" i8 ji):b_ P w K mg base 2 "is_polynomial" ji (Gb K):=by
 refine F.ok kR (λvs H Q E h=>?_) (λf cdv A outer s H vs Q E hr h=>?_)
 ·obtain⟨a,ns,rfl,_⟩:=h;rfl
 obtain⟨a,ns,rfl,ha,ln,mo,q⟩:=h;refine⟨_,ah (eT (zE (zC (aS (lG (K:=K) rfl) rfl B.isinstance j7 (af (pv 0) (af (zB (v:=.ty "list") rfl B.list vp rfl) ai)))))
   (ay (aL EY))
   (cD))
  (ah (cU D? rfl (bN (K:=K) rfl (pv 0)) (aE (i:=1) kR.nd rfl (z? rfl))
   (ay (eT (zE (zC (aF qD hr (af (pv 1) ai))))
    (ay (aL EY))
    (cD))))
  (ay (aL (Rk (k_ (lH (K:=K) rfl hr.units) (pv 0) (bI ai) (bC _)) (sS (k_ uI (bL (aJ (K:=K) rfl) (pv 0) (yH sY ak) (λ_ _=>rfl)) ak (bC _))))))),?_⟩
 refine⟨_,rfl,_,"list","list",true,rfl,.lst ha,rfl,_,rfl,tu ?_⟩
 refine⟨_,rfl,a,rfl,⟨_,ha⟩,nh (xs:=ns.map V.int) (λi σ H2=>H2=H/\∃o,σ=[Rq a,o]) ⟨rfl,_,rfl⟩ (λi σ H2 _ h=>h.1 ▸ ha) ?_ ?_⟩
 ·rintro i x σ H2 hx ⟨rfl,o,rfl⟩
  obtain⟨n,hn,rfl⟩:=bh hx;refine⟨_,rfl,_,"int",rfl,.int n,_,rfl,tu ?_⟩
  exact⟨rfl,_,rfl⟩
 ·rintro σ H2 ⟨rfl,o,rfl⟩
  refine⟨_,rfl,a_ rfl,λp1 n1=>?_⟩
  have k1:=aB n1 (.lst []);refine RQ (xs:=ns) (ys:=[]) (k1.seq ha) (aQ.of av) ⟨_,rfl,fV (λc=>Jr (Jn c) mo.1) (λc=>?_)⟩
  refine⟨_,rfl,_,rfl,a,_,_,_,rfl,rfl,k1.seq ha,By mo.1,rfl,?_⟩
  rw[mo.2];exact q _ k1
theorem CP (B:iY mg)(vh:b_ P w K mg base 2 "is_polynomial" ji (Gb K))(F:Src K mg "is_monic" qu ji):b_ P w K mg base 3 "is_monic" ji (Gb K):=by
 refine F.ok B9 (λvs H Q E h=>?_) (λf cdv A outer s H vs Q E hr h=>?_)
 ·obtain⟨a,ns,rfl,_⟩:=h;rfl
 obtain⟨a,ns,rfl,ha,ln,mo,q⟩:=h;refine⟨_,ay (aL (sU (aF vh hr (af (pv 0) ai)) (sU (k_ (zQ (K:=K) rfl hr.units) (pv 0) (bI ai) (bC _)) (sS (k_ iP (bL (aJ (K:=K) rfl) (pv 0) (yH sY ak) (λ_ _=>rfl)) ak (bC _)))))),?_⟩
 refine⟨_,rfl,a,ns,rfl,ha,ln,mo,λH1 g1=>⟨_,rfl,vZ ?_⟩⟩
 refine⟨_,rfl,a_ rfl,λpe MU=>?_⟩
 have k2:=aB MU (.lst []);refine Tv (xs:=ns) (ys:=[]) (k2.seq (g1.seq ha)) (aQ.of av) ⟨_,rfl,Bu mo.1 ?_⟩
 refine⟨_,rfl,_,rfl,a,_,_,_,rfl,rfl,k2.seq (g1.seq ha),By mo.1,rfl,?_⟩
 rw[mo.2];exact q _ (g1.trans k2)
theorem pM (B:iY mg){t1:Tok}(yq:mg "MOST_DEGREE"=j? (.int 12 t1))(Er:b_ P w K mg base 3 "is_monic" ji (Gb K))(F:Src K mg "is_bounded_monic" gq ji):b_ P w K mg base 4 "is_bounded_monic" ji (λvs H Q E=>∃(a:o?) (ns:List Int),vs=[.ref a]/\aQ K H a (ns.map V.int)/\ns.length<=13/\2<=ns.length/\L2.b7 ns/\∀H',aI H H'->Q (.bl true) H'):=by
 refine F.ok pL (λvs H Q E h=>?_) (λf cdv A outer s H vs Q E hr h=>?_)
 ·obtain⟨a,ns,rfl,_⟩:=h;rfl
 obtain⟨a,ns,rfl,ha,ln,l2,mo,q⟩:=h;refine⟨_,ay (aL (sU (aF Er hr (af (pv 0) ai)) (sS (HP Nq Nq ak (aS (aT (K:=K) rfl) rfl B.len cB (af (pv 0) ai)) (au b8 (vo (v:=.int 12) rfl yq ⟨_,rfl⟩) ak))))),?_⟩
 refine⟨_,rfl,a,ns,rfl,ha,ln,mo,λH1 g1=>⟨_,rfl,vZ ?_⟩⟩
 refine⟨_,rfl,a,_,rfl,.inl (g1.seq ha),?_⟩
 rw[Ya];refine⟨_,_,rfl,rfl,_,rfl,fV (λc=>?_) (λc=>Jr (Jm (show(2:Int)<=(ns.length:Int) by omega)) c)⟩
 refine⟨_,_,rfl,rfl,_,_,rfl,rfl,?_⟩
 show Q (V.bl (decide ((ns.length:Int)<=12+1))) H1
 rw[Jm (by omega)]
 exact q H1 g1
theorem yr (B:iY mg)(Es:b_ P w K mg base 2 "is_prime" ["k"] S6)(qE:b_ P w K mg base 4 "is_bounded_monic" ji (λvs H Q E=>∃(a:o?) (ns:List Int),vs=[.ref a]/\aQ K H a (ns.map V.int)/\ns.length<=13/\2<=ns.length/\L2.b7 ns/\∀H',aI H H'->Q (.bl true) H'))(fG:b_ P w K mg base 4 "discriminant" ["f"] (AS K))(eO:b_ P w K mg base 2 "size_of_number" su vH)(F:Src K mg "plain_size" mw jR):b_ P w K mg base 5 "plain_size" jR (A2 K λv=>.int (v:Int)):=by
 refine F.ok pU (λvs H Q E h=>?_) (λf cdv A outer s H vs Q E hr h=>?_)
 ·obtain⟨a,ns,n,p,v,rfl,_⟩:=h;rfl
 obtain⟨a,ns,n,p,v,rfl,ha,lf,mo,dk,n1,n6,hp,h0,hv,Ra,q⟩:=h;obtain⟨Ft,E9,hE,NZ,bR⟩:=id dk;have pp:=bM hp;refine⟨_,ah (eT (zE (zC (aF Es hr (af (pv 1) ai))))
   (ay (FJ))
   (cD))
  (ah (eT (zE (zC (aF qE hr (af (pv 0) ai))))
   (ay (FJ))
   (cD))
  (ah (aD (i:=2) pU.nd rfl (z? rfl) (aF eO hr (af (aF fG hr (af (pv 0) ai)) (af (pv 1) ai))))
  (ah (eT (aX Ny (pv 2) sQ (bC _))
   (ay (FJ))
   (cD))
  (ay (aL (pv 2)))))),?_⟩
 refine⟨_,rfl,p,rfl,hp,_,rfl,tu ?_⟩
 refine⟨_,rfl,a,ns,rfl,ha,by omega,by omega,mo,λH1 g1=>⟨_,rfl,tu ?_⟩⟩
 refine⟨_,rfl,a,ns,ns.length-1,E9,rfl,g1.seq ha,by omega,by omega,by omega,mo,Ft,hE,NZ,bR,λH2 g2=>?_⟩
 refine⟨_,rfl,c5 ns,(p:Int),rfl,by omega,by omega,λz H3 g3 sv=>?_⟩
 rcases sv with ⟨d0,rfl⟩|⟨d0,v',hv',rfl⟩
 ·exact Jr d0 h0
 ·rw[<- hv.uniq hv']
  exact⟨_,rfl,rfl,_,rfl,tu ⟨_,rfl,q H3 ((g1.trans g2).trans g3)⟩⟩
theorem pN (B:iY mg){t1 t2:Tok}(pO:mg "MOST_BASIS_DEGREE"=j? (.int 6 t1))(sG:mg "MOST_BASIS_SIZE"=j? (.int 24 t2))(A3:b_ P w K mg base 5 "plain_size" jR (A2 K λv=>.int (v:Int)))(F:Src K mg "refuse_for_basis" gu jR):b_ P w K mg base 6 "refuse_for_basis" jR (A2 K λ_=>.fm):=by
 refine F.ok jg (λvs H Q E h=>?_) (λf cdv A outer s H vs Q E hr h=>?_)
 ·obtain⟨a,ns,n,p,v,rfl,_⟩:=h;rfl
 obtain⟨a,ns,n,p,v,rfl,ha,lf,mo,dk,n1,n6,hp,h0,hv,Ra,q⟩:=h;refine⟨_,ah (aD (i:=2) jg.nd rfl (z? rfl) (aF A3 hr (af (pv 0) (af (pv 1) ai))))
  (ay (eT (PW.pt (E2 (aX yI (au bY (aS (aT (K:=K) rfl) rfl B.len cB (af (pv 0) ai)) ak) (vo (v:=.int 6) rfl pO ⟨_,rfl⟩) (bC _)) (zD (aX yI (pv 2) (vo (v:=.int 24) rfl sG ⟨_,rfl⟩) (bC _)))))
   (ay (FJ))
   (cD))),?_⟩
 refine⟨_,rfl,_,rfl,a,ns,n,p,v,rfl,ha,lf,mo,dk,n1,n6,hp,h0,hv,Ra,λH1 g1=>?_⟩
 refine⟨_,rfl,a,_,rfl,.inl (g1.seq ha),?_⟩
 rw[Ya];refine⟨_,_,rfl,rfl,_,_,rfl,rfl,_,rfl,fV (λc=>?_) (λc=>?_)⟩
 ·have c':=Jn c
  omega
 refine⟨_,rfl,_,_,rfl,rfl,_,rfl,fV (λd=>?_) (λd=>q H1 g1)⟩
 have d':=Jn d;omega
end
theorem M6 {n m:Nat}{v:Vc}(h:m<=n):(lv n v).take m=lv m v:=by
 unfold lv;rw[<- List.map_take,List.take_range,Nat.min_eq_left h]
structure M7 (H:Hp)(ok:o?->Prop)(n d:Nat)(T:Nat->Vc)(s:Nat->Nat)(vs:List V):Prop where
 len:vs.length=n
 at_:∀i,i<n->∃t l,vs[i]?=j? (.ref t)/\H t=j? (.tup [.ref l,.int ((d-s i:Nat):Int)])/\H l=j? (.lst ((lv (i+1) λj=>T i j / T i i).map V.int))/\ok l
theorem M8 {H:Hp}{Pp a:o?}{xs:List V}(t:fM f7 Pp H)(h:H a=j? (.lst xs)):del H Pp a=j? (.lst xs):=by
 obtain⟨ps,hps,_⟩:=t;rw[jA (λz=>by rw[z,hps] at h;cases h)];exact h
def Gd (Pp:o?):Sp:=λvs H Q _=>∃(a:o?) (ns:List Int) (n p v:Nat),vs=[.ref a,.int (p:Int)]/\H a=j? (.lst (ns.map V.int))/\ns.length=n+1/\L2.b7 ns/\xJ ns/\1<=n/\n<=6/\p∈PR/\fM f7 Pp H/\c5 ns≠0/\cG (p:Int) (c5 ns) v/\v<=24/\
 ∀(R:Type) (_:Lean.Grind.CommRing R) (φ:Vc->R) (ip:R) (d k:Nat) (T:Nat->Vc) (s:Nat->Nat) r vs H',cH H Pp H'->fM f7 Pp H'->Xr (ao ns) n p φ ip->gO n p φ ip d T s->MulOk n p (gX n φ ip d T) ip k 0 (λ_ _=>0)->d<=12->H r=q?->del H' Pp r=j? (.lst vs)->M7 (del H' Pp) (λl=>H l=q?/\l≠r) n d T s vs->Q (.ref r) H'
section
theorem xK {aC:o?}(B:iY mg)(qF:b_ P w K mg base 6 "refuse_for_basis" jR (A2 K λ_=>.fm))(M9:b_ P w K mg base 10 "grown" jR (Ga K aC))(eO:b_ P w K mg base 2 "size_of_number" su vH)(F:Src K mg "whole_basis" iM jR):b_ P w K mg base 11 "whole_basis" jR (Gd aC):=by
 refine F.ok dB (λvs H Q E h=>?_) (λf cdv A outer s H vs Q E hr h=>?_)
 ·obtain⟨a,ns,n,p,v,rfl,_⟩:=h;rfl
 obtain⟨a,ns,n,p,v,rfl,ha,hn,mf,dk,hn1,n6,hp,tq,d0,hv,ZN,qo⟩:=h;have hda:=M8 tq ha;refine⟨_,ah (fH (aF qF hr (af (pv 0) (af (pv 1) ai))))
  (ah (sW (aF M9 hr (af (pv 0) (af (pv 1) ai))) (dG (n:=2) (K:=K) rfl rfl (aY (aE (i:=2) dB.nd rfl (z? rfl)) (aY (aE (i:=3) dB.nd rfl (z? rfl)) dD))))
  (ah (aD (i:=4) dB.nd rfl (z? rfl) (bI ai))
  (ah (cU D? rfl (iR (K:=K) rfl rfl B.enumerate (af (pv 2) ai)) (dG (n:=2) (K:=K) rfl rfl (aY (aE (i:=5) dB.nd rfl (z? rfl)) (aY (aE (i:=6) dB.nd rfl (z? rfl)) dD)))
   (ah (aD (i:=7) dB.nd rfl (Or.inr rfl) (bL (aJ (K:=K) rfl) (pv 6) (pv 5) (λ_ _=>rfl)))
   (ay (fH (q9 R? F! G! eB (pv 4) (af (jw (af (cA (aG (N:=["number","lead"]) (sl:=[q?,j? 7]) (aq iM) XX rfl rfl (by decide +kernel)) rfl (bN (K:=K) rfl (fU (fX (K:=K) rfl) (pv 6) iC (iD (au b8 (pv 5) ak)))) (λ_ _ _ _ _=>(aE (i:=0) (Yk_ ["number","lead"]) rfl (z? rfl))) (λ_ _ _ _ _=>aU) (λ_ _ _ _ _=>(au bK (pv 0) (pv 1)))) (af (au bY (pv 3) (aF eO hr (af (pv 7) (af (pv 1) ai)))) ai))) ai))))))
  (ay (aL (pv 4)))))),?_⟩
 refine⟨_,rfl,_,rfl,a,ns,n,p,v,rfl,aQ.of ha,hn,mf,dk,hn1,n6,hp,d0,hv,ZN,λH1 g1=>?_⟩
 have pp:=bM hp;have en:ns.length-1=n:=by omega
 obtain⟨m,em,nd⟩:=hv.NB;have S7:tg n=1\/tg n=-1:=by
  obtain⟨t1,t2⟩:=Ks n (by omega)
  by_cases c:n*(n-1) / 2 % 2=1
  ·exact .inr (t1 c)
  ·exact .inl (t2 c)
 have eD:(det n λi j=>rr (ao ns) n (ao (dl ns)) (dl ns).length i j)=(p:Int) ^ v*(tg n*m):=by
  have e1:tg n*(det n λi j=>rr (ao ns) n (ao (dl ns)) (dl ns).length i j)=(p:Int) ^ v*m:=by rw[<- em];unfold c5;rw[en]
  rcases S7 with h|h
  ·rw[h] at e1 ⊢;grind
  ·rw[h] at e1 ⊢;grind
 have nd':¬ (p:Int) ∣ tg n*m:=λ⟨c,e⟩=>nd (by
  rcases S7 with h|h
  ·exact⟨c,by rw[h] at e;grind⟩
  ·exact⟨-c,by rw[h] at e;grind⟩)
 have n1:cH H aC H1:=cH.of g1;obtain⟨ps,N_,_⟩:=id (tq.same g1);refine⟨_,rfl,_,rfl,a,ns,n,p,v,tg n*m,rfl,hp,n1.del _ _ hda,hn,by omega,by omega,mf,dk.1,eD,nd',ZN,tq.same g1,λR ri φ ip d k T s r t H2 n2 SY X G M ZO ht ett rr=>?_⟩
 have V_:=(cF ett).2;obtain⟨ps2,Q_,_⟩:=id SY;refine⟨t,_,rfl,k8.of V_,rfl,_,_,rfl,_,_,rfl,rfl,?_⟩
 refine⟨a_ rfl,λtp S8=>?_⟩
 have k3:=aB S8 (.lst []);have ZP:(L2.upd H2 tp (.lst [])) tp=j? (.lst []):=av;generalize L2.upd H2 tp (.lst [])=H3 at k3 ZP;have rH2:Rep H2 Any r (mE n n T):=rr.any.same (fz _ _);obtain⟨lr,us,rfl,hlr,_,C⟩:=id rH2.cf;have WA:cH H aC H2:=n1.trans n2;have ftp:H tp=q?:=WA.fresh ⟨_,Q_⟩ S8;have Q6:tp≠aC:=λz=>by rw[z,Q_] at S8;cases S8
 refine⟨_,rfl,lr,rfl,⟨_,aQ.of (k3 _ _ hlr)⟩,kJ (st:=0) (xs:=us) (λi σ H4=>aI H2 H4/\∃(ys:List V) (o1 o2 o3:Option V),σ=[Rq a,Iq (p),Rq lr,Iq (d),Rq tp,o1,o2,o3]/\H4 tp=j? (.lst ys)/\ys.length=i/\∀j,j<i->∃t l,ys[j]?=j? (.ref t)/\H4 t=j? (.tup [.ref l,.int ((d-s j:Nat):Int)])/\H4 l=j? (.lst ((lv (j+1) λq=>T j q / T j j).map V.int))/\t≠tp/\l≠tp/\H2 t=q?/\H2 l=q?)
  ⟨k3,[],_,_,_,rfl,ZP,rfl,λj hj=>Jr hj (Wm _)⟩ (λi σ H4 _ h=>aQ.of (h.1 _ _ hlr)) ?_ ?_⟩
 ·rintro i vx σ H4 r5 kZ ⟨g4,ys,o1,o2,o3,rfl,e4,ly,hys⟩ nr5
  obtain⟨hi,ri⟩:=C.get kZ;obtain⟨lx,rfl,hlx,_⟩:=eU ri;rw[Jf];have k5:=aB nr5 (.tup [.int (i:Int),.ref lx]);have e5:(L2.upd H4 r5 (.tup [.int (i:Int),.ref lx])) r5=j? (.tup [.int (i:Int),.ref lx]):=av;generalize L2.upd H4 r5 (.tup [.int (i:Int),.ref lx])=H5 at k5 e5;have g5:=g4.trans k5;refine⟨r5,_,rfl,k8.of e5,rfl,_,_,rfl,_,_,rfl,rfl,?_⟩
  refine⟨_,rfl,_,rfl,lx,_,_,_,rfl,rfl,aQ.of (g5 _ _ hlx),pT hi,?_⟩
  refine⟨_,rfl,.inl ⟨rfl,_,aQ.of (k5 _ _ e4)⟩,?_⟩
  refine⟨_,rfl,_,rfl,_,_,rfl,rfl,_,rfl,lx,_,rfl,aQ.of (g5 _ _ hlx),λl6 n6=>?_⟩
  rw[show iZ ((lv n (T i)).map V.int) q? (j? ((i:Int)+1))=(lv (i+1) (T i)).map V.int from by
   rw[show(i:Int)+1=((i+1:Nat):Int) by omega,xy (by rw[Ya,bW];omega),<- List.map_take,M6 (by omega)]]
  have k6:=aB n6 (.lst ((lv (i+1) (T i)).map V.int));have e6:(L2.upd H5 l6 (.lst ((lv (i+1) (T i)).map V.int))) l6=j? (.lst ((lv (i+1) (T i)).map V.int)):=av;generalize L2.upd H5 l6 (.lst ((lv (i+1) (T i)).map V.int))=H6 at k6 e6;obtain⟨ZQ,sle⟩:=G.pw i hi;have tpos:0<T i i:=by rw[ZQ];exact Wl (by omega)
  have bTi:Bd 200 (T i i):=by
   have:=G.sO i i hi hi
   exact Bd.le (y:=(p:Int) ^ d) (by omega) (zo hp (by omega))
  refine⟨l6,rfl,⟨_,aQ.of e6⟩,λD hD=>?_⟩
  refine qg (λj=>.num (T i j / T i i)) (n:=i+1) (by rw[Ya,bW]) e6 hD (by omega) (λj vz H7 Q2 hj g7 V1 q2=>?_) λH7 g7 Ob=>?_
  ·obtain⟨y1,hy1,rfl⟩:=bh V1
   rw[d7 hj] at hy1;cases hy1;refine⟨_,rfl,_,rfl,_,_,rfl,rfl,bTi.dv (by omega),?_⟩
   show Q2 (V.int ((T i j).fdiv (T i i))) H7
   rw[Zs _ (by omega)]
   exact q2 _ H7 (aI.refl _) (.num _)
  ·obtain⟨lD,eD',Qv,nD⟩:=eU Ob
   cases eD';refine⟨_,rfl,_,rfl,_,rfl,T i i,(p:Int),rfl,by omega,by omega,λz H8 g8 sv=>?_⟩
   have sz:z=.int (s i:Int):=by
    rcases sv with ⟨z0,_⟩|⟨_,v',hv',rfl⟩
    ·omega
    ·rw[hv'.uniq (cG.of (v:=s i) (m:=1) (by omega) (by rw[ZQ,Zx]) (λh=>by have:=W6 (by decide) h;omega))]
   subst sz;refine⟨_,_,rfl,rfl,a_ rfl,λt9 ZR=>?_⟩
   generalize hX:L2.upd H8 t9 _=H9;have x9:=cC ZR hX;clear hX;have k9:=x9.1;have e9:H9 t9=j? (.tup [.ref D,.int ((d-s i:Nat):Int)]):=by
    rw[x9.2];show j? (HO.tup [V.ref D,V.int ((d:Int)-(s i:Int))])=_
    rw[show(d:Int)-(s i:Int)=((d-s i:Nat):Int) by omega]
   have MX:=(((k5.trans k6).trans g7).trans g8).trans k9;have e49:=MX _ _ e4;refine⟨tp,_,_,rfl,rfl,e49,by rw[ly,C?];omega,?_⟩
   have WB:H4 D=q?:=(k5.trans k6).free hD;have WC:H4 t9=q?:=(((k5.trans k6).trans g7).trans g8).free ZR;have ZS:D≠tp:=λz=>by rw[z,e4] at WB;cases WB
   have ZT:t9≠tp:=λz=>by rw[z,e4] at WC;cases WC
   refine⟨(g4.trans MX).bE S8 _,_,_,_,_,rfl,av,by rw[Yg,ly];rfl,λj hj=>?_⟩
   by_cases c:j=i
   ·subst c
    refine⟨t9,D,by rw[<- ly,List.getElem?_concat_length],by rw[aN ZT];exact e9,by rw[aN ZS];exact k9 _ _ (g8 _ _ Qv),ZT,ZS,g4.free WC,g4.free WB⟩
   ·obtain⟨t',l',h1,h2,h3,h4,h5,h6,h7⟩:=hys j (by omega)
    exact⟨t',l',by rw[Zd (by omega)];exact h1,by rw[aN h4];exact MX _ _ h2,by rw[aN h5];exact MX _ _ h3,h4,h5,h6,h7⟩
 ·rintro σ H4 ⟨g4,ys,o1,o2,o3,rfl,e4,ly,hys⟩
  rw[C.len] at ly hys;have nP:∀b,H2 b=q?->b≠aC:=λb hb z=>by rw[z,Q_] at hb;cases hb
  refine⟨_,rfl,qo R ri φ ip d k T s tp ys H4 (WA.trans (cH.of g4)) (SY.same g4) X G M ZO ftp (by rw[jA Q6];exact e4) ⟨ly,λi hi=>?_⟩⟩
  obtain⟨t',l',h1,h2,h3,h4,h5,h6,h7⟩:=hys i hi;exact⟨t',l',h1,by rw[jA (nP _ h6)];exact h2,by rw[jA (nP _ h7)];exact h3,WA.fresh ⟨_,Q_⟩ h7,h5⟩
end
section
theorem A4 (B:iY mg)(F:Src K mg "_law_trimmed" nX D9):b_ P w K mg base 1 "_law_trimmed" D9 (qA K):=by
 refine F.ok mG (λvs H Q E h=>?_) (λf cdv A outer s H vs Q E hr h=>?_)
 ·obtain⟨a,f,rfl,_⟩:=h;rfl
 obtain⟨a,f,rfl,hS,hlen,q⟩:=h;refine⟨_,ah (aD (i:=1) mG.nd rfl (z? rfl) (aS (aT (K:=K) rfl) rfl B.len cB (af (pv 0) ai)))
  (ah (eV D? (PW.pt (HH (aX yI (pv 1) ak (bC _)) (E1 (aX iP (bL (aJ (K:=K) rfl) (pv 0) (au bY (pv 1) ak) (λ_ _=>rfl)) ak (bC _)))))
   (ay (aD (i:=1) mG.nd rfl (z? rfl) (au bY (pv 1) ak))))
  (ay (aL (sZ lC rfl B.list vp (af (fU (fX (K:=K) rfl) (pv 0) iC (iD (pv 1))) ai))))),?_⟩
 refine⟨_,rfl,a,_,rfl,.inl hS,?_⟩
 rw[Ya];have fin:∀(k:Nat) H2,aI H H2->k<=f.length->gU f f.length=gU f k->gU f k=k->∀p,H2 p=q?->∃p2 ys,[V.ref p]=[.ref p2]/\(aQ K (upd H2 p (.lst (iZ (f.map V.int) q? (j? (k:Int))))) p2 ys\/k8 K (upd H2 p (.lst (iZ (f.map V.int) q? (j? (k:Int))))) p2 ys)/\
   ∀l,upd H2 p (.lst (iZ (f.map V.int) q? (j? (k:Int)))) l=q?->Q (.ref l) (upd (upd H2 p (.lst (iZ (f.map V.int) q? (j? (k:Int))))) l (.lst ys)):=λk H2 g hk e1 e2 p hp=>by
  refine⟨p,_,rfl,.inl (aQ.of av),λl hl=>?_⟩
  rw[tH f k hk] at hl ⊢;refine q l _ ((g.trans (aB hp _)).trans (aB hl _)) ((g.trans (aB hp _)).free hl) ?_
  unfold trim;rw[e1,e2];exact av
 refine jy (λσ H2=>H2=H/\∃k:Nat,σ=[Rq a,j? (.int k)]/\k<=f.length/\gU f f.length=gU f k) (λσ _=>match σ with | [_,j? (.int k)]=>k.toNat|_=>0) ⟨rfl,f.length,rfl,Yd _,rfl⟩ ?_
 rintro σ H2 ⟨rfl,k,rfl,hk,ht⟩;refine⟨_,rfl,_,_,rfl,rfl,_,rfl,fV (λc=>?_) (λc=>?_)⟩
 ·have c':(0:Int)<k:=Jn c
  obtain⟨m,rfl⟩:∃m,k=m+1:=⟨k-1,by omega⟩
  refine⟨_,rfl,_,rfl,_,_,rfl,rfl,a,_,_,_,rfl,rfl,hS,fL (by omega) (by omega),rfl,_,rfl,?_⟩
  have em:(((m+1:Nat):Int)-1).toNat=m:=by omega
  rw[em];refine fV (λc=>?_) (λc=>?_)
  ·have c2:ao f m=0:=V.int.inj (Jn c)
   refine win ⟨_,rfl,_,_,rfl,rfl,⟨rfl,m,?_,by omega,?_⟩,?_⟩
   ·have e:((m+1:Nat):Int)-1=(m:Int):=by omega
    show [j? (V.ref a),j? (V.int (((m+1:Nat):Int)-1))]=_
    rw[e]
   ·exact ht.trans (by show(if ao f m=0 then gU f m else m+1)=_;rw[Jl c2])
   ·show(((m+1:Nat):Int)-1).toNat<(((m+1:Nat):Int)).toNat
    omega
  ·have c2:ao f m≠0:=λz=>c (Jm (Jp V.int z))
   exact⟨_,rfl,_,rfl,_,rfl,a,_,rfl,hS,fin (m+1) _ (aI.refl _) hk ht (by show(if ao f m=0 then gU f m else m+1)=_;rw[Jk c2])⟩
 ·have c':k=0:=by
   have:¬ (0:Int)<k:=λz=>c (Jm z)
   omega
  subst c';refine tu ?_
  exact⟨_,rfl,_,rfl,_,rfl,a,_,rfl,hS,fin 0 _ (aI.refl _) hk ht rfl⟩
end
def sH (K:bX):Sp:=λvs H Q _=>∃(a b:o?) (f g:List Int),vs=[.ref a,.ref b]/\aQ K H a (f.map V.int)/\aQ K H b (g.map V.int)/\f.length<=400/\g.length<=400/\gR 1000000 f/\gR 1000000 g/\O2 H Q (trim (dY f g))
def Ge (K:bX):Sp:=λvs H Q _=>∃(a b:o?) (f g:List Int),vs=[.ref a,.ref b]/\H a=j? (.lst (f.map V.int))/\H b=j? (.lst (g.map V.int))/\f.length<=1000/\g.length<=1000/\O2 H Q (rK f g)
section
def xM (f g:List Int):List Int:=(Yk (f.length+g.length)).map (conv f g)
theorem CQ (f g:List Int):trim (xM f g)=trim (dY f g):=Ij λi=>by
 rw[oE];unfold xM;exact f_ (λi hi=>nC f g i (by omega)) i
theorem Et (B:iY mg)(iW:b_ P w K mg base 1 "_law_trimmed" D9 (qA K))(F:Src K mg "_law_times" t6 u9):b_ P w K mg base 2 "_law_times" u9 (sH K):=by
 refine F.ok mH (λvs H Q E h=>?_) (λf cdv A outer s H vs Q E hr h=>?_)
 ·obtain⟨a,b,f,g,rfl,_⟩:=h;rfl
 obtain⟨a,b,f,g,rfl,ha,hb,lf,lg,bf,bg,q⟩:=h;refine⟨_,ah (aD (i:=2) mH.nd rfl (z? rfl) (au s_ (bI (af ak ai)) (au b8 (aS (aT (K:=K) rfl) rfl B.len cB (af (pv 0) ai)) (aS (aT (K:=K) rfl) rfl B.len cB (af (pv 1) ai)))))
  (ah (cU D? rfl (bU rfl B.range (af (aS (aT (K:=K) rfl) rfl B.len cB (af (pv 0) ai)) ai)) (aE (i:=3) mH.nd rfl (z? rfl))
   (ay (cU D? rfl (bU rfl B.range (af (aS (aT (K:=K) rfl) rfl B.len cB (af (pv 1) ai)) ai)) (aE (i:=4) mH.nd rfl (z? rfl))
    (ay (sW (au b8 (bL (aJ (K:=K) rfl) (pv 2) (au b8 (pv 3) (pv 4)) (λ_ _=>rfl)) (au aV (bL (aJ (K:=K) rfl) (pv 0) (pv 3) (λ_ _=>rfl)) (bL (aJ (K:=K) rfl) (pv 1) (pv 4) (λ_ _=>rfl)))) (Oz (pv 2) (au b8 (pv 3) (pv 4)) set_list))))))
  (ay (aL (aF iW hr (af (pv 2) ai))))),?_⟩
 refine⟨a_ rfl,λp3 n3=>?_⟩
 have g3:=aB n3 (.lst [.int 0]);refine⟨_,rfl,a,_,rfl,.inl (g3.seq ha),_,rfl,b,_,rfl,.inl (g3.seq hb),?_⟩
 rw[Ya,Ya];have en:((f.length:Int)+(g.length:Int))=((f.length+g.length:Nat):Int):=by omega
 refine⟨_,_,rfl,rfl,p3,_,_,rfl,rfl,av,by omega,by omega,?_,λp hp=>?_⟩
 ·rw[C?];show 1*_<=_;omega
 rw[en,Yi,rL];have g4:=g3.trans (aB hp (.lst ((Yn (f.length+g.length) (0:Int)).map V.int)));have f4:H p=q?:=g3.free hp;refine⟨_,rfl,a,_,rfl,.inl (g4.seq ha),?_⟩
 rw[Ya];refine⟨_,rfl,by omega,by omega,dO (λi σ H2=>aI H H2/\∃(P:List Int) (o1 o2:Option V),σ=[Rq a,Rq b,Rq p,o1,o2]/\H2 p=j? (.lst (P.map V.int))/\P.length=f.length+g.length/\∀m,m<P.length->ao P m=fY f g i m)
  ⟨g4,_,_,_,rfl,av,by simp,λm hm=>cV _ _⟩ ?_ ?_⟩
 ·rintro i σ H2 hi ⟨gg,P,o1,o2,rfl,eP,lP,hP⟩
  have hi':i<f.length:=by omega
  refine⟨_,rfl,b,_,rfl,.inl (gg.seq hb),?_⟩
  rw[Ya];refine⟨_,rfl,by omega,by omega,dO (λj σ H2=>aI H H2/\∃(P:List Int) (o2:Option V),σ=[Rq a,Rq b,Rq p,j? (.int (0+(i:Int))),o2]/\H2 p=j? (.lst (P.map V.int))/\P.length=f.length+g.length/\∀m,m<P.length->ao P m=pR f g i j m)
   ⟨gg,P,_,rfl,eP,lP,λm hm=>by rw[we];exact hP m hm⟩ ?_ ?_⟩
  ·rintro j σ H3 hj ⟨gg,P,o2,rfl,eP,lP,hP⟩
   have hj':j<g.length:=by omega
   have N1:((0+(i:Int))+(0+(j:Int)))=((i+j:Nat):Int):=by omega
   have hij:i+j<P.length:=by omega
   have ei:((0:Int)+(i:Int)).toNat=i:=by omega
   have ej:((0:Int)+(j:Int)).toNat=j:=by omega
   have b1:Bd 1000000 (ao f ((0:Int)+(i:Int)).toNat):=bf.ao _;have b2:Bd 1000000 (ao g ((0:Int)+(j:Int)).toNat):=bg.ao _;refine⟨_,rfl,_,rfl,_,rfl,_,_,rfl,rfl,p,_,_,_,rfl,rfl,aQ.of eP,fL (by omega) (by omega),?_⟩
   refine⟨_,rfl,_,rfl,a,_,_,_,rfl,rfl,gg.seq ha,fL (by omega) (by omega),_,rfl,_,rfl,b,_,_,_,rfl,rfl,gg.seq hb,fL (by omega) (by omega),_,_,rfl,rfl,AQ b1 b2,_,_,rfl,rfl,?_⟩
   refine⟨_,rfl,_,rfl,_,rfl,_,_,rfl,rfl,p,_,_,i+j,rfl,rfl,eP,?_,?_⟩
   ·rw[N1,Ya];exact zW (by omega) (by omega)
   rw[N1,Yi,ei,ej];refine⟨gg.bE f4 _,P.set (i+j) (ao P (i+j)+ao f i*ao g j),_,rfl,?_,by rw[W7];exact lP,λm hm=>?_⟩
   ·rw[<- nE];exact av
   ·rw[W7] at hm
    rw[rG hij,wg,hP m hm];split
    ·rename_i h;subst h;rw[hP _ hm]
    ·rfl
  ·rintro σ H3 ⟨gg,P,o2,rfl,eP,lP,hP⟩
   refine⟨gg,P,_,_,rfl,eP,lP,λm hm=>?_⟩
   rw[<- yV];have:=hP m hm
   rw[Yi] at this;exact this
 ·rintro σ H2 ⟨gg,P,o1,o2,rfl,eP,lP,hP⟩
  have e:P=xM f g:=by
   refine rF ?_ λm hm=>?_
   ·unfold xM;rw[Ya,Yf];exact lP
   ·unfold xM
    rw[nA (by omega),hP m hm,Yi]
    rfl
  subst e;refine⟨_,rfl,p,_,rfl,aQ.of eP,by omega,λp2 H3 g3 n3 e3=>?_⟩
  rw[CQ] at e3;exact q p2 H3 (gg.trans g3) (gg.free n3) e3
theorem Hl (B:iY mg)(iW:b_ P w K mg base 1 "_law_trimmed" D9 (qA K))(F:Src K mg "_law_plus" sC u9):b_ P w K mg base 2 "_law_plus" u9 (Ge K):=by
 refine F.ok oU (λvs H Q E h=>?_) (λf cdv A outer s H vs Q E hr h=>?_)
 ·obtain⟨a,b,f,g,rfl,_⟩:=h;rfl
 obtain⟨a,b,f,g,rfl,ea,eb,lf,lg,q⟩:=h;have ha:aQ K H a (f.map V.int):=aQ.of ea;have hb:aQ K H b (g.map V.int):=aQ.of eb;refine⟨_,ah (aD (i:=2) oU.nd rfl (z? rfl) (aS (Gu rfl) rfl B.«max» OY (af (aS (aT (K:=K) rfl) rfl B.len cB (af (pv 0) ai)) (af (aS (aT (K:=K) rfl) rfl B.len cB (af (pv 1) ai)) ai))))
  (ah (aD (i:=3) oU.nd rfl (Or.inr rfl) (au i6 (pv 0) (au s_ (bI (af ak ai)) (au bY (pv 2) (aS (aT (K:=K) rfl) rfl B.len cB (af (pv 0) ai))))))
  (ah (aD (i:=4) oU.nd rfl (Or.inr rfl) (au i6 (pv 1) (au s_ (bI (af ak ai)) (au bY (pv 2) (aS (aT (K:=K) rfl) rfl B.len cB (af (pv 1) ai))))))
  (ay (aL (aF iW hr (af (cA (aG (N:=["_law_k","_law_one","_law_other"]) (sl:=[q?,j? 3,j? 4]) (aq sC) XW rfl rfl (by decide +kernel)) rfl (bU rfl B.range (af (pv 2) ai)) (λ_ _ _ _ _=>(aE (i:=0) (Yk_ ["_law_k","_law_one","_law_other"]) rfl (z? rfl))) (λ_ _ _ _ _=>aU) (λ_ _ _ _ _=>(au b8 (bL (aJ (K:=K) rfl) (pv 1) (pv 0) (λ_ _=>rfl)) (bL (aJ (K:=K) rfl) (pv 2) (pv 0) (λ_ _=>rfl))))) ai)))))),?_⟩
 refine⟨_,rfl,a,_,rfl,.inl ha,_,rfl,b,_,rfl,.inl hb,_,_,rfl,?_⟩
 rw[Ya,Ya];have em:(if ((g.length:Nat):Int) > ((f.length:Nat):Int) then ((g.length:Nat):Int) else ((f.length:Nat):Int))=((max f.length g.length:Nat):Int):=by split <;> omega
 rw[em];refine⟨_,rfl,a_ rfl,λp1 n1=>?_⟩
 have g1:=aB n1 (.lst [.int 0]);refine⟨_,rfl,_,rfl,a,_,rfl,.inl (g1.seq ha),?_⟩
 rw[Ya];have e1:(((max f.length g.length:Nat):Int)-((f.length:Nat):Int))=((max f.length g.length-f.length:Nat):Int):=by omega
 refine⟨_,_,rfl,rfl,p1,_,_,rfl,rfl,av,by omega,by omega,?_,λp2 n2=>?_⟩
 ·rw[C?];show 1*_<=_;omega
 rw[e1,Yi,rL] at*;have g2:=g1.trans (aB n2 (.lst ((Yn (max f.length g.length-f.length) (0:Int)).map V.int)));refine⟨a,p2,_,_,rfl,rfl,g2 _ _ ea,av,?_,λp3 n3=>?_⟩
 ·rw[Ya,Ya,Ys,C?];omega
 rw[<- Yz] at*;have g3:=g2.trans (aB n3 (.lst ((f++Yn (max f.length g.length-f.length) (0:Int)).map V.int)));refine⟨_,rfl,a_ rfl,λp4 n4=>?_⟩
 have k4:=aB n4 (.lst [.int 0]);have g4:=g3.trans k4;refine⟨_,rfl,_,rfl,b,_,rfl,.inl (g4.seq hb),?_⟩
 rw[Ya];have e2:(((max f.length g.length:Nat):Int)-((g.length:Nat):Int))=((max f.length g.length-g.length:Nat):Int):=by omega
 refine⟨_,_,rfl,rfl,p4,_,_,rfl,rfl,av,by omega,by omega,?_,λp5 n5=>?_⟩
 ·rw[C?];show 1*_<=_;omega
 rw[e2,Yi,rL] at*;have k5:=aB n5 (.lst ((Yn (max f.length g.length-g.length) (0:Int)).map V.int));have g5:=g4.trans k5;refine⟨b,p5,_,_,rfl,rfl,g5 _ _ eb,av,?_,λp6 n6=>?_⟩
 ·rw[Ya,Ya,Ys,C?];omega
 rw[<- Yz] at*;have k6:=aB n6 (.lst ((g++Yn (max f.length g.length-g.length) (0:Int)).map V.int));have g6:=g5.trans k6;have s3:∀ {H7:Hp},aI (upd (upd (upd (upd (upd (upd H p1 (.lst [.int 0])) p2 (.lst ((Yn (max f.length g.length-f.length) (0:Int)).map V.int))) p3 (.lst ((f++Yn (max f.length g.length-f.length) (0:Int)).map V.int))) p4 (.lst [.int 0])) p5 (.lst ((Yn (max f.length g.length-g.length) (0:Int)).map V.int))) p6 (.lst ((g++Yn (max f.length g.length-g.length) (0:Int)).map V.int))) H7->
   aQ K H7 p3 ((f++Yn (max f.length g.length-f.length) (0:Int)).map V.int)/\aQ K H7 p6 ((g++Yn (max f.length g.length-g.length) (0:Int)).map V.int):=λs7=>⟨aQ.of (s7 _ _ (k6 _ _ (k5 _ _ (k4 _ _ av)))),aQ.of (s7 _ _ av)⟩
 refine⟨_,rfl,_,rfl,by omega,by omega,λD hD=>?_⟩
 rw[Yi];refine jx (λi ys H2=>aI _ H2/\ys=((Yk i).map λi=>ao f i+ao g i).map V.int) ⟨aB hD _,rfl⟩ ?_ ?_
 ·rintro i m ys H2 hm hi hy hlen ⟨gg,rfl⟩
  obtain⟨z1,z2⟩:=s3 gg;have ei:((0:Int)+(i:Int)).toNat=i:=by omega
  refine⟨_,rfl,_,rfl,p3,_,_,_,rfl,rfl,z1,fL (by omega) (by rw[Yg,Ys];omega),_,rfl,_,rfl,p6,_,_,_,rfl,rfl,z2,fL (by omega) (by rw[Yg,Ys];omega),_,_,rfl,rfl,?_⟩
  rw[ei,Bw,Bw];refine CW.emit hm hi (by rw[C?];omega) hy hlen ⟨aI.bE gg hD _,?_⟩
  rw[Wy,Yz,Yz];rfl
 ·rintro ys H2 hy ⟨gg,rfl⟩
  have gA:=g6.trans gg;refine⟨D,Ik f g,rfl,aQ.of hy,by unfold Ik;rw[Ya,Yf];omega,λp H' g' n' e'=>q p H' (gA.trans g') (gA.free n') e'⟩
end
def K0 (K:bX):Sp:=λvs H Q _=>∃(a:o?) (ns:List Int) (k:Int),vs=[.ref a,.int k]/\aQ K H a (ns.map V.int)/\0<=k/\∀n:Int,Q (.int n) H
def CT (K:bX):Sp:=λvs H Q _=>∃(a:o?) (ns:List Int) (k:Int),vs=[.ref a,.int k]/\aQ K H a (ns.map V.int)/\0<=k/\k<=100/\∀n:Int,Q (.int n) H
section
theorem Ew (B:iY mg)(F:Src K mg "_law_cell_at" nW xr):b_ P w K mg base 1 "_law_cell_at" xr (K0 K):=by
 refine F.ok AJ (λvs H Q E h=>?_) (λf cdv A outer s H vs Q E hr h=>?_)
 ·obtain⟨a,ns,k,rfl,_⟩:=h;rfl
 obtain⟨a,ns,k,rfl,hS,h0,q⟩:=h;refine⟨_,ah (eT (aX E7 (pv 1) (aS (aT (K:=K) rfl) rfl B.len cB (af (pv 0) ai)) (bC _))
   (ay (aL (bL (aJ (K:=K) rfl) (pv 0) (pv 1) (λ_ _=>rfl))))
   (cD))
  (ay (aL ak)),?_⟩
 refine⟨_,rfl,_,rfl,a,_,rfl,.inl hS,_,_,rfl,rfl,_,rfl,?_⟩
 refine fV (λc=>?_) (λc=>?_)
 ·have hk:k<((ns.map V.int).length:Nat):=Jn c
  obtain⟨v,e,hm⟩:=Fd (xs:=ns.map V.int) h0 hk;obtain⟨n,_,rfl⟩:=List.mem_map.mp hm;exact⟨_,rfl,_,rfl,_,_,_,_,rfl,rfl,hS,e,q n⟩
 ·exact q 0
theorem Ho (B:iY mg)(j3:b_ P w K mg base 1 "_law_cell_at" xr (K0 K))(F:Src K mg "_law_number" qx xr):b_ P w K mg base 2 "_law_number" xr (CT K):=by
 refine F.ok fE (λvs H Q E h=>?_) (λf cdv A outer s H vs Q E hr h=>?_)
 ·obtain⟨a,ns,k,rfl,_⟩:=h;rfl
 obtain⟨a,ns,k,rfl,hS,h0,h1,q⟩:=h;refine⟨_,ah (eT (aX RA (aS Bl rfl B.abs Ia (af (aF j3 hr (af (pv 0) (af (pv 1) ai))) ai)) (au zG ak ak) (bC _))
   (ay (aL (aF j3 hr (af (pv 0) (af (pv 1) ai)))))
   (cD))
  (ah (aD (i:=2) fE.nd rfl (z? rfl) (au b8 (au b8 (aF j3 hr (af (pv 0) (af ak ai))) (au aV ak (pv 1))) (au aV ak (aF j3 hr (af (pv 0) (af (pv 1) ai))))))
  (ah (aD (i:=2) fE.nd rfl (z? rfl) (au b8 (au bw (pv 2) ak) ak))
  (ah (aD (i:=3) fE.nd rfl (z? rfl) ak)
  (ah (cU D? rfl (bU rfl B.range (af ak ai)) (aE (i:=4) fE.nd rfl (z? rfl))
   (ah (aD (i:=2) fE.nd rfl (z? rfl) (au bw (au b8 (au b8 (au b8 (au aV (pv 2) ak) (au bK (pv 2) ak)) (au aV (au aV ak (pv 4)) (pv 4))) ak) ak))
   (ay (aD (i:=3) fE.nd rfl (z? rfl) (au b8 (au aV (pv 3) ak) (au bw (au aV (pv 2) ak) ak))))))
  (ay (aL (pv 3))))))),?_⟩
 refine⟨_,rfl,_,rfl,a,ns,k,rfl,hS,h0,λn1=>?_⟩
 walk_at "rd"
 refine fV (λc=>?_) (λc=>?_)
 ·exact⟨_,rfl,_,rfl,a,ns,k,rfl,hS,h0,λn=>q n⟩
 refine⟨_,rfl,a,ns,0,rfl,hS,Int.le_refl 0,λn2=>?_⟩
 walk_at "rd"
 refine⟨a,ns,k,rfl,hS,h0,λn3=>?_⟩
 walk_at "rd"
 refine⟨by decide,by decide,dO (n:=12) (λi σ H2=>H2=H/\∃(x t:Int) (j:Option V),σ=[Rq a,j? (.int k),j? (.int x),j? (.int t),j]) ⟨rfl,_,_,_,rfl⟩ ?_ ?_⟩
 ·rintro i σ H2 hi ⟨rfl,x,t,j,rfl⟩
  have hj:mW (19*(0+(i:Int))) (0+(i:Int)):=j6 (by omega) (by omega)
  walk_at "rd"
  refine⟨hj,?_⟩
  walk_at "rd"
  exact⟨rfl,_,_,_,rfl⟩
 ·rintro σ H2 ⟨rfl,x,t,j,rfl⟩
  exact⟨_,rfl,q t⟩
end
def M_ (n:Int):Prop:=n=1\/n=-1
theorem S9 (x:Int):∃n,qZ [V.int 1,V.int (-1)] (x.fmod 2)=j? (.int n)/\M_ n:=by
 have r:=gm x (y:=2) (by decide)
 refine pick r.1 r.2 ?_
 intro v hv;simp only[Wz,Wc,or_false] at hv
 rcases hv with rfl|rfl
 ·exact⟨_,rfl,.inl rfl⟩
 ·exact⟨_,rfl,.inr rfl⟩
theorem S_ {x s:Int}(h:M_ s):mW x s:=by rcases h with rfl|rfl <;> exact j6 (by decide) (by decide)
theorem M_.bd {x s:Int}{m:Nat}(h:M_ s)(hx:Bd m x):Bd m (x*s):=Bd.le (y:=x) (by rcases h with rfl|rfl <;> simp) hx
theorem Qw {x y:Int}{m:Nat}(hy:0<y)(h:Bd m y):Bd m (x.fmod y):=Bd.le (y:=y) (by have:=gm x hy;omega) h
def Gf:Sp:=λvs H Q _=>∃c m k:Int,vs=[.int c,.int m,.int k]/\0<=m/\m<=100/\k=1/\∀f:List Int,Norm f->gR 5 f->(f.length:Int)<=m+1->O2 H Q f
section
theorem Ex (B:iY mg)(iW:b_ P w K mg base 1 "_law_trimmed" D9 (qA K))(F:Src K mg "_law_poly" xw J7):b_ P w K mg base 2 "_law_poly" J7 Gf:=by
 refine F.ok iy (λvs H Q E h=>?_) (λf cdv A outer s H vs Q E hr h=>?_)
 ·obtain⟨c,m,k,rfl,_⟩:=h;rfl
 obtain⟨c,m,k,rfl,h0,h1,hk,q⟩:=h;refine⟨_,ah (aD (i:=3) iy.nd rfl (z? rfl) (bI ai))
  (ah (aD (i:=4) iy.nd rfl (z? rfl) (au bw (pv 0) (au b8 (pv 1) ak)))
  (ah (aD (i:=5) iy.nd rfl (z? rfl) (au bK (pv 0) (au b8 (pv 1) ak)))
  (ah (aD (i:=6) iy.nd rfl (z? rfl) (bL (aJ (K:=K) rfl) (bI (af ak (af ak (af (au zG ak ak) (af (au zG ak ak) ai))))) (au bw (pv 2) ak) (λ_ _=>rfl)))
  (ah (cU D? rfl (bU rfl B.range (af (pv 4) ai)) (aE (i:=7) iy.nd rfl (z? rfl))
   (ah (fH (q9 R? F! G! eB (pv 3) (af (au aV (au bw (pv 5) (pv 6)) (bL (aJ (K:=K) rfl) (bI (af ak (af (yH sY ak) ai))) (au bw (au bK (pv 5) (pv 6)) ak) (λ_ _=>rfl))) ai)))
   (ay (aD (i:=5) iy.nd rfl (z? rfl) (au bK (au bK (pv 5) (pv 6)) ak)))))
  (ay (aL (aF iW hr (af (pv 3) ai)))))))),?_⟩
 refine⟨a_ rfl,λp hp=>?_⟩
 have g1:=aB hp (.lst []);refine⟨_,rfl,_,rfl,_,_,rfl,rfl,_,_,rfl,rfl,show m+2≠0 by omega,?_⟩
 refine⟨_,rfl,_,rfl,_,_,rfl,rfl,_,_,rfl,rfl,(Bd.small (by omega) (by omega)).dv (show m+2≠0 by omega),?_⟩
 walk_at "rd"
 intro p1 n1;walk_at "rd"
 obtain⟨bs,hbs,hb1,hb2⟩:∃bs:Int,qZ [V.int 7,V.int 19,V.int (10 ^ 6),V.int (10 ^ 55)] (k.fmod 4)=j? (.int bs)/\0<bs/\Bd 5 bs:=by
  subst hk;exact⟨19,rfl,by decide,show Wa _<2 ^ 5 by decide⟩
 refine⟨p1,_,_,_,rfl,rfl,aQ.of av,hbs,?_⟩
 have rm:=gm c (y:=m+2) (by omega)
 have g2:=g1.trans (aB n1 (.lst [.int 7,.int 19,.int (10 ^ 6),.int (10 ^ 55)]));refine⟨_,rfl,_,rfl,by omega,by omega,dO (λi σ H2=>aI H H2/\∃(P:List Int) (r:Int) (o:Option V),σ=[j? (.int c),j? (.int m),j? (.int k),Rq p,j? (.int (c.fmod (m+2))),j? (.int r),j? (.int bs),o]/\H2 p=j? (.lst (P.map V.int))/\P.length=i/\gR 5 P)
  ⟨g2,[],_,_,rfl,(aB n1 _) _ _ av,rfl,λx hx=>by simp at hx⟩ ?_ ?_⟩
 ·rintro i σ H2 hi ⟨gg,P,r,o,rfl,eP,lP,bP⟩
  refine⟨_,rfl,.inl ⟨rfl,_,aQ.of eP⟩,?_⟩
  refine⟨_,rfl,_,rfl,_,_,rfl,rfl,show bs≠0 by omega,?_⟩
  walk_at "rd"
  intro p2 n2;refine⟨_,rfl,_,rfl,_,_,rfl,rfl,hb2.dv (by omega),_,_,rfl,rfl,show(2:Int)≠0 by decide,?_⟩
  obtain⟨sg,hsg,hs⟩:=S9 (r.fdiv bs);refine⟨p2,_,_,_,rfl,rfl,aQ.of av,hsg,_,_,rfl,rfl,S_ hs,?_⟩
  have k2:=aB n2 (.lst [V.int 1,V.int (-1)]);refine⟨p,_,_,rfl,rfl,k2 _ _ eP,by rw[Ya,C?];omega,?_⟩
  refine⟨_,rfl,_,rfl,_,_,rfl,rfl,hb2.dv (by omega),_,_,rfl,rfl,(Bd.small (by decide) (by decide)).dv (by decide),?_⟩
  refine⟨(gg.trans k2).bE hp _,P++[r.fmod bs*sg],_,_,rfl,?_,by rw[Yg,lP];rfl,bP.snoc (hs.bd (Qw hb1 hb2))⟩
  rw[<- rM];exact av
 ·rintro σ H2 ⟨gg,P,r,o,rfl,eP,lP,bP⟩
  refine⟨_,rfl,p,P,rfl,aQ.of eP,by omega,λp2 H3 g3 n3 e3=>q (trim P) (jo P) bP.trim ?_ p2 H3 (gg.trans g3) (gg.free n3) e3⟩
  have:=rH P P.length
  rw[gC];omega
end
def xN (K:bX):Sp:=λvs H Q _=>∃(a:o?) (f:List Int) (c:Int) (n:Nat),vs=[.ref a,.int c]/\aQ K H a (f.map V.int)/\f.length<=30/\gR 1000000 f/\Bd n c/\1<=n/\1+30*(n+102)<=1000000/\O2 H Q (cP c f)
def Og:Sp:=λvs H Q _=>∃a b:Int,vs=[.int a,.int b]/\0<=b/\Q (.int (Bt a b)) H
theorem K1 (f g:List Int):(rK f g).length<=max f.length g.length:=by
 unfold rK;rw[gC];refine Ym (rH _ _) ?_
 unfold Ik;rw[Ya,Yf];exact Yd _
theorem K2 (f:List Int):(trim f).length<=f.length:=by rw[gC];exact rH _ _
theorem K3 (f g:List Int):(dY f g).length<=f.length+g.length:=by
 unfold dY;split
 ·exact Y5 _
 ·rw[Ya,Yf];omega
theorem Qx {a:Int}:(if a<0 then -a else a)=(a.natAbs:Int):=by split <;> omega
theorem euclid {x y:Int}(hy:0<=y)(h:y≠0):Int.gcd y (x.fmod y)=Int.gcd x y/\0<=x.fmod y/\(x.fmod y).natAbs<y.natAbs:=by
 have hp:0<y:=by omega
 have r:=gm x hp;exact⟨Ic x y hp,r.1,by omega⟩
def Gg:Sp:=λvs H Q _=>∃k p:Int,vs=[.int k,.int p]/\k≠0/\2<=p/\p<64/\∀v:Nat,cG p k v->Q (.int v) H
section
theorem xO (K4:b_ P w K mg base 2 "_law_plus" u9 (Ge K))(kX:b_ P w K mg base 2 "_law_times" u9 (sH K))(F:Src K mg "_law_shift" oW GZ):b_ P w K mg base 3 "_law_shift" GZ (xN K):=by
 refine F.ok iz (λvs H Q E h=>?_) (λf cdv A outer s H vs Q E hr h=>?_)
 ·obtain⟨a,f,c,n,rfl,_⟩:=h;rfl
 obtain⟨a,f,c,n,rfl,ha,lf,bf,bc,n1,hB,q⟩:=h;refine⟨_,ah (aD (i:=2) iz.nd rfl (z? rfl) (bI ai))
  (ah (aD (i:=3) iz.nd rfl (z? rfl) (bI (af ak ai)))
  (ah (cU D? rfl (bN (K:=K) rfl (pv 0)) (aE (i:=4) iz.nd rfl (Or.inr rfl))
   (ah (aD (i:=2) iz.nd rfl (z? rfl) (aF K4 hr (af (pv 2) (af (cA (aG (N:=["_law_part","_law_one"]) (sl:=[q?,j? 4]) (aq oW) XS rfl rfl (by decide +kernel)) rfl (bN (K:=K) rfl (pv 3)) (λ_ _ _ _ _=>(aE (i:=0) (Yk_ ["_law_part","_law_one"]) rfl (z? rfl))) (λ_ _ _ _ _=>aU) (λ_ _ _ _ _=>(au aV (pv 1) (pv 0)))) ai))))
   (ay (aD (i:=3) iz.nd rfl (z? rfl) (aF kX hr (af (pv 3) (af (bI (af (pv 1) (af ak ai))) ai)))))))
  (ay (aL (pv 2))))),?_⟩
 refine⟨a_ rfl,λp1 m1=>?_⟩
 have k1:=aB m1 (.lst []);refine⟨a_ rfl,λp2 m2=>?_⟩
 have k2:=aB m2 (.lst [.int 1]);have lm:(f.map V.int).length=f.length:=Ya _;have bk:gR n [c,1]:=λx hx=>by
  simp only[Wz,Wc,or_false] at hx
  rcases hx with rfl|rfl
  ·exact bc
  ·exact Bd.mono (m:=1) (show Wa 1<2 ^ 1 by decide) n1
 refine⟨_,rfl,a,rfl,⟨_,(k1.trans k2).seq ha⟩,nh (xs:=f.map V.int) (λi σ H2=>aI H H2/\∃(fa sa:o?) (Fi Si:List Int) (o:Option V),σ=[Rq a,j? (.int c),Rq fa,Rq sa,o]/\H fa=q?/\H2 fa=j? (.lst (Fi.map V.int))/\H2 sa=j? (.lst (Si.map V.int))/\jl [c,1] Fi Si ((f.map λa=>trim [a]).drop i)=cP c f/\Fi.length<=i*2+1/\Si.length<=i*2+1/\gR (1+i*(n+102)) Si)
  ⟨k1.trans k2,p1,p2,[],[1],_,rfl,m1,k2 _ _ av,av,Iu [c,1] _,Y5 _,by show 1<=_;omega,λx hx=>?_⟩ (λi σ H2 _ h=>h.1.seq ha) ?_ ?_⟩
 ·have:x=1:=by simpa using hx
  rw[this];exact Bd.mono (m:=1) (show Wa 1<2 ^ 1 by decide) (by omega)
 ·rintro i x σ H2 hx ⟨gg,fa,sa,Fi,Si,o,rfl,ff,eF,eS,hj,lF,lS,bS⟩
  obtain⟨fi,QV,rfl⟩:=bh hx;have hi:i<f.length:=(List.getElem?_eq_some_iff.mp QV).1;have hmem:fi∈f:=Yy QV;have hin:i*(n+102)+(n+102)<=30*(n+102):=by
   have:(i+1)*(n+102)<=30*(n+102):=Yp _ (by omega)
   rw[Zn,W2] at this;exact this
  have hdr:(f.map λa=>trim [a]).drop i=trim [fi]::(f.map λa=>trim [a]).drop (i+1):=by
   rw[List.drop_eq_getElem_cons (by rw[Ya];omega)]
   congr 1
   have:=(List.getElem?_eq_some_iff.mp QV).2
   simp[this]
  rw[hdr] at hj;refine⟨_,rfl,_,rfl,sa,rfl,⟨_,aQ.of eS⟩,λD hD=>gY (xs:=Si.map V.int) (λj ys H3=>aI H2 H3/\ys=((Si.take j).map λx=>fi*x).map V.int) ⟨aB hD _,rfl⟩ (λj ys H3 _ h=>aQ.of (h.1 _ _ eS)) (λj m x ys H3 hm hjl hx hy hlen h=>?_) (λys H3 hy h=>?_)⟩
  ·obtain⟨g3,rfl⟩:=h
   obtain⟨sj,ZU,rfl⟩:=bh hx;have bsj:Bd 1000000 sj:=(bS sj (Yy ZU)).mono (by omega)
   refine⟨_,rfl,_,rfl,_,_,rfl,rfl,AQ (bf fi hmem) bsj,?_⟩
   refine CW.emit hm hjl (by rw[Ya,C?];omega) hy hlen ⟨aI.bE g3 hD _,?_⟩
   rw[List.take_add_one,ZU];simp
  ·obtain⟨g3,rfl⟩:=h
   rw[Ya,List.take_length] at hy;have ls:(Si.map λx=>fi*x).length=Si.length:=Ya _
   refine⟨fa,D,Fi,_,rfl,g3 _ _ eF,hy,by omega,by omega,λp4 H4 g4 n4 e4=>?_⟩
   have ZV:=g3.trans g4;refine⟨_,rfl,_,rfl,a_ rfl,λp5 n5=>?_⟩
   have k5:=aB n5 (.lst [.int c,.int 1]);refine⟨sa,p5,Si,[c,1],rfl,aQ.of (k5 _ _ (ZV _ _ eS)),aQ.of av,by omega,by show 2<=400;decide,bS.mono (by omega),bk.mono (by omega),λp6 H6 g6 n6 e6=>?_⟩
   have l6:(trim (dY Si [c,1])).length<=Si.length+2:=Ym (K2 _) (K3 _ _);have l4:=K1 Fi (Si.map λx=>fi*x)
   rw[Ds] at e4 l4;refine⟨((gg.trans ZV).trans k5).trans g6,p4,p6,_,_,_,rfl,(gg.trans g3).free n4,g6 _ _ (k5 _ _ e4),e6,hj,?_,?_,((bS.dY bk).trim).mono ?_⟩
   ·omega
   ·omega
   ·rw[Zn,W2];omega
 ·rintro σ H2 ⟨gg,fa,sa,Fi,Si,o,rfl,ff,eF,eS,hj,lF,lS,bS⟩
  rw[lm,List.drop_of_length_le (by rw[Ya];exact Yd _)] at hj
  refine⟨_,rfl,q fa H2 gg ff ?_⟩
  rw[<- hj];exact eF
theorem CU (B:iY mg)(F:Src K mg "_law_common" qy G0):b_ P w K mg base 1 "_law_common" G0 Og:=by
 refine F.ok uV (λvs H Q E h=>?_) (λf cdv A outer s H vs Q E hr h=>?_)
 ·obtain⟨a,b,rfl,_⟩:=h;rfl
 obtain⟨a,b,rfl,hb,q⟩:=h;refine⟨_,ah (eV D? (aX uI (pv 1) ak (bC _))
   (ay (vR (i:=0) (j:=1) rfl uV.nd rfl rfl (by decide) rfl rfl (af (pv 1) (af (au bw (pv 0) (pv 1)) ai)) rfl)))
  (ay (aL (aS Bl rfl B.abs Ia (af (pv 0) ai)))),?_⟩
 refine ni (λσ H2=>H2=H/\∃x y:Int,σ=[j? (.int x),j? (.int y)]/\0<=y/\Int.gcd x y=Int.gcd a b) (λσ _=>match σ with | [_,j? (.int y)]=>y.natAbs|_=>0) ?_ ?_ (λσ H Q Q' f ⟨v,e,s,k,ek,h⟩=>⟨v,e,s,k,ek,f _ _ h⟩)
 ·exact⟨rfl,_,_,rfl,hb,rfl⟩
 rintro σ H2 ⟨rfl,x,y,rfl,hy,hg⟩;refine⟨_,rfl,rfl,_,rfl,?_⟩
 refine fV (λc=>?_) (λc=>?_)
 ·have h0:y≠0:=by intro z;subst z;simp at c
  obtain⟨e1,e2,e3⟩:=euclid (x:=x) hy h0;exact⟨_,rfl,_,rfl,_,rfl,_,_,rfl,rfl,h0,_,_,rfl,⟨rfl,_,_,rfl,e2,e1.trans hg⟩,e3⟩
 ·have h0:y=0:=by by_cases z:y=0;exact z;simp[z] at c
  subst h0;refine⟨_,rfl,_,rfl,?_⟩
  have e:(if x<0 then -x else x)=Bt a b:=by
   unfold Bt;rw[<- hg,Qx];simp
  rw[e];exact q
theorem Hq (F:Src K mg "_law_size" xx D6):b_ P w K mg base 1 "_law_size" D6 Gg:=by
  refine F.ok oV (λvs H Q E h=>?_) (λf cdv A outer s H vs Q E hr h=>?_)
  . obtain⟨a,b,rfl,_⟩:=h;rfl
  obtain⟨k,p,rfl,h0,hp,hp2,q⟩:=h;refine⟨_,ah (aD (i:=2) oV.nd rfl (z? rfl) ak)
    (ah (eV D? (aX iP (au bw (pv 0) (pv 1)) ak (bC _))
      (ah (aD (i:=0) oV.nd rfl (z? rfl) (au bK (pv 0) (pv 1)))
      (ay (aD (i:=2) oV.nd rfl (z? rfl) (au b8 (pv 2) ak)))))
    (ay (aL (pv 2)))),?_⟩
  refine ni (λσ H2=>H2=H/\∃(m:Int) (v:Nat),σ=[j? (.int m),j? (.int p),j? (.int v)]/\m≠0/\k=p ^ v*m) (λσ _=>match σ with|some (.int m)::_=>m.natAbs|_=>0) ?_ ?_ ?_
  . exact⟨rfl,k,0,rfl,h0,by simp⟩
  . rintro σ H2 ⟨rfl,m,v,rfl,hm,hk⟩
    refine⟨_,rfl,_,rfl,_,_,rfl,rfl,show p≠0 by omega,rfl,_,rfl,?_⟩
    refine fV (λc=>?_) (λc=>?_)
    . have c':m.fmod p=0:=V.int.inj (Jn c)
      obtain⟨m',rfl⟩:=(nv (by omega)).mp c'
      have hm':m'≠0:=λz=>hm (by rw[z];simp)
      refine⟨_,rfl,_,rfl,_,_,rfl,rfl,(Bd.small (by omega) (by omega)).dv (by omega),?_⟩
      refine⟨_,rfl,_,_,rfl,rfl,⟨rfl,m',v+1,?_,hm',?_⟩,?_⟩
      . show [j? (V.int ((p*m').fdiv p)),j? (V.int p),j? (V.int ((v:Int)+1))]=_
        rw[lI (show p≠0 by omega)]
        rfl
      . rw[hk,Yq];ac_rfl
      . show((p*m').fdiv p).natAbs<(p*m').natAbs
        rw[lI (show p≠0 by omega),Zq]
        have h2:2<=p.natAbs:=by omega
        have h3:0<m'.natAbs:=by omega
        calc m'.natAbs<2*m'.natAbs:=by omega
          _<=p.natAbs*m'.natAbs:=Yp _ h2
    . have c':¬ p ∣ m:=λz=>c (Jm (Jp V.int ((nv (by omega)).mpr z)))
      exact⟨_,rfl,q v (cG.of (by omega) hk c')⟩
  . rintro σ H Q Q' f ⟨v,e,v2,e2,i,j,e3,e4,c,s,k,ek,h⟩
    exact⟨v,e,v2,e2,i,j,e3,e4,c,s,k,ek,f _ _ h⟩
end
def Ey:Sp:=λvs H Q _=>∃p k:Nat,vs=[.int (p:Int),.int (k:Int)]/\2<=p/\p<64/\k<=60/\Q (.int ((p ^ k:Nat):Int)) H
theorem iX (c:Int){m:Nat}(h:0<m):∃k:Nat,k<m/\c.fmod (m:Int)=(k:Int):=by
 have h0:=Int.fmod_nonneg_of_pos c (show(0:Int)<(m:Int) by omega)
 have h1:=Int.fmod_lt_of_pos c (show(0:Int)<(m:Int) by omega)
 exact⟨(c.fmod (m:Int)).toNat,by omega,by omega⟩
def PT (p r N:Nat)(H:Hp)(Q:VK):Prop:=∀(f:List Int) (n:Nat) (i:Int) (t l:o?) (H':Hp),aI H H'->H' t=j? (.tup [.ref l,.int i])->H' l=j? (.lst (f.map V.int))->Pw r f n->1<=n->n<=N->FI (ao f) n p i->Q (.ref t) H'
theorem PT.on {p r N:Nat}{H H':Hp}{Q:VK}(h:PT p r N H Q)(g:aI H H'):PT p r N H' Q:=λf n i t l H2 g2=>h f n i t l H2 (g.trans g2)
theorem Na {p k m:Nat}(hp:p<64)(h:6*k<m):Bd m ((p ^ k:Nat):Int):=by
 show((p ^ k:Nat):Int).natAbs<_
 rw[W8];refine Wb (Z9 (show p<=2 ^ 6 by omega) k) ?_
 rw[<- Wu];exact Wp (by decide) h
theorem rep0 (n:Nat):(Yn n [V.int 0]).flatten=(Yn n (0:Int)).map V.int:=by
 induction n with
 | zero=>rfl
 | succ n ih=>rw[Z2,W0,ih,Z2];rfl
def qG (n:Nat)(c:Int):List Int:=[c]++Yn (n-1) 0++[1]
theorem K5 {n:Nat}{c:Int}(hn:1<=n):(qG n c).length=n+1/\L2.b7 (qG n c):=by
 have hl:(qG n c).length=n+1:=by
  unfold qG;rw[Yg,Yg,Ys];show 1+(n-1)+1=_
  omega
 refine⟨hl,(λz=>by rw[z] at hl;cases hl),?_⟩
 rw[hl];unfold qG ao;rw[Yb,Zh (by rw[Yg,Ys];show 1+_<=_;omega),Yg,Ys,show n+1-1-([c].length+(n-1))=0 by show n+1-1-(1+(n-1))=0;omega]
 rfl
theorem Nb {n:Nat}{c:Int}(hn:1<=n)(h8:n<=8)(hc:c.natAbs<=2 ^ 37):Pw 1 (qG n c) n:=by
 have hl:(qG n c).length=n+1:=by
  unfold qG;rw[Yg,Yg,Ys];show 1+(n-1)+1=_
  omega
 have top:ao (qG n c) n=1:=by
  unfold qG ao;rw[Yb,Zh (by rw[Yg,Ys];show 1+_<=_;omega),Yg,Ys,show n-([c].length+(n-1))=0 by show n-(1+(n-1))=0;omega]
  rfl
 refine Pw.of hl ⟨(λz=>by rw[z] at hl;cases hl),by rw[hl];exact top⟩ h8 λk hk=>?_
 have hk':(ao (qG n c) k).natAbs<=if k=0 then c.natAbs else 0:=by
  unfold qG ao;rw[Yb,Zd (by rw[Yg,Ys];show k<1+_;omega)]
  cases k with
  | zero=>exact Yd _
  | succ k=>
   rw[List.singleton_append,List.getElem?_cons_succ,Wr];split <;> simp
 have h1:2 ^ 40<=(2 ^ 40) ^ (n-k):=Nat.le_self_pow (by omega) _
 split at hk' <;> omega
def Oh:Sp:=λvs H Q _=>∃p n h u:Nat,vs=[.int (p:Int),.int (n:Int),.int (h:Int),.int (u:Int)]/\2<=p/\p<48/\1<=n/\n<=6/\h<=5/\p∈PR/\Nat.gcd h n=1/\1<=u/\u<p/\PT p 1 n H Q
section
theorem Ez (B:iY mg)(F:Src K mg "_law_power" t_ GY):b_ P w K mg base 1 "_law_power" GY Ey:=by
 refine F.ok mJ (λvs H Q E h=>?_) (λf cdv A outer s H vs Q E hr h=>?_)
 ·obtain⟨x,k,rfl,_⟩:=h;rfl
 obtain⟨p,k,rfl,h2,h64,h60,q⟩:=h;refine⟨_,ah (aD (i:=2) mJ.nd rfl (z? rfl) ak)
  (ah (cU D? rfl (bU rfl B.range (af (pv 1) ai)) (aE (i:=3) mJ.nd rfl (z? rfl))
   (ay (aD (i:=2) mJ.nd rfl (z? rfl) (au aV (pv 2) (pv 0)))))
  (ay (aL (pv 2)))),?_⟩
 refine⟨_,rfl,_,rfl,by omega,by omega,?_⟩
 rw[Yi];refine dO (λi σ H2=>H2=H/\∃(o:Option V),σ=[Iq (p),Iq (k),Iq ((p ^ i:Nat)),o]) ⟨rfl,_,rfl⟩ ?_ ?_
 ·rintro i σ H2 hi ⟨rfl,o,rfl⟩
  refine⟨_,rfl,_,rfl,_,_,rfl,rfl,j6 (by omega) (by omega),rfl,j? (.int (0+(i:Int))),?_⟩
  rw[Zu,Zl];rfl
 ·rintro σ H2 ⟨rfl,o,rfl⟩
  exact⟨_,rfl,q⟩
theorem yt (B:iY mg)(uq:b_ P w K mg base 1 "_law_power" GY Ey)(F:Src K mg "_law_ramified" jn J6):b_ P w K mg base 2 "_law_ramified" J6 Oh:=by
 refine F.ok pV (λvs H Q E h=>?_) (λf cdv A outer s H vs Q E hr h=>?_)
 ·obtain⟨p,n,h,u,rfl,_⟩:=h;rfl
 obtain⟨p,n,h,u,rfl,hp,hp2,hn,ZW,hh,pr,gc,u1,hu,q⟩:=h;refine⟨_,ah (aD (i:=4) pV.nd rfl (z? rfl) (aS (tR (K:=K) rfl rfl) rfl B.sum Dl (af (cA (aG (N:=["_law_d","_law_high","_law_n"]) (sl:=[q?,j? 2,j? 1]) (aq jn) XU rfl rfl (by decide +kernel)) rfl (bU rfl B.range (af (pv 1) ai)) (λ_ _ _ _ _=>(aE (i:=0) (Yk_ ["_law_d","_law_high","_law_n"]) rfl (z? rfl))) (λ_ _ _ _ _=>aU) (λ_ _ _ _ _=>(au bK (au aV (pv 0) (pv 1)) (pv 2)))) ai)))
  (ay (aL (jw (af (au i6 (au i6 (bI (af (au bY ak (au aV (pv 3) (aF uq hr (af (pv 0) (af (pv 2) ai))))) ai)) (au s_ (bI (af ak ai)) (au bY (pv 1) ak))) (bI (af ak ai))) (af (pv 4) ai))))),?_⟩
 refine⟨_,rfl,_,rfl,by omega,by omega,λD hD=>?_⟩
 rw[Yi];refine BV (λj=>.num (((0+(j:Int))*(h:Int)).fdiv (n:Int))) hD (by omega) (λj H2 Q2 hj g2 q2=>?_) λH2 g2 rr=>?_
 ·exact⟨_,rfl,_,rfl,_,_,rfl,rfl,gE (by omega) (by omega),_,rfl,_,_,rfl,rfl,(Bd.small (by omega) (by omega)).dv (by omega),q2 _ H2 (aI.refl _) (.num _)⟩
 obtain⟨lD,eD,Qv,_⟩:=eU (n:=n) (v:=λj=>((0+(j:Int))*(h:Int)).fdiv (n:Int)) rr
 cases eD;refine⟨D,_,rfl,aQ.of Qv,?_⟩
 refine⟨_,rfl,_,rfl,_,rfl,p,h,rfl,hp,by omega,by omega,?_⟩
 refine⟨_,_,rfl,rfl,gE (by omega) (by omega),_,_,rfl,rfl,a_ rfl,λp3 n3=>?_⟩
 generalize hH3:L2.upd H2 p3 _=H3;obtain⟨g3,e3⟩:=cC n3 hH3;clear hH3;refine⟨a_ rfl,λp4 n4=>?_⟩
 generalize hH4:L2.upd H3 p4 _=H4;obtain⟨g4,e4⟩:=cC n4 hH4;clear hH4;refine⟨_,rfl,_,_,rfl,rfl,p4,((n-1:Nat):Int),_,rfl,Jp V.int (by omega),e4,by omega,by omega,by rw[C?,Yi];show 1*_<=_;omega,λp5 n5=>?_⟩
 rw[Yi,rep0];generalize hH5:L2.upd H4 p5 _=H5;obtain⟨g5,e5⟩:=cC n5 hH5;clear hH5;refine⟨p3,p5,_,_,rfl,rfl,g5 _ _ (g4 _ _ e3),e5,by rw[C?,Ya,Ys];show 1+_<=_;omega,λp6 n6=>?_⟩
 generalize hH6:L2.upd H5 p6 _=H6;obtain⟨g6,e6⟩:=cC n6 hH6;clear hH6;refine⟨a_ rfl,λp7 n7=>?_⟩
 generalize hH7:L2.upd H6 p7 _=H7;obtain⟨g7,e7⟩:=cC n7 hH7;clear hH7;refine⟨p6,p7,_,_,rfl,rfl,g7 _ _ e6,e7,by rw[C?,Yg,Ya,Ys];show 1+_+1<=_;omega,λp8 n8=>?_⟩
 generalize hH8:L2.upd H7 p8 _=H8;obtain⟨g8,e8⟩:=cC n8 hH8;clear hH8;refine⟨_,rfl,a_ rfl,λp9 n9=>?_⟩
 generalize hH9:L2.upd H8 p9 _=H9;obtain⟨g9,e9⟩:=cC n9 hH9;clear hH9;refine q (qG n (0-(u:Int)*((p ^ h:Nat):Int))) n _ p9 p8 H9 (((((((g2.trans g3).trans g4).trans g5).trans g6).trans g7).trans g8).trans g9) e9 ?_ (Nb hn (by omega) ?_) hn (Yd _) ?_
 ·rw[g9 _ _ e8]
  unfold qG;rw[Yz,Yz];rfl
 ·have h1:p ^ h<=47 ^ 5:=Ym (Z9 (by omega) h) (Y2 (by decide) hh)
  have h2:u*p ^ h<=47*47 ^ 5:=Zy (by omega) h1
  rw[<- Zl];omega
 ·have ev:(λj:Nat=>((0+(j:Int))*(h:Int)).fdiv (n:Int))=λj=>((j*h / n:Nat):Int):=funext λj=>by
   rw[Z5,<- Zl,Zs _ (by omega),Int.natCast_ediv]
  rw[ev,AE];refine FI.Vq pr hn ?_ rfl (λj h0 h1=>?_) gc u1 hu
  ·have:=K5 (n:=n) (c:=0-(u:Int)*((p ^ h:Nat):Int)) hn
   exact topC this.1 this.2
  ·unfold qG ao
   rw[Yb,Zd (by rw[Yg,Ys];show j<1+_;omega)]
   obtain⟨k,rfl⟩:∃k,j=k+1:=⟨j-1,by omega⟩
   rw[List.singleton_append,List.getElem?_cons_succ,Wr];split <;> rfl
end
def Oi:Sp:=λvs H Q _=>∃(p:Nat) (r:Int) (m:Nat),vs=[.int (p:Int),.int r,.int (m:Int)]/\2<=p/\p<48/\1<=m/\m<=6/\p∈PR/\PT p 1 m H Q
theorem K6 {zs:List Int}{j:Nat}(h:j<zs.length):ao zs j∈zs:=by
 unfold ao;rw[Yb,Yc h];exact Y0 h
theorem Gh {x:Int}{zs:List Int}:QI (V.int x) (zs.map V.int)=true↔x∈zs:=by
 unfold QI;rw[List.any_eq_true];constructor
 ·rintro⟨y,hy,e⟩
  obtain⟨z,hz,rfl⟩:=List.mem_map.mp hy;have e:(z == x)=true:=e;rw[beq_iff_eq.mp e] at hz;exact hz
 ·exact λh=>⟨_,List.mem_map.mpr ⟨x,h,rfl⟩,by show(x == x)=true;exact beq_self_eq_true _⟩
theorem sI {a b A C:Int}(h0:0<=a)(h1:a<=A)(k0:0<=b)(k1:b<=C):0<=a*b/\a*b<=A*C:=⟨Ja h0 k0,Int.mul_le_mul h1 k1 k0 (by omega)⟩
theorem Hr (zs:List Int):(zs.map V.int).all q8=true:=by
 rw[Wi];intro v hv;obtain⟨z,_,rfl⟩:=List.mem_map.mp hv;rfl
section
theorem EA (B:iY mg)(kX:b_ P w K mg base 2 "_law_times" u9 (sH K))(kY:b_ P w K mg base 1 "_law_size" D6 Gg)(F:Src K mg "_law_zeros" ua J9):b_ P w K mg base 3 "_law_zeros" J9 Oi:=by
 refine F.ok cS (λvs H Q E h=>?_) (λf cdv A outer s H vs Q E hr h=>?_)
 ·obtain⟨p,r,m,rfl,_⟩:=h;rfl
 obtain⟨p,r,m,rfl,hp,hp2,hm,hm6,pr,q⟩:=h;refine⟨_,ah (aD (i:=3) cS.nd rfl (z? rfl) (bI ai))
  (ah (aD (i:=4) cS.nd rfl (z? rfl) (bI (af ak ai)))
  (ah (cU D? rfl (bU rfl B.range (af (pv 2) ai)) (aE (i:=5) cS.nd rfl (z? rfl))
   (ah (aD (i:=6) cS.nd rfl (z? rfl) (au b8 (au aV (pv 5) (pv 0)) (au aV (au bw (pv 1) (pv 0)) (bL (aJ (K:=K) rfl) (bI (af ak (af (pv 0) (af (au aV (pv 0) (pv 0)) (af (pv 0) ai))))) (au bw (au bK (pv 1) (pv 0)) ak) (λ_ _=>rfl)))))
   (ah (eT (aX iP (au bw (au bK (au bK (pv 1) (pv 0)) ak) ak) ak (bC _))
    (ay (aD (i:=6) cS.nd rfl (z? rfl) (au b8 (pv 6) (au aV (au aV (au aV (pv 0) (pv 0)) (pv 0)) (pv 5)))))
    (cD))
   (ah (eV D? (aX (Ib (K:=K) rfl) (pv 6) (pv 3) (by with_unfolding_all rfl))
    (ay (aD (i:=6) cS.nd rfl (z? rfl) (au b8 (pv 6) ak))))
   (ah (fH (q9 R? F! G! eB (pv 3) (af (pv 6) ai)))
   (ah (aD (i:=1) cS.nd rfl (z? rfl) (au bK (au bK (pv 1) (pv 0)) ak))
   (ay (aD (i:=4) cS.nd rfl (z? rfl) (aF kX hr (af (pv 4) (af (bI (af (au bY ak (pv 6)) (af ak ai))) ai)))))))))))
  (ah (aD (i:=7) cS.nd rfl (z? rfl) ak)
  (ah (cU D? rfl (bU rfl B.range (af (pv 2) ai)) (aE (i:=8) cS.nd rfl (z? rfl))
   (ay (cU D? rfl (yG rfl B.range (af (au b8 (pv 8) ak) (af (pv 2) ai))) (aE (i:=9) cS.nd rfl (z? rfl))
    (ay (aD (i:=7) cS.nd rfl (z? rfl) (au b8 (pv 7) (aF kY hr (af (au bY (bL (aJ (K:=K) rfl) (pv 3) (pv 8) (λ_ _=>rfl)) (bL (aJ (K:=K) rfl) (pv 3) (pv 9) (λ_ _=>rfl))) (af (pv 0) ai)))))))))
  (ay (aL (jw (af (pv 4) (af (pv 7) ai))))))))),?_⟩
 refine⟨a_ rfl,λp1 n1=>?_⟩
 generalize hH1:L2.upd H p1 _=H1;obtain⟨g1,e1⟩:=cC n1 hH1;clear hH1;refine⟨a_ rfl,λp2 n2=>?_⟩
 generalize hH2:L2.upd H1 p2 _=H2;obtain⟨g2,e2⟩:=cC n2 hH2;clear hH2;refine⟨_,rfl,_,rfl,by omega,by omega,?_⟩
 rw[Yi];have WD:p2≠p1:=λz=>by rw[z,e1] at n2;cases n2
 refine dO (λi σ H3=>aI H H3/\∃(zs f:List Int) (fl:o?) (r':Int) (o5 o6 o7 o8 o9:Option V),σ=[Iq (p),j? (.int r'),Iq (m),Rq p1,Rq fl,o5,o6,o7,o8,o9]/\H3 p1=j? (.lst (zs.map V.int))/\H3 fl=j? (.lst (f.map V.int))/\fl≠p1/\Pw 1 f i/\zs.length=i/\(∀z∈zs,L2.ev f z=0)/\zs.Nodup/\∀z∈zs,0<=z/\z<2 ^ 20+(i:Int))
  ⟨g1.trans g2,[],[1],p2,_,_,_,_,_,_,rfl,g2 _ _ e1,e2,WD,Pw.one,rfl,(λz hz=>by cases hz),List.nodup_nil,λz hz=>by cases hz⟩ ?_ ?_
 ·clear g1 g2 e1 e2 WD n2
  rintro i σ H3 hi ⟨g3,zs,f,fl,r',o5,o6,o7,o8,o9,rfl,ez,ef,ne,pw,lz,zv,nd,bz⟩;have hpp:=sI (a:=(p:Int)) (b:=(p:Int)) (A:=47) (C:=47) (by omega) (by omega) (by omega) (by omega)
  have Tc:=sI (a:=(p:Int)*(p:Int)) (b:=(p:Int)) (A:=47*47) (C:=47) hpp.1 hpp.2 (by omega) (by omega)
  have hkp:=sI (a:=(0:Int)+(i:Int)) (b:=(p:Int)) (A:=5) (C:=47) (by omega) (by omega) (by omega) (by omega)
  have acw:=sI (a:=(p:Int)*(p:Int)*(p:Int)) (b:=(0:Int)+(i:Int)) (A:=47*47*47) (C:=5) Tc.1 Tc.2 (by omega) (by omega)
  have rp:=gm r' (y:=(p:Int)) (by omega)
  refine uP (λx:Int=>[Iq (p),j? (.int r'),Iq (m),Rq p1,Rq fl,j? (.int (0+(i:Int))),j? (.int x),o7,o8,o9]) (λx H4=>aI H H4/\H4 p1=j? (.lst (zs.map V.int))/\H4 fl=j? (.lst (f.map V.int))/\0<=x/\x<=101849) (λC key=>?_) ?_
  ·refine⟨_,rfl,_,rfl,_,_,rfl,rfl,gE (by omega) (by omega),_,rfl,_,rfl,_,_,rfl,rfl,(show(p:Int)≠0 by omega),_,rfl,_,rfl,_,rfl,_,_,rfl,rfl,gE (by omega) (by omega),_,rfl,a_ rfl,λp4 n4=>?_⟩
   generalize hH4:L2.upd H3 p4 _=H4;obtain⟨g4,e4⟩:=cC n4 hH4;clear hH4;have r4:=gm (r'.fdiv (p:Int)) (y:=4) (by decide)
   obtain⟨x,hx,x0,x1⟩:=pick (xs:=[V.int 1,.int (p:Int),.int ((p:Int)*(p:Int)),.int (p:Int)]) (P:=λn=>0<=n/\n<=2209) r4.1 r4.2 (by
    intro v hv;simp only[Wz,Wc,or_false] at hv
    rcases hv with rfl|rfl|rfl|rfl
    ·exact⟨_,rfl,by decide,by decide⟩
    ·exact⟨_,rfl,by omega,by omega⟩
    ·exact⟨_,rfl,by omega,by omega⟩
    ·exact⟨_,rfl,by omega,by omega⟩)
   refine⟨_,rfl,_,rfl,_,_,rfl,rfl,(Bd.small (by omega) (by omega)).dv (by omega),_,_,rfl,rfl,(show(4:Int)≠0 by decide),p4,_,_,_,rfl,rfl,aQ.of e4,hx,_,_,rfl,rfl,j6 (by omega) (by omega),_,_,rfl,rfl,?_⟩
   have hrx:=sI (a:=r'.fmod (p:Int)) (b:=x) (A:=46) (C:=2209) rp.1 (by omega) x0 x1
   exact key _ H4 ⟨g3.trans g4,g4 _ _ ez,g4 _ _ ef,by omega,by omega⟩
  clear g3 ez ef H3;rintro x H3 ⟨g3,ez,ef,x0,x1⟩;refine uP (λx:Int=>[Iq (p),j? (.int r'),Iq (m),Rq p1,Rq fl,j? (.int (0+(i:Int))),j? (.int x),o7,o8,o9]) (λx H4=>H4=H3/\0<=x/\x<2 ^ 20) (λC key=>?_) ?_
  ·refine⟨_,rfl,_,rfl,_,_,rfl,rfl,(Bd.small (by omega) (by omega)).dv (by omega),_,_,rfl,rfl,(Bd.small (by decide) (by decide)).dv (by decide),_,_,rfl,rfl,(show(2:Int)≠0 by decide),rfl,_,rfl,fV (λc1=>?_) (λc1=>key x H3 ⟨rfl,x0,by omega⟩)⟩
   refine⟨_,rfl,_,rfl,_,rfl,_,_,rfl,rfl,gE (by omega) (by omega),_,rfl,_,_,rfl,rfl,j6 (by omega) (by omega),_,rfl,_,_,rfl,rfl,j6 (by omega) (by omega),_,_,rfl,rfl,?_⟩
   exact key _ H3 ⟨rfl,by omega,by omega⟩
  clear x0 x1 x;rintro x H4 ⟨rfl,x0,x1⟩;refine uP (λx:Int=>[Iq (p),j? (.int r'),Iq (m),Rq p1,Rq fl,j? (.int (0+(i:Int))),j? (.int x),o7,o8,o9]) (λx H5=>H5=H4/\0<=x/\x<2 ^ 20+(i:Int)+1/\x ∉ zs) (λC key=>?_) ?_
  ·refine ni (λσ H5=>H5=H4/\∃x:Int,σ=[Iq (p),j? (.int r'),Iq (m),Rq p1,Rq fl,j? (.int (0+(i:Int))),j? (.int x),o7,o8,o9]/\0<=x/\x<2 ^ 20+(i:Int)+1) (λσ _=>match σ with | [_,_,_,_,_,_,j? (.int x),_,_,_]=>(2 ^ 20+(i:Int)+1-x).toNat|_=>0) ⟨rfl,x,rfl,x0,by omega⟩ ?_ ?_
   ·rintro σ H5 ⟨rfl,y,rfl,y0,y1⟩
    refine⟨_,rfl,_,rfl,p1,_,rfl,.inl (aQ.of ez),rfl,Hr zs,_,rfl,fV (λc=>?_) (λc=>?_)⟩
    ·have hy:=bz y (Gh.mp c)
     refine⟨_,rfl,_,_,rfl,rfl,⟨rfl,y+1,rfl,by omega,by omega⟩,?_⟩
     show(2 ^ 20+(i:Int)+1-(y+1)).toNat<(2 ^ 20+(i:Int)+1-y).toNat
     omega
    ·exact key y _ ⟨rfl,y0,y1,λz=>c (Gh.mpr z)⟩
   ·rintro σ H Q Q' f ⟨v,e,v2,e2,p,xs,e3,e4,e5,e6,k,ek,h⟩
    exact⟨v,e,v2,e2,p,xs,e3,e4,e5,e6,k,ek,f _ _ h⟩
  clear x0 x1 x;rintro x H5 ⟨rfl,x0,x1,xn⟩;refine⟨_,rfl,.inl ⟨rfl,_,aQ.of ez⟩,_,rfl,p1,_,_,rfl,rfl,ez,by rw[Ya,lz,C?];omega,?_⟩
  generalize hH6:L2.upd H5 p1 _=H6;have e6:H6 p1=j? (.lst ((zs++[x]).map V.int)):=by rw[<- hH6,av,Yz];rfl
  have ef6:H6 fl=j? (.lst (f.map V.int)):=by rw[<- hH6,aN ne];exact ef
  have g6:aI H H6:=by rw[<- hH6];exact g3.bE n1 _
  clear hH6;refine⟨_,rfl,_,rfl,_,_,rfl,rfl,(Bd.small (by omega) (by omega)).dv (by omega),_,_,rfl,rfl,(Bd.small (by decide) (by decide)).dv (by decide),?_⟩
  refine⟨_,rfl,_,rfl,_,_,rfl,rfl,a_ rfl,λp7 n7=>?_⟩
  generalize hH7:L2.upd H6 p7 _=H7;obtain⟨g7,e7⟩:=cC n7 hH7;clear hH7;have pl:Pw 1 [0-x,1] 1:=Pw.gT (by omega)
  refine⟨fl,p7,f,[0-x,1],rfl,aQ.of (g7 _ _ ef6),aQ.of e7,by rw[pw.len];omega,(by show 2<=400;decide),pw.Ft.mono (by omega),pl.Ft.mono (by decide),λl8 H8 g8 n8 e8=>?_⟩
  refine⟨(g6.trans g7).trans g8,zs++[x],_,l8,_,_,_,_,_,_,rfl,g8 _ _ (g7 _ _ e6),e8,(λz=>by rw[z,g7 _ _ e6] at n8;cases n8),pw.mul pl,by rw[Yg,lz];rfl,λz hz=>?_,?_,λz hz=>?_⟩
  ·rw[L_,Ma,show [0-x,1]=[-x,1] by rw[Int.zero_sub],O9]
   rcases List.mem_append.mp hz with h|h
   ·rw[zv z h,Y4]
   ·rw[List.mem_singleton] at h
    rw[h,show x+-x=0 by omega,Yr]
  ·rw[List.nodup_append]
   refine⟨nd,List.nodup_cons.mpr ⟨Wc,List.nodup_nil⟩,λa ha b hb e=>?_⟩
   rw[List.mem_singleton] at hb;rw[e,hb] at ha;exact xn ha
  ·rcases List.mem_append.mp hz with h|h
   ·have:=bz z h;omega
   ·rw[List.mem_singleton] at h;omega
 ·clear g1 g2 e1 e2 WD n2 n1
  rintro σ H3 ⟨g3,zs,f,fl,r',o5,o6,o7,o8,o9,rfl,ez,ef,ne,pw,lz,zv,nd,bz⟩;refine⟨_,rfl,_,rfl,by omega,by omega,?_⟩
  rw[Yi];have eu:∀x y:Int,(p:Int) ∣ x*y->(p:Int) ∣ x\/(p:Int) ∣ y:=λx y=>tS pr
  refine dO (λi σ H4=>H4=H3/\∃(x:Nat) (o8 o9:Option V),σ=[Iq (p),j? (.int r'),Iq (m),Rq p1,Rq fl,o5,o6,Iq (x),o8,o9]/\cG (p:Int) (dM i λa=>dM (m-1-a) λb=>ao zs a-ao zs (a+1+b)) x) ⟨rfl,0,_,_,rfl,cG.of (m:=1) (by omega) rfl (mh pr)⟩ ?_ ?_
  ·rintro i σ H4 hi ⟨rfl,x,o8,o9,rfl,vx⟩
   refine⟨_,rfl,_,_,rfl,rfl,_,rfl,_,_,rfl,⟨by omega,by omega,by omega,by omega⟩,?_⟩
   refine dO (λj σ H5=>H5=H4/\∃(x:Nat) (o9:Option V),σ=[Iq (p),j? (.int r'),Iq (m),Rq p1,Rq fl,o5,o6,Iq (x),j? (.int (0+(i:Int))),o9]/\cG (p:Int) ((dM i λa=>dM (m-1-a) λb=>ao zs a-ao zs (a+1+b))*dM j λb=>ao zs i-ao zs (i+1+b)) x) ⟨rfl,x,_,rfl,by show cG _ (_*1) _;rw[Zx];exact vx⟩ ?_ ?_
   ·rintro j σ H5 hj ⟨rfl,x,o9,rfl,vx⟩
    have hij:i+1+j<m:=by omega
    have a1:=fL (ns:=zs) (i:=0+(i:Int)) (by omega) (by omega)
    have a2:=fL (ns:=zs) (i:=0+(i:Int)+1+(j:Int)) (by omega) (by omega)
    refine⟨_,rfl,_,rfl,_,rfl,p1,_,_,_,rfl,rfl,aQ.of ez,a1,_,rfl,_,rfl,p1,_,_,_,rfl,rfl,aQ.of ez,a2,_,_,rfl,rfl,_,rfl,_,_,rfl,?_,by omega,by omega,λv hv=>⟨_,_,rfl,rfl,rfl,x+v,_,rfl,?_⟩⟩
    rotate_left
    ·rw[show((0:Int)+(i:Int)).toNat=i by omega,show((0:Int)+(i:Int)+1+(j:Int)).toNat=i+1+j by omega] at hv
     have:=cG.mul (by omega) eu vx hv
     rw[Zv] at this;exact this
    intro z;have hne:=(List.nodup_iff_pairwise_ne.mp nd);rw[show((0:Int)+(i:Int)).toNat=i by omega,show((0:Int)+(i:Int)+1+(j:Int)).toNat=i+1+j by omega] at z
    have:=List.pairwise_iff_getElem.mp hne i (i+1+j) (by omega) (by omega) (by omega)
    unfold ao at z;rw[Yb,Yb,Yc (by omega),Yc (by omega)] at z
    exact this (by simpa using Int.sub_eq_zero.mp z)
   ·rintro σ H5 ⟨rfl,x,o9,rfl,vx⟩
    refine⟨rfl,x,_,_,rfl,?_⟩
    rw[show((m:Int)-(0+(i:Int)+1)).toNat=m-1-i by omega] at vx
    exact vx
  ·rintro σ H4 ⟨rfl,x,o8,o9,rfl,vx⟩
   refine⟨_,rfl,_,rfl,a_ rfl,λp5 n5=>?_⟩
   generalize hH5:L2.upd H4 p5 _=H5;obtain⟨g5,e5⟩:=cC n5 hH5;exact q f m x p5 fl H5 (g3.trans g5) e5 (g5 _ _ ef) pw hm (Yd _) (FI.zeros pr hm pw.len pw.top (λj hj=>zv _ (K6 (by omega))) vx)
end
def Oj (K:bX):Sp:=λvs H Q _=>∃(p n h:Nat) (a:o?) (g:List Int),vs=[.int (p:Int),.ref a,.int (h:Int)]/\H a=j? (.lst (g.map V.int))/\g.length=n+1/\L2.b7 g/\gR 5 g/\2<=p/\p<48/\1<=n/\n<=6/\h<=2/\p∈PR/\(∀(t:Top (ao g) n) (hn:1<=n),F1 (jE t hn) p)/\PT p 1 n H Q
theorem Qy {p n h:Nat}{g:List Int}(lg:g.length=n+1)(mg:L2.b7 g)(bg:gR 5 g)(hp:p<48)(hn:n<=6)(hh:h<=2):Pw 1 (lv (n+1) λk=>ao g k*((p ^ (h*(n-k)):Nat):Int)) n:=by
 have top:ao g n=1:=(topC lg mg).one;have hl:(lv (n+1) λk=>ao g k*((p ^ (h*(n-k)):Nat):Int)).length=n+1:=bW _ _
 refine Pw.of hl ⟨(λz=>by rw[z] at hl;cases hl),by rw[hl];show ao _ n=1;rw[lY,Jl (by omega),top,W4,Wn];rfl⟩ (by omega) λk hk=>?_
 rw[lY,Jl (by omega),Zq,W8]
 have h1:(ao g k).natAbs<=2 ^ 5:=W9 (bg.ao k);have h2:p ^ (h*(n-k))<=(2 ^ 6) ^ (2*(n-k)):=Ym (Z9 (by omega) _) (Y2 (by decide) (Yp _ hh))
 have h3:=Zy h1 h2;have h4:8*(2 ^ 5*(2 ^ 6) ^ (2*(n-k)))<=(2 ^ 40) ^ (n-k):=by
  rw[<- Wu,<- Wu,<- Z0,show 8=2 ^ 3 by decide,<- Z0]
  exact Y2 (by decide) (by omega)
 omega
section
theorem xP (B:iY mg)(uq:b_ P w K mg base 1 "_law_power" GY Ey)(F:Src K mg "_law_stretched" iN J_):b_ P w K mg base 2 "_law_stretched" J_ (Oj K):=by
 refine F.ok nY (λvs H Q E h=>?_) (λf cdv A outer s H vs Q E hr h=>?_)
 ·obtain⟨p,n,h,a,g,rfl,_⟩:=h;rfl
 obtain⟨p,n,h,a,g,rfl,ha,lg,mon,bg,hp,hp2,hn,ZW,hh,pr,rd,q⟩:=h;refine⟨_,ah (aD (i:=3) nY.nd rfl (Or.inr rfl) (au bY (aS (aT (K:=K) rfl) rfl B.len cB (af (pv 1) ai)) ak))
  (ay (aL (jw (af (cA (aG (N:=["_law_k","_law_g","_law_p","_law_high","_law_n"]) (sl:=[q?,j? 1,j? 0,j? 2,j? 3]) (aq iN) ["_law_p","_law_g","_law_high","_law_n"] rfl rfl (by decide +kernel)) rfl (bU rfl B.range (af (au b8 (pv 3) ak) ai)) (λ_ _ _ _ _=>(aE (i:=0) (Yk_ ["_law_k","_law_g","_law_p","_law_high","_law_n"]) rfl (z? rfl))) (λ_ _ _ _ _=>aU) (λ_ _ _ _ _=>(au aV (bL (aJ (K:=K) rfl) (pv 1) (pv 0) (λ_ _=>rfl)) (aF uq hr (af (pv 2) (af (au aV (pv 3) (au bY (pv 4) (pv 0))) ai)))))) (af (au bK (au aV (au aV (pv 2) (pv 3)) (au bY (pv 3) ak)) ak) ai))))),?_⟩
 have hl:(g.map V.int).length=n+1:=by rw[Ya,lg]
 refine⟨_,rfl,a,_,rfl,.inl (aQ.of ha),_,_,rfl,rfl,?_⟩
 show iO 3 (V.int (((g.map V.int).length:Int)-1)) _ _ _
 rw[hl,show(((n+1:Nat):Int)-1)=(n:Int) by omega]
 refine⟨_,rfl,_,_,rfl,rfl,((n+1:Nat):Int),rfl,by omega,by omega,λD hD=>?_⟩
 rw[Yi];refine BV (λj=>.num (ao g j*((p ^ (h*(n-j)):Nat):Int))) hD (by omega) (λj H2 Q2 hj g2 q2=>?_) λH2 g2 rr=>?_
 ·have a1:=fL (ns:=g) (i:=0+(j:Int)) (by omega) (by omega)
  have ZD:(h:Int)*((n:Int)-(0+(j:Int)))=((h*(n-j):Nat):Int):=by rw[Zl,show(n:Int)-(0+(j:Int))=((n-j:Nat):Int) by omega]
  have hle:h*(n-j)<=2*6:=Zy hh (by omega)
  rw[show((0:Int)+(j:Int)).toNat=j by omega] at a1
  refine⟨_,rfl,_,rfl,a,_,_,_,rfl,rfl,aQ.of (g2 _ _ ha),a1,_,rfl,_,rfl,_,rfl,_,rfl,_,_,rfl,rfl,_,_,rfl,rfl,gE (by omega) (by omega),p,h*(n-j),Jp (λz=>[V.int (p:Int),V.int z]) ZD,hp,by omega,by omega,?_⟩
  refine⟨_,_,rfl,rfl,Bd.ok (bg.ao j) (Na (m:=100) (by omega) (by omega)),q2 _ H2 (aI.refl _) (.num _)⟩
 obtain⟨lD,eD,Qv,_⟩:=eU (n:=n+1) (v:=λk=>ao g k*((p ^ (h*(n-k)):Nat):Int)) rr
 cases eD;refine⟨_,rfl,_,rfl,_,_,rfl,rfl,gE (by omega) (by omega),_,rfl,_,_,rfl,rfl,_,_,rfl,rfl,j6 (by omega) (by omega),_,_,rfl,rfl,(Bd.small (by decide) (by decide)).dv (by decide),a_ rfl,λp5 n5=>?_⟩
 generalize hH5:L2.upd H2 p5 _=H5;obtain⟨g5,e5⟩:=cC n5 hH5;have ZX:=Qy lg mon bg hp2 ZW hh;refine q _ n _ p5 D H5 (g2.trans g5) e5 (g5 _ _ Qv) ZX hn (Yd _) ?_
 have eh:((h:Int)*(n:Int)*((n:Int)-1)).fdiv 2=(tot n (λi=>h*i):Nat):=by
  rw[show(h:Int)*(n:Int)*((n:Int)-1)=((2*tot n (λi=>h*i):Nat):Int) by rw[B6,Zl,Zl,Int.natCast_sub hn];rfl,Zl]
  exact Int.mul_fdiv_cancel_left _ (by decide)
 rw[eh];exact FI.Ay pr hn ZX.top (topC lg mon) (λk hk=>by rw[lY,Jl (by omega)]) (rd _ _)
end
theorem vL {f:List Int}{n:Nat}(h:Pw 3 f n)(hn1:1<=n)(hn:n<=6):xJ f:=by
 have en:f.length-1=n:=by rw[h.len];omega
 refine⟨h.Ft.mono (by omega),1100,by decide,by rw[en];omega,λi j hi=>?_⟩
 rw[en] at hi ⊢;exact h.Su hn1 hn (by rw[qB,en];omega) (h.Vw hn) (vI h.top hn1 λm hm=>bD hm) i j hi
def Gi:Sp:=λvs H Q _=>∃(p:Nat) (c:Int) (m:Nat),vs=[.int (p:Int),.int c,.int (m:Int)]/\2<=p/\p<48/\1<=m/\m<=6/\p∈PR/\PT p 1 m H Q
theorem PT.le {p r N M:Nat}{H:Hp}{Q:VK}(h:PT p r N H Q)(hM:M<=N):PT p r M H Q:=λf n i t l H' a b c d e g=>h f n i t l H' a b c d e (Ym g hM)
section
theorem EB (B:iY mg)(EC:b_ P w K mg base 1 "_law_common" G0 Og)(A5:b_ P w K mg base 2 "_law_ramified" J6 Oh)(zq:b_ P w K mg base 3 "_law_zeros" J9 Oi)(K7:b_ P w K mg base 2 "_law_poly" J7 Gf)(fG:b_ P w K mg base 4 "discriminant" ["f"] (AS K))(yu:b_ P w K mg base 2 "_law_stretched" J_ (Oj K))(F:Src K mg "_law_piece" uc J8):b_ P w K mg base 5 "_law_piece" J8 Gi:=by
 refine F.ok fF (λvs H Q E h=>?_) (λf cdv A outer s H vs Q E hr h=>?_)
 ·obtain⟨p,c,m,rfl,_⟩:=h;rfl
 obtain⟨p,c,m,rfl,hp,hp2,hm,hm6,pr,q⟩:=h;refine⟨_,ah (aD (i:=3) fF.nd rfl (z? rfl) (au b8 ak (au bw (au bK (pv 1) ak) (pv 2))))
  (ah (aD (i:=4) fF.nd rfl (z? rfl) (au bK (pv 1) ak))
  (ah (eT (aX iP (au bw (pv 1) ak) ak (bC _))
   (ah (aD (i:=5) fF.nd rfl (z? rfl) (bL (aJ (K:=K) rfl) (bI (af ak (af ak (af ak (af ak (af ak (af ak ai))))))) (au bw (pv 4) ak) (λ_ _=>rfl)))
   (ah (aD (i:=6) fF.nd rfl (z? rfl) (au b8 ak (au bw (au bK (pv 4) ak) (au bY (pv 0) ak))))
   (ah (eV D? (aX yI (aF EC hr (af (pv 5) (af (pv 3) ai))) ak (bC _))
    (ay (aD (i:=5) fF.nd rfl (z? rfl) (au bY (pv 5) ak))))
   (ay (aL (aF A5 hr (af (pv 0) (af (pv 3) (af (pv 5) (af (pv 6) ai))))))))))
   (cD))
  (ah (eT (aX iP (au bw (pv 1) ak) ak (bC _))
   (ay (aL (aF zq hr (af (pv 0) (af (pv 4) (af (pv 3) ai))))))
   (cD))
  (ah (aD (i:=7) fF.nd rfl (z? rfl) (fU (fX (K:=K) rfl) (aF K7 hr (af (pv 4) (af (au bY (pv 3) ak) (af ak ai)))) iC (iD (pv 3))))
  (ah (aD (i:=7) fF.nd rfl (z? rfl) (au i6 (au i6 (pv 7) (au s_ (bI (af ak ai)) (au bY (pv 3) (aS (aT (K:=K) rfl) rfl B.len cB (af (pv 7) ai))))) (bI (af ak ai))))
  (ah (eT (aX iP (au bw (aF fG hr (af (pv 7) ai)) (pv 0)) ak (bC _))
   (ay (aL (aF zq hr (af (pv 0) (af (pv 4) (af (pv 3) ai))))))
   (cD))
  (ay (aL (aF yu hr (af (pv 0) (af (pv 7) (af (bL (aJ (K:=K) rfl) (bI (af ak (af ak (af ak (af ak ai))))) (au bw (au bK (pv 4) (au zG ak ak)) ak) (λ_ _=>rfl)) ai)))))))))))),?_⟩
 obtain⟨k,hk,ek⟩:=iX (c.fdiv 8) (show 0<m by omega)
 refine⟨_,rfl,_,_,rfl,rfl,(Bd.small (by decide) (by decide)).dv (by decide),_,rfl,_,_,rfl,rfl,(show(m:Int)≠0 by omega),_,_,rfl,rfl,?_⟩
 show iO 3 (V.int (1+(c.fdiv 8).fmod (m:Int))) _ _ _
 rw[ek,show(1:Int)+(k:Int)=((1+k:Nat):Int) by omega]
 obtain⟨n,hn⟩:∃n,n=1+k:=⟨_,rfl⟩;rw[<- hn];have n1:1<=n:=by omega
 have nm:n<=m:=by omega
 clear hn ek;refine⟨_,rfl,_,_,rfl,rfl,(Bd.small (by decide) (by decide)).dv (by decide),?_⟩
 show iO 4 (V.int (c.fdiv 64)) _ _ _
 generalize c.fdiv 64=r;refine⟨_,rfl,_,_,rfl,rfl,(show(3:Int)≠0 by decide),rfl,_,rfl,fV (λc1=>?_) (λc1=>?_)⟩
 ·refine⟨a_ rfl,λp1 vM=>?_⟩
  generalize hH1:L2.upd H p1 _=H1;obtain⟨g1,e1⟩:=cC vM hH1;clear hH1;obtain⟨h0,hh0,h01,h05⟩:∃h:Nat,qZ [V.int 1,.int 2,.int 3,.int 5,.int 1,.int 4] (r.fmod 6)=j? (.int (h:Int))/\1<=h/\h<=5:=by
   obtain⟨k,hk,ek⟩:=iX r (show 0<6 by decide)
   rw[show r.fmod 6=(k:Int) from ek]
   match k,hk with
   | 0,_=>exact⟨1,rfl,by decide,by decide⟩
   | 1,_=>exact⟨2,rfl,by decide,by decide⟩
   | 2,_=>exact⟨3,rfl,by decide,by decide⟩
   | 3,_=>exact⟨5,rfl,by decide,by decide⟩
   | 4,_=>exact⟨1,rfl,by decide,by decide⟩
   | 5,_=>exact⟨4,rfl,by decide,by decide⟩
  refine⟨_,rfl,_,_,rfl,rfl,(show(6:Int)≠0 by decide),p1,_,_,_,rfl,rfl,aQ.of e1,hh0,?_⟩
  obtain⟨u,hu,eu⟩:=iX (r.fdiv 6) (show 0<p-1 by omega)
  rw[show((p-1:Nat):Int)=(p:Int)-1 by omega] at eu
  refine⟨_,rfl,_,_,rfl,rfl,(Bd.small (by decide) (by decide)).dv (by decide),_,rfl,_,_,rfl,rfl,_,_,rfl,rfl,(show(p:Int)-1≠0 by omega),_,_,rfl,rfl,?_⟩
  show iO 6 (V.int (1+(r.fdiv 6).fmod ((p:Int)-1))) _ _ _
  rw[eu,show(1:Int)+(u:Int)=((1+u:Nat):Int) by omega]
  show Ends.nx _ (List.set _ _ _) _
  dsimp only
  refine uP (λh:Nat=>[Iq (p),j? (.int c),Iq (m),Iq (n),j? (.int r),Iq (h),Iq ((1+u:Nat)),q?]) (λh H2=>H2=H1/\h<=5/\Nat.gcd h n=1) (λC key=>?_) ?_
  ·refine ni (λσ H2=>H2=H1/\∃h:Nat,σ=[Iq (p),j? (.int c),Iq (m),Iq (n),j? (.int r),Iq (h),Iq ((1+u:Nat)),q?]/\1<=h/\h<=5) (λσ _=>match σ with | [_,_,_,_,_,j? (.int h),_,_]=>h.toNat|_=>0) ⟨rfl,h0,rfl,h01,h05⟩ ?_ ?_
   ·rintro σ H2 ⟨rfl,h,rfl,h1,h5⟩
    refine⟨_,rfl,_,rfl,(h:Int),(n:Int),rfl,by omega,_,_,rfl,rfl,_,rfl,fV (λcc=>?_) (λcc=>key h _ ⟨rfl,h5,?_⟩)⟩
    rotate_left
    ·have Up:¬ (1:Int)<Bt (h:Int) (n:Int):=λz=>cc (Jm z)
     unfold Bt at Up;rw[Int.gcd_natCast_natCast] at Up;have:=Nat.gcd_pos_of_pos_left n (show 0<h by omega)
     omega
    have Up:(1:Int)<Bt (h:Int) (n:Int):=Jn cc;have h2:h≠1:=λz=>by
     rw[z] at Up;have:Bt ((1:Nat):Int) (n:Int)=1:=by unfold Bt;simp
     omega
    refine⟨_,rfl,_,_,rfl,rfl,⟨rfl,h-1,?_,by omega,by omega⟩,?_⟩
    ·show [_,_,_,_,_,j? (V.int ((h:Int)-1)),_,_]=_
     rw[show(h:Int)-1=((h-1:Nat):Int) by omega]
    ·show((h:Int)-1).toNat<(h:Int).toNat
     omega
   ·rintro σ H Q Q' f ⟨v,e,v2,e2,a,b,e3,e4,i,j,e5,e6,k,ek,h⟩
    exact⟨v,e,v2,e2,a,b,e3,e4,i,j,e5,e6,k,ek,f _ _ h⟩
  ·rintro h H2 ⟨rfl,h5,gc⟩
   exact⟨_,rfl,_,rfl,_,rfl,_,rfl,p,n,h,1+u,rfl,hp,hp2,n1,by omega,h5,pr,gc,by omega,by omega,(q.le nm).on g1⟩
 ·refine⟨_,rfl,_,_,rfl,rfl,(show(3:Int)≠0 by decide),rfl,_,rfl,fV (λc2=>?_) (λc2=>?_)⟩
  ·exact⟨_,rfl,_,rfl,_,rfl,p,r,n,rfl,hp,hp2,n1,by omega,pr,q.le nm⟩
  refine⟨_,rfl,_,rfl,_,_,rfl,rfl,r,(n:Int)-1,1,rfl,by omega,by omega,rfl,λlow nl bl ll pl H1 g1 npl hpl=>?_⟩
  refine⟨_,rfl,_,rfl,pl,_,rfl,aQ.of hpl,λp2 n2=>?_⟩
  rw[Dq];generalize hH2:L2.upd H1 p2 _=H2;obtain⟨g2,e2⟩:=cC n2 hH2;clear hH2;have lt:(low.take n).length<=n:=by rw[Y3];omega
  have bt:gR 5 (low.take n):=λx hx=>bl x (List.mem_of_mem_take hx)
  generalize low.take n=lo at e2 lt bt;refine⟨_,rfl,a_ rfl,λp3 n3=>?_⟩
  generalize hH3:L2.upd H2 p3 _=H3;obtain⟨g3,e3⟩:=cC n3 hH3;clear hH3;refine⟨_,rfl,_,rfl,p2,_,rfl,.inl (aQ.of (g3 _ _ e2)),_,_,rfl,rfl,p3,((n-lo.length:Nat):Int),_,rfl,Jp V.int (by rw[Ya];omega),e3,by omega,by omega,by rw[C?,Yi];show 1*_<=_;omega,λp4 n4=>?_⟩
  rw[Yi,rep0];generalize hH4:L2.upd H3 p4 _=H4;obtain⟨g4,e4⟩:=cC n4 hH4;clear hH4;refine⟨p2,p4,_,_,rfl,rfl,g4 _ _ (g3 _ _ e2),e4,by rw[C?,Ya,Ya,Ys];omega,λp5 n5=>?_⟩
  generalize hH5:L2.upd H4 p5 _=H5;obtain⟨g5,e5⟩:=cC n5 hH5;clear hH5;refine⟨a_ rfl,λp6 n6=>?_⟩
  generalize hH6:L2.upd H5 p6 _=H6;obtain⟨g6,e6⟩:=cC n6 hH6;clear hH6;refine⟨p5,p6,_,_,rfl,rfl,g6 _ _ e5,e6,by rw[C?,Yg,Ya,Ya,Ys];show _+1<=_;omega,λp7 n7=>?_⟩
  generalize hH7:L2.upd H6 p7 _=H7;obtain⟨g7,e7⟩:=cC n7 hH7;clear hH7;have gA:=(((((g1.trans g2).trans g3).trans g4).trans g5).trans g6).trans g7;obtain⟨g,lg,mon,bg,eg⟩:∃g:List Int,g.length=n+1/\L2.b7 g/\gR 5 g/\H7 p7=j? (.lst (g.map V.int)):=by
   have hl:(lo++Yn (n-lo.length) 0++[1]).length=n+1:=by
    rw[Yg,Yg,Ys];show _+1=_
    omega
   refine⟨lo++Yn (n-lo.length) 0++[1],hl,⟨(λz=>by rw[z] at hl;cases hl),?_⟩,λx hx=>?_,by rw[e7,Yz,Yz];rfl⟩
   ·rw[hl]
    unfold ao;rw[Yb,Zh (by rw[Yg,Ys];omega),Yg,Ys,show n+1-1-(lo.length+(n-lo.length))=0 by omega]
    rfl
   ·rcases List.mem_append.mp hx with h|h
    ·rcases List.mem_append.mp h with h|h
     ·exact bt x h
     ·rw[(List.mem_replicate.mp h).2];show Wa 0<2 ^ 5;decide
    ·rw[List.mem_singleton] at h;rw[h];show Wa 1<2 ^ 5;decide
  clear e2 e3 e4 e5 e6 e7;have pwg:Pw 1 g n:=Pw.of lg mon (by omega) λk hk=>by
   have h1:(ao g k).natAbs<2 ^ 5:=bg.ao k;have h2:2 ^ 40<=(2 ^ 40) ^ (n-k):=Nat.le_self_pow (by omega) _
   omega
  obtain⟨bd,E',hE,Td,hrr⟩:=vL (pwg.mono (show 1<=3 by decide)) n1 (by omega)
  rw[show g.length-1=n by omega] at Td hrr
  refine⟨_,rfl,p7,g,n,E',rfl,aQ.of eg,lg,n1,by omega,mon,bd,hE,Td,hrr,λH8 g8=>?_⟩
  refine⟨_,rfl,_,_,rfl,rfl,(show(p:Int)≠0 by omega),rfl,_,rfl,fV (λc3=>?_) (λc3=>?_)⟩
  ·exact⟨_,rfl,_,rfl,_,rfl,p,r,n,rfl,hp,hp2,n1,by omega,pr,(q.le nm).on (gA.trans g8)⟩
  refine⟨_,rfl,_,rfl,a_ rfl,λp9 n9=>?_⟩
  generalize hH9:L2.upd H8 p9 _=H9;obtain⟨g9,e9⟩:=cC n9 hH9;clear hH9;obtain⟨h,hh,h2⟩:∃h:Nat,qZ [V.int 0,.int 1,.int 1,.int 2] ((r.fdiv (10 ^ 12)).fmod 4)=j? (.int (h:Int))/\h<=2:=by
   obtain⟨k,hk,ek⟩:=iX (r.fdiv (10 ^ 12)) (show 0<4 by decide)
   rw[show(r.fdiv (10 ^ 12)).fmod 4=(k:Int) from ek]
   match k,hk with
   | 0,_=>exact⟨0,rfl,by decide⟩
   | 1,_=>exact⟨1,rfl,by decide⟩
   | 2,_=>exact⟨1,rfl,by decide⟩
   | 3,_=>exact⟨2,rfl,by decide⟩
  refine⟨_,rfl,_,_,rfl,rfl,⟨by decide,by decide,by decide⟩,_,_,rfl,rfl,(Bd.small (by decide) (by decide)).dv (by decide),_,_,rfl,rfl,(show(4:Int)≠0 by decide),p9,_,_,_,rfl,rfl,aQ.of e9,hh,?_⟩
  exact⟨p,n,h,p7,g,rfl,g9 _ _ (g8 _ _ eg),lg,mon,bg,hp,hp2,n1,by omega,h2,pr,λt hn=>P5 pr hn t (by rw[qB];omega) (λk=>jX g k) (λz=>c3 (Jm (Jp V.int ((nv (by omega)).mpr (Int.dvd_trans z ⟨_,Zf _ _⟩))))),(q.le nm).on ((gA.trans g8).trans g9)⟩
end
def CV:Sp:=λvs H Q _=>∃(p:Nat) (a b:Int),vs=[.int (p:Int),.int a,.int b,.int 6]/\2<=p/\p<48/\p∈PR/\PT p 2 6 H Q
section
theorem ED (B:iY mg)(zu:b_ P w K mg base 5 "_law_piece" J8 Gi)(oY:b_ P w K mg base 3 "_law_shift" GZ (xN K))(oh:b_ P w K mg base 3 "resultant" m8 (Kq K))(kX:b_ P w K mg base 2 "_law_times" u9 (sH K))(kY:b_ P w K mg base 1 "_law_size" D6 Gg)(F:Src K mg "_law_built" ud J5):b_ P w K mg base 6 "_law_built" J5 CV:=by
 refine F.ok gw (λvs H Q E h=>?_) (λf cdv A outer s H vs Q E hr h=>?_)
 ·obtain⟨p,a,b,rfl,_⟩:=h;rfl
 obtain⟨p,a,b,rfl,hp,hp2,pr,q⟩:=h;refine⟨_,ah (sW (aF zu hr (af (pv 0) (af (pv 1) (af (bL (aJ (K:=K) rfl) (bI (af (pv 3) (af ak ai))) (au bw (au bK (pv 1) ak) ak) (λ_ _=>rfl)) ai)))) (dG (n:=2) (K:=K) rfl rfl (aY (aE (i:=4) gw.nd rfl (z? rfl)) (aY (aE (i:=5) gw.nd rfl (z? rfl)) dD))))
  (ah (eT (aX iP (au bw (au bK (pv 1) ak) ak) ak (bC _))
   (ay (aL (jw (af (aF oY hr (af (pv 4) (af (au bY (au bw (pv 2) ak) ak) ai))) (af (pv 5) ai)))))
   (cD))
  (ah (sW (aF zu hr (af (pv 0) (af (pv 2) (af ak ai)))) (dG (n:=2) (K:=K) rfl rfl (aY (aE (i:=6) gw.nd rfl (z? rfl)) (aY (aE (i:=7) gw.nd rfl (z? rfl)) dD))))
  (ah (aD (i:=6) gw.nd rfl (z? rfl) (aF oY hr (af (pv 6) (af (bL (aJ (K:=K) rfl) (bI (af ak (af ak (af (pv 0) (af (au b8 (pv 0) ak) (af ak ai)))))) (au bw (au bK (pv 2) ak) ak) (λ_ _=>rfl)) ai))))
  (ah (aD (i:=8) gw.nd rfl (z? rfl) (aF oh hr (af (pv 4) (af (pv 6) ai))))
  (ah (eT (aX iP (pv 8) ak (bC _))
   (ay (aL (jw (af (pv 4) (af (pv 5) ai)))))
   (cD))
  (ay (aL (jw (af (aF kX hr (af (pv 4) (af (pv 6) ai))) (af (au b8 (au b8 (pv 5) (pv 7)) (aF kY hr (af (pv 8) (af (pv 0) ai)))) ai)))))))))),?_⟩
 obtain⟨k2,hk2,WE⟩:=iX (a.fdiv 4) (show 0<2 by decide)
 refine⟨_,rfl,_,rfl,_,rfl,a_ rfl,λp1 n1=>?_⟩
 generalize hH1:L2.upd H p1 _=H1;obtain⟨g1,e1⟩:=cC n1 hH1;clear hH1;obtain⟨m,hm,m1,m6,m3⟩:∃m:Nat,qZ [V.int 6,.int 3] ((a.fdiv 4).fmod 2)=j? (.int (m:Int))/\1<=m/\m<=6/\((a.fdiv 4).fmod 2≠0->m<=3):=by
  rw[show(a.fdiv 4).fmod 2=(k2:Int) from WE]
  match k2,hk2 with
  | 0,_=>exact⟨6,rfl,by decide,by decide,λz=>Jr rfl z⟩
  | 1,_=>exact⟨3,rfl,by decide,by decide,λ_=>by decide⟩
 refine⟨_,rfl,_,_,rfl,rfl,(Bd.small (by decide) (by decide)).dv (by decide),_,_,rfl,rfl,(show(2:Int)≠0 by decide),p1,_,_,_,rfl,rfl,aQ.of e1,hm,?_⟩
 refine⟨p,a,m,rfl,hp,hp2,m1,m6,pr,λf n ix t l H2 g2 et el pf vM nm fi=>?_⟩
 have WG:=g1.trans g2;refine⟨t,_,rfl,k8.of et,rfl,_,_,rfl,_,_,rfl,rfl,?_⟩
 refine⟨_,rfl,_,_,rfl,rfl,(Bd.small (by decide) (by decide)).dv (by decide),_,_,rfl,rfl,(show(2:Int)≠0 by decide),rfl,_,rfl,fV (λc1=>?_) (λc1=>?_)⟩
 ·obtain⟨k7,hk7,ZY⟩:=iX b (show 0<7 by decide)
  have ZY:b.fmod 7=(k7:Int):=ZY;refine⟨_,rfl,_,rfl,_,_,rfl,rfl,(show(7:Int)≠0 by decide),_,_,rfl,rfl,l,f,_,8,rfl,aQ.of el,by rw[pf.len];omega,pf.Ft.mono (by omega),(by show(b.fmod 7-3).natAbs<2 ^ 8;omega),by decide,by decide,λr H3 g3 nr er=>?_⟩
  refine⟨_,rfl,a_ rfl,λp4 n4=>?_⟩
  generalize hH4:L2.upd H3 p4 _=H4;obtain⟨g4,e4⟩:=cC n4 hH4;have ps:=pf.shift (c:=b.fmod 7-3) (by show(b.fmod 7-3).natAbs<=_;omega)
  exact q _ n _ p4 r H4 ((WG.trans g3).trans g4) e4 (g4 _ _ er) ps vM (by omega) (fi.shift pr pf.len vM pf.top ps.top)
 have m3:=m3 λz=>c1 (Jm (Jp V.int z))
 refine⟨_,rfl,_,rfl,p,b,3,rfl,hp,hp2,by decide,by decide,pr,λg n' ix' t' l' H3 g3 et' el' pg Te nm' fg=>?_⟩
 refine⟨t',_,rfl,k8.of et',rfl,_,_,rfl,_,_,rfl,rfl,?_⟩
 have g03:=WG.trans g3;refine⟨_,rfl,_,rfl,_,rfl,_,_,rfl,rfl,a_ rfl,λp4 n4=>?_⟩
 generalize hH4:L2.upd H3 p4 _=H4;obtain⟨g4,e4⟩:=cC n4 hH4;clear hH4;obtain⟨sh,hsh,s0,s1⟩:∃sh:Nat,qZ [V.int 0,.int 1,.int (p:Int),.int ((p:Int)+1),.int 3] ((b.fdiv 3).fmod 5)=j? (.int (sh:Int))/\0<=sh/\sh<=48:=by
  obtain⟨k,hk,ek⟩:=iX (b.fdiv 3) (show 0<5 by decide)
  rw[show(b.fdiv 3).fmod 5=(k:Int) from ek]
  match k,hk with
  | 0,_=>exact⟨0,rfl,by decide,by decide⟩
  | 1,_=>exact⟨1,rfl,by decide,by decide⟩
  | 2,_=>exact⟨p,rfl,by omega,by omega⟩
  | 3,_=>exact⟨p+1,rfl,by omega,by omega⟩
  | 4,_=>exact⟨3,rfl,by decide,by decide⟩
 refine⟨_,rfl,_,_,rfl,rfl,(Bd.small (by decide) (by decide)).dv (by decide),_,_,rfl,rfl,(show(5:Int)≠0 by decide),p4,_,_,_,rfl,rfl,aQ.of e4,hsh,?_⟩
 refine⟨l',g,_,8,rfl,aQ.of (g4 _ _ el'),by rw[pg.len];omega,pg.Ft.mono (by omega),(by show(sh:Int).natAbs<2 ^ 8;omega),by decide,by decide,λr H5 g5 nr er=>?_⟩
 have HF:Pw 2 (cP (sh:Int) g) n':=pg.shift (by omega)
 have ZZ:=fg.shift pr pg.len Te pg.top HF.top;generalize cP (sh:Int) g=gs at er HF ZZ;have N3:=(g3.trans g4).trans g5;have Tf:=N3 _ _ el;have Tg:=pf.mono (show 1<=2 by decide)
 refine⟨_,rfl,_,rfl,l,r,f,gs,n,1100,rfl,aQ.of Tf,aQ.of er,pf.len,vM,by omega,by rw[HF.len];omega,pf.mon,.inr (by rw[HF.mon.2];decide),pf.Ft.mono (by omega),HF.Ft.mono (by omega),by decide,by omega,(Tg.mono (show 2<=3 by decide)).Su vM (by omega) (by rw[HF.len];omega) (λk=>Ym (HF.bd k) (Y2 (n:=2) (by decide) (show(40+2)*n'<=261 by omega))) (vI Tg.top vM λm hm=>bD hm),λH6 g6=>?_⟩
 obtain⟨both,hboth⟩:∃both,both=det n λi j=>rr (ao f) n (ao gs) gs.length i j:=⟨_,rfl⟩
 rw[<- hboth];have Z_:=(WG.trans N3).trans g6;refine⟨_,rfl,rfl,_,rfl,fV (λc2=>?_) (λc2=>?_)⟩
 ·refine⟨_,rfl,_,rfl,a_ rfl,λp7 n7=>?_⟩
  generalize hH7:L2.upd H6 p7 _=H7;obtain⟨g7,e7⟩:=cC n7 hH7;exact q f n _ p7 l H7 (Z_.trans g7) e7 (g7 _ _ (g6 _ _ Tf)) Tg vM (by omega) fi
 have c2':both≠0:=λz=>c2 (Jm (Jp V.int z))
 refine⟨_,rfl,_,rfl,l,r,f,gs,rfl,aQ.of (g6 _ _ Tf),aQ.of (g6 _ _ er),by rw[pf.len];omega,by rw[HF.len];omega,pf.Ft.mono (by omega),HF.Ft.mono (by omega),λr7 H7 g7 nr7 er7=>?_⟩
 refine⟨_,rfl,_,rfl,_,_,rfl,rfl,_,rfl,_,rfl,both,(p:Int),rfl,c2',by omega,by omega,λv hv=>⟨_,_,rfl,rfl,a_ rfl,λp8 n8=>?_⟩⟩
 generalize hH8:L2.upd H7 p8 _=H8;obtain⟨g8,e8⟩:=cC n8 hH8;have pm:=Tg.mul HF;refine q _ (n+n') _ p8 r7 H8 ((Z_.trans g7).trans g8) e8 (g8 _ _ er7) pm (by omega) (by omega) ?_
 have ec:ao (trim (dY f gs))=cv (ao f) (ao gs):=by rw[TN,L3]
 rw[hboth] at hv;have:=FI.prod pr vM Te Tg.top HF.top (by rw[<- ec];exact pm.top) fi ZZ (by rw[HF.len];omega) hv
 rw[ec];exact this
end
theorem Gj {R:Type}[Lean.Grind.CommRing R]{n p k:Nat}{el:Vc->R}{ip:R}{N:Nat->Vc}(B:oM n el)(inv:nt R p*ip=1)(M:MulOk n p el ip k 0 N):∀a,Ah (Of el) (nt R p) (p ^ k) a->Of el a:=by
 intro a ha;obtain⟨x,hx⟩:=ha.1;have ea:a=ip*el x:=by rw[<- hx];grind
 rw[ea] at ha;obtain⟨v,z,hv,hz⟩:=M.all x ha;have v0:∀i,v i=0:=by
  have key:∀(l:List Vc) (v:Vc),gW l v->l=[]->∀i,v i=0:=by
   intro l v h e;induction h with
   | zero=>intro i;rfl
   | add a hm _ _=>rw[e] at hm;cases hm
  exact key _ _ hv rfl
 refine⟨z,?_⟩
 rw[ea,B.sup x (λi=>(p:Int)*z i) λi hi=>by rw[hz i hi,v0 i];omega,B.smul,bZ]
 grind
theorem K8 {f:List Int}{n p v:Nat}(en:f.length-1=n)(n26:n<=26)(hv:cG (p:Int) (c5 f) v):∃u:Int,(det n λi j=>rr (ao f) n (ao (dl f)) (dl f).length i j)=(p:Int) ^ v*u/\¬ (p:Int) ∣ u:=by
 obtain⟨m,em,nd⟩:=hv.NB;have S7:tg n=1\/tg n=-1:=by
  obtain⟨t1,t2⟩:=Ks n n26;by_cases c:n*(n-1) / 2 % 2=1
  ·exact .inr (t1 c)
  ·exact .inl (t2 c)
 have e1:tg n*(det n λi j=>rr (ao f) n (ao (dl f)) (dl f).length i j)=(p:Int) ^ v*m:=by rw[<- em];unfold c5;rw[en]
 refine⟨tg n*m,?_,λ⟨c,e⟩=>nd ?_⟩
 ·rcases S7 with h|h
  ·rw[h] at e1 ⊢;grind
  ·rw[h] at e1 ⊢;grind
 ·rcases S7 with h|h
  ·exact⟨c,by rw[h] at e;grind⟩
  ·exact⟨-c,by rw[h] at e;grind⟩
theorem A6 {d:Nat}{s k:Nat->Nat}:∀n,(∀i,i<n->s i<=d/\k i=d-s i)->tot n k+tot n s=d*n
 | 0,_=>by show 0+0=_;omega
 | n+1,h=>by
  have:=A6 n λi hi=>h i (by omega)
  have:=h n (by omega)
  show tot n k+k n+(tot n s+s n)=_
  rw[Zw];omega
structure Tk (f:Fn)(n p v:Nat)(k:Nat->Nat):Prop where
 ex:∃(R:Type) (_:Lean.Grind.CommRing R) (φ:Vc->R) (ip:R) (d q:Nat) (T:Nat->Vc) (s:Nat->Nat),Xr f n p φ ip/\gO n p φ ip d T s/\MulOk n p (gX n φ ip d T) ip q 0 (λ_ _=>0)/\(∀i,i<n->k i=d-s i)/\2*tot n k<=v
theorem Tk.of {R:Type}[Lean.Grind.CommRing R]{f:List Int}{n p v d q:Nat}{φ:Vc->R}{ip:R}{T:Nat->Vc}{s:Nat->Nat}(lf:f.length=n+1)(mf:L2.b7 f)(n1:1<=n)(n6:n<=6)(hp:p∈PR)(hv:cG (p:Int) (c5 f) v)(X:Xr (ao f) n p φ ip)(G:gO n p φ ip d T s)(M:MulOk n p (gX n φ ip d T) ip q 0 (λ_ _=>0)):Tk (ao f) n p v λi=>d-s i:=by
 obtain⟨u,hD,hu⟩:=K8 (n:=n) (by omega) (by omega) hv
 have ldl:(dl f).length=n:=by rw[qB,lf];omega
 rw[ldl] at hD;have le:=uQ.le X (topC lf mf) n1 (bM hp).1 G.lor (g:=ao (dl f)) (λm _=>jX f m) (λi hi=>(G.pw i hi).1) hD hu
 have dep:=G.dep;have ts:=A6 (d:=d) (s:=s) (k:=λi=>d-s i) n λi hi=>⟨(G.pw i hi).2,rfl⟩
 exact⟨R,inferInstance,φ,ip,d,q,T,s,X,G,M,λi _=>rfl,by omega⟩
theorem Tk.idx {f:Fn}{n p v:Nat}{k:Nat->Nat}{I:Int}(hp:p∈PR)(hn:1<=n)(t:Top f n)(a:Tk f n p v k)(h:FI f n p I):I=(tot n k:Int):=by
 obtain⟨J,hJ,rfl⟩:=h.of t hn;obtain⟨R,_,φ,ip,d,q,T,s,X,G,M,h2,_⟩:=a.ex;have e:=Idx.tot hJ (φ:=φ) (ip:=ip) X hp G.lor M.ge (Gj (X.oN.lX (d:=d) X.inv G.lor.st) X.inv M) (s:=s) λi hi=>(G.pw i hi).1
 have e:J+tot n s=n*d:=e;have ts:=A6 (d:=d) (s:=s) (k:=k) n λi hi=>⟨(G.pw i hi).2,h2 i hi⟩
 rw[Zk] at e;omega
theorem Tk.le {f g:Fn}{n p v v':Nat}{k k':Nat->Nat}{a c:Int}(hp:p∈PR)(hn:1<=n)(t:Top f n)(t':Top g n)(sb:u7 (jE t hn) (jE t' hn) a c)(x:Tk f n p v k)(y:Tk g n p v' k'){i:Nat}(hi:i<n):k i<=k' i:=by
 obtain⟨R,_,φ,ip,d,q,T,s,X,G,M,h2,_⟩:=x.ex;obtain⟨R',_,φ',Sq,d',q',T',s',X',G',M',h2',_⟩:=y.ex;have e:=u7.ks (M:=jE t hn) (M':=jE t' hn) hp sb X G.lor X' G'.lor M'.ge (Gj (X'.oN.lX (d:=d') X'.inv G'.lor.st) X'.inv M') (s:=s) (s':=s') (λi hi=>(G.pw i hi).1) (λi hi=>(G'.pw i hi).1) hi
 have h3:=h2 i hi;have h4:=h2' i hi;have h5:=(G.pw i hi).2;omega
theorem Tk.same {f g:Fn}{n p v v':Nat}{k k':Nat->Nat}{a c:Int}(hp:p∈PR)(hn:1<=n)(t:Top f n)(t':Top g n)(sb:u7 (jE t hn) (jE t' hn) a c)(x:Tk f n p v k)(y:Tk g n p v' k'){i:Nat}(hi:i<n):k i=k' i:=Nat.le_antisymm (Tk.le hp hn t t' sb x y hi) (Tk.le hp hn t' t sb.symm y x hi)
structure WH (H:Hp)(n:Nat)(k:Nat->Nat)(vs:List V):Prop where
 len:vs.length=n
 at_:∀i,i<n->∃t l,vs[i]?=j? (.ref t)/\H t=j? (.tup [.ref l,.int (k i:Int)])
inductive Gk (Pp:o?)(vs:List V)(H:Hp)(Q:VK)(Ce:XK):Prop where
 | mk (a:o?) (f:List Int) (n p v:Nat) (Ci:vs=[.ref a,.int (p:Int)]) (Cj:H a=j? (.lst (f.map V.int))) (Ck:f.length=n+1) (Cm:L2.b7 f) (Cn:xJ f) (Co:1<=n) (Cq:n<=6) (C9:p∈PR) (Eg:fM f7 Pp H) (HE:c5 f≠0) (yk:cG (p:Int) (c5 f) v) (Cr:v<=24) (Kr:∀(k:Nat->Nat) r us H',cH H Pp H'->fM f7 Pp H'->Tk (ao f) n p v k->H' r=j? (.lst us)->WH H' n k us->Q (.ref r) H')
inductive Th (Pp:o?)(vs:List V)(H:Hp)(Q:VK)(Ce:XK):Prop where
 | mk (a:o?) (f:List Int) (n p v:Nat) (Ci:vs=[.ref a,.int (p:Int)]) (Cj:H a=j? (.lst (f.map V.int))) (Ck:f.length=n+1) (Cm:L2.b7 f) (Cn:xJ f) (Co:1<=n) (Cq:n<=6) (C9:p∈PR) (Eg:fM f7 Pp H) (HE:c5 f≠0) (yk:cG (p:Int) (c5 f) v) (Cr:v<=24) (Kr:∀(k:Nat->Nat) r H',cH H Pp H'->fM f7 Pp H'->Tk (ao f) n p v k->H' r=j? (.lst ((lv n λi=>(k i:Int)).map V.int))->Q (.ref r) H')
section
theorem K9 {aC:o?}(D:b_ P w K mg base 11 "whole_basis" jR (Gd aC)):b_ P w K mg base 11 "whole_basis" jR (Gk aC):=by
 obtain⟨fa,fd,F,r⟩:=D.ex;refine⟨fa,fd,F.imp λvs H Q E h=>?_,r⟩
 obtain⟨a,f,n,p,v,rfl,ha,lf,mf,dk,n1,n6,hp,tq,h0,hv,Ra,q⟩:=h;refine⟨a,f,n,p,v,rfl,ha,lf,mf,dk,n1,n6,hp,tq,h0,hv,Ra,λR _ φ ip d k T s r vs H' hN hT X G M ZO hr hv' ba=>?_⟩
 refine q _ r vs H' hN hT (Tk.of lf mf n1 n6 hp hv X G M) (cF hv').2 ⟨ba.len,λi hi=>?_⟩
 obtain⟨t,l,h1,h2,_⟩:=ba.at_ i hi;exact⟨t,l,h1,(cF h2).2⟩
theorem Nc {aC:o?}(B:iY mg)(yw:b_ P w K mg base 11 "whole_basis" jR (Gk aC))(F:Src K mg "_law_ks" AK D8):b_ P w K mg base 12 "_law_ks" D8 (Th aC):=by
 refine F.ok MQ (λvs H Q E h=>?_) (λfa cdv Ac outer s H vs Q E hr h=>?_)
 ·obtain⟨a,f,n,p,v,rfl,_⟩:=h;rfl
 obtain⟨a,f,n,p,v,rfl,ha,lf,mf,dk,n1,n6,hp,tq,h0,hv,Ra,q⟩:=h;refine⟨_,ay (aL (cA (aG (N:=["_law_g","_law_k"]) (sl:=[q?,q?]) (aq AK) D8 rfl rfl (by decide +kernel)) rfl (bN (K:=K) rfl (aF yw hr (af (sZ lC rfl B.list vp (af (pv 0) ai)) (af (pv 1) ai)))) (λ_ _ _ _ _=>(dG (n:=2) (K:=K) rfl rfl (aY (aE (i:=0) (Yk_ ["_law_g","_law_k"]) rfl (z? rfl)) (aY (aE (i:=1) (Yk_ ["_law_g","_law_k"]) rfl (z? rfl)) dD)))) (λ_ _ _ _ _=>aU) (λ_ _ _ _ _=>(pv 1)))),?_⟩
 refine⟨_,rfl,a,_,rfl,.inl (aQ.of ha),λp4 n4=>?_⟩
 generalize hH4:L2.upd H p4 _=H4;obtain⟨g4,e4⟩:=cC n4 hH4;clear hH4;refine⟨_,rfl,p4,f,n,p,v,rfl,e4,lf,mf,dk,n1,n6,hp,tq.same g4,h0,hv,Ra,λk r us Ha na ta tk hr ka=>?_⟩
 refine⟨r,rfl,⟨_,aQ.of hr⟩,λD3 S3=>?_⟩
 refine qg (λi=>.num (k i:Int)) (n:=n) ka.len hr S3 (by omega) (λi vx Hb Qb hi gb kZ qb=>?_) λHb gb rrb=>?_
 ·obtain⟨t',l',h1,h2⟩:=ka.at_ i hi
  rw[h1] at kZ;cases kZ;exact⟨t',_,rfl,k8.of (gb _ _ h2),rfl,_,_,rfl,_,_,rfl,rfl,_,rfl,qb _ Hb (aI.refl _) (.num _)⟩
 obtain⟨lD3,eD3,WI,_⟩:=eU (n:=n) (v:=λi=>(k i:Int)) rrb
 cases eD3;exact q k D3 Hb ((cH.of g4).trans (na.trans (cH.of gb))) (ta.same gb) tk WI
end
theorem K_ {K:bX}{Pp a:o?}{H H':Hp}{xs:List V}{ps:Array l?}(h:aQ K H a xs)(e:H Pp=j? (.vO ps))(g:cH H Pp H'):aQ K H' a xs:=by
 rcases h with h|h
 ·refine .inl ?_
  rcases h with h|⟨o,h⟩
  ·exact .inl (g _ _ (λz=>by rw[z] at h;have:=e.symm.trans h;cases this) h)
  ·exact .inr ⟨o,g _ _ (λz=>by rw[z] at h;have:=e.symm.trans h;cases this) h⟩
 ·exact .inr h
theorem Nd (c:Int):∃p:Nat,p∈PR/\qZ [V.int 2,.int 3,.int 2,.int 3,.int 2,.int 5,.int 7,.int 11,.int 13,.int 17,.int 19,.int 23,.int 29,.int 31,.int 37,.int 41,.int 43,.int 47,.int 2,.int 3] (c.fmod 20)=j? (.int (p:Int)):=by
 obtain⟨k,hk,ek⟩:=iX c (show 0<20 by decide)
 rw[show c.fmod 20=(k:Int) from ek]
 have key:∀k:Nat,k<20->∃p:Nat,p∈PR/\([2,3,2,3,2,5,7,11,13,17,19,23,29,31,37,41,43,47,2,3]:List Nat)[k]?=j? p:=by decide
 obtain⟨p,hp,e⟩:=key k hk;refine⟨p,hp,f9 ?_⟩
 have:=Jp (Option.map λn:Nat=>V.int (n:Int)) e
 rw[<- Ye] at this;exact this
theorem Gm {Pp a:o?}{H H':Hp}{xs:List V}(t:fM f7 Pp H)(g:cH H Pp H')(h:H a=j? (.lst xs)):H' a=j? (.lst xs):=by
 obtain⟨ps,hps,_⟩:=t;exact g _ _ (λz=>by rw[z,hps] at h;cases h) h
theorem Qz (m:Nat):qZ [V.int 1,V.int (-1)] ((m:Int).fmod 2)=j? (.int ((-1) ^ m)):=by
 rw[show(m:Int).fmod 2=((m % 2:Nat):Int) by rw[Y8 _ (by decide),Jb];rfl]
 rcases Nat.mod_two_eq_zero_or_one m with h|h
 ·obtain⟨k,hk⟩:=Nat.dvd_of_mod_eq_zero h
  have e:(-1:Int) ^ m=1:=by rw[hk,Jj];exact W1
  rw[h,e];rfl
 ·obtain⟨k,hk⟩:∃k,m=2*k+1:=⟨m / 2,by omega⟩
  have e:(-1:Int) ^ m=-1:=by rw[hk,Yq,Jj,show((-1:Int) ^ 2) ^ k=1 from W1];rfl
  rw[h,e];rfl
theorem vN:∀m:Nat,((-1:Int) ^ m).natAbs=1
 | 0=>rfl
 | m+1=>by rw[Yq,Zq,vN m];rfl
theorem zw {f g:List Int}{n p v:Nat}{a c:Int}(hp:p∈PR)(hn:1<=n)(n6:n<=6)(lf:f.length=n+1)(lg:g.length=n+1)(t:Top (ao f) n)(t':Top (ao g) n)(sb:u7 (jE t hn) (jE t' hn) a c)(h0:c5 f≠0)(hv:cG (p:Int) (c5 f) v):c5 g≠0/\cG (p:Int) (c5 g) v:=by
 have ldf:(dl f).length=n:=by rw[qB];omega
 have ldg:(dl g).length=n:=by rw[qB];omega
 obtain⟨ε,e2,e⟩:=J3 hn t t' sb (L:=n) rfl (λk=>jX f k) (λk=>jX g k)
 have ed:c5 g=ε*c5 f:=by
  unfold c5;rw[show f.length-1=n by omega,show g.length-1=n by omega,ldf,ldg]
  have e:(det n λi j=>rr (ao g) n (ao (dl g)) n i j)=ε*det n λi j=>rr (ao f) n (ao (dl f)) n i j:=e
  rw[e];grind
 have pp:=bM hp;rw[ed];refine⟨λz=>?_,cG.sign (by omega) e2 hv⟩
 rcases Int.mul_eq_zero.mp z with y|y
 ·rw[y] at e2;cases e2
 ·exact h0 y
def Gn (K:bX)(Pp:o?):Sp:=λvs H Q _=>∃(a:o?) (ns:List Int),vs=[.ref a]/\aQ K H a (ns.map V.int)/\ns.length<=63/\H Pp=j? (.vO #[])/\∀H',Q (.bl true) H'
section
theorem QA {aC:o?}(B:iY mg)(mO:b_ P w K mg base 2 "_law_number" xr (CT K))(Hs:b_ P w K mg base 6 "_law_built" J5 CV)(fG:b_ P w K mg base 4 "discriminant" ["f"] (AS K))(kY:b_ P w K mg base 1 "_law_size" D6 Gg)(oY:b_ P w K mg base 3 "_law_shift" GZ (xN K))(EE:b_ P w K mg base 12 "_law_ks" D8 (Th aC))
  {f:o?} {fd:O!} (F:Ls K "law" "law" pX f fd):qY P w K mg base GA 13 f fd ["_law_script"] (Gn K aC):=by
 refine F.ok nZ (λvs H Q E h=>?_) (λcdv A outer s H vs Q E hr h=>?_)
 ·obtain⟨a,ns,rfl,_⟩:=h;rfl
 obtain⟨la,ns,rfl,hs,hl,hPp,q⟩:=h;refine⟨_,ah (aD (i:=1) nZ.nd rfl (z? rfl) (bL (aJ (K:=K) rfl) (bI (af ak (af ak (af ak (af ak (af ak (af ak (af ak (af ak (af ak (af ak (af ak (af ak (af ak (af ak (af ak (af ak (af ak (af ak (af ak (af ak ai))))))))))))))))))))) (au bw (aF mO hr (af (pv 0) (af ak ai))) ak) (λ_ _=>rfl)))
  (ah (sW (aF Hs hr (af (pv 1) (af (aF mO hr (af (pv 0) (af ak ai))) (af (aF mO hr (af (pv 0) (af ak ai))) (af ak ai))))) (dG (n:=2) (K:=K) rfl rfl (aY (aE (i:=2) nZ.nd rfl (Or.inr rfl)) (aY (aE (i:=3) nZ.nd rfl (z? rfl)) dD))))
  (ah (aD (i:=4) nZ.nd rfl (z? rfl) (aF fG hr (af (pv 2) ai)))
  (ah (eT (PW.pt (E2 (aX iP (pv 4) ak (bC _)) (zD (aX yI (aF kY hr (af (pv 4) (af (pv 1) ai))) ak (bC _)))))
   (ay (aL EY))
   (cD))
  (ah (aD (i:=5) nZ.nd rfl (z? rfl) (aF EE hr (af (pv 2) (af (pv 1) ai))))
  (ah (eT (PW.pt (E2 (aX uI (aS (tR (K:=K) rfl rfl) rfl B.sum Dl (af (pv 5) ai)) (pv 3) (bC _)) (zD (aX E7 (au bY (aF kY hr (af (pv 4) (af (pv 1) ai))) (au aV ak (pv 3))) ak (bC _)))))
   (ay (aL EY))
   (cD))
  (ah (aD (i:=6) nZ.nd rfl (Or.inr rfl) (au bY (aS (aT (K:=K) rfl) rfl B.len cB (af (pv 2) ai)) ak))
  (ah (jT (i:=7) nZ.nd rfl (z? rfl) (aG (N:=["_law_k","_law_f","_law_n"]) (sl:=[q?,j? 2,j? 6]) (aq pX) XR rfl rfl (by decide +kernel)) rfl (bU rfl B.range (af (au b8 (pv 6) ak) ai)) (λ_ _ _ _ _=>(aE (i:=0) (Yk_ ["_law_k","_law_f","_law_n"]) rfl (z? rfl))) (λ_ _ _ _ _=>aU) (λ_ _ _ _ _=>(au aV (bL (aJ (K:=K) rfl) (pv 1) (pv 0) (λ_ _=>rfl)) (bL (aJ (K:=K) rfl) (bI (af ak (af (yH sY ak) ai))) (au bw (au bY (pv 2) (pv 0)) ak) (λ_ _=>rfl)))))
  (ay (aL (sU (k_ (lH (K:=K) rfl hr.units) (aF EE hr (af (aF oY hr (af (pv 2) (af (au bY (au bw (aF mO hr (af (pv 0) (af ak ai))) ak) ak) ai))) (af (pv 1) ai))) (pv 5) (bC _)) (sS (k_ (lH (K:=K) rfl hr.units) (aF EE hr (af (pv 7) (af (pv 1) ai))) (pv 5) (bC _))))))))))))),?_⟩
 refine⟨a_ rfl,λp1 n1=>?_⟩
 generalize hH1:L2.upd H p1 _=H1;obtain⟨g1,e1⟩:=cC n1 hH1;clear hH1;refine⟨_,rfl,la,ns,3,rfl,g1.seq hs,by decide,by decide,λc3=>?_⟩
 obtain⟨p,hp,hpx⟩:=Nd c3;have pp:=bM hp;refine⟨_,_,rfl,rfl,(show(20:Int)≠0 by decide),p1,_,_,_,rfl,rfl,aQ.of e1,hpx,?_⟩
 refine⟨_,rfl,_,rfl,la,ns,1,rfl,g1.seq hs,by decide,by decide,λc1=>?_⟩
 refine⟨_,rfl,la,ns,2,rfl,g1.seq hs,by decide,by decide,λc2=>?_⟩
 have p48:p<48:=(show ∀p∈PR,p<48 by decide) p hp
 refine⟨p,c1,c2,rfl,by omega,p48,hp,λf n ix t l H2 g2 et el pw vM n6 fi=>?_⟩
 refine⟨t,_,rfl,k8.of et,rfl,_,_,rfl,_,_,rfl,rfl,?_⟩
 have pw3:=pw.mono (show 2<=3 by decide)
 have dk:=vL pw3 vM n6;obtain⟨bd,E',hE,Td,hrr⟩:=id dk;have en:f.length-1=n:=by rw[pw.len];omega
 rw[en] at Td hrr;refine⟨_,rfl,l,f,n,E',rfl,aQ.of el,pw.len,vM,by omega,pw.mon,bd,hE,Td,hrr,λH3 g3=>?_⟩
 have ed:tg n*det n (λi j=>rr (ao f) n (ao (dl f)) (dl f).length i j)=c5 f:=by
  unfold c5;rw[en]
 rw[ed];refine⟨_,rfl,rfl,_,rfl,fV (λc=>vZ (q _)) (λc=>?_)⟩
 have h0:c5 f≠0:=λz=>c (Jm (Jp V.int z))
 refine⟨_,rfl,_,rfl,c5 f,(p:Int),rfl,h0,by omega,by omega,λv hv=>⟨_,_,rfl,rfl,_,rfl,fV (λc=>q _) (λc=>?_)⟩⟩
 have c':¬ (24:Int)<(v:Int):=λz=>c (Jm z)
 have gA:=(g1.trans g2).trans g3;have WJ:=g3 _ _ el;have Hf:fM f7 aC H3:=(fM.nil hPp).same gA;have Ue:=gA _ _ hPp;have Mm:=gA.seq hs;clear gA g1 g2 g3 e1 et;refine⟨_,rfl,_,rfl,l,f,n,p,v,rfl,WJ,pw.len,pw.mon,dk,vM,n6,hp,Hf,h0,hv,by omega,λk r H4 n4 t4 tk hr=>?_⟩
 have Uq:=Gm Hf n4 WJ;have hs4:aQ K H4 la (ns.map V.int):=K_ Mm Ue n4;have eI:=Tk.idx hp vM pw.top tk fi;obtain⟨R0,_,φ0,ip0,d0,q0,T0,s0,_,_,_,_,h2v⟩:=tk.ex;clear n4 WJ Mm Ue Hf;refine⟨_,rfl,r,_,rfl,aQ.of hr,_,rfl,rfl,_,rfl,fV (λz=>?_) (λz=>?_)⟩
 ·exfalso
  rw[AE,eI] at z;have z:(!decide (V.int (tot n k:Int)=V.int (tot n k:Int)))=true:=z;rw[Jm rfl] at z;cases z
 refine⟨_,rfl,_,rfl,c5 f,(p:Int),rfl,h0,by omega,by omega,λv' hv'=>?_⟩
 have ev:=hv.uniq hv';subst ev;refine⟨_,rfl,_,_,rfl,rfl,gE (by decide) (by decide),_,_,rfl,rfl,_,_,rfl,rfl,_,rfl,fV (λz=>?_) (λz=>?_)⟩
 ·exfalso
  have z:(v:Int)-2*ix<0:=Jn z;omega
 refine⟨_,rfl,l,_,rfl,.inl (aQ.of Uq),_,_,rfl,rfl,?_⟩
 show iO 6 (V.int (((f.map V.int).length:Int)-1)) _ _ _
 rw[Ya,pw.len,show(((n+1:Nat):Int)-1)=(n:Int) by omega]
 refine⟨_,rfl,_,_,rfl,rfl,((n+1:Nat):Int),rfl,by omega,by omega,λD hD=>?_⟩
 rw[Yi];refine BV (λj=>.num (ao f j*(-1) ^ (n-j))) hD (by omega) (λj H5 Q5 hj g5 q5=>?_) λH5 g5 N5=>?_
 ·have a1:=fL (ns:=f) (i:=0+(j:Int)) (by omega) (by rw[pw.len];omega)
  rw[show((0:Int)+(j:Int)).toNat=j by omega] at a1
  refine⟨_,rfl,_,rfl,l,_,_,_,rfl,rfl,aQ.of (g5 _ _ Uq),a1,?_⟩
  walk_at "rd"
  intro p6 n6';have k6:=aB n6' (.lst [V.int 1,V.int (-1)]);have a2:=Qz (n-j);rw[show((n-j:Nat):Int)=(n:Int)-(0+(j:Int)) by omega] at a2
  refine⟨_,rfl,_,rfl,_,_,rfl,rfl,_,_,rfl,rfl,(show(2:Int)≠0 by decide),p6,_,_,_,rfl,rfl,aQ.of av,a2,_,_,rfl,rfl,?_,q5 _ _ k6 (.num _)⟩
  exact j6 (by have:=vN (n-j);omega) (by have:=vN (n-j);omega)
 obtain⟨lD,eD,Qv,_⟩:=eU (n:=n+1) (v:=λj=>ao f j*(-1) ^ (n-j)) N5
 cases eD;have Tf:=g5 _ _ Uq;have hs5:=g5.seq hs4;have hr5:=g5 _ _ hr;have t5:=t4.same g5;clear g5 Uq hs4 hr t4 N5;refine⟨_,rfl,_,rfl,la,ns,4,rfl,hs5,by decide,by decide,λc4=>?_⟩
 have r4:=gm c4 (y:=101) (by decide)
 refine⟨_,_,rfl,rfl,(show(101:Int)≠0 by decide),_,_,rfl,rfl,l,f,c4.fmod 101-50,8,rfl,aQ.of Tf,by rw[pw.len];omega,pw.Ft.mono (by omega),(by show(c4.fmod 101-50).natAbs<2 ^ 8;omega),by decide,by decide,λr6 H6 g6 nr6 er6=>?_⟩
 have ps:=pw.shift (c:=c4.fmod 101-50) (by omega)
 have sb:=zh (c:=c4.fmod 101-50) pw.len vM pw.top ps.top;obtain⟨d1,d2⟩:=zw hp vM n6 pw.len ps.len pw.top ps.top sb h0 hv;refine⟨_,rfl,r6,_,n,p,v,rfl,er6,ps.len,ps.mon,vL ps vM n6,vM,n6,hp,t5.same g6,d1,d2,by omega,λk1 r7 H7 n7 t7 tk1 hr7=>?_⟩
 have ek1:(lv n λi=>(k1 i:Int))=lv n λi=>(k i:Int):=Wg λi hi=>by rw[Tk.same hp vM pw.top ps.top sb tk tk1 (List.mem_range.mp hi)]
 have hD7:=Gm (t5.same g6) n7 (g6 _ _ Qv);have Ti:=Gm (t5.same g6) n7 (g6 _ _ hr5);refine⟨_,rfl,RQ (aQ.of hr7) (aQ.of Ti) ?_⟩
 rw[ek1,Jm rfl];have lc:(lv (n+1) λj=>ao f j*(-1) ^ (n-j)).length=n+1:=bW _ _
 have cc:∀j,j<=n->ao (lv (n+1) λj=>ao f j*(-1) ^ (n-j)) j=ao f j*(-1) ^ (n-j):=λj hj=>by rw[lY,Jl (by omega)]
 have pc:Pw 3 (lv (n+1) λj=>ao f j*(-1) ^ (n-j)) n:=by
  refine⟨lc,⟨(λz=>by rw[z] at lc;cases lc),?_⟩,?_⟩
  ·rw[lc]
   show ao _ n=1
   rw[cc n (Yd n),pw.top.one,W4];rfl
  ·rw[J4 (f:=ao f) (n+1) λj hj=>by rw[cc j (by omega),Zq,vN,Nat.mul_one]]
   exact pw3.nm
 generalize (lv (n+1) λj=>ao f j*(-1) ^ (n-j))=g at hD7 cc pc
 have sc:=AD vM pw.top pc.top cc;obtain⟨d3,d4⟩:=zw hp vM n6 pw.len pc.len pw.top pc.top sc h0 hv;refine⟨_,rfl,vZ ?_⟩
 refine⟨_,rfl,_,rfl,D,g,n,p,v,rfl,hD7,pc.len,pc.mon,vL pc vM n6,vM,n6,hp,t7,d3,d4,by omega,λk2 r8 H8 n8 t8 tk2 hr8=>?_⟩
 have WE:(lv n λi=>(k2 i:Int))=lv n λi=>(k i:Int):=Wg λi hi=>by rw[Tk.same hp vM pw.top pc.top sc tk tk2 (List.mem_range.mp hi)]
 refine⟨_,rfl,RQ (aQ.of hr8) (aQ.of (Gm t7 n8 Ti)) ?_⟩
 rw[WE,Jm rfl];exact q _
end
local macro_rules | `(tactic| walk_at "b1") => `(tactic| exact L2.bd1 λ_ _ _ _ _ _ _ => rfl)
local macro_rules | `(tactic| walk_at "b2") => `(tactic| exact L2.bd2 λ_ _ _ _ _ _ _ _ => rfl)
local macro_rules | `(tactic| walk_at "b3") => `(tactic| exact L2.bd3 λ_ _ _ _ _ _ _ _ _ => rfl)
local macro_rules | `(tactic| walk_at "b4") => `(tactic| exact L2.bd4 λ_ _ _ _ _ _ _ _ _ _ => rfl)
theorem all_mk {l:PySem.W.OpenLaw}{w:H?}{K:bX}{h:O?}{mg:Str->Option l?}{fa:o?}(X:K.In h)(G:h.Ns G? mg)(hfa:mg "law"=j? (.ref fa))
  {WK:o?} {WL WM:Option o?} {WN:Array (Option l?)} {WO WQ WR WS QB WT:l?}
  {WU:o?} {WV Tj:Option o?} {WW:Array (Option l?)} {WX Tn To Tp QC Tq:l?}
  {iA aC:o?}
  {pP:Tok}
  {sJ:Tok}
  {yx:Tok}
  {gP:o?} {CY:Obj}
  (qH:cR K "is_whole" qp)
  (qI:cR K "is_prime" qt)
  (jM:cR K "number_power" jF)
  (oj:cR K "taken_out" nT)
  (iB:cR K "size_of_number" ia)
  (ja:cR K "is_polynomial" i8)
  (qJ:cR K "is_monic" qu)
  (ee:cR K "without_noughts_behind" d9)
  (kq:cR K "coefficient" kc)
  (mP:cR K "multiplied" mq)
  (ur:cR K "derived" oQ)
  (uu:cR K "divided" tY)
  (jb:cR K "place_of_lead" i9)
  (qK:cR K "lessened" ig)
  (ku:cR K "determinant" kg)
  (om:cR K "resultant" jZ)
  (jN:cR K "discriminant" jG)
  (gx:cR K "is_bounded_monic" gq)
  (mQ:cR K "plain_size" mw)
  (gy:cR K "refuse_for_basis" gu)
  (jO:cR K "without_lead" gK)
  (jc:cR K "with_lead_one" gi)
  (mR:cR K "first_lead" mC)
  (xQ:cR K "kernel" iV)
  (uv:cR K "back_by" tZ)
  (qL:cR K "unit_row" mD)
  (WY:N? K G? "lead_at"=j? (j? (.ref WK))) (WZ:K.lookup WK=j? ⟨WO,WL,.func (W? "lead_at" "lead_at" (dF fO) (cE fO) (aq fO) .none WQ WR WS WM QB WT),WN⟩) (W_:P! K QB "lead_at"=true) (Xa:C! K (.ref WK)=true)
  (uw:QB=.ref iA) (jK:PySem.W.codeHdIn K iA aC=true)
  (uz:cR K "without" kT)
  (mS:cR K "triangular" jk)
  (kB:cR K "coordinates" iK)
  (xR:cR K "summed" kU)
  (mT:cR K "product_by" jm)
  (qM:cR K "table_of" iw)
  (qN:cR K "times_by" jI)
  (qO:cR K "power_by" qw)
  (xS:cR K "raised" nV)
  (kC:cR K "multipliers" iL)
  (A7:cR K "grown" oR)
  (kD:cR K "whole_basis" iM)
  (oq:cR K "_law_cell_at" nW)
  (qP:cR K "_law_number" qx)
  (qQ:cR K "_law_common" qy)
  (ou:cR K "_law_trimmed" nX)
  (uA:cR K "_law_times" t6)
  (xT:cR K "_law_plus" sC)
  (xU:cR K "_law_poly" xw)
  (uB:cR K "_law_power" t_)
  (xV:cR K "_law_size" xx)
  (mU:cR K "_law_ramified" jn)
  (uC:cR K "_law_zeros" ua)
  (kE:cR K "_law_stretched" iN)
  (uD:cR K "_law_shift" oW)
  (uE:cR K "_law_piece" uc)
  (uF:cR K "_law_built" ud)
  (EF:cR K "_law_ks" AK)
  (Xb:N? K G? "law"=j? (j? (.ref WU))) (Xc:K.lookup WU=j? ⟨WX,WV,.func (W? "law" "law" (dF pX) (cE pX) (aq pX) .none Tn To Tp Tj QC Tq),WW⟩) (Xd:P! K QC "law"=true) (Xe:C! K (.ref WU)=true)
  (fQ:N? K G? "MOST_BASIS_DEGREE"=j? (j? (.int 6 pP)))
  (gQ:N? K G? "MOST_BASIS_SIZE"=j? (j? (.int 24 sJ)))
  (kF:N? K G? "MOST_DEGREE"=j? (j? (.int 12 yx)))
  (xW:N? K G? "PRIMES"=j? (j? (.ref gP))) (xX:K.lookup gP=j? CY)
  (xY:zR CY (PR.map λp:Nat=>(p:Int))=true)
  (La:N? K G? "abs"=j? q?)
  (EG:N? K G? "bool"=j? q?)
  (oz:N? K G? "enumerate"=j? q?)
  (Lb:N? K G? "int"=j? q?)
  (mV:N? K G? "isinstance"=j? q?)
  (Lc:N? K G? "len"=j? q?)
  (EH:N? K G? "list"=j? q?)
  (Ld:N? K G? "max"=j? q?)
  (Le:N? K G? "min"=j? q?)
  (A8:N? K G? "range"=j? q?)
  (qR:N? K G? "reversed"=j? q?)
  (Lf:N? K G? "sum"=j? q?)
  (Lg:N? K G? "zip"=j? q?):
  ∃fd:O!,(∀(s:u?) (v:l?),BindsTo s fd ⟨[v],[]⟩ [("_law_script",v)])/\∀base:O?,K.In base->base.Ns G? mg->BMain mg base->qY l.prog w K mg base GA 13 fa fd ["_law_script"] (Gn K aC):=by
 have e:=hfa.symm.trans (PySem.W.mg_of X G Xb);cases e;have EI:=aZ (mg:=mg) (ps:=ji) X G qH (by walk_at "b1")
 have EJ:=aZ (mg:=mg) (ps:=["k"]) X G qI (by walk_at "b1")
 have xZ:=aZ (mg:=mg) (ps:=["k","n"]) X G jM (by walk_at "b2")
 have CZ:=aZ (mg:=mg) (ps:=su) X G oj (by walk_at "b2")
 have uG:=aZ (mg:=mg) (ps:=su) X G iB (by walk_at "b2")
 have vj:=aZ (mg:=mg) (ps:=ji) X G ja (by walk_at "b1")
 have EK:=aZ (mg:=mg) (ps:=ji) X G qJ (by walk_at "b1")
 have kG:=aZ (mg:=mg) (ps:=["numbers"]) X G ee (by walk_at "b1")
 have yy:=aZ (mg:=mg) (ps:=D_) X G kq (by walk_at "b2")
 have A9:=aZ (mg:=mg) (ps:=m8) X G mP (by walk_at "b2")
 have Ht:=aZ (mg:=mg) (ps:=["f"]) X G ur (by walk_at "b1")
 have Hu:=aZ (mg:=mg) (ps:=m8) X G uu (by walk_at "b2")
 have vm:=aZ (mg:=mg) (ps:=["table"]) X G jb (by walk_at "b1")
 have EL:=aZ (mg:=mg) (ps:=Kf) X G qK (by walk_at "b3")
 have yz:=aZ (mg:=mg) (ps:=["table"]) X G ku (by walk_at "b1")
 have C1:=aZ (mg:=mg) (ps:=m8) X G om (by walk_at "b2")
 have x_:=aZ (mg:=mg) (ps:=["f"]) X G jN (by walk_at "b1")
 have qS:=aZ (mg:=mg) (ps:=ji) X G gx (by walk_at "b1")
 have A_:=aZ (mg:=mg) (ps:=jR) X G mQ (by walk_at "b2")
 have qT:=aZ (mg:=mg) (ps:=jR) X G gy (by walk_at "b2")
 have ya:=aZ (mg:=mg) (ps:=D5) X G jO (by walk_at "b4")
 have vn:=aZ (mg:=mg) (ps:=Kh) X G jc (by walk_at "b3")
 have Bb:=aZ (mg:=mg) (ps:=Kl) X G mR (by walk_at "b2")
 have Lh:=aZ (mg:=mg) (ps:=["rows","p"]) X G xQ (by walk_at "b2")
 have Hv:=aZ (mg:=mg) (ps:=["k","power"]) X G uv (by walk_at "b2")
 have EM:=aZ (mg:=mg) (ps:=AH) X G qL (by walk_at "b3")
 have Hw:IY K mg "lead_at" fO Kc iA:=Mr X G WY WZ W_ Xa (λ_ _ _ _ _ _ us hl=>match us,hl with | [_,_,_,_],_=>rfl) uw
 have Hx:=aZ (mg:=mg) (ps:=Ka) X G uz (by walk_at "b4")
 have Bc:=aZ (mg:=mg) (ps:=G1) X G mS (by walk_at "b3")
 have yC:=aZ (mg:=mg) (ps:=G2) X G kB (by walk_at "b2")
 have Li:=aZ (mg:=mg) (ps:=AI) X G xR (by walk_at "b2")
 have Be:=aZ (mg:=mg) (ps:=Kd) X G mT (by walk_at "b4")
 have EN:=aZ (mg:=mg) (ps:=D7) X G qM (by walk_at "b3")
 have EO:=aZ (mg:=mg) (ps:=Ke) X G qN (by walk_at "b4")
 have ER:=aZ (mg:=mg) (ps:=Kg) X G qO (by walk_at "b4")
 have Lj:=aZ (mg:=mg) (ps:=yi) X G xS (by walk_at "b2")
 have yD:=aZ (mg:=mg) (ps:=yi) X G kC (by walk_at "b2")
 have Nf:=aZ (mg:=mg) (ps:=jR) X G A7 (by walk_at "b2")
 have yE:=aZ (mg:=mg) (ps:=jR) X G kD (by walk_at "b2")
 have C4:=aZ (mg:=mg) (ps:=xr) X G oq (by walk_at "b2")
 have ES:=aZ (mg:=mg) (ps:=xr) X G qP (by walk_at "b2")
 have ET:=aZ (mg:=mg) (ps:=G0) X G qQ (by walk_at "b2")
 have C5:=aZ (mg:=mg) (ps:=D9) X G ou (by walk_at "b1")
 have Hy:=aZ (mg:=mg) (ps:=u9) X G uA (by walk_at "b2")
 have Lk:=aZ (mg:=mg) (ps:=u9) X G xT (by walk_at "b2")
 have Ll:=aZ (mg:=mg) (ps:=J7) X G xU (by walk_at "b3")
 have Hz:=aZ (mg:=mg) (ps:=GY) X G uB (by walk_at "b2")
 have Lm:=aZ (mg:=mg) (ps:=D6) X G xV (by walk_at "b2")
 have Bf:=aZ (mg:=mg) (ps:=J6) X G mU (by walk_at "b4")
 have HA:=aZ (mg:=mg) (ps:=J9) X G uC (by walk_at "b3")
 have yF:=aZ (mg:=mg) (ps:=J_) X G kE (by walk_at "b3")
 have zx:=aZ (mg:=mg) (ps:=GZ) X G uD (by walk_at "b2")
 have HB:=aZ (mg:=mg) (ps:=J8) X G uE (by walk_at "b3")
 have HC:=aZ (mg:=mg) (ps:=J5) X G uF (by walk_at "b4")
 have QD:=aZ (mg:=mg) (ps:=D8) X G EF (by walk_at "b2")
 have Tr:=vY (st:=pX) Xc Xd Xe;have B:iY mg:=⟨Y? X G La,Y? X G EG,Y? X G oz,Y? X G Lb,Y? X G mV,Y? X G Lc,Y? X G EH,Y? X G Ld,Y? X G Le,Y? X G A8,Y? X G qR,Y? X G Lf,Y? X G Lg⟩;refine⟨W? "law" "law" (dF pX) (cE pX) (aq pX) .none Tn To Tp Tj QC Tq,λs v=>.of_eq rfl,λbase _ _ hbm=>?_⟩
 have hPR:∀H,k8 K H gP (PR.map λp:Nat=>V.int (p:Int)):=λH=>by
  have z:k8 K H gP ((PR.map λp:Nat=>(p:Int)).map V.int):=Dn xX xY
  rw[Jg] at z;exact z
 have dnp:=u_ (P:=l.prog) (w:=w) (base:=base) B xZ;have dtk:=AM (P:=l.prog) (w:=w) (base:=base) (K:=K) (mg:=mg) CZ;have Xf:=sD dtk uG;have dt:=jS (P:=l.prog) (w:=w) (base:=base) B kG;have dd:=xA (P:=l.prog) (w:=w) (base:=base) B (ug B vm) (Cd B EL) yz;have dc:=xB (P:=l.prog) (w:=w) (base:=base) B yy;have dm:=yj (P:=l.prog) (w:=w) (base:=base) B A9;have dv:=Eh B dt Hu;have dr:=AR B dc dm dv dd C1;have di:=ve B (Ef B Ht) dr x_;have dwl:=vf (P:=l.prog) (w:=w) (base:=base) B ya;have dlo:=uh (P:=l.prog) (w:=w) (base:=base) B vn;have dfl:=ym (P:=l.prog) (w:=w) (base:=base) B Bb;have Xg:=G6 B dwl dlo dfl Lh;have Xh:=Cz (P:=l.prog) (w:=w) (base:=base) B EM;have dbb:=Ei (P:=l.prog) (w:=w) (base:=base) Hv;have dco:=xF (P:=l.prog) (w:=w) (base:=base) B yC;have Xi:=G7 (P:=l.prog) (w:=w) (base:=base) B Li;have dpb:=yo B dt dm dv dc Be;have dta:=CA B dpb dco EN;have dtb:=CC B Xi EO;have dpw:=CD B dtb ER;have dra:=G9 B Xh dpw Lj;have dwo:=Em (P:=l.prog) (w:=w) (base:=base) B Hx;have dla:=Eo B hbm jK dtk Xf dbb Xh Hw;have dtr:=yp B dnp dla dwo Bc;have dmu:=xG B dra Xg dtr dco Xi yD;have dgr:=KY B Xh dnp dta dmu dtr Xi Nf;have diw:=Cb (P:=l.prog) (w:=w) (base:=base) B EI;have dpr:=CO B (PySem.W.mg_of X G xW) hPR diw EJ;have dip:=uo B diw vj;have dmo:=CP B dip EK;have dbm:=pM B (PySem.W.mg_of X G kF) dmo qS;have dps:=yr B dpr dbm di Xf A_;have drf:=pN B (PySem.W.mg_of X G fQ) (PySem.W.mg_of X G gQ) dps qT;have dwb:=xK B drf dgr Xf yE;have Xj:=A4 (P:=l.prog) (w:=w) (base:=base) B C5;have dti:=Et B Xj Hy;have dpl:=Hl B Xj Lk;have dqp:=Ez (P:=l.prog) (w:=w) (base:=base) B Hz;have Xk:=Hq (P:=l.prog) (w:=w) (base:=base) Lm;have dze:=EA B dti Xk HA;have dpo:=Ex B Xj Ll;have dpi:=EB B (CU B ET) (yt B dqp Bf) dze dpo di (xP B dqp yF) HB;have dbu:=ED B dpi (xO dpl dti zx) dr dti Xk HC;exact QA B (Ho B (Ew B C4) ES) dbu di Xk (xO dpl dti zx) (Nc B (K9 dwb) QD) Tr
theorem walk {l:PySem.W.OpenLaw}{q:F?}{loose:List Str}{XP:(Str->Option l?)->O?->Prop}{YP:H?->O?->Prop}{d:DefRec}{K:Params->bX}(hn:l.most=j? 63)(hdf:d.params.defaults=[])
  (hY:∀(w:H?) (h:O?),YP w h->(K w.params).In h/\PySem.W.TabsAt [(248,246)] h) (hK:∀w:H?,PySem.W.noTabs (K w.params)=true)
  (F:∀(w:H?) (mg:Str->Option l?) (fa:o?) (h:O?),(K w.params).In h->h.Ns G? mg->mg d.name=j? (.ref fa)->
   ∃fd:O!,(∀(s:u?) (u:l?),BindsTo s fd ⟨[u],[]⟩ [("_law_script",u)])/\∀base:O?,(K w.params).In base->base.Ns G? mg->BMain mg base->qY l.prog w (K w.params) mg base GA 13 fa fd ["_law_script"] (Gn (K w.params) 246)):
  PySem.W.WalkO q loose XP YP l.row.toRowW d [] (λf vs=>PySem.call f vs):=
 L2.IX (tabs:=[(248,246)]) (n:=63) (k:=13) (x:="_law_script") (CX:=λ_=>GA) (sp:=λw=>Gn (K w.params) 246) hn (by decide) hdf ⟨rfl,by decide,by decide,rfl⟩ hY hK F (λ_ _ a ns hl hS hT=>⟨a,ns,rfl,hS,hl,hT (248,246) (by simp),λ_=>rfl⟩) λ_ _ _ _ _ z=>z
end K62
structure PySem.W.Fast:Prop where(tw14000447777885371461 tw7894069097491248763 tw2567263738157839575 tw15678664150866860341 tw7782625966184071439 tw11409249283697038524 tw2929826417692025259 tw3866846131407614602 tw1030510021188356418 tw4390414173382978867 tw583122146477787186 tw3525731085623556641 tw14668394258696452942 tw16125997476295404442 tw9635055298969196915 tw9466673222384417664 tw17589093792221121487 tw13884404595158057041 tw11437489762689554297 tw787404619684781105 tw1316288663114270722 tw13672599388130483123 tw1823516226002226494 tw9736788347469488250 tw17344972406777415579 tw5450722696859894016 tw10335706535293712405 tw3369433062621348659 tw16786780040099894505 tw15788033141351477323 tw14941808960794667521 tw11847324005617558968 tw849138690046929710 tw12314203823858622453 tw5556118307043245787 tw4519046420517539858 tw9931837414169286863 tw6291787409896899839 tw13440750153245225966 tw5207809782543373235 tw17557255616998578227 tw5876313942953610757 tw5981104344091978669 tw9898526428228715807 tw7560095172972811877 tw5743976347859336974 tw11289980687948237767 tw8924231652318222356 tw15834607576648869544 tw13277858468347932305 tw421061878116823628 tw10861935811133857061 tw8528234605753864251 tw3699968657948065282 tw5215564474285190044 tw961607127288459092 tw16736905722288972158 tw5614823062357767342 tw12105938096304487426 tw11682900657286683409 tw2163510199799125690 tw9688496482712920380 tw2717638204441697655 tw3386441617663808968 tw5485516224816016206 tw2401651970650133934 tw12532571608077385386 tw7269286387745437677 tw3577399151016331437 tw3633430913542295817 tw915724767894431037 tw13478393039465552399 tw925242984833049870 tw7211402845030740863 tw7983961633448672450 tw9685403712932748055 tw11062623686797159192 tw4859826780562605044 tw14853576419098834526 tw6398150735864262412 tw425805090559812005 tw16293491765647105195 tw4824578560155131774 tw2542090714948207273 tw6258120877268743949 tw15922797368273713738 tw17492819292233036374 tw8293171071717178031 tw14129169918258109672 tw13403357567343996138 tw1273290300246038943 tw464288881005352499 tw12573651228694605608 tw5101041661916880781 tw110746985099790154 tw3479004761199242528 tw13129676371969041612 tw14814454695625821226 tw9396698901882329734 tw8815774444088682180 tw10748936474455969669 tw121542507130845812 tw8804576736254807616 tw193747607970215239 tw909862914985947578 tw11629477544801287760 tw2885849122754340185 tw13053969500628303294 tw6531346396951116890 tw3517086520069563169 tw5236992611117250222 tw13552508561804258265 tw15632215347703994943 tw16261865070307101759 tw535390652689235479 tw6613485592137229215 tw1383543099058686403 tw7973997353480570962 tw6843014818365817963 tw17895349190251049401 tw11202639165026112186 tw237307860835903411 tw8191418703490865935 tw17596818814838492560 tw9958102840506846028 tw17058406300903020159 tw13076288489723045222 tw7526325221525985981 tw14407979997011097573 tw3907947841887576154 tw6444258416977058335 tw8172392870440788767 tw6428538561587898328 tw9818095432058346851 tw6787134243900936642 tw13962674228966686196 tw16818229067871714292 tw6388662840824552984 tw9110769104826458898 tw11719580827009463293 tw4027294850855001501 tw8350742991223300603 tw8080317632460253734 tw14243080830306684457 tw105155698377085622 tw7834024633212806839 tw14206765676079111330 tw16053678989707249912 tw7538071620909491512 tw18073202075627043078 tw668845557752345904 tw11339757838398745633 tw3537810937251154483 tw9287994322458269739 tw5310817246310859071 tw17256462475268366875 tw4350252461573153139 tw429975829691478841 tw1567118045313078143 tw17176792200775055302 tw2965489909637543107 tw11588319760978031218 tw15312466547319888391 tw12248245339044648698 tw4239348557882634815 tw4494696306048070966 tw10821475942250734990 tw4602117362758645100 tw367576943505129793 tw13414130626067480414 tw18235926751615468911 tw15133532250835767065 tw2298545511371018395 tw12798797591121574548 tw18290935961440006181 tw5091859765740090121 tw165517454482141785 tw3856671430245362118 tw9356226019877709488 tw4577829032193504432 tw15537747696481872923 tw8172865338879050202 tw15561577139750108723 tw8725846512929030858 tw3214333126090705656 tw11013660772656782149 tw17959621921402586975 tw12916260908571636887 tw14617048247059285862 tw14891708882562807422 tw8958173959455137229 tw12192243195900594390 tw13907337278263063444 tw1787924100383385869 tw5364144246249570332 tw5986076578961303654 tw10705552465949930236 tw11690028453759365581 tw9191390467903061430 tw7612431774808088095 tw14034446943086420970 tw9890026981813684655 tw14354953153310930149 tw10462529712840274123 tw9145432274882453821 tw15123714765586433192 tw18053197175109430687 tw4364545167846887967 tw6120320012650375556 tw12199869260134189263 tw13774334511438389202 tw10780298487130818949 tw3873379849902508654 tw17840827351115611252 tw13681415698870870168 tw2080172190179383727 tw12624213426495009141 tw2996429380737420185 tw4825773892988087955 tw4019124936984486378 tw9426349510276375913 tw1890462805510707357 tw4704772861812442559 tw18238924101010155154 tw18321230403323829644 tw10637261790898148697 tw14633881539588397471 tw2172224334216155923:True)
open PySem PySem.W PyProof.Rows
local macro_rules | `(tactic| walk_at "gl") => `(tactic| (refine' L2.R5 ?a ?l ?c ?k; (case a => k_is); (case l => k_is); (case c => k_is); (case k => k_is)))
local macro_rules | `(tactic| walk_at "mt") => `(tactic| (refine' L2.mt_mk ?a ?i ?l ?c ?k; (case a => k_is); (case i => k_is); (case l => k_is); (case c => k_is); (case k => k_is)))
set_option maxRecDepth 100000 in
set_option maxHeartbeats 0 in
theorem PySem.Challenge.cw_branchdepth_k62_a_basis_has_the_index_holds : PySem.Challenge.rw_branchdepth_k62_a_basis_has_the_index.Holds := by
 w_on;o_law;k_head;(case hw=>w_witness2)
 k_fill
 refine K62.walk (l:=PySem.Challenge.rw_branchdepth_k62_a_basis_has_the_index) rfl rfl (fun w h Y=>⟨PySem.W.km_in_of Y,List.forall_mem_cons.mpr ⟨⟨PySem.W.codeHd_of_K (c:=248) (P:=246) (PySem.W.km_in_of Y) (by kernel_rfl),PySem.W.km_tabs_of Y 246 (by k_mem)⟩,fun _ h=>nomatch h⟩⟩) (fun w=>by kernel_rfl) ?F
 case F=>
  intro w mg fa h KX G hmg;refine' K62.all_mk KX G hmg ?qH ?qI ?jM ?oj ?iB ?ja ?qJ ?ee ?kq ?mP ?ur ?uu ?jb ?qK ?ku ?om ?jN ?gx ?mQ ?gy ?jO ?jc ?mR ?xQ ?uv ?qL ?WY ?WZ ?W_ ?Xa ?uw ?jK ?uz ?mS ?kB ?xR ?mT ?qM ?qN ?qO ?xS ?kC ?A7 ?kD ?oq ?qP ?qQ ?ou ?uA ?xT ?xU ?uB ?xV ?mU ?uC ?kE ?uD ?uE ?uF ?EF ?Xb ?Xc ?Xd ?Xe ?fQ ?gQ ?kF ?xW ?xX ?xY ?La ?EG ?oz ?Lb ?mV ?Lc ?EH ?Ld ?Le ?A8 ?qR ?Lf ?Lg
  (case qH=>walk_at "gl")
  (case qI=>walk_at "gl")
  (case jM=>walk_at "gl")
  (case oj=>walk_at "gl")
  (case iB=>walk_at "gl")
  (case ja=>walk_at "gl")
  (case qJ=>walk_at "gl")
  (case ee=>walk_at "gl")
  (case kq=>walk_at "gl")
  (case mP=>walk_at "gl")
  (case ur=>walk_at "gl")
  (case uu=>walk_at "gl")
  (case jb=>walk_at "gl")
  (case qK=>walk_at "gl")
  (case ku=>walk_at "gl")
  (case om=>walk_at "gl")
  (case jN=>walk_at "gl")
  (case gx=>walk_at "gl")
  (case mQ=>walk_at "gl")
  (case gy=>walk_at "gl")
  (case jO=>walk_at "gl")
  (case jc=>walk_at "gl")
  (case mR=>walk_at "gl")
  (case xQ=>walk_at "gl")
  (case uv=>walk_at "gl")
  (case qL=>walk_at "gl")
  (case WY=>k_is)
  (case WZ=>k_is)
  (case W_=>k_is)
  (case Xa=>k_is)
  (case uw=>rfl)
  (case jK=>kernel_rfl)
  (case uz=>walk_at "gl")
  (case mS=>walk_at "gl")
  (case kB=>walk_at "gl")
  (case xR=>walk_at "gl")
  (case mT=>walk_at "gl")
  (case qM=>walk_at "gl")
  (case qN=>walk_at "gl")
  (case qO=>walk_at "gl")
  (case xS=>walk_at "gl")
  (case kC=>walk_at "gl")
  (case A7=>walk_at "gl")
  (case kD=>walk_at "gl")
  (case oq=>walk_at "gl")
  (case qP=>walk_at "gl")
  (case qQ=>walk_at "gl")
  (case ou=>walk_at "gl")
  (case uA=>walk_at "gl")
  (case xT=>walk_at "gl")
  (case xU=>walk_at "gl")
  (case uB=>walk_at "gl")
  (case xV=>walk_at "gl")
  (case mU=>walk_at "gl")
  (case uC=>walk_at "gl")
  (case kE=>walk_at "gl")
  (case uD=>walk_at "gl")
  (case uE=>walk_at "gl")
  (case uF=>walk_at "gl")
  (case EF=>walk_at "gl")
  (case Xb=>k_is)
  (case Xc=>k_is)
  (case Xd=>k_is)
  (case Xe=>k_is)
  (case fQ=>k_is)
  (case gQ=>k_is)
  (case kF=>k_is)
  (case xW=>k_is)
  (case xX=>k_is)
  (case xY=>first|rfl|decide +kernel|k_is)
  (case La=>k_is)
  (case EG=>k_is)
  (case oz=>k_is)
  (case Lb=>k_is)
  (case mV=>k_is)
  (case Lc=>k_is)
  (case EH=>k_is)
  (case Ld=>k_is)
  (case Le=>k_is)
  (case A8=>k_is)
  (case qR=>k_is)
  (case Lf=>k_is)
  (case Lg=>k_is)