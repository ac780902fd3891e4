import PyProof.Rows.All
import Wide.All
import OpenK.AllK
import Wide.FinOn
import Lean
import PyProof.EqAt
import PyProof.EqKinds
import PyProof.TupleCall
import KE.KMinKey
import PyProof.Rows.Range3
import KE.KTryMore
import KE.KLam
import KE.KNestM
import KE.KSortKey
import KE.KSortTup
import PySem.Challenge.RW_branchdepth_k61_nothing_lies_beyond
open Option renaming some->j?,none->q?
open PySem renaming Value->l?,Addr->o?,Shared->u?,wpAny_bind->B?,sizeLine_eq->C?,Program->F?,mainGlobals->G?,World->H?,starEach->I?,wpAny_pure->J?,sizeLine->K?,wpAny->L?,Heap->O?,Stmt->Q?,model->S?,mem_of_lookup->U?,Around->A!,wpAny_mono->B!,bootBuiltins->H!,compareOp->J!,PyData->N!,FuncData->O!
open Or renaming inl->z?
open PySem.PassesOwn renaming never->D?
open Bool renaming false_ne_true->E?,and_eq_true->T?
open Option.some renaming inj->M?
open PySem.W renaming nsIn->N?,fnOf->W?,mg_none_of->Y?,keepIn->C!,codeIn->P!
open PySem.F renaming plainAttrs_list->R?,slot_list_append->F!,type_list_append->G!
open Classical renaming byContradiction->V?
open PySem.NameKind renaming free->Z?,cell->K!
open PySem.Obj renaming mapSeq->D!
open PySem.PyData renaming eqv->E!
open PySem.Value renaming ref->I!
open PyProof.Rows renaming callWith_type1->L!
open False renaming elim->M!
set_option Elab.async false
set_option linter.all false
set_option maxRecDepth 100000
local macro_rules|`(tactic|omega)=>`(tactic|first|lia|omega+splitDisjunctions)
abbrev bM:=PySem.W.Frag
open List renaming length_map->Ya,getD_eq_getElem?_getD->Yb,getElem?_eq_getElem->Yc,getElem?_map->Ye,length_range->Yg,length_append->Yi,range->Yj,Nodup->Yl,replicate->Yo,length_replicate->Yp,map_append->Yq,mem_append_right->Yr,getElem?_range->Ys,length_take->Yt,size_toArray->Yv,mem_of_getElem?->Yw,getElem_mem->Yz,getElem?_append_left->Y3,lookup_cons->Y4,getElem?_append_right->Y5,mem_cons_of_mem->Y7,length_drop->Za,mem_cons_self->Zc,ext_getElem?->Ze,getElem?_replicate->Zl,take_of_length_le->Zv,replicate_succ->Zx,map_congr_left->Zy,length_reverse->Z6,not_mem_nil->Z9,zipWith->Wb,getElem_of_mem->Wd,all_eq_true->Wh,range_succ->Wk,eq_nil_of_length_eq_zero->Wl,getElem?_eq_none->Wq,mem_cons->Ws,flatten_cons->Wt,length_set->Wv,length->W1,map_map->W6
open Nat renaming le_refl->Yd,lt_of_lt_of_le->Yk,le_trans->Yn,ne_of_lt->Yu,mul_le_mul_right->Yx,zero_le->Y1,pow_le_pow_right->Y2,not_lt_zero->Zb,mul_le_mul_left->Zg,mul_le_mul->Zi,pow_pos->Zu,pow_add->Zw,lt_irrefl->Zz,pow_succ->Z2,mod_eq_of_lt->Z4,pow_le_pow_left->Z7,lt_of_le_of_lt->Z8,add_sub_cancel->Wa,mul_comm->Wf,add_mul->Wg,pow_lt_pow_right->Wj,add_sub_cancel_left->Wm,pow_mul->Wp,mul_assoc->Wr,le_add_right->Wu,zero_add->Wx,add_zero->Wy,mul_succ->Wz,one_mul->W2,le_of_lt->W3,sub_self->W5,le_succ->W7,mul_add->W8
open Int renaming toNat_natCast->Yf,pow_succ->Yy,mul_zero->Y6,fmod_eq_emod_of_nonneg->Y8,pow_zero->Y9,eq_of_mul_eq_mul_left->Zd,emod_lt_of_pos->Zf,natAbs_mul->Zh,emod_nonneg->Zj,one_mul->Zk,add_zero->Zm,zero_add->Zn,natAbs->Zo,eq_ofNat_of_zero_le->Zq,fdiv_eq_ediv_of_nonneg->Zr,natCast_mul->Zs,mul_comm->Z0,zero_mul->Z1,emod_add_mul_ediv->Z3,mul_assoc->Z5,pow_pos->Wc,toNat_of_nonneg->We,natCast_pow->Wi,mul_one->Wn,pow_add->Wo,pow_ne_zero->Ww,mul_nonneg->W0,le_of_lt->W4
open PySem.Heap renaming get?_push_of_some->Yh,lt_size->Ym,get?_push_size->Y0
abbrev W9:=@if_neg
abbrev Ja:=@if_pos
abbrev Jb:=@decide_eq_true
abbrev Jc:=@of_decide_eq_true
abbrev Jd:=@decide_eq_false
abbrev Je:=@congrArg
abbrev Jg:=@absurd
namespace L2
open PySem PySem.Spec PyProof.Rows
abbrev Key:=Sum Int Str
def ND:Key->l?->Bool
 | .inl k,v=>Value.isInt k v
 | .inr x,v=>Value.isStrOf x v
def UR (w:H?):Key->Int
 | .inl k=>hashInt k
 | .inr x=>hashStr w x
theorem dS:∀ {k:Key} {v:l?},ND k v=true->(∃i t,k=Sum.inl i/\v=Value.int i t)\/(∃x t,k=Sum.inr x/\v=Value.str x t)
 | .inl i,v,h=>by
  obtain⟨t,e⟩:=Value.isInt_shape (k:=i) (v:=v) h;exact .inl ⟨i,t,rfl,e⟩
 | .inr x,v,h=>by
  obtain⟨t,e⟩:=Value.isStrOf_shape (x:=x) (v:=v) h;exact .inr ⟨x,t,rfl,e⟩
theorem OI (a b:Int):decide ((Sum.inl a:Key)=Sum.inl b)=(a == b):=by
 by_cases e:a=b
 ·subst e;simp
 ·have h:¬ (Sum.inl a:Key)=Sum.inl b:=λq=>e (Sum.inl.inj q)
  rw[Jd h];exact(beq_eq_false_iff_ne.mpr e).symm
theorem OJ (a b:Str):decide ((Sum.inr a:Key)=Sum.inr b)=decide (a=b):=by
 by_cases e:a=b
 ·subst e;simp
 ·have h:¬ (Sum.inr a:Key)=Sum.inr b:=λq=>e (Sum.inr.inj q)
  rw[Jd h,Jd e]
theorem OL (a:Int)(b:Str):decide ((Sum.inl a:Key)=Sum.inr b)=false:=Jd (λq=>nomatch q)
theorem OM (a:Str)(b:Int):decide ((Sum.inr a:Key)=Sum.inl b)=false:=Jd (λq=>nomatch q)
def ET (prog:F?)(w:H?):PySem.KeyKind prog w Key where
 is:=ND
 hash:=UR w
 inj:=λv a b ha hb=>by
  rcases dS ha with ⟨i,t,rfl,rfl⟩|⟨x,t,rfl,rfl⟩
  ·rcases dS hb with ⟨j,u,rfl,e⟩|⟨y,u,rfl,e⟩
   ·injection e with e1 _;rw[e1]
   ·exact nomatch e
  ·rcases dS hb with ⟨j,u,rfl,e⟩|⟨y,u,rfl,e⟩
   ·exact nomatch e
   ·injection e with e1 _;rw[e1]
 byValue:=λk v h=>by
  rcases dS h with ⟨i,t,rfl,rfl⟩|⟨x,t,rfl,rfl⟩ <;> rfl
 pyHash:=λhv h=>by
  rcases dS hv with ⟨i,t,rfl,rfl⟩|⟨x,t,rfl,rfl⟩
  ·exact wpAny_pyHash_int h
  ·exact wpAny_pyHash_str h
 eqBool:=λhu hv h=>by
  rcases dS hu with ⟨i,t,rfl,rfl⟩|⟨x,t,rfl,rfl⟩
  ·rcases dS hv with ⟨j,u,rfl,rfl⟩|⟨y,u,rfl,rfl⟩
   ·rw[OI] at h;exact wpAny_eqBool_int h
   ·rw[OL] at h;exact SeqAt.EqAt.int_str i t y u _ _ _ _ h
  ·rcases dS hv with ⟨j,u,rfl,rfl⟩|⟨y,u,rfl,rfl⟩
   ·rw[OM] at h;exact SeqAt.EqAt.str_int x t j u _ _ _ _ h
   ·rw[OJ] at h;exact wpAny_eqBool_str h
 «strs»:=λk x t v h=>by
  rcases dS h with ⟨i,u,rfl,e⟩|⟨y,u,rfl,e⟩
  ·exact nomatch e
  ·injection e with e1 _
   subst e1;cases v <;> rfl
inductive V where
 | fk|bl (b:Bool)|int (i:Int)|str (x:Str)|byt (b:Array UInt8)|flt (b:UInt64)|ref (a:o?)|ty (n:String)
 deriving DecidableEq
def RelV:V->l?->Prop
 | .fk,u=>u=Value.none
 | .bl b,u=>u=Value.bool b
 | .int i,u=>∃t,u=Value.int i t
 | .str x,u=>∃t,u=Value.str x t
 | .byt b,u=>∃t,u=Value.bytes b t
 | .flt b,u=>∃t,u=Value.float b t
 | .ref a,u=>u=I! a
 | .ty n,u=>u=Value.type n
abbrev Vals:List V->List l?->Prop:=Paired RelV
theorem Vals.length {xs:List V}{us:List l?}(r:Vals xs us):xs.length=us.length:=Paired.length r
theorem Vals.get:∀ {xs:List V} {us:List l?} {i:Nat} {x:V},Vals xs us->xs[i]?=j? x->∃u,us[i]?=j? u/\RelV x u
 | _,_,_,_,.nil,e=>by simp at e
 | _,_,0,_,.cons r _,e=>by simp at e;subst e;exact⟨_,rfl,r⟩
 | _,_,i+1,x,.cons _ t,e=>by
  obtain⟨u,h1,h2⟩:=Vals.get (i:=i) (x:=x) t (by simpa using e)
  exact⟨u,by simpa using h1,h2⟩
theorem Vals.set {x:V}{u:l?}(r:RelV x u):∀ {xs:List V} {us:List l?} (i:Nat),Vals xs us->Vals (xs.set i x) (us.set i u)
 | _,_,_,.nil=>.nil
 | _,_,0,.cons _ t=>.cons r t
 | _,_,i+1,.cons q t=>.cons q (Vals.set r i t)
theorem Vals.append:∀ {xs ys:List V} {us ws:List l?},Vals xs us->Vals ys ws->Vals (xs++ys) (us++ws)
 | _,_,_,_,.nil,s=>s
 | _,_,_,_,.cons r t,s=>.cons r (Vals.append t s)
theorem Vals.take:∀ {xs:List V} {us:List l?} (n:Nat),Vals xs us->Vals (xs.take n) (us.take n)
 | _,_,0,_=>.nil
 | _,_,_+1,.nil=>.nil
 | _,_,n+1,.cons r t=>.cons r (Vals.take n t)
theorem Vals.drop:∀ {xs:List V} {us:List l?} (n:Nat),Vals xs us->Vals (xs.drop n) (us.drop n)
 | _,_,0,r=>r
 | _,_,_+1,.nil=>.nil
 | _,_,n+1,.cons _ t=>Vals.drop n t
def RE:Option V->Option l?->Prop
 | some v,j? u=>RelV v u
 | none,q?=>True
 | _,_=>False
def KV {κ:Type}:List (κ×V)->List (κ×l?)->Prop:=Paired λ(p:κ×V) (q:κ×l?)=>p.1=q.1/\RelV p.2 q.2
def kV:Key->V
 | .inl i=>.int i
 | .inr x=>.str x
inductive HO where
 | lst (xs:List V)
 | tup (xs:List V)
 | dK (kvs:List (Key×V))|dT (kvs:List (List Key×V))
 | set (S:Int->Bool) (n:Nat)
 | ins (C dx:o?) (fs:List (Str×V))
 | own (x:o?)
 | xd (fs:List (Str×V))
 | met (f x:o?)
 | oZ (lo hi:Int)
 | HU (o:Obj) (u:HO)
 | vv (ps:Array l?)
 | ext (φ:O?->Prop)
abbrev Hp:=o?->Option HO
def upd (H:Hp)(a:o?)(o:HO):Hp:=λb=>if b=a then j? o else H b
theorem ay {H:Hp}{a:o?}{o:HO}:upd H a o a=j? o:=by unfold upd;rw[Ja rfl]
theorem aL {H:Hp}{a b:o?}{o:HO}(h:b≠a):upd H a o b=H b:=by unfold upd;rw[W9 h]
theorem bK {H:Hp}{a b:o?}{o:HO}(h:H a=j? o)(h':H b=q?):a≠b:=by
 intro e;subst e;rw[h] at h';cases h'
section
variable (P:F?) (w:H?)
def iV (H:Hp)(h:O?)(a:o?):HO->Prop
 | .lst xs=>xs.length<=K?/\∃(its:List l?) (n:Nat),Vals xs its/\h.get? a=j? { cls:=.type "list",data:=.seq its.toArray n }
 | .tup xs=>xs.length<=K?/\∃its:List l?,Vals xs its/\IsTup h a its.toArray
 | .dK kvs=>kvs.length<=K?/\(a == sysModules)=false/\∃vs,KV kvs vs/\h.DictOf (ET P w) a vs
 | .dT kvs=>kvs.length<=K?/\(a == sysModules)=false/\∃xs:List (List Key×o?×l?),
   Paired (λ(p:List Key×V) (q:List Key×o?×l?)=>p.1=q.1/\H q.2.1=j? (.tup (p.1.map kV))/\RelV p.2 q.2.2) kvs xs/\
   ∃o es ep,h.get? a=j? o/\o.ExactDict/\o.data=.dict es ep/\es.toList=xs.map (entryOfKey (tupleKind (ET P w)))/\(xs.map (·.1)).Nodup
 | .set S n=>h.SetOf (intKind P w) a S n
 | .ins C dx fs=>H dx=j? (.own a)/\fs.length<=1000/\dx≠a/\h.get? a=j? (PySem.W.instObj C dx)/\
   ∃mA,h.Ns1 dx mA/\(∀f,RE (fs.lookup f) (mA f))/\PySem.Within mA (fs.map (·.1))
 | .own _=>∃o,h.get? a=j? o
 | .xd fs=>∃mA,h.Ns1 a mA/\∀f,RE (fs.lookup f) (mA f)
 | .oZ lo hi=>∃t u v,h.get? a=j? { cls:=.type "range",data:=.fields #[.int lo t,.int hi u,.int 1 v] }
 | .HU o u=>h.get? a=j? o/\iV H h a u
 | .vv ps=>h.get? a=j? { cls:=.none,data:=.fields ps }
 | .met f x=>h.get? a=j? (PySem.W.methodObj (.ref f) (.ref x))
 | .ext φ=>φ h/\(∃o,h.get? a=j? o)/\∀h1 h2:O?,φ h1->(∀o,h1.get? a=j? o->h2.get? a=j? o)->φ h2
def uK (H:Hp)(h:O?):Prop:=∀a o,H a=j? o->iV P w H h a o
end
section
variable {P:F?} {w:H?} {H H':Hp} {h h':O?} {a:o?} {o:HO}
theorem iV.lt (x:iV P w H h a o):a<h.objs.size:=by
 cases o with
 | lst xs=>obtain⟨_,_,_,_,e⟩:=x;exact Ym e
 | tup xs=>obtain⟨_,_,_,p⟩:=x;exact p.lt
 | dK kvs=>obtain⟨_,_,_,_,o,_,_,e,_⟩:=x;exact Ym e
 | dT kvs=>obtain⟨_,_,_,_,o,_,_,e,_⟩:=x;exact Ym e
 | set S n=>obtain⟨o,_,_,_,e,_⟩:=x;exact Ym e
 | ins C dx fs=>obtain⟨_,_,_,e,_⟩:=x;exact Ym e
 | own y=>obtain⟨_,e⟩:=x;exact Ym e
 | xd fs=>obtain⟨_,⟨_,_,_,e,_⟩,_⟩:=x;exact Ym e
 | oZ lo hi=>obtain⟨_,_,_,e⟩:=x;exact Ym e
 | HU ob u=>obtain⟨e,_⟩:=x;exact Ym e
 | vv ps=>exact Ym (show h.get? a=j? _ from x)
 | met f y=>exact Ym (show h.get? a=j? _ from x)
 | ext φ=>obtain⟨_,⟨_,e⟩,_⟩:=x;exact Ym e
theorem Paired.RG {α β:Type}{F G:α->β->Prop}:∀ {l₁:List α} {l₂:List β},Paired F l₁ l₂->(∀a b,F a b->G a b)->Paired G l₁ l₂
 | _,_,.nil,_=>.nil
 | _,_,.cons r t,f=>.cons (f _ _ r) (Paired.RG t f)
theorem iV.stay (x:iV P w H h a o)(k:∀b u,(b=a\/H b=j? (.own a))->h.get? b=j? u->h'.get? b=j? u)
  (ho:∀b,H b=j? (.own a)->H' b=j? (.own a)) (ht:∀b xs,H b=j? (.tup xs)->H' b=j? (.tup xs)):iV P w H' h' a o:=by
 induction o with
 | lst xs=>obtain⟨z,its,n,r,e⟩:=x;exact⟨z,its,n,r,k _ _ (.inl rfl) e⟩
 | tup xs=>obtain⟨z,its,r,ob,e,c⟩:=x;exact⟨z,its,r,ob,k _ _ (.inl rfl) e,c⟩
 | dK kvs=>obtain⟨z,y,vs,r,ob,es,ep,e,c⟩:=x;exact⟨z,y,vs,r,ob,es,ep,k _ _ (.inl rfl) e,c⟩
 | dT kvs=>
  obtain⟨z,y,xs,r,ob,es,ep,e,c⟩:=x;exact⟨z,y,xs,Paired.RG r λp q z=>⟨z.1,ht _ _ z.2.1,z.2.2⟩,ob,es,ep,k _ _ (.inl rfl) e,c⟩
 | set S n=>obtain⟨ob,es,ep,t,e,c⟩:=x;exact⟨ob,es,ep,t,k _ _ (.inl rfl) e,c⟩
 | ins C dx fs=>
  obtain⟨d,z,ne,e,mA,⟨od,es,ep,e2,c⟩,r⟩:=x;exact⟨ho _ d,z,ne,k _ _ (.inl rfl) e,mA,⟨od,es,ep,k _ _ (.inr d) e2,c⟩,r⟩
 | own y=>obtain⟨ob,e⟩:=x;exact⟨ob,k _ _ (.inl rfl) e⟩
 | xd fs=>obtain⟨mA,⟨od,es,ep,e,c⟩,r⟩:=x;exact⟨mA,⟨od,es,ep,k _ _ (.inl rfl) e,c⟩,r⟩
 | oZ lo hi=>obtain⟨t,u,v,e⟩:=x;exact⟨t,u,v,k _ _ (.inl rfl) e⟩
 | HU ob u ih=>obtain⟨e,q⟩:=x;exact⟨k _ _ (.inl rfl) e,ih q⟩
 | vv ps=>
  have e:h.get? a=j? { cls:=.none,data:=.fields ps }:=x;show h'.get? a=j? { cls:=.none,data:=.fields ps }
  exact k a _ (.inl rfl) e
 | met f y=>
  have e:h.get? a=j? (PySem.W.methodObj (.ref f) (.ref y)):=x;show h'.get? a=j? (PySem.W.methodObj (.ref f) (.ref y))
  exact k a _ (.inl rfl) e
 | ext φ=>obtain⟨p,⟨o,e⟩,st⟩:=x;exact⟨st _ _ p λo q=>k _ _ (.inl rfl) q,⟨o,k _ _ (.inl rfl) e⟩,st⟩
theorem uK.lt (x:uK P w H h)(e:H a=j? o):a<h.objs.size:=(x a o e).lt
theorem uK.fresh (x:uK P w H h)(e:h.objs.size<=a):H a=q?:=by
 cases q:H a with
 | none=>rfl
 | some u=>exact Jg (Yk (x.lt q) e) (Zz _)
theorem uK.kept (x:uK P w H h)(k:∀b u,h.get? b=j? u->h'.get? b=j? u):uK P w H h':=λa o e=>
 (x a o e).stay (λb u _ q=>k b u q) (λ_ q=>q) λ_ _ q=>q
theorem uK.laid (x:uK P w H h)(k:∀b u,h.get? b=j? u->h'.get? b=j? u)(hp:h.objs.size<=a)(new:iV P w (upd H a o) h' a o):uK P w (upd H a o) h':=λb u e=>by
 have hn:=x.fresh hp;by_cases hb:b=a
 ·subst hb;rw[ay] at e;cases e;exact new
 ·rw[aL hb] at e
  exact(x b u e).stay (λc v _ q=>k c v q) (λc q=>by rw[aL (bK q hn)];exact q) λc xs q=>by rw[aL (bK q hn)];exact q
end
def Rd (H:Hp)(a:o?)(u:HO):Prop:=H a=j? u\/∃o,H a=j? (.HU o u)
theorem Rd.ok {P:F?}{w:H?}{H:Hp}{h:O?}{a:o?}{u:HO}(r:Rd H a u)(x:uK P w H h):iV P w H h a u:=by
 rcases r with r|⟨o,r⟩
 ·exact x a u r
 ·obtain⟨_,q⟩:=x a _ r
  exact q
def Ua:Option HO->Prop
 | some (.lst _)=>True
 | some (.dK _)=>True
 | some (.dT _)=>True
 | some (.set _ _)=>True
 | some (.ins _ _ _)=>True
 | some (.ext _)=>True
 | _=>False
section
variable {P:F?} {w:H?} {H:Hp} {h h':O?} {x e:o?} {o':HO}
theorem uK.write (ok:uK P w H h)(mu:Ua (H x))(he:e=x\/H e=j? (.own x))(k:∀b u,b≠e->h.get? b=j? u->h'.get? b=j? u)(Q6:∃u,h'.get? e=j? u)
  (new:iV P w (upd H x o') h' x o'):uK P w (upd H x o') h':=λb u q=>by
 have RH:∀c y,H c=j? (.own y)->c≠x:=λc y r z=>by subst z;rw[r] at mu;exact mu
 have US:∀c xs,H c=j? (.tup xs)->c≠x:=λc xs r z=>by subst z;rw[r] at mu;exact mu
 by_cases hb:b=x
 ·subst hb;rw[ay] at q;cases q;exact new
 ·rw[aL hb] at q
  by_cases hbe:b=e
  ·have q':H b=j? (.own x):=by
    rcases he with z|z
    ·exact Jg (hbe.trans z) hb
    ·rw[hbe];exact z
   rw[q] at q';cases q';obtain⟨v,hv⟩:=Q6;exact⟨v,by rw[hbe];exact hv⟩
  ·refine(ok b u q).stay (λc v hc r=>k c v ?_ r) (λc r=>by rw[aL (RH c b r)];exact r) λc xs r=>by rw[aL (US c xs r)];exact r
   rcases hc with rfl|hc
   ·exact hbe
   ·rintro rfl
    rcases he with z|z
    ·exact RH c b hc z
    ·rw[hc] at z;cases z;exact hb rfl
end
structure Un (fs ex:List o?)(H H':Hp)(h h':O?):Prop where
 keep:∀b o,h.get? b=j? o->H b=q?->b ∉ fs->b ∉ ex->h'.get? b=j? o
 slot:∀b o,h.get? b=j? o->H b=q?->b∈fs->b ∉ ex->∃sl,h'.get? b=j? { o with slots:=sl }
 free:∀b o,h.get? b=j? o->H b=q?->b ∉ ex->H' b=q?
 there:∀b o,h.get? b=j? o->b ∉ ex->∃o',h'.get? b=j? o'
 tups:∀b xs,H b=j? (.tup xs)->H' b=j? (.tup xs)
 yl:∀b o u,H b=j? (.HU o u)->H' b=j? (.HU o u)
 ym:∀b ps,H b=j? (.vv ps)->∃more,H' b=j? (.vv (ps++more))
section
variable {fs fs' ex ex':List o?} {H H1 H2:Hp} {h h1 h2 h':O?} {a x e:o?} {o:HO}
theorem Un.any (u:Un fs ex H H1 h h1){b:o?}{ob:Obj}(q:h.get? b=j? ob)(n:H b=q?)(hx:b ∉ ex):∃sl,h1.get? b=j? { ob with slots:=sl }:=by
 by_cases hb:b∈fs
 ·exact u.slot b ob q n hb hx
 ·exact⟨ob.slots,u.keep b ob q n hb hx⟩
theorem Un.kept (k:∀b u,h.get? b=j? u->h'.get? b=j? u):Un fs ex H H h h':=
 ⟨λb ob q _ _ _=>k b ob q,λb ob q _ _ _=>⟨ob.slots,k b ob q⟩,λ_ _ _ n _=>n,λb ob q _=>⟨ob,k b ob q⟩,λ_ _ q=>q,λ_ _ _ q=>q,λ_ ps q=>⟨#[],by rw[q];simp⟩⟩
theorem Un.refl:Un fs ex H H h h:=Un.kept λ_ _ q=>q
theorem Un.laid (k:∀b u,h.get? b=j? u->h'.get? b=j? u)(hp:h.objs.size<=a)(hn:H a=q?):Un fs ex H (upd H a o) h h' where
 keep:=λb u q _ _ _=>k b u q
 slot:=λb u q _ _ _=>⟨u.slots,k b u q⟩
 free:=λb u q n _=>by rw[aL (Yu (Yk (Ym q) hp))];exact n
 there:=λb u q _=>⟨u,k b u q⟩
 tups:=λb xs q=>by rw[aL (bK q hn)];exact q
 yl:=λb u xs q=>by rw[aL (bK q hn)];exact q
 ym:=λb ps q=>⟨#[],by rw[aL (bK q hn),q];simp⟩
theorem Un.write (mu:Ua (H x))(he:e=x\/H e=j? (.own x))(k:∀b u,b≠e->h.get? b=j? u->h'.get? b=j? u)(Q6:∃u,h'.get? e=j? u):Un fs ex H (upd H x o) h h':=by
 have hx:∀b,H b=q?->b≠x:=λb n z=>by subst z;rw[n] at mu;exact mu
 have hb:∀b,H b=q?->b≠e:=λb n z=>by
  subst z;rcases he with r|r
  ·exact hx b n r
  ·rw[n] at r;cases r
 have hm:∀b u,H b=j? u->¬ Ua (j? u)->b≠x:=λb u q nm z=>by subst z;rw[q] at mu;exact nm mu
 refine⟨λb u q n _ _=>k b u (hb b n) q,λb u q n _ _=>⟨u.slots,k b u (hb b n) q⟩,λb u q n _=>by rw[aL (hx b n)];exact n,λb u q _=>?_,
  λb xs q=>by rw[aL (hm b _ q λz=>z)];exact q,λb u xs q=>by rw[aL (hm b _ q λz=>z)];exact q,λb ps q=>⟨#[],by rw[aL (hm b _ q λz=>z),q];simp⟩⟩
 by_cases hbe:b=e
 ·subst hbe;exact Q6
 ·exact⟨u,k b u hbe q⟩
end
def Ub (h:O?)(H:Hp):List o?:=(Yj h.objs.size).filter λa=>(H a).isSome
def yo (h:O?)(H:Hp):O?:=PySem.W.hideAll h (Ub h H)
theorem Gn (h:O?)(H:Hp):(yo h H).objs.size=h.objs.size:=PySem.W.hideAll_size _ _
theorem HV {h:O?}{H:Hp}{b:o?}{o:Obj}(e:h.get? b=j? o)(n:H b=q?):(yo h H).get? b=j? o:=
 PySem.W.hideAll_get _ e λhm=>by
  have q:(H b).isSome=true:=(List.mem_filter.mp hm).2;rw[n] at q;simp at q
theorem LY {h:O?}{H:Hp}{b:o?}{o:Obj}(e:(yo h H).get? b=j? o):h.get? b=j? o/\H b=q?:=by
 have e':h.get? b=j? o:=PySem.W.of_hideAll (Ub h H) e;refine⟨e',?_⟩
 cases q:H b with
 | none=>rfl
 | some x=>
  have hm:b∈Ub h H:=List.mem_filter.mpr ⟨List.mem_range.mpr (Ym e'),by simp[q]⟩
  have z:(yo h H).get? b=q?:=PySem.W.hideAll_none (Ub h H) hm;rw[z] at e;cases e
structure Mod (K:bM)(mg:Str->Option l?)(base:O?):Prop where
 Uc:K.In base
 glob:base.Ns G? mg
 blt:∃mb,base.Ns builtinsNs mb/\∀x:Str,x≠"__name__"->mb x=H! x
 nolimit:base.NoLimit
structure Cx where
 prog:F?
 w:H?
 K:bM
 mg:Str->Option l?
 base:O?
 A:A!
 N:List Str
 s₀:u?
 H₀:Hp
 env:Env
 outer:List Env
 stack:List Env
 ex:List o?
 fn:Str->Bool
 calm:Bool
 pn:List (o?×Obj)
 xe:l?->u?->Prop
def frs (l:List Env):List o?:=l.filterMap (·.frame)
abbrev Cx.fs (X:Cx):List o?:=frs X.outer
def Q8 (sc:Scope)(x:Str):Prop:=sc.names.lookup x=j? .local\/sc.names.lookup x=j? .cell\/sc.names.lookup x=j? .free
def Loc (sc:Scope)(x:Str):Prop:=sc.names.lookup x=j? .local\/sc.names.lookup x=j? .cell
def Look (env:Env)(h:O?)(m:Str->Option l?)(x:Str)(u:l?):Prop:=
 (env.kindOf x=j? .local/\m x=j? u)\/((env.kindOf x=j? .cell\/env.kindOf x=j? .free)/\∃c,env.cells.lookup x=j? c/\h.IsCell c (j? u))
structure Cx.Ok (X:Cx):Prop where
 mod:Mod X.K X.mg X.base
 kind:X.env.scope.kind=.function
 glob:X.env.globals=G?
 blt:X.env.builtins=builtinsNs
 above:X.s₀.heap.objs.size<=X.env.locals
 inj:∀x y c,X.env.cells.lookup x=j? c->X.env.cells.lookup y=j? c->x=y
 has:∀x,(X.env.kindOf x=j? .cell\/X.env.kindOf x=j? .free)->∃c,X.env.cells.lookup x=j? c
 NF:∀x c,X.fn x=true->X.env.cells.lookup x=j? c->X.s₀.heap.objs.size<=c
 hd:X.calm=true->X.A.handled=q?
 frames:X.A.frames=j? X.stack
 stk:X.stack=X.outer\/(X.stack=X.env::X.outer/\X.env.frame=j? X.env.locals)
 Q9:∀b∈X.ex,b≠X.env.locals/\∀x c,X.env.cells.lookup x=j? c->c≠b
 bs:∀b o,X.base.get? b=j? o->X.s₀.heap.get? b=j? o/\X.H₀ b=q?
 EU:X.base.objs.size<=X.s₀.heap.objs.size
 A7:∀b o,X.base.get? b=j? o->b ∉ X.ex
 A8:∀b∈X.ex,b ∉ X.fs
 nh:X.s₀.heap.FunFrames X.base X.outer
 HW:∀b∈X.fs,X.H₀ b=q?
structure Inv (X:Cx)(pins:List (o?×Obj))(σ:List (Option V))(H:Hp)(s:u?):Prop where
 ok:X.Ok
 os:s.os=X.s₀.os
 bare:AllBare s.gens
 base:Un X.fs X.ex X.H₀ H X.s₀.heap s.heap
 loc:∃m,s.heap.Ns X.env.locals m/\∀(i:Nat) (x:Str) (v:V),X.N[i]?=j? x->σ[i]?=j? (j? v)->Q8 X.env.scope x->∃u,RelV v u/\Look X.env s.heap m x u
 cell:∀x c,X.env.cells.lookup x=j? c->∃v,s.heap.IsCell c v
 free:H X.env.locals=q?
 jm:∀x c,X.env.cells.lookup x=j? c->H c=q?
 pin:∀p∈X.pn++pins,s.heap.get? p.1=j? p.2/\H p.1=q?/\p.1≠X.env.locals/\p.1 ∉ X.fs/\∀v,p.2.data≠.cell v
 hok:uK X.prog X.w H s.heap
 len:σ.length=X.N.length
section
variable {X:Cx} {pins:List (o?×Obj)} {σ:List (Option V)} {H H':Hp} {s:u?} {h':O?}
theorem Cx.Ok.UT (ok:X.Ok){b:o?}{o:Obj}(e:X.base.get? b=j? o):b ∉ X.fs:=λhb=>by
 have:=(ok.nh.mem hb).1
 rw[e] at this;cases this
theorem Inv.bs (I:Inv X pins σ H s):∀b o,X.base.get? b=j? o->s.heap.get? b=j? o/\H b=q?:=λb o e=>
 ⟨I.base.keep b o (I.ok.bs b o e).1 (I.ok.bs b o e).2 (I.ok.UT e) (I.ok.A7 b o e),I.base.free b o (I.ok.bs b o e).1 (I.ok.bs b o e).2 (I.ok.A7 b o e)⟩
theorem Inv.bk (I:Inv X pins σ H s):∀b o,X.base.get? b=j? o->s.heap.get? b=j? o:=λb o e=>(I.bs b o e).1
theorem Inv.mod (I:Inv X pins σ H s):Mod X.K X.mg X.base:=I.ok.mod
theorem Inv.EV (I:Inv X pins σ H s):X.K.In s.heap:=I.ok.mod.Uc.keeps I.bk
theorem Inv.lt (I:Inv X pins σ H s):X.env.locals<s.heap.objs.size:=let ⟨_,hn,_⟩:=I.loc;hn.lt
theorem Inv.sz (I:Inv X pins σ H s):X.s₀.heap.objs.size<=s.heap.objs.size:=Yn I.ok.above (W3 I.lt)
theorem Inv.UU (I:Inv X pins σ H s){a:o?}(h:s.heap.objs.size<=a):a ∉ X.fs:=λhb=>by
 obtain⟨_,o,ho,_⟩:=I.ok.nh.mem hb;exact Jg (Yk (Ym ho) (Yn I.sz h)) (Zz _)
theorem Inv.NG (I:Inv X pins σ H s):∀x c,X.env.cells.lookup x=j? c->c≠X.env.locals:=λx c e z=>by
 obtain⟨v,o,ho,hd⟩:=I.cell x c e;obtain⟨m,⟨o',es,ep,ho',hd',_⟩,_⟩:=I.loc;rw[z,ho'] at ho;cases ho;rw[hd'] at hd;cases hd
theorem Inv.nh (I:Inv X pins σ H s):s.heap.FunFrames X.base X.outer:=by
 have all:∀(l:List Env),(∀b∈frs l,b∈X.fs)->X.s₀.heap.FunFrames X.base l->s.heap.FunFrames X.base l:=by
  intro l;induction l with
  | nil=>intro _ _;trivial
  | cons env r ih=>
   intro hs hl;obtain⟨hk,⟨L,o,hf,hn,ho,hd⟩,hr⟩:=hl;have hL:L∈X.fs:=hs L (by unfold frs;rw[List.filterMap_cons,hf];exact Zc)
   obtain⟨sl,e⟩:=I.base.slot L o ho (I.ok.HW L hL) hL λz=>I.ok.A8 L z hL
   exact⟨hk,⟨L,_,hf,hn,e,hd⟩,ih (λb hb=>hs b (by unfold frs;rw[List.filterMap_cons,hf];exact Y7 _ hb)) hr⟩
 exact all X.outer (λ_ hb=>hb) I.ok.nh
theorem Inv.stack (I:Inv X pins σ H s):s.heap.FunFrames X.base X.stack:=by
 rcases I.ok.stk with e|⟨e,hf⟩
 ·rw[e];exact I.nh
 ·rw[e]
  obtain⟨m,hn,_⟩:=I.loc;refine .cons (by rw[I.ok.kind];decide) hf hn ?_ I.nh
  exact Heap.get?_none_of_le (Yn I.ok.EU I.ok.above)
theorem Inv.tu (I:Inv X pins σ H s):∀b∈frs X.stack,b∈X.env.locals::X.fs:=λb hb=>by
 rcases I.ok.stk with e|⟨e,hf⟩
 ·rw[e] at hb;exact Y7 _ hb
 ·rw[e] at hb
  unfold frs at hb;rw[List.filterMap_cons,hf] at hb;exact hb
theorem Inv.vA (I:Inv X pins σ H s):∀b∈frs X.stack,H b=q?:=λb hb=>by
 rcases List.mem_cons.mp (I.tu b hb) with e|hb
 ·rw[e];exact I.free
 ·obtain⟨_,o,ho,_⟩:=I.ok.nh.mem hb
  exact I.base.free b o ho (I.ok.HW b hb) λz=>I.ok.A8 b z hb
theorem Inv.step {g':Array GenState}{t':Nat}{d':Drawn}{ch:List o?}(I:Inv X pins σ H s)
  (hch:∀b∈ch,(b∈X.ex\/X.s₀.heap.objs.size<=b)/\b≠X.env.locals/\(∀x c,X.env.cells.lookup x=j? c->c≠b)/\∀p∈X.pn++pins,p.1≠b)
  (keep:∀b o,b≠X.env.locals->b ∉ X.fs->b ∉ ch->s.heap.get? b=j? o->H b=q?->h'.get? b=j? o)
  (slot:∀b o,b≠X.env.locals->b∈X.fs->b ∉ ch->s.heap.get? b=j? o->H b=q?->∃sl,h'.get? b=j? { o with slots:=sl }) (free:∀b o,b ∉ ch->s.heap.get? b=j? o->H b=q?->H' b=q?)
  (there:∀b o,b ∉ ch->s.heap.get? b=j? o->∃o',h'.get? b=j? o')
  (tups:∀b xs,H b=j? (.tup xs)->H' b=j? (.tup xs)) (yl:∀b o u,H b=j? (.HU o u)->H' b=j? (.HU o u)) (ym:∀b ps,H b=j? (.vv ps)->∃more,H' b=j? (.vv (ps++more)))
  (ns:∀m,s.heap.Ns X.env.locals m->h'.Ns X.env.locals m) (hok:uK X.prog X.w H' h') (hg:AllBare g'):
  Inv X pins σ H' { s with heap:=h',gens:=g',drawn:=d',toks:=t' }:=by
 have Ud:∀b o,X.s₀.heap.get? b=j? o->b≠X.env.locals:=λb o e=>Yu (Yk (Ym e) I.ok.above)
 have Ue:∀b o,X.s₀.heap.get? b=j? o->b ∉ X.ex->b ∉ ch:=λb o e hx hb=>by
  rcases (hch b hb).1 with z|z
  ·exact hx z
  ·exact Jg (Yk (Ym e) z) (Zz _)
 have cellK:∀x c,X.env.cells.lookup x=j? c->∀v,s.heap.IsCell c v->h'.IsCell c v:=λx c e v ⟨o,ho,hd⟩=>by
  have RI:c ∉ ch:=λz=>(hch c z).2.2.1 x c e rfl
  by_cases hc:c∈X.fs
  ·obtain⟨sl,q⟩:=slot c o (I.NG x c e) hc RI ho (I.jm x c e)
   exact⟨_,q,hd⟩
  ·exact⟨o,keep c o (I.NG x c e) hc RI ho (I.jm x c e),hd⟩
 refine⟨I.ok,I.os,hg,⟨λb o e n hb hx=>?_,λb o e n hb hx=>?_,λb o e n hx=>?_,λb o e hx=>?_,λb xs e=>tups b xs (I.base.tups b xs e),λb o xs e=>yl b o xs (I.base.yl b o xs e),λb ps e=>?_⟩,?_,λx c e=>?_,?_,λx c e=>?_,λp hp=>?_,hok,I.len⟩
 ·exact keep b o (Ud b o e) hb (Ue b o e hx) (I.base.keep b o e n hb hx) (I.base.free b o e n hx)
 ·obtain⟨sl,e1⟩:=I.base.slot b o e n hb hx
  obtain⟨RJ,e2⟩:=slot b _ (Ud b o e) hb (Ue b o e hx) e1 (I.base.free b o e n hx);exact⟨RJ,e2⟩
 ·obtain⟨o',e1⟩:=I.base.there b o e hx
  exact free b o' (Ue b o e hx) e1 (I.base.free b o e n hx)
 ·obtain⟨o',e1⟩:=I.base.there b o e hx
  exact there b o' (Ue b o e hx) e1
 ·obtain⟨m1,e1⟩:=I.base.ym b ps e
  obtain⟨m2,e2⟩:=ym b _ e1;exact⟨m1++m2,by rw[e2,Array.append_assoc]⟩
 ·obtain⟨m,hn,hl⟩:=I.loc
  refine⟨m,ns m hn,λi x v e1 e2 e3=>?_⟩
  obtain⟨u,r,l⟩:=hl i x v e1 e2 e3;refine⟨u,r,?_⟩
  rcases l with l|⟨k,c,e,z⟩
  ·exact .inl l
  ·exact .inr ⟨k,c,e,cellK x c e _ z⟩
 ·obtain⟨v,z⟩:=I.cell x c e
  exact⟨v,cellK x c e v z⟩
 ·obtain⟨m,⟨o,_,_,ho,_⟩,_⟩:=I.loc
  exact free _ o (λz=>(hch _ z).2.1 rfl) ho I.free
 ·obtain⟨v,o,ho,hd⟩:=I.cell x c e
  exact free c o (λz=>(hch c z).2.2.1 x c e rfl) ho (I.jm x c e)
 ·obtain⟨e,n,ne,nf,d⟩:=I.pin p hp
  have RI:p.1 ∉ ch:=λz=>(hch p.1 z).2.2.2 p hp rfl
  exact⟨keep p.1 p.2 ne nf RI e n,free p.1 p.2 RI e n,ne,nf,d⟩
theorem Inv.un {t':Nat}(I:Inv X pins σ H s)(u:Un X.fs [] H H' s.heap h')(hok:uK X.prog X.w H' h'):Inv X pins σ H' { s with heap:=h',toks:=t' }:=by
 obtain⟨m,⟨o,es,ep,ho,r⟩,_⟩:=id I.loc;obtain⟨sl,hL⟩:=u.any ho I.free (by simp)
 exact I.step (g':=s.gens) (d':=s.drawn) (ch:=[]) (λ_ z=>nomatch z) (λb o _ hb _ e n=>u.keep b o e n hb (by simp)) (λb o _ hb _ e n=>u.slot b o e n hb (by simp)) (λb o _ e n=>u.free b o e n (by simp)) (λb o _ e=>u.there b o e (by simp)) u.tups u.yl u.ym (λm' hm=>by
  obtain⟨o',es',UW,ho',r'⟩:=hm;rw[ho] at ho';cases ho';exact⟨_,es',UW,hL,r'⟩) hok I.bare
theorem Inv.call {g':Array GenState}{t':Nat}{d':Drawn}{ch:List o?}(I:Inv X pins σ H s)(u:Un (frs X.stack) ch H H' s.heap h')(hok:uK X.prog X.w H' h')(hg:AllBare g')
  (hch:∀b∈ch,(b∈X.ex\/X.s₀.heap.objs.size<=b)/\b≠X.env.locals/\(∀x c,X.env.cells.lookup x=j? c->c≠b)/\∀p∈X.pn++pins,p.1≠b):
  Inv X pins σ H' { s with heap:=h',gens:=g',drawn:=d',toks:=t' }:=by
 obtain⟨m,⟨o,es,ep,ho,r⟩,_⟩:=id I.loc;obtain⟨sl,hL⟩:=u.any ho I.free λz=>(hch _ z).2.1 rfl
 exact I.step (ch:=ch) hch (λb o hL hb hc e n=>u.keep b o e n (λz=>(List.mem_cons.mp (I.tu b z)).elim hL hb) hc) (λb o _ _ hc e n=>u.any e n hc) (λb o hc e n=>u.free b o e n hc) (λb o hc e=>u.there b o e hc) u.tups u.yl u.ym (λm' hm=>by
  obtain⟨o',es',UW,ho',r'⟩:=hm;rw[ho] at ho';cases ho';exact⟨_,es',UW,hL,r'⟩) hok hg
theorem Inv.turned {t':Nat}{it:o?}(I:Inv X pins σ H s)(k:∀b o,b≠it->s.heap.get? b=j? o->h'.get? b=j? o)(hn:H it=q?)(hL:it≠X.env.locals)
  (h1:it∈X.ex\/X.s₀.heap.objs.size<=it) (h2:∀x c,X.env.cells.lookup x=j? c->c≠it) (h3:∀p∈X.pn++pins,p.1≠it):Inv X pins σ H { s with heap:=h',toks:=t' }:=by
 have NH:∀b u,H b=j? u->b≠it:=λb u e z=>by rw[z,hn] at e;cases e
 refine I.step (g':=s.gens) (d':=s.drawn) (ch:=[it]) (λb hb=>?_) (λb o _ _ hc e _=>k b o (λz=>hc (by simp[z])) e) (λb o _ _ hc e _=>⟨o.slots,k b o (λz=>hc (by simp[z])) e⟩) (λ_ _ _ _ n=>n)
  (λb o hc e=>⟨o,k b o (λz=>hc (by simp[z])) e⟩) (λ_ _ e=>e) (λ_ _ _ e=>e) (λb ps e=>⟨#[],by rw[e];simp⟩) (λm hm=>?_) (λb u e=>?_) I.bare
 ·have e:b=it:=by simpa using hb
  subst e;exact⟨h1,hL,h2,h3⟩
 ·obtain⟨o,es,ep,ho,r⟩:=hm
  exact⟨o,es,ep,k _ o (Ne.symm hL) ho,r⟩
 ·refine(I.hok b u e).stay (λc v hc q=>k c v ?_ q) (λ_ q=>q) λ_ _ q=>q
  rcases hc with z|z
  ·rw[z];exact NH b u e
  ·exact NH c _ z
theorem Inv.tok (I:Inv X pins σ H s)(t:Nat):Inv X pins σ H { s with toks:=t }:=I.un (h':=s.heap) (t':=t) Un.refl I.hok
theorem Inv.kept {t':Nat}(I:Inv X pins σ H s)(k:∀b u,s.heap.get? b=j? u->h'.get? b=j? u):Inv X pins σ H { s with heap:=h',toks:=t' }:=I.un (Un.kept k) (I.hok.kept k)
theorem Inv.laid {a:o?}{o:HO}{t':Nat}(I:Inv X pins σ H s)(k:∀b u,s.heap.get? b=j? u->h'.get? b=j? u)(hp:s.heap.objs.size<=a)(new:iV X.prog X.w (upd H a o) h' a o):
  Inv X pins σ (upd H a o) { s with heap:=h',toks:=t' }:=I.un (Un.laid k hp (I.hok.fresh hp)) (I.hok.laid k hp new)
theorem Inv.write {x e:o?}{o:HO}{t':Nat}(I:Inv X pins σ H s)(mu:Ua (H x))(he:e=x\/H e=j? (.own x))(k:∀b u,b≠e->s.heap.get? b=j? u->h'.get? b=j? u)(Q6:∃u,h'.get? e=j? u)
  (new:iV X.prog X.w (upd H x o) h' x o):Inv X pins σ (upd H x o) { s with heap:=h',toks:=t' }:=I.un (Un.write mu he k Q6) (I.hok.write mu he k Q6 new)
theorem Inv.EW {uL:List (o?×Obj)}(I:Inv X pins σ H s)(h:∀p∈uL,s.heap.get? p.1=j? p.2/\H p.1=q?/\p.1≠X.env.locals/\p.1 ∉ X.fs/\∀v,p.2.data≠.cell v):Inv X uL σ H s:=
 ⟨I.ok,I.os,I.bare,I.base,I.loc,I.cell,I.free,I.jm,λp hp=>(List.mem_append.mp hp).elim (λz=>I.pin p (List.mem_append_left _ z)) (h p),I.hok,I.len⟩
theorem A9 {N:List Str}(hN:N.Nodup){i j:Nat}{x:Str}(a:N[i]?=j? x)(b:N[j]?=j? x):i=j:=by
 obtain⟨h1,e1⟩:=List.getElem?_eq_some_iff.mp a;obtain⟨h2,e2⟩:=List.getElem?_eq_some_iff.mp b;exact(List.getElem_inj hN).mp (e1.trans e2.symm)
theorem tw {M:Model}{A:A!}{E:l?->u?->Prop}{i:Nat}{x:Str}{v:V}{u:l?}{Q:Unit->u?->Prop}(I:Inv X pins σ H s)(hN:X.N.Nodup)(hi:X.N[i]?=j? x)(hx:Loc X.env.scope x)(r:RelV v u)
  (h:∀s',Inv X pins (σ.set i (j? v)) H s'->(∃a,Heap.SameBut a s.heap s'.heap/\(a=X.env.locals\/X.env.cells.lookup x=j? a))->Q () s') (hf:X.fn x=true\/X.env.scope.names.lookup x=j? .local:=by first|exact .inl rfl|exact .inr rfl|assumption):L? M A (storeName X.env x u) Q E s:=by
 obtain⟨m,hn,hl⟩:=id I.loc;have hcls:(X.env.scope.kind == .class || (X.env.scope.kind == .module && X.env.locals != X.env.globals))=false:=by rw[I.ok.kind];rfl
 have RK:i<σ.length:=by rw[I.len];exact(List.getElem?_eq_some_iff.mp hi).1
 have NG:=I.NG;have tracked:∀ {a:o?} {h':O?},(∃o,s.heap.get? a=j? o/\H a=q?)->Heap.SameBut a s.heap h'->uK X.prog X.w H h':=λ{a h'} ha hs b ob e=>by
  obtain⟨_,_,hfree⟩:=ha;refine(I.hok b ob e).stay (λc w' hc q=>(hs.2 c ?_).trans q) (λ_ q=>q) λ_ _ q=>q
  rintro rfl;rcases hc with rfl|hc
  ·rw[hfree] at e;cases e
  ·rw[hfree] at hc;cases hc
 rcases hx with hk|hk
 ·refine wpAny_storeName_local hk hn (λh' hn' hs=>?_) hcls
  obtain⟨oL,_,_,hoL,_⟩:=id hn;refine h _ ⟨I.ok,I.os,I.bare,⟨λb o e n hb hx=>?_,λb o e n hb hx=>?_,I.base.free,λb o e hx=>?_,I.base.tups,I.base.yl,I.base.ym⟩,⟨_,hn',λj y v' e1 e2 e3=>?_⟩,λy c e=>?_,I.free,I.jm,λp hp=>?_,tracked ⟨oL,hoL,I.free⟩ hs,by simpa using I.len⟩ ⟨_,hs,.inl rfl⟩
  ·exact(hs.2 b (Yu (Yk (Ym e) I.ok.above))).trans (I.base.keep b o e n hb hx)
  ·obtain⟨sl,e1⟩:=I.base.slot b o e n hb hx
   exact⟨sl,(hs.2 b (Yu (Yk (Ym e) I.ok.above))).trans e1⟩
  ·obtain⟨o',e1⟩:=I.base.there b o e hx
   exact⟨o',(hs.2 b (Yu (Yk (Ym e) I.ok.above))).trans e1⟩
  ·by_cases hj:j=i
   ·subst hj
    rw[hi] at e1;cases e1;rw[List.getElem?_set_self RK] at e2;cases e2;exact⟨u,r,.inl ⟨hk,by simp⟩⟩
   ·rw[List.getElem?_set_ne (Ne.symm hj)] at e2
    obtain⟨u',r',q⟩:=hl j y v' e1 e2 e3;refine⟨u',r',?_⟩
    rcases q with ⟨k,e⟩|⟨k,c,e,z⟩
    ·refine .inl ⟨k,?_⟩
     have:y≠x:=λe=>hj (A9 hN e1 (e ▸ hi))
     simp[this,e]
    ·exact .inr ⟨k,c,e,z.sameBut hs (NG y c e)⟩
  ·obtain⟨w',z⟩:=I.cell y c e
   exact⟨w',z.sameBut hs (NG y c e)⟩
  ·obtain⟨e,n,ne,nf,d⟩:=I.pin p hp
   exact⟨(hs.2 p.1 ne).trans e,n,ne,nf,d⟩
 ·have hfn:X.fn x=true:=by
   rcases hf with z|z
   ·exact z
   ·rw[z] at hk;cases hk
  obtain⟨c,hc⟩:=I.ok.has x (.inl hk);obtain⟨w',z⟩:=I.cell x c hc;refine wpAny_storeName_cell I.ok.kind hk hc z (λh' hc' hs=>?_)
  obtain⟨oc,hoc,UX⟩:=id z;refine h { s with heap:=h' } ⟨I.ok,I.os,I.bare,⟨λb o e n hb hx=>?_,λb o e n hb hx=>?_,I.base.free,λb o e hx=>?_,I.base.tups,I.base.yl,I.base.ym⟩,⟨m,hn.sameBut hs (Ne.symm (NG x c hc)),λj y v' e1 e2 e3=>?_⟩,λy c' e=>?_,I.free,I.jm,λp hp=>?_,tracked ⟨oc,hoc,I.jm x c hc⟩ hs,by simpa using I.len⟩ ⟨c,hs,.inr hc⟩
  ·exact(hs.2 b (Yu (Yk (Ym e) (I.ok.NF x c hfn hc)))).trans (I.base.keep b o e n hb hx)
  ·obtain⟨sl,e1⟩:=I.base.slot b o e n hb hx
   exact⟨sl,(hs.2 b (Yu (Yk (Ym e) (I.ok.NF x c hfn hc)))).trans e1⟩
  ·obtain⟨o',e1⟩:=I.base.there b o e hx
   exact⟨o',(hs.2 b (Yu (Yk (Ym e) (I.ok.NF x c hfn hc)))).trans e1⟩
  ·by_cases hj:j=i
   ·subst hj
    rw[hi] at e1;cases e1;rw[List.getElem?_set_self RK] at e2;cases e2;exact⟨u,r,.inr ⟨.inl hk,c,hc,hc'⟩⟩
   ·rw[List.getElem?_set_ne (Ne.symm hj)] at e2
    obtain⟨u',r',q⟩:=hl j y v' e1 e2 e3;refine⟨u',r',?_⟩
    rcases q with q|⟨k,c',e,z'⟩
    ·exact .inl q
    ·refine .inr ⟨k,c',e,z'.sameBut hs ?_⟩
     rintro rfl;exact hj (A9 hN e1 (I.ok.inj _ _ _ e hc ▸ hi))
  ·by_cases hcc:c'=c
   ·subst hcc;exact⟨_,hc'⟩
   ·obtain⟨w2,z2⟩:=I.cell y c' e
    exact⟨w2,z2.sameBut hs hcc⟩
  ·obtain⟨e,n,ne,nf,d⟩:=I.pin p hp
   refine⟨(hs.2 p.1 ?_).trans e,n,ne,nf,d⟩
   intro q;rw[q,hoc] at e;have q':oc=p.2:=M? e;exact d w' (by rw[<- q'];exact UX)
theorem ni {M:Model}{A:A!}{E:l?->u?->Prop}{i:Nat}{x:Str}{v:V}{u:l?}{Q:Unit->u?->Prop}(I:Inv X pins σ H s)(hN:X.N.Nodup)(hi:X.N[i]?=j? x)(hx:Loc X.env.scope x)(r:RelV v u)
  (h:∀s',Inv X pins (σ.set i (j? v)) H s'->Q () s') (hf:X.fn x=true\/X.env.scope.names.lookup x=j? .local:=by first|exact .inl rfl|exact .inr rfl|assumption):L? M A (storeName X.env x u) Q E s:=
 tw I hN hi hx r (λs' I' _=>h s' I') hf
theorem Inv.HX {s':u?}{ch:List o?}(I:Inv X pins σ H s)(ho:s'.os=s.os)(u:Un (frs X.stack) ch H H' s.heap s'.heap)(hok:uK X.prog X.w H' s'.heap)(hg:AllBare s'.gens)
  (hch:∀b∈ch,(b∈X.ex\/X.s₀.heap.objs.size<=b)/\b≠X.env.locals/\(∀x c,X.env.cells.lookup x=j? c->c≠b)/\∀p∈X.pn++pins,p.1≠b):Inv X pins σ H' s':=by
 obtain⟨h',g',d',t',o'⟩:=s';have e:o'=s.os:=ho;subst e;exact I.call (g':=g') (t':=t') (d':=d') u hok hg hch
end
abbrev XK:=l?->Option o?->Hp->Prop
abbrev St:=List (Option V)
abbrev VK:=V->Hp->Prop
abbrev TE:=St->Hp->VK->Prop
abbrev TT:=St->Hp->(Bool->Hp->Prop)->Prop
abbrev TA:=St->Hp->(List V->Hp->Prop)->Prop
structure Ends where
 nx:St->Hp->Prop
 rt:VK
 bk:St->Hp->Prop:=λ_ _=>False
 ct:St->Hp->Prop:=λ_ _=>False
abbrev TS:=Ends->St->Hp->Prop
def EP (X:Cx)(pins:List (o?×Obj))(σ:St)(Q:VK)(u:l?)(s':u?):Prop:=∃v H',Inv X pins σ H' s'/\RelV v u/\Q v H'
def TP (X:Cx)(pins:List (o?×Obj))(σ:St)(Q:Bool->Hp->Prop)(b:Bool)(s':u?):Prop:=∃H',Inv X pins σ H' s'/\Q b H'
def AP (X:Cx)(pins:List (o?×Obj))(σ:St)(Q:List V->Hp->Prop)(us:List l?)(s':u?):Prop:=∃vs H',Inv X pins σ H' s'/\Vals vs us/\Q vs H'
def SP (X:Cx)(pins:List (o?×Obj))(D:Ends)(f:Flow)(s':u?):Prop:=
 match f with
 | .next=>∃σ' H',Inv X pins σ' H' s'/\D.nx σ' H'
 | .brk=>∃σ' H',Inv X pins σ' H' s'/\D.bk σ' H'
 | .cont=>∃σ' H',Inv X pins σ' H' s'/\D.ct σ' H'
 | .ret u=>∃v σ' H',Inv X pins σ' H' s'/\RelV v u/\D.rt v H'
structure C9 (p:Prop):Prop where
 out:p
instance {α:Sort _}{β:α->Prop}:CoeFun (C9 (∀a,β a)) (λ_=>∀a,β a):=⟨C9.out⟩
abbrev PE (X:Cx)(e:Expr)(t:TE):Prop:=C9 (
 ∀(pins:List (o?×Obj)) (s:u?) (σ:St) (H:Hp) (Q:VK),Inv X pins σ H s->t σ H Q->L? (S? X.prog X.w) X.A (eval e X.env) (EP X pins σ Q) X.xe s)
abbrev PT (X:Cx)(e:Expr)(t:TT):Prop:=C9 (
 ∀(pins:List (o?×Obj)) (s:u?) (σ:St) (H:Hp) (Q:Bool->Hp->Prop),Inv X pins σ H s->t σ H Q->L? (S? X.prog X.w) X.A (isTrue e X.env (eval e X.env)) (TP X pins σ Q) X.xe s)
def PW (X:Cx)(e:Expr)(t:TT):Prop:=
 ∀(whole:Sem l?) (pins:List (o?×Obj)) (s:u?) (σ:St) (H:Hp) (Q:Bool->Hp->Prop),Inv X pins σ H s->t σ H Q->L? (S? X.prog X.w) X.A (isTrue e X.env whole) (TP X pins σ Q) X.xe s
theorem PW.pt {X:Cx}{e:Expr}{t:TT}(h:PW X e t):PT X e t:=⟨h _⟩
abbrev PA (X:Cx)(es:List Expr)(t:TA):Prop:=C9 (
 ∀(pos:Pos) (pins:List (o?×Obj)) (s:u?) (σ:St) (H:Hp) (Q:List V->Hp->Prop),Inv X pins σ H s->t σ H Q->L? (S? X.prog X.w) X.A (spliced (backTo pos (I? es X.env))) (AP X pins σ Q) X.xe s)
abbrev PS (X:Cx)(st:Q?)(t:TS):Prop:=C9 (
 ∀(pins:List (o?×Obj)) (s:u?) (σ:St) (H:Hp) (D:Ends),Inv X pins σ H s->t D σ H->L? (S? X.prog X.w) X.A (exec st X.env) (SP X pins D) X.xe s)
abbrev A_ (X:Cx)(st:List Q?)(t:TS):Prop:=C9 (
 ∀(pins:List (o?×Obj)) (s:u?) (σ:St) (H:Hp) (D:Ends),Inv X pins σ H s->t D σ H->L? (S? X.prog X.w) X.A (execs st X.env) (SP X pins D) X.xe s)
theorem eV {α:Type}{t:Sem α}{Q Q':α->u?->Prop}{M:Model}{A:A!}{E:l?->u?->Prop}{s:u?}(h:L? M A t Q E s)(hQ:∀a s,Q a s->Q' a s):L? M A t Q' E s:=B! h hQ λ_ _ x=>x
section
variable {X:Cx}
def OO (i:Nat):TE:=λσ H Q=>∃v,σ[i]?=j? (j? v)/\Q v H
def tC (v:V):TE:=λ_ H Q=>Q v H
theorem OP {i:Nat}{x:Str}{pos:Pos}(hN:X.N[i]?=j? x)(hv:Q8 X.env.scope x)(hd:(x ==("__debug__":Str))=false:=by decide)(hcd:(x ==("__classdict__":Str))=false:=by decide):PE X (.Name x pos) (OO i):=by
 refine⟨?_⟩
 intro pins s σ H Q I h;obtain⟨v,e,h⟩:=h;obtain⟨m,hn,hl⟩:=I.loc;obtain⟨u,r,l⟩:=hl i x v hN e hv;have fin:EP X pins σ Q u s:=⟨v,H,I,r,h⟩;rcases l with ⟨hk,hm⟩|⟨hk,c,hc,hcell⟩
 ·exact wpAny_Name (wpAny_loadName_local I.ok.kind hk hn hm fin) hd
 ·rcases hk with hk|hk
  ·exact wpAny_Name (wpAny_loadName_cell I.ok.kind hk hc hcell fin) hd
  ·exact wpAny_Name (wpAny_loadName_free I.ok.kind hk hc hcell fin hcd) hd
theorem ak {i j pos}:PE X (.Constant (.int i) j pos) (tC (.int i)):=⟨λ_ _ _ H _ I h=>wpAny_Constant_int ⟨.int i,H,I.tok _,⟨_,rfl⟩,h⟩⟩
theorem uM {b j pos}:PE X (.Constant (.bool b) j pos) (tC (.bl b)):=⟨λ_ _ _ H _ I h=>Constant_bool ⟨.bl b,H,I,rfl,h⟩⟩
theorem tD {j pos}:PE X (.Constant .none j pos) (tC .fk):=⟨λ_ _ _ H _ I h=>Constant_none ⟨.fk,H,I,rfl,h⟩⟩
theorem zF {x j pos}:PE X (.Constant (.str x) j pos) (tC (.str x)):=⟨λ_ _ _ H _ I h=>Calls.Constant_str ⟨.str x,H,I.tok _,⟨_,rfl⟩,h⟩⟩
def Gl (X:Cx)(x:Str):Prop:=X.env.kindOf x=j? .globalImplicit
theorem zG {E:l?->u?->Prop}{pins:List (o?×Obj)}{s:u?}{σ:St}{H:Hp}{x:Str}{u:l?}{pos:Pos}{Q:l?->u?->Prop}(I:Inv X pins σ H s)(hg:Gl X x)(hm:X.mg x=j? u)(h:Q u s)
  (hd:(x ==("__debug__":Str))=false:=by decide):L? (S? X.prog X.w) X.A (eval (.Name x pos) X.env) Q E s:=
 Calls.Name_function_global I.ok.kind hg (Calls.loadGlobal_global (by rw[I.ok.glob];exact I.mod.glob.keeps I.bk) hm h) hd
theorem jD {E:l?->u?->Prop}{pins:List (o?×Obj)}{s:u?}{σ:St}{H:Hp}{x:Str}{u:l?}{pos:Pos}{Q:l?->u?->Prop}(I:Inv X pins σ H s)(hg:Gl X x)(hm:X.mg x=q?)(hv:H! x=j? u)(h:Q u s)
  (hn:x≠"__name__":=by decide) (hd:(x ==("__debug__":Str))=false:=by decide):L? (S? X.prog X.w) X.A (eval (.Name x pos) X.env) Q E s:=by
 obtain⟨mb,h1,h2⟩:=I.mod.blt;exact Calls.Name_function_global I.ok.kind hg (Calls.loadGlobal_builtin (by rw[I.ok.glob];exact I.mod.glob.keeps I.bk) hm (by rw[I.ok.blt];exact h1.keeps I.bk) ((h2 x hn).trans hv) h) hd
theorem vB {x:Str}{v:V}{u:l?}{pos:Pos}(hg:Gl X x)(hm:X.mg x=j? u)(r:RelV v u)(hd:(x ==("__debug__":Str))=false:=by decide):PE X (.Name x pos) (tC v):=
 ⟨λ_ _ _ H _ I h=>zG I hg hm ⟨v,H,I,r,h⟩ hd⟩
theorem zH {x:Str}{v:V}{u:l?}{pos:Pos}(hg:Gl X x)(hm:X.mg x=q?)(hv:H! x=j? u)(r:RelV v u)(hn:x≠"__name__":=by decide)(hd:(x ==("__debug__":Str))=false:=by decide):PE X (.Name x pos) (tC v):=
 ⟨λ_ _ _ H _ I h=>jD I hg hm hv ⟨v,H,I,r,h⟩ hn hd⟩
variable {a b:Expr} {ta tb:TE} {pos:Pos}
def tB (t:TE):TT:=λσ H Q=>t σ H λx H1=>∃c,x=.bl c/\Q c H1
theorem pW {e:Expr}{t:TE}(h:PE X e t)(he:∀whole,isTrue e X.env whole=(do let v <- whole;standAt e.pos;holding [v] (truthy v)):=by intro _;rfl):PT X e (tB t):=by
 refine⟨?_⟩
 intro pins s σ H Q I hw;refine isTrue_plain (eV (h pins s σ H _ I hw) λv s1 ⟨x,H1,I1,r1,q1⟩=>?_) (he _)
 obtain⟨d,rfl,q⟩:=q1;cases r1;exact wpAny_truthy_bool ⟨H1,I1,q⟩
variable {tA Ug:TT} {rest:List Expr}
def UY (t u:TT):TT:=λσ H Q=>t σ H λc H1=>if c=true then u σ H1 Q else Q false H1
def tOr (t u:TT):TT:=λσ H Q=>t σ H λc H1=>if c=true then Q true H1 else u σ H1 Q
def UZ (t:TT):TT:=λσ H Q=>t σ H λc H1=>Q (!c) H1
theorem EX (ha:PT X a tA):PW X (.BoolOp .And [a] pos) tA:=by
 intro wh pins s σ H Q I h;refine isTrue_and (eV (ha pins s σ H Q I h) λc s1 e=>?_)
 cases c with
 | true=>exact isTrue_and_nil e
 | false=>exact e
theorem C_ (ha:PT X a tA):PW X (.BoolOp .Or [a] pos) tA:=by
 intro wh pins s σ H Q I h;refine isTrue_or (eV (ha pins s σ H Q I h) λc s1 e=>?_)
 cases c with
 | false=>exact isTrue_or_nil e
 | true=>exact e
theorem HY (ha:PT X a tA)(hb:PW X (.BoolOp .And (b::rest) pos) Ug):PW X (.BoolOp .And (a::b::rest) pos) (UY tA Ug):=by
 intro wh pins s σ H Q I h;refine isTrue_and (eV (ha pins s σ H _ I h) λc s1 ⟨H1,I1,q1⟩=>?_)
 cases c with
 | true=>exact hb wh pins s1 σ H1 Q I1 q1
 | false=>exact⟨H1,I1,q1⟩
theorem HZ (ha:PT X a tA)(hb:PW X (.BoolOp .Or (b::rest) pos) Ug):PW X (.BoolOp .Or (a::b::rest) pos) (tOr tA Ug):=by
 intro wh pins s σ H Q I h;refine isTrue_or (eV (ha pins s σ H _ I h) λc s1 ⟨H1,I1,q1⟩=>?_)
 cases c with
 | true=>exact⟨H1,I1,q1⟩
 | false=>exact hb wh pins s1 σ H1 Q I1 q1
theorem vQ (ha:PT X a tA):PT X (.UnaryOp .Not a pos) (UZ tA):=by
 refine⟨?_⟩
 intro pins s σ H Q I h;exact isTrue_not (ha pins s σ H (λc H1=>Q (!c) H1) I h)
def RL (ta tb:TE):TE:=λσ H Q=>ta σ H λx H1=>∃c,x=.bl c/\if c=true then tb σ H1 Q else Q (.bl false) H1
def U0 (ta tb:TE):TE:=λσ H Q=>ta σ H λx H1=>∃c,x=.bl c/\if c=true then Q (.bl true) H1 else tb σ H1 Q
def RM (ta:TE):TE:=λσ H Q=>ta σ H λx H1=>∃c,x=.bl c/\Q (.bl (!c)) H1
theorem vR {op}{t:TE}(h:PE X a t):PE X (.BoolOp op [a] pos) t:=⟨λpins s σ H Q I hw=>BoolOp_one (h pins s σ H Q I hw)⟩
theorem vS (ha:PE X a ta)(hb:PE X (.BoolOp .And (b::rest) pos) tb):PE X (.BoolOp .And (a::b::rest) pos) (RL ta tb):=by
 refine⟨?_⟩
 intro pins s σ H Q I h;refine BoolOp_and (eV (ha pins s σ H _ I h) λv s1 ⟨x,H1,I1,r1,q1⟩=>?_)
 obtain⟨c,rfl,q1⟩:=q1;cases r1;refine wpAny_truthy_bool ?_
 cases c with
 | true=>exact hb pins s1 σ H1 Q I1 q1
 | false=>exact⟨.bl false,H1,I1,rfl,q1⟩
theorem RN (ha:PE X a ta)(hb:PE X (.BoolOp .Or (b::rest) pos) tb):PE X (.BoolOp .Or (a::b::rest) pos) (U0 ta tb):=by
 refine⟨?_⟩
 intro pins s σ H Q I h;refine BoolOp_or (eV (ha pins s σ H _ I h) λv s1 ⟨x,H1,I1,r1,q1⟩=>?_)
 obtain⟨c,rfl,q1⟩:=q1;cases r1;refine wpAny_truthy_bool ?_
 cases c with
 | false=>exact hb pins s1 σ H1 Q I1 q1
 | true=>exact⟨.bl true,H1,I1,rfl,q1⟩
theorem OQ (ha:PE X a ta):PE X (.UnaryOp .Not a pos) (RM ta):=by
 refine⟨?_⟩
 intro pins s σ H Q I h;refine UnaryOp_ (eV (ha pins s σ H _ I h) λv s1 ⟨x,H1,I1,r1,q1⟩=>?_)
 obtain⟨c,rfl,q1⟩:=q1;cases r1;exact not_of (wpAny_truthy_bool ⟨.bl (!c),H1,I1,rfl,q1⟩)
def tIf (t:TT)(ta tb:TE):TE:=λσ H Q=>t σ H λc H1=>if c=true then ta σ H1 Q else tb σ H1 Q
theorem vU {c:Expr}(hc:PT X c tA)(ha:PE X a ta)(hb:PE X b tb):PE X (.IfExp c a b pos) (tIf tA ta tb):=by
 refine⟨?_⟩
 intro pins s σ H Q I h;refine wpAny_IfExp (eV (hc pins s σ H _ I h) λd s1 ⟨H1,I1,q1⟩=>?_)
 cases d with
 | true=>exact ha pins s1 σ H1 Q I1 q1
 | false=>exact hb pins s1 σ H1 Q I1 q1
end
def aO (K:bM)(H:Hp)(a:o?)(xs:List V):Prop:=
 Rd H a (.lst xs)\/
  ∃(o:Obj) (its:Array l?) (n:Nat),K.lookup a=j? o/\o.cls=.type "list"/\o.dict=q?/\o.data=.seq its n/\its.size<=K?/\Vals xs its.toList
def j5 (K:bM)(H:Hp)(a:o?)(xs:List V):Prop:=
 Rd H a (.tup xs)\/
  ∃(o:Obj) (its:Array l?) (n:Nat),K.lookup a=j? o/\o.cls=.type "tuple"/\o.data=.seq its n/\its.size<=K?/\Vals xs its.toList
def LZ:l?->Option V
 | .none=>j? .fk
 | .bool b=>j? (.bl b)
 | .int i _=>j? (.int i)
 | .str x _=>j? (.str x)
 | .bytes b _=>j? (.byt b)
 | .float b _=>j? (.flt b)
 | .ref a=>j? (.ref a)
 | .type n=>j? (.ty n)
 | _=>q?
theorem RelV.abs {x:V}{u:l?}(r:RelV x u):LZ u=j? x:=by
 cases x with
 | fk=>cases r;rfl
 | bl _=>cases r;rfl
 | int _=>obtain⟨t,rfl⟩:=r;rfl
 | str _=>obtain⟨t,rfl⟩:=r;rfl
 | byt _=>obtain⟨t,rfl⟩:=r;rfl
 | flt _=>obtain⟨t,rfl⟩:=r;rfl
 | ref _=>cases r;rfl
 | ty _=>cases r;rfl
theorem RelV.inj {x y:V}{u:l?}(r:RelV x u)(q:RelV y u):x=y:=M? (r.abs.symm.trans q.abs)
theorem Vals.inj:∀ {xs ys:List V} {us:List l?},Vals xs us->Vals ys us->xs=ys
 | _,_,_,.nil,.nil=>rfl
 | _,_,_,.cons r t,.cons r' t'=>by rw[r.inj r',Vals.inj t t']
section
variable {X:Cx} {pins:List (o?×Obj)} {σ:St} {H:Hp} {s:u?} {a:o?} {xs ys:List V}
theorem aO.of {K:bM}(h:H a=j? (.lst xs)):aO K H a xs:=.inl (.inl h)
theorem j5.of {K:bM}(h:H a=j? (.tup xs)):j5 K H a xs:=.inl (.inl h)
theorem Inv.list (I:Inv X pins σ H s)(h:aO X.K H a xs):∃its:List l?,Vals xs its/\PlainL s.heap a its.toArray/\xs.length<=K?:=by
 rcases h with h|⟨o,its,n,hk,hc,hd,hs,hz,r⟩
 ·obtain⟨z,its,n,r,e⟩:=h.ok I.hok
  exact⟨its,r,⟨_,n,e,rfl,rfl,rfl⟩,z⟩
 ·refine⟨its.toList,r,⟨o,n,I.EV a o hk,hc,hd,by simpa using hs⟩,?_⟩
  have e:=r.length;simp only[Array.length_toList] at e
  omega
theorem Inv.tuple (I:Inv X pins σ H s)(h:j5 X.K H a xs):∃its:List l?,Vals xs its/\IsTup s.heap a its.toArray/\xs.length<=K?:=by
 rcases h with h|⟨o,its,n,hk,hc,hs,hz,r⟩
 ·obtain⟨z,its,r,p⟩:=h.ok I.hok
  exact⟨its,r,p,z⟩
 ·refine⟨its.toList,r,⟨o,I.EV a o hk,hc,n,by simpa using hs⟩,?_⟩
  have e:=r.length;simp only[Array.length_toList] at e
  omega
theorem Inv.qY (I:Inv X pins σ H s)(h:aO X.K H a xs)(h':aO X.K H a ys):xs=ys:=by
 obtain⟨its,r,⟨o,n,e,_,_,d⟩,_⟩:=I.list h;obtain⟨its',r',⟨o',n',e',_,_,d'⟩,_⟩:=I.list h';rw[e] at e';cases e';rw[d] at d';injection d' with d1 _
 have:its=its':=by simpa using Je Array.toList d1
 subst this;exact r.inj r'
end
abbrev Cx.yp (X:Cx)(E:l?->u?->Prop):Cx:={ X with xe:=E }
abbrev Cx.NI (X:Cx):Cx:=X.yp λ_ _=>False
theorem Cx.Ok.yp {X:Cx}(ok:X.Ok)(E:l?->u?->Prop):(X.yp E).Ok:=
 ⟨ok.mod,ok.kind,ok.glob,ok.blt,ok.above,ok.inj,ok.has,ok.NF,ok.hd,ok.frames,ok.stk,ok.Q9,ok.bs,ok.EU,ok.A7,ok.A8,ok.nh,ok.HW⟩
theorem Cx.Ok.nj {X:Cx}{E:l?->u?->Prop}(ok:(X.yp E).Ok):X.Ok:=
 ⟨ok.mod,ok.kind,ok.glob,ok.blt,ok.above,ok.inj,ok.has,ok.NF,ok.hd,ok.frames,ok.stk,ok.Q9,ok.bs,ok.EU,ok.A7,ok.A8,ok.nh,ok.HW⟩
section
variable {X:Cx} {pins:List (o?×Obj)} {σ:St} {H:Hp} {s:u?} {E:l?->u?->Prop}
theorem Inv.yp (I:Inv X pins σ H s)(E:l?->u?->Prop):Inv (X.yp E) pins σ H s:=⟨I.ok.yp E,I.os,I.bare,I.base,I.loc,I.cell,I.free,I.jm,I.pin,I.hok,I.len⟩
theorem Inv.nj (I:Inv (X.yp E) pins σ H s):Inv X pins σ H s:=⟨I.ok.nj,I.os,I.bare,I.base,I.loc,I.cell,I.free,I.jm,I.pin,I.hok,I.len⟩
theorem SP.nj {D:Ends}{f:Flow}{s':u?}(h:SP (X.yp E) pins D f s'):SP X pins D f s':=by
 cases f with
 | next=>obtain⟨σ',H',I,q⟩:=h;exact⟨σ',H',I.nj,q⟩
 | brk=>obtain⟨σ',H',I,q⟩:=h;exact⟨σ',H',I.nj,q⟩
 | cont=>obtain⟨σ',H',I,q⟩:=h;exact⟨σ',H',I.nj,q⟩
 | ret u=>obtain⟨v,σ',H',I,r,q⟩:=h;exact⟨v,σ',H',I.nj,r,q⟩
theorem A_.NI {st:List Q?}{t:TS}(h:A_ X.NI st t):A_ X st t:=⟨λpins s σ H D I hw=>
 B! (h pins s σ H D (I.yp _) hw) (λ_ _ q=>q.nj) λ_ _ z=>M! z⟩
end
section
variable {X:Cx} {st:Q?} {rest:List Q?} {t u:TS} {e:Expr} {te:TE} {pos:Pos}
def RO:TS:=λD σ H=>D.nx σ H
def OR (t u:TS):TS:=λD σ H=>t { D with nx:=u D } σ H
theorem b8:A_ X [] RO:=⟨λ_ _ σ H _ I h=>wpAny_execs_nil ⟨σ,H,I,h⟩⟩
theorem ai (h1:PS X st t)(h2:A_ X rest u):A_ X (st::rest) (OR t u):=by
 refine⟨?_⟩
 intro pins s σ H D I h;refine wpAny_execs_cons (eV (h1 pins s σ H { D with nx:=u D } I h) λf s1 q=>?_)
 cases f with
 | next=>
  obtain⟨σ',H',I',q⟩:=q;exact h2 pins s1 σ' H' D I' q
 | ret v=>exact q
 | brk=>exact q
 | cont=>exact q
theorem av (h1:PS X st t):A_ X [st] t:=by
 refine⟨?_⟩
 intro pins s σ H D I h;refine wpAny_execs_cons (eV (h1 pins s σ H D I h) λf s1 q=>?_)
 cases f with
 | next=>exact wpAny_execs_nil q
 | ret v=>exact q
 | brk=>exact q
 | cont=>exact q
theorem Inv.quiet {pins:List (o?×Obj)}{σ:St}{H:Hp}{s:u?}(I:Inv X pins σ H s):interactive X.env=false:=by simp[interactive,I.ok.kind]
def RP (te:TE):TS:=λD σ H=>te σ H λ_ H1=>D.nx σ H1
theorem d9 (he:PE X e te)(hs:swapsWith e q? pos.line X.env=pure false:=by rfl):PS X (.Expr e pos) (RP te):=by
 refine⟨?_⟩
 intro pins s σ H D I h;exact wpAny_Expr_any (eV (he pins s σ H _ I h) λv s1 ⟨x,H1,I1,r1,q1⟩=>⟨σ,H1,I1,q1⟩) I.quiet hs
def U1 (te:TE):TS:=λD σ H=>te σ H D.rt
theorem aM (he:PE X e te):PS X (.Return (j? e) pos) (U1 te):=by
 refine⟨?_⟩
 intro pins s σ H D I h;exact wpAny_Return_some (eV (he pins s σ H _ I h) λv s1 ⟨x,H1,I1,r1,q1⟩=>⟨x,σ,H1,I1,r1,q1⟩)
def U3 (c:TT)(t u:TS):TS:=λD σ H=>c σ H λb H1=>if b=true then t D σ H1 else u D σ H1
theorem dQ {c:Expr}{a b:List Q?}{tc:TT}(hc:PT X c tc)(ha:A_ X a t)(hb:A_ X b u):PS X (.If c a b pos) (U3 tc t u):=by
 refine⟨?_⟩
 intro pins s σ H D I h;refine wpAny_If (eV (hc pins s σ H _ I h) λd s1 ⟨H1,I1,q1⟩=>?_)
 cases d with
 | true=>exact ha pins s1 σ H1 D I1 q1
 | false=>exact hb pins s1 σ H1 D I1 q1
end
abbrev TG:=V->St->Hp->(St->Hp->Prop)->Prop
abbrev NJ:=List V->St->Hp->(St->Hp->Prop)->Prop
def PG (X:Cx)(target:Expr)(t:TG):Prop:=
 ∀(pins:List (o?×Obj)) (s:u?) (σ:St) (H:Hp) (v:V) (u:l?) (Q:St->Hp->Prop),Inv X pins σ H s->RelV v u->t v σ H Q->
  L? (S? X.prog X.w) X.A (assign target X.env u) (λ_ s'=>∃σ' H',Inv X pins σ' H' s'/\Q σ' H') X.xe s
def RQ (X:Cx)(ts:List Expr)(t:NJ):Prop:=
 ∀(pins:List (o?×Obj)) (s:u?) (σ:St) (H:Hp) (vs:List V) (us:List l?) (Q:St->Hp->Prop),Inv X pins σ H s->Vals vs us->t vs σ H Q->
  L? (S? X.prog X.w) X.A (assignInOrder ((assignEach ts X.env).map (·.2)) us) (λ_ s'=>∃σ' H',Inv X pins σ' H' s'/\Q σ' H') X.xe s
abbrev H_:=V->V->V->Hp->(Hp->Prop)->Prop
def OS (X:Cx)(t:H_):Prop:=
 ∀(pins:List (o?×Obj)) (s:u?) (σ:St) (H:Hp) (o i v:V) (ov iv u:l?) (Q:Hp->Prop),Inv X pins σ H s->RelV o ov->RelV i iv->RelV v u->t o i v H Q->
  L? (S? X.prog X.w) X.A (setItem ov iv u) (λ_ s'=>∃H',Inv X pins σ H' s'/\Q H') X.xe s
abbrev Q_:=V->V->Hp->VK->Prop
def Uh (X:Cx)(op:Operator)(t:Q_):Prop:=
 ∀(pins:List (o?×Obj)) (s:u?) (σ:St) (H:Hp) (x y:V) (v u:l?) (Q:VK),Inv X pins σ H s->RelV x v->RelV y u->t x y H Q->
  L? (S? X.prog X.w) X.A (inplaceOp op v u) (EP X pins σ Q) X.xe s
section
variable {X:Cx} {pos:Pos}
def gE (i:Nat):TG:=λv σ H Q=>Q (σ.set i (j? v)) H
theorem aA {i:Nat}{x:Str}(hN:X.N.Nodup)(hi:X.N[i]?=j? x)(hx:Loc X.env.scope x)(hf:X.fn x=true\/X.env.scope.names.lookup x=j? .local:=by first|exact .inl rfl|exact .inr rfl|assumption):PG X (.Name x pos) (gE i):=by
 intro pins s σ H v u Q I r h;exact wpAny_assign_Name (ni I hN hi hx r (λs' I'=>⟨_,H,I',h⟩) hf)
def U4:NJ:=λvs σ H Q=>vs=[]/\Q σ H
def RS (t:TG)(u:NJ):NJ:=λvs σ H Q=>∃v r,vs=v::r/\t v σ H λσ' H'=>u r σ' H' Q
theorem cF:RQ X [] U4:=by
 intro pins s σ H vs us Q I r h;obtain⟨e,h⟩:=h;subst e;cases r;exact assignInOrder_nil ⟨σ,H,I,h⟩
theorem aP {e:Expr}{es:List Expr}{t:TG}{u:NJ}(h1:PG X e t)(h2:RQ X es u)
  (hs:(assignEach (e::es) X.env).map (·.2)=assign e X.env::(assignEach es X.env).map (·.2):=by rfl):RQ X (e::es) (RS t u):=by
 intro pins s σ H vs us Q I r h;obtain⟨v,vr,e1,h⟩:=h;subst e1;cases r with
 | cons r rr=>
  rw[hs];refine assignInOrder_cons (eV (h1 pins s σ H _ _ _ I r h) λ_ s1 ⟨σ1,H1,I1,q1⟩=>?_)
  exact h2 pins s1 σ1 H1 _ _ Q I1 rr q1
def RT (K:bM)(n:Nat)(t:NJ):TG:=λv σ H Q=>∃a xs,v=.ref a/\j5 K H a xs/\xs.length=n/\t xs σ H Q
theorem OT {es:List Expr}{k:Nat}{t:NJ}{n:Nat}(hc:X.calm=true)(h:RQ X es t)
  (hn:(assignEach es X.env).length=n:=by rfl) (hst:(assignEach es X.env).findIdx? (·.1)=q?:=by rfl):PG X (.Tuple es k pos) (RT X.K n t):=by
 intro pins s σ H v u Q I r hw;obtain⟨a,xs,e1,hq,hl,hw⟩:=hw;subst e1;cases r;obtain⟨its,rv,ht,hz⟩:=I.tuple hq;refine assign_Tuple_tuple (I.ok.hd hc) ht (by simp[hn,<- hl,rv.length]) hst λh' hx=>?_
 have I1:Inv X pins σ H { s with heap:=h' }:=I.kept (t':=s.toks) λb o e=>hx b o (Yu (Ym e)) e
 exact h pins _ σ H xs _ Q I1 (by simpa using rv) hw
def U5 (to ti:TE)(t:H_):TG:=λv σ H Q=>to σ H λo H1=>ti σ H1 λi H2=>t o i v H2 λH3=>Q σ H3
theorem Dc {o i:Expr}{to ti:TE}{t:H_}(ho:PE X o to)(hi:PE X i ti)(hs:OS X t)
  (ha:∀v,assign (.Subscript o i pos) X.env v=(do
   let ov <- holding [v] (eval o X.env)
   let iv <- holding [v,ov] (eval i X.env)
   standAt pos
   holding [v,ov,iv] (setItem ov iv v)
   release [v,ov,iv] []):=by intro _;rfl):PG X (.Subscript o i pos) (U5 to ti t):=by
 intro pins s σ H v u Q I r h;rw[ha];refine B? (wpAny_holding (eV (ho pins s σ H _ I h) λov s1 ⟨x,H1,I1,r1,q1⟩=>?_))
 refine B? (wpAny_holding (eV (hi pins s1 σ H1 _ I1 q1) λiv s2 ⟨y,H2,I2,r2,q2⟩=>?_))
 refine B? (wpAny_standAt (B? (wpAny_holding (eV (hs pins s2 σ H2 x y v ov iv u _ I2 r1 r2 r q2) λ_ s3 ⟨H3,I3,q3⟩=>?_))))
 exact wpAny_release ⟨σ,H3,I3,q3⟩
def L1 (te:TE)(g:TG):TS:=λD σ H=>te σ H λx H1=>g x σ H1 D.nx
theorem lK {tg e:Expr}{te:TE}{g:TG}(he:PE X e te)(hg:PG X tg g)(hs:swapsWithSole [tg] e pos.line X.env=pure false:=by rfl)(hw:swappedStores [tg] e X.env=pure q?:=by rfl)
  (h1:(assignEach [tg] X.env).map (·.2)=[assign tg X.env]:=by rfl):PS X (.Assign [tg] e pos) (L1 te g):=by
 refine⟨?_⟩
 intro pins s σ H D I h;refine wpAny_Assign_stores (eV (he pins s σ H _ I h) λv s1 ⟨x,H1,I1,r1,q1⟩=>?_) hs hw
 rw[h1];exact eV (hg pins s1 σ H1 x v _ I1 r1 q1) λ_ s2 q=>q
theorem aC {i:Nat}{x:Str}{e:Expr}{te:TE}{pos':Pos}(hN:X.N.Nodup)(hi:X.N[i]?=j? x)(hx:Loc X.env.scope x)(he:PE X e te)(hs:swapsWith e (j? (.Name x pos')) pos.line X.env=pure false:=by rfl)(hf:X.fn x=true\/X.env.scope.names.lookup x=j? .local:=by first|exact .inl rfl|exact .inr rfl|assumption):
  PS X (.Assign [.Name x pos'] e pos) (L1 te (gE i)):=by
 refine⟨?_⟩
 intro pins s σ H D I h;refine wpAny_Assign_Name (eV (he pins s σ H _ I h) λv s1 ⟨y,H1,I1,r1,q1⟩=>?_) hs
 exact ni I1 hN hi hx r1 (λs2 I2=>⟨_,H1,I2,q1⟩) hf
def U6 (i j:Nat)(ta:TA):TS:=λD σ H=>ta σ H λvs H1=>∃v w,vs=[v,w]/\D.nx ((σ.set i (j? v)).set j (j? w)) H1
theorem vV {i j:Nat}{x y:Str}{a b:Expr}{ta:TA}{px py pt:Pos}{kt k2 pt2}(hc:X.calm=true)(hN:X.N.Nodup)(hi:X.N[i]?=j? x)(hj:X.N[j]?=j? y)(hij:i≠j)
  (hx:X.env.scope.names.lookup x=j? .local) (hy:X.env.scope.names.lookup y=j? .local) (ha:PA X [a,b] ta)
  (hw:swappedStores [.Tuple [.Name x px,.Name y py] kt pt] (.Tuple [a,b] k2 pt2) X.env=pure (j? [x,y]))
  (hs:swapsWithSole [.Tuple [.Name x px,.Name y py] kt pt] (.Tuple [a,b] k2 pt2) pos.line X.env=pure false:=by rfl):
  PS X (.Assign [.Tuple [.Name x px,.Name y py] kt pt] (.Tuple [a,b] k2 pt2) pos) (U6 i j ta):=by
 refine⟨?_⟩
 intro pins s σ H D I h;rw[exec_Assign_arm];refine B? (wpAny_standAt ?_)
 rw[hs];refine B? (J? ?_)
 rw[W9 (by decide)]
 refine B? (Tuple_ (eV (ha _ pins s σ H _ I h) λus s1 ⟨vs,H1,I1,r1,q1⟩=>?_))
 obtain⟨v,w,e1,q1⟩:=q1;subst e1;obtain⟨u1,u2,rfl,rv,rw'⟩:∃u1 u2,us=[u1,u2]/\RelV v u1/\RelV w u2:=by
  cases r1 with
  | cons p q=>
   cases q with
   | cons p' q'=>
    cases q';exact⟨_,_,rfl,p,p'⟩
 refine wpAny_newObj_type ?_ (by show 2<=K?;decide)
 have I2:Inv X pins σ H1 { s1 with heap:=s1.heap.push { cls:=.type "tuple",data:=.seq [u1,u2].toArray } }:=I1.kept (t':=s1.toks) λb o e=>Yh _ e
 rw[hw];refine B? (J? ?_)
 show L? (S? X.prog X.w) X.A (do rule "assign.swapped-stores";let items <- unpackItems (.ref s1.heap.objs.size) 2 q?;assignInOrder [λv=>bindName X.env y v,λv=>bindName X.env x v] items.reverse;pure Flow.next) _ _ _
 refine B? (wpAny_rule (B? (unpackItems_tuple (items:=#[u1,u2]) (I.ok.hd hc) (IsTup.new s1.heap _) λh' hx'=>?_)))
 have I3:=I2.kept (h':=h') (t':=s1.toks) λb o e=>hx' b o (Yu (Ym e)) e
 show L? _ _ (assignInOrder [λv=>bindName X.env y v,λv=>bindName X.env x v] [u2,u1] >>= λ_=>pure Flow.next) _ _ _
 refine B? (assignInOrder_cons (wpAny_bindName (ni I3 hN hj (.inl hy) rw' (λs2 I4=>?_) (.inr hy))))
 refine assignInOrder_cons (wpAny_bindName (ni I4 hN hi (.inl hx) rv (λs3 I5=>assignInOrder_nil (J? ?_)) (.inr hx)))
 rw[List.set_comm _ _ (Ne.symm hij)] at I5;exact⟨_,H1,I5,q1⟩
def U7 (i:Nat)(te:TE)(ti:Q_):TS:=λD σ H=>∃x,σ[i]?=j? (j? x)/\te σ H λy H1=>ti x y H1 λz H2=>D.nx (σ.set i (j? z)) H2
theorem zI {i:Nat}{x:Str}{e:Expr}{te:TE}{op:Operator}{ti:Q_}{pos':Pos}(hN:X.N.Nodup)(hi:X.N[i]?=j? x)(hx:Loc X.env.scope x)(he:PE X e te)(ho:Uh X op ti)(hf:X.fn x=true\/X.env.scope.names.lookup x=j? .local:=by first|exact .inl rfl|exact .inr rfl|assumption):
  PS X (.AugAssign (.Name x pos') op e pos) (U7 i te ti):=by
 refine⟨?_⟩
 intro pins s σ H D I h;obtain⟨v,e1,h⟩:=h;obtain⟨m,hn,hl⟩:=I.loc;have vis:Q8 X.env.scope x:=by rcases hx with k|k;exact .inl k;exact .inr (.inl k)
 obtain⟨u,r,l⟩:=hl i x v hi e1 vis;refine wpAny_AugAssign_Name ?_
 have go:L? (S? X.prog X.w) X.A (eval e X.env) (λw s₂=>L? (S? X.prog X.w) X.A (inplaceOp op u w) (λr s₃=>L? (S? X.prog X.w) X.A (storeName X.env x r) (λ_=>SP X pins D .next) X.xe s₃) X.xe s₂) X.xe s:=by
  refine eV (he pins s σ H _ I h) λw s1 ⟨y,H1,I1,r1,q1⟩=>?_
  refine eV (ho pins s1 σ H1 v y u w _ I1 r r1 q1) λz s2 ⟨zv,H2,I2,r2,q2⟩=>?_
  exact ni I2 hN hi hx r2 (λs3 I3=>⟨_,H2,I3,q2⟩) hf
 rcases l with ⟨hk,hm⟩|⟨hk,c,hc,hcell⟩
 ·exact wpAny_loadName_local I.ok.kind hk hn hm go
 ·rcases hk with hk|hk
  ·exact wpAny_loadName_cell I.ok.kind hk hc hcell go
  ·rcases hx with k|k
   ·have:X.env.scope.names.lookup x=j? .free:=hk
    rw[k] at this;cases this
   ·have:X.env.scope.names.lookup x=j? .free:=hk
    rw[k] at this;cases this
def RU (to ti te:TE)(L3:V->V->Hp->VK->Prop)(Ui:Q_)(L4:H_):TS:=λD σ H=>to σ H λo H1=>ti σ H1 λi H2=>L3 o i H2 λx H3=>te σ H3 λy H4=>Ui x y H4 λz H5=>L4 o i z H5 λH6=>D.nx σ H6
def OU (X:Cx)(t:V->V->Hp->VK->Prop):Prop:=
 ∀(pins:List (o?×Obj)) (s:u?) (σ:St) (H:Hp) (o i:V) (ov iv:l?) (Q:VK),Inv X pins σ H s->RelV o ov->RelV i iv->t o i H Q->
  L? (S? X.prog X.w) X.A (getItem ov iv) (EP X pins σ Q) X.xe s
theorem EY {o i e:Expr}{to ti te:TE}{L3:V->V->Hp->VK->Prop}{Ui:Q_}{L4:H_}{op:Operator}{tpos:Pos}(ho:PE X o to)(hi:PE X i ti)(hg:OU X L3)(he:PE X e te)(hp:Uh X op Ui)(hs:OS X L4)
  (ha:∀ov iv new,augStore i ov iv new=(do holding [new,ov,iv] (setItem ov iv new);release [new,ov,iv] [];pure .next):=by intros;rfl):PS X (.AugAssign (.Subscript o i tpos) op e pos) (RU to ti te L3 Ui L4):=by
 refine⟨?_⟩
 intro pins s σ H D I h;refine wpAny_AugAssign_SubscriptAny (eV (ho pins s σ H _ I h) λov s1 ⟨x1,H1,I1,r1,q1⟩=>?_) ha
 refine eV (hi pins s1 σ H1 _ I1 q1) λiv s2 ⟨x2,H2,I2,r2,q2⟩=>?_
 refine eV (hg pins s2 σ H2 x1 x2 ov iv _ I2 r1 r2 q2) λold s3 ⟨x3,H3,I3,r3,q3⟩=>?_
 refine eV (he pins s3 σ H3 _ I3 q3) λv s4 ⟨x4,H4,I4,r4,q4⟩=>?_
 refine eV (hp pins s4 σ H4 x3 x4 old v _ I4 r3 r4 q4) λnew s5 ⟨x5,H5,I5,r5,q5⟩=>?_
 exact eV (hs pins s5 σ H5 x1 x2 x5 ov iv new _ I5 r1 r2 r5 q5) λ_ s6 ⟨H6,I6,q6⟩=>⟨σ,H6,I6,q6⟩
def XH (f:Int->Int->Int):Q_:=λx y H Q=>∃i j,x=.int i/\y=.int j/\Q (.int (f i j)) H
theorem OV:Uh X .Add (XH λi j=>i+j):=by
 intro pins s σ H x y v u Q I r1 r2 h;obtain⟨i,j,e1,e2,q⟩:=h;subst e1;subst e2;obtain⟨t,rfl⟩:=r1;obtain⟨t',rfl⟩:=r2;exact iadd_int ⟨.int _,H,I.tok _,⟨_,rfl⟩,q⟩
theorem OW:Uh X .Sub (XH λi j=>i-j):=by
 intro pins s σ H x y v u Q I r1 r2 h;obtain⟨i,j,e1,e2,q⟩:=h;subst e1;subst e2;obtain⟨t,rfl⟩:=r1;obtain⟨t',rfl⟩:=r2;exact isub_int ⟨.int _,H,I.tok _,⟨_,rfl⟩,q⟩
end
section
variable {X:Cx} {pos:Pos}
def Dd (c:TT)(tb:TS):TS:=λD σ H=>∃W:Nat->St->Hp->Prop,(∃m,W m σ H)/\∀m σ H,W m σ H->
 c σ H λb H1=>if b=true then ∃N:St->Hp->Prop,(∀σ' H',N σ' H'->∃m',m'<m/\W m' σ' H')/\tb { D with nx:=N,ct:=N,bk:=D.nx } σ H1 else D.nx σ H1
theorem eW {c:Expr}{body:List Q?}{tc:TT}{tb:TS}(hp:PassesOwn (S? X.prog X.w) X.A X.env X.xe)(hc:PT X c tc)(hb:A_ X body tb):PS X (.While c body [] pos) (Dd tc tb):=by
 refine⟨?_⟩
 intro pins s σ H D I h;obtain⟨W,⟨m0,w0⟩,turn⟩:=h;refine wpAny_While (codeAny_whileLoop (λn s'=>∃σ' H',Inv X pins σ' H' s'/\W n σ' H') ?_ m0 ⟨σ,H,I,w0⟩)
 rintro n s1 ⟨σ1,H1,I1,w1⟩;refine wpAny_passesOwn hp (eV (hc pins s1 σ1 H1 _ I1 (turn n σ1 H1 w1)) λb s2 ⟨H2,I2,q2⟩=>?_)
 cases b with
 | true=>
  obtain⟨N,hN,q2⟩:=q2;rw[Ja rfl];refine wpAny_passesOwn hp (eV (hb pins s2 σ1 H2 _ I2 q2) λf s3 q3=>?_)
  cases f with
  | next=>
   obtain⟨σ3,H3,I3,n3⟩:=q3;obtain⟨m',hm,w3⟩:=hN σ3 H3 n3;exact⟨m',hm,σ3,H3,I3,w3⟩
  | cont=>
   obtain⟨σ3,H3,I3,n3⟩:=q3;obtain⟨m',hm,w3⟩:=hN σ3 H3 n3;exact⟨m',hm,σ3,H3,I3,w3⟩
  | brk=>exact q3
  | ret v=>exact q3
 | false=>
  rw[W9 E?];exact wpAny_execs_nil ⟨σ1,H2,I2,q2⟩
end
structure It where
 go:Nat->Hp->Prop
 NK:Nat->Hp->V->Hp->Prop
 stop:Nat->Hp->Prop
def j6 (X:Cx)(pins:List (o?×Obj))(H:Hp)(b:o?):Prop:=
 H b=q?/\b≠X.env.locals/\b ∉ X.fs/\(b∈X.ex\/X.s₀.heap.objs.size<=b)/\(∀x c,X.env.cells.lookup x=j? c->c≠b)/\∀p∈X.pn++pins,p.1≠b
theorem Inv.uW {X:Cx}{pins:List (o?×Obj)}{σ:St}{H H':Hp}{s:u?}{b:o?}(I:Inv X pins σ H s)(hb:s.heap.objs.size<=b)(hn:H' b=q?):j6 X pins H' b:=by
 refine⟨hn,Nat.ne_of_gt (Yk I.lt hb),I.UU hb,.inr (Yn I.sz hb),λx c e z=>?_,λp hp z=>?_⟩
 ·obtain⟨v,q⟩:=I.cell x c e
  exact Jg (Yk q.lt (by rw[z];exact hb)) (Zz _)
 ·exact Jg (Yk (Ym (I.pin p hp).1) (by rw[z];exact hb)) (Zz _)
structure Turn (P:F?)(w:H?)(K:bM)(tg:Expr)(J:It)(fp:List o?)(it:o?)(tn:Nat->O?->Prop):Prop where
 mem:it∈fp
 obj:∀i h,tn i h->∀b∈fp,∃o,h.get? b=j? o/\∀v,o.data≠.cell v
 keep:∀i h h',tn i h->(∀b∈fp,∀o,h.get? b=j? o->h'.get? b=j? o)->tn i h'
 item:∀(X:Cx),X.prog=P->X.w=w->X.K=K->X.calm=true->∀(i:Nat) (pins:List (o?×Obj)) (s:u?) (σ:St) (H:Hp) (E:l?->u?->Prop),Inv X pins σ H s->(∀b∈fp,j6 X pins H b)->tn i s.heap->J.go i H->
  L? (S? P w) X.A (pyNext (.ref it)) (λr s1=>∃u,r=j? u/\
   L? (S? P w) X.A (letOwnedTupleGo tg (.ref it) u) (λ_ s2=>∃x H',Inv X pins σ H' s2/\RelV x u/\J.NK i H x H'/\tn (i+1) s2.heap/\∀b∈fp,H' b=q?) E s1) E s
 done:∀(X:Cx),X.prog=P->X.w=w->X.K=K->X.calm=true->∀(i:Nat) (pins:List (o?×Obj)) (s:u?) (σ:St) (H:Hp) (E:l?->u?->Prop),Inv X pins σ H s->(∀b∈fp,j6 X pins H b)->tn i s.heap->J.stop i H->
  L? (S? P w) X.A (pyNext (.ref it)) (λr s1=>r=q?/\Inv X pins σ H s1) E s
 self:∀(A:A!) (i:Nat) (s:u?) (Q:l?->u?->Prop) (E:l?->u?->Prop),tn i s.heap->Q (.ref it) s->L? (S? P w) A (pyIter (.ref it)) Q E s
abbrev TI:=St->Hp->(It->Hp->Prop)->Prop
def XI (X:Cx)(pins:List (o?×Obj))(σ:St)(tg:Expr)(R:It->Hp->Prop)(itv:l?)(s2:u?):Prop:=
 ∃(it:o?) (fp:List o?) (tn:Nat->O?->Prop) (J:It) (H':Hp),itv=.ref it/\Inv X pins σ H' s2/\Turn X.prog X.w X.K tg J fp it tn/\tn 0 s2.heap/\(∀b∈fp,j6 X pins H' b)/\R J H'
def PI (X:Cx)(tg iter:Expr)(wi:TI):Prop:=
 ∀(pins:List (o?×Obj)) (s:u?) (σ:St) (H:Hp) (R:It->Hp->Prop),Inv X pins σ H s->wi σ H R->
  L? (S? X.prog X.w) X.A (eval iter X.env) (λv s1=>L? (S? X.prog X.w) X.A (pyIter v) (XI X pins σ tg R) X.xe s1) X.xe s
theorem Ia {M:Model}{A:A!}{E:l?->u?->Prop}{s:u?}{tg:Expr}{it:o?}{u:l?}{o:Obj}{n:String}{vs:Array l?}{Q:Unit->u?->Prop}(ho:s.heap.get? it=j? o)(hc:o.cls=.type n)(hd:o.data=.fields vs)
    (hn:["enumerate","zip","dict_itemiterator","dict_reverseitemiterator","odict_iterator","itertools.zip_longest","itertools.pairwise"].contains n=false) (hQ:Q () s):L? M A (letOwnedTupleGo tg (.ref it) u) Q E s:=by
  unfold letOwnedTupleGo;cases tg <;> first
    | exact J? hQ
    | (cases u <;> first
        | exact J? hQ
        | (refine B? (wpAny_load ho ?_)
           rw[hc,hd];show L? M A (if (["enumerate","zip","dict_itemiterator","dict_reverseitemiterator","odict_iterator","itertools.zip_longest","itertools.pairwise"].contains n && vs[0]? == j? (rawInt _))=true then _ else _) Q E s
           rw[W9 (by intro h;rw[hn,Bool.false_and] at h;cases h)]
           exact J? hQ))
def OX (K:bM)(a:o?):It:=
 ⟨λi H=>∃xs x,aO K H a xs/\xs[i]?=j? x,λi H x H'=>H'=H/\∀xs,aO K H a xs->xs[i]?=j? x,λi H=>∃xs,aO K H a xs/\xs.length<=i⟩
def L5 (lo:Int)(n:Nat):It:=⟨λi _=>i<n,λi H x H'=>H'=H/\x=.int (lo+i),λi _=>n<=i⟩
theorem Gp {P:F?}{w:H?}{K:bM}{tg:Expr}(a it:o?):Turn P w K tg (OX K a) [it] it (λi h=>h.IsListIter it a i) where
 mem:=by simp
 obj:=λi h st b hb=>by
  have e:b=it:=by simpa using hb
  subst e;obtain⟨o,e,c,d⟩:=st;exact⟨o,e,λv z=>by rw[d] at z;cases z⟩
 keep:=λi h h' st k=>st.at λo e=>k it (by simp) o e
 item:=by
  intro X hP hw hK hc i pins s σ H E I hf st hg;subst hP hw hK;obtain⟨xs,x,hq,hx⟩:=hg;obtain⟨its,rv,p,hz⟩:=I.list hq;obtain⟨u,hu,ru⟩:=rv.get hx;obtain⟨f0,f1,f2,f3,f4,f5⟩:=hf it (by simp)
  refine wpAny_pyNext_list_item st p.isList (x:=u) (by simpa using hu) λh' st' sb=>?_
  have I1:Inv X pins σ H { s with heap:=h' }:=I.turned (t':=s.toks) (λb o hb e=>(sb.2 b hb).trans e) f0 f1 f3 f4 f5
  obtain⟨o,e,c,d⟩:=id st';exact⟨u,rfl,Ia (s:={ s with heap:=h' }) e c d (by decide) ⟨x,H,I1,ru,⟨rfl,λys hy=>by rw[I.qY hy hq];exact hx⟩,st',λb hb=>(hf b hb).1⟩⟩
 done:=by
  intro X hP hw hK hc i pins s σ H E I hf st hg;subst hP hw hK;obtain⟨xs,hq,hx⟩:=hg;obtain⟨its,rv,p,hz⟩:=I.list hq;obtain⟨f0,f1,f2,f3,f4,f5⟩:=hf it (by simp)
  have hl:=rv.length;exact wpAny_pyNext_list_end (I.ok.hd hc) st p.isList (by simp;omega) λh' eb=>⟨rfl,I.turned (t':=s.toks) (λb o hb e=>eb b o hb e) f0 f1 f3 f4 f5⟩
 self:=λ_ _ _ _ _ st h=>wpAny_pyIter_listiter st h
theorem De {P:F?}{w:H?}{K:bM}{tg:Expr}(it:o?)(lo:Int)(n:Nat):Turn P w K tg (L5 lo n) [it] it (λi h=>IsRangeIter h it (lo+(i:Nat)*1) ((n:Int)-(i:Nat)) 1) where
 mem:=by simp
 obj:=λi h st b hb=>by
  have e:b=it:=by simpa using hb
  subst e;exact⟨_,st,λv z=>by
   have z':Data.fields _=Data.cell v:=z;cases z'⟩
 keep:=λi h h' st k=>k it (by simp) _ st
 item:=by
  intro X hP hw hK hc i pins s σ H E I hf st hg;subst hP hw hK;obtain⟨f0,f1,f2,f3,f4,f5⟩:=hf it (by simp)
  have W:=Walks.range (prog:=X.prog) (w:=X.w) (I.ok.hd hc) it lo 1 n;refine W.item i s _ _ hg st λv h' tk hv st' kk=>?_
  obtain⟨t,rfl⟩:=hv;have I1:Inv X pins σ H { s with heap:=h',toks:=tk }:=I.turned (λb o hb e=>kk b o (by simpa using hb) e) f0 f1 f3 f4 f5
  refine⟨_,rfl,Ia (s:={ s with heap:=h',toks:=tk }) (n:="range_iterator") st' rfl rfl (by decide) ⟨.int (lo+i),H,I1,⟨t,?_⟩,⟨rfl,rfl⟩,st',λb hb=>(hf b hb).1⟩⟩
  rw[Wn]
 done:=by
  intro X hP hw hK hc i pins s σ H E I hf st hg;subst hP hw hK;obtain⟨f0,f1,f2,f3,f4,f5⟩:=hf it (by simp)
  exact wpAny_pyNext_range_end (I.ok.hd hc) st (by have:n<=i:=hg;omega) λh' eb=>⟨rfl,I.turned (t':=s.toks) (λb o hb e=>eb b o hb e) f0 f1 f3 f4 f5⟩
 self:=λ_ _ _ _ _ st h=>wpAny_pyIter_rangeiter st h
section
variable {X:Cx} {tg:Expr}
def NL (K:bM)(tl:TE):TI:=λσ H R=>tl σ H λx H1=>∃a,x=.ref a/\(∃xs,aO K H1 a xs)/\R (OX K a) H1
theorem L6 {l:Expr}{tl:TE}(hl:PE X l tl):PI X tg l (NL X.K tl):=by
 intro pins s σ H R I h;refine eV (hl pins s σ H _ I h) λv s1 ⟨x,H1,I1,r1,q1⟩=>?_
 obtain⟨a,e,⟨xs,hq⟩,q⟩:=q1;subst e;cases r1;obtain⟨its,rv,p,hz⟩:=I1.list hq;refine wpAny_pyIter_list p.isList ?_
 refine⟨s1.heap.objs.size,[s1.heap.objs.size],_,_,H1,rfl,I1.kept (t':=s1.toks) λb o e=>Yh _ e,Gp a _,⟨_,Y0 _ rfl,rfl,rfl⟩,λb hb=>?_,q⟩
 have e:b=s1.heap.objs.size:=by simpa using hb
 subst e;exact I1.uW (Yd _) (I1.hok.fresh (Yd _))
theorem Bb {pins:List (o?×Obj)}{σ:St}{H:Hp}{s:u?}{R:It->Hp->Prop}{E:l?->u?->Prop}{lo hi:Int}{t u v:Tok}{tk:Nat}(I:Inv X pins σ H s)(h1:-(2 ^ 62)<=lo)(h2:lo<2 ^ 62)(h3:-(2 ^ 62)<=hi)(h4:hi<2 ^ 62)
  (q:R (L5 lo (hi-lo).toNat) H):L? (S? X.prog X.w) X.A (pyIter (.ref s.heap.objs.size)) (XI X pins σ tg R) E { s with heap:=s.heap.push { cls:=.type "range",data:=.fields #[.int lo t,.int hi u,.int 1 v] },toks:=tk }:=by
 refine wpAny_pyIter_range (IsRange.new ..) (small_one h1 h2 h3 h4) ?_
 have I1:Inv X pins σ H { s with heap:=s.heap.push { cls:=.type "range",data:=.fields #[.int lo t,.int hi u,.int 1 v] },toks:=tk }:=I.kept λb o e=>Yh _ e
 refine⟨(s.heap.push { cls:=.type "range",data:=.fields #[.int lo t,.int hi u,.int 1 v] }).objs.size,[(s.heap.push { cls:=.type "range",data:=.fields #[.int lo t,.int hi u,.int 1 v] }).objs.size],_,_,H,rfl,
  I1.kept (t':=tk) λb o e=>Yh _ e,De _ lo (hi-lo).toNat,?_,λb hb=>?_,q⟩
 ·have e1:lo+((0:Nat):Int)*1=lo:=by simp
  have e2:(((hi-lo).toNat:Nat):Int)-((0:Nat):Int)=Builtin.Range.rangeSize lo hi 1:=by rw[rangeSize_one];split <;> omega
  show IsRangeIter _ _ (lo+((0:Nat):Int)*1) ((((hi-lo).toNat:Nat):Int)-((0:Nat):Int)) 1
  rw[e1,e2];exact Y0 _ rfl
 ·have e:b=(s.heap.push { cls:=.type "range",data:=.fields #[.int lo t,.int hi u,.int 1 v] }).objs.size:=by simpa using hb
  subst e;exact I1.uW (Yd _) (I1.hok.fresh (Yd _))
def RV (ta:TA):TI:=λσ H R=>ta σ H λvs H1=>∃j:Int,vs=[.int j]/\-(2 ^ 62)<=j/\j<2 ^ 62/\R (L5 0 j.toNat) H1
def RW (ta:TA):TI:=λσ H R=>ta σ H λvs H1=>∃i j:Int,vs=[.int i,.int j]/\(-(2 ^ 62)<=i/\i<2 ^ 62/\-(2 ^ 62)<=j/\j<2 ^ 62)/\R (L5 i (j-i).toNat) H1
theorem bC {a:Expr}{ta:TA}{p pos:Pos}(hg:Gl X "range")(hm:X.mg "range"=q?)(ha:PA X [a] ta)(hs:I? [a] X.env=[(false,eval a X.env)]:=by rfl):PI X tg (.Call (.Name "range" p) [a] [] pos) (RV ta):=by
 intro pins s σ H R I h;refine Call_ (jD I hg hm boot_range (L! (eV (ha pos pins s σ H _ I h) λus s1 ⟨vs,H1,I1,r1,q1⟩=>?_) hs rfl))
 obtain⟨j,e,q1,q2,q⟩:=q1;subst e;cases r1 with
 | cons r rr=>
  cases rr;obtain⟨t,rfl⟩:=r;exact call_range_1 (Bb I1 (by omega) (by omega) q1 q2 (by simpa using q))
theorem tF {a b:Expr}{ta:TA}{p pos:Pos}(hg:Gl X "range")(hm:X.mg "range"=q?)(ha:PA X [a,b] ta)(hs:I? [a,b] X.env=[(false,eval a X.env),(false,eval b X.env)]:=by rfl)(hs2:I? [b] X.env=[(false,eval b X.env)]:=by rfl):
  PI X tg (.Call (.Name "range" p) [a,b] [] pos) (RW ta):=by
 intro pins s σ H R I h;refine Call_ (jD I hg hm boot_range (L! (eV (ha pos pins s σ H _ I h) λus s1 ⟨vs,H1,I1,r1,q1⟩=>?_) (by rw[hs,hs2]) (by rw[hs2];rfl)))
 obtain⟨i,j,e,⟨q1,q2,q3,q4⟩,q⟩:=q1;subst e;cases r1 with
 | cons r rr=>
  cases rr with
  | cons r' rr=>
   cases rr;obtain⟨t,rfl⟩:=r;obtain⟨t',rfl⟩:=r';exact call_range_2 (Bb I1 q1 q2 q3 q4 q)
def U8 (wi:TI)(g:TG)(tb:TS):TS:=λD σ H=>wi σ H λJ H1=>∃W:Nat->Nat->St->Hp->Prop,(∃m,W 0 m σ H1)/\∀i m σ H,W i m σ H->
 (J.stop i H/\D.nx σ H)\/(J.go i H/\∃N:St->Hp->Prop,(∀σ' H',N σ' H'->∃m',m'<m/\W (i+1) m' σ' H')/\∀x H',J.NK i H x H'->g x σ H' λσ2 H2=>tb { D with nx:=N,ct:=N,bk:=D.nx } σ2 H2)
def tG (fp:List o?)(h:O?):List (o?×Obj):=fp.filterMap λb=>(h.get? b).map λo=>(b,o)
theorem fB {fp:List o?}{h:O?}{b:o?}{o:Obj}(hb:b∈fp)(e:h.get? b=j? o):(b,o)∈tG fp h:=List.mem_filterMap.mpr ⟨b,hb,by rw[e];rfl⟩
theorem Gs {fp:List o?}{h:O?}{p:o?×Obj}(hp:p∈tG fp h):p.1∈fp/\h.get? p.1=j? p.2:=by
 obtain⟨b,hb,e⟩:=List.mem_filterMap.mp hp;cases q:h.get? b with
 | none=>rw[q] at e;cases e
 | some o=>
  rw[q] at e;have e':(b,o)=p:=M? e;subst e';exact⟨hb,q⟩
theorem Inv.pinned {pins:List (o?×Obj)}{σ:St}{H:Hp}{s:u?}{fp:List o?}(I:Inv X pins σ H s)(hf:∀b∈fp,j6 X pins H b)(ho:∀b∈fp,∃o,s.heap.get? b=j? o/\∀v,o.data≠.cell v):Inv X (pins++tG fp s.heap) σ H s:=
 I.EW λp hp=>(List.mem_append.mp hp).elim (λz=>I.pin p (Yr _ z)) λz=>by
  obtain⟨hb,e⟩:=Gs z;obtain⟨f0,f1,f2,_⟩:=hf p.1 hb;obtain⟨o,e',d⟩:=ho p.1 hb;rw[e] at e';cases e';exact⟨e,f0,f1,f2,d⟩
theorem Inv.kU {pins pl:List (o?×Obj)}{σ:St}{H:Hp}{s:u?}(I:Inv X (pins++pl) σ H s):Inv X pins σ H s:=I.EW λp hp=>I.pin p (Yr _ (List.mem_append_left _ hp))
theorem bZ {iter:Expr}{body:List Q?}{wi:TI}{g:TG}{tb:TS}{pos:Pos}(hp:PassesOwn (S? X.prog X.w) X.A X.env X.xe)(hc:X.calm=true)(hi:PI X tg iter wi)(hg:PG X tg g)(hb:A_ X body tb)
  (hs:∀x,foldedSetIterable iter X.env x=pure x:=by intro _;rfl):PS X (.For tg iter body [] pos) (U8 wi g tb):=by
 refine⟨?_⟩
 intro pins s σ H D I h;refine wpAny_For (eV (hi pins s σ H _ I h) λv s1 h1=>eV h1 λitv s2 h2=>?_) hs
 obtain⟨it,fp,tn,J,H2,e,I2,T,st2,f2,W,⟨m0,w0⟩,turn⟩:=h2;subst e;have vW:∀ {H':Hp},(∀b∈fp,H' b=q?)->∀b∈fp,j6 X pins H' b:=λhn b hb=>⟨hn b hb,(f2 b hb).2⟩
 refine codeAny_forLoop_any (λn s'=>∃i σ' H',Inv X pins σ' H' s'/\tn i s'.heap/\(∀b∈fp,H' b=q?)/\W i n σ' H') ?_ m0 ⟨0,σ,H2,I2,st2,λb hb=>(f2 b hb).1,w0⟩
 rintro n s3 ⟨i,σ3,H3,I3,st3,NN,w3⟩;rcases turn i n σ3 H3 w3 with ⟨stop,qn⟩|⟨go,N,hN,step⟩
 ·refine wpAny_passesOwn hp (eV (T.done X rfl rfl rfl hc i pins s3 σ3 H3 X.xe I3 (vW NN) st3 stop) λr s4 ⟨hr,I4⟩=>?_)
  subst hr;exact wpAny_execs_nil ⟨σ3,H3,I4,qn⟩
 ·refine wpAny_passesOwn hp (eV (T.item X rfl rfl rfl hc i pins s3 σ3 H3 X.xe I3 (vW NN) st3 go) λr s4 ⟨u,hr,h4⟩=>?_)
  subst hr;refine wpAny_passesOwn hp (eV h4 λ_ s5 ⟨x,H5,I5,r5,y5,Ib,RX⟩=>?_)
  have RY:=I5.pinned (vW RX) (T.obj _ _ Ib);refine wpAny_passesOwn hp (eV (hg _ s5 σ3 H5 x u _ RY r5 (step x H5 y5)) λ_ s6 ⟨σ6,H6,I6,q6⟩=>?_)
  refine wpAny_passesOwn hp (eV (hb _ s6 σ6 H6 _ I6 q6) λf s7 q7=>?_)
  have again:∀ {σ7:St} {H7:Hp},Inv X (pins++tG fp s5.heap) σ7 H7 s7->N σ7 H7->∃m,m<n/\∃i σ' H',Inv X pins σ' H' s7/\tn i s7.heap/\(∀b∈fp,H' b=q?)/\W i m σ' H':=λ{σ7 H7} I7 n7=>by
   obtain⟨m',hm,w7⟩:=hN σ7 H7 n7;refine⟨m',hm,i+1,σ7,H7,I7.kU,T.keep _ _ _ Ib λb hb o e=>(I7.pin (b,o) (Yr _ (Yr _ (fB hb e)))).1,λb hb=>?_,w7⟩
   obtain⟨o,e,d⟩:=T.obj _ _ Ib b hb;exact(I7.pin (b,o) (Yr _ (Yr _ (fB hb e)))).2.1
  cases f with
  | next=>obtain⟨σ7,H7,I7,n7⟩:=q7;exact again I7 n7
  | cont=>obtain⟨σ7,H7,I7,n7⟩:=q7;exact again I7 n7
  | brk=>obtain⟨σ7,H7,I7,q7⟩:=q7;exact⟨σ7,H7,I7.kU,q7⟩
  | ret v=>obtain⟨x7,σ7,H7,I7,r7,q7⟩:=q7;exact⟨x7,σ7,H7,I7.kU,r7,q7⟩
end
theorem fZ {K:bM}{a:o?}{xs:List V}{g:TG}{tb:TS}{D:Ends}{σ:St}{H:Hp}(Pv:Nat->St->Hp->Prop)(h0:Pv 0 σ H)(hl:∀i σ H,i<=xs.length->Pv i σ H->aO K H a xs)
  (hs:∀i x σ H,xs[i]?=j? x->Pv i σ H->g x σ H λσ2 H2=>tb { D with nx:=Pv (i+1),ct:=Pv (i+1),bk:=D.nx } σ2 H2) (hd:∀σ H,Pv xs.length σ H->D.nx σ H):
  ∃W:Nat->Nat->St->Hp->Prop,(∃m,W 0 m σ H)/\∀i m σ H,W i m σ H->
   ((OX K a).stop i H/\D.nx σ H)\/((OX K a).go i H/\∃N:St->Hp->Prop,(∀σ' H',N σ' H'->∃m',m'<m/\W (i+1) m' σ' H')/\∀x H',(OX K a).NK i H x H'->g x σ H' λσ2 H2=>tb { D with nx:=N,ct:=N,bk:=D.nx } σ2 H2):=by
 refine⟨λi m σ H=>m=xs.length-i/\i<=xs.length/\Pv i σ H,⟨xs.length,by simp,Y1 _,h0⟩,?_⟩
 rintro i m σ H ⟨rfl,hi,p⟩;have q:=hl i σ H hi p;by_cases hlt:i<xs.length
 ·refine .inr ⟨⟨xs,xs[i],q,by simp[hlt]⟩,Pv (i+1),λσ' H' p'=>⟨xs.length-(i+1),by omega,rfl,hlt,p'⟩,λx H' y=>?_⟩
  obtain⟨e,y⟩:=y;subst e;exact hs i x σ _ (y xs q) p
 ·have e:i=xs.length:=by omega
  subst e;exact .inl ⟨⟨xs,q,Yd _⟩,hd σ H p⟩
theorem cI {lo:Int}{n:Nat}{g:TG}{tb:TS}{D:Ends}{σ:St}{H:Hp}(Pv:Nat->St->Hp->Prop)(h0:Pv 0 σ H)
  (hs:∀i σ H,i<n->Pv i σ H->g (.int (lo+i)) σ H λσ2 H2=>tb { D with nx:=Pv (i+1),ct:=Pv (i+1),bk:=D.nx } σ2 H2) (hd:∀σ H,Pv n σ H->D.nx σ H):
  ∃W:Nat->Nat->St->Hp->Prop,(∃m,W 0 m σ H)/\∀i m σ H,W i m σ H->
   ((L5 lo n).stop i H/\D.nx σ H)\/((L5 lo n).go i H/\∃N:St->Hp->Prop,(∀σ' H',N σ' H'->∃m',m'<m/\W (i+1) m' σ' H')/\∀x H',(L5 lo n).NK i H x H'->g x σ H' λσ2 H2=>tb { D with nx:=N,ct:=N,bk:=D.nx } σ2 H2):=by
 refine⟨λi m σ H=>m=n-i/\i<=n/\Pv i σ H,⟨n,by simp,Y1 _,h0⟩,?_⟩
 rintro i m σ H ⟨rfl,hi,p⟩;by_cases hlt:i<n
 ·refine .inr ⟨hlt,Pv (i+1),λσ' H' p'=>⟨n-(i+1),by omega,rfl,hlt,p'⟩,λx H' y=>?_⟩
  obtain⟨e,y⟩:=y;subst e y;exact hs i σ _ hlt p
 ·have e:i=n:=by omega
  subst e;exact .inl ⟨Yd _,hd σ H p⟩
theorem nk {c:TT}{tb:TS}{D:Ends}{σ:St}{H:Hp}(Pv:St->Hp->Prop)(μ:St->Hp->Nat)(h0:Pv σ H)
  (hs:∀σ H,Pv σ H->c σ H λb H1=>if b=true then tb { D with nx:=λσ' H'=>Pv σ' H'/\μ σ' H'<μ σ H,ct:=λσ' H'=>Pv σ' H'/\μ σ' H'<μ σ H,bk:=D.nx } σ H1 else D.nx σ H1)
  (mono:∀σ H Q Q',(∀b H1,Q b H1->Q' b H1)->c σ H Q->c σ H Q'):Dd c tb D σ H:=by
 refine⟨λm σ H=>m=μ σ H/\Pv σ H,⟨_,rfl,h0⟩,?_⟩
 rintro m σ H ⟨rfl,p⟩;refine mono σ H _ _ (λb H1 q=>?_) (hs σ H p)
 cases b with
 | true=>exact⟨_,λσ' H' ⟨p',l⟩=>⟨_,l,rfl,p'⟩,q⟩
 | false=>exact q
abbrev R2:=V->V->Hp->VK->Prop
def pL (X:Cx)(f:l?->l?->Sem l?)(r:R2):Prop:=
 ∀(pins:List (o?×Obj)) (s:u?) (σ:St) (H:Hp) (x y:V) (v u:l?) (Q:VK),Inv X pins σ H s->RelV x v->RelV y u->r x y H Q->
  L? (S? X.prog X.w) X.A (f v u) (EP X pins σ Q) X.xe s
def U9 (X:Cx)(f:l?->Sem l?)(r:V->Hp->VK->Prop):Prop:=
 ∀(pins:List (o?×Obj)) (s:u?) (σ:St) (H:Hp) (x:V) (v:l?) (Q:VK),Inv X pins σ H s->RelV x v->r x H Q->
  L? (S? X.prog X.w) X.A (f v) (EP X pins σ Q) X.xe s
def jE (X:Cx)(f:l?)(r:List V->Hp->VK->Prop):Prop:=
 ∀(pins:List (o?×Obj)) (s:u?) (σ:St) (H:Hp) (xs:List V) (us:List l?) (Q:VK),Inv X pins σ H s->Vals xs us->r xs H Q->
  L? (S? X.prog X.w) X.A (call f us) (EP X pins σ Q) X.xe s
def Uj (r:R2)(ta tb:TE):TE:=λσ H Q=>ta σ H λx H1=>tb σ H1 λy H2=>r x y H2 Q
def tUn (r:V->Hp->VK->Prop)(ta:TE):TE:=λσ H Q=>ta σ H λx H1=>r x H1 Q
def rI (C:Int->Int->Prop)(g:Int->Int->V):R2:=λx y H Q=>∃i j,x=.int i/\y=.int j/\C i j/\Q (g i j) H
def LJ (g:Int->Int->V):R2:=λx y H Q=>∃i j,x=.int i/\y=.int j/\Q (g i j) H
def rU (g:Int->V):V->Hp->VK->Prop:=λx H Q=>∃i,x=.int i/\Q (g i) H
section
variable {X:Cx} {a b c:Expr} {ta tb tc:TE} {pos:Pos}
theorem OY (ha:PE X a ta)(hb:PE X b tb){pins:List (o?×Obj)}{s:u?}{σ:St}{H:Hp}{R:V->V->Hp->Prop}(I:Inv X pins σ H s)
  (h:ta σ H λx H1=>tb σ H1 λy H2=>R x y H2) {Q:l?->u?->Prop} {f:l?->l?->Sem l?}
  (hf:∀v u s2 x y H2,Inv X pins σ H2 s2->RelV x v->RelV y u->R x y H2->L? (S? X.prog X.w) X.A (f v u) Q X.xe s2):
  L? (S? X.prog X.w) X.A (eval a X.env) (λv s₁=>L? (S? X.prog X.w) X.A (eval b X.env) (λu s₂=>L? (S? X.prog X.w) X.A (f v u) Q X.xe s₂) X.xe s₁) X.xe s:=by
 refine eV (ha pins s σ H _ I h) λv s1 ⟨x,H1,I1,r1,q1⟩=>?_
 refine eV (hb pins s1 σ H1 _ I1 q1) λu s2 ⟨y,H2,I2,r2,q2⟩=>?_
 exact hf v u s2 x y H2 I2 r1 r2 q2
theorem au {op:Operator}{r:R2}(ho:pL X (binaryOp op) r)(ha:PE X a ta)(hb:PE X b tb):PE X (.BinOp a op b pos) (Uj r ta tb):=by
 refine⟨?_⟩
 intro pins s σ H Q I h;exact wpAny_BinOp (OY ha hb I h λv u s2 x y H2 I2 rx ry q=>ho pins s2 σ H2 x y v u Q I2 rx ry q)
theorem vX {op:UnaryOp}{r:V->Hp->VK->Prop}(ho:U9 X (unaryOp op) r)(ha:PE X a ta):PE X (.UnaryOp op a pos) (tUn r ta):=by
 refine⟨?_⟩
 intro pins s σ H Q I h;exact UnaryOp_ (eV (ha pins s σ H _ I h) λv s1 ⟨x,H1,I1,r1,q1⟩=>ho pins s1 σ H1 x v Q I1 r1 q1)
theorem Uk {f:l?->l?->Sem l?}{C:Int->Int->Prop}{g:Int->Int->Int}
  (rule:∀(i j:Int) (t u:Tok) (s:u?) (Q:l?->u?->Prop) (E:l?->u?->Prop),C i j->Q (.int (g i j) s.toks) { s with toks:=s.toks+1 }->L? (S? X.prog X.w) X.A (f (.int i t) (.int j u)) Q E s):
  pL X f (rI C λi j=>.int (g i j)):=by
 intro pins s σ H x y v u Q I rx ry h;obtain⟨i,j,rfl,rfl,hc,q⟩:=h;obtain⟨t,rfl⟩:=rx;obtain⟨t',rfl⟩:=ry;exact rule i j t t' s _ _ hc ⟨.int (g i j),H,I.tok _,⟨_,rfl⟩,q⟩
theorem L7 {f:l?->l?->Sem l?}{g:Int->Int->Int}
  (rule:∀(i j:Int) (t u:Tok) (s:u?) (Q:l?->u?->Prop) (E:l?->u?->Prop),Q (.int (g i j) s.toks) { s with toks:=s.toks+1 }->L? (S? X.prog X.w) X.A (f (.int i t) (.int j u)) Q E s):
  pL X f (LJ λi j=>.int (g i j)):=by
 intro pins s σ H x y v u Q I rx ry h;obtain⟨i,j,rfl,rfl,q⟩:=h;obtain⟨t,rfl⟩:=rx;obtain⟨t',rfl⟩:=ry;exact rule i j t t' s _ _ ⟨.int (g i j),H,I.tok _,⟨_,rfl⟩,q⟩
theorem L8 {f:l?->l?->Sem l?}{g:Int->Int->Bool}
  (rule:∀(i j:Int) (t u:Tok) (s:u?) (Q:l?->u?->Prop) (E:l?->u?->Prop),Q (.bool (g i j)) s->L? (S? X.prog X.w) X.A (f (.int i t) (.int j u)) Q E s):
  pL X f (LJ λi j=>.bl (g i j)):=by
 intro pins s σ H x y v u Q I rx ry h;obtain⟨i,j,rfl,rfl,q⟩:=h;obtain⟨t,rfl⟩:=rx;obtain⟨t',rfl⟩:=ry;exact rule i j t t' s _ _ ⟨.bl (g i j),H,I,rfl,q⟩
def OZ (i j:Int):Prop:=0<=j/\j<=1000000/\i.natAbs<2 ^ 64
theorem bU:pL X (binaryOp .Add) (LJ λi j=>.int (i+j)):=L7 λ_ _ _ _ _ _ _ q=>add_int q
theorem bO:pL X (binaryOp .Sub) (LJ λi j=>.int (i-j)):=L7 λ_ _ _ _ _ _ _ q=>sub_int q
theorem bD:pL X (binaryOp .Mod) (rI (λ_ j=>j≠0) λi j=>.int (i.fmod j)):=Uk λ_ _ _ _ _ _ _ hc q=>mod_int' hc q
theorem zJ:pL X (binaryOp .Pow) (rI OZ λi j=>.int (i ^ j.toNat)):=Uk λ_ _ _ _ _ _ _ hc q=>pow_int_small hc.1 hc.2.1 hc.2.2 q
theorem zK:pL X (inplaceOp .Add) (LJ λi j=>.int (i+j)):=L7 λ_ _ _ _ _ _ _ q=>iadd_int q
theorem L_:pL X (inplaceOp .Sub) (LJ λi j=>.int (i-j)):=L7 λ_ _ _ _ _ _ _ q=>isub_int q
theorem unI {f:l?->Sem l?}{g:Int->Int}
  (rule:∀(i:Int) (t:Tok) (s:u?) (Q:l?->u?->Prop) (E:l?->u?->Prop),Q (.int (g i) s.toks) { s with toks:=s.toks+1 }->L? (S? X.prog X.w) X.A (f (.int i t)) Q E s):
  U9 X f (rU λi=>.int (g i)):=by
 intro pins s σ H x v Q I rx h;obtain⟨i,rfl,q⟩:=h;obtain⟨t,rfl⟩:=rx;exact rule i t s _ _ ⟨.int (g i),H,I.tok _,⟨_,rfl⟩,q⟩
theorem pX:U9 X (unaryOp .USub) (rU λi=>.int (-i)):=unI λ_ _ _ _ _ q=>neg_int q
end
def O0:V->V->Bool
 | .fk,.fk=>true | .fk,.int _=>true | .int _,.fk=>true | .fk,.bl _=>true | .bl _,.fk=>true | .fk,.str _=>true | .str _,.fk=>true
 | .int _,.int _=>true | .bl _,.bl _=>true | .str _,.str _=>true | .byt _,.byt _=>true
 | .int _,.str _=>true | .str _,.int _=>true | .bl _,.str _=>true | .str _,.bl _=>true
 | _,_=>false
def rEq:R2:=λx y H Q=>O0 x y=true/\Q (.bl (decide (x=y))) H
def rNe:R2:=λx y H Q=>O0 x y=true/\Q (.bl (!decide (x=y))) H
theorem EZ {i j:Int}:decide (V.int i=V.int j)=(i == j):=by
 rw[Bool.eq_iff_iff];simp
theorem Ic {i j:Bool}:decide (V.bl i=V.bl j)=(i == j):=by
 rw[Bool.eq_iff_iff];simp
theorem E1 {i j:Str}:decide (V.str i=V.str j)=(i == j):=by
 rw[Bool.eq_iff_iff];simp
theorem E2 {i j:Array UInt8}:decide (V.byt i=V.byt j)=(i.toList == j.toList):=by
 rw[Bool.eq_iff_iff];cases i;cases j;simp
section
variable {X:Cx} {a b c:Expr} {ta tb tc:TE} {pos:Pos}
theorem cC {pins:List (o?×Obj)}{σ:St}{H:Hp}{s:u?}{Q:VK}{k k':Bool}(I:Inv X pins σ H s)(q:Q (.bl k) H)(e:k=k'):EP X pins σ Q (.bool k') s:=by
 subst e;exact⟨.bl k,H,I,rfl,q⟩
theorem iW:pL X (J! .Eq) rEq:=by
 intro pins s σ H x y v u Q I rx ry h;obtain⟨hs,q⟩:=h;cases x with
 | fk=>
  cases rx;cases y with
  | fk=>cases ry;exact PySem.EqNone.eq_none_none (cC I q (by simp))
  | bl j=>cases ry;exact PySem.EqNone.eq_none_bool (cC I q (by simp))
  | int j=>obtain⟨t',rfl⟩:=ry;exact PySem.EqNone.eq_none_int (cC I q (by simp))
  | str j=>obtain⟨t',rfl⟩:=ry;exact PySem.EqNone.eq_none_str (cC I q (by simp))
  | _=>exact Jg (show false=true from hs) E?
 | bl i=>
  cases rx;cases y with
  | fk=>cases ry;exact PySem.EqNone.eq_bool_none (cC I q (by simp))
  | bl j=>cases ry;exact eq_bool (cC I q Ic)
  | str j=>obtain⟨t',rfl⟩:=ry;exact PySem.EqMixed.eq_bool_str (cC I q (by simp))
  | _=>exact Jg (show false=true from hs) E?
 | int i=>
  obtain⟨t,rfl⟩:=rx;cases y with
  | fk=>cases ry;exact PySem.EqNone.eq_int_none (cC I q (by simp))
  | int j=>obtain⟨t',rfl⟩:=ry;exact eq_int (cC I q EZ)
  | str j=>obtain⟨t',rfl⟩:=ry;exact PySem.EqMixed.eq_int_str (cC I q (by simp))
  | _=>exact Jg (show false=true from hs) E?
 | str i=>
  obtain⟨t,rfl⟩:=rx;cases y with
  | fk=>cases ry;exact PySem.EqNone.eq_str_none (cC I q (by simp))
  | bl j=>cases ry;exact PySem.EqMixed.eq_str_bool (cC I q (by simp))
  | int j=>obtain⟨t',rfl⟩:=ry;exact PySem.EqMixed.eq_str_int (cC I q (by simp))
  | str j=>obtain⟨t',rfl⟩:=ry;exact eq_str (cC I q E1)
  | _=>exact Jg (show false=true from hs) E?
 | byt i=>
  obtain⟨t,rfl⟩:=rx;cases y with
  | byt j=>obtain⟨t',rfl⟩:=ry;exact PySem.W.eq_bytes (cC I q E2)
  | _=>exact Jg (show false=true from hs) E?
 | _=>cases y <;> exact Jg (show false=true from hs) E?
theorem qZ:pL X (J! .NotEq) rNe:=by
 intro pins s σ H x y v u Q I rx ry h;obtain⟨hs,q⟩:=h;cases x with
 | fk=>
  cases rx;cases y with
  | fk=>cases ry;exact PySem.EqNone.ne_none_none (cC I q (by simp))
  | bl j=>cases ry;exact PySem.EqNone.ne_none_bool (cC I q (by simp))
  | int j=>obtain⟨t',rfl⟩:=ry;exact PySem.EqNone.ne_none_int (cC I q (by simp))
  | str j=>obtain⟨t',rfl⟩:=ry;exact PySem.EqNone.ne_none_str (cC I q (by simp))
  | _=>exact Jg (show false=true from hs) E?
 | bl i=>
  cases rx;cases y with
  | fk=>cases ry;exact PySem.EqNone.ne_bool_none (cC I q (by simp))
  | bl j=>cases ry;exact ne_bool (cC I q (Je not Ic))
  | str j=>obtain⟨t',rfl⟩:=ry;exact PySem.EqMixed.ne_bool_str (cC I q (by simp))
  | _=>exact Jg (show false=true from hs) E?
 | int i=>
  obtain⟨t,rfl⟩:=rx;cases y with
  | fk=>cases ry;exact PySem.EqNone.ne_int_none (cC I q (by simp))
  | int j=>obtain⟨t',rfl⟩:=ry;exact ne_int (cC I q (Je not EZ))
  | str j=>obtain⟨t',rfl⟩:=ry;exact PySem.EqMixed.ne_int_str (cC I q (by simp))
  | _=>exact Jg (show false=true from hs) E?
 | str i=>
  obtain⟨t,rfl⟩:=rx;cases y with
  | fk=>cases ry;exact PySem.EqNone.ne_str_none (cC I q (by simp))
  | bl j=>cases ry;exact PySem.EqMixed.ne_str_bool (cC I q (by simp))
  | int j=>obtain⟨t',rfl⟩:=ry;exact PySem.EqMixed.ne_str_int (cC I q (by simp))
  | str j=>obtain⟨t',rfl⟩:=ry;exact ne_str (cC I q (Je not E1))
  | _=>exact Jg (show false=true from hs) E?
 | byt i=>
  obtain⟨t,rfl⟩:=rx;cases y with
  | byt j=>obtain⟨t',rfl⟩:=ry;exact PySem.W.ne_bytes (cC I q (Je not E2))
  | _=>exact Jg (show false=true from hs) E?
 | _=>cases y <;> exact Jg (show false=true from hs) E?
theorem Ie:pL X (J! .Lt) (LJ λi j=>.bl (decide (i<j))):=L8 λ_ _ _ _ _ _ _ q=>lt_int q
theorem Ig:pL X (J! .LtE) (LJ λi j=>.bl (decide (i<=j))):=L8 λ_ _ _ _ _ _ _ q=>le_int q
theorem yS:pL X (J! .Gt) (LJ λi j=>.bl (decide (j<i))):=L8 λ_ _ _ _ _ _ _ q=>gt_int q
theorem RZ:pL X (J! .GtE) (LJ λi j=>.bl (decide (j<=i))):=L8 λ_ _ _ _ _ _ _ q=>ge_int q
theorem bG (b:Expr){op:CmpOp}(h:op≠.In:=by decide)(h2:op≠.NotIn:=by decide):behindInMarks op b=false:=by
 have e1:(op == CmpOp.In)=false:=by cases op <;> first|rfl|exact Jg rfl h
 have e2:(op == CmpOp.NotIn)=false:=by cases op <;> first|rfl|exact Jg rfl h2
 cases b <;> simp[behindInMarks,e1,e2]
theorem q8 {op:CmpOp}{r:R2}(ho:pL X (J! op) r)(ha:PE X a ta)(hb:PE X b tb)(hm:behindInMarks op b=false):PE X (.Compare a [op] [b] pos) (Uj r ta tb):=by
 refine⟨?_⟩
 intro pins s σ H Q I h;exact wpAny_Compare1 (OY ha hb I h λv u s2 x y H2 I2 rx ry q=>ho pins s2 σ H2 x y v u Q I2 rx ry q) hm
def R0 (t:TE):TT:=λσ H Q=>t σ H λx H'=>∃k,x=.bl k/\Q k H'
theorem a_ {op:CmpOp}{r:R2}(ho:pL X (J! op) r)(ha:PE X a ta)(hb:PE X b tb)(hm:behindInMarks op b=false):PT X (.Compare a [op] [b] pos) (R0 (Uj r ta tb)):=by
 refine⟨?_⟩
 intro pins s σ H Q I h;refine wpAny_isTrue_Compare1 (eV (ha pins s σ H _ I h) λv s1 ⟨x,H1,I1,r1,q1⟩=>eV (hb pins s1 σ H1 _ I1 q1) λu s2 ⟨y,H2,I2,r2,q2⟩=>
  eV (ho pins s2 σ H2 x y v u _ I2 r1 r2 q2) λc s3 ⟨z,H3,I3,r3,k,e,q3⟩=>?_) hm
 subst e;cases r3;exact wpAny_truthy_bool ⟨H3,I3,q3⟩
def O1 (r r':R2)(ta tb tc:TE):TE:=λσ H Q=>ta σ H λx H1=>tb σ H1 λy H2=>r x y H2 λz H3=>∃k,z=.bl k/\
 (if k=true then tc σ H3 λw' H4=>r' y w' H4 Q else Q (.bl false) H3)
theorem Ih {op op':CmpOp}{r r':R2}(ho:pL X (J! op) r)(ho':pL X (J! op') r')(ha:PE X a ta)(hb:PE X b tb)(hc:PE X c tc)
  (hm:lastMarks [op,op'] [b,c]=false:=by with_unfolding_all rfl):PE X (.Compare a [op,op'] [b,c] pos) (O1 r r' ta tb tc):=by
 refine⟨?_⟩
 intro pins s σ H Q I h;refine Compare_chain (eV (ha pins s σ H _ I h) λv s1 ⟨x,H1,I1,r1,q1⟩=>chain_link (eV (hb pins s1 σ H1 _ I1 q1) λu s2 ⟨y,H2,I2,r2,q2⟩=>
  eV (ho pins s2 σ H2 x y v u _ I2 r1 r2 q2) λd s3 ⟨z,H3,I3,r3,k,e,q3⟩=>?_)) hm
 subst e;cases r3;refine wpAny_truthy_bool ?_
 cases k with
 | false=>exact ite_ff ⟨.bl false,H3,I3,rfl,q3⟩
 | true=>exact ite_tt (chain_last (eV (hc pins s3 σ H3 _ I3 q3) λw' s4 ⟨z',H4,I4,r4,q4⟩=>ho' pins s4 σ H4 y z' u w' Q I4 r2 r4 q4))
theorem vY:(K?:Nat)<2 ^ 63:=by rw[C?];decide
theorem vals1 {x:V}{us:List l?}(r:Vals [x] us):∃u,us=[u]/\RelV x u:=by
 cases r with
 | cons r1 r2=>cases r2;exact⟨_,rfl,r1⟩
theorem vals2 {x y:V}{us:List l?}(r:Vals [x,y] us):∃u w',us=[u,w']/\RelV x u/\RelV y w':=by
 cases r with
 | cons r1 r2=>
  cases r2 with
  | cons r3 r4=>cases r4;exact⟨_,_,rfl,r1,r3⟩
theorem Bc:jE X (.builtin "abs") (λxs H Q=>∃i,xs=[.int i]/\Q (.int (if i<0 then -i else i)) H):=by
 intro pins s σ H xs us Q I r h;obtain⟨i,rfl,q⟩:=h;obtain⟨u,rfl,t,rfl⟩:=vals1 r;exact call_abs_int λu tk=>⟨.int (if i<0 then -i else i),H,I.tok _,⟨_,rfl⟩,q⟩
theorem yT (hc:X.calm=true):jE X (.builtin "max") (λxs H Q=>∃i j,xs=[.int i,.int j]/\Q (.int (if j > i then j else i)) H):=by
 intro pins s σ H xs us Q I r h;obtain⟨i,j,rfl,q⟩:=h;obtain⟨u,w',rfl,⟨t,rfl⟩,⟨t',rfl⟩⟩:=vals2 r;refine max_two_ints (I.ok.hd hc) λh' tk k=>⟨_,H,I.kept k,?_,q⟩
 by_cases hj:j > i
 ·rw[Ja hj,Ja hj];exact⟨_,rfl⟩
 ·rw[W9 hj,W9 hj];exact⟨_,rfl⟩
end
structure fM (k:Nat)(A:A!):Prop where
 hd:A.handled=q?
 dp:A.depth+3*k+5<recursionLimit
 un:A.units+16*k+200<cLine
 gd:A.guards=j? []
theorem fM.mono {j k:Nat}{A:A!}(r:fM k A)(h:j<=k):fM j A:=⟨r.hd,by have:=r.dp;omega,by have:=r.un;omega,r.gd⟩
theorem fM.deeper {k:Nat}{A:A!}(r:fM (k+1) A)(env:Env):fM k (A.deeper env):=
 ⟨r.hd,by have:=r.dp;show A.depth+1+3*k+5<_;omega,by have:=r.un;show A.units+3+16*k+200<_;omega,r.gd⟩
theorem fM.in1 {k:Nat}{A:A!}(r:fM (k+1) A):fM k A.in1:=
 ⟨r.hd,by have:=r.dp;show A.depth+3*k+5<_;omega,by have:=r.un;show A.units+1+16*k+200<_;omega,r.gd⟩
theorem fM.depth {k:Nat}{A:A!}(r:fM k A):A.depth<recursionLimit:=by have:=r.dp;omega
theorem fM.units {k:Nat}{A:A!}(r:fM k A):A.units+64<cLine:=by have:=r.un;omega
def Ii:TA:=λ_ H Q=>Q [] H
def Be (ta:TE)(tr:TA):TA:=λσ H Q=>ta σ H λx H1=>tr σ H1 λxs H2=>Q (x::xs) H2
section
variable {X:Cx} {e:Expr} {es:List Expr} {te:TE} {t:TA} {pos:Pos}
theorem ah:PA X [] Ii:=⟨λ_ _ _ _ H Q I h=>Calls.spliced_nil ⟨[],H,I,.nil,h⟩⟩
theorem af (ha:PE X e te)(hr:PA X es t)(hs:I? (e::es) X.env=(false,eval e X.env)::I? es X.env:=by rfl):PA X (e::es) (Be te t):=by
 refine⟨?_⟩
 intro pos pins s σ H Q I h;rw[hs];show L? _ _ (spliced ((false,eval e X.env)::backTo pos (I? es X.env))) _ _ s
 refine Calls.spliced_cons (eV (ha pins s σ H _ I h) λu s1 ⟨x,H1,I1,r1,q1⟩=>?_)
 exact eV (hr pos pins s1 σ H1 _ I1 q1) λus s2 ⟨xs,H2,I2,r2,q2⟩=>⟨x::xs,H2,I2,.cons r1 r2,q2⟩
def U_ (t:TA):TE:=λσ H Q=>t σ H λxs H1=>xs.length<=K?/\∀p,H1 p=q?->Q (.ref p) (upd H1 p (.tup xs))
def Va (t:TA):TE:=λσ H Q=>t σ H λxs H1=>xs.length<=K?/\∀p,H1 p=q?->Q (.ref p) (upd H1 p (.lst xs))
theorem ja {x1}(h:PA X es t):PE X (.Tuple es x1 pos) (U_ t):=by
 refine⟨?_⟩
 intro pins s σ H Q I hq;refine wpAny_Tuple_spliced (eV (h pos pins s σ H _ I hq) λus s1 ⟨xs,H1,I1,r,z,q⟩=>⟨by rw[<- r.length];exact z,?_⟩)
 have hf:H1 s1.heap.objs.size=q?:=I1.hok.fresh (Yd _);refine⟨.ref s1.heap.objs.size,upd H1 s1.heap.objs.size (.tup xs),I1.laid (t':=s1.toks) (λb u e=>Yh _ e) (Yd _) ?_,rfl,q _ hf⟩
 exact⟨z,us,r,⟨_,Y0 _ rfl,rfl,_,rfl⟩⟩
theorem aZ (h:PA X es t):PE X (.List es pos) (Va t):=by
 refine⟨?_⟩
 intro pins s σ H Q I hq;refine wpAny_List_spliced (eV (h pos pins s σ H _ I hq) λus s1 ⟨xs,H1,I1,r,z,q⟩=>⟨by rw[<- r.length];exact z,?_⟩)
 have hf:H1 s1.heap.objs.size=q?:=I1.hok.fresh (Yd _);refine⟨.ref s1.heap.objs.size,upd H1 s1.heap.objs.size (.lst xs),I1.laid (t':=s1.toks) (λb u e=>Yh _ e) (Yd _) ?_,rfl,q _ hf⟩
 exact⟨z,us,0,r,Y0 _ rfl⟩
end
abbrev Sp:=List V->Hp->VK->XK->Prop
abbrev Gu:=List Env->Hp->u?->XK->l?->u?->Prop
structure Gv (P:F?)(w:H?)(K:bM)(mg:Str->Option l?)(base:O?)(A:A!)(outer:List Env)(s:u?)(H:Hp):Prop where
 frames:A.frames=j? outer
 mod:Mod K mg base
 bs:∀b o,base.get? b=j? o->s.heap.get? b=j? o/\H b=q?
 EU:base.objs.size<=s.heap.objs.size
 nh:s.heap.FunFrames base outer
 HW:∀b∈frs outer,H b=q?
 hok:uK P w H s.heap
 bare:AllBare s.gens
def CE (outer:List Env)(P:F?)(w:H?)(H:Hp)(s:u?)(Q:VK)(u:l?)(s':u?):Prop:=
 ∃v H',s'.os=s.os/\AllBare s'.gens/\Un (frs outer) [] H H' s.heap s'.heap/\uK P w H' s'.heap/\RelV v u/\Q v H'
def CR (CX:Gu)(outer:List Env)(P:F?)(w:H?)(H:Hp)(s:u?)(Q:VK)(E:XK)(r:Result)(s':u?):Prop:=
 match r with
 | .ok (.ret u)=>CE outer P w H s Q u s'
 | .ok _=>False
 | .error e=>CX outer H s E e s'
structure lM (P:F?)(w:H?)(K:bM)(mg:Str->Option l?)(base:O?)(CX:Gu)(k:Nat)(f:o?)(fd:O!)(ps:List Str)(sp:Sp):Prop where
 len:∀vs H Q E,sp vs H Q E->vs.length=ps.length
 run:∀(A:A!) (outer:List Env) (s:u?) (H:Hp) (args:Args) (us:List l?) (vs:List V) (Q:VK) (E:XK),fM k A->Gv P w K mg base A outer s H->BindsTo s fd args (ps.zip us)->Vals vs us->sp vs H Q E->
  codeAny (S? P w) A (.call (.ref f) args) (CR CX outer P w H s Q E) s
theorem lM.imp {P:F?}{w:H?}{K:bM}{mg:Str->Option l?}{base:O?}{CX:Gu}{k:Nat}{f:o?}{fd:O!}{ps:List Str}{sp XJ:Sp}(F:lM P w K mg base CX k f fd ps sp)
  (h:∀vs H Q E,XJ vs H Q E->sp vs H Q E):lM P w K mg base CX k f fd ps XJ:=
 ⟨λvs H Q E q=>F.len vs H Q E (h _ _ _ _ q),λA outer s H args us vs Q E hr he hb hv hs=>F.run A outer s H args us vs Q E hr he hb hv (h _ _ _ _ hs)⟩
section
variable {X:Cx} {pins:List (o?×Obj)} {σ:St} {H:Hp} {s s':u?}
theorem Inv.R1 (I:Inv X pins σ H s):Gv X.prog X.w X.K X.mg X.base X.A X.stack s H:=
 ⟨I.ok.frames,I.ok.mod,I.bs,Yn I.ok.EU I.sz,I.stack,I.vA,I.hok,I.bare⟩
theorem Inv.after {Q:VK}{u:l?}(I:Inv X pins σ H s)(h:CE X.stack X.prog X.w H s Q u s'):EP X pins σ Q u s':=by
 obtain⟨v,H',os,bare,un,hok,r,q⟩:=h;obtain⟨hh,g,d,t,os'⟩:=s';obtain rfl:os'=s.os:=os
 exact⟨v,H',I.call (h':=hh) (g':=g) (d':=d) (t':=t) (ch:=[]) un hok bare (λb z=>Jg z (by simp)),r,q⟩
end
def Ij (sp:Sp)(NO:List V)(E:XK)(t:TA):TE:=λσ H Q=>t σ H λvs H1=>sp (vs++NO) H1 Q E
def Binds (K:bM)(fd:O!)(ps:List Str)(ds:List l?):Prop:=
 ∀(s:u?) (us:List l?),K.In s.heap->(us++ds).length=ps.length->BindsTo s fd ⟨us,[]⟩ (ps.zip (us++ds))
theorem Binds.all {K:bM}{fd:O!}{ps:List Str}(h:∀us:List l?,us.length=ps.length->bindArgs fd ⟨us,[]⟩=pure (ps.zip us)):Binds K fd ps []:=λs us _ hl=>by
 rw[List.append_nil] at hl ⊢;exact .of_eq (h us hl)
def Passes (CX:Gu)(X:Cx)(E:XK):Prop:=∀(pins:List (o?×Obj)) (σ:St) (H:Hp) (s:u?) (e:l?) (s':u?),Inv X pins σ H s->CX X.stack H s E e s'->X.xe e s'
section
variable {X:Cx} {CX:Gu} {k:Nat} {f C:o?} {fd:O!} {ps:List Str} {sp:Sp} {NO:List V} {ds:List l?} {E:XK} {x m:Str} {p pos apos:Pos} {e o:Expr} {es:List Expr} {ta:TE} {t:TA}
theorem O2 {pins:List (o?×Obj)}{σ:St}{H:Hp}{s:u?}{Q:VK}{us:List l?}{vs:List V}(F:lM X.prog X.w X.K X.mg X.base CX k f fd ps sp)(hr:fM k X.A)(hb:Binds X.K fd ps ds)(hd:Vals NO ds)(hx:Passes CX X E)
  (I:Inv X pins σ H s) (r:Vals vs us) (h:sp (vs++NO) H Q E):L? (S? X.prog X.w) X.A (call (.ref f) us) (EP X pins σ Q) X.xe s:=by
 have r2:Vals (vs++NO) (us++ds):=r.append hd;have hl:(us++ds).length=ps.length:=by rw[<- r2.length];exact F.len _ _ _ _ h
 refine wpAny_call (codeAny_mono (F.run X.A X.stack s H ⟨us,[]⟩ (us++ds) (vs++NO) Q E hr I.R1 (hb s us I.EV hl) r2 h) λr s' hq=>?_)
 cases r with
 | error e=>exact hx pins σ H s e s' I hq
 | ok fl=>
  cases fl with
  | ret u=>exact I.after hq
  | next=>exact M! hq
  | brk=>exact M! hq
  | cont=>exact M! hq
theorem E3 (F:lM X.prog X.w X.K X.mg X.base CX k f fd ps sp)(hr:fM k X.A)(hg:Gl X x)(hm:X.mg x=j? (.ref f))(hk:C! X.K (.ref f)=true)(hb:Binds X.K fd ps ds)(hd:Vals NO ds)(hx:Passes CX X E)
  (ha:PA X (e::es) t) (hdb:(x ==("__debug__":Str))=false:=by decide) (he:I? (e::es) X.env=(false,eval e X.env)::I? es X.env:=by rfl) (hpl:(backTo pos (I? es X.env)).any (·.1)=false:=by rfl):
  PE X (.Call (.Name x p) (e::es) [] pos) (Ij sp NO E t):=by
 refine⟨?_⟩
 intro pins s σ H Q I h;refine wpAny_Call_Name_kw (zG I hg hm ?_ hdb)
 refine PySem.W.callWith_K (h₀:=X.base) I.ok.mod.Uc hk (eV (ha pos pins s σ H _ I h) λus s1 ⟨vs,H1,I1,r,q⟩=>⟨I1.EV,?_⟩) he hpl
 exact O2 F hr hb hd hx I1 r q
end
def PK (X:Cx)(kws:List Keyword)(t:TA):Prop:=
 ∀(pos:Pos) (pins:List (o?×Obj)) (s:u?) (σ:St) (H:Hp) (Q:List V->Hp->Prop),Inv X pins σ H s->t σ H Q->L? (S? X.prog X.w) X.A (evalAll ((backToKw pos (keywordEach kws X.env)).map (·.2))) (AP X pins σ Q) X.xe s
section
variable {X:Cx} {CX:Gu} {k:Nat} {f C:o?} {fd:O!} {ps ks:List Str} {sp:Sp} {E:XK} {x m:Str} {p pos apos kpos:Pos} {e o:Expr} {es:List Expr} {kws:List Keyword} {te ta:TE} {t tk:TA} {nm:Option Str}
theorem O3:PK X [] Ii:=λ_ _ _ _ H Q I h=>wpAny_evalAll_nil ⟨[],H,I,.nil,h⟩
theorem Ma (ha:PE X e te)(hr:PK X kws t):PK X (⟨nm,e,kpos⟩::kws) (Be te t):=by
 intro pos pins s σ H Q I h;show L? _ _ (evalAll ((do let v <- eval e X.env;standAt pos;pure v)::(backToKw pos (keywordEach kws X.env)).map (·.2))) _ _ s
 refine wpAny_evalAll_cons (B? (eV (ha pins s σ H _ I h) λu s1 ⟨x,H1,I1,r1,q1⟩=>B? (wpAny_standAt (J? ?_))))
 exact eV (hr pos pins s1 σ H1 _ I1 q1) λus s2 ⟨xs,H2,I2,r2,q2⟩=>⟨x::xs,H2,I2,.cons r1 r2,q2⟩
variable {g:List l?->List l?->List l?} {gV:List V->List V->List V}
end
structure aK (N P:List Str)(sc:Scope):Prop where
 kind:sc.kind=.function
 co:sc.isCoroutine=false
 gen:sc.isGenerator=false
 nd:N.Nodup
 pre:N.take P.length=P
 par:∀x∈P,sc.names.lookup x=j? .local\/sc.names.lookup x=j? .cell
 O4:∀y∈sc.names,y.2≠.free
theorem yU {kindOf:Str->Option NameKind}{x:Str}:∀ {binds:List (Str×l?)} {m:Str->Option l?},(∀v,(x,v) ∉ binds)->bindL kindOf binds m x=m x
 | [],_,_=>rfl
 | (n,v)::r,m,h=>by
  unfold bindL;rw[yU λw hw=>h w (Y7 _ hw)]
  split
  ·have:x≠n:=by rintro rfl;exact h v Zc
   simp[this]
  ·rfl
theorem yV {kindOf:Str->Option NameKind}{x:Str}:∀ {binds:List (Str×l?)} {m:Str->Option l?},(∀v,(x,v) ∉ binds)->bindC kindOf binds m x=m x
 | [],_,_=>rfl
 | (n,v)::r,m,h=>by
  unfold bindC;rw[yV λw hw=>h w (Y7 _ hw)]
  split
  ·rfl
  ·have:x≠n:=by rintro rfl;exact h v Zc
   simp[this]
theorem yW {kindOf:Str->Option NameKind}{x:Str}{v:l?}:∀ {P:List Str} {vs:List l?} {i:Nat} {m:Str->Option l?},P.Nodup->P[i]?=j? x->vs[i]?=j? v->kindOf x=j? .local->
  bindL kindOf (P.zip vs) m x=j? v
 | [],_,_,_,_,h,_,_=>by simp at h
 | _::_,[],_,_,_,_,h,_=>by simp at h
 | p::P,w::vs,0,m,nd,h1,h2,hk=>by
  simp at h1 h2;subst h1;subst h2;show bindL kindOf ((p,w)::P.zip vs) m p=_
  unfold bindL;rw[yU λv hv=>(List.nodup_cons.mp nd).1 (List.of_mem_zip hv).1,Ja hk]
  simp
 | p::P,w::vs,i+1,m,nd,h1,h2,hk=>by
  show bindL kindOf ((p,w)::P.zip vs) m x=_
  unfold bindL;exact yW (i:=i) (List.nodup_cons.mp nd).2 (by simpa using h1) (by simpa using h2) hk
theorem yX {kindOf:Str->Option NameKind}{x:Str}{v:l?}:∀ {P:List Str} {vs:List l?} {i:Nat} {m:Str->Option l?},P.Nodup->P[i]?=j? x->vs[i]?=j? v->kindOf x≠j? .local->
  bindC kindOf (P.zip vs) m x=j? v
 | [],_,_,_,_,h,_,_=>by simp at h
 | _::_,[],_,_,_,_,h,_=>by simp at h
 | p::P,w::vs,0,m,nd,h1,h2,hk=>by
  simp at h1 h2;subst h1;subst h2;show bindC kindOf ((p,w)::P.zip vs) m p=_
  unfold bindC;rw[yV λv hv=>(List.nodup_cons.mp nd).1 (List.of_mem_zip hv).1,W9 hk]
  simp
 | p::P,w::vs,i+1,m,nd,h1,h2,hk=>by
  show bindC kindOf ((p,w)::P.zip vs) m x=_
  unfold bindC;exact yX (i:=i) (List.nodup_cons.mp nd).2 (by simpa using h1) (by simpa using h2) hk
def start (N:List Str)(vs:List V):St:=vs.map j?++Yo (N.length-vs.length) q?
def pY (CX:Gu)(P:F?)(w:H?)(K:bM)(mg:Str->Option l?)(base:O?)(N:List Str)(qual:Str)(scope:Scope)(f:o?)(cd:l?)(A:A!)(outer:List Env)(s:u?)(H:Hp)(E:XK):Cx where
 prog:=P
 w:=w
 K:=K
 mg:=mg
 base:=base
 A:=A.deeper (envOfC qual scope s.heap.objs.size f cd)
 N:=N
 s₀:=s
 H₀:=H
 env:=envOfC qual scope s.heap.objs.size f cd
 outer:=outer
 stack:=envOfC qual scope s.heap.objs.size f cd::outer
 ex:=[]
 calm:=true
 fn:=λ_=>true
 pn:=[]
 xe:=λe s'=>L? (S? P w) (A.deeper (envOfC qual scope s.heap.objs.size f cd)) (leaving (envOfC qual scope s.heap.objs.size f cd) e) (λ_ s''=>CX outer H s E e s'') (λe' s''=>CX outer H s E e' s'') s'
theorem vZ {sc:Scope}{n:Nat}{x:Str}(h:sc.names.lookup x=j? .cell):∃c,(cellsFrom n sc.names []).lookup x=j? c:=by
 have q:=PySem.W.cellsFrom_some sc.names n [] (.inl h);exact Option.isSome_iff_exists.mp q
theorem Gw {CX:Gu}{P:F?}{w:H?}{K:bM}{mg:Str->Option l?}{base:O?}{N ps:List Str}{qual:Str}{scope:Scope}{f:o?}{cd:l?}{A:A!}{outer:List Env}{s s1:u?}{H:Hp}{E:XK}{us:List l?}{vs:List V}
  (S:aK N ps scope) (hd:A.handled=q?) (e0:Gv P w K mg base A outer s H) (hl:vs.length=ps.length) (r:Vals vs us)
  (x:InCallC s s.heap.objs.size (bindL (envOfC qual scope s.heap.objs.size f cd).kindOf (ps.zip us) λ_=>q?) (cellsFrom (s.heap.objs.size+1) scope.names []) (bindC (envOfC qual scope s.heap.objs.size f cd).kindOf (ps.zip us) λ_=>q?) s1):
  Inv (pY CX P w K mg base N qual scope f cd A outer s H E) [] (start N vs) H s1:=by
 have hpl:ps.length<=N.length:=by have:=Je W1 S.pre;rw[Yt] at this;omega
 obtain⟨h1,tk,rfl,hk⟩:=x.done;have R3:∀b:o?,b ∉ (pY CX P w K mg base N qual scope f cd A outer s H E).ex:=λb z=>Jg (show b∈([]:List o?) from z) (by simp)
 refine⟨⟨e0.mod,S.kind,rfl,rfl,Yd _,λy z c h1 h2=>?_,λy hy=>?_,λy c _ h=>?_,λ_=>hd,Around.frames_deeper e0.frames,.inr ⟨rfl,rfl⟩,λb z=>Jg z (R3 b),e0.bs,e0.EU,λb _ _=>R3 b,λb z=>Jg z (R3 b),e0.nh,e0.HW⟩,
  rfl,e0.bare,Un.kept hk,⟨_,x.toInCall.ns,λi y v h1 h2 h3=>?_⟩,λy c h=>⟨_,x.cell y c h⟩,e0.hok.fresh (Yd _),λy c h=>?_,λp hp=>Jg (show p∈([]:List (o?×Obj)) from hp) (by simp),e0.hok.kept hk,?_⟩
 ·exact name_of_addr x.apart (U? h1) (U? h2)
 ·have hy:scope.names.lookup y=j? .cell\/scope.names.lookup y=j? .free:=hy
  rcases hy with hy|hy
  ·exact vZ hy
  ·exact Jg rfl (S.O4 _ (U? hy))
 ·exact W3 (x.above y c (U? h))
 ·have hi:i<vs.length:=by
   unfold start at h2;by_cases hi:i<vs.length
   ·exact hi
   ·rw[Y5 (by simpa using hi)] at h2
    rw[Zl] at h2;split at h2 <;> cases h2
  have ha:vs[i]?=j? v:=by
   unfold start at h2;rw[Y3 (by simpa using hi),Ye] at h2
   cases e:vs[i]? with
   | none=>rw[e] at h2;cases h2
   | some a=>rw[e] at h2;cases h2;rfl
  obtain⟨u,hu,rv⟩:=r.get ha;have hp:ps[i]?=j? y:=by
   rw[<- S.pre,List.getElem?_take_of_lt (by omega)];exact h1
  have XM:ps.Nodup:=by rw[<- S.pre];exact S.nd.sublist (List.take_sublist _ _)
  refine⟨u,rv,?_⟩
  rcases S.par y (Yw hp) with k|k
  ·exact .inl ⟨k,yW XM hp hu k⟩
  ·obtain⟨c,e⟩:=vZ (n:=s.heap.objs.size+1) k
   refine .inr ⟨.inl k,c,e,?_⟩
   have q:=x.cell y c e;rw[yX XM hp hu (by show scope.names.lookup y≠_;rw[k];decide)] at q
   exact q
 ·exact e0.hok.fresh (W3 (x.above y c (U? h)))
 ·unfold start
  show _=N.length
  rw[Yi,Ya,Yp];omega
theorem Ik {CX:Gu}{P:F?}{w:H?}{K:bM}{mg:Str->Option l?}{base:O?}{k:Nat}{f:o?}{name qual:Str}{params:Arguments}{body:List Q?}{scope:Scope}{dV kV doc pm cdv ct oc:l?}{an od:Option o?}
  {osl:Array (Option l?)} {N ps:List Str} {sp:Sp} (lk:K.lookup f=j? ⟨oc,od,.func (W? name qual params body scope dV kV doc pm an cdv ct),osl⟩) (hcd:P! K cdv qual=true) (S:aK N ps scope)
  (len:∀vs H Q E,sp vs H Q E->vs.length=ps.length)
  (hbody:∀(A:A!) (outer:List Env) (s:u?) (H:Hp) (vs:List V) (Q:VK) (E:XK),fM k (A.deeper (envOfC qual scope s.heap.objs.size f cdv))->sp vs H Q E->
   ∃t,A_ (pY CX P w K mg base N qual scope f cdv A outer s H E) body t/\t { nx:=λ_ H'=>Q .fk H',rt:=Q } (start N vs) H):
  lM P w K mg base CX (k+1) f (W? name qual params body scope dV kV doc pm an cdv ct) ps sp:=by
 refine⟨len,λA outer s H args us vs Q E hr e0 hb r LK=>?_⟩
 have hl:=len _ _ _ _ LK;have KX:K.In s.heap:=e0.mod.Uc.keeps λb o e=>(e0.bs b o e).1
 have lim:s.heap.NoLimit:=e0.mod.nolimit.keeps λb o e=>(e0.bs b o e).1
 have hkind:∀y∈ps.zip us,scope.names.lookup y.1=j? .local\/(scope.names.lookup y.1=j? .cell/\((cellsFrom (s.heap.objs.size+1) scope.names []).lookup y.1).isSome=true):=λ⟨n,v⟩ hy=>by
  rcases S.par n (List.of_mem_zip hy).1 with q|q
  ·exact .inl q
  ·exact .inr ⟨q,PySem.W.cellsFrom_some _ _ _ (.inl q)⟩
 refine codeAny_call_function hr.depth (KX _ _ lk) rfl S.co S.gen rfl (PySem.W.codeRec_of KX hcd) (hb _ _ _ _ ?_)
 refine wpAny_newFunctionEnv_cells S.kind hkind λenv he s1 x=>?_
 subst he;refine⟨lim.keeps x.toInCall.keep,codeAny_func ?_⟩
 obtain⟨t,ht,hq⟩:=hbody A outer s H vs Q E (hr.deeper _) LK;have I:Inv (pY CX P w K mg base N qual scope f cdv A outer s H E) [] (start N vs) H s1:=Gw S hr.hd e0 hl r x;refine B! (ht [] s1 (start N vs) H _ I hq) (λfl s' hs=>?_) λe s' hs=>hs
 have fin:∀ {σ':St} {H':Hp} {v:V} {u:l?},Inv (pY CX P w K mg base N qual scope f cdv A outer s H E) [] σ' H' s'->RelV v u->Q v H'->CE outer P w H s Q u s':=
  λ{σ' H' v u} J rv q=>⟨v,H',J.os,J.bare,J.base,J.hok,rv,q⟩
 cases fl with
 | ret u=>
  obtain⟨v,σ',H',J,rv,q⟩:=hs;exact fin J rv q
 | next=>
  obtain⟨σ',H',J,q⟩:=hs;exact fin (v:=V.fk) (u:=Value.none) J rfl q
 | brk=>
  obtain⟨_,_,_,q⟩:=hs;exact M! q
 | cont=>
  obtain⟨_,_,_,q⟩:=hs;exact M! q
section
variable {X:Cx} {x:Str} {p pos:Pos} {e:Expr} {es:List Expr} {t:TA} {id T:String} {r:List V->Hp->VK->Prop}
def XN (r:List V->Hp->VK->Prop)(t:TA):TE:=λσ H Q=>t σ H λvs H1=>r vs H1 Q
theorem aJ (hc:jE X (.builtin id) r)(hg:Gl X x)(hm:X.mg x=q?)(hv:H! x=j? (.builtin id))(ha:PA X (e::es) t)(hn:x≠"__name__":=by decide)(hdb:(x ==("__debug__":Str))=false:=by decide)
  (he:I? (e::es) X.env=(false,eval e X.env)::I? es X.env:=by rfl) (hpl:(backTo pos (I? es X.env)).any (·.1)=false:=by rfl):PE X (.Call (.Name x p) (e::es) [] pos) (XN r t):=by
 refine⟨?_⟩
 intro pins s σ H Q I h;refine wpAny_Call_Name_kw (jD I hg hm hv ?_ hn hdb)
 exact PyProof.Rows.callWith_builtin1 (eV (ha pos pins s σ H _ I h) λus s1 ⟨vs,H1,I1,r1,q1⟩=>hc pins s1 σ H1 vs us Q I1 r1 q1) he hpl
theorem jx (hc:jE X (.type T) r)(hg:Gl X x)(hm:X.mg x=q?)(hv:H! x=j? (.type T))(ha:PA X (e::es) t)(hn:x≠"__name__":=by decide)(hdb:(x ==("__debug__":Str))=false:=by decide)
  (he:I? (e::es) X.env=(false,eval e X.env)::I? es X.env:=by rfl) (hpl:(backTo pos (I? es X.env)).any (·.1)=false:=by rfl):PE X (.Call (.Name x p) (e::es) [] pos) (XN r t):=by
 refine⟨?_⟩
 intro pins s σ H Q I h;refine wpAny_Call_Name_kw (jD I hg hm hv ?_ hn hdb)
 exact L! (eV (ha pos pins s σ H _ I h) λus s1 ⟨vs,H1,I1,r1,q1⟩=>hc pins s1 σ H1 vs us Q I1 r1 q1) he hpl
end
end L2
namespace HT
open PySem PyProof.Rows
section
variable {prog:F?} {w:H?} {A:A!} {E:l?->u?->Prop} {s:u?}
def qU (n d:Nat):Option Int->Nat
 | none=>d
 | some v=>if v<0 then (v+(n:Int)).toNat else min v.toNat n
theorem lN (n d k:Nat):qU n d (j? (k:Int))=min k n:=by
 show(if (k:Int)<0 then ((k:Int)+(n:Int)).toNat else min (k:Int).toNat n)=min k n
 rw[W9 (by omega),Yf]
end
end HT
namespace L2
open PySem PySem.Spec PyProof.Rows
abbrev TO:=St->Hp->(Option Int->Hp->Prop)->Prop
def PO (X:Cx)(e:Option Expr)(t:TO):Prop:=
 ∀(pins:List (o?×Obj)) (s:u?) (σ:St) (H:Hp) (Q:Option Int->Hp->Prop),Inv X pins σ H s->t σ H Q->
  L? (S? X.prog X.w) X.A (evalPart e X.env) (λu s'=>∃o H',Inv X pins σ H' s'/\IsPart u o/\Q o H') X.xe s
def Mb:TO:=λ_ H Q=>Q q? H
def R4 (t:TE):TO:=λσ H Q=>t σ H λx H1=>∃i,x=.int i/\Q (j? i) H1
section
variable {X:Cx} {e:Expr} {te:TE} {lo hi:Option Expr} {tl th:TO} {pos p2:Pos}
theorem fm:PO X q? Mb:=by
 intro pins s σ H Q I h;rw[evalPart_none];exact J? ⟨q?,H,I,.none,h⟩
theorem fq (h:PE X e te):PO X (j? e) (R4 te):=by
 intro pins s σ H Q I hw;rw[evalPart_some];refine eV (h pins s σ H _ I hw) λu s1 ⟨x,H1,I1,r1,q1⟩=>?_
 obtain⟨i,rfl,q⟩:=q1;obtain⟨t,rfl⟩:=r1;exact⟨j? i,H1,I1,.int i t,q⟩
def Vb (X:Cx)(r:V->Option Int->Option Int->Hp->VK->Prop):Prop:=
 ∀(pins:List (o?×Obj)) (s:u?) (σ:St) (H:Hp) (x:V) (v vl vu:l?) (lo hi:Option Int) (sl:o?) (Q:VK),Inv X pins σ H s->RelV x v->s.heap.IsSliceOf sl vl vu .none->IsPart vl lo->IsPart vu hi->r x lo hi H Q->
  ∃T id,typeLookup (.type T) "__getitem__"=pure (j? (.builtin id))/\s.TypeIs v T/\wpAny (S? X.prog X.w) X.A (getItem v (.ref sl)) (EP X pins σ Q) X.xe s
def tSl (r:V->Option Int->Option Int->Hp->VK->Prop)(te:TE)(tl th:TO):TE:=λσ H Q=>te σ H λx H1=>tl σ H1 λl H2=>th σ H2 λu H3=>r x l u H3 Q
theorem dU {r:V->Option Int->Option Int->Hp->VK->Prop}(hr:Vb X r)(he:PE X e te)(hl:PO X lo tl)(hu:PO X hi th):PE X (.Subscript e (.Slice lo hi q? p2) pos) (tSl r te tl th):=by
 refine⟨?_⟩
 intro pins s σ H Q I h;refine Subscript_ (eV (he pins s σ H _ I h) λv s1 ⟨x,H1,I1,r1,q1⟩=>?_)
 refine wpAny_Slice (eV (hl pins s1 σ H1 _ I1 q1) λvl s2 ⟨l,H2,I2,pl,q2⟩=>eV (hu pins s2 σ H2 _ I2 q2) λvu s3 ⟨u,H3,I3,pu,q3⟩=>?_)
 rw[evalPart_none];refine J? ?_
 have I4:Inv X pins σ H3 { s3 with heap:=s3.heap.push { cls:=.type "slice",data:=.fields #[vl,vu,.none] } }:=I3.kept (t':=s3.toks) λb ob q=>Yh _ q
 obtain⟨T,id,hT,ht,hg⟩:=hr pins { s3 with heap:=s3.heap.push { cls:=.type "slice",data:=.fields #[vl,vu,.none] } } σ H3 x v vl vu l u s3.heap.objs.size Q I4 r1 (Heap.IsSliceOf.new ..) pl pu q3
 show L? (S? X.prog X.w) X.A (subscriptTail e (.Slice lo hi q? p2) v (.ref s3.heap.objs.size)) (EP X pins σ Q) X.xe { s3 with heap:=s3.heap.push { cls:=.type "slice",data:=.fields #[vl,vu,.none] } }
 exact tail_any (ops:=[.ref s3.heap.objs.size,v]) ht hT hg (by with_unfolding_all rfl)
def iX (xs:List V)(lo hi:Option Int):List V:=(xs.drop (HT.qU xs.length 0 lo)).take (HT.qU xs.length xs.length hi-HT.qU xs.length 0 lo)
theorem nu (xs:List V)(lo hi:Option Int):(iX xs lo hi).length<=xs.length:=by
 unfold iX;rw[Yt,Za];omega
end
def LL (n:Nat)(i:Int):Option Nat:=if 0<=i then (if i<n then j? i.toNat else q?) else if -(n:Int)<=i then j? (i+n).toNat else q?
def qV {α:Type}(xs:List α)(i:Int):Option α:=(LL xs.length i).bind λj=>xs[j]?
theorem E4 {n:Nat}{i:Int}{j:Nat}(h:LL n i=j? j):seqIndex? i n=j? j/\j<n/\-(n:Int)<=i/\i<n:=by
 unfold LL at h;by_cases h0:0<=i
 ·rw[Ja h0] at h
  by_cases h1:i<n
  ·rw[Ja h1] at h
   have e:i.toNat=j:=M? h;exact⟨by rw[seqIndex_of h0 h1,e],by omega,by omega,h1⟩
  ·rw[W9 h1] at h;cases h
 ·rw[W9 h0] at h
  by_cases h1:-(n:Int)<=i
  ·rw[Ja h1] at h
   have e:(i+n).toNat=j:=M? h;exact⟨by rw[seqIndex_neg (by omega) h1,e],by omega,h1,by omega⟩
  ·rw[W9 h1] at h;cases h
theorem E5 {α:Type}{xs:List α}{i:Int}{v:α}(h:qV xs i=j? v):∃j,seqIndex? i xs.length=j? j/\xs[j]?=j? v/\j<xs.length/\-(xs.length:Int)<=i/\i<xs.length:=by
 unfold qV at h;cases e:LL xs.length i with
 | none=>rw[e] at h;cases h
 | some j=>
  rw[e] at h;obtain⟨h1,h2,h3,h4⟩:=E4 e;exact⟨j,h1,h,h2,h3,h4⟩
theorem fu {α:Type}{xs:List α}{j:Nat}{v:α}(h:xs[j]?=j? v):qV xs (j:Int)=j? v:=by
 have hj:j<xs.length:=(List.getElem?_eq_some_iff.mp h).1;have e:LL xs.length (j:Int)=j? j:=by
  unfold LL;rw[Ja (by omega),Ja (by omega)];simp
 unfold qV;rw[e];exact h
def Mc (b:Expr):Prop:=∀o i,subscripted b false o i=operate [o,i] (getItem o i)
def R5 (X:Cx)(r:R2):Prop:=
 ∀(value slice:Expr) (pins:List (o?×Obj)) (s:u?) (σ:St) (H:Hp) (x y:V) (v u:l?) (Q:VK),Inv X pins σ H s->RelV x v->RelV y u->r x y H Q->
  subscripted slice false v u=operate [v,u] (getItem v u)->L? (S? X.prog X.w) X.A (subscriptTail value slice v u) (EP X pins σ Q) X.xe s
def XO (X:Cx)(id:String)(r:V->List V->Hp->VK->Prop):Prop:=
 ∀(pins:List (o?×Obj)) (s:u?) (σ:St) (H:Hp) (x:V) (xs:List V) (v:l?) (us:List l?) (Q:VK),Inv X pins σ H s->RelV x v->Vals xs us->r x xs H Q->
  L? (S? X.prog X.w) X.A (call (.builtin id) (v::us)) (EP X pins σ Q) X.xe s
section
variable {X:Cx} {a b:Expr} {ta tb:TE} {pos:Pos}
theorem bI {r:R2}(hr:R5 X r)(ha:PE X a ta)(hb:PE X b tb)(hs:Mc b):PE X (.Subscript a b pos) (Uj r ta tb):=by
 refine⟨?_⟩
 intro pins s σ H Q I h;exact Subscript_ (OY ha hb I h λv u s2 x y H2 I2 rx ry q=>hr a b pins s2 σ H2 x y v u Q I2 rx ry q (hs _ _))
def R6 (K:bM):R2:=λx y H Q=>∃p xs i v,x=.ref p/\y=.int i/\aO K H p xs/\qV xs i=j? v/\Q v H
def R7 (K:bM):R2:=λx y H Q=>∃p xs i v,x=.ref p/\y=.int i/\j5 K H p xs/\qV xs i=j? v/\Q v H
theorem Me:R5 X (R6 X.K):=by
 intro value slice pins s σ H x y v u Q I rx ry h hs;obtain⟨p,xs,i,z,rfl,rfl,hq,he,q⟩:=h;cases rx;obtain⟨t,rfl⟩:=ry;obtain⟨its,r,pl,hz⟩:=I.list hq;obtain⟨j,h1,h2,h3,h4,h5⟩:=E5 he;obtain⟨w,ew,rw'⟩:=r.get h2;have hl:=r.length;have hn:=vY;have fin:EP X pins σ Q w s:=⟨z,H,I,rw',q⟩;by_cases h0:0<=i
 ·have hj:i.toNat=j:=by
   rw[seqIndex_of h0 h5] at h1;exact M? h1
  exact item_listR pl.isList h0 (by omega) (by rw[hj];simpa using ew) fin hs
 ·have hj:(i+(its.toArray.size:Int)).toNat=j:=by
   rw[seqIndex_neg (by omega) h4] at h1
   rw[Yv,<- hl];exact M? h1
  exact subscriptTail_builtinR (x:=w) pl.isList.typeIs slot_list_getitem.lookup
   (wpAny_getItem_list_neg (Q:=λr s'=>r=w/\EP X pins σ Q r s') pl.isList (by omega) (by rw[Yv] <;> omega) (by omega) (by rw[hj];simpa using ew) ⟨rfl,fin⟩) hs
theorem O5:R5 X (R7 X.K):=by
 intro value slice pins s σ H x y v u Q I rx ry h hs;obtain⟨p,xs,i,z,rfl,rfl,hq,he,q⟩:=h;cases rx;obtain⟨t,rfl⟩:=ry;obtain⟨its,r,pl,hz⟩:=I.tuple hq;obtain⟨j,h1,h2,h3,h4,h5⟩:=E5 he;obtain⟨w,ew,rw'⟩:=r.get h2;have hl:=r.length;have hn:=vY;have fin:EP X pins σ Q w s:=⟨z,H,I,rw',q⟩;exact subscriptTail_builtinR (x:=w) pl.typeIs slot_tuple_getitem.lookup
  (getItem_tuple (j:=j) (Q:=λr s'=>r=w/\EP X pins σ Q r s') pl (by omega) (by omega) (by rw[Yv,<- hl];exact h1) (by simpa using ew) ⟨rfl,fin⟩) hs
theorem Df (its:List l?)(n j:Nat)(u:l?):D! (·.setIfInBounds j u) { cls:=.type "list",data:=.seq its.toArray n }={ cls:=.type "list",data:=.seq (its.set j u).toArray n }:=by
 simp[D!]
theorem Inv.lst {pins:List (o?×Obj)}{σ:St}{H:Hp}{s:u?}{p:o?}{xs:List V}(I:Inv X pins σ H s)(h:H p=j? (.lst xs)):
  ∃(its:List l?) (n:Nat),Vals xs its/\s.heap.get? p=j? { cls:=.type "list",data:=.seq its.toArray n }/\xs.length<=K?:=by
 obtain⟨z,its,n,r,e⟩:=I.hok p _ h;exact⟨its,n,r,e,z⟩
theorem Inv.O6 {pins:List (o?×Obj)}{σ:St}{H:Hp}{s:u?}{p:o?}{xs ys:List V}{its its':List l?}{n n':Nat}{f:Obj->Obj}(I:Inv X pins σ H s)(h:H p=j? (.lst xs))
  (ho:s.heap.get? p=j? { cls:=.type "list",data:=.seq its.toArray n }) (hf:f { cls:=.type "list",data:=.seq its.toArray n }={ cls:=.type "list",data:=.seq its'.toArray n' }) (r:Vals ys its') (hz:ys.length<=K?) (t:Nat):
  Inv X pins σ (upd H p (.lst ys)) { s with heap:=s.heap.update p f,toks:=t }:=by
 have e:(s.heap.update p f).get? p=j? { cls:=.type "list",data:=.seq its'.toArray n' }:=by
  rw[Heap.get?_update_self f ho (by rw[hf] <;> rfl),hf]
 refine I.write (x:=p) (e:=p) (by rw[h];trivial) (.inl rfl) (λb u hb q=>(Heap.get?_update_other _ _ (Ne.symm hb)).trans q) ⟨_,e⟩ ?_
 exact⟨hz,its',n',r,e⟩
def R8:V->V->V->Hp->(Hp->Prop)->Prop:=λo i v H Q=>∃p xs k j,o=.ref p/\i=.int k/\H p=j? (.lst xs)/\LL xs.length k=j? j/\Q (upd H p (.lst (xs.set j v)))
theorem set_list:OS X R8:=by
 intro pins s σ H o i v ov iv u Q I ro ri rv h;obtain⟨p,xs,k,j,rfl,rfl,hp,hj,q⟩:=h;cases ro;obtain⟨t,rfl⟩:=ri;obtain⟨its,n,r,ho,hz⟩:=I.lst hp;obtain⟨h1,h2,h3,h4⟩:=E4 hj;have hl:=r.length;have hn:=vY;have I':Inv X pins σ (upd H p (.lst (xs.set j v))) { s with heap:=s.heap.update p (D! (·.setIfInBounds j u)) }:=
  I.O6 hp ho (Df its n j u) (r.set rv j) (by rw[Wv];exact hz) s.toks
 by_cases h0:0<=k
 ·have hk:k.toNat=j:=by
   rw[seqIndex_of h0 h4] at h1;exact M? h1
  exact PySem.W.ki_setAt ho h0 (by omega) (by rw[Yv,<- hl];exact h4) (by rw[hk];exact⟨_,I',q⟩)
 ·have hk:(k+(its.toArray.size:Int)).toNat=j:=by
   rw[seqIndex_neg (by omega) h3] at h1
   rw[Yv,<- hl];exact M? h1
  exact PySem.W.ki_setBack ho (by omega) (by rw[Yv,<- hl];exact h3) (by omega) (by rw[hk];exact⟨_,I',q⟩)
theorem zL (lo hi:Option Int)(n:Nat):(sliceBounds lo hi q? n).1=((HT.qU n 0 lo:Nat):Int)/\(sliceBounds lo hi q? n).2.1=((HT.qU n n hi:Nat):Int)/\(sliceBounds lo hi q? n).2.2=1:=by
 refine⟨?_,?_,rfl⟩
 ·cases lo with
  | none=>simp[sliceBounds,HT.qU]
  | some i=>
   simp only[sliceBounds,HT.qU,Option.getD_none,show(1:Int) > 0 by decide,if_true]
   by_cases h:i<0
   ·simp only[h,if_true] <;> omega
   ·simp only[h,if_false] <;> omega
 ·cases hi with
  | none=>simp[sliceBounds,HT.qU]
  | some i=>
   simp only[sliceBounds,HT.qU,Option.getD_none,show(1:Int) > 0 by decide,if_true]
   by_cases h:i<0
   ·simp only[h,if_true] <;> omega
   ·simp only[h,if_false] <;> omega
theorem yq (its:List l?)(lo hi:Option Int):slicePick its.toArray lo hi q?=((its.drop (HT.qU its.length 0 lo)).take (HT.qU its.length its.length hi-HT.qU its.length 0 lo)).toArray:=by
 obtain⟨h1,h2,h3⟩:=zL lo hi its.toArray.size;unfold slicePick;rw[h1,h2,h3];simp only[sliceRange_one,pick_run,Yv] <;> rfl
def R9 (K:bM):V->Option Int->Option Int->Hp->VK->Prop:=λx lo hi H Q=>∃a xs,x=.ref a/\aO K H a xs/\∀p,H p=q?->Q (.ref p) (upd H p (.lst (iX xs lo hi)))
theorem Mg:Vb X (R9 X.K):=by
 intro pins s σ H x v vl vu lo hi sl Q I rx hs pl pu h;obtain⟨a,xs,rfl,hx,q⟩:=h;cases rx;obtain⟨its,r,ht,hz⟩:=I.list hx;have hlen:=r.length;refine⟨"list",_,slot_list_getitem.lookup,ht.isList.typeIs,?_⟩
 refine wpAny_getItem_list_slice ht.isList hs pl pu .none (by simp) ?_ (by rw[Yv] <;> omega)
 rw[yq,<- hlen];refine⟨.ref s.heap.objs.size,_,I.laid (t':=s.toks) (o:=.lst (iX xs lo hi)) (λb ob q=>Yh _ q) (Yd _) ?_,rfl,q _ (I.hok.fresh (Yd _))⟩
 exact⟨Yn (nu xs lo hi) hz,_,0,(r.drop (HT.qU xs.length 0 lo)).take (HT.qU xs.length xs.length hi-HT.qU xs.length 0 lo),Y0 _ rfl⟩
def q9:V->Bool
 | .fk=>true
 | .bl _=>true
 | .int _=>true
 | .str _=>true
 | _=>false
def NP:V->V->Bool
 | .fk,.fk=>true
 | .bl a,.bl b=>a == b
 | .bl a,.int b=>(if a then 1 else 0) == b
 | .int a,.bl b=>a ==(if b then 1 else 0)
 | .int a,.int b=>a == b
 | .str a,.str b=>a == b
 | _,_=>false
theorem O7 {A:A!}{s:u?}{y x:V}{u v:l?}(ry:RelV y u)(rx:RelV x v)(fy:q9 y=true)(fx:q9 x=true):SeqAt.EqAt A s u v (NP y x):=by
 cases y with
 | fk=>
  cases ry;cases x with
  | fk=>cases rx;exact SeqAt.EqAt.same _
  | bl b=>cases rx;exact SeqAt.EqAt.none_bool b
  | int b=>obtain⟨t,rfl⟩:=rx;exact SeqAt.EqAt.none_int b t
  | str b=>obtain⟨t,rfl⟩:=rx;exact SeqAt.EqAt.none_str b t
  | _=>exact Jg (show false=true from fx) E?
 | bl a=>
  cases ry;cases x with
  | fk=>cases rx;exact SeqAt.EqAt.bool_none a
  | bl b=>cases rx;exact SeqAt.EqAt.bool_bool a b
  | int b=>obtain⟨t,rfl⟩:=rx;exact SeqAt.EqAt.bool_int a b t
  | str b=>obtain⟨t,rfl⟩:=rx;exact SeqAt.EqAt.bool_str a b t
  | _=>exact Jg (show false=true from fx) E?
 | int a=>
  obtain⟨t',rfl⟩:=ry;cases x with
  | fk=>cases rx;exact SeqAt.EqAt.int_none a t'
  | bl b=>cases rx;exact SeqAt.EqAt.int_bool a t' b
  | int b=>obtain⟨t,rfl⟩:=rx;exact SeqAt.EqAt.int_int a t' b t
  | str b=>obtain⟨t,rfl⟩:=rx;exact SeqAt.EqAt.int_str a t' b t
  | _=>exact Jg (show false=true from fx) E?
 | str a=>
  obtain⟨t',rfl⟩:=ry;cases x with
  | fk=>cases rx;exact SeqAt.EqAt.str_none a t'
  | bl b=>cases rx;exact SeqAt.EqAt.str_bool a t' b
  | int b=>obtain⟨t,rfl⟩:=rx;exact SeqAt.EqAt.str_int a t' b t
  | str b=>obtain⟨t,rfl⟩:=rx;exact SeqAt.EqAt.str_str a t' b t
  | _=>exact Jg (show false=true from fx) E?
 | _=>exact Jg (show false=true from fy) E?
def Mh (x:V)(u:l?):Bool:=match u with
 | .none=>NP .fk x
 | .bool b=>NP (.bl b) x
 | .int i _=>NP (.int i) x
 | .str z _=>NP (.str z) x
 | _=>false
theorem Il {x y:V}{u:l?}(r:RelV y u)(f:q9 y=true):Mh x u=NP y x:=by
 cases y with
 | fk=>cases r;rfl
 | bl b=>cases r;rfl
 | int i=>obtain⟨t,rfl⟩:=r;rfl
 | str z=>obtain⟨t,rfl⟩:=r;rfl
 | _=>exact Jg (show false=true from f) E?
theorem zM {x:V}:∀ {xs:List V} {us:List l?},Vals xs us->xs.all q9=true->us.any (Mh x)=xs.any λy=>NP y x
 | _,_,.nil,_=>rfl
 | y::xs,u::us,.cons r t,f=>by
  rw[List.all_cons,T?] at f;rw[List.any_cons,List.any_cons,Il r f.1,zM t f.2]
theorem v_ {A:A!}{s:u?}{x:V}{v:l?}(rx:RelV x v)(fx:q9 x=true):∀ {xs:List V} {us:List l?},Vals xs us->xs.all q9=true->∀u∈us,SeqAt.EqAt A s u v (Mh x u)
 | _,_,.nil,_=>λu hu=>by cases hu
 | y::xs,u::us,.cons r t,f=>λu' hu=>by
  rw[List.all_cons,T?] at f;rcases List.mem_cons.mp hu with rfl|hu
  ·rw[Il r f.1];exact O7 r rx f.1 fx
  ·exact v_ rx fx t f.2 u' hu
def Mi (x:V)(xs:List V):Bool:=xs.any λy=>NP y x
def XQ (K:bM)(neg:Bool):R2:=λx y H Q=>∃p xs,y=.ref p/\(aO K H p xs\/j5 K H p xs)/\q9 x=true/\xs.all q9=true/\Q (.bl (if neg then !Mi x xs else Mi x xs)) H
theorem Gx:pL X (J! .In) (XQ X.K false):=by
 intro pins s σ H x y v u Q I rx ry h;obtain⟨p,xs,rfl,hq,fx,fs,q⟩:=h;cases ry;rcases hq with hq|hq
 ·obtain⟨its,r,pl,hz⟩:=I.list hq
  refine SeqAt.in_listAt (Mh x) pl.isList (λw hw=>v_ rx fx r fs w (by simpa using hw)) ⟨.bl _,H,I,rfl,?_⟩
  rw[show its.toArray.any (Mh x)=its.any (Mh x) by simp,zM r fs]
  exact q
 ·obtain⟨its,r,pl,hz⟩:=I.tuple hq
  refine SeqAt.in_tupleAt (Mh x) pl (λw hw=>v_ rx fx r fs w (by simpa using hw)) ⟨.bl _,H,I,rfl,?_⟩
  rw[show its.toArray.any (Mh x)=its.any (Mh x) by simp,zM r fs]
  exact q
theorem zN:jE X (.builtin "len") (λxs H Q=>∃p ys,xs=[.ref p]/\(aO X.K H p ys\/j5 X.K H p ys)/\Q (.int ys.length) H):=by
 intro pins s σ H xs us Q I r h;obtain⟨p,ys,rfl,hq,q⟩:=h;obtain⟨u,rfl,rx⟩:=vals1 r;cases rx;have hn:=vY;rcases hq with hq|hq
 ·obtain⟨its,r',pl,hz⟩:=I.list hq
  have hlen:=r'.length;exact Calls.call_len_list pl.isList (by simp only[Yv] <;> omega) ⟨.int ys.length,H,I.tok _,⟨s.toks+1,by rw[Yv,hlen]⟩,q⟩
 ·obtain⟨its,r',pl,hz⟩:=I.tuple hq
  have hlen:=r'.length;exact len_tuple pl (by simp only[Yv] <;> omega) ⟨.int ys.length,H,I.tok _,⟨s.toks+1,by rw[Yv,hlen]⟩,q⟩
theorem fN:jE X (.type "list") (λxs H Q=>∃p ys,xs=[.ref p]/\(aO X.K H p ys\/j5 X.K H p ys)/\∀l,H l=q?->Q (.ref l) (upd H l (.lst ys))):=by
 intro pins s σ H xs us Q I r h;obtain⟨p,ys,rfl,hq,q⟩:=h;obtain⟨u,rfl,rx⟩:=vals1 r;cases rx;have fin:∀(its:List l?),Vals ys its->ys.length<=K?->∀(h':O?) (c':Nat),(∀b o',s.heap.get? b=j? o'->h'.get? b=j? o')->
   h'.get? s.heap.objs.size=j? { cls:=.type "list",dict:=q?,data:=.seq its.toArray c',slots:=#[] }->EP X pins σ Q (.ref s.heap.objs.size) { s with heap:=h' }:=λits r' hz h' c' kp e=>
  ⟨.ref s.heap.objs.size,_,I.laid (t':=s.toks) kp (Yd _) (show iV X.prog X.w _ h' _ (.lst ys) from⟨hz,its,c',r',e⟩),rfl,q _ (I.hok.fresh (Yd _))⟩
 rcases hq with hq|hq
 ·obtain⟨its,r',pl,hz⟩:=I.list hq
  have hlen:=r'.length;obtain⟨o,ho,hc,n,hd⟩:=pl.isList;exact call_list_seq p (.inl rfl) ho hc hd (λh' c' kp e=>fin its r' hz h' c' kp e) (by simp only[Yv] <;> omega)
 ·obtain⟨its,r',pl,hz⟩:=I.tuple hq
  have hlen:=r'.length;obtain⟨o,ho,hc,n,hd⟩:=pl;exact call_list_seq p (.inr rfl) ho hc hd (λh' c' kp e=>fin its r' hz h' c' kp e) (by simp only[Yv] <;> omega)
def Vd (K:bM)(T:String)(x:V)(H:Hp):Prop:=match x with
 | .str _=>T="str"
 | .int _=>T="int"
 | .ref p=>(T="list"/\∃xs,aO K H p xs)\/(T="tuple"/\∃o,K.lookup p=j? o/\o.cls=.type "tuple"/\o.dict=q?)\/
   (T="dict"/\((∃kvs,H p=j? (.dK kvs))\/∃kvs,H p=j? (.dT kvs)))\/(T="set"/\∃S n,H p=j? (.set S n))
 | _=>False
theorem Im {pins:List (o?×Obj)}{σ:St}{H:Hp}{s:u?}{T:String}{x:V}{v:l?}(I:Inv X pins σ H s)(r:RelV x v)(ty:Vd X.K T x H):
  s.TypeIs v T/\∀a,v=.ref a->∃ob,s.heap.get? a=j? ob/\ob.dict=q?:=by
 cases x with
 | str z=>
  obtain⟨t,rfl⟩:=r;cases (show T="str" from ty)
  exact⟨typeIs_str s z t,λ_ e=>nomatch e⟩
 | int i=>
  obtain⟨t,rfl⟩:=r;cases (show T="int" from ty)
  exact⟨typeIs_int s i t,λ_ e=>nomatch e⟩
 | ref p=>
  cases r;rcases ty with ⟨rfl,xs,hq⟩|⟨rfl,o,hk,hc,hd⟩|⟨rfl,hk⟩|⟨rfl,S,n,hk⟩
  ·obtain⟨its,_,pl,_⟩:=I.list hq
   refine⟨pl.isList.typeIs,λa e=>?_⟩
   cases e;obtain⟨o,n,e,c,hd,_⟩:=pl;exact⟨o,e,hd⟩
  ·refine⟨⟨o,I.EV p o hk,hc⟩,λa e=>?_⟩
   cases e;exact⟨o,I.EV _ o hk,hd⟩
  ·have z:∃o,s.heap.get? p=j? o/\o.ExactDict:=by
    rcases hk with ⟨kvs,hk⟩|⟨kvs,hk⟩
    ·obtain⟨_,_,_,_,o,_,_,e,ex,_⟩:=I.hok p _ hk
     exact⟨o,e,ex⟩
    ·obtain⟨_,_,_,_,o,_,_,e,ex,_⟩:=I.hok p _ hk
     exact⟨o,e,ex⟩
   obtain⟨o,e,ex⟩:=z;refine⟨⟨o,e,ex.1⟩,λa e2=>?_⟩
   cases e2;exact⟨o,e,ex.2.1⟩
  ·obtain⟨o,_,_,_,e,ex,_⟩:=I.hok p _ hk
   refine⟨⟨o,e,ex.1⟩,λa e2=>?_⟩
   cases e2;exact⟨o,e,ex.2.1⟩
 | _=>exact M! ty
def Ve (K:bM)(T:String)(r:V->List V->Hp->VK->Prop)(to:TE):TE:=λσ H Q=>to σ H λx H1=>Vd K T x H1/\r x [] H1 Q
def tBM (K:bM)(T:String)(r:V->List V->Hp->VK->Prop)(to:TE)(t:TA):TE:=λσ H Q=>to σ H λx H1=>Vd K T x H1/\t σ H1 λxs H2=>r x xs H2 Q
variable {o e:Expr} {es:List Expr} {to:TE} {t:TA} {name:Str} {apos cpos:Pos} {T id:String} {r:V->List V->Hp->VK->Prop}
theorem Dh (pa:PlainAttrs T)(slot:Slot T name id)(hty:typeOf (.builtin id)=pure (.type "method_descriptor"))(hm:XO X id r)(ho:PE X o to)
  (hbase:attributeBase o name X.env (eval o X.env)=eval o X.env:=by rfl) (hline:(apos.endLine == cpos.line)=true:=by rfl):PE X (.Call (.Attribute o name apos) [] [] cpos) (Ve X.K T r to):=by
 refine⟨?_⟩
 intro pins s σ H Q I h;refine wpAny_Call_method0_late hbase hline (eV (ho pins s σ H _ I h) λv s1 ⟨x,H1,I1,r1,ty,q1⟩=>?_)
 obtain⟨h1,h2⟩:=Im I1 r1 ty;exact⟨T,id,pa,slot,hty,h1,h2,Calls.callWith_builtin rfl (PySem.evalArgs_none (hm pins s1 σ H1 x [] v [] Q I1 r1 .nil q1))⟩
theorem mW (pa:PlainAttrs T)(slot:Slot T name id)(hty:typeOf (.builtin id)=pure (.type "method_descriptor"))(hm:XO X id r)(ho:PE X o to)(ha:PA X (e::es) t)
  (hbase:attributeBase o name X.env (eval o X.env)=eval o X.env:=by rfl)
  (hfew:((backTo cpos (I? (e::es) X.env)).all (λx=>!x.1) && (backToKw cpos (keywordEach [] X.env)).all (λx=>x.1.isSome)
   && decide ((e::es).length+([]:List Keyword).length+(if ([]:List Keyword).isEmpty then 0 else 1)<30))=true:=by rfl)
  (hline:(apos.endLine == cpos.line)=true:=by rfl) (hs:I? (e::es) X.env=(false,eval e X.env)::I? es X.env:=by rfl) (hplain:(backTo cpos (I? es X.env)).any (·.1)=false:=by rfl):
  PE X (.Call (.Attribute o name apos) (e::es) [] cpos) (tBM X.K T r to t):=by
 refine⟨?_⟩
 intro pins s σ H Q I h;refine wpAny_Call_method_late hbase hfew hline rfl (eV (ho pins s σ H _ I h) λv s1 ⟨x,H1,I1,r1,ty,q1⟩=>?_)
 obtain⟨h1,h2⟩:=Im I1 r1 ty;refine⟨T,id,pa,slot,hty,h1,h2,?_⟩
 have hA:=ha cpos pins s1 σ H1 _ I1 q1;rw[hs] at hA ⊢;refine Calls.callWith_builtin (by show(false || (backTo cpos (I? es X.env)).any (·.1))=false;rw[hplain] <;> rfl) (Calls.evalArgs_plain ?_)
 exact eV hA λus s2 ⟨vs,H2,I2,r2,q2⟩=>hm pins s2 σ H2 x vs v us Q I2 r1 r2 q2
end
def XR (X:Cx)(id:String)(r:V->List V->Hp->VK->Prop):Prop:=
 ∀(pins:List (o?×Obj)) (s:u?) (σ:St) (H:Hp) (x:V) (xs:List V) (v:l?) (us:List l?) (Q:VK),Inv X pins σ H s->RelV x v->Vals xs us->r x xs H Q->
  L? (S? X.prog X.w) X.A (call (.builtin id) (v::us)) (EP X pins σ Q) X.xe s
theorem Vals.one:∀ {x:V} {us:List l?},Vals [x] us->∃u,us=[u]/\RelV x u
 | _,_,.cons r .nil=>⟨_,rfl,r⟩
theorem Vals.zero:∀ {us:List l?},Vals [] us->us=[]
 | _,.nil=>rfl
theorem Vals.reverse {xs:List V}{us:List l?}(h:Vals xs us):Vals xs.reverse us.reverse:=by
 induction h with
 | nil=>exact .nil
 | cons r t ih=>rw[List.reverse_cons,List.reverse_cons];exact Vals.append ih (.cons r .nil)
theorem Vals.rep {xs:List V}{us:List l?}(h:Vals xs us):∀k:Nat,Vals (Yo k xs).flatten (Yo k us).flatten
 | 0=>.nil
 | k+1=>by
  rw[Zx,Zx,Wt,Wt];exact Vals.append h (Vals.rep h k)
theorem foldl_rep (its:List l?):∀(k:Nat) (acc:List l?),
  List.foldl (λx1 x2=>x1++x2) acc.toArray (Yo k its.toArray)=(acc++(Yo k its).flatten).toArray
 | 0,acc=>by simp
 | k+1,acc=>by
  have e:acc.toArray++its.toArray=(acc++its).toArray:=by simp
  have e2:(acc++its)++(Yo k its).flatten=acc++(Yo (k+1) its).flatten:=by
   rw[Zx,Wt,List.append_assoc]
  rw[<- e2,<- foldl_rep its k (acc++its),<- e,Zx,List.foldl_cons]
section
variable {X:Cx} {pins:List (o?×Obj)} {σ:St} {H:Hp} {s:u?} {l b:o?} {xs ys zs:List V}
theorem Inv.R_ {its its':List l?}{n:Nat}{f:Array l?->Array l?}{t':Nat}(I:Inv X pins σ H s)(hH:H l=j? (.lst xs))
  (e:s.heap.get? l=j? { cls:=.type "list",data:=.seq its.toArray n }) (hf:f its.toArray=its'.toArray) (hv:Vals ys its') (hz:ys.length<=K?):
  Inv X pins σ (upd H l (.lst ys)) { s with heap:=s.heap.update l (D! f),toks:=t' }:=by
 have q:=PySem.IsL.update e f;rw[hf] at q;refine I.write (x:=l) (e:=l) (by rw[hH];exact trivial) (.inl rfl) (λb' u hb hu=>(Heap.get?_update_other s.heap (D! f) (Ne.symm hb)).trans hu) ⟨_,q⟩ ?_
 exact⟨hz,its',_,hv,q⟩
theorem Inv.Sa {its:List l?}{t':Nat}(I:Inv X pins σ H s)(hv:Vals ys its)(hz:ys.length<=K?):
  Inv X pins σ (upd H s.heap.objs.size (.lst ys)) { s with heap:=s.heap.push { cls:=.type "list",data:=.seq its.toArray },toks:=t' }:=
 I.laid (λ_ _ q=>Yh _ q) (Yd _) ⟨hz,its,0,hv,Y0 _ rfl⟩
theorem Inv.fresh (I:Inv X pins σ H s):H s.heap.objs.size=q?:=I.hok.fresh (Yd _)
theorem Inv.Io (I:Inv X pins σ H s)(hH:H l=j? (.lst xs)):xs.length<=K?/\∃(its:List l?) (n:Nat),Vals xs its/\xs.length=its.length/\s.heap.get? l=j? { cls:=.type "list",data:=.seq its.toArray n }:=by
 obtain⟨z,its,n,r,e⟩:=I.hok l _ hH;exact⟨z,its,n,r,r.length,e⟩
theorem Ir {n:Nat}(h:n<=K?):Builtin.List.listTooLong n=false:=by
 unfold Builtin.List.listTooLong;exact Jd (by omega)
end
section
variable {X:Cx}
def Mj:V->List V->Hp->VK->Prop:=λx vs H Q=>∃l xs y,x=.ref l/\vs=[y]/\H l=j? (.lst xs)/\xs.length<K?/\Q .fk (upd H l (.lst (xs++[y])))
theorem c8:XR X "list.append" Mj:=by
 intro pins s σ H x vs v us Q I rx rv h;obtain⟨l,xs,y,rfl,rfl,hH,hz,q⟩:=h;cases rx;obtain⟨u,rfl,ru⟩:=rv.one;obtain⟨z,its,n,r,hl,e⟩:=I.Io hH;refine call_meets F.slot_list_append ⟨_,e,rfl⟩ F.entry_list_append (F.args_list_append_2 _ _) (PySem.list_append l its.toArray n u (by rw[Yv];omega)) ⟨e,?_⟩
 refine⟨.fk,_,I.R_ (its':=its++[u]) hH e (by simp) (r.append (.cons ru .nil)) ?_,rfl,q⟩
 rw[Yi,List.length_singleton];omega
def Iu:V->List V->Hp->VK->Prop:=λx vs H Q=>∃l xs,x=.ref l/\vs=[]/\H l=j? (.lst xs)/\Q .fk (upd H l (.lst xs.reverse))
theorem pZ:XR X "list.reverse" Iu:=by
 intro pins s σ H x vs v us Q I rx rv h;obtain⟨l,xs,rfl,rfl,hH,q⟩:=h;cases rx;have hus:=rv.zero;subst hus;obtain⟨z,its,n,r,hl,e⟩:=I.Io hH;refine call_meets F.slot_list_reverse ⟨_,e,rfl⟩ F.entry_list_reverse (F.args_list_reverse_1 _) (AutoSeq1.list_reverse_list_0 l its.toArray n (by rw[Yv];omega)) ⟨e,?_⟩
 refine⟨.fk,_,I.R_ (its':=its.reverse) hH e (by simp) r.reverse ?_,rfl,q⟩
 rw[Z6];omega
def Vf:R2:=λx y H Q=>∃l b xs zs,x=.ref l/\y=.ref b/\H l=j? (.lst xs)/\H b=j? (.lst zs)/\xs.length+zs.length<=K?/\∀p,H p=q?->Q (.ref p) (upd H p (.lst (xs++zs)))
theorem eL:pL X (binaryOp .Add) Vf:=by
 intro pins s σ H x y v u Q I rx ry h;obtain⟨l,b,xs,zs,rfl,rfl,hH,hB,hz,q⟩:=h;cases rx;cases ry;obtain⟨z,its,n,r,hl,e⟩:=I.Io hH;obtain⟨z2,its2,n2,r2,hl2,e2⟩:=I.Io hB;refine PySem.P.add_list e e2 ?_ (by rw[Yv,Yv];omega)
 have ea:its.toArray++its2.toArray=(its++its2).toArray:=by simp
 rw[ea];exact⟨.ref _,_,I.Sa (t':=s.toks) (r.append r2) (by rw[Yi];omega),rfl,q _ I.fresh⟩
def Vg:R2:=λx y H Q=>∃l k xs,x=.ref l/\y=.int k/\H l=j? (.lst xs)/\-(2 ^ 63)<=k/\k<2 ^ 63/\xs.length*k.toNat<=K?/\
 ∀p,H p=q?->Q (.ref p) (upd H p (.lst (Yo k.toNat xs).flatten))
theorem len_rep {α:Type}(xs:List α)(k:Nat):(Yo k xs).flatten.length=k*xs.length:=by
 induction k with
 | zero=>simp
 | succ k ih=>rw[Zx,Wt,Yi,ih,Nat.succ_mul,Nat.add_comm]
theorem jF:pL X (binaryOp .Mult) Vg:=by
 intro pins s σ H x y v u Q I rx ry h;obtain⟨l,k,xs,rfl,rfl,hH,h1,h2,hz,q⟩:=h;cases rx;obtain⟨t,rfl⟩:=ry;obtain⟨z,its,n,r,hl,e⟩:=I.Io hH;have hlen:its.toArray.size*k.toNat<=K?:=by rw[Yv,<- hl];exact hz
 have hcap:¬ its.toArray.size*k.toNat > (2 ^ 63-1) / 8:=by
  have:(K?:Nat)<=(2 ^ 63-1) / 8:=by decide
  omega
 have hfit:¬ (!Builtin.List.listFitsIndex k)=true:=by
  rw[fitsIndex_both h1 h2];exact E?
 have Sd:¬ Builtin.List.listTooLong (its.toArray.size*k.toNat)=true:=by
  rw[Ir hlen];exact E?
 have hnew:List.foldl (λx1 x2=>x1++x2) #[] (Yo (if its.toArray.isEmpty=true then 0 else k.toNat) its.toArray)=(Yo k.toNat its).flatten.toArray:=by
  have f0:∀m:Nat,List.foldl (λx1 x2=>x1++x2) #[] (Yo m its.toArray)=(Yo m its).flatten.toArray:=λm=>by
   have:=foldl_rep its m []
   rw[List.nil_append] at this;exact this
  rw[f0];cases its with
  | nil=>simp
  | cons a r'=>rw[W9 (by simp)]
 refine wpAny_binaryOp_repeat_ref (T:="list") (U:="int") (by decide) ⟨_,e,rfl⟩ (λs'=>typeIs_int s' k t) noFill_list_mul F.fills_int_mul F.slot_int_rmul repeat_list F.slot_int_index.lookup
  (call_meets F.slot_int_rmul (typeIs_int s k t) F.entry_int_rmul (F.args_int_rmul_2 _ _) (int___rmul___int_list k t l its.toArray n)
   ⟨e,rfl,⟨_,e,rfl⟩,call_meets F.slot_list_mul ⟨_,e,rfl⟩ F.entry_list_mul (F.args_list_mul_2 _ _) (AutoListH.list___mul___list_int_3 l its.toArray n k t hfit hcap Sd) ⟨e,?_⟩⟩)
 rw[hnew];exact⟨.ref _,_,I.Sa (t':=s.toks) (r.rep k.toNat) (by rw[len_rep,Wf];exact hz),rfl,q _ I.fresh⟩
end
end L2
namespace Att
open PySem PySem.W PySem.Calls PyProof.Rows
theorem uX {P:Params}{h:O?}:∀(ns:List Int) (vs:List l?),WellAll P h vs (ns.map WData.int)->IntsAre vs ns:=by
 intro ns;induction ns with
 | nil=>
  intro vs w;rw[List.map_nil] at w;cases w;exact .nil
 | cons n ns ih=>
  intro vs w;rw[List.map_cons] at w;cases w with
  | cons a b=>
   cases a;exact .cons _ _ (ih _ b)
theorem Gy {l:OpenLaw}{n:Nat}(hn:l.most=j? n){P:Params}{h:O?}{args:List WData}{vals:List l?}
  (hpre:l.row.toRowW.claim.pre args=true) (hwl:WellAll P h vals args):
  ∃a vs ns,vals=[I! a]/\args=[WData.list (ns.map WData.int)]/\h.get? a=j? { cls:=.type "list",data:=.seq vs.toArray }/\IntsAre vs ns/\ns.length<=n:=by
 have hsh:WShape.hasAll [] args [.list .int]=true:=(pre_splitW hpre).1;have hc:l.pre.holds [] { args:=args }=true:=(pre_splitW hpre).2;obtain⟨d,r,rfl,h1,h2⟩:=hasAllW_cons hsh;obtain rfl:=hasAllW_nil h2
 obtain⟨xs,rfl,h3⟩:=hasW_list h1;obtain⟨ns,rfl⟩:=items_int h3;have hlen:ns.length<=n:=by
  unfold OpenLaw.pre at hc;have h4:(WTm.not (.lt (.lit (.int (n:Int))) (.len (.arg 0)))).holds [] { args:=[.list (ns.map .int)] }=true:=by
   have h4:=(holds_andW hc).1;rw[hn] at h4;exact h4
  have h5:=condW_of h4 (w_not (w_lt w_lit (w_len_list (w_arg rfl))));rw[Ya] at h5;refine Nat.le_of_not_lt λq=>?_
  have q':(n:Int)<((ns.length:Nat):Int):=by omega
  first
   | (rw[Jb q'] at h5;exact Jg h5 (by decide))
   | (simp at h5;omega)
 cases hwl with
 | cons w1 w2=>
  cases w2;cases w1 with
  | list ho hall=>exact⟨_,_,ns,rfl,rfl,ho,uX ns _ hall,hlen⟩
theorem Gz (l:OpenLaw)(args:List WData):l.row.toRowW.claim.post args (.bool true) args=true:=
 postW_of (r:=l.row.toRowW) (X:=(true == true))
  (show WShape.has [] (.bool true) .bool=true by first|rfl|decide|simp[WShape.has,WShape.arms,WShape.armsAll])
  (show(WTm.eq .res (.lit (.bool true))).value [] { args:=args,res:=j? (.bool true),after:=args }=j? (.bool (true == true)) from w_eq_bool (w_res rfl) w_lit) rfl
theorem Bf {l:OpenLaw}{n:Nat}{q:F?}{loose:List Str}{XP:(Str->Option l?)->O?->Prop}{YP:H?->O?->Prop}{d:DefRec}
  (hn:l.most=j? n) (hdf:d.params.defaults=[])
  (call:∀(w:H?) (s₀ s₁:u?) (mg mb:Str->Option l?) (fa:o?) (o:Obj) (pm cd doc:l?) (a:o?) (vs:List l?) (ns:List Int),
   Ground q loose [] XP w s₀ mg mb s₁.heap->YP w s₁.heap->
   s₁.heap.get? fa=j? o->o.data=.func (docDef d.name d.params d.body d.scope pm cd doc)->s₁.heap.CodeRec cd d.name->mg d.name=j? (.ref fa)->
   s₁.heap.get? a=j? { cls:=.type "list",data:=.seq vs.toArray }->IntsAre vs ns->ns.length<=n->s₁.gens=#[]->
   codeAny (S? l.prog w) callerA (.call (.ref fa) ⟨[.ref a],[]⟩) (λr s'=>r=.ok (.ret (.bool true))/\OldK s₁.heap s'.heap/\s'.os=s₁.os/\AllBare s'.gens) s₁):
  WalkO q loose XP YP l.row.toRowW d [] (λf vs=>PySem.call f vs):=by
 intro w s₀ s₁ mg mb G Y fa o pm cd doc dV kV ho hd hcd hD hmg hg args vals as hpre hlay hrd hwl hlo;obtain rfl:dV=.none:=Dflts.none hD hdf
 obtain rfl:kV=.none:=Dflts.noKw hD
 obtain⟨a,vs,ns,rfl,rfl,hobj,hints,hlen⟩:=Gy hn hpre hwl;refine enter_call (codeAny_mono (call w s₀ s₁ mg mb fa o pm cd doc a vs ns G Y ho (fd_plain hd) hcd hmg hobj hints hlen hg) λr s' hq=>?_)
 obtain⟨rfl,h2,h3,h4⟩:=hq;exact⟨.inl ⟨.bool true,.bool true,[],rfl,λ_=>rfl,.bool true,Gz l _,λ_=>⟨List.Pairwise.nil,λ_ hm=>(nomatch hm)⟩⟩,h2,h3,h4⟩
end Att
namespace L2
open PySem PySem.Spec PyProof.Rows
theorem yY:∀ {vs:List l?} {ns:List Int},IntsAre vs ns->Vals (ns.map V.int) vs
 | _,_,.nil=>.nil
 | _,_,.cons n t h=>.cons ⟨t,rfl⟩ (yY h)
def dP (s:Q?):Arguments:=match s with
 | .FunctionDef _ a _ _ _ _ _ _ _ _=>a
 | _=>{ posonlyargs:=[],args:=[],vararg:=q?,kwonlyargs:=[],kw_defaults:=[],kwarg:=q?,defaults:=[] }
def cA (s:Q?):List Q?:=match s with
 | .FunctionDef _ _ b _ _ _ _ _ _ _=>b
 | _=>[]
def ao (s:Q?):Scope:=match s with
 | .FunctionDef _ _ _ _ _ _ sc _ _ _=>sc
 | _=>{ kind:=.function,names:=[],isGenerator:=false,isCoroutine:=false }
abbrev E6:Gu:=λ_ _ _ _ _ _=>False
abbrev E0:XK:=λ_ _ _=>False
theorem Se {X:Cx}:Passes E6 X E0:=λ_ _ _ _ _ _ _ h=>h.elim
structure LM (K:bM)(x qual:Str)(st:Q?)(f:o?)(fd:O!):Prop where
 ex:∃(oc:l?) (od:Option o?) (kV doc pm:l?) (an:Option o?) (cdv ct:l?) (osl:Array (Option l?)),
  fd=W? x qual (dP st) (cA st) (ao st) .none kV doc pm an cdv ct/\K.lookup f=j? ⟨oc,od,.func fd,osl⟩/\PySem.W.codeIn K cdv qual=true
 kp:C! K (.ref f)=true
section
variable {P:F?} {w:H?} {K:bM} {mg:Str->Option l?} {base:O?}
theorem LM.ok {x qual:Str}{st:Q?}{f:o?}{fd:O!}{N ps:List Str}{k:Nat}{sp:Sp}(F:LM K x qual st f fd)(S:aK N ps (ao st))(len:∀vs H Q E,sp vs H Q E->vs.length=ps.length)
  (hbody:∀(cdv:l?) (A:A!) (outer:List Env) (s:u?) (H:Hp) (vs:List V) (Q:VK) (E:XK),fM k (A.deeper (envOfC qual (ao st) s.heap.objs.size f cdv))->sp vs H Q E->
   ∃t,A_ (pY E6 P w K mg base N qual (ao st) f cdv A outer s H E).NI (cA st) t/\t { nx:=λ_ H'=>Q .fk H',rt:=Q } (start N vs) H):lM P w K mg base E6 (k+1) f fd ps sp:=by
 obtain⟨oc,od,kV,doc,pm,an,cdv,ct,osl,rfl,lk,hcd⟩:=F.ex;refine Ik lk hcd S len λA outer s H vs Q E hr LK=>?_
 obtain⟨t,h,q⟩:=hbody cdv A outer s H vs Q E hr LK;exact⟨t,h.NI,q⟩
theorem LM.binds {x qual:Str}{st:Q?}{f:o?}{fd:O!}{ps:List Str}(F:LM K x qual st f fd)
  (h:∀(kV doc pm:l?) (an:Option o?) (cdv ct:l?) (us:List l?),us.length=ps.length->bindArgs (W? x qual (dP st) (cA st) (ao st) .none kV doc pm an cdv ct) ⟨us,[]⟩=pure (ps.zip us)):Binds K fd ps []:=by
 obtain⟨oc,od,kV,doc,pm,an,cdv,ct,osl,rfl,lk,hcd⟩:=F.ex;exact .all (h kV doc pm an cdv ct)
theorem wc {x qual:Str}{st:Q?}{f:o?}{oc:l?}{od an:Option o?}{osl:Array (Option l?)}{kV doc pm cdv ct:l?}(l:K.lookup f=j? ⟨oc,od,.func (W? x qual (dP st) (cA st) (ao st) .none kV doc pm an cdv ct),osl⟩)
  (c:P! K cdv qual=true) (k:C! K (.ref f)=true):LM K x qual st f (W? x qual (dP st) (cA st) (ao st) .none kV doc pm an cdv ct):=⟨⟨oc,od,kV,doc,pm,an,cdv,ct,osl,rfl,l,c⟩,k⟩
end
section
variable {X:Cx}
theorem pv (i:Nat){x:Str}{pos:Pos}(hN:X.N[i]?=j? x:=by rfl)(hv:Q8 X.env.scope x:=by first|exact z? rfl|exact Or.inr (z? rfl)|exact Or.inr (Or.inr rfl))(hd:(x ==("__debug__":Str))=false:=by decide)
  (hcd:(x ==("__classdict__":Str))=false:=by decide):PE X (.Name x pos) (OO i):=OP hN hv hd hcd
end
theorem jG {A B:Prop}(h:B):if false=true then A else B:=by
 rw[W9 E?];exact h
theorem ko {A B:Prop}(h:A):if true=true then A else B:=by
 rw[Ja rfl];exact h
theorem fV {c A B:Prop}[Decidable c](h1:c->A)(h2:¬ c->B):if c then A else B:=by
 by_cases h:c
 ·rw[Ja h]
  exact h1 h
 ·rw[W9 h]
  exact h2 h
theorem uN {c A B:Prop}[Decidable c](hc:c)(h:B):if (!decide c)=true then A else B:=by
 rw[Jb hc];exact jG h
def aF (H H':Hp):Prop:=∀b o,H b=j? o->H' b=j? o
theorem aF.refl (H:Hp):aF H H:=λ_ _ h=>h
theorem aF.trans {H H1 H2:Hp}(a:aF H H1)(b:aF H1 H2):aF H H2:=λc o h=>b c o (a c o h)
theorem aF.free {H H':Hp}(e:aF H H'){l:o?}(h:H' l=Option.none):H l=Option.none:=by
 cases q:H l with
 | none=>rfl
 | some o=>
  rw[e l o q] at h;cases h
theorem aF.seq {K:bM}{H H':Hp}{a:o?}{xs:List V}(e:aF H H')(h:aO K H a xs):aO K H' a xs:=by
 rcases h with (h|⟨o,h⟩)|h
 ·exact .inl (.inl (e _ _ h))
 ·exact .inl (.inr ⟨o,e _ _ h⟩)
 ·exact .inr h
theorem fW {env:Env}:∀ {names:List (Str×NameKind)} {x:Str},names.lookup x=j? .free->
  (names.map λ(n,k)=>if (k == Z? && env.scope.kind == .function && env.kindOf n == j? .cell) then (n,K!) else (n,k)).lookup x=j? .free\/
  (names.map λ(n,k)=>if (k == Z? && env.scope.kind == .function && env.kindOf n == j? .cell) then (n,K!) else (n,k)).lookup x=j? .cell
 | [],_,h=>by simp at h
 | (n,k)::r,x,h=>by
  have ih:=@fW env r x;show List.lookup x ((if (k == Z? && env.scope.kind == .function && env.kindOf n == j? .cell)=true then (n,K!) else (n,k))::_)=_\/List.lookup x ((if (k == Z? && env.scope.kind == .function && env.kindOf n == j? .cell)=true then (n,K!) else (n,k))::_)=_
  cases hx:x == n with
  | true=>
   simp only[Y4,hx] at h
   cases h;by_cases hc:(Z? == Z? && env.scope.kind == .function && env.kindOf n == j? .cell)=true
   ·rw[Ja hc];exact .inr (by simp only[Y4,hx])
   ·rw[W9 hc];exact .inl (by simp only[Y4,hx])
  | false=>
   simp only[Y4,hx] at h
   by_cases hc:(k == Z? && env.scope.kind == .function && env.kindOf n == j? .cell)=true
   ·rw[Ja hc];simp only[Y4,hx];exact ih h
   ·rw[W9 hc];simp only[Y4,hx];exact ih h
theorem lO {env:Env}:∀ {names:List (Str×NameKind)} {x:Str} {kd:NameKind},(∀y∈names,y.2≠.cell)->kd=.cell\/kd=.free->
  (names.map λ(n,k)=>if (k == Z? && env.scope.kind == .function && env.kindOf n == j? .cell) then (n,K!) else (n,k)).lookup x=j? kd->names.lookup x=j? .free
 | [],_,_,_,_,h=>by simp at h
 | (n,k)::r,x,kd,hn,hk,h=>by
  have ih:=@lO env r x kd (λy hy=>hn y (Y7 _ hy)) hk
  have h':List.lookup x ((if (k == Z? && env.scope.kind == .function && env.kindOf n == j? .cell)=true then (n,K!) else (n,k))::(r.map λ(n,k)=>if (k == Z? && env.scope.kind == .function && env.kindOf n == j? .cell) then (n,K!) else (n,k)))=j? kd:=h
  have hkc:k≠.cell:=hn (n,k) Zc;by_cases hc:(k == Z? && env.scope.kind == .function && env.kindOf n == j? .cell)=true
  ·rw[Ja hc] at h'
   have hkf:k=.free:=by
    simp only[T?,beq_iff_eq] at hc
    exact hc.1.1
   subst hkf;cases hx:x == n with
   | true=>simp only[Y4,hx]
   | false=>simp only[Y4,hx] at h' ⊢;exact ih h'
  ·rw[W9 hc] at h'
   cases hx:x == n with
   | true=>
    simp only[Y4,hx] at h' ⊢
    have e:k=kd:=M? h';subst e;rcases hk with hk|hk
    ·exact Jg hk hkc
    ·rw[hk]
   | false=>simp only[Y4,hx] at h' ⊢;exact ih h'
def aU (cells:List (Str×o?)):List (Str×NameKind)->List (Str×o?)->List (Str×o?)
 | [],acc=>acc
 | (n,k)::r,acc=>aU cells r (if k=.free then match cells.lookup n with|some c=>(n,c)::acc|none=>acc else acc)
theorem iN {scope:Scope}{env:Env}(h:∀y∈scope.names,y.2=.free->∃c,env.cells.lookup y.1=j? c):closureFor scope env=pure (aU env.cells scope.names []):=by
 have go:∀(l:List (Str×NameKind)) (acc:List (Str×o?)),(∀y∈l,y.2=.free->∃c,env.cells.lookup y.1=j? c)->
   (forIn l acc λx (r:List (Str×o?))=>(match x with|(name,kind)=>if (kind == Z?)=true then do let c <- cellOf env name;pure (ForInStep.yield ((name,c)::r)) else pure (ForInStep.yield r):Sem (ForInStep (List (Str×o?)))))=pure (aU env.cells l acc):=by
  intro l;induction l with
  | nil=>intro acc _;rfl
  | cons x l ih=>
   intro acc hl;obtain⟨n,k⟩:=x;rw[List.forIn_cons];by_cases hk:k=.free
   ·subst hk
    obtain⟨c,hc⟩:=hl (n,.free) Zc rfl;have e1:cellOf env n=pure c:=by unfold cellOf;rw[hc]
    simp only[beq_self_eq_true,if_true,e1,pure_bind]
    rw[ih _ λy hy=>hl y (Y7 _ hy)]
    show _=pure (aU env.cells l (if Z?=.free then match env.cells.lookup n with|some c=>(n,c)::acc|none=>acc else acc))
    rw[Ja rfl,hc]
   ·have hb:(k == Z?)=false:=by simpa using hk
    simp only[hb,Bool.false_eq_true,if_false,pure_bind]
    rw[ih _ λy hy=>hl y (Y7 _ hy)]
    show _=pure (aU env.cells l (if k=.free then _ else acc))
    rw[W9 hk]
 unfold closureFor;have:=go scope.names [] h
 simp only[bind_pure_comp] at this ⊢
 first
  | exact this
  | simpa using this
theorem kq {cells:List (Str×o?)}{x:Str}{c:o?}:∀(l:List (Str×NameKind)) (acc:List (Str×o?)),(∀d,acc.lookup x=j? d->cells.lookup x=j? d)->(aU cells l acc).lookup x=j? c->cells.lookup x=j? c
 | [],acc,h,e=>h c e
 | (n,k)::r,acc,h,e=>by
  refine kq r _ (λd hd=>?_) e
  split at hd
  ·split at hd
   ·rename_i c' hc'
    cases hx:x == n with
    | true=>
     simp only[Y4,hx] at hd
     have:x=n:=by simpa using hx
     subst this;rw[hc'];exact hd
    | false=>simp only[Y4,hx] at hd;exact h d hd
   ·exact h d hd
  ·exact h d hd
theorem gp {cells:List (Str×o?)}{x:Str}{c:o?}(hc:cells.lookup x=j? c):∀(l:List (Str×NameKind)) (acc:List (Str×o?)),(acc.lookup x=j? c\/(x,Z?)∈l)->(∀d,acc.lookup x=j? d->d=c)->(aU cells l acc).lookup x=j? c
 | [],acc,h,_=>by
  rcases h with h|h
  ·exact h
  ·cases h
 | (n,k)::r,acc,h,u=>by
  by_cases hk:k=.free
  ·subst hk
   show(aU cells r (if Z?=.free then match cells.lookup n with|some c=>(n,c)::acc|none=>acc else acc)).lookup x=j? c
   rw[Ja rfl];by_cases hx:x=n
   ·subst hx
    rw[hc];refine gp hc r _ (.inl (by simp)) λd hd=>?_
    simp at hd
    exact hd.symm
   ·have hb:(x == n)=false:=by simpa using hx
    have keep:∀(a2:List (Str×o?)),(match cells.lookup n with|some c=>(n,c)::acc|none=>acc)=a2->a2.lookup x=acc.lookup x:=by
     intro a2 e;subst e;cases cells.lookup n with
     | none=>rfl
     | some c'=>simp only[Y4,hb]
    refine gp hc r _ ?_ λd hd=>u d (by rw[keep _ rfl] at hd;exact hd)
    rcases h with h|h
    ·exact .inl (by rw[keep _ rfl];exact h)
    ·rcases List.mem_cons.mp h with h|h
     ·exact Jg (Je Prod.fst h) hx
     ·exact .inr h
  ·show(aU cells r (if k=.free then _ else acc)).lookup x=j? c
   rw[W9 hk];refine gp hc r _ ?_ u
   rcases h with h|h
   ·exact .inl h
   ·rcases List.mem_cons.mp h with h|h
    ·exact Jg (Je Prod.snd h).symm hk
    ·exact .inr h
abbrev f6 (X:Cx)(N:List Str)(scope:Scope)(cl:List (Str×o?))(C:o?)(s2:u?)(H2:Hp)(fp:List o?):Cx:=
 { X with N:=N,s₀:=s2,H₀:=H2,env:=compEnvC scope cl C X.env,outer:=X.stack,ex:=fp,fn:=λ_=>false,pn:=[],xe:=λ_ _=>False }
def fO (sl:List (Option Nat))(σ:St):St:=sl.map λo=>match o with|some i=>(σ[i]?).join|none=>q?
structure bH (X:Cx)(N:List Str)(sl:List (Option Nat))(scope:Scope):Prop where
 kind:scope.kind=.function
 tH:∀y∈scope.names,y.2≠.cell
 locs:∀y∈scope.names,y.2=.local->scope.names.lookup y.1=j? .local
 frees:∀y∈scope.names,y.2=.free->X.env.kindOf y.1=j? .cell\/X.env.kindOf y.1=j? .free
 len:sl.length=N.length
 out:∀(j i:Nat) (x:Str),N[j]?=j? x->sl[j]?=j? (j? i)->X.N[i]?=j? x/\scope.names.lookup x=j? .free
def NQ (X:Cx)(ifs:List Expr)(t:TT):Prop:=
 ∀(pins:List (o?×Obj)) (s:u?) (σ:St) (H:Hp) (Q:Bool->Hp->Prop),Inv X pins σ H s->t σ H Q->
  L? (S? X.prog X.w) X.A (forIn ifs true λc r=>if r=true then do let ok <- isTrue c X.env (eval c X.env);pure (ForInStep.yield ok) else pure (ForInStep.yield r)) (TP X pins σ Q) X.xe s
def Iv:TT:=λ_ H Q=>Q true H
theorem aR {X:Cx}:NQ X [] Iv:=λpins s σ H Q I h=>by
 rw[List.forIn_nil];exact J? ⟨H,I,h⟩
theorem E7 {X:Cx}{c:Expr}{t:TT}(h:PT X c t):NQ X [c] t:=λpins s σ H Q I q=>by
 rw[List.forIn_cons];refine B? ?_
 rw[Ja rfl];refine B? (eV (h pins s σ H Q I q) λb s1 r=>J? ?_)
 show L? _ _ (forIn [] b _) _ _ _
 rw[List.forIn_nil];exact J? r
def q_ (J:It)(D:o?)(st:St)(g:TG)(o_:TT)(te:TE)(Q:VK)(H1:Hp):Prop:=∃W:Nat->Nat->Hp->Prop,
 (∃m,W 0 m (upd H1 D (.lst [])))/\∀i m H2,W i m H2->
  (J.stop i H2/\Q (.ref D) H2)\/(J.go i H2/\∀x H',J.NK i H2 x H'->g x st H' λσ3 H3=>o_ σ3 H3 λb H4=>
   if b=true then te σ3 H4 λy H5=>∃ys,H5 D=j? (.lst ys)/\ys.length<K?/\∃m',m'<m/\W (i+1) m' (upd H5 D (.lst (ys++[y]))) else ∃m',m'<m/\W (i+1) m' H4)
def yZ (wi:TI)(sl:List (Option Nat))(g:TG)(o_:TT)(te:TE):TE:=λσ H Q=>wi σ H λJ H1=>∀D,H1 D=q?->q_ J D (fO sl σ) g o_ te Q H1
section
variable {X:Cx} {N:List Str} {sl:List (Option Nat)} {scope:Scope}
theorem uO {σ:St}{j:Nat}{v:V}(h:(fO sl σ)[j]?=j? (j? v)):∃i,sl[j]?=j? (j? i)/\σ[i]?=j? (j? v):=by
 unfold fO at h;rw[Ye] at h;cases e:sl[j]? with
 | none=>rw[e] at h;cases h
 | some o=>
  rw[e] at h;cases o with
  | none=>cases h
  | some i=>
   refine⟨i,rfl,?_⟩
   have h':(σ[i]?).join=j? v:=M? h;cases e2:σ[i]? with
   | none=>rw[e2] at h';cases h'
   | some q=>rw[e2] at h';exact Je j? h'
theorem bH.clos (S:bH X N sl scope)(ok:X.Ok):closureFor scope X.env=pure (aU X.env.cells scope.names []):=
 iN λy hy hf=>ok.has y.1 (S.frees y hy hf)
theorem bH.cell (S:bH X N sl scope)(ok:X.Ok){x:Str}(hf:scope.names.lookup x=j? .free){c:o?}(hc:X.env.cells.lookup x=j? c):(aU X.env.cells scope.names []).lookup x=j? c:=
 gp hc _ _ (.inr (U? hf)) λd hd=>by simp at hd
theorem bH.back {x:Str}{c:o?}(h:(aU X.env.cells scope.names []).lookup x=j? c):X.env.cells.lookup x=j? c:=
 kq _ _ (λd hd=>by simp at hd) h
theorem bH.ok (S:bH X N sl scope){pins:List (o?×Obj)}{σ:St}{H2:Hp}{s2:u?}{fp:List o?}{C:o?}(I:Inv X pins σ H2 s2)(hf:∀b∈fp,j6 X pins H2 b)(hlt:∀b∈fp,b<s2.heap.objs.size)(hC:s2.heap.objs.size<=C):
  (f6 X N scope (aU X.env.cells scope.names []) C s2 H2 fp).Ok where
 mod:=I.ok.mod
 kind:=S.kind
 glob:=I.ok.glob
 blt:=I.ok.blt
 above:=hC
 inj:=λx y c h1 h2=>I.ok.inj x y c (bH.back h1) (bH.back h2)
 has:=λx hx=>by
  have hx':scope.names.lookup x=j? .free:=by
   rcases hx with hx|hx
   ·exact lO S.tH (.inl rfl) hx
   ·exact lO S.tH (.inr rfl) hx
  obtain⟨c,hc⟩:=I.ok.has x (S.frees _ (U? hx') rfl);exact⟨c,S.cell I.ok hx' hc⟩
 NF:=λx c h=>Jg (show false=true from h) E?
 hd:=I.ok.hd
 frames:=I.ok.frames
 stk:=.inl rfl
 Q9:=λb hb=>⟨Yu (Yk (hlt b hb) hC),λx c h=>(hf b hb).2.2.2.2.1 x c (bH.back h)⟩
 bs:=I.bs
 EU:=Yn I.ok.EU I.sz
 A7:=λb o e hb=>by
  rcases (hf b hb).2.2.2.1 with z|z
  ·exact I.ok.A7 b o e z
  ·exact Jg (Yk (Yk (Ym e) I.ok.EU) z) (Zz _)
 A8:=λb hb z=>by
  rcases List.mem_cons.mp (I.tu b z) with e|e
  ·exact(hf b hb).2.1 e
  ·exact(hf b hb).2.2.1 e
 nh:=I.stack
 HW:=I.vA
theorem bH.again (S:bH X N sl scope){pins:List (o?×Obj)}{σ:St}{H2:Hp}{s2:u?}{fp:List o?}{C:o?}(I:Inv X pins σ H2 s2)(hf:∀b∈fp,j6 X pins H2 b)
  {uL:List (o?×Obj)} {σ':St} {H':Hp} {s':u?} (J:Inv (f6 X N scope (aU X.env.cells scope.names []) C s2 H2 fp) uL σ' H' s'):
  Inv (f6 X N scope (aU X.env.cells scope.names []) C s2 H2 fp) uL (fO sl σ) H' s':=by
 obtain⟨m,hn,_⟩:=J.loc;refine⟨J.ok,J.os,J.bare,J.base,⟨m,hn,λj x v e1 e2 _=>?_⟩,J.cell,J.free,J.jm,J.pin,J.hok,?_⟩
 ·obtain⟨i,h1,h2⟩:=uO e2
  obtain⟨hN,hfree⟩:=S.out j i x e1 h1;have hk:=S.frees _ (U? hfree) rfl;obtain⟨m0,hn0,Iw⟩:=I.loc;have hv:Q8 X.env.scope x:=by
   rcases hk with hk|hk
   ·exact .inr (.inl hk)
   ·exact .inr (.inr hk)
  obtain⟨u,r,l⟩:=Iw i x v hN h2 hv;refine⟨u,r,.inr ⟨?_,?_⟩⟩
  ·rcases fW (env:=X.env) hfree with z|z
   ·exact .inr z
   ·exact .inl z
  ·rcases l with ⟨z,_⟩|⟨_,c,hc,q⟩
   ·rcases hk with hk|hk
    ·have hk':X.env.kindOf x=j? .cell:=hk
     rw[hk'] at z;cases z
    ·have hk':X.env.kindOf x=j? .free:=hk
     rw[hk'] at z;cases z
   ·refine⟨c,S.cell I.ok hfree hc,?_⟩
    obtain⟨o,ho,hd⟩:=q;have O8:c ∉ fp:=λz=>(hf c z).2.2.2.2.1 x c hc rfl
    obtain⟨RJ,e⟩:=J.base.any ho (I.jm x c hc) O8;exact⟨_,e,hd⟩
 ·unfold fO
  rw[Ya];exact S.len
theorem Bg {elt tg iter:Expr}{ifs:List Expr}{pos pos2:Pos}{wi:TI}{g:TG}{o_:TT}{te:TE}{use:Option (l?->Sem Unit)}{QQ:l?->u?->Prop}(S:bH X N sl scope)(kW:X.calm=true)(hi:PI X tg iter wi)
  (hg:∀cl C s2 H2 fp,PG (f6 X N scope cl C s2 H2 fp) tg g) (hif:∀cl C s2 H2 fp,NQ (f6 X N scope cl C s2 H2 fp) ifs o_) (he:∀cl C s2 H2 fp,PE (f6 X N scope cl C s2 H2 fp) elt te)
  (hs:∀x,foldedSetIterable iter X.env x=pure x) {pins:List (o?×Obj)} {s:u?} {σ:St} {H:Hp} {Q:VK} (I:Inv X pins σ H s) (h:yZ wi sl g o_ te σ H Q)
  (hend:∀(D C:o?) (H3:Hp) (s4:u?) (fl:Flow),Inv X pins σ H3 s4->H3 C=q?->C≠X.env.locals->C ∉ X.fs->X.s₀.heap.objs.size<=C->(∀x c,X.env.cells.lookup x=j? c->c≠C)->(∀p∈X.pn++pins,p.1≠C)->(∃m,s4.heap.Ns C m)->Q (.ref D) H3->
   compPost (S? X.prog X.w) X.A X.xe use QQ (.ref D) C (.ok fl) s4):
  L? (S? X.prog X.w) X.A (comprehension (.ListComp elt [⟨tg,iter,ifs,0⟩] scope pos) scope X.env pos2 (newList []) false (eval iter X.env) use) QQ X.xe s:=by
 refine wpAny_comprehension_free (use:=use) rfl hs (S.clos I.ok) S.kind S.locs (B! (hi pins s σ H _ I h) (λxv s1 h1=>B! h1 (λitv s2 h2=>?_) λ_ _ e=>e) λ_ _ e=>e)
 obtain⟨it,fp,tn,J,H2,rfl,I2,T,st2,f2,hR⟩:=h2;obtain⟨W,⟨m0,w0⟩,turn⟩:=hR _ I2.fresh;refine wpAny_newObj_type (wpAny_newFunctionEnv S.tH (by intro y hy;simp at hy) (λh₁ we zO=>?_) S.kind)
 dsimp only at we zO ⊢
 generalize hP:s2.heap.push { cls:=.type "list",dict:=q?,data:=.seq ([]:List l?).toArray }=P2 at we zO ⊢;have hC:P2.objs.size=s2.heap.objs.size+1:=by rw[<- hP,Heap.size_push]
 have hDC:s2.heap.objs.size≠P2.objs.size:=by rw[hC];exact Yu (Nat.lt_succ_self _)
 have tK:s2.heap.objs.size<=P2.objs.size:=by rw[hC];exact W7 _
 have hlt:∀b∈fp,b<s2.heap.objs.size:=λb hb=>let ⟨o,e,_⟩:=T.obj 0 _ st2 b hb;Ym e
 have old:∀b o,s2.heap.get? b=j? o->h₁.get? b=j? o:=λb o e=>zO.extBut b o (Yu (Yk (Ym e) tK)) (Yh _ (hP ▸ Yh _ e))
 have Vh:h₁.get? s2.heap.objs.size=j? { cls:=.type "list",dict:=q?,data:=.seq ([]:List l?).toArray }:=zO.extBut _ _ hDC (Yh _ (hP ▸ Y0 _ rfl));have hok:=S.ok (C:=P2.objs.size) I2 f2 hlt tK;have O9:uK X.prog X.w (upd H2 s2.heap.objs.size (.lst [])) h₁:=I2.hok.laid old (Yd _) ⟨Y1 _,[],_,.nil,Vh⟩;have Vi:Un (frs X.stack) fp H2 (upd H2 s2.heap.objs.size (.lst [])) s2.heap h₁:=Un.laid old (Yd _) I2.fresh;have Di:∀x c,(aU X.env.cells scope.names []).lookup x=j? c->∃v,h₁.IsCell c v:=λx c hc=>by
  obtain⟨v,o,ho,hd⟩:=I2.cell x c (bH.back hc);exact⟨v,o,old c o ho,hd⟩
 have Dj:∀x c,(aU X.env.cells scope.names []).lookup x=j? c->upd H2 s2.heap.objs.size (.lst []) c=q?:=λx c hc=>by
  obtain⟨v,q⟩:=I2.cell x c (bH.back hc);rw[aL (Yu q.lt)];exact I2.jm x c (bH.back hc)
 have Dk:upd H2 s2.heap.objs.size (.lst []) P2.objs.size=q?:=by
  rw[aL (Ne.symm hDC)];exact I2.hok.fresh tK
 have start:∀tk:Nat,Inv (f6 X N scope (aU X.env.cells scope.names []) P2.objs.size s2 H2 fp) [] (fO sl σ) (upd H2 s2.heap.objs.size (.lst [])) { s2 with heap:=h₁,toks:=tk }:=λtk=>by
  have J0:Inv (f6 X N scope (aU X.env.cells scope.names []) P2.objs.size s2 H2 fp) [] (Yo N.length q?) (upd H2 s2.heap.objs.size (.lst [])) { s2 with heap:=h₁,toks:=tk }:=
   ⟨hok,rfl,I2.bare,Vi,⟨_,we,λi x v e1 e2 _=>by
    rw[Zl] at e2;split at e2 <;> cases e2⟩,Di,Dk,Dj,λp hp=>Jg (show p∈([]:List (o?×Obj)) from hp) (by simp),O9,by simp⟩
  exact S.again I2 f2 J0
 have stK:tn 0 h₁:=T.keep _ _ _ st2 λb hb o e=>old b o e
 have Vj:∀b∈fp,upd H2 s2.heap.objs.size (.lst []) b=q?:=λb hb=>by
  rw[aL (Yu (hlt b hb))];exact(f2 b hb).1
 have vW:∀ {H':Hp},(∀b∈fp,H' b=q?)->∀b∈fp,j6 (f6 X N scope (aU X.env.cells scope.names []) P2.objs.size s2 H2 fp) [] H' b:=λhn b hb=>
  ⟨hn b hb,Yu (Yk (hlt b hb) tK),λz=>hok.A8 b hb z,.inl hb,λx c hc=>(hok.Q9 b hb).2 x c hc,λp hp=>Jg (show p∈([]:List (o?×Obj)) from hp) (by simp)⟩
 have loop:∀tk:Nat,codeAny (S? X.prog X.w) X.A (.compLoop (.ListComp elt [⟨tg,iter,ifs,0⟩] scope pos) 0 (.ref it) (.ref s2.heap.objs.size) (compEnvC scope (aU X.env.cells scope.names []) P2.objs.size X.env))
   (compPost (S? X.prog X.w) X.A X.xe use QQ (.ref s2.heap.objs.size) P2.objs.size) { s2 with heap:=h₁,toks:=tk }:=λtk=>by
  refine codeAny_loop rfl (λn s'=>∃i H',Inv (f6 X N scope (aU X.env.cells scope.names []) P2.objs.size s2 H2 fp) [] (fO sl σ) H' s'/\tn i s'.heap/\(∀b∈fp,H' b=q?)/\W i n H') ?_ m0 ⟨0,_,start tk,stK,Vj,w0⟩
  rintro n s3 ⟨i,H3,I3,st3,NN,w3⟩;show L? _ X.A ((compTurn (.ListComp elt [⟨tg,iter,ifs,0⟩] scope pos) 0 (.ref it) (.ref s2.heap.objs.size) (compEnvC scope (aU X.env.cells scope.names []) P2.objs.size X.env)).onRaise (λx=>do noteFrame x (compEnvC scope (aU X.env.cells scope.names []) P2.objs.size X.env);theTreesLotGoes x)) _ _ s3
  refine wpAny_noted ?_
  rw[compTurn_list];rcases turn i n H3 w3 with ⟨stop,qn⟩|⟨go,step⟩
  ·refine B? (wpAny_standAt (B? (B! (T.done (f6 X N scope (aU X.env.cells scope.names []) P2.objs.size s2 H2 fp) rfl rfl rfl kW i [] s3 _ H3 _ I3 (vW NN) st3 stop) (λr s4 ⟨hr,I4⟩=>?_) λ_ _ z=>z)))
   subst hr;refine J? ?_
   obtain⟨m4,Vk,_⟩:=I4.loc;have u0:Un (frs X.stack) fp H2 H3 s2.heap s4.heap:=I4.base;have hI:Inv X pins σ H3 s4:=I2.HX (s':=s4) (ch:=fp) I4.os u0 I4.hok I4.bare λb hb=>⟨(f2 b hb).2.2.2.1,(f2 b hb).2.1,(f2 b hb).2.2.2.2.1,(f2 b hb).2.2.2.2.2⟩
   have Mk:=I2.uW (H':=H3) tK I4.free;exact hend _ _ H3 s4 _ hI I4.free Mk.2.1 Mk.2.2.1 (Yn I2.sz tK) Mk.2.2.2.2.1 Mk.2.2.2.2.2 ⟨m4,Vk⟩ qn
  ·refine B? (wpAny_standAt (B? (B! (T.item (f6 X N scope (aU X.env.cells scope.names []) P2.objs.size s2 H2 fp) rfl rfl rfl kW i [] s3 _ H3 (λ_ _=>False) I3 (vW NN) st3 go) (λr s4 ⟨u,hr,h4⟩=>?_) λ_ _ z=>z.elim)))
   subst hr;refine B? (B! h4 (λ_ s5 ⟨x,H5,I5,r5,y5,Ib,RX⟩=>?_) λ_ _ z=>z.elim)
   have RY:=I5.pinned (vW RX) (T.obj _ _ Ib);refine B? (B! (hg _ _ _ _ _ _ s5 _ H5 x u _ RY r5 (step x H5 y5)) (λ_ s6 ⟨σ6,H6,I6,q6⟩=>?_) λ_ _ z=>(show False from z).elim)
   have again:∀ {σ7:St} {H7:Hp} {s7:u?},Inv (f6 X N scope (aU X.env.cells scope.names []) P2.objs.size s2 H2 fp) ([]++tG fp s5.heap) σ7 H7 s7->(∃m',m'<n/\W (i+1) m' H7)->
     ∃m',m'<n/\∃i H',Inv (f6 X N scope (aU X.env.cells scope.names []) P2.objs.size s2 H2 fp) [] (fO sl σ) H' s7/\tn i s7.heap/\(∀b∈fp,H' b=q?)/\W i m' H':=λ{σ7 H7 s7} I7 ⟨m',hm,w7⟩=>by
    refine⟨m',hm,i+1,H7,S.again I2 f2 I7.kU,T.keep _ _ _ Ib λb hb o e=>(I7.pin (b,o) (Yr _ (Yr _ (fB hb e)))).1,λb hb=>?_,w7⟩
    obtain⟨o,e,d⟩:=T.obj _ _ Ib b hb;exact(I7.pin (b,o) (Yr _ (Yr _ (fB hb e)))).2.1
   refine B? (B! (hif _ _ _ _ _ _ s6 σ6 H6 _ I6 q6) (λok s7 ⟨H7,I7,q7⟩=>?_) λ_ _ z=>(show False from z).elim)
   cases ok with
   | false=>
    exact J? ⟨rfl,again I7 (by simpa using q7)⟩
   | true=>
    rw[Ja rfl] at q7;refine B? (B? (B! ((he _ _ _ _ _).out _ s7 σ6 H7 _ I7 q7) (λy s8 ⟨yv,H8,I8,r8,ys,hys,hlen,w8⟩=>?_) λ_ _ z=>(show False from z).elim))
    refine B? (B! (c8 (X:=f6 X N scope (aU X.env.cells scope.names []) P2.objs.size s2 H2 fp) _ s8 σ6 H8 (.ref s2.heap.objs.size) [yv] (.ref s2.heap.objs.size) [y]
     (λv H9=>v=.fk/\∃m',m'<n/\W (i+1) m' H9) I8 rfl (.cons r8 .nil) ⟨_,ys,yv,rfl,rfl,hys,hlen,rfl,w8⟩) (λr s9 ⟨v9,H9,I9,r9,e9,w9⟩=>?_) λ_ _ z=>(show False from z).elim)
    exact J? (J? ⟨rfl,again I9 w9⟩)
 exact codeAny_compStart_list (loop _) (T.self _ 0 _ _ _ stK (loop _))
theorem bY {elt tg iter:Expr}{ifs:List Expr}{pos:Pos}{wi:TI}{g:TG}{o_:TT}{te:TE}(S:bH X N sl scope)(kW:X.calm=true)(hi:PI X tg iter wi)
  (hg:∀cl C s2 H2 fp,PG (f6 X N scope cl C s2 H2 fp) tg g) (hif:∀cl C s2 H2 fp,NQ (f6 X N scope cl C s2 H2 fp) ifs o_) (he:∀cl C s2 H2 fp,PE (f6 X N scope cl C s2 H2 fp) elt te)
  (hs:∀x,foldedSetIterable iter X.env x=pure x:=by intro _;rfl):
  PE X (.ListComp elt [⟨tg,iter,ifs,0⟩] scope pos) (yZ wi sl g o_ te):=by
 refine⟨?_⟩
 intro pins s σ H Q I h;rw[eval_ListComp];refine Bg S kW hi hg hif he hs I h λD C H3 s4 fl I4 n1 n2 n3 n4 n5 n6 ⟨m,hn⟩ q=>?_
 exact⟨m,hn,λh' LN=>⟨.ref D,H3,I4.turned (t':=s4.toks) (λb o hb e=>(LN.2 b hb).trans e) n1 n2 (.inr n4) n5 n6,rfl,q⟩⟩
theorem gh {i:Nat}{x:Str}{elt tg iter:Expr}{ifs:List Expr}{cpos pos pos':Pos}{wi:TI}{g:TG}{o_:TT}{te:TE}(hN:X.N.Nodup)(hi':X.N[i]?=j? x)(hx:Loc X.env.scope x)(S:bH X N sl scope)(kW:X.calm=true)(hi:PI X tg iter wi)
  (hg:∀cl C s2 H2 fp,PG (f6 X N scope cl C s2 H2 fp) tg g) (hif:∀cl C s2 H2 fp,NQ (f6 X N scope cl C s2 H2 fp) ifs o_) (he:∀cl C s2 H2 fp,PE (f6 X N scope cl C s2 H2 fp) elt te)
  (hsw:swapsWith (.ListComp elt [⟨tg,iter,ifs,0⟩] scope cpos) (j? (.Name x pos')) pos.line X.env=pure true:=by rfl)
  (hs:∀x,foldedSetIterable iter X.env x=pure x:=by intro _;rfl) (hf:X.fn x=true\/X.env.scope.names.lookup x=j? .local:=by first|exact .inl rfl|exact .inr rfl|assumption):
  PS X (.Assign [.Name x pos'] (.ListComp elt [⟨tg,iter,ifs,0⟩] scope cpos) pos) (L1 (yZ wi sl g o_ te) (gE i)):=by
 refine⟨?_⟩
 intro pins s σ H D0 I h;rw[exec_Assign_Name_used _ _ _ _ hsw];refine B? (wpAny_standAt (B? ?_))
 show L? _ X.A (do let _ <- comprehension (.ListComp elt [⟨tg,iter,ifs,0⟩] scope cpos) scope X.env _ (newList []) false (eval iter X.env) (j? (assign (.Name x pos') X.env))) _ _ s
 refine B? (B! (Bg (QQ:=λ_ s'=>∃σ' H',Inv X pins σ' H' s'/\D0.nx σ' H') (use:=j? (assign (.Name x pos') X.env)) S kW hi hg hif he hs I h λD C H3 s4 fl I4 n1 n2 n3 n4 n5 n6 hm q=>?_)
  (λ_ s' hq=>J? (J? hq)) λ_ _ e=>e)
 obtain⟨m,hn⟩:=hm;show L? _ X.A (assign (.Name x pos') X.env (.ref D)) _ _ _
 refine wpAny_assign_Name (tw I4 hN hi' hx (show RelV (.ref D) (.ref D) from rfl) (λs5 I5 ⟨a,LN,ha⟩=>?_) hf)
 have Vl:C≠a:=by
  rcases ha with rfl|ha
  ·exact n2
  ·exact λz=>n5 _ _ ha z.symm
 refine⟨m,hn.sameBut LN Vl,λh' O_=>⟨_,H3,I5.turned (t':=s5.toks) (λb o hb e=>(O_.2 b hb).trans e) n1 n2 (.inr n4) n5 n6,q⟩⟩
end
section
variable {X:Cx}
def mX (i j:Int):Prop:=IntMulOk i j
def y9 (i j:Int):Prop:=j≠0/\j.natAbs<2 ^ 9000
theorem y9.py {i j:Int}(h:y9 i j):Builtin.divisionGoesByPylong i j=false:=by
 refine PyProof.noPylong_of_log2 ?_
 have h0:j.natAbs≠0:=λz=>h.1 (Int.natAbs_eq_zero.mp z)
 exact(Nat.log2_lt h0).mpr h.2
theorem aW:pL X (binaryOp .Mult) (rI mX λi j=>.int (i*j)):=Uk λ_ _ _ _ _ _ _ hc q=>mul_int q hc
theorem bL:pL X (binaryOp .FloorDiv) (rI y9 λi j=>.int (i.fdiv j)):=Uk λ_ _ _ _ _ _ _ hc q=>floordiv_int hc.1 q (.inl hc.py)
theorem E8 {a b:Int}{m n:Nat}(ha:a.natAbs<2 ^ m)(hb:b.natAbs<2 ^ n)(h:m+n<=134217728):mX a b:=
 IntMulOk.of_le (intBits_le_iff.mpr ha) (intBits_le_iff.mpr hb) h
theorem gO {a b:Int}(h1:-(2 ^ 64)<a)(h2:a<2 ^ 64):mX a b:=.of_left (intBits_le_64 h1 h2)
theorem lQ {a b:Int}(h1:-(2 ^ 64)<b)(h2:b<2 ^ 64):mX a b:=.of_right (intBits_le_64 h1 h2)
def isPlain:V->Bool
 | .fk=>true
 | .bl _=>true
 | _=>false
theorem RelV.y_ {x y:V}{v u:l?}(rx:RelV x v)(ry:RelV y u)(hy:isPlain y=true):plainIs v u=true/\(v == u)=decide (x=y):=by
 cases y with
 | fk=>
  cases ry;cases x <;> first|(cases rx;exact⟨rfl,rfl⟩)|(obtain⟨t,rfl⟩:=rx;exact⟨rfl,rfl⟩)
 | bl b=>
  cases ry;cases x with
  | bl c=>
   cases rx;refine⟨rfl,?_⟩
   cases b <;> cases c <;> rfl
  | fk=>cases rx;exact⟨rfl,rfl⟩
  | ref a=>cases rx;exact⟨rfl,rfl⟩
  | ty n=>cases rx;exact⟨rfl,rfl⟩
  | int _=>obtain⟨t,rfl⟩:=rx;exact⟨rfl,rfl⟩
  | str _=>obtain⟨t,rfl⟩:=rx;exact⟨rfl,rfl⟩
  | byt _=>obtain⟨t,rfl⟩:=rx;exact⟨rfl,rfl⟩
  | flt _=>obtain⟨t,rfl⟩:=rx;exact⟨rfl,rfl⟩
 | _=>exact Jg (show false=true from hy) E?
theorem NR:pL X (J! .Is) (λx y H Q=>isPlain y=true/\Q (.bl (decide (x=y))) H):=by
 intro pins s σ H x y v u Q I rx ry h;obtain⟨hy,q⟩:=h;obtain⟨p,e⟩:=rx.y_ ry hy;exact wpAny_is_plain p (cC I q e.symm)
theorem Iz:pL X (J! .IsNot) (λx y H Q=>isPlain y=true/\Q (.bl (!decide (x=y))) H):=by
 intro pins s σ H x y v u Q I rx ry h;obtain⟨hy,q⟩:=h;obtain⟨p,e⟩:=rx.y_ ry hy;exact wpAny_isNot_plain p (cC I q (Je not e.symm))
inductive E_ (K:bM)(H:Hp):V->String->Prop where
 | fk:E_ K H .fk "NoneType"
 | bl (x:Bool):E_ K H (.bl x) "bool"
 | int (i:Int):E_ K H (.int i) "int"
 | str (x:Str):E_ K H (.str x) "str"
 | lst {a:o?} {xs:List V} (e:aO K H a xs):E_ K H (.ref a) "list"
 | tup {a:o?} {xs:List V} (e:j5 K H a xs):E_ K H (.ref a) "tuple"
theorem Bh:jE X (.builtin "isinstance") (λxs H Q=>∃x T T' b,xs=[x,.ty T']/\E_ X.K H x T/\PySem.W.kitOne X.K (.type T) (.type T')=j? b/\Q (.bl b) H):=by
 intro pins s σ H xs us Q I rv h;obtain⟨x,T,T',b,rfl,ty,e,q⟩:=h;obtain⟨u,w',rfl,rx,rt⟩:=vals2 rv;obtain rfl:w'=Value.type T':=rt
 have fin:∀tk,EP X pins σ Q (.bool b) { s with toks:=tk }:=λtk=>⟨.bl b,H,I.tok tk,rfl,q⟩
 cases ty with
 | fk=>cases (show u=Value.none from rx);exact PySem.W.kia_one PySem.W.kitx_none I.EV True.intro e (λz=>nomatch z) fin
 | bl y=>cases (show u=Value.bool y from rx);exact PySem.W.kia_one PySem.W.kitx_bool I.EV True.intro e (λz=>nomatch z) fin
 | int i=>obtain⟨t,q'⟩:=(show ∃t,u=Value.int i t from rx);cases q';exact PySem.W.kia_one PySem.W.kitx_int I.EV True.intro e (λz=>nomatch z) fin
 | str y=>obtain⟨t,q'⟩:=(show ∃t,u=Value.str y t from rx);cases q';exact PySem.W.kia_one PySem.W.kitx_str I.EV True.intro e (λz=>nomatch z) fin
 | @lst a ys ea=>
  cases (show u=I! a from rx)
  obtain⟨its,_,⟨o,n,h1,h2,_⟩,_⟩:=I.list ea;exact PySem.W.kia_one PySem.W.kitx_list I.EV ⟨o,h1,h2⟩ e (λz=>nomatch z) fin
 | @tup a ys ea=>
  cases (show u=I! a from rx)
  obtain⟨its,_,⟨o,h1,h2,_⟩,_⟩:=I.tuple ea;exact PySem.W.kia_one PySem.W.kitx_tuple I.EV ⟨o,h1,h2⟩ e (λz=>nomatch z) fin
inductive Den (K:bM)(H:Hp):V->N!->Prop where
 | fk:Den K H .fk .none
 | bl (b:Bool):Den K H (.bl b) (.bool b)
 | int (i:Int):Den K H (.int i) (.int i)
 | str (x:Str):Den K H (.str x) (.str x)
 | lst {a:o?} {xs:List V} {ds:List N!}:aO K H a xs->xs.length=ds.length->(∀(i:Nat) x d,xs[i]?=j? x->ds[i]?=j? d->Den K H x d)->Den K H (.ref a) (.list ds)
 | tup {a:o?} {xs:List V} {ds:List N!}:j5 K H a xs->xs.length=ds.length->(∀(i:Nat) x d,xs[i]?=j? x->ds[i]?=j? d->Den K H x d)->Den K H (.ref a) (.tuple ds)
theorem nv {h:O?}:∀ {us:List l?} {ds:List N!},us.length=ds.length->(∀(i:Nat) u d,us[i]?=j? u->ds[i]?=j? d->∃as,Reads h u d as)->∃as,ReadsAll h us ds as
 | [],[],_,_=>⟨[],.nil⟩
 | [],_::_,e,_=>by simp at e
 | _::_,[],e,_=>by simp at e
 | u::us,d::ds,e,f=>by
  obtain⟨as,r⟩:=f 0 u d rfl rfl;obtain⟨bs,rs⟩:=nv (us:=us) (ds:=ds) (by simpa using e) λi u d h1 h2=>f (i+1) u d (by simpa using h1) (by simpa using h2)
  exact⟨as++bs,.cons r rs⟩
theorem Vals.back {xs:List V}{us:List l?}(r:Vals xs us){i:Nat}{u:l?}(h:us[i]?=j? u):∃x,xs[i]?=j? x/\RelV x u:=by
 have hi:i<us.length:=(List.getElem?_eq_some_iff.mp h).1;have hx:i<xs.length:=by rw[r.length];exact hi
 obtain⟨u',h',rel⟩:=r.get (Yc hx);rw[h] at h';cases h';exact⟨_,Yc hx,rel⟩
theorem Den.reads {pins:List (o?×Obj)}{σ:St}{H:Hp}{s:u?}(I:Inv X pins σ H s){v:V}{d:N!}(D:Den X.K H v d):∀ {u:l?},RelV v u->∃as,Reads s.heap u d as:=by
 induction D with
 | fk=>intro u r;cases (show u=Value.none from r);exact⟨_,.none⟩
 | bl b=>intro u r;cases (show u=Value.bool b from r);exact⟨_,.bool b⟩
 | int i=>intro u r;obtain⟨t,rfl⟩:=(show ∃t,u=Value.int i t from r);exact⟨_,.int i t⟩
 | str x=>intro u r;obtain⟨t,rfl⟩:=(show ∃t,u=Value.str x t from r);exact⟨_,.str x t⟩
 | @lst a xs ds q hl _ ih=>
  intro u r;cases (show u=I! a from r)
  obtain⟨its,rv,⟨o,n,h1,h2,h3,h4⟩,_⟩:=I.list q;obtain⟨as,ra⟩:=nv (h:=s.heap) (us:=its) (ds:=ds) (by rw[<- rv.length];exact hl) λi u d e1 e2=>by
   obtain⟨x,ex,rel⟩:=rv.back e1;exact ih i x d ex e2 rel
  exact⟨_,.list h1 h2 h4 (by simpa using ra)⟩
 | @tup a xs ds q hl _ ih=>
  intro u r;cases (show u=I! a from r)
  obtain⟨its,rv,⟨o,h1,h2,n,h4⟩,_⟩:=I.tuple q;obtain⟨as,ra⟩:=nv (h:=s.heap) (us:=its) (ds:=ds) (by rw[<- rv.length];exact hl) λi u d e1 e2=>by
   obtain⟨x,ex,rel⟩:=rv.back e1;exact ih i x d ex e2 rel
  exact⟨_,.tuple h1 h2 h4 (by simpa using ra)⟩
def zQ (K:bM)(neg:Bool):R2:=λx y H Q=>∃d e,Den K H x d/\Den K H y e/\SeqAt.shaped d=true/\SeqAt.shaped e=true/\Q (.bl (if neg then !E! d e else E! d e)) H
theorem Pa (hu:X.A.units+64<cLine):pL X (J! .Eq) (zQ X.K false):=by
 intro pins s σ H x y v u Q I rx ry h;obtain⟨d,e,Dx,Dy,sd,se,q⟩:=h;obtain⟨as,ra⟩:=Dx.reads I rx;obtain⟨bs,rb⟩:=Dy.reads I ry;exact SeqAt.compareEq_shaped ra rb sd se hu (cC I q rfl)
theorem Pb (hu:X.A.units+64<cLine):pL X (J! .NotEq) (zQ X.K true):=by
 intro pins s σ H x y v u Q I rx ry h;obtain⟨d,e,Dx,Dy,sd,se,q⟩:=h;obtain⟨as,ra⟩:=Dx.reads I rx;obtain⟨bs,rb⟩:=Dy.reads I ry;exact SeqAt.compareNe_shaped ra rb sd se hu (cC I q rfl)
def Bj:V->Option N!
 | .fk=>j? .none
 | .bl b=>j? (.bool b)
 | .int i=>j? (.int i)
 | .str x=>j? (.str x)
 | _=>q?
theorem IA {K:bM}{H:Hp}{v:V}{d:N!}(h:Bj v=j? d):Den K H v d:=by
 cases v <;> first|(cases h;constructor)|cases h
def p_:List V->Option (List N!)
 | []=>j? []
 | v::r=>match Bj v,p_ r with
  | some d,j? ds=>j? (d::ds)
  | _,_=>q?
theorem tL:∀ {xs:List V} {ds:List N!},p_ xs=j? ds->xs.length=ds.length/\∀(i:Nat) x d,xs[i]?=j? x->ds[i]?=j? d->Bj x=j? d
 | [],ds,h=>by cases h;exact⟨rfl,λi x d h=>by simp at h⟩
 | v::r,ds,h=>by
  unfold p_ at h;cases e1:Bj v with
  | none=>rw[e1] at h;cases h
  | some d0=>
   cases e2:p_ r with
   | none=>rw[e1,e2] at h;cases h
   | some dr=>
    rw[e1,e2] at h;cases h;obtain⟨hl,hx⟩:=tL e2;refine⟨by simp[hl],λi x d h1 h2=>?_⟩
    cases i with
    | zero=>simp at h1 h2;rw[<- h1,<- h2];exact e1
    | succ i=>exact hx i x d (by simpa using h1) (by simpa using h2)
theorem rq {K:bM}{H:Hp}{a:o?}{xs:List V}{ds:List N!}(q:aO K H a xs)(h:p_ xs=j? ds):Den K H (.ref a) (.list ds):=
 .lst q (tL h).1 λi x d h1 h2=>IA ((tL h).2 i x d h1 h2)
theorem gF:∀(ns:List Int),p_ (ns.map V.int)=j? (ns.map PyData.int)
 | []=>rfl
 | n::ns=>by
  show(match Bj (.int n),p_ (ns.map V.int) with|some d,j? ds=>j? (d::ds)|_,_=>q?)=_
  rw[gF ns];rfl
end
structure Src (K:bM)(mg:Str->Option l?)(x:Str)(st:Q?)(ps:List Str):Prop where
 ex:∃f fd,LM K x x st f fd/\Binds K fd ps []/\mg x=j? (.ref f)
structure b9 (P:F?)(w:H?)(K:bM)(mg:Str->Option l?)(base:O?)(k:Nat)(x:Str)(ps:List Str)(sp:Sp):Prop where
 ex:∃f fd,lM P w K mg base E6 k f fd ps sp/\Binds K fd ps []/\PySem.W.keepIn K (.ref f)=true/\mg x=j? (.ref f)
section
variable {P:F?} {w:H?} {K:bM} {mg:Str->Option l?} {base:O?}
theorem Src.ok {x:Str}{st:Q?}{N ps:List Str}{k:Nat}{sp:Sp}(F:Src K mg x st ps)(S:aK N ps (ao st))(len:∀vs H Q E,sp vs H Q E->vs.length=ps.length)
  (hbody:∀(f:o?) (cdv:l?) (A:A!) (outer:List Env) (s:u?) (H:Hp) (vs:List V) (Q:VK) (E:XK),fM k (A.deeper (envOfC x (ao st) s.heap.objs.size f cdv))->sp vs H Q E->
   ∃t,A_ (pY E6 P w K mg base N x (ao st) f cdv A outer s H E).NI (cA st) t/\t { nx:=λ_ H'=>Q .fk H',rt:=Q } (start N vs) H):b9 P w K mg base (k+1) x ps sp:=by
 obtain⟨f,fd,F,B,M⟩:=F.ex;exact⟨f,fd,F.ok S len (hbody f),B,F.kp,M⟩
theorem Pc {x:Str}{st:Q?}{ps:List Str}{f:o?}{oc:l?}{od an:Option o?}{osl:Array (Option l?)}{kV doc pm cdv ct:l?}{h:O?}(X:K.In h)(G:h.Ns G? mg)
  (a:N? K G? x=j? (j? (.ref f))) (l:K.lookup f=j? ⟨oc,od,.func (W? x x (dP st) (cA st) (ao st) .none kV doc pm an cdv ct),osl⟩) (c:P! K cdv x=true) (k:C! K (.ref f)=true)
  (hb:∀(kV doc pm:l?) (an:Option o?) (cdv ct:l?) (us:List l?),us.length=ps.length->bindArgs (W? x x (dP st) (cA st) (ao st) .none kV doc pm an cdv ct) ⟨us,[]⟩=pure (ps.zip us)):Src K mg x st ps:=
 ⟨f,_,wc l c k,(wc l c k).binds hb,PySem.W.mg_of X G a⟩
end
theorem aH {X:Cx}{k n:Nat}{x:Str}{ps:List Str}{sp:Sp}{e:Expr}{es:List Expr}{t:TA}{p pos:Pos}(D:b9 X.prog X.w X.K X.mg X.base k x ps sp)(hr:fM n X.A)(ha:PA X (e::es) t)(hle:k<=n:=by first|decide|omega)(hg:Gl X x:=by rfl)
  (hdb:(x ==("__debug__":Str))=false:=by decide) (he:I? (e::es) X.env=(false,eval e X.env)::I? es X.env:=by rfl) (hpl:(backTo pos (I? es X.env)).any (·.1)=false:=by rfl):
  PE X (.Call (.Name x p) (e::es) [] pos) (Ij sp [] E0 t):=by
 obtain⟨f,fd,F,B,kp,M⟩:=D.ex;exact E3 F (hr.mono hle) hg M kp B .nil Se ha hdb he hpl
theorem aB {H:Hp}{p:o?}(h:H p=q?)(o:HO):aF H (upd H p o):=λb u q=>by rw[aL (bK q h)];exact q
def IB (Fb:Scope)(ON N:List Str)(sl:List (Option Nat))(scope:Scope):Bool:=
 decide (scope.kind=.function) && scope.names.all (λy=>decide (y.2≠.cell)) && scope.names.all (λy=>decide (y.2=.local->scope.names.lookup y.1=j? .local)) &&
 scope.names.all (λy=>decide (y.2=.free->Fb.names.lookup y.1=j? .cell\/Fb.names.lookup y.1=j? .free)) && decide (sl.length=N.length) &&
 (Yj N.length).all λj=>match N[j]?,sl[j]? with
  | some x,j? (j? i)=>decide (ON[i]?=j? x/\scope.names.lookup x=j? .free)
  | _,_=>true
theorem aG {X:Cx}{N:List Str}{sl:List (Option Nat)}{scope:Scope}(Fb:Scope)(ON:List Str)(h1:X.env.scope=Fb)(h2:X.N=ON)(hb:IB Fb ON N sl scope=true):bH X N sl scope:=by
 unfold IB at hb;simp only[T?,decide_eq_true_eq,Wh] at hb
 obtain⟨⟨⟨⟨⟨b1,b2⟩,b3⟩,b4⟩,b5⟩,b6⟩:=hb;refine⟨b1,b2,b3,λy hy hf=>?_,b5,λj i x e1 e2=>?_⟩
 ·have:=b4 y hy hf
  show X.env.scope.names.lookup y.1=_\/X.env.scope.names.lookup y.1=_
  rw[h1];exact this
 ·have hj:j<N.length:=(List.getElem?_eq_some_iff.mp e1).1
  have:=b6 j (List.mem_range.mpr hj)
  rw[e1,e2] at this;have q:=Jc this;rw[h2];exact q
theorem bN:H! "len"=j? (.builtin "len"):=by decide +kernel
theorem IC:H! "abs"=j? (.builtin "abs"):=by decide +kernel
theorem ku:H! "isinstance"=j? (.builtin "isinstance"):=by decide +kernel
theorem Pd:H! "any"=j? (.builtin "any"):=by decide +kernel
theorem Pe:H! "min"=j? (.builtin "min"):=by decide +kernel
theorem Dl:H! "max"=j? (.builtin "max"):=by decide +kernel
theorem Dm:H! "sum"=j? (.builtin "sum"):=by decide +kernel
theorem Pf:H! "int"=j? (.type "int"):=by decide +kernel
theorem Ml:H! "bool"=j? (.type "bool"):=by decide +kernel
theorem lU:H! "list"=j? (.type "list"):=by decide +kernel
def Vn (K:bM):List V->Hp->VK->Prop:=λxs H Q=>∃x T T' b,xs=[x,.ty T']/\E_ K H x T/\PySem.W.kitOne K (.type T) (.type T')=j? b/\Q (.bl b) H
def Sf (K:bM):List V->Hp->VK->Prop:=λxs H Q=>∃p ys,xs=[.ref p]/\(aO K H p ys\/j5 K H p ys)/\Q (.int ys.length) H
section
variable {X:Cx} {K:bM}
theorem lV (h:X.K=K):jE X (.builtin "isinstance") (Vn K):=by subst h;exact λpins s σ H xs us Q I rv ⟨a,b,c,d,e,f,g,i⟩=>Bh pins s σ H xs us Q I rv ⟨a,b,c,d,e,f,g,i⟩
theorem aN (h:X.K=K):jE X (.builtin "len") (Sf K):=by subst h;exact λpins s σ H xs us Q I rv ⟨a,b,c,d,e⟩=>zN pins s σ H xs us Q I rv ⟨a,b,c,d,e⟩
theorem aI (h:X.K=K):R5 X (R6 K):=by subst h;exact Me
theorem rz (h:X.K=K):R5 X (R7 K):=by subst h;exact O5
theorem dW (h:X.K=K):Vb X (R9 K):=by subst h;exact Mg
theorem ID (h:X.K=K):pL X (J! .In) (XQ K false):=by subst h;exact Gx
theorem rB (h:X.K=K)(hu:X.A.units+64<cLine):pL X (J! .Eq) (zQ K false):=by subst h;exact Pa hu
theorem zR (h:X.K=K)(hu:X.A.units+64<cLine):pL X (J! .NotEq) (zQ K true):=by subst h;exact Pb hu
theorem bE {tg l:Expr}{tl:TE}(h:X.K=K)(hl:PE X l tl):PI X tg l (NL K tl):=by subst h;exact L6 hl
theorem cG {es:List Expr}{k:Nat}{t:NJ}{n:Nat}{pos:Pos}(hK:X.K=K)(hc:X.calm=true)(h:RQ X es t)
  (hn:(assignEach es X.env).length=n:=by rfl) (hst:(assignEach es X.env).findIdx? (·.1)=q?:=by rfl):PG X (.Tuple es k pos) (RT K n t):=by subst hK;exact OT hc h hn hst
end
def Bd (m:Nat)(x:Int):Prop:=x.natAbs<2 ^ m
theorem Bd.mono {m n:Nat}{x:Int}(h:Bd m x)(hmn:m<=n):Bd n x:=Yk h (Y2 (by decide) hmn)
theorem Bd.bits {m:Nat}{x:Int}(h:Bd m x):Builtin.Int.intBits x<=m:=intBits_le_iff.mpr h
theorem Bd.of_bits {m:Nat}{x:Int}(h:Builtin.Int.intBits x<=m):Bd m x:=intBits_le_iff.mp h
theorem Bd.mul {m n:Nat}{x y:Int}(hx:Bd m x)(hy:Bd n y):Bd (m+n) (x*y):=.of_bits (intBits_mul_le hx.bits hy.bits)
theorem Bd.add {m n:Nat}{x y:Int}(hx:Bd m x)(hy:Bd n y):Bd (max m n+1) (x+y):=.of_bits (intBits_add_le hx.bits hy.bits)
theorem Bd.sub {m n:Nat}{x y:Int}(hx:Bd m x)(hy:Bd n y):Bd (max m n+1) (x-y):=.of_bits (intBits_sub_le hx.bits hy.bits)
theorem Bd.le {m:Nat}{x y:Int}(h:x.natAbs<=y.natAbs)(hy:Bd m y):Bd m x:=Z8 h hy
theorem Bd.fdiv {m:Nat}{x y:Int}(hx:Bd m x):Bd m (x.fdiv y):=.of_bits (intBits_fdiv_le hx.bits)
theorem Bd.ok {m n:Nat}{x y:Int}(hx:Bd m x)(hy:Bd n y)(h:m+n<=134217728:=by decide):mX x y:=E8 hx hy h
theorem Bd.dv {m:Nat}{i j:Int}(h:Bd m j)(h0:j≠0)(hm:m<=9000:=by decide):y9 i j:=⟨h0,h.mono hm⟩
theorem Bd.small {x:Int}(h1:-(2 ^ 64)<x)(h2:x<2 ^ 64):Bd 64 x:=by unfold Bd;omega
theorem iY {α:Type}{xs:List α}{i:Int}(h0:0<=i)(h1:i.toNat<xs.length):qV xs i=j? xs[i.toNat]:=by
 have e:i=((i.toNat:Nat):Int):=by omega
 have q:qV xs ((i.toNat:Nat):Int)=j? xs[i.toNat]:=fu (Yc h1);rw[<- e] at q;exact q
theorem Fc {α:Type}{xs:List α}{i:Int}(h0:0<=i)(h1:i<xs.length):∃v,qV xs i=j? v/\v∈xs:=by
 have hi:i.toNat<xs.length:=by omega
 exact⟨xs[i.toNat],iY h0 hi,Yz hi⟩
theorem gq (x:Int){y:Int}(hy:0<y):0<=x.fmod y/\x.fmod y<y:=⟨Int.fmod_nonneg_of_pos x hy,Int.fmod_lt_of_pos x hy⟩
theorem aT {α:Type}{xs:List α}(h:decide (xs.length<=1000)=true):xs.length<=K?:=Yn (Jc h) (by decide)
theorem IE (x y:Int)(hy:0<y):Int.gcd y (x.fmod y)=Int.gcd x y:=by
 rw[Y8 x (W4 hy),Int.gcd_comm x y,Int.emod_def,Int.gcd_comm y];simp
 exact Int.gcd_comm ..
def GA (a b:Int):Int:=(Int.gcd a b:Int)
theorem Dn {d x:Int}(h:d≠0):x.natAbs<=(d*x).natAbs:=by
 rw[Zh];have:0<d.natAbs:=by omega
 exact Nat.le_mul_of_pos_left _ this
theorem pick {xs:List V}{i:Int}{P:Int->Prop}(h0:0<=i)(h1:i<xs.length)(hP:∀v∈xs,∃n,v=.int n/\P n):∃n,qV xs i=j? (.int n)/\P n:=by
 obtain⟨v,e,hm⟩:=Fc h0 h1;obtain⟨n,rfl,p⟩:=hP v hm;exact⟨n,e,p⟩
theorem Pg {c A B:Prop}[Decidable c](h:¬ c)(hB:B):if decide c=true then A else B:=by
 rw[Jd h];exact jG hB
theorem Ph {c A B:Prop}[Decidable c](h:c)(hA:A):if decide c=true then A else B:=by
 rw[Jb h];exact ko hA
def CW (n:Nat)(D:o?)(Pv:Nat->List V->Hp->Prop):Nat->Nat->Hp->Prop:=λi m H2=>m=n-i/\i<=n/\∃ys,H2 D=j? (.lst ys)/\ys.length<=i/\Pv i ys H2
theorem CW.emit {n:Nat}{D:o?}{Pv:Nat->List V->Hp->Prop}{i m:Nat}{ys:List V}{y:V}{H5:Hp}(hm:m=n-i)(hi:i<n)(hn:n<=K?)(hy:H5 D=j? (.lst ys))(hl:ys.length<=i)
  (p:Pv (i+1) (ys++[y]) (upd H5 D (.lst (ys++[y])))):∃ys,H5 D=j? (.lst ys)/\ys.length<K?/\∃m',m'<m/\CW n D Pv (i+1) m' (upd H5 D (.lst (ys++[y]))):=
 ⟨ys,hy,by omega,n-(i+1),by omega,rfl,hi,ys++[y],ay,by simp;omega,p⟩
theorem CW.skip {n:Nat}{D:o?}{Pv:Nat->List V->Hp->Prop}{i m:Nat}{ys:List V}{H4:Hp}(hm:m=n-i)(hi:i<n)(hy:H4 D=j? (.lst ys))(hl:ys.length<=i)(p:Pv (i+1) ys H4):
  ∃m',m'<m/\CW n D Pv (i+1) m' H4:=⟨n-(i+1),by omega,rfl,hi,ys,hy,by omega,p⟩
theorem gG {K:bM}{a D:o?}{xs:List V}{st:St}{g:TG}{o_:TT}{te:TE}{H1:Hp}{Q:VK}(Pv:Nat->List V->Hp->Prop)(h0:Pv 0 [] (upd H1 D (.lst [])))
  (hl:∀i ys H2,H2 D=j? (.lst ys)->Pv i ys H2->aO K H2 a xs)
  (hs:∀i m x ys H2,m=xs.length-i->i<xs.length->xs[i]?=j? x->H2 D=j? (.lst ys)->ys.length<=i->Pv i ys H2->g x st H2 λσ3 H3=>o_ σ3 H3 λb H4=>
   if b=true then te σ3 H4 λy H5=>∃ys,H5 D=j? (.lst ys)/\ys.length<K?/\∃m',m'<m/\CW xs.length D Pv (i+1) m' (upd H5 D (.lst (ys++[y]))) else ∃m',m'<m/\CW xs.length D Pv (i+1) m' H4)
  (hd:∀ys H2,H2 D=j? (.lst ys)->Pv xs.length ys H2->Q (.ref D) H2):
  q_ (OX K a) D st g o_ te Q H1:=by
 refine⟨CW xs.length D Pv,⟨xs.length,by simp,Y1 _,[],ay,Yd _,h0⟩,?_⟩
 rintro i m H2 ⟨hm,hi,ys,hy,hlen,p⟩;have q:=hl i ys H2 hy p;by_cases hlt:i<xs.length
 ·refine .inr ⟨⟨xs,xs[i],q,by simp[hlt]⟩,λx H' y=>?_⟩
  obtain⟨e,y⟩:=y;subst e;exact hs i m x ys _ hm hlt (y xs q) hy hlen p
 ·have e:i=xs.length:=by omega
  subst e;exact .inl ⟨⟨xs,q,Yd _⟩,hd ys H2 hy p⟩
theorem iA {lo:Int}{n:Nat}{D:o?}{st:St}{g:TG}{o_:TT}{te:TE}{H1:Hp}{Q:VK}(Pv:Nat->List V->Hp->Prop)(h0:Pv 0 [] (upd H1 D (.lst [])))
  (hs:∀i m ys H2,m=n-i->i<n->H2 D=j? (.lst ys)->ys.length<=i->Pv i ys H2->g (.int (lo+i)) st H2 λσ3 H3=>o_ σ3 H3 λb H4=>
   if b=true then te σ3 H4 λy H5=>∃ys,H5 D=j? (.lst ys)/\ys.length<K?/\∃m',m'<m/\CW n D Pv (i+1) m' (upd H5 D (.lst (ys++[y]))) else ∃m',m'<m/\CW n D Pv (i+1) m' H4)
  (hd:∀ys H2,H2 D=j? (.lst ys)->Pv n ys H2->Q (.ref D) H2):
  q_ (L5 lo n) D st g o_ te Q H1:=by
 refine⟨CW n D Pv,⟨n,by simp,Y1 _,[],ay,Yd _,h0⟩,?_⟩
 rintro i m H2 ⟨hm,hi,ys,hy,hlen,p⟩;by_cases hlt:i<n
 ·refine .inr ⟨hlt,λx H' y=>?_⟩
  obtain⟨e,y⟩:=y;subst e y;exact hs i m ys _ hm hlt hy hlen p
 ·have e:i=n:=by omega
  subst e;exact .inl ⟨Yd _,hd ys H2 hy p⟩
structure fU (p n:Int)(v:Nat):Prop where
 dv:p ^ v ∣ n
 no:¬ p ^ (v+1) ∣ n
theorem rC {p:Int}(hp:p≠0):∀v:Nat,p ^ v≠0
 | 0=>by rw[Y9];decide
 | v+1=>by rw[Yy];exact Int.mul_ne_zero (rC hp v) hp
theorem gP (p:Int){v w:Nat}(h:v<=w):p ^ v ∣ p ^ w:=by
 obtain⟨k,rfl⟩:=Nat.exists_eq_add_of_le h;exact⟨p ^ k,Wo p v k⟩
theorem fU.uniq {p n:Int}{v w:Nat}(a:fU p n v)(b:fU p n w):v=w:=by
 rcases Nat.lt_trichotomy v w with h|h|h
 ·exact Jg (Int.dvd_trans (gP p h) b.dv) a.no
 ·exact h
 ·exact Jg (Int.dvd_trans (gP p h) a.dv) b.no
theorem fU.of {p n m:Int}{v:Nat}(hp:p≠0)(h:n=p ^ v*m)(hm:¬ p ∣ m):fU p n v:=by
 refine⟨⟨m,h⟩,λ⟨k,hk⟩=>hm ?_⟩
 rw[h,Yy,Z5] at hk;exact⟨k,Zd (rC hp v) hk⟩
theorem fU.XS {p n:Int}{v:Nat}(h:fU p n v):∃m,n=p ^ v*m/\¬ p ∣ m:=by
 obtain⟨m,e⟩:=h.dv;refine⟨m,e,λ⟨k,hk⟩=>h.no ⟨k,?_⟩⟩
 rw[e,hk,Yy,Z5]
theorem Dp {p:Int}(hp:2<=p){n:Int}(hn:n≠0):∃v,fU p n v:=by
  have go:∀(k:Nat) (n:Int),n≠0->n.natAbs<=k->∃v,fU p n v:=by
    intro k;induction k with
    | zero=>intro n h0 h1;exact Jg (by omega) h0
    | succ k ih=>
      intro n h0 h1;by_cases hd:p ∣ n
      . obtain⟨m,rfl⟩:=hd
        have hm:m≠0:=λz=>h0 (by rw[z];simp)
        have hlt:m.natAbs<(p*m).natAbs:=by
          rw[Zh];have h2:2<=p.natAbs:=by omega
          have h3:0<m.natAbs:=by omega
          calc m.natAbs<2*m.natAbs:=by omega
            _<=p.natAbs*m.natAbs:=Yx _ h2
        obtain⟨v,hv⟩:=ih m hm (by omega)
        obtain⟨c,ec,hc⟩:=hv.XS;exact⟨v+1,fU.of (by omega) (m:=c) (by rw[ec,Yy];ac_rfl) hc⟩
      . exact⟨0,fU.of (by omega) (m:=n) (by simp) hd⟩
  exact go n.natAbs n hn (Yd _)
theorem kX {x y:Int}(hy:0<y):x.fmod y=0↔y ∣ x:=by
 rw[Y8 x (W4 hy)];exact⟨Int.dvd_of_emod_eq_zero,Int.emod_eq_zero_of_dvd⟩
theorem jH {y m:Int}(hy:y≠0):(y*m).fdiv y=m:=Int.mul_fdiv_cancel_left m hy
end L2
namespace L2
theorem aF.aX {H H':Hp}{D:PySem.Addr}(g:aF H H')(hD:H D=q?)(o:HO):aF H (upd H' D o):=λb u q=>by rw[aL (bK q hD)];exact g b u q
theorem Bk {c A B:Prop}[Decidable c](h:¬ c)(hA:A):if (!decide c)=true then A else B:=by
 rw[Jd h];exact ko hA
end L2
namespace L2
open PySem PySem.Spec PyProof.Rows
def zS (o:Obj)(ns:List Int):Bool:=decide (o.cls=.type "tuple") && match o.data with
 | .seq its _=>decide (its.size<=1000) && decide (its.toList.map LZ=ns.map λn=>j? (V.int n))
 | _=>false
theorem uP:∀ {us:List l?} {ns:List Int},us.map LZ=ns.map (λn=>j? (V.int n))->Vals (ns.map V.int) us
 | [],[],_=>.nil
 | [],_::_,h=>by simp at h
 | _::_,[],h=>by simp at h
 | u::us,n::ns,h=>by
  simp only[List.map_cons,List.cons.injEq] at h
  refine .cons ?_ (uP h.2)
  have e:=h.1;cases u <;> simp[LZ] at e
  subst e;exact⟨_,rfl⟩
theorem Dq {K:bM}{H:Hp}{a:o?}{o:Obj}{ns:List Int}(h:K.lookup a=j? o)(t:zS o ns=true):j5 K H a (ns.map V.int):=by
 unfold zS at t;rw[T?] at t;obtain⟨t1,t2⟩:=t;have hc:=Jc t1;cases hd:o.data with
 | seq its n=>
  rw[hd] at t2;rw[T?] at t2;have h1:=Jc t2.1;have h2:=Jc t2.2;exact .inr ⟨o,its,n,h,hc,hd,Yn h1 (by decide),uP h2⟩
 | _=>rw[hd] at t2;exact Jg t2 E?
inductive Fl:Nat->N!->Prop where
 | fk {n:Nat}:Fl n .none
 | int {n:Nat} (i:Int):Fl n (.int i)
 | lst {n:Nat} {ds:List N!}:(∀d∈ds,Fl n d)->Fl (n+1) (.list ds)
 | tup {n:Nat} {ds:List N!}:(∀d∈ds,Fl n d)->Fl (n+1) (.tuple ds)
theorem lW:∀ {ds:List N!},(∀d∈ds,PyData.canLay0 d=true)->PyData.canLayAll0 ds=true
 | [],_=>by simp[PyData.canLayAll0]
 | d::ds,h=>by
  simp only[PyData.canLayAll0,T?]
  exact⟨h d Zc,lW λe he=>h e (Y7 _ he)⟩
theorem ny {n:Nat}:∀ {ds:List N!},(∀d∈ds,PyData.depth d<=n)->PyData.depthAll ds<=n
 | [],_=>by simp[PyData.depthAll]
 | d::ds,h=>by
  simp only[PyData.depthAll]
  exact Nat.max_le.mpr ⟨h d Zc,ny λe he=>h e (Y7 _ he)⟩
theorem Fl.both {n:Nat}{d:N!}(h:Fl n d):PyData.canLay0 d=true/\PyData.depth d<=n:=by
 induction h with
 | fk=>exact⟨by simp[PyData.canLay0],by simp[PyData.depth]⟩
 | int i=>exact⟨by simp[PyData.canLay0],by simp[PyData.depth]⟩
 | lst _ ih=>exact⟨by simp only[PyData.canLay0];exact lW λd hd=>(ih d hd).1,by simp only[PyData.depth];exact Nat.succ_le_succ (ny λd hd=>(ih d hd).2)⟩
 | tup _ ih=>exact⟨by simp only[PyData.canLay0];exact lW λd hd=>(ih d hd).1,by simp only[PyData.depth];exact Nat.succ_le_succ (ny λd hd=>(ih d hd).2)⟩
theorem Fl.shaped {n:Nat}{d:N!}(h:Fl n d)(hn:n<=64):SeqAt.shaped d=true:=by
 unfold SeqAt.shaped;rw[T?];exact⟨h.both.1,Jb (Yn h.both.2 hn)⟩
theorem Fl.self {n:Nat}{d:N!}(h:Fl n d):E! d d=true:=SeqAt.eqv_refl d h.both.1
mutual
theorem IF:∀ {n m:Nat} {d e:N!},Fl n d->Fl m e->E! d e=true->d=e
 | _,_,_,_,.fk,.fk,_=>rfl
 | _,_,_,_,.fk,.int _,h=>by simp[E!] at h
 | _,_,_,_,.fk,.lst _,h=>by simp[E!] at h
 | _,_,_,_,.fk,.tup _,h=>by simp[E!] at h
 | _,_,_,_,.int _,.fk,h=>by simp[E!] at h
 | _,_,_,_,.int i,.int j,h=>by
  simp only[E!,beq_iff_eq] at h
  rw[h]
 | _,_,_,_,.int _,.lst _,h=>by simp[E!] at h
 | _,_,_,_,.int _,.tup _,h=>by simp[E!] at h
 | _,_,_,_,.lst _,.fk,h=>by simp[E!] at h
 | _,_,_,_,.lst _,.int _,h=>by simp[E!] at h
 | _,_,.list ds,.list es,.lst a,.lst b,h=>by
  simp only[E!] at h
  rw[eqvAll_eq a b h]
 | _,_,_,_,.lst _,.tup _,h=>by simp[E!] at h
 | _,_,_,_,.tup _,.fk,h=>by simp[E!] at h
 | _,_,_,_,.tup _,.int _,h=>by simp[E!] at h
 | _,_,_,_,.tup _,.lst _,h=>by simp[E!] at h
 | _,_,.tuple ds,.tuple es,.tup a,.tup b,h=>by
  simp only[E!] at h
  rw[eqvAll_eq a b h]
theorem eqvAll_eq:∀ {n m:Nat} {ds es:List N!},(∀d∈ds,Fl n d)->(∀d∈es,Fl m d)->PyData.eqvAll ds es=true->ds=es
 | _,_,[],[],_,_,_=>rfl
 | _,_,[],_::_,_,_,h=>by simp[PyData.eqvAll] at h
 | _,_,_::_,[],_,_,h=>by simp[PyData.eqvAll] at h
 | _,_,d::ds,e::es,a,b,h=>by
  simp only[PyData.eqvAll,T?] at h
  rw[IF (a d Zc) (b e Zc) h.1,eqvAll_eq (λx hx=>a x (Y7 _ hx)) (λx hx=>b x (Y7 _ hx)) h.2]
end
noncomputable instance:DecidableEq N!:=λa b=>Classical.propDecidable _
theorem vC {n m:Nat}{d e:N!}(a:Fl n d)(b:Fl m e):E! d e=decide (d=e):=by
 cases h:E! d e with
 | true=>exact(Jb (IF a b h)).symm
 | false=>
  refine(Jd λz=>?_).symm
  subst z;rw[a.self] at h;cases h
abbrev dI (ns:List Int):N!:=.list (ns.map .int)
theorem lY (ns:List Int):Fl 1 (dI ns):=.lst λd hd=>by
 obtain⟨i,_,rfl⟩:=List.mem_map.mp hd;exact .int i
theorem IG {a b:List Int}(h:dI a=dI b):a=b:=by
 have h':a.map PyData.int=b.map PyData.int:=PyData.list.inj h;induction a generalizing b with
 | nil=>
  cases b with
  | nil=>rfl
  | cons _ _=>simp at h'
 | cons x a ih=>
  cases b with
  | nil=>simp at h'
  | cons y b=>
   simp only[List.map_cons,List.cons.injEq,PyData.int.injEq] at h'
   rw[h'.1,ih (Je PyData.list h'.2) h'.2]
theorem Bl (a b:List Int):E! (dI a) (dI b)=decide (a=b):=by
 rw[vC (lY a) (lY b)];by_cases h:a=b
 ·rw[Jb h,Jb (Je dI h)]
 ·rw[Jd h,Jd λz=>h (IG z)]
theorem Vo {K:bM}{H:Hp}{a b:o?}{xs ys:List Int}{Q:VK}(ha:aO K H a (xs.map V.int))(hb:aO K H b (ys.map V.int))(q:Q (.bl (decide (xs=ys))) H):zQ K false (.ref a) (.ref b) H Q:=
 ⟨dI xs,dI ys,rq ha (gF _),rq hb (gF _),(lY _).shaped (by decide),(lY _).shaped (by decide),by
  show Q (.bl (E! (dI xs) (dI ys))) H
  rw[Bl];exact q⟩
theorem Ud {K:bM}{H:Hp}{a b:o?}{xs ys:List Int}{Q:VK}(ha:aO K H a (xs.map V.int))(hb:aO K H b (ys.map V.int))(q:Q (.bl (!decide (xs=ys))) H):zQ K true (.ref a) (.ref b) H Q:=
 ⟨dI xs,dI ys,rq ha (gF _),rq hb (gF _),(lY _).shaped (by decide),(lY _).shaped (by decide),by
  show Q (.bl (!E! (dI xs) (dI ys))) H
  rw[Bl];exact q⟩
section
variable {X:Cx} {pins:List (o?×Obj)} {σ:St} {H:Hp} {s:u?} {h':O?}
theorem Inv.zT {t':Nat}{ch:List o?}(I:Inv X pins σ H s)(k:∀b u,b ∉ ch->s.heap.get? b=j? u->h'.get? b=j? u)(hf:∀b∈ch,j6 X pins H b):Inv X pins σ H { s with heap:=h',toks:=t' }:=by
 have NH:∀b u,H b=j? u->b ∉ ch:=λb u e z=>by rw[(hf b z).1] at e;cases e
 refine I.step (g':=s.gens) (d':=s.drawn) (ch:=ch) (λb hb=>⟨(hf b hb).2.2.2.1,(hf b hb).2.1,(hf b hb).2.2.2.2.1,(hf b hb).2.2.2.2.2⟩) (λb o _ _ hc e _=>k b o hc e) (λb o _ _ hc e _=>⟨o.slots,k b o hc e⟩) (λ_ _ _ _ n=>n)
  (λb o hc e=>⟨o,k b o hc e⟩) (λ_ _ e=>e) (λ_ _ _ e=>e) (λb ps e=>⟨#[],by rw[e];simp⟩) (λm hm=>?_) (λb u e=>?_) I.bare
 ·obtain⟨o,es,ep,ho,r⟩:=hm
  exact⟨o,es,ep,k _ o (λz=>(hf _ z).2.1 rfl) ho,r⟩
 ·refine(I.hok b u e).stay (λc v hc q=>k c v ?_ q) (λ_ q=>q) λ_ _ q=>q
  rcases hc with z|z
  ·rw[z];exact NH b u e
  ·exact NH c _ z
theorem Inv.za {t':Nat}{ch:List o?}{a:o?}{o:HO}(I:Inv X pins σ H s)(k:∀b u,b ∉ ch->s.heap.get? b=j? u->h'.get? b=j? u)(hf:∀b∈ch,j6 X pins H b)(ha:s.heap.objs.size<=a)(new:iV X.prog X.w (upd H a o) h' a o):
  Inv X pins σ (upd H a o) { s with heap:=h',toks:=t' }:=by
 have hn:H a=q?:=I.hok.fresh ha;have NH:∀b u,H b=j? u->b ∉ ch:=λb u e z=>by rw[(hf b z).1] at e;cases e
 have nea:∀b u,s.heap.get? b=j? u->b≠a:=λb u e=>Yu (Yk (Ym e) ha)
 refine I.step (g':=s.gens) (d':=s.drawn) (ch:=ch) (λb hb=>⟨(hf b hb).2.2.2.1,(hf b hb).2.1,(hf b hb).2.2.2.2.1,(hf b hb).2.2.2.2.2⟩) (λb o _ _ hc e _=>k b o hc e) (λb o _ _ hc e _=>⟨o.slots,k b o hc e⟩) (λb u _ e n=>by rw[aL (nea b u e)];exact n)
  (λb o hc e=>⟨o,k b o hc e⟩) (λb xs e=>by rw[aL (bK e hn)];exact e) (λb u xs e=>by rw[aL (bK e hn)];exact e) (λb ps e=>⟨#[],by rw[aL (bK e hn),e];simp⟩) (λm hm=>?_) (λb u e=>?_) I.bare
 ·obtain⟨o,es,ep,ho,r⟩:=hm
  exact⟨o,es,ep,k _ o (λz=>(hf _ z).2.1 rfl) ho,r⟩
 ·by_cases hb:b=a
  ·subst hb
   rw[ay] at e;cases e;exact new
  ·rw[aL hb] at e
   refine(I.hok b u e).stay (λc v hc q=>k c v ?_ q) (λc q=>by rw[aL (bK q hn)];exact q) λc xs q=>by rw[aL (bK q hn)];exact q
   rcases hc with z|z
   ·rw[z];exact NH b u e
   ·exact NH c _ z
end
def Pj (K:bM)(a:o?)(st:Nat):It:=
 ⟨λi H=>∃xs x,aO K H a xs/\xs[i]?=j? x,λi H v H'=>∃r x,v=.ref r/\H r=q?/\(∀xs,aO K H a xs->xs[i]?=j? x)/\H'=upd H r (.tup [.int ((st+i:Nat):Int),x]),λi H=>∃xs,aO K H a xs/\xs.length<=i⟩
theorem Dr {prog:F?}{w:H?}{A:A!}(hh:A.handled=q?)(it l:o?)(hne:l≠it)(items:Array l?)(st:Nat):
  Draws prog w A it [it,l] (st+items.size) (λi v=>items[i-st]?=j? v) (λi h=>st<=i/\h.IsListIter it l (i-st)/\h.IsList l items) where
 live:=λ_ _ x=>let ⟨o,ho,_⟩:=x.2.1;⟨o,ho⟩
 frame:=λ_ _ _ x hk=>⟨x.1,x.2.1.at λo e=>hk it (by simp) o e,x.2.2.at λo e=>hk l (by simp) o e⟩
 item:=λi s Q E hi x hQ=>by
  have hlt:i-st<items.size:=by have:=x.1;omega
  refine wpAny_nextOf_list_item x.2.1 x.2.2 (x:=items[i-st]) (by simp[hlt]) λh' Sg hs'=>?_
  have e:i-st+1=i+1-st:=by have:=x.1;omega
  rw[e] at Sg;exact hQ _ h' s.toks (by simp[hlt]) ⟨Nat.le_succ_of_le x.1,Sg,x.2.2.extBut hs'.extBut hne⟩ hs'
 done:=λs Q E x hE=>wpAny_nextOf_list_end hh x.2.1 x.2.2 (by simp) hE
theorem GB {P:F?}{w:H?}{K:bM}{elts:List Expr}{k:Nat}{pos:Pos}(a e it:o?)(hei:e≠it)(hae:a≠e)(hai:a≠it)(st:Nat):
  Turn P w K (.Tuple elts k pos) (Pj K a st) [e,it] e (λi h=>(∃old,IsEnum h e it ((st+i:Nat):Int) old)/\h.IsListIter it a i) where
 mem:=by simp
 obj:=λi h x b hb=>by
  obtain⟨⟨old,he⟩,o,ho,c,d⟩:=x;rcases List.mem_cons.mp hb with rfl|hb
  ·exact⟨_,he,λv z=>by
    have z':Data.fields _=Data.cell v:=z;cases z'⟩
  ·have e':b=it:=by simpa using hb
   subst e';exact⟨o,ho,λv z=>by rw[d] at z;cases z⟩
 keep:=λi h h' x kk=>⟨let ⟨old,he⟩:=x.1;⟨old,kk e (by simp) _ he⟩,x.2.at λo ho=>kk it (by simp) o ho⟩
 item:=by
  intro X hP hw hK hc i pins s σ H E I hf x hg;subst hP hw hK;obtain⟨xs,v,hq,hx⟩:=hg;obtain⟨its,rv,p,hz⟩:=I.list hq;obtain⟨u,hu,ru⟩:=rv.get hx;obtain⟨⟨old,he⟩,hit⟩:=x;have hi:i<its.length:=(List.getElem?_eq_some_iff.mp hu).1;have D:=Dr (prog:=X.prog) (w:=X.w) (A:=X.A.in1) (I.ok.hd hc) it a hai its.toArray st;have hn0:H s.heap.objs.size=q?:=I.fresh;have helt:e<s.heap.objs.size:=Ym he;have hilt:it<s.heap.objs.size:=by obtain⟨_,y,_⟩:=id hit;exact Ym y
  refine wpAny_pyNext_enum_itemD (i:=st+i) D he ⟨Wu _ _,by rw[Wm];exact hit,p.isList⟩ (by simp;omega) hei (by simp[hei,Ne.symm hae]) λy h1 tk hy ho st1 hT hsz hk=>?_
  rw[Wm] at hy;have ey:y=u:=by
   have:its[i]?=j? y:=by simpa using hy
   rw[hu] at this;exact(M? this).symm
  subst ey;refine⟨_,rfl,wpAny_letOwnedTupleGo_enum ho λh2 he2 hs2=>?_⟩
  have hT2:h2.get? s.heap.objs.size=j? { cls:=.type "tuple",data:=.seq #[.int ((st+i:Nat):Int) tk,y] }:=(hs2.2 _ (Nat.ne_of_gt helt)).trans hT;have I2:Inv X pins σ (upd H s.heap.objs.size (.tup [.int ((st+i:Nat):Int),v])) { s with heap:=h2,toks:=tk+1 }:=
   I.za (ch:=[e,it]) (λb u hb q=>(hs2.2 b λz=>hb (by simp[z])).trans (hk b u (λz=>hb (by simp[z])) (λz=>hb (by simp[z])) q)) hf (Yd _)
    ⟨by show 2<=K?;rw[C?];omega,[.int ((st+i:Nat):Int) tk,y],.cons ⟨_,rfl⟩ (.cons ru .nil),_,hT2,rfl,0,rfl⟩
  refine⟨.ref s.heap.objs.size,_,I2,rfl,⟨_,v,rfl,hn0,λys hy=>by rw[I.qY hy hq];exact hx,rfl⟩,⟨⟨y,?_⟩,?_⟩,λb hb=>?_⟩
  ·have e1:((st+i:Nat):Int)+1=((st+(i+1):Nat):Int):=by omega
   rw[<- e1];exact he2
  ·have hl1:=st1.2.1
   have e2:st+i+1-st=i+1:=by omega
   rw[e2] at hl1;exact hl1.at λo q=>(hs2.2 it hei.symm).trans q
  ·rw[aL ?_]
   ·exact(hf b hb).1
   ·rcases List.mem_cons.mp hb with rfl|hb
    ·exact Yu helt
    ·have:b=it:=by simpa using hb
     subst this;exact Yu hilt
 done:=by
  intro X hP hw hK hc i pins s σ H E I hf x hg;subst hP hw hK;obtain⟨xs,hq,hx⟩:=hg;obtain⟨its,rv,p,hz⟩:=I.list hq;obtain⟨⟨old,he⟩,hit⟩:=x;have hl:=rv.length;have hT:s.TypeIs (.ref e) "enumerate":=⟨_,he,rfl⟩;unfold pyNext;refine B? (wpAny_attempt (wpAny_callSpecial?_slot (name:=Str.ofString "__next__") hT PySem.F.slot_enumerate_next (wpAny_call_entry PySem.F.slot_enumerate_next hT PySem.F.entry_enumerate_next ?_ (PySem.F.args_enumerate_next_1 _))))
  show L? _ _ (field (.ref e) 2 >>= _) _ _ _
  refine B? (wpAny_field he rfl (x:=.ref it) rfl ?_)
  refine B? (wpAny_nextOf_list_end (I.ok.hd hc) hit p.isList (by simp;omega) λh' x he' hx'=>?_)
  obtain⟨o,ho,hc'⟩:=hx';refine B? (wpAny_isInstance (T:="StopIteration") (b:=true) ⟨o,ho,hc'⟩ isSubtype_stop ?_)
  exact J? ⟨rfl,I.zT (t':=s.toks) (ch:=[e,it]) (λb u hb q=>he' b u (λz=>hb (by simp[z])) q) hf⟩
 self:=λ_ _ _ _ _ x h=>let ⟨_,he⟩:=x.1;wpAny_pyIter_enum he h
section
variable {X:Cx} {elts:List Expr} {k:Nat} {tpos:Pos}
def NS (K:bM)(ta:TA):TI:=λσ H R=>ta σ H λvs H1=>∃a,vs=[.ref a]/\(∃xs,aO K H1 a xs)/\R (Pj K a 0) H1
theorem Mm {l:Expr}{ta:TA}{p pos:Pos}(hg:Gl X "enumerate")(hm:X.mg "enumerate"=q?)(ha:PA X [l] ta)(hs:I? [l] X.env=[(false,eval l X.env)]:=by rfl):
  PI X (.Tuple elts k tpos) (.Call (.Name "enumerate" p) [l] [] pos) (NS X.K ta):=by
 intro pins s σ H R I h;refine Call_ (jD I hg hm boot_enumerate (L! (eV (ha pos pins s σ H _ I h) λus s1 ⟨vs,H1,I1,r1,q1⟩=>?_) hs rfl))
 obtain⟨a,e,⟨xs,hq⟩,q⟩:=q1;subst e;obtain⟨u,rfl,ru⟩:=vals1 r1;cases (show u=I! a from ru)
 obtain⟨its,rv,pl,hz⟩:=I1.list hq;have hlt:a<s1.heap.objs.size:=by obtain⟨_,y,_⟩:=pl.isList;exact Ym y
 refine call_enumerate_list pl.isList λh' he hit hsz hk=>?_
 refine wpAny_pyIter_enum he ?_
 have I2:Inv X pins σ H1 { s1 with heap:=h' }:=I1.kept (t':=s1.toks) hk
 refine⟨_,[s1.heap.objs.size+1,s1.heap.objs.size],_,_,H1,rfl,I2,GB a (s1.heap.objs.size+1) s1.heap.objs.size (Nat.succ_ne_self _) (Yu (Nat.lt_succ_of_lt hlt)) (Yu hlt) 0,⟨⟨_,he⟩,hit⟩,λb hb=>?_,q⟩
 rcases List.mem_cons.mp hb with rfl|hb
 ·exact I1.uW (W7 _) (I1.hok.fresh (W7 _))
 ·have:b=s1.heap.objs.size:=by simpa using hb
  subst this;exact I1.uW (Yd _) (I1.hok.fresh (Yd _))
theorem gQ {K:bM}{l:Expr}{ta:TA}{p pos:Pos}(hK:X.K=K)(hg:Gl X "enumerate")(hm:X.mg "enumerate"=q?)(ha:PA X [l] ta)(hs:I? [l] X.env=[(false,eval l X.env)]:=by rfl):
  PI X (.Tuple elts k tpos) (.Call (.Name "enumerate" p) [l] [] pos) (NS K ta):=by subst hK;exact Mm hg hm ha hs
end
theorem kY {K:bM}{a:o?}{st:Nat}{xs:List V}{g:TG}{tb:TS}{D:Ends}{σ:St}{H:Hp}(Pv:Nat->St->Hp->Prop)(h0:Pv 0 σ H)(hl:∀i σ H,i<=xs.length->Pv i σ H->aO K H a xs)
  (hs:∀i x σ H r,xs[i]?=j? x->Pv i σ H->H r=q?->g (.ref r) σ (upd H r (.tup [.int ((st+i:Nat):Int),x])) λσ2 H2=>tb { D with nx:=Pv (i+1),ct:=Pv (i+1),bk:=D.nx } σ2 H2) (hd:∀σ H,Pv xs.length σ H->D.nx σ H):
  ∃W:Nat->Nat->St->Hp->Prop,(∃m,W 0 m σ H)/\∀i m σ H,W i m σ H->
   ((Pj K a st).stop i H/\D.nx σ H)\/((Pj K a st).go i H/\∃N:St->Hp->Prop,(∀σ' H',N σ' H'->∃m',m'<m/\W (i+1) m' σ' H')/\∀x H',(Pj K a st).NK i H x H'->g x σ H' λσ2 H2=>tb { D with nx:=N,ct:=N,bk:=D.nx } σ2 H2):=by
 refine⟨λi m σ H=>m=xs.length-i/\i<=xs.length/\Pv i σ H,⟨xs.length,by simp,Y1 _,h0⟩,?_⟩
 rintro i m σ H ⟨rfl,hi,p⟩;have q:=hl i σ H hi p;by_cases hlt:i<xs.length
 ·refine .inr ⟨⟨xs,xs[i],q,by simp[hlt]⟩,Pv (i+1),λσ' H' p'=>⟨xs.length-(i+1),by omega,rfl,hlt,p'⟩,λv H' y=>?_⟩
  obtain⟨r,x,e1,hr,hx,e2⟩:=y;subst e1 e2;exact hs i x σ _ r (hx xs q) p hr
 ·have e:i=xs.length:=by omega
  subst e;exact .inl ⟨⟨xs,q,Yd _⟩,hd σ H p⟩
theorem tM {K:bM}{a D:o?}{NT:Nat}{xs:List V}{st:St}{g:TG}{o_:TT}{te:TE}{H1:Hp}{Q:VK}(Pv:Nat->List V->Hp->Prop)(h0:Pv 0 [] (upd H1 D (.lst [])))
  (hl:∀i ys H2,H2 D=j? (.lst ys)->Pv i ys H2->aO K H2 a xs)
  (hs:∀i m x ys H2 r,m=xs.length-i->i<xs.length->xs[i]?=j? x->H2 D=j? (.lst ys)->ys.length<=i->Pv i ys H2->H2 r=q?->g (.ref r) st (upd H2 r (.tup [.int ((NT+i:Nat):Int),x])) λσ3 H3=>o_ σ3 H3 λb H4=>
   if b=true then te σ3 H4 λy H5=>∃ys,H5 D=j? (.lst ys)/\ys.length<K?/\∃m',m'<m/\CW xs.length D Pv (i+1) m' (upd H5 D (.lst (ys++[y]))) else ∃m',m'<m/\CW xs.length D Pv (i+1) m' H4)
  (hd:∀ys H2,H2 D=j? (.lst ys)->Pv xs.length ys H2->Q (.ref D) H2):
  q_ (Pj K a NT) D st g o_ te Q H1:=by
 refine⟨CW xs.length D Pv,⟨xs.length,by simp,Y1 _,[],ay,Yd _,h0⟩,?_⟩
 rintro i m H2 ⟨hm,hi,ys,hy,hlen,p⟩;have q:=hl i ys H2 hy p;by_cases hlt:i<xs.length
 ·refine .inr ⟨⟨xs,xs[i],q,by simp[hlt]⟩,λv H' y=>?_⟩
  obtain⟨r,x,e1,hr,hx,e2⟩:=y;subst e1 e2;exact hs i m x ys _ r hm hlt (hx xs q) hy hlen p hr
 ·have e:i=xs.length:=by omega
  subst e;exact .inl ⟨⟨xs,q,Yd _⟩,hd ys H2 hy p⟩
def Pk (top:Int)(n:Nat):It:=⟨λi _=>i<n,λi H x H'=>H'=H/\x=.int (top-i),λi _=>n<=i⟩
theorem tN {P:F?}{w:H?}{K:bM}{tg:Expr}(it:o?)(top:Int)(n:Nat):Turn P w K tg (Pk top n) [it] it (λi h=>IsRangeIter h it (top+(i:Nat)*(-1)) ((n:Int)-(i:Nat)) (-1)) where
 mem:=by simp
 obj:=λi h st b hb=>by
  have e:b=it:=by simpa using hb
  subst e;exact⟨_,st,λv z=>by
   have z':Data.fields _=Data.cell v:=z;cases z'⟩
 keep:=λi h h' st k=>k it (by simp) _ st
 item:=by
  intro X hP hw hK hc i pins s σ H E I hf st hg;subst hP hw hK;obtain⟨f0,f1,f2,f3,f4,f5⟩:=hf it (by simp)
  have W:=Walks.range (prog:=X.prog) (w:=X.w) (I.ok.hd hc) it top (-1) n;refine W.item i s _ _ hg st λv h' tk hv st' kk=>?_
  obtain⟨t,rfl⟩:=hv;have I1:Inv X pins σ H { s with heap:=h',toks:=tk }:=I.turned (λb o hb e=>kk b o (by simpa using hb) e) f0 f1 f3 f4 f5
  refine⟨_,rfl,Ia (s:={ s with heap:=h',toks:=tk }) (n:="range_iterator") st' rfl rfl (by decide) ⟨.int (top-i),H,I1,⟨t,?_⟩,⟨rfl,rfl⟩,st',λb hb=>(hf b hb).1⟩⟩
  have e:top+(i:Int)*(-1)=top-(i:Int):=by omega
  rw[e]
 done:=by
  intro X hP hw hK hc i pins s σ H E I hf st hg;subst hP hw hK;obtain⟨f0,f1,f2,f3,f4,f5⟩:=hf it (by simp)
  exact wpAny_pyNext_range_end (I.ok.hd hc) st (by have:n<=i:=hg;omega) λh' eb=>⟨rfl,I.turned (t':=s.toks) (λb o hb e=>eb b o hb e) f0 f1 f3 f4 f5⟩
 self:=λ_ _ _ _ _ st h=>wpAny_pyIter_rangeiter st h
theorem II (hi:Int):Builtin.Range.rangeSize 0 hi 1=if 0<hi then hi else 0:=by
 rw[rangeSize_one];by_cases h:0<hi
 ·rw[Ja h,Ja h];omega
 ·rw[W9 h,W9 h]
theorem uY:isSubtype (.type "range_iterator") (.type "reversed")=pure false:=by rw[isSubtype_type];kernel_rfl
theorem uZ (r:o?)(a b c:Int)(t u v:Tok)(hc0:¬ (!(Builtin.Range.rangeFitsLong a && Builtin.Range.rangeFitsLong b && Builtin.Range.rangeFitsLong c && Builtin.Range.rangeFitsLong (-c) && Builtin.Range.rangeFitsLong (a-c) && Builtin.Range.rangeFitsLong (Builtin.Range.rangeSize a b c)))=true):
  Meets (Builtin.«range.__reversed__» ⟨[.ref r],[]⟩) (λ_ R s=>s.heap.get? r=j? { cls:=.type "range",dict:=q?,data:=.fields #[.int a t,.int b u,.int c v],slots:=#[] }/\
   R (.ok (.ret (I! s.heap.objs.size))) { s with heap:=s.heap.push { cls:=Value.type (if (Builtin.Range.rangeFitsLong a && Builtin.Range.rangeFitsLong b && Builtin.Range.rangeFitsLong c && Builtin.Range.rangeFitsLong (-c) && Builtin.Range.rangeFitsLong (a-c) && Builtin.Range.rangeFitsLong (Builtin.Range.rangeSize a b c))=true then "range_iterator" else "longrange_iterator"),data:=Data.fields #[rawInt (a+(Builtin.Range.rangeSize a b c-1)*c),rawInt (Builtin.Range.rangeSize a b c),rawInt (-c)] },toks:=s.toks }):=
 .of_wp λprog w A R s h=>by obtain⟨hp,g,d,tk,os⟩:=s;obtain⟨hl,h⟩:=h;wp_walk;exact⟨_,rfl,h⟩
section
variable {prog:F?} {w:H?} {A:A!} {E:l?->u?->Prop} {s:u?}
theorem qb {x:Int}(h1:-(2 ^ 62)-2<=x)(h2:x<=2 ^ 62+2):Builtin.Range.rangeFitsLong x=true:=by
 unfold Builtin.Range.rangeFitsLong;simp only[T?,decide_eq_true_eq]
 omega
theorem wg {r:o?}{hi:Int}{t u v:Tok}{Q:l?->u?->Prop}(hr:IsRange s.heap r 0 hi 1 t u v)(h3:-(2 ^ 62)<=hi)(h4:hi<2 ^ 62)
  (h:Q (.ref s.heap.objs.size) { s with heap:=s.heap.push { cls:=.type "range_iterator",data:=.fields #[rawInt (0+((if 0<hi then hi else 0)-1)*1),rawInt (if 0<hi then hi else 0),rawInt (-1)] } }):
  L? (S? prog w) A (call (.builtin "range.__reversed__") [.ref r]) Q E s:=by
 have hs:(Builtin.Range.rangeFitsLong 0 && Builtin.Range.rangeFitsLong hi && Builtin.Range.rangeFitsLong 1 && Builtin.Range.rangeFitsLong (-1) && Builtin.Range.rangeFitsLong (0-1) && Builtin.Range.rangeFitsLong (Builtin.Range.rangeSize 0 hi 1))=true:=by
  rw[II];simp only[T?]
  refine⟨⟨⟨⟨⟨qb (by decide) (by decide),qb (by omega) (by omega)⟩,qb (by decide) (by decide)⟩,qb (by decide) (by decide)⟩,qb (by decide) (by decide)⟩,?_⟩
  split
  ·exact qb (by omega) (by omega)
  ·exact qb (by decide) (by decide)
 refine call_meets PySem.F.slot_range_reversed ⟨_,hr,rfl⟩ PySem.F.entry_range_reversed (PySem.F.args_range_reversed_1 _) (uZ r 0 hi 1 t u v (by rw[hs];simp)) ⟨hr,?_⟩
 rw[hs,II];simp only[if_true]
 exact h
theorem rF {r:o?}{hi:Int}{t u v:Tok}{Q1:l?->u?->Prop}(hr:IsRange s.heap r 0 hi 1 t u v)(h3:-(2 ^ 62)<=hi)(h4:hi<2 ^ 62)
  (h:Q1 (.ref s.heap.objs.size) { s with heap:=s.heap.push { cls:=.type "range_iterator",data:=.fields #[rawInt (0+((if 0<hi then hi else 0)-1)*1),rawInt (if 0<hi then hi else 0),rawInt (-1)] } }):
  codeAny (S? prog w) A (.call (.builtin "reversed.__new__") ⟨[.type "reversed",.ref r],[]⟩) (wants Q1 E) s:=by
 have hT:s.TypeIs (.ref r) "range":=⟨_,hr,rfl⟩;refine codeAny_of_tree ?_
 show L? _ A.in1 (do checkBuiltinCall "reversed.__new__" ⟨[.type "reversed",.ref r],[]⟩;again (.builtin "reversed.__new__" ⟨[.type "reversed",.ref r],[]⟩)) _ _ s
 refine B? (wpAny_of_eq (PySem.F.newCall_reversed_1 _) (J? ⟨plainId_quiet PySem.F.plain_reversed_new _,codeAny_builtin PySem.F.entry_reversed_new ?_⟩))
 rw[Around.under_plainId PySem.F.plain_reversed_new _];unfold Builtin.«reversed.__new__»;refine B? (wpAny_of_eq (newClass_reversed _) ?_)
 try dsimp only
 refine B? (wpAny_of_eq (a:=()) (by first|rfl|kernel_rfl) ?_)
 refine B? (wpAny_of_eq (a:=()) (by first|rfl|kernel_rfl) ?_)
 try dsimp only
 refine B? (wpAny_specialOf hT PySem.F.slot_range_reversed.lookup ?_)
 try dsimp only
 refine B? (wpAny_of_eq (PySem.F.slot_range_reversed.bind _) ?_)
 try dsimp only
 have nn:¬ ((Value.builtin "range.__reversed__" == Value.none)=true):=E?;rw[W9 nn];refine B? (wpAny_rule ?_)
 refine B? (m:=runValue (.call (.builtin "range.__reversed__") ⟨[.ref r],[]⟩)) (show L? _ _ (call (.builtin "range.__reversed__") [.ref r]) _ _ _ from wg hr h3 h4 ?_)
 first
 | exact J? h
 | exact B? (J? (J? h))
theorem pq {r:o?}{hi:Int}{t u v:Tok}{Q:l?->u?->Prop}(hr:IsRange s.heap r 0 hi 1 t u v)(h3:-(2 ^ 62)<=hi)(h4:hi<2 ^ 62)
  (h:Q (.ref s.heap.objs.size) { s with heap:=s.heap.push { cls:=.type "range_iterator",data:=.fields #[rawInt (0+((if 0<hi then hi else 0)-1)*1),rawInt (if 0<hi then hi else 0),rawInt (-1)] } }):
  L? (S? prog w) A (call (.type "reversed") [.ref r]) Q E s:=by
 refine callType_other (U:="range_iterator") (Q₁:=λobj s₁=>obj=.ref s.heap.objs.size/\s₁={ s with heap:=s.heap.push { cls:=.type "range_iterator",data:=.fields #[rawInt (0+((if 0<hi then hi else 0)-1)*1),rawInt (if 0<hi then hi else 0),rawInt (-1)] } })
  (by decide +kernel) PySem.F.create_reversed ⟨_,_,PySem.F.mro_reversed⟩ PySem.F.made_reversed uY (PySem.F.typeCall_reversed_1 _) (rF hr h3 h4 ⟨rfl,rfl⟩) ?_
 rintro obj s1 ⟨rfl,rfl⟩;exact⟨⟨_,Y0 _ rfl,rfl⟩,h⟩
end
section
variable {X:Cx} {tg:Expr}
def Vp (ta:TA):TE:=λσ H Q=>ta σ H λvs H1=>∃j:Int,vs=[.int j]/\∀p,H1 p=q?->Q (.ref p) (upd H1 p (.oZ 0 j))
theorem wj {a:Expr}{ta:TA}{p pos:Pos}(hg:Gl X "range")(hm:X.mg "range"=q?)(ha:PA X [a] ta)(hs:I? [a] X.env=[(false,eval a X.env)]:=by rfl):PE X (.Call (.Name "range" p) [a] [] pos) (Vp ta):=by
 refine⟨?_⟩
 intro pins s σ H Q I h;refine Call_ (jD I hg hm boot_range (L! (eV (ha pos pins s σ H _ I h) λus s1 ⟨vs,H1,I1,r1,q1⟩=>?_) hs rfl))
 obtain⟨j,e,q⟩:=q1;subst e;obtain⟨u,rfl,ru⟩:=vals1 r1;obtain⟨t,rfl⟩:=(show ∃t,u=Value.int j t from ru)
 refine call_range_1 ?_
 exact⟨.ref s1.heap.objs.size,_,I1.laid (o:=.oZ 0 j) (λb o e=>Yh _ e) (Yd _) ⟨_,_,_,Y0 _ rfl⟩,rfl,q _ I1.fresh⟩
def Sh (ta:TA):TI:=λσ H R=>ta σ H λvs H1=>∃a,∃n:Int,vs=[.ref a]/\H1 a=j? (.oZ 0 n)/\-(2 ^ 62)<=n/\n<2 ^ 62/\R (Pk (n-1) n.toNat) H1
theorem zU {l:Expr}{ta:TA}{p pos:Pos}(hg:Gl X "reversed")(hm:X.mg "reversed"=q?)(ha:PA X [l] ta)(hs:I? [l] X.env=[(false,eval l X.env)]:=by rfl):
  PI X tg (.Call (.Name "reversed" p) [l] [] pos) (Sh ta):=by
 intro pins s σ H R I h;refine Call_ (jD I hg hm boot_reversed (L! (eV (ha pos pins s σ H _ I h) λus s1 ⟨vs,H1,I1,r1,q1⟩=>?_) hs rfl))
 obtain⟨a,n,e,hq,h1,h2,q⟩:=q1;subst e;obtain⟨u,rfl,ru⟩:=vals1 r1;cases (show u=I! a from ru)
 obtain⟨t,u,v,hr⟩:=I1.hok a _ hq;refine pq hr h1 h2 ?_
 have en:((n.toNat:Nat):Int)=if 0<n then n else 0:=by split <;> omega
 have hit:IsRangeIter (s1.heap.push { cls:=.type "range_iterator",data:=.fields #[rawInt (0+((if 0<n then n else 0)-1)*1),rawInt (if 0<n then n else 0),rawInt (-1)] }) s1.heap.objs.size (0+((if 0<n then n else 0)-1)*1) (if 0<n then n else 0) (-1):=Y0 _ rfl
 refine wpAny_pyIter_rangeiter (s:={ s1 with heap:=_ }) hit ?_
 by_cases hn:0<n
 ·rw[Ja hn] at en hit ⊢
  refine⟨_,[s1.heap.objs.size],_,_,H1,rfl,I1.kept (t':=s1.toks) λb o e=>Yh _ e,tN s1.heap.objs.size (n-1) n.toNat,?_,λb hb=>?_,q⟩
  ·have e1:n-1+((0:Nat):Int)*(-1)=0+(n-1)*1:=by omega
   have e2:((n.toNat:Nat):Int)-((0:Nat):Int)=n:=by omega
   show IsRangeIter _ _ (n-1+((0:Nat):Int)*(-1)) (((n.toNat:Nat):Int)-((0:Nat):Int)) (-1)
   rw[e1,e2];exact hit
  ·have e:b=s1.heap.objs.size:=by simpa using hb
   subst e;exact I1.uW (Yd _) (I1.hok.fresh (Yd _))
 ·rw[W9 hn] at en hit ⊢
  have e0:n.toNat=0:=by omega
  rw[e0] at q;have tr:Turn X.prog X.w X.K tg (Pk (n-1) 0) [s1.heap.objs.size] s1.heap.objs.size (λi h=>IsRangeIter h s1.heap.objs.size (-1+(i:Nat)*(-1)) (((0:Nat):Int)-(i:Nat)) (-1)):=by
   have T:=tN (P:=X.prog) (w:=X.w) (K:=X.K) (tg:=tg) s1.heap.objs.size (-1) 0;exact⟨T.mem,T.obj,T.keep,λX a b c d i pins s σ H E I hf st hg=>Jg (show i<0 from hg) (Zb _),T.done,T.self⟩
  refine⟨_,[s1.heap.objs.size],_,_,H1,rfl,I1.kept (t':=s1.toks) λb o e=>Yh _ e,tr,hit,λb hb=>?_,q⟩
  have e:b=s1.heap.objs.size:=by simpa using hb
  subst e;exact I1.uW (Yd _) (I1.hok.fresh (Yd _))
end
theorem rG {top:Int}{n:Nat}{g:TG}{tb:TS}{D:Ends}{σ:St}{H:Hp}(Pv:Nat->St->Hp->Prop)(h0:Pv 0 σ H)
  (hs:∀i σ H,i<n->Pv i σ H->g (.int (top-i)) σ H λσ2 H2=>tb { D with nx:=Pv (i+1),ct:=Pv (i+1),bk:=D.nx } σ2 H2) (hd:∀σ H,Pv n σ H->D.nx σ H):
  ∃W:Nat->Nat->St->Hp->Prop,(∃m,W 0 m σ H)/\∀i m σ H,W i m σ H->
   ((Pk top n).stop i H/\D.nx σ H)\/((Pk top n).go i H/\∃N:St->Hp->Prop,(∀σ' H',N σ' H'->∃m',m'<m/\W (i+1) m' σ' H')/\∀x H',(Pk top n).NK i H x H'->g x σ H' λσ2 H2=>tb { D with nx:=N,ct:=N,bk:=D.nx } σ2 H2):=by
 refine⟨λi m σ H=>m=n-i/\i<=n/\Pv i σ H,⟨n,by simp,Y1 _,h0⟩,?_⟩
 rintro i m σ H ⟨rfl,hi,p⟩;by_cases hlt:i<n
 ·refine .inr ⟨hlt,Pv (i+1),λσ' H' p'=>⟨n-(i+1),by omega,rfl,hlt,p'⟩,λx H' y=>?_⟩
  obtain⟨e,y⟩:=y;subst e y;exact hs i σ _ hlt p
 ·have e:i=n:=by omega
  subst e;exact .inl ⟨Yd _,hd σ H p⟩
def XT (tb:TS)(D:Ends)(Pv:St->Hp->Prop)(μ:St->Hp->Nat)(m:Nat)(σ:St)(H1:Hp):Prop:=
 ∃N:St->Hp->Prop,(∀σ' H',N σ' H'->∃m',m'<m/\(m'=μ σ' H'/\Pv σ' H'))/\tb { D with nx:=N,ct:=N,bk:=D.nx } σ H1
theorem win {tb:TS}{D:Ends}{Pv:St->Hp->Prop}{μ:St->Hp->Nat}{m:Nat}{σ:St}{H1:Hp}(h:tb { D with nx:=λσ' H'=>Pv σ' H'/\μ σ' H'<m,ct:=λσ' H'=>Pv σ' H'/\μ σ' H'<m,bk:=D.nx } σ H1):XT tb D Pv μ m σ H1:=
 ⟨_,λσ' H' ⟨p,l⟩=>⟨_,l,rfl,p⟩,h⟩
theorem jI {c:TT}{tb:TS}{D:Ends}{σ:St}{H:Hp}(Pv:St->Hp->Prop)(μ:St->Hp->Nat)(h0:Pv σ H)
  (hs:∀σ H,Pv σ H->c σ H λb H1=>if b=true then XT tb D Pv μ (μ σ H) σ H1 else D.nx σ H1):Dd c tb D σ H:=by
 refine⟨λm σ H=>m=μ σ H/\Pv σ H,⟨_,rfl,h0⟩,?_⟩
 rintro m σ H ⟨rfl,p⟩;exact hs σ H p
theorem merge {C:St->Hp->Prop}{G:Prop}(M:St->Hp->Prop)(h1:(∀σ H,M σ H->C σ H)->G)(h2:∀σ H,M σ H->C σ H):G:=h1 h2
def aq (f:List Int)(i:Nat):Int:=f.getD i 0
theorem gR (i:Nat):aq [] i=0:=by simp[aq]
theorem bF {f:List Int}{i:Nat}(h:f.length<=i):aq f i=0:=by
 unfold aq;rw[Yb,Wq h];rfl
theorem d_ {f:List Int}{i:Nat}(h:i<f.length):aq f i=f[i]:=by
 unfold aq;rw[Yb,Yc h];rfl
theorem rH {f:List Int}{i:Nat}{x:Int}(h:f[i]?=j? x):aq f i=x:=by
 unfold aq;rw[Yb,h];rfl
theorem rJ {f g:List Int}(hl:f.length=g.length)(h:∀i,i<f.length->aq f i=aq g i):f=g:=by
 refine List.ext_getElem hl λi h1 h2=>?_
 rw[<- d_ h1,<- d_ h2];exact h i h1
theorem nA {n:Nat}{c:Nat->Int}{i:Nat}(h:i<n):aq ((Yj n).map c) i=c i:=by
 rw[d_ (by simpa using h)]
 simp
theorem gi {n:Nat}{c:Nat->Int}(hc:∀i,n<=i->c i=0)(i:Nat):aq ((Yj n).map c) i=c i:=by
 by_cases h:i<n
 ·exact nA h
 ·rw[bF (by simp;omega),hc i (by omega)]
theorem nC {f:List Int}{k:Nat}{v:Int}(hk:k<f.length)(i:Nat):aq (f.set k v) i=if i=k then v else aq f i:=by
 unfold aq;rw[Yb,List.getElem?_set];by_cases h:k=i
 ·subst h
  simp[hk]
 ·rw[W9 h,W9 (Ne.symm h),Yb]
theorem GC {f:List Int}{n i:Nat}(h:i<n):aq (f.take n) i=aq f i:=by
 unfold aq;rw[Yb,List.getElem?_take,Ja h,Yb]
theorem zV {f:List Int}{n i:Nat}(h:n<=i):aq (f.take n) i=0:=bF (by rw[Yt];omega)
theorem IJ {f:List Int}{g:Int->Int}(h0:g 0=0)(i:Nat):aq (f.map g) i=g (aq f i):=by
 by_cases h:i<f.length
 ·rw[d_ (by simpa using h),d_ h];simp
 ·rw[bF (by simp;omega),bF (by omega),h0]
theorem j_ {f g:List Int}(i:Nat):aq (f++g) i=if i<f.length then aq f i else aq g (i-f.length):=by
 unfold aq;rw[Yb,List.getElem?_append];split
 ·rw[Yb]
 ·rw[Yb]
theorem cM (n i:Nat):aq (Yo n 0) i=0:=by
 by_cases h:i<n
 ·rw[d_ (by simpa using h)];simp
 ·exact bF (by simp;omega)
theorem Bo (f:List Int)(n i:Nat):aq (f++Yo n 0) i=aq f i:=by
 rw[j_];split
 ·rfl
 ·rw[cM,bF (by omega)]
def ir (f:List Int):Nat->Nat
 | 0=>0
 | n+1=>if aq f n=0 then ir f n else n+1
def trim (f:List Int):List Int:=f.take (ir f f.length)
def Norm (f:List Int):Prop:=f=[]\/aq f (f.length-1)≠0
theorem rK (f:List Int):∀n,ir f n<=n
 | 0=>Yd _
 | n+1=>by
  unfold ir;split
  ·exact Nat.le_succ_of_le (rK f n)
  ·exact Yd _
theorem Bp (f:List Int):∀n,ir f n=0\/aq f (ir f n-1)≠0
 | 0=>.inl rfl
 | n+1=>by
  unfold ir;split
  ·exact Bp f n
  ·rename_i h;exact .inr h
theorem zb (f:List Int):∀n i,ir f n<=i->i<n->aq f i=0
 | 0,i,_,h=>Jg h (Zb _)
 | n+1,i,h1,h2=>by
  unfold ir at h1;split at h1
  ·rename_i h
   by_cases e:i=n
   ·rw[e];exact h
   ·exact zb f n i h1 (by omega)
  ·omega
theorem gH (f:List Int):(trim f).length=ir f f.length:=by
 unfold trim;rw[Yt,Nat.min_eq_left (rK f _)]
theorem eo (f:List Int)(i:Nat):aq (trim f) i=aq f i:=by
 unfold trim;by_cases h:i<ir f f.length
 ·exact GC h
 ·rw[zV (by omega)]
  by_cases h2:i<f.length
  ·exact(zb f _ i (by omega) h2).symm
  ·exact(bF (by omega)).symm
theorem jy (f:List Int):Norm (trim f):=by
 rcases Bp f f.length with h|h
 ·left
  have:(trim f).length=0:=by rw[gH];exact h
  exact List.length_eq_zero_iff.mp this
 ·right
  rw[eo,gH];exact h
theorem rL {f g:List Int}(hf:Norm f)(hg:Norm g)(h:∀i,aq f i=aq g i):f=g:=by
 have key:∀ {f g:List Int},Norm f->(∀i,aq f i=aq g i)->f.length<=g.length:=by
  intro f g hf h;rcases hf with rfl|hf
  ·exact Y1 _
  ·refine V? λhn=>hf ?_
   rw[h];exact bF (by omega)
 have hl:f.length=g.length:=Nat.le_antisymm (key hf h) (key hg λi=>(h i).symm)
 exact rJ hl λi _=>h i
theorem IK {f g:List Int}(h:∀i,aq f i=aq g i):trim f=trim g:=rL (jy f) (jy g) λi=>by rw[eo,eo,h]
theorem GD {f:List Int}(h:Norm f):trim f=f:=rL (jy f) h λi=>eo f i
theorem Norm.last {f:List Int}(h:Norm f)(hne:f≠[]):aq f (f.length-1)≠0:=by
 rcases h with h|h
 ·exact Jg h hne
 ·exact h
def IL (f g:List Int):List Int:=(Yj (max f.length g.length)).map λi=>aq f i+aq g i
theorem GF (f g:List Int)(i:Nat):aq (IL f g) i=aq f i+aq g i:=
 gi (λi h=>by rw[bF (by omega),bF (by omega)];rfl) i
def rM (f g:List Int):List Int:=trim (IL f g)
theorem oE (f g:List Int)(i:Nat):aq (rM f g) i=aq f i+aq g i:=by
 unfold rM;rw[eo,GF]
theorem oF (f g:List Int):Norm (rM f g):=jy _
def f7 (f g:List Int):Nat->Nat->Int
 | 0,_=>0
 | i+1,m=>f7 f g i m+(if i<=m then aq f i*aq g (m-i) else 0)
def conv (f g:List Int)(m:Nat):Int:=f7 f g f.length m
def pM (f g:List Int)(i j m:Nat):Int:=f7 f g i m+(if i<=m/\m-i<j then aq f i*aq g (m-i) else 0)
theorem wk (f g:List Int)(i m:Nat):pM f g i 0 m=f7 f g i m:=by
 unfold pM;rw[W9 (by omega),Zm]
theorem zd (f g:List Int)(i m:Nat):pM f g i g.length m=f7 f g (i+1) m:=by
 show _=f7 f g i m+_
 unfold pM;congr 1
 by_cases h:i<=m
 ·by_cases h2:m-i<g.length
  ·rw[Ja ⟨h,h2⟩,Ja h]
  ·rw[W9 (by omega),Ja h,bF (f:=g) (by omega),Y6]
 ·rw[W9 (by omega),W9 h]
theorem wm (f g:List Int)(i j m:Nat):pM f g i (j+1) m=if m=i+j then pM f g i j m+aq f i*aq g j else pM f g i j m:=by
 unfold pM;by_cases h:m=i+j
 ·subst h
  have e:i+j-i=j:=by omega
  rw[Ja rfl,Ja ⟨by omega,by omega⟩,W9 (by omega),e]
  omega
 ·rw[W9 h]
  congr 1
  by_cases h1:i<=m/\m-i<j
  ·rw[Ja h1,Ja ⟨h1.1,by omega⟩]
  ·rw[W9 h1,W9 (by omega)]
theorem uQ (f g:List Int):∀(i m:Nat),f.length<=i->f7 f g i m=f7 f g f.length m
 | 0,m,h=>by
  have:f.length=0:=by omega
  rw[this]
 | i+1,m,h=>by
  by_cases e:f.length=i+1
  ·rw[e]
  ·show f7 f g i m+_=_
   rw[uQ f g i m (by omega),bF (f:=f) (i:=i) (by omega)]
   simp
theorem tO (f g:List Int):∀(i m:Nat),(∀a,a<i->a<=m->aq f a*aq g (m-a)=0)->f7 f g i m=0
 | 0,m,_=>rfl
 | i+1,m,h=>by
  show f7 f g i m+_=0
  rw[tO f g i m λa h1 h2=>h a (by omega) h2]
  by_cases hi:i<=m
  ·rw[Ja hi,h i (by omega) hi];rfl
  ·rw[W9 hi];rfl
theorem nE (f g:List Int)(m:Nat)(h:f.length+g.length<=m+1):conv f g m=0:=
 tO f g f.length m λa h1 h2=>by rw[bF (f:=g) (by omega),Y6]
def eO (f g:List Int):List Int:=if f=[]\/g=[] then [] else (Yj (f.length+g.length-1)).map (conv f g)
theorem oG (f g:List Int)(m:Nat):aq (eO f g) m=conv f g m:=by
 unfold eO;by_cases h:f=[]\/g=[]
 ·rw[Ja h,gR]
  rcases h with rfl|rfl
  ·rfl
  ·exact(tO f [] f.length m λa _ _=>by rw[gR,Y6]).symm
 ·rw[W9 h]
  refine gi (λi hi=>nE f g i ?_) m
  have:0<f.length:=List.length_pos_iff.mpr λz=>h (.inl z)
  omega
def fY (m:Nat)(f:List Int):Prop:=∀x∈f,Bd m x
theorem fY.aq {m:Nat}{f:List Int}(h:fY m f)(i:Nat):Bd m (aq f i):=by
 by_cases hi:i<f.length
 ·rw[d_ hi];exact h _ (Yz hi)
 ·rw[bF (by omega)]
  show Zo 0<2 ^ m
  exact Zu (by decide)
theorem fY.mono {m n:Nat}{f:List Int}(h:fY m f)(hmn:m<=n):fY n f:=λx hx=>(h x hx).mono hmn
theorem wo {m:Nat}{f:List Int}(h:∀i,i<f.length->Bd m (aq f i)):fY m f:=λx hx=>by
 obtain⟨i,hi,rfl⟩:=Wd hx;rw[<- d_ hi];exact h i hi
theorem fY.trim {m:Nat}{f:List Int}(h:fY m f):fY m (trim f):=λx hx=>h x (List.mem_of_mem_take hx)
theorem Fd (m:Nat):Bd m 0:=Zu (by decide)
theorem fY.f7 {m n:Nat}{f g:List Int}(hf:fY m f)(hg:fY n g):∀(i k:Nat),Bd (m+n+i) (f7 f g i k)
 | 0,k=>Fd _
 | i+1,k=>by
  have ih:=fY.f7 hf hg i k;have h2:Bd (m+n+i) (if i<=k then L2.aq f i*L2.aq g (k-i) else 0):=by
   split
   ·exact((hf.aq i).mul (hg.aq (k-i))).mono (by omega)
   ·exact Fd _
  exact(ih.add h2).mono (by omega)
theorem fY.eO {m n:Nat}{f g:List Int}(hf:fY m f)(hg:fY n g):fY (m+n+f.length) (eO f g):=wo λi _=>by
 rw[oG];exact fY.f7 hf hg _ _
def Pn (H:Hp)(Q:VK)(ns:List Int):Prop:=∀p H',aF H H'->H p=q?->H' p=j? (.lst (ns.map V.int))->Q (.ref p) H'
theorem tQ (ns:List Int)(k:Nat)(h:k<=ns.length):iX (ns.map V.int) q? (j? (k:Int))=(ns.take k).map V.int:=by
 unfold iX;have e1:HT.qU (ns.map V.int).length 0 q?=0:=rfl;have e2:HT.qU (ns.map V.int).length (ns.map V.int).length (j? (k:Int))=k:=by
  rw[HT.lN,Ya];omega
 rw[e1,e2];simp
theorem rN (n:Nat):(Yo n [V.int 0]).flatten=(Yo n (0:Int)).map V.int:=by
 induction n with
 | zero=>rfl
 | succ n ih=>rw[Zx,Wt,ih,Zx];rfl
theorem aS {ns:List Int}{i:Nat}{x:V}(h:(ns.map V.int)[i]?=j? x):∃n,ns[i]?=j? n/\x=.int n:=by
 rw[Ye] at h;cases e:ns[i]? with
 | none=>rw[e] at h;cases h
 | some n=>rw[e] at h;exact⟨n,rfl,(M? h).symm⟩
theorem qc {ns:List Int}{i:Nat}(h:i<ns.length):(ns.map V.int)[i]?=j? (.int (aq ns i)):=by
 rw[Ye,Yc h,d_ h];rfl
theorem eT {ns:List Int}{i:Int}(h0:0<=i)(h1:i<(ns.length:Int)):qV (ns.map V.int) i=j? (.int (aq ns i.toNat)):=by
 have hi:i.toNat<(ns.map V.int).length:=by rw[Ya];omega
 rw[iY h0 hi];rw[d_ (by rw[Ya] at hi;exact hi)]
 simp
theorem iZ (ns:List Int)(i:Nat)(v:Int):(ns.map V.int).set i (.int v)=(ns.set i v).map V.int:=by rw[List.map_set]
theorem rO {n:Nat}{k:Int}(h0:0<=k)(h1:k<(n:Int)):LL n k=j? k.toNat:=by
 unfold LL;rw[Ja h0];first
  | rw[Ja h1]
  | rw[Ja (by omega)]
def NU (K:bM):V->V->Hp->VK->Prop:=λx y H Q=>∃p xs i v,x=.ref p/\y=.int i/\aO K H p xs/\0<=i/\xs[i.toNat]?=j? v/\Q v H
theorem IM {X:Cx}:OU X (NU X.K):=by
 intro pins s σ H o i ov iv Q I ro ri h;obtain⟨p,xs,k,v,rfl,rfl,hq,h0,hx,q⟩:=h;cases ro;obtain⟨t,rfl⟩:=ri;obtain⟨its,r,pl,hz⟩:=I.list hq;obtain⟨u,hu,ru⟩:=r.get hx;have hl:=r.length;have hi:k.toNat<its.length:=(List.getElem?_eq_some_iff.mp hu).1;have hn:=vY;exact wpAny_getItem_list pl.isList h0 (by omega) (by simpa using hu) ⟨v,H,I,ru,q⟩
theorem ze {X:Cx}{K:bM}(h:X.K=K):OU X (NU K):=by subst h;exact IM
theorem Bq {ns:List Int}(h:ns≠[]):qV (ns.map V.int) (-1)=j? (.int (aq ns (ns.length-1))):=by
 have hl:0<ns.length:=List.length_pos_iff.mpr h;unfold qV LL;rw[W9 (by decide),Ja (by rw[Ya];omega),Ya]
 have e:(-1+(ns.length:Int)).toNat=ns.length-1:=by omega
 show(ns.map V.int)[(-1+(ns.length:Int)).toNat]?=_
 rw[e];exact qc (by omega)
theorem fY.snoc {m:Nat}{f:List Int}{x:Int}(h:fY m f)(hx:Bd m x):fY m (f++[x]):=λy hy=>by
 rcases List.mem_append.mp hy with z|z
 ·exact h y z
 ·have:y=x:=by simpa using z
  rw[this];exact hx
theorem rP (f:List Int)(x:Int):f.map V.int++[V.int x]=(f++[x]).map V.int:=by simp
theorem wu (ns:List Int)(k:Nat):iX (ns.map V.int) q? (j? (k:Int))=(ns.take k).map V.int:=by
 by_cases h:k<=ns.length
 ·exact tQ ns k h
 ·unfold iX
  have e1:HT.qU (ns.map V.int).length 0 q?=0:=rfl;have e2:HT.qU (ns.map V.int).length (ns.map V.int).length (j? (k:Int))=ns.length:=by
   rw[HT.lN,Ya];omega
  rw[e1,e2,Zv (by simp),Zv (by omega)]
  simp
theorem wz (f g:List Int):∀(i m:Nat),m+1<=i->f7 f g i m=f7 f g (m+1) m
 | 0,m,h=>Jg h (by omega)
 | i+1,m,h=>by
  by_cases e:m=i
  ·rw[e]
  ·show f7 f g i m+_=_
   rw[wz f g i m (by omega),W9 (by omega),Zm]
theorem rQ (f g:List Int)(m:Nat):conv f g m=f7 f g (m+1) m:=by
 unfold conv;by_cases h:f.length<=m+1
 ·exact(uQ f g (m+1) m h).symm
 ·exact wz f g f.length m (by omega)
theorem wA {f f' g g':List Int}(hf:∀a,aq f a=aq f' a)(hg:∀a,aq g a=aq g' a):∀(i m:Nat),f7 f g i m=f7 f' g' i m
 | 0,m=>rfl
 | i+1,m=>by
  show f7 f g i m+_=f7 f' g' i m+_
  rw[wA hf hg i m,hf,hg]
theorem qe {f f' g g':List Int}(hf:∀a,aq f a=aq f' a)(hg:∀a,aq g a=aq g' a)(m:Nat):conv f g m=conv f' g' m:=by
 rw[rQ,rQ,wA hf hg]
theorem Br {u f g:List Int}{t:Nat}{c:Int}(hc:∀a,aq u a=aq f a+if a=t then c else 0):∀(i m:Nat),f7 u g i m=f7 f g i m+if t<i/\t<=m then c*aq g (m-t) else 0
 | 0,m=>by
  rw[W9 (by omega)];simp[f7]
 | i+1,m=>by
  show f7 u g i m+_=f7 f g i m+_+_
  rw[Br hc i m,hc];by_cases hi:i<=m
  ·rw[Ja hi,Ja hi]
   by_cases e:i=t
   ·subst e
    rw[W9 (by omega),Ja rfl,Ja ⟨by omega,hi⟩,Int.add_mul]
    omega
   ·rw[W9 e,Zm]
    by_cases h2:t<i/\t<=m
    ·rw[Ja h2,Ja ⟨by omega,h2.2⟩];omega
    ·rw[W9 h2,W9 (by omega)];omega
  ·rw[W9 hi,W9 hi]
   by_cases h2:t<i/\t<=m
   ·rw[Ja h2,Ja ⟨by omega,h2.2⟩];omega
   ·rw[W9 h2,W9 (by omega)]
theorem IP {u f g:List Int}{t:Nat}{c:Int}(hc:∀a,aq u a=aq f a+if a=t then c else 0)(m:Nat):conv u g m=conv f g m+if t<=m then c*aq g (m-t) else 0:=by
 rw[rQ,rQ,Br hc];congr 1
 by_cases h:t<=m
 ·rw[Ja h,Ja ⟨by omega,h⟩]
 ·rw[W9 h,W9 (by omega)]
def dM (g:List Int):Prop:=g≠[]/\aq g (g.length-1)=1
theorem wB {f:List Int}{d:Nat}:∀n,(∀m,d<=m->m<n->aq f m=0)->ir f n<=d
 | 0,_=>Y1 _
 | n+1,h=>by
  unfold ir;split
  ·exact wB n λm h1 h2=>h m h1 (by omega)
  ·rename_i hne
   refine V? λhn=>hne ?_
   exact h n (by omega) (by omega)
structure wC (f g q r:List Int):Prop where
 eq:∀m,aq f m=conv q g m+aq r m
 nq:Norm f->Norm q
 nr:Norm r
 len:r.length<g.length
 lq:q.length=f.length-(g.length-1)
def HP (N i:Nat)(Qr:List Int):List Int:=Yo (N-i) 0++Qr.reverse
theorem IQ {l:List Int}{i:Nat}(h:i<l.length):aq l.reverse i=aq l (l.length-1-i):=by
 rw[d_ (by rw[Z6];exact h),d_ (by omega)]
 rw[List.getElem_reverse]
theorem IS {N i:Nat}{Qr:List Int}{c:Int}(hl:Qr.length=i)(hi:i<N)(a:Nat):aq (HP N (i+1) (Qr++[c])) a=aq (HP N i Qr) a+if a=N-1-i then c else 0:=by
 unfold HP;have e0:(Qr++[c]).reverse=c::Qr.reverse:=by simp
 rw[e0,j_ (f:=Yo (N-(i+1)) 0),j_ (f:=Yo (N-i) 0),Yp,Yp];by_cases h1:a<N-(i+1)
 ·rw[Ja h1,Ja (by omega),W9 (by omega),cM,cM];rfl
 ·rw[W9 h1]
  by_cases h2:a=N-1-i
  ·rw[Ja h2,Ja (by omega),cM]
   have e:a-(N-(i+1))=0:=by omega
   rw[e];show c=0+c
   omega
  ·rw[W9 h2,W9 (by omega)]
   have e:a-(N-(i+1))=(a-(N-i))+1:=by omega
   rw[e];show aq (c::Qr.reverse) ((a-(N-i))+1)=_
   have:aq (c::Qr.reverse) ((a-(N-i))+1)=aq Qr.reverse (a-(N-i)):=by simp[aq]
   rw[this];omega
theorem Mp {N:Nat}{Qr:List Int}(hl:Qr.length=N):HP N N Qr=Qr.reverse:=by
 unfold HP;rw[W5];rfl
structure wD (f g:List Int)(N i:Nat)(Qr R:List Int):Prop where
 lq:Qr.length=i
 lr:R.length=f.length
 eq:∀m,m<R.length->aq R m=aq f m-conv (HP N i Qr) g m
 top:∀m,f.length-i<=m->m<R.length->aq R m=0
 lead:0<i->aq Qr 0=aq f (f.length-1)
def LO (g:List Int)(R R':List Int)(t:Nat)(lead:Int)(j:Nat):Prop:=R'.length=R.length/\∀m,m<R.length->aq R' m=aq R m-if t<=m/\m-t<j then lead*aq g (m-t) else 0
theorem LO.start (g R:List Int)(t:Nat)(lead:Int):LO g R R t lead 0:=⟨rfl,λm _=>by rw[W9 (by omega)];omega⟩
theorem LO.step {g R R':List Int}{t:Nat}{lead:Int}{j:Nat}(h:LO g R R' t lead j)(hj:t+j<R.length):LO g R (R'.set (t+j) (aq R' (t+j)-lead*aq g j)) t lead (j+1):=by
 refine⟨by rw[Wv];exact h.1,λm hm=>?_⟩
 rw[nC (by rw[h.1];exact hj)]
 by_cases e:m=t+j
 ·subst e
  have e2:t+j-t=j:=by omega
  rw[Ja rfl,Ja ⟨by omega,by omega⟩,h.2 _ hm,W9 (by omega),e2]
  omega
 ·rw[W9 e,h.2 m hm]
  congr 1
  by_cases h1:t<=m/\m-t<j
  ·rw[Ja h1,Ja ⟨h1.1,by omega⟩]
  ·rw[W9 h1,W9 (by omega)]
theorem wD.next {f g Qr R R':List Int}{N i:Nat}(hg:dM g)(hN:N=f.length-(g.length-1))(D:wD f g N i Qr R)(hi:i<N)(h:LO g R R' (N-1-i) (aq R (N-1-i+(g.length-1))) g.length):
  wD f g N (i+1) (Qr++[aq R (N-1-i+(g.length-1))]) R':=by
 have XU:0<g.length:=List.length_pos_iff.mpr hg.1;have lr:=D.lr;have lq:=D.lq;refine⟨by rw[Yi,D.lq];rfl,h.1.trans D.lr,λm hm=>?_,λm h1 h2=>?_,λ_=>?_⟩
 ·rw[h.1] at hm
  rw[h.2 m hm,D.eq m hm,IP (IS (c:=aq R (N-1-i+(g.length-1))) D.lq hi)];have:(if N-1-i<=m/\m-(N-1-i)<g.length then aq R (N-1-i+(g.length-1))*aq g (m-(N-1-i)) else 0)=if N-1-i<=m then aq R (N-1-i+(g.length-1))*aq g (m-(N-1-i)) else 0:=by
   by_cases h1:N-1-i<=m
   ·by_cases h2:m-(N-1-i)<g.length
    ·rw[Ja ⟨h1,h2⟩,Ja h1]
    ·rw[W9 (by omega),Ja h1,bF (f:=g) (by omega),Y6]
   ·rw[W9 (by omega),W9 h1]
  rw[this];omega
 ·have h2':m<R.length:=by rw[h.1] at h2;exact h2
  rw[h.2 m h2'];by_cases e:m=f.length-(i+1)
  ·have e1:m-(N-1-i)=g.length-1:=by omega
   have e2:N-1-i+(g.length-1)=m:=by omega
   rw[Ja ⟨by omega,by omega⟩,e1,hg.2,e2,Wn]
   omega
  ·rw[D.top m (by omega) h2']
   have e1:g.length<=m-(N-1-i):=by omega
   rw[W9 (by omega)]
   rfl
 ·rw[j_]
  by_cases h0:0<i
  ·rw[Ja (by omega)];exact D.lead h0
  ·have e0:i=0:=by omega
   subst e0;rw[W9 (by omega)]
   have e1:N-1-0+(g.length-1)=f.length-1:=by omega
   have Sj:Qr=[]:=List.length_eq_zero_iff.mp D.lq;rw[e1,D.eq _ (by omega)]
   have hz:conv (HP N 0 Qr) g (f.length-1)=0:=by
    rw[qe (f':=[]) (g':=g) (λa=>?_) (λ_=>rfl)]
    ·rfl
    ·unfold HP
     rw[Sj,List.reverse_nil,List.append_nil,cM,gR]
   rw[hz];have:aq [aq f (f.length-1)-0] (0-Qr.length)=aq f (f.length-1)-0:=by rw[Sj];rfl
   rw[this];omega
theorem wD.done {f g Qr R:List Int}{N:Nat}(hg:dM g)(hN:N=f.length-(g.length-1))(D:wD f g N N Qr R):wC f g Qr.reverse (trim R):=by
 have XU:0<g.length:=List.length_pos_iff.mpr hg.1;refine⟨λm=>?_,λnf=>?_,jy R,?_,by rw[Z6,D.lq,hN]⟩
 ·rw[eo]
  by_cases hm:m<R.length
  ·have:=D.eq m hm
   rw[Mp D.lq] at this;omega
  ·have lr:=D.lr
   have lq:=D.lq;rw[bF (f:=f) (by omega),bF (f:=R) (by omega)]
   have hb:conv Qr.reverse g m=0:=by
    by_cases hz:Qr=[]
    ·subst hz;rfl
    ·have:0<Qr.length:=List.length_pos_iff.mpr hz
     exact nE _ _ _ (by rw[Z6];omega)
   rw[hb];rfl
 ·by_cases hz:Qr=[]
  ·left;rw[hz];rfl
  ·right
   have hl:0<Qr.length:=List.length_pos_iff.mpr hz;have lq:=D.lq;rw[IQ (by rw[Z6];omega),Z6]
   have e:Qr.length-1-(Qr.length-1)=0:=by omega
   rw[e,D.lead (by omega)]
   exact nf.last λz=>by rw[z] at hN;simp at hN;omega
 ·rw[gH]
  have:ir R R.length<=g.length-1:=wB _ λm h1 h2=>D.top m (by have:=D.lr;omega) h2
  omega
def cu:Nat->(Nat->Int)->Int
 | 0,_=>0
 | n+1,f=>cu n f+f n
theorem cB {f g:Nat->Int}:∀ {n:Nat},(∀i,i<n->f i=g i)->cu n f=cu n g
 | 0,_=>rfl
 | n+1,h=>by
  show cu n f+f n=cu n g+g n
  rw[cB λi hi=>h i (by omega),h n (by omega)]
theorem rR (f g:Nat->Int):∀n,cu n (λi=>f i+g i)=cu n f+cu n g
 | 0=>rfl
 | n+1=>by
  show cu n (λi=>f i+g i)+(f n+g n)=cu n f+f n+(cu n g+g n)
  rw[rR f g n];omega
theorem rS (c:Int)(f:Nat->Int):∀n,cu n (λi=>c*f i)=c*cu n f
 | 0=>by simp[cu]
 | n+1=>by
  show cu n (λi=>c*f i)+c*f n=c*(cu n f+f n)
  rw[rS c f n,Int.mul_add]
theorem GG (c:Int)(f:Nat->Int)(n:Nat):cu n (λi=>f i*c)=cu n f*c:=by
 rw[Z0,<- rS];exact cB λi _=>Z0 _ _
theorem dF {f:Nat->Int}:∀ {n:Nat},(∀i,i<n->f i=0)->cu n f=0
 | 0,_=>rfl
 | n+1,h=>by
  show cu n f+f n=0
  rw[dF λi hi=>h i (by omega),h n (by omega)]
  rfl
theorem zg (f:Nat->Int):∀n,cu (n+1) f=f 0+cu n λi=>f (i+1)
 | 0=>by simp[cu]
 | n+1=>by
  show cu (n+1) f+f (n+1)=f 0+(cu n (λi=>f (i+1))+f (n+1))
  rw[zg f n];omega
theorem Bs (f:Nat->Int):∀n,cu n f=cu n λi=>f (n-1-i)
 | 0=>rfl
 | n+1=>by
  rw[zg λi=>f (n+1-1-i)]
  show cu n f+f n=_
  rw[Bs f n];have e0:n+1-1-0=n:=by omega
  have e1:cu n (λi=>f (n-1-i))=cu n λi=>f (n+1-1-(i+1)):=cB λi hi=>by
   have:n-1-i=n+1-1-(i+1):=by omega
   rw[this]
  rw[e0,e1];omega
theorem qg (f:Nat->Int)(a:Nat):∀b,cu (a+b) f=cu a f+cu b λi=>f (a+i)
 | 0=>by simp[cu]
 | b+1=>by
  show cu (a+b) f+f (a+b)=cu a f+(cu b (λi=>f (a+i))+f (a+b))
  rw[qg f a b];omega
theorem jJ {f:Nat->Int}{k:Nat}:∀ {n:Nat},k<n->(∀i,i<n->i≠k->f i=0)->cu n f=f k
 | 0,h,_=>Jg h (Zb _)
 | n+1,h,z=>by
  show cu n f+f n=f k
  by_cases e:k=n
  ·subst e
   rw[dF λi hi=>z i (by omega) (by omega)]
   omega
  ·rw[jJ (n:=n) (by omega) λi hi=>z i (by omega),z n (by omega) (Ne.symm e)]
   omega
theorem wF (F:Nat->Nat->Int):∀m,cu (m+1) (λk=>cu (k+1) λi=>F i k)=cu (m+1) λi=>cu (m-i+1) λj=>F i (i+j)
 | 0=>by simp[cu]
 | m+1=>by
  show cu (m+1) (λk=>cu (k+1) λi=>F i k)+cu (m+1+1) (λi=>F i (m+1))=_
  rw[wF F m];show _=cu (m+1) (λi=>cu (m+1-i+1) λj=>F i (i+j))+cu (m+1-(m+1)+1) (λj=>F (m+1) (m+1+j))
  have e1:cu (m+1) (λi=>cu (m+1-i+1) λj=>F i (i+j))=cu (m+1) (λi=>cu (m-i+1) (λj=>F i (i+j))+F i (m+1)):=cB λi hi=>by
   have h1:m+1-i+1=(m-i+1)+1:=by omega
   rw[h1];show cu (m-i+1) _+F i (i+(m-i+1))=_
   have h2:i+(m-i+1)=m+1:=by omega
   rw[h2]
  rw[e1,rR];have e2:m+1-(m+1)+1=1:=by omega
  rw[e2];show _+(cu (m+1) (λi=>F i (m+1))+F (m+1) (m+1))=_+(0+F (m+1) (m+1+0))
  have e3:m+1+0=m+1:=by omega
  rw[e3];omega
def cv (a b:Nat->Int)(m:Nat):Int:=cu (m+1) λi=>a i*b (m-i)
theorem Bt {a a' b b':Nat->Int}{m:Nat}(ha:∀i,i<=m->a i=a' i)(hb:∀i,i<=m->b i=b' i):cv a b m=cv a' b' m:=cB λi hi=>by rw[ha i (by omega),hb (m-i) (by omega)]
theorem rT (a b:Nat->Int)(m:Nat):cv a b m=cv b a m:=by
 unfold cv;rw[Bs];refine cB λi hi=>?_
 have e1:m+1-1-i=m-i:=by omega
 have e2:m-(m-i)=i:=by omega
 rw[e1,e2,Z0]
theorem Bu (a b c:Nat->Int)(m:Nat):cv (cv a b) c m=cv a (cv b c) m:=by
 have l:cv (cv a b) c m=cu (m+1) λk=>cu (k+1) λi=>a i*b (k-i)*c (m-k):=cB λk _=>by
  show cu (k+1) (λi=>a i*b (k-i))*c (m-k)=_
  rw[<- GG]
 rw[l,wF λi k=>a i*b (k-i)*c (m-k)]
 refine cB λi hi=>?_
 show _=a i*cu (m-i+1) λj=>b j*c (m-i-j)
 rw[<- rS];refine cB λj hj=>?_
 have e1:i+j-i=j:=by omega
 have e2:m-(i+j)=m-i-j:=by omega
 rw[e1,e2,Z5]
theorem wG (a b c:Nat->Int)(m:Nat):cv (λi=>a i+b i) c m=cv a c m+cv b c m:=by
 unfold cv;rw[<- rR];exact cB λi _=>Int.add_mul ..
theorem Mq (a b c:Nat->Int)(m:Nat):cv a (λi=>b i+c i) m=cv a b m+cv a c m:=by
 rw[rT,wG,rT b,rT c]
theorem zW (b:Nat->Int)(m:Nat):cv (λ_=>0) b m=0:=dF λi _=>Z1 _
theorem vD {a b:Nat->Int}{c:Int}(h0:a 0=c)(hs:∀i,0<i->a i=0)(m:Nat):cv a b m=c*b m:=by
 unfold cv;rw[jJ (k:=0) (by omega) λi _ hi=>by rw[hs i (by omega),Z1],h0,Nat.sub_zero]
theorem Bv (f g:List Int):∀(i m:Nat),i<=m+1->f7 f g i m=cu i λa=>aq f a*aq g (m-a)
 | 0,m,_=>rfl
 | i+1,m,h=>by
  show f7 f g i m+_=cu i _+_
  rw[Bv f g i m (by omega),Ja (by omega)]
theorem zX (f g:List Int)(m:Nat):conv f g m=cv (aq f) (aq g) m:=by
 rw[rQ,Bv f g (m+1) m (Yd _)];rfl
theorem cp (f g:List Int)(m:Nat):aq (eO f g) m=cv (aq f) (aq g) m:=by rw[oG,zX]
theorem Po (f g:List Int):aq (eO f g)=cv (aq f) (aq g):=funext λm=>cp f g m
theorem XW (f g:List Int):aq (rM f g)=λm=>aq f m+aq g m:=funext λm=>oE f g m
theorem Sk (f:List Int):aq (trim f)=aq f:=funext λm=>eo f m
def uR (key:List Int):List (List Int)->List Int
 | []=>[]
 | d::r=>rM (eO (uR key r) key) d
theorem wH (key:List Int):∀ds,Norm (uR key ds)
 | []=>.inl rfl
 | _::_=>oF _ _
def jl (key:List Int)(found step:List Int):List (List Int)->List Int
 | []=>found
 | d::r=>jl key (rM found (trim (eO d step))) (trim (eO step key)) r
theorem NV (key:List Int):∀(ds:List (List Int)) (found step:List Int) (m:Nat),aq (jl key found step ds) m=aq found m+cv (aq (uR key ds)) (aq step) m
 | [],found,step,m=>by
  show aq found m=aq found m+cv (aq []) (aq step) m
  have e:cv (aq []) (aq step) m=0:=dF λi _=>by rw[gR,Z1]
  rw[e,Zm]
 | d::r,found,step,m=>by
  show aq (jl key (rM found (trim (eO d step))) (trim (eO step key)) r) m=aq found m+cv (aq (rM (eO (uR key r) key) d)) (aq step) m
  rw[NV key r,XW,XW,Sk,Sk,Po,Po,Po,wG];have e1:cv (aq (uR key r)) (cv (aq step) (aq key)) m=cv (cv (aq (uR key r)) (aq key)) (aq step) m:=by
   rw[Bu];exact Bt (λ_ _=>rfl) λi _=>rT _ _ i
  rw[e1];show aq found m+cv (aq d) (aq step) m+_=_
  omega
theorem Fe (key:List Int):∀(ds:List (List Int)) (found step:List Int),Norm found->Norm (jl key found step ds)
 | [],_,_,h=>h
 | _::r,_,_,_=>Fe key r _ _ (oF _ _)
theorem IT (key:List Int)(ds:List (List Int)):jl key [] [1] ds=uR key ds:=by
 refine rL (Fe key ds _ _ (.inl rfl)) (wH key ds) λm=>?_
 rw[NV,gR,Zn,rT,vD (c:=1) rfl λi hi=>bF (by show 1<=i;omega),Zk]
abbrev LP:=o?×List Int
abbrev lrefs (ts:List LP):List V:=ts.map λt=>V.ref t.1
abbrev lvals (ts:List LP):List (List Int):=ts.map λt=>t.2
structure C6 (H:Hp)(p:o?)(ts:List LP):Prop where
 top:H p=j? (.lst (lrefs ts))
 it:∀t∈ts,H t.1=j? (.lst (t.2.map V.int))
theorem C6.same {H H':Hp}{p:o?}{ts:List LP}(h:C6 H p ts)(g:aF H H'):C6 H' p ts:=⟨g _ _ h.top,λt ht=>g _ _ (h.it t ht)⟩
theorem C6.snoc {H:Hp}{p:o?}{ts:List LP}{t:LP}(h:C6 H p ts)(hp:∀t∈ts,t.1≠p)(ht:H t.1=j? (.lst (t.2.map V.int)))(hn:t.1≠p):C6 (upd H p (.lst (lrefs ts++[.ref t.1]))) p (ts++[t]):=by
 refine⟨?_,λx hx=>?_⟩
 ·rw[ay];simp[lrefs]
 ·rcases List.mem_append.mp hx with z|z
  ·rw[aL (hp x z)];exact h.it x z
  ·have:x=t:=by simpa using z
   subst this;rw[aL hn];exact ht
abbrev GH (ls:List (List Int)):N!:=.list (ls.map dI)
theorem Ff (ls:List (List Int)):Fl 2 (GH ls):=.lst λd hd=>by
 obtain⟨i,_,rfl⟩:=List.mem_map.mp hd;exact lY i
theorem Mr {a b:List (List Int)}(h:GH a=GH b):a=b:=by
 have h':a.map dI=b.map dI:=PyData.list.inj h;induction a generalizing b with
 | nil=>
  cases b with
  | nil=>rfl
  | cons _ _=>simp at h'
 | cons x a ih=>
  cases b with
  | nil=>simp at h'
  | cons y b=>
   have h2:dI x=dI y/\a.map dI=b.map dI:=List.cons.inj h';rw[IG h2.1,ih (Je PyData.list h2.2) h2.2]
theorem Pq (a b:List (List Int)):E! (GH a) (GH b)=decide (a=b):=by
 rw[vC (Ff a) (Ff b)];by_cases h:a=b
 ·rw[Jb h,Jb (Je GH h)]
 ·rw[Jd h,Jd λz=>h (Mr z)]
theorem Pr {K:bM}{H:Hp}{p:o?}{ts:List LP}(ht:aO K H p (lrefs ts))(hi:∀t∈ts,aO K H t.1 (t.2.map V.int)):Den K H (.ref p) (GH (lvals ts)):=by
 refine .lst ht (by simp) λi x d h1 h2=>?_
 rw[Ye] at h1 h2;cases e:ts[i]? with
 | none=>rw[e] at h1;cases h1
 | some t=>
  rw[e] at h1;rw[Ye,e] at h2;have hm:t∈ts:=Yw e;cases h1;cases h2;exact rq (hi t hm) (gF _)
theorem C6.den {K:bM}{H:Hp}{p:o?}{ts:List LP}(h:C6 H p ts):Den K H (.ref p) (GH (lvals ts)):=Pr (aO.of h.top) λt ht=>aO.of (h.it t ht)
theorem C6.sql {K:bM}{H:Hp}{p:o?}{ts:List LP}(h:C6 H p ts):aO K H p (lrefs ts):=aO.of h.top
theorem Vq {K:bM}{H:Hp}{x y:V}{a b:List (List Int)}{Q:VK}(hx:Den K H x (GH a))(hy:Den K H y (GH b))(q:Q (.bl (!decide (a=b))) H):zQ K true x y H Q:=
 ⟨_,_,hx,hy,(Ff _).shaped (by decide),(Ff _).shaped (by decide),by show Q (.bl (!E! (GH a) (GH b))) H;rw[Pq];exact q⟩
theorem GI {K:bM}{H:Hp}{p:o?}(h:aO K H p []):Den K H (.ref p) (GH []):=.lst h rfl λi x d h1 _=>by simp at h1
theorem zh {ts:List LP}{i:Nat}{x:V}(h:(lrefs ts)[i]?=j? x):∃hi:i<ts.length,x=.ref ts[i].1:=by
 rw[Ye] at h;cases e:ts[i]? with
 | none=>rw[e] at h;cases h
 | some t=>
  rw[e] at h;obtain⟨hi,e2⟩:=List.getElem?_eq_some_iff.mp e;subst e2;exact⟨hi,(M? h).symm⟩
end L2
namespace L2
def bw:Nat->(Nat->Int)->Int
 | 0,_=>0
 | n+1,f=>bw n f+f n
theorem aD:∀ {n:Nat} {f g:Nat->Int},(∀i,i<n->f i=g i)->bw n f=bw n g
 | 0,_,_,_=>rfl
 | n+1,f,g,h=>by
  show bw n f+f n=bw n g+g n
  rw[aD λi hi=>h i (by omega),h n (by omega)]
theorem iO (a b:Int)(f g:Nat->Int):∀n,bw n (λi=>a*f i+b*g i)=a*bw n f+b*bw n g
 | 0=>by show(0:Int)=a*0+b*0;omega
 | n+1=>by
  show bw n _+(a*f n+b*g n)=a*(bw n f+f n)+b*(bw n g+g n)
  rw[iO a b f g n];generalize bw n f=x;generalize bw n g=y;grind
theorem cR (a:Int)(f:Nat->Int):∀n,bw n (λi=>a*f i)=a*bw n f
 | 0=>by show(0:Int)=a*0;omega
 | n+1=>by
  show bw n _+a*f n=a*(bw n f+f n)
  rw[cR a f n,Int.mul_add]
theorem dX:∀ {n:Nat} {f:Nat->Int},(∀i,i<n->f i=0)->bw n f=0
 | 0,_,_=>rfl
 | n+1,f,h=>by
  show bw n f+f n=0
  rw[dX λi hi=>h i (by omega),h n (by omega)]
  rfl
theorem kZ (f:Nat->Int):∀n,bw (n+1) f=f 0+bw n (λi=>f (i+1))
 | 0=>by show 0+f 0=f 0+0;omega
 | n+1=>by
  show bw (n+1) f+f (n+1)=f 0+(bw n (λi=>f (i+1))+f (n+1))
  rw[kZ f n];omega
theorem Fg {f:Nat->Int}{r:Nat}:∀ {n:Nat},r+1<n->(∀i,i<n->i≠r->i≠r+1->f i=0)->f r+f (r+1)=0->bw n f=0
 | 0,h,_,_=>Jg h (by omega)
 | n+1,h,z,e=>by
  show bw n f+f n=0
  by_cases c:r+1=n
  ·subst c
   show bw r f+f r+f (r+1)=0
   rw[dX λi hi=>z i (by omega) (by omega) (by omega)]
   omega
  ·rw[Fg (n:=n) (by omega) (λi hi=>z i (by omega)) e,z n (by omega) (by omega) (by omega)]
   rfl
abbrev Mx:=Nat->Nat->Int
def c9 (i r:Nat):Nat:=if r<i then r else r+1
def sg (k:Nat):Int:=if k % 2=0 then 1 else -1
theorem Fj (k:Nat):sg (k+1)=- sg k:=by
 unfold sg;rcases Nat.mod_two_eq_zero_or_one k with h|h
 ·rw[W9 (by omega),Ja h]
 ·rw[Ja (by omega),W9 (by omega)];rfl
theorem NW (k:Nat):sg k*sg k=1:=by
 unfold sg;split <;> rfl
def det:Nat->Mx->Int
 | 0,_=>1
 | n+1,M=>bw (n+1) λi=>sg (n-i)*M i n*det n λr c=>M (c9 i r) c
theorem cN (n:Nat)(M:Mx):det (n+1) M=bw (n+1) λi=>sg (n-i)*M i n*det n λr c=>M (c9 i r) c:=rfl
theorem tR {i r n:Nat}(h:r<n):c9 i r<n+1:=by unfold c9;split <;> omega
theorem Pu (i r:Nat):c9 i r≠i:=by unfold c9;split <;> omega
theorem IU {i r x:Nat}(h:i≠r):c9 i x=r↔x=if r<i then r else r-1:=by
 unfold c9;split <;> split <;> omega
theorem b_:∀ {n:Nat} {M N:Mx},(∀r c,r<n->c<n->M r c=N r c)->det n M=det n N
 | 0,_,_,_=>rfl
 | n+1,M,N,h=>by
  rw[cN,cN];refine aD λi hi=>?_
  rw[h i n hi (by omega),b_ λr c hr hc=>h (c9 i r) c (tR hr) (by omega)]
def cZ (M:Mx)(r:Nat)(u:Nat->Int):Mx:=λi c=>if i=r then u c else M i c
theorem eB (M:Mx)(r:Nat)(u:Nat->Int)(c:Nat):cZ M r u r c=u c:=Ja rfl
theorem ee {M:Mx}{r i:Nat}{u:Nat->Int}(h:i≠r)(c:Nat):cZ M r u i c=M i c:=W9 h
theorem jz (M:Mx)(r:Nat):cZ M r (M r)=M:=by
 funext i c
 unfold cZ;split
 ·rename_i h;rw[h]
 ·rfl
theorem tS {M:Mx}{i r:Nat}(h:i≠r)(u:Nat->Int):(λx c=>cZ M r u (c9 i x) c)=cZ (λx c=>M (c9 i x) c) (if r<i then r else r-1) u:=by
 funext x c
 unfold cZ;by_cases e:c9 i x=r
 ·rw[Ja e,Ja ((IU h).mp e)]
 ·rw[W9 e,W9 λz=>e ((IU h).mpr z)]
theorem tT (M:Mx)(r:Nat)(u:Nat->Int):(λx c=>cZ M r u (c9 r x) c)=λx c=>M (c9 r x) c:=by
 funext x c
 exact ee (Pu r x) c
theorem jo (a b:Int)(u v:Nat->Int):∀(n:Nat) (M:Mx) (r:Nat),r<n->det n (cZ M r λc=>a*u c+b*v c)=a*det n (cZ M r u)+b*det n (cZ M r v)
 | 0,_,_,h=>Jg h (by omega)
 | n+1,M,r,h=>by
  rw[cN,cN,cN,<- iO];refine aD λi hi=>?_
  by_cases e:i=r
  ·subst e
   rw[tT,tT,tT,eB,eB,eB];generalize det n _=D;generalize sg (n-i)=S;grind
  ·rw[tS e,tS e,tS e,ee e,ee e,ee e,jo a b u v n _ _ (by split <;> omega)]
   generalize det n (cZ _ _ u)=D1;generalize det n (cZ _ _ v)=D2;generalize sg (n-i)=S;grind
theorem vE:∀(n:Nat) (M:Mx) (r:Nat),r+1<n->(∀c,M r c=M (r+1) c)->det n M=0
 | 0,_,_,h,_=>Jg h (by omega)
 | n+1,M,r,h,e=>by
  rw[cN];refine Fg (r:=r) h (λi hi h1 h2=>?_) ?_
  ·have z:det n (λx c=>M (c9 i x) c)=0:=by
    by_cases c:i<r
    ·refine vE n _ (r-1) (by omega) λc'=>?_
     have e1:c9 i (r-1)=r:=by unfold c9;rw[W9 (by omega)];omega
     have e2:c9 i (r-1+1)=r+1:=by unfold c9;rw[W9 (by omega)];omega
     show M (c9 i (r-1)) c'=M (c9 i (r-1+1)) c'
     rw[e1,e2];exact e c'
    ·refine vE n _ r (by omega) λc'=>?_
     have e1:c9 i r=r:=by unfold c9;rw[Ja (by omega)]
     have e2:c9 i (r+1)=r+1:=by unfold c9;rw[Ja (by omega)]
     show M (c9 i r) c'=M (c9 i (r+1)) c'
     rw[e1,e2];exact e c'
   rw[z,Y6]
  ·have e1:(λx c=>M (c9 (r+1) x) c)=λx c=>M (c9 r x) c:=by
    funext x c
    unfold c9;by_cases c1:x<r
    ·rw[Ja (by omega),Ja c1]
    ·by_cases c2:x=r
     ·subst c2
      rw[Ja (by omega),W9 (by omega)];exact e c
     ·rw[W9 (by omega),W9 c1]
   have e2:n-r=n-(r+1)+1:=by omega
   rw[e1,<- e n,e2,Fj];generalize det n _=D;generalize sg (n-(r+1))=S;grind
def u5 (M:Mx)(p q:Nat)(u v:Nat->Int):Mx:=cZ (cZ M p u) q v
theorem jA {M:Mx}{p q:Nat}(h:p≠q)(u v:Nat->Int):cZ (cZ M p u) q v=cZ (cZ M q v) p u:=by
 funext i c
 unfold cZ;by_cases c1:i=q
 ·subst c1;rw[Ja rfl,W9 λz=>h z.symm,Ja rfl]
 ·rw[W9 c1,W9 c1]
theorem Ms {n:Nat}{M:Mx}{p q:Nat}(hp:p<n)(hq:q<n)(hne:p≠q)(h:∀u,det n (u5 M p q u u)=0)(u v:Nat->Int):det n (u5 M p q u v)=- det n (u5 M p q v u):=by
 have z:=h λc=>1*u c+1*v c
 unfold u5 at*;rw[jo 1 1 u v n _ q hq,jA hne,jA hne,jo 1 1 u v n _ p hp,jo 1 1 u v n _ p hp,<- jA hne,<- jA hne,<- jA hne,<- jA hne,h u,h v] at z;omega
theorem GJ (M:Mx)(p q:Nat):u5 M p q (M p) (M q)=M:=by
 unfold u5;rw[jz,jz]
theorem Bw {n:Nat}(M:Mx){r:Nat}(h:r+1<n):det n (u5 M r (r+1) (M (r+1)) (M r))=- det n M:=by
 rw[Ms (by omega) h (by omega) λu=>vE n _ r h λc=>?_,GJ]
 unfold u5;rw[ee (by omega),eB,eB]
theorem zY {n:Nat}{p:Nat}:∀(d:Nat) (M:Mx),p+d+1<n->(∀c,M p c=M (p+d+1) c)->det n M=0
 | 0,M,h,e=>vE n M p h e
 | d+1,M,h,e=>by
  have s:=Bw M (r:=p+d+1) (n:=n) h;have z:det n (u5 M (p+d+1) (p+d+1+1) (M (p+d+1+1)) (M (p+d+1)))=0:=by
   refine zY (p:=p) d _ (by omega) λc=>?_
   unfold u5;rw[ee (by omega),ee (by omega),ee (by omega),eB]
   exact e c
  rw[z] at s;omega
theorem wI {n:Nat}{M:Mx}{p q:Nat}(hp:p<n)(hq:q<n)(hne:p≠q)(h:∀c,M p c=M q c):det n M=0:=by
 rcases Nat.lt_or_gt_of_ne hne with z|z
 ·have e:q=p+(q-p-1)+1:=by omega
  rw[e] at h;exact zY (q-p-1) M (by omega) h
 ·have e:p=q+(p-q-1)+1:=by omega
  rw[e] at h;exact zY (p-q-1) M (by omega) λc=>(h c).symm
theorem Mt {n:Nat}(M:Mx){p q:Nat}(hp:p<n)(hq:q<n)(hne:p≠q)(a k:Int):det n (cZ M p λc=>a*M p c+k*M q c)=a*det n M:=by
 rw[jo a k (M p) (M q) n M p hp,jz,wI (M:=cZ M p (M q)) hp hq hne λc=>?_]
 ·omega
 ·rw[eB,ee λz=>hne z.symm]
theorem wJ:∀(n:Nat) (M:Mx),(∀i,i<=n->M i 0=0)->det (n+1) M=0
 | 0,M,h=>by
  show 0+sg 0*M 0 0*1=0
  rw[h 0 (Yd _)];rfl
 | n+1,M,h=>by
  rw[cN];refine dX λi hi=>?_
  rw[wJ n _ λj hj=>h (c9 i j) (by have:=tR (i:=i) (r:=j) (n:=n+1) (by omega);omega),Y6]
theorem oH:∀(n:Nat) (M:Mx),(∀i,0<i->i<=n->M i 0=0)->det (n+1) M=M 0 0*det n λr c=>M (r+1) (c+1)
 | 0,M,h=>by
  show 0+sg 0*M 0 0*1=M 0 0*1
  have:sg 0=1:=rfl
  rw[this];omega
 | n+1,M,h=>by
  rw[cN (n+1),kZ];have z:det (n+1) (λr c=>M (c9 0 r) c)=0:=wJ n _ λj hj=>h (c9 0 j) (by unfold c9;rw[W9 (by omega)];omega) (by unfold c9;rw[W9 (by omega)];omega)
  rw[z,Y6,Zn,cN n,<- cR];refine aD λj hj=>?_
  rw[oH n _ λi h1 h2=>h (c9 (j+1) i) (by unfold c9;split <;> omega) (by have:=tR (i:=j+1) (r:=i) (n:=n+1) (by omega);omega)]
  have e0:c9 (j+1) 0=0:=by unfold c9;rw[Ja (by omega)]
  have e1:(λr c=>M (c9 (j+1) (r+1)) (c+1))=λr c=>M (c9 j r+1) (c+1):=by
   funext r c
   have:c9 (j+1) (r+1)=c9 j r+1:=by unfold c9;split <;> split <;> omega
   rw[this]
  rw[e0,e1];have e2:n+1-(j+1)=n-j:=by omega
  rw[e2];generalize det n _=D;generalize sg (n-j)=S;grind
theorem k8 (k:Int):∀(n:Nat) (M:Mx),det n (λr c=>k*M r c)=k ^ n*det n M
 | 0,M=>by show(1:Int)=k ^ 0*1;rw[Y9];rfl
 | n+1,M=>by
  rw[cN,cN,<- cR];refine aD λi hi=>?_
  rw[k8 k n λr c=>M (c9 i r) c,Yy]
  generalize det n _=D;generalize sg (n-i)=S;generalize k ^ n=K;grind
def IV (N:Mx):Mx:=λa b=>N 0 0*N (a+1) (b+1)-N (a+1) 0*N 0 (b+1)
def fC (N:Mx)(k:Nat):Mx:=λr c=>if 0<r/\r<=k then N 0 0*N r c+(- N r 0)*N 0 c else N r c
theorem wK (N:Mx)(n:Nat):∀k,k<=n->det (n+1) (fC N k)=N 0 0 ^ k*det (n+1) N
 | 0,_=>by
  have e:fC N 0=N:=by
   funext r c
   exact W9 (by omega)
  rw[e,Y9,Zk]
 | k+1,h=>by
  have e:fC N (k+1)=cZ (fC N k) (k+1) λc=>N 0 0*fC N k (k+1) c+(- N (k+1) 0)*fC N k 0 c:=by
   funext r c
   have p0:fC N k 0 c=N 0 c:=W9 (by omega)
   have p1:fC N k (k+1) c=N (k+1) c:=W9 (by omega)
   unfold cZ;by_cases c1:r=k+1
   ·subst c1
    rw[Ja rfl];show _=N 0 0*fC N k (k+1) c+(- N (k+1) 0)*fC N k 0 c
    rw[p0,p1];exact Ja (by omega)
   ·rw[W9 c1]
    unfold fC;by_cases c2:0<r/\r<=k
    ·rw[Ja c2,Ja (by omega)]
    ·rw[W9 c2,W9 (by omega)]
  rw[e,Mt (fC N k) (by omega) (by omega) (by omega),wK N n k (by omega),Yy]
  generalize N 0 0 ^ k=K;generalize det (n+1) N=D;grind
theorem Px {n:Nat}{N:Mx}(h:N 0 0≠0):det (n+1) (IV N)=N 0 0 ^ n*det (n+2) N:=by
 have e:=wK N (n+1) (n+1) (Yd _);rw[oH (n+1) (fC N (n+1)) λi h1 h2=>?_] at e
 ·have e1:det (n+1) (λr c=>fC N (n+1) (r+1) (c+1))=det (n+1) (IV N):=b_ λr c hr hc=>by
   unfold fC IV;rw[Ja (by omega)]
   generalize N 0 0=a;generalize N (r+1) (c+1)=b;generalize N (r+1) 0=d;generalize N 0 (c+1)=f;grind
  have e2:fC N (n+1) 0 0=N 0 0:=W9 (by omega)
  rw[e1,e2,Yy] at e;have e3:N 0 0*det (n+1) (IV N)=N 0 0*(N 0 0 ^ n*det (n+2) N):=by
   rw[e];generalize N 0 0 ^ n=K;grind
  exact Zd h e3
 ·unfold fC
  rw[Ja (by omega)]
  generalize N 0 0=a;generalize N i 0=b;grind
def yr (t:Nat):Nat->Nat
 | 0=>t
 | a+1=>c9 t a
theorem IW {t a m:Nat}(ht:t<m)(ha:a<m):yr t a<m:=by
 cases a with
 | zero=>exact ht
 | succ a=>show c9 t a<m;unfold c9;split <;> omega
theorem zZ {n:Nat}:∀(t:Nat) (M:Mx),t<n->det n (λa c=>M (yr t a) c)=sg t*det n M
 | 0,M,h=>by
  have e:(λa c=>M (yr 0 a) c)=M:=by
   funext a c
   cases a with
   | zero=>rfl
   | succ a=>show M (c9 0 a) c=M (a+1) c;unfold c9;rw[W9 (by omega)]
  rw[e];show _=1*_
  omega
 | t+1,M,h=>by
  have e:(λa c=>M (yr (t+1) a) c)=λa c=>u5 M t (t+1) (M (t+1)) (M t) (yr t a) c:=by
   funext a c
   unfold u5;cases a with
   | zero=>
    show M (t+1) c=cZ _ _ _ t c
    rw[ee (by omega),eB]
   | succ a=>
    show M (c9 (t+1) a) c=cZ _ _ _ (c9 t a) c
    rcases Nat.lt_trichotomy a t with z|z|z
    ·have e1:c9 (t+1) a=a:=by unfold c9;rw[Ja (by omega)]
     have e2:c9 t a=a:=by unfold c9;rw[Ja (by omega)]
     rw[e1,e2,ee (by omega),ee (by omega)]
    ·subst z
     have e1:c9 (a+1) a=a:=by unfold c9;rw[Ja (by omega)]
     have e2:c9 a a=a+1:=by unfold c9;rw[W9 (by omega)]
     rw[e1,e2,eB]
    ·have e1:c9 (t+1) a=a+1:=by unfold c9;rw[W9 (by omega)]
     have e2:c9 t a=a+1:=by unfold c9;rw[W9 (by omega)]
     rw[e1,e2,ee (by omega),ee (by omega)]
  rw[e,zZ t _ (by omega),Bw M h,Fj]
  generalize det n M=D;generalize sg t=S;grind
end L2
namespace L2
theorem Fo {d:Int}(h:d≠0):∀n:Nat,d ^ n≠0
 | 0=>by rw[Y9];decide
 | n+1=>by rw[Yy];exact Int.mul_ne_zero (Fo h n) h
theorem vF (M:Mx):det 1 M=M 0 0:=by
 show 0+sg 0*M 0 0*1=M 0 0
 have:sg 0=1:=rfl
 rw[this];omega
def sh (I:Nat->Nat):Nat->Nat
 | 0=>0
 | a+1=>I a+1
structure Ba (A:Mx)(n k:Nat)(d:Int)(B:Mx)(m:Nat)(s:Int):Prop where
 d0:d≠0
 Mu:∀(r:Nat) (I J:Nat->Nat),(∀a,a<=r->I a<m/\J a<m)->∃I' J':Nat->Nat,(∀a,a<r+1+k->I' a<n/\J' a<n)/\det (r+1) (λa b=>B (I a) (J b))=d ^ r*det (r+1+k) λa b=>A (I' a) (J' b)
 whole:∀m',m=m'+1->det m B=s*det n A*d ^ m'
 sq:s*s=1
 lead:∃I' J':Nat->Nat,(∀a,a<k->I' a<n/\J' a<n)/\d=det k λa b=>A (I' a) (J' b)
theorem Ba.start (A:Mx)(n:Nat):Ba A n 0 1 A n 1:=by
 refine⟨by decide,λr I J h=>⟨I,J,λa ha=>h a (by omega),?_⟩,λm' e=>?_,rfl,⟨λa=>a,λa=>a,λa ha=>Jg ha (by omega),rfl⟩⟩
 ·rw[Int.one_pow,Zk]
 ·rw[Int.one_pow];omega
section
variable {A B B':Mx} {n k m t:Nat} {d s:Int}
theorem Ba.divides (h:Ba A n k d B (m+1) s)(ht:t<m+1)(hp:B t 0≠0){a c:Nat}(ha:a<m)(hc:c<m):∃q,IV (λa c=>B (yr t a) c) a c=d*q:=by
 have hI:∀x,x<=1->yr t (sh (λ_=>a) x)<m+1/\sh (λ_=>c) x<m+1:=λx hx=>by
  match x with
  | 0=>exact⟨ht,by show 0<m+1;omega⟩
  | 1=>exact⟨IW ht (by show a+1<m+1;omega),by show c+1<m+1;omega⟩
  | x+2=>omega
 obtain⟨I',J',_,e⟩:=h.Mu 1 (λx=>yr t (sh (λ_=>a) x)) (sh (λ_=>c)) hI
 have e2:=Px (n:=0) (N:=λx y=>B (yr t (sh (λ_=>a) x)) (sh (λ_=>c) y)) hp
 rw[vF,Y9,Zk,e,Yy,Y9,Zk] at e2;exact⟨_,e2⟩
theorem Ba.step (h:Ba A n k d B (m+1) s)(ht:t<m+1)(hp:B t 0≠0)(hB:∀a c,a<m->c<m->IV (λa c=>B (yr t a) c) a c=d*B' a c):Ba A n (k+1) (B t 0) B' m (sg t*s):=by
 refine⟨hp,λr I J Vr=>?_,λm' em=>?_,?_,?_⟩
 ·have hI:∀x,x<=r+1->yr t (sh I x)<m+1/\sh J x<m+1:=λx hx=>by
   match x with
   | 0=>exact⟨ht,by show 0<m+1;omega⟩
   | x+1=>
    have:=Vr x (by omega)
    exact⟨IW ht (by show I x+1<m+1;omega),by show J x+1<m+1;omega⟩
  obtain⟨I',J',rg,e⟩:=h.Mu (r+1) (λx=>yr t (sh I x)) (sh J) hI
  have e2:=Px (n:=r) (N:=λx y=>B (yr t (sh I x)) (sh J y)) hp
  have e3:det (r+1) (IV λx y=>B (yr t (sh I x)) (sh J y))=d ^ (r+1)*det (r+1) (λa b=>B' (I a) (J b)):=by
   rw[<- k8];refine b_ λa b ha hb=>?_
   have h1:=Vr a (by omega)
   have h2:=Vr b (by omega)
   exact hB (I a) (J b) h1.1 h2.2
  rw[e3,e] at e2;have ei:r+1+1+k=r+1+(k+1):=by omega
  rw[ei] at e2 rg;refine⟨I',J',rg,?_⟩
  refine Zd (Fo h.d0 (r+1)) (e2.trans ?_)
  show B t 0 ^ r*(d ^ (r+1)*_)=d ^ (r+1)*(B t 0 ^ r*_)
  generalize det (r+1+(k+1)) _=D;generalize B t 0 ^ r=P;generalize d ^ (r+1)=Q;grind
 ·subst em
  have e2:=Px (n:=m') (N:=λa c=>B (yr t a) c) hp
  have e3:det (m'+1) (IV λa c=>B (yr t a) c)=d ^ (m'+1)*det (m'+1) B':=by
   rw[<- k8];exact b_ λa b ha hb=>hB a b ha hb
  have e4:=h.whole (m'+1) rfl;have e5:=zZ (n:=m'+2) t B ht;rw[e3,e5,e4] at e2;refine Zd (Fo h.d0 (m'+1)) (e2.trans ?_)
  show B t 0 ^ m'*(sg t*(s*det n A*d ^ (m'+1)))=d ^ (m'+1)*(sg t*s*det n A*B t 0 ^ m')
  generalize B t 0 ^ m'=P;generalize d ^ (m'+1)=Q;generalize det n A=D;generalize sg t=S;grind
 ·have e1:=NW t
  have e2:=h.sq;generalize sg t=S at*;grind
 ·obtain⟨I',J',rg,e⟩:=h.Mu 0 (λ_=>t) (λ_=>0) λa ha=>⟨ht,by omega⟩
  rw[vF,Y9,Zk] at e;have ei:0+1+k=k+1:=by omega
  rw[ei] at e rg;exact⟨I',J',rg,e⟩
theorem Ba.fin (h:Ba A n k d B 1 s):s*B 0 0=det n A:=by
 have e:=h.whole 0 rfl;rw[vF,Y9,Wn] at e;rw[e];have:=h.sq
 generalize det n A=D at*;grind
theorem Ba.none (h:Ba A n k d B (m+1) s)(hz:∀i,i<m+1->B i 0=0):det n A=0:=by
 have e:=h.whole m rfl;rw[wJ m B λi hi=>hz i (by omega)] at e
 rcases Int.mul_eq_zero.mp e.symm with z|z
 ·rcases Int.mul_eq_zero.mp z with y|y
  ·have:=h.sq
   rw[y] at this;cases this
  ·exact y
 ·exact Jg z (Fo h.d0 m)
end
theorem z4 {X:Nat}:∀ {n:Nat} {f:Nat->Int},(∀i,i<n->(f i).natAbs<=X)->(bw n f).natAbs<=n*X
 | 0,_,_=>by show(0:Int).natAbs<=_;simp
 | n+1,f,h=>by
  have h1:=z4 (n:=n) (f:=f) λi hi=>h i (by omega)
  have h2:=h n (by omega)
  have h3:=Int.natAbs_add_le (bw n f) (f n);show(bw n f+f n).natAbs<=(n+1)*X
  rw[Nat.succ_mul];omega
theorem IX (k:Nat):(sg k).natAbs=1:=by unfold sg;split <;> rfl
theorem z5 {E:Nat}:∀(n:Nat) (M:Mx),n<=32->(∀r c,r<n->c<n->(M r c).natAbs<=2 ^ E)->(det n M).natAbs<=2 ^ (n*(E+5))
 | 0,M,_,_=>by show(1:Int).natAbs<=2 ^ (0*(E+5));rw[Nat.zero_mul];decide
 | n+1,M,hn,h=>by
  rw[cN];refine Yn (z4 (X:=2 ^ E*2 ^ (n*(E+5))) λi hi=>?_) ?_
  ·rw[Zh,Zh,IX,W2]
   exact Zi (h i n hi (by omega)) (z5 n _ (by omega) λr c hr hc=>h (c9 i r) c (tR hr) (by omega))
  ·have e:2 ^ ((n+1)*(E+5))=32*(2 ^ E*2 ^ (n*(E+5))):=by
    rw[Nat.succ_mul,Zw,Zw 2 E 5];have:(2:Nat) ^ 5=32:=rfl
    rw[this];ac_rfl
   rw[e];exact Yx _ (by omega)
theorem Ba.GK {A B:Mx}{n k m:Nat}{d s:Int}{E:Nat}(h:Ba A n k d B m s)(hn:n<=32)(hk:m+k=n)(hA:∀r c,r<n->c<n->(A r c).natAbs<=2 ^ E):d.natAbs<=2 ^ (n*(E+5))/\∀i j,i<m->j<m->(B i j).natAbs<=2 ^ (n*(E+5)):=by
 refine⟨?_,λi j hi hj=>?_⟩
 ·obtain⟨I',J',rg,e⟩:=h.lead
  rw[e];exact Yn (z5 (E:=E) k _ (by omega) λr c hr hc=>hA _ _ (rg r hr).1 (rg c hc).2) (Y2 (by decide) (Yx _ (by omega)))
 ·obtain⟨I',J',rg,e⟩:=h.Mu 0 (λ_=>i) (λ_=>j) λa ha=>⟨hi,hj⟩
  rw[vF,Y9,Zk] at e;rw[e];exact Yn (z5 (E:=E) (0+1+k) _ (by omega) λr c hr hc=>hA _ _ (rg r hr).1 (rg c hc).2) (Y2 (by decide) (Yx _ (by omega)))
def Bx:Nat->(Nat->Int)->Int
 | 0,_=>1
 | n+1,f=>Bx n f*f n
theorem zj (f:Nat->Int):∀n,Bx (n+1) f=f 0*Bx n (λi=>f (i+1))
 | 0=>by show 1*f 0=f 0*1;omega
 | n+1=>by
  show Bx (n+1) f*f (n+1)=f 0*(Bx n (λi=>f (i+1))*f (n+1))
  rw[zj f n,Z5]
theorem z6:∀(n:Nat) (M:Mx),(∀i j,j<i->i<n->M i j=0)->det n M=Bx n λi=>M i i
 | 0,_,_=>rfl
 | n+1,M,h=>by
  rw[oH n M λi h1 h2=>h i 0 h1 (by omega),zj,z6 n _ λi j h1 h2=>h (i+1) (j+1) (by omega) (by omega)]
end L2
namespace L2
theorem By {n:Nat}(M:Mx){p:Nat}(hp:p<n)(q:Nat->Nat)(a:Nat->Int):∀m,(∀k,k<m->q k<n/\q k≠p)->det n (cZ M p λc=>M p c+bw m λk=>a k*M (q k) c)=det n M
 | 0,_=>by
  have e:cZ M p (λc=>M p c+bw 0 λk=>a k*M (q k) c)=M:=by
   have:(λc=>M p c+bw 0 λk=>a k*M (q k) c)=M p:=by
    funext c
    show M p c+0=M p c
    omega
   rw[this,jz]
  rw[e]
 | m+1,h=>by
  have e:(λc=>M p c+bw (m+1) λk=>a k*M (q k) c)=λc=>1*(M p c+bw m λk=>a k*M (q k) c)+a m*M (q m) c:=by
   funext c
   show M p c+(bw m (λk=>a k*M (q k) c)+a m*M (q m) c)=_
   omega
  have hq:=h m (by omega)
  rw[e,jo 1 (a m) (λc=>M p c+bw m λk=>a k*M (q k) c) (M (q m)) n M p hp,By M hp q a m λk hk=>h k (by omega),wI (M:=cZ M p (M (q m))) hp hq.1 (λz=>hq.2 z.symm) λc=>?_]
  ·omega
  ·rw[eB,ee hq.2]
theorem zk {n:Nat}{A:Mx}:∀(m:Nat) (M:Mx),(∀r c,r<n->c<n->M r c=A r c)->(∀r c,r<n->n<=c->M r c=0)->det (n+m) M=det n A*det m λr c=>M (n+r) (n+c)
 | 0,M,h1,_=>by
  show det n M=det n A*1
  rw[b_ h1];omega
 | m+1,M,h1,h2=>by
  show det (n+m+1) M=det n A*det (m+1) _
  rw[cN (n+m),cN m,<- cR];have split:∀(f:Nat->Int) (a b:Nat),bw (a+b) f=bw a f+bw b λi=>f (a+i):=by
   intro f a b;induction b with
   | zero=>show bw a f=bw a f+0;omega
   | succ b ih=>show bw (a+b) f+f (a+b)=bw a f+(bw b (λi=>f (a+i))+f (a+b));rw[ih];omega
  rw[show n+m+1=n+(m+1) by omega,split,dX λi hi=>?_,Zn]
  ·refine aD λi hi=>?_
   have e1:n+m-(n+i)=m-i:=by omega
   rw[e1,zk m (λr c=>M (c9 (n+i) r) c) (λr c hr hc=>?_) (λr c hr hc=>?_)]
   ·have e2:(λr c=>M (c9 (n+i) (n+r)) (n+c))=λr c=>M (n+c9 i r) (n+c):=by
     funext r c
     have:c9 (n+i) (n+r)=n+c9 i r:=by unfold c9;split <;> split <;> omega
     rw[this]
    show sg (m-i)*M (n+i) (n+m)*(det n A*det m λr c=>M (c9 (n+i) (n+r)) (n+c))=_
    rw[e2];generalize det m _=D;generalize det n A=D2;generalize sg (m-i)=S;generalize M (n+i) (n+m)=X;grind
   ·have:c9 (n+i) r=r:=by unfold c9;rw[Ja (by omega)]
    rw[this];exact h1 r c hr hc
   ·have:c9 (n+i) r=r:=by unfold c9;rw[Ja (by omega)]
    rw[this];exact h2 r c hr hc
  ·rw[h2 i (n+m) hi (by omega)]
   generalize sg _=S;generalize det _ _=D;grind
theorem wL {n:Nat}{C:Mx}:∀(m:Nat) (M:Mx),(∀r c,r<n->c<m->M r c=0)->(∀r c,r<n->c<n->M r (m+c)=C r c)->(∀r c,r<m->c<m->M (n+r) c=if r=c then -1 else 0)->det (n+m) M=(- sg n) ^ m*det n C
 | 0,M,_,h2,_=>by
  show det n M=_
  rw[Y9,Zk];exact b_ λr c hr hc=>by have:=h2 r c hr hc;rw[Wx] at this;exact this
 | m+1,M,h1,h2,h3=>by
  show det (n+m+1) M=_
  have e:=zZ (n:=n+m+1) n M (by omega)
  rw[oH (n+m) _ λi hi hle=>?_] at e
  ·have e0:M (yr n 0) 0=-1:=by
    have:=h3 0 0 (by omega) (by omega)
    rw[Ja rfl] at this;exact this
   have ih:=wL (n:=n) (C:=C) m (λr c=>M (c9 n r) (c+1)) (λr c hr hc=>?_) (λr c hr hc=>?_) (λr c hr hc=>?_)
   ·have e1:det (n+m) (λr c=>M (yr n (r+1)) (c+1))=(- sg n) ^ m*det n C:=ih
    rw[e0,e1] at e;have s2:=NW n;have e2:det (n+m+1) M=sg n*(sg n*det (n+m+1) M):=by
     rw[<- Z5,s2,Zk]
    rw[e2,<- e,Yy];generalize (- sg n) ^ m=P;generalize det n C=D;generalize sg n=S;grind
   ·have:c9 n r=r:=by unfold c9;rw[Ja hr]
    show M (c9 n r) (c+1)=0
    rw[this];exact h1 r (c+1) hr (by omega)
   ·have:c9 n r=r:=by unfold c9;rw[Ja hr]
    show M (c9 n r) (m+c+1)=C r c
    rw[this,show m+c+1=m+1+c by omega];exact h2 r c hr hc
   ·have:c9 n (n+r)=n+(r+1):=by unfold c9;rw[W9 (by omega)];omega
    show M (c9 n (n+r)) (c+1)=_
    rw[this,h3 (r+1) (c+1) (by omega) (by omega)]
    by_cases z:r=c
    ·rw[Ja z,Ja (by omega)]
    ·rw[W9 z,W9 (by omega)]
  ·match i,hi with
   | i+1,_=>
    show M (c9 n i) 0=0
    unfold c9;by_cases z:i<n
    ·rw[Ja z];exact h1 i 0 z (by omega)
    ·rw[W9 z]
     have e4:i+1=n+(i+1-n):=by omega
     rw[e4,h3 (i+1-n) 0 (by omega) (by omega),W9 (by omega)]
def fz (n:Nat)(A B:Mx):Mx:=λi c=>bw n λk=>A i k*B k c
def qW (n:Nat)(A B:Mx)(t:Nat):Mx:=λr c=>
 if r<n then (if c<n then (if r<t then 0 else A r c) else (if r<t then fz n A B r (c-n) else 0))
 else (if c<n then (if r-n=c then -1 else 0) else B (r-n) (c-n))
theorem BA (n:Nat)(A B:Mx):∀t,t<=n->det (n+n) (qW n A B t)=det (n+n) (qW n A B 0)
 | 0,_=>rfl
 | t+1,h=>by
  rw[<- BA n A B t (by omega),<- By (n:=n+n) (qW n A B t) (p:=t) (by omega) (λk=>n+k) (λk=>A t k) n λk hk=>⟨by omega,by omega⟩]
  refine b_ λr c hr hc=>?_
  unfold cZ;by_cases e:r=t
  ·subst e
   rw[Ja rfl];have Mv:r<n:=by omega
   by_cases hcn:c<n
   ·have e1:qW n A B (r+1) r c=0:=by unfold qW;rw[Ja Mv,Ja hcn,Ja (by omega)]
    have e2:qW n A B r r c=A r c:=by unfold qW;rw[Ja Mv,Ja hcn,W9 (by omega)]
    have e3:(bw n λk=>A r k*qW n A B r (n+k) c)=bw n λk=>if k=c then-A r c else 0:=aD λk hk=>by
     unfold qW;rw[W9 (by omega),Ja hcn,show n+k-n=k by omega]
     by_cases z:k=c
     ·rw[Ja z,Ja z,z];omega
     ·rw[W9 z,W9 z];omega
    have e4:∀m,c<m->(bw m λk=>if k=c then-A r c else 0)=- A r c:=by
     intro m;induction m with
     | zero=>intro h;omega
     | succ m ih=>
      intro h;show bw m (λk=>if k=c then-A r c else 0)+(if m=c then-A r c else 0)=_
      by_cases z:m=c
      ·subst z
       rw[Ja rfl,dX λi hi=>W9 (by omega)];omega
      ·rw[W9 z,ih (by omega)];omega
    show _=qW n A B r r c+bw n λk=>A r k*qW n A B r (n+k) c
    rw[e1,e2,e3,e4 n hcn];omega
   ·have e1:qW n A B (r+1) r c=fz n A B r (c-n):=by unfold qW;rw[Ja Mv,W9 hcn,Ja (by omega)]
    have e2:qW n A B r r c=0:=by unfold qW;rw[Ja Mv,W9 hcn,W9 (by omega)]
    have e3:(bw n λk=>A r k*qW n A B r (n+k) c)=fz n A B r (c-n):=aD λk hk=>by
     unfold qW;rw[W9 (by omega),W9 hcn,show n+k-n=k by omega]
    show _=qW n A B r r c+bw n λk=>A r k*qW n A B r (n+k) c
    rw[e1,e2,e3];omega
  ·rw[W9 e]
   unfold qW;by_cases Mv:r<n
   ·rw[Ja Mv,Ja Mv]
    have ez:(r<t+1)=(r<t):=propext ⟨λh=>by omega,λh=>by omega⟩
    simp only[ez]
   ·rw[W9 Mv,W9 Mv]
theorem Py (n:Nat):(- sg n) ^ n=1:=by
 rcases Nat.mod_two_eq_zero_or_one n with h|h
 ·have e:sg n=1:=Ja h
  obtain⟨k,hk⟩:∃k,n=2*k:=⟨n / 2,by omega⟩
  rw[e,hk,Int.pow_mul];have:(-1:Int) ^ 2=1:=by decide
  rw[this,Int.one_pow]
 ·have e:sg n=-1:=W9 (by omega)
  rw[e,Int.neg_neg,Int.one_pow]
theorem oK (n:Nat)(A B:Mx):det n (fz n A B)=det n A*det n B:=by
 have e1:det (n+n) (qW n A B 0)=det n A*det n B:=by
  rw[zk (n:=n) (A:=A) n (qW n A B 0) (λr c hr hc=>?_) (λr c hr hc=>?_)]
  ·congr 1
   refine b_ λr c hr hc=>?_
   unfold qW;rw[W9 (by omega),W9 (by omega),show n+r-n=r by omega,show n+c-n=c by omega]
  ·unfold qW;rw[Ja hr,Ja hc,W9 (by omega)]
  ·unfold qW;rw[Ja hr,W9 (by omega),W9 (by omega)]
 have e2:det (n+n) (qW n A B n)=(- sg n) ^ n*det n (fz n A B):=by
  refine wL (n:=n) (C:=fz n A B) n (qW n A B n) (λr c hr hc=>?_) (λr c hr hc=>?_) (λr c hr hc=>?_)
  ·unfold qW;rw[Ja hr,Ja hc,Ja hr]
  ·unfold qW;rw[Ja hr,W9 (by omega),Ja hr,show n+c-n=c by omega]
  ·unfold qW;rw[W9 (by omega),Ja hc,show n+r-n=r by omega]
 rw[Py,Zk] at e2;rw[<- e2,BA n A B n (Yd _),e1]
theorem z7:∀(n:Nat) (M:Mx),(∀i j,i<j->j<n->M i j=0)->det n M=Bx n λi=>M i i
 | 0,_,_=>rfl
 | n+1,M,h=>by
  rw[cN];show bw n _+_=Bx n (λi=>M i i)*M n n
  rw[dX λi hi=>?_]
  ·have e:det n (λr c=>M (c9 n r) c)=det n M:=b_ λr c hr hc=>by
    have:c9 n r=r:=by unfold c9;rw[Ja hr]
    rw[this]
   show 0+sg (n-n)*M n n*det n (λr c=>M (c9 n r) c)=_
   rw[e,W5,z7 n M λi j hi hj=>h i j hi (by omega)]
   have:sg 0=1:=rfl
   rw[this];generalize Bx n _=P;generalize M n n=X;grind
  ·rw[h i n hi (by omega)]
   generalize sg _=S;generalize det _ _=D;grind
end L2
namespace L2
open PySem PySem.Spec PyProof.Rows
theorem qh:∀ {ns:List Int} {us:List l?},Vals (ns.map V.int) us->∃xs:Array (Int×Tok),us.toArray=intItems xs/\xs.toList.map (·.1)=ns
 | [],_,.nil=>⟨#[],by simp[intItems],rfl⟩
 | n::ns,_,.cons r rr=>by
  obtain⟨t,rfl⟩:=(show ∃t,_=Value.int n t from r)
  obtain⟨xs,e1,e2⟩:=qh rr;refine⟨((n,t)::xs.toList).toArray,?_,by simp[e2]⟩
  have e3:=Je Array.toList e1;apply Array.toList_inj.mp
  simp only[intItems,Array.toList_map] at e3 ⊢
  simp[e3]
theorem qi {xs:Array (Int×Tok)}{ns:List Int}(h:xs.toList.map (·.1)=ns)(i:Nat):numAt xs i=aq ns i:=by
 unfold numAt aq;rw[<- h,Yb,Ye];simp
section
variable {X:Cx}
def NX (K:bM):List V->Hp->VK->Prop:=λxs H Q=>∃p,∃ns:List Int,xs=[.ref p]/\aO K H p (ns.map V.int)/\ns≠[]/\∀M,M∈ns->(∀a∈ns,a<=M)->Q (.int M) H
theorem GL (hc:X.calm=true):jE X (.builtin "max") (NX X.K):=by
 intro pins s σ H xs us Q I rv h;obtain⟨p,ns,rfl,hq,hne,q⟩:=h;obtain⟨u,rfl,ru⟩:=vals1 rv;cases (show u=I! p from ru)
 obtain⟨its,r,hp,_⟩:=I.list hq;obtain⟨ys,e1,e2⟩:=qh r;have hl:=hp.isList;rw[e1] at hl;have hsz:ys.size=ns.length:=by rw[<- e2];simp
 have hpos:0<ns.length:=List.length_pos_iff.mpr hne;refine max_intList (I.ok.hd hc) hl (by omega) λv h' tk hv hk=>?_
 obtain⟨t,rfl⟩:=intItems_at hv;obtain⟨h1,h2⟩:=argBest_gt (numAt ys) (ys.size-1);refine⟨.int _,H,I.kept (h':=h') (t':=tk) hk,⟨t,rfl⟩,q _ ?_ λa ha=>?_⟩
 ·rw[qi e2,d_ (by omega)];exact Yz _
 ·obtain⟨j,hj,rfl⟩:=Wd ha
  have:=h2 j (by omega)
  rw[qi e2,d_ hj] at this;exact this
theorem Ds {K:bM}(h:X.K=K)(hc:X.calm=true):jE X (.builtin "max") (NX K):=by subst h;exact GL hc
end
theorem wM (a:Int)(r:List Int):aq (a::r) 0=a:=rfl
theorem wN (a:Int)(r:List Int)(i:Nat):aq (a::r) (i+1)=aq r i:=by simp[aq]
def fh (c:Int)(f:List Int):List Int:=uR [c,1] (f.map λa=>trim [a])
theorem Dt (found step:List Int)(a:Int):rM found (step.map λx=>a*x)=rM found (trim (eO (trim [a]) step)):=rL (oF _ _) (oF _ _) λm=>by
 rw[oE,oE,eo,cp,IJ (by simp),Sk,vD (c:=a) rfl λi hi=>bF (by show 1<=i;omega)]
def dl (f:List Int):List Int:=(Yj (f.length-1)).map λi=>((i+1:Nat):Int)*aq f (i+1)
theorem vG (f:List Int)(m:Nat):aq (dl f) m=((m+1:Nat):Int)*aq f (m+1):=
 gi (c:=λi=>((i+1:Nat):Int)*aq f (i+1)) (λi hi=>by rw[bF (by omega),Y6]) m
theorem Mw {f:List Int}(h:Norm f):Norm (dl f):=by
 by_cases hl:f.length<=1
 ·left
  unfold dl;have:f.length-1=0:=by omega
  rw[this];rfl
 ·right
  have e:(dl f).length=f.length-1:=by unfold dl;simp
  rw[vG,e];have e2:f.length-1-1+1=f.length-1:=by omega
  rw[e2];refine Int.mul_ne_zero (by omega) (h.last λz=>by rw[z] at hl;exact hl (by decide))
end L2
namespace L2
abbrev Fn:=Nat->Int
theorem eX (f:Nat->Int):∀n,bw n f=cu n f
 | 0=>rfl
 | n+1=>by
  show bw n f+f n=cu n f+f n
  rw[eX f n]
def xp (i:Nat):Fn:=λk=>if k=i then 1 else 0
structure Top (f:Fn)(n:Nat):Prop where
 one:f n=1
 top:∀m,n<m->f m=0
structure kT (f:Fn)(n:Nat)(u r:Fn):Prop where
 ex:∃(q:Fn) (N:Nat),(∀m,N<=m->q m=0)/\∀m,u m=cv q f m+r m
 lo:∀m,n<=m->r m=0
theorem Du {d f:Fn}{n t:Nat}(hf:Top f n)(hd:∀i,t<i->d i=0):cv d f (t+n)=d t:=by
 unfold cv;rw[jJ (k:=t) (by omega) λi hi hne=>?_]
 ·rw[show t+n-t=n by omega,hf.one,Wn]
 ·by_cases c:t<i
  ·rw[hd i c,Z1]
  ·rw[hf.top _ (by omega),Y6]
theorem Pz (a b c:Fn)(m:Nat):cv (λi=>a i-b i) c m=cv a c m-cv b c m:=by
 have h:=wG (λi=>a i-b i) b c m
 have e:(λi=>a i-b i+b i)=a:=by funext i;omega
 rw[e] at h;omega
theorem kT.uniq {f:Fn}{n:Nat}{u r s:Fn}(hf:Top f n)(h:kT f n u r)(h':kT f n u s):r=s:=by
 obtain⟨⟨q,N,hq,e⟩,lo⟩:=h;obtain⟨⟨q',N',hq',e'⟩,lo'⟩:=h';have eq1:∀m,cv (λi=>q i-q' i) f m=s m-r m:=λm=>by
  rw[Pz];have:=e m
  have:=e' m
  omega
 have dz:∀k t,max N N'-k<=t->q t-q' t=0:=by
  intro k;induction k with
  | zero=>intro t ht;rw[hq t (by omega),hq' t (by omega)];rfl
  | succ k ih=>
   intro t ht;by_cases c:max N N'-k<=t
   ·exact ih t c
   ·have:=Du (d:=λi=>q i-q' i) (t:=t) hf λi hi=>ih i (by omega)
    rw[eq1,lo _ (by omega),lo' _ (by omega)] at this
    exact this.symm
 funext m
 have h0:(λi=>q i-q' i)=λ_=>0:=funext λt=>dz (max N N') t (by omega)
 have:=eq1 m
 rw[h0,zW] at this;omega
theorem Fp (k:Int)(a c:Fn)(m:Nat):cv (λi=>k*a i) c m=k*cv a c m:=by
 unfold cv;rw[<- rS];exact cB λi hi=>by rw[Z5]
theorem kT.add {f:Fn}{n:Nat}{u r v s:Fn}(h:kT f n u r)(h':kT f n v s)(k:Int):kT f n (λm=>u m+k*v m) (λm=>r m+k*s m):=by
 obtain⟨⟨q,N,hq,e⟩,lo⟩:=h;obtain⟨⟨q',N',hq',e'⟩,lo'⟩:=h';refine⟨⟨λi=>q i+k*q' i,max N N',λm hm=>by show q m+k*q' m=0;rw[hq m (by omega),hq' m (by omega)];omega,λm=>?_⟩,λm hm=>by show r m+k*s m=0;rw[lo m hm,lo' m hm];omega⟩
 rw[wG,Fp,e m,e' m,Int.mul_add];omega
theorem kT.zero (f:Fn)(n:Nat):kT f n (λ_=>0) (λ_=>0):=⟨⟨λ_=>0,0,λ_ _=>rfl,λm=>by rw[zW];rfl⟩,λ_ _=>rfl⟩
theorem kT.sum {f:Fn}{n:Nat}{u r:Nat->Fn}(a:Nat->Int):∀m,(∀k,k<m->kT f n (u k) (r k))->kT f n (λc=>bw m λk=>a k*u k c) (λc=>bw m λk=>a k*r k c)
 | 0,_=>kT.zero f n
 | m+1,h=>(kT.sum a m λk hk=>h k (by omega)).add (h m (by omega)) (a m)
theorem kT.next {f:Fn}{n:Nat}{p u r s:Fn}{P:Nat}(hp:∀m,P<=m->p m=0)(h:kT f n u r)(h':kT f n (cv p r) s):kT f n (cv p u) s:=by
 obtain⟨⟨q,N,hq,e⟩,lo⟩:=h;obtain⟨⟨q',N',hq',e'⟩,lo'⟩:=h';refine⟨⟨λi=>cv p q i+q' i,max (P+N) N',λm hm=>?_,λm=>?_⟩,lo'⟩
 ·show cv p q m+q' m=0
  rw[hq' m (by omega)]
  unfold cv;rw[dF λi hi=>?_]
  ·rfl
  ·by_cases c:P<=i
   ·rw[hp i c,Z1]
   ·rw[hq (m-i) (by omega),Y6]
 ·have e1:cv p u m=cv p (λi=>cv q f i+r i) m:=Bt (λi _=>rfl) λi _=>e i
  rw[e1,Mq,wG,<- Bu,e' m];omega
theorem kT.self {f:Fn}{n:Nat}{u:Fn}(h:∀m,n<=m->u m=0):kT f n u u:=⟨⟨λ_=>0,0,λ_ _=>rfl,λm=>by rw[zW];omega⟩,h⟩
theorem i6 (i:Nat)(u:Fn)(m:Nat):cv (xp i) u m=if i<=m then u (m-i) else 0:=by
 unfold cv xp;by_cases c:i<=m
 ·rw[Ja c,jJ (k:=i) (by omega) λj hj hne=>by rw[W9 hne,Z1],Ja rfl,Zk]
 ·rw[W9 c,dF λj hj=>by rw[W9 (by omega),Z1]]
theorem Fq (i m:Nat)(h:i+1<=m):xp i m=0:=W9 (by omega)
theorem My (i:Nat)(u:Fn):cv (xp (i+1)) u=cv (xp 1) (cv (xp i) u):=by
 funext m
 rw[i6,i6];by_cases c:1<=m
 ·rw[Ja c,i6]
  by_cases c2:i<=m-1
  ·rw[Ja c2,Ja (by omega),show m-1-i=m-(i+1) by omega]
  ·rw[W9 c2,W9 (by omega)]
 ·rw[W9 c,W9 (by omega)]
structure Rows (f:Fn)(n:Nat)(g:Fn)(R:Nat->Fn):Prop where
 zero:kT f n g (R 0)
 succ:∀i,kT f n (cv (xp 1) (R i)) (R (i+1))
theorem Rows.at {f:Fn}{n:Nat}{g:Fn}{R:Nat->Fn}(h:Rows f n g R):∀i,kT f n (cv (xp i) g) (R i)
 | 0=>by
  have:cv (xp 0) g=g:=by funext m;rw[i6,Ja (by omega)];rfl
  rw[this];exact h.zero
 | i+1=>by
  rw[My];exact kT.next (λm hm=>Fq 1 m hm) (h.at i) (h.succ i)
theorem Rows.comb {f:Fn}{n:Nat}{g:Fn}{R:Nat->Fn}(h:Rows f n g R){p:Fn}{P:Nat}(hp:∀m,P<=m->p m=0):kT f n (cv p g) λc=>bw P λk=>p k*R k c:=by
 have e:cv p g=λc=>bw P λk=>p k*cv (xp k) g c:=by
  funext c
  rw[eX];have e1:∀k,k<P->p k*cv (xp k) g c=if k<=c then p k*g (c-k) else 0:=λk _=>by
   rw[i6];split
   ·rfl
   ·rw[Y6]
  rw[cB e1];unfold cv;by_cases z:P<=c+1
  ·have:c+1=P+(c+1-P):=by omega
   rw[this,qg,dF (f:=λi=>p (P+i)*_) λi hi=>by rw[hp _ (by omega),Z1],Zm]
   exact cB λi hi=>by rw[Ja (by omega)]
  ·obtain⟨d,rfl⟩:∃d,P=(c+1)+d:=⟨P-(c+1),by omega⟩
   have s1:=qg (λi=>if i<=c then p i*g (c-i) else 0) (c+1) d
   have s2:(cu d λi=>if c+1+i<=c then p (c+1+i)*g (c-(c+1+i)) else 0)=0:=dF λi hi=>W9 (by omega)
   rw[s1,s2,Zm];exact cB λi hi=>(Ja (by omega)).symm
 rw[e];exact kT.sum p P λk _=>h.at k
def jq (z:Int):Fn:=λk=>if k=0 then-z else if k=1 then 1 else 0
end L2
namespace L2
def tk (f:Fn)(n:Nat):Nat->Fn
 | 0=>xp 0
 | k+1=>λm=>(if m=0 then 0 else tk f n k (m-1))-tk f n k (n-1)*f m
section
variable {f:Fn} {n:Nat}
theorem wO (hf:Top f n)(hn:1<=n):∀k m,n<=m->tk f n k m=0
 | 0,m,h=>W9 (by omega)
 | k+1,m,h=>by
  show(if m=0 then 0 else tk f n k (m-1))-tk f n k (n-1)*f m=0
  rw[W9 (by omega)]
  by_cases c:m=n
  ·rw[c,hf.one];omega
  ·rw[hf.top m (by omega),wO hf hn k (m-1) (by omega)];omega
theorem Dv (hf:Top f n)(hn:1<=n):∀k,kT f n (xp k) (tk f n k)
 | 0=>kT.self λm hm=>wO hf hn 0 m hm
 | k+1=>by
  have e:xp (k+1)=cv (xp 1) (xp k):=by
   funext m
   rw[i6];unfold xp;by_cases c:1<=m
   ·rw[Ja c]
    by_cases c2:m=k+1
    ·rw[Ja c2,Ja (by omega)]
    ·rw[W9 c2,W9 (by omega)]
   ·rw[W9 c,W9 (by omega)]
  rw[e];refine kT.next (λm hm=>Fq 1 m hm) (Dv hf hn k) ⟨⟨λi=>if i=0 then tk f n k (n-1) else 0,1,λm hm=>W9 (by omega),λm=>?_⟩,wO hf hn (k+1)⟩
  have e1:cv (λi=>if i=0 then tk f n k (n-1) else 0) f m=tk f n k (n-1)*f m:=vD (Ja rfl) (λi hi=>W9 (by omega)) m
  rw[e1,i6];show _=_+((if m=0 then 0 else tk f n k (m-1))-tk f n k (n-1)*f m)
  by_cases c:1<=m
  ·rw[Ja c,W9 (by omega)];omega
  ·rw[W9 c,Ja (by omega)];omega
theorem Mz (hf:Top f n)(hn:1<=n){g:Fn}{L:Nat}(hg:∀m,L<=m->g m=0){R:Nat->Fn}(h:Rows f n g R)(i:Nat):R i=λc=>bw L λk=>g k*tk f n (k+i) c:=by
 refine kT.uniq hf (h.at i) ?_
 have e:cv (xp i) g=λc=>bw L λk=>g k*xp (k+i) c:=by
  funext c
  rw[i6,eX];by_cases z:i<=c
  ·rw[Ja z]
   by_cases y:c-i<L
   ·rw[jJ (k:=c-i) y λk hk hne=>by unfold xp;rw[W9 (by omega),Y6]]
    unfold xp;rw[Ja (by omega),Wn]
   ·rw[hg _ (by omega),dF λk hk=>by unfold xp;rw[W9 (by omega),Y6]]
  ·rw[W9 z,dF λk hk=>by unfold xp;rw[W9 (by omega),Y6]]
 rw[e];exact kT.sum g L λk _=>Dv hf hn (k+i)
def wb (W c:Nat)(u:Fn):Prop:=∀j,(u j).natAbs*W ^ j<=c
end
end L2
namespace L2
theorem PB (z:Int):∀i,2<=i->jq z i=0:=λi h=>by unfold jq;rw[W9 (by omega),W9 (by omega)]
def tg:Nat->Int
 | 0=>1
 | n+1=>tg n*sg n
theorem GN (c:Int):aq [c,1]=jq (- c):=by
 funext m
 match m with
 | 0=>show c=-(-c);omega
 | 1=>rfl
 | m+2=>rw[bF (by show 2<=_;omega),PB _ _ (by omega)]
theorem Dw (a:Int)(m:Nat):aq (trim [a]) m=if m=0 then a else 0:=by
 rw[eo];match m with
 | 0=>rfl
 | m+1=>rw[bF (by show 1<=_;omega),W9 (by omega)]
theorem vH (c a:Int)(r:List Int)(m:Nat):aq (fh c (a::r)) m=cv (aq (fh c r)) (jq (- c)) m+if m=0 then a else 0:=by
 show aq (rM (eO (fh c r) [c,1]) (trim [a])) m=_
 rw[oE,cp,GN,Dw]
theorem IY (c:Int):aq (fh c [])=λ_=>0:=funext λm=>gR m
end L2
namespace L2
open PySem PySem.Spec PyProof.Rows
theorem kB {env:Env}:∀ {names:List (Str×NameKind)} {x:Str} {kd:NameKind},kd=.cell\/kd=.free->
  (names.map λ(n,k)=>if (k == Z? && env.scope.kind == .function && env.kindOf n == j? .cell) then (n,K!) else (n,k)).lookup x=j? kd->names.lookup x=j? .free\/names.lookup x=j? .cell
 | [],_,_,_,h=>by simp at h
 | (n,k)::r,x,kd,hk,h=>by
  have ih:=@kB env r x kd hk;have h':List.lookup x ((if (k == Z? && env.scope.kind == .function && env.kindOf n == j? .cell)=true then (n,K!) else (n,k))::(r.map λ(n,k)=>if (k == Z? && env.scope.kind == .function && env.kindOf n == j? .cell) then (n,K!) else (n,k)))=j? kd:=h
  by_cases hc:(k == Z? && env.scope.kind == .function && env.kindOf n == j? .cell)=true
  ·rw[Ja hc] at h'
   have hkf:k=.free:=by
    simp only[T?,beq_iff_eq] at hc
    exact hc.1.1
   subst hkf;cases hx:x == n with
   | true=>exact .inl (by simp only[Y4,hx])
   | false=>simp only[Y4,hx] at h' ⊢;exact ih h'
  ·rw[W9 hc] at h'
   cases hx:x == n with
   | true=>
    simp only[Y4,hx] at h' ⊢
    have e:k=kd:=M? h';subst e;rcases hk with hk|hk
    ·rw[hk];exact .inr rfl
    ·rw[hk];exact .inl rfl
   | false=>simp only[Y4,hx] at h' ⊢;exact ih h'
structure cO (X:Cx)(N:List Str)(sl:List (Option Nat))(scope:Scope)(own:Str):Prop where
 kind:scope.kind=.function
 cells:∀n acc,cellsFrom n scope.names acc=(own,n)::acc
 push:∀h,pushCells h scope.names=h.push { cls:=.type "cell",data:=.cell q? }
 Sl:∀x,scope.names.lookup x=j? .cell->x=own
 Vs:scope.names.lookup own=j? .cell
 locs:∀y∈scope.names,y.2=.local->scope.names.lookup y.1=j? .local
 frees:∀y∈scope.names,y.2=.free->X.env.kindOf y.1=j? .cell\/X.env.kindOf y.1=j? .free
 len:sl.length=N.length
 out:∀(j i:Nat) (x:Str),N[j]?=j? x->sl[j]?=j? (j? i)->X.N[i]?=j? x/\scope.names.lookup x=j? .free
abbrev dY (X:Cx)(N:List Str)(scope:Scope)(own:Str)(cl:List (Str×o?))(C:o?)(s2:u?)(H2:Hp)(fp:List o?):Cx:=
 { X with N:=N,s₀:=s2,H₀:=H2,env:=compEnvC scope cl C X.env,outer:=X.stack,ex:=fp,fn:=λx=>decide (x=own),pn:=[],xe:=λ_ _=>False }
theorem Dz {M:Model}{A:A!}{E:l?->u?->Prop}{s:u?}{scope:Scope}{own:Str}{globals:o?}{cl:List (Str×o?)}{qual:Str}{env:Env}{Q:Env->u?->Prop}
  (hc:∀n acc,cellsFrom n scope.names acc=(own,n)::acc) (hp:∀h,pushCells h scope.names=h.push { cls:=.type "cell",data:=.cell q? })
  (hQ:Q (newEnv scope s.heap.objs.size globals ((own,s.heap.objs.size+1)::cl) qual q? .none (j? env) builtinsNs) { s with heap:=(s.heap.push { cls:=.type "dict",data:=.dict #[] }).push { cls:=.type "cell",data:=.cell q? } }):
  L? M A (newFunctionEnv scope globals cl [] qual q? .none (j? env)) Q E s:=by
 simp only[newFunctionEnv,Option.isSome_some,if_true]
 refine B? (wpAny_alloc ?_)
 refine B? (wpAny_layCells _ (λname kind cells=>by cases hkc:kind == K! <;> simp[hkc]) _ _ _ _ ?_)
 rw[hc,hp];rw[show({ s with heap:=s.heap.push { cls:=.type "dict",data:=.dict #[] } }:u?).heap.objs.size=s.heap.objs.size+1 from Heap.size_push ..]
 rw[List.forIn_nil];exact B? (J? (J? hQ))
section
variable {X:Cx} {N:List Str} {sl:List (Option Nat)} {scope:Scope} {own:Str}
theorem cO.clos (S:cO X N sl scope own)(ok:X.Ok):closureFor scope X.env=pure (aU X.env.cells scope.names []):=
 iN λy hy hf=>ok.has y.1 (S.frees y hy hf)
theorem cO.Sm (S:cO X N sl scope own){x:Str}(hf:scope.names.lookup x=j? .free){c:o?}(hc:X.env.cells.lookup x=j? c):(aU X.env.cells scope.names []).lookup x=j? c:=
 gp hc _ _ (.inr (U? hf)) λd hd=>by simp at hd
theorem cO.cell (S:cO X N sl scope own){x:Str}(hf:scope.names.lookup x=j? .free){c c0:o?}(hc:X.env.cells.lookup x=j? c):((own,c0)::aU X.env.cells scope.names []).lookup x=j? c:=by
 have hne:(x == own)=false:=by
  refine beq_eq_false_iff_ne.mpr λz=>?_
  subst z;rw[S.Vs] at hf;cases hf
 rw[Y4,hne];exact S.Sm hf hc
theorem wQ {cl:List (Str×o?)}{x:Str}{c c0:o?}(h:((own,c0)::cl).lookup x=j? c):(x=own/\c=c0)\/(x≠own/\cl.lookup x=j? c):=by
 rw[Y4] at h;cases e:x == own with
 | true=>rw[e] at h;exact .inl ⟨by simpa using e,(M? h).symm⟩
 | false=>rw[e] at h;exact .inr ⟨by simpa using e,h⟩
theorem cO.ok (S:cO X N sl scope own){pins:List (o?×Obj)}{σ:St}{H2:Hp}{s2:u?}{fp:List o?}{C c0:o?}(I:Inv X pins σ H2 s2)(hf:∀b∈fp,j6 X pins H2 b)(hlt:∀b∈fp,b<s2.heap.objs.size)(hC:s2.heap.objs.size<=C)(hc0:s2.heap.objs.size<=c0):
  (dY X N scope own ((own,c0)::aU X.env.cells scope.names []) C s2 H2 fp).Ok where
 mod:=I.ok.mod
 kind:=S.kind
 glob:=I.ok.glob
 blt:=I.ok.blt
 above:=hC
 inj:=λx y c h1 h2=>by
  rcases wQ h1 with ⟨e1,e2⟩|⟨e1,e2⟩
  ·rcases wQ h2 with ⟨e3,e4⟩|⟨e3,e4⟩
   ·rw[e1,e3]
   ·obtain⟨v,q⟩:=I.cell y c (bH.back e4)
    have:=q.lt
    rw[e2] at this;exact Jg (Yk this hc0) (Zz _)
  ·rcases wQ h2 with ⟨e3,e4⟩|⟨e3,e4⟩
   ·obtain⟨v,q⟩:=I.cell x c (bH.back e2)
    have:=q.lt
    rw[e4] at this;exact Jg (Yk this hc0) (Zz _)
   ·exact I.ok.inj x y c (bH.back e2) (bH.back e4)
 has:=λx hx=>by
  have hx':scope.names.lookup x=j? .free\/scope.names.lookup x=j? .cell:=by
   rcases hx with hx|hx
   ·exact kB (.inl rfl) hx
   ·exact kB (.inr rfl) hx
  rcases hx' with hx'|hx'
  ·obtain⟨c,hc⟩:=I.ok.has x (S.frees _ (U? hx') rfl)
   exact⟨c,S.cell hx' hc⟩
  ·have:=S.Sl x hx'
   subst this;exact⟨c0,by show List.lookup x ((x,c0)::_)=_;rw[Y4,beq_self_eq_true]⟩
 NF:=λx c h hl=>by
  rcases wQ hl with ⟨_,e2⟩|⟨e1,_⟩
  ·rw[e2];exact hc0
  ·exact Jg (Jc h) e1
 hd:=I.ok.hd
 frames:=I.ok.frames
 stk:=.inl rfl
 Q9:=λb hb=>⟨Yu (Yk (hlt b hb) hC),λx c h=>by
  rcases wQ h with ⟨_,e2⟩|⟨_,e2⟩
  ·rw[e2];exact Nat.ne_of_gt (Yk (hlt b hb) hc0)
  ·exact(hf b hb).2.2.2.2.1 x c (bH.back e2)⟩
 bs:=I.bs
 EU:=Yn I.ok.EU I.sz
 A7:=λb o e hb=>by
  rcases (hf b hb).2.2.2.1 with z|z
  ·exact I.ok.A7 b o e z
  ·exact Jg (Yk (Yk (Ym e) I.ok.EU) z) (Zz _)
 A8:=λb hb z=>by
  rcases List.mem_cons.mp (I.tu b z) with e|e
  ·exact(hf b hb).2.1 e
  ·exact(hf b hb).2.2.1 e
 nh:=I.stack
 HW:=I.vA
theorem cO.again (S:cO X N sl scope own){pins:List (o?×Obj)}{σ:St}{H2:Hp}{s2:u?}{fp:List o?}{C c0:o?}(I:Inv X pins σ H2 s2)(hf:∀b∈fp,j6 X pins H2 b)
  {uL:List (o?×Obj)} {σ':St} {H':Hp} {s':u?} (J:Inv (dY X N scope own ((own,c0)::aU X.env.cells scope.names []) C s2 H2 fp) uL σ' H' s'):
  Inv (dY X N scope own ((own,c0)::aU X.env.cells scope.names []) C s2 H2 fp) uL (fO sl σ) H' s':=by
 obtain⟨m,hn,_⟩:=J.loc;refine⟨J.ok,J.os,J.bare,J.base,⟨m,hn,λj x v e1 e2 _=>?_⟩,J.cell,J.free,J.jm,J.pin,J.hok,?_⟩
 ·obtain⟨i,h1,h2⟩:=uO e2
  obtain⟨hN,hfree⟩:=S.out j i x e1 h1;have hk:=S.frees _ (U? hfree) rfl;obtain⟨m0,hn0,Iw⟩:=I.loc;have hv:Q8 X.env.scope x:=by
   rcases hk with hk|hk
   ·exact .inr (.inl hk)
   ·exact .inr (.inr hk)
  obtain⟨u,r,l⟩:=Iw i x v hN h2 hv;refine⟨u,r,.inr ⟨?_,?_⟩⟩
  ·rcases fW (env:=X.env) hfree with z|z
   ·exact .inr z
   ·exact .inl z
  ·rcases l with ⟨z,_⟩|⟨_,c,hc,q⟩
   ·rcases hk with hk|hk
    ·have hk':X.env.kindOf x=j? .cell:=hk
     rw[hk'] at z;cases z
    ·have hk':X.env.kindOf x=j? .free:=hk
     rw[hk'] at z;cases z
   ·refine⟨c,S.cell hfree hc,?_⟩
    obtain⟨o,ho,hd⟩:=q;have O8:c ∉ fp:=λz=>(hf c z).2.2.2.2.1 x c hc rfl
    obtain⟨RJ,e⟩:=J.base.any ho (I.jm x c hc) O8;exact⟨_,e,hd⟩
 ·unfold fO
  rw[Ya];exact S.len
theorem zl {elt tg iter:Expr}{ifs:List Expr}{pos pos2:Pos}{wi:TI}{g:TG}{o_:TT}{te:TE}{use:Option (l?->Sem Unit)}{QQ:l?->u?->Prop}(S:cO X N sl scope own)(kW:X.calm=true)(hi:PI X tg iter wi)
  (hg:∀cl C s2 H2 fp,PG (dY X N scope own cl C s2 H2 fp) tg g) (hif:∀cl C s2 H2 fp,NQ (dY X N scope own cl C s2 H2 fp) ifs o_) (he:∀cl C s2 H2 fp,PE (dY X N scope own cl C s2 H2 fp) elt te)
  (hs:∀x,foldedSetIterable iter X.env x=pure x) {pins:List (o?×Obj)} {s:u?} {σ:St} {H:Hp} {Q:VK} (I:Inv X pins σ H s) (h:yZ wi sl g o_ te σ H Q)
  (hend:∀(D C:o?) (H3:Hp) (s4:u?) (fl:Flow),Inv X pins σ H3 s4->H3 C=q?->C≠X.env.locals->C ∉ X.fs->X.s₀.heap.objs.size<=C->(∀x c,X.env.cells.lookup x=j? c->c≠C)->(∀p∈X.pn++pins,p.1≠C)->(∃m,s4.heap.Ns C m)->Q (.ref D) H3->
   compPost (S? X.prog X.w) X.A X.xe use QQ (.ref D) C (.ok fl) s4):
  L? (S? X.prog X.w) X.A (comprehension (.ListComp elt [⟨tg,iter,ifs,0⟩] scope pos) scope X.env pos2 (newList []) false (eval iter X.env) use) QQ X.xe s:=by
 refine wpAny_comprehension_free (use:=use) rfl hs (S.clos I.ok) S.kind S.locs (B! (hi pins s σ H _ I h) (λxv s1 h1=>B! h1 (λitv s2 h2=>?_) λ_ _ e=>e) λ_ _ e=>e)
 obtain⟨it,fp,tn,J,H2,rfl,I2,T,st2,f2,hR⟩:=h2;obtain⟨W,⟨m0,w0⟩,turn⟩:=hR _ I2.fresh;refine wpAny_newObj_type (Dz S.cells S.push ?_)
 dsimp only
 generalize hP:s2.heap.push { cls:=.type "list",dict:=q?,data:=.seq ([]:List l?).toArray }=P2;generalize hh1:(P2.push { cls:=.type "dict",data:=.dict #[] }).push { cls:=.type "cell",data:=.cell q? }=h₁;have hC:P2.objs.size=s2.heap.objs.size+1:=by rw[<- hP,Heap.size_push]
 have hDC:s2.heap.objs.size≠P2.objs.size:=by rw[hC];exact Yu (Nat.lt_succ_self _)
 have tK:s2.heap.objs.size<=P2.objs.size:=by rw[hC];exact W7 _
 have hcle:s2.heap.objs.size<=P2.objs.size+1:=Nat.le_succ_of_le tK;have hDc:s2.heap.objs.size≠P2.objs.size+1:=by rw[hC];exact Yu (Nat.lt_succ_of_lt (Nat.lt_succ_self _))
 have we:h₁.Ns P2.objs.size (λ_=>q?):=hh1 ▸ (Heap.Ns.new P2 (.type "dict")).keeps (λb o e=>Yh _ e)
 have hlt:∀b∈fp,b<s2.heap.objs.size:=λb hb=>let ⟨o,e,_⟩:=T.obj 0 _ st2 b hb;Ym e
 have old:∀b o,s2.heap.get? b=j? o->h₁.get? b=j? o:=λb o e=>hh1 ▸ Yh _ (Yh _ (hP ▸ Yh _ e))
 have Vh:h₁.get? s2.heap.objs.size=j? { cls:=.type "list",dict:=q?,data:=.seq ([]:List l?).toArray }:=hh1 ▸ Yh _ (Yh _ (hP ▸ Y0 _ rfl));have hc1:h₁.IsCell (P2.objs.size+1) q?:=by
  have:(P2.push { cls:=.type "dict",data:=.dict #[] }).objs.size=P2.objs.size+1:=Heap.size_push ..
  rw[<- this,<- hh1];exact⟨_,Y0 _ rfl,rfl⟩
 have hok:=S.ok (C:=P2.objs.size) (c0:=P2.objs.size+1) I2 f2 hlt tK hcle;have O9:uK X.prog X.w (upd H2 s2.heap.objs.size (.lst [])) h₁:=I2.hok.laid old (Yd _) ⟨Y1 _,[],_,.nil,Vh⟩;have Vi:Un (frs X.stack) fp H2 (upd H2 s2.heap.objs.size (.lst [])) s2.heap h₁:=Un.laid old (Yd _) I2.fresh;have Di:∀x c,((own,P2.objs.size+1)::aU X.env.cells scope.names []).lookup x=j? c->∃v,h₁.IsCell c v:=λx c hc=>by
  rcases wQ hc with ⟨_,e2⟩|⟨_,e2⟩
  ·rw[e2];exact⟨_,hc1⟩
  ·obtain⟨v,o,ho,hd⟩:=I2.cell x c (bH.back e2)
   exact⟨v,o,old c o ho,hd⟩
 have Dj:∀x c,((own,P2.objs.size+1)::aU X.env.cells scope.names []).lookup x=j? c->upd H2 s2.heap.objs.size (.lst []) c=q?:=λx c hc=>by
  rcases wQ hc with ⟨_,e2⟩|⟨_,e2⟩
  ·rw[e2,aL (Ne.symm hDc)]
   exact I2.hok.fresh hcle
  ·obtain⟨v,q⟩:=I2.cell x c (bH.back e2)
   rw[aL (Yu q.lt)];exact I2.jm x c (bH.back e2)
 have Dk:upd H2 s2.heap.objs.size (.lst []) P2.objs.size=q?:=by
  rw[aL (Ne.symm hDC)];exact I2.hok.fresh tK
 have start:∀tk:Nat,Inv (dY X N scope own ((own,P2.objs.size+1)::aU X.env.cells scope.names []) P2.objs.size s2 H2 fp) [] (fO sl σ) (upd H2 s2.heap.objs.size (.lst [])) { s2 with heap:=h₁,toks:=tk }:=λtk=>by
  have J0:Inv (dY X N scope own ((own,P2.objs.size+1)::aU X.env.cells scope.names []) P2.objs.size s2 H2 fp) [] (Yo N.length q?) (upd H2 s2.heap.objs.size (.lst [])) { s2 with heap:=h₁,toks:=tk }:=
   ⟨hok,rfl,I2.bare,Vi,⟨_,we,λi x v e1 e2 _=>by
    rw[Zl] at e2;split at e2 <;> cases e2⟩,Di,Dk,Dj,λp hp=>Jg (show p∈([]:List (o?×Obj)) from hp) (by simp),O9,by simp⟩
  exact S.again I2 f2 J0
 have stK:tn 0 h₁:=T.keep _ _ _ st2 λb hb o e=>old b o e
 have Vj:∀b∈fp,upd H2 s2.heap.objs.size (.lst []) b=q?:=λb hb=>by
  rw[aL (Yu (hlt b hb))];exact(f2 b hb).1
 have vW:∀ {H':Hp},(∀b∈fp,H' b=q?)->∀b∈fp,j6 (dY X N scope own ((own,P2.objs.size+1)::aU X.env.cells scope.names []) P2.objs.size s2 H2 fp) [] H' b:=λhn b hb=>
  ⟨hn b hb,Yu (Yk (hlt b hb) tK),λz=>hok.A8 b hb z,.inl hb,λx c hc=>(hok.Q9 b hb).2 x c hc,λp hp=>Jg (show p∈([]:List (o?×Obj)) from hp) (by simp)⟩
 have loop:∀tk:Nat,codeAny (S? X.prog X.w) X.A (.compLoop (.ListComp elt [⟨tg,iter,ifs,0⟩] scope pos) 0 (.ref it) (.ref s2.heap.objs.size) (compEnvC scope ((own,P2.objs.size+1)::aU X.env.cells scope.names []) P2.objs.size X.env))
   (compPost (S? X.prog X.w) X.A X.xe use QQ (.ref s2.heap.objs.size) P2.objs.size) { s2 with heap:=h₁,toks:=tk }:=λtk=>by
  refine codeAny_loop rfl (λn s'=>∃i H',Inv (dY X N scope own ((own,P2.objs.size+1)::aU X.env.cells scope.names []) P2.objs.size s2 H2 fp) [] (fO sl σ) H' s'/\tn i s'.heap/\(∀b∈fp,H' b=q?)/\W i n H') ?_ m0 ⟨0,_,start tk,stK,Vj,w0⟩
  rintro n s3 ⟨i,H3,I3,st3,NN,w3⟩;show L? _ X.A ((compTurn (.ListComp elt [⟨tg,iter,ifs,0⟩] scope pos) 0 (.ref it) (.ref s2.heap.objs.size) (compEnvC scope ((own,P2.objs.size+1)::aU X.env.cells scope.names []) P2.objs.size X.env)).onRaise (λx=>do noteFrame x (compEnvC scope ((own,P2.objs.size+1)::aU X.env.cells scope.names []) P2.objs.size X.env);theTreesLotGoes x)) _ _ s3
  refine wpAny_noted ?_
  rw[compTurn_list];rcases turn i n H3 w3 with ⟨stop,qn⟩|⟨go,step⟩
  ·refine B? (wpAny_standAt (B? (B! (T.done (dY X N scope own ((own,P2.objs.size+1)::aU X.env.cells scope.names []) P2.objs.size s2 H2 fp) rfl rfl rfl kW i [] s3 _ H3 _ I3 (vW NN) st3 stop) (λr s4 ⟨hr,I4⟩=>?_) λ_ _ z=>z)))
   subst hr;refine J? ?_
   obtain⟨m4,Vk,_⟩:=I4.loc;have u0:Un (frs X.stack) fp H2 H3 s2.heap s4.heap:=I4.base;have hI:Inv X pins σ H3 s4:=I2.HX (s':=s4) (ch:=fp) I4.os u0 I4.hok I4.bare λb hb=>⟨(f2 b hb).2.2.2.1,(f2 b hb).2.1,(f2 b hb).2.2.2.2.1,(f2 b hb).2.2.2.2.2⟩
   have Mk:=I2.uW (H':=H3) tK I4.free;exact hend _ _ H3 s4 _ hI I4.free Mk.2.1 Mk.2.2.1 (Yn I2.sz tK) Mk.2.2.2.2.1 Mk.2.2.2.2.2 ⟨m4,Vk⟩ qn
  ·refine B? (wpAny_standAt (B? (B! (T.item (dY X N scope own ((own,P2.objs.size+1)::aU X.env.cells scope.names []) P2.objs.size s2 H2 fp) rfl rfl rfl kW i [] s3 _ H3 (λ_ _=>False) I3 (vW NN) st3 go) (λr s4 ⟨u,hr,h4⟩=>?_) λ_ _ z=>z.elim)))
   subst hr;refine B? (B! h4 (λ_ s5 ⟨x,H5,I5,r5,y5,Ib,RX⟩=>?_) λ_ _ z=>z.elim)
   have RY:=I5.pinned (vW RX) (T.obj _ _ Ib);refine B? (B! (hg _ _ _ _ _ _ s5 _ H5 x u _ RY r5 (step x H5 y5)) (λ_ s6 ⟨σ6,H6,I6,q6⟩=>?_) λ_ _ z=>(show False from z).elim)
   have again:∀ {σ7:St} {H7:Hp} {s7:u?},Inv (dY X N scope own ((own,P2.objs.size+1)::aU X.env.cells scope.names []) P2.objs.size s2 H2 fp) ([]++tG fp s5.heap) σ7 H7 s7->(∃m',m'<n/\W (i+1) m' H7)->
     ∃m',m'<n/\∃i H',Inv (dY X N scope own ((own,P2.objs.size+1)::aU X.env.cells scope.names []) P2.objs.size s2 H2 fp) [] (fO sl σ) H' s7/\tn i s7.heap/\(∀b∈fp,H' b=q?)/\W i m' H':=λ{σ7 H7 s7} I7 ⟨m',hm,w7⟩=>by
    refine⟨m',hm,i+1,H7,S.again I2 f2 I7.kU,T.keep _ _ _ Ib λb hb o e=>(I7.pin (b,o) (Yr _ (Yr _ (fB hb e)))).1,λb hb=>?_,w7⟩
    obtain⟨o,e,d⟩:=T.obj _ _ Ib b hb;exact(I7.pin (b,o) (Yr _ (Yr _ (fB hb e)))).2.1
   refine B? (B! (hif _ _ _ _ _ _ s6 σ6 H6 _ I6 q6) (λok s7 ⟨H7,I7,q7⟩=>?_) λ_ _ z=>(show False from z).elim)
   cases ok with
   | false=>
    exact J? ⟨rfl,again I7 (by simpa using q7)⟩
   | true=>
    rw[Ja rfl] at q7;refine B? (B? (B! ((he _ _ _ _ _).out _ s7 σ6 H7 _ I7 q7) (λy s8 ⟨yv,H8,I8,r8,ys,hys,hlen,w8⟩=>?_) λ_ _ z=>(show False from z).elim))
    refine B? (B! (c8 (X:=dY X N scope own ((own,P2.objs.size+1)::aU X.env.cells scope.names []) P2.objs.size s2 H2 fp) _ s8 σ6 H8 (.ref s2.heap.objs.size) [yv] (.ref s2.heap.objs.size) [y]
     (λv H9=>v=.fk/\∃m',m'<n/\W (i+1) m' H9) I8 rfl (.cons r8 .nil) ⟨_,ys,yv,rfl,rfl,hys,hlen,rfl,w8⟩) (λr s9 ⟨v9,H9,I9,r9,e9,w9⟩=>?_) λ_ _ z=>(show False from z).elim)
    exact J? (J? ⟨rfl,again I9 w9⟩)
 exact codeAny_compStart_list (loop _) (T.self _ 0 _ _ _ stK (loop _))
theorem rY {elt tg iter:Expr}{ifs:List Expr}{pos:Pos}{wi:TI}{g:TG}{o_:TT}{te:TE}(S:cO X N sl scope own)(kW:X.calm=true)(hi:PI X tg iter wi)
  (hg:∀cl C s2 H2 fp,PG (dY X N scope own cl C s2 H2 fp) tg g) (hif:∀cl C s2 H2 fp,NQ (dY X N scope own cl C s2 H2 fp) ifs o_) (he:∀cl C s2 H2 fp,PE (dY X N scope own cl C s2 H2 fp) elt te)
  (hs:∀x,foldedSetIterable iter X.env x=pure x:=by intro _;rfl):
  PE X (.ListComp elt [⟨tg,iter,ifs,0⟩] scope pos) (yZ wi sl g o_ te):=by
 refine⟨?_⟩
 intro pins s σ H Q I h;rw[eval_ListComp];refine zl S kW hi hg hif he hs I h λD C H3 s4 fl I4 n1 n2 n3 n4 n5 n6 ⟨m,hn⟩ q=>?_
 exact⟨m,hn,λh' LN=>⟨.ref D,H3,I4.turned (t':=s4.toks) (λb o hb e=>(LN.2 b hb).trans e) n1 n2 (.inr n4) n5 n6,rfl,q⟩⟩
end
def nF (scope Fb:Scope):Scope:=
 { scope with names:=scope.names.map λ(n,k)=>if (k == .free && Fb.kind == .function && Fb.names.lookup n == j? .cell) then (n,.cell) else (n,k) }
theorem BC {own:Str}:∀ {names:List (Str×NameKind)},(names.filter λy=>decide (y.2=.cell))=[(own,.cell)]->(∀n acc,cellsFrom n names acc=(own,n)::acc)/\∀h,pushCells h names=h.push { cls:=.type "cell",data:=.cell q? }
 | [],h=>by simp at h
 | (x,k)::r,h=>by
  by_cases c:k=.cell
  ·subst c
   rw[List.filter_cons_of_pos (by simp)] at h
   have h1:x=own:=Je Prod.fst (List.cons.inj h).1;have h2:(r.filter λy=>decide (y.2=.cell))=[]:=(List.cons.inj h).2
   have q?:∀(l:List (Str×NameKind)),(l.filter λy=>decide (y.2=.cell))=[]->(∀n acc,cellsFrom n l acc=acc)/\∀h,pushCells h l=h:=by
    intro l;induction l with
    | nil=>intro _;exact⟨λ_ _=>rfl,λ_=>rfl⟩
    | cons y l ih=>
     intro hl;obtain⟨y1,y2⟩:=y;have hy:y2≠.cell:=λz=>by
      rw[List.filter_cons_of_pos (by simpa using z)] at hl
      cases hl
     rw[List.filter_cons_of_neg (by simpa using hy)] at hl
     obtain⟨i1,i2⟩:=ih hl;have hb:(y2 == K!)=false:=by simpa using hy
     refine⟨λn acc=>?_,λh=>?_⟩
     ·unfold cellsFrom;rw[hb];exact i1 n acc
     ·unfold pushCells;rw[hb];exact i2 h
   obtain⟨n1,n2⟩:=q? r h2;subst h1;refine⟨λn acc=>?_,λh=>?_⟩
   ·unfold cellsFrom;exact n1 _ _
   ·unfold pushCells;exact n2 _
  ·rw[List.filter_cons_of_neg (by simpa using c)] at h
   obtain⟨i1,i2⟩:=BC h;have hb:(k == K!)=false:=by simpa using c
   refine⟨λn acc=>?_,λh=>?_⟩
   ·unfold cellsFrom;rw[hb];exact i1 n acc
   ·unfold pushCells;rw[hb];exact i2 h
def Ft (Fb:Scope)(ON N:List Str)(sl:List (Option Nat))(scope:Scope)(own:Str):Bool:=
 decide (scope.kind=.function) && decide ((scope.names.filter λy=>decide (y.2=.cell))=[(own,.cell)]) && decide (scope.names.lookup own=j? .cell) && scope.names.all (λy=>decide (y.2=.local->scope.names.lookup y.1=j? .local)) &&
 scope.names.all (λy=>decide (y.2=.free->Fb.names.lookup y.1=j? .cell\/Fb.names.lookup y.1=j? .free)) && decide (sl.length=N.length) &&
 (Yj N.length).all λj=>match N[j]?,sl[j]? with
  | some x,j? (j? i)=>decide (ON[i]?=j? x/\scope.names.lookup x=j? .free)
  | _,_=>true
theorem f9 {X:Cx}{N:List Str}{sl:List (Option Nat)}{scope:Scope}(own:Str)(Fb:Scope)(ON:List Str)(h1:X.env.scope=Fb)(h2:X.N=ON)(hb:Ft Fb ON N sl scope own=true):cO X N sl scope own:=by
 unfold Ft at hb;simp only[T?,decide_eq_true_eq,Wh] at hb
 obtain⟨⟨⟨⟨⟨⟨b1,b2⟩,b2'⟩,b3⟩,b4⟩,b5⟩,b6⟩:=hb;obtain⟨o1,o2⟩:=BC b2;refine⟨b1,o1,o2,λx hx=>?_,b2',b3,λy hy hf=>?_,b5,λj i x e1 e2=>?_⟩
 ·have:(x,K!)∈(scope.names.filter λy=>decide (y.2=.cell)):=List.mem_filter.mpr ⟨U? hx,by simp⟩
  rw[b2] at this;exact Je Prod.fst (List.mem_singleton.mp this)
 ·have:=b4 y hy hf
  show X.env.scope.names.lookup y.1=_\/X.env.scope.names.lookup y.1=_
  rw[h1];exact this
 ·have hj:j<N.length:=(List.getElem?_eq_some_iff.mp e1).1
  have:=b6 j (List.mem_range.mpr hj)
  rw[e1,e2] at this;have q:=Jc this;rw[h2];exact q
def z8:Q?->Scope
 | .Return (j? (.ListComp _ _ sc _)) _=>sc
 | .Assign _ (.ListComp _ _ sc _) _=>sc
 | _=>default
end L2
namespace L2
open PySem PySem.Spec PySem.W PyProof.Rows
section
variable {X:Cx} {N:List Str} {sl:List (Option Nat)} {scope:Scope} {own:Str}
theorem IZ {i:Nat}{x:Str}{elt tg iter:Expr}{ifs:List Expr}{cpos pos pos':Pos}{wi:TI}{g:TG}{o_:TT}{te:TE}(hN:X.N.Nodup)(hi':X.N[i]?=j? x)(hx:Loc X.env.scope x)(S:cO X N sl scope own)(kW:X.calm=true)(hi:PI X tg iter wi)
  (hg:∀cl C s2 H2 fp,PG (dY X N scope own cl C s2 H2 fp) tg g) (hif:∀cl C s2 H2 fp,NQ (dY X N scope own cl C s2 H2 fp) ifs o_) (he:∀cl C s2 H2 fp,PE (dY X N scope own cl C s2 H2 fp) elt te)
  (hsw:swapsWith (.ListComp elt [⟨tg,iter,ifs,0⟩] scope cpos) (j? (.Name x pos')) pos.line X.env=pure true:=by rfl)
  (hs:∀x,foldedSetIterable iter X.env x=pure x:=by intro _;rfl) (hf:X.fn x=true\/X.env.scope.names.lookup x=j? .local:=by first|exact .inl rfl|exact .inr rfl|assumption):
  PS X (.Assign [.Name x pos'] (.ListComp elt [⟨tg,iter,ifs,0⟩] scope cpos) pos) (L1 (yZ wi sl g o_ te) (gE i)):=by
 refine⟨?_⟩
 intro pins s σ H D0 I h;rw[exec_Assign_Name_used _ _ _ _ hsw];refine B? (wpAny_standAt (B? ?_))
 show L? _ X.A (do let _ <- comprehension (.ListComp elt [⟨tg,iter,ifs,0⟩] scope cpos) scope X.env _ (newList []) false (eval iter X.env) (j? (assign (.Name x pos') X.env))) _ _ s
 refine B? (B! (zl (QQ:=λ_ s'=>∃σ' H',Inv X pins σ' H' s'/\D0.nx σ' H') (use:=j? (assign (.Name x pos') X.env)) S kW hi hg hif he hs I h λD C H3 s4 fl I4 n1 n2 n3 n4 n5 n6 hm q=>?_)
  (λ_ s' hq=>J? (J? hq)) λ_ _ e=>e)
 obtain⟨m,hn⟩:=hm;show L? _ X.A (assign (.Name x pos') X.env (.ref D)) _ _ _
 refine wpAny_assign_Name (tw I4 hN hi' hx (show RelV (.ref D) (.ref D) from rfl) (λs5 I5 ⟨a,LN,ha⟩=>?_) hf)
 have Vl:C≠a:=by
  rcases ha with rfl|ha
  ·exact n2
  ·exact λz=>n5 _ _ ha z.symm
 refine⟨m,hn.sameBut LN Vl,λh' O_=>⟨_,H3,I5.turned (t':=s5.toks) (λb o hb e=>(O_.2 b hb).trans e) n1 n2 (.inr n4) n5 n6,q⟩⟩
end
end L2
set_option maxHeartbeats 1000000
namespace L2
open PySem PySem.Spec PyProof.Rows
open AutoSeq1 (wpAny_loadPart')
end L2
namespace L2
open PySem PySem.Spec PyProof.Rows
def DA (a:o?)(h:O?):Prop:=∃o vs,h.get? a=j? o/\o.data=.fields vs/\vs[2]?=j? Value.none
def MA (f:Obj->Obj):Prop:=∀o vs,o.data=.fields vs->vs[2]?=j? Value.none->∃vs',(f o).data=.fields vs'/\vs'[2]?=j? Value.none
def Kp {α:Type}:Sem α->Prop
 | .pure _=>True
 | .raise _=>True
 | .unsupported _=>True
 | .finish _=>True
 | .rule _ k=>Kp (k ())
 | .at _ k=>Kp (k ())
 | .load _ _ k=>∀o,Kp (k o)
 | .update _ _ f k=>MA f/\Kp (k ())
 | .loadIfAlive _ k=>∀o,Kp (k o)
 | .point _ k=>Kp (k ())
 | .alloc _ k=>∀a,Kp (k a)
 | .fresh k=>∀t,Kp (k t)
 | .handled _ k=>∀x,Kp (k x)
 | .stack k=>∀x,Kp (k x)
 | _=>False
theorem DA.push {a:o?}{h:O?}(x:DA a h)(o:Obj):DA a (h.push o):=by
 obtain⟨o',vs,e,r⟩:=x;exact⟨o',vs,Yh o e,r⟩
theorem DA.update {a b:o?}{h:O?}{f:Obj->Obj}(x:DA a h)(hf:MA f):DA a (h.update b f):=by
 obtain⟨o,vs,e,d,r⟩:=x;by_cases c:b=a
 ·subst c
  obtain⟨vs',d',r'⟩:=hf o vs d r;exact⟨f o,vs',Heap.get?_update_self f e (Obj.isFreed_of_fields d'),d',r'⟩
 ·exact⟨o,vs,(Heap.get?_update_other _ _ c).trans e,d,r⟩
section
variable {α β:Type} {M:Model} {a:o?}
theorem MB {Γ:PySem.Ctx}(t:Sem α):Kp t->∀ {Q:α->Pos->u?->Prop} {E:l?->Pos->u?->Prop} {p:Pos} {s:u?},DA a s.heap->Sem.wp M Γ t Q E p s->
  Sem.wp M Γ t (λx p' s'=>Q x p' s'/\DA a s'.heap) (λx p' s'=>E x p' s'/\DA a s'.heap) p s:=by
 induction t with
 | pure x=>intro _ Q E p s c h;simp only[Sem.wp_pure] at h ⊢;exact⟨h,c⟩
 | raise x=>intro _ Q E p s c h;simp only[Sem.wp_raise] at h ⊢;exact⟨h,c⟩
 | unsupported x=>intro _ Q E p s c h;simp only[Sem.wp_unsupported] at h
 | finish x=>intro _ Q E p s c h;simp only[Sem.wp_finish] at h
 | rule x k ih=>intro hk Q E p s c h;simp only[Sem.wp_rule] at h ⊢;exact ih _ hk c h
 | «at» x k ih=>intro hk Q E p s c h;simp only[Sem.wp_at] at h ⊢;exact ih _ hk c h
 | load x y k ih=>intro hk Q E p s c h;rw[Sem.wp_load] at h ⊢;obtain⟨o,ho,h⟩:=h;exact⟨o,ho,ih o (hk o) c h⟩
 | update x y f k ih=>intro hk Q E p s c h;rw[Sem.wp_update] at h ⊢;exact⟨h.1,ih _ hk.2 (c.update hk.1) h.2⟩
 | loadIfAlive x k ih=>intro hk Q E p s c h;simp only[Sem.wp_loadIfAlive] at h ⊢;exact ih _ (hk _) c h
 | point x k ih=>intro hk Q E p s c h;simp only[Sem.wp_point] at h ⊢;exact ih _ hk c h
 | alloc x k ih=>intro hk Q E p s c h;simp only[Sem.wp_alloc] at h ⊢;exact ih _ (hk _) (c.push _) h
 | fresh k ih=>intro hk Q E p s c h;simp only[Sem.wp_fresh] at h ⊢;exact ih _ (hk _) c h
 | handled o k ih=>intro hk Q E p s c h;rw[Sem.wp] at h ⊢;exact ih _ (hk _) c h
 | stack k ih=>intro hk Q E p s c h;rw[Sem.wp] at h ⊢;exact ih _ (hk _) c h
 | register=>intro hk;exact M! hk
 | ask=>intro hk;exact M! hk
 | choose=>intro hk;exact M! hk
 | os=>intro hk;exact M! hk
 | call=>intro hk;exact M! hk
 | newGen=>intro hk;exact M! hk
 | genState=>intro hk;exact M! hk
 | resume=>intro hk;exact M! hk
 | yield=>intro hk;exact M! hk
 | fork=>intro hk;exact M! hk
 | thread=>intro hk;exact M! hk
 | await=>intro hk;exact M! hk
theorem BD {A:A!}{t:Sem α}(hk:Kp t){Q:α->u?->Prop}{E:l?->u?->Prop}{s:u?}(c:DA a s.heap)(h:L? M A t Q E s):
  L? M A t (λx s'=>Q x s'/\DA a s'.heap) (λx s'=>E x s'/\DA a s'.heap) s:=λΓ p hΓ=>MB t hk c (h Γ p hΓ)
theorem Kp.bind {t:Sem α}{f:α->Sem β}(ht:Kp t)(hf:∀x,Kp (f x)):Kp (t >>= f):=by
 show Kp (t.bind f)
 induction t with
 | pure x=>exact hf x
 | raise x=>trivial
 | unsupported x=>trivial
 | finish x=>trivial
 | rule x k ih=>exact ih _ ht
 | «at» x k ih=>exact ih _ ht
 | load x y k ih=>exact λo=>ih o (ht o)
 | update x y g k ih=>exact⟨ht.1,ih _ ht.2⟩
 | loadIfAlive x k ih=>exact λo=>ih o (ht o)
 | point x k ih=>exact ih _ ht
 | alloc x k ih=>exact λo=>ih o (ht o)
 | fresh k ih=>exact λo=>ih o (ht o)
 | handled o k ih=>exact λo=>ih o (ht o)
 | stack k ih=>exact λo=>ih o (ht o)
 | _=>exact M! ht
theorem z9 (b:o?):Kp (load b):=λ_=>trivial
theorem wR:Kp stack:=λ_=>trivial
theorem zm (b:o?){f:Obj->Obj}(h:MA f):Kp (update b f):=⟨h,trivial⟩
theorem BE (v:l?):Kp (fieldsOf v):=by
 unfold fieldsOf;cases v <;> first|trivial|skip
 refine(z9 _).bind λo=>?_
 split <;> trivial
theorem rZ (v:l?)(i:Nat):Kp (field v i):=by
 unfold field;refine(BE v).bind λo=>?_
 split <;> trivial
theorem DB {i:Nat}(v:l?)(h:i≠2):MA (Obj.mapFields (·.setIfInBounds i v)):=λo vs d r=>⟨_,Obj.data_mapFields d _,by rw[Array.getElem?_setIfInBounds_ne h];exact r⟩
theorem nG (v:l?){i:Nat}(x:l?)(h:i≠2):Kp (setField v i x):=by
 unfold setField;cases v <;> first|trivial|skip
 show Kp (updateField _ i x)
 unfold updateField;refine(z9 _).bind λo=>?_
 split
 ·split
  ·exact zm _ (DB x h)
  ·trivial
 ·trivial
theorem z_ (v:l?)(f:Option o?):Kp (setFlight v f):=by
 unfold setFlight;refine(rZ _ _).bind λo=>?_
 split
 ·exact nG _ _ (by decide)
 ·trivial
theorem BF:∀l:List Env,Kp (readyFrames l)
 | []=>trivial
 | env::outer=>by
  unfold readyFrames;cases env.frame with
  | none=>trivial
  | some f=>
   refine(z9 _).bind λo=>?_
   split
   ·trivial
   ·refine Kp.bind ?_ λb=>Kp.bind ?_ λv=>Kp.bind (zm _ λo vs d r=>⟨vs,d,r⟩) λ_=>BF outer
    ·unfold behindIsImport
     split
     ·trivial
     ·split
      ·trivial
      ·exact(rZ _ _).bind λ_=>trivial
    ·unfold keptBack
     cases outer with
     | nil=>
      dsimp only
      split
      ·trivial
      ·refine Kp.bind ?_ λ_=>?_
       ·unfold underTheClaimsCaller
        exact wR.bind λ_=>trivial
       ·split <;> trivial
     | cons=>trivial
theorem DC (env:Env):Kp (PySem.frameOf env):=by
 unfold PySem.frameOf;refine Kp.bind ?_ λl=>?_
 ·unfold frameEnvs
  exact wR.bind λ_=>trivial
 ·refine Kp.bind ?_ λx=>?_
  ·unfold frameObject
   split
   ·trivial
   ·exact(BF _).bind λ_=>trivial
  ·split <;> trivial
theorem I_ (f:o?)(b:Bool):Kp (entryPlaceOf f b):=by
 unfold entryPlaceOf;refine wR.bind λx=>?_
 split <;> trivial
theorem Jf (a b c d e:l?)(l:List l?):Kp (EntryCells.newEntry a b c d e l):=by
 unfold EntryCells.newEntry newFields newObj;generalize ([a,b,c,d,e]++(if l.isEmpty=true then Yo 6 Value.none else l)).toArray=X
 dsimp only
 split
 ·trivial
 ·unfold newObjAsIs
  exact λ_=>trivial
theorem MC (e:l?)(env:Env):Kp (noteFrame e env):=by
 unfold noteFrame;cases env.frame with
 | none=>trivial
 | some f=>
  refine(rZ _ _).bind λh=>?_
  have z:Kp (do setField e 1 (<- EntryCells.newEntry h (<- PySem.frameOf env) .none (rawInt f) .none (<- entryPlaceOf f (h != .none)))):=
   (DC env).bind λ_=>(I_ _ _).bind λ_=>(Jf _ _ _ _ _ _).bind λ_=>nG _ _ (by decide)
  split
  ·refine(rZ _ _).bind λ_=>?_
   split
   ·trivial
   ·exact(nG _ _ (by decide)).bind λ_=>z
  ·exact z
theorem wU (e:l?)(env:Env):Kp (leaving env e):=(MC e env).bind λ_=>z_ _ _
end
section
variable {P:F?} {w:H?} {H H':Hp} {h h':O?} {a:o?} {o:HO}
theorem iV.here (x:iV P w H h a o):∃u,h.get? a=j? u:=by
 induction o with
 | lst xs=>obtain⟨_,_,_,_,e⟩:=x;exact⟨_,e⟩
 | tup xs=>obtain⟨_,_,_,ob,e,_⟩:=x;exact⟨_,e⟩
 | dK kvs=>obtain⟨_,_,_,_,o,_,_,e,_⟩:=x;exact⟨_,e⟩
 | dT kvs=>obtain⟨_,_,_,_,o,_,_,e,_⟩:=x;exact⟨_,e⟩
 | set S n=>obtain⟨o,_,_,_,e,_⟩:=x;exact⟨_,e⟩
 | ins C dx fs=>obtain⟨_,_,_,e,_⟩:=x;exact⟨_,e⟩
 | own y=>obtain⟨_,e⟩:=x;exact⟨_,e⟩
 | xd fs=>obtain⟨_,⟨_,_,_,e,_⟩,_⟩:=x;exact⟨_,e⟩
 | oZ lo hi=>obtain⟨_,_,_,e⟩:=x;exact⟨_,e⟩
 | HU ob u ih=>obtain⟨e,_⟩:=x;exact⟨_,e⟩
 | vv ps=>exact⟨_,(show h.get? a=j? _ from x)⟩
 | met f y=>exact⟨_,(show h.get? a=j? _ from x)⟩
 | ext φ=>obtain⟨_,⟨_,e⟩,_⟩:=x;exact⟨_,e⟩
end
structure Out (P:F?)(w:H?)(outer:List Env)(H:Hp)(s:u?)(C ea:o?)(H':Hp)(s':u?):Prop where
 os:s'.os=s.os
 bare:AllBare s'.gens
 un:Un (frs outer) [] H H' s.heap s'.heap
 hok:uK P w H' s'.heap
 free:H' ea=q?
 cxn:DA ea s'.heap
 fly:∃(B:O?) (t:o?),Heap.FlyingW B outer ea (.ref C) (.ref t) s'.heap/\∀b o,s'.heap.get? b=j? o->((∃u,s.heap.get? b=j? u)\/H' b≠q?)->b ∉ frs outer->B.get? b=j? o
def LQ (P:F?)(w:H?):Gu:=λouter H s E e s'=>∃ea C H',e=.ref ea/\Out P w outer H s C ea H' s'/\E e (j? C) H'
section
variable {X:Cx} {pins:List (o?×Obj)} {σ:St} {H1 H':Hp} {s1 s2:u?} {C ea:o?}
theorem Inv.NY (J:Inv X pins σ H' s2)(stk:X.stack=X.env::X.outer)(hf:X.env.frame=j? X.env.locals)(hex:X.ex=[]){h3:O?}{B:O?}{t:o?}(he:H' ea=q?)(cx:DA ea h3)(fl:Heap.FlyingW B X.outer ea (.ref C) (.ref t) h3)
  (hB:∀b o,s2.heap.get? b=j? o->((∃u,X.s₀.heap.get? b=j? u)\/H' b≠q?)->b ∉ frs X.stack->B.get? b=j? o) (ups:s2.heap.UpToSlots h3):Out X.prog X.w X.outer X.H₀ X.s₀ C ea H' { s2 with heap:=h3 }:=by
 have hL:∀b,((∃u,X.s₀.heap.get? b=j? u)\/H' b≠q?)->b≠X.env.locals:=λb hc z=>by
  rcases hc with ⟨u,h⟩|h
  ·have:=Yk (Ym h) J.ok.above
   rw[z] at this;exact Jg this (Zz _)
  ·rw[z] at h
   exact h J.free
 have hns:∀b,((∃u,X.s₀.heap.get? b=j? u)\/H' b≠q?)->b ∉ frs X.outer->b ∉ frs X.stack:=λb hc hn hm=>by
  rcases List.mem_cons.mp (J.tu b hm) with e|e
  ·exact hL b hc e
  ·exact hn e
 have keep:∀b u,s2.heap.get? b=j? u->((∃u,X.s₀.heap.get? b=j? u)\/H' b≠q?)->b ∉ frs X.outer->h3.get? b=j? u:=λb u hb hc hn=>fl.1 _ _ (hB b u hb hc (hns b hc hn))
 have U:=J.base;rw[hex] at U;have slot:∀b o,X.s₀.heap.get? b=j? o->X.H₀ b=q?->b∈frs X.outer->∃sl,h3.get? b=j? { o with slots:=sl }:=λb o e n hb=>by
  obtain⟨sl,h2⟩:=U.slot b o e n hb (by simp)
  obtain⟨_,o',ho',hd⟩:=J.ok.nh.mem hb;rw[e] at ho';cases ho';obtain⟨RJ,h4⟩:=ups b _ h2 hd;exact⟨RJ,h4⟩
 refine⟨J.os,J.bare,⟨λb o e n hb hx=>keep b o (U.keep b o e n hb hx) (.inl ⟨_,e⟩) hb,λb o e n hb hx=>slot b o e n hb,λb o e n hx=>U.free b o e n hx,λb o e hx=>?_,U.tups,U.yl,U.ym⟩,λa o ha=>?_,he,cx,B,t,fl,λb o h3b hc hn=>?_⟩
 ·by_cases hb:b∈frs X.outer
  ·obtain⟨sl,z⟩:=slot b o e (J.ok.HW b hb) hb
   exact⟨_,z⟩
  ·obtain⟨o',z⟩:=U.there b o e hx
   exact⟨_,keep b o' z (.inl ⟨_,e⟩) hb⟩
 ·refine(J.hok a o ha).stay (λb u hb hu=>?_) (λb z=>z) λb xs z=>z
  have tr:H' b≠q?:=by
   rcases hb with z|z
   ·rw[z,ha];simp
   ·rw[z];simp
  refine keep b u hu (.inr tr) λhm=>tr ?_
  refine J.vA b ?_
  rw[stk];obtain⟨env,he',hfe⟩:=List.mem_filterMap.mp hm;exact List.mem_filterMap.mpr ⟨env,Y7 _ he',hfe⟩
 ·obtain⟨o2,h2⟩:∃o2,s2.heap.get? b=j? o2:=by
   rcases hc with ⟨u,e⟩|z
   ·exact U.there b u e (by simp)
   ·cases q:H' b with
    | none=>exact Jg q z
    | some v=>exact(J.hok b v q).here
  have:=keep b o2 h2 hc hn
  rw[h3b] at this;cases this;exact hB b o h2 hc (hns b hc hn)
theorem Inv.passes (I:Inv X pins σ H1 s1)(stk:X.stack=X.env::X.outer)(hf:X.env.frame=j? X.env.locals)(hex:X.ex=[])(o:Out X.prog X.w X.stack H1 s1 C ea H' s2){M:Model}{E:l?->u?->Prop}{Q:Unit->u?->Prop}
  (q:∀s3,Out X.prog X.w X.outer X.H₀ X.s₀ C ea H' s3->Q () s3):L? M X.A (leaving X.env (.ref ea)) Q E s2:=by
 have J:Inv X pins σ H' s2:=I.HX o.os o.un o.hok o.bare (λb z=>Jg z (by simp))
 obtain⟨B,t,fl,hB⟩:=o.fly;have hfr:=I.ok.frames;rw[stk] at hfr fl;refine B! (BD (a:=ea) (wU _ _) o.cxn (wpAny_leaves_onW (Q:=λ_ s3=>∃h3,s3={ s2 with heap:=h3 }/\Heap.FlyingW B X.outer ea (.ref C) (.ref t) h3/\s2.heap.UpToSlots h3) (E:=E) hfr hf fl λh3 Vt ups=>⟨h3,rfl,Vt,ups⟩)) (λ_ s3 z=>?_) λ_ _ z=>z.1
 obtain⟨⟨h3,rfl,Vt,ups⟩,c3⟩:=z;refine q _ (J.NY stk hf hex o.free c3 Vt (λb o' hb hc hn=>hB b o' hb ?_ hn) ups)
 refine hc.imp (λ⟨u,e⟩=>?_) id
 exact I.base.there b u e (by rw[hex];simp)
end
section
variable {P:F?} {w:H?} {K:bM} {mg:Str->Option l?} {base:O?} {N:List Str} {qual:Str} {scope:Scope} {f:o?} {cd:l?} {A:A!} {outer:List Env} {s:u?} {H:Hp} {E:XK}
theorem Jh:Passes (LQ P w) (pY (LQ P w) P w K mg base N qual scope f cd A outer s H E) E:=λpins σ H1 s1 e s2 I h=>by
 obtain⟨ea,C,H',rfl,o,hE⟩:=h;exact I.passes rfl rfl rfl o λs3 o3=>⟨ea,C,H',rfl,o3,hE⟩
theorem Sn:PassesOwn (S? P w) (pY (LQ P w) P w K mg base N qual scope f cd A outer s H E).A (pY (LQ P w) P w K mg base N qual scope f cd A outer s H E).env (pY (LQ P w) P w K mg base N qual scope f cd A outer s H E).xe:=PassesOwn.leaving
end
section
variable {X:Cx} {pins:List (o?×Obj)} {σ:St} {H1:Hp} {s1:u?} {C ea:o?}
theorem Inv.raised (J:Inv X pins σ H1 s1)(stk:X.stack=X.env::X.outer)(hf:X.env.frame=j? X.env.locals)(hex:X.ex=[]){h':O?}{args:List l?}(hx:Heap.MadeExcOf s1.heap h' ea (.ref C) args){M:Model}{E:l?->u?->Prop}{Q:Unit->u?->Prop}
  (q:∀s3,Out X.prog X.w X.outer X.H₀ X.s₀ C ea H1 s3->Q () s3):L? M X.A (leaving X.env (.ref ea)) Q E { s1 with heap:=h' }:=by
 have hfr:=J.ok.frames;have hin:∀env∈X.stack,∀b,env.frame=j? b->b∈frs X.stack:=λenv he b hb=>List.mem_filterMap.mpr ⟨env,he,hb⟩
 have hl:=PySem.W.funFrames_hide J.stack hin;have he:H1 ea=q?:=by
  cases z:H1 ea with
  | none=>rfl
  | some o=>
   obtain⟨u,hu⟩:=(J.hok ea o z).here;rw[hx.new] at hu;cases hu
 rw[stk] at hfr hl;have c0:DA ea h':=by
  obtain⟨t,e,_⟩:=hx.there;exact⟨_,_,e,rfl,rfl⟩
 refine B! (BD (a:=ea) (wU _ _) c0 (wpAny_leaves_madeW (s:={ s1 with heap:=h' }) (Q:=λ_ s3=>∃h3 t,s3={ s1 with heap:=h3 }/\Heap.FlyingW (PySem.W.hideAll s1.heap (frs X.stack)) X.outer ea (.ref C) (.ref t) h3/\h'.UpToSlots h3) (E:=E) (base:=PySem.W.hideAll s1.heap (frs X.stack)) hfr hf (λb o z=>PySem.W.of_hideAll _ z) (by rw[stk];exact hl) hx λh3 t fl _ _ ups=>⟨h3,t,rfl,fl,ups⟩)) (λ_ s3 z=>?_) λ_ _ z=>z.1
 obtain⟨⟨h3,t,rfl,fl,ups⟩,c3⟩:=z;exact q _ (J.NY stk hf hex he c3 fl (λb o hb _ hn=>PySem.W.hideAll_get _ hb hn) ((Heap.UpToSlots.of_keeps hx.keeps).trans ups))
end
def Raises (X:Cx)(E:XK):Prop:=∀(pins:List (o?×Obj)) (σ:St) (H:Hp) (s:u?) (ea C:o?) (args:List l?) (h':O?),Inv X pins σ H s->Heap.MadeExcOf s.heap h' ea (.ref C) args->E (.ref ea) (j? C) H->X.xe (.ref ea) { s with heap:=h' }
theorem r_ {P:F?}{w:H?}{K:bM}{mg:Str->Option l?}{base:O?}{N:List Str}{qual:Str}{scope:Scope}{f:o?}{cd:l?}{A:A!}{outer:List Env}{s:u?}{H:Hp}{E:XK}:
  Raises (pY (LQ P w) P w K mg base N qual scope f cd A outer s H E) E:=λpins σ H1 s1 ea C args h' I hx hE=>I.raised rfl rfl rfl hx λs3 o=>⟨ea,C,H1,rfl,o,hE⟩
theorem MD {K:bM}{h:O?}{C:o?}{bmB:List l?}{newId:String}(X:K.In h)(q:PySem.W.excIn K C bmB newId=true):∃(bm:List l?) (N:o?) (nm qn:Str) (bs:List l?) (hdct:Bool) (sn:List Str) (sub:List l?) (ab:Bool) (col:Option Bool) (dd:Option o?) (k0 k1 k2 k3 k5:Option l?) (mN:Str->Option l?),
  h.get? C=j? (excClassObj nm qn C N bs bm hdct sn sub ab col dd k0 k1 k2 k3 k5 newId)/\h.Ns N mN/\mN "__init__"=q?/\OwnTail h bmB bm:=by
 rw[PySem.W.excIn.eq_1] at q;split at q <;> try contradiction
 next dict data slots found=>
  split at q <;> try contradiction
  next D tail s0 s1 s2 s3 id s5 Ji isSlots=>
   rw[T?,T?,T?,T?,T?] at q;obtain⟨⟨⟨⟨⟨c1,c2⟩,c3⟩,c4⟩,c5⟩,c6⟩:=q;have c1:=eq_of_beq c1;have c2:=eq_of_beq c2;have c6:=eq_of_beq c6;subst c1;subst c2;obtain⟨n1,b1,m1,ns1,q1,d1,l1,u1,a1,o1,e1⟩:=data;have c3:e1=false:=by simpa using c3
   have Ji:m1=_:=Ji;rw[Ji,c3] at found;have es:slots=#[s0,s1,s2,s3,j? (.builtin id),s5]:=by
    rw[<- isSlots]
   rw[es] at found;exact⟨tail,ns1,n1,q1,b1,d1,l1,u1,a1,o1,dict,s0,s1,s2,s3,s5,_,X _ _ found,.of_isNs (PySem.W.isNs_of_in X c5),PySem.W.nsMap_none_of_in X c5 c6,PySem.W.tail_of_in X c4⟩
def PC (C:o?)(E:XK)(t:TA):TS:=λ_ σ H=>t σ H λvs H1=>vs.length<=K?/\∀ea,H1 ea=q?->E (.ref ea) (j? C) H1
theorem sr {X:Cx}{E:XK}{x:Str}{C:o?}{bmB bmN:List l?}{B Bn newId nid initId inN:String}{np cpos pos:Pos}{e:Expr}{es:List Expr}{t:TA}(hx:Raises X E)(hc:X.calm=true)(hg:Gl X x)(hm:X.mg x=j? (.ref C))(q:PySem.W.excIn X.K C bmB newId=true)
  (Fn:ExcBaseFacts Bn newId inN bmN) (hBn:bmB.contains (.type Bn)=true) (F:ExcBaseFacts B nid initId bmB) (ha:PA X (e::es) t) (hd:(x ==("__debug__":Str))=false:=by decide)
  (he:I? (e::es) X.env=(false,eval e X.env)::I? es X.env:=by rfl) (hpl:(backTo cpos (I? es X.env)).any (·.1)=false:=by rfl):PS X (.Raise (j? (.Call (.Name x np) (e::es) [] cpos)) q? pos) (PC C E t):=by
 refine⟨?_⟩
 intro pins s σ H D I h;obtain⟨v1,v2,v3,v4,v5,v6,v7,v8,v9,w1,w2,w3,w4,w5,w6,w7,mN,Ul,isN,hni,TL⟩:=MD I.mod.Uc q;refine wpAny_Raise_call_subU (bm:=v1) (N:=v2) (nm:=v3) (q:=v4) (bs:=v5) (hdct:=v6) (sn:=v7) (sub:=v8) (ab:=v9) (col:=w1) (dd:=w2) (k0:=w3) (k1:=w4) (k2:=w5) (k3:=w6) (k5:=w7) (C:=C) Fn hBn F (TL.hasType F.hasBase) (I.ok.hd hc) ?_ hni (zG I hg hm ⟨rfl,?_⟩ hd)
 ·rw[he]
  show(false || (backTo cpos (I? es X.env)).any (·.1))=false
  rw[hpl];rfl
 ·rw[he]
  have run:=ha cpos pins s σ H _ I h;rw[he] at run;refine Calls.evalArgs_plain (eV run λus s1 z=>?_)
  ·obtain⟨vs,J,I1,r,hl,hE⟩:=z
   refine⟨rfl,by rw[<- r.length];exact hl,I1.bk _ _ Ul,isN.keeps I1.bk,TL.keeps I1.bk,λh' ea hm=>hx pins σ J s1 ea C us h' I1 hm (hE ea ?_)⟩
   cases z:J ea with
   | none=>rfl
   | some o=>
    obtain⟨u,hu⟩:=(I1.hok ea o z).here;rw[hm.new] at hu;cases hu
structure wV (P:F?)(w:H?)(K:bM)(mg:Str->Option l?)(base:O?)(k:Nat)(x:Str)(ps:List Str)(sp:Sp):Prop where
 ex:∃f fd,lM P w K mg base (LQ P w) k f fd ps sp/\Binds K fd ps []/\PySem.W.keepIn K (.ref f)=true/\mg x=j? (.ref f)
section
variable {P:F?} {w:H?} {K:bM} {mg:Str->Option l?} {base:O?}
theorem Src.Vu {x:Str}{st:Q?}{N ps:List Str}{k:Nat}{sp:Sp}(F:Src K mg x st ps)(S:aK N ps (ao st))(len:∀vs H Q E,sp vs H Q E->vs.length=ps.length)
  (body:∀(f:o?) (cdv:l?) (A:A!) (outer:List Env) (s:u?) (H:Hp) (vs:List V) (Q:VK) (E:XK),fM k (A.deeper (envOfC x (ao st) s.heap.objs.size f cdv))->sp vs H Q E->
   ∃t,A_ (pY (LQ P w) P w K mg base N x (ao st) f cdv A outer s H E) (cA st) t/\t { nx:=λ_ H'=>Q .fk H',rt:=Q } (start N vs) H):wV P w K mg base (k+1) x ps sp:=by
 obtain⟨f,fd,G,B,M⟩:=F.ex;have kp:=G.kp;obtain⟨_,_,_,_,_,_,cdv,_,_,rfl,lk,hcd⟩:=G.ex;exact⟨f,_,Ik lk hcd S len (body f cdv),B,kp,M⟩
end
theorem Fv {X:Cx}{E:XK}{k n:Nat}{x:Str}{ps:List Str}{sp:Sp}{e:Expr}{es:List Expr}{t:TA}{p pos:Pos}(D:wV X.prog X.w X.K X.mg X.base k x ps sp)(hp:Passes (LQ X.prog X.w) X E)(hr:fM n X.A)(ha:PA X (e::es) t)(hle:k<=n:=by decide)(hg:Gl X x:=by rfl)
  (hdb:(x ==("__debug__":Str))=false:=by decide) (he:I? (e::es) X.env=(false,eval e X.env)::I? es X.env:=by rfl) (hpl:(backTo pos (I? es X.env)).any (·.1)=false:=by rfl):
  PE X (.Call (.Name x p) (e::es) [] pos) (Ij sp [] E t):=by
 obtain⟨f,fd,F,B,kp,M⟩:=D.ex;exact E3 F (hr.mono hle) hg M kp B .nil hp ha hdb he hpl
end L2
namespace L2
open PySem PySem.Spec PySem.W PyProof.Rows PySem.Calls PySem.Builtin PySem.Builtin.ObjectAttr PySem.Builtin.Getset_descriptor
end L2
namespace L2
open PySem PySem.Spec PySem.W PyProof.Rows
end L2
namespace Alg
open Lean.Grind
section mk
variable {α:Type} (zero one:α) (add mul:α->α->α) (neg:α->α)
def nc:Nat->α
 | 0=>zero
 | 1=>one
 | n+2=>add (nc (n+1)) one
def ic:Int->α
 | .ofNat n=>nc zero one add n
 | .negSucc n=>neg (nc zero one add (n+1))
def XX (x:α):Nat->α
 | 0=>one
 | n+1=>mul (XX x n) x
@[reducible] def Vv (az:∀a,add a zero=a) (ac:∀a b,add a b=add b a) (aa:∀a b c,add (add a b) c=add a (add b c)) (ma:∀a b c,mul (mul a b) c=mul a (mul b c)) (mo:∀a,mul a one=a)
    (ld:∀a b c,mul a (add b c)=add (mul a b) (mul a c)) (mc:∀a b,mul a b=mul b a) (na:∀a,add (neg a) a=zero):CommRing α:=
  have mz:∀a,mul a zero=zero:=λa=>by
    have h1:mul a zero=add (mul a zero) (mul a zero):=by rw[<- ld,az]
    calc mul a zero=add zero (mul a zero):=by rw[ac,az]
      _=add (add (neg (mul a zero)) (mul a zero)) (mul a zero):=by rw[na]
      _=add (neg (mul a zero)) (mul a zero):=by rw[aa,<- h1]
      _=zero:=na _
  have nn:∀a,neg (neg a)=a:=λa=>by
    calc neg (neg a)=add (neg (neg a)) (add (neg a) a):=by rw[na,az]
      _=add (add (neg (neg a)) (neg a)) a:=by rw[aa]
      _=a:=by rw[na,ac,az]
  have nz:neg zero=zero:=by rw[<- az (neg zero),na]
  have nm:∀a b,mul (neg a) b=neg (mul a b):=λa b=>by
    calc mul (neg a) b=add (mul (neg a) b) (add (mul a b) (neg (mul a b))):=by rw[ac (mul a b),na,az]
      _=add (add (mul (neg a) b) (mul a b)) (neg (mul a b)):=by rw[aa]
      _=add (mul b (add (neg a) a)) (neg (mul a b)):=by rw[mc (neg a),mc a,ld]
      _=neg (mul a b):=by rw[na,mz,ac,az]
  have XY:∀i:Int,ic zero one add neg (-i)=neg (ic zero one add neg i):=λi=>by
    match i with
    | .ofNat 0=>exact nz.symm
    | .ofNat (n+1)=>rfl
    | .negSucc n=>exact(nn _).symm
  { add:=add,mul:=mul,neg:=neg,sub:=λa b=>add a (neg b)
    natCast:=⟨nc zero one add⟩,ofNat:=λn=>⟨nc zero one add n⟩,nsmul:=⟨λn a=>mul (nc zero one add n) a⟩,npow:=⟨XX one mul⟩
    add_zero:=az,add_comm:=ac,add_assoc:=aa,mul_assoc:=ma,mul_one:=mo,one_mul:=λa=>(mc _ _).trans (mo a),left_distrib:=ld
    right_distrib:=λa b c=>by
      show mul (add a b) c=add (mul a c) (mul b c)
      rw[mc,ld,mc c,mc c]
    zero_mul:=λa=>(mc _ _).trans (mz a),mul_zero:=mz,pow_zero:=λ_=>rfl,pow_succ:=λ_ _=>rfl
    ofNat_succ:=λa=>by
      match a with
      | 0=>exact((ac _ _).trans (az one)).symm
      | n+1=>rfl
    ofNat_eq_natCast:=λ_=>rfl,nsmul_eq_natCast_mul:=λ_ _=>rfl
    intCast:=⟨ic zero one add neg⟩,zsmul:=⟨λi a=>mul (ic zero one add neg i) a⟩
    neg_add_cancel:=na,sub_eq_add_neg:=λ_ _=>rfl
    neg_zsmul:=λi a=>by
      show mul (ic zero one add neg (-i)) a=neg (mul (ic zero one add neg i) a)
      rw[XY,nm]
    zsmul_natCast_eq_nsmul:=λ_ _=>rfl,intCast_ofNat:=λ_=>rfl,intCast_neg:=XY,mul_comm:=mc }
end mk
@[ext] structure c7 (α:Type) where
 c:Nat->α
section ser
variable {α:Type} [CommRing α]
def tl (a:c7 α):c7 α:=⟨λi=>a.c (i+1)⟩
def Ra (x:α)(a:c7 α):c7 α:=⟨λi=>x*a.c i⟩
def Jj (a b:c7 α):c7 α:=⟨λi=>a.c i+b.c i⟩
def Vw (a:c7 α):c7 α:=⟨λi=>- a.c i⟩
def Fw:c7 α:=⟨λ_=>0⟩
def cst (x:α):c7 α:=⟨λi=>if i=0 then x else 0⟩
def dw (a b:c7 α):Nat->α
 | 0=>a.c 0*b.c 0
 | k+1=>a.c 0*b.c (k+1)+dw (tl a) b k
def smul (a b:c7 α):c7 α:=⟨dw a b⟩
theorem su (b:c7 α):∀k,dw Fw b k=0
 | 0=>by show(0:α)*b.c 0=0;grind
 | k+1=>by
  have:=su b k
  show(0:α)*b.c (k+1)+dw Fw b k=0
  grind
theorem nH (c:c7 α):∀(k:Nat) (a b:c7 α),dw (Jj a b) c k=dw a c k+dw b c k
 | 0,a,b=>by show(a.c 0+b.c 0)*c.c 0=a.c 0*c.c 0+b.c 0*c.c 0;grind
 | k+1,a,b=>by
  have:=nH c k (tl a) (tl b)
  show(a.c 0+b.c 0)*c.c (k+1)+dw (Jj (tl a) (tl b)) c k=(a.c 0*c.c (k+1)+dw (tl a) c k)+(b.c 0*c.c (k+1)+dw (tl b) c k)
  grind
theorem uT (x:α)(c:c7 α):∀(k:Nat) (a:c7 α),dw (Ra x a) c k=x*dw a c k
 | 0,a=>by show(x*a.c 0)*c.c 0=x*(a.c 0*c.c 0);grind
 | k+1,a=>by
  have:=uT x c k (tl a)
  show(x*a.c 0)*c.c (k+1)+dw (Ra x (tl a)) c k=x*(a.c 0*c.c (k+1)+dw (tl a) c k)
  grind
theorem BG:∀(k:Nat) (a b:c7 α),dw a b (k+1)=dw a (tl b) k+a.c (k+1)*b.c 0
 | 0,a,b=>rfl
 | k+1,a,b=>by
  have:=BG k (tl a) b
  show a.c 0*b.c (k+2)+dw (tl a) b (k+1)=(a.c 0*b.c (k+2)+dw (tl a) (tl b) k)+a.c (k+2)*b.c 0
  have e:(tl a).c (k+1)=a.c (k+2):=rfl;grind
theorem oM:∀(k:Nat) (a b:c7 α),dw a b k=dw b a k
 | 0,a,b=>by show a.c 0*b.c 0=b.c 0*a.c 0;grind
 | k+1,a,b=>by
  have:=oM k (tl a) b
  rw[BG k b a];show a.c 0*b.c (k+1)+dw (tl a) b k=_
  grind
theorem ME (a b:c7 α):tl (smul a b)=Jj (Ra (a.c 0) (tl b)) (smul (tl a) b):=rfl
theorem BH (c:c7 α):∀(k:Nat) (a b:c7 α),dw (smul a b) c k=dw a (smul b c) k
 | 0,a,b=>by show(a.c 0*b.c 0)*c.c 0=a.c 0*(b.c 0*c.c 0);grind
 | k+1,a,b=>by
  have:=BH c k (tl a) b
  show(a.c 0*b.c 0)*c.c (k+1)+dw (tl (smul a b)) c k=a.c 0*(b.c 0*c.c (k+1)+dw (tl b) c k)+dw (tl a) (smul b c) k
  rw[ME,nH,uT];show _+(_+dw (smul (tl a) b) c k)=_
  grind
theorem Jk (x:α)(b:c7 α):∀k,dw (cst x) b k=x*b.c k
 | 0=>rfl
 | k+1=>by
  have e:tl (cst x)=Fw:=by
   apply c7.ext;funext i;show(if i+1=0 then x else 0)=(0:α);rw[W9 (by omega)]
  show(if 0=0 then x else 0)*b.c (k+1)+dw (tl (cst x)) b k=x*b.c (k+1)
  rw[e,su,Ja rfl];grind
instance:CommRing (c7 α):=Vv Fw (cst 1) Jj smul Vw
 (λa=>by apply c7.ext;funext i;show a.c i+0=a.c i;grind) (λa b=>by apply c7.ext;funext i;show a.c i+b.c i=b.c i+a.c i;grind)
 (λa b c=>by apply c7.ext;funext i;show a.c i+b.c i+c.c i=a.c i+(b.c i+c.c i);grind) (λa b c=>by apply c7.ext;funext i;exact BH c i a b)
 (λa=>by apply c7.ext;funext i;show dw a (cst 1) i=a.c i;rw[oM,Jk];grind)
 (λa b c=>by apply c7.ext;funext i;show dw a (Jj b c) i=dw a b i+dw a c i;rw[oM,nH,oM _ b,oM _ c])
 (λa b=>by apply c7.ext;funext i;exact oM i a b) (λa=>by apply c7.ext;funext i;show-a.c i+a.c i=0;grind)
theorem NZ (a b:c7 α)(i:Nat):(a+b).c i=a.c i+b.c i:=rfl
theorem So (a:c7 α)(i:Nat):(-a).c i=- a.c i:=rfl
theorem Jl (a b:c7 α)(i:Nat):(a-b).c i=a.c i-b.c i:=by
 show a.c i+- b.c i=_
 grind
theorem oN (x:α)(a:c7 α)(i:Nat):(cst x*a).c i=x*a.c i:=Jk x a i
end ser
end Alg
namespace Alg
open Lean.Grind
section
variable {α:Type} [CommRing α]
def Dg (a:c7 α)(n:Nat):Prop:=∀i,n<=i->a.c i=0
def tU (a:c7 α):Prop:=∃N,Dg a N
theorem Dg.mono {a:c7 α}{m n:Nat}(h:Dg a m)(k:m<=n):Dg a n:=λi hi=>h i (by omega)
theorem Dg.add {a b:c7 α}{n:Nat}(h:Dg a n)(k:Dg b n):Dg (a+b) n:=λi hi=>by rw[NZ,h i hi,k i hi];grind
theorem Dg.neg {a:c7 α}{n:Nat}(h:Dg a n):Dg (-a) n:=λi hi=>by rw[So,h i hi];grind
theorem Dg.sub {a b:c7 α}{n:Nat}(h:Dg a n)(k:Dg b n):Dg (a-b) n:=λi hi=>by rw[Jl,h i hi,k i hi];grind
theorem Dg.zero (n:Nat):Dg (0:c7 α) n:=λi _=>rfl
theorem Dg.cst (x:α):Dg (cst x) 1:=λi hi=>by show(if i=0 then x else 0)=0;rw[W9 (by omega)]
theorem Dg.one:Dg (1:c7 α) 1:=Dg.cst 1
theorem Dg.tl {a:c7 α}{n:Nat}(h:Dg a (n+1)):Dg (tl a) n:=λi hi=>h (i+1) (by omega)
theorem Dg.eq0 {a:c7 α}(h:Dg a 0):a=0:=by
 apply c7.ext;funext i;exact h i (Y1 _)
theorem PD {a:c7 α}(h:Dg a 1):a=Alg.cst (a.c 0):=by
 apply c7.ext;funext i
 show a.c i=if i=0 then a.c 0 else 0
 by_cases e:i=0
 ·rw[Ja e,e]
 ·rw[W9 e];exact h i (by omega)
theorem Aa (b:c7 α)(n:Nat)(hb:Dg b (n+1)):∀(m:Nat) (a:c7 α),Dg a (m+1)->(a*b).c (m+n)=a.c m*b.c n/\Dg (a*b) (m+n+1)
 | 0,a,ha=>by
  rw[PD ha];refine⟨by rw[Wx,oN];rfl,λi hi=>?_⟩
  rw[oN,hb i (by omega)];grind
 | m+1,a,ha=>by
  obtain⟨h1,h2⟩:=Aa b n hb m (tl a) ha.tl;have s:∀k,(a*b).c (k+1)=a.c 0*b.c (k+1)+(tl a*b).c k:=λk=>rfl
  refine⟨?_,λi hi=>?_⟩
  ·have e:m+1+n=(m+n)+1:=by omega
   rw[e,s,h1,hb _ (by omega)]
   show _+a.c (m+1)*_=_
   grind
  ·obtain⟨k,rfl⟩:∃k,i=k+1:=⟨i-1,by omega⟩
   rw[s,hb _ (by omega),h2 _ (by omega)];grind
theorem Dg.mul {a b:c7 α}{m n:Nat}(ha:Dg a m)(hb:Dg b n):Dg (a*b) (m+n):=λi hi=>by
 obtain⟨h1,h2⟩:=Aa b n (hb.mono (by omega)) m a (ha.mono (by omega))
 by_cases e:i=m+n
 ·rw[e,h1,ha m (Yd _)];grind
 ·exact h2 i (by omega)
theorem tU.add {a b:c7 α}:tU a->tU b->tU (a+b):=λ⟨m,h⟩ ⟨n,k⟩=>⟨m+n,(h.mono (by omega)).add (k.mono (by omega))⟩
theorem tU.neg {a:c7 α}:tU a->tU (-a):=λ⟨m,h⟩=>⟨m,h.neg⟩
theorem tU.mul {a b:c7 α}:tU a->tU b->tU (a*b):=λ⟨m,h⟩ ⟨n,k⟩=>⟨m+n,h.mul k⟩
theorem tU.zero:tU (0:c7 α):=⟨0,Dg.zero 0⟩
theorem tU.cst (x:α):tU (cst x):=⟨1,Dg.cst x⟩
theorem bJ {β:Type}[CommRing β](x:β)(n:Nat):x ^ (n+1)=x ^ n*x:=Semiring.pow_succ x n
theorem b7 {β:Type}[CommRing β](x:β):x ^ 0=1:=Semiring.pow_zero x
theorem jK {β:Type}[CommRing β](x:β)(m:Nat):∀n,x ^ (m+n)=x ^ m*x ^ n
 | 0=>by rw[Wy,b7];grind
 | n+1=>by rw[<- Nat.add_assoc,bJ,jK x m n,bJ];grind
theorem Jm {β:Type}[CommRing β]:∀n:Nat,(1:β) ^ n=1
 | 0=>b7 _
 | n+1=>by rw[bJ,Jm n];grind
theorem DE {β:Type}[CommRing β](x y:β):∀n:Nat,(x*y) ^ n=x ^ n*y ^ n
 | 0=>by rw[b7,b7,b7];grind
 | n+1=>by rw[bJ,DE x y n,bJ,bJ];grind
theorem DF {β:Type}[CommRing β](x:β)(m:Nat):∀n,x ^ (m*n)=(x ^ m) ^ n
 | 0=>by rw[Nat.mul_zero,b7,b7]
 | n+1=>by rw[Wz,jK,DF x m n,bJ]
def mon (x:α)(k:Nat):c7 α:=⟨λi=>if i=k then x else 0⟩
theorem sy (x:α)(b:c7 α):∀k i,(mon x k*b).c i=if k<=i then x*b.c (i-k) else 0
 | 0,i=>by
  have e:mon x 0=cst x:=rfl;rw[e,oN,Ja (Y1 _)];rfl
 | k+1,0=>by
  show(if 0=k+1 then x else 0)*b.c 0=_
  rw[W9 (by omega),W9 (by omega)];grind
 | k+1,i+1=>by
  have e:tl (mon x (k+1))=mon x k:=by
   apply c7.ext;funext j
   show(if j+1=k+1 then x else 0)=if j=k then x else 0
   by_cases h:j=k
   ·rw[Ja h,Ja (by omega)]
   ·rw[W9 h,W9 (by omega)]
  show(if 0=k+1 then x else 0)*b.c (i+1)+(tl (mon x (k+1))*b).c i=_
  rw[e,sy x b k i,W9 (by omega)]
  by_cases h:k<=i
  ·rw[Ja h,Ja (by omega)]
   have:i+1-(k+1)=i-k:=by omega
   rw[this];grind
  ·rw[W9 h,W9 (by omega)];grind
theorem Dg.mon (x:α)(k:Nat):Dg (mon x k) (k+1):=λi hi=>by show(if i=k then x else 0)=0;rw[W9 (by omega)]
structure dM (f:c7 α)(n:Nat):Prop where
 top:f.c n=1
 dg:Dg f (n+1)
theorem Jo {f:c7 α}{n:Nat}(hf:dM f n):∀(N:Nat) (a:c7 α),Dg a N->∃q,Dg q (N-n)/\Dg (a-q*f) n
 | 0,a,ha=>⟨0,Dg.zero _,by
   have:a-0*f=a:=by grind
   rw[this];exact ha.mono (Y1 _)⟩
 | N+1,a,ha=>by
  by_cases hn:N+1<=n
  ·refine⟨0,Dg.zero _,?_⟩
   have:a-0*f=a:=by grind
   rw[this];exact ha.mono hn
  ·have hd:Dg (a-Alg.mon (a.c N) (N-n)*f) N:=λi hi=>by
    rw[Jl,sy,Ja (by omega)]
    by_cases e:i=N
    ·have:N-(N-n)=n:=by omega
     rw[e,this,hf.top];grind
    ·rw[ha i (by omega),hf.dg _ (by omega)];grind
   obtain⟨q,h1,h2⟩:=Jo hf N _ hd;refine⟨q+Alg.mon (a.c N) (N-n),?_,?_⟩
   ·refine(h1.mono (by omega)).add ?_
    have:N+1-n=N-n+1:=by omega
    rw[this];exact Dg.mon _ _
   ·have:a-(q+Alg.mon (a.c N) (N-n))*f=a-Alg.mon (a.c N) (N-n)*f-q*f:=by grind
    rw[this];exact h2
theorem BI {f:c7 α}{n:Nat}(hf:dM f n):∀(M:Nat) (q:c7 α),Dg q M->Dg (q*f) n->q=0
 | 0,q,h,_=>h.eq0
 | M+1,q,h,k=>by
  have e:=(Aa f n hf.dg M q h).1;rw[k _ (by omega),hf.top] at e
  refine BI hf M q (λi hi=>?_) k
  by_cases z:i=M
  ·rw[z];grind
  ·exact h i (by omega)
def Cg (f a b:c7 α):Prop:=∃q,tU q/\a-b=q*f
theorem Cg.refl (f a:c7 α):Cg f a a:=⟨0,tU.zero,by grind⟩
theorem Cg.symm {f a b:c7 α}:Cg f a b->Cg f b a:=λ⟨q,h,e⟩=>⟨-q,h.neg,by grind⟩
theorem Cg.trans {f a b c:c7 α}:Cg f a b->Cg f b c->Cg f a c:=λ⟨q,h,e⟩ ⟨r,k,g⟩=>⟨q+r,h.add k,by grind⟩
theorem Cg.add {f a b c d:c7 α}:Cg f a b->Cg f c d->Cg f (a+c) (b+d):=λ⟨q,h,e⟩ ⟨r,k,g⟩=>⟨q+r,h.add k,by grind⟩
theorem Cg.mul {f a b c d:c7 α}(pb:tU b)(pc:tU c):Cg f a b->Cg f c d->Cg f (a*c) (b*d):=λ⟨q,h,e⟩ ⟨r,k,g⟩=>⟨q*c+b*r,(h.mul pc).add (pb.mul k),by grind⟩
theorem Cg.uniq {f:c7 α}{n:Nat}(hf:dM f n){a b:c7 α}(ha:Dg a n)(hb:Dg b n)(h:Cg f a b):a=b:=by
 obtain⟨q,⟨M,hq⟩,e⟩:=h;have z:=BI hf M q hq (by rw[<- e];exact ha.sub hb)
 rw[z] at e;grind
end
structure Md (α:Type)[CommRing α] where
 f:c7 α
 n:Nat
 mon:dM f n
 pos:0<n
section
variable {α:Type} [CommRing α]
@[ext] structure Qt (M:Md α) where
 s:c7 α
 lt:Dg s M.n
theorem Fx (M:Md α)(a:c7 α)(ha:tU a):∃r,Dg r M.n/\Cg M.f a r:=by
 obtain⟨N,h⟩:=ha;obtain⟨q,h1,h2⟩:=Jo M.mon N a h;exact⟨a-q*M.f,h2,q,⟨_,h1⟩,by grind⟩
open Classical in
noncomputable def rest (M:Md α)(a:c7 α):c7 α:=if h:∃r,Dg r M.n/\Cg M.f a r then h.choose else 0
theorem oO (M:Md α)(a:c7 α):Dg (rest M a) M.n:=by
 unfold rest;split
 ·rename_i h;exact h.choose_spec.1
 ·exact Dg.zero _
theorem sA {M:Md α}{a:c7 α}(ha:tU a):Cg M.f a (rest M a):=by
 unfold rest;rw[dif_pos (Fx M a ha)];exact(Fx M a ha).choose_spec.2
theorem rest_eq {M:Md α}{a r:c7 α}(hr:Dg r M.n)(h:Cg M.f a r):rest M a=r:=by
 have ex:∃r,Dg r M.n/\Cg M.f a r:=⟨r,hr,h⟩;refine Cg.uniq M.mon (oO M a) hr (Cg.trans (Cg.symm ?_) h)
 unfold rest;rw[dif_pos ex];exact ex.choose_spec.2
theorem Qt.DG {M:Md α}(x:Qt M):tU x.s:=⟨_,x.lt⟩
noncomputable def Qt.of (M:Md α)(a:c7 α):Qt M:=⟨rest M a,oO M a⟩
theorem PF (M:Md α):Dg (1:c7 α) M.n:=Dg.one.mono M.pos
noncomputable instance (M:Md α):CommRing (Qt M):=Vv ⟨0,Dg.zero _⟩ ⟨1,PF M⟩ (λa b=>⟨a.s+b.s,a.lt.add b.lt⟩) (λa b=>Qt.of M (a.s*b.s)) (λa=>⟨-a.s,a.lt.neg⟩)
 (λa=>by apply Qt.ext;show a.s+0=a.s;grind) (λa b=>by apply Qt.ext;show a.s+b.s=b.s+a.s;grind) (λa b c=>by apply Qt.ext;show a.s+b.s+c.s=a.s+(b.s+c.s);grind)
 (λa b c=>by
  apply Qt.ext
  show rest M (rest M (a.s*b.s)*c.s)=rest M (a.s*rest M (b.s*c.s))
  refine rest_eq (oO _ _) ?_
  have h1:Cg M.f (rest M (a.s*b.s)*c.s) (a.s*b.s*c.s):=Cg.mul (a.DG.mul b.DG) c.DG (sA (a.DG.mul b.DG)).symm (Cg.refl _ _);have h2:Cg M.f (a.s*(b.s*c.s)) (a.s*rest M (b.s*c.s)):=Cg.mul a.DG (b.DG.mul c.DG) (Cg.refl _ _) (sA (b.DG.mul c.DG));have e:a.s*b.s*c.s=a.s*(b.s*c.s):=by grind
  rw[e] at h1;exact h1.trans (h2.trans (sA (a.DG.mul ⟨_,oO _ _⟩))))
 (λa=>by
  apply Qt.ext
  show rest M (a.s*1)=a.s
  refine rest_eq a.lt ?_
  have e:a.s*1=a.s:=by grind
  rw[e];exact Cg.refl _ _)
 (λa b c=>by
  apply Qt.ext
  show rest M (a.s*(b.s+c.s))=rest M (a.s*b.s)+rest M (a.s*c.s)
  refine rest_eq ((oO _ _).add (oO _ _)) ?_
  have e:a.s*(b.s+c.s)=a.s*b.s+a.s*c.s:=by grind
  rw[e];exact Cg.add (sA (a.DG.mul b.DG)) (sA (a.DG.mul c.DG)))
 (λa b=>by
  apply Qt.ext
  show rest M (a.s*b.s)=rest M (b.s*a.s)
  have e:a.s*b.s=b.s*a.s:=by grind
  rw[e])
 (λa=>by apply Qt.ext;show -a.s+a.s=0;grind)
theorem Sq {M:Md α}(a b:Qt M):(a+b).s=a.s+b.s:=rfl
theorem Ss {M:Md α}(a:Qt M):(-a).s=-a.s:=rfl
theorem N1 {M:Md α}(a b:Qt M):(a*b).s=rest M (a.s*b.s):=rfl
end
end Alg
namespace Alg
open Lean.Grind
section
variable {α:Type} [CommRing α]
theorem MF (x y:α):cst (x+y)=cst x+cst y:=by
 apply c7.ext;funext i
 show(if i=0 then x+y else 0)=(if i=0 then x else 0)+(if i=0 then y else 0)
 split <;> grind
theorem Jp:cst (0:α)=0:=by
 apply c7.ext;funext i
 show(if i=0 then (0:α) else 0)=0
 split <;> rfl
def X:c7 α:=mon 1 1
theorem tU.X:tU (X:c7 α):=⟨2,Dg.mon 1 1⟩
end
section
variable {α:Type} [CommRing α]
def Fld (α:Type)[CommRing α]:Prop:=(1:α)≠0/\∀x:α,x≠0->∃y,x*y=1
def go (a:Nat):List Nat->List Nat
 | []=>[a]
 | c::l=>(a+c)::go c l
def row:Nat->List Nat
 | 0=>[1]
 | n+1=>go 0 (row n)
def nt (α:Type)[CommRing α]:Nat->α
 | 0=>0
 | n+1=>nt α n+1
theorem wW (a:Nat):∀b:Nat,nt α (a+b)=nt α a+nt α b
 | 0=>by show nt α a=nt α a+0;grind
 | b+1=>by
  have e:=wW a b;show nt α (a+b)+1=nt α a+(nt α b+1)
  rw[e];grind
theorem tV (a:Nat):∀b:Nat,nt α (a*b)=nt α a*nt α b
 | 0=>by show(0:α)=nt α a*0;grind
 | b+1=>by
  rw[Wz,wW,tV a b];show _=nt α a*(nt α b+1)
  grind
theorem MG:nt α 0=0:=rfl
theorem wX:nt α 1=1:=by show(0:α)+1=1;grind
def hs (x y:α):List Nat->α
 | []=>0
 | c::l=>nt α c*y ^ l.length+x*hs x y l
theorem Jq:∀(a:Nat) (l:List Nat),(go a l).length=l.length+1
 | _,[]=>rfl
 | _,c::l=>Je (·+1) (Jq c l)
theorem N2 (x y:α):∀(a:Nat) (l:List Nat),hs x y (go a l)=nt α a*y ^ l.length+(x+y)*hs x y l
 | a,[]=>by
  show nt α a*y ^ 0+x*0=nt α a*y ^ 0+(x+y)*0
  grind
 | a,c::l=>by
  have e:=N2 x y c l;show nt α (a+c)*y ^ (go c l).length+x*hs x y (go c l)=nt α a*y ^ (l.length+1)+(x+y)*(nt α c*y ^ l.length+x*hs x y l)
  rw[Jq,e,wW,bJ];grind
theorem Jr (x y:α):∀n:Nat,(x+y) ^ n=hs x y (row n)
 | 0=>by
  show _=nt α 1*y ^ 0+x*0
  rw[b7,b7,wX];grind
 | n+1=>by
  show _=hs x y (go 0 (row n))
  rw[N2,bJ,Jr x y n,MG];grind
def N3 (p:Nat):Bool:=(row p).head? == j? 1 && (row p).getLast? == j? 1 && ((row p).drop 1).dropLast.all (λc=>c % p == 0) && (row p).length == p+1 && decide (2<=p)
def PR:List Nat:=[2,3,5,7,11,13,17,19,23,29,31,37,41,43,47]
theorem PJ:∀p∈PR,N3 p=true:=by decide +kernel
end
end Alg
namespace Alg
open Lean.Grind
section
variable {α:Type} [CommRing α]
theorem vI {β:Type}[CommRing β]{q:Nat}(h:0<q):(0:β) ^ q=0:=by
 obtain⟨k,rfl⟩:∃k,q=k+1:=⟨q-1,by omega⟩
 rw[bJ];grind
end
end Alg
namespace Alg
open Lean.Grind
inductive El where
 | num (n:Int)
 | vec (l:List El)
inductive GO:Nat->El->Prop where
 | num {n:Nat} (i:Int):GO n (.num i)
 | vec {n:Nat} {l:List El}:l.length<=100->(∀e∈l,GO n e)->GO (n+1) (.vec l)
structure Rb:Type 1 where
 α:Type
 ring:CommRing α
 p:Nat
 d:Nat
 pr:p∈PR
 fld:Fld α
 ch:nt α p=0
 fr:∀x:α,x ^ (p ^ d)=x
 enc:α->El
 inj:∀x y,enc x=enc y->x=y
 ht:Nat
 fl:∀x,GO ht (enc x)
instance Rb.rg (T:Rb):Lean.Grind.CommRing T.α:=T.ring
theorem cP {p:Nat}(h:p∈PR):2<=p/\p<50:=by
 revert p;decide
def Js (p:Nat)(x:Nat):Nat->Nat
 | 0=>1 % p
 | n+1=>Js p x n*x % p
theorem Ab:∀p∈PR,∀x,x<p->x≠0->∃y,y<p/\x*y % p=1 % p:=by
 have h:(PR.all λp=>(Yj p).all λx=>x == 0 || (Yj p).any λy=>x*y % p == 1 % p)=true:=by decide +kernel
 intro p hp x hx x0;rw[Wh] at h;have h2:=h p hp;rw[Wh] at h2;have h3:=h2 x (List.mem_range.mpr hx);rw[Bool.or_eq_true] at h3;rcases h3 with z|z
 ·exact Jg (by simpa using z) x0
 ·rw[List.any_eq_true] at z
  obtain⟨y,h4,h5⟩:=z;exact⟨y,List.mem_range.mp h4,by simpa using h5⟩
theorem PL:∀p∈PR,∀x,x<p->Js p x p=x:=by
 have h:(PR.all λp=>(Yj p).all λx=>Js p x p == x)=true:=by decide +kernel
 intro p hp x hx;rw[Wh] at h;have h2:=h p hp;rw[Wh] at h2;simpa using h2 x (List.mem_range.mpr hx)
@[ext] structure Zp (p:Nat) where
 v:Nat
 lt:v<p
def Vx {p:Nat}(h:0<p)(n:Nat):Zp p:=⟨n % p,Nat.mod_lt _ h⟩
@[reducible] def sC {p:Nat} (h:2<=p):CommRing (Zp p):=Vv ⟨0,by omega⟩ ⟨1,by omega⟩ (λa b=>Vx (by omega) (a.v+b.v)) (λa b=>Vx (by omega) (a.v*b.v)) (λa=>Vx (by omega) (p-a.v))
 (λa=>by apply Zp.ext;show(a.v+0) % p=a.v;rw[Wy];exact Z4 a.lt)
 (λa b=>by apply Zp.ext;show(a.v+b.v) % p=(b.v+a.v) % p;rw[Nat.add_comm])
 (λa b c=>by apply Zp.ext;show((a.v+b.v) % p+c.v) % p=(a.v+(b.v+c.v) % p) % p;rw[Nat.mod_add_mod,Nat.add_mod_mod,Nat.add_assoc])
 (λa b c=>by apply Zp.ext;show((a.v*b.v) % p*c.v) % p=(a.v*((b.v*c.v) % p)) % p;rw[Nat.mod_mul_mod,Nat.mul_mod_mod,Wr])
 (λa=>by apply Zp.ext;show(a.v*1) % p=a.v;rw[Nat.mul_one];exact Z4 a.lt)
 (λa b c=>by apply Zp.ext;show(a.v*((b.v+c.v) % p)) % p=((a.v*b.v) % p+(a.v*c.v) % p) % p;rw[Nat.mul_mod_mod,W8,Nat.mod_add_mod,Nat.add_mod_mod])
 (λa b=>by apply Zp.ext;show(a.v*b.v) % p=(b.v*a.v) % p;rw[Wf])
 (λa=>by
  apply Zp.ext
  show((p-a.v) % p+a.v) % p=0
  rw[Nat.mod_add_mod];have:=a.lt
  have e:p-a.v+a.v=p:=by omega
  rw[e,Nat.mod_self])
section
variable {p:Nat} (h:2<=p)
theorem Jt (x:Zp p):∀n:Nat,(letI:=sC h;x ^ n:Zp p).v=Js p x.v n
 | 0=>by
  show 1=1 % p
  exact(Z4 (by omega)).symm
 | n+1=>by
  have e:=Jt x n;show((letI:=sC h;x ^ n:Zp p).v*x.v) % p=Js p x.v n*x.v % p
  rw[e]
theorem Ju:∀n:Nat,(letI:=sC h;nt (Zp p) n:Zp p).v=n % p
 | 0=>(Nat.zero_mod p).symm
 | n+1=>by
  have e:=Ju n;show((letI:=sC h;nt (Zp p) n:Zp p).v+1) % p=(n+1) % p
  rw[e,Nat.mod_add_mod]
end
def ground (p:Nat)(hp:p∈PR):Rb where
 α:=Zp p
 ring:=sC (cP hp).1
 p:=p
 d:=1
 pr:=hp
 fld:=by
  letI:=sC (cP hp).1
  have p2:=(cP hp).1;refine⟨λz=>?_,λx hx=>?_⟩
  ·have e:(1:Nat)=0:=Je Zp.v z
   omega
  ·obtain⟨y,h1,h2⟩:=Ab p hp x.v x.lt λz=>hx (Zp.ext z)
   refine⟨⟨y,h1⟩,Zp.ext ?_⟩
   show x.v*y % p=1
   rw[h2];exact Z4 (by omega)
 ch:=by
  letI:=sC (cP hp).1
  apply Zp.ext
  rw[Ju (cP hp).1,Nat.mod_self];rfl
 fr:=λx=>by
  letI:=sC (cP hp).1
  apply Zp.ext
  rw[Jt (cP hp).1,Nat.pow_one];exact PL p hp x.v x.lt
 enc:=λx=>.num x.v
 inj:=λx y e=>by
  apply Zp.ext
  injection e with e
  exact Int.ofNat.inj e
 ht:=0
 fl:=λx=>.num _
end Alg
namespace L2
open PySem PySem.Spec PyProof.Rows
def PM (K:bM)(a b:o?):It:=
 ⟨λi H=>∃xs ys x y,aO K H a xs/\aO K H b ys/\xs[i]?=j? x/\ys[i]?=j? y,
  λi H v H'=>∃r x y,v=.ref r/\H r=q?/\(∀xs,aO K H a xs->xs[i]?=j? x)/\(∀ys,aO K H b ys->ys[i]?=j? y)/\H'=upd H r (.tup [x,y]),
  λi H=>∃xs ys,aO K H a xs/\aO K H b ys/\(xs.length<=i\/ys.length<=i)⟩
theorem Jv {P:F?}{w:H?}{K:bM}{elts:List Expr}{k:Nat}{pos:Pos}(a b z TI TO i1 i2:o?)(D:ZipApart z TI TO i1 i2 a b):
  Turn P w K (.Tuple elts k pos) (PM K a b) [z,TI,TO,i1,i2] z (λi h=>IsZip h z TI TO .none/\IsPair h TI (.ref i1) (.ref i2)/\(∃a b,IsPair h TO a b)/\h.IsListIter i1 a i/\h.IsListIter i2 b i) where
 mem:=by simp
 obj:=λi h x c hc=>by
  obtain⟨hz,hTI,⟨u,v,hTO⟩,⟨o1,h1,_,d1⟩,⟨o2,h2,_,d2⟩⟩:=x;simp only[Ws,Z9,or_false] at hc
  rcases hc with rfl|rfl|rfl|rfl|rfl
  ·exact⟨_,hz,λv z=>by have z':Data.fields _=Data.cell v:=z;cases z'⟩
  ·exact⟨_,hTI,λv z=>by have z':Data.seq _ _=Data.cell v:=z;cases z'⟩
  ·exact⟨_,hTO,λv z=>by have z':Data.seq _ _=Data.cell v:=z;cases z'⟩
  ·exact⟨o1,h1,λv z=>by rw[d1] at z;cases z⟩
  ·exact⟨o2,h2,λv z=>by rw[d2] at z;cases z⟩
 keep:=λi h h' x kk=>by
  obtain⟨hz,hTI,⟨u,v,hTO⟩,h1,h2⟩:=x;exact⟨kk z (by simp) _ hz,kk TI (by simp) _ hTI,⟨u,v,kk TO (by simp) _ hTO⟩,h1.at λo ho=>kk i1 (by simp) o ho,h2.at λo ho=>kk i2 (by simp) o ho⟩
 item:=by
  intro X hP hw hK hc i pins s σ H E I hf x hg;subst hP hw hK;obtain⟨xs,ys,vx,vy,Rc,Rf,hx,hy⟩:=hg;obtain⟨its,rv,p,_⟩:=I.list Rc;obtain⟨XZ,rw',p',_⟩:=I.list Rf;obtain⟨ux,hux,rux⟩:=rv.get hx;obtain⟨uy,huy,ruy⟩:=rw'.get hy;obtain⟨hz,hTI,⟨u,v,hTO⟩,h1,h2⟩:=x;have hn0:H s.heap.objs.size=q?:=I.fresh;have hzl:z<s.heap.objs.size:=Ym hz;have aa7:TO<s.heap.objs.size:=Ym hTO;have aa8:TI<s.heap.objs.size:=Ym hTI;have h1l:i1<s.heap.objs.size:=by obtain⟨_,y,_⟩:=id h1;exact Ym y
  have h2l:i2<s.heap.objs.size:=by obtain⟨_,y,_⟩:=id h2;exact Ym y
  refine wpAny_pyNext_zip_item (x:=ux) (y:=uy) D hz hTI hTO h1 h2 p.isList p'.isList (by simpa using hux) (by simpa using huy) λh' a1 a2 a3 a4 a5 a6 a7=>?_
  refine⟨_,rfl,wpAny_letOwnedTupleGo_zip a1 λh3 b1 MH=>?_⟩
  have hT2:h3.get? s.heap.objs.size=j? { cls:=.type "tuple",data:=.seq #[ux,uy] }:=(MH.2 _ (Nat.ne_of_gt hzl)).trans a5;have I2:Inv X pins σ (upd H s.heap.objs.size (.tup [vx,vy])) { s with heap:=h3 }:=
   I.za (t':=s.toks) (ch:=[z,TI,TO,i1,i2]) (λc o hc q=>(MH.2 c λe=>hc (by simp[e])).trans (a7 c o (λe=>hc (by simp[e])) (λe=>hc (by simp[e])) (λe=>hc (by simp[e])) (λe=>hc (by simp[e])) q)) hf (Yd _)
    ⟨by show 2<=K?;rw[C?];omega,[ux,uy],.cons rux (.cons ruy .nil),_,hT2,rfl,0,rfl⟩
  refine⟨.ref s.heap.objs.size,_,I2,rfl,⟨_,vx,vy,rfl,hn0,λzs hzs=>by rw[I.qY hzs Rc];exact hx,λzs hzs=>by rw[I.qY hzs Rf];exact hy,rfl⟩,⟨b1,?_,⟨_,_,(MH.2 TO D.TOz).trans a2⟩,?_,?_⟩,λc hc=>?_⟩
  ·exact(MH.2 TI D.TIz).trans (a7 TI _ D.TIz D.TITO D.TIi1 D.TIi2 hTI)
  ·exact a3.at λo q=>(MH.2 i1 D.i1z).trans q
  ·exact a4.at λo q=>(MH.2 i2 D.i2z).trans q
  ·have hc0:=(hf c hc).1
   rw[aL ?_]
   ·exact hc0
   ·simp only[Ws,Z9,or_false] at hc
    rcases hc with rfl|rfl|rfl|rfl|rfl <;> exact Yu ‹_›
 done:=by
  intro X hP hw hK hc i pins s σ H E I hf x hg;subst hP hw hK;obtain⟨xs,ys,Rc,Rf,hle⟩:=hg;obtain⟨its,rv,p,_⟩:=I.list Rc;obtain⟨XZ,rw',p',_⟩:=I.list Rf;obtain⟨hz,hTI,⟨u,v,hTO⟩,h1,h2⟩:=x;have l1:=rv.length;have l2:=rw'.length;refine wpAny_pyNext_zip_end (I.ok.hd hc) D hz hTI hTO h1 h2 p.isList p'.isList (by rcases hle with z|z;exact .inl (by simp;omega);exact .inr (by simp;omega)) λh' hk=>?_
  exact⟨rfl,I.zT (t':=s.toks) (ch:=[z,TI,TO,i1,i2]) (λc o hc q=>hk c o (λe=>hc (by simp[e])) (λe=>hc (by simp[e])) (λe=>hc (by simp[e])) (λe=>hc (by simp[e])) q) hf⟩
 self:=λ_ _ _ _ _ x h=>wpAny_pyIter_zip x.1 h
section
variable {X:Cx} {elts:List Expr} {k:Nat} {tpos:Pos}
def Su (K:bM)(ta:TA):TI:=λσ H R=>ta σ H λvs H1=>∃a b,vs=[.ref a,.ref b]/\(∃xs,aO K H1 a xs)/\(∃ys,aO K H1 b ys)/\R (PM K a b) H1
theorem boot_zip:H! "zip"=j? (.type "zip"):=by decide +kernel
theorem PN {l m:Expr}{ta:TA}{p pos:Pos}(hg:Gl X "zip")(hm:X.mg "zip"=q?)(ha:PA X [l,m] ta)(hs:I? [l,m] X.env=(false,eval l X.env)::I? [m] X.env:=by rfl)(ht:((backTo pos (I? [m] X.env)).any λx=>x.1)=false:=by rfl):
  PI X (.Tuple elts k tpos) (.Call (.Name "zip" p) [l,m] [] pos) (Su X.K ta):=by
 intro pins s σ H R I h;refine Call_ (jD I hg hm boot_zip (L! (eV (ha pos pins s σ H _ I h) λus s1 ⟨vs,H1,I1,r1,q1⟩=>?_) hs ht))
 obtain⟨a,b,e,⟨xs,Rc⟩,⟨ys,Rf⟩,q⟩:=q1;subst e;obtain⟨u1,u2,rfl,x1,x2⟩:=vals2 r1;cases (show u1=I! a from x1)
 cases (show u2=I! b from x2)
 obtain⟨its,rv,pl,_⟩:=I1.list Rc;obtain⟨XZ,rw',X0,_⟩:=I1.list Rf;have hla:a<s1.heap.objs.size:=by obtain⟨_,y,_⟩:=pl.isList;exact Ym y
 have hlb:b<s1.heap.objs.size:=by obtain⟨_,y,_⟩:=X0.isList;exact Ym y
 refine call_zip_2 pl.isList X0.isList λh' hz hTI hTO h1 h2 hsz hk=>?_
 refine wpAny_pyIter_zip hz ?_
 have I2:Inv X pins σ H1 { s1 with heap:=h' }:=I1.kept (t':=s1.toks) hk
 refine⟨_,[s1.heap.objs.size+4,s1.heap.objs.size+2,s1.heap.objs.size+3,s1.heap.objs.size,s1.heap.objs.size+1],_,_,H1,rfl,I2,Jv a b (s1.heap.objs.size+4) (s1.heap.objs.size+2) (s1.heap.objs.size+3) s1.heap.objs.size (s1.heap.objs.size+1) ?_,⟨hz,hTI,⟨_,_,hTO⟩,h1,h2⟩,λc hc=>?_,q⟩
 ·generalize s1.heap.objs.size=n at*
  constructor <;> (simp only[o?] at *;omega)
 ·have hge:s1.heap.objs.size<=c:=by
   simp only[Ws,Z9,or_false] at hc
   rcases hc with rfl|rfl|rfl|rfl|rfl
   ·exact Wu _ _
   ·exact Wu _ _
   ·exact Wu _ _
   ·exact Yd _
   ·exact Wu _ _
  exact I1.uW hge (I1.hok.fresh hge)
theorem kc {K:bM}{l m:Expr}{ta:TA}{p pos:Pos}(hK:X.K=K)(hg:Gl X "zip")(hm:X.mg "zip"=q?)(ha:PA X [l,m] ta)(hs:I? [l,m] X.env=(false,eval l X.env)::I? [m] X.env:=by rfl)(ht:((backTo pos (I? [m] X.env)).any λx=>x.1)=false:=by rfl):
  PI X (.Tuple elts k tpos) (.Call (.Name "zip" p) [l,m] [] pos) (Su K ta):=by subst hK;exact PN hg hm ha hs ht
end
theorem BJ {K:bM}{a b D:o?}{xs ys:List V}{st:St}{g:TG}{o_:TT}{te:TE}{H1:Hp}{Q:VK}(Pv:Nat->List V->Hp->Prop)(hle:xs.length=ys.length)(h0:Pv 0 [] (upd H1 D (.lst [])))
  (hl:∀i zs H2,H2 D=j? (.lst zs)->Pv i zs H2->aO K H2 a xs/\aO K H2 b ys)
  (hs:∀i m x y zs H2 r,m=xs.length-i->i<xs.length->xs[i]?=j? x->ys[i]?=j? y->H2 D=j? (.lst zs)->zs.length<=i->Pv i zs H2->H2 r=q?->g (.ref r) st (upd H2 r (.tup [x,y])) λσ3 H3=>o_ σ3 H3 λbb H4=>
   if bb=true then te σ3 H4 λy H5=>∃ys,H5 D=j? (.lst ys)/\ys.length<K?/\∃m',m'<m/\CW xs.length D Pv (i+1) m' (upd H5 D (.lst (ys++[y]))) else ∃m',m'<m/\CW xs.length D Pv (i+1) m' H4)
  (hd:∀zs H2,H2 D=j? (.lst zs)->Pv xs.length zs H2->Q (.ref D) H2):
  q_ (PM K a b) D st g o_ te Q H1:=by
 refine⟨CW xs.length D Pv,⟨xs.length,by simp,Y1 _,[],ay,Yd _,h0⟩,?_⟩
 rintro i m H2 ⟨hm,hi,zs,hz,hlen,p⟩;obtain⟨q1,q2⟩:=hl i zs H2 hz p;by_cases hlt:i<xs.length
 ·have Jw:i<ys.length:=by omega
  refine .inr ⟨⟨xs,ys,xs[i],ys[i],q1,q2,by simp[hlt],by simp[Jw]⟩,λv H' y=>?_⟩
  obtain⟨r,x,y',e1,hr,hx,hy,e2⟩:=y;subst e1 e2;exact hs i m x y' zs _ r hm hlt (hx xs q1) (hy ys q2) hz hlen p hr
 ·have e:i=xs.length:=by omega
  subst e;exact .inl ⟨⟨xs,ys,q1,q2,.inl (Yd _)⟩,hd zs H2 hz p⟩
end L2
namespace L2
open PySem PySem.Spec PyProof.Rows Alg
inductive Rep (H:Hp)(ok:o?->Prop):V->El->Prop where
 | num (n:Int):Rep H ok (.int n) (.num n)
 | vec {a:o?} {vs:List V} {l:List El} (h:H a=j? (.lst vs)) (k:ok a) (hl:vs.length=l.length) (r:∀(i:Nat) x e,vs[i]?=j? x->l[i]?=j? e->Rep H ok x e):Rep H ok (.ref a) (.vec l)
theorem Rep.imp {H H':Hp}{ok ok':o?->Prop}(f:∀b o,H b=j? o->ok b->H' b=j? o/\ok' b){v:V}{e:El}(R:Rep H ok v e):Rep H' ok' v e:=by
 induction R with
 | num n=>exact .num n
 | vec h k hl _ ih=>exact .vec (f _ _ h k).1 (f _ _ h k).2 hl ih
abbrev Any:o?->Prop:=λ_=>True
abbrev dG (H:Hp):o?->Prop:=λb=>H b=q?
theorem Rep.same {H H':Hp}{ok:o?->Prop}{v:V}{e:El}(R:Rep H ok v e)(g:aF H H'):Rep H' ok v e:=R.imp λb o h k=>⟨g b o h,k⟩
theorem Rep.any {H:Hp}{ok:o?->Prop}{v:V}{e:El}(R:Rep H ok v e):Rep H Any v e:=R.imp λb o h k=>⟨h,trivial⟩
theorem Rep.older {H H0 H1:Hp}{v:V}{e:El}(R:Rep H (dG H1) v e)(g:aF H0 H1):Rep H (dG H0) v e:=R.imp λb o h k=>⟨h,g.free k⟩
mutual
def toD:El->N!
 | .num n=>.int n
 | .vec l=>.list (pA l)
def pA:List El->List N!
 | []=>[]
 | e::l=>toD e::pA l
end
theorem wY:∀l:List El,pA l=l.map toD
 | []=>rfl
 | e::l=>by show toD e::pA l=_;rw[wY l];rfl
mutual
theorem Ae:∀ {a b:El},toD a=toD b->a=b
 | .num n,.num m,h=>by
  have:PyData.int n=PyData.int m:=h
  injection this with e;rw[e]
 | .num n,.vec l,h=>by
  have:PyData.int n=PyData.list (pA l):=h
  cases this
 | .vec l,.num n,h=>by
  have:PyData.list (pA l)=PyData.int n:=h
  cases this
 | .vec l,.vec k,h=>by
  have:PyData.list (pA l)=PyData.list (pA k):=h
  injection this with e;rw[BK e]
theorem BK:∀ {a b:List El},pA a=pA b->a=b
 | [],[],_=>rfl
 | [],e::l,h=>by
  have:([]:List N!)=toD e::pA l:=h
  cases this
 | e::l,[],h=>by
  have:toD e::pA l=[]:=h
  cases this
 | e::l,f::k,h=>by
  have:toD e::pA l=toD f::pA k:=h
  injection this with h1 h2
  rw[Ae h1,BK h2]
end
theorem nI {n:Nat}{e:El}(h:GO n e):Fl n (toD e):=by
 induction h with
 | num i=>exact .int i
 | @vec n l _ _ ih=>
  show Fl (n+1) (.list (pA l))
  rw[wY];exact .lst λd hd=>by
   obtain⟨e,he,rfl⟩:=List.mem_map.mp hd;exact ih e he
theorem Rep.den {K:bM}{H:Hp}{ok:o?->Prop}{v:V}{e:El}(R:Rep H ok v e):Den K H v (toD e):=by
 induction R with
 | num n=>exact .int n
 | @vec a vs l h k hl r ih=>
  show Den K H (.ref a) (.list (pA l))
  rw[wY];refine .lst (aO.of h) (by rw[Ya];exact hl) λi x d h1 h2=>?_
  rw[Ye] at h2;cases e:l[i]? with
  | none=>rw[e] at h2;cases h2
  | some y=>
   rw[e] at h2;cases h2;exact ih i x y h1 e
theorem N4 {K:bM}{H:Hp}{o1 o2:o?->Prop}{u v:V}{a b:El}{n m:Nat}{Q:VK}(R:Rep H o1 u a)(S:Rep H o2 v b)(f:GO n a)(g:GO m b)(hn:n<=64)(hm:m<=64)
  (q1:a=b->Q (.bl true) H) (q2:a≠b->Q (.bl false) H):zQ K false u v H Q:=by
 refine⟨toD a,toD b,R.den,S.den,(nI f).shaped hn,(nI g).shaped hm,?_⟩
 show Q (.bl (E! (toD a) (toD b))) H
 rw[vC (nI f) (nI g)];by_cases h:a=b
 ·rw[Jb (Je toD h)];exact q1 h
 ·rw[Jd λz=>h (Ae z)];exact q2 h
theorem Sw {K:bM}{H:Hp}{o1 o2:o?->Prop}{u v:V}{a b:El}{n m:Nat}{Q:VK}(R:Rep H o1 u a)(S:Rep H o2 v b)(f:GO n a)(g:GO m b)(hn:n<=64)(hm:m<=64)
  (q1:a=b->Q (.bl false) H) (q2:a≠b->Q (.bl true) H):zQ K true u v H Q:=by
 refine⟨toD a,toD b,R.den,S.den,(nI f).shaped hn,(nI g).shaped hm,?_⟩
 show Q (.bl (!E! (toD a) (toD b))) H
 rw[vC (nI f) (nI g)];by_cases h:a=b
 ·rw[Jb (Je toD h)];exact q1 h
 ·rw[Jd λz=>h (Ae z)];exact q2 h
end L2
namespace L2
open PySem
section
variable {K:bM} {mg:Str->Option l?} {x qual:Str} {st:Q?} {ps:List Str} {C:o?}
def Vy (K:bM)(x qual:Str)(st:Q?)(f:o?):Prop:=∃(oc:l?) (od an:Option o?) (osl:Array (Option l?)) (kV doc pm cdv ct:l?),K.lookup f=j? ⟨oc,od,.func (W? x qual (dP st) (cA st) (ao st) .none kV doc pm an cdv ct),osl⟩/\PySem.W.codeIn K cdv qual=true/\PySem.W.keepIn K (.ref f)=true
def cK (K:bM)(x:Str)(st:Q?):Prop:=∃f,N? K G? x=j? (j? (.ref f))/\Vy K x x st f
def Jx (x qual:Str)(st:Q?)(ps:List Str):Prop:=∀(kV doc pm:l?) (an:Option o?) (cdv ct:l?) (us:List l?),us.length=ps.length->bindArgs (W? x qual (dP st) (cA st) (ao st) .none kV doc pm an cdv ct) ⟨us,[]⟩=pure (ps.zip us)
theorem Sx {f:o?}{oc:l?}{od an:Option o?}{osl:Array (Option l?)}{kV doc pm cdv ct:l?}(a:N? K G? x=j? (j? (.ref f)))(l:K.lookup f=j? ⟨oc,od,.func (W? x x (dP st) (cA st) (ao st) .none kV doc pm an cdv ct),osl⟩)(c:P! K cdv x=true)(k:C! K (.ref f)=true):cK K x st:=
 ⟨f,a,oc,od,an,osl,kV,doc,pm,cdv,ct,l,c,k⟩
theorem aY {h:O?}(X:K.In h)(G:h.Ns G? mg)(g:cK K x st)(hb:Jx x x st ps):Src K mg x st ps:=by
 obtain⟨f,a,oc,od,an,osl,kV,doc,pm,cdv,ct,l,c,k⟩:=g;exact Pc X G a l c k hb
theorem iP {us:List l?}{n:Nat}(h:us.length=n+1):∃x t,us=x::t/\t.length=n:=by
 cases us with
 | nil=>simp at h
 | cons x t=>exact⟨x,t,rfl,by simpa using h⟩
theorem bd1 {a0:Str}(h:∀(kV doc pm:l?) (an:Option o?) (cdv ct:l?) (u0:l?),bindArgs (W? x qual (dP st) (cA st) (ao st) .none kV doc pm an cdv ct) ⟨[u0],[]⟩=pure ([(a0,u0)])):Jx x qual st [a0]:=by
 intro a b c d e f us hl;obtain⟨u0,t0,rfl,h0⟩:=iP hl;obtain rfl:=Wl h0
 exact h a b c d e f u0
theorem Um {a0 a1:Str}(h:∀(kV doc pm:l?) (an:Option o?) (cdv ct:l?) (u0 u1:l?),bindArgs (W? x qual (dP st) (cA st) (ao st) .none kV doc pm an cdv ct) ⟨[u0,u1],[]⟩=pure ([(a0,u0),(a1,u1)])):Jx x qual st [a0,a1]:=by
 intro a b c d e f us hl;obtain⟨u0,t0,rfl,h0⟩:=iP hl;obtain⟨u1,t1,rfl,h1⟩:=iP h0;obtain rfl:=Wl h1
 exact h a b c d e f u0 u1
theorem bd3 {a0 a1 a2:Str}(h:∀(kV doc pm:l?) (an:Option o?) (cdv ct:l?) (u0 u1 u2:l?),bindArgs (W? x qual (dP st) (cA st) (ao st) .none kV doc pm an cdv ct) ⟨[u0,u1,u2],[]⟩=pure ([(a0,u0),(a1,u1),(a2,u2)])):Jx x qual st [a0,a1,a2]:=by
 intro a b c d e f us hl;obtain⟨u0,t0,rfl,h0⟩:=iP hl;obtain⟨u1,t1,rfl,h1⟩:=iP h0;obtain⟨u2,t2,rfl,h2⟩:=iP h1;obtain rfl:=Wl h2
 exact h a b c d e f u0 u1 u2
theorem bd4 {a0 a1 a2 a3:Str}(h:∀(kV doc pm:l?) (an:Option o?) (cdv ct:l?) (u0 u1 u2 u3:l?),bindArgs (W? x qual (dP st) (cA st) (ao st) .none kV doc pm an cdv ct) ⟨[u0,u1,u2,u3],[]⟩=pure ([(a0,u0),(a1,u1),(a2,u2),(a3,u3)])):Jx x qual st [a0,a1,a2,a3]:=by
 intro a b c d e f us hl;obtain⟨u0,t0,rfl,h0⟩:=iP hl;obtain⟨u1,t1,rfl,h1⟩:=iP h0;obtain⟨u2,t2,rfl,h2⟩:=iP h1;obtain⟨u3,t3,rfl,h3⟩:=iP h2;obtain rfl:=Wl h3
 exact h a b c d e f u0 u1 u2 u3
end
end L2
namespace L2
open PySem PySem.Spec PyProof.Rows
theorem Fy {K:bM}{a b:o?}{xs ys:List V}{g:TG}{tb:TS}{D:Ends}{σ:St}{H:Hp}(Pv:Nat->St->Hp->Prop)(hle:xs.length=ys.length)(h0:Pv 0 σ H)(hl:∀i σ H,i<=xs.length->Pv i σ H->aO K H a xs/\aO K H b ys)
  (hs:∀i x y r σ H,xs[i]?=j? x->ys[i]?=j? y->H r=q?->Pv i σ H->g (.ref r) σ (upd H r (.tup [x,y])) λσ2 H2=>tb { D with nx:=Pv (i+1),ct:=Pv (i+1),bk:=D.nx } σ2 H2) (hd:∀σ H,Pv xs.length σ H->D.nx σ H):
  ∃W:Nat->Nat->St->Hp->Prop,(∃m,W 0 m σ H)/\∀i m σ H,W i m σ H->
   ((PM K a b).stop i H/\D.nx σ H)\/((PM K a b).go i H/\∃N:St->Hp->Prop,(∀σ' H',N σ' H'->∃m',m'<m/\W (i+1) m' σ' H')/\∀x H',(PM K a b).NK i H x H'->g x σ H' λσ2 H2=>tb { D with nx:=N,ct:=N,bk:=D.nx } σ2 H2):=by
 refine⟨λi m σ H=>m=xs.length-i/\i<=xs.length/\Pv i σ H,⟨xs.length,by simp,Y1 _,h0⟩,?_⟩
 rintro i m σ H ⟨rfl,hi,p⟩;obtain⟨q1,q2⟩:=hl i σ H hi p;by_cases hlt:i<xs.length
 ·have Jw:i<ys.length:=by omega
  refine .inr ⟨⟨xs,ys,xs[i],ys[i],q1,q2,by simp[hlt],by simp[Jw]⟩,Pv (i+1),λσ' H' p'=>⟨xs.length-(i+1),by omega,rfl,hlt,p'⟩,λv H' y=>?_⟩
  obtain⟨r,x,y',e1,hr,hx,hy,e2⟩:=y;subst e1 e2;exact hs i x y' r σ _ (hx xs q1) (hy ys q2) hr p
 ·have e:i=xs.length:=by omega
  subst e;exact .inl ⟨⟨xs,ys,q1,q2,.inl (Yd _)⟩,hd σ H p⟩
theorem Jy (lo hi:Int):Builtin.Range.rangeSize lo hi (-1)=(((lo-hi).toNat:Nat):Int):=by
 unfold Builtin.Range.rangeSize;rw[W9 (by decide),show(-(-1:Int))=1 by decide,Int.ediv_one]
 split <;> omega
theorem small_down {a b:Int}(ha:-(2 ^ 60)<=a)(ha':a<2 ^ 60)(hb:-(2 ^ 60)<=b)(hb':b<2 ^ 60):Builtin.Range.small a b (-1)=true:=by
 unfold Builtin.Range.small;rw[Jy];simp only[Builtin.Range.rangeFitsLong,T?,Bool.or_eq_true,decide_eq_true_eq,beq_iff_eq,show ¬ ((-1:Int) > 0) by decide,if_false]
 omega
section
variable {X:Cx} {tg:Expr}
def Sy (ta:TA):TI:=λσ H R=>ta σ H λvs H1=>∃i j:Int,vs=[.int i,.int j,.int (-1)]/\(-(2 ^ 60)<=i/\i<2 ^ 60/\-(2 ^ 60)<=j/\j<2 ^ 60)/\R (Pk i (i-j).toNat) H1
theorem GP {a b c:Expr}{ta:TA}{p pos:Pos}(hg:Gl X "range")(hm:X.mg "range"=q?)(ha:PA X [a,b,c] ta)(hs:I? [a,b,c] X.env=[(false,eval a X.env),(false,eval b X.env),(false,eval c X.env)]:=by rfl)(hs2:I? [b,c] X.env=[(false,eval b X.env),(false,eval c X.env)]:=by rfl):
  PI X tg (.Call (.Name "range" p) [a,b,c] [] pos) (Sy ta):=by
 intro pins s σ H R I h;refine Call_ (jD I hg hm boot_range (L! (eV (ha pos pins s σ H _ I h) λus s1 ⟨vs,H1,I1,r1,q1⟩=>?_) (by rw[hs,hs2]) (by rw[hs2];rfl)))
 obtain⟨lo,hi,e,⟨q1,q2,q3,q4⟩,q⟩:=q1;subst e;cases r1 with
 | cons r rr=>
  cases rr with
  | cons r' rr=>
   cases rr with
   | cons r'' rr=>
    cases rr;obtain⟨t,rfl⟩:=r;obtain⟨t',rfl⟩:=r';obtain⟨t'',rfl⟩:=r'';refine call_range_3 (by decide) ?_ (z? (PyProof.noPylong_small (by omega)))
    refine wpAny_pyIter_range (IsRange.new ..) (small_down q1 q2 q3 q4) ?_
    have I2:Inv X pins σ H1 { s1 with heap:=s1.heap.push { cls:=.type "range",data:=.fields #[.int lo t,.int hi t',.int (-1) t''] },toks:=s1.toks }:=I1.kept λb o e=>Yh _ e
    refine⟨(s1.heap.push { cls:=.type "range",data:=.fields #[.int lo t,.int hi t',.int (-1) t''] }).objs.size,[(s1.heap.push { cls:=.type "range",data:=.fields #[.int lo t,.int hi t',.int (-1) t''] }).objs.size],_,_,H1,rfl,
     I2.kept (t':=s1.toks) λb o e=>Yh _ e,tN _ lo _,?_,λb hb=>?_,q⟩
    ·have e1:lo+((0:Nat):Int)*(-1)=lo:=by simp
     have e2:(((lo-hi).toNat:Nat):Int)-((0:Nat):Int)=Builtin.Range.rangeSize lo hi (-1):=by rw[Jy];omega
     show IsRangeIter _ _ (lo+((0:Nat):Int)*(-1)) ((((lo-hi).toNat:Nat):Int)-((0:Nat):Int)) (-1)
     rw[e1,e2];exact Y0 _ rfl
    ·have e:b=(s1.heap.push { cls:=.type "range",data:=.fields #[.int lo t,.int hi t',.int (-1) t''] }).objs.size:=by simpa using hb
     subst e;exact I2.uW (Yd _) (I2.hok.fresh (Yd _))
end
end L2
namespace L2
open PySem PySem.Spec PySem.W PyProof.Rows
def DH (f c':o?)(qual:Str)(params:Arguments)(body:Expr)(scope:Scope)(cl:List (Str×o?)):O?->Prop:=λh=>∃pm ctv,h.get? f=j? (kla_obj "<lambda>" qual params body scope cl pm c' ctv)
def GQ (c':o?)(qual:Str):O?->Prop:=λh=>∃oc vs t,h.get? c'=j? oc/\oc.data=.fields vs/\vs[1]?=j? (.str qual t)
def pB (H:Hp)(P f c':o?)(ps:Array l?)(pos:Pos)(qual:Str)(params:Arguments)(body:Expr)(scope:Scope)(cl:List (Str×o?)):Hp:=
 upd (upd (upd H P (.vv (ps++#[rawInt pos.line,rawInt pos.col,.ref c']))) c' (.ext (GQ c' qual))) f (.ext (DH f c' qual params body scope cl))
def Vz (P:o?)(pos:Pos)(qual:Str)(params:Arguments)(body:Expr)(scope:Scope)(cl:List (Str×o?)):TE:=λ_ H Q=>∃ps:Array l?,H P=j? (.vv ps)/\TriplesOk ps.toList/\codeAmong pos ps.toList=q?/\
 ∀f c',H f=q?->H c'=q?->f≠c'->Q (.ref f) (pB H P f c' ps pos qual params body scope cl)
def BMain (mg:Str->Option l?)(base:O?):Prop:=∃(bm:o?) (ob:Obj),mg "__builtins__"=j? (.ref bm)/\bm≠builtinsNs/\base.get? bm=j? ob/\ob.cls=.type "module"/\ob.dict=j? builtinsNs/\ob.data=.plain
section
variable {X:Cx}
theorem PU {c P:o?}{params:Arguments}{body:Expr}{scope:Scope}{pos:Pos}(hb:BMain X.mg X.base)(hc:X.env.code=.ref c)(hk:codeHdIn X.K c P=true)(hcl:∀y∈scope.names,y.2=.free->∃c,X.env.cells.lookup y.1=j? c)(hdef:defaultsOf params X.env=([],[]):=by rfl):
  PE X (.Lambda params body scope pos) (Vz P pos (X.env.qual++"<lambda>") params body scope (aU X.env.cells scope.names [])):=by
 refine⟨?_⟩
 intro pins s σ H Q I h;obtain⟨ps,hP,ht,hn,q⟩:=h;have eP:s.heap.get? P=j? (tabObj ps):=I.hok P _ hP;have hgs:=I.mod.glob.keeps I.bk;have hgP:G?≠P:=λz=>by
  obtain⟨o,es,ep,e,hd,_⟩:=hgs;rw[z,eP] at e;cases e;cases hd
 obtain⟨bm,ob,b1,b2,b3,b4,b5,b6⟩:=hb;have Jz:=I.bk _ _ b3;have VA:bm≠P:=λz=>by rw[z,eP] at Jz;cases Jz;cases b4
 have VB:bm≠G?:=λz=>by
  obtain⟨o,es,ep,e,hd,_⟩:=hgs;rw[z,e] at Jz;cases Jz;rw[hd] at b6;cases b6
 refine kla_eval hdef (kla_makeFunction (mg:=X.mg) (iN hcl) I.ok.glob hgs hc (codeHd_of_K I.EV hk) eP ht hn hgP ⟨bm,ob,b1,b2,VB,VA,Jz,b4,b5,b6⟩ λc' ctv h' tk hx hge hlt hrec htb=>?_)
 have X3:P<s.heap.objs.size:=Ym eP;have VC:c'≠P:=λz=>Jg (Yk X3 hge) (by rw[z];exact Zz _)
 have hfc:h'.objs.size≠c':=Ne.symm (Yu hlt);have hsz:s.heap.objs.size<=h'.objs.size:=Yn hge (W3 hlt);have VD:h'.objs.size≠P:=Ne.symm (Yu (Yk X3 hsz));have nf:H h'.objs.size=q?:=I.hok.fresh hsz;have nc:H c'=q?:=I.hok.fresh hge;refine⟨.ref h'.objs.size,_,?_,rfl,q h'.objs.size c' nf nc hfc⟩
 generalize hO:kla_obj "<lambda>" (X.env.qual++"<lambda>") params body scope (aU X.env.cells scope.names []) ((X.mg "__name__").getD .none) c' ctv=O;have kp:∀b o,b≠P->s.heap.get? b=j? o->(h'.push O).get? b=j? o:=λb o hb e=>Yh _ (hx b o hb e)
 have ne:∀b o,H b=j? o->b≠P->pB H P h'.objs.size c' ps pos (X.env.qual++"<lambda>") params body scope (aU X.env.cells scope.names []) b=j? o:=λb o e hb=>by
  unfold pB;rw[aL (bK e nf),aL (bK e nc),aL hb];exact e
 have X4:pB H P h'.objs.size c' ps pos (X.env.qual++"<lambda>") params body scope (aU X.env.cells scope.names []) P=j? (.vv (ps++#[rawInt pos.line,rawInt pos.col,.ref c'])):=by
  unfold pB;rw[aL (Ne.symm VD),aL (Ne.symm VC),ay]
 refine I.un ⟨λb o e n hb _=>?_,λb o e n hb _=>?_,λb o e n _=>?_,λb o e _=>?_,λb xs e=>?_,λb o u e=>?_,λb qs e=>?_⟩ λb o e=>?_
 ·exact kp b o (λz=>by rw[z,hP] at n;cases n) e
 ·exact⟨o.slots,kp b o (λz=>by rw[z,hP] at n;cases n) e⟩
 ·have hlb:=Ym e
  unfold pB;rw[aL (Yu (Yk hlb hsz)),aL (Yu (Yk hlb hge)),aL (λz=>by rw[z,hP] at n;cases n)]
  exact n
 ·by_cases z:b=P
  ·rw[z];exact⟨_,Yh _ htb⟩
  ·exact⟨o,kp b o z e⟩
 ·exact ne b _ e λz=>by rw[z,hP] at e;cases e
 ·exact ne b _ e λz=>by rw[z,hP] at e;cases e
 ·by_cases z:b=P
  ·rw[z,hP] at e;cases e
   exact⟨_,by rw[z];exact X4⟩
  ·exact⟨#[],by rw[ne b _ e z];simp⟩
 ·by_cases zf:b=h'.objs.size
  ·subst zf
   have e':j? (HO.ext (DH h'.objs.size c' (X.env.qual++"<lambda>") params body scope (aU X.env.cells scope.names [])))=j? o:=by rw[<- e];exact ay.symm
   cases e';have g:(h'.push O).get? h'.objs.size=j? O:=Y0 _ (by rw[<- hO];rfl)
   refine⟨⟨_,_,by rw[hO];exact g⟩,⟨_,g⟩,λh1 h2 z k=>?_⟩
   obtain⟨pm,cv,z⟩:=z;exact⟨pm,cv,k _ z⟩
  ·by_cases zc:b=c'
   ·subst zc
    have e':j? (HO.ext (GQ b (X.env.qual++"<lambda>")))=j? o:=by
     rw[<- e];unfold pB;rw[aL zf,ay]
    cases e';obtain⟨c2,oc,vs,t,ec,g1,g2,g3⟩:=hrec;cases ec;refine⟨⟨oc,vs,t,Yh _ g1,g2,g3⟩,⟨_,Yh _ g1⟩,λh1 h2 z k=>?_⟩
    obtain⟨o1,v1,t1,z1,z2,z3⟩:=z;exact⟨o1,v1,t1,k _ z1,z2,z3⟩
   ·by_cases zP:b=P
    ·subst zP
     rw[X4] at e;cases e;exact Yh _ htb
    ·have e':H b=j? o:=by
      rw[<- e];unfold pB;rw[aL zf,aL zc,aL zP]
     refine(I.hok b o e').stay (λd u hd hu=>kp d u (λz=>?_) hu) (λd hd=>ne d _ hd λz=>by rw[z,hP] at hd;cases hd) λd xs hd=>ne d _ hd λz=>by rw[z,hP] at hd;cases hd
     rcases hd with y|y
     ·exact zP (y.symm.trans z)
     ·rw[z,hP] at y;cases y
end
structure lZ (h:O?)(H:Hp)(outer:List Env)(cl:List (Str×o?))(N:List Str)(vals:List V):Prop where
 inj:∀x y c,cl.lookup x=j? c->cl.lookup y=j? c->x=y
 cell:∀x c,cl.lookup x=j? c->(∃v,h.IsCell c v)/\H c=q?/\c ∉ frs outer
 val:∀(i:Nat) x v,N[i]?=j? x->vals[i]?=j? v->∃c u,cl.lookup x=j? c/\h.IsCell c (j? u)/\RelV v u
 len:vals.length=N.length
def Fz (P:F?)(w:H?)(K:bM)(mg:Str->Option l?)(base:O?)(N:List Str)(qual:Str)(scope:Scope)(f c':o?)(cl:List (Str×o?))(A:A!)(outer:List Env)(s:u?)(H:Hp):Cx where
 prog:=P
 w:=w
 K:=K
 mg:=mg
 base:=base
 A:=A.deeper (envX qual scope s.heap.objs.size f (.ref c') cl)
 N:=N
 s₀:=s
 H₀:=H
 env:=envX qual scope s.heap.objs.size f (.ref c') cl
 outer:=outer
 stack:=envX qual scope s.heap.objs.size f (.ref c') cl::outer
 ex:=[]
 fn:=λ_=>false
 calm:=true
 pn:=[]
 xe:=λ_ _=>False
section
variable {X:Cx} {pins:List (o?×Obj)} {σ:St} {H1:Hp} {s1:u?}
theorem lZ.made {scope:Scope}{N:List Str}{vals:List V}(I:Inv X pins σ H1 s1)(hfn:∀x,X.fn x=true)(hst:X.stack=X.env::X.outer/\X.env.frame=j? X.env.locals)(hfr:∀x∈N,X.env.kindOf x=j? .cell/\(x,Z?)∈scope.names)
  (hv:∀(j:Nat) x v,N[j]?=j? x->vals[j]?=j? v->∃i:Nat,X.N[i]?=j? x/\σ[i]?=j? (j? v)) (hl:vals.length=N.length):lZ s1.heap H1 X.stack (aU X.env.cells scope.names []) N vals:=by
 have back:∀x c,(aU X.env.cells scope.names []).lookup x=j? c->X.env.cells.lookup x=j? c:=λx c e=>kq scope.names [] (λd z=>by simp at z) e
 refine⟨λx y c e1 e2=>I.ok.inj x y c (back x c e1) (back y c e2),λx c e=>?_,λi x v e1 e2=>?_,hl⟩
 ·obtain⟨v,ic⟩:=I.cell x c (back x c e)
  refine⟨⟨v,ic⟩,I.jm x c (back x c e),λhm=>?_⟩
  rcases List.mem_cons.mp (I.tu c hm) with z|z
  ·exact I.NG x c (back x c e) z
  ·obtain⟨_,o,ho,_⟩:=I.ok.nh.mem z
   have:=Yk (Ym ho) (I.ok.NF x c (hfn x) (back x c e))
   exact Jg this (Zz _)
 ·obtain⟨hk,hm⟩:=hfr x (Yw e1)
  obtain⟨j,hj,hs⟩:=hv i x v e1 e2;obtain⟨m,_,hloc⟩:=I.loc;obtain⟨u,r,lk⟩:=hloc j x v hj hs (.inr (.inl hk));rcases lk with ⟨z,_⟩|⟨_,c,hc,ic⟩
  ·rw[hk] at z;cases z
  ·exact⟨c,u,gp hc scope.names [] (.inr hm) (λd z=>by simp at z),ic,r⟩
end
end L2
namespace L2
open PySem Alg
open Classical
end L2
namespace L2
open PySem PySem.Spec PyProof.Rows Alg
section
variable {P:F?} {w:H?} {K:bM} {mg:Str->Option l?} {base:O?} {CG CS:o?}
theorem Af (i:Int)(p:Nat):i.fmod (p:Int)=i % (p:Int):=Y8 i (Int.natCast_nonneg p)
end
def kC (n:Nat)(e:Nat->El):El:=.vec ((Yj n).map e)
theorem tW (l:List El):El.vec l=kC l.length λi=>l.getD i (.num 0):=by
 unfold kC;congr 1
 apply Ze
 intro i;by_cases h:i<l.length
 ·rw[Ye,Ys h,Yc h]
  show j? _=j? (l.getD i (.num 0))
  rw[Yb,Yc h];rfl
 ·rw[List.getElem?_eq_none_iff.mpr (by omega),List.getElem?_eq_none_iff.mpr (by rw[Ya,Yg];omega)]
structure Cf (H:Hp)(ok:o?->Prop)(vs:List V)(n:Nat)(e:Nat->El):Prop where
 len:vs.length=n
 at_:∀i,i<n->∃v,vs[i]?=j? v/\Rep H ok v (e i)
theorem Cf.rep {H:Hp}{ok:o?->Prop}{vs:List V}{n:Nat}{e:Nat->El}{a:o?}(C:Cf H ok vs n e)(h:H a=j? (.lst vs))(k:ok a):Rep H ok (.ref a) (kC n e):=by
 refine .vec h k (by rw[C.len,Ya,Yg]) λi x d h1 h2=>?_
 have hi:i<n:=by rw[<- C.len];exact(List.getElem?_eq_some_iff.mp h1).1
 obtain⟨v,h3,r⟩:=C.at_ i hi;rw[h1] at h3;cases h3;rw[Ye,Ys hi] at h2;cases h2;exact r
theorem Rep.cf {H:Hp}{ok:o?->Prop}{v:V}{n:Nat}{e:Nat->El}(R:Rep H ok v (kC n e)):∃a vs,v=.ref a/\H a=j? (.lst vs)/\ok a/\Cf H ok vs n e:=by
 unfold kC at R;cases R with
 | @vec a vs l h k hl r=>
  rw[Ya,Yg] at hl;refine⟨a,vs,rfl,h,k,hl,λi hi=>?_⟩
  refine⟨vs[i]'(by omega),Yc (by omega),r i _ _ (Yc (by omega)) ?_⟩
  rw[Ye,Ys hi];rfl
theorem Cf.imp {H H':Hp}{ok ok':o?->Prop}{vs:List V}{n:Nat}{e:Nat->El}(C:Cf H ok vs n e)(f:∀b o,H b=j? o->ok b->H' b=j? o/\ok' b):Cf H' ok' vs n e:=
 ⟨C.len,λi hi=>let ⟨v,h,r⟩:=C.at_ i hi;⟨v,h,r.imp f⟩⟩
theorem Cf.same {H H':Hp}{ok:o?->Prop}{vs:List V}{n:Nat}{e:Nat->El}(C:Cf H ok vs n e)(g:aF H H'):Cf H' ok vs n e:=C.imp λb o h k=>⟨g b o h,k⟩
theorem Cf.nil {H:Hp}{ok:o?->Prop}{e:Nat->El}:Cf H ok [] 0 e:=⟨rfl,λi hi=>by omega⟩
theorem Cf.push {H:Hp}{ok:o?->Prop}{vs:List V}{n:Nat}{e:Nat->El}{v:V}(C:Cf H ok vs n e)(R:Rep H ok v (e n)):Cf H ok (vs++[v]) (n+1) e:=by
 refine⟨by rw[Yi,C.len];rfl,λi hi=>?_⟩
 by_cases h:i<n
 ·obtain⟨x,h1,h2⟩:=C.at_ i h
  exact⟨x,by rw[Y3 (by rw[C.len];exact h)];exact h1,h2⟩
 ·have:i=n:=by omega
  subst this;exact⟨v,by rw[<- C.len,List.getElem?_concat_length],R⟩
theorem Cf.congr {H:Hp}{ok:o?->Prop}{vs:List V}{n:Nat}{e d:Nat->El}(C:Cf H ok vs n e)(h:∀i,i<n->e i=d i):Cf H ok vs n d:=⟨C.len,λi hi=>by rw[<- h i hi];exact C.at_ i hi⟩
theorem Cf.append {H:Hp}{ok:o?->Prop}{vs ws:List V}{n m:Nat}{e d:Nat->El}(C:Cf H ok vs n e)(D:Cf H ok ws m d):Cf H ok (vs++ws) (n+m) λi=>if i<n then e i else d (i-n):=by
 refine⟨by rw[Yi,C.len,D.len],λi hi=>?_⟩
 by_cases h:i<n
 ·obtain⟨x,h1,h2⟩:=C.at_ i h
  exact⟨x,by rw[Y3 (by rw[C.len];exact h)];exact h1,by rw[Ja h];exact h2⟩
 ·obtain⟨x,h1,h2⟩:=D.at_ (i-n) (by omega)
  exact⟨x,by rw[Y5 (by rw[C.len];omega),C.len];exact h1,by rw[W9 h];exact h2⟩
theorem Cf.get {H:Hp}{ok:o?->Prop}{vs:List V}{n:Nat}{e:Nat->El}(C:Cf H ok vs n e){i:Nat}{v:V}(h:vs[i]?=j? v):i<n/\Rep H ok v (e i):=by
 have hi:i<n:=by rw[<- C.len];exact(List.getElem?_eq_some_iff.mp h).1
 obtain⟨x,h1,h2⟩:=C.at_ i hi;rw[h] at h1;cases h1;exact⟨hi,h2⟩
abbrev Off (H:Hp)(D:o?):o?->Prop:=λb=>H b=q?/\b≠D
theorem Cf.upd {H H':Hp}{D:o?}{vs:List V}{n:Nat}{e:Nat->El}{o:HO}(C:Cf H' (Off H D) vs n e):Cf (upd H' D o) (Off H D) vs n e:=C.imp λb u h k=>⟨by rw[aL k.2];exact h,k⟩
theorem Rep.GR {H H' H1:Hp}{D:o?}{v:V}{e:El}{o:HO}(R:Rep H' (dG H1) v e)(g:aF H H1)(hD:H1 D=j? o):Rep H' (Off H D) v e:=R.imp λb u h k=>⟨h,g.free k,λz=>by rw[z] at k;rw[show H1 D=q? from k] at hD;cases hD⟩
theorem Cf.DI {H H':Hp}{D:o?}{vs:List V}{n:Nat}{e:Nat->El}(C:Cf H' (Off H D) vs n e):Cf H' (dG H) vs n e:=C.imp λb u h k=>⟨h,k.1⟩
theorem MI (xs:List V)(k:Nat)(h:k<=xs.length):iX xs q? (j? (k:Int))=xs.take k:=by
 unfold iX;have e1:HT.qU xs.length 0 q?=0:=rfl;have e2:HT.qU xs.length xs.length (j? (k:Int))=k:=by rw[HT.lN];omega
 rw[e1,e2];simp
theorem Cf.rev {H:Hp}{ok:o?->Prop}{vs:List V}{n:Nat}{e:Nat->El}(C:Cf H ok vs n e):Cf H ok vs.reverse n λi=>e (n-1-i):=by
 refine⟨by rw[Z6];exact C.len,λi hi=>?_⟩
 obtain⟨v,h1,h2⟩:=C.at_ (n-1-i) (by omega)
 refine⟨v,?_,h2⟩
 rw[List.getElem?_reverse (by rw[C.len];exact hi),C.len]
 exact h1
def wZ:Sp:=λvs H Q _=>∃(k n:Nat),vs=[.int (k:Int),.int (n:Int)]/\k<50/\n<=100/\Q (.int ((k ^ n:Nat):Int)) H
def del (H:Hp)(b:o?):Hp:=λc=>if c=b then q? else H c
theorem cD {H:Hp}{b c:o?}{o:HO}(h:del H b c=j? o):c≠b/\H c=j? o:=by
 unfold del at h;by_cases e:c=b
 ·rw[Ja e] at h;cases h
 ·rw[W9 e] at h;exact⟨e,h⟩
theorem jL {H:Hp}{b c:o?}(h:c≠b):del H b c=H c:=W9 h
theorem fE (H:Hp)(b:o?):aF (del H b) H:=λc o h=>(cD h).2
def cL (H:Hp)(b:o?)(H':Hp):Prop:=∀a o,a≠b->H a=j? o->H' a=j? o
theorem cL.del {b:o?}{H H':Hp}(h:cL H b H'):aF (L2.del H b) (L2.del H' b):=λc o e=>by rw[jL (cD e).1];exact h c o (cD e).1 (cD e).2
theorem cL.trans {b:o?}{H H' X5:Hp}(h:cL H b H')(h':cL H' b X5):cL H b X5:=λa o n e=>h' a o n (h a o n e)
theorem cL.of {b:o?}{H H':Hp}(h:aF H H'):cL H b H':=λa o _ e=>h a o e
theorem cL.fresh {b:o?}{H H':Hp}(h:cL H b H')(hb':∃o,H' b=j? o){a:o?}(ha:H' a=q?):H a=q?:=by
 have hne:a≠b:=λz=>by obtain⟨o,e⟩:=hb';rw[z,e] at ha;cases ha
 cases q:H a with
 | none=>rfl
 | some o=>rw[h a o hne q] at ha;cases ha
theorem cL.aX {b p:o?}{H H':Hp}(h:cL H b H')(hp:H p=q?)(o:HO):cL H b (L2.upd H' p o):=λa u n e=>by
 rw[aL (bK e hp)];exact h a u n e
theorem zo (xs:List V)(k:Nat)(h:k<=xs.length):iX xs (j? (k:Int)) q?=xs.drop k:=by
 unfold iX;have e1:HT.qU xs.length xs.length q?=xs.length:=rfl;have e2:HT.qU xs.length 0 (j? (k:Int))=k:=by rw[HT.lN];omega
 rw[e1,e2];rw[Zv (by rw[Za];omega)]
end L2
namespace L2
open PySem PySem.Spec PySem.W PyProof.Rows Alg
end L2
namespace L2
open PySem PySem.Spec PySem.W PyProof.Rows
end L2
namespace L2
open PySem PySem.Spec PySem.W PyProof.Rows Alg
end L2
namespace L2
open PySem PySem.Spec PySem.W PyProof.Rows
end L2
namespace L2
open PySem PySem.Spec PySem.W PyProof.Rows Alg
end L2
namespace L2
open PySem PySem.Spec PySem.W PyProof.Rows
theorem GS {P:F?}{w:H?}{K:bM}{mg mb:Str->Option l?}{CX:Gu}{k:Nat}{fa a:o?}{fd:O!}{x:Str}{sp:Sp}{s₁:u?}{vs:List l?}{ns:List Int}{tabs:List (o?×o?)}
  (KX:K.In s₁.heap) (hns:s₁.heap.Ns G? mg) (hb:s₁.heap.Ns builtinsNs mb) (hbb:∀x:Str,x≠"__name__"->mb x=H! x) (hlim:s₁.heap.NoLimit) (hbm:BMain mg s₁.heap) (hT:TabsAt tabs s₁.heap) (hK:noTabs K=true) (hg:s₁.gens=#[])
  (ha:s₁.heap.get? a=j? { cls:=.type "list",data:=.seq vs.toArray }) (hi:IntsAre vs ns) (hl:ns.length<=K?) (hr:fM k callerA)
  (F:∀base:O?,K.In base->base.Ns G? mg->BMain mg base->lM P w K mg base CX k fa fd [x] sp) (hbind:∀(s:u?) (u:l?),BindsTo s fd ⟨[u],[]⟩ [(x,u)])
  (LK:∀H:Hp,aO K H a (ns.map V.int)->(∀q∈tabs,H q.2=j? (.vv #[]))->sp [.ref a] H (λv _=>v=.bl true) λ_ _ _=>False)
  (VE:∀H e s',CX [] H s₁ (λ_ _ _=>False) e s'->False):
  codeAny (S? P w) callerA (.call (.ref fa) ⟨[.ref a],[]⟩) (λr s'=>r=.ok (.ret (.bool true))/\OldK s₁.heap s'.heap/\s'.os=s₁.os/\AllBare s'.gens) s₁:=by
 have rv:=yY hi;have VF:=hi.length;have PV:∀b o,K.lookup b=j? o->b ∉ tabs.map (·.2):=λb o e hm=>by
  obtain⟨q,hq,rfl⟩:=List.mem_map.mp hm;have e1:=(hT q hq).2;rw[KX _ _ e] at e1;cases e1;have h2:=List.all_eq_true.mp hK (_,_) (mem_of_lookupK e);exact Jg (show false=true from h2) E?
 have Sz:a ∉ tabs.map (·.2):=λhm=>by
  obtain⟨q,hq,e⟩:=List.mem_map.mp hm;have e1:=(hT q hq).2;rw[show q.2=a from e,ha] at e1
  cases e1
 have core:∀H:Hp,(∀b,H b=q?\/(b=a/\∃o xs,H b=j? (.HU o (.lst xs)))\/(b∈tabs.map (·.2)/\H b=j? (.vv #[])))->(∀q∈tabs,H q.2=j? (.vv #[]))->aO K H a (ns.map V.int)->uK P w H s₁.heap->(H a≠q?->K.lookup a=q?)->
   codeAny (S? P w) callerA (.call (.ref fa) ⟨[.ref a],[]⟩) (λr s'=>r=.ok (.ret (.bool true))/\OldK s₁.heap s'.heap/\s'.os=s₁.os/\AllBare s'.gens) s₁:=by
  intro H hO hTb hS hok hKa;have Ag:∀ {b:o?} {o:Obj},s₁.heap.get? b=j? o->H b=q?->(yo s₁.heap H).get? b=j? o:=λe n=>HV e n
  have R3:∀ {b:o?} {o:Obj},s₁.heap.get? b=j? o->o.cls≠.type "list"->o.cls≠.none->H b=q?:=λ{b o} e d1 d2=>by
   rcases hO b with z|⟨z,_⟩|⟨z,_⟩
   ·exact z
   ·rw[z,ha] at e;cases e;exact Jg rfl d1
   ·obtain⟨q,hq,rfl⟩:=List.mem_map.mp z
    rw[(hT q hq).2] at e;cases e;exact Jg rfl d2
  have noD:∀ {b:o?} {o:Obj} {es:Array DictEntry} {ep:Nat},s₁.heap.get? b=j? o->o.data=.dict es ep->H b=q?:=λ{b o es ep} e d=>by
   rcases hO b with z|⟨z,_⟩|⟨z,_⟩
   ·exact z
   ·rw[z,ha] at e;cases e;cases d
   ·obtain⟨q,hq,rfl⟩:=List.mem_map.mp z
    rw[(hT q hq).2] at e;cases e;cases d
  have Uo:∀ {b:o?} {m:Str->Option l?},s₁.heap.Ns b m->(yo s₁.heap H).Ns b m:=λ{b m} ⟨o,es,ep,e,d,r⟩=>⟨o,es,ep,Ag e (noD e d),d,r⟩
  have X6:K.In (yo s₁.heap H):=λb o e=>Ag (KX b o e) (by
   rcases hO b with z|⟨z,o',xs,z2⟩|⟨z,_⟩
   ·exact z
   ·subst z
    rw[hKa (by rw[z2];simp)] at e;cases e
   ·exact Jg z (PV b o e))
  have hBM:BMain mg (yo s₁.heap H):=by
   obtain⟨bm,ob,b1,b2,b3,b4,b5,b6⟩:=hbm;exact⟨bm,ob,b1,b2,Ag b3 (R3 b3 (by rw[b4];decide) (by rw[b4];decide)),b4,b5,b6⟩
  have hM:Mod K mg (yo s₁.heap H):=⟨X6,Uo hns,⟨mb,Uo hb,hbb⟩,let ⟨mc,h1,h2⟩:=hlim;⟨mc,Uo h1,h2⟩⟩
  have e0:Gv P w K mg (yo s₁.heap H) callerA [] s₁ H:=⟨rfl,hM,λb o e=>LY e,Nat.le_of_eq (Gn _ _),trivial,λb hb=>Jg (show b∈([]:List o?) from hb) (by simp),hok,.of_eq hg⟩
  refine codeAny_mono ((F _ X6 (Uo hns) hBM).run callerA [] s₁ H ⟨[.ref a],[]⟩ [.ref a] [.ref a] _ _ hr e0 (hbind s₁ (.ref a)) (.cons rfl .nil) (LK H hS hTb)) λr s' h=>?_
  cases r with
  | error e=>exact(VE H e s' h).elim
  | ok fl=>
   cases fl with
   | next=>exact M! h
   | brk=>exact M! h
   | cont=>exact M! h
   | ret u=>
    obtain⟨v,H',os,bare,un,SA,r',q⟩:=h;have q':v=.bl true:=q;subst q';obtain rfl:u=Value.bool true:=r'
    have old:∀b o,s₁.heap.get? b=j? o->s'.heap.get? b=j? o\/(isCodeTable s₁.heap b/\o=tabObj #[]/\∃ps,s'.heap.get? b=j? (tabObj ps)):=λb o e=>by
     rcases hO b with z|⟨z,ob,xs,z2⟩|⟨z,z2⟩
     ·exact .inl (un.keep b o e z (by intro y;exact Jg (show b∈([]:List o?) from y) (by simp)) (by simp))
     ·have z3:=un.yl b ob _ z2
      obtain⟨e1,_⟩:=hok b _ z2;obtain⟨e2,_⟩:=SA b _ z3;rw[e] at e1;cases e1;exact .inl e2
     ·obtain⟨q,hq,rfl⟩:=List.mem_map.mp z
      obtain⟨m,z3⟩:=un.ym _ _ z2;have e1:=(hT q hq).2;rw[e] at e1;exact .inr ⟨((hT q hq).1.tab (hT q hq).2).isCodeTable,M? e1,_,SA _ _ z3⟩
    refine⟨rfl,⟨λb o e=>?_,λb o e=>?_⟩,os,bare⟩
    ·rcases old b o e with z|⟨ht,rfl,ps,hP⟩
     ·exact .inl z
     ·exact .inr (.inl ⟨ht,rfl,#[],ps,rfl,by rw[Array.empty_append];exact hP⟩)
    ·rcases old b o e with z|⟨_,_,ps,hP⟩
     ·exact⟨_,z⟩
     ·exact⟨_,hP⟩
 have tok:∀(H:Hp) (q:o?×o?),q∈tabs->iV P w H s₁.heap q.2 (.vv #[]):=λH q hq=>(hT q hq).2
 cases hk:K.lookup a with
 | some o=>
  have e:=KX a o hk;rw[ha] at e;cases e;refine core (λb=>if b∈tabs.map (·.2) then j? (.vv #[]) else q?) (λb=>?_) (λq hq=>Ja (List.mem_map_of_mem hq)) (.inr ⟨_,vs.toArray,_,hk,rfl,rfl,rfl,by rw[Yv,VF];exact hl,by simpa using rv⟩) (λb u z=>?_) (λz=>Jg (W9 Sz) z)
  ·by_cases hb:b∈tabs.map (·.2)
   ·exact .inr (.inr ⟨hb,Ja hb⟩)
   ·exact .inl (W9 hb)
  ·by_cases hb:b∈tabs.map (·.2)
   ·have z':=(Ja hb).symm.trans z
    cases z';obtain⟨q,hq,rfl⟩:=List.mem_map.mp hb;exact tok _ q hq
   ·have z':=(W9 hb).symm.trans z
    cases z'
 | none=>
  refine core (λb=>if b∈tabs.map (·.2) then j? (.vv #[]) else if b=a then j? (.HU { cls:=.type "list",data:=.seq vs.toArray } (.lst (ns.map V.int))) else q?) (λb=>?_) (λq hq=>Ja (List.mem_map_of_mem hq)) (.inl (.inr ⟨{ cls:=.type "list",data:=.seq vs.toArray },(W9 Sz).trans (Ja rfl)⟩)) (λb u z=>?_) λ_=>hk
  ·by_cases hb:b∈tabs.map (·.2)
   ·exact .inr (.inr ⟨hb,Ja hb⟩)
   ·by_cases hb2:b=a
    ·exact .inr (.inl ⟨hb2,_,_,(W9 hb).trans (Ja hb2)⟩)
    ·exact .inl ((W9 hb).trans (W9 hb2))
  ·by_cases hb:b∈tabs.map (·.2)
   ·have z':=(Ja hb).symm.trans z
    cases z';obtain⟨q,hq,rfl⟩:=List.mem_map.mp hb;exact tok _ q hq
   ·by_cases hb2:b=a
    ·have z':=((W9 hb).trans (Ja hb2)).symm.trans z
     cases z';subst hb2;exact⟨ha,by rw[Ya];exact hl,vs,_,rv,ha⟩
    ·have z':=((W9 hb).trans (W9 hb2)).symm.trans z
     cases z'
theorem JA {l:PySem.W.OpenLaw}{n k:Nat}{q:F?}{loose:List Str}{XP:(Str->Option l?)->O?->Prop}{YP:H?->O?->Prop}{d:DefRec}{K:Params->bM}{CX:H?->Gu}{sp:H?->Sp}{x:Str}{tabs:List (o?×o?)}
  (hn:l.most=j? n) (hn2:n<=K?) (hdf:d.params.defaults=[]) (hr:fM k callerA)
  (hY:∀(w:H?) (h:O?),YP w h->(K w.params).In h/\TabsAt tabs h) (hK:∀w:H?,noTabs (K w.params)=true)
  (F:∀(w:H?) (mg:Str->Option l?) (fa:o?) (h:O?),(K w.params).In h->h.Ns G? mg->mg d.name=j? (.ref fa)->
   ∃fd:O!,(∀(s:u?) (u:l?),BindsTo s fd ⟨[u],[]⟩ [(x,u)])/\
    ∀base:O?,(K w.params).In base->base.Ns G? mg->BMain mg base->lM l.prog w (K w.params) mg base (CX w) k fa fd [x] (sp w))
  (LK:∀(w:H?) (H:Hp) (a:o?) (ns:List Int),ns.length<=n->aO (K w.params) H a (ns.map V.int)->(∀q∈tabs,H q.2=j? (.vv #[]))->sp w [.ref a] H (λv _=>v=.bl true) λ_ _ _=>False)
  (VE:∀(w:H?) (H:Hp) (s:u?) (e:l?) (s':u?),CX w [] H s (λ_ _ _=>False) e s'->False):
  PySem.W.WalkO q loose XP YP l.row.toRowW d [] (λf vs=>PySem.call f vs):=by
 refine Att.Bf hn hdf λw s₀ s₁ mg mb fa o pm cd doc a vs ns G Y ho hd hcd hmg hobj hints hlen hg=>?_
 obtain⟨KX,hT⟩:=hY w _ Y;obtain⟨fd,hb,hF⟩:=F w mg fa _ KX G.T.g hmg;have hbm:BMain mg s₁.heap:=by
  obtain⟨bm,ob,b1,b2,b3,b4,b5,b6⟩:=G.T.bmain;exact⟨bm,ob,b1,b2,b3,b4,b5,b6⟩
 exact GS KX G.T.g G.T.b G.T.builtins G.T.nolimit hbm hT (hK w) hg hobj hints (Yn hlen hn2) hr hF hb (λH hS hTb=>LK w H a ns hlen hS hTb) λH e s'=>VE w H s₁ e s'
section
variable {P:F?} {w:H?} {K:bM} {mg:Str->Option l?} {base:O?}
theorem LM.okC {x qual:Str}{st:Q?}{f c:o?}{fd:O!}{N ps:List Str}{k:Nat}{sp:Sp}(F:LM K x qual st f fd)(hc:fd.code=.ref c)(S:aK N ps (ao st))(len:∀vs H Q E,sp vs H Q E->vs.length=ps.length)
  (hbody:∀(A:A!) (outer:List Env) (s:u?) (H:Hp) (vs:List V) (Q:VK) (E:XK),fM k (A.deeper (envOfC qual (ao st) s.heap.objs.size f (.ref c)))->sp vs H Q E->
   ∃t,A_ (pY E6 P w K mg base N qual (ao st) f (.ref c) A outer s H E).NI (cA st) t/\t { nx:=λ_ H'=>Q .fk H',rt:=Q } (start N vs) H):lM P w K mg base E6 (k+1) f fd ps sp:=by
 obtain⟨oc,od,kV,doc,pm,an,cdv,ct,osl,rfl,lk,hcd⟩:=F.ex;have e:cdv=.ref c:=hc;subst e;refine Ik lk hcd S len λA outer s H vs Q E hr LK=>?_
 obtain⟨t,h,q⟩:=hbody A outer s H vs Q E hr LK;exact⟨t,h.NI,q⟩
structure JB (K:bM)(mg:Str->Option l?)(x:Str)(st:Q?)(ps:List Str)(c:o?):Prop where
 ex:∃f fd,LM K x x st f fd/\Binds K fd ps []/\mg x=j? (.ref f)/\fd.code=.ref c
theorem JB.ok {x:Str}{st:Q?}{N ps:List Str}{k:Nat}{c:o?}{sp:Sp}(F:JB K mg x st ps c)(S:aK N ps (ao st))(len:∀vs H Q E,sp vs H Q E->vs.length=ps.length)
  (hbody:∀(f:o?) (A:A!) (outer:List Env) (s:u?) (H:Hp) (vs:List V) (Q:VK) (E:XK),fM k (A.deeper (envOfC x (ao st) s.heap.objs.size f (.ref c)))->sp vs H Q E->
   ∃t,A_ (pY E6 P w K mg base N x (ao st) f (.ref c) A outer s H E).NI (cA st) t/\t { nx:=λ_ H'=>Q .fk H',rt:=Q } (start N vs) H):b9 P w K mg base (k+1) x ps sp:=by
 obtain⟨f,fd,G,B,M,hc⟩:=F.ex;exact⟨f,fd,G.okC hc S len (hbody f),B,G.kp,M⟩
theorem MJ {x:Str}{st:Q?}{ps:List Str}{f c0:o?}{oc:l?}{od an:Option o?}{osl:Array (Option l?)}{kV doc pm cdv ct:l?}{h:O?}(X:K.In h)(G:h.Ns G? mg)
  (a:N? K G? x=j? (j? (.ref f))) (l:K.lookup f=j? ⟨oc,od,.func (W? x x (dP st) (cA st) (ao st) .none kV doc pm an cdv ct),osl⟩) (c:P! K cdv x=true) (k:C! K (.ref f)=true)
  (hb:∀(kV doc pm:l?) (an:Option o?) (cdv ct:l?) (us:List l?),us.length=ps.length->bindArgs (W? x x (dP st) (cA st) (ao st) .none kV doc pm an cdv ct) ⟨us,[]⟩=pure (ps.zip us)) (hc:cdv=.ref c0):JB K mg x st ps c0:=
 ⟨f,_,wc l c k,(wc l c k).binds hb,PySem.W.mg_of X G a,hc⟩
theorem GU {n:Nat}{sc scope:Scope}(h:∀y∈scope.names,y.2=.free->sc.names.lookup y.1=j? .cell):∀y∈scope.names,y.2=.free->∃c,(cellsFrom n sc.names []).lookup y.1=j? c:=λy hy hf=>vZ (h y hy hf)
theorem MK {cells:List (Str×o?)}{scope:Scope}(h:∀y∈scope.names,y.2=.free->∃c,cells.lookup y.1=j? c):∀x,scope.names.lookup x=j? .free->∃c,(aU cells scope.names []).lookup x=j? c:=λx hx=>by
 have hm:=U? hx;obtain⟨c,hc⟩:=h _ hm rfl;exact⟨c,gp hc scope.names [] (.inr hm) (λd z=>by simp at z)⟩
theorem Ah {a b c:l?}{i j:Int}{t u:Tok}(ha:a=.int i t)(hb:b=.int j u):∀(l:List l?),TriplesOk l->TriplesOk (l++[a,b,c]):=by
 subst ha hb;intro l h;fun_induction TriplesOk l with
 | case1=>exact trivial
 | case2 _ _ _ _ _ rest ih=>exact ih h
 | case3=>exact h.elim
theorem DJ {pos:Pos}{a b:Nat}{c:l?}(hne:¬ (a=pos.line/\b=pos.col)):∀(l:List l?),TriplesOk l->codeAmong pos l=q?->codeAmong pos (l++[rawInt a,rawInt b,c])=q?:=by
 intro l h hn;fun_induction TriplesOk l with
 | case1=>
  show(if ((a:Int) == pos.line && (b:Int) == pos.col)=true then j? c else q?)=q?
  rw[W9];intro z;rw[T?,beq_iff_eq,beq_iff_eq] at z;exact hne ⟨by omega,by omega⟩
 | case2 i t j u x rest ih=>
  have hn':(if ((i:Int) == pos.line && j == pos.col)=true then j? x else codeAmong pos rest)=q?:=hn
  show(if ((i:Int) == pos.line && j == pos.col)=true then j? x else codeAmong pos (rest++[rawInt a,rawInt b,c]))=q?
  by_cases z:((i:Int) == pos.line && j == pos.col)=true
  ·rw[Ja z] at hn';cases hn'
  ·rw[W9 z] at hn' ⊢
   exact ih h hn'
 | case3=>exact h.elim
end
end L2
namespace L2
open PySem PySem.Spec PyProof.Rows Alg
theorem aV {H H':Hp}{l:o?}{o:HO}(n:H l=q?)(hX:upd H l o=H'):aF H H'/\H' l=j? o:=by
 subst hX;exact⟨aB n _,ay⟩
theorem mY {a b:TS}{D:Ends}{σ:St}{H:Hp}{I:Type}(f:I->St)(P:I->Hp->Prop)(h1:∀C:St->Hp->Prop,(∀i H,P i H->C (f i) H)->a { D with nx:=C } σ H)(h2:∀i H,P i H->b D (f i) H):OR a b D σ H:=h1 (b D) h2
theorem JC {C:St->Hp->Prop}{I:Type}{f:I->St}{P:I->Hp->Prop}{j:Nat}{v:V}{σ:St}{H:Hp}(k:∀i H,P i H->C (f i) H)(i:I)(p:P i H)(e:σ.set j (j? v)=f i):gE j v σ H C:=by
 show C (σ.set j (j? v)) H
 rw[e];exact k i H p
end L2
namespace L2
open PySem PySem.Spec PySem.W PyProof.Rows Alg
theorem DK {pos:Pos}{x:l?}{m:List l?}:∀(l:List l?),TriplesOk l->codeAmong pos l=j? x->codeAmong pos (l++m)=j? x:=by
 intro l h hx;fun_induction TriplesOk l with
 | case1=>cases hx
 | case2 i t j u y rest ih=>
  have hx':(if ((i:Int) == pos.line && j == pos.col)=true then j? y else codeAmong pos rest)=j? x:=hx
  show(if ((i:Int) == pos.line && j == pos.col)=true then j? y else codeAmong pos (rest++m))=j? x
  by_cases z:((i:Int) == pos.line && j == pos.col)=true
  ·rw[Ja z] at hx' ⊢;exact hx'
  ·rw[W9 z] at hx' ⊢;exact ih h hx'
 | case3=>exact h.elim
theorem GV {pos:Pos}{c:l?}:∀(l:List l?),TriplesOk l->codeAmong pos l=q?->codeAmong pos (l++[rawInt pos.line,rawInt pos.col,c])=j? c:=by
 intro l h hn;fun_induction TriplesOk l with
 | case1=>
  show(if ((pos.line:Int) == pos.line && (pos.col:Int) == pos.col)=true then j? c else q?)=j? c
  rw[Ja];rw[T?,beq_iff_eq,beq_iff_eq];exact⟨rfl,rfl⟩
 | case2 i t j u x rest ih=>
  have hn':(if ((i:Int) == pos.line && j == pos.col)=true then j? x else codeAmong pos rest)=q?:=hn
  show(if ((i:Int) == pos.line && j == pos.col)=true then j? x else codeAmong pos (rest++[rawInt pos.line,rawInt pos.col,c]))=j? c
  by_cases z:((i:Int) == pos.line && j == pos.col)=true
  ·rw[Ja z] at hn';cases hn'
  ·rw[W9 z] at hn' ⊢
   exact ih h hn'
 | case3=>exact h.elim
def gK (qual:Str)(Pp:o?)(H:Hp):Prop:=∃ps:Array l?,H Pp=j? (.vv ps)/\TriplesOk ps.toList/\∀pos:Pos,codeAmong pos ps.toList=q?\/∃c,codeAmong pos ps.toList=j? (.ref c)/\H c=j? (.ext (GQ c qual))
theorem gK.nil {qual:Str}{Pp:o?}{H:Hp}(h:H Pp=j? (.vv #[])):gK qual Pp H:=⟨#[],h,trivial,λ_=>.inl rfl⟩
theorem gK.same {qual:Str}{Pp:o?}{H H':Hp}(h:gK qual Pp H)(g:aF H H'):gK qual Pp H':=by
 obtain⟨ps,h1,h2,h3⟩:=h;exact⟨ps,g _ _ h1,h2,λpos=>(h3 pos).imp id λ⟨c,a,b⟩=>⟨c,a,g _ _ b⟩⟩
structure pC where
 qual:Str
 params:Arguments
 body:Expr
 scope:Scope
 x:Str
 N:List Str
 t:TE
def pC.here (L:pC)(cl:List (Str×o?))(f c:o?)(H:Hp):Prop:=H f=j? (.ext (DH f c L.qual L.params L.body L.scope cl))/\H c=j? (.ext (GQ c L.qual))
theorem pC.here.same {L:pC}{cl:List (Str×o?)}{f c:o?}{H H':Hp}(h:L.here cl f c H)(g:aF H H'):L.here cl f c H':=⟨g _ _ h.1,g _ _ h.2⟩
structure pC.Ok (L:pC)(P:F?)(w:H?)(K:bM)(mg:Str->Option l?)(base:O?)(k:Nat):Prop where
 kind:L.scope.kind=.function
 co:L.scope.isCoroutine=false
 gen:L.scope.isGenerator=false
 tH:∀y∈L.scope.names,y.2≠.cell
 loc:L.scope.names.lookup L.x=j? .local
 frees:∀x∈L.N,L.scope.names.lookup x=j? .free
 bind:∀cl pm cdv ct u,bindArgs (kla_fn "<lambda>" L.qual L.params L.body L.scope cl pm cdv ct) ⟨[u],[]⟩=pure [(L.x,u)]
 pe:∀(cl:List (Str×o?)) (f c:o?) (A:A!) (outer:List Env) (s:u?) (H:Hp),fM k (A.deeper (envX L.qual L.scope s.heap.objs.size f (.ref c) cl))->PE (Fz P w K mg base (L.x::L.N) L.qual L.scope f c cl A outer s H) L.body L.t
section
variable {P:F?} {w:H?} {K:bM} {mg:Str->Option l?} {base:O?}
theorem JD {L:pC}{k:Nat}{f c:o?}{cl:List (Str×o?)}{vals:List V}(g:L.Ok P w K mg base k){A:A!}{outer:List Env}{s:u?}{H:Hp}{Q:VK}{v:V}{u:l?}(hr:fM (k+1) A)(e0:Gv P w K mg base A outer s H)(hh:L.here cl f c H)
  (has:∀x,L.scope.names.lookup x=j? .free->∃c,cl.lookup x=j? c) (hc:lZ s.heap H outer cl L.N vals) (rv:RelV v u) (q:L.t (j? v::vals.map j?) H Q):codeAny (S? P w) A (.call (.ref f) ⟨[u],[]⟩) (CR E6 outer P w H s Q E0) s:=by
 obtain⟨h1,h2⟩:=hh;obtain⟨⟨pm,ctv,hf⟩,_⟩:=e0.hok _ _ h1;obtain⟨⟨oc,vs,t,hc1,hc2,hc3⟩,_⟩:=e0.hok _ _ h2;have lim:s.heap.NoLimit:=e0.mod.nolimit.keeps λb o e=>(e0.bs b o e).1
 refine kla_callFunE hr.depth hf rfl g.co g.gen rfl ⟨c,oc,vs,t,rfl,hc1,hc2,hc3⟩ ?_
 rw[g.bind];refine J? (wpAny_newFunctionEnv g.tH (λy hy=>by rw[List.mem_singleton.mp hy];exact g.loc) (λh₁ hns LN=>⟨lim.fresh _ LN,?_⟩) g.kind)
 show codeAny _ _ (.expr L.body (envX L.qual L.scope s.heap.objs.size f (.ref c) cl)) _ _
 have hk₁:∀b o,s.heap.get? b=j? o->h₁.get? b=j? o:=λb o e=>LN.extBut b o (Yu (Ym e)) (Yh _ e)
 have Ul:∀c v,s.heap.IsCell c v->h₁.IsCell c v:=λc v ⟨o,e,d⟩=>⟨o,hk₁ c o e,d⟩
 have ok:(Fz P w K mg base (L.x::L.N) L.qual L.scope f c cl A outer s H).Ok:=
  ⟨e0.mod,g.kind,rfl,rfl,Yd _,hc.inj,λx hx=>by
   rcases hx with z|z
   ·exact Jg rfl (g.tH _ (U? z))
   ·exact has x z,λx c z=>(nomatch (show false=true from z)),λ_=>hr.hd,Around.frames_deeper e0.frames,.inr ⟨rfl,rfl⟩,λb z=>Jg (show b∈([]:List o?) from z) (by simp),e0.bs,e0.EU,λb o _ z=>Jg (show b∈([]:List o?) from z) (by simp),λb z=>Jg (show b∈([]:List o?) from z) (by simp),e0.nh,e0.HW⟩
 have I:Inv (Fz P w K mg base (L.x::L.N) L.qual L.scope f c cl A outer s H) [] (j? v::vals.map j?) H { s with heap:=h₁,toks:=s.toks+1 }:=by
  refine⟨ok,rfl,e0.bare,Un.kept hk₁,⟨_,hns,λi x v' e1 e2 e3=>?_⟩,λx c e=>?_,e0.hok.fresh (Yd _),λx c e=>(hc.cell x c e).2.1,λp hp=>Jg (show p∈([]:List (o?×Obj)) from hp) (by simp),e0.hok.kept hk₁,by show(vals.map j?).length+1=L.N.length+1;rw[Ya,hc.len]⟩
  ·cases i with
   | zero=>
    cases e1;cases e2;exact⟨u,rv,.inl ⟨g.loc,by simp⟩⟩
   | succ i=>
    have e1:L.N[i]?=j? x:=e1;have e2:(vals.map j?)[i]?=j? (j? v'):=e2;have ev:vals[i]?=j? v':=by
     rw[Ye] at e2;cases z:vals[i]? with
     | none=>rw[z] at e2;cases e2
     | some y=>rw[z] at e2;cases e2;rfl
    obtain⟨c,u,l,ic,r⟩:=hc.val i x v' e1 ev;exact⟨u,r,.inr ⟨.inr (g.frees x (Yw e1)),c,l,Ul _ _ ic⟩⟩
  ·obtain⟨⟨v,ic⟩,_⟩:=hc.cell x c e
   exact⟨v,Ul _ _ ic⟩
 refine kla_codeExpr (B! ((g.pe cl f c A outer s H (hr.deeper _)).1 [] _ _ H Q I q) (λv s' hl=>?_) λ_ _ z=>M! z)
 obtain⟨y,H',J,r,q'⟩:=hl;exact⟨y,H',J.os,J.bare,J.base,J.hok,r,q'⟩
end
def zp (P:o?)(pos:Pos)(L:pC)(cl:List (Str×o?)):TE:=λ_ H Q=>∃ps:Array l?,H P=j? (.vv ps)/\TriplesOk ps.toList/\
  ((codeAmong pos ps.toList=q?/\∀f c',H f=q?->H c'=q?->f≠c'->Q (.ref f) (pB H P f c' ps pos L.qual L.params L.body L.scope cl))\/
   (∃c',codeAmong pos ps.toList=j? (.ref c')/\H c'=j? (.ext (GQ c' L.qual))/\∀f,H f=q?->Q (.ref f) (upd H f (.ext (DH f c' L.qual L.params L.body L.scope cl)))))
section
variable {X:Cx}
theorem ML {c P:o?}{params:Arguments}{body:Expr}{scope:Scope}{pos:Pos}{L:pC}(hL:L.params=params/\L.body=body/\L.scope=scope)(hq:X.env.qual++"<lambda>"=L.qual)(hb:BMain X.mg X.base)(hc:X.env.code=.ref c)(hk:codeHdIn X.K c P=true)(hcf:∀y∈scope.names,y.2=.free->∃c,X.env.cells.lookup y.1=j? c)(hdef:defaultsOf params X.env=([],[]):=by rfl):
  PE X (.Lambda params body scope pos) (zp P pos L (aU X.env.cells scope.names [])):=by
 obtain⟨rfl,rfl,rfl⟩:=hL;have hm:=PU (X:=X) (params:=L.params) (body:=L.body) (scope:=L.scope) (pos:=pos) hb hc hk hcf hdef;rw[hq] at hm;refine⟨?_⟩
 intro pins s σ H Q I h;obtain⟨ps,hP,ht,⟨hn,q⟩|⟨c',hf,hc',q⟩⟩:=h
 ·exact hm.1 pins s σ H Q I ⟨ps,hP,ht,hn,q⟩
 have eP:s.heap.get? P=j? (tabObj ps):=I.hok P _ hP;have hgs:=I.mod.glob.keeps I.bk;obtain⟨bm,ob,b1,b2,b3,b4,b5,b6⟩:=hb;have Jz:=I.bk _ _ b3;have VA:bm≠P:=λz=>by rw[z,eP] at Jz;cases Jz;cases b4
 have VB:bm≠G?:=λz=>by
  obtain⟨o,es,ep,e,hd,_⟩:=hgs;rw[z,e] at Jz;cases Jz;rw[hd] at b6;cases b6
 refine kla_eval hdef (kla_makeFunctionHit (mg:=X.mg) (iN hcf) I.ok.glob hgs hc (codeHd_of_K I.EV hk) eP ht hf ⟨bm,ob,b1,b2,VB,VA,Jz,b4,b5,b6⟩ λctv h' tk hx hsz=>?_)
 rw[hq];generalize hO:({ cls:=.type "function",data:=.func (kla_fn "<lambda>" L.qual L.params L.body L.scope (aU X.env.cells L.scope.names []) ((X.mg "__name__").getD .none) (.ref c') ctv) }:Obj)=O;have g:(h'.push O).get? h'.objs.size=j? O:=Y0 _ (by rw[<- hO];rfl)
 refine⟨.ref h'.objs.size,_,I.laid (a:=h'.objs.size) (o:=.ext (DH h'.objs.size c' L.qual L.params L.body L.scope (aU X.env.cells L.scope.names []))) (λb o e=>Yh _ (hx b o e)) hsz ⟨⟨_,_,by rw[g,<- hO]⟩,⟨_,g⟩,λh1 h2 z k=>?_⟩,rfl,q _ (I.hok.fresh hsz)⟩
 obtain⟨pm,cv,z⟩:=z;exact⟨pm,cv,k _ z⟩
end
theorem GW {Pp:o?}{pos:Pos}{L:pC}{cl:List (Str×o?)}{σ:St}{H:Hp}{Q:VK}(tq:gK L.qual Pp H)(q:∀f c H',cL H Pp H'->gK L.qual Pp H'->L.here cl f c H'->Q (.ref f) H'):zp Pp pos L cl σ H Q:=by
 obtain⟨ps,h1,h2,h3⟩:=tq;refine⟨ps,h1,h2,?_⟩
 rcases h3 pos with h|⟨c,h,hc⟩
 ·refine .inl ⟨h,λf c nf nc hfc=>?_⟩
  have VD:Pp≠f:=bK h1 nf;have VC:Pp≠c:=bK h1 nc;have nw:cL H Pp (pB H Pp f c ps pos L.qual L.params L.body L.scope cl):=λb o hb e=>by
   unfold pB;rw[aL (bK e nf),aL (bK e nc),aL hb];exact e
  have ef:(pB H Pp f c ps pos L.qual L.params L.body L.scope cl) f=j? (.ext (DH f c L.qual L.params L.body L.scope cl)):=ay;have ec:(pB H Pp f c ps pos L.qual L.params L.body L.scope cl) c=j? (.ext (GQ c L.qual)):=by
   unfold pB;rw[aL (Ne.symm hfc),ay]
  have eP:(pB H Pp f c ps pos L.qual L.params L.body L.scope cl) Pp=j? (.vv (ps++#[rawInt pos.line,rawInt pos.col,.ref c])):=by
   unfold pB;rw[aL VD,aL VC,ay]
  have e:(ps++#[rawInt pos.line,rawInt pos.col,.ref c]).toList=ps.toList++[rawInt pos.line,rawInt pos.col,.ref c]:=by simp
  refine q f c _ nw ⟨_,eP,by rw[e];exact Ah rfl rfl _ h2,λp2=>?_⟩ ⟨ef,ec⟩
  rw[e];rcases h3 p2 with h'|⟨c2,h',hc2⟩
  ·by_cases z:pos.line=p2.line/\pos.col=p2.col
   ·refine .inr ⟨c,?_,ec⟩
    rw[z.1,z.2];exact GV _ h2 h'
   ·exact .inl (DJ z _ h2 h')
  ·exact .inr ⟨c2,DK _ h2 h',nw _ _ (λz=>by rw[z,h1] at hc2;cases hc2) hc2⟩
 ·refine .inr ⟨c,h,hc,λf nf=>?_⟩
  have g:=aB nf (.ext (DH f c L.qual L.params L.body L.scope cl));exact q f c _ (cL.of g) (gK.same ⟨ps,h1,h2,h3⟩ g) ⟨ay,g _ _ hc⟩
section
variable {X:Cx} {x:Str} {id:String} {p pos:Pos} {e:Expr} {es:List Expr} {kws:List Keyword} {t tk:TA} {ks:List Str}
def JE (X:Cx)(f:l?)(ks:List Str)(r:St->List V->List V->Hp->VK->Prop):Prop:=
 ∀(pins:List (o?×Obj)) (s:u?) (σ:St) (H:Hp) (xs ys:List V) (us ws:List l?) (Q:VK),Inv X pins σ H s->Vals xs us->Vals ys ws->r σ xs ys H Q->L? (S? X.prog X.w) X.A (call f us (ks.zip ws)) (EP X pins σ Q) X.xe s
def JF (r:St->List V->List V->Hp->VK->Prop)(t tk:TA):TE:=λσ H Q=>t σ H λvs H1=>tk σ H1 λws H2=>r σ vs ws H2 Q
theorem DL {r:St->List V->List V->Hp->VK->Prop}(hc:JE X (.builtin id) ks r)(hg:Gl X x)(hm:X.mg x=q?)(hv:H! x=j? (.builtin id))(ha:PA X (e::es) t)(hk:PK X kws tk)
  (hks:(backToKw pos (keywordEach kws X.env)).filterMap (·.1)=ks:=by rfl)
  (hn:x≠"__name__":=by decide) (hdb:(x ==("__debug__":Str))=false:=by decide)
  (he:backTo pos (I? (e::es) X.env)=(false,eval e X.env)::backTo pos (I? es X.env):=by rfl)
  (hplain:(backTo pos (I? (e::es) X.env)).any (·.1)=false:=by rfl)
  (hall:(backToKw pos (keywordEach kws X.env)).all (·.1.isSome)=true:=by rfl)
  (hkw:(backToKw pos (keywordEach kws X.env)).any (·.1.isNone)=false:=by rfl):PE X (.Call (.Name x p) (e::es) kws pos) (JF r t tk):=by
 refine⟨?_⟩
 intro pins s σ H Q I h;refine wpAny_Call_Name_kw (jD I hg hm hv ?_ hn hdb)
 refine callWith_builtin_kwB hplain hkw ?_
 have hb:=ha pos pins s σ H _ I h;rw[he] at hb ⊢;refine evalArgs_kwB hall (eV hb λus s1 ⟨vs,H1,I1,r1,q1⟩=>?_)
 refine eV (hk pos pins s1 σ H1 _ I1 q1) λws s2 ⟨ys,H2,I2,r2,q2⟩=>?_
 rw[hks];exact hc pins s2 σ H2 vs ys us ws Q I2 r1 r2 q2
end
theorem MM {sc scope:Scope}{N:List Str}(h:∀x∈N,sc.names.lookup x=j? .cell/\(x,Z?)∈scope.names):∀x∈N,sc.names.lookup x=j? .cell/\(x,Z?)∈scope.names:=h
structure PX (K:bM)(L:pC)(cl:List (Str×o?))(l f c:o?)(vs vals:List V)(kf:Nat->Int)(Pv:Nat->Hp->Prop)(Q:VK):Prop where
 lst:∀i H',Pv i H'->aO K H' l vs
 key:∀i v H',vs[i]?=j? v->Pv i H'->L.here cl f c H'/\L.t (j? v::vals.map j?) H' λkv H2=>kv=.int (kf i)/\Pv (i+1) H2
 fin:∀i v H',vs[i]?=j? v->(∀j,j<vs.length->kf i<=kf j)->Pv vs.length H'->Q v H'
def BL (K:bM)(N:List Str)(L:pC)(cl:List (Str×o?)):St->List V->List V->Hp->VK->Prop:=λσ xs ys H Q=>∃(l f c:o?) (vs vals:List V) (kf:Nat->Int) (Pv:Nat->Hp->Prop),xs=[.ref l]/\ys=[.ref f]/\0<vs.length/\
 (∀(j:Nat) x v,L.N[j]?=j? x->vals[j]?=j? v->∃i:Nat,N[i]?=j? x/\σ[i]?=j? (j? v))/\vals.length=L.N.length/\Pv 0 H/\PX K L cl l f c vs vals kf Pv Q
section
variable {X:Cx} {pins:List (o?×Obj)} {σ:St} {L:pC} {cl:List (Str×o?)} {k:Nat} {l f c J S:o?} {vs vals:List V} {kf:Nat->Int} {Pv:Nat->Hp->Prop} {Q:VK}
theorem BN (g:L.Ok X.prog X.w X.K X.mg X.base k)(hr:fM (k+2) X.A)(has:∀x,L.scope.names.lookup x=j? .free->∃c,cl.lookup x=j? c)(mc:∀ {pins:List (o?×Obj)} {H1:Hp} {s1:u?},Inv X pins σ H1 s1->lZ s1.heap H1 X.stack cl L.N vals)
  (M:PX X.K L cl l f c vs vals kf Pv Q) {i:Nat} {v:V} {u:l?} {s:u?} {H:Hp} {oJ oS:Obj} (hv:vs[i]?=j? v) (ru:RelV v u) (I:Inv X pins σ H s) (fJ:j6 X pins H J) (fS:j6 X pins H S) (gJ:s.heap.get? J=j? oJ) (gS:s.heap.get? S=j? oS) (nJ:∀v,oJ.data≠.cell v) (nS:∀v,oS.data≠.cell v) (pv:Pv i H)
  {R:l?->u?->Prop} {E:l?->u?->Prop} (q:∀t s2 H2,Inv X pins σ H2 s2->j6 X pins H2 J->j6 X pins H2 S->s2.heap.get? J=j? oJ->s2.heap.get? S=j? oS->Pv (i+1) H2->R (.int (kf i) t) s2):
  L? (S? X.prog X.w) X.A.in1 (call (.ref f) [u]) R E s:=by
 obtain⟨hh,ht⟩:=M.key i v H hv pv;have hfp:∀b∈[J,S],j6 X pins H b:=λb hb=>by
  rcases List.mem_cons.mp hb with rfl|hb
  ·exact fJ
  ·rw[List.mem_singleton.mp hb];exact fS
 have hob:∀b∈[J,S],∃o,s.heap.get? b=j? o/\∀v,o.data≠.cell v:=λb hb=>by
  rcases List.mem_cons.mp hb with rfl|hb
  ·exact⟨_,gJ,nJ⟩
  ·rw[List.mem_singleton.mp hb];exact⟨_,gS,nS⟩
 have Ip:=I.pinned hfp hob;have e0:=Ip.R1;have e2:Gv X.prog X.w X.K X.mg X.base X.A.in1 X.stack s H:=⟨e0.frames,e0.mod,e0.bs,e0.EU,e0.nh,e0.HW,e0.hok,e0.bare⟩;refine wpAny_call (codeAny_mono (JD g (fM.in1 hr) e2 hh has (mc Ip) ru ht) λr s2 hq2=>?_)
 cases r with
 | error er=>exact M! hq2
 | ok fl=>
  cases fl with
  | next=>exact M! hq2
  | brk=>exact M! hq2
  | cont=>exact M! hq2
  | ret u=>
   obtain⟨kv,H2,I2,rk2,ek,Rg⟩:=Ip.after hq2;subst ek;obtain⟨t2,rfl⟩:=(show ∃t,u=Value.int _ t from rk2)
   have pJ:=I2.pin (J,oJ) (Yr _ (Yr _ (fB Zc gJ)));have pS:=I2.pin (S,oS) (Yr _ (Yr _ (fB (Y7 _ Zc) gS)));exact q t2 s2 H2 I2.kU ⟨pJ.2.1,fJ.2⟩ ⟨pS.2.1,fS.2⟩ pJ.1 pS.1 Rg
theorem Ai {h:O?}{n:Nat}{xs:Array l?}(a:h.IsListIter J l n)(b:h.IsList l xs):l≠J:=λz=>by
 obtain⟨o,e,d,_⟩:=a;obtain⟨u,e',d',_⟩:=b;rw[z,e] at e';cases e';rw[d] at d';injection d' with d'
 exact Jg d' (by decide)
theorem GX (g:L.Ok X.prog X.w X.K X.mg X.base k)(hr:fM (k+2) X.A)(PY:X.calm=true)(has:∀x,L.scope.names.lookup x=j? .free->∃c,cl.lookup x=j? c)(mc:∀ {pins:List (o?×Obj)} {H1:Hp} {s1:u?},Inv X pins σ H1 s1->lZ s1.heap H1 X.stack cl L.N vals)
  (M:PX X.K L cl l f c vs vals kf Pv Q) (MN:S≠J):∀(r j i:Nat) (s:u?) (H:Hp) (vb:l?) (tb:Tok) (cc:Nat) (v:V),vs.length-(j+1)=r->j+1<=vs.length->Inv X pins σ H s->j6 X pins H J->j6 X pins H S->s.heap.get? S=j? (seqObj "list" #[vb,.int (kf i) tb] cc)->s.heap.IsListIter J l (j+1)->
   vs[i]?=j? v->RelV v vb->(∀j',j'<=j->kf i<=kf j')->Pv (j+1) H->codeAny (S? X.prog X.w) X.A (.builtin "min.loop" ⟨[.ref J,.ref f,.ref S],[]⟩) (λr s'=>match r with | .ok (.ret v)=>EP X pins σ Q v s' | .ok _=>False | .error e=>X.xe e s') s:=by
 have nm:(toString "min"++toString ".loop":String)="min.loop":=by decide
 intro r;induction r with
 | zero=>
  intro j i s H vb tb cc v hrr hj I fJ fS gS hit hv rv hb pv;obtain⟨its,PZ,hp,_⟩:=I.list (M.lst _ _ pv);have hls:=hp.isList;have hlen:vs.length=its.length:=PZ.length;have W:=Walks.list (prog:=X.prog) (w:=X.w) (A:=X.A.in1) (I.ok.hd PY) J l (Ai hit hls) its.toArray;refine codeAny_builtin PySem.F.entry_min_loop ?_
  rw[Around.under_plainId PySem.F.plain_min_loop _];show L? _ X.A.in1 (seqItems? (.ref S) >>= _) _ _ s
  refine B? (wpAny_seqItems gS rfl ?_)
  show L? _ X.A.in1 (tryCatch (pyNext (.ref J)) _ >>= _) _ _ s
  refine B? (wpAny_tryCatch (W.done s _ _ ⟨by rw[Yv,show its.length=j+1 by omega];exact hit,hls⟩ λh' tk kk=>?_))
  have SD:=kk S _ (by simpa using MN) gS
  have sb:=Heap.SameBut.update h' S (D! λ_=>(#[]:Array l?))
  show L? _ X.A.in1 (updateSeq S (λ_=>#[]) >>= _) _ _ _
  refine B? (wpAny_updateSeq SD rfl (B? (wpAny_letGo (J? ?_))))
  have I9:Inv X pins σ H { s with heap:=h'.update S (D! λ_=>(#[]:Array l?)),toks:=tk }:=I.zT (ch:=[J,S]) (λb u hb q=>(sb.2 b (λz=>hb (by simp[z]))).trans (kk b u (λz=>hb (by simp at z;simp[z])) q)) (λb hb=>by
   rcases List.mem_cons.mp hb with rfl|hb
   ·exact fJ
   ·rw[List.mem_singleton.mp hb];exact fS)
  exact⟨v,H,I9,rv,M.fin i v H hv (λj' hj'=>hb j' (by omega)) (by rw[show vs.length=j+1 by omega];exact pv)⟩
 | succ r ih=>
  intro j i s H vb tb cc v hrr hj I fJ fS gS hit hv rv hb pv;obtain⟨its,PZ,hp,_⟩:=I.list (M.lst _ _ pv);have hls:=hp.isList;have hlen:vs.length=its.length:=PZ.length;have W:=Walks.list (prog:=X.prog) (w:=X.w) (A:=X.A.in1) (I.ok.hd PY) J l (Ai hit hls) its.toArray;refine codeAny_builtin PySem.F.entry_min_loop ?_
  rw[Around.under_plainId PySem.F.plain_min_loop _];show L? _ X.A.in1 (seqItems? (.ref S) >>= _) _ _ s
  refine B? (wpAny_seqItems gS rfl ?_)
  show L? _ X.A.in1 (tryCatch (pyNext (.ref J)) _ >>= _) _ _ s
  refine B? (wpAny_tryCatch (W.item (j+1) s _ _ (by rw[Yv];omega) ⟨hit,hls⟩ λu h' tk hP P1 kk=>?_))
  have hu:its[j+1]?=j? u:=by simpa using hP
  obtain⟨v2,hv2⟩:∃v2,vs[j+1]?=j? v2:=⟨_,Yc (by omega)⟩
  obtain⟨u2,SE,P4⟩:=PZ.get hv2;rw[hu] at SE;cases SE;have SD:=kk S _ (by simpa using MN) gS
  obtain⟨oJ,gJ,cJ,dJ⟩:=id P1.1;have I1:Inv X pins σ H { s with heap:=h',toks:=tk }:=I.turned (it:=J) (λb o hb q=>kk b o (by simpa using hb) q) fJ.1 fJ.2.1 fJ.2.2.2.1 fJ.2.2.2.2.1 fJ.2.2.2.2.2
  show L? _ X.A.in1 (tryCatch (holding [u] (call (.ref f) [u])) _ >>= _) _ _ _
  refine B? (wpAny_tryCatch (wpAny_holding (BN g hr has mc M hv2 P4 I1 fJ fS gJ SD (λv z=>by rw[dJ] at z;cases z) (λv z=>by cases z) pv λt2 s2 H2 I2 Up FA Uq Rh Rg=>?_)))
  show L? _ X.A.in1 (tryCatch (holding [u,.int (kf (j+1)) t2] (richCompare .Lt (.int (kf (j+1)) t2) (.int (kf i) tb) >>= _)) _ >>= _) _ _ _
  refine B? (wpAny_tryCatch (wpAny_holding (B? (CmpOf.ints_lt (prog:=X.prog) (w:=X.w) (A:=X.A.in1) (P:=λi v=>∃t,v=.int (kf i) t) kf (λi v h=>h) (j+1) i _ _ _ _ _ ⟨t2,rfl⟩ ⟨tb,rfl⟩ ?_))))
  refine B? (wpAny_holding (wpAny_truthy_bool ?_))
  refine B? (wpAny_letGo (J? ?_))
  by_cases hb':kf (j+1)<kf i
  ·have sb:=Heap.SameBut.update s2.heap S (D! λ_=>#[u,.int (kf (j+1)) t2])
   obtain⟨c2,hc2⟩:∃c2,(s2.heap.update S (D! λ_=>#[u,.int (kf (j+1)) t2])).get? S=j? (seqObj "list" #[u,.int (kf (j+1)) t2] c2):=⟨_,get?_update_seq Rh λ_=>#[u,.int (kf (j+1)) t2]⟩
   simp only[hb',decide_true,if_true]
   refine B? ?_
   refine wpAny_updateSeq Rh rfl (B? (wpAny_letGo ?_))
   rw[nm];refine J? ⟨plainId_quiet PySem.F.plain_min_loop _,ih (j+1) (j+1) _ H2 u t2 c2 v2 (by omega) (by omega) (I2.turned (it:=S) (t':=s2.toks) (λb o hb q=>(sb.2 b hb).trans q) FA.1 FA.2.1 FA.2.2.2.1 FA.2.2.2.2.1 FA.2.2.2.2.2) Up FA hc2 ⟨oJ,(sb.2 J (Ne.symm MN)).trans Uq,cJ,dJ⟩ hv2 P4 (λj' hj'=>?_) Rg⟩
   by_cases e:j'=j+1
   ·rw[e];exact Int.le_refl _
   ·have:=hb j' (by omega);omega
  ·simp only[hb',decide_false,Bool.false_eq_true,if_false]
   refine B? (wpAny_letGo ?_)
   rw[nm];refine J? ⟨plainId_quiet PySem.F.plain_min_loop _,ih (j+1) i _ H2 vb tb cc v (by omega) (by omega) I2 Up FA Rh ⟨oJ,Uq,cJ,dJ⟩ hv rv (λj' hj'=>?_) Rg⟩
   by_cases e:j'=j+1
   ·rw[e];omega
   ·exact hb j' (by omega)
end
section
variable {X:Cx}
theorem GY {L:pC}{k:Nat}{scope:Scope}(g:L.Ok X.prog X.w X.K X.mg X.base k)(hr:fM (k+2) X.A)(PY:X.calm=true)(hsc:L.scope=scope)(hcf:∀y∈scope.names,y.2=.free->∃c,X.env.cells.lookup y.1=j? c)(hst:X.stack=X.env::X.outer/\X.env.frame=j? X.env.locals)(hfn:∀x,X.fn x=true)
  (hfr:∀x∈L.N,X.env.kindOf x=j? .cell/\(x,Z?)∈scope.names):JE X (.builtin "min") ["key"] (BL X.K X.N L (aU X.env.cells scope.names [])):=by
 intro pins s σ H xs ys us ws Q I rx ry h;obtain⟨l,f,c,vs,vals,kf,Pv,rfl,rfl,hne,SG,hvl,pv,M⟩:=h;obtain⟨u,rfl,ru⟩:=vals1 rx;cases (show u=I! l from ru)
 obtain⟨u2,rfl,P4⟩:=vals1 ry;cases (show u2=I! f from P4)
 have mc:∀ {pins:List (o?×Obj)} {H1:Hp} {s1:u?},Inv X pins σ H1 s1->lZ s1.heap H1 X.stack (aU X.env.cells scope.names []) L.N vals:=λI'=>lZ.made I' hfn hst hfr SG hvl
 have has:∀x,L.scope.names.lookup x=j? .free->∃c,(aU X.env.cells scope.names []).lookup x=j? c:=by rw[hsc];exact MK hcf
 obtain⟨its,PZ,hp,_⟩:=I.list (M.lst _ _ pv);have hls:=hp.isList;have hlen:vs.length=its.length:=PZ.length;have BO:l<s.heap.objs.size:=by obtain⟨_,e,_⟩:=id hls;exact Ym e
 have nm:(toString "min"++toString ".loop":String)="min.loop":=by decide
 show L? _ _ (call (.builtin "min") [.ref l] [(Str.ofString "key",.ref f)]) _ _ _
 refine kmk_tree PySem.F.kind_min PySem.F.plain_min PySem.F.entry_min (kmk_min_key _ _) ?_
 show L? _ X.A.in1 (Builtin.Builtins.bindParams "min" ["key","default"] 0 ⟨[],[(Str.ofString "key",.ref f)]⟩ >>= _) _ _ s
 refine B? (wpAny_of_eq (show Builtin.Builtins.bindParams "min" ["key","default"] 0 ⟨[],[(Str.ofString "key",.ref f)]⟩=pure [j? (.ref f),q?] from rfl) (B? (J? ?_)))
 refine B? (wpAny_pyIter_list hls ?_)
 refine B? (wpAny_newList ?_ (Y1 _))
 rw[nm];have hS:(s.heap.push { cls:=.type "list_iterator",data:=.fields #[.ref l,.int 0 0] }).objs.size=s.heap.objs.size+1:=size_push' ..;have VG:((s.heap.push { cls:=.type "list_iterator",data:=.fields #[.ref l,.int 0 0] }).push (seqObj "list" #[] 0)).get? s.heap.objs.size=j? { cls:=.type "list_iterator",data:=.fields #[.ref l,.int 0 0] }:=Yh _ (Y0 _ rfl);have Ur:((s.heap.push { cls:=.type "list_iterator",data:=.fields #[.ref l,.int 0 0] }).push (seqObj "list" #[] 0)).get? (s.heap.objs.size+1)=j? (seqObj "list" #[] 0):=by
  rw[<- hS];exact Y0 _ rfl
 have keep:∀b o,s.heap.get? b=j? o->((s.heap.push { cls:=.type "list_iterator",data:=.fields #[.ref l,.int 0 0] }).push (seqObj "list" #[] 0)).get? b=j? o:=λb o e=>Yh _ (Yh _ e)
 refine J? ⟨plainId_quiet PySem.F.plain_min_loop _,?_⟩
 rw[hS];show codeAny _ _ _ _ { s with heap:=(s.heap.push { cls:=.type "list_iterator",data:=.fields #[.ref l,.int 0 0] }).push (seqObj "list" #[] 0) }
 have P5:((s.heap.push { cls:=.type "list_iterator",data:=.fields #[.ref l,.int 0 0] }).push (seqObj "list" #[] 0)).IsList l its.toArray:=by
  obtain⟨o,e,r⟩:=hls;exact⟨o,keep _ _ e,r⟩
 generalize (s.heap.push { cls:=.type "list_iterator",data:=.fields #[.ref l,.int 0 0] }).push (seqObj "list" #[] 0)=h1 at VG Ur keep P5 ⊢;have fJ:=I.uW (Yd _) (I.hok.fresh (Yd s.heap.objs.size));have fS:j6 X pins H (s.heap.objs.size+1):=I.uW (W7 s.heap.objs.size) (I.hok.fresh (W7 s.heap.objs.size));have I0:Inv X pins σ H { s with heap:=h1,toks:=s.toks }:=I.kept keep
 have MN:s.heap.objs.size+1≠s.heap.objs.size:=Nat.succ_ne_self _;generalize s.heap.objs.size+1=S at Ur fS MN ⊢;generalize s.heap.objs.size=J at VG fJ MN ⊢;have hit:h1.IsListIter J l 0:=⟨_,VG,rfl,rfl⟩;have W:=Walks.list (prog:=X.prog) (w:=X.w) (A:=X.A.in1) (I.ok.hd PY) J l (Ai hit P5) its.toArray;refine codeAny_builtin PySem.F.entry_min_loop ?_
 rw[Around.under_plainId PySem.F.plain_min_loop _];show L? _ X.A.in1 (seqItems? (.ref S) >>= _) _ _ _
 refine B? (wpAny_seqItems Ur rfl ?_)
 show L? _ X.A.in1 (tryCatch (pyNext (.ref J)) _ >>= _) _ _ _
 refine B? (wpAny_tryCatch (W.item 0 _ _ _ (by rw[Yv];omega) ⟨hit,P5⟩ λu h' tk hP P1 kk=>?_))
 have hu:its[0]?=j? u:=by simpa using hP
 obtain⟨v2,hv2⟩:∃v2,vs[0]?=j? v2:=⟨_,Yc (by omega)⟩
 obtain⟨u2,SE,P4⟩:=PZ.get hv2;rw[hu] at SE;cases SE;have SD:=kk S _ (by simpa using MN) Ur
 obtain⟨oJ,gJ,cJ,dJ⟩:=id P1.1;have I1:Inv X pins σ H { s with heap:=h',toks:=tk }:=Inv.turned (s:={ s with heap:=h1,toks:=s.toks }) I0 (it:=J) (λb o hb q=>kk b o (by simpa using hb) q) fJ.1 fJ.2.1 fJ.2.2.2.1 fJ.2.2.2.2.1 fJ.2.2.2.2.2
 show L? _ X.A.in1 (tryCatch (holding [u] (call (.ref f) [u])) _ >>= _) _ _ _
 refine B? (wpAny_tryCatch (wpAny_holding (BN g hr has mc M hv2 P4 I1 fJ fS gJ SD (λv z=>by rw[dJ] at z;cases z) (λv z=>by cases z) pv λt2 s2 H2 I2 Up FA Uq Rh Rg=>?_)))
 have sb:=Heap.SameBut.update s2.heap S (D! λ_=>#[u,.int (kf 0) t2])
 obtain⟨c2,hc2⟩:∃c2,(s2.heap.update S (D! λ_=>#[u,.int (kf 0) t2])).get? S=j? (seqObj "list" #[u,.int (kf 0) t2] c2):=⟨_,get?_update_seq Rh λ_=>#[u,.int (kf 0) t2]⟩
 show L? _ X.A.in1 (updateSeq S (λ_=>#[u,.int (kf 0) t2]) >>= _) _ _ _
 refine B? ?_
 refine wpAny_updateSeq Rh rfl ?_
 rw[nm];refine J? ⟨plainId_quiet PySem.F.plain_min_loop _,GX g hr PY has mc M MN _ 0 0 _ H2 u t2 c2 v2 rfl (by omega) (I2.turned (it:=S) (t':=s2.toks) (λb o hb q=>(sb.2 b hb).trans q) FA.1 FA.2.1 FA.2.2.2.1 FA.2.2.2.2.1 FA.2.2.2.2.2) Up FA hc2 ⟨oJ,(sb.2 J (Ne.symm MN)).trans Uq,cJ,dJ⟩ hv2 P4 (λj' hj'=>?_) Rg⟩
 rw[show j'=0 by omega];exact Int.le_refl _
theorem MO {K:bM}{c P:o?}{e:Expr}{params:Arguments}{body:Expr}{scope:Scope}{pos pos2 p kp:Pos}{x:Str}{N:List Str}{t:TE}{ta:TA}{k:Nat}(hK:X.K=K)
  (hbody:∀(cl:List (Str×o?)) (f c:o?) (A:A!) (outer:List Env) (s:u?) (H:Hp),fM k (A.deeper (envX (X.env.qual++"<lambda>") scope s.heap.objs.size f (.ref c) cl))->PE (Fz X.prog X.w K X.mg X.base (x::N) (X.env.qual++"<lambda>") scope f c cl A outer s H) body t)
  (hr:fM (k+2) X.A) (PY:X.calm=true) (hst:X.stack=X.env::X.outer/\X.env.frame=j? X.env.locals) (hfn:∀x,X.fn x=true) (hb:BMain X.mg X.base) (hc:X.env.code=.ref c) (hk:codeHdIn K c P=true) (hg:Gl X "min") (hm:X.mg "min"=q?) (ha:PA X [e] ta)
  (hbind:∀cl pm cdv ct u,bindArgs (kla_fn "<lambda>" (X.env.qual++"<lambda>") params body scope cl pm cdv ct) ⟨[u],[]⟩=pure [(x,u)])
  (hcf:∀y∈scope.names,y.2=.free->∃c,X.env.cells.lookup y.1=j? c) (hfr:∀x∈N,X.env.kindOf x=j? .cell/\(x,Z?)∈scope.names) (hnc:∀y∈scope.names,y.2≠.cell) (hloc:scope.names.lookup x=j? .local) (P6:∀x∈N,scope.names.lookup x=j? .free)
  (hdef:defaultsOf params X.env=([],[]):=by rfl) (hkind:scope.kind=.function:=by rfl) (hco:scope.isCoroutine=false:=by rfl) (hgen:scope.isGenerator=false:=by rfl)
  (he1:backTo pos2 (I? [e] X.env)=(false,eval e X.env)::backTo pos2 (I? [] X.env):=by rfl)
  (hplain:(backTo pos2 (I? [e] X.env)).any (·.1)=false:=by rfl):
  PE X (.Call (.Name "min" p) [e] [.mk (j? "key") (.Lambda params body scope pos) kp] pos2) (JF (BL K X.N ⟨X.env.qual++"<lambda>",params,body,scope,x,N,t⟩ (aU X.env.cells scope.names [])) ta (Be (zp P pos ⟨X.env.qual++"<lambda>",params,body,scope,x,N,t⟩ (aU X.env.cells scope.names [])) Ii)):=by
 subst hK;exact DL (GY (k:=k) (L:=⟨X.env.qual++"<lambda>",params,body,scope,x,N,t⟩) ⟨hkind,hco,hgen,hnc,hloc,P6,hbind,hbody⟩ hr PY rfl hcf hst hfn hfr) hg hm Pe ha (Ma (ML ⟨rfl,rfl,rfl⟩ rfl hb hc hk hcf hdef) O3) (he:=he1) (hplain:=hplain)
end
end L2
namespace L2
open PySem PySem.SeqAt PySem.Spec PySem.W PyProof.Rows
end L2
namespace L2
open PySem PySem.Spec PyProof.Rows Alg
end L2
namespace Alg
open Lean.Grind
end Alg
namespace L2
open Alg
end L2
namespace Alg
open Lean.Grind
section
variable {α:Type} [CommRing α]
inductive iy (S:List (Nat->α)):(Nat->α)->Prop where
 | zero:iy S λ_=>0
 | add {r v:Nat->α} (a:α) (h:r∈S) (t:iy S v):iy S λi=>a*r i+v i
theorem iy.of {S:List (Nat->α)}{v w:Nat->α}(h:iy S v)(e:∀i,v i=w i):iy S w:=by
 rw[<- funext e];exact h
theorem iy.plus {S:List (Nat->α)}{v w:Nat->α}(h:iy S v)(k:iy S w):iy S λi=>v i+w i:=by
 induction h with
 | zero=>exact k.of λi=>by grind
 | @add r v a hr _ ih=>exact(iy.add a hr ih).of λi=>by grind
theorem iy.smul {S:List (Nat->α)}{v:Nat->α}(c:α)(h:iy S v):iy S λi=>c*v i:=by
 induction h with
 | zero=>exact iy.zero.of λi=>by grind
 | @add r v a hr _ ih=>exact(iy.add (c*a) hr ih).of λi=>by grind
theorem iy.mem {S:List (Nat->α)}{r:Nat->α}(h:r∈S):iy S r:=(iy.add 1 h iy.zero).of λi=>by grind
theorem iy.trans {S S':List (Nat->α)}(hs:∀r∈S,iy S' r){v:Nat->α}(h:iy S v):iy S' v:=by
 induction h with
 | zero=>exact .zero
 | @add r v a hr _ ih=>exact((hs r hr).smul a).plus ih
theorem iy.w_ {S:List (Nat->α)}{k:Nat}(hs:∀r∈S,r k=0){v:Nat->α}(h:iy S v):v k=0:=by
 induction h with
 | zero=>rfl
 | @add r v a hr _ ih=>show a*r k+v k=0;rw[hs r hr,ih];grind
theorem iy.step {S S':List (Nat->α)}{r s0:Nat->α}{k:Nat}{b:α}(e0:∀i,r i=b*s0 i)(e1:r k=1)(hs:∀s∈S,s=s0\/(λi=>s i-s k*r i)∈S'){v:Nat->α}(h:iy S v):iy S' λi=>v i-v k*r i:=by
 induction h with
 | zero=>exact iy.zero.of λi=>by grind
 | @add s v a hr _ ih=>
  rcases hs s hr with rfl|h
  ·have e2:b*s k=1:=by rw[<- e0];exact e1
   refine ih.of λi=>?_
   rw[e0 i];grind
  ·refine(iy.add a h ih).of λi=>?_
   grind
theorem iy.back {S:List (Nat->α)}{r s0 s:Nat->α}{k:Nat}{b:α}(e0:∀i,r i=b*s0 i)(h0:s0∈S)(hs:s∈S):iy S λi=>s i-s k*r i:=by
 refine(iy.add (-(s k*b)) h0 (iy.mem hs)).of λi=>?_
 rw[e0 i];grind
def sm (n:Nat)(d:Nat->α)(R:Nat->Nat->α)(j:Nat):α:=match n with
 | 0=>0
 | n+1=>sm n d R j+d n*R n j
theorem cW {n:Nat}{d d':Nat->α}{R R':Nat->Nat->α}{j:Nat}(h:∀i,i<n->d i=d' i)(k:∀i,i<n->R i j=R' i j):sm n d R j=sm n d' R' j:=by
 induction n with
 | zero=>rfl
 | succ n ih=>
  show sm n d R j+d n*R n j=sm n d' R' j+d' n*R' n j
  rw[ih (λi hi=>h i (by omega)) (λi hi=>k i (by omega)),h n (by omega),k n (by omega)]
theorem fP {n:Nat}{R:Nat->Nat->α}{j:Nat}:sm n (λ_=>0) R j=0:=by
 induction n with
 | zero=>rfl
 | succ n ih=>
  show sm n (λ_=>0) R j+0*R n j=0
  rw[ih];grind
theorem jb {n:Nat}(a:α){d e:Nat->α}{R:Nat->Nat->α}{j:Nat}:sm n (λi=>a*d i+e i) R j=a*sm n d R j+sm n e R j:=by
 induction n with
 | zero=>show(0:α)=a*0+0;grind
 | succ n ih=>
  show sm n (λi=>a*d i+e i) R j+(a*d n+e n)*R n j=a*(sm n d R j+d n*R n j)+(sm n e R j+e n*R n j)
  rw[ih];grind
theorem gT {n:Nat}{R:Nat->Nat->α}{j k:Nat}(hk:k<n):sm n (λi=>if i=k then 1 else 0) R j=R k j:=by
 induction n with
 | zero=>omega
 | succ n ih=>
  show sm n (λi=>if i=k then 1 else 0) R j+(if n=k then 1 else 0)*R n j=R k j
  by_cases h:n=k
  ·subst h
   rw[Ja rfl,cW (d':=λ_=>0) (λi hi=>by show(if i=n then (1:α) else 0)=0;rw[W9 (by omega)]) (λi hi=>rfl),fP];grind
  ·rw[ih (by omega),W9 h];grind
def j7 (W n:Nat)(R:Nat->Nat->α)(k:Nat):Nat->α:=λj=>if j<W then R k j else if j<W+n then (if j-W=k then 1 else 0) else 0
theorem MP {W n:Nat}{R:Nat->Nat->α}{S:List (Nat->α)}(hS:∀r∈S,∃k,k<n/\r=j7 W n R k){v:Nat->α}(h:iy S v):(∀j,j<W->v j=sm n (λi=>v (W+i)) R j)/\∀j,W+n<=j->v j=0:=by
 induction h with
 | zero=>exact⟨λj _=>fP.symm,λ_ _=>rfl⟩
 | @add r v a hr _ ih=>
  obtain⟨k,hk,rfl⟩:=hS r hr;refine⟨λj hj=>?_,λj hj=>?_⟩
  ·show a*j7 W n R k j+v j=_
   rw[jb (n:=n) a (d:=λi=>j7 W n R k (W+i)) (e:=λi=>v (W+i)),<- ih.1 j hj]
   congr 1
   rw[cW (n:=n) (d':=λi=>if i=k then 1 else 0) (λi hi=>?_) (λi hi=>rfl),gT hk]
   ·show a*(if j<W then R k j else _)=_
    rw[Ja hj]
   ·show(if W+i<W then R k (W+i) else if W+i<W+n then (if W+i-W=k then (1:α) else 0) else 0)=_
    rw[W9 (by omega),Ja (by omega),Wm]
  ·show a*(if j<W then R k j else if j<W+n then _ else 0)+v j=0
   rw[W9 (by omega),W9 (by omega),ih.2 j hj];grind
theorem BP {W n:Nat}{R:Nat->Nat->α}(d:Nat->α):∀m,m<=n->iy ((Yj n).map (j7 W n R)) λj=>sm m d (j7 W n R) j
 | 0,_=>.zero
 | m+1,hm=>(iy.add (d m) (List.mem_map.mpr ⟨m,List.mem_range.mpr (by omega),rfl⟩) (BP d m (by omega))).of λj=>by
   show d m*j7 W n R m j+sm m d (j7 W n R) j=sm m d (j7 W n R) j+d m*j7 W n R m j
   grind
theorem MQ {W n:Nat}{R:Nat->Nat->α}{d:Nat->α}:(∀j,j<W->sm n d (j7 W n R) j=sm n d R j)/\(∀i,i<n->sm n d (j7 W n R) (W+i)=d i)/\∀j,W+n<=j->sm n d (j7 W n R) j=0:=by
 refine⟨λj hj=>cW (λi _=>rfl) λi _=>by show(if j<W then R i j else _)=_;rw[Ja hj],λi hi=>?_,λj hj=>?_⟩
 ·have e:∀m,m<=n->sm m d (j7 W n R) (W+i)=if i<m then d i else 0:=by
   intro m;induction m with
   | zero=>intro _;rw[W9 (by omega)];rfl
   | succ m ih=>
    intro hm;show sm m d (j7 W n R) (W+i)+d m*(if W+i<W then R m (W+i) else if W+i<W+n then (if W+i-W=m then (1:α) else 0) else 0)=_
    rw[ih (by omega),W9 (show ¬ W+i<W by omega),Ja (show W+i<W+n by omega),Wm]
    by_cases h1:i=m
    ·subst h1
     rw[W9 (show ¬ i<i by omega),Ja rfl,Ja (show i<i+1 by omega)];grind
    ·rw[W9 h1]
     by_cases h2:i<m
     ·rw[Ja h2,Ja (show i<m+1 by omega)];grind
     ·rw[W9 h2,W9 (show ¬ i<m+1 by omega)];grind
  rw[e n (Yd n),Ja hi]
 ·have:sm n d (j7 W n R) j=sm n d (λ_ _=>0) j:=cW (λi _=>rfl) λi _=>by
   show(if j<W then R i j else if j<W+n then _ else 0)=0
   rw[W9 (by omega),W9 (by omega)]
  rw[this];have z:∀m,sm m d (λ_ _=>(0:α)) j=0:=λm=>by
   induction m with
   | zero=>rfl
   | succ m ih=>show sm m d (λ_ _=>(0:α)) j+d m*0=0;rw[ih];grind
  exact z n
structure C7 (W n:Nat)(R:Nat->Nat->α)(k:Nat)(S:List (Nat->α)):Prop where
 sub:∀r∈S,iy ((Yj n).map (j7 W n R)) r
 nil:∀r∈S,∀j,j<k->r j=0
 all:∀v,iy ((Yj n).map (j7 W n R)) v->(∀j,j<k->v j=0)->iy S v
theorem C7.start {W n:Nat}{R:Nat->Nat->α}:C7 W n R 0 ((Yj n).map (j7 W n R)):=⟨λr h=>.mem h,λr _ j hj=>Jg hj (Zb _),λv h _=>h⟩
theorem C7.skip {W n k:Nat}{R:Nat->Nat->α}{S:List (Nat->α)}(h:C7 W n R k S)(h0:∀r∈S,r k=0):C7 W n R (k+1) S:=
 ⟨h.sub,λr hr j hj=>by
  by_cases e:j=k
  ·rw[e];exact h0 r hr
  ·exact h.nil r hr j (by omega),λv hv h1=>h.all v hv λj hj=>h1 j (by omega)⟩
theorem C7.step {W n k:Nat}{R:Nat->Nat->α}{S S':List (Nat->α)}{r s0:Nat->α}{b:α}(h:C7 W n R k S)(h0:s0∈S)(e0:∀i,r i=b*s0 i)(e1:r k=1)(hs:∀s∈S,s=s0\/(λi=>s i-s k*r i)∈S')(hs':∀t∈S',∃s∈S,t=λi=>s i-s k*r i):C7 W n R (k+1) S':=by
 refine⟨λt ht=>?_,λt ht j hj=>?_,λv hv h1=>?_⟩
 ·obtain⟨s,hs,rfl⟩:=hs' t ht
  exact(iy.back e0 h0 hs).trans h.sub
 ·obtain⟨s,hs,rfl⟩:=hs' t ht
  show s j-s k*r j=0
  by_cases e:j=k
  ·rw[e,e1];grind
  ·rw[e0 j,h.nil s hs j (by omega),h.nil s0 h0 j (by omega)];grind
 ·have:=(h.all v hv λj hj=>h1 j (by omega)).step e0 e1 hs
  refine this.of λi=>?_
  rw[h1 k (by omega)];grind
theorem C7.done {W n:Nat}{R:Nat->Nat->α}{S:List (Nat->α)}(h:C7 W n R W S):(∀r∈S,∀j,j<W->sm n (λi=>r (W+i)) R j=0)/\∀d:Nat->α,(∀j,j<W->sm n d R j=0)->∃v,iy S v/\∀i,i<n->v (W+i)=d i:=by
 refine⟨λr hr j hj=>?_,λd hd=>?_⟩
 ·have:=(MP (W:=W) (n:=n) (R:=R) (λr hr=>by obtain⟨k,hk,e⟩:=List.mem_map.mp hr;exact⟨k,List.mem_range.mp hk,e.symm⟩) (h.sub r hr)).1 j hj
  rw[<- this];exact h.nil r hr j hj
 ·obtain⟨a,b,_⟩:=MQ (W:=W) (n:=n) (R:=R) (d:=d)
  exact⟨_,h.all _ (BP d n (Yd n)) λj hj=>by rw[a j hj];exact hd j hj,b⟩
end
end Alg
namespace L2
open PySem Alg
end L2
namespace Alg
open Lean.Grind
end Alg
namespace L2
open PySem Alg
end L2
namespace Alg
open Lean.Grind
section
variable {α:Type} [CommRing α]
theorem DM {p:Nat}(hc:nt α p=0)(k:Nat):nt α (k % p)=nt α k:=by
 have h:=Nat.div_add_mod k p;have h2:nt α k=nt α (p*(k / p)+k % p):=by rw[h]
 rw[h2,wW,tV,hc];grind
end
end Alg
namespace L2
open PySem Alg
abbrev Zt (T:Rb):Type:=(ground T.p T.pr).α
def zv {T:Rb}(x:Zt T):Nat:=(show Zp T.p from x).v
section
variable {T:Rb} {F:T.α->Nat->Zt T}
theorem SH (z:Zt T):Alg.nt (Zt T) (zv z)=z:=by
 apply Zp.ext
 show(letI:=sC (cP T.pr).1;Alg.nt (Zp T.p) (zv z):Zp T.p).v=(show Zp T.p from z).v
 rw[Ju];exact Z4 (show Zp T.p from z).lt
end
end L2
namespace Alg
open Lean.Grind
abbrev Vc:=Nat->Int
def Gq (S:List Vc)(m:Int)(q:Nat)(v:Vc):Prop:=(∀j,q<=j->v j=0)/\∃u z:Vc,iy S u/\∀j,v j=u j+m*z j
theorem Gq.zero {S:List Vc}{m:Int}{q:Nat}:Gq S m q λ_=>0:=⟨λ_ _=>rfl,_,λ_=>0,.zero,λj=>by show(0:Int)=0+m*0;omega⟩
theorem Gq.jq {S:List Vc}{m:Int}{q:Nat}(a:Int){v w:Vc}(h:Gq S m q v)(k:Gq S m q w):Gq S m q λj=>a*v j+w j:=by
 obtain⟨h0,u,z,hu,e⟩:=h;obtain⟨k0,u',z',N5,e'⟩:=k;exact⟨λj hj=>by show a*v j+w j=0;rw[h0 j hj,k0 j hj];omega,_,λj=>a*z j+z' j,(hu.smul a).plus N5,λj=>by show a*v j+w j=a*u j+u' j+m*(a*z j+z' j);rw[e j,e' j];grind⟩
theorem Gq.of {S:List Vc}{m:Int}{q:Nat}{v w:Vc}(h:Gq S m q v)(e:∀j,v j=w j):Gq S m q w:=by rw[<- funext e];exact h
theorem Gq.mem {S:List Vc}{m:Int}{q:Nat}{r:Vc}(h:r∈S)(h0:∀j,q<=j->r j=0):Gq S m q r:=⟨h0,r,λ_=>0,.mem h,λj=>by show r j=r j+m*0;omega⟩
theorem Gq.JG {S:List Vc}{m:Int}{q:Nat}{v w z:Vc}(h:Gq S m q v)(w0:∀j,q<=j->w j=0)(e:∀j,w j=v j+m*z j):Gq S m q w:=by
 obtain⟨h0,u,z',hu,e'⟩:=h;exact⟨w0,u,λj=>z j+z' j,hu,λj=>by rw[e j,e' j];grind⟩
theorem Gq.unit {S:List Vc}{m:Int}{q k:Nat}(hk:k<q):Gq S m q λj=>if j=k then m else 0:=by
 refine(Gq.zero (S:=S) (m:=m) (q:=q)).JG (z:=λj=>if j=k then 1 else 0) (λj hj=>W9 (by omega)) λj=>?_
 by_cases e:j=k
 ·simp[e]
 ·simp[e]
theorem Gq.sm {S:List Vc}{m:Int}{q:Nat}{c:Vc}{T:Nat->Vc}:∀n,(∀i,i<n->Gq S m q (T i))->Gq S m q λj=>sm n c T j
 | 0,_=>.zero
 | n+1,h=>((h n (by omega)).jq (c n) (Gq.sm n λi hi=>h i (by omega))).of λj=>by
   show c n*T n j+Alg.sm n c T j=Alg.sm n c T j+c n*T n j
   omega
theorem iy.lead {S S':List Vc}{lead:Vc}{m:Int}(h:∀r∈S,∃r'∈S',∃(o:Int) (w:Vc),∀j,r j=r' j+o*lead j+m*w j){u:Vc}(hu:iy S u):∃(A:Int) (u' w:Vc),iy S' u'/\∀j,u j=A*lead j+u' j+m*w j:=by
 induction hu with
 | zero=>exact⟨0,_,λ_=>0,.zero,λj=>by show(0:Int)=0*lead j+0+m*0;grind⟩
 | @add r v a hr _ ih=>
  obtain⟨r',hr',o,w,e⟩:=h r hr;obtain⟨A,u',w',N5,e'⟩:=ih;exact⟨a*o+A,_,λj=>a*w j+w' j,.add a hr' N5,λj=>by show a*r j+v j=(a*o+A)*lead j+(a*r' j+u' j)+m*(a*w j+w' j);rw[e j,e' j];grind⟩
theorem Gq.step {S S':List Vc}{lead:Vc}{m t:Int}{q:Nat}(hs:∀r∈S,∃r'∈S',∃(o:Int) (w:Vc),∀j,r j=r' j+o*lead j+m*w j)(hx:∃x∈S',∃w:Vc,∀j,t*lead j=x j+m*w j)(hl:t*lead q=m)(hup:∀j,q+1<=j->lead j=0)(h0:∀r∈S',∀j,q<=j->r j=0)(m0:m≠0){g:Vc}(hg:Gq S m (q+1) g):∃(a:Int) (g':Vc),Gq S' m q g'/\∀j,g j=a*lead j+g' j:=by
 obtain⟨gz,u,z,hu,eg⟩:=hg;obtain⟨A,u',w,N5,eu⟩:=hu.lead hs;obtain⟨x,xs,wx,ex⟩:=hx;have w1:wx q=1:=by
  have:=ex q
  rw[hl,h0 x xs q (Yd q),Zn] at this;have e:m*(wx q-1)=0:=by grind
  rcases Int.mul_eq_zero.mp e with y|y
  ·exact Jg y m0
  ·omega
 have X7:∀j,g j=(A+(w q+z q)*t)*lead j+(u' j-(w q+z q)*x j+m*(w j+z j-(w q+z q)*wx j)):=λj=>by
  have:=ex j
  rw[eg j,eu j];grind
 refine⟨A+(w q+z q)*t,_,⟨λj hj=>?_,λj=>u' j-(w q+z q)*x j,λj=>w j+z j-(w q+z q)*wx j,(iy.add (-(w q+z q)) xs N5).of λj=>by show -(w q+z q)*x j+u' j=u' j-(w q+z q)*x j;grind,λj=>rfl⟩,X7⟩
 by_cases e:j=q
 ·subst e
  show u' j-(w j+z j)*x j+m*(w j+z j-(w j+z j)*wx j)=0
  rw[w1,h0 x xs j (Yd j),N5.w_ λr hr=>h0 r hr j (Yd j)];grind
 ·have h1:=X7 j
  rw[gz j (by omega),hup j (by omega)] at h1
  grind
theorem xg {n:Nat}{d d':Vc}{R R':Nat->Vc}{j:Nat}(h:∀i,i<n->d i*R i j=d' i*R' i j):sm n d R j=sm n d' R' j:=by
 induction n with
 | zero=>rfl
 | succ n ih=>
  show sm n d R j+d n*R n j=sm n d' R' j+d' n*R' n j
  rw[ih λi hi=>h i (by omega),h n (by omega)]
theorem DN {n q:Nat}(hq:q<n){c:Vc}(c0:c q=0){T:Nat->Vc}{lead:Vc}{a:Int}(j:Nat):sm n (λi=>if i=q then a else c i) (λi=>if i=q then lead else T i) j=sm n c T j+a*lead j:=by
 induction n with
 | zero=>omega
 | succ n ih=>
  show sm n _ _ j+(if n=q then a else c n)*(if n=q then lead else T n) j=sm n c T j+c n*T n j+a*lead j
  by_cases e:n=q
  ·rw[Ja e,Ja e,xg (d':=c) (R':=T) λi hi=>by
    show(if i=q then a else c i)*(if i=q then lead else T i) j=_
    rw[W9 (by omega),W9 (by omega)]]
   rw[e,c0];grind
  ·rw[W9 e,W9 e,ih (by omega)];grind
structure JH (n:Nat)(R:List Vc)(m:Int)(q:Nat)(T:Nat->Vc)(S:List Vc):Prop where
 low:∀r∈S,∀j,q<=j->r j=0
 sub:∀r∈S,Gq R m n r
 told:∀i,q<=i->i<n->Gq R m n (T i)
 jB:∀i,q<=i->i<n->∀j,i<j->T i j=0
 all:∀v,Gq R m n v->∃c g:Vc,(∀i,i<q->c i=0)/\Gq S m q g/\∀j,v j=sm n c T j+g j
theorem JH.step {n q:Nat}{R S S':List Vc}{m t:Int}{T:Nat->Vc}{lead:Vc}(h:JH n R m (q+1) T S)(hq:q<n)(m0:m≠0)
  (pN:Gq R m n lead) (hup:∀j,q+1<=j->lead j=0) (hl:t*lead q=m)
  (hs:∀r∈S,∃r'∈S',∃(o:Int) (w:Vc),∀j,r j=r' j+o*lead j+m*w j) (hx:∃x∈S',∃w:Vc,∀j,t*lead j=x j+m*w j)
  (hb:∀r'∈S',(∃r∈S,∃(o:Int) (w:Vc),∀j,r j=r' j+o*lead j+m*w j)\/∃w:Vc,∀j,t*lead j=r' j+m*w j) (h0:∀r∈S',∀j,q<=j->r j=0):JH n R m q (λi=>if i=q then lead else T i) S':=by
 refine⟨h0,λr' hr'=>?_,λi hi hn=>?_,λi hi hn j hj=>?_,λv hv=>?_⟩
 ·rcases hb r' hr' with ⟨r,hr,o,w,e⟩|⟨w,e⟩
  ·exact(pN.jq (-o) (h.sub r hr)).JG (z:=λj=>-w j) (λj hj=>h0 r' hr' j (by omega)) λj=>by have:=e j;grind
  ·exact(pN.jq t Gq.zero).JG (z:=λj=>-w j) (λj hj=>h0 r' hr' j (by omega)) λj=>by have:=e j;grind
 ·by_cases e:i=q
  ·rw[Ja e];exact pN
  ·rw[W9 e];exact h.told i (by omega) hn
 ·by_cases e:i=q
  ·rw[Ja e];exact hup j (by omega)
  ·rw[W9 e];exact h.jB i (by omega) hn j hj
 ·obtain⟨c,g,c0,hg,e⟩:=h.all v hv
  obtain⟨a,g',hg',e'⟩:=hg.step hs hx hl hup h0 m0;refine⟨λi=>if i=q then a else c i,g',λi hi=>?_,hg',λj=>?_⟩
  ·show(if i=q then a else c i)=0
   rw[W9 (by omega)];exact c0 i (by omega)
  ·rw[DN hq (c0 q (by omega)) j,e j,e' j];omega
theorem JH.start {n:Nat}{R:List Vc}{m:Int}{T:Nat->Vc}{S:List Vc}(h1:∀r∈S,Gq R m n r)(h2:∀r∈R,∃r'∈S,∃w:Vc,∀j,r j=r' j+m*w j):JH n R m n T S:=by
 refine⟨λr hr=>(h1 r hr).1,h1,λi hi hn=>by omega,λi hi hn=>by omega,λv hv=>⟨λ_=>0,v,λ_ _=>rfl,?_,λj=>by rw[fP];omega⟩⟩
 obtain⟨v0,u,z,hu,e⟩:=hv;obtain⟨A,u',w,N5,eu⟩:=hu.lead (S':=S) (lead:=λ_=>0) (m:=m) λr hr=>by
  obtain⟨r',hr',w,e⟩:=h2 r hr;exact⟨r',hr',0,w,λj=>by rw[e j];omega⟩
 exact⟨v0,u',λj=>w j+z j,N5,λj=>by rw[e j,eu j];grind⟩
structure dB (n:Nat)(T:Nat->Vc):Prop where
 jB:∀i,i<n->∀j,i<j->T i j=0
 nz:∀i,i<n->T i i≠0
def gM (n:Nat)(T:Nat->Vc)(v:Vc):Prop:=∃c:Vc,∀j,v j=sm n c T j
theorem JH.done {n:Nat}{R S:List Vc}{m:Int}{T:Nat->Vc}(h:JH n R m 0 T S){v:Vc}:Gq R m n v↔gM n T v:=by
 refine⟨λhv=>?_,λ⟨c,e⟩=>(Gq.sm n λi hi=>h.told i (by omega) hi).of λj=>(e j).symm⟩
 obtain⟨c,g,_,hg,e⟩:=h.all v hv;exact⟨c,λj=>by rw[e j,hg.1 j (by omega)];omega⟩
theorem jc {n q j:Nat}{c:Vc}{T:Nat->Vc}(hT:∀i,i<n->T i j=0):sm n c T j=0:=by
 induction n with
 | zero=>rfl
 | succ n ih=>
  show sm n c T j+c n*T n j=0
  rw[ih λi hi=>hT i (by omega),hT n (by omega)];omega
theorem dB.at_ {n:Nat}{T:Nat->Vc}(h:dB n T)(c:Vc){q:Nat}(hq:q<n):sm (q+1) c T q=c q*T q q:=by
 show sm q c T q+c q*T q q=_
 rw[jc (q:=q) λi hi=>h.jB i (by omega) q hi];omega
theorem dB.uniq {n:Nat}{T:Nat->Vc}(h:dB n T):∀q,q<=n->∀ {c c':Vc},(∀j,sm q c T j=sm q c' T j)->∀i,i<q->c i=c' i
 | 0,_,c,c',_,i,hi=>by omega
 | q+1,hq,c,c',e,i,hi=>by
  have e1:c q=c' q:=by
   have:=e q
   rw[h.at_ c (by omega),h.at_ c' (by omega)] at this
   exact Int.eq_of_mul_eq_mul_right (h.nz q (by omega)) this
  by_cases y:i=q
  ·rw[y];exact e1
  ·refine dB.uniq h q (by omega) (λj=>?_) i (by omega)
   have h1:sm q c T j+c q*T q j=sm q c' T j+c' q*T q j:=e j;rw[e1] at h1;omega
theorem gM.jq {n:Nat}{T:Nat->Vc}(a:Int){v w:Vc}(h:gM n T v)(k:gM n T w):gM n T λj=>a*v j+w j:=by
 obtain⟨c,e⟩:=h;obtain⟨d,e'⟩:=k;exact⟨λi=>a*c i+d i,λj=>by show a*v j+w j=_;rw[jb,e j,e' j]⟩
theorem gM.of {n:Nat}{T:Nat->Vc}{v w:Vc}(h:gM n T v)(e:∀j,v j=w j):gM n T w:=by rw[<- funext e];exact h
theorem gM.row {n:Nat}{T:Nat->Vc}{i:Nat}(hi:i<n):gM n T (T i):=⟨λk=>if k=i then 1 else 0,λj=>(gT hi).symm⟩
theorem gM.zero {n:Nat}{T:Nat->Vc}:gM n T λ_=>0:=⟨λ_=>0,λj=>fP.symm⟩
theorem gM.sm {n:Nat}{T:Nat->Vc}{c:Vc}{U:Nat->Vc}:∀k,(∀i,i<k->gM n T (U i))->gM n T λj=>sm k c U j
 | 0,_=>.zero
 | k+1,h=>((h k (by omega)).jq (c k) (gM.sm k λi hi=>h i (by omega))).of λj=>by
   show c k*U k j+Alg.sm k c U j=Alg.sm k c U j+c k*U k j
   omega
theorem dB.cut {n:Nat}{T:Nat->Vc}(h:dB n T){v:Vc}{q:Nat}(hv:gM n T v)(v0:∀j,q<=j->v j=0)(hq:q<=n):∃c:Vc,∀j,v j=sm q c T j:=by
 obtain⟨c,e⟩:=hv;have key:∀k,q<=k->k<=n->(∀j,v j=sm k c T j)->∃c:Vc,∀j,v j=sm q c T j:=by
  intro k;induction k with
  | zero=>
   intro h1 _ e;have h5:q=0:=by omega
   rw[h5];exact⟨c,e⟩
  | succ k ih=>
   intro h1 h2 e;by_cases y:q=k+1
   ·subst y;exact⟨c,e⟩
   ·refine ih (by omega) (by omega) λj=>?_
    have h3:=e k;rw[v0 k (by omega),h.at_ c (by omega)] at h3
    rcases Int.mul_eq_zero.mp h3.symm with z|z
    ·rw[e j]
     show Alg.sm k c T j+c k*T k j=_
     rw[z];omega
    ·exact Jg z (h.nz k (by omega))
 exact key n hq (Yd n) e
theorem dB.dvd {n:Nat}{T U:Nat->Vc}(hT:dB n T)(hU:dB n U)(sub:∀i,i<n->gM n T (U i)){i:Nat}(hi:i<n):T i i ∣ U i i:=by
 obtain⟨c,e⟩:=hT.cut (q:=i+1) (sub i hi) (λj hj=>hU.jB i hi j (by omega)) (by omega)
 have:=e i
 rw[hT.at_ c hi] at this;exact⟨c i,by rw[this,Z0]⟩
theorem dB.same {n:Nat}{T U:Nat->Vc}(hT:dB n T)(hU:dB n U)(sub:∀i,i<n->gM n T (U i))(eq:∀i,i<n->U i i=T i i):∀i,i<n->gM n U (T i):=by
 have key:∀k,∀i,i<k->i<n->gM n U (T i):=by
  intro k;induction k with
  | zero=>intro i hi;omega
  | succ k ih=>
   intro i hik hi;by_cases y:i<k
   ·exact ih i y hi
   obtain rfl:i=k:=by omega
   obtain⟨c,e⟩:=hT.cut (q:=i+1) (sub i hi) (λj hj=>hU.jB i hi j (by omega)) (by omega)
   have c1:c i=1:=by
    have:=e i
    rw[hT.at_ c hi,eq i hi] at this;have z:=hT.nz i hi;have:(c i-1)*T i i=0:=by grind
    rcases Int.mul_eq_zero.mp this with y|y
    ·omega
    ·exact Jg y z
   refine(gM.jq (-1) (gM.sm (c:=c) (U:=T) i λk hk=>ih k hk (by omega)) (gM.row (T:=U) hi)).of λj=>?_
   have h3:U i j=Alg.sm i c T j+c i*T i j:=e j;rw[c1] at h3;omega
 exact λi hi=>key n i hi hi
end Alg
namespace L2
open PySem PySem.Spec PyProof.Rows Alg
def rE (n:Nat)(v:Vc):El:=kC n λj=>.num (v j)
def mE (r c:Nat)(A:Nat->Vc):El:=kC r λi=>rE c (A i)
def tE (r c d:Nat)(A:Nat->Nat->Vc):El:=kC r λi=>mE c d (A i)
def lv (n:Nat)(v:Vc):List Int:=(Yj n).map v
theorem aQ (n:Nat)(v:Vc):(lv n v).length=n:=by unfold lv;rw[Ya,Yg]
theorem cE {n:Nat}{v:Vc}{j:Nat}(h:j<n):(lv n v)[j]?=j? (v j):=by unfold lv;rw[Ye,Ys h];rfl
theorem oQ (n:Nat)(v:Vc)(j:Nat):aq (lv n v) j=if j<n then v j else 0:=by
 unfold aq;by_cases h:j<n
 ·rw[Ja h,Yb,cE h];rfl
 ·rw[W9 h,Yb,List.getElem?_eq_none_iff.mpr (by rw[aQ];omega)];rfl
theorem xh {n:Nat}{e d:Nat->El}(h:∀i,i<n->e i=d i):kC n e=kC n d:=by
 unfold kC;congr 1
 exact Zy λi hi=>h i (List.mem_range.mp hi)
theorem sD {n:Nat}{v w:Vc}(h:∀j,j<n->v j=w j):rE n v=rE n w:=xh λj hj=>by rw[h j hj]
theorem nK {n:Nat}{v:Vc}{H:Hp}{ok:o?->Prop}{l:o?}(h:H l=j? (.lst ((lv n v).map V.int)))(k:ok l):Rep H ok (.ref l) (rE n v):=by
 refine Cf.rep (vs:=(lv n v).map V.int) ⟨by rw[Ya,aQ],λi hi=>⟨.int (v i),by rw[Ye,cE hi];rfl,.num _⟩⟩ h k
theorem MR {H:Hp}{ok:o?->Prop}{v:V}{n:Int}(h:Rep H ok v (.num n)):v=.int n:=by cases h;rfl
theorem cS {n:Nat}{v:Vc}{H:Hp}{ok:o?->Prop}{x:V}(h:Rep H ok x (rE n v)):∃l,x=.ref l/\H l=j? (.lst ((lv n v).map V.int))/\ok l:=by
 obtain⟨l,vs,rfl,hl,k,C⟩:=h.cf;refine⟨l,rfl,?_,k⟩
 have:vs=(lv n v).map V.int:=by
  refine Ze λi=>?_
  by_cases hi:i<n
  ·obtain⟨y,h1,r⟩:=C.at_ i hi
   rw[h1,Ye,cE hi,MR r];rfl
  ·rw[List.getElem?_eq_none_iff.mpr (by rw[C.len];omega),List.getElem?_eq_none_iff.mpr (by rw[Ya,aQ];omega)]
 rw[<- this];exact hl
theorem mZ {n j:Nat}{v:Vc}(h:j<n):qV ((lv n v).map V.int) (j:Int)=j? (.int (v j)):=fu (by rw[Ye,cE h];rfl)
section
variable {K:bM} {D:o?} {st:St} {g:TG} {te:TE} {H1:Hp} {Q:VK} {n:Nat}
theorem nL {a:o?}{xs:List V}(e:Nat->El)(hn:xs.length=n)(h:H1 a=j? (.lst xs))(hD:H1 D=q?)(hz:n<=1000)
  (hs:∀i x H2 (Q2:VK),i<n->aF H1 H2->xs[i]?=j? x->(∀r H3,aF H2 H3->Rep H3 (dG H2) r (e i)->Q2 r H3)->g x st H2 λσ3 H3=>te σ3 H3 Q2)
  (q:∀H2,aF H1 H2->Rep H2 (dG H1) (.ref D) (kC n e)->Q (.ref D) H2):q_ (OX K a) D st g Iv te Q H1:=by
 refine gG (xs:=xs) (λi ys H2=>aF H1 H2/\Cf H2 (Off H1 D) ys i e) ⟨aB hD _,.nil⟩ (λi ys H2 _ h'=>aO.of (h'.1 _ _ h)) ?_ ?_
 ·rintro i m x ys H2 hm hi hx hy hlen ⟨gg,cy⟩
  refine hs i x H2 _ (by omega) gg hx λr H3 g3 rr=>?_
  exact CW.emit hm hi (by rw[C?];omega) (g3 _ _ hy) hlen ⟨aF.aX (gg.trans g3) hD _,((cy.same g3).push (rr.GR gg hy)).upd⟩
 ·rintro ys H2 hy ⟨gg,cy⟩
  rw[hn] at cy;exact q H2 gg (cy.DI.rep hy hD)
theorem yt {lo:Int}(e:Nat->El)(hD:H1 D=q?)(hz:n<=1000)
  (hs:∀i H2 (Q2:VK),i<n->aF H1 H2->(∀r H3,aF H2 H3->Rep H3 (dG H2) r (e i)->Q2 r H3)->g (.int (lo+(i:Int))) st H2 λσ3 H3=>te σ3 H3 Q2)
  (q:∀H2,aF H1 H2->Rep H2 (dG H1) (.ref D) (kC n e)->Q (.ref D) H2):q_ (L5 lo n) D st g Iv te Q H1:=by
 refine iA (λi ys H2=>aF H1 H2/\Cf H2 (Off H1 D) ys i e) ⟨aB hD _,.nil⟩ ?_ ?_
 ·rintro i m ys H2 hm hi hy hlen ⟨gg,cy⟩
  refine hs i H2 _ hi gg λr H3 g3 rr=>?_
  exact CW.emit hm hi (by rw[C?];omega) (g3 _ _ hy) hlen ⟨aF.aX (gg.trans g3) hD _,((cy.same g3).push (rr.GR gg hy)).upd⟩
 ·rintro ys H2 hy ⟨gg,cy⟩
  exact q H2 gg (cy.DI.rep hy hD)
theorem JI {a b:o?}{xs ys:List V}(e:Nat->El)(hn:xs.length=n)(hm:ys.length=n)(ha:H1 a=j? (.lst xs))(hb:H1 b=j? (.lst ys))(hD:H1 D=q?)(hz:n<=1000)
  (hs:∀i x y t H2 (Q2:VK),i<n->aF H1 H2->xs[i]?=j? x->ys[i]?=j? y->H2 t=j? (.tup [x,y])->(∀r H3,aF H2 H3->Rep H3 (dG H2) r (e i)->Q2 r H3)->g (.ref t) st H2 λσ3 H3=>te σ3 H3 Q2)
  (q:∀H2,aF H1 H2->Rep H2 (dG H1) (.ref D) (kC n e)->Q (.ref D) H2):q_ (PM K a b) D st g Iv te Q H1:=by
 refine BJ (xs:=xs) (ys:=ys) (λi zs H2=>aF H1 H2/\Cf H2 (Off H1 D) zs i e) (by rw[hn,hm]) ⟨aB hD _,.nil⟩ (λi zs H2 _ h=>⟨aO.of (h.1 _ _ ha),aO.of (h.1 _ _ hb)⟩) ?_ ?_
 ·rintro i m x y zs H2 r hm hi hx hy hz' hlen ⟨gg,cz⟩ hr
  have kr:=aB hr (.tup [x,y]);refine hs i x y r _ _ (by omega) (gg.trans kr) hx hy ay λr2 H3 g3 rr=>?_
  exact CW.emit hm hi (by rw[C?];omega) (g3 _ _ (kr _ _ hz')) hlen ⟨aF.aX ((gg.trans kr).trans g3) hD _,((cz.same (kr.trans g3)).push (rr.GR (gg.trans kr) (kr _ _ hz'))).upd⟩
 ·rintro zs H2 hz' ⟨gg,cz⟩
  rw[hn] at cz;exact q H2 gg (cz.DI.rep hz' hD)
end
end L2
namespace L2
open PySem PySem.Spec PyProof.Rows
section
variable {X:Cx}
def SI (K:bM):List V->Hp->VK->Prop:=λxs H Q=>∃p,∃ns:List Int,xs=[.ref p]/\aO K H p (ns.map V.int)/\Q (.int ns.sum) H
theorem DO {ys:Array (Int×Tok)}{ns:List Int}(e2:ys.toList.map (·.1)=ns):preSum (numAt ys) ys.size=ns.sum:=by
 have key:∀n,n<=ns.length->preSum (numAt ys) n=(ns.take n).sum:=by
  intro n;induction n with
  | zero=>intro _;simp[preSum]
  | succ n ih=>
   intro h;rw[List.take_succ_eq_append_getElem (by omega),List.sum_append,<- ih (by omega)]
   show preSum (numAt ys) n+numAt ys n=_
   rw[qi e2,d_ (by omega)]
   simp
 have hsz:ys.size=ns.length:=by rw[<- e2];simp
 rw[hsz,key _ (Yd _),List.take_length]
theorem JJ (hc:X.calm=true):jE X (.builtin "sum") (SI X.K):=by
 intro pins s σ H xs us Q I rv h;obtain⟨p,ns,rfl,hq,q⟩:=h;obtain⟨u,rfl,ru⟩:=vals1 rv;cases (show u=I! p from ru)
 obtain⟨its,r,hp,_⟩:=I.list hq;obtain⟨ys,e1,e2⟩:=qh r;have hl:=hp.isList;rw[e1] at hl;refine sum_intListG (I.ok.hd hc) hl λh' tk t hk=>?_
 refine⟨.int _,H,I.kept (h':=h') (t':=tk) hk,⟨t,rfl⟩,?_⟩
 rw[DO e2];exact q
theorem tX {K:bM}(h:X.K=K)(hc:X.calm=true):jE X (.builtin "sum") (SI K):=by subst h;exact JJ hc
end
end L2
namespace L2
theorem FD {f:Nat->Int}:∀ {n:Nat},(∀i,i<n->f i=1)->Bx n f=1
 | 0,_=>rfl
 | n+1,h=>by
  show Bx n f*f n=1
  rw[FD λi hi=>h i (by omega),h n (by omega)];rfl
def dD (i k:Nat):Int:=if k=i then 1 else 0
theorem FE (n:Nat):det n dD=1:=by
 rw[z6 n dD λi j h _=>show dD i j=0 from W9 (by omega)]
 exact FD λi _=>Ja rfl
theorem vJ {f:Nat->Int}{k n:Nat}(hk:k<n)(h:∀i,i<n->i≠k->f i=0):bw n f=f k:=by rw[eX,jJ hk h]
theorem MS (f g:Nat->Int)(n:Nat):bw n (λi=>f i+g i)=bw n f+bw n g:=by rw[eX,eX,eX,rR]
theorem JK {n i:Nat}(hi:i<n)(f:Nat->Int):bw n (λk=>dD i k*f k)=f i:=by
 rw[vJ hi λk _ hne=>by show dD i k*f k=0;unfold dD;rw[W9 hne,Z1]]
 show dD i i*f i=f i
 unfold dD;rw[Ja rfl,Zk]
theorem k_ {n c:Nat}(hc:c<n)(f:Nat->Int):bw n (λk=>f k*dD k c)=f c:=by
 rw[vJ hc λk _ hne=>by show f k*dD k c=0;unfold dD;rw[W9 (λz=>hne z.symm),Y6]]
 show f c*dD c c=f c
 unfold dD;rw[Ja rfl,Wn]
theorem Top.mul {f g:Fn}{n m:Nat}(hf:Top f n)(hg:Top g m):Top (cv f g) (n+m):=by
 refine⟨by rw[Du hg λi hi=>hf.top i hi];exact hf.one,λk hk=>?_⟩
 unfold cv;refine dF λi hi=>?_
 by_cases c:n<i
 ·rw[hf.top i c,Z1]
 ·rw[hg.top _ (by omega),Y6]
section
variable {f:Fn} {n:Nat}
theorem JL (hf:Top f n)(hn:1<=n){W C:Nat}(hW:1<=W)(hb:wb W (C*W ^ n) f):∀k,wb W ((W*(1+C)) ^ k) (tk f n k)
 | 0,j=>by
  show(xp 0 j).natAbs*W ^ j<=1
  unfold xp;by_cases c:j=0
  ·rw[Ja c,c];simp
  ·rw[W9 c];simp
 | k+1,j=>by
  have ih:=JL hf hn hW hb k;show((if j=0 then 0 else tk f n k (j-1))-tk f n k (n-1)*f j).natAbs*W ^ j<=_
  generalize hc:(W*(1+C)) ^ k=c at ih;have h1:(if j=0 then (0:Int) else tk f n k (j-1)).natAbs*W ^ j<=c*W:=by
   by_cases z:j=0
   ·rw[Ja z];simp
   ·rw[W9 z]
    have:=Yx W (ih (j-1))
    rw[Wr,<- Z2,show(j-1).succ=j by omega] at this
    exact this
  have h2:(tk f n k (n-1)*f j).natAbs*W ^ j<=c*W*C:=by
   rw[Zh,Wr];have a1:=Zg (tk f n k (n-1)).natAbs (hb j);refine Yn a1 ?_
   have e:(tk f n k (n-1)).natAbs*(C*W ^ n)=(tk f n k (n-1)).natAbs*W ^ (n-1)*(W*C):=by
    have:W ^ n=W ^ (n-1)*W:=by rw[<- Z2,show(n-1).succ=n by omega]
    rw[this];ac_rfl
   rw[e,Wr c];exact Yx _ (ih (n-1))
  have h3:=Int.natAbs_sub_le (if j=0 then (0:Int) else tk f n k (j-1)) (tk f n k (n-1)*f j)
  refine Yn (Yx _ h3) ?_
  rw[Wg,Z2,hc,<- Wr,W8,Nat.mul_one];exact Nat.add_le_add h1 h2
theorem GZ (hf:Top f n)(hn:1<=n){W C cg L:Nat}(hW:1<=W)(hb:wb W (C*W ^ n) f){g:Fn}(hg:∀m,L<=m->g m=0)(bg:wb W cg g){R:Nat->Fn}(h:Rows f n g R)(i j:Nat):(R i j).natAbs<=L*(cg*(1+C) ^ L*(W*(1+C)) ^ i):=by
 rw[Mz hf hn hg h i];refine z4 λk hk=>?_
 rw[Zh];have h1:=JL hf hn hW hb (k+i) j;have h2:(tk f n (k+i) j).natAbs<=(W*(1+C)) ^ (k+i):=Yn (Nat.le_mul_of_pos_right _ (Zu hW)) h1;refine Yn (Zg _ h2) ?_
 rw[Zw,<- Wr];refine Yx _ ?_
 rw[Nat.mul_pow,<- Wr];exact Zi (bg k) (Y2 (Yn (Yd 1) (Wu 1 _)) (W3 hk))
end
end L2
namespace Alg
open Lean.Grind
section
variable {R:Type} [CommRing R]
def zc (R:Type)[CommRing R](k:Int):R:=@IntCast.intCast R Ring.intCast k
theorem qj (a b:Int):zc R (a+b)=zc R a+zc R b:=Ring.intCast_add a b
theorem gu (a b:Int):zc R (a*b)=zc R a*zc R b:=Ring.intCast_mul a b
theorem l_ (a:Int):zc R (-a)=-zc R a:=Ring.intCast_neg a
theorem Aj:zc R 0=0:=Ring.intCast_zero
theorem iB:zc R 1=1:=Ring.intCast_one
theorem cQ:∀n:Nat,zc R (n:Int)=nt R n
 | 0=>Aj
 | n+1=>by
  rw[show((n+1:Nat):Int)=(n:Int)+1 by omega,qj,cQ n,iB];rfl
structure c_ (O:R->Prop):Prop where
 one:O 1
 add {a b:R}:O a->O b->O (a+b)
 neg {a:R}:O a->O (-a)
 mul {a b:R}:O a->O b->O (a*b)
section
variable {O:R->Prop}
theorem c_.zero (h:c_ O):O 0:=by
 have:=h.add h.one (h.neg h.one)
 rwa [show(1:R)+-1=0 by grind] at this
theorem c_.pow (h:c_ O){a:R}(ha:O a):∀n:Nat,O (a ^ n)
 | 0=>by rw[b7];exact h.one
 | n+1=>by rw[bJ];exact h.mul (h.pow ha n) ha
theorem c_.nt (h:c_ O):∀n:Nat,O (nt R n)
 | 0=>h.zero
 | n+1=>h.add (h.nt n) h.one
theorem c_.zc (h:c_ O)(k:Int):O (zc R k):=by
 rcases Int.le_total 0 k with y|y
 ·obtain⟨n,rfl⟩:=Zq y
  rw[cQ];exact h.nt n
 ·obtain⟨n,e⟩:=Zq (show 0<=-k by omega)
  rw[show k=-(n:Int) by omega,l_,cQ];exact h.neg (h.nt n)
def Cp (O:R->Prop)(p a b:R):Prop:=∃w,O w/\a=b+p*w
variable {p:R}
theorem Cp.refl (h:c_ O)(a:R):Cp O p a a:=⟨0,h.zero,by grind⟩
theorem Cp.symm (h:c_ O){a b:R}:Cp O p a b->Cp O p b a:=λ⟨w,hw,e⟩=>⟨-w,h.neg hw,by grind⟩
theorem Cp.trans (h:c_ O){a b c:R}:Cp O p a b->Cp O p b c->Cp O p a c:=λ⟨w,hw,e⟩ ⟨v,hv,g⟩=>⟨w+v,h.add hw hv,by grind⟩
theorem Cp.add (h:c_ O){a b c d:R}:Cp O p a b->Cp O p c d->Cp O p (a+c) (b+d):=λ⟨w,hw,e⟩ ⟨v,hv,g⟩=>⟨w+v,h.add hw hv,by grind⟩
theorem Cp.mul (h:c_ O){a b c d:R}(hb:O b)(hc:O c):Cp O p a b->Cp O p c d->Cp O p (a*c) (b*d):=λ⟨w,hw,e⟩ ⟨v,hv,g⟩=>⟨w*c+b*v,h.add (h.mul hw hc) (h.mul hb hv),by grind⟩
theorem Cp.pow (h:c_ O){a b:R}(ha:O a)(hb:O b)(c:Cp O p a b):∀n:Nat,Cp O p (a ^ n) (b ^ n)
 | 0=>by rw[b7,b7];exact .refl h _
 | n+1=>by rw[bJ,bJ];exact .mul h (h.pow hb n) ha (Cp.pow h ha hb c n) c
theorem BQ (h:c_ O){x y:R}(hx:O x)(hy:O y)(p:Nat):∀l:List Nat,(∀c∈l,c % p=0)->Cp O (Alg.nt R p) (hs x y (l++[1])) (x ^ l.length)
 | [],_=>by
  show Cp O _ (Alg.nt R 1*y ^ 0+x*0) (x ^ 0)
  rw[b7,b7,wX,show(1:R)*1+x*0=1 by grind];exact .refl h _
 | c::l,hc=>by
  obtain⟨w,hw,e⟩:=BQ h hx hy p l λd hd=>hc d (Y7 _ hd)
  obtain⟨k,hk⟩:=Nat.dvd_of_mod_eq_zero (hc c Zc);refine⟨Alg.nt R k*y ^ (l++[1]).length+x*w,h.add (h.mul (h.nt k) (h.pow hy _)) (h.mul hx hw),?_⟩
  show Alg.nt R c*y ^ (l++[1]).length+x*hs x y (l++[1])=x ^ (l.length+1)+_
  rw[e,hk,tV,bJ];grind
theorem JM (h:c_ O){p:Nat}(hp:p∈PR){x y:R}(hx:O x)(hy:O y):Cp O (Alg.nt R p) ((x+y) ^ p) (x ^ p+y ^ p):=by
 have h':=PJ p hp;unfold N3 at h';simp only[T?,beq_iff_eq,decide_eq_true_eq,Wh] at h'
 obtain⟨⟨⟨⟨h1,h2⟩,h3⟩,h4⟩,h5⟩:=h';rw[Jr];match e:row p,h1 with
 | c::t,h1=>
  rw[e] at h2 h3 h4;have c1:c=1:=by simpa using h1
  have tl:t.length=p:=by simpa using h4
  have Us:t≠[]:=by intro z;rw[z] at tl;simp at tl;omega
  have t2:t=t.dropLast++[1]:=by
   have:=List.dropLast_concat_getLast Us
   have gl:t.getLast Us=1:=by
    rw[List.getLast?_cons_of_ne_nil Us] at h2;rw[List.getLast?_eq_some_getLast Us] at h2;simpa using h2
   rw[gl] at this;exact this.symm
  have dl:t.dropLast.length+1=p:=by rw[List.length_dropLast];omega
  have h3:∀d∈t.dropLast,d % p=0:=h3;obtain⟨w,hw,e⟩:=BQ h hx hy p t.dropLast h3;refine⟨x*w,h.mul hx hw,?_⟩
  show Alg.nt R c*y ^ t.length+x*hs x y t=_
  rw[tl,c1,wX,t2,e];have:x*x ^ t.dropLast.length=x ^ p:=by
   rw[<- dl,bJ];grind
  grind
theorem qk {p:Nat}(hp:p∈PR):1<=p:=by
 have:∀q∈PR,1<=q:=by decide
 exact this p hp
theorem JN (h:c_ O){p:Nat}(hp:p∈PR):∀n:Nat,Cp O (Alg.nt R p) (Alg.nt R n ^ p) (Alg.nt R n)
 | 0=>by show Cp O _ ((0:R) ^ p) 0;rw[vI (qk hp)];exact .refl h _
 | n+1=>by
  refine(JM h hp (h.nt n) h.one).trans h ?_
  rw[Jm];exact(JN h hp n).add h (.refl h _)
theorem SJ (h:c_ O){p:Nat}(hp:p∈PR)(k:Int):Cp O (Alg.nt R p) (Alg.zc R k ^ p) (Alg.zc R k):=by
 rcases Int.le_total 0 k with y|y
 ·obtain⟨n,rfl⟩:=Zq y
  rw[cQ];exact JN h hp n
 ·obtain⟨n,e⟩:=Zq (show 0<=-k by omega)
  rw[show k=-(n:Int) by omega,l_,cQ]
  obtain⟨w,hw,e1⟩:=JM h hp (h.nt n) (h.neg (h.nt n));obtain⟨v,hv,e2⟩:=JN h hp n;rw[show Alg.nt R n+-Alg.nt R n=0 by grind,vI (qk hp)] at e1
  exact⟨-w-v,by have:=h.add (h.neg hw) (h.neg hv);rwa [show -w+-v=-w-v by grind] at this,by grind⟩
def sR (n:Nat)(x:Vc)(o:Nat->R):R:=match n with
 | 0=>0
 | n+1=>sR n x o+zc R (x n)*o n
theorem MT (h:c_ O){x:Vc}{o:Nat->R}:∀n,(∀i,i<n->O (o i))->O (sR n x o)
 | 0,_=>h.zero
 | n+1,k=>h.add (MT h n λi hi=>k i (by omega)) (h.mul (h.zc _) (k n (by omega)))
theorem FF (h:c_ O){p:Nat}(hp:p∈PR){x:Vc}{o:Nat->R}:∀n,(∀i,i<n->O (o i))->Cp O (Alg.nt R p) (sR n x o ^ p) (sR n x λi=>o i ^ p)
 | 0,_=>by show Cp O _ ((0:R) ^ p) 0;rw[vI (qk hp)];exact .refl h _
 | n+1,k=>by
  refine(JM h hp (MT h n λi hi=>k i (by omega)) (h.mul (h.zc (x n)) (k n (by omega)))).trans h ?_
  refine(FF h hp n λi hi=>k i (by omega)).add h ?_
  rw[DE];exact .mul h (h.zc _) (h.pow (k n (by omega)) p) (SJ h hp (x n)) (.refl h _)
theorem xj (h:c_ O){p:Nat}(hp:p∈PR){x:Vc}{o:Nat->R}{n:Nat}(ho:∀i,i<n->O (o i)):∀d:Nat,Cp O (Alg.nt R p) (sR n x o ^ (p ^ d)) (sR n x λi=>o i ^ (p ^ d))
 | 0=>by
  have:∀z:R,z ^ (p ^ 0)=z:=λz=>by
   rw[Nat.pow_zero];have:=bJ z 0
   rw[b7] at this;grind
  simp only[this];exact .refl h _
 | d+1=>by
  have e:∀z:R,z ^ (p ^ (d+1))=(z ^ (p ^ d)) ^ p:=λz=>by rw[Z2,DF]
  simp only[e]
  refine((xj h hp ho d).pow h (h.pow (MT h n ho) _) (MT h n λi hi=>h.pow (ho i hi) _) p).trans h ?_
  exact FF h hp n λi hi=>h.pow (ho i hi) _
def m8 (O:R->Prop)(p:R)(q:Nat)(a:R):Prop:=O a/\∃w,O w/\a ^ q=p*w
theorem m8.add (h:c_ O){p:Nat}(hp:p∈PR){d:Nat}{a b:R}(ha:m8 O (Alg.nt R p) (p ^ d) a)(hb:m8 O (Alg.nt R p) (p ^ d) b):m8 O (Alg.nt R p) (p ^ d) (a+b):=by
 obtain⟨oa,w,hw,e⟩:=ha;obtain⟨ob,v,hv,g⟩:=hb;have:=xj h hp (x:=λ_=>1) (o:=λi=>if i=0 then a else b) (n:=2) (λi hi=>by
  by_cases c:i=0
  ·rw[Ja c];exact oa
  ·rw[W9 c];exact ob) d
 obtain⟨u,hu,e1⟩:=this;have s2:∀o:Nat->R,sR 2 (λ_=>1) o=o 0+o 1:=λo=>by
  show(0:R)+zc R 1*o 0+zc R 1*o 1=_
  rw[iB];grind
 rw[s2,s2] at e1;simp only[Ja,W9 (show ¬ (1:Nat)=0 by decide)] at e1
 exact⟨h.add oa ob,w+v+u,h.add (h.add hw hv) hu,by rw[e1,e,g];grind⟩
theorem m8.mul (h:c_ O){p:R}{q:Nat}{a b:R}(ha:m8 O p q a)(hb:O b):m8 O p q (b*a):=by
 obtain⟨oa,w,hw,e⟩:=ha;exact⟨h.mul hb oa,b ^ q*w,h.mul (h.pow hb q) hw,by rw[DE,e];grind⟩
theorem m8.neg (h:c_ O){p:R}{q:Nat}{a:R}(ha:m8 O p q a):m8 O p q (-a):=by
 have:=ha.mul h (h.neg h.one)
 rwa [show -1*a=-a by grind] at this
theorem m8.own (h:c_ O){p:R}{q:Nat}(hq:1<=q)(hp:O p){a:R}(ha:O a):m8 O p q (p*a):=by
 obtain⟨k,rfl⟩:∃k,q=k+1:=⟨q-1,by omega⟩
 exact⟨h.mul hp ha,(p*a) ^ k*a,h.mul (h.pow (h.mul hp ha) k) ha,by rw[bJ];grind⟩
def BR (O:R->Prop)(p:R)(q:Nat)(a:R):Prop:=O (p*a)/\∀b,m8 O p q b->m8 O p q (a*b)
theorem BR.of (h:c_ O){p:R}(hp:O p){q:Nat}{a:R}(ha:O a):BR O p q a:=⟨h.mul hp ha,λb hb=>hb.mul h ha⟩
theorem BR.sub (h:c_ O){p:Nat}(hp:p∈PR)(d:Nat):c_ (BR O (Alg.nt R p) (p ^ d)) where
 one:=.of h (h.nt p) h.one
 add {a b} ha hb:=⟨by
   have:=h.add ha.1 hb.1
   rwa [show Alg.nt R p*a+Alg.nt R p*b=Alg.nt R p*(a+b) by grind] at this,λc hc=>by
   have:=(ha.2 c hc).add h hp (hb.2 c hc)
   rwa [show a*c+b*c=(a+b)*c by grind] at this⟩
 neg {a} ha:=⟨by
   have:=h.neg ha.1
   rwa [show -(Alg.nt R p*a)=Alg.nt R p*-a by grind] at this,λc hc=>by
   have:=(ha.2 c hc).neg h
   rwa [show -(a*c)=-a*c by grind] at this⟩
 mul {a b} ha hb:=⟨by
   have h1:=hb.2 _ (m8.own h (Nat.pos_of_ne_zero λz=>by
    have:=Zu (n:=d) (qk hp);omega) (h.nt p) h.one)
   have:=(ha.2 _ h1).1
   rwa [show a*(b*(Alg.nt R p*1))=Alg.nt R p*(a*b) by grind] at this,λc hc=>by
   have:=ha.2 _ (hb.2 c hc)
   rwa [show a*(b*c)=a*b*c by grind] at this⟩
end
end
end Alg
namespace Alg
open Lean.Grind
section
variable {R:Type} [CommRing R]
structure nM (n:Nat)(el:Vc->R):Prop where
 jq:∀(a:Int) (v w:Vc),el (λj=>a*v j+w j)=zc R a*el v+el w
 inj:∀v w:Vc,el v=el w->∀j,j<n->v j=w j
 sup:∀v w:Vc,(∀j,j<n->v j=w j)->el v=el w
def Of (el:Vc->R)(a:R):Prop:=∃c,a=el c
def un (i:Nat):Vc:=λj=>if j=i then 1 else 0
theorem BS {x:Vc}{j:Nat}:∀m,sm m x un j=if j<m then x j else 0
 | 0=>by rw[W9 (by omega)];rfl
 | m+1=>by
  show sm m x un j+x m*(if j=m then 1 else 0)=_
  rw[BS m];by_cases e:j=m
  ·subst e;rw[W9 (by omega),Ja rfl,Ja (by omega)];omega
  ·rw[W9 e]
   by_cases h:j<m
   ·rw[Ja h,Ja (by omega)];omega
   ·rw[W9 h,W9 (by omega)];omega
theorem xm {n:Nat}{x:Vc}{t:Nat->Vc}{V:Nat->Vc}{k:Nat}:∀a,sm a x (λi k=>sm n (t i) V k) k=sm n (λm=>sm a x t m) V k
 | 0=>(fP (n:=n) (R:=V) (j:=k)).symm
 | a+1=>by
  show sm a x _ k+x a*sm n (t a) V k=sm n (λm=>sm a x t m+x a*t a m) V k
  rw[xm a];have:=jb (n:=n) (x a) (d:=t a) (e:=λm=>sm a x t m) (R:=V) (j:=k)
  rw[show(λm=>sm a x t m+x a*t a m)=λm=>x a*t a m+sm a x t m from funext λm=>by omega,this]
  omega
theorem gU {x x':Vc}{o o':Nat->R}:∀n,(∀i,i<n->x i=x' i)->(∀i,i<n->o i=o' i)->sR n x o=sR n x' o'
 | 0,_,_=>rfl
 | n+1,h,k=>by
  show sR n x o+zc R (x n)*o n=sR n x' o'+zc R (x' n)*o' n
  rw[gU n (λi hi=>h i (by omega)) (λi hi=>k i (by omega)),h n (by omega),k n (by omega)]
theorem kD {x:Vc}{o:Nat->R}(b:R):∀n,b*sR n x o=sR n x λi=>b*o i
 | 0=>by show b*0=0;grind
 | n+1=>by
  show b*(sR n x o+zc R (x n)*o n)=sR n x (λi=>b*o i)+zc R (x n)*(b*o n)
  rw[<- kD b n];grind
theorem N6 {O:R->Prop}(h:c_ O){p:R}{x:Vc}{o o':Nat->R}:∀n,(∀i,i<n->Cp O p (o i) (o' i))->(∀i,i<n->O (o i))->Cp O p (sR n x o) (sR n x o')
 | 0,_,_=>.refl h _
 | n+1,k,l=>(N6 h n (λi hi=>k i (by omega)) λi hi=>l i (by omega)).add h (.mul h (h.zc _) (l n (by omega)) (.refl h _) (k n (by omega)))
theorem m8.zero {O:R->Prop}(h:c_ O){p:R}{q:Nat}(hq:0<q):m8 O p q 0:=⟨h.zero,0,h.zero,by rw[vI hq];grind⟩
theorem JO {O:R->Prop}(h:c_ O){p:Nat}(hp:p∈PR){d:Nat}{x:Vc}{o:Nat->R}:∀n,(∀i,i<n->m8 O (nt R p) (p ^ d) (o i))->m8 O (nt R p) (p ^ d) (sR n x o)
 | 0,_=>.zero h (Zu (qk hp))
 | n+1,k=>(JO h hp n λi hi=>k i (by omega)).add h hp ((k n (by omega)).mul h (h.zc _))
section
variable {n:Nat} {el:Vc->R}
theorem nM.zero (B:nM n el):el (λ_=>0)=0:=by
 have:=B.jq 1 (λ_=>0) λ_=>0
 rw[iB,show(λj:Nat=>(1:Int)*0+0)=λ_=>0 from rfl] at this
 grind
theorem nM.smul (B:nM n el)(a:Int)(v:Vc):el (λj=>a*v j)=zc R a*el v:=by
 have:=B.jq a v λ_=>0
 rw[B.zero,show(λj=>a*v j+0)=λj=>a*v j from funext λj=>by omega] at this
 rw[this];grind
theorem nM.sm (B:nM n el){d:Vc}{U:Nat->Vc}:∀k,el (λj=>sm k d U j)=sR k d λi=>el (U i)
 | 0=>B.zero
 | k+1=>by
  have:=B.jq (d k) (U k) λj=>Alg.sm k d U j
  rw[B.sm k] at this;rw[show(λj=>Alg.sm (k+1) d U j)=λj=>d k*U k j+Alg.sm k d U j from funext λj=>by show Alg.sm k d U j+d k*U k j=_;omega,this]
  show _=sR k d (λi=>el (U i))+zc R (d k)*el (U k)
  grind
theorem nM.un (B:nM n el)(x:Vc):el x=sR n x λi=>el (un i):=by
 rw[<- B.sm n];exact B.sup _ _ λj hj=>by rw[BS,Ja hj]
theorem nM.dvd (B:nM n el){a:Int}{y w:Vc}(h:el y=zc R a*el w):∀j,j<n->y j=a*w j:=by
 rw[<- B.smul] at h;exact B.inj _ _ h
variable {c:Nat->Nat->Vc}
theorem nM.Ak (B:nM n el)(hc:∀i j,i<n->j<n->el (Alg.un i)*el (Alg.un j)=el (c i j)){i:Nat}(hi:i<n)(y:Vc):el (Alg.un i)*el y=el λk=>Alg.sm n y (c i) k:=by
 rw[B.sm n,B.un y,kD];exact gU n (λ_ _=>rfl) λj hj=>hc i j hi hj
theorem nM.mul (B:nM n el)(hc:∀i j,i<n->j<n->el (Alg.un i)*el (Alg.un j)=el (c i j))(x y:Vc):el x*el y=el λk=>Alg.sm n x (λi k=>Alg.sm n y (c i) k) k:=by
 rw[B.sm n,B.un x,show ∀a b:R,a*b=b*a from λa b=>by grind,kD]
 exact gU n (λ_ _=>rfl) λi hi=>by rw[<- B.Ak hc hi y];grind
theorem nM.JP (B:nM n el)(i:Nat):Of el (el (Alg.un i)):=⟨_,rfl⟩
theorem nM.power (B:nM n el)(h:c_ (Of el)){p:Nat}(hp:p∈PR){d:Nat}{told:Nat->Vc}(ht:∀i,i<n->Cp (Of el) (nt R p) (el (told i)) (el (Alg.un i) ^ (p ^ d)))(x:Vc):Cp (Of el) (nt R p) (el x ^ (p ^ d)) (el λj=>Alg.sm n x told j):=by
 rw[B.sm n,B.un x];refine(xj h hp (λi _=>B.JP i) d).trans h ?_
 exact N6 h n (λi hi=>(ht i hi).symm h) λi hi=>h.pow (B.JP i) _
theorem nM.idl (B:nM n el)(h:c_ (Of el)){p:Nat}(hp:p∈PR){d:Nat}{told:Nat->Vc}(ht:∀i,i<n->Cp (Of el) (nt R p) (el (told i)) (el (Alg.un i) ^ (p ^ d)))(x:Vc):m8 (Of el) (nt R p) (p ^ d) (el x)↔∀j,j<n->(p:Int) ∣ Alg.sm n x told j:=by
 obtain⟨w,⟨w',rfl⟩,e⟩:=B.power h hp ht x;rw[<- cQ] at e ⊢;constructor
 ·rintro⟨_,v,⟨v',rfl⟩,e1⟩ j hj
  have:el (λj=>Alg.sm n x told j)=zc R (p:Int)*el λj=>-1*w' j+v' j:=by
   rw[B.jq,l_,iB];rw[e1] at e;grind
  exact⟨_,B.dvd this j hj⟩
 ·intro hd
  have:∀j,∃z:Int,j<n->Alg.sm n x told j=(p:Int)*z:=λj=>by
   by_cases hj:j<n
   ·obtain⟨z,hz⟩:=hd j hj;exact⟨z,λ_=>hz⟩
   ·exact⟨0,λy=>Jg y hj⟩
  obtain⟨z,hz⟩:=Classical.axiomOfChoice this;have e2:el (λj=>Alg.sm n x told j)=zc R (p:Int)*el z:=by
   rw[<- B.smul];exact B.sup _ _ hz
  refine⟨⟨_,rfl⟩,el λj=>1*z j+w' j,⟨_,rfl⟩,?_⟩
  rw[e,e2,B.jq,iB];grind
theorem nM.mlt (B:nM n el)(h:c_ (Of el)){p:Nat}(hp:p∈PR){d:Nat}(hc:∀i j,i<n->j<n->el (Alg.un i)*el (Alg.un j)=el (c i j)){V:Nat->Vc}(hV:dB n V)
  (hI:∀x:Vc,(∀j,n<=j->x j=0)->(gM n V x↔m8 (Of el) (nt R p) (p ^ d) (el x))) {t:Nat->Nat->Vc} (ht:∀i j,i<n->j<n->∀k,k<n->Alg.sm n (V j) (c i) k=Alg.sm n (t i j) V k)
  {ip:R} (G0:nt R p*ip=1) (x:Vc):(∀j,j<n->∀m,m<n->(p:Int) ∣ Alg.sm n x (λi=>t i j) m)↔BR (Of el) (nt R p) (p ^ d) (ip*el x):=by
 have V0:∀a:Vc,∀k,n<=k->Alg.sm n a V k=0:=λa k hk=>jc (q:=0) λi hi=>hV.jB i hi k (by omega)
 have key:∀j,j<n->el x*el (V j)=el λk=>Alg.sm n (λm=>Alg.sm n x (λi=>t i j) m) V k:=λj hj=>by
  rw[B.un x,show ∀a b:R,a*b=b*a from λa b=>by grind,kD]
  have:(sR n x λi=>el (V j)*el (Alg.un i))=sR n x λi=>el λk=>Alg.sm n (t i j) V k:=gU n (λ_ _=>rfl) λi hi=>by
   rw[show el (V j)*el (Alg.un i)=el (Alg.un i)*el (V j) by grind,B.Ak hc hi]
   exact B.sup _ _ λk hk=>ht i j hi hj k hk
  rw[this,<- B.sm n];exact B.sup _ _ λk _=>xm n
 have SK:∀b,m8 (Of el) (nt R p) (p ^ d) b->∃a:Vc,b=el λk=>Alg.sm n a V k:=λb hb=>by
  obtain⟨y,rfl⟩:=hb.1;have e:el y=el λj=>if j<n then y j else 0:=B.sup _ _ λj hj=>by rw[Ja hj]
  rw[e] at hb;obtain⟨a,ha⟩:=(hI _ λj hj=>W9 (by omega)).mpr hb
  exact⟨a,by rw[e];exact B.sup _ _ λj _=>ha j⟩
 have inI:∀a:Vc,m8 (Of el) (nt R p) (p ^ d) (el λk=>Alg.sm n a V k):=λa=>(hI _ (V0 a)).mp ⟨a,λ_=>rfl⟩
 constructor
 ·intro hd
  refine⟨⟨x,by rw[show nt R p*(ip*el x)=nt R p*ip*el x by grind,G0];grind⟩,λb hb=>?_⟩
  obtain⟨a,rfl⟩:=SK b hb;rw[B.sm n,kD];refine JO h hp n λj hj=>?_
  have:∀m,∃z:Int,m<n->Alg.sm n x (λi=>t i j) m=(p:Int)*z:=λm=>by
   by_cases hm:m<n
   ·obtain⟨z,hz⟩:=hd j hj m hm;exact⟨z,λ_=>hz⟩
   ·exact⟨0,λy=>Jg y hm⟩
  obtain⟨z,hz⟩:=Classical.axiomOfChoice this;have e:el x*el (V j)=nt R p*el λk=>Alg.sm n z V k:=by
   rw[key j hj,<- cQ,<- B.smul];refine B.sup _ _ λk _=>?_
   rw[cW (d':=λm=>(p:Int)*z m) (λi hi=>hz i hi) λi _=>rfl]
   have:=jb (n:=n) (p:Int) (d:=z) (e:=λ_=>0) (R:=V) (j:=k)
   rw[fP] at this;rw[show(λm=>(p:Int)*z m)=λm=>(p:Int)*z m+0 from funext λm=>by omega,this];omega
  rw[show ip*el x*el (V j)=ip*(el x*el (V j)) by grind,e,show ∀b:R,ip*(nt R p*b)=nt R p*ip*b from λb=>by grind,G0,show ∀b:R,1*b=b from λb=>by grind]
  exact inI z
 ·intro hm j hj m hmn
  have hVj:m8 (Of el) (nt R p) (p ^ d) (el (V j)):=(hI (V j) λk hk=>hV.jB j hj k (by omega)).mp (.row hj)
  obtain⟨a,ha⟩:=SK _ (hm.2 _ hVj);have e:(el λk=>Alg.sm n (λm=>Alg.sm n x (λi=>t i j) m) V k)=zc R (p:Int)*el λk=>Alg.sm n a V k:=by
   rw[<- key j hj,cQ,<- ha,show nt R p*(ip*el x*el (V j))=nt R p*ip*(el x*el (V j)) by grind,G0];grind
  have e2:=B.dvd e;have e3:∀k,Alg.sm n (λm=>Alg.sm n x (λi=>t i j) m) V k=Alg.sm n (λm=>(p:Int)*a m) V k:=λk=>by
   have:=jb (n:=n) (p:Int) (d:=a) (e:=λ_=>0) (R:=V) (j:=k)
   rw[fP] at this;rw[show(λm=>(p:Int)*a m)=λm=>(p:Int)*a m+0 from funext λm=>by omega,this]
   by_cases hk:k<n
   ·rw[e2 k hk];omega
   ·rw[V0 _ k (by omega),V0 _ k (by omega)];omega
  exact⟨_,hV.uniq n (Yd n) e3 m hmn⟩
end
def iz (n:Nat)(φ:Vc->R)(ip:R)(d:Nat)(T:Nat->Vc)(c:Vc):R:=ip ^ d*φ λj=>sm n c T j
section
variable {n:Nat} {φ:Vc->R} {ip:R} {p d:Nat} {T:Nat->Vc}
theorem jM (G0:nt R p*ip=1):∀d:Nat,zc R ((p:Int) ^ d)*ip ^ d=1
 | 0=>by rw[Y9,iB,b7];grind
 | d+1=>by
  have:=jM G0 d
  rw[Yy,gu,cQ,bJ];grind
theorem nM.jB (B:nM n φ)(G0:nt R p*ip=1)(hT:dB n T):nM n (iz n φ ip d T) where
 jq a v w:=by
  show ip ^ d*(φ λj=>Alg.sm n (λj=>a*v j+w j) T j)=zc R a*(ip ^ d*φ _)+ip ^ d*φ _
  rw[show(λj=>Alg.sm n (λj=>a*v j+w j) T j)=λj=>a*Alg.sm n v T j+Alg.sm n w T j from funext λj=>jb a,B.jq];grind
 inj v w e:=by
  have e1:φ (λj=>Alg.sm n v T j)=φ λj=>Alg.sm n w T j:=by
   have e2:zc R ((p:Int) ^ d)*(ip ^ d*φ λj=>Alg.sm n v T j)=zc R ((p:Int) ^ d)*(ip ^ d*φ λj=>Alg.sm n w T j):=Je _ e
   have:=jM G0 d
   grind
  have e3:=B.inj _ _ e1;refine hT.uniq n (Yd n) λj=>?_
  by_cases hj:j<n
  ·exact e3 j hj
  ·rw[jc (q:=0) λi hi=>hT.jB i hi j (by omega),jc (q:=0) λi hi=>hT.jB i hi j (by omega)]
 sup v w e:=by
  show ip ^ d*φ _=ip ^ d*φ _
  congr 2
  exact funext λj=>cW (λi hi=>e i hi) λi _=>rfl
structure s_ (n p:Nat)(φ:Vc->R)(ip:R)(d:Nat)(T:Nat->Vc):Prop where
 st:dB n T
 sub:c_ (Of (iz n φ ip d T))
 all:∀z,Of (iz n φ ip d T) (φ z)
theorem s_.next (B:nM n φ)(hp:p∈PR)(G0:nt R p*ip=1)(L:s_ n p φ ip d T){k:Nat}{N:List Vc}{T':Nat->Vc}(Ut:dB n T')
  (hN:∀r∈N,BR (Of (iz n φ ip d T)) (nt R p) (p ^ k) (ip*iz n φ ip d T r)) (hN':∀x,BR (Of (iz n φ ip d T)) (nt R p) (p ^ k) (ip*iz n φ ip d T x)->∃v z:Vc,iy N v/\∀i,i<n->x i=v i+(p:Int)*z i)
  (hG:∀v,Gq ((Yj n).map (λi j=>(p:Int)*T i j)++N.map λr j=>sm n r T j) ((p:Int) ^ (d+1)) n v↔gM n T' v):s_ n p φ ip (d+1) T':=by
 have BT:=B.jB (d:=d) G0 L.st;have T0:∀a:Vc,∀k,n<=k->sm n a T k=0:=λa k hk=>jc (q:=0) λi hi=>L.st.jB i hi k (by omega)
 have sM:=BR.sub L.sub hp k;have oP:=L.sub.nt p;have key:∀a,Of (iz n φ ip (d+1) T') a↔BR (Of (iz n φ ip d T)) (nt R p) (p ^ k) a:=by
  intro a;constructor
  ·rintro⟨c,rfl⟩
   have hv:=(hG λj=>sm n c T' j).mpr ⟨c,λ_=>rfl⟩
   show BR _ _ _ (ip ^ (d+1)*φ λj=>sm n c T' j)
   generalize (λj=>sm n c T' j)=v at hv
   obtain⟨v0,u,z,hu,e⟩:=hv;have key:∀ {u:Vc},iy ((Yj n).map (λi j=>(p:Int)*T i j)++N.map λr j=>sm n r T j) u->BR (Of (iz n φ ip d T)) (nt R p) (p ^ k) (ip ^ (d+1)*φ u):=by
    intro u hu;induction hu with
    | zero=>rw[B.zero,show ip ^ (d+1)*0=0 by grind];exact sM.zero
    | @add r v a hr _ ih=>
     have e1:ip ^ (d+1)*φ (λi=>a*r i+v i)=zc R a*(ip ^ (d+1)*φ r)+ip ^ (d+1)*φ v:=by rw[B.jq];grind
     rw[e1];refine sM.add (sM.mul (sM.zc a) ?_) ih
     rcases List.mem_append.mp hr with y|y
     ·obtain⟨i,hi,rfl⟩:=List.mem_map.mp y
      have hi:=List.mem_range.mp hi;have:ip ^ (d+1)*φ (λj=>(p:Int)*T i j)=iz n φ ip d T (un i):=by
       show _=ip ^ d*φ _
       rw[B.smul,cQ,bJ,show(λj=>sm n (un i) T j)=T i from funext λj=>gT hi];grind
      rw[this];exact .of L.sub oP ⟨_,rfl⟩
     ·obtain⟨s,hs,rfl⟩:=List.mem_map.mp y
      have:ip ^ (d+1)*φ (λj=>sm n s T j)=ip*iz n φ ip d T s:=by
       show _=ip*(ip ^ d*φ _)
       rw[bJ];grind
      rw[this];exact hN s hs
   have e1:ip ^ (d+1)*φ v=φ z+ip ^ (d+1)*φ u:=by
    have e2:φ v=zc R ((p:Int) ^ (d+1))*φ z+φ u:=by
     rw[<- B.jq];exact B.sup _ _ λj _=>by rw[e j];omega
    have:=jM G0 (d+1)
    rw[e2];grind
   rw[e1];exact sM.add (.of L.sub oP (L.all z)) (key hu)
  ·intro ha
   obtain⟨x,hx⟩:=ha.1;have ea:a=ip*iz n φ ip d T x:=by rw[<- hx];grind
   rw[ea] at ha;obtain⟨v,z,hv,e⟩:=hN' x ha;have e1:iz n φ ip d T x=zc R (p:Int)*iz n φ ip d T z+iz n φ ip d T v:=by
    rw[<- BT.jq];exact BT.sup _ _ λj hj=>by rw[e j hj];omega
   have g1:Gq ((Yj n).map (λi j=>(p:Int)*T i j)++N.map λr j=>sm n r T j) ((p:Int) ^ (d+1)) n λj=>sm n v T j:=by
    clear e e1;induction hv with
    | zero=>exact Gq.zero.of λj=>fP.symm
    | @add r w a hr _ ih=>
     exact((Gq.mem (List.mem_append.mpr (.inr (List.mem_map.mpr ⟨r,hr,rfl⟩))) (T0 r)).jq a ih).of λj=>(jb a).symm
   have g2:Gq ((Yj n).map (λi j=>(p:Int)*T i j)++N.map λr j=>sm n r T j) ((p:Int) ^ (d+1)) n λj=>sm n z (λi j=>(p:Int)*T i j) j:=
    Gq.sm n λi hi=>Gq.mem (List.mem_append.mpr (.inl (List.mem_map.mpr ⟨i,List.mem_range.mpr hi,rfl⟩))) λj hj=>by show(p:Int)*T i j=0;rw[L.st.jB i hi j (by omega)];omega
   obtain⟨c,hc⟩:=(hG _).mp (g1.jq 1 g2);refine⟨c,?_⟩
   show a=ip ^ (d+1)*φ λj=>sm n c T' j
   have e3:(φ λj=>sm n c T' j)=zc R (p:Int)*(φ λj=>sm n z T j)+φ λj=>sm n v T j:=by
    rw[<- B.jq];refine B.sup _ _ λj _=>?_
    rw[<- hc j];have:sm n z (λi j=>(p:Int)*T i j) j=(p:Int)*sm n z T j:=by
     have:∀m,sm m z (λi j=>(p:Int)*T i j) j=(p:Int)*sm m z T j:=λm=>by
      induction m with
      | zero=>show(0:Int)=_*0;omega
      | succ m ih=>show sm m z _ j+z m*(_*T m j)=_*(sm m z T j+z m*T m j);rw[ih];grind
     exact this n
    show 1*sm n v T j+sm n z (λi j=>(p:Int)*T i j) j=_
    rw[this];omega
   rw[ea,e1,e3];show ip*(zc R (p:Int)*(ip ^ d*φ _)+ip ^ d*φ _)=_
   rw[bJ];grind
 exact⟨Ut,⟨(key _).mpr sM.one,λa b=>(key _).mpr (sM.add ((key _).mp a) ((key _).mp b)),λa=>(key _).mpr (sM.neg ((key _).mp a)),λa b=>(key _).mpr (sM.mul ((key _).mp a) ((key _).mp b))⟩,λz=>(key _).mpr (.of L.sub oP (L.all z))⟩
end
end
end Alg
namespace L2
open Alg
theorem f_ (g:Nat->Nat->Int)(m:Nat):∀n,bw n (λi=>bw m λj=>g i j)=bw m λj=>bw n λi=>g i j
 | 0=>(dX λ_ _=>rfl).symm
 | n+1=>by
  show bw n (λi=>bw m λj=>g i j)+bw m (λj=>g n j)=bw m λj=>bw n (λi=>g i j)+g n j
  rw[f_ g m n,MS]
theorem jN (a:Int)(f:Nat->Int)(n:Nat):bw n (λi=>f i*a)=bw n f*a:=by
 rw[Z0,<- cR];exact aD λi _=>Z0 _ _
theorem vK {g:Nat->Int}{m:Nat}:∀ {n},m<=n->(∀i,m<=i->i<n->g i=0)->bw n g=bw m g
 | 0,h,_=>by rw[show m=0 by omega]
 | n+1,h,k=>by
  by_cases c:m=n+1
  ·rw[c]
  ·show bw n g+g n=_
   rw[k n (by omega) (by omega),vK (n:=n) (by omega) λi hi hn=>k i hi (by omega)];omega
theorem dh (n:Nat)(d:Nat->Int)(R:Nat->Nat->Int)(j:Nat):sm n d R j=bw n λi=>d i*R i j:=by
 induction n with
 | zero=>rfl
 | succ n ih=>show sm n d R j+d n*R n j=_+_;rw[ih]
section
variable {f:Fn} {n:Nat}
theorem nN:∀k,k<n->tk f n k=xp k
 | 0,_=>rfl
 | k+1,hk=>by
  funext m
  show(if m=0 then 0 else tk f n k (m-1))-tk f n k (n-1)*f m=xp (k+1) m
  rw[nN k (by omega)]
  unfold xp;rw[W9 (show ¬ n-1=k by omega)]
  by_cases c:m=0
  ·rw[Ja c,W9 (by omega)];omega
  ·rw[W9 c]
   by_cases e:m=k+1
   ·rw[Ja e,Ja (by omega)];omega
   ·rw[W9 e,W9 (by omega)];omega
theorem DP (hf:Top f n)(hn:1<=n):∀b j,bw n (λc=>f c*tk f n (c+b) j)+tk f n (n+b) j=0
 | 0,j=>by
  have e1:bw n (λc=>f c*tk f n (c+0) j)=if j<n then f j else 0:=by
   by_cases c:j<n
   ·rw[Ja c,vJ (k:=j) c λi hi hne=>by rw[nN (i+0) (by omega)];unfold xp;rw[W9 (by omega)];omega]
    rw[nN (j+0) (by omega)];unfold xp;rw[Ja (by omega)];omega
   ·rw[W9 c]
    exact dX λi hi=>by rw[nN (i+0) (by omega)];unfold xp;rw[W9 (by omega)];omega
  rw[e1];by_cases c:j<n
  ·obtain⟨k,rfl⟩:∃k,n=k+1:=⟨n-1,by omega⟩
   rw[Ja c];show f j+((if j=0 then 0 else tk f (k+1) k (j-1))-tk f (k+1) k (k+1-1)*f j)=0
   rw[nN k (by omega)]
   unfold xp;rw[Ja (show k+1-1=k by omega)]
   by_cases z:j=0
   ·rw[Ja z];omega
   ·rw[W9 z,W9 (by omega)];omega
  ·rw[W9 c,wO hf hn _ _ (by omega)];omega
 | b+1,j=>by
  have h1:=DP hf hn b (n-1);have e:bw n (λc=>f c*tk f n (c+(b+1)) j)+tk f n (n+(b+1)) j=(if j=0 then 0 else bw n (λc=>f c*tk f n (c+b) (j-1))+tk f n (n+b) (j-1))-(bw n (λc=>f c*tk f n (c+b) (n-1))+tk f n (n+b) (n-1))*f j:=by
   have e1:bw n (λc=>f c*tk f n (c+(b+1)) j)=(if j=0 then 0 else bw n (λc=>f c*tk f n (c+b) (j-1)))-bw n (λc=>f c*tk f n (c+b) (n-1))*f j:=by
    have:bw n (λc=>f c*tk f n (c+(b+1)) j)=bw n λc=>1*(if j=0 then 0 else f c*tk f n (c+b) (j-1))+(-f j)*(f c*tk f n (c+b) (n-1)):=aD λc _=>by
     show f c*((if j=0 then 0 else tk f n (c+b) (j-1))-tk f n (c+b) (n-1)*f j)=_
     by_cases z:j=0
     ·rw[Ja z,Ja z];grind
     ·rw[W9 z,W9 z];grind
    rw[this,iO];by_cases z:j=0
    ·simp only[Ja z];rw[dX λ_ _=>rfl];grind
    ·simp only[W9 z];grind
   rw[e1];show _+((if j=0 then 0 else tk f n (n+b) (j-1))-tk f n (n+b) (n-1)*f j)=_
   by_cases z:j=0
   ·rw[Ja z,Ja z,Ja z];grind
   ·rw[W9 z,W9 z,W9 z];grind
  rw[e,h1];by_cases z:j=0
  ·rw[Ja z];omega
  ·rw[W9 z,DP hf hn b (j-1)];omega
theorem DQ (hf:Top f n)(hn:1<=n):∀l b j,bw n (λc=>tk f n l c*tk f n (c+b) j)=tk f n (l+b) j
 | 0,b,j=>by
  rw[vJ (k:=0) (by omega) λi hi hne=>by show xp 0 i*_=0;unfold xp;rw[W9 (by omega)];omega]
  show xp 0 0*tk f n (0+b) j=_
  unfold xp;rw[Ja rfl];omega
 | l+1,b,j=>by
  have ih:=DQ hf hn l (b+1) j;have rl:=DP hf hn b j;have e:bw n (λc=>tk f n (l+1) c*tk f n (c+b) j)=bw n (λc=>(if c=0 then 0 else tk f n l (c-1))*tk f n (c+b) j)-tk f n l (n-1)*bw n (λc=>f c*tk f n (c+b) j):=by
   have:=iO 1 (-tk f n l (n-1)) (λc=>(if c=0 then 0 else tk f n l (c-1))*tk f n (c+b) j) (λc=>f c*tk f n (c+b) j) n
   rw[show ∀x y z:Int,x-y*z=1*x+-y*z from λx y z=>by grind,<- this]
   exact aD λc _=>by
    show((if c=0 then 0 else tk f n l (c-1))-tk f n l (n-1)*f c)*_=_
    grind
  obtain⟨k,rfl⟩:∃k,n=k+1:=⟨n-1,by omega⟩
  rw[e,kZ];rw[show l+1+b=l+(b+1) by omega,<- ih]
  show(if (0:Nat)=0 then 0 else _)*_+bw k (λi=>(if i+1=0 then 0 else tk f (k+1) l (i+1-1))*tk f (k+1) (i+1+b) j)-tk f (k+1) l (k+1-1)*_=bw k (λc=>tk f (k+1) l c*tk f (k+1) (c+(b+1)) j)+tk f (k+1) l k*tk f (k+1) (k+(b+1)) j
  rw[Ja rfl,show bw k (λi=>(if i+1=0 then 0 else tk f (k+1) l (i+1-1))*tk f (k+1) (i+1+b) j)=bw k λc=>tk f (k+1) l c*tk f (k+1) (c+(b+1)) j from aD λi _=>by
   rw[W9 (by omega),show i+1+b=i+(b+1) by omega,show i+1-1=i by omega]]
  rw[show k+1+b=k+(b+1) by omega] at rl
  rw[show k+1-1=k by omega]
  grind
theorem Al (hf:Top f n):∀e i l,i+e+1=n->tk f n l i=bw (e+1) λc=>f (c+i+1)*tk f n (l+c) (n-1)
 | 0,i,l,h=>by
  show _=0+f (0+i+1)*tk f n (l+0) (n-1)
  rw[show 0+i+1=n by omega,hf.one,show n-1=i by omega,show l+0=l by omega];omega
 | e+1,i,l,h=>by
  have ih:=Al hf e (i+1) (l+1) (by omega)
  rw[kZ];have h1:tk f n (l+1) (i+1)=(if i+1=0 then 0 else tk f n l (i+1-1))-tk f n l (n-1)*f (i+1):=rfl
  rw[W9 (by omega),show i+1-1=i by omega,ih] at h1
  have h2:bw (e+1) (λc=>f (c+(i+1)+1)*tk f n (l+1+c) (n-1))=bw (e+1) λc=>f (c+1+i+1)*tk f n (l+(c+1)) (n-1):=aD λc _=>by
   rw[show c+(i+1)+1=c+1+i+1 by omega,show l+1+c=l+(c+1) by omega]
  rw[h2] at h1;show _=f (0+i+1)*tk f n (l+0) (n-1)+_
  rw[show 0+i+1=i+1 by omega,show l+0=l by omega]
  grind
def t1 (f:Fn)(n k:Nat):Int:=bw n λi=>tk f n (k+i) i
theorem SM (hf:Top f n)(hn:1<=n)(k:Nat):t1 f n k=bw n λm=>((m+1:Nat):Int)*f (m+1)*tk f n (m+k) (n-1):=by
 obtain⟨q,rfl⟩:∃q,n=q+1:=⟨n-1,by omega⟩
 have e1:t1 f (q+1) k=cu (q+1) λi=>cu (q-i+1) λj=>f (i+j+1)*tk f (q+1) (k+(i+j)) q:=by
  unfold t1;rw[eX];refine cB λi hi=>?_
  rw[Al hf (q-i) i (k+i) (by omega),eX]
  refine cB λj hj=>?_
  rw[show j+i+1=i+j+1 by omega,show k+i+j=k+(i+j) by omega,show q+1-1=q by omega]
 rw[e1,<- wF λi k'=>f (k'+1)*tk f (q+1) (k+k') q,eX]
 refine cB λm hm=>?_
 have e2:∀(x:Int) (c:Nat),cu c (λ_=>x)=(c:Int)*x:=λx c=>by
  induction c with
  | zero=>show(0:Int)=0*x;omega
  | succ c ih=>
   show cu c (λ_=>x)+x=_
   rw[ih,show((c+1:Nat):Int)=(c:Int)+1 by omega];grind
 rw[e2,show k+m=m+k by omega,show q+1-1=q by omega];grind
def X8 (f:Fn)(n:Nat):Mx:=λa b=>t1 f n (a+b)
def lam (f:Fn)(n:Nat):Mx:=λc b=>tk f n (c+b) (n-1)
theorem MU (hf:Top f n)(hn:1<=n):∃w,w*det n (lam f n)=1:=by
 refine⟨det n λi c=>f (c+i+1),?_⟩
 rw[<- oK,<- FE n];refine b_ λi b hi hb=>?_
 have e:tk f n b i=bw n λc=>f (c+i+1)*tk f n (b+c) (n-1):=by
  rw[Al hf (n-1-i) i b (by omega)]
  exact(vK (m:=n-1-i+1) (by omega) λj hj _=>by
   show f (j+i+1)*_=0
   rw[hf.top _ (by omega)];omega).symm
 show bw n (λk=>f (k+i+1)*tk f n (k+b) (n-1))=dD i b
 rw[aD (g:=λc=>f (c+i+1)*tk f n (b+c) (n-1)) λc _=>by rw[Nat.add_comm c b],<- e,nN b hb]
 unfold xp dD;by_cases c:i=b
 ·rw[Ja c,Ja c.symm]
 ·rw[W9 c,W9 λz=>c z.symm]
theorem MV (hf:Top f n)(hn:1<=n){g:Fn}(hg:∀m,m<n->g m=((m+1:Nat):Int)*f (m+1)):det n (X8 f n)=(det n λa c=>bw n λk=>g k*tk f n (k+a) c)*det n (lam f n):=by
 rw[<- oK];refine b_ λa b ha hb=>?_
 show t1 f n (a+b)=bw n λc=>(bw n λk=>g k*tk f n (k+a) c)*tk f n (c+b) (n-1)
 rw[SM hf hn];have:(bw n λc=>(bw n λk=>g k*tk f n (k+a) c)*tk f n (c+b) (n-1))=bw n λc=>bw n λk=>g k*(tk f n (k+a) c*tk f n (c+b) (n-1)):=aD λc _=>by
  rw[<- jN];exact aD λk _=>by grind
 rw[this,f_];refine aD λm hm=>?_
 rw[cR,DQ hf hn,hg m hm,show m+a+b=m+(a+b) by omega]
def xo (n:Nat)(A:Mx):Int:=bw n λi=>A i i
theorem JQ (n:Nat)(A B:Mx):xo n (fz n A B)=xo n (fz n B A):=by
 show bw n (λi=>bw n λk=>A i k*B k i)=bw n λi=>bw n λk=>B i k*A k i
 rw[f_];exact aD λi _=>aD λk _=>Z0 _ _
theorem tY (n:Nat)(A B C:Mx)(i k:Nat):fz n (fz n A B) C i k=fz n A (fz n B C) i k:=by
 show bw n (λm=>(bw n λl=>A i l*B l m)*C m k)=bw n λl=>A i l*bw n λm=>B l m*C m k
 have e1:bw n (λm=>(bw n λl=>A i l*B l m)*C m k)=bw n λm=>bw n λl=>A i l*(B l m*C m k):=aD λm _=>by
  rw[<- jN];exact aD λl _=>by grind
 rw[e1,f_];exact aD λl _=>by rw[cR]
theorem zq {n:Nat}{A A' B B':Mx}{i k:Nat}(h1:∀l,l<n->A i l=A' i l)(h2:∀l,l<n->B l k=B' l k):fz n A B i k=fz n A' B' i k:=aD λl hl=>by rw[h1 l hl,h2 l hl]
theorem JR {n:Nat}{A C T S:Mx}{P:Int}(hP:P≠0)(h1:∀i k,i<n->k<n->fz n T A i k=P*fz n C T i k)(h2:∀i k,i<n->k<n->fz n S T i k=P*dD i k)(h3:∀i k,i<n->k<n->fz n T S i k=P*dD i k):xo n A=P*xo n C:=by
 have e1:P*xo n A=xo n (fz n A (fz n S T)):=by
  unfold xo;rw[<- cR];refine aD λi hi=>?_
  rw[zq (A':=A) (B':=λl k=>P*dD l k) (λ_ _=>rfl) λl hl=>h2 l i hl hi]
  show _=bw n λk=>A i k*(P*dD k i)
  rw[aD (g:=λk=>P*(A i k*dD k i)) λk _=>by grind,cR,k_ hi]
 have e2:xo n (fz n A (fz n S T))=xo n (fz n (fz n T A) S):=by
  rw[show xo n (fz n A (fz n S T))=xo n (fz n (fz n A S) T) from aD λi _=>(tY n A S T i i).symm,JQ]
  exact aD λi _=>(tY n T A S i i).symm
 have e3:xo n (fz n (fz n T A) S)=P*(P*xo n C):=by
  have:xo n (fz n (fz n T A) S)=P*xo n (fz n (fz n C T) S):=by
   unfold xo;rw[<- cR];refine aD λi hi=>?_
   show bw n (λl=>fz n T A i l*S l i)=P*bw n λl=>fz n C T i l*S l i
   rw[<- cR];exact aD λl hl=>by rw[h1 i l hi hl];grind
  rw[this];congr 1
  unfold xo;rw[<- cR];refine aD λi hi=>?_
  rw[tY,zq (A':=C) (B':=λl k=>P*dD l k) (λ_ _=>rfl) λl hl=>h3 l i hl hi]
  show(bw n λk=>C i k*(P*dD k i))=_
  rw[aD (g:=λk=>P*(C i k*dD k i)) λk _=>by grind,cR,k_ hi]
 rw[e2,e3] at e1;exact Zd hP e1
end
end L2
namespace L2
open Alg Lean.Grind
structure Xr (f:Fn)(n p:Nat){R:Type}[CommRing R](φ:Vc->R)(ip:R):Prop where
 sE:nM n φ
 inv:nt R p*ip=1
 one:φ (un 0)=1
 mul:∀a b,a<n->b<n->φ (un a)*φ (un b)=φ (tk f n (a+b))
section
variable {R:Type} [CommRing R] {f:Fn} {n p d:Nat} {φ:Vc->R} {ip:R} {T:Nat->Vc}
theorem BU:dB n un:=⟨λi _ j hj=>W9 (by omega),λi _=>by show(if i=i then (1:Int) else 0)≠0;rw[Ja rfl];decide⟩
theorem Xr.start (X:Xr f n p φ ip):s_ n p φ ip 0 un:=by
 have e:∀c,iz n φ ip 0 un c=φ c:=λc=>by
  show ip ^ 0*φ _=_
  rw[b7,X.sE.sup (λj=>sm n c un j) c λj hj=>by rw[BS,Ja hj]];grind
 have B:=X.sE;refine⟨BU,⟨⟨un 0,by rw[e,X.one]⟩,?_,?_,?_⟩,λz=>⟨z,(e z).symm⟩⟩
 ·rintro a b ⟨x,rfl⟩ ⟨y,rfl⟩
  exact⟨λj=>1*x j+y j,by rw[e,e,e,B.jq,iB];grind⟩
 ·rintro a ⟨x,rfl⟩
  exact⟨λj=>-1*x j,by rw[e,e,B.smul,l_,iB];grind⟩
 ·rintro a b ⟨x,rfl⟩ ⟨y,rfl⟩
  rw[e,e,B.mul (c:=λa b=>tk f n (a+b)) X.mul]
  exact⟨_,(e _).symm⟩
theorem SN (hf:Top f n)(hn:1<=n)(l:Nat):bw n (λk=>tk f n l k*t1 f n k)=t1 f n l:=by
 unfold t1;rw[show bw n (λk=>tk f n l k*bw n λi=>tk f n (k+i) i)=bw n λk=>bw n λi=>tk f n l k*tk f n (k+i) i from aD λk _=>(cR _ _ _).symm,f_]
 exact aD λi _=>DQ hf hn l i i
theorem s_.VH (X:Xr f n p φ ip)(hf:Top f n)(hn:1<=n)(p0:p≠0)(L:s_ n p φ ip d T){g:Fn}(hg:∀m,m<n->g m=((m+1:Nat):Int)*f (m+1)):
  ∃w:Int,(Bx n λi=>T i i)*(Bx n λi=>T i i)*(det n λa c=>bw n λk=>g k*tk f n (k+a) c)=((p:Int) ^ d*(p:Int) ^ d) ^ n*w:=by
 have B:=X.sE;have BT:=B.jB (d:=d) X.inv L.st;generalize hP:(p:Int) ^ d=P;have P0:P≠0:=by rw[<- hP];exact Ww (by omega)
 have X_:zc R P*ip ^ d=1:=by rw[<- hP];exact jM X.inv d
 have hel:∀y,(φ λj=>sm n y T j)=zc R P*iz n φ ip d T y:=λy=>by
  show _=zc R P*(ip ^ d*φ _)
  grind
 have hT:∀i,i<n->φ (T i)=zc R P*iz n φ ip d T (un i):=λi hi=>by
  rw[<- hel];exact B.sup _ _ λj _=>(gT hi).symm
 have T0:∀a:Vc,∀k,n<=k->sm n a T k=0:=λa k hk=>jc (q:=0) λi hi=>L.st.jB i hi k (by omega)
 have hc0:∀i,∃ci:Nat->Vc,∀j,iz n φ ip d T (un i)*iz n φ ip d T (un j)=iz n φ ip d T (ci j):=λi=>Classical.axiomOfChoice λj=>L.sub.mul ⟨_,rfl⟩ ⟨_,rfl⟩
 obtain⟨c,hc⟩:=Classical.axiomOfChoice hc0;obtain⟨S,hS⟩:=Classical.axiomOfChoice λi=>L.all (un i)
 have hA:∀v i,i<n->φ v*φ (un i)=φ λk=>sm n v (λa=>tk f n (a+i)) k:=λv i hi=>by
  rw[B.mul (c:=λa b=>tk f n (a+b)) X.mul]
  refine B.sup _ _ λk _=>cW (λ_ _=>rfl) λa _=>gT hi
 have hC:∀y i,i<n->iz n φ ip d T y*iz n φ ip d T (un i)=iz n φ ip d T λk=>sm n y (λj=>c j i) k:=λy i hi=>by
  rw[BT.mul (c:=c) λi j _ _=>hc i j]
  refine BT.sup _ _ λk _=>cW (λ_ _=>rfl) λa _=>gT hi
 have hS':∀i k,i<n->k<n->sm n (S i) T k=P*un i k:=λi k hi hk=>by
  have:(φ λj=>sm n (S i) T j)=φ λk=>P*un i k:=by rw[hel,<- hS i,B.smul]
  exact B.inj _ _ this k hk
 have pun:∀(x:Vc) (k:Nat),k<n->sm n x (λj k=>P*un j k) k=P*x k:=λx k hk=>by
  rw[dh,aD (g:=λi=>P*(x i*un i k)) λi _=>by grind,cR,<- dh n x un k,BS,Ja hk]
 have h3:∀i k,i<n->k<n->sm n (T i) S k=P*un i k:=λi k hi hk=>by
  refine L.st.uniq n (Yd n) (c:=λm=>sm n (T i) S m) (c':=λm=>P*un i m) (λj=>?_) k hk
  by_cases hj:j<n
  ·rw[<- xm,cW (R':=λj k=>P*un j k) (λ_ _=>rfl) λl hl=>hS' l j hl hj,pun _ _ hj]
   have:=jb (n:=n) P (d:=un i) (e:=λ_=>0) (R:=T) (j:=j)
   rw[fP] at this;rw[show(λm=>P*un i m)=λm=>P*un i m+0 from funext λm=>by omega,this,show sm n (un i) T j=T i j from gT hi];omega
  ·rw[T0 _ j (by omega),T0 _ j (by omega)]
 have htr:∀y,bw n (λk=>sm n y T k*t1 f n k)=P*xo n λi k=>sm n y (λj=>c j i) k:=λy=>by
  rw[<- JR (A:=λi k=>sm n (λj=>sm n y T j) (λa=>tk f n (a+i)) k) (T:=T) (S:=S) P0 (λi k hi hk=>?_) (λi k hi hk=>?_) λi k hi hk=>?_]
  ·unfold xo t1
   rw[show bw n (λk=>sm n y T k*bw n λi=>tk f n (k+i) i)=bw n λk=>bw n λi=>sm n y T k*tk f n (k+i) i from aD λk _=>(cR _ _ _).symm,f_]
   exact aD λi _=>(dh _ _ _ _).symm
  ·show bw n (λl=>T i l*sm n (λj=>sm n y T j) (λa=>tk f n (a+l)) k)=P*bw n λl=>sm n y (λj=>c j i) l*T l k
   rw[<- dh n (T i) (λl k=>sm n (λj=>sm n y T j) (λa=>tk f n (a+l)) k) k,<- dh n (λl=>sm n y (λj=>c j i) l) T k]
   have e:(φ λk=>sm n (T i) (λl k=>sm n (λj=>sm n y T j) (λa=>tk f n (a+l)) k) k)=φ λk=>P*sm n (λl=>sm n y (λj=>c j i) l) T k:=by
    rw[B.sm n,gU n (λ_ _=>rfl) λl hl=>(hA (λj=>sm n y T j) l hl).symm,<- kD,<- B.un (T i),B.smul,hel,hT i hi,hel,<- hC y i hi]
    grind
   exact B.inj _ _ e k hk
  ·show bw n (λl=>S i l*T l k)=P*dD i k
   rw[<- dh n (S i) T k];exact hS' i k hi hk
  ·show bw n (λl=>T i l*S l k)=P*dD i k
   rw[<- dh n (T i) S k];exact h3 i k hi hk
 obtain⟨w,hw⟩:=MU hf hn;have yu:det n (fz n (fz n T (X8 f n)) λa b=>T b a)=(P*P) ^ n*det n λi j=>xo n λm k=>sm n (c i j) (λj=>c j m) k:=by
  rw[<- k8];refine b_ λi j hi hj=>?_
  have e1:∀k,k<n->sm n (T i) (λa k=>sm n (T j) (λb=>tk f n (a+b)) k) k=P*sm n (c i j) T k:=by
   have:(φ λk=>sm n (T i) (λa k=>sm n (T j) (λb=>tk f n (a+b)) k) k)=φ λk=>P*sm n (c i j) T k:=by
    rw[<- B.mul (c:=λa b=>tk f n (a+b)) X.mul,B.smul,hel,hT i hi,hT j hj,<- hc i j];grind
   exact B.inj _ _ this
  have e2:bw n (λk=>sm n (T i) (λa k=>sm n (T j) (λb=>tk f n (a+b)) k) k*t1 f n k)=P*P*xo n λm k=>sm n (c i j) (λj=>c j m) k:=by
   rw[aD (g:=λk=>P*(sm n (c i j) T k*t1 f n k)) λk hk=>by rw[e1 k hk];grind,cR,htr];grind
  rw[<- e2];show bw n (λb=>(bw n λa=>T i a*t1 f n (a+b))*T j b)=_
  have e3:∀k,sm n (T i) (λa k=>sm n (T j) (λb=>tk f n (a+b)) k) k*t1 f n k=bw n λa=>bw n λb=>T i a*T j b*(tk f n (a+b) k*t1 f n k):=λk=>by
   rw[dh,<- jN];refine aD λa _=>?_
   rw[dh,<- cR,<- jN];exact aD λb _=>by grind
  rw[aD λk _=>e3 k,f_]
  have e4:bw n (λa=>bw n λk=>bw n λb=>T i a*T j b*(tk f n (a+b) k*t1 f n k))=bw n λa=>bw n λb=>T i a*T j b*t1 f n (a+b):=aD λa _=>by
   rw[f_];exact aD λb _=>by rw[cR,SN hf hn]
  rw[e4,f_];refine aD λb _=>?_
  rw[<- jN];exact aD λa _=>by grind
 rw[oK,oK,z7 n T λi j hij hj=>L.st.jB i (by omega) j hij,z6 n (λa b=>T b a) λi j hij hi=>L.st.jB j (by omega) i hij,MV hf hn hg] at yu
 generalize (det n λi j=>xo n λm k=>sm n (c i j) (λj=>c j m) k)=E at yu
 generalize det n (lam f n)=Λ at hw yu;generalize (det n λa c=>bw n λk=>g k*tk f n (k+a) c)=D at yu
 refine⟨w*E,?_⟩
 generalize (Bx n λi=>T i i)=Z at yu
 generalize (P*P) ^ n=Y at yu;grind
def tot:Nat->(Nat->Nat)->Nat
 | 0,_=>0
 | n+1,s=>tot n s+s n
theorem JS {s s':Nat->Nat}:∀n,(∀i,i<n->s' i<=s i+1)->tot n s'<=tot n s+n/\(tot n s'=tot n s+n->∀i,i<n->s' i=s i+1)
 | 0,_=>⟨Yd 0,λ_ i hi=>by omega⟩
 | n+1,h=>by
  obtain⟨a,b⟩:=JS n λi hi=>h i (by omega)
  have hn:=h n (by omega)
  refine⟨by show tot n s'+s' n<=tot n s+s n+(n+1);omega,λe i hi=>?_⟩
  have e:tot n s'+s' n=tot n s+s n+(n+1):=e;by_cases c:i=n
  ·subst c;omega
  ·exact b (by omega) i (by omega)
theorem FG {T:Nat->Vc}{s:Nat->Nat}:∀n,(∀i,i<n->T i i=(p:Int) ^ s i)->Bx n (λi=>T i i)=(p:Int) ^ tot n s
 | 0,_=>rfl
 | n+1,h=>by
  show Bx n (λi=>T i i)*T n n=(p:Int) ^ (tot n s+s n)
  rw[FG n λi hi=>h i (by omega),h n (by omega),Wo]
theorem xq {a b:Nat}(hp:2<=p)(h:(p:Int) ^ a ∣ (p:Int) ^ b):a<=b:=by
 rw[<- Wi,<- Wi,Int.natCast_dvd_natCast] at h;exact(Nat.pow_dvd_pow_iff_le_right (by omega)).mp h
theorem dB.grow {T':Nat->Vc}(hp:2<=p)(hT:dB n T)(Ut:dB n T'){s s':Nat->Nat}(es:∀i,i<n->T i i=(p:Int) ^ s i)(es':∀i,i<n->T' i i=(p:Int) ^ s' i)
  (sub:∀i,i<n->gM n T' λj=>(p:Int)*T i j) {r:Vc} (hr:gM n T' λj=>sm n r T j) {k:Nat} (hk:k<n) (nd:¬ (p:Int) ∣ r k):tot n s'<tot n s+n:=by
 have hU:dB n λi j=>(p:Int)*T i j:=⟨λi hi j hj=>by show(p:Int)*T i j=0;rw[hT.jB i hi j hj];omega,λi hi z=>by
  rcases Int.mul_eq_zero.mp z with y|y
  ·omega
  ·exact hT.nz i hi y⟩
 have hle:∀i,i<n->s' i<=s i+1:=λi hi=>by
  have:=Ut.dvd hU sub hi
  rw[es' i hi,show(p:Int)*T i i=(p:Int) ^ (s i+1) by rw[es i hi,Yy,Z0]] at this
  exact xq hp this
 obtain⟨a,b⟩:=JS n hle;rcases Nat.lt_or_eq_of_le a with y|y
 ·exact y
 ·exfalso
  have hs:=Ut.same hU sub λi hi=>by
   show(p:Int)*T i i=T' i i
   rw[es i hi,es' i hi,b y i hi,Yy,Z0]
  obtain⟨cr,er⟩:=hr;obtain⟨w,hw⟩:=gM.sm (c:=cr) (U:=T') n hs;have e:∀j,sm n r T j=sm n (λm=>(p:Int)*w m) T j:=λj=>by
   have e1:sm n r T j=sm n cr T' j:=er j;have e2:sm n cr T' j=sm n w (λi j=>(p:Int)*T i j) j:=hw j
   rw[e1,e2];exact xg λi _=>by grind
  exact nd ⟨_,hT.uniq n (Yd n) e k hk⟩
theorem s_.le (X:Xr f n p φ ip)(hf:Top f n)(hn:1<=n)(hp:2<=p)(L:s_ n p φ ip d T){g:Fn}(hg:∀m,m<n->g m=((m+1:Nat):Int)*f (m+1)){s:Nat->Nat}(es:∀i,i<n->T i i=(p:Int) ^ s i)
  {z:Nat} {u:Int} (hD:(det n λa c=>bw n λk=>g k*tk f n (k+a) c)=(p:Int) ^ z*u) (hu:¬ (p:Int) ∣ u):2*(d*n)<=2*tot n s+z:=by
 obtain⟨w,e⟩:=s_.VH X hf hn (by omega) L hg
 rw[FG n es,hD] at e;by_cases c:2*(d*n)<=2*tot n s+z
 ·exact c
 exfalso
 obtain⟨k,hk⟩:∃k,2*(d*n)=2*tot n s+z+(k+1):=⟨2*(d*n)-(2*tot n s+z)-1,by omega⟩
 have e1:((p:Int) ^ d*(p:Int) ^ d) ^ n=(p:Int) ^ (2*tot n s+z)*((p:Int)*(p:Int) ^ k):=by
  rw[<- Wo,<- Int.pow_mul,show(d+d)*n=2*(d*n) by rw[Wg];omega,hk,Wo,Yy,Z0 ((p:Int) ^ k)]
 have e2:(p:Int) ^ tot n s*(p:Int) ^ tot n s*((p:Int) ^ z*u)=(p:Int) ^ (2*tot n s+z)*u:=by
  rw[Wo,show 2*tot n s=tot n s+tot n s by omega,Wo];grind
 rw[e1,e2,Z5] at e;have:=Zd (Ww (by omega)) e
 exact hu ⟨(p:Int) ^ k*w,by rw[this];grind⟩
end
section
variable {α:Type} [CommRing α]
theorem JT {M:Md α}{a:c7 α}(h:Dg a M.n):Alg.rest M a=a:=rest_eq h (Cg.refl _ _)
theorem P7 {M:Md α}:∀k:Nat,(nt (Qt M) k).s=cst (nt α k)
 | 0=>Jp.symm
 | k+1=>by
  show(nt (Qt M) k).s+1=cst (nt α k+1)
  rw[P7 k,MF];rfl
theorem SO {M:Md α}(k:Int):(zc (Qt M) k).s=cst (zc α k):=by
 rcases Int.le_total 0 k with y|y
 ·obtain⟨n,rfl⟩:=Zq y
  rw[cQ,cQ,P7]
 ·obtain⟨n,e⟩:=Zq (show 0<=-k by omega)
  rw[show k=-(n:Int) by omega,l_,l_,cQ,cQ,Ss,P7]
  apply c7.ext
  funext i
  show -(cst (nt α n)).c i=if i=0 then -nt α n else 0
  show -(if i=0 then nt α n else 0)=_
  by_cases c:i=0
  ·rw[Ja c,Ja c]
  ·rw[W9 c,W9 c];grind
end
theorem JU (k:Int):zc Rat k=(k:Rat):=rfl
section
variable {f:Fn} {n p:Nat}
def Sv (v:Vc):c7 Rat:=⟨λi=>(v i:Rat)⟩
theorem JV {v:Vc}{n:Nat}(h:∀j,n<=j->v j=0):Dg (Sv v) n:=λi hi=>by show((v i:Int):Rat)=0;rw[h i hi];rfl
def Mf (hf:Top f n)(hn:1<=n):Md Rat:=⟨Sv f,n,⟨by show((f n:Int):Rat)=1;rw[hf.one];rfl,JV λj hj=>hf.top j (by omega)⟩,hn⟩
def fj (n:Nat)(v:Vc):Vc:=λj=>if j<n then v j else 0
def LR (hf:Top f n)(hn:1<=n)(v:Vc):Qt (Mf hf hn):=⟨Sv (fj n v),JV λj (hj:n<=j)=>W9 (by omega)⟩
theorem N7 (hf:Top f n)(hn:1<=n):∀k,Cg (Sv f) (mon 1 k) (Sv (tk f n k))
 | 0=>by
  have:Sv (tk f n 0)=mon 1 0:=by
   apply c7.ext;funext i
   show((xp 0 i:Int):Rat)=if i=0 then 1 else 0
   unfold xp;by_cases c:i=0
   ·rw[Ja c,Ja c];rfl
   ·rw[W9 c,W9 c];rfl
  rw[this];exact Cg.refl _ _
 | k+1=>by
  have e1:(mon 1 (k+1):c7 Rat)=X*mon 1 k:=by
   apply c7.ext;funext i
   show _=(mon 1 1*mon 1 k:c7 Rat).c i
   rw[sy];show(if i=k+1 then (1:Rat) else 0)=if 1<=i then 1*(if i-1=k then (1:Rat) else 0) else 0
   by_cases c:1<=i
   ·rw[Ja c]
    by_cases d:i=k+1
    ·rw[Ja d,Ja (by omega)];grind
    ·rw[W9 d,W9 (by omega)];grind
   ·rw[W9 c,W9 (by omega)]
  rw[e1];have px:tU (Sv (tk f n k)):=⟨n,JV λj hj=>wO hf hn k j hj⟩
  refine(Cg.mul tU.X (⟨_,Dg.mon 1 k⟩) (Cg.refl _ _) (N7 hf hn k)).trans ⟨cst ((tk f n k (n-1):Int):Rat),tU.cst _,?_⟩
  apply c7.ext;funext i
  rw[Jl,oN];show(mon 1 1*Sv (tk f n k):c7 Rat).c i-(((if i=0 then 0 else tk f n k (i-1))-tk f n k (n-1)*f i:Int):Rat)=((tk f n k (n-1):Int):Rat)*((f i:Int):Rat)
  rw[sy,Rat.intCast_sub,Rat.intCast_mul];by_cases c:1<=i
  ·rw[Ja c,W9 (by omega)]
   show(1:Rat)*((tk f n k (i-1):Int):Rat)-_=_
   grind
  ·rw[W9 c,Ja (by omega)]
   show(0:Rat)-((0:Rat)-_)=_
   grind
theorem SQ (hf:Top f n)(hn:1<=n)(hp:1<=p):∃ip,Xr f n p (LR hf hn) ip:=by
 have Mn:(Mf hf hn).n=n:=rfl;have d1:∀x:Rat,Dg (cst x) (Mf hf hn).n:=λx=>(Dg.cst x).mono (by rw[Mn];exact hn)
 have Ra:∀(x:Rat) (a b:Qt (Mf hf hn)),a.s=cst x->∀i,(a*b).s.c i=x*b.s.c i:=λx a b h i=>by
  rw[N1,h,JT,oN];exact λj hj=>by rw[oN,b.lt j hj];grind
 have hp0:((p:Int):Rat)≠0:=λz=>by
  have:((p:Int):Rat)=((0:Int):Rat):=z
  have:=Rat.intCast_inj.mp this
  omega
 refine⟨⟨cst ((p:Int):Rat)⁻¹,d1 _⟩,⟨λa v w=>?_,λv w e j hj=>?_,λv w e=>?_⟩,?_,?_,λa b ha hb=>?_⟩
 ·apply Qt.ext;apply c7.ext;funext i
  rw[Sq,NZ,Ra _ _ _ (SO a),JU];show(((if i<n then a*v i+w i else 0:Int)):Rat)=(a:Rat)*(((if i<n then v i else 0:Int)):Rat)+(((if i<n then w i else 0:Int)):Rat)
  by_cases c:i<n
  ·rw[Ja c,Ja c,Ja c,Rat.intCast_add,Rat.intCast_mul]
  ·rw[W9 c,W9 c,W9 c]
   show(0:Rat)=(a:Rat)*0+0
   grind
 ·have h:(LR hf hn v).s.c j=(LR hf hn w).s.c j:=by rw[e]
  have h:(((if j<n then v j else 0:Int)):Rat)=(((if j<n then w j else 0:Int)):Rat):=h
  rw[Ja hj,Ja hj] at h;exact Rat.intCast_inj.mp h
 ·apply Qt.ext;apply c7.ext;funext i
  show(((if i<n then v i else 0:Int)):Rat)=(((if i<n then w i else 0:Int)):Rat)
  by_cases c:i<n
  ·rw[Ja c,Ja c,e i c]
  ·rw[W9 c,W9 c]
 ·apply Qt.ext;apply c7.ext;funext i
  rw[<- cQ,Ra _ _ _ (SO (p:Int)),JU];show((p:Int):Rat)*(if i=0 then ((p:Int):Rat)⁻¹ else 0)=if i=0 then 1 else 0
  by_cases c:i=0
  ·rw[Ja c,Ja c];exact Rat.mul_inv_cancel _ hp0
  ·rw[W9 c,W9 c];grind
 ·apply Qt.ext;apply c7.ext;funext i
  show(((if i<n then (if i=0 then 1 else 0) else 0:Int)):Rat)=if i=0 then 1 else 0
  by_cases c:i=0
  ·rw[Ja (by omega),Ja c,Ja c];rfl
  ·rw[W9 c,W9 c]
   by_cases h:i<n
   ·rw[Ja h];rfl
   ·rw[W9 h];rfl
 ·have hu:∀a,a<n->(LR hf hn (un a)).s=mon 1 a:=λa ha=>by
   apply c7.ext;funext i
   show(((if i<n then (if i=a then 1 else 0) else 0:Int)):Rat)=if i=a then 1 else 0
   by_cases c:i=a
   ·rw[Ja (by omega),Ja c,Ja c];rfl
   ·rw[W9 c,W9 c]
    by_cases h:i<n
    ·rw[Ja h];rfl
    ·rw[W9 h];rfl
  apply Qt.ext
  rw[N1,hu a ha,hu b hb];refine rest_eq (LR hf hn _).lt ?_
  have e1:(mon 1 a*mon 1 b:c7 Rat)=mon 1 (a+b):=by
   apply c7.ext;funext i
   rw[sy];show(if a<=i then 1*(if i-a=b then (1:Rat) else 0) else 0)=if i=a+b then 1 else 0
   by_cases c:a<=i
   ·rw[Ja c]
    by_cases d:i=a+b
    ·rw[Ja d,Ja (by omega)];grind
    ·rw[W9 d,W9 (by omega)];grind
   ·rw[W9 c,W9 (by omega)]
  have e2:(LR hf hn (tk f n (a+b))).s=Sv (tk f n (a+b)):=by
   apply c7.ext;funext i
   show(((if i<n then tk f n (a+b) i else 0:Int)):Rat)=((tk f n (a+b) i:Int):Rat)
   by_cases c:i<n
   ·rw[Ja c]
   ·rw[W9 c,wO hf hn _ _ (by omega)]
  rw[e1,e2];exact N7 hf hn (a+b)
end
end L2
set_option exponentiation.threshold 2000
namespace L2
open PySem PySem.Spec PyProof.Rows
def MW:Q?->Scope
 | .Return (j? (.Tuple [_,.ListComp _ _ sc _] _ _)) _=>sc
 | _=>default
def sN (W:Nat):Nat->Fn->Nat
 | 0,_=>0
 | N+1,h=>sN W N h+(h N).natAbs*W ^ N
theorem Am {W:Nat}{h:Fn}:∀ {N M:Nat},N<=M->sN W N h<=sN W M h
 | N,0,h=>by rw[show N=0 by omega];exact Yd _
 | N,M+1,h=>by
  by_cases c:N=M+1
  ·rw[c];exact Yd _
  ·have:=Am (W:=W) (h:=by assumption) (show N<=M by omega)
   show _<=sN W M _+_
   omega
theorem FH {W:Nat}{h:Fn}{N j:Nat}(hj:j<N):(h j).natAbs*W ^ j<=sN W N h:=by
 have h1:(h j).natAbs*W ^ j<=sN W (j+1) h:=Nat.le_add_left _ _;exact Yn h1 (Am (by omega))
theorem DR {W:Nat}{a b c:Fn}(e:∀j,c j=a j+b j):∀N,sN W N c<=sN W N a+sN W N b
 | 0=>Yd 0
 | N+1=>by
  show sN W N c+(c N).natAbs*W ^ N<=sN W N a+(a N).natAbs*W ^ N+(sN W N b+(b N).natAbs*W ^ N)
  have h1:=DR (W:=W) e N;have h2:(c N).natAbs<=(a N).natAbs+(b N).natAbs:=by rw[e N];exact Int.natAbs_add_le _ _
  have h3:=Yx (W ^ N) h2;rw[Wg] at h3;omega
theorem JW {W i:Nat}{g:Fn}(c:Int):∀N,sN W N (λj=>c*cv (xp i) g j)<=c.natAbs*W ^ i*sN W N g
 | 0=>Y1 _
 | N+1=>by
  have key:∀M,sN W (M+i) (λj=>c*cv (xp i) g j)<=c.natAbs*W ^ i*sN W M g:=by
   intro M;induction M with
   | zero=>
    have z:∀k,k<=i->sN W k (λj=>c*cv (xp i) g j)=0:=by
     intro k;induction k with
     | zero=>intro _;rfl
     | succ k ih=>
      intro hk;show sN W k _+(c*cv (xp i) g k).natAbs*W ^ k=0
      rw[ih (by omega),i6,W9 (by omega)];simp
    rw[Wx,z i (Yd i)];exact Y1 _
   | succ M ih=>
    rw[show M+1+i=M+i+1 by omega]
    show sN W (M+i) _+(c*cv (xp i) g (M+i)).natAbs*W ^ (M+i)<=c.natAbs*W ^ i*(sN W M g+(g M).natAbs*W ^ M)
    rw[i6,Ja (by omega),Wa,Zh,W8,Zw]
    have:c.natAbs*(g M).natAbs*(W ^ M*W ^ i)=c.natAbs*W ^ i*((g M).natAbs*W ^ M):=by ac_rfl
    omega
  refine Yn (Am (show N+1<=N+1+i by omega)) (key (N+1))
theorem N8 {W L:Nat}{a g:Fn}(ha:∀j,L<=j->a j=0)(N:Nat):sN W N (cv a g)<=sN W L a*sN W N g:=by
 have e:∀m,cv a g m=bw L λi=>a i*cv (xp i) g m:=by
  intro m;have h1:cv a g m=cu (m+1) λi=>a i*g (m-i):=rfl
  rw[h1,<- eX];have h2:bw L (λi=>a i*cv (xp i) g m)=bw (L+(m+1)) λi=>a i*cv (xp i) g m:=(vK (by omega) λi hi _=>by rw[ha i hi,Z1]).symm
  have h3:bw (m+1) (λi=>a i*g (m-i))=bw (L+(m+1)) λi=>a i*cv (xp i) g m:=by
   rw[vK (m:=m+1) (n:=L+(m+1)) (by omega) λi hi _=>by rw[i6,W9 (by omega),Y6]]
   exact aD λi hi=>by rw[i6,Ja (by omega)]
  rw[h2,h3]
 have key:∀M,sN W N (λm=>bw M λi=>a i*cv (xp i) g m)<=sN W M a*sN W N g:=by
  intro M;induction M with
  | zero=>
   have:∀K,sN W K (λ_=>(0:Int))=0:=λK=>by
    induction K with
    | zero=>rfl
    | succ K ih=>show sN W K _+Zo 0*_=0;rw[ih];simp
   show sN W N (λ_=>(0:Int))<=_
   rw[this];exact Y1 _
  | succ M ih=>
   refine Yn (DR (a:=λm=>bw M λi=>a i*cv (xp i) g m) (b:=λm=>a M*cv (xp M) g m) (λm=>rfl) N) ?_
   show _<=(sN W M a+(a M).natAbs*W ^ M)*sN W N g
   rw[Wg];exact Nat.add_le_add ih (JW (a M) N)
 rw[show cv a g=λm=>bw L λi=>a i*cv (xp i) g m from funext e]
 exact key L
theorem FI {W:Nat}{h:Fn}{N:Nat}(h0:∀j,N<=j->h j=0):∀ {M},N<=M->sN W M h=sN W N h
 | 0,hM=>by rw[show N=0 by omega]
 | M+1,hM=>by
  by_cases c:N=M+1
  ·rw[c]
  ·show sN W M h+(h M).natAbs*W ^ M=_
   rw[FI h0 (show N<=M by omega),h0 M (by omega)];simp
theorem G1 {p:List Int}{n:Nat}(hp:Norm p)(h:Top (aq p) n):p.length=n+1:=by
 rcases hp with z|z
 ·rw[z] at h
  have:=h.one
  rw[gR] at this;cases this
 ·have h1:¬ p.length-1 > n:=λc=>z (h.top _ c)
  have h2:¬ p.length<=n:=λc=>by
   have:=h.one
   rw[bF c] at this;cases this
  omega
theorem topC {f:List Int}{n:Nat}(hl:f.length=n+1)(hm:L2.dM f):Top (aq f) n:=⟨by have:=hm.2;rw[hl] at this;exact this,λm hm=>bF (by omega)⟩
structure Pw (r:Nat)(f:List Int)(n:Nat):Prop where
 len:f.length=n+1
 mon:L2.dM f
 nm:sN (2 ^ 40) (n+1) (aq f)<=(2 ^ (40+r)) ^ n
variable {r s n m:Nat} {f g:List Int}
theorem Pw.hi (h:Pw r f n){j:Nat}(hj:n+1<=j):aq f j=0:=bF (by rw[h.len];exact hj)
theorem Pw.top (h:Pw r f n):Top (aq f) n:=topC h.len h.mon
theorem Pw.mono (h:Pw r f n)(hr:r<=s):Pw s f n:=⟨h.len,h.mon,Yn h.nm (Z7 (Y2 (by decide) (by omega)) n)⟩
theorem Pw.mul (hf:Pw r f n)(hg:Pw r g m):Pw r (trim (eO f g)) (n+m):=by
 have fn:f≠[]:=hf.mon.1;have gn:g≠[]:=hg.mon.1;have hl:(eO f g).length=n+m+1:=by
  unfold eO;rw[W9 (by rintro (z|z);exact fn z;exact gn z),Ya,Yg,hf.len,hg.len];omega
 have top:aq (eO f g) (n+m)=1:=by
  rw[Po,Du hg.top λi hi=>hf.hi (by omega)];exact hf.top.one
 have nn:Norm (eO f g):=.inr (by rw[hl];show aq _ (n+m)≠0;rw[top];decide)
 rw[GD nn];refine⟨hl,⟨(λz=>by rw[z] at hl;cases hl),by rw[hl];exact top⟩,?_⟩
 rw[Po,Zw];refine Yn (N8 (L:=n+1) (λj hj=>hf.hi hj) _) (Zi hf.nm ?_)
 rw[FI (N:=m+1) (λj hj=>hg.hi hj) (by omega)]
 exact hg.nm
theorem Pw.one:Pw r [1] 0:=⟨rfl,⟨by simp,rfl⟩,by show 0+1*(2 ^ 40) ^ 0<=_;simp⟩
theorem Pw.of (hl:f.length=n+1)(hm:L2.dM f)(hn:n<=8)(h:∀k,k<n->8*(aq f k).natAbs<=(2 ^ 40) ^ (n-k)):Pw 1 f n:=by
 refine⟨hl,hm,?_⟩
 have key:∀k,k<=n->8*sN (2 ^ 40) k (aq f)<=k*(2 ^ 40) ^ n:=by
  intro k;induction k with
  | zero=>intro _;show 8*0<=0*_;simp
  | succ k ih=>
   intro hk;show 8*(sN (2 ^ 40) k (aq f)+(aq f k).natAbs*(2 ^ 40) ^ k)<=_
   have h1:=ih (by omega)
   have h2:=Yx ((2 ^ 40) ^ k) (h k (by omega))
   rw[<- Zw,Nat.sub_add_cancel (by omega)] at h2
   rw[Wg,W8];rw[Wr] at h2;omega
 have top:aq f n=1:=(topC hl hm).one;show sN (2 ^ 40) n (aq f)+(aq f n).natAbs*(2 ^ 40) ^ n<=_
 rw[top];cases n with
 | zero=>simp[sN]
 | succ n=>
  have h1:=key (n+1) (Yd _);have h2:(n+1)*(2 ^ 40) ^ (n+1)<=8*(2 ^ 40) ^ (n+1):=Yx _ hn;have h3:2*(2 ^ 40) ^ (n+1)<=(2 ^ (40+1)) ^ (n+1):=by
   rw[Z2 2 40,Nat.mul_pow,Wf];exact Zg _ (by rw[Z2];have:=Zu (n:=n) (show 0<2 by decide);omega)
  have e:Zo 1=1:=rfl;rw[e];omega
theorem Pw.jq {c:Int}(h:c.natAbs<=2 ^ 37):Pw 1 [c,1] 1:=Pw.of rfl ⟨by simp,rfl⟩ (by decide) λk hk=>by
 rw[show k=0 by omega]
 show 8*c.natAbs<=(2 ^ 40) ^ 1
 omega
theorem FJ (W:Nat)(a:Int)(r:List Int):∀N,sN W (N+1) (aq (a::r))=a.natAbs+W*sN W N (aq r)
 | 0=>by show 0+(aq (a::r) 0).natAbs*W ^ 0=a.natAbs+W*0;rw[show aq (a::r) 0=a from rfl];simp
 | N+1=>by
  show sN W (N+1) (aq (a::r))+(aq (a::r) (N+1)).natAbs*W ^ (N+1)=a.natAbs+W*(sN W N (aq r)+(aq r N).natAbs*W ^ N)
  rw[FJ W a r N,show aq (a::r) (N+1)=aq r N from rfl,W8,Z2]
  have:(aq r N).natAbs*(W ^ N*W)=W*((aq r N).natAbs*W ^ N):=by ac_rfl
  omega
theorem FL (W:Nat):∀N,sN W N (λ_=>(0:Int))=0
 | 0=>rfl
 | N+1=>by show sN W N _+Zo 0*_=0;rw[FL W N];simp
theorem JX (W:Nat)(a:Int):∀N,sN W N (λm=>if m=0 then a else 0)<=a.natAbs
 | 0=>Y1 _
 | 1=>by show 0+a.natAbs*W ^ 0<=_;simp
 | N+2=>by
  show sN W (N+1) _+(if N+1=0 then a else 0).natAbs*_<=_
  rw[W9 (by omega)]
  have:=JX W a (N+1)
  simp
  exact this
theorem JY {W:Nat}{c:Int}(hc:c.natAbs<=W):∀N,sN W N (jq (-c))<=2*W
 | 0=>Y1 _
 | 1=>by show 0+(jq (-c) 0).natAbs*W ^ 0<=_;rw[show jq (-c) 0=-(-c) from rfl];simp;omega
 | 2=>by
  show 0+(jq (-c) 0).natAbs*W ^ 0+(jq (-c) 1).natAbs*W ^ 1<=_
  rw[show jq (-c) 0=-(-c) from rfl,show jq (-c) 1=1 from rfl]
  simp;omega
 | N+3=>by
  show sN W (N+2) _+(jq (-c) (N+2)).natAbs*_<=_
  have e:jq (-c) (N+2)=0:=by unfold L2.jq;rw[W9 (by omega),W9 (by omega)]
  rw[e];have:=JY hc (N+2)
  simp
  exact this
theorem N9 {W:Nat}{c:Int}(hc:c.natAbs<=W):∀(f:List Int) (N:Nat),sN W N (aq (fh c f))<=sN (2*W) f.length (aq f)
 | [],N=>by rw[IY,FL];exact Y1 _
 | a::r,N=>by
  rw[List.length_cons,FJ];have h1:=DR (W:=W) (a:=cv (aq (fh c r)) (jq (-c))) (b:=λm=>if m=0 then a else 0) (c:=aq (fh c (a::r))) (λj=>vH c a r j) N
  have h2:=N8 (W:=W) (L:=(fh c r).length) (a:=aq (fh c r)) (g:=jq (-c)) (λj hj=>bF hj) N
  have h3:=N9 hc r (fh c r).length;have h4:=JY hc N;have h5:=JX W a N;have h6:=Zi h3 h4;rw[Wf (sN (2*W) r.length (aq r))] at h6;omega
theorem JZ {W:Nat}{h:Fn}(n:Nat):∀N,N<=n+1->sN (2*W) N h<=2 ^ n*sN W N h
 | 0,_=>Y1 _
 | N+1,hN=>by
  show sN (2*W) N h+(h N).natAbs*(2*W) ^ N<=2 ^ n*(sN W N h+(h N).natAbs*W ^ N)
  have h1:=JZ (W:=W) (h:=h) n N (by omega)
  have h2:2 ^ N<=2 ^ n:=Y2 (by decide) (by omega)
  have h3:=Yx ((h N).natAbs*W ^ N) h2;rw[Nat.mul_pow,W8];have:(h N).natAbs*(2 ^ N*W ^ N)=2 ^ N*((h N).natAbs*W ^ N):=by ac_rfl
  omega
theorem J1 (c:Int):∀(f:List Int) (n:Nat),f.length=n+1->aq f n=1->Top (aq (fh c f)) n
 | [],n,h,_=>by cases h
 | [a],n,h,e=>by
  have hn:n=0:=by simp at h;omega
  subst hn;have ha:a=1:=e;have e2:aq (fh c [a])=λm=>if m=0 then a else 0:=funext λm=>by
   rw[vH,IY];have:cv (λ_=>0) (L2.jq (-c)) m=0:=by
    show cu (m+1) (λi=>(0:Int)*_)=0
    rw[show(λi=>(0:Int)*L2.jq (-c) (m-i))=λ_=>0 from funext λi=>Z1 _]
    exact dF λ_ _=>rfl
   rw[this,Zn]
  rw[e2];exact⟨by rw[Ja rfl];exact ha,λm hm=>by rw[W9 (by omega)]⟩
 | a::b::r,n,h,e=>by
  cases n with
  | zero=>simp at h
  | succ n=>
   have ih:=J1 c (b::r) n (by simpa using h) e
   have hl:Top (L2.jq (-c)) 1:=⟨rfl,λm hm=>by unfold L2.jq;rw[W9 (by omega),W9 (by omega)]⟩
   have t:=ih.mul hl;exact⟨by rw[vH,W9 (by omega),Zm];exact t.one,λm hm=>by rw[vH,W9 (by omega),Zm];exact t.top m hm⟩
theorem Pw.shift {c:Int}(h:Pw r f n)(hc:c.natAbs<=2 ^ 40):Pw (r+1) (fh c f) n:=by
 have t:=J1 c f n h.len h.top.one;have nn:Norm (fh c f):=wH _ _;have hl:=G1 nn t;refine⟨hl,⟨(λz=>by rw[z] at hl;cases hl),by rw[hl];exact t.one⟩,?_⟩
 have h1:=N9 hc f (n+1);rw[h.len] at h1;have h2:=JZ (W:=2 ^ 40) (h:=aq f) n (n+1) (Yd _);refine Yn h1 (Yn h2 (Yn (Zg _ h.nm) ?_))
 rw[<- Nat.mul_pow,show 40+(r+1)=40+r+1 by omega,Z2 2 (40+r),Wf]
 exact Yd _
theorem Pw.wb (h:Pw r f n):wb (2 ^ 40) (2 ^ (r*n)*(2 ^ 40) ^ n) (aq f):=λj=>by
 have e:(2 ^ (40+r)) ^ n=2 ^ (r*n)*(2 ^ 40) ^ n:=by
  rw[Zw,Nat.mul_pow,Wf,<- Wp 2 r n]
 rw[<- e];by_cases c:j<n+1
 ·exact Yn (FH c) h.nm
 ·rw[h.hi (by omega)];simp
theorem Pw.bd (h:Pw r f n)(j:Nat):(aq f j).natAbs<=2 ^ ((40+r)*n):=by
 rw[Wp];by_cases c:j<n+1
 ·exact Yn (Nat.le_mul_of_pos_right _ (Zu (by decide))) (Yn (FH (W:=2 ^ 40) c) h.nm)
 ·rw[h.hi (by omega)];exact Y1 _
theorem Pw.GK (h:Pw r f n):fY ((40+r)*n+1) f:=wo λj _=>Z8 (h.bd j) (Wj (by decide) (by omega))
theorem Pw.ent (h:Pw 2 f n)(n1:1<=n)(n6:n<=6){g:List Int}(lg:g.length<=7)(bg:∀k,(aq g k).natAbs<=2 ^ 255){R:Nat->Fn}(hR:Rows (aq f) n (aq g) R):∀i j,i<=n->(R i j).natAbs<=2 ^ 1100:=by
 intro i j hi;have bgw:L2.wb (2 ^ 40) (2 ^ 255*(2 ^ 40) ^ 7) (aq g):=λk=>by
  by_cases c:k<g.length
  ·exact Zi (bg k) (Y2 (by decide) (by omega))
  ·rw[bF (by omega)];simp
 refine Yn (GZ h.top n1 (W:=2 ^ 40) (by decide) h.wb (λm hm=>bF hm) bgw hR i j) ?_
 have e1:1+2 ^ (2*n)<=2 ^ 13:=by
  have:2 ^ (2*n)<=2 ^ 12:=Y2 (by decide) (by omega)
  omega
 have e2:(1+2 ^ (2*n)) ^ g.length<=(2 ^ 13) ^ 7:=Yn (Z7 e1 _) (Y2 (by decide) lg)
 have e3:(2 ^ 40*(1+2 ^ (2*n))) ^ i<=(2 ^ 53) ^ 6:=by
  refine Yn (Z7 (Zg _ e1) _) ?_
  rw[<- Zw];exact Y2 (by decide) (by omega)
 refine Yn (Zi (show g.length<=2 ^ 3 by omega) (Zi (Zg _ e2) e3)) ?_
 have e4:2 ^ 3*(2 ^ 255*(2 ^ 40) ^ 7*(2 ^ 13) ^ 7*(2 ^ 53) ^ 6)=2 ^ (3+(255+40*7+13*7+53*6)):=by
  rw[<- Wp,<- Wp,<- Wp,<- Zw,<- Zw,<- Zw,<- Zw]
 rw[e4];exact Y2 (by decide) (by decide)
theorem Pw.Um (h:Pw 2 f n)(n6:n<=6)(j:Nat):(aq f j).natAbs<=2 ^ 252:=Yn (h.bd j) (Y2 (by decide) (by omega))
theorem Pw.P8 (h:Pw 2 f n)(n6:n<=6):fY 253 f:=h.GK.mono (by omega)
theorem Pw.bdl (h:Pw 2 f n)(n6:n<=6)(k:Nat):(aq (dl f) k).natAbs<=2 ^ 255:=by
 rw[vG];by_cases c:k+1<n+1
 ·rw[Zh]
  refine Yn (Zi (show((k+1:Nat):Int).natAbs<=2 ^ 3 by omega) (h.Um n6 (k+1))) ?_
  rw[<- Zw];exact Y2 (by decide) (by decide)
 ·rw[h.hi (by omega),Y6];exact Y1 _
end L2
namespace L2
open Alg Lean.Grind
def FN (v:Vc):Vc:=λj=>if j=0 then 0 else v (j-1)
theorem zu {T:Nat->Vc}{c v:Vc}{i:Nat}:∀n,(∀k,k<n->∀j,k<j->T k j=0)->(∀k,k<n->T k k≠0)->(∀j,v j=sm n c T j)->i<n->(∀j,i<j->v j=0)->∀j,v j=sm (i+1) c T j
 | 0,_,_,_,hi,_=>by omega
 | n+1,jB,nz,e,hi,h0=>by
  by_cases h:i=n
  ·rw[h];exact e
  ·have e1:v n=c n*T n n:=by
    rw[e n];show sm n c T n+c n*T n n=_
    rw[jc (q:=0) λk hk=>jB k (by omega) n hk];omega
   have e2:c n=0:=by
    rw[h0 n (by omega)] at e1
    rcases Int.mul_eq_zero.mp e1.symm with z|z
    ·exact z
    ·exact Jg z (nz n (by omega))
   refine zu n (λk hk=>jB k (by omega)) (λk hk=>nz k (by omega)) (λj=>?_) (by omega) h0
   rw[e j];show sm n c T j+c n*T n j=_
   rw[e2];simp
theorem gM.add {n:Nat}{T:Nat->Vc}{v w:Vc}(a:Int):gM n T v->gM n T w->gM n T λj=>a*v j+w j:=λ⟨c,e⟩ ⟨d,g⟩=>⟨λi=>a*c i+d i,λj=>by rw[jb,<- e,<- g]⟩
theorem gM.row {n:Nat}{T:Nat->Vc}{i:Nat}(hi:i<n):gM n T (T i):=⟨λk=>if k=i then 1 else 0,λj=>(gT hi).symm⟩
theorem gM.of {n:Nat}{T:Nat->Vc}{v w:Vc}(h:gM n T v)(e:∀j,w j=v j):gM n T w:=by
 obtain⟨c,g⟩:=h;exact⟨c,λj=>by rw[e j,g j]⟩
theorem gM.cut {n:Nat}{T:Nat->Vc}(st:dB n T){v:Vc}{i:Nat}(h:gM n T v)(hi:i<n)(h0:∀j,i<j->v j=0):∃a:Int,v i=a*T i i/\gM n T (λj=>v j-a*T i j)/\∀j,i<=j->v j-a*T i j=0:=by
 obtain⟨c,e⟩:=id h;have e1:=zu n st.jB st.nz e hi h0;have e2:v i=c i*T i i:=by
  rw[e1 i];show sm i c T i+c i*T i i=_
  rw[jc (q:=0) λk hk=>st.jB k (by omega) i hk];omega
 refine⟨c i,e2,?_,λj hj=>?_⟩
 ·exact gM.of (gM.add (-(c i)) (gM.row hi) h) λj=>by grind
 ·by_cases z:j=i
  ·rw[z,e2];omega
  ·rw[h0 j (by omega),st.jB i hi j (by omega)];simp
section
variable {R:Type} [CommRing R] {f:Fn} {n p d:Nat} {φ:Vc->R} {ip:R} {T:Nat->Vc}
theorem s_.shift (X:Xr f n p φ ip)(L:s_ n p φ ip d T){v:Vc}(hv:gM n T v)(h0:∀j,n-1<=j->v j=0)(hn:2<=n):gM n T (FN v):=by
 have B:=X.sE;obtain⟨c,e⟩:=hv;have hmul:φ (un 1)*φ v=φ (FN v):=by
  rw[B.Ak (c:=λa b=>tk f n (a+b)) X.mul (by omega)]
  refine B.sup _ _ λk hk=>?_
  rw[dh];have:∀b,b<n->v b*tk f n (1+b) k=v b*(if b+1=k then 1 else 0):=λb hb=>by
   by_cases z:b=n-1
   ·rw[h0 b (by omega)];simp
   ·rw[Nat.add_comm,nN (b+1) (by omega)]
    show v b*(if k=b+1 then 1 else 0)=_
    by_cases q:b+1=k
    ·rw[Ja q,Ja q.symm]
    ·rw[W9 q,W9 λz=>q z.symm]
  rw[aD this,<- dh n v (λb k=>if b+1=k then 1 else 0) k]
  unfold FN;cases k with
  | zero=>rw[Ja rfl];exact jc (q:=0) λi _=>W9 (by omega)
  | succ k=>
   rw[W9 (by omega),Wa]
   have:=BS (x:=v) (j:=k) n
   rw[Ja (by omega)] at this
   rw[<- this];rw[dh,dh];refine aD λi hi=>?_
   show v i*(if i+1=k+1 then (1:Int) else 0)=v i*if k=i then 1 else 0
   by_cases q:i=k
   ·rw[Ja (by omega),Ja q.symm]
   ·rw[W9 (by omega),W9 λz=>q z.symm]
 have hel:iz n φ ip d T c=ip ^ d*φ v:=by
  unfold iz;rw[B.sup (λj=>sm n c T j) v λj _=>(e j).symm]
 obtain⟨c',hc'⟩:=L.sub.mul (L.all (un 1)) ⟨c,rfl⟩;rw[hel] at hc';have X_:zc R ((p:Int) ^ d)*ip ^ d=1:=jM X.inv d;have key:φ (FN v)=φ λj=>sm n c' T j:=by
  have h1:ip ^ d*φ (FN v)=ip ^ d*φ λj=>sm n c' T j:=by
   show _=iz n φ ip d T c'
   rw[<- hc',<- hmul];grind
  have h2:zc R ((p:Int) ^ d)*(ip ^ d*φ (FN v))=zc R ((p:Int) ^ d)*(ip ^ d*φ λj=>sm n c' T j):=by rw[h1]
  grind
 refine⟨c',λj=>?_⟩
 by_cases hj:j<n
 ·exact B.inj _ _ key j hj
 ·rw[jc (q:=0) λi hi=>L.st.jB i hi j (by omega)]
  unfold FN;rw[W9 (by omega),h0 (j-1) (by omega)]
theorem s_.lead (X:Xr f n p φ ip)(L:s_ n p φ ip d T)(hp:2<=p){s:Nat->Nat}(es:∀i,i<n->T i i=(p:Int) ^ s i):∀i,i<n->(∀k,k<i->s i<=s k)/\∀v,gM n T v->(∀j,i<j->v j=0)->∀j,(p:Int) ^ s i ∣ v j
 | 0,hi=>by
  refine⟨λk hk=>by omega,λv hv h0 j=>?_⟩
  obtain⟨a,e,_,_⟩:=gM.cut L.st hv hi h0;by_cases z:j=0
  ·rw[z,e,es 0 hi];exact⟨a,Z0 _ _⟩
  ·rw[h0 j (by omega)];exact⟨0,by simp⟩
 | i+1,hi=>by
  obtain⟨mono,ih⟩:=s_.lead X L hp es i (by omega)
  have jB:=L.st.jB;have Uu:∀j,i<j->T i j=0:=jB i (by omega)
  have hdT:=ih (T i) (gM.row (by omega)) Uu
  have hsh:=s_.shift X L (gM.row (T:=T) (show i<n by omega)) (λj hj=>jB i (by omega) j (by omega)) (by omega)
  have YA:∀j,i+1<j->FN (T i) j=0:=λj hj=>by unfold FN;rw[W9 (by omega)];exact Uu (j-1) (by omega)
  obtain⟨a,ea,_,_⟩:=gM.cut L.st hsh hi YA;have e1:FN (T i) (i+1)=(p:Int) ^ s i:=by unfold FN;rw[W9 (by omega),Wa,es i (by omega)]
  rw[e1,es (i+1) hi] at ea;have le:s (i+1)<=s i:=xq hp ⟨a,by rw[ea];ac_rfl⟩
  have VI:∀k:Nat,(p:Int) ^ k≠0:=λk=>Ww (by omega)
  have hm:(p:Int) ^ s i=(p:Int) ^ (s i-s (i+1))*(p:Int) ^ s (i+1):=by rw[<- Wo,Nat.sub_add_cancel le]
  have VJ:∀j,(p:Int) ^ s i ∣ FN (T i) j:=λj=>by
   unfold FN;split
   ·exact⟨0,by simp⟩
   ·exact hdT _
  have hw:gM n T λj=>(p:Int) ^ (s i-s (i+1))*T (i+1) j-FN (T i) j:=
   gM.of (gM.add (-1) hsh (gM.add ((p:Int) ^ (s i-s (i+1))) (gM.row (T:=T) hi) (v:=T (i+1)) (w:=λ_=>0) ⟨λ_=>0,λj=>fP.symm⟩)) λj=>by grind
  have hwd:=ih _ hw λj hj=>by
   by_cases z:j=i+1
   ·subst z
    rw[e1,es (i+1) hi,hm];omega
   ·rw[jB (i+1) hi j (by omega),YA j (by omega)];simp
  have hTd:∀j,(p:Int) ^ s (i+1) ∣ T (i+1) j:=λj=>by
   obtain⟨x,hx⟩:=hwd j;obtain⟨y,hy⟩:=VJ j;have h1:(p:Int) ^ (s i-s (i+1))*T (i+1) j=(p:Int) ^ (s i-s (i+1))*((p:Int) ^ s (i+1)*(x+y)):=by
    have:(p:Int) ^ (s i-s (i+1))*T (i+1) j=(p:Int) ^ s i*(x+y):=by rw[Int.mul_add,<- hx,<- hy];omega
    rw[this,hm];ac_rfl
   exact⟨x+y,Zd (VI _) h1⟩
  refine⟨λk hk=>?_,λv hv h0 j=>?_⟩
  ·by_cases z:k=i
   ·rw[z];exact le
   ·exact Yn le (mono k (by omega))
  ·obtain⟨b,eb,hv',h0'⟩:=gM.cut L.st hv hi h0
   obtain⟨x,hx⟩:=ih _ hv' (λj hj=>h0' j (by omega)) j
   obtain⟨y,hy⟩:=hTd j;refine⟨b*y+(p:Int) ^ (s i-s (i+1))*x,?_⟩
   have:v j=b*T (i+1) j+(p:Int) ^ s i*x:=by omega
   rw[this,hy,hm];grind
theorem s_.J2 (X:Xr f n p φ ip)(L:s_ n p φ ip d T)(hp:2<=p){s:Nat->Nat}(es:∀i,i<n->T i i=(p:Int) ^ s i){i:Nat}(hi:i<n)(j:Nat):T i i ∣ T i j:=by
 rw[es i hi];exact(s_.lead X L hp es i hi).2 (T i) (gM.row hi) (L.st.jB i hi) j
end
theorem An {p:Nat}(hp:p∈PR){a:Int}(h:¬ (p:Int) ∣ a):∃y u:Int,a*y=1+p*u:=by
 have p1:=cP hp;have h0:0<=a % (p:Int):=Zj _ (by omega)
 have h1:a % (p:Int)<p:=Zf _ (by omega)
 obtain⟨y,_,e⟩:=Ab p hp (a % (p:Int)).toNat (by omega) (λz=>h (Int.dvd_of_emod_eq_zero (by omega)))
 have e2:((a % (p:Int))*(y:Int)) % (p:Int)=1 % (p:Int):=by
  have:=Je (λn:Nat=>(n:Int)) e
  simp only[Int.natCast_emod,Zs,We h0] at this
  exact this
 have e3:(p:Int) ∣ (a % (p:Int))*(y:Int)-1:=Int.dvd_of_emod_eq_zero (by rw[Int.sub_emod,e2];simp)
 obtain⟨u,hu⟩:=e3;have ha:=Z3 a (p:Int);generalize a % (p:Int)=r at*;generalize a / (p:Int)=t at*;exact⟨y,u+t*y,by rw[<- ha];grind⟩
theorem G2 {p:Nat}(hp:p∈PR){a b:Int}(h:(p:Int) ∣ a*b):(p:Int) ∣ a\/(p:Int) ∣ b:=by
 by_cases c:(p:Int) ∣ a
 ·exact .inl c
 ·right
  obtain⟨y,u,e⟩:=An hp c;obtain⟨w,hw⟩:=h;exact⟨y*w-u*b,by grind⟩
theorem J3 {q:Int}{c:Vc}{A:Nat->Vc}{j:Nat}:∀n,(∀i,i<n->q ∣ A i j)->q ∣ sm n c A j
 | 0,_=>⟨0,by show(0:Int)=_;simp⟩
 | n+1,h=>by
  obtain⟨x,hx⟩:=J3 n (c:=c) λi hi=>h i (by omega)
  obtain⟨y,hy⟩:=h n (by omega)
  exact⟨x+c n*y,by show sm n c A j+c n*A n j=_;rw[hx,hy];grind⟩
theorem J4 {a b:Int}{c:Vc}{A D:Nat->Vc}{j k:Nat}:∀n,(∀i,i<n->D i j=a*A i j-A i k*b)->sm n c D j=a*sm n c A j-sm n c A k*b
 | 0,_=>by show(0:Int)=a*0-0*b;simp
 | n+1,h=>by
  show sm n c D j+c n*D n j=a*(sm n c A j+c n*A n j)-(sm n c A k+c n*A n k)*b
  rw[J4 n λi hi=>h i (by omega),h n (by omega)];grind
theorem Ao {p:Nat}(hp:p∈PR):∀(n:Nat) (A:Nat->Vc),∃c:Vc,(∃i,i<=n/\¬ (p:Int) ∣ c i)/\∀j,j<n->(p:Int) ∣ sm (n+1) c A j
 | 0,A=>⟨λ_=>1,⟨0,Yd _,λz=>by have:=cP hp;have z:(p:Int) ∣ 1:=z;have:=Int.le_of_dvd (by decide) z;omega⟩,λj hj=>Jg hj (Zb _)⟩
 | n+1,A=>by
  by_cases all:∀i,i<=n+1->(p:Int) ∣ A i n
  ·obtain⟨c,⟨i,hi,hc⟩,h⟩:=Ao hp n A
   refine⟨λi=>if i=n+1 then 0 else c i,⟨i,by omega,by show ¬ (p:Int) ∣ (if i=n+1 then 0 else c i);rw[W9 (by omega)];exact hc⟩,λj hj=>?_⟩
   by_cases z:j=n
   ·rw[z];exact J3 _ λi hi=>all i (by omega)
   ·show(p:Int) ∣ sm (n+1) (λi=>if i=n+1 then 0 else c i) A j+(if n+1=n+1 then 0 else c (n+1))*A (n+1) j
    rw[Ja rfl,Z1,Zm,cW (d':=c) (R':=A) (λi hi=>W9 (by omega)) λ_ _=>rfl]
    exact h j (by omega)
  ·obtain⟨r,hr⟩:=Classical.not_forall.mp all
   obtain⟨hr1,hr2⟩:=Classical.not_imp.mp hr;obtain⟨B,hB⟩:∃B:Nat->Vc,B=λi=>if i=r then A (n+1) else A i:=⟨_,rfl⟩
   obtain⟨c,⟨i0,hi0,hc⟩,h⟩:=Ao hp n λi j=>A r n*B i j-B i n*A r j
   obtain⟨s,hs⟩:∃s,s=- sm (n+1) c B n:=⟨_,rfl⟩;have key:∀j,sm (n+2) (λi=>if i=r then s else if i=n+1 then c r*A r n else c i*A r n) A j=A r n*sm (n+1) c B j-sm (n+1) c B n*A r j:=by
    intro j;have e0:A r n*sm (n+1) c B j=sm (n+1) (λi=>c i*A r n) B j:=by
     have:=jb (n:=n+1) (A r n) (d:=c) (e:=λ_=>0) (R:=B) (j:=j)
     rw[fP,Zm] at this;rw[<- this];exact cW (λi _=>by show A r n*c i+0=_;rw[Zm,Z0]) λ_ _=>rfl
    rw[e0];show sm (n+1) (λi=>if i=r then s else if i=n+1 then c r*A r n else c i*A r n) A j+(if n+1=r then s else if n+1=n+1 then c r*A r n else c (n+1)*A r n)*A (n+1) j=_
    by_cases z:n+1=r
    ·rw[Ja z,cW (d':=λi=>c i*A r n) (R':=B) (λi hi=>by rw[W9 (by omega),W9 (by omega)]) λi hi=>by rw[hB];simp only[];rw[W9 (by omega)],hs,z]
     grind
    ·rw[W9 z,Ja rfl]
     have q:r<n+1:=by omega
     have e1:=DN q (c:=λi=>if i=r then 0 else c i*A r n) (Ja rfl) (T:=A) (lead:=A r) (a:=s) j
     have e2:=DN q (c:=λi=>if i=r then 0 else c i*A r n) (Ja rfl) (T:=A) (lead:=A (n+1)) (a:=c r*A r n) j
     have e3:sm (n+1) (λi=>if i=r then s else if i=n+1 then c r*A r n else c i*A r n) A j=sm (n+1) (λi=>if i=r then s else if i=r then 0 else c i*A r n) (λi=>if i=r then A r else A i) j:=by
      refine cW (λi hi=>?_) λi hi=>?_
      ·by_cases w:i=r
       ·rw[Ja w,Ja w]
       ·rw[W9 w,W9 w,W9 w,W9 (by omega)]
      ·by_cases w:i=r
       ·rw[Ja w,w]
       ·rw[W9 w]
     have e4:sm (n+1) (λi=>c i*A r n) B j=sm (n+1) (λi=>if i=r then c r*A r n else if i=r then 0 else c i*A r n) (λi=>if i=r then A (n+1) else A i) j:=by
      refine cW (λi hi=>?_) λi hi=>by rw[hB]
      by_cases w:i=r
      ·rw[Ja w,w]
      ·rw[W9 w,W9 w]
     rw[e3,e4,e1,e2,hs];grind
   refine⟨λi=>if i=r then s else if i=n+1 then c r*A r n else c i*A r n,⟨if i0=r then n+1 else i0,by split <;> omega,?_⟩,λj hj=>?_⟩
   ·intro z
    have e:(if (if i0=r then n+1 else i0)=r then s else if (if i0=r then n+1 else i0)=n+1 then c r*A r n else c (if i0=r then n+1 else i0)*A r n)=c i0*A r n:=by
     by_cases w:i0=r
     ·rw[Ja w,W9 (by omega),Ja rfl,w]
     ·rw[W9 w,W9 w,W9 (by omega)]
    have z:(p:Int) ∣ c i0*A r n:=by rw[<- e];exact z
    rcases G2 hp z with z|z
    ·exact hc z
    ·exact hr2 z
   ·rw[key j]
    by_cases z:j=n
    ·rw[z];exact⟨0,by grind⟩
    ·have:=h j (by omega)
     rw[J4 (a:=A r n) (b:=A r j) (A:=B) (k:=n) (n+1) λi _=>rfl] at this
     exact this
section
variable {R:Type} [CommRing R] {O:R->Prop}
def qX (O:R->Prop)(p a:R):Prop:=∃w,O w/\a=p*w
theorem qX.add (h:c_ O){p a b:R}:qX O p a->qX O p b->qX O p (a+b):=λ⟨x,hx,e⟩ ⟨y,hy,g⟩=>⟨x+y,h.add hx hy,by rw[e,g];grind⟩
theorem qX.mul (h:c_ O){p a b:R}(hb:O b):qX O p a->qX O p (b*a):=λ⟨x,hx,e⟩=>⟨b*x,h.mul hb hx,by rw[e];grind⟩
theorem qX.sub (h:c_ O){p a b:R}:qX O p a->qX O p b->qX O p (a-b):=λ⟨x,hx,e⟩ ⟨y,hy,g⟩=>⟨x+-y,h.add hx (h.neg hy),by rw[e,g];grind⟩
theorem P9 (h:c_ O){p:R}{c:Vc}{o:Nat->R}{i0:Nat}:∀N,i0<N->qX O p (sR N c o)->(∀i,i<N->i≠i0->qX O p (zc R (c i)*o i))->qX O p (zc R (c i0)*o i0):=by
 have z:∀N,N<=i0->(∀i,i<N->i≠i0->qX O p (zc R (c i)*o i))->qX O p (sR N c o):=by
  intro N;induction N with
  | zero=>intro _ _;exact⟨0,h.zero,by show(0:R)=_;grind⟩
  | succ N ih=>intro hN ha;exact qX.add h (ih (by omega) λi hi=>ha i (by omega)) (ha N (by omega) (by omega))
 intro N;induction N with
 | zero=>intro hi;omega
 | succ N ih=>
  intro hi hs ha;have e:sR (N+1) c o=sR N c o+zc R (c N)*o N:=rfl;by_cases q:i0=N
  ·have h1:=z N (by omega) λi hi'=>ha i (by omega)
   have:=qX.sub h hs h1
   rw[e,show sR N c o+zc R (c N)*o N-sR N c o=zc R (c N)*o N by grind] at this
   rw[q];exact this
  ·refine ih (by omega) ?_ λi hi'=>ha i (by omega)
   have:=qX.sub h hs (ha N (by omega) (λw=>q w.symm))
   rw[e,show sR N c o+zc R (c N)*o N-zc R (c N)*o N=sR N c o by grind] at this
   exact this
variable {n:Nat} {el:Vc->R}
theorem jK (a:R)(m:Nat):∀k,a ^ (m+k)=a ^ m*a ^ k
 | 0=>by rw[Wy,b7];grind
 | k+1=>by rw[<- Nat.add_assoc,bJ,jK a m k,bJ];grind
theorem sF {P:Nat->Prop}:∀n,P n->∃i,i<=n/\P i/\∀j,j<i->¬ P j
 | n,h=>by
  by_cases c:∃j,j<n/\P j
  ·obtain⟨j,hj,pj⟩:=c
   obtain⟨i,hi,pi,l⟩:=sF j pj;exact⟨i,by omega,pi,l⟩
  ·exact⟨n,Yd _,h,λj hj pj=>c ⟨j,hj,pj⟩⟩
theorem FO (B:nM n el)(h:c_ (Of el)){p:Nat}(hp:p∈PR){a:R}(ha:Of el a):∀m:Nat,qX (Of el) (nt R p) (a ^ m)->qX (Of el) (nt R p) (a ^ n)
 | m,hm=>by
  by_cases c:m<=n
  ·rw[show n=n-m+m by omega,jK]
   exact qX.mul h (h.pow ha _) hm
  ·obtain⟨v,hv⟩:=Classical.axiomOfChoice λi=>h.pow ha i
   obtain⟨c,⟨i1,hi1,hc1⟩,hr⟩:=Ao hp n v;obtain⟨i0,hi0,hc0,hl⟩:=sF (P:=λi=>¬ (p:Int) ∣ c i) i1 hc1
   have VL:qX (Of el) (nt R p) (sR (n+1) c λi=>a ^ i):=by
    have e:(sR (n+1) c λi=>a ^ i)=el λj=>sm (n+1) c v j:=by
     rw[B.sm (n+1)];exact gU (n+1) (λ_ _=>rfl) λi _=>hv i
    obtain⟨z,hz⟩:∃z:Vc,∀j,j<n->sm (n+1) c v j=(p:Int)*z j:=⟨λj=>sm (n+1) c v j / (p:Int),λj hj=>(Int.mul_ediv_cancel' (hr j hj)).symm⟩
    refine⟨el z,⟨z,rfl⟩,?_⟩
    rw[e,B.sup _ (λj=>(p:Int)*z j) hz,B.smul,cQ]
   have SR:qX (Of el) (nt R p) (sR (n+1) c λi=>a ^ (m-1-i0)*a ^ i):=by
    rw[<- kD];exact qX.mul h (h.pow ha _) VL
   have h1:=P9 (i0:=i0) h (n+1) (by omega) SR λi hi hne=>by
    by_cases q:i<i0
    ·obtain⟨u,hu⟩:=Classical.not_not.mp (hl i q)
     rw[hu,gu,cQ];exact⟨zc R u*(a ^ (m-1-i0)*a ^ i),h.mul (h.zc u) (h.mul (h.pow ha _) (h.pow ha _)),by grind⟩
    ·refine qX.mul h (h.zc _) ?_
     rw[<- jK,show m-1-i0+i=m-1-i0+i-m+m by omega,jK]
     exact qX.mul h (h.pow ha _) hm
   rw[<- jK,show m-1-i0+i0=m-1 by omega] at h1
   obtain⟨y,u,hy⟩:=An hp hc0;refine FO B h hp ha (m-1) ?_
   have h2:=qX.mul h (h.zc y) h1;have e:zc R y*(zc R (c i0)*a ^ (m-1))=a ^ (m-1)+nt R p*(zc R u*a ^ (m-1)):=by
    have:zc R (c i0*y)=1+nt R p*zc R u:=by rw[hy,qj,iB,gu,cQ]
    rw[gu] at this;grind
   rw[e] at h2;have h3:=qX.sub h h2 ⟨zc R u*a ^ (m-1),h.mul (h.zc u) (h.pow ha _),rfl⟩;rw[show a ^ (m-1)+nt R p*(zc R u*a ^ (m-1))-nt R p*(zc R u*a ^ (m-1))=a ^ (m-1) by grind] at h3
   exact h3
termination_by m=>m
theorem P_ {α:Type}{M:α->Prop}{Q:α->α->Prop}(h:∀a,M a->∃b,M b/\Q a b){a0:α}(h0:M a0):∃s:Nat->α,(∀i,M (s i))/\∀i,Q (s i) (s (i+1)):=by
 obtain⟨g,hg⟩:=Classical.axiomOfChoice λa:{ a // M a }=>h a.1 a.2
 let t:Nat->{ a // M a }:=λi=>Nat.rec ⟨a0,h0⟩ (λ_ x=>⟨g x,(hg x).1⟩) i
 exact⟨λi=>(t i).1,λi=>(t i).2,λi=>(hg (t i)).2⟩
theorem Aq (a b:R):∀m:Nat,(a*b) ^ m=a ^ m*b ^ m
 | 0=>by rw[b7,b7,b7];grind
 | m+1=>by rw[bJ,Aq a b m,bJ,bJ];grind
theorem N_ (a:R)(m:Nat):∀k:Nat,a ^ (m*k)=(a ^ m) ^ k
 | 0=>by rw[Nat.mul_zero,b7,b7]
 | k+1=>by rw[Wz,jK,N_ a m k,bJ]
theorem MX (B:nM n el)(h:c_ (Of el)){p:Nat}(hp:p∈PR){ip:R}(G0:nt R p*ip=1){k:Nat}(hq:n<=p ^ k)(hM:∀a,BR (Of el) (nt R p) (p ^ k) a->Of el a)
  {O':R->Prop} (h':c_ O') (sub:∀a,Of el a->O' a) {N:Nat} (fin:∀a,O' a->Of el (nt R p ^ N*a)) (a0:R) (ha0:O' a0):Of el a0:=by
 refine V? λna0=>?_
 have q1:1<=p ^ k:=Zu (by have:=cP hp;omega)
 have oP:Of el (nt R p):=h.nt p;obtain⟨j,_,pj,lj⟩:=sF (P:=λj=>Of el (nt R p ^ j*a0)) N (fin a0 ha0)
 have j1:j≠0:=λz=>na0 (by rw[z,b7] at pj;rw[show a0=1*a0 by grind];exact pj)
 have M1:O' (nt R p ^ (j-1)*a0)/\¬ Of el (nt R p ^ (j-1)*a0)/\Of el (nt R p*(nt R p ^ (j-1)*a0)):=by
  refine⟨h'.mul (h'.pow (sub _ oP) _) ha0,lj (j-1) (by omega),?_⟩
  have e:nt R p ^ j=nt R p ^ (j-1)*nt R p:=by rw[<- bJ];congr 1;omega
  have pj:Of el (nt R p ^ j*a0):=pj;rw[e] at pj;rw[show nt R p*(nt R p ^ (j-1)*a0)=nt R p ^ (j-1)*nt R p*a0 by grind]
  exact pj
 by_cases c:∃a,(O' a/\¬ Of el a/\Of el (nt R p*a))/\∀x,m8 (Of el) (nt R p) (p ^ k) x->Of el (x*a)
 ·obtain⟨a,⟨oa,na,pa⟩,ha⟩:=c
  refine na (hM a ⟨pa,λb hb=>?_⟩)
  have VM:Of el (a*b):=by have:=ha b hb;rw[show a*b=b*a by grind];exact this
  refine⟨VM,?_⟩
  obtain⟨w,ow,ew⟩:=hb.2;have key:qX (Of el) (nt R p) ((a*b) ^ (p ^ k*(N+1))):=by
   have e1:b ^ (p ^ k*(N+1))=nt R p*(nt R p ^ N*w ^ (N+1)):=by
    rw[N_,ew,Aq,bJ];grind
   have o1:=fin _ (h'.pow oa (p ^ k*(N+1)));refine⟨nt R p ^ N*a ^ (p ^ k*(N+1))*w ^ (N+1),h.mul o1 (h.pow ow _),?_⟩
   rw[Aq,e1];grind
  obtain⟨w2,ow2,ew2⟩:=FO B h hp VM _ key;refine⟨(a*b) ^ (p ^ k-n)*w2,h.mul (h.pow VM _) ow2,?_⟩
  have:(a*b) ^ (p ^ k)=(a*b) ^ (p ^ k-n)*(a*b) ^ n:=by rw[<- jK];congr 1;omega
  rw[this,ew2];grind
 ·have step:∀a,(O' a/\¬ Of el a/\Of el (nt R p*a))->∃b,(O' b/\¬ Of el b/\Of el (nt R p*b))/\∃x,m8 (Of el) (nt R p) (p ^ k) x/\b=x*a:=by
   intro a ha;refine V? λz=>c ⟨a,ha,λx hx=>V? λw=>z ⟨x*a,⟨h'.mul (sub _ hx.1) ha.1,w,?_⟩,x,hx,rfl⟩⟩
   rw[show nt R p*(x*a)=x*(nt R p*a) by grind]
   exact h.mul hx.1 ha.2.2
  obtain⟨s,hs,hx⟩:=P_ step M1;have far:∀i d,∃z,m8 (Of el) (nt R p) (p ^ k) z/\s (i+d+1)=z*s i:=by
   intro i d;induction d with
   | zero=>
    obtain⟨x,VN,e⟩:=hx i;exact⟨x,VN,e⟩
   | succ d ih=>
    obtain⟨z,hz,e⟩:=ih;obtain⟨x,VN,e2⟩:=hx (i+d+1);refine⟨x*z,hz.mul h VN.1,?_⟩
    rw[show i+(d+1)+1=i+d+1+1 by omega,e2,e];grind
  obtain⟨v,hv⟩:=Classical.axiomOfChoice λi=>(hs i).2.2
  obtain⟨c,⟨i1,hi1,hc1⟩,hr⟩:=Ao hp n v;obtain⟨i0,hi0,hc0,hl⟩:=sF (P:=λi=>¬ (p:Int) ∣ c i) i1 hc1
  have rel:Of el (sR (n+1) c s):=by
   have e:nt R p*sR (n+1) c s=el λj=>sm (n+1) c v j:=by
    rw[kD,B.sm (n+1)];exact gU (n+1) (λ_ _=>rfl) λi _=>hv i
   obtain⟨z,hz⟩:∃z:Vc,∀j,j<n->sm (n+1) c v j=(p:Int)*z j:=⟨λj=>sm (n+1) c v j / (p:Int),λj hj=>(Int.mul_ediv_cancel' (hr j hj)).symm⟩
   rw[B.sup _ (λj=>(p:Int)*z j) hz,B.smul,cQ] at e
   exact⟨z,by grind⟩
  have split:∀M,i0<M->∃y o,m8 (Of el) (nt R p) (p ^ k) y/\Of el o/\sR M c s=zc R (c i0)*s i0+y*s i0+o:=by
   have low:∀M,M<=i0->Of el (sR M c s):=by
    intro M;induction M with
    | zero=>intro _;exact h.zero
    | succ M ih=>
     intro hM';obtain⟨u,hu⟩:=Classical.not_not.mp (hl M (by omega))
     refine h.add (ih (by omega)) ?_
     show Of el (zc R (c M)*s M)
     rw[hu,gu,cQ,show nt R p*zc R u*s M=zc R u*(nt R p*s M) by grind]
     exact h.mul (h.zc u) (hs M).2.2
   intro M;induction M with
   | zero=>intro z;omega
   | succ M ih=>
    intro hM';have e:sR (M+1) c s=sR M c s+zc R (c M)*s M:=rfl;by_cases q:M=i0
    ·refine⟨0,sR M c s,m8.zero h (by omega),low M (by omega),?_⟩
     rw[e,q];grind
    ·obtain⟨y,o,hy,ho,e2⟩:=ih (by omega)
     obtain⟨z,hz,e3⟩:=far i0 (M-i0-1);rw[show i0+(M-i0-1)+1=M by omega] at e3
     refine⟨y+zc R (c M)*z,o,hy.add h hp (hz.mul h (h.zc _)),ho,?_⟩
     rw[e,e2,e3];grind
  obtain⟨y,o,hy,ho,e⟩:=split (n+1) (by omega)
  obtain⟨u,t,hu⟩:=An hp hc0;have pa:=(hs i0).2.2;have na:=(hs i0).2.1;rw[e] at rel;generalize s i0=a at rel pa na;have r1:Of el (zc R (c i0)*a+y*a):=by
   have:=h.add rel (h.neg ho)
   rw[show zc R (c i0)*a+y*a+o+-o=zc R (c i0)*a+y*a by grind] at this
   exact this
  have hY:m8 (Of el) (nt R p) (p ^ k) (-(zc R u*y)):=(hy.mul h (h.zc u)).neg h;have r2:Of el (a-(-(zc R u*y))*a):=by
   have h1:=h.add (h.mul (h.zc u) r1) (h.neg (h.mul (h.zc t) pa));have e2:zc R (c i0)*zc R u=1+nt R p*zc R t:=by rw[<- gu,hu,qj,iB,gu,cQ]
   rw[show zc R u*(zc R (c i0)*a+y*a)+-(zc R t*(nt R p*a))=a-(-(zc R u*y))*a by grind] at h1
   exact h1
  generalize -(zc R u*y)=Y at hY r2;have r3:∀m:Nat,Of el (a-Y ^ m*a):=by
   intro m;induction m with
   | zero=>rw[b7,show a-1*a=0 by grind];exact h.zero
   | succ m ih=>
    have h1:=h.add ih (h.mul (h.pow hY.1 m) r2);rw[show a-Y ^ m*a+Y ^ m*(a-Y*a)=a-Y ^ (m+1)*a by rw[bJ];grind] at h1
    exact h1
  obtain⟨w,ow,ew⟩:=hY.2;have h1:=h.add (r3 (p ^ k)) (h.mul ow pa);rw[ew,show a-nt R p*w*a+w*(nt R p*a)=a by grind] at h1
  exact na h1
end
def prd (f:Fn)(n:Nat)(u v:Vc):Vc:=λk=>sm n u (λa k=>sm n v (λb=>tk f n (a+b)) k) k
section
variable {R:Type} [CommRing R]
inductive Cl (O P:R->Prop):R->Prop where
 | mul {a b:R}:O a->P b->Cl O P (a*b)
 | add {a b:R}:Cl O P a->Cl O P b->Cl O P (a+b)
 | neg {a:R}:Cl O P a->Cl O P (-a)
theorem Cl.sub {O P:R->Prop}(h:c_ O)(k:c_ P):c_ (Cl O P) where
 one:=by rw[show(1:R)=1*1 by grind];exact .mul h.one k.one
 add:=.add
 neg:=.neg
 mul:=by
  intro a b ha hb;induction ha with
  | @mul x y hx hy=>
   induction hb with
   | @mul u v hu hv=>rw[show x*y*(u*v)=x*u*(y*v) by grind];exact .mul (h.mul hx hu) (k.mul hy hv)
   | @add u v _ _ i1 i2=>rw[show x*y*(u+v)=x*y*u+x*y*v by grind];exact .add i1 i2
   | @neg u _ i=>rw[show x*y*-u=-(x*y*u) by grind];exact .neg i
  | @add x y _ _ i1 i2=>rw[show(x+y)*b=x*b+y*b by grind];exact .add i1 i2
  | @neg x _ i=>rw[show -x*b=-(x*b) by grind];exact .neg i
variable {f:Fn} {n p d d':Nat} {φ:Vc->R} {ip:R} {T T':Nat->Vc}
end
theorem BV {M:Int}{a b:Nat->Int}:∀n,(∀i,i<n->M ∣ b i-a i)->M ∣ bw n b-bw n a
 | 0,_=>⟨0,by show(0:Int)-0=_;simp⟩
 | n+1,h=>by
  obtain⟨x,hx⟩:=BV n λi hi=>h i (by omega)
  obtain⟨y,hy⟩:=h n (by omega)
  exact⟨x+y,by show bw n b+b n-(bw n a+a n)=_;rw[Int.mul_add];omega⟩
theorem BW {M a b c e:Int}(h:M ∣ b-a)(k:M ∣ e-c):M ∣ b*e-a*c:=by
 obtain⟨x,hx⟩:=h;obtain⟨y,hy⟩:=k;have e1:b=a+M*x:=by omega
 have e2:e=c+M*y:=by omega
 exact⟨a*y+x*c+M*x*y,by rw[e1,e2];grind⟩
theorem BX {M:Int}:∀(n:Nat) {A B:Mx},(∀i j,i<n->j<n->M ∣ B i j-A i j)->M ∣ det n B-det n A
 | 0,_,_,_=>⟨0,by show(1:Int)-1=_;simp⟩
 | n+1,A,B,h=>by
  rw[cN,cN];refine BV (n+1) λi hi=>?_
  refine BW (BW ⟨0,by simp⟩ (h i n hi (by omega))) (BX n λr c hr hc=>h _ _ (tR hr) (by omega))
theorem Oa {f:Fn}{n:Nat}{g:Fn}(i j:Nat):∀L,bw L (λk=>g k*tk f n (k+(i+1)) j)=(if j=0 then 0 else bw L λk=>g k*tk f n (k+i) (j-1))-(bw L λk=>g k*tk f n (k+i) (n-1))*f j
 | 0=>by show(0:Int)=(if j=0 then 0 else 0)-0*f j;split <;> simp
 | L+1=>by
  show bw L _+g L*tk f n (L+(i+1)) j=(if j=0 then 0 else bw L (λk=>g k*tk f n (k+i) (j-1))+g L*tk f n (L+i) (j-1))-(bw L (λk=>g k*tk f n (k+i) (n-1))+g L*tk f n (L+i) (n-1))*f j
  rw[Oa i j L,<- Nat.add_assoc];show _+g L*((if j=0 then 0 else tk f n (L+i) (j-1))-tk f n (L+i) (n-1)*f j)=_
  split <;> grind
def ef (N:Nat)(c:Nat->Int)(t:Int):Int:=bw N λi=>c i*t ^ i
theorem FP (N:Nat)(c:Nat->Int)(t:Int):ef (N+1) c t=c 0+t*ef N (λi=>c (i+1)) t:=by
 unfold ef;rw[kZ,<- cR];congr 1
 ·rw[Y9,Wn]
 ·exact aD λi _=>by rw[Yy];grind
theorem FQ {a:Int}(h:∀t:Int,t≠0->t ∣ a):a=0:=by
 refine V? λz=>?_
 have:=h (2*a) (by omega)
 obtain⟨k,hk⟩:=this;have e:a*(1-2*k)=0:=by grind
 rcases Int.mul_eq_zero.mp e with y|y
 ·exact z y
 ·omega
theorem J5:∀(N:Nat) (c:Nat->Int),(∀t:Int,t≠0->ef N c t=0)->∀i,i<N->c i=0
 | 0,_,_,i,hi=>by omega
 | N+1,c,h,i,hi=>by
  have c0:c 0=0:=FQ λt ht=>by
   have:=h t ht
   rw[FP] at this;exact⟨- ef N (λi=>c (i+1)) t,by grind⟩
  cases i with
  | zero=>exact c0
  | succ i=>
   refine J5 N (λi=>c (i+1)) (λt ht=>?_) i (by omega)
   have:=h t ht
   rw[FP,c0,Zn] at this;rcases Int.mul_eq_zero.mp this with y|y
   ·exact Jg y ht
   ·exact y
theorem J6 (N:Nat)(c d:Nat->Int)(t:Int):ef N (λi=>c i-d i) t=ef N c t-ef N d t:=by
 unfold ef;have:=iO 1 (-1) (λi=>c i*t ^ i) (λi=>d i*t ^ i) N
 rw[aD (g:=λi=>1*(c i*t ^ i)+-1*(d i*t ^ i)) λi _=>by grind,this]
 omega
theorem Ar {N:Nat}{c d:Nat->Int}(h:∀t:Int,t≠0->ef N c t=ef N d t){i:Nat}(hi:i<N):c i=d i:=by
 have:=J5 N (λi=>c i-d i) (λt ht=>by rw[J6,h t ht];omega) i hi
 omega
theorem DS {N m:Nat}{a:Nat->Int}{c:Nat->Nat->Int}{t:Int}:(bw m λk=>a k*ef N (c k) t)=ef N (λi=>bw m λk=>a k*c k i) t:=by
 unfold ef;rw[aD (g:=λk=>bw N λi=>a k*(c k i*t ^ i)) λk _=>(cR _ _ _).symm,f_]
 exact aD λi _=>by rw[<- jN];exact aD λk _=>by grind
theorem Qa {N:Nat}{c:Nat->Int}(h:c N=0)(a b t:Int):(a*t+b)*ef N c t=ef (N+1) (λi=>a*(if i=0 then 0 else c (i-1))+b*c i) t:=by
 have e1:ef (N+1) (λi=>a*(if i=0 then 0 else c (i-1))+b*c i) t=a*ef (N+1) (λi=>if i=0 then 0 else c (i-1)) t+b*ef (N+1) c t:=by
  unfold ef;rw[<- iO];exact aD λi _=>by grind
 have e2:ef (N+1) c t=ef N c t:=by
  show ef N c t+c N*t ^ N=_
  rw[h];omega
 rw[e1,e2,FP];simp only[Ja,W9 (Nat.succ_ne_zero _),Wa]
 grind
theorem pd:∀(n:Nat) (a b:Mx),∃c:Nat->Int,(∀i,n<i->c i=0)/\c n=det n a/\∀t,det n (λi j=>a i j*t+b i j)=ef (n+1) c t
 | 0,a,b=>⟨λi=>if i=0 then 1 else 0,λi hi=>W9 (by omega),rfl,λt=>by
   show(1:Int)=0+(if 0=0 then 1 else 0)*t ^ 0
   rw[Ja rfl,Y9];rfl⟩
 | n+1,a,b=>by
  obtain⟨g,hg⟩:=Classical.axiomOfChoice λi=>pd n (λr c=>a (c9 i r) c) λr c=>b (c9 i r) c
  refine⟨λi=>bw (n+1) λk=>sg (n-k)*(a k n*(if i=0 then 0 else g k (i-1))+b k n*g k i),λi hi=>?_,?_,λt=>?_⟩
  ·refine dX λk _=>?_
   rw[W9 (by omega),(hg k).1 _ (by omega),(hg k).1 _ (by omega)];simp
  ·rw[cN]
   refine aD λk _=>?_
   rw[W9 (by omega),Wa,(hg k).2.1,(hg k).1 (n+1) (by omega),Y6,Zm,Z5]
  ·rw[cN,<- DS]
   refine aD λk _=>?_
   rw[(hg k).2.2 t,Z5,Qa ((hg k).1 _ (by omega))]
theorem xr {n:Nat}(M:Mx){r:Nat}(hr:r<n):det n (cZ M r λ_=>0)=0:=by
 have:=jo 0 0 (λ_=>0) (λ_=>0) n M r hr
 rw[show(λc:Nat=>(0:Int)*0+0*0)=λ_=>0 from rfl] at this
 rw[this];omega
theorem BY {n:Nat}(M:Mx){r:Nat}(hr:r<n)(u:Nat->Int)(v:Nat->Nat->Int):∀m,det n (cZ M r λc=>bw m λk=>u k*v k c)=bw m λk=>u k*det n (cZ M r (v k))
 | 0=>xr M hr
 | m+1=>by
  show det n (cZ M r λc=>bw m (λk=>u k*v k c)+u m*v m c)=bw m (λk=>u k*det n (cZ M r (v k)))+u m*det n (cZ M r (v m))
  have:=jo 1 (u m) (λc=>bw m λk=>u k*v k c) (v m) n M r hr
  rw[<- BY M hr u v m,show(λc=>bw m (λk=>u k*v k c)+u m*v m c)=λc=>1*bw m (λk=>u k*v k c)+u m*v m c from funext λc=>by omega,this]
  omega
def HQ (n:Nat)(M:Mx):Mx:=λk i=>det n (cZ M i (dD k))
theorem MY {n:Nat}(M:Mx){i j:Nat}(hi:i<n)(hj:j<n):fz n M (HQ n M) i j=det n M*dD i j:=by
 show(bw n λk=>M i k*det n (cZ M j (dD k)))=_
 rw[<- BY M hj (M i) dD n];have e:det n (cZ M j λc=>bw n λk=>M i k*dD k c)=det n (cZ M j (M i)):=b_ λr c _ hc=>by
  unfold cZ;by_cases z:r=j
  ·rw[Ja z,Ja z];exact k_ hc _
  ·rw[W9 z,W9 z]
 rw[e];unfold dD;by_cases z:j=i
 ·rw[Ja z,z,jz];omega
 ·rw[W9 z,wI hi hj (λw=>z w.symm) λc=>by rw[ee (λw=>z w.symm),eB]];omega
theorem YB {n:Nat}(M:Mx)(s:Int):∀m,m<=n->s*s ∣ det n (λi j=>M i j+(if i<m then s*dD i j else 0))-det n M-s*bw m λk=>HQ n M k k
 | 0,_=>⟨0,by
   rw[b_ (N:=M) λr c _ _=>by show M r c+(if r<0 then s*dD r c else 0)=_;rw[W9 (Zb r)];omega]
   show det n M-det n M-s*0=_
   simp⟩
 | m+1,hm=>by
  obtain⟨x,hx⟩:=YB (n:=n) M s m (by omega)
  obtain⟨N,hN⟩:∃N:Mx,N=λi j=>M i j+(if i<m then s*dD i j else 0):=⟨_,rfl⟩
  rw[<- hN] at hx;have e1:det n (λi j=>M i j+(if i<m+1 then s*dD i j else 0))=det n N+s*det n (cZ N m (dD m)):=by
   have h1:=jo 1 s (N m) (dD m) n N m hm;rw[jz,Zk] at h1;rw[<- h1];refine b_ λr c _ _=>?_
   unfold cZ;by_cases z:r=m
   ·rw[Ja z,hN,z]
    show M m c+(if m<m+1 then s*dD m c else 0)=1*(M m c+if m<m then s*dD m c else 0)+s*dD m c
    rw[Ja (by omega),W9 (by omega)];omega
   ·rw[W9 z,hN]
    show M r c+(if r<m+1 then s*dD r c else 0)=M r c+if r<m then s*dD r c else 0
    by_cases w:r<m
    ·rw[Ja w,Ja (by omega)]
    ·rw[W9 w,W9 (by omega)]
  obtain⟨y,hy⟩:s ∣ det n (cZ N m (dD m))-det n (cZ M m (dD m)):=BX n λr c _ _=>by
   unfold cZ;by_cases z:r=m
   ·rw[Ja z,Ja z];exact⟨0,by simp⟩
   ·rw[W9 z,W9 z,hN]
    show s ∣ M r c+(if r<m then s*dD r c else 0)-M r c
    split
    ·exact⟨dD r c,by omega⟩
    ·exact⟨0,by simp⟩
  refine⟨x+y,?_⟩
  rw[e1];show _-s*(bw m (λk=>HQ n M k k)+det n (cZ M m (dD m)))=_
  generalize bw m (λk=>HQ n M k k)=S at hx ⊢
  generalize det n (cZ N m (dD m))=D1 at hy ⊢;generalize det n (cZ M m (dD m))=D2 at hy ⊢;grind
theorem FT (t s:Int):∀k:Nat,∃y:Int,(t+s) ^ (k+1)=t ^ (k+1)+s*(((k+1:Nat):Int)*t ^ k)+s*s*y
 | 0=>⟨0,by simp[Yy]⟩
 | k+1=>by
  obtain⟨y,hy⟩:=FT t s k;refine⟨((k+1:Nat):Int)*t ^ k+(t+s)*y,?_⟩
  rw[Yy (t+s),hy,show((k+1+1:Nat):Int)=((k+1:Nat):Int)+1 by omega,Yy t (k+1),Yy t k]
  generalize ((k+1:Nat):Int)=K;grind
theorem FU (t s:Int)(c:Nat->Int):∀N,s*s ∣ ef (N+1) c (t+s)-ef (N+1) c t-s*ef N (λi=>((i+1:Nat):Int)*c (i+1)) t
 | 0=>⟨0,by
   show 0+c 0*(t+s) ^ 0-(0+c 0*t ^ 0)-s*0=_
   simp⟩
 | N+1=>by
  obtain⟨x,hx⟩:=FU t s c N;obtain⟨y,hy⟩:=FT t s N;refine⟨x+c (N+1)*y,?_⟩
  show ef (N+1) c (t+s)+c (N+1)*(t+s) ^ (N+1)-(ef (N+1) c t+c (N+1)*t ^ (N+1))-s*(ef N (λi=>((i+1:Nat):Int)*c (i+1)) t+((N+1:Nat):Int)*c (N+1)*t ^ N)=_
  rw[hy];generalize ((N+1:Nat):Int)=K at hy ⊢;grind
structure FW (n:Nat)(A:Mx)(c:Nat->Int)(B:Nat->Mx):Prop where
 at_:∀t,det n (λi j=>dD i j*t+-A i j)=ef (n+1) (λi=>c (n-i)) t
 one:c 0=1
 b0:∀i j,i<n->j<n->B 0 i j=dD i j
 up:∀k,k+1<n->∀i j,i<n->j<n->B (k+1) i j=fz n A (B k) i j+c (k+1)*dD i j
 end_:∀i j,i<n->j<n->fz n A (B (n-1)) i j+c n*dD i j=0
 tr:∀k,k<n->xo n (fz n A (B k))=-(((k+1:Nat):Int)*c (k+1))
theorem J7 {n:Nat}(hn:1<=n)(A:Mx):∃c B,FW n A c B:=by
 obtain⟨c,c0,c1,cd⟩:=pd n dD λi j=>-A i j
 rw[FE] at c1;obtain⟨g,hg⟩:=Classical.axiomOfChoice λk=>Classical.axiomOfChoice λi=>pd n (cZ dD i λ_=>0) (cZ (λi j=>-A i j) i (dD k))
 have ha:∀t k i,i<n->HQ n (λi j=>dD i j*t+-A i j) k i=ef n (g k i) t:=λt k i hi=>by
  have e:HQ n (λi j=>dD i j*t+-A i j) k i=ef (n+1) (g k i) t:=by
   rw[<- (hg k i).2.2 t];refine b_ λr c _ _=>?_
   unfold cZ;by_cases z:r=i
   ·rw[Ja z,Ja z,Ja z];show _=0*t+_;omega
   ·rw[W9 z,W9 z,W9 z]
  rw[e];show ef n (g k i) t+g k i n*t ^ n=_
  rw[(hg k i).2.1,xr _ hi];omega
 obtain⟨N,rfl⟩:∃N,n=N+1:=⟨n-1,by omega⟩
 have gN:∀k i,i<N+1->g k i (N+1)=0:=λk i hi=>by rw[(hg k i).2.1,xr _ hi]
 have rel:∀i j,i<N+1->j<N+1->∀m,m<N+2->(if m=0 then 0 else g i j (m-1))-fz (N+1) A (λk i=>g k i m) i j=c m*dD i j:=by
  intro i j hi hj;refine λm hm=>Ar (N:=N+2) (c:=λm=>(if m=0 then 0 else g i j (m-1))-fz (N+1) A (λk i=>g k i m) i j) (d:=λm=>c m*dD i j) (λt _=>?_) hm
  have h1:=MY (λi j=>dD i j*t+-A i j) hi hj
  rw[cd t] at h1;have e1:ef (N+2) (λm=>c m*dD i j) t=ef (N+2) c t*dD i j:=by
   unfold ef;rw[<- jN];exact aD λk _=>by grind
  have e2:ef (N+2) (λm=>fz (N+1) A (λk i=>g k i m) i j) t=bw (N+1) λk=>A i k*ef (N+1) (g k j) t:=by
   rw[DS];show ef (N+1) _ t+fz (N+1) A (λk i=>g k i (N+1)) i j*t ^ (N+1)=_
   have:fz (N+1) A (λk i=>g k i (N+1)) i j=0:=dX λk _=>by show A i k*g k j (N+1)=0;rw[gN k j hj];omega
   rw[this,Z1,Zm];rfl
  have e3:ef (N+2) (λm=>if m=0 then 0 else g i j (m-1)) t=t*ef (N+1) (g i j) t:=by
   rw[FP];simp only[Ja,W9 (Nat.succ_ne_zero _),Wa]
   rw[Zn]
  rw[e1,J6,e2,e3,<- h1];show _=bw (N+1) λk=>(dD i k*t+-A i k)*HQ (N+1) (λi j=>dD i j*t+-A i j) k j
  rw[aD (f:=λk=>(dD i k*t+-A i k)*HQ (N+1) (λi j=>dD i j*t+-A i j) k j) (g:=λk=>t*(ef (N+1) (g k j) t*dD k i)+-1*(A i k*ef (N+1) (g k j) t)) λk hk=>by
   rw[ha t k j hj];have:dD i k=dD k i:=by
    unfold dD;by_cases z:k=i
    ·rw[Ja z,Ja z.symm]
    ·rw[W9 z,W9 λw=>z w.symm]
   rw[this];grind,iO,k_ hi]
  omega
 have tr:∀m,m<N+1->(bw (N+1) λi=>g i i m)=((m+1:Nat):Int)*c (m+1):=by
  refine λm hm=>Ar (N:=N+1) (c:=λm=>bw (N+1) λi=>g i i m) (d:=λm=>((m+1:Nat):Int)*c (m+1)) (λt _=>?_) hm
  have hd:∀s:Int,s≠0->s ∣ (bw (N+1) λk=>HQ (N+1) (λi j=>dD i j*t+-A i j) k k)-ef (N+1) (λi=>((i+1:Nat):Int)*c (i+1)) t:=λs hs=>by
   obtain⟨x,hx⟩:=YB (λi j=>dD i j*t+-A i j) s (N+1) (Yd _)
   obtain⟨y,hy⟩:=FU t s c (N+1);have e:det (N+1) (λi j=>dD i j*t+-A i j+(if i<N+1 then s*dD i j else 0))=det (N+1) λi j=>dD i j*(t+s)+-A i j:=b_ λr cc hr _=>by
    rw[Ja hr];grind
   rw[e,cd,cd] at hx;refine⟨y-x,?_⟩
   have h3:s*((bw (N+1) λk=>HQ (N+1) (λi j=>dD i j*t+-A i j) k k)-ef (N+1) (λi=>((i+1:Nat):Int)*c (i+1)) t)=s*(s*(y-x)):=by
    generalize (bw (N+1) λk=>HQ (N+1) (λi j=>dD i j*t+-A i j) k k)=S at hx ⊢
    generalize ef (N+1) (λi=>((i+1:Nat):Int)*c (i+1)) t=U at hy ⊢
    grind
   exact Zd hs h3
  have h0:=FQ hd;have e1:(bw (N+1) λk=>HQ (N+1) (λi j=>dD i j*t+-A i j) k k)=ef (N+1) (λm=>bw (N+1) λi=>g i i m) t:=by
   rw[aD (g:=λk=>1*ef (N+1) (g k k) t) λk hk=>by rw[ha t k k hk];omega,DS]
   congr 1
   exact funext λi=>aD λk _=>by omega
  rw[<- e1];omega
 refine⟨λk=>c (N+1-k),λk i j=>g i j (N-k),⟨λt=>?_,by show c (N+1-0)=1;exact c1,λi j hi hj=>?_,λk hk i j hi hj=>?_,λi j hi hj=>?_,λk hk=>?_⟩⟩
 ·rw[cd t]
  unfold ef;exact aD λi hi=>by show _=c (N+1-(N+1-i))*_;rw[show N+1-(N+1-i)=i by omega]
 ·have:=rel i j hi hj (N+1) (by omega)
  rw[W9 (by omega),Wa,c1] at this
  have z:fz (N+1) A (λk i=>g k i (N+1)) i j=0:=dX λk _=>by show A i k*g k j (N+1)=0;rw[gN k j hj];omega
  rw[z] at this;show g i j (N-0)=_
  rw[Nat.sub_zero];omega
 ·have:=rel i j hi hj (N-k) (by omega)
  rw[W9 (by omega)] at this
  show g i j (N-(k+1))=fz (N+1) A (λi j=>g i j (N-k)) i j+c (N+1-(k+1))*dD i j
  rw[show N+1-(k+1)=N-k by omega,<- this,show N-k-1=N-(k+1) by omega]
  omega
 ·have:=rel i j hi hj 0 (by omega)
  rw[Ja rfl] at this;show fz (N+1) A (λi j=>g i j (N-(N+1-1))) i j+c (N+1-(N+1))*dD i j=0
  rw[show N-(N+1-1)=0 by omega,W5,<- this]
  omega
 ·have hk2:=tr
  have key:∀i,i<N+1->fz (N+1) A (λi j=>g i j (N-k)) i i=(if N-k=0 then 0 else g i i (N-k-1))-c (N-k):=λi hi=>by
   have:=rel i i hi hi (N-k) (by omega)
   have d1:dD i i=1:=Ja rfl;rw[d1,Wn] at this;omega
  show bw (N+1) (λi=>fz (N+1) A (λi j=>g i j (N-k)) i i)=-(((k+1:Nat):Int)*c (N+1-(k+1)))
  rw[aD key,show N+1-(k+1)=N-k by omega]
  have ec:bw (N+1) (λ_=>c (N-k))=((N+1:Nat):Int)*c (N-k):=by
   have:∀m:Nat,bw m (λ_=>c (N-k))=(m:Int)*c (N-k):=λm=>by
    induction m with
    | zero=>show(0:Int)=_;simp
    | succ m ih=>
     show bw m _+c (N-k)=_
     rw[ih,show((m+1:Nat):Int)=(m:Int)+1 by omega];grind
   exact this _
  have e0:=iO 1 (-1) (λi=>if N-k=0 then 0 else g i i (N-k-1)) (λ_=>c (N-k)) (N+1)
  rw[aD (g:=λi=>1*(if N-k=0 then 0 else g i i (N-k-1))+-1*c (N-k)) λi _=>by omega,e0,ec]
  by_cases z:N-k=0
  ·rw[dX λi _=>Ja z,show N+1=k+1 by omega];grind
  ·rw[aD (g:=λi=>g i i (N-k-1)) λi _=>W9 z,tr (N-k-1) (by omega),show N-k-1+1=N-k by omega]
   have:((N-k:Nat):Int)=((N+1:Nat):Int)-((k+1:Nat):Int):=by omega
   rw[this];grind
theorem FW.same {n:Nat}{A C T:Mx}{c d:Nat->Int}{B D:Nat->Mx}{P:Int}(h:FW n A c B)(k:FW n C d D)(hT:det n T≠0)(hP:P≠0)(e:∀i j,i<n->j<n->fz n T A i j=P*fz n C T i j){m:Nat}(hm:m<=n):c m=P ^ m*d m:=by
 have key:∀u:Int,ef (n+1) (λi=>c (n-i)) (P*u)=P ^ n*ef (n+1) (λi=>d (n-i)) u:=λu=>by
  rw[<- h.at_,<- k.at_];have e1:det n (fz n T λi j=>dD i j*(P*u)+-A i j)=det n (λi j=>P*fz n (λi j=>dD i j*u+-C i j) T i j):=b_ λi j hi hj=>by
   have h1:fz n T (λi j=>dD i j*(P*u)+-A i j) i j=P*u*T i j-fz n T A i j:=by
    show bw n (λl=>T i l*(dD l j*(P*u)+-A l j))=_
    rw[aD (g:=λl=>(P*u)*(T i l*dD l j)+-1*(T i l*A l j)) λl _=>by grind,iO,k_ hj]
    show _+-1*fz n T A i j=_
    omega
   have h2:fz n (λi j=>dD i j*u+-C i j) T i j=u*T i j-fz n C T i j:=by
    show bw n (λl=>(dD i l*u+-C i l)*T l j)=_
    rw[aD (g:=λl=>u*(dD i l*T l j)+-1*(C i l*T l j)) λl _=>by grind,iO,JK hi]
    show _+-1*fz n C T i j=_
    omega
   rw[h1,h2,e i j hi hj];grind
  rw[oK,k8,oK] at e1;refine Zd hT ?_
  rw[e1];grind
 have VO:∀i,i<n+1->P ^ i*c (n-i)=P ^ n*d (n-i):=λi hi=>by
  refine Ar (N:=n+1) (c:=λi=>P ^ i*c (n-i)) (d:=λi=>P ^ n*d (n-i)) (λt _=>?_) hi
  have e1:ef (n+1) (λi=>P ^ i*c (n-i)) t=ef (n+1) (λi=>c (n-i)) (P*t):=by
   unfold ef;exact aD λi _=>by rw[Int.mul_pow];grind
  have e2:ef (n+1) (λi=>P ^ n*d (n-i)) t=P ^ n*ef (n+1) (λi=>d (n-i)) t:=by
   unfold ef;rw[<- cR];exact aD λi _=>by grind
  rw[e1,e2,key t]
 have:=VO (n-m) (by omega)
 rw[show n-(n-m)=m by omega] at this
 have pz:P ^ (n-m)≠0:=Ww hP;refine Zd pz ?_
 rw[this,<- Z5,<- Wo,Nat.sub_add_cancel hm]
section
variable {R:Type} [CommRing R]
inductive Ad (α:R):R->Prop where
 | one:Ad α 1
 | gen:Ad α α
 | add {a b:R}:Ad α a->Ad α b->Ad α (a+b)
 | neg {a:R}:Ad α a->Ad α (-a)
 | mul {a b:R}:Ad α a->Ad α b->Ad α (a*b)
theorem Ad.sub (α:R):c_ (Ad α):=⟨.one,.add,.neg,.mul⟩
inductive Sb (n:Nat)(β:Nat->R):R->Prop where
 | zero:Sb n β 0
 | add {x:R} (z:Int) (k:Nat):k<n->Sb n β x->Sb n β (zc R z*β k+x)
theorem Sb.plus {n:Nat}{β:Nat->R}{x y:R}(h:Sb n β x)(k:Sb n β y):Sb n β (x+y):=by
 induction h with
 | zero=>rw[show(0:R)+y=y by grind];exact k
 | @add x z i hi _ ih=>rw[show zc R z*β i+x+y=zc R z*β i+(x+y) by grind];exact .add z i hi ih
theorem Sb.neg {n:Nat}{β:Nat->R}{x:R}(h:Sb n β x):Sb n β (-x):=by
 induction h with
 | zero=>rw[show -(0:R)=0 by grind];exact .zero
 | @add x z i hi _ ih=>
  have:=Sb.add (-z) i hi ih
  rw[l_,show -zc R z*β i+-x=-(zc R z*β i+x) by grind] at this
  exact this
theorem Sb.one {n:Nat}{β:Nat->R}{k:Nat}(hk:k<n):Sb n β (β k):=by
 have:=Sb.add (β:=β) 1 k hk .zero
 rw[iB,show 1*β k+0=β k by grind] at this
 exact this
variable {n:Nat} {α:R} {β:Nat->R} {d:Nat->Int}
theorem Sb.gen (n1:1<=n)(b0:β 0=1)(up:∀k,k<n->β (k+1)=α*β k+zc R (d (k+1)))(bn:β n=0){x:R}(h:Sb n β x):Sb n β (α*x):=by
 induction h with
 | zero=>rw[show α*0=0 by grind];exact .zero
 | @add x z i hi _ ih=>
  have e:α*(zc R z*β i+x)=zc R (-(z*d (i+1)))*β 0+(zc R z*β (i+1)+α*x):=by
   rw[up i hi,b0,l_,gu];grind
  rw[e];refine .add _ 0 (by omega) ?_
  by_cases c:i+1<n
  ·exact .add z _ c ih
  ·rw[show i+1=n by omega,bn,show zc R z*0+α*x=α*x by grind];exact ih
theorem Ad.sb (n1:1<=n)(b0:β 0=1)(up:∀k,k<n->β (k+1)=α*β k+zc R (d (k+1)))(bn:β n=0){x:R}(h:Ad α x):∀y,Sb n β y->Sb n β (x*y):=by
 induction h with
 | one=>intro y hy;rw[show 1*y=y by grind];exact hy
 | gen=>intro y hy;exact Sb.gen n1 b0 up bn hy
 | @add a b _ _ i1 i2=>intro y hy;rw[show(a+b)*y=a*y+b*y by grind];exact(i1 y hy).plus (i2 y hy)
 | @neg a _ i=>intro y hy;rw[show -a*y=-(a*y) by grind];exact(i y hy).neg
 | @mul a b _ _ i1 i2=>intro y hy;rw[show a*b*y=a*(b*y) by grind];exact i1 _ (i2 y hy)
theorem J8 {m:Nat}{el:Vc->R}(B:nM m el)(h:c_ (Of el)){p:Nat}(hp:p∈PR){ip:R}(G0:nt R p*ip=1){k:Nat}(hq:m<=p ^ k)(hM:∀a,BR (Of el) (nt R p) (p ^ k) a->Of el a)
  (n1:1<=n) (pa:Of el (nt R p*α)) (b0:β 0=1) (up:∀k,k<n->β (k+1)=α*β k+zc R (d (k+1))) (bn:β n=0):Of el α:=by
 have hb:∀k,k<=n->Of el (nt R p ^ k*β k):=λk=>by
  induction k with
  | zero=>intro _;rw[b7,b0,show(1:R)*1=1 by grind];exact h.one
  | succ k ih=>
   intro hk;rw[up k (by omega),bJ,show nt R p ^ k*nt R p*(α*β k+zc R (d (k+1)))=nt R p*α*(nt R p ^ k*β k)+nt R p ^ k*nt R p*zc R (d (k+1)) by grind]
   exact h.add (h.mul pa (ih (by omega))) (h.mul (h.mul (h.pow (h.nt p) k) (h.nt p)) (h.zc _))
 have hb2:∀k,k<n->Of el (nt R p ^ n*β k):=λk hk=>by
  rw[show n=(n-k)+k by omega,jK,show nt R p ^ (n-k)*nt R p ^ k*β k=nt R p ^ (n-k)*(nt R p ^ k*β k) by grind]
  exact h.mul (h.pow (h.nt p) _) (hb k (by omega))
 have hS:∀x,Sb n β x->Of el (nt R p ^ n*x):=λx hx=>by
  induction hx with
  | zero=>rw[show nt R p ^ n*0=0 by grind];exact h.zero
  | @add x z k hk _ ih=>
   rw[show nt R p ^ n*(zc R z*β k+x)=zc R z*(nt R p ^ n*β k)+nt R p ^ n*x by grind]
   exact h.add (h.mul (h.zc z) (hb2 k hk)) ih
 have home:∀x,Ad α x->Of el (nt R p ^ n*x):=λx hx=>hS x (by
  have:=Ad.sb n1 b0 up bn hx (β 0) (Sb.one (by omega))
  rw[b0,show x*1=x by grind] at this
  exact this)
 have fin:∀a,Cl (Of el) (Ad α) a->Of el (nt R p ^ n*a):=by
  intro a ha;induction ha with
  | @mul x y hx hy=>rw[show nt R p ^ n*(x*y)=x*(nt R p ^ n*y) by grind];exact h.mul hx (home y hy)
  | @add x y _ _ i1 i2=>rw[show nt R p ^ n*(x+y)=nt R p ^ n*x+nt R p ^ n*y by grind];exact h.add i1 i2
  | @neg x _ i=>rw[show nt R p ^ n*-x=-(nt R p ^ n*x) by grind];exact h.neg i
 exact MX B h hp G0 hq hM (Cl.sub h (Ad.sub α)) (λa ha=>by rw[show a=a*1 by grind];exact .mul ha .one) fin α (by
  have:=Cl.mul (O:=Of el) (P:=Ad α) h.one Ad.gen
  rw[show 1*α=α by grind] at this
  exact this)
def m_ (f:Fn)(n:Nat)(v:Vc):Nat->Vc:=λi=>prd f n v (un i)
variable {f:Fn} {p:Nat} {φ:Vc->R} {ip:R}
theorem m_.LR (X:Xr f n p φ ip)(v:Vc)(i:Nat):φ (m_ f n v i)=φ v*φ (un i):=(X.sE.mul (c:=λa b=>tk f n (a+b)) X.mul v (un i)).symm
theorem m_.all (X:Xr f n p φ ip)(v u:Vc):φ (λj=>sm n u (m_ f n v) j)=φ v*φ u:=by
 have B:=X.sE;rw[B.sm n,B.un u,kD];exact gU n (λ_ _=>rfl) λi _=>m_.LR X v i
theorem FW.w_ (X:Xr f n p φ ip)(n1:1<=n){v:Vc}{c:Nat->Int}{B:Nat->Mx}(h:FW n (m_ f n v) c B):∃b:Nat->R,b 0=1/\(∀k,k<n->b (k+1)=φ v*b k+zc R (c (k+1)))/\b n=0:=by
 have BB:=X.sE;let b:Nat->R:=λk=>Nat.rec (1:R) (λk x=>φ v*x+zc R (c (k+1))) k
 have bs:∀k,b (k+1)=φ v*b k+zc R (c (k+1)):=λk=>rfl
 have hs:∀k i,i<n->(∀l,l<n->φ (B k l)=b k*φ (un l))->φ (λj=>fz n (m_ f n v) (B k) i j+c (k+1)*dD i j)=b (k+1)*φ (un i):=λk i hi ih=>by
  have e1:(φ λj=>fz n (m_ f n v) (B k) i j)=φ v*b k*φ (un i):=by
   rw[show(λj=>fz n (m_ f n v) (B k) i j)=λj=>sm n (m_ f n v i) (B k) j from funext λj=>(dh n _ _ j).symm,BB.sm n,gU (x':=m_ f n v i) (o':=λl=>b k*φ (un l)) n (λ_ _=>rfl) ih,<- kD,<- BB.un (m_ f n v i),m_.LR X]
   grind
  have e2:=BB.jq (c (k+1)) (dD i) λj=>fz n (m_ f n v) (B k) i j
  rw[show(λj=>fz n (m_ f n v) (B k) i j+c (k+1)*dD i j)=λj=>c (k+1)*dD i j+fz n (m_ f n v) (B k) i j from funext λj=>by omega,e2,e1,bs,show dD i=un i from rfl]
  grind
 have key:∀k,k<n->∀i,i<n->φ (B k i)=b k*φ (un i):=λk=>by
  induction k with
  | zero=>
   intro _ i hi;rw[BB.sup (B 0 i) (un i) λj hj=>h.b0 i j hi hj]
   show _=(1:R)*_
   grind
  | succ k ih=>
   intro hk i hi;rw[BB.sup _ _ λj hj=>h.up k hk i j hi hj]
   exact hs k i hi (ih (by omega))
 refine⟨b,rfl,λk _=>bs k,?_⟩
 have e:=hs (n-1) 0 (by omega) (key (n-1) (by omega))
 rw[show n-1+1=n by omega,X.one,BB.sup _ (λ_=>0) λj hj=>h.end_ 0 j (by omega) hj,BB.zero] at e
 grind
end
section
variable {R:Type} [CommRing R] {f:Fn} {n p d:Nat} {φ:Vc->R} {ip:R} {T:Nat->Vc}
theorem G3 (X:Xr f n p φ ip)(n1:1<=n)(hp:2<=p)(L:s_ n p φ ip d T){v x:Vc}{E:Nat}(hv:ip ^ E*φ v=iz n φ ip d T x){c:Nat->Int}{B:Nat->Mx}(h:FW n (m_ f n v) c B){k:Nat}(hk:k<=n):((p:Int) ^ E) ^ k ∣ c k:=by
 have BB:=X.sE;have hPd:zc R ((p:Int) ^ d)*ip ^ d=1:=jM X.inv d;have YC:zc R ((p:Int) ^ E)*ip ^ E=1:=jM X.inv E;have ex:∀i,∃y:Vc,i<n->iz n φ ip d T x*iz n φ ip d T (un i)=iz n φ ip d T y:=λi=>by
  obtain⟨y,hy⟩:=L.sub.mul ⟨x,rfl⟩ ⟨un i,rfl⟩;exact⟨y,λ_=>hy⟩
 obtain⟨C,hC⟩:=Classical.axiomOfChoice ex;obtain⟨d',D,hD⟩:=J7 n1 C;have VI:∀k:Nat,(p:Int) ^ k≠0:=λk=>Ww (by omega)
 have yu:det n T≠0:=by
  rw[z7 n T λi j hij hj=>L.st.jB i (by omega) j hij]
  have:∀m,m<=n->(Bx m λi=>T i i)≠0:=λm=>by
   induction m with
   | zero=>intro _;show(1:Int)≠0;decide
   | succ m ih=>
    intro hm z;rcases Int.mul_eq_zero.mp z with y|y
    ·exact ih (by omega) y
    ·exact L.st.nz m (by omega) y
  exact this n (Yd n)
 have:=FW.same h hD yu (VI E) (λi j hi hj=>?_) hk
 ·exact⟨d' k,this⟩
 ·have hu:iz n φ ip d T (un i)=ip ^ d*φ (T i):=by
   unfold iz;rw[BB.sup (λj=>sm n (un i) T j) (T i) λj _=>gT hi]
  have h1:=hC i hi;rw[<- hv,hu] at h1;have h2:ip ^ E*φ v*(ip ^ d*φ (T i))=ip ^ d*φ λj=>sm n (C i) T j:=h1
  have h3:φ v*φ (T i)=zc R ((p:Int) ^ E)*φ λj=>sm n (C i) T j:=by
   have:zc R ((p:Int) ^ E)*(zc R ((p:Int) ^ d)*(ip ^ E*φ v*(ip ^ d*φ (T i))))=zc R ((p:Int) ^ E)*(zc R ((p:Int) ^ d)*(ip ^ d*φ λj=>sm n (C i) T j)):=by rw[h2]
   grind
  rw[<- m_.all X,<- BB.smul] at h3;have:=BB.inj _ _ h3 j hj
  rw[dh,dh] at this;exact this
theorem DT (X:Xr f n p φ ip)(n1:1<=n)(hp:p∈PR)(L:s_ n p φ ip d T){q:Nat}(hq:n<=p ^ q)(hM:∀a,BR (Of (iz n φ ip d T)) (nt R p) (p ^ q) a->Of (iz n φ ip d T) a)
  {v x:Vc} {E:Nat} (hv:ip ^ E*φ v=iz n φ ip d T x) {c:Nat->Int} {B:Nat->Mx} (h:FW n (m_ f n v) c B) (hc:∀k,k<=n->((p:Int) ^ (E+1)) ^ k ∣ c k):∀i,i<n->(p:Int) ∣ x i:=by
 have BT:=X.sE.jB (d:=d) X.inv L.st;have YC:zc R ((p:Int) ^ (E+1))*ip ^ (E+1)=1:=jM X.inv (E+1);obtain⟨b,b0,bs,bn⟩:=FW.w_ X n1 h;have ex:∀k,∃y:Int,k<=n->c k=((p:Int) ^ (E+1)) ^ k*y:=λk=>by
  by_cases z:k<=n
  ·obtain⟨y,hy⟩:=hc k z;exact⟨y,λ_=>hy⟩
  ·exact⟨0,λw=>Jg w z⟩
 obtain⟨y,hy⟩:=Classical.axiomOfChoice ex;have zpk:∀k:Nat,zc R (((p:Int) ^ (E+1)) ^ k)*(ip ^ (E+1)) ^ k=1:=λk=>by
  induction k with
  | zero=>rw[Y9,iB,b7];grind
  | succ k ih=>rw[Yy,gu,bJ];grind
 have hin:=J8 (α:=ip ^ (E+1)*φ v) (β:=λk=>(ip ^ (E+1)) ^ k*b k) (d:=y) (n:=n) BT L.sub hp X.inv hq hM n1 ?_ ?_ ?_ ?_
 ·obtain⟨z,hz⟩:=hin
  have e:iz n φ ip d T x=zc R (p:Int)*iz n φ ip d T z:=by
   rw[<- hz,<- hv,cQ,bJ];have:=X.inv
   grind
  exact λi hi=>⟨z i,BT.dvd e i hi⟩
 ·refine⟨x,?_⟩
  rw[<- hv,bJ];have:=X.inv
  grind
 ·show(ip ^ (E+1)) ^ 0*b 0=1
  rw[b7,b0];grind
 ·intro k hk
  show(ip ^ (E+1)) ^ (k+1)*b (k+1)=ip ^ (E+1)*φ v*((ip ^ (E+1)) ^ k*b k)+zc R (y (k+1))
  have:=zpk (k+1)
  rw[bs k hk,hy (k+1) (by omega),gu]
  rw[bJ] at this ⊢;grind
 ·show(ip ^ (E+1)) ^ n*b n=0
  rw[bn];grind
end
end L2
namespace L2
open PySem PySem.Spec PyProof.Rows
def Ob (K:bM):List V->Hp->VK->Prop:=λxs H Q=>∃p,∃ns:List Int,xs=[.ref p]/\aO K H p (ns.map V.int)/\Q (.bl (ns.any (· != 0))) H
section
variable {X:Cx} {K:bM}
theorem MZ {ns:List Int}:∀ {us:List l?},Vals (ns.map V.int) us->us.length=ns.length/\∀(i:Nat) (v:l?),us[i]?=j? v->∃(n:Int) (t:Tok),ns[i]?=j? n/\v=Value.int n t:=by
 induction ns with
 | nil=>intro us r;rw[List.map_nil] at r;cases r;exact⟨rfl,λi v h=>by simp at h⟩
 | cons n ns ih=>
  intro us r;rw[List.map_cons] at r;cases r with
  | cons h t=>
   obtain⟨tk,rfl⟩:=h;obtain⟨hl,hg⟩:=ih t;refine⟨by simp[hl],λi v hv=>?_⟩
   cases i with
   | zero=>simp at hv;exact⟨n,tk,rfl,hv.symm⟩
   | succ i=>exact hg i v (by simpa using hv)
theorem G4 (hc:X.calm=true):jE X (.builtin "any") (Ob X.K):=by
 intro pins s σ H xs us Q I rv h;obtain⟨p,ns,rfl,hq,q⟩:=h;obtain⟨u,rfl,ru⟩:=vals1 rv;cases (show u=I! p from ru)
 obtain⟨its,r,hp,_⟩:=I.list hq;obtain⟨hlen,hget⟩:=MZ r;have hl:=hp.isList;have hlt:p<s.heap.objs.size:=by obtain⟨_,e,_⟩:=hl;exact Ym e
 refine call_any_walk (wpAny_pyIter_list hl ?_)
 refine⟨s.heap.objs.size,[s.heap.objs.size,p],[s.heap.objs.size],its.toArray.size,_,_,λi=>((ns.map (· != 0))[i]?).getD false,rfl,Walks.list (A:=X.A.in1) (I.ok.hd hc) _ p (Yu hlt) its.toArray,
  ⟨⟨_,Y0 _ rfl,rfl,rfl⟩,hl.push _⟩,λi v s' Q' E' hP hQ=>?_,λh' tk hk=>?_⟩
 ·obtain⟨n,t,e,rfl⟩:=hget i v (by simpa using hP)
  simp only[Ye,e,Option.map_some,Option.getD_some] at hQ
  exact truthy_int hQ
 ·have e:((Yj its.toArray.size).any λi=>((ns.map (· != 0))[i]?).getD false)=ns.any (· != 0):=by
   rw[Yv,hlen];have:=LSm.range_any (ns.map (· != 0))
   rw[Ya] at this;rw[this,List.any_map];rfl
  rw[e];exact⟨.bl _,H,I.kept (h':=h') (t':=tk) (LSm.kept_iter hk),rfl,q⟩
theorem DU (h:X.K=K)(hc:X.calm=true):jE X (.builtin "any") (Ob K):=by subst h;exact G4 hc
end
end L2
namespace K61
open PySem L2 Alg
variable {P:F?} {w:H?} {K:bM} {mg:Str->Option l?} {base:O?}
theorem Yk_(l:List Str)(h:Yl l:=by decide +kernel):Yl l:=h
abbrev YD:List Str:=["_law_script","_law_p","_law_f","_law_index","_law_number_here","_law_n","_law_basis","_law_most","_law_rows_here","_law_one","_law_row","_law_often","_law_line"]
abbrev SS:List Str:=["_law_n","_law_p","_law_cell","_law_found","_law_i","_law_longer","_law_one","_law_some","_law_at"]
abbrev YE:List Str:=["_law_one","_law_other","_law_found","_law_row","_law_sums_here","_law_number_here","_law_line"]
abbrev VP:List Str:=["_law_table_here","_law_n","_law_found","_law_here","_law_last","_law_k","_law_i"]
abbrev YF:List Str:=["_law_f","_law_number_here","_law_found","_law_step","_law_one"]
abbrev Uv:List Str:=["rows","p","many","width","left","place","at","lead_row"]
abbrev YG:List Str:=["rows","p","depth","power","left","told","place","lead"]
abbrev YH:List Str:=["_law_p","_law_n","_law_high","_law_unit","_law_index"]
abbrev YI:List Str:=["_law_f","_law_g","_law_many","_law_one","_law_other"]
abbrev YJ:List Str:=["f","p","lattice","depth","told","place","row","lead"]
abbrev SV:List Str:=["table","p","low","ideal","rows","line","row","one"]
abbrev M3:List Str:=["f","p","degree","lattice","depth","found","deeper"]
abbrev Qc:List Str:=["rows","lead","place","power","told","row","often"]
abbrev Qd:List Str:=["_law_j","_law_one","_law_cell","_law_i","_law_p"]
abbrev Qe:List Str:=["rows","place","p","power","those","row","back"]
abbrev M4:List Str:=["_law_g","_law_k","_law_n","_law_p","_law_most"]
abbrev J9:List Str:=["_law_p","_law_one","_law_other","_law_most"]
abbrev Qf:List Str:=["_law_mine","_law_yours","_law_number_here"]
abbrev Qg:List Str:=["_law_basis","_law_n","_law_p","_law_most"]
abbrev J_:List Str:=["_law_p","_law_n","_law_high","_law_unit"]
abbrev Ka:List Str:=["_law_f","_law_p","_law_row","_law_most"]
abbrev Qh:List Str:=["_law_mine","_law_yours","_law_often"]
abbrev Qi:List Str:=["table","p","many","told","reached"]
abbrev Kc:List Str:=["_law_cell","_law_most","_law_kind"]
abbrev Kd:List Str:=["_law_p","_law_cell","_law_most"]
abbrev Ke:List Str:=["_law_p","_law_rest","_law_many"]
abbrev Qj:List Str:=["number","more","often","power"]
abbrev Qk:List Str:=["table","one","other","p","row"]
abbrev Kf:List Str:=["_law_basis","_law_n","_law_p"]
abbrev BZ:List Str:=["_law_number_here","_law_many"]
abbrev Kg:List Str:=["_law_n","_law_p","_law_cell"]
abbrev Kh:List Str:=["_law_p","_law_g","_law_high"]
abbrev Kl:List Str:=["rows","lead","place","power"]
abbrev DV:List Str:=["row","lead_row","place","p"]
abbrev Ql:List Str:=["one","lattice","f","power"]
abbrev Km:List Str:=["_law_f","_law_number_here"]
abbrev DW:List Str:=["_law_number_here","_law_p"]
abbrev Qm:List Str:=["one","other","factor","p"]
abbrev Kn:List Str:=["rows","place","p","power"]
abbrev Ko:List Str:=["f","one","other","power"]
abbrev Kq:List Str:=["table","one","other","p"]
abbrev As:List Str:=["width","place","number"]
abbrev xu:List Str:=["_law_one","_law_other"]
abbrev Kr:List Str:=["table","at","divisor"]
abbrev xw:List Str:=["_law_script","_law_k"]
abbrev Ks:List Str:=["table","row","n","p"]
abbrev DX:List Str:=["f","lattice","power"]
abbrev Ku:List Str:=["_law_f","_law_row"]
abbrev G5:List Str:=["rows","p","depth"]
abbrev Kv:List Str:=["_law_table_here"]
abbrev Kw:List Str:=["row","place","p"]
abbrev nO:List Str:=["_law_f","_law_g"]
abbrev Au:List Str:=["numbers","rows"]
abbrev G6:List Str:=["lattice","row"]
abbrev Ky:List Str:=["rows","place"]
abbrev DY:List Str:=["_law_numbers"]
abbrev G7:List Str:=["number","p"]
abbrev DZ:List Str:=["f","place"]
abbrev yw:List Str:=["table","p"]
abbrev sG:List Str:=["k","p"]
abbrev m9:List Str:=["f","g"]
abbrev j8:List Str:=["f","p"]
abbrev jr:List Str:=["thing"]
abbrev Rq(a:o?):Option V:=j? (.ref a)
abbrev Iq(i:Int):Option V:=j? (.int i)
local macro_rules | `(tactic| walk_at "sc") => `(tactic| exact⟨rfl, rfl, rfl, by decide +kernel, rfl, by decide +kernel, by decide +kernel⟩)
local macro_rules | `(tactic| walk_at "rd") => `(tactic| repeat ((fail_if_success with_reducible refine fV ?_ ?_); first|refine⟨_, rfl, ?_⟩|refine⟨_, _, rfl, rfl, ?_⟩|refine⟨_, _, rfl, rfl, show(_ : Int) ≠ 0 by decide, ?_⟩|refine⟨_, _, rfl, rfl, show mX _ _ from lQ (by decide) (by decide), ?_⟩|refine⟨_, _, rfl, rfl, show mX _ _ from gO (by decide) (by decide), ?_⟩|refine⟨_, _, rfl, rfl, show y9 _ _ from(Bd.small (by decide) (by decide)).dv (by decide), ?_⟩|refine⟨_, _, rfl, rfl, show OZ _ _ from⟨by decide, by decide, by decide⟩, ?_⟩|refine⟨show(_ : Int) ≠ 0 by decide, ?_⟩|refine⟨show mX _ _ from lQ (by decide) (by decide), ?_⟩|refine⟨show mX _ _ from gO (by decide) (by decide), ?_⟩|refine⟨show y9 _ _ from(Bd.small (by decide) (by decide)).dv (by decide), ?_⟩|refine⟨show OZ _ _ from⟨by decide, by decide, by decide⟩, ?_⟩|refine⟨show O0 _ _ = true from rfl, ?_⟩|refine⟨show isPlain _ = true from rfl, ?_⟩|refine⟨show W1 _ <= K? from aT rfl, ?_⟩))
def top (i:Nat):Q?:=PySem.Challenge.pw_branchdepth_k61_nothing_lies_beyond.main.body.getD i (.Pass ⟨0,0,0,0⟩)
abbrev qm:Q?:=top 8
theorem B0:aK jr jr (ao qm):=by walk_at "sc"
abbrev qp:Q?:=top 9
theorem B3:aK ["k"] ["k"] (ao qp):=by walk_at "sc"
abbrev jO:Q?:=top 10
theorem gk:aK ["k","n","told","turn"] ["k","n"] (ao jO):=by walk_at "sc"
abbrev nQ:Q?:=top 11
theorem jt:aK ["k","p","size"] sG (ao nQ):=by walk_at "sc"
abbrev iC:Q?:=top 12
theorem sH:aK sG sG (ao iC):=by walk_at "sc"
abbrev jd:Q?:=top 14
theorem lB:aK ["thing","part"] jr (ao jd):=by walk_at "sc"
abbrev qu:Q?:=top 15
theorem B4:aK jr jr (ao qu):=by walk_at "sc"
abbrev dZ:Q?:=top 16
theorem dR:aK ["numbers","many"] ["numbers"] (ao dZ):=by walk_at "sc"
abbrev kE:Q?:=top 17
theorem xx:aK DZ DZ (ao kE):=by walk_at "sc"
abbrev mh:Q?:=top 18
theorem eZ:aK ["f","g","product","at","one","behind","other"] m9 (ao mh):=by walk_at "sc"
abbrev oR:Q?:=top 19
theorem D6:aK ["f"] ["f"] (ao oR):=by walk_at "sc"
abbrev tZ:Q?:=top 20
theorem fF:aK ["f","g","rest","quotient","degree","place","lead","at","part"] m9 (ao tZ):=by walk_at "sc"
abbrev je:Q?:=top 22
theorem iD:aK ["table","at","row"] ["table"] (ao je):=by walk_at "sc"
abbrev iE:Q?:=top 23
theorem nR:aK ["table","at","divisor","top","others"] Kr (ao iE):=by walk_at "sc"
abbrev kF:Q?:=top 24
theorem dN:aK ["table","rows","sign","lead","at"] ["table"] (ao kF):=by walk_at "sc"
abbrev kg:Q?:=top 25
theorem fQ:aK ["f","g","degree","table","rest","turn"] m9 (ao kg):=by walk_at "sc"
abbrev jP:Q?:=top 26
theorem jg:aK ["f","degree","told"] ["f"] (ao jP):=by walk_at "sc"
abbrev gv:Q?:=top 31
theorem pD:aK jr jr (ao gv):=by walk_at "sc"
abbrev mj:Q?:=top 32
theorem pO:aK ["f","p","size"] j8 (ao mj):=by walk_at "sc"
abbrev gw:Q?:=top 33
theorem jn:aK ["f","p","size"] j8 (ao gw):=by walk_at "sc"
abbrev gW:Q?:=top 35
theorem m7:aK ["row","lead_row","place","p","factor"] DV (ao gW):=by walk_at "sc"
abbrev gm:Q?:=top 36
theorem iF:aK ["row","place","p","back"] Kw (ao gm):=by walk_at "sc"
abbrev mq:Q?:=top 37
theorem kG:aK ["rows","place","at","row"] Ky (ao mq):=by walk_at "sc"
abbrev i7:Q?:=top 38
theorem gI:aK Uv ["rows","p"] (ao i7):=by walk_at "sc"
abbrev t7:Q?:=top 40
theorem gx:aK ["k","power","one","other","factor","next_factor","quotient"] ["k","power"] (ao t7):=by walk_at "sc"
abbrev mw:Q?:=top 41
theorem B5:aK As As (ao mw):=by walk_at "sc"
abbrev fR:Q?:=top 42
theorem mC:aK Qe Kn (ao fR):=by walk_at "sc"
abbrev lC:Q?:=top 43
theorem jQ:aK Qc Kl (ao lC):=by walk_at "sc"
abbrev ju:Q?:=top 44
theorem d7:aK YG G5 (ao ju):=by walk_at "sc"
abbrev iQ:Q?:=top 45
theorem eG:aK ["lattice","row","left","told","place","often"] G6 (ao iQ):=by walk_at "sc"
abbrev lE:Q?:=top 46
theorem G8:aK Au Au (ao lE):=by walk_at "sc"
abbrev jv:Q?:=top 48
theorem kH:aK ["f","one","other","power","product","rest"] Ko (ao jv):=by walk_at "sc"
abbrev iG:Q?:=top 49
theorem B6:aK DX DX (ao iG):=by walk_at "sc"
abbrev jR:Q?:=top 50
theorem uU:aK Qk Kq (ao jR):=by walk_at "sc"
abbrev qv:Q?:=top 51
theorem kh:aK ["table","row","n","p","told","turn"] Ks (ao qv):=by walk_at "sc"
abbrev nT:Q?:=top 52
theorem jC:aK Qi yw (ao nT):=by walk_at "sc"
abbrev iR:Q?:=top 53
theorem cX:aK SV yw (ao iR):=by walk_at "sc"
abbrev oU:Q?:=top 54
theorem gX:aK M3 j8 (ao oU):=by walk_at "sc"
abbrev iS:Q?:=top 55
theorem dO:aK YJ j8 (ao iS):=by walk_at "sc"
abbrev nU:Q?:=top 57
theorem Av:aK xw xw (ao nU):=by walk_at "sc"
abbrev qw:Q?:=top 58
theorem fG:aK ["_law_script","_law_k","_law_x","_law_total","_law_j"] xw (ao qw):=by walk_at "sc"
abbrev qx:Q?:=top 59
theorem uV:aK xu xu (ao qx):=by walk_at "sc"
abbrev nV:Q?:=top 60
theorem mD:aK ["_law_numbers","_law_many"] DY (ao nV):=by walk_at "sc"
abbrev t8:Q?:=top 61
theorem mF:aK ["_law_f","_law_g","_law_found","_law_i","_law_j"] nO (ao t8):=by walk_at "sc"
abbrev sI:Q?:=top 62
theorem oV:aK YI nO (ao sI):=by walk_at "sc"
abbrev xy:Q?:=top 63
theorem iH:aK ["_law_cell","_law_most","_law_kind","_law_found","_law_many","_law_rest","_law_base","_law_k"] Kc (ao xy):=by walk_at "sc"
abbrev t_:Q?:=top 64
theorem mG:aK ["_law_number_here","_law_many","_law_found","_law_k"] BZ (ao t_):=by walk_at "sc"
abbrev nW:Q?:=top 65
theorem gY:aK ["_law_f","_law_g","_law_rest","_law_k","_law_number_here","_law_j"] nO (ao nW):=by walk_at "sc"
abbrev xA:Q?:=top 66
theorem oW:aK ["_law_number_here","_law_p","_law_found"] DW (ao xA):=by walk_at "sc"
abbrev jw:Q?:=top 67
theorem pP:aK YH J_ (ao jw):=by walk_at "sc"
abbrev ua:Q?:=top 68
theorem cT:aK ["_law_p","_law_rest","_law_many","_law_zeros_here","_law_f","_law_k","_law_number_here","_law_index","_law_i","_law_j"] Ke (ao ua):=by walk_at "sc"
abbrev iT:Q?:=top 69
theorem nX:aK ["_law_p","_law_g","_law_high","_law_n"] Kh (ao iT):=by walk_at "sc"
abbrev oX:Q?:=top 70
theorem iI:aK YF Km (ao oX):=by walk_at "sc"
abbrev uc:Q?:=top 71
theorem fH:aK ["_law_p","_law_cell","_law_most","_law_n","_law_rest","_law_high","_law_unit","_law_g"] Kd (ao uc):=by walk_at "sc"
abbrev ud:Q?:=top 72
theorem gy:aK ["_law_p","_law_one","_law_other","_law_most","_law_f","_law_index","_law_g","_law_more","_law_both"] J9 (ao ud):=by walk_at "sc"
abbrev jS:Q?:=top 73
theorem zw:aK Qg Kf (ao jS):=by walk_at "sc"
abbrev ue:Q?:=top 74
theorem iJ:aK ["_law_f","_law_row","_law_n","_law_found","_law_here","_law_i"] Ku (ao ue):=by walk_at "sc"
abbrev ki:Q?:=top 75
theorem eU:aK YE xu (ao ki):=by walk_at "sc"
abbrev sJ:Q?:=top 76
theorem gZ:aK VP Kv (ao sJ):=by walk_at "sc"
abbrev mH:Q?:=top 77
theorem iU:aK ["_law_f","_law_p","_law_row","_law_most","_law_step","_law_number_here"] Ka (ao mH):=by walk_at "sc"
abbrev jT:Q?:=top 78
theorem e_:aK SS Kg (ao jT):=by walk_at "sc"
abbrev pQ:Q?:=top 79
theorem g_:aK YD ["_law_script"] (ao pQ):=by walk_at "sc"
structure iw (mg:Str->Option l?):Prop where
 «abs»:mg "abs"=q?
 «any»:mg "any"=q?
 «bool»:mg "bool"=q?
 «enumerate»:mg "enumerate"=q?
 «int»:mg "int"=q?
 «isinstance»:mg "isinstance"=q?
 «len»:mg "len"=q?
 «list»:mg "list"=q?
 «max»:mg "max"=q?
 «min»:mg "min"=q?
 «range»:mg "range"=q?
 «reversed»:mg "reversed"=q?
 «sum»:mg "sum"=q?
 «zip»:mg "zip"=q?
def uf (K:bM):Sp:=λvs H Q _=>∃(x:V) (T:String),vs=[x]/\E_ K H x T/\Q (.bl (decide (T="int"))) H
def Aw:Sp:=λvs H Q _=>∃k p:Int,vs=[.int k,.int p]/\k≠0/\2<=p/\p<2 ^ 62/\∀(v:Nat) (m:Int) (r:o?) (H':Hp),aF H H'->k=p ^ v*m->¬ p ∣ m->H' r=j? (.tup [.int v,.int m])->Q (.ref r) H'
def SW (p k:Int)(x:V):Prop:=(k=0/\x=.fk)\/(k≠0/\∃v:Nat,fU p k v/\x=.int v)
def vL:Sp:=λvs H Q _=>∃k p:Int,vs=[.int k,.int p]/\2<=p/\p<2 ^ 62/\∀(x:V) (H':Hp),aF H H'->SW p k x->Q x H'
section
theorem B7 (B:iw mg)(F:Src K mg "is_whole" qm jr):b9 P w K mg base 1 "is_whole" jr (uf K):=by
 refine F.ok B0 (λvs H Q E h=>?_) (λf cdv A outer s H vs Q E hr h=>?_)
 ·obtain⟨x,T,rfl,_⟩:=h;rfl
 obtain⟨x,T,rfl,ty,q⟩:=h;refine⟨_,av (aM (vS (aJ (lV (K:=K) rfl) rfl B.isinstance ku (af (pv 0) (af (zH (v:=.ty "int") rfl B.int Pf rfl) ah))) (vR (OQ (aJ (lV (K:=K) rfl) rfl B.isinstance ku (af (pv 0) (af (zH (v:=.ty "bool") rfl B.bool Ml rfl) ah))))))),?_⟩
 cases ty with
 | fk=>exact⟨_,rfl,_,_,"int",false,rfl,.fk,by with_unfolding_all rfl,_,rfl,q⟩
 | bl b=>exact⟨_,rfl,_,_,"int",true,rfl,.bl b,by with_unfolding_all rfl,_,rfl,_,rfl,_,_,"bool",true,rfl,.bl b,rfl,_,rfl,q⟩
 | int i=>exact⟨_,rfl,_,_,"int",true,rfl,.int i,rfl,_,rfl,_,rfl,_,_,"bool",false,rfl,.int i,by with_unfolding_all rfl,_,rfl,q⟩
 | str b=>exact⟨_,rfl,_,_,"int",false,rfl,.str b,by with_unfolding_all rfl,_,rfl,q⟩
 | lst e=>exact⟨_,rfl,_,_,"int",false,rfl,.lst e,by with_unfolding_all rfl,_,rfl,q⟩
 | tup e=>exact⟨_,rfl,_,_,"int",false,rfl,.tup e,by with_unfolding_all rfl,_,rfl,q⟩
theorem Ax (F:Src K mg "taken_out" nQ sG):b9 P w K mg base 1 "taken_out" sG Aw:=by
  refine F.ok jt (λvs H Q E h=>?_) (λf cdv A outer s H vs Q E hr h=>?_)
  . obtain⟨a,b,rfl,_⟩:=h;rfl
  obtain⟨k,p,rfl,h0,hp,hp2,q⟩:=h;refine⟨_,ai (aC (i:=2) jt.nd rfl (z? rfl) ak)
    (ai (eW D? (a_ iW (au bD (pv 0) (pv 1)) ak (bG _))
      (ai (aC (i:=0) jt.nd rfl (z? rfl) (au bL (pv 0) (pv 1)))
      (av (zI (i:=2) jt.nd rfl (z? rfl) ak zK))))
    (av (aM (ja (af (pv 2) (af (pv 0) ah)))))),?_⟩
  refine nk (λσ H2=>H2=H/\∃(m:Int) (v:Nat),σ=[j? (.int m),j? (.int p),j? (.int v)]/\m≠0/\k=p ^ v*m) (λσ _=>match σ with|some (.int m)::_=>m.natAbs|_=>0) ?_ ?_ ?_
  . exact⟨rfl,k,0,rfl,h0,by simp⟩
  . rintro σ H2 ⟨rfl,m,v,rfl,hm,hk⟩
    refine⟨_,rfl,_,rfl,_,_,rfl,rfl,show p≠0 by omega,rfl,_,rfl,?_⟩
    refine fV (λc=>?_) (λc=>?_)
    . have c':m.fmod p=0:=V.int.inj (Jc c)
      obtain⟨m',rfl⟩:=(kX (by omega)).mp c'
      have hm':m'≠0:=λz=>hm (by rw[z];simp)
      refine⟨_,rfl,_,rfl,_,_,rfl,rfl,(Bd.small (by omega) (by omega)).dv (by omega),?_⟩
      refine⟨_,rfl,_,_,rfl,rfl,⟨rfl,m',v+1,?_,hm',?_⟩,?_⟩
      . show [j? (V.int ((p*m').fdiv p)),j? (V.int p),j? (V.int ((v:Int)+1))]=_
        rw[jH (show p≠0 by omega)]
        rfl
      . rw[hk,Yy];ac_rfl
      . show((p*m').fdiv p).natAbs<(p*m').natAbs
        rw[jH (show p≠0 by omega),Zh]
        have h2:2<=p.natAbs:=by omega
        have h3:0<m'.natAbs:=by omega
        calc m'.natAbs<2*m'.natAbs:=by omega
          _<=p.natAbs*m'.natAbs:=Yx _ h2
    . have c':¬ p ∣ m:=λz=>c (Jb (Je V.int ((kX (by omega)).mpr z)))
      refine⟨_,rfl,_,rfl,aT rfl,λr hr'=>?_⟩
      exact q v m r _ (aB hr' _) hk c' ay
  . rintro σ H Q Q' f ⟨v,e,v2,e2,i,j,e3,e4,c,s,k,ek,h⟩
    exact⟨v,e,v2,e2,i,j,e3,e4,c,s,k,ek,f _ _ h⟩
theorem sL (nY:b9 P w K mg base 1 "taken_out" sG Aw)(F:Src K mg "size_of_number" iC sG):b9 P w K mg base 2 "size_of_number" sG vL:=by
 refine F.ok sH (λvs H Q E h=>?_) (λf cdv A outer s H vs Q E hr h=>?_)
 ·obtain⟨a,b,rfl,_⟩:=h;rfl
 obtain⟨k,p,rfl,hp,hp2,q⟩:=h;refine⟨_,ai (dQ (a_ iW (pv 0) ak (bG _))
   (av (aM tD))
   (b8))
  (av (aM (bI (rz (K:=K) rfl) (aH nY hr (af (pv 0) (af (pv 1) ah))) ak (λ_ _=>rfl)))),?_⟩
 refine⟨_,rfl,rfl,_,rfl,?_⟩
 refine fV (λc=>?_) (λc=>?_)
 ·exact q _ H (aF.refl H) (.inl ⟨V.int.inj (Jc c),rfl⟩)
 ·have h0:k≠0:=λz=>c (Jb (Je V.int z))
  refine⟨_,rfl,_,rfl,k,p,rfl,h0,hp,hp2,λv m r H' g hk hm e=>?_⟩
  exact⟨_,_,_,_,rfl,rfl,j5.of e,rfl,q _ H' g (.inr ⟨h0,v,fU.of (by omega) hk hm,rfl⟩)⟩
end
section
theorem u6 (B:iw mg)(F:Src K mg "number_power" jO ["k","n"]):b9 P w K mg base 1 "number_power" ["k","n"] wZ:=by
 refine F.ok gk (λvs H Q E h=>?_) (λfa cdv A outer s H vs Q E hr h=>?_)
 ·obtain⟨k,n,rfl,_⟩:=h;rfl
 obtain⟨k,n,rfl,hk,hn,q⟩:=h;refine⟨_,ai (aC (i:=2) gk.nd rfl (z? rfl) ak)
  (ai (bZ D? rfl (bC rfl B.range (af (pv 1) ah)) (aA (i:=3) gk.nd rfl (z? rfl))
   (av (aC (i:=2) gk.nd rfl (z? rfl) (au aW (pv 2) (pv 0)))))
  (av (aM (pv 2)))),?_⟩
 walk_at "rd"
 refine⟨by omega,by omega,?_⟩
 have b:∀i:Nat,i<=100->Bd 640 ((k ^ i:Nat):Int):=λi hi=>by
  show((k ^ i:Nat):Int).natAbs<_
  rw[Int.natAbs_natCast];refine Z8 (Z7 (show k<=2 ^ 6 by omega) i) ?_
  rw[<- Wp];exact Wj (by decide) (by omega)
 rw[Yf];refine cI (λi σ H2=>H2=H/\∃o,σ=[j? (.int k),j? (.int n),Iq ((k ^ i:Nat)),o]) ⟨rfl,_,rfl⟩ ?_ ?_
 ·rintro i σ H2 hi ⟨rfl,o,rfl⟩
  refine⟨_,rfl,_,rfl,_,_,rfl,rfl,(b i (by omega)).ok (Bd.small (x:=(k:Int)) (by omega) (by omega)),?_⟩
  have e:((k ^ (i+1):Nat):Int)=((k ^ i:Nat):Int)*(k:Int):=by rw[Z2,Zs]
  rw[e];exact⟨rfl,_,rfl⟩
 ·rintro σ H2 ⟨rfl,o,rfl⟩
  exact⟨_,rfl,q⟩
end
def Ay (ls:List (List Int)):Mx:=λi j=>(ls.getD i []).getD j 0
structure Uw (m:Nat)(ts:List LP):Prop where
 len:ts.length=m
 row:∀t∈ts,t.2.length=m
theorem qy {ts:List LP}{i:Nat}(hi:i<ts.length)(j:Nat):Ay (lvals ts) i j=ts[i].2.getD j 0:=by
 have:(lvals ts).getD i []=ts[i].2:=by simp[Yb,hi]
 unfold Ay;rw[this]
theorem ug {xs:List Int}{j:Nat}(h:j<xs.length):qV (xs.map V.int) (j:Int)=j? (.int (xs.getD j 0)):=by
 rw[iY (by omega) (by rw[Ya];omega)]
 simp[Yb,h]
def Kz (K:bM):Sp:=λvs H Q _=>∃(p:o?) (ts:List LP),vs=[.ref p]/\C6 H p ts/\(∀t∈ts,0<t.2.length)/\ts.length<=1000/\
 (∀(t:Nat) (H':Hp),aF H H'->t<ts.length->Ay (lvals ts) t 0≠0->Q (.int (t:Int)) H')/\∀H',aF H H'->(∀i,i<ts.length->Ay (lvals ts) i 0=0)->Q .fk H'
section
theorem uh (B:iw mg)(F:Src K mg "place_of_lead" je ["table"]):b9 P w K mg base 1 "place_of_lead" ["table"] (Kz K):=by
 refine F.ok iD (λvs H Q E h=>?_) (λf cdv A outer s' H vs Q E hr h=>?_)
 ·obtain⟨p,ts,rfl,_⟩:=h;rfl
 obtain⟨p,ts,rfl,hT,hp,lt,q1,q2⟩:=h;refine⟨_,ai (bZ D? rfl (gQ (K:=K) rfl rfl B.enumerate (af (pv 0) ah)) (cG (n:=2) (K:=K) rfl rfl (aP (aA (i:=1) iD.nd rfl (z? rfl)) (aP (aA (i:=2) iD.nd rfl (z? rfl)) cF)))
   (av (dQ (a_ qZ (bI (aI (K:=K) rfl) (pv 2) ak (λ_ _=>rfl)) ak (bG _))
    (av (aM (pv 1)))
    (b8))))
  (av (aM tD)),?_⟩
 have lrl:(lrefs ts).length=ts.length:=Ya _;refine⟨_,rfl,p,rfl,⟨_,hT.sql⟩,kY (st:=0) (xs:=lrefs ts) (λi σ H2=>aF H H2/\(∃o1 o2,σ=[Rq p,o1,o2])/\∀j,j<i->Ay (lvals ts) j 0=0) ⟨aF.refl _,⟨_,_,rfl⟩,λj hj=>Jg hj (by omega)⟩ (λi σ H2 _ h=>(hT.same h.1).sql) ?_ ?_⟩
 ·rintro i x σ H2 r hx ⟨gg,⟨o1,o2,rfl⟩,hz⟩ hr'
  obtain⟨hi,rfl⟩:=zh hx;have gr:=aB hr' (.tup [.int ((0+i:Nat):Int),.ref ts[i].1]);have g2:=gg.trans gr;have e1:=g2 _ _ (hT.it ts[i] (Yz _));have a0:=ug (xs:=ts[i].2) (j:=0) (hp ts[i] (Yz _));have em:=qy hi 0;refine⟨r,_,rfl,j5.of ay,rfl,_,_,rfl,_,_,rfl,rfl,?_⟩
  refine⟨_,rfl,ts[i].1,_,_,_,rfl,rfl,aO.of e1,a0,rfl,_,rfl,?_⟩
  rw[<- em];by_cases c:Ay (lvals ts) i 0=0
  ·refine uN (Je V.int c) ⟨g2,⟨_,_,rfl⟩,λj hj=>?_⟩
   by_cases e:j=i
   ·rw[e];exact c
   ·exact hz j (by omega)
  ·refine Bk (λz=>c (V.int.inj z)) ⟨_,rfl,?_⟩
   simp only[Wx] at g2 ⊢
   exact q1 i _ g2 hi c
 ·rintro σ H2 ⟨gg,_,hz⟩
  exact q2 H2 gg λi hi=>hz i (by rw[lrl];exact hi)
end
def LS (ts:List LP)(t m:Nat)(d:Int)(a:Nat):List Int:=(Yj m).map λc=>(IV (λa c=>Ay (lvals ts) (yr t a) c) a c).fdiv d
def B8 (K:bM):Sp:=λvs H Q _=>∃(p:o?) (ts:List LP) (t m:Nat) (d:Int),vs=[.ref p,.int (t:Int),.int d]/\C6 H p ts/\Uw (m+1) ts/\t<m+1/\m<=100/\d≠0/\Bd 9000 d/\(∀i j,i<m+1->j<m+1->Bd 9000 (Ay (lvals ts) i j))/\
 ∀(q:o?) (us:List LP) (H':Hp),aF H H'->H q=q?->C6 H' q us->lvals us=(Yj m).map (LS ts t m d)->Q (.ref q) H'
theorem D7 {xs:List V}{k:Nat}(h:k<=xs.length):iX xs (j? (k:Int)) q?=xs.drop k:=by
 unfold iX;have e1:HT.qU xs.length 0 (j? (k:Int))=k:=by rw[HT.lN];omega
 have e2:HT.qU xs.length xs.length q?=xs.length:=rfl;rw[e1,e2,Zv (by rw[Za];exact Yd _)]
theorem xB {xs:List V}{k:Nat}(h:k<=xs.length):iX xs q? (j? (k:Int))=xs.take k:=by
 unfold iX;have e1:HT.qU xs.length 0 q?=0:=rfl;have e2:HT.qU xs.length xs.length (j? (k:Int))=k:=by rw[HT.lN];omega
 rw[e1,e2,Nat.sub_zero,List.drop_zero]
section
theorem Qn {ts:List LP}{t a:Nat}(ht:t<ts.length):(ts.take t++ts.drop (t+1))[a]?=ts[c9 t a]?:=by
 unfold c9;by_cases c:a<t
 ·rw[Ja c,Y3 (by rw[Yt];omega),List.getElem?_take,Ja c]
 ·rw[W9 c,Y5 (by rw[Yt];omega),Yt,List.getElem?_drop]
  congr 1
  omega
theorem B9 (B:iw mg)(F:Src K mg "lessened" iE Kr):b9 P w K mg base 1 "lessened" Kr (B8 K):=by
 refine F.ok nR (λvs H Q E h=>?_) (λf cdv A outer s' H vs Q E hr h=>?_)
 ·obtain⟨p,ts,t,m,d,rfl,_⟩:=h;rfl
 obtain⟨p,ts,t,m,d,rfl,hT,sq,ht,hm,d0,bd,bT,q⟩:=h;refine⟨_,ai (aC (i:=3) nR.nd rfl (Or.inr rfl) (bI (aI (K:=K) rfl) (pv 0) (pv 1) (λ_ _=>rfl)))
  (ai (aC (i:=4) nR.nd rfl (z? rfl) (au eL (dU (dW (K:=K) rfl) (pv 0) fm (fq (pv 1))) (dU (dW (K:=K) rfl) (pv 0) (fq (au bU (pv 1) ak)) fm)))
  (av (aM (rY (f9 (N:=["row","top","divisor"]) (sl:=[q?,j? 3,j? 2]) "row" (ao iE) ["table","at","divisor","top","others"] rfl rfl (by decide +kernel)) rfl (bE (K:=K) rfl (pv 4)) (λ_ _ _ _ _=>(aA (i:=0) (Yk_ ["row","top","divisor"]) rfl (Or.inr rfl))) (λ_ _ _ _ _=>aR) (λ_ _ _ _ _=>(bY (aG (N:=["place","top","row","divisor"]) (sl:=[q?,j? 1,j? 0,j? 2]) (nF (z8 ((cA iE).getD 2 (.Pass ⟨0,0,0,0⟩))) (ao iE)) ["row","top","divisor"] rfl rfl (by decide +kernel)) rfl (tF rfl B.range (af ak (af (aJ (aN (K:=K) rfl) rfl B.len bN (af (pv 0) ah)) ah))) (λ_ _ _ _ _=>(aA (i:=0) (Yk_ ["place","top","row","divisor"]) rfl (z? rfl))) (λ_ _ _ _ _=>aR) (λ_ _ _ _ _=>(au bL (au bO (au aW (bI (aI (K:=K) rfl) (pv 1) ak (λ_ _=>rfl)) (bI (aI (K:=K) rfl) (pv 2) (pv 0) (λ_ _=>rfl))) (au aW (bI (aI (K:=K) rfl) (pv 2) ak (λ_ _=>rfl)) (bI (aI (K:=K) rfl) (pv 1) (pv 0) (λ_ _=>rfl)))) (pv 3))))))))),?_⟩
 have lrl:(lrefs ts).length=m+1:=by rw[Ya];exact sq.len
 have VQ:t<ts.length:=by rw[sq.len];exact ht
 have M9:qV (lrefs ts) (t:Int)=j? (.ref ts[t].1):=by
  rw[iY (by omega) (by rw[lrl];omega)]
  simp
 refine⟨_,rfl,_,rfl,p,_,_,_,rfl,rfl,hT.sql,M9,?_⟩
 walk_at "rd"
 refine⟨p,_,rfl,hT.sql,λp1 n1=>?_⟩
 rw[xB (by rw[lrl];omega)]
 have k1:=aB n1 (.lst ((lrefs ts).take t));refine⟨_,rfl,_,rfl,_,_,rfl,rfl,_,rfl,p,_,rfl,(hT.same k1).sql,λp2 n2=>?_⟩
 rw[show(t:Int)+1=((t+1:Nat):Int) by omega] at*
 rw[D7 (by rw[lrl];omega)] at*
 have k2:=aB n2 (.lst ((lrefs ts).drop (t+1)));refine⟨p1,p2,_,_,rfl,rfl,k2 _ _ ay,ay,by rw[Yt,Za,lrl,C?];omega,λp3 n3=>?_⟩
 have k3:=aB n3 (.lst ((lrefs ts).take t++(lrefs ts).drop (t+1)));have e3:=ay (H:=L2.upd (L2.upd H p1 (.lst ((lrefs ts).take t))) p2 (.lst ((lrefs ts).drop (t+1)))) (a:=p3) (o:=.lst ((lrefs ts).take t++(lrefs ts).drop (t+1)));have g3:=(k1.trans k2).trans k3;generalize L2.upd (L2.upd (L2.upd H p1 (.lst ((lrefs ts).take t))) p2 (.lst ((lrefs ts).drop (t+1)))) p3 (.lst ((lrefs ts).take t++(lrefs ts).drop (t+1)))=H3 at e3 g3 ⊢;have YK:(lrefs ts).take t++(lrefs ts).drop (t+1)=lrefs (ts.take t++ts.drop (t+1)):=by simp[lrefs,List.map_take,List.map_drop]
 rw[YK] at e3;have hos:=λa=>Qn (ts:=ts) (t:=t) (a:=a) VQ
 have YL:(ts.take t++ts.drop (t+1)).length=m:=by rw[Yi,Yt,Za,sq.len];omega
 generalize ts.take t++ts.drop (t+1)=os at e3 hos YL;clear k1 k2 k3 YK n1 n2 n3;have M_:=hT.same g3;have YM:(lrefs os).length=m:=by rw[Ya];exact YL
 have et:=M_.it ts[t] (Yz _);have lt_:=sq.row ts[t] (Yz _);have YN:=λj=>qy VQ j
 generalize ts[t]=tt at et lt_ YN M9 ⊢;refine⟨_,rfl,p3,rfl,⟨_,aO.of e3⟩,λD hD=>gG (xs:=lrefs os) (λa ys H4=>aF H3 H4/\∃us:List LP,ys=lrefs us/\(∀u∈us,H4 u.1=j? (.lst (u.2.map V.int))/\u.1≠D)/\lvals us=(Yj a).map (LS ts t m d)) ⟨aB hD _,[],rfl,λu hu=>by simp at hu,rfl⟩ (λa ys H4 _ h=>aO.of (h.1 _ _ e3)) (λa m' x ys H4 hm' ha hx hy hlen h=>?_) (λys H4 hy h=>?_)⟩
 ·obtain⟨g4,us,rfl,hu,hv⟩:=h
  obtain⟨ha',rfl⟩:=zh hx;have VR:c9 t a<ts.length:=by rw[sq.len];exact tR (by omega)
  have eoa:os[a]=ts[c9 t a]:=by
   have:=hos a
   rw[Yc ha',Yc VR] at this;exact M? this
  rw[eoa];have er:=g4 _ _ (M_.it ts[c9 t a] (Yz _));have YO:=sq.row ts[c9 t a] (Yz _);have YQ:=λj=>qy VR j
  generalize ts[c9 t a]=rr at er YO YQ ⊢;have Ux:=g4 _ _ et;have lrr:(rr.2.map V.int).length=m+1:=by rw[Ya];exact YO
  refine⟨_,rfl,rr.1,_,rfl,.inl (aO.of er),?_⟩
  rw[lrr];refine⟨1,_,rfl,⟨by decide,by decide,by omega,by omega⟩,λD2 yx=>?_⟩
  rw[show((m+1:Nat):Int)-1=(m:Int) by omega,Yf]
  refine iA (λc zs H5=>aF H4 H5/\zs=((Yj c).map λc=>(IV (λa c=>Ay (lvals ts) (yr t a) c) a c).fdiv d).map V.int) ⟨aB yx _,rfl⟩ (λc m2 zs H5 hm2 hc D8 hlen2 h2=>?_) (λzs H5 D8 h2=>?_)
  ·obtain⟨g5,rfl⟩:=h2
   have SX:=g5 _ _ er;have YR:=g5 _ _ Ux;have SY:=ug (xs:=tt.2) (j:=0) (by omega)
   have Qo:=ug (xs:=tt.2) (j:=c+1) (by omega)
   have YS:=ug (xs:=rr.2) (j:=0) (by omega)
   have YT:=ug (xs:=rr.2) (j:=c+1) (by omega)
   rw[<- YN] at SY Qo;rw[<- YQ] at YS YT;rw[show(1:Int)+(c:Int)=((c+1:Nat):Int) by omega]
   have S0:c9 t a<m+1:=by rw[<- sq.len];exact VR
   have b1:=bT t 0 ht (by omega)
   have b2:=bT (c9 t a) (c+1) S0 (by omega)
   have b3:=bT (c9 t a) 0 S0 (by omega)
   have b4:=bT t (c+1) ht (by omega)
   refine⟨_,rfl,tt.1,_,_,_,rfl,rfl,aO.of YR,SY,_,rfl,_,rfl,rr.1,_,_,_,rfl,rfl,aO.of SX,YT,_,_,rfl,rfl,b1.ok b2,?_⟩
   refine⟨_,rfl,rr.1,_,_,_,rfl,rfl,aO.of SX,YS,_,rfl,_,rfl,tt.1,_,_,_,rfl,rfl,aO.of YR,Qo,_,_,rfl,rfl,b3.ok b4,?_⟩
   refine⟨_,_,rfl,rfl,_,rfl,_,_,rfl,rfl,bd.dv d0,?_⟩
   refine CW.emit hm2 hc (by rw[C?];omega) D8 hlen2 ⟨aF.aX g5 yx _,?_⟩
   rw[Wk,Yq,Yq];rfl
  ·obtain⟨g5,rfl⟩:=h2
   have hyD:=g5 _ _ hy;have Uy:D2≠D:=λz=>by rw[z,hy] at yx;cases yx
   refine CW.emit hm' ha (by rw[YM,C?];omega) hyD hlen ⟨aF.aX (g4.trans g5) hD _,us++[(D2,LS ts t m d a)],by simp[lrefs],λu mu=>?_,?_⟩
   ·rcases List.mem_append.mp mu with y|y
    ·obtain⟨u1,u2⟩:=hu u y
     exact⟨by rw[aL u2];exact g5 _ _ u1,u2⟩
    ·have:u=(D2,LS ts t m d a):=by simpa using y
     rw[this];exact⟨by rw[aL Uy];exact D8,Uy⟩
   ·have el:lvals (us++[((D2,LS ts t m d a):LP)])=lvals us++[LS ts t m d a]:=by simp[lvals]
    rw[el,Wk,Yq,hv];rfl
 ·obtain⟨g4,us,rfl,hu,hv⟩:=h
  rw[YM] at hv;exact q D us H4 (g3.trans g4) (g3.free hD) ⟨hy,λu mu=>(hu u mu).1⟩ hv
end
theorem Qp {ts us:List LP}{t m:Nat}{d:Int}(h:lvals us=(Yj m).map (LS ts t m d)):Uw m us/\∀a c,a<m->c<m->Ay (lvals us) a c=(IV (λa c=>Ay (lvals ts) (yr t a) c) a c).fdiv d:=by
 have hl:us.length=m:=by have:=Je W1 h;simpa using this
 refine⟨⟨hl,λu hu=>?_⟩,λa c ha hc=>?_⟩
 ·have:u.2∈lvals us:=List.mem_map_of_mem hu
  rw[h] at this;obtain⟨a,_,e⟩:=List.mem_map.mp this;rw[<- e];simp[LS]
 ·have e:(lvals us).getD a []=LS ts t m d a:=by rw[h];simp[Yb,ha]
  show((lvals us).getD a []).getD c 0=_
  rw[e];unfold LS;rw[Yb,Ye,Ys hc];rfl
def Oc (K:bM):Sp:=λvs H Q _=>∃(p:o?) (ts:List LP) (n E:Nat),vs=[.ref p]/\C6 H p ts/\Uw n ts/\n<=26/\n*(E+5)<9000/\(∀i j,i<n->j<n->(Ay (lvals ts) i j).natAbs<=2 ^ E)/\∀H',aF H H'->Q (.int (det n (Ay (lvals ts)))) H'
theorem Od {x:Int}{k:Nat}(hk:k<9000)(h:x.natAbs<=2 ^ k):Bd 9000 x:=Z8 h (Wj (by decide) hk)
def μd:St->Hp->Nat:=λσ H=>match σ with
 | [_,j? (.ref p),_,_,_]=>match H p with
  | some (.lst xs)=>xs.length
  | _=>0
 | _=>0
section
theorem xC (B:iw mg)(u7:b9 P w K mg base 1 "place_of_lead" ["table"] (Kz K))(D9:b9 P w K mg base 1 "lessened" Kr (B8 K))(F:Src K mg "determinant" kF ["table"]):b9 P w K mg base 2 "determinant" ["table"] (Oc K):=by
 refine F.ok dN (λvs H Q E h=>?_) (λf cdv A outer s' H vs Q E hr h=>?_)
 ·obtain⟨p,ts,n,E,rfl,_⟩:=h;rfl
 obtain⟨p0,YU,n,E9,rfl,Uu,sq0,hn,Oe,bA,q⟩:=h;refine⟨_,ai (aC (i:=1) dN.nd rfl (z? rfl) (pv 0))
  (ai (aC (i:=2) dN.nd rfl (z? rfl) ak)
  (ai (aC (i:=3) dN.nd rfl (z? rfl) ak)
  (ai (eW D? (a_ (zR (K:=K) rfl hr.units) (pv 1) (aZ ah) (bG _))
   (ai (aC (i:=4) dN.nd rfl (z? rfl) (aH u7 hr (af (pv 1) ah)))
   (ai (dQ (a_ NR (pv 4) tD (bG _))
    (av (aM ak))
    (b8))
   (ai (dQ (a_ iW (au bD (pv 4) ak) ak (bG _))
    (av (aC (i:=2) dN.nd rfl (z? rfl) (vX pX (pv 2))))
    (b8))
   (av (vV (i:=1) (j:=3) rfl dN.nd rfl rfl (by decide) rfl rfl (af (aH D9 hr (af (pv 1) (af (pv 4) (af (pv 3) ah)))) (af (bI (aI (K:=K) rfl) (bI (aI (K:=K) rfl) (pv 1) (pv 4) (λ_ _=>rfl)) ak (λ_ _=>rfl)) ah)) rfl))))))
  (av (aM (au aW (pv 2) (pv 3))))))),?_⟩
 generalize hA:Ay (lvals YU)=A0 at bA q;refine⟨_,rfl,?_⟩
 refine jI (λσ H2=>aF H H2/\∃(p:o?) (ts:List LP) (s d:Int) (o:Option V) (m:Nat),σ=[Rq p0,Rq p,j? (.int s),j? (.int d),o]/\C6 H2 p ts/\Uw m ts/\Bd 64 s/\Bd 9000 d/\((∃m' k,m=m'+1/\m+k=n/\Ba A0 n k d (Ay (lvals ts)) m s)\/(m=0/\s*d=det n A0))) μd ⟨aF.refl _,p0,YU,1,1,_,n,rfl,Uu,sq0,Bd.small (by decide) (by decide),(Bd.small (by decide) (by decide)).mono (by decide),?_⟩ ?_
 ·cases n with
  | zero=>exact .inr ⟨rfl,rfl⟩
  | succ n'=>exact .inl ⟨n',0,rfl,rfl,hA ▸ Ba.start A0 (n'+1)⟩
 ·rintro σ H2 ⟨g2,p,ts,s,d,o,m,rfl,hT,sq,bs,bd,hB⟩
  refine⟨_,rfl,aT rfl,λpe Na=>?_⟩
  have ke:=aB Na (.lst []);refine Vq (hT.same ke).den (GI (aO.of ay)) ⟨_,rfl,?_⟩
  rcases hB with ⟨m',k,em,hk,hBa⟩|⟨em,yu⟩
  ·subst em
   have hne:lvals ts≠[]:=λz=>by
    have:=Je W1 z
    rw[Ya,sq.len] at this;cases this
   have M_:=hT.same ke;have g3:=g2.trans ke;have hmu:μd [Rq p0,Rq p,j? (.int s),j? (.int d),o] H2=m'+1:=by
    show(match H2 p with|some (.lst xs)=>xs.length|_=>0)=m'+1
    rw[hT.top];show(lrefs ts).length=m'+1
    rw[Ya];exact sq.len
   rw[hmu];generalize L2.upd H2 pe (.lst [])=H3 at M_ g3;obtain⟨bd',bB⟩:=hBa.GK (by omega) hk bA
   refine Bk hne (win ?_)
   refine⟨_,rfl,p,ts,rfl,M_,λt ht=>by rw[sq.row t ht];omega,by rw[sq.len];omega,λt H4 g4 ht hnz=>?_,λH4 g4 hz=>?_⟩
   ·have ht':t<m'+1:=by rw[<- sq.len];exact ht
    refine⟨_,rfl,rfl,_,rfl,jG ?_⟩
    have Ri:=M_.same g4;apply merge (M:=λσ HM=>HM=H4/\σ=[Rq p0,Rq p,j? (.int (sg t*s)),j? (.int d),Iq (t)])
    case h1=>
     intro key;refine⟨_,rfl,_,_,rfl,rfl,(by decide:(2:Int)≠0),rfl,_,rfl,?_⟩
     have YV:((t:Int)).fmod 2=((t % 2:Nat):Int):=by
      rw[Y8 _ (by decide)];omega
     by_cases c:t % 2=1
     ·have es:sg t*s=-s:=by unfold sg;rw[W9 (by omega)];omega
      refine Ph (by show V.int (((t:Int)).fmod 2)=V.int 1;rw[YV,c];rfl) ⟨_,rfl,_,rfl,key _ _ ⟨rfl,by rw[es];rfl⟩⟩
     ·have es:sg t*s=s:=by unfold sg;rw[Ja (by omega)];omega
      refine Pg (λz=>c (by have z':V.int (((t:Int)).fmod 2)=V.int 1:=z;have:=V.int.inj z';rw[YV] at this;omega)) (key _ _ ⟨rfl,by rw[es];rfl⟩)
    case h2=>
     rintro σ HM ⟨rfl,rfl⟩;refine⟨_,rfl,_,rfl,_,rfl,p,ts,t,m',d,rfl,Ri,sq,ht',by omega,hBa.d0,bd,λi j hi hj=>Od Oe (bB i j hi hj),λq1 us H5 g5 n5 hU hv=>?_⟩
     have YW:=Ri.same g5;have M9:qV (lrefs ts) (t:Int)=j? (.ref ts[t].1):=by
      rw[iY (by omega) (by rw[Ya];omega)]
      simp
     have SY:=ug (xs:=ts[t].2) (j:=0) (by rw[sq.row _ (Yz _)];omega)
     rw[<- qy ht] at SY;refine⟨_,rfl,_,rfl,p,_,_,_,rfl,rfl,YW.sql,M9,ts[t].1,_,_,_,rfl,rfl,aO.of (YW.it ts[t] (Yz _)),SY,_,_,rfl,?_⟩
     obtain⟨YX,Rj⟩:=Qp hv;have bs':Bd 64 (sg t*s):=by
      refine Bd.le (y:=s) ?_ bs
      rw[Zh,IX,W2];exact Yd _
     refine⟨⟨((g3.trans g4).trans g5),q1,us,sg t*s,Ay (lvals ts) t 0,_,m',rfl,hU,YX,bs',Od Oe (bB t 0 ht' (by omega)),?_⟩,?_⟩
     ·cases m' with
      | zero=>
       have:t=0:=by omega
       subst this;refine .inr ⟨rfl,?_⟩
       have:=hBa.fin
       have e1:sg 0=1:=rfl;rw[e1,Zk];exact this
      | succ m2=>
       refine .inl ⟨m2,k+1,rfl,by omega,hBa.step ht' hnz λa c ha hc=>?_⟩
       obtain⟨qq,e⟩:=hBa.divides ht' hnz ha hc;rw[Rj a c ha hc,e,Int.mul_fdiv_cancel_left _ hBa.d0]
     ·show(match H5 q1 with|some (.lst xs)=>xs.length|_=>0)<m'+1
      rw[hU.top];show(lrefs us).length<m'+1
      rw[Ya,YX.len];omega
   ·refine⟨_,rfl,rfl,_,rfl,ko ?_⟩
    have:=hBa.none λi hi=>hz i (by rw[sq.len];exact hi)
    rw[this] at q;exact q H4 (g3.trans g4)
  ·subst em
   have he:lvals ts=[]:=by
    have:=sq.len
    rw[List.length_eq_zero_iff] at this;rw[this];rfl
   refine uN he ?_
   refine⟨_,rfl,_,rfl,_,_,rfl,rfl,bs.ok bd,?_⟩
   show Q (.int (s*d)) _
   rw[yu];exact q _ (g2.trans ke)
end
def qz (K:bM):Sp:=λvs H Q _=>∃(a:o?) (f:List Int),vs=[.ref a]/\aO K H a (f.map V.int)/\f.length<=1000/\Pn H Q (trim f)
def D_ (K:bM):Sp:=λvs H Q _=>∃(a:o?) (f:List Int) (i:Nat),vs=[.ref a,.int i]/\aO K H a (f.map V.int)/\Q (.int (aq f i)) H
def KA (K:bM):Sp:=λvs H Q _=>∃(a b:o?) (f g:List Int),vs=[.ref a,.ref b]/\aO K H a (f.map V.int)/\aO K H b (g.map V.int)/\f.length<=1000/\g.length<=1000/\fY 1000000 f/\fY 1000000 g/\Pn H Q (eO f g)
theorem xD {x y:Int}(hx:Bd 1000000 x)(hy:Bd 1000000 y):mX x y:=hx.ok hy
section
theorem j9 (B:iw mg)(F:Src K mg "without_noughts_behind" dZ ["numbers"]):b9 P w K mg base 1 "without_noughts_behind" ["numbers"] (qz K):=by
 refine F.ok dR (λvs H Q E h=>?_) (λf cdv A outer s H vs Q E hr h=>?_)
 ·obtain⟨a,f,rfl,_⟩:=h;rfl
 obtain⟨a,f,rfl,hS,hlen,q⟩:=h;refine⟨_,ai (aC (i:=1) dR.nd rfl (z? rfl) (aJ (aN (K:=K) rfl) rfl B.len bN (af (pv 0) ah)))
  (ai (eW D? (PW.pt (HY (a_ yS (pv 1) ak (bG _)) (EX (a_ iW (bI (aI (K:=K) rfl) (pv 0) (au bO (pv 1) ak) (λ_ _=>rfl)) ak (bG _)))))
   (av (zI (i:=1) dR.nd rfl (z? rfl) ak L_)))
  (av (aM (dU (dW (K:=K) rfl) (pv 0) fm (fq (pv 1)))))),?_⟩
 refine⟨_,rfl,a,_,rfl,.inl hS,?_⟩
 rw[Ya];have fin:∀(k:Nat) H2,aF H H2->k<=f.length->ir f f.length=ir f k->ir f k=k->aO K H2 a (f.map V.int)->∀p,H2 p=q?->Q (.ref p) (upd H2 p (.lst (iX (f.map V.int) q? (j? (k:Int))))):=λk H2 g hk e1 e2 hS2 p hp=>by
  rw[tQ f k hk];refine q p _ (g.trans (aB hp _)) (g.free hp) ?_
  unfold trim;rw[e1,e2];exact ay
 refine jI (λσ H2=>H2=H/\∃k:Nat,σ=[Rq a,j? (.int k)]/\k<=f.length/\ir f f.length=ir f k) (λσ _=>match σ with | [_,j? (.int k)]=>k.toNat|_=>0) ⟨rfl,f.length,rfl,Yd _,rfl⟩ ?_
 rintro σ H2 ⟨rfl,k,rfl,hk,ht⟩;refine⟨_,rfl,_,_,rfl,rfl,_,rfl,fV (λc=>?_) (λc=>?_)⟩
 ·have c':(0:Int)<k:=Jc c
  obtain⟨m,rfl⟩:∃m,k=m+1:=⟨k-1,by omega⟩
  refine⟨_,rfl,_,rfl,_,_,rfl,rfl,a,_,_,_,rfl,rfl,hS,eT (by omega) (by omega),rfl,_,rfl,?_⟩
  have em:(((m+1:Nat):Int)-1).toNat=m:=by omega
  rw[em];refine fV (λc=>?_) (λc=>?_)
  ·have c2:aq f m=0:=V.int.inj (Jc c)
   refine win ⟨_,rfl,_,_,rfl,rfl,⟨rfl,m,?_,by omega,?_⟩,?_⟩
   ·have e:((m+1:Nat):Int)-1=(m:Int):=by omega
    show [j? (V.ref a),j? (V.int (((m+1:Nat):Int)-1))]=_
    rw[e]
   ·exact ht.trans (by show(if aq f m=0 then ir f m else m+1)=_;rw[Ja c2])
   ·show(((m+1:Nat):Int)-1).toNat<(((m+1:Nat):Int)).toNat
    omega
  ·have c2:aq f m≠0:=λz=>c (Jb (Je V.int z))
   exact⟨_,rfl,_,rfl,_,rfl,a,_,rfl,hS,fin (m+1) _ (aF.refl _) hk ht (by show(if aq f m=0 then ir f m else m+1)=_;rw[W9 c2]) hS⟩
 ·have c':k=0:=by
   have:¬ (0:Int)<k:=λz=>c (Jb z)
   omega
  subst c';refine jG ?_
  exact⟨_,rfl,_,rfl,_,rfl,a,_,rfl,hS,fin 0 _ (aF.refl _) hk ht rfl hS⟩
end
section
theorem xE (B:iw mg)(F:Src K mg "coefficient" kE DZ):b9 P w K mg base 1 "coefficient" DZ (D_ K):=by
 refine F.ok xx (λvs H Q E h=>?_) (λf cdv A outer s H vs Q E hr h=>?_)
 ·obtain⟨a,f,i,rfl,_⟩:=h;rfl
 obtain⟨a,f,i,rfl,hS,q⟩:=h;refine⟨_,av (aM (vU (a_ Ie (pv 1) (aJ (aN (K:=K) rfl) rfl B.len bN (af (pv 0) ah)) (bG _)) (bI (aI (K:=K) rfl) (pv 0) (pv 1) (λ_ _=>rfl)) ak)),?_⟩
 refine⟨_,rfl,_,rfl,a,_,rfl,.inl hS,_,_,rfl,rfl,_,rfl,?_⟩
 rw[Ya];refine fV (λc=>?_) (λc=>?_)
 ·have c':(i:Int)<(f.length:Nat):=Jc c
  refine⟨_,rfl,_,rfl,a,_,_,_,rfl,rfl,hS,eT (by omega) (by omega),?_⟩
  rw[Yf];exact q
 ·have c':¬ (i:Int)<(f.length:Nat):=λz=>c (Jb z)
  rw[bF (by omega)] at q
  exact q
end
section
theorem yy (B:iw mg)(F:Src K mg "multiplied" mh m9):b9 P w K mg base 1 "multiplied" m9 (KA K):=by
 refine F.ok eZ (λvs H Q E h=>?_) (λf cdv A outer s H vs Q E hr h=>?_)
 ·obtain⟨a,b,f,g,rfl,_⟩:=h;rfl
 obtain⟨a,b,f,g,rfl,ha,hb,lf,lg,bf,bg,q⟩:=h;refine⟨_,ai (dQ (PW.pt (HZ (a_ (rB (K:=K) rfl hr.units) (pv 0) (aZ ah) (bG _)) (C_ (a_ (rB (K:=K) rfl hr.units) (pv 1) (aZ ah) (bG _)))))
   (av (aM (aZ ah)))
   (b8))
  (ai (aC (i:=2) eZ.nd rfl (z? rfl) (au jF (aZ (af ak ah)) (au bO (au bU (aJ (aN (K:=K) rfl) rfl B.len bN (af (pv 0) ah)) (aJ (aN (K:=K) rfl) rfl B.len bN (af (pv 1) ah))) ak)))
  (ai (bZ D? rfl (gQ (K:=K) rfl rfl B.enumerate (af (pv 0) ah)) (cG (n:=2) (K:=K) rfl rfl (aP (aA (i:=3) eZ.nd rfl (z? rfl)) (aP (aA (i:=4) eZ.nd rfl (z? rfl)) cF)))
   (av (bZ D? rfl (gQ (K:=K) rfl rfl B.enumerate (af (pv 1) ah)) (cG (n:=2) (K:=K) rfl rfl (aP (aA (i:=5) eZ.nd rfl (z? rfl)) (aP (aA (i:=6) eZ.nd rfl (z? rfl)) cF)))
    (av (EY (pv 2) (au bU (pv 3) (pv 5)) (ze (K:=K) rfl) (au aW (pv 4) (pv 6)) OV set_list)))))
  (av (aM (pv 2))))),?_⟩
 have S1:f=[]\/g=[]->∀H2,aF H H2->∀p,H2 p=q?->Q (.ref p) (upd H2 p (.lst [])):=λhn H2 g2 p hp=>by
  have e:eO f g=[]:=by unfold eO;rw[Ja hn]
  refine q p _ (g2.trans (aB hp _)) (g2.free hp) ?_
  rw[e];exact ay
 refine⟨_,rfl,aT rfl,λp1 n1=>?_⟩
 have g1:=aB n1 (.lst []);refine Vo (xs:=f) (ys:=[]) (g1.seq ha) (aO.of ay) ⟨_,rfl,fV (λc=>?_) (λc=>?_)⟩
 ·refine ko ?_
  exact⟨aT rfl,S1 (.inl (Jc c)) _ g1⟩
 have hf:f≠[]:=λz=>c (Jb z)
 refine⟨_,rfl,aT rfl,λp2 n2=>?_⟩
 have g2:=g1.trans (aB n2 (.lst []));refine Vo (xs:=g) (ys:=[]) (g2.seq hb) (aO.of ay) ⟨_,rfl,fV (λc=>?_) (λc=>?_)⟩
 ·exact⟨aT rfl,S1 (.inr (Jc c)) _ g2⟩
 have hg:g≠[]:=λz=>c (Jb z)
 have l1:0<f.length:=List.length_pos_iff.mpr hf;have l2:0<g.length:=List.length_pos_iff.mpr hg;refine⟨aT rfl,λp3 n3=>?_⟩
 have g3:=g2.trans (aB n3 (.lst [.int 0]));refine⟨_,rfl,a,_,rfl,.inl (g3.seq ha),_,rfl,b,_,rfl,.inl (g3.seq hb),?_⟩
 rw[Ya,Ya];have en:((f.length:Int)+(g.length:Int)-1)=((f.length+g.length-1:Nat):Int):=by omega
 refine⟨_,_,rfl,rfl,_,_,rfl,rfl,p3,_,_,rfl,rfl,ay,by omega,by omega,?_,λp hp=>?_⟩
 ·rw[C?];show 1*_<=_;omega
 rw[en,Yf,rN];have g4:=g3.trans (aB hp (.lst ((Yo (f.length+g.length-1) (0:Int)).map V.int)));have f4:H p=q?:=g3.free hp;refine⟨_,rfl,a,rfl,⟨_,g4.seq ha⟩,kY (st:=0) (xs:=f.map V.int) (λi σ H2=>aF H H2/\∃(P:List Int) (o1 o2 o3 o4:Option V),σ=[Rq a,Rq b,Rq p,o1,o2,o3,o4]/\H2 p=j? (.lst (P.map V.int))/\P.length=f.length+g.length-1/\∀m,m<P.length->aq P m=f7 f g i m)
  ⟨g4,_,_,_,_,_,rfl,ay,by simp,λm hm=>cM _ _⟩ ?_ ?_ ?_⟩
 ·rintro i σ H2 hi ⟨gg,_⟩
  exact gg.seq ha
 ·rintro i x σ H2 r hx ⟨gg,P,o1,o2,o3,o4,rfl,eP,lP,hP⟩ hr'
  obtain⟨fi,Rk,rfl⟩:=aS hx;have hi:i<f.length:=(List.getElem?_eq_some_iff.mp Rk).1;have YY:aq f i=fi:=rH Rk;have gr:=aB hr' (.tup [.int ((0+i:Nat):Int),.int fi]);refine⟨r,_,rfl,j5.of ay,rfl,_,_,rfl,_,_,rfl,rfl,?_⟩
  refine⟨_,rfl,b,rfl,⟨_,(gg.trans gr).seq hb⟩,kY (st:=0) (xs:=g.map V.int) (λj σ H2=>aF H H2/\∃(P:List Int) (o3 o4:Option V),σ=[Rq a,Rq b,Rq p,Iq ((0+i:Nat)),j? (.int fi),o3,o4]/\H2 p=j? (.lst (P.map V.int))/\P.length=f.length+g.length-1/\∀m,m<P.length->aq P m=pM f g i j m)
   ⟨gg.trans gr,P,_,_,rfl,gr _ _ eP,lP,λm hm=>by rw[wk];exact hP m hm⟩ ?_ ?_ ?_⟩
  ·rintro j σ H3 hj ⟨gg,_⟩
   exact gg.seq hb
  ·rintro j y σ H3 r2 hy ⟨gg,P,o3,o4,rfl,eP,lP,hP⟩ hr2
   obtain⟨gj,S2,rfl⟩:=aS hy;have hj:j<g.length:=(List.getElem?_eq_some_iff.mp S2).1;have S3:aq g j=gj:=rH S2;have Rl:=aB hr2 (.tup [.int ((0+j:Nat):Int),.int gj]);refine⟨r2,_,rfl,j5.of ay,rfl,_,_,rfl,_,_,rfl,rfl,?_⟩
   have Og:(((0+i:Nat):Int)+((0+j:Nat):Int))=((i+j:Nat):Int):=by omega
   have hij:i+j<P.length:=by omega
   have YZ:=Rl _ _ eP;refine⟨_,rfl,_,rfl,_,rfl,_,_,rfl,rfl,p,_,_,.int (aq P (i+j)),rfl,rfl,aO.of YZ,by omega,?_,?_⟩
   ·rw[Og,Yf];exact qc hij
   refine⟨_,rfl,_,rfl,_,_,rfl,rfl,xD (by rw[<- YY];exact bf.aq i) (by rw[<- S3];exact bg.aq j),_,_,rfl,rfl,p,_,_,i+j,rfl,rfl,YZ,?_,?_⟩
   ·rw[Og,Ya];exact rO (by omega) (by omega)
   refine⟨(gg.trans Rl).aX f4 _,P.set (i+j) (aq P (i+j)+fi*gj),_,_,rfl,?_,by rw[Wv];exact lP,λm hm=>?_⟩
   ·rw[iZ];exact ay
   ·rw[Wv] at hm
    rw[nC hij,wm,hP m hm,<- YY,<- S3];split
    ·rename_i h;subst h;rw[hP _ hm]
    ·rfl
  ·rintro σ H3 ⟨gg,P,o3,o4,rfl,eP,lP,hP⟩
   refine⟨gg,P,_,_,_,_,rfl,eP,lP,λm hm=>?_⟩
   rw[<- zd];have:=hP m hm
   rw[Ya] at this;exact this
 ·rintro σ H2 ⟨gg,P,o1,o2,o3,o4,rfl,eP,lP,hP⟩
  refine⟨_,rfl,q p H2 gg f4 ?_⟩
  have e:P=eO f g:=by
   refine rJ ?_ λm hm=>?_
   ·unfold eO;rw[W9 (by rintro (z|z);exact hf z;exact hg z),Ya,Yg];exact lP
   ·rw[oG,hP m hm,Ya];rfl
  rw[<- e];exact eP
end
def Oh (K:bM):Sp:=λvs H Q _=>∃(a:o?) (f:List Int),vs=[.ref a]/\aO K H a (f.map V.int)/\f.length<=1000/\Pn H Q (dl f)
section
theorem Ea (B:iw mg)(F:Src K mg "derived" oR ["f"]):b9 P w K mg base 1 "derived" ["f"] (Oh K):=by
 refine F.ok D6 (λvs H Q E h=>?_) (λf cdv A outer s H vs Q E hr h=>?_)
 ·obtain⟨a,f,rfl,_⟩:=h;rfl
 obtain⟨a,f,rfl,ha,lf,q⟩:=h;refine⟨_,av (aM (dU (dW (K:=K) rfl) (bY (aG (N:=["at","part"]) (sl:=[q?,q?]) (ao oR) ["f"] rfl rfl (by decide +kernel)) rfl (gQ (K:=K) rfl rfl B.enumerate (af (pv 0) ah)) (λ_ _ _ _ _=>(cG (n:=2) (K:=K) rfl rfl (aP (aA (i:=0) (Yk_ ["at","part"]) rfl (z? rfl)) (aP (aA (i:=1) (Yk_ ["at","part"]) rfl (z? rfl)) cF)))) (λ_ _ _ _ _=>aR) (λ_ _ _ _ _=>(au aW (pv 0) (pv 1)))) (fq ak) fm)),?_⟩
 refine⟨_,rfl,a,rfl,⟨_,ha⟩,λD hD=>?_⟩
 refine tM (NT:=0) (xs:=f.map V.int) (λi ys H2=>aF H H2/\ys=((Yj i).map λi:Nat=>(i:Int)*aq f i).map V.int) ⟨aB hD _,rfl⟩ (λi ys H2 _ h=>h.1.seq ha) ?_ ?_
 ·rintro i m x ys H2 r hm hi hx hy hlen ⟨gg,rfl⟩ hr'
  obtain⟨n,hn,rfl⟩:=aS hx;have kr:=aB hr' (.tup [.int ((0+i:Nat):Int),.int n]);rw[Ya] at hi;refine⟨r,_,rfl,j5.of ay,rfl,_,_,rfl,_,_,rfl,rfl,?_⟩
  refine⟨_,rfl,_,rfl,_,_,rfl,rfl,gO (by omega) (by omega),?_⟩
  refine CW.emit hm (by rw[Ya];exact hi) (by rw[Ya,C?];omega) (kr _ _ hy) hlen ⟨aF.aX (gg.trans kr) hD _,?_⟩
  rw[Wk,Yq,Yq];have e:((0+i:Nat):Int)=(i:Int):=by omega
  show _++[V.int (((0+i:Nat):Int)*n)]=_++[V.int ((i:Int)*aq f i)]
  rw[e,rH hn]
 ·rintro ys H2 hy ⟨gg,rfl⟩
  rw[Ya] at hy;refine⟨_,rfl,D,_,rfl,aO.of hy,λp hp=>?_⟩
  refine q p _ (gg.trans (aB hp _)) (gg.free hp) ?_
  rw[ay];congr 2
  have e1:iX (((Yj f.length).map λi:Nat=>(i:Int)*aq f i).map V.int) (j? 1) q?=(((Yj f.length).map λi:Nat=>(i:Int)*aq f i).drop 1).map V.int:=by
   unfold iX;have h1:HT.qU (((Yj f.length).map λi:Nat=>(i:Int)*aq f i).map V.int).length 0 (j? 1)=min 1 f.length:=by
    have:=HT.lN (((Yj f.length).map λi:Nat=>(i:Int)*aq f i).map V.int).length 0 1
    rw[Ya,Ya,Yg] at this ⊢;exact this
   have h2:HT.qU (((Yj f.length).map λi:Nat=>(i:Int)*aq f i).map V.int).length (((Yj f.length).map λi:Nat=>(i:Int)*aq f i).map V.int).length q?=f.length:=by
    rw[Ya,Ya,Yg];rfl
   rw[h1,h2,Zv (by rw[Za,Ya,Ya,Yg];exact Yd _)]
   by_cases hz:f.length=0
   ·rw[hz];rfl
   ·rw[Nat.min_eq_left (by omega),List.map_drop]
  rw[e1];congr 1
  refine rJ ?_ λi hi=>?_
  ·unfold dl;rw[Za,Ya,Yg,Ya,Yg]
  ·rw[Za,Ya,Yg] at hi
   rw[vG,d_ (by rw[Za,Ya,Yg];exact hi)]
   simp
end
def S4 (H:Hp)(Q:VK)(q r:List Int):Prop:=∀t a b H',aF H H'->H a=q?->H b=q?->a≠b->H' t=j? (.tup [.ref a,.ref b])->H' a=j? (.lst (q.map V.int))->H' b=j? (.lst (r.map V.int))->Q (.ref t) H'
inductive KC (K:bM)(vs:List V)(H:Hp)(Q:VK)(xF:XK):Prop where
 | mk (a b:o?) (f g:List Int) (m n:Nat) (u9:vs=[.ref a,.ref b]) (u_:aO K H a (f.map V.int)) (vc:aO K H b (g.map V.int)) (ve:f.length<=1000) (vf:g.length<=1000) (vg:dM g) (xG:fY m f) (zx:fY n g) (A6:m+f.length*(n+2)<=1000000) (Eb:∀q r,wC f g q r->fY (m+f.length*(n+2)) q->fY (m+f.length*(n+2)) r->S4 H Q q r)
section
theorem Ec (B:iw mg)(cV:b9 P w K mg base 1 "without_noughts_behind" ["numbers"] (qz K))(F:Src K mg "divided" tZ m9):b9 P w K mg base 2 "divided" m9 (KC K):=by
 refine F.ok fF (λvs H Q E h=>?_) (λf cdv A outer s H vs Q E hr h=>?_)
 ·obtain⟨a,b,f,g,m,n,rfl,_⟩:=h;rfl
 obtain⟨a,b,f,g,mB,nB,rfl,ha,hb,lf,lg,hg,bf,bg,hB,q⟩:=h;have XU:0<g.length:=List.length_pos_iff.mpr hg.1;refine⟨_,ai (aC (i:=2) fF.nd rfl (z? rfl) (jx fN rfl B.list lU (af (pv 0) ah)))
  (ai (aC (i:=3) fF.nd rfl (z? rfl) (aZ ah))
  (ai (aC (i:=4) fF.nd rfl (z? rfl) (au bO (aJ (aN (K:=K) rfl) rfl B.len bN (af (pv 1) ah)) ak))
  (ai (bZ D? rfl (zU rfl B.reversed (af (wj rfl B.range (af (au bO (aJ (aN (K:=K) rfl) rfl B.len bN (af (pv 0) ah)) (pv 4)) ah)) ah)) (aA (i:=5) fF.nd rfl (z? rfl))
   (ai (aC (i:=6) fF.nd rfl (z? rfl) (bI (aI (K:=K) rfl) (pv 2) (au bU (pv 5) (pv 4)) (λ_ _=>rfl)))
   (ai (d9 (mW R? F! G! c8 (pv 3) (af (pv 6) ah)))
   (av (bZ D? rfl (gQ (K:=K) rfl rfl B.enumerate (af (pv 1) ah)) (cG (n:=2) (K:=K) rfl rfl (aP (aA (i:=7) fF.nd rfl (z? rfl)) (aP (aA (i:=8) fF.nd rfl (z? rfl)) cF)))
    (av (EY (pv 2) (au bU (pv 5) (pv 7)) (ze (K:=K) rfl) (au aW (pv 6) (pv 8)) OW set_list)))))))
  (ai (d9 (Dh R? PySem.F.slot_list_reverse PySem.F.type_list_reverse pZ (pv 3) ))
  (av (aM (ja (af (pv 3) (af (aH cV hr (af (pv 2) ah)) ah))))))))),?_⟩
 refine⟨_,rfl,a,_,rfl,.inl ha,λp1 n1=>?_⟩
 have k1:=aB n1 (.lst (f.map V.int));refine⟨aT rfl,λp2 n2=>?_⟩
 have k2:=aB n2 (.lst []);have g2:=k1.trans k2;have f2:H p2=q?:=k1.free n2;have hne:p1≠p2:=bK ay n2;refine⟨_,rfl,b,_,rfl,.inl (g2.seq hb),_,_,rfl,rfl,?_⟩
 rw[Ya];refine⟨_,rfl,a,_,rfl,.inl (g2.seq ha),?_⟩
 rw[Ya];refine⟨_,rfl,_,_,rfl,rfl,_,rfl,λp3 n3=>?_⟩
 have k3:=aB n3 (.oZ 0 ((f.length:Int)-((g.length:Int)-1)));have g3:=g2.trans k3;obtain⟨N,hN⟩:∃N,N=f.length-(g.length-1):=⟨_,rfl⟩;have eN:((f.length:Int)-((g.length:Int)-1)).toNat=N:=by omega
 refine⟨p3,_,rfl,ay,by omega,by omega,?_⟩
 rw[eN];refine rG (λi σ H2=>aF H H2/\∃(Qr R:List Int) (o1 o2 o3 o4:Option V),σ=[Rq a,Rq b,Rq p1,Rq p2,j? (.int ((g.length:Int)-1)),o1,o2,o3,o4]/\H2 p2=j? (.lst (Qr.map V.int))/\H2 p1=j? (.lst (R.map V.int))/\wD f g N i Qr R/\fY (mB+i*(nB+2)) R/\fY (mB+i*(nB+2)) Qr)
  ⟨g3,[],f,_,_,_,_,rfl,k3 _ _ ay,k3 _ _ (k2 _ _ ay),⟨rfl,rfl,λm hm=>?_,λm h1 h2=>by omega,λh=>Jg h (by decide)⟩,bf.mono (by omega),λx hx=>by simp at hx⟩ ?_ ?_
 ·have hz:conv (HP N 0 []) g m=0:=by
   rw[qe (f':=[]) (g':=g) (λa=>?_) (λ_=>rfl)]
   ·rfl
   ·unfold HP
    rw[List.reverse_nil,List.append_nil,cM,gR]
  rw[hz];omega
 ·rintro i σ H2 hi ⟨gg,Qr,R,o1,o2,o3,o4,rfl,eQ,eR,D,bR,bQ⟩
  have lr:=D.lr;have lq:=D.lq;have hN1:N<=f.length:=by omega
  have et:((f.length:Int)-((g.length:Int)-1)-1-(i:Int))=((N-1-i:Nat):Int):=by omega
  rw[et];have ep:(((N-1-i:Nat):Int)+((g.length:Int)-1))=((N-1-i+(g.length-1):Nat):Int):=by omega
  refine⟨_,rfl,_,rfl,_,rfl,_,_,rfl,rfl,p1,_,_,_,rfl,rfl,aO.of eR,eT (by omega) (by omega),?_⟩
  rw[ep,Yf];generalize pN:aq R (N-1-i+(g.length-1))=lead;have zy:Bd (mB+i*(nB+2)) lead:=pN ▸ bR.aq _;refine⟨_,rfl,.inl ⟨rfl,_,aO.of eQ⟩,_,rfl,p2,_,_,rfl,rfl,eQ,by rw[Ya,C?];omega,?_⟩
  have g4:aF H (upd H2 p2 (.lst (Qr.map V.int++[V.int lead]))):=gg.aX f2 _;have hR4:upd H2 p2 (.lst (Qr.map V.int++[V.int lead])) p1=j? (.lst (R.map V.int)):=by rw[aL hne];exact eR
  have hmul:(i+1)*(nB+2)=i*(nB+2)+(nB+2):=by rw[Wg,W2]
  have hle:(i+1)*(nB+2)<=f.length*(nB+2):=Yx _ (by omega)
  refine⟨_,rfl,b,rfl,⟨_,g4.seq hb⟩,kY (st:=0) (xs:=g.map V.int) (λj σ H3=>aF H H3/\∃(R':List Int) (o3 o4:Option V),σ=[Rq a,Rq b,Rq p1,Rq p2,j? (.int ((g.length:Int)-1)),Iq ((N-1-i:Nat)),j? (.int lead),o3,o4]/\H3 p2=j? (.lst ((Qr++[lead]).map V.int))/\H3 p1=j? (.lst (R'.map V.int))/\LO g R R' (N-1-i) lead j/\fY (mB+(i+1)*(nB+2)) R')
   ⟨g4,R,_,_,rfl,by rw[<- rP];exact ay,hR4,LO.start ..,bR.mono (by omega)⟩ ?_ ?_ ?_⟩
  ·rintro j σ H3 hj ⟨gg,_⟩
   exact gg.seq hb
  ·rintro j y σ H3 r2 hy ⟨gg,R',o3,o4,rfl,VS,Oi,hR,Qq⟩ hr2
   obtain⟨gj,S2,rfl⟩:=aS hy;have hj:j<g.length:=(List.getElem?_eq_some_iff.mp S2).1;have S3:aq g j=gj:=rH S2;have Rl:=aB hr2 (.tup [.int ((0+j:Nat):Int),.int gj]);refine⟨r2,_,rfl,j5.of ay,rfl,_,_,rfl,_,_,rfl,rfl,?_⟩
   have Og:(((N-1-i:Nat):Int)+((0+j:Nat):Int))=((N-1-i+j:Nat):Int):=by omega
   have hij:N-1-i+j<R.length:=by omega
   have Nb:N-1-i+j<R'.length:=by rw[hR.1];exact hij
   have Y_:=Rl _ _ Oi;have ZA:Bd nB gj:=S3 ▸ bg.aq j;refine⟨_,rfl,_,rfl,_,rfl,_,_,rfl,rfl,p1,_,_,.int (aq R' (N-1-i+j)),rfl,rfl,aO.of Y_,by omega,?_,?_⟩
   ·rw[Og,Yf];exact qc Nb
   refine⟨_,rfl,_,rfl,_,_,rfl,rfl,xD (zy.mono (by omega)) (ZA.mono (by omega)),_,_,rfl,rfl,p1,_,_,N-1-i+j,rfl,rfl,Y_,?_,?_⟩
   ·rw[Og,Ya];exact rO (by omega) (by omega)
   have hstep:=hR.step (t:=N-1-i) hij;rw[S3] at hstep;refine⟨(gg.trans Rl).aX n1 _,R'.set (N-1-i+j) (aq R' (N-1-i+j)-lead*gj),_,_,rfl,?_,?_,hstep,wo λm hm=>?_⟩
   ·rw[aL (Ne.symm hne)];exact Rl _ _ VS
   ·rw[iZ];exact ay
   ·rw[nC Nb]
    split
    ·have hmR:N-1-i+j<R.length:=hij
     have e1:=hR.2 (N-1-i+j) hmR;rw[W9 (by omega)] at e1
     rw[e1];have b1:Bd (mB+i*(nB+2)) (aq R (N-1-i+j)-0):=by rw[Int.sub_zero];exact bR.aq _
     exact(b1.sub (zy.mul ZA)).mono (by omega)
    ·exact Qq.aq m
  ·rintro σ H3 ⟨gg,R',o3,o4,rfl,VS,Oi,hR,Qq⟩
   rw[Ya] at hR;rw[<- pN] at hR;refine⟨gg,Qr++[lead],R',_,_,_,_,rfl,VS,Oi,?_,Qq,(bQ.mono (by omega)).snoc (zy.mono (by omega))⟩
   have:=D.next hg hN hi hR
   rw[pN] at this;exact this
 ·rintro σ H2 ⟨gg,Qr,R,o1,o2,o3,o4,rfl,eQ,eR,D,bR,bQ⟩
  have lr:=D.lr;have hle:N*(nB+2)<=f.length*(nB+2):=Yx _ (by omega)
  refine⟨_,rfl,.inl ⟨rfl,_,aO.of eQ⟩,p2,_,rfl,rfl,eQ,?_⟩
  have hrv:(Qr.map V.int).reverse=Qr.reverse.map V.int:=by rw[List.map_reverse]
  rw[hrv];have g5:aF H (upd H2 p2 (.lst (Qr.reverse.map V.int))):=gg.aX f2 _;have hR5:upd H2 p2 (.lst (Qr.reverse.map V.int)) p1=j? (.lst (R.map V.int)):=by rw[aL hne];exact eR
  refine⟨_,rfl,_,rfl,p1,R,rfl,aO.of hR5,by omega,λp6 H6 g6 n6 e6=>⟨aT rfl,λp7 n7=>?_⟩⟩
  have k7:=aB n7 (.tup [.ref p2,.ref p6]);have e2:=g6 _ _ (show upd H2 p2 (.lst (Qr.reverse.map V.int)) p2=j? (.lst (Qr.reverse.map V.int)) from ay)
  refine q Qr.reverse (trim R) (D.done hg hN) (λx hx=>(bQ x (List.mem_reverse.mp hx)).mono (by omega)) (bR.trim.mono (by omega)) p7 p2 p6 _ ((g5.trans g6).trans k7) f2 (g5.free n6) ?_ ay (k7 _ _ e2) (k7 _ _ e6)
  exact bK (show upd H2 p2 (.lst (Qr.reverse.map V.int)) p2=j? (.lst (Qr.reverse.map V.int)) from ay) n6
end
def rr (f:Fn)(n:Nat)(g:Fn)(L:Nat):Nat->Fn:=λi c=>bw L λk=>g k*tk f n (k+i) c
theorem Nc {f:Fn}{n:Nat}(hf:Top f n)(hn:1<=n)(k:Nat):kT f n (cv (xp 1) (tk f n k)) (tk f n (k+1)):=by
 refine⟨⟨λi=>if i=0 then tk f n k (n-1) else 0,1,λm hm=>W9 (by omega),λm=>?_⟩,wO hf hn (k+1)⟩
 have e1:cv (λi=>if i=0 then tk f n k (n-1) else 0) f m=tk f n k (n-1)*f m:=vD (Ja rfl) (λi hi=>W9 (by omega)) m
 rw[e1,i6];show _=_+((if m=0 then 0 else tk f n k (m-1))-tk f n k (n-1)*f m)
 by_cases c:1<=m
 ·rw[Ja c,W9 (by omega)];omega
 ·rw[W9 c,Ja (by omega)];omega
theorem vM {f:Fn}{n:Nat}(hf:Top f n)(hn:1<=n){g:Fn}{L:Nat}(hg:∀m,L<=m->g m=0):Rows f n g (rr f n g L):=by
 refine⟨?_,λi=>?_⟩
 ·have e:g=λc=>bw L λk=>g k*xp (k+0) c:=by
   funext c
   rw[eX];by_cases y:c<L
   ·rw[jJ (k:=c) y λk hk hne=>by unfold xp;rw[W9 (by omega),Y6]]
    unfold xp;rw[Ja (by omega),Wn]
   ·rw[hg _ (by omega),dF λk hk=>by unfold xp;rw[W9 (by omega),Y6]]
  have:=kT.sum (f:=f) (n:=n) (u:=λk=>xp (k+0)) (r:=λk=>tk f n (k+0)) g L λk _=>Dv hf hn (k+0)
  rw[<- e] at this;exact this
 ·have e:cv (xp 1) (rr f n g L i)=λc=>bw L λk=>g k*cv (xp 1) (tk f n (k+i)) c:=by
   funext c
   rw[i6];by_cases z:1<=c
   ·rw[Ja z]
    exact aD λk hk=>by rw[i6,Ja z]
   ·rw[W9 z]
    exact(dX λk hk=>by rw[i6,W9 z,Y6]).symm
  rw[e];exact kT.sum g L λk _=>Nc hf hn (k+i)
theorem wC.VT {u f q r:List Int}{n:Nat}(hl:f.length=n+1)(h:wC u f q r):kT (aq f) n (aq u) (aq r):=
 ⟨⟨aq q,q.length,λm hm=>bF hm,λm=>by rw[h.eq m,zX]⟩,λm hm=>bF (by have:=h.len;omega)⟩
theorem xH {f:List Int}{n:Nat}(hl:f.length=n+1)(hm:dM f):Top (aq f) n:=⟨by have:=hm.2;rw[hl] at this;exact this,λm h=>bF (by omega)⟩
theorem Qs:aq [0,1]=xp 1:=by
 funext m
 match m with
 | 0=>rfl
 | 1=>rfl
 | m+2=>rw[bF (by show 2<=_;omega)];unfold xp;rw[W9 (by omega)]
inductive KD (K:bM)(vs:List V)(H:Hp)(Q:VK)(xF:XK):Prop where
 | mk (a b:o?) (f g:List Int) (n E:Nat) (u9:vs=[.ref a,.ref b]) (u_:aO K H a (f.map V.int)) (vc:aO K H b (g.map V.int)) (ve:f.length=n+1) (vf:1<=n) (vg:n<=26) (xG:g.length<=60) (zx:dM f) (A6:Norm g) (Eb:fY 5000 f) (vh:fY 5000 g) (B_:E<=9000) (KG:n*(E+5)<9000) (Qu:(∀i j,i<=n->(rr (aq f) n (aq g) g.length i j).natAbs<=2 ^ E)) (S5:∀H',aF H H'->Q (.int (det n λi j=>rr (aq f) n (aq g) g.length i j)) H')
section
theorem Az (B:iw mg)(kI:b9 P w K mg base 1 "coefficient" DZ (D_ K))(mJ:b9 P w K mg base 1 "multiplied" m9 (KA K))(oY:b9 P w K mg base 2 "divided" m9 (KC K))(yz:b9 P w K mg base 2 "determinant" ["table"] (Oc K))(F:Src K mg "resultant" kg m9):b9 P w K mg base 3 "resultant" m9 (KD K):=by
 refine F.ok fQ (λvs H Q E h=>?_) (λfa cdv A outer s H vs Q E hr h=>?_)
 ·obtain⟨a,b,f,g,n,E,rfl,_⟩:=h;rfl
 obtain⟨a,b,f,g,n,E9,rfl,ha,hb,lf,hn1,hn,lg,mf,ng,bf,bg,hE,Oe,bR,q⟩:=h;have hf:=xH lf mf;have hR:=vM hf hn1 (g:=aq g) (L:=g.length) λm hm=>bF hm
 generalize hrr:rr (aq f) n (aq g) g.length=R at hR bR q;refine⟨_,ai (aC (i:=2) fQ.nd rfl (z? rfl) (au bO (aJ (aN (K:=K) rfl) rfl B.len bN (af (pv 0) ah)) ak))
  (ai (aC (i:=3) fQ.nd rfl (z? rfl) (aZ ah))
  (ai (aC (i:=4) fQ.nd rfl (Or.inr rfl) (bI (rz (K:=K) rfl) (aH oY hr (af (pv 1) (af (pv 0) ah))) ak (λ_ _=>rfl)))
  (ai (bZ D? rfl (bC rfl B.range (af (pv 2) ah)) (aA (i:=5) fQ.nd rfl (z? rfl))
   (ai (d9 (mW R? F! G! c8 (pv 3) (af (bY (aG (N:=["place","rest"]) (sl:=[q?,j? 4]) (ao kg) ["f","g","degree","table","rest","turn"] rfl rfl (by decide +kernel)) rfl (bC rfl B.range (af (pv 2) ah)) (λ_ _ _ _ _=>(aA (i:=0) (Yk_ ["place","rest"]) rfl (z? rfl))) (λ_ _ _ _ _=>aR) (λ_ _ _ _ _=>(aH kI hr (af (pv 1) (af (pv 0) ah))))) ah)))
   (av (aC (i:=4) fQ.nd rfl (Or.inr rfl) (bI (rz (K:=K) rfl) (aH oY hr (af (aH mJ hr (af (aZ (af ak (af ak ah))) (af (pv 4) ah))) (af (pv 0) ah))) ak (λ_ _=>rfl))))))
  (av (aM (aH yz hr (af (pv 3) ah))))))),?_⟩
 refine⟨_,rfl,a,_,rfl,.inl ha,?_⟩
 rw[Ya,lf];refine⟨_,_,rfl,rfl,aT rfl,λp0 n0=>?_⟩
 have k0:=aB n0 (.lst []);refine⟨_,rfl,_,rfl,b,a,g,f,5000,5000,rfl,k0.seq hb,k0.seq ha,by omega,by omega,mf,bg,bf,by omega,λq0 r0 hd0 _ _ t0 qa ra H1 g1 n1 n2 hne et eq er=>?_⟩
 refine⟨t0,_,_,_,rfl,rfl,j5.of et,rfl,?_⟩
 have e0:aq r0=R 0:=kT.uniq hf (wC.VT lf hd0) hR.zero;have l0:r0.length<=n:=by have:=hd0.len;omega
 have bdR:∀(r:List Int) (i:Nat),aq r=R i->i<=n->fY 9001 r:=λr i e hi=>wo λj _=>by
  rw[e];exact Z8 (bR i j hi) (Wj (by decide) (by omega))
 refine⟨_,rfl,_,rfl,by omega,by omega,?_⟩
 rw[show(((n+1:Nat):Int)-1).toNat=n by omega]
 refine cI (λi σ H2=>aF H H2/\∃(ts:List LP) (r:List Int) (ra:o?) (o:Option V),σ=[Rq a,Rq b,j? (.int (((n+1:Nat):Int)-1)),Rq p0,Rq ra,o]/\C6 H2 p0 ts/\ts.length=i/\(∀t∈ts,t.2.length=n/\t.1≠p0)/\(∀x j,x<i->j<n->Ay (lvals ts) x j=R x j)/\H2 ra=j? (.lst (r.map V.int))/\aq r=R i/\r.length<=n/\Norm r/\ra≠p0)
  ⟨k0.trans g1,[],r0,ra,_,rfl,⟨g1 _ _ ay,λt ht=>by simp at ht⟩,rfl,λt ht=>by simp at ht,λx j hx=>Jg hx (by omega),er,e0,l0,hd0.nr,λz=>by rw[z,ay] at n2;cases n2⟩ ?_ ?_
 ·rintro i σ H2 hi ⟨g2,ts,r,ra,o,rfl,hT,lt,hts,Rj,er,eR,lr,nr,ZC⟩
  refine⟨_,rfl,.inl ⟨rfl,_,aO.of hT.top⟩,_,rfl,_,rfl,by omega,by omega,λD hD=>?_⟩
  rw[show(((n+1:Nat):Int)-1).toNat=n by omega]
  refine iA (λj ys H3=>aF H2 H3/\ys=((Yj j).map (R i)).map V.int) ⟨aB hD _,rfl⟩ (λj m ys H3 hm hj hy hlen h=>?_) (λys H3 hy h=>?_)
  ·obtain⟨g3,rfl⟩:=h
   rw[show(0:Int)+(j:Int)=((j:Nat):Int) by omega]
   refine⟨_,rfl,_,rfl,ra,r,j,rfl,aO.of (g3 _ _ er),?_⟩
   refine CW.emit hm hj (by rw[C?];omega) hy hlen ⟨aF.aX g3 hD _,?_⟩
   rw[Wk,Yq,Yq,eR];rfl
  ·obtain⟨g3,rfl⟩:=h
   have M_:=hT.same g3;have S6:D≠p0:=λz=>by rw[z,hT.top] at hD;cases hD
   refine⟨p0,_,_,rfl,rfl,M_.top,by rw[Ya,C?];omega,?_⟩
   have Ri:=M_.snoc (t:=(D,(Yj n).map (R i))) (λt ht=>(hts t ht).2) hy S6
   have g4:aF H (L2.upd H3 p0 (.lst (lrefs ts++[V.ref D]))):=(g2.trans g3).aX n0 _;have Uz:(L2.upd H3 p0 (.lst (lrefs ts++[V.ref D]))) ra=j? (.lst (r.map V.int)):=by rw[aL ZC];exact g3 _ _ er
   generalize L2.upd H3 p0 (.lst (lrefs ts++[V.ref D]))=H4 at Ri g4 Uz ⊢;refine⟨aT rfl,λl1 m1=>?_⟩
   have k1:=aB m1 (.lst [.int 0,.int 1]);have b01:fY 1000000 ([0,1]:List Int):=λx hx=>by
    simp only[Ws,Z9,or_false] at hx
    rcases hx with rfl|rfl <;> exact Bd.mono (m:=64) (Bd.small (by decide) (by decide)) (by decide)
   have VU:fY 1 ([0,1]:List Int):=λx hx=>by
    simp only[Ws,Z9,or_false] at hx
    rcases hx with rfl|rfl <;> (show Zo _<2 ^ 1;decide)
   have br:=bdR r i eR (by omega)
   refine⟨_,rfl,l1,ra,[0,1],r,rfl,aO.of ay,aO.of (k1 _ _ Uz),by decide,by omega,b01,br.mono (by decide),λpm H5 g5 n5 e5=>?_⟩
   have VV:=k1.trans g5;have lpm:(eO [0,1] r).length<=28:=by
    unfold eO;split
    ·simp
    ·rw[Ya,Yg];show 2+r.length-1<=28;omega
   have bpm:fY 9010 (eO [0,1] r):=(VU.eO br).mono (by show 1+9001+2<=9010;decide)
   have tot:9010+(eO [0,1] r).length*(5000+2)<=1000000:=by omega
   refine⟨_,rfl,pm,a,eO [0,1] r,f,9010,5000,rfl,aO.of e5,(g4.trans VV).seq ha,by omega,by omega,mf,bpm,bf,tot,λq1 r1 hd1 _ _ t1 qa1 ra1 H6 g6 n6 n7 abM et1 eq1 er1=>?_⟩
   refine⟨t1,_,_,_,rfl,rfl,j5.of et1,rfl,?_⟩
   have e1:aq r1=R (i+1):=by
    have h1:=wC.VT lf hd1;rw[Po,Qs,eR] at h1;exact kT.uniq hf h1 (hR.succ i)
   have Rm:=VV.trans g6;refine⟨g4.trans Rm,ts++[(D,(Yj n).map (R i))],r1,ra1,_,rfl,Ri.same Rm,by rw[Yi,lt];rfl,λt ht=>?_,λx j hx hj=>?_,er1,e1,by have:=hd1.len;omega,hd1.nr,λz=>by rw[z,(Ri.same VV).top] at n7;cases n7⟩
   ·rcases List.mem_append.mp ht with y|y
    ·exact hts t y
    ·have:t=(D,(Yj n).map (R i)):=by simpa using y
     rw[this];exact⟨by simp,S6⟩
   ·by_cases e:x=i
    ·have ex:x=ts.length:=by omega
     have:Ay (lvals (ts++[(D,(Yj n).map (R i))])) ts.length j=((Yj n).map (R i)).getD j 0:=by
      rw[qy (by rw[Yi];show _<_+1;omega)]
      simp
     rw[ex,this,<- ex,e,Yb,Ye,Ys hj];rfl
    ·rw[qy (by rw[Yi];omega),List.getElem_append_left (by omega),<- qy (by omega)]
     exact Rj x j (by omega) hj
 ·rintro σ H2 ⟨g2,ts,r,ra,o,rfl,hT,lt,hts,Rj,er,eR,lr,nr,ZC⟩
  have ed:det n (Ay (lvals ts))=det n λi j=>R i j:=b_ λi j hi hj=>Rj i j hi hj
  refine⟨_,rfl,p0,ts,n,E9,rfl,hT,⟨lt,λt ht=>(hts t ht).1⟩,hn,Oe,λi j hi hj=>by rw[Rj i j hi hj];exact bR i j (by omega),λH3 g3=>?_⟩
  rw[ed];exact q H3 (g2.trans g3)
end
theorem Ed (f:List Int):(dl f).length=f.length-1:=by unfold dl;rw[Ya,Yg]
theorem Qv {f:List Int}{m:Nat}(h:fY m f)(l:f.length<=1000):fY (m+10) (dl f):=by
 intro x hx;obtain⟨i,hi,rfl⟩:=List.mem_map.mp hx;have hi':=List.mem_range.mp hi;have b1:Bd 10 ((i+1:Nat):Int):=show Zo _<2 ^ 10 by omega
 exact(b1.mul (h.aq _)).mono (by omega)
theorem Oj (n:Nat)(h:n<=26):(n*(n-1) / 2 % 2=1->tg n=-1)/\(¬ n*(n-1) / 2 % 2=1->tg n=1):=by
 have key:∀n:Fin 27,(n.val*(n.val-1) / 2 % 2=1->tg n.val=-1)/\(¬ n.val*(n.val-1) / 2 % 2=1->tg n.val=1):=by decide +kernel
 exact key ⟨n,by omega⟩
inductive AA (K:bM)(vs:List V)(H:Hp)(Q:VK)(xF:XK):Prop where
 | mk (a:o?) (f:List Int) (n E:Nat) (u9:vs=[.ref a]) (u_:aO K H a (f.map V.int)) (vc:f.length=n+1) (ve:1<=n) (vf:n<=26) (vg:dM f) (xG:fY 4990 f) (zx:E<=9000) (A6:n*(E+5)<9000) (Eb:(∀i j,i<=n->(rr (aq f) n (aq (dl f)) (dl f).length i j).natAbs<=2 ^ E)) (vh:∀H',aF H H'->Q (.int (tg n*det n λi j=>rr (aq f) n (aq (dl f)) (dl f).length i j)) H')
section
theorem vj (B:iw mg)(G9:b9 P w K mg base 1 "derived" ["f"] (Oh K))(nZ:b9 P w K mg base 3 "resultant" m9 (KD K))(F:Src K mg "discriminant" jP ["f"]):b9 P w K mg base 4 "discriminant" ["f"] (AA K):=by
 refine F.ok jg (λvs H Q E h=>?_) (λfa cdv A outer s H vs Q E hr h=>?_)
 ·obtain⟨a,f,n,E,rfl,_⟩:=h;rfl
 obtain⟨a,f,n,E9,rfl,ha,lf,hn1,hn,mf,bf,hE,Oe,bR,q⟩:=h;generalize hd:(det n λi j=>rr (aq f) n (aq (dl f)) (dl f).length i j)=D at q
 refine⟨_,ai (aC (i:=1) jg.nd rfl (z? rfl) (au bO (aJ (aN (K:=K) rfl) rfl B.len bN (af (pv 0) ah)) ak))
  (ai (aC (i:=2) jg.nd rfl (z? rfl) (aH nZ hr (af (pv 0) (af (aH G9 hr (af (pv 0) ah)) ah))))
  (ai (dQ (a_ iW (au bD (au bL (au aW (pv 1) (au bO (pv 1) ak)) ak) ak) ak (bG _))
   (av (aM (vX pX (pv 2))))
   (b8))
  (av (aM (pv 2))))),?_⟩
 refine⟨_,rfl,a,_,rfl,.inl ha,?_⟩
 rw[Ya,lf];refine⟨_,_,rfl,rfl,?_⟩
 show gE 1 (V.int (((n+1:Nat):Int)-1)) _ _ _
 rw[show((n+1:Nat):Int)-1=(n:Int) by omega]
 refine⟨_,rfl,_,rfl,a,f,rfl,ha,by omega,λpd H1 g1 n1 e1=>?_⟩
 refine⟨a,pd,f,dl f,n,E9,rfl,g1.seq ha,aO.of e1,lf,hn1,hn,by rw[Ed];omega,mf,Mw (.inr (by rw[mf.2];decide)),bf.mono (by decide),Qv bf (by omega),hE,Oe,bR,λH2 g2=>?_⟩
 rw[hd];have g:=g1.trans g2;obtain⟨t1,t2⟩:=Oj n hn;have em:((((n:Int)*((n:Int)-1)).fdiv 2).fmod 2)=((n*(n-1) / 2 % 2:Nat):Int):=by
  obtain⟨k,rfl⟩:∃k,n=k+1:=⟨n-1,by omega⟩
  have e1:((k+1:Nat):Int)-1=(k:Int):=by omega
  have e2:k+1-1=k:=by omega
  rw[e1,e2,<- Zs,Zr _ (by decide),Y8 _ (by decide)]
  omega
 refine⟨_,rfl,_,rfl,_,_,rfl,rfl,_,_,rfl,rfl,gO (by omega) (by omega),?_⟩
 refine⟨_,_,rfl,rfl,(Bd.small (by decide) (by decide)).dv (by decide),_,_,rfl,rfl,(by decide:(2:Int)≠0),rfl,_,rfl,?_⟩
 by_cases c:n*(n-1) / 2 % 2=1
 ·refine Ph (by show V.int ((((n:Int)*((n:Int)-1)).fdiv 2).fmod 2)=V.int 1;rw[em,c];rfl) ?_
  have:=q H2 g
  rw[t1 c,show -1*D=- D by omega] at this
  exact⟨_,rfl,_,rfl,this⟩
 ·refine Pg (λz=>c (by have z':V.int ((((n:Int)*((n:Int)-1)).fdiv 2).fmod 2)=V.int 1:=z;have:=V.int.inj z';rw[em] at this;omega)) ?_
  have:=q H2 g
  rw[t2 c,Zk] at this;exact⟨_,rfl,this⟩
end
section
def eN (l:List Int):El:=.vec (l.map El.num)
def Rw (p:Nat)(n:Nat)(l:List Int):Prop:=l.length=n/\∀x∈l,0<=x/\x<(p:Int)
theorem sO {H:Hp}{ok:o?->Prop}{l:o?}{ns:List Int}(h:H l=j? (.lst (ns.map V.int)))(k:ok l):Rep H ok (.ref l) (eN ns):=.vec h k (by rw[Ya,Ya]) λi v e h1 h2=>by
 rw[Ye] at h1 h2;cases z:ns[i]? with
 | none=>rw[z] at h1;cases h1
 | some n=>rw[z] at h1 h2;cases h1;cases h2;exact .num n
theorem ints_rep {H:Hp}{ok:o?->Prop}{v:V}{ns:List Int}(h:Rep H ok v (eN ns)):∃l,v=.ref l/\H l=j? (.lst (ns.map V.int))/\ok l:=by
 unfold eN at h;generalize he:El.vec (ns.map El.num)=e at h;cases h with
 | num n=>cases he
 | @vec a vs l h k hl it=>
  injection he with he
  refine⟨a,rfl,?_,k⟩
  have:vs=ns.map V.int:=by
   refine Ze λi=>?_
   rw[Ye];cases z:ns[i]? with
   | none=>
    have:=List.getElem?_eq_none_iff.mp z
    rw[List.getElem?_eq_none_iff.mpr (by rw[hl,<- he,Ya];exact this)];rfl
   | some n=>
    have hi:=(List.getElem?_eq_some_iff.mp z).1;have h2:l[i]?=j? (.num n):=by rw[<- he,Ye,z];rfl
    have h1:vs[i]?=j? (vs[i]'(by rw[hl,<- he,Ya];exact hi)):=Yc _
    have:=it i _ _ h1 h2
    rw[h1];generalize vs[i]'(by rw[hl,<- he,Ya];exact hi)=y at this
    cases this;rfl
  rw[<- this];exact h
def zz:Sp:=λvs H Q _=>∃(p m:Nat) (i:Nat) (u v:V) (a b:List Int),vs=[u,v,.int (i:Int),.int (p:Int)]/\p∈PR/\Rep H Any u (eN a)/\Rep H Any v (eN b)/\Rw p m a/\Rw p m b/\i<m/\m<=100/\∀r H',aF H H'->Rep H' (dG H) r (eN (Wb (λx y=>(x-a.getD i 0*y) % (p:Int)) a b))->Q r H'
theorem vm (B:iw mg)(F:Src K mg "without_lead" gW DV):b9 P w K mg base 1 "without_lead" DV zz:=by
 refine F.ok m7 (λvs H Q E h=>?_) (λfa cdv A outer s H vs Q E hr h=>?_)
 ·obtain⟨p,m,i,u,v,a,b,rfl,_⟩:=h;rfl
 obtain⟨p,m,i,u,v,a,b,rfl,hp,ru,rv,ra,rb,hi,hm,q⟩:=h;obtain⟨la,rfl,hla,_⟩:=ints_rep ru;obtain⟨lb,rfl,hlb,_⟩:=ints_rep rv;refine⟨_,ai (aC (i:=4) m7.nd rfl (Or.inr rfl) (bI (aI (K:=K) rfl) (pv 0) (pv 2) (λ_ _=>rfl)))
  (av (aM (bY (aG (N:=Qm) (sl:=[q?,q?,j? 4,j? 3]) (ao gW) ["row","lead_row","place","p","factor"] rfl rfl (by decide +kernel)) rfl (kc (K:=K) rfl rfl B.zip (af (pv 0) (af (pv 1) ah))) (λ_ _ _ _ _=>(cG (n:=2) (K:=K) rfl rfl (aP (aA (i:=0) (Yk_ Qm) rfl (z? rfl)) (aP (aA (i:=1) (Yk_ Qm) rfl (z? rfl)) cF)))) (λ_ _ _ _ _=>aR) (λ_ _ _ _ _=>(au bD (au bO (pv 0) (au aW (pv 2) (pv 1))) (pv 3)))))),?_⟩
 have pp:=cP hp;have hget:a[i]?=j? (a.getD i 0):=by rw[Yb,Yc (by rw[ra.1];exact hi)];rfl
 have hga:=ra.2 _ (Yw hget);generalize a.getD i 0=c at hget hga q;refine⟨_,rfl,_,rfl,la,_,_,_,rfl,rfl,aO.of hla,fu (j:=i) (by rw[Ye,hget];rfl),?_⟩
 refine⟨_,rfl,_,rfl,la,lb,rfl,⟨_,aO.of hla⟩,⟨_,aO.of hlb⟩,λD hD=>?_⟩
 refine BJ (xs:=a.map V.int) (ys:=b.map V.int) (λn zs H2=>aF H H2/\zs=((Wb (λx y=>(x-c*y) % (p:Int)) a b).take n).map V.int) (by rw[Ya,Ya,ra.1,rb.1]) ⟨aB hD _,rfl⟩ (λn zs H2 _ h=>⟨aO.of (h.1 _ _ hla),aO.of (h.1 _ _ hlb)⟩) (λn m' vx vy zs H2 r hm hn ig AB hy hlen h hr2=>?_) (λzs H2 hy h=>?_)
 ·obtain⟨g2,rfl⟩:=h
  rw[Ya,ra.1] at hn;obtain⟨x,hx,rfl⟩:=aS ig;obtain⟨y,hy',rfl⟩:=aS AB;have k2:=aB hr2 (.tup [.int x,.int y]);have yb:=rb.2 _ (Yw hy');refine⟨r,_,rfl,j5.of ay,rfl,_,_,rfl,_,_,rfl,rfl,?_⟩
  refine⟨_,rfl,_,rfl,_,rfl,_,_,rfl,rfl,E8 (Bd.small (by omega) (by omega)) (Bd.small (by omega) (by omega)) (by decide),_,_,rfl,rfl,_,rfl,_,_,rfl,rfl,(show(p:Int)≠0 by omega),?_⟩
  refine CW.emit hm (by rw[Ya,ra.1];exact hn) (by rw[Ya,ra.1,C?];omega) (k2 _ _ hy) hlen ⟨aF.aX (g2.trans k2) hD _,?_⟩
  have hz:(Wb (λx y=>(x-c*y) % (p:Int)) a b)[n]?=j? ((x-c*y) % (p:Int)):=by rw[List.getElem?_zipWith,hx,hy']
  rw[List.take_succ,hz,Yq];show _++[V.int ((x-c*y).fmod (p:Int))]=_++[V.int ((x-c*y) % (p:Int))]
  rw[Af]
 ·obtain⟨g2,rfl⟩:=h
  rw[Zv (by rw[List.length_zipWith,Ya,ra.1,rb.1];omega)] at hy
  exact q _ _ g2 (sO hy (show H D=q? from hD))
def zA:Sp:=λvs H Q _=>∃(p:Nat) (hp:p∈PR) (m i:Nat) (u:V) (a:List Int),vs=[u,.int (i:Int),.int (p:Int)]/\Rep H Any u (eN a)/\Rw p m a/\i<m/\m<=100/\a.getD i 0≠0/\∀(b:Nat) r H',(b*(a.getD i 0).toNat) % p=1->aF H H'->Rep H' (dG H) r (eN (a.map λx=>((b:Int)*x) % (p:Int)))->Q r H'
theorem um (B:iw mg)(F:Src K mg "with_lead_one" gm Kw):b9 P w K mg base 1 "with_lead_one" Kw zA:=by
 refine F.ok iF (λvs H Q E h=>?_) (λfa cdv A outer s H vs Q E hr h=>?_)
 ·obtain⟨p,hp,m,i,u,a,rfl,_⟩:=h;rfl
 obtain⟨p,hp,m,i,u,a,rfl,ru,ra,hi,hm,h0,q⟩:=h;obtain⟨la,rfl,hla,_⟩:=ints_rep ru;refine⟨_,ai (aC (i:=3) iF.nd rfl (Or.inr rfl) ak)
  (ai (eW D? (a_ qZ (au bD (au aW (pv 3) (bI (aI (K:=K) rfl) (pv 0) (pv 1) (λ_ _=>rfl))) (pv 2)) ak (bG _))
   (av (zI (i:=3) iF.nd rfl (Or.inr rfl) ak zK)))
  (av (aM (bY (aG (N:=["one","back","p"]) (sl:=[q?,j? 3,j? 2]) (ao gm) ["row","place","p","back"] rfl rfl (by decide +kernel)) rfl (bE (K:=K) rfl (pv 0)) (λ_ _ _ _ _=>(aA (i:=0) (Yk_ ["one","back","p"]) rfl (z? rfl))) (λ_ _ _ _ _=>aR) (λ_ _ _ _ _=>(au bD (au aW (pv 1) (pv 0)) (pv 2))))))),?_⟩
 have pp:=cP hp;have hget:a[i]?=j? (a.getD i 0):=by rw[Yb,Yc (by rw[ra.1];exact hi)];rfl
 have hga:=ra.2 _ (Yw hget);generalize a.getD i 0=c at hget hga h0 q;obtain⟨cn,rfl⟩:=Zq hga.1;obtain⟨y,hy,e1⟩:=Ab p hp cn (by omega) (by omega)
 have e1:cn*y % p=1:=by rw[e1];exact Z4 (by omega)
 have y0:y≠0:=λz=>by rw[z,Nat.mul_zero,Nat.zero_mod] at e1;omega
 refine jI (λσ H2=>H2=H/\∃b:Nat,σ=[Rq la,Iq (i),Iq (p),Iq (b)]/\1<=b/\b<=y) (λσ _=>match σ with | [_,_,_,j? (.int b)]=>(y:Nat)-b.toNat|_=>0) ⟨rfl,1,rfl,Yd 1,by omega⟩ ?_
 rintro σ H2 ⟨rfl,b,rfl,b1,b2⟩;refine⟨_,rfl,_,rfl,_,rfl,la,_,_,_,rfl,rfl,aO.of hla,fu (j:=i) (by rw[Ye,hget];rfl),_,_,rfl,rfl,E8 (Bd.small (by omega) (by omega)) (Bd.small (by omega) (by omega)) (by decide),_,rfl,_,_,rfl,rfl,(show(p:Int)≠0 by omega),?_⟩
 have ev:((b:Int)*(cn:Int)).fmod (p:Int)=((b*cn % p:Nat):Int):=by rw[Af,<- Zs,<- Int.natCast_emod]
 refine⟨rfl,_,rfl,?_⟩
 by_cases e:b*cn % p=1
 ·refine uN (by show V.int (((b:Int)*(cn:Int)).fmod (p:Int))=V.int 1;rw[ev,e];rfl) ?_
  refine⟨_,rfl,la,rfl,⟨_,aO.of hla⟩,λD hD=>?_⟩
  refine gG (xs:=a.map V.int) (λn zs H3=>aF H2 H3/\zs=((a.map λx=>((b:Int)*x) % (p:Int)).take n).map V.int) ⟨aB hD _,rfl⟩ (λn zs H3 _ h=>aO.of (h.1 _ _ hla)) ?_ ?_
  ·rintro n m' vx zs H3 hm' hn ig hy' hlen ⟨g3,rfl⟩
   rw[Ya,ra.1] at hn;obtain⟨x,hx,rfl⟩:=aS ig;have xb:=ra.2 _ (Yw hx);refine⟨_,rfl,_,rfl,_,_,rfl,rfl,E8 (Bd.small (by omega) (by omega)) (Bd.small (by omega) (by omega)) (by decide),_,rfl,_,_,rfl,rfl,(show(p:Int)≠0 by omega),?_⟩
   refine CW.emit hm' (by rw[Ya,ra.1];exact hn) (by rw[Ya,ra.1,C?];omega) hy' hlen ⟨aF.aX g3 hD _,?_⟩
   have hz:(a.map λx=>((b:Int)*x) % (p:Int))[n]?=j? (((b:Int)*x) % (p:Int)):=by rw[Ye,hx];rfl
   rw[List.take_succ,hz,Yq];show _++[V.int (((b:Int)*x).fmod (p:Int))]=_++[V.int (((b:Int)*x) % (p:Int))]
   rw[Af]
  ·rintro zs H3 hy' ⟨g3,rfl⟩
   rw[Zv (by rw[Ya,Ya];omega)] at hy'
   exact q b _ _ (by rw[Yf];exact e) g3 (sO hy' (show H2 D=q? from hD))
 ·refine Bk (λz=>e ?_) ?_
  ·have z:V.int (((b:Int)*(cn:Int)).fmod (p:Int))=V.int 1:=z
   rw[ev] at z;injection z with z
   omega
  ·have hne:b≠y:=λz=>e (by rw[z,Wf];exact e1)
   refine win ⟨_,rfl,_,_,rfl,rfl,⟨rfl,b+1,rfl,by omega,by omega⟩,?_⟩
   show y-((b:Int)+1).toNat<y-(b:Int).toNat
   omega
def FY (K:bM):Sp:=λvs H Q _=>∃(p m i:Nat) (u:V) (R:List (List Int)),vs=[u,.int (i:Int)]/\Rep H Any u (.vec (R.map eN))/\(∀a∈R,Rw p m a)/\i<m/\R.length<=100/\
 (∀(t:Nat) (a:List Int) H',aF H H'->R[t]?=j? a->a.getD i 0≠0->Q (.int (t:Int)) H')/\((∀a∈R,a.getD i 0=0)->∀H',aF H H'->Q .fk H')
theorem yC (B:iw mg)(F:Src K mg "first_lead" mq Ky):b9 P w K mg base 1 "first_lead" Ky (FY K):=by
 refine F.ok kG (λvs H Q E h=>?_) (λfa cdv A outer s H vs Q E hr h=>?_)
 ·obtain⟨p,m,i,u,R,rfl,_⟩:=h;rfl
 obtain⟨p,m,i,u,R,rfl,ru,rw',hi,hR,q1,q2⟩:=h;refine⟨_,ai (bZ D? rfl (gQ (K:=K) rfl rfl B.enumerate (af (pv 0) ah)) (cG (n:=2) (K:=K) rfl rfl (aP (aA (i:=2) kG.nd rfl (z? rfl)) (aP (aA (i:=3) kG.nd rfl (z? rfl)) cF)))
   (av (dQ (a_ qZ (bI (aI (K:=K) rfl) (pv 3) (pv 1) (λ_ _=>rfl)) ak (bG _))
    (av (aM (pv 2)))
    (b8))))
  (av (aM tD)),?_⟩
 rw[tW] at ru;obtain⟨l,vs,rfl,hl,_,C⟩:=id ru.cf;have lv:vs.length=R.length:=by rw[C.len,Ya]
 refine⟨_,rfl,l,rfl,⟨_,aO.of hl⟩,kY (st:=0) (xs:=vs) (λn σ H2=>aF H H2/\(∀(t:Nat) a,t<n->R[t]?=j? a->a.getD i 0=0)/\∃o1 o2,σ=[Rq l,Iq (i),o1,o2]) ⟨aF.refl H,λt a ht=>Jg ht (Zb _),_,_,rfl⟩ (λn σ H2 _ h=>aO.of (h.1 _ _ hl)) ?_ ?_⟩
 ·rintro n v σ H2 r hv ⟨g2,h2,o1,o2,rfl⟩ hr2
  obtain⟨hn,rv⟩:=C.get hv;have UA:n<R.length:=by rw[Ya] at hn;exact hn
  have e:(R.map eN).getD n (.num 0)=eN R[n]:=by rw[Yb,Ye,Yc UA];rfl
  rw[e] at rv;have k2:=aB hr2 (.tup [.int ((0+n:Nat):Int),v]);have e3:(upd H2 r (.tup [.int ((0+n:Nat):Int),v])) r=j? (.tup [.int ((0+n:Nat):Int),v]):=ay;generalize upd H2 r (.tup [.int ((0+n:Nat):Int),v])=H3 at k2 e3;have wn:=rw' _ (Yz UA);obtain⟨la,rfl,hla,_⟩:=ints_rep ((rv.same g2).same k2);have hget:R[n][i]?=j? (R[n].getD i 0):=by rw[Yb,Yc (by rw[wn.1];exact hi)];rfl
  refine⟨r,_,rfl,j5.of e3,rfl,_,_,rfl,_,_,rfl,rfl,?_⟩
  refine⟨_,rfl,_,rfl,la,_,_,_,rfl,rfl,aO.of hla,fu (j:=i) (by rw[Ye,hget];rfl),rfl,_,rfl,?_⟩
  by_cases z:R[n].getD i 0=0
  ·refine uN (by rw[z]) ⟨g2.trans k2,λt a ht hat=>?_,_,_,rfl⟩
   by_cases c:t<n
   ·exact h2 t a c hat
   ·obtain rfl:t=n:=by omega
    rw[Yc UA] at hat;cases hat;exact z
  ·refine Bk (λy=>z (V.int.inj y)) ⟨_,rfl,?_⟩
   rw[Wx];exact q1 n _ _ (g2.trans k2) (Yc UA) z
 ·rintro σ H2 ⟨g2,h2,o1,o2,rfl⟩
  refine q2 (λa ha=>?_) _ g2
  obtain⟨t,ht,rfl⟩:=Wd ha;exact h2 t _ (by omega) (Yc ht)
theorem vN {β:Type}{l:List β}{t:Nat}(ht:t<l.length)(i:Nat):(l.take t++l.drop (t+1))[i]?=l[if i<t then i else i+1]?:=by
 by_cases h:i<t
 ·rw[Ja h,Y3 (by rw[Yt];omega),List.getElem?_take_of_lt h]
 ·rw[W9 h,Y5 (by rw[Yt];omega),Yt,List.getElem?_drop]
  congr 1
  omega
theorem Rw.get {p m:Nat}{l:List Int}(h:Rw p m l)(j:Nat):0<=l.getD j 0/\(l.getD j 0<(p:Int)\/l.getD j 0=0):=by
 rw[Yb];cases e:l[j]? with
 | none=>exact⟨Int.le_refl 0,.inr rfl⟩
 | some x=>have:=h.2 x (Yw e);exact⟨this.1,.inl this.2⟩
def zr {p:Nat}(hp:p∈PR)(l:List Int)(j:Nat):(ground p hp).α:=nt (ground p hp).α (l.getD j 0).toNat
theorem KH {p:Nat}(hp:p∈PR){x y:Int}(hx:0<=x)(hy:0<=y)(h:x % (p:Int)=y % (p:Int)):nt (ground p hp).α x.toNat=nt (ground p hp).α y.toNat:=by
 rw[<- DM (ground p hp).ch x.toNat,<- DM (ground p hp).ch y.toNat];congr 1
 show x.toNat % p=y.toNat % p
 have e1:((x.toNat % p:Nat):Int)=x % (p:Int):=by rw[Int.natCast_emod,We hx]
 have e2:((y.toNat % p:Nat):Int)=y % (p:Int):=by rw[Int.natCast_emod,We hy]
 omega
theorem qA {p m:Nat}(hp:p∈PR){a b:List Int}{c:Int}(ra:Rw p m a)(rb:Rw p m b)(c0:0<=c)(j:Nat):zr hp (Wb (λx y=>(x-c*y) % (p:Int)) a b) j=zr hp a j-nt (ground p hp).α c.toNat*zr hp b j:=by
 have pp:=cP hp;have key:∀x y:Int,0<=x->0<=y->nt (ground p hp).α ((x-c*y) % (p:Int)).toNat=nt (ground p hp).α x.toNat-nt (ground p hp).α c.toNat*nt (ground p hp).α y.toNat:=λx y hx hy=>by
  have h:nt (ground p hp).α ((x-c*y) % (p:Int)).toNat+nt (ground p hp).α (c.toNat*y.toNat)=nt (ground p hp).α x.toNat:=by
   rw[<- wW];have hm:=Zj (x-c*y) (show(p:Int)≠0 by omega)
   have hcy:0<=c*y:=W0 c0 hy;have e:(((x-c*y) % (p:Int)).toNat+c.toNat*y.toNat:Nat)=((x-c*y) % (p:Int)+c*y).toNat:=by
    have:((c.toNat*y.toNat:Nat):Int)=c*y:=by rw[Zs,We c0,We hy]
    omega
   rw[e];refine KH hp (by omega) hx ?_
   rw[Int.emod_add_emod];congr 1
   omega
  rw[tV] at h;grind
 unfold zr;by_cases hj:j<m
 ·have h1:a[j]?=j? (a.getD j 0):=by rw[Yb,Yc (by rw[ra.1];exact hj)];rfl
  have h2:b[j]?=j? (b.getD j 0):=by rw[Yb,Yc (by rw[rb.1];exact hj)];rfl
  have h3:(Wb (λx y=>(x-c*y) % (p:Int)) a b).getD j 0=(a.getD j 0-c*b.getD j 0) % (p:Int):=by rw[Yb,List.getElem?_zipWith,h1,h2];rfl
  rw[h3];exact key _ _ (ra.get j).1 (rb.get j).1
 ·have h1:a.getD j 0=0:=by rw[Yb,Wq (by rw[ra.1];omega)];rfl
  have h2:b.getD j 0=0:=by rw[Yb,Wq (by rw[rb.1];omega)];rfl
  have h3:(Wb (λx y=>(x-c*y) % (p:Int)) a b).getD j 0=0:=by rw[Yb,Wq (by rw[List.length_zipWith,ra.1,rb.1];omega)];rfl
  rw[h1,h2,h3];show(0:(ground p hp).α)=0-nt (ground p hp).α c.toNat*0
  grind
theorem Rw.without {p m:Nat}(hp:p∈PR){a b:List Int}{c:Int}(ra:Rw p m a)(rb:Rw p m b):Rw p m (Wb (λx y=>(x-c*y) % (p:Int)) a b):=by
 have pp:=cP hp;refine⟨by rw[List.length_zipWith,ra.1,rb.1,Nat.min_self],λx hx=>?_⟩
 obtain⟨i,hi,rfl⟩:=Wd hx;rw[List.getElem_zipWith];exact⟨Zj _ (by omega),Zf _ (by omega)⟩
theorem AD {p m:Nat}(hp:p∈PR){a:List Int}{b:Nat}(ra:Rw p m a)(j:Nat):zr hp (a.map λx=>((b:Int)*x) % (p:Int)) j=nt (ground p hp).α b*zr hp a j:=by
 have pp:=cP hp;unfold zr;have h3:(a.map λx=>((b:Int)*x) % (p:Int)).getD j 0=((b:Int)*a.getD j 0) % (p:Int):=by
  rw[Yb,Yb,Ye];cases a[j]? with
  | none=>show(0:Int)=((b:Int)*0) % (p:Int);simp
  | some x=>rfl
 have h0:=(ra.get j).1;rw[h3,<- tV];have e:(b*(a.getD j 0).toNat:Nat)=((b:Int)*a.getD j 0).toNat:=by
  have:((b*(a.getD j 0).toNat:Nat):Int)=(b:Int)*a.getD j 0:=by rw[Zs,We h0]
  omega
 rw[e];exact KH hp (Zj _ (by omega)) (W0 (by omega) h0) (Int.emod_emod _ _)
theorem Rw.lead {p m:Nat}(hp:p∈PR){a:List Int}{b:Nat}(ra:Rw p m a):Rw p m (a.map λx=>((b:Int)*x) % (p:Int)):=by
 have pp:=cP hp;refine⟨by rw[Ya,ra.1],λx hx=>?_⟩
 obtain⟨y,_,rfl⟩:=List.mem_map.mp hx;exact⟨Zj _ (by omega),Zf _ (by omega)⟩
def gf (n t:Nat):List Int:=(Yj n).map λj=>if j=t then 1 else 0
theorem Ca {p W n:Nat}(hp:p∈PR){R:List (List Int)}(hn:R.length=n)(hR:∀a∈R,Rw p W a){t:Nat}{a:List Int}(ht:R[t]?=j? a):zr hp (a++gf n t)=j7 W n (λr j=>zr hp (R.getD r []) j) t:=by
 funext j
 have ra:=hR a (Yw ht);have et:R.getD t []=a:=by rw[Yb,ht];rfl
 show nt (ground p hp).α ((a++gf n t).getD j 0).toNat=if j<W then zr hp (R.getD t []) j else if j<W+n then (if j-W=t then 1 else 0) else 0
 have lu:(gf n t).length=n:=by unfold gf;rw[Ya,Yg]
 by_cases h1:j<W
 ·rw[Ja h1,et,Yb,Y3 (by rw[ra.1];exact h1)]
  unfold zr;rw[Yb]
 ·rw[W9 h1,Yb,Y5 (by rw[ra.1];omega),ra.1]
  by_cases h2:j<W+n
  ·rw[Ja h2]
   unfold gf;rw[Ye,Ys (by omega)]
   show nt (ground p hp).α (if j-W=t then (1:Int) else 0).toNat=_
   by_cases h3:j-W=t
   ·rw[Ja h3,Ja h3];exact wX
   ·rw[W9 h3,W9 h3];rfl
  ·rw[W9 h2,Wq (by rw[lu];omega)];rfl
def Nd {α:Type}[Lean.Grind.CommRing α](W n:Nat)(S:List (Nat->α)):Prop:=∃ι:Nat->Nat,(∀u,u<S.length->ι u<n)/\∀(t u:Nat) s,S[t]?=j? s->u<S.length->s (W+ι u)=if t=u then 1 else 0
theorem Nd.step {α:Type}[Lean.Grind.CommRing α]{W n t k:Nat}{S S':List (Nat->α)}{s0 r:Nat->α}{b:α}(h:Nd W n S)(ht:S[t]?=j? s0)(er:∀j,r j=b*s0 j)(hl:S'.length+1=S.length)(hs:∀(i:Nat) s',S'[i]?=j? s'->∃s,S[if i<t then i else i+1]?=j? s/\∀j,s' j=s j-s k*r j):Nd W n S':=by
 obtain⟨ι,h1,h2⟩:=h;have VQ:=(List.getElem?_eq_some_iff.mp ht).1;refine⟨λu=>ι (if u<t then u else u+1),λu hu=>h1 _ (by split <;> omega),λi u s' hi hu=>?_⟩
 obtain⟨s,hs1,hs2⟩:=hs i s' hi;have hk:(if u<t then u else u+1)<S.length:=by split <;> omega
 have e1:=h2 _ _ s hs1 hk;have e2:=h2 _ _ s0 ht hk;rw[W9 (show ¬ t=(if u<t then u else u+1) by split <;> omega)] at e2
 show s' (W+ι (if u<t then u else u+1))=_
 rw[hs2,er,e1,e2];by_cases c:i=u
 ·rw[Ja (by rw[c]),Ja c];grind
 ·rw[W9 (show ¬ (if i<t then i else i+1)=(if u<t then u else u+1) by split <;> split <;> omega),W9 c];grind
theorem Nd.start {α:Type}[Lean.Grind.CommRing α]{W n:Nat}{R:Nat->Nat->α}:Nd W n ((Yj n).map (j7 W n R)):=by
 refine⟨λu=>u,λu hu=>by rw[Ya,Yg] at hu;exact hu,λt u s hs hu=>?_⟩
 rw[Ya,Yg] at hu;rw[Ye] at hs;have ht:t<n:=by
  rcases Nat.lt_or_ge t n with y|y
  ·exact y
  ·rw[List.getElem?_eq_none_iff.mpr (by rw[Yg];exact y)] at hs;cases hs
 rw[Ys ht] at hs;cases hs;show(if W+u<W then R t (W+u) else if W+u<W+n then (if W+u-W=t then (1:α) else 0) else 0)=_
 rw[W9 (by omega),Ja (by omega),Wm]
 by_cases c:t=u
 ·rw[Ja c,Ja c.symm]
 ·rw[W9 c,W9 λz=>c z.symm]
inductive Cb  (vs:List V)(H:Hp)(Q:VK)(xF:XK):Prop where
 | mk (p:Nat) (hp:p∈PR) (W:Nat) (v:V) (R:List (List Int)) (u9:vs=[v,.int (p:Int)]) (u_:Rep H Any v (.vec (R.map eN))) (vc:1<=R.length) (ve:R.length<=50) (vf:W<=50) (vg:(∀a∈R,Rw p W a)) (xG:∀(S:List (List Int)) r H',aF H H'->(∀l∈S,Rw p (W+R.length) l)->S.length<=50->(∀l∈S,∃i,i<R.length/\l.getD (W+i) 0≠0)->C7 W R.length (λr j=>zr hp (R.getD r []) j) W (S.map (zr hp))->Rep H' (dG H) r (.vec (S.map λl=>eN (l.drop W)))->Q r H')
theorem G_ (B:iw mg)(xJ:b9 P w K mg base 1 "without_lead" DV zz)(vn:b9 P w K mg base 1 "with_lead_one" Kw zA)(AE:b9 P w K mg base 1 "first_lead" Ky (FY K))(F:Src K mg "kernel" i7 ["rows","p"]):b9 P w K mg base 2 "kernel" ["rows","p"] Cb:=by
 refine F.ok gI (λvs H Q E h=>?_) (λfa cdv A outer s H vs Q E hr h=>?_)
 ·obtain⟨p,hp,W,v,R,rfl,_⟩:=h;rfl
 obtain⟨p,hp,W,v,R,rfl,rv,n1,n2,hW,hR,q⟩:=h;refine⟨_,ai (aC (i:=2) gI.nd rfl (Or.inr rfl) (aJ (aN (K:=K) rfl) rfl B.len bN (af (pv 0) ah)))
  (ai (aC (i:=3) gI.nd rfl (Or.inr rfl) (aJ (aN (K:=K) rfl) rfl B.len bN (af (bI (aI (K:=K) rfl) (pv 0) ak (λ_ _=>rfl)) ah)))
  (ai (IZ (i:=4) gI.nd rfl (z? rfl) (f9 (N:=["at","row","many"]) (sl:=[q?,q?,j? 2]) "at" (ao i7) Uv rfl rfl (by decide +kernel)) rfl (gQ (K:=K) rfl rfl B.enumerate (af (pv 0) ah)) (λ_ _ _ _ _=>(cG (n:=2) (K:=K) rfl rfl (aP (aA (i:=0) (Yk_ ["at","row","many"]) rfl (Or.inr rfl)) (aP (aA (i:=1) (Yk_ ["at","row","many"]) rfl (z? rfl)) cF)))) (λ_ _ _ _ _=>aR) (λ_ _ _ _ _=>(au eL (pv 1) (bY (aG (N:=["place","at"]) (sl:=[q?,j? 0]) (nF (z8 ((cA i7).getD 2 (.Pass ⟨0,0,0,0⟩))) (ao i7)) ["at","row","many"] rfl rfl (by decide +kernel)) rfl (bC rfl B.range (af (pv 2) ah)) (λ_ _ _ _ _=>(aA (i:=0) (Yk_ ["place","at"]) rfl (z? rfl))) (λ_ _ _ _ _=>aR) (λ_ _ _ _ _=>(vU (a_ iW (pv 0) (pv 1) (bG _)) ak ak))))))
  (ai (bZ D? rfl (bC rfl B.range (af (pv 3) ah)) (aA (i:=5) gI.nd rfl (Or.inr rfl))
   (ai (aC (i:=6) gI.nd rfl (z? rfl) (aH AE hr (af (pv 4) (af (pv 5) ah))))
   (av (dQ (a_ Iz (pv 6) tD (bG _))
    (ai (aC (i:=7) gI.nd rfl (Or.inr rfl) (aH vn hr (af (bI (aI (K:=K) rfl) (pv 4) (pv 6) (λ_ _=>rfl)) (af (pv 5) (af (pv 1) ah)))))
    (av (gh (i:=4) gI.nd rfl (z? rfl) (aG (N:=DV) (sl:=[q?,j? 7,j? 5,j? 1]) (ao i7) Uv rfl rfl (by decide +kernel)) rfl (bE (K:=K) rfl (au eL (dU (dW (K:=K) rfl) (pv 4) fm (fq (pv 6))) (dU (dW (K:=K) rfl) (pv 4) (fq (au bU (pv 6) ak)) fm))) (λ_ _ _ _ _=>(aA (i:=0) (Yk_ DV) rfl (z? rfl))) (λ_ _ _ _ _=>aR) (λ_ _ _ _ _=>(aH xJ hr (af (pv 0) (af (pv 1) (af (pv 2) (af (pv 3) ah)))))))))
    (b8)))))
  (av (aM (bY (aG (N:=["row","width"]) (sl:=[q?,j? 3]) (ao i7) Uv rfl rfl (by decide +kernel)) rfl (bE (K:=K) rfl (pv 4)) (λ_ _ _ _ _=>(aA (i:=0) (Yk_ ["row","width"]) rfl (z? rfl))) (λ_ _ _ _ _=>aR) (λ_ _ _ _ _=>(dU (dW (K:=K) rfl) (pv 0) (fq (pv 1)) fm)))))))),?_⟩
 have pp:=cP hp;have rv0:=rv;rw[tW] at rv;obtain⟨l,vs,rfl,hl,_,C⟩:=id rv.cf;have lv:vs.length=R.length:=by rw[C.len,Ya]
 have S7:∀ {i:Nat} {x:V} {H2:Hp},aF H H2->vs[i]?=j? x->∃a,R[i]?=j? a/\Rep H2 Any x (eN a):=λg hx=>by
  obtain⟨hi,r⟩:=C.get hx;rw[Ya] at hi;refine⟨_,Yc hi,?_⟩
  rw[Yb,Ye,Yc hi] at r;exact r.same g
 obtain⟨v0,hv0⟩:∃v0,vs[0]?=j? v0:=⟨_,Yc (by omega)⟩
 obtain⟨a0,ha0,r0⟩:=S7 (aF.refl H) hv0;obtain⟨l0,rfl,Iw,_⟩:=ints_rep r0;have w0:=(hR a0 (Yw ha0)).1;refine mY (λ_:Unit=>[Rq l,Iq (p),Iq (R.length),q?,q?,q?,q?,q?]) (λ_ H2=>H=H2) (λC' key=>⟨_,rfl,l,_,rfl,.inl (aO.of hl),JC key () rfl (by rw[lv];rfl)⟩) ?_
 rintro _ _ rfl;refine mY (λ_:Unit=>[Rq l,Iq (p),Iq (R.length),Iq (W),q?,q?,q?,q?]) (λ_ H2=>H=H2) (λC' key=>⟨_,rfl,l,_,_,_,rfl,rfl,aO.of hl,fu (j:=0) hv0,l0,_,rfl,.inl (aO.of Iw),JC key () rfl (by rw[Ya,w0];rfl)⟩) ?_
 rintro _ _ rfl;refine mY (λi:o?×List (List Int)=>[Rq l,Iq (p),Iq (R.length),Iq (W),Rq i.1,q?,q?,q?]) (λi H2=>aF H H2/\Rep H2 (dG H) (.ref i.1) (.vec (i.2.map eN))/\i.2=(Yj R.length).map λt=>R.getD t []++gf R.length t) (λC' key=>?_) ?_
 ·skip
  refine⟨_,rfl,l,rfl,⟨_,aO.of hl⟩,λD hD=>?_⟩
  refine tM (NT:=0) (xs:=vs) (λi ys H2=>aF H H2/\Cf H2 (Off H D) ys i λt=>eN (R.getD t []++gf R.length t)) ⟨aB hD _,.nil⟩ (λi ys H2 _ h=>aO.of (h.1 _ _ hl)) ?_ ?_
  ·rintro t m' x ys H2 r hm' ht hx hy hlen ⟨g2,cy⟩ hr2
   have htR:t<R.length:=by omega
   obtain⟨a,ha,ra⟩:=S7 g2 hx;have wa:=hR a (Yw ha);have k2:=aB hr2 (.tup [.int ((0+t:Nat):Int),x]);have e3:(upd H2 r (.tup [.int ((0+t:Nat):Int),x])) r=j? (.tup [.int ((0+t:Nat):Int),x]):=ay;generalize upd H2 r (.tup [.int ((0+t:Nat):Int),x])=H3 at k2 e3;obtain⟨la,rfl,hla,_⟩:=ints_rep (ra.same k2);refine⟨r,_,rfl,j5.of e3,rfl,_,_,rfl,_,_,rfl,rfl,?_⟩
   refine⟨_,rfl,_,rfl,_,rfl,by omega,by omega,λD2 yx=>?_⟩
   rw[Yf];refine iA (λj zs H4=>aF H3 H4/\zs=((gf R.length t).take j).map V.int) ⟨aB yx _,rfl⟩ ?_ ?_
   ·rintro j m2 zs H4 hm2 hj hz hlz ⟨g4,rfl⟩
    have hu:(gf R.length t)[j]?=j? (if j=t then 1 else 0):=by unfold gf;rw[Ye,Ys hj];rfl
    refine⟨_,rfl,_,rfl,rfl,_,rfl,?_⟩
    have fin:∀w:Int,(if j=t then (1:Int) else 0)=w->∃ys,H4 D2=j? (.lst ys)/\ys.length<K?/\∃m',m'<m2/\CW R.length D2 (λj zs H4=>aF H3 H4/\zs=((gf R.length t).take j).map V.int) (j+1) m' (upd H4 D2 (.lst (ys++[V.int w]))):=λw hw=>
     CW.emit hm2 hj (by rw[C?];omega) hz hlz ⟨aF.aX g4 yx _,by rw[List.take_succ,hu,hw,Yq];rfl⟩
    by_cases c:j=t
    ·refine Ph (by rw[c];congr 1;try omega) (fin 1 (Ja c))
    ·refine Pg (λz=>c ?_) (fin 0 (W9 c))
     injection z with z
     omega
   ·rintro zs H4 hz ⟨g4,rfl⟩
    rw[Zv (by unfold gf;rw[Ya,Yg];exact Yd _)] at hz
    have lu:(gf R.length t).length=R.length:=by unfold gf;rw[Ya,Yg]
    refine⟨la,D2,_,_,rfl,rfl,g4 _ _ hla,hz,by rw[Ya,Ya,wa.1,lu,C?];omega,λl5 n5=>?_⟩
    have k5:=aB n5 (.lst (a.map V.int++(gf R.length t).map V.int));have e5:(upd H4 l5 (.lst (a.map V.int++(gf R.length t).map V.int))) l5=j? (.lst ((a++gf R.length t).map V.int)):=by rw[Yq];exact ay
    generalize upd H4 l5 (.lst (a.map V.int++(gf R.length t).map V.int))=H5 at k5 e5;have Ol:=(k2.trans g4).trans k5;have VW:∀c,H2 c=q?->c≠D:=λc hc z=>by rw[z,hy] at hc;cases hc
    have ZD:H2 l5=q?:=(k2.trans g4).free n5;refine CW.emit hm' ht (by rw[lv,C?];omega) (Ol _ _ hy) hlen ⟨aF.aX (g2.trans Ol) hD _,?_⟩
    refine(Cf.push (cy.same Ol) ?_).upd
    have et:R.getD t []=a:=by rw[Yb,ha];rfl
    rw[et];exact sO e5 ⟨g2.free ZD,VW _ ZD⟩
  ·rintro ys H2 hy ⟨g2,cy⟩
   refine JC key (D,(Yj R.length).map λt=>R.getD t []++gf R.length t) ⟨g2,?_,rfl⟩ rfl
   show Rep H2 (dG H) (.ref D) (.vec (((Yj R.length).map λt=>R.getD t []++gf R.length t).map eN))
   rw[W6];rw[lv] at cy;exact(cy.imp λc o h k=>⟨h,k.1⟩).rep hy hD
 rintro⟨lf,S⟩ H3 ⟨g3,rf,eS⟩
 have rf:Rep H3 (dG H) (.ref lf) (.vec (S.map eN)):=rf;have lS:S.length<=50:=by rw[show S=_ from eS,Ya,Yg];exact n2
 have hS:∀l∈S,Rw p (W+R.length) l:=λl hl'=>by
  rw[show S=_ from eS] at hl'
  obtain⟨t,ht,rfl⟩:=List.mem_map.mp hl';have ht:=List.mem_range.mp ht;have wt:=hR (R.getD t []) (by rw[Yb,Yc ht];exact Yz ht)
  refine⟨by rw[Yi,wt.1];unfold gf;rw[Ya,Yg],λx hx=>?_⟩
  rcases List.mem_append.mp hx with h|h
  ·exact wt.2 x h
  ·obtain⟨j,_,rfl⟩:=List.mem_map.mp h
   split <;> omega
 have kS:C7 W R.length (λr j=>zr hp (R.getD r []) j) 0 (S.map (zr hp)):=by
  have:S.map (zr hp)=(Yj R.length).map (j7 W R.length λr j=>zr hp (R.getD r []) j):=by
   rw[show S=_ from eS,W6]
   refine Zy λt ht=>?_
   have ht:=List.mem_range.mp ht;have e:R[t]?=j? (R.getD t []):=by rw[Yb,Yc ht];rfl
   exact Ca hp rfl hR e
  rw[this];exact C7.start
 have uS:Nd W R.length (S.map (zr hp)):=by
  have:S.map (zr hp)=(Yj R.length).map (j7 W R.length λr j=>zr hp (R.getD r []) j):=by
   rw[show S=_ from eS,W6]
   refine Zy λt ht=>?_
   have ht:=List.mem_range.mp ht;have e:R[t]?=j? (R.getD t []):=by rw[Yb,Yc ht];rfl
   exact Ca hp rfl hR e
  rw[this];exact Nd.start
 clear eS;refine mY (λi:o?×Option V×Option V×Option V=>[Rq l,Iq (p),Iq (R.length),Iq (W),Rq i.1,i.2.1,i.2.2.1,i.2.2.2]) (λi H4=>aF H H4/\∃S:List (List Int),Rep H4 (dG H) (.ref i.1) (.vec (S.map eN))/\S.length<=50/\(∀l∈S,Rw p (W+R.length) l)/\Nd W R.length (S.map (zr hp))/\C7 W R.length (λr j=>zr hp (R.getD r []) j) W (S.map (zr hp))) (λC' key=>?_) ?_
 ·skip
  refine⟨_,rfl,_,rfl,by omega,by omega,?_⟩
  rw[Yf];refine cI (λk σ H4=>aF H H4/\∃(lf:o?) (S:List (List Int)) (o1 o2 o3:Option V),σ=[Rq l,Iq (p),Iq (R.length),Iq (W),Rq lf,o1,o2,o3]/\Rep H4 (dG H) (.ref lf) (.vec (S.map eN))/\S.length<=50/\(∀l∈S,Rw p (W+R.length) l)/\Nd W R.length (S.map (zr hp))/\C7 W R.length (λr j=>zr hp (R.getD r []) j) k (S.map (zr hp))) ⟨g3,lf,S,_,_,_,rfl,rf,lS,hS,uS,kS⟩ ?_ ?_
  ·rintro k σ H4 hk ⟨g4,lf,S,o1,o2,o3,rfl,rf,lS,hS,uS,kS⟩
   show gE 5 (V.int (0+(k:Int))) _ _ _
   rw[Zn];have ZE:=rf;rw[tW] at rf;obtain⟨VX,fs,VY,Ef,nlf,CF⟩:=id rf.cf;obtain rfl:lf=VX:=V.ref.inj VY
   have UB:fs.length=S.length:=by rw[CF.len,Ya]
   have fget:∀ {i:Nat} {x:V} {H2:Hp},aF H4 H2->fs[i]?=j? x->∃a,S[i]?=j? a/\Rep H2 Any x (eN a):=λg hx=>by
    obtain⟨hi,r⟩:=CF.get hx;rw[Ya] at hi;refine⟨_,Yc hi,?_⟩
    rw[Yb,Ye,Yc hi] at r;exact(r.same g).any
   refine⟨_,rfl,_,rfl,p,W+R.length,k,.ref lf,S,rfl,ZE.any,hS,by omega,by omega,λt s0 H5 g5 ht h0=>?_,λh0 H5 g5=>?_⟩
   ·have ht':=(List.getElem?_eq_some_iff.mp ht).1
    refine⟨_,rfl,rfl,_,rfl,Bk (λz=>by cases z) ?_⟩
    have g45:=g4.trans g5;obtain⟨xt,hxt⟩:∃x,fs[t]?=j? x:=⟨_,Yc (by omega)⟩
    obtain⟨s0',S8,rx0⟩:=fget g5 hxt;obtain rfl:s0=s0':=by rw[ht] at S8;exact M? S8
    have S9:=Yw ht;refine⟨_,rfl,_,rfl,lf,_,_,_,rfl,rfl,aO.of (g5 _ _ Ef),fu (j:=t) hxt,_,rfl,_,rfl,p,hp,W+R.length,k,xt,s0,rfl,rx0,hS s0 S9,by omega,by omega,h0,λb r6 H6 hb g6 Qw=>?_⟩
    have Rm:=g5.trans g6;refine⟨_,rfl,_,rfl,_,rfl,lf,_,rfl,aO.of (Rm _ _ Ef),λl7 n7=>?_⟩
    rw[MI fs t (by omega)]
    generalize hX:upd H6 l7 _=H7;have x7:=aV n7 hX;clear hX;refine⟨_,rfl,_,rfl,_,_,rfl,rfl,_,rfl,lf,_,rfl,aO.of (x7.1 _ _ (Rm _ _ Ef)),λl8 n8=>?_⟩
    rw[show iX fs (j? ((t:Int)+1)) q?=fs.drop (t+1) from by rw[show(t:Int)+1=((t+1:Nat):Int) by omega];exact zo fs (t+1) (by omega)]
    generalize hX:upd H7 l8 _=H8;have x8:=aV n8 hX;clear hX;refine⟨l7,l8,_,_,rfl,rfl,x8.1 _ _ x7.2,x8.2,by rw[Yt,Za,C?];omega,λl9 n9=>?_⟩
    generalize hX:upd H8 l9 _=H9;have x9:=aV n9 hX;clear hX;have Rn:=(x7.1.trans x8.1).trans x9.1;have Nf:=Rm.trans Rn;refine⟨l9,rfl,⟨_,aO.of x9.2⟩,λD hD=>?_⟩
    have VZ:=Qw.same Rn;have wl:=(hS s0 S9).lead hp (b:=b);have hSS:∀(i:Nat) x,(fs.take t++fs.drop (t+1))[i]?=j? x->∃a,(S.take t++S.drop (t+1))[i]?=j? a/\∀H2,aF H4 H2->Rep H2 Any x (eN a):=λi x hx=>by
     rw[vN (by omega)] at hx
     obtain⟨a,ha,_⟩:=fget (aF.refl H4) hx;exact⟨a,by rw[vN ht'];exact ha,λH2 g=>by obtain⟨a',ha',r⟩:=fget g hx;rw[ha] at ha';cases ha';exact r⟩
    have V1:(S.take t++S.drop (t+1)).length=(fs.take t++fs.drop (t+1)).length:=by rw[Yi,Yi,Yt,Yt,Za,Za,UB]
    have S_:∀a∈S.take t++S.drop (t+1),a∈S:=λa ha=>(List.mem_append.mp ha).elim List.mem_of_mem_take List.mem_of_mem_drop
    have nD:H D=q?:=(g4.trans Nf).free hD;refine gG (xs:=fs.take t++fs.drop (t+1)) (λi ys H2=>aF H9 H2/\Cf H2 (Off H D) ys i λi=>eN (((S.take t++S.drop (t+1)).map λa=>Wb (λx y=>(x-a.getD k 0*y) % (p:Int)) a (s0.map λx=>((b:Int)*x) % (p:Int))).getD i [])) ⟨aB hD _,.nil⟩ (λi ys H2 _ h=>aO.of (h.1 _ _ x9.2)) ?_ ?_
    ·rintro i m' x ys H2 hm' hi hx hy hlen ⟨g2,cy⟩
     obtain⟨a,ha,ra⟩:=hSS i x hx;have ma:=S_ a (Yw ha);refine⟨_,rfl,_,rfl,_,rfl,_,rfl,p,W+R.length,k,x,r6,a,_,rfl,hp,ra H2 (Nf.trans g2),(VZ.same g2).any,hS a ma,wl,by omega,by omega,λr H3 g3 rr=>?_⟩
     refine CW.emit hm' hi (by rw[<- V1,Yi,Yt,Za,C?];omega) (g3 _ _ hy) hlen ⟨aF.aX (g2.trans g3) hD _,?_⟩
     refine(Cf.push (cy.same g3) ?_).upd
     have e:((S.take t++S.drop (t+1)).map λa=>Wb (λx y=>(x-a.getD k 0*y) % (p:Int)) a (s0.map λx=>((b:Int)*x) % (p:Int))).getD i []=Wb (λx y=>(x-a.getD k 0*y) % (p:Int)) a (s0.map λx=>((b:Int)*x) % (p:Int)):=by rw[Yb,Ye,ha];rfl
     rw[e];refine rr.imp λc o h kk=>⟨h,((g4.trans Nf).trans g2).free kk,λz=>?_⟩
     rw[z] at kk;rw[show H2 D=q? from kk] at hy
     cases hy
    ·rintro ys H2 hy ⟨g2,cy⟩
     show gE 4 (V.ref D) _ _ _
     have gA:=(g4.trans Nf).trans g2;refine⟨gA,D,(S.take t++S.drop (t+1)).map (λa=>Wb (λx y=>(x-a.getD k 0*y) % (p:Int)) a (s0.map λx=>((b:Int)*x) % (p:Int))),_,_,_,rfl,?_,?_,?_,?_,?_⟩
     ·rw[tW,Ya,Ya,V1]
      refine(Cf.congr (cy.imp λc o h kk=>⟨h,kk.1⟩) λi hi=>?_).rep hy nD
      rw[Yb,Yb,Ye (f:=eN)];cases hz:((S.take t++S.drop (t+1)).map λa=>Wb (λx y=>(x-a.getD k 0*y) % (p:Int)) a (s0.map λx=>((b:Int)*x) % (p:Int)))[i]? with
      | none=>exact Jg (List.getElem?_eq_none_iff.mp hz) (by rw[Ya,V1];omega)
      | some z=>rfl
     ·rw[Ya,Yi,Yt,Za];omega
     ·intro l' hl'
      obtain⟨a,ha,rfl⟩:=List.mem_map.mp hl';exact(hS a (S_ a ha)).without hp wl
     ·refine uS.step (t:=t) (k:=k) (s0:=zr hp s0) (r:=zr hp (s0.map λx=>((b:Int)*x) % (p:Int))) (b:=nt (ground p hp).α b) (by rw[Ye,ht];rfl) (λj=>AD hp (hS s0 S9) j) (by rw[Ya,Ya,Ya,Yi,Yt,Za];omega) λi s' hi=>?_
      rw[Ye,Ye,vN ht'] at hi;cases hz:S[if i<t then i else i+1]? with
      | none=>rw[hz] at hi;cases hi
      | some a=>
       rw[hz] at hi;cases hi;have wa:=hS a (Yw hz);exact⟨zr hp a,by rw[Ye,hz];rfl,λj=>qA hp wa wl (wa.get k).1 j⟩
     ·have b0:=hS s0 S9
      refine kS.step (r:=zr hp (s0.map λx=>((b:Int)*x) % (p:Int))) (s0:=zr hp s0) (b:=nt (ground p hp).α b) (List.mem_map.mpr ⟨s0,S9,rfl⟩) (λj=>AD hp b0 j) ?_ ?_ ?_
      ·rw[AD hp b0]
       show nt (ground p hp).α b*nt (ground p hp).α (s0.getD k 0).toNat=1
       rw[<- tV,<- DM (ground p hp).ch];show nt (ground p hp).α (b*(s0.getD k 0).toNat % p)=1
       rw[hb];exact wX
      ·intro z hz
       obtain⟨a,ha,rfl⟩:=List.mem_map.mp hz;obtain⟨i,hi,rfl⟩:=Wd ha;by_cases c:i=t
       ·left
        subst c;rw[Yc hi] at ht;cases ht;rfl
       ·right
        refine List.mem_map.mpr ⟨_,List.mem_map.mpr ⟨S[i],?_,rfl⟩,?_⟩
        ·refine List.mem_iff_getElem?.mpr ⟨if i<t then i else i-1,?_⟩
         rw[vN ht'];by_cases c2:i<t
         ·rw[Ja c2,Ja c2];exact Yc hi
         ·rw[W9 c2,W9 (by omega),show i-1+1=i by omega];exact Yc hi
        ·funext j
         exact qA hp (hS _ (Yz hi)) wl ((hS _ (Yz hi)).get k).1 j
      ·intro z hz
       obtain⟨y,hy',rfl⟩:=List.mem_map.mp hz;obtain⟨a,ha,rfl⟩:=List.mem_map.mp hy';refine⟨zr hp a,List.mem_map.mpr ⟨a,S_ a ha,rfl⟩,?_⟩
       funext j
       exact qA hp (hS a (S_ a ha)) wl ((hS a (S_ a ha)).get k).1 j
   ·refine⟨_,rfl,rfl,_,rfl,uN rfl ?_⟩
    exact⟨g4.trans g5,lf,S,_,_,_,rfl,ZE.same g5,lS,hS,uS,kS.skip λr hr=>by
     obtain⟨a,ha,rfl⟩:=List.mem_map.mp hr;show nt (ground p hp).α (a.getD k 0).toNat=0
     rw[h0 a ha];rfl⟩
  ·rintro σ H4 ⟨g4,lf,S,o1,o2,o3,rfl,rf,lS,hS,uS,kS⟩
   exact key (lf,o1,o2,o3) _ ⟨g4,S,rf,lS,hS,uS,kS⟩
 rintro⟨lf,o1,o2,o3⟩ H4 ⟨g4,S,rf,lS,hS,uS,kS⟩
 rw[tW] at rf;obtain⟨VX,fs,VY,Ef,nlf,CF⟩:=id rf.cf;obtain rfl:lf=VX:=V.ref.inj VY
 have UB:fs.length=S.length:=by rw[CF.len,Ya]
 refine⟨_,rfl,lf,rfl,⟨_,aO.of Ef⟩,λD hD=>?_⟩
 have nD:H D=q?:=g4.free hD;refine gG (xs:=fs) (λi ys H2=>aF H4 H2/\Cf H2 (Off H D) ys i λi=>eN ((S.getD i []).drop W)) ⟨aB hD _,.nil⟩ (λi ys H2 _ h=>aO.of (h.1 _ _ Ef)) ?_ ?_
 ·rintro i m' x ys H2 hm' hi hx hy hlen ⟨g2,cy⟩
  obtain⟨hi',rx⟩:=CF.get hx;rw[Ya] at hi';rw[Yb,Ye,Yc hi'] at rx;have rx:Rep H4 (dG H) x (eN S[i]):=rx;obtain⟨la,rfl,hla,_⟩:=ints_rep (rx.same g2);have wa:=hS _ (Yz hi');refine⟨_,rfl,_,rfl,_,rfl,la,_,rfl,aO.of hla,λl5 n5=>?_⟩
  rw[zo _ W (by rw[Ya,wa.1];omega)]
  generalize hX:upd H2 l5 _=H5;have x5:=aV n5 hX;clear hX;have Ol:=g2.trans x5.1;refine CW.emit hm' hi (by rw[UB,C?];omega) (x5.1 _ _ hy) hlen ⟨aF.aX Ol hD _,?_⟩
  refine(Cf.push (cy.same x5.1) ?_).upd
  have e:S.getD i []=S[i]:=by rw[Yb,Yc hi'];rfl
  rw[e];refine sO (by rw[List.map_drop];exact x5.2) ⟨(g4.trans g2).free n5,λz=>?_⟩
  rw[z,hy] at n5;cases n5
 ·rintro ys H2 hy ⟨g2,cy⟩
  refine q S _ H2 (g4.trans g2) hS lS (λl hl=>?_) kS ?_
  ·obtain⟨ι,h1,h2⟩:=uS
   obtain⟨t,ht,rfl⟩:=Wd hl;have e:=h2 t t (zr hp S[t]) (by rw[Ye,Yc ht];rfl) (by rw[Ya];exact ht)
   refine⟨ι t,h1 t (by rw[Ya];exact ht),λz=>?_⟩
   rw[Ja rfl] at e;unfold zr at e;rw[z] at e;exact(ground p hp).fld.1 e.symm
  rw[tW,Ya,<- UB];refine(Cf.congr (cy.imp λc o h kk=>⟨h,kk.1⟩) λi hi=>?_).rep hy nD
  rw[Yb,Yb,Ye,Yc (by omega)]
  rfl
end
def AF:Sp:=λvs H Q _=>∃(n k:Nat) (x:Int),vs=[.int (n:Int),.int (k:Int),.int x]/\n<=1000/\∀r H',aF H H'->Rep H' (dG H) r (rE n λj=>if j=k then x else 0)->Q r H'
section
theorem Cc (B:iw mg)(F:Src K mg "unit_row" mw As):b9 P w K mg base 1 "unit_row" As AF:=by
 refine F.ok B5 (λvs H Q E h=>?_) (λf cdv A outer s H vs Q E hr h=>?_)
 ·obtain⟨n,k,x,rfl,_⟩:=h;rfl
 obtain⟨n,k,x,rfl,hn,q⟩:=h;refine⟨_,av (aM (bY (aG (N:=["at","place","number"]) (sl:=[q?,j? 1,j? 2]) (ao mw) As rfl rfl (by decide +kernel)) rfl (bC rfl B.range (af (pv 0) ah)) (λ_ _ _ _ _=>(aA (i:=0) (Yk_ ["at","place","number"]) rfl (z? rfl))) (λ_ _ _ _ _=>aR) (λ_ _ _ _ _=>(vU (a_ iW (pv 0) (pv 1) (bG _)) (pv 2) ak)))),?_⟩
 refine⟨_,rfl,_,rfl,by omega,by omega,λD hD=>?_⟩
 rw[Yf];refine yt (λj=>.num (if j=k then x else 0)) hD hn (λi H2 Q2 hi g2 q2=>?_) λH2 g2 rr=>q _ H2 g2 rr
 walk_at "rd"
 refine fV (λc=>?_) (λc=>?_)
 ·have e:i=k:=by have:=V.int.inj (Jc c);omega
  rw[Ja e] at q2;exact⟨_,rfl,q2 _ H2 (aF.refl _) (.num _)⟩
 ·have e:i≠k:=λz=>c (Jb (by rw[z,Zn]))
  rw[W9 e] at q2;exact q2 _ H2 (aF.refl _) (.num _)
structure Eu (k m a b f g A C:Int):Prop where
 pos:0<a
 nn:0<=b
 le:b<=m
 A0:0<=A
 C0:0<=C
 sg:(f=A/\g=-C)\/(f=-A/\g=C)
 sum:a*C+b*A=m
 cf:∃t,f*k=a+m*t
 cg:∃t,g*k=b+m*t
 bz:∃x y:Int,x*a+y*b=1
theorem Eu.bnd {k m a b f g A C:Int}(h:Eu k m a b f g A C):g.natAbs<=m.natAbs:=by
 have h1:C<=a*C:=by
  have:=Int.mul_le_mul_of_nonneg_right (show 1<=a by have:=h.pos;omega) h.C0
  omega
 have h2:=W0 h.nn h.A0;have h3:=h.sum;have h4:=h.C0;rcases h.sg with ⟨_,e⟩|⟨_,e⟩ <;> omega
theorem Eu.step {k m a b f g A C q:Int}(h:Eu k m a b f g A C)(hb:0<b)(hq:q=a / b):Eu k m b (a-q*b) g (f-q*g) C (A+q*C)/\a-q*b<b:=by
 have e1:a-q*b=a % b:=by rw[hq,Int.emod_def,Z0]
 have h1:=Zj a (show b≠0 by omega)
 have h2:=Zf a hb;have q0:0<=q:=by rw[hq];exact Int.ediv_nonneg (by have:=h.pos;omega) (by omega)
 have le:=h.le;obtain⟨t,ht⟩:=h.cf;obtain⟨t',ht'⟩:=h.cg;obtain⟨x,y,hxy⟩:=h.bz;refine⟨⟨hb,by omega,by omega,h.C0,by have:=W0 q0 h.C0;have:=h.A0;omega,?_,?_,⟨t',ht'⟩,⟨t-q*t',?_⟩,⟨x*q+y,x,?_⟩⟩,by omega⟩
 ·rcases h.sg with ⟨e,e'⟩|⟨e,e'⟩
  ·exact .inr ⟨e',by rw[e,e'];grind⟩
  ·exact .inl ⟨e',by rw[e,e'];grind⟩
 ·have:=h.sum;grind
 ·grind
 ·grind
def KI:Sp:=λvs H Q _=>∃k m:Int,vs=[.int k,.int m]/\0<k/\2<=m/\Bd 8000 k/\Bd 8000 m/\(∃x y:Int,x*k+y*m=1)/\∀b t:Int,0<=b->b<m->b*k=1+m*t->∀H',aF H H'->Q (.int b) H'
theorem Eg (F:Src K mg "back_by" t7 ["k","power"]):b9 P w K mg base 1 "back_by" ["k","power"] KI:=by
 refine F.ok gx (λvs H Q E h=>?_) (λf cdv A outer s H vs Q E hr h=>?_)
 ·obtain⟨k,m,rfl,_⟩:=h;rfl
 obtain⟨k,m,rfl,hk,hm,bk,bm,hb,q⟩:=h;refine⟨_,ai (vV (i:=2) (j:=3) rfl gx.nd rfl rfl (by decide) rfl rfl (af (pv 0) (af (pv 1) ah)) rfl)
  (ai (lK (ja (af ak (af ak ah))) (cG (n:=2) (K:=K) rfl rfl (aP (aA (i:=4) gx.nd rfl (z? rfl)) (aP (aA (i:=5) gx.nd rfl (z? rfl)) cF))))
  (ai (eW D? (a_ qZ (pv 3) ak (bG _))
   (ai (aC (i:=6) gx.nd rfl (z? rfl) (au bL (pv 2) (pv 3)))
   (ai (vV (i:=2) (j:=3) rfl gx.nd rfl rfl (by decide) rfl rfl (af (pv 3) (af (au bO (pv 2) (au aW (pv 6) (pv 3))) ah)) rfl)
   (av (vV (i:=4) (j:=5) rfl gx.nd rfl rfl (by decide) rfl rfl (af (pv 5) (af (au bO (pv 4) (au aW (pv 6) (pv 5))) ah)) rfl)))))
  (av (aM (au bD (pv 4) (pv 1)))))),?_⟩
 walk_at "rd"
 refine⟨_,_,rfl,aT rfl,λp hp=>⟨p,_,rfl,j5.of ay,rfl,_,_,rfl,_,_,rfl,rfl,?_⟩⟩
 have g0:=aB hp (.tup [.int 1,.int 0]);generalize L2.upd H p (.tup [.int 1,.int 0])=H1 at g0 ⊢;refine jI (λσ H2=>H2=H1/\∃(a b f g:Int) (o:Option V) (A C:Int),σ=[j? (.int k),j? (.int m),j? (.int a),j? (.int b),j? (.int f),j? (.int g),o]/\Eu k m a b f g A C/\Bd 8000 a) (λσ _=>match σ with | [_,_,_,j? (.int b),_,_,_]=>b.toNat|_=>0)
  ⟨rfl,k,m,1,0,_,1,0,rfl,⟨hk,by omega,by omega,by decide,by decide,.inl ⟨rfl,rfl⟩,by omega,⟨0,by omega⟩,⟨-1,by omega⟩,hb⟩,bk⟩ ?_
 rintro σ H2 ⟨rfl,a,b,f,g,o,A,C,rfl,e,ba⟩;refine⟨_,rfl,rfl,_,rfl,?_⟩
 have le:=e.le;have nn:=e.nn;by_cases z:b=0
 ·refine uN (by rw[z]) ?_
  refine⟨_,rfl,_,rfl,_,_,rfl,rfl,(show m≠0 by omega),?_⟩
  obtain⟨x,y,hxy⟩:=e.bz;have a1:a=1:=by
   have:a ∣ 1:=⟨x,by rw[<- hxy,z];grind⟩
   have:=Int.le_of_dvd (by decide) this
   have:=e.pos;omega
  obtain⟨t,ht⟩:=e.cf;show Q (V.int (f.fmod m)) H2
  rw[Y8 _ (show 0<=m by omega)]
  exact q _ (t-f / m*k) (Zj _ (by omega)) (Zf _ (by omega)) (by rw[Int.emod_def,a1] at *;grind) H2 g0
 ·refine Bk (λy=>z (V.int.inj y)) (win ?_)
  have b0:0<b:=by omega
  have bb:Bd 8000 b:=Bd.le (y:=m) (by omega) bm
  have bg:Bd 8000 g:=Bd.le e.bnd bm;have eq:a.fdiv b=a / b:=Zr _ (by omega)
  obtain⟨e',hlt⟩:=e.step b0 eq;have bq:Bd 8000 (a.fdiv b):=ba.fdiv;refine⟨_,rfl,_,rfl,_,_,rfl,rfl,bb.dv (by omega),?_⟩
  refine⟨_,rfl,_,rfl,_,rfl,_,rfl,_,_,rfl,rfl,bq.ok bb,_,_,rfl,rfl,_,_,rfl,?_⟩
  refine⟨_,rfl,_,rfl,_,rfl,_,rfl,_,_,rfl,rfl,bq.ok bg,_,_,rfl,rfl,_,_,rfl,?_⟩
  refine⟨⟨rfl,b,_,g,_,_,C,_,rfl,e',bb⟩,?_⟩
  show(a-a.fdiv b*b).toNat<b.toNat
  omega
inductive xK (K:bM)(vs:List V)(H:Hp)(Q:VK)(xF:XK):Prop where
 | mk (n:Nat) (u v:V) (T:Nat->Vc) (x c:Vc) (u9:vs=[u,v]) (u_:Rep H Any u (mE n n T)) (vc:Rep H Any v (rE n x)) (ve:n<=100) (vf:dB n T) (vg:(∀j,j<n->x j=sm n c T j)) (xG:(∀i,i<n->Bd 100000 (c i))) (zx:(∀i j,i<n->j<n->Bd 8000 (T i j))) (A6:∀r H',aF H H'->Rep H' (dG H) r (rE n c)->Q r H')
theorem Qx {n:Nat}{c:Vc}{i:Nat}(hi:i<=n):(lv i λj=>c (n-1-j)).reverse=(lv n c).drop (n-i):=by
 refine Ze λk=>?_
 unfold lv;by_cases hk:k<i
 ·rw[List.getElem?_reverse (by rw[Ya,Yg];exact hk),Ya,Yg,Ye,Ys (by omega),List.getElem?_drop,Ye,Ys (by omega)]
  show j? (c (n-1-(i-1-k)))=j? (c (n-i+k))
  congr 2;omega
 ·rw[List.getElem?_eq_none_iff.mpr (by rw[Z6,Ya,Yg];omega),List.getElem?_eq_none_iff.mpr (by rw[Za,Ya,Yg];omega)]
theorem sP (n:Nat)(v:Vc):lv (n+1) v=lv n v++[v n]:=by unfold lv;rw[Wk,Yq];rfl
theorem xM (B:iw mg)(F:Src K mg "coordinates" iQ G6):b9 P w K mg base 1 "coordinates" G6 (xK K):=by
 refine F.ok eG (λvs H Q E h=>?_) (λf cdv A outer s H vs Q E hr h=>?_)
 ·obtain⟨n,u,v,T,x,c,rfl,_⟩:=h;rfl
 obtain⟨n,u,v,T,x,c,rfl,ru,rv,hn,hT,hx,bc,bT,q⟩:=h;obtain⟨lu,us,rfl,ZF,_,Cu⟩:=ru.cf;obtain⟨lx,rfl,hlx,_⟩:=cS rv;refine⟨_,ai (aC (i:=2) eG.nd rfl (z? rfl) (pv 1))
  (ai (aC (i:=3) eG.nd rfl (z? rfl) (aZ ah))
  (ai (bZ D? rfl (zU rfl B.reversed (af (wj rfl B.range (af (aJ (aN (K:=K) rfl) rfl B.len bN (af (pv 1) ah)) ah)) ah)) (aA (i:=4) eG.nd rfl (z? rfl))
   (ai (aC (i:=5) eG.nd rfl (Or.inr rfl) (au bL (bI (aI (K:=K) rfl) (pv 2) (pv 4) (λ_ _=>rfl)) (bI (aI (K:=K) rfl) (bI (aI (K:=K) rfl) (pv 0) (pv 4) (λ_ _=>rfl)) (pv 4) (λ_ _=>rfl))))
   (ai (gh (i:=2) eG.nd rfl (z? rfl) (aG (N:=["number","more","often"]) (sl:=[q?,q?,j? 5]) (ao iQ) ["lattice","row","left","told","place","often"] rfl rfl (by decide +kernel)) rfl (kc (K:=K) rfl rfl B.zip (af (pv 2) (af (bI (aI (K:=K) rfl) (pv 0) (pv 4) (λ_ _=>rfl)) ah))) (λ_ _ _ _ _=>(cG (n:=2) (K:=K) rfl rfl (aP (aA (i:=0) (Yk_ ["number","more","often"]) rfl (z? rfl)) (aP (aA (i:=1) (Yk_ ["number","more","often"]) rfl (z? rfl)) cF)))) (λ_ _ _ _ _=>aR) (λ_ _ _ _ _=>(au bO (pv 0) (au aW (pv 2) (pv 1)))))
   (av (d9 (mW R? F! G! c8 (pv 3) (af (pv 5) ah)))))))
  (ai (d9 (Dh R? PySem.F.slot_list_reverse PySem.F.type_list_reverse pZ (pv 3) ))
  (av (aM (pv 3)))))),?_⟩
 walk_at "rd"
 intro p hp;have g0:=aB hp (.lst []);refine⟨_,rfl,lx,_,rfl,.inl (aO.of (g0 _ _ hlx)),?_⟩
 rw[Ya,aQ];refine⟨_,rfl,λp3 n3=>?_⟩
 have k3:=aB n3 (.oZ 0 (n:Int));refine⟨p3,_,rfl,ay,by omega,by omega,?_⟩
 rw[Yf];have g3:=g0.trans k3;have lxp:lx≠p:=bK hlx hp;refine rG (λi σ H2=>aF H H2/\∃(ra:o?) (o1 o2:Option V),σ=[Rq lu,Rq lx,Rq ra,Rq p,o1,o2]/\H2 p=j? (.lst ((lv i λj=>c (n-1-j)).map V.int))/\H2 ra=j? (.lst ((lv n λj=>sm (n-i) c T j).map V.int))/\ra≠p)
  ⟨g3,lx,_,_,rfl,k3 _ _ ay,?_,lxp⟩ ?_ ?_
 ·rw[g3 _ _ hlx]
  congr 3
  unfold lv;exact Zy λj hj=>hx j (List.mem_range.mp hj)
 ·rintro i σ H2 hi ⟨g2,ra,o1,o2,rfl,ep,era,hne⟩
  obtain⟨d,hd⟩:∃d,d+1+i=n:=⟨n-1-i,by omega⟩
  have ed:((n:Int)-1-(i:Int))=((d:Nat):Int):=by omega
  rw[show n-i=d+1 by omega] at era
  obtain⟨vd,hvd,rd⟩:=Cu.at_ d (by omega)
  obtain⟨ld,rfl,V2,_⟩:=cS rd;have hat:qV us ((d:Nat):Int)=j? (.ref ld):=fu hvd;have T0:=hT.nz d (by omega)
  rw[ed];refine⟨_,rfl,_,rfl,ra,_,_,_,rfl,rfl,aO.of era,mZ (by omega),_,rfl,_,rfl,lu,_,_,_,rfl,rfl,aO.of (g2 _ _ ZF),hat,_,rfl,ld,_,_,_,rfl,rfl,aO.of (g2 _ _ V2),mZ (by omega),_,_,rfl,rfl,(bT d d (by omega) (by omega)).dv T0,?_⟩
  show gE 5 (V.int ((sm (d+1) c T d).fdiv (T d d))) _ _ _
  rw[hT.at_ c (by omega),Int.mul_fdiv_cancel _ T0]
  refine⟨_,rfl,_,rfl,_,rfl,lu,_,_,_,rfl,rfl,aO.of (g2 _ _ ZF),hat,ra,ld,rfl,⟨_,aO.of era⟩,⟨_,aO.of (g2 _ _ V2)⟩,λD hD=>?_⟩
  refine JI (λj=>.num (sm d c T j)) (n:=n) (by rw[Ya,aQ]) (by rw[Ya,aQ]) era (g2 _ _ V2) hD (by omega) (λj vx vy t H3 Q2 hj g3 ig AB ht q2=>?_) λH3 g3 rr=>?_
  ·obtain⟨y1,hy1,rfl⟩:=aS ig
   obtain⟨y2,D8,rfl⟩:=aS AB;rw[cE hj] at hy1 D8;cases hy1;cases D8;refine⟨t,_,rfl,j5.of ht,rfl,_,_,rfl,_,_,rfl,rfl,?_⟩
   refine⟨_,rfl,_,rfl,_,rfl,_,_,rfl,rfl,(bc d (by omega)).ok (bT d j (by omega) hj),_,_,rfl,rfl,?_⟩
   have e:sm (d+1) c T j-c d*T d j=sm d c T j:=by show sm d c T j+c d*T d j-c d*T d j=_;omega
   show Q2 (V.int (sm (d+1) c T j-c d*T d j)) H3
   rw[e];exact q2 _ H3 (aF.refl _) (.num _)
  ·have fD:H D=q?:=g2.free hD
   obtain⟨l2,e2,V3,_⟩:=cS rr;cases e2;have ZG:=g3 _ _ ep;have S6:D≠p:=λz=>by rw[z,ep] at hD;cases hD
   refine⟨_,rfl,.inl ⟨rfl,_,aO.of ZG⟩,_,rfl,p,_,_,rfl,rfl,ZG,by rw[Ya,aQ,C?];omega,?_⟩
   refine⟨(g2.trans g3).aX hp _,D,_,_,rfl,?_,?_,S6⟩
   ·rw[ay,sP,Yq,show n-1-i=d by omega];rfl
   ·rw[aL S6,show n-(i+1)=d by omega];exact V3
 ·rintro σ H2 ⟨g2,ra,o1,o2,rfl,ep,era,hne⟩
  refine⟨_,rfl,.inl ⟨rfl,_,aO.of ep⟩,p,_,rfl,rfl,ep,?_⟩
  rw[<- List.map_reverse,Qx (Yd n),W5,List.drop_zero];exact⟨_,rfl,q _ _ (g2.aX hp _) (nK ay hp)⟩
theorem KJ {x:Vc}{A:Nat->Vc}{i:Nat}:∀k,(lv k λm=>x m*A m i).sum=sm k x A i
 | 0=>rfl
 | k+1=>by rw[sP,List.sum_append,KJ k];show sm k x A i+(x k*A k i+0)=sm k x A i+x k*A k i;omega
inductive sQ (K:bM)(vs:List V)(H:Hp)(Q:VK)(xF:XK):Prop where
 | mk (k n:Nat) (u v:V) (x:Vc) (A:Nat->Vc) (u9:vs=[u,v]) (u_:Rep H Any u (rE k x)) (vc:Rep H Any v (mE k n A)) (ve:1<=k) (vf:k<=1000) (vg:n<=1000) (xG:(∀i,i<k->Bd 100000 (x i))) (zx:(∀i j,i<k->j<n->Bd 100000 (A i j))) (A6:∀r H',aF H H'->Rep H' (dG H) r (rE n λj=>sm k x A j)->Q r H')
theorem Hf (B:iw mg)(F:Src K mg "summed" lE Au):b9 P w K mg base 1 "summed" Au (sQ K):=by
 refine F.ok G8 (λvs H Q E h=>?_) (λf cdv A outer s H vs Q E hr h=>?_)
 ·obtain⟨k,n,u,v,x,A,rfl,_⟩:=h;rfl
 obtain⟨k,n,u,v,x,A,rfl,ru,rv,hk1,hk,hn,bx,bA,q⟩:=h;obtain⟨lx,rfl,hlx,_⟩:=cS ru;obtain⟨lA,us,rfl,Eh,_,C⟩:=rv.cf;refine⟨_,av (aM (rY (f9 (N:=["place","numbers","rows"]) (sl:=[q?,j? 0,j? 1]) "place" (ao lE) Au rfl rfl (by decide +kernel)) rfl (bC rfl B.range (af (aJ (aN (K:=K) rfl) rfl B.len bN (af (bI (aI (K:=K) rfl) (pv 1) ak (λ_ _=>rfl)) ah)) ah)) (λ_ _ _ _ _=>(aA (i:=0) (Yk_ ["place","numbers","rows"]) rfl (Or.inr rfl))) (λ_ _ _ _ _=>aR) (λ_ _ _ _ _=>(aJ (tX (K:=K) rfl rfl) rfl B.sum Dm (af (bY (aG (N:=["many","row","place"]) (sl:=[q?,q?,j? 0]) (nF (z8 ((cA lE).getD 0 (.Pass ⟨0,0,0,0⟩))) (ao lE)) ["place","numbers","rows"] rfl rfl (by decide +kernel)) rfl (kc (K:=K) rfl rfl B.zip (af (pv 1) (af (pv 2) ah))) (λ_ _ _ _ _=>(cG (n:=2) (K:=K) rfl rfl (aP (aA (i:=0) (Yk_ ["many","row","place"]) rfl (z? rfl)) (aP (aA (i:=1) (Yk_ ["many","row","place"]) rfl (z? rfl)) cF)))) (λ_ _ _ _ _=>aR) (λ_ _ _ _ _=>(au aW (pv 0) (bI (aI (K:=K) rfl) (pv 1) (pv 2) (λ_ _=>rfl))))) ah))))),?_⟩
 walk_at "rd"
 obtain⟨v0,hv0,r0⟩:=C.at_ 0 (by omega)
 obtain⟨l0,rfl,Iw,_⟩:=cS r0;have KL:qV us 0=j? (.ref l0):=fu (j:=0) hv0;refine⟨lA,_,_,_,rfl,rfl,aO.of Eh,KL,l0,_,rfl,.inl (aO.of Iw),?_⟩
 rw[Ya,aQ];refine⟨_,rfl,by omega,by omega,λD hD=>?_⟩
 rw[Yf];refine yt (λj=>.num (sm k x A j)) hD hn (λi H2 Q2 hi g2 q2=>?_) λH2 g2 rr=>q _ H2 g2 rr
 rw[Zn];refine⟨_,rfl,_,rfl,lx,lA,rfl,⟨_,aO.of (g2 _ _ hlx)⟩,⟨_,aO.of (g2 _ _ Eh)⟩,λD2 yx=>?_⟩
 refine JI (λm=>.num (x m*A m i)) (n:=k) (by rw[Ya,aQ]) C.len (g2 _ _ hlx) (g2 _ _ Eh) yx (by omega) (λm vx vy t H3 Q3 hm g3 ig AB ht q3=>?_) λH3 g3 rr=>?_
 ·obtain⟨y1,hy1,rfl⟩:=aS ig
  rw[cE hm] at hy1;cases hy1;obtain⟨_,ry⟩:=C.get AB;obtain⟨lm,rfl,hlm,_⟩:=cS ry;refine⟨t,_,rfl,j5.of ht,rfl,_,_,rfl,_,_,rfl,rfl,?_⟩
  refine⟨_,rfl,_,rfl,_,rfl,lm,_,_,_,rfl,rfl,aO.of ((g2.trans g3) _ _ hlm),mZ hi,_,_,rfl,rfl,(bx m hm).ok (bA m i hm hi),?_⟩
  exact q3 _ H3 (aF.refl _) (.num _)
 ·obtain⟨l2,e2,V3,_⟩:=cS rr
  cases e2;refine⟨D2,_,rfl,aO.of V3,?_⟩
  rw[KJ];exact q2 _ H3 g3 (.num _)
end
def FZ (f:Fn)(n:Nat)(u v:Vc):Vc:=λk=>sm n u (λa k=>sm n v (λb=>tk f n (a+b)) k) k
theorem Ng {f:Fn}{n:Nat}(hf:Top f n)(hn:1<=n)(u v:Vc):kT f n (cv (aq (lv n u)) (aq (lv n v))) (FZ f n u v):=by
 have hz:∀w:Vc,∀m,n<=m->aq (lv n w) m=0:=λw m hm=>by rw[oQ,W9 (by omega)]
 have h:=(vM hf hn (g:=aq (lv n v)) (L:=n) (hz v)).comb (p:=aq (lv n u)) (P:=n) (hz u);have e:(λc=>bw n λk=>aq (lv n u) k*rr f n (aq (lv n v)) n k c)=FZ f n u v:=by
  funext c
  unfold FZ rr;rw[dh];refine aD λa ha=>?_
  rw[dh,oQ,Ja ha];congr 1
  exact aD λb hb=>by rw[oQ,Ja hb,Nat.add_comm]
 rw[e] at h;exact h
inductive KN (K:bM)(vs:List V)(H:Hp)(Q:VK)(xF:XK):Prop where
 | mk (a:o?) (fl:List Int) (n:Nat) (x y:V) (u v:Vc) (m:Int) (u9:vs=[.ref a,x,y,.int m]) (u_:aO K H a (fl.map V.int)) (vc:fl.length=n+1) (ve:1<=n) (vf:n<=20) (vg:L2.dM fl) (xG:fY 5000 fl) (zx:Rep H Any x (rE n u)) (A6:Rep H Any y (rE n v)) (Eb:(∀j,j<n->Bd 2000 (u j))) (vh:(∀j,j<n->Bd 2000 (v j))) (B_:m≠0) (KG:Bd 8000 m) (Qu:∀r H',aF H H'->Rep H' (dG H) r (rE n λj=>(FZ (aq fl) n u v j).fdiv m)->Q r H')
section
theorem KO {n m:Nat}{u:Vc}(h:∀j,j<n->Bd m (u j)):fY m (lv n u):=λx hx=>by
 unfold lv at hx;obtain⟨j,hj,rfl⟩:=List.mem_map.mp hx;exact h j (List.mem_range.mp hj)
theorem yD (B:iw mg)(cV:b9 P w K mg base 1 "without_noughts_behind" ["numbers"] (qz K))(mJ:b9 P w K mg base 1 "multiplied" m9 (KA K))(oY:b9 P w K mg base 2 "divided" m9 (KC K))(kI:b9 P w K mg base 1 "coefficient" DZ (D_ K))(F:Src K mg "product_by" jv Ko):b9 P w K mg base 3 "product_by" Ko (KN K):=by
 refine F.ok kH (λvs H Q E h=>?_) (λf cdv A outer s H vs Q E hr h=>?_)
 ·obtain⟨a,fl,n,x,y,u,v,m,rfl,_⟩:=h;rfl
 obtain⟨a,fl,n,x,y,u,v,m,rfl,ha,lf,hn1,hn,mf,bf,rx,ry,bu,bv,m0,bm,q⟩:=h;obtain⟨lx,rfl,hlx,_⟩:=cS rx;obtain⟨ly,rfl,ZH,_⟩:=cS ry;have hf:=xH lf mf;refine⟨_,ai (aC (i:=4) kH.nd rfl (z? rfl) (aH mJ hr (af (aH cV hr (af (pv 1) ah)) (af (aH cV hr (af (pv 2) ah)) ah))))
  (ai (aC (i:=5) kH.nd rfl (Or.inr rfl) (bI (rz (K:=K) rfl) (aH oY hr (af (pv 4) (af (pv 0) ah))) ak (λ_ _=>rfl)))
  (av (aM (bY (aG (N:=["place","rest","power"]) (sl:=[q?,j? 5,j? 3]) (ao jv) ["f","one","other","power","product","rest"] rfl rfl (by decide +kernel)) rfl (bC rfl B.range (af (aJ (aN (K:=K) rfl) rfl B.len bN (af (pv 1) ah)) ah)) (λ_ _ _ _ _=>(aA (i:=0) (Yk_ ["place","rest","power"]) rfl (z? rfl))) (λ_ _ _ _ _=>aR) (λ_ _ _ _ _=>(au bL (aH kI hr (af (pv 1) (af (pv 0) ah))) (pv 2))))))),?_⟩
 walk_at "rd"
 refine⟨lx,lv n u,rfl,aO.of hlx,by rw[aQ];omega,λp1 H1 g1 n1 e1=>?_⟩
 walk_at "rd"
 refine⟨ly,lv n v,rfl,aO.of (g1 _ _ ZH),by rw[aQ];omega,λp2 H2 g2 n2 e2=>?_⟩
 have b1:fY 2000 (trim (lv n u)):=(KO bu).trim;have b2:fY 2000 (trim (lv n v)):=(KO bv).trim;have l1:(trim (lv n u)).length<=n:=by unfold trim;rw[Yt,aQ];omega
 have l2:(trim (lv n v)).length<=n:=by unfold trim;rw[Yt,aQ];omega
 refine⟨p1,p2,_,_,rfl,aO.of (g2 _ _ e1),aO.of e2,by omega,by omega,b1.mono (by decide),b2.mono (by decide),λp3 H3 g3 n3 e3=>?_⟩
 walk_at "rd"
 have Om:=(g1.trans g2).trans g3;have lp:(eO (trim (lv n u)) (trim (lv n v))).length<=40:=by
  unfold eO;split
  ·simp
  ·rw[Ya,Yg];omega
 refine⟨p3,a,_,fl,4100,5000,rfl,aO.of e3,Om.seq ha,by omega,by omega,mf,((b1.eO b2).mono (by omega)),bf,by omega,λq0 r0 hd0 _ _ t0 qa ra H4 g4 n4 n5 hne et eq er=>?_⟩
 refine⟨t0,_,_,_,rfl,rfl,j5.of et,rfl,?_⟩
 have V4:=Om.trans g4;have e0:aq r0=FZ (aq fl) n u v:=by
  have h1:=wC.VT lf hd0;rw[Po,show aq (trim (lv n u))=aq (lv n u) from funext λi=>eo _ i,show aq (trim (lv n v))=aq (lv n v) from funext λi=>eo _ i] at h1
  exact kT.uniq hf h1 (Ng hf hn1 u v)
 walk_at "rd"
 refine⟨lx,_,rfl,.inl (aO.of (V4 _ _ hlx)),?_⟩
 rw[Ya,aQ];refine⟨_,rfl,by omega,by omega,λD hD=>?_⟩
 rw[Yf];refine yt (λj=>.num ((FZ (aq fl) n u v j).fdiv m)) hD (by omega) (λi H5 Q2 hi g5 q2=>?_) λH5 g5 rr=>q _ H5 (V4.trans g5) (rr.older V4)
 rw[Zn];refine⟨_,rfl,_,rfl,ra,r0,i,rfl,aO.of (g5 _ _ er),_,rfl,_,_,rfl,rfl,bm.dv m0,?_⟩
 show Q2 (V.int ((aq r0 i).fdiv m)) H5
 rw[e0];exact q2 _ H5 (aF.refl _) (.num _)
inductive F0 (K:bM)(vs:List V)(H:Hp)(Q:VK)(xF:XK):Prop where
 | mk (a:o?) (fl:List Int) (n:Nat) (x:V) (T:Nat->Vc) (c:Nat->Nat->Vc) (m:Int) (u9:vs=[.ref a,x,.int m]) (u_:aO K H a (fl.map V.int)) (vc:fl.length=n+1) (ve:1<=n) (vf:n<=20) (vg:L2.dM fl) (xG:fY 5000 fl) (zx:Rep H Any x (mE n n T)) (A6:dB n T) (Eb:(∀i j,i<n->j<n->Bd 2000 (T i j))) (vh:m≠0) (B_:Bd 8000 m) (KG:(∀i j,i<n->j<n->∀k,k<n->FZ (aq fl) n (T i) (T j) k=m*sm n (c i j) T k)) (Qu:(∀i j k,i<n->j<n->k<n->Bd 100000 (c i j k))) (S5:∀r H',aF H H'->Rep H' (dG H) r (tE n n n c)->Q r H')
theorem Cd (B:iw mg)(AH:b9 P w K mg base 3 "product_by" Ko (KN K))(kJ:b9 P w K mg base 1 "coordinates" G6 (xK K))(F:Src K mg "table_of" iG DX):b9 P w K mg base 4 "table_of" DX (F0 K):=by
 refine F.ok B6 (λvs H Q E h=>?_) (λf cdv A outer s H vs Q E hr h=>?_)
 ·obtain⟨a,fl,n,x,T,c,m,rfl,_⟩:=h;rfl
 obtain⟨a,fl,n,x,T,c,m,rfl,ha,lf,hn1,hn,mf,bf,rx,hT,bT,m0,bm,hc,bc,q⟩:=h;obtain⟨lT,us,rfl,UC,_,C⟩:=id rx.cf;refine⟨_,av (aM (rY (f9 (N:=Ql) (sl:=[q?,j? 1,j? 0,j? 2]) "one" (ao iG) DX rfl rfl (by decide +kernel)) rfl (bE (K:=K) rfl (pv 1)) (λ_ _ _ _ _=>(aA (i:=0) (Yk_ Ql) rfl (Or.inr rfl))) (λ_ _ _ _ _=>aR) (λ_ _ _ _ _=>(bY (aG (N:=["other","lattice","f","one","power"]) (sl:=[q?,j? 1,j? 2,j? 0,j? 3]) (nF (z8 ((cA iG).getD 0 (.Pass ⟨0,0,0,0⟩))) (ao iG)) Ql rfl rfl (by decide +kernel)) rfl (bE (K:=K) rfl (pv 1)) (λ_ _ _ _ _=>(aA (i:=0) (Yk_ ["other","lattice","f","one","power"]) rfl (z? rfl))) (λ_ _ _ _ _=>aR) (λ_ _ _ _ _=>(aH kJ hr (af (pv 1) (af (aH AH hr (af (pv 2) (af (pv 3) (af (pv 0) (af (pv 4) ah))))) ah)))))))),?_⟩
 walk_at "rd"
 refine⟨⟨_,aO.of UC⟩,λD hD=>?_⟩
 refine nL (λi=>mE n n (c i)) (n:=n) C.len UC hD (by omega) (λi vx H2 Q2 hi g2 ig q2=>?_) λH2 g2 rr=>q _ H2 g2 rr
 obtain⟨_,ri⟩:=C.get ig;refine⟨_,rfl,lT,rfl,⟨_,aO.of (g2 _ _ UC)⟩,λD2 yx=>?_⟩
 refine nL (λj=>rE n (c i j)) (n:=n) C.len (g2 _ _ UC) yx (by omega) (λj vy H3 Q3 hj g3 AB q3=>?_) λH3 g3 rr=>q2 _ H3 g3 rr
 obtain⟨_,rj⟩:=C.get AB;have Qy:=g2.trans g3;refine⟨_,rfl,_,rfl,_,rfl,_,rfl,_,rfl,a,fl,n,vx,vy,T i,T j,m,rfl,Qy.seq ha,lf,hn1,hn,mf,bf,ri.same Qy,rj.same Qy,λk hk=>bT i k hi hk,λk hk=>bT j k hj hk,m0,bm,λr4 H4 g4 Qz=>?_⟩
 refine⟨n,_,_,T,_,c i j,rfl,rx.same (Qy.trans g4),Qz.any,by omega,hT,λk hk=>?_,λk hk=>bc i j k hi hj hk,λk l hk hl=>(bT k l hk hl).mono (by decide),λr5 H5 g5 QA=>q3 _ H5 (g4.trans g5) (QA.older g4)⟩
 rw[hc i j hi hj k hk,Int.mul_fdiv_cancel_left _ m0]
def LU (n:Nat)(c:Nat->Nat->Vc)(p:Int)(x y:Vc):Vc:=λk=>sm n x (λi k=>sm n y (c i) k) k % p
def Nh (n:Nat)(c:Nat->Nat->Vc)(p:Int)(x:Vc):Nat->Vc
 | 0=>x
 | m+1=>LU n c p (Nh n c p x m) x
def Hg (n:Nat)(c:Nat->Nat->Vc)(p:Nat):Nat->Nat->Vc
 | 0,i=>un i
 | k+1,i=>Nh n c (p:Int) (Hg n c p k i) (p-1)
theorem xN {n k:Nat}{a b:Nat}{x:Vc}{A:Nat->Vc}{j:Nat}(hn:n<2 ^ k)(hx:∀i,i<n->Bd a (x i))(hA:∀i,i<n->Bd b (A i j)):Bd (a+b+k) (sm n x A j):=by
 have key:∀m,m<=n->(sm m x A j).natAbs<=m*2 ^ (a+b):=by
  intro m;induction m with
  | zero=>intro _;show Zo 0<=_;simp
  | succ m ih=>
   intro hm;have h1:=ih (by omega)
   have h2:Bd (a+b) (x m*A m j):=(hx m (by omega)).mul (hA m (by omega))
   have h3:(sm m x A j+x m*A m j).natAbs<=(sm m x A j).natAbs+(x m*A m j).natAbs:=Int.natAbs_add_le _ _;have h2':(x m*A m j).natAbs<2 ^ (a+b):=h2;show(sm m x A j+x m*A m j).natAbs<=(m+1)*2 ^ (a+b)
   rw[Wg,W2];omega
 have h:=key n (Yd n);refine Z8 h ?_
 rw[Zw 2 (a+b) k,Wf (2 ^ (a+b))];exact Nat.mul_lt_mul_of_pos_right hn (Zu (by decide))
inductive Ce (K:bM)(vs:List V)(H:Hp)(Q:VK)(xF:XK):Prop where
 | mk (n p:Nat) (t x y:V) (c:Nat->Nat->Vc) (u v:Vc) (u9:vs=[t,x,y,.int (p:Int)]) (u_:Rep H Any t (tE n n n c)) (vc:Rep H Any x (rE n u)) (ve:Rep H Any y (rE n v)) (vf:1<=n) (vg:n<=20) (xG:2<=p) (zx:p<=50) (A6:(∀i j k,i<n->j<n->k<n->Bd 90000 (c i j k))) (Eb:(∀i,i<n->Bd 64 (u i))) (vh:(∀i,i<n->Bd 64 (v i))) (B_:∀r H',aF H H'->Rep H' (dG H) r (rE n (LU n c (p:Int) u v))->Q r H')
theorem Ci (B:iw mg)(lG:b9 P w K mg base 1 "summed" Au (sQ K))(F:Src K mg "times_by" jR Kq):b9 P w K mg base 2 "times_by" Kq (Ce K):=by
 refine F.ok uU (λvs H Q E h=>?_) (λf cdv A outer s H vs Q E hr h=>?_)
 ·obtain⟨n,p,t,x,y,c,u,v,rfl,_⟩:=h;rfl
 obtain⟨n,p,t,x,y,c,u,v,rfl,rt,rx,ry,hn1,hn,hp,hp2,bc,bu,bv,q⟩:=h;obtain⟨lt,us,rfl,hlt,_,C⟩:=id rt.cf;obtain⟨lx,rfl,hlx,_⟩:=cS rx;obtain⟨ly,rfl,ZH,_⟩:=cS ry;refine⟨_,ai (aC (i:=4) uU.nd rfl (z? rfl) (aH lG hr (af (pv 1) (af (bY (aG (N:=["line","other"]) (sl:=[q?,j? 2]) (ao jR) Qk rfl rfl (by decide +kernel)) rfl (bE (K:=K) rfl (pv 0)) (λ_ _ _ _ _=>(aA (i:=0) (Yk_ ["line","other"]) rfl (z? rfl))) (λ_ _ _ _ _=>aR) (λ_ _ _ _ _=>(aH lG hr (af (pv 1) (af (pv 0) ah))))) ah))))
  (av (aM (bY (aG (N:=G7) (sl:=[q?,j? 3]) (ao jR) Qk rfl rfl (by decide +kernel)) rfl (bE (K:=K) rfl (pv 4)) (λ_ _ _ _ _=>(aA (i:=0) (Yk_ G7) rfl (z? rfl))) (λ_ _ _ _ _=>aR) (λ_ _ _ _ _=>(au bD (pv 0) (pv 1)))))),?_⟩
 walk_at "rd"
 refine⟨⟨_,aO.of hlt⟩,λD hD=>?_⟩
 refine nL (λi=>rE n λk=>sm n v (c i) k) (n:=n) C.len hlt hD (by omega) (λi vx H2 Q2 hi g2 ig q2=>?_) λH2 g2 rr=>?_
 ·obtain⟨_,ri⟩:=C.get ig
  exact⟨_,rfl,_,rfl,n,n,_,vx,v,c i,rfl,ry.same g2,ri.same g2,hn1,by omega,by omega,λj hj=>(bv j hj).mono (by decide),λj k hj hk=>(bc i j k hi hj hk).mono (by decide),λr H3 g3 rr=>q2 _ H3 g3 rr⟩
 refine⟨n,n,_,_,u,λi k=>sm n v (c i) k,rfl,rx.same g2,rr.any,hn1,by omega,by omega,λj hj=>(bu j hj).mono (by decide),λi k hi hk=>(xN (k:=5) (by omega) bv λj hj=>bc i j k hi hj hk).mono (by decide),λr3 H3 g3 LV=>?_⟩
 obtain⟨l3,rfl,hl3,_⟩:=cS LV;refine⟨_,rfl,l3,rfl,⟨_,aO.of hl3⟩,λD4 V5=>?_⟩
 refine nL (λk=>.num (LU n c (p:Int) u v k)) (n:=n) (by rw[Ya,aQ]) hl3 V5 (by omega) (λk vx H5 Q5 hk g5 ig q5=>?_) λH5 g5 QA=>q _ H5 ((g2.trans g3).trans g5) (QA.older (g2.trans g3))
 obtain⟨y1,hy1,rfl⟩:=aS ig;rw[cE hk] at hy1;cases hy1;refine⟨_,rfl,_,rfl,_,_,rfl,rfl,(show(p:Int)≠0 by omega),?_⟩
 have e:(sm n u (λi k=>sm n v (c i) k) k).fmod (p:Int)=LU n c (p:Int) u v k:=Y8 _ (by omega)
 show Q5 (V.int ((sm n u (λi k=>sm n v (c i) k) k).fmod (p:Int))) H5
 rw[e];exact q5 _ H5 (aF.refl _) (.num _)
theorem Ni {n p:Nat}(hp:2<=p){c:Nat->Nat->Vc}{x y:Vc}(k:Nat):0<=LU n c (p:Int) x y k/\LU n c (p:Int) x y k<(p:Int):=⟨Zj _ (by omega),Zf _ (by omega)⟩
theorem F1 {n p:Nat}(hp:2<=p){c:Nat->Nat->Vc}{x:Vc}{k:Nat}(hx:0<=x k/\x k<(p:Int)):∀m,0<=Nh n c (p:Int) x m k/\Nh n c (p:Int) x m k<(p:Int)
 | 0=>hx
 | m+1=>Ni hp k
theorem vO {n p:Nat}(hp:2<=p){c:Nat->Nat->Vc}{i j:Nat}:∀k,0<=Hg n c p k i j/\Hg n c p k i j<(p:Int)
 | 0=>by
  show 0<=(if j=i then (1:Int) else 0)/\(if j=i then (1:Int) else 0)<_
  by_cases e:j=i
  ·rw[Ja e];omega
  ·rw[W9 e];omega
 | k+1=>F1 hp (vO hp k) _
inductive KP (K:bM)(vs:List V)(H:Hp)(Q:VK)(xF:XK):Prop where
 | mk (n p:Nat) (t x:V) (c:Nat->Nat->Vc) (u:Vc) (u9:vs=[t,x,.int (p:Int),.int (p:Int)]) (u_:Rep H Any t (tE n n n c)) (vc:Rep H Any x (rE n u)) (ve:1<=n) (vf:n<=20) (vg:2<=p) (xG:p<=50) (zx:(∀i j k,i<n->j<n->k<n->Bd 90000 (c i j k))) (A6:(∀i,i<n->0<=u i/\u i<(p:Int))) (Eb:∀r H',aF H H'->Rep H' (dG H) r (rE n (Nh n c (p:Int) u (p-1)))->Q r H')
theorem Cj (B:iw mg)(Ei:b9 P w K mg base 2 "times_by" Kq (Ce K))(F:Src K mg "power_by" qv Ks):b9 P w K mg base 3 "power_by" Ks (KP K):=by
 refine F.ok kh (λvs H Q E h=>?_) (λf cdv A outer s H vs Q E hr h=>?_)
 ·obtain⟨n,p,t,x,c,u,rfl,_⟩:=h;rfl
 obtain⟨n,p,t,x,c,u,rfl,rt,rx,hn1,hn,hp,hp2,bc,hu,q⟩:=h;refine⟨_,ai (aC (i:=4) kh.nd rfl (z? rfl) (pv 1))
  (ai (bZ D? rfl (bC rfl B.range (af (au bO (pv 2) ak) ah)) (aA (i:=5) kh.nd rfl (z? rfl))
   (av (aC (i:=4) kh.nd rfl (z? rfl) (aH Ei hr (af (pv 0) (af (pv 4) (af (pv 1) (af (pv 3) ah))))))))
  (av (aM (pv 4)))),?_⟩
 walk_at "rd"
 refine⟨by omega,by omega,?_⟩
 rw[show((p:Int)-1).toNat=p-1 by omega]
 have bu:∀m,∀i,i<n->Bd 64 (Nh n c (p:Int) u m i):=λm i hi=>by
  have:=F1 (n:=n) (c:=c) hp (hu i hi) m
  exact Bd.small (by omega) (by omega)
 refine cI (λi σ H2=>aF H H2/\∃(v:V) (o:Option V),σ=[j? t,j? x,Iq (p),Iq (p),j? v,o]/\Rep H2 Any v (rE n (Nh n c (p:Int) u i))/\(1<=i->Rep H2 (dG H) v (rE n (Nh n c (p:Int) u i)))) ⟨aF.refl H,x,_,rfl,rx,λh=>Jg h (by decide)⟩ ?_ ?_
 ·rintro i σ H2 hi ⟨g2,v,o,rfl,rv,_⟩
  refine⟨_,rfl,_,rfl,_,rfl,_,rfl,n,p,t,v,x,c,_,u,rfl,rt.same g2,rv,rx.same g2,hn1,hn,hp,hp2,bc,bu i,λj hj=>bu 0 j hj,λr H3 g3 rr=>?_⟩
  exact⟨g2.trans g3,_,_,rfl,rr.any,λ_=>rr.older g2⟩
 ·rintro σ H2 ⟨g2,v,o,rfl,rv,rn⟩
  exact⟨_,rfl,q _ H2 g2 (rn (by omega))⟩
inductive Ck (K:bM)(vs:List V)(H:Hp)(Q:VK)(xF:XK):Prop where
 | mk (n p:Nat) (t:V) (c:Nat->Nat->Vc) (u9:vs=[t,.int (p:Int)]) (u_:Rep H Any t (tE n n n c)) (vc:1<=n) (ve:n<=20) (vf:2<=p) (vg:p<=50) (xG:(∀i j k,i<n->j<n->k<n->Bd 90000 (c i j k))) (zx:∀k r H',n<=p ^ k->aF H H'->Rep H' (dG H) r (mE n n (Hg n c p k))->Q r H')
theorem Hh (B:iw mg)(jU:b9 P w K mg base 1 "unit_row" As AF)(Ej:b9 P w K mg base 3 "power_by" Ks (KP K))(F:Src K mg "raised" nT yw):b9 P w K mg base 4 "raised" yw (Ck K):=by
 refine F.ok jC (λvs H Q E h=>?_) (λf cdv A outer s H vs Q E hr h=>?_)
 ·obtain⟨n,p,t,c,rfl,_⟩:=h;rfl
 obtain⟨n,p,t,c,rfl,rt,hn1,hn,hp,hp2,bc,q⟩:=h;obtain⟨lt,us,rfl,hlt,_,C⟩:=id rt.cf;refine⟨_,ai (aC (i:=2) jC.nd rfl (Or.inr rfl) (aJ (aN (K:=K) rfl) rfl B.len bN (af (pv 0) ah)))
  (ai (gh (i:=3) jC.nd rfl (z? rfl) (aG (N:=["place","many"]) (sl:=[q?,j? 2]) (ao nT) Qi rfl rfl (by decide +kernel)) rfl (bC rfl B.range (af (pv 2) ah)) (λ_ _ _ _ _=>(aA (i:=0) (Yk_ ["place","many"]) rfl (z? rfl))) (λ_ _ _ _ _=>aR) (λ_ _ _ _ _=>(aH jU hr (af (pv 1) (af (pv 0) (af ak ah))))))
  (ai (aC (i:=4) jC.nd rfl (z? rfl) ak)
  (ai (eW D? (a_ Ie (pv 4) (pv 2) (bG _))
   (ai (gh (i:=3) jC.nd rfl (z? rfl) (aG (N:=["row","table","p"]) (sl:=[q?,j? 0,j? 1]) (ao nT) Qi rfl rfl (by decide +kernel)) rfl (bE (K:=K) rfl (pv 3)) (λ_ _ _ _ _=>(aA (i:=0) (Yk_ ["row","table","p"]) rfl (z? rfl))) (λ_ _ _ _ _=>aR) (λ_ _ _ _ _=>(aH Ej hr (af (pv 1) (af (pv 0) (af (pv 2) (af (pv 2) ah)))))))
   (av (aC (i:=4) jC.nd rfl (z? rfl) (au aW (pv 4) (pv 1))))))
  (av (aM (pv 3)))))),?_⟩
 walk_at "rd"
 refine⟨lt,_,rfl,.inl (aO.of hlt),?_⟩
 rw[C.len];refine⟨_,rfl,_,rfl,by omega,by omega,λD hD=>?_⟩
 rw[Yf];refine yt (λi=>rE n (un i)) hD (by omega) (λi H2 Q2 hi g2 q2=>?_) λH2 g2 rr=>?_
 ·rw[Zn]
  exact⟨_,rfl,_,rfl,n,i,1,rfl,by omega,λr H3 g3 rr=>q2 _ H3 g3 rr⟩
 refine jI (λσ H2=>aF H H2/\∃(k:Nat) (v:V),σ=[Rq lt,Iq (p),Iq (n),j? v,Iq ((p ^ k:Nat))]/\p ^ k<=1000/\Rep H2 (dG H) v (mE n n (Hg n c p k))) (λσ _=>match σ with | [_,_,_,_,j? (.int r)]=>n-r.toNat|_=>0)
  ⟨g2,0,_,rfl,by rw[Nat.pow_zero];decide,rr⟩ ?_
 rintro σ H3 ⟨g3,k,v,rfl,hk,rv⟩;refine⟨_,rfl,_,rfl,_,_,rfl,rfl,_,rfl,fV (λc1=>?_) (λc1=>?_)⟩
 ·have hlt':p ^ k<n:=by have:=Jc c1;omega
  obtain⟨lv',vs,rfl,ZI,_,Cv⟩:=id rv.cf;refine win ⟨_,rfl,lv',rfl,⟨_,aO.of ZI⟩,λD2 yx=>?_⟩
  refine nL (λi=>rE n (Hg n c p (k+1) i)) (n:=n) Cv.len ZI yx (by omega) (λi vx H4 Q4 hi g4 ig q4=>?_) λH4 g4 Qz=>?_
  ·obtain⟨_,ri⟩:=Cv.get ig
   exact⟨_,rfl,_,rfl,_,rfl,_,rfl,n,p,_,vx,c,Hg n c p k i,rfl,rt.same (g3.trans g4),(ri.same g4).any,hn1,hn,hp,hp2,bc,λj _=>vO hp k,λr H5 g5 QA=>q4 _ H5 g5 QA⟩
  ·have h1:p ^ k*p<=19*50:=Zi (by omega) hp2
   have e1:((p ^ k:Nat):Int)*(p:Int)=((p ^ (k+1):Nat):Int):=by rw[Z2,Zs]
   refine⟨_,rfl,_,rfl,_,_,rfl,rfl,gO (by omega) (by omega),?_⟩
   show(aF H H4/\_)/\_
   refine⟨⟨g3.trans g4,k+1,_,by show _=[_,_,_,_,j? (V.int ((p ^ (k+1):Nat):Int))];rw[<- e1];rfl,by rw[Z2];omega,Qz.older g3⟩,?_⟩
   show n-(((p ^ k:Nat):Int)*(p:Int)).toNat<n-(((p ^ k:Nat):Int)).toNat
   rw[e1,Yf,Yf,Z2];have h2:1<=p ^ k:=Zu (by omega)
   have h3:p ^ k*2<=p ^ k*p:=Zg _ hp;omega
 ·have hge:n<=p ^ k:=by
   have:¬ ((p ^ k:Nat):Int)<(n:Int):=λz=>c1 (Jb z)
   omega
  exact⟨_,rfl,q k _ H3 hge g3 rv⟩
end
def C8 (k:Nat)(A:Nat->Vc)(lead:Vc)(q:Nat)(m:Int):Nat->Vc:=λi j=>if i<k then (A i j-(A i q / lead q)*lead j) % m else ((m / lead q)*lead j) % m
inductive Oo (K:bM)(vs:List V)(H:Hp)(Q:VK)(xF:XK):Prop where
 | mk (k n q:Nat) (u v:V) (A:Nat->Vc) (lead:Vc) (m:Int) (u9:vs=[u,v,.int (q:Int),.int m]) (u_:Rep H Any u (mE k n A)) (vc:Rep H Any v (rE n lead)) (ve:q<n) (vf:n<=100) (vg:k<=100) (xG:0<m) (zx:0<lead q) (A6:Bd 8000 m) (Eb:(∀i j,i<k->j<n->Bd 8000 (A i j))) (vh:(∀j,j<n->Bd 8000 (lead j))) (B_:∀r H',aF H H'->Rep H' (dG H) r (mE (k+1) n (C8 k A lead q m))->Q r H')
section
theorem Ek (B:iw mg)(F:Src K mg "without" lC Kl):b9 P w K mg base 1 "without" Kl (Oo K):=by
 refine F.ok jQ (λvs H Q E h=>?_) (λf cdv A outer s H vs Q E hr h=>?_)
 ·obtain⟨k,n,q,u,v,A,lead,m,rfl,_⟩:=h;rfl
 obtain⟨k,n,q,u,v,A,lead,m,rfl,ru,rv,hq,hn,hk,m0,l0,bm,bA,bl,qq⟩:=h;obtain⟨lA,us,rfl,Eh,_,C⟩:=ru.cf;obtain⟨ll,rfl,BO,_⟩:=cS rv;refine⟨_,ai (aC (i:=4) jQ.nd rfl (z? rfl) (aZ ah))
  (ai (bZ D? rfl (bE (K:=K) rfl (pv 0)) (aA (i:=5) jQ.nd rfl (z? rfl))
   (ai (aC (i:=6) jQ.nd rfl (Or.inr rfl) (au bL (bI (aI (K:=K) rfl) (pv 5) (pv 2) (λ_ _=>rfl)) (bI (aI (K:=K) rfl) (pv 1) (pv 2) (λ_ _=>rfl))))
   (av (d9 (mW R? F! G! c8 (pv 4) (af (bY (aG (N:=Qj) (sl:=[q?,q?,j? 6,j? 3]) (ao lC) Qc rfl rfl (by decide +kernel)) rfl (kc (K:=K) rfl rfl B.zip (af (pv 5) (af (pv 1) ah))) (λ_ _ _ _ _=>(cG (n:=2) (K:=K) rfl rfl (aP (aA (i:=0) (Yk_ Qj) rfl (z? rfl)) (aP (aA (i:=1) (Yk_ Qj) rfl (z? rfl)) cF)))) (λ_ _ _ _ _=>aR) (λ_ _ _ _ _=>(au bD (au bO (pv 0) (au aW (pv 2) (pv 1))) (pv 3)))) ah))))))
  (ai (aC (i:=6) jQ.nd rfl (Or.inr rfl) (au bL (pv 3) (bI (aI (K:=K) rfl) (pv 1) (pv 2) (λ_ _=>rfl))))
  (av (aM (au eL (pv 4) (aZ (af (bY (aG (N:=["number","often","power"]) (sl:=[q?,j? 6,j? 3]) (ao lC) Qc rfl rfl (by decide +kernel)) rfl (bE (K:=K) rfl (pv 1)) (λ_ _ _ _ _=>(aA (i:=0) (Yk_ ["number","often","power"]) rfl (z? rfl))) (λ_ _ _ _ _=>aR) (λ_ _ _ _ _=>(au bD (au aW (pv 1) (pv 0)) (pv 2)))) ah))))))),?_⟩
 walk_at "rd"
 intro p hp;have g0:=aB hp (.lst []);refine⟨_,rfl,lA,rfl,⟨_,aO.of (g0 _ _ Eh)⟩,fZ (xs:=us) (λi σ H2=>aF H H2/\∃(ys:List V) (o1 o2:Option V),σ=[Rq lA,Rq ll,Iq (q),j? (.int m),Rq p,o1,o2]/\H2 p=j? (.lst ys)/\Cf H2 (Off H p) ys i λi=>rE n (C8 k A lead q m i))
  ⟨g0,[],_,_,rfl,ay,.nil⟩ (λi σ H2 _ h=>aO.of (h.1 _ _ Eh)) ?_ ?_⟩
 ·rintro i vx σ H2 ig ⟨g2,ys,o1,o2,rfl,ep,Cy⟩
  obtain⟨hi,ri⟩:=C.get ig;obtain⟨lr,rfl,hlr,_⟩:=cS ri;refine⟨_,rfl,_,rfl,lr,_,_,_,rfl,rfl,aO.of (g2 _ _ hlr),mZ hq,_,rfl,_,rfl,ll,_,_,_,rfl,rfl,aO.of (g2 _ _ BO),mZ hq,_,_,rfl,rfl,(bl q hq).dv (by omega),?_⟩
  show gE 6 (V.int ((A i q).fdiv (lead q))) _ _ _
  rw[Zr _ (show 0<=lead q by omega)]
  refine⟨_,rfl,.inl ⟨rfl,_,aO.of ep⟩,_,rfl,_,rfl,lr,ll,rfl,⟨_,aO.of (g2 _ _ hlr)⟩,⟨_,aO.of (g2 _ _ BO)⟩,λD hD=>?_⟩
  have bo:Bd 8000 (A i q / lead q):=by
   rw[<- Zr _ (show 0<=lead q by omega)];exact(bA i q hi hq).fdiv
  refine JI (λj=>.num (C8 k A lead q m i j)) (n:=n) (by rw[Ya,aQ]) (by rw[Ya,aQ]) (g2 _ _ hlr) (g2 _ _ BO) hD (by omega) (λj vx vy t H3 Q2 hj g3 ig AB ht q2=>?_) λH3 g3 rr=>?_
  ·obtain⟨y1,hy1,rfl⟩:=aS ig
   obtain⟨y2,D8,rfl⟩:=aS AB;rw[cE hj] at hy1 D8;cases hy1;cases D8;refine⟨t,_,rfl,j5.of ht,rfl,_,_,rfl,_,_,rfl,rfl,?_⟩
   refine⟨_,rfl,_,rfl,_,rfl,_,_,rfl,rfl,bo.ok (bl j hj),_,_,rfl,rfl,_,rfl,_,_,rfl,rfl,(show m≠0 by omega),?_⟩
   show Q2 (V.int ((A i j-A i q / lead q*lead j).fmod m)) H3
   have e:(A i j-A i q / lead q*lead j).fmod m=C8 k A lead q m i j:=by
    unfold C8;rw[Ja hi,Y8 _ (by omega)]
   rw[e];exact q2 _ H3 (aF.refl _) (.num _)
  ·refine⟨p,_,_,rfl,rfl,g3 _ _ ep,by rw[Cy.len,C?];omega,?_⟩
   exact⟨(g2.trans g3).aX hp _,_,_,_,rfl,ay,((Cy.same g3).push (rr.GR g2 ep)).upd⟩
 ·rintro σ H2 ⟨g2,ys,o1,o2,rfl,ep,Cy⟩
  rw[C.len] at Cy;refine⟨_,rfl,_,rfl,_,rfl,ll,_,_,_,rfl,rfl,aO.of (g2 _ _ BO),mZ hq,_,_,rfl,rfl,(bl q hq).dv (by omega),?_⟩
  show gE 6 (V.int (m.fdiv (lead q))) _ _ _
  rw[Zr _ (show 0<=lead q by omega)]
  have bo:Bd 8000 (m / lead q):=by
   rw[<- Zr _ (show 0<=lead q by omega)];exact bm.fdiv
  refine⟨_,rfl,_,rfl,ll,rfl,⟨_,aO.of (g2 _ _ BO)⟩,λD hD=>?_⟩
  refine nL (λj=>.num (C8 k A lead q m k j)) (n:=n) (by rw[Ya,aQ]) (g2 _ _ BO) hD (by omega) (λj vx H3 Q2 hj g3 ig q2=>?_) λH3 g3 rr=>?_
  ·obtain⟨y1,hy1,rfl⟩:=aS ig
   rw[cE hj] at hy1;cases hy1;refine⟨_,rfl,_,rfl,_,_,rfl,rfl,bo.ok (bl j hj),_,rfl,_,_,rfl,rfl,(show m≠0 by omega),?_⟩
   show Q2 (V.int ((m / lead q*lead j).fmod m)) H3
   have e:(m / lead q*lead j).fmod m=C8 k A lead q m k j:=by
    unfold C8;rw[W9 (by omega),Y8 _ (by omega)]
   rw[e];exact q2 _ H3 (aF.refl _) (.num _)
  ·refine⟨aT rfl,λp2 n2=>?_⟩
   have k2:=aB n2 (.lst [.ref D]);have g4:=(g2.trans g3).trans k2;refine⟨p,p2,_,_,rfl,rfl,k2 _ _ (g3 _ _ ep),ay,by rw[Cy.len,C?];show k+1<=_;omega,λp3 n3=>?_⟩
   have k3:=aB n3 (.lst (ys++[.ref D]));refine qq _ _ (g4.trans k3) ?_
   have c1:=((Cy.DI.same g3).push (rr.older g2)).same (k2.trans k3);exact c1.rep ay (g4.free n3)
end
def i8:Str:="lead_at.<locals>.<lambda>"
structure KQ (k n:Nat)(A:Nat->Vc)(q p d:Nat)(lead:Vc):Prop where
 pw:∃s,s<=d/\lead q=(p:Int) ^ s
 oZ:∀j,j<n->0<=lead j/\lead j<=(p:Int) ^ d
 dv:∀i,i<k->lead q ∣ A i q
 src:(∃i,i<k/\∃b:Int,∀j,j<n->lead j=(b*A i j) % (p:Int) ^ d)\/∀j,j<n->lead j=if j=q then (p:Int) ^ d else 0
inductive Cm (K:bM)(Pp:o?)(vs:List V)(H:Hp)(Q:VK)(xF:XK):Prop where
 | mk (k n q d p:Nat) (u:V) (A:Nat->Vc) (u9:vs=[u,.int (q:Int),.int (p:Int),.int ((p:Int) ^ d)]) (u_:p∈PR) (vc:Rep (del H Pp) Any u (mE k n A)) (ve:q<n) (vf:n<=20) (vg:1<=k) (xG:k<=90) (zx:1<=d) (A6:d<=30) (Eb:(∀i j,i<k->j<n->0<=A i j/\A i j<(p:Int) ^ d)) (vh:gK i8 Pp H) (B_:∀lead r H',cL H Pp H'->gK i8 Pp H'->KQ k n A q p d lead->Rep (del H' Pp) (dG H) r (rE n lead)->Q r H')
theorem Em {Pp:o?}{pos:Pos}{L:pC}{cl:List (Str×o?)}{σ:St}{H:Hp}{Q:VK}{ql:Str}(hq:L.qual=ql)(tq:gK ql Pp H)(q:∀f c H',cL H Pp H'->gK ql Pp H'->L.here cl f c H'->Q (.ref f) H'):zp Pp pos L cl σ H Q:=by subst hq;exact GW tq q
theorem KR {K:bM}{N:List Str}{Pp l:o?}{pos:Pos}{L:pC}{cl:List (Str×o?)}{σ:St}{H:Hp}{Q:VK}{ql:Str}{i:Nat}(hq:L.qual=ql)(hσ:σ[i]?=j? (j? (.ref l)))(tq:gK ql Pp H)(q:∀f c H',cL H Pp H'->gK ql Pp H'->L.here cl f c H'->BL K N L cl σ [.ref l] [.ref f] H' Q):
  JF (BL K N L cl) (Be (OO i) Ii) (Be (zp Pp pos L cl) Ii) σ H Q:=by
 refine⟨_,hσ,?_⟩
 show zp Pp pos L cl σ H λy H2=>BL K N L cl σ [.ref l] [y] H2 Q
 exact Em hq tq q
theorem AI {p:Nat}(hp:p∈PR){m:Int}(hm:¬ (p:Int) ∣ m):∀d:Nat,∃x y:Int,x*m+y*(p:Int) ^ d=1
 | 0=>⟨0,1,by rw[Y9];omega⟩
 | d+1=>by
  obtain⟨x,y,e⟩:=AI hp hm d;have pp:=cP hp;have h1:=Zj m (show(p:Int)≠0 by omega)
  have h2:=Zf m (show(0:Int)<p by omega)
  obtain⟨c,hc⟩:=Zq h1;have c0:c≠0:=λz=>hm (Int.dvd_of_emod_eq_zero (by rw[hc,z];rfl))
  obtain⟨b,hb,e1⟩:=Ab p hp c (by omega) (by omega)
  have p2:2<=p:=by
   have:∀q∈PR,2<=q:=by decide
   exact this p hp
  have e1:c*b % p=1:=by rw[e1];exact Z4 (by omega)
  have e2:(c:Int)*(b:Int)=1+(p:Int)*((c*b / p:Nat):Int):=by
   have:=Nat.div_add_mod (c*b) p
   rw[e1] at this;have h:((p*(c*b / p)+1:Nat):Int)=((c*b:Nat):Int):=by rw[this]
   rw[Int.natCast_add,Zs,Zs] at h;omega
  have e3:m=(c:Int)+(p:Int)*(m / p):=by
   have:=Z3 m (p:Int)
   rw[hc] at this;omega
  generalize m / (p:Int)=g at e3;generalize ((c*b / p:Nat):Int)=t at e2;refine⟨x*(b*m-(p:Int)*(g*b+t))+y*(p:Int) ^ d*b,-(y*(g*b+t)),?_⟩
  rw[Yy];generalize (p:Int) ^ d=W at e;have e4:(b:Int)*m-(p:Int)*(g*b+t)=1:=by rw[e3];grind
  rw[e4];grind
theorem F2 {H:Hp}{ok:o?->Prop}{n:Nat}:∀ {ys:List V},(∀y∈ys,∃e,Rep H ok y e/\GO n e)->∃es:List El,ys.length=es.length/\(∀(i:Nat) v e,ys[i]?=j? v->es[i]?=j? e->Rep H ok v e)/\∀e∈es,GO n e
 | [],_=>⟨[],rfl,λi v e h=>by simp at h,λe h=>by simp at h⟩
 | y::ys,h=>by
  obtain⟨e,r,f⟩:=h y Zc;obtain⟨es,h1,h2,h3⟩:=F2 (ys:=ys) λz hz=>h z (Y7 _ hz)
  refine⟨e::es,by simp[h1],λi v d a b=>?_,λd hd=>?_⟩
  ·cases i with
   | zero=>cases a;cases b;exact r
   | succ i=>exact h2 i v d a b
  ·rcases List.mem_cons.mp hd with rfl|hd
   ·exact f
   ·exact h3 d hd
theorem Oq {n:Nat}{v:Vc}(h:n<=100):GO 1 (rE n v):=.vec (by rw[Ya,Yg];exact h) λe he=>by
 obtain⟨i,_,rfl⟩:=List.mem_map.mp he;exact .num _
theorem Rep.AJ {H0 H1 H2:Hp}{Pp:o?}{o:HO}{v:V}{e:El}(r:Rep H2 (dG H1) v e)(hP:H1 Pp=j? o)(f:∀b,H1 b=q?->H0 b=q?):Rep (del H2 Pp) (dG H0) v e:=r.imp λb u h k=>⟨by
  rw[jL (λz=>by rw[z] at k;rw[show H1 Pp=q? from k] at hP;cases hP)];exact h,f b k⟩
theorem zB {p d:Nat}(hp:p∈PR)(hd:d<=30):Bd 200 ((p:Int) ^ d):=by
 have:∀q∈PR,q<=2 ^ 6:=by decide
 show((p:Int) ^ d).natAbs<2 ^ 200
 rw[<- Wi,Int.natAbs_natCast];refine Z8 (Z7 (this p hp) d) ?_
 rw[<- Wp];exact Wj (by decide) (by omega)
section
theorem En {iK aE:o?}(B:iw mg)(hbm:BMain mg base)(jV:PySem.W.codeHdIn K iK aE=true)(nY:b9 P w K mg base 1 "taken_out" sG Aw)(eH:b9 P w K mg base 2 "size_of_number" sG vL)(Hi:b9 P w K mg base 1 "back_by" ["k","power"] KI)(jU:b9 P w K mg base 1 "unit_row" As AF)(F:JB K mg "lead_at" fR Kn iK):b9 P w K mg base 7 "lead_at" Kn (Cm K aE):=by
 refine F.ok mC (λvs H Q E h=>?_) (λfa A outer s H vs Q E hr h=>?_)
 ·obtain⟨k,n,q,d,p,u,A,rfl,_⟩:=h;rfl
 obtain⟨k,n,q,d,p,u,A,rfl,hp,ru,hq,hn,hk1,hk,hd1,hd,hA,tq,qq⟩:=h;obtain⟨lA,us,rfl,Eh,_,C⟩:=id ru.cf;refine⟨_,ai (gh (i:=4) mC.nd rfl (z? rfl) (aG (N:=["row","place"]) (sl:=[q?,j? 1]) (ao fR) Qe rfl rfl (by decide +kernel)) rfl (bE (K:=K) rfl (pv 0)) (λ_ _ _ _ _=>(aA (i:=0) (Yk_ ["row","place"]) rfl (z? rfl))) (λ_ _ _ _ _=>(E7 (a_ qZ (bI (aI (K:=K) rfl) (pv 0) (pv 1) (λ_ _=>rfl)) ak (bG _)))) (λ_ _ _ _ _=>(pv 0)))
  (ai (dQ (a_ (rB (K:=K) rfl hr.units) (pv 4) (aZ ah) (bG _))
   (av (aM (aH jU hr (af (aJ (aN (K:=K) rfl) rfl B.len bN (af (bI (aI (K:=K) rfl) (pv 0) ak (λ_ _=>rfl)) ah)) (af (pv 1) (af (pv 3) ah))))))
   (b8))
  (ai (aC (i:=5) mC.nd rfl (z? rfl) (MO (c:=iK) (P:=aE) (x:="one") (N:=["place","p"]) (k:=2) (K:=K) rfl (λ_ _ _ _ _ _ _ hr=>(aH eH hr (af (bI (aI (K:=K) rfl) (pv 0) (pv 1) (λ_ _=>rfl)) (af (pv 2) ah)))) (hr.mono (by first|decide|omega)) rfl ⟨rfl,rfl⟩ (λ_=>rfl) hbm rfl jV rfl B.«min» (af (pv 4) ah) (λ_ _ _ _ _=>rfl) (GU (by decide +kernel)) (MM (sc:=ao fR) (by decide +kernel)) (by decide +kernel) rfl (by decide +kernel)))
  (ai (aC (i:=6) mC.nd rfl (Or.inr rfl) (aH Hi hr (af (bI (rz (K:=K) rfl) (aH nY hr (af (bI (aI (K:=K) rfl) (pv 5) (pv 1) (λ_ _=>rfl)) (af (pv 2) ah))) ak (λ_ _=>rfl)) (af (pv 3) ah))))
  (av (aM (bY (aG (N:=["number","back","power"]) (sl:=[q?,j? 6,j? 3]) (ao fR) Qe rfl rfl (by decide +kernel)) rfl (bE (K:=K) rfl (pv 5)) (λ_ _ _ _ _=>(aA (i:=0) (Yk_ ["number","back","power"]) rfl (z? rfl))) (λ_ _ _ _ _=>aR) (λ_ _ _ _ _=>(au bD (au aW (pv 1) (pv 0)) (pv 2))))))))),?_⟩
 have Eo:=(cD Eh).2;have p2:2<=p/\p<50:=by
  have:∀q∈PR,2<=q/\q<50:=by decide
  exact this p hp
 have Ot:=zB hp hd;have hm0:(0:Int)<(p:Int) ^ d:=Wc (by omega)
 walk_at "rd"
 refine⟨⟨_,aO.of Eo⟩,λD hD=>?_⟩
 refine gG (xs:=us) (λi ys H2=>aF H H2/\ys.length<=i/\(∀y∈ys,∃j,us[j]?=j? y/\A j q≠0)/\∀j y,j<i->us[j]?=j? y->A j q≠0->y∈ys) ⟨aB hD _,Yd 0,λy hy=>by simp at hy,λj y hj=>Jg hj (Zb _)⟩ (λi ys H2 _ h=>aO.of (h.1 _ _ Eo)) ?_ ?_
 ·rintro i m x ys H2 hm hi hx hy hlen ⟨g2,hle,h1,h2⟩
  obtain⟨hik,ri⟩:=C.get hx;obtain⟨lr,rfl,hlr,_⟩:=cS ri;have Nj:=(cD hlr).2;refine⟨_,rfl,_,rfl,lr,_,_,_,rfl,rfl,aO.of (g2 _ _ Nj),mZ hq,rfl,_,rfl,?_⟩
  by_cases z:A i q=0
  ·refine uN (by rw[z]) (CW.skip hm hi hy hlen ⟨g2,by omega,h1,λj y hj e nz=>?_⟩)
   by_cases c:j=i
   ·rw[c] at nz;exact Jg z nz
   ·exact h2 j y (by omega) e nz
  ·refine Bk (λy=>z (V.int.inj y)) ⟨_,rfl,CW.emit hm hi (by rw[C.len,C?];omega) hy hlen ⟨aF.aX g2 hD _,by rw[Yi];show ys.length+1<=_;omega,λy hy=>?_,λj y hj e nz=>?_⟩⟩
   ·rcases List.mem_append.mp hy with y1|y1
    ·exact h1 y y1
    ·rw[List.mem_singleton.mp y1];exact⟨i,hx,z⟩
   ·by_cases c:j=i
    ·rw[c,hx] at e;cases e
     exact Yr _ Zc
    ·exact List.mem_append_left _ (h2 j y (by omega) e nz)
 ·rintro ys H2 hy ⟨g2,hle,h1,h2⟩
  rw[C.len] at h2 hle;have fD:H D=q?:=hD;refine⟨_,rfl,aT rfl,λpe Na=>?_⟩
  have k3:=aB Na (.lst []);have g3:=g2.trans k3;have hyp:=k3 _ _ hy;have Ou:(L2.upd H2 pe (.lst [])) pe=j? (.lst []):=ay;have HR:=tq.same g3;generalize L2.upd H2 pe (.lst [])=H3 at k3 g3 hyp Ou HR;have uo:∀y j,us[j]?=j? y->j<k/\∃lr,y=.ref lr/\H lr=j? (.lst ((lv n (A j)).map V.int))/\lr≠aE:=λy j e=>by
   obtain⟨hj,rj⟩:=C.get e;obtain⟨lr,rfl,hlr,_⟩:=cS rj;exact⟨hj,lr,rfl,(cD hlr).2,(cD hlr).1⟩
  obtain⟨es,el,er,ef⟩:=F2 (H:=H3) (ok:=Any) (n:=1) (ys:=ys) λy hy=>by
   obtain⟨j,e,_⟩:=h1 y hy;obtain⟨hj,lr,rfl,hlr,_⟩:=uo y j e;exact⟨_,nK (g3 _ _ hlr) trivial,Oq (by omega)⟩
  have abW:ys.length<=100:=by omega
  have rys:Rep H3 Any (.ref D) (.vec es):=.vec hyp trivial el er;have KS:Rep H3 Any (.ref pe) (.vec []):=.vec Ou trivial rfl λi v e h=>by simp at h
  refine N4 rys KS (.vec (by omega) ef) (.vec (n:=1) (by decide) λe he=>by simp at he) (by decide) (by decide) (λe=>?_) (λe=>?_)
  ·have y0:ys=[]:=by
    have:es=[]:=by injection e
    rw[this] at el;exact List.length_eq_zero_iff.mp el
   have az:∀i,i<k->A i q=0:=λi hi=>V? λz=>by
    have:=h2 i _ hi (Yc (by rw[C.len];exact hi)) z
    rw[y0] at this;simp at this
   refine⟨_,rfl,ko ?_⟩
   obtain⟨v0,hv0,_⟩:=C.at_ 0 (by omega)
   obtain⟨_,l0,rfl,Iw,_⟩:=uo v0 0 hv0;have KL:qV us 0=j? (.ref l0):=fu (j:=0) hv0;refine⟨_,rfl,lA,_,_,_,rfl,rfl,aO.of (g3 _ _ Eo),KL,l0,_,rfl,.inl (aO.of (g3 _ _ Iw)),?_⟩
   rw[Ya,aQ];refine⟨_,rfl,_,rfl,n,q,(p:Int) ^ d,rfl,by omega,λr H4 g4 rr=>?_⟩
   obtain⟨ps,Ov,_⟩:=id HR;refine qq (λj=>if j=q then (p:Int) ^ d else 0) r H4 (cL.of (g3.trans g4)) (HR.same g4) ⟨⟨d,Yd d,Ja rfl⟩,λj _=>?_,λi hi=>by rw[az i hi];exact Int.dvd_zero _,.inr λj _=>rfl⟩ (Rep.AJ rr Ov λb hb=>g3.free hb)
   by_cases c:j=q
   ·rw[Ja c];omega
   ·rw[W9 c];omega
  ·have y0:ys≠[]:=λz=>e (by rw[z] at el;rw[List.length_eq_zero_iff.mp el.symm])
   refine⟨_,rfl,jG ?_⟩
   have hj:∀i:Nat,∃j:Nat,∀y,ys[i]?=j? y->us[j]?=j? y/\A j q≠0:=λi=>by
    cases h:ys[i]? with
    | none=>exact⟨0,λy z=>by cases z⟩
    | some y=>
     obtain⟨j,a,b⟩:=h1 y (Yw h);exact⟨j,λy' z=>by cases z;exact⟨a,b⟩⟩
   obtain⟨jf,V6⟩:=Classical.axiomOfChoice hj;have hs:∀i,∃s:Nat,A (jf i) q≠0->fU (p:Int) (A (jf i) q) s:=λi=>by
    by_cases z:A (jf i) q=0
    ·exact⟨0,λy=>Jg z y⟩
    ·obtain⟨s,hs⟩:=Dp (p:=(p:Int)) (by omega) z
     exact⟨s,λ_=>hs⟩
   obtain⟨sf,V7⟩:=Classical.axiomOfChoice hs;have hPl:∃o,H3 aE=j? o:=by obtain⟨ps,h,_⟩:=id HR;exact⟨_,h⟩
   refine KR (i:=4) (l:=D) rfl rfl HR λf c H4 ZJ QB hh=>?_
   have hDP:D≠aE:=λz=>by
    obtain⟨ps,h,_⟩:=id tq;rw[z] at hD;rw[h] at hD;cases hD
   have n4:cL H aE H4:=(cL.of g3).trans ZJ;have hy4:=ZJ D _ hDP hyp;refine⟨D,f,c,ys,[.int (q:Int),.int (p:Int)],λi=>(sf i:Int),λi H'=>aF H4 H',rfl,rfl,List.length_pos_iff.mpr y0,?_,rfl,aF.refl _,⟨λi H' g=>aO.of (g _ _ hy4),λi v H' hv g=>⟨hh.same g,?_⟩,λi v H5 hv hmin g5=>?_⟩⟩
   ·intro j x v e1 e2
    match j,e1,e2 with
    | 0,e1,e2=>cases e1;cases e2;exact⟨1,rfl,rfl⟩
    | 1,e1,e2=>cases e1;cases e2;exact⟨2,rfl,rfl⟩
    | j+2,e1,e2=>have e2:([]:List V)[j]?=j? v:=e2;simp at e2
   ·obtain⟨e1,e2⟩:=V6 i v hv
    obtain⟨_,lr,rfl,hlr,hne⟩:=uo v _ e1;refine⟨_,rfl,_,rfl,lr,_,_,_,rfl,rfl,aO.of (g _ _ (n4 _ _ hne hlr)),mZ hq,_,rfl,_,(p:Int),rfl,by omega,by omega,λx H6 g6 sv=>?_⟩
    rcases sv with ⟨z,_⟩|⟨_,s',hv',rfl⟩
    ·exact Jg z e2
    ·exact⟨by rw[hv'.uniq (V7 i e2)],g.trans g6⟩
   ·obtain⟨e1,e2⟩:=V6 i v hv
    obtain⟨hjk,lr,rfl,hlr,hne⟩:=uo v _ e1;have vi:=V7 i e2;have n5:cL H aE H5:=n4.trans (cL.of g5);have V8:=n5 _ _ hne hlr;obtain⟨a0,a1⟩:=hA (jf i) q hjk hq;have dv:∀i',i'<k->(p:Int) ^ sf i ∣ A i' q:=λi' hi'=>by
     by_cases z:A i' q=0
     ·rw[z];exact Int.dvd_zero _
     ·have eg:us[i']?=j? (us[i']'(by rw[C.len];exact hi')):=Yc _
      have hin:=h2 i' _ hi' eg z;obtain⟨m,hm,em⟩:=Wd hin;have hym:ys[m]?=j? (us[i']'(by rw[C.len];exact hi')):=by rw[Yc hm,em]
      obtain⟨e3,e4⟩:=V6 m _ hym;have hle:=hmin m hm;obtain⟨_,l1,x1,x2,_⟩:=uo _ _ e3;obtain⟨_,l2,x3,x4,_⟩:=uo _ _ eg;rw[x1] at x3;cases x3;rw[x2] at x4;have x5:(lv n (A (jf m))).map V.int=(lv n (A i')).map V.int:=by injection x4 with x4;injection x4
      have x6:A (jf m) q=A i' q:=by
       have:=Je (λl=>l[q]?) x5
       simp only[Ye,cE hq] at this
       injection this with this;injection this
      rw[<- x6];exact Int.dvd_trans (gP _ (by have:(sf i:Int)<=(sf m:Int):=hle;omega)) (V7 m e4).dv
    have hps:(0:Int)<(p:Int) ^ sf i:=Wc (by omega)
    refine⟨_,rfl,_,rfl,lr,_,_,_,rfl,rfl,aO.of V8,mZ hq,_,rfl,A (jf i) q,(p:Int),rfl,e2,by omega,by omega,λv' m' r H6 g6 ek nd et=>?_⟩
    have ev:v'=sf i:=(fU.of (by omega) ek nd).uniq vi
    subst ev;have mp:0<m':=by
     rcases Int.lt_or_le 0 m' with y|y
     ·exact y
     ·have h:=W0 (W4 hps) (show 0<=-m' by omega)
      rw[Int.mul_neg,<- ek] at h;omega
    have mle:m'<=A (jf i) q/\(p:Int) ^ sf i<=A (jf i) q:=by
     have h1:=Int.mul_le_mul_of_nonneg_right (show 1<=(p:Int) ^ sf i by omega) (W4 mp)
     have h2:=Int.mul_le_mul_of_nonneg_left (show 1<=m' by omega) (W4 hps)
     rw[<- ek] at h1 h2;omega
    have pd2:2<=(p:Int) ^ d:=by
     obtain⟨d',rfl⟩:∃d',d=d'+1:=⟨d-1,by omega⟩
     rw[Yy];have h1:(0:Int)<(p:Int) ^ d':=Wc (by omega)
     have h2:=Int.mul_le_mul_of_nonneg_right (show 1<=(p:Int) ^ d' by omega) (show(0:Int)<=p by omega)
     omega
    have bm':Bd 200 m':=Bd.le (y:=(p:Int) ^ d) (by omega) Ot
    refine⟨r,_,_,_,rfl,rfl,j5.of et,rfl,_,rfl,m',(p:Int) ^ d,rfl,mp,pd2,bm'.mono (by decide),Ot.mono (by decide),AI hp nd d,λb t b0 b1 eb H7 g7=>?_⟩
    have n7:cL H aE H7:=n5.trans (cL.of (g6.trans g7));have ZK:=((QB.same g5).same g6).same g7;have Tc:=n7 _ _ hne hlr;refine⟨_,rfl,lr,rfl,⟨_,aO.of Tc⟩,λD2 yx=>?_⟩
    refine nL (λj=>.num ((b*A (jf i) j) % (p:Int) ^ d)) (n:=n) (by rw[Ya,aQ]) Tc yx (by omega) (λj vx H8 Q2 hj g8 ig q2=>?_) λH8 g8 rr=>?_
    ·obtain⟨y1,hy1,rfl⟩:=aS ig
     rw[cE hj] at hy1;cases hy1;have aj:=hA (jf i) j hjk hj;refine⟨_,rfl,_,rfl,_,_,rfl,rfl,(Bd.le (y:=(p:Int) ^ d) (by omega) Ot).ok (Bd.le (y:=(p:Int) ^ d) (by omega) Ot),_,rfl,_,_,rfl,rfl,(show(p:Int) ^ d≠0 by omega),?_⟩
     show Q2 (V.int ((b*A (jf i) j).fmod ((p:Int) ^ d))) H8
     rw[Y8 _ (by omega)]
     exact q2 _ H8 (aF.refl _) (.num _)
    ·have hP7:∃o,H7 aE=j? o:=by obtain⟨ps,h,_⟩:=id ZK;exact⟨_,h⟩
     obtain⟨o7,ZL⟩:=hP7;have eq:(b*A (jf i) q) % (p:Int) ^ d=(p:Int) ^ sf i:=by
      have:b*A (jf i) q=(p:Int) ^ sf i+(p:Int) ^ d*((p:Int) ^ sf i*t):=by rw[ek];grind
      rw[this,Int.add_mul_emod_self_left];exact Int.emod_eq_of_lt (by omega) (by omega)
     have sd:sf i<=d:=by
      rcases Nat.le_total (sf i) d with y|y
      ·exact y
      ·exact Jg (Int.le_of_dvd hps (gP (p:Int) y)) (by omega)
     refine qq (λj=>(b*A (jf i) j) % (p:Int) ^ d) _ H8 (n7.trans (cL.of g8)) (ZK.same g8) ⟨⟨sf i,sd,eq⟩,λj hj=>?_,λi' hi'=>by show(b*A (jf i) q) % (p:Int) ^ d ∣ _;rw[eq];exact dv i' hi',.inl ⟨jf i,hjk,b,λj _=>rfl⟩⟩ (Rep.AJ rr ZL λb hb=>n7.fresh ⟨o7,ZL⟩ hb)
     have h1:=Zj (b*A (jf i) j) (show(p:Int) ^ d≠0 by omega)
     have h2:=Zf (b*A (jf i) j) hm0;exact⟨h1,W4 h2⟩
end
def rowsOf (k n:Nat)(A:Nat->Vc):List Vc:=(Yj k).map λi=>fj n (A i)
theorem cY {k n:Nat}{A:Nat->Vc}{r:Vc}:r∈rowsOf k n A↔∃i,i<k/\r=fj n (A i):=by
 unfold rowsOf;rw[List.mem_map];exact⟨λ⟨i,h,e⟩=>⟨i,List.mem_range.mp h,e.symm⟩,λ⟨i,h,e⟩=>⟨i,List.mem_range.mpr h,e.symm⟩⟩
theorem dj {n j:Nat}{v:Vc}(h:n<=j):fj n v j=0:=W9 (by omega)
theorem cH {n j:Nat}{v:Vc}(h:j<n):fj n v j=v j:=Ja h
theorem KU {n q k p d:Nat}{R:List Vc}{T:Nat->Vc}{A:Nat->Vc}{ld:Vc}(hp:2<=p)(hq:q<n)(h:JH n R ((p:Int) ^ d) (q+1) T (rowsOf k n A))(L:KQ k n A q p d ld):JH n R ((p:Int) ^ d) q (λi=>if i=q then fj n ld else T i) (rowsOf (k+1) n (C8 k A ld q ((p:Int) ^ d))):=by
 have m0:(0:Int)<(p:Int) ^ d:=Wc (by omega)
 obtain⟨s,hs,es⟩:=L.pw;have l0:(0:Int)<ld q:=by rw[es];exact Wc (by omega)
 have ht:(p:Int) ^ d / ld q*ld q=(p:Int) ^ d:=Int.ediv_mul_cancel (by rw[es];exact gP _ hs)
 have low:∀i,i<k->∀j,q+1<=j->j<n->A i j=0:=λi hi j h1 h2=>by
  have:=h.low (fj n (A i)) (cY.mpr ⟨i,hi,rfl⟩) j h1
  rw[cH h2] at this;exact this
 have V9:∀j,q+1<=j->j<n->ld j=0:=λj h1 h2=>by
  rcases L.src with ⟨i,hi,b,e⟩|e
  ·rw[e j h2,low i hi j h1 h2,Y6,Int.zero_emod]
  ·rw[e j h2,W9 (by omega)]
 have dvq:∀i,i<k->A i q / ld q*ld q=A i q:=λi hi=>Int.ediv_mul_cancel (L.dv i hi)
 have w1:∀i,i<k->∀j,fj n (A i) j=fj n (C8 k A ld q ((p:Int) ^ d) i) j+(A i q / ld q)*fj n ld j+(p:Int) ^ d*fj n (λj=>(A i j-(A i q / ld q)*ld j) / (p:Int) ^ d) j:=λi hi j=>by
  by_cases c:j<n
  ·rw[cH c,cH c,cH c,cH c]
   unfold C8;rw[Ja hi];have:=Z3 (A i j-(A i q / ld q)*ld j) ((p:Int) ^ d)
   omega
  ·rw[dj (by omega),dj (by omega),dj (by omega),dj (by omega)];omega
 have w2:∀j,((p:Int) ^ d / ld q)*fj n ld j=fj n (C8 k A ld q ((p:Int) ^ d) k) j+(p:Int) ^ d*fj n (λj=>(((p:Int) ^ d / ld q)*ld j) / (p:Int) ^ d) j:=λj=>by
  by_cases c:j<n
  ·rw[cH c,cH c,cH c]
   unfold C8;rw[W9 (by omega)]
   have:=Z3 (((p:Int) ^ d / ld q)*ld j) ((p:Int) ^ d)
   omega
  ·rw[dj (by omega),dj (by omega),dj (by omega)];omega
 refine h.step hq (by omega) ?_ (λj hj=>?_) (t:=(p:Int) ^ d / ld q) (by rw[cH hq];exact ht) (λr hr=>?_) ⟨_,cY.mpr ⟨k,by omega,rfl⟩,_,w2⟩ (λr' hr'=>?_) λr' hr' j hj=>?_
 ·rcases L.src with ⟨i,hi,b,e⟩|e
  ·refine((h.sub _ (cY.mpr ⟨i,hi,rfl⟩)).jq b Gq.zero).JG (z:=λj=>-fj n (λj=>(b*A i j) / (p:Int) ^ d) j) (λj hj=>dj hj) λj=>?_
   by_cases c:j<n
   ·rw[cH c,cH c,cH c,e j c]
    have:=Z3 (b*A i j) ((p:Int) ^ d)
    grind
   ·rw[dj (by omega),dj (by omega),dj (by omega)];grind
  ·refine(Gq.unit hq).of λj=>?_
   by_cases c:j<n
   ·rw[cH c,e j c]
   ·rw[dj (by omega),W9 (by omega)]
 ·by_cases c:j<n
  ·rw[cH c];exact V9 j hj c
  ·exact dj (by omega)
 ·obtain⟨i,hi,rfl⟩:=cY.mp hr
  exact⟨_,cY.mpr ⟨i,by omega,rfl⟩,_,_,w1 i hi⟩
 ·obtain⟨i,hi,rfl⟩:=cY.mp hr'
  by_cases c:i<k
  ·exact .inl ⟨_,cY.mpr ⟨i,c,rfl⟩,_,_,w1 i c⟩
  ·obtain rfl:i=k:=by omega
   exact .inr ⟨_,w2⟩
 ·obtain⟨i,hi,rfl⟩:=cY.mp hr'
  by_cases c:j<n
  ·rw[cH c]
   unfold C8;by_cases ci:i<k
   ·rw[Ja ci]
    by_cases e:j=q
    ·rw[e,dvq i ci,Int.sub_self,Int.zero_emod]
    ·rw[low i ci j (by omega) c,V9 j (by omega) c,Y6,Int.sub_zero,Int.zero_emod]
   ·rw[W9 ci]
    by_cases e:j=q
    ·rw[e,ht,Int.emod_self]
    ·rw[V9 j (by omega) c,Y6,Int.zero_emod]
  ·exact dj (by omega)
theorem Hj {n k:Nat}{m:Int}{A:Nat->Vc}{T:Nat->Vc}:JH n (rowsOf k n A) m n T (rowsOf k n λi j=>A i j % m):=by
 have e:∀i j,fj n (A i) j=fj n (λj=>A i j % m) j+m*fj n (λj=>A i j / m) j:=λi j=>by
  by_cases c:j<n
  ·rw[cH c,cH c,cH c];exact(Z3 _ _).symm
  ·rw[dj (by omega),dj (by omega),dj (by omega)];omega
 refine .start (λr hr=>?_) λr hr=>?_
 ·obtain⟨i,hi,rfl⟩:=cY.mp hr
  exact(Gq.mem (cY.mpr ⟨i,hi,rfl⟩) λj hj=>dj hj).JG (z:=λj=>-fj n (λj=>A i j / m) j) (λj hj=>dj hj) λj=>by have:=e i j;grind
 ·obtain⟨i,hi,rfl⟩:=cY.mp hr
  exact⟨_,cY.mpr ⟨i,hi,rfl⟩,_,e i⟩
inductive KW (K:bM)(Pp:o?)(vs:List V)(H:Hp)(Q:VK)(xF:XK):Prop where
 | mk (k n d p:Nat) (u:V) (A:Nat->Vc) (u9:vs=[u,.int (p:Int),.int (d:Int)]) (u_:p∈PR) (vc:Rep (del H Pp) Any u (mE k n A)) (ve:1<=n) (vf:n<=20) (vg:1<=k) (xG:k<=60) (zx:1<=d) (A6:d<=30) (Eb:gK i8 Pp H) (vh:∀(T:Nat->Vc) (s:Nat->Nat) r H',cL H Pp H'->gK i8 Pp H'->dB n T->(∀i,i<n->T i i=(p:Int) ^ s i/\s i<=d)->(∀i j,i<n->j<n->0<=T i j/\T i j<=(p:Int) ^ d/\(j≠i->T i j<(p:Int) ^ d))->(∀v,Gq (rowsOf k n A) ((p:Int) ^ d) n v↔gM n T v)->Rep (del H' Pp) (dG H) r (mE n n T)->Q r H')
section
theorem yE {aE:o?}(B:iw mg)(jW:b9 P w K mg base 1 "number_power" ["k","n"] wZ)(Hl:b9 P w K mg base 7 "lead_at" Kn (Cm K aE))(Ho:b9 P w K mg base 1 "without" Kl (Oo K))(F:Src K mg "triangular" ju G5):b9 P w K mg base 8 "triangular" G5 (KW K aE):=by
 refine F.ok d7 (λvs H Q E h=>?_) (λf cdv A outer s H vs Q E hr h=>?_)
 ·obtain⟨k,n,d,p,u,A,rfl,_⟩:=h;rfl
 obtain⟨k,n,d,p,u,A,rfl,hp,ru,hn1,hn,hk1,hk,hd1,hd,tq,qq⟩:=h;obtain⟨lA,us,rfl,Eh,_,C⟩:=id ru.cf;have Eo:=(cD Eh).2;have pp:=cP hp;refine⟨_,ai (aC (i:=3) d7.nd rfl (Or.inr rfl) (aH jW hr (af (pv 1) (af (pv 2) ah))))
  (ai (gh (i:=4) d7.nd rfl (z? rfl) (aG (N:=["row","power"]) (sl:=[q?,j? 3]) (ao ju) YG rfl rfl (by decide +kernel)) rfl (bE (K:=K) rfl (pv 0)) (λ_ _ _ _ _=>(aA (i:=0) (Yk_ ["row","power"]) rfl (z? rfl))) (λ_ _ _ _ _=>aR) (λ_ _ _ _ _=>(bY (aG (N:=["number","power"]) (sl:=[q?,j? 1]) _ ["row","power"] rfl rfl (by kernel_rfl)) rfl (bE (K:=K) rfl (pv 0)) (λ_ _ _ _ _=>(aA (i:=0) (Yk_ ["number","power"]) rfl (z? rfl))) (λ_ _ _ _ _=>aR) (λ_ _ _ _ _=>(au bD (pv 0) (pv 1))))))
  (ai (aC (i:=5) d7.nd rfl (z? rfl) (aZ ah))
  (ai (bZ D? rfl (zU rfl B.reversed (af (wj rfl B.range (af (aJ (aN (K:=K) rfl) rfl B.len bN (af (bI (aI (K:=K) rfl) (pv 0) ak (λ_ _=>rfl)) ah)) ah)) ah)) (aA (i:=6) d7.nd rfl (z? rfl))
   (ai (aC (i:=7) d7.nd rfl (z? rfl) (aH Hl hr (af (pv 4) (af (pv 6) (af (pv 1) (af (pv 3) ah))))))
   (ai (aC (i:=4) d7.nd rfl (z? rfl) (aH Ho hr (af (pv 4) (af (pv 7) (af (pv 6) (af (pv 3) ah))))))
   (av (d9 (mW R? F! G! c8 (pv 5) (af (pv 7) ah)))))))
  (ai (d9 (Dh R? PySem.F.slot_list_reverse PySem.F.type_list_reverse pZ (pv 5) ))
  (av (aM (pv 5))))))),?_⟩
 walk_at "rd"
 refine⟨p,d,rfl,by omega,by omega,?_⟩
 rw[Wi];have m0:(0:Int)<(p:Int) ^ d:=Wc (by omega)
 have Ot:=zB hp hd;have Td:∀vx i,us[i]?=j? vx->i<k/\∃lr,vx=.ref lr/\H lr=j? (.lst ((lv n (A i)).map V.int)):=λvx i e=>by
  obtain⟨hi,ri⟩:=C.get e;obtain⟨lr,rfl,hlr,_⟩:=cS ri;exact⟨hi,lr,rfl,(cD hlr).2⟩
 refine⟨_,rfl,lA,rfl,⟨_,aO.of Eo⟩,λD hD=>?_⟩
 refine nL (λi=>rE n λj=>A i j % (p:Int) ^ d) (n:=k) C.len Eo hD (by omega) (λi vx H2 Q2 hi g2 ig q2=>?_) λH2 g2 rr=>?_
 ·obtain⟨_,lr,rfl,hlr⟩:=Td vx i ig
  refine⟨_,rfl,lr,rfl,⟨_,aO.of (g2 _ _ hlr)⟩,λD2 yx=>?_⟩
  refine nL (λj=>.num (A i j % (p:Int) ^ d)) (n:=n) (by rw[Ya,aQ]) (g2 _ _ hlr) yx (by omega) (λj vx H3 Q3 hj g3 ig q3=>?_) λH3 g3 rr=>q2 _ H3 g3 rr
  obtain⟨y1,hy1,rfl⟩:=aS ig;rw[cE hj] at hy1;cases hy1;refine⟨_,rfl,_,rfl,_,_,rfl,rfl,(show(p:Int) ^ d≠0 by omega),?_⟩
  show Q3 (V.int ((A i j).fmod ((p:Int) ^ d))) H3
  rw[Y8 _ (by omega)]
  exact q3 _ H3 (aF.refl _) (.num _)
 refine⟨aT rfl,λtp htp=>?_⟩
 have k3:=aB htp (.lst []);have g3:=g2.trans k3;have fT:H tp=q?:=g2.free htp;obtain⟨ps,Ov,_⟩:=id tq;have Ro:tp≠aE:=λz=>by rw[z,Ov] at fT;cases fT
 obtain⟨v0,hv0,_⟩:=C.at_ 0 (by omega)
 obtain⟨_,l0,rfl,Iw⟩:=Td v0 0 hv0;have KL:qV us 0=j? (.ref l0):=fu (j:=0) hv0;refine⟨_,rfl,lA,_,_,_,rfl,rfl,aO.of (g3 _ _ Eo),KL,l0,_,rfl,.inl (aO.of (g3 _ _ Iw)),?_⟩
 rw[Ya,aQ];refine⟨_,rfl,λp3 n3=>⟨p3,_,rfl,ay,by omega,by omega,?_⟩⟩
 have k4:=aB n3 (.oZ 0 (n:Int));have g4:=g3.trans k4;rw[Yf];have Ux:=k4 _ _ (show L2.upd H2 tp (.lst []) tp=j? (.lst []) from ay)
 have ZM:=k3.trans k4;generalize L2.upd (L2.upd H2 tp (.lst [])) p3 (.oZ 0 (n:Int))=H4 at k4 g4 Ux ZM;refine rG (λi σ H5=>cL H aE H5/\gK i8 aE H5/\∃(lf:V) (ys:List V) (A' T:Nat->Vc) (s:Nat->Nat) (o1 o2:Option V),σ=[Rq lA,Iq (p),Iq (d),j? (.int ((p:Int) ^ d)),j? lf,Rq tp,o1,o2]/\Rep (del H5 aE) (·≠tp) lf (mE (k+i) n A')/\
   (∀a j,a<k+i->j<n->0<=A' a j/\A' a j<(p:Int) ^ d)/\H5 tp=j? (.lst ys)/\Cf (del H5 aE) (λb=>H b=q?/\b≠tp) ys i (λt=>rE n (T (n-1-t)))/\JH n (rowsOf k n A) ((p:Int) ^ d) (n-i) T (rowsOf (k+i) n A')/\(∀a,n-i<=a->a<n->T a a=(p:Int) ^ s a/\s a<=d)/\∀a j,n-i<=a->a<n->j<n->0<=T a j/\T a j<=(p:Int) ^ d/\(j≠a->T a j<(p:Int) ^ d))
  ⟨cL.of g4,tq.same g4,_,[],_,λ_ _=>0,λ_=>0,_,_,rfl,?_,λa j _ _=>⟨Zj _ (by omega),Zf _ m0⟩,Ux,.nil,Hj,λa h1 h2=>by omega,λa j h1 h2=>by omega⟩ ?_ ?_
 ·exact rr.imp λb u h kb=>⟨by rw[jL (λz=>by rw[z] at kb;rw[show H aE=q? from kb] at Ov;cases Ov)];exact ZM b u h,bK h htp⟩
 ·rintro i σ H5 hi ⟨n5,Rp,lf,ys,A',T,s,o1,o2,rfl,V_,rA,e5,Cy,tr,Rr,hT⟩
  obtain⟨q,hq⟩:∃q,q+1+i=n:=⟨n-1-i,by omega⟩
  have hqn:q<n:=by omega
  have eq1:((n:Int)-1-(i:Int))=((q:Nat):Int):=by omega
  rw[show n-i=q+1 by omega] at tr Rr hT
  rw[eq1];refine⟨_,rfl,_,rfl,_,rfl,_,rfl,k+i,n,q,d,p,lf,A',rfl,hp,V_.any,hqn,hn,by omega,by omega,hd1,hd,rA,Rp,λld r H6 n6 Ow Rt Qw=>?_⟩
  have m6:∃o,H6 aE=j? o:=by obtain⟨ps,h,_⟩:=id Ow;exact⟨_,h⟩
  have m5:∃o,H5 aE=j? o:=by obtain⟨ps,h,_⟩:=id Rp;exact⟨_,h⟩
  obtain⟨o6,ho6⟩:=m6;obtain⟨o5,ho5⟩:=m5;obtain⟨sq,hsq,ZN⟩:=Rt.pw;have l0:0<ld q:=by rw[ZN];exact Wc (by omega)
  have bl:∀j,j<n->Bd 8000 (ld j):=λj hj=>by
   have:=Rt.oZ j hj
   exact(Bd.le (y:=(p:Int) ^ d) (by omega) Ot).mono (by decide)
  refine⟨_,rfl,_,rfl,_,rfl,_,rfl,k+i,n,q,lf,r,A',ld,(p:Int) ^ d,rfl,((V_.same n6.del).any).same (fE _ _),Qw.any.same (fE _ _),hqn,by omega,by omega,m0,l0,Ot.mono (by decide),λa j ha hj=>?_,bl,λr2 H7 g7 HS=>?_⟩
  ·have:=rA a j ha hj
   exact(Bd.le (y:=(p:Int) ^ d) (by omega) Ot).mono (by decide)
  have e6:=n6 tp _ Ro e5;have e7:=g7 _ _ e6;refine⟨_,rfl,.inl ⟨rfl,_,aO.of e7⟩,_,rfl,tp,_,_,rfl,rfl,e7,by rw[Cy.len,C?];omega,?_⟩
  have n7:cL H aE H7:=(n5.trans n6).trans (cL.of g7);have n8:=n7.aX fT (.lst (ys++[r]));have up:∀b u,b≠aE->b≠tp->H7 b=j? u->del (L2.upd H7 tp (.lst (ys++[r]))) aE b=j? u:=λb u h1 h2 h3=>by rw[jL h1,aL h2];exact h3
  have tq8:gK i8 aE (L2.upd H7 tp (.lst (ys++[r]))):=by
   obtain⟨ps,h1,h2,h3⟩:=Ow.same g7;refine⟨ps,by rw[aL (Ne.symm Ro)];exact h1,h2,λpos=>(h3 pos).imp id λ⟨c,a,b⟩=>⟨c,a,?_⟩⟩
   rw[aL (λz=>by rw[z,e7] at b;cases b)];exact b
  refine⟨n8,tq8,r2,ys++[r],C8 (k+i) A' ld q ((p:Int) ^ d),λa=>if a=q then fj n ld else T a,λa=>if a=q then sq else s a,_,_,rfl,?_,λa j _ _=>?_,ay,?_,?_,λa h1 h2=>?_,λa j h1 h2 hj=>?_⟩
  ·exact HS.imp λb u h kb=>⟨up b u (λz=>by rw[z] at kb;rw[show H6 aE=q? from kb] at ho6;cases ho6) (λz=>by rw[z] at kb;rw[show H6 tp=q? from kb] at e6;cases e6) h,λz=>by rw[z] at kb;rw[show H6 tp=q? from kb] at e6;cases e6⟩
  ·unfold C8
   split
   ·exact⟨Zj _ (by omega),Zf _ m0⟩
   ·exact⟨Zj _ (by omega),Zf _ m0⟩
  ·refine Cf.push ((Cy.imp λb u h kb=>⟨up b u (cD h).1 kb.2 (g7 _ _ (n6 b u (cD h).1 (cD h).2)),kb⟩).congr λt ht=>?_) ?_
   ·show rE n (T (n-1-t))=rE n (if n-1-t=q then fj n ld else T (n-1-t))
    rw[W9 (by omega)]
   ·show Rep _ _ r (rE n (if n-1-i=q then fj n ld else T (n-1-i)))
    rw[Ja (by omega),sD (w:=ld) λj hj=>cH hj]
    refine Qw.imp λb u h kb=>⟨up b u (cD h).1 (λz=>?_) (g7 _ _ (cD h).2),n5.fresh ⟨o5,ho5⟩ kb,λz=>?_⟩
    ·rw[z] at kb;rw[show H5 tp=q? from kb] at e5;cases e5
    ·rw[z] at kb;rw[show H5 tp=q? from kb] at e5;cases e5
  ·rw[show n-(i+1)=q by omega]
   exact KU (by omega) hqn tr Rt
  ·by_cases c:a=q
   ·subst c
    refine⟨?_,by show(if a=a then sq else s a)<=d;rw[Ja rfl];exact hsq⟩
    show(if a=a then fj n ld else T a) a=(p:Int) ^ (if a=a then sq else s a)
    rw[Ja rfl,Ja rfl,cH h2];exact ZN
   ·have:=Rr a (by omega) h2
    refine⟨?_,by show(if a=q then sq else s a)<=d;rw[W9 c];exact this.2⟩
    show(if a=q then fj n ld else T a) a=(p:Int) ^ (if a=q then sq else s a)
    rw[W9 c,W9 c];exact this.1
  ·show 0<=(if a=q then fj n ld else T a) j/\(if a=q then fj n ld else T a) j<=_/\(j≠a->(if a=q then fj n ld else T a) j<_)
   by_cases c:a=q
   ·rw[Ja c,cH hj]
    refine⟨(Rt.oZ j hj).1,(Rt.oZ j hj).2,λhja=>?_⟩
    rcases Rt.src with ⟨_,_,b,e⟩|e
    ·rw[e j hj];exact Zf _ m0
    ·rw[e j hj,W9 (λz=>hja (z.trans c.symm))];exact m0
   ·rw[W9 c];exact hT a j (by omega) h2 hj
 ·rintro σ H5 ⟨n5,Rp,lf,ys,A',T,s,o1,o2,rfl,V_,rA,e5,Cy,tr,Rr,hT⟩
  rw[W5] at tr Rr hT;refine⟨_,rfl,.inl ⟨rfl,_,aO.of e5⟩,tp,_,rfl,rfl,e5,⟨_,rfl,?_⟩⟩
  have n6:=n5.aX fT (.lst ys.reverse);have Ow:gK i8 aE (L2.upd H5 tp (.lst ys.reverse)):=by
   obtain⟨ps,h1,h2,h3⟩:=Rp;refine⟨ps,by rw[aL (Ne.symm Ro)];exact h1,h2,λpos=>(h3 pos).imp id λ⟨c,a,b⟩=>⟨c,a,?_⟩⟩
   rw[aL (λz=>by rw[z,e5] at b;cases b)];exact b
  refine qq T s _ _ n6 Ow ⟨λa ha j hj=>tr.jB a (by omega) ha j hj,λa ha=>?_⟩ (λa ha=>Rr a (by omega) ha) (λa j ha hj=>hT a j (by omega) ha hj) (λv=>tr.done) ?_
  ·rw[(Rr a (by omega) ha).1]
   exact Int.ne_of_gt (Wc (by omega))
  ·have c1:Cf (del (L2.upd H5 tp (.lst ys.reverse)) aE) (dG H) ys.reverse n λi=>rE n (T i):=by
    refine Cf.congr (Cf.rev (Cy.imp λb u h kb=>⟨by rw[jL (cD h).1,aL kb.2];exact(cD h).2,kb.1⟩)) λa ha=>?_
    show rE n (T (n-1-(n-1-a)))=_
    rw[show n-1-(n-1-a)=a by omega]
   exact c1.rep (by rw[jL Ro];exact ay) fT
end
section
variable {R:Type} [Lean.Grind.CommRing R]
theorem Ox {k:Nat}{x:Vc}{A:Nat->Vc}{j:Nat}:zc R (sm k x A j)=sm k (λi=>zc R (x i)) (λi j=>zc R (A i j)) j:=by
 induction k with
 | zero=>exact Aj
 | succ k ih=>
  show zc R (sm k x A j+x k*A k j)=sm k _ _ j+zc R (x k)*zc R (A k j)
  rw[qj,gu,ih]
end
theorem QC {p:Nat}(hp:p∈PR){x:Int}:zc (ground p hp).α x=0↔(p:Int) ∣ x:=by
 have hz:zc (ground p hp).α (p:Int)=0:=by rw[cQ];exact(ground p hp).ch
 constructor
 ·intro h
  refine V? λnd=>?_
  obtain⟨u,v,e⟩:=AI hp nd 1;have e2:zc (ground p hp).α (u*x+v*(p:Int) ^ 1)=1:=by rw[e,iB]
  rw[Yy,Y9,Zk,qj,gu,gu,h,hz] at e2;refine(ground p hp).fld.1 ?_
  rw[<- e2];grind
 ·rintro⟨c,rfl⟩
  rw[gu,hz];grind
theorem KY {p:Nat}(hp:p∈PR){m:Nat}{l:List Int}(h:Rw p m l)(j:Nat):zr hp l j=zc (ground p hp).α (l.getD j 0):=by
 have:=(h.get j).1
 show nt (ground p hp).α (l.getD j 0).toNat=_
 rw[<- cQ,We this]
theorem Te {p:Nat}(hp:p∈PR)(a:(ground p hp).α):∃k:Int,zc (ground p hp).α k=a:=⟨(zv (T:=ground p hp) a:Int),by rw[cQ];exact SH (T:=ground p hp) a⟩
def n_ (W:Nat)(l:List Int):Vc:=λi=>l.getD (W+i) 0
theorem Cn {p:Nat}(hp:p∈PR){W k:Nat}{A:Nat->Vc}(oZ:∀i j,i<k->j<W->0<=A i j/\A i j<(p:Int)){S:List (List Int)}(hS:∀l∈S,Rw p (W+k) l)(hK:C7 W k (λr j=>zr hp (((Yj k).map λi=>lv W (A i)).getD r []) j) W (S.map (zr hp))):
  (∀l∈S,∀j,j<W->(p:Int) ∣ sm k (n_ W l) A j)/\∀x:Vc,(∀j,j<W->(p:Int) ∣ sm k x A j)->∃v z:Vc,iy (S.map (n_ W)) v/\∀i,i<k->x i=v i+(p:Int)*z i:=by
 have er:∀i j,i<k->j<W->zr hp (((Yj k).map λi=>lv W (A i)).getD i []) j=zc (ground p hp).α (A i j):=λi j hi hj=>by
  have e1:((Yj k).map λi=>lv W (A i)).getD i []=lv W (A i):=by rw[Yb,Ye,Ys hi];rfl
  have h:Rw p W (lv W (A i)):=⟨aQ _ _,λx hx=>by
   unfold lv at hx;obtain⟨j,hj,rfl⟩:=List.mem_map.mp hx;exact oZ i j hi (List.mem_range.mp hj)⟩
  rw[e1,KY hp h,Yb,cE hj];rfl
 obtain⟨d1,d2⟩:=hK.done;refine⟨λl hl j hj=>?_,λx hx=>?_⟩
 ·have:=d1 _ (List.mem_map.mpr ⟨l,hl,rfl⟩) j hj
  rw[cW (d':=λi=>zc (ground p hp).α (n_ W l i)) (R':=λi j=>zc (ground p hp).α (A i j)) (λi _=>KY hp (hS l hl) (W+i)) (λi hi=>er i j hi hj),<- Ox] at this
  exact(QC hp).mp this
 ·obtain⟨v,hv,ev⟩:=d2 (λi=>zc (ground p hp).α (x i)) λj hj=>by
   rw[cW (d':=λi=>zc (ground p hp).α (x i)) (R':=λi j=>zc (ground p hp).α (A i j)) (λi _=>rfl) (λi hi=>er i j hi hj),<- Ox]
   exact(QC hp).mpr (hx j hj)
  have lift:∀ {v:Nat->(ground p hp).α},iy (S.map (zr hp)) v->∃u:Vc,iy (S.map (n_ W)) u/\∀i,v (W+i)=zc (ground p hp).α (u i):=by
   intro v hv;induction hv with
   | zero=>exact⟨_,.zero,λi=>Aj.symm⟩
   | @add r v a hr _ ih=>
    obtain⟨l,hl,rfl⟩:=List.mem_map.mp hr;obtain⟨u,hu,eu⟩:=ih;obtain⟨k',rfl⟩:=Te hp a;refine⟨_,.add k' (List.mem_map.mpr ⟨l,hl,rfl⟩) hu,λi=>?_⟩
    show zc _ k'*zr hp l (W+i)+v (W+i)=zc _ (k'*n_ W l i+u i)
    rw[qj,gu,eu i,KY hp (hS l hl)];rfl
  obtain⟨u,hu,eu⟩:=lift hv;have hz:∀i,∃z:Int,i<k->x i=u i+(p:Int)*z:=λi=>by
   by_cases c:i<k
   ·have e:zc (ground p hp).α (x i+-u i)=0:=by rw[qj,l_,<- ev i c,<- eu i];grind
    obtain⟨z,hz⟩:=(QC hp).mp e;exact⟨z,λ_=>by omega⟩
   ·exact⟨0,λh=>Jg h c⟩
  obtain⟨z,hz⟩:=Classical.axiomOfChoice hz;exact⟨u,z,hu,hz⟩
theorem dB.bnd {n b e:Nat}{T:Nat->Vc}(hT:dB n T)(bT:∀i j,i<n->j<n->Bd e (T i j)){c:Vc}(hb:∀j,j<n->Bd b (sm n c T j)):∀i,i<n->Bd (b+(e+1)*n) (c i):=by
 have key:∀m k,k+m=n->(∀j,j<n->Bd (b+(e+1)*m) (sm k c T j))/\∀i,k<=i->i<n->Bd (b+(e+1)*n) (c i):=by
  intro m;induction m with
  | zero=>
   intro k hk;obtain rfl:k=n:=by omega
   exact⟨λj hj=>(hb j hj).mono (by omega),λi h1 h2=>by omega⟩
  | succ m ih=>
   intro k hk;obtain⟨h1,h2⟩:=ih (k+1) (by omega)
   have e1:=h1 k (by omega)
   rw[hT.at_ c (by omega)] at e1
   have ck:Bd (b+(e+1)*m) (c k):=by
    refine Bd.le ?_ e1
    rw[Zh];exact Nat.le_mul_of_pos_right _ (by have:=hT.nz k (by omega);omega)
   refine⟨λj hj=>?_,λi hi hn=>?_⟩
   ·have e2:sm k c T j=sm (k+1) c T j-c k*T k j:=by show _=sm k c T j+c k*T k j-c k*T k j;omega
    rw[e2];refine((h1 j hj).sub (ck.mul (bT k j (by omega) hj))).mono ?_
    rw[Wz];omega
   ·by_cases c1:i=k
    ·rw[c1]
     refine ck.mono ?_
     have:(e+1)*m<=(e+1)*n:=Zg _ (by omega)
     omega
    ·exact h2 i (by omega) hn
 exact λi hi=>(key n 0 (by omega)).2 i (Y1 _) hi
theorem KZ {f:Fn}{n a:Nat}(hf:∀j,Bd a (f j)):∀k j,Bd (1+k*(a+1)) (tk f n k j)
 | 0,j=>by
  show Bd _ (if j=0 then 1 else 0)
  split
  ·show Zo 1<2 ^ _;rw[Nat.zero_mul];decide
  ·show Zo 0<2 ^ _;rw[Nat.zero_mul];decide
 | k+1,j=>by
  show Bd _ ((if j=0 then 0 else tk f n k (j-1))-tk f n k (n-1)*f j)
  have h1:Bd (1+k*(a+1)) (if j=0 then 0 else tk f n k (j-1)):=by
   split
   ·exact Zu (by decide)
   ·exact KZ hf k (j-1)
  refine(h1.sub ((KZ hf k (n-1)).mul (hf j))).mono ?_
  rw[Wg];omega
theorem QD {f:Fn}{n a b:Nat}{u v:Vc}(hn:n<=6)(hf:∀j,Bd a (f j))(hu:∀j,j<n->Bd b (u j))(hv:∀j,j<n->Bd b (v j))(k:Nat):Bd (b+(b+(1+10*(a+1))+3)+3) (FZ f n u v k):=by
 unfold FZ;refine xN (k:=3) (by omega) hu λi hi=>xN (k:=3) (by omega) hv λj hj=>(KZ hf (i+j) k).mono ?_
 have:(i+j)*(a+1)<=10*(a+1):=Yx _ (by omega)
 omega
section
variable {R:Type} [Lean.Grind.CommRing R] {n p:Nat} {el:Vc->R} {c:Nat->Nat->Vc}
theorem QE (Ba:nM n el)(h:c_ (Of el))(hc:∀i j,i<n->j<n->el (un i)*el (un j)=el (c i j))(x y:Vc):Cp (Of el) (nt R p) (el (LU n c (p:Int) x y)) (el x*el y):=by
 refine Cp.symm h ⟨el λk=>sm n x (λi k=>sm n y (c i) k) k / (p:Int),⟨_,rfl⟩,?_⟩
 rw[Ba.mul hc,<- cQ];have:=Ba.jq (p:Int) (λk=>sm n x (λi k=>sm n y (c i) k) k / (p:Int)) (LU n c (p:Int) x y)
 rw[show(λj=>(p:Int)*(sm n x (λi k=>sm n y (c i) k) j / (p:Int))+LU n c (p:Int) x y j)=λk=>sm n x (λi k=>sm n y (c i) k) k from funext λj=>by
  have:=Z3 (sm n x (λi k=>sm n y (c i) k) j) (p:Int)
  unfold LU;omega] at this
 rw[this];grind
theorem K0 (Ba:nM n el)(h:c_ (Of el))(hc:∀i j,i<n->j<n->el (un i)*el (un j)=el (c i j))(x:Vc):∀m,Cp (Of el) (nt R p) (el (Nh n c (p:Int) x m)) (el x ^ (m+1))
 | 0=>by
  have:el x ^ (0+1)=el x:=by rw[bJ,b7];grind
  rw[this];exact .refl h _
 | m+1=>by
  refine(QE Ba h hc _ x).trans h ?_
  rw[bJ (el x) (m+1)];exact .mul h (h.pow ⟨_,rfl⟩ _) ⟨_,rfl⟩ (K0 Ba h hc x m) (.refl h _)
theorem K1 (hp:p∈PR)(Ba:nM n el)(h:c_ (Of el))(hc:∀i j,i<n->j<n->el (un i)*el (un j)=el (c i j))(i:Nat):∀k,Cp (Of el) (nt R p) (el (Hg n c p k i)) (el (un i) ^ (p ^ k))
 | 0=>by
  have:el (un i) ^ (p ^ 0)=el (un i):=by rw[Nat.pow_zero,show(1:Nat)=0+1 from rfl,bJ,b7];grind
  rw[this];exact .refl h _
 | k+1=>by
  have pp:=cP hp;refine(K0 Ba h hc (Hg n c p k i) (p-1)).trans h ?_
  rw[show p-1+1=p by omega,Z2,DF]
  exact(K1 hp Ba h hc i k).pow h ⟨_,rfl⟩ (h.pow ⟨_,rfl⟩ _) p
end
theorem Tf (n:Nat)(v:Vc):rE n v=eN (lv n v):=by
 unfold rE kC eN lv;rw[W6];rfl
theorem AK (r c:Nat)(A:Nat->Vc):mE r c A=.vec (((Yj r).map λi=>lv c (A i)).map eN):=by
 unfold mE kC;rw[W6];congr 1
 exact Zy λi _=>Tf c (A i)
theorem F3 {p W k:Nat}{S:List (List Int)}(hS:∀l∈S,Rw p (W+k) l):El.vec (S.map λl=>eN (l.drop W))=mE S.length k λt=>n_ W (S.getD t []):=by
 rw[AK];congr 1
 refine Ze λt=>?_
 rw[Ye,Ye,Ye];by_cases ht:t<S.length
 ·rw[Ys ht,Yc ht]
  show j? (eN (S[t].drop W))=j? (eN (lv k (n_ W (S.getD t []))))
  have e:S.getD t []=S[t]:=by rw[Yb,Yc ht];rfl
  have hl:=(hS _ (Yz ht)).1;rw[e];congr 2
  refine Ze λi=>?_
  by_cases hi:i<k
  ·rw[cE hi,List.getElem?_drop]
   show _=j? (S[t].getD (W+i) 0)
   rw[Yb,Yc (by omega)];rfl
  ·rw[List.getElem?_eq_none_iff.mpr (by rw[Za];omega),List.getElem?_eq_none_iff.mpr (by rw[aQ];omega)]
 ·rw[List.getElem?_eq_none_iff.mpr (by omega),List.getElem?_eq_none_iff.mpr (by rw[Yg];omega)];rfl
theorem Co {p W k:Nat}{S:List (List Int)}(hS:∀l∈S,Rw p (W+k) l):rowsOf S.length k (λt=>n_ W (S.getD t []))=S.map (n_ W):=by
 refine Ze λt=>?_
 unfold rowsOf;rw[Ye,Ye];by_cases ht:t<S.length
 ·rw[Ys ht,Yc ht]
  show j? (fj k (n_ W (S.getD t [])))=j? (n_ W S[t])
  have e:S.getD t []=S[t]:=by rw[Yb,Yc ht];rfl
  have hl:=(hS _ (Yz ht)).1;rw[e];congr 1
  funext i
  by_cases hi:i<k
  ·exact cH hi
  ·rw[dj (by omega)]
   show 0=S[t].getD (W+i) 0
   rw[Yb,List.getElem?_eq_none_iff.mpr (by omega)];rfl
 ·rw[List.getElem?_eq_none_iff.mpr (by rw[Yg];omega),List.getElem?_eq_none_iff.mpr (by omega)];rfl
theorem Nk {p W k:Nat}{S:List (List Int)}(hS:∀l∈S,Rw p (W+k) l){t i:Nat}(ht:t<S.length)(hi:i<k):0<=n_ W (S.getD t []) i/\n_ W (S.getD t []) i<(p:Int):=by
 have e:S.getD t []=S[t]:=by rw[Yb,Yc ht];rfl
 have hl:=hS _ (Yz ht);rw[e];have hg:S[t][W+i]?=j? (S[t].getD (W+i) 0):=by rw[Yb,Yc (by rw[hl.1];omega)];rfl
 exact hl.2 _ (Yw hg)
theorem QF {p:Int}{n:Nat}{x:Vc}{A B:Nat->Vc}{j:Nat}(h:∀i,i<n->p ∣ A i j-B i j):p ∣ sm n x A j-sm n x B j:=by
 induction n with
 | zero=>exact⟨0,by show(0:Int)-0=p*0;omega⟩
 | succ n ih=>
  obtain⟨a,ha⟩:=ih λi hi=>h i (by omega)
  obtain⟨b,hb⟩:=h n (by omega)
  refine⟨a+x n*b,?_⟩
  show sm n x A j+x n*A n j-(sm n x B j+x n*B n j)=_
  grind
section
variable {R:Type} [Lean.Grind.CommRing R]
structure K2 (n p:Nat)(el:Vc->R)(ip:R)(c:Nat->Nat->Vc):Prop where
 sE:nM n el
 sub:c_ (Of el)
 mul:∀i j,i<n->j<n->el (un i)*el (un j)=el (c i j)
 inv:nt R p*ip=1
structure MulOk (n p:Nat)(el:Vc->R)(ip:R)(d m:Nat)(N:Nat->Vc):Prop where
 le:m<=50
 oZ:∀t i,t<m->i<n->0<=N t i/\N t i<(p:Int)
 nz:∀t,t<m->∃i,i<n/\N t i≠0
 mlt:∀t,t<m->BR (Of el) (nt R p) (p ^ d) (ip*el (N t))
 all:∀x,BR (Of el) (nt R p) (p ^ d) (ip*el x)->∃v z:Vc,iy (rowsOf m n N) v/\∀i,i<n->x i=v i+(p:Int)*z i
 ge:n<=p ^ d
variable {n p d:Nat} {el:Vc->R} {ip:R} {c:Nat->Nat->Vc}
theorem K3 (hp:p∈PR)(G:K2 n p el ip c){told:Nat->Vc}(ht:∀i,i<n->Cp (Of el) (nt R p) (el (told i)) (el (un i) ^ (p ^ d))){m0:Nat}{N:Nat->Vc}(k1:∀t,t<m0->∀j,j<n->(p:Int) ∣ sm n (N t) told j)
  (k2:∀x:Vc,(∀j,j<n->(p:Int) ∣ sm n x told j)->∃v z:Vc,iy (rowsOf m0 n N) v/\∀i,i<n->x i=v i+(p:Int)*z i) {x:Vc} (x0:∀j,n<=j->x j=0):Gq (rowsOf m0 n N) ((p:Int) ^ 1) n x↔m8 (Of el) (nt R p) (p ^ d) (el x):=by
 have e1:(p:Int) ^ 1=(p:Int):=by rw[Yy,Y9,Zk]
 have hq:1<=p ^ d:=Zu (qk hp);rw[e1];constructor
 ·rintro⟨_,u,z,hu,e⟩
  have iu:m8 (Of el) (nt R p) (p ^ d) (el u):=by
   clear e;induction hu with
   | zero=>rw[G.sE.zero];exact .zero G.sub hq
   | @add r v a hr _ ih=>
    obtain⟨t,ht',rfl⟩:=cY.mp hr;rw[G.sE.jq];refine m8.add G.sub hp (m8.mul G.sub ?_ (G.sub.zc a)) ih
    rw[G.sE.sup _ (N t) λj hj=>cH hj]
    exact(G.sE.idl G.sub hp ht _).mpr (k1 t ht')
  have e2:el x=zc R (p:Int)*el z+el u:=by
   rw[<- G.sE.jq];exact G.sE.sup _ _ λj _=>by rw[e j];omega
  rw[e2,cQ];exact(m8.own G.sub hq (G.sub.nt p) ⟨z,rfl⟩).add G.sub hp iu
 ·intro h
  obtain⟨v,z,hv,e⟩:=k2 x ((G.sE.idl G.sub hp ht x).mp h);have v0:∀j,n<=j->v j=0:=λj hj=>hv.w_ λr hr=>by
   obtain⟨t,_,rfl⟩:=cY.mp hr;exact dj hj
  exact⟨x0,v,fj n z,hv,λj=>by
   by_cases cj:j<n
   ·rw[cH cj];exact e j cj
   ·rw[dj (by omega),x0 j (by omega),v0 j (by omega)];omega⟩
theorem K4 (hp:p∈PR)(G:K2 n p el ip c)(hge:n<=p ^ d){told:Nat->Vc}(ht:∀i,i<n->Cp (Of el) (nt R p) (el (told i)) (el (un i) ^ (p ^ d)))(k2:∀x:Vc,(∀j,j<n->(p:Int) ∣ sm n x told j)->∃z:Vc,∀i,i<n->x i=(p:Int)*z i)(N:Nat->Vc):MulOk n p el ip d 0 N:=by
 refine⟨by decide,λt i h=>by omega,λt h=>by omega,λt h=>by omega,λx hx=>?_,hge⟩
 have h1:=hx.2 _ (m8.own G.sub (Zu (qk hp)) (G.sub.nt p) G.sub.one);have inv:=G.inv;rw[show ip*el x*(nt R p*1)=el x by grind] at h1
 obtain⟨z,hz⟩:=k2 x ((G.sE.idl G.sub hp ht x).mp h1);exact⟨_,z,.zero,λi hi=>by rw[hz i hi];omega⟩
end
theorem Oz {r c:Nat}{A:Nat->Vc}(h:r<=100)(k:c<=100):GO 2 (mE r c A):=.vec (by rw[Ya,Yg];exact h) λe he=>by
 obtain⟨i,_,rfl⟩:=List.mem_map.mp he;exact Oq k
theorem QG {n j:Nat}{u v:Vc}(h:∀k,k<n->u (n*j+k)=v k):lv (n*j) u++lv n v=lv (n*(j+1)) u:=by
 refine Ze λq=>?_
 have e:n*(j+1)=n*j+n:=Wz n j;by_cases c1:q<n*j
 ·rw[Y3 (by rw[aQ];exact c1),cE c1,cE (by omega)]
 ·rw[Y5 (by rw[aQ];omega),aQ]
  by_cases c2:q<n*j+n
  ·rw[cE (by omega),cE (by omega),<- h (q-n*j) (by omega),show n*j+(q-n*j)=q by omega]
  ·rw[List.getElem?_eq_none_iff.mpr (by rw[aQ];omega),List.getElem?_eq_none_iff.mpr (by rw[aQ];omega)]
inductive K5 (K:bM)(Pp:o?)(vs:List V)(H:Hp)(Q:VK)(xF:XK):Prop where
 | mk (n p:Nat) (R:Type) (_:Lean.Grind.CommRing R) (el:Vc->R) (ip:R) (c:Nat->Nat->Vc) (t:V) (u9:vs=[t,.int (p:Int)]) (u_:p∈PR) (vc:Rep (del H Pp) Any t (tE n n n c)) (ve:1<=n) (vf:n<=6) (vg:(∀i j k,i<n->j<n->k<n->Bd 60000 (c i j k))) (xG:K2 n p el ip c) (zx:gK i8 Pp H) (A6:∀(d m:Nat) (N:Nat->Vc) r H',cL H Pp H'->gK i8 Pp H'->MulOk n p el ip d m N->Rep (del H' Pp) (dG H) r (mE m n N)->Q r H')
section
theorem xO {aE:o?}(B:iw mg)(K6:b9 P w K mg base 4 "raised" yw (Ck K))(Cq:b9 P w K mg base 2 "kernel" ["rows","p"] Cb)(mK:b9 P w K mg base 8 "triangular" G5 (KW K aE))(kJ:b9 P w K mg base 1 "coordinates" G6 (xK K))(lG:b9 P w K mg base 1 "summed" Au (sQ K))(F:Src K mg "multipliers" iR yw):b9 P w K mg base 9 "multipliers" yw (K5 K aE):=by
 refine F.ok cX (λvs H Q E h=>?_) (λf cdv A outer s H vs Q E hr h=>?_)
 ·obtain⟨n,p,R,_,el,ip,c,t,rfl,_⟩:=h;rfl
 obtain⟨n,p,R,_,el,ip,c,t,rfl,hp,rt,hn1,hn,bc,G,tq,qq⟩:=h;have pp:=cP hp;obtain⟨lt,us,rfl,hlt,_,C⟩:=id rt.cf;have hlt':=(cD hlt).2;refine⟨_,ai (aC (i:=2) cX.nd rfl (z? rfl) (aH Cq hr (af (aH K6 hr (af (pv 0) (af (pv 1) ah))) (af (pv 1) ah))))
  (ai (dQ (a_ (rB (K:=K) rfl hr.units) (pv 2) (aZ ah) (bG _))
   (av (aM (aZ ah)))
   (b8))
  (ai (aC (i:=3) cX.nd rfl (z? rfl) (aH mK hr (af (pv 2) (af (pv 1) (af ak ah)))))
  (ai (aC (i:=4) cX.nd rfl (z? rfl) (aZ ah))
  (ai (bZ D? rfl (bE (K:=K) rfl (pv 0)) (aA (i:=5) cX.nd rfl (z? rfl))
   (ai (aC (i:=6) cX.nd rfl (z? rfl) (aZ ah))
   (ai (bZ D? rfl (bE (K:=K) rfl (pv 3)) (aA (i:=7) cX.nd rfl (z? rfl))
    (av (aC (i:=6) cX.nd rfl (z? rfl) (au eL (pv 6) (bY (aG (N:=G7) (sl:=[q?,j? 1]) (ao iR) SV rfl rfl (by decide +kernel)) rfl (bE (K:=K) rfl (aH kJ hr (af (pv 3) (af (aH lG hr (af (pv 7) (af (pv 5) ah))) ah)))) (λ_ _ _ _ _=>(aA (i:=0) (Yk_ G7) rfl (z? rfl))) (λ_ _ _ _ _=>aR) (λ_ _ _ _ _=>(au bD (pv 0) (pv 1))))))))
   (av (d9 (mW R? F! G! c8 (pv 4) (af (pv 6) ah)))))))
  (av (aM (aH Cq hr (af (pv 4) (af (pv 1) ah))))))))),?_⟩
 walk_at "rd"
 have rtH:Rep H Any (.ref lt) (tE n n n c):=rt.same (fE _ _);refine⟨n,p,.ref lt,c,rfl,rtH,hn1,by omega,by omega,by omega,λi j k hi hj hk=>(bc i j k hi hj hk).mono (by decide),λk1 r1 H1 hge g1 Tg=>?_⟩
 have lR:((Yj n).map λi=>lv n (Hg n c p k1 i)).length=n:=by rw[Ya,Yg]
 refine⟨_,rfl,p,hp,n,r1,(Yj n).map λi=>lv n (Hg n c p k1 i),rfl,by rw[<- AK];exact Tg.any,by rw[lR];exact hn1,by rw[lR];omega,by omega,λa ha=>?_,λS r2 H2 g2 hS lS nzS kS ZO=>?_⟩
 ·obtain⟨i,_,rfl⟩:=List.mem_map.mp ha
  refine⟨aQ _ _,λx hx=>?_⟩
  obtain⟨j,_,rfl⟩:=List.mem_map.mp hx;exact vO (by omega) k1
 rw[lR] at hS nzS kS;obtain⟨km1,WA⟩:=Cn hp (W:=n) (k:=n) (A:=Hg n c p k1) (λi j _ _=>vO (by omega) k1) hS kS
 rw[F3 hS] at ZO;rw[<- Co hS] at WA;have ht:=λi (_:i<n)=>K1 hp G.sE G.sub G.mul i k1
 have WB:∀t,t<S.length->∀j,j<n->(p:Int) ∣ sm n (n_ n (S.getD t [])) (Hg n c p k1) j:=λt ht'=>km1 _ (by rw[Yb,Yc ht'];exact Yz ht')
 have idk:=λ{x:Vc} x0=>K3 hp G ht WB WA (x:=x) x0
 have g12:=g1.trans g2;refine⟨_,rfl,aT rfl,λpe Na=>?_⟩
 have k3:=aB Na (.lst []);have Ou:(L2.upd H2 pe (.lst [])) pe=j? (.lst []):=ay;have Om:=g12.trans k3;generalize L2.upd H2 pe (.lst [])=H3 at k3 Ou Om;have LV:=ZO.same k3;have tq1:=tq.same g1;have HR:=tq.same Om;obtain⟨ps1,hP1,_⟩:=id tq1;obtain⟨ps3,Th,_⟩:=id HR;have KS:Rep H3 Any (.ref pe) (.vec []):=.vec Ou trivial rfl λi v e h=>by simp at h
 refine N4 LV KS (Oz (by omega) (by omega)) (.vec (n:=1) (by decide) λe he=>by simp at he) (by decide) (by decide) (λe=>?_) (λe=>?_)
 ·have s0:S.length=0:=by
   unfold mE kC at e;injection e with e
   have:=Je W1 e
   rw[Ya,Yg] at this;exact this
  refine⟨_,rfl,ko ⟨aT rfl,λp4 n4=>?_⟩⟩
  have k4:=aB n4 (.lst []);refine qq k1 0 (λ_ _=>0) _ _ (cL.of (Om.trans k4)) (HR.same k4) (K4 hp G hge ht (λx hx=>?_) _) ?_
  ·obtain⟨v,z,hv,ev⟩:=WA x hx
   rw[s0] at hv;have v0:∀j,v j=0:=λj=>hv.w_ λr hr=>by
    obtain⟨t,ht,_⟩:=cY.mp hr;omega
   exact⟨z,λi hi=>by rw[ev i hi,v0 i];omega⟩
  ·exact Rep.AJ (H1:=H3) (.vec ay (show H3 p4=q? from n4) rfl λi v e h=>by simp at h) Th λb hb=>Om.free hb
 ·have s1:1<=S.length:=by
   rcases Nat.eq_zero_or_pos S.length with y|y
   ·exact Jg (by unfold mE kC;rw[y];rfl) e
   ·exact y
  refine⟨_,rfl,jG ?_⟩
  refine⟨_,rfl,_,rfl,S.length,n,1,p,r2,λt=>n_ n (S.getD t []),rfl,hp,Rep.any (Rep.AJ (H0:=H1) LV hP1 λb hb=>hb),hn1,by omega,s1,by omega,Yd 1,by decide,HR,λVm sV r4 H4 n4 QB UD pwV rV gqV Qz=>?_⟩
  obtain⟨ps4,hP4,_⟩:=id QB;have UE:cL H aE H4:=(cL.of Om).trans n4;have WC:Rep H4 Any (.ref lt) (tE n n n c):=(rt.same UE.del).same (fE _ _);have ZP:Rep H4 Any r4 (mE n n Vm):=Qz.any.same (fE _ _);clear WC C hlt hlt';have WC:Rep H4 Any (.ref lt) (tE n n n c):=(rt.same UE.del).same (fE _ _);obtain⟨lt',us,elt,hlt,_,C⟩:=id WC.cf;cases elt;obtain⟨la,vs4,rfl,hla,_,CI⟩:=id ZP.cf;have p1:(p:Int) ^ 1=(p:Int):=by rw[Yy,Y9,Zk]
  have bV:∀i j,i<n->j<n->Bd 6 (Vm i j):=λi j hi hj=>by
   have:=rV i j hi hj
   rw[p1] at this;show Zo _<2 ^ 6
   omega
  have hI:∀x:Vc,(∀j,n<=j->x j=0)->(gM n Vm x↔m8 (Of el) (nt R p) (p ^ k1) (el x)):=λx x0=>(gqV x).symm.trans (idk x0)
  have htx:∀i,∃ti:Nat->Vc,∀j,i<n->j<n->∀k,fj n (λk=>sm n (Vm j) (c i) k) k=sm n (ti j) Vm k:=λi=>by
   refine Classical.axiomOfChoice (r:=λj (t:Vc)=>i<n->j<n->∀k,fj n (λk=>sm n (Vm j) (c i) k) k=sm n t Vm k) λj=>?_
   by_cases hi:i<n
   ·by_cases hj:j<n
    ·have h1:=(hI (Vm j) λk hk=>UD.jB j hj k (by omega)).mp (.row hj)
     have h2:=h1.mul G.sub (G.sE.JP i);rw[G.sE.Ak G.mul hi,G.sE.sup (λk=>sm n (Vm j) (c i) k) (fj n λk=>sm n (Vm j) (c i) k) λk hk=>(cH hk).symm] at h2
     obtain⟨t,ht⟩:=(hI _ λk hk=>dj hk).mpr h2
     exact⟨t,λ_ _=>ht⟩
    ·exact⟨λ_=>0,λ_ h=>Jg h hj⟩
   ·exact⟨λ_=>0,λh=>Jg h hi⟩
  obtain⟨tt,htt⟩:=Classical.axiomOfChoice htx;have QH:∀i j,i<n->j<n->∀k,k<n->sm n (Vm j) (c i) k=sm n (tt i j) Vm k:=λi j hi hj k hk=>by rw[<- htt i j hi hj k,cH hk]
  have btt:∀i j,i<n->j<n->∀k,k<n->Bd 100000 (tt i j k):=λi j hi hj k hk=>by
   refine(dB.bnd (b:=60009) UD bV (λq hq=>?_) k hk).mono ?_
   ·rw[<- QH i j hi hj q hq]
    exact(xN (k:=3) (by omega) (λa ha=>bV j a hj ha) λa ha=>bc i a q hi ha hq).mono (by decide)
   ·have:7*n<=7*6:=Zg _ hn
    omega
  have mlt:=λx=>G.sE.mlt G.sub hp G.mul UD hI QH G.inv x
  refine⟨aT rfl,λrp WD=>?_⟩
  have k5:=aB WD (.lst []);have ZQ:(L2.upd H4 rp (.lst [])) rp=j? (.lst []):=ay;generalize L2.upd H4 rp (.lst [])=H5 at k5 ZQ;have nn:n*n<=6*6:=Zi hn hn;refine⟨_,rfl,lt,rfl,⟨_,aO.of (k5 _ _ hlt)⟩,fZ (xs:=us) (λi σ H6=>aF H4 H6/\∃(ys:List V) (o1 o2 o3:Option V),σ=[Rq lt,Iq (p),j? r2,Rq la,Rq rp,o1,o2,o3]/\H6 rp=j? (.lst ys)/\Cf H6 (Off H4 rp) ys i λi=>rE (n*n) λq=>tt i (q / n) (q % n) % (p:Int))
   ⟨k5,[],_,_,_,rfl,ZQ,.nil⟩ (λi σ H6 _ h=>aO.of (h.1 _ _ hlt)) ?_ ?_⟩
  ·rintro i vx σ H6 ig ⟨g6,ys,o1,o2,o3,rfl,e6,Cy⟩
   obtain⟨hi,ri⟩:=C.get ig;refine⟨aT rfl,λr0 n0=>?_⟩
   have k7:=aB n0 (.lst []);have ZR:(L2.upd H6 r0 (.lst [])) r0=j? (.lst []):=ay;generalize L2.upd H6 r0 (.lst [])=H7 at k7 ZR;have g7:=g6.trans k7;refine⟨_,rfl,la,rfl,⟨_,aO.of (g7 _ _ hla)⟩,fZ (xs:=vs4) (λj σ H8=>aF H7 H8/\∃(ra:o?) (o:Option V),σ=[Rq lt,Iq (p),j? r2,Rq la,Rq rp,j? vx,Rq ra,o]/\H8 ra=j? (.lst ((lv (n*j) λq=>tt i (q / n) (q % n) % (p:Int)).map V.int))/\H6 ra=q?)
    ⟨aF.refl _,r0,_,rfl,by rw[Nat.mul_zero];exact ZR,n0⟩ (λj σ H8 _ h=>aO.of ((g7.trans h.1) _ _ hla)) ?_ ?_⟩
   ·rintro j vy σ H8 AB ⟨g8,ra,o,rfl,e8,n8⟩
    obtain⟨hj,rj⟩:=CI.get AB;have WE:=g7.trans g8;refine⟨_,rfl,_,rfl,_,rfl,_,rfl,n,n,vy,vx,Vm j,c i,rfl,rj.same WE,ri.same WE,hn1,by omega,by omega,λa ha=>(bV j a hj ha).mono (by decide),λa b ha hb=>(bc i a b hi ha hb).mono (by decide),λr9 H9 g9 VZ=>?_⟩
    refine⟨n,.ref la,r9,Vm,_,tt i j,rfl,ZP.same (WE.trans g9),VZ.any,by omega,UD,QH i j hi hj,btt i j hi hj,λa b ha hb=>(bV a b ha hb).mono (by decide),λr10 UG g10 Nl=>?_⟩
    obtain⟨l10,rfl,ZS,_⟩:=cS Nl;refine⟨l10,rfl,⟨_,aO.of ZS⟩,λD hD=>?_⟩
    refine nL (λk=>.num (tt i j k % (p:Int))) (n:=n) (by rw[Ya,aQ]) ZS hD (by omega) (λk vz UH Q2 hk Ti Tj q2=>?_) λUH Ti QI=>?_
    ·obtain⟨y1,hy1,rfl⟩:=aS Tj
     rw[cE hk] at hy1;cases hy1;refine⟨_,rfl,_,rfl,_,_,rfl,rfl,(show(p:Int)≠0 by omega),?_⟩
     show Q2 (V.int ((tt i j k).fmod (p:Int))) UH
     rw[Af];exact q2 _ UH (aF.refl _) (.num _)
    ·obtain⟨l11,e11,h11,_⟩:=cS QI
     cases e11;have QJ:=(g9.trans g10).trans Ti;have ZT:n*j+n<=n*n:=by
      have:=Zg n (show j+1<=n by omega)
      rw[Wz] at this;exact this
     refine⟨ra,D,_,_,rfl,rfl,QJ _ _ e8,h11,by rw[Ya,Ya,aQ,aQ,C?];omega,λp12 UI=>?_⟩
     have WG:=aB UI (.lst ((lv (n*j) λq=>tt i (q / n) (q % n) % (p:Int)).map V.int++(lv n λk=>tt i j k % (p:Int)).map V.int))
     refine⟨(g8.trans QJ).trans WG,p12,_,rfl,?_,?_⟩
     ·rw[ay,<- Yq,QG λk hk=>?_]
      show tt i ((n*j+k) / n) ((n*j+k) % n) % (p:Int)=_
      rw[Nat.mul_add_div (by omega),Nat.div_eq_of_lt hk,Nat.mul_add_mod,Z4 hk,Wy]
     ·exact(k7.trans (g8.trans QJ)).free UI
   ·rintro σ H8 ⟨g8,ra,o,rfl,e8,n8⟩
    rw[CI.len] at e8;have ZU:=(k7.trans g8) _ _ e6;refine⟨_,rfl,.inl ⟨rfl,_,aO.of ZU⟩,_,rfl,rp,_,_,rfl,rfl,ZU,by rw[Cy.len,C?];omega,?_⟩
    have hne:ra≠rp:=λz=>by rw[z,e6] at n8;cases n8
    exact⟨(g7.trans g8).aX WD _,_,_,_,_,rfl,ay,((Cy.same (k7.trans g8)).push (nK e8 ⟨g6.free n8,hne⟩)).upd⟩
  ·rintro σ H6 ⟨g6,ys,o1,o2,o3,rfl,e6,Cy⟩
   rw[C.len] at Cy;have WH:Rep H6 (dG H4) (.ref rp) (mE n (n*n) λi q=>tt i (q / n) (q % n) % (p:Int)):=Cy.DI.rep e6 WD
   have Tn:∀i q,i<n->q<n*n->0<=tt i (q / n) (q % n) % (p:Int)/\tt i (q / n) (q % n) % (p:Int)<(p:Int):=λi q _ _=>⟨Zj _ (by omega),Zf _ (by omega)⟩
   have WI:((Yj n).map λi=>lv (n*n) λq=>tt i (q / n) (q % n) % (p:Int)).length=n:=by rw[Ya,Yg]
   refine⟨_,rfl,_,rfl,p,hp,n*n,.ref rp,(Yj n).map λi=>lv (n*n) λq=>tt i (q / n) (q % n) % (p:Int),rfl,by rw[<- AK n (n*n) λi q=>tt i (q / n) (q % n) % (p:Int)];exact WH.any,by rw[WI];exact hn1,by rw[WI];omega,by omega,λa ha=>?_,λS' r7 H7 g7 hS' lS' ZV ZW HS=>?_⟩
   ·obtain⟨i,hi,rfl⟩:=List.mem_map.mp ha
    refine⟨aQ _ _,λx hx=>?_⟩
    obtain⟨j,hj,rfl⟩:=List.mem_map.mp hx;exact Tn i j (List.mem_range.mp hi) (List.mem_range.mp hj)
   rw[WI] at hS' ZV ZW;obtain⟨q1,q2⟩:=Cn hp (W:=n*n) (k:=n) (A:=λi q=>tt i (q / n) (q % n) % (p:Int)) Tn hS' ZW
   rw[F3 hS'] at HS;rw[<- Co hS'] at q2;have hmod:∀(x:Vc) j m,j<n->m<n->(p:Int) ∣ sm n x (λi q=>tt i (q / n) (q % n) % (p:Int)) (n*j+m)-sm n x (λi=>tt i j) m:=λx j m hj hm=>by
    have e1:sm n x (λi=>tt i j) m=sm n x (λi _=>tt i j m) (n*j+m):=by rw[dh,dh]
    rw[e1];refine QF λi _=>?_
    show(p:Int) ∣ tt i ((n*j+m) / n) ((n*j+m) % n) % (p:Int)-tt i j m
    rw[Nat.mul_add_div (by omega),Nat.div_eq_of_lt hm,Nat.mul_add_mod,Z4 hm,Wy]
    have:=Z3 (tt i j m) (p:Int)
    exact⟨-(tt i j m / (p:Int)),by grind⟩
   have Jw:∀j m,j<n->m<n->n*j+m<n*n:=λj m hj hm=>by
    have:=Zg n (show j+1<=n by omega)
    rw[Wz] at this;omega
   obtain⟨ps4,To,_⟩:=id (QB.same g6);refine qq k1 S'.length (λt=>n_ (n*n) (S'.getD t [])) r7 H7 (UE.trans (cL.of (g6.trans g7))) ((QB.same g6).same g7) ⟨lS',λt i ht hi=>Nk hS' ht hi,λt ht=>?_,λt ht=>(mlt _).mp λj hj m hm=>?_,λx hx=>q2 x λq hq=>?_,hge⟩ (Rep.AJ HS To λb hb=>(UE.trans (cL.of g6)).fresh ⟨_,To⟩ hb)
   ·obtain⟨i,hi,h⟩:=ZV (S'.getD t []) (by rw[Yb,Yc ht];exact Yz ht)
    exact⟨i,hi,h⟩
   ·have h1:=q1 (S'.getD t []) (by rw[Yb,Yc ht];exact Yz ht) (n*j+m) (Jw j m hj hm)
    obtain⟨a,ha⟩:=h1;obtain⟨b,hb⟩:=hmod (n_ (n*n) (S'.getD t [])) j m hj hm;exact⟨a-b,by grind⟩
   ·obtain⟨a,ha⟩:=(mlt x).mpr hx (q / n) (Nat.div_lt_of_lt_mul hq) (q % n) (Nat.mod_lt _ (by omega))
    obtain⟨b,hb⟩:=hmod x (q / n) (q % n) (Nat.div_lt_of_lt_mul hq) (Nat.mod_lt _ (by omega))
    rw[Nat.div_add_mod] at hb;exact⟨a+b,by grind⟩
end
section
variable {R:Type} [Lean.Grind.CommRing R] {f:Fn} {n p d:Nat} {φ:Vc->R} {ip:R} {T:Nat->Vc}
theorem s_.table (X:Xr f n p φ ip)(L:s_ n p φ ip d T):∃c:Nat->Nat->Vc,K2 n p (iz n φ ip d T) ip c/\∀i j,i<n->j<n->∀k,k<n->FZ f n (T i) (T j) k=(p:Int) ^ d*sm n (c i j) T k:=by
 have Ba:=X.sE;have BT:=Ba.jB (d:=d) X.inv L.st;have X_:zc R ((p:Int) ^ d)*ip ^ d=1:=jM X.inv d;have hel:∀y,(φ λj=>sm n y T j)=zc R ((p:Int) ^ d)*iz n φ ip d T y:=λy=>by
  show _=zc R ((p:Int) ^ d)*(ip ^ d*φ _)
  grind
 have hT:∀i,i<n->φ (T i)=zc R ((p:Int) ^ d)*iz n φ ip d T (un i):=λi hi=>by
  rw[<- hel];exact Ba.sup _ _ λj _=>(gT hi).symm
 have hc0:∀i,∃ci:Nat->Vc,∀j,iz n φ ip d T (un i)*iz n φ ip d T (un j)=iz n φ ip d T (ci j):=λi=>Classical.axiomOfChoice λj=>L.sub.mul ⟨_,rfl⟩ ⟨_,rfl⟩
 obtain⟨c,hc⟩:=Classical.axiomOfChoice hc0;refine⟨c,⟨BT,L.sub,λi j _ _=>hc i j,X.inv⟩,λi j hi hj=>?_⟩
 have:φ (FZ f n (T i) (T j))=φ λk=>(p:Int) ^ d*sm n (c i j) T k:=by
  unfold FZ;rw[<- Ba.mul (c:=λa b=>tk f n (a+b)) X.mul,Ba.smul,hel,hT i hi,hT j hj,<- hc i j];grind
 exact Ba.inj _ _ this
structure h_ (n p:Nat)(φ:Vc->R)(ip:R)(d:Nat)(T:Nat->Vc)(s:Nat->Nat):Prop where
 lor:s_ n p φ ip d T
 pw:∀i,i<n->T i i=(p:Int) ^ s i/\s i<=d
 oZ:∀i j,i<n->j<n->0<=T i j/\T i j<=(p:Int) ^ d/\(j≠i->T i j<(p:Int) ^ d)
 dep:d+tot n s<=d*n
theorem Cr:∀n,tot n (λ_=>0)=0
 | 0=>rfl
 | n+1=>by show tot n (λ_=>0)+0=0;rw[Cr n]
theorem h_.start (X:Xr f n p φ ip):h_ n p φ ip 0 un λ_=>0:=by
 refine⟨X.start,λi _=>⟨by show(if i=i then (1:Int) else 0)=_;rw[Ja rfl,Y9],Yd 0⟩,λi j _ _=>?_,by rw[Cr];omega⟩
 show 0<=(if j=i then (1:Int) else 0)/\(if j=i then (1:Int) else 0)<=_/\(j≠i->(if j=i then (1:Int) else 0)<_)
 rw[Y9];by_cases c:j=i
 ·rw[Ja c];exact⟨by decide,by decide,λz=>Jg c z⟩
 ·rw[W9 c];exact⟨by decide,by decide,λ_=>by decide⟩
theorem Hq {m:Nat}{N:Nat->Vc}(hT:dB n T):rowsOf (n+m) n (λi j=>if i<n then (p:Int)*T i j else sm n (N (i-n)) T j)=(Yj n).map (λi j=>(p:Int)*T i j)++(rowsOf m n N).map λr j=>sm n r T j:=by
 have T0:∀a:Vc,∀k,n<=k->sm n a T k=0:=λa k hk=>jc (q:=0) λi hi=>hT.jB i hi k (by omega)
 refine Ze λt=>?_
 unfold rowsOf;rw[Ye];by_cases h1:t<n
 ·rw[Y3 (by rw[Ya,Yg];exact h1),Ye,Ys h1,Ys (by omega)]
  show j? (fj n _)=j? _
  congr 1
  funext j
  by_cases c:j<n
  ·rw[cH c];exact Ja h1
  ·rw[dj (by omega)];show 0=(p:Int)*T t j;rw[hT.jB t h1 j (by omega)];omega
 ·rw[Y5 (by rw[Ya,Yg];omega),Ya,Yg,Ye,Ye]
  by_cases h2:t<n+m
  ·rw[Ys h2,Ys (by omega)]
   show j? (fj n _)=j? _
   congr 1
   funext j
   show _=sm n (fj n (N (t-n))) T j
   rw[cW (d':=N (t-n)) (λi hi=>cH hi) λi _=>rfl]
   by_cases c:j<n
   ·rw[cH c];exact W9 h1
   ·rw[dj (by omega),T0 _ j (by omega)]
  ·rw[List.getElem?_eq_none_iff.mpr (by rw[Yg];omega),List.getElem?_eq_none_iff.mpr (by rw[Yg];omega)];rfl
theorem h_.next (X:Xr f n p φ ip)(hp:p∈PR){s:Nat->Nat}(G:h_ n p φ ip d T s){k m:Nat}{N:Nat->Vc}(M:MulOk n p (iz n φ ip d T) ip k m N)(hm:1<=m){T':Nat->Vc}{s':Nat->Nat}(st:dB n T')(pw:∀i,i<n->T' i i=(p:Int) ^ s' i/\s' i<=d+1)(oZ:∀i j,i<n->j<n->0<=T' i j/\T' i j<=(p:Int) ^ (d+1)/\(j≠i->T' i j<(p:Int) ^ (d+1)))
  (hG:∀v,Gq (rowsOf (n+m) n (λi j=>if i<n then (p:Int)*T i j else sm n (N (i-n)) T j)) ((p:Int) ^ (d+1)) n v↔gM n T' v):h_ n p φ ip (d+1) T' s':=by
 have hT:=G.lor.st;have BT:=X.sE.jB (d:=d) X.inv hT;have pp:=cP hp;have T0:∀a:Vc,∀k,n<=k->sm n a T k=0:=λa k hk=>jc (q:=0) λi hi=>hT.jB i hi k (by omega)
 rw[Hq hT] at hG;have L':s_ n p φ ip (d+1) T':=s_.next X.sE hp X.inv G.lor (k:=k) (N:=rowsOf m n N) st (λr hr=>by
   obtain⟨t,ht,rfl⟩:=cY.mp hr;rw[BT.sup (fj n (N t)) (N t) λj hj=>cH hj]
   exact M.mlt t ht) M.all hG
 obtain⟨i0,hi0,nz⟩:=M.nz 0 hm;have r0:=M.oZ 0 i0 hm hi0;have hgr:=dB.grow (p:=p) (by omega) hT st (s:=s) (s':=s') (λi hi=>(G.pw i hi).1) (λi hi=>(pw i hi).1) (λi hi=>(hG _).mp (Gq.mem (List.mem_append.mpr (.inl (List.mem_map.mpr ⟨i,List.mem_range.mpr hi,rfl⟩))) λj hj=>by show(p:Int)*T i j=0;rw[hT.jB i hi j (by omega)];omega)) (r:=fj n (N 0))
  ((hG _).mp (Gq.mem (List.mem_append.mpr (.inr (List.mem_map.mpr ⟨_,cY.mpr ⟨0,hm,rfl⟩,rfl⟩))) λj hj=>T0 _ j hj)) (k:=i0) hi0 (λhd=>by
   rw[cH hi0] at hd;have:=Int.le_of_dvd (by omega) hd
   omega)
 have dep:=G.dep;exact⟨L',pw,oZ,by rw[Wg];omega⟩
end
inductive F4 (K:bM)(Pp:o?)(vs:List V)(H:Hp)(Q:VK)(xF:XK):Prop where
 | mk (a:o?) (fl:List Int) (n p z:Nat) (u:Int) (u9:vs=[.ref a,.int (p:Int)]) (u_:p∈PR) (vc:del H Pp a=j? (.lst (fl.map V.int))) (ve:fl.length=n+1) (vf:1<=n) (vg:n<=6) (xG:L2.dM fl) (zx:fY 4990 fl) (A6:(det n λi j=>rr (aq fl) n (aq (dl fl)) (dl fl).length i j)=(p:Int) ^ z*u) (Eb:¬ (p:Int) ∣ u) (vh:z<=24) (B_:gK i8 Pp H) (KG:∀(R:Type) (_:Lean.Grind.CommRing R) (φ:Vc->R) (ip:R) (d k:Nat) (T:Nat->Vc) (s:Nat->Nat) r t H',cL H Pp H'->gK i8 Pp H'->Xr (aq fl) n p φ ip->h_ n p φ ip d T s->MulOk n p (iz n φ ip d T) ip k 0 (λ_ _=>0)->d<=12->H t=q?->del H' Pp t=j? (.tup [r,.int (d:Int)])->Rep (del H' Pp) (dG H) r (mE n n T)->Q (.ref t) H')
section
theorem K7 {aE:o?}(B:iw mg)(jU:b9 P w K mg base 1 "unit_row" As AF)(jW:b9 P w K mg base 1 "number_power" ["k","n"] wZ)(xP:b9 P w K mg base 4 "table_of" DX (F0 K))(pR:b9 P w K mg base 9 "multipliers" yw (K5 K aE))(mK:b9 P w K mg base 8 "triangular" G5 (KW K aE))(lG:b9 P w K mg base 1 "summed" Au (sQ K))(F:Src K mg "grown" oU j8):b9 P w K mg base 10 "grown" j8 (F4 K aE):=by
 refine F.ok gX (λvs H Q E h=>?_) (λfa cdv A outer s H vs Q E hr h=>?_)
 ·obtain⟨a,fl,n,p,z,u,rfl,_⟩:=h;rfl
 obtain⟨a,fl,n,p,z,u,rfl,hp,ha,lf,hn1,hn,mf,bf,hD,hu,hz,tq,qq⟩:=h;have pp:=cP hp;have ha':=(cD ha).2;have hf:=xH lf mf;obtain⟨ip,X⟩:=SQ (p:=p) hf hn1 (by omega)
 generalize LR hf hn1=φ at X;have hg:∀m,m<n->aq (dl fl) m=((m+1:Nat):Int)*aq fl (m+1):=λm _=>vG fl m
 have hD':(det n λa c=>bw n λk=>aq (dl fl) k*tk (aq fl) n (k+a) c)=(p:Int) ^ z*u:=by
  rw[<- hD];refine b_ λi j _ _=>?_
  unfold rr;rw[Ed,lf];rfl
 have deep:∀ {d:Nat} {T:Nat->Vc} {s:Nat->Nat},h_ n p φ ip d T s->d<=12:=λ{d T s} G=>by
  have h1:=s_.le X hf hn1 (by omega) G.lor hg (s:=s) (λi hi=>(G.pw i hi).1) hD' hu
  have h2:=G.dep;omega
 have bf':∀j,Bd 5000 (aq fl j):=λj=>(bf.aq j).mono (by decide)
 have turn:∀ {d:Nat} {T:Nat->Vc} {s:Nat->Nat} (G:h_ n p φ ip d T s),∃c:Nat->Nat->Vc,K2 n p (iz n φ ip d T) ip c/\(∀i j,i<n->j<n->∀k,k<n->FZ (aq fl) n (T i) (T j) k=(p:Int) ^ d*sm n (c i j) T k)/\(∀i j,i<n->j<n->Bd 200 (T i j))/\∀i j k,i<n->j<n->k<n->Bd 60000 (c i j k):=λ{d T s} G=>by
  obtain⟨c,h1,h2⟩:=s_.table X G.lor;have hd:=deep G;have bT:∀i j,i<n->j<n->Bd 200 (T i j):=λi j hi hj=>by
   have:=G.oZ i j hi hj
   exact Bd.le (y:=(p:Int) ^ d) (by omega) (zB hp (by omega))
  refine⟨c,h1,h2,bT,λi j k hi hj hk=>?_⟩
  have m0:(0:Int)<(p:Int) ^ d:=Wc (by omega)
  refine(dB.bnd (b:=50417) G.lor.st bT (λq hq=>?_) k hk).mono ?_
  ·refine Bd.le (y:=FZ (aq fl) n (T i) (T j) q) ?_ (QD hn bf' (λa ha=>bT i a hi ha) (λa ha=>bT j a hj ha) q)
   rw[h2 i j hi hj q hq,Zh];exact Nat.le_mul_of_pos_left _ (by omega)
  ·have:201*n<=201*6:=Zg _ hn
   omega
 refine⟨_,ai (aC (i:=2) gX.nd rfl (Or.inr rfl) (au bO (aJ (aN (K:=K) rfl) rfl B.len bN (af (pv 0) ah)) ak))
  (ai (aC (i:=3) gX.nd rfl (Or.inr rfl) (bY (aG (N:=["place","degree"]) (sl:=[q?,j? 2]) (ao oU) M3 rfl rfl (by decide +kernel)) rfl (bC rfl B.range (af (pv 2) ah)) (λ_ _ _ _ _=>(aA (i:=0) (Yk_ ["place","degree"]) rfl (z? rfl))) (λ_ _ _ _ _=>aR) (λ_ _ _ _ _=>(aH jU hr (af (pv 1) (af (pv 0) (af ak ah)))))))
  (ai (aC (i:=4) gX.nd rfl (z? rfl) ak)
  (ai (aC (i:=5) gX.nd rfl (z? rfl) (aH pR hr (af (aH xP hr (af (pv 0) (af (pv 3) (af ak ah)))) (af (pv 1) ah))))
  (ai (eW D? (a_ (zR (K:=K) rfl hr.units) (pv 5) (aZ ah) (bG _))
   (ai (gh (i:=6) gX.nd rfl (z? rfl) (aG (N:=["row","p"]) (sl:=[q?,j? 1]) (ao oU) M3 rfl rfl (by decide +kernel)) rfl (bE (K:=K) rfl (pv 3)) (λ_ _ _ _ _=>(aA (i:=0) (Yk_ ["row","p"]) rfl (z? rfl))) (λ_ _ _ _ _=>aR) (λ_ _ _ _ _=>(bY (aG (N:=G7) (sl:=[q?,j? 1]) _ ["row","p"] rfl rfl (by kernel_rfl)) rfl (bE (K:=K) rfl (pv 0)) (λ_ _ _ _ _=>(aA (i:=0) (Yk_ G7) rfl (z? rfl))) (λ_ _ _ _ _=>aR) (λ_ _ _ _ _=>(au aW (pv 1) (pv 0))))))
   (ai (zI (i:=4) gX.nd rfl (z? rfl) ak zK)
   (ai (aC (i:=3) gX.nd rfl (Or.inr rfl) (aH mK hr (af (au eL (pv 6) (bY (aG (N:=["numbers","lattice"]) (sl:=[q?,j? 3]) (ao oU) M3 rfl rfl (by decide +kernel)) rfl (bE (K:=K) rfl (pv 5)) (λ_ _ _ _ _=>(aA (i:=0) (Yk_ ["numbers","lattice"]) rfl (z? rfl))) (λ_ _ _ _ _=>aR) (λ_ _ _ _ _=>(aH lG hr (af (pv 0) (af (pv 1) ah)))))) (af (pv 1) (af (pv 4) ah)))))
   (av (aC (i:=5) gX.nd rfl (z? rfl) (aH pR hr (af (aH xP hr (af (pv 0) (af (pv 3) (af (aH jW hr (af (pv 1) (af (pv 4) ah))) ah)))) (af (pv 1) ah)))))))))
  (av (aM (ja (af (pv 3) (af (pv 4) ah))))))))),?_⟩
 walk_at "rd"
 refine⟨a,_,rfl,.inl (aO.of ha'),?_⟩
 rw[Ya,lf];refine⟨_,_,rfl,rfl,?_⟩
 show gE 2 (V.int (((n+1:Nat):Int)-1)) _ _ _
 rw[show((n+1:Nat):Int)-1=(n:Int) by omega]
 refine⟨_,rfl,_,rfl,by omega,by omega,λD Uy=>?_⟩
 rw[Yf];refine yt (λi=>rE n (un i)) Uy (by omega) (λi H2 Q2 hi g2 q2=>?_) λH2 g2 rr=>?_
 ·rw[Zn]
  exact⟨_,rfl,_,rfl,n,i,1,rfl,by omega,λr H3 g3 rr=>q2 _ H3 g3 rr⟩
 have Tp:=tq.same g2;obtain⟨ps,Ov,_⟩:=id tq;obtain⟨ps2,Ru,_⟩:=id Tp;obtain⟨c,AG,hc,bT,bc⟩:=turn (h_.start X);refine⟨_,rfl,_,rfl,a,fl,n,.ref D,un,c,1,rfl,aO.of (g2 _ _ ha'),lf,hn1,by omega,mf,bf.mono (by decide),rr.any,BU,λi j hi hj=>(bT i j hi hj).mono (by decide),by decide,(Bd.small (by decide) (by decide)).mono (by decide),λi j hi hj k hk=>by
  have:=hc i j hi hj k hk
  rw[Y9] at this;exact this,λi j k hi hj hk=>(bc i j k hi hj hk).mono (by decide),λr3 H3 g3 LV=>?_⟩
 refine⟨_,rfl,n,p,_,_,iz n φ ip 0 un,ip,c,r3,rfl,hp,Rep.any (Rep.AJ (H0:=H2) LV Ru λb hb=>hb),hn1,hn,bc,AG,Tp.same g3,λk0 m N r4 H4 n4 QB M Qz=>?_⟩
 have rD:Rep (del H2 aE) (dG H) (.ref D) (mE n n un):=Rep.AJ rr Ov λb hb=>hb
 have ZX:cL H2 aE H4:=(cL.of g3).trans n4;refine jI (λσ H5=>cL H aE H5/\gK i8 aE H5/\∃(lt fv:V) (T:Nat->Vc) (s:Nat->Nat) (d k m:Nat) (N:Nat->Vc) (o:Option V),σ=[Rq a,Iq (p),Iq (n),j? lt,Iq (d),j? fv,o]/\Rep (del H5 aE) (dG H) lt (mE n n T)/\Rep (del H5 aE) Any fv (mE m n N)/\h_ n p φ ip d T s/\MulOk n p (iz n φ ip d T) ip k m N)
  (λσ _=>match σ with | [_,_,_,_,j? (.int d),_,_]=>30-d.toNat|_=>0) ⟨(cL.of g2).trans ZX,QB,.ref D,r4,un,λ_=>0,0,k0,m,N,_,rfl,rD.same ZX.del,Qz.any,h_.start X,M⟩ ?_
 rintro σ H5 ⟨n5,Rp,lt,fv,T,s,d,k,m,N,o,rfl,rlt,rfv,G,M⟩;have WJ:=deep G;have m50:=M.le;refine⟨_,rfl,aT rfl,λpe Na=>?_⟩
 have k6:=aB Na (.lst []);have Ou:(L2.upd H5 pe (.lst [])) pe=j? (.lst []):=ay;generalize L2.upd H5 pe (.lst [])=H6 at k6 Ou;have n6:=n5.trans (cL.of k6);have Ow:=Rp.same k6;have ZY:cL H5 aE H6:=cL.of k6;have QK:=rlt.same ZY.del;have Tq:=rfv.same ZY.del;obtain⟨ps6,WK,_⟩:=id Ow;have KS:Rep H6 Any (.ref pe) (.vec []):=.vec Ou trivial rfl λi v e h=>by simp at h
 refine Sw (Tq.same (fE _ _)) KS (Oz (by omega) (by omega)) (.vec (n:=1) (by decide) λe he=>by simp at he) (by decide) (by decide) (λe=>?_) (λe=>?_)
 ·have s0:m=0:=by
   unfold mE kC at e;injection e with e
   have:=Je W1 e
   rw[Ya,Yg] at this;exact this
  subst s0;refine⟨_,rfl,jG ?_⟩
  refine⟨_,rfl,_,rfl,aT rfl,λt nt=>?_⟩
  have k7:=aB nt (.tup [lt,.int (d:Int)]);have ZZ:cL H6 aE _:=cL.of k7;have tP:t≠aE:=λz=>by rw[z,WK] at nt;cases nt
  refine qq _ _ φ ip d k T s lt t _ (n6.trans ZZ) (Ow.same k7) X G ⟨M.le,λt i h=>by omega,λt h=>by omega,λt h=>by omega,M.all,M.ge⟩ WJ (n6.fresh ⟨_,WK⟩ nt) (by rw[jL tP];exact ay) (QK.same ZZ.del)
 ·have m1:1<=m:=by
   rcases Nat.eq_zero_or_pos m with y|y
   ·exact Jg (by unfold mE kC;rw[y];rfl) e
   ·exact y
  refine⟨_,rfl,ko (win ?_)⟩
  obtain⟨la,us,rfl,hla,_,C⟩:=id QK.cf;obtain⟨lb,ws,rfl,hlb,_,Cw⟩:=id Tq.cf;have Tr:=(cD hla).2;have Tt:=(cD hlb).2;have bT:∀i j,i<n->j<n->Bd 200 (T i j):=λi j hi hj=>by
   have:=G.oZ i j hi hj
   exact Bd.le (y:=(p:Int) ^ d) (by omega) (zB hp (by omega))
  refine⟨_,rfl,la,rfl,⟨_,aO.of Tr⟩,λD2 yx=>?_⟩
  refine nL (λi=>rE n λj=>(p:Int)*T i j) (n:=n) C.len Tr yx (by omega) (λi vx H7 Q2 hi g7 ig q2=>?_) λH7 g7 HS=>?_
  ·obtain⟨_,ri⟩:=C.get ig
   obtain⟨lr,rfl,hlr,_⟩:=cS ri;have Nj:=g7 _ _ (cD hlr).2;refine⟨_,rfl,lr,rfl,⟨_,aO.of Nj⟩,λD3 LW=>?_⟩
   refine nL (λj=>.num ((p:Int)*T i j)) (n:=n) (by rw[Ya,aQ]) Nj LW (by omega) (λj vx H8 Q3 hj g8 ig q3=>?_) λH8 g8 rr=>q2 _ H8 g8 rr
   obtain⟨y1,hy1,rfl⟩:=aS ig;rw[cE hj] at hy1;cases hy1;exact⟨_,rfl,_,rfl,_,_,rfl,rfl,gO (by omega) (by omega),q3 _ H8 (aF.refl _) (.num _)⟩
  refine⟨_,rfl,_,_,rfl,rfl,?_⟩
  refine⟨_,rfl,_,rfl,lb,rfl,⟨_,aO.of (g7 _ _ Tt)⟩,λD3 LW=>?_⟩
  refine nL (λt=>rE n λj=>sm n (N t) T j) (n:=m) Cw.len (g7 _ _ Tt) LW (by omega) (λt vx H8 Q2 ht g8 ig q2=>?_) λH8 g8 WL=>?_
  ·obtain⟨_,rt⟩:=Cw.get ig
   refine⟨_,rfl,_,rfl,n,n,vx,.ref la,N t,T,rfl,(rt.any.same (fE _ _)).same (g7.trans g8),(QK.any.same (fE _ _)).same (g7.trans g8),hn1,by omega,by omega,λi hi=>?_,λi j hi hj=>(bT i j hi hj).mono (by decide),λr H9 g9 rr=>q2 _ H9 g9 rr⟩
   have:=M.oZ t i ht hi
   exact(Bd.small (by omega) (by omega)).mono (by decide)
  obtain⟨_,UJ,e2,h2,nD2,C2⟩:=id (HS.same g8).cf;cases e2;obtain⟨_,UK,e3,h3,nD3,C3⟩:=id WL.cf;cases e3;refine⟨D2,D3,_,_,rfl,rfl,h2,h3,by rw[C2.len,C3.len,C?];omega,λp4 Z_=>?_⟩
  have k9:=aB Z_ (.lst (UJ++UK));have e9:(L2.upd H8 p4 (.lst (UJ++UK))) p4=j? (.lst (UJ++UK)):=ay;generalize L2.upd H8 p4 (.lst (UJ++UK))=H9 at k9 e9;have Rn:=(g7.trans g8).trans k9;have rA:Rep H9 (dG H6) (.ref p4) (mE (n+m) n λi j=>if i<n then (p:Int)*T i j else sm n (N (i-n)) T j):=by
   have:=((C2.same k9).append ((C3.imp λb o h kb=>⟨h,g7.free kb⟩).same k9)).rep e9 ((g7.trans g8).free Z_)
   unfold mE;rw[xh (d:=λi=>if i<n then rE n λj=>(p:Int)*T i j else rE n λj=>sm n (N (i-n)) T j) λi _=>?_]
   ·exact this
   ·by_cases c1:i<n
    ·rw[Ja c1];exact sD λj _=>Ja c1
    ·rw[W9 c1];exact sD λj _=>W9 c1
  have tq9:=Ow.same Rn;refine⟨_,rfl,_,rfl,n+m,n,d+1,p,.ref p4,λi j=>if i<n then (p:Int)*T i j else sm n (N (i-n)) T j,rfl,hp,Rep.any (Rep.AJ (H0:=H6) rA WK λb hb=>hb),hn1,by omega,by omega,by omega,by omega,by omega,tq9,λT' s' r5 UG n10 Tu st pw oZ hG Nl=>?_⟩
  have G':=G.next X hp M m1 st pw oZ hG;have hd':=deep G';obtain⟨c',AG',hc',bT',bc'⟩:=turn G';have Tv:cL H aE UG:=(n6.trans (cL.of Rn)).trans n10;obtain⟨acB,WM,_⟩:=id Tu;refine⟨_,rfl,_,rfl,_,rfl,_,rfl,p,d+1,rfl,by omega,by omega,?_⟩
  rw[Wi];have m0:(0:Int)<(p:Int) ^ (d+1):=Wc (by omega)
  refine⟨a,fl,n,r5,T',c',(p:Int) ^ (d+1),rfl,aO.of (Tv _ _ (cD ha).1 ha'),lf,hn1,by omega,mf,bf.mono (by decide),Nl.any.same (fE _ _),st,λi j hi hj=>(bT' i j hi hj).mono (by decide),by omega,(zB hp (by omega)).mono (by decide),hc',λi j k hi hj hk=>(bc' i j k hi hj hk).mono (by decide),λr11 UH Ti QI=>?_⟩
  refine⟨_,rfl,n,p,_,_,iz n φ ip (d+1) T',ip,c',r11,rfl,hp,Rep.any (Rep.AJ (H0:=UG) QI WM λb hb=>hb),hn1,hn,bc',AG',Tu.same Ti,λk' m' N' r12 H12 UI WN M' WO=>?_⟩
  have OA:cL UG aE H12:=(cL.of Ti).trans UI;refine⟨⟨Tv.trans OA,WN,r5,r12,T',s',d+1,k',m',N',_,rfl,Rep.same (Nl.imp λb o h kb=>⟨h,(n6.trans (cL.of Rn)).fresh ⟨_,tq9.choose_spec.1⟩ kb⟩) OA.del,WO.any,G',M'⟩,?_⟩
  show 30-((d:Int)+1).toNat<30-((d:Int)).toNat
  omega
end
inductive sS (K:bM)(H:Hp):V->Bool->Prop where
 | QL {a:o?} {ns:List Int}:aO K H a (ns.map V.int)->ns.length<=1000->∀b:Bool,(b=true↔Norm ns)->sS K H (.ref a) b
 | bad {a:o?} {xs:List V} {i:Nat} {x:V} {T:String}:aO K H a xs->(∀j,j<i->∃n,xs[j]?=j? (.int n))->xs[i]?=j? x->E_ K H x T->T≠"int"->sS K H (.ref a) false
 | other {x:V} {T:String}:E_ K H x T->T≠"list"->sS K H x false
def F5 (K:bM):Sp:=λvs H Q _=>∃(x:V) (b:Bool),vs=[x]/\sS K H x b/\∀H',aF H H'->Q (.bl b) H'
section
theorem uq (B:iw mg)(qB:b9 P w K mg base 1 "is_whole" jr (uf K))(F:Src K mg "is_polynomial" jd jr):b9 P w K mg base 2 "is_polynomial" jr (F5 K):=by
 refine F.ok lB (λvs H Q E h=>?_) (λf cdv A outer s H vs Q E hr h=>?_)
 ·obtain⟨x,b,rfl,_⟩:=h;rfl
 obtain⟨x,b,rfl,QM,q⟩:=h;refine⟨_,ai (dQ (vQ (pW (aJ (lV (K:=K) rfl) rfl B.isinstance ku (af (pv 0) (af (zH (v:=.ty "list") rfl B.list lU rfl) ah)))))
   (av (aM uM))
   (b8))
  (ai (bZ D? rfl (bE (K:=K) rfl (pv 0)) (aA (i:=1) lB.nd rfl (z? rfl))
   (av (dQ (vQ (pW (aH qB hr (af (pv 1) ah))))
    (av (aM uM))
    (b8))))
  (av (aM (RN (q8 (rB (K:=K) rfl hr.units) (pv 0) (aZ ah) (bG _)) (vR (q8 qZ (bI (aI (K:=K) rfl) (pv 0) (vX pX ak) (λ_ _=>rfl)) ak (bG _))))))),?_⟩
 cases QM with
 | @QL a ns ha ln b hb=>
  refine⟨_,rfl,_,"list","list",true,rfl,.lst ha,rfl,_,rfl,jG ?_⟩
  refine⟨_,rfl,a,rfl,⟨_,ha⟩,fZ (xs:=ns.map V.int) (λi σ H2=>H2=H/\∃o,σ=[Rq a,o]) ⟨rfl,_,rfl⟩ (λi σ H2 _ h=>h.1 ▸ ha) ?_ ?_⟩
  ·rintro i x σ H2 hx ⟨rfl,o,rfl⟩
   obtain⟨n,hn,rfl⟩:=aS hx;refine⟨_,rfl,_,"int",rfl,.int n,_,rfl,jG ?_⟩
   exact⟨rfl,_,rfl⟩
  ·rintro σ H2 ⟨rfl,o,rfl⟩
   refine⟨_,rfl,aT rfl,λp1 n1=>?_⟩
   have k1:=aB n1 (.lst []);refine Vo (xs:=ns) (ys:=[]) (k1.seq ha) (aO.of ay) ⟨_,rfl,fV (λc=>?_) (λc=>?_)⟩
   ·have e:b=true:=hb.mpr (.inl (Jc c))
    rw[e] at q;exact q _ k1
   ·have hne:ns≠[]:=λz=>c (Jb z)
    refine⟨_,rfl,_,rfl,a,_,_,_,rfl,rfl,k1.seq ha,Bq hne,rfl,?_⟩
    have e:(!decide (V.int (aq ns (ns.length-1))=V.int 0))=b:=by
     cases b with
     | true=>
      have hN:=hb.mp rfl;rw[Jd λz=>hN.last hne (V.int.inj z)]
      rfl
     | false=>
      have hN:aq ns (ns.length-1)=0:=by
       refine V? λz=>?_
       exact Jg (hb.mpr (.inr z)) E?
      rw[Jb (Je V.int hN)];rfl
    rw[e];exact q _ k1
 | @bad a xs i x T ha hj hx ty hT=>
  refine⟨_,rfl,_,"list","list",true,rfl,.lst ha,rfl,_,rfl,jG ?_⟩
  have hlt:i<xs.length:=(List.getElem?_eq_some_iff.mp hx).1;refine⟨_,rfl,a,rfl,⟨_,ha⟩,fZ (xs:=xs) (λj σ H2=>j<=i/\H2=H/\∃o,σ=[Rq a,o]) ⟨Y1 _,rfl,_,rfl⟩ (λi σ H2 _ h=>h.2.1 ▸ ha) ?_ ?_⟩
  ·rintro j y σ H2 hy ⟨hji,rfl,o,rfl⟩
   by_cases e:j=i
   ·subst e
    rw[hx] at hy;obtain rfl:=M? hy
    refine⟨_,rfl,_,T,rfl,ty,_,rfl,?_⟩
    rw[Jd hT];refine ko (q _ (aF.refl _))
   ·obtain⟨n,hn⟩:=hj j (by omega)
    rw[hn] at hy;obtain rfl:=M? hy
    refine⟨_,rfl,_,"int",rfl,.int n,_,rfl,jG ?_⟩
    exact⟨by omega,rfl,_,rfl⟩
  ·rintro σ H2 ⟨hji,_⟩
   omega
 | @other x T ty hT=>
  cases ty with
  | fk=>exact⟨_,rfl,_,_,"list",false,rfl,.fk,by with_unfolding_all rfl,_,rfl,ko (q _ (aF.refl _))⟩
  | bl b=>exact⟨_,rfl,_,_,"list",false,rfl,.bl b,by with_unfolding_all rfl,_,rfl,ko (q _ (aF.refl _))⟩
  | int i=>exact⟨_,rfl,_,_,"list",false,rfl,.int i,by with_unfolding_all rfl,_,rfl,ko (q _ (aF.refl _))⟩
  | str b=>exact⟨_,rfl,_,_,"list",false,rfl,.str b,by with_unfolding_all rfl,_,rfl,ko (q _ (aF.refl _))⟩
  | lst e=>exact Jg rfl hT
  | tup e=>exact⟨_,rfl,_,_,"list",false,rfl,.tup e,by with_unfolding_all rfl,_,rfl,ko (q _ (aF.refl _))⟩
end
def Tw:List V:=PR.map λp:Nat=>V.int (p:Int)
inductive pT (K:bM)(H:Hp):V->Bool->Prop where
 | int (i:Int):pT K H (.int i) (Mi (V.int i) Tw)
 | other {x:V} {T:String}:E_ K H x T->T≠"int"->pT K H x false
theorem QN {i:Int}(h:Mi (V.int i) Tw=true):∃p:Nat,p∈PR/\i=(p:Int):=by
 unfold Mi at h;rw[List.any_eq_true] at h;obtain⟨y,hy,e⟩:=h;unfold Tw at hy;obtain⟨p,hp,rfl⟩:=List.mem_map.mp hy;refine⟨p,hp,?_⟩
 have e:((p:Int) == i)=true:=e;exact(beq_iff_eq.mp e).symm
def Tz (K:bM):Sp:=λvs H Q _=>∃(x:V) (b:Bool),vs=[x]/\pT K H x b/\Q (.bl b) H
inductive pU (K:bM)(H:Hp):V->Bool->Prop where
 | QL {a:o?} {ns:List Int}:H a=j? (.lst (ns.map V.int))->ns.length<=1000->∀b:Bool,(b=true↔L2.dM ns/\2<=ns.length/\ns.length<=13)->pU K H (.ref a) b
 | bad {a:o?} {xs:List V} {i:Nat} {x:V} {T:String}:aO K H a xs->(∀j,j<i->∃n,xs[j]?=j? (.int n))->xs[i]?=j? x->E_ K H x T->T≠"int"->pU K H (.ref a) false
 | other {x:V} {T:String}:E_ K H x T->T≠"list"->pU K H x false
def OB (K:bM):Sp:=λvs H Q _=>∃(x:V),vs=[x]/\((∃(a:o?) (ns:List Int),x=.ref a/\aO K H a (ns.map V.int)/\ns.length<=1000/\(L2.dM ns->∀H',aF H H'->Q (.bl true) H')/\(¬ L2.dM ns->∀H',aF H H'->Q (.bl false) H'))\/(sS K H x false/\∀H',aF H H'->Q (.bl false) H'))
section
theorem Cs {ia:o?}(B:iw mg)(K8:mg "PRIMES"=j? (.ref ia))(hP:∀H,j5 K H ia (PR.map λp:Nat=>V.int (p:Int)))(qB:b9 P w K mg base 1 "is_whole" jr (uf K))(F:Src K mg "is_prime" qp ["k"]):b9 P w K mg base 2 "is_prime" ["k"] (Tz K):=by
 refine F.ok B3 (λvs H Q E h=>?_) (λf cdv A outer s H vs Q E hr h=>?_)
 ·obtain⟨x,b,rfl,_⟩:=h;rfl
 obtain⟨x,b,rfl,QM,q⟩:=h;refine⟨_,av (aM (vS (aH qB hr (af (pv 0) ah)) (vR (q8 (ID (K:=K) rfl) (pv 0) (vB (v:=.ref ia) rfl K8 rfl) (by with_unfolding_all rfl))))),?_⟩
 cases QM with
 | int i=>exact⟨_,rfl,_,_,rfl,.int i,_,rfl,_,rfl,ia,_,rfl,.inr (hP H),rfl,by decide,q⟩
 | other ty hT=>
  refine⟨_,rfl,_,_,rfl,ty,_,rfl,?_⟩
  rw[Jd hT];exact q
theorem Ct (B:iw mg)(vo:b9 P w K mg base 2 "is_polynomial" jr (F5 K))(F:Src K mg "is_monic" qu jr):b9 P w K mg base 3 "is_monic" jr (OB K):=by
 refine F.ok B4 (λvs H Q E h=>?_) (λf cdv A outer s H vs Q E hr h=>?_)
 ·obtain⟨x,rfl,_⟩:=h;rfl
 obtain⟨x,rfl,h⟩:=h;refine⟨_,av (aM (vS (aH vo hr (af (pv 0) ah)) (vS (q8 (zR (K:=K) rfl hr.units) (pv 0) (aZ ah) (bG _)) (vR (q8 iW (bI (aI (K:=K) rfl) (pv 0) (vX pX ak) (λ_ _=>rfl)) ak (bG _)))))),?_⟩
 walk_at "rd"
 rcases h with ⟨a,ns,rfl,ha,ln,qt,qf⟩|⟨QM,qf⟩
 ·by_cases hN:Norm ns
  ·refine⟨.ref a,true,rfl,.QL ha ln true ⟨λ_=>hN,λ_=>rfl⟩,λH1 g1=>⟨_,rfl,ko ?_⟩⟩
   refine⟨_,rfl,aT rfl,λpe Na=>?_⟩
   have k2:=aB Na (.lst []);refine Ud (xs:=ns) (ys:=[]) (k2.seq (g1.seq ha)) (aO.of ay) ⟨_,rfl,?_⟩
   by_cases c:ns=[]
   ·refine uN c ?_
    exact qf (λm=>m.1 c) _ (g1.trans k2)
   ·refine Bk c ?_
    refine⟨_,rfl,_,rfl,a,_,_,_,rfl,rfl,k2.seq (g1.seq ha),Bq c,rfl,?_⟩
    by_cases c1:aq ns (ns.length-1)=1
    ·show Q (V.bl (decide (V.int (aq ns (ns.length-1))=V.int 1))) _
     rw[Jb (Je V.int c1)];exact qt ⟨c,c1⟩ _ (g1.trans k2)
    ·show Q (V.bl (decide (V.int (aq ns (ns.length-1))=V.int 1))) _
     rw[Jd λz=>c1 (V.int.inj z)]
     exact qf (λm=>c1 m.2) _ (g1.trans k2)
  ·refine⟨.ref a,false,rfl,.QL ha ln false ⟨λz=>(nomatch z),λz=>Jg z hN⟩,λH1 g1=>⟨_,rfl,jG ?_⟩⟩
   exact qf (λm=>hN (.inr (by rw[m.2];decide))) H1 g1
 ·exact⟨x,false,rfl,QM,λH1 g1=>⟨_,rfl,jG (qf H1 g1)⟩⟩
def TF (K:bM):Sp:=λvs H Q _=>∃(x:V) (b:Bool),vs=[x]/\pU K H x b/\∀H',aF H H'->Q (.bl b) H'
theorem pF (B:iw mg){t1:Tok}(yF:mg "MOST_DEGREE"=j? (.int 12 t1))(Ep:b9 P w K mg base 3 "is_monic" jr (OB K))(F:Src K mg "is_bounded_monic" gv jr):b9 P w K mg base 4 "is_bounded_monic" jr (TF K):=by
 refine F.ok pD (λvs H Q E h=>?_) (λf cdv A outer s H vs Q E hr h=>?_)
 ·obtain⟨x,b,rfl,_⟩:=h;rfl
 obtain⟨x,b,rfl,QM,q⟩:=h;refine⟨_,av (aM (vS (aH Ep hr (af (pv 0) ah)) (vR (Ih Ig Ig ak (aJ (aN (K:=K) rfl) rfl B.len bN (af (pv 0) ah)) (au bU (vB (v:=.int 12) rfl yF ⟨_,rfl⟩) ak))))),?_⟩
 walk_at "rd"
 cases QM with
 | @QL a ns ha ln b hb=>
  refine .inl ⟨a,ns,rfl,aO.of ha,ln,λm H1 g1=>⟨_,rfl,ko ?_⟩,λnm H1 g1=>⟨_,rfl,jG ?_⟩⟩
  ·refine⟨_,rfl,a,_,rfl,.inl (aO.of (g1 _ _ ha)),?_⟩
   rw[Ya];refine⟨_,_,rfl,rfl,_,rfl,fV (λc=>?_) (λc=>?_)⟩
   ·have c':=Jc c
    refine⟨_,_,rfl,rfl,_,_,rfl,rfl,?_⟩
    have e:decide ((ns.length:Int)<=12+1)=b:=by
     cases b with
     | true=>
      have:=(hb.mp rfl).2.2
      exact Jb (by omega)
     | false=>
      refine Jd λz=>?_
      have:=hb.mpr ⟨m,by omega,by omega⟩
      cases this
    show Q (V.bl (decide ((ns.length:Int)<=12+1))) H1
    rw[e];exact q H1 g1
   ·have e:b=false:=by
     cases b with
     | true=>
      have:=(hb.mp rfl).2.1
      exact Jg (Jb (show(2:Int)<=(ns.length:Int) by omega)) c
     | false=>rfl
    rw[e] at q;exact q H1 g1
  ·have e:b=false:=by
    cases b with
    | true=>exact Jg (hb.mp rfl).1 nm
    | false=>rfl
   rw[e] at q;exact q H1 g1
 | bad ha hj hx ty hT=>exact .inr ⟨.bad ha hj hx ty hT,λH1 g1=>⟨_,rfl,jG (q H1 g1)⟩⟩
 | other ty hT=>exact .inr ⟨.other ty hT,λH1 g1=>⟨_,rfl,jG (q H1 g1)⟩⟩
end
abbrev UL:List l?:=[.type "ValueError",.type "Exception",.type "BaseException",.type "object"]
def Rz (CN:o?)(H:Hp)(E:XK):Prop:=∀(ea:o?) (H':Hp),aF H H'->E (.ref ea) (j? CN) H'
def xQ (ns:List Int):Prop:=fY 4990 ns/\∃E:Nat,E<=9000/\(ns.length-1)*(E+5)<9000/\∀i j,i<=ns.length-1->(rr (aq ns) (ns.length-1) (aq (dl ns)) (dl ns).length i j).natAbs<=2 ^ E
def eK (ns:List Int):Int:=tg (ns.length-1)*det (ns.length-1) λi j=>rr (aq ns) (ns.length-1) (aq (dl ns)) (dl ns).length i j
theorem pT.yes {K:bM}{H:Hp}{y:V}{b:Bool}(h:pT K H y b):b=true->∃p:Nat,p∈PR/\y=.int (p:Int):=by
 cases h with
 | int i=>
  intro e;obtain⟨p,hp,rfl⟩:=QN e;exact⟨p,hp,rfl⟩
 | other _ _=>intro e;cases e
theorem pU.yes {K:bM}{H:Hp}{x:V}{b:Bool}(h:pU K H x b):b=true->∃(a:o?) (ns:List Int),x=.ref a/\H a=j? (.lst (ns.map V.int))/\L2.dM ns/\2<=ns.length/\ns.length<=13:=by
 cases h with
 | QL ha ln b hb=>
  intro e;obtain⟨h1,h2,h3⟩:=hb.mp e;exact⟨_,_,rfl,ha,h1,h2,h3⟩
 | bad=>intro e;cases e
 | other=>intro e;cases e
def F6 (K:bM)(C1 C2 C3:o?):Sp:=λvs H Q E=>∃(x y:V) (bp bf:Bool),vs=[x,y]/\pT K H y bp/\pU K H x bf/\(bp=false->Rz C1 H E)/\(bp=true->bf=false->Rz C2 H E)/\
 (bp=true->bf=true->∀(a:o?) (ns:List Int) (p:Nat),x=.ref a->H a=j? (.lst (ns.map V.int))->y=.int (p:Int)->p∈PR->L2.dM ns->2<=ns.length->ns.length<=13->xQ ns/\(eK ns=0->Rz C3 H E)/\∀v:Nat,fU (p:Int) (eK ns) v->eK ns≠0->∀H',aF H H'->Q (.int (v:Int)) H')
section
theorem yG {dH bW cU:o?}(ur:mg "NoPrime"=j? (.ref dH))(lH:PySem.W.excIn K dH UL "ValueError.__new__"=true)(jX:mg "NoPolynomial"=j? (.ref bW))(fK:PySem.W.excIn K bW UL "ValueError.__new__"=true)(qC:mg "NotPlain"=j? (.ref cU))(jY:PySem.W.excIn K cU UL "ValueError.__new__"=true)(B:iw mg)
  (Er:b9 P w K mg base 2 "is_prime" ["k"] (Tz K)) (qD:b9 P w K mg base 4 "is_bounded_monic" jr (TF K)) (fL:b9 P w K mg base 4 "discriminant" ["f"] (AA K)) (eH:b9 P w K mg base 2 "size_of_number" sG vL) (F:Src K mg "plain_size" mj j8):wV P w K mg base 5 "plain_size" j8 (F6 K dH bW cU):=by
 refine F.Vu pO (λvs H Q E h=>?_) (λf cdv A outer s H vs Q E hr h=>?_)
 ·obtain⟨x,y,bp,bf,rfl,_⟩:=h;rfl
 obtain⟨x,y,bp,bf,rfl,pa,fa,q1,q2,q3⟩:=h;refine⟨_,ai (dQ (vQ (pW (aH Er hr (af (pv 1) ah))))
   (av (sr r_ rfl rfl ur lH PySem.F.excBase_ValueError rfl PySem.F.excBase_ValueError (af zF ah)))
   (b8))
  (ai (dQ (vQ (pW (aH qD hr (af (pv 0) ah))))
   (av (sr r_ rfl rfl jX fK PySem.F.excBase_ValueError rfl PySem.F.excBase_ValueError (af zF ah)))
   (b8))
  (ai (aC (i:=2) pO.nd rfl (z? rfl) (aH eH hr (af (aH fL hr (af (pv 0) ah)) (af (pv 1) ah))))
  (ai (dQ (a_ NR (pv 2) tD (bG _))
   (av (sr r_ rfl rfl qC jY PySem.F.excBase_ValueError rfl PySem.F.excBase_ValueError (af zF ah)))
   (b8))
  (av (aM (pv 2)))))),?_⟩
 walk_at "rd"
 refine⟨y,bp,rfl,pa,⟨_,rfl,?_⟩⟩
 have hy:=pT.yes pa;have hx:=pU.yes fa;cases bp with
 | false=>exact ko ⟨by rw[C?];decide,λea _=>q1 rfl ea H (aF.refl H)⟩
 | true=>
  refine jG ⟨_,rfl,x,bf,rfl,fa,λH1 g1=>⟨_,rfl,?_⟩⟩
  cases bf with
  | false=>exact ko ⟨by rw[C?];decide,λea _=>q2 rfl rfl ea H1 g1⟩
  | true=>
   obtain⟨p,hp,rfl⟩:=hy rfl;obtain⟨a,ns,rfl,ha,mf,l2,Rv⟩:=hx rfl;obtain⟨⟨GK,E9,hE,Oe,bR⟩,qn,qs⟩:=q3 rfl rfl a ns p rfl ha rfl hp mf l2 Rv;have pp:=cP hp;refine jG ⟨_,rfl,a,ns,ns.length-1,E9,rfl,aO.of (g1 _ _ ha),by omega,by omega,by omega,mf,GK,hE,Oe,bR,λH2 g2=>?_⟩
   refine⟨_,rfl,eK ns,(p:Int),rfl,by omega,by omega,λz H3 g3 sv=>?_⟩
   have g:=(g1.trans g2).trans g3;rcases sv with ⟨d0,rfl⟩|⟨d0,v,hv,rfl⟩
   ·exact⟨_,rfl,rfl,_,rfl,ko ⟨by rw[C?];decide,λea _=>qn d0 ea H3 g⟩⟩
   ·exact⟨_,rfl,rfl,_,rfl,jG ⟨_,rfl,qs v hv d0 H3 g⟩⟩
inductive Cz (K:bM)(C1 C2 C3 C4:o?)(vs:List V)(H:Hp)(Q:VK)(E:XK):Prop where
 | mk (x y:V) (bp bf:Bool) (u9:vs=[x,y]) (u_:pT K H y bp) (vc:pU K H x bf) (ve:(bp=false->Rz C1 H E)) (vf:(bp=true->bf=false->Rz C2 H E)) (vg:(bp=true->bf=true->∀(a:o?) (ns:List Int) (p:Nat),x=.ref a->H a=j? (.lst (ns.map V.int))->y=.int (p:Int)->p∈PR->L2.dM ns->2<=ns.length->ns.length<=13->xQ ns/\(eK ns=0->Rz C3 H E)/\∀v:Nat,fU (p:Int) (eK ns) v->eK ns≠0->(7<ns.length\/24<v->Rz C4 H E)/\(ns.length<=7->v<=24->∀H',aF H H'->Q .fk H')))
theorem pG {dH bW cU fc:o?}(uu:mg "TooDeep"=j? (.ref fc))(lI:PySem.W.excIn K fc UL "ValueError.__new__"=true)(B:iw mg){t1 t2:Tok}(pH:mg "MOST_BASIS_DEGREE"=j? (.int 6 t1))(sU:mg "MOST_BASIS_SIZE"=j? (.int 24 t2))
  (AL:wV P w K mg base 5 "plain_size" j8 (F6 K dH bW cU)) (F:Src K mg "refuse_for_basis" gw j8):wV P w K mg base 6 "refuse_for_basis" j8 (Cz K dH bW cU fc):=by
 refine F.Vu jn (λvs H Q E h=>?_) (λf cdv A outer s H vs Q E hr h=>?_)
 ·obtain⟨x,y,bp,bf,rfl,_⟩:=h;rfl
 obtain⟨x,y,bp,bf,rfl,pa,fa,q1,q2,q3⟩:=h;refine⟨_,ai (aC (i:=2) jn.nd rfl (z? rfl) (Fv AL Jh hr (af (pv 0) (af (pv 1) ah))))
  (av (dQ (PW.pt (HZ (a_ yS (au bO (aJ (aN (K:=K) rfl) rfl B.len bN (af (pv 0) ah)) ak) (vB (v:=.int 6) rfl pH ⟨_,rfl⟩) (bG _)) (C_ (a_ yS (pv 2) (vB (v:=.int 24) rfl sU ⟨_,rfl⟩) (bG _)))))
   (av (sr r_ rfl rfl uu lI PySem.F.excBase_ValueError rfl PySem.F.excBase_ValueError (af zF ah)))
   (b8))),?_⟩
 walk_at "rd"
 refine⟨x,y,bp,bf,rfl,pa,fa,q1,q2,λhb1 hb2 a ns p ex ha ey hp mf l2 Rv=>?_⟩
 obtain⟨dk,qn,qs⟩:=q3 hb1 hb2 a ns p ex ha ey hp mf l2 Rv;subst ex ey;refine⟨dk,qn,λv hv d0 H1 g1=>?_⟩
 obtain⟨qd,qo⟩:=qs v hv d0;refine⟨_,rfl,a,_,rfl,.inl (aO.of (g1 _ _ ha)),?_⟩
 rw[Ya];refine⟨_,_,rfl,rfl,_,_,rfl,rfl,_,rfl,fV (λc=>?_) (λc=>?_)⟩
 ·have c':=Jc c
  exact ko ⟨by rw[C?];decide,λea _=>qd (.inl (by omega)) ea H1 g1⟩
 ·have c':¬ (6:Int)<(ns.length:Int)-1:=λz=>c (Jb z)
  refine⟨_,rfl,_,_,rfl,rfl,_,rfl,fV (λd=>?_) (λd=>?_)⟩
  ·have d':=Jc d
   exact⟨by rw[C?];decide,λea _=>qd (.inr (by omega)) ea H1 g1⟩
  ·have d':¬ (24:Int)<(v:Int):=λz=>d (Jb z)
   exact qo (by omega) (by omega) H1 g1
end
theorem Nm {n m:Nat}{v:Vc}(h:m<=n):(lv n v).take m=lv m v:=by
 unfold lv;rw[<- List.map_take,List.take_range,Nat.min_eq_left h]
structure Nn (H:Hp)(ok:o?->Prop)(n d:Nat)(T:Nat->Vc)(s:Nat->Nat)(vs:List V):Prop where
 len:vs.length=n
 at_:∀i,i<n->∃t l,vs[i]?=j? (.ref t)/\H t=j? (.tup [.ref l,.int ((d-s i:Nat):Int)])/\H l=j? (.lst ((lv (i+1) λj=>T i j / T i i).map V.int))/\ok l
inductive F7 (K:bM)(Pp C1 C2 C3 C4:o?)(vs:List V)(H:Hp)(Q:VK)(E:XK):Prop where
 | mk (x y:V) (bp bf:Bool) (u9:vs=[x,y]) (u_:pT K H y bp) (vc:pU K H x bf) (ve:gK i8 Pp H) (vf:(bp=false->Rz C1 H E)) (vg:(bp=true->bf=false->Rz C2 H E)) (xG:(bp=true->bf=true->∀(a:o?) (ns:List Int) (p:Nat),x=.ref a->H a=j? (.lst (ns.map V.int))->y=.int (p:Int)->p∈PR->L2.dM ns->2<=ns.length->ns.length<=13->del H Pp a=j? (.lst (ns.map V.int))/\xQ ns/\(eK ns=0->Rz C3 H E)/\∀v:Nat,fU (p:Int) (eK ns) v->eK ns≠0->(7<ns.length\/24<v->Rz C4 H E)/\(ns.length<=7->v<=24->∀(R:Type) (_:Lean.Grind.CommRing R) (φ:Vc->R) (ip:R) (d k:Nat) (T:Nat->Vc) (s:Nat->Nat) r vs H',cL H Pp H'->gK i8 Pp H'->Xr (aq ns) (ns.length-1) p φ ip->h_ (ns.length-1) p φ ip d T s->MulOk (ns.length-1) p (iz (ns.length-1) φ ip d T) ip k 0 (λ_ _=>0)->d<=12->H r=q?->del H' Pp r=j? (.lst vs)->Nn (del H' Pp) (λl=>H l=q?/\l≠r) (ns.length-1) d T s vs->Q (.ref r) H')))
section
theorem xR {aE dH bW cU fc:o?}(B:iw mg)(qE:wV P w K mg base 6 "refuse_for_basis" j8 (Cz K dH bW cU fc))(Np:b9 P w K mg base 10 "grown" j8 (F4 K aE))(eH:b9 P w K mg base 2 "size_of_number" sG vL)(F:Src K mg "whole_basis" iS j8):wV P w K mg base 11 "whole_basis" j8 (F7 K aE dH bW cU fc):=by
 refine F.Vu dO (λvs H Q E h=>?_) (λf cdv A outer s H vs Q E hr h=>?_)
 ·obtain⟨x,y,bp,bf,rfl,_⟩:=h;rfl
 obtain⟨x,y,bp,bf,rfl,pa,fa,tq,q1,q2,q3⟩:=h;refine⟨_,ai (d9 (Fv qE Jh hr (af (pv 0) (af (pv 1) ah))))
  (ai (lK (aH Np hr (af (pv 0) (af (pv 1) ah))) (cG (n:=2) (K:=K) rfl rfl (aP (aA (i:=2) dO.nd rfl (z? rfl)) (aP (aA (i:=3) dO.nd rfl (z? rfl)) cF))))
  (ai (aC (i:=4) dO.nd rfl (z? rfl) (aZ ah))
  (ai (bZ Sn rfl (gQ (K:=K) rfl rfl B.enumerate (af (pv 2) ah)) (cG (n:=2) (K:=K) rfl rfl (aP (aA (i:=5) dO.nd rfl (z? rfl)) (aP (aA (i:=6) dO.nd rfl (z? rfl)) cF)))
   (ai (aC (i:=7) dO.nd rfl (Or.inr rfl) (bI (aI (K:=K) rfl) (pv 6) (pv 5) (λ_ _=>rfl)))
   (av (d9 (mW R? F! G! c8 (pv 4) (af (ja (af (bY (aG (N:=["number","lead"]) (sl:=[q?,j? 7]) (ao iS) YJ rfl rfl (by decide +kernel)) rfl (bE (K:=K) rfl (dU (dW (K:=K) rfl) (pv 6) fm (fq (au bU (pv 5) ak)))) (λ_ _ _ _ _=>(aA (i:=0) (Yk_ ["number","lead"]) rfl (z? rfl))) (λ_ _ _ _ _=>aR) (λ_ _ _ _ _=>(au bL (pv 0) (pv 1)))) (af (au bO (pv 3) (aH eH hr (af (pv 7) (af (pv 1) ah)))) ah))) ah))))))
  (av (aM (pv 4)))))),?_⟩
 walk_at "rd"
 refine⟨x,y,bp,bf,rfl,pa,fa,q1,q2,λhb1 hb2 a ns p ex ha ey hp mf l2 Rv=>?_⟩
 obtain⟨hda,dk,qn,qs⟩:=q3 hb1 hb2 a ns p ex ha ey hp mf l2 Rv;subst ex ey;refine⟨dk,qn,λv hv d0=>⟨(qs v hv d0).1,λl7 v24 H1 g1=>?_⟩⟩
 have qo:=(qs v hv d0).2 l7 v24;have pp:=cP hp;obtain⟨n,hn⟩:∃n,ns.length=n+1:=⟨ns.length-1,by omega⟩
 have en:ns.length-1=n:=by omega
 rw[en] at qo;obtain⟨m,em,nd⟩:=hv.XS;have tgs:tg n=1\/tg n=-1:=by
  obtain⟨t1,t2⟩:=Oj n (by omega)
  by_cases c:n*(n-1) / 2 % 2=1
  ·exact .inr (t1 c)
  ·exact .inl (t2 c)
 have eD:(det n λi j=>rr (aq ns) n (aq (dl ns)) (dl ns).length i j)=(p:Int) ^ v*(tg n*m):=by
  have e1:tg n*(det n λi j=>rr (aq ns) n (aq (dl ns)) (dl ns).length i j)=(p:Int) ^ v*m:=by rw[<- em];unfold eK;rw[en]
  rcases tgs with h|h
  ·rw[h] at e1 ⊢;grind
  ·rw[h] at e1 ⊢;grind
 have nd':¬ (p:Int) ∣ tg n*m:=λ⟨c,e⟩=>nd (by
  rcases tgs with h|h
  ·exact⟨c,by rw[h] at e;grind⟩
  ·exact⟨-c,by rw[h] at e;grind⟩)
 have n1:cL H aE H1:=cL.of g1;obtain⟨ps,Ov,_⟩:=id (tq.same g1);refine⟨_,rfl,_,rfl,a,ns,n,p,v,tg n*m,rfl,hp,n1.del _ _ hda,hn,by omega,by omega,mf,dk.1,eD,nd',v24,tq.same g1,λR ri φ ip d k T s r t H2 n2 Tp X G M TH ht ett rr=>?_⟩
 have WQ:=(cD ett).2;obtain⟨ps2,Ru,_⟩:=id Tp;refine⟨t,_,rfl,j5.of WQ,rfl,_,_,rfl,_,_,rfl,rfl,?_⟩
 refine⟨aT rfl,λtp TJ=>?_⟩
 have k3:=aB TJ (.lst []);have etp:(L2.upd H2 tp (.lst [])) tp=j? (.lst []):=ay;generalize L2.upd H2 tp (.lst [])=H3 at k3 etp;have rH2:Rep H2 Any r (mE n n T):=rr.any.same (fE _ _);obtain⟨lr,us,rfl,hlr,_,C⟩:=id rH2.cf;have WR:cL H aE H2:=n1.trans n2;have ftp:H tp=q?:=WR.fresh ⟨_,Ru⟩ TJ;have Ro:tp≠aE:=λz=>by rw[z,Ru] at TJ;cases TJ
 refine⟨_,rfl,lr,rfl,⟨_,aO.of (k3 _ _ hlr)⟩,kY (st:=0) (xs:=us) (λi σ H4=>aF H2 H4/\∃(ys:List V) (o1 o2 o3:Option V),σ=[Rq a,Iq (p),Rq lr,Iq (d),Rq tp,o1,o2,o3]/\H4 tp=j? (.lst ys)/\ys.length=i/\∀j,j<i->∃t l,ys[j]?=j? (.ref t)/\H4 t=j? (.tup [.ref l,.int ((d-s j:Nat):Int)])/\H4 l=j? (.lst ((lv (j+1) λq=>T j q / T j j).map V.int))/\t≠tp/\l≠tp/\H2 t=q?/\H2 l=q?)
  ⟨k3,[],_,_,_,rfl,etp,rfl,λj hj=>Jg hj (Zb _)⟩ (λi σ H4 _ h=>aO.of (h.1 _ _ hlr)) ?_ ?_⟩
 ·rintro i vx σ H4 r5 ig ⟨g4,ys,o1,o2,o3,rfl,e4,ly,hys⟩ nr5
  obtain⟨hi,ri⟩:=C.get ig;obtain⟨lx,rfl,hlx,_⟩:=cS ri;rw[Wx];have k5:=aB nr5 (.tup [.int (i:Int),.ref lx]);have e5:(L2.upd H4 r5 (.tup [.int (i:Int),.ref lx])) r5=j? (.tup [.int (i:Int),.ref lx]):=ay;generalize L2.upd H4 r5 (.tup [.int (i:Int),.ref lx])=H5 at k5 e5;have g5:=g4.trans k5;refine⟨r5,_,rfl,j5.of e5,rfl,_,_,rfl,_,_,rfl,rfl,?_⟩
  refine⟨_,rfl,_,rfl,lx,_,_,_,rfl,rfl,aO.of (g5 _ _ hlx),mZ hi,?_⟩
  refine⟨_,rfl,.inl ⟨rfl,_,aO.of (k5 _ _ e4)⟩,?_⟩
  refine⟨_,rfl,_,rfl,_,_,rfl,rfl,_,rfl,lx,_,rfl,aO.of (g5 _ _ hlx),λl6 n6=>?_⟩
  rw[show iX ((lv n (T i)).map V.int) q? (j? ((i:Int)+1))=(lv (i+1) (T i)).map V.int from by
   rw[show(i:Int)+1=((i+1:Nat):Int) by omega,xB (by rw[Ya,aQ];omega),<- List.map_take,Nm (by omega)]]
  have k6:=aB n6 (.lst ((lv (i+1) (T i)).map V.int));have e6:(L2.upd H5 l6 (.lst ((lv (i+1) (T i)).map V.int))) l6=j? (.lst ((lv (i+1) (T i)).map V.int)):=ay;generalize L2.upd H5 l6 (.lst ((lv (i+1) (T i)).map V.int))=H6 at k6 e6;obtain⟨eTi,sle⟩:=G.pw i hi;have tpos:0<T i i:=by rw[eTi];exact Wc (by omega)
  have bTi:Bd 200 (T i i):=by
   have:=G.oZ i i hi hi
   exact Bd.le (y:=(p:Int) ^ d) (by omega) (zB hp (by omega))
  refine⟨l6,rfl,⟨_,aO.of e6⟩,λD hD=>?_⟩
  refine nL (λj=>.num (T i j / T i i)) (n:=i+1) (by rw[Ya,aQ]) e6 hD (by omega) (λj vz H7 Q2 hj g7 Tj q2=>?_) λH7 g7 HS=>?_
  ·obtain⟨y1,hy1,rfl⟩:=aS Tj
   rw[cE hj] at hy1;cases hy1;refine⟨_,rfl,_,rfl,_,_,rfl,rfl,bTi.dv (by omega),?_⟩
   show Q2 (V.int ((T i j).fdiv (T i i))) H7
   rw[Zr _ (by omega)]
   exact q2 _ H7 (aF.refl _) (.num _)
  ·obtain⟨lD,eD',Hr,nD⟩:=cS HS
   cases eD';refine⟨_,rfl,_,rfl,_,rfl,T i i,(p:Int),rfl,by omega,by omega,λz H8 g8 sv=>?_⟩
   have sz:z=.int (s i:Int):=by
    rcases sv with ⟨z0,_⟩|⟨_,v',hv',rfl⟩
    ·omega
    ·rw[hv'.uniq (fU.of (v:=s i) (m:=1) (by omega) (by rw[eTi,Wn]) (λh=>by have:=Int.le_of_dvd (by decide) h;omega))]
   subst sz;refine⟨_,_,rfl,rfl,aT rfl,λt9 nt9=>?_⟩
   generalize hX:L2.upd H8 t9 _=H9;have x9:=aV nt9 hX;clear hX;have k9:=x9.1;have e9:H9 t9=j? (.tup [.ref D,.int ((d-s i:Nat):Int)]):=by
    rw[x9.2];show j? (HO.tup [V.ref D,V.int ((d:Int)-(s i:Int))])=_
    rw[show(d:Int)-(s i:Int)=((d-s i:Nat):Int) by omega]
   have Nf:=(((k5.trans k6).trans g7).trans g8).trans k9;have e49:=Nf _ _ e4;refine⟨tp,_,_,rfl,rfl,e49,by rw[ly,C?];omega,?_⟩
   have WS:H4 D=q?:=(k5.trans k6).free hD;have WT:H4 t9=q?:=(((k5.trans k6).trans g7).trans g8).free nt9;have Dtp:D≠tp:=λz=>by rw[z,e4] at WS;cases WS
   have ttp:t9≠tp:=λz=>by rw[z,e4] at WT;cases WT
   refine⟨(g4.trans Nf).aX TJ _,_,_,_,_,rfl,ay,by rw[Yi,ly];rfl,λj hj=>?_⟩
   by_cases c:j=i
   ·subst c
    refine⟨t9,D,by rw[<- ly,List.getElem?_concat_length],by rw[aL ttp];exact e9,by rw[aL Dtp];exact k9 _ _ (g8 _ _ Hr),ttp,Dtp,g4.free WT,g4.free WS⟩
   ·obtain⟨t',l',h1,h2,h3,h4,h5,h6,h7⟩:=hys j (by omega)
    exact⟨t',l',by rw[Y3 (by omega)];exact h1,by rw[aL h4];exact Nf _ _ h2,by rw[aL h5];exact Nf _ _ h3,h4,h5,h6,h7⟩
 ·rintro σ H4 ⟨g4,ys,o1,o2,o3,rfl,e4,ly,hys⟩
  rw[C.len] at ly hys;have nP:∀b,H2 b=q?->b≠aE:=λb hb z=>by rw[z,Ru] at hb;cases hb
  refine⟨_,rfl,qo R ri φ ip d k T s tp ys H4 (WR.trans (cL.of g4)) (Tp.same g4) X G M TH ftp (by rw[jL Ro];exact e4) ⟨ly,λi hi=>?_⟩⟩
  obtain⟨t',l',h1,h2,h3,h4,h5,h6,h7⟩:=hys i hi;exact⟨t',l',h1,by rw[jL (nP _ h6)];exact h2,by rw[jL (nP _ h7)];exact h3,WR.fresh ⟨_,Ru⟩ h7,h5⟩
end
section
theorem AM (B:iw mg)(F:Src K mg "_law_trimmed" nV DY):b9 P w K mg base 1 "_law_trimmed" DY (qz K):=by
 refine F.ok mD (λvs H Q E h=>?_) (λf cdv A outer s H vs Q E hr h=>?_)
 ·obtain⟨a,f,rfl,_⟩:=h;rfl
 obtain⟨a,f,rfl,hS,hlen,q⟩:=h;refine⟨_,ai (aC (i:=1) mD.nd rfl (z? rfl) (aJ (aN (K:=K) rfl) rfl B.len bN (af (pv 0) ah)))
  (ai (eW D? (PW.pt (HY (a_ yS (pv 1) ak (bG _)) (EX (a_ iW (bI (aI (K:=K) rfl) (pv 0) (au bO (pv 1) ak) (λ_ _=>rfl)) ak (bG _)))))
   (av (aC (i:=1) mD.nd rfl (z? rfl) (au bO (pv 1) ak))))
  (av (aM (jx fN rfl B.list lU (af (dU (dW (K:=K) rfl) (pv 0) fm (fq (pv 1))) ah))))),?_⟩
 refine⟨_,rfl,a,_,rfl,.inl hS,?_⟩
 rw[Ya];have fin:∀(k:Nat) H2,aF H H2->k<=f.length->ir f f.length=ir f k->ir f k=k->∀p,H2 p=q?->∃p2 ys,[V.ref p]=[.ref p2]/\(aO K (upd H2 p (.lst (iX (f.map V.int) q? (j? (k:Int))))) p2 ys\/j5 K (upd H2 p (.lst (iX (f.map V.int) q? (j? (k:Int))))) p2 ys)/\
   ∀l,upd H2 p (.lst (iX (f.map V.int) q? (j? (k:Int)))) l=q?->Q (.ref l) (upd (upd H2 p (.lst (iX (f.map V.int) q? (j? (k:Int))))) l (.lst ys)):=λk H2 g hk e1 e2 p hp=>by
  refine⟨p,_,rfl,.inl (aO.of ay),λl hl=>?_⟩
  rw[tQ f k hk] at hl ⊢;refine q l _ ((g.trans (aB hp _)).trans (aB hl _)) ((g.trans (aB hp _)).free hl) ?_
  unfold trim;rw[e1,e2];exact ay
 refine jI (λσ H2=>H2=H/\∃k:Nat,σ=[Rq a,j? (.int k)]/\k<=f.length/\ir f f.length=ir f k) (λσ _=>match σ with | [_,j? (.int k)]=>k.toNat|_=>0) ⟨rfl,f.length,rfl,Yd _,rfl⟩ ?_
 rintro σ H2 ⟨rfl,k,rfl,hk,ht⟩;refine⟨_,rfl,_,_,rfl,rfl,_,rfl,fV (λc=>?_) (λc=>?_)⟩
 ·have c':(0:Int)<k:=Jc c
  obtain⟨m,rfl⟩:∃m,k=m+1:=⟨k-1,by omega⟩
  refine⟨_,rfl,_,rfl,_,_,rfl,rfl,a,_,_,_,rfl,rfl,hS,eT (by omega) (by omega),rfl,_,rfl,?_⟩
  have em:(((m+1:Nat):Int)-1).toNat=m:=by omega
  rw[em];refine fV (λc=>?_) (λc=>?_)
  ·have c2:aq f m=0:=V.int.inj (Jc c)
   refine win ⟨_,rfl,_,_,rfl,rfl,⟨rfl,m,?_,by omega,?_⟩,?_⟩
   ·have e:((m+1:Nat):Int)-1=(m:Int):=by omega
    show [j? (V.ref a),j? (V.int (((m+1:Nat):Int)-1))]=_
    rw[e]
   ·exact ht.trans (by show(if aq f m=0 then ir f m else m+1)=_;rw[Ja c2])
   ·show(((m+1:Nat):Int)-1).toNat<(((m+1:Nat):Int)).toNat
    omega
  ·have c2:aq f m≠0:=λz=>c (Jb (Je V.int z))
   exact⟨_,rfl,_,rfl,_,rfl,a,_,rfl,hS,fin (m+1) _ (aF.refl _) hk ht (by show(if aq f m=0 then ir f m else m+1)=_;rw[W9 c2])⟩
 ·have c':k=0:=by
   have:¬ (0:Int)<k:=λz=>c (Jb z)
   omega
  subst c';refine jG ?_
  exact⟨_,rfl,_,rfl,_,rfl,a,_,rfl,hS,fin 0 _ (aF.refl _) hk ht rfl⟩
end
def sW (K:bM):Sp:=λvs H Q _=>∃(a b:o?) (f g:List Int),vs=[.ref a,.ref b]/\aO K H a (f.map V.int)/\aO K H b (g.map V.int)/\f.length<=400/\g.length<=400/\fY 1000000 f/\fY 1000000 g/\Pn H Q (trim (eO f g))
def F8 (K:bM):Sp:=λvs H Q _=>∃(a b:o?) (f g:List Int),vs=[.ref a,.ref b]/\H a=j? (.lst (f.map V.int))/\H b=j? (.lst (g.map V.int))/\f.length<=1000/\g.length<=1000/\Pn H Q (rM f g)
section
def xS (f g:List Int):List Int:=(Yj (f.length+g.length)).map (conv f g)
theorem CB (f g:List Int):trim (xS f g)=trim (eO f g):=IK λi=>by
 rw[oG];unfold xS;exact gi (λi hi=>nE f g i (by omega)) i
theorem Es (B:iw mg)(i9:b9 P w K mg base 1 "_law_trimmed" DY (qz K))(F:Src K mg "_law_times" t8 nO):b9 P w K mg base 2 "_law_times" nO (sW K):=by
 refine F.ok mF (λvs H Q E h=>?_) (λf cdv A outer s H vs Q E hr h=>?_)
 ·obtain⟨a,b,f,g,rfl,_⟩:=h;rfl
 obtain⟨a,b,f,g,rfl,ha,hb,lf,lg,bf,bg,q⟩:=h;refine⟨_,ai (aC (i:=2) mF.nd rfl (z? rfl) (au jF (aZ (af ak ah)) (au bU (aJ (aN (K:=K) rfl) rfl B.len bN (af (pv 0) ah)) (aJ (aN (K:=K) rfl) rfl B.len bN (af (pv 1) ah)))))
  (ai (bZ D? rfl (bC rfl B.range (af (aJ (aN (K:=K) rfl) rfl B.len bN (af (pv 0) ah)) ah)) (aA (i:=3) mF.nd rfl (z? rfl))
   (av (bZ D? rfl (bC rfl B.range (af (aJ (aN (K:=K) rfl) rfl B.len bN (af (pv 1) ah)) ah)) (aA (i:=4) mF.nd rfl (z? rfl))
    (av (lK (au bU (bI (aI (K:=K) rfl) (pv 2) (au bU (pv 3) (pv 4)) (λ_ _=>rfl)) (au aW (bI (aI (K:=K) rfl) (pv 0) (pv 3) (λ_ _=>rfl)) (bI (aI (K:=K) rfl) (pv 1) (pv 4) (λ_ _=>rfl)))) (Dc (pv 2) (au bU (pv 3) (pv 4)) set_list))))))
  (av (aM (aH i9 hr (af (pv 2) ah))))),?_⟩
 refine⟨aT rfl,λp3 n3=>?_⟩
 have g3:=aB n3 (.lst [.int 0]);refine⟨_,rfl,a,_,rfl,.inl (g3.seq ha),_,rfl,b,_,rfl,.inl (g3.seq hb),?_⟩
 rw[Ya,Ya];have en:((f.length:Int)+(g.length:Int))=((f.length+g.length:Nat):Int):=by omega
 refine⟨_,_,rfl,rfl,p3,_,_,rfl,rfl,ay,by omega,by omega,?_,λp hp=>?_⟩
 ·rw[C?];show 1*_<=_;omega
 rw[en,Yf,rN];have g4:=g3.trans (aB hp (.lst ((Yo (f.length+g.length) (0:Int)).map V.int)));have f4:H p=q?:=g3.free hp;refine⟨_,rfl,a,_,rfl,.inl (g4.seq ha),?_⟩
 rw[Ya];refine⟨_,rfl,by omega,by omega,cI (λi σ H2=>aF H H2/\∃(P:List Int) (o1 o2:Option V),σ=[Rq a,Rq b,Rq p,o1,o2]/\H2 p=j? (.lst (P.map V.int))/\P.length=f.length+g.length/\∀m,m<P.length->aq P m=f7 f g i m)
  ⟨g4,_,_,_,rfl,ay,by simp,λm hm=>cM _ _⟩ ?_ ?_⟩
 ·rintro i σ H2 hi ⟨gg,P,o1,o2,rfl,eP,lP,hP⟩
  have hi':i<f.length:=by omega
  refine⟨_,rfl,b,_,rfl,.inl (gg.seq hb),?_⟩
  rw[Ya];refine⟨_,rfl,by omega,by omega,cI (λj σ H2=>aF H H2/\∃(P:List Int) (o2:Option V),σ=[Rq a,Rq b,Rq p,j? (.int (0+(i:Int))),o2]/\H2 p=j? (.lst (P.map V.int))/\P.length=f.length+g.length/\∀m,m<P.length->aq P m=pM f g i j m)
   ⟨gg,P,_,rfl,eP,lP,λm hm=>by rw[wk];exact hP m hm⟩ ?_ ?_⟩
  ·rintro j σ H3 hj ⟨gg,P,o2,rfl,eP,lP,hP⟩
   have hj':j<g.length:=by omega
   have Og:((0+(i:Int))+(0+(j:Int)))=((i+j:Nat):Int):=by omega
   have hij:i+j<P.length:=by omega
   have ei:((0:Int)+(i:Int)).toNat=i:=by omega
   have ej:((0:Int)+(j:Int)).toNat=j:=by omega
   have b1:Bd 1000000 (aq f ((0:Int)+(i:Int)).toNat):=bf.aq _;have b2:Bd 1000000 (aq g ((0:Int)+(j:Int)).toNat):=bg.aq _;refine⟨_,rfl,_,rfl,_,rfl,_,_,rfl,rfl,p,_,_,_,rfl,rfl,aO.of eP,eT (by omega) (by omega),?_⟩
   refine⟨_,rfl,_,rfl,a,_,_,_,rfl,rfl,gg.seq ha,eT (by omega) (by omega),_,rfl,_,rfl,b,_,_,_,rfl,rfl,gg.seq hb,eT (by omega) (by omega),_,_,rfl,rfl,xD b1 b2,_,_,rfl,rfl,?_⟩
   refine⟨_,rfl,_,rfl,_,rfl,_,_,rfl,rfl,p,_,_,i+j,rfl,rfl,eP,?_,?_⟩
   ·rw[Og,Ya];exact rO (by omega) (by omega)
   rw[Og,Yf,ei,ej];refine⟨gg.aX f4 _,P.set (i+j) (aq P (i+j)+aq f i*aq g j),_,rfl,?_,by rw[Wv];exact lP,λm hm=>?_⟩
   ·rw[<- iZ];exact ay
   ·rw[Wv] at hm
    rw[nC hij,wm,hP m hm];split
    ·rename_i h;subst h;rw[hP _ hm]
    ·rfl
  ·rintro σ H3 ⟨gg,P,o2,rfl,eP,lP,hP⟩
   refine⟨gg,P,_,_,rfl,eP,lP,λm hm=>?_⟩
   rw[<- zd];have:=hP m hm
   rw[Yf] at this;exact this
 ·rintro σ H2 ⟨gg,P,o1,o2,rfl,eP,lP,hP⟩
  have e:P=xS f g:=by
   refine rJ ?_ λm hm=>?_
   ·unfold xS;rw[Ya,Yg];exact lP
   ·unfold xS
    rw[nA (by omega),hP m hm,Yf]
    rfl
  subst e;refine⟨_,rfl,p,_,rfl,aO.of eP,by omega,λp2 H3 g3 n3 e3=>?_⟩
  rw[CB] at e3;exact q p2 H3 (gg.trans g3) (gg.free n3) e3
theorem Hs (B:iw mg)(i9:b9 P w K mg base 1 "_law_trimmed" DY (qz K))(F:Src K mg "_law_plus" sI nO):b9 P w K mg base 2 "_law_plus" nO (F8 K):=by
 refine F.ok oV (λvs H Q E h=>?_) (λf cdv A outer s H vs Q E hr h=>?_)
 ·obtain⟨a,b,f,g,rfl,_⟩:=h;rfl
 obtain⟨a,b,f,g,rfl,ea,eb,lf,lg,q⟩:=h;have ha:aO K H a (f.map V.int):=aO.of ea;have hb:aO K H b (g.map V.int):=aO.of eb;refine⟨_,ai (aC (i:=2) oV.nd rfl (z? rfl) (aJ (yT rfl) rfl B.«max» Dl (af (aJ (aN (K:=K) rfl) rfl B.len bN (af (pv 0) ah)) (af (aJ (aN (K:=K) rfl) rfl B.len bN (af (pv 1) ah)) ah))))
  (ai (aC (i:=3) oV.nd rfl (Or.inr rfl) (au eL (pv 0) (au jF (aZ (af ak ah)) (au bO (pv 2) (aJ (aN (K:=K) rfl) rfl B.len bN (af (pv 0) ah))))))
  (ai (aC (i:=4) oV.nd rfl (Or.inr rfl) (au eL (pv 1) (au jF (aZ (af ak ah)) (au bO (pv 2) (aJ (aN (K:=K) rfl) rfl B.len bN (af (pv 1) ah))))))
  (av (aM (aH i9 hr (af (bY (aG (N:=["_law_k","_law_one","_law_other"]) (sl:=[q?,j? 3,j? 4]) (ao sI) YI rfl rfl (by decide +kernel)) rfl (bC rfl B.range (af (pv 2) ah)) (λ_ _ _ _ _=>(aA (i:=0) (Yk_ ["_law_k","_law_one","_law_other"]) rfl (z? rfl))) (λ_ _ _ _ _=>aR) (λ_ _ _ _ _=>(au bU (bI (aI (K:=K) rfl) (pv 1) (pv 0) (λ_ _=>rfl)) (bI (aI (K:=K) rfl) (pv 2) (pv 0) (λ_ _=>rfl))))) ah)))))),?_⟩
 refine⟨_,rfl,a,_,rfl,.inl ha,_,rfl,b,_,rfl,.inl hb,_,_,rfl,?_⟩
 rw[Ya,Ya];have em:(if ((g.length:Nat):Int) > ((f.length:Nat):Int) then ((g.length:Nat):Int) else ((f.length:Nat):Int))=((max f.length g.length:Nat):Int):=by split <;> omega
 rw[em];refine⟨_,rfl,aT rfl,λp1 n1=>?_⟩
 have g1:=aB n1 (.lst [.int 0]);refine⟨_,rfl,_,rfl,a,_,rfl,.inl (g1.seq ha),?_⟩
 rw[Ya];have e1:(((max f.length g.length:Nat):Int)-((f.length:Nat):Int))=((max f.length g.length-f.length:Nat):Int):=by omega
 refine⟨_,_,rfl,rfl,p1,_,_,rfl,rfl,ay,by omega,by omega,?_,λp2 n2=>?_⟩
 ·rw[C?];show 1*_<=_;omega
 rw[e1,Yf,rN] at*;have g2:=g1.trans (aB n2 (.lst ((Yo (max f.length g.length-f.length) (0:Int)).map V.int)));refine⟨a,p2,_,_,rfl,rfl,g2 _ _ ea,ay,?_,λp3 n3=>?_⟩
 ·rw[Ya,Ya,Yp,C?];omega
 rw[<- Yq] at*;have g3:=g2.trans (aB n3 (.lst ((f++Yo (max f.length g.length-f.length) (0:Int)).map V.int)));refine⟨_,rfl,aT rfl,λp4 n4=>?_⟩
 have k4:=aB n4 (.lst [.int 0]);have g4:=g3.trans k4;refine⟨_,rfl,_,rfl,b,_,rfl,.inl (g4.seq hb),?_⟩
 rw[Ya];have e2:(((max f.length g.length:Nat):Int)-((g.length:Nat):Int))=((max f.length g.length-g.length:Nat):Int):=by omega
 refine⟨_,_,rfl,rfl,p4,_,_,rfl,rfl,ay,by omega,by omega,?_,λp5 n5=>?_⟩
 ·rw[C?];show 1*_<=_;omega
 rw[e2,Yf,rN] at*;have k5:=aB n5 (.lst ((Yo (max f.length g.length-g.length) (0:Int)).map V.int));have g5:=g4.trans k5;refine⟨b,p5,_,_,rfl,rfl,g5 _ _ eb,ay,?_,λp6 n6=>?_⟩
 ·rw[Ya,Ya,Yp,C?];omega
 rw[<- Yq] at*;have k6:=aB n6 (.lst ((g++Yo (max f.length g.length-g.length) (0:Int)).map V.int));have g6:=g5.trans k6;have s3:∀ {H7:Hp},aF (upd (upd (upd (upd (upd (upd H p1 (.lst [.int 0])) p2 (.lst ((Yo (max f.length g.length-f.length) (0:Int)).map V.int))) p3 (.lst ((f++Yo (max f.length g.length-f.length) (0:Int)).map V.int))) p4 (.lst [.int 0])) p5 (.lst ((Yo (max f.length g.length-g.length) (0:Int)).map V.int))) p6 (.lst ((g++Yo (max f.length g.length-g.length) (0:Int)).map V.int))) H7->
   aO K H7 p3 ((f++Yo (max f.length g.length-f.length) (0:Int)).map V.int)/\aO K H7 p6 ((g++Yo (max f.length g.length-g.length) (0:Int)).map V.int):=λs7=>⟨aO.of (s7 _ _ (k6 _ _ (k5 _ _ (k4 _ _ ay)))),aO.of (s7 _ _ ay)⟩
 refine⟨_,rfl,_,rfl,by omega,by omega,λD hD=>?_⟩
 rw[Yf];refine iA (λi ys H2=>aF _ H2/\ys=((Yj i).map λi=>aq f i+aq g i).map V.int) ⟨aB hD _,rfl⟩ ?_ ?_
 ·rintro i m ys H2 hm hi hy hlen ⟨gg,rfl⟩
  obtain⟨z1,z2⟩:=s3 gg;have ei:((0:Int)+(i:Int)).toNat=i:=by omega
  refine⟨_,rfl,_,rfl,p3,_,_,_,rfl,rfl,z1,eT (by omega) (by rw[Yi,Yp];omega),_,rfl,_,rfl,p6,_,_,_,rfl,rfl,z2,eT (by omega) (by rw[Yi,Yp];omega),_,_,rfl,rfl,?_⟩
  rw[ei,Bo,Bo];refine CW.emit hm hi (by rw[C?];omega) hy hlen ⟨aF.aX gg hD _,?_⟩
  rw[Wk,Yq,Yq];rfl
 ·rintro ys H2 hy ⟨gg,rfl⟩
  have gA:=g6.trans gg;refine⟨D,IL f g,rfl,aO.of hy,by unfold IL;rw[Ya,Yg];omega,λp H' g' n' e'=>q p H' (gA.trans g') (gA.free n') e'⟩
end
def K9 (K:bM):Sp:=λvs H Q _=>∃(a:o?) (ns:List Int) (k:Int),vs=[.ref a,.int k]/\aO K H a (ns.map V.int)/\0<=k/\∀n:Int,Q (.int n) H
def CC (K:bM):Sp:=λvs H Q _=>∃(a:o?) (ns:List Int) (k:Int),vs=[.ref a,.int k]/\aO K H a (ns.map V.int)/\0<=k/\k<=100/\∀n:Int,Q (.int n) H
section
theorem Et (B:iw mg)(F:Src K mg "_law_cell_at" nU xw):b9 P w K mg base 1 "_law_cell_at" xw (K9 K):=by
 refine F.ok Av (λvs H Q E h=>?_) (λf cdv A outer s H vs Q E hr h=>?_)
 ·obtain⟨a,ns,k,rfl,_⟩:=h;rfl
 obtain⟨a,ns,k,rfl,hS,h0,q⟩:=h;refine⟨_,ai (dQ (a_ Ie (pv 1) (aJ (aN (K:=K) rfl) rfl B.len bN (af (pv 0) ah)) (bG _))
   (av (aM (bI (aI (K:=K) rfl) (pv 0) (pv 1) (λ_ _=>rfl))))
   (b8))
  (av (aM ak)),?_⟩
 refine⟨_,rfl,_,rfl,a,_,rfl,.inl hS,_,_,rfl,rfl,_,rfl,?_⟩
 refine fV (λc=>?_) (λc=>?_)
 ·have hk:k<((ns.map V.int).length:Nat):=Jc c
  obtain⟨v,e,hm⟩:=Fc (xs:=ns.map V.int) h0 hk;obtain⟨n,_,rfl⟩:=List.mem_map.mp hm;exact⟨_,rfl,_,rfl,_,_,_,_,rfl,rfl,hS,e,q n⟩
 ·exact q 0
theorem Ht (B:iw mg)(kj:b9 P w K mg base 1 "_law_cell_at" xw (K9 K))(F:Src K mg "_law_number" qw xw):b9 P w K mg base 2 "_law_number" xw (CC K):=by
 refine F.ok fG (λvs H Q E h=>?_) (λf cdv A outer s H vs Q E hr h=>?_)
 ·obtain⟨a,ns,k,rfl,_⟩:=h;rfl
 obtain⟨a,ns,k,rfl,hS,h0,h1,q⟩:=h;refine⟨_,ai (dQ (a_ RZ (aJ Bc rfl B.abs IC (af (aH kj hr (af (pv 0) (af (pv 1) ah))) ah)) (au zJ ak ak) (bG _))
   (av (aM (aH kj hr (af (pv 0) (af (pv 1) ah)))))
   (b8))
  (ai (aC (i:=2) fG.nd rfl (z? rfl) (au bU (au bU (aH kj hr (af (pv 0) (af ak ah))) (au aW ak (pv 1))) (au aW ak (aH kj hr (af (pv 0) (af (pv 1) ah))))))
  (ai (aC (i:=2) fG.nd rfl (z? rfl) (au bU (au bD (pv 2) ak) ak))
  (ai (aC (i:=3) fG.nd rfl (z? rfl) ak)
  (ai (bZ D? rfl (bC rfl B.range (af ak ah)) (aA (i:=4) fG.nd rfl (z? rfl))
   (ai (aC (i:=2) fG.nd rfl (z? rfl) (au bD (au bU (au bU (au bU (au aW (pv 2) ak) (au bL (pv 2) ak)) (au aW (au aW ak (pv 4)) (pv 4))) ak) ak))
   (av (aC (i:=3) fG.nd rfl (z? rfl) (au bU (au aW (pv 3) ak) (au bD (au aW (pv 2) ak) ak))))))
  (av (aM (pv 3))))))),?_⟩
 refine⟨_,rfl,_,rfl,a,ns,k,rfl,hS,h0,λn1=>?_⟩
 walk_at "rd"
 refine fV (λc=>?_) (λc=>?_)
 ·exact⟨_,rfl,_,rfl,a,ns,k,rfl,hS,h0,λn=>q n⟩
 refine⟨_,rfl,a,ns,0,rfl,hS,Int.le_refl 0,λn2=>?_⟩
 walk_at "rd"
 refine⟨a,ns,k,rfl,hS,h0,λn3=>?_⟩
 walk_at "rd"
 refine⟨by decide,by decide,cI (n:=12) (λi σ H2=>H2=H/\∃(x t:Int) (j:Option V),σ=[Rq a,j? (.int k),j? (.int x),j? (.int t),j]) ⟨rfl,_,_,_,rfl⟩ ?_ ?_⟩
 ·rintro i σ H2 hi ⟨rfl,x,t,j,rfl⟩
  have hj:mX (19*(0+(i:Int))) (0+(i:Int)):=lQ (by omega) (by omega)
  walk_at "rd"
  refine⟨hj,?_⟩
  walk_at "rd"
  exact⟨rfl,_,_,_,rfl⟩
 ·rintro σ H2 ⟨rfl,x,t,j,rfl⟩
  exact⟨_,rfl,q t⟩
end
def Nq (n:Int):Prop:=n=1\/n=-1
theorem TM (x:Int):∃n,qV [V.int 1,V.int (-1)] (x.fmod 2)=j? (.int n)/\Nq n:=by
 have r:=gq x (y:=2) (by decide)
 refine pick r.1 r.2 ?_
 intro v hv;simp only[Ws,Z9,or_false] at hv
 rcases hv with rfl|rfl
 ·exact⟨_,rfl,.inl rfl⟩
 ·exact⟨_,rfl,.inr rfl⟩
theorem TN {x s:Int}(h:Nq s):mX x s:=by rcases h with rfl|rfl <;> exact lQ (by decide) (by decide)
theorem Nq.bd {x s:Int}{m:Nat}(h:Nq s)(hx:Bd m x):Bd m (x*s):=Bd.le (y:=x) (by rcases h with rfl|rfl <;> simp) hx
theorem QO {x y:Int}{m:Nat}(hy:0<y)(h:Bd m y):Bd m (x.fmod y):=Bd.le (y:=y) (by have:=gq x hy;omega) h
def F9:Sp:=λvs H Q _=>∃c m k:Int,vs=[.int c,.int m,.int k]/\0<=m/\m<=100/\k=1/\∀f:List Int,Norm f->fY 5 f->(f.length:Int)<=m+1->Pn H Q f
section
theorem Ew (B:iw mg)(i9:b9 P w K mg base 1 "_law_trimmed" DY (qz K))(F:Src K mg "_law_poly" xy Kc):b9 P w K mg base 2 "_law_poly" Kc F9:=by
 refine F.ok iH (λvs H Q E h=>?_) (λf cdv A outer s H vs Q E hr h=>?_)
 ·obtain⟨c,m,k,rfl,_⟩:=h;rfl
 obtain⟨c,m,k,rfl,h0,h1,hk,q⟩:=h;refine⟨_,ai (aC (i:=3) iH.nd rfl (z? rfl) (aZ ah))
  (ai (aC (i:=4) iH.nd rfl (z? rfl) (au bD (pv 0) (au bU (pv 1) ak)))
  (ai (aC (i:=5) iH.nd rfl (z? rfl) (au bL (pv 0) (au bU (pv 1) ak)))
  (ai (aC (i:=6) iH.nd rfl (z? rfl) (bI (aI (K:=K) rfl) (aZ (af ak (af ak (af (au zJ ak ak) (af (au zJ ak ak) ah))))) (au bD (pv 2) ak) (λ_ _=>rfl)))
  (ai (bZ D? rfl (bC rfl B.range (af (pv 4) ah)) (aA (i:=7) iH.nd rfl (z? rfl))
   (ai (d9 (mW R? F! G! c8 (pv 3) (af (au aW (au bD (pv 5) (pv 6)) (bI (aI (K:=K) rfl) (aZ (af ak (af (vX pX ak) ah))) (au bD (au bL (pv 5) (pv 6)) ak) (λ_ _=>rfl))) ah)))
   (av (aC (i:=5) iH.nd rfl (z? rfl) (au bL (au bL (pv 5) (pv 6)) ak)))))
  (av (aM (aH i9 hr (af (pv 3) ah)))))))),?_⟩
 refine⟨aT rfl,λp hp=>?_⟩
 have g1:=aB hp (.lst []);refine⟨_,rfl,_,rfl,_,_,rfl,rfl,_,_,rfl,rfl,show m+2≠0 by omega,?_⟩
 refine⟨_,rfl,_,rfl,_,_,rfl,rfl,_,_,rfl,rfl,(Bd.small (by omega) (by omega)).dv (show m+2≠0 by omega),?_⟩
 walk_at "rd"
 intro p1 n1;walk_at "rd"
 obtain⟨bs,hbs,hb1,hb2⟩:∃bs:Int,qV [V.int 7,V.int 19,V.int (10 ^ 6),V.int (10 ^ 55)] (k.fmod 4)=j? (.int bs)/\0<bs/\Bd 5 bs:=by
  subst hk;exact⟨19,rfl,by decide,show Zo _<2 ^ 5 by decide⟩
 refine⟨p1,_,_,_,rfl,rfl,aO.of ay,hbs,?_⟩
 have rm:=gq c (y:=m+2) (by omega)
 have g2:=g1.trans (aB n1 (.lst [.int 7,.int 19,.int (10 ^ 6),.int (10 ^ 55)]));refine⟨_,rfl,_,rfl,by omega,by omega,cI (λi σ H2=>aF H H2/\∃(P:List Int) (r:Int) (o:Option V),σ=[j? (.int c),j? (.int m),j? (.int k),Rq p,j? (.int (c.fmod (m+2))),j? (.int r),j? (.int bs),o]/\H2 p=j? (.lst (P.map V.int))/\P.length=i/\fY 5 P)
  ⟨g2,[],_,_,rfl,(aB n1 _) _ _ ay,rfl,λx hx=>by simp at hx⟩ ?_ ?_⟩
 ·rintro i σ H2 hi ⟨gg,P,r,o,rfl,eP,lP,bP⟩
  refine⟨_,rfl,.inl ⟨rfl,_,aO.of eP⟩,?_⟩
  refine⟨_,rfl,_,rfl,_,_,rfl,rfl,show bs≠0 by omega,?_⟩
  walk_at "rd"
  intro p2 n2;refine⟨_,rfl,_,rfl,_,_,rfl,rfl,hb2.dv (by omega),_,_,rfl,rfl,show(2:Int)≠0 by decide,?_⟩
  obtain⟨sg,hsg,hs⟩:=TM (r.fdiv bs);refine⟨p2,_,_,_,rfl,rfl,aO.of ay,hsg,_,_,rfl,rfl,TN hs,?_⟩
  have k2:=aB n2 (.lst [V.int 1,V.int (-1)]);refine⟨p,_,_,rfl,rfl,k2 _ _ eP,by rw[Ya,C?];omega,?_⟩
  refine⟨_,rfl,_,rfl,_,_,rfl,rfl,hb2.dv (by omega),_,_,rfl,rfl,(Bd.small (by decide) (by decide)).dv (by decide),?_⟩
  refine⟨(gg.trans k2).aX hp _,P++[r.fmod bs*sg],_,_,rfl,?_,by rw[Yi,lP];rfl,bP.snoc (hs.bd (QO hb1 hb2))⟩
  rw[<- rP];exact ay
 ·rintro σ H2 ⟨gg,P,r,o,rfl,eP,lP,bP⟩
  refine⟨_,rfl,p,P,rfl,aO.of eP,by omega,λp2 H3 g3 n3 e3=>q (trim P) (jy P) bP.trim ?_ p2 H3 (gg.trans g3) (gg.free n3) e3⟩
  have:=rK P P.length
  rw[gH];omega
end
def CD (K:bM):Sp:=λvs H Q _=>∃(a:o?) (f:List Int) (c:Int) (n:Nat),vs=[.ref a,.int c]/\aO K H a (f.map V.int)/\f.length<=30/\fY 1000000 f/\Bd n c/\1<=n/\1+30*(n+102)<=1000000/\Pn H Q (fh c f)
def OC:Sp:=λvs H Q _=>∃a b:Int,vs=[.int a,.int b]/\0<=b/\Q (.int (GA a b)) H
theorem K_ (f g:List Int):(rM f g).length<=max f.length g.length:=by
 unfold rM;rw[gH];refine Yn (rK _ _) ?_
 unfold IL;rw[Ya,Yg];exact Yd _
theorem La (f:List Int):(trim f).length<=f.length:=by rw[gH];exact rK _ _
theorem Lb (f g:List Int):(eO f g).length<=f.length+g.length:=by
 unfold eO;split
 ·exact Y1 _
 ·rw[Ya,Yg];omega
theorem QS {a:Int}:(if a<0 then -a else a)=(a.natAbs:Int):=by split <;> omega
theorem euclid {x y:Int}(hy:0<=y)(h:y≠0):Int.gcd y (x.fmod y)=Int.gcd x y/\0<=x.fmod y/\(x.fmod y).natAbs<y.natAbs:=by
 have hp:0<y:=by omega
 have r:=gq x hp;exact⟨IE x y hp,r.1,by omega⟩
def F_:Sp:=λvs H Q _=>∃k p:Int,vs=[.int k,.int p]/\k≠0/\2<=p/\p<64/\∀v:Nat,fU p k v->Q (.int v) H
section
theorem Ex (Lc:b9 P w K mg base 2 "_law_plus" nO (F8 K))(lJ:b9 P w K mg base 2 "_law_times" nO (sW K))(F:Src K mg "_law_shift" oX Km):b9 P w K mg base 3 "_law_shift" Km (CD K):=by
 refine F.ok iI (λvs H Q E h=>?_) (λf cdv A outer s H vs Q E hr h=>?_)
 ·obtain⟨a,f,c,n,rfl,_⟩:=h;rfl
 obtain⟨a,f,c,n,rfl,ha,lf,bf,bc,n1,hB,q⟩:=h;refine⟨_,ai (aC (i:=2) iI.nd rfl (z? rfl) (aZ ah))
  (ai (aC (i:=3) iI.nd rfl (z? rfl) (aZ (af ak ah)))
  (ai (bZ D? rfl (bE (K:=K) rfl (pv 0)) (aA (i:=4) iI.nd rfl (Or.inr rfl))
   (ai (aC (i:=2) iI.nd rfl (z? rfl) (aH Lc hr (af (pv 2) (af (bY (aG (N:=["_law_part","_law_one"]) (sl:=[q?,j? 4]) (ao oX) YF rfl rfl (by decide +kernel)) rfl (bE (K:=K) rfl (pv 3)) (λ_ _ _ _ _=>(aA (i:=0) (Yk_ ["_law_part","_law_one"]) rfl (z? rfl))) (λ_ _ _ _ _=>aR) (λ_ _ _ _ _=>(au aW (pv 1) (pv 0)))) ah))))
   (av (aC (i:=3) iI.nd rfl (z? rfl) (aH lJ hr (af (pv 3) (af (aZ (af (pv 1) (af ak ah))) ah)))))))
  (av (aM (pv 2))))),?_⟩
 refine⟨aT rfl,λp1 m1=>?_⟩
 have k1:=aB m1 (.lst []);refine⟨aT rfl,λp2 m2=>?_⟩
 have k2:=aB m2 (.lst [.int 1]);have lm:(f.map V.int).length=f.length:=Ya _;have bk:fY n [c,1]:=λx hx=>by
  simp only[Ws,Z9,or_false] at hx
  rcases hx with rfl|rfl
  ·exact bc
  ·exact Bd.mono (m:=1) (show Zo 1<2 ^ 1 by decide) n1
 refine⟨_,rfl,a,rfl,⟨_,(k1.trans k2).seq ha⟩,fZ (xs:=f.map V.int) (λi σ H2=>aF H H2/\∃(fa sa:o?) (Fi Si:List Int) (o:Option V),σ=[Rq a,j? (.int c),Rq fa,Rq sa,o]/\H fa=q?/\H2 fa=j? (.lst (Fi.map V.int))/\H2 sa=j? (.lst (Si.map V.int))/\jl [c,1] Fi Si ((f.map λa=>trim [a]).drop i)=fh c f/\Fi.length<=i*2+1/\Si.length<=i*2+1/\fY (1+i*(n+102)) Si)
  ⟨k1.trans k2,p1,p2,[],[1],_,rfl,m1,k2 _ _ ay,ay,IT [c,1] _,Y1 _,by show 1<=_;omega,λx hx=>?_⟩ (λi σ H2 _ h=>h.1.seq ha) ?_ ?_⟩
 ·have:x=1:=by simpa using hx
  rw[this];exact Bd.mono (m:=1) (show Zo 1<2 ^ 1 by decide) (by omega)
 ·rintro i x σ H2 hx ⟨gg,fa,sa,Fi,Si,o,rfl,ff,eF,eS,hj,lF,lS,bS⟩
  obtain⟨fi,Rk,rfl⟩:=aS hx;have hi:i<f.length:=(List.getElem?_eq_some_iff.mp Rk).1;have hmem:fi∈f:=Yw Rk;have hin:i*(n+102)+(n+102)<=30*(n+102):=by
   have:(i+1)*(n+102)<=30*(n+102):=Yx _ (by omega)
   rw[Wg,W2] at this;exact this
  have hdr:(f.map λa=>trim [a]).drop i=trim [fi]::(f.map λa=>trim [a]).drop (i+1):=by
   rw[List.drop_eq_getElem_cons (by rw[Ya];omega)]
   congr 1
   have:=(List.getElem?_eq_some_iff.mp Rk).2
   simp[this]
  rw[hdr] at hj;refine⟨_,rfl,_,rfl,sa,rfl,⟨_,aO.of eS⟩,λD hD=>gG (xs:=Si.map V.int) (λj ys H3=>aF H2 H3/\ys=((Si.take j).map λx=>fi*x).map V.int) ⟨aB hD _,rfl⟩ (λj ys H3 _ h=>aO.of (h.1 _ _ eS)) (λj m x ys H3 hm hjl hx hy hlen h=>?_) (λys H3 hy h=>?_)⟩
  ·obtain⟨g3,rfl⟩:=h
   obtain⟨sj,hsj,rfl⟩:=aS hx;have bsj:Bd 1000000 sj:=(bS sj (Yw hsj)).mono (by omega)
   refine⟨_,rfl,_,rfl,_,_,rfl,rfl,xD (bf fi hmem) bsj,?_⟩
   refine CW.emit hm hjl (by rw[Ya,C?];omega) hy hlen ⟨aF.aX g3 hD _,?_⟩
   rw[List.take_add_one,hsj];simp
  ·obtain⟨g3,rfl⟩:=h
   rw[Ya,List.take_length] at hy;have ls:(Si.map λx=>fi*x).length=Si.length:=Ya _
   refine⟨fa,D,Fi,_,rfl,g3 _ _ eF,hy,by omega,by omega,λp4 H4 g4 n4 e4=>?_⟩
   have UM:=g3.trans g4;refine⟨_,rfl,_,rfl,aT rfl,λp5 n5=>?_⟩
   have k5:=aB n5 (.lst [.int c,.int 1]);refine⟨sa,p5,Si,[c,1],rfl,aO.of (k5 _ _ (UM _ _ eS)),aO.of ay,by omega,by show 2<=400;decide,bS.mono (by omega),bk.mono (by omega),λp6 H6 g6 n6 e6=>?_⟩
   have l6:(trim (eO Si [c,1])).length<=Si.length+2:=Yn (La _) (Lb _ _);have l4:=K_ Fi (Si.map λx=>fi*x)
   rw[Dt] at e4 l4;refine⟨((gg.trans UM).trans k5).trans g6,p4,p6,_,_,_,rfl,(gg.trans g3).free n4,g6 _ _ (k5 _ _ e4),e6,hj,?_,?_,((bS.eO bk).trim).mono ?_⟩
   ·omega
   ·omega
   ·rw[Wg,W2];omega
 ·rintro σ H2 ⟨gg,fa,sa,Fi,Si,o,rfl,ff,eF,eS,hj,lF,lS,bS⟩
  rw[lm,List.drop_of_length_le (by rw[Ya];exact Yd _)] at hj
  refine⟨_,rfl,q fa H2 gg ff ?_⟩
  rw[<- hj];exact eF
theorem CH (B:iw mg)(F:Src K mg "_law_common" qx xu):b9 P w K mg base 1 "_law_common" xu OC:=by
 refine F.ok uV (λvs H Q E h=>?_) (λf cdv A outer s H vs Q E hr h=>?_)
 ·obtain⟨a,b,rfl,_⟩:=h;rfl
 obtain⟨a,b,rfl,hb,q⟩:=h;refine⟨_,ai (eW D? (a_ qZ (pv 1) ak (bG _))
   (av (vV (i:=0) (j:=1) rfl uV.nd rfl rfl (by decide) rfl rfl (af (pv 1) (af (au bD (pv 0) (pv 1)) ah)) rfl)))
  (av (aM (aJ Bc rfl B.abs IC (af (pv 0) ah)))),?_⟩
 refine nk (λσ H2=>H2=H/\∃x y:Int,σ=[j? (.int x),j? (.int y)]/\0<=y/\Int.gcd x y=Int.gcd a b) (λσ _=>match σ with | [_,j? (.int y)]=>y.natAbs|_=>0) ?_ ?_ (λσ H Q Q' f ⟨v,e,s,k,ek,h⟩=>⟨v,e,s,k,ek,f _ _ h⟩)
 ·exact⟨rfl,_,_,rfl,hb,rfl⟩
 rintro σ H2 ⟨rfl,x,y,rfl,hy,hg⟩;refine⟨_,rfl,rfl,_,rfl,?_⟩
 refine fV (λc=>?_) (λc=>?_)
 ·have h0:y≠0:=by intro z;subst z;simp at c
  obtain⟨e1,e2,e3⟩:=euclid (x:=x) hy h0;exact⟨_,rfl,_,rfl,_,rfl,_,_,rfl,rfl,h0,_,_,rfl,⟨rfl,_,_,rfl,e2,e1.trans hg⟩,e3⟩
 ·have h0:y=0:=by by_cases z:y=0;exact z;simp[z] at c
  subst h0;refine⟨_,rfl,_,rfl,?_⟩
  have e:(if x<0 then -x else x)=GA a b:=by
   unfold GA;rw[<- hg,QS];simp
  rw[e];exact q
theorem Hu (F:Src K mg "_law_size" xA DW):b9 P w K mg base 1 "_law_size" DW F_:=by
  refine F.ok oW (λvs H Q E h=>?_) (λf cdv A outer s H vs Q E hr h=>?_)
  . obtain⟨a,b,rfl,_⟩:=h;rfl
  obtain⟨k,p,rfl,h0,hp,hp2,q⟩:=h;refine⟨_,ai (aC (i:=2) oW.nd rfl (z? rfl) ak)
    (ai (eW D? (a_ iW (au bD (pv 0) (pv 1)) ak (bG _))
      (ai (aC (i:=0) oW.nd rfl (z? rfl) (au bL (pv 0) (pv 1)))
      (av (aC (i:=2) oW.nd rfl (z? rfl) (au bU (pv 2) ak)))))
    (av (aM (pv 2)))),?_⟩
  refine nk (λσ H2=>H2=H/\∃(m:Int) (v:Nat),σ=[j? (.int m),j? (.int p),j? (.int v)]/\m≠0/\k=p ^ v*m) (λσ _=>match σ with|some (.int m)::_=>m.natAbs|_=>0) ?_ ?_ ?_
  . exact⟨rfl,k,0,rfl,h0,by simp⟩
  . rintro σ H2 ⟨rfl,m,v,rfl,hm,hk⟩
    refine⟨_,rfl,_,rfl,_,_,rfl,rfl,show p≠0 by omega,rfl,_,rfl,?_⟩
    refine fV (λc=>?_) (λc=>?_)
    . have c':m.fmod p=0:=V.int.inj (Jc c)
      obtain⟨m',rfl⟩:=(kX (by omega)).mp c'
      have hm':m'≠0:=λz=>hm (by rw[z];simp)
      refine⟨_,rfl,_,rfl,_,_,rfl,rfl,(Bd.small (by omega) (by omega)).dv (by omega),?_⟩
      refine⟨_,rfl,_,_,rfl,rfl,⟨rfl,m',v+1,?_,hm',?_⟩,?_⟩
      . show [j? (V.int ((p*m').fdiv p)),j? (V.int p),j? (V.int ((v:Int)+1))]=_
        rw[jH (show p≠0 by omega)]
        rfl
      . rw[hk,Yy];ac_rfl
      . show((p*m').fdiv p).natAbs<(p*m').natAbs
        rw[jH (show p≠0 by omega),Zh]
        have h2:2<=p.natAbs:=by omega
        have h3:0<m'.natAbs:=by omega
        calc m'.natAbs<2*m'.natAbs:=by omega
          _<=p.natAbs*m'.natAbs:=Yx _ h2
    . have c':¬ p ∣ m:=λz=>c (Jb (Je V.int ((kX (by omega)).mpr z)))
      exact⟨_,rfl,q v (fU.of (by omega) hk c')⟩
  . rintro σ H Q Q' f ⟨v,e,v2,e2,i,j,e3,e4,c,s,k,ek,h⟩
    exact⟨v,e,v2,e2,i,j,e3,e4,c,s,k,ek,f _ _ h⟩
end
def xT:Sp:=λvs H Q _=>∃p k:Nat,vs=[.int (p:Int),.int (k:Int)]/\2<=p/\p<64/\k<=60/\Q (.int ((p ^ k:Nat):Int)) H
theorem i_ (c:Int){m:Nat}(h:0<m):∃k:Nat,k<m/\c.fmod (m:Int)=(k:Int):=by
 have h0:=Int.fmod_nonneg_of_pos c (show(0:Int)<(m:Int) by omega)
 have h1:=Int.fmod_lt_of_pos c (show(0:Int)<(m:Int) by omega)
 exact⟨(c.fmod (m:Int)).toNat,by omega,by omega⟩
def PT (r N:Nat)(H:Hp)(Q:VK):Prop:=∀(f:List Int) (n:Nat) (i:Int) (t l:o?) (H':Hp),aF H H'->H' t=j? (.tup [.ref l,.int i])->H' l=j? (.lst (f.map V.int))->Pw r f n->1<=n->n<=N->Q (.ref t) H'
theorem PT.on {r N:Nat}{H H':Hp}{Q:VK}(h:PT r N H Q)(g:aF H H'):PT r N H' Q:=λf n i t l H2 g2=>h f n i t l H2 (g.trans g2)
theorem vP {p k m:Nat}(hp:p<64)(h:6*k<m):Bd m ((p ^ k:Nat):Int):=by
 show((p ^ k:Nat):Int).natAbs<_
 rw[Int.natAbs_natCast];refine Z8 (Z7 (show p<=2 ^ 6 by omega) k) ?_
 rw[<- Wp];exact Wj (by decide) h
theorem rep0 (n:Nat):(Yo n [V.int 0]).flatten=(Yo n (0:Int)).map V.int:=by
 induction n with
 | zero=>rfl
 | succ n ih=>rw[Zx,Wt,ih,Zx];rfl
def AN (n:Nat)(c:Int):List Int:=[c]++Yo (n-1) 0++[1]
theorem Nr {n:Nat}{c:Int}(hn:1<=n)(h8:n<=8)(hc:c.natAbs<=2 ^ 37):Pw 1 (AN n c) n:=by
 have hl:(AN n c).length=n+1:=by
  unfold AN;rw[Yi,Yi,Yp];show 1+(n-1)+1=_
  omega
 have top:aq (AN n c) n=1:=by
  unfold AN aq;rw[Yb,Y5 (by rw[Yi,Yp];show 1+_<=_;omega),Yi,Yp,show n-([c].length+(n-1))=0 by show n-(1+(n-1))=0;omega]
  rfl
 refine Pw.of hl ⟨(λz=>by rw[z] at hl;cases hl),by rw[hl];exact top⟩ h8 λk hk=>?_
 have hk':(aq (AN n c) k).natAbs<=if k=0 then c.natAbs else 0:=by
  unfold AN aq;rw[Yb,Y3 (by rw[Yi,Yp];show k<1+_;omega)]
  cases k with
  | zero=>exact Yd _
  | succ k=>
   rw[List.singleton_append,List.getElem?_cons_succ,Zl];split <;> simp
 have h1:2 ^ 40<=(2 ^ 40) ^ (n-k):=Nat.le_self_pow (by omega) _
 split at hk' <;> omega
def OD:Sp:=λvs H Q _=>∃p n h u:Nat,vs=[.int (p:Int),.int (n:Int),.int (h:Int),.int (u:Int)]/\2<=p/\p<48/\1<=n/\n<=6/\h<=5/\u<48/\PT 1 n H Q
section
theorem Ey (B:iw mg)(F:Src K mg "_law_power" t_ BZ):b9 P w K mg base 1 "_law_power" BZ xT:=by
 refine F.ok mG (λvs H Q E h=>?_) (λf cdv A outer s H vs Q E hr h=>?_)
 ·obtain⟨x,k,rfl,_⟩:=h;rfl
 obtain⟨p,k,rfl,h2,h64,h60,q⟩:=h;refine⟨_,ai (aC (i:=2) mG.nd rfl (z? rfl) ak)
  (ai (bZ D? rfl (bC rfl B.range (af (pv 1) ah)) (aA (i:=3) mG.nd rfl (z? rfl))
   (av (aC (i:=2) mG.nd rfl (z? rfl) (au aW (pv 2) (pv 0)))))
  (av (aM (pv 2)))),?_⟩
 refine⟨_,rfl,_,rfl,by omega,by omega,?_⟩
 rw[Yf];refine cI (λi σ H2=>H2=H/\∃(o:Option V),σ=[Iq (p),Iq (k),Iq ((p ^ i:Nat)),o]) ⟨rfl,_,rfl⟩ ?_ ?_
 ·rintro i σ H2 hi ⟨rfl,o,rfl⟩
  refine⟨_,rfl,_,rfl,_,_,rfl,rfl,lQ (by omega) (by omega),rfl,j? (.int (0+(i:Int))),?_⟩
  rw[Z2,Zs];rfl
 ·rintro σ H2 ⟨rfl,o,rfl⟩
  exact⟨_,rfl,q⟩
theorem yH (B:iw mg)(iL:b9 P w K mg base 1 "_law_power" BZ xT)(F:Src K mg "_law_ramified" jw J_):b9 P w K mg base 2 "_law_ramified" J_ OD:=by
 refine F.ok pP (λvs H Q E h=>?_) (λf cdv A outer s H vs Q E hr h=>?_)
 ·obtain⟨p,n,h,u,rfl,_⟩:=h;rfl
 obtain⟨p,n,h,u,rfl,hp,hp2,hn,Ga,hh,hu,q⟩:=h;refine⟨_,ai (aC (i:=4) pP.nd rfl (z? rfl) (aJ (tX (K:=K) rfl rfl) rfl B.sum Dm (af (bY (aG (N:=["_law_d","_law_high","_law_n"]) (sl:=[q?,j? 2,j? 1]) (ao jw) YH rfl rfl (by decide +kernel)) rfl (bC rfl B.range (af (pv 1) ah)) (λ_ _ _ _ _=>(aA (i:=0) (Yk_ ["_law_d","_law_high","_law_n"]) rfl (z? rfl))) (λ_ _ _ _ _=>aR) (λ_ _ _ _ _=>(au bL (au aW (pv 0) (pv 1)) (pv 2)))) ah)))
  (av (aM (ja (af (au eL (au eL (aZ (af (au bO ak (au aW (pv 3) (aH iL hr (af (pv 0) (af (pv 2) ah))))) ah)) (au jF (aZ (af ak ah)) (au bO (pv 1) ak))) (aZ (af ak ah))) (af (pv 4) ah))))),?_⟩
 refine⟨_,rfl,_,rfl,by omega,by omega,λD hD=>?_⟩
 rw[Yf];refine yt (λj=>.num (((0+(j:Int))*(h:Int)).fdiv (n:Int))) hD (by omega) (λj H2 Q2 hj g2 q2=>?_) λH2 g2 rr=>?_
 ·exact⟨_,rfl,_,rfl,_,_,rfl,rfl,gO (by omega) (by omega),_,rfl,_,_,rfl,rfl,(Bd.small (by omega) (by omega)).dv (by omega),q2 _ H2 (aF.refl _) (.num _)⟩
 obtain⟨lD,eD,Hr,_⟩:=cS (n:=n) (v:=λj=>((0+(j:Int))*(h:Int)).fdiv (n:Int)) rr
 cases eD;refine⟨D,_,rfl,aO.of Hr,?_⟩
 refine⟨_,rfl,_,rfl,_,rfl,p,h,rfl,hp,by omega,by omega,?_⟩
 refine⟨_,_,rfl,rfl,gO (by omega) (by omega),_,_,rfl,rfl,aT rfl,λp3 n3=>?_⟩
 generalize hH3:L2.upd H2 p3 _=H3;obtain⟨g3,e3⟩:=aV n3 hH3;clear hH3;refine⟨aT rfl,λp4 n4=>?_⟩
 generalize hH4:L2.upd H3 p4 _=H4;obtain⟨g4,e4⟩:=aV n4 hH4;clear hH4;refine⟨_,rfl,_,_,rfl,rfl,p4,((n-1:Nat):Int),_,rfl,Je V.int (by omega),e4,by omega,by omega,by rw[C?,Yf];show 1*_<=_;omega,λp5 n5=>?_⟩
 rw[Yf,rep0];generalize hH5:L2.upd H4 p5 _=H5;obtain⟨g5,e5⟩:=aV n5 hH5;clear hH5;refine⟨p3,p5,_,_,rfl,rfl,g5 _ _ (g4 _ _ e3),e5,by rw[C?,Ya,Yp];show 1+_<=_;omega,λp6 n6=>?_⟩
 generalize hH6:L2.upd H5 p6 _=H6;obtain⟨g6,e6⟩:=aV n6 hH6;clear hH6;refine⟨aT rfl,λp7 n7=>?_⟩
 generalize hH7:L2.upd H6 p7 _=H7;obtain⟨g7,e7⟩:=aV n7 hH7;clear hH7;refine⟨p6,p7,_,_,rfl,rfl,g7 _ _ e6,e7,by rw[C?,Yi,Ya,Yp];show 1+_+1<=_;omega,λp8 n8=>?_⟩
 generalize hH8:L2.upd H7 p8 _=H8;obtain⟨g8,e8⟩:=aV n8 hH8;clear hH8;refine⟨_,rfl,aT rfl,λp9 n9=>?_⟩
 generalize hH9:L2.upd H8 p9 _=H9;obtain⟨g9,e9⟩:=aV n9 hH9;clear hH9;refine q (AN n (0-(u:Int)*((p ^ h:Nat):Int))) n _ p9 p8 H9 (((((((g2.trans g3).trans g4).trans g5).trans g6).trans g7).trans g8).trans g9) e9 ?_ (Nr hn (by omega) ?_) hn (Yd _)
 ·rw[g9 _ _ e8]
  unfold AN;rw[Yq,Yq];rfl
 ·have h1:p ^ h<=47 ^ 5:=Yn (Z7 (by omega) h) (Y2 (by decide) hh)
  have h2:u*p ^ h<=47*47 ^ 5:=Zi (by omega) h1
  rw[<- Zs];omega
end
def OE:Sp:=λvs H Q _=>∃(p:Nat) (r:Int) (m:Nat),vs=[.int (p:Int),.int r,.int (m:Int)]/\2<=p/\p<48/\1<=m/\m<=6/\PT 1 m H Q
theorem Gb {x:Int}{zs:List Int}:Mi (V.int x) (zs.map V.int)=true↔x∈zs:=by
 unfold Mi;rw[List.any_eq_true];constructor
 ·rintro⟨y,hy,e⟩
  obtain⟨z,hz,rfl⟩:=List.mem_map.mp hy;have e:(z == x)=true:=e;rw[beq_iff_eq.mp e] at hz;exact hz
 ·exact λh=>⟨_,List.mem_map.mpr ⟨x,h,rfl⟩,by show(x == x)=true;exact beq_self_eq_true _⟩
theorem sX {a b A C:Int}(h0:0<=a)(h1:a<=A)(k0:0<=b)(k1:b<=C):0<=a*b/\a*b<=A*C:=⟨W0 h0 k0,Int.mul_le_mul h1 k1 k0 (by omega)⟩
theorem Hv (zs:List Int):(zs.map V.int).all q9=true:=by
 rw[Wh];intro v hv;obtain⟨z,_,rfl⟩:=List.mem_map.mp hv;rfl
section
theorem Ez (B:iw mg)(lJ:b9 P w K mg base 2 "_law_times" nO (sW K))(oh:b9 P w K mg base 1 "_law_size" DW F_)(F:Src K mg "_law_zeros" ua Ke):b9 P w K mg base 3 "_law_zeros" Ke OE:=by
 refine F.ok cT (λvs H Q E h=>?_) (λf cdv A outer s H vs Q E hr h=>?_)
 ·obtain⟨p,r,m,rfl,_⟩:=h;rfl
 obtain⟨p,r,m,rfl,hp,hp2,hm,hm6,q⟩:=h;refine⟨_,ai (aC (i:=3) cT.nd rfl (z? rfl) (aZ ah))
  (ai (aC (i:=4) cT.nd rfl (z? rfl) (aZ (af ak ah)))
  (ai (bZ D? rfl (bC rfl B.range (af (pv 2) ah)) (aA (i:=5) cT.nd rfl (z? rfl))
   (ai (aC (i:=6) cT.nd rfl (z? rfl) (au bU (au aW (pv 5) (pv 0)) (au aW (au bD (pv 1) (pv 0)) (bI (aI (K:=K) rfl) (aZ (af ak (af (pv 0) (af (au aW (pv 0) (pv 0)) (af (pv 0) ah))))) (au bD (au bL (pv 1) (pv 0)) ak) (λ_ _=>rfl)))))
   (ai (dQ (a_ iW (au bD (au bL (au bL (pv 1) (pv 0)) ak) ak) ak (bG _))
    (av (aC (i:=6) cT.nd rfl (z? rfl) (au bU (pv 6) (au aW (au aW (au aW (pv 0) (pv 0)) (pv 0)) (pv 5)))))
    (b8))
   (ai (eW D? (a_ (ID (K:=K) rfl) (pv 6) (pv 3) (by with_unfolding_all rfl))
    (av (aC (i:=6) cT.nd rfl (z? rfl) (au bU (pv 6) ak))))
   (ai (d9 (mW R? F! G! c8 (pv 3) (af (pv 6) ah)))
   (ai (aC (i:=1) cT.nd rfl (z? rfl) (au bL (au bL (pv 1) (pv 0)) ak))
   (av (aC (i:=4) cT.nd rfl (z? rfl) (aH lJ hr (af (pv 4) (af (aZ (af (au bO ak (pv 6)) (af ak ah))) ah)))))))))))
  (ai (aC (i:=7) cT.nd rfl (z? rfl) ak)
  (ai (bZ D? rfl (bC rfl B.range (af (pv 2) ah)) (aA (i:=8) cT.nd rfl (z? rfl))
   (av (bZ D? rfl (tF rfl B.range (af (au bU (pv 8) ak) (af (pv 2) ah))) (aA (i:=9) cT.nd rfl (z? rfl))
    (av (aC (i:=7) cT.nd rfl (z? rfl) (au bU (pv 7) (aH oh hr (af (au bO (bI (aI (K:=K) rfl) (pv 3) (pv 8) (λ_ _=>rfl)) (bI (aI (K:=K) rfl) (pv 3) (pv 9) (λ_ _=>rfl))) (af (pv 0) ah)))))))))
  (av (aM (ja (af (pv 4) (af (pv 7) ah))))))))),?_⟩
 refine⟨aT rfl,λp1 n1=>?_⟩
 generalize hH1:L2.upd H p1 _=H1;obtain⟨g1,e1⟩:=aV n1 hH1;clear hH1;refine⟨aT rfl,λp2 n2=>?_⟩
 generalize hH2:L2.upd H1 p2 _=H2;obtain⟨g2,e2⟩:=aV n2 hH2;clear hH2;refine⟨_,rfl,_,rfl,by omega,by omega,?_⟩
 rw[Yf];have WU:p2≠p1:=λz=>by rw[z,e1] at n2;cases n2
 refine cI (λi σ H3=>aF H H3/\∃(zs f:List Int) (fl:o?) (r':Int) (o5 o6 o7 o8 o9:Option V),σ=[Iq (p),j? (.int r'),Iq (m),Rq p1,Rq fl,o5,o6,o7,o8,o9]/\H3 p1=j? (.lst (zs.map V.int))/\H3 fl=j? (.lst (f.map V.int))/\fl≠p1/\Pw 1 f i/\zs.length=i/\zs.Nodup/\∀z∈zs,0<=z/\z<2 ^ 20+(i:Int))
  ⟨g1.trans g2,[],[1],p2,_,_,_,_,_,_,rfl,g2 _ _ e1,e2,WU,Pw.one,rfl,List.nodup_nil,λz hz=>by cases hz⟩ ?_ ?_
 ·clear g1 g2 e1 e2 WU n2
  rintro i σ H3 hi ⟨g3,zs,f,fl,r',o5,o6,o7,o8,o9,rfl,ez,ef,ne,pw,lz,nd,bz⟩;have hpp:=sX (a:=(p:Int)) (b:=(p:Int)) (A:=47) (C:=47) (by omega) (by omega) (by omega) (by omega)
  have TQ:=sX (a:=(p:Int)*(p:Int)) (b:=(p:Int)) (A:=47*47) (C:=47) hpp.1 hpp.2 (by omega) (by omega)
  have hkp:=sX (a:=(0:Int)+(i:Int)) (b:=(p:Int)) (A:=5) (C:=47) (by omega) (by omega) (by omega) (by omega)
  have acP:=sX (a:=(p:Int)*(p:Int)*(p:Int)) (b:=(0:Int)+(i:Int)) (A:=47*47*47) (C:=5) TQ.1 TQ.2 (by omega) (by omega)
  have rp:=gq r' (y:=(p:Int)) (by omega)
  refine mY (λx:Int=>[Iq (p),j? (.int r'),Iq (m),Rq p1,Rq fl,j? (.int (0+(i:Int))),j? (.int x),o7,o8,o9]) (λx H4=>aF H H4/\H4 p1=j? (.lst (zs.map V.int))/\H4 fl=j? (.lst (f.map V.int))/\0<=x/\x<=101849) (λC key=>?_) ?_
  ·refine⟨_,rfl,_,rfl,_,_,rfl,rfl,gO (by omega) (by omega),_,rfl,_,rfl,_,_,rfl,rfl,(show(p:Int)≠0 by omega),_,rfl,_,rfl,_,rfl,_,_,rfl,rfl,gO (by omega) (by omega),_,rfl,aT rfl,λp4 n4=>?_⟩
   generalize hH4:L2.upd H3 p4 _=H4;obtain⟨g4,e4⟩:=aV n4 hH4;clear hH4;have r4:=gq (r'.fdiv (p:Int)) (y:=4) (by decide)
   obtain⟨x,hx,x0,x1⟩:=pick (xs:=[V.int 1,.int (p:Int),.int ((p:Int)*(p:Int)),.int (p:Int)]) (P:=λn=>0<=n/\n<=2209) r4.1 r4.2 (by
    intro v hv;simp only[Ws,Z9,or_false] at hv
    rcases hv with rfl|rfl|rfl|rfl
    ·exact⟨_,rfl,by decide,by decide⟩
    ·exact⟨_,rfl,by omega,by omega⟩
    ·exact⟨_,rfl,by omega,by omega⟩
    ·exact⟨_,rfl,by omega,by omega⟩)
   refine⟨_,rfl,_,rfl,_,_,rfl,rfl,(Bd.small (by omega) (by omega)).dv (by omega),_,_,rfl,rfl,(show(4:Int)≠0 by decide),p4,_,_,_,rfl,rfl,aO.of e4,hx,_,_,rfl,rfl,lQ (by omega) (by omega),_,_,rfl,rfl,?_⟩
   have hrx:=sX (a:=r'.fmod (p:Int)) (b:=x) (A:=46) (C:=2209) rp.1 (by omega) x0 x1
   exact key _ H4 ⟨g3.trans g4,g4 _ _ ez,g4 _ _ ef,by omega,by omega⟩
  clear g3 ez ef H3;rintro x H3 ⟨g3,ez,ef,x0,x1⟩;refine mY (λx:Int=>[Iq (p),j? (.int r'),Iq (m),Rq p1,Rq fl,j? (.int (0+(i:Int))),j? (.int x),o7,o8,o9]) (λx H4=>H4=H3/\0<=x/\x<2 ^ 20) (λC key=>?_) ?_
  ·refine⟨_,rfl,_,rfl,_,_,rfl,rfl,(Bd.small (by omega) (by omega)).dv (by omega),_,_,rfl,rfl,(Bd.small (by decide) (by decide)).dv (by decide),_,_,rfl,rfl,(show(2:Int)≠0 by decide),rfl,_,rfl,fV (λc1=>?_) (λc1=>key x H3 ⟨rfl,x0,by omega⟩)⟩
   refine⟨_,rfl,_,rfl,_,rfl,_,_,rfl,rfl,gO (by omega) (by omega),_,rfl,_,_,rfl,rfl,lQ (by omega) (by omega),_,rfl,_,_,rfl,rfl,lQ (by omega) (by omega),_,_,rfl,rfl,?_⟩
   exact key _ H3 ⟨rfl,by omega,by omega⟩
  clear x0 x1 x;rintro x H4 ⟨rfl,x0,x1⟩;refine mY (λx:Int=>[Iq (p),j? (.int r'),Iq (m),Rq p1,Rq fl,j? (.int (0+(i:Int))),j? (.int x),o7,o8,o9]) (λx H5=>H5=H4/\0<=x/\x<2 ^ 20+(i:Int)+1/\x ∉ zs) (λC key=>?_) ?_
  ·refine nk (λσ H5=>H5=H4/\∃x:Int,σ=[Iq (p),j? (.int r'),Iq (m),Rq p1,Rq fl,j? (.int (0+(i:Int))),j? (.int x),o7,o8,o9]/\0<=x/\x<2 ^ 20+(i:Int)+1) (λσ _=>match σ with | [_,_,_,_,_,_,j? (.int x),_,_,_]=>(2 ^ 20+(i:Int)+1-x).toNat|_=>0) ⟨rfl,x,rfl,x0,by omega⟩ ?_ ?_
   ·rintro σ H5 ⟨rfl,y,rfl,y0,y1⟩
    refine⟨_,rfl,_,rfl,p1,_,rfl,.inl (aO.of ez),rfl,Hv zs,_,rfl,fV (λc=>?_) (λc=>?_)⟩
    ·have hy:=bz y (Gb.mp c)
     refine⟨_,rfl,_,_,rfl,rfl,⟨rfl,y+1,rfl,by omega,by omega⟩,?_⟩
     show(2 ^ 20+(i:Int)+1-(y+1)).toNat<(2 ^ 20+(i:Int)+1-y).toNat
     omega
    ·exact key y _ ⟨rfl,y0,y1,λz=>c (Gb.mpr z)⟩
   ·rintro σ H Q Q' f ⟨v,e,v2,e2,p,xs,e3,e4,e5,e6,k,ek,h⟩
    exact⟨v,e,v2,e2,p,xs,e3,e4,e5,e6,k,ek,f _ _ h⟩
  clear x0 x1 x;rintro x H5 ⟨rfl,x0,x1,xn⟩;refine⟨_,rfl,.inl ⟨rfl,_,aO.of ez⟩,_,rfl,p1,_,_,rfl,rfl,ez,by rw[Ya,lz,C?];omega,?_⟩
  generalize hH6:L2.upd H5 p1 _=H6;have e6:H6 p1=j? (.lst ((zs++[x]).map V.int)):=by rw[<- hH6,ay,Yq];rfl
  have ef6:H6 fl=j? (.lst (f.map V.int)):=by rw[<- hH6,aL ne];exact ef
  have g6:aF H H6:=by rw[<- hH6];exact g3.aX n1 _
  clear hH6;refine⟨_,rfl,_,rfl,_,_,rfl,rfl,(Bd.small (by omega) (by omega)).dv (by omega),_,_,rfl,rfl,(Bd.small (by decide) (by decide)).dv (by decide),?_⟩
  refine⟨_,rfl,_,rfl,_,_,rfl,rfl,aT rfl,λp7 n7=>?_⟩
  generalize hH7:L2.upd H6 p7 _=H7;obtain⟨g7,e7⟩:=aV n7 hH7;clear hH7;have pl:Pw 1 [0-x,1] 1:=Pw.jq (by omega)
  refine⟨fl,p7,f,[0-x,1],rfl,aO.of (g7 _ _ ef6),aO.of e7,by rw[pw.len];omega,(by show 2<=400;decide),pw.GK.mono (by omega),pl.GK.mono (by decide),λl8 H8 g8 n8 e8=>?_⟩
  refine⟨(g6.trans g7).trans g8,zs++[x],_,l8,_,_,_,_,_,_,rfl,g8 _ _ (g7 _ _ e6),e8,(λz=>by rw[z,g7 _ _ e6] at n8;cases n8),pw.mul pl,by rw[Yi,lz];rfl,?_,λz hz=>?_⟩
  ·rw[List.nodup_append]
   refine⟨nd,List.nodup_cons.mpr ⟨Z9,List.nodup_nil⟩,λa ha b hb e=>?_⟩
   rw[List.mem_singleton] at hb;rw[e,hb] at ha;exact xn ha
  ·rcases List.mem_append.mp hz with h|h
   ·have:=bz z h;omega
   ·rw[List.mem_singleton] at h;omega
 ·clear g1 g2 e1 e2 WU n2 n1
  rintro σ H3 ⟨g3,zs,f,fl,r',o5,o6,o7,o8,o9,rfl,ez,ef,ne,pw,lz,nd,bz⟩;refine⟨_,rfl,_,rfl,by omega,by omega,?_⟩
  rw[Yf];refine cI (λi σ H4=>H4=H3/\∃(x:Int) (o8 o9:Option V),σ=[Iq (p),j? (.int r'),Iq (m),Rq p1,Rq fl,o5,o6,j? (.int x),o8,o9]) ⟨rfl,_,_,_,rfl⟩ ?_ ?_
  ·rintro i σ H4 hi ⟨rfl,x,o8,o9,rfl⟩
   refine⟨_,rfl,_,_,rfl,rfl,_,rfl,_,_,rfl,⟨by omega,by omega,by omega,by omega⟩,?_⟩
   refine cI (λj σ H5=>H5=H4/\∃(x:Int) (o9:Option V),σ=[Iq (p),j? (.int r'),Iq (m),Rq p1,Rq fl,o5,o6,j? (.int x),j? (.int (0+(i:Int))),o9]) ⟨rfl,_,_,rfl⟩ ?_ ?_
   ·rintro j σ H5 hj ⟨rfl,x,o9,rfl⟩
    have hij:i+1+j<m:=by omega
    have a1:=eT (ns:=zs) (i:=0+(i:Int)) (by omega) (by omega)
    have a2:=eT (ns:=zs) (i:=0+(i:Int)+1+(j:Int)) (by omega) (by omega)
    refine⟨_,rfl,_,rfl,_,rfl,p1,_,_,_,rfl,rfl,aO.of ez,a1,_,rfl,_,rfl,p1,_,_,_,rfl,rfl,aO.of ez,a2,_,_,rfl,rfl,_,rfl,_,_,rfl,?_,by omega,by omega,λv _=>⟨_,_,rfl,rfl,rfl,_,_,rfl⟩⟩
    intro z;have hne:=(List.nodup_iff_pairwise_ne.mp nd);rw[show((0:Int)+(i:Int)).toNat=i by omega,show((0:Int)+(i:Int)+1+(j:Int)).toNat=i+1+j by omega] at z
    have:=List.pairwise_iff_getElem.mp hne i (i+1+j) (by omega) (by omega) (by omega)
    unfold aq at z;rw[Yb,Yb,Yc (by omega),Yc (by omega)] at z
    exact this (by simpa using Int.sub_eq_zero.mp z)
   ·rintro σ H5 ⟨rfl,x,o9,rfl⟩
    exact⟨rfl,_,_,_,rfl⟩
  ·rintro σ H4 ⟨rfl,x,o8,o9,rfl⟩
   refine⟨_,rfl,_,rfl,aT rfl,λp5 n5=>?_⟩
   generalize hH5:L2.upd H4 p5 _=H5;obtain⟨g5,e5⟩:=aV n5 hH5;exact q f m x p5 fl H5 (g3.trans g5) e5 (g5 _ _ ef) pw hm (Yd _)
end
def OF (K:bM):Sp:=λvs H Q _=>∃(p n h:Nat) (a:o?) (g:List Int),vs=[.int (p:Int),.ref a,.int (h:Int)]/\H a=j? (.lst (g.map V.int))/\g.length=n+1/\L2.dM g/\fY 5 g/\2<=p/\p<48/\1<=n/\n<=6/\h<=2/\PT 1 n H Q
theorem QT {p n h:Nat}{g:List Int}(lg:g.length=n+1)(mg:L2.dM g)(bg:fY 5 g)(hp:p<48)(hn:n<=6)(hh:h<=2):Pw 1 (lv (n+1) λk=>aq g k*((p ^ (h*(n-k)):Nat):Int)) n:=by
 have top:aq g n=1:=(topC lg mg).one;have hl:(lv (n+1) λk=>aq g k*((p ^ (h*(n-k)):Nat):Int)).length=n+1:=aQ _ _
 refine Pw.of hl ⟨(λz=>by rw[z] at hl;cases hl),by rw[hl];show aq _ n=1;rw[oQ,Ja (by omega),top,W5,Nat.mul_zero];rfl⟩ (by omega) λk hk=>?_
 rw[oQ,Ja (by omega),Zh,Int.natAbs_natCast]
 have h1:(aq g k).natAbs<=2 ^ 5:=W3 (bg.aq k);have h2:p ^ (h*(n-k))<=(2 ^ 6) ^ (2*(n-k)):=Yn (Z7 (by omega) _) (Y2 (by decide) (Yx _ hh))
 have h3:=Zi h1 h2;have h4:8*(2 ^ 5*(2 ^ 6) ^ (2*(n-k)))<=(2 ^ 40) ^ (n-k):=by
  rw[<- Wp,<- Wp,<- Zw,show 8=2 ^ 3 by decide,<- Zw]
  exact Y2 (by decide) (by omega)
 omega
section
theorem xU (B:iw mg)(iL:b9 P w K mg base 1 "_law_power" BZ xT)(F:Src K mg "_law_stretched" iT Kh):b9 P w K mg base 2 "_law_stretched" Kh (OF K):=by
 refine F.ok nX (λvs H Q E h=>?_) (λf cdv A outer s H vs Q E hr h=>?_)
 ·obtain⟨p,n,h,a,g,rfl,_⟩:=h;rfl
 obtain⟨p,n,h,a,g,rfl,ha,lg,mon,bg,hp,hp2,hn,Ga,hh,q⟩:=h;refine⟨_,ai (aC (i:=3) nX.nd rfl (Or.inr rfl) (au bO (aJ (aN (K:=K) rfl) rfl B.len bN (af (pv 1) ah)) ak))
  (av (aM (ja (af (bY (aG (N:=["_law_k","_law_g","_law_p","_law_high","_law_n"]) (sl:=[q?,j? 1,j? 0,j? 2,j? 3]) (ao iT) ["_law_p","_law_g","_law_high","_law_n"] rfl rfl (by decide +kernel)) rfl (bC rfl B.range (af (au bU (pv 3) ak) ah)) (λ_ _ _ _ _=>(aA (i:=0) (Yk_ ["_law_k","_law_g","_law_p","_law_high","_law_n"]) rfl (z? rfl))) (λ_ _ _ _ _=>aR) (λ_ _ _ _ _=>(au aW (bI (aI (K:=K) rfl) (pv 1) (pv 0) (λ_ _=>rfl)) (aH iL hr (af (pv 2) (af (au aW (pv 3) (au bO (pv 4) (pv 0))) ah)))))) (af (au bL (au aW (au aW (pv 2) (pv 3)) (au bO (pv 3) ak)) ak) ah))))),?_⟩
 have hl:(g.map V.int).length=n+1:=by rw[Ya,lg]
 refine⟨_,rfl,a,_,rfl,.inl (aO.of ha),_,_,rfl,rfl,?_⟩
 show gE 3 (V.int (((g.map V.int).length:Int)-1)) _ _ _
 rw[hl,show(((n+1:Nat):Int)-1)=(n:Int) by omega]
 refine⟨_,rfl,_,_,rfl,rfl,((n+1:Nat):Int),rfl,by omega,by omega,λD hD=>?_⟩
 rw[Yf];refine yt (λj=>.num (aq g j*((p ^ (h*(n-j)):Nat):Int))) hD (by omega) (λj H2 Q2 hj g2 q2=>?_) λH2 g2 rr=>?_
 ·have a1:=eT (ns:=g) (i:=0+(j:Int)) (by omega) (by omega)
  have ZT:(h:Int)*((n:Int)-(0+(j:Int)))=((h*(n-j):Nat):Int):=by rw[Zs,show(n:Int)-(0+(j:Int))=((n-j:Nat):Int) by omega]
  have hle:h*(n-j)<=2*6:=Zi hh (by omega)
  rw[show((0:Int)+(j:Int)).toNat=j by omega] at a1
  refine⟨_,rfl,_,rfl,a,_,_,_,rfl,rfl,aO.of (g2 _ _ ha),a1,_,rfl,_,rfl,_,rfl,_,rfl,_,_,rfl,rfl,_,_,rfl,rfl,gO (by omega) (by omega),p,h*(n-j),Je (λz=>[V.int (p:Int),V.int z]) ZT,hp,by omega,by omega,?_⟩
  refine⟨_,_,rfl,rfl,Bd.ok (bg.aq j) (vP (m:=100) (by omega) (by omega)),q2 _ H2 (aF.refl _) (.num _)⟩
 obtain⟨lD,eD,Hr,_⟩:=cS (n:=n+1) (v:=λk=>aq g k*((p ^ (h*(n-k)):Nat):Int)) rr
 cases eD;refine⟨_,rfl,_,rfl,_,_,rfl,rfl,gO (by omega) (by omega),_,rfl,_,_,rfl,rfl,_,_,rfl,rfl,lQ (by omega) (by omega),_,_,rfl,rfl,(Bd.small (by decide) (by decide)).dv (by decide),aT rfl,λp5 n5=>?_⟩
 generalize hH5:L2.upd H2 p5 _=H5;obtain⟨g5,e5⟩:=aV n5 hH5;exact q _ n _ p5 D H5 (g2.trans g5) e5 (g5 _ _ Hr) (QT lg mon bg hp2 Ga hh) hn (Yd _)
end
theorem Gd {f:List Int}{n:Nat}(h:Pw 2 f n)(hn1:1<=n)(hn:n<=6):xQ f:=by
 have en:f.length-1=n:=by rw[h.len];omega
 refine⟨(h.P8 hn).mono (by decide),1100,by decide,by rw[en];omega,λi j hi=>?_⟩
 rw[en] at hi ⊢;exact h.ent hn1 hn (by rw[Ed,en];omega) (h.bdl hn) (vM h.top hn1 λm hm=>bF hm) i j hi
def Ge:Sp:=λvs H Q _=>∃(p:Nat) (c:Int) (m:Nat),vs=[.int (p:Int),.int c,.int (m:Int)]/\2<=p/\p<48/\1<=m/\m<=6/\PT 1 m H Q
theorem PT.le {r N M:Nat}{H:Hp}{Q:VK}(h:PT r N H Q)(hM:M<=N):PT r M H Q:=λf n i t l H' a b c d e g=>h f n i t l H' a b c d e (Yn g hM)
section
theorem EA (B:iw mg)(EB:b9 P w K mg base 1 "_law_common" xu OC)(AO:b9 P w K mg base 2 "_law_ramified" J_ OD)(zC:b9 P w K mg base 3 "_law_zeros" Ke OE)(Ld:b9 P w K mg base 2 "_law_poly" Kc F9)(fL:b9 P w K mg base 4 "discriminant" ["f"] (AA K))(yI:b9 P w K mg base 2 "_law_stretched" Kh (OF K))(F:Src K mg "_law_piece" uc Kd):b9 P w K mg base 5 "_law_piece" Kd Ge:=by
 refine F.ok fH (λvs H Q E h=>?_) (λf cdv A outer s H vs Q E hr h=>?_)
 ·obtain⟨p,c,m,rfl,_⟩:=h;rfl
 obtain⟨p,c,m,rfl,hp,hp2,hm,hm6,q⟩:=h;refine⟨_,ai (aC (i:=3) fH.nd rfl (z? rfl) (au bU ak (au bD (au bL (pv 1) ak) (pv 2))))
  (ai (aC (i:=4) fH.nd rfl (z? rfl) (au bL (pv 1) ak))
  (ai (dQ (a_ iW (au bD (pv 1) ak) ak (bG _))
   (ai (aC (i:=5) fH.nd rfl (z? rfl) (bI (aI (K:=K) rfl) (aZ (af ak (af ak (af ak (af ak (af ak (af ak ah))))))) (au bD (pv 4) ak) (λ_ _=>rfl)))
   (ai (aC (i:=6) fH.nd rfl (z? rfl) (au bU ak (au bD (au bL (pv 4) ak) (au bO (pv 0) ak))))
   (ai (eW D? (a_ yS (aH EB hr (af (pv 5) (af (pv 3) ah))) ak (bG _))
    (av (aC (i:=5) fH.nd rfl (z? rfl) (au bO (pv 5) ak))))
   (av (aM (aH AO hr (af (pv 0) (af (pv 3) (af (pv 5) (af (pv 6) ah))))))))))
   (b8))
  (ai (dQ (a_ iW (au bD (pv 1) ak) ak (bG _))
   (av (aM (aH zC hr (af (pv 0) (af (pv 4) (af (pv 3) ah))))))
   (b8))
  (ai (aC (i:=7) fH.nd rfl (z? rfl) (dU (dW (K:=K) rfl) (aH Ld hr (af (pv 4) (af (au bO (pv 3) ak) (af ak ah)))) fm (fq (pv 3))))
  (ai (aC (i:=7) fH.nd rfl (z? rfl) (au eL (au eL (pv 7) (au jF (aZ (af ak ah)) (au bO (pv 3) (aJ (aN (K:=K) rfl) rfl B.len bN (af (pv 7) ah))))) (aZ (af ak ah))))
  (ai (dQ (a_ iW (au bD (aH fL hr (af (pv 7) ah)) (pv 0)) ak (bG _))
   (av (aM (aH zC hr (af (pv 0) (af (pv 4) (af (pv 3) ah))))))
   (b8))
  (av (aM (aH yI hr (af (pv 0) (af (pv 7) (af (bI (aI (K:=K) rfl) (aZ (af ak (af ak (af ak (af ak ah))))) (au bD (au bL (pv 4) (au zJ ak ak)) ak) (λ_ _=>rfl)) ah)))))))))))),?_⟩
 obtain⟨k,hk,ek⟩:=i_ (c.fdiv 8) (show 0<m by omega)
 refine⟨_,rfl,_,_,rfl,rfl,(Bd.small (by decide) (by decide)).dv (by decide),_,rfl,_,_,rfl,rfl,(show(m:Int)≠0 by omega),_,_,rfl,rfl,?_⟩
 show gE 3 (V.int (1+(c.fdiv 8).fmod (m:Int))) _ _ _
 rw[ek,show(1:Int)+(k:Int)=((1+k:Nat):Int) by omega]
 obtain⟨n,hn⟩:∃n,n=1+k:=⟨_,rfl⟩;rw[<- hn];have n1:1<=n:=by omega
 have nm:n<=m:=by omega
 clear hn ek;refine⟨_,rfl,_,_,rfl,rfl,(Bd.small (by decide) (by decide)).dv (by decide),?_⟩
 show gE 4 (V.int (c.fdiv 64)) _ _ _
 generalize c.fdiv 64=r;refine⟨_,rfl,_,_,rfl,rfl,(show(3:Int)≠0 by decide),rfl,_,rfl,fV (λc1=>?_) (λc1=>?_)⟩
 ·refine⟨aT rfl,λp1 CJ=>?_⟩
  generalize hH1:L2.upd H p1 _=H1;obtain⟨g1,e1⟩:=aV CJ hH1;clear hH1;obtain⟨h0,hh0,h01,h05⟩:∃h:Nat,qV [V.int 1,.int 2,.int 3,.int 5,.int 1,.int 4] (r.fmod 6)=j? (.int (h:Int))/\1<=h/\h<=5:=by
   obtain⟨k,hk,ek⟩:=i_ r (show 0<6 by decide)
   rw[show r.fmod 6=(k:Int) from ek]
   match k,hk with
   | 0,_=>exact⟨1,rfl,by decide,by decide⟩
   | 1,_=>exact⟨2,rfl,by decide,by decide⟩
   | 2,_=>exact⟨3,rfl,by decide,by decide⟩
   | 3,_=>exact⟨5,rfl,by decide,by decide⟩
   | 4,_=>exact⟨1,rfl,by decide,by decide⟩
   | 5,_=>exact⟨4,rfl,by decide,by decide⟩
  refine⟨_,rfl,_,_,rfl,rfl,(show(6:Int)≠0 by decide),p1,_,_,_,rfl,rfl,aO.of e1,hh0,?_⟩
  obtain⟨u,hu,eu⟩:=i_ (r.fdiv 6) (show 0<p-1 by omega)
  rw[show((p-1:Nat):Int)=(p:Int)-1 by omega] at eu
  refine⟨_,rfl,_,_,rfl,rfl,(Bd.small (by decide) (by decide)).dv (by decide),_,rfl,_,_,rfl,rfl,_,_,rfl,rfl,(show(p:Int)-1≠0 by omega),_,_,rfl,rfl,?_⟩
  show gE 6 (V.int (1+(r.fdiv 6).fmod ((p:Int)-1))) _ _ _
  rw[eu,show(1:Int)+(u:Int)=((1+u:Nat):Int) by omega]
  show Ends.nx _ (List.set _ _ _) _
  dsimp only
  refine mY (λh:Nat=>[Iq (p),j? (.int c),Iq (m),Iq (n),j? (.int r),Iq (h),Iq ((1+u:Nat)),q?]) (λh H2=>H2=H1/\h<=5) (λC key=>?_) ?_
  ·refine nk (λσ H2=>H2=H1/\∃h:Nat,σ=[Iq (p),j? (.int c),Iq (m),Iq (n),j? (.int r),Iq (h),Iq ((1+u:Nat)),q?]/\1<=h/\h<=5) (λσ _=>match σ with | [_,_,_,_,_,j? (.int h),_,_]=>h.toNat|_=>0) ⟨rfl,h0,rfl,h01,h05⟩ ?_ ?_
   ·rintro σ H2 ⟨rfl,h,rfl,h1,h5⟩
    refine⟨_,rfl,_,rfl,(h:Int),(n:Int),rfl,by omega,_,_,rfl,rfl,_,rfl,fV (λcc=>?_) (λcc=>key h _ ⟨rfl,h5⟩)⟩
    have cc':(1:Int)<GA (h:Int) (n:Int):=Jc cc;have h2:h≠1:=λz=>by
     rw[z] at cc';have:GA ((1:Nat):Int) (n:Int)=1:=by unfold GA;simp
     omega
    refine⟨_,rfl,_,_,rfl,rfl,⟨rfl,h-1,?_,by omega,by omega⟩,?_⟩
    ·show [_,_,_,_,_,j? (V.int ((h:Int)-1)),_,_]=_
     rw[show(h:Int)-1=((h-1:Nat):Int) by omega]
    ·show((h:Int)-1).toNat<(h:Int).toNat
     omega
   ·rintro σ H Q Q' f ⟨v,e,v2,e2,a,b,e3,e4,i,j,e5,e6,k,ek,h⟩
    exact⟨v,e,v2,e2,a,b,e3,e4,i,j,e5,e6,k,ek,f _ _ h⟩
  ·rintro h H2 ⟨rfl,h5⟩
   exact⟨_,rfl,_,rfl,_,rfl,_,rfl,p,n,h,1+u,rfl,hp,hp2,n1,by omega,h5,by omega,(q.le nm).on g1⟩
 ·refine⟨_,rfl,_,_,rfl,rfl,(show(3:Int)≠0 by decide),rfl,_,rfl,fV (λc2=>?_) (λc2=>?_)⟩
  ·exact⟨_,rfl,_,rfl,_,rfl,p,r,n,rfl,hp,hp2,n1,by omega,q.le nm⟩
  refine⟨_,rfl,_,rfl,_,_,rfl,rfl,r,(n:Int)-1,1,rfl,by omega,by omega,rfl,λlow nl bl ll pl H1 g1 npl hpl=>?_⟩
  refine⟨_,rfl,_,rfl,pl,_,rfl,aO.of hpl,λp2 n2=>?_⟩
  rw[wu];generalize hH2:L2.upd H1 p2 _=H2;obtain⟨g2,e2⟩:=aV n2 hH2;clear hH2;have lt:(low.take n).length<=n:=by rw[Yt];omega
  have bt:fY 5 (low.take n):=λx hx=>bl x (List.mem_of_mem_take hx)
  generalize low.take n=lo at e2 lt bt;refine⟨_,rfl,aT rfl,λp3 n3=>?_⟩
  generalize hH3:L2.upd H2 p3 _=H3;obtain⟨g3,e3⟩:=aV n3 hH3;clear hH3;refine⟨_,rfl,_,rfl,p2,_,rfl,.inl (aO.of (g3 _ _ e2)),_,_,rfl,rfl,p3,((n-lo.length:Nat):Int),_,rfl,Je V.int (by rw[Ya];omega),e3,by omega,by omega,by rw[C?,Yf];show 1*_<=_;omega,λp4 n4=>?_⟩
  rw[Yf,rep0];generalize hH4:L2.upd H3 p4 _=H4;obtain⟨g4,e4⟩:=aV n4 hH4;clear hH4;refine⟨p2,p4,_,_,rfl,rfl,g4 _ _ (g3 _ _ e2),e4,by rw[C?,Ya,Ya,Yp];omega,λp5 n5=>?_⟩
  generalize hH5:L2.upd H4 p5 _=H5;obtain⟨g5,e5⟩:=aV n5 hH5;clear hH5;refine⟨aT rfl,λp6 n6=>?_⟩
  generalize hH6:L2.upd H5 p6 _=H6;obtain⟨g6,e6⟩:=aV n6 hH6;clear hH6;refine⟨p5,p6,_,_,rfl,rfl,g6 _ _ e5,e6,by rw[C?,Yi,Ya,Ya,Yp];show _+1<=_;omega,λp7 n7=>?_⟩
  generalize hH7:L2.upd H6 p7 _=H7;obtain⟨g7,e7⟩:=aV n7 hH7;clear hH7;have gA:=(((((g1.trans g2).trans g3).trans g4).trans g5).trans g6).trans g7;obtain⟨g,lg,mon,bg,eg⟩:∃g:List Int,g.length=n+1/\L2.dM g/\fY 5 g/\H7 p7=j? (.lst (g.map V.int)):=by
   have hl:(lo++Yo (n-lo.length) 0++[1]).length=n+1:=by
    rw[Yi,Yi,Yp];show _+1=_
    omega
   refine⟨lo++Yo (n-lo.length) 0++[1],hl,⟨(λz=>by rw[z] at hl;cases hl),?_⟩,λx hx=>?_,by rw[e7,Yq,Yq];rfl⟩
   ·rw[hl]
    unfold aq;rw[Yb,Y5 (by rw[Yi,Yp];omega),Yi,Yp,show n+1-1-(lo.length+(n-lo.length))=0 by omega]
    rfl
   ·rcases List.mem_append.mp hx with h|h
    ·rcases List.mem_append.mp h with h|h
     ·exact bt x h
     ·rw[(List.mem_replicate.mp h).2];show Zo 0<2 ^ 5;decide
    ·rw[List.mem_singleton] at h;rw[h];show Zo 1<2 ^ 5;decide
  clear e2 e3 e4 e5 e6 e7;have pwg:Pw 1 g n:=Pw.of lg mon (by omega) λk hk=>by
   have h1:(aq g k).natAbs<2 ^ 5:=bg.aq k;have h2:2 ^ 40<=(2 ^ 40) ^ (n-k):=Nat.le_self_pow (by omega) _
   omega
  obtain⟨bd,E',hE,TR,hrr⟩:=Gd (pwg.mono (show 1<=2 by decide)) n1 (by omega)
  rw[show g.length-1=n by omega] at TR hrr
  refine⟨_,rfl,p7,g,n,E',rfl,aO.of eg,lg,n1,by omega,mon,bd,hE,TR,hrr,λH8 g8=>?_⟩
  refine⟨_,rfl,_,_,rfl,rfl,(show(p:Int)≠0 by omega),rfl,_,rfl,fV (λc3=>?_) (λc3=>?_)⟩
  ·exact⟨_,rfl,_,rfl,_,rfl,p,r,n,rfl,hp,hp2,n1,by omega,(q.le nm).on (gA.trans g8)⟩
  refine⟨_,rfl,_,rfl,aT rfl,λp9 n9=>?_⟩
  generalize hH9:L2.upd H8 p9 _=H9;obtain⟨g9,e9⟩:=aV n9 hH9;clear hH9;obtain⟨h,hh,h2⟩:∃h:Nat,qV [V.int 0,.int 1,.int 1,.int 2] ((r.fdiv (10 ^ 12)).fmod 4)=j? (.int (h:Int))/\h<=2:=by
   obtain⟨k,hk,ek⟩:=i_ (r.fdiv (10 ^ 12)) (show 0<4 by decide)
   rw[show(r.fdiv (10 ^ 12)).fmod 4=(k:Int) from ek]
   match k,hk with
   | 0,_=>exact⟨0,rfl,by decide⟩
   | 1,_=>exact⟨1,rfl,by decide⟩
   | 2,_=>exact⟨1,rfl,by decide⟩
   | 3,_=>exact⟨2,rfl,by decide⟩
  refine⟨_,rfl,_,_,rfl,rfl,⟨by decide,by decide,by decide⟩,_,_,rfl,rfl,(Bd.small (by decide) (by decide)).dv (by decide),_,_,rfl,rfl,(show(4:Int)≠0 by decide),p9,_,_,_,rfl,rfl,aO.of e9,hh,?_⟩
  exact⟨p,n,h,p7,g,rfl,g9 _ _ (g8 _ _ eg),lg,mon,bg,hp,hp2,n1,by omega,h2,(q.le nm).on ((gA.trans g8).trans g9)⟩
end
def CK:Sp:=λvs H Q _=>∃(p:Nat) (a b:Int),vs=[.int (p:Int),.int a,.int b,.int 6]/\2<=p/\p<48/\PT 2 6 H Q
section
theorem EC (B:iw mg)(zD:b9 P w K mg base 5 "_law_piece" Kd Ge)(zE:b9 P w K mg base 3 "_law_shift" Km (CD K))(nZ:b9 P w K mg base 3 "resultant" m9 (KD K))(lJ:b9 P w K mg base 2 "_law_times" nO (sW K))(oh:b9 P w K mg base 1 "_law_size" DW F_)(F:Src K mg "_law_built" ud J9):b9 P w K mg base 6 "_law_built" J9 CK:=by
 refine F.ok gy (λvs H Q E h=>?_) (λf cdv A outer s H vs Q E hr h=>?_)
 ·obtain⟨p,a,b,rfl,_⟩:=h;rfl
 obtain⟨p,a,b,rfl,hp,hp2,q⟩:=h;refine⟨_,ai (lK (aH zD hr (af (pv 0) (af (pv 1) (af (bI (aI (K:=K) rfl) (aZ (af (pv 3) (af ak ah))) (au bD (au bL (pv 1) ak) ak) (λ_ _=>rfl)) ah)))) (cG (n:=2) (K:=K) rfl rfl (aP (aA (i:=4) gy.nd rfl (z? rfl)) (aP (aA (i:=5) gy.nd rfl (z? rfl)) cF))))
  (ai (dQ (a_ iW (au bD (au bL (pv 1) ak) ak) ak (bG _))
   (av (aM (ja (af (aH zE hr (af (pv 4) (af (au bO (au bD (pv 2) ak) ak) ah))) (af (pv 5) ah)))))
   (b8))
  (ai (lK (aH zD hr (af (pv 0) (af (pv 2) (af ak ah)))) (cG (n:=2) (K:=K) rfl rfl (aP (aA (i:=6) gy.nd rfl (z? rfl)) (aP (aA (i:=7) gy.nd rfl (z? rfl)) cF))))
  (ai (aC (i:=6) gy.nd rfl (z? rfl) (aH zE hr (af (pv 6) (af (bI (aI (K:=K) rfl) (aZ (af ak (af ak (af (pv 0) (af (au bU (pv 0) ak) (af ak ah)))))) (au bD (au bL (pv 2) ak) ak) (λ_ _=>rfl)) ah))))
  (ai (aC (i:=8) gy.nd rfl (z? rfl) (aH nZ hr (af (pv 4) (af (pv 6) ah))))
  (ai (dQ (a_ iW (pv 8) ak (bG _))
   (av (aM (ja (af (pv 4) (af (pv 5) ah)))))
   (b8))
  (av (aM (ja (af (aH lJ hr (af (pv 4) (af (pv 6) ah))) (af (au bU (au bU (pv 5) (pv 7)) (aH oh hr (af (pv 8) (af (pv 0) ah)))) ah)))))))))),?_⟩
 obtain⟨k2,hk2,ek2⟩:=i_ (a.fdiv 4) (show 0<2 by decide)
 refine⟨_,rfl,_,rfl,_,rfl,aT rfl,λp1 n1=>?_⟩
 generalize hH1:L2.upd H p1 _=H1;obtain⟨g1,e1⟩:=aV n1 hH1;clear hH1;obtain⟨m,hm,m1,m6,m3⟩:∃m:Nat,qV [V.int 6,.int 3] ((a.fdiv 4).fmod 2)=j? (.int (m:Int))/\1<=m/\m<=6/\((a.fdiv 4).fmod 2≠0->m<=3):=by
  rw[show(a.fdiv 4).fmod 2=(k2:Int) from ek2]
  match k2,hk2 with
  | 0,_=>exact⟨6,rfl,by decide,by decide,λz=>Jg rfl z⟩
  | 1,_=>exact⟨3,rfl,by decide,by decide,λ_=>by decide⟩
 refine⟨_,rfl,_,_,rfl,rfl,(Bd.small (by decide) (by decide)).dv (by decide),_,_,rfl,rfl,(show(2:Int)≠0 by decide),p1,_,_,_,rfl,rfl,aO.of e1,hm,?_⟩
 refine⟨p,a,m,rfl,hp,hp2,m1,m6,λf n ix t l H2 g2 et el pf CJ nm=>?_⟩
 have QU:=g1.trans g2;refine⟨t,_,rfl,j5.of et,rfl,_,_,rfl,_,_,rfl,rfl,?_⟩
 refine⟨_,rfl,_,_,rfl,rfl,(Bd.small (by decide) (by decide)).dv (by decide),_,_,rfl,rfl,(show(2:Int)≠0 by decide),rfl,_,rfl,fV (λc1=>?_) (λc1=>?_)⟩
 ·obtain⟨k7,hk7,ek7⟩:=i_ b (show 0<7 by decide)
  have ek7:b.fmod 7=(k7:Int):=ek7;refine⟨_,rfl,_,rfl,_,_,rfl,rfl,(show(7:Int)≠0 by decide),_,_,rfl,rfl,l,f,_,8,rfl,aO.of el,by rw[pf.len];omega,pf.GK.mono (by omega),(by show(b.fmod 7-3).natAbs<2 ^ 8;omega),by decide,by decide,λr H3 g3 nr er=>?_⟩
  refine⟨_,rfl,aT rfl,λp4 n4=>?_⟩
  generalize hH4:L2.upd H3 p4 _=H4;obtain⟨g4,e4⟩:=aV n4 hH4;exact q _ n _ p4 r H4 ((QU.trans g3).trans g4) e4 (g4 _ _ er) (pf.shift (by show(b.fmod 7-3).natAbs<=_;omega)) CJ (by omega)
 have m3:=m3 λz=>c1 (Jb (Je V.int z))
 refine⟨_,rfl,_,rfl,p,b,3,rfl,hp,hp2,by decide,by decide,λg n' ix' t' l' H3 g3 et' el' pg acV nm'=>?_⟩
 refine⟨t',_,rfl,j5.of et',rfl,_,_,rfl,_,_,rfl,rfl,?_⟩
 have g03:=QU.trans g3;refine⟨_,rfl,_,rfl,_,rfl,_,_,rfl,rfl,aT rfl,λp4 n4=>?_⟩
 generalize hH4:L2.upd H3 p4 _=H4;obtain⟨g4,e4⟩:=aV n4 hH4;clear hH4;obtain⟨sh,hsh,s0,s1⟩:∃sh:Nat,qV [V.int 0,.int 1,.int (p:Int),.int ((p:Int)+1),.int 3] ((b.fdiv 3).fmod 5)=j? (.int (sh:Int))/\0<=sh/\sh<=48:=by
  obtain⟨k,hk,ek⟩:=i_ (b.fdiv 3) (show 0<5 by decide)
  rw[show(b.fdiv 3).fmod 5=(k:Int) from ek]
  match k,hk with
  | 0,_=>exact⟨0,rfl,by decide,by decide⟩
  | 1,_=>exact⟨1,rfl,by decide,by decide⟩
  | 2,_=>exact⟨p,rfl,by omega,by omega⟩
  | 3,_=>exact⟨p+1,rfl,by omega,by omega⟩
  | 4,_=>exact⟨3,rfl,by decide,by decide⟩
 refine⟨_,rfl,_,_,rfl,rfl,(Bd.small (by decide) (by decide)).dv (by decide),_,_,rfl,rfl,(show(5:Int)≠0 by decide),p4,_,_,_,rfl,rfl,aO.of e4,hsh,?_⟩
 refine⟨l',g,_,8,rfl,aO.of (g4 _ _ el'),by rw[pg.len];omega,pg.GK.mono (by omega),(by show(sh:Int).natAbs<2 ^ 8;omega),by decide,by decide,λr H5 g5 nr er=>?_⟩
 have Nt:Pw 2 (fh (sh:Int) g) n':=pg.shift (by omega)
 generalize fh (sh:Int) g=gs at er Nt;have Ol:=(g3.trans g4).trans g5;have Rx:=Ol _ _ el;have UN:=pf.mono (show 1<=2 by decide)
 refine⟨_,rfl,_,rfl,l,r,f,gs,n,1100,rfl,aO.of Rx,aO.of er,pf.len,CJ,by omega,by rw[Nt.len];omega,pf.mon,.inr (by rw[Nt.mon.2];decide),pf.GK.mono (by omega),Nt.GK.mono (by omega),by decide,by omega,UN.ent CJ (by omega) (by rw[Nt.len];omega) (λk=>Yn (Nt.Um (by omega) k) (Y2 (by decide) (by decide))) (vM UN.top CJ λm hm=>bF hm),λH6 g6=>?_⟩
 generalize det n _=both;have g06:=(QU.trans Ol).trans g6;refine⟨_,rfl,rfl,_,rfl,fV (λc2=>?_) (λc2=>?_)⟩
 ·refine⟨_,rfl,_,rfl,aT rfl,λp7 n7=>?_⟩
  generalize hH7:L2.upd H6 p7 _=H7;obtain⟨g7,e7⟩:=aV n7 hH7;exact q f n _ p7 l H7 (g06.trans g7) e7 (g7 _ _ (g6 _ _ Rx)) UN CJ (by omega)
 have c2':both≠0:=λz=>c2 (Jb (Je V.int z))
 refine⟨_,rfl,_,rfl,l,r,f,gs,rfl,aO.of (g6 _ _ Rx),aO.of (g6 _ _ er),by rw[pf.len];omega,by rw[Nt.len];omega,pf.GK.mono (by omega),Nt.GK.mono (by omega),λr7 H7 g7 nr7 er7=>?_⟩
 refine⟨_,rfl,_,rfl,_,_,rfl,rfl,_,rfl,_,rfl,both,(p:Int),rfl,c2',by omega,by omega,λv hv=>⟨_,_,rfl,rfl,aT rfl,λp8 n8=>?_⟩⟩
 generalize hH8:L2.upd H7 p8 _=H8;obtain⟨g8,e8⟩:=aV n8 hH8;exact q _ (n+n') _ p8 r7 H8 ((g06.trans g7).trans g8) e8 (g8 _ _ er7) (UN.mul Nt) (by omega) (by omega)
end
theorem WV {p:Nat}(h:p∈PR):Mi (V.int (p:Int)) Tw=true:=by
 unfold Mi Tw;rw[List.any_eq_true];exact⟨_,List.mem_map.mpr ⟨p,h,rfl⟩,by show((p:Int) ==(p:Int))=true;exact beq_self_eq_true _⟩
theorem TU {K:bM}{H:Hp}{p:Nat}(h:p∈PR):pT K H (.int (p:Int)) true:=by
 rw[<- WV h];exact .int _
theorem Nu {H:Hp}{a:o?}{f g:List Int}(h:H a=j? (.lst (f.map V.int)))(h':H a=j? (.lst (g.map V.int))):f=g:=by
 rw[h] at h';exact(List.map_inj_right (f:=V.int) λ_ _ z=>V.int.inj z).mp (HO.lst.inj (M? h'))
theorem Nv {H:Hp}{Pp a:o?}{xs:List V}(t:gK i8 Pp H)(h:H a=j? (.lst xs)):del H Pp a=j? (.lst xs):=by
 obtain⟨ps,hps,_⟩:=t;rw[jL (λz=>by rw[z,hps] at h;cases h)];exact h
structure ED (H:Hp)(n:Nat)(G:Nat->Vc)(k:Nat->Nat)(vs:List V):Prop where
 len:vs.length=n
 at_:∀i,i<n->∃t l,vs[i]?=j? (.ref t)/\H t=j? (.tup [.ref l,.int (k i:Int)])/\H l=j? (.lst ((lv (i+1) (G i)).map V.int))
theorem ED.same {H H':Hp}{n:Nat}{G:Nat->Vc}{k:Nat->Nat}{vs:List V}(h:ED H n G k vs)(g:aF H H'):ED H' n G k vs:=⟨h.len,λi hi=>by
 obtain⟨t,l,h1,h2,h3⟩:=h.at_ i hi;exact⟨t,l,h1,g _ _ h2,g _ _ h3⟩⟩
theorem ED.get {H:Hp}{n:Nat}{G:Nat->Vc}{k:Nat->Nat}{vs:List V}(h:ED H n G k vs){i:Nat}{x:V}(hx:vs[i]?=j? x):i<n/\∃t l,x=.ref t/\H t=j? (.tup [.ref l,.int (k i:Int)])/\H l=j? (.lst ((lv (i+1) (G i)).map V.int)):=by
 have hi:i<n:=by have:=(List.getElem?_eq_some_iff.mp hx).1;rw[h.len] at this;exact this
 obtain⟨t,l,h1,h2,h3⟩:=h.at_ i hi;rw[h1] at hx;cases hx;exact⟨hi,t,l,rfl,h2,h3⟩
theorem Nx {R:Type}[Lean.Grind.CommRing R]{n p k:Nat}{el:Vc->R}{ip:R}{N:Nat->Vc}(B:nM n el)(inv:nt R p*ip=1)(M:MulOk n p el ip k 0 N):∀a,BR (Of el) (nt R p) (p ^ k) a->Of el a:=by
 intro a ha;obtain⟨x,hx⟩:=ha.1;have ea:a=ip*el x:=by rw[<- hx];grind
 rw[ea] at ha;obtain⟨v,z,hv,hz⟩:=M.all x ha;have v0:∀i,v i=0:=by
  have key:∀(l:List Vc) (v:Vc),iy l v->l=[]->∀i,v i=0:=by
   intro l v h e;induction h with
   | zero=>intro i;rfl
   | add a hm _ _=>rw[e] at hm;cases hm
  exact key _ _ hv rfl
 refine⟨z,?_⟩
 rw[ea,B.sup x (λi=>(p:Int)*z i) λi hi=>by rw[hz i hi,v0 i];omega,B.smul,cQ]
 grind
inductive Gf  (vs:List V)(H:Hp)(Q:VK)(xF:XK):Prop where
 | mk (a b:o?) (h f:List Int) (n:Nat) (u9:vs=[.ref a,.ref b]) (u_:H a=j? (.lst (h.map V.int))) (vc:H b=j? (.lst (f.map V.int))) (ve:f.length=n+1) (vf:L2.dM f) (vg:1<=n) (xG:n<=6) (zx:h.length<=20) (A6:fY 2000 h) (Eb:fY 300 f) (vh:∀(ρ:Vc) r H',aF H H'->kT (aq f) n (aq h) ρ->(∀m,Bd 10000 (ρ m))->Rep H' (dG H) r (rE n ρ)->Q r H')
section
theorem AQ (B:iw mg)(F:Src K mg "_law_rest_by" nW nO):b9 P w K mg base 1 "_law_rest_by" nO Gf:=by
 refine F.ok gY (λvs H Q E h=>?_) (λfa cdv A outer s H vs Q E hr h=>?_)
 ·obtain⟨a,b,h,f,n,rfl,_⟩:=h;rfl
 obtain⟨a,b,h,f,n,rfl,ha,hb,lf,mf,hn,Ga,lh,bh,bf,q⟩:=h;refine⟨_,ai (aC (i:=2) gY.nd rfl (z? rfl) (jx fN rfl B.list lU (af (pv 0) ah)))
  (ai (bZ D? rfl (GP rfl B.range (af (au bO (aJ (aN (K:=K) rfl) rfl B.len bN (af (pv 0) ah)) (aJ (aN (K:=K) rfl) rfl B.len bN (af (pv 1) ah))) (af (vX pX ak) (af (vX pX ak) ah)))) (aA (i:=3) gY.nd rfl (z? rfl))
   (ai (aC (i:=4) gY.nd rfl (z? rfl) (bI (aI (K:=K) rfl) (pv 2) (au bO (au bU (pv 3) (aJ (aN (K:=K) rfl) rfl B.len bN (af (pv 1) ah))) ak) (λ_ _=>rfl)))
   (av (bZ D? rfl (bC rfl B.range (af (aJ (aN (K:=K) rfl) rfl B.len bN (af (pv 1) ah)) ah)) (aA (i:=5) gY.nd rfl (z? rfl))
    (av (lK (au bO (bI (aI (K:=K) rfl) (pv 2) (au bU (pv 3) (pv 5)) (λ_ _=>rfl)) (au aW (pv 4) (bI (aI (K:=K) rfl) (pv 1) (pv 5) (λ_ _=>rfl)))) (Dc (pv 2) (au bU (pv 3) (pv 5)) set_list)))))))
  (av (aM (au eL (dU (dW (K:=K) rfl) (pv 2) fm (fq (au bO (aJ (aN (K:=K) rfl) rfl B.len bN (af (pv 1) ah)) ak))) (au jF (aZ (af ak ah)) (aJ (yT rfl) rfl B.«max» Dl (af ak (af (au bO (au bO (aJ (aN (K:=K) rfl) rfl B.len bN (af (pv 1) ah)) ak) (aJ (aN (K:=K) rfl) rfl B.len bN (af (pv 0) ah))) ah)))))))),?_⟩
 refine⟨_,rfl,a,_,rfl,.inl (aO.of ha),λp1 n1=>?_⟩
 generalize hH1:L2.upd H p1 _=H1;obtain⟨g1,e1⟩:=aV n1 hH1;clear hH1;obtain⟨N,hN⟩:∃N,N=h.length-(f.length-1):=⟨_,rfl⟩;refine⟨_,rfl,a,_,rfl,.inl (aO.of (g1 _ _ ha)),_,rfl,b,_,rfl,.inl (aO.of (g1 _ _ hb)),_,_,rfl,rfl,1,rfl,1,rfl,_,_,rfl,⟨by rw[Ya,Ya];omega,by rw[Ya,Ya];omega,by decide,by decide⟩,?_⟩
 rw[Ya,Ya,show((h.length:Int)-(f.length:Int) -(-1)).toNat=N by omega]
 refine rG (λi σ H2=>aF H H2/\∃(Qr R:List Int) (o3 o4 o5:Option V),σ=[Rq a,Rq b,Rq p1,o3,o4,o5]/\H2 p1=j? (.lst (R.map V.int))/\wD h f N i Qr R/\fY (2000+i*302) R) ⟨g1,[],h,_,_,_,rfl,e1,⟨rfl,rfl,λm hm=>?_,λm h1 h2=>by omega,λh=>Jg h (by decide)⟩,bh.mono (by omega)⟩ ?_ ?_
 ·have hz:conv (HP N 0 []) f m=0:=by
   rw[qe (f':=[]) (g':=f) (λa=>?_) (λ_=>rfl)]
   ·rfl
   ·unfold HP
    rw[List.reverse_nil,List.append_nil,cM,gR]
  rw[hz];omega
 ·rintro i σ H2 hi ⟨gg,Qr,R,o3,o4,o5,rfl,eR,D,bR⟩
  have lr:=D.lr;rw[show(h.length:Int)-(f.length:Int)-(i:Int)=((N-1-i:Nat):Int) by omega]
  refine⟨_,rfl,_,rfl,_,rfl,b,_,rfl,.inl (aO.of (gg _ _ hb)),_,_,rfl,rfl,_,_,rfl,rfl,p1,_,_,.int (aq R (N-1-i+(f.length-1))),rfl,rfl,aO.of eR,?_,?_⟩
  ·rw[Ya,show((N-1-i:Nat):Int)+(f.length:Int)-1=((N-1-i+(f.length-1):Nat):Int) by omega]
   have:=eT (ns:=R) (i:=((N-1-i+(f.length-1):Nat):Int)) (by omega) (by omega)
   rw[Yf] at this;exact this
  generalize pN:aq R (N-1-i+(f.length-1))=lead;have zy:Bd (2000+i*302) lead:=pN ▸ bR.aq _;refine⟨_,rfl,b,_,rfl,.inl (aO.of (gg _ _ hb)),_,rfl,by rw[Ya];omega,by rw[Ya];omega,?_⟩
  rw[Ya,Yf];refine cI (λj σ H3=>aF H H3/\∃(R':List Int) (o5:Option V),σ=[Rq a,Rq b,Rq p1,Iq ((N-1-i:Nat)),j? (.int lead),o5]/\H3 p1=j? (.lst (R'.map V.int))/\LO f R R' (N-1-i) lead j/\fY (2000+(i+1)*302) R') ⟨gg,R,_,rfl,eR,LO.start ..,bR.mono (by omega)⟩ ?_ ?_
  ·rintro j σ H3 hj ⟨g3,R',o5,rfl,Oi,hR,Qq⟩
   have hij:N-1-i+j<R.length:=by omega
   have Nb:N-1-i+j<R'.length:=by rw[hR.1];exact hij
   have a1:=eT (ns:=f) (i:=0+(j:Int)) (by omega) (by omega)
   have a2:=eT (ns:=R') (i:=((N-1-i:Nat):Int)+(0+(j:Int))) (by omega) (by omega)
   rw[show((0:Int)+(j:Int)).toNat=j by omega] at a1
   rw[show(((N-1-i:Nat):Int)+(0+(j:Int))).toNat=N-1-i+j by omega] at a2
   refine⟨_,rfl,_,rfl,_,rfl,_,_,rfl,rfl,p1,_,_,_,rfl,rfl,aO.of Oi,a2,_,rfl,_,rfl,_,rfl,b,_,_,_,rfl,rfl,aO.of (g3 _ _ hb),a1,_,_,rfl,rfl,xD (zy.mono (by omega)) ((bf.aq j).mono (by decide)),_,_,rfl,rfl,?_⟩
   refine⟨_,rfl,_,rfl,_,rfl,_,_,rfl,rfl,p1,_,_,N-1-i+j,rfl,rfl,Oi,?_,?_⟩
   ·rw[Ya,rO (by omega) (by omega)];congr 1;omega
   refine⟨g3.aX n1 _,R'.set (N-1-i+j) (aq R' (N-1-i+j)-lead*aq f j),_,rfl,?_,hR.step (t:=N-1-i) hij,wo λm hm=>?_⟩
   ·rw[iZ];exact ay
   ·rw[nC Nb]
    split
    ·have e1:=hR.2 (N-1-i+j) hij
     rw[W9 (by omega)] at e1
     rw[e1];have b1:Bd (2000+i*302) (aq R (N-1-i+j)-0):=by rw[Int.sub_zero];exact bR.aq _
     exact(b1.sub (zy.mul (bf.aq j))).mono (by omega)
    ·exact Qq.aq m
  ·rintro σ H3 ⟨g3,R',o5,rfl,Oi,hR,Qq⟩
   rw[<- pN] at hR;exact⟨g3,Qr++[aq R (N-1-i+(f.length-1))],R',_,_,_,rfl,Oi,D.next mf hN hi hR,Qq⟩
 ·rintro σ H2 ⟨gg,Qr,R,o3,o4,o5,rfl,eR,D,bR⟩
  have dn:=D.done mf hN;have lr:=D.lr;refine⟨_,rfl,_,rfl,b,_,rfl,.inl (aO.of (gg _ _ hb)),_,_,rfl,rfl,(n:Int),Je V.int (by rw[Ya];omega),p1,_,rfl,aO.of eR,λp2 n2=>?_⟩
  rw[wu];generalize hH3:L2.upd H2 p2 _=H3;obtain⟨g3,e3⟩:=aV n2 hH3;clear hH3;refine⟨aT rfl,λp4 n4=>?_⟩
  generalize hH4:L2.upd H3 p4 _=H4;obtain⟨g4,e4⟩:=aV n4 hH4;clear hH4;have gA:=(gg.trans g3).trans g4;refine⟨_,rfl,b,_,rfl,.inl (aO.of (gA _ _ hb)),_,_,rfl,rfl,_,rfl,a,_,rfl,.inl (aO.of (gA _ _ ha)),_,_,rfl,rfl,_,_,rfl,p4,((n-h.length:Nat):Int),_,rfl,Je V.int (by rw[Ya,Ya];split <;> omega),e4,by omega,by omega,by rw[C?,Yf];show 1*_<=_;omega,λp5 n5=>?_⟩
  rw[Yf,rep0];generalize hH5:L2.upd H4 p5 _=H5;obtain⟨g5,e5⟩:=aV n5 hH5;clear hH5;refine⟨p2,p5,_,_,rfl,rfl,g5 _ _ (g4 _ _ e3),e5,by rw[C?,Ya,Ya,Yt,Yp];omega,λp6 n6=>?_⟩
  generalize hH6:L2.upd H5 p6 _=H6;obtain⟨g6,e6⟩:=aV n6 hH6;clear hH6;have lo:∀m,n<=m->aq R m=0:=λm hm=>by
   rw[<- Sk];have:=dn.len
   exact bF (by omega)
  have gB:=(gA.trans g5).trans g6;refine q (aq R) _ H6 gB ⟨⟨aq Qr.reverse,Qr.reverse.length,λm hm=>bF hm,λm=>by rw[dn.eq m,zX,Sk]⟩,lo⟩ (λm=>(bR.aq m).mono (by omega)) (nK ?_ (((gA.trans g5)).free n6))
  rw[e6,<- Yq];congr 3
  refine Ze λm=>?_
  by_cases hm:m<n
  ·rw[cE hm]
   by_cases hr:m<R.length
   ·rw[Y3 (by rw[Yt];omega),List.getElem?_take_of_lt hm,Yc hr]
    unfold aq;rw[Yb,Yc hr];rfl
   ·rw[Y5 (by rw[Yt];omega),Yt,Zl,Ja (by omega),bF (by omega)]
  ·rw[List.getElem?_eq_none_iff.mpr (by rw[Yi,Yt,Yp];omega),List.getElem?_eq_none_iff.mpr (by rw[aQ];omega)]
end
def pI (p E:Nat)(G:Nat->Vc)(k:Nat->Nat):Nat->Vc:=λi j=>(p:Int) ^ (E-k i)*G i j
inductive Gg  (vs:List V)(H:Hp)(Q:VK)(xF:XK):Prop where
 | mk (a:o?) (us:List V) (n p:Nat) (G:Nat->Vc) (k:Nat->Nat) (u9:vs=[.ref a,.int (n:Int),.int (p:Int)]) (u_:H a=j? (.lst us)) (vc:ED H n G k us) (ve:1<=n) (vf:n<=6) (vg:2<=p) (xG:p<48) (zx:(∀i,i<n->k i<=12)) (A6:(∀i j,i<n->Bd 100 (G i j))) (Eb:(∀i,i<n->∀j,i<j->G i j=0)) (vh:∀(E:Nat) t r H',aF H H'->E<=12->(∀i,i<n->k i<=E)->H' t=j? (.tup [.int (E:Int),r])->Rep H' (dG H) r (mE n n (pI p E G k))->Q (.ref t) H')
section
theorem Hw (B:iw mg)(iL:b9 P w K mg base 1 "_law_power" BZ xT)(F:Src K mg "_law_rows" jS Kf):b9 P w K mg base 2 "_law_rows" Kf Gg:=by
 refine F.ok zw (λvs H Q E h=>?_) (λfa cdv A outer s H vs Q E hr h=>?_)
 ·obtain⟨a,us,n,p,G,k,rfl,_⟩:=h;rfl
 obtain⟨a,us,n,p,G,k,rfl,ha,ba,hn,Ga,hp,hp2,hk,hG,jB,q⟩:=h;refine⟨_,ai (aC (i:=3) zw.nd rfl (Or.inr rfl) (aJ (Ds (K:=K) rfl rfl) rfl B.«max» Dl (af (bY (aG (N:=["_law_g","_law_k"]) (sl:=[q?,q?]) (ao jS) Qg rfl rfl (by decide +kernel)) rfl (bE (K:=K) rfl (pv 0)) (λ_ _ _ _ _=>(cG (n:=2) (K:=K) rfl rfl (aP (aA (i:=0) (Yk_ ["_law_g","_law_k"]) rfl (z? rfl)) (aP (aA (i:=1) (Yk_ ["_law_g","_law_k"]) rfl (z? rfl)) cF)))) (λ_ _ _ _ _=>aR) (λ_ _ _ _ _=>(pv 1))) ah)))
  (av (aM (ja (af (pv 3) (af (rY (f9 (N:=M4) (sl:=[q?,q?,j? 1,j? 2,j? 3]) "_law_k" (ao jS) Qg rfl rfl (by decide +kernel)) rfl (bE (K:=K) rfl (pv 0)) (λ_ _ _ _ _=>(cG (n:=2) (K:=K) rfl rfl (aP (aA (i:=0) (Yk_ M4) rfl (z? rfl)) (aP (aA (i:=1) (Yk_ M4) rfl (Or.inr rfl)) cF)))) (λ_ _ _ _ _=>aR) (λ_ _ _ _ _=>(bY (aG (N:=["_law_one","_law_p","_law_most","_law_k"]) (sl:=[q?,j? 3,j? 4,j? 1]) (nF (MW ((cA jS).getD 1 (.Pass ⟨0,0,0,0⟩))) (ao jS)) M4 rfl rfl (by decide +kernel)) rfl (bE (K:=K) rfl (au eL (pv 0) (au jF (aZ (af ak ah)) (au bO (pv 2) (aJ (aN (K:=K) rfl) rfl B.len bN (af (pv 0) ah)))))) (λ_ _ _ _ _=>(aA (i:=0) (Yk_ ["_law_one","_law_p","_law_most","_law_k"]) rfl (z? rfl))) (λ_ _ _ _ _=>aR) (λ_ _ _ _ _=>(au aW (pv 0) (aH iL hr (af (pv 1) (af (au bO (pv 2) (pv 3)) ah)))))))) ah))))),?_⟩
 refine⟨_,rfl,a,rfl,⟨_,aO.of ha⟩,λD hD=>?_⟩
 refine nL (λi=>.num (k i:Int)) (n:=n) ba.len ha hD (by omega) (λi vx H2 Q2 hi g2 ig q2=>?_) λH2 g2 rr=>?_
 ·obtain⟨_,t,l,rfl,ht,hl⟩:=ba.get ig
  exact⟨t,_,rfl,j5.of (g2 _ _ ht),rfl,_,_,rfl,_,_,rfl,rfl,_,rfl,q2 _ H2 (aF.refl _) (.num _)⟩
 obtain⟨lD,eD,Hr,_⟩:=cS (n:=n) (v:=λi=>(k i:Int)) rr
 cases eD;refine⟨D,_,rfl,aO.of Hr,(λz=>by have:=Je W1 z;rw[aQ] at this;simp at this;omega),λM hM1 hM2=>?_⟩
 obtain⟨E,eE,QV,hE⟩:∃E:Nat,M=(E:Int)/\E<=12/\∀i,i<n->k i<=E:=by
  unfold lv at hM1 hM2;obtain⟨i0,hi0,rfl⟩:=List.mem_map.mp hM1;refine⟨k i0,rfl,hk i0 (List.mem_range.mp hi0),λi hi=>?_⟩
  have:=hM2 _ (List.mem_map.mpr ⟨i,List.mem_range.mpr hi,rfl⟩)
  omega
 subst eE;have ba2:=ba.same g2;refine⟨_,rfl,_,rfl,a,rfl,⟨_,aO.of (g2 _ _ ha)⟩,λD2 yx=>?_⟩
 refine nL (λi=>rE n (pI p E G k i)) (n:=n) ba.len (g2 _ _ ha) yx (by omega) (λi vx H3 Q3 hi g3 ig q3=>?_) λH3 g3 LV=>?_
 ·obtain⟨_,t,l,rfl,ht,hl⟩:=(ba2.same g3).get ig
  refine⟨t,_,rfl,j5.of ht,rfl,_,_,rfl,_,_,rfl,rfl,?_⟩
  refine⟨_,rfl,aT rfl,λp4 n4=>?_⟩
  generalize hH4:L2.upd H3 p4 _=H4;obtain⟨g4,e4⟩:=aV n4 hH4;clear hH4;refine⟨_,rfl,_,rfl,l,_,rfl,.inl (aO.of (g4 _ _ hl)),_,_,rfl,rfl,p4,((n-(i+1):Nat):Int),_,rfl,Je V.int (by rw[Ya,aQ];omega),e4,by omega,by omega,by rw[C?,Yf];show 1*_<=_;omega,λp5 n5=>?_⟩
  rw[Yf,rep0];generalize hH5:L2.upd H4 p5 _=H5;obtain⟨g5,e5⟩:=aV n5 hH5;clear hH5;refine⟨l,p5,_,_,rfl,rfl,g5 _ _ (g4 _ _ hl),e5,by rw[C?,Ya,Ya,aQ,Yp];omega,λp6 n6=>?_⟩
  generalize hH6:L2.upd H5 p6 _=H6;obtain⟨g6,e6⟩:=aV n6 hH6;clear hH6;rw[<- Yq] at e6;have hlen:(lv (i+1) (G i)++Yo (n-(i+1)) 0).length=n:=by rw[Yi,aQ,Yp];omega
  refine⟨p6,rfl,⟨_,aO.of e6⟩,λD4 V5=>?_⟩
  have g36:=(g4.trans g5).trans g6;refine nL (λj=>.num (pI p E G k i j)) (n:=n) (by rw[Ya];exact hlen) e6 V5 (by omega) (λj vz H7 Q7 hj g7 Tj q7=>?_) λH7 g7 HS=>q3 _ H7 (g36.trans g7) (HS.older g36)
  obtain⟨y,hy,rfl⟩:=aS Tj;have ey:y=G i j:=by
   by_cases c:j<i+1
   ·rw[Y3 (by rw[aQ];exact c),cE c] at hy
    exact(M? hy).symm
   ·rw[Y5 (by rw[aQ];omega),Zl,aQ,Ja (by omega)] at hy
    rw[jB i hi j (by omega)]
    exact(M? hy).symm
  subst ey;have hEi:=hE i hi;refine⟨_,rfl,_,rfl,_,rfl,_,rfl,_,_,rfl,rfl,p,E-k i,Je (λz=>[V.int (p:Int),V.int z]) (by omega),hp,by omega,by omega,_,_,rfl,rfl,Bd.ok (hG i j hi) (vP (m:=100) (by omega) (by omega)),?_⟩
  show Q7 (V.int (G i j*((p ^ (E-k i):Nat):Int))) H7
  have e:G i j*((p ^ (E-k i):Nat):Int)=pI p E G k i j:=by unfold pI;rw[Wi,Z0]
  rw[e];exact q7 _ H7 (aF.refl _) (.num _)
 ·refine⟨aT rfl,λp4 n4=>?_⟩
  generalize hH4:L2.upd H3 p4 _=H4;obtain⟨g4,e4⟩:=aV n4 hH4;exact q E p4 (.ref D2) H4 ((g2.trans g3).trans g4) QV hE e4 ((LV.older g2).same g4)
end
theorem AR {f:Fn}{n:Nat}{v:Vc}{i:Nat}(hi:i<n)(j:Nat):m_ f n v i j=bw n λa=>v a*tk f n (a+i) j:=by
 show sm n v (λa k=>sm n (un i) (λb=>tk f n (a+b)) k) j=_
 rw[dh];exact aD λa _=>by
  congr 1
  exact gT hi
theorem CL {f:Fn}{n:Nat}{v:Vc}{j:Nat}(hj:j<n):m_ f n v 0 j=v j:=by
 rw[AR (by omega),aD (g:=λa=>v a*dD a j) λa ha=>by
  rw[Wy,nN a ha];rfl,k_ hj]
theorem Le {f:Fn}{n:Nat}{v:Vc}{i:Nat}(hi:i+1<n)(j:Nat):m_ f n v (i+1) j=(if j=0 then 0 else m_ f n v i (j-1))-m_ f n v i (n-1)*f j:=by
 rw[AR hi,Oa,AR (by omega),AR (by omega)]
theorem AS {f:List Int}{n b:Nat}{v:Vc}(bf:fY 300 f)(bv:∀j,j<n->Bd b (v j)):∀i,i<n->∀j,j<n->Bd (b+302*i) (m_ (aq f) n v i j)
 | 0,_,j,hj=>by rw[CL hj];exact(bv j hj).mono (by omega)
 | i+1,hi,j,hj=>by
  rw[Le hi];have h1:Bd (b+302*i) (if j=0 then 0 else m_ (aq f) n v i (j-1)):=by
   split
   ·show Zo 0<_;exact Zu (by decide)
   ·exact AS bf bv i (by omega) _ (by omega)
  have h2:Bd (b+302*i+300) (m_ (aq f) n v i (n-1)*aq f j):=(AS bf bv i (by omega) _ (by omega)).mul (bf.aq j)
  exact(h1.sub h2).mono (by omega)
def Ry (f:Fn)(n:Nat)(u:Vc):Vc:=λj=>if j<n then (if j=0 then 0 else u (j-1))-u (n-1)*f j else 0
theorem QW {f:Fn}{n:Nat}{u:Vc}(hf:Top f n)(hn:1<=n):kT f n (aq (0::lv n u)) (Ry f n u):=by
 refine⟨⟨λi=>u (n-1)*xp 0 i,1,λm hm=>by show u (n-1)*(if m=0 then 1 else 0)=0;rw[W9 (by omega)];omega,λm=>?_⟩,λm hm=>W9 (by omega)⟩
 rw[Fp,i6,Ja (Y1 m),Nat.sub_zero];unfold Ry;cases m with
 | zero=>
  rw[wM,Ja (by omega),Ja rfl];omega
 | succ m=>
  rw[wN,oQ];by_cases c:m+1<n
  ·rw[Ja (by omega),Ja c,W9 (by omega),Wa];omega
  ·rw[W9 c]
   by_cases e:m+1=n
   ·rw[Ja (by omega),e,hf.one,show m=n-1 by omega];omega
   ·rw[W9 (by omega),hf.top _ (by omega)];simp
theorem Ny {f:Fn}{n:Nat}{v:Vc}{i:Nat}(hi:i+1<n){j:Nat}(hj:j<n):Ry f n (m_ f n v i) j=m_ f n v (i+1) j:=by
 unfold Ry;rw[Ja hj,Le hi]
inductive Lf  (vs:List V)(H:Hp)(Q:VK)(xF:XK):Prop where
 | mk (a:o?) (rv:V) (f:List Int) (n:Nat) (v:Vc) (u9:vs=[.ref a,rv]) (u_:H a=j? (.lst (f.map V.int))) (vc:f.length=n+1) (ve:L2.dM f) (vf:1<=n) (vg:n<=6) (xG:fY 300 f) (zx:Rep H Any rv (rE n v)) (A6:(∀m,m<n->Bd 300 (v m))) (Eb:∀r H',aF H H'->Rep H' (dG H) r (mE n n (m_ (aq f) n v))->Q r H')
section
theorem EE (B:iw mg)(CM:b9 P w K mg base 1 "_law_rest_by" nO Gf)(F:Src K mg "_law_table" ue Ku):b9 P w K mg base 2 "_law_table" Ku Lf:=by
 refine F.ok iJ (λvs H Q E h=>?_) (λfa cdv A outer s H vs Q E hr h=>?_)
 ·obtain⟨a,rv,f,n,v,rfl,_⟩:=h;rfl
 obtain⟨a,rv,f,n,v,rfl,ha,lf,mf,hn,Ga,bf,rr,bv,q⟩:=h;obtain⟨lr,rfl,hlr,_⟩:=cS rr;refine⟨_,ai (aC (i:=2) iJ.nd rfl (z? rfl) (au bO (aJ (aN (K:=K) rfl) rfl B.len bN (af (pv 0) ah)) ak))
  (ai (aC (i:=3) iJ.nd rfl (z? rfl) (aZ ah))
  (ai (aC (i:=4) iJ.nd rfl (z? rfl) (jx fN rfl B.list lU (af (pv 1) ah)))
  (ai (bZ D? rfl (bC rfl B.range (af (pv 2) ah)) (aA (i:=5) iJ.nd rfl (z? rfl))
   (ai (d9 (mW R? F! G! c8 (pv 3) (af (jx fN rfl B.list lU (af (pv 4) ah)) ah)))
   (av (aC (i:=4) iJ.nd rfl (z? rfl) (aH CM hr (af (au eL (aZ (af ak ah)) (pv 4)) (af (pv 0) ah)))))))
  (av (aM (pv 3)))))),?_⟩
 refine⟨_,rfl,a,_,rfl,.inl (aO.of ha),_,_,rfl,rfl,?_⟩
 show gE 2 (V.int (((f.map V.int).length:Int)-1)) _ _ _
 rw[Ya,lf,show(((n+1:Nat):Int)-1)=(n:Int) by omega]
 refine⟨aT rfl,λp1 n1=>?_⟩
 generalize hH1:L2.upd H p1 _=H1;obtain⟨g1,e1⟩:=aV n1 hH1;clear hH1;refine⟨_,rfl,lr,_,rfl,.inl (aO.of (g1 _ _ hlr)),λp2 n2=>?_⟩
 generalize hH2:L2.upd H1 p2 _=H2;obtain⟨g2,e2⟩:=aV n2 hH2;clear hH2;have QU:=g1.trans g2;refine⟨_,rfl,_,rfl,by omega,by omega,?_⟩
 rw[Yf];refine cI (λi σ H3=>aF H H3/\∃(r:o?) (u:Vc) (ys:List V) (o5:Option V),σ=[Rq a,Rq lr,Iq (n),Rq p1,Rq r,o5]/\H3 r=j? (.lst ((lv n u).map V.int))/\(i<n->∀j,j<n->u j=m_ (aq f) n v i j)/\H3 p1=j? (.lst ys)/\H r=q?/\r≠p1/\Cf H3 (Off H p1) ys i λi=>rE n (m_ (aq f) n v i)) ⟨QU,p2,v,[],_,rfl,e2,λ_ j hj=>(CL hj).symm,g2 _ _ e1,g1.free n2,(λz=>by rw[z,e1] at n2;cases n2),.nil⟩ ?_ ?_
 ·rintro i σ H3 hi ⟨g3,r,u,ys,o5,rfl,er,eu,ep,nr,rp,Cy⟩
  have eu:=eu hi;refine⟨_,rfl,.inl ⟨rfl,_,aO.of ep⟩,_,rfl,r,_,rfl,.inl (aO.of er),λp4 n4=>?_⟩
  generalize hH4:L2.upd H3 p4 _=H4;obtain⟨g4,e4⟩:=aV n4 hH4;clear hH4;have Uz:=g4 _ _ er;have Cy4:=Cy.same g4;have ep4:=g4 _ _ ep;have UM:=g3.trans g4;have p41:p4≠p1:=λz=>by rw[z,ep] at n4;cases n4
  refine⟨p1,_,_,rfl,rfl,ep4,by rw[Cy.len,C?];omega,?_⟩
  have r4:Rep H4 (dG H3) (.ref p4) (rE n (m_ (aq f) n v i)):=by
   rw[<- sD eu];exact nK e4 n4
  have Cy5:=(Cy4.push (r4.GR g3 ep)).upd (o:=.lst (ys++[.ref p4]));have SX:(L2.upd H4 p1 (.lst (ys++[.ref p4]))) r=j? (.lst ((lv n u).map V.int)):=by rw[aL rp];exact Uz
  have g5:aF H (L2.upd H4 p1 (.lst (ys++[.ref p4]))):=UM.aX n1 _;have Lg:(L2.upd H4 p1 (.lst (ys++[.ref p4]))) p1=j? (.lst (ys++[.ref p4])):=ay;generalize L2.upd H4 p1 (.lst (ys++[.ref p4]))=H5 at Cy5 SX g5 Lg ⊢;refine⟨aT rfl,λp6 n6=>?_⟩
  generalize hH6:L2.upd H5 p6 _=H6;obtain⟨g6,e6⟩:=aV n6 hH6;clear hH6;refine⟨_,rfl,p6,r,_,_,rfl,rfl,e6,g6 _ _ SX,by rw[C?,Ya,aQ];show 1+_<=_;omega,λp7 n7=>?_⟩
  generalize hH7:L2.upd H6 p7 _=H7;obtain⟨g7,e7⟩:=aV n7 hH7;clear hH7;have e7:H7 p7=j? (.lst ((0::lv n u).map V.int)):=e7;have bu:∀j,j<n->Bd (300+302*i) (u j):=λj hj=>by rw[eu j hj];exact AS bf bv i hi j hj
  have RA:=g6.trans g7;refine⟨_,rfl,p7,a,_,f,n,rfl,e7,RA _ _ (g5 _ _ ha),lf,mf,hn,Ga,by show(lv n u).length+1<=_;rw[aQ];omega,λx hx=>?_,bf,λρ r8 H8 g8 hρ _ WL=>?_⟩
  ·rcases List.mem_cons.mp hx with z|z
   ·rw[z];show Zo 0<_;exact Zu (by decide)
   ·unfold lv at z
    obtain⟨j,hj,rfl⟩:=List.mem_map.mp z;exact(bu j (List.mem_range.mp hj)).mono (by omega)
  ·have eρ:ρ=Ry (aq f) n u:=kT.uniq (topC lf mf) hρ (QW (topC lf mf) hn)
   obtain⟨l8,rfl,hl8,TV⟩:=cS WL;have RB:=RA.trans g8;refine⟨g5.trans RB,l8,ρ,_,_,rfl,hl8,λhi' j hj=>?_,RB _ _ Lg,?_,?_,Cy5.same RB⟩
   ·rw[eρ,<- Ny hi' hj]
    unfold Ry;rw[Ja hj,Ja hj];congr 1
    ·split
     ·rfl
     ·exact eu _ (by omega)
    ·rw[eu (n-1) (by omega)]
   ·exact(g5.trans RA).free TV
   ·intro z
    have TV:H7 l8=q?:=TV;rw[z,RA _ _ Lg] at TV;cases TV
 ·rintro σ H3 ⟨g3,r,u,ys,o5,rfl,er,eu,ep,nr,rp,Cy⟩
  exact⟨_,rfl,q _ H3 g3 (Cy.DI.rep ep n1)⟩
end
structure yk (H0 H:Hp)(a:o?)(m n:Nat)(X:Nat->Vc)(b:Nat->o?):Prop where
 top:H a=j? (.lst ((Yj m).map λi=>V.ref (b i)))
 row:∀i,i<m->H (b i)=j? (.lst ((lv n (X i)).map V.int))
 inj:∀i j,i<m->j<m->b i=b j->i=j
 new:∀i,i<m->H0 (b i)=q?
 na:H0 a=q?
theorem yk.ne {H0 H:Hp}{a:o?}{m n:Nat}{X:Nat->Vc}{b:Nat->o?}(h:yk H0 H a m n X b){i:Nat}(hi:i<m)(hm:1<=m):b i≠a:=λz=>by
 have h1:=h.row i hi;rw[z,h.top] at h1;have h2:=HO.lst.inj (M? h1);have h3:=Je (λl:List V=>l[0]?) h2
 simp only[Ye,Ys (show 0<m by omega)] at h3
 cases e:(lv n (X i))[0]? with
 | none=>rw[e] at h3;cases h3
 | some y=>rw[e] at h3;cases h3
theorem yk.same {H0 H H':Hp}{a:o?}{m n:Nat}{X:Nat->Vc}{b:Nat->o?}(h:yk H0 H a m n X b)(g:aF H H'):yk H0 H' a m n X b:=⟨g _ _ h.top,λi hi=>g _ _ (h.row i hi),h.inj,h.new,h.na⟩
theorem yk.older {G H0 H:Hp}{a:o?}{m n:Nat}{X:Nat->Vc}{b:Nat->o?}(h:yk H0 H a m n X b)(g:aF G H0):yk G H a m n X b:=⟨h.top,h.row,h.inj,λi hi=>g.free (h.new i hi),g.free h.na⟩
theorem yk.rep {H0 H:Hp}{a:o?}{m n:Nat}{X:Nat->Vc}{b:Nat->o?}(h:yk H0 H a m n X b):Rep H (dG H0) (.ref a) (mE m n X):=by
 refine Cf.rep (vs:=(Yj m).map λi=>V.ref (b i)) ⟨by rw[Ya,Yg],λi hi=>⟨.ref (b i),by rw[Ye,Ys hi];rfl,nK (h.row i hi) (h.new i hi)⟩⟩ h.top h.na
theorem yk.push {H0 H:Hp}{a s:o?}{m n:Nat}{X:Nat->Vc}{b:Nat->o?}(h:yk H0 H a m n X b)(hs:H s=j? (.lst ((lv n (X m)).map V.int)))(ns:H0 s=q?)(sa:s≠a)(ba:∀i,i<m->b i≠a)(bs:∀i,i<m->b i≠s):yk H0 (upd H a (.lst (((Yj m).map λi=>V.ref (b i))++[.ref s]))) a (m+1) n X λi=>if i=m then s else b i:=by
 refine⟨?_,λi hi=>?_,λi j hi hj e=>?_,λi hi=>?_,h.na⟩
 ·rw[ay,Wk,Yq]
  congr 3
  ·exact Zy λi hi=>by rw[W9 (by have:=List.mem_range.mp hi;omega)]
  ·show [V.ref s]=[V.ref (if m=m then s else b m)]
   rw[Ja rfl]
 ·by_cases c:i=m
  ·rw[Ja c,aL sa,c];exact hs
  ·rw[W9 c,aL (ba i (by omega))];exact h.row i (by omega)
 ·by_cases c:i=m
  ·by_cases d:j=m
   ·omega
   ·rw[Ja c,W9 d] at e;exact Jg e.symm (bs j (by omega))
  ·by_cases d:j=m
   ·rw[W9 c,Ja d] at e;exact Jg e (bs i (by omega))
   ·rw[W9 c,W9 d] at e;exact h.inj i j (by omega) (by omega) e
 ·by_cases c:i=m
  ·rw[Ja c];exact ns
  ·rw[W9 c];exact h.new i (by omega)
theorem yk.set {H0 H:Hp}{a:o?}{m n:Nat}{X:Nat->Vc}{b:Nat->o?}(h:yk H0 H a m n X b){i:Nat}(hi:i<m)(w:Vc):yk H0 (upd H (b i) (.lst ((lv n w).map V.int))) a m n (λl=>if l=i then w else X l) b:=by
 refine⟨by rw[aL (Ne.symm (h.ne hi (by omega)))];exact h.top,λl hl=>?_,h.inj,h.new,h.na⟩
 by_cases c:l=i
 ·rw[Ja c,c];exact ay
 ·rw[W9 c,aL (λz=>c (h.inj l i hl hi z))];exact h.row l hl
inductive Lh  (vs:List V)(H:Hp)(Q:VK)(xF:XK):Prop where
 | mk (x y:V) (n:Nat) (A X:Nat->Vc) (u9:vs=[x,y]) (u_:Rep H Any x (mE n n A)) (vc:Rep H Any y (mE n n X)) (ve:1<=n) (vf:n<=6) (vg:(∀i j,i<n->j<n->Bd 1000000 (A i j))) (xG:(∀i j,i<n->j<n->Bd 1000000 (X i j))) (zx:∀r b H',aF H H'->yk H H' r n n (λi j=>sm n (A i) X j) b->Q (.ref r) H')
section
theorem AU (B:iw mg)(F:Src K mg "_law_product" ki xu):b9 P w K mg base 1 "_law_product" xu Lh:=by
 refine F.ok eU (λvs H Q E h=>?_) (λfa cdv Ac outer s H vs Q E hr h=>?_)
 ·obtain⟨x,y,n,A,X,rfl,_⟩:=h;rfl
 obtain⟨x,y,n,A,X,rfl,rA,rX,hn,Ga,bA,bX,q⟩:=h;obtain⟨lA,us,rfl,Eh,_,CA⟩:=id rA.cf;obtain⟨lX,ws,rfl,WW,_,CX⟩:=id rX.cf;refine⟨_,ai (aC (i:=2) eU.nd rfl (z? rfl) (aZ ah))
  (ai (bZ D? rfl (bE (K:=K) rfl (pv 0)) (aA (i:=3) eU.nd rfl (z? rfl))
   (ai (aC (i:=4) eU.nd rfl (z? rfl) (au jF (aZ (af ak ah)) (aJ (aN (K:=K) rfl) rfl B.len bN (af (pv 1) ah))))
   (ai (bZ D? rfl (kc (K:=K) rfl rfl B.zip (af (pv 3) (af (pv 1) ah))) (cG (n:=2) (K:=K) rfl rfl (aP (aA (i:=5) eU.nd rfl (Or.inr rfl)) (aP (aA (i:=6) eU.nd rfl (z? rfl)) cF)))
    (av (dQ (a_ qZ (pv 5) ak (bG _))
     (av (gh (i:=4) eU.nd rfl (z? rfl) (aG (N:=Qf) (sl:=[q?,q?,j? 5]) (ao ki) YE rfl rfl (by decide +kernel)) rfl (kc (K:=K) rfl rfl B.zip (af (pv 4) (af (pv 6) ah))) (λ_ _ _ _ _=>(cG (n:=2) (K:=K) rfl rfl (aP (aA (i:=0) (Yk_ Qf) rfl (z? rfl)) (aP (aA (i:=1) (Yk_ Qf) rfl (z? rfl)) cF)))) (λ_ _ _ _ _=>aR) (λ_ _ _ _ _=>(au bU (pv 0) (au aW (pv 2) (pv 1))))))
     (b8))))
   (av (d9 (mW R? F! G! c8 (pv 2) (af (pv 4) ah)))))))
  (av (aM (pv 2)))),?_⟩
 refine⟨aT rfl,λp1 n1=>?_⟩
 generalize hH1:L2.upd H p1 _=H1;obtain⟨g1,e1⟩:=aV n1 hH1;clear hH1;refine⟨_,rfl,lA,rfl,⟨_,aO.of (g1 _ _ Eh)⟩,fZ (xs:=us) (λi σ H2=>aF H H2/\∃(b:Nat->o?) (o3 o4 o5 o6:Option V),σ=[Rq lA,Rq lX,Rq p1,o3,o4,o5,o6]/\yk H H2 p1 i n (λi j=>sm n (A i) X j) b/\∀l,l<i->b l≠p1) ⟨g1,λ_=>0,_,_,_,_,rfl,⟨e1,λi hi=>Jg hi (Zb i),λi j hi=>Jg hi (Zb i),λi hi=>Jg hi (Zb i),n1⟩,λi hi=>Jg hi (Zb i)⟩ (λi σ H2 _ h=>aO.of (h.1 _ _ Eh)) ?_ ?_⟩
 ·rintro i vx σ H2 ig ⟨g2,b,o3,o4,o5,o6,rfl,M,bp⟩
  obtain⟨hi,ri⟩:=CA.get ig;obtain⟨lr,rfl,hlr,_⟩:=cS ri;refine⟨aT rfl,λp3 n3=>?_⟩
  generalize hH3:L2.upd H2 p3 _=H3;obtain⟨g3,e3⟩:=aV n3 hH3;clear hH3;refine⟨_,rfl,lX,_,rfl,.inl (aO.of (g3 _ _ (g2 _ _ WW))),p3,(n:Int),_,rfl,Je V.int (by rw[CX.len]),e3,by omega,by omega,by rw[C?,Yf];show 1*_<=_;omega,λp4 n4=>?_⟩
  rw[Yf,rep0];generalize hH4:L2.upd H3 p4 _=H4;obtain⟨g4,e4⟩:=aV n4 hH4;clear hH4;have WX:=g3.trans g4;have e4:H4 p4=j? (.lst ((lv n λj=>sm 0 (A i) X j).map V.int)):=by
   rw[e4];congr 3
   refine Ze λm=>?_
   by_cases hm:m<n
   ·rw[cE hm,Zl,Ja hm];rfl
   ·rw[List.getElem?_eq_none_iff.mpr (by rw[Yp];omega),List.getElem?_eq_none_iff.mpr (by rw[aQ];omega)]
  show Ends.nx _ (List.set _ _ _) _
  dsimp only
  refine mY (λx:o?×Option V×Option V=>[Rq lA,Rq lX,Rq p1,Rq lr,Rq x.1,x.2.1,x.2.2]) (λx H9=>aF H2 H9/\H9 x.1=j? (.lst ((lv n λj=>sm n (A i) X j).map V.int))/\H2 x.1=q?) (λC key=>?_) ?_
  ·refine⟨_,rfl,_,rfl,lr,lX,rfl,⟨_,aO.of (WX _ _ (g2 _ _ hlr))⟩,⟨_,aO.of (WX _ _ (g2 _ _ WW))⟩,Fy (xs:=(lv n (A i)).map V.int) (ys:=ws) (λl σ H5=>aF H2 H5/\∃(s:o?) (o5 o6:Option V),σ=[Rq lA,Rq lX,Rq p1,Rq lr,Rq s,o5,o6]/\H5 s=j? (.lst ((lv n λj=>sm l (A i) X j).map V.int))/\H2 s=q?) (by rw[Ya,aQ,CX.len]) ⟨WX,p4,_,_,rfl,e4,g3.free n4⟩ (λl σ H5 _ h=>⟨aO.of (h.1 _ _ (g2 _ _ hlr)),aO.of (h.1 _ _ (g2 _ _ WW))⟩) ?_ ?_⟩
   ·rintro l vx vy t σ H5 ig AB ht ⟨g5,s5,o5,o6,rfl,e5,n5⟩
    obtain⟨y1,hy1,rfl⟩:=aS ig;have hl:l<n:=by have:=(List.getElem?_eq_some_iff.mp hy1).1;rw[aQ] at this;exact this
    rw[cE hl] at hy1;cases hy1;obtain⟨_,rl⟩:=CX.get AB;obtain⟨ll,rfl,BO,_⟩:=cS rl;refine⟨t,_,rfl,j5.of ay,rfl,_,_,rfl,_,_,rfl,rfl,?_⟩
    generalize hX:upd H5 t _=H6;have g6:=(aV ht hX).1;clear hX;have TX:=g5.trans g6;refine⟨_,rfl,rfl,_,rfl,fV (λc=>?_) (λc=>?_)⟩
    ·refine⟨_,rfl,_,rfl,s5,ll,rfl,⟨_,aO.of (g6 _ _ e5)⟩,⟨_,aO.of (TX _ _ (g2 _ _ BO))⟩,λD hD=>?_⟩
     refine JI (λj=>.num (sm (l+1) (A i) X j)) (n:=n) (by rw[Ya,aQ]) (by rw[Ya,aQ]) (g6 _ _ e5) (TX _ _ (g2 _ _ BO)) hD (by omega) (λj vx vy t2 H7 Q2 hj g7 ig AB WY q2=>?_) λH7 g7 rr=>?_
     ·obtain⟨y1,hy1,rfl⟩:=aS ig
      obtain⟨y2,D8,rfl⟩:=aS AB;rw[cE hj] at hy1 D8;cases hy1;cases D8;refine⟨t2,_,rfl,j5.of WY,rfl,_,_,rfl,_,_,rfl,rfl,?_⟩
      exact⟨_,rfl,_,rfl,_,rfl,_,_,rfl,rfl,(bA i l hi hl).ok (bX l j hl hj),_,_,rfl,rfl,q2 _ H7 (aF.refl _) (.num _)⟩
     ·obtain⟨lD,eD,Hr,nlD⟩:=cS (n:=n) (v:=λj=>sm (l+1) (A i) X j) rr
      cases eD;exact⟨TX.trans g7,D,_,_,rfl,Hr,TX.free nlD⟩
    ·have z:A i l=0:=by
      refine V? λw=>c ?_
      show(!decide (V.int (A i l)=V.int 0))=true
      rw[Jd λz=>w (V.int.inj z)];rfl
     refine⟨TX,s5,_,_,rfl,?_,n5⟩
     have e:(λj=>sm (l+1) (A i) X j)=λj=>sm l (A i) X j:=funext λj=>by
      show sm l (A i) X j+A i l*X l j=_
      rw[z];omega
     rw[e];exact g6 _ _ e5
   ·rintro σ H5 ⟨g5,s5,o5,o6,rfl,e5,n5⟩
    rw[Ya,aQ] at e5;exact key (s5,o5,o6) H5 ⟨g5,e5,n5⟩
  ·rintro⟨s5,o5,o6⟩ H5 ⟨g5,e5,n5⟩
   have M5:=M.same g5;have sp:s5≠p1:=λz=>by rw[z,M.top] at n5;cases n5
   have sb:∀l,l<i->b l≠s5:=λl hl z=>by rw[<- z,M.row l hl] at n5;cases n5
   refine⟨_,rfl,.inl ⟨rfl,_,aO.of M5.top⟩,_,rfl,p1,_,_,rfl,rfl,M5.top,by rw[Ya,Yg,C?];omega,?_⟩
   refine⟨(g2.trans g5).aX n1 _,_,_,_,_,_,rfl,M5.push e5 (g2.free n5) sp bp sb,λl hl=>?_⟩
   by_cases c:l=i
   ·rw[Ja c];exact sp
   ·rw[W9 c];exact bp l (by omega)
 ·rintro σ H2 ⟨g2,b,o3,o4,o5,o6,rfl,M,bp⟩
  rw[CA.len] at M;exact⟨_,rfl,q _ b H2 g2 M⟩
end
theorem Gh (x:Vc):∀k,(lv k x).sum=bw k x
 | 0=>rfl
 | k+1=>by rw[sP,List.sum_append,Gh x k];show bw k x+(x k+0)=bw k x+x k;omega
theorem Li {n:Nat}{A:Mx}{c:Nat->Int}{B:Nat->Mx}(h:FW n A c B)(hn:n<=6)(bA:∀i j,i<n->j<n->Bd 3000 (A i j)):∀k,k<n->∀i j,i<n->j<n->Bd (10+3020*k) (B k i j)
 | 0,hk,i,j,hi,hj=>by
  rw[h.b0 i j hi hj];unfold dD Bd;split <;> decide
 | k+1,hk,i,j,hi,hj=>by
  have hm:∀i j,i<n->j<n->Bd (3000+(10+3020*k)+3) (fz n A (B k) i j):=λi j hi hj=>by
   show Bd _ (bw n λk'=>A i k'*B k k' j)
   rw[<- dh];exact xN (k:=3) (by omega) (λk hk=>bA i k hi hk) λk' hk'=>Li h hn bA k (by omega) k' j hk' hj
  have h3:=xN (n:=n) (k:=3) (x:=λ_=>1) (A:=λi _=>fz n A (B k) i i) (j:=0) (a:=1) (by omega) (λ_ _=>(show Zo 1<2 ^ 1 by decide)) (λi hi=>hm i i hi hi)
  rw[dh,aD (g:=λi=>fz n A (B k) i i) λi _=>by omega,show(bw n λi=>fz n A (B k) i i)=_ from h.tr k (by omega)] at h3
  have h4:(c (k+1)*dD i j).natAbs<=(-(((k+1:Nat):Int)*c (k+1))).natAbs:=by
   rw[Int.natAbs_neg,Zh,Zh,Wf];refine Yx _ ?_
   unfold dD;split <;> omega
  rw[h.up k hk i j hi hj];exact((hm i j hi hj).add (Bd.le h4 h3)).mono (by omega)
theorem QX {n i:Nat}{w:Vc}(hi:i<n)(x:Int):(lv n w).set i x=lv n λj=>if j=i then x else w j:=by
 refine Ze λm=>?_
 rw[List.getElem?_set];by_cases hm:m<n
 ·by_cases c:i=m
  ·rw[Ja c,aQ,Ja hi,cE hm,Ja c.symm]
  ·rw[W9 c,cE hm,cE hm,W9 λz=>c z.symm]
 ·rw[List.getElem?_eq_none_iff.mpr (show(lv n λj=>if j=i then x else w j).length<=m by rw[aQ];omega),W9 (by omega),List.getElem?_eq_none_iff.mpr (by rw[aQ];omega)]
inductive Lj  (vs:List V)(H:Hp)(Q:VK)(xF:XK):Prop where
 | mk (x:V) (n:Nat) (A:Nat->Vc) (c:Nat->Int) (B:Nat->Mx) (u9:vs=[x]) (u_:Rep H Any x (mE n n A)) (vc:1<=n) (ve:n<=6) (vf:(∀i j,i<n->j<n->Bd 3000 (A i j))) (vg:FW n A c B) (xG:∀r H',aF H H'->H' r=j? (.lst ((lv n λk=>c (k+1)).map V.int))->Q (.ref r) H')
section
theorem Lk (B:iw mg)(CO:b9 P w K mg base 1 "_law_product" xu Lh)(F:Src K mg "_law_own" sJ Kv):b9 P w K mg base 2 "_law_own" Kv Lj:=by
 refine F.ok gZ (λvs H Q E h=>?_) (λfa cdv Ac outer s H vs Q E hr h=>?_)
 ·obtain⟨x,n,A,c,B,rfl,_⟩:=h;rfl
 obtain⟨x,n,A,c,Bm,rfl,rA,hn,Ga,bA,fl,q⟩:=h;obtain⟨lA,us,rfl,Eh,_,CA⟩:=id rA.cf;refine⟨_,ai (aC (i:=1) gZ.nd rfl (Or.inr rfl) (aJ (aN (K:=K) rfl) rfl B.len bN (af (pv 0) ah)))
  (ai (aC (i:=2) gZ.nd rfl (z? rfl) (aZ ah))
  (ai (aC (i:=3) gZ.nd rfl (Or.inr rfl) (bY (aG (N:=["_law_i","_law_n"]) (sl:=[q?,j? 1]) (ao sJ) VP rfl rfl (by decide +kernel)) rfl (bC rfl B.range (af (pv 1) ah)) (λ_ _ _ _ _=>(aA (i:=0) (Yk_ ["_law_i","_law_n"]) rfl (z? rfl))) (λ_ _ _ _ _=>aR) (λ_ _ _ _ _=>(au jF (aZ (af ak ah)) (pv 1)))))
  (ai (aC (i:=4) gZ.nd rfl (z? rfl) ak)
  (ai (bZ D? rfl (tF rfl B.range (af ak (af (au bU (pv 1) ak) ah))) (aA (i:=5) gZ.nd rfl (z? rfl))
   (ai (bZ D? rfl (bC rfl B.range (af (pv 1) ah)) (aA (i:=6) gZ.nd rfl (z? rfl))
    (av (lK (au bU (bI (aI (K:=K) rfl) (bI (aI (K:=K) rfl) (pv 3) (pv 6) (λ_ _=>rfl)) (pv 6) (λ_ _=>rfl)) (pv 4)) (Dc (bI (aI (K:=K) rfl) (pv 3) (pv 6) (λ_ _=>rfl)) (pv 6) set_list))))
   (ai (aC (i:=3) gZ.nd rfl (Or.inr rfl) (aH CO hr (af (pv 0) (af (pv 3) ah))))
   (ai (aC (i:=4) gZ.nd rfl (z? rfl) (au bO ak (au bL (aJ (tX (K:=K) rfl rfl) rfl B.sum Dm (af (bY (aG (N:=["_law_i","_law_here"]) (sl:=[q?,j? 3]) (ao sJ) VP rfl rfl (by decide +kernel)) rfl (bC rfl B.range (af (pv 1) ah)) (λ_ _ _ _ _=>(aA (i:=0) (Yk_ ["_law_i","_law_here"]) rfl (z? rfl))) (λ_ _ _ _ _=>aR) (λ_ _ _ _ _=>(bI (aI (K:=K) rfl) (bI (aI (K:=K) rfl) (pv 1) (pv 0) (λ_ _=>rfl)) (pv 0) (λ_ _=>rfl)))) ah)) (pv 5))))
   (av (d9 (mW R? F! G! c8 (pv 2) (af (pv 4) ah))))))))
  (av (aM (pv 2))))))),?_⟩
 refine⟨_,rfl,lA,_,rfl,.inl (aO.of Eh),?_⟩
 rw[CA.len];refine⟨aT rfl,λp2 n2=>?_⟩
 generalize hH2:L2.upd H p2 _=H2;obtain⟨g2,e2⟩:=aV n2 hH2;clear hH2;refine⟨_,rfl,_,rfl,by omega,by omega,λD hD=>?_⟩
 rw[Yf];refine iA (λi ys H3=>aF H2 H3/\∃b:Nat->o?,ys=(Yj i).map (λi=>V.ref (b i))/\(∀l,l<i->H3 (b l)=j? (.lst ((lv n λ_=>0).map V.int)))/\(∀l m,l<i->m<i->b l=b m->l=m)/\∀l,l<i->H2 (b l)=q?/\b l≠D) ⟨aB hD _,λ_=>0,rfl,λl hl=>Jg hl (Zb l),λl _ hl=>Jg hl (Zb l),λl hl=>Jg hl (Zb l)⟩ ?_ ?_
 ·rintro i m ys H3 hm hi hy hlen ⟨g3,b,rfl,hb,inj,nb⟩
  refine⟨aT rfl,λp4 n4=>?_⟩
  generalize hH4:L2.upd H3 p4 _=H4;obtain⟨g4,e4⟩:=aV n4 hH4;clear hH4;refine⟨_,rfl,p4,(n:Int),_,rfl,rfl,e4,by omega,by omega,by rw[C?,Yf];show 1*_<=_;omega,λp5 n5=>?_⟩
  rw[Yf,rep0];generalize hH5:L2.upd H4 p5 _=H5;obtain⟨g5,e5⟩:=aV n5 hH5;clear hH5;have e5:H5 p5=j? (.lst ((lv n λ_=>0).map V.int)):=by
   rw[e5];congr 3
   refine Ze λm=>?_
   by_cases hm:m<n
   ·rw[cE hm,Zl,Ja hm]
   ·rw[List.getElem?_eq_none_iff.mpr (by rw[Yp];omega),List.getElem?_eq_none_iff.mpr (by rw[aQ];omega)]
  have WZ:=g4.trans g5;have TY:H3 p5=q?:=g4.free n5;have p5D:p5≠D:=λz=>by rw[z,hy] at TY;cases TY
  have p5b:∀l,l<i->b l≠p5:=λl hl z=>by rw[<- z,hb l hl] at TY;cases TY
  refine CW.emit hm hi (by rw[C?];omega) (WZ _ _ hy) hlen ⟨aF.aX (g3.trans WZ) hD _,λl=>if l=i then p5 else b l,?_,λl hl=>?_,λl m hl hm e=>?_,λl hl=>?_⟩
  ·rw[Wk,Yq]
   congr 1
   ·exact Zy λl hl=>by show _=V.ref (if l=i then p5 else b l);rw[W9 (by have:=List.mem_range.mp hl;omega)]
   ·show [V.ref p5]=[V.ref (if i=i then p5 else b i)]
    rw[Ja rfl]
  ·dsimp only
   by_cases c:l=i
   ·rw[Ja c,aL p5D];exact e5
   ·rw[W9 c,aL (nb l (by omega)).2];exact WZ _ _ (hb l (by omega))
  ·dsimp only at e
   by_cases c1:l=i
   ·by_cases c2:m=i
    ·omega
    ·rw[Ja c1,W9 c2] at e;exact Jg e.symm (p5b m (by omega))
   ·by_cases c2:m=i
    ·rw[W9 c1,Ja c2] at e;exact Jg e (p5b l (by omega))
    ·rw[W9 c1,W9 c2] at e;exact inj l m (by omega) (by omega) e
  ·dsimp only
   by_cases c:l=i
   ·rw[Ja c];exact⟨g3.free TY,p5D⟩
   ·rw[W9 c];exact nb l (by omega)
 rintro ys H3 hy ⟨g3,b0,rfl,hb,inj,nb⟩;have M0:yk H H3 D n n (λ_ _=>0) b0:=⟨hy,hb,inj,λi hi=>g2.free (nb i hi).1,g2.free hD⟩
 have p20:∀l,l<n->b0 l≠p2:=λl hl z=>by have:=(nb l hl).1;rw[z,e2] at this;cases this
 have D2:D≠p2:=λz=>by rw[z,e2] at hD;cases hD
 refine⟨_,rfl,_,_,rfl,rfl,_,_,rfl,⟨by omega,by omega,by omega,by omega⟩,?_⟩
 rw[show((n:Int)+1-1).toNat=n by omega]
 refine cI (λk σ H4=>aF H H4/\∃(h:o?) (b:Nat->o?) (Y:Nat->Vc) (o5 o6:Option V),σ=[Rq lA,Iq (n),Rq p2,Rq h,j? (.int (c k)),o5,o6]/\yk H H4 h n n Y b/\h≠p2/\(∀l,l<n->b l≠p2)/\(k<n->∀i j,i<n->j<n->Y i j+c k*dD i j=Bm k i j)/\H4 p2=j? (.lst ((lv k λt=>c (t+1)).map V.int))) ⟨g2.trans g3,D,b0,_,_,_,by rw[fl.one];rfl,M0,D2,p20,λ_ i j hi hj=>?_,g3 _ _ e2⟩ ?_ ?_
 ·rw[fl.one,fl.b0 i j hi hj];omega
 ·rintro k σ H4 hk ⟨g4,h,b,Y,o5,o6,rfl,M,h2,b2,eY,ep⟩
  have eY:=eY hk;show OR _ _ _ _ _
  refine mY (λo:Option V=>[Rq lA,Iq (n),Rq p2,Rq h,j? (.int (c k)),j? (.int (1+(k:Int))),o]) (λo H5=>aF H H5/\yk H H5 h n n (Bm k) b/\H5 p2=j? (.lst ((lv k λt=>c (t+1)).map V.int))) (λC key=>?_) ?_
  ·refine⟨_,rfl,_,rfl,by omega,by omega,?_⟩
   rw[Yf];refine cI (λi σ H5=>aF H H5/\∃o,σ=[Rq lA,Iq (n),Rq p2,Rq h,j? (.int (c k)),j? (.int (1+(k:Int))),o]/\yk H H5 h n n (λl j=>if l<i then Bm k l j else Y l j) b/\H5 p2=j? (.lst ((lv k λt=>c (t+1)).map V.int))) ⟨g4,_,rfl,by
    have e:(λl j=>if l<0 then Bm k l j else Y l j)=Y:=funext λl=>funext λj=>W9 (Zb l)
    rw[e];exact M,ep⟩ ?_ ?_
   ·rintro i σ H5 hi ⟨g5,o,rfl,M5,Lg⟩
    rw[Zn];have Qo:qV ((Yj n).map λi=>V.ref (b i)) (i:Int)=j? (.ref (b i)):=fu (by rw[Ye,Ys hi];rfl)
    have row:=M5.row i hi;have er:(λj=>if i<i then Bm k i j else Y i j)=Y i:=funext λj=>W9 (Zz i)
    have row:H5 (b i)=j? (.lst ((lv n (Y i)).map V.int)):=by rw[<- er];exact row
    refine⟨_,rfl,_,rfl,h,_,_,_,rfl,rfl,aO.of M5.top,Qo,_,rfl,b i,_,_,_,rfl,rfl,aO.of row,mZ hi,_,rfl,_,_,rfl,rfl,?_⟩
    refine⟨_,rfl,_,rfl,h,_,_,_,rfl,rfl,aO.of M5.top,Qo,_,rfl,b i,_,_,i,rfl,rfl,row,?_,?_⟩
    ·rw[Ya,aQ,rO (by omega) (by omega)];congr 1
    refine⟨g5.aX (M.new i hi) _,_,rfl,?_,by rw[aL (Ne.symm (b2 i hi))];exact Lg⟩
    have M6:=M5.set hi λj=>if j=i then Y i i+c k else Y i j
    rw[<- QX hi,<- iZ] at M6;refine⟨M6.top,λl hl=>?_,M6.inj,M6.new,M6.na⟩
    rw[show(upd H5 (b i) (.lst (((lv n (Y i)).map V.int).set i (.int (Y i i+c k))))) (b l)=_ from M6.row l hl]
    congr 3
    refine Zy λj hj=>?_
    have hj:=List.mem_range.mp hj;by_cases z:l=i
    ·have h1:(if l<i+1 then Bm k l j else Y l j)=Bm k l j:=Ja (by omega)
     rw[h1,Ja z,z,<- eY i j hi hj];unfold dD;by_cases y:j=i
     ·rw[Ja y,Ja y,y];omega
     ·rw[W9 y,W9 y];omega
    ·rw[W9 z]
     by_cases y:l<i
     ·rw[Ja y,Ja (by omega)]
     ·rw[W9 y,W9 (by omega)]
   ·rintro σ H5 ⟨g5,o,rfl,M5,Lg⟩
    refine key o H5 ⟨g5,⟨M5.top,λi hi=>?_,M5.inj,M5.new,M5.na⟩,Lg⟩
    have e:(λj=>if i<n then Bm k i j else Y i j)=Bm k i:=funext λj=>Ja hi
    rw[<- e];exact M5.row i hi
  ·rintro o H5 ⟨g5,M5,Lg⟩
   have bB:=Li fl Ga bA k hk;refine⟨_,rfl,_,rfl,_,_,n,A,Bm k,rfl,rA.same g5,M5.rep.any,hn,Ga,λi j hi hj=>(bA i j hi hj).mono (by decide),λi j hi hj=>(bB i j hi hj).mono (by omega),λr b' H6 g6 M6=>?_⟩
   refine⟨_,rfl,_,rfl,by omega,by omega,λD3 LW=>?_⟩
   rw[Yf];refine yt (λi=>.num (sm n (A i) (Bm k) i)) LW (by omega) (λi H7 Q7 hi g7 q7=>?_) λH7 g7 HS=>?_
   ·have M7:=M6.same g7
    have Qo:qV ((Yj n).map λi=>V.ref (b' i)) (0+(i:Int))=j? (.ref (b' i)):=by rw[Zn];exact fu (by rw[Ye,Ys hi];rfl)
    have at2:=mZ (n:=n) (v:=λj=>sm n (A i) (Bm k) j) hi
    rw[show(i:Int)=0+(i:Int) by omega] at at2
    exact⟨_,rfl,_,rfl,r,_,_,_,rfl,rfl,aO.of M7.top,Qo,_,rfl,b' i,_,_,_,rfl,rfl,aO.of (M7.row i hi),at2,q7 _ H7 (aF.refl _) (.num _)⟩
   obtain⟨lD,eD,Hr,_⟩:=cS (n:=n) (v:=λi=>sm n (A i) (Bm k) i) HS
   cases eD;refine⟨D3,_,rfl,aO.of Hr,_,rfl,_,_,rfl,rfl,(Bd.small (x:=1+(k:Int)) (by omega) (by omega)).dv (by omega),_,_,rfl,rfl,?_⟩
   have W_:(lv n λi=>sm n (A i) (Bm k) i).sum=-(((k+1:Nat):Int)*c (k+1)):=by
    rw[Gh,<- fl.tr k hk];exact aD λi _=>by rw[dh];rfl
   have TZ:0-((lv n λi=>sm n (A i) (Bm k) i).sum).fdiv (1+(k:Int))=c (k+1):=by
    rw[W_,show -(((k+1:Nat):Int)*c (k+1))=(1+(k:Int))*-c (k+1) by rw[show((k+1:Nat):Int)=1+(k:Int) by omega];grind,jH (show 1+(k:Int)≠0 by omega)]
    omega
   show gE 4 (V.int (0-((lv n λi=>sm n (A i) (Bm k) i).sum).fdiv (1+(k:Int)))) _ _ _
   rw[TZ];have ep7:=g7 _ _ (g6 _ _ Lg);have RA:=g6.trans g7;have M7:=M6.same g7;have rp:r≠p2:=λz=>by have:=M6.na;rw[z,Lg] at this;cases this
   have bp:∀l,l<n->b' l≠p2:=λl hl z=>by have:=M6.new l hl;rw[z,Lg] at this;cases this
   refine⟨_,rfl,.inl ⟨rfl,_,aO.of ep7⟩,_,rfl,p2,_,_,rfl,rfl,ep7,by rw[Ya,aQ,C?];omega,?_⟩
   refine⟨(g5.trans RA).aX n2 _,r,b',λi j=>sm n (A i) (Bm k) j,_,_,rfl,?_,rp,bp,λhk' i j hi hj=>?_,?_⟩
   ·have M8:=M7.older g5
    exact⟨by rw[aL rp];exact M8.top,λi hi=>by rw[aL (bp i hi)];exact M8.row i hi,M8.inj,M8.new,M8.na⟩
   ·rw[fl.up k hk' i j hi hj]
    show sm n (A i) (Bm k) j+_=_
    rw[dh];rfl
   ·rw[ay,sP,Yq];rfl
 ·rintro σ H4 ⟨g4,h,b,Y,o5,o6,rfl,M,h2,b2,eY,ep⟩
  exact⟨_,rfl,q _ H4 g4 ep⟩
end
inductive Ll  (vs:List V)(H:Hp)(Q:VK)(xF:XK):Prop where
 | mk (a:o?) (rv:V) (f:List Int) (n p M:Nat) (v:Vc) (c:Nat->Int) (B:Nat->Mx) (t:Bool) (u9:vs=[.ref a,.int (p:Int),rv,.int (M:Int)]) (u_:H a=j? (.lst (f.map V.int))) (vc:f.length=n+1) (ve:L2.dM f) (vf:1<=n) (vg:n<=6) (xG:fY 300 f) (zx:2<=p) (A6:p<48) (Eb:M<=24) (vh:Rep H Any rv (rE n v)) (B_:(∀m,m<n->Bd 300 (v m))) (KG:FW n (m_ (aq f) n v) c B) (Qu:(t=true↔∀k,k<=n->((p:Int) ^ M) ^ k ∣ c k)) (S5:∀H',aF H H'->Q (.bl t) H')
section
theorem yJ (Hx:b9 P w K mg base 2 "_law_table" Ku Lf)(Nz:b9 P w K mg base 2 "_law_own" Kv Lj)(iL:b9 P w K mg base 1 "_law_power" BZ xT)(F:Src K mg "_law_is_whole" mH Ka):b9 P w K mg base 3 "_law_is_whole" Ka Ll:=by
 refine F.ok iU (λvs H Q E h=>?_) (λfa cdv Ac outer s H vs Q E hr h=>?_)
 ·obtain⟨a,rv,f,n,p,M,v,c,B,t,rfl,_⟩:=h;rfl
 obtain⟨a,rv,f,n,p,M,v,c,Bm,t,rfl,ha,lf,mf,hn,Ga,bf,hp,hp2,hM,rr,bv,fl,ht,q⟩:=h;refine⟨_,ai (aC (i:=4) iU.nd rfl (z? rfl) ak)
  (ai (bZ D? rfl (bE (K:=K) rfl (aH Nz hr (af (aH Hx hr (af (pv 0) (af (pv 2) ah))) ah))) (aA (i:=5) iU.nd rfl (z? rfl))
   (ai (aC (i:=4) iU.nd rfl (z? rfl) (au aW (pv 4) (aH iL hr (af (pv 1) (af (pv 3) ah)))))
   (av (dQ (a_ qZ (au bD (pv 5) (pv 4)) ak (bG _))
    (av (aM uM))
    (b8)))))
  (av (aM uM))),?_⟩
 refine⟨_,rfl,_,rfl,a,rv,f,n,v,rfl,ha,lf,mf,hn,Ga,bf,rr,bv,λr1 H1 g1 Tg=>?_⟩
 refine⟨r1,n,_,c,Bm,rfl,Tg.any,hn,Ga,λi j hi hj=>(AS bf bv i hi j hj).mono (by omega),fl,λr2 H2 g2 e2=>?_⟩
 have QU:=g1.trans g2;have UO:((p ^ M:Nat):Int)=(p:Int) ^ M:=Wi _ _;have bP:Bd 200 ((p ^ M:Nat):Int):=vP (by omega) (by omega)
 refine⟨r2,rfl,⟨_,aO.of e2⟩,fZ (xs:=(lv n λk=>c (k+1)).map V.int) (λk σ H3=>aF H H3/\aF H2 H3/\(∀l,l<=k->((p:Int) ^ M) ^ l ∣ c l)/\∃(o5:Option V),σ=[Rq a,Iq (p),j? rv,Iq (M),j? (.int (((p:Int) ^ M) ^ k)),o5]) ⟨QU,aF.refl _,λl hl=>?_,_,rfl⟩ (λi σ H3 _ h=>aO.of (h.2.1 _ _ e2)) ?_ ?_⟩
 ·rw[show l=0 by omega,Y9];exact⟨_,(Zk _).symm⟩
 ·rintro k vx σ H3 ig ⟨g3,Qy,hd,o5,rfl⟩
  obtain⟨y1,hy1,rfl⟩:=aS ig;have hk:k<n:=by have:=(List.getElem?_eq_some_iff.mp hy1).1;rw[aQ] at this;exact this
  rw[cE hk] at hy1;cases hy1;have bS:Bd (200*k+1) (((p:Int) ^ M) ^ k):=by
   rw[<- UO];clear hd ig;induction k with
   | zero=>rw[Y9];show Zo 1<2 ^ 1;decide
   | succ k ih=>rw[Yy];exact((ih (by omega)).mul bP).mono (by omega)
  have bS2:Bd (200*(k+1)+1) (((p:Int) ^ M) ^ (k+1)):=by rw[Yy,<- UO];rw[<- UO] at bS;exact(bS.mul bP).mono (by omega)
  have pos:0<((p:Int) ^ M) ^ (k+1):=Wc (Wc (by omega))
  refine⟨_,rfl,_,rfl,_,rfl,p,M,rfl,hp,by omega,by omega,_,_,rfl,rfl,bS.ok bP (by omega),?_⟩
  show gE 4 (V.int (((p:Int) ^ M) ^ k*((p ^ M:Nat):Int))) _ _ _
  rw[UO,<- Yy];refine⟨_,rfl,_,rfl,_,_,rfl,rfl,(show((p:Int) ^ M) ^ (k+1)≠0 by omega),rfl,_,rfl,fV (λz=>?_) (λz=>?_)⟩
  ·have z:(!decide (V.int ((c (k+1)).fmod (((p:Int) ^ M) ^ (k+1)))=V.int 0))=true:=z
   have nd:¬ ((p:Int) ^ M) ^ (k+1) ∣ c (k+1):=λw=>by
    rw[Jb (Je V.int ((kX pos).mpr w))] at z;cases z
   have tf:t=false:=by
    cases t with
    | false=>rfl
    | true=>exact Jg (ht.mp rfl (k+1) (by omega)) nd
   have:=q H3 g3
   rw[tf] at this;exact this
  ·have z:¬ (!decide (V.int ((c (k+1)).fmod (((p:Int) ^ M) ^ (k+1)))=V.int 0))=true:=z
   have hd2:((p:Int) ^ M) ^ (k+1) ∣ c (k+1):=V? λw=>z (by
    rw[Jd λy=>w ((kX pos).mp (V.int.inj y))];rfl)
   refine⟨g3,Qy,λl hl=>?_,_,rfl⟩
   by_cases e:l=k+1
   ·rw[e];exact hd2
   ·exact hd l (by omega)
 ·rintro σ H3 ⟨g3,Qy,hd,o5,rfl⟩
  rw[Ya,aQ] at hd;have:=q H3 g3
  rw[ht.mpr hd] at this;exact this
end
theorem xV {xs:List V}{lo hi:Option Int}{x:V}(h:x∈iX xs lo hi):x∈xs:=List.mem_of_mem_drop (List.mem_of_mem_take h)
theorem Gi {m:Nat}{v:Vc}{k:Int}:lv m v++[k]=lv (m+1) λj=>if j=m then k else v j:=by
 rw[sP];congr 1
 ·exact Zy λj hj=>by rw[W9 (by have:=List.mem_range.mp hj;omega)]
 ·rw[Ja rfl]
theorem Cf.app {H:Hp}{ok:o?->Prop}{vs ws:List V}{n m:Nat}{e:Nat->El}(C:Cf H ok vs n e)(D:Cf H ok ws m λi=>e (n+i)):Cf H ok (vs++ws) (n+m) e:=by
 refine⟨by rw[Yi,C.len,D.len],λi hi=>?_⟩
 by_cases c:i<n
 ·obtain⟨x,h1,h2⟩:=C.at_ i c
  exact⟨x,by rw[Y3 (by rw[C.len];exact c)];exact h1,h2⟩
 ·obtain⟨x,h1,h2⟩:=D.at_ (i-n) (by omega)
  rw[show n+(i-n)=i by omega] at h2
  exact⟨x,by rw[Y5 (by rw[C.len];omega),C.len];exact h1,h2⟩
theorem Xa {K:bM}{D a:o?}{st:St}{g:TG}{te:TE}{H1:Hp}{Q:VK}{n NT:Nat}{xs:List V}(e:Nat->El)(hn:xs.length=n)(h:H1 a=j? (.lst xs))(hD:H1 D=q?)(hz:n<=1000)
  (hs:∀i x t H2 (Q2:VK),i<n->aF H1 H2->xs[i]?=j? x->H2 t=j? (.tup [.int ((NT+i:Nat):Int),x])->(∀r H3,aF H2 H3->Rep H3 (dG H2) r (e i)->Q2 r H3)->g (.ref t) st H2 λσ3 H3=>te σ3 H3 Q2)
  (q:∀H2,aF H1 H2->Rep H2 (dG H1) (.ref D) (kC n e)->Q (.ref D) H2):q_ (Pj K a NT) D st g Iv te Q H1:=by
 refine tM (xs:=xs) (λi ys H2=>aF H1 H2/\Cf H2 (Off H1 D) ys i e) ⟨aB hD _,.nil⟩ (λi ys H2 _ h'=>aO.of (h'.1 _ _ h)) ?_ ?_
 ·rintro i m x ys H2 r hm hi hx hy hlen ⟨gg,cy⟩ hr
  have kr:=aB hr (.tup [.int ((NT+i:Nat):Int),x]);refine hs i x r _ _ (by omega) (gg.trans kr) hx ay λr2 H3 g3 rr=>?_
  exact CW.emit hm hi (by rw[C?];omega) (g3 _ _ (kr _ _ hy)) hlen ⟨aF.aX ((gg.trans kr).trans g3) hD _,((cy.same (kr.trans g3)).push (rr.GR (gg.trans kr) (kr _ _ hy))).upd⟩
 ·rintro ys H2 hy ⟨gg,cy⟩
  rw[hn] at cy;exact q H2 gg (cy.DI.rep hy hD)
structure Low (p N m:Nat)(W:Nat->Vc):Prop where
 le:N<=120
 oZ:∀i j,i<N->j<m->0<=W i j/\W i j<(p:Int)
 nz:∃i j,i<N/\j<m/\W i j≠0
inductive Gj  (vs:List V)(H:Hp)(Q:VK)(xF:XK):Prop where
 | mk (n p:Nat) (cell:Int) (u9:vs=[.int (n:Int),.int (p:Int),.int cell]) (u_:1<=n) (vc:n<=6) (ve:2<=p) (vf:p<=5) (vg:∀r zs H',aF H H'->H' r=j? (.lst zs)->(∀z∈zs,∃v:Vc,Rep H' Any z (rE n v)/\(∀j,j<n->0<=v j/\v j<(p:Int))/\∃j,j<n/\v j≠0)->Q (.ref r) H')
section
theorem Hy (B:iw mg)(F:Src K mg "_law_sums" jT Kg):b9 P w K mg base 1 "_law_sums" Kg Gj:=by
 refine F.ok e_ (λvs H Q E h=>?_) (λfa cdv Ac outer s H vs Q E hr h=>?_)
 ·obtain⟨n,p,cell,rfl,_⟩:=h;rfl
 obtain⟨n,p,cell,rfl,hn,Ga,hp,RC,q⟩:=h;refine⟨_,ai (gh (i:=3) e_.nd rfl (z? rfl) (aG (N:=["_law_k"]) (sl:=[q?]) (ao jT) SS rfl rfl (by decide +kernel)) rfl (bC rfl B.range (af (pv 1) ah)) (λ_ _ _ _ _=>(aA (i:=0) (Yk_ ["_law_k"]) rfl (z? rfl))) (λ_ _ _ _ _=>aR) (λ_ _ _ _ _=>(aZ (af (pv 0) ah))))
  (ai (bZ D? rfl (bC rfl B.range (af (au bO (pv 0) ak) ah)) (aA (i:=4) e_.nd rfl (Or.inr rfl))
   (av (dQ (a_ Ig (aJ (aN (K:=K) rfl) rfl B.len bN (af (pv 3) ah)) ak (bG _))
    (ai (aC (i:=5) e_.nd rfl (z? rfl) (aZ ah))
    (ai (bZ D? rfl (bE (K:=K) rfl (pv 3)) (aA (i:=6) e_.nd rfl (Or.inr rfl))
     (av (aC (i:=5) e_.nd rfl (z? rfl) (au eL (pv 5) (bY (aG (N:=["_law_k","_law_one"]) (sl:=[q?,j? 6]) (ao jT) SS rfl rfl (by decide +kernel)) rfl (bC rfl B.range (af (pv 1) ah)) (λ_ _ _ _ _=>(aA (i:=0) (Yk_ ["_law_k","_law_one"]) rfl (z? rfl))) (λ_ _ _ _ _=>aR) (λ_ _ _ _ _=>(au eL (pv 1) (aZ (af (pv 0) ah)))))))))
    (av (aC (i:=3) e_.nd rfl (z? rfl) (pv 5)))))
    (av (gh (i:=3) e_.nd rfl (z? rfl) (aG (N:=Qd) (sl:=[q?,q?,j? 2,j? 4,j? 1]) (ao jT) SS rfl rfl (by decide +kernel)) rfl (gQ (K:=K) rfl rfl B.enumerate (af (pv 3) ah)) (λ_ _ _ _ _=>(cG (n:=2) (K:=K) rfl rfl (aP (aA (i:=0) (Yk_ Qd) rfl (z? rfl)) (aP (aA (i:=1) (Yk_ Qd) rfl (z? rfl)) cF)))) (λ_ _ _ _ _=>aR) (λ_ _ _ _ _=>(au eL (pv 1) (aZ (af (au bD (au bU (au bL (pv 2) ak) (au aW (pv 3) (pv 0))) (pv 4)) ah)))))))))
  (ai (gh (i:=7) e_.nd rfl (z? rfl) (aG (N:=["_law_one"]) (sl:=[q?]) (ao jT) SS rfl rfl (by decide +kernel)) rfl (bE (K:=K) rfl (pv 3)) (λ_ _ _ _ _=>(aA (i:=0) (Yk_ ["_law_one"]) rfl (z? rfl))) (λ_ _ _ _ _=>(E7 (pW (aJ (DU (K:=K) rfl rfl) rfl B.any Pd (af (pv 0) ah))))) (λ_ _ _ _ _=>(pv 0)))
  (ai (aC (i:=8) e_.nd rfl (z? rfl) (au bD (pv 2) (aJ (aN (K:=K) rfl) rfl B.len bN (af (pv 7) ah))))
  (av (aM (dU (dW (K:=K) rfl) (au eL (dU (dW (K:=K) rfl) (pv 7) (fq (pv 8)) fm) (dU (dW (K:=K) rfl) (pv 7) fm (fq (pv 8)))) fm (fq ak))))))),?_⟩
 refine⟨_,rfl,_,rfl,by omega,by omega,λD hD=>?_⟩
 rw[Yf];refine yt (λk=>rE 1 λ_=>(k:Int)) hD (by omega) (λk H2 Q2 hk g2 q2=>?_) λH1 g1 Tg=>?_
 ·refine⟨_,rfl,aT rfl,λp3 n3=>?_⟩
  rw[Zn];exact q2 _ _ (aB n3 _) (nK (n:=1) (v:=λ_=>(k:Int)) ay n3)
 have L0:Low p p 1 λk _=>(k:Int):=⟨by omega,λi j hi _=>by omega,1,0,by omega,by omega,by show((1:Nat):Int)≠0;decide⟩
 refine⟨_,rfl,_,_,rfl,rfl,_,rfl,by omega,by omega,?_⟩
 rw[show((n:Int)-1).toNat=n-1 by omega]
 refine cI (λi σ H2=>aF H H2/\∃(f:o?) (N:Nat) (W:Nat->Vc) (o4 o5 o6 o7 o8:Option V),σ=[Iq (n),Iq (p),j? (.int cell),Rq f,o4,o5,o6,o7,o8]/\Rep H2 Any (.ref f) (mE N (i+1) W)/\Low p N (i+1) W) ⟨g1,D,p,_,_,_,_,_,_,rfl,Tg.any,L0⟩ ?_ ?_
 ·rintro i σ H2 hi ⟨g2,f,N,W,o4,o5,o6,o7,o8,rfl,rW,L⟩
  obtain⟨lf,us,ef,Ef,_,CW⟩:=id rW.cf;cases ef;refine⟨_,rfl,f,_,rfl,.inl (aO.of Ef),_,_,rfl,rfl,_,rfl,fV (λc=>?_) (λc=>?_)⟩
  ·have c:((us.length:Nat):Int)<=24:=Jc c
   rw[CW.len] at c;refine⟨aT rfl,λp3 n3=>?_⟩
   generalize hH3:L2.upd H2 p3 _=H3;obtain⟨g3,e3⟩:=aV n3 hH3;clear hH3;show Ends.nx _ (List.set _ _ _) _
   dsimp only
   refine mY (λx:o?×Option V=>[Iq (n),Iq (p),j? (.int cell),Rq f,j? (.int (0+(i:Int))),Rq x.1,x.2,o7,o8]) (λx H9=>aF H2 H9/\Rep H9 Any (.ref x.1) (mE (N*p) (i+1+1) λt j=>if j=i+1 then ((t % p:Nat):Int) else W (t / p) j)) (λC key=>?_) ?_
   ·refine⟨_,rfl,f,rfl,⟨_,aO.of (g3 _ _ Ef)⟩,fZ (xs:=us) (λl σ H4=>aF H2 H4/\∃(x:o?) (o6:Option V),σ=[Iq (n),Iq (p),j? (.int cell),Rq f,j? (.int (0+(i:Int))),Rq x,o6,o7,o8]/\Rep H4 Any (.ref x) (mE (l*p) (i+1+1) λt j=>if j=i+1 then ((t % p:Nat):Int) else W (t / p) j)) ⟨g3,p3,_,rfl,?_⟩ (λl σ H4 _ h=>aO.of (h.1 _ _ Ef)) ?_ ?_⟩
    ·exact Cf.rep (vs:=[]) ⟨by show 0=0*p;omega,λt ht=>Jg ht (by omega)⟩ e3 trivial
    ·rintro l vx σ H4 ig ⟨g4,x,o6,rfl,rx⟩
     obtain⟨hl,rl⟩:=CW.get ig;obtain⟨ll,rfl,BO,_⟩:=cS rl;obtain⟨lx,xs,ex,hlx,_,Cx⟩:=id rx.cf;cases ex;refine⟨_,rfl,_,rfl,_,rfl,by omega,by omega,λD5 hD5=>?_⟩
     rw[Yf];refine yt (λk=>rE (i+1+1) λj=>if j=i+1 then ((k:Nat):Int) else W l j) hD5 (by omega) (λk H5 Q5 hk g5 q5=>?_) λH5 g5 QA=>?_
     ·refine⟨_,rfl,_,rfl,aT rfl,λp6 n6=>?_⟩
      rw[Zn];generalize hH6:L2.upd H5 p6 _=H6;obtain⟨g6,e6⟩:=aV n6 hH6;clear hH6;refine⟨ll,p6,_,_,rfl,rfl,g6 _ _ (g5 _ _ (g4 _ _ BO)),e6,by rw[C?,Ya,aQ];show _+1<=_;omega,λp7 n7=>?_⟩
      refine q5 _ _ (g6.trans (aB n7 _)) (nK ?_ (g6.free n7))
      rw[ay,<- Gi,Yq];rfl
     ·obtain⟨l5,ys,e5,hl5,_,C5⟩:=id QA.cf
      cases e5;have hx5:=g5 _ _ hlx;have Xb:=L.le;have hlp:l*p<=24*5:=Zi (by omega) RC
      refine⟨x,D5,_,_,rfl,rfl,hx5,hl5,by rw[C?,Cx.len,C5.len];omega,λp8 n8=>?_⟩
      generalize hH8:L2.upd H5 p8 _=H8;obtain⟨g8,e8⟩:=aV n8 hH8;clear hH8;have RB:=g5.trans g8;refine⟨(g4.trans RB),p8,_,rfl,?_⟩
      have C5':Cf H8 Any ys p λk=>rE (i+1+1) λj=>if j=i+1 then (((l*p+k) % p:Nat):Int) else W ((l*p+k) / p) j:=⟨C5.len,λk hk=>by
       obtain⟨y,h1,h2⟩:=C5.at_ k hk;refine⟨y,h1,?_⟩
       rw[Wf l p,Nat.mul_add_mod,Z4 hk,Nat.mul_add_div (by omega),Nat.div_eq_of_lt hk,Wy]
       exact(h2.same g8).any⟩
      have:=Cf.rep (Cf.app (Cx.same RB) C5') e8 trivial
      rw[show l*p+p=(l+1)*p by rw[Wg,W2]] at this
      exact this
    ·rintro σ H4 ⟨g4,x,o6,rfl,rx⟩
     rw[CW.len] at rx;exact key (x,o6) H4 ⟨g4,rx⟩
   ·rintro⟨x,o6⟩ H4 ⟨g4,rx⟩
    refine⟨_,rfl,g2.trans g4,x,N*p,_,_,_,_,_,_,rfl,rx,?_⟩
    obtain⟨a,b,ha,hb,hab⟩:=L.nz;refine⟨by have:N*p<=24*5:=Zi (by omega) RC;omega,λt j ht hj=>?_,a*p,b,?_,by omega,?_⟩
    ·by_cases e:j=i+1
     ·rw[Ja e]
      have:=Nat.mod_lt t (show 0<p by omega)
      omega
     ·rw[W9 e]
      exact L.oZ _ _ (Nat.div_lt_of_lt_mul (by rw[Wf];exact ht)) (by omega)
    ·exact Nat.mul_lt_mul_of_pos_right ha (by omega)
    ·rw[W9 (by omega),Nat.mul_div_cancel _ (by omega)];exact hab
  ·refine⟨_,rfl,f,rfl,⟨_,aO.of Ef⟩,λD3 LW=>?_⟩
   refine Xa (λl=>rE (i+1+1) λj=>if j=i+1 then (cell.fdiv 3+(0+(i:Int))*(l:Int)).fmod (p:Int) else W l j) (n:=N) CW.len Ef LW (by have:=L.le;omega) (λl vx t H3 Q3 hl g3 ig ht q3=>?_) λH3 g3 LV=>?_
   ·obtain⟨_,rl⟩:=CW.get ig
    obtain⟨ll,rfl,BO,_⟩:=cS rl;refine⟨t,_,rfl,j5.of ht,rfl,_,_,rfl,_,_,rfl,rfl,?_⟩
    rw[Wx];refine⟨_,rfl,_,rfl,_,_,rfl,rfl,(Bd.small (x:=3) (by decide) (by decide)).dv (by decide),_,rfl,_,rfl,_,_,rfl,rfl,gO (by omega) (by omega),_,_,rfl,rfl,_,rfl,_,_,rfl,rfl,(show(p:Int)≠0 by omega),aT rfl,λp6 n6=>?_⟩
    generalize hH6:L2.upd H3 p6 _=H6;obtain⟨g6,e6⟩:=aV n6 hH6;clear hH6;refine⟨ll,p6,_,_,rfl,rfl,g6 _ _ (g3 _ _ BO),e6,by rw[C?,Ya,aQ];show _+1<=_;omega,λp7 n7=>?_⟩
    refine q3 _ _ (g6.trans (aB n7 _)) (nK ?_ (g6.free n7))
    rw[ay,<- Gi,Yq];rfl
   ·refine⟨g2.trans g3,D3,N,_,_,_,_,_,_,rfl,LV.any,L.le,λt j ht hj=>?_,?_⟩
    ·by_cases e:j=i+1
     ·rw[Ja e];exact gq _ (by omega)
     ·rw[W9 e];exact L.oZ t j ht (by omega)
    ·obtain⟨a,b,ha,hb,hab⟩:=L.nz
     exact⟨a,b,ha,by omega,by rw[W9 (by omega)];exact hab⟩
 ·rintro σ H2 ⟨g2,f,N,W,o4,o5,o6,o7,o8,rfl,rW,L⟩
  rw[show n-1+1=n by omega] at rW L
  obtain⟨lf,us,ef,Ef,_,Cu⟩:=id rW.cf;cases ef;refine⟨_,rfl,f,rfl,⟨_,aO.of Ef⟩,λD3 LW=>?_⟩
  refine gG (xs:=us) (λi ys H3=>aF H2 H3/\ys.length<=i/\(∀y∈ys,∃l,us[l]?=j? y/\∃j,j<n/\W l j≠0)/\∀l y,l<i->us[l]?=j? y->(∃j,j<n/\W l j≠0)->y∈ys) ⟨aB LW _,Yd 0,λy hy=>by simp at hy,λl y hl=>Jg hl (Zb _)⟩ (λi ys H3 _ h=>aO.of (h.1 _ _ Ef)) ?_ ?_
  ·rintro i m x ys H3 hm hi hx hy hlen ⟨g3,hle,h1,h2⟩
   obtain⟨hik,ri⟩:=Cu.get hx;obtain⟨lr,rfl,hlr,_⟩:=cS ri;refine⟨_,rfl,lr,_,rfl,aO.of (g3 _ _ hlr),_,rfl,?_⟩
   by_cases z:(lv n (W i)).any (· != 0)=true
   ·rw[z]
    refine ko ⟨_,rfl,CW.emit hm hi (by rw[Cu.len,C?];have:=L.le;omega) hy hlen ⟨aF.aX g3 LW _,by rw[Yi];show ys.length+1<=_;omega,λy hy=>?_,λl y hl e nz=>?_⟩⟩
    ·rcases List.mem_append.mp hy with y1|y1
     ·exact h1 y y1
     ·rw[List.mem_singleton.mp y1]
      refine⟨i,hx,?_⟩
      obtain⟨c,hc,hc0⟩:=List.any_eq_true.mp z;unfold lv at hc;obtain⟨j,hj,rfl⟩:=List.mem_map.mp hc;exact⟨j,List.mem_range.mp hj,λw=>by rw[w] at hc0;simp at hc0⟩
    ·by_cases c:l=i
     ·rw[c,hx] at e
      cases e;exact Yr _ (List.mem_singleton.mpr rfl)
     ·exact List.mem_append_left _ (h2 l y (by omega) e nz)
   ·rw[show(lv n (W i)).any (· != 0)=false by simpa using z]
    refine jG (CW.skip hm hi hy hlen ⟨g3,by omega,h1,λl y hl e nz=>?_⟩)
    by_cases c:l=i
    ·obtain⟨j,hj,w⟩:=nz
     rw[c] at w;refine Jg (List.any_eq_true.mpr ⟨W i j,?_,by simpa using w⟩) z
     unfold lv;exact List.mem_map.mpr ⟨j,List.mem_range.mpr hj,rfl⟩
    ·exact h2 l y (by omega) e nz
  ·rintro ys H3 hy ⟨g3,hle,h1,h2⟩
   rw[Cu.len] at hle h2;have lys:0<ys.length:=by
    obtain⟨a,b,ha,hb,hab⟩:=L.nz;obtain⟨y,hy1,_⟩:=Cu.at_ a ha;exact List.length_pos_of_mem (h2 a y ha hy1 ⟨b,hb,hab⟩)
   have Xb:=L.le;have fin:∀H',aF H3 H'->∀z∈ys,∃v:Vc,Rep H' Any z (rE n v)/\(∀j,j<n->0<=v j/\v j<(p:Int))/\∃j,j<n/\v j≠0:=λH' g' z hz=>by
    obtain⟨l,hl,nz⟩:=h1 z hz;obtain⟨hlN,rl⟩:=Cu.get hl;exact⟨W l,rl.same (g3.trans g'),λj hj=>L.oZ l j hlN hj,nz⟩
   refine⟨_,rfl,_,rfl,D3,_,rfl,.inl (aO.of hy),_,_,rfl,rfl,(show((ys.length:Nat):Int)≠0 by omega),?_⟩
   refine⟨_,rfl,_,rfl,_,rfl,D3,_,rfl,aO.of hy,λp4 n4=>?_⟩
   generalize hH4:L2.upd H3 p4 _=H4;obtain⟨g4,e4⟩:=aV n4 hH4;clear hH4;refine⟨_,rfl,_,rfl,_,rfl,D3,_,rfl,aO.of (g4 _ _ hy),λp5 n5=>?_⟩
   generalize hH5:L2.upd H4 p5 _=H5;obtain⟨g5,e5⟩:=aV n5 hH5;clear hH5;refine⟨p4,p5,_,_,rfl,rfl,g5 _ _ e4,e5,?_,λp6 n6=>?_⟩
   ·have l1:=nu ys (j? (cell.fmod (ys.length:Int))) q?
    have l2:=nu ys q? (j? (cell.fmod (ys.length:Int)));rw[C?];omega
   generalize hH6:L2.upd H5 p6 _=H6;obtain⟨g6,e6⟩:=aV n6 hH6;clear hH6;refine⟨24,rfl,p6,_,rfl,aO.of e6,λp7 n7=>?_⟩
   generalize hH7:L2.upd H6 p7 _=H7;obtain⟨g7,e7⟩:=aV n7 hH7;clear hH7;have g37:=((g4.trans g5).trans g6).trans g7;refine q p7 _ H7 ((g2.trans g3).trans g37) e7 λz hz=>fin H7 g37 z ?_
   rcases List.mem_append.mp (xV hz) with w|w
   ·exact xV w
   ·exact xV w
end
theorem OG {p E k:Nat}(hp:p<48)(h:E<=12):Bd 100 ((p:Int) ^ (E-k)):=by
 rw[<- Wi];exact vP (by omega) (by omega)
structure OH (f:Fn)(n p:Nat)(G:Nat->Vc)(k:Nat->Nat):Prop where
 jB:∀i,i<n->∀j,i<j->G i j=0
 bd:∀i j,i<n->j<n->Bd 100 (G i j)
 WG:∀i,i<n->k i<=12
 ex:∃(R:Type) (_:Lean.Grind.CommRing R) (φ:Vc->R) (ip:R) (d q:Nat) (T:Nat->Vc) (s:Nat->Nat),Xr f n p φ ip/\h_ n p φ ip d T s/\MulOk n p (iz n φ ip d T) ip q 0 (λ_ _=>0)/\(∀i,i<n->k i=d-s i)/\∀i,i<n->∀j,T i j=(p:Int) ^ s i*G i j
theorem OH.of {R:Type}[Lean.Grind.CommRing R]{f:Fn}{n p d q:Nat}{φ:Vc->R}{ip:R}{T:Nat->Vc}{s:Nat->Nat}(hp:2<=p)(hp2:p<48)(TH:d<=12)(X:Xr f n p φ ip)(G:h_ n p φ ip d T s)(M:MulOk n p (iz n φ ip d T) ip q 0 (λ_ _=>0)):OH f n p (λi j=>T i j / T i i) λi=>d-s i:=by
 have L:=G.lor;have es:∀i,i<n->T i i=(p:Int) ^ s i:=λi hi=>(G.pw i hi).1
 have hg:∀i,i<n->∀j,T i j=(p:Int) ^ s i*(T i j / T i i):=λi hi j=>by
  have:=s_.J2 X L hp es hi j
  rw[es i hi] at this ⊢;exact(Int.mul_ediv_cancel' this).symm
 refine⟨λi hi j hj=>by rw[L.st.jB i hi j hj];exact Int.zero_ediv _,λi j hi hj=>?_,λi _=>by omega,R,inferInstance,φ,ip,d,q,T,s,X,G,M,λi _=>rfl,hg⟩
 have r:=G.oZ i j hi hj;have h2:Bd 100 ((p:Int) ^ (d-0)):=OG (k:=0) hp2 TH;rw[Nat.sub_zero] at h2;refine Bd.le (y:=(p:Int) ^ d) ?_ h2
 refine Yn (Dn (d:=(p:Int) ^ s i) (Ww (by omega))) ?_
 rw[<- hg i hi j];omega
theorem OH.row {R:Type}[Lean.Grind.CommRing R]{f:Fn}{n p d E:Nat}{φ:Vc->R}{ip:R}{T U:Nat->Vc}(X:Xr f n p φ ip)(e:∀i,i<n->∀j,j<n->(p:Int) ^ d*U i j=(p:Int) ^ E*T i j)(c:Vc):ip ^ E*φ (λj=>sm n c U j)=iz n φ ip d T c:=by
 have B:=X.sE;have hPd:zc R ((p:Int) ^ d)*ip ^ d=1:=jM X.inv d;have YC:zc R ((p:Int) ^ E)*ip ^ E=1:=jM X.inv E;have h1:(φ λj=>(p:Int) ^ d*sm n c U j)=φ λj=>(p:Int) ^ E*sm n c T j:=B.sup _ _ λj hj=>by
  have:=jb (n:=n) ((p:Int) ^ d) (d:=c) (e:=λ_=>0) (R:=U) (j:=j)
  rw[fP,Zm] at this;have h2:=jb (n:=n) ((p:Int) ^ E) (d:=c) (e:=λ_=>0) (R:=T) (j:=j)
  rw[fP,Zm] at h2;rw[<- this,<- h2];refine xg λi hi=>?_
  have:=e i hi j hj
  rw[Zm,Zm];grind
 rw[B.smul,B.smul] at h1;show _=ip ^ d*φ _
 grind
theorem OH.whole {f:Fn}{n p E:Nat}{G:Nat->Vc}{k:Nat->Nat}(h:OH f n p G k)(n1:1<=n)(hp:p∈PR)(hE:∀i,i<n->k i<=E){v x:Vc}(hv:∀j,j<n->v j=sm n x (pI p E G k) j)(hx:∀j,j<n->0<=x j/\x j<(p:Int))(nz:∃j,j<n/\x j≠0){c:Nat->Int}{B:Nat->Mx}(fl:FW n (m_ f n v) c B):(∀m,m<=n->((p:Int) ^ E) ^ m ∣ c m)/\¬ ∀m,m<=n->((p:Int) ^ (E+1)) ^ m ∣ c m:=by
 obtain⟨R,_,φ,ip,d,q,T,s,X,Gr,M,hk,hT⟩:=h.ex;have e:∀i,i<n->∀j,j<n->(p:Int) ^ d*pI p E G k i j=(p:Int) ^ E*T i j:=λi hi j _=>by
  rw[hT i hi j];unfold pI;have h1:=hE i hi;have h2:=(Gr.pw i hi).2;have h3:=hk i hi;rw[<- Z5,<- Z5,<- Wo,<- Wo,show d+(E-k i)=E+s i by omega]
 have hel:ip ^ E*φ v=iz n φ ip d T x:=by
  rw[<- OH.row X e x,X.sE.sup v _ hv]
 have pp:=cP hp;refine⟨λm hm=>G3 X n1 (by omega) Gr.lor hel fl hm,λz=>?_⟩
 obtain⟨j,hj,w⟩:=nz;obtain⟨t,ht⟩:=DT X n1 hp Gr.lor M.ge (Nx (X.sE.jB (d:=d) X.inv Gr.lor.st) X.inv M) hel fl z j hj;have r:=hx j hj;have:t=0:=by
  rcases Int.lt_trichotomy t 0 with y|y|y
  ·have:=Int.mul_le_mul_of_nonneg_left (show t<=-1 by omega) (show 0<=(p:Int) by omega)
   omega
  ·exact y
  ·have:=Int.mul_le_mul_of_nonneg_left (show 1<=t by omega) (show 0<=(p:Int) by omega)
   omega
 rw[this,Y6] at ht;exact w ht
section
theorem lM.calm {k:Nat}{f:o?}{fd:O!}{ps:List Str}{sp:Sp}(F:lM P w K mg base (LQ P w) k f fd ps sp):lM P w K mg base E6 k f fd ps λvs H Q _=>sp vs H Q λ_ _ _=>False:=
 ⟨λvs H Q E h=>F.len _ _ _ _ h,λA outer s H args us vs Q E hr e0 hb hv hs=>codeAny_mono (F.run A outer s H args us vs Q _ hr e0 hb hv hs) λr s' q=>by
  cases r with
  | error e=>
   obtain⟨ea,C,H',_,_,h⟩:=q;exact h.elim
  | ok fl=>cases fl <;> exact q⟩
theorem wV.calm {k:Nat}{x:Str}{ps:List Str}{sp:Sp}(D:wV P w K mg base k x ps sp):b9 P w K mg base k x ps λvs H Q _=>sp vs H Q λ_ _ _=>False:=by
 obtain⟨f,fd,F,r⟩:=D.ex;exact⟨f,fd,lM.calm F,r⟩
inductive Gk (Pp:o?)(vs:List V)(H:Hp)(Q:VK)(xF:XK):Prop where
 | mk (a:o?) (f:List Int) (n p v:Nat) (u9:vs=[.ref a,.int (p:Int)]) (u_:H a=j? (.lst (f.map V.int))) (vc:f.length=n+1) (ve:L2.dM f) (vf:xQ f) (vg:1<=n) (xG:n<=6) (zx:p∈PR) (A6:gK i8 Pp H) (Eb:eK f≠0) (vh:fU (p:Int) (eK f) v) (B_:v<=24) (KG:∀(G:Nat->Vc) (k:Nat->Nat) r us H',cL H Pp H'->OH (aq f) n p G k->H' r=j? (.lst us)->ED H' n G k us->Q (.ref r) H')
theorem Lm {aE C1 C2 C3 C4:o?}(D:wV P w K mg base 11 "whole_basis" j8 (F7 K aE C1 C2 C3 C4)):b9 P w K mg base 11 "whole_basis" j8 (Gk aE):=by
 obtain⟨fa,fd,F,r⟩:=(wV.calm D).ex;refine⟨fa,fd,F.imp λvs H Q E h=>?_,r⟩
 obtain⟨a,f,n,p,v,rfl,ha,lf,mf,dk,n1,n6,hp,tq,h0,hv,h24,q⟩:=h;refine⟨.ref a,.int (p:Int),true,true,rfl,TU hp,.QL ha (by omega) true ⟨λ_=>⟨mf,by omega,by omega⟩,λ_=>rfl⟩,tq,λz=>(nomatch z),λ_ z=>(nomatch z),λ_ _ a' f' p' ex ha' ey hp' mf l2 Rv=>?_⟩
 cases ex;have ef:=Nu ha ha';subst ef;have ep:p=p':=by have:=V.int.inj ey;omega
 subst ep;refine⟨Nv tq ha,dk,λz=>Jg z h0,λv' hv' _=>?_⟩
 have evv:=hv.uniq hv';subst evv;refine⟨λz=>by omega,λ_ _ R _ φ ip d k T s r vs H' hN hT X G M TH hr hv' ba=>?_⟩
 have en:f.length-1=n:=by omega
 rw[en] at X G M ba;refine q _ _ r vs H' hN (OH.of (cP hp).1 ((show ∀p∈PR,p<48 by decide) p hp) TH X G M) (cD hv').2 ⟨ba.len,λi hi=>?_⟩
 obtain⟨t,l,h1,h2,h3,_⟩:=ba.at_ i hi;exact⟨t,l,h1,(cD h2).2,(cD h3).2⟩
end
theorem Ln {K:bM}{Pp a:o?}{H H':Hp}{xs:List V}{ps:Array l?}(h:aO K H a xs)(e:H Pp=j? (.vv ps))(g:cL H Pp H'):aO K H' a xs:=by
 rcases h with h|h
 ·refine .inl ?_
  rcases h with h|⟨o,h⟩
  ·exact .inl (g _ _ (λz=>by rw[z] at h;have:=e.symm.trans h;cases this) h)
  ·exact .inr ⟨o,g _ _ (λz=>by rw[z] at h;have:=e.symm.trans h;cases this) h⟩
 ·exact .inr h
theorem Lo (c:Int):∃p:Nat,p∈PR/\p<=5/\qV [V.int 2,.int 3,.int 2,.int 5] (c.fmod 4)=j? (.int (p:Int)):=by
 obtain⟨k,hk,ek⟩:=i_ c (show 0<4 by decide)
 rw[show c.fmod 4=(k:Int) from ek]
 have key:∀k:Nat,k<4->∃p:Nat,p∈PR/\(p<=5/\([2,3,2,5]:List Nat)[k]?=j? p):=by decide
 obtain⟨p,hp,RC,e⟩:=key k hk;refine⟨p,hp,RC,fu ?_⟩
 have:=Je (Option.map λn:Nat=>V.int (n:Int)) e
 rw[<- Ye] at this;exact this
def Gm (K:bM)(Pp:o?):Sp:=λvs H Q _=>∃(a:o?) (ns:List Int),vs=[.ref a]/\aO K H a (ns.map V.int)/\ns.length<=63/\H Pp=j? (.vv #[])/\∀H',Q (.bl true) H'
section
theorem QY {aE:o?}(B:iw mg)(mL:b9 P w K mg base 2 "_law_number" xw (CC K))(Hz:b9 P w K mg base 6 "_law_built" J9 CK)(fL:b9 P w K mg base 4 "discriminant" ["f"] (AA K))(oh:b9 P w K mg base 1 "_law_size" DW F_)(yK:b9 P w K mg base 11 "whole_basis" j8 (Gk aE))(Lp:b9 P w K mg base 2 "_law_rows" Kf Gg)(Lq:b9 P w K mg base 1 "_law_sums" Kg Gj)(sY:b9 P w K mg base 3 "_law_is_whole" Ka Ll)
  {f:o?} {fd:O!} (F:LM K "law" "law" pQ f fd):lM P w K mg base E6 13 f fd ["_law_script"] (Gm K aE):=by
 refine F.ok g_ (λvs H Q E h=>?_) (λcdv A outer s H vs Q E hr h=>?_)
 ·obtain⟨a,ns,rfl,_⟩:=h;rfl
 obtain⟨la,ns,rfl,hs,hl,hPp,q⟩:=h;refine⟨_,ai (aC (i:=1) g_.nd rfl (z? rfl) (bI (aI (K:=K) rfl) (aZ (af ak (af ak (af ak (af ak ah))))) (au bD (aH mL hr (af (pv 0) (af ak ah))) ak) (λ_ _=>rfl)))
  (ai (lK (aH Hz hr (af (pv 1) (af (aH mL hr (af (pv 0) (af ak ah))) (af (aH mL hr (af (pv 0) (af ak ah))) (af ak ah))))) (cG (n:=2) (K:=K) rfl rfl (aP (aA (i:=2) g_.nd rfl (z? rfl)) (aP (aA (i:=3) g_.nd rfl (z? rfl)) cF))))
  (ai (aC (i:=4) g_.nd rfl (z? rfl) (aH fL hr (af (pv 2) ah)))
  (ai (dQ (PW.pt (HZ (a_ iW (pv 4) ak (bG _)) (C_ (a_ yS (aH oh hr (af (pv 4) (af (pv 1) ah))) ak (bG _)))))
   (av (aM uM))
   (b8))
  (ai (aC (i:=5) g_.nd rfl (z? rfl) (au bO (aJ (aN (K:=K) rfl) rfl B.len bN (af (pv 2) ah)) ak))
  (ai (aC (i:=6) g_.nd rfl (z? rfl) (aH yK hr (af (jx fN rfl B.list lU (af (pv 2) ah)) (af (pv 1) ah))))
  (ai (lK (aH Lp hr (af (pv 6) (af (pv 5) (af (pv 1) ah)))) (cG (n:=2) (K:=K) rfl rfl (aP (aA (i:=7) g_.nd rfl (z? rfl)) (aP (aA (i:=8) g_.nd rfl (z? rfl)) cF))))
  (ai (bZ D? rfl (bE (K:=K) rfl (aH Lq hr (af (pv 5) (af (pv 1) (af (aH mL hr (af (pv 0) (af ak ah))) ah))))) (aA (i:=9) g_.nd rfl (z? rfl))
   (ai (aC (i:=10) g_.nd rfl (z? rfl) (au jF (aZ (af ak ah)) (pv 5)))
   (ai (bZ D? rfl (kc (K:=K) rfl rfl B.zip (af (pv 9) (af (pv 8) ah))) (cG (n:=2) (K:=K) rfl rfl (aP (aA (i:=11) g_.nd rfl (Or.inr rfl)) (aP (aA (i:=12) g_.nd rfl (z? rfl)) cF)))
    (av (gh (i:=10) g_.nd rfl (z? rfl) (aG (N:=Qh) (sl:=[q?,q?,j? 11]) (ao pQ) YD rfl rfl (by decide +kernel)) rfl (kc (K:=K) rfl rfl B.zip (af (pv 10) (af (pv 12) ah))) (λ_ _ _ _ _=>(cG (n:=2) (K:=K) rfl rfl (aP (aA (i:=0) (Yk_ Qh) rfl (z? rfl)) (aP (aA (i:=1) (Yk_ Qh) rfl (z? rfl)) cF)))) (λ_ _ _ _ _=>aR) (λ_ _ _ _ _=>(au bU (pv 0) (au aW (pv 2) (pv 1)))))))
   (ai (dQ (pW (aH sY hr (af (pv 2) (af (pv 1) (af (pv 10) (af (au bU (pv 7) ak) ah))))))
    (av (aM uM))
    (b8))
   (av (dQ (vQ (pW (aH sY hr (af (pv 2) (af (pv 1) (af (pv 10) (af (pv 7) ah)))))))
    (av (aM uM))
    (b8)))))))
  (av (aM uM))))))))),?_⟩
 refine⟨aT rfl,λp1 n1=>?_⟩
 generalize hH1:L2.upd H p1 _=H1;obtain⟨g1,e1⟩:=aV n1 hH1;clear hH1;refine⟨_,rfl,la,ns,3,rfl,g1.seq hs,by decide,by decide,λc3=>?_⟩
 obtain⟨p,hp,RC,hpx⟩:=Lo c3;have pp:=cP hp;refine⟨_,_,rfl,rfl,(show(4:Int)≠0 by decide),p1,_,_,_,rfl,rfl,aO.of e1,hpx,?_⟩
 refine⟨_,rfl,_,rfl,la,ns,1,rfl,g1.seq hs,by decide,by decide,λc1=>?_⟩
 refine⟨_,rfl,la,ns,2,rfl,g1.seq hs,by decide,by decide,λc2=>?_⟩
 refine⟨p,c1,c2,rfl,by omega,by omega,λf n ix t l H2 g2 et el pw CJ n6=>?_⟩
 refine⟨t,_,rfl,j5.of et,rfl,_,_,rfl,_,_,rfl,rfl,?_⟩
 have dk:=Gd pw CJ n6;obtain⟨bd,E',hE,TR,hrr⟩:=id dk;have en:f.length-1=n:=by rw[pw.len];omega
 rw[en] at TR hrr;refine⟨_,rfl,l,f,n,E',rfl,aO.of el,pw.len,CJ,by omega,pw.mon,bd,hE,TR,hrr,λH3 g3=>?_⟩
 have ed:tg n*det n (λi j=>rr (aq f) n (aq (dl f)) (dl f).length i j)=eK f:=by
  unfold eK;rw[en]
 rw[ed];refine⟨_,rfl,rfl,_,rfl,fV (λc=>ko (q _)) (λc=>?_)⟩
 have h0:eK f≠0:=λz=>c (Jb (Je V.int z))
 refine⟨_,rfl,_,rfl,eK f,(p:Int),rfl,h0,by omega,by omega,λv hv=>⟨_,_,rfl,rfl,_,rfl,fV (λc=>q _) (λc=>?_)⟩⟩
 have c':¬ (24:Int)<(v:Int):=λz=>c (Jb z)
 have gA:=(g1.trans g2).trans g3;have UP:=g3 _ _ el;have HR:gK i8 aE H3:=(gK.nil hPp).same gA;have Th:=gA _ _ hPp;have MH:=gA.seq hs;clear gA g1 g2 g3 e1 et;refine⟨_,rfl,l,_,rfl,.inl (aO.of UP),_,_,rfl,rfl,?_⟩
 show gE 5 (V.int (((f.map V.int).length:Int)-1)) _ _ _
 rw[Ya,pw.len,show(((n+1:Nat):Int)-1)=(n:Int) by omega]
 refine⟨_,rfl,l,_,rfl,.inl (aO.of UP),λp4 n4=>?_⟩
 generalize hH4:L2.upd H3 p4 _=H4;obtain⟨g4,e4⟩:=aV n4 hH4;clear hH4;refine⟨_,rfl,p4,f,n,p,v,rfl,e4,pw.len,pw.mon,dk,CJ,n6,hp,HR.same g4,h0,hv,by omega,λG k r us H5 n5 tl hr ba=>?_⟩
 have keep:∀(a:o?) (xs:List V),H4 a=j? (.lst xs)->H5 a=j? (.lst xs):=λa xs h=>n5 _ _ (λz=>by rw[z,g4 _ _ Th] at h;cases h) h
 have Rx:=keep _ _ (g4 _ _ UP);have hs5:aO K H5 la (ns.map V.int):=Ln (g4.seq MH) (g4 _ _ Th) n5;refine⟨_,rfl,_,rfl,_,rfl,r,us,n,p,G,k,rfl,hr,ba,CJ,n6,by omega,by omega,tl.WG,λi j hi=>?_,tl.jB,λE t6 r6 H6 g6 QV hkE ht6 Qw=>?_⟩
 ·by_cases hj:j<n
  ·exact tl.bd i j hi hj
  ·rw[tl.jB i hi j (by omega)];show Zo 0<_;exact Zu (by decide)
 refine⟨t6,_,rfl,j5.of ht6,rfl,_,_,rfl,_,_,rfl,rfl,?_⟩
 obtain⟨lR,ws,eR,hlR,_,CR⟩:=id Qw.cf;cases eR;have el6:=g6 _ _ Rx;have hs6:=g6.seq hs5;clear n5 keep hs5 Rx hr ba g4 e4 Th HR MH UP Qw;refine⟨_,rfl,_,rfl,_,rfl,la,ns,4,rfl,hs6,by decide,by decide,λc4=>?_⟩
 refine⟨n,p,c4,rfl,CJ,n6,by omega,RC,λr7 zs H7 g7 e7 hz=>?_⟩
 have el7:=g7 _ _ el6;have T3:=g7 _ _ hlR;have CR7:=CR.same g7;clear g7 g6 hs6 el6 hlR CR;refine⟨r7,rfl,⟨_,aO.of e7⟩,fZ (xs:=zs) (λi σ H8=>aF H7 H8/\∃(o9 oa ob oc:Option V),σ=[Rq la,Iq (p),Rq l,j? (.int ix),j? (.int (eK f)),Iq (n),Rq r,Iq (E),Rq lR,o9,oa,ob,oc]) ⟨aF.refl _,_,_,_,_,rfl⟩ (λi σ H8 _ h=>aO.of (h.1 _ _ e7)) ?_ ?_⟩
 ·rintro i z σ H8 hzi ⟨g8,o9,oa,ob,oc,rfl⟩
  obtain⟨x,rx,hx,nz⟩:=hz z (Yw hzi);obtain⟨lx,rfl,hlx,_⟩:=cS rx;refine⟨aT rfl,λp8 n8=>?_⟩
  generalize hH9:L2.upd H8 p8 _=H9;obtain⟨g9,e9⟩:=aV n8 hH9;clear hH9;refine⟨_,rfl,p8,(n:Int),_,rfl,rfl,e9,by omega,by omega,by rw[C?,Yf];show 1*_<=_;omega,λpa na=>?_⟩
  rw[Yf,rep0];generalize hHa:L2.upd H9 pa _=Ha;obtain⟨ga,ea⟩:=aV na hHa;clear hHa;have Xc:=(g8.trans g9).trans ga;have ea:Ha pa=j? (.lst ((lv n λj=>sm 0 x (pI p E G k) j).map V.int)):=by
   rw[ea];congr 3
   refine Ze λm=>?_
   by_cases hm:m<n
   ·rw[cE hm,Zl,Ja hm];rfl
   ·rw[List.getElem?_eq_none_iff.mpr (by rw[Yp];omega),List.getElem?_eq_none_iff.mpr (by rw[aQ];omega)]
  have bx:∀j,j<n->Bd 3 (x j):=λj hj=>by have:=hx j hj;show(x j).natAbs<8;omega
  have T4:∀i j,i<n->j<n->Bd 200 (pI p E G k i j):=λi j hi hj=>(OG (k:=k i) (by omega) QV).mul (tl.bd i j hi hj)
  show Ends.nx _ (List.set _ _ _) _
  dsimp only
  refine mY (λy:o?×Option V×Option V=>[Rq la,Iq (p),Rq l,j? (.int ix),j? (.int (eK f)),Iq (n),Rq r,Iq (E),Rq lR,Rq lx,Rq y.1,y.2.1,y.2.2]) (λy Hb=>aF H7 Hb/\Hb y.1=j? (.lst ((lv n λj=>sm n x (pI p E G k) j).map V.int))) (λC key=>?_) ?_
  ·refine⟨_,rfl,_,rfl,lx,lR,rfl,⟨_,aO.of (Xc _ _ hlx)⟩,⟨_,aO.of (Xc _ _ T3)⟩,Fy (xs:=(lv n x).map V.int) (ys:=ws) (λm σ Hb=>aF H7 Hb/\∃(s:o?) (ob oc:Option V),σ=[Rq la,Iq (p),Rq l,j? (.int ix),j? (.int (eK f)),Iq (n),Rq r,Iq (E),Rq lR,Rq lx,Rq s,ob,oc]/\Hb s=j? (.lst ((lv n λj=>sm m x (pI p E G k) j).map V.int))) (by rw[Ya,aQ,CR7.len]) ⟨Xc,pa,_,_,rfl,ea⟩ (λm σ Hb _ h=>⟨aO.of (h.1 _ _ hlx),aO.of (h.1 _ _ T3)⟩) ?_ ?_⟩
   ·rintro m vx vy t σ Hb ig AB ht ⟨gb,s5,ob,oc,rfl,eb⟩
    obtain⟨y1,hy1,rfl⟩:=aS ig;have hm:m<n:=by have:=(List.getElem?_eq_some_iff.mp hy1).1;rw[aQ] at this;exact this
    rw[cE hm] at hy1;cases hy1;obtain⟨_,rl⟩:=CR7.get AB;obtain⟨ll,rfl,BO,_⟩:=cS rl;refine⟨t,_,rfl,j5.of ay,rfl,_,_,rfl,_,_,rfl,rfl,?_⟩
    generalize hX:upd Hb t _=Hc;have gc:=(aV ht hX).1;clear hX;have RD:=gb.trans gc;refine⟨_,rfl,_,rfl,s5,ll,rfl,⟨_,aO.of (gc _ _ eb)⟩,⟨_,aO.of (RD _ _ BO)⟩,λD hD=>?_⟩
    refine JI (λj=>.num (sm (m+1) x (pI p E G k) j)) (n:=n) (by rw[Ya,aQ]) (by rw[Ya,aQ]) (gc _ _ eb) (RD _ _ BO) hD (by omega) (λj vx vy t2 Hd Q2 hj gd ig AB WY q2=>?_) λHd gd rr=>?_
    ·obtain⟨y1,hy1,rfl⟩:=aS ig
     obtain⟨y2,D8,rfl⟩:=aS AB;rw[cE hj] at hy1 D8;cases hy1;cases D8;refine⟨t2,_,rfl,j5.of WY,rfl,_,_,rfl,_,_,rfl,rfl,?_⟩
     exact⟨_,rfl,_,rfl,_,rfl,_,_,rfl,rfl,(bx m hm).ok (T4 m j hm hj),_,_,rfl,rfl,q2 _ Hd (aF.refl _) (.num _)⟩
    ·obtain⟨lD,eD,Hr,_⟩:=cS (n:=n) (v:=λj=>sm (m+1) x (pI p E G k) j) rr
     cases eD;exact⟨RD.trans gd,D,_,_,rfl,Hr⟩
   ·rintro σ Hb ⟨gb,s5,ob,oc,rfl,eb⟩
    rw[Ya,aQ] at eb;exact key (s5,ob,oc) Hb ⟨gb,eb⟩
  ·rintro⟨s5,ob,oc⟩ Hb ⟨gb,eb⟩
   obtain⟨c,Bm,fl⟩:=J7 CJ (m_ (aq f) n λj=>sm n x (pI p E G k) j)
   obtain⟨w1,w2⟩:=tl.whole CJ hp hkE (λj _=>rfl) hx nz fl
   have bv:∀m,m<n->Bd 300 (sm n x (pI p E G k) m):=λm hm=>(xN (k:=3) (by omega) bx λi hi=>T4 i m hi hm).mono (by omega)
   refine⟨_,rfl,_,rfl,_,rfl,_,rfl,_,_,rfl,rfl,l,.ref s5,f,n,p,E+1,_,c,Bm,false,Je (λz=>[V.ref l,V.int (p:Int),V.ref s5,V.int z]) (by omega),gb _ _ el7,pw.len,pw.mon,CJ,n6,(pw.P8 n6).mono (by decide),by omega,by omega,by omega,nK eb trivial,bv,fl,⟨λz=>(nomatch z),λz=>Jg z w2⟩,λHc gc=>⟨_,rfl,jG ?_⟩⟩
   have RD:=gb.trans gc;refine⟨_,rfl,_,rfl,_,rfl,_,rfl,l,.ref s5,f,n,p,E,_,c,Bm,true,rfl,RD _ _ el7,pw.len,pw.mon,CJ,n6,(pw.P8 n6).mono (by decide),by omega,by omega,by omega,nK (gc _ _ eb) trivial,bv,fl,⟨λ_=>w1,λ_=>rfl⟩,λHd gd=>⟨_,rfl,jG ?_⟩⟩
   exact⟨RD.trans gd,_,_,_,_,rfl⟩
 ·rintro σ H8 ⟨g8,o9,oa,ob,oc,rfl⟩
  exact q H8
end
local macro_rules | `(tactic| walk_at "b1") => `(tactic| exact L2.bd1 λ_ _ _ _ _ _ _ => rfl)
local macro_rules | `(tactic| walk_at "b2") => `(tactic| exact L2.Um λ_ _ _ _ _ _ _ _ => rfl)
local macro_rules | `(tactic| walk_at "b3") => `(tactic| exact L2.bd3 λ_ _ _ _ _ _ _ _ _ => rfl)
local macro_rules | `(tactic| walk_at "b4") => `(tactic| exact L2.bd4 λ_ _ _ _ _ _ _ _ _ _ => rfl)
theorem all_mk {l:PySem.W.OpenLaw}{w:H?}{K:bM}{h:O?}{mg:Str->Option l?}{fa:o?}(X:K.In h)(G:h.Ns G? mg)(hfa:mg "law"=j? (.ref fa))
  {Xd:o?} {Xe Xf:Option o?} {Xg:Array (Option l?)} {Xh Xi Xj Xk QZ Xl:l?}
  {Xm:o?} {Xn T5:Option o?} {Xo:Array (Option l?)} {Xp T6 T7 T8 Q0 T9:l?}
  {iK aE:o?}
  {pV:o?}
  {dH:o?}
  {bW:o?}
  {cU:o?}
  {fc:o?}
  {pK:Tok}
  {sZ:Tok}
  {yL:Tok}
  {ia:o?} {CP:Obj}
  (qF:cK K "is_whole" qm)
  (qG:cK K "is_prime" qp)
  (jZ:cK K "number_power" jO)
  (oi:cK K "taken_out" nQ)
  (iM:cK K "size_of_number" iC)
  (jh:cK K "is_polynomial" jd)
  (qH:cK K "is_monic" qu)
  (d8:cK K "without_noughts_behind" dZ)
  (kK:cK K "coefficient" kE)
  (mO:cK K "multiplied" mh)
  (uv:cK K "derived" oR)
  (uw:cK K "divided" tZ)
  (ji:cK K "place_of_lead" je)
  (qI:cK K "lessened" iE)
  (kL:cK K "determinant" kF)
  (oj:cK K "resultant" kg)
  (j0:cK K "discriminant" jP)
  (gC:cK K "is_bounded_monic" gv)
  (mP:cK K "plain_size" mj)
  (gD:cK K "refuse_for_basis" gw)
  (j3:cK K "without_lead" gW)
  (jj:cK K "with_lead_one" gm)
  (mQ:cK K "first_lead" mq)
  (xW:cK K "kernel" i7)
  (uz:cK K "back_by" t7)
  (qJ:cK K "unit_row" mw)
  (Xq:N? K G? "lead_at"=j? (j? (.ref Xd))) (Xs:K.lookup Xd=j? ⟨Xh,Xe,.func (W? "lead_at" "lead_at" (dP fR) (cA fR) (ao fR) .none Xi Xj Xk Xf QZ Xl),Xg⟩) (Xu:P! K QZ "lead_at"=true) (Xv:C! K (.ref Xd)=true)
  (uA:QZ=.ref iK) (jV:PySem.W.codeHdIn K iK aE=true)
  (uB:cK K "without" lC)
  (mR:cK K "triangular" ju)
  (kM:cK K "coordinates" iQ)
  (xX:cK K "summed" lE)
  (mS:cK K "product_by" jv)
  (qK:cK K "table_of" iG)
  (qL:cK K "times_by" jR)
  (qM:cK K "power_by" qv)
  (xY:cK K "raised" nT)
  (kN:cK K "multipliers" iR)
  (AV:cK K "grown" oU)
  (kO:cK K "whole_basis" iS)
  (om:cK K "_law_cell_at" nU)
  (qN:cK K "_law_number" qw)
  (qO:cK K "_law_common" qx)
  (oq:cK K "_law_trimmed" nV)
  (uC:cK K "_law_times" t8)
  (xZ:cK K "_law_plus" sI)
  (x_:cK K "_law_poly" xy)
  (uD:cK K "_law_power" t_)
  (ou:cK K "_law_rest_by" nW)
  (ya:cK K "_law_size" xA)
  (mT:cK K "_law_ramified" jw)
  (uE:cK K "_law_zeros" ua)
  (kP:cK K "_law_stretched" iT)
  (uF:cK K "_law_shift" oX)
  (uG:cK K "_law_piece" uc)
  (uH:cK K "_law_built" ud)
  (yc:cK K "_law_rows" jS)
  (uI:cK K "_law_table" ue)
  (oz:cK K "_law_product" ki)
  (AW:cK K "_law_own" sJ)
  (mU:cK K "_law_is_whole" mH)
  (yd:cK K "_law_sums" jT)
  (Xw:N? K G? "law"=j? (j? (.ref Xm))) (Xx:K.lookup Xm=j? ⟨Xp,Xn,.func (W? "law" "law" (dP pQ) (cA pQ) (ao pQ) .none T6 T7 T8 T5 Q0 T9),Xo⟩) (Xy:P! K Q0 "law"=true) (Xz:C! K (.ref Xm)=true)
  (j4:N? K G? "BranchError"=j? (j? (.ref pV)))
  (qP:N? K G? "NoPrime"=j? (j? (.ref dH)))
  (jk:N? K G? "NoPolynomial"=j? (j? (.ref bW)))
  (oA:N? K G? "NotPlain"=j? (j? (.ref cU)))
  (qQ:N? K G? "TooDeep"=j? (j? (.ref fc)))
  (lH:PySem.W.excIn K dH [.type "ValueError",.type "Exception",.type "BaseException",.type "object"] "ValueError.__new__"=true)
  (fK:PySem.W.excIn K bW [.type "ValueError",.type "Exception",.type "BaseException",.type "object"] "ValueError.__new__"=true)
  (jY:PySem.W.excIn K cU [.type "ValueError",.type "Exception",.type "BaseException",.type "object"] "ValueError.__new__"=true)
  (lI:PySem.W.excIn K fc [.type "ValueError",.type "Exception",.type "BaseException",.type "object"] "ValueError.__new__"=true)
  (fX:N? K G? "MOST_BASIS_DEGREE"=j? (j? (.int 6 pK)))
  (ie:N? K G? "MOST_BASIS_SIZE"=j? (j? (.int 24 sZ)))
  (kQ:N? K G? "MOST_DEGREE"=j? (j? (.int 12 yL)))
  (ye:N? K G? "PRIMES"=j? (j? (.ref ia))) (yf:K.lookup ia=j? CP)
  (yg:zS CP (PR.map λp:Nat=>(p:Int))=true)
  (Lr:N? K G? "abs"=j? q?)
  (Ls:N? K G? "any"=j? q?)
  (EF:N? K G? "bool"=j? q?)
  (oB:N? K G? "enumerate"=j? q?)
  (Lu:N? K G? "int"=j? q?)
  (mV:N? K G? "isinstance"=j? q?)
  (Lv:N? K G? "len"=j? q?)
  (EG:N? K G? "list"=j? q?)
  (Lw:N? K G? "max"=j? q?)
  (Lx:N? K G? "min"=j? q?)
  (AX:N? K G? "range"=j? q?)
  (qR:N? K G? "reversed"=j? q?)
  (Ly:N? K G? "sum"=j? q?)
  (Lz:N? K G? "zip"=j? q?):
  ∃fd:O!,(∀(s:u?) (v:l?),BindsTo s fd ⟨[v],[]⟩ [("_law_script",v)])/\∀base:O?,K.In base->base.Ns G? mg->BMain mg base->lM l.prog w K mg base E6 13 fa fd ["_law_script"] (Gm K aE):=by
 have e:=hfa.symm.trans (PySem.W.mg_of X G Xw);cases e;have EH:=aY (mg:=mg) (ps:=jr) X G qF (by walk_at "b1")
 have EI:=aY (mg:=mg) (ps:=["k"]) X G qG (by walk_at "b1")
 have yh:=aY (mg:=mg) (ps:=["k","n"]) X G jZ (by walk_at "b2")
 have CQ:=aY (mg:=mg) (ps:=sG) X G oi (by walk_at "b2")
 have uJ:=aY (mg:=mg) (ps:=sG) X G iM (by walk_at "b2")
 have vp:=aY (mg:=mg) (ps:=jr) X G jh (by walk_at "b1")
 have EJ:=aY (mg:=mg) (ps:=jr) X G qH (by walk_at "b1")
 have kR:=aY (mg:=mg) (ps:=["numbers"]) X G d8 (by walk_at "b1")
 have yM:=aY (mg:=mg) (ps:=DZ) X G kK (by walk_at "b2")
 have AY:=aY (mg:=mg) (ps:=m9) X G mO (by walk_at "b2")
 have HA:=aY (mg:=mg) (ps:=["f"]) X G uv (by walk_at "b1")
 have HB:=aY (mg:=mg) (ps:=m9) X G uw (by walk_at "b2")
 have vq:=aY (mg:=mg) (ps:=["table"]) X G ji (by walk_at "b1")
 have EK:=aY (mg:=mg) (ps:=Kr) X G qI (by walk_at "b3")
 have yN:=aY (mg:=mg) (ps:=["table"]) X G kL (by walk_at "b1")
 have CT:=aY (mg:=mg) (ps:=m9) X G oj (by walk_at "b2")
 have yi:=aY (mg:=mg) (ps:=["f"]) X G j0 (by walk_at "b1")
 have qS:=aY (mg:=mg) (ps:=jr) X G gC (by walk_at "b1")
 have AZ:=aY (mg:=mg) (ps:=j8) X G mP (by walk_at "b2")
 have qT:=aY (mg:=mg) (ps:=j8) X G gD (by walk_at "b2")
 have yj:=aY (mg:=mg) (ps:=DV) X G j3 (by walk_at "b4")
 have vt:=aY (mg:=mg) (ps:=Kw) X G jj (by walk_at "b3")
 have A1:=aY (mg:=mg) (ps:=Ky) X G mQ (by walk_at "b2")
 have LA:=aY (mg:=mg) (ps:=["rows","p"]) X G xW (by walk_at "b2")
 have HC:=aY (mg:=mg) (ps:=["k","power"]) X G uz (by walk_at "b2")
 have EL:=aY (mg:=mg) (ps:=As) X G qJ (by walk_at "b3")
 have HD:JB K mg "lead_at" fR Kn iK:=MJ X G Xq Xs Xu Xv (λ_ _ _ _ _ _ us hl=>match us,hl with | [_,_,_,_],_=>rfl) uA
 have HE:=aY (mg:=mg) (ps:=Kl) X G uB (by walk_at "b4")
 have A2:=aY (mg:=mg) (ps:=G5) X G mR (by walk_at "b3")
 have yO:=aY (mg:=mg) (ps:=G6) X G kM (by walk_at "b2")
 have LB:=aY (mg:=mg) (ps:=Au) X G xX (by walk_at "b2")
 have A3:=aY (mg:=mg) (ps:=Ko) X G mS (by walk_at "b4")
 have EM:=aY (mg:=mg) (ps:=DX) X G qK (by walk_at "b3")
 have EN:=aY (mg:=mg) (ps:=Kq) X G qL (by walk_at "b4")
 have EO:=aY (mg:=mg) (ps:=Ks) X G qM (by walk_at "b4")
 have LC:=aY (mg:=mg) (ps:=yw) X G xY (by walk_at "b2")
 have yP:=aY (mg:=mg) (ps:=yw) X G kN (by walk_at "b2")
 have NB:=aY (mg:=mg) (ps:=j8) X G AV (by walk_at "b2")
 have yQ:=aY (mg:=mg) (ps:=j8) X G kO (by walk_at "b2")
 have CU:=aY (mg:=mg) (ps:=xw) X G om (by walk_at "b2")
 have ER:=aY (mg:=mg) (ps:=xw) X G qN (by walk_at "b2")
 have ES:=aY (mg:=mg) (ps:=xu) X G qO (by walk_at "b2")
 have CV:=aY (mg:=mg) (ps:=DY) X G oq (by walk_at "b1")
 have HF:=aY (mg:=mg) (ps:=nO) X G uC (by walk_at "b2")
 have LD:=aY (mg:=mg) (ps:=nO) X G xZ (by walk_at "b2")
 have LF:=aY (mg:=mg) (ps:=Kc) X G x_ (by walk_at "b3")
 have HG:=aY (mg:=mg) (ps:=BZ) X G uD (by walk_at "b2")
 have CY:=aY (mg:=mg) (ps:=nO) X G ou (by walk_at "b2")
 have LG:=aY (mg:=mg) (ps:=DW) X G ya (by walk_at "b2")
 have A4:=aY (mg:=mg) (ps:=J_) X G mT (by walk_at "b4")
 have HH:=aY (mg:=mg) (ps:=Ke) X G uE (by walk_at "b3")
 have yR:=aY (mg:=mg) (ps:=Kh) X G kP (by walk_at "b3")
 have HJ:=aY (mg:=mg) (ps:=Km) X G uF (by walk_at "b2")
 have HK:=aY (mg:=mg) (ps:=Kd) X G uG (by walk_at "b3")
 have HL:=aY (mg:=mg) (ps:=J9) X G uH (by walk_at "b4")
 have LH:=aY (mg:=mg) (ps:=Kf) X G yc (by walk_at "b3")
 have HN:=aY (mg:=mg) (ps:=Ku) X G uI (by walk_at "b2")
 have CZ:=aY (mg:=mg) (ps:=xu) X G oz (by walk_at "b2")
 have NC:=aY (mg:=mg) (ps:=Kv) X G AW (by walk_at "b1")
 have A5:=aY (mg:=mg) (ps:=Ka) X G mU (by walk_at "b4")
 have LI:=aY (mg:=mg) (ps:=Kg) X G yd (by walk_at "b3")
 have T_:=wc (st:=pQ) Xx Xy Xz;have LX:mg "BranchError"=j? (.ref pV):=PySem.W.mg_of X G j4;have ur:mg "NoPrime"=j? (.ref dH):=PySem.W.mg_of X G qP;have jX:mg "NoPolynomial"=j? (.ref bW):=PySem.W.mg_of X G jk;have qC:mg "NotPlain"=j? (.ref cU):=PySem.W.mg_of X G oA;have uu:mg "TooDeep"=j? (.ref fc):=PySem.W.mg_of X G qQ;have B:iw mg:=⟨Y? X G Lr,Y? X G Ls,Y? X G EF,Y? X G oB,Y? X G Lu,Y? X G mV,Y? X G Lv,Y? X G EG,Y? X G Lw,Y? X G Lx,Y? X G AX,Y? X G qR,Y? X G Ly,Y? X G Lz⟩;refine⟨W? "law" "law" (dP pQ) (cA pQ) (ao pQ) .none T6 T7 T8 T5 Q0 T9,λs v=>.of_eq rfl,λbase _ _ hbm=>?_⟩
 have hPR:∀H,j5 K H ia (PR.map λp:Nat=>V.int (p:Int)):=λH=>by
  have z:j5 K H ia ((PR.map λp:Nat=>(p:Int)).map V.int):=Dq yf yg
  rw[W6] at z;exact z
 have dnp:=u6 (P:=l.prog) (w:=w) (base:=base) B yh;have dtk:=Ax (P:=l.prog) (w:=w) (base:=base) (K:=K) (mg:=mg) CQ;have XA:=sL dtk uJ;have dt:=j9 (P:=l.prog) (w:=w) (base:=base) B kR;have dd:=xC (P:=l.prog) (w:=w) (base:=base) B (uh B vq) (B9 B EK) yN;have dc:=xE (P:=l.prog) (w:=w) (base:=base) B yM;have dm:=yy (P:=l.prog) (w:=w) (base:=base) B AY;have dv:=Ec B dt HB;have dr:=Az B dc dm dv dd CT;have di:=vj B (Ea B HA) dr yi;have dwl:=vm (P:=l.prog) (w:=w) (base:=base) B yj;have dlo:=um (P:=l.prog) (w:=w) (base:=base) B vt;have dfl:=yC (P:=l.prog) (w:=w) (base:=base) B A1;have XC:=G_ B dwl dlo dfl LA;have XD:=Cc (P:=l.prog) (w:=w) (base:=base) B EL;have dbb:=Eg (P:=l.prog) (w:=w) (base:=base) HC;have dco:=xM (P:=l.prog) (w:=w) (base:=base) B yO;have XE:=Hf (P:=l.prog) (w:=w) (base:=base) B LB;have dpb:=yD B dt dm dv dc A3;have dta:=Cd B dpb dco EM;have dtb:=Ci B XE EN;have dpw:=Cj B dtb EO;have dra:=Hh B XD dpw LC;have dwo:=Ek (P:=l.prog) (w:=w) (base:=base) B HE;have dla:=En B hbm jV dtk XA dbb XD HD;have dtr:=yE B dnp dla dwo A2;have dmu:=xO B dra XC dtr dco XE yP;have dgr:=K7 B XD dnp dta dmu dtr XE NB;have diw:=B7 (P:=l.prog) (w:=w) (base:=base) B EH;have dpr:=Cs B (PySem.W.mg_of X G ye) hPR diw EI;have dip:=uq B diw vp;have dmo:=Ct B dip EJ;have dbm:=pF B (PySem.W.mg_of X G kQ) dmo qS;have dps:=yG ur lH jX fK qC jY B dpr dbm di XA AZ;have drf:=pG uu lI B (PySem.W.mg_of X G fX) (PySem.W.mg_of X G ie) dps qT;have dwb:=xR B drf dgr XA yQ;have XF:=AM (P:=l.prog) (w:=w) (base:=base) B CV;have dti:=Es B XF HF;have dpl:=Hs B XF LD;have UQ:=Ey (P:=l.prog) (w:=w) (base:=base) B HG;have XG:=Hu (P:=l.prog) (w:=w) (base:=base) LG;have dze:=Ez B dti XG HH;have dpo:=Ew B XF LF;have dpi:=EA B (CH B ES) (yH B UQ A4) dze dpo di (xU B UQ yR) HK;have dbu:=EC B dpi (Ex dpl dti HJ) dr dti XG HL;have drb:=AQ (P:=l.prog) (w:=w) (base:=base) B CY;have dro:=Hw B UQ LH;have dtt:=EE B drb HN;have dow:=Lk B (AU (P:=l.prog) (w:=w) (base:=base) B CZ) NC;have dsm:=Hy (P:=l.prog) (w:=w) (base:=base) B LI;exact QY B (Ht B (Et B CU) ER) dbu di XG (Lm dwb) dro dsm (yJ dtt dow UQ A5) T_
theorem walk {l:PySem.W.OpenLaw}{q:F?}{loose:List Str}{XP:(Str->Option l?)->O?->Prop}{YP:H?->O?->Prop}{d:DefRec}{K:Params->bM}(hn:l.most=j? 63)(hdf:d.params.defaults=[])
  (hY:∀(w:H?) (h:O?),YP w h->(K w.params).In h/\PySem.W.TabsAt [(248,246)] h) (hK:∀w:H?,PySem.W.noTabs (K w.params)=true)
  (F:∀(w:H?) (mg:Str->Option l?) (fa:o?) (h:O?),(K w.params).In h->h.Ns G? mg->mg d.name=j? (.ref fa)->
   ∃fd:O!,(∀(s:u?) (u:l?),BindsTo s fd ⟨[u],[]⟩ [("_law_script",u)])/\∀base:O?,(K w.params).In base->base.Ns G? mg->BMain mg base->lM l.prog w (K w.params) mg base E6 13 fa fd ["_law_script"] (Gm (K w.params) 246)):
  PySem.W.WalkO q loose XP YP l.row.toRowW d [] (λf vs=>PySem.call f vs):=
 L2.JA (tabs:=[(248,246)]) (n:=63) (k:=13) (x:="_law_script") (CX:=λ_=>E6) (sp:=λw=>Gm (K w.params) 246) hn (by decide) hdf ⟨rfl,by decide,by decide,rfl⟩ hY hK F (λ_ _ a ns hl hS hT=>⟨a,ns,rfl,hS,hl,hT (248,246) (by simp),λ_=>rfl⟩) λ_ _ _ _ _ z=>z
end K61
structure PySem.W.Fast:Prop where(tw13867313978210535029 tw15805981997965926757 tw3331809572224546668 tw14483974515581767403 tw5031385149906439412 tw16938337166059420121 tw1900722312329729935 tw17386042400486574153 tw7818808180610681839 tw4730016950058045421 tw3441476217256960603 tw13109249597267996342 tw1568949198190473210 tw12512200932502206957 tw11492110491969446340 tw1786774149901151079 tw16803593415248625244 tw1016892350836383924 tw988106897878404113 tw1183154465169951853 tw42462704888955099 tw11411116439790192831 tw16625785375711115128 tw4990914850515165131 tw13077683172342174620 tw11225938179063467836 tw845815770693739437 tw17836288679215011588 tw4194368371979972087 tw12128113792618795669 tw13618056704929190687 tw10680042013618626302 tw11111601764190485985 tw15565452979325206069 tw7291521545999191178 tw3669739854908620488 tw12417806690537168804 tw10818385268416722440 tw4631376428458397713 tw12690841232204469357 tw3947836943965794075 tw4912076713434792073 tw11595446473757065595 tw2657624759738890241 tw750601139543592100 tw5069661097092886873 tw5020656064623800488 tw6197721115622867042 tw3833972416845846772 tw7499265170636154299 tw4788681894093329487 tw15252321017960986056 tw12428889950198409562 tw15058166590255791466 tw15897463210831101662 tw4242328614993968404 tw2290773400671070078 tw2029334401093050440 tw10080061696954666552 tw14626944362076055905 tw15936706231141035020 tw17482430537557781666 tw14352707641034128892 tw6498582761528383220 tw14549643747858382031 tw120539264298227964 tw12625371543564455546 tw10121812828045165827 tw6388342032903540281 tw14926050302129273449 tw4225392089560991712 tw17504057870655479083 tw13557292698582210920 tw18028322844792602440 tw16819778474298312204 tw1748812559088985194 tw16161471343673839987 tw8568479201115391283 tw16287862877917787251 tw14097927124179676183 tw18218027795613878181 tw15214848470721259729 tw12972420393427838049 tw7651561756799267346 tw12503635836774009512 tw5991468565538733637 tw14055972685885291734 tw14425821230002299401 tw18445991647511630082 tw5200143742850948760 tw9333460739019140465 tw15285671044171445819 tw15611315565687641399 tw4755327898125852883 tw7357649687468609592 tw18445444389803585452 tw10981238310538582396 tw11029818227381586190 tw13070636692724621984 tw16289376637371470542 tw5503743736156278401 tw6928937568862410700 tw5211259971040945901 tw6332099955615196397 tw5442783952716996003 tw1755402760270668627 tw7385023972556481196 tw14561370976371347472 tw13015255153991486325 tw7782269164880463993 tw17841952810596786154 tw5628712422746282139 tw17399931465445122956 tw11367358166097121136 tw8486667074366582658 tw6060657935384764790 tw7187564383507215065 tw4250166821356913458 tw401694819791270392 tw10181085262365939655 tw5744243526349479871 tw2774479346136737149 tw7831129504171129927 tw7758430801620290299 tw9761671247253126561 tw14545351026790386593 tw17432781232961609288 tw2456617861597445897 tw6363030768604312413 tw17961393063914437732 tw12571823147041994933 tw1134473901330713566 tw12658198334862927399 tw9999085894651151489 tw5392715043796294908 tw13332563121724440685 tw4464261102747068369 tw16834224805685100897 tw18003896035866970704 tw15415746113631853057 tw1370576822255382886 tw12184362128060274090 tw9010699194724678947 tw11538958675822259486 tw4023334244336354100 tw12381557580267558658 tw8984581170684346503 tw16376423260268239004 tw9819528657245609859 tw8456498176447104400 tw8680785231698748387 tw401289723383477431 tw4471272016799653120 tw3866208134870686761 tw5153464495087151124 tw14240922376023116798 tw10447246829207463614 tw3250900804511025790 tw5574075398589142062 tw15290682549817172197 tw15147557015263436742 tw11509602988205650669 tw15172485992392411671 tw5945672059749209791 tw4067243762285581985 tw3265987622040230661 tw11413292963460454658 tw15183828655503137709 tw1161836007723052476 tw5319692997151281063 tw1765239331098418480 tw17124689521996925021 tw13071833517650379873 tw9038755004405937308 tw14867546264105301130 tw3840417852479661473 tw1049374488046264964 tw11341769559740964648 tw1363687172867362329 tw11062708750025973361 tw10426202741058031488 tw2156830592849324303 tw159783978084357528 tw6510255195206990815 tw4662511934010111921 tw15764714983334618357 tw3692272614619830149 tw939545662940048176 tw4670751715126454215 tw4923876400513709346 tw8964175105074170567 tw13982410482875570439 tw110480381611858928 tw3746887801112458566 tw6073358223283212549 tw4436075368181711686 tw3257164690787525083 tw17571461575320774736 tw1075855772802397065 tw4976980842362709267 tw5921489225311386810 tw17558923818553101819 tw1154346446972608257 tw1249962302522831360 tw14875178762118209740 tw10804327922788114720 tw18189525941202180148 tw12345231320608499394 tw4293819108918665635 tw15940729399993061651 tw17641989237027270889 tw10672102232403660417 tw2479839748173929484 tw7003451312649001262 tw6818065013590346113 tw860007609088109108 tw12781052019914632498 tw13488704801413367632 tw13744871021123906418 tw7421599295867808218 tw10091648564747734801 tw4907915736484663852 tw7281602612289447701 tw1322608246509696094 tw8681036147803220961 tw60468438679594140 tw11583653310386116072 tw2832510270147310199:True)
open PySem PySem.W PyProof.Rows
local macro_rules | `(tactic| walk_at "gl") => `(tactic| (refine' L2.Sx ?a ?l ?c ?k; (case a => k_is); (case l => k_is); (case c => k_is); (case k => k_is)))
local macro_rules | `(tactic| walk_at "mt") => `(tactic| (refine' L2.mt_mk ?a ?i ?l ?c ?k; (case a => k_is); (case i => k_is); (case l => k_is); (case c => k_is); (case k => k_is)))
set_option maxRecDepth 100000 in
set_option maxHeartbeats 0 in
theorem PySem.Challenge.cw_branchdepth_k61_nothing_lies_beyond_holds : PySem.Challenge.rw_branchdepth_k61_nothing_lies_beyond.Holds := by
 w_on;o_law;k_head;(case hw=>w_witness2)
 k_fill
 refine K61.walk (l:=PySem.Challenge.rw_branchdepth_k61_nothing_lies_beyond) rfl rfl (fun w h Y=>⟨PySem.W.km_in_of Y,List.forall_mem_cons.mpr ⟨⟨PySem.W.codeHd_of_K (c:=248) (P:=246) (PySem.W.km_in_of Y) (by kernel_rfl),PySem.W.km_tabs_of Y 246 (by k_mem)⟩,fun _ h=>nomatch h⟩⟩) (fun w=>by kernel_rfl) ?F
 case F=>
  intro w mg fa h KX G hmg;refine' K61.all_mk KX G hmg ?qF ?qG ?jZ ?oi ?iM ?jh ?qH ?d8 ?kK ?mO ?uv ?uw ?ji ?qI ?kL ?oj ?j0 ?gC ?mP ?gD ?j3 ?jj ?mQ ?xW ?uz ?qJ ?Xq ?Xs ?Xu ?Xv ?uA ?jV ?uB ?mR ?kM ?xX ?mS ?qK ?qL ?qM ?xY ?kN ?AV ?kO ?om ?qN ?qO ?oq ?uC ?xZ ?x_ ?uD ?ou ?ya ?mT ?uE ?kP ?uF ?uG ?uH ?yc ?uI ?oz ?AW ?mU ?yd ?Xw ?Xx ?Xy ?Xz ?j4 ?qP ?jk ?oA ?qQ ?lH ?fK ?jY ?lI ?fX ?ie ?kQ ?ye ?yf ?yg ?Lr ?Ls ?EF ?oB ?Lu ?mV ?Lv ?EG ?Lw ?Lx ?AX ?qR ?Ly ?Lz
  (case qF=>walk_at "gl")
  (case qG=>walk_at "gl")
  (case jZ=>walk_at "gl")
  (case oi=>walk_at "gl")
  (case iM=>walk_at "gl")
  (case jh=>walk_at "gl")
  (case qH=>walk_at "gl")
  (case d8=>walk_at "gl")
  (case kK=>walk_at "gl")
  (case mO=>walk_at "gl")
  (case uv=>walk_at "gl")
  (case uw=>walk_at "gl")
  (case ji=>walk_at "gl")
  (case qI=>walk_at "gl")
  (case kL=>walk_at "gl")
  (case oj=>walk_at "gl")
  (case j0=>walk_at "gl")
  (case gC=>walk_at "gl")
  (case mP=>walk_at "gl")
  (case gD=>walk_at "gl")
  (case j3=>walk_at "gl")
  (case jj=>walk_at "gl")
  (case mQ=>walk_at "gl")
  (case xW=>walk_at "gl")
  (case uz=>walk_at "gl")
  (case qJ=>walk_at "gl")
  (case Xq=>k_is)
  (case Xs=>k_is)
  (case Xu=>k_is)
  (case Xv=>k_is)
  (case uA=>rfl)
  (case jV=>kernel_rfl)
  (case uB=>walk_at "gl")
  (case mR=>walk_at "gl")
  (case kM=>walk_at "gl")
  (case xX=>walk_at "gl")
  (case mS=>walk_at "gl")
  (case qK=>walk_at "gl")
  (case qL=>walk_at "gl")
  (case qM=>walk_at "gl")
  (case xY=>walk_at "gl")
  (case kN=>walk_at "gl")
  (case AV=>walk_at "gl")
  (case kO=>walk_at "gl")
  (case om=>walk_at "gl")
  (case qN=>walk_at "gl")
  (case qO=>walk_at "gl")
  (case oq=>walk_at "gl")
  (case uC=>walk_at "gl")
  (case xZ=>walk_at "gl")
  (case x_=>walk_at "gl")
  (case uD=>walk_at "gl")
  (case ou=>walk_at "gl")
  (case ya=>walk_at "gl")
  (case mT=>walk_at "gl")
  (case uE=>walk_at "gl")
  (case kP=>walk_at "gl")
  (case uF=>walk_at "gl")
  (case uG=>walk_at "gl")
  (case uH=>walk_at "gl")
  (case yc=>walk_at "gl")
  (case uI=>walk_at "gl")
  (case oz=>walk_at "gl")
  (case AW=>walk_at "gl")
  (case mU=>walk_at "gl")
  (case yd=>walk_at "gl")
  (case Xw=>k_is)
  (case Xx=>k_is)
  (case Xy=>k_is)
  (case Xz=>k_is)
  (case j4=>k_is)
  (case qP=>k_is)
  (case jk=>k_is)
  (case oA=>k_is)
  (case qQ=>k_is)
  (case lH=>k_exc)
  (case fK=>k_exc)
  (case jY=>k_exc)
  (case lI=>k_exc)
  (case fX=>k_is)
  (case ie=>k_is)
  (case kQ=>k_is)
  (case ye=>k_is)
  (case yf=>k_is)
  (case yg=>first|rfl|decide +kernel|k_is)
  (case Lr=>k_is)
  (case Ls=>k_is)
  (case EF=>k_is)
  (case oB=>k_is)
  (case Lu=>k_is)
  (case mV=>k_is)
  (case Lv=>k_is)
  (case EG=>k_is)
  (case Lw=>k_is)
  (case Lx=>k_is)
  (case AX=>k_is)
  (case qR=>k_is)
  (case Ly=>k_is)
  (case Lz=>k_is)