import PyProof.Rows.All
import Wide.All
import OpenK.AllK
import Wide.FinOn
import Lean
import PyProof.EqAt
import PyProof.EqKinds
import PyProof.TupleCall
import KE.KMinKey
import PyProof.Rows.Range3
import KE.KTryMore
import KE.KLam
import KE.KNestM
import KE.KSortKey
import KE.KSortTup
import PySem.Challenge.RW_branchdepth_k60_a_basis_is_closed
open Option renaming some->j?,none->q?
open PySem renaming Value->l?,Addr->o?,Shared->u?,wpAny_bind->B?,sizeLine_eq->C?,Program->F?,mainGlobals->G?,World->H?,starEach->I?,wpAny_pure->J?,sizeLine->K?,wpAny->L?,Heap->O?,Stmt->Q?,model->S?,mem_of_lookup->U?,Around->A!,wpAny_mono->B!,bootBuiltins->H!,compareOp->K!,PyData->O!,FuncData->P!
open Or renaming inl->z?
open PySem.PassesOwn renaming never->D?
open Bool renaming false_ne_true->E?,and_eq_true->T?
open Option.some renaming inj->M?
open PySem.W renaming nsIn->N?,fnOf->W?,mg_none_of->Y?,keepIn->C!,codeIn->Q!
open PySem.F renaming plainAttrs_list->R?,slot_list_append->F!,type_list_append->G!
open Classical renaming byContradiction->V?
open PySem.NameKind renaming free->Z?,cell->L!
open PySem.Obj renaming mapSeq->D!
open PySem.PyData renaming eqv->E!
open PySem.Value renaming ref->I!
open PySem.Str renaming ofString->J!
open PyProof.Rows renaming callWith_type1->M!
open False renaming elim->N!
set_option Elab.async false
set_option linter.all false
set_option maxRecDepth 100000
local macro_rules|`(tactic|omega)=>`(tactic|first|lia|omega+splitDisjunctions)
abbrev bE:=PySem.W.Frag
open List renaming length_map->Ya,getD_eq_getElem?_getD->Yb,getElem?_eq_getElem->Yc,getElem?_map->Ye,length_range->Yg,replicate->Yi,length_append->Yk,range->Ym,Nodup->Yo,length_replicate->Yp,size_toArray->Yr,length_take->Ys,map_append->Yt,mem_append_right->Yu,mem_of_getElem?->Yw,getElem_mem->Yz,getElem?_range->Y0,getElem?_append_left->Y2,lookup_cons->Y3,getElem?_append_right->Y4,mem_cons_of_mem->Y5,length_drop->Y8,mem_cons_self->Y9,replicate_succ->Zh,getElem?_replicate->Zi,take_of_length_le->Zn,ext_getElem?->Zr,length_reverse->Z1,not_mem_nil->Z6,zipWith->Z7,getElem_of_mem->Wa,all_eq_true->Wc,eq_nil_of_length_eq_zero->Wg,getElem?_eq_none->Wn,mem_cons->Wp,flatten_cons->Wq,length->Wr,map_congr_left->Wu,length_set->Wv,range_succ->Ww,append_nil->W0,map_map->W4
open Nat renaming le_refl->Yd,lt_of_lt_of_le->Yj,le_trans->Yn,ne_of_lt->Yq,mul_le_mul_right->Yx,pow_le_pow_right->Yy,zero_le->Y1,mul_le_mul_left->Zb,mul_le_mul->Zk,pow_add->Zq,pow_succ->Zv,lt_irrefl->Zz,pow_pos->Z0,pow_le_pow_left->Z2,lt_of_le_of_lt->Z4,mod_eq_of_lt->Z5,add_mul->Wd,pow_lt_pow_right->Wf,add_sub_cancel_left->Wh,le_add_right->Wj,pow_mul->Wk,add_sub_cancel->Wl,not_lt_zero->Wm,mul_assoc->Wo,mul_comm->Ws,le_of_lt->W1,zero_add->W2,mul_succ->W3,le_succ->W5,one_mul->W6,mul_add->W7
open Int renaming toNat_natCast->Yf,mul_zero->Y6,fmod_eq_emod_of_nonneg->Y7,pow_succ->Za,pow_zero->Zc,emod_lt_of_pos->Zd,eq_of_mul_eq_mul_left->Ze,natAbs_mul->Zf,emod_nonneg->Zg,eq_ofNat_of_zero_le->Zj,fdiv_eq_ediv_of_nonneg->Zl,natAbs->Zm,one_mul->Zo,mul_comm->Zs,zero_add->Zu,pow_add->Zw,natCast_pow->Zx,natCast_mul->Zy,emod_add_mul_ediv->Z3,mul_assoc->Z8,pow_pos->Z9,zero_mul->Wb,add_zero->We,toNat_of_nonneg->Wi,mul_one->Wx,le_of_lt->Wy,mul_nonneg->Wz
open PySem.Heap renaming get?_push_of_some->Yh,lt_size->Yl,get?_push_size->Yv,FlyingW->Wt
abbrev W8:=@if_neg
abbrev W9:=@if_pos
abbrev Ja:=@decide_eq_true
abbrev Jb:=@of_decide_eq_true
abbrev Jc:=@decide_eq_false
abbrev Jd:=@congrArg
abbrev Jf:=@absurd
namespace L2
open PySem PySem.Spec PyProof.Rows
abbrev Key:=Sum Int Str
def M6:Key->l?->Bool
 | .inl k,v=>Value.isInt k v
 | .inr x,v=>Value.isStrOf x v
def Us (w:H?):Key->Int
 | .inl k=>hashInt k
 | .inr x=>hashStr w x
theorem dP:∀ {k:Key} {v:l?},M6 k v=true->(∃i t,k=Sum.inl i/\v=Value.int i t)\/(∃x t,k=Sum.inr x/\v=Value.str x t)
 | .inl i,v,h=>by
  obtain⟨t,e⟩:=Value.isInt_shape (k:=i) (v:=v) h;exact .inl ⟨i,t,rfl,e⟩
 | .inr x,v,h=>by
  obtain⟨t,e⟩:=Value.isStrOf_shape (x:=x) (v:=v) h;exact .inr ⟨x,t,rfl,e⟩
theorem Ob (a b:Int):decide ((Sum.inl a:Key)=Sum.inl b)=(a == b):=by
 by_cases e:a=b
 ·subst e;simp
 ·have h:¬ (Sum.inl a:Key)=Sum.inl b:=λq=>e (Sum.inl.inj q)
  rw[Jc h];exact(beq_eq_false_iff_ne.mpr e).symm
theorem Oc (a b:Str):decide ((Sum.inr a:Key)=Sum.inr b)=decide (a=b):=by
 by_cases e:a=b
 ·subst e;simp
 ·have h:¬ (Sum.inr a:Key)=Sum.inr b:=λq=>e (Sum.inr.inj q)
  rw[Jc h,Jc e]
theorem Od (a:Int)(b:Str):decide ((Sum.inl a:Key)=Sum.inr b)=false:=Jc (λq=>nomatch q)
theorem Oe (a:Str)(b:Int):decide ((Sum.inr a:Key)=Sum.inl b)=false:=Jc (λq=>nomatch q)
def EE (prog:F?)(w:H?):PySem.KeyKind prog w Key where
 is:=M6
 hash:=Us w
 inj:=λv a b ha hb=>by
  rcases dP ha with ⟨i,t,rfl,rfl⟩|⟨x,t,rfl,rfl⟩
  ·rcases dP hb with ⟨j,u,rfl,e⟩|⟨y,u,rfl,e⟩
   ·injection e with e1 _;rw[e1]
   ·exact nomatch e
  ·rcases dP hb with ⟨j,u,rfl,e⟩|⟨y,u,rfl,e⟩
   ·exact nomatch e
   ·injection e with e1 _;rw[e1]
 byValue:=λk v h=>by
  rcases dP h with ⟨i,t,rfl,rfl⟩|⟨x,t,rfl,rfl⟩ <;> rfl
 pyHash:=λhv h=>by
  rcases dP hv with ⟨i,t,rfl,rfl⟩|⟨x,t,rfl,rfl⟩
  ·exact wpAny_pyHash_int h
  ·exact wpAny_pyHash_str h
 eqBool:=λhu hv h=>by
  rcases dP hu with ⟨i,t,rfl,rfl⟩|⟨x,t,rfl,rfl⟩
  ·rcases dP hv with ⟨j,u,rfl,rfl⟩|⟨y,u,rfl,rfl⟩
   ·rw[Ob] at h;exact wpAny_eqBool_int h
   ·rw[Od] at h;exact SeqAt.EqAt.int_str i t y u _ _ _ _ h
  ·rcases dP hv with ⟨j,u,rfl,rfl⟩|⟨y,u,rfl,rfl⟩
   ·rw[Oe] at h;exact SeqAt.EqAt.str_int x t j u _ _ _ _ h
   ·rw[Oc] at h;exact wpAny_eqBool_str h
 «strs»:=λk x t v h=>by
  rcases dP h with ⟨i,u,rfl,e⟩|⟨y,u,rfl,e⟩
  ·exact nomatch e
  ·injection e with e1 _
   subst e1;cases v <;> rfl
inductive V where
 | eZ|bl (b:Bool)|int (i:Int)|str (x:Str)|byt (b:Array UInt8)|flt (b:UInt64)|ref (a:o?)|ty (n:String)
 deriving DecidableEq
def RelV:V->l?->Prop
 | .eZ,u=>u=Value.none
 | .bl b,u=>u=Value.bool b
 | .int i,u=>∃t,u=Value.int i t
 | .str x,u=>∃t,u=Value.str x t
 | .byt b,u=>∃t,u=Value.bytes b t
 | .flt b,u=>∃t,u=Value.float b t
 | .ref a,u=>u=I! a
 | .ty n,u=>u=Value.type n
abbrev Vals:List V->List l?->Prop:=Paired RelV
theorem Vals.length {xs:List V}{us:List l?}(r:Vals xs us):xs.length=us.length:=Paired.length r
theorem Vals.get:∀ {xs:List V} {us:List l?} {i:Nat} {x:V},Vals xs us->xs[i]?=j? x->∃u,us[i]?=j? u/\RelV x u
 | _,_,_,_,.nil,e=>by simp at e
 | _,_,0,_,.cons r _,e=>by simp at e;subst e;exact⟨_,rfl,r⟩
 | _,_,i+1,x,.cons _ t,e=>by
  obtain⟨u,h1,h2⟩:=Vals.get (i:=i) (x:=x) t (by simpa using e)
  exact⟨u,by simpa using h1,h2⟩
theorem Vals.set {x:V}{u:l?}(r:RelV x u):∀ {xs:List V} {us:List l?} (i:Nat),Vals xs us->Vals (xs.set i x) (us.set i u)
 | _,_,_,.nil=>.nil
 | _,_,0,.cons _ t=>.cons r t
 | _,_,i+1,.cons q t=>.cons q (Vals.set r i t)
theorem Vals.append:∀ {xs ys:List V} {us ws:List l?},Vals xs us->Vals ys ws->Vals (xs++ys) (us++ws)
 | _,_,_,_,.nil,s=>s
 | _,_,_,_,.cons r t,s=>.cons r (Vals.append t s)
theorem Vals.take:∀ {xs:List V} {us:List l?} (n:Nat),Vals xs us->Vals (xs.take n) (us.take n)
 | _,_,0,_=>.nil
 | _,_,_+1,.nil=>.nil
 | _,_,n+1,.cons r t=>.cons r (Vals.take n t)
theorem Vals.drop:∀ {xs:List V} {us:List l?} (n:Nat),Vals xs us->Vals (xs.drop n) (us.drop n)
 | _,_,0,r=>r
 | _,_,_+1,.nil=>.nil
 | _,_,n+1,.cons _ t=>Vals.drop n t
def Rg:Option V->Option l?->Prop
 | some v,j? u=>RelV v u
 | none,q?=>True
 | _,_=>False
def KV {κ:Type}:List (κ×V)->List (κ×l?)->Prop:=Paired λ(p:κ×V) (q:κ×l?)=>p.1=q.1/\RelV p.2 q.2
def kV:Key->V
 | .inl i=>.int i
 | .inr x=>.str x
inductive HO where
 | lst (xs:List V)
 | tup (xs:List V)
 | dK (kvs:List (Key×V))|dT (kvs:List (List Key×V))
 | set (S:Int->Bool) (n:Nat)
 | ins (C dx:o?) (fs:List (Str×V))
 | own (x:o?)
 | xd (fs:List (Str×V))
 | met (f x:o?)
 | oV (lo hi:Int)
 | Ho (o:Obj) (u:HO)
 | vU (ps:Array l?)
 | ext (φ:O?->Prop)
abbrev Hp:=o?->Option HO
def upd (H:Hp)(a:o?)(o:HO):Hp:=λb=>if b=a then j? o else H b
theorem ay {H:Hp}{a:o?}{o:HO}:upd H a o a=j? o:=by unfold upd;rw[W9 rfl]
theorem aO {H:Hp}{a b:o?}{o:HO}(h:b≠a):upd H a o b=H b:=by unfold upd;rw[W8 h]
theorem bL {H:Hp}{a b:o?}{o:HO}(h:H a=j? o)(h':H b=q?):a≠b:=by
 intro e;subst e;rw[h] at h';cases h'
section
variable (P:F?) (w:H?)
def iU (H:Hp)(h:O?)(a:o?):HO->Prop
 | .lst xs=>xs.length<=K?/\∃(its:List l?) (n:Nat),Vals xs its/\h.get? a=j? { cls:=.type "list",data:=.seq its.toArray n }
 | .tup xs=>xs.length<=K?/\∃its:List l?,Vals xs its/\IsTup h a its.toArray
 | .dK kvs=>kvs.length<=K?/\(a == sysModules)=false/\∃vs,KV kvs vs/\h.DictOf (EE P w) a vs
 | .dT kvs=>kvs.length<=K?/\(a == sysModules)=false/\∃xs:List (List Key×o?×l?),
   Paired (λ(p:List Key×V) (q:List Key×o?×l?)=>p.1=q.1/\H q.2.1=j? (.tup (p.1.map kV))/\RelV p.2 q.2.2) kvs xs/\
   ∃o es ep,h.get? a=j? o/\o.ExactDict/\o.data=.dict es ep/\es.toList=xs.map (entryOfKey (tupleKind (EE P w)))/\(xs.map (·.1)).Nodup
 | .set S n=>h.SetOf (intKind P w) a S n
 | .ins C dx fs=>H dx=j? (.own a)/\fs.length<=1000/\dx≠a/\h.get? a=j? (PySem.W.instObj C dx)/\
   ∃mA,h.Ns1 dx mA/\(∀f,Rg (fs.lookup f) (mA f))/\PySem.Within mA (fs.map (·.1))
 | .own _=>∃o,h.get? a=j? o
 | .xd fs=>∃mA,h.Ns1 a mA/\∀f,Rg (fs.lookup f) (mA f)
 | .oV lo hi=>∃t u v,h.get? a=j? { cls:=.type "range",data:=.fields #[.int lo t,.int hi u,.int 1 v] }
 | .Ho o u=>h.get? a=j? o/\iU H h a u
 | .vU ps=>h.get? a=j? { cls:=.none,data:=.fields ps }
 | .met f x=>h.get? a=j? (PySem.W.methodObj (.ref f) (.ref x))
 | .ext φ=>φ h/\(∃o,h.get? a=j? o)/\∀h1 h2:O?,φ h1->(∀o,h1.get? a=j? o->h2.get? a=j? o)->φ h2
def uM (H:Hp)(h:O?):Prop:=∀a o,H a=j? o->iU P w H h a o
end
section
variable {P:F?} {w:H?} {H H':Hp} {h h':O?} {a:o?} {o:HO}
theorem iU.lt (x:iU P w H h a o):a<h.objs.size:=by
 cases o with
 | lst xs=>obtain⟨_,_,_,_,e⟩:=x;exact Yl e
 | tup xs=>obtain⟨_,_,_,p⟩:=x;exact p.lt
 | dK kvs=>obtain⟨_,_,_,_,o,_,_,e,_⟩:=x;exact Yl e
 | dT kvs=>obtain⟨_,_,_,_,o,_,_,e,_⟩:=x;exact Yl e
 | set S n=>obtain⟨o,_,_,_,e,_⟩:=x;exact Yl e
 | ins C dx fs=>obtain⟨_,_,_,e,_⟩:=x;exact Yl e
 | own y=>obtain⟨_,e⟩:=x;exact Yl e
 | xd fs=>obtain⟨_,⟨_,_,_,e,_⟩,_⟩:=x;exact Yl e
 | oV lo hi=>obtain⟨_,_,_,e⟩:=x;exact Yl e
 | Ho ob u=>obtain⟨e,_⟩:=x;exact Yl e
 | vU ps=>exact Yl (show h.get? a=j? _ from x)
 | met f y=>exact Yl (show h.get? a=j? _ from x)
 | ext φ=>obtain⟨_,⟨_,e⟩,_⟩:=x;exact Yl e
theorem Paired.Rh {α β:Type}{F G:α->β->Prop}:∀ {l₁:List α} {l₂:List β},Paired F l₁ l₂->(∀a b,F a b->G a b)->Paired G l₁ l₂
 | _,_,.nil,_=>.nil
 | _,_,.cons r t,f=>.cons (f _ _ r) (Paired.Rh t f)
theorem iU.stay (x:iU P w H h a o)(k:∀b u,(b=a\/H b=j? (.own a))->h.get? b=j? u->h'.get? b=j? u)
  (ho:∀b,H b=j? (.own a)->H' b=j? (.own a)) (ht:∀b xs,H b=j? (.tup xs)->H' b=j? (.tup xs)):iU P w H' h' a o:=by
 induction o with
 | lst xs=>obtain⟨z,its,n,r,e⟩:=x;exact⟨z,its,n,r,k _ _ (.inl rfl) e⟩
 | tup xs=>obtain⟨z,its,r,ob,e,c⟩:=x;exact⟨z,its,r,ob,k _ _ (.inl rfl) e,c⟩
 | dK kvs=>obtain⟨z,y,vs,r,ob,es,ep,e,c⟩:=x;exact⟨z,y,vs,r,ob,es,ep,k _ _ (.inl rfl) e,c⟩
 | dT kvs=>
  obtain⟨z,y,xs,r,ob,es,ep,e,c⟩:=x;exact⟨z,y,xs,Paired.Rh r λp q z=>⟨z.1,ht _ _ z.2.1,z.2.2⟩,ob,es,ep,k _ _ (.inl rfl) e,c⟩
 | set S n=>obtain⟨ob,es,ep,t,e,c⟩:=x;exact⟨ob,es,ep,t,k _ _ (.inl rfl) e,c⟩
 | ins C dx fs=>
  obtain⟨d,z,ne,e,mA,⟨od,es,ep,e2,c⟩,r⟩:=x;exact⟨ho _ d,z,ne,k _ _ (.inl rfl) e,mA,⟨od,es,ep,k _ _ (.inr d) e2,c⟩,r⟩
 | own y=>obtain⟨ob,e⟩:=x;exact⟨ob,k _ _ (.inl rfl) e⟩
 | xd fs=>obtain⟨mA,⟨od,es,ep,e,c⟩,r⟩:=x;exact⟨mA,⟨od,es,ep,k _ _ (.inl rfl) e,c⟩,r⟩
 | oV lo hi=>obtain⟨t,u,v,e⟩:=x;exact⟨t,u,v,k _ _ (.inl rfl) e⟩
 | Ho ob u ih=>obtain⟨e,q⟩:=x;exact⟨k _ _ (.inl rfl) e,ih q⟩
 | vU ps=>
  have e:h.get? a=j? { cls:=.none,data:=.fields ps }:=x;show h'.get? a=j? { cls:=.none,data:=.fields ps }
  exact k a _ (.inl rfl) e
 | met f y=>
  have e:h.get? a=j? (PySem.W.methodObj (.ref f) (.ref y)):=x;show h'.get? a=j? (PySem.W.methodObj (.ref f) (.ref y))
  exact k a _ (.inl rfl) e
 | ext φ=>obtain⟨p,⟨o,e⟩,st⟩:=x;exact⟨st _ _ p λo q=>k _ _ (.inl rfl) q,⟨o,k _ _ (.inl rfl) e⟩,st⟩
theorem uM.lt (x:uM P w H h)(e:H a=j? o):a<h.objs.size:=(x a o e).lt
theorem uM.fresh (x:uM P w H h)(e:h.objs.size<=a):H a=q?:=by
 cases q:H a with
 | none=>rfl
 | some u=>exact Jf (Yj (x.lt q) e) (Zz _)
theorem uM.kept (x:uM P w H h)(k:∀b u,h.get? b=j? u->h'.get? b=j? u):uM P w H h':=λa o e=>
 (x a o e).stay (λb u _ q=>k b u q) (λ_ q=>q) λ_ _ q=>q
theorem uM.laid (x:uM P w H h)(k:∀b u,h.get? b=j? u->h'.get? b=j? u)(hp:h.objs.size<=a)(new:iU P w (upd H a o) h' a o):uM P w (upd H a o) h':=λb u e=>by
 have hn:=x.fresh hp;by_cases hb:b=a
 ·subst hb;rw[ay] at e;cases e;exact new
 ·rw[aO hb] at e
  exact(x b u e).stay (λc v _ q=>k c v q) (λc q=>by rw[aO (bL q hn)];exact q) λc xs q=>by rw[aO (bL q hn)];exact q
end
def Rd (H:Hp)(a:o?)(u:HO):Prop:=H a=j? u\/∃o,H a=j? (.Ho o u)
theorem Rd.ok {P:F?}{w:H?}{H:Hp}{h:O?}{a:o?}{u:HO}(r:Rd H a u)(x:uM P w H h):iU P w H h a u:=by
 rcases r with r|⟨o,r⟩
 ·exact x a u r
 ·obtain⟨_,q⟩:=x a _ r
  exact q
def Tq:Option HO->Prop
 | some (.lst _)=>True
 | some (.dK _)=>True
 | some (.dT _)=>True
 | some (.set _ _)=>True
 | some (.ins _ _ _)=>True
 | some (.ext _)=>True
 | _=>False
section
variable {P:F?} {w:H?} {H:Hp} {h h':O?} {x e:o?} {o':HO}
theorem uM.write (ok:uM P w H h)(mu:Tq (H x))(he:e=x\/H e=j? (.own x))(k:∀b u,b≠e->h.get? b=j? u->h'.get? b=j? u)(QI:∃u,h'.get? e=j? u)
  (new:iU P w (upd H x o') h' x o'):uM P w (upd H x o') h':=λb u q=>by
 have Ri:∀c y,H c=j? (.own y)->c≠x:=λc y r z=>by subst z;rw[r] at mu;exact mu
 have Ut:∀c xs,H c=j? (.tup xs)->c≠x:=λc xs r z=>by subst z;rw[r] at mu;exact mu
 by_cases hb:b=x
 ·subst hb;rw[ay] at q;cases q;exact new
 ·rw[aO hb] at q
  by_cases hbe:b=e
  ·have q':H b=j? (.own x):=by
    rcases he with z|z
    ·exact Jf (hbe.trans z) hb
    ·rw[hbe];exact z
   rw[q] at q';cases q';obtain⟨v,hv⟩:=QI;exact⟨v,by rw[hbe];exact hv⟩
  ·refine(ok b u q).stay (λc v hc r=>k c v ?_ r) (λc r=>by rw[aO (Ri c b r)];exact r) λc xs r=>by rw[aO (Ut c xs r)];exact r
   rcases hc with rfl|hc
   ·exact hbe
   ·rintro rfl
    rcases he with z|z
    ·exact Ri c b hc z
    ·rw[hc] at z;cases z;exact hb rfl
end
structure Un (fs ex:List o?)(H H':Hp)(h h':O?):Prop where
 keep:∀b o,h.get? b=j? o->H b=q?->b ∉ fs->b ∉ ex->h'.get? b=j? o
 slot:∀b o,h.get? b=j? o->H b=q?->b∈fs->b ∉ ex->∃sl,h'.get? b=j? { o with slots:=sl }
 free:∀b o,h.get? b=j? o->H b=q?->b ∉ ex->H' b=q?
 there:∀b o,h.get? b=j? o->b ∉ ex->∃o',h'.get? b=j? o'
 tups:∀b xs,H b=j? (.tup xs)->H' b=j? (.tup xs)
 uY:∀b o u,H b=j? (.Ho o u)->H' b=j? (.Ho o u)
 uZ:∀b ps,H b=j? (.vU ps)->∃more,H' b=j? (.vU (ps++more))
section
variable {fs fs' ex ex':List o?} {H H1 H2:Hp} {h h1 h2 h':O?} {a x e:o?} {o:HO}
theorem Un.any (u:Un fs ex H H1 h h1){b:o?}{ob:Obj}(q:h.get? b=j? ob)(n:H b=q?)(hx:b ∉ ex):∃sl,h1.get? b=j? { ob with slots:=sl }:=by
 by_cases hb:b∈fs
 ·exact u.slot b ob q n hb hx
 ·exact⟨ob.slots,u.keep b ob q n hb hx⟩
theorem Un.kept (k:∀b u,h.get? b=j? u->h'.get? b=j? u):Un fs ex H H h h':=
 ⟨λb ob q _ _ _=>k b ob q,λb ob q _ _ _=>⟨ob.slots,k b ob q⟩,λ_ _ _ n _=>n,λb ob q _=>⟨ob,k b ob q⟩,λ_ _ q=>q,λ_ _ _ q=>q,λ_ ps q=>⟨#[],by rw[q];simp⟩⟩
theorem Un.refl:Un fs ex H H h h:=Un.kept λ_ _ q=>q
theorem Un.laid (k:∀b u,h.get? b=j? u->h'.get? b=j? u)(hp:h.objs.size<=a)(hn:H a=q?):Un fs ex H (upd H a o) h h' where
 keep:=λb u q _ _ _=>k b u q
 slot:=λb u q _ _ _=>⟨u.slots,k b u q⟩
 free:=λb u q n _=>by rw[aO (Yq (Yj (Yl q) hp))];exact n
 there:=λb u q _=>⟨u,k b u q⟩
 tups:=λb xs q=>by rw[aO (bL q hn)];exact q
 uY:=λb u xs q=>by rw[aO (bL q hn)];exact q
 uZ:=λb ps q=>⟨#[],by rw[aO (bL q hn),q];simp⟩
theorem Un.write (mu:Tq (H x))(he:e=x\/H e=j? (.own x))(k:∀b u,b≠e->h.get? b=j? u->h'.get? b=j? u)(QI:∃u,h'.get? e=j? u):Un fs ex H (upd H x o) h h':=by
 have hx:∀b,H b=q?->b≠x:=λb n z=>by subst z;rw[n] at mu;exact mu
 have hb:∀b,H b=q?->b≠e:=λb n z=>by
  subst z;rcases he with r|r
  ·exact hx b n r
  ·rw[n] at r;cases r
 have hm:∀b u,H b=j? u->¬ Tq (j? u)->b≠x:=λb u q nm z=>by subst z;rw[q] at mu;exact nm mu
 refine⟨λb u q n _ _=>k b u (hb b n) q,λb u q n _ _=>⟨u.slots,k b u (hb b n) q⟩,λb u q n _=>by rw[aO (hx b n)];exact n,λb u q _=>?_,
  λb xs q=>by rw[aO (hm b _ q λz=>z)];exact q,λb u xs q=>by rw[aO (hm b _ q λz=>z)];exact q,λb ps q=>⟨#[],by rw[aO (hm b _ q λz=>z),q];simp⟩⟩
 by_cases hbe:b=e
 ·subst hbe;exact QI
 ·exact⟨u,k b u hbe q⟩
end
def Tr (h:O?)(H:Hp):List o?:=(Ym h.objs.size).filter λa=>(H a).isSome
def yd (h:O?)(H:Hp):O?:=PySem.W.hideAll h (Tr h H)
theorem FY (h:O?)(H:Hp):(yd h H).objs.size=h.objs.size:=PySem.W.hideAll_size _ _
theorem Hq {h:O?}{H:Hp}{b:o?}{o:Obj}(e:h.get? b=j? o)(n:H b=q?):(yd h H).get? b=j? o:=
 PySem.W.hideAll_get _ e λhm=>by
  have q:(H b).isSome=true:=(List.mem_filter.mp hm).2;rw[n] at q;simp at q
theorem Lq {h:O?}{H:Hp}{b:o?}{o:Obj}(e:(yd h H).get? b=j? o):h.get? b=j? o/\H b=q?:=by
 have e':h.get? b=j? o:=PySem.W.of_hideAll (Tr h H) e;refine⟨e',?_⟩
 cases q:H b with
 | none=>rfl
 | some x=>
  have hm:b∈Tr h H:=List.mem_filter.mpr ⟨List.mem_range.mpr (Yl e'),by simp[q]⟩
  have z:(yd h H).get? b=q?:=PySem.W.hideAll_none (Tr h H) hm;rw[z] at e;cases e
structure Mod (K:bE)(mg:Str->Option l?)(base:O?):Prop where
 Tt:K.In base
 glob:base.Ns G? mg
 blt:∃mb,base.Ns builtinsNs mb/\∀x:Str,x≠"__name__"->mb x=H! x
 nolimit:base.NoLimit
structure Cx where
 prog:F?
 w:H?
 K:bE
 mg:Str->Option l?
 base:O?
 A:A!
 N:List Str
 s₀:u?
 H₀:Hp
 env:Env
 outer:List Env
 stack:List Env
 ex:List o?
 fn:Str->Bool
 calm:Bool
 pn:List (o?×Obj)
 xe:l?->u?->Prop
def frs (l:List Env):List o?:=l.filterMap (·.frame)
abbrev Cx.fs (X:Cx):List o?:=frs X.outer
def QJ (sc:Scope)(x:Str):Prop:=sc.names.lookup x=j? .local\/sc.names.lookup x=j? .cell\/sc.names.lookup x=j? .free
def Loc (sc:Scope)(x:Str):Prop:=sc.names.lookup x=j? .local\/sc.names.lookup x=j? .cell
def Look (env:Env)(h:O?)(m:Str->Option l?)(x:Str)(u:l?):Prop:=
 (env.kindOf x=j? .local/\m x=j? u)\/((env.kindOf x=j? .cell\/env.kindOf x=j? .free)/\∃c,env.cells.lookup x=j? c/\h.IsCell c (j? u))
structure Cx.Ok (X:Cx):Prop where
 mod:Mod X.K X.mg X.base
 kind:X.env.scope.kind=.function
 glob:X.env.globals=G?
 blt:X.env.builtins=builtinsNs
 above:X.s₀.heap.objs.size<=X.env.locals
 inj:∀x y c,X.env.cells.lookup x=j? c->X.env.cells.lookup y=j? c->x=y
 has:∀x,(X.env.kindOf x=j? .cell\/X.env.kindOf x=j? .free)->∃c,X.env.cells.lookup x=j? c
 Hr:∀x c,X.fn x=true->X.env.cells.lookup x=j? c->X.s₀.heap.objs.size<=c
 hd:X.calm=true->X.A.handled=q?
 frames:X.A.frames=j? X.stack
 stk:X.stack=X.outer\/(X.stack=X.env::X.outer/\X.env.frame=j? X.env.locals)
 Lr:∀b∈X.ex,b≠X.env.locals/\∀x c,X.env.cells.lookup x=j? c->c≠b
 bs:∀b o,X.base.get? b=j? o->X.s₀.heap.get? b=j? o/\X.H₀ b=q?
 A4:X.base.objs.size<=X.s₀.heap.objs.size
 vV:∀b o,X.base.get? b=j? o->b ∉ X.ex
 vW:∀b∈X.ex,b ∉ X.fs
 kU:X.s₀.heap.FunFrames X.base X.outer
 EF:∀b∈X.fs,X.H₀ b=q?
structure Inv (X:Cx)(pins:List (o?×Obj))(σ:List (Option V))(H:Hp)(s:u?):Prop where
 ok:X.Ok
 os:s.os=X.s₀.os
 bare:AllBare s.gens
 base:Un X.fs X.ex X.H₀ H X.s₀.heap s.heap
 loc:∃m,s.heap.Ns X.env.locals m/\∀(i:Nat) (x:Str) (v:V),X.N[i]?=j? x->σ[i]?=j? (j? v)->QJ X.env.scope x->∃u,RelV v u/\Look X.env s.heap m x u
 cell:∀x c,X.env.cells.lookup x=j? c->∃v,s.heap.IsCell c v
 free:H X.env.locals=q?
 fX:∀x c,X.env.cells.lookup x=j? c->H c=q?
 pin:∀p∈X.pn++pins,s.heap.get? p.1=j? p.2/\H p.1=q?/\p.1≠X.env.locals/\p.1 ∉ X.fs/\∀v,p.2.data≠.cell v
 hok:uM X.prog X.w H s.heap
 len:σ.length=X.N.length
section
variable {X:Cx} {pins:List (o?×Obj)} {σ:List (Option V)} {H H':Hp} {s:u?} {h':O?}
theorem Cx.Ok.Og (ok:X.Ok){b:o?}{o:Obj}(e:X.base.get? b=j? o):b ∉ X.fs:=λhb=>by
 have:=(ok.kU.mem hb).1
 rw[e] at this;cases this
theorem Inv.bs (I:Inv X pins σ H s):∀b o,X.base.get? b=j? o->s.heap.get? b=j? o/\H b=q?:=λb o e=>
 ⟨I.base.keep b o (I.ok.bs b o e).1 (I.ok.bs b o e).2 (I.ok.Og e) (I.ok.vV b o e),I.base.free b o (I.ok.bs b o e).1 (I.ok.bs b o e).2 (I.ok.vV b o e)⟩
theorem Inv.bk (I:Inv X pins σ H s):∀b o,X.base.get? b=j? o->s.heap.get? b=j? o:=λb o e=>(I.bs b o e).1
theorem Inv.mod (I:Inv X pins σ H s):Mod X.K X.mg X.base:=I.ok.mod
theorem Inv.A3 (I:Inv X pins σ H s):X.K.In s.heap:=I.ok.mod.Tt.keeps I.bk
theorem Inv.lt (I:Inv X pins σ H s):X.env.locals<s.heap.objs.size:=let ⟨_,hn,_⟩:=I.loc;hn.lt
theorem Inv.sz (I:Inv X pins σ H s):X.s₀.heap.objs.size<=s.heap.objs.size:=Yn I.ok.above (W1 I.lt)
theorem Inv.Uu (I:Inv X pins σ H s){a:o?}(h:s.heap.objs.size<=a):a ∉ X.fs:=λhb=>by
 obtain⟨_,o,ho,_⟩:=I.ok.kU.mem hb;exact Jf (Yj (Yl ho) (Yn I.sz h)) (Zz _)
theorem Inv.Ls (I:Inv X pins σ H s):∀x c,X.env.cells.lookup x=j? c->c≠X.env.locals:=λx c e z=>by
 obtain⟨v,o,ho,hd⟩:=I.cell x c e;obtain⟨m,⟨o',es,ep,ho',hd',_⟩,_⟩:=I.loc;rw[z,ho'] at ho;cases ho;rw[hd'] at hd;cases hd
theorem Inv.kU (I:Inv X pins σ H s):s.heap.FunFrames X.base X.outer:=by
 have all:∀(l:List Env),(∀b∈frs l,b∈X.fs)->X.s₀.heap.FunFrames X.base l->s.heap.FunFrames X.base l:=by
  intro l;induction l with
  | nil=>intro _ _;trivial
  | cons env r ih=>
   intro hs hl;obtain⟨hk,⟨L,o,hf,hn,ho,hd⟩,hr⟩:=hl;have hL:L∈X.fs:=hs L (by unfold frs;rw[List.filterMap_cons,hf];exact Y9)
   obtain⟨sl,e⟩:=I.base.slot L o ho (I.ok.EF L hL) hL λz=>I.ok.vW L z hL
   exact⟨hk,⟨L,_,hf,hn,e,hd⟩,ih (λb hb=>hs b (by unfold frs;rw[List.filterMap_cons,hf];exact Y5 _ hb)) hr⟩
 exact all X.outer (λ_ hb=>hb) I.ok.kU
theorem Inv.stack (I:Inv X pins σ H s):s.heap.FunFrames X.base X.stack:=by
 rcases I.ok.stk with e|⟨e,hf⟩
 ·rw[e];exact I.kU
 ·rw[e]
  obtain⟨m,hn,_⟩:=I.loc;refine .cons (by rw[I.ok.kind];decide) hf hn ?_ I.kU
  exact Heap.get?_none_of_le (Yn I.ok.A4 I.ok.above)
theorem Inv.tH (I:Inv X pins σ H s):∀b∈frs X.stack,b∈X.env.locals::X.fs:=λb hb=>by
 rcases I.ok.stk with e|⟨e,hf⟩
 ·rw[e] at hb;exact Y5 _ hb
 ·rw[e] at hb
  unfold frs at hb;rw[List.filterMap_cons,hf] at hb;exact hb
theorem Inv.oW (I:Inv X pins σ H s):∀b∈frs X.stack,H b=q?:=λb hb=>by
 rcases List.mem_cons.mp (I.tH b hb) with e|hb
 ·rw[e];exact I.free
 ·obtain⟨_,o,ho,_⟩:=I.ok.kU.mem hb
  exact I.base.free b o ho (I.ok.EF b hb) λz=>I.ok.vW b z hb
theorem Inv.step {g':Array GenState}{t':Nat}{d':Drawn}{ch:List o?}(I:Inv X pins σ H s)
  (hch:∀b∈ch,(b∈X.ex\/X.s₀.heap.objs.size<=b)/\b≠X.env.locals/\(∀x c,X.env.cells.lookup x=j? c->c≠b)/\∀p∈X.pn++pins,p.1≠b)
  (keep:∀b o,b≠X.env.locals->b ∉ X.fs->b ∉ ch->s.heap.get? b=j? o->H b=q?->h'.get? b=j? o)
  (slot:∀b o,b≠X.env.locals->b∈X.fs->b ∉ ch->s.heap.get? b=j? o->H b=q?->∃sl,h'.get? b=j? { o with slots:=sl }) (free:∀b o,b ∉ ch->s.heap.get? b=j? o->H b=q?->H' b=q?)
  (there:∀b o,b ∉ ch->s.heap.get? b=j? o->∃o',h'.get? b=j? o')
  (tups:∀b xs,H b=j? (.tup xs)->H' b=j? (.tup xs)) (uY:∀b o u,H b=j? (.Ho o u)->H' b=j? (.Ho o u)) (uZ:∀b ps,H b=j? (.vU ps)->∃more,H' b=j? (.vU (ps++more)))
  (ns:∀m,s.heap.Ns X.env.locals m->h'.Ns X.env.locals m) (hok:uM X.prog X.w H' h') (hg:AllBare g'):
  Inv X pins σ H' { s with heap:=h',gens:=g',drawn:=d',toks:=t' }:=by
 have Rj:∀b o,X.s₀.heap.get? b=j? o->b≠X.env.locals:=λb o e=>Yq (Yj (Yl e) I.ok.above)
 have Tu:∀b o,X.s₀.heap.get? b=j? o->b ∉ X.ex->b ∉ ch:=λb o e hx hb=>by
  rcases (hch b hb).1 with z|z
  ·exact hx z
  ·exact Jf (Yj (Yl e) z) (Zz _)
 have cellK:∀x c,X.env.cells.lookup x=j? c->∀v,s.heap.IsCell c v->h'.IsCell c v:=λx c e v ⟨o,ho,hd⟩=>by
  have Rk:c ∉ ch:=λz=>(hch c z).2.2.1 x c e rfl
  by_cases hc:c∈X.fs
  ·obtain⟨sl,q⟩:=slot c o (I.Ls x c e) hc Rk ho (I.fX x c e)
   exact⟨_,q,hd⟩
  ·exact⟨o,keep c o (I.Ls x c e) hc Rk ho (I.fX x c e),hd⟩
 refine⟨I.ok,I.os,hg,⟨λb o e n hb hx=>?_,λb o e n hb hx=>?_,λb o e n hx=>?_,λb o e hx=>?_,λb xs e=>tups b xs (I.base.tups b xs e),λb o xs e=>uY b o xs (I.base.uY b o xs e),λb ps e=>?_⟩,?_,λx c e=>?_,?_,λx c e=>?_,λp hp=>?_,hok,I.len⟩
 ·exact keep b o (Rj b o e) hb (Tu b o e hx) (I.base.keep b o e n hb hx) (I.base.free b o e n hx)
 ·obtain⟨sl,e1⟩:=I.base.slot b o e n hb hx
  obtain⟨Lu,e2⟩:=slot b _ (Rj b o e) hb (Tu b o e hx) e1 (I.base.free b o e n hx);exact⟨Lu,e2⟩
 ·obtain⟨o',e1⟩:=I.base.there b o e hx
  exact free b o' (Tu b o e hx) e1 (I.base.free b o e n hx)
 ·obtain⟨o',e1⟩:=I.base.there b o e hx
  exact there b o' (Tu b o e hx) e1
 ·obtain⟨m1,e1⟩:=I.base.uZ b ps e
  obtain⟨m2,e2⟩:=uZ b _ e1;exact⟨m1++m2,by rw[e2,Array.append_assoc]⟩
 ·obtain⟨m,hn,hl⟩:=I.loc
  refine⟨m,ns m hn,λi x v e1 e2 e3=>?_⟩
  obtain⟨u,r,l⟩:=hl i x v e1 e2 e3;refine⟨u,r,?_⟩
  rcases l with l|⟨k,c,e,z⟩
  ·exact .inl l
  ·exact .inr ⟨k,c,e,cellK x c e _ z⟩
 ·obtain⟨v,z⟩:=I.cell x c e
  exact⟨v,cellK x c e v z⟩
 ·obtain⟨m,⟨o,_,_,ho,_⟩,_⟩:=I.loc
  exact free _ o (λz=>(hch _ z).2.1 rfl) ho I.free
 ·obtain⟨v,o,ho,hd⟩:=I.cell x c e
  exact free c o (λz=>(hch c z).2.2.1 x c e rfl) ho (I.fX x c e)
 ·obtain⟨e,n,ne,nf,d⟩:=I.pin p hp
  have Rk:p.1 ∉ ch:=λz=>(hch p.1 z).2.2.2 p hp rfl
  exact⟨keep p.1 p.2 ne nf Rk e n,free p.1 p.2 Rk e n,ne,nf,d⟩
theorem Inv.un {t':Nat}(I:Inv X pins σ H s)(u:Un X.fs [] H H' s.heap h')(hok:uM X.prog X.w H' h'):Inv X pins σ H' { s with heap:=h',toks:=t' }:=by
 obtain⟨m,⟨o,es,ep,ho,r⟩,_⟩:=id I.loc;obtain⟨sl,hL⟩:=u.any ho I.free (by simp)
 exact I.step (g':=s.gens) (d':=s.drawn) (ch:=[]) (λ_ z=>nomatch z) (λb o _ hb _ e n=>u.keep b o e n hb (by simp)) (λb o _ hb _ e n=>u.slot b o e n hb (by simp)) (λb o _ e n=>u.free b o e n (by simp)) (λb o _ e=>u.there b o e (by simp)) u.tups u.uY u.uZ (λm' hm=>by
  obtain⟨o',es',Uv,ho',r'⟩:=hm;rw[ho] at ho';cases ho';exact⟨_,es',Uv,hL,r'⟩) hok I.bare
theorem Inv.call {g':Array GenState}{t':Nat}{d':Drawn}{ch:List o?}(I:Inv X pins σ H s)(u:Un (frs X.stack) ch H H' s.heap h')(hok:uM X.prog X.w H' h')(hg:AllBare g')
  (hch:∀b∈ch,(b∈X.ex\/X.s₀.heap.objs.size<=b)/\b≠X.env.locals/\(∀x c,X.env.cells.lookup x=j? c->c≠b)/\∀p∈X.pn++pins,p.1≠b):
  Inv X pins σ H' { s with heap:=h',gens:=g',drawn:=d',toks:=t' }:=by
 obtain⟨m,⟨o,es,ep,ho,r⟩,_⟩:=id I.loc;obtain⟨sl,hL⟩:=u.any ho I.free λz=>(hch _ z).2.1 rfl
 exact I.step (ch:=ch) hch (λb o hL hb hc e n=>u.keep b o e n (λz=>(List.mem_cons.mp (I.tH b z)).elim hL hb) hc) (λb o _ _ hc e n=>u.any e n hc) (λb o hc e n=>u.free b o e n hc) (λb o hc e=>u.there b o e hc) u.tups u.uY u.uZ (λm' hm=>by
  obtain⟨o',es',Uv,ho',r'⟩:=hm;rw[ho] at ho';cases ho';exact⟨_,es',Uv,hL,r'⟩) hok hg
theorem Inv.turned {t':Nat}{it:o?}(I:Inv X pins σ H s)(k:∀b o,b≠it->s.heap.get? b=j? o->h'.get? b=j? o)(hn:H it=q?)(hL:it≠X.env.locals)
  (h1:it∈X.ex\/X.s₀.heap.objs.size<=it) (h2:∀x c,X.env.cells.lookup x=j? c->c≠it) (h3:∀p∈X.pn++pins,p.1≠it):Inv X pins σ H { s with heap:=h',toks:=t' }:=by
 have M7:∀b u,H b=j? u->b≠it:=λb u e z=>by rw[z,hn] at e;cases e
 refine I.step (g':=s.gens) (d':=s.drawn) (ch:=[it]) (λb hb=>?_) (λb o _ _ hc e _=>k b o (λz=>hc (by simp[z])) e) (λb o _ _ hc e _=>⟨o.slots,k b o (λz=>hc (by simp[z])) e⟩) (λ_ _ _ _ n=>n)
  (λb o hc e=>⟨o,k b o (λz=>hc (by simp[z])) e⟩) (λ_ _ e=>e) (λ_ _ _ e=>e) (λb ps e=>⟨#[],by rw[e];simp⟩) (λm hm=>?_) (λb u e=>?_) I.bare
 ·have e:b=it:=by simpa using hb
  subst e;exact⟨h1,hL,h2,h3⟩
 ·obtain⟨o,es,ep,ho,r⟩:=hm
  exact⟨o,es,ep,k _ o (Ne.symm hL) ho,r⟩
 ·refine(I.hok b u e).stay (λc v hc q=>k c v ?_ q) (λ_ q=>q) λ_ _ q=>q
  rcases hc with z|z
  ·rw[z];exact M7 b u e
  ·exact M7 c _ z
theorem Inv.tok (I:Inv X pins σ H s)(t:Nat):Inv X pins σ H { s with toks:=t }:=I.un (h':=s.heap) (t':=t) Un.refl I.hok
theorem Inv.kept {t':Nat}(I:Inv X pins σ H s)(k:∀b u,s.heap.get? b=j? u->h'.get? b=j? u):Inv X pins σ H { s with heap:=h',toks:=t' }:=I.un (Un.kept k) (I.hok.kept k)
theorem Inv.laid {a:o?}{o:HO}{t':Nat}(I:Inv X pins σ H s)(k:∀b u,s.heap.get? b=j? u->h'.get? b=j? u)(hp:s.heap.objs.size<=a)(new:iU X.prog X.w (upd H a o) h' a o):
  Inv X pins σ (upd H a o) { s with heap:=h',toks:=t' }:=I.un (Un.laid k hp (I.hok.fresh hp)) (I.hok.laid k hp new)
theorem Inv.write {x e:o?}{o:HO}{t':Nat}(I:Inv X pins σ H s)(mu:Tq (H x))(he:e=x\/H e=j? (.own x))(k:∀b u,b≠e->s.heap.get? b=j? u->h'.get? b=j? u)(QI:∃u,h'.get? e=j? u)
  (new:iU X.prog X.w (upd H x o) h' x o):Inv X pins σ (upd H x o) { s with heap:=h',toks:=t' }:=I.un (Un.write mu he k QI) (I.hok.write mu he k QI new)
theorem Inv.EG {uN:List (o?×Obj)}(I:Inv X pins σ H s)(h:∀p∈uN,s.heap.get? p.1=j? p.2/\H p.1=q?/\p.1≠X.env.locals/\p.1 ∉ X.fs/\∀v,p.2.data≠.cell v):Inv X uN σ H s:=
 ⟨I.ok,I.os,I.bare,I.base,I.loc,I.cell,I.free,I.fX,λp hp=>(List.mem_append.mp hp).elim (λz=>I.pin p (List.mem_append_left _ z)) (h p),I.hok,I.len⟩
theorem A5 {N:List Str}(hN:N.Nodup){i j:Nat}{x:Str}(a:N[i]?=j? x)(b:N[j]?=j? x):i=j:=by
 obtain⟨h1,e1⟩:=List.getElem?_eq_some_iff.mp a;obtain⟨h2,e2⟩:=List.getElem?_eq_some_iff.mp b;exact(List.getElem_inj hN).mp (e1.trans e2.symm)
theorem tK {M:Model}{A:A!}{E:l?->u?->Prop}{i:Nat}{x:Str}{v:V}{u:l?}{Q:Unit->u?->Prop}(I:Inv X pins σ H s)(hN:X.N.Nodup)(hi:X.N[i]?=j? x)(hx:Loc X.env.scope x)(r:RelV v u)
  (h:∀s',Inv X pins (σ.set i (j? v)) H s'->(∃a,Heap.SameBut a s.heap s'.heap/\(a=X.env.locals\/X.env.cells.lookup x=j? a))->Q () s') (hf:X.fn x=true\/X.env.scope.names.lookup x=j? .local:=by first|exact .inl rfl|exact .inr rfl|assumption):L? M A (storeName X.env x u) Q E s:=by
 obtain⟨m,hn,hl⟩:=id I.loc;have hcls:(X.env.scope.kind == .class || (X.env.scope.kind == .module && X.env.locals != X.env.globals))=false:=by rw[I.ok.kind];rfl
 have Rl:i<σ.length:=by rw[I.len];exact(List.getElem?_eq_some_iff.mp hi).1
 have Ls:=I.Ls;have tracked:∀ {a:o?} {h':O?},(∃o,s.heap.get? a=j? o/\H a=q?)->Heap.SameBut a s.heap h'->uM X.prog X.w H h':=λ{a h'} ha hs b ob e=>by
  obtain⟨_,_,hfree⟩:=ha;refine(I.hok b ob e).stay (λc w' hc q=>(hs.2 c ?_).trans q) (λ_ q=>q) λ_ _ q=>q
  rintro rfl;rcases hc with rfl|hc
  ·rw[hfree] at e;cases e
  ·rw[hfree] at hc;cases hc
 rcases hx with hk|hk
 ·refine wpAny_storeName_local hk hn (λh' hn' hs=>?_) hcls
  obtain⟨oL,_,_,hoL,_⟩:=id hn;refine h _ ⟨I.ok,I.os,I.bare,⟨λb o e n hb hx=>?_,λb o e n hb hx=>?_,I.base.free,λb o e hx=>?_,I.base.tups,I.base.uY,I.base.uZ⟩,⟨_,hn',λj y v' e1 e2 e3=>?_⟩,λy c e=>?_,I.free,I.fX,λp hp=>?_,tracked ⟨oL,hoL,I.free⟩ hs,by simpa using I.len⟩ ⟨_,hs,.inl rfl⟩
  ·exact(hs.2 b (Yq (Yj (Yl e) I.ok.above))).trans (I.base.keep b o e n hb hx)
  ·obtain⟨sl,e1⟩:=I.base.slot b o e n hb hx
   exact⟨sl,(hs.2 b (Yq (Yj (Yl e) I.ok.above))).trans e1⟩
  ·obtain⟨o',e1⟩:=I.base.there b o e hx
   exact⟨o',(hs.2 b (Yq (Yj (Yl e) I.ok.above))).trans e1⟩
  ·by_cases hj:j=i
   ·subst hj
    rw[hi] at e1;cases e1;rw[List.getElem?_set_self Rl] at e2;cases e2;exact⟨u,r,.inl ⟨hk,by simp⟩⟩
   ·rw[List.getElem?_set_ne (Ne.symm hj)] at e2
    obtain⟨u',r',q⟩:=hl j y v' e1 e2 e3;refine⟨u',r',?_⟩
    rcases q with ⟨k,e⟩|⟨k,c,e,z⟩
    ·refine .inl ⟨k,?_⟩
     have:y≠x:=λe=>hj (A5 hN e1 (e ▸ hi))
     simp[this,e]
    ·exact .inr ⟨k,c,e,z.sameBut hs (Ls y c e)⟩
  ·obtain⟨w',z⟩:=I.cell y c e
   exact⟨w',z.sameBut hs (Ls y c e)⟩
  ·obtain⟨e,n,ne,nf,d⟩:=I.pin p hp
   exact⟨(hs.2 p.1 ne).trans e,n,ne,nf,d⟩
 ·have hfn:X.fn x=true:=by
   rcases hf with z|z
   ·exact z
   ·rw[z] at hk;cases hk
  obtain⟨c,hc⟩:=I.ok.has x (.inl hk);obtain⟨w',z⟩:=I.cell x c hc;refine wpAny_storeName_cell I.ok.kind hk hc z (λh' hc' hs=>?_)
  obtain⟨oc,hoc,Uw⟩:=id z;refine h { s with heap:=h' } ⟨I.ok,I.os,I.bare,⟨λb o e n hb hx=>?_,λb o e n hb hx=>?_,I.base.free,λb o e hx=>?_,I.base.tups,I.base.uY,I.base.uZ⟩,⟨m,hn.sameBut hs (Ne.symm (Ls x c hc)),λj y v' e1 e2 e3=>?_⟩,λy c' e=>?_,I.free,I.fX,λp hp=>?_,tracked ⟨oc,hoc,I.fX x c hc⟩ hs,by simpa using I.len⟩ ⟨c,hs,.inr hc⟩
  ·exact(hs.2 b (Yq (Yj (Yl e) (I.ok.Hr x c hfn hc)))).trans (I.base.keep b o e n hb hx)
  ·obtain⟨sl,e1⟩:=I.base.slot b o e n hb hx
   exact⟨sl,(hs.2 b (Yq (Yj (Yl e) (I.ok.Hr x c hfn hc)))).trans e1⟩
  ·obtain⟨o',e1⟩:=I.base.there b o e hx
   exact⟨o',(hs.2 b (Yq (Yj (Yl e) (I.ok.Hr x c hfn hc)))).trans e1⟩
  ·by_cases hj:j=i
   ·subst hj
    rw[hi] at e1;cases e1;rw[List.getElem?_set_self Rl] at e2;cases e2;exact⟨u,r,.inr ⟨.inl hk,c,hc,hc'⟩⟩
   ·rw[List.getElem?_set_ne (Ne.symm hj)] at e2
    obtain⟨u',r',q⟩:=hl j y v' e1 e2 e3;refine⟨u',r',?_⟩
    rcases q with q|⟨k,c',e,z'⟩
    ·exact .inl q
    ·refine .inr ⟨k,c',e,z'.sameBut hs ?_⟩
     rintro rfl;exact hj (A5 hN e1 (I.ok.inj _ _ _ e hc ▸ hi))
  ·by_cases hcc:c'=c
   ·subst hcc;exact⟨_,hc'⟩
   ·obtain⟨w2,z2⟩:=I.cell y c' e
    exact⟨w2,z2.sameBut hs hcc⟩
  ·obtain⟨e,n,ne,nf,d⟩:=I.pin p hp
   refine⟨(hs.2 p.1 ?_).trans e,n,ne,nf,d⟩
   intro q;rw[q,hoc] at e;have q':oc=p.2:=M? e;exact d w' (by rw[<- q'];exact Uw)
theorem kW {M:Model}{A:A!}{E:l?->u?->Prop}{i:Nat}{x:Str}{v:V}{u:l?}{Q:Unit->u?->Prop}(I:Inv X pins σ H s)(hN:X.N.Nodup)(hi:X.N[i]?=j? x)(hx:Loc X.env.scope x)(r:RelV v u)
  (h:∀s',Inv X pins (σ.set i (j? v)) H s'->Q () s') (hf:X.fn x=true\/X.env.scope.names.lookup x=j? .local:=by first|exact .inl rfl|exact .inr rfl|assumption):L? M A (storeName X.env x u) Q E s:=
 tK I hN hi hx r (λs' I' _=>h s' I') hf
theorem Inv.EH {s':u?}{ch:List o?}(I:Inv X pins σ H s)(ho:s'.os=s.os)(u:Un (frs X.stack) ch H H' s.heap s'.heap)(hok:uM X.prog X.w H' s'.heap)(hg:AllBare s'.gens)
  (hch:∀b∈ch,(b∈X.ex\/X.s₀.heap.objs.size<=b)/\b≠X.env.locals/\(∀x c,X.env.cells.lookup x=j? c->c≠b)/\∀p∈X.pn++pins,p.1≠b):Inv X pins σ H' s':=by
 obtain⟨h',g',d',t',o'⟩:=s';have e:o'=s.os:=ho;subst e;exact I.call (g':=g') (t':=t') (d':=d') u hok hg hch
end
abbrev XK:=l?->Option o?->Hp->Prop
abbrev St:=List (Option V)
abbrev VK:=V->Hp->Prop
abbrev TE:=St->Hp->VK->Prop
abbrev TT:=St->Hp->(Bool->Hp->Prop)->Prop
abbrev TA:=St->Hp->(List V->Hp->Prop)->Prop
structure Ends where
 nx:St->Hp->Prop
 rt:VK
 bk:St->Hp->Prop:=λ_ _=>False
 ct:St->Hp->Prop:=λ_ _=>False
abbrev TS:=Ends->St->Hp->Prop
def EP (X:Cx)(pins:List (o?×Obj))(σ:St)(Q:VK)(u:l?)(s':u?):Prop:=∃v H',Inv X pins σ H' s'/\RelV v u/\Q v H'
def TP (X:Cx)(pins:List (o?×Obj))(σ:St)(Q:Bool->Hp->Prop)(b:Bool)(s':u?):Prop:=∃H',Inv X pins σ H' s'/\Q b H'
def AP (X:Cx)(pins:List (o?×Obj))(σ:St)(Q:List V->Hp->Prop)(us:List l?)(s':u?):Prop:=∃vs H',Inv X pins σ H' s'/\Vals vs us/\Q vs H'
def SP (X:Cx)(pins:List (o?×Obj))(D:Ends)(f:Flow)(s':u?):Prop:=
 match f with
 | .next=>∃σ' H',Inv X pins σ' H' s'/\D.nx σ' H'
 | .brk=>∃σ' H',Inv X pins σ' H' s'/\D.bk σ' H'
 | .cont=>∃σ' H',Inv X pins σ' H' s'/\D.ct σ' H'
 | .ret u=>∃v σ' H',Inv X pins σ' H' s'/\RelV v u/\D.rt v H'
structure C5 (p:Prop):Prop where
 out:p
instance {α:Sort _}{β:α->Prop}:CoeFun (C5 (∀a,β a)) (λ_=>∀a,β a):=⟨C5.out⟩
abbrev PE (X:Cx)(e:Expr)(t:TE):Prop:=C5 (
 ∀(pins:List (o?×Obj)) (s:u?) (σ:St) (H:Hp) (Q:VK),Inv X pins σ H s->t σ H Q->L? (S? X.prog X.w) X.A (eval e X.env) (EP X pins σ Q) X.xe s)
abbrev PT (X:Cx)(e:Expr)(t:TT):Prop:=C5 (
 ∀(pins:List (o?×Obj)) (s:u?) (σ:St) (H:Hp) (Q:Bool->Hp->Prop),Inv X pins σ H s->t σ H Q->L? (S? X.prog X.w) X.A (isTrue e X.env (eval e X.env)) (TP X pins σ Q) X.xe s)
def PW (X:Cx)(e:Expr)(t:TT):Prop:=
 ∀(whole:Sem l?) (pins:List (o?×Obj)) (s:u?) (σ:St) (H:Hp) (Q:Bool->Hp->Prop),Inv X pins σ H s->t σ H Q->L? (S? X.prog X.w) X.A (isTrue e X.env whole) (TP X pins σ Q) X.xe s
theorem PW.pt {X:Cx}{e:Expr}{t:TT}(h:PW X e t):PT X e t:=⟨h _⟩
abbrev PA (X:Cx)(es:List Expr)(t:TA):Prop:=C5 (
 ∀(pos:Pos) (pins:List (o?×Obj)) (s:u?) (σ:St) (H:Hp) (Q:List V->Hp->Prop),Inv X pins σ H s->t σ H Q->L? (S? X.prog X.w) X.A (spliced (backTo pos (I? es X.env))) (AP X pins σ Q) X.xe s)
abbrev PS (X:Cx)(st:Q?)(t:TS):Prop:=C5 (
 ∀(pins:List (o?×Obj)) (s:u?) (σ:St) (H:Hp) (D:Ends),Inv X pins σ H s->t D σ H->L? (S? X.prog X.w) X.A (exec st X.env) (SP X pins D) X.xe s)
abbrev zB (X:Cx)(st:List Q?)(t:TS):Prop:=C5 (
 ∀(pins:List (o?×Obj)) (s:u?) (σ:St) (H:Hp) (D:Ends),Inv X pins σ H s->t D σ H->L? (S? X.prog X.w) X.A (execs st X.env) (SP X pins D) X.xe s)
theorem eU {α:Type}{t:Sem α}{Q Q':α->u?->Prop}{M:Model}{A:A!}{E:l?->u?->Prop}{s:u?}(h:L? M A t Q E s)(hQ:∀a s,Q a s->Q' a s):L? M A t Q' E s:=B! h hQ λ_ _ x=>x
section
variable {X:Cx}
def Oh (i:Nat):TE:=λσ H Q=>∃v,σ[i]?=j? (j? v)/\Q v H
def tC (v:V):TE:=λ_ H Q=>Q v H
theorem Oi {i:Nat}{x:Str}{pos:Pos}(hN:X.N[i]?=j? x)(hv:QJ X.env.scope x)(hd:(x ==("__debug__":Str))=false:=by decide)(hcd:(x ==("__classdict__":Str))=false:=by decide):PE X (.Name x pos) (Oh i):=by
 refine⟨?_⟩
 intro pins s σ H Q I h;obtain⟨v,e,h⟩:=h;obtain⟨m,hn,hl⟩:=I.loc;obtain⟨u,r,l⟩:=hl i x v hN e hv;have fin:EP X pins σ Q u s:=⟨v,H,I,r,h⟩;rcases l with ⟨hk,hm⟩|⟨hk,c,hc,hcell⟩
 ·exact wpAny_Name (wpAny_loadName_local I.ok.kind hk hn hm fin) hd
 ·rcases hk with hk|hk
  ·exact wpAny_Name (wpAny_loadName_cell I.ok.kind hk hc hcell fin) hd
  ·exact wpAny_Name (wpAny_loadName_free I.ok.kind hk hc hcell fin hcd) hd
theorem ak {i j pos}:PE X (.Constant (.int i) j pos) (tC (.int i)):=⟨λ_ _ _ H _ I h=>wpAny_Constant_int ⟨.int i,H,I.tok _,⟨_,rfl⟩,h⟩⟩
theorem jg {b j pos}:PE X (.Constant (.bool b) j pos) (tC (.bl b)):=⟨λ_ _ _ H _ I h=>Constant_bool ⟨.bl b,H,I,rfl,h⟩⟩
theorem tL {j pos}:PE X (.Constant .none j pos) (tC .eZ):=⟨λ_ _ _ H _ I h=>Constant_none ⟨.eZ,H,I,rfl,h⟩⟩
theorem zC {x j pos}:PE X (.Constant (.str x) j pos) (tC (.str x)):=⟨λ_ _ _ H _ I h=>Calls.Constant_str ⟨.str x,H,I.tok _,⟨_,rfl⟩,h⟩⟩
def Gl (X:Cx)(x:Str):Prop:=X.env.kindOf x=j? .globalImplicit
theorem vv {E:l?->u?->Prop}{pins:List (o?×Obj)}{s:u?}{σ:St}{H:Hp}{x:Str}{u:l?}{pos:Pos}{Q:l?->u?->Prop}(I:Inv X pins σ H s)(hg:Gl X x)(hm:X.mg x=j? u)(h:Q u s)
  (hd:(x ==("__debug__":Str))=false:=by decide):L? (S? X.prog X.w) X.A (eval (.Name x pos) X.env) Q E s:=
 Calls.Name_function_global I.ok.kind hg (Calls.loadGlobal_global (by rw[I.ok.glob];exact I.mod.glob.keeps I.bk) hm h) hd
theorem jC {E:l?->u?->Prop}{pins:List (o?×Obj)}{s:u?}{σ:St}{H:Hp}{x:Str}{u:l?}{pos:Pos}{Q:l?->u?->Prop}(I:Inv X pins σ H s)(hg:Gl X x)(hm:X.mg x=q?)(hv:H! x=j? u)(h:Q u s)
  (hn:x≠"__name__":=by decide) (hd:(x ==("__debug__":Str))=false:=by decide):L? (S? X.prog X.w) X.A (eval (.Name x pos) X.env) Q E s:=by
 obtain⟨mb,h1,h2⟩:=I.mod.blt;exact Calls.Name_function_global I.ok.kind hg (Calls.loadGlobal_builtin (by rw[I.ok.glob];exact I.mod.glob.keeps I.bk) hm (by rw[I.ok.blt];exact h1.keeps I.bk) ((h2 x hn).trans hv) h) hd
theorem j4 {x:Str}{v:V}{u:l?}{pos:Pos}(hg:Gl X x)(hm:X.mg x=j? u)(r:RelV v u)(hd:(x ==("__debug__":Str))=false:=by decide):PE X (.Name x pos) (tC v):=
 ⟨λ_ _ _ H _ I h=>vv I hg hm ⟨v,H,I,r,h⟩ hd⟩
theorem gM {x:Str}{v:V}{u:l?}{pos:Pos}(hg:Gl X x)(hm:X.mg x=q?)(hv:H! x=j? u)(r:RelV v u)(hn:x≠"__name__":=by decide)(hd:(x ==("__debug__":Str))=false:=by decide):PE X (.Name x pos) (tC v):=
 ⟨λ_ _ _ H _ I h=>jC I hg hm hv ⟨v,H,I,r,h⟩ hn hd⟩
variable {a b:Expr} {ta tb:TE} {pos:Pos}
def tB (t:TE):TT:=λσ H Q=>t σ H λx H1=>∃c,x=.bl c/\Q c H1
theorem gk {e:Expr}{t:TE}(h:PE X e t)(he:∀whole,isTrue e X.env whole=(do let v <- whole;standAt e.pos;holding [v] (truthy v)):=by intro _;rfl):PT X e (tB t):=by
 refine⟨?_⟩
 intro pins s σ H Q I hw;refine isTrue_plain (eU (h pins s σ H _ I hw) λv s1 ⟨x,H1,I1,r1,q1⟩=>?_) (he _)
 obtain⟨d,rfl,q⟩:=q1;cases r1;exact wpAny_truthy_bool ⟨H1,I1,q⟩
variable {tA Tv:TT} {rest:List Expr}
def Ux (t u:TT):TT:=λσ H Q=>t σ H λc H1=>if c=true then u σ H1 Q else Q false H1
def tOr (t u:TT):TT:=λσ H Q=>t σ H λc H1=>if c=true then Q true H1 else u σ H1 Q
def Uy (t:TT):TT:=λσ H Q=>t σ H λc H1=>Q (!c) H1
theorem EI (ha:PT X a tA):PW X (.BoolOp .And [a] pos) tA:=by
 intro wh pins s σ H Q I h;refine isTrue_and (eU (ha pins s σ H Q I h) λc s1 e=>?_)
 cases c with
 | true=>exact isTrue_and_nil e
 | false=>exact e
theorem qv (ha:PT X a tA):PW X (.BoolOp .Or [a] pos) tA:=by
 intro wh pins s σ H Q I h;refine isTrue_or (eU (ha pins s σ H Q I h) λc s1 e=>?_)
 cases c with
 | false=>exact isTrue_or_nil e
 | true=>exact e
theorem Hs (ha:PT X a tA)(hb:PW X (.BoolOp .And (b::rest) pos) Tv):PW X (.BoolOp .And (a::b::rest) pos) (Ux tA Tv):=by
 intro wh pins s σ H Q I h;refine isTrue_and (eU (ha pins s σ H _ I h) λc s1 ⟨H1,I1,q1⟩=>?_)
 cases c with
 | true=>exact hb wh pins s1 σ H1 Q I1 q1
 | false=>exact⟨H1,I1,q1⟩
theorem nh (ha:PT X a tA)(hb:PW X (.BoolOp .Or (b::rest) pos) Tv):PW X (.BoolOp .Or (a::b::rest) pos) (tOr tA Tv):=by
 intro wh pins s σ H Q I h;refine isTrue_or (eU (ha pins s σ H _ I h) λc s1 ⟨H1,I1,q1⟩=>?_)
 cases c with
 | true=>exact⟨H1,I1,q1⟩
 | false=>exact hb wh pins s1 σ H1 Q I1 q1
theorem gO (ha:PT X a tA):PT X (.UnaryOp .Not a pos) (Uy tA):=by
 refine⟨?_⟩
 intro pins s σ H Q I h;exact isTrue_not (ha pins s σ H (λc H1=>Q (!c) H1) I h)
def Rm (ta tb:TE):TE:=λσ H Q=>ta σ H λx H1=>∃c,x=.bl c/\if c=true then tb σ H1 Q else Q (.bl false) H1
def Uz (ta tb:TE):TE:=λσ H Q=>ta σ H λx H1=>∃c,x=.bl c/\if c=true then Q (.bl true) H1 else tb σ H1 Q
def Rn (ta:TE):TE:=λσ H Q=>ta σ H λx H1=>∃c,x=.bl c/\Q (.bl (!c)) H1
theorem lO {op}{t:TE}(h:PE X a t):PE X (.BoolOp op [a] pos) t:=⟨λpins s σ H Q I hw=>BoolOp_one (h pins s σ H Q I hw)⟩
theorem lQ (ha:PE X a ta)(hb:PE X (.BoolOp .And (b::rest) pos) tb):PE X (.BoolOp .And (a::b::rest) pos) (Rm ta tb):=by
 refine⟨?_⟩
 intro pins s σ H Q I h;refine BoolOp_and (eU (ha pins s σ H _ I h) λv s1 ⟨x,H1,I1,r1,q1⟩=>?_)
 obtain⟨c,rfl,q1⟩:=q1;cases r1;refine wpAny_truthy_bool ?_
 cases c with
 | true=>exact hb pins s1 σ H1 Q I1 q1
 | false=>exact⟨.bl false,H1,I1,rfl,q1⟩
theorem M8 (ha:PE X a ta)(hb:PE X (.BoolOp .Or (b::rest) pos) tb):PE X (.BoolOp .Or (a::b::rest) pos) (Uz ta tb):=by
 refine⟨?_⟩
 intro pins s σ H Q I h;refine BoolOp_or (eU (ha pins s σ H _ I h) λv s1 ⟨x,H1,I1,r1,q1⟩=>?_)
 obtain⟨c,rfl,q1⟩:=q1;cases r1;refine wpAny_truthy_bool ?_
 cases c with
 | false=>exact hb pins s1 σ H1 Q I1 q1
 | true=>exact⟨.bl true,H1,I1,rfl,q1⟩
theorem C6 (ha:PE X a ta):PE X (.UnaryOp .Not a pos) (Rn ta):=by
 refine⟨?_⟩
 intro pins s σ H Q I h;refine UnaryOp_ (eU (ha pins s σ H _ I h) λv s1 ⟨x,H1,I1,r1,q1⟩=>?_)
 obtain⟨c,rfl,q1⟩:=q1;cases r1;exact not_of (wpAny_truthy_bool ⟨.bl (!c),H1,I1,rfl,q1⟩)
def tIf (t:TT)(ta tb:TE):TE:=λσ H Q=>t σ H λc H1=>if c=true then ta σ H1 Q else tb σ H1 Q
theorem vX {c:Expr}(hc:PT X c tA)(ha:PE X a ta)(hb:PE X b tb):PE X (.IfExp c a b pos) (tIf tA ta tb):=by
 refine⟨?_⟩
 intro pins s σ H Q I h;refine wpAny_IfExp (eU (hc pins s σ H _ I h) λd s1 ⟨H1,I1,q1⟩=>?_)
 cases d with
 | true=>exact ha pins s1 σ H1 Q I1 q1
 | false=>exact hb pins s1 σ H1 Q I1 q1
end
def aP (K:bE)(H:Hp)(a:o?)(xs:List V):Prop:=
 Rd H a (.lst xs)\/
  ∃(o:Obj) (its:Array l?) (n:Nat),K.lookup a=j? o/\o.cls=.type "list"/\o.dict=q?/\o.data=.seq its n/\its.size<=K?/\Vals xs its.toList
def jv (K:bE)(H:Hp)(a:o?)(xs:List V):Prop:=
 Rd H a (.tup xs)\/
  ∃(o:Obj) (its:Array l?) (n:Nat),K.lookup a=j? o/\o.cls=.type "tuple"/\o.data=.seq its n/\its.size<=K?/\Vals xs its.toList
def Lv:l?->Option V
 | .none=>j? .eZ
 | .bool b=>j? (.bl b)
 | .int i _=>j? (.int i)
 | .str x _=>j? (.str x)
 | .bytes b _=>j? (.byt b)
 | .float b _=>j? (.flt b)
 | .ref a=>j? (.ref a)
 | .type n=>j? (.ty n)
 | _=>q?
theorem RelV.abs {x:V}{u:l?}(r:RelV x u):Lv u=j? x:=by
 cases x with
 | eZ=>cases r;rfl
 | bl _=>cases r;rfl
 | int _=>obtain⟨t,rfl⟩:=r;rfl
 | str _=>obtain⟨t,rfl⟩:=r;rfl
 | byt _=>obtain⟨t,rfl⟩:=r;rfl
 | flt _=>obtain⟨t,rfl⟩:=r;rfl
 | ref _=>cases r;rfl
 | ty _=>cases r;rfl
theorem RelV.inj {x y:V}{u:l?}(r:RelV x u)(q:RelV y u):x=y:=M? (r.abs.symm.trans q.abs)
theorem Vals.inj:∀ {xs ys:List V} {us:List l?},Vals xs us->Vals ys us->xs=ys
 | _,_,_,.nil,.nil=>rfl
 | _,_,_,.cons r t,.cons r' t'=>by rw[r.inj r',Vals.inj t t']
section
variable {X:Cx} {pins:List (o?×Obj)} {σ:St} {H:Hp} {s:u?} {a:o?} {xs ys:List V}
theorem aP.of {K:bE}(h:H a=j? (.lst xs)):aP K H a xs:=.inl (.inl h)
theorem jv.of {K:bE}(h:H a=j? (.tup xs)):jv K H a xs:=.inl (.inl h)
theorem Inv.list (I:Inv X pins σ H s)(h:aP X.K H a xs):∃its:List l?,Vals xs its/\PlainL s.heap a its.toArray/\xs.length<=K?:=by
 rcases h with h|⟨o,its,n,hk,hc,hd,hs,hz,r⟩
 ·obtain⟨z,its,n,r,e⟩:=h.ok I.hok
  exact⟨its,r,⟨_,n,e,rfl,rfl,rfl⟩,z⟩
 ·refine⟨its.toList,r,⟨o,n,I.A3 a o hk,hc,hd,by simpa using hs⟩,?_⟩
  have e:=r.length;simp only[Array.length_toList] at e
  omega
theorem Inv.tuple (I:Inv X pins σ H s)(h:jv X.K H a xs):∃its:List l?,Vals xs its/\IsTup s.heap a its.toArray/\xs.length<=K?:=by
 rcases h with h|⟨o,its,n,hk,hc,hs,hz,r⟩
 ·obtain⟨z,its,r,p⟩:=h.ok I.hok
  exact⟨its,r,p,z⟩
 ·refine⟨its.toList,r,⟨o,I.A3 a o hk,hc,n,by simpa using hs⟩,?_⟩
  have e:=r.length;simp only[Array.length_toList] at e
  omega
theorem Inv.rP (I:Inv X pins σ H s)(h:aP X.K H a xs)(h':aP X.K H a ys):xs=ys:=by
 obtain⟨its,r,⟨o,n,e,_,_,d⟩,_⟩:=I.list h;obtain⟨its',r',⟨o',n',e',_,_,d'⟩,_⟩:=I.list h';rw[e] at e';cases e';rw[d] at d';injection d' with d1 _
 have:its=its':=by simpa using Jd Array.toList d1
 subst this;exact r.inj r'
end
abbrev Cx.u6 (X:Cx)(E:l?->u?->Prop):Cx:={ X with xe:=E }
abbrev Cx.M9 (X:Cx):Cx:=X.u6 λ_ _=>False
theorem Cx.Ok.u6 {X:Cx}(ok:X.Ok)(E:l?->u?->Prop):(X.u6 E).Ok:=
 ⟨ok.mod,ok.kind,ok.glob,ok.blt,ok.above,ok.inj,ok.has,ok.Hr,ok.hd,ok.frames,ok.stk,ok.Lr,ok.bs,ok.A4,ok.vV,ok.vW,ok.kU,ok.EF⟩
theorem Cx.Ok.kj {X:Cx}{E:l?->u?->Prop}(ok:(X.u6 E).Ok):X.Ok:=
 ⟨ok.mod,ok.kind,ok.glob,ok.blt,ok.above,ok.inj,ok.has,ok.Hr,ok.hd,ok.frames,ok.stk,ok.Lr,ok.bs,ok.A4,ok.vV,ok.vW,ok.kU,ok.EF⟩
section
variable {X:Cx} {pins:List (o?×Obj)} {σ:St} {H:Hp} {s:u?} {E:l?->u?->Prop}
theorem Inv.u6 (I:Inv X pins σ H s)(E:l?->u?->Prop):Inv (X.u6 E) pins σ H s:=⟨I.ok.u6 E,I.os,I.bare,I.base,I.loc,I.cell,I.free,I.fX,I.pin,I.hok,I.len⟩
theorem Inv.kj (I:Inv (X.u6 E) pins σ H s):Inv X pins σ H s:=⟨I.ok.kj,I.os,I.bare,I.base,I.loc,I.cell,I.free,I.fX,I.pin,I.hok,I.len⟩
theorem SP.kj {D:Ends}{f:Flow}{s':u?}(h:SP (X.u6 E) pins D f s'):SP X pins D f s':=by
 cases f with
 | next=>obtain⟨σ',H',I,q⟩:=h;exact⟨σ',H',I.kj,q⟩
 | brk=>obtain⟨σ',H',I,q⟩:=h;exact⟨σ',H',I.kj,q⟩
 | cont=>obtain⟨σ',H',I,q⟩:=h;exact⟨σ',H',I.kj,q⟩
 | ret u=>obtain⟨v,σ',H',I,r,q⟩:=h;exact⟨v,σ',H',I.kj,r,q⟩
theorem zB.M9 {st:List Q?}{t:TS}(h:zB X.M9 st t):zB X st t:=⟨λpins s σ H D I hw=>
 B! (h pins s σ H D (I.u6 _) hw) (λ_ _ q=>q.kj) λ_ _ z=>N! z⟩
end
section
variable {X:Cx} {st:Q?} {rest:List Q?} {t u:TS} {e:Expr} {te:TE} {pos:Pos}
def Ro:TS:=λD σ H=>D.nx σ H
def Rp (t u:TS):TS:=λD σ H=>t { D with nx:=u D } σ H
theorem bY:zB X [] Ro:=⟨λ_ _ σ H _ I h=>wpAny_execs_nil ⟨σ,H,I,h⟩⟩
theorem ai (h1:PS X st t)(h2:zB X rest u):zB X (st::rest) (Rp t u):=by
 refine⟨?_⟩
 intro pins s σ H D I h;refine wpAny_execs_cons (eU (h1 pins s σ H { D with nx:=u D } I h) λf s1 q=>?_)
 cases f with
 | next=>
  obtain⟨σ',H',I',q⟩:=q;exact h2 pins s1 σ' H' D I' q
 | ret v=>exact q
 | brk=>exact q
 | cont=>exact q
theorem au (h1:PS X st t):zB X [st] t:=by
 refine⟨?_⟩
 intro pins s σ H D I h;refine wpAny_execs_cons (eU (h1 pins s σ H D I h) λf s1 q=>?_)
 cases f with
 | next=>exact wpAny_execs_nil q
 | ret v=>exact q
 | brk=>exact q
 | cont=>exact q
theorem Inv.quiet {pins:List (o?×Obj)}{σ:St}{H:Hp}{s:u?}(I:Inv X pins σ H s):interactive X.env=false:=by simp[interactive,I.ok.kind]
def Rr (te:TE):TS:=λD σ H=>te σ H λ_ H1=>D.nx σ H1
theorem d8 (he:PE X e te)(hs:swapsWith e q? pos.line X.env=pure false:=by rfl):PS X (.Expr e pos) (Rr te):=by
 refine⟨?_⟩
 intro pins s σ H D I h;exact wpAny_Expr_any (eU (he pins s σ H _ I h) λv s1 ⟨x,H1,I1,r1,q1⟩=>⟨σ,H1,I1,q1⟩) I.quiet hs
def UA (te:TE):TS:=λD σ H=>te σ H D.rt
theorem aJ (he:PE X e te):PS X (.Return (j? e) pos) (UA te):=by
 refine⟨?_⟩
 intro pins s σ H D I h;exact wpAny_Return_some (eU (he pins s σ H _ I h) λv s1 ⟨x,H1,I1,r1,q1⟩=>⟨x,σ,H1,I1,r1,q1⟩)
def UB (c:TT)(t u:TS):TS:=λD σ H=>c σ H λb H1=>if b=true then t D σ H1 else u D σ H1
theorem cW {c:Expr}{a b:List Q?}{tc:TT}(hc:PT X c tc)(ha:zB X a t)(hb:zB X b u):PS X (.If c a b pos) (UB tc t u):=by
 refine⟨?_⟩
 intro pins s σ H D I h;refine wpAny_If (eU (hc pins s σ H _ I h) λd s1 ⟨H1,I1,q1⟩=>?_)
 cases d with
 | true=>exact ha pins s1 σ H1 D I1 q1
 | false=>exact hb pins s1 σ H1 D I1 q1
end
abbrev TG:=V->St->Hp->(St->Hp->Prop)->Prop
abbrev M_:=List V->St->Hp->(St->Hp->Prop)->Prop
def PG (X:Cx)(target:Expr)(t:TG):Prop:=
 ∀(pins:List (o?×Obj)) (s:u?) (σ:St) (H:Hp) (v:V) (u:l?) (Q:St->Hp->Prop),Inv X pins σ H s->RelV v u->t v σ H Q->
  L? (S? X.prog X.w) X.A (assign target X.env u) (λ_ s'=>∃σ' H',Inv X pins σ' H' s'/\Q σ' H') X.xe s
def Rt (X:Cx)(ts:List Expr)(t:M_):Prop:=
 ∀(pins:List (o?×Obj)) (s:u?) (σ:St) (H:Hp) (vs:List V) (us:List l?) (Q:St->Hp->Prop),Inv X pins σ H s->Vals vs us->t vs σ H Q->
  L? (S? X.prog X.w) X.A (assignInOrder ((assignEach ts X.env).map (·.2)) us) (λ_ s'=>∃σ' H',Inv X pins σ' H' s'/\Q σ' H') X.xe s
abbrev Ht:=V->V->V->Hp->(Hp->Prop)->Prop
def Oj (X:Cx)(t:Ht):Prop:=
 ∀(pins:List (o?×Obj)) (s:u?) (σ:St) (H:Hp) (o i v:V) (ov iv u:l?) (Q:Hp->Prop),Inv X pins σ H s->RelV o ov->RelV i iv->RelV v u->t o i v H Q->
  L? (S? X.prog X.w) X.A (setItem ov iv u) (λ_ s'=>∃H',Inv X pins σ H' s'/\Q H') X.xe s
abbrev QK:=V->V->Hp->VK->Prop
def Tw (X:Cx)(op:Operator)(t:QK):Prop:=
 ∀(pins:List (o?×Obj)) (s:u?) (σ:St) (H:Hp) (x y:V) (v u:l?) (Q:VK),Inv X pins σ H s->RelV x v->RelV y u->t x y H Q->
  L? (S? X.prog X.w) X.A (inplaceOp op v u) (EP X pins σ Q) X.xe s
section
variable {X:Cx} {pos:Pos}
def ig (i:Nat):TG:=λv σ H Q=>Q (σ.set i (j? v)) H
theorem aB {i:Nat}{x:Str}(hN:X.N.Nodup)(hi:X.N[i]?=j? x)(hx:Loc X.env.scope x)(hf:X.fn x=true\/X.env.scope.names.lookup x=j? .local:=by first|exact .inl rfl|exact .inr rfl|assumption):PG X (.Name x pos) (ig i):=by
 intro pins s σ H v u Q I r h;exact wpAny_assign_Name (kW I hN hi hx r (λs' I'=>⟨_,H,I',h⟩) hf)
def UC:M_:=λvs σ H Q=>vs=[]/\Q σ H
def Ru (t:TG)(u:M_):M_:=λvs σ H Q=>∃v r,vs=v::r/\t v σ H λσ' H'=>u r σ' H' Q
theorem cO:Rt X [] UC:=by
 intro pins s σ H vs us Q I r h;obtain⟨e,h⟩:=h;subst e;cases r;exact assignInOrder_nil ⟨σ,H,I,h⟩
theorem aS {e:Expr}{es:List Expr}{t:TG}{u:M_}(h1:PG X e t)(h2:Rt X es u)
  (hs:(assignEach (e::es) X.env).map (·.2)=assign e X.env::(assignEach es X.env).map (·.2):=by rfl):Rt X (e::es) (Ru t u):=by
 intro pins s σ H vs us Q I r h;obtain⟨v,vr,e1,h⟩:=h;subst e1;cases r with
 | cons r rr=>
  rw[hs];refine assignInOrder_cons (eU (h1 pins s σ H _ _ _ I r h) λ_ s1 ⟨σ1,H1,I1,q1⟩=>?_)
  exact h2 pins s1 σ1 H1 _ _ Q I1 rr q1
def Rv (K:bE)(n:Nat)(t:M_):TG:=λv σ H Q=>∃a xs,v=.ref a/\jv K H a xs/\xs.length=n/\t xs σ H Q
theorem Ol {es:List Expr}{k:Nat}{t:M_}{n:Nat}(hc:X.calm=true)(h:Rt X es t)
  (hn:(assignEach es X.env).length=n:=by rfl) (hst:(assignEach es X.env).findIdx? (·.1)=q?:=by rfl):PG X (.Tuple es k pos) (Rv X.K n t):=by
 intro pins s σ H v u Q I r hw;obtain⟨a,xs,e1,hq,hl,hw⟩:=hw;subst e1;cases r;obtain⟨its,rv,ht,hz⟩:=I.tuple hq;refine assign_Tuple_tuple (I.ok.hd hc) ht (by simp[hn,<- hl,rv.length]) hst λh' hx=>?_
 have I1:Inv X pins σ H { s with heap:=h' }:=I.kept (t':=s.toks) λb o e=>hx b o (Yq (Yl e)) e
 exact h pins _ σ H xs _ Q I1 (by simpa using rv) hw
def UD (to ti:TE)(t:Ht):TG:=λv σ H Q=>to σ H λo H1=>ti σ H1 λi H2=>t o i v H2 λH3=>Q σ H3
theorem Hu {o i:Expr}{to ti:TE}{t:Ht}(ho:PE X o to)(hi:PE X i ti)(hs:Oj X t)
  (ha:∀v,assign (.Subscript o i pos) X.env v=(do
   let ov <- holding [v] (eval o X.env)
   let iv <- holding [v,ov] (eval i X.env)
   standAt pos
   holding [v,ov,iv] (setItem ov iv v)
   release [v,ov,iv] []):=by intro _;rfl):PG X (.Subscript o i pos) (UD to ti t):=by
 intro pins s σ H v u Q I r h;rw[ha];refine B? (wpAny_holding (eU (ho pins s σ H _ I h) λov s1 ⟨x,H1,I1,r1,q1⟩=>?_))
 refine B? (wpAny_holding (eU (hi pins s1 σ H1 _ I1 q1) λiv s2 ⟨y,H2,I2,r2,q2⟩=>?_))
 refine B? (wpAny_standAt (B? (wpAny_holding (eU (hs pins s2 σ H2 x y v ov iv u _ I2 r1 r2 r q2) λ_ s3 ⟨H3,I3,q3⟩=>?_))))
 exact wpAny_release ⟨σ,H3,I3,q3⟩
def Lw (te:TE)(g:TG):TS:=λD σ H=>te σ H λx H1=>g x σ H1 D.nx
theorem ko {tg e:Expr}{te:TE}{g:TG}(he:PE X e te)(hg:PG X tg g)(hs:swapsWithSole [tg] e pos.line X.env=pure false:=by rfl)(hw:swappedStores [tg] e X.env=pure q?:=by rfl)
  (h1:(assignEach [tg] X.env).map (·.2)=[assign tg X.env]:=by rfl):PS X (.Assign [tg] e pos) (Lw te g):=by
 refine⟨?_⟩
 intro pins s σ H D I h;refine wpAny_Assign_stores (eU (he pins s σ H _ I h) λv s1 ⟨x,H1,I1,r1,q1⟩=>?_) hs hw
 rw[h1];exact eU (hg pins s1 σ H1 x v _ I1 r1 q1) λ_ s2 q=>q
theorem aD {i:Nat}{x:Str}{e:Expr}{te:TE}{pos':Pos}(hN:X.N.Nodup)(hi:X.N[i]?=j? x)(hx:Loc X.env.scope x)(he:PE X e te)(hs:swapsWith e (j? (.Name x pos')) pos.line X.env=pure false:=by rfl)(hf:X.fn x=true\/X.env.scope.names.lookup x=j? .local:=by first|exact .inl rfl|exact .inr rfl|assumption):
  PS X (.Assign [.Name x pos'] e pos) (Lw te (ig i)):=by
 refine⟨?_⟩
 intro pins s σ H D I h;refine wpAny_Assign_Name (eU (he pins s σ H _ I h) λv s1 ⟨y,H1,I1,r1,q1⟩=>?_) hs
 exact kW I1 hN hi hx r1 (λs2 I2=>⟨_,H1,I2,q1⟩) hf
def UE (i j:Nat)(ta:TA):TS:=λD σ H=>ta σ H λvs H1=>∃v w,vs=[v,w]/\D.nx ((σ.set i (j? v)).set j (j? w)) H1
theorem vY {i j:Nat}{x y:Str}{a b:Expr}{ta:TA}{px py pt:Pos}{kt k2 pt2}(hc:X.calm=true)(hN:X.N.Nodup)(hi:X.N[i]?=j? x)(hj:X.N[j]?=j? y)(hij:i≠j)
  (hx:X.env.scope.names.lookup x=j? .local) (hy:X.env.scope.names.lookup y=j? .local) (ha:PA X [a,b] ta)
  (hw:swappedStores [.Tuple [.Name x px,.Name y py] kt pt] (.Tuple [a,b] k2 pt2) X.env=pure (j? [x,y]))
  (hs:swapsWithSole [.Tuple [.Name x px,.Name y py] kt pt] (.Tuple [a,b] k2 pt2) pos.line X.env=pure false:=by rfl):
  PS X (.Assign [.Tuple [.Name x px,.Name y py] kt pt] (.Tuple [a,b] k2 pt2) pos) (UE i j ta):=by
 refine⟨?_⟩
 intro pins s σ H D I h;rw[exec_Assign_arm];refine B? (wpAny_standAt ?_)
 rw[hs];refine B? (J? ?_)
 rw[W8 (by decide)]
 refine B? (Tuple_ (eU (ha _ pins s σ H _ I h) λus s1 ⟨vs,H1,I1,r1,q1⟩=>?_))
 obtain⟨v,w,e1,q1⟩:=q1;subst e1;obtain⟨u1,u2,rfl,rv,rw'⟩:∃u1 u2,us=[u1,u2]/\RelV v u1/\RelV w u2:=by
  cases r1 with
  | cons p q=>
   cases q with
   | cons p' q'=>
    cases q';exact⟨_,_,rfl,p,p'⟩
 refine wpAny_newObj_type ?_ (by show 2<=K?;decide)
 have I2:Inv X pins σ H1 { s1 with heap:=s1.heap.push { cls:=.type "tuple",data:=.seq [u1,u2].toArray } }:=I1.kept (t':=s1.toks) λb o e=>Yh _ e
 rw[hw];refine B? (J? ?_)
 show L? (S? X.prog X.w) X.A (do rule "assign.swapped-stores";let items <- unpackItems (.ref s1.heap.objs.size) 2 q?;assignInOrder [λv=>bindName X.env y v,λv=>bindName X.env x v] items.reverse;pure Flow.next) _ _ _
 refine B? (wpAny_rule (B? (unpackItems_tuple (items:=#[u1,u2]) (I.ok.hd hc) (IsTup.new s1.heap _) λh' hx'=>?_)))
 have I3:=I2.kept (h':=h') (t':=s1.toks) λb o e=>hx' b o (Yq (Yl e)) e
 show L? _ _ (assignInOrder [λv=>bindName X.env y v,λv=>bindName X.env x v] [u2,u1] >>= λ_=>pure Flow.next) _ _ _
 refine B? (assignInOrder_cons (wpAny_bindName (kW I3 hN hj (.inl hy) rw' (λs2 I4=>?_) (.inr hy))))
 refine assignInOrder_cons (wpAny_bindName (kW I4 hN hi (.inl hx) rv (λs3 I5=>assignInOrder_nil (J? ?_)) (.inr hx)))
 rw[List.set_comm _ _ (Ne.symm hij)] at I5;exact⟨_,H1,I5,q1⟩
def UG (i:Nat)(te:TE)(ti:QK):TS:=λD σ H=>∃x,σ[i]?=j? (j? x)/\te σ H λy H1=>ti x y H1 λz H2=>D.nx (σ.set i (j? z)) H2
theorem zD {i:Nat}{x:Str}{e:Expr}{te:TE}{op:Operator}{ti:QK}{pos':Pos}(hN:X.N.Nodup)(hi:X.N[i]?=j? x)(hx:Loc X.env.scope x)(he:PE X e te)(ho:Tw X op ti)(hf:X.fn x=true\/X.env.scope.names.lookup x=j? .local:=by first|exact .inl rfl|exact .inr rfl|assumption):
  PS X (.AugAssign (.Name x pos') op e pos) (UG i te ti):=by
 refine⟨?_⟩
 intro pins s σ H D I h;obtain⟨v,e1,h⟩:=h;obtain⟨m,hn,hl⟩:=I.loc;have vis:QJ X.env.scope x:=by rcases hx with k|k;exact .inl k;exact .inr (.inl k)
 obtain⟨u,r,l⟩:=hl i x v hi e1 vis;refine wpAny_AugAssign_Name ?_
 have go:L? (S? X.prog X.w) X.A (eval e X.env) (λw s₂=>L? (S? X.prog X.w) X.A (inplaceOp op u w) (λr s₃=>L? (S? X.prog X.w) X.A (storeName X.env x r) (λ_=>SP X pins D .next) X.xe s₃) X.xe s₂) X.xe s:=by
  refine eU (he pins s σ H _ I h) λw s1 ⟨y,H1,I1,r1,q1⟩=>?_
  refine eU (ho pins s1 σ H1 v y u w _ I1 r r1 q1) λz s2 ⟨zv,H2,I2,r2,q2⟩=>?_
  exact kW I2 hN hi hx r2 (λs3 I3=>⟨_,H2,I3,q2⟩) hf
 rcases l with ⟨hk,hm⟩|⟨hk,c,hc,hcell⟩
 ·exact wpAny_loadName_local I.ok.kind hk hn hm go
 ·rcases hk with hk|hk
  ·exact wpAny_loadName_cell I.ok.kind hk hc hcell go
  ·rcases hx with k|k
   ·have:X.env.scope.names.lookup x=j? .free:=hk
    rw[k] at this;cases this
   ·have:X.env.scope.names.lookup x=j? .free:=hk
    rw[k] at this;cases this
def Rx (to ti te:TE)(Lx:V->V->Hp->VK->Prop)(Tz:QK)(Ly:Ht):TS:=λD σ H=>to σ H λo H1=>ti σ H1 λi H2=>Lx o i H2 λx H3=>te σ H3 λy H4=>Tz x y H4 λz H5=>Ly o i z H5 λH6=>D.nx σ H6
def Om (X:Cx)(t:V->V->Hp->VK->Prop):Prop:=
 ∀(pins:List (o?×Obj)) (s:u?) (σ:St) (H:Hp) (o i:V) (ov iv:l?) (Q:VK),Inv X pins σ H s->RelV o ov->RelV i iv->t o i H Q->
  L? (S? X.prog X.w) X.A (getItem ov iv) (EP X pins σ Q) X.xe s
theorem EJ {o i e:Expr}{to ti te:TE}{Lx:V->V->Hp->VK->Prop}{Tz:QK}{Ly:Ht}{op:Operator}{tpos:Pos}(ho:PE X o to)(hi:PE X i ti)(hg:Om X Lx)(he:PE X e te)(hp:Tw X op Tz)(hs:Oj X Ly)
  (ha:∀ov iv new,augStore i ov iv new=(do holding [new,ov,iv] (setItem ov iv new);release [new,ov,iv] [];pure .next):=by intros;rfl):PS X (.AugAssign (.Subscript o i tpos) op e pos) (Rx to ti te Lx Tz Ly):=by
 refine⟨?_⟩
 intro pins s σ H D I h;refine wpAny_AugAssign_SubscriptAny (eU (ho pins s σ H _ I h) λov s1 ⟨x1,H1,I1,r1,q1⟩=>?_) ha
 refine eU (hi pins s1 σ H1 _ I1 q1) λiv s2 ⟨x2,H2,I2,r2,q2⟩=>?_
 refine eU (hg pins s2 σ H2 x1 x2 ov iv _ I2 r1 r2 q2) λold s3 ⟨x3,H3,I3,r3,q3⟩=>?_
 refine eU (he pins s3 σ H3 _ I3 q3) λv s4 ⟨x4,H4,I4,r4,q4⟩=>?_
 refine eU (hp pins s4 σ H4 x3 x4 old v _ I4 r3 r4 q4) λnew s5 ⟨x5,H5,I5,r5,q5⟩=>?_
 exact eU (hs pins s5 σ H5 x1 x2 x5 ov iv new _ I5 r1 r2 r5 q5) λ_ s6 ⟨H6,I6,q6⟩=>⟨σ,H6,I6,q6⟩
def Xg (f:Int->Int->Int):QK:=λx y H Q=>∃i j,x=.int i/\y=.int j/\Q (.int (f i j)) H
theorem Oo:Tw X .Add (Xg λi j=>i+j):=by
 intro pins s σ H x y v u Q I r1 r2 h;obtain⟨i,j,e1,e2,q⟩:=h;subst e1;subst e2;obtain⟨t,rfl⟩:=r1;obtain⟨t',rfl⟩:=r2;exact iadd_int ⟨.int _,H,I.tok _,⟨_,rfl⟩,q⟩
theorem Oq:Tw X .Sub (Xg λi j=>i-j):=by
 intro pins s σ H x y v u Q I r1 r2 h;obtain⟨i,j,e1,e2,q⟩:=h;subst e1;subst e2;obtain⟨t,rfl⟩:=r1;obtain⟨t',rfl⟩:=r2;exact isub_int ⟨.int _,H,I.tok _,⟨_,rfl⟩,q⟩
end
section
variable {X:Cx} {pos:Pos}
def C7 (c:TT)(tb:TS):TS:=λD σ H=>∃W:Nat->St->Hp->Prop,(∃m,W m σ H)/\∀m σ H,W m σ H->
 c σ H λb H1=>if b=true then ∃N:St->Hp->Prop,(∀σ' H',N σ' H'->∃m',m'<m/\W m' σ' H')/\tb { D with nx:=N,ct:=N,bk:=D.nx } σ H1 else D.nx σ H1
theorem eV {c:Expr}{body:List Q?}{tc:TT}{tb:TS}(hp:PassesOwn (S? X.prog X.w) X.A X.env X.xe)(hc:PT X c tc)(hb:zB X body tb):PS X (.While c body [] pos) (C7 tc tb):=by
 refine⟨?_⟩
 intro pins s σ H D I h;obtain⟨W,⟨m0,w0⟩,turn⟩:=h;refine wpAny_While (codeAny_whileLoop (λn s'=>∃σ' H',Inv X pins σ' H' s'/\W n σ' H') ?_ m0 ⟨σ,H,I,w0⟩)
 rintro n s1 ⟨σ1,H1,I1,w1⟩;refine wpAny_passesOwn hp (eU (hc pins s1 σ1 H1 _ I1 (turn n σ1 H1 w1)) λb s2 ⟨H2,I2,q2⟩=>?_)
 cases b with
 | true=>
  obtain⟨N,hN,q2⟩:=q2;rw[W9 rfl];refine wpAny_passesOwn hp (eU (hb pins s2 σ1 H2 _ I2 q2) λf s3 q3=>?_)
  cases f with
  | next=>
   obtain⟨σ3,H3,I3,n3⟩:=q3;obtain⟨m',hm,w3⟩:=hN σ3 H3 n3;exact⟨m',hm,σ3,H3,I3,w3⟩
  | cont=>
   obtain⟨σ3,H3,I3,n3⟩:=q3;obtain⟨m',hm,w3⟩:=hN σ3 H3 n3;exact⟨m',hm,σ3,H3,I3,w3⟩
  | brk=>exact q3
  | ret v=>exact q3
 | false=>
  rw[W8 E?];exact wpAny_execs_nil ⟨σ1,H2,I2,q2⟩
end
structure It where
 go:Nat->Hp->Prop
 Ot:Nat->Hp->V->Hp->Prop
 stop:Nat->Hp->Prop
def jZ (X:Cx)(pins:List (o?×Obj))(H:Hp)(b:o?):Prop:=
 H b=q?/\b≠X.env.locals/\b ∉ X.fs/\(b∈X.ex\/X.s₀.heap.objs.size<=b)/\(∀x c,X.env.cells.lookup x=j? c->c≠b)/\∀p∈X.pn++pins,p.1≠b
theorem Inv.u7 {X:Cx}{pins:List (o?×Obj)}{σ:St}{H H':Hp}{s:u?}{b:o?}(I:Inv X pins σ H s)(hb:s.heap.objs.size<=b)(hn:H' b=q?):jZ X pins H' b:=by
 refine⟨hn,Nat.ne_of_gt (Yj I.lt hb),I.Uu hb,.inr (Yn I.sz hb),λx c e z=>?_,λp hp z=>?_⟩
 ·obtain⟨v,q⟩:=I.cell x c e
  exact Jf (Yj q.lt (by rw[z];exact hb)) (Zz _)
 ·exact Jf (Yj (Yl (I.pin p hp).1) (by rw[z];exact hb)) (Zz _)
structure Turn (P:F?)(w:H?)(K:bE)(tg:Expr)(J:It)(fp:List o?)(it:o?)(tn:Nat->O?->Prop):Prop where
 mem:it∈fp
 obj:∀i h,tn i h->∀b∈fp,∃o,h.get? b=j? o/\∀v,o.data≠.cell v
 keep:∀i h h',tn i h->(∀b∈fp,∀o,h.get? b=j? o->h'.get? b=j? o)->tn i h'
 item:∀(X:Cx),X.prog=P->X.w=w->X.K=K->X.calm=true->∀(i:Nat) (pins:List (o?×Obj)) (s:u?) (σ:St) (H:Hp) (E:l?->u?->Prop),Inv X pins σ H s->(∀b∈fp,jZ X pins H b)->tn i s.heap->J.go i H->
  L? (S? P w) X.A (pyNext (.ref it)) (λr s1=>∃u,r=j? u/\
   L? (S? P w) X.A (letOwnedTupleGo tg (.ref it) u) (λ_ s2=>∃x H',Inv X pins σ H' s2/\RelV x u/\J.Ot i H x H'/\tn (i+1) s2.heap/\∀b∈fp,H' b=q?) E s1) E s
 done:∀(X:Cx),X.prog=P->X.w=w->X.K=K->X.calm=true->∀(i:Nat) (pins:List (o?×Obj)) (s:u?) (σ:St) (H:Hp) (E:l?->u?->Prop),Inv X pins σ H s->(∀b∈fp,jZ X pins H b)->tn i s.heap->J.stop i H->
  L? (S? P w) X.A (pyNext (.ref it)) (λr s1=>r=q?/\Inv X pins σ H s1) E s
 self:∀(A:A!) (i:Nat) (s:u?) (Q:l?->u?->Prop) (E:l?->u?->Prop),tn i s.heap->Q (.ref it) s->L? (S? P w) A (pyIter (.ref it)) Q E s
abbrev TI:=St->Hp->(It->Hp->Prop)->Prop
def Xh (X:Cx)(pins:List (o?×Obj))(σ:St)(tg:Expr)(R:It->Hp->Prop)(itv:l?)(s2:u?):Prop:=
 ∃(it:o?) (fp:List o?) (tn:Nat->O?->Prop) (J:It) (H':Hp),itv=.ref it/\Inv X pins σ H' s2/\Turn X.prog X.w X.K tg J fp it tn/\tn 0 s2.heap/\(∀b∈fp,jZ X pins H' b)/\R J H'
def PI (X:Cx)(tg iter:Expr)(wi:TI):Prop:=
 ∀(pins:List (o?×Obj)) (s:u?) (σ:St) (H:Hp) (R:It->Hp->Prop),Inv X pins σ H s->wi σ H R->
  L? (S? X.prog X.w) X.A (eval iter X.env) (λv s1=>L? (S? X.prog X.w) X.A (pyIter v) (Xh X pins σ tg R) X.xe s1) X.xe s
theorem Hv {M:Model}{A:A!}{E:l?->u?->Prop}{s:u?}{tg:Expr}{it:o?}{u:l?}{o:Obj}{n:String}{vs:Array l?}{Q:Unit->u?->Prop}(ho:s.heap.get? it=j? o)(hc:o.cls=.type n)(hd:o.data=.fields vs)
    (hn:["enumerate","zip","dict_itemiterator","dict_reverseitemiterator","odict_iterator","itertools.zip_longest","itertools.pairwise"].contains n=false) (hQ:Q () s):L? M A (letOwnedTupleGo tg (.ref it) u) Q E s:=by
  unfold letOwnedTupleGo;cases tg <;> first
    | exact J? hQ
    | (cases u <;> first
        | exact J? hQ
        | (refine B? (wpAny_load ho ?_)
           rw[hc,hd];show L? M A (if (["enumerate","zip","dict_itemiterator","dict_reverseitemiterator","odict_iterator","itertools.zip_longest","itertools.pairwise"].contains n && vs[0]? == j? (rawInt _))=true then _ else _) Q E s
           rw[W8 (by intro h;rw[hn,Bool.false_and] at h;cases h)]
           exact J? hQ))
def Ou (K:bE)(a:o?):It:=
 ⟨λi H=>∃xs x,aP K H a xs/\xs[i]?=j? x,λi H x H'=>H'=H/\∀xs,aP K H a xs->xs[i]?=j? x,λi H=>∃xs,aP K H a xs/\xs.length<=i⟩
def Lz (lo:Int)(n:Nat):It:=⟨λi _=>i<n,λi H x H'=>H'=H/\x=.int (lo+i),λi _=>n<=i⟩
theorem FZ {P:F?}{w:H?}{K:bE}{tg:Expr}(a it:o?):Turn P w K tg (Ou K a) [it] it (λi h=>h.IsListIter it a i) where
 mem:=by simp
 obj:=λi h st b hb=>by
  have e:b=it:=by simpa using hb
  subst e;obtain⟨o,e,c,d⟩:=st;exact⟨o,e,λv z=>by rw[d] at z;cases z⟩
 keep:=λi h h' st k=>st.at λo e=>k it (by simp) o e
 item:=by
  intro X hP hw hK hc i pins s σ H E I hf st hg;subst hP hw hK;obtain⟨xs,x,hq,hx⟩:=hg;obtain⟨its,rv,p,hz⟩:=I.list hq;obtain⟨u,hu,ru⟩:=rv.get hx;obtain⟨f0,f1,f2,f3,f4,f5⟩:=hf it (by simp)
  refine wpAny_pyNext_list_item st p.isList (x:=u) (by simpa using hu) λh' st' sb=>?_
  have I1:Inv X pins σ H { s with heap:=h' }:=I.turned (t':=s.toks) (λb o hb e=>(sb.2 b hb).trans e) f0 f1 f3 f4 f5
  obtain⟨o,e,c,d⟩:=id st';exact⟨u,rfl,Hv (s:={ s with heap:=h' }) e c d (by decide) ⟨x,H,I1,ru,⟨rfl,λys hy=>by rw[I.rP hy hq];exact hx⟩,st',λb hb=>(hf b hb).1⟩⟩
 done:=by
  intro X hP hw hK hc i pins s σ H E I hf st hg;subst hP hw hK;obtain⟨xs,hq,hx⟩:=hg;obtain⟨its,rv,p,hz⟩:=I.list hq;obtain⟨f0,f1,f2,f3,f4,f5⟩:=hf it (by simp)
  have hl:=rv.length;exact wpAny_pyNext_list_end (I.ok.hd hc) st p.isList (by simp;omega) λh' eb=>⟨rfl,I.turned (t':=s.toks) (λb o hb e=>eb b o hb e) f0 f1 f3 f4 f5⟩
 self:=λ_ _ _ _ _ st h=>wpAny_pyIter_listiter st h
theorem C8 {P:F?}{w:H?}{K:bE}{tg:Expr}(it:o?)(lo:Int)(n:Nat):Turn P w K tg (Lz lo n) [it] it (λi h=>IsRangeIter h it (lo+(i:Nat)*1) ((n:Int)-(i:Nat)) 1) where
 mem:=by simp
 obj:=λi h st b hb=>by
  have e:b=it:=by simpa using hb
  subst e;exact⟨_,st,λv z=>by
   have z':Data.fields _=Data.cell v:=z;cases z'⟩
 keep:=λi h h' st k=>k it (by simp) _ st
 item:=by
  intro X hP hw hK hc i pins s σ H E I hf st hg;subst hP hw hK;obtain⟨f0,f1,f2,f3,f4,f5⟩:=hf it (by simp)
  have W:=Walks.range (prog:=X.prog) (w:=X.w) (I.ok.hd hc) it lo 1 n;refine W.item i s _ _ hg st λv h' tk hv st' kk=>?_
  obtain⟨t,rfl⟩:=hv;have I1:Inv X pins σ H { s with heap:=h',toks:=tk }:=I.turned (λb o hb e=>kk b o (by simpa using hb) e) f0 f1 f3 f4 f5
  refine⟨_,rfl,Hv (s:={ s with heap:=h',toks:=tk }) (n:="range_iterator") st' rfl rfl (by decide) ⟨.int (lo+i),H,I1,⟨t,?_⟩,⟨rfl,rfl⟩,st',λb hb=>(hf b hb).1⟩⟩
  rw[Wx]
 done:=by
  intro X hP hw hK hc i pins s σ H E I hf st hg;subst hP hw hK;obtain⟨f0,f1,f2,f3,f4,f5⟩:=hf it (by simp)
  exact wpAny_pyNext_range_end (I.ok.hd hc) st (by have:n<=i:=hg;omega) λh' eb=>⟨rfl,I.turned (t':=s.toks) (λb o hb e=>eb b o hb e) f0 f1 f3 f4 f5⟩
 self:=λ_ _ _ _ _ st h=>wpAny_pyIter_rangeiter st h
section
variable {X:Cx} {tg:Expr}
def Na (K:bE)(tl:TE):TI:=λσ H R=>tl σ H λx H1=>∃a,x=.ref a/\(∃xs,aP K H1 a xs)/\R (Ou K a) H1
theorem LA {l:Expr}{tl:TE}(hl:PE X l tl):PI X tg l (Na X.K tl):=by
 intro pins s σ H R I h;refine eU (hl pins s σ H _ I h) λv s1 ⟨x,H1,I1,r1,q1⟩=>?_
 obtain⟨a,e,⟨xs,hq⟩,q⟩:=q1;subst e;cases r1;obtain⟨its,rv,p,hz⟩:=I1.list hq;refine wpAny_pyIter_list p.isList ?_
 refine⟨s1.heap.objs.size,[s1.heap.objs.size],_,_,H1,rfl,I1.kept (t':=s1.toks) λb o e=>Yh _ e,FZ a _,⟨_,Yv _ rfl,rfl,rfl⟩,λb hb=>?_,q⟩
 have e:b=s1.heap.objs.size:=by simpa using hb
 subst e;exact I1.u7 (Yd _) (I1.hok.fresh (Yd _))
theorem A6 {pins:List (o?×Obj)}{σ:St}{H:Hp}{s:u?}{R:It->Hp->Prop}{E:l?->u?->Prop}{lo hi:Int}{t u v:Tok}{tk:Nat}(I:Inv X pins σ H s)(h1:-(2 ^ 62)<=lo)(h2:lo<2 ^ 62)(h3:-(2 ^ 62)<=hi)(h4:hi<2 ^ 62)
  (q:R (Lz lo (hi-lo).toNat) H):L? (S? X.prog X.w) X.A (pyIter (.ref s.heap.objs.size)) (Xh X pins σ tg R) E { s with heap:=s.heap.push { cls:=.type "range",data:=.fields #[.int lo t,.int hi u,.int 1 v] },toks:=tk }:=by
 refine wpAny_pyIter_range (IsRange.new ..) (small_one h1 h2 h3 h4) ?_
 have I1:Inv X pins σ H { s with heap:=s.heap.push { cls:=.type "range",data:=.fields #[.int lo t,.int hi u,.int 1 v] },toks:=tk }:=I.kept λb o e=>Yh _ e
 refine⟨(s.heap.push { cls:=.type "range",data:=.fields #[.int lo t,.int hi u,.int 1 v] }).objs.size,[(s.heap.push { cls:=.type "range",data:=.fields #[.int lo t,.int hi u,.int 1 v] }).objs.size],_,_,H,rfl,
  I1.kept (t':=tk) λb o e=>Yh _ e,C8 _ lo (hi-lo).toNat,?_,λb hb=>?_,q⟩
 ·have e1:lo+((0:Nat):Int)*1=lo:=by simp
  have e2:(((hi-lo).toNat:Nat):Int)-((0:Nat):Int)=Builtin.Range.rangeSize lo hi 1:=by rw[rangeSize_one];split <;> omega
  show IsRangeIter _ _ (lo+((0:Nat):Int)*1) ((((hi-lo).toNat:Nat):Int)-((0:Nat):Int)) 1
  rw[e1,e2];exact Yv _ rfl
 ·have e:b=(s.heap.push { cls:=.type "range",data:=.fields #[.int lo t,.int hi u,.int 1 v] }).objs.size:=by simpa using hb
  subst e;exact I1.u7 (Yd _) (I1.hok.fresh (Yd _))
def Ry (ta:TA):TI:=λσ H R=>ta σ H λvs H1=>∃j:Int,vs=[.int j]/\-(2 ^ 62)<=j/\j<2 ^ 62/\R (Lz 0 j.toNat) H1
def RA (ta:TA):TI:=λσ H R=>ta σ H λvs H1=>∃i j:Int,vs=[.int i,.int j]/\(-(2 ^ 62)<=i/\i<2 ^ 62/\-(2 ^ 62)<=j/\j<2 ^ 62)/\R (Lz i (j-i).toNat) H1
theorem bN {a:Expr}{ta:TA}{p pos:Pos}(hg:Gl X "range")(hm:X.mg "range"=q?)(ha:PA X [a] ta)(hs:I? [a] X.env=[(false,eval a X.env)]:=by rfl):PI X tg (.Call (.Name "range" p) [a] [] pos) (Ry ta):=by
 intro pins s σ H R I h;refine Call_ (jC I hg hm boot_range (M! (eU (ha pos pins s σ H _ I h) λus s1 ⟨vs,H1,I1,r1,q1⟩=>?_) hs rfl))
 obtain⟨j,e,q1,q2,q⟩:=q1;subst e;cases r1 with
 | cons r rr=>
  cases rr;obtain⟨t,rfl⟩:=r;exact call_range_1 (A6 I1 (by omega) (by omega) q1 q2 (by simpa using q))
theorem tM {a b:Expr}{ta:TA}{p pos:Pos}(hg:Gl X "range")(hm:X.mg "range"=q?)(ha:PA X [a,b] ta)(hs:I? [a,b] X.env=[(false,eval a X.env),(false,eval b X.env)]:=by rfl)(hs2:I? [b] X.env=[(false,eval b X.env)]:=by rfl):
  PI X tg (.Call (.Name "range" p) [a,b] [] pos) (RA ta):=by
 intro pins s σ H R I h;refine Call_ (jC I hg hm boot_range (M! (eU (ha pos pins s σ H _ I h) λus s1 ⟨vs,H1,I1,r1,q1⟩=>?_) (by rw[hs,hs2]) (by rw[hs2];rfl)))
 obtain⟨i,j,e,⟨q1,q2,q3,q4⟩,q⟩:=q1;subst e;cases r1 with
 | cons r rr=>
  cases rr with
  | cons r' rr=>
   cases rr;obtain⟨t,rfl⟩:=r;obtain⟨t',rfl⟩:=r';exact call_range_2 (A6 I1 q1 q2 q3 q4 q)
def UH (wi:TI)(g:TG)(tb:TS):TS:=λD σ H=>wi σ H λJ H1=>∃W:Nat->Nat->St->Hp->Prop,(∃m,W 0 m σ H1)/\∀i m σ H,W i m σ H->
 (J.stop i H/\D.nx σ H)\/(J.go i H/\∃N:St->Hp->Prop,(∀σ' H',N σ' H'->∃m',m'<m/\W (i+1) m' σ' H')/\∀x H',J.Ot i H x H'->g x σ H' λσ2 H2=>tb { D with nx:=N,ct:=N,bk:=D.nx } σ2 H2)
def tN (fp:List o?)(h:O?):List (o?×Obj):=fp.filterMap λb=>(h.get? b).map λo=>(b,o)
theorem fm {fp:List o?}{h:O?}{b:o?}{o:Obj}(hb:b∈fp)(e:h.get? b=j? o):(b,o)∈tN fp h:=List.mem_filterMap.mpr ⟨b,hb,by rw[e];rfl⟩
theorem F0 {fp:List o?}{h:O?}{p:o?×Obj}(hp:p∈tN fp h):p.1∈fp/\h.get? p.1=j? p.2:=by
 obtain⟨b,hb,e⟩:=List.mem_filterMap.mp hp;cases q:h.get? b with
 | none=>rw[q] at e;cases e
 | some o=>
  rw[q] at e;have e':(b,o)=p:=M? e;subst e';exact⟨hb,q⟩
theorem Inv.pinned {pins:List (o?×Obj)}{σ:St}{H:Hp}{s:u?}{fp:List o?}(I:Inv X pins σ H s)(hf:∀b∈fp,jZ X pins H b)(ho:∀b∈fp,∃o,s.heap.get? b=j? o/\∀v,o.data≠.cell v):Inv X (pins++tN fp s.heap) σ H s:=
 I.EG λp hp=>(List.mem_append.mp hp).elim (λz=>I.pin p (Yu _ z)) λz=>by
  obtain⟨hb,e⟩:=F0 z;obtain⟨f0,f1,f2,_⟩:=hf p.1 hb;obtain⟨o,e',d⟩:=ho p.1 hb;rw[e] at e';cases e';exact⟨e,f0,f1,f2,d⟩
theorem Inv.kX {pins pl:List (o?×Obj)}{σ:St}{H:Hp}{s:u?}(I:Inv X (pins++pl) σ H s):Inv X pins σ H s:=I.EG λp hp=>I.pin p (Yu _ (List.mem_append_left _ hp))
theorem cD {iter:Expr}{body:List Q?}{wi:TI}{g:TG}{tb:TS}{pos:Pos}(hp:PassesOwn (S? X.prog X.w) X.A X.env X.xe)(hc:X.calm=true)(hi:PI X tg iter wi)(hg:PG X tg g)(hb:zB X body tb)
  (hs:∀x,foldedSetIterable iter X.env x=pure x:=by intro _;rfl):PS X (.For tg iter body [] pos) (UH wi g tb):=by
 refine⟨?_⟩
 intro pins s σ H D I h;refine wpAny_For (eU (hi pins s σ H _ I h) λv s1 h1=>eU h1 λitv s2 h2=>?_) hs
 obtain⟨it,fp,tn,J,H2,e,I2,T,st2,f2,W,⟨m0,w0⟩,turn⟩:=h2;subst e;have vZ:∀ {H':Hp},(∀b∈fp,H' b=q?)->∀b∈fp,jZ X pins H' b:=λhn b hb=>⟨hn b hb,(f2 b hb).2⟩
 refine codeAny_forLoop_any (λn s'=>∃i σ' H',Inv X pins σ' H' s'/\tn i s'.heap/\(∀b∈fp,H' b=q?)/\W i n σ' H') ?_ m0 ⟨0,σ,H2,I2,st2,λb hb=>(f2 b hb).1,w0⟩
 rintro n s3 ⟨i,σ3,H3,I3,st3,Nb,w3⟩;rcases turn i n σ3 H3 w3 with ⟨stop,qn⟩|⟨go,N,hN,step⟩
 ·refine wpAny_passesOwn hp (eU (T.done X rfl rfl rfl hc i pins s3 σ3 H3 X.xe I3 (vZ Nb) st3 stop) λr s4 ⟨hr,I4⟩=>?_)
  subst hr;exact wpAny_execs_nil ⟨σ3,H3,I4,qn⟩
 ·refine wpAny_passesOwn hp (eU (T.item X rfl rfl rfl hc i pins s3 σ3 H3 X.xe I3 (vZ Nb) st3 go) λr s4 ⟨u,hr,h4⟩=>?_)
  subst hr;refine wpAny_passesOwn hp (eU h4 λ_ s5 ⟨x,H5,I5,r5,y5,Hw,RB⟩=>?_)
  have RC:=I5.pinned (vZ RB) (T.obj _ _ Hw);refine wpAny_passesOwn hp (eU (hg _ s5 σ3 H5 x u _ RC r5 (step x H5 y5)) λ_ s6 ⟨σ6,H6,I6,q6⟩=>?_)
  refine wpAny_passesOwn hp (eU (hb _ s6 σ6 H6 _ I6 q6) λf s7 q7=>?_)
  have again:∀ {σ7:St} {H7:Hp},Inv X (pins++tN fp s5.heap) σ7 H7 s7->N σ7 H7->∃m,m<n/\∃i σ' H',Inv X pins σ' H' s7/\tn i s7.heap/\(∀b∈fp,H' b=q?)/\W i m σ' H':=λ{σ7 H7} I7 n7=>by
   obtain⟨m',hm,w7⟩:=hN σ7 H7 n7;refine⟨m',hm,i+1,σ7,H7,I7.kX,T.keep _ _ _ Hw λb hb o e=>(I7.pin (b,o) (Yu _ (Yu _ (fm hb e)))).1,λb hb=>?_,w7⟩
   obtain⟨o,e,d⟩:=T.obj _ _ Hw b hb;exact(I7.pin (b,o) (Yu _ (Yu _ (fm hb e)))).2.1
  cases f with
  | next=>obtain⟨σ7,H7,I7,n7⟩:=q7;exact again I7 n7
  | cont=>obtain⟨σ7,H7,I7,n7⟩:=q7;exact again I7 n7
  | brk=>obtain⟨σ7,H7,I7,q7⟩:=q7;exact⟨σ7,H7,I7.kX,q7⟩
  | ret v=>obtain⟨x7,σ7,H7,I7,r7,q7⟩:=q7;exact⟨x7,σ7,H7,I7.kX,r7,q7⟩
end
theorem jD {K:bE}{a:o?}{xs:List V}{g:TG}{tb:TS}{D:Ends}{σ:St}{H:Hp}(Pv:Nat->St->Hp->Prop)(h0:Pv 0 σ H)(hl:∀i σ H,i<=xs.length->Pv i σ H->aP K H a xs)
  (hs:∀i x σ H,xs[i]?=j? x->Pv i σ H->g x σ H λσ2 H2=>tb { D with nx:=Pv (i+1),ct:=Pv (i+1),bk:=D.nx } σ2 H2) (hd:∀σ H,Pv xs.length σ H->D.nx σ H):
  ∃W:Nat->Nat->St->Hp->Prop,(∃m,W 0 m σ H)/\∀i m σ H,W i m σ H->
   ((Ou K a).stop i H/\D.nx σ H)\/((Ou K a).go i H/\∃N:St->Hp->Prop,(∀σ' H',N σ' H'->∃m',m'<m/\W (i+1) m' σ' H')/\∀x H',(Ou K a).Ot i H x H'->g x σ H' λσ2 H2=>tb { D with nx:=N,ct:=N,bk:=D.nx } σ2 H2):=by
 refine⟨λi m σ H=>m=xs.length-i/\i<=xs.length/\Pv i σ H,⟨xs.length,by simp,Y1 _,h0⟩,?_⟩
 rintro i m σ H ⟨rfl,hi,p⟩;have q:=hl i σ H hi p;by_cases hlt:i<xs.length
 ·refine .inr ⟨⟨xs,xs[i],q,by simp[hlt]⟩,Pv (i+1),λσ' H' p'=>⟨xs.length-(i+1),by omega,rfl,hlt,p'⟩,λx H' y=>?_⟩
  obtain⟨e,y⟩:=y;subst e;exact hs i x σ _ (y xs q) p
 ·have e:i=xs.length:=by omega
  subst e;exact .inl ⟨⟨xs,q,Yd _⟩,hd σ H p⟩
theorem cH {lo:Int}{n:Nat}{g:TG}{tb:TS}{D:Ends}{σ:St}{H:Hp}(Pv:Nat->St->Hp->Prop)(h0:Pv 0 σ H)
  (hs:∀i σ H,i<n->Pv i σ H->g (.int (lo+i)) σ H λσ2 H2=>tb { D with nx:=Pv (i+1),ct:=Pv (i+1),bk:=D.nx } σ2 H2) (hd:∀σ H,Pv n σ H->D.nx σ H):
  ∃W:Nat->Nat->St->Hp->Prop,(∃m,W 0 m σ H)/\∀i m σ H,W i m σ H->
   ((Lz lo n).stop i H/\D.nx σ H)\/((Lz lo n).go i H/\∃N:St->Hp->Prop,(∀σ' H',N σ' H'->∃m',m'<m/\W (i+1) m' σ' H')/\∀x H',(Lz lo n).Ot i H x H'->g x σ H' λσ2 H2=>tb { D with nx:=N,ct:=N,bk:=D.nx } σ2 H2):=by
 refine⟨λi m σ H=>m=n-i/\i<=n/\Pv i σ H,⟨n,by simp,Y1 _,h0⟩,?_⟩
 rintro i m σ H ⟨rfl,hi,p⟩;by_cases hlt:i<n
 ·refine .inr ⟨hlt,Pv (i+1),λσ' H' p'=>⟨n-(i+1),by omega,rfl,hlt,p'⟩,λx H' y=>?_⟩
  obtain⟨e,y⟩:=y;subst e y;exact hs i σ _ hlt p
 ·have e:i=n:=by omega
  subst e;exact .inl ⟨Yd _,hd σ H p⟩
theorem nE {c:TT}{tb:TS}{D:Ends}{σ:St}{H:Hp}(Pv:St->Hp->Prop)(μ:St->Hp->Nat)(h0:Pv σ H)
  (hs:∀σ H,Pv σ H->c σ H λb H1=>if b=true then tb { D with nx:=λσ' H'=>Pv σ' H'/\μ σ' H'<μ σ H,ct:=λσ' H'=>Pv σ' H'/\μ σ' H'<μ σ H,bk:=D.nx } σ H1 else D.nx σ H1)
  (mono:∀σ H Q Q',(∀b H1,Q b H1->Q' b H1)->c σ H Q->c σ H Q'):C7 c tb D σ H:=by
 refine⟨λm σ H=>m=μ σ H/\Pv σ H,⟨_,rfl,h0⟩,?_⟩
 rintro m σ H ⟨rfl,p⟩;refine mono σ H _ _ (λb H1 q=>?_) (hs σ H p)
 cases b with
 | true=>exact⟨_,λσ' H' ⟨p',l⟩=>⟨_,l,rfl,p'⟩,q⟩
 | false=>exact q
abbrev R2:=V->V->Hp->VK->Prop
def qc (X:Cx)(f:l?->l?->Sem l?)(r:R2):Prop:=
 ∀(pins:List (o?×Obj)) (s:u?) (σ:St) (H:Hp) (x y:V) (v u:l?) (Q:VK),Inv X pins σ H s->RelV x v->RelV y u->r x y H Q->
  L? (S? X.prog X.w) X.A (f v u) (EP X pins σ Q) X.xe s
def UI (X:Cx)(f:l?->Sem l?)(r:V->Hp->VK->Prop):Prop:=
 ∀(pins:List (o?×Obj)) (s:u?) (σ:St) (H:Hp) (x:V) (v:l?) (Q:VK),Inv X pins σ H s->RelV x v->r x H Q->
  L? (S? X.prog X.w) X.A (f v) (EP X pins σ Q) X.xe s
def ir (X:Cx)(f:l?)(r:List V->Hp->VK->Prop):Prop:=
 ∀(pins:List (o?×Obj)) (s:u?) (σ:St) (H:Hp) (xs:List V) (us:List l?) (Q:VK),Inv X pins σ H s->Vals xs us->r xs H Q->
  L? (S? X.prog X.w) X.A (call f us) (EP X pins σ Q) X.xe s
def TF (r:R2)(ta tb:TE):TE:=λσ H Q=>ta σ H λx H1=>tb σ H1 λy H2=>r x y H2 Q
def tUn (r:V->Hp->VK->Prop)(ta:TE):TE:=λσ H Q=>ta σ H λx H1=>r x H1 Q
def rI (C:Int->Int->Prop)(g:Int->Int->V):R2:=λx y H Q=>∃i j,x=.int i/\y=.int j/\C i j/\Q (g i j) H
def Lc (g:Int->Int->V):R2:=λx y H Q=>∃i j,x=.int i/\y=.int j/\Q (g i j) H
def rU (g:Int->V):V->Hp->VK->Prop:=λx H Q=>∃i,x=.int i/\Q (g i) H
section
variable {X:Cx} {a b c:Expr} {ta tb tc:TE} {pos:Pos}
theorem Ov (ha:PE X a ta)(hb:PE X b tb){pins:List (o?×Obj)}{s:u?}{σ:St}{H:Hp}{R:V->V->Hp->Prop}(I:Inv X pins σ H s)
  (h:ta σ H λx H1=>tb σ H1 λy H2=>R x y H2) {Q:l?->u?->Prop} {f:l?->l?->Sem l?}
  (hf:∀v u s2 x y H2,Inv X pins σ H2 s2->RelV x v->RelV y u->R x y H2->L? (S? X.prog X.w) X.A (f v u) Q X.xe s2):
  L? (S? X.prog X.w) X.A (eval a X.env) (λv s₁=>L? (S? X.prog X.w) X.A (eval b X.env) (λu s₂=>L? (S? X.prog X.w) X.A (f v u) Q X.xe s₂) X.xe s₁) X.xe s:=by
 refine eU (ha pins s σ H _ I h) λv s1 ⟨x,H1,I1,r1,q1⟩=>?_
 refine eU (hb pins s1 σ H1 _ I1 q1) λu s2 ⟨y,H2,I2,r2,q2⟩=>?_
 exact hf v u s2 x y H2 I2 r1 r2 q2
theorem av {op:Operator}{r:R2}(ho:qc X (binaryOp op) r)(ha:PE X a ta)(hb:PE X b tb):PE X (.BinOp a op b pos) (TF r ta tb):=by
 refine⟨?_⟩
 intro pins s σ H Q I h;exact wpAny_BinOp (Ov ha hb I h λv u s2 x y H2 I2 rx ry q=>ho pins s2 σ H2 x y v u Q I2 rx ry q)
theorem ni {op:UnaryOp}{r:V->Hp->VK->Prop}(ho:UI X (unaryOp op) r)(ha:PE X a ta):PE X (.UnaryOp op a pos) (tUn r ta):=by
 refine⟨?_⟩
 intro pins s σ H Q I h;exact UnaryOp_ (eU (ha pins s σ H _ I h) λv s1 ⟨x,H1,I1,r1,q1⟩=>ho pins s1 σ H1 x v Q I1 r1 q1)
theorem TH {f:l?->l?->Sem l?}{C:Int->Int->Prop}{g:Int->Int->Int}
  (rule:∀(i j:Int) (t u:Tok) (s:u?) (Q:l?->u?->Prop) (E:l?->u?->Prop),C i j->Q (.int (g i j) s.toks) { s with toks:=s.toks+1 }->L? (S? X.prog X.w) X.A (f (.int i t) (.int j u)) Q E s):
  qc X f (rI C λi j=>.int (g i j)):=by
 intro pins s σ H x y v u Q I rx ry h;obtain⟨i,j,rfl,rfl,hc,q⟩:=h;obtain⟨t,rfl⟩:=rx;obtain⟨t',rfl⟩:=ry;exact rule i j t t' s _ _ hc ⟨.int (g i j),H,I.tok _,⟨_,rfl⟩,q⟩
theorem LB {f:l?->l?->Sem l?}{g:Int->Int->Int}
  (rule:∀(i j:Int) (t u:Tok) (s:u?) (Q:l?->u?->Prop) (E:l?->u?->Prop),Q (.int (g i j) s.toks) { s with toks:=s.toks+1 }->L? (S? X.prog X.w) X.A (f (.int i t) (.int j u)) Q E s):
  qc X f (Lc λi j=>.int (g i j)):=by
 intro pins s σ H x y v u Q I rx ry h;obtain⟨i,j,rfl,rfl,q⟩:=h;obtain⟨t,rfl⟩:=rx;obtain⟨t',rfl⟩:=ry;exact rule i j t t' s _ _ ⟨.int (g i j),H,I.tok _,⟨_,rfl⟩,q⟩
theorem LC {f:l?->l?->Sem l?}{g:Int->Int->Bool}
  (rule:∀(i j:Int) (t u:Tok) (s:u?) (Q:l?->u?->Prop) (E:l?->u?->Prop),Q (.bool (g i j)) s->L? (S? X.prog X.w) X.A (f (.int i t) (.int j u)) Q E s):
  qc X f (Lc λi j=>.bl (g i j)):=by
 intro pins s σ H x y v u Q I rx ry h;obtain⟨i,j,rfl,rfl,q⟩:=h;obtain⟨t,rfl⟩:=rx;obtain⟨t',rfl⟩:=ry;exact rule i j t t' s _ _ ⟨.bl (g i j),H,I,rfl,q⟩
def Ow (i j:Int):Prop:=0<=j/\j<=1000000/\i.natAbs<2 ^ 64
theorem b9:qc X (binaryOp .Add) (Lc λi j=>.int (i+j)):=LB λ_ _ _ _ _ _ _ q=>add_int q
theorem bO:qc X (binaryOp .Sub) (Lc λi j=>.int (i-j)):=LB λ_ _ _ _ _ _ _ q=>sub_int q
theorem bK:qc X (binaryOp .Mod) (rI (λ_ j=>j≠0) λi j=>.int (i.fmod j)):=TH λ_ _ _ _ _ _ _ hc q=>mod_int' hc q
theorem zE:qc X (binaryOp .Pow) (rI Ow λi j=>.int (i ^ j.toNat)):=TH λ_ _ _ _ _ _ _ hc q=>pow_int_small hc.1 hc.2.1 hc.2.2 q
theorem zF:qc X (inplaceOp .Add) (Lc λi j=>.int (i+j)):=LB λ_ _ _ _ _ _ _ q=>iadd_int q
theorem LD:qc X (inplaceOp .Sub) (Lc λi j=>.int (i-j)):=LB λ_ _ _ _ _ _ _ q=>isub_int q
theorem unI {f:l?->Sem l?}{g:Int->Int}
  (rule:∀(i:Int) (t:Tok) (s:u?) (Q:l?->u?->Prop) (E:l?->u?->Prop),Q (.int (g i) s.toks) { s with toks:=s.toks+1 }->L? (S? X.prog X.w) X.A (f (.int i t)) Q E s):
  UI X f (rU λi=>.int (g i)):=by
 intro pins s σ H x v Q I rx h;obtain⟨i,rfl,q⟩:=h;obtain⟨t,rfl⟩:=rx;exact rule i t s _ _ ⟨.int (g i),H,I.tok _,⟨_,rfl⟩,q⟩
theorem i7:UI X (unaryOp .USub) (rU λi=>.int (-i)):=unI λ_ _ _ _ _ q=>neg_int q
end
def Ox:V->V->Bool
 | .eZ,.eZ=>true | .eZ,.int _=>true | .int _,.eZ=>true | .eZ,.bl _=>true | .bl _,.eZ=>true | .eZ,.str _=>true | .str _,.eZ=>true
 | .int _,.int _=>true | .bl _,.bl _=>true | .str _,.str _=>true | .byt _,.byt _=>true
 | .int _,.str _=>true | .str _,.int _=>true | .bl _,.str _=>true | .str _,.bl _=>true
 | _,_=>false
def rEq:R2:=λx y H Q=>Ox x y=true/\Q (.bl (decide (x=y))) H
def rNe:R2:=λx y H Q=>Ox x y=true/\Q (.bl (!decide (x=y))) H
theorem EK {i j:Int}:decide (V.int i=V.int j)=(i == j):=by
 rw[Bool.eq_iff_iff];simp
theorem Hx {i j:Bool}:decide (V.bl i=V.bl j)=(i == j):=by
 rw[Bool.eq_iff_iff];simp
theorem EL {i j:Str}:decide (V.str i=V.str j)=(i == j):=by
 rw[Bool.eq_iff_iff];simp
theorem EM {i j:Array UInt8}:decide (V.byt i=V.byt j)=(i.toList == j.toList):=by
 rw[Bool.eq_iff_iff];cases i;cases j;simp
section
variable {X:Cx} {a b c:Expr} {ta tb tc:TE} {pos:Pos}
theorem cE {pins:List (o?×Obj)}{σ:St}{H:Hp}{s:u?}{Q:VK}{k k':Bool}(I:Inv X pins σ H s)(q:Q (.bl k) H)(e:k=k'):EP X pins σ Q (.bool k') s:=by
 subst e;exact⟨.bl k,H,I,rfl,q⟩
theorem iV:qc X (K! .Eq) rEq:=by
 intro pins s σ H x y v u Q I rx ry h;obtain⟨hs,q⟩:=h;cases x with
 | eZ=>
  cases rx;cases y with
  | eZ=>cases ry;exact PySem.EqNone.eq_none_none (cE I q (by simp))
  | bl j=>cases ry;exact PySem.EqNone.eq_none_bool (cE I q (by simp))
  | int j=>obtain⟨t',rfl⟩:=ry;exact PySem.EqNone.eq_none_int (cE I q (by simp))
  | str j=>obtain⟨t',rfl⟩:=ry;exact PySem.EqNone.eq_none_str (cE I q (by simp))
  | _=>exact Jf (show false=true from hs) E?
 | bl i=>
  cases rx;cases y with
  | eZ=>cases ry;exact PySem.EqNone.eq_bool_none (cE I q (by simp))
  | bl j=>cases ry;exact eq_bool (cE I q Hx)
  | str j=>obtain⟨t',rfl⟩:=ry;exact PySem.EqMixed.eq_bool_str (cE I q (by simp))
  | _=>exact Jf (show false=true from hs) E?
 | int i=>
  obtain⟨t,rfl⟩:=rx;cases y with
  | eZ=>cases ry;exact PySem.EqNone.eq_int_none (cE I q (by simp))
  | int j=>obtain⟨t',rfl⟩:=ry;exact eq_int (cE I q EK)
  | str j=>obtain⟨t',rfl⟩:=ry;exact PySem.EqMixed.eq_int_str (cE I q (by simp))
  | _=>exact Jf (show false=true from hs) E?
 | str i=>
  obtain⟨t,rfl⟩:=rx;cases y with
  | eZ=>cases ry;exact PySem.EqNone.eq_str_none (cE I q (by simp))
  | bl j=>cases ry;exact PySem.EqMixed.eq_str_bool (cE I q (by simp))
  | int j=>obtain⟨t',rfl⟩:=ry;exact PySem.EqMixed.eq_str_int (cE I q (by simp))
  | str j=>obtain⟨t',rfl⟩:=ry;exact eq_str (cE I q EL)
  | _=>exact Jf (show false=true from hs) E?
 | byt i=>
  obtain⟨t,rfl⟩:=rx;cases y with
  | byt j=>obtain⟨t',rfl⟩:=ry;exact PySem.W.eq_bytes (cE I q EM)
  | _=>exact Jf (show false=true from hs) E?
 | _=>cases y <;> exact Jf (show false=true from hs) E?
theorem kY:qc X (K! .NotEq) rNe:=by
 intro pins s σ H x y v u Q I rx ry h;obtain⟨hs,q⟩:=h;cases x with
 | eZ=>
  cases rx;cases y with
  | eZ=>cases ry;exact PySem.EqNone.ne_none_none (cE I q (by simp))
  | bl j=>cases ry;exact PySem.EqNone.ne_none_bool (cE I q (by simp))
  | int j=>obtain⟨t',rfl⟩:=ry;exact PySem.EqNone.ne_none_int (cE I q (by simp))
  | str j=>obtain⟨t',rfl⟩:=ry;exact PySem.EqNone.ne_none_str (cE I q (by simp))
  | _=>exact Jf (show false=true from hs) E?
 | bl i=>
  cases rx;cases y with
  | eZ=>cases ry;exact PySem.EqNone.ne_bool_none (cE I q (by simp))
  | bl j=>cases ry;exact ne_bool (cE I q (Jd not Hx))
  | str j=>obtain⟨t',rfl⟩:=ry;exact PySem.EqMixed.ne_bool_str (cE I q (by simp))
  | _=>exact Jf (show false=true from hs) E?
 | int i=>
  obtain⟨t,rfl⟩:=rx;cases y with
  | eZ=>cases ry;exact PySem.EqNone.ne_int_none (cE I q (by simp))
  | int j=>obtain⟨t',rfl⟩:=ry;exact ne_int (cE I q (Jd not EK))
  | str j=>obtain⟨t',rfl⟩:=ry;exact PySem.EqMixed.ne_int_str (cE I q (by simp))
  | _=>exact Jf (show false=true from hs) E?
 | str i=>
  obtain⟨t,rfl⟩:=rx;cases y with
  | eZ=>cases ry;exact PySem.EqNone.ne_str_none (cE I q (by simp))
  | bl j=>cases ry;exact PySem.EqMixed.ne_str_bool (cE I q (by simp))
  | int j=>obtain⟨t',rfl⟩:=ry;exact PySem.EqMixed.ne_str_int (cE I q (by simp))
  | str j=>obtain⟨t',rfl⟩:=ry;exact ne_str (cE I q (Jd not EL))
  | _=>exact Jf (show false=true from hs) E?
 | byt i=>
  obtain⟨t,rfl⟩:=rx;cases y with
  | byt j=>obtain⟨t',rfl⟩:=ry;exact PySem.W.ne_bytes (cE I q (Jd not EM))
  | _=>exact Jf (show false=true from hs) E?
 | _=>cases y <;> exact Jf (show false=true from hs) E?
theorem A7:qc X (K! .Lt) (Lc λi j=>.bl (decide (i<j))):=LC λ_ _ _ _ _ _ _ q=>lt_int q
theorem Hy:qc X (K! .LtE) (Lc λi j=>.bl (decide (i<=j))):=LC λ_ _ _ _ _ _ _ q=>le_int q
theorem yJ:qc X (K! .Gt) (Lc λi j=>.bl (decide (j<i))):=LC λ_ _ _ _ _ _ _ q=>gt_int q
theorem RD:qc X (K! .GtE) (Lc λi j=>.bl (decide (j<=i))):=LC λ_ _ _ _ _ _ _ q=>ge_int q
theorem bD (b:Expr){op:CmpOp}(h:op≠.In:=by decide)(h2:op≠.NotIn:=by decide):behindInMarks op b=false:=by
 have e1:(op == CmpOp.In)=false:=by cases op <;> first|rfl|exact Jf rfl h
 have e2:(op == CmpOp.NotIn)=false:=by cases op <;> first|rfl|exact Jf rfl h2
 cases b <;> simp[behindInMarks,e1,e2]
theorem j5 {op:CmpOp}{r:R2}(ho:qc X (K! op) r)(ha:PE X a ta)(hb:PE X b tb)(hm:behindInMarks op b=false):PE X (.Compare a [op] [b] pos) (TF r ta tb):=by
 refine⟨?_⟩
 intro pins s σ H Q I h;exact wpAny_Compare1 (Ov ha hb I h λv u s2 x y H2 I2 rx ry q=>ho pins s2 σ H2 x y v u Q I2 rx ry q) hm
def RE (t:TE):TT:=λσ H Q=>t σ H λx H'=>∃k,x=.bl k/\Q k H'
theorem aW {op:CmpOp}{r:R2}(ho:qc X (K! op) r)(ha:PE X a ta)(hb:PE X b tb)(hm:behindInMarks op b=false):PT X (.Compare a [op] [b] pos) (RE (TF r ta tb)):=by
 refine⟨?_⟩
 intro pins s σ H Q I h;refine wpAny_isTrue_Compare1 (eU (ha pins s σ H _ I h) λv s1 ⟨x,H1,I1,r1,q1⟩=>eU (hb pins s1 σ H1 _ I1 q1) λu s2 ⟨y,H2,I2,r2,q2⟩=>
  eU (ho pins s2 σ H2 x y v u _ I2 r1 r2 q2) λc s3 ⟨z,H3,I3,r3,k,e,q3⟩=>?_) hm
 subst e;cases r3;exact wpAny_truthy_bool ⟨H3,I3,q3⟩
def Oz (r r':R2)(ta tb tc:TE):TE:=λσ H Q=>ta σ H λx H1=>tb σ H1 λy H2=>r x y H2 λz H3=>∃k,z=.bl k/\
 (if k=true then tc σ H3 λw' H4=>r' y w' H4 Q else Q (.bl false) H3)
theorem A8 {op op':CmpOp}{r r':R2}(ho:qc X (K! op) r)(ho':qc X (K! op') r')(ha:PE X a ta)(hb:PE X b tb)(hc:PE X c tc)
  (hm:lastMarks [op,op'] [b,c]=false:=by with_unfolding_all rfl):PE X (.Compare a [op,op'] [b,c] pos) (Oz r r' ta tb tc):=by
 refine⟨?_⟩
 intro pins s σ H Q I h;refine Compare_chain (eU (ha pins s σ H _ I h) λv s1 ⟨x,H1,I1,r1,q1⟩=>chain_link (eU (hb pins s1 σ H1 _ I1 q1) λu s2 ⟨y,H2,I2,r2,q2⟩=>
  eU (ho pins s2 σ H2 x y v u _ I2 r1 r2 q2) λd s3 ⟨z,H3,I3,r3,k,e,q3⟩=>?_)) hm
 subst e;cases r3;refine wpAny_truthy_bool ?_
 cases k with
 | false=>exact ite_ff ⟨.bl false,H3,I3,rfl,q3⟩
 | true=>exact ite_tt (chain_last (eU (hc pins s3 σ H3 _ I3 q3) λw' s4 ⟨z',H4,I4,r4,q4⟩=>ho' pins s4 σ H4 y z' u w' Q I4 r2 r4 q4))
theorem v_:(K?:Nat)<2 ^ 63:=by rw[C?];decide
theorem vals1 {x:V}{us:List l?}(r:Vals [x] us):∃u,us=[u]/\RelV x u:=by
 cases r with
 | cons r1 r2=>cases r2;exact⟨_,rfl,r1⟩
theorem vals2 {x y:V}{us:List l?}(r:Vals [x,y] us):∃u w',us=[u,w']/\RelV x u/\RelV y w':=by
 cases r with
 | cons r1 r2=>
  cases r2 with
  | cons r3 r4=>cases r4;exact⟨_,_,rfl,r1,r3⟩
theorem A9:ir X (.builtin "abs") (λxs H Q=>∃i,xs=[.int i]/\Q (.int (if i<0 then -i else i)) H):=by
 intro pins s σ H xs us Q I r h;obtain⟨i,rfl,q⟩:=h;obtain⟨u,rfl,t,rfl⟩:=vals1 r;exact call_abs_int λu tk=>⟨.int (if i<0 then -i else i),H,I.tok _,⟨_,rfl⟩,q⟩
theorem yK (hc:X.calm=true):ir X (.builtin "max") (λxs H Q=>∃i j,xs=[.int i,.int j]/\Q (.int (if j > i then j else i)) H):=by
 intro pins s σ H xs us Q I r h;obtain⟨i,j,rfl,q⟩:=h;obtain⟨u,w',rfl,⟨t,rfl⟩,⟨t',rfl⟩⟩:=vals2 r;refine max_two_ints (I.ok.hd hc) λh' tk k=>⟨_,H,I.kept k,?_,q⟩
 by_cases hj:j > i
 ·rw[W9 hj,W9 hj];exact⟨_,rfl⟩
 ·rw[W8 hj,W8 hj];exact⟨_,rfl⟩
end
structure fL (k:Nat)(A:A!):Prop where
 hd:A.handled=q?
 dp:A.depth+3*k+5<recursionLimit
 un:A.units+16*k+200<cLine
 gd:A.guards=j? []
theorem fL.mono {j k:Nat}{A:A!}(r:fL k A)(h:j<=k):fL j A:=⟨r.hd,by have:=r.dp;omega,by have:=r.un;omega,r.gd⟩
theorem fL.deeper {k:Nat}{A:A!}(r:fL (k+1) A)(env:Env):fL k (A.deeper env):=
 ⟨r.hd,by have:=r.dp;show A.depth+1+3*k+5<_;omega,by have:=r.un;show A.units+3+16*k+200<_;omega,r.gd⟩
theorem fL.in1 {k:Nat}{A:A!}(r:fL (k+1) A):fL k A.in1:=
 ⟨r.hd,by have:=r.dp;show A.depth+3*k+5<_;omega,by have:=r.un;show A.units+1+16*k+200<_;omega,r.gd⟩
theorem fL.depth {k:Nat}{A:A!}(r:fL k A):A.depth<recursionLimit:=by have:=r.dp;omega
theorem fL.units {k:Nat}{A:A!}(r:fL k A):A.units+64<cLine:=by have:=r.un;omega
def Hz:TA:=λ_ H Q=>Q [] H
def A_ (ta:TE)(tr:TA):TA:=λσ H Q=>ta σ H λx H1=>tr σ H1 λxs H2=>Q (x::xs) H2
section
variable {X:Cx} {e:Expr} {es:List Expr} {te:TE} {t:TA} {pos:Pos}
theorem ah:PA X [] Hz:=⟨λ_ _ _ _ H Q I h=>Calls.spliced_nil ⟨[],H,I,.nil,h⟩⟩
theorem af (ha:PE X e te)(hr:PA X es t)(hs:I? (e::es) X.env=(false,eval e X.env)::I? es X.env:=by rfl):PA X (e::es) (A_ te t):=by
 refine⟨?_⟩
 intro pos pins s σ H Q I h;rw[hs];show L? _ _ (spliced ((false,eval e X.env)::backTo pos (I? es X.env))) _ _ s
 refine Calls.spliced_cons (eU (ha pins s σ H _ I h) λu s1 ⟨x,H1,I1,r1,q1⟩=>?_)
 exact eU (hr pos pins s1 σ H1 _ I1 q1) λus s2 ⟨xs,H2,I2,r2,q2⟩=>⟨x::xs,H2,I2,.cons r1 r2,q2⟩
def UJ (t:TA):TE:=λσ H Q=>t σ H λxs H1=>xs.length<=K?/\∀p,H1 p=q?->Q (.ref p) (upd H1 p (.tup xs))
def UK (t:TA):TE:=λσ H Q=>t σ H λxs H1=>xs.length<=K?/\∀p,H1 p=q?->Q (.ref p) (upd H1 p (.lst xs))
theorem i8 {x1}(h:PA X es t):PE X (.Tuple es x1 pos) (UJ t):=by
 refine⟨?_⟩
 intro pins s σ H Q I hq;refine wpAny_Tuple_spliced (eU (h pos pins s σ H _ I hq) λus s1 ⟨xs,H1,I1,r,z,q⟩=>⟨by rw[<- r.length];exact z,?_⟩)
 have hf:H1 s1.heap.objs.size=q?:=I1.hok.fresh (Yd _);refine⟨.ref s1.heap.objs.size,upd H1 s1.heap.objs.size (.tup xs),I1.laid (t':=s1.toks) (λb u e=>Yh _ e) (Yd _) ?_,rfl,q _ hf⟩
 exact⟨z,us,r,⟨_,Yv _ rfl,rfl,_,rfl⟩⟩
theorem bF (h:PA X es t):PE X (.List es pos) (UK t):=by
 refine⟨?_⟩
 intro pins s σ H Q I hq;refine wpAny_List_spliced (eU (h pos pins s σ H _ I hq) λus s1 ⟨xs,H1,I1,r,z,q⟩=>⟨by rw[<- r.length];exact z,?_⟩)
 have hf:H1 s1.heap.objs.size=q?:=I1.hok.fresh (Yd _);refine⟨.ref s1.heap.objs.size,upd H1 s1.heap.objs.size (.lst xs),I1.laid (t':=s1.toks) (λb u e=>Yh _ e) (Yd _) ?_,rfl,q _ hf⟩
 exact⟨z,us,0,r,Yv _ rfl⟩
end
abbrev Sp:=List V->Hp->VK->XK->Prop
abbrev F1:=List Env->Hp->u?->XK->l?->u?->Prop
structure F2 (P:F?)(w:H?)(K:bE)(mg:Str->Option l?)(base:O?)(A:A!)(outer:List Env)(s:u?)(H:Hp):Prop where
 frames:A.frames=j? outer
 mod:Mod K mg base
 bs:∀b o,base.get? b=j? o->s.heap.get? b=j? o/\H b=q?
 A4:base.objs.size<=s.heap.objs.size
 kU:s.heap.FunFrames base outer
 EF:∀b∈frs outer,H b=q?
 hok:uM P w H s.heap
 bare:AllBare s.gens
def CE (outer:List Env)(P:F?)(w:H?)(H:Hp)(s:u?)(Q:VK)(u:l?)(s':u?):Prop:=
 ∃v H',s'.os=s.os/\AllBare s'.gens/\Un (frs outer) [] H H' s.heap s'.heap/\uM P w H' s'.heap/\RelV v u/\Q v H'
def CR (CX:F1)(outer:List Env)(P:F?)(w:H?)(H:Hp)(s:u?)(Q:VK)(E:XK)(r:Result)(s':u?):Prop:=
 match r with
 | .ok (.ret u)=>CE outer P w H s Q u s'
 | .ok _=>False
 | .error e=>CX outer H s E e s'
structure lU (P:F?)(w:H?)(K:bE)(mg:Str->Option l?)(base:O?)(CX:F1)(k:Nat)(f:o?)(fd:P!)(ps:List Str)(sp:Sp):Prop where
 len:∀vs H Q E,sp vs H Q E->vs.length=ps.length
 run:∀(A:A!) (outer:List Env) (s:u?) (H:Hp) (args:Args) (us:List l?) (vs:List V) (Q:VK) (E:XK),fL k A->F2 P w K mg base A outer s H->BindsTo s fd args (ps.zip us)->Vals vs us->sp vs H Q E->
  codeAny (S? P w) A (.call (.ref f) args) (CR CX outer P w H s Q E) s
theorem lU.imp {P:F?}{w:H?}{K:bE}{mg:Str->Option l?}{base:O?}{CX:F1}{k:Nat}{f:o?}{fd:P!}{ps:List Str}{sp Xi:Sp}(F:lU P w K mg base CX k f fd ps sp)
  (h:∀vs H Q E,Xi vs H Q E->sp vs H Q E):lU P w K mg base CX k f fd ps Xi:=
 ⟨λvs H Q E q=>F.len vs H Q E (h _ _ _ _ q),λA outer s H args us vs Q E hr he hb hv hs=>F.run A outer s H args us vs Q E hr he hb hv (h _ _ _ _ hs)⟩
section
variable {X:Cx} {pins:List (o?×Obj)} {σ:St} {H:Hp} {s s':u?}
theorem Inv.RG (I:Inv X pins σ H s):F2 X.prog X.w X.K X.mg X.base X.A X.stack s H:=
 ⟨I.ok.frames,I.ok.mod,I.bs,Yn I.ok.A4 I.sz,I.stack,I.oW,I.hok,I.bare⟩
theorem Inv.after {Q:VK}{u:l?}(I:Inv X pins σ H s)(h:CE X.stack X.prog X.w H s Q u s'):EP X pins σ Q u s':=by
 obtain⟨v,H',os,bare,un,hok,r,q⟩:=h;obtain⟨hh,g,d,t,os'⟩:=s';obtain rfl:os'=s.os:=os
 exact⟨v,H',I.call (h':=hh) (g':=g) (d':=d) (t':=t) (ch:=[]) un hok bare (λb z=>Jf z (by simp)),r,q⟩
end
def HA (sp:Sp)(Nc:List V)(E:XK)(t:TA):TE:=λσ H Q=>t σ H λvs H1=>sp (vs++Nc) H1 Q E
def Binds (K:bE)(fd:P!)(ps:List Str)(ds:List l?):Prop:=
 ∀(s:u?) (us:List l?),K.In s.heap->(us++ds).length=ps.length->BindsTo s fd ⟨us,[]⟩ (ps.zip (us++ds))
theorem Binds.all {K:bE}{fd:P!}{ps:List Str}(h:∀us:List l?,us.length=ps.length->bindArgs fd ⟨us,[]⟩=pure (ps.zip us)):Binds K fd ps []:=λs us _ hl=>by
 rw[W0] at hl ⊢;exact .of_eq (h us hl)
def Passes (CX:F1)(X:Cx)(E:XK):Prop:=∀(pins:List (o?×Obj)) (σ:St) (H:Hp) (s:u?) (e:l?) (s':u?),Inv X pins σ H s->CX X.stack H s E e s'->X.xe e s'
section
variable {X:Cx} {CX:F1} {k:Nat} {f C:o?} {fd:P!} {ps:List Str} {sp:Sp} {Nc:List V} {ds:List l?} {E:XK} {x m:Str} {p pos apos:Pos} {e o:Expr} {es:List Expr} {ta:TE} {t:TA}
theorem OA {pins:List (o?×Obj)}{σ:St}{H:Hp}{s:u?}{Q:VK}{us:List l?}{vs:List V}(F:lU X.prog X.w X.K X.mg X.base CX k f fd ps sp)(hr:fL k X.A)(hb:Binds X.K fd ps ds)(hd:Vals Nc ds)(hx:Passes CX X E)
  (I:Inv X pins σ H s) (r:Vals vs us) (h:sp (vs++Nc) H Q E):L? (S? X.prog X.w) X.A (call (.ref f) us) (EP X pins σ Q) X.xe s:=by
 have r2:Vals (vs++Nc) (us++ds):=r.append hd;have hl:(us++ds).length=ps.length:=by rw[<- r2.length];exact F.len _ _ _ _ h
 refine wpAny_call (codeAny_mono (F.run X.A X.stack s H ⟨us,[]⟩ (us++ds) (vs++Nc) Q E hr I.RG (hb s us I.A3 hl) r2 h) λr s' hq=>?_)
 cases r with
 | error e=>exact hx pins σ H s e s' I hq
 | ok fl=>
  cases fl with
  | ret u=>exact I.after hq
  | next=>exact N! hq
  | brk=>exact N! hq
  | cont=>exact N! hq
theorem EN (F:lU X.prog X.w X.K X.mg X.base CX k f fd ps sp)(hr:fL k X.A)(hg:Gl X x)(hm:X.mg x=j? (.ref f))(hk:C! X.K (.ref f)=true)(hb:Binds X.K fd ps ds)(hd:Vals Nc ds)(hx:Passes CX X E)
  (ha:PA X (e::es) t) (hdb:(x ==("__debug__":Str))=false:=by decide) (he:I? (e::es) X.env=(false,eval e X.env)::I? es X.env:=by rfl) (hpl:(backTo pos (I? es X.env)).any (·.1)=false:=by rfl):
  PE X (.Call (.Name x p) (e::es) [] pos) (HA sp Nc E t):=by
 refine⟨?_⟩
 intro pins s σ H Q I h;refine wpAny_Call_Name_kw (vv I hg hm ?_ hdb)
 refine PySem.W.callWith_K (h₀:=X.base) I.ok.mod.Tt hk (eU (ha pos pins s σ H _ I h) λus s1 ⟨vs,H1,I1,r,q⟩=>⟨I1.A3,?_⟩) he hpl
 exact OA F hr hb hd hx I1 r q
end
def PK (X:Cx)(kws:List Keyword)(t:TA):Prop:=
 ∀(pos:Pos) (pins:List (o?×Obj)) (s:u?) (σ:St) (H:Hp) (Q:List V->Hp->Prop),Inv X pins σ H s->t σ H Q->L? (S? X.prog X.w) X.A (evalAll ((backToKw pos (keywordEach kws X.env)).map (·.2))) (AP X pins σ Q) X.xe s
section
variable {X:Cx} {CX:F1} {k:Nat} {f C:o?} {fd:P!} {ps ks:List Str} {sp:Sp} {E:XK} {x m:Str} {p pos apos kpos:Pos} {e o:Expr} {es:List Expr} {kws:List Keyword} {te ta:TE} {t tk:TA} {nm:Option Str}
theorem OB:PK X [] Hz:=λ_ _ _ _ H Q I h=>wpAny_evalAll_nil ⟨[],H,I,.nil,h⟩
theorem LG (ha:PE X e te)(hr:PK X kws t):PK X (⟨nm,e,kpos⟩::kws) (A_ te t):=by
 intro pos pins s σ H Q I h;show L? _ _ (evalAll ((do let v <- eval e X.env;standAt pos;pure v)::(backToKw pos (keywordEach kws X.env)).map (·.2))) _ _ s
 refine wpAny_evalAll_cons (B? (eU (ha pins s σ H _ I h) λu s1 ⟨x,H1,I1,r1,q1⟩=>B? (wpAny_standAt (J? ?_))))
 exact eU (hr pos pins s1 σ H1 _ I1 q1) λus s2 ⟨xs,H2,I2,r2,q2⟩=>⟨x::xs,H2,I2,.cons r1 r2,q2⟩
variable {g:List l?->List l?->List l?} {gV:List V->List V->List V}
end
structure aM (N P:List Str)(sc:Scope):Prop where
 kind:sc.kind=.function
 co:sc.isCoroutine=false
 gen:sc.isGenerator=false
 nd:N.Nodup
 pre:N.take P.length=P
 par:∀x∈P,sc.names.lookup x=j? .local\/sc.names.lookup x=j? .cell
 OC:∀y∈sc.names,y.2≠.free
theorem yL {kindOf:Str->Option NameKind}{x:Str}:∀ {binds:List (Str×l?)} {m:Str->Option l?},(∀v,(x,v) ∉ binds)->bindL kindOf binds m x=m x
 | [],_,_=>rfl
 | (n,v)::r,m,h=>by
  unfold bindL;rw[yL λw hw=>h w (Y5 _ hw)]
  split
  ·have:x≠n:=by rintro rfl;exact h v Y9
   simp[this]
  ·rfl
theorem yM {kindOf:Str->Option NameKind}{x:Str}:∀ {binds:List (Str×l?)} {m:Str->Option l?},(∀v,(x,v) ∉ binds)->bindC kindOf binds m x=m x
 | [],_,_=>rfl
 | (n,v)::r,m,h=>by
  unfold bindC;rw[yM λw hw=>h w (Y5 _ hw)]
  split
  ·rfl
  ·have:x≠n:=by rintro rfl;exact h v Y9
   simp[this]
theorem yN {kindOf:Str->Option NameKind}{x:Str}{v:l?}:∀ {P:List Str} {vs:List l?} {i:Nat} {m:Str->Option l?},P.Nodup->P[i]?=j? x->vs[i]?=j? v->kindOf x=j? .local->
  bindL kindOf (P.zip vs) m x=j? v
 | [],_,_,_,_,h,_,_=>by simp at h
 | _::_,[],_,_,_,_,h,_=>by simp at h
 | p::P,w::vs,0,m,nd,h1,h2,hk=>by
  simp at h1 h2;subst h1;subst h2;show bindL kindOf ((p,w)::P.zip vs) m p=_
  unfold bindL;rw[yL λv hv=>(List.nodup_cons.mp nd).1 (List.of_mem_zip hv).1,W9 hk]
  simp
 | p::P,w::vs,i+1,m,nd,h1,h2,hk=>by
  show bindL kindOf ((p,w)::P.zip vs) m x=_
  unfold bindL;exact yN (i:=i) (List.nodup_cons.mp nd).2 (by simpa using h1) (by simpa using h2) hk
theorem yO {kindOf:Str->Option NameKind}{x:Str}{v:l?}:∀ {P:List Str} {vs:List l?} {i:Nat} {m:Str->Option l?},P.Nodup->P[i]?=j? x->vs[i]?=j? v->kindOf x≠j? .local->
  bindC kindOf (P.zip vs) m x=j? v
 | [],_,_,_,_,h,_,_=>by simp at h
 | _::_,[],_,_,_,_,h,_=>by simp at h
 | p::P,w::vs,0,m,nd,h1,h2,hk=>by
  simp at h1 h2;subst h1;subst h2;show bindC kindOf ((p,w)::P.zip vs) m p=_
  unfold bindC;rw[yM λv hv=>(List.nodup_cons.mp nd).1 (List.of_mem_zip hv).1,W8 hk]
  simp
 | p::P,w::vs,i+1,m,nd,h1,h2,hk=>by
  show bindC kindOf ((p,w)::P.zip vs) m x=_
  unfold bindC;exact yO (i:=i) (List.nodup_cons.mp nd).2 (by simpa using h1) (by simpa using h2) hk
def start (N:List Str)(vs:List V):St:=vs.map j?++Yi (N.length-vs.length) q?
def qw (CX:F1)(P:F?)(w:H?)(K:bE)(mg:Str->Option l?)(base:O?)(N:List Str)(qual:Str)(scope:Scope)(f:o?)(cd:l?)(A:A!)(outer:List Env)(s:u?)(H:Hp)(E:XK):Cx where
 prog:=P
 w:=w
 K:=K
 mg:=mg
 base:=base
 A:=A.deeper (envOfC qual scope s.heap.objs.size f cd)
 N:=N
 s₀:=s
 H₀:=H
 env:=envOfC qual scope s.heap.objs.size f cd
 outer:=outer
 stack:=envOfC qual scope s.heap.objs.size f cd::outer
 ex:=[]
 calm:=true
 fn:=λ_=>true
 pn:=[]
 xe:=λe s'=>L? (S? P w) (A.deeper (envOfC qual scope s.heap.objs.size f cd)) (leaving (envOfC qual scope s.heap.objs.size f cd) e) (λ_ s''=>CX outer H s E e s'') (λe' s''=>CX outer H s E e' s'') s'
theorem wc {sc:Scope}{n:Nat}{x:Str}(h:sc.names.lookup x=j? .cell):∃c,(cellsFrom n sc.names []).lookup x=j? c:=by
 have q:=PySem.W.cellsFrom_some sc.names n [] (.inl h);exact Option.isSome_iff_exists.mp q
theorem F3 {CX:F1}{P:F?}{w:H?}{K:bE}{mg:Str->Option l?}{base:O?}{N ps:List Str}{qual:Str}{scope:Scope}{f:o?}{cd:l?}{A:A!}{outer:List Env}{s s1:u?}{H:Hp}{E:XK}{us:List l?}{vs:List V}
  (S:aM N ps scope) (hd:A.handled=q?) (e0:F2 P w K mg base A outer s H) (hl:vs.length=ps.length) (r:Vals vs us)
  (x:InCallC s s.heap.objs.size (bindL (envOfC qual scope s.heap.objs.size f cd).kindOf (ps.zip us) λ_=>q?) (cellsFrom (s.heap.objs.size+1) scope.names []) (bindC (envOfC qual scope s.heap.objs.size f cd).kindOf (ps.zip us) λ_=>q?) s1):
  Inv (qw CX P w K mg base N qual scope f cd A outer s H E) [] (start N vs) H s1:=by
 have hpl:ps.length<=N.length:=by have:=Jd Wr S.pre;rw[Ys] at this;omega
 obtain⟨h1,tk,rfl,hk⟩:=x.done;have RH:∀b:o?,b ∉ (qw CX P w K mg base N qual scope f cd A outer s H E).ex:=λb z=>Jf (show b∈([]:List o?) from z) (by simp)
 refine⟨⟨e0.mod,S.kind,rfl,rfl,Yd _,λy z c h1 h2=>?_,λy hy=>?_,λy c _ h=>?_,λ_=>hd,Around.frames_deeper e0.frames,.inr ⟨rfl,rfl⟩,λb z=>Jf z (RH b),e0.bs,e0.A4,λb _ _=>RH b,λb z=>Jf z (RH b),e0.kU,e0.EF⟩,
  rfl,e0.bare,Un.kept hk,⟨_,x.toInCall.ns,λi y v h1 h2 h3=>?_⟩,λy c h=>⟨_,x.cell y c h⟩,e0.hok.fresh (Yd _),λy c h=>?_,λp hp=>Jf (show p∈([]:List (o?×Obj)) from hp) (by simp),e0.hok.kept hk,?_⟩
 ·exact name_of_addr x.apart (U? h1) (U? h2)
 ·have hy:scope.names.lookup y=j? .cell\/scope.names.lookup y=j? .free:=hy
  rcases hy with hy|hy
  ·exact wc hy
  ·exact Jf rfl (S.OC _ (U? hy))
 ·exact W1 (x.above y c (U? h))
 ·have hi:i<vs.length:=by
   unfold start at h2;by_cases hi:i<vs.length
   ·exact hi
   ·rw[Y4 (by simpa using hi)] at h2
    rw[Zi] at h2;split at h2 <;> cases h2
  have ha:vs[i]?=j? v:=by
   unfold start at h2;rw[Y2 (by simpa using hi),Ye] at h2
   cases e:vs[i]? with
   | none=>rw[e] at h2;cases h2
   | some a=>rw[e] at h2;cases h2;rfl
  obtain⟨u,hu,rv⟩:=r.get ha;have hp:ps[i]?=j? y:=by
   rw[<- S.pre,List.getElem?_take_of_lt (by omega)];exact h1
  have Xj:ps.Nodup:=by rw[<- S.pre];exact S.nd.sublist (List.take_sublist _ _)
  refine⟨u,rv,?_⟩
  rcases S.par y (Yw hp) with k|k
  ·exact .inl ⟨k,yN Xj hp hu k⟩
  ·obtain⟨c,e⟩:=wc (n:=s.heap.objs.size+1) k
   refine .inr ⟨.inl k,c,e,?_⟩
   have q:=x.cell y c e;rw[yO Xj hp hu (by show scope.names.lookup y≠_;rw[k];decide)] at q
   exact q
 ·exact e0.hok.fresh (W1 (x.above y c (U? h)))
 ·unfold start
  show _=N.length
  rw[Yk,Ya,Yp];omega
theorem HB {CX:F1}{P:F?}{w:H?}{K:bE}{mg:Str->Option l?}{base:O?}{k:Nat}{f:o?}{name qual:Str}{params:Arguments}{body:List Q?}{scope:Scope}{dV kV doc pm cdv ct oc:l?}{an od:Option o?}
  {osl:Array (Option l?)} {N ps:List Str} {sp:Sp} (lk:K.lookup f=j? ⟨oc,od,.func (W? name qual params body scope dV kV doc pm an cdv ct),osl⟩) (hcd:Q! K cdv qual=true) (S:aM N ps scope)
  (len:∀vs H Q E,sp vs H Q E->vs.length=ps.length)
  (hbody:∀(A:A!) (outer:List Env) (s:u?) (H:Hp) (vs:List V) (Q:VK) (E:XK),fL k (A.deeper (envOfC qual scope s.heap.objs.size f cdv))->sp vs H Q E->
   ∃t,zB (qw CX P w K mg base N qual scope f cdv A outer s H E) body t/\t { nx:=λ_ H'=>Q .eZ H',rt:=Q } (start N vs) H):
  lU P w K mg base CX (k+1) f (W? name qual params body scope dV kV doc pm an cdv ct) ps sp:=by
 refine⟨len,λA outer s H args us vs Q E hr e0 hb r Ld=>?_⟩
 have hl:=len _ _ _ _ Ld;have KX:K.In s.heap:=e0.mod.Tt.keeps λb o e=>(e0.bs b o e).1
 have lim:s.heap.NoLimit:=e0.mod.nolimit.keeps λb o e=>(e0.bs b o e).1
 have hkind:∀y∈ps.zip us,scope.names.lookup y.1=j? .local\/(scope.names.lookup y.1=j? .cell/\((cellsFrom (s.heap.objs.size+1) scope.names []).lookup y.1).isSome=true):=λ⟨n,v⟩ hy=>by
  rcases S.par n (List.of_mem_zip hy).1 with q|q
  ·exact .inl q
  ·exact .inr ⟨q,PySem.W.cellsFrom_some _ _ _ (.inl q)⟩
 refine codeAny_call_function hr.depth (KX _ _ lk) rfl S.co S.gen rfl (PySem.W.codeRec_of KX hcd) (hb _ _ _ _ ?_)
 refine wpAny_newFunctionEnv_cells S.kind hkind λenv he s1 x=>?_
 subst he;refine⟨lim.keeps x.toInCall.keep,codeAny_func ?_⟩
 obtain⟨t,ht,hq⟩:=hbody A outer s H vs Q E (hr.deeper _) Ld;have I:Inv (qw CX P w K mg base N qual scope f cdv A outer s H E) [] (start N vs) H s1:=F3 S hr.hd e0 hl r x;refine B! (ht [] s1 (start N vs) H _ I hq) (λfl s' hs=>?_) λe s' hs=>hs
 have fin:∀ {σ':St} {H':Hp} {v:V} {u:l?},Inv (qw CX P w K mg base N qual scope f cdv A outer s H E) [] σ' H' s'->RelV v u->Q v H'->CE outer P w H s Q u s':=
  λ{σ' H' v u} J rv q=>⟨v,H',J.os,J.bare,J.base,J.hok,rv,q⟩
 cases fl with
 | ret u=>
  obtain⟨v,σ',H',J,rv,q⟩:=hs;exact fin J rv q
 | next=>
  obtain⟨σ',H',J,q⟩:=hs;exact fin (v:=V.eZ) (u:=Value.none) J rfl q
 | brk=>
  obtain⟨_,_,_,q⟩:=hs;exact N! q
 | cont=>
  obtain⟨_,_,_,q⟩:=hs;exact N! q
section
variable {X:Cx} {x:Str} {p pos:Pos} {e:Expr} {es:List Expr} {t:TA} {id T:String} {r:List V->Hp->VK->Prop}
def Xk (r:List V->Hp->VK->Prop)(t:TA):TE:=λσ H Q=>t σ H λvs H1=>r vs H1 Q
theorem aE (hc:ir X (.builtin id) r)(hg:Gl X x)(hm:X.mg x=q?)(hv:H! x=j? (.builtin id))(ha:PA X (e::es) t)(hn:x≠"__name__":=by decide)(hdb:(x ==("__debug__":Str))=false:=by decide)
  (he:I? (e::es) X.env=(false,eval e X.env)::I? es X.env:=by rfl) (hpl:(backTo pos (I? es X.env)).any (·.1)=false:=by rfl):PE X (.Call (.Name x p) (e::es) [] pos) (Xk r t):=by
 refine⟨?_⟩
 intro pins s σ H Q I h;refine wpAny_Call_Name_kw (jC I hg hm hv ?_ hn hdb)
 exact PyProof.Rows.callWith_builtin1 (eU (ha pos pins s σ H _ I h) λus s1 ⟨vs,H1,I1,r1,q1⟩=>hc pins s1 σ H1 vs us Q I1 r1 q1) he hpl
theorem kZ (hc:ir X (.type T) r)(hg:Gl X x)(hm:X.mg x=q?)(hv:H! x=j? (.type T))(ha:PA X (e::es) t)(hn:x≠"__name__":=by decide)(hdb:(x ==("__debug__":Str))=false:=by decide)
  (he:I? (e::es) X.env=(false,eval e X.env)::I? es X.env:=by rfl) (hpl:(backTo pos (I? es X.env)).any (·.1)=false:=by rfl):PE X (.Call (.Name x p) (e::es) [] pos) (Xk r t):=by
 refine⟨?_⟩
 intro pins s σ H Q I h;refine wpAny_Call_Name_kw (jC I hg hm hv ?_ hn hdb)
 exact M! (eU (ha pos pins s σ H _ I h) λus s1 ⟨vs,H1,I1,r1,q1⟩=>hc pins s1 σ H1 vs us Q I1 r1 q1) he hpl
end
end L2
namespace HT
open PySem PyProof.Rows
section
variable {prog:F?} {w:H?} {A:A!} {E:l?->u?->Prop} {s:u?}
def pP (n d:Nat):Option Int->Nat
 | none=>d
 | some v=>if v<0 then (v+(n:Int)).toNat else min v.toNat n
theorem lV (n d k:Nat):pP n d (j? (k:Int))=min k n:=by
 show(if (k:Int)<0 then ((k:Int)+(n:Int)).toNat else min (k:Int).toNat n)=min k n
 rw[W8 (by omega),Yf]
end
end HT
namespace L2
open PySem PySem.Spec PyProof.Rows
abbrev TO:=St->Hp->(Option Int->Hp->Prop)->Prop
def PO (X:Cx)(e:Option Expr)(t:TO):Prop:=
 ∀(pins:List (o?×Obj)) (s:u?) (σ:St) (H:Hp) (Q:Option Int->Hp->Prop),Inv X pins σ H s->t σ H Q->
  L? (S? X.prog X.w) X.A (evalPart e X.env) (λu s'=>∃o H',Inv X pins σ H' s'/\IsPart u o/\Q o H') X.xe s
def LH:TO:=λ_ H Q=>Q q? H
def RI (t:TE):TO:=λσ H Q=>t σ H λx H1=>∃i,x=.int i/\Q (j? i) H1
section
variable {X:Cx} {e:Expr} {te:TE} {lo hi:Option Expr} {tl th:TO} {pos p2:Pos}
theorem gb:PO X q? LH:=by
 intro pins s σ H Q I h;rw[evalPart_none];exact J? ⟨q?,H,I,.none,h⟩
theorem gc (h:PE X e te):PO X (j? e) (RI te):=by
 intro pins s σ H Q I hw;rw[evalPart_some];refine eU (h pins s σ H _ I hw) λu s1 ⟨x,H1,I1,r1,q1⟩=>?_
 obtain⟨i,rfl,q⟩:=q1;obtain⟨t,rfl⟩:=r1;exact⟨j? i,H1,I1,.int i t,q⟩
def UL (X:Cx)(r:V->Option Int->Option Int->Hp->VK->Prop):Prop:=
 ∀(pins:List (o?×Obj)) (s:u?) (σ:St) (H:Hp) (x:V) (v vl vu:l?) (lo hi:Option Int) (sl:o?) (Q:VK),Inv X pins σ H s->RelV x v->s.heap.IsSliceOf sl vl vu .none->IsPart vl lo->IsPart vu hi->r x lo hi H Q->
  ∃T id,typeLookup (.type T) "__getitem__"=pure (j? (.builtin id))/\s.TypeIs v T/\wpAny (S? X.prog X.w) X.A (getItem v (.ref sl)) (EP X pins σ Q) X.xe s
def tSl (r:V->Option Int->Option Int->Hp->VK->Prop)(te:TE)(tl th:TO):TE:=λσ H Q=>te σ H λx H1=>tl σ H1 λl H2=>th σ H2 λu H3=>r x l u H3 Q
theorem eW {r:V->Option Int->Option Int->Hp->VK->Prop}(hr:UL X r)(he:PE X e te)(hl:PO X lo tl)(hu:PO X hi th):PE X (.Subscript e (.Slice lo hi q? p2) pos) (tSl r te tl th):=by
 refine⟨?_⟩
 intro pins s σ H Q I h;refine Subscript_ (eU (he pins s σ H _ I h) λv s1 ⟨x,H1,I1,r1,q1⟩=>?_)
 refine wpAny_Slice (eU (hl pins s1 σ H1 _ I1 q1) λvl s2 ⟨l,H2,I2,pl,q2⟩=>eU (hu pins s2 σ H2 _ I2 q2) λvu s3 ⟨u,H3,I3,pu,q3⟩=>?_)
 rw[evalPart_none];refine J? ?_
 have I4:Inv X pins σ H3 { s3 with heap:=s3.heap.push { cls:=.type "slice",data:=.fields #[vl,vu,.none] } }:=I3.kept (t':=s3.toks) λb ob q=>Yh _ q
 obtain⟨T,id,hT,ht,hg⟩:=hr pins { s3 with heap:=s3.heap.push { cls:=.type "slice",data:=.fields #[vl,vu,.none] } } σ H3 x v vl vu l u s3.heap.objs.size Q I4 r1 (Heap.IsSliceOf.new ..) pl pu q3
 show L? (S? X.prog X.w) X.A (subscriptTail e (.Slice lo hi q? p2) v (.ref s3.heap.objs.size)) (EP X pins σ Q) X.xe { s3 with heap:=s3.heap.push { cls:=.type "slice",data:=.fields #[vl,vu,.none] } }
 exact tail_any (ops:=[.ref s3.heap.objs.size,v]) ht hT hg (by with_unfolding_all rfl)
def iw (xs:List V)(lo hi:Option Int):List V:=(xs.drop (HT.pP xs.length 0 lo)).take (HT.pP xs.length xs.length hi-HT.pP xs.length 0 lo)
theorem Bb (xs:List V)(lo hi:Option Int):(iw xs lo hi).length<=xs.length:=by
 unfold iw;rw[Ys,Y8];omega
end
def Le (n:Nat)(i:Int):Option Nat:=if 0<=i then (if i<n then j? i.toNat else q?) else if -(n:Int)<=i then j? (i+n).toNat else q?
def qe {α:Type}(xs:List α)(i:Int):Option α:=(Le xs.length i).bind λj=>xs[j]?
theorem EO {n:Nat}{i:Int}{j:Nat}(h:Le n i=j? j):seqIndex? i n=j? j/\j<n/\-(n:Int)<=i/\i<n:=by
 unfold Le at h;by_cases h0:0<=i
 ·rw[W9 h0] at h
  by_cases h1:i<n
  ·rw[W9 h1] at h
   have e:i.toNat=j:=M? h;exact⟨by rw[seqIndex_of h0 h1,e],by omega,by omega,h1⟩
  ·rw[W8 h1] at h;cases h
 ·rw[W8 h0] at h
  by_cases h1:-(n:Int)<=i
  ·rw[W9 h1] at h
   have e:(i+n).toNat=j:=M? h;exact⟨by rw[seqIndex_neg (by omega) h1,e],by omega,h1,by omega⟩
  ·rw[W8 h1] at h;cases h
theorem ER {α:Type}{xs:List α}{i:Int}{v:α}(h:qe xs i=j? v):∃j,seqIndex? i xs.length=j? j/\xs[j]?=j? v/\j<xs.length/\-(xs.length:Int)<=i/\i<xs.length:=by
 unfold qe at h;cases e:Le xs.length i with
 | none=>rw[e] at h;cases h
 | some j=>
  rw[e] at h;obtain⟨h1,h2,h3,h4⟩:=EO e;exact⟨j,h1,h,h2,h3,h4⟩
theorem dQ {α:Type}{xs:List α}{j:Nat}{v:α}(h:xs[j]?=j? v):qe xs (j:Int)=j? v:=by
 have hj:j<xs.length:=(List.getElem?_eq_some_iff.mp h).1;have e:Le xs.length (j:Int)=j? j:=by
  unfold Le;rw[W9 (by omega),W9 (by omega)];simp
 unfold qe;rw[e];exact h
def LI (b:Expr):Prop:=∀o i,subscripted b false o i=operate [o,i] (getItem o i)
def RJ (X:Cx)(r:R2):Prop:=
 ∀(value slice:Expr) (pins:List (o?×Obj)) (s:u?) (σ:St) (H:Hp) (x y:V) (v u:l?) (Q:VK),Inv X pins σ H s->RelV x v->RelV y u->r x y H Q->
  subscripted slice false v u=operate [v,u] (getItem v u)->L? (S? X.prog X.w) X.A (subscriptTail value slice v u) (EP X pins σ Q) X.xe s
def Xl (X:Cx)(id:String)(r:V->List V->Hp->VK->Prop):Prop:=
 ∀(pins:List (o?×Obj)) (s:u?) (σ:St) (H:Hp) (x:V) (xs:List V) (v:l?) (us:List l?) (Q:VK),Inv X pins σ H s->RelV x v->Vals xs us->r x xs H Q->
  L? (S? X.prog X.w) X.A (call (.builtin id) (v::us)) (EP X pins σ Q) X.xe s
section
variable {X:Cx} {a b:Expr} {ta tb:TE} {pos:Pos}
theorem bC {r:R2}(hr:RJ X r)(ha:PE X a ta)(hb:PE X b tb)(hs:LI b):PE X (.Subscript a b pos) (TF r ta tb):=by
 refine⟨?_⟩
 intro pins s σ H Q I h;exact Subscript_ (Ov ha hb I h λv u s2 x y H2 I2 rx ry q=>hr a b pins s2 σ H2 x y v u Q I2 rx ry q (hs _ _))
def RK (K:bE):R2:=λx y H Q=>∃p xs i v,x=.ref p/\y=.int i/\aP K H p xs/\qe xs i=j? v/\Q v H
def RL (K:bE):R2:=λx y H Q=>∃p xs i v,x=.ref p/\y=.int i/\jv K H p xs/\qe xs i=j? v/\Q v H
theorem LJ:RJ X (RK X.K):=by
 intro value slice pins s σ H x y v u Q I rx ry h hs;obtain⟨p,xs,i,z,rfl,rfl,hq,he,q⟩:=h;cases rx;obtain⟨t,rfl⟩:=ry;obtain⟨its,r,pl,hz⟩:=I.list hq;obtain⟨j,h1,h2,h3,h4,h5⟩:=ER he;obtain⟨w,ew,rw'⟩:=r.get h2;have hl:=r.length;have hn:=v_;have fin:EP X pins σ Q w s:=⟨z,H,I,rw',q⟩;by_cases h0:0<=i
 ·have hj:i.toNat=j:=by
   rw[seqIndex_of h0 h5] at h1;exact M? h1
  exact item_listR pl.isList h0 (by omega) (by rw[hj];simpa using ew) fin hs
 ·have hj:(i+(its.toArray.size:Int)).toNat=j:=by
   rw[seqIndex_neg (by omega) h4] at h1
   rw[Yr,<- hl];exact M? h1
  exact subscriptTail_builtinR (x:=w) pl.isList.typeIs slot_list_getitem.lookup
   (wpAny_getItem_list_neg (Q:=λr s'=>r=w/\EP X pins σ Q r s') pl.isList (by omega) (by rw[Yr] <;> omega) (by omega) (by rw[hj];simpa using ew) ⟨rfl,fin⟩) hs
theorem OD:RJ X (RL X.K):=by
 intro value slice pins s σ H x y v u Q I rx ry h hs;obtain⟨p,xs,i,z,rfl,rfl,hq,he,q⟩:=h;cases rx;obtain⟨t,rfl⟩:=ry;obtain⟨its,r,pl,hz⟩:=I.tuple hq;obtain⟨j,h1,h2,h3,h4,h5⟩:=ER he;obtain⟨w,ew,rw'⟩:=r.get h2;have hl:=r.length;have hn:=v_;have fin:EP X pins σ Q w s:=⟨z,H,I,rw',q⟩;exact subscriptTail_builtinR (x:=w) pl.typeIs slot_tuple_getitem.lookup
  (getItem_tuple (j:=j) (Q:=λr s'=>r=w/\EP X pins σ Q r s') pl (by omega) (by omega) (by rw[Yr,<- hl];exact h1) (by simpa using ew) ⟨rfl,fin⟩) hs
theorem C9 (its:List l?)(n j:Nat)(u:l?):D! (·.setIfInBounds j u) { cls:=.type "list",data:=.seq its.toArray n }={ cls:=.type "list",data:=.seq (its.set j u).toArray n }:=by
 simp[D!]
theorem Inv.lst {pins:List (o?×Obj)}{σ:St}{H:Hp}{s:u?}{p:o?}{xs:List V}(I:Inv X pins σ H s)(h:H p=j? (.lst xs)):
  ∃(its:List l?) (n:Nat),Vals xs its/\s.heap.get? p=j? { cls:=.type "list",data:=.seq its.toArray n }/\xs.length<=K?:=by
 obtain⟨z,its,n,r,e⟩:=I.hok p _ h;exact⟨its,n,r,e,z⟩
theorem Inv.OE {pins:List (o?×Obj)}{σ:St}{H:Hp}{s:u?}{p:o?}{xs ys:List V}{its its':List l?}{n n':Nat}{f:Obj->Obj}(I:Inv X pins σ H s)(h:H p=j? (.lst xs))
  (ho:s.heap.get? p=j? { cls:=.type "list",data:=.seq its.toArray n }) (hf:f { cls:=.type "list",data:=.seq its.toArray n }={ cls:=.type "list",data:=.seq its'.toArray n' }) (r:Vals ys its') (hz:ys.length<=K?) (t:Nat):
  Inv X pins σ (upd H p (.lst ys)) { s with heap:=s.heap.update p f,toks:=t }:=by
 have e:(s.heap.update p f).get? p=j? { cls:=.type "list",data:=.seq its'.toArray n' }:=by
  rw[Heap.get?_update_self f ho (by rw[hf] <;> rfl),hf]
 refine I.write (x:=p) (e:=p) (by rw[h];trivial) (.inl rfl) (λb u hb q=>(Heap.get?_update_other _ _ (Ne.symm hb)).trans q) ⟨_,e⟩ ?_
 exact⟨hz,its',n',r,e⟩
def RM:V->V->V->Hp->(Hp->Prop)->Prop:=λo i v H Q=>∃p xs k j,o=.ref p/\i=.int k/\H p=j? (.lst xs)/\Le xs.length k=j? j/\Q (upd H p (.lst (xs.set j v)))
theorem set_list:Oj X RM:=by
 intro pins s σ H o i v ov iv u Q I ro ri rv h;obtain⟨p,xs,k,j,rfl,rfl,hp,hj,q⟩:=h;cases ro;obtain⟨t,rfl⟩:=ri;obtain⟨its,n,r,ho,hz⟩:=I.lst hp;obtain⟨h1,h2,h3,h4⟩:=EO hj;have hl:=r.length;have hn:=v_;have I':Inv X pins σ (upd H p (.lst (xs.set j v))) { s with heap:=s.heap.update p (D! (·.setIfInBounds j u)) }:=
  I.OE hp ho (C9 its n j u) (r.set rv j) (by rw[Wv];exact hz) s.toks
 by_cases h0:0<=k
 ·have hk:k.toNat=j:=by
   rw[seqIndex_of h0 h4] at h1;exact M? h1
  exact PySem.W.ki_setAt ho h0 (by omega) (by rw[Yr,<- hl];exact h4) (by rw[hk];exact⟨_,I',q⟩)
 ·have hk:(k+(its.toArray.size:Int)).toNat=j:=by
   rw[seqIndex_neg (by omega) h3] at h1
   rw[Yr,<- hl];exact M? h1
  exact PySem.W.ki_setBack ho (by omega) (by rw[Yr,<- hl];exact h3) (by omega) (by rw[hk];exact⟨_,I',q⟩)
theorem zG (lo hi:Option Int)(n:Nat):(sliceBounds lo hi q? n).1=((HT.pP n 0 lo:Nat):Int)/\(sliceBounds lo hi q? n).2.1=((HT.pP n n hi:Nat):Int)/\(sliceBounds lo hi q? n).2.2=1:=by
 refine⟨?_,?_,rfl⟩
 ·cases lo with
  | none=>simp[sliceBounds,HT.pP]
  | some i=>
   simp only[sliceBounds,HT.pP,Option.getD_none,show(1:Int) > 0 by decide,if_true]
   by_cases h:i<0
   ·simp only[h,if_true] <;> omega
   ·simp only[h,if_false] <;> omega
 ·cases hi with
  | none=>simp[sliceBounds,HT.pP]
  | some i=>
   simp only[sliceBounds,HT.pP,Option.getD_none,show(1:Int) > 0 by decide,if_true]
   by_cases h:i<0
   ·simp only[h,if_true] <;> omega
   ·simp only[h,if_false] <;> omega
theorem ye (its:List l?)(lo hi:Option Int):slicePick its.toArray lo hi q?=((its.drop (HT.pP its.length 0 lo)).take (HT.pP its.length its.length hi-HT.pP its.length 0 lo)).toArray:=by
 obtain⟨h1,h2,h3⟩:=zG lo hi its.toArray.size;unfold slicePick;rw[h1,h2,h3];simp only[sliceRange_one,pick_run,Yr] <;> rfl
def RN (K:bE):V->Option Int->Option Int->Hp->VK->Prop:=λx lo hi H Q=>∃a xs,x=.ref a/\aP K H a xs/\∀p,H p=q?->Q (.ref p) (upd H p (.lst (iw xs lo hi)))
theorem LK:UL X (RN X.K):=by
 intro pins s σ H x v vl vu lo hi sl Q I rx hs pl pu h;obtain⟨a,xs,rfl,hx,q⟩:=h;cases rx;obtain⟨its,r,ht,hz⟩:=I.list hx;have hlen:=r.length;refine⟨"list",_,slot_list_getitem.lookup,ht.isList.typeIs,?_⟩
 refine wpAny_getItem_list_slice ht.isList hs pl pu .none (by simp) ?_ (by rw[Yr] <;> omega)
 rw[ye,<- hlen];refine⟨.ref s.heap.objs.size,_,I.laid (t':=s.toks) (o:=.lst (iw xs lo hi)) (λb ob q=>Yh _ q) (Yd _) ?_,rfl,q _ (I.hok.fresh (Yd _))⟩
 exact⟨Yn (Bb xs lo hi) hz,_,0,(r.drop (HT.pP xs.length 0 lo)).take (HT.pP xs.length xs.length hi-HT.pP xs.length 0 lo),Yv _ rfl⟩
def rQ:V->Bool
 | .eZ=>true
 | .bl _=>true
 | .int _=>true
 | .str _=>true
 | _=>false
def Nd:V->V->Bool
 | .eZ,.eZ=>true
 | .bl a,.bl b=>a == b
 | .bl a,.int b=>(if a then 1 else 0) == b
 | .int a,.bl b=>a ==(if b then 1 else 0)
 | .int a,.int b=>a == b
 | .str a,.str b=>a == b
 | _,_=>false
theorem OF {A:A!}{s:u?}{y x:V}{u v:l?}(ry:RelV y u)(rx:RelV x v)(fy:rQ y=true)(fx:rQ x=true):SeqAt.EqAt A s u v (Nd y x):=by
 cases y with
 | eZ=>
  cases ry;cases x with
  | eZ=>cases rx;exact SeqAt.EqAt.same _
  | bl b=>cases rx;exact SeqAt.EqAt.none_bool b
  | int b=>obtain⟨t,rfl⟩:=rx;exact SeqAt.EqAt.none_int b t
  | str b=>obtain⟨t,rfl⟩:=rx;exact SeqAt.EqAt.none_str b t
  | _=>exact Jf (show false=true from fx) E?
 | bl a=>
  cases ry;cases x with
  | eZ=>cases rx;exact SeqAt.EqAt.bool_none a
  | bl b=>cases rx;exact SeqAt.EqAt.bool_bool a b
  | int b=>obtain⟨t,rfl⟩:=rx;exact SeqAt.EqAt.bool_int a b t
  | str b=>obtain⟨t,rfl⟩:=rx;exact SeqAt.EqAt.bool_str a b t
  | _=>exact Jf (show false=true from fx) E?
 | int a=>
  obtain⟨t',rfl⟩:=ry;cases x with
  | eZ=>cases rx;exact SeqAt.EqAt.int_none a t'
  | bl b=>cases rx;exact SeqAt.EqAt.int_bool a t' b
  | int b=>obtain⟨t,rfl⟩:=rx;exact SeqAt.EqAt.int_int a t' b t
  | str b=>obtain⟨t,rfl⟩:=rx;exact SeqAt.EqAt.int_str a t' b t
  | _=>exact Jf (show false=true from fx) E?
 | str a=>
  obtain⟨t',rfl⟩:=ry;cases x with
  | eZ=>cases rx;exact SeqAt.EqAt.str_none a t'
  | bl b=>cases rx;exact SeqAt.EqAt.str_bool a t' b
  | int b=>obtain⟨t,rfl⟩:=rx;exact SeqAt.EqAt.str_int a t' b t
  | str b=>obtain⟨t,rfl⟩:=rx;exact SeqAt.EqAt.str_str a t' b t
  | _=>exact Jf (show false=true from fx) E?
 | _=>exact Jf (show false=true from fy) E?
def LL (x:V)(u:l?):Bool:=match u with
 | .none=>Nd .eZ x
 | .bool b=>Nd (.bl b) x
 | .int i _=>Nd (.int i) x
 | .str z _=>Nd (.str z) x
 | _=>false
theorem HC {x y:V}{u:l?}(r:RelV y u)(f:rQ y=true):LL x u=Nd y x:=by
 cases y with
 | eZ=>cases r;rfl
 | bl b=>cases r;rfl
 | int i=>obtain⟨t,rfl⟩:=r;rfl
 | str z=>obtain⟨t,rfl⟩:=r;rfl
 | _=>exact Jf (show false=true from f) E?
theorem zH {x:V}:∀ {xs:List V} {us:List l?},Vals xs us->xs.all rQ=true->us.any (LL x)=xs.any λy=>Nd y x
 | _,_,.nil,_=>rfl
 | y::xs,u::us,.cons r t,f=>by
  rw[List.all_cons,T?] at f;rw[List.any_cons,List.any_cons,HC r f.1,zH t f.2]
theorem we {A:A!}{s:u?}{x:V}{v:l?}(rx:RelV x v)(fx:rQ x=true):∀ {xs:List V} {us:List l?},Vals xs us->xs.all rQ=true->∀u∈us,SeqAt.EqAt A s u v (LL x u)
 | _,_,.nil,_=>λu hu=>by cases hu
 | y::xs,u::us,.cons r t,f=>λu' hu=>by
  rw[List.all_cons,T?] at f;rcases List.mem_cons.mp hu with rfl|hu
  ·rw[HC r f.1];exact OF r rx f.1 fx
  ·exact we rx fx t f.2 u' hu
def LM (x:V)(xs:List V):Bool:=xs.any λy=>Nd y x
def Xm (K:bE)(neg:Bool):R2:=λx y H Q=>∃p xs,y=.ref p/\(aP K H p xs\/jv K H p xs)/\rQ x=true/\xs.all rQ=true/\Q (.bl (if neg then !LM x xs else LM x xs)) H
theorem F4:qc X (K! .In) (Xm X.K false):=by
 intro pins s σ H x y v u Q I rx ry h;obtain⟨p,xs,rfl,hq,fx,fs,q⟩:=h;cases ry;rcases hq with hq|hq
 ·obtain⟨its,r,pl,hz⟩:=I.list hq
  refine SeqAt.in_listAt (LL x) pl.isList (λw hw=>we rx fx r fs w (by simpa using hw)) ⟨.bl _,H,I,rfl,?_⟩
  rw[show its.toArray.any (LL x)=its.any (LL x) by simp,zH r fs]
  exact q
 ·obtain⟨its,r,pl,hz⟩:=I.tuple hq
  refine SeqAt.in_tupleAt (LL x) pl (λw hw=>we rx fx r fs w (by simpa using hw)) ⟨.bl _,H,I,rfl,?_⟩
  rw[show its.toArray.any (LL x)=its.any (LL x) by simp,zH r fs]
  exact q
theorem zI:ir X (.builtin "len") (λxs H Q=>∃p ys,xs=[.ref p]/\(aP X.K H p ys\/jv X.K H p ys)/\Q (.int ys.length) H):=by
 intro pins s σ H xs us Q I r h;obtain⟨p,ys,rfl,hq,q⟩:=h;obtain⟨u,rfl,rx⟩:=vals1 r;cases rx;have hn:=v_;rcases hq with hq|hq
 ·obtain⟨its,r',pl,hz⟩:=I.list hq
  have hlen:=r'.length;exact Calls.call_len_list pl.isList (by simp only[Yr] <;> omega) ⟨.int ys.length,H,I.tok _,⟨s.toks+1,by rw[Yr,hlen]⟩,q⟩
 ·obtain⟨its,r',pl,hz⟩:=I.tuple hq
  have hlen:=r'.length;exact len_tuple pl (by simp only[Yr] <;> omega) ⟨.int ys.length,H,I.tok _,⟨s.toks+1,by rw[Yr,hlen]⟩,q⟩
theorem gP:ir X (.type "list") (λxs H Q=>∃p ys,xs=[.ref p]/\(aP X.K H p ys\/jv X.K H p ys)/\∀l,H l=q?->Q (.ref l) (upd H l (.lst ys))):=by
 intro pins s σ H xs us Q I r h;obtain⟨p,ys,rfl,hq,q⟩:=h;obtain⟨u,rfl,rx⟩:=vals1 r;cases rx;have fin:∀(its:List l?),Vals ys its->ys.length<=K?->∀(h':O?) (c':Nat),(∀b o',s.heap.get? b=j? o'->h'.get? b=j? o')->
   h'.get? s.heap.objs.size=j? { cls:=.type "list",dict:=q?,data:=.seq its.toArray c',slots:=#[] }->EP X pins σ Q (.ref s.heap.objs.size) { s with heap:=h' }:=λits r' hz h' c' kp e=>
  ⟨.ref s.heap.objs.size,_,I.laid (t':=s.toks) kp (Yd _) (show iU X.prog X.w _ h' _ (.lst ys) from⟨hz,its,c',r',e⟩),rfl,q _ (I.hok.fresh (Yd _))⟩
 rcases hq with hq|hq
 ·obtain⟨its,r',pl,hz⟩:=I.list hq
  have hlen:=r'.length;obtain⟨o,ho,hc,n,hd⟩:=pl.isList;exact call_list_seq p (.inl rfl) ho hc hd (λh' c' kp e=>fin its r' hz h' c' kp e) (by simp only[Yr] <;> omega)
 ·obtain⟨its,r',pl,hz⟩:=I.tuple hq
  have hlen:=r'.length;obtain⟨o,ho,hc,n,hd⟩:=pl;exact call_list_seq p (.inr rfl) ho hc hd (λh' c' kp e=>fin its r' hz h' c' kp e) (by simp only[Yr] <;> omega)
def UM (K:bE)(T:String)(x:V)(H:Hp):Prop:=match x with
 | .str _=>T="str"
 | .int _=>T="int"
 | .ref p=>(T="list"/\∃xs,aP K H p xs)\/(T="tuple"/\∃o,K.lookup p=j? o/\o.cls=.type "tuple"/\o.dict=q?)\/
   (T="dict"/\((∃kvs,H p=j? (.dK kvs))\/∃kvs,H p=j? (.dT kvs)))\/(T="set"/\∃S n,H p=j? (.set S n))
 | _=>False
theorem HD {pins:List (o?×Obj)}{σ:St}{H:Hp}{s:u?}{T:String}{x:V}{v:l?}(I:Inv X pins σ H s)(r:RelV x v)(ty:UM X.K T x H):
  s.TypeIs v T/\∀a,v=.ref a->∃ob,s.heap.get? a=j? ob/\ob.dict=q?:=by
 cases x with
 | str z=>
  obtain⟨t,rfl⟩:=r;cases (show T="str" from ty)
  exact⟨typeIs_str s z t,λ_ e=>nomatch e⟩
 | int i=>
  obtain⟨t,rfl⟩:=r;cases (show T="int" from ty)
  exact⟨typeIs_int s i t,λ_ e=>nomatch e⟩
 | ref p=>
  cases r;rcases ty with ⟨rfl,xs,hq⟩|⟨rfl,o,hk,hc,hd⟩|⟨rfl,hk⟩|⟨rfl,S,n,hk⟩
  ·obtain⟨its,_,pl,_⟩:=I.list hq
   refine⟨pl.isList.typeIs,λa e=>?_⟩
   cases e;obtain⟨o,n,e,c,hd,_⟩:=pl;exact⟨o,e,hd⟩
  ·refine⟨⟨o,I.A3 p o hk,hc⟩,λa e=>?_⟩
   cases e;exact⟨o,I.A3 _ o hk,hd⟩
  ·have z:∃o,s.heap.get? p=j? o/\o.ExactDict:=by
    rcases hk with ⟨kvs,hk⟩|⟨kvs,hk⟩
    ·obtain⟨_,_,_,_,o,_,_,e,ex,_⟩:=I.hok p _ hk
     exact⟨o,e,ex⟩
    ·obtain⟨_,_,_,_,o,_,_,e,ex,_⟩:=I.hok p _ hk
     exact⟨o,e,ex⟩
   obtain⟨o,e,ex⟩:=z;refine⟨⟨o,e,ex.1⟩,λa e2=>?_⟩
   cases e2;exact⟨o,e,ex.2.1⟩
  ·obtain⟨o,_,_,_,e,ex,_⟩:=I.hok p _ hk
   refine⟨⟨o,e,ex.1⟩,λa e2=>?_⟩
   cases e2;exact⟨o,e,ex.2.1⟩
 | _=>exact N! ty
def UN (K:bE)(T:String)(r:V->List V->Hp->VK->Prop)(to:TE):TE:=λσ H Q=>to σ H λx H1=>UM K T x H1/\r x [] H1 Q
def tBM (K:bE)(T:String)(r:V->List V->Hp->VK->Prop)(to:TE)(t:TA):TE:=λσ H Q=>to σ H λx H1=>UM K T x H1/\t σ H1 λxs H2=>r x xs H2 Q
variable {o e:Expr} {es:List Expr} {to:TE} {t:TA} {name:Str} {apos cpos:Pos} {T id:String} {r:V->List V->Hp->VK->Prop}
theorem zJ (pa:PlainAttrs T)(slot:Slot T name id)(hty:typeOf (.builtin id)=pure (.type "method_descriptor"))(hm:Xl X id r)(ho:PE X o to)
  (hbase:attributeBase o name X.env (eval o X.env)=eval o X.env:=by rfl) (hline:(apos.endLine == cpos.line)=true:=by rfl):PE X (.Call (.Attribute o name apos) [] [] cpos) (UN X.K T r to):=by
 refine⟨?_⟩
 intro pins s σ H Q I h;refine wpAny_Call_method0_late hbase hline (eU (ho pins s σ H _ I h) λv s1 ⟨x,H1,I1,r1,ty,q1⟩=>?_)
 obtain⟨h1,h2⟩:=HD I1 r1 ty;exact⟨T,id,pa,slot,hty,h1,h2,Calls.callWith_builtin rfl (PySem.evalArgs_none (hm pins s1 σ H1 x [] v [] Q I1 r1 .nil q1))⟩
theorem qg (pa:PlainAttrs T)(slot:Slot T name id)(hty:typeOf (.builtin id)=pure (.type "method_descriptor"))(hm:Xl X id r)(ho:PE X o to)(ha:PA X (e::es) t)
  (hbase:attributeBase o name X.env (eval o X.env)=eval o X.env:=by rfl)
  (hfew:((backTo cpos (I? (e::es) X.env)).all (λx=>!x.1) && (backToKw cpos (keywordEach [] X.env)).all (λx=>x.1.isSome)
   && decide ((e::es).length+([]:List Keyword).length+(if ([]:List Keyword).isEmpty then 0 else 1)<30))=true:=by rfl)
  (hline:(apos.endLine == cpos.line)=true:=by rfl) (hs:I? (e::es) X.env=(false,eval e X.env)::I? es X.env:=by rfl) (hplain:(backTo cpos (I? es X.env)).any (·.1)=false:=by rfl):
  PE X (.Call (.Attribute o name apos) (e::es) [] cpos) (tBM X.K T r to t):=by
 refine⟨?_⟩
 intro pins s σ H Q I h;refine wpAny_Call_method_late hbase hfew hline rfl (eU (ho pins s σ H _ I h) λv s1 ⟨x,H1,I1,r1,ty,q1⟩=>?_)
 obtain⟨h1,h2⟩:=HD I1 r1 ty;refine⟨T,id,pa,slot,hty,h1,h2,?_⟩
 have hA:=ha cpos pins s1 σ H1 _ I1 q1;rw[hs] at hA ⊢;refine Calls.callWith_builtin (by show(false || (backTo cpos (I? es X.env)).any (·.1))=false;rw[hplain] <;> rfl) (Calls.evalArgs_plain ?_)
 exact eU hA λus s2 ⟨vs,H2,I2,r2,q2⟩=>hm pins s2 σ H2 x vs v us Q I2 r1 r2 q2
end
def UO (X:Cx)(id:String)(r:V->List V->Hp->VK->Prop):Prop:=
 ∀(pins:List (o?×Obj)) (s:u?) (σ:St) (H:Hp) (x:V) (xs:List V) (v:l?) (us:List l?) (Q:VK),Inv X pins σ H s->RelV x v->Vals xs us->r x xs H Q->
  L? (S? X.prog X.w) X.A (call (.builtin id) (v::us)) (EP X pins σ Q) X.xe s
theorem Vals.one:∀ {x:V} {us:List l?},Vals [x] us->∃u,us=[u]/\RelV x u
 | _,_,.cons r .nil=>⟨_,rfl,r⟩
theorem Vals.zero:∀ {us:List l?},Vals [] us->us=[]
 | _,.nil=>rfl
theorem Vals.reverse {xs:List V}{us:List l?}(h:Vals xs us):Vals xs.reverse us.reverse:=by
 induction h with
 | nil=>exact .nil
 | cons r t ih=>rw[List.reverse_cons,List.reverse_cons];exact Vals.append ih (.cons r .nil)
theorem Vals.rep {xs:List V}{us:List l?}(h:Vals xs us):∀k:Nat,Vals (Yi k xs).flatten (Yi k us).flatten
 | 0=>.nil
 | k+1=>by
  rw[Zh,Zh,Wq,Wq];exact Vals.append h (Vals.rep h k)
theorem foldl_rep (its:List l?):∀(k:Nat) (acc:List l?),
  List.foldl (λx1 x2=>x1++x2) acc.toArray (Yi k its.toArray)=(acc++(Yi k its).flatten).toArray
 | 0,acc=>by simp
 | k+1,acc=>by
  have e:acc.toArray++its.toArray=(acc++its).toArray:=by simp
  have e2:(acc++its)++(Yi k its).flatten=acc++(Yi (k+1) its).flatten:=by
   rw[Zh,Wq,List.append_assoc]
  rw[<- e2,<- foldl_rep its k (acc++its),<- e,Zh,List.foldl_cons]
section
variable {X:Cx} {pins:List (o?×Obj)} {σ:St} {H:Hp} {s:u?} {l b:o?} {xs ys zs:List V}
theorem Inv.OG {its its':List l?}{n:Nat}{f:Array l?->Array l?}{t':Nat}(I:Inv X pins σ H s)(hH:H l=j? (.lst xs))
  (e:s.heap.get? l=j? { cls:=.type "list",data:=.seq its.toArray n }) (hf:f its.toArray=its'.toArray) (hv:Vals ys its') (hz:ys.length<=K?):
  Inv X pins σ (upd H l (.lst ys)) { s with heap:=s.heap.update l (D! f),toks:=t' }:=by
 have q:=PySem.IsL.update e f;rw[hf] at q;refine I.write (x:=l) (e:=l) (by rw[hH];exact trivial) (.inl rfl) (λb' u hb hu=>(Heap.get?_update_other s.heap (D! f) (Ne.symm hb)).trans hu) ⟨_,q⟩ ?_
 exact⟨hz,its',_,hv,q⟩
theorem Inv.RO {its:List l?}{t':Nat}(I:Inv X pins σ H s)(hv:Vals ys its)(hz:ys.length<=K?):
  Inv X pins σ (upd H s.heap.objs.size (.lst ys)) { s with heap:=s.heap.push { cls:=.type "list",data:=.seq its.toArray },toks:=t' }:=
 I.laid (λ_ _ q=>Yh _ q) (Yd _) ⟨hz,its,0,hv,Yv _ rfl⟩
theorem Inv.fresh (I:Inv X pins σ H s):H s.heap.objs.size=q?:=I.hok.fresh (Yd _)
theorem Inv.F5 (I:Inv X pins σ H s)(hH:H l=j? (.lst xs)):xs.length<=K?/\∃(its:List l?) (n:Nat),Vals xs its/\xs.length=its.length/\s.heap.get? l=j? { cls:=.type "list",data:=.seq its.toArray n }:=by
 obtain⟨z,its,n,r,e⟩:=I.hok l _ hH;exact⟨z,its,n,r,r.length,e⟩
theorem HE {n:Nat}(h:n<=K?):Builtin.List.listTooLong n=false:=by
 unfold Builtin.List.listTooLong;exact Jc (by omega)
end
section
variable {X:Cx}
def LN:V->List V->Hp->VK->Prop:=λx vs H Q=>∃l xs y,x=.ref l/\vs=[y]/\H l=j? (.lst xs)/\xs.length<K?/\Q .eZ (upd H l (.lst (xs++[y])))
theorem dO:UO X "list.append" LN:=by
 intro pins s σ H x vs v us Q I rx rv h;obtain⟨l,xs,y,rfl,rfl,hH,hz,q⟩:=h;cases rx;obtain⟨u,rfl,ru⟩:=rv.one;obtain⟨z,its,n,r,hl,e⟩:=I.F5 hH;refine call_meets F.slot_list_append ⟨_,e,rfl⟩ F.entry_list_append (F.args_list_append_2 _ _) (PySem.list_append l its.toArray n u (by rw[Yr];omega)) ⟨e,?_⟩
 refine⟨.eZ,_,I.OG (its':=its++[u]) hH e (by simp) (r.append (.cons ru .nil)) ?_,rfl,q⟩
 rw[Yk,List.length_singleton];omega
def HF:V->List V->Hp->VK->Prop:=λx vs H Q=>∃l xs,x=.ref l/\vs=[]/\H l=j? (.lst xs)/\Q .eZ (upd H l (.lst xs.reverse))
theorem qx:UO X "list.reverse" HF:=by
 intro pins s σ H x vs v us Q I rx rv h;obtain⟨l,xs,rfl,rfl,hH,q⟩:=h;cases rx;have Nf:=rv.zero;subst Nf;obtain⟨z,its,n,r,hl,e⟩:=I.F5 hH;refine call_meets F.slot_list_reverse ⟨_,e,rfl⟩ F.entry_list_reverse (F.args_list_reverse_1 _) (AutoSeq1.list_reverse_list_0 l its.toArray n (by rw[Yr];omega)) ⟨e,?_⟩
 refine⟨.eZ,_,I.OG (its':=its.reverse) hH e (by simp) r.reverse ?_,rfl,q⟩
 rw[Z1];omega
def OH:V->List V->Hp->VK->Prop:=λx vs H Q=>∃l xs,x=.ref l/\vs=[]/\H l=j? (.lst xs)/\Q .eZ (upd H l (.lst []))
theorem HG:UO X "list.clear" OH:=by
 intro pins s σ H x vs v us Q I rx rv h;obtain⟨l,xs,rfl,rfl,hH,q⟩:=h;cases rx;have Nf:=rv.zero;subst Nf;obtain⟨z,its,n,r,hl,e⟩:=I.F5 hH;refine call_meets F.slot_list_clear ⟨_,e,rfl⟩ F.entry_list_clear (F.args_list_clear_1 _) (AutoSeq1.list_clear_list_0 l its.toArray n (by rw[Yr];omega)) ⟨e,?_⟩
 exact⟨.eZ,_,I.OG (its':=[]) (ys:=[]) hH e rfl .nil (Y1 _),rfl,q⟩
def UP:R2:=λx y H Q=>∃l b xs zs,x=.ref l/\y=.ref b/\H l=j? (.lst xs)/\H b=j? (.lst zs)/\xs.length+zs.length<=K?/\∀p,H p=q?->Q (.ref p) (upd H p (.lst (xs++zs)))
theorem gm:qc X (binaryOp .Add) UP:=by
 intro pins s σ H x y v u Q I rx ry h;obtain⟨l,b,xs,zs,rfl,rfl,hH,hB,hz,q⟩:=h;cases rx;cases ry;obtain⟨z,its,n,r,hl,e⟩:=I.F5 hH;obtain⟨z2,its2,n2,r2,hl2,e2⟩:=I.F5 hB;refine PySem.P.add_list e e2 ?_ (by rw[Yr,Yr];omega)
 have ea:its.toArray++its2.toArray=(its++its2).toArray:=by simp
 rw[ea];exact⟨.ref _,_,I.RO (t':=s.toks) (r.append r2) (by rw[Yk];omega),rfl,q _ I.fresh⟩
def UQ:R2:=λx y H Q=>∃l k xs,x=.ref l/\y=.int k/\H l=j? (.lst xs)/\-(2 ^ 63)<=k/\k<2 ^ 63/\xs.length*k.toNat<=K?/\
 ∀p,H p=q?->Q (.ref p) (upd H p (.lst (Yi k.toNat xs).flatten))
theorem len_rep {α:Type}(xs:List α)(k:Nat):(Yi k xs).flatten.length=k*xs.length:=by
 induction k with
 | zero=>simp
 | succ k ih=>rw[Zh,Wq,Yk,ih,Nat.succ_mul,Nat.add_comm]
theorem lW:qc X (binaryOp .Mult) UQ:=by
 intro pins s σ H x y v u Q I rx ry h;obtain⟨l,k,xs,rfl,rfl,hH,h1,h2,hz,q⟩:=h;cases rx;obtain⟨t,rfl⟩:=ry;obtain⟨z,its,n,r,hl,e⟩:=I.F5 hH;have hlen:its.toArray.size*k.toNat<=K?:=by rw[Yr,<- hl];exact hz
 have hcap:¬ its.toArray.size*k.toNat > (2 ^ 63-1) / 8:=by
  have:(K?:Nat)<=(2 ^ 63-1) / 8:=by decide
  omega
 have hfit:¬ (!Builtin.List.listFitsIndex k)=true:=by
  rw[fitsIndex_both h1 h2];exact E?
 have RP:¬ Builtin.List.listTooLong (its.toArray.size*k.toNat)=true:=by
  rw[HE hlen];exact E?
 have hnew:List.foldl (λx1 x2=>x1++x2) #[] (Yi (if its.toArray.isEmpty=true then 0 else k.toNat) its.toArray)=(Yi k.toNat its).flatten.toArray:=by
  have f0:∀m:Nat,List.foldl (λx1 x2=>x1++x2) #[] (Yi m its.toArray)=(Yi m its).flatten.toArray:=λm=>by
   have:=foldl_rep its m []
   rw[List.nil_append] at this;exact this
  rw[f0];cases its with
  | nil=>simp
  | cons a r'=>rw[W8 (by simp)]
 refine wpAny_binaryOp_repeat_ref (T:="list") (U:="int") (by decide) ⟨_,e,rfl⟩ (λs'=>typeIs_int s' k t) noFill_list_mul F.fills_int_mul F.slot_int_rmul repeat_list F.slot_int_index.lookup
  (call_meets F.slot_int_rmul (typeIs_int s k t) F.entry_int_rmul (F.args_int_rmul_2 _ _) (int___rmul___int_list k t l its.toArray n)
   ⟨e,rfl,⟨_,e,rfl⟩,call_meets F.slot_list_mul ⟨_,e,rfl⟩ F.entry_list_mul (F.args_list_mul_2 _ _) (AutoListH.list___mul___list_int_3 l its.toArray n k t hfit hcap RP) ⟨e,?_⟩⟩)
 rw[hnew];exact⟨.ref _,_,I.RO (t':=s.toks) (r.rep k.toNat) (by rw[len_rep,Ws];exact hz),rfl,q _ I.fresh⟩
end
end L2
namespace Att
open PySem PySem.W PySem.Calls PyProof.Rows
theorem u9 {P:Params}{h:O?}:∀(ns:List Int) (vs:List l?),WellAll P h vs (ns.map WData.int)->IntsAre vs ns:=by
 intro ns;induction ns with
 | nil=>
  intro vs w;rw[List.map_nil] at w;cases w;exact .nil
 | cons n ns ih=>
  intro vs w;rw[List.map_cons] at w;cases w with
  | cons a b=>
   cases a;exact .cons _ _ (ih _ b)
theorem F6 {l:OpenLaw}{n:Nat}(hn:l.most=j? n){P:Params}{h:O?}{args:List WData}{vals:List l?}
  (hpre:l.row.toRowW.claim.pre args=true) (hwl:WellAll P h vals args):
  ∃a vs ns,vals=[I! a]/\args=[WData.list (ns.map WData.int)]/\h.get? a=j? { cls:=.type "list",data:=.seq vs.toArray }/\IntsAre vs ns/\ns.length<=n:=by
 have hsh:WShape.hasAll [] args [.list .int]=true:=(pre_splitW hpre).1;have hc:l.pre.holds [] { args:=args }=true:=(pre_splitW hpre).2;obtain⟨d,r,rfl,h1,h2⟩:=hasAllW_cons hsh;obtain rfl:=hasAllW_nil h2
 obtain⟨xs,rfl,h3⟩:=hasW_list h1;obtain⟨ns,rfl⟩:=items_int h3;have hlen:ns.length<=n:=by
  unfold OpenLaw.pre at hc;have h4:(WTm.not (.lt (.lit (.int (n:Int))) (.len (.arg 0)))).holds [] { args:=[.list (ns.map .int)] }=true:=by
   have h4:=(holds_andW hc).1;rw[hn] at h4;exact h4
  have h5:=condW_of h4 (w_not (w_lt w_lit (w_len_list (w_arg rfl))));rw[Ya] at h5;refine Nat.le_of_not_lt λq=>?_
  have q':(n:Int)<((ns.length:Nat):Int):=by omega
  first
   | (rw[Ja q'] at h5;exact Jf h5 (by decide))
   | (simp at h5;omega)
 cases hwl with
 | cons w1 w2=>
  cases w2;cases w1 with
  | list ho hall=>exact⟨_,_,ns,rfl,rfl,ho,u9 ns _ hall,hlen⟩
theorem F7 (l:OpenLaw)(args:List WData):l.row.toRowW.claim.post args (.bool true) args=true:=
 postW_of (r:=l.row.toRowW) (X:=(true == true))
  (show WShape.has [] (.bool true) .bool=true by first|rfl|decide|simp[WShape.has,WShape.arms,WShape.armsAll])
  (show(WTm.eq .res (.lit (.bool true))).value [] { args:=args,res:=j? (.bool true),after:=args }=j? (.bool (true == true)) from w_eq_bool (w_res rfl) w_lit) rfl
theorem Bc {l:OpenLaw}{n:Nat}{q:F?}{loose:List Str}{XP:(Str->Option l?)->O?->Prop}{YP:H?->O?->Prop}{d:DefRec}
  (hn:l.most=j? n) (hdf:d.params.defaults=[])
  (call:∀(w:H?) (s₀ s₁:u?) (mg mb:Str->Option l?) (fa:o?) (o:Obj) (pm cd doc:l?) (a:o?) (vs:List l?) (ns:List Int),
   Ground q loose [] XP w s₀ mg mb s₁.heap->YP w s₁.heap->
   s₁.heap.get? fa=j? o->o.data=.func (docDef d.name d.params d.body d.scope pm cd doc)->s₁.heap.CodeRec cd d.name->mg d.name=j? (.ref fa)->
   s₁.heap.get? a=j? { cls:=.type "list",data:=.seq vs.toArray }->IntsAre vs ns->ns.length<=n->s₁.gens=#[]->
   codeAny (S? l.prog w) callerA (.call (.ref fa) ⟨[.ref a],[]⟩) (λr s'=>r=.ok (.ret (.bool true))/\OldK s₁.heap s'.heap/\s'.os=s₁.os/\AllBare s'.gens) s₁):
  WalkO q loose XP YP l.row.toRowW d [] (λf vs=>PySem.call f vs):=by
 intro w s₀ s₁ mg mb G Y fa o pm cd doc dV kV ho hd hcd hD hmg hg args vals as hpre hlay hrd hwl hlo;obtain rfl:dV=.none:=Dflts.none hD hdf
 obtain rfl:kV=.none:=Dflts.noKw hD
 obtain⟨a,vs,ns,rfl,rfl,hobj,hints,hlen⟩:=F6 hn hpre hwl;refine enter_call (codeAny_mono (call w s₀ s₁ mg mb fa o pm cd doc a vs ns G Y ho (fd_plain hd) hcd hmg hobj hints hlen hg) λr s' hq=>?_)
 obtain⟨rfl,h2,h3,h4⟩:=hq;exact⟨.inl ⟨.bool true,.bool true,[],rfl,λ_=>rfl,.bool true,F7 l _,λ_=>⟨List.Pairwise.nil,λ_ hm=>(nomatch hm)⟩⟩,h2,h3,h4⟩
end Att
namespace L2
open PySem PySem.Spec PyProof.Rows
theorem yP:∀ {vs:List l?} {ns:List Int},IntsAre vs ns->Vals (ns.map V.int) vs
 | _,_,.nil=>.nil
 | _,_,.cons n t h=>.cons ⟨t,rfl⟩ (yP h)
def dH (s:Q?):Arguments:=match s with
 | .FunctionDef _ a _ _ _ _ _ _ _ _=>a
 | _=>{ posonlyargs:=[],args:=[],vararg:=q?,kwonlyargs:=[],kw_defaults:=[],kwarg:=q?,defaults:=[] }
def cB (s:Q?):List Q?:=match s with
 | .FunctionDef _ _ b _ _ _ _ _ _ _=>b
 | _=>[]
def ao (s:Q?):Scope:=match s with
 | .FunctionDef _ _ _ _ _ _ sc _ _ _=>sc
 | _=>{ kind:=.function,names:=[],isGenerator:=false,isCoroutine:=false }
abbrev ES:F1:=λ_ _ _ _ _ _=>False
abbrev E0:XK:=λ_ _ _=>False
theorem RQ {X:Cx}:Passes ES X E0:=λ_ _ _ _ _ _ _ h=>h.elim
structure Lf (K:bE)(x qual:Str)(st:Q?)(f:o?)(fd:P!):Prop where
 ex:∃(oc:l?) (od:Option o?) (kV doc pm:l?) (an:Option o?) (cdv ct:l?) (osl:Array (Option l?)),
  fd=W? x qual (dH st) (cB st) (ao st) .none kV doc pm an cdv ct/\K.lookup f=j? ⟨oc,od,.func fd,osl⟩/\PySem.W.codeIn K cdv qual=true
 kp:C! K (.ref f)=true
section
variable {P:F?} {w:H?} {K:bE} {mg:Str->Option l?} {base:O?}
theorem Lf.ok {x qual:Str}{st:Q?}{f:o?}{fd:P!}{N ps:List Str}{k:Nat}{sp:Sp}(F:Lf K x qual st f fd)(S:aM N ps (ao st))(len:∀vs H Q E,sp vs H Q E->vs.length=ps.length)
  (hbody:∀(cdv:l?) (A:A!) (outer:List Env) (s:u?) (H:Hp) (vs:List V) (Q:VK) (E:XK),fL k (A.deeper (envOfC qual (ao st) s.heap.objs.size f cdv))->sp vs H Q E->
   ∃t,zB (qw ES P w K mg base N qual (ao st) f cdv A outer s H E).M9 (cB st) t/\t { nx:=λ_ H'=>Q .eZ H',rt:=Q } (start N vs) H):lU P w K mg base ES (k+1) f fd ps sp:=by
 obtain⟨oc,od,kV,doc,pm,an,cdv,ct,osl,rfl,lk,hcd⟩:=F.ex;refine HB lk hcd S len λA outer s H vs Q E hr Ld=>?_
 obtain⟨t,h,q⟩:=hbody cdv A outer s H vs Q E hr Ld;exact⟨t,h.M9,q⟩
theorem Lf.binds {x qual:Str}{st:Q?}{f:o?}{fd:P!}{ps:List Str}(F:Lf K x qual st f fd)
  (h:∀(kV doc pm:l?) (an:Option o?) (cdv ct:l?) (us:List l?),us.length=ps.length->bindArgs (W? x qual (dH st) (cB st) (ao st) .none kV doc pm an cdv ct) ⟨us,[]⟩=pure (ps.zip us)):Binds K fd ps []:=by
 obtain⟨oc,od,kV,doc,pm,an,cdv,ct,osl,rfl,lk,hcd⟩:=F.ex;exact .all (h kV doc pm an cdv ct)
theorem wg {x qual:Str}{st:Q?}{f:o?}{oc:l?}{od an:Option o?}{osl:Array (Option l?)}{kV doc pm cdv ct:l?}(l:K.lookup f=j? ⟨oc,od,.func (W? x qual (dH st) (cB st) (ao st) .none kV doc pm an cdv ct),osl⟩)
  (c:Q! K cdv qual=true) (k:C! K (.ref f)=true):Lf K x qual st f (W? x qual (dH st) (cB st) (ao st) .none kV doc pm an cdv ct):=⟨⟨oc,od,kV,doc,pm,an,cdv,ct,osl,rfl,l,c⟩,k⟩
end
section
variable {X:Cx}
theorem pv (i:Nat){x:Str}{pos:Pos}(hN:X.N[i]?=j? x:=by rfl)(hv:QJ X.env.scope x:=by first|exact z? rfl|exact Or.inr (z? rfl)|exact Or.inr (Or.inr rfl))(hd:(x ==("__debug__":Str))=false:=by decide)
  (hcd:(x ==("__classdict__":Str))=false:=by decide):PE X (.Name x pos) (Oh i):=Oi hN hv hd hcd
end
theorem gp {A B:Prop}(h:B):if false=true then A else B:=by
 rw[W8 E?];exact h
theorem jE {A B:Prop}(h:A):if true=true then A else B:=by
 rw[W9 rfl];exact h
theorem fU {c A B:Prop}[Decidable c](h1:c->A)(h2:¬ c->B):if c then A else B:=by
 by_cases h:c
 ·rw[W9 h]
  exact h1 h
 ·rw[W8 h]
  exact h2 h
theorem k8 {c A B:Prop}[Decidable c](hc:c)(h:B):if (!decide c)=true then A else B:=by
 rw[Ja hc];exact gp h
def aH (H H':Hp):Prop:=∀b o,H b=j? o->H' b=j? o
theorem aH.refl (H:Hp):aH H H:=λ_ _ h=>h
theorem aH.trans {H H1 H2:Hp}(a:aH H H1)(b:aH H1 H2):aH H H2:=λc o h=>b c o (a c o h)
theorem aH.free {H H':Hp}(e:aH H H'){l:o?}(h:H' l=Option.none):H l=Option.none:=by
 cases q:H l with
 | none=>rfl
 | some o=>
  rw[e l o q] at h;cases h
theorem aH.seq {K:bE}{H H':Hp}{a:o?}{xs:List V}(e:aH H H')(h:aP K H a xs):aP K H' a xs:=by
 rcases h with (h|⟨o,h⟩)|h
 ·exact .inl (.inl (e _ _ h))
 ·exact .inl (.inr ⟨o,e _ _ h⟩)
 ·exact .inr h
theorem fV {env:Env}:∀ {names:List (Str×NameKind)} {x:Str},names.lookup x=j? .free->
  (names.map λ(n,k)=>if (k == Z? && env.scope.kind == .function && env.kindOf n == j? .cell) then (n,L!) else (n,k)).lookup x=j? .free\/
  (names.map λ(n,k)=>if (k == Z? && env.scope.kind == .function && env.kindOf n == j? .cell) then (n,L!) else (n,k)).lookup x=j? .cell
 | [],_,h=>by simp at h
 | (n,k)::r,x,h=>by
  have ih:=@fV env r x;show List.lookup x ((if (k == Z? && env.scope.kind == .function && env.kindOf n == j? .cell)=true then (n,L!) else (n,k))::_)=_\/List.lookup x ((if (k == Z? && env.scope.kind == .function && env.kindOf n == j? .cell)=true then (n,L!) else (n,k))::_)=_
  cases hx:x == n with
  | true=>
   simp only[Y3,hx] at h
   cases h;by_cases hc:(Z? == Z? && env.scope.kind == .function && env.kindOf n == j? .cell)=true
   ·rw[W9 hc];exact .inr (by simp only[Y3,hx])
   ·rw[W8 hc];exact .inl (by simp only[Y3,hx])
  | false=>
   simp only[Y3,hx] at h
   by_cases hc:(k == Z? && env.scope.kind == .function && env.kindOf n == j? .cell)=true
   ·rw[W9 hc];simp only[Y3,hx];exact ih h
   ·rw[W8 hc];simp only[Y3,hx];exact ih h
theorem lX {env:Env}:∀ {names:List (Str×NameKind)} {x:Str} {kd:NameKind},(∀y∈names,y.2≠.cell)->kd=.cell\/kd=.free->
  (names.map λ(n,k)=>if (k == Z? && env.scope.kind == .function && env.kindOf n == j? .cell) then (n,L!) else (n,k)).lookup x=j? kd->names.lookup x=j? .free
 | [],_,_,_,_,h=>by simp at h
 | (n,k)::r,x,kd,hn,hk,h=>by
  have ih:=@lX env r x kd (λy hy=>hn y (Y5 _ hy)) hk
  have h':List.lookup x ((if (k == Z? && env.scope.kind == .function && env.kindOf n == j? .cell)=true then (n,L!) else (n,k))::(r.map λ(n,k)=>if (k == Z? && env.scope.kind == .function && env.kindOf n == j? .cell) then (n,L!) else (n,k)))=j? kd:=h
  have hkc:k≠.cell:=hn (n,k) Y9;by_cases hc:(k == Z? && env.scope.kind == .function && env.kindOf n == j? .cell)=true
  ·rw[W9 hc] at h'
   have hkf:k=.free:=by
    simp only[T?,beq_iff_eq] at hc
    exact hc.1.1
   subst hkf;cases hx:x == n with
   | true=>simp only[Y3,hx]
   | false=>simp only[Y3,hx] at h' ⊢;exact ih h'
  ·rw[W8 hc] at h'
   cases hx:x == n with
   | true=>
    simp only[Y3,hx] at h' ⊢
    have e:k=kd:=M? h';subst e;rcases hk with hk|hk
    ·exact Jf hk hkc
    ·rw[hk]
   | false=>simp only[Y3,hx] at h' ⊢;exact ih h'
def aT (cells:List (Str×o?)):List (Str×NameKind)->List (Str×o?)->List (Str×o?)
 | [],acc=>acc
 | (n,k)::r,acc=>aT cells r (if k=.free then match cells.lookup n with|some c=>(n,c)::acc|none=>acc else acc)
theorem iM {scope:Scope}{env:Env}(h:∀y∈scope.names,y.2=.free->∃c,env.cells.lookup y.1=j? c):closureFor scope env=pure (aT env.cells scope.names []):=by
 have go:∀(l:List (Str×NameKind)) (acc:List (Str×o?)),(∀y∈l,y.2=.free->∃c,env.cells.lookup y.1=j? c)->
   (forIn l acc λx (r:List (Str×o?))=>(match x with|(name,kind)=>if (kind == Z?)=true then do let c <- cellOf env name;pure (ForInStep.yield ((name,c)::r)) else pure (ForInStep.yield r):Sem (ForInStep (List (Str×o?)))))=pure (aT env.cells l acc):=by
  intro l;induction l with
  | nil=>intro acc _;rfl
  | cons x l ih=>
   intro acc hl;obtain⟨n,k⟩:=x;rw[List.forIn_cons];by_cases hk:k=.free
   ·subst hk
    obtain⟨c,hc⟩:=hl (n,.free) Y9 rfl;have e1:cellOf env n=pure c:=by unfold cellOf;rw[hc]
    simp only[beq_self_eq_true,if_true,e1,pure_bind]
    rw[ih _ λy hy=>hl y (Y5 _ hy)]
    show _=pure (aT env.cells l (if Z?=.free then match env.cells.lookup n with|some c=>(n,c)::acc|none=>acc else acc))
    rw[W9 rfl,hc]
   ·have hb:(k == Z?)=false:=by simpa using hk
    simp only[hb,Bool.false_eq_true,if_false,pure_bind]
    rw[ih _ λy hy=>hl y (Y5 _ hy)]
    show _=pure (aT env.cells l (if k=.free then _ else acc))
    rw[W8 hk]
 unfold closureFor;have:=go scope.names [] h
 simp only[bind_pure_comp] at this ⊢
 first
  | exact this
  | simpa using this
theorem kq {cells:List (Str×o?)}{x:Str}{c:o?}:∀(l:List (Str×NameKind)) (acc:List (Str×o?)),(∀d,acc.lookup x=j? d->cells.lookup x=j? d)->(aT cells l acc).lookup x=j? c->cells.lookup x=j? c
 | [],acc,h,e=>h c e
 | (n,k)::r,acc,h,e=>by
  refine kq r _ (λd hd=>?_) e
  split at hd
  ·split at hd
   ·rename_i c' hc'
    cases hx:x == n with
    | true=>
     simp only[Y3,hx] at hd
     have:x=n:=by simpa using hx
     subst this;rw[hc'];exact hd
    | false=>simp only[Y3,hx] at hd;exact h d hd
   ·exact h d hd
  ·exact h d hd
theorem gq {cells:List (Str×o?)}{x:Str}{c:o?}(hc:cells.lookup x=j? c):∀(l:List (Str×NameKind)) (acc:List (Str×o?)),(acc.lookup x=j? c\/(x,Z?)∈l)->(∀d,acc.lookup x=j? d->d=c)->(aT cells l acc).lookup x=j? c
 | [],acc,h,_=>by
  rcases h with h|h
  ·exact h
  ·cases h
 | (n,k)::r,acc,h,u=>by
  by_cases hk:k=.free
  ·subst hk
   show(aT cells r (if Z?=.free then match cells.lookup n with|some c=>(n,c)::acc|none=>acc else acc)).lookup x=j? c
   rw[W9 rfl];by_cases hx:x=n
   ·subst hx
    rw[hc];refine gq hc r _ (.inl (by simp)) λd hd=>?_
    simp at hd
    exact hd.symm
   ·have hb:(x == n)=false:=by simpa using hx
    have keep:∀(a2:List (Str×o?)),(match cells.lookup n with|some c=>(n,c)::acc|none=>acc)=a2->a2.lookup x=acc.lookup x:=by
     intro a2 e;subst e;cases cells.lookup n with
     | none=>rfl
     | some c'=>simp only[Y3,hb]
    refine gq hc r _ ?_ λd hd=>u d (by rw[keep _ rfl] at hd;exact hd)
    rcases h with h|h
    ·exact .inl (by rw[keep _ rfl];exact h)
    ·rcases List.mem_cons.mp h with h|h
     ·exact Jf (Jd Prod.fst h) hx
     ·exact .inr h
  ·show(aT cells r (if k=.free then _ else acc)).lookup x=j? c
   rw[W8 hk];refine gq hc r _ ?_ u
   rcases h with h|h
   ·exact .inl h
   ·rcases List.mem_cons.mp h with h|h
    ·exact Jf (Jd Prod.snd h).symm hk
    ·exact .inr h
abbrev fY (X:Cx)(N:List Str)(scope:Scope)(cl:List (Str×o?))(C:o?)(s2:u?)(H2:Hp)(fp:List o?):Cx:=
 { X with N:=N,s₀:=s2,H₀:=H2,env:=compEnvC scope cl C X.env,outer:=X.stack,ex:=fp,fn:=λ_=>false,pn:=[],xe:=λ_ _=>False }
def fM (sl:List (Option Nat))(σ:St):St:=sl.map λo=>match o with|some i=>(σ[i]?).join|none=>q?
structure bH (X:Cx)(N:List Str)(sl:List (Option Nat))(scope:Scope):Prop where
 kind:scope.kind=.function
 tO:∀y∈scope.names,y.2≠.cell
 locs:∀y∈scope.names,y.2=.local->scope.names.lookup y.1=j? .local
 frees:∀y∈scope.names,y.2=.free->X.env.kindOf y.1=j? .cell\/X.env.kindOf y.1=j? .free
 len:sl.length=N.length
 out:∀(j i:Nat) (x:Str),N[j]?=j? x->sl[j]?=j? (j? i)->X.N[i]?=j? x/\scope.names.lookup x=j? .free
def Ng (X:Cx)(ifs:List Expr)(t:TT):Prop:=
 ∀(pins:List (o?×Obj)) (s:u?) (σ:St) (H:Hp) (Q:Bool->Hp->Prop),Inv X pins σ H s->t σ H Q->
  L? (S? X.prog X.w) X.A (forIn ifs true λc r=>if r=true then do let ok <- isTrue c X.env (eval c X.env);pure (ForInStep.yield ok) else pure (ForInStep.yield r)) (TP X pins σ Q) X.xe s
def LO:TT:=λ_ H Q=>Q true H
theorem aU {X:Cx}:Ng X [] LO:=λpins s σ H Q I h=>by
 rw[List.forIn_nil];exact J? ⟨H,I,h⟩
theorem LQ {X:Cx}{c:Expr}{t:TT}(h:PT X c t):Ng X [c] t:=λpins s σ H Q I q=>by
 rw[List.forIn_cons];refine B? ?_
 rw[W9 rfl];refine B? (eU (h pins s σ H Q I q) λb s1 r=>J? ?_)
 show L? _ _ (forIn [] b _) _ _ _
 rw[List.forIn_nil];exact J? r
def uO (J:It)(D:o?)(st:St)(g:TG)(pQ:TT)(te:TE)(Q:VK)(H1:Hp):Prop:=∃W:Nat->Nat->Hp->Prop,
 (∃m,W 0 m (upd H1 D (.lst [])))/\∀i m H2,W i m H2->
  (J.stop i H2/\Q (.ref D) H2)\/(J.go i H2/\∀x H',J.Ot i H2 x H'->g x st H' λσ3 H3=>pQ σ3 H3 λb H4=>
   if b=true then te σ3 H4 λy H5=>∃ys,H5 D=j? (.lst ys)/\ys.length<K?/\∃m',m'<m/\W (i+1) m' (upd H5 D (.lst (ys++[y]))) else ∃m',m'<m/\W (i+1) m' H4)
def yQ (wi:TI)(sl:List (Option Nat))(g:TG)(pQ:TT)(te:TE):TE:=λσ H Q=>wi σ H λJ H1=>∀D,H1 D=q?->uO J D (fM sl σ) g pQ te Q H1
section
variable {X:Cx} {N:List Str} {sl:List (Option Nat)} {scope:Scope}
theorem uP {σ:St}{j:Nat}{v:V}(h:(fM sl σ)[j]?=j? (j? v)):∃i,sl[j]?=j? (j? i)/\σ[i]?=j? (j? v):=by
 unfold fM at h;rw[Ye] at h;cases e:sl[j]? with
 | none=>rw[e] at h;cases h
 | some o=>
  rw[e] at h;cases o with
  | none=>cases h
  | some i=>
   refine⟨i,rfl,?_⟩
   have h':(σ[i]?).join=j? v:=M? h;cases e2:σ[i]? with
   | none=>rw[e2] at h';cases h'
   | some q=>rw[e2] at h';exact Jd j? h'
theorem bH.clos (S:bH X N sl scope)(ok:X.Ok):closureFor scope X.env=pure (aT X.env.cells scope.names []):=
 iM λy hy hf=>ok.has y.1 (S.frees y hy hf)
theorem bH.cell (S:bH X N sl scope)(ok:X.Ok){x:Str}(hf:scope.names.lookup x=j? .free){c:o?}(hc:X.env.cells.lookup x=j? c):(aT X.env.cells scope.names []).lookup x=j? c:=
 gq hc _ _ (.inr (U? hf)) λd hd=>by simp at hd
theorem bH.back {x:Str}{c:o?}(h:(aT X.env.cells scope.names []).lookup x=j? c):X.env.cells.lookup x=j? c:=
 kq _ _ (λd hd=>by simp at hd) h
theorem bH.ok (S:bH X N sl scope){pins:List (o?×Obj)}{σ:St}{H2:Hp}{s2:u?}{fp:List o?}{C:o?}(I:Inv X pins σ H2 s2)(hf:∀b∈fp,jZ X pins H2 b)(hlt:∀b∈fp,b<s2.heap.objs.size)(hC:s2.heap.objs.size<=C):
  (fY X N scope (aT X.env.cells scope.names []) C s2 H2 fp).Ok where
 mod:=I.ok.mod
 kind:=S.kind
 glob:=I.ok.glob
 blt:=I.ok.blt
 above:=hC
 inj:=λx y c h1 h2=>I.ok.inj x y c (bH.back h1) (bH.back h2)
 has:=λx hx=>by
  have hx':scope.names.lookup x=j? .free:=by
   rcases hx with hx|hx
   ·exact lX S.tO (.inl rfl) hx
   ·exact lX S.tO (.inr rfl) hx
  obtain⟨c,hc⟩:=I.ok.has x (S.frees _ (U? hx') rfl);exact⟨c,S.cell I.ok hx' hc⟩
 Hr:=λx c h=>Jf (show false=true from h) E?
 hd:=I.ok.hd
 frames:=I.ok.frames
 stk:=.inl rfl
 Lr:=λb hb=>⟨Yq (Yj (hlt b hb) hC),λx c h=>(hf b hb).2.2.2.2.1 x c (bH.back h)⟩
 bs:=I.bs
 A4:=Yn I.ok.A4 I.sz
 vV:=λb o e hb=>by
  rcases (hf b hb).2.2.2.1 with z|z
  ·exact I.ok.vV b o e z
  ·exact Jf (Yj (Yj (Yl e) I.ok.A4) z) (Zz _)
 vW:=λb hb z=>by
  rcases List.mem_cons.mp (I.tH b z) with e|e
  ·exact(hf b hb).2.1 e
  ·exact(hf b hb).2.2.1 e
 kU:=I.stack
 EF:=I.oW
theorem bH.again (S:bH X N sl scope){pins:List (o?×Obj)}{σ:St}{H2:Hp}{s2:u?}{fp:List o?}{C:o?}(I:Inv X pins σ H2 s2)(hf:∀b∈fp,jZ X pins H2 b)
  {uN:List (o?×Obj)} {σ':St} {H':Hp} {s':u?} (J:Inv (fY X N scope (aT X.env.cells scope.names []) C s2 H2 fp) uN σ' H' s'):
  Inv (fY X N scope (aT X.env.cells scope.names []) C s2 H2 fp) uN (fM sl σ) H' s':=by
 obtain⟨m,hn,_⟩:=J.loc;refine⟨J.ok,J.os,J.bare,J.base,⟨m,hn,λj x v e1 e2 _=>?_⟩,J.cell,J.free,J.fX,J.pin,J.hok,?_⟩
 ·obtain⟨i,h1,h2⟩:=uP e2
  obtain⟨hN,hfree⟩:=S.out j i x e1 h1;have hk:=S.frees _ (U? hfree) rfl;obtain⟨m0,hn0,HH⟩:=I.loc;have hv:QJ X.env.scope x:=by
   rcases hk with hk|hk
   ·exact .inr (.inl hk)
   ·exact .inr (.inr hk)
  obtain⟨u,r,l⟩:=HH i x v hN h2 hv;refine⟨u,r,.inr ⟨?_,?_⟩⟩
  ·rcases fV (env:=X.env) hfree with z|z
   ·exact .inr z
   ·exact .inl z
  ·rcases l with ⟨z,_⟩|⟨_,c,hc,q⟩
   ·rcases hk with hk|hk
    ·have hk':X.env.kindOf x=j? .cell:=hk
     rw[hk'] at z;cases z
    ·have hk':X.env.kindOf x=j? .free:=hk
     rw[hk'] at z;cases z
   ·refine⟨c,S.cell I.ok hfree hc,?_⟩
    obtain⟨o,ho,hd⟩:=q;have OI:c ∉ fp:=λz=>(hf c z).2.2.2.2.1 x c hc rfl
    obtain⟨Lu,e⟩:=J.base.any ho (I.fX x c hc) OI;exact⟨_,e,hd⟩
 ·unfold fM
  rw[Ya];exact S.len
theorem Be {elt tg iter:Expr}{ifs:List Expr}{pos pos2:Pos}{wi:TI}{g:TG}{pQ:TT}{te:TE}{use:Option (l?->Sem Unit)}{QQ:l?->u?->Prop}(S:bH X N sl scope)(k_:X.calm=true)(hi:PI X tg iter wi)
  (hg:∀cl C s2 H2 fp,PG (fY X N scope cl C s2 H2 fp) tg g) (hif:∀cl C s2 H2 fp,Ng (fY X N scope cl C s2 H2 fp) ifs pQ) (he:∀cl C s2 H2 fp,PE (fY X N scope cl C s2 H2 fp) elt te)
  (hs:∀x,foldedSetIterable iter X.env x=pure x) {pins:List (o?×Obj)} {s:u?} {σ:St} {H:Hp} {Q:VK} (I:Inv X pins σ H s) (h:yQ wi sl g pQ te σ H Q)
  (hend:∀(D C:o?) (H3:Hp) (s4:u?) (fl:Flow),Inv X pins σ H3 s4->H3 C=q?->C≠X.env.locals->C ∉ X.fs->X.s₀.heap.objs.size<=C->(∀x c,X.env.cells.lookup x=j? c->c≠C)->(∀p∈X.pn++pins,p.1≠C)->(∃m,s4.heap.Ns C m)->Q (.ref D) H3->
   compPost (S? X.prog X.w) X.A X.xe use QQ (.ref D) C (.ok fl) s4):
  L? (S? X.prog X.w) X.A (comprehension (.ListComp elt [⟨tg,iter,ifs,0⟩] scope pos) scope X.env pos2 (newList []) false (eval iter X.env) use) QQ X.xe s:=by
 refine wpAny_comprehension_free (use:=use) rfl hs (S.clos I.ok) S.kind S.locs (B! (hi pins s σ H _ I h) (λxv s1 h1=>B! h1 (λitv s2 h2=>?_) λ_ _ e=>e) λ_ _ e=>e)
 obtain⟨it,fp,tn,J,H2,rfl,I2,T,st2,f2,hR⟩:=h2;obtain⟨W,⟨m0,w0⟩,turn⟩:=hR _ I2.fresh;refine wpAny_newObj_type (wpAny_newFunctionEnv S.tO (by intro y hy;simp at hy) (λh₁ wj zK=>?_) S.kind)
 dsimp only at wj zK ⊢
 generalize hP:s2.heap.push { cls:=.type "list",dict:=q?,data:=.seq ([]:List l?).toArray }=P2 at wj zK ⊢;have hC:P2.objs.size=s2.heap.objs.size+1:=by rw[<- hP,Heap.size_push]
 have hDC:s2.heap.objs.size≠P2.objs.size:=by rw[hC];exact Yq (Nat.lt_succ_self _)
 have tQ:s2.heap.objs.size<=P2.objs.size:=by rw[hC];exact W5 _
 have hlt:∀b∈fp,b<s2.heap.objs.size:=λb hb=>let ⟨o,e,_⟩:=T.obj 0 _ st2 b hb;Yl e
 have old:∀b o,s2.heap.get? b=j? o->h₁.get? b=j? o:=λb o e=>zK.extBut b o (Yq (Yj (Yl e) tQ)) (Yh _ (hP ▸ Yh _ e))
 have UR:h₁.get? s2.heap.objs.size=j? { cls:=.type "list",dict:=q?,data:=.seq ([]:List l?).toArray }:=zK.extBut _ _ hDC (Yh _ (hP ▸ Yv _ rfl));have hok:=S.ok (C:=P2.objs.size) I2 f2 hlt tQ;have OJ:uM X.prog X.w (upd H2 s2.heap.objs.size (.lst [])) h₁:=I2.hok.laid old (Yd _) ⟨Y1 _,[],_,.nil,UR⟩;have US:Un (frs X.stack) fp H2 (upd H2 s2.heap.objs.size (.lst [])) s2.heap h₁:=Un.laid old (Yd _) I2.fresh;have C_:∀x c,(aT X.env.cells scope.names []).lookup x=j? c->∃v,h₁.IsCell c v:=λx c hc=>by
  obtain⟨v,o,ho,hd⟩:=I2.cell x c (bH.back hc);exact⟨v,o,old c o ho,hd⟩
 have Dc:∀x c,(aT X.env.cells scope.names []).lookup x=j? c->upd H2 s2.heap.objs.size (.lst []) c=q?:=λx c hc=>by
  obtain⟨v,q⟩:=I2.cell x c (bH.back hc);rw[aO (Yq q.lt)];exact I2.fX x c (bH.back hc)
 have Dd:upd H2 s2.heap.objs.size (.lst []) P2.objs.size=q?:=by
  rw[aO (Ne.symm hDC)];exact I2.hok.fresh tQ
 have start:∀tk:Nat,Inv (fY X N scope (aT X.env.cells scope.names []) P2.objs.size s2 H2 fp) [] (fM sl σ) (upd H2 s2.heap.objs.size (.lst [])) { s2 with heap:=h₁,toks:=tk }:=λtk=>by
  have J0:Inv (fY X N scope (aT X.env.cells scope.names []) P2.objs.size s2 H2 fp) [] (Yi N.length q?) (upd H2 s2.heap.objs.size (.lst [])) { s2 with heap:=h₁,toks:=tk }:=
   ⟨hok,rfl,I2.bare,US,⟨_,wj,λi x v e1 e2 _=>by
    rw[Zi] at e2;split at e2 <;> cases e2⟩,C_,Dd,Dc,λp hp=>Jf (show p∈([]:List (o?×Obj)) from hp) (by simp),OJ,by simp⟩
  exact S.again I2 f2 J0
 have stK:tn 0 h₁:=T.keep _ _ _ st2 λb hb o e=>old b o e
 have UT:∀b∈fp,upd H2 s2.heap.objs.size (.lst []) b=q?:=λb hb=>by
  rw[aO (Yq (hlt b hb))];exact(f2 b hb).1
 have vZ:∀ {H':Hp},(∀b∈fp,H' b=q?)->∀b∈fp,jZ (fY X N scope (aT X.env.cells scope.names []) P2.objs.size s2 H2 fp) [] H' b:=λhn b hb=>
  ⟨hn b hb,Yq (Yj (hlt b hb) tQ),λz=>hok.vW b hb z,.inl hb,λx c hc=>(hok.Lr b hb).2 x c hc,λp hp=>Jf (show p∈([]:List (o?×Obj)) from hp) (by simp)⟩
 have loop:∀tk:Nat,codeAny (S? X.prog X.w) X.A (.compLoop (.ListComp elt [⟨tg,iter,ifs,0⟩] scope pos) 0 (.ref it) (.ref s2.heap.objs.size) (compEnvC scope (aT X.env.cells scope.names []) P2.objs.size X.env))
   (compPost (S? X.prog X.w) X.A X.xe use QQ (.ref s2.heap.objs.size) P2.objs.size) { s2 with heap:=h₁,toks:=tk }:=λtk=>by
  refine codeAny_loop rfl (λn s'=>∃i H',Inv (fY X N scope (aT X.env.cells scope.names []) P2.objs.size s2 H2 fp) [] (fM sl σ) H' s'/\tn i s'.heap/\(∀b∈fp,H' b=q?)/\W i n H') ?_ m0 ⟨0,_,start tk,stK,UT,w0⟩
  rintro n s3 ⟨i,H3,I3,st3,Nb,w3⟩;show L? _ X.A ((compTurn (.ListComp elt [⟨tg,iter,ifs,0⟩] scope pos) 0 (.ref it) (.ref s2.heap.objs.size) (compEnvC scope (aT X.env.cells scope.names []) P2.objs.size X.env)).onRaise (λx=>do noteFrame x (compEnvC scope (aT X.env.cells scope.names []) P2.objs.size X.env);theTreesLotGoes x)) _ _ s3
  refine wpAny_noted ?_
  rw[compTurn_list];rcases turn i n H3 w3 with ⟨stop,qn⟩|⟨go,step⟩
  ·refine B? (wpAny_standAt (B? (B! (T.done (fY X N scope (aT X.env.cells scope.names []) P2.objs.size s2 H2 fp) rfl rfl rfl k_ i [] s3 _ H3 _ I3 (vZ Nb) st3 stop) (λr s4 ⟨hr,I4⟩=>?_) λ_ _ z=>z)))
   subst hr;refine J? ?_
   obtain⟨m4,UU,_⟩:=I4.loc;have u0:Un (frs X.stack) fp H2 H3 s2.heap s4.heap:=I4.base;have hI:Inv X pins σ H3 s4:=I2.EH (s':=s4) (ch:=fp) I4.os u0 I4.hok I4.bare λb hb=>⟨(f2 b hb).2.2.2.1,(f2 b hb).2.1,(f2 b hb).2.2.2.2.1,(f2 b hb).2.2.2.2.2⟩
   have LR:=I2.u7 (H':=H3) tQ I4.free;exact hend _ _ H3 s4 _ hI I4.free LR.2.1 LR.2.2.1 (Yn I2.sz tQ) LR.2.2.2.2.1 LR.2.2.2.2.2 ⟨m4,UU⟩ qn
  ·refine B? (wpAny_standAt (B? (B! (T.item (fY X N scope (aT X.env.cells scope.names []) P2.objs.size s2 H2 fp) rfl rfl rfl k_ i [] s3 _ H3 (λ_ _=>False) I3 (vZ Nb) st3 go) (λr s4 ⟨u,hr,h4⟩=>?_) λ_ _ z=>z.elim)))
   subst hr;refine B? (B! h4 (λ_ s5 ⟨x,H5,I5,r5,y5,Hw,RB⟩=>?_) λ_ _ z=>z.elim)
   have RC:=I5.pinned (vZ RB) (T.obj _ _ Hw);refine B? (B! (hg _ _ _ _ _ _ s5 _ H5 x u _ RC r5 (step x H5 y5)) (λ_ s6 ⟨σ6,H6,I6,q6⟩=>?_) λ_ _ z=>(show False from z).elim)
   have again:∀ {σ7:St} {H7:Hp} {s7:u?},Inv (fY X N scope (aT X.env.cells scope.names []) P2.objs.size s2 H2 fp) ([]++tN fp s5.heap) σ7 H7 s7->(∃m',m'<n/\W (i+1) m' H7)->
     ∃m',m'<n/\∃i H',Inv (fY X N scope (aT X.env.cells scope.names []) P2.objs.size s2 H2 fp) [] (fM sl σ) H' s7/\tn i s7.heap/\(∀b∈fp,H' b=q?)/\W i m' H':=λ{σ7 H7 s7} I7 ⟨m',hm,w7⟩=>by
    refine⟨m',hm,i+1,H7,S.again I2 f2 I7.kX,T.keep _ _ _ Hw λb hb o e=>(I7.pin (b,o) (Yu _ (Yu _ (fm hb e)))).1,λb hb=>?_,w7⟩
    obtain⟨o,e,d⟩:=T.obj _ _ Hw b hb;exact(I7.pin (b,o) (Yu _ (Yu _ (fm hb e)))).2.1
   refine B? (B! (hif _ _ _ _ _ _ s6 σ6 H6 _ I6 q6) (λok s7 ⟨H7,I7,q7⟩=>?_) λ_ _ z=>(show False from z).elim)
   cases ok with
   | false=>
    exact J? ⟨rfl,again I7 (by simpa using q7)⟩
   | true=>
    rw[W9 rfl] at q7;refine B? (B? (B! ((he _ _ _ _ _).out _ s7 σ6 H7 _ I7 q7) (λy s8 ⟨yv,H8,I8,r8,ys,hys,hlen,w8⟩=>?_) λ_ _ z=>(show False from z).elim))
    refine B? (B! (dO (X:=fY X N scope (aT X.env.cells scope.names []) P2.objs.size s2 H2 fp) _ s8 σ6 H8 (.ref s2.heap.objs.size) [yv] (.ref s2.heap.objs.size) [y]
     (λv H9=>v=.eZ/\∃m',m'<n/\W (i+1) m' H9) I8 rfl (.cons r8 .nil) ⟨_,ys,yv,rfl,rfl,hys,hlen,rfl,w8⟩) (λr s9 ⟨v9,H9,I9,r9,e9,w9⟩=>?_) λ_ _ z=>(show False from z).elim)
    exact J? (J? ⟨rfl,again I9 w9⟩)
 exact codeAny_compStart_list (loop _) (T.self _ 0 _ _ _ stK (loop _))
theorem b8 {elt tg iter:Expr}{ifs:List Expr}{pos:Pos}{wi:TI}{g:TG}{pQ:TT}{te:TE}(S:bH X N sl scope)(k_:X.calm=true)(hi:PI X tg iter wi)
  (hg:∀cl C s2 H2 fp,PG (fY X N scope cl C s2 H2 fp) tg g) (hif:∀cl C s2 H2 fp,Ng (fY X N scope cl C s2 H2 fp) ifs pQ) (he:∀cl C s2 H2 fp,PE (fY X N scope cl C s2 H2 fp) elt te)
  (hs:∀x,foldedSetIterable iter X.env x=pure x:=by intro _;rfl):
  PE X (.ListComp elt [⟨tg,iter,ifs,0⟩] scope pos) (yQ wi sl g pQ te):=by
 refine⟨?_⟩
 intro pins s σ H Q I h;rw[eval_ListComp];refine Be S k_ hi hg hif he hs I h λD C H3 s4 fl I4 n1 n2 n3 n4 n5 n6 ⟨m,hn⟩ q=>?_
 exact⟨m,hn,λh' Lg=>⟨.ref D,H3,I4.turned (t':=s4.toks) (λb o hb e=>(Lg.2 b hb).trans e) n1 n2 (.inr n4) n5 n6,rfl,q⟩⟩
theorem lY {i:Nat}{x:Str}{elt tg iter:Expr}{ifs:List Expr}{cpos pos pos':Pos}{wi:TI}{g:TG}{pQ:TT}{te:TE}(hN:X.N.Nodup)(hi':X.N[i]?=j? x)(hx:Loc X.env.scope x)(S:bH X N sl scope)(k_:X.calm=true)(hi:PI X tg iter wi)
  (hg:∀cl C s2 H2 fp,PG (fY X N scope cl C s2 H2 fp) tg g) (hif:∀cl C s2 H2 fp,Ng (fY X N scope cl C s2 H2 fp) ifs pQ) (he:∀cl C s2 H2 fp,PE (fY X N scope cl C s2 H2 fp) elt te)
  (hsw:swapsWith (.ListComp elt [⟨tg,iter,ifs,0⟩] scope cpos) (j? (.Name x pos')) pos.line X.env=pure true:=by rfl)
  (hs:∀x,foldedSetIterable iter X.env x=pure x:=by intro _;rfl) (hf:X.fn x=true\/X.env.scope.names.lookup x=j? .local:=by first|exact .inl rfl|exact .inr rfl|assumption):
  PS X (.Assign [.Name x pos'] (.ListComp elt [⟨tg,iter,ifs,0⟩] scope cpos) pos) (Lw (yQ wi sl g pQ te) (ig i)):=by
 refine⟨?_⟩
 intro pins s σ H D0 I h;rw[exec_Assign_Name_used _ _ _ _ hsw];refine B? (wpAny_standAt (B? ?_))
 show L? _ X.A (do let _ <- comprehension (.ListComp elt [⟨tg,iter,ifs,0⟩] scope cpos) scope X.env _ (newList []) false (eval iter X.env) (j? (assign (.Name x pos') X.env))) _ _ s
 refine B? (B! (Be (QQ:=λ_ s'=>∃σ' H',Inv X pins σ' H' s'/\D0.nx σ' H') (use:=j? (assign (.Name x pos') X.env)) S k_ hi hg hif he hs I h λD C H3 s4 fl I4 n1 n2 n3 n4 n5 n6 hm q=>?_)
  (λ_ s' hq=>J? (J? hq)) λ_ _ e=>e)
 obtain⟨m,hn⟩:=hm;show L? _ X.A (assign (.Name x pos') X.env (.ref D)) _ _ _
 refine wpAny_assign_Name (tK I4 hN hi' hx (show RelV (.ref D) (.ref D) from rfl) (λs5 I5 ⟨a,Lg,ha⟩=>?_) hf)
 have UW:C≠a:=by
  rcases ha with rfl|ha
  ·exact n2
  ·exact λz=>n5 _ _ ha z.symm
 refine⟨m,hn.sameBut Lg UW,λh' OL=>⟨_,H3,I5.turned (t':=s5.toks) (λb o hb e=>(OL.2 b hb).trans e) n1 n2 (.inr n4) n5 n6,q⟩⟩
end
section
variable {X:Cx}
def nj (i j:Int):Prop:=IntMulOk i j
def yR (i j:Int):Prop:=j≠0/\j.natAbs<2 ^ 9000
theorem yR.py {i j:Int}(h:yR i j):Builtin.divisionGoesByPylong i j=false:=by
 refine PyProof.noPylong_of_log2 ?_
 have h0:j.natAbs≠0:=λz=>h.1 (Int.natAbs_eq_zero.mp z)
 exact(Nat.log2_lt h0).mpr h.2
theorem aX:qc X (binaryOp .Mult) (rI nj λi j=>.int (i*j)):=TH λ_ _ _ _ _ _ _ hc q=>mul_int q hc
theorem bU:qc X (binaryOp .FloorDiv) (rI yR λi j=>.int (i.fdiv j)):=TH λ_ _ _ _ _ _ _ hc q=>floordiv_int hc.1 q (.inl hc.py)
theorem ET {a b:Int}{m n:Nat}(ha:a.natAbs<2 ^ m)(hb:b.natAbs<2 ^ n)(h:m+n<=134217728):nj a b:=
 IntMulOk.of_le (intBits_le_iff.mpr ha) (intBits_le_iff.mpr hb) h
theorem gQ {a b:Int}(h1:-(2 ^ 64)<a)(h2:a<2 ^ 64):nj a b:=.of_left (intBits_le_64 h1 h2)
theorem lZ {a b:Int}(h1:-(2 ^ 64)<b)(h2:b<2 ^ 64):nj a b:=.of_right (intBits_le_64 h1 h2)
def isPlain:V->Bool
 | .eZ=>true
 | .bl _=>true
 | _=>false
theorem RelV.yS {x y:V}{v u:l?}(rx:RelV x v)(ry:RelV y u)(hy:isPlain y=true):plainIs v u=true/\(v == u)=decide (x=y):=by
 cases y with
 | eZ=>
  cases ry;cases x <;> first|(cases rx;exact⟨rfl,rfl⟩)|(obtain⟨t,rfl⟩:=rx;exact⟨rfl,rfl⟩)
 | bl b=>
  cases ry;cases x with
  | bl c=>
   cases rx;refine⟨rfl,?_⟩
   cases b <;> cases c <;> rfl
  | eZ=>cases rx;exact⟨rfl,rfl⟩
  | ref a=>cases rx;exact⟨rfl,rfl⟩
  | ty n=>cases rx;exact⟨rfl,rfl⟩
  | int _=>obtain⟨t,rfl⟩:=rx;exact⟨rfl,rfl⟩
  | str _=>obtain⟨t,rfl⟩:=rx;exact⟨rfl,rfl⟩
  | byt _=>obtain⟨t,rfl⟩:=rx;exact⟨rfl,rfl⟩
  | flt _=>obtain⟨t,rfl⟩:=rx;exact⟨rfl,rfl⟩
 | _=>exact Jf (show false=true from hy) E?
theorem Nh:qc X (K! .Is) (λx y H Q=>isPlain y=true/\Q (.bl (decide (x=y))) H):=by
 intro pins s σ H x y v u Q I rx ry h;obtain⟨hy,q⟩:=h;obtain⟨p,e⟩:=rx.yS ry hy;exact wpAny_is_plain p (cE I q e.symm)
theorem HJ:qc X (K! .IsNot) (λx y H Q=>isPlain y=true/\Q (.bl (!decide (x=y))) H):=by
 intro pins s σ H x y v u Q I rx ry h;obtain⟨hy,q⟩:=h;obtain⟨p,e⟩:=rx.yS ry hy;exact wpAny_isNot_plain p (cE I q (Jd not e.symm))
inductive EU (K:bE)(H:Hp):V->String->Prop where
 | eZ:EU K H .eZ "NoneType"
 | bl (x:Bool):EU K H (.bl x) "bool"
 | int (i:Int):EU K H (.int i) "int"
 | str (x:Str):EU K H (.str x) "str"
 | lst {a:o?} {xs:List V} (e:aP K H a xs):EU K H (.ref a) "list"
 | tup {a:o?} {xs:List V} (e:jv K H a xs):EU K H (.ref a) "tuple"
theorem Bf:ir X (.builtin "isinstance") (λxs H Q=>∃x T T' b,xs=[x,.ty T']/\EU X.K H x T/\PySem.W.kitOne X.K (.type T) (.type T')=j? b/\Q (.bl b) H):=by
 intro pins s σ H xs us Q I rv h;obtain⟨x,T,T',b,rfl,ty,e,q⟩:=h;obtain⟨u,w',rfl,rx,rt⟩:=vals2 rv;obtain rfl:w'=Value.type T':=rt
 have fin:∀tk,EP X pins σ Q (.bool b) { s with toks:=tk }:=λtk=>⟨.bl b,H,I.tok tk,rfl,q⟩
 cases ty with
 | eZ=>cases (show u=Value.none from rx);exact PySem.W.kia_one PySem.W.kitx_none I.A3 True.intro e (λz=>nomatch z) fin
 | bl y=>cases (show u=Value.bool y from rx);exact PySem.W.kia_one PySem.W.kitx_bool I.A3 True.intro e (λz=>nomatch z) fin
 | int i=>obtain⟨t,q'⟩:=(show ∃t,u=Value.int i t from rx);cases q';exact PySem.W.kia_one PySem.W.kitx_int I.A3 True.intro e (λz=>nomatch z) fin
 | str y=>obtain⟨t,q'⟩:=(show ∃t,u=Value.str y t from rx);cases q';exact PySem.W.kia_one PySem.W.kitx_str I.A3 True.intro e (λz=>nomatch z) fin
 | @lst a ys ea=>
  cases (show u=I! a from rx)
  obtain⟨its,_,⟨o,n,h1,h2,_⟩,_⟩:=I.list ea;exact PySem.W.kia_one PySem.W.kitx_list I.A3 ⟨o,h1,h2⟩ e (λz=>nomatch z) fin
 | @tup a ys ea=>
  cases (show u=I! a from rx)
  obtain⟨its,_,⟨o,h1,h2,_⟩,_⟩:=I.tuple ea;exact PySem.W.kia_one PySem.W.kitx_tuple I.A3 ⟨o,h1,h2⟩ e (λz=>nomatch z) fin
inductive Den (K:bE)(H:Hp):V->O!->Prop where
 | eZ:Den K H .eZ .none
 | bl (b:Bool):Den K H (.bl b) (.bool b)
 | int (i:Int):Den K H (.int i) (.int i)
 | str (x:Str):Den K H (.str x) (.str x)
 | lst {a:o?} {xs:List V} {ds:List O!}:aP K H a xs->xs.length=ds.length->(∀(i:Nat) x d,xs[i]?=j? x->ds[i]?=j? d->Den K H x d)->Den K H (.ref a) (.list ds)
 | tup {a:o?} {xs:List V} {ds:List O!}:jv K H a xs->xs.length=ds.length->(∀(i:Nat) x d,xs[i]?=j? x->ds[i]?=j? d->Den K H x d)->Den K H (.ref a) (.tuple ds)
theorem nF {h:O?}:∀ {us:List l?} {ds:List O!},us.length=ds.length->(∀(i:Nat) u d,us[i]?=j? u->ds[i]?=j? d->∃as,Reads h u d as)->∃as,ReadsAll h us ds as
 | [],[],_,_=>⟨[],.nil⟩
 | [],_::_,e,_=>by simp at e
 | _::_,[],e,_=>by simp at e
 | u::us,d::ds,e,f=>by
  obtain⟨as,r⟩:=f 0 u d rfl rfl;obtain⟨bs,rs⟩:=nF (us:=us) (ds:=ds) (by simpa using e) λi u d h1 h2=>f (i+1) u d (by simpa using h1) (by simpa using h2)
  exact⟨as++bs,.cons r rs⟩
theorem Vals.back {xs:List V}{us:List l?}(r:Vals xs us){i:Nat}{u:l?}(h:us[i]?=j? u):∃x,xs[i]?=j? x/\RelV x u:=by
 have hi:i<us.length:=(List.getElem?_eq_some_iff.mp h).1;have hx:i<xs.length:=by rw[r.length];exact hi
 obtain⟨u',h',rel⟩:=r.get (Yc hx);rw[h] at h';cases h';exact⟨_,Yc hx,rel⟩
theorem Den.reads {pins:List (o?×Obj)}{σ:St}{H:Hp}{s:u?}(I:Inv X pins σ H s){v:V}{d:O!}(D:Den X.K H v d):∀ {u:l?},RelV v u->∃as,Reads s.heap u d as:=by
 induction D with
 | eZ=>intro u r;cases (show u=Value.none from r);exact⟨_,.none⟩
 | bl b=>intro u r;cases (show u=Value.bool b from r);exact⟨_,.bool b⟩
 | int i=>intro u r;obtain⟨t,rfl⟩:=(show ∃t,u=Value.int i t from r);exact⟨_,.int i t⟩
 | str x=>intro u r;obtain⟨t,rfl⟩:=(show ∃t,u=Value.str x t from r);exact⟨_,.str x t⟩
 | @lst a xs ds q hl _ ih=>
  intro u r;cases (show u=I! a from r)
  obtain⟨its,rv,⟨o,n,h1,h2,h3,h4⟩,_⟩:=I.list q;obtain⟨as,ra⟩:=nF (h:=s.heap) (us:=its) (ds:=ds) (by rw[<- rv.length];exact hl) λi u d e1 e2=>by
   obtain⟨x,ex,rel⟩:=rv.back e1;exact ih i x d ex e2 rel
  exact⟨_,.list h1 h2 h4 (by simpa using ra)⟩
 | @tup a xs ds q hl _ ih=>
  intro u r;cases (show u=I! a from r)
  obtain⟨its,rv,⟨o,h1,h2,n,h4⟩,_⟩:=I.tuple q;obtain⟨as,ra⟩:=nF (h:=s.heap) (us:=its) (ds:=ds) (by rw[<- rv.length];exact hl) λi u d e1 e2=>by
   obtain⟨x,ex,rel⟩:=rv.back e1;exact ih i x d ex e2 rel
  exact⟨_,.tuple h1 h2 h4 (by simpa using ra)⟩
def zL (K:bE)(neg:Bool):R2:=λx y H Q=>∃d e,Den K H x d/\Den K H y e/\SeqAt.shaped d=true/\SeqAt.shaped e=true/\Q (.bl (if neg then !E! d e else E! d e)) H
theorem OM (hu:X.A.units+64<cLine):qc X (K! .Eq) (zL X.K false):=by
 intro pins s σ H x y v u Q I rx ry h;obtain⟨d,e,Dx,Dy,sd,se,q⟩:=h;obtain⟨as,ra⟩:=Dx.reads I rx;obtain⟨bs,rb⟩:=Dy.reads I ry;exact SeqAt.compareEq_shaped ra rb sd se hu (cE I q rfl)
theorem OO (hu:X.A.units+64<cLine):qc X (K! .NotEq) (zL X.K true):=by
 intro pins s σ H x y v u Q I rx ry h;obtain⟨d,e,Dx,Dy,sd,se,q⟩:=h;obtain⟨as,ra⟩:=Dx.reads I rx;obtain⟨bs,rb⟩:=Dy.reads I ry;exact SeqAt.compareNe_shaped ra rb sd se hu (cE I q rfl)
def Bg:V->Option O!
 | .eZ=>j? .none
 | .bl b=>j? (.bool b)
 | .int i=>j? (.int i)
 | .str x=>j? (.str x)
 | _=>q?
theorem HK {K:bE}{H:Hp}{v:V}{d:O!}(h:Bg v=j? d):Den K H v d:=by
 cases v <;> first|(cases h;constructor)|cases h
def qy:List V->Option (List O!)
 | []=>j? []
 | v::r=>match Bg v,qy r with
  | some d,j? ds=>j? (d::ds)
  | _,_=>q?
theorem tR:∀ {xs:List V} {ds:List O!},qy xs=j? ds->xs.length=ds.length/\∀(i:Nat) x d,xs[i]?=j? x->ds[i]?=j? d->Bg x=j? d
 | [],ds,h=>by cases h;exact⟨rfl,λi x d h=>by simp at h⟩
 | v::r,ds,h=>by
  unfold qy at h;cases e1:Bg v with
  | none=>rw[e1] at h;cases h
  | some d0=>
   cases e2:qy r with
   | none=>rw[e1,e2] at h;cases h
   | some dr=>
    rw[e1,e2] at h;cases h;obtain⟨hl,hx⟩:=tR e2;refine⟨by simp[hl],λi x d h1 h2=>?_⟩
    cases i with
    | zero=>simp at h1 h2;rw[<- h1,<- h2];exact e1
    | succ i=>exact hx i x d (by simpa using h1) (by simpa using h2)
theorem rR {K:bE}{H:Hp}{a:o?}{xs:List V}{ds:List O!}(q:aP K H a xs)(h:qy xs=j? ds):Den K H (.ref a) (.list ds):=
 .lst q (tR h).1 λi x d h1 h2=>HK ((tR h).2 i x d h1 h2)
theorem gF:∀(ns:List Int),qy (ns.map V.int)=j? (ns.map PyData.int)
 | []=>rfl
 | n::ns=>by
  show(match Bg (.int n),qy (ns.map V.int) with|some d,j? ds=>j? (d::ds)|_,_=>q?)=_
  rw[gF ns];rfl
theorem nH:∀ {bs:List Bool} {us:List l?},Vals (bs.map V.bl) us->LSm.BoolsAre us bs
 | [],_,.nil=>.nil
 | b::bs,_,.cons r t=>by
  cases (show _=Value.bool b from r)
  exact .cons b (nH t)
theorem HL (hc:X.calm=true):ir X (.builtin "all") (λxs H Q=>∃p,∃bs:List Bool,xs=[.ref p]/\aP X.K H p (bs.map V.bl)/\Q (.bl (bs.all id)) H):=by
 intro pins s σ H xs us Q I rv h;obtain⟨p,bs,rfl,hq,q⟩:=h;obtain⟨u,rfl,ru⟩:=vals1 rv;cases (show u=I! p from ru)
 obtain⟨its,r,hp,_⟩:=I.list hq;have hb:=nH r;have hl:=hp.isList;have hlt:p<s.heap.objs.size:=by obtain⟨_,e,_⟩:=hl;exact Yl e
 refine call_all_walk (wpAny_pyIter_list hl ?_)
 refine⟨s.heap.objs.size,[s.heap.objs.size,p],[s.heap.objs.size],its.toArray.size,_,_,λi=>(bs[i]?).getD true,rfl,Walks.list (A:=X.A.in1) (I.ok.hd hc) _ p (Yq hlt) its.toArray,
  ⟨⟨_,Yv _ rfl,rfl,rfl⟩,hl.push _⟩,λi v s' Q' E' hP hQ=>?_,λh' tk hk=>?_⟩
 ·obtain⟨b,e,rfl⟩:=hb.get i v (by simpa using hP)
  simp only[e,Option.getD_some] at hQ
  exact wpAny_truthy_bool hQ
 ·have e:((Ym its.toArray.size).all λi=>(bs[i]?).getD true)=bs.all id:=by
   rw[Yr,hb.length];exact LSm.range_all bs
  rw[e];exact⟨.bl _,H,I.kept (h':=h') (t':=tk) (LSm.kept_iter hk),rfl,q⟩
end
structure Src (K:bE)(mg:Str->Option l?)(x:Str)(st:Q?)(ps:List Str):Prop where
 ex:∃f fd,Lf K x x st f fd/\Binds K fd ps []/\mg x=j? (.ref f)
structure b_ (P:F?)(w:H?)(K:bE)(mg:Str->Option l?)(base:O?)(k:Nat)(x:Str)(ps:List Str)(sp:Sp):Prop where
 ex:∃f fd,lU P w K mg base ES k f fd ps sp/\Binds K fd ps []/\PySem.W.keepIn K (.ref f)=true/\mg x=j? (.ref f)
section
variable {P:F?} {w:H?} {K:bE} {mg:Str->Option l?} {base:O?}
theorem Src.ok {x:Str}{st:Q?}{N ps:List Str}{k:Nat}{sp:Sp}(F:Src K mg x st ps)(S:aM N ps (ao st))(len:∀vs H Q E,sp vs H Q E->vs.length=ps.length)
  (hbody:∀(f:o?) (cdv:l?) (A:A!) (outer:List Env) (s:u?) (H:Hp) (vs:List V) (Q:VK) (E:XK),fL k (A.deeper (envOfC x (ao st) s.heap.objs.size f cdv))->sp vs H Q E->
   ∃t,zB (qw ES P w K mg base N x (ao st) f cdv A outer s H E).M9 (cB st) t/\t { nx:=λ_ H'=>Q .eZ H',rt:=Q } (start N vs) H):b_ P w K mg base (k+1) x ps sp:=by
 obtain⟨f,fd,F,B,M⟩:=F.ex;exact⟨f,fd,F.ok S len (hbody f),B,F.kp,M⟩
theorem OP {x:Str}{st:Q?}{ps:List Str}{f:o?}{oc:l?}{od an:Option o?}{osl:Array (Option l?)}{kV doc pm cdv ct:l?}{h:O?}(X:K.In h)(G:h.Ns G? mg)
  (a:N? K G? x=j? (j? (.ref f))) (l:K.lookup f=j? ⟨oc,od,.func (W? x x (dH st) (cB st) (ao st) .none kV doc pm an cdv ct),osl⟩) (c:Q! K cdv x=true) (k:C! K (.ref f)=true)
  (hb:∀(kV doc pm:l?) (an:Option o?) (cdv ct:l?) (us:List l?),us.length=ps.length->bindArgs (W? x x (dH st) (cB st) (ao st) .none kV doc pm an cdv ct) ⟨us,[]⟩=pure (ps.zip us)):Src K mg x st ps:=
 ⟨f,_,wg l c k,(wg l c k).binds hb,PySem.W.mg_of X G a⟩
end
theorem aF {X:Cx}{k n:Nat}{x:Str}{ps:List Str}{sp:Sp}{e:Expr}{es:List Expr}{t:TA}{p pos:Pos}(D:b_ X.prog X.w X.K X.mg X.base k x ps sp)(hr:fL n X.A)(ha:PA X (e::es) t)(hle:k<=n:=by first|decide|omega)(hg:Gl X x:=by rfl)
  (hdb:(x ==("__debug__":Str))=false:=by decide) (he:I? (e::es) X.env=(false,eval e X.env)::I? es X.env:=by rfl) (hpl:(backTo pos (I? es X.env)).any (·.1)=false:=by rfl):
  PE X (.Call (.Name x p) (e::es) [] pos) (HA sp [] E0 t):=by
 obtain⟨f,fd,F,B,kp,M⟩:=D.ex;exact EN F (hr.mono hle) hg M kp B .nil RQ ha hdb he hpl
theorem aA {H:Hp}{p:o?}(h:H p=q?)(o:HO):aH H (upd H p o):=λb u q=>by rw[aO (bL q h)];exact q
def HN (EV:Scope)(ON N:List Str)(sl:List (Option Nat))(scope:Scope):Bool:=
 decide (scope.kind=.function) && scope.names.all (λy=>decide (y.2≠.cell)) && scope.names.all (λy=>decide (y.2=.local->scope.names.lookup y.1=j? .local)) &&
 scope.names.all (λy=>decide (y.2=.free->EV.names.lookup y.1=j? .cell\/EV.names.lookup y.1=j? .free)) && decide (sl.length=N.length) &&
 (Ym N.length).all λj=>match N[j]?,sl[j]? with
  | some x,j? (j? i)=>decide (ON[i]?=j? x/\scope.names.lookup x=j? .free)
  | _,_=>true
theorem aI {X:Cx}{N:List Str}{sl:List (Option Nat)}{scope:Scope}(EV:Scope)(ON:List Str)(h1:X.env.scope=EV)(h2:X.N=ON)(hb:HN EV ON N sl scope=true):bH X N sl scope:=by
 unfold HN at hb;simp only[T?,decide_eq_true_eq,Wc] at hb
 obtain⟨⟨⟨⟨⟨b1,b2⟩,b3⟩,b4⟩,b5⟩,b6⟩:=hb;refine⟨b1,b2,b3,λy hy hf=>?_,b5,λj i x e1 e2=>?_⟩
 ·have:=b4 y hy hf
  show X.env.scope.names.lookup y.1=_\/X.env.scope.names.lookup y.1=_
  rw[h1];exact this
 ·have hj:j<N.length:=(List.getElem?_eq_some_iff.mp e1).1
  have:=b6 j (List.mem_range.mpr hj)
  rw[e1,e2] at this;have q:=Jb this;rw[h2];exact q
theorem bI:H! "len"=j? (.builtin "len"):=by decide +kernel
theorem HP:H! "abs"=j? (.builtin "abs"):=by decide +kernel
theorem bX:H! "isinstance"=j? (.builtin "isinstance"):=by decide +kernel
theorem HQ:H! "all"=j? (.builtin "all"):=by decide +kernel
theorem OQ:H! "any"=j? (.builtin "any"):=by decide +kernel
theorem OR:H! "min"=j? (.builtin "min"):=by decide +kernel
theorem De:H! "max"=j? (.builtin "max"):=by decide +kernel
theorem HR:H! "sum"=j? (.builtin "sum"):=by decide +kernel
theorem Df:H! "int"=j? (.type "int"):=by decide +kernel
theorem zM:H! "bool"=j? (.type "bool"):=by decide +kernel
theorem j6:H! "list"=j? (.type "list"):=by decide +kernel
theorem HS:H! "tuple"=j? (.type "tuple"):=by decide +kernel
def UX (K:bE):List V->Hp->VK->Prop:=λxs H Q=>∃x T T' b,xs=[x,.ty T']/\EU K H x T/\PySem.W.kitOne K (.type T) (.type T')=j? b/\Q (.bl b) H
def RS (K:bE):List V->Hp->VK->Prop:=λxs H Q=>∃p,∃bs:List Bool,xs=[.ref p]/\aP K H p (bs.map V.bl)/\Q (.bl (bs.all id)) H
def RT (K:bE):List V->Hp->VK->Prop:=λxs H Q=>∃p ys,xs=[.ref p]/\(aP K H p ys\/jv K H p ys)/\Q (.int ys.length) H
section
variable {X:Cx} {K:bE}
theorem cR (h:X.K=K):ir X (.builtin "isinstance") (UX K):=by subst h;exact λpins s σ H xs us Q I rv ⟨a,b,c,d,e,f,g,i⟩=>Bf pins s σ H xs us Q I rv ⟨a,b,c,d,e,f,g,i⟩
theorem yT (h:X.K=K)(hc:X.calm=true):ir X (.builtin "all") (RS K):=by subst h;exact λpins s σ H xs us Q I rv ⟨a,b,c,d,e⟩=>HL hc pins s σ H xs us Q I rv ⟨a,b,c,d,e⟩
theorem aN (h:X.K=K):ir X (.builtin "len") (RT K):=by subst h;exact λpins s σ H xs us Q I rv ⟨a,b,c,d,e⟩=>zI pins s σ H xs us Q I rv ⟨a,b,c,d,e⟩
theorem aG (h:X.K=K):RJ X (RK K):=by subst h;exact LJ
theorem l_ (h:X.K=K):RJ X (RL K):=by subst h;exact OD
theorem eX (h:X.K=K):UL X (RN K):=by subst h;exact LK
theorem HU (h:X.K=K):qc X (K! .In) (Xm K false):=by subst h;exact F4
theorem mh (h:X.K=K)(hu:X.A.units+64<cLine):qc X (K! .Eq) (zL K false):=by subst h;exact OM hu
theorem vA (h:X.K=K)(hu:X.A.units+64<cLine):qc X (K! .NotEq) (zL K true):=by subst h;exact OO hu
theorem bM {tg l:Expr}{tl:TE}(h:X.K=K)(hl:PE X l tl):PI X tg l (Na K tl):=by subst h;exact LA hl
theorem cP {es:List Expr}{k:Nat}{t:M_}{n:Nat}{pos:Pos}(hK:X.K=K)(hc:X.calm=true)(h:Rt X es t)
  (hn:(assignEach es X.env).length=n:=by rfl) (hst:(assignEach es X.env).findIdx? (·.1)=q?:=by rfl):PG X (.Tuple es k pos) (Rv K n t):=by subst hK;exact Ol hc h hn hst
end
def Bd (m:Nat)(x:Int):Prop:=x.natAbs<2 ^ m
theorem Bd.mono {m n:Nat}{x:Int}(h:Bd m x)(hmn:m<=n):Bd n x:=Yj h (Yy (by decide) hmn)
theorem Bd.bits {m:Nat}{x:Int}(h:Bd m x):Builtin.Int.intBits x<=m:=intBits_le_iff.mpr h
theorem Bd.of_bits {m:Nat}{x:Int}(h:Builtin.Int.intBits x<=m):Bd m x:=intBits_le_iff.mp h
theorem Bd.mul {m n:Nat}{x y:Int}(hx:Bd m x)(hy:Bd n y):Bd (m+n) (x*y):=.of_bits (intBits_mul_le hx.bits hy.bits)
theorem Bd.add {m n:Nat}{x y:Int}(hx:Bd m x)(hy:Bd n y):Bd (max m n+1) (x+y):=.of_bits (intBits_add_le hx.bits hy.bits)
theorem Bd.sub {m n:Nat}{x y:Int}(hx:Bd m x)(hy:Bd n y):Bd (max m n+1) (x-y):=.of_bits (intBits_sub_le hx.bits hy.bits)
theorem Bd.le {m:Nat}{x y:Int}(h:x.natAbs<=y.natAbs)(hy:Bd m y):Bd m x:=Z4 h hy
theorem Bd.fdiv {m:Nat}{x y:Int}(hx:Bd m x):Bd m (x.fdiv y):=.of_bits (intBits_fdiv_le hx.bits)
theorem Bd.ok {m n:Nat}{x y:Int}(hx:Bd m x)(hy:Bd n y)(h:m+n<=134217728:=by decide):nj x y:=ET hx hy h
theorem Bd.dv {m:Nat}{i j:Int}(h:Bd m j)(h0:j≠0)(hm:m<=9000:=by decide):yR i j:=⟨h0,h.mono hm⟩
theorem Bd.small {x:Int}(h1:-(2 ^ 64)<x)(h2:x<2 ^ 64):Bd 64 x:=by unfold Bd;omega
theorem iW {α:Type}{xs:List α}{i:Int}(h0:0<=i)(h1:i.toNat<xs.length):qe xs i=j? xs[i.toNat]:=by
 have e:i=((i.toNat:Nat):Int):=by omega
 have q:qe xs ((i.toNat:Nat):Int)=j? xs[i.toNat]:=dQ (Yc h1);rw[<- e] at q;exact q
theorem EW {α:Type}{xs:List α}{i:Int}(h0:0<=i)(h1:i<xs.length):∃v,qe xs i=j? v/\v∈xs:=by
 have hi:i.toNat<xs.length:=by omega
 exact⟨xs[i.toNat],iW h0 hi,Yz hi⟩
theorem iy (x:Int){y:Int}(hy:0<y):0<=x.fmod y/\x.fmod y<y:=⟨Int.fmod_nonneg_of_pos x hy,Int.fmod_lt_of_pos x hy⟩
theorem aZ {α:Type}{xs:List α}(h:decide (xs.length<=1000)=true):xs.length<=K?:=Yn (Jb h) (by decide)
theorem HV (x y:Int)(hy:0<y):Int.gcd y (x.fmod y)=Int.gcd x y:=by
 rw[Y7 x (Wy hy),Int.gcd_comm x y,Int.emod_def,Int.gcd_comm y];simp
 exact Int.gcd_comm ..
def F8 (a b:Int):Int:=(Int.gcd a b:Int)
theorem pick {xs:List V}{i:Int}{P:Int->Prop}(h0:0<=i)(h1:i<xs.length)(hP:∀v∈xs,∃n,v=.int n/\P n):∃n,qe xs i=j? (.int n)/\P n:=by
 obtain⟨v,e,hm⟩:=EW h0 h1;obtain⟨n,rfl,p⟩:=hP v hm;exact⟨n,e,p⟩
theorem OS {c A B:Prop}[Decidable c](h:¬ c)(hB:B):if decide c=true then A else B:=by
 rw[Jc h];exact gp hB
theorem OT {c A B:Prop}[Decidable c](h:c)(hA:A):if decide c=true then A else B:=by
 rw[Ja h];exact jE hA
def CW (n:Nat)(D:o?)(Pv:Nat->List V->Hp->Prop):Nat->Nat->Hp->Prop:=λi m H2=>m=n-i/\i<=n/\∃ys,H2 D=j? (.lst ys)/\ys.length<=i/\Pv i ys H2
theorem CW.emit {n:Nat}{D:o?}{Pv:Nat->List V->Hp->Prop}{i m:Nat}{ys:List V}{y:V}{H5:Hp}(hm:m=n-i)(hi:i<n)(hn:n<=K?)(hy:H5 D=j? (.lst ys))(hl:ys.length<=i)
  (p:Pv (i+1) (ys++[y]) (upd H5 D (.lst (ys++[y])))):∃ys,H5 D=j? (.lst ys)/\ys.length<K?/\∃m',m'<m/\CW n D Pv (i+1) m' (upd H5 D (.lst (ys++[y]))):=
 ⟨ys,hy,by omega,n-(i+1),by omega,rfl,hi,ys++[y],ay,by simp;omega,p⟩
theorem CW.skip {n:Nat}{D:o?}{Pv:Nat->List V->Hp->Prop}{i m:Nat}{ys:List V}{H4:Hp}(hm:m=n-i)(hi:i<n)(hy:H4 D=j? (.lst ys))(hl:ys.length<=i)(p:Pv (i+1) ys H4):
  ∃m',m'<m/\CW n D Pv (i+1) m' H4:=⟨n-(i+1),by omega,rfl,hi,ys,hy,by omega,p⟩
theorem fN {K:bE}{a D:o?}{xs:List V}{st:St}{g:TG}{pQ:TT}{te:TE}{H1:Hp}{Q:VK}(Pv:Nat->List V->Hp->Prop)(h0:Pv 0 [] (upd H1 D (.lst [])))
  (hl:∀i ys H2,H2 D=j? (.lst ys)->Pv i ys H2->aP K H2 a xs)
  (hs:∀i m x ys H2,m=xs.length-i->i<xs.length->xs[i]?=j? x->H2 D=j? (.lst ys)->ys.length<=i->Pv i ys H2->g x st H2 λσ3 H3=>pQ σ3 H3 λb H4=>
   if b=true then te σ3 H4 λy H5=>∃ys,H5 D=j? (.lst ys)/\ys.length<K?/\∃m',m'<m/\CW xs.length D Pv (i+1) m' (upd H5 D (.lst (ys++[y]))) else ∃m',m'<m/\CW xs.length D Pv (i+1) m' H4)
  (hd:∀ys H2,H2 D=j? (.lst ys)->Pv xs.length ys H2->Q (.ref D) H2):
  uO (Ou K a) D st g pQ te Q H1:=by
 refine⟨CW xs.length D Pv,⟨xs.length,by simp,Y1 _,[],ay,Yd _,h0⟩,?_⟩
 rintro i m H2 ⟨hm,hi,ys,hy,hlen,p⟩;have q:=hl i ys H2 hy p;by_cases hlt:i<xs.length
 ·refine .inr ⟨⟨xs,xs[i],q,by simp[hlt]⟩,λx H' y=>?_⟩
  obtain⟨e,y⟩:=y;subst e;exact hs i m x ys _ hm hlt (y xs q) hy hlen p
 ·have e:i=xs.length:=by omega
  subst e;exact .inl ⟨⟨xs,q,Yd _⟩,hd ys H2 hy p⟩
theorem jF {lo:Int}{n:Nat}{D:o?}{st:St}{g:TG}{pQ:TT}{te:TE}{H1:Hp}{Q:VK}(Pv:Nat->List V->Hp->Prop)(h0:Pv 0 [] (upd H1 D (.lst [])))
  (hs:∀i m ys H2,m=n-i->i<n->H2 D=j? (.lst ys)->ys.length<=i->Pv i ys H2->g (.int (lo+i)) st H2 λσ3 H3=>pQ σ3 H3 λb H4=>
   if b=true then te σ3 H4 λy H5=>∃ys,H5 D=j? (.lst ys)/\ys.length<K?/\∃m',m'<m/\CW n D Pv (i+1) m' (upd H5 D (.lst (ys++[y]))) else ∃m',m'<m/\CW n D Pv (i+1) m' H4)
  (hd:∀ys H2,H2 D=j? (.lst ys)->Pv n ys H2->Q (.ref D) H2):
  uO (Lz lo n) D st g pQ te Q H1:=by
 refine⟨CW n D Pv,⟨n,by simp,Y1 _,[],ay,Yd _,h0⟩,?_⟩
 rintro i m H2 ⟨hm,hi,ys,hy,hlen,p⟩;by_cases hlt:i<n
 ·refine .inr ⟨hlt,λx H' y=>?_⟩
  obtain⟨e,y⟩:=y;subst e y;exact hs i m ys _ hm hlt hy hlen p
 ·have e:i=n:=by omega
  subst e;exact .inl ⟨Yd _,hd ys H2 hy p⟩
structure fq (p n:Int)(v:Nat):Prop where
 dv:p ^ v ∣ n
 no:¬ p ^ (v+1) ∣ n
theorem rS {p:Int}(hp:p≠0):∀v:Nat,p ^ v≠0
 | 0=>by rw[Zc];decide
 | v+1=>by rw[Za];exact Int.mul_ne_zero (rS hp v) hp
theorem gR (p:Int){v w:Nat}(h:v<=w):p ^ v ∣ p ^ w:=by
 obtain⟨k,rfl⟩:=Nat.exists_eq_add_of_le h;exact⟨p ^ k,Zw p v k⟩
theorem fq.uniq {p n:Int}{v w:Nat}(a:fq p n v)(b:fq p n w):v=w:=by
 rcases Nat.lt_trichotomy v w with h|h|h
 ·exact Jf (Int.dvd_trans (gR p h) b.dv) a.no
 ·exact h
 ·exact Jf (Int.dvd_trans (gR p h) a.dv) b.no
theorem fq.of {p n m:Int}{v:Nat}(hp:p≠0)(h:n=p ^ v*m)(hm:¬ p ∣ m):fq p n v:=by
 refine⟨⟨m,h⟩,λ⟨k,hk⟩=>hm ?_⟩
 rw[h,Za,Z8] at hk;exact⟨k,Ze (rS hp v) hk⟩
theorem fq.Xn {p n:Int}{v:Nat}(h:fq p n v):∃m,n=p ^ v*m/\¬ p ∣ m:=by
 obtain⟨m,e⟩:=h.dv;refine⟨m,e,λ⟨k,hk⟩=>h.no ⟨k,?_⟩⟩
 rw[e,hk,Za,Z8]
theorem Dh {p:Int}(hp:2<=p){n:Int}(hn:n≠0):∃v,fq p n v:=by
  have go:∀(k:Nat) (n:Int),n≠0->n.natAbs<=k->∃v,fq p n v:=by
    intro k;induction k with
    | zero=>intro n h0 h1;exact Jf (by omega) h0
    | succ k ih=>
      intro n h0 h1;by_cases hd:p ∣ n
      . obtain⟨m,rfl⟩:=hd
        have hm:m≠0:=λz=>h0 (by rw[z];simp)
        have hlt:m.natAbs<(p*m).natAbs:=by
          rw[Zf];have h2:2<=p.natAbs:=by omega
          have h3:0<m.natAbs:=by omega
          calc m.natAbs<2*m.natAbs:=by omega
            _<=p.natAbs*m.natAbs:=Yx _ h2
        obtain⟨v,hv⟩:=ih m hm (by omega)
        obtain⟨c,ec,hc⟩:=hv.Xn;exact⟨v+1,fq.of (by omega) (m:=c) (by rw[ec,Za];ac_rfl) hc⟩
      . exact⟨0,fq.of (by omega) (m:=n) (by simp) hd⟩
  exact go n.natAbs n hn (Yd _)
theorem nI {x y:Int}(hy:0<y):x.fmod y=0↔y ∣ x:=by
 rw[Y7 x (Wy hy)];exact⟨Int.dvd_of_emod_eq_zero,Int.emod_eq_zero_of_dvd⟩
theorem jG {y m:Int}(hy:y≠0):(y*m).fdiv y=m:=Int.mul_fdiv_cancel_left m hy
end L2
namespace L2
theorem aH.bw {H H':Hp}{D:PySem.Addr}(g:aH H H')(hD:H D=q?)(o:HO):aH H (upd H' D o):=λb u q=>by rw[aO (bL q hD)];exact g b u q
theorem Bh {c A B:Prop}[Decidable c](h:¬ c)(hA:A):if (!decide c)=true then A else B:=by
 rw[Jc h];exact jE hA
end L2
namespace L2
open PySem PySem.Spec PyProof.Rows
def zN (o:Obj)(ns:List Int):Bool:=decide (o.cls=.type "tuple") && match o.data with
 | .seq its _=>decide (its.size<=1000) && decide (its.toList.map Lv=ns.map λn=>j? (V.int n))
 | _=>false
theorem uQ:∀ {us:List l?} {ns:List Int},us.map Lv=ns.map (λn=>j? (V.int n))->Vals (ns.map V.int) us
 | [],[],_=>.nil
 | [],_::_,h=>by simp at h
 | _::_,[],h=>by simp at h
 | u::us,n::ns,h=>by
  simp only[List.map_cons,List.cons.injEq] at h
  refine .cons ?_ (uQ h.2)
  have e:=h.1;cases u <;> simp[Lv] at e
  subst e;exact⟨_,rfl⟩
theorem Di {K:bE}{H:Hp}{a:o?}{o:Obj}{ns:List Int}(h:K.lookup a=j? o)(t:zN o ns=true):jv K H a (ns.map V.int):=by
 unfold zN at t;rw[T?] at t;obtain⟨t1,t2⟩:=t;have hc:=Jb t1;cases hd:o.data with
 | seq its n=>
  rw[hd] at t2;rw[T?] at t2;have h1:=Jb t2.1;have h2:=Jb t2.2;exact .inr ⟨o,its,n,h,hc,hd,Yn h1 (by decide),uQ h2⟩
 | _=>rw[hd] at t2;exact Jf t2 E?
inductive Fl:Nat->O!->Prop where
 | eZ {n:Nat}:Fl n .none
 | int {n:Nat} (i:Int):Fl n (.int i)
 | lst {n:Nat} {ds:List O!}:(∀d∈ds,Fl n d)->Fl (n+1) (.list ds)
 | tup {n:Nat} {ds:List O!}:(∀d∈ds,Fl n d)->Fl (n+1) (.tuple ds)
theorem mj:∀ {ds:List O!},(∀d∈ds,PyData.canLay0 d=true)->PyData.canLayAll0 ds=true
 | [],_=>by simp[PyData.canLayAll0]
 | d::ds,h=>by
  simp only[PyData.canLayAll0,T?]
  exact⟨h d Y9,mj λe he=>h e (Y5 _ he)⟩
theorem nK {n:Nat}:∀ {ds:List O!},(∀d∈ds,PyData.depth d<=n)->PyData.depthAll ds<=n
 | [],_=>by simp[PyData.depthAll]
 | d::ds,h=>by
  simp only[PyData.depthAll]
  exact Nat.max_le.mpr ⟨h d Y9,nK λe he=>h e (Y5 _ he)⟩
theorem Fl.both {n:Nat}{d:O!}(h:Fl n d):PyData.canLay0 d=true/\PyData.depth d<=n:=by
 induction h with
 | eZ=>exact⟨by simp[PyData.canLay0],by simp[PyData.depth]⟩
 | int i=>exact⟨by simp[PyData.canLay0],by simp[PyData.depth]⟩
 | lst _ ih=>exact⟨by simp only[PyData.canLay0];exact mj λd hd=>(ih d hd).1,by simp only[PyData.depth];exact Nat.succ_le_succ (nK λd hd=>(ih d hd).2)⟩
 | tup _ ih=>exact⟨by simp only[PyData.canLay0];exact mj λd hd=>(ih d hd).1,by simp only[PyData.depth];exact Nat.succ_le_succ (nK λd hd=>(ih d hd).2)⟩
theorem Fl.shaped {n:Nat}{d:O!}(h:Fl n d)(hn:n<=64):SeqAt.shaped d=true:=by
 unfold SeqAt.shaped;rw[T?];exact⟨h.both.1,Ja (Yn h.both.2 hn)⟩
theorem Fl.self {n:Nat}{d:O!}(h:Fl n d):E! d d=true:=SeqAt.eqv_refl d h.both.1
mutual
theorem HW:∀ {n m:Nat} {d e:O!},Fl n d->Fl m e->E! d e=true->d=e
 | _,_,_,_,.eZ,.eZ,_=>rfl
 | _,_,_,_,.eZ,.int _,h=>by simp[E!] at h
 | _,_,_,_,.eZ,.lst _,h=>by simp[E!] at h
 | _,_,_,_,.eZ,.tup _,h=>by simp[E!] at h
 | _,_,_,_,.int _,.eZ,h=>by simp[E!] at h
 | _,_,_,_,.int i,.int j,h=>by
  simp only[E!,beq_iff_eq] at h
  rw[h]
 | _,_,_,_,.int _,.lst _,h=>by simp[E!] at h
 | _,_,_,_,.int _,.tup _,h=>by simp[E!] at h
 | _,_,_,_,.lst _,.eZ,h=>by simp[E!] at h
 | _,_,_,_,.lst _,.int _,h=>by simp[E!] at h
 | _,_,.list ds,.list es,.lst a,.lst b,h=>by
  simp only[E!] at h
  rw[eqvAll_eq a b h]
 | _,_,_,_,.lst _,.tup _,h=>by simp[E!] at h
 | _,_,_,_,.tup _,.eZ,h=>by simp[E!] at h
 | _,_,_,_,.tup _,.int _,h=>by simp[E!] at h
 | _,_,_,_,.tup _,.lst _,h=>by simp[E!] at h
 | _,_,.tuple ds,.tuple es,.tup a,.tup b,h=>by
  simp only[E!] at h
  rw[eqvAll_eq a b h]
theorem eqvAll_eq:∀ {n m:Nat} {ds es:List O!},(∀d∈ds,Fl n d)->(∀d∈es,Fl m d)->PyData.eqvAll ds es=true->ds=es
 | _,_,[],[],_,_,_=>rfl
 | _,_,[],_::_,_,_,h=>by simp[PyData.eqvAll] at h
 | _,_,_::_,[],_,_,h=>by simp[PyData.eqvAll] at h
 | _,_,d::ds,e::es,a,b,h=>by
  simp only[PyData.eqvAll,T?] at h
  rw[HW (a d Y9) (b e Y9) h.1,eqvAll_eq (λx hx=>a x (Y5 _ hx)) (λx hx=>b x (Y5 _ hx)) h.2]
end
noncomputable instance:DecidableEq O!:=λa b=>Classical.propDecidable _
theorem vB {n m:Nat}{d e:O!}(a:Fl n d)(b:Fl m e):E! d e=decide (d=e):=by
 cases h:E! d e with
 | true=>exact(Ja (HW a b h)).symm
 | false=>
  refine(Jc λz=>?_).symm
  subst z;rw[a.self] at h;cases h
abbrev dI (ns:List Int):O!:=.list (ns.map .int)
theorem mq (ns:List Int):Fl 1 (dI ns):=.lst λd hd=>by
 obtain⟨i,_,rfl⟩:=List.mem_map.mp hd;exact .int i
theorem HX {a b:List Int}(h:dI a=dI b):a=b:=by
 have h':a.map PyData.int=b.map PyData.int:=PyData.list.inj h;induction a generalizing b with
 | nil=>
  cases b with
  | nil=>rfl
  | cons _ _=>simp at h'
 | cons x a ih=>
  cases b with
  | nil=>simp at h'
  | cons y b=>
   simp only[List.map_cons,List.cons.injEq,PyData.int.injEq] at h'
   rw[h'.1,ih (Jd PyData.list h'.2) h'.2]
theorem Bj (a b:List Int):E! (dI a) (dI b)=decide (a=b):=by
 rw[vB (mq a) (mq b)];by_cases h:a=b
 ·rw[Ja h,Ja (Jd dI h)]
 ·rw[Jc h,Jc λz=>h (HX z)]
theorem RU {K:bE}{H:Hp}{a b:o?}{xs ys:List Int}{Q:VK}(ha:aP K H a (xs.map V.int))(hb:aP K H b (ys.map V.int))(q:Q (.bl (decide (xs=ys))) H):zL K false (.ref a) (.ref b) H Q:=
 ⟨dI xs,dI ys,rR ha (gF _),rR hb (gF _),(mq _).shaped (by decide),(mq _).shaped (by decide),by
  show Q (.bl (E! (dI xs) (dI ys))) H
  rw[Bj];exact q⟩
theorem Rj {K:bE}{H:Hp}{a b:o?}{xs ys:List Int}{Q:VK}(ha:aP K H a (xs.map V.int))(hb:aP K H b (ys.map V.int))(q:Q (.bl (!decide (xs=ys))) H):zL K true (.ref a) (.ref b) H Q:=
 ⟨dI xs,dI ys,rR ha (gF _),rR hb (gF _),(mq _).shaped (by decide),(mq _).shaped (by decide),by
  show Q (.bl (!E! (dI xs) (dI ys))) H
  rw[Bj];exact q⟩
section
variable {X:Cx} {pins:List (o?×Obj)} {σ:St} {H:Hp} {s:u?} {h':O?}
theorem Inv.zO {t':Nat}{ch:List o?}(I:Inv X pins σ H s)(k:∀b u,b ∉ ch->s.heap.get? b=j? u->h'.get? b=j? u)(hf:∀b∈ch,jZ X pins H b):Inv X pins σ H { s with heap:=h',toks:=t' }:=by
 have M7:∀b u,H b=j? u->b ∉ ch:=λb u e z=>by rw[(hf b z).1] at e;cases e
 refine I.step (g':=s.gens) (d':=s.drawn) (ch:=ch) (λb hb=>⟨(hf b hb).2.2.2.1,(hf b hb).2.1,(hf b hb).2.2.2.2.1,(hf b hb).2.2.2.2.2⟩) (λb o _ _ hc e _=>k b o hc e) (λb o _ _ hc e _=>⟨o.slots,k b o hc e⟩) (λ_ _ _ _ n=>n)
  (λb o hc e=>⟨o,k b o hc e⟩) (λ_ _ e=>e) (λ_ _ _ e=>e) (λb ps e=>⟨#[],by rw[e];simp⟩) (λm hm=>?_) (λb u e=>?_) I.bare
 ·obtain⟨o,es,ep,ho,r⟩:=hm
  exact⟨o,es,ep,k _ o (λz=>(hf _ z).2.1 rfl) ho,r⟩
 ·refine(I.hok b u e).stay (λc v hc q=>k c v ?_ q) (λ_ q=>q) λ_ _ q=>q
  rcases hc with z|z
  ·rw[z];exact M7 b u e
  ·exact M7 c _ z
theorem Inv.yU {t':Nat}{ch:List o?}{a:o?}{o:HO}(I:Inv X pins σ H s)(k:∀b u,b ∉ ch->s.heap.get? b=j? u->h'.get? b=j? u)(hf:∀b∈ch,jZ X pins H b)(ha:s.heap.objs.size<=a)(new:iU X.prog X.w (upd H a o) h' a o):
  Inv X pins σ (upd H a o) { s with heap:=h',toks:=t' }:=by
 have hn:H a=q?:=I.hok.fresh ha;have M7:∀b u,H b=j? u->b ∉ ch:=λb u e z=>by rw[(hf b z).1] at e;cases e
 have nea:∀b u,s.heap.get? b=j? u->b≠a:=λb u e=>Yq (Yj (Yl e) ha)
 refine I.step (g':=s.gens) (d':=s.drawn) (ch:=ch) (λb hb=>⟨(hf b hb).2.2.2.1,(hf b hb).2.1,(hf b hb).2.2.2.2.1,(hf b hb).2.2.2.2.2⟩) (λb o _ _ hc e _=>k b o hc e) (λb o _ _ hc e _=>⟨o.slots,k b o hc e⟩) (λb u _ e n=>by rw[aO (nea b u e)];exact n)
  (λb o hc e=>⟨o,k b o hc e⟩) (λb xs e=>by rw[aO (bL e hn)];exact e) (λb u xs e=>by rw[aO (bL e hn)];exact e) (λb ps e=>⟨#[],by rw[aO (bL e hn),e];simp⟩) (λm hm=>?_) (λb u e=>?_) I.bare
 ·obtain⟨o,es,ep,ho,r⟩:=hm
  exact⟨o,es,ep,k _ o (λz=>(hf _ z).2.1 rfl) ho,r⟩
 ·by_cases hb:b=a
  ·subst hb
   rw[ay] at e;cases e;exact new
  ·rw[aO hb] at e
   refine(I.hok b u e).stay (λc v hc q=>k c v ?_ q) (λc q=>by rw[aO (bL q hn)];exact q) λc xs q=>by rw[aO (bL q hn)];exact q
   rcases hc with z|z
   ·rw[z];exact M7 b u e
   ·exact M7 c _ z
end
def QL (K:bE)(a:o?)(st:Nat):It:=
 ⟨λi H=>∃xs x,aP K H a xs/\xs[i]?=j? x,λi H v H'=>∃r x,v=.ref r/\H r=q?/\(∀xs,aP K H a xs->xs[i]?=j? x)/\H'=upd H r (.tup [.int ((st+i:Nat):Int),x]),λi H=>∃xs,aP K H a xs/\xs.length<=i⟩
theorem Dj {prog:F?}{w:H?}{A:A!}(hh:A.handled=q?)(it l:o?)(hne:l≠it)(items:Array l?)(st:Nat):
  Draws prog w A it [it,l] (st+items.size) (λi v=>items[i-st]?=j? v) (λi h=>st<=i/\h.IsListIter it l (i-st)/\h.IsList l items) where
 live:=λ_ _ x=>let ⟨o,ho,_⟩:=x.2.1;⟨o,ho⟩
 frame:=λ_ _ _ x hk=>⟨x.1,x.2.1.at λo e=>hk it (by simp) o e,x.2.2.at λo e=>hk l (by simp) o e⟩
 item:=λi s Q E hi x hQ=>by
  have hlt:i-st<items.size:=by have:=x.1;omega
  refine wpAny_nextOf_list_item x.2.1 x.2.2 (x:=items[i-st]) (by simp[hlt]) λh' LS hs'=>?_
  have e:i-st+1=i+1-st:=by have:=x.1;omega
  rw[e] at LS;exact hQ _ h' s.toks (by simp[hlt]) ⟨Nat.le_succ_of_le x.1,LS,x.2.2.extBut hs'.extBut hne⟩ hs'
 done:=λs Q E x hE=>wpAny_nextOf_list_end hh x.2.1 x.2.2 (by simp) hE
theorem F9 {P:F?}{w:H?}{K:bE}{elts:List Expr}{k:Nat}{pos:Pos}(a e it:o?)(hei:e≠it)(hae:a≠e)(hai:a≠it)(st:Nat):
  Turn P w K (.Tuple elts k pos) (QL K a st) [e,it] e (λi h=>(∃old,IsEnum h e it ((st+i:Nat):Int) old)/\h.IsListIter it a i) where
 mem:=by simp
 obj:=λi h x b hb=>by
  obtain⟨⟨old,he⟩,o,ho,c,d⟩:=x;rcases List.mem_cons.mp hb with rfl|hb
  ·exact⟨_,he,λv z=>by
    have z':Data.fields _=Data.cell v:=z;cases z'⟩
  ·have e':b=it:=by simpa using hb
   subst e';exact⟨o,ho,λv z=>by rw[d] at z;cases z⟩
 keep:=λi h h' x kk=>⟨let ⟨old,he⟩:=x.1;⟨old,kk e (by simp) _ he⟩,x.2.at λo ho=>kk it (by simp) o ho⟩
 item:=by
  intro X hP hw hK hc i pins s σ H E I hf x hg;subst hP hw hK;obtain⟨xs,v,hq,hx⟩:=hg;obtain⟨its,rv,p,hz⟩:=I.list hq;obtain⟨u,hu,ru⟩:=rv.get hx;obtain⟨⟨old,he⟩,hit⟩:=x;have hi:i<its.length:=(List.getElem?_eq_some_iff.mp hu).1;have D:=Dj (prog:=X.prog) (w:=X.w) (A:=X.A.in1) (I.ok.hd hc) it a hai its.toArray st;have hn0:H s.heap.objs.size=q?:=I.fresh;have helt:e<s.heap.objs.size:=Yl he;have hilt:it<s.heap.objs.size:=by obtain⟨_,y,_⟩:=id hit;exact Yl y
  refine wpAny_pyNext_enum_itemD (i:=st+i) D he ⟨Wj _ _,by rw[Wh];exact hit,p.isList⟩ (by simp;omega) hei (by simp[hei,Ne.symm hae]) λy h1 tk hy ho st1 hT hsz hk=>?_
  rw[Wh] at hy;have ey:y=u:=by
   have:its[i]?=j? y:=by simpa using hy
   rw[hu] at this;exact(M? this).symm
  subst ey;refine⟨_,rfl,wpAny_letOwnedTupleGo_enum ho λh2 he2 hs2=>?_⟩
  have hT2:h2.get? s.heap.objs.size=j? { cls:=.type "tuple",data:=.seq #[.int ((st+i:Nat):Int) tk,y] }:=(hs2.2 _ (Nat.ne_of_gt helt)).trans hT;have I2:Inv X pins σ (upd H s.heap.objs.size (.tup [.int ((st+i:Nat):Int),v])) { s with heap:=h2,toks:=tk+1 }:=
   I.yU (ch:=[e,it]) (λb u hb q=>(hs2.2 b λz=>hb (by simp[z])).trans (hk b u (λz=>hb (by simp[z])) (λz=>hb (by simp[z])) q)) hf (Yd _)
    ⟨by show 2<=K?;rw[C?];omega,[.int ((st+i:Nat):Int) tk,y],.cons ⟨_,rfl⟩ (.cons ru .nil),_,hT2,rfl,0,rfl⟩
  refine⟨.ref s.heap.objs.size,_,I2,rfl,⟨_,v,rfl,hn0,λys hy=>by rw[I.rP hy hq];exact hx,rfl⟩,⟨⟨y,?_⟩,?_⟩,λb hb=>?_⟩
  ·have e1:((st+i:Nat):Int)+1=((st+(i+1):Nat):Int):=by omega
   rw[<- e1];exact he2
  ·have hl1:=st1.2.1
   have e2:st+i+1-st=i+1:=by omega
   rw[e2] at hl1;exact hl1.at λo q=>(hs2.2 it hei.symm).trans q
  ·rw[aO ?_]
   ·exact(hf b hb).1
   ·rcases List.mem_cons.mp hb with rfl|hb
    ·exact Yq helt
    ·have:b=it:=by simpa using hb
     subst this;exact Yq hilt
 done:=by
  intro X hP hw hK hc i pins s σ H E I hf x hg;subst hP hw hK;obtain⟨xs,hq,hx⟩:=hg;obtain⟨its,rv,p,hz⟩:=I.list hq;obtain⟨⟨old,he⟩,hit⟩:=x;have hl:=rv.length;have hT:s.TypeIs (.ref e) "enumerate":=⟨_,he,rfl⟩;unfold pyNext;refine B? (wpAny_attempt (wpAny_callSpecial?_slot (name:=J! "__next__") hT PySem.F.slot_enumerate_next (wpAny_call_entry PySem.F.slot_enumerate_next hT PySem.F.entry_enumerate_next ?_ (PySem.F.args_enumerate_next_1 _))))
  show L? _ _ (field (.ref e) 2 >>= _) _ _ _
  refine B? (wpAny_field he rfl (x:=.ref it) rfl ?_)
  refine B? (wpAny_nextOf_list_end (I.ok.hd hc) hit p.isList (by simp;omega) λh' x he' hx'=>?_)
  obtain⟨o,ho,hc'⟩:=hx';refine B? (wpAny_isInstance (T:="StopIteration") (b:=true) ⟨o,ho,hc'⟩ isSubtype_stop ?_)
  exact J? ⟨rfl,I.zO (t':=s.toks) (ch:=[e,it]) (λb u hb q=>he' b u (λz=>hb (by simp[z])) q) hf⟩
 self:=λ_ _ _ _ _ x h=>let ⟨_,he⟩:=x.1;wpAny_pyIter_enum he h
section
variable {X:Cx} {elts:List Expr} {k:Nat} {tpos:Pos}
def Ni (K:bE)(ta:TA):TI:=λσ H R=>ta σ H λvs H1=>∃a,vs=[.ref a]/\(∃xs,aP K H1 a xs)/\R (QL K a 0) H1
theorem LU {l:Expr}{ta:TA}{p pos:Pos}(hg:Gl X "enumerate")(hm:X.mg "enumerate"=q?)(ha:PA X [l] ta)(hs:I? [l] X.env=[(false,eval l X.env)]:=by rfl):
  PI X (.Tuple elts k tpos) (.Call (.Name "enumerate" p) [l] [] pos) (Ni X.K ta):=by
 intro pins s σ H R I h;refine Call_ (jC I hg hm boot_enumerate (M! (eU (ha pos pins s σ H _ I h) λus s1 ⟨vs,H1,I1,r1,q1⟩=>?_) hs rfl))
 obtain⟨a,e,⟨xs,hq⟩,q⟩:=q1;subst e;obtain⟨u,rfl,ru⟩:=vals1 r1;cases (show u=I! a from ru)
 obtain⟨its,rv,pl,hz⟩:=I1.list hq;have hlt:a<s1.heap.objs.size:=by obtain⟨_,y,_⟩:=pl.isList;exact Yl y
 refine call_enumerate_list pl.isList λh' he hit hsz hk=>?_
 refine wpAny_pyIter_enum he ?_
 have I2:Inv X pins σ H1 { s1 with heap:=h' }:=I1.kept (t':=s1.toks) hk
 refine⟨_,[s1.heap.objs.size+1,s1.heap.objs.size],_,_,H1,rfl,I2,F9 a (s1.heap.objs.size+1) s1.heap.objs.size (Nat.succ_ne_self _) (Yq (Nat.lt_succ_of_lt hlt)) (Yq hlt) 0,⟨⟨_,he⟩,hit⟩,λb hb=>?_,q⟩
 rcases List.mem_cons.mp hb with rfl|hb
 ·exact I1.u7 (W5 _) (I1.hok.fresh (W5 _))
 ·have:b=s1.heap.objs.size:=by simpa using hb
  subst this;exact I1.u7 (Yd _) (I1.hok.fresh (Yd _))
theorem iX {K:bE}{l:Expr}{ta:TA}{p pos:Pos}(hK:X.K=K)(hg:Gl X "enumerate")(hm:X.mg "enumerate"=q?)(ha:PA X [l] ta)(hs:I? [l] X.env=[(false,eval l X.env)]:=by rfl):
  PI X (.Tuple elts k tpos) (.Call (.Name "enumerate" p) [l] [] pos) (Ni K ta):=by subst hK;exact LU hg hm ha hs
end
theorem lB {K:bE}{a:o?}{st:Nat}{xs:List V}{g:TG}{tb:TS}{D:Ends}{σ:St}{H:Hp}(Pv:Nat->St->Hp->Prop)(h0:Pv 0 σ H)(hl:∀i σ H,i<=xs.length->Pv i σ H->aP K H a xs)
  (hs:∀i x σ H r,xs[i]?=j? x->Pv i σ H->H r=q?->g (.ref r) σ (upd H r (.tup [.int ((st+i:Nat):Int),x])) λσ2 H2=>tb { D with nx:=Pv (i+1),ct:=Pv (i+1),bk:=D.nx } σ2 H2) (hd:∀σ H,Pv xs.length σ H->D.nx σ H):
  ∃W:Nat->Nat->St->Hp->Prop,(∃m,W 0 m σ H)/\∀i m σ H,W i m σ H->
   ((QL K a st).stop i H/\D.nx σ H)\/((QL K a st).go i H/\∃N:St->Hp->Prop,(∀σ' H',N σ' H'->∃m',m'<m/\W (i+1) m' σ' H')/\∀x H',(QL K a st).Ot i H x H'->g x σ H' λσ2 H2=>tb { D with nx:=N,ct:=N,bk:=D.nx } σ2 H2):=by
 refine⟨λi m σ H=>m=xs.length-i/\i<=xs.length/\Pv i σ H,⟨xs.length,by simp,Y1 _,h0⟩,?_⟩
 rintro i m σ H ⟨rfl,hi,p⟩;have q:=hl i σ H hi p;by_cases hlt:i<xs.length
 ·refine .inr ⟨⟨xs,xs[i],q,by simp[hlt]⟩,Pv (i+1),λσ' H' p'=>⟨xs.length-(i+1),by omega,rfl,hlt,p'⟩,λv H' y=>?_⟩
  obtain⟨r,x,e1,hr,hx,e2⟩:=y;subst e1 e2;exact hs i x σ _ r (hx xs q) p hr
 ·have e:i=xs.length:=by omega
  subst e;exact .inl ⟨⟨xs,q,Yd _⟩,hd σ H p⟩
theorem yV {K:bE}{a D:o?}{TJ:Nat}{xs:List V}{st:St}{g:TG}{pQ:TT}{te:TE}{H1:Hp}{Q:VK}(Pv:Nat->List V->Hp->Prop)(h0:Pv 0 [] (upd H1 D (.lst [])))
  (hl:∀i ys H2,H2 D=j? (.lst ys)->Pv i ys H2->aP K H2 a xs)
  (hs:∀i m x ys H2 r,m=xs.length-i->i<xs.length->xs[i]?=j? x->H2 D=j? (.lst ys)->ys.length<=i->Pv i ys H2->H2 r=q?->g (.ref r) st (upd H2 r (.tup [.int ((TJ+i:Nat):Int),x])) λσ3 H3=>pQ σ3 H3 λb H4=>
   if b=true then te σ3 H4 λy H5=>∃ys,H5 D=j? (.lst ys)/\ys.length<K?/\∃m',m'<m/\CW xs.length D Pv (i+1) m' (upd H5 D (.lst (ys++[y]))) else ∃m',m'<m/\CW xs.length D Pv (i+1) m' H4)
  (hd:∀ys H2,H2 D=j? (.lst ys)->Pv xs.length ys H2->Q (.ref D) H2):
  uO (QL K a TJ) D st g pQ te Q H1:=by
 refine⟨CW xs.length D Pv,⟨xs.length,by simp,Y1 _,[],ay,Yd _,h0⟩,?_⟩
 rintro i m H2 ⟨hm,hi,ys,hy,hlen,p⟩;have q:=hl i ys H2 hy p;by_cases hlt:i<xs.length
 ·refine .inr ⟨⟨xs,xs[i],q,by simp[hlt]⟩,λv H' y=>?_⟩
  obtain⟨r,x,e1,hr,hx,e2⟩:=y;subst e1 e2;exact hs i m x ys _ r hm hlt (hx xs q) hy hlen p hr
 ·have e:i=xs.length:=by omega
  subst e;exact .inl ⟨⟨xs,q,Yd _⟩,hd ys H2 hy p⟩
def OU (top:Int)(n:Nat):It:=⟨λi _=>i<n,λi H x H'=>H'=H/\x=.int (top-i),λi _=>n<=i⟩
theorem tS {P:F?}{w:H?}{K:bE}{tg:Expr}(it:o?)(top:Int)(n:Nat):Turn P w K tg (OU top n) [it] it (λi h=>IsRangeIter h it (top+(i:Nat)*(-1)) ((n:Int)-(i:Nat)) (-1)) where
 mem:=by simp
 obj:=λi h st b hb=>by
  have e:b=it:=by simpa using hb
  subst e;exact⟨_,st,λv z=>by
   have z':Data.fields _=Data.cell v:=z;cases z'⟩
 keep:=λi h h' st k=>k it (by simp) _ st
 item:=by
  intro X hP hw hK hc i pins s σ H E I hf st hg;subst hP hw hK;obtain⟨f0,f1,f2,f3,f4,f5⟩:=hf it (by simp)
  have W:=Walks.range (prog:=X.prog) (w:=X.w) (I.ok.hd hc) it top (-1) n;refine W.item i s _ _ hg st λv h' tk hv st' kk=>?_
  obtain⟨t,rfl⟩:=hv;have I1:Inv X pins σ H { s with heap:=h',toks:=tk }:=I.turned (λb o hb e=>kk b o (by simpa using hb) e) f0 f1 f3 f4 f5
  refine⟨_,rfl,Hv (s:={ s with heap:=h',toks:=tk }) (n:="range_iterator") st' rfl rfl (by decide) ⟨.int (top-i),H,I1,⟨t,?_⟩,⟨rfl,rfl⟩,st',λb hb=>(hf b hb).1⟩⟩
  have e:top+(i:Int)*(-1)=top-(i:Int):=by omega
  rw[e]
 done:=by
  intro X hP hw hK hc i pins s σ H E I hf st hg;subst hP hw hK;obtain⟨f0,f1,f2,f3,f4,f5⟩:=hf it (by simp)
  exact wpAny_pyNext_range_end (I.ok.hd hc) st (by have:n<=i:=hg;omega) λh' eb=>⟨rfl,I.turned (t':=s.toks) (λb o hb e=>eb b o hb e) f0 f1 f3 f4 f5⟩
 self:=λ_ _ _ _ _ st h=>wpAny_pyIter_rangeiter st h
theorem HY (hi:Int):Builtin.Range.rangeSize 0 hi 1=if 0<hi then hi else 0:=by
 rw[rangeSize_one];by_cases h:0<hi
 ·rw[W9 h,W9 h];omega
 ·rw[W8 h,W8 h]
theorem u_:isSubtype (.type "range_iterator") (.type "reversed")=pure false:=by rw[isSubtype_type];kernel_rfl
theorem vc (r:o?)(a b c:Int)(t u v:Tok)(hc0:¬ (!(Builtin.Range.rangeFitsLong a && Builtin.Range.rangeFitsLong b && Builtin.Range.rangeFitsLong c && Builtin.Range.rangeFitsLong (-c) && Builtin.Range.rangeFitsLong (a-c) && Builtin.Range.rangeFitsLong (Builtin.Range.rangeSize a b c)))=true):
  Meets (Builtin.«range.__reversed__» ⟨[.ref r],[]⟩) (λ_ R s=>s.heap.get? r=j? { cls:=.type "range",dict:=q?,data:=.fields #[.int a t,.int b u,.int c v],slots:=#[] }/\
   R (.ok (.ret (I! s.heap.objs.size))) { s with heap:=s.heap.push { cls:=Value.type (if (Builtin.Range.rangeFitsLong a && Builtin.Range.rangeFitsLong b && Builtin.Range.rangeFitsLong c && Builtin.Range.rangeFitsLong (-c) && Builtin.Range.rangeFitsLong (a-c) && Builtin.Range.rangeFitsLong (Builtin.Range.rangeSize a b c))=true then "range_iterator" else "longrange_iterator"),data:=Data.fields #[rawInt (a+(Builtin.Range.rangeSize a b c-1)*c),rawInt (Builtin.Range.rangeSize a b c),rawInt (-c)] },toks:=s.toks }):=
 .of_wp λprog w A R s h=>by obtain⟨hp,g,d,tk,os⟩:=s;obtain⟨hl,h⟩:=h;wp_walk;exact⟨_,rfl,h⟩
section
variable {prog:F?} {w:H?} {A:A!} {E:l?->u?->Prop} {s:u?}
theorem qz {x:Int}(h1:-(2 ^ 62)-2<=x)(h2:x<=2 ^ 62+2):Builtin.Range.rangeFitsLong x=true:=by
 unfold Builtin.Range.rangeFitsLong;simp only[T?,decide_eq_true_eq]
 omega
theorem wk {r:o?}{hi:Int}{t u v:Tok}{Q:l?->u?->Prop}(hr:IsRange s.heap r 0 hi 1 t u v)(h3:-(2 ^ 62)<=hi)(h4:hi<2 ^ 62)
  (h:Q (.ref s.heap.objs.size) { s with heap:=s.heap.push { cls:=.type "range_iterator",data:=.fields #[rawInt (0+((if 0<hi then hi else 0)-1)*1),rawInt (if 0<hi then hi else 0),rawInt (-1)] } }):
  L? (S? prog w) A (call (.builtin "range.__reversed__") [.ref r]) Q E s:=by
 have hs:(Builtin.Range.rangeFitsLong 0 && Builtin.Range.rangeFitsLong hi && Builtin.Range.rangeFitsLong 1 && Builtin.Range.rangeFitsLong (-1) && Builtin.Range.rangeFitsLong (0-1) && Builtin.Range.rangeFitsLong (Builtin.Range.rangeSize 0 hi 1))=true:=by
  rw[HY];simp only[T?]
  refine⟨⟨⟨⟨⟨qz (by decide) (by decide),qz (by omega) (by omega)⟩,qz (by decide) (by decide)⟩,qz (by decide) (by decide)⟩,qz (by decide) (by decide)⟩,?_⟩
  split
  ·exact qz (by omega) (by omega)
  ·exact qz (by decide) (by decide)
 refine call_meets PySem.F.slot_range_reversed ⟨_,hr,rfl⟩ PySem.F.entry_range_reversed (PySem.F.args_range_reversed_1 _) (vc r 0 hi 1 t u v (by rw[hs];simp)) ⟨hr,?_⟩
 rw[hs,HY];simp only[if_true]
 exact h
theorem rT {r:o?}{hi:Int}{t u v:Tok}{Q1:l?->u?->Prop}(hr:IsRange s.heap r 0 hi 1 t u v)(h3:-(2 ^ 62)<=hi)(h4:hi<2 ^ 62)
  (h:Q1 (.ref s.heap.objs.size) { s with heap:=s.heap.push { cls:=.type "range_iterator",data:=.fields #[rawInt (0+((if 0<hi then hi else 0)-1)*1),rawInt (if 0<hi then hi else 0),rawInt (-1)] } }):
  codeAny (S? prog w) A (.call (.builtin "reversed.__new__") ⟨[.type "reversed",.ref r],[]⟩) (wants Q1 E) s:=by
 have hT:s.TypeIs (.ref r) "range":=⟨_,hr,rfl⟩;refine codeAny_of_tree ?_
 show L? _ A.in1 (do checkBuiltinCall "reversed.__new__" ⟨[.type "reversed",.ref r],[]⟩;again (.builtin "reversed.__new__" ⟨[.type "reversed",.ref r],[]⟩)) _ _ s
 refine B? (wpAny_of_eq (PySem.F.newCall_reversed_1 _) (J? ⟨plainId_quiet PySem.F.plain_reversed_new _,codeAny_builtin PySem.F.entry_reversed_new ?_⟩))
 rw[Around.under_plainId PySem.F.plain_reversed_new _];unfold Builtin.«reversed.__new__»;refine B? (wpAny_of_eq (newClass_reversed _) ?_)
 try dsimp only
 refine B? (wpAny_of_eq (a:=()) (by first|rfl|kernel_rfl) ?_)
 refine B? (wpAny_of_eq (a:=()) (by first|rfl|kernel_rfl) ?_)
 try dsimp only
 refine B? (wpAny_specialOf hT PySem.F.slot_range_reversed.lookup ?_)
 try dsimp only
 refine B? (wpAny_of_eq (PySem.F.slot_range_reversed.bind _) ?_)
 try dsimp only
 have nn:¬ ((Value.builtin "range.__reversed__" == Value.none)=true):=E?;rw[W8 nn];refine B? (wpAny_rule ?_)
 refine B? (m:=runValue (.call (.builtin "range.__reversed__") ⟨[.ref r],[]⟩)) (show L? _ _ (call (.builtin "range.__reversed__") [.ref r]) _ _ _ from wk hr h3 h4 ?_)
 first
 | exact J? h
 | exact B? (J? (J? h))
theorem pR {r:o?}{hi:Int}{t u v:Tok}{Q:l?->u?->Prop}(hr:IsRange s.heap r 0 hi 1 t u v)(h3:-(2 ^ 62)<=hi)(h4:hi<2 ^ 62)
  (h:Q (.ref s.heap.objs.size) { s with heap:=s.heap.push { cls:=.type "range_iterator",data:=.fields #[rawInt (0+((if 0<hi then hi else 0)-1)*1),rawInt (if 0<hi then hi else 0),rawInt (-1)] } }):
  L? (S? prog w) A (call (.type "reversed") [.ref r]) Q E s:=by
 refine callType_other (U:="range_iterator") (Q₁:=λobj s₁=>obj=.ref s.heap.objs.size/\s₁={ s with heap:=s.heap.push { cls:=.type "range_iterator",data:=.fields #[rawInt (0+((if 0<hi then hi else 0)-1)*1),rawInt (if 0<hi then hi else 0),rawInt (-1)] } })
  (by decide +kernel) PySem.F.create_reversed ⟨_,_,PySem.F.mro_reversed⟩ PySem.F.made_reversed u_ (PySem.F.typeCall_reversed_1 _) (rT hr h3 h4 ⟨rfl,rfl⟩) ?_
 rintro obj s1 ⟨rfl,rfl⟩;exact⟨⟨_,Yv _ rfl,rfl⟩,h⟩
end
section
variable {X:Cx} {tg:Expr}
def UY (ta:TA):TE:=λσ H Q=>ta σ H λvs H1=>∃j:Int,vs=[.int j]/\∀p,H1 p=q?->Q (.ref p) (upd H1 p (.oV 0 j))
theorem wm {a:Expr}{ta:TA}{p pos:Pos}(hg:Gl X "range")(hm:X.mg "range"=q?)(ha:PA X [a] ta)(hs:I? [a] X.env=[(false,eval a X.env)]:=by rfl):PE X (.Call (.Name "range" p) [a] [] pos) (UY ta):=by
 refine⟨?_⟩
 intro pins s σ H Q I h;refine Call_ (jC I hg hm boot_range (M! (eU (ha pos pins s σ H _ I h) λus s1 ⟨vs,H1,I1,r1,q1⟩=>?_) hs rfl))
 obtain⟨j,e,q⟩:=q1;subst e;obtain⟨u,rfl,ru⟩:=vals1 r1;obtain⟨t,rfl⟩:=(show ∃t,u=Value.int j t from ru)
 refine call_range_1 ?_
 exact⟨.ref s1.heap.objs.size,_,I1.laid (o:=.oV 0 j) (λb o e=>Yh _ e) (Yd _) ⟨_,_,_,Yv _ rfl⟩,rfl,q _ I1.fresh⟩
def RV (ta:TA):TI:=λσ H R=>ta σ H λvs H1=>∃a,∃n:Int,vs=[.ref a]/\H1 a=j? (.oV 0 n)/\-(2 ^ 62)<=n/\n<2 ^ 62/\R (OU (n-1) n.toNat) H1
theorem zQ {l:Expr}{ta:TA}{p pos:Pos}(hg:Gl X "reversed")(hm:X.mg "reversed"=q?)(ha:PA X [l] ta)(hs:I? [l] X.env=[(false,eval l X.env)]:=by rfl):
  PI X tg (.Call (.Name "reversed" p) [l] [] pos) (RV ta):=by
 intro pins s σ H R I h;refine Call_ (jC I hg hm boot_reversed (M! (eU (ha pos pins s σ H _ I h) λus s1 ⟨vs,H1,I1,r1,q1⟩=>?_) hs rfl))
 obtain⟨a,n,e,hq,h1,h2,q⟩:=q1;subst e;obtain⟨u,rfl,ru⟩:=vals1 r1;cases (show u=I! a from ru)
 obtain⟨t,u,v,hr⟩:=I1.hok a _ hq;refine pR hr h1 h2 ?_
 have en:((n.toNat:Nat):Int)=if 0<n then n else 0:=by split <;> omega
 have hit:IsRangeIter (s1.heap.push { cls:=.type "range_iterator",data:=.fields #[rawInt (0+((if 0<n then n else 0)-1)*1),rawInt (if 0<n then n else 0),rawInt (-1)] }) s1.heap.objs.size (0+((if 0<n then n else 0)-1)*1) (if 0<n then n else 0) (-1):=Yv _ rfl
 refine wpAny_pyIter_rangeiter (s:={ s1 with heap:=_ }) hit ?_
 by_cases hn:0<n
 ·rw[W9 hn] at en hit ⊢
  refine⟨_,[s1.heap.objs.size],_,_,H1,rfl,I1.kept (t':=s1.toks) λb o e=>Yh _ e,tS s1.heap.objs.size (n-1) n.toNat,?_,λb hb=>?_,q⟩
  ·have e1:n-1+((0:Nat):Int)*(-1)=0+(n-1)*1:=by omega
   have e2:((n.toNat:Nat):Int)-((0:Nat):Int)=n:=by omega
   show IsRangeIter _ _ (n-1+((0:Nat):Int)*(-1)) (((n.toNat:Nat):Int)-((0:Nat):Int)) (-1)
   rw[e1,e2];exact hit
  ·have e:b=s1.heap.objs.size:=by simpa using hb
   subst e;exact I1.u7 (Yd _) (I1.hok.fresh (Yd _))
 ·rw[W8 hn] at en hit ⊢
  have e0:n.toNat=0:=by omega
  rw[e0] at q;have tr:Turn X.prog X.w X.K tg (OU (n-1) 0) [s1.heap.objs.size] s1.heap.objs.size (λi h=>IsRangeIter h s1.heap.objs.size (-1+(i:Nat)*(-1)) (((0:Nat):Int)-(i:Nat)) (-1)):=by
   have T:=tS (P:=X.prog) (w:=X.w) (K:=X.K) (tg:=tg) s1.heap.objs.size (-1) 0;exact⟨T.mem,T.obj,T.keep,λX a b c d i pins s σ H E I hf st hg=>Jf (show i<0 from hg) (Wm _),T.done,T.self⟩
  refine⟨_,[s1.heap.objs.size],_,_,H1,rfl,I1.kept (t':=s1.toks) λb o e=>Yh _ e,tr,hit,λb hb=>?_,q⟩
  have e:b=s1.heap.objs.size:=by simpa using hb
  subst e;exact I1.u7 (Yd _) (I1.hok.fresh (Yd _))
end
theorem nL {top:Int}{n:Nat}{g:TG}{tb:TS}{D:Ends}{σ:St}{H:Hp}(Pv:Nat->St->Hp->Prop)(h0:Pv 0 σ H)
  (hs:∀i σ H,i<n->Pv i σ H->g (.int (top-i)) σ H λσ2 H2=>tb { D with nx:=Pv (i+1),ct:=Pv (i+1),bk:=D.nx } σ2 H2) (hd:∀σ H,Pv n σ H->D.nx σ H):
  ∃W:Nat->Nat->St->Hp->Prop,(∃m,W 0 m σ H)/\∀i m σ H,W i m σ H->
   ((OU top n).stop i H/\D.nx σ H)\/((OU top n).go i H/\∃N:St->Hp->Prop,(∀σ' H',N σ' H'->∃m',m'<m/\W (i+1) m' σ' H')/\∀x H',(OU top n).Ot i H x H'->g x σ H' λσ2 H2=>tb { D with nx:=N,ct:=N,bk:=D.nx } σ2 H2):=by
 refine⟨λi m σ H=>m=n-i/\i<=n/\Pv i σ H,⟨n,by simp,Y1 _,h0⟩,?_⟩
 rintro i m σ H ⟨rfl,hi,p⟩;by_cases hlt:i<n
 ·refine .inr ⟨hlt,Pv (i+1),λσ' H' p'=>⟨n-(i+1),by omega,rfl,hlt,p'⟩,λx H' y=>?_⟩
  obtain⟨e,y⟩:=y;subst e y;exact hs i σ _ hlt p
 ·have e:i=n:=by omega
  subst e;exact .inl ⟨Yd _,hd σ H p⟩
def Xo (tb:TS)(D:Ends)(Pv:St->Hp->Prop)(μ:St->Hp->Nat)(m:Nat)(σ:St)(H1:Hp):Prop:=
 ∃N:St->Hp->Prop,(∀σ' H',N σ' H'->∃m',m'<m/\(m'=μ σ' H'/\Pv σ' H'))/\tb { D with nx:=N,ct:=N,bk:=D.nx } σ H1
theorem win {tb:TS}{D:Ends}{Pv:St->Hp->Prop}{μ:St->Hp->Nat}{m:Nat}{σ:St}{H1:Hp}(h:tb { D with nx:=λσ' H'=>Pv σ' H'/\μ σ' H'<m,ct:=λσ' H'=>Pv σ' H'/\μ σ' H'<m,bk:=D.nx } σ H1):Xo tb D Pv μ m σ H1:=
 ⟨_,λσ' H' ⟨p,l⟩=>⟨_,l,rfl,p⟩,h⟩
theorem jH {c:TT}{tb:TS}{D:Ends}{σ:St}{H:Hp}(Pv:St->Hp->Prop)(μ:St->Hp->Nat)(h0:Pv σ H)
  (hs:∀σ H,Pv σ H->c σ H λb H1=>if b=true then Xo tb D Pv μ (μ σ H) σ H1 else D.nx σ H1):C7 c tb D σ H:=by
 refine⟨λm σ H=>m=μ σ H/\Pv σ H,⟨_,rfl,h0⟩,?_⟩
 rintro m σ H ⟨rfl,p⟩;exact hs σ H p
theorem merge {C:St->Hp->Prop}{G:Prop}(M:St->Hp->Prop)(h1:(∀σ H,M σ H->C σ H)->G)(h2:∀σ H,M σ H->C σ H):G:=h1 h2
def aq (f:List Int)(i:Nat):Int:=f.getD i 0
theorem gT (i:Nat):aq [] i=0:=by simp[aq]
theorem bG {f:List Int}{i:Nat}(h:f.length<=i):aq f i=0:=by
 unfold aq;rw[Yb,Wn h];rfl
theorem d9 {f:List Int}{i:Nat}(h:i<f.length):aq f i=f[i]:=by
 unfold aq;rw[Yb,Yc h];rfl
theorem rW {f:List Int}{i:Nat}{x:Int}(h:f[i]?=j? x):aq f i=x:=by
 unfold aq;rw[Yb,h];rfl
theorem rX {f g:List Int}(hl:f.length=g.length)(h:∀i,i<f.length->aq f i=aq g i):f=g:=by
 refine List.ext_getElem hl λi h1 h2=>?_
 rw[<- d9 h1,<- d9 h2];exact h i h1
theorem nM {n:Nat}{c:Nat->Int}{i:Nat}(h:i<n):aq ((Ym n).map c) i=c i:=by
 rw[d9 (by simpa using h)]
 simp
theorem gf {n:Nat}{c:Nat->Int}(hc:∀i,n<=i->c i=0)(i:Nat):aq ((Ym n).map c) i=c i:=by
 by_cases h:i<n
 ·exact nM h
 ·rw[bG (by simp;omega),hc i (by omega)]
theorem nN {f:List Int}{k:Nat}{v:Int}(hk:k<f.length)(i:Nat):aq (f.set k v) i=if i=k then v else aq f i:=by
 unfold aq;rw[Yb,List.getElem?_set];by_cases h:k=i
 ·subst h
  simp[hk]
 ·rw[W8 h,W8 (Ne.symm h),Yb]
theorem F_ {f:List Int}{n i:Nat}(h:i<n):aq (f.take n) i=aq f i:=by
 unfold aq;rw[Yb,List.getElem?_take,W9 h,Yb]
theorem zR {f:List Int}{n i:Nat}(h:n<=i):aq (f.take n) i=0:=bG (by rw[Ys];omega)
theorem HZ {f:List Int}{g:Int->Int}(h0:g 0=0)(i:Nat):aq (f.map g) i=g (aq f i):=by
 by_cases h:i<f.length
 ·rw[d9 (by simpa using h),d9 h];simp
 ·rw[bG (by simp;omega),bG (by omega),h0]
theorem j7 {f g:List Int}(i:Nat):aq (f++g) i=if i<f.length then aq f i else aq g (i-f.length):=by
 unfold aq;rw[Yb,List.getElem?_append];split
 ·rw[Yb]
 ·rw[Yb]
theorem cM (n i:Nat):aq (Yi n 0) i=0:=by
 by_cases h:i<n
 ·rw[d9 (by simpa using h)];simp
 ·exact bG (by simp;omega)
theorem Bk (f:List Int)(n i:Nat):aq (f++Yi n 0) i=aq f i:=by
 rw[j7];split
 ·rfl
 ·rw[cM,bG (by omega)]
def ie (f:List Int):Nat->Nat
 | 0=>0
 | n+1=>if aq f n=0 then ie f n else n+1
def trim (f:List Int):List Int:=f.take (ie f f.length)
def Norm (f:List Int):Prop:=f=[]\/aq f (f.length-1)≠0
theorem rY (f:List Int):∀n,ie f n<=n
 | 0=>Yd _
 | n+1=>by
  unfold ie;split
  ·exact Nat.le_succ_of_le (rY f n)
  ·exact Yd _
theorem Bl (f:List Int):∀n,ie f n=0\/aq f (ie f n-1)≠0
 | 0=>.inl rfl
 | n+1=>by
  unfold ie;split
  ·exact Bl f n
  ·rename_i h;exact .inr h
theorem yW (f:List Int):∀n i,ie f n<=i->i<n->aq f i=0
 | 0,i,_,h=>Jf h (Wm _)
 | n+1,i,h1,h2=>by
  unfold ie at h1;split at h1
  ·rename_i h
   by_cases e:i=n
   ·rw[e];exact h
   ·exact yW f n i h1 (by omega)
  ·omega
theorem gG (f:List Int):(trim f).length=ie f f.length:=by
 unfold trim;rw[Ys,Nat.min_eq_left (rY f _)]
theorem d_ (f:List Int)(i:Nat):aq (trim f) i=aq f i:=by
 unfold trim;by_cases h:i<ie f f.length
 ·exact F_ h
 ·rw[zR (by omega)]
  by_cases h2:i<f.length
  ·exact(yW f _ i (by omega) h2).symm
  ·exact(bG (by omega)).symm
theorem jw (f:List Int):Norm (trim f):=by
 rcases Bl f f.length with h|h
 ·left
  have:(trim f).length=0:=by rw[gG];exact h
  exact List.length_eq_zero_iff.mp this
 ·right
  rw[d_,gG];exact h
theorem rZ {f g:List Int}(hf:Norm f)(hg:Norm g)(h:∀i,aq f i=aq g i):f=g:=by
 have key:∀ {f g:List Int},Norm f->(∀i,aq f i=aq g i)->f.length<=g.length:=by
  intro f g hf h;rcases hf with rfl|hf
  ·exact Y1 _
  ·refine V? λhn=>hf ?_
   rw[h];exact bG (by omega)
 have hl:f.length=g.length:=Nat.le_antisymm (key hf h) (key hg λi=>(h i).symm)
 exact rX hl λi _=>h i
theorem H_ {f g:List Int}(h:∀i,aq f i=aq g i):trim f=trim g:=rZ (jw f) (jw g) λi=>by rw[d_,d_,h]
theorem Ga {f:List Int}(h:Norm f):trim f=f:=rZ (jw f) h λi=>d_ f i
theorem Norm.last {f:List Int}(h:Norm f)(hne:f≠[]):aq f (f.length-1)≠0:=by
 rcases h with h|h
 ·exact Jf h hne
 ·exact h
def Ia (f g:List Int):List Int:=(Ym (max f.length g.length)).map λi=>aq f i+aq g i
theorem Gb (f g:List Int)(i:Nat):aq (Ia f g) i=aq f i+aq g i:=
 gf (λi h=>by rw[bG (by omega),bG (by omega)];rfl) i
def r_ (f g:List Int):List Int:=trim (Ia f g)
theorem oX (f g:List Int)(i:Nat):aq (r_ f g) i=aq f i+aq g i:=by
 unfold r_;rw[d_,Gb]
theorem oY (f g:List Int):Norm (r_ f g):=jw _
def fZ (f g:List Int):Nat->Nat->Int
 | 0,_=>0
 | i+1,m=>fZ f g i m+(if i<=m then aq f i*aq g (m-i) else 0)
def conv (f g:List Int)(m:Nat):Int:=fZ f g f.length m
def qh (f g:List Int)(i j m:Nat):Int:=fZ f g i m+(if i<=m/\m-i<j then aq f i*aq g (m-i) else 0)
theorem wo (f g:List Int)(i m:Nat):qh f g i 0 m=fZ f g i m:=by
 unfold qh;rw[W8 (by omega),We]
theorem yX (f g:List Int)(i m:Nat):qh f g i g.length m=fZ f g (i+1) m:=by
 show _=fZ f g i m+_
 unfold qh;congr 1
 by_cases h:i<=m
 ·by_cases h2:m-i<g.length
  ·rw[W9 ⟨h,h2⟩,W9 h]
  ·rw[W8 (by omega),W9 h,bG (f:=g) (by omega),Y6]
 ·rw[W8 (by omega),W8 h]
theorem wu (f g:List Int)(i j m:Nat):qh f g i (j+1) m=if m=i+j then qh f g i j m+aq f i*aq g j else qh f g i j m:=by
 unfold qh;by_cases h:m=i+j
 ·subst h
  have e:i+j-i=j:=by omega
  rw[W9 rfl,W9 ⟨by omega,by omega⟩,W8 (by omega),e]
  omega
 ·rw[W8 h]
  congr 1
  by_cases h1:i<=m/\m-i<j
  ·rw[W9 h1,W9 ⟨h1.1,by omega⟩]
  ·rw[W8 h1,W8 (by omega)]
theorem uR (f g:List Int):∀(i m:Nat),f.length<=i->fZ f g i m=fZ f g f.length m
 | 0,m,h=>by
  have:f.length=0:=by omega
  rw[this]
 | i+1,m,h=>by
  by_cases e:f.length=i+1
  ·rw[e]
  ·show fZ f g i m+_=_
   rw[uR f g i m (by omega),bG (f:=f) (i:=i) (by omega)]
   simp
theorem tT (f g:List Int):∀(i m:Nat),(∀a,a<i->a<=m->aq f a*aq g (m-a)=0)->fZ f g i m=0
 | 0,m,_=>rfl
 | i+1,m,h=>by
  show fZ f g i m+_=0
  rw[tT f g i m λa h1 h2=>h a (by omega) h2]
  by_cases hi:i<=m
  ·rw[W9 hi,h i (by omega) hi];rfl
  ·rw[W8 hi];rfl
theorem nO (f g:List Int)(m:Nat)(h:f.length+g.length<=m+1):conv f g m=0:=
 tT f g f.length m λa h1 h2=>by rw[bG (f:=g) (by omega),Y6]
def ee (f g:List Int):List Int:=if f=[]\/g=[] then [] else (Ym (f.length+g.length-1)).map (conv f g)
theorem oZ (f g:List Int)(m:Nat):aq (ee f g) m=conv f g m:=by
 unfold ee;by_cases h:f=[]\/g=[]
 ·rw[W9 h,gT]
  rcases h with rfl|rfl
  ·rfl
  ·exact(tT f [] f.length m λa _ _=>by rw[gT,Y6]).symm
 ·rw[W8 h]
  refine gf (λi hi=>nO f g i ?_) m
  have:0<f.length:=List.length_pos_iff.mpr λz=>h (.inl z)
  omega
def f6 (m:Nat)(f:List Int):Prop:=∀x∈f,Bd m x
theorem f6.aq {m:Nat}{f:List Int}(h:f6 m f)(i:Nat):Bd m (aq f i):=by
 by_cases hi:i<f.length
 ·rw[d9 hi];exact h _ (Yz hi)
 ·rw[bG (by omega)]
  show Zm 0<2 ^ m
  exact Z0 (by decide)
theorem f6.mono {m n:Nat}{f:List Int}(h:f6 m f)(hmn:m<=n):f6 n f:=λx hx=>(h x hx).mono hmn
theorem tU {m:Nat}{f:List Int}(h:∀i,i<f.length->Bd m (aq f i)):f6 m f:=λx hx=>by
 obtain⟨i,hi,rfl⟩:=Wa hx;rw[<- d9 hi];exact h i hi
theorem f6.trim {m:Nat}{f:List Int}(h:f6 m f):f6 m (trim f):=λx hx=>h x (List.mem_of_mem_take hx)
theorem EX (m:Nat):Bd m 0:=Z0 (by decide)
theorem f6.fZ {m n:Nat}{f g:List Int}(hf:f6 m f)(hg:f6 n g):∀(i k:Nat),Bd (m+n+i) (fZ f g i k)
 | 0,k=>EX _
 | i+1,k=>by
  have ih:=f6.fZ hf hg i k;have h2:Bd (m+n+i) (if i<=k then L2.aq f i*L2.aq g (k-i) else 0):=by
   split
   ·exact((hf.aq i).mul (hg.aq (k-i))).mono (by omega)
   ·exact EX _
  exact(ih.add h2).mono (by omega)
theorem f6.ee {m n:Nat}{f g:List Int}(hf:f6 m f)(hg:f6 n g):f6 (m+n+f.length) (ee f g):=tU λi _=>by
 rw[oZ];exact f6.fZ hf hg _ _
def OV (H:Hp)(Q:VK)(ns:List Int):Prop:=∀p H',aH H H'->H p=q?->H' p=j? (.lst (ns.map V.int))->Q (.ref p) H'
theorem tV (ns:List Int)(k:Nat)(h:k<=ns.length):iw (ns.map V.int) q? (j? (k:Int))=(ns.take k).map V.int:=by
 unfold iw;have e1:HT.pP (ns.map V.int).length 0 q?=0:=rfl;have e2:HT.pP (ns.map V.int).length (ns.map V.int).length (j? (k:Int))=k:=by
  rw[HT.lV,Ya];omega
 rw[e1,e2];simp
theorem sr (n:Nat):(Yi n [V.int 0]).flatten=(Yi n (0:Int)).map V.int:=by
 induction n with
 | zero=>rfl
 | succ n ih=>rw[Zh,Wq,ih,Zh];rfl
theorem a_ {ns:List Int}{i:Nat}{x:V}(h:(ns.map V.int)[i]?=j? x):∃n,ns[i]?=j? n/\x=.int n:=by
 rw[Ye] at h;cases e:ns[i]? with
 | none=>rw[e] at h;cases h
 | some n=>rw[e] at h;exact⟨n,rfl,(M? h).symm⟩
theorem qA {ns:List Int}{i:Nat}(h:i<ns.length):(ns.map V.int)[i]?=j? (.int (aq ns i)):=by
 rw[Ye,Yc h,d9 h];rfl
theorem eK {ns:List Int}{i:Int}(h0:0<=i)(h1:i<(ns.length:Int)):qe (ns.map V.int) i=j? (.int (aq ns i.toNat)):=by
 have hi:i.toNat<(ns.map V.int).length:=by rw[Ya];omega
 rw[iW h0 hi];rw[d9 (by rw[Ya] at hi;exact hi)]
 simp
theorem j8 (ns:List Int)(i:Nat)(v:Int):(ns.map V.int).set i (.int v)=(ns.set i v).map V.int:=by rw[List.map_set]
theorem vC {n:Nat}{k:Int}(h0:0<=k)(h1:k<(n:Int)):Le n k=j? k.toNat:=by
 unfold Le;rw[W9 h0];first
  | rw[W9 h1]
  | rw[W9 (by omega)]
def Nj (K:bE):V->V->Hp->VK->Prop:=λx y H Q=>∃p xs i v,x=.ref p/\y=.int i/\aP K H p xs/\0<=i/\xs[i.toNat]?=j? v/\Q v H
theorem Ib {X:Cx}:Om X (Nj X.K):=by
 intro pins s σ H o i ov iv Q I ro ri h;obtain⟨p,xs,k,v,rfl,rfl,hq,h0,hx,q⟩:=h;cases ro;obtain⟨t,rfl⟩:=ri;obtain⟨its,r,pl,hz⟩:=I.list hq;obtain⟨u,hu,ru⟩:=r.get hx;have hl:=r.length;have hi:k.toNat<its.length:=(List.getElem?_eq_some_iff.mp hu).1;have hn:=v_;exact wpAny_getItem_list pl.isList h0 (by omega) (by simpa using hu) ⟨v,H,I,ru,q⟩
theorem yY {X:Cx}{K:bE}(h:X.K=K):Om X (Nj K):=by subst h;exact Ib
theorem su {ns:List Int}(h:ns≠[]):qe (ns.map V.int) (-1)=j? (.int (aq ns (ns.length-1))):=by
 have hl:0<ns.length:=List.length_pos_iff.mpr h;unfold qe Le;rw[W8 (by decide),W9 (by rw[Ya];omega),Ya]
 have e:(-1+(ns.length:Int)).toNat=ns.length-1:=by omega
 show(ns.map V.int)[(-1+(ns.length:Int)).toNat]?=_
 rw[e];exact qA (by omega)
theorem all_true (n:Nat):(Yi n true).all id=true:=by
 induction n with
 | zero=>rfl
 | succ n ih=>rw[Zh,List.all_cons,ih];rfl
theorem qi (n:Nat):(Yi (n+1) true).map V.bl=(Yi n true).map V.bl++[.bl true]:=by
 rw[List.replicate_succ',Yt];rfl
theorem f6.snoc {m:Nat}{f:List Int}{x:Int}(h:f6 m f)(hx:Bd m x):f6 m (f++[x]):=λy hy=>by
 rcases List.mem_append.mp hy with z|z
 ·exact h y z
 ·have:y=x:=by simpa using z
  rw[this];exact hx
theorem sy (f:List Int)(x:Int):f.map V.int++[V.int x]=(f++[x]).map V.int:=by simp
theorem wz (ns:List Int)(k:Nat):iw (ns.map V.int) q? (j? (k:Int))=(ns.take k).map V.int:=by
 by_cases h:k<=ns.length
 ·exact tV ns k h
 ·unfold iw
  have e1:HT.pP (ns.map V.int).length 0 q?=0:=rfl;have e2:HT.pP (ns.map V.int).length (ns.map V.int).length (j? (k:Int))=ns.length:=by
   rw[HT.lV,Ya];omega
  rw[e1,e2,Zn (by simp),Zn (by omega)]
  simp
theorem wA (f g:List Int):∀(i m:Nat),m+1<=i->fZ f g i m=fZ f g (m+1) m
 | 0,m,h=>Jf h (by omega)
 | i+1,m,h=>by
  by_cases e:m=i
  ·rw[e]
  ·show fZ f g i m+_=_
   rw[wA f g i m (by omega),W8 (by omega),We]
theorem sA (f g:List Int)(m:Nat):conv f g m=fZ f g (m+1) m:=by
 unfold conv;by_cases h:f.length<=m+1
 ·exact(uR f g (m+1) m h).symm
 ·exact wA f g f.length m (by omega)
theorem wB {f f' g g':List Int}(hf:∀a,aq f a=aq f' a)(hg:∀a,aq g a=aq g' a):∀(i m:Nat),fZ f g i m=fZ f' g' i m
 | 0,m=>rfl
 | i+1,m=>by
  show fZ f g i m+_=fZ f' g' i m+_
  rw[wB hf hg i m,hf,hg]
theorem qB {f f' g g':List Int}(hf:∀a,aq f a=aq f' a)(hg:∀a,aq g a=aq g' a)(m:Nat):conv f g m=conv f' g' m:=by
 rw[sA,sA,wB hf hg]
theorem Bm {u f g:List Int}{t:Nat}{c:Int}(hc:∀a,aq u a=aq f a+if a=t then c else 0):∀(i m:Nat),fZ u g i m=fZ f g i m+if t<i/\t<=m then c*aq g (m-t) else 0
 | 0,m=>by
  rw[W8 (by omega)];simp[fZ]
 | i+1,m=>by
  show fZ u g i m+_=fZ f g i m+_+_
  rw[Bm hc i m,hc];by_cases hi:i<=m
  ·rw[W9 hi,W9 hi]
   by_cases e:i=t
   ·subst e
    rw[W8 (by omega),W9 rfl,W9 ⟨by omega,hi⟩,Int.add_mul]
    omega
   ·rw[W8 e,We]
    by_cases h2:t<i/\t<=m
    ·rw[W9 h2,W9 ⟨by omega,h2.2⟩];omega
    ·rw[W8 h2,W8 (by omega)];omega
  ·rw[W8 hi,W8 hi]
   by_cases h2:t<i/\t<=m
   ·rw[W9 h2,W9 ⟨by omega,h2.2⟩];omega
   ·rw[W8 h2,W8 (by omega)]
theorem Ic {u f g:List Int}{t:Nat}{c:Int}(hc:∀a,aq u a=aq f a+if a=t then c else 0)(m:Nat):conv u g m=conv f g m+if t<=m then c*aq g (m-t) else 0:=by
 rw[sA,sA,Bm hc];congr 1
 by_cases h:t<=m
 ·rw[W9 h,W9 ⟨by omega,h⟩]
 ·rw[W8 h,W8 (by omega)]
def dR (g:List Int):Prop:=g≠[]/\aq g (g.length-1)=1
theorem wC {f:List Int}{d:Nat}:∀n,(∀m,d<=m->m<n->aq f m=0)->ie f n<=d
 | 0,_=>Y1 _
 | n+1,h=>by
  unfold ie;split
  ·exact wC n λm h1 h2=>h m h1 (by omega)
  ·rename_i hne
   refine V? λhn=>hne ?_
   exact h n (by omega) (by omega)
structure wD (f g q r:List Int):Prop where
 eq:∀m,aq f m=conv q g m+aq r m
 nq:Norm f->Norm q
 nr:Norm r
 len:r.length<g.length
 lq:q.length=f.length-(g.length-1)
def Hj (N i:Nat)(Qr:List Int):List Int:=Yi (N-i) 0++Qr.reverse
theorem Ie {l:List Int}{i:Nat}(h:i<l.length):aq l.reverse i=aq l (l.length-1-i):=by
 rw[d9 (by rw[Z1];exact h),d9 (by omega)]
 rw[List.getElem_reverse]
theorem Ig {N i:Nat}{Qr:List Int}{c:Int}(hl:Qr.length=i)(hi:i<N)(a:Nat):aq (Hj N (i+1) (Qr++[c])) a=aq (Hj N i Qr) a+if a=N-1-i then c else 0:=by
 unfold Hj;have e0:(Qr++[c]).reverse=c::Qr.reverse:=by simp
 rw[e0,j7 (f:=Yi (N-(i+1)) 0),j7 (f:=Yi (N-i) 0),Yp,Yp];by_cases h1:a<N-(i+1)
 ·rw[W9 h1,W9 (by omega),W8 (by omega),cM,cM];rfl
 ·rw[W8 h1]
  by_cases h2:a=N-1-i
  ·rw[W9 h2,W9 (by omega),cM]
   have e:a-(N-(i+1))=0:=by omega
   rw[e];show c=0+c
   omega
  ·rw[W8 h2,W8 (by omega)]
   have e:a-(N-(i+1))=(a-(N-i))+1:=by omega
   rw[e];show aq (c::Qr.reverse) ((a-(N-i))+1)=_
   have:aq (c::Qr.reverse) ((a-(N-i))+1)=aq Qr.reverse (a-(N-i)):=by simp[aq]
   rw[this];omega
theorem LV {N:Nat}{Qr:List Int}(hl:Qr.length=N):Hj N N Qr=Qr.reverse:=by
 unfold Hj;rw[Nat.sub_self];rfl
structure wF (f g:List Int)(N i:Nat)(Qr R:List Int):Prop where
 lq:Qr.length=i
 lr:R.length=f.length
 eq:∀m,m<R.length->aq R m=aq f m-conv (Hj N i Qr) g m
 top:∀m,f.length-i<=m->m<R.length->aq R m=0
 lead:0<i->aq Qr 0=aq f (f.length-1)
def Lh (g:List Int)(R R':List Int)(t:Nat)(lead:Int)(j:Nat):Prop:=R'.length=R.length/\∀m,m<R.length->aq R' m=aq R m-if t<=m/\m-t<j then lead*aq g (m-t) else 0
theorem Lh.start (g R:List Int)(t:Nat)(lead:Int):Lh g R R t lead 0:=⟨rfl,λm _=>by rw[W8 (by omega)];omega⟩
theorem Lh.step {g R R':List Int}{t:Nat}{lead:Int}{j:Nat}(h:Lh g R R' t lead j)(hj:t+j<R.length):Lh g R (R'.set (t+j) (aq R' (t+j)-lead*aq g j)) t lead (j+1):=by
 refine⟨by rw[Wv];exact h.1,λm hm=>?_⟩
 rw[nN (by rw[h.1];exact hj)]
 by_cases e:m=t+j
 ·subst e
  have e2:t+j-t=j:=by omega
  rw[W9 rfl,W9 ⟨by omega,by omega⟩,h.2 _ hm,W8 (by omega),e2]
  omega
 ·rw[W8 e,h.2 m hm]
  congr 1
  by_cases h1:t<=m/\m-t<j
  ·rw[W9 h1,W9 ⟨h1.1,by omega⟩]
  ·rw[W8 h1,W8 (by omega)]
theorem wF.next {f g Qr R R':List Int}{N i:Nat}(hg:dR g)(hN:N=f.length-(g.length-1))(D:wF f g N i Qr R)(hi:i<N)(h:Lh g R R' (N-1-i) (aq R (N-1-i+(g.length-1))) g.length):
  wF f g N (i+1) (Qr++[aq R (N-1-i+(g.length-1))]) R':=by
 have Xp:0<g.length:=List.length_pos_iff.mpr hg.1;have lr:=D.lr;have lq:=D.lq;refine⟨by rw[Yk,D.lq];rfl,h.1.trans D.lr,λm hm=>?_,λm h1 h2=>?_,λ_=>?_⟩
 ·rw[h.1] at hm
  rw[h.2 m hm,D.eq m hm,Ic (Ig (c:=aq R (N-1-i+(g.length-1))) D.lq hi)];have:(if N-1-i<=m/\m-(N-1-i)<g.length then aq R (N-1-i+(g.length-1))*aq g (m-(N-1-i)) else 0)=if N-1-i<=m then aq R (N-1-i+(g.length-1))*aq g (m-(N-1-i)) else 0:=by
   by_cases h1:N-1-i<=m
   ·by_cases h2:m-(N-1-i)<g.length
    ·rw[W9 ⟨h1,h2⟩,W9 h1]
    ·rw[W8 (by omega),W9 h1,bG (f:=g) (by omega),Y6]
   ·rw[W8 (by omega),W8 h1]
  rw[this];omega
 ·have h2':m<R.length:=by rw[h.1] at h2;exact h2
  rw[h.2 m h2'];by_cases e:m=f.length-(i+1)
  ·have e1:m-(N-1-i)=g.length-1:=by omega
   have e2:N-1-i+(g.length-1)=m:=by omega
   rw[W9 ⟨by omega,by omega⟩,e1,hg.2,e2,Wx]
   omega
  ·rw[D.top m (by omega) h2']
   have e1:g.length<=m-(N-1-i):=by omega
   rw[W8 (by omega)]
   rfl
 ·rw[j7]
  by_cases h0:0<i
  ·rw[W9 (by omega)];exact D.lead h0
  ·have e0:i=0:=by omega
   subst e0;rw[W8 (by omega)]
   have e1:N-1-0+(g.length-1)=f.length-1:=by omega
   have RW:Qr=[]:=List.length_eq_zero_iff.mp D.lq;rw[e1,D.eq _ (by omega)]
   have hz:conv (Hj N 0 Qr) g (f.length-1)=0:=by
    rw[qB (f':=[]) (g':=g) (λa=>?_) (λ_=>rfl)]
    ·rfl
    ·unfold Hj
     rw[RW,List.reverse_nil,W0,cM,gT]
   rw[hz];have:aq [aq f (f.length-1)-0] (0-Qr.length)=aq f (f.length-1)-0:=by rw[RW];rfl
   rw[this];omega
theorem wF.done {f g Qr R:List Int}{N:Nat}(hg:dR g)(hN:N=f.length-(g.length-1))(D:wF f g N N Qr R):wD f g Qr.reverse (trim R):=by
 have Xp:0<g.length:=List.length_pos_iff.mpr hg.1;refine⟨λm=>?_,λnf=>?_,jw R,?_,by rw[Z1,D.lq,hN]⟩
 ·rw[d_]
  by_cases hm:m<R.length
  ·have:=D.eq m hm
   rw[LV D.lq] at this;omega
  ·have lr:=D.lr
   have lq:=D.lq;rw[bG (f:=f) (by omega),bG (f:=R) (by omega)]
   have hb:conv Qr.reverse g m=0:=by
    by_cases hz:Qr=[]
    ·subst hz;rfl
    ·have:0<Qr.length:=List.length_pos_iff.mpr hz
     exact nO _ _ _ (by rw[Z1];omega)
   rw[hb];rfl
 ·by_cases hz:Qr=[]
  ·left;rw[hz];rfl
  ·right
   have hl:0<Qr.length:=List.length_pos_iff.mpr hz;have lq:=D.lq;rw[Ie (by rw[Z1];omega),Z1]
   have e:Qr.length-1-(Qr.length-1)=0:=by omega
   rw[e,D.lead (by omega)]
   exact nf.last λz=>by rw[z] at hN;simp at hN;omega
 ·rw[gG]
  have:ie R R.length<=g.length-1:=wC _ λm h1 h2=>D.top m (by have:=D.lr;omega) h2
  omega
def cA:Nat->(Nat->Int)->Int
 | 0,_=>0
 | n+1,f=>cA n f+f n
theorem cC {f g:Nat->Int}:∀ {n:Nat},(∀i,i<n->f i=g i)->cA n f=cA n g
 | 0,_=>rfl
 | n+1,h=>by
  show cA n f+f n=cA n g+g n
  rw[cC λi hi=>h i (by omega),h n (by omega)]
theorem sC (f g:Nat->Int):∀n,cA n (λi=>f i+g i)=cA n f+cA n g
 | 0=>rfl
 | n+1=>by
  show cA n (λi=>f i+g i)+(f n+g n)=cA n f+f n+(cA n g+g n)
  rw[sC f g n];omega
theorem sD (c:Int)(f:Nat->Int):∀n,cA n (λi=>c*f i)=c*cA n f
 | 0=>by simp[cA]
 | n+1=>by
  show cA n (λi=>c*f i)+c*f n=c*(cA n f+f n)
  rw[sD c f n,Int.mul_add]
theorem Gd (c:Int)(f:Nat->Int)(n:Nat):cA n (λi=>f i*c)=cA n f*c:=by
 rw[Zs,<- sD];exact cC λi _=>Zs _ _
theorem dB {f:Nat->Int}:∀ {n:Nat},(∀i,i<n->f i=0)->cA n f=0
 | 0,_=>rfl
 | n+1,h=>by
  show cA n f+f n=0
  rw[dB λi hi=>h i (by omega),h n (by omega)]
  rfl
theorem yZ (f:Nat->Int):∀n,cA (n+1) f=f 0+cA n λi=>f (i+1)
 | 0=>by simp[cA]
 | n+1=>by
  show cA (n+1) f+f (n+1)=f 0+(cA n (λi=>f (i+1))+f (n+1))
  rw[yZ f n];omega
theorem Bo (f:Nat->Int):∀n,cA n f=cA n λi=>f (n-1-i)
 | 0=>rfl
 | n+1=>by
  rw[yZ λi=>f (n+1-1-i)]
  show cA n f+f n=_
  rw[Bo f n];have e0:n+1-1-0=n:=by omega
  have e1:cA n (λi=>f (n-1-i))=cA n λi=>f (n+1-1-(i+1)):=cC λi hi=>by
   have:n-1-i=n+1-1-(i+1):=by omega
   rw[this]
  rw[e0,e1];omega
theorem qC (f:Nat->Int)(a:Nat):∀b,cA (a+b) f=cA a f+cA b λi=>f (a+i)
 | 0=>by simp[cA]
 | b+1=>by
  show cA (a+b) f+f (a+b)=cA a f+(cA b (λi=>f (a+i))+f (a+b))
  rw[qC f a b];omega
theorem jI {f:Nat->Int}{k:Nat}:∀ {n:Nat},k<n->(∀i,i<n->i≠k->f i=0)->cA n f=f k
 | 0,h,_=>Jf h (Wm _)
 | n+1,h,z=>by
  show cA n f+f n=f k
  by_cases e:k=n
  ·subst e
   rw[dB λi hi=>z i (by omega) (by omega)]
   omega
  ·rw[jI (n:=n) (by omega) λi hi=>z i (by omega),z n (by omega) (Ne.symm e)]
   omega
theorem wG (F:Nat->Nat->Int):∀m,cA (m+1) (λk=>cA (k+1) λi=>F i k)=cA (m+1) λi=>cA (m-i+1) λj=>F i (i+j)
 | 0=>by simp[cA]
 | m+1=>by
  show cA (m+1) (λk=>cA (k+1) λi=>F i k)+cA (m+1+1) (λi=>F i (m+1))=_
  rw[wG F m];show _=cA (m+1) (λi=>cA (m+1-i+1) λj=>F i (i+j))+cA (m+1-(m+1)+1) (λj=>F (m+1) (m+1+j))
  have e1:cA (m+1) (λi=>cA (m+1-i+1) λj=>F i (i+j))=cA (m+1) (λi=>cA (m-i+1) (λj=>F i (i+j))+F i (m+1)):=cC λi hi=>by
   have h1:m+1-i+1=(m-i+1)+1:=by omega
   rw[h1];show cA (m-i+1) _+F i (i+(m-i+1))=_
   have h2:i+(m-i+1)=m+1:=by omega
   rw[h2]
  rw[e1,sC];have e2:m+1-(m+1)+1=1:=by omega
  rw[e2];show _+(cA (m+1) (λi=>F i (m+1))+F (m+1) (m+1))=_+(0+F (m+1) (m+1+0))
  have e3:m+1+0=m+1:=by omega
  rw[e3];omega
def cv (a b:Nat->Int)(m:Nat):Int:=cA (m+1) λi=>a i*b (m-i)
theorem Bp {a a' b b':Nat->Int}{m:Nat}(ha:∀i,i<=m->a i=a' i)(hb:∀i,i<=m->b i=b' i):cv a b m=cv a' b' m:=cC λi hi=>by rw[ha i (by omega),hb (m-i) (by omega)]
theorem sE (a b:Nat->Int)(m:Nat):cv a b m=cv b a m:=by
 unfold cv;rw[Bo];refine cC λi hi=>?_
 have e1:m+1-1-i=m-i:=by omega
 have e2:m-(m-i)=i:=by omega
 rw[e1,e2,Zs]
theorem Bq (a b c:Nat->Int)(m:Nat):cv (cv a b) c m=cv a (cv b c) m:=by
 have l:cv (cv a b) c m=cA (m+1) λk=>cA (k+1) λi=>a i*b (k-i)*c (m-k):=cC λk _=>by
  show cA (k+1) (λi=>a i*b (k-i))*c (m-k)=_
  rw[<- Gd]
 rw[l,wG λi k=>a i*b (k-i)*c (m-k)]
 refine cC λi hi=>?_
 show _=a i*cA (m-i+1) λj=>b j*c (m-i-j)
 rw[<- sD];refine cC λj hj=>?_
 have e1:i+j-i=j:=by omega
 have e2:m-(i+j)=m-i-j:=by omega
 rw[e1,e2,Z8]
theorem wH (a b c:Nat->Int)(m:Nat):cv (λi=>a i+b i) c m=cv a c m+cv b c m:=by
 unfold cv;rw[<- sC];exact cC λi _=>Int.add_mul ..
theorem LW (a b c:Nat->Int)(m:Nat):cv a (λi=>b i+c i) m=cv a b m+cv a c m:=by
 rw[sE,wH,sE b,sE c]
theorem zS (b:Nat->Int)(m:Nat):cv (λ_=>0) b m=0:=dB λi _=>Wb _
theorem vD {a b:Nat->Int}{c:Int}(h0:a 0=c)(hs:∀i,0<i->a i=0)(m:Nat):cv a b m=c*b m:=by
 unfold cv;rw[jI (k:=0) (by omega) λi _ hi=>by rw[hs i (by omega),Wb],h0,Nat.sub_zero]
theorem Br (f g:List Int):∀(i m:Nat),i<=m+1->fZ f g i m=cA i λa=>aq f a*aq g (m-a)
 | 0,m,_=>rfl
 | i+1,m,h=>by
  show fZ f g i m+_=cA i _+_
  rw[Br f g i m (by omega),W9 (by omega)]
theorem zT (f g:List Int)(m:Nat):conv f g m=cv (aq f) (aq g) m:=by
 rw[sA,Br f g (m+1) m (Yd _)];rfl
theorem cp (f g:List Int)(m:Nat):aq (ee f g) m=cv (aq f) (aq g) m:=by rw[oZ,zT]
theorem Nk (f g:List Int):aq (ee f g)=cv (aq f) (aq g):=funext λm=>cp f g m
theorem Xq (f g:List Int):aq (r_ f g)=λm=>aq f m+aq g m:=funext λm=>oX f g m
theorem QM (f:List Int):aq (trim f)=aq f:=funext λm=>d_ f m
def uT (key:List Int):List (List Int)->List Int
 | []=>[]
 | d::r=>r_ (ee (uT key r) key) d
theorem wI (key:List Int):∀ds,Norm (uT key ds)
 | []=>.inl rfl
 | _::_=>oY _ _
def jl (key:List Int)(found step:List Int):List (List Int)->List Int
 | []=>found
 | d::r=>jl key (r_ found (trim (ee d step))) (trim (ee step key)) r
theorem Nl (key:List Int):∀(ds:List (List Int)) (found step:List Int) (m:Nat),aq (jl key found step ds) m=aq found m+cv (aq (uT key ds)) (aq step) m
 | [],found,step,m=>by
  show aq found m=aq found m+cv (aq []) (aq step) m
  have e:cv (aq []) (aq step) m=0:=dB λi _=>by rw[gT,Wb]
  rw[e,We]
 | d::r,found,step,m=>by
  show aq (jl key (r_ found (trim (ee d step))) (trim (ee step key)) r) m=aq found m+cv (aq (r_ (ee (uT key r) key) d)) (aq step) m
  rw[Nl key r,Xq,Xq,QM,QM,Nk,Nk,Nk,wH];have e1:cv (aq (uT key r)) (cv (aq step) (aq key)) m=cv (cv (aq (uT key r)) (aq key)) (aq step) m:=by
   rw[Bq];exact Bp (λ_ _=>rfl) λi _=>sE _ _ i
  rw[e1];show aq found m+cv (aq d) (aq step) m+_=_
  omega
theorem EY (key:List Int):∀(ds:List (List Int)) (found step:List Int),Norm found->Norm (jl key found step ds)
 | [],_,_,h=>h
 | _::r,_,_,_=>EY key r _ _ (oY _ _)
theorem Ih (key:List Int)(ds:List (List Int)):jl key [] [1] ds=uT key ds:=by
 refine rZ (EY key ds _ _ (.inl rfl)) (wI key ds) λm=>?_
 rw[Nl,gT,Zu,sE,vD (c:=1) rfl λi hi=>bG (by show 1<=i;omega),Zo]
abbrev LP:=o?×List Int
abbrev lrefs (ts:List LP):List V:=ts.map λt=>V.ref t.1
abbrev lvals (ts:List LP):List (List Int):=ts.map λt=>t.2
structure CU (H:Hp)(p:o?)(ts:List LP):Prop where
 top:H p=j? (.lst (lrefs ts))
 it:∀t∈ts,H t.1=j? (.lst (t.2.map V.int))
theorem CU.same {H H':Hp}{p:o?}{ts:List LP}(h:CU H p ts)(g:aH H H'):CU H' p ts:=⟨g _ _ h.top,λt ht=>g _ _ (h.it t ht)⟩
theorem CU.snoc {H:Hp}{p:o?}{ts:List LP}{t:LP}(h:CU H p ts)(hp:∀t∈ts,t.1≠p)(ht:H t.1=j? (.lst (t.2.map V.int)))(hn:t.1≠p):CU (upd H p (.lst (lrefs ts++[.ref t.1]))) p (ts++[t]):=by
 refine⟨?_,λx hx=>?_⟩
 ·rw[ay];simp[lrefs]
 ·rcases List.mem_append.mp hx with z|z
  ·rw[aO (hp x z)];exact h.it x z
  ·have:x=t:=by simpa using z
   subst this;rw[aO hn];exact ht
abbrev Ge (ls:List (List Int)):O!:=.list (ls.map dI)
theorem EZ (ls:List (List Int)):Fl 2 (Ge ls):=.lst λd hd=>by
 obtain⟨i,_,rfl⟩:=List.mem_map.mp hd;exact mq i
theorem LX {a b:List (List Int)}(h:Ge a=Ge b):a=b:=by
 have h':a.map dI=b.map dI:=PyData.list.inj h;induction a generalizing b with
 | nil=>
  cases b with
  | nil=>rfl
  | cons _ _=>simp at h'
 | cons x a ih=>
  cases b with
  | nil=>simp at h'
  | cons y b=>
   have h2:dI x=dI y/\a.map dI=b.map dI:=List.cons.inj h';rw[HX h2.1,ih (Jd PyData.list h2.2) h2.2]
theorem OW (a b:List (List Int)):E! (Ge a) (Ge b)=decide (a=b):=by
 rw[vB (EZ a) (EZ b)];by_cases h:a=b
 ·rw[Ja h,Ja (Jd Ge h)]
 ·rw[Jc h,Jc λz=>h (LX z)]
theorem OX {K:bE}{H:Hp}{p:o?}{ts:List LP}(ht:aP K H p (lrefs ts))(hi:∀t∈ts,aP K H t.1 (t.2.map V.int)):Den K H (.ref p) (Ge (lvals ts)):=by
 refine .lst ht (by simp) λi x d h1 h2=>?_
 rw[Ye] at h1 h2;cases e:ts[i]? with
 | none=>rw[e] at h1;cases h1
 | some t=>
  rw[e] at h1;rw[Ye,e] at h2;have hm:t∈ts:=Yw e;cases h1;cases h2;exact rR (hi t hm) (gF _)
theorem CU.den {K:bE}{H:Hp}{p:o?}{ts:List LP}(h:CU H p ts):Den K H (.ref p) (Ge (lvals ts)):=OX (aP.of h.top) λt ht=>aP.of (h.it t ht)
theorem CU.sql {K:bE}{H:Hp}{p:o?}{ts:List LP}(h:CU H p ts):aP K H p (lrefs ts):=aP.of h.top
theorem UZ {K:bE}{H:Hp}{x y:V}{a b:List (List Int)}{Q:VK}(hx:Den K H x (Ge a))(hy:Den K H y (Ge b))(q:Q (.bl (!decide (a=b))) H):zL K true x y H Q:=
 ⟨_,_,hx,hy,(EZ _).shaped (by decide),(EZ _).shaped (by decide),by show Q (.bl (!E! (Ge a) (Ge b))) H;rw[OW];exact q⟩
theorem Gf {K:bE}{H:Hp}{p:o?}(h:aP K H p []):Den K H (.ref p) (Ge []):=.lst h rfl λi x d h1 _=>by simp at h1
theorem y9 {ts:List LP}{i:Nat}{x:V}(h:(lrefs ts)[i]?=j? x):∃hi:i<ts.length,x=.ref ts[i].1:=by
 rw[Ye] at h;cases e:ts[i]? with
 | none=>rw[e] at h;cases h
 | some t=>
  rw[e] at h;obtain⟨hi,e2⟩:=List.getElem?_eq_some_iff.mp e;subst e2;exact⟨hi,(M? h).symm⟩
end L2
namespace L2
def bZ:Nat->(Nat->Int)->Int
 | 0,_=>0
 | n+1,f=>bZ n f+f n
theorem aK:∀ {n:Nat} {f g:Nat->Int},(∀i,i<n->f i=g i)->bZ n f=bZ n g
 | 0,_,_,_=>rfl
 | n+1,f,g,h=>by
  show bZ n f+f n=bZ n g+g n
  rw[aK λi hi=>h i (by omega),h n (by omega)]
theorem vE (a b:Int)(f g:Nat->Int):∀n,bZ n (λi=>a*f i+b*g i)=a*bZ n f+b*bZ n g
 | 0=>by show(0:Int)=a*0+b*0;omega
 | n+1=>by
  show bZ n _+(a*f n+b*g n)=a*(bZ n f+f n)+b*(bZ n g+g n)
  rw[vE a b f g n];generalize bZ n f=x;generalize bZ n g=y;grind
theorem dh (a:Int)(f:Nat->Int):∀n,bZ n (λi=>a*f i)=a*bZ n f
 | 0=>by show(0:Int)=a*0;omega
 | n+1=>by
  show bZ n _+a*f n=a*(bZ n f+f n)
  rw[dh a f n,Int.mul_add]
theorem f7:∀ {n:Nat} {f:Nat->Int},(∀i,i<n->f i=0)->bZ n f=0
 | 0,_,_=>rfl
 | n+1,f,h=>by
  show bZ n f+f n=0
  rw[f7 λi hi=>h i (by omega),h n (by omega)]
  rfl
theorem o_ (f:Nat->Int):∀n,bZ (n+1) f=f 0+bZ n (λi=>f (i+1))
 | 0=>by show 0+f 0=f 0+0;omega
 | n+1=>by
  show bZ (n+1) f+f (n+1)=f 0+(bZ n (λi=>f (i+1))+f (n+1))
  rw[o_ f n];omega
theorem E1 {f:Nat->Int}{r:Nat}:∀ {n:Nat},r+1<n->(∀i,i<n->i≠r->i≠r+1->f i=0)->f r+f (r+1)=0->bZ n f=0
 | 0,h,_,_=>Jf h (by omega)
 | n+1,h,z,e=>by
  show bZ n f+f n=0
  by_cases c:r+1=n
  ·subst c
   show bZ r f+f r+f (r+1)=0
   rw[f7 λi hi=>z i (by omega) (by omega) (by omega)]
   omega
  ·rw[E1 (n:=n) (by omega) (λi hi=>z i (by omega)) e,z n (by omega) (by omega) (by omega)]
   rfl
abbrev Mx:=Nat->Nat->Int
def c8 (i r:Nat):Nat:=if r<i then r else r+1
def sg (k:Nat):Int:=if k % 2=0 then 1 else -1
theorem E2 (k:Nat):sg (k+1)=- sg k:=by
 unfold sg;rcases Nat.mod_two_eq_zero_or_one k with h|h
 ·rw[W8 (by omega),W9 h]
 ·rw[W9 (by omega),W8 (by omega)];rfl
theorem Nm (k:Nat):sg k*sg k=1:=by
 unfold sg;split <;> rfl
def det:Nat->Mx->Int
 | 0,_=>1
 | n+1,M=>bZ (n+1) λi=>sg (n-i)*M i n*det n λr c=>M (c8 i r) c
theorem dD (n:Nat)(M:Mx):det (n+1) M=bZ (n+1) λi=>sg (n-i)*M i n*det n λr c=>M (c8 i r) c:=rfl
theorem wJ {i r n:Nat}(h:r<n):c8 i r<n+1:=by unfold c8;split <;> omega
theorem OY (i r:Nat):c8 i r≠i:=by unfold c8;split <;> omega
theorem Ii {i r x:Nat}(h:i≠r):c8 i x=r↔x=if r<i then r else r-1:=by
 unfold c8;split <;> split <;> omega
theorem cX:∀ {n:Nat} {M N:Mx},(∀r c,r<n->c<n->M r c=N r c)->det n M=det n N
 | 0,_,_,_=>rfl
 | n+1,M,N,h=>by
  rw[dD,dD];refine aK λi hi=>?_
  rw[h i n hi (by omega),cX λr c hr hc=>h (c8 i r) c (wJ hr) (by omega)]
def gI (M:Mx)(r:Nat)(u:Nat->Int):Mx:=λi c=>if i=r then u c else M i c
theorem e_ (M:Mx)(r:Nat)(u:Nat->Int)(c:Nat):gI M r u r c=u c:=W9 rfl
theorem eL {M:Mx}{r i:Nat}{u:Nat->Int}(h:i≠r)(c:Nat):gI M r u i c=M i c:=W8 h
theorem pq (M:Mx)(r:Nat):gI M r (M r)=M:=by
 funext i c
 unfold gI;split
 ·rename_i h;rw[h]
 ·rfl
theorem tW {M:Mx}{i r:Nat}(h:i≠r)(u:Nat->Int):(λx c=>gI M r u (c8 i x) c)=gI (λx c=>M (c8 i x) c) (if r<i then r else r-1) u:=by
 funext x c
 unfold gI;by_cases e:c8 i x=r
 ·rw[W9 e,W9 ((Ii h).mp e)]
 ·rw[W8 e,W8 λz=>e ((Ii h).mpr z)]
theorem tX (M:Mx)(r:Nat)(u:Nat->Int):(λx c=>gI M r u (c8 r x) c)=λx c=>M (c8 r x) c:=by
 funext x c
 exact eL (OY r x) c
theorem pA (a b:Int)(u v:Nat->Int):∀(n:Nat) (M:Mx) (r:Nat),r<n->det n (gI M r λc=>a*u c+b*v c)=a*det n (gI M r u)+b*det n (gI M r v)
 | 0,_,_,h=>Jf h (by omega)
 | n+1,M,r,h=>by
  rw[dD,dD,dD,<- vE];refine aK λi hi=>?_
  by_cases e:i=r
  ·subst e
   rw[tX,tX,tX,e_,e_,e_];generalize det n _=D;generalize sg (n-i)=S;grind
  ·rw[tW e,tW e,tW e,eL e,eL e,eL e,pA a b u v n _ _ (by split <;> omega)]
   generalize det n (gI _ _ u)=D1;generalize det n (gI _ _ v)=D2;generalize sg (n-i)=S;grind
theorem vF:∀(n:Nat) (M:Mx) (r:Nat),r+1<n->(∀c,M r c=M (r+1) c)->det n M=0
 | 0,_,_,h,_=>Jf h (by omega)
 | n+1,M,r,h,e=>by
  rw[dD];refine E1 (r:=r) h (λi hi h1 h2=>?_) ?_
  ·have z:det n (λx c=>M (c8 i x) c)=0:=by
    by_cases c:i<r
    ·refine vF n _ (r-1) (by omega) λc'=>?_
     have e1:c8 i (r-1)=r:=by unfold c8;rw[W8 (by omega)];omega
     have e2:c8 i (r-1+1)=r+1:=by unfold c8;rw[W8 (by omega)];omega
     show M (c8 i (r-1)) c'=M (c8 i (r-1+1)) c'
     rw[e1,e2];exact e c'
    ·refine vF n _ r (by omega) λc'=>?_
     have e1:c8 i r=r:=by unfold c8;rw[W9 (by omega)]
     have e2:c8 i (r+1)=r+1:=by unfold c8;rw[W9 (by omega)]
     show M (c8 i r) c'=M (c8 i (r+1)) c'
     rw[e1,e2];exact e c'
   rw[z,Y6]
  ·have e1:(λx c=>M (c8 (r+1) x) c)=λx c=>M (c8 r x) c:=by
    funext x c
    unfold c8;by_cases c1:x<r
    ·rw[W9 (by omega),W9 c1]
    ·by_cases c2:x=r
     ·subst c2
      rw[W9 (by omega),W8 (by omega)];exact e c
     ·rw[W8 (by omega),W8 c1]
   have e2:n-r=n-(r+1)+1:=by omega
   rw[e1,<- e n,e2,E2];generalize det n _=D;generalize sg (n-(r+1))=S;grind
def ve (M:Mx)(p q:Nat)(u v:Nat->Int):Mx:=gI (gI M p u) q v
theorem jx {M:Mx}{p q:Nat}(h:p≠q)(u v:Nat->Int):gI (gI M p u) q v=gI (gI M q v) p u:=by
 funext i c
 unfold gI;by_cases c1:i=q
 ·subst c1;rw[W9 rfl,W8 λz=>h z.symm,W9 rfl]
 ·rw[W8 c1,W8 c1]
theorem LY {n:Nat}{M:Mx}{p q:Nat}(hp:p<n)(hq:q<n)(hne:p≠q)(h:∀u,det n (ve M p q u u)=0)(u v:Nat->Int):det n (ve M p q u v)=- det n (ve M p q v u):=by
 have z:=h λc=>1*u c+1*v c
 unfold ve at*;rw[pA 1 1 u v n _ q hq,jx hne,jx hne,pA 1 1 u v n _ p hp,pA 1 1 u v n _ p hp,<- jx hne,<- jx hne,<- jx hne,<- jx hne,h u,h v] at z;omega
theorem Gg (M:Mx)(p q:Nat):ve M p q (M p) (M q)=M:=by
 unfold ve;rw[pq,pq]
theorem Bt {n:Nat}(M:Mx){r:Nat}(h:r+1<n):det n (ve M r (r+1) (M (r+1)) (M r))=- det n M:=by
 rw[LY (by omega) h (by omega) λu=>vF n _ r h λc=>?_,Gg]
 unfold ve;rw[eL (by omega),e_,e_]
theorem zU {n:Nat}{p:Nat}:∀(d:Nat) (M:Mx),p+d+1<n->(∀c,M p c=M (p+d+1) c)->det n M=0
 | 0,M,h,e=>vF n M p h e
 | d+1,M,h,e=>by
  have s:=Bt M (r:=p+d+1) (n:=n) h;have z:det n (ve M (p+d+1) (p+d+1+1) (M (p+d+1+1)) (M (p+d+1)))=0:=by
   refine zU (p:=p) d _ (by omega) λc=>?_
   unfold ve;rw[eL (by omega),eL (by omega),eL (by omega),e_]
   exact e c
  rw[z] at s;omega
theorem Bu {n:Nat}{M:Mx}{p q:Nat}(hp:p<n)(hq:q<n)(hne:p≠q)(h:∀c,M p c=M q c):det n M=0:=by
 rcases Nat.lt_or_gt_of_ne hne with z|z
 ·have e:q=p+(q-p-1)+1:=by omega
  rw[e] at h;exact zU (q-p-1) M (by omega) h
 ·have e:p=q+(p-q-1)+1:=by omega
  rw[e] at h;exact zU (p-q-1) M (by omega) λc=>(h c).symm
theorem LZ {n:Nat}(M:Mx){p q:Nat}(hp:p<n)(hq:q<n)(hne:p≠q)(a k:Int):det n (gI M p λc=>a*M p c+k*M q c)=a*det n M:=by
 rw[pA a k (M p) (M q) n M p hp,pq,Bu (M:=gI M p (M q)) hp hq hne λc=>?_]
 ·omega
 ·rw[e_,eL λz=>hne z.symm]
theorem wK:∀(n:Nat) (M:Mx),(∀i,i<=n->M i 0=0)->det (n+1) M=0
 | 0,M,h=>by
  show 0+sg 0*M 0 0*1=0
  rw[h 0 (Yd _)];rfl
 | n+1,M,h=>by
  rw[dD];refine f7 λi hi=>?_
  rw[wK n _ λj hj=>h (c8 i j) (by have:=wJ (i:=i) (r:=j) (n:=n+1) (by omega);omega),Y6]
theorem pB:∀(n:Nat) (M:Mx),(∀i,0<i->i<=n->M i 0=0)->det (n+1) M=M 0 0*det n λr c=>M (r+1) (c+1)
 | 0,M,h=>by
  show 0+sg 0*M 0 0*1=M 0 0*1
  have:sg 0=1:=rfl
  rw[this];omega
 | n+1,M,h=>by
  rw[dD (n+1),o_];have z:det (n+1) (λr c=>M (c8 0 r) c)=0:=wK n _ λj hj=>h (c8 0 j) (by unfold c8;rw[W8 (by omega)];omega) (by unfold c8;rw[W8 (by omega)];omega)
  rw[z,Y6,Zu,dD n,<- dh];refine aK λj hj=>?_
  rw[pB n _ λi h1 h2=>h (c8 (j+1) i) (by unfold c8;split <;> omega) (by have:=wJ (i:=j+1) (r:=i) (n:=n+1) (by omega);omega)]
  have e0:c8 (j+1) 0=0:=by unfold c8;rw[W9 (by omega)]
  have e1:(λr c=>M (c8 (j+1) (r+1)) (c+1))=λr c=>M (c8 j r+1) (c+1):=by
   funext r c
   have:c8 (j+1) (r+1)=c8 j r+1:=by unfold c8;split <;> split <;> omega
   rw[this]
  rw[e0,e1];have e2:n+1-(j+1)=n-j:=by omega
  rw[e2];generalize det n _=D;generalize sg (n-j)=S;grind
theorem pC (k:Int):∀(n:Nat) (M:Mx),det n (λr c=>k*M r c)=k ^ n*det n M
 | 0,M=>by show(1:Int)=k ^ 0*1;rw[Zc];rfl
 | n+1,M=>by
  rw[dD,dD,<- dh];refine aK λi hi=>?_
  rw[pC k n λr c=>M (c8 i r) c,Za]
  generalize det n _=D;generalize sg (n-i)=S;generalize k ^ n=K;grind
def Ij (N:Mx):Mx:=λa b=>N 0 0*N (a+1) (b+1)-N (a+1) 0*N 0 (b+1)
def fu (N:Mx)(k:Nat):Mx:=λr c=>if 0<r/\r<=k then N 0 0*N r c+(- N r 0)*N 0 c else N r c
theorem wL (N:Mx)(n:Nat):∀k,k<=n->det (n+1) (fu N k)=N 0 0 ^ k*det (n+1) N
 | 0,_=>by
  have e:fu N 0=N:=by
   funext r c
   exact W8 (by omega)
  rw[e,Zc,Zo]
 | k+1,h=>by
  have e:fu N (k+1)=gI (fu N k) (k+1) λc=>N 0 0*fu N k (k+1) c+(- N (k+1) 0)*fu N k 0 c:=by
   funext r c
   have p0:fu N k 0 c=N 0 c:=W8 (by omega)
   have p1:fu N k (k+1) c=N (k+1) c:=W8 (by omega)
   unfold gI;by_cases c1:r=k+1
   ·subst c1
    rw[W9 rfl];show _=N 0 0*fu N k (k+1) c+(- N (k+1) 0)*fu N k 0 c
    rw[p0,p1];exact W9 (by omega)
   ·rw[W8 c1]
    unfold fu;by_cases c2:0<r/\r<=k
    ·rw[W9 c2,W9 (by omega)]
    ·rw[W8 c2,W8 (by omega)]
  rw[e,LZ (fu N k) (by omega) (by omega) (by omega),wL N n k (by omega),Za]
  generalize N 0 0 ^ k=K;generalize det (n+1) N=D;grind
theorem OZ {n:Nat}{N:Mx}(h:N 0 0≠0):det (n+1) (Ij N)=N 0 0 ^ n*det (n+2) N:=by
 have e:=wL N (n+1) (n+1) (Yd _);rw[pB (n+1) (fu N (n+1)) λi h1 h2=>?_] at e
 ·have e1:det (n+1) (λr c=>fu N (n+1) (r+1) (c+1))=det (n+1) (Ij N):=cX λr c hr hc=>by
   unfold fu Ij;rw[W9 (by omega)]
   generalize N 0 0=a;generalize N (r+1) (c+1)=b;generalize N (r+1) 0=d;generalize N 0 (c+1)=f;grind
  have e2:fu N (n+1) 0 0=N 0 0:=W8 (by omega)
  rw[e1,e2,Za] at e;have e3:N 0 0*det (n+1) (Ij N)=N 0 0*(N 0 0 ^ n*det (n+2) N):=by
   rw[e];generalize N 0 0 ^ n=K;grind
  exact Ze h e3
 ·unfold fu
  rw[W9 (by omega)]
  generalize N 0 0=a;generalize N i 0=b;grind
def yf (t:Nat):Nat->Nat
 | 0=>t
 | a+1=>c8 t a
theorem Ik {t a m:Nat}(ht:t<m)(ha:a<m):yf t a<m:=by
 cases a with
 | zero=>exact ht
 | succ a=>show c8 t a<m;unfold c8;split <;> omega
theorem zV {n:Nat}:∀(t:Nat) (M:Mx),t<n->det n (λa c=>M (yf t a) c)=sg t*det n M
 | 0,M,h=>by
  have e:(λa c=>M (yf 0 a) c)=M:=by
   funext a c
   cases a with
   | zero=>rfl
   | succ a=>show M (c8 0 a) c=M (a+1) c;unfold c8;rw[W8 (by omega)]
  rw[e];show _=1*_
  omega
 | t+1,M,h=>by
  have e:(λa c=>M (yf (t+1) a) c)=λa c=>ve M t (t+1) (M (t+1)) (M t) (yf t a) c:=by
   funext a c
   unfold ve;cases a with
   | zero=>
    show M (t+1) c=gI _ _ _ t c
    rw[eL (by omega),e_]
   | succ a=>
    show M (c8 (t+1) a) c=gI _ _ _ (c8 t a) c
    rcases Nat.lt_trichotomy a t with z|z|z
    ·have e1:c8 (t+1) a=a:=by unfold c8;rw[W9 (by omega)]
     have e2:c8 t a=a:=by unfold c8;rw[W9 (by omega)]
     rw[e1,e2,eL (by omega),eL (by omega)]
    ·subst z
     have e1:c8 (a+1) a=a:=by unfold c8;rw[W9 (by omega)]
     have e2:c8 a a=a+1:=by unfold c8;rw[W8 (by omega)]
     rw[e1,e2,e_]
    ·have e1:c8 (t+1) a=a+1:=by unfold c8;rw[W8 (by omega)]
     have e2:c8 t a=a+1:=by unfold c8;rw[W8 (by omega)]
     rw[e1,e2,eL (by omega),eL (by omega)]
  rw[e,zV t _ (by omega),Bt M h,E2]
  generalize det n M=D;generalize sg t=S;grind
end L2
namespace L2
theorem E3 {d:Int}(h:d≠0):∀n:Nat,d ^ n≠0
 | 0=>by rw[Zc];decide
 | n+1=>by rw[Za];exact Int.mul_ne_zero (E3 h n) h
theorem vG (M:Mx):det 1 M=M 0 0:=by
 show 0+sg 0*M 0 0*1=M 0 0
 have:sg 0=1:=rfl
 rw[this];omega
def sh (I:Nat->Nat):Nat->Nat
 | 0=>0
 | a+1=>I a+1
structure Ba (A:Mx)(n k:Nat)(d:Int)(B:Mx)(m:Nat)(s:Int):Prop where
 d0:d≠0
 L4:∀(r:Nat) (I J:Nat->Nat),(∀a,a<=r->I a<m/\J a<m)->∃I' J':Nat->Nat,(∀a,a<r+1+k->I' a<n/\J' a<n)/\det (r+1) (λa b=>B (I a) (J b))=d ^ r*det (r+1+k) λa b=>A (I' a) (J' b)
 whole:∀m',m=m'+1->det m B=s*det n A*d ^ m'
 sq:s*s=1
 lead:∃I' J':Nat->Nat,(∀a,a<k->I' a<n/\J' a<n)/\d=det k λa b=>A (I' a) (J' b)
theorem Ba.start (A:Mx)(n:Nat):Ba A n 0 1 A n 1:=by
 refine⟨by decide,λr I J h=>⟨I,J,λa ha=>h a (by omega),?_⟩,λm' e=>?_,rfl,⟨λa=>a,λa=>a,λa ha=>Jf ha (by omega),rfl⟩⟩
 ·rw[Int.one_pow,Zo]
 ·rw[Int.one_pow];omega
section
variable {A B B':Mx} {n k m t:Nat} {d s:Int}
theorem Ba.divides (h:Ba A n k d B (m+1) s)(ht:t<m+1)(hp:B t 0≠0){a c:Nat}(ha:a<m)(hc:c<m):∃q,Ij (λa c=>B (yf t a) c) a c=d*q:=by
 have hI:∀x,x<=1->yf t (sh (λ_=>a) x)<m+1/\sh (λ_=>c) x<m+1:=λx hx=>by
  match x with
  | 0=>exact⟨ht,by show 0<m+1;omega⟩
  | 1=>exact⟨Ik ht (by show a+1<m+1;omega),by show c+1<m+1;omega⟩
  | x+2=>omega
 obtain⟨I',J',_,e⟩:=h.L4 1 (λx=>yf t (sh (λ_=>a) x)) (sh (λ_=>c)) hI
 have e2:=OZ (n:=0) (N:=λx y=>B (yf t (sh (λ_=>a) x)) (sh (λ_=>c) y)) hp
 rw[vG,Zc,Zo,e,Za,Zc,Zo] at e2;exact⟨_,e2⟩
theorem Ba.step (h:Ba A n k d B (m+1) s)(ht:t<m+1)(hp:B t 0≠0)(hB:∀a c,a<m->c<m->Ij (λa c=>B (yf t a) c) a c=d*B' a c):Ba A n (k+1) (B t 0) B' m (sg t*s):=by
 refine⟨hp,λr I J U0=>?_,λm' em=>?_,?_,?_⟩
 ·have hI:∀x,x<=r+1->yf t (sh I x)<m+1/\sh J x<m+1:=λx hx=>by
   match x with
   | 0=>exact⟨ht,by show 0<m+1;omega⟩
   | x+1=>
    have:=U0 x (by omega)
    exact⟨Ik ht (by show I x+1<m+1;omega),by show J x+1<m+1;omega⟩
  obtain⟨I',J',rg,e⟩:=h.L4 (r+1) (λx=>yf t (sh I x)) (sh J) hI
  have e2:=OZ (n:=r) (N:=λx y=>B (yf t (sh I x)) (sh J y)) hp
  have e3:det (r+1) (Ij λx y=>B (yf t (sh I x)) (sh J y))=d ^ (r+1)*det (r+1) (λa b=>B' (I a) (J b)):=by
   rw[<- pC];refine cX λa b ha hb=>?_
   have h1:=U0 a (by omega)
   have h2:=U0 b (by omega)
   exact hB (I a) (J b) h1.1 h2.2
  rw[e3,e] at e2;have ei:r+1+1+k=r+1+(k+1):=by omega
  rw[ei] at e2 rg;refine⟨I',J',rg,?_⟩
  refine Ze (E3 h.d0 (r+1)) (e2.trans ?_)
  show B t 0 ^ r*(d ^ (r+1)*_)=d ^ (r+1)*(B t 0 ^ r*_)
  generalize det (r+1+(k+1)) _=D;generalize B t 0 ^ r=P;generalize d ^ (r+1)=Q;grind
 ·subst em
  have e2:=OZ (n:=m') (N:=λa c=>B (yf t a) c) hp
  have e3:det (m'+1) (Ij λa c=>B (yf t a) c)=d ^ (m'+1)*det (m'+1) B':=by
   rw[<- pC];exact cX λa b ha hb=>hB a b ha hb
  have e4:=h.whole (m'+1) rfl;have e5:=zV (n:=m'+2) t B ht;rw[e3,e5,e4] at e2;refine Ze (E3 h.d0 (m'+1)) (e2.trans ?_)
  show B t 0 ^ m'*(sg t*(s*det n A*d ^ (m'+1)))=d ^ (m'+1)*(sg t*s*det n A*B t 0 ^ m')
  generalize B t 0 ^ m'=P;generalize d ^ (m'+1)=Q;generalize det n A=D;generalize sg t=S;grind
 ·have e1:=Nm t
  have e2:=h.sq;generalize sg t=S at*;grind
 ·obtain⟨I',J',rg,e⟩:=h.L4 0 (λ_=>t) (λ_=>0) λa ha=>⟨ht,by omega⟩
  rw[vG,Zc,Zo] at e;have ei:0+1+k=k+1:=by omega
  rw[ei] at e rg;exact⟨I',J',rg,e⟩
theorem Ba.fin (h:Ba A n k d B 1 s):s*B 0 0=det n A:=by
 have e:=h.whole 0 rfl;rw[vG,Zc,Wx] at e;rw[e];have:=h.sq
 generalize det n A=D at*;grind
theorem Ba.none (h:Ba A n k d B (m+1) s)(hz:∀i,i<m+1->B i 0=0):det n A=0:=by
 have e:=h.whole m rfl;rw[wK m B λi hi=>hz i (by omega)] at e
 rcases Int.mul_eq_zero.mp e.symm with z|z
 ·rcases Int.mul_eq_zero.mp z with y|y
  ·have:=h.sq
   rw[y] at this;cases this
  ·exact y
 ·exact Jf z (E3 h.d0 m)
end
theorem zW {X:Nat}:∀ {n:Nat} {f:Nat->Int},(∀i,i<n->(f i).natAbs<=X)->(bZ n f).natAbs<=n*X
 | 0,_,_=>by show(0:Int).natAbs<=_;simp
 | n+1,f,h=>by
  have h1:=zW (n:=n) (f:=f) λi hi=>h i (by omega)
  have h2:=h n (by omega)
  have h3:=Int.natAbs_add_le (bZ n f) (f n);show(bZ n f+f n).natAbs<=(n+1)*X
  rw[Nat.succ_mul];omega
theorem Il (k:Nat):(sg k).natAbs=1:=by unfold sg;split <;> rfl
theorem zX {E:Nat}:∀(n:Nat) (M:Mx),n<=32->(∀r c,r<n->c<n->(M r c).natAbs<=2 ^ E)->(det n M).natAbs<=2 ^ (n*(E+5))
 | 0,M,_,_=>by show(1:Int).natAbs<=2 ^ (0*(E+5));rw[Nat.zero_mul];decide
 | n+1,M,hn,h=>by
  rw[dD];refine Yn (zW (X:=2 ^ E*2 ^ (n*(E+5))) λi hi=>?_) ?_
  ·rw[Zf,Zf,Il,W6]
   exact Zk (h i n hi (by omega)) (zX n _ (by omega) λr c hr hc=>h (c8 i r) c (wJ hr) (by omega))
  ·have e:2 ^ ((n+1)*(E+5))=32*(2 ^ E*2 ^ (n*(E+5))):=by
    rw[Nat.succ_mul,Zq,Zq 2 E 5];have:(2:Nat) ^ 5=32:=rfl
    rw[this];ac_rfl
   rw[e];exact Yx _ (by omega)
theorem Ba.Gh {A B:Mx}{n k m:Nat}{d s:Int}{E:Nat}(h:Ba A n k d B m s)(hn:n<=32)(hk:m+k=n)(hA:∀r c,r<n->c<n->(A r c).natAbs<=2 ^ E):d.natAbs<=2 ^ (n*(E+5))/\∀i j,i<m->j<m->(B i j).natAbs<=2 ^ (n*(E+5)):=by
 refine⟨?_,λi j hi hj=>?_⟩
 ·obtain⟨I',J',rg,e⟩:=h.lead
  rw[e];exact Yn (zX (E:=E) k _ (by omega) λr c hr hc=>hA _ _ (rg r hr).1 (rg c hc).2) (Yy (by decide) (Yx _ (by omega)))
 ·obtain⟨I',J',rg,e⟩:=h.L4 0 (λ_=>i) (λ_=>j) λa ha=>⟨hi,hj⟩
  rw[vG,Zc,Zo] at e;rw[e];exact Yn (zX (E:=E) (0+1+k) _ (by omega) λr c hr hc=>hA _ _ (rg r hr).1 (rg c hc).2) (Yy (by decide) (Yx _ (by omega)))
def CV:Nat->(Nat->Int)->Int
 | 0,_=>1
 | n+1,f=>CV n f*f n
theorem y_ (f:Nat->Int):∀n,CV (n+1) f=f 0*CV n (λi=>f (i+1))
 | 0=>by show 1*f 0=f 0*1;omega
 | n+1=>by
  show CV (n+1) f*f (n+1)=f 0*(CV n (λi=>f (i+1))*f (n+1))
  rw[y_ f n,Z8]
theorem zY:∀(n:Nat) (M:Mx),(∀i j,j<i->i<n->M i j=0)->det n M=CV n λi=>M i i
 | 0,_,_=>rfl
 | n+1,M,h=>by
  rw[pB n M λi h1 h2=>h i 0 h1 (by omega),y_,zY n _ λi j h1 h2=>h (i+1) (j+1) (by omega) (by omega)]
end L2
namespace L2
theorem Bv {n:Nat}(M:Mx){p:Nat}(hp:p<n)(q:Nat->Nat)(a:Nat->Int):∀m,(∀k,k<m->q k<n/\q k≠p)->det n (gI M p λc=>M p c+bZ m λk=>a k*M (q k) c)=det n M
 | 0,_=>by
  have e:gI M p (λc=>M p c+bZ 0 λk=>a k*M (q k) c)=M:=by
   have:(λc=>M p c+bZ 0 λk=>a k*M (q k) c)=M p:=by
    funext c
    show M p c+0=M p c
    omega
   rw[this,pq]
  rw[e]
 | m+1,h=>by
  have e:(λc=>M p c+bZ (m+1) λk=>a k*M (q k) c)=λc=>1*(M p c+bZ m λk=>a k*M (q k) c)+a m*M (q m) c:=by
   funext c
   show M p c+(bZ m (λk=>a k*M (q k) c)+a m*M (q m) c)=_
   omega
  have hq:=h m (by omega)
  rw[e,pA 1 (a m) (λc=>M p c+bZ m λk=>a k*M (q k) c) (M (q m)) n M p hp,Bv M hp q a m λk hk=>h k (by omega),Bu (M:=gI M p (M (q m))) hp hq.1 (λz=>hq.2 z.symm) λc=>?_]
  ·omega
  ·rw[e_,eL hq.2]
theorem za {n:Nat}{A:Mx}:∀(m:Nat) (M:Mx),(∀r c,r<n->c<n->M r c=A r c)->(∀r c,r<n->n<=c->M r c=0)->det (n+m) M=det n A*det m λr c=>M (n+r) (n+c)
 | 0,M,h1,_=>by
  show det n M=det n A*1
  rw[cX h1];omega
 | m+1,M,h1,h2=>by
  show det (n+m+1) M=det n A*det (m+1) _
  rw[dD (n+m),dD m,<- dh];have split:∀(f:Nat->Int) (a b:Nat),bZ (a+b) f=bZ a f+bZ b λi=>f (a+i):=by
   intro f a b;induction b with
   | zero=>show bZ a f=bZ a f+0;omega
   | succ b ih=>show bZ (a+b) f+f (a+b)=bZ a f+(bZ b (λi=>f (a+i))+f (a+b));rw[ih];omega
  rw[show n+m+1=n+(m+1) by omega,split,f7 λi hi=>?_,Zu]
  ·refine aK λi hi=>?_
   have e1:n+m-(n+i)=m-i:=by omega
   rw[e1,za m (λr c=>M (c8 (n+i) r) c) (λr c hr hc=>?_) (λr c hr hc=>?_)]
   ·have e2:(λr c=>M (c8 (n+i) (n+r)) (n+c))=λr c=>M (n+c8 i r) (n+c):=by
     funext r c
     have:c8 (n+i) (n+r)=n+c8 i r:=by unfold c8;split <;> split <;> omega
     rw[this]
    show sg (m-i)*M (n+i) (n+m)*(det n A*det m λr c=>M (c8 (n+i) (n+r)) (n+c))=_
    rw[e2];generalize det m _=D;generalize det n A=D2;generalize sg (m-i)=S;generalize M (n+i) (n+m)=X;grind
   ·have:c8 (n+i) r=r:=by unfold c8;rw[W9 (by omega)]
    rw[this];exact h1 r c hr hc
   ·have:c8 (n+i) r=r:=by unfold c8;rw[W9 (by omega)]
    rw[this];exact h2 r c hr hc
  ·rw[h2 i (n+m) hi (by omega)]
   generalize sg _=S;generalize det _ _=D;grind
theorem wM {n:Nat}{C:Mx}:∀(m:Nat) (M:Mx),(∀r c,r<n->c<m->M r c=0)->(∀r c,r<n->c<n->M r (m+c)=C r c)->(∀r c,r<m->c<m->M (n+r) c=if r=c then -1 else 0)->det (n+m) M=(- sg n) ^ m*det n C
 | 0,M,_,h2,_=>by
  show det n M=_
  rw[Zc,Zo];exact cX λr c hr hc=>by have:=h2 r c hr hc;rw[W2] at this;exact this
 | m+1,M,h1,h2,h3=>by
  show det (n+m+1) M=_
  have e:=zV (n:=n+m+1) n M (by omega)
  rw[pB (n+m) _ λi hi hle=>?_] at e
  ·have e0:M (yf n 0) 0=-1:=by
    have:=h3 0 0 (by omega) (by omega)
    rw[W9 rfl] at this;exact this
   have ih:=wM (n:=n) (C:=C) m (λr c=>M (c8 n r) (c+1)) (λr c hr hc=>?_) (λr c hr hc=>?_) (λr c hr hc=>?_)
   ·have e1:det (n+m) (λr c=>M (yf n (r+1)) (c+1))=(- sg n) ^ m*det n C:=ih
    rw[e0,e1] at e;have s2:=Nm n;have e2:det (n+m+1) M=sg n*(sg n*det (n+m+1) M):=by
     rw[<- Z8,s2,Zo]
    rw[e2,<- e,Za];generalize (- sg n) ^ m=P;generalize det n C=D;generalize sg n=S;grind
   ·have:c8 n r=r:=by unfold c8;rw[W9 hr]
    show M (c8 n r) (c+1)=0
    rw[this];exact h1 r (c+1) hr (by omega)
   ·have:c8 n r=r:=by unfold c8;rw[W9 hr]
    show M (c8 n r) (m+c+1)=C r c
    rw[this,show m+c+1=m+1+c by omega];exact h2 r c hr hc
   ·have:c8 n (n+r)=n+(r+1):=by unfold c8;rw[W8 (by omega)];omega
    show M (c8 n (n+r)) (c+1)=_
    rw[this,h3 (r+1) (c+1) (by omega) (by omega)]
    by_cases z:r=c
    ·rw[W9 z,W9 (by omega)]
    ·rw[W8 z,W8 (by omega)]
  ·match i,hi with
   | i+1,_=>
    show M (c8 n i) 0=0
    unfold c8;by_cases z:i<n
    ·rw[W9 z];exact h1 i 0 z (by omega)
    ·rw[W8 z]
     have e4:i+1=n+(i+1-n):=by omega
     rw[e4,h3 (i+1-n) 0 (by omega) (by omega),W8 (by omega)]
def nk (n:Nat)(A B:Mx):Mx:=λi c=>bZ n λk=>A i k*B k c
def rO (n:Nat)(A B:Mx)(t:Nat):Mx:=λr c=>
 if r<n then (if c<n then (if r<t then 0 else A r c) else (if r<t then nk n A B r (c-n) else 0))
 else (if c<n then (if r-n=c then -1 else 0) else B (r-n) (c-n))
theorem Bw (n:Nat)(A B:Mx):∀t,t<=n->det (n+n) (rO n A B t)=det (n+n) (rO n A B 0)
 | 0,_=>rfl
 | t+1,h=>by
  rw[<- Bw n A B t (by omega),<- Bv (n:=n+n) (rO n A B t) (p:=t) (by omega) (λk=>n+k) (λk=>A t k) n λk hk=>⟨by omega,by omega⟩]
  refine cX λr c hr hc=>?_
  unfold gI;by_cases e:r=t
  ·subst e
   rw[W9 rfl];have L5:r<n:=by omega
   by_cases hcn:c<n
   ·have e1:rO n A B (r+1) r c=0:=by unfold rO;rw[W9 L5,W9 hcn,W9 (by omega)]
    have e2:rO n A B r r c=A r c:=by unfold rO;rw[W9 L5,W9 hcn,W8 (by omega)]
    have e3:(bZ n λk=>A r k*rO n A B r (n+k) c)=bZ n λk=>if k=c then-A r c else 0:=aK λk hk=>by
     unfold rO;rw[W8 (by omega),W9 hcn,show n+k-n=k by omega]
     by_cases z:k=c
     ·rw[W9 z,W9 z,z];omega
     ·rw[W8 z,W8 z];omega
    have e4:∀m,c<m->(bZ m λk=>if k=c then-A r c else 0)=- A r c:=by
     intro m;induction m with
     | zero=>intro h;omega
     | succ m ih=>
      intro h;show bZ m (λk=>if k=c then-A r c else 0)+(if m=c then-A r c else 0)=_
      by_cases z:m=c
      ·subst z
       rw[W9 rfl,f7 λi hi=>W8 (by omega)];omega
      ·rw[W8 z,ih (by omega)];omega
    show _=rO n A B r r c+bZ n λk=>A r k*rO n A B r (n+k) c
    rw[e1,e2,e3,e4 n hcn];omega
   ·have e1:rO n A B (r+1) r c=nk n A B r (c-n):=by unfold rO;rw[W9 L5,W8 hcn,W9 (by omega)]
    have e2:rO n A B r r c=0:=by unfold rO;rw[W9 L5,W8 hcn,W8 (by omega)]
    have e3:(bZ n λk=>A r k*rO n A B r (n+k) c)=nk n A B r (c-n):=aK λk hk=>by
     unfold rO;rw[W8 (by omega),W8 hcn,show n+k-n=k by omega]
    show _=rO n A B r r c+bZ n λk=>A r k*rO n A B r (n+k) c
    rw[e1,e2,e3];omega
  ·rw[W8 e]
   unfold rO;by_cases L5:r<n
   ·rw[W9 L5,W9 L5]
    have ez:(r<t+1)=(r<t):=propext ⟨λh=>by omega,λh=>by omega⟩
    simp only[ez]
   ·rw[W8 L5,W8 L5]
theorem O0 (n:Nat):(- sg n) ^ n=1:=by
 rcases Nat.mod_two_eq_zero_or_one n with h|h
 ·have e:sg n=1:=W9 h
  obtain⟨k,hk⟩:∃k,n=2*k:=⟨n / 2,by omega⟩
  rw[e,hk,Int.pow_mul];have:(-1:Int) ^ 2=1:=by decide
  rw[this,Int.one_pow]
 ·have e:sg n=-1:=W8 (by omega)
  rw[e,Int.neg_neg,Int.one_pow]
theorem vH (n:Nat)(A B:Mx):det n (nk n A B)=det n A*det n B:=by
 have e1:det (n+n) (rO n A B 0)=det n A*det n B:=by
  rw[za (n:=n) (A:=A) n (rO n A B 0) (λr c hr hc=>?_) (λr c hr hc=>?_)]
  ·congr 1
   refine cX λr c hr hc=>?_
   unfold rO;rw[W8 (by omega),W8 (by omega),show n+r-n=r by omega,show n+c-n=c by omega]
  ·unfold rO;rw[W9 hr,W9 hc,W8 (by omega)]
  ·unfold rO;rw[W9 hr,W8 (by omega),W8 (by omega)]
 have e2:det (n+n) (rO n A B n)=(- sg n) ^ n*det n (nk n A B):=by
  refine wM (n:=n) (C:=nk n A B) n (rO n A B n) (λr c hr hc=>?_) (λr c hr hc=>?_) (λr c hr hc=>?_)
  ·unfold rO;rw[W9 hr,W9 hc,W9 hr]
  ·unfold rO;rw[W9 hr,W8 (by omega),W9 hr,show n+c-n=c by omega]
  ·unfold rO;rw[W8 (by omega),W9 hc,show n+r-n=r by omega]
 rw[O0,Zo] at e2;rw[<- e2,Bw n A B n (Yd _),e1]
theorem E4:∀(n:Nat) (M:Mx),(∀i j,i<j->j<n->M i j=0)->det n M=CV n λi=>M i i
 | 0,_,_=>rfl
 | n+1,M,h=>by
  rw[dD];show bZ n _+_=CV n (λi=>M i i)*M n n
  rw[f7 λi hi=>?_]
  ·have e:det n (λr c=>M (c8 n r) c)=det n M:=cX λr c hr hc=>by
    have:c8 n r=r:=by unfold c8;rw[W9 hr]
    rw[this]
   show 0+sg (n-n)*M n n*det n (λr c=>M (c8 n r) c)=_
   rw[e,Nat.sub_self,E4 n M λi j hi hj=>h i j hi (by omega)]
   have:sg 0=1:=rfl
   rw[this];generalize CV n _=P;generalize M n n=X;grind
  ·rw[h i n hi (by omega)]
   generalize sg _=S;generalize det _ _=D;grind
end L2
namespace L2
open PySem PySem.Spec PyProof.Rows
theorem qD:∀ {ns:List Int} {us:List l?},Vals (ns.map V.int) us->∃xs:Array (Int×Tok),us.toArray=intItems xs/\xs.toList.map (·.1)=ns
 | [],_,.nil=>⟨#[],by simp[intItems],rfl⟩
 | n::ns,_,.cons r rr=>by
  obtain⟨t,rfl⟩:=(show ∃t,_=Value.int n t from r)
  obtain⟨xs,e1,e2⟩:=qD rr;refine⟨((n,t)::xs.toList).toArray,?_,by simp[e2]⟩
  have e3:=Jd Array.toList e1;apply Array.toList_inj.mp
  simp only[intItems,Array.toList_map] at e3 ⊢
  simp[e3]
theorem qE {xs:Array (Int×Tok)}{ns:List Int}(h:xs.toList.map (·.1)=ns)(i:Nat):numAt xs i=aq ns i:=by
 unfold numAt aq;rw[<- h,Yb,Ye];simp
section
variable {X:Cx}
def Nn (K:bE):List V->Hp->VK->Prop:=λxs H Q=>∃p,∃ns:List Int,xs=[.ref p]/\aP K H p (ns.map V.int)/\ns≠[]/\∀M,M∈ns->(∀a∈ns,a<=M)->Q (.int M) H
theorem Gi (hc:X.calm=true):ir X (.builtin "max") (Nn X.K):=by
 intro pins s σ H xs us Q I rv h;obtain⟨p,ns,rfl,hq,hne,q⟩:=h;obtain⟨u,rfl,ru⟩:=vals1 rv;cases (show u=I! p from ru)
 obtain⟨its,r,hp,_⟩:=I.list hq;obtain⟨ys,e1,e2⟩:=qD r;have hl:=hp.isList;rw[e1] at hl;have hsz:ys.size=ns.length:=by rw[<- e2];simp
 have hpos:0<ns.length:=List.length_pos_iff.mpr hne;refine max_intList (I.ok.hd hc) hl (by omega) λv h' tk hv hk=>?_
 obtain⟨t,rfl⟩:=intItems_at hv;obtain⟨h1,h2⟩:=argBest_gt (numAt ys) (ys.size-1);refine⟨.int _,H,I.kept (h':=h') (t':=tk) hk,⟨t,rfl⟩,q _ ?_ λa ha=>?_⟩
 ·rw[qE e2,d9 (by omega)];exact Yz _
 ·obtain⟨j,hj,rfl⟩:=Wa ha
  have:=h2 j (by omega)
  rw[qE e2,d9 hj] at this;exact this
theorem Dk {K:bE}(h:X.K=K)(hc:X.calm=true):ir X (.builtin "max") (Nn K):=by subst h;exact Gi hc
end
def fh (c:Int)(f:List Int):List Int:=uT [c,1] (f.map λa=>trim [a])
theorem Dl (found step:List Int)(a:Int):r_ found (step.map λx=>a*x)=r_ found (trim (ee (trim [a]) step)):=rZ (oY _ _) (oY _ _) λm=>by
 rw[oX,oX,d_,cp,HZ (by simp),QM,vD (c:=a) rfl λi hi=>bG (by show 1<=i;omega)]
def dl (f:List Int):List Int:=(Ym (f.length-1)).map λi=>((i+1:Nat):Int)*aq f (i+1)
theorem vI (f:List Int)(m:Nat):aq (dl f) m=((m+1:Nat):Int)*aq f (m+1):=
 gf (c:=λi=>((i+1:Nat):Int)*aq f (i+1)) (λi hi=>by rw[bG (by omega),Y6]) m
theorem L6 {f:List Int}(h:Norm f):Norm (dl f):=by
 by_cases hl:f.length<=1
 ·left
  unfold dl;have:f.length-1=0:=by omega
  rw[this];rfl
 ·right
  have e:(dl f).length=f.length-1:=by unfold dl;simp
  rw[vI,e];have e2:f.length-1-1+1=f.length-1:=by omega
  rw[e2];refine Int.mul_ne_zero (by omega) (h.last λz=>by rw[z] at hl;exact hl (by decide))
end L2
namespace L2
abbrev Fn:=Nat->Int
theorem eY (f:Nat->Int):∀n,bZ n f=cA n f
 | 0=>rfl
 | n+1=>by
  show bZ n f+f n=cA n f+f n
  rw[eY f n]
def xp (i:Nat):Fn:=λk=>if k=i then 1 else 0
structure Top (f:Fn)(n:Nat):Prop where
 one:f n=1
 top:∀m,n<m->f m=0
structure lC (f:Fn)(n:Nat)(u r:Fn):Prop where
 ex:∃(q:Fn) (N:Nat),(∀m,N<=m->q m=0)/\∀m,u m=cv q f m+r m
 lo:∀m,n<=m->r m=0
theorem Dm {d f:Fn}{n t:Nat}(hf:Top f n)(hd:∀i,t<i->d i=0):cv d f (t+n)=d t:=by
 unfold cv;rw[jI (k:=t) (by omega) λi hi hne=>?_]
 ·rw[show t+n-t=n by omega,hf.one,Wx]
 ·by_cases c:t<i
  ·rw[hd i c,Wb]
  ·rw[hf.top _ (by omega),Y6]
theorem O1 (a b c:Fn)(m:Nat):cv (λi=>a i-b i) c m=cv a c m-cv b c m:=by
 have h:=wH (λi=>a i-b i) b c m
 have e:(λi=>a i-b i+b i)=a:=by funext i;omega
 rw[e] at h;omega
theorem lC.uniq {f:Fn}{n:Nat}{u r s:Fn}(hf:Top f n)(h:lC f n u r)(h':lC f n u s):r=s:=by
 obtain⟨⟨q,N,hq,e⟩,lo⟩:=h;obtain⟨⟨q',N',hq',e'⟩,lo'⟩:=h';have eq1:∀m,cv (λi=>q i-q' i) f m=s m-r m:=λm=>by
  rw[O1];have:=e m
  have:=e' m
  omega
 have dz:∀k t,max N N'-k<=t->q t-q' t=0:=by
  intro k;induction k with
  | zero=>intro t ht;rw[hq t (by omega),hq' t (by omega)];rfl
  | succ k ih=>
   intro t ht;by_cases c:max N N'-k<=t
   ·exact ih t c
   ·have:=Dm (d:=λi=>q i-q' i) (t:=t) hf λi hi=>ih i (by omega)
    rw[eq1,lo _ (by omega),lo' _ (by omega)] at this
    exact this.symm
 funext m
 have h0:(λi=>q i-q' i)=λ_=>0:=funext λt=>dz (max N N') t (by omega)
 have:=eq1 m
 rw[h0,zS] at this;omega
theorem L7 (k:Int)(a c:Fn)(m:Nat):cv (λi=>k*a i) c m=k*cv a c m:=by
 unfold cv;rw[<- sD];exact cC λi hi=>by rw[Z8]
theorem lC.add {f:Fn}{n:Nat}{u r v s:Fn}(h:lC f n u r)(h':lC f n v s)(k:Int):lC f n (λm=>u m+k*v m) (λm=>r m+k*s m):=by
 obtain⟨⟨q,N,hq,e⟩,lo⟩:=h;obtain⟨⟨q',N',hq',e'⟩,lo'⟩:=h';refine⟨⟨λi=>q i+k*q' i,max N N',λm hm=>by show q m+k*q' m=0;rw[hq m (by omega),hq' m (by omega)];omega,λm=>?_⟩,λm hm=>by show r m+k*s m=0;rw[lo m hm,lo' m hm];omega⟩
 rw[wH,L7,e m,e' m,Int.mul_add];omega
theorem lC.zero (f:Fn)(n:Nat):lC f n (λ_=>0) (λ_=>0):=⟨⟨λ_=>0,0,λ_ _=>rfl,λm=>by rw[zS];rfl⟩,λ_ _=>rfl⟩
theorem lC.sum {f:Fn}{n:Nat}{u r:Nat->Fn}(a:Nat->Int):∀m,(∀k,k<m->lC f n (u k) (r k))->lC f n (λc=>bZ m λk=>a k*u k c) (λc=>bZ m λk=>a k*r k c)
 | 0,_=>lC.zero f n
 | m+1,h=>(lC.sum a m λk hk=>h k (by omega)).add (h m (by omega)) (a m)
theorem lC.next {f:Fn}{n:Nat}{p u r s:Fn}{P:Nat}(hp:∀m,P<=m->p m=0)(h:lC f n u r)(h':lC f n (cv p r) s):lC f n (cv p u) s:=by
 obtain⟨⟨q,N,hq,e⟩,lo⟩:=h;obtain⟨⟨q',N',hq',e'⟩,lo'⟩:=h';refine⟨⟨λi=>cv p q i+q' i,max (P+N) N',λm hm=>?_,λm=>?_⟩,lo'⟩
 ·show cv p q m+q' m=0
  rw[hq' m (by omega)]
  unfold cv;rw[dB λi hi=>?_]
  ·rfl
  ·by_cases c:P<=i
   ·rw[hp i c,Wb]
   ·rw[hq (m-i) (by omega),Y6]
 ·have e1:cv p u m=cv p (λi=>cv q f i+r i) m:=Bp (λi _=>rfl) λi _=>e i
  rw[e1,LW,wH,<- Bq,e' m];omega
theorem lC.self {f:Fn}{n:Nat}{u:Fn}(h:∀m,n<=m->u m=0):lC f n u u:=⟨⟨λ_=>0,0,λ_ _=>rfl,λm=>by rw[zS];omega⟩,h⟩
theorem jh (i:Nat)(u:Fn)(m:Nat):cv (xp i) u m=if i<=m then u (m-i) else 0:=by
 unfold cv xp;by_cases c:i<=m
 ·rw[W9 c,jI (k:=i) (by omega) λj hj hne=>by rw[W8 hne,Wb],W9 rfl,Zo]
 ·rw[W8 c,dB λj hj=>by rw[W8 (by omega),Wb]]
theorem E5 (i m:Nat)(h:i+1<=m):xp i m=0:=W8 (by omega)
theorem L8 (i:Nat)(u:Fn):cv (xp (i+1)) u=cv (xp 1) (cv (xp i) u):=by
 funext m
 rw[jh,jh];by_cases c:1<=m
 ·rw[W9 c,jh]
  by_cases c2:i<=m-1
  ·rw[W9 c2,W9 (by omega),show m-1-i=m-(i+1) by omega]
  ·rw[W8 c2,W8 (by omega)]
 ·rw[W8 c,W8 (by omega)]
structure Rows (f:Fn)(n:Nat)(g:Fn)(R:Nat->Fn):Prop where
 zero:lC f n g (R 0)
 succ:∀i,lC f n (cv (xp 1) (R i)) (R (i+1))
theorem Rows.at {f:Fn}{n:Nat}{g:Fn}{R:Nat->Fn}(h:Rows f n g R):∀i,lC f n (cv (xp i) g) (R i)
 | 0=>by
  have:cv (xp 0) g=g:=by funext m;rw[jh,W9 (by omega)];rfl
  rw[this];exact h.zero
 | i+1=>by
  rw[L8];exact lC.next (λm hm=>E5 1 m hm) (h.at i) (h.succ i)
theorem Rows.comb {f:Fn}{n:Nat}{g:Fn}{R:Nat->Fn}(h:Rows f n g R){p:Fn}{P:Nat}(hp:∀m,P<=m->p m=0):lC f n (cv p g) λc=>bZ P λk=>p k*R k c:=by
 have e:cv p g=λc=>bZ P λk=>p k*cv (xp k) g c:=by
  funext c
  rw[eY];have e1:∀k,k<P->p k*cv (xp k) g c=if k<=c then p k*g (c-k) else 0:=λk _=>by
   rw[jh];split
   ·rfl
   ·rw[Y6]
  rw[cC e1];unfold cv;by_cases z:P<=c+1
  ·have:c+1=P+(c+1-P):=by omega
   rw[this,qC,dB (f:=λi=>p (P+i)*_) λi hi=>by rw[hp _ (by omega),Wb],We]
   exact cC λi hi=>by rw[W9 (by omega)]
  ·obtain⟨d,rfl⟩:∃d,P=(c+1)+d:=⟨P-(c+1),by omega⟩
   have s1:=qC (λi=>if i<=c then p i*g (c-i) else 0) (c+1) d
   have s2:(cA d λi=>if c+1+i<=c then p (c+1+i)*g (c-(c+1+i)) else 0)=0:=dB λi hi=>W8 (by omega)
   rw[s1,s2,We];exact cC λi hi=>(W9 (by omega)).symm
 rw[e];exact lC.sum p P λk _=>h.at k
def jy (z:Int):Fn:=λk=>if k=0 then-z else if k=1 then 1 else 0
end L2
namespace L2
def tk (f:Fn)(n:Nat):Nat->Fn
 | 0=>xp 0
 | k+1=>λm=>(if m=0 then 0 else tk f n k (m-1))-tk f n k (n-1)*f m
section
variable {f:Fn} {n:Nat}
theorem wN (hf:Top f n)(hn:1<=n):∀k m,n<=m->tk f n k m=0
 | 0,m,h=>W8 (by omega)
 | k+1,m,h=>by
  show(if m=0 then 0 else tk f n k (m-1))-tk f n k (n-1)*f m=0
  rw[W8 (by omega)]
  by_cases c:m=n
  ·rw[c,hf.one];omega
  ·rw[hf.top m (by omega),wN hf hn k (m-1) (by omega)];omega
theorem Dp (hf:Top f n)(hn:1<=n):∀k,lC f n (xp k) (tk f n k)
 | 0=>lC.self λm hm=>wN hf hn 0 m hm
 | k+1=>by
  have e:xp (k+1)=cv (xp 1) (xp k):=by
   funext m
   rw[jh];unfold xp;by_cases c:1<=m
   ·rw[W9 c]
    by_cases c2:m=k+1
    ·rw[W9 c2,W9 (by omega)]
    ·rw[W8 c2,W8 (by omega)]
   ·rw[W8 c,W8 (by omega)]
  rw[e];refine lC.next (λm hm=>E5 1 m hm) (Dp hf hn k) ⟨⟨λi=>if i=0 then tk f n k (n-1) else 0,1,λm hm=>W8 (by omega),λm=>?_⟩,wN hf hn (k+1)⟩
  have e1:cv (λi=>if i=0 then tk f n k (n-1) else 0) f m=tk f n k (n-1)*f m:=vD (W9 rfl) (λi hi=>W8 (by omega)) m
  rw[e1,jh];show _=_+((if m=0 then 0 else tk f n k (m-1))-tk f n k (n-1)*f m)
  by_cases c:1<=m
  ·rw[W9 c,W8 (by omega)];omega
  ·rw[W8 c,W9 (by omega)];omega
theorem L_ (hf:Top f n)(hn:1<=n){g:Fn}{L:Nat}(hg:∀m,L<=m->g m=0){R:Nat->Fn}(h:Rows f n g R)(i:Nat):R i=λc=>bZ L λk=>g k*tk f n (k+i) c:=by
 refine lC.uniq hf (h.at i) ?_
 have e:cv (xp i) g=λc=>bZ L λk=>g k*xp (k+i) c:=by
  funext c
  rw[jh,eY];by_cases z:i<=c
  ·rw[W9 z]
   by_cases y:c-i<L
   ·rw[jI (k:=c-i) y λk hk hne=>by unfold xp;rw[W8 (by omega),Y6]]
    unfold xp;rw[W9 (by omega),Wx]
   ·rw[hg _ (by omega),dB λk hk=>by unfold xp;rw[W8 (by omega),Y6]]
  ·rw[W8 z,dB λk hk=>by unfold xp;rw[W8 (by omega),Y6]]
 rw[e];exact lC.sum g L λk _=>Dp hf hn (k+i)
def wb (W c:Nat)(u:Fn):Prop:=∀j,(u j).natAbs*W ^ j<=c
end
end L2
namespace L2
theorem O2 (z:Int):∀i,2<=i->jy z i=0:=λi h=>by unfold jy;rw[W8 (by omega),W8 (by omega)]
def tg:Nat->Int
 | 0=>1
 | n+1=>tg n*sg n
theorem Gj (c:Int):aq [c,1]=jy (- c):=by
 funext m
 match m with
 | 0=>show c=-(-c);omega
 | 1=>rfl
 | m+2=>rw[bG (by show 2<=_;omega),O2 _ _ (by omega)]
theorem Dq (a:Int)(m:Nat):aq (trim [a]) m=if m=0 then a else 0:=by
 rw[d_];match m with
 | 0=>rfl
 | m+1=>rw[bG (by show 1<=_;omega),W8 (by omega)]
theorem vJ (c a:Int)(r:List Int)(m:Nat):aq (fh c (a::r)) m=cv (aq (fh c r)) (jy (- c)) m+if m=0 then a else 0:=by
 show aq (r_ (ee (fh c r) [c,1]) (trim [a])) m=_
 rw[oX,cp,Gj,Dq]
theorem Im (c:Int):aq (fh c [])=λ_=>0:=funext λm=>gT m
end L2
namespace L2
open PySem PySem.Spec PyProof.Rows
theorem ku {env:Env}:∀ {names:List (Str×NameKind)} {x:Str} {kd:NameKind},kd=.cell\/kd=.free->
  (names.map λ(n,k)=>if (k == Z? && env.scope.kind == .function && env.kindOf n == j? .cell) then (n,L!) else (n,k)).lookup x=j? kd->names.lookup x=j? .free\/names.lookup x=j? .cell
 | [],_,_,_,h=>by simp at h
 | (n,k)::r,x,kd,hk,h=>by
  have ih:=@ku env r x kd hk;have h':List.lookup x ((if (k == Z? && env.scope.kind == .function && env.kindOf n == j? .cell)=true then (n,L!) else (n,k))::(r.map λ(n,k)=>if (k == Z? && env.scope.kind == .function && env.kindOf n == j? .cell) then (n,L!) else (n,k)))=j? kd:=h
  by_cases hc:(k == Z? && env.scope.kind == .function && env.kindOf n == j? .cell)=true
  ·rw[W9 hc] at h'
   have hkf:k=.free:=by
    simp only[T?,beq_iff_eq] at hc
    exact hc.1.1
   subst hkf;cases hx:x == n with
   | true=>exact .inl (by simp only[Y3,hx])
   | false=>simp only[Y3,hx] at h' ⊢;exact ih h'
  ·rw[W8 hc] at h'
   cases hx:x == n with
   | true=>
    simp only[Y3,hx] at h' ⊢
    have e:k=kd:=M? h';subst e;rcases hk with hk|hk
    ·rw[hk];exact .inr rfl
    ·rw[hk];exact .inl rfl
   | false=>simp only[Y3,hx] at h' ⊢;exact ih h'
structure cN (X:Cx)(N:List Str)(sl:List (Option Nat))(scope:Scope)(own:Str):Prop where
 kind:scope.kind=.function
 cells:∀n acc,cellsFrom n scope.names acc=(own,n)::acc
 push:∀h,pushCells h scope.names=h.push { cls:=.type "cell",data:=.cell q? }
 RX:∀x,scope.names.lookup x=j? .cell->x=own
 U1:scope.names.lookup own=j? .cell
 locs:∀y∈scope.names,y.2=.local->scope.names.lookup y.1=j? .local
 frees:∀y∈scope.names,y.2=.free->X.env.kindOf y.1=j? .cell\/X.env.kindOf y.1=j? .free
 len:sl.length=N.length
 out:∀(j i:Nat) (x:Str),N[j]?=j? x->sl[j]?=j? (j? i)->X.N[i]?=j? x/\scope.names.lookup x=j? .free
abbrev dW (X:Cx)(N:List Str)(scope:Scope)(own:Str)(cl:List (Str×o?))(C:o?)(s2:u?)(H2:Hp)(fp:List o?):Cx:=
 { X with N:=N,s₀:=s2,H₀:=H2,env:=compEnvC scope cl C X.env,outer:=X.stack,ex:=fp,fn:=λx=>decide (x=own),pn:=[],xe:=λ_ _=>False }
theorem Dr {M:Model}{A:A!}{E:l?->u?->Prop}{s:u?}{scope:Scope}{own:Str}{globals:o?}{cl:List (Str×o?)}{qual:Str}{env:Env}{Q:Env->u?->Prop}
  (hc:∀n acc,cellsFrom n scope.names acc=(own,n)::acc) (hp:∀h,pushCells h scope.names=h.push { cls:=.type "cell",data:=.cell q? })
  (hQ:Q (newEnv scope s.heap.objs.size globals ((own,s.heap.objs.size+1)::cl) qual q? .none (j? env) builtinsNs) { s with heap:=(s.heap.push { cls:=.type "dict",data:=.dict #[] }).push { cls:=.type "cell",data:=.cell q? } }):
  L? M A (newFunctionEnv scope globals cl [] qual q? .none (j? env)) Q E s:=by
 simp only[newFunctionEnv,Option.isSome_some,if_true]
 refine B? (wpAny_alloc ?_)
 refine B? (wpAny_layCells _ (λname kind cells=>by cases hkc:kind == L! <;> simp[hkc]) _ _ _ _ ?_)
 rw[hc,hp];rw[show({ s with heap:=s.heap.push { cls:=.type "dict",data:=.dict #[] } }:u?).heap.objs.size=s.heap.objs.size+1 from Heap.size_push ..]
 rw[List.forIn_nil];exact B? (J? (J? hQ))
section
variable {X:Cx} {N:List Str} {sl:List (Option Nat)} {scope:Scope} {own:Str}
theorem cN.clos (S:cN X N sl scope own)(ok:X.Ok):closureFor scope X.env=pure (aT X.env.cells scope.names []):=
 iM λy hy hf=>ok.has y.1 (S.frees y hy hf)
theorem cN.RY (S:cN X N sl scope own){x:Str}(hf:scope.names.lookup x=j? .free){c:o?}(hc:X.env.cells.lookup x=j? c):(aT X.env.cells scope.names []).lookup x=j? c:=
 gq hc _ _ (.inr (U? hf)) λd hd=>by simp at hd
theorem cN.cell (S:cN X N sl scope own){x:Str}(hf:scope.names.lookup x=j? .free){c c0:o?}(hc:X.env.cells.lookup x=j? c):((own,c0)::aT X.env.cells scope.names []).lookup x=j? c:=by
 have hne:(x == own)=false:=by
  refine beq_eq_false_iff_ne.mpr λz=>?_
  subst z;rw[S.U1] at hf;cases hf
 rw[Y3,hne];exact S.RY hf hc
theorem wO {cl:List (Str×o?)}{x:Str}{c c0:o?}(h:((own,c0)::cl).lookup x=j? c):(x=own/\c=c0)\/(x≠own/\cl.lookup x=j? c):=by
 rw[Y3] at h;cases e:x == own with
 | true=>rw[e] at h;exact .inl ⟨by simpa using e,(M? h).symm⟩
 | false=>rw[e] at h;exact .inr ⟨by simpa using e,h⟩
theorem cN.ok (S:cN X N sl scope own){pins:List (o?×Obj)}{σ:St}{H2:Hp}{s2:u?}{fp:List o?}{C c0:o?}(I:Inv X pins σ H2 s2)(hf:∀b∈fp,jZ X pins H2 b)(hlt:∀b∈fp,b<s2.heap.objs.size)(hC:s2.heap.objs.size<=C)(hc0:s2.heap.objs.size<=c0):
  (dW X N scope own ((own,c0)::aT X.env.cells scope.names []) C s2 H2 fp).Ok where
 mod:=I.ok.mod
 kind:=S.kind
 glob:=I.ok.glob
 blt:=I.ok.blt
 above:=hC
 inj:=λx y c h1 h2=>by
  rcases wO h1 with ⟨e1,e2⟩|⟨e1,e2⟩
  ·rcases wO h2 with ⟨e3,e4⟩|⟨e3,e4⟩
   ·rw[e1,e3]
   ·obtain⟨v,q⟩:=I.cell y c (bH.back e4)
    have:=q.lt
    rw[e2] at this;exact Jf (Yj this hc0) (Zz _)
  ·rcases wO h2 with ⟨e3,e4⟩|⟨e3,e4⟩
   ·obtain⟨v,q⟩:=I.cell x c (bH.back e2)
    have:=q.lt
    rw[e4] at this;exact Jf (Yj this hc0) (Zz _)
   ·exact I.ok.inj x y c (bH.back e2) (bH.back e4)
 has:=λx hx=>by
  have hx':scope.names.lookup x=j? .free\/scope.names.lookup x=j? .cell:=by
   rcases hx with hx|hx
   ·exact ku (.inl rfl) hx
   ·exact ku (.inr rfl) hx
  rcases hx' with hx'|hx'
  ·obtain⟨c,hc⟩:=I.ok.has x (S.frees _ (U? hx') rfl)
   exact⟨c,S.cell hx' hc⟩
  ·have:=S.RX x hx'
   subst this;exact⟨c0,by show List.lookup x ((x,c0)::_)=_;rw[Y3,beq_self_eq_true]⟩
 Hr:=λx c h hl=>by
  rcases wO hl with ⟨_,e2⟩|⟨e1,_⟩
  ·rw[e2];exact hc0
  ·exact Jf (Jb h) e1
 hd:=I.ok.hd
 frames:=I.ok.frames
 stk:=.inl rfl
 Lr:=λb hb=>⟨Yq (Yj (hlt b hb) hC),λx c h=>by
  rcases wO h with ⟨_,e2⟩|⟨_,e2⟩
  ·rw[e2];exact Nat.ne_of_gt (Yj (hlt b hb) hc0)
  ·exact(hf b hb).2.2.2.2.1 x c (bH.back e2)⟩
 bs:=I.bs
 A4:=Yn I.ok.A4 I.sz
 vV:=λb o e hb=>by
  rcases (hf b hb).2.2.2.1 with z|z
  ·exact I.ok.vV b o e z
  ·exact Jf (Yj (Yj (Yl e) I.ok.A4) z) (Zz _)
 vW:=λb hb z=>by
  rcases List.mem_cons.mp (I.tH b z) with e|e
  ·exact(hf b hb).2.1 e
  ·exact(hf b hb).2.2.1 e
 kU:=I.stack
 EF:=I.oW
theorem cN.again (S:cN X N sl scope own){pins:List (o?×Obj)}{σ:St}{H2:Hp}{s2:u?}{fp:List o?}{C c0:o?}(I:Inv X pins σ H2 s2)(hf:∀b∈fp,jZ X pins H2 b)
  {uN:List (o?×Obj)} {σ':St} {H':Hp} {s':u?} (J:Inv (dW X N scope own ((own,c0)::aT X.env.cells scope.names []) C s2 H2 fp) uN σ' H' s'):
  Inv (dW X N scope own ((own,c0)::aT X.env.cells scope.names []) C s2 H2 fp) uN (fM sl σ) H' s':=by
 obtain⟨m,hn,_⟩:=J.loc;refine⟨J.ok,J.os,J.bare,J.base,⟨m,hn,λj x v e1 e2 _=>?_⟩,J.cell,J.free,J.fX,J.pin,J.hok,?_⟩
 ·obtain⟨i,h1,h2⟩:=uP e2
  obtain⟨hN,hfree⟩:=S.out j i x e1 h1;have hk:=S.frees _ (U? hfree) rfl;obtain⟨m0,hn0,HH⟩:=I.loc;have hv:QJ X.env.scope x:=by
   rcases hk with hk|hk
   ·exact .inr (.inl hk)
   ·exact .inr (.inr hk)
  obtain⟨u,r,l⟩:=HH i x v hN h2 hv;refine⟨u,r,.inr ⟨?_,?_⟩⟩
  ·rcases fV (env:=X.env) hfree with z|z
   ·exact .inr z
   ·exact .inl z
  ·rcases l with ⟨z,_⟩|⟨_,c,hc,q⟩
   ·rcases hk with hk|hk
    ·have hk':X.env.kindOf x=j? .cell:=hk
     rw[hk'] at z;cases z
    ·have hk':X.env.kindOf x=j? .free:=hk
     rw[hk'] at z;cases z
   ·refine⟨c,S.cell hfree hc,?_⟩
    obtain⟨o,ho,hd⟩:=q;have OI:c ∉ fp:=λz=>(hf c z).2.2.2.2.1 x c hc rfl
    obtain⟨Lu,e⟩:=J.base.any ho (I.fX x c hc) OI;exact⟨_,e,hd⟩
 ·unfold fM
  rw[Ya];exact S.len
theorem zb {elt tg iter:Expr}{ifs:List Expr}{pos pos2:Pos}{wi:TI}{g:TG}{pQ:TT}{te:TE}{use:Option (l?->Sem Unit)}{QQ:l?->u?->Prop}(S:cN X N sl scope own)(k_:X.calm=true)(hi:PI X tg iter wi)
  (hg:∀cl C s2 H2 fp,PG (dW X N scope own cl C s2 H2 fp) tg g) (hif:∀cl C s2 H2 fp,Ng (dW X N scope own cl C s2 H2 fp) ifs pQ) (he:∀cl C s2 H2 fp,PE (dW X N scope own cl C s2 H2 fp) elt te)
  (hs:∀x,foldedSetIterable iter X.env x=pure x) {pins:List (o?×Obj)} {s:u?} {σ:St} {H:Hp} {Q:VK} (I:Inv X pins σ H s) (h:yQ wi sl g pQ te σ H Q)
  (hend:∀(D C:o?) (H3:Hp) (s4:u?) (fl:Flow),Inv X pins σ H3 s4->H3 C=q?->C≠X.env.locals->C ∉ X.fs->X.s₀.heap.objs.size<=C->(∀x c,X.env.cells.lookup x=j? c->c≠C)->(∀p∈X.pn++pins,p.1≠C)->(∃m,s4.heap.Ns C m)->Q (.ref D) H3->
   compPost (S? X.prog X.w) X.A X.xe use QQ (.ref D) C (.ok fl) s4):
  L? (S? X.prog X.w) X.A (comprehension (.ListComp elt [⟨tg,iter,ifs,0⟩] scope pos) scope X.env pos2 (newList []) false (eval iter X.env) use) QQ X.xe s:=by
 refine wpAny_comprehension_free (use:=use) rfl hs (S.clos I.ok) S.kind S.locs (B! (hi pins s σ H _ I h) (λxv s1 h1=>B! h1 (λitv s2 h2=>?_) λ_ _ e=>e) λ_ _ e=>e)
 obtain⟨it,fp,tn,J,H2,rfl,I2,T,st2,f2,hR⟩:=h2;obtain⟨W,⟨m0,w0⟩,turn⟩:=hR _ I2.fresh;refine wpAny_newObj_type (Dr S.cells S.push ?_)
 dsimp only
 generalize hP:s2.heap.push { cls:=.type "list",dict:=q?,data:=.seq ([]:List l?).toArray }=P2;generalize hh1:(P2.push { cls:=.type "dict",data:=.dict #[] }).push { cls:=.type "cell",data:=.cell q? }=h₁;have hC:P2.objs.size=s2.heap.objs.size+1:=by rw[<- hP,Heap.size_push]
 have hDC:s2.heap.objs.size≠P2.objs.size:=by rw[hC];exact Yq (Nat.lt_succ_self _)
 have tQ:s2.heap.objs.size<=P2.objs.size:=by rw[hC];exact W5 _
 have hcle:s2.heap.objs.size<=P2.objs.size+1:=Nat.le_succ_of_le tQ;have hDc:s2.heap.objs.size≠P2.objs.size+1:=by rw[hC];exact Yq (Nat.lt_succ_of_lt (Nat.lt_succ_self _))
 have wj:h₁.Ns P2.objs.size (λ_=>q?):=hh1 ▸ (Heap.Ns.new P2 (.type "dict")).keeps (λb o e=>Yh _ e)
 have hlt:∀b∈fp,b<s2.heap.objs.size:=λb hb=>let ⟨o,e,_⟩:=T.obj 0 _ st2 b hb;Yl e
 have old:∀b o,s2.heap.get? b=j? o->h₁.get? b=j? o:=λb o e=>hh1 ▸ Yh _ (Yh _ (hP ▸ Yh _ e))
 have UR:h₁.get? s2.heap.objs.size=j? { cls:=.type "list",dict:=q?,data:=.seq ([]:List l?).toArray }:=hh1 ▸ Yh _ (Yh _ (hP ▸ Yv _ rfl));have hc1:h₁.IsCell (P2.objs.size+1) q?:=by
  have:(P2.push { cls:=.type "dict",data:=.dict #[] }).objs.size=P2.objs.size+1:=Heap.size_push ..
  rw[<- this,<- hh1];exact⟨_,Yv _ rfl,rfl⟩
 have hok:=S.ok (C:=P2.objs.size) (c0:=P2.objs.size+1) I2 f2 hlt tQ hcle;have OJ:uM X.prog X.w (upd H2 s2.heap.objs.size (.lst [])) h₁:=I2.hok.laid old (Yd _) ⟨Y1 _,[],_,.nil,UR⟩;have US:Un (frs X.stack) fp H2 (upd H2 s2.heap.objs.size (.lst [])) s2.heap h₁:=Un.laid old (Yd _) I2.fresh;have C_:∀x c,((own,P2.objs.size+1)::aT X.env.cells scope.names []).lookup x=j? c->∃v,h₁.IsCell c v:=λx c hc=>by
  rcases wO hc with ⟨_,e2⟩|⟨_,e2⟩
  ·rw[e2];exact⟨_,hc1⟩
  ·obtain⟨v,o,ho,hd⟩:=I2.cell x c (bH.back e2)
   exact⟨v,o,old c o ho,hd⟩
 have Dc:∀x c,((own,P2.objs.size+1)::aT X.env.cells scope.names []).lookup x=j? c->upd H2 s2.heap.objs.size (.lst []) c=q?:=λx c hc=>by
  rcases wO hc with ⟨_,e2⟩|⟨_,e2⟩
  ·rw[e2,aO (Ne.symm hDc)]
   exact I2.hok.fresh hcle
  ·obtain⟨v,q⟩:=I2.cell x c (bH.back e2)
   rw[aO (Yq q.lt)];exact I2.fX x c (bH.back e2)
 have Dd:upd H2 s2.heap.objs.size (.lst []) P2.objs.size=q?:=by
  rw[aO (Ne.symm hDC)];exact I2.hok.fresh tQ
 have start:∀tk:Nat,Inv (dW X N scope own ((own,P2.objs.size+1)::aT X.env.cells scope.names []) P2.objs.size s2 H2 fp) [] (fM sl σ) (upd H2 s2.heap.objs.size (.lst [])) { s2 with heap:=h₁,toks:=tk }:=λtk=>by
  have J0:Inv (dW X N scope own ((own,P2.objs.size+1)::aT X.env.cells scope.names []) P2.objs.size s2 H2 fp) [] (Yi N.length q?) (upd H2 s2.heap.objs.size (.lst [])) { s2 with heap:=h₁,toks:=tk }:=
   ⟨hok,rfl,I2.bare,US,⟨_,wj,λi x v e1 e2 _=>by
    rw[Zi] at e2;split at e2 <;> cases e2⟩,C_,Dd,Dc,λp hp=>Jf (show p∈([]:List (o?×Obj)) from hp) (by simp),OJ,by simp⟩
  exact S.again I2 f2 J0
 have stK:tn 0 h₁:=T.keep _ _ _ st2 λb hb o e=>old b o e
 have UT:∀b∈fp,upd H2 s2.heap.objs.size (.lst []) b=q?:=λb hb=>by
  rw[aO (Yq (hlt b hb))];exact(f2 b hb).1
 have vZ:∀ {H':Hp},(∀b∈fp,H' b=q?)->∀b∈fp,jZ (dW X N scope own ((own,P2.objs.size+1)::aT X.env.cells scope.names []) P2.objs.size s2 H2 fp) [] H' b:=λhn b hb=>
  ⟨hn b hb,Yq (Yj (hlt b hb) tQ),λz=>hok.vW b hb z,.inl hb,λx c hc=>(hok.Lr b hb).2 x c hc,λp hp=>Jf (show p∈([]:List (o?×Obj)) from hp) (by simp)⟩
 have loop:∀tk:Nat,codeAny (S? X.prog X.w) X.A (.compLoop (.ListComp elt [⟨tg,iter,ifs,0⟩] scope pos) 0 (.ref it) (.ref s2.heap.objs.size) (compEnvC scope ((own,P2.objs.size+1)::aT X.env.cells scope.names []) P2.objs.size X.env))
   (compPost (S? X.prog X.w) X.A X.xe use QQ (.ref s2.heap.objs.size) P2.objs.size) { s2 with heap:=h₁,toks:=tk }:=λtk=>by
  refine codeAny_loop rfl (λn s'=>∃i H',Inv (dW X N scope own ((own,P2.objs.size+1)::aT X.env.cells scope.names []) P2.objs.size s2 H2 fp) [] (fM sl σ) H' s'/\tn i s'.heap/\(∀b∈fp,H' b=q?)/\W i n H') ?_ m0 ⟨0,_,start tk,stK,UT,w0⟩
  rintro n s3 ⟨i,H3,I3,st3,Nb,w3⟩;show L? _ X.A ((compTurn (.ListComp elt [⟨tg,iter,ifs,0⟩] scope pos) 0 (.ref it) (.ref s2.heap.objs.size) (compEnvC scope ((own,P2.objs.size+1)::aT X.env.cells scope.names []) P2.objs.size X.env)).onRaise (λx=>do noteFrame x (compEnvC scope ((own,P2.objs.size+1)::aT X.env.cells scope.names []) P2.objs.size X.env);theTreesLotGoes x)) _ _ s3
  refine wpAny_noted ?_
  rw[compTurn_list];rcases turn i n H3 w3 with ⟨stop,qn⟩|⟨go,step⟩
  ·refine B? (wpAny_standAt (B? (B! (T.done (dW X N scope own ((own,P2.objs.size+1)::aT X.env.cells scope.names []) P2.objs.size s2 H2 fp) rfl rfl rfl k_ i [] s3 _ H3 _ I3 (vZ Nb) st3 stop) (λr s4 ⟨hr,I4⟩=>?_) λ_ _ z=>z)))
   subst hr;refine J? ?_
   obtain⟨m4,UU,_⟩:=I4.loc;have u0:Un (frs X.stack) fp H2 H3 s2.heap s4.heap:=I4.base;have hI:Inv X pins σ H3 s4:=I2.EH (s':=s4) (ch:=fp) I4.os u0 I4.hok I4.bare λb hb=>⟨(f2 b hb).2.2.2.1,(f2 b hb).2.1,(f2 b hb).2.2.2.2.1,(f2 b hb).2.2.2.2.2⟩
   have LR:=I2.u7 (H':=H3) tQ I4.free;exact hend _ _ H3 s4 _ hI I4.free LR.2.1 LR.2.2.1 (Yn I2.sz tQ) LR.2.2.2.2.1 LR.2.2.2.2.2 ⟨m4,UU⟩ qn
  ·refine B? (wpAny_standAt (B? (B! (T.item (dW X N scope own ((own,P2.objs.size+1)::aT X.env.cells scope.names []) P2.objs.size s2 H2 fp) rfl rfl rfl k_ i [] s3 _ H3 (λ_ _=>False) I3 (vZ Nb) st3 go) (λr s4 ⟨u,hr,h4⟩=>?_) λ_ _ z=>z.elim)))
   subst hr;refine B? (B! h4 (λ_ s5 ⟨x,H5,I5,r5,y5,Hw,RB⟩=>?_) λ_ _ z=>z.elim)
   have RC:=I5.pinned (vZ RB) (T.obj _ _ Hw);refine B? (B! (hg _ _ _ _ _ _ s5 _ H5 x u _ RC r5 (step x H5 y5)) (λ_ s6 ⟨σ6,H6,I6,q6⟩=>?_) λ_ _ z=>(show False from z).elim)
   have again:∀ {σ7:St} {H7:Hp} {s7:u?},Inv (dW X N scope own ((own,P2.objs.size+1)::aT X.env.cells scope.names []) P2.objs.size s2 H2 fp) ([]++tN fp s5.heap) σ7 H7 s7->(∃m',m'<n/\W (i+1) m' H7)->
     ∃m',m'<n/\∃i H',Inv (dW X N scope own ((own,P2.objs.size+1)::aT X.env.cells scope.names []) P2.objs.size s2 H2 fp) [] (fM sl σ) H' s7/\tn i s7.heap/\(∀b∈fp,H' b=q?)/\W i m' H':=λ{σ7 H7 s7} I7 ⟨m',hm,w7⟩=>by
    refine⟨m',hm,i+1,H7,S.again I2 f2 I7.kX,T.keep _ _ _ Hw λb hb o e=>(I7.pin (b,o) (Yu _ (Yu _ (fm hb e)))).1,λb hb=>?_,w7⟩
    obtain⟨o,e,d⟩:=T.obj _ _ Hw b hb;exact(I7.pin (b,o) (Yu _ (Yu _ (fm hb e)))).2.1
   refine B? (B! (hif _ _ _ _ _ _ s6 σ6 H6 _ I6 q6) (λok s7 ⟨H7,I7,q7⟩=>?_) λ_ _ z=>(show False from z).elim)
   cases ok with
   | false=>
    exact J? ⟨rfl,again I7 (by simpa using q7)⟩
   | true=>
    rw[W9 rfl] at q7;refine B? (B? (B! ((he _ _ _ _ _).out _ s7 σ6 H7 _ I7 q7) (λy s8 ⟨yv,H8,I8,r8,ys,hys,hlen,w8⟩=>?_) λ_ _ z=>(show False from z).elim))
    refine B? (B! (dO (X:=dW X N scope own ((own,P2.objs.size+1)::aT X.env.cells scope.names []) P2.objs.size s2 H2 fp) _ s8 σ6 H8 (.ref s2.heap.objs.size) [yv] (.ref s2.heap.objs.size) [y]
     (λv H9=>v=.eZ/\∃m',m'<n/\W (i+1) m' H9) I8 rfl (.cons r8 .nil) ⟨_,ys,yv,rfl,rfl,hys,hlen,rfl,w8⟩) (λr s9 ⟨v9,H9,I9,r9,e9,w9⟩=>?_) λ_ _ z=>(show False from z).elim)
    exact J? (J? ⟨rfl,again I9 w9⟩)
 exact codeAny_compStart_list (loop _) (T.self _ 0 _ _ _ stK (loop _))
theorem sF {elt tg iter:Expr}{ifs:List Expr}{pos:Pos}{wi:TI}{g:TG}{pQ:TT}{te:TE}(S:cN X N sl scope own)(k_:X.calm=true)(hi:PI X tg iter wi)
  (hg:∀cl C s2 H2 fp,PG (dW X N scope own cl C s2 H2 fp) tg g) (hif:∀cl C s2 H2 fp,Ng (dW X N scope own cl C s2 H2 fp) ifs pQ) (he:∀cl C s2 H2 fp,PE (dW X N scope own cl C s2 H2 fp) elt te)
  (hs:∀x,foldedSetIterable iter X.env x=pure x:=by intro _;rfl):
  PE X (.ListComp elt [⟨tg,iter,ifs,0⟩] scope pos) (yQ wi sl g pQ te):=by
 refine⟨?_⟩
 intro pins s σ H Q I h;rw[eval_ListComp];refine zb S k_ hi hg hif he hs I h λD C H3 s4 fl I4 n1 n2 n3 n4 n5 n6 ⟨m,hn⟩ q=>?_
 exact⟨m,hn,λh' Lg=>⟨.ref D,H3,I4.turned (t':=s4.toks) (λb o hb e=>(Lg.2 b hb).trans e) n1 n2 (.inr n4) n5 n6,rfl,q⟩⟩
end
def nQ (scope EV:Scope):Scope:=
 { scope with names:=scope.names.map λ(n,k)=>if (k == .free && EV.kind == .function && EV.names.lookup n == j? .cell) then (n,.cell) else (n,k) }
theorem Bx {own:Str}:∀ {names:List (Str×NameKind)},(names.filter λy=>decide (y.2=.cell))=[(own,.cell)]->(∀n acc,cellsFrom n names acc=(own,n)::acc)/\∀h,pushCells h names=h.push { cls:=.type "cell",data:=.cell q? }
 | [],h=>by simp at h
 | (x,k)::r,h=>by
  by_cases c:k=.cell
  ·subst c
   rw[List.filter_cons_of_pos (by simp)] at h
   have h1:x=own:=Jd Prod.fst (List.cons.inj h).1;have h2:(r.filter λy=>decide (y.2=.cell))=[]:=(List.cons.inj h).2
   have q?:∀(l:List (Str×NameKind)),(l.filter λy=>decide (y.2=.cell))=[]->(∀n acc,cellsFrom n l acc=acc)/\∀h,pushCells h l=h:=by
    intro l;induction l with
    | nil=>intro _;exact⟨λ_ _=>rfl,λ_=>rfl⟩
    | cons y l ih=>
     intro hl;obtain⟨y1,y2⟩:=y;have hy:y2≠.cell:=λz=>by
      rw[List.filter_cons_of_pos (by simpa using z)] at hl
      cases hl
     rw[List.filter_cons_of_neg (by simpa using hy)] at hl
     obtain⟨i1,i2⟩:=ih hl;have hb:(y2 == L!)=false:=by simpa using hy
     refine⟨λn acc=>?_,λh=>?_⟩
     ·unfold cellsFrom;rw[hb];exact i1 n acc
     ·unfold pushCells;rw[hb];exact i2 h
   obtain⟨n1,n2⟩:=q? r h2;subst h1;refine⟨λn acc=>?_,λh=>?_⟩
   ·unfold cellsFrom;exact n1 _ _
   ·unfold pushCells;exact n2 _
  ·rw[List.filter_cons_of_neg (by simpa using c)] at h
   obtain⟨i1,i2⟩:=Bx h;have hb:(k == L!)=false:=by simpa using c
   refine⟨λn acc=>?_,λh=>?_⟩
   ·unfold cellsFrom;rw[hb];exact i1 n acc
   ·unfold pushCells;rw[hb];exact i2 h
def E6 (EV:Scope)(ON N:List Str)(sl:List (Option Nat))(scope:Scope)(own:Str):Bool:=
 decide (scope.kind=.function) && decide ((scope.names.filter λy=>decide (y.2=.cell))=[(own,.cell)]) && decide (scope.names.lookup own=j? .cell) && scope.names.all (λy=>decide (y.2=.local->scope.names.lookup y.1=j? .local)) &&
 scope.names.all (λy=>decide (y.2=.free->EV.names.lookup y.1=j? .cell\/EV.names.lookup y.1=j? .free)) && decide (sl.length=N.length) &&
 (Ym N.length).all λj=>match N[j]?,sl[j]? with
  | some x,j? (j? i)=>decide (ON[i]?=j? x/\scope.names.lookup x=j? .free)
  | _,_=>true
theorem f9 {X:Cx}{N:List Str}{sl:List (Option Nat)}{scope:Scope}(own:Str)(EV:Scope)(ON:List Str)(h1:X.env.scope=EV)(h2:X.N=ON)(hb:E6 EV ON N sl scope own=true):cN X N sl scope own:=by
 unfold E6 at hb;simp only[T?,decide_eq_true_eq,Wc] at hb
 obtain⟨⟨⟨⟨⟨⟨b1,b2⟩,b2'⟩,b3⟩,b4⟩,b5⟩,b6⟩:=hb;obtain⟨o1,o2⟩:=Bx b2;refine⟨b1,o1,o2,λx hx=>?_,b2',b3,λy hy hf=>?_,b5,λj i x e1 e2=>?_⟩
 ·have:(x,L!)∈(scope.names.filter λy=>decide (y.2=.cell)):=List.mem_filter.mpr ⟨U? hx,by simp⟩
  rw[b2] at this;exact Jd Prod.fst (List.mem_singleton.mp this)
 ·have:=b4 y hy hf
  show X.env.scope.names.lookup y.1=_\/X.env.scope.names.lookup y.1=_
  rw[h1];exact this
 ·have hj:j<N.length:=(List.getElem?_eq_some_iff.mp e1).1
  have:=b6 j (List.mem_range.mpr hj)
  rw[e1,e2] at this;have q:=Jb this;rw[h2];exact q
def zZ:Q?->Scope
 | .Return (j? (.ListComp _ _ sc _)) _=>sc
 | .Assign _ (.ListComp _ _ sc _) _=>sc
 | _=>default
end L2
namespace L2
open PySem PySem.Spec PySem.W PyProof.Rows
section
variable {X:Cx} {N:List Str} {sl:List (Option Nat)} {scope:Scope} {own:Str}
theorem Io {i:Nat}{x:Str}{elt tg iter:Expr}{ifs:List Expr}{cpos pos pos':Pos}{wi:TI}{g:TG}{pQ:TT}{te:TE}(hN:X.N.Nodup)(hi':X.N[i]?=j? x)(hx:Loc X.env.scope x)(S:cN X N sl scope own)(k_:X.calm=true)(hi:PI X tg iter wi)
  (hg:∀cl C s2 H2 fp,PG (dW X N scope own cl C s2 H2 fp) tg g) (hif:∀cl C s2 H2 fp,Ng (dW X N scope own cl C s2 H2 fp) ifs pQ) (he:∀cl C s2 H2 fp,PE (dW X N scope own cl C s2 H2 fp) elt te)
  (hsw:swapsWith (.ListComp elt [⟨tg,iter,ifs,0⟩] scope cpos) (j? (.Name x pos')) pos.line X.env=pure true:=by rfl)
  (hs:∀x,foldedSetIterable iter X.env x=pure x:=by intro _;rfl) (hf:X.fn x=true\/X.env.scope.names.lookup x=j? .local:=by first|exact .inl rfl|exact .inr rfl|assumption):
  PS X (.Assign [.Name x pos'] (.ListComp elt [⟨tg,iter,ifs,0⟩] scope cpos) pos) (Lw (yQ wi sl g pQ te) (ig i)):=by
 refine⟨?_⟩
 intro pins s σ H D0 I h;rw[exec_Assign_Name_used _ _ _ _ hsw];refine B? (wpAny_standAt (B? ?_))
 show L? _ X.A (do let _ <- comprehension (.ListComp elt [⟨tg,iter,ifs,0⟩] scope cpos) scope X.env _ (newList []) false (eval iter X.env) (j? (assign (.Name x pos') X.env))) _ _ s
 refine B? (B! (zb (QQ:=λ_ s'=>∃σ' H',Inv X pins σ' H' s'/\D0.nx σ' H') (use:=j? (assign (.Name x pos') X.env)) S k_ hi hg hif he hs I h λD C H3 s4 fl I4 n1 n2 n3 n4 n5 n6 hm q=>?_)
  (λ_ s' hq=>J? (J? hq)) λ_ _ e=>e)
 obtain⟨m,hn⟩:=hm;show L? _ X.A (assign (.Name x pos') X.env (.ref D)) _ _ _
 refine wpAny_assign_Name (tK I4 hN hi' hx (show RelV (.ref D) (.ref D) from rfl) (λs5 I5 ⟨a,Lg,ha⟩=>?_) hf)
 have UW:C≠a:=by
  rcases ha with rfl|ha
  ·exact n2
  ·exact λz=>n5 _ _ ha z.symm
 refine⟨m,hn.sameBut Lg UW,λh' OL=>⟨_,H3,I5.turned (t':=s5.toks) (λb o hb e=>(OL.2 b hb).trans e) n1 n2 (.inr n4) n5 n6,q⟩⟩
end
end L2
set_option maxHeartbeats 1000000
namespace L2
open PySem PySem.Spec PyProof.Rows
open AutoSeq1 (wpAny_loadPart')
end L2
namespace L2
open PySem PySem.Spec PyProof.Rows
def z6 (a:o?)(h:O?):Prop:=∃o vs,h.get? a=j? o/\o.data=.fields vs/\vs[2]?=j? Value.none
def Ir (f:Obj->Obj):Prop:=∀o vs,o.data=.fields vs->vs[2]?=j? Value.none->∃vs',(f o).data=.fields vs'/\vs'[2]?=j? Value.none
def Kp {α:Type}:Sem α->Prop
 | .pure _=>True
 | .raise _=>True
 | .unsupported _=>True
 | .finish _=>True
 | .rule _ k=>Kp (k ())
 | .at _ k=>Kp (k ())
 | .load _ _ k=>∀o,Kp (k o)
 | .update _ _ f k=>Ir f/\Kp (k ())
 | .loadIfAlive _ k=>∀o,Kp (k o)
 | .point _ k=>Kp (k ())
 | .alloc _ k=>∀a,Kp (k a)
 | .fresh k=>∀t,Kp (k t)
 | .handled _ k=>∀x,Kp (k x)
 | .stack k=>∀x,Kp (k x)
 | _=>False
theorem z6.push {a:o?}{h:O?}(x:z6 a h)(o:Obj):z6 a (h.push o):=by
 obtain⟨o',vs,e,r⟩:=x;exact⟨o',vs,Yh o e,r⟩
theorem z6.update {a b:o?}{h:O?}{f:Obj->Obj}(x:z6 a h)(hf:Ir f):z6 a (h.update b f):=by
 obtain⟨o,vs,e,d,r⟩:=x;by_cases c:b=a
 ·subst c
  obtain⟨vs',d',r'⟩:=hf o vs d r;exact⟨f o,vs',Heap.get?_update_self f e (Obj.isFreed_of_fields d'),d',r'⟩
 ·exact⟨o,vs,(Heap.get?_update_other _ _ c).trans e,d,r⟩
section
variable {α β:Type} {M:Model} {a:o?}
theorem Ma {Γ:PySem.Ctx}(t:Sem α):Kp t->∀ {Q:α->Pos->u?->Prop} {E:l?->Pos->u?->Prop} {p:Pos} {s:u?},z6 a s.heap->Sem.wp M Γ t Q E p s->
  Sem.wp M Γ t (λx p' s'=>Q x p' s'/\z6 a s'.heap) (λx p' s'=>E x p' s'/\z6 a s'.heap) p s:=by
 induction t with
 | pure x=>intro _ Q E p s c h;simp only[Sem.wp_pure] at h ⊢;exact⟨h,c⟩
 | raise x=>intro _ Q E p s c h;simp only[Sem.wp_raise] at h ⊢;exact⟨h,c⟩
 | unsupported x=>intro _ Q E p s c h;simp only[Sem.wp_unsupported] at h
 | finish x=>intro _ Q E p s c h;simp only[Sem.wp_finish] at h
 | rule x k ih=>intro hk Q E p s c h;simp only[Sem.wp_rule] at h ⊢;exact ih _ hk c h
 | «at» x k ih=>intro hk Q E p s c h;simp only[Sem.wp_at] at h ⊢;exact ih _ hk c h
 | load x y k ih=>intro hk Q E p s c h;rw[Sem.wp_load] at h ⊢;obtain⟨o,ho,h⟩:=h;exact⟨o,ho,ih o (hk o) c h⟩
 | update x y f k ih=>intro hk Q E p s c h;rw[Sem.wp_update] at h ⊢;exact⟨h.1,ih _ hk.2 (c.update hk.1) h.2⟩
 | loadIfAlive x k ih=>intro hk Q E p s c h;simp only[Sem.wp_loadIfAlive] at h ⊢;exact ih _ (hk _) c h
 | point x k ih=>intro hk Q E p s c h;simp only[Sem.wp_point] at h ⊢;exact ih _ hk c h
 | alloc x k ih=>intro hk Q E p s c h;simp only[Sem.wp_alloc] at h ⊢;exact ih _ (hk _) (c.push _) h
 | fresh k ih=>intro hk Q E p s c h;simp only[Sem.wp_fresh] at h ⊢;exact ih _ (hk _) c h
 | handled o k ih=>intro hk Q E p s c h;rw[Sem.wp] at h ⊢;exact ih _ (hk _) c h
 | stack k ih=>intro hk Q E p s c h;rw[Sem.wp] at h ⊢;exact ih _ (hk _) c h
 | register=>intro hk;exact N! hk
 | ask=>intro hk;exact N! hk
 | choose=>intro hk;exact N! hk
 | os=>intro hk;exact N! hk
 | call=>intro hk;exact N! hk
 | newGen=>intro hk;exact N! hk
 | genState=>intro hk;exact N! hk
 | resume=>intro hk;exact N! hk
 | yield=>intro hk;exact N! hk
 | fork=>intro hk;exact N! hk
 | thread=>intro hk;exact N! hk
 | await=>intro hk;exact N! hk
theorem nR {A:A!}{t:Sem α}(hk:Kp t){Q:α->u?->Prop}{E:l?->u?->Prop}{s:u?}(c:z6 a s.heap)(h:L? M A t Q E s):
  L? M A t (λx s'=>Q x s'/\z6 a s'.heap) (λx s'=>E x s'/\z6 a s'.heap) s:=λΓ p hΓ=>Ma t hk c (h Γ p hΓ)
theorem Kp.bind {t:Sem α}{f:α->Sem β}(ht:Kp t)(hf:∀x,Kp (f x)):Kp (t >>= f):=by
 show Kp (t.bind f)
 induction t with
 | pure x=>exact hf x
 | raise x=>trivial
 | unsupported x=>trivial
 | finish x=>trivial
 | rule x k ih=>exact ih _ ht
 | «at» x k ih=>exact ih _ ht
 | load x y k ih=>exact λo=>ih o (ht o)
 | update x y g k ih=>exact⟨ht.1,ih _ ht.2⟩
 | loadIfAlive x k ih=>exact λo=>ih o (ht o)
 | point x k ih=>exact ih _ ht
 | alloc x k ih=>exact λo=>ih o (ht o)
 | fresh k ih=>exact λo=>ih o (ht o)
 | handled o k ih=>exact λo=>ih o (ht o)
 | stack k ih=>exact λo=>ih o (ht o)
 | _=>exact N! ht
theorem z7 (b:o?):Kp (load b):=λ_=>trivial
theorem wQ:Kp stack:=λ_=>trivial
theorem zd (b:o?){f:Obj->Obj}(h:Ir f):Kp (update b f):=⟨h,trivial⟩
theorem By (v:l?):Kp (fieldsOf v):=by
 unfold fieldsOf;cases v <;> first|trivial|skip
 refine(z7 _).bind λo=>?_
 split <;> trivial
theorem sG (v:l?)(i:Nat):Kp (field v i):=by
 unfold field;refine(By v).bind λo=>?_
 split <;> trivial
theorem wR {i:Nat}(v:l?)(h:i≠2):Ir (Obj.mapFields (·.setIfInBounds i v)):=λo vs d r=>⟨_,Obj.data_mapFields d _,by rw[Array.getElem?_setIfInBounds_ne h];exact r⟩
theorem nT (v:l?){i:Nat}(x:l?)(h:i≠2):Kp (setField v i x):=by
 unfold setField;cases v <;> first|trivial|skip
 show Kp (updateField _ i x)
 unfold updateField;refine(z7 _).bind λo=>?_
 split
 ·split
  ·exact zd _ (wR x h)
  ·trivial
 ·trivial
theorem mw (v:l?)(f:Option o?):Kp (setFlight v f):=by
 unfold setFlight;refine(sG _ _).bind λo=>?_
 split
 ·exact nT _ _ (by decide)
 ·trivial
theorem BA:∀l:List Env,Kp (readyFrames l)
 | []=>trivial
 | env::outer=>by
  unfold readyFrames;cases env.frame with
  | none=>trivial
  | some f=>
   refine(z7 _).bind λo=>?_
   split
   ·trivial
   ·refine Kp.bind ?_ λb=>Kp.bind ?_ λv=>Kp.bind (zd _ λo vs d r=>⟨vs,d,r⟩) λ_=>BA outer
    ·unfold behindIsImport
     split
     ·trivial
     ·split
      ·trivial
      ·exact(sG _ _).bind λ_=>trivial
    ·unfold keptBack
     cases outer with
     | nil=>
      dsimp only
      split
      ·trivial
      ·refine Kp.bind ?_ λ_=>?_
       ·unfold underTheClaimsCaller
        exact wQ.bind λ_=>trivial
       ·split <;> trivial
     | cons=>trivial
theorem Ds (env:Env):Kp (PySem.frameOf env):=by
 unfold PySem.frameOf;refine Kp.bind ?_ λl=>?_
 ·unfold frameEnvs
  exact wQ.bind λ_=>trivial
 ·refine Kp.bind ?_ λx=>?_
  ·unfold frameObject
   split
   ·trivial
   ·exact(BA _).bind λ_=>trivial
  ·split <;> trivial
theorem Iu (f:o?)(b:Bool):Kp (entryPlaceOf f b):=by
 unfold entryPlaceOf;refine wQ.bind λx=>?_
 split <;> trivial
theorem Iv (a b c d e:l?)(l:List l?):Kp (EntryCells.newEntry a b c d e l):=by
 unfold EntryCells.newEntry newFields newObj;generalize ([a,b,c,d,e]++(if l.isEmpty=true then Yi 6 Value.none else l)).toArray=X
 dsimp only
 split
 ·trivial
 ·unfold newObjAsIs
  exact λ_=>trivial
theorem E7 (e:l?)(env:Env):Kp (noteFrame e env):=by
 unfold noteFrame;cases env.frame with
 | none=>trivial
 | some f=>
  refine(sG _ _).bind λh=>?_
  have z:Kp (do setField e 1 (<- EntryCells.newEntry h (<- PySem.frameOf env) .none (rawInt f) .none (<- entryPlaceOf f (h != .none)))):=
   (Ds env).bind λ_=>(Iu _ _).bind λ_=>(Iv _ _ _ _ _ _).bind λ_=>nT _ _ (by decide)
  split
  ·refine(sG _ _).bind λ_=>?_
   split
   ·trivial
   ·exact(nT _ _ (by decide)).bind λ_=>z
  ·exact z
theorem wU (e:l?)(env:Env):Kp (leaving env e):=(E7 e env).bind λ_=>mw _ _
end
theorem yg:entryFor table "proto.unchain"=j? Builtin.«proto.unchain»:=entryFor_of_fast (by kernel_rfl)
section
variable {prog:F?} {w:H?} {A:A!} {E:l?->u?->Prop} {s:u?} {ea:o?}
theorem Gk {it l:o?}{i:Nat}{items}{Q:Option l?->u?->Prop}(hh:A.handled=j? (.ref ea))(hx0:z6 ea s.heap)(hne:ea≠it)
  (hit:s.heap.IsListIter it l i) (hl:s.heap.IsList l items) (hx:items[i]?=q?)
  (hQ:∀h',Heap.ExtBut it s.heap h'->Q q? { s with heap:=h' }):L? (S? prog w) A (pyNext (.ref it)) Q E s:=by
 obtain⟨o,ho,hc,hd⟩:=id hit;obtain⟨ol,hol,_,nl,hdl⟩:=hl;unfold pyNext;refine B? (wpAny_attempt (wpAny_callSpecial?_slot (name:=J! "__next__") hit.typeIs slot_listiter_next
  (wpAny_call_entry slot_listiter_next hit.typeIs entry_listiter_next ?_ (args_listiter_next _))))
 show L? _ _ (field (.ref it) 0 >>= _) _ _ s
 refine B? (wpAny_field ho hd (x:=.ref l) rfl ?_)
 show L? _ _ (if (I! l == Value.none)=true then _ else _) _ _ s
 rw[W8 (show ¬ ((I! l == Value.none)=true) from E?)]
 show L? _ _ (field (.ref it) 1 >>= _) _ _ s
 refine B? (wpAny_field ho hd (x:=.int i 0) rfl ?_)
 show L? _ _ (seqItems? (.ref l) >>= _) _ _ s
 refine B? (wpAny_seqItems hol hdl ?_)
 simp only[Yf,hx]
 refine B? (wpAny_rule (B? (wpAny_setField ho hd (by simp) ?_)))
 show L? _ _ (newExc (.type "StopIteration") [] >>= _) _ _ _
 refine B? ?_
 simp only[newExc,newTuple]
 refine B? (wpAny_newObj_type ?_ (by size_fits))
 refine B? (m:=firstArgMember _ _) (wpAny_of_eq (a:=Value.none) (by first|rfl|(simp only[firstArgMember];rfl)) ?_)
 refine wpAny_newObj_type ?_ (by size_fits)
 simp only[raiseNew]
 refine B? (wpAny_handled ?_)
 rw[show A.in1.handled=j? (.ref ea) from hh]
 have hU:Ir (Obj.mapFields λx=>x.setIfInBounds 0 Value.none):=wR (i:=0) Value.none (by decide)
 have hs1:Heap.SameBut it s.heap (s.heap.update it (Obj.mapFields λx=>x.setIfInBounds 0 Value.none)):=Heap.SameBut.update ..
 have c1:=hx0.update (b:=it) hU;generalize s.heap.update it (Obj.mapFields λx=>x.setIfInBounds 0 Value.none)=H1 at hs1 c1 ⊢
 have c2:=c1.push { cls:=Value.type "tuple",data:=Data.seq #[] };have x2:=hs1.extBut.push { cls:=Value.type "tuple",data:=Data.seq #[] };generalize hH2:H1.push { cls:=Value.type "tuple",data:=Data.seq #[] }=H2 at c2 x2 ⊢;have lt:ea<H2.objs.size:=by obtain⟨_,_,e,_⟩:=c2;exact Yl e
 have e3:=Yv H2 (o:={ cls:=Value.type "StopIteration",data:=Data.fields (#[I! H1.objs.size,Value.none,Value.none,Value.none,Value.bool false,Value.none]++ownMembersOf (Value.type "StopIteration") []) }) rfl;obtain⟨oe,vs,he,hde,h2⟩:=c2.push { cls:=Value.type "StopIteration",data:=Data.fields (#[I! H1.objs.size,Value.none,Value.none,Value.none,Value.bool false,Value.none]++ownMembersOf (Value.type "StopIteration") []) };show L? _ _ (if (I! ea != I! H2.objs.size)=true then _ else _) _ _ _
 rw[W9 (show(I! ea != I! H2.objs.size)=true from bne_iff_ne.mpr λz=>Yq lt (Value.ref.inj z))]
 refine B? (wpAny_holding (wpAny_runValue (codeAny_builtin yg ?_)))
 refine B? (wpAny_field he hde h2 ?_)
 refine J? ?_
 refine B? (show L? _ _ (setField (.ref H2.objs.size) 2 (.ref ea)) _ _ _ from wpAny_setField e3 rfl (by rw[Array.size_append];exact Yj (show 2<6 by decide) (Wj 6 _)) ?_)
 refine wpAny_throw ?_
 refine B? (wpAny_isInstance (T:="StopIteration") (b:=true) ⟨_,Heap.get?_update_self _ e3 rfl,rfl⟩ isSubtype_stop ?_)
 refine J? (hQ _ λb o' hb e=>?_)
 have:=x2.push { cls:=Value.type "StopIteration",data:=Data.fields (#[I! H1.objs.size,Value.none,Value.none,Value.none,Value.bool false,Value.none]++ownMembersOf (Value.type "StopIteration") []) } b o' hb e
 refine(Heap.get?_update_other _ _ ?_).trans this
 exact Nat.ne_of_gt (Yl (x2 b o' hb e))
theorem O3 (hh:A.handled=j? (.ref ea))(I ax:o?)(hne:ax≠I)(RZ:ea≠I)(items:Array l?):
  Walks prog w A I [I,ax,ea] [I] items.size (λi v=>items[i]?=j? v) (λi h=>h.IsListIter I ax i/\h.IsList ax items/\z6 ea h) where
 sub:=λb hb=>by simp at hb;simp[hb]
 frame:=λ_ _ _ st hk=>⟨st.1.at λo e=>hk I (by simp) o e,st.2.1.at λo e=>hk ax (by simp) o e,let ⟨o,vs,e,r⟩:=st.2.2;⟨o,vs,hk ea (by simp) o e,r⟩⟩
 item:=λi s Q E hi st hQ=>by
  refine wpAny_pyNext_list_item st.1 st.2.1 (x:=items[i]) (by simp[hi]) λh' LS hs'=>?_
  exact hQ _ h' s.toks (by simp[hi]) ⟨LS,st.2.1.extBut hs'.extBut hne,let ⟨o,vs,e,r⟩:=st.2.2;⟨o,vs,hs'.extBut ea o RZ e,r⟩⟩ λb o hb e=>hs'.extBut b o (λh=>hb (by simp[h])) e
 done:=λs Q E st hQ=>Gk hh st.2.2 RZ st.1 st.2.1 (by simp) λh' he'=>hQ h' s.toks λb o hb e=>he' b o (λh=>hb (by simp[h])) e
 self:=λ_ _ _ _ st hQ=>wpAny_pyIter_listiter st.1 hQ
end
section
variable {P:F?} {w:H?} {H H':Hp} {h h':O?} {a:o?} {o:HO}
theorem iU.here (x:iU P w H h a o):∃u,h.get? a=j? u:=by
 induction o with
 | lst xs=>obtain⟨_,_,_,_,e⟩:=x;exact⟨_,e⟩
 | tup xs=>obtain⟨_,_,_,ob,e,_⟩:=x;exact⟨_,e⟩
 | dK kvs=>obtain⟨_,_,_,_,o,_,_,e,_⟩:=x;exact⟨_,e⟩
 | dT kvs=>obtain⟨_,_,_,_,o,_,_,e,_⟩:=x;exact⟨_,e⟩
 | set S n=>obtain⟨o,_,_,_,e,_⟩:=x;exact⟨_,e⟩
 | ins C dx fs=>obtain⟨_,_,_,e,_⟩:=x;exact⟨_,e⟩
 | own y=>obtain⟨_,e⟩:=x;exact⟨_,e⟩
 | xd fs=>obtain⟨_,⟨_,_,_,e,_⟩,_⟩:=x;exact⟨_,e⟩
 | oV lo hi=>obtain⟨_,_,_,e⟩:=x;exact⟨_,e⟩
 | Ho ob u ih=>obtain⟨e,_⟩:=x;exact⟨_,e⟩
 | vU ps=>exact⟨_,(show h.get? a=j? _ from x)⟩
 | met f y=>exact⟨_,(show h.get? a=j? _ from x)⟩
 | ext φ=>obtain⟨_,⟨_,e⟩,_⟩:=x;exact⟨_,e⟩
end
structure Out (P:F?)(w:H?)(outer:List Env)(H:Hp)(s:u?)(C ea:o?)(H':Hp)(s':u?):Prop where
 os:s'.os=s.os
 bare:AllBare s'.gens
 un:Un (frs outer) [] H H' s.heap s'.heap
 hok:uM P w H' s'.heap
 free:H' ea=q?
 Xs:z6 ea s'.heap
 Xu:∃(B:O?) (t:o?),Wt B outer ea (.ref C) (.ref t) s'.heap/\∀b o,s'.heap.get? b=j? o->((∃u,s.heap.get? b=j? u)\/H' b≠q?)->b ∉ frs outer->B.get? b=j? o
def Hl (P:F?)(w:H?):F1:=λouter H s E e s'=>∃ea C H',e=.ref ea/\Out P w outer H s C ea H' s'/\E e (j? C) H'
section
variable {X:Cx} {pins:List (o?×Obj)} {σ:St} {H1 H':Hp} {s1 s2:u?} {C ea:o?}
theorem Inv.Np (J:Inv X pins σ H' s2)(stk:X.stack=X.env::X.outer)(hf:X.env.frame=j? X.env.locals)(hex:X.ex=[]){h3:O?}{B:O?}{t:o?}(he:H' ea=q?)(cx:z6 ea h3)(fl:Wt B X.outer ea (.ref C) (.ref t) h3)
  (hB:∀b o,s2.heap.get? b=j? o->((∃u,X.s₀.heap.get? b=j? u)\/H' b≠q?)->b ∉ frs X.stack->B.get? b=j? o) (ups:s2.heap.UpToSlots h3):Out X.prog X.w X.outer X.H₀ X.s₀ C ea H' { s2 with heap:=h3 }:=by
 have hL:∀b,((∃u,X.s₀.heap.get? b=j? u)\/H' b≠q?)->b≠X.env.locals:=λb hc z=>by
  rcases hc with ⟨u,h⟩|h
  ·have:=Yj (Yl h) J.ok.above
   rw[z] at this;exact Jf this (Zz _)
  ·rw[z] at h
   exact h J.free
 have hns:∀b,((∃u,X.s₀.heap.get? b=j? u)\/H' b≠q?)->b ∉ frs X.outer->b ∉ frs X.stack:=λb hc hn hm=>by
  rcases List.mem_cons.mp (J.tH b hm) with e|e
  ·exact hL b hc e
  ·exact hn e
 have keep:∀b u,s2.heap.get? b=j? u->((∃u,X.s₀.heap.get? b=j? u)\/H' b≠q?)->b ∉ frs X.outer->h3.get? b=j? u:=λb u hb hc hn=>fl.1 _ _ (hB b u hb hc (hns b hc hn))
 have U:=J.base;rw[hex] at U;have slot:∀b o,X.s₀.heap.get? b=j? o->X.H₀ b=q?->b∈frs X.outer->∃sl,h3.get? b=j? { o with slots:=sl }:=λb o e n hb=>by
  obtain⟨sl,h2⟩:=U.slot b o e n hb (by simp)
  obtain⟨_,o',ho',hd⟩:=J.ok.kU.mem hb;rw[e] at ho';cases ho';obtain⟨Lu,h4⟩:=ups b _ h2 hd;exact⟨Lu,h4⟩
 refine⟨J.os,J.bare,⟨λb o e n hb hx=>keep b o (U.keep b o e n hb hx) (.inl ⟨_,e⟩) hb,λb o e n hb hx=>slot b o e n hb,λb o e n hx=>U.free b o e n hx,λb o e hx=>?_,U.tups,U.uY,U.uZ⟩,λa o ha=>?_,he,cx,B,t,fl,λb o h3b hc hn=>?_⟩
 ·by_cases hb:b∈frs X.outer
  ·obtain⟨sl,z⟩:=slot b o e (J.ok.EF b hb) hb
   exact⟨_,z⟩
  ·obtain⟨o',z⟩:=U.there b o e hx
   exact⟨_,keep b o' z (.inl ⟨_,e⟩) hb⟩
 ·refine(J.hok a o ha).stay (λb u hb hu=>?_) (λb z=>z) λb xs z=>z
  have tr:H' b≠q?:=by
   rcases hb with z|z
   ·rw[z,ha];simp
   ·rw[z];simp
  refine keep b u hu (.inr tr) λhm=>tr ?_
  refine J.oW b ?_
  rw[stk];obtain⟨env,he',hfe⟩:=List.mem_filterMap.mp hm;exact List.mem_filterMap.mpr ⟨env,Y5 _ he',hfe⟩
 ·obtain⟨o2,h2⟩:∃o2,s2.heap.get? b=j? o2:=by
   rcases hc with ⟨u,e⟩|z
   ·exact U.there b u e (by simp)
   ·cases q:H' b with
    | none=>exact Jf q z
    | some v=>exact(J.hok b v q).here
  have:=keep b o2 h2 hc hn
  rw[h3b] at this;cases this;exact hB b o h2 hc (hns b hc hn)
theorem Inv.passes (I:Inv X pins σ H1 s1)(stk:X.stack=X.env::X.outer)(hf:X.env.frame=j? X.env.locals)(hex:X.ex=[])(o:Out X.prog X.w X.stack H1 s1 C ea H' s2){M:Model}{E:l?->u?->Prop}{Q:Unit->u?->Prop}
  (q:∀s3,Out X.prog X.w X.outer X.H₀ X.s₀ C ea H' s3->Q () s3):L? M X.A (leaving X.env (.ref ea)) Q E s2:=by
 have J:Inv X pins σ H' s2:=I.EH o.os o.un o.hok o.bare (λb z=>Jf z (by simp))
 obtain⟨B,t,fl,hB⟩:=o.Xu;have hfr:=I.ok.frames;rw[stk] at hfr fl;refine B! (nR (a:=ea) (wU _ _) o.Xs (wpAny_leaves_onW (Q:=λ_ s3=>∃h3,s3={ s2 with heap:=h3 }/\Wt B X.outer ea (.ref C) (.ref t) h3/\s2.heap.UpToSlots h3) (E:=E) hfr hf fl λh3 U3 ups=>⟨h3,rfl,U3,ups⟩)) (λ_ s3 z=>?_) λ_ _ z=>z.1
 obtain⟨⟨h3,rfl,U3,ups⟩,c3⟩:=z;refine q _ (J.Np stk hf hex o.free c3 U3 (λb o' hb hc hn=>hB b o' hb ?_ hn) ups)
 refine hc.imp (λ⟨u,e⟩=>?_) id
 exact I.base.there b u e (by rw[hex];simp)
end
section
variable {P:F?} {w:H?} {K:bE} {mg:Str->Option l?} {base:O?} {N:List Str} {qual:Str} {scope:Scope} {f:o?} {cd:l?} {A:A!} {outer:List Env} {s:u?} {H:Hp} {E:XK}
theorem Iw:Passes (Hl P w) (qw (Hl P w) P w K mg base N qual scope f cd A outer s H E) E:=λpins σ H1 s1 e s2 I h=>by
 obtain⟨ea,C,H',rfl,o,hE⟩:=h;exact I.passes rfl rfl rfl o λs3 o3=>⟨ea,C,H',rfl,o3,hE⟩
theorem R0:PassesOwn (S? P w) (qw (Hl P w) P w K mg base N qual scope f cd A outer s H E).A (qw (Hl P w) P w K mg base N qual scope f cd A outer s H E).env (qw (Hl P w) P w K mg base N qual scope f cd A outer s H E).xe:=PassesOwn.leaving
end
section
variable {X:Cx} {pins:List (o?×Obj)} {σ:St} {H1:Hp} {s1:u?} {C ea:o?}
theorem Inv.raised (J:Inv X pins σ H1 s1)(stk:X.stack=X.env::X.outer)(hf:X.env.frame=j? X.env.locals)(hex:X.ex=[]){h':O?}{args:List l?}(hx:Heap.MadeExcOf s1.heap h' ea (.ref C) args){M:Model}{E:l?->u?->Prop}{Q:Unit->u?->Prop}
  (q:∀s3,Out X.prog X.w X.outer X.H₀ X.s₀ C ea H1 s3->Q () s3):L? M X.A (leaving X.env (.ref ea)) Q E { s1 with heap:=h' }:=by
 have hfr:=J.ok.frames;have hin:∀env∈X.stack,∀b,env.frame=j? b->b∈frs X.stack:=λenv he b hb=>List.mem_filterMap.mpr ⟨env,he,hb⟩
 have hl:=PySem.W.funFrames_hide J.stack hin;have he:H1 ea=q?:=by
  cases z:H1 ea with
  | none=>rfl
  | some o=>
   obtain⟨u,hu⟩:=(J.hok ea o z).here;rw[hx.new] at hu;cases hu
 rw[stk] at hfr hl;have c0:z6 ea h':=by
  obtain⟨t,e,_⟩:=hx.there;exact⟨_,_,e,rfl,rfl⟩
 refine B! (nR (a:=ea) (wU _ _) c0 (wpAny_leaves_madeW (s:={ s1 with heap:=h' }) (Q:=λ_ s3=>∃h3 t,s3={ s1 with heap:=h3 }/\Wt (PySem.W.hideAll s1.heap (frs X.stack)) X.outer ea (.ref C) (.ref t) h3/\h'.UpToSlots h3) (E:=E) (base:=PySem.W.hideAll s1.heap (frs X.stack)) hfr hf (λb o z=>PySem.W.of_hideAll _ z) (by rw[stk];exact hl) hx λh3 t fl _ _ ups=>⟨h3,t,rfl,fl,ups⟩)) (λ_ s3 z=>?_) λ_ _ z=>z.1
 obtain⟨⟨h3,t,rfl,fl,ups⟩,c3⟩:=z;exact q _ (J.Np stk hf hex he c3 fl (λb o hb _ hn=>PySem.W.hideAll_get _ hb hn) ((Heap.UpToSlots.of_keeps hx.keeps).trans ups))
end
def Raises (X:Cx)(E:XK):Prop:=∀(pins:List (o?×Obj)) (σ:St) (H:Hp) (s:u?) (ea C:o?) (args:List l?) (h':O?),Inv X pins σ H s->Heap.MadeExcOf s.heap h' ea (.ref C) args->E (.ref ea) (j? C) H->X.xe (.ref ea) { s with heap:=h' }
theorem sH {P:F?}{w:H?}{K:bE}{mg:Str->Option l?}{base:O?}{N:List Str}{qual:Str}{scope:Scope}{f:o?}{cd:l?}{A:A!}{outer:List Env}{s:u?}{H:Hp}{E:XK}:
  Raises (qw (Hl P w) P w K mg base N qual scope f cd A outer s H E) E:=λpins σ H1 s1 ea C args h' I hx hE=>I.raised rfl rfl rfl hx λs3 o=>⟨ea,C,H1,rfl,o,hE⟩
theorem Mb {K:bE}{h:O?}{C:o?}{bmB:List l?}{newId:String}(X:K.In h)(q:PySem.W.excIn K C bmB newId=true):∃(bm:List l?) (N:o?) (nm qn:Str) (bs:List l?) (hdct:Bool) (sn:List Str) (sub:List l?) (ab:Bool) (col:Option Bool) (dd:Option o?) (k0 k1 k2 k3 k5:Option l?) (mN:Str->Option l?),
  h.get? C=j? (excClassObj nm qn C N bs bm hdct sn sub ab col dd k0 k1 k2 k3 k5 newId)/\h.Ns N mN/\mN "__init__"=q?/\OwnTail h bmB bm:=by
 rw[PySem.W.excIn.eq_1] at q;split at q <;> try contradiction
 next dict data slots found=>
  split at q <;> try contradiction
  next D tail s0 s1 s2 s3 id s5 Iz isSlots=>
   rw[T?,T?,T?,T?,T?] at q;obtain⟨⟨⟨⟨⟨c1,c2⟩,c3⟩,c4⟩,c5⟩,c6⟩:=q;have c1:=eq_of_beq c1;have c2:=eq_of_beq c2;have c6:=eq_of_beq c6;subst c1;subst c2;obtain⟨n1,b1,m1,ns1,q1,d1,l1,u1,a1,o1,e1⟩:=data;have c3:e1=false:=by simpa using c3
   have Iz:m1=_:=Iz;rw[Iz,c3] at found;have es:slots=#[s0,s1,s2,s3,j? (.builtin id),s5]:=by
    rw[<- isSlots]
   rw[es] at found;exact⟨tail,ns1,n1,q1,b1,d1,l1,u1,a1,o1,dict,s0,s1,s2,s3,s5,_,X _ _ found,.of_isNs (PySem.W.isNs_of_in X c5),PySem.W.nsMap_none_of_in X c5 c6,PySem.W.tail_of_in X c4⟩
def O4 (C:o?)(E:XK)(t:TA):TS:=λ_ σ H=>t σ H λvs H1=>vs.length<=K?/\∀ea,H1 ea=q?->E (.ref ea) (j? C) H1
theorem sI {X:Cx}{E:XK}{x:Str}{C:o?}{bmB bmN:List l?}{B Bn newId nid initId inN:String}{np cpos pos:Pos}{e:Expr}{es:List Expr}{t:TA}(hx:Raises X E)(hc:X.calm=true)(hg:Gl X x)(hm:X.mg x=j? (.ref C))(q:PySem.W.excIn X.K C bmB newId=true)
  (Fn:ExcBaseFacts Bn newId inN bmN) (hBn:bmB.contains (.type Bn)=true) (F:ExcBaseFacts B nid initId bmB) (ha:PA X (e::es) t) (hd:(x ==("__debug__":Str))=false:=by decide)
  (he:I? (e::es) X.env=(false,eval e X.env)::I? es X.env:=by rfl) (hpl:(backTo cpos (I? es X.env)).any (·.1)=false:=by rfl):PS X (.Raise (j? (.Call (.Name x np) (e::es) [] cpos)) q? pos) (O4 C E t):=by
 refine⟨?_⟩
 intro pins s σ H D I h;obtain⟨v1,v2,v3,v4,v5,v6,v7,v8,v9,w1,w2,w3,w4,w5,w6,w7,mN,TM,isN,hni,TL⟩:=Mb I.mod.Tt q;refine wpAny_Raise_call_subU (bm:=v1) (N:=v2) (nm:=v3) (q:=v4) (bs:=v5) (hdct:=v6) (sn:=v7) (sub:=v8) (ab:=v9) (col:=w1) (dd:=w2) (k0:=w3) (k1:=w4) (k2:=w5) (k3:=w6) (k5:=w7) (C:=C) Fn hBn F (TL.hasType F.hasBase) (I.ok.hd hc) ?_ hni (vv I hg hm ⟨rfl,?_⟩ hd)
 ·rw[he]
  show(false || (backTo cpos (I? es X.env)).any (·.1))=false
  rw[hpl];rfl
 ·rw[he]
  have run:=ha cpos pins s σ H _ I h;rw[he] at run;refine Calls.evalArgs_plain (eU run λus s1 z=>?_)
  ·obtain⟨vs,J,I1,r,hl,hE⟩:=z
   refine⟨rfl,by rw[<- r.length];exact hl,I1.bk _ _ TM,isN.keeps I1.bk,TL.keeps I1.bk,λh' ea hm=>hx pins σ J s1 ea C us h' I1 hm (hE ea ?_)⟩
   cases z:J ea with
   | none=>rfl
   | some o=>
    obtain⟨u,hu⟩:=(I1.hok ea o z).here;rw[hm.new] at hu;cases hu
structure vf (P:F?)(w:H?)(K:bE)(mg:Str->Option l?)(base:O?)(k:Nat)(x:Str)(ps:List Str)(sp:Sp):Prop where
 ex:∃f fd,lU P w K mg base (Hl P w) k f fd ps sp/\Binds K fd ps []/\PySem.W.keepIn K (.ref f)=true/\mg x=j? (.ref f)
section
variable {P:F?} {w:H?} {K:bE} {mg:Str->Option l?} {base:O?}
theorem Src.U4 {x:Str}{st:Q?}{N ps:List Str}{k:Nat}{sp:Sp}(F:Src K mg x st ps)(S:aM N ps (ao st))(len:∀vs H Q E,sp vs H Q E->vs.length=ps.length)
  (body:∀(f:o?) (cdv:l?) (A:A!) (outer:List Env) (s:u?) (H:Hp) (vs:List V) (Q:VK) (E:XK),fL k (A.deeper (envOfC x (ao st) s.heap.objs.size f cdv))->sp vs H Q E->
   ∃t,zB (qw (Hl P w) P w K mg base N x (ao st) f cdv A outer s H E) (cB st) t/\t { nx:=λ_ H'=>Q .eZ H',rt:=Q } (start N vs) H):vf P w K mg base (k+1) x ps sp:=by
 obtain⟨f,fd,G,B,M⟩:=F.ex;have kp:=G.kp;obtain⟨_,_,_,_,_,_,cdv,_,_,rfl,lk,hcd⟩:=G.ex;exact⟨f,_,HB lk hcd S len (body f cdv),B,kp,M⟩
end
theorem z8 {X:Cx}{E:XK}{k n:Nat}{x:Str}{ps:List Str}{sp:Sp}{e:Expr}{es:List Expr}{t:TA}{p pos:Pos}(D:vf X.prog X.w X.K X.mg X.base k x ps sp)(hp:Passes (Hl X.prog X.w) X E)(hr:fL n X.A)(ha:PA X (e::es) t)(hle:k<=n:=by decide)(hg:Gl X x:=by rfl)
  (hdb:(x ==("__debug__":Str))=false:=by decide) (he:I? (e::es) X.env=(false,eval e X.env)::I? es X.env:=by rfl) (hpl:(backTo pos (I? es X.env)).any (·.1)=false:=by rfl):
  PE X (.Call (.Name x p) (e::es) [] pos) (HA sp [] E t):=by
 obtain⟨f,fd,F,B,kp,M⟩:=D.ex;exact EN F (hr.mono hle) hg M kp B .nil hp ha hdb he hpl
end L2
namespace L2
open PySem PySem.Spec PySem.W PyProof.Rows PySem.Calls PySem.Builtin PySem.Builtin.ObjectAttr PySem.Builtin.Getset_descriptor
def pT (a C:o?)(h:O?):Prop:=∃o vs,h.get? a=j? o/\o.cls=.ref C/\o.data=.fields vs/\vs[2]?=j? Value.none
structure Gm (K:bE)(C:o?):Prop where
 ga:findIn K (.ref C) "__getattribute__"=j? (j? (.builtin "BaseException.__getattribute__"))
 no:findIn K (.ref C) "__getattr__"=j? q?
 at_:findIn K (.ref C) "__class__"=j? (j? (.builtin "object.__class__"))
 get:specialIn K (.builtin "object.__class__") "__get__"=j? (j? (.builtin "getset_descriptor.__get__"))
 tk:takesIn K (.builtin "object.__class__")=j? true
 ob:mroIn K C (.type "object")=j? true
 be:mroIn K C (.type "BaseException")=j? true
section
variable {prog:F?} {w:H?} {A:A!} {E:l?->u?->Prop} {s:u?} {K:bE} {x C:o?}
theorem pT.type {M:Model}{h:O?}(I:pT x C h):Looks M h (typeOf (.ref x)) (.ref C):=by
 obtain⟨o,vs,h1,h2,_⟩:=I;exact h2 ▸ (Looks.ld h1).andThen .now
theorem Mc {R:Result->u?->Prop}{tp:l?}(X:K.In s.heap)(I:pT x C s.heap)(hm:mroIn K C (.type "object")=j? true)
  (h:R (.ok (.ret (.ref C))) s):codeAny (S? prog w) A (.call (.builtin "getset_descriptor.__get__") ⟨[.builtin "object.__class__",.ref x,tp],[]⟩) R s:=by
 obtain⟨hh,g,dr,t,os⟩:=s;have L0:=I.type (M:=S? prog w);have L1:=looks_mroIn (M:=S? prog w) X hm;refine codeAny_call_builtin KF.slot_gs.plain KF.entry_gs (KF.slot_gs.check _ _ _ _ _ _ _ _ KF.type_class (KF.args_gs _ _ _) ?_)
 unfold Builtin.«getset_descriptor.__get__» descrGet;rw[dga_obj];refine B? (J? ?_)
 unfold descrGetter descrCheckInstance descrNameAndClass isInstance;simp only[KF.owner_class]
 repeat lk
 refine⟨Code.quiet_builtin _ (by decide +kernel),codeAny_builtin KF.entry_class ?_⟩
 unfold Builtin.«object.__class__» shownTypeOf;repeat lk
 exact h
theorem IA {M:Model}{h:O?}(X:K.In h)(k:Gm K C):Looks M h (find (.ref x) (.ref C) "__class__") (.bind (.builtin "getset_descriptor.__get__") (.builtin "object.__class__")):=by
 have L1:=looks_findIn (M:=M) X k.at_;have L2:Looks M h (getOf (j? (.builtin "object.__class__"))) (j? (.builtin "getset_descriptor.__get__")):=looks_specialIn X k.get;have L3:=looks_takesIn (M:=M) X k.tk;exact L1.andThen (L2.andThen ((show Looks M h (dataDescriptor? (j? (.builtin "object.__class__")) (j? (.builtin "getset_descriptor.__get__"))) (j? (.builtin "getset_descriptor.__get__",.builtin "object.__class__")) from L3.andThen .now).andThen (Looks.tag .now)))
theorem Gn {M:Model}{nameV:l?}{Q:Unit->u?->Prop}(X:K.In s.heap)(k:Gm K C)(I:pT x C s.heap)(hq:Q () s):L? M A (checkBuiltinCall "BaseException.__getattribute__" ⟨[.ref x,nameV],[]⟩) Q E s:=by
 have hk:builtinKind "BaseException.__getattribute__"=j? .slot:=by decide +kernel
 have hsplit:splitId "BaseException.__getattribute__"=j? ("BaseException","__getattribute__"):=by decide +kernel
 have ha:=F.args_bexc_ga (.ref x) nameV;have L0:=I.type (M:=M);have L1:=looks_mroIn (M:=M) X k.be;obtain⟨hh,g,dr,t,os⟩:=s;simp only[checkBuiltinCall,hk,hsplit]
 refine B? ?_
 unfold isInstance;repeat (first|lk|wp_step)
 exact hq
theorem Gp {Q:Option l?->u?->Prop}(X:K.In s.heap)(k:Gm K C)(I:pT x C s.heap)(h:Q (j? (.ref C)) { s with toks:=s.toks+1 }):L? (S? prog w) A (getAttr? (.ref x) "__class__") Q E s:=by
 obtain⟨hh,g,d,t,os⟩:=s;have L0:=I.type (M:=S? prog w);have L1:=looks_findIn (M:=S? prog w) X k.ga;have L2:=looks_findIn (M:=S? prog w) X k.no;have LF:=IA (M:=S? prog w) (x:=x) X k;have f3:=F.excAttr_ValueError.ga.bind (.ref x);have hx2:(Value.builtin "BaseException.__getattribute__" == Value.builtin "object.__getattribute__")=false:=by decide +kernel
 have hx1:(onTheHeap (I! C) && Value.builtin "BaseException.__getattribute__" == Value.builtin "object.__getattribute__")=false:=by rw[hx2];rfl
 unfold getAttr? getAttrBy? getAttrBy;refine B? (wpAny_mkText (B? (wpAny_attempt (wpAny_holding (B? (L0.at (B? (L1.at ?_))))))))
 dsimp only
 rw[W8 (by rw[hx1];decide)]
 unfold getAttrByItsOwn hookBefore;rw[W9 (show onTheHeap (I! C)=true from rfl)]
 refine B? (L2.at ?_)
 refine B? (wpAny_attempt (wpAny_holding ?_))
 unfold callGetattribute;rw[W8 (by decide)]
 unfold boundAndCalled;rw[f3];refine B? (J? ?_)
 refine wpAny_call (codeAny_call_builtin F.excAttr_ValueError.ga.plain F.entry_bexc_ga (Gn (K:=K) (C:=C) X k I ?_))
 have f4:attrName (Value.str ("__class__":Str) t)=pure "__class__":=rfl;have e0:slotArgs "__getattribute__" 1 ⟨[I! x,.str "__class__" t],[]⟩=pure (.ref x,[.str "__class__" t]):=rfl;unfold Builtin.«object.__getattribute__»;show L? _ _ (slotArgs "__getattribute__" 1 ⟨[I! x,.str "__class__" t],[]⟩ >>= _) _ _ _
 rw[e0];refine B? (J? ?_)
 dsimp only
 rw[f4];refine B? (J? (B? (L0.at (B? (LF.at ?_)))))
 dsimp only
 unfold bindTo;dsimp only
 refine B? (wpAny_holding (wpAny_call (Mc (K:=K) (C:=C) X I k.ob ?_)))
 refine J? ?_
 exact handed_on rfl (J? h)
end
section
variable {K:bE}
theorem wV {x C:o?}(k:Gm K C):KitX K (.ref x) (.ref C) (pT x C) where
 ty:=λ_ _ _ I=>I.type
 it:=λ_ _ X _=>by
  obtain⟨cd,Me,_⟩:=Option.bind_eq_some_iff.mp k.ob;unfold clsIn at Me;split at Me
  ·rename_i c' d' cd' Lu ho
   intro A' Q' E' s' k q;unfold isType loadHead;exact B? (wpAny_loadPart (k _ _ (X _ _ ho)) (J? q))
  ·cases Me
 ne:=λh tp dd its n sl X htp=>by
  obtain⟨cd,Me,_⟩:=Option.bind_eq_some_iff.mp k.ob;refine Bool.eq_false_iff.mpr λq=>?_
  have e:C=tp:=Value.ref.inj (beq_iff_eq.mp q);subst e;unfold clsIn at Me;split at Me
  ·rename_i c' d' cd' Lu ho
   have z:=(X _ _ ho).symm.trans htp;cases z
  ·cases Me
 ca:=λX I q=>Gp X k I q
end
inductive TN (K:bE)(H:Hp)(C:o?):V->Bool->Prop where
 | ty {T:String} {b:Bool} (h:kitOne K (.ref C) (.type T)=j? b):TN K H C (.ty T) b
 | own {D:o?} {b:Bool} (h:kitOne K (.ref C) (.ref D)=j? b):TN K H C (.ref D) b
 | tup {a:o?} {cs:List o?} {b:Bool} (e:H a=j? (.tup (cs.map V.ref))) (h:kitAny K (.ref C) (cs.map I!)=j? b):TN K H C (.ref a) b
theorem ze:∀ {cs:List o?} {us:List l?},Vals (cs.map V.ref) us->us=cs.map I!
 | [],_,r=>by cases r;rfl
 | c::cs,_,r=>by
  cases r with
  | cons r1 r2=>
   cases (show _=I! c from r1)
   rw[ze r2];rfl
def Nq (K:bE):List V->Hp->VK->Prop:=λxs H Q=>∃a C c b,xs=[.ref a,c]/\H a=j? (.ext (pT a C))/\Gm K C/\TN K H C c b/\Q (.bl b) H
section
variable {X:Cx}
theorem Gr:ir X (.builtin "isinstance") (Nq X.K):=by
 intro pins s σ H xs us Q I rv h;obtain⟨a,C,c,b,rfl,ha,k,kb,q⟩:=h;obtain⟨u,w',rfl,rx,rt⟩:=vals2 rv;cases (show u=I! a from rx)
 have fin:∀tk,EP X pins σ Q (.bool b) { s with toks:=tk }:=λtk=>⟨.bl b,H,I.tok tk,rfl,q⟩
 have hE:pT a C s.heap:=(I.hok a _ ha).1;cases kb with
 | ty h=>cases (show w'=Value.type _ from rt);exact kia_one (wV k) I.A3 hE h (λz=>nomatch z) fin
 | own h=>cases (show w'=I! _ from rt);exact kia_one (wV k) I.A3 hE h (λz=>nomatch z) fin
 | tup e h=>
  cases (show w'=I! _ from rt)
  obtain⟨its,r,tt,_⟩:=I.tuple (jv.of e);have er:=ze r;subst er;obtain⟨o,h1,h2,h3⟩:=tt;obtain⟨oc,od,oda,osl⟩:=o;dsimp only at h2 h3
  subst h2;obtain⟨n,h3⟩:=h3;subst h3;exact kia_tup (wV k) I.A3 hE h1 h (λz=>nomatch z) fin
theorem jJ {K:bE}(h:X.K=K):ir X (.builtin "isinstance") (Nq K):=by subst h;exact Gr
end
section
variable {X:Cx} {pins:List (o?×Obj)} {σ:St} {H1 H':Hp} {s1 s2:u?} {C ea:o?}
theorem Inv.O5 (I:Inv X pins σ H1 s1)(o:Out X.prog X.w X.stack H1 s1 C ea H' s2):∃(B:O?) (t:o?),Wt B X.stack ea (.ref C) (.ref t) s2.heap/\
  ∀h5,Wt B X.stack ea (.ref C) (.ref t) h5->s2.heap.UpToSlots h5->z6 ea h5->Inv X pins σ (upd H' ea (.ext (pT ea C))) { s2 with heap:=h5 }:=by
 obtain⟨B,t,fl,hB⟩:=o.Xu;refine⟨B,t,fl,λh5 f5 ups c5=>?_⟩
 have Og:ea ∉ frs X.stack:=λhb=>by
  obtain⟨_,o',ho',hd⟩:=f5.2.2.1.mem hb;obtain⟨oe,vs,he,_,Xv,_⟩:=f5.first
  rw[he] at ho';cases ho';exact hd vs Xv
 have fresh:∀u,s1.heap.get? ea≠j? u:=λu z=>by
  obtain⟨o2,h2⟩:=o.un.there ea u z (by simp)
  have:=hB ea o2 h2 (.inl ⟨_,z⟩) Og
  rw[f5.2.1] at this;cases this
 have keep:∀b u,s2.heap.get? b=j? u->((∃u,s1.heap.get? b=j? u)\/H' b≠q?)->b ∉ frs X.stack->h5.get? b=j? u:=λb u hb hc hn=>f5.1 _ _ (hB b u hb hc hn)
 have slot:∀b o',s1.heap.get? b=j? o'->H1 b=q?->b∈frs X.stack->∃sl,h5.get? b=j? { o' with slots:=sl }:=λb o' e n hb=>by
  obtain⟨sl,h2⟩:=o.un.slot b o' e n hb (by simp)
  obtain⟨_,oo,ho',hd⟩:=I.stack.mem hb;rw[e] at ho';cases ho';obtain⟨Lu,h4⟩:=ups b _ h2 hd;exact⟨Lu,h4⟩
 have ne:∀b o',H' b=j? o'->b≠ea:=λb o' z w=>by rw[w,o.free] at z;cases z
 refine I.EH (s':={ s2 with heap:=h5 }) o.os ⟨λb o' e n hb hx=>keep b o' (o.un.keep b o' e n hb hx) (.inl ⟨_,e⟩) hb,λb o' e n hb hx=>slot b o' e n hb,λb o' e n hx=>?_,λb o' e hx=>?_,λb xs z=>?_,λb o' u z=>?_,λb ps z=>?_⟩ (λa u ha=>?_) o.bare (λb z=>Jf z (by simp))
 ·have:b≠ea:=λz=>fresh o' (z ▸ e)
  rw[aO this];exact o.un.free b o' e n hx
 ·by_cases hb:b∈frs X.stack
  ·obtain⟨sl,z⟩:=slot b o' e (I.oW b hb) hb
   exact⟨_,z⟩
  ·obtain⟨o2,z⟩:=o.un.there b o' e hx
   exact⟨_,keep b o2 z (.inl ⟨_,e⟩) hb⟩
 ·have:=o.un.tups b xs z
  rw[aO (ne b _ this)];exact this
 ·have:=o.un.uY b o' u z
  rw[aO (ne b _ this)];exact this
 ·obtain⟨m,this⟩:=o.un.uZ b ps z
  exact⟨m,by rw[aO (ne b _ this)];exact this⟩
 ·by_cases c:a=ea
  ·subst c
   rw[ay] at ha;cases ha;obtain⟨oe,vs,he,hc,Xv,_⟩:=f5.first
   obtain⟨oe',vs',he',U5,h2'⟩:=c5;rw[he] at he';cases he';refine⟨⟨oe,vs',he,hc,U5,h2'⟩,⟨_,he⟩,λh1 h2 z k=>?_⟩
   obtain⟨o1,v1,z1,z2,z3⟩:=z;exact⟨o1,v1,k _ z1,z2,z3⟩
  ·rw[aO c] at ha
   have tr:∀b,(b=a\/H' b=j? (.own a))->H' b≠q?:=λb hb=>by
    rcases hb with z|z
    ·rw[z,ha];simp
    ·rw[z];simp
   refine(o.hok a u ha).stay (λb v hb hv=>?_) (λb z=>by rw[aO (ne b _ z)];exact z) λb xs z=>by rw[aO (ne b _ z)];exact z
   refine keep b v hv (.inr (tr b hb)) λhm=>tr b hb ?_
   obtain⟨_,o',ho',hd⟩:=I.stack.mem hm;exact o.un.free b o' ho' (I.oW b hm) (by simp)
end
abbrev Cx.bears (X:Cx)(pn:List (o?×Obj)):Cx:={ X with pn:=pn }
abbrev Cx.Nr (X:Cx)(pn:List (o?×Obj))(E:XK):Cx:=(X.bears pn).u6 λe s'=>∃pins σ H1 s1,Inv (X.bears pn) pins σ H1 s1/\Hl X.prog X.w X.stack H1 s1 E e s'
abbrev Cx.nu (X:Cx)(ea:o?):Cx:={ X with A:=X.A.mark (j? (.ref ea)),calm:=false,xe:=λ_ _=>False }
section
variable {X:Cx} {pins pn:List (o?×Obj)} {σ:St} {H:Hp} {s:u?} {ea:o?}
theorem Cx.Ok.bears (ok:X.Ok)(pn:List (o?×Obj)):(X.bears pn).Ok:=
 ⟨ok.mod,ok.kind,ok.glob,ok.blt,ok.above,ok.inj,ok.has,ok.Hr,ok.hd,ok.frames,ok.stk,ok.Lr,ok.bs,ok.A4,ok.vV,ok.vW,ok.kU,ok.EF⟩
theorem Cx.Ok.jj (ok:(X.bears pn).Ok):X.Ok:=
 ⟨ok.mod,ok.kind,ok.glob,ok.blt,ok.above,ok.inj,ok.has,ok.Hr,ok.hd,ok.frames,ok.stk,ok.Lr,ok.bs,ok.A4,ok.vV,ok.vW,ok.kU,ok.EF⟩
theorem Inv.bears (I:Inv X pins σ H s):Inv (X.bears (X.pn++pins)) [] σ H s:=⟨I.ok.bears _,I.os,I.bare,I.base,I.loc,I.cell,I.free,I.fX,λp hp=>I.pin p (by rw[W0] at hp;exact hp),I.hok,I.len⟩
theorem Inv.jj {pl:List (o?×Obj)}(I:Inv (X.bears (X.pn++pins)) pl σ H s):Inv X pins σ H s:=⟨I.ok.jj,I.os,I.bare,I.base,I.loc,I.cell,I.free,I.fX,λp hp=>I.pin p (List.mem_append_left _ hp),I.hok,I.len⟩
theorem SP.jj {D:Ends}{f:Flow}(h:SP (X.bears (X.pn++pins)) [] D f s):SP X pins D f s:=by
 cases f with
 | next=>obtain⟨σ',H',I,q⟩:=h;exact⟨σ',H',I.jj,q⟩
 | brk=>obtain⟨σ',H',I,q⟩:=h;exact⟨σ',H',I.jj,q⟩
 | cont=>obtain⟨σ',H',I,q⟩:=h;exact⟨σ',H',I.jj,q⟩
 | ret u=>obtain⟨v,σ',H',I,r,q⟩:=h;exact⟨v,σ',H',I.jj,r,q⟩
theorem Cx.Ok.nu (ok:X.Ok)(ea:o?):(X.nu ea).Ok:=
 ⟨ok.mod,ok.kind,ok.glob,ok.blt,ok.above,ok.inj,ok.has,ok.Hr,(λz=>nomatch z),ok.frames,ok.stk,ok.Lr,ok.bs,ok.A4,ok.vV,ok.vW,ok.kU,ok.EF⟩
theorem Inv.nu (I:Inv X pins σ H s)(ea:o?):Inv (X.nu ea) pins σ H s:=⟨I.ok.nu ea,I.os,I.bare,I.base,I.loc,I.cell,I.free,I.fX,I.pin,I.hok,I.len⟩
theorem Inv.O6 (ok:X.Ok)(I:Inv (X.nu ea) pins σ H s):Inv X pins σ H s:=⟨ok,I.os,I.bare,I.base,I.loc,I.cell,I.free,I.fX,I.pin,I.hok,I.len⟩
theorem IB {E:XK}:Passes (Hl X.prog X.w) (X.Nr pn E) E:=λpins σ H s e s' I h=>⟨pins,σ,H,s,I.kj,h⟩
theorem Inv.O7 (I:Inv X pins σ H s){h':O?}{m':Str->Option l?}{t':Nat}(hn:h'.Ns X.env.locals m')(hs:Heap.SameBut X.env.locals s.heap h'):Inv X pins (Yi X.N.length q?) H { s with heap:=h',toks:=t' }:=by
 have ne:∀b o,X.s₀.heap.get? b=j? o->b≠X.env.locals:=λb o e=>Yq (Yj (Yl e) I.ok.above)
 refine⟨I.ok,I.os,I.bare,⟨λb o e n hb hx=>(hs.2 b (ne b o e)).trans (I.base.keep b o e n hb hx),λb o e n hb hx=>?_,I.base.free,λb o e hx=>?_,I.base.tups,I.base.uY,I.base.uZ⟩,⟨m',hn,λi x v e1 e2 e3=>?_⟩,λx c e=>?_,I.free,I.fX,λp hp=>?_,λb ob e=>?_,by rw[Yp]⟩
 ·obtain⟨sl,z⟩:=I.base.slot b o e n hb hx
  exact⟨sl,(hs.2 b (ne b o e)).trans z⟩
 ·obtain⟨o',z⟩:=I.base.there b o e hx
  exact⟨o',(hs.2 b (ne b o e)).trans z⟩
 ·rw[Zi] at e2
  split at e2 <;> cases e2
 ·obtain⟨v,z⟩:=I.cell x c e
  exact⟨v,z.sameBut hs (I.Ls x c e)⟩
 ·obtain⟨z1,z2,z3,z4,z5⟩:=I.pin p hp
  exact⟨(hs.2 _ z3).trans z1,z2,z3,z4,z5⟩
 ·refine(I.hok b ob e).stay (λc w' hc q=>(hs.2 c ?_).trans q) (λ_ q=>q) λ_ _ q=>q
  rintro rfl;rcases hc with z|z
  ·rw[<- z,I.free] at e;cases e
  ·rw[I.free] at z;cases z
end
def U6 (K:bE)(i len:Nat)(D:o?)(tb:XK->TS)(ts:o?->TS):TS:=λDn σ H=>tb (λe C H'=>∃c,C=j? c/\exmOne K (.ref c) (.ref D)=j? true/\∀(ea:o?) (σ':St),e=.ref ea->H' ea=q?->σ'.length=len->
 ts ea { nx:=λ_ H2=>Dn.nx (Yi len q?) H2,rt:=Dn.rt,bk:=λ_ H2=>Dn.bk (Yi len q?) H2,ct:=λ_ H2=>Dn.ct (Yi len q?) H2 } (σ'.set i (j? (.ref ea))) (upd H' ea (.ext (pT ea c)))) Dn σ H
theorem O8 {X:Cx}{i:Nat}{n x:Str}{D:o?}{body suite:List Q?}{b₀:Q?}{tb:XK->TS}{ts:o?->TS}{np hpos pos:Pos}(hf:X.stack=X.env::X.outer/\X.env.frame=j? X.env.locals)(hN:X.N.Nodup)(hi:X.N[i]?=j? n)(hl:X.env.kindOf n=j? .local)
  (hg:Gl X x) (hm:X.mg x=j? (.ref D)) (hb:∀pn E,zB (X.Nr pn E) body (tb E)) (hs:∀ea,zB (X.nu ea) (b₀::suite) (ts ea)) (hd:(x ==("__debug__":Str))=false:=by decide):
  PS X (.Try body [.ExceptHandler (j? (.Name x np)) (j? n) (b₀::suite) hpos] [] [] pos) (U6 X.K i X.N.length D tb ts):=by
 refine⟨?_⟩
 intro pins s σ H Dn I h;refine wpAny_Try_except (B! ((hb (X.pn++pins) _).1 [] s σ H Dn (I.bears.u6 _) h) (λf s1 q=>?_) λe s2 q=>?_)
 ·have q:=q.kj.jj
  cases f with
  | next=>exact wpAny_execs_nil q
  | brk=>exact q
  | cont=>exact q
  | ret u=>exact q
 ·obtain⟨pl,σ1,H1,s1,I1,ea,C,H',rfl,o,c,hc,hx,hts⟩:=q
  cases hc;have I1:=I1.jj;obtain⟨B,t,fl,U7⟩:=I1.O5 o;have hfr:=I1.ok.frames;rw[hf.1] at hfr fl U7;refine B! (nR (a:=ea) (E7 _ _) o.Xs (wpAny_looks_onW (Q:=λ_ s3=>∃h3,s3={ s2 with heap:=h3 }/\Heap.HeldW B (X.env::X.outer) ea (.ref C) (.ref t) X.env.locals h3/\s2.heap.UpToSlots h3) (E:=λ_ _=>False) hfr hf.2 fl λh3 IC u3=>⟨h3,rfl,IC,u3⟩)) (λ_ s3 z=>?_) λ_ _ z=>N! z.1
  obtain⟨⟨h3,rfl,IC,u3⟩,c3⟩:=z;refine B! (nR (a:=ea) (mw _ _) c3 (wpAny_landsW (s:={ s2 with heap:=h3 }) (Q:=λ_ s4=>∃h4,s4={ s2 with heap:=h4 }/\Wt B (X.env::X.outer) ea (.ref C) (.ref t) h4/\h3.UpToSlots h4) (E:=λ_ _=>False) IC λh4 f4 u4=>⟨h4,rfl,f4,u4⟩)) (λ_ s4 z=>?_) λ_ _ z=>N! z.1
  obtain⟨⟨h4,rfl,f4,u4⟩,c4⟩:=z;have J4:=(U7 h4 f4 (u3.trans u4) c4).nu ea;refine wpAny_handleBy_cons (codeAny_handlers_test (vv (X:=X.nu ea) J4 hg hm ?_ hd)) (by intro q;cases q)
  have hE4:pT ea C h4:=(J4.hok ea _ ay).1;refine(exm_one (K:=X.K) J4.A3 hE4.type hx).at ?_
  refine codeAny_handlers_suite_as ?_
  refine B! (nR (a:=ea) (mw _ _) c4 (lands_againW (s:={ s2 with heap:=h4 }) (Q:=λ_ s5=>∃h5,s5={ s2 with heap:=h5 }/\Wt B (X.env::X.outer) ea (.ref C) (.ref t) h5/\h4.UpToSlots h5) (E:=λ_ _=>False) f4 λh5 f5 u5=>⟨h5,rfl,f5,u5⟩)) (λ_ s5 z=>?_) λ_ _ z=>N! z.1
  obtain⟨⟨h5,rfl,f5,u5⟩,c5⟩:=z;have J5:=(U7 h5 f5 ((u3.trans u4).trans u5) c5).nu ea;refine kW (X:=X.nu ea) J5 hN hi (.inl hl) (v:=.ref ea) rfl (λs6 I6=>?_) (.inr hl)
  refine B! ((hs ea).1 pins s6 _ _ _ I6 (hts ea σ1 rfl o.free I1.len)) (λf s7 q=>?_) λ_ _ z=>N! z
  have hcls:(X.env.scope.kind == .class || (X.env.scope.kind == .module && X.env.locals != X.env.globals))=false:=by rw[I.ok.kind];rfl
  have gone:∀σ' H2,Inv (X.nu ea) pins σ' H2 s7->∀Q:Unit->u?->Prop,(∀s8,Inv X pins (Yi X.N.length q?) H2 s8->Q () s8)->L? (S? X.prog X.w) X.A (do bindName X.env n .none;unbindBehindTheSuite X.env n hpos) Q X.xe s7:=λσ' H2 I7 Q k=>by
   obtain⟨m,hn,_⟩:=id I7.loc;exact wpAny_nameGoes hl hn hcls λh' m' hn' hs'=>k _ ((I7.O6 I.ok).O7 hn' hs')
  cases f with
  | next=>obtain⟨σ',H2,I7,z⟩:=q;exact gone _ _ I7 _ λs8 I8=>⟨_,_,I8,z⟩
  | brk=>obtain⟨σ',H2,I7,z⟩:=q;exact gone _ _ I7 _ λs8 I8=>⟨_,_,I8,z⟩
  | cont=>obtain⟨σ',H2,I7,z⟩:=q;exact gone _ _ I7 _ λs8 I8=>⟨_,_,I8,z⟩
  | ret u=>obtain⟨v,σ',H2,I7,r,z⟩:=q;exact gone _ _ I7 _ λs8 I8=>⟨v,_,_,I8,r,z⟩
section
variable {K:bE} {N C:o?} {b:Bool}
theorem O9 (hm:mroIn K C (.type "object")=j? true):(clsIn K C).isSome=true:=by
 obtain⟨cd,Me,_⟩:=Option.bind_eq_some_iff.mp hm;rw[Me];rfl
theorem ID (hm:mroIn K C (.type "object")=j? true)(ht:typeIn K (.ref C)=j? (.type "type"))(hs:subIn K (.ref N) (.ref C)=j? b):kitCls K (.ref N) (.ref C)=j? b:=by
 show(if ((clsIn K C).isSome && typeIn K (.ref C) == j? (.type "type"))=true then subIn K (.ref N) (.ref C) else q?)=j? b
 rw[O9 hm,ht,W9 (by simp),hs]
theorem Dt (hN:subIn K (.ref N) (.ref N)=j? true)(hm:mroIn K C (.type "object")=j? true)(ht:typeIn K (.ref C)=j? (.type "type"))(hs:subIn K (.ref N) (.ref C)=j? false):kitOne K (.ref N) (.ref C)=j? false:=by
 unfold kitOne;rw[W8 (λz=>by
  have e:N=C:=Value.ref.inj (beq_iff_eq.mp z);rw[<- e,hN] at hs;cases hs)]
 exact ID hm ht hs
theorem O_ {T:String}(hk:kitMeta T=true)(hs:subIn K (.ref N) (.type T)=j? b):kitOne K (.ref N) (.type T)=j? b:=by
 unfold kitOne;rw[W8 (λz=>by have:=beq_iff_eq.mp z;cases this)]
 show(if kitMeta T=true then subIn K (.ref N) (.type T) else q?)=j? b
 rw[W9 hk,hs]
theorem Mg (hm:mroIn K C (.type "object")=j? true)(ht:typeIn K (.ref C)=j? (.type "type"))(hb:subIn K (.ref C) (.type "BaseException")=j? true)(hs:subIn K (.ref N) (.ref C)=j? true):exmOne K (.ref N) (.ref C)=j? true:=by
 unfold exmOne;rw[hb,W9 (by simp)]
 exact ID hm ht hs
end
end L2
namespace L2
open PySem PySem.Spec PySem.W PyProof.Rows
end L2
namespace Alg
open Lean.Grind
section mk
variable {α:Type} (zero one:α) (add mul:α->α->α) (neg:α->α)
def nc:Nat->α
 | 0=>zero
 | 1=>one
 | n+2=>add (nc (n+1)) one
def ic:Int->α
 | .ofNat n=>nc zero one add n
 | .negSucc n=>neg (nc zero one add (n+1))
def Xw (x:α):Nat->α
 | 0=>one
 | n+1=>mul (Xw x n) x
@[reducible] def U8 (az:∀a,add a zero=a) (ac:∀a b,add a b=add b a) (aa:∀a b c,add (add a b) c=add a (add b c)) (ma:∀a b c,mul (mul a b) c=mul a (mul b c)) (mo:∀a,mul a one=a)
    (ld:∀a b c,mul a (add b c)=add (mul a b) (mul a c)) (mc:∀a b,mul a b=mul b a) (na:∀a,add (neg a) a=zero):CommRing α:=
  have mz:∀a,mul a zero=zero:=λa=>by
    have h1:mul a zero=add (mul a zero) (mul a zero):=by rw[<- ld,az]
    calc mul a zero=add zero (mul a zero):=by rw[ac,az]
      _=add (add (neg (mul a zero)) (mul a zero)) (mul a zero):=by rw[na]
      _=add (neg (mul a zero)) (mul a zero):=by rw[aa,<- h1]
      _=zero:=na _
  have nn:∀a,neg (neg a)=a:=λa=>by
    calc neg (neg a)=add (neg (neg a)) (add (neg a) a):=by rw[na,az]
      _=add (add (neg (neg a)) (neg a)) a:=by rw[aa]
      _=a:=by rw[na,ac,az]
  have nz:neg zero=zero:=by rw[<- az (neg zero),na]
  have nm:∀a b,mul (neg a) b=neg (mul a b):=λa b=>by
    calc mul (neg a) b=add (mul (neg a) b) (add (mul a b) (neg (mul a b))):=by rw[ac (mul a b),na,az]
      _=add (add (mul (neg a) b) (mul a b)) (neg (mul a b)):=by rw[aa]
      _=add (mul b (add (neg a) a)) (neg (mul a b)):=by rw[mc (neg a),mc a,ld]
      _=neg (mul a b):=by rw[na,mz,ac,az]
  have Xx:∀i:Int,ic zero one add neg (-i)=neg (ic zero one add neg i):=λi=>by
    match i with
    | .ofNat 0=>exact nz.symm
    | .ofNat (n+1)=>rfl
    | .negSucc n=>exact(nn _).symm
  { add:=add,mul:=mul,neg:=neg,sub:=λa b=>add a (neg b)
    natCast:=⟨nc zero one add⟩,ofNat:=λn=>⟨nc zero one add n⟩,nsmul:=⟨λn a=>mul (nc zero one add n) a⟩,npow:=⟨Xw one mul⟩
    add_zero:=az,add_comm:=ac,add_assoc:=aa,mul_assoc:=ma,mul_one:=mo,one_mul:=λa=>(mc _ _).trans (mo a),left_distrib:=ld
    right_distrib:=λa b c=>by
      show mul (add a b) c=add (mul a c) (mul b c)
      rw[mc,ld,mc c,mc c]
    zero_mul:=λa=>(mc _ _).trans (mz a),mul_zero:=mz,pow_zero:=λ_=>rfl,pow_succ:=λ_ _=>rfl
    ofNat_succ:=λa=>by
      match a with
      | 0=>exact((ac _ _).trans (az one)).symm
      | n+1=>rfl
    ofNat_eq_natCast:=λ_=>rfl,nsmul_eq_natCast_mul:=λ_ _=>rfl
    intCast:=⟨ic zero one add neg⟩,zsmul:=⟨λi a=>mul (ic zero one add neg i) a⟩
    neg_add_cancel:=na,sub_eq_add_neg:=λ_ _=>rfl
    neg_zsmul:=λi a=>by
      show mul (ic zero one add neg (-i)) a=neg (mul (ic zero one add neg i) a)
      rw[Xx,nm]
    zsmul_natCast_eq_nsmul:=λ_ _=>rfl,intCast_ofNat:=λ_=>rfl,intCast_neg:=Xx,mul_comm:=mc }
end mk
@[ext] structure cV (α:Type) where
 c:Nat->α
section ser
variable {α:Type} [CommRing α]
def tl (a:cV α):cV α:=⟨λi=>a.c (i+1)⟩
def QN (x:α)(a:cV α):cV α:=⟨λi=>x*a.c i⟩
def IE (a b:cV α):cV α:=⟨λi=>a.c i+b.c i⟩
def U9 (a:cV α):cV α:=⟨λi=>- a.c i⟩
def E8:cV α:=⟨λ_=>0⟩
def cst (x:α):cV α:=⟨λi=>if i=0 then x else 0⟩
def c9 (a b:cV α):Nat->α
 | 0=>a.c 0*b.c 0
 | k+1=>a.c 0*b.c (k+1)+c9 (tl a) b k
def smul (a b:cV α):cV α:=⟨c9 a b⟩
theorem sJ (b:cV α):∀k,c9 E8 b k=0
 | 0=>by show(0:α)*b.c 0=0;grind
 | k+1=>by
  have:=sJ b k
  show(0:α)*b.c (k+1)+c9 E8 b k=0
  grind
theorem nU (c:cV α):∀(k:Nat) (a b:cV α),c9 (IE a b) c k=c9 a c k+c9 b c k
 | 0,a,b=>by show(a.c 0+b.c 0)*c.c 0=a.c 0*c.c 0+b.c 0*c.c 0;grind
 | k+1,a,b=>by
  have:=nU c k (tl a) (tl b)
  show(a.c 0+b.c 0)*c.c (k+1)+c9 (IE (tl a) (tl b)) c k=(a.c 0*c.c (k+1)+c9 (tl a) c k)+(b.c 0*c.c (k+1)+c9 (tl b) c k)
  grind
theorem uU (x:α)(c:cV α):∀(k:Nat) (a:cV α),c9 (QN x a) c k=x*c9 a c k
 | 0,a=>by show(x*a.c 0)*c.c 0=x*(a.c 0*c.c 0);grind
 | k+1,a=>by
  have:=uU x c k (tl a)
  show(x*a.c 0)*c.c (k+1)+c9 (QN x (tl a)) c k=x*(a.c 0*c.c (k+1)+c9 (tl a) c k)
  grind
theorem BB:∀(k:Nat) (a b:cV α),c9 a b (k+1)=c9 a (tl b) k+a.c (k+1)*b.c 0
 | 0,a,b=>rfl
 | k+1,a,b=>by
  have:=BB k (tl a) b
  show a.c 0*b.c (k+2)+c9 (tl a) b (k+1)=(a.c 0*b.c (k+2)+c9 (tl a) (tl b) k)+a.c (k+2)*b.c 0
  have e:(tl a).c (k+1)=a.c (k+2):=rfl;grind
theorem pD:∀(k:Nat) (a b:cV α),c9 a b k=c9 b a k
 | 0,a,b=>by show a.c 0*b.c 0=b.c 0*a.c 0;grind
 | k+1,a,b=>by
  have:=pD k (tl a) b
  rw[BB k b a];show a.c 0*b.c (k+1)+c9 (tl a) b k=_
  grind
theorem Mh (a b:cV α):tl (smul a b)=IE (QN (a.c 0) (tl b)) (smul (tl a) b):=rfl
theorem BC (c:cV α):∀(k:Nat) (a b:cV α),c9 (smul a b) c k=c9 a (smul b c) k
 | 0,a,b=>by show(a.c 0*b.c 0)*c.c 0=a.c 0*(b.c 0*c.c 0);grind
 | k+1,a,b=>by
  have:=BC c k (tl a) b
  show(a.c 0*b.c 0)*c.c (k+1)+c9 (tl (smul a b)) c k=a.c 0*(b.c 0*c.c (k+1)+c9 (tl b) c k)+c9 (tl a) (smul b c) k
  rw[Mh,nU,uU];show _+(_+c9 (smul (tl a) b) c k)=_
  grind
theorem IF (x:α)(b:cV α):∀k,c9 (cst x) b k=x*b.c k
 | 0=>rfl
 | k+1=>by
  have e:tl (cst x)=E8:=by
   apply cV.ext;funext i;show(if i+1=0 then x else 0)=(0:α);rw[W8 (by omega)]
  show(if 0=0 then x else 0)*b.c (k+1)+c9 (tl (cst x)) b k=x*b.c (k+1)
  rw[e,sJ,W9 rfl];grind
instance:CommRing (cV α):=U8 E8 (cst 1) IE smul U9
 (λa=>by apply cV.ext;funext i;show a.c i+0=a.c i;grind) (λa b=>by apply cV.ext;funext i;show a.c i+b.c i=b.c i+a.c i;grind)
 (λa b c=>by apply cV.ext;funext i;show a.c i+b.c i+c.c i=a.c i+(b.c i+c.c i);grind) (λa b c=>by apply cV.ext;funext i;exact BC c i a b)
 (λa=>by apply cV.ext;funext i;show c9 a (cst 1) i=a.c i;rw[pD,IF];grind)
 (λa b c=>by apply cV.ext;funext i;show c9 a (IE b c) i=c9 a b i+c9 a c i;rw[pD,nU,pD _ b,pD _ c])
 (λa b=>by apply cV.ext;funext i;exact pD i a b) (λa=>by apply cV.ext;funext i;show-a.c i+a.c i=0;grind)
theorem Nt (a b:cV α)(i:Nat):(a+b).c i=a.c i+b.c i:=rfl
theorem R1 (a:cV α)(i:Nat):(-a).c i=- a.c i:=rfl
theorem IG (a b:cV α)(i:Nat):(a-b).c i=a.c i-b.c i:=by
 show a.c i+- b.c i=_
 grind
theorem pF (x:α)(a:cV α)(i:Nat):(cst x*a).c i=x*a.c i:=IF x a i
end ser
end Alg
namespace Alg
open Lean.Grind
section
variable {α:Type} [CommRing α]
def Dg (a:cV α)(n:Nat):Prop:=∀i,n<=i->a.c i=0
def tY (a:cV α):Prop:=∃N,Dg a N
theorem Dg.mono {a:cV α}{m n:Nat}(h:Dg a m)(k:m<=n):Dg a n:=λi hi=>h i (by omega)
theorem Dg.add {a b:cV α}{n:Nat}(h:Dg a n)(k:Dg b n):Dg (a+b) n:=λi hi=>by rw[Nt,h i hi,k i hi];grind
theorem Dg.neg {a:cV α}{n:Nat}(h:Dg a n):Dg (-a) n:=λi hi=>by rw[R1,h i hi];grind
theorem Dg.sub {a b:cV α}{n:Nat}(h:Dg a n)(k:Dg b n):Dg (a-b) n:=λi hi=>by rw[IG,h i hi,k i hi];grind
theorem Dg.zero (n:Nat):Dg (0:cV α) n:=λi _=>rfl
theorem Dg.cst (x:α):Dg (cst x) 1:=λi hi=>by show(if i=0 then x else 0)=0;rw[W8 (by omega)]
theorem Dg.one:Dg (1:cV α) 1:=Dg.cst 1
theorem Dg.tl {a:cV α}{n:Nat}(h:Dg a (n+1)):Dg (tl a) n:=λi hi=>h (i+1) (by omega)
theorem Dg.eq0 {a:cV α}(h:Dg a 0):a=0:=by
 apply cV.ext;funext i;exact h i (Y1 _)
theorem Pa {a:cV α}(h:Dg a 1):a=Alg.cst (a.c 0):=by
 apply cV.ext;funext i
 show a.c i=if i=0 then a.c 0 else 0
 by_cases e:i=0
 ·rw[W9 e,e]
 ·rw[W8 e];exact h i (by omega)
theorem z9 (b:cV α)(n:Nat)(hb:Dg b (n+1)):∀(m:Nat) (a:cV α),Dg a (m+1)->(a*b).c (m+n)=a.c m*b.c n/\Dg (a*b) (m+n+1)
 | 0,a,ha=>by
  rw[Pa ha];refine⟨by rw[W2,pF];rfl,λi hi=>?_⟩
  rw[pF,hb i (by omega)];grind
 | m+1,a,ha=>by
  obtain⟨h1,h2⟩:=z9 b n hb m (tl a) ha.tl;have s:∀k,(a*b).c (k+1)=a.c 0*b.c (k+1)+(tl a*b).c k:=λk=>rfl
  refine⟨?_,λi hi=>?_⟩
  ·have e:m+1+n=(m+n)+1:=by omega
   rw[e,s,h1,hb _ (by omega)]
   show _+a.c (m+1)*_=_
   grind
  ·obtain⟨k,rfl⟩:∃k,i=k+1:=⟨i-1,by omega⟩
   rw[s,hb _ (by omega),h2 _ (by omega)];grind
theorem Dg.mul {a b:cV α}{m n:Nat}(ha:Dg a m)(hb:Dg b n):Dg (a*b) (m+n):=λi hi=>by
 obtain⟨h1,h2⟩:=z9 b n (hb.mono (by omega)) m a (ha.mono (by omega))
 by_cases e:i=m+n
 ·rw[e,h1,ha m (Yd _)];grind
 ·exact h2 i (by omega)
theorem tY.add {a b:cV α}:tY a->tY b->tY (a+b):=λ⟨m,h⟩ ⟨n,k⟩=>⟨m+n,(h.mono (by omega)).add (k.mono (by omega))⟩
theorem tY.neg {a:cV α}:tY a->tY (-a):=λ⟨m,h⟩=>⟨m,h.neg⟩
theorem tY.mul {a b:cV α}:tY a->tY b->tY (a*b):=λ⟨m,h⟩ ⟨n,k⟩=>⟨m+n,h.mul k⟩
theorem tY.zero:tY (0:cV α):=⟨0,Dg.zero 0⟩
theorem tY.cst (x:α):tY (cst x):=⟨1,Dg.cst x⟩
theorem cK {β:Type}[CommRing β](x:β)(n:Nat):x ^ (n+1)=x ^ n*x:=Semiring.pow_succ x n
theorem dj {β:Type}[CommRing β](x:β):x ^ 0=1:=Semiring.pow_zero x
theorem II {β:Type}[CommRing β](x:β)(m:Nat):∀n,x ^ (m+n)=x ^ m*x ^ n
 | 0=>by rw[Nat.add_zero,dj];grind
 | n+1=>by rw[<- Nat.add_assoc,cK,II x m n,cK];grind
theorem IJ {β:Type}[CommRing β]:∀n:Nat,(1:β) ^ n=1
 | 0=>dj _
 | n+1=>by rw[cK,IJ n];grind
theorem Du {β:Type}[CommRing β](x y:β):∀n:Nat,(x*y) ^ n=x ^ n*y ^ n
 | 0=>by rw[dj,dj,dj];grind
 | n+1=>by rw[cK,Du x y n,cK,cK];grind
theorem Dv {β:Type}[CommRing β](x:β)(m:Nat):∀n,x ^ (m*n)=(x ^ m) ^ n
 | 0=>by rw[Nat.mul_zero,dj,dj]
 | n+1=>by rw[W3,II,Dv x m n,cK]
def mon (x:α)(k:Nat):cV α:=⟨λi=>if i=k then x else 0⟩
theorem sL (x:α)(b:cV α):∀k i,(mon x k*b).c i=if k<=i then x*b.c (i-k) else 0
 | 0,i=>by
  have e:mon x 0=cst x:=rfl;rw[e,pF,W9 (Y1 _)];rfl
 | k+1,0=>by
  show(if 0=k+1 then x else 0)*b.c 0=_
  rw[W8 (by omega),W8 (by omega)];grind
 | k+1,i+1=>by
  have e:tl (mon x (k+1))=mon x k:=by
   apply cV.ext;funext j
   show(if j+1=k+1 then x else 0)=if j=k then x else 0
   by_cases h:j=k
   ·rw[W9 h,W9 (by omega)]
   ·rw[W8 h,W8 (by omega)]
  show(if 0=k+1 then x else 0)*b.c (i+1)+(tl (mon x (k+1))*b).c i=_
  rw[e,sL x b k i,W8 (by omega)]
  by_cases h:k<=i
  ·rw[W9 h,W9 (by omega)]
   have:i+1-(k+1)=i-k:=by omega
   rw[this];grind
  ·rw[W8 h,W8 (by omega)];grind
theorem Dg.mon (x:α)(k:Nat):Dg (mon x k) (k+1):=λi hi=>by show(if i=k then x else 0)=0;rw[W8 (by omega)]
structure dR (f:cV α)(n:Nat):Prop where
 top:f.c n=1
 dg:Dg f (n+1)
theorem IK {f:cV α}{n:Nat}(hf:dR f n):∀(N:Nat) (a:cV α),Dg a N->∃q,Dg q (N-n)/\Dg (a-q*f) n
 | 0,a,ha=>⟨0,Dg.zero _,by
   have:a-0*f=a:=by grind
   rw[this];exact ha.mono (Y1 _)⟩
 | N+1,a,ha=>by
  by_cases hn:N+1<=n
  ·refine⟨0,Dg.zero _,?_⟩
   have:a-0*f=a:=by grind
   rw[this];exact ha.mono hn
  ·have hd:Dg (a-Alg.mon (a.c N) (N-n)*f) N:=λi hi=>by
    rw[IG,sL,W9 (by omega)]
    by_cases e:i=N
    ·have:N-(N-n)=n:=by omega
     rw[e,this,hf.top];grind
    ·rw[ha i (by omega),hf.dg _ (by omega)];grind
   obtain⟨q,h1,h2⟩:=IK hf N _ hd;refine⟨q+Alg.mon (a.c N) (N-n),?_,?_⟩
   ·refine(h1.mono (by omega)).add ?_
    have:N+1-n=N-n+1:=by omega
    rw[this];exact Dg.mon _ _
   ·have:a-(q+Alg.mon (a.c N) (N-n))*f=a-Alg.mon (a.c N) (N-n)*f-q*f:=by grind
    rw[this];exact h2
theorem BD {f:cV α}{n:Nat}(hf:dR f n):∀(M:Nat) (q:cV α),Dg q M->Dg (q*f) n->q=0
 | 0,q,h,_=>h.eq0
 | M+1,q,h,k=>by
  have e:=(z9 f n hf.dg M q h).1;rw[k _ (by omega),hf.top] at e
  refine BD hf M q (λi hi=>?_) k
  by_cases z:i=M
  ·rw[z];grind
  ·exact h i (by omega)
def Cg (f a b:cV α):Prop:=∃q,tY q/\a-b=q*f
theorem Cg.refl (f a:cV α):Cg f a a:=⟨0,tY.zero,by grind⟩
theorem Cg.symm {f a b:cV α}:Cg f a b->Cg f b a:=λ⟨q,h,e⟩=>⟨-q,h.neg,by grind⟩
theorem Cg.trans {f a b c:cV α}:Cg f a b->Cg f b c->Cg f a c:=λ⟨q,h,e⟩ ⟨r,k,g⟩=>⟨q+r,h.add k,by grind⟩
theorem Cg.add {f a b c d:cV α}:Cg f a b->Cg f c d->Cg f (a+c) (b+d):=λ⟨q,h,e⟩ ⟨r,k,g⟩=>⟨q+r,h.add k,by grind⟩
theorem Cg.mul {f a b c d:cV α}(pb:tY b)(pc:tY c):Cg f a b->Cg f c d->Cg f (a*c) (b*d):=λ⟨q,h,e⟩ ⟨r,k,g⟩=>⟨q*c+b*r,(h.mul pc).add (pb.mul k),by grind⟩
theorem Cg.uniq {f:cV α}{n:Nat}(hf:dR f n){a b:cV α}(ha:Dg a n)(hb:Dg b n)(h:Cg f a b):a=b:=by
 obtain⟨q,⟨M,hq⟩,e⟩:=h;have z:=BD hf M q hq (by rw[<- e];exact ha.sub hb)
 rw[z] at e;grind
end
structure Md (α:Type)[CommRing α] where
 f:cV α
 n:Nat
 mon:dR f n
 pos:0<n
section
variable {α:Type} [CommRing α]
@[ext] structure Qt (M:Md α) where
 s:cV α
 lt:Dg s M.n
theorem E_ (M:Md α)(a:cV α)(ha:tY a):∃r,Dg r M.n/\Cg M.f a r:=by
 obtain⟨N,h⟩:=ha;obtain⟨q,h1,h2⟩:=IK M.mon N a h;exact⟨a-q*M.f,h2,q,⟨_,h1⟩,by grind⟩
open Classical in
noncomputable def rest (M:Md α)(a:cV α):cV α:=if h:∃r,Dg r M.n/\Cg M.f a r then h.choose else 0
theorem pG (M:Md α)(a:cV α):Dg (rest M a) M.n:=by
 unfold rest;split
 ·rename_i h;exact h.choose_spec.1
 ·exact Dg.zero _
theorem sO {M:Md α}{a:cV α}(ha:tY a):Cg M.f a (rest M a):=by
 unfold rest;rw[dif_pos (E_ M a ha)];exact(E_ M a ha).choose_spec.2
theorem rest_eq {M:Md α}{a r:cV α}(hr:Dg r M.n)(h:Cg M.f a r):rest M a=r:=by
 have ex:∃r,Dg r M.n/\Cg M.f a r:=⟨r,hr,h⟩;refine Cg.uniq M.mon (pG M a) hr (Cg.trans (Cg.symm ?_) h)
 unfold rest;rw[dif_pos ex];exact ex.choose_spec.2
theorem Qt.Dw {M:Md α}(x:Qt M):tY x.s:=⟨_,x.lt⟩
noncomputable def Qt.of (M:Md α)(a:cV α):Qt M:=⟨rest M a,pG M a⟩
theorem Pb (M:Md α):Dg (1:cV α) M.n:=Dg.one.mono M.pos
noncomputable instance (M:Md α):CommRing (Qt M):=U8 ⟨0,Dg.zero _⟩ ⟨1,Pb M⟩ (λa b=>⟨a.s+b.s,a.lt.add b.lt⟩) (λa b=>Qt.of M (a.s*b.s)) (λa=>⟨-a.s,a.lt.neg⟩)
 (λa=>by apply Qt.ext;show a.s+0=a.s;grind) (λa b=>by apply Qt.ext;show a.s+b.s=b.s+a.s;grind) (λa b c=>by apply Qt.ext;show a.s+b.s+c.s=a.s+(b.s+c.s);grind)
 (λa b c=>by
  apply Qt.ext
  show rest M (rest M (a.s*b.s)*c.s)=rest M (a.s*rest M (b.s*c.s))
  refine rest_eq (pG _ _) ?_
  have h1:Cg M.f (rest M (a.s*b.s)*c.s) (a.s*b.s*c.s):=Cg.mul (a.Dw.mul b.Dw) c.Dw (sO (a.Dw.mul b.Dw)).symm (Cg.refl _ _);have h2:Cg M.f (a.s*(b.s*c.s)) (a.s*rest M (b.s*c.s)):=Cg.mul a.Dw (b.Dw.mul c.Dw) (Cg.refl _ _) (sO (b.Dw.mul c.Dw));have e:a.s*b.s*c.s=a.s*(b.s*c.s):=by grind
  rw[e] at h1;exact h1.trans (h2.trans (sO (a.Dw.mul ⟨_,pG _ _⟩))))
 (λa=>by
  apply Qt.ext
  show rest M (a.s*1)=a.s
  refine rest_eq a.lt ?_
  have e:a.s*1=a.s:=by grind
  rw[e];exact Cg.refl _ _)
 (λa b c=>by
  apply Qt.ext
  show rest M (a.s*(b.s+c.s))=rest M (a.s*b.s)+rest M (a.s*c.s)
  refine rest_eq ((pG _ _).add (pG _ _)) ?_
  have e:a.s*(b.s+c.s)=a.s*b.s+a.s*c.s:=by grind
  rw[e];exact Cg.add (sO (a.Dw.mul b.Dw)) (sO (a.Dw.mul c.Dw)))
 (λa b=>by
  apply Qt.ext
  show rest M (a.s*b.s)=rest M (b.s*a.s)
  have e:a.s*b.s=b.s*a.s:=by grind
  rw[e])
 (λa=>by apply Qt.ext;show -a.s+a.s=0;grind)
theorem R3 {M:Md α}(a b:Qt M):(a+b).s=a.s+b.s:=rfl
theorem R4 {M:Md α}(a:Qt M):(-a).s=-a.s:=rfl
theorem Nu {M:Md α}(a b:Qt M):(a*b).s=rest M (a.s*b.s):=rfl
end
end Alg
namespace Alg
open Lean.Grind
section
variable {α:Type} [CommRing α]
theorem Mi (x y:α):cst (x+y)=cst x+cst y:=by
 apply cV.ext;funext i
 show(if i=0 then x+y else 0)=(if i=0 then x else 0)+(if i=0 then y else 0)
 split <;> grind
theorem IL:cst (0:α)=0:=by
 apply cV.ext;funext i
 show(if i=0 then (0:α) else 0)=0
 split <;> rfl
def X:cV α:=mon 1 1
theorem tY.X:tY (X:cV α):=⟨2,Dg.mon 1 1⟩
end
section
variable {α:Type} [CommRing α]
def Fld (α:Type)[CommRing α]:Prop:=(1:α)≠0/\∀x:α,x≠0->∃y,x*y=1
def go (a:Nat):List Nat->List Nat
 | []=>[a]
 | c::l=>(a+c)::go c l
def row:Nat->List Nat
 | 0=>[1]
 | n+1=>go 0 (row n)
def nt (α:Type)[CommRing α]:Nat->α
 | 0=>0
 | n+1=>nt α n+1
theorem wW (a:Nat):∀b:Nat,nt α (a+b)=nt α a+nt α b
 | 0=>by show nt α a=nt α a+0;grind
 | b+1=>by
  have e:=wW a b;show nt α (a+b)+1=nt α a+(nt α b+1)
  rw[e];grind
theorem tZ (a:Nat):∀b:Nat,nt α (a*b)=nt α a*nt α b
 | 0=>by show(0:α)=nt α a*0;grind
 | b+1=>by
  rw[W3,wW,tZ a b];show _=nt α a*(nt α b+1)
  grind
theorem Mj:nt α 0=0:=rfl
theorem wX:nt α 1=1:=by show(0:α)+1=1;grind
def hs (x y:α):List Nat->α
 | []=>0
 | c::l=>nt α c*y ^ l.length+x*hs x y l
theorem IM:∀(a:Nat) (l:List Nat),(go a l).length=l.length+1
 | _,[]=>rfl
 | _,c::l=>Jd (·+1) (IM c l)
theorem Nv (x y:α):∀(a:Nat) (l:List Nat),hs x y (go a l)=nt α a*y ^ l.length+(x+y)*hs x y l
 | a,[]=>by
  show nt α a*y ^ 0+x*0=nt α a*y ^ 0+(x+y)*0
  grind
 | a,c::l=>by
  have e:=Nv x y c l;show nt α (a+c)*y ^ (go c l).length+x*hs x y (go c l)=nt α a*y ^ (l.length+1)+(x+y)*(nt α c*y ^ l.length+x*hs x y l)
  rw[IM,e,wW,cK];grind
theorem IP (x y:α):∀n:Nat,(x+y) ^ n=hs x y (row n)
 | 0=>by
  show _=nt α 1*y ^ 0+x*0
  rw[dj,dj,wX];grind
 | n+1=>by
  show _=hs x y (go 0 (row n))
  rw[Nv,cK,IP x y n,Mj];grind
def Nx (p:Nat):Bool:=(row p).head? == j? 1 && (row p).getLast? == j? 1 && ((row p).drop 1).dropLast.all (λc=>c % p == 0) && (row p).length == p+1 && decide (2<=p)
def PR:List Nat:=[2,3,5,7,11,13,17,19,23,29,31,37,41,43,47]
theorem Pc:∀p∈PR,Nx p=true:=by decide +kernel
end
end Alg
namespace Alg
open Lean.Grind
section
variable {α:Type} [CommRing α]
theorem vK {β:Type}[CommRing β]{q:Nat}(h:0<q):(0:β) ^ q=0:=by
 obtain⟨k,rfl⟩:∃k,q=k+1:=⟨q-1,by omega⟩
 rw[cK];grind
end
end Alg
namespace Alg
open Lean.Grind
inductive El where
 | num (n:Int)
 | vec (l:List El)
inductive Gs:Nat->El->Prop where
 | num {n:Nat} (i:Int):Gs n (.num i)
 | vec {n:Nat} {l:List El}:l.length<=100->(∀e∈l,Gs n e)->Gs (n+1) (.vec l)
structure QO:Type 1 where
 α:Type
 ring:CommRing α
 p:Nat
 d:Nat
 pr:p∈PR
 fld:Fld α
 ch:nt α p=0
 fr:∀x:α,x ^ (p ^ d)=x
 enc:α->El
 inj:∀x y,enc x=enc y->x=y
 ht:Nat
 fl:∀x,Gs ht (enc x)
instance QO.rg (T:QO):Lean.Grind.CommRing T.α:=T.ring
theorem cY {p:Nat}(h:p∈PR):2<=p/\p<50:=by
 revert p;decide
def IQ (p:Nat)(x:Nat):Nat->Nat
 | 0=>1 % p
 | n+1=>IQ p x n*x % p
theorem Dz:∀p∈PR,∀x,x<p->x≠0->∃y,y<p/\x*y % p=1 % p:=by
 have h:(PR.all λp=>(Ym p).all λx=>x == 0 || (Ym p).any λy=>x*y % p == 1 % p)=true:=by decide +kernel
 intro p hp x hx x0;rw[Wc] at h;have h2:=h p hp;rw[Wc] at h2;have h3:=h2 x (List.mem_range.mpr hx);rw[Bool.or_eq_true] at h3;rcases h3 with z|z
 ·exact Jf (by simpa using z) x0
 ·rw[List.any_eq_true] at z
  obtain⟨y,h4,h5⟩:=z;exact⟨y,List.mem_range.mp h4,by simpa using h5⟩
theorem Pe:∀p∈PR,∀x,x<p->IQ p x p=x:=by
 have h:(PR.all λp=>(Ym p).all λx=>IQ p x p == x)=true:=by decide +kernel
 intro p hp x hx;rw[Wc] at h;have h2:=h p hp;rw[Wc] at h2;simpa using h2 x (List.mem_range.mpr hx)
@[ext] structure Zp (p:Nat) where
 v:Nat
 lt:v<p
def U_ {p:Nat}(h:0<p)(n:Nat):Zp p:=⟨n % p,Nat.mod_lt _ h⟩
@[reducible] def sP {p:Nat} (h:2<=p):CommRing (Zp p):=U8 ⟨0,by omega⟩ ⟨1,by omega⟩ (λa b=>U_ (by omega) (a.v+b.v)) (λa b=>U_ (by omega) (a.v*b.v)) (λa=>U_ (by omega) (p-a.v))
 (λa=>by apply Zp.ext;show(a.v+0) % p=a.v;rw[Nat.add_zero];exact Z5 a.lt)
 (λa b=>by apply Zp.ext;show(a.v+b.v) % p=(b.v+a.v) % p;rw[Nat.add_comm])
 (λa b c=>by apply Zp.ext;show((a.v+b.v) % p+c.v) % p=(a.v+(b.v+c.v) % p) % p;rw[Nat.mod_add_mod,Nat.add_mod_mod,Nat.add_assoc])
 (λa b c=>by apply Zp.ext;show((a.v*b.v) % p*c.v) % p=(a.v*((b.v*c.v) % p)) % p;rw[Nat.mod_mul_mod,Nat.mul_mod_mod,Wo])
 (λa=>by apply Zp.ext;show(a.v*1) % p=a.v;rw[Nat.mul_one];exact Z5 a.lt)
 (λa b c=>by apply Zp.ext;show(a.v*((b.v+c.v) % p)) % p=((a.v*b.v) % p+(a.v*c.v) % p) % p;rw[Nat.mul_mod_mod,W7,Nat.mod_add_mod,Nat.add_mod_mod])
 (λa b=>by apply Zp.ext;show(a.v*b.v) % p=(b.v*a.v) % p;rw[Ws])
 (λa=>by
  apply Zp.ext
  show((p-a.v) % p+a.v) % p=0
  rw[Nat.mod_add_mod];have:=a.lt
  have e:p-a.v+a.v=p:=by omega
  rw[e,Nat.mod_self])
section
variable {p:Nat} (h:2<=p)
theorem IS (x:Zp p):∀n:Nat,(letI:=sP h;x ^ n:Zp p).v=IQ p x.v n
 | 0=>by
  show 1=1 % p
  exact(Z5 (by omega)).symm
 | n+1=>by
  have e:=IS x n;show((letI:=sP h;x ^ n:Zp p).v*x.v) % p=IQ p x.v n*x.v % p
  rw[e]
theorem IT:∀n:Nat,(letI:=sP h;nt (Zp p) n:Zp p).v=n % p
 | 0=>(Nat.zero_mod p).symm
 | n+1=>by
  have e:=IT n;show((letI:=sP h;nt (Zp p) n:Zp p).v+1) % p=(n+1) % p
  rw[e,Nat.mod_add_mod]
end
def ground (p:Nat)(hp:p∈PR):QO where
 α:=Zp p
 ring:=sP (cY hp).1
 p:=p
 d:=1
 pr:=hp
 fld:=by
  letI:=sP (cY hp).1
  have p2:=(cY hp).1;refine⟨λz=>?_,λx hx=>?_⟩
  ·have e:(1:Nat)=0:=Jd Zp.v z
   omega
  ·obtain⟨y,h1,h2⟩:=Dz p hp x.v x.lt λz=>hx (Zp.ext z)
   refine⟨⟨y,h1⟩,Zp.ext ?_⟩
   show x.v*y % p=1
   rw[h2];exact Z5 (by omega)
 ch:=by
  letI:=sP (cY hp).1
  apply Zp.ext
  rw[IT (cY hp).1,Nat.mod_self];rfl
 fr:=λx=>by
  letI:=sP (cY hp).1
  apply Zp.ext
  rw[IS (cY hp).1,Nat.pow_one];exact Pe p hp x.v x.lt
 enc:=λx=>.num x.v
 inj:=λx y e=>by
  apply Zp.ext
  injection e with e
  exact Int.ofNat.inj e
 ht:=0
 fl:=λx=>.num _
end Alg
namespace L2
open PySem PySem.Spec PyProof.Rows
def TQ (K:bE)(a b:o?):It:=
 ⟨λi H=>∃xs ys x y,aP K H a xs/\aP K H b ys/\xs[i]?=j? x/\ys[i]?=j? y,
  λi H v H'=>∃r x y,v=.ref r/\H r=q?/\(∀xs,aP K H a xs->xs[i]?=j? x)/\(∀ys,aP K H b ys->ys[i]?=j? y)/\H'=upd H r (.tup [x,y]),
  λi H=>∃xs ys,aP K H a xs/\aP K H b ys/\(xs.length<=i\/ys.length<=i)⟩
theorem IU {P:F?}{w:H?}{K:bE}{elts:List Expr}{k:Nat}{pos:Pos}(a b z TI TO i1 i2:o?)(D:ZipApart z TI TO i1 i2 a b):
  Turn P w K (.Tuple elts k pos) (TQ K a b) [z,TI,TO,i1,i2] z (λi h=>IsZip h z TI TO .none/\IsPair h TI (.ref i1) (.ref i2)/\(∃a b,IsPair h TO a b)/\h.IsListIter i1 a i/\h.IsListIter i2 b i) where
 mem:=by simp
 obj:=λi h x c hc=>by
  obtain⟨hz,hTI,⟨u,v,hTO⟩,⟨o1,h1,_,d1⟩,⟨o2,h2,_,d2⟩⟩:=x;simp only[Wp,Z6,or_false] at hc
  rcases hc with rfl|rfl|rfl|rfl|rfl
  ·exact⟨_,hz,λv z=>by have z':Data.fields _=Data.cell v:=z;cases z'⟩
  ·exact⟨_,hTI,λv z=>by have z':Data.seq _ _=Data.cell v:=z;cases z'⟩
  ·exact⟨_,hTO,λv z=>by have z':Data.seq _ _=Data.cell v:=z;cases z'⟩
  ·exact⟨o1,h1,λv z=>by rw[d1] at z;cases z⟩
  ·exact⟨o2,h2,λv z=>by rw[d2] at z;cases z⟩
 keep:=λi h h' x kk=>by
  obtain⟨hz,hTI,⟨u,v,hTO⟩,h1,h2⟩:=x;exact⟨kk z (by simp) _ hz,kk TI (by simp) _ hTI,⟨u,v,kk TO (by simp) _ hTO⟩,h1.at λo ho=>kk i1 (by simp) o ho,h2.at λo ho=>kk i2 (by simp) o ho⟩
 item:=by
  intro X hP hw hK hc i pins s σ H E I hf x hg;subst hP hw hK;obtain⟨xs,ys,vx,vy,QS,QT,hx,hy⟩:=hg;obtain⟨its,rv,p,_⟩:=I.list QS;obtain⟨Xy,rw',p',_⟩:=I.list QT;obtain⟨ux,hux,rux⟩:=rv.get hx;obtain⟨uy,huy,ruy⟩:=rw'.get hy;obtain⟨hz,hTI,⟨u,v,hTO⟩,h1,h2⟩:=x;have hn0:H s.heap.objs.size=q?:=I.fresh;have hzl:z<s.heap.objs.size:=Yl hz;have aaP:TO<s.heap.objs.size:=Yl hTO;have aaQ:TI<s.heap.objs.size:=Yl hTI;have h1l:i1<s.heap.objs.size:=by obtain⟨_,y,_⟩:=id h1;exact Yl y
  have h2l:i2<s.heap.objs.size:=by obtain⟨_,y,_⟩:=id h2;exact Yl y
  refine wpAny_pyNext_zip_item (x:=ux) (y:=uy) D hz hTI hTO h1 h2 p.isList p'.isList (by simpa using hux) (by simpa using huy) λh' a1 a2 a3 a4 a5 a6 a7=>?_
  refine⟨_,rfl,wpAny_letOwnedTupleGo_zip a1 λh3 b1 QU=>?_⟩
  have hT2:h3.get? s.heap.objs.size=j? { cls:=.type "tuple",data:=.seq #[ux,uy] }:=(QU.2 _ (Nat.ne_of_gt hzl)).trans a5;have I2:Inv X pins σ (upd H s.heap.objs.size (.tup [vx,vy])) { s with heap:=h3 }:=
   I.yU (t':=s.toks) (ch:=[z,TI,TO,i1,i2]) (λc o hc q=>(QU.2 c λe=>hc (by simp[e])).trans (a7 c o (λe=>hc (by simp[e])) (λe=>hc (by simp[e])) (λe=>hc (by simp[e])) (λe=>hc (by simp[e])) q)) hf (Yd _)
    ⟨by show 2<=K?;rw[C?];omega,[ux,uy],.cons rux (.cons ruy .nil),_,hT2,rfl,0,rfl⟩
  refine⟨.ref s.heap.objs.size,_,I2,rfl,⟨_,vx,vy,rfl,hn0,λzs hzs=>by rw[I.rP hzs QS];exact hx,λzs hzs=>by rw[I.rP hzs QT];exact hy,rfl⟩,⟨b1,?_,⟨_,_,(QU.2 TO D.TOz).trans a2⟩,?_,?_⟩,λc hc=>?_⟩
  ·exact(QU.2 TI D.TIz).trans (a7 TI _ D.TIz D.TITO D.TIi1 D.TIi2 hTI)
  ·exact a3.at λo q=>(QU.2 i1 D.i1z).trans q
  ·exact a4.at λo q=>(QU.2 i2 D.i2z).trans q
  ·have hc0:=(hf c hc).1
   rw[aO ?_]
   ·exact hc0
   ·simp only[Wp,Z6,or_false] at hc
    rcases hc with rfl|rfl|rfl|rfl|rfl <;> exact Yq ‹_›
 done:=by
  intro X hP hw hK hc i pins s σ H E I hf x hg;subst hP hw hK;obtain⟨xs,ys,QS,QT,hle⟩:=hg;obtain⟨its,rv,p,_⟩:=I.list QS;obtain⟨Xy,rw',p',_⟩:=I.list QT;obtain⟨hz,hTI,⟨u,v,hTO⟩,h1,h2⟩:=x;have l1:=rv.length;have l2:=rw'.length;refine wpAny_pyNext_zip_end (I.ok.hd hc) D hz hTI hTO h1 h2 p.isList p'.isList (by rcases hle with z|z;exact .inl (by simp;omega);exact .inr (by simp;omega)) λh' hk=>?_
  exact⟨rfl,I.zO (t':=s.toks) (ch:=[z,TI,TO,i1,i2]) (λc o hc q=>hk c o (λe=>hc (by simp[e])) (λe=>hc (by simp[e])) (λe=>hc (by simp[e])) (λe=>hc (by simp[e])) q) hf⟩
 self:=λ_ _ _ _ _ x h=>wpAny_pyIter_zip x.1 h
section
variable {X:Cx} {elts:List Expr} {k:Nat} {tpos:Pos}
def R5 (K:bE)(ta:TA):TI:=λσ H R=>ta σ H λvs H1=>∃a b,vs=[.ref a,.ref b]/\(∃xs,aP K H1 a xs)/\(∃ys,aP K H1 b ys)/\R (TQ K a b) H1
theorem boot_zip:H! "zip"=j? (.type "zip"):=by decide +kernel
theorem Pf {l m:Expr}{ta:TA}{p pos:Pos}(hg:Gl X "zip")(hm:X.mg "zip"=q?)(ha:PA X [l,m] ta)(hs:I? [l,m] X.env=(false,eval l X.env)::I? [m] X.env:=by rfl)(ht:((backTo pos (I? [m] X.env)).any λx=>x.1)=false:=by rfl):
  PI X (.Tuple elts k tpos) (.Call (.Name "zip" p) [l,m] [] pos) (R5 X.K ta):=by
 intro pins s σ H R I h;refine Call_ (jC I hg hm boot_zip (M! (eU (ha pos pins s σ H _ I h) λus s1 ⟨vs,H1,I1,r1,q1⟩=>?_) hs ht))
 obtain⟨a,b,e,⟨xs,QS⟩,⟨ys,QT⟩,q⟩:=q1;subst e;obtain⟨u1,u2,rfl,x1,x2⟩:=vals2 r1;cases (show u1=I! a from x1)
 cases (show u2=I! b from x2)
 obtain⟨its,rv,pl,_⟩:=I1.list QS;obtain⟨Xy,rw',Xz,_⟩:=I1.list QT;have hla:a<s1.heap.objs.size:=by obtain⟨_,y,_⟩:=pl.isList;exact Yl y
 have hlb:b<s1.heap.objs.size:=by obtain⟨_,y,_⟩:=Xz.isList;exact Yl y
 refine call_zip_2 pl.isList Xz.isList λh' hz hTI hTO h1 h2 hsz hk=>?_
 refine wpAny_pyIter_zip hz ?_
 have I2:Inv X pins σ H1 { s1 with heap:=h' }:=I1.kept (t':=s1.toks) hk
 refine⟨_,[s1.heap.objs.size+4,s1.heap.objs.size+2,s1.heap.objs.size+3,s1.heap.objs.size,s1.heap.objs.size+1],_,_,H1,rfl,I2,IU a b (s1.heap.objs.size+4) (s1.heap.objs.size+2) (s1.heap.objs.size+3) s1.heap.objs.size (s1.heap.objs.size+1) ?_,⟨hz,hTI,⟨_,_,hTO⟩,h1,h2⟩,λc hc=>?_,q⟩
 ·generalize s1.heap.objs.size=n at*
  constructor <;> (simp only[o?] at *;omega)
 ·have hge:s1.heap.objs.size<=c:=by
   simp only[Wp,Z6,or_false] at hc
   rcases hc with rfl|rfl|rfl|rfl|rfl
   ·exact Wj _ _
   ·exact Wj _ _
   ·exact Wj _ _
   ·exact Yd _
   ·exact Wj _ _
  exact I1.u7 hge (I1.hok.fresh hge)
theorem vL {K:bE}{l m:Expr}{ta:TA}{p pos:Pos}(hK:X.K=K)(hg:Gl X "zip")(hm:X.mg "zip"=q?)(ha:PA X [l,m] ta)(hs:I? [l,m] X.env=(false,eval l X.env)::I? [m] X.env:=by rfl)(ht:((backTo pos (I? [m] X.env)).any λx=>x.1)=false:=by rfl):
  PI X (.Tuple elts k tpos) (.Call (.Name "zip" p) [l,m] [] pos) (R5 K ta):=by subst hK;exact Pf hg hm ha hs ht
end
theorem BE {K:bE}{a b D:o?}{xs ys:List V}{st:St}{g:TG}{pQ:TT}{te:TE}{H1:Hp}{Q:VK}(Pv:Nat->List V->Hp->Prop)(hle:xs.length=ys.length)(h0:Pv 0 [] (upd H1 D (.lst [])))
  (hl:∀i zs H2,H2 D=j? (.lst zs)->Pv i zs H2->aP K H2 a xs/\aP K H2 b ys)
  (hs:∀i m x y zs H2 r,m=xs.length-i->i<xs.length->xs[i]?=j? x->ys[i]?=j? y->H2 D=j? (.lst zs)->zs.length<=i->Pv i zs H2->H2 r=q?->g (.ref r) st (upd H2 r (.tup [x,y])) λσ3 H3=>pQ σ3 H3 λbb H4=>
   if bb=true then te σ3 H4 λy H5=>∃ys,H5 D=j? (.lst ys)/\ys.length<K?/\∃m',m'<m/\CW xs.length D Pv (i+1) m' (upd H5 D (.lst (ys++[y]))) else ∃m',m'<m/\CW xs.length D Pv (i+1) m' H4)
  (hd:∀zs H2,H2 D=j? (.lst zs)->Pv xs.length zs H2->Q (.ref D) H2):
  uO (TQ K a b) D st g pQ te Q H1:=by
 refine⟨CW xs.length D Pv,⟨xs.length,by simp,Y1 _,[],ay,Yd _,h0⟩,?_⟩
 rintro i m H2 ⟨hm,hi,zs,hz,hlen,p⟩;obtain⟨q1,q2⟩:=hl i zs H2 hz p;by_cases hlt:i<xs.length
 ·have IV:i<ys.length:=by omega
  refine .inr ⟨⟨xs,ys,xs[i],ys[i],q1,q2,by simp[hlt],by simp[IV]⟩,λv H' y=>?_⟩
  obtain⟨r,x,y',e1,hr,hx,hy,e2⟩:=y;subst e1 e2;exact hs i m x y' zs _ r hm hlt (hx xs q1) (hy ys q2) hz hlen p hr
 ·have e:i=xs.length:=by omega
  subst e;exact .inl ⟨⟨xs,ys,q1,q2,.inl (Yd _)⟩,hd zs H2 hz p⟩
end L2
namespace L2
open PySem PySem.Spec PyProof.Rows Alg
inductive Rep (H:Hp)(ok:o?->Prop):V->El->Prop where
 | num (n:Int):Rep H ok (.int n) (.num n)
 | vec {a:o?} {vs:List V} {l:List El} (h:H a=j? (.lst vs)) (k:ok a) (hl:vs.length=l.length) (r:∀(i:Nat) x e,vs[i]?=j? x->l[i]?=j? e->Rep H ok x e):Rep H ok (.ref a) (.vec l)
theorem Rep.imp {H H':Hp}{ok ok':o?->Prop}(f:∀b o,H b=j? o->ok b->H' b=j? o/\ok' b){v:V}{e:El}(R:Rep H ok v e):Rep H' ok' v e:=by
 induction R with
 | num n=>exact .num n
 | vec h k hl _ ih=>exact .vec (f _ _ h k).1 (f _ _ h k).2 hl ih
abbrev Any:o?->Prop:=λ_=>True
abbrev dX (H:Hp):o?->Prop:=λb=>H b=q?
theorem Rep.same {H H':Hp}{ok:o?->Prop}{v:V}{e:El}(R:Rep H ok v e)(g:aH H H'):Rep H' ok v e:=R.imp λb o h k=>⟨g b o h,k⟩
theorem Rep.any {H:Hp}{ok:o?->Prop}{v:V}{e:El}(R:Rep H ok v e):Rep H Any v e:=R.imp λb o h k=>⟨h,trivial⟩
theorem Rep.older {H H0 H1:Hp}{v:V}{e:El}(R:Rep H (dX H1) v e)(g:aH H0 H1):Rep H (dX H0) v e:=R.imp λb o h k=>⟨h,g.free k⟩
mutual
def toD:El->O!
 | .num n=>.int n
 | .vec l=>.list (pU l)
def pU:List El->List O!
 | []=>[]
 | e::l=>toD e::pU l
end
theorem wY:∀l:List El,pU l=l.map toD
 | []=>rfl
 | e::l=>by show toD e::pU l=_;rw[wY l];rfl
mutual
theorem z_:∀ {a b:El},toD a=toD b->a=b
 | .num n,.num m,h=>by
  have:PyData.int n=PyData.int m:=h
  injection this with e;rw[e]
 | .num n,.vec l,h=>by
  have:PyData.int n=PyData.list (pU l):=h
  cases this
 | .vec l,.num n,h=>by
  have:PyData.list (pU l)=PyData.int n:=h
  cases this
 | .vec l,.vec k,h=>by
  have:PyData.list (pU l)=PyData.list (pU k):=h
  injection this with e;rw[BF e]
theorem BF:∀ {a b:List El},pU a=pU b->a=b
 | [],[],_=>rfl
 | [],e::l,h=>by
  have:([]:List O!)=toD e::pU l:=h
  cases this
 | e::l,[],h=>by
  have:toD e::pU l=[]:=h
  cases this
 | e::l,f::k,h=>by
  have:toD e::pU l=toD f::pU k:=h
  injection this with h1 h2
  rw[z_ h1,BF h2]
end
theorem nV {n:Nat}{e:El}(h:Gs n e):Fl n (toD e):=by
 induction h with
 | num i=>exact .int i
 | @vec n l _ _ ih=>
  show Fl (n+1) (.list (pU l))
  rw[wY];exact .lst λd hd=>by
   obtain⟨e,he,rfl⟩:=List.mem_map.mp hd;exact ih e he
theorem Rep.den {K:bE}{H:Hp}{ok:o?->Prop}{v:V}{e:El}(R:Rep H ok v e):Den K H v (toD e):=by
 induction R with
 | num n=>exact .int n
 | @vec a vs l h k hl r ih=>
  show Den K H (.ref a) (.list (pU l))
  rw[wY];refine .lst (aP.of h) (by rw[Ya];exact hl) λi x d h1 h2=>?_
  rw[Ye] at h2;cases e:l[i]? with
  | none=>rw[e] at h2;cases h2
  | some y=>
   rw[e] at h2;cases h2;exact ih i x y h1 e
theorem Ny {K:bE}{H:Hp}{o1 o2:o?->Prop}{u v:V}{a b:El}{n m:Nat}{Q:VK}(R:Rep H o1 u a)(S:Rep H o2 v b)(f:Gs n a)(g:Gs m b)(hn:n<=64)(hm:m<=64)
  (q1:a=b->Q (.bl true) H) (q2:a≠b->Q (.bl false) H):zL K false u v H Q:=by
 refine⟨toD a,toD b,R.den,S.den,(nV f).shaped hn,(nV g).shaped hm,?_⟩
 show Q (.bl (E! (toD a) (toD b))) H
 rw[vB (nV f) (nV g)];by_cases h:a=b
 ·rw[Ja (Jd toD h)];exact q1 h
 ·rw[Jc λz=>h (z_ z)];exact q2 h
theorem R6 {K:bE}{H:Hp}{o1 o2:o?->Prop}{u v:V}{a b:El}{n m:Nat}{Q:VK}(R:Rep H o1 u a)(S:Rep H o2 v b)(f:Gs n a)(g:Gs m b)(hn:n<=64)(hm:m<=64)
  (q1:a=b->Q (.bl false) H) (q2:a≠b->Q (.bl true) H):zL K true u v H Q:=by
 refine⟨toD a,toD b,R.den,S.den,(nV f).shaped hn,(nV g).shaped hm,?_⟩
 show Q (.bl (!E! (toD a) (toD b))) H
 rw[vB (nV f) (nV g)];by_cases h:a=b
 ·rw[Ja (Jd toD h)];exact q1 h
 ·rw[Jc λz=>h (z_ z)];exact q2 h
end L2
namespace L2
open PySem
section
variable {K:bE} {mg:Str->Option l?} {x qual:Str} {st:Q?} {ps:List Str} {C:o?}
def Va (K:bE)(x qual:Str)(st:Q?)(f:o?):Prop:=∃(oc:l?) (od an:Option o?) (osl:Array (Option l?)) (kV doc pm cdv ct:l?),K.lookup f=j? ⟨oc,od,.func (W? x qual (dH st) (cB st) (ao st) .none kV doc pm an cdv ct),osl⟩/\PySem.W.codeIn K cdv qual=true/\PySem.W.keepIn K (.ref f)=true
def cI (K:bE)(x:Str)(st:Q?):Prop:=∃f,N? K G? x=j? (j? (.ref f))/\Va K x x st f
def IW (x qual:Str)(st:Q?)(ps:List Str):Prop:=∀(kV doc pm:l?) (an:Option o?) (cdv ct:l?) (us:List l?),us.length=ps.length->bindArgs (W? x qual (dH st) (cB st) (ao st) .none kV doc pm an cdv ct) ⟨us,[]⟩=pure (ps.zip us)
theorem R7 {f:o?}{oc:l?}{od an:Option o?}{osl:Array (Option l?)}{kV doc pm cdv ct:l?}(a:N? K G? x=j? (j? (.ref f)))(l:K.lookup f=j? ⟨oc,od,.func (W? x x (dH st) (cB st) (ao st) .none kV doc pm an cdv ct),osl⟩)(c:Q! K cdv x=true)(k:C! K (.ref f)=true):cI K x st:=
 ⟨f,a,oc,od,an,osl,kV,doc,pm,cdv,ct,l,c,k⟩
theorem aY {h:O?}(X:K.In h)(G:h.Ns G? mg)(g:cI K x st)(hb:IW x x st ps):Src K mg x st ps:=by
 obtain⟨f,a,oc,od,an,osl,kV,doc,pm,cdv,ct,l,c,k⟩:=g;exact OP X G a l c k hb
theorem iN {us:List l?}{n:Nat}(h:us.length=n+1):∃x t,us=x::t/\t.length=n:=by
 cases us with
 | nil=>simp at h
 | cons x t=>exact⟨x,t,rfl,by simpa using h⟩
theorem bd1 {a0:Str}(h:∀(kV doc pm:l?) (an:Option o?) (cdv ct:l?) (u0:l?),bindArgs (W? x qual (dH st) (cB st) (ao st) .none kV doc pm an cdv ct) ⟨[u0],[]⟩=pure ([(a0,u0)])):IW x qual st [a0]:=by
 intro a b c d e f us hl;obtain⟨u0,t0,rfl,h0⟩:=iN hl;obtain rfl:=Wg h0
 exact h a b c d e f u0
theorem TR {a0 a1:Str}(h:∀(kV doc pm:l?) (an:Option o?) (cdv ct:l?) (u0 u1:l?),bindArgs (W? x qual (dH st) (cB st) (ao st) .none kV doc pm an cdv ct) ⟨[u0,u1],[]⟩=pure ([(a0,u0),(a1,u1)])):IW x qual st [a0,a1]:=by
 intro a b c d e f us hl;obtain⟨u0,t0,rfl,h0⟩:=iN hl;obtain⟨u1,t1,rfl,h1⟩:=iN h0;obtain rfl:=Wg h1
 exact h a b c d e f u0 u1
theorem bd3 {a0 a1 a2:Str}(h:∀(kV doc pm:l?) (an:Option o?) (cdv ct:l?) (u0 u1 u2:l?),bindArgs (W? x qual (dH st) (cB st) (ao st) .none kV doc pm an cdv ct) ⟨[u0,u1,u2],[]⟩=pure ([(a0,u0),(a1,u1),(a2,u2)])):IW x qual st [a0,a1,a2]:=by
 intro a b c d e f us hl;obtain⟨u0,t0,rfl,h0⟩:=iN hl;obtain⟨u1,t1,rfl,h1⟩:=iN h0;obtain⟨u2,t2,rfl,h2⟩:=iN h1;obtain rfl:=Wg h2
 exact h a b c d e f u0 u1 u2
theorem bd4 {a0 a1 a2 a3:Str}(h:∀(kV doc pm:l?) (an:Option o?) (cdv ct:l?) (u0 u1 u2 u3:l?),bindArgs (W? x qual (dH st) (cB st) (ao st) .none kV doc pm an cdv ct) ⟨[u0,u1,u2,u3],[]⟩=pure ([(a0,u0),(a1,u1),(a2,u2),(a3,u3)])):IW x qual st [a0,a1,a2,a3]:=by
 intro a b c d e f us hl;obtain⟨u0,t0,rfl,h0⟩:=iN hl;obtain⟨u1,t1,rfl,h1⟩:=iN h0;obtain⟨u2,t2,rfl,h2⟩:=iN h1;obtain⟨u3,t3,rfl,h3⟩:=iN h2;obtain rfl:=Wg h3
 exact h a b c d e f u0 u1 u2 u3
end
end L2
namespace L2
open PySem PySem.Spec PyProof.Rows
theorem IX (lo hi:Int):Builtin.Range.rangeSize lo hi (-1)=(((lo-hi).toNat:Nat):Int):=by
 unfold Builtin.Range.rangeSize;rw[W8 (by decide),show(-(-1:Int))=1 by decide,Int.ediv_one]
 split <;> omega
theorem small_down {a b:Int}(ha:-(2 ^ 60)<=a)(ha':a<2 ^ 60)(hb:-(2 ^ 60)<=b)(hb':b<2 ^ 60):Builtin.Range.small a b (-1)=true:=by
 unfold Builtin.Range.small;rw[IX];simp only[Builtin.Range.rangeFitsLong,T?,Bool.or_eq_true,decide_eq_true_eq,beq_iff_eq,show ¬ ((-1:Int) > 0) by decide,if_false]
 omega
section
variable {X:Cx} {tg:Expr}
def R8 (ta:TA):TI:=λσ H R=>ta σ H λvs H1=>∃i j:Int,vs=[.int i,.int j,.int (-1)]/\(-(2 ^ 60)<=i/\i<2 ^ 60/\-(2 ^ 60)<=j/\j<2 ^ 60)/\R (OU i (i-j).toNat) H1
theorem zg {a b c:Expr}{ta:TA}{p pos:Pos}(hg:Gl X "range")(hm:X.mg "range"=q?)(ha:PA X [a,b,c] ta)(hs:I? [a,b,c] X.env=[(false,eval a X.env),(false,eval b X.env),(false,eval c X.env)]:=by rfl)(hs2:I? [b,c] X.env=[(false,eval b X.env),(false,eval c X.env)]:=by rfl):
  PI X tg (.Call (.Name "range" p) [a,b,c] [] pos) (R8 ta):=by
 intro pins s σ H R I h;refine Call_ (jC I hg hm boot_range (M! (eU (ha pos pins s σ H _ I h) λus s1 ⟨vs,H1,I1,r1,q1⟩=>?_) (by rw[hs,hs2]) (by rw[hs2];rfl)))
 obtain⟨lo,hi,e,⟨q1,q2,q3,q4⟩,q⟩:=q1;subst e;cases r1 with
 | cons r rr=>
  cases rr with
  | cons r' rr=>
   cases rr with
   | cons r'' rr=>
    cases rr;obtain⟨t,rfl⟩:=r;obtain⟨t',rfl⟩:=r';obtain⟨t'',rfl⟩:=r'';refine call_range_3 (by decide) ?_ (z? (PyProof.noPylong_small (by omega)))
    refine wpAny_pyIter_range (IsRange.new ..) (small_down q1 q2 q3 q4) ?_
    have I2:Inv X pins σ H1 { s1 with heap:=s1.heap.push { cls:=.type "range",data:=.fields #[.int lo t,.int hi t',.int (-1) t''] },toks:=s1.toks }:=I1.kept λb o e=>Yh _ e
    refine⟨(s1.heap.push { cls:=.type "range",data:=.fields #[.int lo t,.int hi t',.int (-1) t''] }).objs.size,[(s1.heap.push { cls:=.type "range",data:=.fields #[.int lo t,.int hi t',.int (-1) t''] }).objs.size],_,_,H1,rfl,
     I2.kept (t':=s1.toks) λb o e=>Yh _ e,tS _ lo _,?_,λb hb=>?_,q⟩
    ·have e1:lo+((0:Nat):Int)*(-1)=lo:=by simp
     have e2:(((lo-hi).toNat:Nat):Int)-((0:Nat):Int)=Builtin.Range.rangeSize lo hi (-1):=by rw[IX];omega
     show IsRangeIter _ _ (lo+((0:Nat):Int)*(-1)) ((((lo-hi).toNat:Nat):Int)-((0:Nat):Int)) (-1)
     rw[e1,e2];exact Yv _ rfl
    ·have e:b=(s1.heap.push { cls:=.type "range",data:=.fields #[.int lo t,.int hi t',.int (-1) t''] }).objs.size:=by simpa using hb
     subst e;exact I2.u7 (Yd _) (I2.hok.fresh (Yd _))
end
end L2
namespace L2
open PySem PySem.Spec PySem.W PyProof.Rows
def DA (f c':o?)(qual:Str)(params:Arguments)(body:Expr)(scope:Scope)(cl:List (Str×o?)):O?->Prop:=λh=>∃pm ctv,h.get? f=j? (kla_obj "<lambda>" qual params body scope cl pm c' ctv)
def Gu (c':o?)(qual:Str):O?->Prop:=λh=>∃oc vs t,h.get? c'=j? oc/\oc.data=.fields vs/\vs[1]?=j? (.str qual t)
def pV (H:Hp)(P f c':o?)(ps:Array l?)(pos:Pos)(qual:Str)(params:Arguments)(body:Expr)(scope:Scope)(cl:List (Str×o?)):Hp:=
 upd (upd (upd H P (.vU (ps++#[rawInt pos.line,rawInt pos.col,.ref c']))) c' (.ext (Gu c' qual))) f (.ext (DA f c' qual params body scope cl))
def Vb (P:o?)(pos:Pos)(qual:Str)(params:Arguments)(body:Expr)(scope:Scope)(cl:List (Str×o?)):TE:=λ_ H Q=>∃ps:Array l?,H P=j? (.vU ps)/\TriplesOk ps.toList/\codeAmong pos ps.toList=q?/\
 ∀f c',H f=q?->H c'=q?->f≠c'->Q (.ref f) (pV H P f c' ps pos qual params body scope cl)
def BMain (mg:Str->Option l?)(base:O?):Prop:=∃(bm:o?) (ob:Obj),mg "__builtins__"=j? (.ref bm)/\bm≠builtinsNs/\base.get? bm=j? ob/\ob.cls=.type "module"/\ob.dict=j? builtinsNs/\ob.data=.plain
section
variable {X:Cx}
theorem Pg {c P:o?}{params:Arguments}{body:Expr}{scope:Scope}{pos:Pos}(hb:BMain X.mg X.base)(hc:X.env.code=.ref c)(hk:codeHdIn X.K c P=true)(hcl:∀y∈scope.names,y.2=.free->∃c,X.env.cells.lookup y.1=j? c)(hdef:defaultsOf params X.env=([],[]):=by rfl):
  PE X (.Lambda params body scope pos) (Vb P pos (X.env.qual++"<lambda>") params body scope (aT X.env.cells scope.names [])):=by
 refine⟨?_⟩
 intro pins s σ H Q I h;obtain⟨ps,hP,ht,hn,q⟩:=h;have eP:s.heap.get? P=j? (tabObj ps):=I.hok P _ hP;have hgs:=I.mod.glob.keeps I.bk;have hgP:G?≠P:=λz=>by
  obtain⟨o,es,ep,e,hd,_⟩:=hgs;rw[z,eP] at e;cases e;cases hd
 obtain⟨bm,ob,b1,b2,b3,b4,b5,b6⟩:=hb;have IY:=I.bk _ _ b3;have Vd:bm≠P:=λz=>by rw[z,eP] at IY;cases IY;cases b4
 have Ve:bm≠G?:=λz=>by
  obtain⟨o,es,ep,e,hd,_⟩:=hgs;rw[z,e] at IY;cases IY;rw[hd] at b6;cases b6
 refine kla_eval hdef (kla_makeFunction (mg:=X.mg) (iM hcl) I.ok.glob hgs hc (codeHd_of_K I.A3 hk) eP ht hn hgP ⟨bm,ob,b1,b2,Ve,Vd,IY,b4,b5,b6⟩ λc' ctv h' tk hx hge hlt hrec htb=>?_)
 have XA:P<s.heap.objs.size:=Yl eP;have Vf:c'≠P:=λz=>Jf (Yj XA hge) (by rw[z];exact Zz _)
 have hfc:h'.objs.size≠c':=Ne.symm (Yq hlt);have hsz:s.heap.objs.size<=h'.objs.size:=Yn hge (W1 hlt);have Vg:h'.objs.size≠P:=Ne.symm (Yq (Yj XA hsz));have nf:H h'.objs.size=q?:=I.hok.fresh hsz;have nc:H c'=q?:=I.hok.fresh hge;refine⟨.ref h'.objs.size,_,?_,rfl,q h'.objs.size c' nf nc hfc⟩
 generalize hO:kla_obj "<lambda>" (X.env.qual++"<lambda>") params body scope (aT X.env.cells scope.names []) ((X.mg "__name__").getD .none) c' ctv=O;have kp:∀b o,b≠P->s.heap.get? b=j? o->(h'.push O).get? b=j? o:=λb o hb e=>Yh _ (hx b o hb e)
 have ne:∀b o,H b=j? o->b≠P->pV H P h'.objs.size c' ps pos (X.env.qual++"<lambda>") params body scope (aT X.env.cells scope.names []) b=j? o:=λb o e hb=>by
  unfold pV;rw[aO (bL e nf),aO (bL e nc),aO hb];exact e
 have XC:pV H P h'.objs.size c' ps pos (X.env.qual++"<lambda>") params body scope (aT X.env.cells scope.names []) P=j? (.vU (ps++#[rawInt pos.line,rawInt pos.col,.ref c'])):=by
  unfold pV;rw[aO (Ne.symm Vg),aO (Ne.symm Vf),ay]
 refine I.un ⟨λb o e n hb _=>?_,λb o e n hb _=>?_,λb o e n _=>?_,λb o e _=>?_,λb xs e=>?_,λb o u e=>?_,λb qs e=>?_⟩ λb o e=>?_
 ·exact kp b o (λz=>by rw[z,hP] at n;cases n) e
 ·exact⟨o.slots,kp b o (λz=>by rw[z,hP] at n;cases n) e⟩
 ·have hlb:=Yl e
  unfold pV;rw[aO (Yq (Yj hlb hsz)),aO (Yq (Yj hlb hge)),aO (λz=>by rw[z,hP] at n;cases n)]
  exact n
 ·by_cases z:b=P
  ·rw[z];exact⟨_,Yh _ htb⟩
  ·exact⟨o,kp b o z e⟩
 ·exact ne b _ e λz=>by rw[z,hP] at e;cases e
 ·exact ne b _ e λz=>by rw[z,hP] at e;cases e
 ·by_cases z:b=P
  ·rw[z,hP] at e;cases e
   exact⟨_,by rw[z];exact XC⟩
  ·exact⟨#[],by rw[ne b _ e z];simp⟩
 ·by_cases zf:b=h'.objs.size
  ·subst zf
   have e':j? (HO.ext (DA h'.objs.size c' (X.env.qual++"<lambda>") params body scope (aT X.env.cells scope.names [])))=j? o:=by rw[<- e];exact ay.symm
   cases e';have g:(h'.push O).get? h'.objs.size=j? O:=Yv _ (by rw[<- hO];rfl)
   refine⟨⟨_,_,by rw[hO];exact g⟩,⟨_,g⟩,λh1 h2 z k=>?_⟩
   obtain⟨pm,cv,z⟩:=z;exact⟨pm,cv,k _ z⟩
  ·by_cases zc:b=c'
   ·subst zc
    have e':j? (HO.ext (Gu b (X.env.qual++"<lambda>")))=j? o:=by
     rw[<- e];unfold pV;rw[aO zf,ay]
    cases e';obtain⟨c2,oc,vs,t,ec,g1,g2,g3⟩:=hrec;cases ec;refine⟨⟨oc,vs,t,Yh _ g1,g2,g3⟩,⟨_,Yh _ g1⟩,λh1 h2 z k=>?_⟩
    obtain⟨o1,v1,t1,z1,z2,z3⟩:=z;exact⟨o1,v1,t1,k _ z1,z2,z3⟩
   ·by_cases zP:b=P
    ·subst zP
     rw[XC] at e;cases e;exact Yh _ htb
    ·have e':H b=j? o:=by
      rw[<- e];unfold pV;rw[aO zf,aO zc,aO zP]
     refine(I.hok b o e').stay (λd u hd hu=>kp d u (λz=>?_) hu) (λd hd=>ne d _ hd λz=>by rw[z,hP] at hd;cases hd) λd xs hd=>ne d _ hd λz=>by rw[z,hP] at hd;cases hd
     rcases hd with y|y
     ·exact zP (y.symm.trans z)
     ·rw[z,hP] at y;cases y
end
structure mC (h:O?)(H:Hp)(outer:List Env)(cl:List (Str×o?))(N:List Str)(vals:List V):Prop where
 inj:∀x y c,cl.lookup x=j? c->cl.lookup y=j? c->x=y
 cell:∀x c,cl.lookup x=j? c->(∃v,h.IsCell c v)/\H c=q?/\c ∉ frs outer
 val:∀(i:Nat) x v,N[i]?=j? x->vals[i]?=j? v->∃c u,cl.lookup x=j? c/\h.IsCell c (j? u)/\RelV v u
 len:vals.length=N.length
def Fb (P:F?)(w:H?)(K:bE)(mg:Str->Option l?)(base:O?)(N:List Str)(qual:Str)(scope:Scope)(f c':o?)(cl:List (Str×o?))(A:A!)(outer:List Env)(s:u?)(H:Hp):Cx where
 prog:=P
 w:=w
 K:=K
 mg:=mg
 base:=base
 A:=A.deeper (envX qual scope s.heap.objs.size f (.ref c') cl)
 N:=N
 s₀:=s
 H₀:=H
 env:=envX qual scope s.heap.objs.size f (.ref c') cl
 outer:=outer
 stack:=envX qual scope s.heap.objs.size f (.ref c') cl::outer
 ex:=[]
 fn:=λ_=>false
 calm:=true
 pn:=[]
 xe:=λ_ _=>False
section
variable {X:Cx} {pins:List (o?×Obj)} {σ:St} {H1:Hp} {s1:u?}
theorem mC.made {scope:Scope}{N:List Str}{vals:List V}(I:Inv X pins σ H1 s1)(hfn:∀x,X.fn x=true)(hst:X.stack=X.env::X.outer/\X.env.frame=j? X.env.locals)(hfr:∀x∈N,X.env.kindOf x=j? .cell/\(x,Z?)∈scope.names)
  (hv:∀(j:Nat) x v,N[j]?=j? x->vals[j]?=j? v->∃i:Nat,X.N[i]?=j? x/\σ[i]?=j? (j? v)) (hl:vals.length=N.length):mC s1.heap H1 X.stack (aT X.env.cells scope.names []) N vals:=by
 have back:∀x c,(aT X.env.cells scope.names []).lookup x=j? c->X.env.cells.lookup x=j? c:=λx c e=>kq scope.names [] (λd z=>by simp at z) e
 refine⟨λx y c e1 e2=>I.ok.inj x y c (back x c e1) (back y c e2),λx c e=>?_,λi x v e1 e2=>?_,hl⟩
 ·obtain⟨v,ic⟩:=I.cell x c (back x c e)
  refine⟨⟨v,ic⟩,I.fX x c (back x c e),λhm=>?_⟩
  rcases List.mem_cons.mp (I.tH c hm) with z|z
  ·exact I.Ls x c (back x c e) z
  ·obtain⟨_,o,ho,_⟩:=I.ok.kU.mem z
   have:=Yj (Yl ho) (I.ok.Hr x c (hfn x) (back x c e))
   exact Jf this (Zz _)
 ·obtain⟨hk,hm⟩:=hfr x (Yw e1)
  obtain⟨j,hj,hs⟩:=hv i x v e1 e2;obtain⟨m,_,hloc⟩:=I.loc;obtain⟨u,r,lk⟩:=hloc j x v hj hs (.inr (.inl hk));rcases lk with ⟨z,_⟩|⟨_,c,hc,ic⟩
  ·rw[hk] at z;cases z
  ·exact⟨c,u,gq hc scope.names [] (.inr hm) (λd z=>by simp at z),ic,r⟩
end
end L2
namespace L2
open PySem Alg
open Classical
end L2
namespace L2
open PySem PySem.Spec PyProof.Rows Alg
section
variable {P:F?} {w:H?} {K:bE} {mg:Str->Option l?} {base:O?} {CG CS:o?}
theorem Aa (i:Int)(p:Nat):i.fmod (p:Int)=i % (p:Int):=Y7 i (Int.natCast_nonneg p)
end
def lE (n:Nat)(e:Nat->El):El:=.vec ((Ym n).map e)
theorem t7 (l:List El):El.vec l=lE l.length λi=>l.getD i (.num 0):=by
 unfold lE;congr 1
 apply Zr
 intro i;by_cases h:i<l.length
 ·rw[Ye,Y0 h,Yc h]
  show j? _=j? (l.getD i (.num 0))
  rw[Yb,Yc h];rfl
 ·rw[List.getElem?_eq_none_iff.mpr (by omega),List.getElem?_eq_none_iff.mpr (by rw[Ya,Yg];omega)]
structure Cf (H:Hp)(ok:o?->Prop)(vs:List V)(n:Nat)(e:Nat->El):Prop where
 len:vs.length=n
 at_:∀i,i<n->∃v,vs[i]?=j? v/\Rep H ok v (e i)
theorem Cf.rep {H:Hp}{ok:o?->Prop}{vs:List V}{n:Nat}{e:Nat->El}{a:o?}(C:Cf H ok vs n e)(h:H a=j? (.lst vs))(k:ok a):Rep H ok (.ref a) (lE n e):=by
 refine .vec h k (by rw[C.len,Ya,Yg]) λi x d h1 h2=>?_
 have hi:i<n:=by rw[<- C.len];exact(List.getElem?_eq_some_iff.mp h1).1
 obtain⟨v,h3,r⟩:=C.at_ i hi;rw[h1] at h3;cases h3;rw[Ye,Y0 hi] at h2;cases h2;exact r
theorem Rep.cf {H:Hp}{ok:o?->Prop}{v:V}{n:Nat}{e:Nat->El}(R:Rep H ok v (lE n e)):∃a vs,v=.ref a/\H a=j? (.lst vs)/\ok a/\Cf H ok vs n e:=by
 unfold lE at R;cases R with
 | @vec a vs l h k hl r=>
  rw[Ya,Yg] at hl;refine⟨a,vs,rfl,h,k,hl,λi hi=>?_⟩
  refine⟨vs[i]'(by omega),Yc (by omega),r i _ _ (Yc (by omega)) ?_⟩
  rw[Ye,Y0 hi];rfl
theorem Cf.imp {H H':Hp}{ok ok':o?->Prop}{vs:List V}{n:Nat}{e:Nat->El}(C:Cf H ok vs n e)(f:∀b o,H b=j? o->ok b->H' b=j? o/\ok' b):Cf H' ok' vs n e:=
 ⟨C.len,λi hi=>let ⟨v,h,r⟩:=C.at_ i hi;⟨v,h,r.imp f⟩⟩
theorem Cf.same {H H':Hp}{ok:o?->Prop}{vs:List V}{n:Nat}{e:Nat->El}(C:Cf H ok vs n e)(g:aH H H'):Cf H' ok vs n e:=C.imp λb o h k=>⟨g b o h,k⟩
theorem Cf.nil {H:Hp}{ok:o?->Prop}{e:Nat->El}:Cf H ok [] 0 e:=⟨rfl,λi hi=>by omega⟩
theorem Cf.push {H:Hp}{ok:o?->Prop}{vs:List V}{n:Nat}{e:Nat->El}{v:V}(C:Cf H ok vs n e)(R:Rep H ok v (e n)):Cf H ok (vs++[v]) (n+1) e:=by
 refine⟨by rw[Yk,C.len];rfl,λi hi=>?_⟩
 by_cases h:i<n
 ·obtain⟨x,h1,h2⟩:=C.at_ i h
  exact⟨x,by rw[Y2 (by rw[C.len];exact h)];exact h1,h2⟩
 ·have:i=n:=by omega
  subst this;exact⟨v,by rw[<- C.len,List.getElem?_concat_length],R⟩
theorem Cf.congr {H:Hp}{ok:o?->Prop}{vs:List V}{n:Nat}{e d:Nat->El}(C:Cf H ok vs n e)(h:∀i,i<n->e i=d i):Cf H ok vs n d:=⟨C.len,λi hi=>by rw[<- h i hi];exact C.at_ i hi⟩
theorem Cf.append {H:Hp}{ok:o?->Prop}{vs ws:List V}{n m:Nat}{e d:Nat->El}(C:Cf H ok vs n e)(D:Cf H ok ws m d):Cf H ok (vs++ws) (n+m) λi=>if i<n then e i else d (i-n):=by
 refine⟨by rw[Yk,C.len,D.len],λi hi=>?_⟩
 by_cases h:i<n
 ·obtain⟨x,h1,h2⟩:=C.at_ i h
  exact⟨x,by rw[Y2 (by rw[C.len];exact h)];exact h1,by rw[W9 h];exact h2⟩
 ·obtain⟨x,h1,h2⟩:=D.at_ (i-n) (by omega)
  exact⟨x,by rw[Y4 (by rw[C.len];omega),C.len];exact h1,by rw[W8 h];exact h2⟩
theorem Cf.get {H:Hp}{ok:o?->Prop}{vs:List V}{n:Nat}{e:Nat->El}(C:Cf H ok vs n e){i:Nat}{v:V}(h:vs[i]?=j? v):i<n/\Rep H ok v (e i):=by
 have hi:i<n:=by rw[<- C.len];exact(List.getElem?_eq_some_iff.mp h).1
 obtain⟨x,h1,h2⟩:=C.at_ i hi;rw[h] at h1;cases h1;exact⟨hi,h2⟩
abbrev Off (H:Hp)(D:o?):o?->Prop:=λb=>H b=q?/\b≠D
theorem Cf.upd {H H':Hp}{D:o?}{vs:List V}{n:Nat}{e:Nat->El}{o:HO}(C:Cf H' (Off H D) vs n e):Cf (upd H' D o) (Off H D) vs n e:=C.imp λb u h k=>⟨by rw[aO k.2];exact h,k⟩
theorem Rep.Mk {H H' H1:Hp}{D:o?}{v:V}{e:El}{o:HO}(R:Rep H' (dX H1) v e)(g:aH H H1)(hD:H1 D=j? o):Rep H' (Off H D) v e:=R.imp λb u h k=>⟨h,g.free k,λz=>by rw[z] at k;rw[show H1 D=q? from k] at hD;cases hD⟩
theorem Cf.IZ {H H':Hp}{D:o?}{vs:List V}{n:Nat}{e:Nat->El}(C:Cf H' (Off H D) vs n e):Cf H' (dX H) vs n e:=C.imp λb u h k=>⟨h,k.1⟩
theorem Ml (xs:List V)(k:Nat)(h:k<=xs.length):iw xs q? (j? (k:Int))=xs.take k:=by
 unfold iw;have e1:HT.pP xs.length 0 q?=0:=rfl;have e2:HT.pP xs.length xs.length (j? (k:Int))=k:=by rw[HT.lV];omega
 rw[e1,e2];simp
theorem Cf.rev {H:Hp}{ok:o?->Prop}{vs:List V}{n:Nat}{e:Nat->El}(C:Cf H ok vs n e):Cf H ok vs.reverse n λi=>e (n-1-i):=by
 refine⟨by rw[Z1];exact C.len,λi hi=>?_⟩
 obtain⟨v,h1,h2⟩:=C.at_ (n-1-i) (by omega)
 refine⟨v,?_,h2⟩
 rw[List.getElem?_reverse (by rw[C.len];exact hi),C.len]
 exact h1
def wZ:Sp:=λvs H Q _=>∃(k n:Nat),vs=[.int (k:Int),.int (n:Int)]/\k<50/\n<=100/\Q (.int ((k ^ n:Nat):Int)) H
def del (H:Hp)(b:o?):Hp:=λc=>if c=b then q? else H c
theorem cu {H:Hp}{b c:o?}{o:HO}(h:del H b c=j? o):c≠b/\H c=j? o:=by
 unfold del at h;by_cases e:c=b
 ·rw[W9 e] at h;cases h
 ·rw[W8 e] at h;exact⟨e,h⟩
theorem jK {H:Hp}{b c:o?}(h:c≠b):del H b c=H c:=W8 h
theorem fz (H:Hp)(b:o?):aH (del H b) H:=λc o h=>(cu h).2
theorem Gv (xs:List V)(h:xs≠[]):iw xs q? (j? (-1))=xs.dropLast:=by
 have hl:0<xs.length:=List.length_pos_iff.mpr h;unfold iw;have e1:HT.pP xs.length 0 q?=0:=rfl;have e2:HT.pP xs.length xs.length (j? (-1))=xs.length-1:=by
  simp only[HT.pP]
  rw[W9 (by decide)]
  omega
 rw[e1,e2,List.dropLast_eq_take];simp
def cF (H:Hp)(b:o?)(H':Hp):Prop:=∀a o,a≠b->H a=j? o->H' a=j? o
theorem cF.del {b:o?}{H H':Hp}(h:cF H b H'):aH (L2.del H b) (L2.del H' b):=λc o e=>by rw[jK (cu e).1];exact h c o (cu e).1 (cu e).2
theorem cF.refl (H:Hp)(b:o?):cF H b H:=λ_ _ _ h=>h
theorem cF.trans {b:o?}{H H' XD:Hp}(h:cF H b H')(h':cF H' b XD):cF H b XD:=λa o n e=>h' a o n (h a o n e)
theorem cF.of {b:o?}{H H':Hp}(h:aH H H'):cF H b H':=λa o _ e=>h a o e
theorem cF.fresh {b:o?}{H H':Hp}(h:cF H b H')(hb':∃o,H' b=j? o){a:o?}(ha:H' a=q?):H a=q?:=by
 have hne:a≠b:=λz=>by obtain⟨o,e⟩:=hb';rw[z,e] at ha;cases ha
 cases q:H a with
 | none=>rfl
 | some o=>rw[h a o hne q] at ha;cases ha
theorem cF.bw {b p:o?}{H H':Hp}(h:cF H b H')(hp:H p=q?)(o:HO):cF H b (L2.upd H' p o):=λa u n e=>by
 rw[aO (bL e hp)];exact h a u n e
theorem zh (xs:List V)(k:Nat)(h:k<=xs.length):iw xs (j? (k:Int)) q?=xs.drop k:=by
 unfold iw;have e1:HT.pP xs.length xs.length q?=xs.length:=rfl;have e2:HT.pP xs.length 0 (j? (k:Int))=k:=by rw[HT.lV];omega
 rw[e1,e2];rw[Zn (by rw[Y8];omega)]
end L2
namespace L2
open PySem PySem.Spec PySem.W PyProof.Rows Alg
end L2
namespace L2
open PySem PySem.Spec PySem.W PyProof.Rows
end L2
namespace L2
open PySem PySem.Spec PySem.W PyProof.Rows Alg
end L2
namespace L2
open PySem PySem.Spec PySem.W PyProof.Rows
end L2
namespace L2
open PySem PySem.Spec PySem.W PyProof.Rows Alg
end L2
namespace L2
open PySem PySem.Spec PySem.W PyProof.Rows
theorem Gw {P:F?}{w:H?}{K:bE}{mg mb:Str->Option l?}{CX:F1}{k:Nat}{fa a:o?}{fd:P!}{x:Str}{sp:Sp}{s₁:u?}{vs:List l?}{ns:List Int}{tabs:List (o?×o?)}
  (KX:K.In s₁.heap) (hns:s₁.heap.Ns G? mg) (hb:s₁.heap.Ns builtinsNs mb) (hbb:∀x:Str,x≠"__name__"->mb x=H! x) (hlim:s₁.heap.NoLimit) (hbm:BMain mg s₁.heap) (hT:TabsAt tabs s₁.heap) (hK:noTabs K=true) (hg:s₁.gens=#[])
  (ha:s₁.heap.get? a=j? { cls:=.type "list",data:=.seq vs.toArray }) (hi:IntsAre vs ns) (hl:ns.length<=K?) (hr:fL k callerA)
  (F:∀base:O?,K.In base->base.Ns G? mg->BMain mg base->lU P w K mg base CX k fa fd [x] sp) (hbind:∀(s:u?) (u:l?),BindsTo s fd ⟨[u],[]⟩ [(x,u)])
  (Ld:∀H:Hp,aP K H a (ns.map V.int)->(∀q∈tabs,H q.2=j? (.vU #[]))->sp [.ref a] H (λv _=>v=.bl true) λ_ _ _=>False)
  (Vh:∀H e s',CX [] H s₁ (λ_ _ _=>False) e s'->False):
  codeAny (S? P w) callerA (.call (.ref fa) ⟨[.ref a],[]⟩) (λr s'=>r=.ok (.ret (.bool true))/\OldK s₁.heap s'.heap/\s'.os=s₁.os/\AllBare s'.gens) s₁:=by
 have rv:=yP hi;have Vi:=hi.length;have Ph:∀b o,K.lookup b=j? o->b ∉ tabs.map (·.2):=λb o e hm=>by
  obtain⟨q,hq,rfl⟩:=List.mem_map.mp hm;have e1:=(hT q hq).2;rw[KX _ _ e] at e1;cases e1;have h2:=List.all_eq_true.mp hK (_,_) (mem_of_lookupK e);exact Jf (show false=true from h2) E?
 have R9:a ∉ tabs.map (·.2):=λhm=>by
  obtain⟨q,hq,e⟩:=List.mem_map.mp hm;have e1:=(hT q hq).2;rw[show q.2=a from e,ha] at e1
  cases e1
 have core:∀H:Hp,(∀b,H b=q?\/(b=a/\∃o xs,H b=j? (.Ho o (.lst xs)))\/(b∈tabs.map (·.2)/\H b=j? (.vU #[])))->(∀q∈tabs,H q.2=j? (.vU #[]))->aP K H a (ns.map V.int)->uM P w H s₁.heap->(H a≠q?->K.lookup a=q?)->
   codeAny (S? P w) callerA (.call (.ref fa) ⟨[.ref a],[]⟩) (λr s'=>r=.ok (.ret (.bool true))/\OldK s₁.heap s'.heap/\s'.os=s₁.os/\AllBare s'.gens) s₁:=by
  intro H hO hTb hS hok hKa;have Ab:∀ {b:o?} {o:Obj},s₁.heap.get? b=j? o->H b=q?->(yd s₁.heap H).get? b=j? o:=λe n=>Hq e n
  have RH:∀ {b:o?} {o:Obj},s₁.heap.get? b=j? o->o.cls≠.type "list"->o.cls≠.none->H b=q?:=λ{b o} e d1 d2=>by
   rcases hO b with z|⟨z,_⟩|⟨z,_⟩
   ·exact z
   ·rw[z,ha] at e;cases e;exact Jf rfl d1
   ·obtain⟨q,hq,rfl⟩:=List.mem_map.mp z
    rw[(hT q hq).2] at e;cases e;exact Jf rfl d2
  have noD:∀ {b:o?} {o:Obj} {es:Array DictEntry} {ep:Nat},s₁.heap.get? b=j? o->o.data=.dict es ep->H b=q?:=λ{b o es ep} e d=>by
   rcases hO b with z|⟨z,_⟩|⟨z,_⟩
   ·exact z
   ·rw[z,ha] at e;cases e;cases d
   ·obtain⟨q,hq,rfl⟩:=List.mem_map.mp z
    rw[(hT q hq).2] at e;cases e;cases d
  have TU:∀ {b:o?} {m:Str->Option l?},s₁.heap.Ns b m->(yd s₁.heap H).Ns b m:=λ{b m} ⟨o,es,ep,e,d,r⟩=>⟨o,es,ep,Ab e (noD e d),d,r⟩
  have XE:K.In (yd s₁.heap H):=λb o e=>Ab (KX b o e) (by
   rcases hO b with z|⟨z,o',xs,z2⟩|⟨z,_⟩
   ·exact z
   ·subst z
    rw[hKa (by rw[z2];simp)] at e;cases e
   ·exact Jf z (Ph b o e))
  have hBM:BMain mg (yd s₁.heap H):=by
   obtain⟨bm,ob,b1,b2,b3,b4,b5,b6⟩:=hbm;exact⟨bm,ob,b1,b2,Ab b3 (RH b3 (by rw[b4];decide) (by rw[b4];decide)),b4,b5,b6⟩
  have hM:Mod K mg (yd s₁.heap H):=⟨XE,TU hns,⟨mb,TU hb,hbb⟩,let ⟨mc,h1,h2⟩:=hlim;⟨mc,TU h1,h2⟩⟩
  have e0:F2 P w K mg (yd s₁.heap H) callerA [] s₁ H:=⟨rfl,hM,λb o e=>Lq e,Nat.le_of_eq (FY _ _),trivial,λb hb=>Jf (show b∈([]:List o?) from hb) (by simp),hok,.of_eq hg⟩
  refine codeAny_mono ((F _ XE (TU hns) hBM).run callerA [] s₁ H ⟨[.ref a],[]⟩ [.ref a] [.ref a] _ _ hr e0 (hbind s₁ (.ref a)) (.cons rfl .nil) (Ld H hS hTb)) λr s' h=>?_
  cases r with
  | error e=>exact(Vh H e s' h).elim
  | ok fl=>
   cases fl with
   | next=>exact N! h
   | brk=>exact N! h
   | cont=>exact N! h
   | ret u=>
    obtain⟨v,H',os,bare,un,R_,r',q⟩:=h;have q':v=.bl true:=q;subst q';obtain rfl:u=Value.bool true:=r'
    have old:∀b o,s₁.heap.get? b=j? o->s'.heap.get? b=j? o\/(isCodeTable s₁.heap b/\o=tabObj #[]/\∃ps,s'.heap.get? b=j? (tabObj ps)):=λb o e=>by
     rcases hO b with z|⟨z,ob,xs,z2⟩|⟨z,z2⟩
     ·exact .inl (un.keep b o e z (by intro y;exact Jf (show b∈([]:List o?) from y) (by simp)) (by simp))
     ·have z3:=un.uY b ob _ z2
      obtain⟨e1,_⟩:=hok b _ z2;obtain⟨e2,_⟩:=R_ b _ z3;rw[e] at e1;cases e1;exact .inl e2
     ·obtain⟨q,hq,rfl⟩:=List.mem_map.mp z
      obtain⟨m,z3⟩:=un.uZ _ _ z2;have e1:=(hT q hq).2;rw[e] at e1;exact .inr ⟨((hT q hq).1.tab (hT q hq).2).isCodeTable,M? e1,_,R_ _ _ z3⟩
    refine⟨rfl,⟨λb o e=>?_,λb o e=>?_⟩,os,bare⟩
    ·rcases old b o e with z|⟨ht,rfl,ps,hP⟩
     ·exact .inl z
     ·exact .inr (.inl ⟨ht,rfl,#[],ps,rfl,by rw[Array.empty_append];exact hP⟩)
    ·rcases old b o e with z|⟨_,_,ps,hP⟩
     ·exact⟨_,z⟩
     ·exact⟨_,hP⟩
 have tok:∀(H:Hp) (q:o?×o?),q∈tabs->iU P w H s₁.heap q.2 (.vU #[]):=λH q hq=>(hT q hq).2
 cases hk:K.lookup a with
 | some o=>
  have e:=KX a o hk;rw[ha] at e;cases e;refine core (λb=>if b∈tabs.map (·.2) then j? (.vU #[]) else q?) (λb=>?_) (λq hq=>W9 (List.mem_map_of_mem hq)) (.inr ⟨_,vs.toArray,_,hk,rfl,rfl,rfl,by rw[Yr,Vi];exact hl,by simpa using rv⟩) (λb u z=>?_) (λz=>Jf (W8 R9) z)
  ·by_cases hb:b∈tabs.map (·.2)
   ·exact .inr (.inr ⟨hb,W9 hb⟩)
   ·exact .inl (W8 hb)
  ·by_cases hb:b∈tabs.map (·.2)
   ·have z':=(W9 hb).symm.trans z
    cases z';obtain⟨q,hq,rfl⟩:=List.mem_map.mp hb;exact tok _ q hq
   ·have z':=(W8 hb).symm.trans z
    cases z'
 | none=>
  refine core (λb=>if b∈tabs.map (·.2) then j? (.vU #[]) else if b=a then j? (.Ho { cls:=.type "list",data:=.seq vs.toArray } (.lst (ns.map V.int))) else q?) (λb=>?_) (λq hq=>W9 (List.mem_map_of_mem hq)) (.inl (.inr ⟨{ cls:=.type "list",data:=.seq vs.toArray },(W8 R9).trans (W9 rfl)⟩)) (λb u z=>?_) λ_=>hk
  ·by_cases hb:b∈tabs.map (·.2)
   ·exact .inr (.inr ⟨hb,W9 hb⟩)
   ·by_cases hb2:b=a
    ·exact .inr (.inl ⟨hb2,_,_,(W8 hb).trans (W9 hb2)⟩)
    ·exact .inl ((W8 hb).trans (W8 hb2))
  ·by_cases hb:b∈tabs.map (·.2)
   ·have z':=(W9 hb).symm.trans z
    cases z';obtain⟨q,hq,rfl⟩:=List.mem_map.mp hb;exact tok _ q hq
   ·by_cases hb2:b=a
    ·have z':=((W8 hb).trans (W9 hb2)).symm.trans z
     cases z';subst hb2;exact⟨ha,by rw[Ya];exact hl,vs,_,rv,ha⟩
    ·have z':=((W8 hb).trans (W8 hb2)).symm.trans z
     cases z'
theorem I_ {l:PySem.W.OpenLaw}{n k:Nat}{q:F?}{loose:List Str}{XP:(Str->Option l?)->O?->Prop}{YP:H?->O?->Prop}{d:DefRec}{K:Params->bE}{CX:H?->F1}{sp:H?->Sp}{x:Str}{tabs:List (o?×o?)}
  (hn:l.most=j? n) (hn2:n<=K?) (hdf:d.params.defaults=[]) (hr:fL k callerA)
  (hY:∀(w:H?) (h:O?),YP w h->(K w.params).In h/\TabsAt tabs h) (hK:∀w:H?,noTabs (K w.params)=true)
  (F:∀(w:H?) (mg:Str->Option l?) (fa:o?) (h:O?),(K w.params).In h->h.Ns G? mg->mg d.name=j? (.ref fa)->
   ∃fd:P!,(∀(s:u?) (u:l?),BindsTo s fd ⟨[u],[]⟩ [(x,u)])/\
    ∀base:O?,(K w.params).In base->base.Ns G? mg->BMain mg base->lU l.prog w (K w.params) mg base (CX w) k fa fd [x] (sp w))
  (Ld:∀(w:H?) (H:Hp) (a:o?) (ns:List Int),ns.length<=n->aP (K w.params) H a (ns.map V.int)->(∀q∈tabs,H q.2=j? (.vU #[]))->sp w [.ref a] H (λv _=>v=.bl true) λ_ _ _=>False)
  (Vh:∀(w:H?) (H:Hp) (s:u?) (e:l?) (s':u?),CX w [] H s (λ_ _ _=>False) e s'->False):
  PySem.W.WalkO q loose XP YP l.row.toRowW d [] (λf vs=>PySem.call f vs):=by
 refine Att.Bc hn hdf λw s₀ s₁ mg mb fa o pm cd doc a vs ns G Y ho hd hcd hmg hobj hints hlen hg=>?_
 obtain⟨KX,hT⟩:=hY w _ Y;obtain⟨fd,hb,hF⟩:=F w mg fa _ KX G.T.g hmg;have hbm:BMain mg s₁.heap:=by
  obtain⟨bm,ob,b1,b2,b3,b4,b5,b6⟩:=G.T.bmain;exact⟨bm,ob,b1,b2,b3,b4,b5,b6⟩
 exact Gw KX G.T.g G.T.b G.T.builtins G.T.nolimit hbm hT (hK w) hg hobj hints (Yn hlen hn2) hr hF hb (λH hS hTb=>Ld w H a ns hlen hS hTb) λH e s'=>Vh w H s₁ e s'
section
variable {P:F?} {w:H?} {K:bE} {mg:Str->Option l?} {base:O?}
theorem Lf.okC {x qual:Str}{st:Q?}{f c:o?}{fd:P!}{N ps:List Str}{k:Nat}{sp:Sp}(F:Lf K x qual st f fd)(hc:fd.code=.ref c)(S:aM N ps (ao st))(len:∀vs H Q E,sp vs H Q E->vs.length=ps.length)
  (hbody:∀(A:A!) (outer:List Env) (s:u?) (H:Hp) (vs:List V) (Q:VK) (E:XK),fL k (A.deeper (envOfC qual (ao st) s.heap.objs.size f (.ref c)))->sp vs H Q E->
   ∃t,zB (qw ES P w K mg base N qual (ao st) f (.ref c) A outer s H E).M9 (cB st) t/\t { nx:=λ_ H'=>Q .eZ H',rt:=Q } (start N vs) H):lU P w K mg base ES (k+1) f fd ps sp:=by
 obtain⟨oc,od,kV,doc,pm,an,cdv,ct,osl,rfl,lk,hcd⟩:=F.ex;have e:cdv=.ref c:=hc;subst e;refine HB lk hcd S len λA outer s H vs Q E hr Ld=>?_
 obtain⟨t,h,q⟩:=hbody A outer s H vs Q E hr Ld;exact⟨t,h.M9,q⟩
structure Je (K:bE)(mg:Str->Option l?)(x:Str)(st:Q?)(ps:List Str)(c:o?):Prop where
 ex:∃f fd,Lf K x x st f fd/\Binds K fd ps []/\mg x=j? (.ref f)/\fd.code=.ref c
theorem Je.ok {x:Str}{st:Q?}{N ps:List Str}{k:Nat}{c:o?}{sp:Sp}(F:Je K mg x st ps c)(S:aM N ps (ao st))(len:∀vs H Q E,sp vs H Q E->vs.length=ps.length)
  (hbody:∀(f:o?) (A:A!) (outer:List Env) (s:u?) (H:Hp) (vs:List V) (Q:VK) (E:XK),fL k (A.deeper (envOfC x (ao st) s.heap.objs.size f (.ref c)))->sp vs H Q E->
   ∃t,zB (qw ES P w K mg base N x (ao st) f (.ref c) A outer s H E).M9 (cB st) t/\t { nx:=λ_ H'=>Q .eZ H',rt:=Q } (start N vs) H):b_ P w K mg base (k+1) x ps sp:=by
 obtain⟨f,fd,G,B,M,hc⟩:=F.ex;exact⟨f,fd,G.okC hc S len (hbody f),B,G.kp,M⟩
theorem Mm {x:Str}{st:Q?}{ps:List Str}{f c0:o?}{oc:l?}{od an:Option o?}{osl:Array (Option l?)}{kV doc pm cdv ct:l?}{h:O?}(X:K.In h)(G:h.Ns G? mg)
  (a:N? K G? x=j? (j? (.ref f))) (l:K.lookup f=j? ⟨oc,od,.func (W? x x (dH st) (cB st) (ao st) .none kV doc pm an cdv ct),osl⟩) (c:Q! K cdv x=true) (k:C! K (.ref f)=true)
  (hb:∀(kV doc pm:l?) (an:Option o?) (cdv ct:l?) (us:List l?),us.length=ps.length->bindArgs (W? x x (dH st) (cB st) (ao st) .none kV doc pm an cdv ct) ⟨us,[]⟩=pure (ps.zip us)) (hc:cdv=.ref c0):Je K mg x st ps c0:=
 ⟨f,_,wg l c k,(wg l c k).binds hb,PySem.W.mg_of X G a,hc⟩
theorem Gx {n:Nat}{sc scope:Scope}(h:∀y∈scope.names,y.2=.free->sc.names.lookup y.1=j? .cell):∀y∈scope.names,y.2=.free->∃c,(cellsFrom n sc.names []).lookup y.1=j? c:=λy hy hf=>wc (h y hy hf)
theorem Mp {cells:List (Str×o?)}{scope:Scope}(h:∀y∈scope.names,y.2=.free->∃c,cells.lookup y.1=j? c):∀x,scope.names.lookup x=j? .free->∃c,(aT cells scope.names []).lookup x=j? c:=λx hx=>by
 have hm:=U? hx;obtain⟨c,hc⟩:=h _ hm rfl;exact⟨c,gq hc scope.names [] (.inr hm) (λd z=>by simp at z)⟩
theorem Ac {a b c:l?}{i j:Int}{t u:Tok}(ha:a=.int i t)(hb:b=.int j u):∀(l:List l?),TriplesOk l->TriplesOk (l++[a,b,c]):=by
 subst ha hb;intro l h;fun_induction TriplesOk l with
 | case1=>exact trivial
 | case2 _ _ _ _ _ rest ih=>exact ih h
 | case3=>exact h.elim
theorem DB {pos:Pos}{a b:Nat}{c:l?}(hne:¬ (a=pos.line/\b=pos.col)):∀(l:List l?),TriplesOk l->codeAmong pos l=q?->codeAmong pos (l++[rawInt a,rawInt b,c])=q?:=by
 intro l h hn;fun_induction TriplesOk l with
 | case1=>
  show(if ((a:Int) == pos.line && (b:Int) == pos.col)=true then j? c else q?)=q?
  rw[W8];intro z;rw[T?,beq_iff_eq,beq_iff_eq] at z;exact hne ⟨by omega,by omega⟩
 | case2 i t j u x rest ih=>
  have hn':(if ((i:Int) == pos.line && j == pos.col)=true then j? x else codeAmong pos rest)=q?:=hn
  show(if ((i:Int) == pos.line && j == pos.col)=true then j? x else codeAmong pos (rest++[rawInt a,rawInt b,c]))=q?
  by_cases z:((i:Int) == pos.line && j == pos.col)=true
  ·rw[W9 z] at hn';cases hn'
  ·rw[W8 z] at hn' ⊢
   exact ih h hn'
 | case3=>exact h.elim
end
end L2
namespace L2
open PySem PySem.Spec PyProof.Rows Alg
theorem bJ {H H':Hp}{l:o?}{o:HO}(n:H l=q?)(hX:upd H l o=H'):aH H H'/\H' l=j? o:=by
 subst hX;exact⟨aA n _,ay⟩
theorem sQ {a b:TS}{D:Ends}{σ:St}{H:Hp}{I:Type}(f:I->St)(P:I->Hp->Prop)(h1:∀C:St->Hp->Prop,(∀i H,P i H->C (f i) H)->a { D with nx:=C } σ H)(h2:∀i H,P i H->b D (f i) H):Rp a b D σ H:=h1 (b D) h2
theorem Jg {C:St->Hp->Prop}{I:Type}{f:I->St}{P:I->Hp->Prop}{j:Nat}{v:V}{σ:St}{H:Hp}(k:∀i H,P i H->C (f i) H)(i:I)(p:P i H)(e:σ.set j (j? v)=f i):ig j v σ H C:=by
 show C (σ.set j (j? v)) H
 rw[e];exact k i H p
end L2
namespace L2
open PySem PySem.Spec PySem.W PyProof.Rows Alg
theorem DC {pos:Pos}{x:l?}{m:List l?}:∀(l:List l?),TriplesOk l->codeAmong pos l=j? x->codeAmong pos (l++m)=j? x:=by
 intro l h hx;fun_induction TriplesOk l with
 | case1=>cases hx
 | case2 i t j u y rest ih=>
  have hx':(if ((i:Int) == pos.line && j == pos.col)=true then j? y else codeAmong pos rest)=j? x:=hx
  show(if ((i:Int) == pos.line && j == pos.col)=true then j? y else codeAmong pos (rest++m))=j? x
  by_cases z:((i:Int) == pos.line && j == pos.col)=true
  ·rw[W9 z] at hx' ⊢;exact hx'
  ·rw[W8 z] at hx' ⊢;exact ih h hx'
 | case3=>exact h.elim
theorem Gy {pos:Pos}{c:l?}:∀(l:List l?),TriplesOk l->codeAmong pos l=q?->codeAmong pos (l++[rawInt pos.line,rawInt pos.col,c])=j? c:=by
 intro l h hn;fun_induction TriplesOk l with
 | case1=>
  show(if ((pos.line:Int) == pos.line && (pos.col:Int) == pos.col)=true then j? c else q?)=j? c
  rw[W9];rw[T?,beq_iff_eq,beq_iff_eq];exact⟨rfl,rfl⟩
 | case2 i t j u x rest ih=>
  have hn':(if ((i:Int) == pos.line && j == pos.col)=true then j? x else codeAmong pos rest)=q?:=hn
  show(if ((i:Int) == pos.line && j == pos.col)=true then j? x else codeAmong pos (rest++[rawInt pos.line,rawInt pos.col,c]))=j? c
  by_cases z:((i:Int) == pos.line && j == pos.col)=true
  ·rw[W9 z] at hn';cases hn'
  ·rw[W8 z] at hn' ⊢
   exact ih h hn'
 | case3=>exact h.elim
def fj (qual:Str)(Pp:o?)(H:Hp):Prop:=∃ps:Array l?,H Pp=j? (.vU ps)/\TriplesOk ps.toList/\∀pos:Pos,codeAmong pos ps.toList=q?\/∃c,codeAmong pos ps.toList=j? (.ref c)/\H c=j? (.ext (Gu c qual))
theorem fj.nil {qual:Str}{Pp:o?}{H:Hp}(h:H Pp=j? (.vU #[])):fj qual Pp H:=⟨#[],h,trivial,λ_=>.inl rfl⟩
theorem fj.same {qual:Str}{Pp:o?}{H H':Hp}(h:fj qual Pp H)(g:aH H H'):fj qual Pp H':=by
 obtain⟨ps,h1,h2,h3⟩:=h;exact⟨ps,g _ _ h1,h2,λpos=>(h3 pos).imp id λ⟨c,a,b⟩=>⟨c,a,g _ _ b⟩⟩
structure pW where
 qual:Str
 params:Arguments
 body:Expr
 scope:Scope
 x:Str
 N:List Str
 t:TE
def pW.here (L:pW)(cl:List (Str×o?))(f c:o?)(H:Hp):Prop:=H f=j? (.ext (DA f c L.qual L.params L.body L.scope cl))/\H c=j? (.ext (Gu c L.qual))
theorem pW.here.same {L:pW}{cl:List (Str×o?)}{f c:o?}{H H':Hp}(h:L.here cl f c H)(g:aH H H'):L.here cl f c H':=⟨g _ _ h.1,g _ _ h.2⟩
structure pW.Ok (L:pW)(P:F?)(w:H?)(K:bE)(mg:Str->Option l?)(base:O?)(k:Nat):Prop where
 kind:L.scope.kind=.function
 co:L.scope.isCoroutine=false
 gen:L.scope.isGenerator=false
 tO:∀y∈L.scope.names,y.2≠.cell
 loc:L.scope.names.lookup L.x=j? .local
 frees:∀x∈L.N,L.scope.names.lookup x=j? .free
 bind:∀cl pm cdv ct u,bindArgs (kla_fn "<lambda>" L.qual L.params L.body L.scope cl pm cdv ct) ⟨[u],[]⟩=pure [(L.x,u)]
 pe:∀(cl:List (Str×o?)) (f c:o?) (A:A!) (outer:List Env) (s:u?) (H:Hp),fL k (A.deeper (envX L.qual L.scope s.heap.objs.size f (.ref c) cl))->PE (Fb P w K mg base (L.x::L.N) L.qual L.scope f c cl A outer s H) L.body L.t
section
variable {P:F?} {w:H?} {K:bE} {mg:Str->Option l?} {base:O?}
theorem Jh {L:pW}{k:Nat}{f c:o?}{cl:List (Str×o?)}{vals:List V}(g:L.Ok P w K mg base k){A:A!}{outer:List Env}{s:u?}{H:Hp}{Q:VK}{v:V}{u:l?}(hr:fL (k+1) A)(e0:F2 P w K mg base A outer s H)(hh:L.here cl f c H)
  (has:∀x,L.scope.names.lookup x=j? .free->∃c,cl.lookup x=j? c) (hc:mC s.heap H outer cl L.N vals) (rv:RelV v u) (q:L.t (j? v::vals.map j?) H Q):codeAny (S? P w) A (.call (.ref f) ⟨[u],[]⟩) (CR ES outer P w H s Q E0) s:=by
 obtain⟨h1,h2⟩:=hh;obtain⟨⟨pm,ctv,hf⟩,_⟩:=e0.hok _ _ h1;obtain⟨⟨oc,vs,t,hc1,hc2,hc3⟩,_⟩:=e0.hok _ _ h2;have lim:s.heap.NoLimit:=e0.mod.nolimit.keeps λb o e=>(e0.bs b o e).1
 refine kla_callFunE hr.depth hf rfl g.co g.gen rfl ⟨c,oc,vs,t,rfl,hc1,hc2,hc3⟩ ?_
 rw[g.bind];refine J? (wpAny_newFunctionEnv g.tO (λy hy=>by rw[List.mem_singleton.mp hy];exact g.loc) (λh₁ hns Lg=>⟨lim.fresh _ Lg,?_⟩) g.kind)
 show codeAny _ _ (.expr L.body (envX L.qual L.scope s.heap.objs.size f (.ref c) cl)) _ _
 have hk₁:∀b o,s.heap.get? b=j? o->h₁.get? b=j? o:=λb o e=>Lg.extBut b o (Yq (Yl e)) (Yh _ e)
 have TM:∀c v,s.heap.IsCell c v->h₁.IsCell c v:=λc v ⟨o,e,d⟩=>⟨o,hk₁ c o e,d⟩
 have ok:(Fb P w K mg base (L.x::L.N) L.qual L.scope f c cl A outer s H).Ok:=
  ⟨e0.mod,g.kind,rfl,rfl,Yd _,hc.inj,λx hx=>by
   rcases hx with z|z
   ·exact Jf rfl (g.tO _ (U? z))
   ·exact has x z,λx c z=>(nomatch (show false=true from z)),λ_=>hr.hd,Around.frames_deeper e0.frames,.inr ⟨rfl,rfl⟩,λb z=>Jf (show b∈([]:List o?) from z) (by simp),e0.bs,e0.A4,λb o _ z=>Jf (show b∈([]:List o?) from z) (by simp),λb z=>Jf (show b∈([]:List o?) from z) (by simp),e0.kU,e0.EF⟩
 have I:Inv (Fb P w K mg base (L.x::L.N) L.qual L.scope f c cl A outer s H) [] (j? v::vals.map j?) H { s with heap:=h₁,toks:=s.toks+1 }:=by
  refine⟨ok,rfl,e0.bare,Un.kept hk₁,⟨_,hns,λi x v' e1 e2 e3=>?_⟩,λx c e=>?_,e0.hok.fresh (Yd _),λx c e=>(hc.cell x c e).2.1,λp hp=>Jf (show p∈([]:List (o?×Obj)) from hp) (by simp),e0.hok.kept hk₁,by show(vals.map j?).length+1=L.N.length+1;rw[Ya,hc.len]⟩
  ·cases i with
   | zero=>
    cases e1;cases e2;exact⟨u,rv,.inl ⟨g.loc,by simp⟩⟩
   | succ i=>
    have e1:L.N[i]?=j? x:=e1;have e2:(vals.map j?)[i]?=j? (j? v'):=e2;have ev:vals[i]?=j? v':=by
     rw[Ye] at e2;cases z:vals[i]? with
     | none=>rw[z] at e2;cases e2
     | some y=>rw[z] at e2;cases e2;rfl
    obtain⟨c,u,l,ic,r⟩:=hc.val i x v' e1 ev;exact⟨u,r,.inr ⟨.inr (g.frees x (Yw e1)),c,l,TM _ _ ic⟩⟩
  ·obtain⟨⟨v,ic⟩,_⟩:=hc.cell x c e
   exact⟨v,TM _ _ ic⟩
 refine kla_codeExpr (B! ((g.pe cl f c A outer s H (hr.deeper _)).1 [] _ _ H Q I q) (λv s' hl=>?_) λ_ _ z=>N! z)
 obtain⟨y,H',J,r,q'⟩:=hl;exact⟨y,H',J.os,J.bare,J.base,J.hok,r,q'⟩
end
def zj (P:o?)(pos:Pos)(L:pW)(cl:List (Str×o?)):TE:=λ_ H Q=>∃ps:Array l?,H P=j? (.vU ps)/\TriplesOk ps.toList/\
  ((codeAmong pos ps.toList=q?/\∀f c',H f=q?->H c'=q?->f≠c'->Q (.ref f) (pV H P f c' ps pos L.qual L.params L.body L.scope cl))\/
   (∃c',codeAmong pos ps.toList=j? (.ref c')/\H c'=j? (.ext (Gu c' L.qual))/\∀f,H f=q?->Q (.ref f) (upd H f (.ext (DA f c' L.qual L.params L.body L.scope cl)))))
section
variable {X:Cx}
theorem Mq {c P:o?}{params:Arguments}{body:Expr}{scope:Scope}{pos:Pos}{L:pW}(hL:L.params=params/\L.body=body/\L.scope=scope)(hq:X.env.qual++"<lambda>"=L.qual)(hb:BMain X.mg X.base)(hc:X.env.code=.ref c)(hk:codeHdIn X.K c P=true)(hcf:∀y∈scope.names,y.2=.free->∃c,X.env.cells.lookup y.1=j? c)(hdef:defaultsOf params X.env=([],[]):=by rfl):
  PE X (.Lambda params body scope pos) (zj P pos L (aT X.env.cells scope.names [])):=by
 obtain⟨rfl,rfl,rfl⟩:=hL;have hm:=Pg (X:=X) (params:=L.params) (body:=L.body) (scope:=L.scope) (pos:=pos) hb hc hk hcf hdef;rw[hq] at hm;refine⟨?_⟩
 intro pins s σ H Q I h;obtain⟨ps,hP,ht,⟨hn,q⟩|⟨c',hf,hc',q⟩⟩:=h
 ·exact hm.1 pins s σ H Q I ⟨ps,hP,ht,hn,q⟩
 have eP:s.heap.get? P=j? (tabObj ps):=I.hok P _ hP;have hgs:=I.mod.glob.keeps I.bk;obtain⟨bm,ob,b1,b2,b3,b4,b5,b6⟩:=hb;have IY:=I.bk _ _ b3;have Vd:bm≠P:=λz=>by rw[z,eP] at IY;cases IY;cases b4
 have Ve:bm≠G?:=λz=>by
  obtain⟨o,es,ep,e,hd,_⟩:=hgs;rw[z,e] at IY;cases IY;rw[hd] at b6;cases b6
 refine kla_eval hdef (kla_makeFunctionHit (mg:=X.mg) (iM hcf) I.ok.glob hgs hc (codeHd_of_K I.A3 hk) eP ht hf ⟨bm,ob,b1,b2,Ve,Vd,IY,b4,b5,b6⟩ λctv h' tk hx hsz=>?_)
 rw[hq];generalize hO:({ cls:=.type "function",data:=.func (kla_fn "<lambda>" L.qual L.params L.body L.scope (aT X.env.cells L.scope.names []) ((X.mg "__name__").getD .none) (.ref c') ctv) }:Obj)=O;have g:(h'.push O).get? h'.objs.size=j? O:=Yv _ (by rw[<- hO];rfl)
 refine⟨.ref h'.objs.size,_,I.laid (a:=h'.objs.size) (o:=.ext (DA h'.objs.size c' L.qual L.params L.body L.scope (aT X.env.cells L.scope.names []))) (λb o e=>Yh _ (hx b o e)) hsz ⟨⟨_,_,by rw[g,<- hO]⟩,⟨_,g⟩,λh1 h2 z k=>?_⟩,rfl,q _ (I.hok.fresh hsz)⟩
 obtain⟨pm,cv,z⟩:=z;exact⟨pm,cv,k _ z⟩
end
theorem Gz {Pp:o?}{pos:Pos}{L:pW}{cl:List (Str×o?)}{σ:St}{H:Hp}{Q:VK}(tq:fj L.qual Pp H)(q:∀f c H',cF H Pp H'->fj L.qual Pp H'->L.here cl f c H'->Q (.ref f) H'):zj Pp pos L cl σ H Q:=by
 obtain⟨ps,h1,h2,h3⟩:=tq;refine⟨ps,h1,h2,?_⟩
 rcases h3 pos with h|⟨c,h,hc⟩
 ·refine .inl ⟨h,λf c nf nc hfc=>?_⟩
  have Vg:Pp≠f:=bL h1 nf;have Vf:Pp≠c:=bL h1 nc;have nw:cF H Pp (pV H Pp f c ps pos L.qual L.params L.body L.scope cl):=λb o hb e=>by
   unfold pV;rw[aO (bL e nf),aO (bL e nc),aO hb];exact e
  have ef:(pV H Pp f c ps pos L.qual L.params L.body L.scope cl) f=j? (.ext (DA f c L.qual L.params L.body L.scope cl)):=ay;have ec:(pV H Pp f c ps pos L.qual L.params L.body L.scope cl) c=j? (.ext (Gu c L.qual)):=by
   unfold pV;rw[aO (Ne.symm hfc),ay]
  have eP:(pV H Pp f c ps pos L.qual L.params L.body L.scope cl) Pp=j? (.vU (ps++#[rawInt pos.line,rawInt pos.col,.ref c])):=by
   unfold pV;rw[aO Vg,aO Vf,ay]
  have e:(ps++#[rawInt pos.line,rawInt pos.col,.ref c]).toList=ps.toList++[rawInt pos.line,rawInt pos.col,.ref c]:=by simp
  refine q f c _ nw ⟨_,eP,by rw[e];exact Ac rfl rfl _ h2,λp2=>?_⟩ ⟨ef,ec⟩
  rw[e];rcases h3 p2 with h'|⟨c2,h',hc2⟩
  ·by_cases z:pos.line=p2.line/\pos.col=p2.col
   ·refine .inr ⟨c,?_,ec⟩
    rw[z.1,z.2];exact Gy _ h2 h'
   ·exact .inl (DB z _ h2 h')
  ·exact .inr ⟨c2,DC _ h2 h',nw _ _ (λz=>by rw[z,h1] at hc2;cases hc2) hc2⟩
 ·refine .inr ⟨c,h,hc,λf nf=>?_⟩
  have g:=aA nf (.ext (DA f c L.qual L.params L.body L.scope cl));exact q f c _ (cF.of g) (fj.same ⟨ps,h1,h2,h3⟩ g) ⟨ay,g _ _ hc⟩
section
variable {X:Cx} {x:Str} {id:String} {p pos:Pos} {e:Expr} {es:List Expr} {kws:List Keyword} {t tk:TA} {ks:List Str}
def Ji (X:Cx)(f:l?)(ks:List Str)(r:St->List V->List V->Hp->VK->Prop):Prop:=
 ∀(pins:List (o?×Obj)) (s:u?) (σ:St) (H:Hp) (xs ys:List V) (us ws:List l?) (Q:VK),Inv X pins σ H s->Vals xs us->Vals ys ws->r σ xs ys H Q->L? (S? X.prog X.w) X.A (call f us (ks.zip ws)) (EP X pins σ Q) X.xe s
def Jj (r:St->List V->List V->Hp->VK->Prop)(t tk:TA):TE:=λσ H Q=>t σ H λvs H1=>tk σ H1 λws H2=>r σ vs ws H2 Q
theorem DE {r:St->List V->List V->Hp->VK->Prop}(hc:Ji X (.builtin id) ks r)(hg:Gl X x)(hm:X.mg x=q?)(hv:H! x=j? (.builtin id))(ha:PA X (e::es) t)(hk:PK X kws tk)
  (hks:(backToKw pos (keywordEach kws X.env)).filterMap (·.1)=ks:=by rfl)
  (hn:x≠"__name__":=by decide) (hdb:(x ==("__debug__":Str))=false:=by decide)
  (he:backTo pos (I? (e::es) X.env)=(false,eval e X.env)::backTo pos (I? es X.env):=by rfl)
  (hplain:(backTo pos (I? (e::es) X.env)).any (·.1)=false:=by rfl)
  (hall:(backToKw pos (keywordEach kws X.env)).all (·.1.isSome)=true:=by rfl)
  (hkw:(backToKw pos (keywordEach kws X.env)).any (·.1.isNone)=false:=by rfl):PE X (.Call (.Name x p) (e::es) kws pos) (Jj r t tk):=by
 refine⟨?_⟩
 intro pins s σ H Q I h;refine wpAny_Call_Name_kw (jC I hg hm hv ?_ hn hdb)
 refine callWith_builtin_kwB hplain hkw ?_
 have hb:=ha pos pins s σ H _ I h;rw[he] at hb ⊢;refine evalArgs_kwB hall (eU hb λus s1 ⟨vs,H1,I1,r1,q1⟩=>?_)
 refine eU (hk pos pins s1 σ H1 _ I1 q1) λws s2 ⟨ys,H2,I2,r2,q2⟩=>?_
 rw[hks];exact hc pins s2 σ H2 vs ys us ws Q I2 r1 r2 q2
end
theorem Mr {sc scope:Scope}{N:List Str}(h:∀x∈N,sc.names.lookup x=j? .cell/\(x,Z?)∈scope.names):∀x∈N,sc.names.lookup x=j? .cell/\(x,Z?)∈scope.names:=h
structure Pj (K:bE)(L:pW)(cl:List (Str×o?))(l f c:o?)(vs vals:List V)(kf:Nat->Int)(Pv:Nat->Hp->Prop)(Q:VK):Prop where
 lst:∀i H',Pv i H'->aP K H' l vs
 key:∀i v H',vs[i]?=j? v->Pv i H'->L.here cl f c H'/\L.t (j? v::vals.map j?) H' λkv H2=>kv=.int (kf i)/\Pv (i+1) H2
 fin:∀i v H',vs[i]?=j? v->(∀j,j<vs.length->kf i<=kf j)->Pv vs.length H'->Q v H'
def BG (K:bE)(N:List Str)(L:pW)(cl:List (Str×o?)):St->List V->List V->Hp->VK->Prop:=λσ xs ys H Q=>∃(l f c:o?) (vs vals:List V) (kf:Nat->Int) (Pv:Nat->Hp->Prop),xs=[.ref l]/\ys=[.ref f]/\0<vs.length/\
 (∀(j:Nat) x v,L.N[j]?=j? x->vals[j]?=j? v->∃i:Nat,N[i]?=j? x/\σ[i]?=j? (j? v))/\vals.length=L.N.length/\Pv 0 H/\Pj K L cl l f c vs vals kf Pv Q
section
variable {X:Cx} {pins:List (o?×Obj)} {σ:St} {L:pW} {cl:List (Str×o?)} {k:Nat} {l f c J S:o?} {vs vals:List V} {kf:Nat->Int} {Pv:Nat->Hp->Prop} {Q:VK}
theorem BH (g:L.Ok X.prog X.w X.K X.mg X.base k)(hr:fL (k+2) X.A)(has:∀x,L.scope.names.lookup x=j? .free->∃c,cl.lookup x=j? c)(mc:∀ {pins:List (o?×Obj)} {H1:Hp} {s1:u?},Inv X pins σ H1 s1->mC s1.heap H1 X.stack cl L.N vals)
  (M:Pj X.K L cl l f c vs vals kf Pv Q) {i:Nat} {v:V} {u:l?} {s:u?} {H:Hp} {oJ oS:Obj} (hv:vs[i]?=j? v) (ru:RelV v u) (I:Inv X pins σ H s) (fJ:jZ X pins H J) (fS:jZ X pins H S) (gJ:s.heap.get? J=j? oJ) (gS:s.heap.get? S=j? oS) (nJ:∀v,oJ.data≠.cell v) (nS:∀v,oS.data≠.cell v) (pv:Pv i H)
  {R:l?->u?->Prop} {E:l?->u?->Prop} (q:∀t s2 H2,Inv X pins σ H2 s2->jZ X pins H2 J->jZ X pins H2 S->s2.heap.get? J=j? oJ->s2.heap.get? S=j? oS->Pv (i+1) H2->R (.int (kf i) t) s2):
  L? (S? X.prog X.w) X.A.in1 (call (.ref f) [u]) R E s:=by
 obtain⟨hh,ht⟩:=M.key i v H hv pv;have hfp:∀b∈[J,S],jZ X pins H b:=λb hb=>by
  rcases List.mem_cons.mp hb with rfl|hb
  ·exact fJ
  ·rw[List.mem_singleton.mp hb];exact fS
 have hob:∀b∈[J,S],∃o,s.heap.get? b=j? o/\∀v,o.data≠.cell v:=λb hb=>by
  rcases List.mem_cons.mp hb with rfl|hb
  ·exact⟨_,gJ,nJ⟩
  ·rw[List.mem_singleton.mp hb];exact⟨_,gS,nS⟩
 have Ip:=I.pinned hfp hob;have e0:=Ip.RG;have e2:F2 X.prog X.w X.K X.mg X.base X.A.in1 X.stack s H:=⟨e0.frames,e0.mod,e0.bs,e0.A4,e0.kU,e0.EF,e0.hok,e0.bare⟩;refine wpAny_call (codeAny_mono (Jh g (fL.in1 hr) e2 hh has (mc Ip) ru ht) λr s2 hq2=>?_)
 cases r with
 | error er=>exact N! hq2
 | ok fl=>
  cases fl with
  | next=>exact N! hq2
  | brk=>exact N! hq2
  | cont=>exact N! hq2
  | ret u=>
   obtain⟨kv,H2,I2,rk2,ek,QV⟩:=Ip.after hq2;subst ek;obtain⟨t2,rfl⟩:=(show ∃t,u=Value.int _ t from rk2)
   have pJ:=I2.pin (J,oJ) (Yu _ (Yu _ (fm Y9 gJ)));have pS:=I2.pin (S,oS) (Yu _ (Yu _ (fm (Y5 _ Y9) gS)));exact q t2 s2 H2 I2.kX ⟨pJ.2.1,fJ.2⟩ ⟨pS.2.1,fS.2⟩ pJ.1 pS.1 QV
theorem Ad {h:O?}{n:Nat}{xs:Array l?}(a:h.IsListIter J l n)(b:h.IsList l xs):l≠J:=λz=>by
 obtain⟨o,e,d,_⟩:=a;obtain⟨u,e',d',_⟩:=b;rw[z,e] at e';cases e';rw[d] at d';injection d' with d'
 exact Jf d' (by decide)
theorem GA (g:L.Ok X.prog X.w X.K X.mg X.base k)(hr:fL (k+2) X.A)(Pk:X.calm=true)(has:∀x,L.scope.names.lookup x=j? .free->∃c,cl.lookup x=j? c)(mc:∀ {pins:List (o?×Obj)} {H1:Hp} {s1:u?},Inv X pins σ H1 s1->mC s1.heap H1 X.stack cl L.N vals)
  (M:Pj X.K L cl l f c vs vals kf Pv Q) (Ms:S≠J):∀(r j i:Nat) (s:u?) (H:Hp) (vb:l?) (tb:Tok) (cc:Nat) (v:V),vs.length-(j+1)=r->j+1<=vs.length->Inv X pins σ H s->jZ X pins H J->jZ X pins H S->s.heap.get? S=j? (seqObj "list" #[vb,.int (kf i) tb] cc)->s.heap.IsListIter J l (j+1)->
   vs[i]?=j? v->RelV v vb->(∀j',j'<=j->kf i<=kf j')->Pv (j+1) H->codeAny (S? X.prog X.w) X.A (.builtin "min.loop" ⟨[.ref J,.ref f,.ref S],[]⟩) (λr s'=>match r with | .ok (.ret v)=>EP X pins σ Q v s' | .ok _=>False | .error e=>X.xe e s') s:=by
 have nm:(toString "min"++toString ".loop":String)="min.loop":=by decide
 intro r;induction r with
 | zero=>
  intro j i s H vb tb cc v hrr hj I fJ fS gS hit hv rv hb pv;obtain⟨its,Pn,hp,_⟩:=I.list (M.lst _ _ pv);have hls:=hp.isList;have hlen:vs.length=its.length:=Pn.length;have W:=Walks.list (prog:=X.prog) (w:=X.w) (A:=X.A.in1) (I.ok.hd Pk) J l (Ad hit hls) its.toArray;refine codeAny_builtin PySem.F.entry_min_loop ?_
  rw[Around.under_plainId PySem.F.plain_min_loop _];show L? _ X.A.in1 (seqItems? (.ref S) >>= _) _ _ s
  refine B? (wpAny_seqItems gS rfl ?_)
  show L? _ X.A.in1 (tryCatch (pyNext (.ref J)) _ >>= _) _ _ s
  refine B? (wpAny_tryCatch (W.done s _ _ ⟨by rw[Yr,show its.length=j+1 by omega];exact hit,hls⟩ λh' tk kk=>?_))
  have Sa:=kk S _ (by simpa using Ms) gS
  have sb:=Heap.SameBut.update h' S (D! λ_=>(#[]:Array l?))
  show L? _ X.A.in1 (updateSeq S (λ_=>#[]) >>= _) _ _ _
  refine B? (wpAny_updateSeq Sa rfl (B? (wpAny_letGo (J? ?_))))
  have I9:Inv X pins σ H { s with heap:=h'.update S (D! λ_=>(#[]:Array l?)),toks:=tk }:=I.zO (ch:=[J,S]) (λb u hb q=>(sb.2 b (λz=>hb (by simp[z]))).trans (kk b u (λz=>hb (by simp at z;simp[z])) q)) (λb hb=>by
   rcases List.mem_cons.mp hb with rfl|hb
   ·exact fJ
   ·rw[List.mem_singleton.mp hb];exact fS)
  exact⟨v,H,I9,rv,M.fin i v H hv (λj' hj'=>hb j' (by omega)) (by rw[show vs.length=j+1 by omega];exact pv)⟩
 | succ r ih=>
  intro j i s H vb tb cc v hrr hj I fJ fS gS hit hv rv hb pv;obtain⟨its,Pn,hp,_⟩:=I.list (M.lst _ _ pv);have hls:=hp.isList;have hlen:vs.length=its.length:=Pn.length;have W:=Walks.list (prog:=X.prog) (w:=X.w) (A:=X.A.in1) (I.ok.hd Pk) J l (Ad hit hls) its.toArray;refine codeAny_builtin PySem.F.entry_min_loop ?_
  rw[Around.under_plainId PySem.F.plain_min_loop _];show L? _ X.A.in1 (seqItems? (.ref S) >>= _) _ _ s
  refine B? (wpAny_seqItems gS rfl ?_)
  show L? _ X.A.in1 (tryCatch (pyNext (.ref J)) _ >>= _) _ _ s
  refine B? (wpAny_tryCatch (W.item (j+1) s _ _ (by rw[Yr];omega) ⟨hit,hls⟩ λu h' tk hP Po kk=>?_))
  have hu:its[j+1]?=j? u:=by simpa using hP
  obtain⟨v2,hv2⟩:∃v2,vs[j+1]?=j? v2:=⟨_,Yc (by omega)⟩
  obtain⟨u2,Sb,Pq⟩:=Pn.get hv2;rw[hu] at Sb;cases Sb;have Sa:=kk S _ (by simpa using Ms) gS
  obtain⟨oJ,gJ,cJ,dJ⟩:=id Po.1;have I1:Inv X pins σ H { s with heap:=h',toks:=tk }:=I.turned (it:=J) (λb o hb q=>kk b o (by simpa using hb) q) fJ.1 fJ.2.1 fJ.2.2.2.1 fJ.2.2.2.2.1 fJ.2.2.2.2.2
  show L? _ X.A.in1 (tryCatch (holding [u] (call (.ref f) [u])) _ >>= _) _ _ _
  refine B? (wpAny_tryCatch (wpAny_holding (BH g hr has mc M hv2 Pq I1 fJ fS gJ Sa (λv z=>by rw[dJ] at z;cases z) (λv z=>by cases z) pv λt2 s2 H2 I2 TV Fc TX QW QV=>?_)))
  show L? _ X.A.in1 (tryCatch (holding [u,.int (kf (j+1)) t2] (richCompare .Lt (.int (kf (j+1)) t2) (.int (kf i) tb) >>= _)) _ >>= _) _ _ _
  refine B? (wpAny_tryCatch (wpAny_holding (B? (CmpOf.ints_lt (prog:=X.prog) (w:=X.w) (A:=X.A.in1) (P:=λi v=>∃t,v=.int (kf i) t) kf (λi v h=>h) (j+1) i _ _ _ _ _ ⟨t2,rfl⟩ ⟨tb,rfl⟩ ?_))))
  refine B? (wpAny_holding (wpAny_truthy_bool ?_))
  refine B? (wpAny_letGo (J? ?_))
  by_cases hb':kf (j+1)<kf i
  ·have sb:=Heap.SameBut.update s2.heap S (D! λ_=>#[u,.int (kf (j+1)) t2])
   obtain⟨c2,hc2⟩:∃c2,(s2.heap.update S (D! λ_=>#[u,.int (kf (j+1)) t2])).get? S=j? (seqObj "list" #[u,.int (kf (j+1)) t2] c2):=⟨_,get?_update_seq QW λ_=>#[u,.int (kf (j+1)) t2]⟩
   simp only[hb',decide_true,if_true]
   refine B? ?_
   refine wpAny_updateSeq QW rfl (B? (wpAny_letGo ?_))
   rw[nm];refine J? ⟨plainId_quiet PySem.F.plain_min_loop _,ih (j+1) (j+1) _ H2 u t2 c2 v2 (by omega) (by omega) (I2.turned (it:=S) (t':=s2.toks) (λb o hb q=>(sb.2 b hb).trans q) Fc.1 Fc.2.1 Fc.2.2.2.1 Fc.2.2.2.2.1 Fc.2.2.2.2.2) TV Fc hc2 ⟨oJ,(sb.2 J (Ne.symm Ms)).trans TX,cJ,dJ⟩ hv2 Pq (λj' hj'=>?_) QV⟩
   by_cases e:j'=j+1
   ·rw[e];exact Int.le_refl _
   ·have:=hb j' (by omega);omega
  ·simp only[hb',decide_false,Bool.false_eq_true,if_false]
   refine B? (wpAny_letGo ?_)
   rw[nm];refine J? ⟨plainId_quiet PySem.F.plain_min_loop _,ih (j+1) i _ H2 vb tb cc v (by omega) (by omega) I2 TV Fc QW ⟨oJ,TX,cJ,dJ⟩ hv rv (λj' hj'=>?_) QV⟩
   by_cases e:j'=j+1
   ·rw[e];omega
   ·exact hb j' (by omega)
end
section
variable {X:Cx}
theorem GB {L:pW}{k:Nat}{scope:Scope}(g:L.Ok X.prog X.w X.K X.mg X.base k)(hr:fL (k+2) X.A)(Pk:X.calm=true)(hsc:L.scope=scope)(hcf:∀y∈scope.names,y.2=.free->∃c,X.env.cells.lookup y.1=j? c)(hst:X.stack=X.env::X.outer/\X.env.frame=j? X.env.locals)(hfn:∀x,X.fn x=true)
  (hfr:∀x∈L.N,X.env.kindOf x=j? .cell/\(x,Z?)∈scope.names):Ji X (.builtin "min") ["key"] (BG X.K X.N L (aT X.env.cells scope.names [])):=by
 intro pins s σ H xs ys us ws Q I rx ry h;obtain⟨l,f,c,vs,vals,kf,Pv,rfl,rfl,hne,Sd,hvl,pv,M⟩:=h;obtain⟨u,rfl,ru⟩:=vals1 rx;cases (show u=I! l from ru)
 obtain⟨u2,rfl,Pq⟩:=vals1 ry;cases (show u2=I! f from Pq)
 have mc:∀ {pins:List (o?×Obj)} {H1:Hp} {s1:u?},Inv X pins σ H1 s1->mC s1.heap H1 X.stack (aT X.env.cells scope.names []) L.N vals:=λI'=>mC.made I' hfn hst hfr Sd hvl
 have has:∀x,L.scope.names.lookup x=j? .free->∃c,(aT X.env.cells scope.names []).lookup x=j? c:=by rw[hsc];exact Mp hcf
 obtain⟨its,Pn,hp,_⟩:=I.list (M.lst _ _ pv);have hls:=hp.isList;have hlen:vs.length=its.length:=Pn.length;have Pr:l<s.heap.objs.size:=by obtain⟨_,e,_⟩:=id hls;exact Yl e
 have nm:(toString "min"++toString ".loop":String)="min.loop":=by decide
 show L? _ _ (call (.builtin "min") [.ref l] [(J! "key",.ref f)]) _ _ _
 refine kmk_tree PySem.F.kind_min PySem.F.plain_min PySem.F.entry_min (kmk_min_key _ _) ?_
 show L? _ X.A.in1 (Builtin.Builtins.bindParams "min" ["key","default"] 0 ⟨[],[(J! "key",.ref f)]⟩ >>= _) _ _ s
 refine B? (wpAny_of_eq (show Builtin.Builtins.bindParams "min" ["key","default"] 0 ⟨[],[(J! "key",.ref f)]⟩=pure [j? (.ref f),q?] from rfl) (B? (J? ?_)))
 refine B? (wpAny_pyIter_list hls ?_)
 refine B? (wpAny_newList ?_ (Y1 _))
 rw[nm];have hS:(s.heap.push { cls:=.type "list_iterator",data:=.fields #[.ref l,.int 0 0] }).objs.size=s.heap.objs.size+1:=size_push' ..;have Vj:((s.heap.push { cls:=.type "list_iterator",data:=.fields #[.ref l,.int 0 0] }).push (seqObj "list" #[] 0)).get? s.heap.objs.size=j? { cls:=.type "list_iterator",data:=.fields #[.ref l,.int 0 0] }:=Yh _ (Yv _ rfl);have TY:((s.heap.push { cls:=.type "list_iterator",data:=.fields #[.ref l,.int 0 0] }).push (seqObj "list" #[] 0)).get? (s.heap.objs.size+1)=j? (seqObj "list" #[] 0):=by
  rw[<- hS];exact Yv _ rfl
 have keep:∀b o,s.heap.get? b=j? o->((s.heap.push { cls:=.type "list_iterator",data:=.fields #[.ref l,.int 0 0] }).push (seqObj "list" #[] 0)).get? b=j? o:=λb o e=>Yh _ (Yh _ e)
 refine J? ⟨plainId_quiet PySem.F.plain_min_loop _,?_⟩
 rw[hS];show codeAny _ _ _ _ { s with heap:=(s.heap.push { cls:=.type "list_iterator",data:=.fields #[.ref l,.int 0 0] }).push (seqObj "list" #[] 0) }
 have Pu:((s.heap.push { cls:=.type "list_iterator",data:=.fields #[.ref l,.int 0 0] }).push (seqObj "list" #[] 0)).IsList l its.toArray:=by
  obtain⟨o,e,r⟩:=hls;exact⟨o,keep _ _ e,r⟩
 generalize (s.heap.push { cls:=.type "list_iterator",data:=.fields #[.ref l,.int 0 0] }).push (seqObj "list" #[] 0)=h1 at Vj TY keep Pu ⊢;have fJ:=I.u7 (Yd _) (I.hok.fresh (Yd s.heap.objs.size));have fS:jZ X pins H (s.heap.objs.size+1):=I.u7 (W5 s.heap.objs.size) (I.hok.fresh (W5 s.heap.objs.size));have I0:Inv X pins σ H { s with heap:=h1,toks:=s.toks }:=I.kept keep
 have Ms:s.heap.objs.size+1≠s.heap.objs.size:=Nat.succ_ne_self _;generalize s.heap.objs.size+1=S at TY fS Ms ⊢;generalize s.heap.objs.size=J at Vj fJ Ms ⊢;have hit:h1.IsListIter J l 0:=⟨_,Vj,rfl,rfl⟩;have W:=Walks.list (prog:=X.prog) (w:=X.w) (A:=X.A.in1) (I.ok.hd Pk) J l (Ad hit Pu) its.toArray;refine codeAny_builtin PySem.F.entry_min_loop ?_
 rw[Around.under_plainId PySem.F.plain_min_loop _];show L? _ X.A.in1 (seqItems? (.ref S) >>= _) _ _ _
 refine B? (wpAny_seqItems TY rfl ?_)
 show L? _ X.A.in1 (tryCatch (pyNext (.ref J)) _ >>= _) _ _ _
 refine B? (wpAny_tryCatch (W.item 0 _ _ _ (by rw[Yr];omega) ⟨hit,Pu⟩ λu h' tk hP Po kk=>?_))
 have hu:its[0]?=j? u:=by simpa using hP
 obtain⟨v2,hv2⟩:∃v2,vs[0]?=j? v2:=⟨_,Yc (by omega)⟩
 obtain⟨u2,Sb,Pq⟩:=Pn.get hv2;rw[hu] at Sb;cases Sb;have Sa:=kk S _ (by simpa using Ms) TY
 obtain⟨oJ,gJ,cJ,dJ⟩:=id Po.1;have I1:Inv X pins σ H { s with heap:=h',toks:=tk }:=Inv.turned (s:={ s with heap:=h1,toks:=s.toks }) I0 (it:=J) (λb o hb q=>kk b o (by simpa using hb) q) fJ.1 fJ.2.1 fJ.2.2.2.1 fJ.2.2.2.2.1 fJ.2.2.2.2.2
 show L? _ X.A.in1 (tryCatch (holding [u] (call (.ref f) [u])) _ >>= _) _ _ _
 refine B? (wpAny_tryCatch (wpAny_holding (BH g hr has mc M hv2 Pq I1 fJ fS gJ Sa (λv z=>by rw[dJ] at z;cases z) (λv z=>by cases z) pv λt2 s2 H2 I2 TV Fc TX QW QV=>?_)))
 have sb:=Heap.SameBut.update s2.heap S (D! λ_=>#[u,.int (kf 0) t2])
 obtain⟨c2,hc2⟩:∃c2,(s2.heap.update S (D! λ_=>#[u,.int (kf 0) t2])).get? S=j? (seqObj "list" #[u,.int (kf 0) t2] c2):=⟨_,get?_update_seq QW λ_=>#[u,.int (kf 0) t2]⟩
 show L? _ X.A.in1 (updateSeq S (λ_=>#[u,.int (kf 0) t2]) >>= _) _ _ _
 refine B? ?_
 refine wpAny_updateSeq QW rfl ?_
 rw[nm];refine J? ⟨plainId_quiet PySem.F.plain_min_loop _,GA g hr Pk has mc M Ms _ 0 0 _ H2 u t2 c2 v2 rfl (by omega) (I2.turned (it:=S) (t':=s2.toks) (λb o hb q=>(sb.2 b hb).trans q) Fc.1 Fc.2.1 Fc.2.2.2.1 Fc.2.2.2.2.1 Fc.2.2.2.2.2) TV Fc hc2 ⟨oJ,(sb.2 J (Ne.symm Ms)).trans TX,cJ,dJ⟩ hv2 Pq (λj' hj'=>?_) QV⟩
 rw[show j'=0 by omega];exact Int.le_refl _
theorem Mt {K:bE}{c P:o?}{e:Expr}{params:Arguments}{body:Expr}{scope:Scope}{pos pos2 p kp:Pos}{x:Str}{N:List Str}{t:TE}{ta:TA}{k:Nat}(hK:X.K=K)
  (hbody:∀(cl:List (Str×o?)) (f c:o?) (A:A!) (outer:List Env) (s:u?) (H:Hp),fL k (A.deeper (envX (X.env.qual++"<lambda>") scope s.heap.objs.size f (.ref c) cl))->PE (Fb X.prog X.w K X.mg X.base (x::N) (X.env.qual++"<lambda>") scope f c cl A outer s H) body t)
  (hr:fL (k+2) X.A) (Pk:X.calm=true) (hst:X.stack=X.env::X.outer/\X.env.frame=j? X.env.locals) (hfn:∀x,X.fn x=true) (hb:BMain X.mg X.base) (hc:X.env.code=.ref c) (hk:codeHdIn K c P=true) (hg:Gl X "min") (hm:X.mg "min"=q?) (ha:PA X [e] ta)
  (hbind:∀cl pm cdv ct u,bindArgs (kla_fn "<lambda>" (X.env.qual++"<lambda>") params body scope cl pm cdv ct) ⟨[u],[]⟩=pure [(x,u)])
  (hcf:∀y∈scope.names,y.2=.free->∃c,X.env.cells.lookup y.1=j? c) (hfr:∀x∈N,X.env.kindOf x=j? .cell/\(x,Z?)∈scope.names) (hnc:∀y∈scope.names,y.2≠.cell) (hloc:scope.names.lookup x=j? .local) (Px:∀x∈N,scope.names.lookup x=j? .free)
  (hdef:defaultsOf params X.env=([],[]):=by rfl) (hkind:scope.kind=.function:=by rfl) (hco:scope.isCoroutine=false:=by rfl) (hgen:scope.isGenerator=false:=by rfl)
  (he1:backTo pos2 (I? [e] X.env)=(false,eval e X.env)::backTo pos2 (I? [] X.env):=by rfl)
  (hplain:(backTo pos2 (I? [e] X.env)).any (·.1)=false:=by rfl):
  PE X (.Call (.Name "min" p) [e] [.mk (j? "key") (.Lambda params body scope pos) kp] pos2) (Jj (BG K X.N ⟨X.env.qual++"<lambda>",params,body,scope,x,N,t⟩ (aT X.env.cells scope.names [])) ta (A_ (zj P pos ⟨X.env.qual++"<lambda>",params,body,scope,x,N,t⟩ (aT X.env.cells scope.names [])) Hz)):=by
 subst hK;exact DE (GB (k:=k) (L:=⟨X.env.qual++"<lambda>",params,body,scope,x,N,t⟩) ⟨hkind,hco,hgen,hnc,hloc,Px,hbind,hbody⟩ hr Pk rfl hcf hst hfn hfr) hg hm OR ha (LG (Mq ⟨rfl,rfl,rfl⟩ rfl hb hc hk hcf hdef) OB) (he:=he1) (hplain:=hplain)
end
end L2
namespace L2
open PySem PySem.SeqAt PySem.Spec PySem.W PyProof.Rows
section
variable {X:Cx}
section
variable {K:bE}
def Se (K:bE)(ea:o?):List V->Hp->VK->Prop:=λxs H Q=>∃p C,∃bs:List Bool,xs=[.ref p]/\aP K H p (bs.map V.bl)/\H ea=j? (.ext (pT ea C))/\Q (.bl (bs.any id)) H
theorem DF {ea:o?}(h:X.K=K)(hh:X.A.handled=j? (.ref ea)):ir X (.builtin "any") (Se K ea):=by
 subst h;intro pins s σ H xs us Q I rv h;obtain⟨p,C,bs,rfl,hq,hx,q⟩:=h;obtain⟨u,rfl,ru⟩:=vals1 rv;cases (show u=I! p from ru)
 obtain⟨its,r,hp,_⟩:=I.list hq;have hb:=nH r;have hl:=hp.isList;have hlt:p<s.heap.objs.size:=by obtain⟨_,e,_⟩:=hl;exact Yl e
 have hE:pT ea C s.heap:=(I.hok ea _ hx).1;have cx:z6 ea s.heap:=by obtain⟨o,vs,e,_,d,c⟩:=hE;exact⟨o,vs,e,d,c⟩
 have IV:ea<s.heap.objs.size:=by obtain⟨_,_,e,_⟩:=cx;exact Yl e
 refine call_any_walk (wpAny_pyIter_list hl ?_)
 refine⟨s.heap.objs.size,[s.heap.objs.size,p,ea],[s.heap.objs.size],its.toArray.size,_,_,λi=>(bs[i]?).getD false,rfl,O3 (A:=X.A.in1) hh _ p (Yq hlt) (Yq IV) its.toArray,
  ⟨⟨_,Yv _ rfl,rfl,rfl⟩,hl.push _,cx.push _⟩,λi v s' Q' E' hP hQ=>?_,λh' tk hk=>?_⟩
 ·obtain⟨b,e,rfl⟩:=hb.get i v (by simpa using hP)
  simp only[e,Option.getD_some] at hQ
  exact wpAny_truthy_bool hQ
 ·have e:((Ym its.toArray.size).any λi=>(bs[i]?).getD false)=bs.any id:=by
   rw[Yr,hb.length];exact LSm.range_any bs
  rw[e];exact⟨.bl _,H,I.kept (h':=h') (t':=tk) (LSm.kept_iter hk),rfl,q⟩
end
variable {o e:Expr} {es:List Expr} {to:TE} {t:TA} {name:Str} {apos cpos:Pos} {T id:String} {r:V->List V->Hp->VK->Prop} {K:bE}
end
end L2
namespace L2
open PySem PySem.Spec PyProof.Rows Alg
end L2
namespace Alg
open Lean.Grind
end Alg
namespace L2
open Alg
end L2
namespace Alg
open Lean.Grind
section
variable {α:Type} [CommRing α]
inductive iz (S:List (Nat->α)):(Nat->α)->Prop where
 | zero:iz S λ_=>0
 | add {r v:Nat->α} (a:α) (h:r∈S) (t:iz S v):iz S λi=>a*r i+v i
theorem iz.of {S:List (Nat->α)}{v w:Nat->α}(h:iz S v)(e:∀i,v i=w i):iz S w:=by
 rw[<- funext e];exact h
theorem iz.plus {S:List (Nat->α)}{v w:Nat->α}(h:iz S v)(k:iz S w):iz S λi=>v i+w i:=by
 induction h with
 | zero=>exact k.of λi=>by grind
 | @add r v a hr _ ih=>exact(iz.add a hr ih).of λi=>by grind
theorem iz.smul {S:List (Nat->α)}{v:Nat->α}(c:α)(h:iz S v):iz S λi=>c*v i:=by
 induction h with
 | zero=>exact iz.zero.of λi=>by grind
 | @add r v a hr _ ih=>exact(iz.add (c*a) hr ih).of λi=>by grind
theorem iz.mem {S:List (Nat->α)}{r:Nat->α}(h:r∈S):iz S r:=(iz.add 1 h iz.zero).of λi=>by grind
theorem iz.trans {S S':List (Nat->α)}(hs:∀r∈S,iz S' r){v:Nat->α}(h:iz S v):iz S' v:=by
 induction h with
 | zero=>exact .zero
 | @add r v a hr _ ih=>exact((hs r hr).smul a).plus ih
theorem iz.DG {S:List (Nat->α)}{k:Nat}(hs:∀r∈S,r k=0){v:Nat->α}(h:iz S v):v k=0:=by
 induction h with
 | zero=>rfl
 | @add r v a hr _ ih=>show a*r k+v k=0;rw[hs r hr,ih];grind
theorem iz.step {S S':List (Nat->α)}{r s0:Nat->α}{k:Nat}{b:α}(e0:∀i,r i=b*s0 i)(e1:r k=1)(hs:∀s∈S,s=s0\/(λi=>s i-s k*r i)∈S'){v:Nat->α}(h:iz S v):iz S' λi=>v i-v k*r i:=by
 induction h with
 | zero=>exact iz.zero.of λi=>by grind
 | @add s v a hr _ ih=>
  rcases hs s hr with rfl|h
  ·have e2:b*s k=1:=by rw[<- e0];exact e1
   refine ih.of λi=>?_
   rw[e0 i];grind
  ·refine(iz.add a h ih).of λi=>?_
   grind
theorem iz.back {S:List (Nat->α)}{r s0 s:Nat->α}{k:Nat}{b:α}(e0:∀i,r i=b*s0 i)(h0:s0∈S)(hs:s∈S):iz S λi=>s i-s k*r i:=by
 refine(iz.add (-(s k*b)) h0 (iz.mem hs)).of λi=>?_
 rw[e0 i];grind
def sm (n:Nat)(d:Nat->α)(R:Nat->Nat->α)(j:Nat):α:=match n with
 | 0=>0
 | n+1=>sm n d R j+d n*R n j
theorem dS {n:Nat}{d d':Nat->α}{R R':Nat->Nat->α}{j:Nat}(h:∀i,i<n->d i=d' i)(k:∀i,i<n->R i j=R' i j):sm n d R j=sm n d' R' j:=by
 induction n with
 | zero=>rfl
 | succ n ih=>
  show sm n d R j+d n*R n j=sm n d' R' j+d' n*R' n j
  rw[ih (λi hi=>h i (by omega)) (λi hi=>k i (by omega)),h n (by omega),k n (by omega)]
theorem gU {n:Nat}{R:Nat->Nat->α}{j:Nat}:sm n (λ_=>0) R j=0:=by
 induction n with
 | zero=>rfl
 | succ n ih=>
  show sm n (λ_=>0) R j+0*R n j=0
  rw[ih];grind
theorem kB {n:Nat}(a:α){d e:Nat->α}{R:Nat->Nat->α}{j:Nat}:sm n (λi=>a*d i+e i) R j=a*sm n d R j+sm n e R j:=by
 induction n with
 | zero=>show(0:α)=a*0+0;grind
 | succ n ih=>
  show sm n (λi=>a*d i+e i) R j+(a*d n+e n)*R n j=a*(sm n d R j+d n*R n j)+(sm n e R j+e n*R n j)
  rw[ih];grind
theorem iO {n:Nat}{R:Nat->Nat->α}{j k:Nat}(hk:k<n):sm n (λi=>if i=k then 1 else 0) R j=R k j:=by
 induction n with
 | zero=>omega
 | succ n ih=>
  show sm n (λi=>if i=k then 1 else 0) R j+(if n=k then 1 else 0)*R n j=R k j
  by_cases h:n=k
  ·subst h
   rw[W9 rfl,dS (d':=λ_=>0) (λi hi=>by show(if i=n then (1:α) else 0)=0;rw[W8 (by omega)]) (λi hi=>rfl),gU];grind
  ·rw[ih (by omega),W8 h];grind
def j0 (W n:Nat)(R:Nat->Nat->α)(k:Nat):Nat->α:=λj=>if j<W then R k j else if j<W+n then (if j-W=k then 1 else 0) else 0
theorem Mu {W n:Nat}{R:Nat->Nat->α}{S:List (Nat->α)}(hS:∀r∈S,∃k,k<n/\r=j0 W n R k){v:Nat->α}(h:iz S v):(∀j,j<W->v j=sm n (λi=>v (W+i)) R j)/\∀j,W+n<=j->v j=0:=by
 induction h with
 | zero=>exact⟨λj _=>gU.symm,λ_ _=>rfl⟩
 | @add r v a hr _ ih=>
  obtain⟨k,hk,rfl⟩:=hS r hr;refine⟨λj hj=>?_,λj hj=>?_⟩
  ·show a*j0 W n R k j+v j=_
   rw[kB (n:=n) a (d:=λi=>j0 W n R k (W+i)) (e:=λi=>v (W+i)),<- ih.1 j hj]
   congr 1
   rw[dS (n:=n) (d':=λi=>if i=k then 1 else 0) (λi hi=>?_) (λi hi=>rfl),iO hk]
   ·show a*(if j<W then R k j else _)=_
    rw[W9 hj]
   ·show(if W+i<W then R k (W+i) else if W+i<W+n then (if W+i-W=k then (1:α) else 0) else 0)=_
    rw[W8 (by omega),W9 (by omega),Wh]
  ·show a*(if j<W then R k j else if j<W+n then _ else 0)+v j=0
   rw[W8 (by omega),W8 (by omega),ih.2 j hj];grind
theorem BI {W n:Nat}{R:Nat->Nat->α}(d:Nat->α):∀m,m<=n->iz ((Ym n).map (j0 W n R)) λj=>sm m d (j0 W n R) j
 | 0,_=>.zero
 | m+1,hm=>(iz.add (d m) (List.mem_map.mpr ⟨m,List.mem_range.mpr (by omega),rfl⟩) (BI d m (by omega))).of λj=>by
   show d m*j0 W n R m j+sm m d (j0 W n R) j=sm m d (j0 W n R) j+d m*j0 W n R m j
   grind
theorem Mv {W n:Nat}{R:Nat->Nat->α}{d:Nat->α}:(∀j,j<W->sm n d (j0 W n R) j=sm n d R j)/\(∀i,i<n->sm n d (j0 W n R) (W+i)=d i)/\∀j,W+n<=j->sm n d (j0 W n R) j=0:=by
 refine⟨λj hj=>dS (λi _=>rfl) λi _=>by show(if j<W then R i j else _)=_;rw[W9 hj],λi hi=>?_,λj hj=>?_⟩
 ·have e:∀m,m<=n->sm m d (j0 W n R) (W+i)=if i<m then d i else 0:=by
   intro m;induction m with
   | zero=>intro _;rw[W8 (by omega)];rfl
   | succ m ih=>
    intro hm;show sm m d (j0 W n R) (W+i)+d m*(if W+i<W then R m (W+i) else if W+i<W+n then (if W+i-W=m then (1:α) else 0) else 0)=_
    rw[ih (by omega),W8 (show ¬ W+i<W by omega),W9 (show W+i<W+n by omega),Wh]
    by_cases h1:i=m
    ·subst h1
     rw[W8 (show ¬ i<i by omega),W9 rfl,W9 (show i<i+1 by omega)];grind
    ·rw[W8 h1]
     by_cases h2:i<m
     ·rw[W9 h2,W9 (show i<m+1 by omega)];grind
     ·rw[W8 h2,W8 (show ¬ i<m+1 by omega)];grind
  rw[e n (Yd n),W9 hi]
 ·have:sm n d (j0 W n R) j=sm n d (λ_ _=>0) j:=dS (λi _=>rfl) λi _=>by
   show(if j<W then R i j else if j<W+n then _ else 0)=0
   rw[W8 (by omega),W8 (by omega)]
  rw[this];have z:∀m,sm m d (λ_ _=>(0:α)) j=0:=λm=>by
   induction m with
   | zero=>rfl
   | succ m ih=>show sm m d (λ_ _=>(0:α)) j+d m*0=0;rw[ih];grind
  exact z n
structure CY (W n:Nat)(R:Nat->Nat->α)(k:Nat)(S:List (Nat->α)):Prop where
 sub:∀r∈S,iz ((Ym n).map (j0 W n R)) r
 nil:∀r∈S,∀j,j<k->r j=0
 all:∀v,iz ((Ym n).map (j0 W n R)) v->(∀j,j<k->v j=0)->iz S v
theorem CY.start {W n:Nat}{R:Nat->Nat->α}:CY W n R 0 ((Ym n).map (j0 W n R)):=⟨λr h=>.mem h,λr _ j hj=>Jf hj (Wm _),λv h _=>h⟩
theorem CY.skip {W n k:Nat}{R:Nat->Nat->α}{S:List (Nat->α)}(h:CY W n R k S)(h0:∀r∈S,r k=0):CY W n R (k+1) S:=
 ⟨h.sub,λr hr j hj=>by
  by_cases e:j=k
  ·rw[e];exact h0 r hr
  ·exact h.nil r hr j (by omega),λv hv h1=>h.all v hv λj hj=>h1 j (by omega)⟩
theorem CY.step {W n k:Nat}{R:Nat->Nat->α}{S S':List (Nat->α)}{r s0:Nat->α}{b:α}(h:CY W n R k S)(h0:s0∈S)(e0:∀i,r i=b*s0 i)(e1:r k=1)(hs:∀s∈S,s=s0\/(λi=>s i-s k*r i)∈S')(hs':∀t∈S',∃s∈S,t=λi=>s i-s k*r i):CY W n R (k+1) S':=by
 refine⟨λt ht=>?_,λt ht j hj=>?_,λv hv h1=>?_⟩
 ·obtain⟨s,hs,rfl⟩:=hs' t ht
  exact(iz.back e0 h0 hs).trans h.sub
 ·obtain⟨s,hs,rfl⟩:=hs' t ht
  show s j-s k*r j=0
  by_cases e:j=k
  ·rw[e,e1];grind
  ·rw[e0 j,h.nil s hs j (by omega),h.nil s0 h0 j (by omega)];grind
 ·have:=(h.all v hv λj hj=>h1 j (by omega)).step e0 e1 hs
  refine this.of λi=>?_
  rw[h1 k (by omega)];grind
theorem CY.done {W n:Nat}{R:Nat->Nat->α}{S:List (Nat->α)}(h:CY W n R W S):(∀r∈S,∀j,j<W->sm n (λi=>r (W+i)) R j=0)/\∀d:Nat->α,(∀j,j<W->sm n d R j=0)->∃v,iz S v/\∀i,i<n->v (W+i)=d i:=by
 refine⟨λr hr j hj=>?_,λd hd=>?_⟩
 ·have:=(Mu (W:=W) (n:=n) (R:=R) (λr hr=>by obtain⟨k,hk,e⟩:=List.mem_map.mp hr;exact⟨k,List.mem_range.mp hk,e.symm⟩) (h.sub r hr)).1 j hj
  rw[<- this];exact h.nil r hr j hj
 ·obtain⟨a,b,_⟩:=Mv (W:=W) (n:=n) (R:=R) (d:=d)
  exact⟨_,h.all _ (BI d n (Yd n)) λj hj=>by rw[a j hj];exact hd j hj,b⟩
end
end Alg
namespace L2
open PySem Alg
end L2
namespace Alg
open Lean.Grind
end Alg
namespace L2
open PySem Alg
end L2
namespace Alg
open Lean.Grind
section
variable {α:Type} [CommRing α]
theorem DH {p:Nat}(hc:nt α p=0)(k:Nat):nt α (k % p)=nt α k:=by
 have h:=Nat.div_add_mod k p;have h2:nt α k=nt α (p*(k / p)+k % p):=by rw[h]
 rw[h2,wW,tZ,hc];grind
end
end Alg
namespace L2
open PySem Alg
abbrev Zt (T:QO):Type:=(ground T.p T.pr).α
def zv {T:QO}(x:Zt T):Nat:=(show Zp T.p from x).v
section
variable {T:QO} {F:T.α->Nat->Zt T}
theorem Sf (z:Zt T):Alg.nt (Zt T) (zv z)=z:=by
 apply Zp.ext
 show(letI:=sP (cY T.pr).1;Alg.nt (Zp T.p) (zv z):Zp T.p).v=(show Zp T.p from z).v
 rw[IT];exact Z5 (show Zp T.p from z).lt
end
end L2
namespace Alg
open Lean.Grind
abbrev Vc:=Nat->Int
def Gq (S:List Vc)(m:Int)(q:Nat)(v:Vc):Prop:=(∀j,q<=j->v j=0)/\∃u z:Vc,iz S u/\∀j,v j=u j+m*z j
theorem Gq.zero {S:List Vc}{m:Int}{q:Nat}:Gq S m q λ_=>0:=⟨λ_ _=>rfl,_,λ_=>0,.zero,λj=>by show(0:Int)=0+m*0;omega⟩
theorem Gq.jy {S:List Vc}{m:Int}{q:Nat}(a:Int){v w:Vc}(h:Gq S m q v)(k:Gq S m q w):Gq S m q λj=>a*v j+w j:=by
 obtain⟨h0,u,z,hu,e⟩:=h;obtain⟨k0,u',z',Nz,e'⟩:=k;exact⟨λj hj=>by show a*v j+w j=0;rw[h0 j hj,k0 j hj];omega,_,λj=>a*z j+z' j,(hu.smul a).plus Nz,λj=>by show a*v j+w j=a*u j+u' j+m*(a*z j+z' j);rw[e j,e' j];grind⟩
theorem Gq.of {S:List Vc}{m:Int}{q:Nat}{v w:Vc}(h:Gq S m q v)(e:∀j,v j=w j):Gq S m q w:=by rw[<- funext e];exact h
theorem Gq.mem {S:List Vc}{m:Int}{q:Nat}{r:Vc}(h:r∈S)(h0:∀j,q<=j->r j=0):Gq S m q r:=⟨h0,r,λ_=>0,.mem h,λj=>by show r j=r j+m*0;omega⟩
theorem Gq.Jk {S:List Vc}{m:Int}{q:Nat}{v w z:Vc}(h:Gq S m q v)(w0:∀j,q<=j->w j=0)(e:∀j,w j=v j+m*z j):Gq S m q w:=by
 obtain⟨h0,u,z',hu,e'⟩:=h;exact⟨w0,u,λj=>z j+z' j,hu,λj=>by rw[e j,e' j];grind⟩
theorem Gq.unit {S:List Vc}{m:Int}{q k:Nat}(hk:k<q):Gq S m q λj=>if j=k then m else 0:=by
 refine(Gq.zero (S:=S) (m:=m) (q:=q)).Jk (z:=λj=>if j=k then 1 else 0) (λj hj=>W8 (by omega)) λj=>?_
 by_cases e:j=k
 ·simp[e]
 ·simp[e]
theorem Gq.sm {S:List Vc}{m:Int}{q:Nat}{c:Vc}{T:Nat->Vc}:∀n,(∀i,i<n->Gq S m q (T i))->Gq S m q λj=>sm n c T j
 | 0,_=>.zero
 | n+1,h=>((h n (by omega)).jy (c n) (Gq.sm n λi hi=>h i (by omega))).of λj=>by
   show c n*T n j+Alg.sm n c T j=Alg.sm n c T j+c n*T n j
   omega
theorem iz.lead {S S':List Vc}{lead:Vc}{m:Int}(h:∀r∈S,∃r'∈S',∃(o:Int) (w:Vc),∀j,r j=r' j+o*lead j+m*w j){u:Vc}(hu:iz S u):∃(A:Int) (u' w:Vc),iz S' u'/\∀j,u j=A*lead j+u' j+m*w j:=by
 induction hu with
 | zero=>exact⟨0,_,λ_=>0,.zero,λj=>by show(0:Int)=0*lead j+0+m*0;grind⟩
 | @add r v a hr _ ih=>
  obtain⟨r',hr',o,w,e⟩:=h r hr;obtain⟨A,u',w',Nz,e'⟩:=ih;exact⟨a*o+A,_,λj=>a*w j+w' j,.add a hr' Nz,λj=>by show a*r j+v j=(a*o+A)*lead j+(a*r' j+u' j)+m*(a*w j+w' j);rw[e j,e' j];grind⟩
theorem Gq.step {S S':List Vc}{lead:Vc}{m t:Int}{q:Nat}(hs:∀r∈S,∃r'∈S',∃(o:Int) (w:Vc),∀j,r j=r' j+o*lead j+m*w j)(hx:∃x∈S',∃w:Vc,∀j,t*lead j=x j+m*w j)(hl:t*lead q=m)(hup:∀j,q+1<=j->lead j=0)(h0:∀r∈S',∀j,q<=j->r j=0)(m0:m≠0){g:Vc}(hg:Gq S m (q+1) g):∃(a:Int) (g':Vc),Gq S' m q g'/\∀j,g j=a*lead j+g' j:=by
 obtain⟨gz,u,z,hu,eg⟩:=hg;obtain⟨A,u',w,Nz,eu⟩:=hu.lead hs;obtain⟨x,xs,wx,ex⟩:=hx;have w1:wx q=1:=by
  have:=ex q
  rw[hl,h0 x xs q (Yd q),Zu] at this;have e:m*(wx q-1)=0:=by grind
  rcases Int.mul_eq_zero.mp e with y|y
  ·exact Jf y m0
  ·omega
 have XF:∀j,g j=(A+(w q+z q)*t)*lead j+(u' j-(w q+z q)*x j+m*(w j+z j-(w q+z q)*wx j)):=λj=>by
  have:=ex j
  rw[eg j,eu j];grind
 refine⟨A+(w q+z q)*t,_,⟨λj hj=>?_,λj=>u' j-(w q+z q)*x j,λj=>w j+z j-(w q+z q)*wx j,(iz.add (-(w q+z q)) xs Nz).of λj=>by show -(w q+z q)*x j+u' j=u' j-(w q+z q)*x j;grind,λj=>rfl⟩,XF⟩
 by_cases e:j=q
 ·subst e
  show u' j-(w j+z j)*x j+m*(w j+z j-(w j+z j)*wx j)=0
  rw[w1,h0 x xs j (Yd j),Nz.DG λr hr=>h0 r hr j (Yd j)];grind
 ·have h1:=XF j
  rw[gz j (by omega),hup j (by omega)] at h1
  grind
theorem sS {n:Nat}{d d':Vc}{R R':Nat->Vc}{j:Nat}(h:∀i,i<n->d i*R i j=d' i*R' i j):sm n d R j=sm n d' R' j:=by
 induction n with
 | zero=>rfl
 | succ n ih=>
  show sm n d R j+d n*R n j=sm n d' R' j+d' n*R' n j
  rw[ih λi hi=>h i (by omega),h n (by omega)]
theorem Py {n q:Nat}(hq:q<n){c:Vc}(c0:c q=0){T:Nat->Vc}{lead:Vc}{a:Int}(j:Nat):sm n (λi=>if i=q then a else c i) (λi=>if i=q then lead else T i) j=sm n c T j+a*lead j:=by
 induction n with
 | zero=>omega
 | succ n ih=>
  show sm n _ _ j+(if n=q then a else c n)*(if n=q then lead else T n) j=sm n c T j+c n*T n j+a*lead j
  by_cases e:n=q
  ·rw[W9 e,W9 e,sS (d':=c) (R':=T) λi hi=>by
    show(if i=q then a else c i)*(if i=q then lead else T i) j=_
    rw[W8 (by omega),W8 (by omega)]]
   rw[e,c0];grind
  ·rw[W8 e,W8 e,ih (by omega)];grind
structure Jl (n:Nat)(R:List Vc)(m:Int)(q:Nat)(T:Nat->Vc)(S:List Vc):Prop where
 low:∀r∈S,∀j,q<=j->r j=0
 sub:∀r∈S,Gq R m n r
 told:∀i,q<=i->i<n->Gq R m n (T i)
 jk:∀i,q<=i->i<n->∀j,i<j->T i j=0
 all:∀v,Gq R m n v->∃c g:Vc,(∀i,i<q->c i=0)/\Gq S m q g/\∀j,v j=sm n c T j+g j
theorem Jl.step {n q:Nat}{R S S':List Vc}{m t:Int}{T:Nat->Vc}{lead:Vc}(h:Jl n R m (q+1) T S)(hq:q<n)(m0:m≠0)
  (qj:Gq R m n lead) (hup:∀j,q+1<=j->lead j=0) (hl:t*lead q=m)
  (hs:∀r∈S,∃r'∈S',∃(o:Int) (w:Vc),∀j,r j=r' j+o*lead j+m*w j) (hx:∃x∈S',∃w:Vc,∀j,t*lead j=x j+m*w j)
  (hb:∀r'∈S',(∃r∈S,∃(o:Int) (w:Vc),∀j,r j=r' j+o*lead j+m*w j)\/∃w:Vc,∀j,t*lead j=r' j+m*w j) (h0:∀r∈S',∀j,q<=j->r j=0):Jl n R m q (λi=>if i=q then lead else T i) S':=by
 refine⟨h0,λr' hr'=>?_,λi hi hn=>?_,λi hi hn j hj=>?_,λv hv=>?_⟩
 ·rcases hb r' hr' with ⟨r,hr,o,w,e⟩|⟨w,e⟩
  ·exact(qj.jy (-o) (h.sub r hr)).Jk (z:=λj=>-w j) (λj hj=>h0 r' hr' j (by omega)) λj=>by have:=e j;grind
  ·exact(qj.jy t Gq.zero).Jk (z:=λj=>-w j) (λj hj=>h0 r' hr' j (by omega)) λj=>by have:=e j;grind
 ·by_cases e:i=q
  ·rw[W9 e];exact qj
  ·rw[W8 e];exact h.told i (by omega) hn
 ·by_cases e:i=q
  ·rw[W9 e];exact hup j (by omega)
  ·rw[W8 e];exact h.jk i (by omega) hn j hj
 ·obtain⟨c,g,c0,hg,e⟩:=h.all v hv
  obtain⟨a,g',hg',e'⟩:=hg.step hs hx hl hup h0 m0;refine⟨λi=>if i=q then a else c i,g',λi hi=>?_,hg',λj=>?_⟩
  ·show(if i=q then a else c i)=0
   rw[W8 (by omega)];exact c0 i (by omega)
  ·rw[Py hq (c0 q (by omega)) j,e j,e' j];omega
theorem Jl.start {n:Nat}{R:List Vc}{m:Int}{T:Nat->Vc}{S:List Vc}(h1:∀r∈S,Gq R m n r)(h2:∀r∈R,∃r'∈S,∃w:Vc,∀j,r j=r' j+m*w j):Jl n R m n T S:=by
 refine⟨λr hr=>(h1 r hr).1,h1,λi hi hn=>by omega,λi hi hn=>by omega,λv hv=>⟨λ_=>0,v,λ_ _=>rfl,?_,λj=>by rw[gU];omega⟩⟩
 obtain⟨v0,u,z,hu,e⟩:=hv;obtain⟨A,u',w,Nz,eu⟩:=hu.lead (S':=S) (lead:=λ_=>0) (m:=m) λr hr=>by
  obtain⟨r',hr',w,e⟩:=h2 r hr;exact⟨r',hr',0,w,λj=>by rw[e j];omega⟩
 exact⟨v0,u',λj=>w j+z j,Nz,λj=>by rw[e j,eu j];grind⟩
structure c_ (n:Nat)(T:Nat->Vc):Prop where
 jk:∀i,i<n->∀j,i<j->T i j=0
 nz:∀i,i<n->T i i≠0
def gK (n:Nat)(T:Nat->Vc)(v:Vc):Prop:=∃c:Vc,∀j,v j=sm n c T j
theorem Jl.done {n:Nat}{R S:List Vc}{m:Int}{T:Nat->Vc}(h:Jl n R m 0 T S){v:Vc}:Gq R m n v↔gK n T v:=by
 refine⟨λhv=>?_,λ⟨c,e⟩=>(Gq.sm n λi hi=>h.told i (by omega) hi).of λj=>(e j).symm⟩
 obtain⟨c,g,_,hg,e⟩:=h.all v hv;exact⟨c,λj=>by rw[e j,hg.1 j (by omega)];omega⟩
theorem iA {n q j:Nat}{c:Vc}{T:Nat->Vc}(hT:∀i,i<n->T i j=0):sm n c T j=0:=by
 induction n with
 | zero=>rfl
 | succ n ih=>
  show sm n c T j+c n*T n j=0
  rw[ih λi hi=>hT i (by omega),hT n (by omega)];omega
theorem c_.at_ {n:Nat}{T:Nat->Vc}(h:c_ n T)(c:Vc){q:Nat}(hq:q<n):sm (q+1) c T q=c q*T q q:=by
 show sm q c T q+c q*T q q=_
 rw[iA (q:=q) λi hi=>h.jk i (by omega) q hi];omega
theorem c_.uniq {n:Nat}{T:Nat->Vc}(h:c_ n T):∀q,q<=n->∀ {c c':Vc},(∀j,sm q c T j=sm q c' T j)->∀i,i<q->c i=c' i
 | 0,_,c,c',_,i,hi=>by omega
 | q+1,hq,c,c',e,i,hi=>by
  have e1:c q=c' q:=by
   have:=e q
   rw[h.at_ c (by omega),h.at_ c' (by omega)] at this
   exact Int.eq_of_mul_eq_mul_right (h.nz q (by omega)) this
  by_cases y:i=q
  ·rw[y];exact e1
  ·refine c_.uniq h q (by omega) (λj=>?_) i (by omega)
   have h1:sm q c T j+c q*T q j=sm q c' T j+c' q*T q j:=e j;rw[e1] at h1;omega
theorem gK.jy {n:Nat}{T:Nat->Vc}(a:Int){v w:Vc}(h:gK n T v)(k:gK n T w):gK n T λj=>a*v j+w j:=by
 obtain⟨c,e⟩:=h;obtain⟨d,e'⟩:=k;exact⟨λi=>a*c i+d i,λj=>by show a*v j+w j=_;rw[kB,e j,e' j]⟩
theorem gK.of {n:Nat}{T:Nat->Vc}{v w:Vc}(h:gK n T v)(e:∀j,v j=w j):gK n T w:=by rw[<- funext e];exact h
theorem gK.row {n:Nat}{T:Nat->Vc}{i:Nat}(hi:i<n):gK n T (T i):=⟨λk=>if k=i then 1 else 0,λj=>(iO hi).symm⟩
theorem gK.zero {n:Nat}{T:Nat->Vc}:gK n T λ_=>0:=⟨λ_=>0,λj=>gU.symm⟩
theorem gK.sm {n:Nat}{T:Nat->Vc}{c:Vc}{U:Nat->Vc}:∀k,(∀i,i<k->gK n T (U i))->gK n T λj=>sm k c U j
 | 0,_=>.zero
 | k+1,h=>((h k (by omega)).jy (c k) (gK.sm k λi hi=>h i (by omega))).of λj=>by
   show c k*U k j+Alg.sm k c U j=Alg.sm k c U j+c k*U k j
   omega
theorem c_.cut {n:Nat}{T:Nat->Vc}(h:c_ n T){v:Vc}{q:Nat}(hv:gK n T v)(v0:∀j,q<=j->v j=0)(hq:q<=n):∃c:Vc,∀j,v j=sm q c T j:=by
 obtain⟨c,e⟩:=hv;have key:∀k,q<=k->k<=n->(∀j,v j=sm k c T j)->∃c:Vc,∀j,v j=sm q c T j:=by
  intro k;induction k with
  | zero=>
   intro h1 _ e;have h5:q=0:=by omega
   rw[h5];exact⟨c,e⟩
  | succ k ih=>
   intro h1 h2 e;by_cases y:q=k+1
   ·subst y;exact⟨c,e⟩
   ·refine ih (by omega) (by omega) λj=>?_
    have h3:=e k;rw[v0 k (by omega),h.at_ c (by omega)] at h3
    rcases Int.mul_eq_zero.mp h3.symm with z|z
    ·rw[e j]
     show Alg.sm k c T j+c k*T k j=_
     rw[z];omega
    ·exact Jf z (h.nz k (by omega))
 exact key n hq (Yd n) e
theorem c_.dvd {n:Nat}{T U:Nat->Vc}(hT:c_ n T)(hU:c_ n U)(sub:∀i,i<n->gK n T (U i)){i:Nat}(hi:i<n):T i i ∣ U i i:=by
 obtain⟨c,e⟩:=hT.cut (q:=i+1) (sub i hi) (λj hj=>hU.jk i hi j (by omega)) (by omega)
 have:=e i
 rw[hT.at_ c hi] at this;exact⟨c i,by rw[this,Zs]⟩
theorem c_.same {n:Nat}{T U:Nat->Vc}(hT:c_ n T)(hU:c_ n U)(sub:∀i,i<n->gK n T (U i))(eq:∀i,i<n->U i i=T i i):∀i,i<n->gK n U (T i):=by
 have key:∀k,∀i,i<k->i<n->gK n U (T i):=by
  intro k;induction k with
  | zero=>intro i hi;omega
  | succ k ih=>
   intro i hik hi;by_cases y:i<k
   ·exact ih i y hi
   obtain rfl:i=k:=by omega
   obtain⟨c,e⟩:=hT.cut (q:=i+1) (sub i hi) (λj hj=>hU.jk i hi j (by omega)) (by omega)
   have c1:c i=1:=by
    have:=e i
    rw[hT.at_ c hi,eq i hi] at this;have z:=hT.nz i hi;have:(c i-1)*T i i=0:=by grind
    rcases Int.mul_eq_zero.mp this with y|y
    ·omega
    ·exact Jf y z
   refine(gK.jy (-1) (gK.sm (c:=c) (U:=T) i λk hk=>ih k hk (by omega)) (gK.row (T:=U) hi)).of λj=>?_
   have h3:U i j=Alg.sm i c T j+c i*T i j:=e j;rw[c1] at h3;omega
 exact λi hi=>key n i hi hi
end Alg
namespace L2
open PySem PySem.Spec PyProof.Rows Alg
def rE (n:Nat)(v:Vc):El:=lE n λj=>.num (v j)
def mE (r c:Nat)(A:Nat->Vc):El:=lE r λi=>rE c (A i)
def tE (r c d:Nat)(A:Nat->Nat->Vc):El:=lE r λi=>mE c d (A i)
def lv (n:Nat)(v:Vc):List Int:=(Ym n).map v
theorem aQ (n:Nat)(v:Vc):(lv n v).length=n:=by unfold lv;rw[Ya,Yg]
theorem cZ {n:Nat}{v:Vc}{j:Nat}(h:j<n):(lv n v)[j]?=j? (v j):=by unfold lv;rw[Ye,Y0 h];rfl
theorem j9 (n:Nat)(v:Vc)(j:Nat):aq (lv n v) j=if j<n then v j else 0:=by
 unfold aq;by_cases h:j<n
 ·rw[W9 h,Yb,cZ h];rfl
 ·rw[W8 h,Yb,List.getElem?_eq_none_iff.mpr (by rw[aQ];omega)];rfl
theorem w_ {n:Nat}{e d:Nat->El}(h:∀i,i<n->e i=d i):lE n e=lE n d:=by
 unfold lE;congr 1
 exact Wu λi hi=>h i (List.mem_range.mp hi)
theorem xg {n:Nat}{v w:Vc}(h:∀j,j<n->v j=w j):rE n v=rE n w:=w_ λj hj=>by rw[h j hj]
theorem Fd {n:Nat}{v:Vc}{H:Hp}{ok:o?->Prop}{l:o?}(h:H l=j? (.lst ((lv n v).map V.int)))(k:ok l):Rep H ok (.ref l) (rE n v):=by
 refine Cf.rep (vs:=(lv n v).map V.int) ⟨by rw[Ya,aQ],λi hi=>⟨.int (v i),by rw[Ye,cZ hi];rfl,.num _⟩⟩ h k
theorem Mw {H:Hp}{ok:o?->Prop}{v:V}{n:Int}(h:Rep H ok v (.num n)):v=.int n:=by cases h;rfl
theorem dU {n:Nat}{v:Vc}{H:Hp}{ok:o?->Prop}{x:V}(h:Rep H ok x (rE n v)):∃l,x=.ref l/\H l=j? (.lst ((lv n v).map V.int))/\ok l:=by
 obtain⟨l,vs,rfl,hl,k,C⟩:=h.cf;refine⟨l,rfl,?_,k⟩
 have:vs=(lv n v).map V.int:=by
  refine Zr λi=>?_
  by_cases hi:i<n
  ·obtain⟨y,h1,r⟩:=C.at_ i hi
   rw[h1,Ye,cZ hi,Mw r];rfl
  ·rw[List.getElem?_eq_none_iff.mpr (by rw[C.len];omega),List.getElem?_eq_none_iff.mpr (by rw[Ya,aQ];omega)]
 rw[<- this];exact hl
theorem nv {n j:Nat}{v:Vc}(h:j<n):qe ((lv n v).map V.int) (j:Int)=j? (.int (v j)):=dQ (by rw[Ye,cZ h];rfl)
section
variable {K:bE} {D:o?} {st:St} {g:TG} {te:TE} {H1:Hp} {Q:VK} {n:Nat}
theorem nW {a:o?}{xs:List V}(e:Nat->El)(hn:xs.length=n)(h:H1 a=j? (.lst xs))(hD:H1 D=q?)(hz:n<=1000)
  (hs:∀i x H2 (Q2:VK),i<n->aH H1 H2->xs[i]?=j? x->(∀r H3,aH H2 H3->Rep H3 (dX H2) r (e i)->Q2 r H3)->g x st H2 λσ3 H3=>te σ3 H3 Q2)
  (q:∀H2,aH H1 H2->Rep H2 (dX H1) (.ref D) (lE n e)->Q (.ref D) H2):uO (Ou K a) D st g LO te Q H1:=by
 refine fN (xs:=xs) (λi ys H2=>aH H1 H2/\Cf H2 (Off H1 D) ys i e) ⟨aA hD _,.nil⟩ (λi ys H2 _ h'=>aP.of (h'.1 _ _ h)) ?_ ?_
 ·rintro i m x ys H2 hm hi hx hy hlen ⟨gg,cy⟩
  refine hs i x H2 _ (by omega) gg hx λr H3 g3 rr=>?_
  exact CW.emit hm hi (by rw[C?];omega) (g3 _ _ hy) hlen ⟨aH.bw (gg.trans g3) hD _,((cy.same g3).push (rr.Mk gg hy)).upd⟩
 ·rintro ys H2 hy ⟨gg,cy⟩
  rw[hn] at cy;exact q H2 gg (cy.IZ.rep hy hD)
theorem BJ {lo:Int}(e:Nat->El)(hD:H1 D=q?)(hz:n<=1000)
  (hs:∀i H2 (Q2:VK),i<n->aH H1 H2->(∀r H3,aH H2 H3->Rep H3 (dX H2) r (e i)->Q2 r H3)->g (.int (lo+(i:Int))) st H2 λσ3 H3=>te σ3 H3 Q2)
  (q:∀H2,aH H1 H2->Rep H2 (dX H1) (.ref D) (lE n e)->Q (.ref D) H2):uO (Lz lo n) D st g LO te Q H1:=by
 refine jF (λi ys H2=>aH H1 H2/\Cf H2 (Off H1 D) ys i e) ⟨aA hD _,.nil⟩ ?_ ?_
 ·rintro i m ys H2 hm hi hy hlen ⟨gg,cy⟩
  refine hs i H2 _ hi gg λr H3 g3 rr=>?_
  exact CW.emit hm hi (by rw[C?];omega) (g3 _ _ hy) hlen ⟨aH.bw (gg.trans g3) hD _,((cy.same g3).push (rr.Mk gg hy)).upd⟩
 ·rintro ys H2 hy ⟨gg,cy⟩
  exact q H2 gg (cy.IZ.rep hy hD)
theorem Pz {a b:o?}{xs ys:List V}(e:Nat->El)(hn:xs.length=n)(hm:ys.length=n)(ha:H1 a=j? (.lst xs))(hb:H1 b=j? (.lst ys))(hD:H1 D=q?)(hz:n<=1000)
  (hs:∀i x y t H2 (Q2:VK),i<n->aH H1 H2->xs[i]?=j? x->ys[i]?=j? y->H2 t=j? (.tup [x,y])->(∀r H3,aH H2 H3->Rep H3 (dX H2) r (e i)->Q2 r H3)->g (.ref t) st H2 λσ3 H3=>te σ3 H3 Q2)
  (q:∀H2,aH H1 H2->Rep H2 (dX H1) (.ref D) (lE n e)->Q (.ref D) H2):uO (TQ K a b) D st g LO te Q H1:=by
 refine BE (xs:=xs) (ys:=ys) (λi zs H2=>aH H1 H2/\Cf H2 (Off H1 D) zs i e) (by rw[hn,hm]) ⟨aA hD _,.nil⟩ (λi zs H2 _ h=>⟨aP.of (h.1 _ _ ha),aP.of (h.1 _ _ hb)⟩) ?_ ?_
 ·rintro i m x y zs H2 r hm hi hx hy hz' hlen ⟨gg,cz⟩ hr
  have kr:=aA hr (.tup [x,y]);refine hs i x y r _ _ (by omega) (gg.trans kr) hx hy ay λr2 H3 g3 rr=>?_
  exact CW.emit hm hi (by rw[C?];omega) (g3 _ _ (kr _ _ hz')) hlen ⟨aH.bw ((gg.trans kr).trans g3) hD _,((cz.same (kr.trans g3)).push (rr.Mk (gg.trans kr) (kr _ _ hz'))).upd⟩
 ·rintro zs H2 hz' ⟨gg,cz⟩
  rw[hn] at cz;exact q H2 gg (cz.IZ.rep hz' hD)
end
end L2
namespace L2
open PySem PySem.Spec PyProof.Rows
section
variable {X:Cx}
def Sg (K:bE):List V->Hp->VK->Prop:=λxs H Q=>∃p,∃ns:List Int,xs=[.ref p]/\aP K H p (ns.map V.int)/\Q (.int ns.sum) H
theorem DI {ys:Array (Int×Tok)}{ns:List Int}(e2:ys.toList.map (·.1)=ns):preSum (numAt ys) ys.size=ns.sum:=by
 have key:∀n,n<=ns.length->preSum (numAt ys) n=(ns.take n).sum:=by
  intro n;induction n with
  | zero=>intro _;simp[preSum]
  | succ n ih=>
   intro h;rw[List.take_succ_eq_append_getElem (by omega),List.sum_append,<- ih (by omega)]
   show preSum (numAt ys) n+numAt ys n=_
   rw[qE e2,d9 (by omega)]
   simp
 have hsz:ys.size=ns.length:=by rw[<- e2];simp
 rw[hsz,key _ (Yd _),List.take_length]
theorem Jm (hc:X.calm=true):ir X (.builtin "sum") (Sg X.K):=by
 intro pins s σ H xs us Q I rv h;obtain⟨p,ns,rfl,hq,q⟩:=h;obtain⟨u,rfl,ru⟩:=vals1 rv;cases (show u=I! p from ru)
 obtain⟨its,r,hp,_⟩:=I.list hq;obtain⟨ys,e1,e2⟩:=qD r;have hl:=hp.isList;rw[e1] at hl;refine sum_intListG (I.ok.hd hc) hl λh' tk t hk=>?_
 refine⟨.int _,H,I.kept (h':=h') (t':=tk) hk,⟨t,rfl⟩,?_⟩
 rw[DI e2];exact q
theorem zk {K:bE}(h:X.K=K)(hc:X.calm=true):ir X (.builtin "sum") (Sg K):=by subst h;exact Jm hc
end
end L2
namespace L2
theorem Fe {f:Nat->Int}:∀ {n:Nat},(∀i,i<n->f i=1)->CV n f=1
 | 0,_=>rfl
 | n+1,h=>by
  show CV n f*f n=1
  rw[Fe λi hi=>h i (by omega),h n (by omega)];rfl
def zl (i k:Nat):Int:=if k=i then 1 else 0
theorem My (n:Nat):det n zl=1:=by
 rw[zY n zl λi j h _=>show zl i j=0 from W8 (by omega)]
 exact Fe λi _=>W9 rfl
theorem Ae {f:Nat->Int}{k n:Nat}(hk:k<n)(h:∀i,i<n->i≠k->f i=0):bZ n f=f k:=by rw[eY,jI hk h]
theorem Mz (f g:Nat->Int)(n:Nat):bZ n (λi=>f i+g i)=bZ n f+bZ n g:=by rw[eY,eY,eY,sC]
theorem BK {n c:Nat}(hc:c<n)(f:Nat->Int):bZ n (λk=>f k*zl k c)=f c:=by
 rw[Ae hc λk _ hne=>by show f k*zl k c=0;unfold zl;rw[W8 (λz=>hne z.symm),Y6]]
 show f c*zl c c=f c
 unfold zl;rw[W9 rfl,Wx]
theorem Top.mul {f g:Fn}{n m:Nat}(hf:Top f n)(hg:Top g m):Top (cv f g) (n+m):=by
 refine⟨by rw[Dm hg λi hi=>hf.top i hi];exact hf.one,λk hk=>?_⟩
 unfold cv;refine dB λi hi=>?_
 by_cases c:n<i
 ·rw[hf.top i c,Wb]
 ·rw[hg.top _ (by omega),Y6]
section
variable {f:Fn} {n:Nat}
theorem Jo (hf:Top f n)(hn:1<=n){W C:Nat}(hW:1<=W)(hb:wb W (C*W ^ n) f):∀k,wb W ((W*(1+C)) ^ k) (tk f n k)
 | 0,j=>by
  show(xp 0 j).natAbs*W ^ j<=1
  unfold xp;by_cases c:j=0
  ·rw[W9 c,c];simp
  ·rw[W8 c];simp
 | k+1,j=>by
  have ih:=Jo hf hn hW hb k;show((if j=0 then 0 else tk f n k (j-1))-tk f n k (n-1)*f j).natAbs*W ^ j<=_
  generalize hc:(W*(1+C)) ^ k=c at ih;have h1:(if j=0 then (0:Int) else tk f n k (j-1)).natAbs*W ^ j<=c*W:=by
   by_cases z:j=0
   ·rw[W9 z];simp
   ·rw[W8 z]
    have:=Yx W (ih (j-1))
    rw[Wo,<- Zv,show(j-1).succ=j by omega] at this
    exact this
  have h2:(tk f n k (n-1)*f j).natAbs*W ^ j<=c*W*C:=by
   rw[Zf,Wo];have a1:=Zb (tk f n k (n-1)).natAbs (hb j);refine Yn a1 ?_
   have e:(tk f n k (n-1)).natAbs*(C*W ^ n)=(tk f n k (n-1)).natAbs*W ^ (n-1)*(W*C):=by
    have:W ^ n=W ^ (n-1)*W:=by rw[<- Zv,show(n-1).succ=n by omega]
    rw[this];ac_rfl
   rw[e,Wo c];exact Yx _ (ih (n-1))
  have h3:=Int.natAbs_sub_le (if j=0 then (0:Int) else tk f n k (j-1)) (tk f n k (n-1)*f j)
  refine Yn (Yx _ h3) ?_
  rw[Wd,Zv,hc,<- Wo,W7,Nat.mul_one];exact Nat.add_le_add h1 h2
theorem GC (hf:Top f n)(hn:1<=n){W C cg L:Nat}(hW:1<=W)(hb:wb W (C*W ^ n) f){g:Fn}(hg:∀m,L<=m->g m=0)(bg:wb W cg g){R:Nat->Fn}(h:Rows f n g R)(i j:Nat):(R i j).natAbs<=L*(cg*(1+C) ^ L*(W*(1+C)) ^ i):=by
 rw[L_ hf hn hg h i];refine zW λk hk=>?_
 rw[Zf];have h1:=Jo hf hn hW hb (k+i) j;have h2:(tk f n (k+i) j).natAbs<=(W*(1+C)) ^ (k+i):=Yn (Nat.le_mul_of_pos_right _ (Z0 hW)) h1;refine Yn (Zb _ h2) ?_
 rw[Zq,<- Wo];refine Yx _ ?_
 rw[Nat.mul_pow,<- Wo];exact Zk (bg k) (Yy (Yn (Yd 1) (Wj 1 _)) (W1 hk))
end
end L2
namespace Alg
open Lean.Grind
section
variable {R:Type} [CommRing R]
def zc (R:Type)[CommRing R](k:Int):R:=@IntCast.intCast R Ring.intCast k
theorem xh (a b:Int):zc R (a+b)=zc R a+zc R b:=Ring.intCast_add a b
theorem t8 (a b:Int):zc R (a*b)=zc R a*zc R b:=Ring.intCast_mul a b
theorem qF (a:Int):zc R (-a)=-zc R a:=Ring.intCast_neg a
theorem Af:zc R 0=0:=Ring.intCast_zero
theorem mD:zc R 1=1:=Ring.intCast_one
theorem eo:∀n:Nat,zc R (n:Int)=nt R n
 | 0=>Af
 | n+1=>by
  rw[show((n+1:Nat):Int)=(n:Int)+1 by omega,xh,eo n,mD];rfl
structure eO (O:R->Prop):Prop where
 one:O 1
 add {a b:R}:O a->O b->O (a+b)
 neg {a:R}:O a->O (-a)
 mul {a b:R}:O a->O b->O (a*b)
section
variable {O:R->Prop}
theorem eO.zero (h:eO O):O 0:=by
 have:=h.add h.one (h.neg h.one)
 rwa [show(1:R)+-1=0 by grind] at this
theorem eO.pow (h:eO O){a:R}(ha:O a):∀n:Nat,O (a ^ n)
 | 0=>by rw[dj];exact h.one
 | n+1=>by rw[cK];exact h.mul (h.pow ha n) ha
theorem eO.nt (h:eO O):∀n:Nat,O (nt R n)
 | 0=>h.zero
 | n+1=>h.add (h.nt n) h.one
theorem eO.zc (h:eO O)(k:Int):O (zc R k):=by
 rcases Int.le_total 0 k with y|y
 ·obtain⟨n,rfl⟩:=Zj y
  rw[eo];exact h.nt n
 ·obtain⟨n,e⟩:=Zj (show 0<=-k by omega)
  rw[show k=-(n:Int) by omega,qF,eo];exact h.neg (h.nt n)
def Cp (O:R->Prop)(p a b:R):Prop:=∃w,O w/\a=b+p*w
variable {p:R}
theorem Cp.refl (h:eO O)(a:R):Cp O p a a:=⟨0,h.zero,by grind⟩
theorem Cp.symm (h:eO O){a b:R}:Cp O p a b->Cp O p b a:=λ⟨w,hw,e⟩=>⟨-w,h.neg hw,by grind⟩
theorem Cp.trans (h:eO O){a b c:R}:Cp O p a b->Cp O p b c->Cp O p a c:=λ⟨w,hw,e⟩ ⟨v,hv,g⟩=>⟨w+v,h.add hw hv,by grind⟩
theorem Cp.add (h:eO O){a b c d:R}:Cp O p a b->Cp O p c d->Cp O p (a+c) (b+d):=λ⟨w,hw,e⟩ ⟨v,hv,g⟩=>⟨w+v,h.add hw hv,by grind⟩
theorem Cp.mul (h:eO O){a b c d:R}(hb:O b)(hc:O c):Cp O p a b->Cp O p c d->Cp O p (a*c) (b*d):=λ⟨w,hw,e⟩ ⟨v,hv,g⟩=>⟨w*c+b*v,h.add (h.mul hw hc) (h.mul hb hv),by grind⟩
theorem Cp.pow (h:eO O){a b:R}(ha:O a)(hb:O b)(c:Cp O p a b):∀n:Nat,Cp O p (a ^ n) (b ^ n)
 | 0=>by rw[dj,dj];exact .refl h _
 | n+1=>by rw[cK,cK];exact .mul h (h.pow hb n) ha (Cp.pow h ha hb c n) c
theorem BL (h:eO O){x y:R}(hx:O x)(hy:O y)(p:Nat):∀l:List Nat,(∀c∈l,c % p=0)->Cp O (Alg.nt R p) (hs x y (l++[1])) (x ^ l.length)
 | [],_=>by
  show Cp O _ (Alg.nt R 1*y ^ 0+x*0) (x ^ 0)
  rw[dj,dj,wX,show(1:R)*1+x*0=1 by grind];exact .refl h _
 | c::l,hc=>by
  obtain⟨w,hw,e⟩:=BL h hx hy p l λd hd=>hc d (Y5 _ hd)
  obtain⟨k,hk⟩:=Nat.dvd_of_mod_eq_zero (hc c Y9);refine⟨Alg.nt R k*y ^ (l++[1]).length+x*w,h.add (h.mul (h.nt k) (h.pow hy _)) (h.mul hx hw),?_⟩
  show Alg.nt R c*y ^ (l++[1]).length+x*hs x y (l++[1])=x ^ (l.length+1)+_
  rw[e,hk,tZ,cK];grind
theorem Jp (h:eO O){p:Nat}(hp:p∈PR){x y:R}(hx:O x)(hy:O y):Cp O (Alg.nt R p) ((x+y) ^ p) (x ^ p+y ^ p):=by
 have h':=Pc p hp;unfold Nx at h';simp only[T?,beq_iff_eq,decide_eq_true_eq,Wc] at h'
 obtain⟨⟨⟨⟨h1,h2⟩,h3⟩,h4⟩,h5⟩:=h';rw[IP];match e:row p,h1 with
 | c::t,h1=>
  rw[e] at h2 h3 h4;have c1:c=1:=by simpa using h1
  have tl:t.length=p:=by simpa using h4
  have TZ:t≠[]:=by intro z;rw[z] at tl;simp at tl;omega
  have t2:t=t.dropLast++[1]:=by
   have:=List.dropLast_concat_getLast TZ
   have gl:t.getLast TZ=1:=by
    rw[List.getLast?_cons_of_ne_nil TZ] at h2;rw[List.getLast?_eq_some_getLast TZ] at h2;simpa using h2
   rw[gl] at this;exact this.symm
  have dl:t.dropLast.length+1=p:=by rw[List.length_dropLast];omega
  have h3:∀d∈t.dropLast,d % p=0:=h3;obtain⟨w,hw,e⟩:=BL h hx hy p t.dropLast h3;refine⟨x*w,h.mul hx hw,?_⟩
  show Alg.nt R c*y ^ t.length+x*hs x y t=_
  rw[tl,c1,wX,t2,e];have:x*x ^ t.dropLast.length=x ^ p:=by
   rw[<- dl,cK];grind
  grind
theorem qG {p:Nat}(hp:p∈PR):1<=p:=by
 have:∀q∈PR,1<=q:=by decide
 exact this p hp
theorem Jq (h:eO O){p:Nat}(hp:p∈PR):∀n:Nat,Cp O (Alg.nt R p) (Alg.nt R n ^ p) (Alg.nt R n)
 | 0=>by show Cp O _ ((0:R) ^ p) 0;rw[vK (qG hp)];exact .refl h _
 | n+1=>by
  refine(Jp h hp (h.nt n) h.one).trans h ?_
  rw[IJ];exact(Jq h hp n).add h (.refl h _)
theorem Sh (h:eO O){p:Nat}(hp:p∈PR)(k:Int):Cp O (Alg.nt R p) (Alg.zc R k ^ p) (Alg.zc R k):=by
 rcases Int.le_total 0 k with y|y
 ·obtain⟨n,rfl⟩:=Zj y
  rw[eo];exact Jq h hp n
 ·obtain⟨n,e⟩:=Zj (show 0<=-k by omega)
  rw[show k=-(n:Int) by omega,qF,eo]
  obtain⟨w,hw,e1⟩:=Jp h hp (h.nt n) (h.neg (h.nt n));obtain⟨v,hv,e2⟩:=Jq h hp n;rw[show Alg.nt R n+-Alg.nt R n=0 by grind,vK (qG hp)] at e1
  exact⟨-w-v,by have:=h.add (h.neg hw) (h.neg hv);rwa [show -w+-v=-w-v by grind] at this,by grind⟩
def sR (n:Nat)(x:Vc)(o:Nat->R):R:=match n with
 | 0=>0
 | n+1=>sR n x o+zc R (x n)*o n
theorem MA (h:eO O){x:Vc}{o:Nat->R}:∀n,(∀i,i<n->O (o i))->O (sR n x o)
 | 0,_=>h.zero
 | n+1,k=>h.add (MA h n λi hi=>k i (by omega)) (h.mul (h.zc _) (k n (by omega)))
theorem Ff (h:eO O){p:Nat}(hp:p∈PR){x:Vc}{o:Nat->R}:∀n,(∀i,i<n->O (o i))->Cp O (Alg.nt R p) (sR n x o ^ p) (sR n x λi=>o i ^ p)
 | 0,_=>by show Cp O _ ((0:R) ^ p) 0;rw[vK (qG hp)];exact .refl h _
 | n+1,k=>by
  refine(Jp h hp (MA h n λi hi=>k i (by omega)) (h.mul (h.zc (x n)) (k n (by omega)))).trans h ?_
  refine(Ff h hp n λi hi=>k i (by omega)).add h ?_
  rw[Du];exact .mul h (h.zc _) (h.pow (k n (by omega)) p) (Sh h hp (x n)) (.refl h _)
theorem xj (h:eO O){p:Nat}(hp:p∈PR){x:Vc}{o:Nat->R}{n:Nat}(ho:∀i,i<n->O (o i)):∀d:Nat,Cp O (Alg.nt R p) (sR n x o ^ (p ^ d)) (sR n x λi=>o i ^ (p ^ d))
 | 0=>by
  have:∀z:R,z ^ (p ^ 0)=z:=λz=>by
   rw[Nat.pow_zero];have:=cK z 0
   rw[dj] at this;grind
  simp only[this];exact .refl h _
 | d+1=>by
  have e:∀z:R,z ^ (p ^ (d+1))=(z ^ (p ^ d)) ^ p:=λz=>by rw[Zv,Dv]
  simp only[e]
  refine((xj h hp ho d).pow h (h.pow (MA h n ho) _) (MA h n λi hi=>h.pow (ho i hi) _) p).trans h ?_
  exact Ff h hp n λi hi=>h.pow (ho i hi) _
def qH (O:R->Prop)(p:R)(q:Nat)(a:R):Prop:=O a/\∃w,O w/\a ^ q=p*w
theorem qH.add (h:eO O){p:Nat}(hp:p∈PR){d:Nat}{a b:R}(ha:qH O (Alg.nt R p) (p ^ d) a)(hb:qH O (Alg.nt R p) (p ^ d) b):qH O (Alg.nt R p) (p ^ d) (a+b):=by
 obtain⟨oa,w,hw,e⟩:=ha;obtain⟨ob,v,hv,g⟩:=hb;have:=xj h hp (x:=λ_=>1) (o:=λi=>if i=0 then a else b) (n:=2) (λi hi=>by
  by_cases c:i=0
  ·rw[W9 c];exact oa
  ·rw[W8 c];exact ob) d
 obtain⟨u,hu,e1⟩:=this;have s2:∀o:Nat->R,sR 2 (λ_=>1) o=o 0+o 1:=λo=>by
  show(0:R)+zc R 1*o 0+zc R 1*o 1=_
  rw[mD];grind
 rw[s2,s2] at e1;simp only[W9,W8 (show ¬ (1:Nat)=0 by decide)] at e1
 exact⟨h.add oa ob,w+v+u,h.add (h.add hw hv) hu,by rw[e1,e,g];grind⟩
theorem qH.mul (h:eO O){p:R}{q:Nat}{a b:R}(ha:qH O p q a)(hb:O b):qH O p q (b*a):=by
 obtain⟨oa,w,hw,e⟩:=ha;exact⟨h.mul hb oa,b ^ q*w,h.mul (h.pow hb q) hw,by rw[Du,e];grind⟩
theorem qH.neg (h:eO O){p:R}{q:Nat}{a:R}(ha:qH O p q a):qH O p q (-a):=by
 have:=ha.mul h (h.neg h.one)
 rwa [show -1*a=-a by grind] at this
theorem qH.own (h:eO O){p:R}{q:Nat}(hq:1<=q)(hp:O p){a:R}(ha:O a):qH O p q (p*a):=by
 obtain⟨k,rfl⟩:∃k,q=k+1:=⟨q-1,by omega⟩
 exact⟨h.mul hp ha,(p*a) ^ k*a,h.mul (h.pow (h.mul hp ha) k) ha,by rw[cK];grind⟩
def GD (O:R->Prop)(p:R)(q:Nat)(a:R):Prop:=O (p*a)/\∀b,qH O p q b->qH O p q (a*b)
theorem GD.of (h:eO O){p:R}(hp:O p){q:Nat}{a:R}(ha:O a):GD O p q a:=⟨h.mul hp ha,λb hb=>hb.mul h ha⟩
theorem GD.sub (h:eO O){p:Nat}(hp:p∈PR)(d:Nat):eO (GD O (Alg.nt R p) (p ^ d)) where
 one:=.of h (h.nt p) h.one
 add {a b} ha hb:=⟨by
   have:=h.add ha.1 hb.1
   rwa [show Alg.nt R p*a+Alg.nt R p*b=Alg.nt R p*(a+b) by grind] at this,λc hc=>by
   have:=(ha.2 c hc).add h hp (hb.2 c hc)
   rwa [show a*c+b*c=(a+b)*c by grind] at this⟩
 neg {a} ha:=⟨by
   have:=h.neg ha.1
   rwa [show -(Alg.nt R p*a)=Alg.nt R p*-a by grind] at this,λc hc=>by
   have:=(ha.2 c hc).neg h
   rwa [show -(a*c)=-a*c by grind] at this⟩
 mul {a b} ha hb:=⟨by
   have h1:=hb.2 _ (qH.own h (Nat.pos_of_ne_zero λz=>by
    have:=Z0 (n:=d) (qG hp);omega) (h.nt p) h.one)
   have:=(ha.2 _ h1).1
   rwa [show a*(b*(Alg.nt R p*1))=Alg.nt R p*(a*b) by grind] at this,λc hc=>by
   have:=ha.2 _ (hb.2 c hc)
   rwa [show a*(b*c)=a*b*c by grind] at this⟩
end
end
end Alg
namespace Alg
open Lean.Grind
section
variable {R:Type} [CommRing R]
structure qI (n:Nat)(el:Vc->R):Prop where
 jy:∀(a:Int) (v w:Vc),el (λj=>a*v j+w j)=zc R a*el v+el w
 inj:∀v w:Vc,el v=el w->∀j,j<n->v j=w j
 sup:∀v w:Vc,(∀j,j<n->v j=w j)->el v=el w
def Of (el:Vc->R)(a:R):Prop:=∃c,a=el c
def un (i:Nat):Vc:=λj=>if j=i then 1 else 0
theorem BN {x:Vc}{j:Nat}:∀m,sm m x un j=if j<m then x j else 0
 | 0=>by rw[W8 (by omega)];rfl
 | m+1=>by
  show sm m x un j+x m*(if j=m then 1 else 0)=_
  rw[BN m];by_cases e:j=m
  ·subst e;rw[W8 (by omega),W9 rfl,W9 (by omega)];omega
  ·rw[W8 e]
   by_cases h:j<m
   ·rw[W9 h,W9 (by omega)];omega
   ·rw[W8 h,W8 (by omega)];omega
theorem xm {n:Nat}{x:Vc}{t:Nat->Vc}{V:Nat->Vc}{k:Nat}:∀a,sm a x (λi k=>sm n (t i) V k) k=sm n (λm=>sm a x t m) V k
 | 0=>(gU (n:=n) (R:=V) (j:=k)).symm
 | a+1=>by
  show sm a x _ k+x a*sm n (t a) V k=sm n (λm=>sm a x t m+x a*t a m) V k
  rw[xm a];have:=kB (n:=n) (x a) (d:=t a) (e:=λm=>sm a x t m) (R:=V) (j:=k)
  rw[show(λm=>sm a x t m+x a*t a m)=λm=>x a*t a m+sm a x t m from funext λm=>by omega,this]
  omega
theorem nX {x x':Vc}{o o':Nat->R}:∀n,(∀i,i<n->x i=x' i)->(∀i,i<n->o i=o' i)->sR n x o=sR n x' o'
 | 0,_,_=>rfl
 | n+1,h,k=>by
  show sR n x o+zc R (x n)*o n=sR n x' o'+zc R (x' n)*o' n
  rw[nX n (λi hi=>h i (by omega)) (λi hi=>k i (by omega)),h n (by omega),k n (by omega)]
theorem t_ {x:Vc}{o:Nat->R}(b:R):∀n,b*sR n x o=sR n x λi=>b*o i
 | 0=>by show b*0=0;grind
 | n+1=>by
  show b*(sR n x o+zc R (x n)*o n)=sR n x (λi=>b*o i)+zc R (x n)*(b*o n)
  rw[<- t_ b n];grind
theorem NB {O:R->Prop}(h:eO O){p:R}{x:Vc}{o o':Nat->R}:∀n,(∀i,i<n->Cp O p (o i) (o' i))->(∀i,i<n->O (o i))->Cp O p (sR n x o) (sR n x o')
 | 0,_,_=>.refl h _
 | n+1,k,l=>(NB h n (λi hi=>k i (by omega)) λi hi=>l i (by omega)).add h (.mul h (h.zc _) (l n (by omega)) (.refl h _) (k n (by omega)))
theorem qH.zero {O:R->Prop}(h:eO O){p:R}{q:Nat}(hq:0<q):qH O p q 0:=⟨h.zero,0,h.zero,by rw[vK hq];grind⟩
theorem Jr {O:R->Prop}(h:eO O){p:Nat}(hp:p∈PR){d:Nat}{x:Vc}{o:Nat->R}:∀n,(∀i,i<n->qH O (nt R p) (p ^ d) (o i))->qH O (nt R p) (p ^ d) (sR n x o)
 | 0,_=>.zero h (Z0 (qG hp))
 | n+1,k=>(Jr h hp n λi hi=>k i (by omega)).add h hp ((k n (by omega)).mul h (h.zc _))
section
variable {n:Nat} {el:Vc->R}
theorem qI.zero (B:qI n el):el (λ_=>0)=0:=by
 have:=B.jy 1 (λ_=>0) λ_=>0
 rw[mD,show(λj:Nat=>(1:Int)*0+0)=λ_=>0 from rfl] at this
 grind
theorem qI.smul (B:qI n el)(a:Int)(v:Vc):el (λj=>a*v j)=zc R a*el v:=by
 have:=B.jy a v λ_=>0
 rw[B.zero,show(λj=>a*v j+0)=λj=>a*v j from funext λj=>by omega] at this
 rw[this];grind
theorem qI.sm (B:qI n el){d:Vc}{U:Nat->Vc}:∀k,el (λj=>sm k d U j)=sR k d λi=>el (U i)
 | 0=>B.zero
 | k+1=>by
  have:=B.jy (d k) (U k) λj=>Alg.sm k d U j
  rw[B.sm k] at this;rw[show(λj=>Alg.sm (k+1) d U j)=λj=>d k*U k j+Alg.sm k d U j from funext λj=>by show Alg.sm k d U j+d k*U k j=_;omega,this]
  show _=sR k d (λi=>el (U i))+zc R (d k)*el (U k)
  grind
theorem qI.un (B:qI n el)(x:Vc):el x=sR n x λi=>el (un i):=by
 rw[<- B.sm n];exact B.sup _ _ λj hj=>by rw[BN,W9 hj]
theorem qI.dvd (B:qI n el){a:Int}{y w:Vc}(h:el y=zc R a*el w):∀j,j<n->y j=a*w j:=by
 rw[<- B.smul] at h;exact B.inj _ _ h
variable {c:Nat->Nat->Vc}
theorem qI.Ag (B:qI n el)(hc:∀i j,i<n->j<n->el (Alg.un i)*el (Alg.un j)=el (c i j)){i:Nat}(hi:i<n)(y:Vc):el (Alg.un i)*el y=el λk=>Alg.sm n y (c i) k:=by
 rw[B.sm n,B.un y,t_];exact nX n (λ_ _=>rfl) λj hj=>hc i j hi hj
theorem qI.mul (B:qI n el)(hc:∀i j,i<n->j<n->el (Alg.un i)*el (Alg.un j)=el (c i j))(x y:Vc):el x*el y=el λk=>Alg.sm n x (λi k=>Alg.sm n y (c i) k) k:=by
 rw[B.sm n,B.un x,show ∀a b:R,a*b=b*a from λa b=>by grind,t_]
 exact nX n (λ_ _=>rfl) λi hi=>by rw[<- B.Ag hc hi y];grind
theorem qI.Js (B:qI n el)(i:Nat):Of el (el (Alg.un i)):=⟨_,rfl⟩
theorem qI.power (B:qI n el)(h:eO (Of el)){p:Nat}(hp:p∈PR){d:Nat}{told:Nat->Vc}(ht:∀i,i<n->Cp (Of el) (nt R p) (el (told i)) (el (Alg.un i) ^ (p ^ d)))(x:Vc):Cp (Of el) (nt R p) (el x ^ (p ^ d)) (el λj=>Alg.sm n x told j):=by
 rw[B.sm n,B.un x];refine(xj h hp (λi _=>B.Js i) d).trans h ?_
 exact NB h n (λi hi=>(ht i hi).symm h) λi hi=>h.pow (B.Js i) _
theorem qI.idl (B:qI n el)(h:eO (Of el)){p:Nat}(hp:p∈PR){d:Nat}{told:Nat->Vc}(ht:∀i,i<n->Cp (Of el) (nt R p) (el (told i)) (el (Alg.un i) ^ (p ^ d)))(x:Vc):qH (Of el) (nt R p) (p ^ d) (el x)↔∀j,j<n->(p:Int) ∣ Alg.sm n x told j:=by
 obtain⟨w,⟨w',rfl⟩,e⟩:=B.power h hp ht x;rw[<- eo] at e ⊢;constructor
 ·rintro⟨_,v,⟨v',rfl⟩,e1⟩ j hj
  have:el (λj=>Alg.sm n x told j)=zc R (p:Int)*el λj=>-1*w' j+v' j:=by
   rw[B.jy,qF,mD];rw[e1] at e;grind
  exact⟨_,B.dvd this j hj⟩
 ·intro hd
  have:∀j,∃z:Int,j<n->Alg.sm n x told j=(p:Int)*z:=λj=>by
   by_cases hj:j<n
   ·obtain⟨z,hz⟩:=hd j hj;exact⟨z,λ_=>hz⟩
   ·exact⟨0,λy=>Jf y hj⟩
  obtain⟨z,hz⟩:=Classical.axiomOfChoice this;have e2:el (λj=>Alg.sm n x told j)=zc R (p:Int)*el z:=by
   rw[<- B.smul];exact B.sup _ _ hz
  refine⟨⟨_,rfl⟩,el λj=>1*z j+w' j,⟨_,rfl⟩,?_⟩
  rw[e,e2,B.jy,mD];grind
theorem qI.mlt (B:qI n el)(h:eO (Of el)){p:Nat}(hp:p∈PR){d:Nat}(hc:∀i j,i<n->j<n->el (Alg.un i)*el (Alg.un j)=el (c i j)){V:Nat->Vc}(hV:c_ n V)
  (hI:∀x:Vc,(∀j,n<=j->x j=0)->(gK n V x↔qH (Of el) (nt R p) (p ^ d) (el x))) {t:Nat->Nat->Vc} (ht:∀i j,i<n->j<n->∀k,k<n->Alg.sm n (V j) (c i) k=Alg.sm n (t i j) V k)
  {ip:R} (Li:nt R p*ip=1) (x:Vc):(∀j,j<n->∀m,m<n->(p:Int) ∣ Alg.sm n x (λi=>t i j) m)↔GD (Of el) (nt R p) (p ^ d) (ip*el x):=by
 have V0:∀a:Vc,∀k,n<=k->Alg.sm n a V k=0:=λa k hk=>iA (q:=0) λi hi=>hV.jk i hi k (by omega)
 have key:∀j,j<n->el x*el (V j)=el λk=>Alg.sm n (λm=>Alg.sm n x (λi=>t i j) m) V k:=λj hj=>by
  rw[B.un x,show ∀a b:R,a*b=b*a from λa b=>by grind,t_]
  have:(sR n x λi=>el (V j)*el (Alg.un i))=sR n x λi=>el λk=>Alg.sm n (t i j) V k:=nX n (λ_ _=>rfl) λi hi=>by
   rw[show el (V j)*el (Alg.un i)=el (Alg.un i)*el (V j) by grind,B.Ag hc hi]
   exact B.sup _ _ λk hk=>ht i j hi hj k hk
  rw[this,<- B.sm n];exact B.sup _ _ λk _=>xm n
 have Sj:∀b,qH (Of el) (nt R p) (p ^ d) b->∃a:Vc,b=el λk=>Alg.sm n a V k:=λb hb=>by
  obtain⟨y,rfl⟩:=hb.1;have e:el y=el λj=>if j<n then y j else 0:=B.sup _ _ λj hj=>by rw[W9 hj]
  rw[e] at hb;obtain⟨a,ha⟩:=(hI _ λj hj=>W8 (by omega)).mpr hb
  exact⟨a,by rw[e];exact B.sup _ _ λj _=>ha j⟩
 have inI:∀a:Vc,qH (Of el) (nt R p) (p ^ d) (el λk=>Alg.sm n a V k):=λa=>(hI _ (V0 a)).mp ⟨a,λ_=>rfl⟩
 constructor
 ·intro hd
  refine⟨⟨x,by rw[show nt R p*(ip*el x)=nt R p*ip*el x by grind,Li];grind⟩,λb hb=>?_⟩
  obtain⟨a,rfl⟩:=Sj b hb;rw[B.sm n,t_];refine Jr h hp n λj hj=>?_
  have:∀m,∃z:Int,m<n->Alg.sm n x (λi=>t i j) m=(p:Int)*z:=λm=>by
   by_cases hm:m<n
   ·obtain⟨z,hz⟩:=hd j hj m hm;exact⟨z,λ_=>hz⟩
   ·exact⟨0,λy=>Jf y hm⟩
  obtain⟨z,hz⟩:=Classical.axiomOfChoice this;have e:el x*el (V j)=nt R p*el λk=>Alg.sm n z V k:=by
   rw[key j hj,<- eo,<- B.smul];refine B.sup _ _ λk _=>?_
   rw[dS (d':=λm=>(p:Int)*z m) (λi hi=>hz i hi) λi _=>rfl]
   have:=kB (n:=n) (p:Int) (d:=z) (e:=λ_=>0) (R:=V) (j:=k)
   rw[gU] at this;rw[show(λm=>(p:Int)*z m)=λm=>(p:Int)*z m+0 from funext λm=>by omega,this];omega
  rw[show ip*el x*el (V j)=ip*(el x*el (V j)) by grind,e,show ∀b:R,ip*(nt R p*b)=nt R p*ip*b from λb=>by grind,Li,show ∀b:R,1*b=b from λb=>by grind]
  exact inI z
 ·intro hm j hj m hmn
  have hVj:qH (Of el) (nt R p) (p ^ d) (el (V j)):=(hI (V j) λk hk=>hV.jk j hj k (by omega)).mp (.row hj)
  obtain⟨a,ha⟩:=Sj _ (hm.2 _ hVj);have e:(el λk=>Alg.sm n (λm=>Alg.sm n x (λi=>t i j) m) V k)=zc R (p:Int)*el λk=>Alg.sm n a V k:=by
   rw[<- key j hj,eo,<- ha,show nt R p*(ip*el x*el (V j))=nt R p*ip*(el x*el (V j)) by grind,Li];grind
  have e2:=B.dvd e;have e3:∀k,Alg.sm n (λm=>Alg.sm n x (λi=>t i j) m) V k=Alg.sm n (λm=>(p:Int)*a m) V k:=λk=>by
   have:=kB (n:=n) (p:Int) (d:=a) (e:=λ_=>0) (R:=V) (j:=k)
   rw[gU] at this;rw[show(λm=>(p:Int)*a m)=λm=>(p:Int)*a m+0 from funext λm=>by omega,this]
   by_cases hk:k<n
   ·rw[e2 k hk];omega
   ·rw[V0 _ k (by omega),V0 _ k (by omega)];omega
  exact⟨_,hV.uniq n (Yd n) e3 m hmn⟩
end
def kC (n:Nat)(φ:Vc->R)(ip:R)(d:Nat)(T:Nat->Vc)(c:Vc):R:=ip ^ d*φ λj=>sm n c T j
section
variable {n:Nat} {φ:Vc->R} {ip:R} {p d:Nat} {T:Nat->Vc}
theorem qJ (Li:nt R p*ip=1):∀d:Nat,zc R ((p:Int) ^ d)*ip ^ d=1
 | 0=>by rw[Zc,mD,dj];grind
 | d+1=>by
  have:=qJ Li d
  rw[Za,t8,eo,cK];grind
theorem qI.jk (B:qI n φ)(Li:nt R p*ip=1)(hT:c_ n T):qI n (kC n φ ip d T) where
 jy a v w:=by
  show ip ^ d*(φ λj=>Alg.sm n (λj=>a*v j+w j) T j)=zc R a*(ip ^ d*φ _)+ip ^ d*φ _
  rw[show(λj=>Alg.sm n (λj=>a*v j+w j) T j)=λj=>a*Alg.sm n v T j+Alg.sm n w T j from funext λj=>kB a,B.jy];grind
 inj v w e:=by
  have e1:φ (λj=>Alg.sm n v T j)=φ λj=>Alg.sm n w T j:=by
   have e2:zc R ((p:Int) ^ d)*(ip ^ d*φ λj=>Alg.sm n v T j)=zc R ((p:Int) ^ d)*(ip ^ d*φ λj=>Alg.sm n w T j):=Jd _ e
   have:=qJ Li d
   grind
  have e3:=B.inj _ _ e1;refine hT.uniq n (Yd n) λj=>?_
  by_cases hj:j<n
  ·exact e3 j hj
  ·rw[iA (q:=0) λi hi=>hT.jk i hi j (by omega),iA (q:=0) λi hi=>hT.jk i hi j (by omega)]
 sup v w e:=by
  show ip ^ d*φ _=ip ^ d*φ _
  congr 2
  exact funext λj=>dS (λi hi=>e i hi) λi _=>rfl
structure uV (n p:Nat)(φ:Vc->R)(ip:R)(d:Nat)(T:Nat->Vc):Prop where
 st:c_ n T
 sub:eO (Of (kC n φ ip d T))
 all:∀z,Of (kC n φ ip d T) (φ z)
theorem uV.next (B:qI n φ)(hp:p∈PR)(Li:nt R p*ip=1)(L:uV n p φ ip d T){k:Nat}{N:List Vc}{T':Nat->Vc}(T3:c_ n T')
  (hN:∀r∈N,GD (Of (kC n φ ip d T)) (nt R p) (p ^ k) (ip*kC n φ ip d T r)) (hN':∀x,GD (Of (kC n φ ip d T)) (nt R p) (p ^ k) (ip*kC n φ ip d T x)->∃v z:Vc,iz N v/\∀i,i<n->x i=v i+(p:Int)*z i)
  (hG:∀v,Gq ((Ym n).map (λi j=>(p:Int)*T i j)++N.map λr j=>sm n r T j) ((p:Int) ^ (d+1)) n v↔gK n T' v):uV n p φ ip (d+1) T':=by
 have BT:=B.jk (d:=d) Li L.st;have T0:∀a:Vc,∀k,n<=k->sm n a T k=0:=λa k hk=>iA (q:=0) λi hi=>L.st.jk i hi k (by omega)
 have sM:=GD.sub L.sub hp k;have oP:=L.sub.nt p;have key:∀a,Of (kC n φ ip (d+1) T') a↔GD (Of (kC n φ ip d T)) (nt R p) (p ^ k) a:=by
  intro a;constructor
  ·rintro⟨c,rfl⟩
   have hv:=(hG λj=>sm n c T' j).mpr ⟨c,λ_=>rfl⟩
   show GD _ _ _ (ip ^ (d+1)*φ λj=>sm n c T' j)
   generalize (λj=>sm n c T' j)=v at hv
   obtain⟨v0,u,z,hu,e⟩:=hv;have key:∀ {u:Vc},iz ((Ym n).map (λi j=>(p:Int)*T i j)++N.map λr j=>sm n r T j) u->GD (Of (kC n φ ip d T)) (nt R p) (p ^ k) (ip ^ (d+1)*φ u):=by
    intro u hu;induction hu with
    | zero=>rw[B.zero,show ip ^ (d+1)*0=0 by grind];exact sM.zero
    | @add r v a hr _ ih=>
     have e1:ip ^ (d+1)*φ (λi=>a*r i+v i)=zc R a*(ip ^ (d+1)*φ r)+ip ^ (d+1)*φ v:=by rw[B.jy];grind
     rw[e1];refine sM.add (sM.mul (sM.zc a) ?_) ih
     rcases List.mem_append.mp hr with y|y
     ·obtain⟨i,hi,rfl⟩:=List.mem_map.mp y
      have hi:=List.mem_range.mp hi;have:ip ^ (d+1)*φ (λj=>(p:Int)*T i j)=kC n φ ip d T (un i):=by
       show _=ip ^ d*φ _
       rw[B.smul,eo,cK,show(λj=>sm n (un i) T j)=T i from funext λj=>iO hi];grind
      rw[this];exact .of L.sub oP ⟨_,rfl⟩
     ·obtain⟨s,hs,rfl⟩:=List.mem_map.mp y
      have:ip ^ (d+1)*φ (λj=>sm n s T j)=ip*kC n φ ip d T s:=by
       show _=ip*(ip ^ d*φ _)
       rw[cK];grind
      rw[this];exact hN s hs
   have e1:ip ^ (d+1)*φ v=φ z+ip ^ (d+1)*φ u:=by
    have e2:φ v=zc R ((p:Int) ^ (d+1))*φ z+φ u:=by
     rw[<- B.jy];exact B.sup _ _ λj _=>by rw[e j];omega
    have:=qJ Li (d+1)
    rw[e2];grind
   rw[e1];exact sM.add (.of L.sub oP (L.all z)) (key hu)
  ·intro ha
   obtain⟨x,hx⟩:=ha.1;have ea:a=ip*kC n φ ip d T x:=by rw[<- hx];grind
   rw[ea] at ha;obtain⟨v,z,hv,e⟩:=hN' x ha;have e1:kC n φ ip d T x=zc R (p:Int)*kC n φ ip d T z+kC n φ ip d T v:=by
    rw[<- BT.jy];exact BT.sup _ _ λj hj=>by rw[e j hj];omega
   have g1:Gq ((Ym n).map (λi j=>(p:Int)*T i j)++N.map λr j=>sm n r T j) ((p:Int) ^ (d+1)) n λj=>sm n v T j:=by
    clear e e1;induction hv with
    | zero=>exact Gq.zero.of λj=>gU.symm
    | @add r w a hr _ ih=>
     exact((Gq.mem (List.mem_append.mpr (.inr (List.mem_map.mpr ⟨r,hr,rfl⟩))) (T0 r)).jy a ih).of λj=>(kB a).symm
   have g2:Gq ((Ym n).map (λi j=>(p:Int)*T i j)++N.map λr j=>sm n r T j) ((p:Int) ^ (d+1)) n λj=>sm n z (λi j=>(p:Int)*T i j) j:=
    Gq.sm n λi hi=>Gq.mem (List.mem_append.mpr (.inl (List.mem_map.mpr ⟨i,List.mem_range.mpr hi,rfl⟩))) λj hj=>by show(p:Int)*T i j=0;rw[L.st.jk i hi j (by omega)];omega
   obtain⟨c,hc⟩:=(hG _).mp (g1.jy 1 g2);refine⟨c,?_⟩
   show a=ip ^ (d+1)*φ λj=>sm n c T' j
   have e3:(φ λj=>sm n c T' j)=zc R (p:Int)*(φ λj=>sm n z T j)+φ λj=>sm n v T j:=by
    rw[<- B.jy];refine B.sup _ _ λj _=>?_
    rw[<- hc j];have:sm n z (λi j=>(p:Int)*T i j) j=(p:Int)*sm n z T j:=by
     have:∀m,sm m z (λi j=>(p:Int)*T i j) j=(p:Int)*sm m z T j:=λm=>by
      induction m with
      | zero=>show(0:Int)=_*0;omega
      | succ m ih=>show sm m z _ j+z m*(_*T m j)=_*(sm m z T j+z m*T m j);rw[ih];grind
     exact this n
    show 1*sm n v T j+sm n z (λi j=>(p:Int)*T i j) j=_
    rw[this];omega
   rw[ea,e1,e3];show ip*(zc R (p:Int)*(ip ^ d*φ _)+ip ^ d*φ _)=_
   rw[cK];grind
 exact⟨T3,⟨(key _).mpr sM.one,λa b=>(key _).mpr (sM.add ((key _).mp a) ((key _).mp b)),λa=>(key _).mpr (sM.neg ((key _).mp a)),λa b=>(key _).mpr (sM.mul ((key _).mp a) ((key _).mp b))⟩,λz=>(key _).mpr (.of L.sub oP (L.all z))⟩
end
end
end Alg
namespace L2
open Alg
theorem gW (g:Nat->Nat->Int)(m:Nat):∀n,bZ n (λi=>bZ m λj=>g i j)=bZ m λj=>bZ n λi=>g i j
 | 0=>(f7 λ_ _=>rfl).symm
 | n+1=>by
  show bZ n (λi=>bZ m λj=>g i j)+bZ m (λj=>g n j)=bZ m λj=>bZ n (λi=>g i j)+g n j
  rw[gW g m n,Mz]
theorem nY (a:Int)(f:Nat->Int)(n:Nat):bZ n (λi=>f i*a)=bZ n f*a:=by
 rw[Zs,<- dh];exact aK λi _=>Zs _ _
theorem vM {g:Nat->Int}{m:Nat}:∀ {n},m<=n->(∀i,m<=i->i<n->g i=0)->bZ n g=bZ m g
 | 0,h,_=>by rw[show m=0 by omega]
 | n+1,h,k=>by
  by_cases c:m=n+1
  ·rw[c]
  ·show bZ n g+g n=_
   rw[k n (by omega) (by omega),vM (n:=n) (by omega) λi hi hn=>k i hi (by omega)];omega
theorem fB (n:Nat)(d:Nat->Int)(R:Nat->Nat->Int)(j:Nat):sm n d R j=bZ n λi=>d i*R i j:=by
 induction n with
 | zero=>rfl
 | succ n ih=>show sm n d R j+d n*R n j=_+_;rw[ih]
section
variable {f:Fn} {n:Nat}
theorem qK:∀k,k<n->tk f n k=xp k
 | 0,_=>rfl
 | k+1,hk=>by
  funext m
  show(if m=0 then 0 else tk f n k (m-1))-tk f n k (n-1)*f m=xp (k+1) m
  rw[qK k (by omega)]
  unfold xp;rw[W8 (show ¬ n-1=k by omega)]
  by_cases c:m=0
  ·rw[W9 c,W8 (by omega)];omega
  ·rw[W8 c]
   by_cases e:m=k+1
   ·rw[W9 e,W9 (by omega)];omega
   ·rw[W8 e,W8 (by omega)];omega
theorem DJ (hf:Top f n)(hn:1<=n):∀b j,bZ n (λc=>f c*tk f n (c+b) j)+tk f n (n+b) j=0
 | 0,j=>by
  have e1:bZ n (λc=>f c*tk f n (c+0) j)=if j<n then f j else 0:=by
   by_cases c:j<n
   ·rw[W9 c,Ae (k:=j) c λi hi hne=>by rw[qK (i+0) (by omega)];unfold xp;rw[W8 (by omega)];omega]
    rw[qK (j+0) (by omega)];unfold xp;rw[W9 (by omega)];omega
   ·rw[W8 c]
    exact f7 λi hi=>by rw[qK (i+0) (by omega)];unfold xp;rw[W8 (by omega)];omega
  rw[e1];by_cases c:j<n
  ·obtain⟨k,rfl⟩:∃k,n=k+1:=⟨n-1,by omega⟩
   rw[W9 c];show f j+((if j=0 then 0 else tk f (k+1) k (j-1))-tk f (k+1) k (k+1-1)*f j)=0
   rw[qK k (by omega)]
   unfold xp;rw[W9 (show k+1-1=k by omega)]
   by_cases z:j=0
   ·rw[W9 z];omega
   ·rw[W8 z,W8 (by omega)];omega
  ·rw[W8 c,wN hf hn _ _ (by omega)];omega
 | b+1,j=>by
  have h1:=DJ hf hn b (n-1);have e:bZ n (λc=>f c*tk f n (c+(b+1)) j)+tk f n (n+(b+1)) j=(if j=0 then 0 else bZ n (λc=>f c*tk f n (c+b) (j-1))+tk f n (n+b) (j-1))-(bZ n (λc=>f c*tk f n (c+b) (n-1))+tk f n (n+b) (n-1))*f j:=by
   have e1:bZ n (λc=>f c*tk f n (c+(b+1)) j)=(if j=0 then 0 else bZ n (λc=>f c*tk f n (c+b) (j-1)))-bZ n (λc=>f c*tk f n (c+b) (n-1))*f j:=by
    have:bZ n (λc=>f c*tk f n (c+(b+1)) j)=bZ n λc=>1*(if j=0 then 0 else f c*tk f n (c+b) (j-1))+(-f j)*(f c*tk f n (c+b) (n-1)):=aK λc _=>by
     show f c*((if j=0 then 0 else tk f n (c+b) (j-1))-tk f n (c+b) (n-1)*f j)=_
     by_cases z:j=0
     ·rw[W9 z,W9 z];grind
     ·rw[W8 z,W8 z];grind
    rw[this,vE];by_cases z:j=0
    ·simp only[W9 z];rw[f7 λ_ _=>rfl];grind
    ·simp only[W8 z];grind
   rw[e1];show _+((if j=0 then 0 else tk f n (n+b) (j-1))-tk f n (n+b) (n-1)*f j)=_
   by_cases z:j=0
   ·rw[W9 z,W9 z,W9 z];grind
   ·rw[W8 z,W8 z,W8 z];grind
  rw[e,h1];by_cases z:j=0
  ·rw[W9 z];omega
  ·rw[W8 z,DJ hf hn b (j-1)];omega
theorem DK (hf:Top f n)(hn:1<=n):∀l b j,bZ n (λc=>tk f n l c*tk f n (c+b) j)=tk f n (l+b) j
 | 0,b,j=>by
  rw[Ae (k:=0) (by omega) λi hi hne=>by show xp 0 i*_=0;unfold xp;rw[W8 (by omega)];omega]
  show xp 0 0*tk f n (0+b) j=_
  unfold xp;rw[W9 rfl];omega
 | l+1,b,j=>by
  have ih:=DK hf hn l (b+1) j;have rl:=DJ hf hn b j;have e:bZ n (λc=>tk f n (l+1) c*tk f n (c+b) j)=bZ n (λc=>(if c=0 then 0 else tk f n l (c-1))*tk f n (c+b) j)-tk f n l (n-1)*bZ n (λc=>f c*tk f n (c+b) j):=by
   have:=vE 1 (-tk f n l (n-1)) (λc=>(if c=0 then 0 else tk f n l (c-1))*tk f n (c+b) j) (λc=>f c*tk f n (c+b) j) n
   rw[show ∀x y z:Int,x-y*z=1*x+-y*z from λx y z=>by grind,<- this]
   exact aK λc _=>by
    show((if c=0 then 0 else tk f n l (c-1))-tk f n l (n-1)*f c)*_=_
    grind
  obtain⟨k,rfl⟩:∃k,n=k+1:=⟨n-1,by omega⟩
  rw[e,o_];rw[show l+1+b=l+(b+1) by omega,<- ih]
  show(if (0:Nat)=0 then 0 else _)*_+bZ k (λi=>(if i+1=0 then 0 else tk f (k+1) l (i+1-1))*tk f (k+1) (i+1+b) j)-tk f (k+1) l (k+1-1)*_=bZ k (λc=>tk f (k+1) l c*tk f (k+1) (c+(b+1)) j)+tk f (k+1) l k*tk f (k+1) (k+(b+1)) j
  rw[W9 rfl,show bZ k (λi=>(if i+1=0 then 0 else tk f (k+1) l (i+1-1))*tk f (k+1) (i+1+b) j)=bZ k λc=>tk f (k+1) l c*tk f (k+1) (c+(b+1)) j from aK λi _=>by
   rw[W8 (by omega),show i+1+b=i+(b+1) by omega,show i+1-1=i by omega]]
  rw[show k+1+b=k+(b+1) by omega] at rl
  rw[show k+1-1=k by omega]
  grind
theorem Ah (hf:Top f n):∀e i l,i+e+1=n->tk f n l i=bZ (e+1) λc=>f (c+i+1)*tk f n (l+c) (n-1)
 | 0,i,l,h=>by
  show _=0+f (0+i+1)*tk f n (l+0) (n-1)
  rw[show 0+i+1=n by omega,hf.one,show n-1=i by omega,show l+0=l by omega];omega
 | e+1,i,l,h=>by
  have ih:=Ah hf e (i+1) (l+1) (by omega)
  rw[o_];have h1:tk f n (l+1) (i+1)=(if i+1=0 then 0 else tk f n l (i+1-1))-tk f n l (n-1)*f (i+1):=rfl
  rw[W8 (by omega),show i+1-1=i by omega,ih] at h1
  have h2:bZ (e+1) (λc=>f (c+(i+1)+1)*tk f n (l+1+c) (n-1))=bZ (e+1) λc=>f (c+1+i+1)*tk f n (l+(c+1)) (n-1):=aK λc _=>by
   rw[show c+(i+1)+1=c+1+i+1 by omega,show l+1+c=l+(c+1) by omega]
  rw[h2] at h1;show _=f (0+i+1)*tk f n (l+0) (n-1)+_
  rw[show 0+i+1=i+1 by omega,show l+0=l by omega]
  grind
def t1 (f:Fn)(n k:Nat):Int:=bZ n λi=>tk f n (k+i) i
theorem Sk (hf:Top f n)(hn:1<=n)(k:Nat):t1 f n k=bZ n λm=>((m+1:Nat):Int)*f (m+1)*tk f n (m+k) (n-1):=by
 obtain⟨q,rfl⟩:∃q,n=q+1:=⟨n-1,by omega⟩
 have e1:t1 f (q+1) k=cA (q+1) λi=>cA (q-i+1) λj=>f (i+j+1)*tk f (q+1) (k+(i+j)) q:=by
  unfold t1;rw[eY];refine cC λi hi=>?_
  rw[Ah hf (q-i) i (k+i) (by omega),eY]
  refine cC λj hj=>?_
  rw[show j+i+1=i+j+1 by omega,show k+i+j=k+(i+j) by omega,show q+1-1=q by omega]
 rw[e1,<- wG λi k'=>f (k'+1)*tk f (q+1) (k+k') q,eY]
 refine cC λm hm=>?_
 have e2:∀(x:Int) (c:Nat),cA c (λ_=>x)=(c:Int)*x:=λx c=>by
  induction c with
  | zero=>show(0:Int)=0*x;omega
  | succ c ih=>
   show cA c (λ_=>x)+x=_
   rw[ih,show((c+1:Nat):Int)=(c:Int)+1 by omega];grind
 rw[e2,show k+m=m+k by omega,show q+1-1=q by omega];grind
def XG (f:Fn)(n:Nat):Mx:=λa b=>t1 f n (a+b)
def lam (f:Fn)(n:Nat):Mx:=λc b=>tk f n (c+b) (n-1)
theorem MB (hf:Top f n)(hn:1<=n):∃w,w*det n (lam f n)=1:=by
 refine⟨det n λi c=>f (c+i+1),?_⟩
 rw[<- vH,<- My n];refine cX λi b hi hb=>?_
 have e:tk f n b i=bZ n λc=>f (c+i+1)*tk f n (b+c) (n-1):=by
  rw[Ah hf (n-1-i) i b (by omega)]
  exact(vM (m:=n-1-i+1) (by omega) λj hj _=>by
   show f (j+i+1)*_=0
   rw[hf.top _ (by omega)];omega).symm
 show bZ n (λk=>f (k+i+1)*tk f n (k+b) (n-1))=zl i b
 rw[aK (g:=λc=>f (c+i+1)*tk f n (b+c) (n-1)) λc _=>by rw[Nat.add_comm c b],<- e,qK b hb]
 unfold xp zl;by_cases c:i=b
 ·rw[W9 c,W9 c.symm]
 ·rw[W8 c,W8 λz=>c z.symm]
theorem MC (hf:Top f n)(hn:1<=n){g:Fn}(hg:∀m,m<n->g m=((m+1:Nat):Int)*f (m+1)):det n (XG f n)=(det n λa c=>bZ n λk=>g k*tk f n (k+a) c)*det n (lam f n):=by
 rw[<- vH];refine cX λa b ha hb=>?_
 show t1 f n (a+b)=bZ n λc=>(bZ n λk=>g k*tk f n (k+a) c)*tk f n (c+b) (n-1)
 rw[Sk hf hn];have:(bZ n λc=>(bZ n λk=>g k*tk f n (k+a) c)*tk f n (c+b) (n-1))=bZ n λc=>bZ n λk=>g k*(tk f n (k+a) c*tk f n (c+b) (n-1)):=aK λc _=>by
  rw[<- nY];exact aK λk _=>by grind
 rw[this,gW];refine aK λm hm=>?_
 rw[dh,DK hf hn,hg m hm,show m+a+b=m+(a+b) by omega]
def x_ (n:Nat)(A:Mx):Int:=bZ n λi=>A i i
theorem Jt (n:Nat)(A B:Mx):x_ n (nk n A B)=x_ n (nk n B A):=by
 show bZ n (λi=>bZ n λk=>A i k*B k i)=bZ n λi=>bZ n λk=>B i k*A k i
 rw[gW];exact aK λi _=>aK λk _=>Zs _ _
theorem ua (n:Nat)(A B C:Mx)(i k:Nat):nk n (nk n A B) C i k=nk n A (nk n B C) i k:=by
 show bZ n (λm=>(bZ n λl=>A i l*B l m)*C m k)=bZ n λl=>A i l*bZ n λm=>B l m*C m k
 have e1:bZ n (λm=>(bZ n λl=>A i l*B l m)*C m k)=bZ n λm=>bZ n λl=>A i l*(B l m*C m k):=aK λm _=>by
  rw[<- nY];exact aK λl _=>by grind
 rw[e1,gW];exact aK λl _=>by rw[dh]
theorem zm {n:Nat}{A A' B B':Mx}{i k:Nat}(h1:∀l,l<n->A i l=A' i l)(h2:∀l,l<n->B l k=B' l k):nk n A B i k=nk n A' B' i k:=aK λl hl=>by rw[h1 l hl,h2 l hl]
theorem Ju {n:Nat}{A C T S:Mx}{P:Int}(hP:P≠0)(h1:∀i k,i<n->k<n->nk n T A i k=P*nk n C T i k)(h2:∀i k,i<n->k<n->nk n S T i k=P*zl i k)(h3:∀i k,i<n->k<n->nk n T S i k=P*zl i k):x_ n A=P*x_ n C:=by
 have e1:P*x_ n A=x_ n (nk n A (nk n S T)):=by
  unfold x_;rw[<- dh];refine aK λi hi=>?_
  rw[zm (A':=A) (B':=λl k=>P*zl l k) (λ_ _=>rfl) λl hl=>h2 l i hl hi]
  show _=bZ n λk=>A i k*(P*zl k i)
  rw[aK (g:=λk=>P*(A i k*zl k i)) λk _=>by grind,dh,BK hi]
 have e2:x_ n (nk n A (nk n S T))=x_ n (nk n (nk n T A) S):=by
  rw[show x_ n (nk n A (nk n S T))=x_ n (nk n (nk n A S) T) from aK λi _=>(ua n A S T i i).symm,Jt]
  exact aK λi _=>(ua n T A S i i).symm
 have e3:x_ n (nk n (nk n T A) S)=P*(P*x_ n C):=by
  have:x_ n (nk n (nk n T A) S)=P*x_ n (nk n (nk n C T) S):=by
   unfold x_;rw[<- dh];refine aK λi hi=>?_
   show bZ n (λl=>nk n T A i l*S l i)=P*bZ n λl=>nk n C T i l*S l i
   rw[<- dh];exact aK λl hl=>by rw[h1 i l hi hl];grind
  rw[this];congr 1
  unfold x_;rw[<- dh];refine aK λi hi=>?_
  rw[ua,zm (A':=C) (B':=λl k=>P*zl l k) (λ_ _=>rfl) λl hl=>h3 l i hl hi]
  show(bZ n λk=>C i k*(P*zl k i))=_
  rw[aK (g:=λk=>P*(C i k*zl k i)) λk _=>by grind,dh,BK hi]
 rw[e2,e3] at e1;exact Ze hP e1
end
end L2
namespace L2
open Alg Lean.Grind
structure Xr (f:Fn)(n p:Nat){R:Type}[CommRing R](φ:Vc->R)(ip:R):Prop where
 ya:qI n φ
 inv:nt R p*ip=1
 one:φ (un 0)=1
 mul:∀a b,a<n->b<n->φ (un a)*φ (un b)=φ (tk f n (a+b))
section
variable {R:Type} [CommRing R] {f:Fn} {n p d:Nat} {φ:Vc->R} {ip:R} {T:Nat->Vc}
theorem BO:c_ n un:=⟨λi _ j hj=>W8 (by omega),λi _=>by show(if i=i then (1:Int) else 0)≠0;rw[W9 rfl];decide⟩
theorem Xr.start (X:Xr f n p φ ip):uV n p φ ip 0 un:=by
 have e:∀c,kC n φ ip 0 un c=φ c:=λc=>by
  show ip ^ 0*φ _=_
  rw[dj,X.ya.sup (λj=>sm n c un j) c λj hj=>by rw[BN,W9 hj]];grind
 have B:=X.ya;refine⟨BO,⟨⟨un 0,by rw[e,X.one]⟩,?_,?_,?_⟩,λz=>⟨z,(e z).symm⟩⟩
 ·rintro a b ⟨x,rfl⟩ ⟨y,rfl⟩
  exact⟨λj=>1*x j+y j,by rw[e,e,e,B.jy,mD];grind⟩
 ·rintro a ⟨x,rfl⟩
  exact⟨λj=>-1*x j,by rw[e,e,B.smul,qF,mD];grind⟩
 ·rintro a b ⟨x,rfl⟩ ⟨y,rfl⟩
  rw[e,e,B.mul (c:=λa b=>tk f n (a+b)) X.mul]
  exact⟨_,(e _).symm⟩
theorem Sl (hf:Top f n)(hn:1<=n)(l:Nat):bZ n (λk=>tk f n l k*t1 f n k)=t1 f n l:=by
 unfold t1;rw[show bZ n (λk=>tk f n l k*bZ n λi=>tk f n (k+i) i)=bZ n λk=>bZ n λi=>tk f n l k*tk f n (k+i) i from aK λk _=>(dh _ _ _).symm,gW]
 exact aK λi _=>DK hf hn l i i
theorem uV.Vk (X:Xr f n p φ ip)(hf:Top f n)(hn:1<=n)(p0:p≠0)(L:uV n p φ ip d T){g:Fn}(hg:∀m,m<n->g m=((m+1:Nat):Int)*f (m+1)):
  ∃w:Int,(CV n λi=>T i i)*(CV n λi=>T i i)*(det n λa c=>bZ n λk=>g k*tk f n (k+a) c)=((p:Int) ^ d*(p:Int) ^ d) ^ n*w:=by
 have B:=X.ya;have BT:=B.jk (d:=d) X.inv L.st;generalize hP:(p:Int) ^ d=P;have P0:P≠0:=by rw[<- hP];exact Int.pow_ne_zero (by omega)
 have Vl:zc R P*ip ^ d=1:=by rw[<- hP];exact qJ X.inv d
 have hel:∀y,(φ λj=>sm n y T j)=zc R P*kC n φ ip d T y:=λy=>by
  show _=zc R P*(ip ^ d*φ _)
  grind
 have hT:∀i,i<n->φ (T i)=zc R P*kC n φ ip d T (un i):=λi hi=>by
  rw[<- hel];exact B.sup _ _ λj _=>(iO hi).symm
 have T0:∀a:Vc,∀k,n<=k->sm n a T k=0:=λa k hk=>iA (q:=0) λi hi=>L.st.jk i hi k (by omega)
 have hc0:∀i,∃ci:Nat->Vc,∀j,kC n φ ip d T (un i)*kC n φ ip d T (un j)=kC n φ ip d T (ci j):=λi=>Classical.axiomOfChoice λj=>L.sub.mul ⟨_,rfl⟩ ⟨_,rfl⟩
 obtain⟨c,hc⟩:=Classical.axiomOfChoice hc0;obtain⟨S,hS⟩:=Classical.axiomOfChoice λi=>L.all (un i)
 have hA:∀v i,i<n->φ v*φ (un i)=φ λk=>sm n v (λa=>tk f n (a+i)) k:=λv i hi=>by
  rw[B.mul (c:=λa b=>tk f n (a+b)) X.mul]
  refine B.sup _ _ λk _=>dS (λ_ _=>rfl) λa _=>iO hi
 have hC:∀y i,i<n->kC n φ ip d T y*kC n φ ip d T (un i)=kC n φ ip d T λk=>sm n y (λj=>c j i) k:=λy i hi=>by
  rw[BT.mul (c:=c) λi j _ _=>hc i j]
  refine BT.sup _ _ λk _=>dS (λ_ _=>rfl) λa _=>iO hi
 have hS':∀i k,i<n->k<n->sm n (S i) T k=P*un i k:=λi k hi hk=>by
  have:(φ λj=>sm n (S i) T j)=φ λk=>P*un i k:=by rw[hel,<- hS i,B.smul]
  exact B.inj _ _ this k hk
 have pun:∀(x:Vc) (k:Nat),k<n->sm n x (λj k=>P*un j k) k=P*x k:=λx k hk=>by
  rw[fB,aK (g:=λi=>P*(x i*un i k)) λi _=>by grind,dh,<- fB n x un k,BN,W9 hk]
 have h3:∀i k,i<n->k<n->sm n (T i) S k=P*un i k:=λi k hi hk=>by
  refine L.st.uniq n (Yd n) (c:=λm=>sm n (T i) S m) (c':=λm=>P*un i m) (λj=>?_) k hk
  by_cases hj:j<n
  ·rw[<- xm,dS (R':=λj k=>P*un j k) (λ_ _=>rfl) λl hl=>hS' l j hl hj,pun _ _ hj]
   have:=kB (n:=n) P (d:=un i) (e:=λ_=>0) (R:=T) (j:=j)
   rw[gU] at this;rw[show(λm=>P*un i m)=λm=>P*un i m+0 from funext λm=>by omega,this,show sm n (un i) T j=T i j from iO hi];omega
  ·rw[T0 _ j (by omega),T0 _ j (by omega)]
 have htr:∀y,bZ n (λk=>sm n y T k*t1 f n k)=P*x_ n λi k=>sm n y (λj=>c j i) k:=λy=>by
  rw[<- Ju (A:=λi k=>sm n (λj=>sm n y T j) (λa=>tk f n (a+i)) k) (T:=T) (S:=S) P0 (λi k hi hk=>?_) (λi k hi hk=>?_) λi k hi hk=>?_]
  ·unfold x_ t1
   rw[show bZ n (λk=>sm n y T k*bZ n λi=>tk f n (k+i) i)=bZ n λk=>bZ n λi=>sm n y T k*tk f n (k+i) i from aK λk _=>(dh _ _ _).symm,gW]
   exact aK λi _=>(fB _ _ _ _).symm
  ·show bZ n (λl=>T i l*sm n (λj=>sm n y T j) (λa=>tk f n (a+l)) k)=P*bZ n λl=>sm n y (λj=>c j i) l*T l k
   rw[<- fB n (T i) (λl k=>sm n (λj=>sm n y T j) (λa=>tk f n (a+l)) k) k,<- fB n (λl=>sm n y (λj=>c j i) l) T k]
   have e:(φ λk=>sm n (T i) (λl k=>sm n (λj=>sm n y T j) (λa=>tk f n (a+l)) k) k)=φ λk=>P*sm n (λl=>sm n y (λj=>c j i) l) T k:=by
    rw[B.sm n,nX n (λ_ _=>rfl) λl hl=>(hA (λj=>sm n y T j) l hl).symm,<- t_,<- B.un (T i),B.smul,hel,hT i hi,hel,<- hC y i hi]
    grind
   exact B.inj _ _ e k hk
  ·show bZ n (λl=>S i l*T l k)=P*zl i k
   rw[<- fB n (S i) T k];exact hS' i k hi hk
  ·show bZ n (λl=>T i l*S l k)=P*zl i k
   rw[<- fB n (T i) S k];exact h3 i k hi hk
 obtain⟨w,hw⟩:=MB hf hn;have BP:det n (nk n (nk n T (XG f n)) λa b=>T b a)=(P*P) ^ n*det n λi j=>x_ n λm k=>sm n (c i j) (λj=>c j m) k:=by
  rw[<- pC];refine cX λi j hi hj=>?_
  have e1:∀k,k<n->sm n (T i) (λa k=>sm n (T j) (λb=>tk f n (a+b)) k) k=P*sm n (c i j) T k:=by
   have:(φ λk=>sm n (T i) (λa k=>sm n (T j) (λb=>tk f n (a+b)) k) k)=φ λk=>P*sm n (c i j) T k:=by
    rw[<- B.mul (c:=λa b=>tk f n (a+b)) X.mul,B.smul,hel,hT i hi,hT j hj,<- hc i j];grind
   exact B.inj _ _ this
  have e2:bZ n (λk=>sm n (T i) (λa k=>sm n (T j) (λb=>tk f n (a+b)) k) k*t1 f n k)=P*P*x_ n λm k=>sm n (c i j) (λj=>c j m) k:=by
   rw[aK (g:=λk=>P*(sm n (c i j) T k*t1 f n k)) λk hk=>by rw[e1 k hk];grind,dh,htr];grind
  rw[<- e2];show bZ n (λb=>(bZ n λa=>T i a*t1 f n (a+b))*T j b)=_
  have e3:∀k,sm n (T i) (λa k=>sm n (T j) (λb=>tk f n (a+b)) k) k*t1 f n k=bZ n λa=>bZ n λb=>T i a*T j b*(tk f n (a+b) k*t1 f n k):=λk=>by
   rw[fB,<- nY];refine aK λa _=>?_
   rw[fB,<- dh,<- nY];exact aK λb _=>by grind
  rw[aK λk _=>e3 k,gW]
  have e4:bZ n (λa=>bZ n λk=>bZ n λb=>T i a*T j b*(tk f n (a+b) k*t1 f n k))=bZ n λa=>bZ n λb=>T i a*T j b*t1 f n (a+b):=aK λa _=>by
   rw[gW];exact aK λb _=>by rw[dh,Sl hf hn]
  rw[e4,gW];refine aK λb _=>?_
  rw[<- nY];exact aK λa _=>by grind
 rw[vH,vH,E4 n T λi j hij hj=>L.st.jk i (by omega) j hij,zY n (λa b=>T b a) λi j hij hi=>L.st.jk j (by omega) i hij,MC hf hn hg] at BP
 generalize (det n λi j=>x_ n λm k=>sm n (c i j) (λj=>c j m) k)=E at BP
 generalize det n (lam f n)=Λ at hw BP;generalize (det n λa c=>bZ n λk=>g k*tk f n (k+a) c)=D at BP
 refine⟨w*E,?_⟩
 generalize (CV n λi=>T i i)=Z at BP
 generalize (P*P) ^ n=Y at BP;grind
def tot:Nat->(Nat->Nat)->Nat
 | 0,_=>0
 | n+1,s=>tot n s+s n
theorem Jv {s s':Nat->Nat}:∀n,(∀i,i<n->s' i<=s i+1)->tot n s'<=tot n s+n/\(tot n s'=tot n s+n->∀i,i<n->s' i=s i+1)
 | 0,_=>⟨Yd 0,λ_ i hi=>by omega⟩
 | n+1,h=>by
  obtain⟨a,b⟩:=Jv n λi hi=>h i (by omega)
  have hn:=h n (by omega)
  refine⟨by show tot n s'+s' n<=tot n s+s n+(n+1);omega,λe i hi=>?_⟩
  have e:tot n s'+s' n=tot n s+s n+(n+1):=e;by_cases c:i=n
  ·subst c;omega
  ·exact b (by omega) i (by omega)
theorem Fg {T:Nat->Vc}{s:Nat->Nat}:∀n,(∀i,i<n->T i i=(p:Int) ^ s i)->CV n (λi=>T i i)=(p:Int) ^ tot n s
 | 0,_=>rfl
 | n+1,h=>by
  show CV n (λi=>T i i)*T n n=(p:Int) ^ (tot n s+s n)
  rw[Fg n λi hi=>h i (by omega),h n (by omega),Zw]
theorem xo {a b:Nat}(hp:2<=p)(h:(p:Int) ^ a ∣ (p:Int) ^ b):a<=b:=by
 rw[<- Zx,<- Zx,Int.natCast_dvd_natCast] at h;exact(Nat.pow_dvd_pow_iff_le_right (by omega)).mp h
theorem c_.grow {T':Nat->Vc}(hp:2<=p)(hT:c_ n T)(T3:c_ n T'){s s':Nat->Nat}(es:∀i,i<n->T i i=(p:Int) ^ s i)(es':∀i,i<n->T' i i=(p:Int) ^ s' i)
  (sub:∀i,i<n->gK n T' λj=>(p:Int)*T i j) {r:Vc} (hr:gK n T' λj=>sm n r T j) {k:Nat} (hk:k<n) (nd:¬ (p:Int) ∣ r k):tot n s'<tot n s+n:=by
 have hU:c_ n λi j=>(p:Int)*T i j:=⟨λi hi j hj=>by show(p:Int)*T i j=0;rw[hT.jk i hi j hj];omega,λi hi z=>by
  rcases Int.mul_eq_zero.mp z with y|y
  ·omega
  ·exact hT.nz i hi y⟩
 have hle:∀i,i<n->s' i<=s i+1:=λi hi=>by
  have:=T3.dvd hU sub hi
  rw[es' i hi,show(p:Int)*T i i=(p:Int) ^ (s i+1) by rw[es i hi,Za,Zs]] at this
  exact xo hp this
 obtain⟨a,b⟩:=Jv n hle;rcases Nat.lt_or_eq_of_le a with y|y
 ·exact y
 ·exfalso
  have hs:=T3.same hU sub λi hi=>by
   show(p:Int)*T i i=T' i i
   rw[es i hi,es' i hi,b y i hi,Za,Zs]
  obtain⟨cr,er⟩:=hr;obtain⟨w,hw⟩:=gK.sm (c:=cr) (U:=T') n hs;have e:∀j,sm n r T j=sm n (λm=>(p:Int)*w m) T j:=λj=>by
   have e1:sm n r T j=sm n cr T' j:=er j;have e2:sm n cr T' j=sm n w (λi j=>(p:Int)*T i j) j:=hw j
   rw[e1,e2];exact sS λi _=>by grind
  exact nd ⟨_,hT.uniq n (Yd n) e k hk⟩
theorem uV.le (X:Xr f n p φ ip)(hf:Top f n)(hn:1<=n)(hp:2<=p)(L:uV n p φ ip d T){g:Fn}(hg:∀m,m<n->g m=((m+1:Nat):Int)*f (m+1)){s:Nat->Nat}(es:∀i,i<n->T i i=(p:Int) ^ s i)
  {z:Nat} {u:Int} (hD:(det n λa c=>bZ n λk=>g k*tk f n (k+a) c)=(p:Int) ^ z*u) (hu:¬ (p:Int) ∣ u):2*(d*n)<=2*tot n s+z:=by
 obtain⟨w,e⟩:=uV.Vk X hf hn (by omega) L hg
 rw[Fg n es,hD] at e;by_cases c:2*(d*n)<=2*tot n s+z
 ·exact c
 exfalso
 obtain⟨k,hk⟩:∃k,2*(d*n)=2*tot n s+z+(k+1):=⟨2*(d*n)-(2*tot n s+z)-1,by omega⟩
 have e1:((p:Int) ^ d*(p:Int) ^ d) ^ n=(p:Int) ^ (2*tot n s+z)*((p:Int)*(p:Int) ^ k):=by
  rw[<- Zw,<- Int.pow_mul,show(d+d)*n=2*(d*n) by rw[Wd];omega,hk,Zw,Za,Zs ((p:Int) ^ k)]
 have e2:(p:Int) ^ tot n s*(p:Int) ^ tot n s*((p:Int) ^ z*u)=(p:Int) ^ (2*tot n s+z)*u:=by
  rw[Zw,show 2*tot n s=tot n s+tot n s by omega,Zw];grind
 rw[e1,e2,Z8] at e;have:=Ze (Int.pow_ne_zero (by omega)) e
 exact hu ⟨(p:Int) ^ k*w,by rw[this];grind⟩
end
section
variable {α:Type} [CommRing α]
theorem Jw {M:Md α}{a:cV α}(h:Dg a M.n):Alg.rest M a=a:=rest_eq h (Cg.refl _ _)
theorem PB {M:Md α}:∀k:Nat,(nt (Qt M) k).s=cst (nt α k)
 | 0=>IL.symm
 | k+1=>by
  show(nt (Qt M) k).s+1=cst (nt α k+1)
  rw[PB k,Mi];rfl
theorem Sm {M:Md α}(k:Int):(zc (Qt M) k).s=cst (zc α k):=by
 rcases Int.le_total 0 k with y|y
 ·obtain⟨n,rfl⟩:=Zj y
  rw[eo,eo,PB]
 ·obtain⟨n,e⟩:=Zj (show 0<=-k by omega)
  rw[show k=-(n:Int) by omega,qF,qF,eo,eo,R4,PB]
  apply cV.ext
  funext i
  show -(cst (nt α n)).c i=if i=0 then -nt α n else 0
  show -(if i=0 then nt α n else 0)=_
  by_cases c:i=0
  ·rw[W9 c,W9 c]
  ·rw[W8 c,W8 c];grind
end
theorem Jx (k:Int):zc Rat k=(k:Rat):=rfl
section
variable {f:Fn} {n p:Nat}
def Sv (v:Vc):cV Rat:=⟨λi=>(v i:Rat)⟩
theorem Jy {v:Vc}{n:Nat}(h:∀j,n<=j->v j=0):Dg (Sv v) n:=λi hi=>by show((v i:Int):Rat)=0;rw[h i hi];rfl
def Mf (hf:Top f n)(hn:1<=n):Md Rat:=⟨Sv f,n,⟨by show((f n:Int):Rat)=1;rw[hf.one];rfl,Jy λj hj=>hf.top j (by omega)⟩,hn⟩
def fk (n:Nat)(v:Vc):Vc:=λj=>if j<n then v j else 0
def PC (hf:Top f n)(hn:1<=n)(v:Vc):Qt (Mf hf hn):=⟨Sv (fk n v),Jy λj (hj:n<=j)=>W8 (by omega)⟩
theorem NC (hf:Top f n)(hn:1<=n):∀k,Cg (Sv f) (mon 1 k) (Sv (tk f n k))
 | 0=>by
  have:Sv (tk f n 0)=mon 1 0:=by
   apply cV.ext;funext i
   show((xp 0 i:Int):Rat)=if i=0 then 1 else 0
   unfold xp;by_cases c:i=0
   ·rw[W9 c,W9 c];rfl
   ·rw[W8 c,W8 c];rfl
  rw[this];exact Cg.refl _ _
 | k+1=>by
  have e1:(mon 1 (k+1):cV Rat)=X*mon 1 k:=by
   apply cV.ext;funext i
   show _=(mon 1 1*mon 1 k:cV Rat).c i
   rw[sL];show(if i=k+1 then (1:Rat) else 0)=if 1<=i then 1*(if i-1=k then (1:Rat) else 0) else 0
   by_cases c:1<=i
   ·rw[W9 c]
    by_cases d:i=k+1
    ·rw[W9 d,W9 (by omega)];grind
    ·rw[W8 d,W8 (by omega)];grind
   ·rw[W8 c,W8 (by omega)]
  rw[e1];have px:tY (Sv (tk f n k)):=⟨n,Jy λj hj=>wN hf hn k j hj⟩
  refine(Cg.mul tY.X (⟨_,Dg.mon 1 k⟩) (Cg.refl _ _) (NC hf hn k)).trans ⟨cst ((tk f n k (n-1):Int):Rat),tY.cst _,?_⟩
  apply cV.ext;funext i
  rw[IG,pF];show(mon 1 1*Sv (tk f n k):cV Rat).c i-(((if i=0 then 0 else tk f n k (i-1))-tk f n k (n-1)*f i:Int):Rat)=((tk f n k (n-1):Int):Rat)*((f i:Int):Rat)
  rw[sL,Rat.intCast_sub,Rat.intCast_mul];by_cases c:1<=i
  ·rw[W9 c,W8 (by omega)]
   show(1:Rat)*((tk f n k (i-1):Int):Rat)-_=_
   grind
  ·rw[W8 c,W9 (by omega)]
   show(0:Rat)-((0:Rat)-_)=_
   grind
theorem Sn (hf:Top f n)(hn:1<=n)(hp:1<=p):∃ip,Xr f n p (PC hf hn) ip:=by
 have Mn:(Mf hf hn).n=n:=rfl;have d1:∀x:Rat,Dg (cst x) (Mf hf hn).n:=λx=>(Dg.cst x).mono (by rw[Mn];exact hn)
 have QN:∀(x:Rat) (a b:Qt (Mf hf hn)),a.s=cst x->∀i,(a*b).s.c i=x*b.s.c i:=λx a b h i=>by
  rw[Nu,h,Jw,pF];exact λj hj=>by rw[pF,b.lt j hj];grind
 have hp0:((p:Int):Rat)≠0:=λz=>by
  have:((p:Int):Rat)=((0:Int):Rat):=z
  have:=Rat.intCast_inj.mp this
  omega
 refine⟨⟨cst ((p:Int):Rat)⁻¹,d1 _⟩,⟨λa v w=>?_,λv w e j hj=>?_,λv w e=>?_⟩,?_,?_,λa b ha hb=>?_⟩
 ·apply Qt.ext;apply cV.ext;funext i
  rw[R3,Nt,QN _ _ _ (Sm a),Jx];show(((if i<n then a*v i+w i else 0:Int)):Rat)=(a:Rat)*(((if i<n then v i else 0:Int)):Rat)+(((if i<n then w i else 0:Int)):Rat)
  by_cases c:i<n
  ·rw[W9 c,W9 c,W9 c,Rat.intCast_add,Rat.intCast_mul]
  ·rw[W8 c,W8 c,W8 c]
   show(0:Rat)=(a:Rat)*0+0
   grind
 ·have h:(PC hf hn v).s.c j=(PC hf hn w).s.c j:=by rw[e]
  have h:(((if j<n then v j else 0:Int)):Rat)=(((if j<n then w j else 0:Int)):Rat):=h
  rw[W9 hj,W9 hj] at h;exact Rat.intCast_inj.mp h
 ·apply Qt.ext;apply cV.ext;funext i
  show(((if i<n then v i else 0:Int)):Rat)=(((if i<n then w i else 0:Int)):Rat)
  by_cases c:i<n
  ·rw[W9 c,W9 c,e i c]
  ·rw[W8 c,W8 c]
 ·apply Qt.ext;apply cV.ext;funext i
  rw[<- eo,QN _ _ _ (Sm (p:Int)),Jx];show((p:Int):Rat)*(if i=0 then ((p:Int):Rat)⁻¹ else 0)=if i=0 then 1 else 0
  by_cases c:i=0
  ·rw[W9 c,W9 c];exact Rat.mul_inv_cancel _ hp0
  ·rw[W8 c,W8 c];grind
 ·apply Qt.ext;apply cV.ext;funext i
  show(((if i<n then (if i=0 then 1 else 0) else 0:Int)):Rat)=if i=0 then 1 else 0
  by_cases c:i=0
  ·rw[W9 (by omega),W9 c,W9 c];rfl
  ·rw[W8 c,W8 c]
   by_cases h:i<n
   ·rw[W9 h];rfl
   ·rw[W8 h];rfl
 ·have hu:∀a,a<n->(PC hf hn (un a)).s=mon 1 a:=λa ha=>by
   apply cV.ext;funext i
   show(((if i<n then (if i=a then 1 else 0) else 0:Int)):Rat)=if i=a then 1 else 0
   by_cases c:i=a
   ·rw[W9 (by omega),W9 c,W9 c];rfl
   ·rw[W8 c,W8 c]
    by_cases h:i<n
    ·rw[W9 h];rfl
    ·rw[W8 h];rfl
  apply Qt.ext
  rw[Nu,hu a ha,hu b hb];refine rest_eq (PC hf hn _).lt ?_
  have e1:(mon 1 a*mon 1 b:cV Rat)=mon 1 (a+b):=by
   apply cV.ext;funext i
   rw[sL];show(if a<=i then 1*(if i-a=b then (1:Rat) else 0) else 0)=if i=a+b then 1 else 0
   by_cases c:a<=i
   ·rw[W9 c]
    by_cases d:i=a+b
    ·rw[W9 d,W9 (by omega)];grind
    ·rw[W8 d,W8 (by omega)];grind
   ·rw[W8 c,W8 (by omega)]
  have e2:(PC hf hn (tk f n (a+b))).s=Sv (tk f n (a+b)):=by
   apply cV.ext;funext i
   show(((if i<n then tk f n (a+b) i else 0:Int)):Rat)=((tk f n (a+b) i:Int):Rat)
   by_cases c:i<n
   ·rw[W9 c]
   ·rw[W8 c,wN hf hn _ _ (by omega)]
  rw[e1,e2];exact NC hf hn (a+b)
end
end L2
set_option exponentiation.threshold 2000
namespace L2
open PySem PySem.Spec PyProof.Rows
def MD:Q?->Scope
 | .Return (j? (.Tuple [_,.ListComp _ _ sc _] _ _)) _=>sc
 | _=>default
def sN (W:Nat):Nat->Fn->Nat
 | 0,_=>0
 | N+1,h=>sN W N h+(h N).natAbs*W ^ N
theorem Ai {W:Nat}{h:Fn}:∀ {N M:Nat},N<=M->sN W N h<=sN W M h
 | N,0,h=>by rw[show N=0 by omega];exact Yd _
 | N,M+1,h=>by
  by_cases c:N=M+1
  ·rw[c];exact Yd _
  ·have:=Ai (W:=W) (h:=by assumption) (show N<=M by omega)
   show _<=sN W M _+_
   omega
theorem Fj {W:Nat}{h:Fn}{N j:Nat}(hj:j<N):(h j).natAbs*W ^ j<=sN W N h:=by
 have h1:(h j).natAbs*W ^ j<=sN W (j+1) h:=Nat.le_add_left _ _;exact Yn h1 (Ai (by omega))
theorem DL {W:Nat}{a b c:Fn}(e:∀j,c j=a j+b j):∀N,sN W N c<=sN W N a+sN W N b
 | 0=>Yd 0
 | N+1=>by
  show sN W N c+(c N).natAbs*W ^ N<=sN W N a+(a N).natAbs*W ^ N+(sN W N b+(b N).natAbs*W ^ N)
  have h1:=DL (W:=W) e N;have h2:(c N).natAbs<=(a N).natAbs+(b N).natAbs:=by rw[e N];exact Int.natAbs_add_le _ _
  have h3:=Yx (W ^ N) h2;rw[Wd] at h3;omega
theorem Jz {W i:Nat}{g:Fn}(c:Int):∀N,sN W N (λj=>c*cv (xp i) g j)<=c.natAbs*W ^ i*sN W N g
 | 0=>Y1 _
 | N+1=>by
  have key:∀M,sN W (M+i) (λj=>c*cv (xp i) g j)<=c.natAbs*W ^ i*sN W M g:=by
   intro M;induction M with
   | zero=>
    have z:∀k,k<=i->sN W k (λj=>c*cv (xp i) g j)=0:=by
     intro k;induction k with
     | zero=>intro _;rfl
     | succ k ih=>
      intro hk;show sN W k _+(c*cv (xp i) g k).natAbs*W ^ k=0
      rw[ih (by omega),jh,W8 (by omega)];simp
    rw[W2,z i (Yd i)];exact Y1 _
   | succ M ih=>
    rw[show M+1+i=M+i+1 by omega]
    show sN W (M+i) _+(c*cv (xp i) g (M+i)).natAbs*W ^ (M+i)<=c.natAbs*W ^ i*(sN W M g+(g M).natAbs*W ^ M)
    rw[jh,W9 (by omega),Wl,Zf,W7,Zq]
    have:c.natAbs*(g M).natAbs*(W ^ M*W ^ i)=c.natAbs*W ^ i*((g M).natAbs*W ^ M):=by ac_rfl
    omega
  refine Yn (Ai (show N+1<=N+1+i by omega)) (key (N+1))
theorem ND {W L:Nat}{a g:Fn}(ha:∀j,L<=j->a j=0)(N:Nat):sN W N (cv a g)<=sN W L a*sN W N g:=by
 have e:∀m,cv a g m=bZ L λi=>a i*cv (xp i) g m:=by
  intro m;have h1:cv a g m=cA (m+1) λi=>a i*g (m-i):=rfl
  rw[h1,<- eY];have h2:bZ L (λi=>a i*cv (xp i) g m)=bZ (L+(m+1)) λi=>a i*cv (xp i) g m:=(vM (by omega) λi hi _=>by rw[ha i hi,Wb]).symm
  have h3:bZ (m+1) (λi=>a i*g (m-i))=bZ (L+(m+1)) λi=>a i*cv (xp i) g m:=by
   rw[vM (m:=m+1) (n:=L+(m+1)) (by omega) λi hi _=>by rw[jh,W8 (by omega),Y6]]
   exact aK λi hi=>by rw[jh,W9 (by omega)]
  rw[h2,h3]
 have key:∀M,sN W N (λm=>bZ M λi=>a i*cv (xp i) g m)<=sN W M a*sN W N g:=by
  intro M;induction M with
  | zero=>
   have:∀K,sN W K (λ_=>(0:Int))=0:=λK=>by
    induction K with
    | zero=>rfl
    | succ K ih=>show sN W K _+Zm 0*_=0;rw[ih];simp
   show sN W N (λ_=>(0:Int))<=_
   rw[this];exact Y1 _
  | succ M ih=>
   refine Yn (DL (a:=λm=>bZ M λi=>a i*cv (xp i) g m) (b:=λm=>a M*cv (xp M) g m) (λm=>rfl) N) ?_
   show _<=(sN W M a+(a M).natAbs*W ^ M)*sN W N g
   rw[Wd];exact Nat.add_le_add ih (Jz (a M) N)
 rw[show cv a g=λm=>bZ L λi=>a i*cv (xp i) g m from funext e]
 exact key L
theorem Fo {W:Nat}{h:Fn}{N:Nat}(h0:∀j,N<=j->h j=0):∀ {M},N<=M->sN W M h=sN W N h
 | 0,hM=>by rw[show N=0 by omega]
 | M+1,hM=>by
  by_cases c:N=M+1
  ·rw[c]
  ·show sN W M h+(h M).natAbs*W ^ M=_
   rw[Fo h0 (show N<=M by omega),h0 M (by omega)];simp
theorem GF {p:List Int}{n:Nat}(hp:Norm p)(h:Top (aq p) n):p.length=n+1:=by
 rcases hp with z|z
 ·rw[z] at h
  have:=h.one
  rw[gT] at this;cases this
 ·have h1:¬ p.length-1 > n:=λc=>z (h.top _ c)
  have h2:¬ p.length<=n:=λc=>by
   have:=h.one
   rw[bG c] at this;cases this
  omega
theorem topC {f:List Int}{n:Nat}(hl:f.length=n+1)(hm:L2.dR f):Top (aq f) n:=⟨by have:=hm.2;rw[hl] at this;exact this,λm hm=>bG (by omega)⟩
structure Pw (r:Nat)(f:List Int)(n:Nat):Prop where
 len:f.length=n+1
 mon:L2.dR f
 nm:sN (2 ^ 40) (n+1) (aq f)<=(2 ^ (40+r)) ^ n
variable {r s n m:Nat} {f g:List Int}
theorem Pw.hi (h:Pw r f n){j:Nat}(hj:n+1<=j):aq f j=0:=bG (by rw[h.len];exact hj)
theorem Pw.top (h:Pw r f n):Top (aq f) n:=topC h.len h.mon
theorem Pw.mono (h:Pw r f n)(hr:r<=s):Pw s f n:=⟨h.len,h.mon,Yn h.nm (Z2 (Yy (by decide) (by omega)) n)⟩
theorem Pw.mul (hf:Pw r f n)(hg:Pw r g m):Pw r (trim (ee f g)) (n+m):=by
 have fn:f≠[]:=hf.mon.1;have gn:g≠[]:=hg.mon.1;have hl:(ee f g).length=n+m+1:=by
  unfold ee;rw[W8 (by rintro (z|z);exact fn z;exact gn z),Ya,Yg,hf.len,hg.len];omega
 have top:aq (ee f g) (n+m)=1:=by
  rw[Nk,Dm hg.top λi hi=>hf.hi (by omega)];exact hf.top.one
 have nn:Norm (ee f g):=.inr (by rw[hl];show aq _ (n+m)≠0;rw[top];decide)
 rw[Ga nn];refine⟨hl,⟨(λz=>by rw[z] at hl;cases hl),by rw[hl];exact top⟩,?_⟩
 rw[Nk,Zq];refine Yn (ND (L:=n+1) (λj hj=>hf.hi hj) _) (Zk hf.nm ?_)
 rw[Fo (N:=m+1) (λj hj=>hg.hi hj) (by omega)]
 exact hg.nm
theorem Pw.one:Pw r [1] 0:=⟨rfl,⟨by simp,rfl⟩,by show 0+1*(2 ^ 40) ^ 0<=_;simp⟩
theorem Pw.of (hl:f.length=n+1)(hm:L2.dR f)(hn:n<=8)(h:∀k,k<n->8*(aq f k).natAbs<=(2 ^ 40) ^ (n-k)):Pw 1 f n:=by
 refine⟨hl,hm,?_⟩
 have key:∀k,k<=n->8*sN (2 ^ 40) k (aq f)<=k*(2 ^ 40) ^ n:=by
  intro k;induction k with
  | zero=>intro _;show 8*0<=0*_;simp
  | succ k ih=>
   intro hk;show 8*(sN (2 ^ 40) k (aq f)+(aq f k).natAbs*(2 ^ 40) ^ k)<=_
   have h1:=ih (by omega)
   have h2:=Yx ((2 ^ 40) ^ k) (h k (by omega))
   rw[<- Zq,Nat.sub_add_cancel (by omega)] at h2
   rw[Wd,W7];rw[Wo] at h2;omega
 have top:aq f n=1:=(topC hl hm).one;show sN (2 ^ 40) n (aq f)+(aq f n).natAbs*(2 ^ 40) ^ n<=_
 rw[top];cases n with
 | zero=>simp[sN]
 | succ n=>
  have h1:=key (n+1) (Yd _);have h2:(n+1)*(2 ^ 40) ^ (n+1)<=8*(2 ^ 40) ^ (n+1):=Yx _ hn;have h3:2*(2 ^ 40) ^ (n+1)<=(2 ^ (40+1)) ^ (n+1):=by
   rw[Zv 2 40,Nat.mul_pow,Ws];exact Zb _ (by rw[Zv];have:=Z0 (n:=n) (show 0<2 by decide);omega)
  have e:Zm 1=1:=rfl;rw[e];omega
theorem Pw.jy {c:Int}(h:c.natAbs<=2 ^ 37):Pw 1 [c,1] 1:=Pw.of rfl ⟨by simp,rfl⟩ (by decide) λk hk=>by
 rw[show k=0 by omega]
 show 8*c.natAbs<=(2 ^ 40) ^ 1
 omega
theorem Fp (W:Nat)(a:Int)(r:List Int):∀N,sN W (N+1) (aq (a::r))=a.natAbs+W*sN W N (aq r)
 | 0=>by show 0+(aq (a::r) 0).natAbs*W ^ 0=a.natAbs+W*0;rw[show aq (a::r) 0=a from rfl];simp
 | N+1=>by
  show sN W (N+1) (aq (a::r))+(aq (a::r) (N+1)).natAbs*W ^ (N+1)=a.natAbs+W*(sN W N (aq r)+(aq r N).natAbs*W ^ N)
  rw[Fp W a r N,show aq (a::r) (N+1)=aq r N from rfl,W7,Zv]
  have:(aq r N).natAbs*(W ^ N*W)=W*((aq r N).natAbs*W ^ N):=by ac_rfl
  omega
theorem Fq (W:Nat):∀N,sN W N (λ_=>(0:Int))=0
 | 0=>rfl
 | N+1=>by show sN W N _+Zm 0*_=0;rw[Fq W N];simp
theorem JA (W:Nat)(a:Int):∀N,sN W N (λm=>if m=0 then a else 0)<=a.natAbs
 | 0=>Y1 _
 | 1=>by show 0+a.natAbs*W ^ 0<=_;simp
 | N+2=>by
  show sN W (N+1) _+(if N+1=0 then a else 0).natAbs*_<=_
  rw[W8 (by omega)]
  have:=JA W a (N+1)
  simp
  exact this
theorem JB {W:Nat}{c:Int}(hc:c.natAbs<=W):∀N,sN W N (jy (-c))<=2*W
 | 0=>Y1 _
 | 1=>by show 0+(jy (-c) 0).natAbs*W ^ 0<=_;rw[show jy (-c) 0=-(-c) from rfl];simp;omega
 | 2=>by
  show 0+(jy (-c) 0).natAbs*W ^ 0+(jy (-c) 1).natAbs*W ^ 1<=_
  rw[show jy (-c) 0=-(-c) from rfl,show jy (-c) 1=1 from rfl]
  simp;omega
 | N+3=>by
  show sN W (N+2) _+(jy (-c) (N+2)).natAbs*_<=_
  have e:jy (-c) (N+2)=0:=by unfold L2.jy;rw[W8 (by omega),W8 (by omega)]
  rw[e];have:=JB hc (N+2)
  simp
  exact this
theorem NF {W:Nat}{c:Int}(hc:c.natAbs<=W):∀(f:List Int) (N:Nat),sN W N (aq (fh c f))<=sN (2*W) f.length (aq f)
 | [],N=>by rw[Im,Fq];exact Y1 _
 | a::r,N=>by
  rw[List.length_cons,Fp];have h1:=DL (W:=W) (a:=cv (aq (fh c r)) (jy (-c))) (b:=λm=>if m=0 then a else 0) (c:=aq (fh c (a::r))) (λj=>vJ c a r j) N
  have h2:=ND (W:=W) (L:=(fh c r).length) (a:=aq (fh c r)) (g:=jy (-c)) (λj hj=>bG hj) N
  have h3:=NF hc r (fh c r).length;have h4:=JB hc N;have h5:=JA W a N;have h6:=Zk h3 h4;rw[Ws (sN (2*W) r.length (aq r))] at h6;omega
theorem JC {W:Nat}{h:Fn}(n:Nat):∀N,N<=n+1->sN (2*W) N h<=2 ^ n*sN W N h
 | 0,_=>Y1 _
 | N+1,hN=>by
  show sN (2*W) N h+(h N).natAbs*(2*W) ^ N<=2 ^ n*(sN W N h+(h N).natAbs*W ^ N)
  have h1:=JC (W:=W) (h:=h) n N (by omega)
  have h2:2 ^ N<=2 ^ n:=Yy (by decide) (by omega)
  have h3:=Yx ((h N).natAbs*W ^ N) h2;rw[Nat.mul_pow,W7];have:(h N).natAbs*(2 ^ N*W ^ N)=2 ^ N*((h N).natAbs*W ^ N):=by ac_rfl
  omega
theorem JD (c:Int):∀(f:List Int) (n:Nat),f.length=n+1->aq f n=1->Top (aq (fh c f)) n
 | [],n,h,_=>by cases h
 | [a],n,h,e=>by
  have hn:n=0:=by simp at h;omega
  subst hn;have ha:a=1:=e;have e2:aq (fh c [a])=λm=>if m=0 then a else 0:=funext λm=>by
   rw[vJ,Im];have:cv (λ_=>0) (L2.jy (-c)) m=0:=by
    show cA (m+1) (λi=>(0:Int)*_)=0
    rw[show(λi=>(0:Int)*L2.jy (-c) (m-i))=λ_=>0 from funext λi=>Wb _]
    exact dB λ_ _=>rfl
   rw[this,Zu]
  rw[e2];exact⟨by rw[W9 rfl];exact ha,λm hm=>by rw[W8 (by omega)]⟩
 | a::b::r,n,h,e=>by
  cases n with
  | zero=>simp at h
  | succ n=>
   have ih:=JD c (b::r) n (by simpa using h) e
   have hl:Top (L2.jy (-c)) 1:=⟨rfl,λm hm=>by unfold L2.jy;rw[W8 (by omega),W8 (by omega)]⟩
   have t:=ih.mul hl;exact⟨by rw[vJ,W8 (by omega),We];exact t.one,λm hm=>by rw[vJ,W8 (by omega),We];exact t.top m hm⟩
theorem Pw.shift {c:Int}(h:Pw r f n)(hc:c.natAbs<=2 ^ 40):Pw (r+1) (fh c f) n:=by
 have t:=JD c f n h.len h.top.one;have nn:Norm (fh c f):=wI _ _;have hl:=GF nn t;refine⟨hl,⟨(λz=>by rw[z] at hl;cases hl),by rw[hl];exact t.one⟩,?_⟩
 have h1:=NF hc f (n+1);rw[h.len] at h1;have h2:=JC (W:=2 ^ 40) (h:=aq f) n (n+1) (Yd _);refine Yn h1 (Yn h2 (Yn (Zb _ h.nm) ?_))
 rw[<- Nat.mul_pow,show 40+(r+1)=40+r+1 by omega,Zv 2 (40+r),Ws]
 exact Yd _
theorem Pw.wb (h:Pw r f n):wb (2 ^ 40) (2 ^ (r*n)*(2 ^ 40) ^ n) (aq f):=λj=>by
 have e:(2 ^ (40+r)) ^ n=2 ^ (r*n)*(2 ^ 40) ^ n:=by
  rw[Zq,Nat.mul_pow,Ws,<- Wk 2 r n]
 rw[<- e];by_cases c:j<n+1
 ·exact Yn (Fj c) h.nm
 ·rw[h.hi (by omega)];simp
theorem Pw.bd (h:Pw r f n)(j:Nat):(aq f j).natAbs<=2 ^ ((40+r)*n):=by
 rw[Wk];by_cases c:j<n+1
 ·exact Yn (Nat.le_mul_of_pos_right _ (Z0 (by decide))) (Yn (Fj (W:=2 ^ 40) c) h.nm)
 ·rw[h.hi (by omega)];exact Y1 _
theorem Pw.Gh (h:Pw r f n):f6 ((40+r)*n+1) f:=tU λj _=>Z4 (h.bd j) (Wf (by decide) (by omega))
theorem Pw.ent (h:Pw 2 f n)(n1:1<=n)(n6:n<=6){g:List Int}(lg:g.length<=7)(bg:∀k,(aq g k).natAbs<=2 ^ 255){R:Nat->Fn}(hR:Rows (aq f) n (aq g) R):∀i j,i<=n->(R i j).natAbs<=2 ^ 1100:=by
 intro i j hi;have bgw:L2.wb (2 ^ 40) (2 ^ 255*(2 ^ 40) ^ 7) (aq g):=λk=>by
  by_cases c:k<g.length
  ·exact Zk (bg k) (Yy (by decide) (by omega))
  ·rw[bG (by omega)];simp
 refine Yn (GC h.top n1 (W:=2 ^ 40) (by decide) h.wb (λm hm=>bG hm) bgw hR i j) ?_
 have e1:1+2 ^ (2*n)<=2 ^ 13:=by
  have:2 ^ (2*n)<=2 ^ 12:=Yy (by decide) (by omega)
  omega
 have e2:(1+2 ^ (2*n)) ^ g.length<=(2 ^ 13) ^ 7:=Yn (Z2 e1 _) (Yy (by decide) lg)
 have e3:(2 ^ 40*(1+2 ^ (2*n))) ^ i<=(2 ^ 53) ^ 6:=by
  refine Yn (Z2 (Zb _ e1) _) ?_
  rw[<- Zq];exact Yy (by decide) (by omega)
 refine Yn (Zk (show g.length<=2 ^ 3 by omega) (Zk (Zb _ e2) e3)) ?_
 have e4:2 ^ 3*(2 ^ 255*(2 ^ 40) ^ 7*(2 ^ 13) ^ 7*(2 ^ 53) ^ 6)=2 ^ (3+(255+40*7+13*7+53*6)):=by
  rw[<- Wk,<- Wk,<- Wk,<- Zq,<- Zq,<- Zq,<- Zq]
 rw[e4];exact Yy (by decide) (by decide)
theorem Pw.TR (h:Pw 2 f n)(n6:n<=6)(j:Nat):(aq f j).natAbs<=2 ^ 252:=Yn (h.bd j) (Yy (by decide) (by omega))
theorem Pw.So (h:Pw 2 f n)(n6:n<=6):f6 253 f:=h.Gh.mono (by omega)
theorem Pw.bdl (h:Pw 2 f n)(n6:n<=6)(k:Nat):(aq (dl f) k).natAbs<=2 ^ 255:=by
 rw[vI];by_cases c:k+1<n+1
 ·rw[Zf]
  refine Yn (Zk (show((k+1:Nat):Int).natAbs<=2 ^ 3 by omega) (h.TR n6 (k+1))) ?_
  rw[<- Zq];exact Yy (by decide) (by decide)
 ·rw[h.hi (by omega),Y6];exact Y1 _
end L2
namespace L2
open Alg Lean.Grind
def Ft (v:Vc):Vc:=λj=>if j=0 then 0 else v (j-1)
theorem zo {T:Nat->Vc}{c v:Vc}{i:Nat}:∀n,(∀k,k<n->∀j,k<j->T k j=0)->(∀k,k<n->T k k≠0)->(∀j,v j=sm n c T j)->i<n->(∀j,i<j->v j=0)->∀j,v j=sm (i+1) c T j
 | 0,_,_,_,hi,_=>by omega
 | n+1,jk,nz,e,hi,h0=>by
  by_cases h:i=n
  ·rw[h];exact e
  ·have e1:v n=c n*T n n:=by
    rw[e n];show sm n c T n+c n*T n n=_
    rw[iA (q:=0) λk hk=>jk k (by omega) n hk];omega
   have e2:c n=0:=by
    rw[h0 n (by omega)] at e1
    rcases Int.mul_eq_zero.mp e1.symm with z|z
    ·exact z
    ·exact Jf z (nz n (by omega))
   refine zo n (λk hk=>jk k (by omega)) (λk hk=>nz k (by omega)) (λj=>?_) (by omega) h0
   rw[e j];show sm n c T j+c n*T n j=_
   rw[e2];simp
theorem gK.add {n:Nat}{T:Nat->Vc}{v w:Vc}(a:Int):gK n T v->gK n T w->gK n T λj=>a*v j+w j:=λ⟨c,e⟩ ⟨d,g⟩=>⟨λi=>a*c i+d i,λj=>by rw[kB,<- e,<- g]⟩
theorem gK.row {n:Nat}{T:Nat->Vc}{i:Nat}(hi:i<n):gK n T (T i):=⟨λk=>if k=i then 1 else 0,λj=>(iO hi).symm⟩
theorem gK.of {n:Nat}{T:Nat->Vc}{v w:Vc}(h:gK n T v)(e:∀j,w j=v j):gK n T w:=by
 obtain⟨c,g⟩:=h;exact⟨c,λj=>by rw[e j,g j]⟩
theorem gK.cut {n:Nat}{T:Nat->Vc}(st:c_ n T){v:Vc}{i:Nat}(h:gK n T v)(hi:i<n)(h0:∀j,i<j->v j=0):∃a:Int,v i=a*T i i/\gK n T (λj=>v j-a*T i j)/\∀j,i<=j->v j-a*T i j=0:=by
 obtain⟨c,e⟩:=id h;have e1:=zo n st.jk st.nz e hi h0;have e2:v i=c i*T i i:=by
  rw[e1 i];show sm i c T i+c i*T i i=_
  rw[iA (q:=0) λk hk=>st.jk k (by omega) i hk];omega
 refine⟨c i,e2,?_,λj hj=>?_⟩
 ·exact gK.of (gK.add (-(c i)) (gK.row hi) h) λj=>by grind
 ·by_cases z:j=i
  ·rw[z,e2];omega
  ·rw[h0 j (by omega),st.jk i hi j (by omega)];simp
section
variable {R:Type} [CommRing R] {f:Fn} {n p d:Nat} {φ:Vc->R} {ip:R} {T:Nat->Vc}
theorem uV.shift (X:Xr f n p φ ip)(L:uV n p φ ip d T){v:Vc}(hv:gK n T v)(h0:∀j,n-1<=j->v j=0)(hn:2<=n):gK n T (Ft v):=by
 have B:=X.ya;obtain⟨c,e⟩:=hv;have hmul:φ (un 1)*φ v=φ (Ft v):=by
  rw[B.Ag (c:=λa b=>tk f n (a+b)) X.mul (by omega)]
  refine B.sup _ _ λk hk=>?_
  rw[fB];have:∀b,b<n->v b*tk f n (1+b) k=v b*(if b+1=k then 1 else 0):=λb hb=>by
   by_cases z:b=n-1
   ·rw[h0 b (by omega)];simp
   ·rw[Nat.add_comm,qK (b+1) (by omega)]
    show v b*(if k=b+1 then 1 else 0)=_
    by_cases q:b+1=k
    ·rw[W9 q,W9 q.symm]
    ·rw[W8 q,W8 λz=>q z.symm]
  rw[aK this,<- fB n v (λb k=>if b+1=k then 1 else 0) k]
  unfold Ft;cases k with
  | zero=>rw[W9 rfl];exact iA (q:=0) λi _=>W8 (by omega)
  | succ k=>
   rw[W8 (by omega),Wl]
   have:=BN (x:=v) (j:=k) n
   rw[W9 (by omega)] at this
   rw[<- this];rw[fB,fB];refine aK λi hi=>?_
   show v i*(if i+1=k+1 then (1:Int) else 0)=v i*if k=i then 1 else 0
   by_cases q:i=k
   ·rw[W9 (by omega),W9 q.symm]
   ·rw[W8 (by omega),W8 λz=>q z.symm]
 have hel:kC n φ ip d T c=ip ^ d*φ v:=by
  unfold kC;rw[B.sup (λj=>sm n c T j) v λj _=>(e j).symm]
 obtain⟨c',hc'⟩:=L.sub.mul (L.all (un 1)) ⟨c,rfl⟩;rw[hel] at hc';have Vl:zc R ((p:Int) ^ d)*ip ^ d=1:=qJ X.inv d;have key:φ (Ft v)=φ λj=>sm n c' T j:=by
  have h1:ip ^ d*φ (Ft v)=ip ^ d*φ λj=>sm n c' T j:=by
   show _=kC n φ ip d T c'
   rw[<- hc',<- hmul];grind
  have h2:zc R ((p:Int) ^ d)*(ip ^ d*φ (Ft v))=zc R ((p:Int) ^ d)*(ip ^ d*φ λj=>sm n c' T j):=by rw[h1]
  grind
 refine⟨c',λj=>?_⟩
 by_cases hj:j<n
 ·exact B.inj _ _ key j hj
 ·rw[iA (q:=0) λi hi=>L.st.jk i hi j (by omega)]
  unfold Ft;rw[W8 (by omega),h0 (j-1) (by omega)]
theorem uV.lead (X:Xr f n p φ ip)(L:uV n p φ ip d T)(hp:2<=p){s:Nat->Nat}(es:∀i,i<n->T i i=(p:Int) ^ s i):∀i,i<n->(∀k,k<i->s i<=s k)/\∀v,gK n T v->(∀j,i<j->v j=0)->∀j,(p:Int) ^ s i ∣ v j
 | 0,hi=>by
  refine⟨λk hk=>by omega,λv hv h0 j=>?_⟩
  obtain⟨a,e,_,_⟩:=gK.cut L.st hv hi h0;by_cases z:j=0
  ·rw[z,e,es 0 hi];exact⟨a,Zs _ _⟩
  ·rw[h0 j (by omega)];exact⟨0,by simp⟩
 | i+1,hi=>by
  obtain⟨mono,ih⟩:=uV.lead X L hp es i (by omega)
  have jk:=L.st.jk;have T4:∀j,i<j->T i j=0:=jk i (by omega)
  have hdT:=ih (T i) (gK.row (by omega)) T4
  have hsh:=uV.shift X L (gK.row (T:=T) (show i<n by omega)) (λj hj=>jk i (by omega) j (by omega)) (by omega)
  have XH:∀j,i+1<j->Ft (T i) j=0:=λj hj=>by unfold Ft;rw[W8 (by omega)];exact T4 (j-1) (by omega)
  obtain⟨a,ea,_,_⟩:=gK.cut L.st hsh hi XH;have e1:Ft (T i) (i+1)=(p:Int) ^ s i:=by unfold Ft;rw[W8 (by omega),Wl,es i (by omega)]
  rw[e1,es (i+1) hi] at ea;have le:s (i+1)<=s i:=xo hp ⟨a,by rw[ea];ac_rfl⟩
  have T5:∀k:Nat,(p:Int) ^ k≠0:=λk=>Int.pow_ne_zero (by omega)
  have hm:(p:Int) ^ s i=(p:Int) ^ (s i-s (i+1))*(p:Int) ^ s (i+1):=by rw[<- Zw,Nat.sub_add_cancel le]
  have Vn:∀j,(p:Int) ^ s i ∣ Ft (T i) j:=λj=>by
   unfold Ft;split
   ·exact⟨0,by simp⟩
   ·exact hdT _
  have hw:gK n T λj=>(p:Int) ^ (s i-s (i+1))*T (i+1) j-Ft (T i) j:=
   gK.of (gK.add (-1) hsh (gK.add ((p:Int) ^ (s i-s (i+1))) (gK.row (T:=T) hi) (v:=T (i+1)) (w:=λ_=>0) ⟨λ_=>0,λj=>gU.symm⟩)) λj=>by grind
  have hwd:=ih _ hw λj hj=>by
   by_cases z:j=i+1
   ·subst z
    rw[e1,es (i+1) hi,hm];omega
   ·rw[jk (i+1) hi j (by omega),XH j (by omega)];simp
  have hTd:∀j,(p:Int) ^ s (i+1) ∣ T (i+1) j:=λj=>by
   obtain⟨x,hx⟩:=hwd j;obtain⟨y,hy⟩:=Vn j;have h1:(p:Int) ^ (s i-s (i+1))*T (i+1) j=(p:Int) ^ (s i-s (i+1))*((p:Int) ^ s (i+1)*(x+y)):=by
    have:(p:Int) ^ (s i-s (i+1))*T (i+1) j=(p:Int) ^ s i*(x+y):=by rw[Int.mul_add,<- hx,<- hy];omega
    rw[this,hm];ac_rfl
   exact⟨x+y,Ze (T5 _) h1⟩
  refine⟨λk hk=>?_,λv hv h0 j=>?_⟩
  ·by_cases z:k=i
   ·rw[z];exact le
   ·exact Yn le (mono k (by omega))
  ·obtain⟨b,eb,hv',h0'⟩:=gK.cut L.st hv hi h0
   obtain⟨x,hx⟩:=ih _ hv' (λj hj=>h0' j (by omega)) j
   obtain⟨y,hy⟩:=hTd j;refine⟨b*y+(p:Int) ^ (s i-s (i+1))*x,?_⟩
   have:v j=b*T (i+1) j+(p:Int) ^ s i*x:=by omega
   rw[this,hy,hm];grind
theorem uV.JE (X:Xr f n p φ ip)(L:uV n p φ ip d T)(hp:2<=p){s:Nat->Nat}(es:∀i,i<n->T i i=(p:Int) ^ s i){i:Nat}(hi:i<n)(j:Nat):T i i ∣ T i j:=by
 rw[es i hi];exact(uV.lead X L hp es i hi).2 (T i) (gK.row hi) (L.st.jk i hi) j
end
end L2
namespace K60
open PySem L2 Alg
variable {P:F?} {w:H?} {K:bE} {mg:Str->Option l?} {base:O?}
theorem Yk_(l:List Str)(h:Yo l:=by decide +kernel):Yo l:=h
abbrev XI:List Str:=["_law_basis","_law_row","_law_p","_law_most","_law_rest","_law_d","_law_g","_law_k","_law_step","_law_often"]
abbrev XJ:List Str:=["_law_f","_law_number_here","_law_found","_law_step","_law_one"]
abbrev XM:List Str:=["_law_found","_law_n","_law_p","_law_i","_law_g","_law_k"]
abbrev T6:List Str:=["rows","p","many","width","left","place","at","lead_row"]
abbrev XN:List Str:=["rows","p","depth","power","left","told","place","lead"]
abbrev XO:List Str:=["_law_j","_law_rest","_law_often","_law_step","_law_g"]
abbrev XQ:List Str:=["_law_p","_law_n","_law_high","_law_unit","_law_index"]
abbrev XR:List Str:=["_law_f","_law_g","_law_many","_law_one","_law_other"]
abbrev XS:List Str:=["f","p","lattice","depth","told","place","row","lead"]
abbrev XT:List Str:=["table","p","low","ideal","rows","line","row","one"]
abbrev ME:List Str:=["f","p","degree","lattice","depth","found","deeper"]
abbrev PD:List Str:=["rows","lead","place","power","told","row","often"]
abbrev PF:List Str:=["rows","place","p","power","those","row","back"]
abbrev MF:List Str:=["_law_g","_law_k","_law_n","_law_p","_law_most"]
abbrev JF:List Str:=["_law_basis","_law_row","_law_p","_law_most"]
abbrev JG:List Str:=["_law_p","_law_one","_law_other","_law_most"]
abbrev PJ:List Str:=["_law_basis","_law_n","_law_p","_law_most"]
abbrev JH:List Str:=["_law_p","_law_n","_law_high","_law_unit"]
abbrev PL:List Str:=["table","p","many","told","reached"]
abbrev JI:List Str:=["_law_cell","_law_most","_law_kind"]
abbrev JJ:List Str:=["_law_p","_law_cell","_law_most"]
abbrev JK:List Str:=["_law_p","_law_rest","_law_many"]
abbrev PM:List Str:=["number","more","often","power"]
abbrev PN:List Str:=["table","one","other","p","row"]
abbrev JL:List Str:=["_law_basis","_law_n","_law_p"]
abbrev JM:List Str:=["_law_f","_law_p","_law_basis"]
abbrev JN:List Str:=["_law_found","_law_n","_law_p"]
abbrev Aj:List Str:=["_law_number_here","_law_many"]
abbrev JO:List Str:=["_law_p","_law_g","_law_high"]
abbrev JP:List Str:=["rows","lead","place","power"]
abbrev DM:List Str:=["row","lead_row","place","p"]
abbrev PU:List Str:=["one","lattice","f","power"]
abbrev JQ:List Str:=["_law_f","_law_number_here"]
abbrev DN:List Str:=["_law_number_here","_law_p"]
abbrev PV:List Str:=["one","other","factor","p"]
abbrev JR:List Str:=["rows","place","p","power"]
abbrev JS:List Str:=["f","one","other","power"]
abbrev JT:List Str:=["table","one","other","p"]
abbrev Ak:List Str:=["width","place","number"]
abbrev GG:List Str:=["_law_one","_law_other"]
abbrev JU:List Str:=["table","at","divisor"]
abbrev xq:List Str:=["_law_script","_law_k"]
abbrev JV:List Str:=["table","row","n","p"]
abbrev DO:List Str:=["f","lattice","power"]
abbrev GH:List Str:=["rows","p","depth"]
abbrev JW:List Str:=["_law_f","_law_p"]
abbrev JX:List Str:=["row","place","p"]
abbrev nA:List Str:=["_law_f","_law_g"]
abbrev Al:List Str:=["numbers","rows"]
abbrev GI:List Str:=["lattice","row"]
abbrev JY:List Str:=["rows","place"]
abbrev DP:List Str:=["_law_numbers"]
abbrev GJ:List Str:=["number","p"]
abbrev DQ:List Str:=["_law_found"]
abbrev DR:List Str:=["f","place"]
abbrev yh:List Str:=["table","p"]
abbrev sU:List Str:=["k","p"]
abbrev nC:List Str:=["f","g"]
abbrev jL:List Str:=["f","p"]
abbrev jm:List Str:=["thing"]
abbrev Rq(a:o?):Option V:=j? (.ref a)
abbrev Iq(i:Int):Option V:=j? (.int i)
local macro_rules | `(tactic| walk_at "sc") => `(tactic| exact⟨rfl, rfl, rfl, by decide +kernel, rfl, by decide +kernel, by decide +kernel⟩)
local macro_rules | `(tactic| walk_at "rd") => `(tactic| repeat ((fail_if_success with_reducible refine fU ?_ ?_); first|refine⟨_, rfl, ?_⟩|refine⟨_, _, rfl, rfl, ?_⟩|refine⟨_, _, rfl, rfl, show(_ : Int) ≠ 0 by decide, ?_⟩|refine⟨_, _, rfl, rfl, show nj _ _ from lZ (by decide) (by decide), ?_⟩|refine⟨_, _, rfl, rfl, show nj _ _ from gQ (by decide) (by decide), ?_⟩|refine⟨_, _, rfl, rfl, show yR _ _ from(Bd.small (by decide) (by decide)).dv (by decide), ?_⟩|refine⟨_, _, rfl, rfl, show Ow _ _ from⟨by decide, by decide, by decide⟩, ?_⟩|refine⟨show(_ : Int) ≠ 0 by decide, ?_⟩|refine⟨show nj _ _ from lZ (by decide) (by decide), ?_⟩|refine⟨show nj _ _ from gQ (by decide) (by decide), ?_⟩|refine⟨show yR _ _ from(Bd.small (by decide) (by decide)).dv (by decide), ?_⟩|refine⟨show Ow _ _ from⟨by decide, by decide, by decide⟩, ?_⟩|refine⟨show Ox _ _ = true from rfl, ?_⟩|refine⟨show isPlain _ = true from rfl, ?_⟩|refine⟨show Wr _ <= K? from aZ rfl, ?_⟩))
def top (i:Nat):Q?:=PySem.Challenge.pw_branchdepth_k60_a_basis_is_closed.main.body.getD i (.Pass ⟨0,0,0,0⟩)
abbrev qL:Q?:=top 8
theorem BQ:aM jm jm (ao qL):=by walk_at "sc"
abbrev qM:Q?:=top 9
theorem BR:aM ["k"] ["k"] (ao qM):=by walk_at "sc"
abbrev jM:Q?:=top 10
theorem gh:aM ["k","n","told","turn"] ["k","n"] (ao jM):=by walk_at "sc"
abbrev nZ:Q?:=top 11
theorem jn:aM ["k","p","size"] sU (ao nZ):=by walk_at "sc"
abbrev iB:Q?:=top 12
theorem sW:aM sU sU (ao iB):=by walk_at "sc"
abbrev i9:Q?:=top 14
theorem lG:aM ["thing","part"] jm (ao i9):=by walk_at "sc"
abbrev qN:Q?:=top 15
theorem BS:aM jm jm (ao qN):=by walk_at "sc"
abbrev dY:Q?:=top 16
theorem dM:aM ["numbers","many"] ["numbers"] (ao dY):=by walk_at "sc"
abbrev kD:Q?:=top 17
theorem xr:aM DR DR (ao kD):=by walk_at "sc"
abbrev mF:Q?:=top 18
theorem fc:aM ["f","g","product","at","one","behind","other"] nC (ao mF):=by walk_at "sc"
abbrev pH:Q?:=top 19
theorem DS:aM ["f"] ["f"] (ao pH):=by walk_at "sc"
abbrev uc:Q?:=top 20
theorem fC:aM ["f","g","rest","quotient","degree","place","lead","at","part"] nC (ao uc):=by walk_at "sc"
abbrev i_:Q?:=top 22
theorem iC:aM ["table","at","row"] ["table"] (ao i_):=by walk_at "sc"
abbrev iD:Q?:=top 23
theorem n_:aM ["table","at","divisor","top","others"] JU (ao iD):=by walk_at "sc"
abbrev kE:Q?:=top 24
theorem dF:aM ["table","rows","sign","lead","at"] ["table"] (ao kE):=by walk_at "sc"
abbrev j_:Q?:=top 25
theorem fO:aM ["f","g","degree","table","rest","turn"] nC (ao j_):=by walk_at "sc"
abbrev jN:Q?:=top 26
theorem ja:aM ["f","degree","told"] ["f"] (ao jN):=by walk_at "sc"
abbrev gu:Q?:=top 31
theorem pX:aM jm jm (ao gu):=by walk_at "sc"
abbrev mG:Q?:=top 32
theorem qk:aM ["f","p","size"] jL (ao mG):=by walk_at "sc"
abbrev gv:Q?:=top 33
theorem ji:aM ["f","p","size"] jL (ao gv):=by walk_at "sc"
abbrev gX:Q?:=top 35
theorem ny:aM ["row","lead_row","place","p","factor"] DM (ao gX):=by walk_at "sc"
abbrev gi:Q?:=top 36
theorem iE:aM ["row","place","p","back"] JX (ao gi):=by walk_at "sc"
abbrev mH:Q?:=top 37
theorem kF:aM ["rows","place","at","row"] JY (ao mH):=by walk_at "sc"
abbrev iY:Q?:=top 38
theorem gH:aM T6 ["rows","p"] (ao iY):=by walk_at "sc"
abbrev ud:Q?:=top 40
theorem gw:aM ["k","power","one","other","factor","next_factor","quotient"] ["k","power"] (ao ud):=by walk_at "sc"
abbrev mJ:Q?:=top 41
theorem BU:aM Ak Ak (ao mJ):=by walk_at "sc"
abbrev fP:Q?:=top 42
theorem mK:aM PF JR (ao fP):=by walk_at "sc"
abbrev lH:Q?:=top 43
theorem jO:aM PD JP (ao lH):=by walk_at "sc"
abbrev jo:Q?:=top 44
theorem dZ:aM XN GH (ao jo):=by walk_at "sc"
abbrev iP:Q?:=top 45
theorem eB:aM ["lattice","row","left","told","place","often"] GI (ao iP):=by walk_at "sc"
abbrev lI:Q?:=top 46
theorem GK:aM Al Al (ao lI):=by walk_at "sc"
abbrev jq:Q?:=top 48
theorem kG:aM ["f","one","other","power","product","rest"] JS (ao jq):=by walk_at "sc"
abbrev iF:Q?:=top 49
theorem BV:aM DO DO (ao iF):=by walk_at "sc"
abbrev jP:Q?:=top 50
theorem uW:aM PN JT (ao jP):=by walk_at "sc"
abbrev qO:Q?:=top 51
theorem kc:aM ["table","row","n","p","told","turn"] JV (ao qO):=by walk_at "sc"
abbrev oh:Q?:=top 52
theorem jz:aM PL yh (ao oh):=by walk_at "sc"
abbrev iQ:Q?:=top 53
theorem cT:aM XT yh (ao iQ):=by walk_at "sc"
abbrev pI:Q?:=top 54
theorem gY:aM ME jL (ao pI):=by walk_at "sc"
abbrev iR:Q?:=top 55
theorem dG:aM XS jL (ao iR):=by walk_at "sc"
abbrev oi:Q?:=top 57
theorem Am:aM xq xq (ao oi):=by walk_at "sc"
abbrev qP:Q?:=top 58
theorem fE:aM ["_law_script","_law_k","_law_x","_law_total","_law_j"] xq (ao qP):=by walk_at "sc"
abbrev qQ:Q?:=top 59
theorem uX:aM GG GG (ao qQ):=by walk_at "sc"
abbrev oj:Q?:=top 60
theorem mL:aM ["_law_numbers","_law_many"] DP (ao oj):=by walk_at "sc"
abbrev ue:Q?:=top 61
theorem mO:aM ["_law_f","_law_g","_law_found","_law_i","_law_j"] nA (ao ue):=by walk_at "sc"
abbrev sX:Q?:=top 62
theorem pK:aM XR nA (ao sX):=by walk_at "sc"
abbrev xu:Q?:=top 63
theorem iG:aM ["_law_cell","_law_most","_law_kind","_law_found","_law_many","_law_rest","_law_base","_law_k"] JI (ao xu):=by walk_at "sc"
abbrev kg:Q?:=top 64
theorem An:aM DQ DQ (ao kg):=by walk_at "sc"
abbrev uf:Q?:=top 65
theorem mP:aM ["_law_number_here","_law_many","_law_found","_law_k"] Aj (ao uf):=by walk_at "sc"
abbrev om:Q?:=top 66
theorem gZ:aM ["_law_f","_law_g","_law_rest","_law_k","_law_number_here","_law_j"] nA (ao om):=by walk_at "sc"
abbrev xw:Q?:=top 67
theorem pL:aM ["_law_number_here","_law_p","_law_found"] DN (ao xw):=by walk_at "sc"
abbrev jr:Q?:=top 68
theorem qm:aM XQ JH (ao jr):=by walk_at "sc"
abbrev ug:Q?:=top 69
theorem cQ:aM ["_law_p","_law_rest","_law_many","_law_zeros_here","_law_f","_law_k","_law_number_here","_law_index","_law_i","_law_j"] JK (ao ug):=by walk_at "sc"
abbrev iS:Q?:=top 70
theorem oq:aM ["_law_p","_law_g","_law_high","_law_n"] JO (ao iS):=by walk_at "sc"
abbrev pM:Q?:=top 71
theorem iH:aM XJ JQ (ao pM):=by walk_at "sc"
abbrev uh:Q?:=top 72
theorem fF:aM ["_law_p","_law_cell","_law_most","_law_n","_law_rest","_law_high","_law_unit","_law_g"] JJ (ao uh):=by walk_at "sc"
abbrev um:Q?:=top 73
theorem gx:aM ["_law_p","_law_one","_law_other","_law_most","_law_f","_law_index","_law_g","_law_more","_law_both"] JG (ao um):=by walk_at "sc"
abbrev jQ:Q?:=top 74
theorem zp:aM PJ JL (ao jQ):=by walk_at "sc"
abbrev jt:Q?:=top 75
theorem dw:aM XI JF (ao jt):=by walk_at "sc"
abbrev ju:Q?:=top 76
theorem iT:aM XM JN (ao ju):=by walk_at "sc"
abbrev qR:Q?:=top 77
theorem fG:aM ["_law_f","_law_p","_law_basis","_law_n","_law_most","_law_rows_here","_law_i","_law_j","_law_both"] JM (ao qR):=by walk_at "sc"
abbrev ou:Q?:=top 78
theorem mQ:aM ["_law_f","_law_p","e","_law_others"] JW (ao ou):=by walk_at "sc"
abbrev sY:Q?:=top 79
theorem mR:aM ["_law_script","_law_p","_law_f","_law_index","_law_number_here","_law_handed","_law_k","_law_found","_law_one"] ["_law_script"] (ao sY):=by walk_at "sc"
structure ia (mg:Str->Option l?):Prop where
 «ValueError»:mg "ValueError"=q?
 «abs»:mg "abs"=q?
 «all»:mg "all"=q?
 «any»:mg "any"=q?
 «bool»:mg "bool"=q?
 «enumerate»:mg "enumerate"=q?
 «int»:mg "int"=q?
 «isinstance»:mg "isinstance"=q?
 «len»:mg "len"=q?
 «list»:mg "list"=q?
 «max»:mg "max"=q?
 «min»:mg "min"=q?
 «range»:mg "range"=q?
 «reversed»:mg "reversed"=q?
 «sum»:mg "sum"=q?
 «tuple»:mg "tuple"=q?
 «zip»:mg "zip"=q?
def uo (K:bE):Sp:=λvs H Q _=>∃(x:V) (T:String),vs=[x]/\EU K H x T/\Q (.bl (decide (T="int"))) H
def Ao:Sp:=λvs H Q _=>∃k p:Int,vs=[.int k,.int p]/\k≠0/\2<=p/\p<2 ^ 62/\∀(v:Nat) (m:Int) (r:o?) (H':Hp),aH H H'->k=p ^ v*m->¬ p ∣ m->H' r=j? (.tup [.int v,.int m])->Q (.ref r) H'
def Sq (p k:Int)(x:V):Prop:=(k=0/\x=.eZ)\/(k≠0/\∃v:Nat,fq p k v/\x=.int v)
def vN:Sp:=λvs H Q _=>∃k p:Int,vs=[.int k,.int p]/\2<=p/\p<2 ^ 62/\∀(x:V) (H':Hp),aH H H'->Sq p k x->Q x H'
section
theorem BW (B:ia mg)(F:Src K mg "is_whole" qL jm):b_ P w K mg base 1 "is_whole" jm (uo K):=by
 refine F.ok BQ (λvs H Q E h=>?_) (λf cdv A outer s H vs Q E hr h=>?_)
 ·obtain⟨x,T,rfl,_⟩:=h;rfl
 obtain⟨x,T,rfl,ty,q⟩:=h;refine⟨_,au (aJ (lQ (aE (cR (K:=K) rfl) rfl B.isinstance bX (af (pv 0) (af (gM (v:=.ty "int") rfl B.int Df rfl) ah))) (lO (C6 (aE (cR (K:=K) rfl) rfl B.isinstance bX (af (pv 0) (af (gM (v:=.ty "bool") rfl B.bool zM rfl) ah))))))),?_⟩
 cases ty with
 | eZ=>exact⟨_,rfl,_,_,"int",false,rfl,.eZ,by with_unfolding_all rfl,_,rfl,q⟩
 | bl b=>exact⟨_,rfl,_,_,"int",true,rfl,.bl b,by with_unfolding_all rfl,_,rfl,_,rfl,_,_,"bool",true,rfl,.bl b,rfl,_,rfl,q⟩
 | int i=>exact⟨_,rfl,_,_,"int",true,rfl,.int i,rfl,_,rfl,_,rfl,_,_,"bool",false,rfl,.int i,by with_unfolding_all rfl,_,rfl,q⟩
 | str b=>exact⟨_,rfl,_,_,"int",false,rfl,.str b,by with_unfolding_all rfl,_,rfl,q⟩
 | lst e=>exact⟨_,rfl,_,_,"int",false,rfl,.lst e,by with_unfolding_all rfl,_,rfl,q⟩
 | tup e=>exact⟨_,rfl,_,_,"int",false,rfl,.tup e,by with_unfolding_all rfl,_,rfl,q⟩
theorem Aq (F:Src K mg "taken_out" nZ sU):b_ P w K mg base 1 "taken_out" sU Ao:=by
  refine F.ok jn (λvs H Q E h=>?_) (λf cdv A outer s H vs Q E hr h=>?_)
  . obtain⟨a,b,rfl,_⟩:=h;rfl
  obtain⟨k,p,rfl,h0,hp,hp2,q⟩:=h;refine⟨_,ai (aD (i:=2) jn.nd rfl (z? rfl) ak)
    (ai (eV D? (aW iV (av bK (pv 0) (pv 1)) ak (bD _))
      (ai (aD (i:=0) jn.nd rfl (z? rfl) (av bU (pv 0) (pv 1)))
      (au (zD (i:=2) jn.nd rfl (z? rfl) ak zF))))
    (au (aJ (i8 (af (pv 2) (af (pv 0) ah)))))),?_⟩
  refine nE (λσ H2=>H2=H/\∃(m:Int) (v:Nat),σ=[j? (.int m),j? (.int p),j? (.int v)]/\m≠0/\k=p ^ v*m) (λσ _=>match σ with|some (.int m)::_=>m.natAbs|_=>0) ?_ ?_ ?_
  . exact⟨rfl,k,0,rfl,h0,by simp⟩
  . rintro σ H2 ⟨rfl,m,v,rfl,hm,hk⟩
    refine⟨_,rfl,_,rfl,_,_,rfl,rfl,show p≠0 by omega,rfl,_,rfl,?_⟩
    refine fU (λc=>?_) (λc=>?_)
    . have c':m.fmod p=0:=V.int.inj (Jb c)
      obtain⟨m',rfl⟩:=(nI (by omega)).mp c'
      have hm':m'≠0:=λz=>hm (by rw[z];simp)
      refine⟨_,rfl,_,rfl,_,_,rfl,rfl,(Bd.small (by omega) (by omega)).dv (by omega),?_⟩
      refine⟨_,rfl,_,_,rfl,rfl,⟨rfl,m',v+1,?_,hm',?_⟩,?_⟩
      . show [j? (V.int ((p*m').fdiv p)),j? (V.int p),j? (V.int ((v:Int)+1))]=_
        rw[jG (show p≠0 by omega)]
        rfl
      . rw[hk,Za];ac_rfl
      . show((p*m').fdiv p).natAbs<(p*m').natAbs
        rw[jG (show p≠0 by omega),Zf]
        have h2:2<=p.natAbs:=by omega
        have h3:0<m'.natAbs:=by omega
        calc m'.natAbs<2*m'.natAbs:=by omega
          _<=p.natAbs*m'.natAbs:=Yx _ h2
    . have c':¬ p ∣ m:=λz=>c (Ja (Jd V.int ((nI (by omega)).mpr z)))
      refine⟨_,rfl,_,rfl,aZ rfl,λr hr'=>?_⟩
      exact q v m r _ (aA hr' _) hk c' ay
  . rintro σ H Q Q' f ⟨v,e,v2,e2,i,j,e3,e4,c,s,k,ek,h⟩
    exact⟨v,e,v2,e2,i,j,e3,e4,c,s,k,ek,f _ _ h⟩
theorem sZ (ow:b_ P w K mg base 1 "taken_out" sU Ao)(F:Src K mg "size_of_number" iB sU):b_ P w K mg base 2 "size_of_number" sU vN:=by
 refine F.ok sW (λvs H Q E h=>?_) (λf cdv A outer s H vs Q E hr h=>?_)
 ·obtain⟨a,b,rfl,_⟩:=h;rfl
 obtain⟨k,p,rfl,hp,hp2,q⟩:=h;refine⟨_,ai (cW (aW iV (pv 0) ak (bD _))
   (au (aJ tL))
   (bY))
  (au (aJ (bC (l_ (K:=K) rfl) (aF ow hr (af (pv 0) (af (pv 1) ah))) ak (λ_ _=>rfl)))),?_⟩
 refine⟨_,rfl,rfl,_,rfl,?_⟩
 refine fU (λc=>?_) (λc=>?_)
 ·exact q _ H (aH.refl H) (.inl ⟨V.int.inj (Jb c),rfl⟩)
 ·have h0:k≠0:=λz=>c (Ja (Jd V.int z))
  refine⟨_,rfl,_,rfl,k,p,rfl,h0,hp,hp2,λv m r H' g hk hm e=>?_⟩
  exact⟨_,_,_,_,rfl,rfl,jv.of e,rfl,q _ H' g (.inr ⟨h0,v,fq.of (by omega) hk hm,rfl⟩)⟩
end
section
theorem vg (B:ia mg)(F:Src K mg "number_power" jM ["k","n"]):b_ P w K mg base 1 "number_power" ["k","n"] wZ:=by
 refine F.ok gh (λvs H Q E h=>?_) (λfa cdv A outer s H vs Q E hr h=>?_)
 ·obtain⟨k,n,rfl,_⟩:=h;rfl
 obtain⟨k,n,rfl,hk,hn,q⟩:=h;refine⟨_,ai (aD (i:=2) gh.nd rfl (z? rfl) ak)
  (ai (cD D? rfl (bN rfl B.range (af (pv 1) ah)) (aB (i:=3) gh.nd rfl (z? rfl))
   (au (aD (i:=2) gh.nd rfl (z? rfl) (av aX (pv 2) (pv 0)))))
  (au (aJ (pv 2)))),?_⟩
 walk_at "rd"
 refine⟨by omega,by omega,?_⟩
 have b:∀i:Nat,i<=100->Bd 640 ((k ^ i:Nat):Int):=λi hi=>by
  show((k ^ i:Nat):Int).natAbs<_
  rw[Int.natAbs_natCast];refine Z4 (Z2 (show k<=2 ^ 6 by omega) i) ?_
  rw[<- Wk];exact Wf (by decide) (by omega)
 rw[Yf];refine cH (λi σ H2=>H2=H/\∃o,σ=[j? (.int k),j? (.int n),Iq ((k ^ i:Nat)),o]) ⟨rfl,_,rfl⟩ ?_ ?_
 ·rintro i σ H2 hi ⟨rfl,o,rfl⟩
  refine⟨_,rfl,_,rfl,_,_,rfl,rfl,(b i (by omega)).ok (Bd.small (x:=(k:Int)) (by omega) (by omega)),?_⟩
  have e:((k ^ (i+1):Nat):Int)=((k ^ i:Nat):Int)*(k:Int):=by rw[Zv,Zy]
  rw[e];exact⟨rfl,_,rfl⟩
 ·rintro σ H2 ⟨rfl,o,rfl⟩
  exact⟨_,rfl,q⟩
end
def Ar (ls:List (List Int)):Mx:=λi j=>(ls.getD i []).getD j 0
structure T7 (m:Nat)(ts:List LP):Prop where
 len:ts.length=m
 row:∀t∈ts,t.2.length=m
theorem qS {ts:List LP}{i:Nat}(hi:i<ts.length)(j:Nat):Ar (lvals ts) i j=ts[i].2.getD j 0:=by
 have:(lvals ts).getD i []=ts[i].2:=by simp[Yb,hi]
 unfold Ar;rw[this]
theorem uq {xs:List Int}{j:Nat}(h:j<xs.length):qe (xs.map V.int) (j:Int)=j? (.int (xs.getD j 0)):=by
 rw[iW (by omega) (by rw[Ya];omega)]
 simp[Yb,h]
def JZ (K:bE):Sp:=λvs H Q _=>∃(p:o?) (ts:List LP),vs=[.ref p]/\CU H p ts/\(∀t∈ts,0<t.2.length)/\ts.length<=1000/\
 (∀(t:Nat) (H':Hp),aH H H'->t<ts.length->Ar (lvals ts) t 0≠0->Q (.int (t:Int)) H')/\∀H',aH H H'->(∀i,i<ts.length->Ar (lvals ts) i 0=0)->Q .eZ H'
section
theorem ur (B:ia mg)(F:Src K mg "place_of_lead" i_ ["table"]):b_ P w K mg base 1 "place_of_lead" ["table"] (JZ K):=by
 refine F.ok iC (λvs H Q E h=>?_) (λf cdv A outer s' H vs Q E hr h=>?_)
 ·obtain⟨p,ts,rfl,_⟩:=h;rfl
 obtain⟨p,ts,rfl,hT,hp,lt,q1,q2⟩:=h;refine⟨_,ai (cD D? rfl (iX (K:=K) rfl rfl B.enumerate (af (pv 0) ah)) (cP (n:=2) (K:=K) rfl rfl (aS (aB (i:=1) iC.nd rfl (z? rfl)) (aS (aB (i:=2) iC.nd rfl (z? rfl)) cO)))
   (au (cW (aW kY (bC (aG (K:=K) rfl) (pv 2) ak (λ_ _=>rfl)) ak (bD _))
    (au (aJ (pv 1)))
    (bY))))
  (au (aJ tL)),?_⟩
 have lrl:(lrefs ts).length=ts.length:=Ya _;refine⟨_,rfl,p,rfl,⟨_,hT.sql⟩,lB (st:=0) (xs:=lrefs ts) (λi σ H2=>aH H H2/\(∃o1 o2,σ=[Rq p,o1,o2])/\∀j,j<i->Ar (lvals ts) j 0=0) ⟨aH.refl _,⟨_,_,rfl⟩,λj hj=>Jf hj (by omega)⟩ (λi σ H2 _ h=>(hT.same h.1).sql) ?_ ?_⟩
 ·rintro i x σ H2 r hx ⟨gg,⟨o1,o2,rfl⟩,hz⟩ hr'
  obtain⟨hi,rfl⟩:=y9 hx;have gr:=aA hr' (.tup [.int ((0+i:Nat):Int),.ref ts[i].1]);have g2:=gg.trans gr;have e1:=g2 _ _ (hT.it ts[i] (Yz _));have a0:=uq (xs:=ts[i].2) (j:=0) (hp ts[i] (Yz _));have em:=qS hi 0;refine⟨r,_,rfl,jv.of ay,rfl,_,_,rfl,_,_,rfl,rfl,?_⟩
  refine⟨_,rfl,ts[i].1,_,_,_,rfl,rfl,aP.of e1,a0,rfl,_,rfl,?_⟩
  rw[<- em];by_cases c:Ar (lvals ts) i 0=0
  ·refine k8 (Jd V.int c) ⟨g2,⟨_,_,rfl⟩,λj hj=>?_⟩
   by_cases e:j=i
   ·rw[e];exact c
   ·exact hz j (by omega)
  ·refine Bh (λz=>c (V.int.inj z)) ⟨_,rfl,?_⟩
   simp only[W2] at g2 ⊢
   exact q1 i _ g2 hi c
 ·rintro σ H2 ⟨gg,_,hz⟩
  exact q2 H2 gg λi hi=>hz i (by rw[lrl];exact hi)
end
def Lj (ts:List LP)(t m:Nat)(d:Int)(a:Nat):List Int:=(Ym m).map λc=>(Ij (λa c=>Ar (lvals ts) (yf t a) c) a c).fdiv d
def BX (K:bE):Sp:=λvs H Q _=>∃(p:o?) (ts:List LP) (t m:Nat) (d:Int),vs=[.ref p,.int (t:Int),.int d]/\CU H p ts/\T7 (m+1) ts/\t<m+1/\m<=100/\d≠0/\Bd 9000 d/\(∀i j,i<m+1->j<m+1->Bd 9000 (Ar (lvals ts) i j))/\
 ∀(q:o?) (us:List LP) (H':Hp),aH H H'->H q=q?->CU H' q us->lvals us=(Ym m).map (Lj ts t m d)->Q (.ref q) H'
theorem DT {xs:List V}{k:Nat}(h:k<=xs.length):iw xs (j? (k:Int)) q?=xs.drop k:=by
 unfold iw;have e1:HT.pP xs.length 0 (j? (k:Int))=k:=by rw[HT.lV];omega
 have e2:HT.pP xs.length xs.length q?=xs.length:=rfl;rw[e1,e2,Zn (by rw[Y8];exact Yd _)]
theorem xx {xs:List V}{k:Nat}(h:k<=xs.length):iw xs q? (j? (k:Int))=xs.take k:=by
 unfold iw;have e1:HT.pP xs.length 0 q?=0:=rfl;have e2:HT.pP xs.length xs.length (j? (k:Int))=k:=by rw[HT.lV];omega
 rw[e1,e2,Nat.sub_zero,List.drop_zero]
section
theorem PX {ts:List LP}{t a:Nat}(ht:t<ts.length):(ts.take t++ts.drop (t+1))[a]?=ts[c8 t a]?:=by
 unfold c8;by_cases c:a<t
 ·rw[W9 c,Y2 (by rw[Ys];omega),List.getElem?_take,W9 c]
 ·rw[W8 c,Y4 (by rw[Ys];omega),Ys,List.getElem?_drop]
  congr 1
  omega
theorem BY (B:ia mg)(F:Src K mg "lessened" iD JU):b_ P w K mg base 1 "lessened" JU (BX K):=by
 refine F.ok n_ (λvs H Q E h=>?_) (λf cdv A outer s' H vs Q E hr h=>?_)
 ·obtain⟨p,ts,t,m,d,rfl,_⟩:=h;rfl
 obtain⟨p,ts,t,m,d,rfl,hT,sq,ht,hm,d0,bd,bT,q⟩:=h;refine⟨_,ai (aD (i:=3) n_.nd rfl (Or.inr rfl) (bC (aG (K:=K) rfl) (pv 0) (pv 1) (λ_ _=>rfl)))
  (ai (aD (i:=4) n_.nd rfl (z? rfl) (av gm (eW (eX (K:=K) rfl) (pv 0) gb (gc (pv 1))) (eW (eX (K:=K) rfl) (pv 0) (gc (av b9 (pv 1) ak)) gb)))
  (au (aJ (sF (f9 (N:=["row","top","divisor"]) (sl:=[q?,j? 3,j? 2]) "row" (ao iD) ["table","at","divisor","top","others"] rfl rfl (by decide +kernel)) rfl (bM (K:=K) rfl (pv 4)) (λ_ _ _ _ _=>(aB (i:=0) (Yk_ ["row","top","divisor"]) rfl (Or.inr rfl))) (λ_ _ _ _ _=>aU) (λ_ _ _ _ _=>(b8 (aI (N:=["place","top","row","divisor"]) (sl:=[q?,j? 1,j? 0,j? 2]) (nQ (zZ ((cB iD).getD 2 (.Pass ⟨0,0,0,0⟩))) (ao iD)) ["row","top","divisor"] rfl rfl (by decide +kernel)) rfl (tM rfl B.range (af ak (af (aE (aN (K:=K) rfl) rfl B.len bI (af (pv 0) ah)) ah))) (λ_ _ _ _ _=>(aB (i:=0) (Yk_ ["place","top","row","divisor"]) rfl (z? rfl))) (λ_ _ _ _ _=>aU) (λ_ _ _ _ _=>(av bU (av bO (av aX (bC (aG (K:=K) rfl) (pv 1) ak (λ_ _=>rfl)) (bC (aG (K:=K) rfl) (pv 2) (pv 0) (λ_ _=>rfl))) (av aX (bC (aG (K:=K) rfl) (pv 2) ak (λ_ _=>rfl)) (bC (aG (K:=K) rfl) (pv 1) (pv 0) (λ_ _=>rfl)))) (pv 3))))))))),?_⟩
 have lrl:(lrefs ts).length=m+1:=by rw[Ya];exact sq.len
 have Vo:t<ts.length:=by rw[sq.len];exact ht
 have MG:qe (lrefs ts) (t:Int)=j? (.ref ts[t].1):=by
  rw[iW (by omega) (by rw[lrl];omega)]
  simp
 refine⟨_,rfl,_,rfl,p,_,_,_,rfl,rfl,hT.sql,MG,?_⟩
 walk_at "rd"
 refine⟨p,_,rfl,hT.sql,λp1 n1=>?_⟩
 rw[xx (by rw[lrl];omega)]
 have k1:=aA n1 (.lst ((lrefs ts).take t));refine⟨_,rfl,_,rfl,_,_,rfl,rfl,_,rfl,p,_,rfl,(hT.same k1).sql,λp2 n2=>?_⟩
 rw[show(t:Int)+1=((t+1:Nat):Int) by omega] at*
 rw[DT (by rw[lrl];omega)] at*
 have k2:=aA n2 (.lst ((lrefs ts).drop (t+1)));refine⟨p1,p2,_,_,rfl,rfl,k2 _ _ ay,ay,by rw[Ys,Y8,lrl,C?];omega,λp3 n3=>?_⟩
 have k3:=aA n3 (.lst ((lrefs ts).take t++(lrefs ts).drop (t+1)));have e3:=ay (H:=L2.upd (L2.upd H p1 (.lst ((lrefs ts).take t))) p2 (.lst ((lrefs ts).drop (t+1)))) (a:=p3) (o:=.lst ((lrefs ts).take t++(lrefs ts).drop (t+1)));have g3:=(k1.trans k2).trans k3;generalize L2.upd (L2.upd (L2.upd H p1 (.lst ((lrefs ts).take t))) p2 (.lst ((lrefs ts).drop (t+1)))) p3 (.lst ((lrefs ts).take t++(lrefs ts).drop (t+1)))=H3 at e3 g3 ⊢;have XU:(lrefs ts).take t++(lrefs ts).drop (t+1)=lrefs (ts.take t++ts.drop (t+1)):=by simp[lrefs,List.map_take,List.map_drop]
 rw[XU] at e3;have hos:=λa=>PX (ts:=ts) (t:=t) (a:=a) Vo
 have XW:(ts.take t++ts.drop (t+1)).length=m:=by rw[Yk,Ys,Y8,sq.len];omega
 generalize ts.take t++ts.drop (t+1)=os at e3 hos XW;clear k1 k2 k3 XU n1 n2 n3;have MH:=hT.same g3;have XX:(lrefs os).length=m:=by rw[Ya];exact XW
 have et:=MH.it ts[t] (Yz _);have lt_:=sq.row ts[t] (Yz _);have XY:=λj=>qS Vo j
 generalize ts[t]=tt at et lt_ XY MG ⊢;refine⟨_,rfl,p3,rfl,⟨_,aP.of e3⟩,λD hD=>fN (xs:=lrefs os) (λa ys H4=>aH H3 H4/\∃us:List LP,ys=lrefs us/\(∀u∈us,H4 u.1=j? (.lst (u.2.map V.int))/\u.1≠D)/\lvals us=(Ym a).map (Lj ts t m d)) ⟨aA hD _,[],rfl,λu hu=>by simp at hu,rfl⟩ (λa ys H4 _ h=>aP.of (h.1 _ _ e3)) (λa m' x ys H4 hm' ha hx hy hlen h=>?_) (λys H4 hy h=>?_)⟩
 ·obtain⟨g4,us,rfl,hu,hv⟩:=h
  obtain⟨ha',rfl⟩:=y9 hx;have Vp:c8 t a<ts.length:=by rw[sq.len];exact wJ (by omega)
  have eoa:os[a]=ts[c8 t a]:=by
   have:=hos a
   rw[Yc ha',Yc Vp] at this;exact M? this
  rw[eoa];have er:=g4 _ _ (MH.it ts[c8 t a] (Yz _));have XZ:=sq.row ts[c8 t a] (Yz _);have X0:=λj=>qS Vp j
  generalize ts[c8 t a]=rr at er XZ X0 ⊢;have T8:=g4 _ _ et;have lrr:(rr.2.map V.int).length=m+1:=by rw[Ya];exact XZ
  refine⟨_,rfl,rr.1,_,rfl,.inl (aP.of er),?_⟩
  rw[lrr];refine⟨1,_,rfl,⟨by decide,by decide,by omega,by omega⟩,λD2 yi=>?_⟩
  rw[show((m+1:Nat):Int)-1=(m:Int) by omega,Yf]
  refine jF (λc zs H5=>aH H4 H5/\zs=((Ym c).map λc=>(Ij (λa c=>Ar (lvals ts) (yf t a) c) a c).fdiv d).map V.int) ⟨aA yi _,rfl⟩ (λc m2 zs H5 hm2 hc J1 hlen2 h2=>?_) (λzs H5 J1 h2=>?_)
  ·obtain⟨g5,rfl⟩:=h2
   have X4:=g5 _ _ er;have X5:=g5 _ _ T8;have Ss:=uq (xs:=tt.2) (j:=0) (by omega)
   have X6:=uq (xs:=tt.2) (j:=c+1) (by omega)
   have X7:=uq (xs:=rr.2) (j:=0) (by omega)
   have X8:=uq (xs:=rr.2) (j:=c+1) (by omega)
   rw[<- XY] at Ss X6;rw[<- X0] at X7 X8;rw[show(1:Int)+(c:Int)=((c+1:Nat):Int) by omega]
   have Su:c8 t a<m+1:=by rw[<- sq.len];exact Vp
   have b1:=bT t 0 ht (by omega)
   have b2:=bT (c8 t a) (c+1) Su (by omega)
   have b3:=bT (c8 t a) 0 Su (by omega)
   have b4:=bT t (c+1) ht (by omega)
   refine⟨_,rfl,tt.1,_,_,_,rfl,rfl,aP.of X5,Ss,_,rfl,_,rfl,rr.1,_,_,_,rfl,rfl,aP.of X4,X8,_,_,rfl,rfl,b1.ok b2,?_⟩
   refine⟨_,rfl,rr.1,_,_,_,rfl,rfl,aP.of X4,X7,_,rfl,_,rfl,tt.1,_,_,_,rfl,rfl,aP.of X5,X6,_,_,rfl,rfl,b3.ok b4,?_⟩
   refine⟨_,_,rfl,rfl,_,rfl,_,_,rfl,rfl,bd.dv d0,?_⟩
   refine CW.emit hm2 hc (by rw[C?];omega) J1 hlen2 ⟨aH.bw g5 yi _,?_⟩
   rw[Ww,Yt,Yt];rfl
  ·obtain⟨g5,rfl⟩:=h2
   have hyD:=g5 _ _ hy;have T9:D2≠D:=λz=>by rw[z,hy] at yi;cases yi
   refine CW.emit hm' ha (by rw[XX,C?];omega) hyD hlen ⟨aH.bw (g4.trans g5) hD _,us++[(D2,Lj ts t m d a)],by simp[lrefs],λu mu=>?_,?_⟩
   ·rcases List.mem_append.mp mu with y|y
    ·obtain⟨u1,u2⟩:=hu u y
     exact⟨by rw[aO u2];exact g5 _ _ u1,u2⟩
    ·have:u=(D2,Lj ts t m d a):=by simpa using y
     rw[this];exact⟨by rw[aO T9];exact J1,T9⟩
   ·have el:lvals (us++[((D2,Lj ts t m d a):LP)])=lvals us++[Lj ts t m d a]:=by simp[lvals]
    rw[el,Ww,Yt,hv];rfl
 ·obtain⟨g4,us,rfl,hu,hv⟩:=h
  rw[XX] at hv;exact q D us H4 (g3.trans g4) (g3.free hD) ⟨hy,λu mu=>(hu u mu).1⟩ hv
end
theorem PY {ts us:List LP}{t m:Nat}{d:Int}(h:lvals us=(Ym m).map (Lj ts t m d)):T7 m us/\∀a c,a<m->c<m->Ar (lvals us) a c=(Ij (λa c=>Ar (lvals ts) (yf t a) c) a c).fdiv d:=by
 have hl:us.length=m:=by have:=Jd Wr h;simpa using this
 refine⟨⟨hl,λu hu=>?_⟩,λa c ha hc=>?_⟩
 ·have:u.2∈lvals us:=List.mem_map_of_mem hu
  rw[h] at this;obtain⟨a,_,e⟩:=List.mem_map.mp this;rw[<- e];simp[Lj]
 ·have e:(lvals us).getD a []=Lj ts t m d a:=by rw[h];simp[Yb,ha]
  show((lvals us).getD a []).getD c 0=_
  rw[e];unfold Lj;rw[Yb,Ye,Y0 hc];rfl
def NG (K:bE):Sp:=λvs H Q _=>∃(p:o?) (ts:List LP) (n E:Nat),vs=[.ref p]/\CU H p ts/\T7 n ts/\n<=26/\n*(E+5)<9000/\(∀i j,i<n->j<n->(Ar (lvals ts) i j).natAbs<=2 ^ E)/\∀H',aH H H'->Q (.int (det n (Ar (lvals ts)))) H'
theorem NH {x:Int}{k:Nat}(hk:k<9000)(h:x.natAbs<=2 ^ k):Bd 9000 x:=Z4 h (Wf (by decide) hk)
def μd:St->Hp->Nat:=λσ H=>match σ with
 | [_,j? (.ref p),_,_,_]=>match H p with
  | some (.lst xs)=>xs.length
  | _=>0
 | _=>0
section
theorem xy (B:ia mg)(vh:b_ P w K mg base 1 "place_of_lead" ["table"] (JZ K))(DU:b_ P w K mg base 1 "lessened" JU (BX K))(F:Src K mg "determinant" kE ["table"]):b_ P w K mg base 2 "determinant" ["table"] (NG K):=by
 refine F.ok dF (λvs H Q E h=>?_) (λf cdv A outer s' H vs Q E hr h=>?_)
 ·obtain⟨p,ts,n,E,rfl,_⟩:=h;rfl
 obtain⟨p0,X_,n,E9,rfl,T4,sq0,hn,NI,bA,q⟩:=h;refine⟨_,ai (aD (i:=1) dF.nd rfl (z? rfl) (pv 0))
  (ai (aD (i:=2) dF.nd rfl (z? rfl) ak)
  (ai (aD (i:=3) dF.nd rfl (z? rfl) ak)
  (ai (eV D? (aW (vA (K:=K) rfl hr.units) (pv 1) (bF ah) (bD _))
   (ai (aD (i:=4) dF.nd rfl (z? rfl) (aF vh hr (af (pv 1) ah)))
   (ai (cW (aW Nh (pv 4) tL (bD _))
    (au (aJ ak))
    (bY))
   (ai (cW (aW iV (av bK (pv 4) ak) ak (bD _))
    (au (aD (i:=2) dF.nd rfl (z? rfl) (ni i7 (pv 2))))
    (bY))
   (au (vY (i:=1) (j:=3) rfl dF.nd rfl rfl (by decide) rfl rfl (af (aF DU hr (af (pv 1) (af (pv 4) (af (pv 3) ah)))) (af (bC (aG (K:=K) rfl) (bC (aG (K:=K) rfl) (pv 1) (pv 4) (λ_ _=>rfl)) ak (λ_ _=>rfl)) ah)) rfl))))))
  (au (aJ (av aX (pv 2) (pv 3))))))),?_⟩
 generalize hA:Ar (lvals X_)=A0 at bA q;refine⟨_,rfl,?_⟩
 refine jH (λσ H2=>aH H H2/\∃(p:o?) (ts:List LP) (s d:Int) (o:Option V) (m:Nat),σ=[Rq p0,Rq p,j? (.int s),j? (.int d),o]/\CU H2 p ts/\T7 m ts/\Bd 64 s/\Bd 9000 d/\((∃m' k,m=m'+1/\m+k=n/\Ba A0 n k d (Ar (lvals ts)) m s)\/(m=0/\s*d=det n A0))) μd ⟨aH.refl _,p0,X_,1,1,_,n,rfl,T4,sq0,Bd.small (by decide) (by decide),(Bd.small (by decide) (by decide)).mono (by decide),?_⟩ ?_
 ·cases n with
  | zero=>exact .inr ⟨rfl,rfl⟩
  | succ n'=>exact .inl ⟨n',0,rfl,rfl,hA ▸ Ba.start A0 (n'+1)⟩
 ·rintro σ H2 ⟨g2,p,ts,s,d,o,m,rfl,hT,sq,bs,bd,hB⟩
  refine⟨_,rfl,aZ rfl,λpe MI=>?_⟩
  have ke:=aA MI (.lst []);refine UZ (hT.same ke).den (Gf (aP.of ay)) ⟨_,rfl,?_⟩
  rcases hB with ⟨m',k,em,hk,hBa⟩|⟨em,BP⟩
  ·subst em
   have hne:lvals ts≠[]:=λz=>by
    have:=Jd Wr z
    rw[Ya,sq.len] at this;cases this
   have MH:=hT.same ke;have g3:=g2.trans ke;have hmu:μd [Rq p0,Rq p,j? (.int s),j? (.int d),o] H2=m'+1:=by
    show(match H2 p with|some (.lst xs)=>xs.length|_=>0)=m'+1
    rw[hT.top];show(lrefs ts).length=m'+1
    rw[Ya];exact sq.len
   rw[hmu];generalize L2.upd H2 pe (.lst [])=H3 at MH g3;obtain⟨bd',bB⟩:=hBa.Gh (by omega) hk bA
   refine Bh hne (win ?_)
   refine⟨_,rfl,p,ts,rfl,MH,λt ht=>by rw[sq.row t ht];omega,by rw[sq.len];omega,λt H4 g4 ht hnz=>?_,λH4 g4 hz=>?_⟩
   ·have ht':t<m'+1:=by rw[<- sq.len];exact ht
    refine⟨_,rfl,rfl,_,rfl,gp ?_⟩
    have QX:=MH.same g4;apply merge (M:=λσ HM=>HM=H4/\σ=[Rq p0,Rq p,j? (.int (sg t*s)),j? (.int d),Iq (t)])
    case h1=>
     intro key;refine⟨_,rfl,_,_,rfl,rfl,(by decide:(2:Int)≠0),rfl,_,rfl,?_⟩
     have YA:((t:Int)).fmod 2=((t % 2:Nat):Int):=by
      rw[Y7 _ (by decide)];omega
     by_cases c:t % 2=1
     ·have es:sg t*s=-s:=by unfold sg;rw[W8 (by omega)];omega
      refine OT (by show V.int (((t:Int)).fmod 2)=V.int 1;rw[YA,c];rfl) ⟨_,rfl,_,rfl,key _ _ ⟨rfl,by rw[es];rfl⟩⟩
     ·have es:sg t*s=s:=by unfold sg;rw[W9 (by omega)];omega
      refine OS (λz=>c (by have z':V.int (((t:Int)).fmod 2)=V.int 1:=z;have:=V.int.inj z';rw[YA] at this;omega)) (key _ _ ⟨rfl,by rw[es];rfl⟩)
    case h2=>
     rintro σ HM ⟨rfl,rfl⟩;refine⟨_,rfl,_,rfl,_,rfl,p,ts,t,m',d,rfl,QX,sq,ht',by omega,hBa.d0,bd,λi j hi hj=>NH NI (bB i j hi hj),λq1 us H5 g5 n5 hU hv=>?_⟩
     have YB:=QX.same g5;have MG:qe (lrefs ts) (t:Int)=j? (.ref ts[t].1):=by
      rw[iW (by omega) (by rw[Ya];omega)]
      simp
     have Ss:=uq (xs:=ts[t].2) (j:=0) (by rw[sq.row _ (Yz _)];omega)
     rw[<- qS ht] at Ss;refine⟨_,rfl,_,rfl,p,_,_,_,rfl,rfl,YB.sql,MG,ts[t].1,_,_,_,rfl,rfl,aP.of (YB.it ts[t] (Yz _)),Ss,_,_,rfl,?_⟩
     obtain⟨YC,QY⟩:=PY hv;have bs':Bd 64 (sg t*s):=by
      refine Bd.le (y:=s) ?_ bs
      rw[Zf,Il,W6];exact Yd _
     refine⟨⟨((g3.trans g4).trans g5),q1,us,sg t*s,Ar (lvals ts) t 0,_,m',rfl,hU,YC,bs',NH NI (bB t 0 ht' (by omega)),?_⟩,?_⟩
     ·cases m' with
      | zero=>
       have:t=0:=by omega
       subst this;refine .inr ⟨rfl,?_⟩
       have:=hBa.fin
       have e1:sg 0=1:=rfl;rw[e1,Zo];exact this
      | succ m2=>
       refine .inl ⟨m2,k+1,rfl,by omega,hBa.step ht' hnz λa c ha hc=>?_⟩
       obtain⟨qq,e⟩:=hBa.divides ht' hnz ha hc;rw[QY a c ha hc,e,Int.mul_fdiv_cancel_left _ hBa.d0]
     ·show(match H5 q1 with|some (.lst xs)=>xs.length|_=>0)<m'+1
      rw[hU.top];show(lrefs us).length<m'+1
      rw[Ya,YC.len];omega
   ·refine⟨_,rfl,rfl,_,rfl,jE ?_⟩
    have:=hBa.none λi hi=>hz i (by rw[sq.len];exact hi)
    rw[this] at q;exact q H4 (g3.trans g4)
  ·subst em
   have he:lvals ts=[]:=by
    have:=sq.len
    rw[List.length_eq_zero_iff] at this;rw[this];rfl
   refine k8 he ?_
   refine⟨_,rfl,_,rfl,_,_,rfl,rfl,bs.ok bd,?_⟩
   show Q (.int (s*d)) _
   rw[BP];exact q _ (g2.trans ke)
end
def qT (K:bE):Sp:=λvs H Q _=>∃(a:o?) (f:List Int),vs=[.ref a]/\aP K H a (f.map V.int)/\f.length<=1000/\OV H Q (trim f)
def DV (K:bE):Sp:=λvs H Q _=>∃(a:o?) (f:List Int) (i:Nat),vs=[.ref a,.int i]/\aP K H a (f.map V.int)/\Q (.int (aq f i)) H
def J2 (K:bE):Sp:=λvs H Q _=>∃(a b:o?) (f g:List Int),vs=[.ref a,.ref b]/\aP K H a (f.map V.int)/\aP K H b (g.map V.int)/\f.length<=1000/\g.length<=1000/\f6 1000000 f/\f6 1000000 g/\OV H Q (ee f g)
theorem xA {x y:Int}(hx:Bd 1000000 x)(hy:Bd 1000000 y):nj x y:=hx.ok hy
section
theorem j3 (B:ia mg)(F:Src K mg "without_noughts_behind" dY ["numbers"]):b_ P w K mg base 1 "without_noughts_behind" ["numbers"] (qT K):=by
 refine F.ok dM (λvs H Q E h=>?_) (λf cdv A outer s H vs Q E hr h=>?_)
 ·obtain⟨a,f,rfl,_⟩:=h;rfl
 obtain⟨a,f,rfl,hS,hlen,q⟩:=h;refine⟨_,ai (aD (i:=1) dM.nd rfl (z? rfl) (aE (aN (K:=K) rfl) rfl B.len bI (af (pv 0) ah)))
  (ai (eV D? (PW.pt (Hs (aW yJ (pv 1) ak (bD _)) (EI (aW iV (bC (aG (K:=K) rfl) (pv 0) (av bO (pv 1) ak) (λ_ _=>rfl)) ak (bD _)))))
   (au (zD (i:=1) dM.nd rfl (z? rfl) ak LD)))
  (au (aJ (eW (eX (K:=K) rfl) (pv 0) gb (gc (pv 1)))))),?_⟩
 refine⟨_,rfl,a,_,rfl,.inl hS,?_⟩
 rw[Ya];have fin:∀(k:Nat) H2,aH H H2->k<=f.length->ie f f.length=ie f k->ie f k=k->aP K H2 a (f.map V.int)->∀p,H2 p=q?->Q (.ref p) (upd H2 p (.lst (iw (f.map V.int) q? (j? (k:Int))))):=λk H2 g hk e1 e2 hS2 p hp=>by
  rw[tV f k hk];refine q p _ (g.trans (aA hp _)) (g.free hp) ?_
  unfold trim;rw[e1,e2];exact ay
 refine jH (λσ H2=>H2=H/\∃k:Nat,σ=[Rq a,j? (.int k)]/\k<=f.length/\ie f f.length=ie f k) (λσ _=>match σ with | [_,j? (.int k)]=>k.toNat|_=>0) ⟨rfl,f.length,rfl,Yd _,rfl⟩ ?_
 rintro σ H2 ⟨rfl,k,rfl,hk,ht⟩;refine⟨_,rfl,_,_,rfl,rfl,_,rfl,fU (λc=>?_) (λc=>?_)⟩
 ·have c':(0:Int)<k:=Jb c
  obtain⟨m,rfl⟩:∃m,k=m+1:=⟨k-1,by omega⟩
  refine⟨_,rfl,_,rfl,_,_,rfl,rfl,a,_,_,_,rfl,rfl,hS,eK (by omega) (by omega),rfl,_,rfl,?_⟩
  have em:(((m+1:Nat):Int)-1).toNat=m:=by omega
  rw[em];refine fU (λc=>?_) (λc=>?_)
  ·have c2:aq f m=0:=V.int.inj (Jb c)
   refine win ⟨_,rfl,_,_,rfl,rfl,⟨rfl,m,?_,by omega,?_⟩,?_⟩
   ·have e:((m+1:Nat):Int)-1=(m:Int):=by omega
    show [j? (V.ref a),j? (V.int (((m+1:Nat):Int)-1))]=_
    rw[e]
   ·exact ht.trans (by show(if aq f m=0 then ie f m else m+1)=_;rw[W9 c2])
   ·show(((m+1:Nat):Int)-1).toNat<(((m+1:Nat):Int)).toNat
    omega
  ·have c2:aq f m≠0:=λz=>c (Ja (Jd V.int z))
   exact⟨_,rfl,_,rfl,_,rfl,a,_,rfl,hS,fin (m+1) _ (aH.refl _) hk ht (by show(if aq f m=0 then ie f m else m+1)=_;rw[W8 c2]) hS⟩
 ·have c':k=0:=by
   have:¬ (0:Int)<k:=λz=>c (Ja z)
   omega
  subst c';refine gp ?_
  exact⟨_,rfl,_,rfl,_,rfl,a,_,rfl,hS,fin 0 _ (aH.refl _) hk ht rfl hS⟩
end
section
theorem xB (B:ia mg)(F:Src K mg "coefficient" kD DR):b_ P w K mg base 1 "coefficient" DR (DV K):=by
 refine F.ok xr (λvs H Q E h=>?_) (λf cdv A outer s H vs Q E hr h=>?_)
 ·obtain⟨a,f,i,rfl,_⟩:=h;rfl
 obtain⟨a,f,i,rfl,hS,q⟩:=h;refine⟨_,au (aJ (vX (aW A7 (pv 1) (aE (aN (K:=K) rfl) rfl B.len bI (af (pv 0) ah)) (bD _)) (bC (aG (K:=K) rfl) (pv 0) (pv 1) (λ_ _=>rfl)) ak)),?_⟩
 refine⟨_,rfl,_,rfl,a,_,rfl,.inl hS,_,_,rfl,rfl,_,rfl,?_⟩
 rw[Ya];refine fU (λc=>?_) (λc=>?_)
 ·have c':(i:Int)<(f.length:Nat):=Jb c
  refine⟨_,rfl,_,rfl,a,_,_,_,rfl,rfl,hS,eK (by omega) (by omega),?_⟩
  rw[Yf];exact q
 ·have c':¬ (i:Int)<(f.length:Nat):=λz=>c (Ja z)
  rw[bG (by omega)] at q
  exact q
end
section
theorem yj (B:ia mg)(F:Src K mg "multiplied" mF nC):b_ P w K mg base 1 "multiplied" nC (J2 K):=by
 refine F.ok fc (λvs H Q E h=>?_) (λf cdv A outer s H vs Q E hr h=>?_)
 ·obtain⟨a,b,f,g,rfl,_⟩:=h;rfl
 obtain⟨a,b,f,g,rfl,ha,hb,lf,lg,bf,bg,q⟩:=h;refine⟨_,ai (cW (PW.pt (nh (aW (mh (K:=K) rfl hr.units) (pv 0) (bF ah) (bD _)) (qv (aW (mh (K:=K) rfl hr.units) (pv 1) (bF ah) (bD _)))))
   (au (aJ (bF ah)))
   (bY))
  (ai (aD (i:=2) fc.nd rfl (z? rfl) (av lW (bF (af ak ah)) (av bO (av b9 (aE (aN (K:=K) rfl) rfl B.len bI (af (pv 0) ah)) (aE (aN (K:=K) rfl) rfl B.len bI (af (pv 1) ah))) ak)))
  (ai (cD D? rfl (iX (K:=K) rfl rfl B.enumerate (af (pv 0) ah)) (cP (n:=2) (K:=K) rfl rfl (aS (aB (i:=3) fc.nd rfl (z? rfl)) (aS (aB (i:=4) fc.nd rfl (z? rfl)) cO)))
   (au (cD D? rfl (iX (K:=K) rfl rfl B.enumerate (af (pv 1) ah)) (cP (n:=2) (K:=K) rfl rfl (aS (aB (i:=5) fc.nd rfl (z? rfl)) (aS (aB (i:=6) fc.nd rfl (z? rfl)) cO)))
    (au (EJ (pv 2) (av b9 (pv 3) (pv 5)) (yY (K:=K) rfl) (av aX (pv 4) (pv 6)) Oo set_list)))))
  (au (aJ (pv 2))))),?_⟩
 have Sw:f=[]\/g=[]->∀H2,aH H H2->∀p,H2 p=q?->Q (.ref p) (upd H2 p (.lst [])):=λhn H2 g2 p hp=>by
  have e:ee f g=[]:=by unfold ee;rw[W9 hn]
  refine q p _ (g2.trans (aA hp _)) (g2.free hp) ?_
  rw[e];exact ay
 refine⟨_,rfl,aZ rfl,λp1 n1=>?_⟩
 have g1:=aA n1 (.lst []);refine RU (xs:=f) (ys:=[]) (g1.seq ha) (aP.of ay) ⟨_,rfl,fU (λc=>?_) (λc=>?_)⟩
 ·refine jE ?_
  exact⟨aZ rfl,Sw (.inl (Jb c)) _ g1⟩
 have hf:f≠[]:=λz=>c (Ja z)
 refine⟨_,rfl,aZ rfl,λp2 n2=>?_⟩
 have g2:=g1.trans (aA n2 (.lst []));refine RU (xs:=g) (ys:=[]) (g2.seq hb) (aP.of ay) ⟨_,rfl,fU (λc=>?_) (λc=>?_)⟩
 ·exact⟨aZ rfl,Sw (.inr (Jb c)) _ g2⟩
 have hg:g≠[]:=λz=>c (Ja z)
 have l1:0<f.length:=List.length_pos_iff.mpr hf;have l2:0<g.length:=List.length_pos_iff.mpr hg;refine⟨aZ rfl,λp3 n3=>?_⟩
 have g3:=g2.trans (aA n3 (.lst [.int 0]));refine⟨_,rfl,a,_,rfl,.inl (g3.seq ha),_,rfl,b,_,rfl,.inl (g3.seq hb),?_⟩
 rw[Ya,Ya];have en:((f.length:Int)+(g.length:Int)-1)=((f.length+g.length-1:Nat):Int):=by omega
 refine⟨_,_,rfl,rfl,_,_,rfl,rfl,p3,_,_,rfl,rfl,ay,by omega,by omega,?_,λp hp=>?_⟩
 ·rw[C?];show 1*_<=_;omega
 rw[en,Yf,sr];have g4:=g3.trans (aA hp (.lst ((Yi (f.length+g.length-1) (0:Int)).map V.int)));have f4:H p=q?:=g3.free hp;refine⟨_,rfl,a,rfl,⟨_,g4.seq ha⟩,lB (st:=0) (xs:=f.map V.int) (λi σ H2=>aH H H2/\∃(P:List Int) (o1 o2 o3 o4:Option V),σ=[Rq a,Rq b,Rq p,o1,o2,o3,o4]/\H2 p=j? (.lst (P.map V.int))/\P.length=f.length+g.length-1/\∀m,m<P.length->aq P m=fZ f g i m)
  ⟨g4,_,_,_,_,_,rfl,ay,by simp,λm hm=>cM _ _⟩ ?_ ?_ ?_⟩
 ·rintro i σ H2 hi ⟨gg,_⟩
  exact gg.seq ha
 ·rintro i x σ H2 r hx ⟨gg,P,o1,o2,o3,o4,rfl,eP,lP,hP⟩ hr'
  obtain⟨fi,QZ,rfl⟩:=a_ hx;have hi:i<f.length:=(List.getElem?_eq_some_iff.mp QZ).1;have YD:aq f i=fi:=rW QZ;have gr:=aA hr' (.tup [.int ((0+i:Nat):Int),.int fi]);refine⟨r,_,rfl,jv.of ay,rfl,_,_,rfl,_,_,rfl,rfl,?_⟩
  refine⟨_,rfl,b,rfl,⟨_,(gg.trans gr).seq hb⟩,lB (st:=0) (xs:=g.map V.int) (λj σ H2=>aH H H2/\∃(P:List Int) (o3 o4:Option V),σ=[Rq a,Rq b,Rq p,Iq ((0+i:Nat)),j? (.int fi),o3,o4]/\H2 p=j? (.lst (P.map V.int))/\P.length=f.length+g.length-1/\∀m,m<P.length->aq P m=qh f g i j m)
   ⟨gg.trans gr,P,_,_,rfl,gr _ _ eP,lP,λm hm=>by rw[wo];exact hP m hm⟩ ?_ ?_ ?_⟩
  ·rintro j σ H3 hj ⟨gg,_⟩
   exact gg.seq hb
  ·rintro j y σ H3 r2 hy ⟨gg,P,o3,o4,rfl,eP,lP,hP⟩ hr2
   obtain⟨gj,Sx,rfl⟩:=a_ hy;have hj:j<g.length:=(List.getElem?_eq_some_iff.mp Sx).1;have Sy:aq g j=gj:=rW Sx;have Q0:=aA hr2 (.tup [.int ((0+j:Nat):Int),.int gj]);refine⟨r2,_,rfl,jv.of ay,rfl,_,_,rfl,_,_,rfl,rfl,?_⟩
   have NJ:(((0+i:Nat):Int)+((0+j:Nat):Int))=((i+j:Nat):Int):=by omega
   have hij:i+j<P.length:=by omega
   have YE:=Q0 _ _ eP;refine⟨_,rfl,_,rfl,_,rfl,_,_,rfl,rfl,p,_,_,.int (aq P (i+j)),rfl,rfl,aP.of YE,by omega,?_,?_⟩
   ·rw[NJ,Yf];exact qA hij
   refine⟨_,rfl,_,rfl,_,_,rfl,rfl,xA (by rw[<- YD];exact bf.aq i) (by rw[<- Sy];exact bg.aq j),_,_,rfl,rfl,p,_,_,i+j,rfl,rfl,YE,?_,?_⟩
   ·rw[NJ,Ya];exact vC (by omega) (by omega)
   refine⟨(gg.trans Q0).bw f4 _,P.set (i+j) (aq P (i+j)+fi*gj),_,_,rfl,?_,by rw[Wv];exact lP,λm hm=>?_⟩
   ·rw[j8];exact ay
   ·rw[Wv] at hm
    rw[nN hij,wu,hP m hm,<- YD,<- Sy];split
    ·rename_i h;subst h;rw[hP _ hm]
    ·rfl
  ·rintro σ H3 ⟨gg,P,o3,o4,rfl,eP,lP,hP⟩
   refine⟨gg,P,_,_,_,_,rfl,eP,lP,λm hm=>?_⟩
   rw[<- yX];have:=hP m hm
   rw[Ya] at this;exact this
 ·rintro σ H2 ⟨gg,P,o1,o2,o3,o4,rfl,eP,lP,hP⟩
  refine⟨_,rfl,q p H2 gg f4 ?_⟩
  have e:P=ee f g:=by
   refine rX ?_ λm hm=>?_
   ·unfold ee;rw[W8 (by rintro (z|z);exact hf z;exact hg z),Ya,Yg];exact lP
   ·rw[oZ,hP m hm,Ya];rfl
  rw[<- e];exact eP
end
def NK (K:bE):Sp:=λvs H Q _=>∃(a:o?) (f:List Int),vs=[.ref a]/\aP K H a (f.map V.int)/\f.length<=1000/\OV H Q (dl f)
section
theorem DW (B:ia mg)(F:Src K mg "derived" pH ["f"]):b_ P w K mg base 1 "derived" ["f"] (NK K):=by
 refine F.ok DS (λvs H Q E h=>?_) (λf cdv A outer s H vs Q E hr h=>?_)
 ·obtain⟨a,f,rfl,_⟩:=h;rfl
 obtain⟨a,f,rfl,ha,lf,q⟩:=h;refine⟨_,au (aJ (eW (eX (K:=K) rfl) (b8 (aI (N:=["at","part"]) (sl:=[q?,q?]) (ao pH) ["f"] rfl rfl (by decide +kernel)) rfl (iX (K:=K) rfl rfl B.enumerate (af (pv 0) ah)) (λ_ _ _ _ _=>(cP (n:=2) (K:=K) rfl rfl (aS (aB (i:=0) (Yk_ ["at","part"]) rfl (z? rfl)) (aS (aB (i:=1) (Yk_ ["at","part"]) rfl (z? rfl)) cO)))) (λ_ _ _ _ _=>aU) (λ_ _ _ _ _=>(av aX (pv 0) (pv 1)))) (gc ak) gb)),?_⟩
 refine⟨_,rfl,a,rfl,⟨_,ha⟩,λD hD=>?_⟩
 refine yV (TJ:=0) (xs:=f.map V.int) (λi ys H2=>aH H H2/\ys=((Ym i).map λi:Nat=>(i:Int)*aq f i).map V.int) ⟨aA hD _,rfl⟩ (λi ys H2 _ h=>h.1.seq ha) ?_ ?_
 ·rintro i m x ys H2 r hm hi hx hy hlen ⟨gg,rfl⟩ hr'
  obtain⟨n,hn,rfl⟩:=a_ hx;have kr:=aA hr' (.tup [.int ((0+i:Nat):Int),.int n]);rw[Ya] at hi;refine⟨r,_,rfl,jv.of ay,rfl,_,_,rfl,_,_,rfl,rfl,?_⟩
  refine⟨_,rfl,_,rfl,_,_,rfl,rfl,gQ (by omega) (by omega),?_⟩
  refine CW.emit hm (by rw[Ya];exact hi) (by rw[Ya,C?];omega) (kr _ _ hy) hlen ⟨aH.bw (gg.trans kr) hD _,?_⟩
  rw[Ww,Yt,Yt];have e:((0+i:Nat):Int)=(i:Int):=by omega
  show _++[V.int (((0+i:Nat):Int)*n)]=_++[V.int ((i:Int)*aq f i)]
  rw[e,rW hn]
 ·rintro ys H2 hy ⟨gg,rfl⟩
  rw[Ya] at hy;refine⟨_,rfl,D,_,rfl,aP.of hy,λp hp=>?_⟩
  refine q p _ (gg.trans (aA hp _)) (gg.free hp) ?_
  rw[ay];congr 2
  have e1:iw (((Ym f.length).map λi:Nat=>(i:Int)*aq f i).map V.int) (j? 1) q?=(((Ym f.length).map λi:Nat=>(i:Int)*aq f i).drop 1).map V.int:=by
   unfold iw;have h1:HT.pP (((Ym f.length).map λi:Nat=>(i:Int)*aq f i).map V.int).length 0 (j? 1)=min 1 f.length:=by
    have:=HT.lV (((Ym f.length).map λi:Nat=>(i:Int)*aq f i).map V.int).length 0 1
    rw[Ya,Ya,Yg] at this ⊢;exact this
   have h2:HT.pP (((Ym f.length).map λi:Nat=>(i:Int)*aq f i).map V.int).length (((Ym f.length).map λi:Nat=>(i:Int)*aq f i).map V.int).length q?=f.length:=by
    rw[Ya,Ya,Yg];rfl
   rw[h1,h2,Zn (by rw[Y8,Ya,Ya,Yg];exact Yd _)]
   by_cases hz:f.length=0
   ·rw[hz];rfl
   ·rw[Nat.min_eq_left (by omega),List.map_drop]
  rw[e1];congr 1
  refine rX ?_ λi hi=>?_
  ·unfold dl;rw[Y8,Ya,Yg,Ya,Yg]
  ·rw[Y8,Ya,Yg] at hi
   rw[vI,d9 (by rw[Y8,Ya,Yg];exact hi)]
   simp
end
def Sz (H:Hp)(Q:VK)(q r:List Int):Prop:=∀t a b H',aH H H'->H a=q?->H b=q?->a≠b->H' t=j? (.tup [.ref a,.ref b])->H' a=j? (.lst (q.map V.int))->H' b=j? (.lst (r.map V.int))->Q (.ref t) H'
def J3 (K:bE):Sp:=λvs H Q _=>∃(a b:o?) (f g:List Int) (m n:Nat),vs=[.ref a,.ref b]/\aP K H a (f.map V.int)/\aP K H b (g.map V.int)/\f.length<=1000/\g.length<=1000/\dR g/\f6 m f/\f6 n g/\m+f.length*(n+2)<=1000000/\
 ∀q r,wD f g q r->f6 (m+f.length*(n+2)) q->f6 (m+f.length*(n+2)) r->Sz H Q q r
section
theorem DX (B:ia mg)(cS:b_ P w K mg base 1 "without_noughts_behind" ["numbers"] (qT K))(F:Src K mg "divided" uc nC):b_ P w K mg base 2 "divided" nC (J3 K):=by
 refine F.ok fC (λvs H Q E h=>?_) (λf cdv A outer s H vs Q E hr h=>?_)
 ·obtain⟨a,b,f,g,m,n,rfl,_⟩:=h;rfl
 obtain⟨a,b,f,g,mB,nB,rfl,ha,hb,lf,lg,hg,bf,bg,hB,q⟩:=h;have Xp:0<g.length:=List.length_pos_iff.mpr hg.1;refine⟨_,ai (aD (i:=2) fC.nd rfl (z? rfl) (kZ gP rfl B.list j6 (af (pv 0) ah)))
  (ai (aD (i:=3) fC.nd rfl (z? rfl) (bF ah))
  (ai (aD (i:=4) fC.nd rfl (z? rfl) (av bO (aE (aN (K:=K) rfl) rfl B.len bI (af (pv 1) ah)) ak))
  (ai (cD D? rfl (zQ rfl B.reversed (af (wm rfl B.range (af (av bO (aE (aN (K:=K) rfl) rfl B.len bI (af (pv 0) ah)) (pv 4)) ah)) ah)) (aB (i:=5) fC.nd rfl (z? rfl))
   (ai (aD (i:=6) fC.nd rfl (z? rfl) (bC (aG (K:=K) rfl) (pv 2) (av b9 (pv 5) (pv 4)) (λ_ _=>rfl)))
   (ai (d8 (qg R? F! G! dO (pv 3) (af (pv 6) ah)))
   (au (cD D? rfl (iX (K:=K) rfl rfl B.enumerate (af (pv 1) ah)) (cP (n:=2) (K:=K) rfl rfl (aS (aB (i:=7) fC.nd rfl (z? rfl)) (aS (aB (i:=8) fC.nd rfl (z? rfl)) cO)))
    (au (EJ (pv 2) (av b9 (pv 5) (pv 7)) (yY (K:=K) rfl) (av aX (pv 6) (pv 8)) Oq set_list)))))))
  (ai (d8 (zJ R? PySem.F.slot_list_reverse PySem.F.type_list_reverse qx (pv 3) ))
  (au (aJ (i8 (af (pv 3) (af (aF cS hr (af (pv 2) ah)) ah))))))))),?_⟩
 refine⟨_,rfl,a,_,rfl,.inl ha,λp1 n1=>?_⟩
 have k1:=aA n1 (.lst (f.map V.int));refine⟨aZ rfl,λp2 n2=>?_⟩
 have k2:=aA n2 (.lst []);have g2:=k1.trans k2;have f2:H p2=q?:=k1.free n2;have hne:p1≠p2:=bL ay n2;refine⟨_,rfl,b,_,rfl,.inl (g2.seq hb),_,_,rfl,rfl,?_⟩
 rw[Ya];refine⟨_,rfl,a,_,rfl,.inl (g2.seq ha),?_⟩
 rw[Ya];refine⟨_,rfl,_,_,rfl,rfl,_,rfl,λp3 n3=>?_⟩
 have k3:=aA n3 (.oV 0 ((f.length:Int)-((g.length:Int)-1)));have g3:=g2.trans k3;obtain⟨N,hN⟩:∃N,N=f.length-(g.length-1):=⟨_,rfl⟩;have eN:((f.length:Int)-((g.length:Int)-1)).toNat=N:=by omega
 refine⟨p3,_,rfl,ay,by omega,by omega,?_⟩
 rw[eN];refine nL (λi σ H2=>aH H H2/\∃(Qr R:List Int) (o1 o2 o3 o4:Option V),σ=[Rq a,Rq b,Rq p1,Rq p2,j? (.int ((g.length:Int)-1)),o1,o2,o3,o4]/\H2 p2=j? (.lst (Qr.map V.int))/\H2 p1=j? (.lst (R.map V.int))/\wF f g N i Qr R/\f6 (mB+i*(nB+2)) R/\f6 (mB+i*(nB+2)) Qr)
  ⟨g3,[],f,_,_,_,_,rfl,k3 _ _ ay,k3 _ _ (k2 _ _ ay),⟨rfl,rfl,λm hm=>?_,λm h1 h2=>by omega,λh=>Jf h (by decide)⟩,bf.mono (by omega),λx hx=>by simp at hx⟩ ?_ ?_
 ·have hz:conv (Hj N 0 []) g m=0:=by
   rw[qB (f':=[]) (g':=g) (λa=>?_) (λ_=>rfl)]
   ·rfl
   ·unfold Hj
    rw[List.reverse_nil,W0,cM,gT]
  rw[hz];omega
 ·rintro i σ H2 hi ⟨gg,Qr,R,o1,o2,o3,o4,rfl,eQ,eR,D,bR,bQ⟩
  have lr:=D.lr;have lq:=D.lq;have hN1:N<=f.length:=by omega
  have et:((f.length:Int)-((g.length:Int)-1)-1-(i:Int))=((N-1-i:Nat):Int):=by omega
  rw[et];have ep:(((N-1-i:Nat):Int)+((g.length:Int)-1))=((N-1-i+(g.length-1):Nat):Int):=by omega
  refine⟨_,rfl,_,rfl,_,rfl,_,_,rfl,rfl,p1,_,_,_,rfl,rfl,aP.of eR,eK (by omega) (by omega),?_⟩
  rw[ep,Yf];generalize qj:aq R (N-1-i+(g.length-1))=lead;have zq:Bd (mB+i*(nB+2)) lead:=qj ▸ bR.aq _;refine⟨_,rfl,.inl ⟨rfl,_,aP.of eQ⟩,_,rfl,p2,_,_,rfl,rfl,eQ,by rw[Ya,C?];omega,?_⟩
  have g4:aH H (upd H2 p2 (.lst (Qr.map V.int++[V.int lead]))):=gg.bw f2 _;have hR4:upd H2 p2 (.lst (Qr.map V.int++[V.int lead])) p1=j? (.lst (R.map V.int)):=by rw[aO hne];exact eR
  have hmul:(i+1)*(nB+2)=i*(nB+2)+(nB+2):=by rw[Wd,W6]
  have hle:(i+1)*(nB+2)<=f.length*(nB+2):=Yx _ (by omega)
  refine⟨_,rfl,b,rfl,⟨_,g4.seq hb⟩,lB (st:=0) (xs:=g.map V.int) (λj σ H3=>aH H H3/\∃(R':List Int) (o3 o4:Option V),σ=[Rq a,Rq b,Rq p1,Rq p2,j? (.int ((g.length:Int)-1)),Iq ((N-1-i:Nat)),j? (.int lead),o3,o4]/\H3 p2=j? (.lst ((Qr++[lead]).map V.int))/\H3 p1=j? (.lst (R'.map V.int))/\Lh g R R' (N-1-i) lead j/\f6 (mB+(i+1)*(nB+2)) R')
   ⟨g4,R,_,_,rfl,by rw[<- sy];exact ay,hR4,Lh.start ..,bR.mono (by omega)⟩ ?_ ?_ ?_⟩
  ·rintro j σ H3 hj ⟨gg,_⟩
   exact gg.seq hb
  ·rintro j y σ H3 r2 hy ⟨gg,R',o3,o4,rfl,Vq,NL,hR,PZ⟩ hr2
   obtain⟨gj,Sx,rfl⟩:=a_ hy;have hj:j<g.length:=(List.getElem?_eq_some_iff.mp Sx).1;have Sy:aq g j=gj:=rW Sx;have Q0:=aA hr2 (.tup [.int ((0+j:Nat):Int),.int gj]);refine⟨r2,_,rfl,jv.of ay,rfl,_,_,rfl,_,_,rfl,rfl,?_⟩
   have NJ:(((N-1-i:Nat):Int)+((0+j:Nat):Int))=((N-1-i+j:Nat):Int):=by omega
   have hij:N-1-i+j<R.length:=by omega
   have MJ:N-1-i+j<R'.length:=by rw[hR.1];exact hij
   have YF:=Q0 _ _ NL;have YG:Bd nB gj:=Sy ▸ bg.aq j;refine⟨_,rfl,_,rfl,_,rfl,_,_,rfl,rfl,p1,_,_,.int (aq R' (N-1-i+j)),rfl,rfl,aP.of YF,by omega,?_,?_⟩
   ·rw[NJ,Yf];exact qA MJ
   refine⟨_,rfl,_,rfl,_,_,rfl,rfl,xA (zq.mono (by omega)) (YG.mono (by omega)),_,_,rfl,rfl,p1,_,_,N-1-i+j,rfl,rfl,YF,?_,?_⟩
   ·rw[NJ,Ya];exact vC (by omega) (by omega)
   have hstep:=hR.step (t:=N-1-i) hij;rw[Sy] at hstep;refine⟨(gg.trans Q0).bw n1 _,R'.set (N-1-i+j) (aq R' (N-1-i+j)-lead*gj),_,_,rfl,?_,?_,hstep,tU λm hm=>?_⟩
   ·rw[aO (Ne.symm hne)];exact Q0 _ _ Vq
   ·rw[j8];exact ay
   ·rw[nN MJ]
    split
    ·have hmR:N-1-i+j<R.length:=hij
     have e1:=hR.2 (N-1-i+j) hmR;rw[W8 (by omega)] at e1
     rw[e1];have b1:Bd (mB+i*(nB+2)) (aq R (N-1-i+j)-0):=by rw[Int.sub_zero];exact bR.aq _
     exact(b1.sub (zq.mul YG)).mono (by omega)
    ·exact PZ.aq m
  ·rintro σ H3 ⟨gg,R',o3,o4,rfl,Vq,NL,hR,PZ⟩
   rw[Ya] at hR;rw[<- qj] at hR;refine⟨gg,Qr++[lead],R',_,_,_,_,rfl,Vq,NL,?_,PZ,(bQ.mono (by omega)).snoc (zq.mono (by omega))⟩
   have:=D.next hg hN hi hR
   rw[qj] at this;exact this
 ·rintro σ H2 ⟨gg,Qr,R,o1,o2,o3,o4,rfl,eQ,eR,D,bR,bQ⟩
  have lr:=D.lr;have hle:N*(nB+2)<=f.length*(nB+2):=Yx _ (by omega)
  refine⟨_,rfl,.inl ⟨rfl,_,aP.of eQ⟩,p2,_,rfl,rfl,eQ,?_⟩
  have hrv:(Qr.map V.int).reverse=Qr.reverse.map V.int:=by rw[List.map_reverse]
  rw[hrv];have g5:aH H (upd H2 p2 (.lst (Qr.reverse.map V.int))):=gg.bw f2 _;have hR5:upd H2 p2 (.lst (Qr.reverse.map V.int)) p1=j? (.lst (R.map V.int)):=by rw[aO hne];exact eR
  refine⟨_,rfl,_,rfl,p1,R,rfl,aP.of hR5,by omega,λp6 H6 g6 n6 e6=>⟨aZ rfl,λp7 n7=>?_⟩⟩
  have k7:=aA n7 (.tup [.ref p2,.ref p6]);have e2:=g6 _ _ (show upd H2 p2 (.lst (Qr.reverse.map V.int)) p2=j? (.lst (Qr.reverse.map V.int)) from ay)
  refine q Qr.reverse (trim R) (D.done hg hN) (λx hx=>(bQ x (List.mem_reverse.mp hx)).mono (by omega)) (bR.trim.mono (by omega)) p7 p2 p6 _ ((g5.trans g6).trans k7) f2 (g5.free n6) ?_ ay (k7 _ _ e2) (k7 _ _ e6)
  exact bL (show upd H2 p2 (.lst (Qr.reverse.map V.int)) p2=j? (.lst (Qr.reverse.map V.int)) from ay) n6
end
def rr (f:Fn)(n:Nat)(g:Fn)(L:Nat):Nat->Fn:=λi c=>bZ L λk=>g k*tk f n (k+i) c
theorem MK {f:Fn}{n:Nat}(hf:Top f n)(hn:1<=n)(k:Nat):lC f n (cv (xp 1) (tk f n k)) (tk f n (k+1)):=by
 refine⟨⟨λi=>if i=0 then tk f n k (n-1) else 0,1,λm hm=>W8 (by omega),λm=>?_⟩,wN hf hn (k+1)⟩
 have e1:cv (λi=>if i=0 then tk f n k (n-1) else 0) f m=tk f n k (n-1)*f m:=vD (W9 rfl) (λi hi=>W8 (by omega)) m
 rw[e1,jh];show _=_+((if m=0 then 0 else tk f n k (m-1))-tk f n k (n-1)*f m)
 by_cases c:1<=m
 ·rw[W9 c,W8 (by omega)];omega
 ·rw[W8 c,W9 (by omega)];omega
theorem vO {f:Fn}{n:Nat}(hf:Top f n)(hn:1<=n){g:Fn}{L:Nat}(hg:∀m,L<=m->g m=0):Rows f n g (rr f n g L):=by
 refine⟨?_,λi=>?_⟩
 ·have e:g=λc=>bZ L λk=>g k*xp (k+0) c:=by
   funext c
   rw[eY];by_cases y:c<L
   ·rw[jI (k:=c) y λk hk hne=>by unfold xp;rw[W8 (by omega),Y6]]
    unfold xp;rw[W9 (by omega),Wx]
   ·rw[hg _ (by omega),dB λk hk=>by unfold xp;rw[W8 (by omega),Y6]]
  have:=lC.sum (f:=f) (n:=n) (u:=λk=>xp (k+0)) (r:=λk=>tk f n (k+0)) g L λk _=>Dp hf hn (k+0)
  rw[<- e] at this;exact this
 ·have e:cv (xp 1) (rr f n g L i)=λc=>bZ L λk=>g k*cv (xp 1) (tk f n (k+i)) c:=by
   funext c
   rw[jh];by_cases z:1<=c
   ·rw[W9 z]
    exact aK λk hk=>by rw[jh,W9 z]
   ·rw[W8 z]
    exact(f7 λk hk=>by rw[jh,W8 z,Y6]).symm
  rw[e];exact lC.sum g L λk _=>MK hf hn (k+i)
theorem wD.Vr {u f q r:List Int}{n:Nat}(hl:f.length=n+1)(h:wD u f q r):lC (aq f) n (aq u) (aq r):=
 ⟨⟨aq q,q.length,λm hm=>bG hm,λm=>by rw[h.eq m,zT]⟩,λm hm=>bG (by have:=h.len;omega)⟩
theorem xC {f:List Int}{n:Nat}(hl:f.length=n+1)(hm:dR f):Top (aq f) n:=⟨by have:=hm.2;rw[hl] at this;exact this,λm h=>bG (by omega)⟩
theorem P1:aq [0,1]=xp 1:=by
 funext m
 match m with
 | 0=>rfl
 | 1=>rfl
 | m+2=>rw[bG (by show 2<=_;omega)];unfold xp;rw[W8 (by omega)]
def J6 (K:bE):Sp:=λvs H Q _=>∃(a b:o?) (f g:List Int) (n E:Nat),vs=[.ref a,.ref b]/\aP K H a (f.map V.int)/\aP K H b (g.map V.int)/\f.length=n+1/\1<=n/\n<=26/\g.length<=60/\dR f/\Norm g/\f6 5000 f/\f6 5000 g/\E<=9000/\n*(E+5)<9000/\
 (∀i j,i<=n->(rr (aq f) n (aq g) g.length i j).natAbs<=2 ^ E)/\∀H',aH H H'->Q (.int (det n λi j=>rr (aq f) n (aq g) g.length i j)) H'
section
theorem As (B:ia mg)(kH:b_ P w K mg base 1 "coefficient" DR (DV K))(mS:b_ P w K mg base 1 "multiplied" nC (J2 K))(pN:b_ P w K mg base 2 "divided" nC (J3 K))(yk:b_ P w K mg base 2 "determinant" ["table"] (NG K))(F:Src K mg "resultant" j_ nC):b_ P w K mg base 3 "resultant" nC (J6 K):=by
 refine F.ok fO (λvs H Q E h=>?_) (λfa cdv A outer s H vs Q E hr h=>?_)
 ·obtain⟨a,b,f,g,n,E,rfl,_⟩:=h;rfl
 obtain⟨a,b,f,g,n,E9,rfl,ha,hb,lf,hn1,hn,lg,mf,ng,bf,bg,hE,NI,bR,q⟩:=h;have hf:=xC lf mf;have hR:=vO hf hn1 (g:=aq g) (L:=g.length) λm hm=>bG hm
 generalize hrr:rr (aq f) n (aq g) g.length=R at hR bR q;refine⟨_,ai (aD (i:=2) fO.nd rfl (z? rfl) (av bO (aE (aN (K:=K) rfl) rfl B.len bI (af (pv 0) ah)) ak))
  (ai (aD (i:=3) fO.nd rfl (z? rfl) (bF ah))
  (ai (aD (i:=4) fO.nd rfl (Or.inr rfl) (bC (l_ (K:=K) rfl) (aF pN hr (af (pv 1) (af (pv 0) ah))) ak (λ_ _=>rfl)))
  (ai (cD D? rfl (bN rfl B.range (af (pv 2) ah)) (aB (i:=5) fO.nd rfl (z? rfl))
   (ai (d8 (qg R? F! G! dO (pv 3) (af (b8 (aI (N:=["place","rest"]) (sl:=[q?,j? 4]) (ao j_) ["f","g","degree","table","rest","turn"] rfl rfl (by decide +kernel)) rfl (bN rfl B.range (af (pv 2) ah)) (λ_ _ _ _ _=>(aB (i:=0) (Yk_ ["place","rest"]) rfl (z? rfl))) (λ_ _ _ _ _=>aU) (λ_ _ _ _ _=>(aF kH hr (af (pv 1) (af (pv 0) ah))))) ah)))
   (au (aD (i:=4) fO.nd rfl (Or.inr rfl) (bC (l_ (K:=K) rfl) (aF pN hr (af (aF mS hr (af (bF (af ak (af ak ah))) (af (pv 4) ah))) (af (pv 0) ah))) ak (λ_ _=>rfl))))))
  (au (aJ (aF yk hr (af (pv 3) ah))))))),?_⟩
 refine⟨_,rfl,a,_,rfl,.inl ha,?_⟩
 rw[Ya,lf];refine⟨_,_,rfl,rfl,aZ rfl,λp0 n0=>?_⟩
 have k0:=aA n0 (.lst []);refine⟨_,rfl,_,rfl,b,a,g,f,5000,5000,rfl,k0.seq hb,k0.seq ha,by omega,by omega,mf,bg,bf,by omega,λq0 r0 hd0 _ _ t0 qa ra H1 g1 n1 n2 hne et eq er=>?_⟩
 refine⟨t0,_,_,_,rfl,rfl,jv.of et,rfl,?_⟩
 have e0:aq r0=R 0:=lC.uniq hf (wD.Vr lf hd0) hR.zero;have l0:r0.length<=n:=by have:=hd0.len;omega
 have bdR:∀(r:List Int) (i:Nat),aq r=R i->i<=n->f6 9001 r:=λr i e hi=>tU λj _=>by
  rw[e];exact Z4 (bR i j hi) (Wf (by decide) (by omega))
 refine⟨_,rfl,_,rfl,by omega,by omega,?_⟩
 rw[show(((n+1:Nat):Int)-1).toNat=n by omega]
 refine cH (λi σ H2=>aH H H2/\∃(ts:List LP) (r:List Int) (ra:o?) (o:Option V),σ=[Rq a,Rq b,j? (.int (((n+1:Nat):Int)-1)),Rq p0,Rq ra,o]/\CU H2 p0 ts/\ts.length=i/\(∀t∈ts,t.2.length=n/\t.1≠p0)/\(∀x j,x<i->j<n->Ar (lvals ts) x j=R x j)/\H2 ra=j? (.lst (r.map V.int))/\aq r=R i/\r.length<=n/\Norm r/\ra≠p0)
  ⟨k0.trans g1,[],r0,ra,_,rfl,⟨g1 _ _ ay,λt ht=>by simp at ht⟩,rfl,λt ht=>by simp at ht,λx j hx=>Jf hx (by omega),er,e0,l0,hd0.nr,λz=>by rw[z,ay] at n2;cases n2⟩ ?_ ?_
 ·rintro i σ H2 hi ⟨g2,ts,r,ra,o,rfl,hT,lt,hts,QY,er,eR,lr,nr,YH⟩
  refine⟨_,rfl,.inl ⟨rfl,_,aP.of hT.top⟩,_,rfl,_,rfl,by omega,by omega,λD hD=>?_⟩
  rw[show(((n+1:Nat):Int)-1).toNat=n by omega]
  refine jF (λj ys H3=>aH H2 H3/\ys=((Ym j).map (R i)).map V.int) ⟨aA hD _,rfl⟩ (λj m ys H3 hm hj hy hlen h=>?_) (λys H3 hy h=>?_)
  ·obtain⟨g3,rfl⟩:=h
   rw[show(0:Int)+(j:Int)=((j:Nat):Int) by omega]
   refine⟨_,rfl,_,rfl,ra,r,j,rfl,aP.of (g3 _ _ er),?_⟩
   refine CW.emit hm hj (by rw[C?];omega) hy hlen ⟨aH.bw g3 hD _,?_⟩
   rw[Ww,Yt,Yt,eR];rfl
  ·obtain⟨g3,rfl⟩:=h
   have MH:=hT.same g3;have SA:D≠p0:=λz=>by rw[z,hT.top] at hD;cases hD
   refine⟨p0,_,_,rfl,rfl,MH.top,by rw[Ya,C?];omega,?_⟩
   have QX:=MH.snoc (t:=(D,(Ym n).map (R i))) (λt ht=>(hts t ht).2) hy SA
   have g4:aH H (L2.upd H3 p0 (.lst (lrefs ts++[V.ref D]))):=(g2.trans g3).bw n0 _;have YI:(L2.upd H3 p0 (.lst (lrefs ts++[V.ref D]))) ra=j? (.lst (r.map V.int)):=by rw[aO YH];exact g3 _ _ er
   generalize L2.upd H3 p0 (.lst (lrefs ts++[V.ref D]))=H4 at QX g4 YI ⊢;refine⟨aZ rfl,λl1 m1=>?_⟩
   have k1:=aA m1 (.lst [.int 0,.int 1]);have b01:f6 1000000 ([0,1]:List Int):=λx hx=>by
    simp only[Wp,Z6,or_false] at hx
    rcases hx with rfl|rfl <;> exact Bd.mono (m:=64) (Bd.small (by decide) (by decide)) (by decide)
   have Vs:f6 1 ([0,1]:List Int):=λx hx=>by
    simp only[Wp,Z6,or_false] at hx
    rcases hx with rfl|rfl <;> (show Zm _<2 ^ 1;decide)
   have br:=bdR r i eR (by omega)
   refine⟨_,rfl,l1,ra,[0,1],r,rfl,aP.of ay,aP.of (k1 _ _ YI),by decide,by omega,b01,br.mono (by decide),λpm H5 g5 n5 e5=>?_⟩
   have Vt:=k1.trans g5;have YJ:(ee [0,1] r).length<=28:=by
    unfold ee;split
    ·simp
    ·rw[Ya,Yg];show 2+r.length-1<=28;omega
   have Vu:f6 9010 (ee [0,1] r):=(Vs.ee br).mono (by show 1+9001+2<=9010;decide)
   have tot:9010+(ee [0,1] r).length*(5000+2)<=1000000:=by omega
   refine⟨_,rfl,pm,a,ee [0,1] r,f,9010,5000,rfl,aP.of e5,(g4.trans Vt).seq ha,by omega,by omega,mf,Vu,bf,tot,λq1 r1 hd1 _ _ t1 qa1 ra1 H6 g6 n6 n7 abl et1 eq1 er1=>?_⟩
   refine⟨t1,_,_,_,rfl,rfl,jv.of et1,rfl,?_⟩
   have e1:aq r1=R (i+1):=by
    have h1:=wD.Vr lf hd1;rw[Nk,P1,eR] at h1;exact lC.uniq hf h1 (hR.succ i)
   have Q6:=Vt.trans g6;refine⟨g4.trans Q6,ts++[(D,(Ym n).map (R i))],r1,ra1,_,rfl,QX.same Q6,by rw[Yk,lt];rfl,λt ht=>?_,λx j hx hj=>?_,er1,e1,by have:=hd1.len;omega,hd1.nr,λz=>by rw[z,(QX.same Vt).top] at n7;cases n7⟩
   ·rcases List.mem_append.mp ht with y|y
    ·exact hts t y
    ·have:t=(D,(Ym n).map (R i)):=by simpa using y
     rw[this];exact⟨by simp,SA⟩
   ·by_cases e:x=i
    ·have ex:x=ts.length:=by omega
     have:Ar (lvals (ts++[(D,(Ym n).map (R i))])) ts.length j=((Ym n).map (R i)).getD j 0:=by
      rw[qS (by rw[Yk];show _<_+1;omega)]
      simp
     rw[ex,this,<- ex,e,Yb,Ye,Y0 hj];rfl
    ·rw[qS (by rw[Yk];omega),List.getElem_append_left (by omega),<- qS (by omega)]
     exact QY x j (by omega) hj
 ·rintro σ H2 ⟨g2,ts,r,ra,o,rfl,hT,lt,hts,QY,er,eR,lr,nr,YH⟩
  have ed:det n (Ar (lvals ts))=det n λi j=>R i j:=cX λi j hi hj=>QY i j hi hj
  refine⟨_,rfl,p0,ts,n,E9,rfl,hT,⟨lt,λt ht=>(hts t ht).1⟩,hn,NI,λi j hi hj=>by rw[QY i j hi hj];exact bR i j (by omega),λH3 g3=>?_⟩
  rw[ed];exact q H3 (g2.trans g3)
end
theorem DY (f:List Int):(dl f).length=f.length-1:=by unfold dl;rw[Ya,Yg]
theorem P4 {f:List Int}{m:Nat}(h:f6 m f)(l:f.length<=1000):f6 (m+10) (dl f):=by
 intro x hx;obtain⟨i,hi,rfl⟩:=List.mem_map.mp hx;have hi':=List.mem_range.mp hi;have b1:Bd 10 ((i+1:Nat):Int):=show Zm _<2 ^ 10 by omega
 exact(b1.mul (h.aq _)).mono (by omega)
theorem NN (n:Nat)(h:n<=26):(n*(n-1) / 2 % 2=1->tg n=-1)/\(¬ n*(n-1) / 2 % 2=1->tg n=1):=by
 have key:∀n:Fin 27,(n.val*(n.val-1) / 2 % 2=1->tg n.val=-1)/\(¬ n.val*(n.val-1) / 2 % 2=1->tg n.val=1):=by decide +kernel
 exact key ⟨n,by omega⟩
def Au (K:bE):Sp:=λvs H Q _=>∃(a:o?) (f:List Int) (n E:Nat),vs=[.ref a]/\aP K H a (f.map V.int)/\f.length=n+1/\1<=n/\n<=26/\dR f/\f6 4990 f/\E<=9000/\n*(E+5)<9000/\
 (∀i j,i<=n->(rr (aq f) n (aq (dl f)) (dl f).length i j).natAbs<=2 ^ E)/\∀H',aH H H'->Q (.int (tg n*det n λi j=>rr (aq f) n (aq (dl f)) (dl f).length i j)) H'
section
theorem vj (B:ia mg)(GL:b_ P w K mg base 1 "derived" ["f"] (NK K))(oz:b_ P w K mg base 3 "resultant" nC (J6 K))(F:Src K mg "discriminant" jN ["f"]):b_ P w K mg base 4 "discriminant" ["f"] (Au K):=by
 refine F.ok ja (λvs H Q E h=>?_) (λfa cdv A outer s H vs Q E hr h=>?_)
 ·obtain⟨a,f,n,E,rfl,_⟩:=h;rfl
 obtain⟨a,f,n,E9,rfl,ha,lf,hn1,hn,mf,bf,hE,NI,bR,q⟩:=h;generalize hd:(det n λi j=>rr (aq f) n (aq (dl f)) (dl f).length i j)=D at q
 refine⟨_,ai (aD (i:=1) ja.nd rfl (z? rfl) (av bO (aE (aN (K:=K) rfl) rfl B.len bI (af (pv 0) ah)) ak))
  (ai (aD (i:=2) ja.nd rfl (z? rfl) (aF oz hr (af (pv 0) (af (aF GL hr (af (pv 0) ah)) ah))))
  (ai (cW (aW iV (av bK (av bU (av aX (pv 1) (av bO (pv 1) ak)) ak) ak) ak (bD _))
   (au (aJ (ni i7 (pv 2))))
   (bY))
  (au (aJ (pv 2))))),?_⟩
 refine⟨_,rfl,a,_,rfl,.inl ha,?_⟩
 rw[Ya,lf];refine⟨_,_,rfl,rfl,?_⟩
 show ig 1 (V.int (((n+1:Nat):Int)-1)) _ _ _
 rw[show((n+1:Nat):Int)-1=(n:Int) by omega]
 refine⟨_,rfl,_,rfl,a,f,rfl,ha,by omega,λpd H1 g1 n1 e1=>?_⟩
 refine⟨a,pd,f,dl f,n,E9,rfl,g1.seq ha,aP.of e1,lf,hn1,hn,by rw[DY];omega,mf,L6 (.inr (by rw[mf.2];decide)),bf.mono (by decide),P4 bf (by omega),hE,NI,bR,λH2 g2=>?_⟩
 rw[hd];have g:=g1.trans g2;obtain⟨t1,t2⟩:=NN n hn;have em:((((n:Int)*((n:Int)-1)).fdiv 2).fmod 2)=((n*(n-1) / 2 % 2:Nat):Int):=by
  obtain⟨k,rfl⟩:∃k,n=k+1:=⟨n-1,by omega⟩
  have e1:((k+1:Nat):Int)-1=(k:Int):=by omega
  have e2:k+1-1=k:=by omega
  rw[e1,e2,<- Zy,Zl _ (by decide),Y7 _ (by decide)]
  omega
 refine⟨_,rfl,_,rfl,_,_,rfl,rfl,_,_,rfl,rfl,gQ (by omega) (by omega),?_⟩
 refine⟨_,_,rfl,rfl,(Bd.small (by decide) (by decide)).dv (by decide),_,_,rfl,rfl,(by decide:(2:Int)≠0),rfl,_,rfl,?_⟩
 by_cases c:n*(n-1) / 2 % 2=1
 ·refine OT (by show V.int ((((n:Int)*((n:Int)-1)).fdiv 2).fmod 2)=V.int 1;rw[em,c];rfl) ?_
  have:=q H2 g
  rw[t1 c,show -1*D=- D by omega] at this
  exact⟨_,rfl,_,rfl,this⟩
 ·refine OS (λz=>c (by have z':V.int ((((n:Int)*((n:Int)-1)).fdiv 2).fmod 2)=V.int 1:=z;have:=V.int.inj z';rw[em] at this;omega)) ?_
  have:=q H2 g
  rw[t2 c,Zo] at this;exact⟨_,rfl,this⟩
end
section
def eN (l:List Int):El:=.vec (l.map El.num)
def Rw (p:Nat)(n:Nat)(l:List Int):Prop:=l.length=n/\∀x∈l,0<=x/\x<(p:Int)
theorem s_ {H:Hp}{ok:o?->Prop}{l:o?}{ns:List Int}(h:H l=j? (.lst (ns.map V.int)))(k:ok l):Rep H ok (.ref l) (eN ns):=.vec h k (by rw[Ya,Ya]) λi v e h1 h2=>by
 rw[Ye] at h1 h2;cases z:ns[i]? with
 | none=>rw[z] at h1;cases h1
 | some n=>rw[z] at h1 h2;cases h1;cases h2;exact .num n
theorem ints_rep {H:Hp}{ok:o?->Prop}{v:V}{ns:List Int}(h:Rep H ok v (eN ns)):∃l,v=.ref l/\H l=j? (.lst (ns.map V.int))/\ok l:=by
 unfold eN at h;generalize he:El.vec (ns.map El.num)=e at h;cases h with
 | num n=>cases he
 | @vec a vs l h k hl it=>
  injection he with he
  refine⟨a,rfl,?_,k⟩
  have:vs=ns.map V.int:=by
   refine Zr λi=>?_
   rw[Ye];cases z:ns[i]? with
   | none=>
    have:=List.getElem?_eq_none_iff.mp z
    rw[List.getElem?_eq_none_iff.mpr (by rw[hl,<- he,Ya];exact this)];rfl
   | some n=>
    have hi:=(List.getElem?_eq_some_iff.mp z).1;have h2:l[i]?=j? (.num n):=by rw[<- he,Ye,z];rfl
    have h1:vs[i]?=j? (vs[i]'(by rw[hl,<- he,Ya];exact hi)):=Yc _
    have:=it i _ _ h1 h2
    rw[h1];generalize vs[i]'(by rw[hl,<- he,Ya];exact hi)=y at this
    cases this;rfl
  rw[<- this];exact h
def zu:Sp:=λvs H Q _=>∃(p m:Nat) (i:Nat) (u v:V) (a b:List Int),vs=[u,v,.int (i:Int),.int (p:Int)]/\p∈PR/\Rep H Any u (eN a)/\Rep H Any v (eN b)/\Rw p m a/\Rw p m b/\i<m/\m<=100/\∀r H',aH H H'->Rep H' (dX H) r (eN (Z7 (λx y=>(x-a.getD i 0*y) % (p:Int)) a b))->Q r H'
theorem vm (B:ia mg)(F:Src K mg "without_lead" gX DM):b_ P w K mg base 1 "without_lead" DM zu:=by
 refine F.ok ny (λvs H Q E h=>?_) (λfa cdv A outer s H vs Q E hr h=>?_)
 ·obtain⟨p,m,i,u,v,a,b,rfl,_⟩:=h;rfl
 obtain⟨p,m,i,u,v,a,b,rfl,hp,ru,rv,ra,rb,hi,hm,q⟩:=h;obtain⟨la,rfl,hla,_⟩:=ints_rep ru;obtain⟨lb,rfl,hlb,_⟩:=ints_rep rv;refine⟨_,ai (aD (i:=4) ny.nd rfl (Or.inr rfl) (bC (aG (K:=K) rfl) (pv 0) (pv 2) (λ_ _=>rfl)))
  (au (aJ (b8 (aI (N:=PV) (sl:=[q?,q?,j? 4,j? 3]) (ao gX) ["row","lead_row","place","p","factor"] rfl rfl (by decide +kernel)) rfl (vL (K:=K) rfl rfl B.zip (af (pv 0) (af (pv 1) ah))) (λ_ _ _ _ _=>(cP (n:=2) (K:=K) rfl rfl (aS (aB (i:=0) (Yk_ PV) rfl (z? rfl)) (aS (aB (i:=1) (Yk_ PV) rfl (z? rfl)) cO)))) (λ_ _ _ _ _=>aU) (λ_ _ _ _ _=>(av bK (av bO (pv 0) (av aX (pv 2) (pv 1))) (pv 3)))))),?_⟩
 have pp:=cY hp;have hget:a[i]?=j? (a.getD i 0):=by rw[Yb,Yc (by rw[ra.1];exact hi)];rfl
 have hga:=ra.2 _ (Yw hget);generalize a.getD i 0=c at hget hga q;refine⟨_,rfl,_,rfl,la,_,_,_,rfl,rfl,aP.of hla,dQ (j:=i) (by rw[Ye,hget];rfl),?_⟩
 refine⟨_,rfl,_,rfl,la,lb,rfl,⟨_,aP.of hla⟩,⟨_,aP.of hlb⟩,λD hD=>?_⟩
 refine BE (xs:=a.map V.int) (ys:=b.map V.int) (λn zs H2=>aH H H2/\zs=((Z7 (λx y=>(x-c*y) % (p:Int)) a b).take n).map V.int) (by rw[Ya,Ya,ra.1,rb.1]) ⟨aA hD _,rfl⟩ (λn zs H2 _ h=>⟨aP.of (h.1 _ _ hla),aP.of (h.1 _ _ hlb)⟩) (λn m' vx vy zs H2 r hm hn lJ J7 hy hlen h hr2=>?_) (λzs H2 hy h=>?_)
 ·obtain⟨g2,rfl⟩:=h
  rw[Ya,ra.1] at hn;obtain⟨x,hx,rfl⟩:=a_ lJ;obtain⟨y,hy',rfl⟩:=a_ J7;have k2:=aA hr2 (.tup [.int x,.int y]);have yb:=rb.2 _ (Yw hy');refine⟨r,_,rfl,jv.of ay,rfl,_,_,rfl,_,_,rfl,rfl,?_⟩
  refine⟨_,rfl,_,rfl,_,rfl,_,_,rfl,rfl,ET (Bd.small (by omega) (by omega)) (Bd.small (by omega) (by omega)) (by decide),_,_,rfl,rfl,_,rfl,_,_,rfl,rfl,(show(p:Int)≠0 by omega),?_⟩
  refine CW.emit hm (by rw[Ya,ra.1];exact hn) (by rw[Ya,ra.1,C?];omega) (k2 _ _ hy) hlen ⟨aH.bw (g2.trans k2) hD _,?_⟩
  have hz:(Z7 (λx y=>(x-c*y) % (p:Int)) a b)[n]?=j? ((x-c*y) % (p:Int)):=by rw[List.getElem?_zipWith,hx,hy']
  rw[List.take_succ,hz,Yt];show _++[V.int ((x-c*y).fmod (p:Int))]=_++[V.int ((x-c*y) % (p:Int))]
  rw[Aa]
 ·obtain⟨g2,rfl⟩:=h
  rw[Zn (by rw[List.length_zipWith,Ya,ra.1,rb.1];omega)] at hy
  exact q _ _ g2 (s_ hy (show H D=q? from hD))
def zw:Sp:=λvs H Q _=>∃(p:Nat) (hp:p∈PR) (m i:Nat) (u:V) (a:List Int),vs=[u,.int (i:Int),.int (p:Int)]/\Rep H Any u (eN a)/\Rw p m a/\i<m/\m<=100/\a.getD i 0≠0/\∀(b:Nat) r H',(b*(a.getD i 0).toNat) % p=1->aH H H'->Rep H' (dX H) r (eN (a.map λx=>((b:Int)*x) % (p:Int)))->Q r H'
theorem uu (B:ia mg)(F:Src K mg "with_lead_one" gi JX):b_ P w K mg base 1 "with_lead_one" JX zw:=by
 refine F.ok iE (λvs H Q E h=>?_) (λfa cdv A outer s H vs Q E hr h=>?_)
 ·obtain⟨p,hp,m,i,u,a,rfl,_⟩:=h;rfl
 obtain⟨p,hp,m,i,u,a,rfl,ru,ra,hi,hm,h0,q⟩:=h;obtain⟨la,rfl,hla,_⟩:=ints_rep ru;refine⟨_,ai (aD (i:=3) iE.nd rfl (Or.inr rfl) ak)
  (ai (eV D? (aW kY (av bK (av aX (pv 3) (bC (aG (K:=K) rfl) (pv 0) (pv 1) (λ_ _=>rfl))) (pv 2)) ak (bD _))
   (au (zD (i:=3) iE.nd rfl (Or.inr rfl) ak zF)))
  (au (aJ (b8 (aI (N:=["one","back","p"]) (sl:=[q?,j? 3,j? 2]) (ao gi) ["row","place","p","back"] rfl rfl (by decide +kernel)) rfl (bM (K:=K) rfl (pv 0)) (λ_ _ _ _ _=>(aB (i:=0) (Yk_ ["one","back","p"]) rfl (z? rfl))) (λ_ _ _ _ _=>aU) (λ_ _ _ _ _=>(av bK (av aX (pv 1) (pv 0)) (pv 2))))))),?_⟩
 have pp:=cY hp;have hget:a[i]?=j? (a.getD i 0):=by rw[Yb,Yc (by rw[ra.1];exact hi)];rfl
 have hga:=ra.2 _ (Yw hget);generalize a.getD i 0=c at hget hga h0 q;obtain⟨cn,rfl⟩:=Zj hga.1;obtain⟨y,hy,e1⟩:=Dz p hp cn (by omega) (by omega)
 have e1:cn*y % p=1:=by rw[e1];exact Z5 (by omega)
 have y0:y≠0:=λz=>by rw[z,Nat.mul_zero,Nat.zero_mod] at e1;omega
 refine jH (λσ H2=>H2=H/\∃b:Nat,σ=[Rq la,Iq (i),Iq (p),Iq (b)]/\1<=b/\b<=y) (λσ _=>match σ with | [_,_,_,j? (.int b)]=>(y:Nat)-b.toNat|_=>0) ⟨rfl,1,rfl,Yd 1,by omega⟩ ?_
 rintro σ H2 ⟨rfl,b,rfl,b1,b2⟩;refine⟨_,rfl,_,rfl,_,rfl,la,_,_,_,rfl,rfl,aP.of hla,dQ (j:=i) (by rw[Ye,hget];rfl),_,_,rfl,rfl,ET (Bd.small (by omega) (by omega)) (Bd.small (by omega) (by omega)) (by decide),_,rfl,_,_,rfl,rfl,(show(p:Int)≠0 by omega),?_⟩
 have ev:((b:Int)*(cn:Int)).fmod (p:Int)=((b*cn % p:Nat):Int):=by rw[Aa,<- Zy,<- Int.natCast_emod]
 refine⟨rfl,_,rfl,?_⟩
 by_cases e:b*cn % p=1
 ·refine k8 (by show V.int (((b:Int)*(cn:Int)).fmod (p:Int))=V.int 1;rw[ev,e];rfl) ?_
  refine⟨_,rfl,la,rfl,⟨_,aP.of hla⟩,λD hD=>?_⟩
  refine fN (xs:=a.map V.int) (λn zs H3=>aH H2 H3/\zs=((a.map λx=>((b:Int)*x) % (p:Int)).take n).map V.int) ⟨aA hD _,rfl⟩ (λn zs H3 _ h=>aP.of (h.1 _ _ hla)) ?_ ?_
  ·rintro n m' vx zs H3 hm' hn lJ hy' hlen ⟨g3,rfl⟩
   rw[Ya,ra.1] at hn;obtain⟨x,hx,rfl⟩:=a_ lJ;have xb:=ra.2 _ (Yw hx);refine⟨_,rfl,_,rfl,_,_,rfl,rfl,ET (Bd.small (by omega) (by omega)) (Bd.small (by omega) (by omega)) (by decide),_,rfl,_,_,rfl,rfl,(show(p:Int)≠0 by omega),?_⟩
   refine CW.emit hm' (by rw[Ya,ra.1];exact hn) (by rw[Ya,ra.1,C?];omega) hy' hlen ⟨aH.bw g3 hD _,?_⟩
   have hz:(a.map λx=>((b:Int)*x) % (p:Int))[n]?=j? (((b:Int)*x) % (p:Int)):=by rw[Ye,hx];rfl
   rw[List.take_succ,hz,Yt];show _++[V.int (((b:Int)*x).fmod (p:Int))]=_++[V.int (((b:Int)*x) % (p:Int))]
   rw[Aa]
  ·rintro zs H3 hy' ⟨g3,rfl⟩
   rw[Zn (by rw[Ya,Ya];omega)] at hy'
   exact q b _ _ (by rw[Yf];exact e) g3 (s_ hy' (show H2 D=q? from hD))
 ·refine Bh (λz=>e ?_) ?_
  ·have z:V.int (((b:Int)*(cn:Int)).fmod (p:Int))=V.int 1:=z
   rw[ev] at z;injection z with z
   omega
  ·have hne:b≠y:=λz=>e (by rw[z,Ws];exact e1)
   refine win ⟨_,rfl,_,_,rfl,rfl,⟨rfl,b+1,rfl,by omega,by omega⟩,?_⟩
   show y-((b:Int)+1).toNat<y-(b:Int).toNat
   omega
def Fv (K:bE):Sp:=λvs H Q _=>∃(p m i:Nat) (u:V) (R:List (List Int)),vs=[u,.int (i:Int)]/\Rep H Any u (.vec (R.map eN))/\(∀a∈R,Rw p m a)/\i<m/\R.length<=100/\
 (∀(t:Nat) (a:List Int) H',aH H H'->R[t]?=j? a->a.getD i 0≠0->Q (.int (t:Int)) H')/\((∀a∈R,a.getD i 0=0)->∀H',aH H H'->Q .eZ H')
theorem yl (B:ia mg)(F:Src K mg "first_lead" mH JY):b_ P w K mg base 1 "first_lead" JY (Fv K):=by
 refine F.ok kF (λvs H Q E h=>?_) (λfa cdv A outer s H vs Q E hr h=>?_)
 ·obtain⟨p,m,i,u,R,rfl,_⟩:=h;rfl
 obtain⟨p,m,i,u,R,rfl,ru,rw',hi,hR,q1,q2⟩:=h;refine⟨_,ai (cD D? rfl (iX (K:=K) rfl rfl B.enumerate (af (pv 0) ah)) (cP (n:=2) (K:=K) rfl rfl (aS (aB (i:=2) kF.nd rfl (z? rfl)) (aS (aB (i:=3) kF.nd rfl (z? rfl)) cO)))
   (au (cW (aW kY (bC (aG (K:=K) rfl) (pv 3) (pv 1) (λ_ _=>rfl)) ak (bD _))
    (au (aJ (pv 2)))
    (bY))))
  (au (aJ tL)),?_⟩
 rw[t7] at ru;obtain⟨l,vs,rfl,hl,_,C⟩:=id ru.cf;have lv:vs.length=R.length:=by rw[C.len,Ya]
 refine⟨_,rfl,l,rfl,⟨_,aP.of hl⟩,lB (st:=0) (xs:=vs) (λn σ H2=>aH H H2/\(∀(t:Nat) a,t<n->R[t]?=j? a->a.getD i 0=0)/\∃o1 o2,σ=[Rq l,Iq (i),o1,o2]) ⟨aH.refl H,λt a ht=>Jf ht (Wm _),_,_,rfl⟩ (λn σ H2 _ h=>aP.of (h.1 _ _ hl)) ?_ ?_⟩
 ·rintro n v σ H2 r hv ⟨g2,h2,o1,o2,rfl⟩ hr2
  obtain⟨hn,rv⟩:=C.get hv;have T_:n<R.length:=by rw[Ya] at hn;exact hn
  have e:(R.map eN).getD n (.num 0)=eN R[n]:=by rw[Yb,Ye,Yc T_];rfl
  rw[e] at rv;have k2:=aA hr2 (.tup [.int ((0+n:Nat):Int),v]);have e3:(upd H2 r (.tup [.int ((0+n:Nat):Int),v])) r=j? (.tup [.int ((0+n:Nat):Int),v]):=ay;generalize upd H2 r (.tup [.int ((0+n:Nat):Int),v])=H3 at k2 e3;have wn:=rw' _ (Yz T_);obtain⟨la,rfl,hla,_⟩:=ints_rep ((rv.same g2).same k2);have hget:R[n][i]?=j? (R[n].getD i 0):=by rw[Yb,Yc (by rw[wn.1];exact hi)];rfl
  refine⟨r,_,rfl,jv.of e3,rfl,_,_,rfl,_,_,rfl,rfl,?_⟩
  refine⟨_,rfl,_,rfl,la,_,_,_,rfl,rfl,aP.of hla,dQ (j:=i) (by rw[Ye,hget];rfl),rfl,_,rfl,?_⟩
  by_cases z:R[n].getD i 0=0
  ·refine k8 (by rw[z]) ⟨g2.trans k2,λt a ht hat=>?_,_,_,rfl⟩
   by_cases c:t<n
   ·exact h2 t a c hat
   ·obtain rfl:t=n:=by omega
    rw[Yc T_] at hat;cases hat;exact z
  ·refine Bh (λy=>z (V.int.inj y)) ⟨_,rfl,?_⟩
   rw[W2];exact q1 n _ _ (g2.trans k2) (Yc T_) z
 ·rintro σ H2 ⟨g2,h2,o1,o2,rfl⟩
  refine q2 (λa ha=>?_) _ g2
  obtain⟨t,ht,rfl⟩:=Wa ha;exact h2 t _ (by omega) (Yc ht)
theorem vP {β:Type}{l:List β}{t:Nat}(ht:t<l.length)(i:Nat):(l.take t++l.drop (t+1))[i]?=l[if i<t then i else i+1]?:=by
 by_cases h:i<t
 ·rw[W9 h,Y2 (by rw[Ys];omega),List.getElem?_take_of_lt h]
 ·rw[W8 h,Y4 (by rw[Ys];omega),Ys,List.getElem?_drop]
  congr 1
  omega
theorem Rw.get {p m:Nat}{l:List Int}(h:Rw p m l)(j:Nat):0<=l.getD j 0/\(l.getD j 0<(p:Int)\/l.getD j 0=0):=by
 rw[Yb];cases e:l[j]? with
 | none=>exact⟨Int.le_refl 0,.inr rfl⟩
 | some x=>have:=h.2 x (Yw e);exact⟨this.1,.inl this.2⟩
def zr {p:Nat}(hp:p∈PR)(l:List Int)(j:Nat):(ground p hp).α:=nt (ground p hp).α (l.getD j 0).toNat
theorem J8 {p:Nat}(hp:p∈PR){x y:Int}(hx:0<=x)(hy:0<=y)(h:x % (p:Int)=y % (p:Int)):nt (ground p hp).α x.toNat=nt (ground p hp).α y.toNat:=by
 rw[<- DH (ground p hp).ch x.toNat,<- DH (ground p hp).ch y.toNat];congr 1
 show x.toNat % p=y.toNat % p
 have e1:((x.toNat % p:Nat):Int)=x % (p:Int):=by rw[Int.natCast_emod,Wi hx]
 have e2:((y.toNat % p:Nat):Int)=y % (p:Int):=by rw[Int.natCast_emod,Wi hy]
 omega
theorem qU {p m:Nat}(hp:p∈PR){a b:List Int}{c:Int}(ra:Rw p m a)(rb:Rw p m b)(c0:0<=c)(j:Nat):zr hp (Z7 (λx y=>(x-c*y) % (p:Int)) a b) j=zr hp a j-nt (ground p hp).α c.toNat*zr hp b j:=by
 have pp:=cY hp;have key:∀x y:Int,0<=x->0<=y->nt (ground p hp).α ((x-c*y) % (p:Int)).toNat=nt (ground p hp).α x.toNat-nt (ground p hp).α c.toNat*nt (ground p hp).α y.toNat:=λx y hx hy=>by
  have h:nt (ground p hp).α ((x-c*y) % (p:Int)).toNat+nt (ground p hp).α (c.toNat*y.toNat)=nt (ground p hp).α x.toNat:=by
   rw[<- wW];have hm:=Zg (x-c*y) (show(p:Int)≠0 by omega)
   have hcy:0<=c*y:=Wz c0 hy;have e:(((x-c*y) % (p:Int)).toNat+c.toNat*y.toNat:Nat)=((x-c*y) % (p:Int)+c*y).toNat:=by
    have:((c.toNat*y.toNat:Nat):Int)=c*y:=by rw[Zy,Wi c0,Wi hy]
    omega
   rw[e];refine J8 hp (by omega) hx ?_
   rw[Int.emod_add_emod];congr 1
   omega
  rw[tZ] at h;grind
 unfold zr;by_cases hj:j<m
 ·have h1:a[j]?=j? (a.getD j 0):=by rw[Yb,Yc (by rw[ra.1];exact hj)];rfl
  have h2:b[j]?=j? (b.getD j 0):=by rw[Yb,Yc (by rw[rb.1];exact hj)];rfl
  have h3:(Z7 (λx y=>(x-c*y) % (p:Int)) a b).getD j 0=(a.getD j 0-c*b.getD j 0) % (p:Int):=by rw[Yb,List.getElem?_zipWith,h1,h2];rfl
  rw[h3];exact key _ _ (ra.get j).1 (rb.get j).1
 ·have h1:a.getD j 0=0:=by rw[Yb,Wn (by rw[ra.1];omega)];rfl
  have h2:b.getD j 0=0:=by rw[Yb,Wn (by rw[rb.1];omega)];rfl
  have h3:(Z7 (λx y=>(x-c*y) % (p:Int)) a b).getD j 0=0:=by rw[Yb,Wn (by rw[List.length_zipWith,ra.1,rb.1];omega)];rfl
  rw[h1,h2,h3];show(0:(ground p hp).α)=0-nt (ground p hp).α c.toNat*0
  grind
theorem Rw.without {p m:Nat}(hp:p∈PR){a b:List Int}{c:Int}(ra:Rw p m a)(rb:Rw p m b):Rw p m (Z7 (λx y=>(x-c*y) % (p:Int)) a b):=by
 have pp:=cY hp;refine⟨by rw[List.length_zipWith,ra.1,rb.1,Nat.min_self],λx hx=>?_⟩
 obtain⟨i,hi,rfl⟩:=Wa hx;rw[List.getElem_zipWith];exact⟨Zg _ (by omega),Zd _ (by omega)⟩
theorem Av {p m:Nat}(hp:p∈PR){a:List Int}{b:Nat}(ra:Rw p m a)(j:Nat):zr hp (a.map λx=>((b:Int)*x) % (p:Int)) j=nt (ground p hp).α b*zr hp a j:=by
 have pp:=cY hp;unfold zr;have h3:(a.map λx=>((b:Int)*x) % (p:Int)).getD j 0=((b:Int)*a.getD j 0) % (p:Int):=by
  rw[Yb,Yb,Ye];cases a[j]? with
  | none=>show(0:Int)=((b:Int)*0) % (p:Int);simp
  | some x=>rfl
 have h0:=(ra.get j).1;rw[h3,<- tZ];have e:(b*(a.getD j 0).toNat:Nat)=((b:Int)*a.getD j 0).toNat:=by
  have:((b*(a.getD j 0).toNat:Nat):Int)=(b:Int)*a.getD j 0:=by rw[Zy,Wi h0]
  omega
 rw[e];exact J8 hp (Zg _ (by omega)) (Wz (by omega) h0) (Int.emod_emod _ _)
theorem Rw.lead {p m:Nat}(hp:p∈PR){a:List Int}{b:Nat}(ra:Rw p m a):Rw p m (a.map λx=>((b:Int)*x) % (p:Int)):=by
 have pp:=cY hp;refine⟨by rw[Ya,ra.1],λx hx=>?_⟩
 obtain⟨y,_,rfl⟩:=List.mem_map.mp hx;exact⟨Zg _ (by omega),Zd _ (by omega)⟩
def f_ (n t:Nat):List Int:=(Ym n).map λj=>if j=t then 1 else 0
theorem BZ {p W n:Nat}(hp:p∈PR){R:List (List Int)}(hn:R.length=n)(hR:∀a∈R,Rw p W a){t:Nat}{a:List Int}(ht:R[t]?=j? a):zr hp (a++f_ n t)=j0 W n (λr j=>zr hp (R.getD r []) j) t:=by
 funext j
 have ra:=hR a (Yw ht);have et:R.getD t []=a:=by rw[Yb,ht];rfl
 show nt (ground p hp).α ((a++f_ n t).getD j 0).toNat=if j<W then zr hp (R.getD t []) j else if j<W+n then (if j-W=t then 1 else 0) else 0
 have lu:(f_ n t).length=n:=by unfold f_;rw[Ya,Yg]
 by_cases h1:j<W
 ·rw[W9 h1,et,Yb,Y2 (by rw[ra.1];exact h1)]
  unfold zr;rw[Yb]
 ·rw[W8 h1,Yb,Y4 (by rw[ra.1];omega),ra.1]
  by_cases h2:j<W+n
  ·rw[W9 h2]
   unfold f_;rw[Ye,Y0 (by omega)]
   show nt (ground p hp).α (if j-W=t then (1:Int) else 0).toNat=_
   by_cases h3:j-W=t
   ·rw[W9 h3,W9 h3];exact wX
   ·rw[W8 h3,W8 h3];rfl
  ·rw[W8 h2,Wn (by rw[lu];omega)];rfl
def ML {α:Type}[Lean.Grind.CommRing α](W n:Nat)(S:List (Nat->α)):Prop:=∃ι:Nat->Nat,(∀u,u<S.length->ι u<n)/\∀(t u:Nat) s,S[t]?=j? s->u<S.length->s (W+ι u)=if t=u then 1 else 0
theorem ML.step {α:Type}[Lean.Grind.CommRing α]{W n t k:Nat}{S S':List (Nat->α)}{s0 r:Nat->α}{b:α}(h:ML W n S)(ht:S[t]?=j? s0)(er:∀j,r j=b*s0 j)(hl:S'.length+1=S.length)(hs:∀(i:Nat) s',S'[i]?=j? s'->∃s,S[if i<t then i else i+1]?=j? s/\∀j,s' j=s j-s k*r j):ML W n S':=by
 obtain⟨ι,h1,h2⟩:=h;have Vo:=(List.getElem?_eq_some_iff.mp ht).1;refine⟨λu=>ι (if u<t then u else u+1),λu hu=>h1 _ (by split <;> omega),λi u s' hi hu=>?_⟩
 obtain⟨s,hs1,hs2⟩:=hs i s' hi;have hk:(if u<t then u else u+1)<S.length:=by split <;> omega
 have e1:=h2 _ _ s hs1 hk;have e2:=h2 _ _ s0 ht hk;rw[W8 (show ¬ t=(if u<t then u else u+1) by split <;> omega)] at e2
 show s' (W+ι (if u<t then u else u+1))=_
 rw[hs2,er,e1,e2];by_cases c:i=u
 ·rw[W9 (by rw[c]),W9 c];grind
 ·rw[W8 (show ¬ (if i<t then i else i+1)=(if u<t then u else u+1) by split <;> split <;> omega),W8 c];grind
theorem ML.start {α:Type}[Lean.Grind.CommRing α]{W n:Nat}{R:Nat->Nat->α}:ML W n ((Ym n).map (j0 W n R)):=by
 refine⟨λu=>u,λu hu=>by rw[Ya,Yg] at hu;exact hu,λt u s hs hu=>?_⟩
 rw[Ya,Yg] at hu;rw[Ye] at hs;have ht:t<n:=by
  rcases Nat.lt_or_ge t n with y|y
  ·exact y
  ·rw[List.getElem?_eq_none_iff.mpr (by rw[Yg];exact y)] at hs;cases hs
 rw[Y0 ht] at hs;cases hs;show(if W+u<W then R t (W+u) else if W+u<W+n then (if W+u-W=t then (1:α) else 0) else 0)=_
 rw[W8 (by omega),W9 (by omega),Wh]
 by_cases c:t=u
 ·rw[W9 c,W9 c.symm]
 ·rw[W8 c,W8 λz=>c z.symm]
def B0:Sp:=λvs H Q _=>∃(p:Nat) (hp:p∈PR) (W:Nat) (v:V) (R:List (List Int)),vs=[v,.int (p:Int)]/\Rep H Any v (.vec (R.map eN))/\1<=R.length/\R.length<=50/\W<=50/\(∀a∈R,Rw p W a)/\
 ∀(S:List (List Int)) r H',aH H H'->(∀l∈S,Rw p (W+R.length) l)->S.length<=50->(∀l∈S,∃i,i<R.length/\l.getD (W+i) 0≠0)->CY W R.length (λr j=>zr hp (R.getD r []) j) W (S.map (zr hp))->Rep H' (dX H) r (.vec (S.map λl=>eN (l.drop W)))->Q r H'
theorem GN (B:ia mg)(xD:b_ P w K mg base 1 "without_lead" DM zu)(vn:b_ P w K mg base 1 "with_lead_one" JX zw)(Aw:b_ P w K mg base 1 "first_lead" JY (Fv K))(F:Src K mg "kernel" iY ["rows","p"]):b_ P w K mg base 2 "kernel" ["rows","p"] B0:=by
 refine F.ok gH (λvs H Q E h=>?_) (λfa cdv A outer s H vs Q E hr h=>?_)
 ·obtain⟨p,hp,W,v,R,rfl,_⟩:=h;rfl
 obtain⟨p,hp,W,v,R,rfl,rv,n1,n2,hW,hR,q⟩:=h;refine⟨_,ai (aD (i:=2) gH.nd rfl (Or.inr rfl) (aE (aN (K:=K) rfl) rfl B.len bI (af (pv 0) ah)))
  (ai (aD (i:=3) gH.nd rfl (Or.inr rfl) (aE (aN (K:=K) rfl) rfl B.len bI (af (bC (aG (K:=K) rfl) (pv 0) ak (λ_ _=>rfl)) ah)))
  (ai (Io (i:=4) gH.nd rfl (z? rfl) (f9 (N:=["at","row","many"]) (sl:=[q?,q?,j? 2]) "at" (ao iY) T6 rfl rfl (by decide +kernel)) rfl (iX (K:=K) rfl rfl B.enumerate (af (pv 0) ah)) (λ_ _ _ _ _=>(cP (n:=2) (K:=K) rfl rfl (aS (aB (i:=0) (Yk_ ["at","row","many"]) rfl (Or.inr rfl)) (aS (aB (i:=1) (Yk_ ["at","row","many"]) rfl (z? rfl)) cO)))) (λ_ _ _ _ _=>aU) (λ_ _ _ _ _=>(av gm (pv 1) (b8 (aI (N:=["place","at"]) (sl:=[q?,j? 0]) (nQ (zZ ((cB iY).getD 2 (.Pass ⟨0,0,0,0⟩))) (ao iY)) ["at","row","many"] rfl rfl (by decide +kernel)) rfl (bN rfl B.range (af (pv 2) ah)) (λ_ _ _ _ _=>(aB (i:=0) (Yk_ ["place","at"]) rfl (z? rfl))) (λ_ _ _ _ _=>aU) (λ_ _ _ _ _=>(vX (aW iV (pv 0) (pv 1) (bD _)) ak ak))))))
  (ai (cD D? rfl (bN rfl B.range (af (pv 3) ah)) (aB (i:=5) gH.nd rfl (Or.inr rfl))
   (ai (aD (i:=6) gH.nd rfl (z? rfl) (aF Aw hr (af (pv 4) (af (pv 5) ah))))
   (au (cW (aW HJ (pv 6) tL (bD _))
    (ai (aD (i:=7) gH.nd rfl (Or.inr rfl) (aF vn hr (af (bC (aG (K:=K) rfl) (pv 4) (pv 6) (λ_ _=>rfl)) (af (pv 5) (af (pv 1) ah)))))
    (au (lY (i:=4) gH.nd rfl (z? rfl) (aI (N:=DM) (sl:=[q?,j? 7,j? 5,j? 1]) (ao iY) T6 rfl rfl (by decide +kernel)) rfl (bM (K:=K) rfl (av gm (eW (eX (K:=K) rfl) (pv 4) gb (gc (pv 6))) (eW (eX (K:=K) rfl) (pv 4) (gc (av b9 (pv 6) ak)) gb))) (λ_ _ _ _ _=>(aB (i:=0) (Yk_ DM) rfl (z? rfl))) (λ_ _ _ _ _=>aU) (λ_ _ _ _ _=>(aF xD hr (af (pv 0) (af (pv 1) (af (pv 2) (af (pv 3) ah)))))))))
    (bY)))))
  (au (aJ (b8 (aI (N:=["row","width"]) (sl:=[q?,j? 3]) (ao iY) T6 rfl rfl (by decide +kernel)) rfl (bM (K:=K) rfl (pv 4)) (λ_ _ _ _ _=>(aB (i:=0) (Yk_ ["row","width"]) rfl (z? rfl))) (λ_ _ _ _ _=>aU) (λ_ _ _ _ _=>(eW (eX (K:=K) rfl) (pv 0) (gc (pv 1)) gb)))))))),?_⟩
 have pp:=cY hp;have rv0:=rv;rw[t7] at rv;obtain⟨l,vs,rfl,hl,_,C⟩:=id rv.cf;have lv:vs.length=R.length:=by rw[C.len,Ya]
 have SD:∀ {i:Nat} {x:V} {H2:Hp},aH H H2->vs[i]?=j? x->∃a,R[i]?=j? a/\Rep H2 Any x (eN a):=λg hx=>by
  obtain⟨hi,r⟩:=C.get hx;rw[Ya] at hi;refine⟨_,Yc hi,?_⟩
  rw[Yb,Ye,Yc hi] at r;exact r.same g
 obtain⟨v0,hv0⟩:∃v0,vs[0]?=j? v0:=⟨_,Yc (by omega)⟩
 obtain⟨a0,ha0,r0⟩:=SD (aH.refl H) hv0;obtain⟨l0,rfl,HH,_⟩:=ints_rep r0;have w0:=(hR a0 (Yw ha0)).1;refine sQ (λ_:Unit=>[Rq l,Iq (p),Iq (R.length),q?,q?,q?,q?,q?]) (λ_ H2=>H=H2) (λC' key=>⟨_,rfl,l,_,rfl,.inl (aP.of hl),Jg key () rfl (by rw[lv];rfl)⟩) ?_
 rintro _ _ rfl;refine sQ (λ_:Unit=>[Rq l,Iq (p),Iq (R.length),Iq (W),q?,q?,q?,q?]) (λ_ H2=>H=H2) (λC' key=>⟨_,rfl,l,_,_,_,rfl,rfl,aP.of hl,dQ (j:=0) hv0,l0,_,rfl,.inl (aP.of HH),Jg key () rfl (by rw[Ya,w0];rfl)⟩) ?_
 rintro _ _ rfl;refine sQ (λi:o?×List (List Int)=>[Rq l,Iq (p),Iq (R.length),Iq (W),Rq i.1,q?,q?,q?]) (λi H2=>aH H H2/\Rep H2 (dX H) (.ref i.1) (.vec (i.2.map eN))/\i.2=(Ym R.length).map λt=>R.getD t []++f_ R.length t) (λC' key=>?_) ?_
 ·skip
  refine⟨_,rfl,l,rfl,⟨_,aP.of hl⟩,λD hD=>?_⟩
  refine yV (TJ:=0) (xs:=vs) (λi ys H2=>aH H H2/\Cf H2 (Off H D) ys i λt=>eN (R.getD t []++f_ R.length t)) ⟨aA hD _,.nil⟩ (λi ys H2 _ h=>aP.of (h.1 _ _ hl)) ?_ ?_
  ·rintro t m' x ys H2 r hm' ht hx hy hlen ⟨g2,cy⟩ hr2
   have htR:t<R.length:=by omega
   obtain⟨a,ha,ra⟩:=SD g2 hx;have wa:=hR a (Yw ha);have k2:=aA hr2 (.tup [.int ((0+t:Nat):Int),x]);have e3:(upd H2 r (.tup [.int ((0+t:Nat):Int),x])) r=j? (.tup [.int ((0+t:Nat):Int),x]):=ay;generalize upd H2 r (.tup [.int ((0+t:Nat):Int),x])=H3 at k2 e3;obtain⟨la,rfl,hla,_⟩:=ints_rep (ra.same k2);refine⟨r,_,rfl,jv.of e3,rfl,_,_,rfl,_,_,rfl,rfl,?_⟩
   refine⟨_,rfl,_,rfl,_,rfl,by omega,by omega,λD2 yi=>?_⟩
   rw[Yf];refine jF (λj zs H4=>aH H3 H4/\zs=((f_ R.length t).take j).map V.int) ⟨aA yi _,rfl⟩ ?_ ?_
   ·rintro j m2 zs H4 hm2 hj hz hlz ⟨g4,rfl⟩
    have hu:(f_ R.length t)[j]?=j? (if j=t then 1 else 0):=by unfold f_;rw[Ye,Y0 hj];rfl
    refine⟨_,rfl,_,rfl,rfl,_,rfl,?_⟩
    have fin:∀w:Int,(if j=t then (1:Int) else 0)=w->∃ys,H4 D2=j? (.lst ys)/\ys.length<K?/\∃m',m'<m2/\CW R.length D2 (λj zs H4=>aH H3 H4/\zs=((f_ R.length t).take j).map V.int) (j+1) m' (upd H4 D2 (.lst (ys++[V.int w]))):=λw hw=>
     CW.emit hm2 hj (by rw[C?];omega) hz hlz ⟨aH.bw g4 yi _,by rw[List.take_succ,hu,hw,Yt];rfl⟩
    by_cases c:j=t
    ·refine OT (by rw[c];congr 1;try omega) (fin 1 (W9 c))
    ·refine OS (λz=>c ?_) (fin 0 (W8 c))
     injection z with z
     omega
   ·rintro zs H4 hz ⟨g4,rfl⟩
    rw[Zn (by unfold f_;rw[Ya,Yg];exact Yd _)] at hz
    have lu:(f_ R.length t).length=R.length:=by unfold f_;rw[Ya,Yg]
    refine⟨la,D2,_,_,rfl,rfl,g4 _ _ hla,hz,by rw[Ya,Ya,wa.1,lu,C?];omega,λl5 n5=>?_⟩
    have k5:=aA n5 (.lst (a.map V.int++(f_ R.length t).map V.int));have e5:(upd H4 l5 (.lst (a.map V.int++(f_ R.length t).map V.int))) l5=j? (.lst ((a++f_ R.length t).map V.int)):=by rw[Yt];exact ay
    generalize upd H4 l5 (.lst (a.map V.int++(f_ R.length t).map V.int))=H5 at k5 e5;have NO:=(k2.trans g4).trans k5;have Vv:∀c,H2 c=q?->c≠D:=λc hc z=>by rw[z,hy] at hc;cases hc
    have YK:H2 l5=q?:=(k2.trans g4).free n5;refine CW.emit hm' ht (by rw[lv,C?];omega) (NO _ _ hy) hlen ⟨aH.bw (g2.trans NO) hD _,?_⟩
    refine(Cf.push (cy.same NO) ?_).upd
    have et:R.getD t []=a:=by rw[Yb,ha];rfl
    rw[et];exact s_ e5 ⟨g2.free YK,Vv _ YK⟩
  ·rintro ys H2 hy ⟨g2,cy⟩
   refine Jg key (D,(Ym R.length).map λt=>R.getD t []++f_ R.length t) ⟨g2,?_,rfl⟩ rfl
   show Rep H2 (dX H) (.ref D) (.vec (((Ym R.length).map λt=>R.getD t []++f_ R.length t).map eN))
   rw[W4];rw[lv] at cy;exact(cy.imp λc o h k=>⟨h,k.1⟩).rep hy hD
 rintro⟨lf,S⟩ H3 ⟨g3,rf,eS⟩
 have rf:Rep H3 (dX H) (.ref lf) (.vec (S.map eN)):=rf;have lS:S.length<=50:=by rw[show S=_ from eS,Ya,Yg];exact n2
 have hS:∀l∈S,Rw p (W+R.length) l:=λl hl'=>by
  rw[show S=_ from eS] at hl'
  obtain⟨t,ht,rfl⟩:=List.mem_map.mp hl';have ht:=List.mem_range.mp ht;have wt:=hR (R.getD t []) (by rw[Yb,Yc ht];exact Yz ht)
  refine⟨by rw[Yk,wt.1];unfold f_;rw[Ya,Yg],λx hx=>?_⟩
  rcases List.mem_append.mp hx with h|h
  ·exact wt.2 x h
  ·obtain⟨j,_,rfl⟩:=List.mem_map.mp h
   split <;> omega
 have kS:CY W R.length (λr j=>zr hp (R.getD r []) j) 0 (S.map (zr hp)):=by
  have:S.map (zr hp)=(Ym R.length).map (j0 W R.length λr j=>zr hp (R.getD r []) j):=by
   rw[show S=_ from eS,W4]
   refine Wu λt ht=>?_
   have ht:=List.mem_range.mp ht;have e:R[t]?=j? (R.getD t []):=by rw[Yb,Yc ht];rfl
   exact BZ hp rfl hR e
  rw[this];exact CY.start
 have uS:ML W R.length (S.map (zr hp)):=by
  have:S.map (zr hp)=(Ym R.length).map (j0 W R.length λr j=>zr hp (R.getD r []) j):=by
   rw[show S=_ from eS,W4]
   refine Wu λt ht=>?_
   have ht:=List.mem_range.mp ht;have e:R[t]?=j? (R.getD t []):=by rw[Yb,Yc ht];rfl
   exact BZ hp rfl hR e
  rw[this];exact ML.start
 clear eS;refine sQ (λi:o?×Option V×Option V×Option V=>[Rq l,Iq (p),Iq (R.length),Iq (W),Rq i.1,i.2.1,i.2.2.1,i.2.2.2]) (λi H4=>aH H H4/\∃S:List (List Int),Rep H4 (dX H) (.ref i.1) (.vec (S.map eN))/\S.length<=50/\(∀l∈S,Rw p (W+R.length) l)/\ML W R.length (S.map (zr hp))/\CY W R.length (λr j=>zr hp (R.getD r []) j) W (S.map (zr hp))) (λC' key=>?_) ?_
 ·skip
  refine⟨_,rfl,_,rfl,by omega,by omega,?_⟩
  rw[Yf];refine cH (λk σ H4=>aH H H4/\∃(lf:o?) (S:List (List Int)) (o1 o2 o3:Option V),σ=[Rq l,Iq (p),Iq (R.length),Iq (W),Rq lf,o1,o2,o3]/\Rep H4 (dX H) (.ref lf) (.vec (S.map eN))/\S.length<=50/\(∀l∈S,Rw p (W+R.length) l)/\ML W R.length (S.map (zr hp))/\CY W R.length (λr j=>zr hp (R.getD r []) j) k (S.map (zr hp))) ⟨g3,lf,S,_,_,_,rfl,rf,lS,hS,uS,kS⟩ ?_ ?_
  ·rintro k σ H4 hk ⟨g4,lf,S,o1,o2,o3,rfl,rf,lS,hS,uS,kS⟩
   show ig 5 (V.int (0+(k:Int))) _ _ _
   rw[Zu];have YL:=rf;rw[t7] at rf;obtain⟨Vw,fs,Vx,Q8,nlf,CF⟩:=id rf.cf;obtain rfl:lf=Vw:=V.ref.inj Vx
   have Ua:fs.length=S.length:=by rw[CF.len,Ya]
   have fget:∀ {i:Nat} {x:V} {H2:Hp},aH H4 H2->fs[i]?=j? x->∃a,S[i]?=j? a/\Rep H2 Any x (eN a):=λg hx=>by
    obtain⟨hi,r⟩:=CF.get hx;rw[Ya] at hi;refine⟨_,Yc hi,?_⟩
    rw[Yb,Ye,Yc hi] at r;exact(r.same g).any
   refine⟨_,rfl,_,rfl,p,W+R.length,k,.ref lf,S,rfl,YL.any,hS,by omega,by omega,λt s0 H5 g5 ht h0=>?_,λh0 H5 g5=>?_⟩
   ·have ht':=(List.getElem?_eq_some_iff.mp ht).1
    refine⟨_,rfl,rfl,_,rfl,Bh (λz=>by cases z) ?_⟩
    have g45:=g4.trans g5;obtain⟨xt,hxt⟩:∃x,fs[t]?=j? x:=⟨_,Yc (by omega)⟩
    obtain⟨s0',SE,rx0⟩:=fget g5 hxt;obtain rfl:s0=s0':=by rw[ht] at SE;exact M? SE
    have SG:=Yw ht;refine⟨_,rfl,_,rfl,lf,_,_,_,rfl,rfl,aP.of (g5 _ _ Q8),dQ (j:=t) hxt,_,rfl,_,rfl,p,hp,W+R.length,k,xt,s0,rfl,rx0,hS s0 SG,by omega,by omega,h0,λb r6 H6 hb g6 Ub=>?_⟩
    have Q6:=g5.trans g6;refine⟨_,rfl,_,rfl,_,rfl,lf,_,rfl,aP.of (Q6 _ _ Q8),λl7 n7=>?_⟩
    rw[Ml fs t (by omega)]
    generalize hX:upd H6 l7 _=H7;have x7:=bJ n7 hX;clear hX;refine⟨_,rfl,_,rfl,_,_,rfl,rfl,_,rfl,lf,_,rfl,aP.of (x7.1 _ _ (Q6 _ _ Q8)),λl8 n8=>?_⟩
    rw[show iw fs (j? ((t:Int)+1)) q?=fs.drop (t+1) from by rw[show(t:Int)+1=((t+1:Nat):Int) by omega];exact zh fs (t+1) (by omega)]
    generalize hX:upd H7 l8 _=H8;have x8:=bJ n8 hX;clear hX;refine⟨l7,l8,_,_,rfl,rfl,x8.1 _ _ x7.2,x8.2,by rw[Ys,Y8,C?];omega,λl9 n9=>?_⟩
    generalize hX:upd H8 l9 _=H9;have x9:=bJ n9 hX;clear hX;have Q9:=(x7.1.trans x8.1).trans x9.1;have MM:=Q6.trans Q9;refine⟨l9,rfl,⟨_,aP.of x9.2⟩,λD hD=>?_⟩
    have Vy:=Ub.same Q9;have wl:=(hS s0 SG).lead hp (b:=b);have hSS:∀(i:Nat) x,(fs.take t++fs.drop (t+1))[i]?=j? x->∃a,(S.take t++S.drop (t+1))[i]?=j? a/\∀H2,aH H4 H2->Rep H2 Any x (eN a):=λi x hx=>by
     rw[vP (by omega)] at hx
     obtain⟨a,ha,_⟩:=fget (aH.refl H4) hx;exact⟨a,by rw[vP ht'];exact ha,λH2 g=>by obtain⟨a',ha',r⟩:=fget g hx;rw[ha] at ha';cases ha';exact r⟩
    have Vz:(S.take t++S.drop (t+1)).length=(fs.take t++fs.drop (t+1)).length:=by rw[Yk,Yk,Ys,Ys,Y8,Y8,Ua]
    have SH:∀a∈S.take t++S.drop (t+1),a∈S:=λa ha=>(List.mem_append.mp ha).elim List.mem_of_mem_take List.mem_of_mem_drop
    have nD:H D=q?:=(g4.trans MM).free hD;refine fN (xs:=fs.take t++fs.drop (t+1)) (λi ys H2=>aH H9 H2/\Cf H2 (Off H D) ys i λi=>eN (((S.take t++S.drop (t+1)).map λa=>Z7 (λx y=>(x-a.getD k 0*y) % (p:Int)) a (s0.map λx=>((b:Int)*x) % (p:Int))).getD i [])) ⟨aA hD _,.nil⟩ (λi ys H2 _ h=>aP.of (h.1 _ _ x9.2)) ?_ ?_
    ·rintro i m' x ys H2 hm' hi hx hy hlen ⟨g2,cy⟩
     obtain⟨a,ha,ra⟩:=hSS i x hx;have ma:=SH a (Yw ha);refine⟨_,rfl,_,rfl,_,rfl,_,rfl,p,W+R.length,k,x,r6,a,_,rfl,hp,ra H2 (MM.trans g2),(Vy.same g2).any,hS a ma,wl,by omega,by omega,λr H3 g3 rr=>?_⟩
     refine CW.emit hm' hi (by rw[<- Vz,Yk,Ys,Y8,C?];omega) (g3 _ _ hy) hlen ⟨aH.bw (g2.trans g3) hD _,?_⟩
     refine(Cf.push (cy.same g3) ?_).upd
     have e:((S.take t++S.drop (t+1)).map λa=>Z7 (λx y=>(x-a.getD k 0*y) % (p:Int)) a (s0.map λx=>((b:Int)*x) % (p:Int))).getD i []=Z7 (λx y=>(x-a.getD k 0*y) % (p:Int)) a (s0.map λx=>((b:Int)*x) % (p:Int)):=by rw[Yb,Ye,ha];rfl
     rw[e];refine rr.imp λc o h kk=>⟨h,((g4.trans MM).trans g2).free kk,λz=>?_⟩
     rw[z] at kk;rw[show H2 D=q? from kk] at hy
     cases hy
    ·rintro ys H2 hy ⟨g2,cy⟩
     show ig 4 (V.ref D) _ _ _
     have gA:=(g4.trans MM).trans g2;refine⟨gA,D,(S.take t++S.drop (t+1)).map (λa=>Z7 (λx y=>(x-a.getD k 0*y) % (p:Int)) a (s0.map λx=>((b:Int)*x) % (p:Int))),_,_,_,rfl,?_,?_,?_,?_,?_⟩
     ·rw[t7,Ya,Ya,Vz]
      refine(Cf.congr (cy.imp λc o h kk=>⟨h,kk.1⟩) λi hi=>?_).rep hy nD
      rw[Yb,Yb,Ye (f:=eN)];cases hz:((S.take t++S.drop (t+1)).map λa=>Z7 (λx y=>(x-a.getD k 0*y) % (p:Int)) a (s0.map λx=>((b:Int)*x) % (p:Int)))[i]? with
      | none=>exact Jf (List.getElem?_eq_none_iff.mp hz) (by rw[Ya,Vz];omega)
      | some z=>rfl
     ·rw[Ya,Yk,Ys,Y8];omega
     ·intro l' hl'
      obtain⟨a,ha,rfl⟩:=List.mem_map.mp hl';exact(hS a (SH a ha)).without hp wl
     ·refine uS.step (t:=t) (k:=k) (s0:=zr hp s0) (r:=zr hp (s0.map λx=>((b:Int)*x) % (p:Int))) (b:=nt (ground p hp).α b) (by rw[Ye,ht];rfl) (λj=>Av hp (hS s0 SG) j) (by rw[Ya,Ya,Ya,Yk,Ys,Y8];omega) λi s' hi=>?_
      rw[Ye,Ye,vP ht'] at hi;cases hz:S[if i<t then i else i+1]? with
      | none=>rw[hz] at hi;cases hi
      | some a=>
       rw[hz] at hi;cases hi;have wa:=hS a (Yw hz);exact⟨zr hp a,by rw[Ye,hz];rfl,λj=>qU hp wa wl (wa.get k).1 j⟩
     ·have b0:=hS s0 SG
      refine kS.step (r:=zr hp (s0.map λx=>((b:Int)*x) % (p:Int))) (s0:=zr hp s0) (b:=nt (ground p hp).α b) (List.mem_map.mpr ⟨s0,SG,rfl⟩) (λj=>Av hp b0 j) ?_ ?_ ?_
      ·rw[Av hp b0]
       show nt (ground p hp).α b*nt (ground p hp).α (s0.getD k 0).toNat=1
       rw[<- tZ,<- DH (ground p hp).ch];show nt (ground p hp).α (b*(s0.getD k 0).toNat % p)=1
       rw[hb];exact wX
      ·intro z hz
       obtain⟨a,ha,rfl⟩:=List.mem_map.mp hz;obtain⟨i,hi,rfl⟩:=Wa ha;by_cases c:i=t
       ·left
        subst c;rw[Yc hi] at ht;cases ht;rfl
       ·right
        refine List.mem_map.mpr ⟨_,List.mem_map.mpr ⟨S[i],?_,rfl⟩,?_⟩
        ·refine List.mem_iff_getElem?.mpr ⟨if i<t then i else i-1,?_⟩
         rw[vP ht'];by_cases c2:i<t
         ·rw[W9 c2,W9 c2];exact Yc hi
         ·rw[W8 c2,W8 (by omega),show i-1+1=i by omega];exact Yc hi
        ·funext j
         exact qU hp (hS _ (Yz hi)) wl ((hS _ (Yz hi)).get k).1 j
      ·intro z hz
       obtain⟨y,hy',rfl⟩:=List.mem_map.mp hz;obtain⟨a,ha,rfl⟩:=List.mem_map.mp hy';refine⟨zr hp a,List.mem_map.mpr ⟨a,SH a ha,rfl⟩,?_⟩
       funext j
       exact qU hp (hS a (SH a ha)) wl ((hS a (SH a ha)).get k).1 j
   ·refine⟨_,rfl,rfl,_,rfl,k8 rfl ?_⟩
    exact⟨g4.trans g5,lf,S,_,_,_,rfl,YL.same g5,lS,hS,uS,kS.skip λr hr=>by
     obtain⟨a,ha,rfl⟩:=List.mem_map.mp hr;show nt (ground p hp).α (a.getD k 0).toNat=0
     rw[h0 a ha];rfl⟩
  ·rintro σ H4 ⟨g4,lf,S,o1,o2,o3,rfl,rf,lS,hS,uS,kS⟩
   exact key (lf,o1,o2,o3) _ ⟨g4,S,rf,lS,hS,uS,kS⟩
 rintro⟨lf,o1,o2,o3⟩ H4 ⟨g4,S,rf,lS,hS,uS,kS⟩
 rw[t7] at rf;obtain⟨Vw,fs,Vx,Q8,nlf,CF⟩:=id rf.cf;obtain rfl:lf=Vw:=V.ref.inj Vx
 have Ua:fs.length=S.length:=by rw[CF.len,Ya]
 refine⟨_,rfl,lf,rfl,⟨_,aP.of Q8⟩,λD hD=>?_⟩
 have nD:H D=q?:=g4.free hD;refine fN (xs:=fs) (λi ys H2=>aH H4 H2/\Cf H2 (Off H D) ys i λi=>eN ((S.getD i []).drop W)) ⟨aA hD _,.nil⟩ (λi ys H2 _ h=>aP.of (h.1 _ _ Q8)) ?_ ?_
 ·rintro i m' x ys H2 hm' hi hx hy hlen ⟨g2,cy⟩
  obtain⟨hi',rx⟩:=CF.get hx;rw[Ya] at hi';rw[Yb,Ye,Yc hi'] at rx;have rx:Rep H4 (dX H) x (eN S[i]):=rx;obtain⟨la,rfl,hla,_⟩:=ints_rep (rx.same g2);have wa:=hS _ (Yz hi');refine⟨_,rfl,_,rfl,_,rfl,la,_,rfl,aP.of hla,λl5 n5=>?_⟩
  rw[zh _ W (by rw[Ya,wa.1];omega)]
  generalize hX:upd H2 l5 _=H5;have x5:=bJ n5 hX;clear hX;have NO:=g2.trans x5.1;refine CW.emit hm' hi (by rw[Ua,C?];omega) (x5.1 _ _ hy) hlen ⟨aH.bw NO hD _,?_⟩
  refine(Cf.push (cy.same x5.1) ?_).upd
  have e:S.getD i []=S[i]:=by rw[Yb,Yc hi'];rfl
  rw[e];refine s_ (by rw[List.map_drop];exact x5.2) ⟨(g4.trans g2).free n5,λz=>?_⟩
  rw[z,hy] at n5;cases n5
 ·rintro ys H2 hy ⟨g2,cy⟩
  refine q S _ H2 (g4.trans g2) hS lS (λl hl=>?_) kS ?_
  ·obtain⟨ι,h1,h2⟩:=uS
   obtain⟨t,ht,rfl⟩:=Wa hl;have e:=h2 t t (zr hp S[t]) (by rw[Ye,Yc ht];rfl) (by rw[Ya];exact ht)
   refine⟨ι t,h1 t (by rw[Ya];exact ht),λz=>?_⟩
   rw[W9 rfl] at e;unfold zr at e;rw[z] at e;exact(ground p hp).fld.1 e.symm
  rw[t7,Ya,<- Ua];refine(Cf.congr (cy.imp λc o h kk=>⟨h,kk.1⟩) λi hi=>?_).rep hy nD
  rw[Yb,Yb,Ye,Yc (by omega)]
  rfl
end
def Ax:Sp:=λvs H Q _=>∃(n k:Nat) (x:Int),vs=[.int (n:Int),.int (k:Int),.int x]/\n<=1000/\∀r H',aH H H'->Rep H' (dX H) r (rE n λj=>if j=k then x else 0)->Q r H'
section
theorem B3 (B:ia mg)(F:Src K mg "unit_row" mJ Ak):b_ P w K mg base 1 "unit_row" Ak Ax:=by
 refine F.ok BU (λvs H Q E h=>?_) (λf cdv A outer s H vs Q E hr h=>?_)
 ·obtain⟨n,k,x,rfl,_⟩:=h;rfl
 obtain⟨n,k,x,rfl,hn,q⟩:=h;refine⟨_,au (aJ (b8 (aI (N:=["at","place","number"]) (sl:=[q?,j? 1,j? 2]) (ao mJ) Ak rfl rfl (by decide +kernel)) rfl (bN rfl B.range (af (pv 0) ah)) (λ_ _ _ _ _=>(aB (i:=0) (Yk_ ["at","place","number"]) rfl (z? rfl))) (λ_ _ _ _ _=>aU) (λ_ _ _ _ _=>(vX (aW iV (pv 0) (pv 1) (bD _)) (pv 2) ak)))),?_⟩
 refine⟨_,rfl,_,rfl,by omega,by omega,λD hD=>?_⟩
 rw[Yf];refine BJ (λj=>.num (if j=k then x else 0)) hD hn (λi H2 Q2 hi g2 q2=>?_) λH2 g2 rr=>q _ H2 g2 rr
 walk_at "rd"
 refine fU (λc=>?_) (λc=>?_)
 ·have e:i=k:=by have:=V.int.inj (Jb c);omega
  rw[W9 e] at q2;exact⟨_,rfl,q2 _ H2 (aH.refl _) (.num _)⟩
 ·have e:i≠k:=λz=>c (Ja (by rw[z,Zu]))
  rw[W8 e] at q2;exact q2 _ H2 (aH.refl _) (.num _)
structure Eu (k m a b f g A C:Int):Prop where
 pos:0<a
 nn:0<=b
 le:b<=m
 A0:0<=A
 C0:0<=C
 sg:(f=A/\g=-C)\/(f=-A/\g=C)
 sum:a*C+b*A=m
 cf:∃t,f*k=a+m*t
 cg:∃t,g*k=b+m*t
 bz:∃x y:Int,x*a+y*b=1
theorem Eu.bnd {k m a b f g A C:Int}(h:Eu k m a b f g A C):g.natAbs<=m.natAbs:=by
 have h1:C<=a*C:=by
  have:=Int.mul_le_mul_of_nonneg_right (show 1<=a by have:=h.pos;omega) h.C0
  omega
 have h2:=Wz h.nn h.A0;have h3:=h.sum;have h4:=h.C0;rcases h.sg with ⟨_,e⟩|⟨_,e⟩ <;> omega
theorem Eu.step {k m a b f g A C q:Int}(h:Eu k m a b f g A C)(hb:0<b)(hq:q=a / b):Eu k m b (a-q*b) g (f-q*g) C (A+q*C)/\a-q*b<b:=by
 have e1:a-q*b=a % b:=by rw[hq,Int.emod_def,Zs]
 have h1:=Zg a (show b≠0 by omega)
 have h2:=Zd a hb;have q0:0<=q:=by rw[hq];exact Int.ediv_nonneg (by have:=h.pos;omega) (by omega)
 have le:=h.le;obtain⟨t,ht⟩:=h.cf;obtain⟨t',ht'⟩:=h.cg;obtain⟨x,y,hxy⟩:=h.bz;refine⟨⟨hb,by omega,by omega,h.C0,by have:=Wz q0 h.C0;have:=h.A0;omega,?_,?_,⟨t',ht'⟩,⟨t-q*t',?_⟩,⟨x*q+y,x,?_⟩⟩,by omega⟩
 ·rcases h.sg with ⟨e,e'⟩|⟨e,e'⟩
  ·exact .inr ⟨e',by rw[e,e'];grind⟩
  ·exact .inl ⟨e',by rw[e,e'];grind⟩
 ·have:=h.sum;grind
 ·grind
 ·grind
def J9:Sp:=λvs H Q _=>∃k m:Int,vs=[.int k,.int m]/\0<k/\2<=m/\Bd 8000 k/\Bd 8000 m/\(∃x y:Int,x*k+y*m=1)/\∀b t:Int,0<=b->b<m->b*k=1+m*t->∀H',aH H H'->Q (.int b) H'
theorem DZ (F:Src K mg "back_by" ud ["k","power"]):b_ P w K mg base 1 "back_by" ["k","power"] J9:=by
 refine F.ok gw (λvs H Q E h=>?_) (λf cdv A outer s H vs Q E hr h=>?_)
 ·obtain⟨k,m,rfl,_⟩:=h;rfl
 obtain⟨k,m,rfl,hk,hm,bk,bm,hb,q⟩:=h;refine⟨_,ai (vY (i:=2) (j:=3) rfl gw.nd rfl rfl (by decide) rfl rfl (af (pv 0) (af (pv 1) ah)) rfl)
  (ai (ko (i8 (af ak (af ak ah))) (cP (n:=2) (K:=K) rfl rfl (aS (aB (i:=4) gw.nd rfl (z? rfl)) (aS (aB (i:=5) gw.nd rfl (z? rfl)) cO))))
  (ai (eV D? (aW kY (pv 3) ak (bD _))
   (ai (aD (i:=6) gw.nd rfl (z? rfl) (av bU (pv 2) (pv 3)))
   (ai (vY (i:=2) (j:=3) rfl gw.nd rfl rfl (by decide) rfl rfl (af (pv 3) (af (av bO (pv 2) (av aX (pv 6) (pv 3))) ah)) rfl)
   (au (vY (i:=4) (j:=5) rfl gw.nd rfl rfl (by decide) rfl rfl (af (pv 5) (af (av bO (pv 4) (av aX (pv 6) (pv 5))) ah)) rfl)))))
  (au (aJ (av bK (pv 4) (pv 1)))))),?_⟩
 walk_at "rd"
 refine⟨_,_,rfl,aZ rfl,λp hp=>⟨p,_,rfl,jv.of ay,rfl,_,_,rfl,_,_,rfl,rfl,?_⟩⟩
 have g0:=aA hp (.tup [.int 1,.int 0]);generalize L2.upd H p (.tup [.int 1,.int 0])=H1 at g0 ⊢;refine jH (λσ H2=>H2=H1/\∃(a b f g:Int) (o:Option V) (A C:Int),σ=[j? (.int k),j? (.int m),j? (.int a),j? (.int b),j? (.int f),j? (.int g),o]/\Eu k m a b f g A C/\Bd 8000 a) (λσ _=>match σ with | [_,_,_,j? (.int b),_,_,_]=>b.toNat|_=>0)
  ⟨rfl,k,m,1,0,_,1,0,rfl,⟨hk,by omega,by omega,by decide,by decide,.inl ⟨rfl,rfl⟩,by omega,⟨0,by omega⟩,⟨-1,by omega⟩,hb⟩,bk⟩ ?_
 rintro σ H2 ⟨rfl,a,b,f,g,o,A,C,rfl,e,ba⟩;refine⟨_,rfl,rfl,_,rfl,?_⟩
 have le:=e.le;have nn:=e.nn;by_cases z:b=0
 ·refine k8 (by rw[z]) ?_
  refine⟨_,rfl,_,rfl,_,_,rfl,rfl,(show m≠0 by omega),?_⟩
  obtain⟨x,y,hxy⟩:=e.bz;have a1:a=1:=by
   have:a ∣ 1:=⟨x,by rw[<- hxy,z];grind⟩
   have:=Int.le_of_dvd (by decide) this
   have:=e.pos;omega
  obtain⟨t,ht⟩:=e.cf;show Q (V.int (f.fmod m)) H2
  rw[Y7 _ (show 0<=m by omega)]
  exact q _ (t-f / m*k) (Zg _ (by omega)) (Zd _ (by omega)) (by rw[Int.emod_def,a1] at *;grind) H2 g0
 ·refine Bh (λy=>z (V.int.inj y)) (win ?_)
  have b0:0<b:=by omega
  have bb:Bd 8000 b:=Bd.le (y:=m) (by omega) bm
  have bg:Bd 8000 g:=Bd.le e.bnd bm;have eq:a.fdiv b=a / b:=Zl _ (by omega)
  obtain⟨e',hlt⟩:=e.step b0 eq;have bq:Bd 8000 (a.fdiv b):=ba.fdiv;refine⟨_,rfl,_,rfl,_,_,rfl,rfl,bb.dv (by omega),?_⟩
  refine⟨_,rfl,_,rfl,_,rfl,_,rfl,_,_,rfl,rfl,bq.ok bb,_,_,rfl,rfl,_,_,rfl,?_⟩
  refine⟨_,rfl,_,rfl,_,rfl,_,rfl,_,_,rfl,rfl,bq.ok bg,_,_,rfl,rfl,_,_,rfl,?_⟩
  refine⟨⟨rfl,b,_,g,_,_,C,_,rfl,e',bb⟩,?_⟩
  show(a-a.fdiv b*b).toNat<b.toNat
  omega
def xE (K:bE):Sp:=λvs H Q _=>∃(n:Nat) (u v:V) (T:Nat->Vc) (x c:Vc),vs=[u,v]/\Rep H Any u (mE n n T)/\Rep H Any v (rE n x)/\n<=100/\c_ n T/\(∀j,j<n->x j=sm n c T j)/\(∀i,i<n->Bd 100000 (c i))/\(∀i j,i<n->j<n->Bd 8000 (T i j))/\
 ∀r H',aH H H'->Rep H' (dX H) r (rE n c)->Q r H'
theorem P5 {n:Nat}{c:Vc}{i:Nat}(hi:i<=n):(lv i λj=>c (n-1-j)).reverse=(lv n c).drop (n-i):=by
 refine Zr λk=>?_
 unfold lv;by_cases hk:k<i
 ·rw[List.getElem?_reverse (by rw[Ya,Yg];exact hk),Ya,Yg,Ye,Y0 (by omega),List.getElem?_drop,Ye,Y0 (by omega)]
  show j? (c (n-1-(i-1-k)))=j? (c (n-i+k))
  congr 2;omega
 ·rw[List.getElem?_eq_none_iff.mpr (by rw[Z1,Ya,Yg];omega),List.getElem?_eq_none_iff.mpr (by rw[Y8,Ya,Yg];omega)]
theorem Fw (n:Nat)(v:Vc):lv (n+1) v=lv n v++[v n]:=by unfold lv;rw[Ww,Yt];rfl
theorem xF (B:ia mg)(F:Src K mg "coordinates" iP GI):b_ P w K mg base 1 "coordinates" GI (xE K):=by
 refine F.ok eB (λvs H Q E h=>?_) (λf cdv A outer s H vs Q E hr h=>?_)
 ·obtain⟨n,u,v,T,x,c,rfl,_⟩:=h;rfl
 obtain⟨n,u,v,T,x,c,rfl,ru,rv,hn,hT,hx,bc,bT,q⟩:=h;obtain⟨lu,us,rfl,YM,_,Cu⟩:=ru.cf;obtain⟨lx,rfl,hlx,_⟩:=dU rv;refine⟨_,ai (aD (i:=2) eB.nd rfl (z? rfl) (pv 1))
  (ai (aD (i:=3) eB.nd rfl (z? rfl) (bF ah))
  (ai (cD D? rfl (zQ rfl B.reversed (af (wm rfl B.range (af (aE (aN (K:=K) rfl) rfl B.len bI (af (pv 1) ah)) ah)) ah)) (aB (i:=4) eB.nd rfl (z? rfl))
   (ai (aD (i:=5) eB.nd rfl (Or.inr rfl) (av bU (bC (aG (K:=K) rfl) (pv 2) (pv 4) (λ_ _=>rfl)) (bC (aG (K:=K) rfl) (bC (aG (K:=K) rfl) (pv 0) (pv 4) (λ_ _=>rfl)) (pv 4) (λ_ _=>rfl))))
   (ai (lY (i:=2) eB.nd rfl (z? rfl) (aI (N:=["number","more","often"]) (sl:=[q?,q?,j? 5]) (ao iP) ["lattice","row","left","told","place","often"] rfl rfl (by decide +kernel)) rfl (vL (K:=K) rfl rfl B.zip (af (pv 2) (af (bC (aG (K:=K) rfl) (pv 0) (pv 4) (λ_ _=>rfl)) ah))) (λ_ _ _ _ _=>(cP (n:=2) (K:=K) rfl rfl (aS (aB (i:=0) (Yk_ ["number","more","often"]) rfl (z? rfl)) (aS (aB (i:=1) (Yk_ ["number","more","often"]) rfl (z? rfl)) cO)))) (λ_ _ _ _ _=>aU) (λ_ _ _ _ _=>(av bO (pv 0) (av aX (pv 2) (pv 1)))))
   (au (d8 (qg R? F! G! dO (pv 3) (af (pv 5) ah)))))))
  (ai (d8 (zJ R? PySem.F.slot_list_reverse PySem.F.type_list_reverse qx (pv 3) ))
  (au (aJ (pv 3)))))),?_⟩
 walk_at "rd"
 intro p hp;have g0:=aA hp (.lst []);refine⟨_,rfl,lx,_,rfl,.inl (aP.of (g0 _ _ hlx)),?_⟩
 rw[Ya,aQ];refine⟨_,rfl,λp3 n3=>?_⟩
 have k3:=aA n3 (.oV 0 (n:Int));refine⟨p3,_,rfl,ay,by omega,by omega,?_⟩
 rw[Yf];have g3:=g0.trans k3;have lxp:lx≠p:=bL hlx hp;refine nL (λi σ H2=>aH H H2/\∃(ra:o?) (o1 o2:Option V),σ=[Rq lu,Rq lx,Rq ra,Rq p,o1,o2]/\H2 p=j? (.lst ((lv i λj=>c (n-1-j)).map V.int))/\H2 ra=j? (.lst ((lv n λj=>sm (n-i) c T j).map V.int))/\ra≠p)
  ⟨g3,lx,_,_,rfl,k3 _ _ ay,?_,lxp⟩ ?_ ?_
 ·rw[g3 _ _ hlx]
  congr 3
  unfold lv;exact Wu λj hj=>hx j (List.mem_range.mp hj)
 ·rintro i σ H2 hi ⟨g2,ra,o1,o2,rfl,ep,era,hne⟩
  obtain⟨d,hd⟩:∃d,d+1+i=n:=⟨n-1-i,by omega⟩
  have ed:((n:Int)-1-(i:Int))=((d:Nat):Int):=by omega
  rw[show n-i=d+1 by omega] at era
  obtain⟨vd,hvd,rd⟩:=Cu.at_ d (by omega)
  obtain⟨ld,rfl,VA,_⟩:=dU rd;have hat:qe us ((d:Nat):Int)=j? (.ref ld):=dQ hvd;have T0:=hT.nz d (by omega)
  rw[ed];refine⟨_,rfl,_,rfl,ra,_,_,_,rfl,rfl,aP.of era,nv (by omega),_,rfl,_,rfl,lu,_,_,_,rfl,rfl,aP.of (g2 _ _ YM),hat,_,rfl,ld,_,_,_,rfl,rfl,aP.of (g2 _ _ VA),nv (by omega),_,_,rfl,rfl,(bT d d (by omega) (by omega)).dv T0,?_⟩
  show ig 5 (V.int ((sm (d+1) c T d).fdiv (T d d))) _ _ _
  rw[hT.at_ c (by omega),Int.mul_fdiv_cancel _ T0]
  refine⟨_,rfl,_,rfl,_,rfl,lu,_,_,_,rfl,rfl,aP.of (g2 _ _ YM),hat,ra,ld,rfl,⟨_,aP.of era⟩,⟨_,aP.of (g2 _ _ VA)⟩,λD hD=>?_⟩
  refine Pz (λj=>.num (sm d c T j)) (n:=n) (by rw[Ya,aQ]) (by rw[Ya,aQ]) era (g2 _ _ VA) hD (by omega) (λj vx vy t H3 Q2 hj g3 lJ J7 ht q2=>?_) λH3 g3 rr=>?_
  ·obtain⟨y1,hy1,rfl⟩:=a_ lJ
   obtain⟨y2,J1,rfl⟩:=a_ J7;rw[cZ hj] at hy1 J1;cases hy1;cases J1;refine⟨t,_,rfl,jv.of ht,rfl,_,_,rfl,_,_,rfl,rfl,?_⟩
   refine⟨_,rfl,_,rfl,_,rfl,_,_,rfl,rfl,(bc d (by omega)).ok (bT d j (by omega) hj),_,_,rfl,rfl,?_⟩
   have e:sm (d+1) c T j-c d*T d j=sm d c T j:=by show sm d c T j+c d*T d j-c d*T d j=_;omega
   show Q2 (V.int (sm (d+1) c T j-c d*T d j)) H3
   rw[e];exact q2 _ H3 (aH.refl _) (.num _)
  ·have fD:H D=q?:=g2.free hD
   obtain⟨l2,e2,VB,_⟩:=dU rr;cases e2;have YN:=g3 _ _ ep;have SA:D≠p:=λz=>by rw[z,ep] at hD;cases hD
   refine⟨_,rfl,.inl ⟨rfl,_,aP.of YN⟩,_,rfl,p,_,_,rfl,rfl,YN,by rw[Ya,aQ,C?];omega,?_⟩
   refine⟨(g2.trans g3).bw hp _,D,_,_,rfl,?_,?_,SA⟩
   ·rw[ay,Fw,Yt,show n-1-i=d by omega];rfl
   ·rw[aO SA,show n-(i+1)=d by omega];exact VB
 ·rintro σ H2 ⟨g2,ra,o1,o2,rfl,ep,era,hne⟩
  refine⟨_,rfl,.inl ⟨rfl,_,aP.of ep⟩,p,_,rfl,rfl,ep,?_⟩
  rw[<- List.map_reverse,P5 (Yd n),Nat.sub_self,List.drop_zero];exact⟨_,rfl,q _ _ (g2.bw hp _) (Fd ay hp)⟩
theorem J_ {x:Vc}{A:Nat->Vc}{i:Nat}:∀k,(lv k λm=>x m*A m i).sum=sm k x A i
 | 0=>rfl
 | k+1=>by rw[Fw,List.sum_append,J_ k];show sm k x A i+(x k*A k i+0)=sm k x A i+x k*A k i;omega
def tu (K:bE):Sp:=λvs H Q _=>∃(k n:Nat) (u v:V) (x:Vc) (A:Nat->Vc),vs=[u,v]/\Rep H Any u (rE k x)/\Rep H Any v (mE k n A)/\1<=k/\k<=1000/\n<=1000/\(∀i,i<k->Bd 100000 (x i))/\(∀i j,i<k->j<n->Bd 100000 (A i j))/\
 ∀r H',aH H H'->Rep H' (dX H) r (rE n λj=>sm k x A j)->Q r H'
theorem GO (B:ia mg)(F:Src K mg "summed" lI Al):b_ P w K mg base 1 "summed" Al (tu K):=by
 refine F.ok GK (λvs H Q E h=>?_) (λf cdv A outer s H vs Q E hr h=>?_)
 ·obtain⟨k,n,u,v,x,A,rfl,_⟩:=h;rfl
 obtain⟨k,n,u,v,x,A,rfl,ru,rv,hk1,hk,hn,bx,bA,q⟩:=h;obtain⟨lx,rfl,hlx,_⟩:=dU ru;obtain⟨lA,us,rfl,Lk,_,C⟩:=rv.cf;refine⟨_,au (aJ (sF (f9 (N:=["place","numbers","rows"]) (sl:=[q?,j? 0,j? 1]) "place" (ao lI) Al rfl rfl (by decide +kernel)) rfl (bN rfl B.range (af (aE (aN (K:=K) rfl) rfl B.len bI (af (bC (aG (K:=K) rfl) (pv 1) ak (λ_ _=>rfl)) ah)) ah)) (λ_ _ _ _ _=>(aB (i:=0) (Yk_ ["place","numbers","rows"]) rfl (Or.inr rfl))) (λ_ _ _ _ _=>aU) (λ_ _ _ _ _=>(aE (zk (K:=K) rfl rfl) rfl B.sum HR (af (b8 (aI (N:=["many","row","place"]) (sl:=[q?,q?,j? 0]) (nQ (zZ ((cB lI).getD 0 (.Pass ⟨0,0,0,0⟩))) (ao lI)) ["place","numbers","rows"] rfl rfl (by decide +kernel)) rfl (vL (K:=K) rfl rfl B.zip (af (pv 1) (af (pv 2) ah))) (λ_ _ _ _ _=>(cP (n:=2) (K:=K) rfl rfl (aS (aB (i:=0) (Yk_ ["many","row","place"]) rfl (z? rfl)) (aS (aB (i:=1) (Yk_ ["many","row","place"]) rfl (z? rfl)) cO)))) (λ_ _ _ _ _=>aU) (λ_ _ _ _ _=>(av aX (pv 0) (bC (aG (K:=K) rfl) (pv 1) (pv 2) (λ_ _=>rfl))))) ah))))),?_⟩
 walk_at "rd"
 obtain⟨v0,hv0,r0⟩:=C.at_ 0 (by omega)
 obtain⟨l0,rfl,HH,_⟩:=dU r0;have Ka:qe us 0=j? (.ref l0):=dQ (j:=0) hv0;refine⟨lA,_,_,_,rfl,rfl,aP.of Lk,Ka,l0,_,rfl,.inl (aP.of HH),?_⟩
 rw[Ya,aQ];refine⟨_,rfl,by omega,by omega,λD hD=>?_⟩
 rw[Yf];refine BJ (λj=>.num (sm k x A j)) hD hn (λi H2 Q2 hi g2 q2=>?_) λH2 g2 rr=>q _ H2 g2 rr
 rw[Zu];refine⟨_,rfl,_,rfl,lx,lA,rfl,⟨_,aP.of (g2 _ _ hlx)⟩,⟨_,aP.of (g2 _ _ Lk)⟩,λD2 yi=>?_⟩
 refine Pz (λm=>.num (x m*A m i)) (n:=k) (by rw[Ya,aQ]) C.len (g2 _ _ hlx) (g2 _ _ Lk) yi (by omega) (λm vx vy t H3 Q3 hm g3 lJ J7 ht q3=>?_) λH3 g3 rr=>?_
 ·obtain⟨y1,hy1,rfl⟩:=a_ lJ
  rw[cZ hm] at hy1;cases hy1;obtain⟨_,ry⟩:=C.get J7;obtain⟨lm,rfl,hlm,_⟩:=dU ry;refine⟨t,_,rfl,jv.of ht,rfl,_,_,rfl,_,_,rfl,rfl,?_⟩
  refine⟨_,rfl,_,rfl,_,rfl,lm,_,_,_,rfl,rfl,aP.of ((g2.trans g3) _ _ hlm),nv hi,_,_,rfl,rfl,(bx m hm).ok (bA m i hm hi),?_⟩
  exact q3 _ H3 (aH.refl _) (.num _)
 ·obtain⟨l2,e2,VB,_⟩:=dU rr
  cases e2;refine⟨D2,_,rfl,aP.of VB,?_⟩
  rw[J_];exact q2 _ H3 g3 (.num _)
end
def yc (f:Fn)(n:Nat)(u v:Vc):Vc:=λk=>sm n u (λa k=>sm n v (λb=>tk f n (a+b)) k) k
theorem Fx {f:Fn}{n:Nat}(hf:Top f n)(hn:1<=n)(u v:Vc):lC f n (cv (aq (lv n u)) (aq (lv n v))) (yc f n u v):=by
 have hz:∀w:Vc,∀m,n<=m->aq (lv n w) m=0:=λw m hm=>by rw[j9,W8 (by omega)]
 have h:=(vO hf hn (g:=aq (lv n v)) (L:=n) (hz v)).comb (p:=aq (lv n u)) (P:=n) (hz u);have e:(λc=>bZ n λk=>aq (lv n u) k*rr f n (aq (lv n v)) n k c)=yc f n u v:=by
  funext c
  unfold yc rr;rw[fB];refine aK λa ha=>?_
  rw[fB,j9,W9 ha];congr 1
  exact aK λb hb=>by rw[j9,W9 hb,Nat.add_comm]
 rw[e] at h;exact h
def Kc (K:bE):Sp:=λvs H Q _=>∃(a:o?) (fl:List Int) (n:Nat) (x y:V) (u v:Vc) (m:Int),vs=[.ref a,x,y,.int m]/\aP K H a (fl.map V.int)/\fl.length=n+1/\1<=n/\n<=20/\L2.dR fl/\f6 5000 fl/\Rep H Any x (rE n u)/\Rep H Any y (rE n v)/\(∀j,j<n->Bd 2000 (u j))/\(∀j,j<n->Bd 2000 (v j))/\m≠0/\Bd 8000 m/\
 ∀r H',aH H H'->Rep H' (dX H) r (rE n λj=>(yc (aq fl) n u v j).fdiv m)->Q r H'
section
theorem Kd {n m:Nat}{u:Vc}(h:∀j,j<n->Bd m (u j)):f6 m (lv n u):=λx hx=>by
 unfold lv at hx;obtain⟨j,hj,rfl⟩:=List.mem_map.mp hx;exact h j (List.mem_range.mp hj)
theorem ym (B:ia mg)(cS:b_ P w K mg base 1 "without_noughts_behind" ["numbers"] (qT K))(mS:b_ P w K mg base 1 "multiplied" nC (J2 K))(pN:b_ P w K mg base 2 "divided" nC (J3 K))(kH:b_ P w K mg base 1 "coefficient" DR (DV K))(F:Src K mg "product_by" jq JS):b_ P w K mg base 3 "product_by" JS (Kc K):=by
 refine F.ok kG (λvs H Q E h=>?_) (λf cdv A outer s H vs Q E hr h=>?_)
 ·obtain⟨a,fl,n,x,y,u,v,m,rfl,_⟩:=h;rfl
 obtain⟨a,fl,n,x,y,u,v,m,rfl,ha,lf,hn1,hn,mf,bf,rx,ry,bu,bv,m0,bm,q⟩:=h;obtain⟨lx,rfl,hlx,_⟩:=dU rx;obtain⟨ly,rfl,YO,_⟩:=dU ry;have hf:=xC lf mf;refine⟨_,ai (aD (i:=4) kG.nd rfl (z? rfl) (aF mS hr (af (aF cS hr (af (pv 1) ah)) (af (aF cS hr (af (pv 2) ah)) ah))))
  (ai (aD (i:=5) kG.nd rfl (Or.inr rfl) (bC (l_ (K:=K) rfl) (aF pN hr (af (pv 4) (af (pv 0) ah))) ak (λ_ _=>rfl)))
  (au (aJ (b8 (aI (N:=["place","rest","power"]) (sl:=[q?,j? 5,j? 3]) (ao jq) ["f","one","other","power","product","rest"] rfl rfl (by decide +kernel)) rfl (bN rfl B.range (af (aE (aN (K:=K) rfl) rfl B.len bI (af (pv 1) ah)) ah)) (λ_ _ _ _ _=>(aB (i:=0) (Yk_ ["place","rest","power"]) rfl (z? rfl))) (λ_ _ _ _ _=>aU) (λ_ _ _ _ _=>(av bU (aF kH hr (af (pv 1) (af (pv 0) ah))) (pv 2))))))),?_⟩
 walk_at "rd"
 refine⟨lx,lv n u,rfl,aP.of hlx,by rw[aQ];omega,λp1 H1 g1 n1 e1=>?_⟩
 walk_at "rd"
 refine⟨ly,lv n v,rfl,aP.of (g1 _ _ YO),by rw[aQ];omega,λp2 H2 g2 n2 e2=>?_⟩
 have b1:f6 2000 (trim (lv n u)):=(Kd bu).trim;have b2:f6 2000 (trim (lv n v)):=(Kd bv).trim;have l1:(trim (lv n u)).length<=n:=by unfold trim;rw[Ys,aQ];omega
 have l2:(trim (lv n v)).length<=n:=by unfold trim;rw[Ys,aQ];omega
 refine⟨p1,p2,_,_,rfl,aP.of (g2 _ _ e1),aP.of e2,by omega,by omega,b1.mono (by decide),b2.mono (by decide),λp3 H3 g3 n3 e3=>?_⟩
 walk_at "rd"
 have NP:=(g1.trans g2).trans g3;have lp:(ee (trim (lv n u)) (trim (lv n v))).length<=40:=by
  unfold ee;split
  ·simp
  ·rw[Ya,Yg];omega
 refine⟨p3,a,_,fl,4100,5000,rfl,aP.of e3,NP.seq ha,by omega,by omega,mf,((b1.ee b2).mono (by omega)),bf,by omega,λq0 r0 hd0 _ _ t0 qa ra H4 g4 n4 n5 hne et eq er=>?_⟩
 refine⟨t0,_,_,_,rfl,rfl,jv.of et,rfl,?_⟩
 have VC:=NP.trans g4;have e0:aq r0=yc (aq fl) n u v:=by
  have h1:=wD.Vr lf hd0;rw[Nk,show aq (trim (lv n u))=aq (lv n u) from funext λi=>d_ _ i,show aq (trim (lv n v))=aq (lv n v) from funext λi=>d_ _ i] at h1
  exact lC.uniq hf h1 (Fx hf hn1 u v)
 walk_at "rd"
 refine⟨lx,_,rfl,.inl (aP.of (VC _ _ hlx)),?_⟩
 rw[Ya,aQ];refine⟨_,rfl,by omega,by omega,λD hD=>?_⟩
 rw[Yf];refine BJ (λj=>.num ((yc (aq fl) n u v j).fdiv m)) hD (by omega) (λi H5 Q2 hi g5 q2=>?_) λH5 g5 rr=>q _ H5 (VC.trans g5) (rr.older VC)
 rw[Zu];refine⟨_,rfl,_,rfl,ra,r0,i,rfl,aP.of (g5 _ _ er),_,rfl,_,_,rfl,rfl,bm.dv m0,?_⟩
 show Q2 (V.int ((aq r0 i).fdiv m)) H5
 rw[e0];exact q2 _ H5 (aH.refl _) (.num _)
def Fy (K:bE):Sp:=λvs H Q _=>∃(a:o?) (fl:List Int) (n:Nat) (x:V) (T:Nat->Vc) (c:Nat->Nat->Vc) (m:Int),vs=[.ref a,x,.int m]/\aP K H a (fl.map V.int)/\fl.length=n+1/\1<=n/\n<=20/\L2.dR fl/\f6 5000 fl/\Rep H Any x (mE n n T)/\c_ n T/\(∀i j,i<n->j<n->Bd 2000 (T i j))/\m≠0/\Bd 8000 m/\
 (∀i j,i<n->j<n->∀k,k<n->yc (aq fl) n (T i) (T j) k=m*sm n (c i j) T k)/\(∀i j k,i<n->j<n->k<n->Bd 100000 (c i j k))/\∀r H',aH H H'->Rep H' (dX H) r (tE n n n c)->Q r H'
theorem B4 (B:ia mg)(Ay:b_ P w K mg base 3 "product_by" JS (Kc K))(kI:b_ P w K mg base 1 "coordinates" GI (xE K))(F:Src K mg "table_of" iF DO):b_ P w K mg base 4 "table_of" DO (Fy K):=by
 refine F.ok BV (λvs H Q E h=>?_) (λf cdv A outer s H vs Q E hr h=>?_)
 ·obtain⟨a,fl,n,x,T,c,m,rfl,_⟩:=h;rfl
 obtain⟨a,fl,n,x,T,c,m,rfl,ha,lf,hn1,hn,mf,bf,rx,hT,bT,m0,bm,hc,bc,q⟩:=h;obtain⟨lT,us,rfl,Uc,_,C⟩:=id rx.cf;refine⟨_,au (aJ (sF (f9 (N:=PU) (sl:=[q?,j? 1,j? 0,j? 2]) "one" (ao iF) DO rfl rfl (by decide +kernel)) rfl (bM (K:=K) rfl (pv 1)) (λ_ _ _ _ _=>(aB (i:=0) (Yk_ PU) rfl (Or.inr rfl))) (λ_ _ _ _ _=>aU) (λ_ _ _ _ _=>(b8 (aI (N:=["other","lattice","f","one","power"]) (sl:=[q?,j? 1,j? 2,j? 0,j? 3]) (nQ (zZ ((cB iF).getD 0 (.Pass ⟨0,0,0,0⟩))) (ao iF)) PU rfl rfl (by decide +kernel)) rfl (bM (K:=K) rfl (pv 1)) (λ_ _ _ _ _=>(aB (i:=0) (Yk_ ["other","lattice","f","one","power"]) rfl (z? rfl))) (λ_ _ _ _ _=>aU) (λ_ _ _ _ _=>(aF kI hr (af (pv 1) (af (aF Ay hr (af (pv 2) (af (pv 3) (af (pv 0) (af (pv 4) ah))))) ah)))))))),?_⟩
 walk_at "rd"
 refine⟨⟨_,aP.of Uc⟩,λD hD=>?_⟩
 refine nW (λi=>mE n n (c i)) (n:=n) C.len Uc hD (by omega) (λi vx H2 Q2 hi g2 lJ q2=>?_) λH2 g2 rr=>q _ H2 g2 rr
 obtain⟨_,ri⟩:=C.get lJ;refine⟨_,rfl,lT,rfl,⟨_,aP.of (g2 _ _ Uc)⟩,λD2 yi=>?_⟩
 refine nW (λj=>rE n (c i j)) (n:=n) C.len (g2 _ _ Uc) yi (by omega) (λj vy H3 Q3 hj g3 J7 q3=>?_) λH3 g3 rr=>q2 _ H3 g3 rr
 obtain⟨_,rj⟩:=C.get J7;have Ud:=g2.trans g3;refine⟨_,rfl,_,rfl,_,rfl,_,rfl,_,rfl,a,fl,n,vx,vy,T i,T j,m,rfl,Ud.seq ha,lf,hn1,hn,mf,bf,ri.same Ud,rj.same Ud,λk hk=>bT i k hi hk,λk hk=>bT j k hj hk,m0,bm,λr4 H4 g4 P6=>?_⟩
 refine⟨n,_,_,T,_,c i j,rfl,rx.same (Ud.trans g4),P6.any,by omega,hT,λk hk=>?_,λk hk=>bc i j k hi hj hk,λk l hk hl=>(bT k l hk hl).mono (by decide),λr5 H5 g5 P7=>q3 _ H5 (g4.trans g5) (P7.older g4)⟩
 rw[hc i j hi hj k hk,Int.mul_fdiv_cancel_left _ m0]
def Ll (n:Nat)(c:Nat->Nat->Vc)(p:Int)(x y:Vc):Vc:=λk=>sm n x (λi k=>sm n y (c i) k) k % p
def MN (n:Nat)(c:Nat->Nat->Vc)(p:Int)(x:Vc):Nat->Vc
 | 0=>x
 | m+1=>Ll n c p (MN n c p x m) x
def GP (n:Nat)(c:Nat->Nat->Vc)(p:Nat):Nat->Nat->Vc
 | 0,i=>un i
 | k+1,i=>MN n c (p:Int) (GP n c p k i) (p-1)
theorem Fz {n k:Nat}{a b:Nat}{x:Vc}{A:Nat->Vc}{j:Nat}(hn:n<2 ^ k)(hx:∀i,i<n->Bd a (x i))(hA:∀i,i<n->Bd b (A i j)):Bd (a+b+k) (sm n x A j):=by
 have key:∀m,m<=n->(sm m x A j).natAbs<=m*2 ^ (a+b):=by
  intro m;induction m with
  | zero=>intro _;show Zm 0<=_;simp
  | succ m ih=>
   intro hm;have h1:=ih (by omega)
   have h2:Bd (a+b) (x m*A m j):=(hx m (by omega)).mul (hA m (by omega))
   have h3:(sm m x A j+x m*A m j).natAbs<=(sm m x A j).natAbs+(x m*A m j).natAbs:=Int.natAbs_add_le _ _;have h2':(x m*A m j).natAbs<2 ^ (a+b):=h2;show(sm m x A j+x m*A m j).natAbs<=(m+1)*2 ^ (a+b)
   rw[Wd,W6];omega
 have h:=key n (Yd n);refine Z4 h ?_
 rw[Zq 2 (a+b) k,Ws (2 ^ (a+b))];exact Nat.mul_lt_mul_of_pos_right hn (Z0 (by decide))
def B5 (K:bE):Sp:=λvs H Q _=>∃(n p:Nat) (t x y:V) (c:Nat->Nat->Vc) (u v:Vc),vs=[t,x,y,.int (p:Int)]/\Rep H Any t (tE n n n c)/\Rep H Any x (rE n u)/\Rep H Any y (rE n v)/\1<=n/\n<=20/\2<=p/\p<=50/\(∀i j k,i<n->j<n->k<n->Bd 90000 (c i j k))/\(∀i,i<n->Bd 64 (u i))/\(∀i,i<n->Bd 64 (v i))/\
 ∀r H',aH H H'->Rep H' (dX H) r (rE n (Ll n c (p:Int) u v))->Q r H'
theorem B6 (B:ia mg)(lK:b_ P w K mg base 1 "summed" Al (tu K))(F:Src K mg "times_by" jP JT):b_ P w K mg base 2 "times_by" JT (B5 K):=by
 refine F.ok uW (λvs H Q E h=>?_) (λf cdv A outer s H vs Q E hr h=>?_)
 ·obtain⟨n,p,t,x,y,c,u,v,rfl,_⟩:=h;rfl
 obtain⟨n,p,t,x,y,c,u,v,rfl,rt,rx,ry,hn1,hn,hp,hp2,bc,bu,bv,q⟩:=h;obtain⟨lt,us,rfl,hlt,_,C⟩:=id rt.cf;obtain⟨lx,rfl,hlx,_⟩:=dU rx;obtain⟨ly,rfl,YO,_⟩:=dU ry;refine⟨_,ai (aD (i:=4) uW.nd rfl (z? rfl) (aF lK hr (af (pv 1) (af (b8 (aI (N:=["line","other"]) (sl:=[q?,j? 2]) (ao jP) PN rfl rfl (by decide +kernel)) rfl (bM (K:=K) rfl (pv 0)) (λ_ _ _ _ _=>(aB (i:=0) (Yk_ ["line","other"]) rfl (z? rfl))) (λ_ _ _ _ _=>aU) (λ_ _ _ _ _=>(aF lK hr (af (pv 1) (af (pv 0) ah))))) ah))))
  (au (aJ (b8 (aI (N:=GJ) (sl:=[q?,j? 3]) (ao jP) PN rfl rfl (by decide +kernel)) rfl (bM (K:=K) rfl (pv 4)) (λ_ _ _ _ _=>(aB (i:=0) (Yk_ GJ) rfl (z? rfl))) (λ_ _ _ _ _=>aU) (λ_ _ _ _ _=>(av bK (pv 0) (pv 1)))))),?_⟩
 walk_at "rd"
 refine⟨⟨_,aP.of hlt⟩,λD hD=>?_⟩
 refine nW (λi=>rE n λk=>sm n v (c i) k) (n:=n) C.len hlt hD (by omega) (λi vx H2 Q2 hi g2 lJ q2=>?_) λH2 g2 rr=>?_
 ·obtain⟨_,ri⟩:=C.get lJ
  exact⟨_,rfl,_,rfl,n,n,_,vx,v,c i,rfl,ry.same g2,ri.same g2,hn1,by omega,by omega,λj hj=>(bv j hj).mono (by decide),λj k hj hk=>(bc i j k hi hj hk).mono (by decide),λr H3 g3 rr=>q2 _ H3 g3 rr⟩
 refine⟨n,n,_,_,u,λi k=>sm n v (c i) k,rfl,rx.same g2,rr.any,hn1,by omega,by omega,λj hj=>(bu j hj).mono (by decide),λi k hi hk=>(Fz (k:=5) (by omega) bv λj hj=>bc i j k hi hj hk).mono (by decide),λr3 H3 g3 Lm=>?_⟩
 obtain⟨l3,rfl,hl3,_⟩:=dU Lm;refine⟨_,rfl,l3,rfl,⟨_,aP.of hl3⟩,λD4 VD=>?_⟩
 refine nW (λk=>.num (Ll n c (p:Int) u v k)) (n:=n) (by rw[Ya,aQ]) hl3 VD (by omega) (λk vx H5 Q5 hk g5 lJ q5=>?_) λH5 g5 P7=>q _ H5 ((g2.trans g3).trans g5) (P7.older (g2.trans g3))
 obtain⟨y1,hy1,rfl⟩:=a_ lJ;rw[cZ hk] at hy1;cases hy1;refine⟨_,rfl,_,rfl,_,_,rfl,rfl,(show(p:Int)≠0 by omega),?_⟩
 have e:(sm n u (λi k=>sm n v (c i) k) k).fmod (p:Int)=Ll n c (p:Int) u v k:=Y7 _ (by omega)
 show Q5 (V.int ((sm n u (λi k=>sm n v (c i) k) k).fmod (p:Int))) H5
 rw[e];exact q5 _ H5 (aH.refl _) (.num _)
theorem MO {n p:Nat}(hp:2<=p){c:Nat->Nat->Vc}{x y:Vc}(k:Nat):0<=Ll n c (p:Int) x y k/\Ll n c (p:Int) x y k<(p:Int):=⟨Zg _ (by omega),Zd _ (by omega)⟩
theorem FA {n p:Nat}(hp:2<=p){c:Nat->Nat->Vc}{x:Vc}{k:Nat}(hx:0<=x k/\x k<(p:Int)):∀m,0<=MN n c (p:Int) x m k/\MN n c (p:Int) x m k<(p:Int)
 | 0=>hx
 | m+1=>MO hp k
theorem vQ {n p:Nat}(hp:2<=p){c:Nat->Nat->Vc}{i j:Nat}:∀k,0<=GP n c p k i j/\GP n c p k i j<(p:Int)
 | 0=>by
  show 0<=(if j=i then (1:Int) else 0)/\(if j=i then (1:Int) else 0)<_
  by_cases e:j=i
  ·rw[W9 e];omega
  ·rw[W8 e];omega
 | k+1=>FA hp (vQ hp k) _
def Ke (K:bE):Sp:=λvs H Q _=>∃(n p:Nat) (t x:V) (c:Nat->Nat->Vc) (u:Vc),vs=[t,x,.int (p:Int),.int (p:Int)]/\Rep H Any t (tE n n n c)/\Rep H Any x (rE n u)/\1<=n/\n<=20/\2<=p/\p<=50/\(∀i j k,i<n->j<n->k<n->Bd 90000 (c i j k))/\(∀i,i<n->0<=u i/\u i<(p:Int))/\
 ∀r H',aH H H'->Rep H' (dX H) r (rE n (MN n c (p:Int) u (p-1)))->Q r H'
theorem B7 (B:ia mg)(D5:b_ P w K mg base 2 "times_by" JT (B5 K))(F:Src K mg "power_by" qO JV):b_ P w K mg base 3 "power_by" JV (Ke K):=by
 refine F.ok kc (λvs H Q E h=>?_) (λf cdv A outer s H vs Q E hr h=>?_)
 ·obtain⟨n,p,t,x,c,u,rfl,_⟩:=h;rfl
 obtain⟨n,p,t,x,c,u,rfl,rt,rx,hn1,hn,hp,hp2,bc,hu,q⟩:=h;refine⟨_,ai (aD (i:=4) kc.nd rfl (z? rfl) (pv 1))
  (ai (cD D? rfl (bN rfl B.range (af (av bO (pv 2) ak) ah)) (aB (i:=5) kc.nd rfl (z? rfl))
   (au (aD (i:=4) kc.nd rfl (z? rfl) (aF D5 hr (af (pv 0) (af (pv 4) (af (pv 1) (af (pv 3) ah))))))))
  (au (aJ (pv 4)))),?_⟩
 walk_at "rd"
 refine⟨by omega,by omega,?_⟩
 rw[show((p:Int)-1).toNat=p-1 by omega]
 have bu:∀m,∀i,i<n->Bd 64 (MN n c (p:Int) u m i):=λm i hi=>by
  have:=FA (n:=n) (c:=c) hp (hu i hi) m
  exact Bd.small (by omega) (by omega)
 refine cH (λi σ H2=>aH H H2/\∃(v:V) (o:Option V),σ=[j? t,j? x,Iq (p),Iq (p),j? v,o]/\Rep H2 Any v (rE n (MN n c (p:Int) u i))/\(1<=i->Rep H2 (dX H) v (rE n (MN n c (p:Int) u i)))) ⟨aH.refl H,x,_,rfl,rx,λh=>Jf h (by decide)⟩ ?_ ?_
 ·rintro i σ H2 hi ⟨g2,v,o,rfl,rv,_⟩
  refine⟨_,rfl,_,rfl,_,rfl,_,rfl,n,p,t,v,x,c,_,u,rfl,rt.same g2,rv,rx.same g2,hn1,hn,hp,hp2,bc,bu i,λj hj=>bu 0 j hj,λr H3 g3 rr=>?_⟩
  exact⟨g2.trans g3,_,_,rfl,rr.any,λ_=>rr.older g2⟩
 ·rintro σ H2 ⟨g2,v,o,rfl,rv,rn⟩
  exact⟨_,rfl,q _ H2 g2 (rn (by omega))⟩
def B8 (K:bE):Sp:=λvs H Q _=>∃(n p:Nat) (t:V) (c:Nat->Nat->Vc),vs=[t,.int (p:Int)]/\Rep H Any t (tE n n n c)/\1<=n/\n<=20/\2<=p/\p<=50/\(∀i j k,i<n->j<n->k<n->Bd 90000 (c i j k))/\
 ∀k r H',n<=p ^ k->aH H H'->Rep H' (dX H) r (mE n n (GP n c p k))->Q r H'
theorem GQ (B:ia mg)(jR:b_ P w K mg base 1 "unit_row" Ak Ax)(D6:b_ P w K mg base 3 "power_by" JV (Ke K))(F:Src K mg "raised" oh yh):b_ P w K mg base 4 "raised" yh (B8 K):=by
 refine F.ok jz (λvs H Q E h=>?_) (λf cdv A outer s H vs Q E hr h=>?_)
 ·obtain⟨n,p,t,c,rfl,_⟩:=h;rfl
 obtain⟨n,p,t,c,rfl,rt,hn1,hn,hp,hp2,bc,q⟩:=h;obtain⟨lt,us,rfl,hlt,_,C⟩:=id rt.cf;refine⟨_,ai (aD (i:=2) jz.nd rfl (Or.inr rfl) (aE (aN (K:=K) rfl) rfl B.len bI (af (pv 0) ah)))
  (ai (lY (i:=3) jz.nd rfl (z? rfl) (aI (N:=["place","many"]) (sl:=[q?,j? 2]) (ao oh) PL rfl rfl (by decide +kernel)) rfl (bN rfl B.range (af (pv 2) ah)) (λ_ _ _ _ _=>(aB (i:=0) (Yk_ ["place","many"]) rfl (z? rfl))) (λ_ _ _ _ _=>aU) (λ_ _ _ _ _=>(aF jR hr (af (pv 1) (af (pv 0) (af ak ah))))))
  (ai (aD (i:=4) jz.nd rfl (z? rfl) ak)
  (ai (eV D? (aW A7 (pv 4) (pv 2) (bD _))
   (ai (lY (i:=3) jz.nd rfl (z? rfl) (aI (N:=["row","table","p"]) (sl:=[q?,j? 0,j? 1]) (ao oh) PL rfl rfl (by decide +kernel)) rfl (bM (K:=K) rfl (pv 3)) (λ_ _ _ _ _=>(aB (i:=0) (Yk_ ["row","table","p"]) rfl (z? rfl))) (λ_ _ _ _ _=>aU) (λ_ _ _ _ _=>(aF D6 hr (af (pv 1) (af (pv 0) (af (pv 2) (af (pv 2) ah)))))))
   (au (aD (i:=4) jz.nd rfl (z? rfl) (av aX (pv 4) (pv 1))))))
  (au (aJ (pv 3)))))),?_⟩
 walk_at "rd"
 refine⟨lt,_,rfl,.inl (aP.of hlt),?_⟩
 rw[C.len];refine⟨_,rfl,_,rfl,by omega,by omega,λD hD=>?_⟩
 rw[Yf];refine BJ (λi=>rE n (un i)) hD (by omega) (λi H2 Q2 hi g2 q2=>?_) λH2 g2 rr=>?_
 ·rw[Zu]
  exact⟨_,rfl,_,rfl,n,i,1,rfl,by omega,λr H3 g3 rr=>q2 _ H3 g3 rr⟩
 refine jH (λσ H2=>aH H H2/\∃(k:Nat) (v:V),σ=[Rq lt,Iq (p),Iq (n),j? v,Iq ((p ^ k:Nat))]/\p ^ k<=1000/\Rep H2 (dX H) v (mE n n (GP n c p k))) (λσ _=>match σ with | [_,_,_,_,j? (.int r)]=>n-r.toNat|_=>0)
  ⟨g2,0,_,rfl,by rw[Nat.pow_zero];decide,rr⟩ ?_
 rintro σ H3 ⟨g3,k,v,rfl,hk,rv⟩;refine⟨_,rfl,_,rfl,_,_,rfl,rfl,_,rfl,fU (λc1=>?_) (λc1=>?_)⟩
 ·have hlt':p ^ k<n:=by have:=Jb c1;omega
  obtain⟨lv',vs,rfl,YQ,_,Cv⟩:=id rv.cf;refine win ⟨_,rfl,lv',rfl,⟨_,aP.of YQ⟩,λD2 yi=>?_⟩
  refine nW (λi=>rE n (GP n c p (k+1) i)) (n:=n) Cv.len YQ yi (by omega) (λi vx H4 Q4 hi g4 lJ q4=>?_) λH4 g4 P6=>?_
  ·obtain⟨_,ri⟩:=Cv.get lJ
   exact⟨_,rfl,_,rfl,_,rfl,_,rfl,n,p,_,vx,c,GP n c p k i,rfl,rt.same (g3.trans g4),(ri.same g4).any,hn1,hn,hp,hp2,bc,λj _=>vQ hp k,λr H5 g5 P7=>q4 _ H5 g5 P7⟩
  ·have h1:p ^ k*p<=19*50:=Zk (by omega) hp2
   have e1:((p ^ k:Nat):Int)*(p:Int)=((p ^ (k+1):Nat):Int):=by rw[Zv,Zy]
   refine⟨_,rfl,_,rfl,_,_,rfl,rfl,gQ (by omega) (by omega),?_⟩
   show(aH H H4/\_)/\_
   refine⟨⟨g3.trans g4,k+1,_,by show _=[_,_,_,_,j? (V.int ((p ^ (k+1):Nat):Int))];rw[<- e1];rfl,by rw[Zv];omega,P6.older g3⟩,?_⟩
   show n-(((p ^ k:Nat):Int)*(p:Int)).toNat<n-(((p ^ k:Nat):Int)).toNat
   rw[e1,Yf,Yf,Zv];have h2:1<=p ^ k:=Z0 (by omega)
   have h3:p ^ k*2<=p ^ k*p:=Zb _ hp;omega
 ·have hge:n<=p ^ k:=by
   have:¬ ((p ^ k:Nat):Int)<(n:Int):=λz=>c1 (Ja z)
   omega
  exact⟨_,rfl,q k _ H3 hge g3 rv⟩
end
def CZ (k:Nat)(A:Nat->Vc)(lead:Vc)(q:Nat)(m:Int):Nat->Vc:=λi j=>if i<k then (A i j-(A i q / lead q)*lead j) % m else ((m / lead q)*lead j) % m
def NQ (K:bE):Sp:=λvs H Q _=>∃(k n q:Nat) (u v:V) (A:Nat->Vc) (lead:Vc) (m:Int),vs=[u,v,.int (q:Int),.int m]/\Rep H Any u (mE k n A)/\Rep H Any v (rE n lead)/\q<n/\n<=100/\k<=100/\0<m/\0<lead q/\Bd 8000 m/\(∀i j,i<k->j<n->Bd 8000 (A i j))/\(∀j,j<n->Bd 8000 (lead j))/\
 ∀r H',aH H H'->Rep H' (dX H) r (mE (k+1) n (CZ k A lead q m))->Q r H'
section
theorem D7 (B:ia mg)(F:Src K mg "without" lH JP):b_ P w K mg base 1 "without" JP (NQ K):=by
 refine F.ok jO (λvs H Q E h=>?_) (λf cdv A outer s H vs Q E hr h=>?_)
 ·obtain⟨k,n,q,u,v,A,lead,m,rfl,_⟩:=h;rfl
 obtain⟨k,n,q,u,v,A,lead,m,rfl,ru,rv,hq,hn,hk,m0,l0,bm,bA,bl,qq⟩:=h;obtain⟨lA,us,rfl,Lk,_,C⟩:=ru.cf;obtain⟨ll,rfl,Pr,_⟩:=dU rv;refine⟨_,ai (aD (i:=4) jO.nd rfl (z? rfl) (bF ah))
  (ai (cD D? rfl (bM (K:=K) rfl (pv 0)) (aB (i:=5) jO.nd rfl (z? rfl))
   (ai (aD (i:=6) jO.nd rfl (Or.inr rfl) (av bU (bC (aG (K:=K) rfl) (pv 5) (pv 2) (λ_ _=>rfl)) (bC (aG (K:=K) rfl) (pv 1) (pv 2) (λ_ _=>rfl))))
   (au (d8 (qg R? F! G! dO (pv 4) (af (b8 (aI (N:=PM) (sl:=[q?,q?,j? 6,j? 3]) (ao lH) PD rfl rfl (by decide +kernel)) rfl (vL (K:=K) rfl rfl B.zip (af (pv 5) (af (pv 1) ah))) (λ_ _ _ _ _=>(cP (n:=2) (K:=K) rfl rfl (aS (aB (i:=0) (Yk_ PM) rfl (z? rfl)) (aS (aB (i:=1) (Yk_ PM) rfl (z? rfl)) cO)))) (λ_ _ _ _ _=>aU) (λ_ _ _ _ _=>(av bK (av bO (pv 0) (av aX (pv 2) (pv 1))) (pv 3)))) ah))))))
  (ai (aD (i:=6) jO.nd rfl (Or.inr rfl) (av bU (pv 3) (bC (aG (K:=K) rfl) (pv 1) (pv 2) (λ_ _=>rfl))))
  (au (aJ (av gm (pv 4) (bF (af (b8 (aI (N:=["number","often","power"]) (sl:=[q?,j? 6,j? 3]) (ao lH) PD rfl rfl (by decide +kernel)) rfl (bM (K:=K) rfl (pv 1)) (λ_ _ _ _ _=>(aB (i:=0) (Yk_ ["number","often","power"]) rfl (z? rfl))) (λ_ _ _ _ _=>aU) (λ_ _ _ _ _=>(av bK (av aX (pv 1) (pv 0)) (pv 2)))) ah))))))),?_⟩
 walk_at "rd"
 intro p hp;have g0:=aA hp (.lst []);refine⟨_,rfl,lA,rfl,⟨_,aP.of (g0 _ _ Lk)⟩,jD (xs:=us) (λi σ H2=>aH H H2/\∃(ys:List V) (o1 o2:Option V),σ=[Rq lA,Rq ll,Iq (q),j? (.int m),Rq p,o1,o2]/\H2 p=j? (.lst ys)/\Cf H2 (Off H p) ys i λi=>rE n (CZ k A lead q m i))
  ⟨g0,[],_,_,rfl,ay,.nil⟩ (λi σ H2 _ h=>aP.of (h.1 _ _ Lk)) ?_ ?_⟩
 ·rintro i vx σ H2 lJ ⟨g2,ys,o1,o2,rfl,ep,Cy⟩
  obtain⟨hi,ri⟩:=C.get lJ;obtain⟨lr,rfl,hlr,_⟩:=dU ri;refine⟨_,rfl,_,rfl,lr,_,_,_,rfl,rfl,aP.of (g2 _ _ hlr),nv hq,_,rfl,_,rfl,ll,_,_,_,rfl,rfl,aP.of (g2 _ _ Pr),nv hq,_,_,rfl,rfl,(bl q hq).dv (by omega),?_⟩
  show ig 6 (V.int ((A i q).fdiv (lead q))) _ _ _
  rw[Zl _ (show 0<=lead q by omega)]
  refine⟨_,rfl,.inl ⟨rfl,_,aP.of ep⟩,_,rfl,_,rfl,lr,ll,rfl,⟨_,aP.of (g2 _ _ hlr)⟩,⟨_,aP.of (g2 _ _ Pr)⟩,λD hD=>?_⟩
  have bo:Bd 8000 (A i q / lead q):=by
   rw[<- Zl _ (show 0<=lead q by omega)];exact(bA i q hi hq).fdiv
  refine Pz (λj=>.num (CZ k A lead q m i j)) (n:=n) (by rw[Ya,aQ]) (by rw[Ya,aQ]) (g2 _ _ hlr) (g2 _ _ Pr) hD (by omega) (λj vx vy t H3 Q2 hj g3 lJ J7 ht q2=>?_) λH3 g3 rr=>?_
  ·obtain⟨y1,hy1,rfl⟩:=a_ lJ
   obtain⟨y2,J1,rfl⟩:=a_ J7;rw[cZ hj] at hy1 J1;cases hy1;cases J1;refine⟨t,_,rfl,jv.of ht,rfl,_,_,rfl,_,_,rfl,rfl,?_⟩
   refine⟨_,rfl,_,rfl,_,rfl,_,_,rfl,rfl,bo.ok (bl j hj),_,_,rfl,rfl,_,rfl,_,_,rfl,rfl,(show m≠0 by omega),?_⟩
   show Q2 (V.int ((A i j-A i q / lead q*lead j).fmod m)) H3
   have e:(A i j-A i q / lead q*lead j).fmod m=CZ k A lead q m i j:=by
    unfold CZ;rw[W9 hi,Y7 _ (by omega)]
   rw[e];exact q2 _ H3 (aH.refl _) (.num _)
  ·refine⟨p,_,_,rfl,rfl,g3 _ _ ep,by rw[Cy.len,C?];omega,?_⟩
   exact⟨(g2.trans g3).bw hp _,_,_,_,rfl,ay,((Cy.same g3).push (rr.Mk g2 ep)).upd⟩
 ·rintro σ H2 ⟨g2,ys,o1,o2,rfl,ep,Cy⟩
  rw[C.len] at Cy;refine⟨_,rfl,_,rfl,_,rfl,ll,_,_,_,rfl,rfl,aP.of (g2 _ _ Pr),nv hq,_,_,rfl,rfl,(bl q hq).dv (by omega),?_⟩
  show ig 6 (V.int (m.fdiv (lead q))) _ _ _
  rw[Zl _ (show 0<=lead q by omega)]
  have bo:Bd 8000 (m / lead q):=by
   rw[<- Zl _ (show 0<=lead q by omega)];exact bm.fdiv
  refine⟨_,rfl,_,rfl,ll,rfl,⟨_,aP.of (g2 _ _ Pr)⟩,λD hD=>?_⟩
  refine nW (λj=>.num (CZ k A lead q m k j)) (n:=n) (by rw[Ya,aQ]) (g2 _ _ Pr) hD (by omega) (λj vx H3 Q2 hj g3 lJ q2=>?_) λH3 g3 rr=>?_
  ·obtain⟨y1,hy1,rfl⟩:=a_ lJ
   rw[cZ hj] at hy1;cases hy1;refine⟨_,rfl,_,rfl,_,_,rfl,rfl,bo.ok (bl j hj),_,rfl,_,_,rfl,rfl,(show m≠0 by omega),?_⟩
   show Q2 (V.int ((m / lead q*lead j).fmod m)) H3
   have e:(m / lead q*lead j).fmod m=CZ k A lead q m k j:=by
    unfold CZ;rw[W8 (by omega),Y7 _ (by omega)]
   rw[e];exact q2 _ H3 (aH.refl _) (.num _)
  ·refine⟨aZ rfl,λp2 n2=>?_⟩
   have k2:=aA n2 (.lst [.ref D]);have g4:=(g2.trans g3).trans k2;refine⟨p,p2,_,_,rfl,rfl,k2 _ _ (g3 _ _ ep),ay,by rw[Cy.len,C?];show k+1<=_;omega,λp3 n3=>?_⟩
   have k3:=aA n3 (.lst (ys++[.ref D]));refine qq _ _ (g4.trans k3) ?_
   have c1:=((Cy.IZ.same g3).push (rr.older g2)).same (k2.trans k3);exact c1.rep ay (g4.free n3)
end
def fR:Str:="lead_at.<locals>.<lambda>"
structure Kf (k n:Nat)(A:Nat->Vc)(q p d:Nat)(lead:Vc):Prop where
 pw:∃s,s<=d/\lead q=(p:Int) ^ s
 oV:∀j,j<n->0<=lead j/\lead j<=(p:Int) ^ d
 dv:∀i,i<k->lead q ∣ A i q
 src:(∃i,i<k/\∃b:Int,∀j,j<n->lead j=(b*A i j) % (p:Int) ^ d)\/∀j,j<n->lead j=if j=q then (p:Int) ^ d else 0
def B9 (K:bE)(Pp:o?):Sp:=λvs H Q _=>∃(k n q d p:Nat) (u:V) (A:Nat->Vc),vs=[u,.int (q:Int),.int (p:Int),.int ((p:Int) ^ d)]/\p∈PR/\Rep (del H Pp) Any u (mE k n A)/\q<n/\n<=20/\1<=k/\k<=90/\1<=d/\d<=30/\(∀i j,i<k->j<n->0<=A i j/\A i j<(p:Int) ^ d)/\fj fR Pp H/\
 ∀lead r H',cF H Pp H'->fj fR Pp H'->Kf k n A q p d lead->Rep (del H' Pp) (dX H) r (rE n lead)->Q r H'
theorem D8 {Pp:o?}{pos:Pos}{L:pW}{cl:List (Str×o?)}{σ:St}{H:Hp}{Q:VK}{ql:Str}(hq:L.qual=ql)(tq:fj ql Pp H)(q:∀f c H',cF H Pp H'->fj ql Pp H'->L.here cl f c H'->Q (.ref f) H'):zj Pp pos L cl σ H Q:=by subst hq;exact Gz tq q
theorem Kg {K:bE}{N:List Str}{Pp l:o?}{pos:Pos}{L:pW}{cl:List (Str×o?)}{σ:St}{H:Hp}{Q:VK}{ql:Str}{i:Nat}(hq:L.qual=ql)(hσ:σ[i]?=j? (j? (.ref l)))(tq:fj ql Pp H)(q:∀f c H',cF H Pp H'->fj ql Pp H'->L.here cl f c H'->BG K N L cl σ [.ref l] [.ref f] H' Q):
  Jj (BG K N L cl) (A_ (Oh i) Hz) (A_ (zj Pp pos L cl) Hz) σ H Q:=by
 refine⟨_,hσ,?_⟩
 show zj Pp pos L cl σ H λy H2=>BG K N L cl σ [.ref l] [y] H2 Q
 exact D8 hq tq q
theorem Az {p:Nat}(hp:p∈PR){m:Int}(hm:¬ (p:Int) ∣ m):∀d:Nat,∃x y:Int,x*m+y*(p:Int) ^ d=1
 | 0=>⟨0,1,by rw[Zc];omega⟩
 | d+1=>by
  obtain⟨x,y,e⟩:=Az hp hm d;have pp:=cY hp;have h1:=Zg m (show(p:Int)≠0 by omega)
  have h2:=Zd m (show(0:Int)<p by omega)
  obtain⟨c,hc⟩:=Zj h1;have c0:c≠0:=λz=>hm (Int.dvd_of_emod_eq_zero (by rw[hc,z];rfl))
  obtain⟨b,hb,e1⟩:=Dz p hp c (by omega) (by omega)
  have p2:2<=p:=by
   have:∀q∈PR,2<=q:=by decide
   exact this p hp
  have e1:c*b % p=1:=by rw[e1];exact Z5 (by omega)
  have e2:(c:Int)*(b:Int)=1+(p:Int)*((c*b / p:Nat):Int):=by
   have:=Nat.div_add_mod (c*b) p
   rw[e1] at this;have h:((p*(c*b / p)+1:Nat):Int)=((c*b:Nat):Int):=by rw[this]
   rw[Int.natCast_add,Zy,Zy] at h;omega
  have e3:m=(c:Int)+(p:Int)*(m / p):=by
   have:=Z3 m (p:Int)
   rw[hc] at this;omega
  generalize m / (p:Int)=g at e3;generalize ((c*b / p:Nat):Int)=t at e2;refine⟨x*(b*m-(p:Int)*(g*b+t))+y*(p:Int) ^ d*b,-(y*(g*b+t)),?_⟩
  rw[Za];generalize (p:Int) ^ d=W at e;have e4:(b:Int)*m-(p:Int)*(g*b+t)=1:=by rw[e3];grind
  rw[e4];grind
theorem FD {H:Hp}{ok:o?->Prop}{n:Nat}:∀ {ys:List V},(∀y∈ys,∃e,Rep H ok y e/\Gs n e)->∃es:List El,ys.length=es.length/\(∀(i:Nat) v e,ys[i]?=j? v->es[i]?=j? e->Rep H ok v e)/\∀e∈es,Gs n e
 | [],_=>⟨[],rfl,λi v e h=>by simp at h,λe h=>by simp at h⟩
 | y::ys,h=>by
  obtain⟨e,r,f⟩:=h y Y9;obtain⟨es,h1,h2,h3⟩:=FD (ys:=ys) λz hz=>h z (Y5 _ hz)
  refine⟨e::es,by simp[h1],λi v d a b=>?_,λd hd=>?_⟩
  ·cases i with
   | zero=>cases a;cases b;exact r
   | succ i=>exact h2 i v d a b
  ·rcases List.mem_cons.mp hd with rfl|hd
   ·exact f
   ·exact h3 d hd
theorem NR {n:Nat}{v:Vc}(h:n<=100):Gs 1 (rE n v):=.vec (by rw[Ya,Yg];exact h) λe he=>by
 obtain⟨i,_,rfl⟩:=List.mem_map.mp he;exact .num _
theorem Rep.AA {H0 H1 H2:Hp}{Pp:o?}{o:HO}{v:V}{e:El}(r:Rep H2 (dX H1) v e)(hP:H1 Pp=j? o)(f:∀b,H1 b=q?->H0 b=q?):Rep (del H2 Pp) (dX H0) v e:=r.imp λb u h k=>⟨by
  rw[jK (λz=>by rw[z] at k;rw[show H1 Pp=q? from k] at hP;cases hP)];exact h,f b k⟩
theorem zx {p d:Nat}(hp:p∈PR)(hd:d<=30):Bd 200 ((p:Int) ^ d):=by
 have:∀q∈PR,q<=2 ^ 6:=by decide
 show((p:Int) ^ d).natAbs<2 ^ 200
 rw[<- Zx,Int.natAbs_natCast];refine Z4 (Z2 (this p hp) d) ?_
 rw[<- Wk];exact Wf (by decide) (by omega)
section
theorem D9 {iI aC:o?}(B:ia mg)(hbm:BMain mg base)(jS:PySem.W.codeHdIn K iI aC=true)(ow:b_ P w K mg base 1 "taken_out" sU Ao)(eG:b_ P w K mg base 2 "size_of_number" sU vN)(GR:b_ P w K mg base 1 "back_by" ["k","power"] J9)(jR:b_ P w K mg base 1 "unit_row" Ak Ax)(F:Je K mg "lead_at" fP JR iI):b_ P w K mg base 7 "lead_at" JR (B9 K aC):=by
 refine F.ok mK (λvs H Q E h=>?_) (λfa A outer s H vs Q E hr h=>?_)
 ·obtain⟨k,n,q,d,p,u,A,rfl,_⟩:=h;rfl
 obtain⟨k,n,q,d,p,u,A,rfl,hp,ru,hq,hn,hk1,hk,hd1,hd,hA,tq,qq⟩:=h;obtain⟨lA,us,rfl,Lk,_,C⟩:=id ru.cf;refine⟨_,ai (lY (i:=4) mK.nd rfl (z? rfl) (aI (N:=["row","place"]) (sl:=[q?,j? 1]) (ao fP) PF rfl rfl (by decide +kernel)) rfl (bM (K:=K) rfl (pv 0)) (λ_ _ _ _ _=>(aB (i:=0) (Yk_ ["row","place"]) rfl (z? rfl))) (λ_ _ _ _ _=>(LQ (aW kY (bC (aG (K:=K) rfl) (pv 0) (pv 1) (λ_ _=>rfl)) ak (bD _)))) (λ_ _ _ _ _=>(pv 0)))
  (ai (cW (aW (mh (K:=K) rfl hr.units) (pv 4) (bF ah) (bD _))
   (au (aJ (aF jR hr (af (aE (aN (K:=K) rfl) rfl B.len bI (af (bC (aG (K:=K) rfl) (pv 0) ak (λ_ _=>rfl)) ah)) (af (pv 1) (af (pv 3) ah))))))
   (bY))
  (ai (aD (i:=5) mK.nd rfl (z? rfl) (Mt (c:=iI) (P:=aC) (x:="one") (N:=["place","p"]) (k:=2) (K:=K) rfl (λ_ _ _ _ _ _ _ hr=>(aF eG hr (af (bC (aG (K:=K) rfl) (pv 0) (pv 1) (λ_ _=>rfl)) (af (pv 2) ah)))) (hr.mono (by first|decide|omega)) rfl ⟨rfl,rfl⟩ (λ_=>rfl) hbm rfl jS rfl B.«min» (af (pv 4) ah) (λ_ _ _ _ _=>rfl) (Gx (by decide +kernel)) (Mr (sc:=ao fP) (by decide +kernel)) (by decide +kernel) rfl (by decide +kernel)))
  (ai (aD (i:=6) mK.nd rfl (Or.inr rfl) (aF GR hr (af (bC (l_ (K:=K) rfl) (aF ow hr (af (bC (aG (K:=K) rfl) (pv 5) (pv 1) (λ_ _=>rfl)) (af (pv 2) ah))) ak (λ_ _=>rfl)) (af (pv 3) ah))))
  (au (aJ (b8 (aI (N:=["number","back","power"]) (sl:=[q?,j? 6,j? 3]) (ao fP) PF rfl rfl (by decide +kernel)) rfl (bM (K:=K) rfl (pv 5)) (λ_ _ _ _ _=>(aB (i:=0) (Yk_ ["number","back","power"]) rfl (z? rfl))) (λ_ _ _ _ _=>aU) (λ_ _ _ _ _=>(av bK (av aX (pv 1) (pv 0)) (pv 2))))))))),?_⟩
 have D_:=(cu Lk).2;have p2:2<=p/\p<50:=by
  have:∀q∈PR,2<=q/\q<50:=by decide
  exact this p hp
 have NS:=zx hp hd;have hm0:(0:Int)<(p:Int) ^ d:=Z9 (by omega)
 walk_at "rd"
 refine⟨⟨_,aP.of D_⟩,λD hD=>?_⟩
 refine fN (xs:=us) (λi ys H2=>aH H H2/\ys.length<=i/\(∀y∈ys,∃j,us[j]?=j? y/\A j q≠0)/\∀j y,j<i->us[j]?=j? y->A j q≠0->y∈ys) ⟨aA hD _,Yd 0,λy hy=>by simp at hy,λj y hj=>Jf hj (Wm _)⟩ (λi ys H2 _ h=>aP.of (h.1 _ _ D_)) ?_ ?_
 ·rintro i m x ys H2 hm hi hx hy hlen ⟨g2,hle,h1,h2⟩
  obtain⟨hik,ri⟩:=C.get hx;obtain⟨lr,rfl,hlr,_⟩:=dU ri;have MP:=(cu hlr).2;refine⟨_,rfl,_,rfl,lr,_,_,_,rfl,rfl,aP.of (g2 _ _ MP),nv hq,rfl,_,rfl,?_⟩
  by_cases z:A i q=0
  ·refine k8 (by rw[z]) (CW.skip hm hi hy hlen ⟨g2,by omega,h1,λj y hj e nz=>?_⟩)
   by_cases c:j=i
   ·rw[c] at nz;exact Jf z nz
   ·exact h2 j y (by omega) e nz
  ·refine Bh (λy=>z (V.int.inj y)) ⟨_,rfl,CW.emit hm hi (by rw[C.len,C?];omega) hy hlen ⟨aH.bw g2 hD _,by rw[Yk];show ys.length+1<=_;omega,λy hy=>?_,λj y hj e nz=>?_⟩⟩
   ·rcases List.mem_append.mp hy with y1|y1
    ·exact h1 y y1
    ·rw[List.mem_singleton.mp y1];exact⟨i,hx,z⟩
   ·by_cases c:j=i
    ·rw[c,hx] at e;cases e
     exact Yu _ Y9
    ·exact List.mem_append_left _ (h2 j y (by omega) e nz)
 ·rintro ys H2 hy ⟨g2,hle,h1,h2⟩
  rw[C.len] at h2 hle;have fD:H D=q?:=hD;refine⟨_,rfl,aZ rfl,λpe MI=>?_⟩
  have k3:=aA MI (.lst []);have g3:=g2.trans k3;have hyp:=k3 _ _ hy;have NT:(L2.upd H2 pe (.lst [])) pe=j? (.lst []):=ay;have MQ:=tq.same g3;generalize L2.upd H2 pe (.lst [])=H3 at k3 g3 hyp NT MQ;have uv:∀y j,us[j]?=j? y->j<k/\∃lr,y=.ref lr/\H lr=j? (.lst ((lv n (A j)).map V.int))/\lr≠aC:=λy j e=>by
   obtain⟨hj,rj⟩:=C.get e;obtain⟨lr,rfl,hlr,_⟩:=dU rj;exact⟨hj,lr,rfl,(cu hlr).2,(cu hlr).1⟩
  obtain⟨es,el,er,ef⟩:=FD (H:=H3) (ok:=Any) (n:=1) (ys:=ys) λy hy=>by
   obtain⟨j,e,_⟩:=h1 y hy;obtain⟨hj,lr,rfl,hlr,_⟩:=uv y j e;exact⟨_,Fd (g3 _ _ hlr) trivial,NR (by omega)⟩
  have abw:ys.length<=100:=by omega
  have rys:Rep H3 Any (.ref D) (.vec es):=.vec hyp trivial el er;have Kh:Rep H3 Any (.ref pe) (.vec []):=.vec NT trivial rfl λi v e h=>by simp at h
  refine Ny rys Kh (.vec (by omega) ef) (.vec (n:=1) (by decide) λe he=>by simp at he) (by decide) (by decide) (λe=>?_) (λe=>?_)
  ·have y0:ys=[]:=by
    have:es=[]:=by injection e
    rw[this] at el;exact List.length_eq_zero_iff.mp el
   have az:∀i,i<k->A i q=0:=λi hi=>V? λz=>by
    have:=h2 i _ hi (Yc (by rw[C.len];exact hi)) z
    rw[y0] at this;simp at this
   refine⟨_,rfl,jE ?_⟩
   obtain⟨v0,hv0,_⟩:=C.at_ 0 (by omega)
   obtain⟨_,l0,rfl,HH,_⟩:=uv v0 0 hv0;have Ka:qe us 0=j? (.ref l0):=dQ (j:=0) hv0;refine⟨_,rfl,lA,_,_,_,rfl,rfl,aP.of (g3 _ _ D_),Ka,l0,_,rfl,.inl (aP.of (g3 _ _ HH)),?_⟩
   rw[Ya,aQ];refine⟨_,rfl,_,rfl,n,q,(p:Int) ^ d,rfl,by omega,λr H4 g4 rr=>?_⟩
   obtain⟨ps,NU,_⟩:=id MQ;refine qq (λj=>if j=q then (p:Int) ^ d else 0) r H4 (cF.of (g3.trans g4)) (MQ.same g4) ⟨⟨d,Yd d,W9 rfl⟩,λj _=>?_,λi hi=>by rw[az i hi];exact Int.dvd_zero _,.inr λj _=>rfl⟩ (Rep.AA rr NU λb hb=>g3.free hb)
   by_cases c:j=q
   ·rw[W9 c];omega
   ·rw[W8 c];omega
  ·have y0:ys≠[]:=λz=>e (by rw[z] at el;rw[List.length_eq_zero_iff.mp el.symm])
   refine⟨_,rfl,gp ?_⟩
   have hj:∀i:Nat,∃j:Nat,∀y,ys[i]?=j? y->us[j]?=j? y/\A j q≠0:=λi=>by
    cases h:ys[i]? with
    | none=>exact⟨0,λy z=>by cases z⟩
    | some y=>
     obtain⟨j,a,b⟩:=h1 y (Yw h);exact⟨j,λy' z=>by cases z;exact⟨a,b⟩⟩
   obtain⟨jf,VE⟩:=Classical.axiomOfChoice hj;have hs:∀i,∃s:Nat,A (jf i) q≠0->fq (p:Int) (A (jf i) q) s:=λi=>by
    by_cases z:A (jf i) q=0
    ·exact⟨0,λy=>Jf z y⟩
    ·obtain⟨s,hs⟩:=Dh (p:=(p:Int)) (by omega) z
     exact⟨s,λ_=>hs⟩
   obtain⟨sf,VF⟩:=Classical.axiomOfChoice hs;have hPl:∃o,H3 aC=j? o:=by obtain⟨ps,h,_⟩:=id MQ;exact⟨_,h⟩
   refine Kg (i:=4) (l:=D) rfl rfl MQ λf c H4 YR Ln hh=>?_
   have hDP:D≠aC:=λz=>by
    obtain⟨ps,h,_⟩:=id tq;rw[z] at hD;rw[h] at hD;cases hD
   have n4:cF H aC H4:=(cF.of g3).trans YR;have hy4:=YR D _ hDP hyp;refine⟨D,f,c,ys,[.int (q:Int),.int (p:Int)],λi=>(sf i:Int),λi H'=>aH H4 H',rfl,rfl,List.length_pos_iff.mpr y0,?_,rfl,aH.refl _,⟨λi H' g=>aP.of (g _ _ hy4),λi v H' hv g=>⟨hh.same g,?_⟩,λi v H5 hv hmin g5=>?_⟩⟩
   ·intro j x v e1 e2
    match j,e1,e2 with
    | 0,e1,e2=>cases e1;cases e2;exact⟨1,rfl,rfl⟩
    | 1,e1,e2=>cases e1;cases e2;exact⟨2,rfl,rfl⟩
    | j+2,e1,e2=>have e2:([]:List V)[j]?=j? v:=e2;simp at e2
   ·obtain⟨e1,e2⟩:=VE i v hv
    obtain⟨_,lr,rfl,hlr,hne⟩:=uv v _ e1;refine⟨_,rfl,_,rfl,lr,_,_,_,rfl,rfl,aP.of (g _ _ (n4 _ _ hne hlr)),nv hq,_,rfl,_,(p:Int),rfl,by omega,by omega,λx H6 g6 sv=>?_⟩
    rcases sv with ⟨z,_⟩|⟨_,s',hv',rfl⟩
    ·exact Jf z e2
    ·exact⟨by rw[hv'.uniq (VF i e2)],g.trans g6⟩
   ·obtain⟨e1,e2⟩:=VE i v hv
    obtain⟨hjk,lr,rfl,hlr,hne⟩:=uv v _ e1;have vi:=VF i e2;have n5:cF H aC H5:=n4.trans (cF.of g5);have VG:=n5 _ _ hne hlr;obtain⟨a0,a1⟩:=hA (jf i) q hjk hq;have dv:∀i',i'<k->(p:Int) ^ sf i ∣ A i' q:=λi' hi'=>by
     by_cases z:A i' q=0
     ·rw[z];exact Int.dvd_zero _
     ·have eg:us[i']?=j? (us[i']'(by rw[C.len];exact hi')):=Yc _
      have hin:=h2 i' _ hi' eg z;obtain⟨m,hm,em⟩:=Wa hin;have hym:ys[m]?=j? (us[i']'(by rw[C.len];exact hi')):=by rw[Yc hm,em]
      obtain⟨e3,e4⟩:=VE m _ hym;have hle:=hmin m hm;obtain⟨_,l1,x1,x2,_⟩:=uv _ _ e3;obtain⟨_,l2,x3,x4,_⟩:=uv _ _ eg;rw[x1] at x3;cases x3;rw[x2] at x4;have x5:(lv n (A (jf m))).map V.int=(lv n (A i')).map V.int:=by injection x4 with x4;injection x4
      have x6:A (jf m) q=A i' q:=by
       have:=Jd (λl=>l[q]?) x5
       simp only[Ye,cZ hq] at this
       injection this with this;injection this
      rw[<- x6];exact Int.dvd_trans (gR _ (by have:(sf i:Int)<=(sf m:Int):=hle;omega)) (VF m e4).dv
    have hps:(0:Int)<(p:Int) ^ sf i:=Z9 (by omega)
    refine⟨_,rfl,_,rfl,lr,_,_,_,rfl,rfl,aP.of VG,nv hq,_,rfl,A (jf i) q,(p:Int),rfl,e2,by omega,by omega,λv' m' r H6 g6 ek nd et=>?_⟩
    have ev:v'=sf i:=(fq.of (by omega) ek nd).uniq vi
    subst ev;have mp:0<m':=by
     rcases Int.lt_or_le 0 m' with y|y
     ·exact y
     ·have h:=Wz (Wy hps) (show 0<=-m' by omega)
      rw[Int.mul_neg,<- ek] at h;omega
    have mle:m'<=A (jf i) q/\(p:Int) ^ sf i<=A (jf i) q:=by
     have h1:=Int.mul_le_mul_of_nonneg_right (show 1<=(p:Int) ^ sf i by omega) (Wy mp)
     have h2:=Int.mul_le_mul_of_nonneg_left (show 1<=m' by omega) (Wy hps)
     rw[<- ek] at h1 h2;omega
    have pd2:2<=(p:Int) ^ d:=by
     obtain⟨d',rfl⟩:∃d',d=d'+1:=⟨d-1,by omega⟩
     rw[Za];have h1:(0:Int)<(p:Int) ^ d':=Z9 (by omega)
     have h2:=Int.mul_le_mul_of_nonneg_right (show 1<=(p:Int) ^ d' by omega) (show(0:Int)<=p by omega)
     omega
    have bm':Bd 200 m':=Bd.le (y:=(p:Int) ^ d) (by omega) NS
    refine⟨r,_,_,_,rfl,rfl,jv.of et,rfl,_,rfl,m',(p:Int) ^ d,rfl,mp,pd2,bm'.mono (by decide),NS.mono (by decide),Az hp nd d,λb t b0 b1 eb H7 g7=>?_⟩
    have n7:cF H aC H7:=n5.trans (cF.of (g6.trans g7));have YS:=((Ln.same g5).same g6).same g7;have SI:=n7 _ _ hne hlr;refine⟨_,rfl,lr,rfl,⟨_,aP.of SI⟩,λD2 yi=>?_⟩
    refine nW (λj=>.num ((b*A (jf i) j) % (p:Int) ^ d)) (n:=n) (by rw[Ya,aQ]) SI yi (by omega) (λj vx H8 Q2 hj g8 lJ q2=>?_) λH8 g8 rr=>?_
    ·obtain⟨y1,hy1,rfl⟩:=a_ lJ
     rw[cZ hj] at hy1;cases hy1;have aj:=hA (jf i) j hjk hj;refine⟨_,rfl,_,rfl,_,_,rfl,rfl,(Bd.le (y:=(p:Int) ^ d) (by omega) NS).ok (Bd.le (y:=(p:Int) ^ d) (by omega) NS),_,rfl,_,_,rfl,rfl,(show(p:Int) ^ d≠0 by omega),?_⟩
     show Q2 (V.int ((b*A (jf i) j).fmod ((p:Int) ^ d))) H8
     rw[Y7 _ (by omega)]
     exact q2 _ H8 (aH.refl _) (.num _)
    ·have hP7:∃o,H7 aC=j? o:=by obtain⟨ps,h,_⟩:=id YS;exact⟨_,h⟩
     obtain⟨o7,YT⟩:=hP7;have eq:(b*A (jf i) q) % (p:Int) ^ d=(p:Int) ^ sf i:=by
      have:b*A (jf i) q=(p:Int) ^ sf i+(p:Int) ^ d*((p:Int) ^ sf i*t):=by rw[ek];grind
      rw[this,Int.add_mul_emod_self_left];exact Int.emod_eq_of_lt (by omega) (by omega)
     have sd:sf i<=d:=by
      rcases Nat.le_total (sf i) d with y|y
      ·exact y
      ·exact Jf (Int.le_of_dvd hps (gR (p:Int) y)) (by omega)
     refine qq (λj=>(b*A (jf i) j) % (p:Int) ^ d) _ H8 (n7.trans (cF.of g8)) (YS.same g8) ⟨⟨sf i,sd,eq⟩,λj hj=>?_,λi' hi'=>by show(b*A (jf i) q) % (p:Int) ^ d ∣ _;rw[eq];exact dv i' hi',.inl ⟨jf i,hjk,b,λj _=>rfl⟩⟩ (Rep.AA rr YT λb hb=>n7.fresh ⟨o7,YT⟩ hb)
     have h1:=Zg (b*A (jf i) j) (show(p:Int) ^ d≠0 by omega)
     have h2:=Zd (b*A (jf i) j) hm0;exact⟨h1,Wy h2⟩
end
def rowsOf (k n:Nat)(A:Nat->Vc):List Vc:=(Ym k).map λi=>fk n (A i)
theorem cU {k n:Nat}{A:Nat->Vc}{r:Vc}:r∈rowsOf k n A↔∃i,i<k/\r=fk n (A i):=by
 unfold rowsOf;rw[List.mem_map];exact⟨λ⟨i,h,e⟩=>⟨i,List.mem_range.mp h,e.symm⟩,λ⟨i,h,e⟩=>⟨i,List.mem_range.mpr h,e.symm⟩⟩
theorem c7 {n j:Nat}{v:Vc}(h:n<=j):fk n v j=0:=W8 (by omega)
theorem cG {n j:Nat}{v:Vc}(h:j<n):fk n v j=v j:=W9 h
theorem Kl {n q k p d:Nat}{R:List Vc}{T:Nat->Vc}{A:Nat->Vc}{ld:Vc}(hp:2<=p)(hq:q<n)(h:Jl n R ((p:Int) ^ d) (q+1) T (rowsOf k n A))(L:Kf k n A q p d ld):Jl n R ((p:Int) ^ d) q (λi=>if i=q then fk n ld else T i) (rowsOf (k+1) n (CZ k A ld q ((p:Int) ^ d))):=by
 have m0:(0:Int)<(p:Int) ^ d:=Z9 (by omega)
 obtain⟨s,hs,es⟩:=L.pw;have l0:(0:Int)<ld q:=by rw[es];exact Z9 (by omega)
 have ht:(p:Int) ^ d / ld q*ld q=(p:Int) ^ d:=Int.ediv_mul_cancel (by rw[es];exact gR _ hs)
 have low:∀i,i<k->∀j,q+1<=j->j<n->A i j=0:=λi hi j h1 h2=>by
  have:=h.low (fk n (A i)) (cU.mpr ⟨i,hi,rfl⟩) j h1
  rw[cG h2] at this;exact this
 have VH:∀j,q+1<=j->j<n->ld j=0:=λj h1 h2=>by
  rcases L.src with ⟨i,hi,b,e⟩|e
  ·rw[e j h2,low i hi j h1 h2,Y6,Int.zero_emod]
  ·rw[e j h2,W8 (by omega)]
 have dvq:∀i,i<k->A i q / ld q*ld q=A i q:=λi hi=>Int.ediv_mul_cancel (L.dv i hi)
 have w1:∀i,i<k->∀j,fk n (A i) j=fk n (CZ k A ld q ((p:Int) ^ d) i) j+(A i q / ld q)*fk n ld j+(p:Int) ^ d*fk n (λj=>(A i j-(A i q / ld q)*ld j) / (p:Int) ^ d) j:=λi hi j=>by
  by_cases c:j<n
  ·rw[cG c,cG c,cG c,cG c]
   unfold CZ;rw[W9 hi];have:=Z3 (A i j-(A i q / ld q)*ld j) ((p:Int) ^ d)
   omega
  ·rw[c7 (by omega),c7 (by omega),c7 (by omega),c7 (by omega)];omega
 have w2:∀j,((p:Int) ^ d / ld q)*fk n ld j=fk n (CZ k A ld q ((p:Int) ^ d) k) j+(p:Int) ^ d*fk n (λj=>(((p:Int) ^ d / ld q)*ld j) / (p:Int) ^ d) j:=λj=>by
  by_cases c:j<n
  ·rw[cG c,cG c,cG c]
   unfold CZ;rw[W8 (by omega)]
   have:=Z3 (((p:Int) ^ d / ld q)*ld j) ((p:Int) ^ d)
   omega
  ·rw[c7 (by omega),c7 (by omega),c7 (by omega)];omega
 refine h.step hq (by omega) ?_ (λj hj=>?_) (t:=(p:Int) ^ d / ld q) (by rw[cG hq];exact ht) (λr hr=>?_) ⟨_,cU.mpr ⟨k,by omega,rfl⟩,_,w2⟩ (λr' hr'=>?_) λr' hr' j hj=>?_
 ·rcases L.src with ⟨i,hi,b,e⟩|e
  ·refine((h.sub _ (cU.mpr ⟨i,hi,rfl⟩)).jy b Gq.zero).Jk (z:=λj=>-fk n (λj=>(b*A i j) / (p:Int) ^ d) j) (λj hj=>c7 hj) λj=>?_
   by_cases c:j<n
   ·rw[cG c,cG c,cG c,e j c]
    have:=Z3 (b*A i j) ((p:Int) ^ d)
    grind
   ·rw[c7 (by omega),c7 (by omega),c7 (by omega)];grind
  ·refine(Gq.unit hq).of λj=>?_
   by_cases c:j<n
   ·rw[cG c,e j c]
   ·rw[c7 (by omega),W8 (by omega)]
 ·by_cases c:j<n
  ·rw[cG c];exact VH j hj c
  ·exact c7 (by omega)
 ·obtain⟨i,hi,rfl⟩:=cU.mp hr
  exact⟨_,cU.mpr ⟨i,by omega,rfl⟩,_,_,w1 i hi⟩
 ·obtain⟨i,hi,rfl⟩:=cU.mp hr'
  by_cases c:i<k
  ·exact .inl ⟨_,cU.mpr ⟨i,c,rfl⟩,_,_,w1 i c⟩
  ·obtain rfl:i=k:=by omega
   exact .inr ⟨_,w2⟩
 ·obtain⟨i,hi,rfl⟩:=cU.mp hr'
  by_cases c:j<n
  ·rw[cG c]
   unfold CZ;by_cases ci:i<k
   ·rw[W9 ci]
    by_cases e:j=q
    ·rw[e,dvq i ci,Int.sub_self,Int.zero_emod]
    ·rw[low i ci j (by omega) c,VH j (by omega) c,Y6,Int.sub_zero,Int.zero_emod]
   ·rw[W8 ci]
    by_cases e:j=q
    ·rw[e,ht,Int.emod_self]
    ·rw[VH j (by omega) c,Y6,Int.zero_emod]
  ·exact c7 (by omega)
theorem GS {n k:Nat}{m:Int}{A:Nat->Vc}{T:Nat->Vc}:Jl n (rowsOf k n A) m n T (rowsOf k n λi j=>A i j % m):=by
 have e:∀i j,fk n (A i) j=fk n (λj=>A i j % m) j+m*fk n (λj=>A i j / m) j:=λi j=>by
  by_cases c:j<n
  ·rw[cG c,cG c,cG c];exact(Z3 _ _).symm
  ·rw[c7 (by omega),c7 (by omega),c7 (by omega)];omega
 refine .start (λr hr=>?_) λr hr=>?_
 ·obtain⟨i,hi,rfl⟩:=cU.mp hr
  exact(Gq.mem (cU.mpr ⟨i,hi,rfl⟩) λj hj=>c7 hj).Jk (z:=λj=>-fk n (λj=>A i j / m) j) (λj hj=>c7 hj) λj=>by have:=e i j;grind
 ·obtain⟨i,hi,rfl⟩:=cU.mp hr
  exact⟨_,cU.mpr ⟨i,hi,rfl⟩,_,e i⟩
def Km (K:bE)(Pp:o?):Sp:=λvs H Q _=>∃(k n d p:Nat) (u:V) (A:Nat->Vc),vs=[u,.int (p:Int),.int (d:Int)]/\p∈PR/\Rep (del H Pp) Any u (mE k n A)/\1<=n/\n<=20/\1<=k/\k<=60/\1<=d/\d<=30/\fj fR Pp H/\
 ∀(T:Nat->Vc) (s:Nat->Nat) r H',cF H Pp H'->fj fR Pp H'->c_ n T->(∀i,i<n->T i i=(p:Int) ^ s i/\s i<=d)->(∀i j,i<n->j<n->0<=T i j/\T i j<=(p:Int) ^ d/\(j≠i->T i j<(p:Int) ^ d))->(∀v,Gq (rowsOf k n A) ((p:Int) ^ d) n v↔gK n T v)->Rep (del H' Pp) (dX H) r (mE n n T)->Q r H'
section
theorem yo {aC:o?}(B:ia mg)(jT:b_ P w K mg base 1 "number_power" ["k","n"] wZ)(GU:b_ P w K mg base 7 "lead_at" JR (B9 K aC))(GV:b_ P w K mg base 1 "without" JP (NQ K))(F:Src K mg "triangular" jo GH):b_ P w K mg base 8 "triangular" GH (Km K aC):=by
 refine F.ok dZ (λvs H Q E h=>?_) (λf cdv A outer s H vs Q E hr h=>?_)
 ·obtain⟨k,n,d,p,u,A,rfl,_⟩:=h;rfl
 obtain⟨k,n,d,p,u,A,rfl,hp,ru,hn1,hn,hk1,hk,hd1,hd,tq,qq⟩:=h;obtain⟨lA,us,rfl,Lk,_,C⟩:=id ru.cf;have D_:=(cu Lk).2;have pp:=cY hp;refine⟨_,ai (aD (i:=3) dZ.nd rfl (Or.inr rfl) (aF jT hr (af (pv 1) (af (pv 2) ah))))
  (ai (lY (i:=4) dZ.nd rfl (z? rfl) (aI (N:=["row","power"]) (sl:=[q?,j? 3]) (ao jo) XN rfl rfl (by decide +kernel)) rfl (bM (K:=K) rfl (pv 0)) (λ_ _ _ _ _=>(aB (i:=0) (Yk_ ["row","power"]) rfl (z? rfl))) (λ_ _ _ _ _=>aU) (λ_ _ _ _ _=>(b8 (aI (N:=["number","power"]) (sl:=[q?,j? 1]) _ ["row","power"] rfl rfl (by kernel_rfl)) rfl (bM (K:=K) rfl (pv 0)) (λ_ _ _ _ _=>(aB (i:=0) (Yk_ ["number","power"]) rfl (z? rfl))) (λ_ _ _ _ _=>aU) (λ_ _ _ _ _=>(av bK (pv 0) (pv 1))))))
  (ai (aD (i:=5) dZ.nd rfl (z? rfl) (bF ah))
  (ai (cD D? rfl (zQ rfl B.reversed (af (wm rfl B.range (af (aE (aN (K:=K) rfl) rfl B.len bI (af (bC (aG (K:=K) rfl) (pv 0) ak (λ_ _=>rfl)) ah)) ah)) ah)) (aB (i:=6) dZ.nd rfl (z? rfl))
   (ai (aD (i:=7) dZ.nd rfl (z? rfl) (aF GU hr (af (pv 4) (af (pv 6) (af (pv 1) (af (pv 3) ah))))))
   (ai (aD (i:=4) dZ.nd rfl (z? rfl) (aF GV hr (af (pv 4) (af (pv 7) (af (pv 6) (af (pv 3) ah))))))
   (au (d8 (qg R? F! G! dO (pv 5) (af (pv 7) ah)))))))
  (ai (d8 (zJ R? PySem.F.slot_list_reverse PySem.F.type_list_reverse qx (pv 5) ))
  (au (aJ (pv 5))))))),?_⟩
 walk_at "rd"
 refine⟨p,d,rfl,by omega,by omega,?_⟩
 rw[Zx];have m0:(0:Int)<(p:Int) ^ d:=Z9 (by omega)
 have NS:=zx hp hd;have SJ:∀vx i,us[i]?=j? vx->i<k/\∃lr,vx=.ref lr/\H lr=j? (.lst ((lv n (A i)).map V.int)):=λvx i e=>by
  obtain⟨hi,ri⟩:=C.get e;obtain⟨lr,rfl,hlr,_⟩:=dU ri;exact⟨hi,lr,rfl,(cu hlr).2⟩
 refine⟨_,rfl,lA,rfl,⟨_,aP.of D_⟩,λD hD=>?_⟩
 refine nW (λi=>rE n λj=>A i j % (p:Int) ^ d) (n:=k) C.len D_ hD (by omega) (λi vx H2 Q2 hi g2 lJ q2=>?_) λH2 g2 rr=>?_
 ·obtain⟨_,lr,rfl,hlr⟩:=SJ vx i lJ
  refine⟨_,rfl,lr,rfl,⟨_,aP.of (g2 _ _ hlr)⟩,λD2 yi=>?_⟩
  refine nW (λj=>.num (A i j % (p:Int) ^ d)) (n:=n) (by rw[Ya,aQ]) (g2 _ _ hlr) yi (by omega) (λj vx H3 Q3 hj g3 lJ q3=>?_) λH3 g3 rr=>q2 _ H3 g3 rr
  obtain⟨y1,hy1,rfl⟩:=a_ lJ;rw[cZ hj] at hy1;cases hy1;refine⟨_,rfl,_,rfl,_,_,rfl,rfl,(show(p:Int) ^ d≠0 by omega),?_⟩
  show Q3 (V.int ((A i j).fmod ((p:Int) ^ d))) H3
  rw[Y7 _ (by omega)]
  exact q3 _ H3 (aH.refl _) (.num _)
 refine⟨aZ rfl,λtp htp=>?_⟩
 have k3:=aA htp (.lst []);have g3:=g2.trans k3;have fT:H tp=q?:=g2.free htp;obtain⟨ps,NU,_⟩:=id tq;have Q_:tp≠aC:=λz=>by rw[z,NU] at fT;cases fT
 obtain⟨v0,hv0,_⟩:=C.at_ 0 (by omega)
 obtain⟨_,l0,rfl,HH⟩:=SJ v0 0 hv0;have Ka:qe us 0=j? (.ref l0):=dQ (j:=0) hv0;refine⟨_,rfl,lA,_,_,_,rfl,rfl,aP.of (g3 _ _ D_),Ka,l0,_,rfl,.inl (aP.of (g3 _ _ HH)),?_⟩
 rw[Ya,aQ];refine⟨_,rfl,λp3 n3=>⟨p3,_,rfl,ay,by omega,by omega,?_⟩⟩
 have k4:=aA n3 (.oV 0 (n:Int));have g4:=g3.trans k4;rw[Yf];have T8:=k4 _ _ (show L2.upd H2 tp (.lst []) tp=j? (.lst []) from ay)
 have YU:=k3.trans k4;generalize L2.upd (L2.upd H2 tp (.lst [])) p3 (.oV 0 (n:Int))=H4 at k4 g4 T8 YU;refine nL (λi σ H5=>cF H aC H5/\fj fR aC H5/\∃(lf:V) (ys:List V) (A' T:Nat->Vc) (s:Nat->Nat) (o1 o2:Option V),σ=[Rq lA,Iq (p),Iq (d),j? (.int ((p:Int) ^ d)),j? lf,Rq tp,o1,o2]/\Rep (del H5 aC) (·≠tp) lf (mE (k+i) n A')/\
   (∀a j,a<k+i->j<n->0<=A' a j/\A' a j<(p:Int) ^ d)/\H5 tp=j? (.lst ys)/\Cf (del H5 aC) (λb=>H b=q?/\b≠tp) ys i (λt=>rE n (T (n-1-t)))/\Jl n (rowsOf k n A) ((p:Int) ^ d) (n-i) T (rowsOf (k+i) n A')/\(∀a,n-i<=a->a<n->T a a=(p:Int) ^ s a/\s a<=d)/\∀a j,n-i<=a->a<n->j<n->0<=T a j/\T a j<=(p:Int) ^ d/\(j≠a->T a j<(p:Int) ^ d))
  ⟨cF.of g4,tq.same g4,_,[],_,λ_ _=>0,λ_=>0,_,_,rfl,?_,λa j _ _=>⟨Zg _ (by omega),Zd _ m0⟩,T8,.nil,GS,λa h1 h2=>by omega,λa j h1 h2=>by omega⟩ ?_ ?_
 ·exact rr.imp λb u h kb=>⟨by rw[jK (λz=>by rw[z] at kb;rw[show H aC=q? from kb] at NU;cases NU)];exact YU b u h,bL h htp⟩
 ·rintro i σ H5 hi ⟨n5,Ra,lf,ys,A',T,s,o1,o2,rfl,VI,rA,e5,Cy,tr,Rb,hT⟩
  obtain⟨q,hq⟩:∃q,q+1+i=n:=⟨n-1-i,by omega⟩
  have hqn:q<n:=by omega
  have eq1:((n:Int)-1-(i:Int))=((q:Nat):Int):=by omega
  rw[show n-i=q+1 by omega] at tr Rb hT
  rw[eq1];refine⟨_,rfl,_,rfl,_,rfl,_,rfl,k+i,n,q,d,p,lf,A',rfl,hp,VI.any,hqn,hn,by omega,by omega,hd1,hd,rA,Ra,λld r H6 n6 NV Rc Ub=>?_⟩
  have m6:∃o,H6 aC=j? o:=by obtain⟨ps,h,_⟩:=id NV;exact⟨_,h⟩
  have m5:∃o,H5 aC=j? o:=by obtain⟨ps,h,_⟩:=id Ra;exact⟨_,h⟩
  obtain⟨o6,ho6⟩:=m6;obtain⟨o5,ho5⟩:=m5;obtain⟨sq,hsq,YV⟩:=Rc.pw;have l0:0<ld q:=by rw[YV];exact Z9 (by omega)
  have bl:∀j,j<n->Bd 8000 (ld j):=λj hj=>by
   have:=Rc.oV j hj
   exact(Bd.le (y:=(p:Int) ^ d) (by omega) NS).mono (by decide)
  refine⟨_,rfl,_,rfl,_,rfl,_,rfl,k+i,n,q,lf,r,A',ld,(p:Int) ^ d,rfl,((VI.same n6.del).any).same (fz _ _),Ub.any.same (fz _ _),hqn,by omega,by omega,m0,l0,NS.mono (by decide),λa j ha hj=>?_,bl,λr2 H7 g7 Lo=>?_⟩
  ·have:=rA a j ha hj
   exact(Bd.le (y:=(p:Int) ^ d) (by omega) NS).mono (by decide)
  have e6:=n6 tp _ Q_ e5;have e7:=g7 _ _ e6;refine⟨_,rfl,.inl ⟨rfl,_,aP.of e7⟩,_,rfl,tp,_,_,rfl,rfl,e7,by rw[Cy.len,C?];omega,?_⟩
  have n7:cF H aC H7:=(n5.trans n6).trans (cF.of g7);have n8:=n7.bw fT (.lst (ys++[r]));have up:∀b u,b≠aC->b≠tp->H7 b=j? u->del (L2.upd H7 tp (.lst (ys++[r]))) aC b=j? u:=λb u h1 h2 h3=>by rw[jK h1,aO h2];exact h3
  have tq8:fj fR aC (L2.upd H7 tp (.lst (ys++[r]))):=by
   obtain⟨ps,h1,h2,h3⟩:=NV.same g7;refine⟨ps,by rw[aO (Ne.symm Q_)];exact h1,h2,λpos=>(h3 pos).imp id λ⟨c,a,b⟩=>⟨c,a,?_⟩⟩
   rw[aO (λz=>by rw[z,e7] at b;cases b)];exact b
  refine⟨n8,tq8,r2,ys++[r],CZ (k+i) A' ld q ((p:Int) ^ d),λa=>if a=q then fk n ld else T a,λa=>if a=q then sq else s a,_,_,rfl,?_,λa j _ _=>?_,ay,?_,?_,λa h1 h2=>?_,λa j h1 h2 hj=>?_⟩
  ·exact Lo.imp λb u h kb=>⟨up b u (λz=>by rw[z] at kb;rw[show H6 aC=q? from kb] at ho6;cases ho6) (λz=>by rw[z] at kb;rw[show H6 tp=q? from kb] at e6;cases e6) h,λz=>by rw[z] at kb;rw[show H6 tp=q? from kb] at e6;cases e6⟩
  ·unfold CZ
   split
   ·exact⟨Zg _ (by omega),Zd _ m0⟩
   ·exact⟨Zg _ (by omega),Zd _ m0⟩
  ·refine Cf.push ((Cy.imp λb u h kb=>⟨up b u (cu h).1 kb.2 (g7 _ _ (n6 b u (cu h).1 (cu h).2)),kb⟩).congr λt ht=>?_) ?_
   ·show rE n (T (n-1-t))=rE n (if n-1-t=q then fk n ld else T (n-1-t))
    rw[W8 (by omega)]
   ·show Rep _ _ r (rE n (if n-1-i=q then fk n ld else T (n-1-i)))
    rw[W9 (by omega),xg (w:=ld) λj hj=>cG hj]
    refine Ub.imp λb u h kb=>⟨up b u (cu h).1 (λz=>?_) (g7 _ _ (cu h).2),n5.fresh ⟨o5,ho5⟩ kb,λz=>?_⟩
    ·rw[z] at kb;rw[show H5 tp=q? from kb] at e5;cases e5
    ·rw[z] at kb;rw[show H5 tp=q? from kb] at e5;cases e5
  ·rw[show n-(i+1)=q by omega]
   exact Kl (by omega) hqn tr Rc
  ·by_cases c:a=q
   ·subst c
    refine⟨?_,by show(if a=a then sq else s a)<=d;rw[W9 rfl];exact hsq⟩
    show(if a=a then fk n ld else T a) a=(p:Int) ^ (if a=a then sq else s a)
    rw[W9 rfl,W9 rfl,cG h2];exact YV
   ·have:=Rb a (by omega) h2
    refine⟨?_,by show(if a=q then sq else s a)<=d;rw[W8 c];exact this.2⟩
    show(if a=q then fk n ld else T a) a=(p:Int) ^ (if a=q then sq else s a)
    rw[W8 c,W8 c];exact this.1
  ·show 0<=(if a=q then fk n ld else T a) j/\(if a=q then fk n ld else T a) j<=_/\(j≠a->(if a=q then fk n ld else T a) j<_)
   by_cases c:a=q
   ·rw[W9 c,cG hj]
    refine⟨(Rc.oV j hj).1,(Rc.oV j hj).2,λhja=>?_⟩
    rcases Rc.src with ⟨_,_,b,e⟩|e
    ·rw[e j hj];exact Zd _ m0
    ·rw[e j hj,W8 (λz=>hja (z.trans c.symm))];exact m0
   ·rw[W8 c];exact hT a j (by omega) h2 hj
 ·rintro σ H5 ⟨n5,Ra,lf,ys,A',T,s,o1,o2,rfl,VI,rA,e5,Cy,tr,Rb,hT⟩
  rw[Nat.sub_self] at tr Rb hT;refine⟨_,rfl,.inl ⟨rfl,_,aP.of e5⟩,tp,_,rfl,rfl,e5,⟨_,rfl,?_⟩⟩
  have n6:=n5.bw fT (.lst ys.reverse);have NV:fj fR aC (L2.upd H5 tp (.lst ys.reverse)):=by
   obtain⟨ps,h1,h2,h3⟩:=Ra;refine⟨ps,by rw[aO (Ne.symm Q_)];exact h1,h2,λpos=>(h3 pos).imp id λ⟨c,a,b⟩=>⟨c,a,?_⟩⟩
   rw[aO (λz=>by rw[z,e5] at b;cases b)];exact b
  refine qq T s _ _ n6 NV ⟨λa ha j hj=>tr.jk a (by omega) ha j hj,λa ha=>?_⟩ (λa ha=>Rb a (by omega) ha) (λa j ha hj=>hT a j (by omega) ha hj) (λv=>tr.done) ?_
  ·rw[(Rb a (by omega) ha).1]
   exact Int.ne_of_gt (Z9 (by omega))
  ·have c1:Cf (del (L2.upd H5 tp (.lst ys.reverse)) aC) (dX H) ys.reverse n λi=>rE n (T i):=by
    refine Cf.congr (Cf.rev (Cy.imp λb u h kb=>⟨by rw[jK (cu h).1,aO kb.2];exact(cu h).2,kb.1⟩)) λa ha=>?_
    show rE n (T (n-1-(n-1-a)))=_
    rw[show n-1-(n-1-a)=a by omega]
   exact c1.rep (by rw[jK Q_];exact ay) fT
end
section
variable {R:Type} [Lean.Grind.CommRing R]
theorem NW {k:Nat}{x:Vc}{A:Nat->Vc}{j:Nat}:zc R (sm k x A j)=sm k (λi=>zc R (x i)) (λi j=>zc R (A i j)) j:=by
 induction k with
 | zero=>exact Af
 | succ k ih=>
  show zc R (sm k x A j+x k*A k j)=sm k _ _ j+zc R (x k)*zc R (A k j)
  rw[xh,t8,ih]
end
theorem P8 {p:Nat}(hp:p∈PR){x:Int}:zc (ground p hp).α x=0↔(p:Int) ∣ x:=by
 have hz:zc (ground p hp).α (p:Int)=0:=by rw[eo];exact(ground p hp).ch
 constructor
 ·intro h
  refine V? λnd=>?_
  obtain⟨u,v,e⟩:=Az hp nd 1;have e2:zc (ground p hp).α (u*x+v*(p:Int) ^ 1)=1:=by rw[e,mD]
  rw[Za,Zc,Zo,xh,t8,t8,h,hz] at e2;refine(ground p hp).fld.1 ?_
  rw[<- e2];grind
 ·rintro⟨c,rfl⟩
  rw[t8,hz];grind
theorem Kn {p:Nat}(hp:p∈PR){m:Nat}{l:List Int}(h:Rw p m l)(j:Nat):zr hp l j=zc (ground p hp).α (l.getD j 0):=by
 have:=(h.get j).1
 show nt (ground p hp).α (l.getD j 0).toNat=_
 rw[<- eo,Wi this]
theorem SK {p:Nat}(hp:p∈PR)(a:(ground p hp).α):∃k:Int,zc (ground p hp).α k=a:=⟨(zv (T:=ground p hp) a:Int),by rw[eo];exact Sf (T:=ground p hp) a⟩
def oA (W:Nat)(l:List Int):Vc:=λi=>l.getD (W+i) 0
theorem B_ {p:Nat}(hp:p∈PR){W k:Nat}{A:Nat->Vc}(oV:∀i j,i<k->j<W->0<=A i j/\A i j<(p:Int)){S:List (List Int)}(hS:∀l∈S,Rw p (W+k) l)(hK:CY W k (λr j=>zr hp (((Ym k).map λi=>lv W (A i)).getD r []) j) W (S.map (zr hp))):
  (∀l∈S,∀j,j<W->(p:Int) ∣ sm k (oA W l) A j)/\∀x:Vc,(∀j,j<W->(p:Int) ∣ sm k x A j)->∃v z:Vc,iz (S.map (oA W)) v/\∀i,i<k->x i=v i+(p:Int)*z i:=by
 have er:∀i j,i<k->j<W->zr hp (((Ym k).map λi=>lv W (A i)).getD i []) j=zc (ground p hp).α (A i j):=λi j hi hj=>by
  have e1:((Ym k).map λi=>lv W (A i)).getD i []=lv W (A i):=by rw[Yb,Ye,Y0 hi];rfl
  have h:Rw p W (lv W (A i)):=⟨aQ _ _,λx hx=>by
   unfold lv at hx;obtain⟨j,hj,rfl⟩:=List.mem_map.mp hx;exact oV i j hi (List.mem_range.mp hj)⟩
  rw[e1,Kn hp h,Yb,cZ hj];rfl
 obtain⟨d1,d2⟩:=hK.done;refine⟨λl hl j hj=>?_,λx hx=>?_⟩
 ·have:=d1 _ (List.mem_map.mpr ⟨l,hl,rfl⟩) j hj
  rw[dS (d':=λi=>zc (ground p hp).α (oA W l i)) (R':=λi j=>zc (ground p hp).α (A i j)) (λi _=>Kn hp (hS l hl) (W+i)) (λi hi=>er i j hi hj),<- NW] at this
  exact(P8 hp).mp this
 ·obtain⟨v,hv,ev⟩:=d2 (λi=>zc (ground p hp).α (x i)) λj hj=>by
   rw[dS (d':=λi=>zc (ground p hp).α (x i)) (R':=λi j=>zc (ground p hp).α (A i j)) (λi _=>rfl) (λi hi=>er i j hi hj),<- NW]
   exact(P8 hp).mpr (hx j hj)
  have lift:∀ {v:Nat->(ground p hp).α},iz (S.map (zr hp)) v->∃u:Vc,iz (S.map (oA W)) u/\∀i,v (W+i)=zc (ground p hp).α (u i):=by
   intro v hv;induction hv with
   | zero=>exact⟨_,.zero,λi=>Af.symm⟩
   | @add r v a hr _ ih=>
    obtain⟨l,hl,rfl⟩:=List.mem_map.mp hr;obtain⟨u,hu,eu⟩:=ih;obtain⟨k',rfl⟩:=SK hp a;refine⟨_,.add k' (List.mem_map.mpr ⟨l,hl,rfl⟩) hu,λi=>?_⟩
    show zc _ k'*zr hp l (W+i)+v (W+i)=zc _ (k'*oA W l i+u i)
    rw[xh,t8,eu i,Kn hp (hS l hl)];rfl
  obtain⟨u,hu,eu⟩:=lift hv;have hz:∀i,∃z:Int,i<k->x i=u i+(p:Int)*z:=λi=>by
   by_cases c:i<k
   ·have e:zc (ground p hp).α (x i+-u i)=0:=by rw[xh,qF,<- ev i c,<- eu i];grind
    obtain⟨z,hz⟩:=(P8 hp).mp e;exact⟨z,λ_=>by omega⟩
   ·exact⟨0,λh=>Jf h c⟩
  obtain⟨z,hz⟩:=Classical.axiomOfChoice hz;exact⟨u,z,hu,hz⟩
theorem c_.bnd {n b e:Nat}{T:Nat->Vc}(hT:c_ n T)(bT:∀i j,i<n->j<n->Bd e (T i j)){c:Vc}(hb:∀j,j<n->Bd b (sm n c T j)):∀i,i<n->Bd (b+(e+1)*n) (c i):=by
 have key:∀m k,k+m=n->(∀j,j<n->Bd (b+(e+1)*m) (sm k c T j))/\∀i,k<=i->i<n->Bd (b+(e+1)*n) (c i):=by
  intro m;induction m with
  | zero=>
   intro k hk;obtain rfl:k=n:=by omega
   exact⟨λj hj=>(hb j hj).mono (by omega),λi h1 h2=>by omega⟩
  | succ m ih=>
   intro k hk;obtain⟨h1,h2⟩:=ih (k+1) (by omega)
   have e1:=h1 k (by omega)
   rw[hT.at_ c (by omega)] at e1
   have ck:Bd (b+(e+1)*m) (c k):=by
    refine Bd.le ?_ e1
    rw[Zf];exact Nat.le_mul_of_pos_right _ (by have:=hT.nz k (by omega);omega)
   refine⟨λj hj=>?_,λi hi hn=>?_⟩
   ·have e2:sm k c T j=sm (k+1) c T j-c k*T k j:=by show _=sm k c T j+c k*T k j-c k*T k j;omega
    rw[e2];refine((h1 j hj).sub (ck.mul (bT k j (by omega) hj))).mono ?_
    rw[W3];omega
   ·by_cases c1:i=k
    ·rw[c1]
     refine ck.mono ?_
     have:(e+1)*m<=(e+1)*n:=Zb _ (by omega)
     omega
    ·exact h2 i (by omega) hn
 exact λi hi=>(key n 0 (by omega)).2 i (Y1 _) hi
theorem Ko {f:Fn}{n a:Nat}(hf:∀j,Bd a (f j)):∀k j,Bd (1+k*(a+1)) (tk f n k j)
 | 0,j=>by
  show Bd _ (if j=0 then 1 else 0)
  split
  ·show Zm 1<2 ^ _;rw[Nat.zero_mul];decide
  ·show Zm 0<2 ^ _;rw[Nat.zero_mul];decide
 | k+1,j=>by
  show Bd _ ((if j=0 then 0 else tk f n k (j-1))-tk f n k (n-1)*f j)
  have h1:Bd (1+k*(a+1)) (if j=0 then 0 else tk f n k (j-1)):=by
   split
   ·exact Z0 (by decide)
   ·exact Ko hf k (j-1)
  refine(h1.sub ((Ko hf k (n-1)).mul (hf j))).mono ?_
  rw[Wd];omega
theorem P9 {f:Fn}{n a b:Nat}{u v:Vc}(hn:n<=6)(hf:∀j,Bd a (f j))(hu:∀j,j<n->Bd b (u j))(hv:∀j,j<n->Bd b (v j))(k:Nat):Bd (b+(b+(1+10*(a+1))+3)+3) (yc f n u v k):=by
 unfold yc;refine Fz (k:=3) (by omega) hu λi hi=>Fz (k:=3) (by omega) hv λj hj=>(Ko hf (i+j) k).mono ?_
 have:(i+j)*(a+1)<=10*(a+1):=Yx _ (by omega)
 omega
section
variable {R:Type} [Lean.Grind.CommRing R] {n p:Nat} {el:Vc->R} {c:Nat->Nat->Vc}
theorem P_ (Ba:qI n el)(h:eO (Of el))(hc:∀i j,i<n->j<n->el (un i)*el (un j)=el (c i j))(x y:Vc):Cp (Of el) (nt R p) (el (Ll n c (p:Int) x y)) (el x*el y):=by
 refine Cp.symm h ⟨el λk=>sm n x (λi k=>sm n y (c i) k) k / (p:Int),⟨_,rfl⟩,?_⟩
 rw[Ba.mul hc,<- eo];have:=Ba.jy (p:Int) (λk=>sm n x (λi k=>sm n y (c i) k) k / (p:Int)) (Ll n c (p:Int) x y)
 rw[show(λj=>(p:Int)*(sm n x (λi k=>sm n y (c i) k) j / (p:Int))+Ll n c (p:Int) x y j)=λk=>sm n x (λi k=>sm n y (c i) k) k from funext λj=>by
  have:=Z3 (sm n x (λi k=>sm n y (c i) k) j) (p:Int)
  unfold Ll;omega] at this
 rw[this];grind
theorem Kq (Ba:qI n el)(h:eO (Of el))(hc:∀i j,i<n->j<n->el (un i)*el (un j)=el (c i j))(x:Vc):∀m,Cp (Of el) (nt R p) (el (MN n c (p:Int) x m)) (el x ^ (m+1))
 | 0=>by
  have:el x ^ (0+1)=el x:=by rw[cK,dj];grind
  rw[this];exact .refl h _
 | m+1=>by
  refine(P_ Ba h hc _ x).trans h ?_
  rw[cK (el x) (m+1)];exact .mul h (h.pow ⟨_,rfl⟩ _) ⟨_,rfl⟩ (Kq Ba h hc x m) (.refl h _)
theorem Kr (hp:p∈PR)(Ba:qI n el)(h:eO (Of el))(hc:∀i j,i<n->j<n->el (un i)*el (un j)=el (c i j))(i:Nat):∀k,Cp (Of el) (nt R p) (el (GP n c p k i)) (el (un i) ^ (p ^ k))
 | 0=>by
  have:el (un i) ^ (p ^ 0)=el (un i):=by rw[Nat.pow_zero,show(1:Nat)=0+1 from rfl,cK,dj];grind
  rw[this];exact .refl h _
 | k+1=>by
  have pp:=cY hp;refine(Kq Ba h hc (GP n c p k i) (p-1)).trans h ?_
  rw[show p-1+1=p by omega,Zv,Dv]
  exact(Kr hp Ba h hc i k).pow h ⟨_,rfl⟩ (h.pow ⟨_,rfl⟩ _) p
end
theorem SM (n:Nat)(v:Vc):rE n v=eN (lv n v):=by
 unfold rE lE eN lv;rw[W4];rfl
theorem AB (r c:Nat)(A:Nat->Vc):mE r c A=.vec (((Ym r).map λi=>lv c (A i)).map eN):=by
 unfold mE lE;rw[W4];congr 1
 exact Wu λi _=>SM c (A i)
theorem FE {p W k:Nat}{S:List (List Int)}(hS:∀l∈S,Rw p (W+k) l):El.vec (S.map λl=>eN (l.drop W))=mE S.length k λt=>oA W (S.getD t []):=by
 rw[AB];congr 1
 refine Zr λt=>?_
 rw[Ye,Ye,Ye];by_cases ht:t<S.length
 ·rw[Y0 ht,Yc ht]
  show j? (eN (S[t].drop W))=j? (eN (lv k (oA W (S.getD t []))))
  have e:S.getD t []=S[t]:=by rw[Yb,Yc ht];rfl
  have hl:=(hS _ (Yz ht)).1;rw[e];congr 2
  refine Zr λi=>?_
  by_cases hi:i<k
  ·rw[cZ hi,List.getElem?_drop]
   show _=j? (S[t].getD (W+i) 0)
   rw[Yb,Yc (by omega)];rfl
  ·rw[List.getElem?_eq_none_iff.mpr (by rw[Y8];omega),List.getElem?_eq_none_iff.mpr (by rw[aQ];omega)]
 ·rw[List.getElem?_eq_none_iff.mpr (by omega),List.getElem?_eq_none_iff.mpr (by rw[Yg];omega)];rfl
theorem Ca {p W k:Nat}{S:List (List Int)}(hS:∀l∈S,Rw p (W+k) l):rowsOf S.length k (λt=>oA W (S.getD t []))=S.map (oA W):=by
 refine Zr λt=>?_
 unfold rowsOf;rw[Ye,Ye];by_cases ht:t<S.length
 ·rw[Y0 ht,Yc ht]
  show j? (fk k (oA W (S.getD t [])))=j? (oA W S[t])
  have e:S.getD t []=S[t]:=by rw[Yb,Yc ht];rfl
  have hl:=(hS _ (Yz ht)).1;rw[e];congr 1
  funext i
  by_cases hi:i<k
  ·exact cG hi
  ·rw[c7 (by omega)]
   show 0=S[t].getD (W+i) 0
   rw[Yb,List.getElem?_eq_none_iff.mpr (by omega)];rfl
 ·rw[List.getElem?_eq_none_iff.mpr (by rw[Yg];omega),List.getElem?_eq_none_iff.mpr (by omega)];rfl
theorem MR {p W k:Nat}{S:List (List Int)}(hS:∀l∈S,Rw p (W+k) l){t i:Nat}(ht:t<S.length)(hi:i<k):0<=oA W (S.getD t []) i/\oA W (S.getD t []) i<(p:Int):=by
 have e:S.getD t []=S[t]:=by rw[Yb,Yc ht];rfl
 have hl:=hS _ (Yz ht);rw[e];have hg:S[t][W+i]?=j? (S[t].getD (W+i) 0):=by rw[Yb,Yc (by rw[hl.1];omega)];rfl
 exact hl.2 _ (Yw hg)
theorem Qa {p:Int}{n:Nat}{x:Vc}{A B:Nat->Vc}{j:Nat}(h:∀i,i<n->p ∣ A i j-B i j):p ∣ sm n x A j-sm n x B j:=by
 induction n with
 | zero=>exact⟨0,by show(0:Int)-0=p*0;omega⟩
 | succ n ih=>
  obtain⟨a,ha⟩:=ih λi hi=>h i (by omega)
  obtain⟨b,hb⟩:=h n (by omega)
  refine⟨a+x n*b,?_⟩
  show sm n x A j+x n*A n j-(sm n x B j+x n*B n j)=_
  grind
section
variable {R:Type} [Lean.Grind.CommRing R]
structure Ks (n p:Nat)(el:Vc->R)(ip:R)(c:Nat->Nat->Vc):Prop where
 ya:qI n el
 sub:eO (Of el)
 mul:∀i j,i<n->j<n->el (un i)*el (un j)=el (c i j)
 inv:nt R p*ip=1
structure MulOk (n p:Nat)(el:Vc->R)(ip:R)(d m:Nat)(N:Nat->Vc):Prop where
 le:m<=50
 oV:∀t i,t<m->i<n->0<=N t i/\N t i<(p:Int)
 nz:∀t,t<m->∃i,i<n/\N t i≠0
 mlt:∀t,t<m->GD (Of el) (nt R p) (p ^ d) (ip*el (N t))
 all:∀x,GD (Of el) (nt R p) (p ^ d) (ip*el x)->∃v z:Vc,iz (rowsOf m n N) v/\∀i,i<n->x i=v i+(p:Int)*z i
variable {n p d:Nat} {el:Vc->R} {ip:R} {c:Nat->Nat->Vc}
theorem Ku (hp:p∈PR)(G:Ks n p el ip c){told:Nat->Vc}(ht:∀i,i<n->Cp (Of el) (nt R p) (el (told i)) (el (un i) ^ (p ^ d))){m0:Nat}{N:Nat->Vc}(k1:∀t,t<m0->∀j,j<n->(p:Int) ∣ sm n (N t) told j)
  (k2:∀x:Vc,(∀j,j<n->(p:Int) ∣ sm n x told j)->∃v z:Vc,iz (rowsOf m0 n N) v/\∀i,i<n->x i=v i+(p:Int)*z i) {x:Vc} (x0:∀j,n<=j->x j=0):Gq (rowsOf m0 n N) ((p:Int) ^ 1) n x↔qH (Of el) (nt R p) (p ^ d) (el x):=by
 have e1:(p:Int) ^ 1=(p:Int):=by rw[Za,Zc,Zo]
 have hq:1<=p ^ d:=Z0 (qG hp);rw[e1];constructor
 ·rintro⟨_,u,z,hu,e⟩
  have iu:qH (Of el) (nt R p) (p ^ d) (el u):=by
   clear e;induction hu with
   | zero=>rw[G.ya.zero];exact .zero G.sub hq
   | @add r v a hr _ ih=>
    obtain⟨t,ht',rfl⟩:=cU.mp hr;rw[G.ya.jy];refine qH.add G.sub hp (qH.mul G.sub ?_ (G.sub.zc a)) ih
    rw[G.ya.sup _ (N t) λj hj=>cG hj]
    exact(G.ya.idl G.sub hp ht _).mpr (k1 t ht')
  have e2:el x=zc R (p:Int)*el z+el u:=by
   rw[<- G.ya.jy];exact G.ya.sup _ _ λj _=>by rw[e j];omega
  rw[e2,eo];exact(qH.own G.sub hq (G.sub.nt p) ⟨z,rfl⟩).add G.sub hp iu
 ·intro h
  obtain⟨v,z,hv,e⟩:=k2 x ((G.ya.idl G.sub hp ht x).mp h);have v0:∀j,n<=j->v j=0:=λj hj=>hv.DG λr hr=>by
   obtain⟨t,_,rfl⟩:=cU.mp hr;exact c7 hj
  exact⟨x0,v,fk n z,hv,λj=>by
   by_cases cj:j<n
   ·rw[cG cj];exact e j cj
   ·rw[c7 (by omega),x0 j (by omega),v0 j (by omega)];omega⟩
theorem Kv (hp:p∈PR)(G:Ks n p el ip c){told:Nat->Vc}(ht:∀i,i<n->Cp (Of el) (nt R p) (el (told i)) (el (un i) ^ (p ^ d)))(k2:∀x:Vc,(∀j,j<n->(p:Int) ∣ sm n x told j)->∃z:Vc,∀i,i<n->x i=(p:Int)*z i)(N:Nat->Vc):MulOk n p el ip d 0 N:=by
 refine⟨by decide,λt i h=>by omega,λt h=>by omega,λt h=>by omega,λx hx=>?_⟩
 have h1:=hx.2 _ (qH.own G.sub (Z0 (qG hp)) (G.sub.nt p) G.sub.one);have inv:=G.inv;rw[show ip*el x*(nt R p*1)=el x by grind] at h1
 obtain⟨z,hz⟩:=k2 x ((G.ya.idl G.sub hp ht x).mp h1);exact⟨_,z,.zero,λi hi=>by rw[hz i hi];omega⟩
end
theorem NX {r c:Nat}{A:Nat->Vc}(h:r<=100)(k:c<=100):Gs 2 (mE r c A):=.vec (by rw[Ya,Yg];exact h) λe he=>by
 obtain⟨i,_,rfl⟩:=List.mem_map.mp he;exact NR k
theorem Qc {n j:Nat}{u v:Vc}(h:∀k,k<n->u (n*j+k)=v k):lv (n*j) u++lv n v=lv (n*(j+1)) u:=by
 refine Zr λq=>?_
 have e:n*(j+1)=n*j+n:=W3 n j;by_cases c1:q<n*j
 ·rw[Y2 (by rw[aQ];exact c1),cZ c1,cZ (by omega)]
 ·rw[Y4 (by rw[aQ];omega),aQ]
  by_cases c2:q<n*j+n
  ·rw[cZ (by omega),cZ (by omega),<- h (q-n*j) (by omega),show n*j+(q-n*j)=q by omega]
  ·rw[List.getElem?_eq_none_iff.mpr (by rw[aQ];omega),List.getElem?_eq_none_iff.mpr (by rw[aQ];omega)]
def Kw (K:bE)(Pp:o?):Sp:=λvs H Q _=>∃(n p:Nat) (R:Type) (_:Lean.Grind.CommRing R) (el:Vc->R) (ip:R) (c:Nat->Nat->Vc) (t:V),vs=[t,.int (p:Int)]/\p∈PR/\Rep (del H Pp) Any t (tE n n n c)/\1<=n/\n<=6/\(∀i j k,i<n->j<n->k<n->Bd 60000 (c i j k))/\Ks n p el ip c/\fj fR Pp H/\
 ∀(d m:Nat) (N:Nat->Vc) r H',cF H Pp H'->fj fR Pp H'->MulOk n p el ip d m N->Rep (del H' Pp) (dX H) r (mE m n N)->Q r H'
section
theorem xG {aC:o?}(B:ia mg)(Ky:b_ P w K mg base 4 "raised" yh (B8 K))(Cb:b_ P w K mg base 2 "kernel" ["rows","p"] B0)(mT:b_ P w K mg base 8 "triangular" GH (Km K aC))(kI:b_ P w K mg base 1 "coordinates" GI (xE K))(lK:b_ P w K mg base 1 "summed" Al (tu K))(F:Src K mg "multipliers" iQ yh):b_ P w K mg base 9 "multipliers" yh (Kw K aC):=by
 refine F.ok cT (λvs H Q E h=>?_) (λf cdv A outer s H vs Q E hr h=>?_)
 ·obtain⟨n,p,R,_,el,ip,c,t,rfl,_⟩:=h;rfl
 obtain⟨n,p,R,_,el,ip,c,t,rfl,hp,rt,hn1,hn,bc,G,tq,qq⟩:=h;have pp:=cY hp;obtain⟨lt,us,rfl,hlt,_,C⟩:=id rt.cf;have hlt':=(cu hlt).2;refine⟨_,ai (aD (i:=2) cT.nd rfl (z? rfl) (aF Cb hr (af (aF Ky hr (af (pv 0) (af (pv 1) ah))) (af (pv 1) ah))))
  (ai (cW (aW (mh (K:=K) rfl hr.units) (pv 2) (bF ah) (bD _))
   (au (aJ (bF ah)))
   (bY))
  (ai (aD (i:=3) cT.nd rfl (z? rfl) (aF mT hr (af (pv 2) (af (pv 1) (af ak ah)))))
  (ai (aD (i:=4) cT.nd rfl (z? rfl) (bF ah))
  (ai (cD D? rfl (bM (K:=K) rfl (pv 0)) (aB (i:=5) cT.nd rfl (z? rfl))
   (ai (aD (i:=6) cT.nd rfl (z? rfl) (bF ah))
   (ai (cD D? rfl (bM (K:=K) rfl (pv 3)) (aB (i:=7) cT.nd rfl (z? rfl))
    (au (aD (i:=6) cT.nd rfl (z? rfl) (av gm (pv 6) (b8 (aI (N:=GJ) (sl:=[q?,j? 1]) (ao iQ) XT rfl rfl (by decide +kernel)) rfl (bM (K:=K) rfl (aF kI hr (af (pv 3) (af (aF lK hr (af (pv 7) (af (pv 5) ah))) ah)))) (λ_ _ _ _ _=>(aB (i:=0) (Yk_ GJ) rfl (z? rfl))) (λ_ _ _ _ _=>aU) (λ_ _ _ _ _=>(av bK (pv 0) (pv 1))))))))
   (au (d8 (qg R? F! G! dO (pv 4) (af (pv 6) ah)))))))
  (au (aJ (aF Cb hr (af (pv 4) (af (pv 1) ah))))))))),?_⟩
 walk_at "rd"
 have rtH:Rep H Any (.ref lt) (tE n n n c):=rt.same (fz _ _);refine⟨n,p,.ref lt,c,rfl,rtH,hn1,by omega,by omega,by omega,λi j k hi hj hk=>(bc i j k hi hj hk).mono (by decide),λk1 r1 H1 _ g1 rr1=>?_⟩
 have lR:((Ym n).map λi=>lv n (GP n c p k1 i)).length=n:=by rw[Ya,Yg]
 refine⟨_,rfl,p,hp,n,r1,(Ym n).map λi=>lv n (GP n c p k1 i),rfl,by rw[<- AB];exact rr1.any,by rw[lR];exact hn1,by rw[lR];omega,by omega,λa ha=>?_,λS r2 H2 g2 hS lS nzS kS YW=>?_⟩
 ·obtain⟨i,_,rfl⟩:=List.mem_map.mp ha
  refine⟨aQ _ _,λx hx=>?_⟩
  obtain⟨j,_,rfl⟩:=List.mem_map.mp hx;exact vQ (by omega) k1
 rw[lR] at hS nzS kS;obtain⟨km1,VJ⟩:=B_ hp (W:=n) (k:=n) (A:=GP n c p k1) (λi j _ _=>vQ (by omega) k1) hS kS
 rw[FE hS] at YW;rw[<- Ca hS] at VJ;have ht:=λi (_:i<n)=>Kr hp G.ya G.sub G.mul i k1
 have VL:∀t,t<S.length->∀j,j<n->(p:Int) ∣ sm n (oA n (S.getD t [])) (GP n c p k1) j:=λt ht'=>km1 _ (by rw[Yb,Yc ht'];exact Yz ht')
 have idk:=λ{x:Vc} x0=>Ku hp G ht VL VJ (x:=x) x0
 have g12:=g1.trans g2;refine⟨_,rfl,aZ rfl,λpe MI=>?_⟩
 have k3:=aA MI (.lst []);have NT:(L2.upd H2 pe (.lst [])) pe=j? (.lst []):=ay;have NP:=g12.trans k3;generalize L2.upd H2 pe (.lst [])=H3 at k3 NT NP;have Lm:=YW.same k3;have tq1:=tq.same g1;have MQ:=tq.same NP;obtain⟨ps1,hP1,_⟩:=id tq1;obtain⟨ps3,hP3,_⟩:=id MQ;have Kh:Rep H3 Any (.ref pe) (.vec []):=.vec NT trivial rfl λi v e h=>by simp at h
 refine Ny Lm Kh (NX (by omega) (by omega)) (.vec (n:=1) (by decide) λe he=>by simp at he) (by decide) (by decide) (λe=>?_) (λe=>?_)
 ·have s0:S.length=0:=by
   unfold mE lE at e;injection e with e
   have:=Jd Wr e
   rw[Ya,Yg] at this;exact this
  refine⟨_,rfl,jE ⟨aZ rfl,λp4 n4=>?_⟩⟩
  have k4:=aA n4 (.lst []);refine qq k1 0 (λ_ _=>0) _ _ (cF.of (NP.trans k4)) (MQ.same k4) (Kv hp G ht (λx hx=>?_) _) ?_
  ·obtain⟨v,z,hv,ev⟩:=VJ x hx
   rw[s0] at hv;have v0:∀j,v j=0:=λj=>hv.DG λr hr=>by
    obtain⟨t,ht,_⟩:=cU.mp hr;omega
   exact⟨z,λi hi=>by rw[ev i hi,v0 i];omega⟩
  ·exact Rep.AA (H1:=H3) (.vec ay (show H3 p4=q? from n4) rfl λi v e h=>by simp at h) hP3 λb hb=>NP.free hb
 ·have s1:1<=S.length:=by
   rcases Nat.eq_zero_or_pos S.length with y|y
   ·exact Jf (by unfold mE lE;rw[y];rfl) e
   ·exact y
  refine⟨_,rfl,gp ?_⟩
  refine⟨_,rfl,_,rfl,S.length,n,1,p,r2,λt=>oA n (S.getD t []),rfl,hp,Rep.any (Rep.AA (H0:=H1) Lm hP1 λb hb=>hb),hn1,by omega,s1,by omega,Yd 1,by decide,MQ,λVm sV r4 H4 n4 Ln Ue pwV rV gqV P6=>?_⟩
  obtain⟨ps4,YX,_⟩:=id Ln;have Ug:cF H aC H4:=(cF.of NP).trans n4;have VM:Rep H4 Any (.ref lt) (tE n n n c):=(rt.same Ug.del).same (fz _ _);have YY:Rep H4 Any r4 (mE n n Vm):=P6.any.same (fz _ _);clear VM C hlt hlt';have VM:Rep H4 Any (.ref lt) (tE n n n c):=(rt.same Ug.del).same (fz _ _);obtain⟨lt',us,elt,hlt,_,C⟩:=id VM.cf;cases elt;obtain⟨la,vs4,rfl,hla,_,CI⟩:=id YY.cf;have p1:(p:Int) ^ 1=(p:Int):=by rw[Za,Zc,Zo]
  have bV:∀i j,i<n->j<n->Bd 6 (Vm i j):=λi j hi hj=>by
   have:=rV i j hi hj
   rw[p1] at this;show Zm _<2 ^ 6
   omega
  have hI:∀x:Vc,(∀j,n<=j->x j=0)->(gK n Vm x↔qH (Of el) (nt R p) (p ^ k1) (el x)):=λx x0=>(gqV x).symm.trans (idk x0)
  have htx:∀i,∃ti:Nat->Vc,∀j,i<n->j<n->∀k,fk n (λk=>sm n (Vm j) (c i) k) k=sm n (ti j) Vm k:=λi=>by
   refine Classical.axiomOfChoice (r:=λj (t:Vc)=>i<n->j<n->∀k,fk n (λk=>sm n (Vm j) (c i) k) k=sm n t Vm k) λj=>?_
   by_cases hi:i<n
   ·by_cases hj:j<n
    ·have h1:=(hI (Vm j) λk hk=>Ue.jk j hj k (by omega)).mp (.row hj)
     have h2:=h1.mul G.sub (G.ya.Js i);rw[G.ya.Ag G.mul hi,G.ya.sup (λk=>sm n (Vm j) (c i) k) (fk n λk=>sm n (Vm j) (c i) k) λk hk=>(cG hk).symm] at h2
     obtain⟨t,ht⟩:=(hI _ λk hk=>c7 hk).mpr h2
     exact⟨t,λ_ _=>ht⟩
    ·exact⟨λ_=>0,λ_ h=>Jf h hj⟩
   ·exact⟨λ_=>0,λh=>Jf h hi⟩
  obtain⟨tt,htt⟩:=Classical.axiomOfChoice htx;have Qd:∀i j,i<n->j<n->∀k,k<n->sm n (Vm j) (c i) k=sm n (tt i j) Vm k:=λi j hi hj k hk=>by rw[<- htt i j hi hj k,cG hk]
  have btt:∀i j,i<n->j<n->∀k,k<n->Bd 100000 (tt i j k):=λi j hi hj k hk=>by
   refine(c_.bnd (b:=60009) Ue bV (λq hq=>?_) k hk).mono ?_
   ·rw[<- Qd i j hi hj q hq]
    exact(Fz (k:=3) (by omega) (λa ha=>bV j a hj ha) λa ha=>bc i a q hi ha hq).mono (by decide)
   ·have:7*n<=7*6:=Zb _ hn
    omega
  have mlt:=λx=>G.ya.mlt G.sub hp G.mul Ue hI Qd G.inv x
  refine⟨aZ rfl,λrp VN=>?_⟩
  have k5:=aA VN (.lst []);have YZ:(L2.upd H4 rp (.lst [])) rp=j? (.lst []):=ay;generalize L2.upd H4 rp (.lst [])=H5 at k5 YZ;have nn:n*n<=6*6:=Zk hn hn;refine⟨_,rfl,lt,rfl,⟨_,aP.of (k5 _ _ hlt)⟩,jD (xs:=us) (λi σ H6=>aH H4 H6/\∃(ys:List V) (o1 o2 o3:Option V),σ=[Rq lt,Iq (p),j? r2,Rq la,Rq rp,o1,o2,o3]/\H6 rp=j? (.lst ys)/\Cf H6 (Off H4 rp) ys i λi=>rE (n*n) λq=>tt i (q / n) (q % n) % (p:Int))
   ⟨k5,[],_,_,_,rfl,YZ,.nil⟩ (λi σ H6 _ h=>aP.of (h.1 _ _ hlt)) ?_ ?_⟩
  ·rintro i vx σ H6 lJ ⟨g6,ys,o1,o2,o3,rfl,e6,Cy⟩
   obtain⟨hi,ri⟩:=C.get lJ;refine⟨aZ rfl,λr0 n0=>?_⟩
   have k7:=aA n0 (.lst []);have Y_:(L2.upd H6 r0 (.lst [])) r0=j? (.lst []):=ay;generalize L2.upd H6 r0 (.lst [])=H7 at k7 Y_;have g7:=g6.trans k7;refine⟨_,rfl,la,rfl,⟨_,aP.of (g7 _ _ hla)⟩,jD (xs:=vs4) (λj σ H8=>aH H7 H8/\∃(ra:o?) (o:Option V),σ=[Rq lt,Iq (p),j? r2,Rq la,Rq rp,j? vx,Rq ra,o]/\H8 ra=j? (.lst ((lv (n*j) λq=>tt i (q / n) (q % n) % (p:Int)).map V.int))/\H6 ra=q?)
    ⟨aH.refl _,r0,_,rfl,by rw[Nat.mul_zero];exact Y_,n0⟩ (λj σ H8 _ h=>aP.of ((g7.trans h.1) _ _ hla)) ?_ ?_⟩
   ·rintro j vy σ H8 J7 ⟨g8,ra,o,rfl,e8,n8⟩
    obtain⟨hj,rj⟩:=CI.get J7;have VO:=g7.trans g8;refine⟨_,rfl,_,rfl,_,rfl,_,rfl,n,n,vy,vx,Vm j,c i,rfl,rj.same VO,ri.same VO,hn1,by omega,by omega,λa ha=>(bV j a hj ha).mono (by decide),λa b ha hb=>(bc i a b hi ha hb).mono (by decide),λr9 H9 g9 Vy=>?_⟩
    refine⟨n,.ref la,r9,Vm,_,tt i j,rfl,YY.same (VO.trans g9),Vy.any,by omega,Ue,Qd i j hi hj,btt i j hi hj,λa b ha hb=>(bV a b ha hb).mono (by decide),λr10 Uh g10 MS=>?_⟩
    obtain⟨l10,rfl,ZA,_⟩:=dU MS;refine⟨l10,rfl,⟨_,aP.of ZA⟩,λD hD=>?_⟩
    refine nW (λk=>.num (tt i j k % (p:Int))) (n:=n) (by rw[Ya,aQ]) ZA hD (by omega) (λk vz Ui Q2 hk SN SO q2=>?_) λUi SN Qe=>?_
    ·obtain⟨y1,hy1,rfl⟩:=a_ SO
     rw[cZ hk] at hy1;cases hy1;refine⟨_,rfl,_,rfl,_,_,rfl,rfl,(show(p:Int)≠0 by omega),?_⟩
     show Q2 (V.int ((tt i j k).fmod (p:Int))) Ui
     rw[Aa];exact q2 _ Ui (aH.refl _) (.num _)
    ·obtain⟨l11,e11,h11,_⟩:=dU Qe
     cases e11;have Qf:=(g9.trans g10).trans SN;have ZC:n*j+n<=n*n:=by
      have:=Zb n (show j+1<=n by omega)
      rw[W3] at this;exact this
     refine⟨ra,D,_,_,rfl,rfl,Qf _ _ e8,h11,by rw[Ya,Ya,aQ,aQ,C?];omega,λp12 Uj=>?_⟩
     have SQ:=aA Uj (.lst ((lv (n*j) λq=>tt i (q / n) (q % n) % (p:Int)).map V.int++(lv n λk=>tt i j k % (p:Int)).map V.int))
     refine⟨(g8.trans Qf).trans SQ,p12,_,rfl,?_,?_⟩
     ·rw[ay,<- Yt,Qc λk hk=>?_]
      show tt i ((n*j+k) / n) ((n*j+k) % n) % (p:Int)=_
      rw[Nat.mul_add_div (by omega),Nat.div_eq_of_lt hk,Nat.mul_add_mod,Z5 hk,Nat.add_zero]
     ·exact(k7.trans (g8.trans Qf)).free Uj
   ·rintro σ H8 ⟨g8,ra,o,rfl,e8,n8⟩
    rw[CI.len] at e8;have ZD:=(k7.trans g8) _ _ e6;refine⟨_,rfl,.inl ⟨rfl,_,aP.of ZD⟩,_,rfl,rp,_,_,rfl,rfl,ZD,by rw[Cy.len,C?];omega,?_⟩
    have hne:ra≠rp:=λz=>by rw[z,e6] at n8;cases n8
    exact⟨(g7.trans g8).bw VN _,_,_,_,_,rfl,ay,((Cy.same (k7.trans g8)).push (Fd e8 ⟨g6.free n8,hne⟩)).upd⟩
  ·rintro σ H6 ⟨g6,ys,o1,o2,o3,rfl,e6,Cy⟩
   rw[C.len] at Cy;have VP:Rep H6 (dX H4) (.ref rp) (mE n (n*n) λi q=>tt i (q / n) (q % n) % (p:Int)):=Cy.IZ.rep e6 VN
   have SR:∀i q,i<n->q<n*n->0<=tt i (q / n) (q % n) % (p:Int)/\tt i (q / n) (q % n) % (p:Int)<(p:Int):=λi q _ _=>⟨Zg _ (by omega),Zd _ (by omega)⟩
   have VQ:((Ym n).map λi=>lv (n*n) λq=>tt i (q / n) (q % n) % (p:Int)).length=n:=by rw[Ya,Yg]
   refine⟨_,rfl,_,rfl,p,hp,n*n,.ref rp,(Ym n).map λi=>lv (n*n) λq=>tt i (q / n) (q % n) % (p:Int),rfl,by rw[<- AB n (n*n) λi q=>tt i (q / n) (q % n) % (p:Int)];exact VP.any,by rw[VQ];exact hn1,by rw[VQ];omega,by omega,λa ha=>?_,λS' r7 H7 g7 hS' lS' ZE ZF Lo=>?_⟩
   ·obtain⟨i,hi,rfl⟩:=List.mem_map.mp ha
    refine⟨aQ _ _,λx hx=>?_⟩
    obtain⟨j,hj,rfl⟩:=List.mem_map.mp hx;exact SR i j (List.mem_range.mp hi) (List.mem_range.mp hj)
   rw[VQ] at hS' ZE ZF;obtain⟨q1,q2⟩:=B_ hp (W:=n*n) (k:=n) (A:=λi q=>tt i (q / n) (q % n) % (p:Int)) SR hS' ZF
   rw[FE hS'] at Lo;rw[<- Ca hS'] at q2;have hmod:∀(x:Vc) j m,j<n->m<n->(p:Int) ∣ sm n x (λi q=>tt i (q / n) (q % n) % (p:Int)) (n*j+m)-sm n x (λi=>tt i j) m:=λx j m hj hm=>by
    have e1:sm n x (λi=>tt i j) m=sm n x (λi _=>tt i j m) (n*j+m):=by rw[fB,fB]
    rw[e1];refine Qa λi _=>?_
    show(p:Int) ∣ tt i ((n*j+m) / n) ((n*j+m) % n) % (p:Int)-tt i j m
    rw[Nat.mul_add_div (by omega),Nat.div_eq_of_lt hm,Nat.mul_add_mod,Z5 hm,Nat.add_zero]
    have:=Z3 (tt i j m) (p:Int)
    exact⟨-(tt i j m / (p:Int)),by grind⟩
   have IV:∀j m,j<n->m<n->n*j+m<n*n:=λj m hj hm=>by
    have:=Zb n (show j+1<=n by omega)
    rw[W3] at this;omega
   obtain⟨ps4,SS,_⟩:=id (Ln.same g6);refine qq k1 S'.length (λt=>oA (n*n) (S'.getD t [])) r7 H7 (Ug.trans (cF.of (g6.trans g7))) ((Ln.same g6).same g7) ⟨lS',λt i ht hi=>MR hS' ht hi,λt ht=>?_,λt ht=>(mlt _).mp λj hj m hm=>?_,λx hx=>q2 x λq hq=>?_⟩ (Rep.AA Lo SS λb hb=>(Ug.trans (cF.of g6)).fresh ⟨_,SS⟩ hb)
   ·obtain⟨i,hi,h⟩:=ZE (S'.getD t []) (by rw[Yb,Yc ht];exact Yz ht)
    exact⟨i,hi,h⟩
   ·have h1:=q1 (S'.getD t []) (by rw[Yb,Yc ht];exact Yz ht) (n*j+m) (IV j m hj hm)
    obtain⟨a,ha⟩:=h1;obtain⟨b,hb⟩:=hmod (oA (n*n) (S'.getD t [])) j m hj hm;exact⟨a-b,by grind⟩
   ·obtain⟨a,ha⟩:=(mlt x).mpr hx (q / n) (Nat.div_lt_of_lt_mul hq) (q % n) (Nat.mod_lt _ (by omega))
    obtain⟨b,hb⟩:=hmod x (q / n) (q % n) (Nat.div_lt_of_lt_mul hq) (Nat.mod_lt _ (by omega))
    rw[Nat.div_add_mod] at hb;exact⟨a+b,by grind⟩
end
section
variable {R:Type} [Lean.Grind.CommRing R] {f:Fn} {n p d:Nat} {φ:Vc->R} {ip:R} {T:Nat->Vc}
theorem uV.table (X:Xr f n p φ ip)(L:uV n p φ ip d T):∃c:Nat->Nat->Vc,Ks n p (kC n φ ip d T) ip c/\∀i j,i<n->j<n->∀k,k<n->yc f n (T i) (T j) k=(p:Int) ^ d*sm n (c i j) T k:=by
 have Ba:=X.ya;have BT:=Ba.jk (d:=d) X.inv L.st;have Vl:zc R ((p:Int) ^ d)*ip ^ d=1:=qJ X.inv d;have hel:∀y,(φ λj=>sm n y T j)=zc R ((p:Int) ^ d)*kC n φ ip d T y:=λy=>by
  show _=zc R ((p:Int) ^ d)*(ip ^ d*φ _)
  grind
 have hT:∀i,i<n->φ (T i)=zc R ((p:Int) ^ d)*kC n φ ip d T (un i):=λi hi=>by
  rw[<- hel];exact Ba.sup _ _ λj _=>(iO hi).symm
 have hc0:∀i,∃ci:Nat->Vc,∀j,kC n φ ip d T (un i)*kC n φ ip d T (un j)=kC n φ ip d T (ci j):=λi=>Classical.axiomOfChoice λj=>L.sub.mul ⟨_,rfl⟩ ⟨_,rfl⟩
 obtain⟨c,hc⟩:=Classical.axiomOfChoice hc0;refine⟨c,⟨BT,L.sub,λi j _ _=>hc i j,X.inv⟩,λi j hi hj=>?_⟩
 have:φ (yc f n (T i) (T j))=φ λk=>(p:Int) ^ d*sm n (c i j) T k:=by
  unfold yc;rw[<- Ba.mul (c:=λa b=>tk f n (a+b)) X.mul,Ba.smul,hel,hT i hi,hT j hj,<- hc i j];grind
 exact Ba.inj _ _ this
structure gy (n p:Nat)(φ:Vc->R)(ip:R)(d:Nat)(T:Nat->Vc)(s:Nat->Nat):Prop where
 lor:uV n p φ ip d T
 pw:∀i,i<n->T i i=(p:Int) ^ s i/\s i<=d
 oV:∀i j,i<n->j<n->0<=T i j/\T i j<=(p:Int) ^ d/\(j≠i->T i j<(p:Int) ^ d)
 dep:d+tot n s<=d*n
theorem Cc:∀n,tot n (λ_=>0)=0
 | 0=>rfl
 | n+1=>by show tot n (λ_=>0)+0=0;rw[Cc n]
theorem gy.start (X:Xr f n p φ ip):gy n p φ ip 0 un λ_=>0:=by
 refine⟨X.start,λi _=>⟨by show(if i=i then (1:Int) else 0)=_;rw[W9 rfl,Zc],Yd 0⟩,λi j _ _=>?_,by rw[Cc];omega⟩
 show 0<=(if j=i then (1:Int) else 0)/\(if j=i then (1:Int) else 0)<=_/\(j≠i->(if j=i then (1:Int) else 0)<_)
 rw[Zc];by_cases c:j=i
 ·rw[W9 c];exact⟨by decide,by decide,λz=>Jf c z⟩
 ·rw[W8 c];exact⟨by decide,by decide,λ_=>by decide⟩
theorem GW {m:Nat}{N:Nat->Vc}(hT:c_ n T):rowsOf (n+m) n (λi j=>if i<n then (p:Int)*T i j else sm n (N (i-n)) T j)=(Ym n).map (λi j=>(p:Int)*T i j)++(rowsOf m n N).map λr j=>sm n r T j:=by
 have T0:∀a:Vc,∀k,n<=k->sm n a T k=0:=λa k hk=>iA (q:=0) λi hi=>hT.jk i hi k (by omega)
 refine Zr λt=>?_
 unfold rowsOf;rw[Ye];by_cases h1:t<n
 ·rw[Y2 (by rw[Ya,Yg];exact h1),Ye,Y0 h1,Y0 (by omega)]
  show j? (fk n _)=j? _
  congr 1
  funext j
  by_cases c:j<n
  ·rw[cG c];exact W9 h1
  ·rw[c7 (by omega)];show 0=(p:Int)*T t j;rw[hT.jk t h1 j (by omega)];omega
 ·rw[Y4 (by rw[Ya,Yg];omega),Ya,Yg,Ye,Ye]
  by_cases h2:t<n+m
  ·rw[Y0 h2,Y0 (by omega)]
   show j? (fk n _)=j? _
   congr 1
   funext j
   show _=sm n (fk n (N (t-n))) T j
   rw[dS (d':=N (t-n)) (λi hi=>cG hi) λi _=>rfl]
   by_cases c:j<n
   ·rw[cG c];exact W8 h1
   ·rw[c7 (by omega),T0 _ j (by omega)]
  ·rw[List.getElem?_eq_none_iff.mpr (by rw[Yg];omega),List.getElem?_eq_none_iff.mpr (by rw[Yg];omega)];rfl
theorem gy.next (X:Xr f n p φ ip)(hp:p∈PR){s:Nat->Nat}(G:gy n p φ ip d T s){k m:Nat}{N:Nat->Vc}(M:MulOk n p (kC n φ ip d T) ip k m N)(hm:1<=m){T':Nat->Vc}{s':Nat->Nat}(st:c_ n T')(pw:∀i,i<n->T' i i=(p:Int) ^ s' i/\s' i<=d+1)(oV:∀i j,i<n->j<n->0<=T' i j/\T' i j<=(p:Int) ^ (d+1)/\(j≠i->T' i j<(p:Int) ^ (d+1)))
  (hG:∀v,Gq (rowsOf (n+m) n (λi j=>if i<n then (p:Int)*T i j else sm n (N (i-n)) T j)) ((p:Int) ^ (d+1)) n v↔gK n T' v):gy n p φ ip (d+1) T' s':=by
 have hT:=G.lor.st;have BT:=X.ya.jk (d:=d) X.inv hT;have pp:=cY hp;have T0:∀a:Vc,∀k,n<=k->sm n a T k=0:=λa k hk=>iA (q:=0) λi hi=>hT.jk i hi k (by omega)
 rw[GW hT] at hG;have L':uV n p φ ip (d+1) T':=uV.next X.ya hp X.inv G.lor (k:=k) (N:=rowsOf m n N) st (λr hr=>by
   obtain⟨t,ht,rfl⟩:=cU.mp hr;rw[BT.sup (fk n (N t)) (N t) λj hj=>cG hj]
   exact M.mlt t ht) M.all hG
 obtain⟨i0,hi0,nz⟩:=M.nz 0 hm;have r0:=M.oV 0 i0 hm hi0;have hgr:=c_.grow (p:=p) (by omega) hT st (s:=s) (s':=s') (λi hi=>(G.pw i hi).1) (λi hi=>(pw i hi).1) (λi hi=>(hG _).mp (Gq.mem (List.mem_append.mpr (.inl (List.mem_map.mpr ⟨i,List.mem_range.mpr hi,rfl⟩))) λj hj=>by show(p:Int)*T i j=0;rw[hT.jk i hi j (by omega)];omega)) (r:=fk n (N 0))
  ((hG _).mp (Gq.mem (List.mem_append.mpr (.inr (List.mem_map.mpr ⟨_,cU.mpr ⟨0,hm,rfl⟩,rfl⟩))) λj hj=>T0 _ j hj)) (k:=i0) hi0 (λhd=>by
   rw[cG hi0] at hd;have:=Int.le_of_dvd (by omega) hd
   omega)
 have dep:=G.dep;exact⟨L',pw,oV,by rw[Wd];omega⟩
end
def FF (K:bE)(Pp:o?):Sp:=λvs H Q _=>∃(a:o?) (fl:List Int) (n p z:Nat) (u:Int),vs=[.ref a,.int (p:Int)]/\p∈PR/\del H Pp a=j? (.lst (fl.map V.int))/\fl.length=n+1/\1<=n/\n<=6/\L2.dR fl/\f6 4990 fl/\(det n λi j=>rr (aq fl) n (aq (dl fl)) (dl fl).length i j)=(p:Int) ^ z*u/\¬ (p:Int) ∣ u/\z<=24/\fj fR Pp H/\
 ∀(R:Type) (_:Lean.Grind.CommRing R) (φ:Vc->R) (ip:R) (d k:Nat) (T:Nat->Vc) (s:Nat->Nat) r t H',cF H Pp H'->fj fR Pp H'->Xr (aq fl) n p φ ip->gy n p φ ip d T s->MulOk n p (kC n φ ip d T) ip k 0 (λ_ _=>0)->d<=12->H t=q?->del H' Pp t=j? (.tup [r,.int (d:Int)])->Rep (del H' Pp) (dX H) r (mE n n T)->Q (.ref t) H'
section
theorem Kz {aC:o?}(B:ia mg)(jR:b_ P w K mg base 1 "unit_row" Ak Ax)(jT:b_ P w K mg base 1 "number_power" ["k","n"] wZ)(xH:b_ P w K mg base 4 "table_of" DO (Fy K))(qp:b_ P w K mg base 9 "multipliers" yh (Kw K aC))(mT:b_ P w K mg base 8 "triangular" GH (Km K aC))(lK:b_ P w K mg base 1 "summed" Al (tu K))(F:Src K mg "grown" pI jL):b_ P w K mg base 10 "grown" jL (FF K aC):=by
 refine F.ok gY (λvs H Q E h=>?_) (λfa cdv A outer s H vs Q E hr h=>?_)
 ·obtain⟨a,fl,n,p,z,u,rfl,_⟩:=h;rfl
 obtain⟨a,fl,n,p,z,u,rfl,hp,ha,lf,hn1,hn,mf,bf,hD,hu,hz,tq,qq⟩:=h;have pp:=cY hp;have ha':=(cu ha).2;have hf:=xC lf mf;obtain⟨ip,X⟩:=Sn (p:=p) hf hn1 (by omega)
 generalize PC hf hn1=φ at X;have hg:∀m,m<n->aq (dl fl) m=((m+1:Nat):Int)*aq fl (m+1):=λm _=>vI fl m
 have hD':(det n λa c=>bZ n λk=>aq (dl fl) k*tk (aq fl) n (k+a) c)=(p:Int) ^ z*u:=by
  rw[<- hD];refine cX λi j _ _=>?_
  unfold rr;rw[DY,lf];rfl
 have deep:∀ {d:Nat} {T:Nat->Vc} {s:Nat->Nat},gy n p φ ip d T s->d<=12:=λ{d T s} G=>by
  have h1:=uV.le X hf hn1 (by omega) G.lor hg (s:=s) (λi hi=>(G.pw i hi).1) hD' hu
  have h2:=G.dep;omega
 have bf':∀j,Bd 5000 (aq fl j):=λj=>(bf.aq j).mono (by decide)
 have turn:∀ {d:Nat} {T:Nat->Vc} {s:Nat->Nat} (G:gy n p φ ip d T s),∃c:Nat->Nat->Vc,Ks n p (kC n φ ip d T) ip c/\(∀i j,i<n->j<n->∀k,k<n->yc (aq fl) n (T i) (T j) k=(p:Int) ^ d*sm n (c i j) T k)/\(∀i j,i<n->j<n->Bd 200 (T i j))/\∀i j k,i<n->j<n->k<n->Bd 60000 (c i j k):=λ{d T s} G=>by
  obtain⟨c,h1,h2⟩:=uV.table X G.lor;have hd:=deep G;have bT:∀i j,i<n->j<n->Bd 200 (T i j):=λi j hi hj=>by
   have:=G.oV i j hi hj
   exact Bd.le (y:=(p:Int) ^ d) (by omega) (zx hp (by omega))
  refine⟨c,h1,h2,bT,λi j k hi hj hk=>?_⟩
  have m0:(0:Int)<(p:Int) ^ d:=Z9 (by omega)
  refine(c_.bnd (b:=50417) G.lor.st bT (λq hq=>?_) k hk).mono ?_
  ·refine Bd.le (y:=yc (aq fl) n (T i) (T j) q) ?_ (P9 hn bf' (λa ha=>bT i a hi ha) (λa ha=>bT j a hj ha) q)
   rw[h2 i j hi hj q hq,Zf];exact Nat.le_mul_of_pos_left _ (by omega)
  ·have:201*n<=201*6:=Zb _ hn
   omega
 refine⟨_,ai (aD (i:=2) gY.nd rfl (Or.inr rfl) (av bO (aE (aN (K:=K) rfl) rfl B.len bI (af (pv 0) ah)) ak))
  (ai (aD (i:=3) gY.nd rfl (Or.inr rfl) (b8 (aI (N:=["place","degree"]) (sl:=[q?,j? 2]) (ao pI) ME rfl rfl (by decide +kernel)) rfl (bN rfl B.range (af (pv 2) ah)) (λ_ _ _ _ _=>(aB (i:=0) (Yk_ ["place","degree"]) rfl (z? rfl))) (λ_ _ _ _ _=>aU) (λ_ _ _ _ _=>(aF jR hr (af (pv 1) (af (pv 0) (af ak ah)))))))
  (ai (aD (i:=4) gY.nd rfl (z? rfl) ak)
  (ai (aD (i:=5) gY.nd rfl (z? rfl) (aF qp hr (af (aF xH hr (af (pv 0) (af (pv 3) (af ak ah)))) (af (pv 1) ah))))
  (ai (eV D? (aW (vA (K:=K) rfl hr.units) (pv 5) (bF ah) (bD _))
   (ai (lY (i:=6) gY.nd rfl (z? rfl) (aI (N:=["row","p"]) (sl:=[q?,j? 1]) (ao pI) ME rfl rfl (by decide +kernel)) rfl (bM (K:=K) rfl (pv 3)) (λ_ _ _ _ _=>(aB (i:=0) (Yk_ ["row","p"]) rfl (z? rfl))) (λ_ _ _ _ _=>aU) (λ_ _ _ _ _=>(b8 (aI (N:=GJ) (sl:=[q?,j? 1]) _ ["row","p"] rfl rfl (by kernel_rfl)) rfl (bM (K:=K) rfl (pv 0)) (λ_ _ _ _ _=>(aB (i:=0) (Yk_ GJ) rfl (z? rfl))) (λ_ _ _ _ _=>aU) (λ_ _ _ _ _=>(av aX (pv 1) (pv 0))))))
   (ai (zD (i:=4) gY.nd rfl (z? rfl) ak zF)
   (ai (aD (i:=3) gY.nd rfl (Or.inr rfl) (aF mT hr (af (av gm (pv 6) (b8 (aI (N:=["numbers","lattice"]) (sl:=[q?,j? 3]) (ao pI) ME rfl rfl (by decide +kernel)) rfl (bM (K:=K) rfl (pv 5)) (λ_ _ _ _ _=>(aB (i:=0) (Yk_ ["numbers","lattice"]) rfl (z? rfl))) (λ_ _ _ _ _=>aU) (λ_ _ _ _ _=>(aF lK hr (af (pv 0) (af (pv 1) ah)))))) (af (pv 1) (af (pv 4) ah)))))
   (au (aD (i:=5) gY.nd rfl (z? rfl) (aF qp hr (af (aF xH hr (af (pv 0) (af (pv 3) (af (aF jT hr (af (pv 1) (af (pv 4) ah))) ah)))) (af (pv 1) ah)))))))))
  (au (aJ (i8 (af (pv 3) (af (pv 4) ah))))))))),?_⟩
 walk_at "rd"
 refine⟨a,_,rfl,.inl (aP.of ha'),?_⟩
 rw[Ya,lf];refine⟨_,_,rfl,rfl,?_⟩
 show ig 2 (V.int (((n+1:Nat):Int)-1)) _ _ _
 rw[show((n+1:Nat):Int)-1=(n:Int) by omega]
 refine⟨_,rfl,_,rfl,by omega,by omega,λD T9=>?_⟩
 rw[Yf];refine BJ (λi=>rE n (un i)) T9 (by omega) (λi H2 Q2 hi g2 q2=>?_) λH2 g2 rr=>?_
 ·rw[Zu]
  exact⟨_,rfl,_,rfl,n,i,1,rfl,by omega,λr H3 g3 rr=>q2 _ H3 g3 rr⟩
 have SV:=tq.same g2;obtain⟨ps,NU,_⟩:=id tq;obtain⟨ps2,Rf,_⟩:=id SV;obtain⟨c,AG,hc,bT,bc⟩:=turn (gy.start X);refine⟨_,rfl,_,rfl,a,fl,n,.ref D,un,c,1,rfl,aP.of (g2 _ _ ha'),lf,hn1,by omega,mf,bf.mono (by decide),rr.any,BO,λi j hi hj=>(bT i j hi hj).mono (by decide),by decide,(Bd.small (by decide) (by decide)).mono (by decide),λi j hi hj k hk=>by
  have:=hc i j hi hj k hk
  rw[Zc] at this;exact this,λi j k hi hj hk=>(bc i j k hi hj hk).mono (by decide),λr3 H3 g3 Lm=>?_⟩
 refine⟨_,rfl,n,p,_,_,kC n φ ip 0 un,ip,c,r3,rfl,hp,Rep.any (Rep.AA (H0:=H2) Lm Rf λb hb=>hb),hn1,hn,bc,AG,SV.same g3,λk0 m N r4 H4 n4 Ln M P6=>?_⟩
 have rD:Rep (del H2 aC) (dX H) (.ref D) (mE n n un):=Rep.AA rr NU λb hb=>hb
 have ZG:cF H2 aC H4:=(cF.of g3).trans n4;refine jH (λσ H5=>cF H aC H5/\fj fR aC H5/\∃(lt fv:V) (T:Nat->Vc) (s:Nat->Nat) (d k m:Nat) (N:Nat->Vc) (o:Option V),σ=[Rq a,Iq (p),Iq (n),j? lt,Iq (d),j? fv,o]/\Rep (del H5 aC) (dX H) lt (mE n n T)/\Rep (del H5 aC) Any fv (mE m n N)/\gy n p φ ip d T s/\MulOk n p (kC n φ ip d T) ip k m N)
  (λσ _=>match σ with | [_,_,_,_,j? (.int d),_,_]=>30-d.toNat|_=>0) ⟨(cF.of g2).trans ZG,Ln,.ref D,r4,un,λ_=>0,0,k0,m,N,_,rfl,rD.same ZG.del,P6.any,gy.start X,M⟩ ?_
 rintro σ H5 ⟨n5,Ra,lt,fv,T,s,d,k,m,N,o,rfl,rlt,rfv,G,M⟩;have VR:=deep G;have m50:=M.le;refine⟨_,rfl,aZ rfl,λpe MI=>?_⟩
 have k6:=aA MI (.lst []);have NT:(L2.upd H5 pe (.lst [])) pe=j? (.lst []):=ay;generalize L2.upd H5 pe (.lst [])=H6 at k6 NT;have n6:=n5.trans (cF.of k6);have NV:=Ra.same k6;have ZH:cF H5 aC H6:=cF.of k6;have Qg:=rlt.same ZH.del;have SW:=rfv.same ZH.del;obtain⟨ps6,VS,_⟩:=id NV;have Kh:Rep H6 Any (.ref pe) (.vec []):=.vec NT trivial rfl λi v e h=>by simp at h
 refine R6 (SW.same (fz _ _)) Kh (NX (by omega) (by omega)) (.vec (n:=1) (by decide) λe he=>by simp at he) (by decide) (by decide) (λe=>?_) (λe=>?_)
 ·have s0:m=0:=by
   unfold mE lE at e;injection e with e
   have:=Jd Wr e
   rw[Ya,Yg] at this;exact this
  subst s0;refine⟨_,rfl,gp ?_⟩
  refine⟨_,rfl,_,rfl,aZ rfl,λt nt=>?_⟩
  have k7:=aA nt (.tup [lt,.int (d:Int)]);have ZI:cF H6 aC _:=cF.of k7;have tP:t≠aC:=λz=>by rw[z,VS] at nt;cases nt
  refine qq _ _ φ ip d k T s lt t _ (n6.trans ZI) (NV.same k7) X G ⟨M.le,λt i h=>by omega,λt h=>by omega,λt h=>by omega,M.all⟩ VR (n6.fresh ⟨_,VS⟩ nt) (by rw[jK tP];exact ay) (Qg.same ZI.del)
 ·have m1:1<=m:=by
   rcases Nat.eq_zero_or_pos m with y|y
   ·exact Jf (by unfold mE lE;rw[y];rfl) e
   ·exact y
  refine⟨_,rfl,jE (win ?_)⟩
  obtain⟨la,us,rfl,hla,_,C⟩:=id Qg.cf;obtain⟨lb,ws,rfl,hlb,_,Cw⟩:=id SW.cf;have SX:=(cu hla).2;have SY:=(cu hlb).2;have bT:∀i j,i<n->j<n->Bd 200 (T i j):=λi j hi hj=>by
   have:=G.oV i j hi hj
   exact Bd.le (y:=(p:Int) ^ d) (by omega) (zx hp (by omega))
  refine⟨_,rfl,la,rfl,⟨_,aP.of SX⟩,λD2 yi=>?_⟩
  refine nW (λi=>rE n λj=>(p:Int)*T i j) (n:=n) C.len SX yi (by omega) (λi vx H7 Q2 hi g7 lJ q2=>?_) λH7 g7 Lo=>?_
  ·obtain⟨_,ri⟩:=C.get lJ
   obtain⟨lr,rfl,hlr,_⟩:=dU ri;have MP:=g7 _ _ (cu hlr).2;refine⟨_,rfl,lr,rfl,⟨_,aP.of MP⟩,λD3 VT=>?_⟩
   refine nW (λj=>.num ((p:Int)*T i j)) (n:=n) (by rw[Ya,aQ]) MP VT (by omega) (λj vx H8 Q3 hj g8 lJ q3=>?_) λH8 g8 rr=>q2 _ H8 g8 rr
   obtain⟨y1,hy1,rfl⟩:=a_ lJ;rw[cZ hj] at hy1;cases hy1;exact⟨_,rfl,_,rfl,_,_,rfl,rfl,gQ (by omega) (by omega),q3 _ H8 (aH.refl _) (.num _)⟩
  refine⟨_,rfl,_,_,rfl,rfl,?_⟩
  refine⟨_,rfl,_,rfl,lb,rfl,⟨_,aP.of (g7 _ _ SY)⟩,λD3 VT=>?_⟩
  refine nW (λt=>rE n λj=>sm n (N t) T j) (n:=m) Cw.len (g7 _ _ SY) VT (by omega) (λt vx H8 Q2 ht g8 lJ q2=>?_) λH8 g8 rr8=>?_
  ·obtain⟨_,rt⟩:=Cw.get lJ
   refine⟨_,rfl,_,rfl,n,n,vx,.ref la,N t,T,rfl,(rt.any.same (fz _ _)).same (g7.trans g8),(Qg.any.same (fz _ _)).same (g7.trans g8),hn1,by omega,by omega,λi hi=>?_,λi j hi hj=>(bT i j hi hj).mono (by decide),λr H9 g9 rr=>q2 _ H9 g9 rr⟩
   have:=M.oV t i ht hi
   exact(Bd.small (by omega) (by omega)).mono (by decide)
  obtain⟨_,Uk,e2,h2,nD2,C2⟩:=id (Lo.same g8).cf;cases e2;obtain⟨_,Ul,e3,h3,nD3,C3⟩:=id rr8.cf;cases e3;refine⟨D2,D3,_,_,rfl,rfl,h2,h3,by rw[C2.len,C3.len,C?];omega,λp4 ZJ=>?_⟩
  have k9:=aA ZJ (.lst (Uk++Ul));have e9:(L2.upd H8 p4 (.lst (Uk++Ul))) p4=j? (.lst (Uk++Ul)):=ay;generalize L2.upd H8 p4 (.lst (Uk++Ul))=H9 at k9 e9;have Q9:=(g7.trans g8).trans k9;have rA:Rep H9 (dX H6) (.ref p4) (mE (n+m) n λi j=>if i<n then (p:Int)*T i j else sm n (N (i-n)) T j):=by
   have:=((C2.same k9).append ((C3.imp λb o h kb=>⟨h,g7.free kb⟩).same k9)).rep e9 ((g7.trans g8).free ZJ)
   unfold mE;rw[w_ (d:=λi=>if i<n then rE n λj=>(p:Int)*T i j else rE n λj=>sm n (N (i-n)) T j) λi _=>?_]
   ·exact this
   ·by_cases c1:i<n
    ·rw[W9 c1];exact xg λj _=>W9 c1
    ·rw[W8 c1];exact xg λj _=>W8 c1
  have ZK:=NV.same Q9;refine⟨_,rfl,_,rfl,n+m,n,d+1,p,.ref p4,λi j=>if i<n then (p:Int)*T i j else sm n (N (i-n)) T j,rfl,hp,Rep.any (Rep.AA (H0:=H6) rA VS λb hb=>hb),hn1,by omega,by omega,by omega,by omega,by omega,ZK,λT' s' r5 Uh n10 S0 st pw oV hG MS=>?_⟩
  have G':=G.next X hp M m1 st pw oV hG;have hd':=deep G';obtain⟨c',AG',hc',bT',ZL⟩:=turn G';have S1:cF H aC Uh:=(n6.trans (cF.of Q9)).trans n10;obtain⟨ab9,VU,_⟩:=id S0;refine⟨_,rfl,_,rfl,_,rfl,_,rfl,p,d+1,rfl,by omega,by omega,?_⟩
  rw[Zx];have m0:(0:Int)<(p:Int) ^ (d+1):=Z9 (by omega)
  refine⟨a,fl,n,r5,T',c',(p:Int) ^ (d+1),rfl,aP.of (S1 _ _ (cu ha).1 ha'),lf,hn1,by omega,mf,bf.mono (by decide),MS.any.same (fz _ _),st,λi j hi hj=>(bT' i j hi hj).mono (by decide),by omega,(zx hp (by omega)).mono (by decide),hc',λi j k hi hj hk=>(ZL i j k hi hj hk).mono (by decide),λr11 Ui SN Qe=>?_⟩
  refine⟨_,rfl,n,p,_,_,kC n φ ip (d+1) T',ip,c',r11,rfl,hp,Rep.any (Rep.AA (H0:=Uh) Qe VU λb hb=>hb),hn1,hn,ZL,AG',S0.same SN,λk' m' N' r12 H12 Uj VV M' VW=>?_⟩
  have NY:cF Uh aC H12:=(cF.of SN).trans Uj;refine⟨⟨S1.trans NY,VV,r5,r12,T',s',d+1,k',m',N',_,rfl,Rep.same (MS.imp λb o h kb=>⟨h,(n6.trans (cF.of Q9)).fresh ⟨_,ZK.choose_spec.1⟩ kb⟩) NY.del,VW.any,G',M'⟩,?_⟩
  show 30-((d:Int)+1).toNat<30-((d:Int)).toNat
  omega
end
inductive tw (K:bE)(H:Hp):V->Bool->Prop where
 | Qh {a:o?} {ns:List Int}:aP K H a (ns.map V.int)->ns.length<=1000->∀b:Bool,(b=true↔Norm ns)->tw K H (.ref a) b
 | bad {a:o?} {xs:List V} {i:Nat} {x:V} {T:String}:aP K H a xs->(∀j,j<i->∃n,xs[j]?=j? (.int n))->xs[i]?=j? x->EU K H x T->T≠"int"->tw K H (.ref a) false
 | other {x:V} {T:String}:EU K H x T->T≠"list"->tw K H x false
def FG (K:bE):Sp:=λvs H Q _=>∃(x:V) (b:Bool),vs=[x]/\tw K H x b/\∀H',aH H H'->Q (.bl b) H'
section
theorem uw (B:ia mg)(qV:b_ P w K mg base 1 "is_whole" jm (uo K))(F:Src K mg "is_polynomial" i9 jm):b_ P w K mg base 2 "is_polynomial" jm (FG K):=by
 refine F.ok lG (λvs H Q E h=>?_) (λf cdv A outer s H vs Q E hr h=>?_)
 ·obtain⟨x,b,rfl,_⟩:=h;rfl
 obtain⟨x,b,rfl,Qi,q⟩:=h;refine⟨_,ai (cW (gO (gk (aE (cR (K:=K) rfl) rfl B.isinstance bX (af (pv 0) (af (gM (v:=.ty "list") rfl B.list j6 rfl) ah)))))
   (au (aJ jg))
   (bY))
  (ai (cD D? rfl (bM (K:=K) rfl (pv 0)) (aB (i:=1) lG.nd rfl (z? rfl))
   (au (cW (gO (gk (aF qV hr (af (pv 1) ah))))
    (au (aJ jg))
    (bY))))
  (au (aJ (M8 (j5 (mh (K:=K) rfl hr.units) (pv 0) (bF ah) (bD _)) (lO (j5 kY (bC (aG (K:=K) rfl) (pv 0) (ni i7 ak) (λ_ _=>rfl)) ak (bD _))))))),?_⟩
 cases Qi with
 | @Qh a ns ha ln b hb=>
  refine⟨_,rfl,_,"list","list",true,rfl,.lst ha,rfl,_,rfl,gp ?_⟩
  refine⟨_,rfl,a,rfl,⟨_,ha⟩,jD (xs:=ns.map V.int) (λi σ H2=>H2=H/\∃o,σ=[Rq a,o]) ⟨rfl,_,rfl⟩ (λi σ H2 _ h=>h.1 ▸ ha) ?_ ?_⟩
  ·rintro i x σ H2 hx ⟨rfl,o,rfl⟩
   obtain⟨n,hn,rfl⟩:=a_ hx;refine⟨_,rfl,_,"int",rfl,.int n,_,rfl,gp ?_⟩
   exact⟨rfl,_,rfl⟩
  ·rintro σ H2 ⟨rfl,o,rfl⟩
   refine⟨_,rfl,aZ rfl,λp1 n1=>?_⟩
   have k1:=aA n1 (.lst []);refine RU (xs:=ns) (ys:=[]) (k1.seq ha) (aP.of ay) ⟨_,rfl,fU (λc=>?_) (λc=>?_)⟩
   ·have e:b=true:=hb.mpr (.inl (Jb c))
    rw[e] at q;exact q _ k1
   ·have hne:ns≠[]:=λz=>c (Ja z)
    refine⟨_,rfl,_,rfl,a,_,_,_,rfl,rfl,k1.seq ha,su hne,rfl,?_⟩
    have e:(!decide (V.int (aq ns (ns.length-1))=V.int 0))=b:=by
     cases b with
     | true=>
      have hN:=hb.mp rfl;rw[Jc λz=>hN.last hne (V.int.inj z)]
      rfl
     | false=>
      have hN:aq ns (ns.length-1)=0:=by
       refine V? λz=>?_
       exact Jf (hb.mpr (.inr z)) E?
      rw[Ja (Jd V.int hN)];rfl
    rw[e];exact q _ k1
 | @bad a xs i x T ha hj hx ty hT=>
  refine⟨_,rfl,_,"list","list",true,rfl,.lst ha,rfl,_,rfl,gp ?_⟩
  have hlt:i<xs.length:=(List.getElem?_eq_some_iff.mp hx).1;refine⟨_,rfl,a,rfl,⟨_,ha⟩,jD (xs:=xs) (λj σ H2=>j<=i/\H2=H/\∃o,σ=[Rq a,o]) ⟨Y1 _,rfl,_,rfl⟩ (λi σ H2 _ h=>h.2.1 ▸ ha) ?_ ?_⟩
  ·rintro j y σ H2 hy ⟨hji,rfl,o,rfl⟩
   by_cases e:j=i
   ·subst e
    rw[hx] at hy;obtain rfl:=M? hy
    refine⟨_,rfl,_,T,rfl,ty,_,rfl,?_⟩
    rw[Jc hT];refine jE (q _ (aH.refl _))
   ·obtain⟨n,hn⟩:=hj j (by omega)
    rw[hn] at hy;obtain rfl:=M? hy
    refine⟨_,rfl,_,"int",rfl,.int n,_,rfl,gp ?_⟩
    exact⟨by omega,rfl,_,rfl⟩
  ·rintro σ H2 ⟨hji,_⟩
   omega
 | @other x T ty hT=>
  cases ty with
  | eZ=>exact⟨_,rfl,_,_,"list",false,rfl,.eZ,by with_unfolding_all rfl,_,rfl,jE (q _ (aH.refl _))⟩
  | bl b=>exact⟨_,rfl,_,_,"list",false,rfl,.bl b,by with_unfolding_all rfl,_,rfl,jE (q _ (aH.refl _))⟩
  | int i=>exact⟨_,rfl,_,_,"list",false,rfl,.int i,by with_unfolding_all rfl,_,rfl,jE (q _ (aH.refl _))⟩
  | str b=>exact⟨_,rfl,_,_,"list",false,rfl,.str b,by with_unfolding_all rfl,_,rfl,jE (q _ (aH.refl _))⟩
  | lst e=>exact Jf rfl hT
  | tup e=>exact⟨_,rfl,_,_,"list",false,rfl,.tup e,by with_unfolding_all rfl,_,rfl,jE (q _ (aH.refl _))⟩
end
def S2:List V:=PR.map λp:Nat=>V.int (p:Int)
inductive qu (K:bE)(H:Hp):V->Bool->Prop where
 | int (i:Int):qu K H (.int i) (LM (V.int i) S2)
 | other {x:V} {T:String}:EU K H x T->T≠"int"->qu K H x false
theorem Qj {i:Int}(h:LM (V.int i) S2=true):∃p:Nat,p∈PR/\i=(p:Int):=by
 unfold LM at h;rw[List.any_eq_true] at h;obtain⟨y,hy,e⟩:=h;unfold S2 at hy;obtain⟨p,hp,rfl⟩:=List.mem_map.mp hy;refine⟨p,hp,?_⟩
 have e:((p:Int) == i)=true:=e;exact(beq_iff_eq.mp e).symm
def S3 (K:bE):Sp:=λvs H Q _=>∃(x:V) (b:Bool),vs=[x]/\qu K H x b/\Q (.bl b) H
inductive oB (K:bE)(H:Hp):V->Bool->Prop where
 | Qh {a:o?} {ns:List Int}:H a=j? (.lst (ns.map V.int))->ns.length<=1000->∀b:Bool,(b=true↔L2.dR ns/\2<=ns.length/\ns.length<=13)->oB K H (.ref a) b
 | bad {a:o?} {xs:List V} {i:Nat} {x:V} {T:String}:aP K H a xs->(∀j,j<i->∃n,xs[j]?=j? (.int n))->xs[i]?=j? x->EU K H x T->T≠"int"->oB K H (.ref a) false
 | other {x:V} {T:String}:EU K H x T->T≠"list"->oB K H x false
def NZ (K:bE):Sp:=λvs H Q _=>∃(x:V),vs=[x]/\((∃(a:o?) (ns:List Int),x=.ref a/\aP K H a (ns.map V.int)/\ns.length<=1000/\(L2.dR ns->∀H',aH H H'->Q (.bl true) H')/\(¬ L2.dR ns->∀H',aH H H'->Q (.bl false) H'))\/(tw K H x false/\∀H',aH H H'->Q (.bl false) H'))
section
theorem Cd {g_:o?}(B:ia mg)(KA:mg "PRIMES"=j? (.ref g_))(hP:∀H,jv K H g_ (PR.map λp:Nat=>V.int (p:Int)))(qV:b_ P w K mg base 1 "is_whole" jm (uo K))(F:Src K mg "is_prime" qM ["k"]):b_ P w K mg base 2 "is_prime" ["k"] (S3 K):=by
 refine F.ok BR (λvs H Q E h=>?_) (λf cdv A outer s H vs Q E hr h=>?_)
 ·obtain⟨x,b,rfl,_⟩:=h;rfl
 obtain⟨x,b,rfl,Qi,q⟩:=h;refine⟨_,au (aJ (lQ (aF qV hr (af (pv 0) ah)) (lO (j5 (HU (K:=K) rfl) (pv 0) (j4 (v:=.ref g_) rfl KA rfl) (by with_unfolding_all rfl))))),?_⟩
 cases Qi with
 | int i=>exact⟨_,rfl,_,_,rfl,.int i,_,rfl,_,rfl,g_,_,rfl,.inr (hP H),rfl,by decide,q⟩
 | other ty hT=>
  refine⟨_,rfl,_,_,rfl,ty,_,rfl,?_⟩
  rw[Jc hT];exact q
theorem Ce (B:ia mg)(vo:b_ P w K mg base 2 "is_polynomial" jm (FG K))(F:Src K mg "is_monic" qN jm):b_ P w K mg base 3 "is_monic" jm (NZ K):=by
 refine F.ok BS (λvs H Q E h=>?_) (λf cdv A outer s H vs Q E hr h=>?_)
 ·obtain⟨x,rfl,_⟩:=h;rfl
 obtain⟨x,rfl,h⟩:=h;refine⟨_,au (aJ (lQ (aF vo hr (af (pv 0) ah)) (lQ (j5 (vA (K:=K) rfl hr.units) (pv 0) (bF ah) (bD _)) (lO (j5 iV (bC (aG (K:=K) rfl) (pv 0) (ni i7 ak) (λ_ _=>rfl)) ak (bD _)))))),?_⟩
 walk_at "rd"
 rcases h with ⟨a,ns,rfl,ha,ln,qt,qf⟩|⟨Qi,qf⟩
 ·by_cases hN:Norm ns
  ·refine⟨.ref a,true,rfl,.Qh ha ln true ⟨λ_=>hN,λ_=>rfl⟩,λH1 g1=>⟨_,rfl,jE ?_⟩⟩
   refine⟨_,rfl,aZ rfl,λpe MI=>?_⟩
   have k2:=aA MI (.lst []);refine Rj (xs:=ns) (ys:=[]) (k2.seq (g1.seq ha)) (aP.of ay) ⟨_,rfl,?_⟩
   by_cases c:ns=[]
   ·refine k8 c ?_
    exact qf (λm=>m.1 c) _ (g1.trans k2)
   ·refine Bh c ?_
    refine⟨_,rfl,_,rfl,a,_,_,_,rfl,rfl,k2.seq (g1.seq ha),su c,rfl,?_⟩
    by_cases c1:aq ns (ns.length-1)=1
    ·show Q (V.bl (decide (V.int (aq ns (ns.length-1))=V.int 1))) _
     rw[Ja (Jd V.int c1)];exact qt ⟨c,c1⟩ _ (g1.trans k2)
    ·show Q (V.bl (decide (V.int (aq ns (ns.length-1))=V.int 1))) _
     rw[Jc λz=>c1 (V.int.inj z)]
     exact qf (λm=>c1 m.2) _ (g1.trans k2)
  ·refine⟨.ref a,false,rfl,.Qh ha ln false ⟨λz=>(nomatch z),λz=>Jf z hN⟩,λH1 g1=>⟨_,rfl,gp ?_⟩⟩
   exact qf (λm=>hN (.inr (by rw[m.2];decide))) H1 g1
 ·exact⟨x,false,rfl,Qi,λH1 g1=>⟨_,rfl,gp (qf H1 g1)⟩⟩
def S4 (K:bE):Sp:=λvs H Q _=>∃(x:V) (b:Bool),vs=[x]/\oB K H x b/\∀H',aH H H'->Q (.bl b) H'
theorem pY (B:ia mg){t1:Tok}(yp:mg "MOST_DEGREE"=j? (.int 12 t1))(Ea:b_ P w K mg base 3 "is_monic" jm (NZ K))(F:Src K mg "is_bounded_monic" gu jm):b_ P w K mg base 4 "is_bounded_monic" jm (S4 K):=by
 refine F.ok pX (λvs H Q E h=>?_) (λf cdv A outer s H vs Q E hr h=>?_)
 ·obtain⟨x,b,rfl,_⟩:=h;rfl
 obtain⟨x,b,rfl,Qi,q⟩:=h;refine⟨_,au (aJ (lQ (aF Ea hr (af (pv 0) ah)) (lO (A8 Hy Hy ak (aE (aN (K:=K) rfl) rfl B.len bI (af (pv 0) ah)) (av b9 (j4 (v:=.int 12) rfl yp ⟨_,rfl⟩) ak))))),?_⟩
 walk_at "rd"
 cases Qi with
 | @Qh a ns ha ln b hb=>
  refine .inl ⟨a,ns,rfl,aP.of ha,ln,λm H1 g1=>⟨_,rfl,jE ?_⟩,λnm H1 g1=>⟨_,rfl,gp ?_⟩⟩
  ·refine⟨_,rfl,a,_,rfl,.inl (aP.of (g1 _ _ ha)),?_⟩
   rw[Ya];refine⟨_,_,rfl,rfl,_,rfl,fU (λc=>?_) (λc=>?_)⟩
   ·have c':=Jb c
    refine⟨_,_,rfl,rfl,_,_,rfl,rfl,?_⟩
    have e:decide ((ns.length:Int)<=12+1)=b:=by
     cases b with
     | true=>
      have:=(hb.mp rfl).2.2
      exact Ja (by omega)
     | false=>
      refine Jc λz=>?_
      have:=hb.mpr ⟨m,by omega,by omega⟩
      cases this
    show Q (V.bl (decide ((ns.length:Int)<=12+1))) H1
    rw[e];exact q H1 g1
   ·have e:b=false:=by
     cases b with
     | true=>
      have:=(hb.mp rfl).2.1
      exact Jf (Ja (show(2:Int)<=(ns.length:Int) by omega)) c
     | false=>rfl
    rw[e] at q;exact q H1 g1
  ·have e:b=false:=by
    cases b with
    | true=>exact Jf (hb.mp rfl).1 nm
    | false=>rfl
   rw[e] at q;exact q H1 g1
 | bad ha hj hx ty hT=>exact .inr ⟨.bad ha hj hx ty hT,λH1 g1=>⟨_,rfl,gp (q H1 g1)⟩⟩
 | other ty hT=>exact .inr ⟨.other ty hT,λH1 g1=>⟨_,rfl,gp (q H1 g1)⟩⟩
end
abbrev Um:List l?:=[.type "ValueError",.type "Exception",.type "BaseException",.type "object"]
def Rz (CN:o?)(H:Hp)(E:XK):Prop:=∀(ea:o?) (H':Hp),aH H H'->E (.ref ea) (j? CN) H'
def AD (ns:List Int):Prop:=f6 4990 ns/\∃E:Nat,E<=9000/\(ns.length-1)*(E+5)<9000/\∀i j,i<=ns.length-1->(rr (aq ns) (ns.length-1) (aq (dl ns)) (dl ns).length i j).natAbs<=2 ^ E
def dN (ns:List Int):Int:=tg (ns.length-1)*det (ns.length-1) λi j=>rr (aq ns) (ns.length-1) (aq (dl ns)) (dl ns).length i j
theorem qu.yes {K:bE}{H:Hp}{y:V}{b:Bool}(h:qu K H y b):b=true->∃p:Nat,p∈PR/\y=.int (p:Int):=by
 cases h with
 | int i=>
  intro e;obtain⟨p,hp,rfl⟩:=Qj e;exact⟨p,hp,rfl⟩
 | other _ _=>intro e;cases e
theorem oB.yes {K:bE}{H:Hp}{x:V}{b:Bool}(h:oB K H x b):b=true->∃(a:o?) (ns:List Int),x=.ref a/\H a=j? (.lst (ns.map V.int))/\L2.dR ns/\2<=ns.length/\ns.length<=13:=by
 cases h with
 | Qh ha ln b hb=>
  intro e;obtain⟨h1,h2,h3⟩:=hb.mp e;exact⟨_,_,rfl,ha,h1,h2,h3⟩
 | bad=>intro e;cases e
 | other=>intro e;cases e
def FH (K:bE)(C1 C2 C3:o?):Sp:=λvs H Q E=>∃(x y:V) (bp bf:Bool),vs=[x,y]/\qu K H y bp/\oB K H x bf/\(bp=false->Rz C1 H E)/\(bp=true->bf=false->Rz C2 H E)/\
 (bp=true->bf=true->∀(a:o?) (ns:List Int) (p:Nat),x=.ref a->H a=j? (.lst (ns.map V.int))->y=.int (p:Int)->p∈PR->L2.dR ns->2<=ns.length->ns.length<=13->AD ns/\(dN ns=0->Rz C3 H E)/\∀v:Nat,fq (p:Int) (dN ns) v->dN ns≠0->∀H',aH H H'->Q (.int (v:Int)) H')
section
theorem yq {b7 aR bW:o?}(jA:mg "NoPrime"=j? (.ref b7))(lM:PySem.W.excIn K b7 Um "ValueError.__new__"=true)(eH:mg "NoPolynomial"=j? (.ref aR))(fH:PySem.W.excIn K aR Um "ValueError.__new__"=true)(iJ:mg "NotPlain"=j? (.ref bW))(jU:PySem.W.excIn K bW Um "ValueError.__new__"=true)(B:ia mg)
  (Eb:b_ P w K mg base 2 "is_prime" ["k"] (S3 K)) (qW:b_ P w K mg base 4 "is_bounded_monic" jm (S4 K)) (fK:b_ P w K mg base 4 "discriminant" ["f"] (Au K)) (eG:b_ P w K mg base 2 "size_of_number" sU vN) (F:Src K mg "plain_size" mG jL):vf P w K mg base 5 "plain_size" jL (FH K b7 aR bW):=by
 refine F.U4 qk (λvs H Q E h=>?_) (λf cdv A outer s H vs Q E hr h=>?_)
 ·obtain⟨x,y,bp,bf,rfl,_⟩:=h;rfl
 obtain⟨x,y,bp,bf,rfl,pa,fa,q1,q2,q3⟩:=h;refine⟨_,ai (cW (gO (gk (aF Eb hr (af (pv 1) ah))))
   (au (sI sH rfl rfl jA lM PySem.F.excBase_ValueError rfl PySem.F.excBase_ValueError (af zC ah)))
   (bY))
  (ai (cW (gO (gk (aF qW hr (af (pv 0) ah))))
   (au (sI sH rfl rfl eH fH PySem.F.excBase_ValueError rfl PySem.F.excBase_ValueError (af zC ah)))
   (bY))
  (ai (aD (i:=2) qk.nd rfl (z? rfl) (aF eG hr (af (aF fK hr (af (pv 0) ah)) (af (pv 1) ah))))
  (ai (cW (aW Nh (pv 2) tL (bD _))
   (au (sI sH rfl rfl iJ jU PySem.F.excBase_ValueError rfl PySem.F.excBase_ValueError (af zC ah)))
   (bY))
  (au (aJ (pv 2)))))),?_⟩
 walk_at "rd"
 refine⟨y,bp,rfl,pa,⟨_,rfl,?_⟩⟩
 have hy:=qu.yes pa;have hx:=oB.yes fa;cases bp with
 | false=>exact jE ⟨by rw[C?];decide,λea _=>q1 rfl ea H (aH.refl H)⟩
 | true=>
  refine gp ⟨_,rfl,x,bf,rfl,fa,λH1 g1=>⟨_,rfl,?_⟩⟩
  cases bf with
  | false=>exact jE ⟨by rw[C?];decide,λea _=>q2 rfl rfl ea H1 g1⟩
  | true=>
   obtain⟨p,hp,rfl⟩:=hy rfl;obtain⟨a,ns,rfl,ha,mf,l2,Qk⟩:=hx rfl;obtain⟨⟨Gh,E9,hE,NI,bR⟩,qn,qs⟩:=q3 rfl rfl a ns p rfl ha rfl hp mf l2 Qk;have pp:=cY hp;refine gp ⟨_,rfl,a,ns,ns.length-1,E9,rfl,aP.of (g1 _ _ ha),by omega,by omega,by omega,mf,Gh,hE,NI,bR,λH2 g2=>?_⟩
   refine⟨_,rfl,dN ns,(p:Int),rfl,by omega,by omega,λz H3 g3 sv=>?_⟩
   have g:=(g1.trans g2).trans g3;rcases sv with ⟨d0,rfl⟩|⟨d0,v,hv,rfl⟩
   ·exact⟨_,rfl,rfl,_,rfl,jE ⟨by rw[C?];decide,λea _=>qn d0 ea H3 g⟩⟩
   ·exact⟨_,rfl,rfl,_,rfl,gp ⟨_,rfl,qs v hv d0 H3 g⟩⟩
def Ci (K:bE)(C1 C2 C3 C4:o?):Sp:=λvs H Q E=>∃(x y:V) (bp bf:Bool),vs=[x,y]/\qu K H y bp/\oB K H x bf/\(bp=false->Rz C1 H E)/\(bp=true->bf=false->Rz C2 H E)/\
 (bp=true->bf=true->∀(a:o?) (ns:List Int) (p:Nat),x=.ref a->H a=j? (.lst (ns.map V.int))->y=.int (p:Int)->p∈PR->L2.dR ns->2<=ns.length->ns.length<=13->AD ns/\(dN ns=0->Rz C3 H E)/\∀v:Nat,fq (p:Int) (dN ns) v->dN ns≠0->(7<ns.length\/24<v->Rz C4 H E)/\(ns.length<=7->v<=24->∀H',aH H H'->Q .eZ H'))
theorem pZ {b7 aR bW aV:o?}(jB:mg "TooDeep"=j? (.ref aV))(lN:PySem.W.excIn K aV Um "ValueError.__new__"=true)(B:ia mg){t1 t2:Tok}(p_:mg "MOST_BASIS_DEGREE"=j? (.int 6 t1))(tD:mg "MOST_BASIS_SIZE"=j? (.int 24 t2))
  (AE:vf P w K mg base 5 "plain_size" jL (FH K b7 aR bW)) (F:Src K mg "refuse_for_basis" gv jL):vf P w K mg base 6 "refuse_for_basis" jL (Ci K b7 aR bW aV):=by
 refine F.U4 ji (λvs H Q E h=>?_) (λf cdv A outer s H vs Q E hr h=>?_)
 ·obtain⟨x,y,bp,bf,rfl,_⟩:=h;rfl
 obtain⟨x,y,bp,bf,rfl,pa,fa,q1,q2,q3⟩:=h;refine⟨_,ai (aD (i:=2) ji.nd rfl (z? rfl) (z8 AE Iw hr (af (pv 0) (af (pv 1) ah))))
  (au (cW (PW.pt (nh (aW yJ (av bO (aE (aN (K:=K) rfl) rfl B.len bI (af (pv 0) ah)) ak) (j4 (v:=.int 6) rfl p_ ⟨_,rfl⟩) (bD _)) (qv (aW yJ (pv 2) (j4 (v:=.int 24) rfl tD ⟨_,rfl⟩) (bD _)))))
   (au (sI sH rfl rfl jB lN PySem.F.excBase_ValueError rfl PySem.F.excBase_ValueError (af zC ah)))
   (bY))),?_⟩
 walk_at "rd"
 refine⟨x,y,bp,bf,rfl,pa,fa,q1,q2,λhb1 hb2 a ns p ex ha ey hp mf l2 Qk=>?_⟩
 obtain⟨dk,qn,qs⟩:=q3 hb1 hb2 a ns p ex ha ey hp mf l2 Qk;subst ex ey;refine⟨dk,qn,λv hv d0 H1 g1=>?_⟩
 obtain⟨qd,qo⟩:=qs v hv d0;refine⟨_,rfl,a,_,rfl,.inl (aP.of (g1 _ _ ha)),?_⟩
 rw[Ya];refine⟨_,_,rfl,rfl,_,_,rfl,rfl,_,rfl,fU (λc=>?_) (λc=>?_)⟩
 ·have c':=Jb c
  exact jE ⟨by rw[C?];decide,λea _=>qd (.inl (by omega)) ea H1 g1⟩
 ·have c':¬ (6:Int)<(ns.length:Int)-1:=λz=>c (Ja z)
  refine⟨_,rfl,_,_,rfl,rfl,_,rfl,fU (λd=>?_) (λd=>?_)⟩
  ·have d':=Jb d
   exact⟨by rw[C?];decide,λea _=>qd (.inr (by omega)) ea H1 g1⟩
  ·have d':¬ (24:Int)<(v:Int):=λz=>d (Ja z)
   exact qo (by omega) (by omega) H1 g1
end
theorem MT {n m:Nat}{v:Vc}(h:m<=n):(lv n v).take m=lv m v:=by
 unfold lv;rw[<- List.map_take,List.take_range,Nat.min_eq_left h]
structure MU (H:Hp)(ok:o?->Prop)(n d:Nat)(T:Nat->Vc)(s:Nat->Nat)(vs:List V):Prop where
 len:vs.length=n
 at_:∀i,i<n->∃t l,vs[i]?=j? (.ref t)/\H t=j? (.tup [.ref l,.int ((d-s i:Nat):Int)])/\H l=j? (.lst ((lv (i+1) λj=>T i j / T i i).map V.int))/\ok l
def AF (K:bE)(Pp C1 C2 C3 C4:o?):Sp:=λvs H Q E=>∃(x y:V) (bp bf:Bool),vs=[x,y]/\qu K H y bp/\oB K H x bf/\fj fR Pp H/\(bp=false->Rz C1 H E)/\(bp=true->bf=false->Rz C2 H E)/\
 (bp=true->bf=true->∀(a:o?) (ns:List Int) (p:Nat),x=.ref a->H a=j? (.lst (ns.map V.int))->y=.int (p:Int)->p∈PR->L2.dR ns->2<=ns.length->ns.length<=13->del H Pp a=j? (.lst (ns.map V.int))/\AD ns/\(dN ns=0->Rz C3 H E)/\∀v:Nat,fq (p:Int) (dN ns) v->dN ns≠0->(7<ns.length\/24<v->Rz C4 H E)/\
  (ns.length<=7->v<=24->∀(R:Type) (_:Lean.Grind.CommRing R) (φ:Vc->R) (ip:R) (d k:Nat) (T:Nat->Vc) (s:Nat->Nat) r vs H',cF H Pp H'->fj fR Pp H'->Xr (aq ns) (ns.length-1) p φ ip->gy (ns.length-1) p φ ip d T s->MulOk (ns.length-1) p (kC (ns.length-1) φ ip d T) ip k 0 (λ_ _=>0)->d<=12->H r=q?->del H' Pp r=j? (.lst vs)->MU (del H' Pp) (λl=>H l=q?/\l≠r) (ns.length-1) d T s vs->Q (.ref r) H'))
section
theorem xJ {aC b7 aR bW aV:o?}(B:ia mg)(qX:vf P w K mg base 6 "refuse_for_basis" jL (Ci K b7 aR bW aV))(MV:b_ P w K mg base 10 "grown" jL (FF K aC))(eG:b_ P w K mg base 2 "size_of_number" sU vN)(F:Src K mg "whole_basis" iR jL):vf P w K mg base 11 "whole_basis" jL (AF K aC b7 aR bW aV):=by
 refine F.U4 dG (λvs H Q E h=>?_) (λf cdv A outer s H vs Q E hr h=>?_)
 ·obtain⟨x,y,bp,bf,rfl,_⟩:=h;rfl
 obtain⟨x,y,bp,bf,rfl,pa,fa,tq,q1,q2,q3⟩:=h;refine⟨_,ai (d8 (z8 qX Iw hr (af (pv 0) (af (pv 1) ah))))
  (ai (ko (aF MV hr (af (pv 0) (af (pv 1) ah))) (cP (n:=2) (K:=K) rfl rfl (aS (aB (i:=2) dG.nd rfl (z? rfl)) (aS (aB (i:=3) dG.nd rfl (z? rfl)) cO))))
  (ai (aD (i:=4) dG.nd rfl (z? rfl) (bF ah))
  (ai (cD R0 rfl (iX (K:=K) rfl rfl B.enumerate (af (pv 2) ah)) (cP (n:=2) (K:=K) rfl rfl (aS (aB (i:=5) dG.nd rfl (z? rfl)) (aS (aB (i:=6) dG.nd rfl (z? rfl)) cO)))
   (ai (aD (i:=7) dG.nd rfl (Or.inr rfl) (bC (aG (K:=K) rfl) (pv 6) (pv 5) (λ_ _=>rfl)))
   (au (d8 (qg R? F! G! dO (pv 4) (af (i8 (af (b8 (aI (N:=["number","lead"]) (sl:=[q?,j? 7]) (ao iR) XS rfl rfl (by decide +kernel)) rfl (bM (K:=K) rfl (eW (eX (K:=K) rfl) (pv 6) gb (gc (av b9 (pv 5) ak)))) (λ_ _ _ _ _=>(aB (i:=0) (Yk_ ["number","lead"]) rfl (z? rfl))) (λ_ _ _ _ _=>aU) (λ_ _ _ _ _=>(av bU (pv 0) (pv 1)))) (af (av bO (pv 3) (aF eG hr (af (pv 7) (af (pv 1) ah)))) ah))) ah))))))
  (au (aJ (pv 4)))))),?_⟩
 walk_at "rd"
 refine⟨x,y,bp,bf,rfl,pa,fa,q1,q2,λhb1 hb2 a ns p ex ha ey hp mf l2 Qk=>?_⟩
 obtain⟨hda,dk,qn,qs⟩:=q3 hb1 hb2 a ns p ex ha ey hp mf l2 Qk;subst ex ey;refine⟨dk,qn,λv hv d0=>⟨(qs v hv d0).1,λl7 ZM H1 g1=>?_⟩⟩
 have qo:=(qs v hv d0).2 l7 ZM;have pp:=cY hp;obtain⟨n,hn⟩:∃n,ns.length=n+1:=⟨ns.length-1,by omega⟩
 have en:ns.length-1=n:=by omega
 rw[en] at qo;obtain⟨m,em,nd⟩:=hv.Xn;have ZN:tg n=1\/tg n=-1:=by
  obtain⟨t1,t2⟩:=NN n (by omega)
  by_cases c:n*(n-1) / 2 % 2=1
  ·exact .inr (t1 c)
  ·exact .inl (t2 c)
 have eD:(det n λi j=>rr (aq ns) n (aq (dl ns)) (dl ns).length i j)=(p:Int) ^ v*(tg n*m):=by
  have e1:tg n*(det n λi j=>rr (aq ns) n (aq (dl ns)) (dl ns).length i j)=(p:Int) ^ v*m:=by rw[<- em];unfold dN;rw[en]
  rcases ZN with h|h
  ·rw[h] at e1 ⊢;grind
  ·rw[h] at e1 ⊢;grind
 have nd':¬ (p:Int) ∣ tg n*m:=λ⟨c,e⟩=>nd (by
  rcases ZN with h|h
  ·exact⟨c,by rw[h] at e;grind⟩
  ·exact⟨-c,by rw[h] at e;grind⟩)
 have n1:cF H aC H1:=cF.of g1;obtain⟨ps,NU,_⟩:=id (tq.same g1);refine⟨_,rfl,_,rfl,a,ns,n,p,v,tg n*m,rfl,hp,n1.del _ _ hda,hn,by omega,by omega,mf,dk.1,eD,nd',ZM,tq.same g1,λR ri φ ip d k T s r t H2 n2 SV X G M Uo ht ett rr=>?_⟩
 have VX:=(cu ett).2;obtain⟨ps2,Rf,_⟩:=id SV;refine⟨t,_,rfl,jv.of VX,rfl,_,_,rfl,_,_,rfl,rfl,?_⟩
 refine⟨aZ rfl,λtp S5=>?_⟩
 have k3:=aA S5 (.lst []);have ZO:(L2.upd H2 tp (.lst [])) tp=j? (.lst []):=ay;generalize L2.upd H2 tp (.lst [])=H3 at k3 ZO;have rH2:Rep H2 Any r (mE n n T):=rr.any.same (fz _ _);obtain⟨lr,us,rfl,hlr,_,C⟩:=id rH2.cf;have VY:cF H aC H2:=n1.trans n2;have ftp:H tp=q?:=VY.fresh ⟨_,Rf⟩ S5;have Q_:tp≠aC:=λz=>by rw[z,Rf] at S5;cases S5
 refine⟨_,rfl,lr,rfl,⟨_,aP.of (k3 _ _ hlr)⟩,lB (st:=0) (xs:=us) (λi σ H4=>aH H2 H4/\∃(ys:List V) (o1 o2 o3:Option V),σ=[Rq a,Iq (p),Rq lr,Iq (d),Rq tp,o1,o2,o3]/\H4 tp=j? (.lst ys)/\ys.length=i/\∀j,j<i->∃t l,ys[j]?=j? (.ref t)/\H4 t=j? (.tup [.ref l,.int ((d-s j:Nat):Int)])/\H4 l=j? (.lst ((lv (j+1) λq=>T j q / T j j).map V.int))/\t≠tp/\l≠tp/\H2 t=q?/\H2 l=q?)
  ⟨k3,[],_,_,_,rfl,ZO,rfl,λj hj=>Jf hj (Wm _)⟩ (λi σ H4 _ h=>aP.of (h.1 _ _ hlr)) ?_ ?_⟩
 ·rintro i vx σ H4 r5 lJ ⟨g4,ys,o1,o2,o3,rfl,e4,ly,hys⟩ nr5
  obtain⟨hi,ri⟩:=C.get lJ;obtain⟨lx,rfl,hlx,_⟩:=dU ri;rw[W2];have k5:=aA nr5 (.tup [.int (i:Int),.ref lx]);have e5:(L2.upd H4 r5 (.tup [.int (i:Int),.ref lx])) r5=j? (.tup [.int (i:Int),.ref lx]):=ay;generalize L2.upd H4 r5 (.tup [.int (i:Int),.ref lx])=H5 at k5 e5;have g5:=g4.trans k5;refine⟨r5,_,rfl,jv.of e5,rfl,_,_,rfl,_,_,rfl,rfl,?_⟩
  refine⟨_,rfl,_,rfl,lx,_,_,_,rfl,rfl,aP.of (g5 _ _ hlx),nv hi,?_⟩
  refine⟨_,rfl,.inl ⟨rfl,_,aP.of (k5 _ _ e4)⟩,?_⟩
  refine⟨_,rfl,_,rfl,_,_,rfl,rfl,_,rfl,lx,_,rfl,aP.of (g5 _ _ hlx),λl6 n6=>?_⟩
  rw[show iw ((lv n (T i)).map V.int) q? (j? ((i:Int)+1))=(lv (i+1) (T i)).map V.int from by
   rw[show(i:Int)+1=((i+1:Nat):Int) by omega,xx (by rw[Ya,aQ];omega),<- List.map_take,MT (by omega)]]
  have k6:=aA n6 (.lst ((lv (i+1) (T i)).map V.int));have e6:(L2.upd H5 l6 (.lst ((lv (i+1) (T i)).map V.int))) l6=j? (.lst ((lv (i+1) (T i)).map V.int)):=ay;generalize L2.upd H5 l6 (.lst ((lv (i+1) (T i)).map V.int))=H6 at k6 e6;obtain⟨ZP,sle⟩:=G.pw i hi;have tpos:0<T i i:=by rw[ZP];exact Z9 (by omega)
  have bTi:Bd 200 (T i i):=by
   have:=G.oV i i hi hi
   exact Bd.le (y:=(p:Int) ^ d) (by omega) (zx hp (by omega))
  refine⟨l6,rfl,⟨_,aP.of e6⟩,λD hD=>?_⟩
  refine nW (λj=>.num (T i j / T i i)) (n:=i+1) (by rw[Ya,aQ]) e6 hD (by omega) (λj vz H7 Q2 hj g7 SO q2=>?_) λH7 g7 Lo=>?_
  ·obtain⟨y1,hy1,rfl⟩:=a_ SO
   rw[cZ hj] at hy1;cases hy1;refine⟨_,rfl,_,rfl,_,_,rfl,rfl,bTi.dv (by omega),?_⟩
   show Q2 (V.int ((T i j).fdiv (T i i))) H7
   rw[Zl _ (by omega)]
   exact q2 _ H7 (aH.refl _) (.num _)
  ·obtain⟨lD,eD',MW,nD⟩:=dU Lo
   cases eD';refine⟨_,rfl,_,rfl,_,rfl,T i i,(p:Int),rfl,by omega,by omega,λz H8 g8 sv=>?_⟩
   have sz:z=.int (s i:Int):=by
    rcases sv with ⟨z0,_⟩|⟨_,v',hv',rfl⟩
    ·omega
    ·rw[hv'.uniq (fq.of (v:=s i) (m:=1) (by omega) (by rw[ZP,Wx]) (λh=>by have:=Int.le_of_dvd (by decide) h;omega))]
   subst sz;refine⟨_,_,rfl,rfl,aZ rfl,λt9 ZQ=>?_⟩
   generalize hX:L2.upd H8 t9 _=H9;have x9:=bJ ZQ hX;clear hX;have k9:=x9.1;have e9:H9 t9=j? (.tup [.ref D,.int ((d-s i:Nat):Int)]):=by
    rw[x9.2];show j? (HO.tup [V.ref D,V.int ((d:Int)-(s i:Int))])=_
    rw[show(d:Int)-(s i:Int)=((d-s i:Nat):Int) by omega]
   have MM:=(((k5.trans k6).trans g7).trans g8).trans k9;have e49:=MM _ _ e4;refine⟨tp,_,_,rfl,rfl,e49,by rw[ly,C?];omega,?_⟩
   have VZ:H4 D=q?:=(k5.trans k6).free hD;have V1:H4 t9=q?:=(((k5.trans k6).trans g7).trans g8).free ZQ;have ZR:D≠tp:=λz=>by rw[z,e4] at VZ;cases VZ
   have ZS:t9≠tp:=λz=>by rw[z,e4] at V1;cases V1
   refine⟨(g4.trans MM).bw S5 _,_,_,_,_,rfl,ay,by rw[Yk,ly];rfl,λj hj=>?_⟩
   by_cases c:j=i
   ·subst c
    refine⟨t9,D,by rw[<- ly,List.getElem?_concat_length],by rw[aO ZS];exact e9,by rw[aO ZR];exact k9 _ _ (g8 _ _ MW),ZS,ZR,g4.free V1,g4.free VZ⟩
   ·obtain⟨t',l',h1,h2,h3,h4,h5,h6,h7⟩:=hys j (by omega)
    exact⟨t',l',by rw[Y2 (by omega)];exact h1,by rw[aO h4];exact MM _ _ h2,by rw[aO h5];exact MM _ _ h3,h4,h5,h6,h7⟩
 ·rintro σ H4 ⟨g4,ys,o1,o2,o3,rfl,e4,ly,hys⟩
  rw[C.len] at ly hys;have nP:∀b,H2 b=q?->b≠aC:=λb hb z=>by rw[z,Rf] at hb;cases hb
  refine⟨_,rfl,qo R ri φ ip d k T s tp ys H4 (VY.trans (cF.of g4)) (SV.same g4) X G M Uo ftp (by rw[jK Q_];exact e4) ⟨ly,λi hi=>?_⟩⟩
  obtain⟨t',l',h1,h2,h3,h4,h5,h6,h7⟩:=hys i hi;exact⟨t',l',h1,by rw[jK (nP _ h6)];exact h2,by rw[jK (nP _ h7)];exact h3,VY.fresh ⟨_,Rf⟩ h7,h5⟩
end
section
theorem AH (B:ia mg)(F:Src K mg "_law_trimmed" oj DP):b_ P w K mg base 1 "_law_trimmed" DP (qT K):=by
 refine F.ok mL (λvs H Q E h=>?_) (λf cdv A outer s H vs Q E hr h=>?_)
 ·obtain⟨a,f,rfl,_⟩:=h;rfl
 obtain⟨a,f,rfl,hS,hlen,q⟩:=h;refine⟨_,ai (aD (i:=1) mL.nd rfl (z? rfl) (aE (aN (K:=K) rfl) rfl B.len bI (af (pv 0) ah)))
  (ai (eV D? (PW.pt (Hs (aW yJ (pv 1) ak (bD _)) (EI (aW iV (bC (aG (K:=K) rfl) (pv 0) (av bO (pv 1) ak) (λ_ _=>rfl)) ak (bD _)))))
   (au (aD (i:=1) mL.nd rfl (z? rfl) (av bO (pv 1) ak))))
  (au (aJ (kZ gP rfl B.list j6 (af (eW (eX (K:=K) rfl) (pv 0) gb (gc (pv 1))) ah))))),?_⟩
 refine⟨_,rfl,a,_,rfl,.inl hS,?_⟩
 rw[Ya];have fin:∀(k:Nat) H2,aH H H2->k<=f.length->ie f f.length=ie f k->ie f k=k->∀p,H2 p=q?->∃p2 ys,[V.ref p]=[.ref p2]/\(aP K (upd H2 p (.lst (iw (f.map V.int) q? (j? (k:Int))))) p2 ys\/jv K (upd H2 p (.lst (iw (f.map V.int) q? (j? (k:Int))))) p2 ys)/\
   ∀l,upd H2 p (.lst (iw (f.map V.int) q? (j? (k:Int)))) l=q?->Q (.ref l) (upd (upd H2 p (.lst (iw (f.map V.int) q? (j? (k:Int))))) l (.lst ys)):=λk H2 g hk e1 e2 p hp=>by
  refine⟨p,_,rfl,.inl (aP.of ay),λl hl=>?_⟩
  rw[tV f k hk] at hl ⊢;refine q l _ ((g.trans (aA hp _)).trans (aA hl _)) ((g.trans (aA hp _)).free hl) ?_
  unfold trim;rw[e1,e2];exact ay
 refine jH (λσ H2=>H2=H/\∃k:Nat,σ=[Rq a,j? (.int k)]/\k<=f.length/\ie f f.length=ie f k) (λσ _=>match σ with | [_,j? (.int k)]=>k.toNat|_=>0) ⟨rfl,f.length,rfl,Yd _,rfl⟩ ?_
 rintro σ H2 ⟨rfl,k,rfl,hk,ht⟩;refine⟨_,rfl,_,_,rfl,rfl,_,rfl,fU (λc=>?_) (λc=>?_)⟩
 ·have c':(0:Int)<k:=Jb c
  obtain⟨m,rfl⟩:∃m,k=m+1:=⟨k-1,by omega⟩
  refine⟨_,rfl,_,rfl,_,_,rfl,rfl,a,_,_,_,rfl,rfl,hS,eK (by omega) (by omega),rfl,_,rfl,?_⟩
  have em:(((m+1:Nat):Int)-1).toNat=m:=by omega
  rw[em];refine fU (λc=>?_) (λc=>?_)
  ·have c2:aq f m=0:=V.int.inj (Jb c)
   refine win ⟨_,rfl,_,_,rfl,rfl,⟨rfl,m,?_,by omega,?_⟩,?_⟩
   ·have e:((m+1:Nat):Int)-1=(m:Int):=by omega
    show [j? (V.ref a),j? (V.int (((m+1:Nat):Int)-1))]=_
    rw[e]
   ·exact ht.trans (by show(if aq f m=0 then ie f m else m+1)=_;rw[W9 c2])
   ·show(((m+1:Nat):Int)-1).toNat<(((m+1:Nat):Int)).toNat
    omega
  ·have c2:aq f m≠0:=λz=>c (Ja (Jd V.int z))
   exact⟨_,rfl,_,rfl,_,rfl,a,_,rfl,hS,fin (m+1) _ (aH.refl _) hk ht (by show(if aq f m=0 then ie f m else m+1)=_;rw[W8 c2])⟩
 ·have c':k=0:=by
   have:¬ (0:Int)<k:=λz=>c (Ja z)
   omega
  subst c';refine gp ?_
  exact⟨_,rfl,_,rfl,_,rfl,a,_,rfl,hS,fin 0 _ (aH.refl _) hk ht rfl⟩
end
def oE (K:bE):Sp:=λvs H Q _=>∃(a b:o?) (f g:List Int),vs=[.ref a,.ref b]/\aP K H a (f.map V.int)/\aP K H b (g.map V.int)/\f.length<=400/\g.length<=400/\f6 1000000 f/\f6 1000000 g/\OV H Q (trim (ee f g))
def FI (K:bE):Sp:=λvs H Q _=>∃(a b:o?) (f g:List Int),vs=[.ref a,.ref b]/\H a=j? (.lst (f.map V.int))/\H b=j? (.lst (g.map V.int))/\f.length<=1000/\g.length<=1000/\OV H Q (r_ f g)
section
def xK (f g:List Int):List Int:=(Ym (f.length+g.length)).map (conv f g)
theorem Cj (f g:List Int):trim (xK f g)=trim (ee f g):=H_ λi=>by
 rw[oZ];unfold xK;exact gf (λi hi=>nO f g i (by omega)) i
theorem Ec (B:ia mg)(iZ:b_ P w K mg base 1 "_law_trimmed" DP (qT K))(F:Src K mg "_law_times" ue nA):b_ P w K mg base 2 "_law_times" nA (oE K):=by
 refine F.ok mO (λvs H Q E h=>?_) (λf cdv A outer s H vs Q E hr h=>?_)
 ·obtain⟨a,b,f,g,rfl,_⟩:=h;rfl
 obtain⟨a,b,f,g,rfl,ha,hb,lf,lg,bf,bg,q⟩:=h;refine⟨_,ai (aD (i:=2) mO.nd rfl (z? rfl) (av lW (bF (af ak ah)) (av b9 (aE (aN (K:=K) rfl) rfl B.len bI (af (pv 0) ah)) (aE (aN (K:=K) rfl) rfl B.len bI (af (pv 1) ah)))))
  (ai (cD D? rfl (bN rfl B.range (af (aE (aN (K:=K) rfl) rfl B.len bI (af (pv 0) ah)) ah)) (aB (i:=3) mO.nd rfl (z? rfl))
   (au (cD D? rfl (bN rfl B.range (af (aE (aN (K:=K) rfl) rfl B.len bI (af (pv 1) ah)) ah)) (aB (i:=4) mO.nd rfl (z? rfl))
    (au (ko (av b9 (bC (aG (K:=K) rfl) (pv 2) (av b9 (pv 3) (pv 4)) (λ_ _=>rfl)) (av aX (bC (aG (K:=K) rfl) (pv 0) (pv 3) (λ_ _=>rfl)) (bC (aG (K:=K) rfl) (pv 1) (pv 4) (λ_ _=>rfl)))) (Hu (pv 2) (av b9 (pv 3) (pv 4)) set_list))))))
  (au (aJ (aF iZ hr (af (pv 2) ah))))),?_⟩
 refine⟨aZ rfl,λp3 n3=>?_⟩
 have g3:=aA n3 (.lst [.int 0]);refine⟨_,rfl,a,_,rfl,.inl (g3.seq ha),_,rfl,b,_,rfl,.inl (g3.seq hb),?_⟩
 rw[Ya,Ya];have en:((f.length:Int)+(g.length:Int))=((f.length+g.length:Nat):Int):=by omega
 refine⟨_,_,rfl,rfl,p3,_,_,rfl,rfl,ay,by omega,by omega,?_,λp hp=>?_⟩
 ·rw[C?];show 1*_<=_;omega
 rw[en,Yf,sr];have g4:=g3.trans (aA hp (.lst ((Yi (f.length+g.length) (0:Int)).map V.int)));have f4:H p=q?:=g3.free hp;refine⟨_,rfl,a,_,rfl,.inl (g4.seq ha),?_⟩
 rw[Ya];refine⟨_,rfl,by omega,by omega,cH (λi σ H2=>aH H H2/\∃(P:List Int) (o1 o2:Option V),σ=[Rq a,Rq b,Rq p,o1,o2]/\H2 p=j? (.lst (P.map V.int))/\P.length=f.length+g.length/\∀m,m<P.length->aq P m=fZ f g i m)
  ⟨g4,_,_,_,rfl,ay,by simp,λm hm=>cM _ _⟩ ?_ ?_⟩
 ·rintro i σ H2 hi ⟨gg,P,o1,o2,rfl,eP,lP,hP⟩
  have hi':i<f.length:=by omega
  refine⟨_,rfl,b,_,rfl,.inl (gg.seq hb),?_⟩
  rw[Ya];refine⟨_,rfl,by omega,by omega,cH (λj σ H2=>aH H H2/\∃(P:List Int) (o2:Option V),σ=[Rq a,Rq b,Rq p,j? (.int (0+(i:Int))),o2]/\H2 p=j? (.lst (P.map V.int))/\P.length=f.length+g.length/\∀m,m<P.length->aq P m=qh f g i j m)
   ⟨gg,P,_,rfl,eP,lP,λm hm=>by rw[wo];exact hP m hm⟩ ?_ ?_⟩
  ·rintro j σ H3 hj ⟨gg,P,o2,rfl,eP,lP,hP⟩
   have hj':j<g.length:=by omega
   have NJ:((0+(i:Int))+(0+(j:Int)))=((i+j:Nat):Int):=by omega
   have hij:i+j<P.length:=by omega
   have ei:((0:Int)+(i:Int)).toNat=i:=by omega
   have ej:((0:Int)+(j:Int)).toNat=j:=by omega
   have b1:Bd 1000000 (aq f ((0:Int)+(i:Int)).toNat):=bf.aq _;have b2:Bd 1000000 (aq g ((0:Int)+(j:Int)).toNat):=bg.aq _;refine⟨_,rfl,_,rfl,_,rfl,_,_,rfl,rfl,p,_,_,_,rfl,rfl,aP.of eP,eK (by omega) (by omega),?_⟩
   refine⟨_,rfl,_,rfl,a,_,_,_,rfl,rfl,gg.seq ha,eK (by omega) (by omega),_,rfl,_,rfl,b,_,_,_,rfl,rfl,gg.seq hb,eK (by omega) (by omega),_,_,rfl,rfl,xA b1 b2,_,_,rfl,rfl,?_⟩
   refine⟨_,rfl,_,rfl,_,rfl,_,_,rfl,rfl,p,_,_,i+j,rfl,rfl,eP,?_,?_⟩
   ·rw[NJ,Ya];exact vC (by omega) (by omega)
   rw[NJ,Yf,ei,ej];refine⟨gg.bw f4 _,P.set (i+j) (aq P (i+j)+aq f i*aq g j),_,rfl,?_,by rw[Wv];exact lP,λm hm=>?_⟩
   ·rw[<- j8];exact ay
   ·rw[Wv] at hm
    rw[nN hij,wu,hP m hm];split
    ·rename_i h;subst h;rw[hP _ hm]
    ·rfl
  ·rintro σ H3 ⟨gg,P,o2,rfl,eP,lP,hP⟩
   refine⟨gg,P,_,_,rfl,eP,lP,λm hm=>?_⟩
   rw[<- yX];have:=hP m hm
   rw[Yf] at this;exact this
 ·rintro σ H2 ⟨gg,P,o1,o2,rfl,eP,lP,hP⟩
  have e:P=xK f g:=by
   refine rX ?_ λm hm=>?_
   ·unfold xK;rw[Ya,Yg];exact lP
   ·unfold xK
    rw[nM (by omega),hP m hm,Yf]
    rfl
  subst e;refine⟨_,rfl,p,_,rfl,aP.of eP,by omega,λp2 H3 g3 n3 e3=>?_⟩
  rw[Cj] at e3;exact q p2 H3 (gg.trans g3) (gg.free n3) e3
theorem GX (B:ia mg)(iZ:b_ P w K mg base 1 "_law_trimmed" DP (qT K))(F:Src K mg "_law_plus" sX nA):b_ P w K mg base 2 "_law_plus" nA (FI K):=by
 refine F.ok pK (λvs H Q E h=>?_) (λf cdv A outer s H vs Q E hr h=>?_)
 ·obtain⟨a,b,f,g,rfl,_⟩:=h;rfl
 obtain⟨a,b,f,g,rfl,ea,eb,lf,lg,q⟩:=h;have ha:aP K H a (f.map V.int):=aP.of ea;have hb:aP K H b (g.map V.int):=aP.of eb;refine⟨_,ai (aD (i:=2) pK.nd rfl (z? rfl) (aE (yK rfl) rfl B.«max» De (af (aE (aN (K:=K) rfl) rfl B.len bI (af (pv 0) ah)) (af (aE (aN (K:=K) rfl) rfl B.len bI (af (pv 1) ah)) ah))))
  (ai (aD (i:=3) pK.nd rfl (Or.inr rfl) (av gm (pv 0) (av lW (bF (af ak ah)) (av bO (pv 2) (aE (aN (K:=K) rfl) rfl B.len bI (af (pv 0) ah))))))
  (ai (aD (i:=4) pK.nd rfl (Or.inr rfl) (av gm (pv 1) (av lW (bF (af ak ah)) (av bO (pv 2) (aE (aN (K:=K) rfl) rfl B.len bI (af (pv 1) ah))))))
  (au (aJ (aF iZ hr (af (b8 (aI (N:=["_law_k","_law_one","_law_other"]) (sl:=[q?,j? 3,j? 4]) (ao sX) XR rfl rfl (by decide +kernel)) rfl (bN rfl B.range (af (pv 2) ah)) (λ_ _ _ _ _=>(aB (i:=0) (Yk_ ["_law_k","_law_one","_law_other"]) rfl (z? rfl))) (λ_ _ _ _ _=>aU) (λ_ _ _ _ _=>(av b9 (bC (aG (K:=K) rfl) (pv 1) (pv 0) (λ_ _=>rfl)) (bC (aG (K:=K) rfl) (pv 2) (pv 0) (λ_ _=>rfl))))) ah)))))),?_⟩
 refine⟨_,rfl,a,_,rfl,.inl ha,_,rfl,b,_,rfl,.inl hb,_,_,rfl,?_⟩
 rw[Ya,Ya];have em:(if ((g.length:Nat):Int) > ((f.length:Nat):Int) then ((g.length:Nat):Int) else ((f.length:Nat):Int))=((max f.length g.length:Nat):Int):=by split <;> omega
 rw[em];refine⟨_,rfl,aZ rfl,λp1 n1=>?_⟩
 have g1:=aA n1 (.lst [.int 0]);refine⟨_,rfl,_,rfl,a,_,rfl,.inl (g1.seq ha),?_⟩
 rw[Ya];have e1:(((max f.length g.length:Nat):Int)-((f.length:Nat):Int))=((max f.length g.length-f.length:Nat):Int):=by omega
 refine⟨_,_,rfl,rfl,p1,_,_,rfl,rfl,ay,by omega,by omega,?_,λp2 n2=>?_⟩
 ·rw[C?];show 1*_<=_;omega
 rw[e1,Yf,sr] at*;have g2:=g1.trans (aA n2 (.lst ((Yi (max f.length g.length-f.length) (0:Int)).map V.int)));refine⟨a,p2,_,_,rfl,rfl,g2 _ _ ea,ay,?_,λp3 n3=>?_⟩
 ·rw[Ya,Ya,Yp,C?];omega
 rw[<- Yt] at*;have g3:=g2.trans (aA n3 (.lst ((f++Yi (max f.length g.length-f.length) (0:Int)).map V.int)));refine⟨_,rfl,aZ rfl,λp4 n4=>?_⟩
 have k4:=aA n4 (.lst [.int 0]);have g4:=g3.trans k4;refine⟨_,rfl,_,rfl,b,_,rfl,.inl (g4.seq hb),?_⟩
 rw[Ya];have e2:(((max f.length g.length:Nat):Int)-((g.length:Nat):Int))=((max f.length g.length-g.length:Nat):Int):=by omega
 refine⟨_,_,rfl,rfl,p4,_,_,rfl,rfl,ay,by omega,by omega,?_,λp5 n5=>?_⟩
 ·rw[C?];show 1*_<=_;omega
 rw[e2,Yf,sr] at*;have k5:=aA n5 (.lst ((Yi (max f.length g.length-g.length) (0:Int)).map V.int));have g5:=g4.trans k5;refine⟨b,p5,_,_,rfl,rfl,g5 _ _ eb,ay,?_,λp6 n6=>?_⟩
 ·rw[Ya,Ya,Yp,C?];omega
 rw[<- Yt] at*;have k6:=aA n6 (.lst ((g++Yi (max f.length g.length-g.length) (0:Int)).map V.int));have g6:=g5.trans k6;have s3:∀ {H7:Hp},aH (upd (upd (upd (upd (upd (upd H p1 (.lst [.int 0])) p2 (.lst ((Yi (max f.length g.length-f.length) (0:Int)).map V.int))) p3 (.lst ((f++Yi (max f.length g.length-f.length) (0:Int)).map V.int))) p4 (.lst [.int 0])) p5 (.lst ((Yi (max f.length g.length-g.length) (0:Int)).map V.int))) p6 (.lst ((g++Yi (max f.length g.length-g.length) (0:Int)).map V.int))) H7->
   aP K H7 p3 ((f++Yi (max f.length g.length-f.length) (0:Int)).map V.int)/\aP K H7 p6 ((g++Yi (max f.length g.length-g.length) (0:Int)).map V.int):=λs7=>⟨aP.of (s7 _ _ (k6 _ _ (k5 _ _ (k4 _ _ ay)))),aP.of (s7 _ _ ay)⟩
 refine⟨_,rfl,_,rfl,by omega,by omega,λD hD=>?_⟩
 rw[Yf];refine jF (λi ys H2=>aH _ H2/\ys=((Ym i).map λi=>aq f i+aq g i).map V.int) ⟨aA hD _,rfl⟩ ?_ ?_
 ·rintro i m ys H2 hm hi hy hlen ⟨gg,rfl⟩
  obtain⟨z1,z2⟩:=s3 gg;have ei:((0:Int)+(i:Int)).toNat=i:=by omega
  refine⟨_,rfl,_,rfl,p3,_,_,_,rfl,rfl,z1,eK (by omega) (by rw[Yk,Yp];omega),_,rfl,_,rfl,p6,_,_,_,rfl,rfl,z2,eK (by omega) (by rw[Yk,Yp];omega),_,_,rfl,rfl,?_⟩
  rw[ei,Bk,Bk];refine CW.emit hm hi (by rw[C?];omega) hy hlen ⟨aH.bw gg hD _,?_⟩
  rw[Ww,Yt,Yt];rfl
 ·rintro ys H2 hy ⟨gg,rfl⟩
  have gA:=g6.trans gg;refine⟨D,Ia f g,rfl,aP.of hy,by unfold Ia;rw[Ya,Yg];omega,λp H' g' n' e'=>q p H' (gA.trans g') (gA.free n') e'⟩
end
def KC (K:bE):Sp:=λvs H Q _=>∃(a:o?) (ns:List Int) (k:Int),vs=[.ref a,.int k]/\aP K H a (ns.map V.int)/\0<=k/\∀n:Int,Q (.int n) H
def Ck (K:bE):Sp:=λvs H Q _=>∃(a:o?) (ns:List Int) (k:Int),vs=[.ref a,.int k]/\aP K H a (ns.map V.int)/\0<=k/\k<=100/\∀n:Int,Q (.int n) H
section
theorem Ed (B:ia mg)(F:Src K mg "_law_cell_at" oi xq):b_ P w K mg base 1 "_law_cell_at" xq (KC K):=by
 refine F.ok Am (λvs H Q E h=>?_) (λf cdv A outer s H vs Q E hr h=>?_)
 ·obtain⟨a,ns,k,rfl,_⟩:=h;rfl
 obtain⟨a,ns,k,rfl,hS,h0,q⟩:=h;refine⟨_,ai (cW (aW A7 (pv 1) (aE (aN (K:=K) rfl) rfl B.len bI (af (pv 0) ah)) (bD _))
   (au (aJ (bC (aG (K:=K) rfl) (pv 0) (pv 1) (λ_ _=>rfl))))
   (bY))
  (au (aJ ak)),?_⟩
 refine⟨_,rfl,_,rfl,a,_,rfl,.inl hS,_,_,rfl,rfl,_,rfl,?_⟩
 refine fU (λc=>?_) (λc=>?_)
 ·have hk:k<((ns.map V.int).length:Nat):=Jb c
  obtain⟨v,e,hm⟩:=EW (xs:=ns.map V.int) h0 hk;obtain⟨n,_,rfl⟩:=List.mem_map.mp hm;exact⟨_,rfl,_,rfl,_,_,_,_,rfl,rfl,hS,e,q n⟩
 ·exact q 0
theorem GY (B:ia mg)(kh:b_ P w K mg base 1 "_law_cell_at" xq (KC K))(F:Src K mg "_law_number" qP xq):b_ P w K mg base 2 "_law_number" xq (Ck K):=by
 refine F.ok fE (λvs H Q E h=>?_) (λf cdv A outer s H vs Q E hr h=>?_)
 ·obtain⟨a,ns,k,rfl,_⟩:=h;rfl
 obtain⟨a,ns,k,rfl,hS,h0,h1,q⟩:=h;refine⟨_,ai (cW (aW RD (aE A9 rfl B.abs HP (af (aF kh hr (af (pv 0) (af (pv 1) ah))) ah)) (av zE ak ak) (bD _))
   (au (aJ (aF kh hr (af (pv 0) (af (pv 1) ah)))))
   (bY))
  (ai (aD (i:=2) fE.nd rfl (z? rfl) (av b9 (av b9 (aF kh hr (af (pv 0) (af ak ah))) (av aX ak (pv 1))) (av aX ak (aF kh hr (af (pv 0) (af (pv 1) ah))))))
  (ai (aD (i:=2) fE.nd rfl (z? rfl) (av b9 (av bK (pv 2) ak) ak))
  (ai (aD (i:=3) fE.nd rfl (z? rfl) ak)
  (ai (cD D? rfl (bN rfl B.range (af ak ah)) (aB (i:=4) fE.nd rfl (z? rfl))
   (ai (aD (i:=2) fE.nd rfl (z? rfl) (av bK (av b9 (av b9 (av b9 (av aX (pv 2) ak) (av bU (pv 2) ak)) (av aX (av aX ak (pv 4)) (pv 4))) ak) ak))
   (au (aD (i:=3) fE.nd rfl (z? rfl) (av b9 (av aX (pv 3) ak) (av bK (av aX (pv 2) ak) ak))))))
  (au (aJ (pv 3))))))),?_⟩
 refine⟨_,rfl,_,rfl,a,ns,k,rfl,hS,h0,λn1=>?_⟩
 walk_at "rd"
 refine fU (λc=>?_) (λc=>?_)
 ·exact⟨_,rfl,_,rfl,a,ns,k,rfl,hS,h0,λn=>q n⟩
 refine⟨_,rfl,a,ns,0,rfl,hS,Int.le_refl 0,λn2=>?_⟩
 walk_at "rd"
 refine⟨a,ns,k,rfl,hS,h0,λn3=>?_⟩
 walk_at "rd"
 refine⟨by decide,by decide,cH (n:=12) (λi σ H2=>H2=H/\∃(x t:Int) (j:Option V),σ=[Rq a,j? (.int k),j? (.int x),j? (.int t),j]) ⟨rfl,_,_,_,rfl⟩ ?_ ?_⟩
 ·rintro i σ H2 hi ⟨rfl,x,t,j,rfl⟩
  have hj:nj (19*(0+(i:Int))) (0+(i:Int)):=lZ (by omega) (by omega)
  walk_at "rd"
  refine⟨hj,?_⟩
  walk_at "rd"
  exact⟨rfl,_,_,_,rfl⟩
 ·rintro σ H2 ⟨rfl,x,t,j,rfl⟩
  exact⟨_,rfl,q t⟩
end
def MX (n:Int):Prop:=n=1\/n=-1
theorem S6 (x:Int):∃n,qe [V.int 1,V.int (-1)] (x.fmod 2)=j? (.int n)/\MX n:=by
 have r:=iy x (y:=2) (by decide)
 refine pick r.1 r.2 ?_
 intro v hv;simp only[Wp,Z6,or_false] at hv
 rcases hv with rfl|rfl
 ·exact⟨_,rfl,.inl rfl⟩
 ·exact⟨_,rfl,.inr rfl⟩
theorem S7 {x s:Int}(h:MX s):nj x s:=by rcases h with rfl|rfl <;> exact lZ (by decide) (by decide)
theorem MX.bd {x s:Int}{m:Nat}(h:MX s)(hx:Bd m x):Bd m (x*s):=Bd.le (y:=x) (by rcases h with rfl|rfl <;> simp) hx
theorem Ql {x y:Int}{m:Nat}(hy:0<y)(h:Bd m y):Bd m (x.fmod y):=Bd.le (y:=y) (by have:=iy x hy;omega) h
def FJ:Sp:=λvs H Q _=>∃c m k:Int,vs=[.int c,.int m,.int k]/\0<=m/\m<=100/\k=1/\∀f:List Int,Norm f->f6 5 f->(f.length:Int)<=m+1->OV H Q f
section
theorem Ef (B:ia mg)(iZ:b_ P w K mg base 1 "_law_trimmed" DP (qT K))(F:Src K mg "_law_poly" xu JI):b_ P w K mg base 2 "_law_poly" JI FJ:=by
 refine F.ok iG (λvs H Q E h=>?_) (λf cdv A outer s H vs Q E hr h=>?_)
 ·obtain⟨c,m,k,rfl,_⟩:=h;rfl
 obtain⟨c,m,k,rfl,h0,h1,hk,q⟩:=h;refine⟨_,ai (aD (i:=3) iG.nd rfl (z? rfl) (bF ah))
  (ai (aD (i:=4) iG.nd rfl (z? rfl) (av bK (pv 0) (av b9 (pv 1) ak)))
  (ai (aD (i:=5) iG.nd rfl (z? rfl) (av bU (pv 0) (av b9 (pv 1) ak)))
  (ai (aD (i:=6) iG.nd rfl (z? rfl) (bC (aG (K:=K) rfl) (bF (af ak (af ak (af (av zE ak ak) (af (av zE ak ak) ah))))) (av bK (pv 2) ak) (λ_ _=>rfl)))
  (ai (cD D? rfl (bN rfl B.range (af (pv 4) ah)) (aB (i:=7) iG.nd rfl (z? rfl))
   (ai (d8 (qg R? F! G! dO (pv 3) (af (av aX (av bK (pv 5) (pv 6)) (bC (aG (K:=K) rfl) (bF (af ak (af (ni i7 ak) ah))) (av bK (av bU (pv 5) (pv 6)) ak) (λ_ _=>rfl))) ah)))
   (au (aD (i:=5) iG.nd rfl (z? rfl) (av bU (av bU (pv 5) (pv 6)) ak)))))
  (au (aJ (aF iZ hr (af (pv 3) ah)))))))),?_⟩
 refine⟨aZ rfl,λp hp=>?_⟩
 have g1:=aA hp (.lst []);refine⟨_,rfl,_,rfl,_,_,rfl,rfl,_,_,rfl,rfl,show m+2≠0 by omega,?_⟩
 refine⟨_,rfl,_,rfl,_,_,rfl,rfl,_,_,rfl,rfl,(Bd.small (by omega) (by omega)).dv (show m+2≠0 by omega),?_⟩
 walk_at "rd"
 intro p1 n1;walk_at "rd"
 obtain⟨bs,hbs,hb1,hb2⟩:∃bs:Int,qe [V.int 7,V.int 19,V.int (10 ^ 6),V.int (10 ^ 55)] (k.fmod 4)=j? (.int bs)/\0<bs/\Bd 5 bs:=by
  subst hk;exact⟨19,rfl,by decide,show Zm _<2 ^ 5 by decide⟩
 refine⟨p1,_,_,_,rfl,rfl,aP.of ay,hbs,?_⟩
 have rm:=iy c (y:=m+2) (by omega)
 have g2:=g1.trans (aA n1 (.lst [.int 7,.int 19,.int (10 ^ 6),.int (10 ^ 55)]));refine⟨_,rfl,_,rfl,by omega,by omega,cH (λi σ H2=>aH H H2/\∃(P:List Int) (r:Int) (o:Option V),σ=[j? (.int c),j? (.int m),j? (.int k),Rq p,j? (.int (c.fmod (m+2))),j? (.int r),j? (.int bs),o]/\H2 p=j? (.lst (P.map V.int))/\P.length=i/\f6 5 P)
  ⟨g2,[],_,_,rfl,(aA n1 _) _ _ ay,rfl,λx hx=>by simp at hx⟩ ?_ ?_⟩
 ·rintro i σ H2 hi ⟨gg,P,r,o,rfl,eP,lP,bP⟩
  refine⟨_,rfl,.inl ⟨rfl,_,aP.of eP⟩,?_⟩
  refine⟨_,rfl,_,rfl,_,_,rfl,rfl,show bs≠0 by omega,?_⟩
  walk_at "rd"
  intro p2 n2;refine⟨_,rfl,_,rfl,_,_,rfl,rfl,hb2.dv (by omega),_,_,rfl,rfl,show(2:Int)≠0 by decide,?_⟩
  obtain⟨sg,hsg,hs⟩:=S6 (r.fdiv bs);refine⟨p2,_,_,_,rfl,rfl,aP.of ay,hsg,_,_,rfl,rfl,S7 hs,?_⟩
  have k2:=aA n2 (.lst [V.int 1,V.int (-1)]);refine⟨p,_,_,rfl,rfl,k2 _ _ eP,by rw[Ya,C?];omega,?_⟩
  refine⟨_,rfl,_,rfl,_,_,rfl,rfl,hb2.dv (by omega),_,_,rfl,rfl,(Bd.small (by decide) (by decide)).dv (by decide),?_⟩
  refine⟨(gg.trans k2).bw hp _,P++[r.fmod bs*sg],_,_,rfl,?_,by rw[Yk,lP];rfl,bP.snoc (hs.bd (Ql hb1 hb2))⟩
  rw[<- sy];exact ay
 ·rintro σ H2 ⟨gg,P,r,o,rfl,eP,lP,bP⟩
  refine⟨_,rfl,p,P,rfl,aP.of eP,by omega,λp2 H3 g3 n3 e3=>q (trim P) (jw P) bP.trim ?_ p2 H3 (gg.trans g3) (gg.free n3) e3⟩
  have:=rY P P.length
  rw[gG];omega
end
def Cm (K:bE):Sp:=λvs H Q _=>∃(a:o?) (f:List Int) (c:Int) (n:Nat),vs=[.ref a,.int c]/\aP K H a (f.map V.int)/\f.length<=30/\f6 1000000 f/\Bd n c/\1<=n/\1+30*(n+102)<=1000000/\OV H Q (fh c f)
def N1:Sp:=λvs H Q _=>∃a b:Int,vs=[.int a,.int b]/\0<=b/\Q (.int (F8 a b)) H
theorem KD (f g:List Int):(r_ f g).length<=max f.length g.length:=by
 unfold r_;rw[gG];refine Yn (rY _ _) ?_
 unfold Ia;rw[Ya,Yg];exact Yd _
theorem Cn (f:List Int):(trim f).length<=f.length:=by rw[gG];exact rY _ _
theorem Co (f g:List Int):(ee f g).length<=f.length+g.length:=by
 unfold ee;split
 ·exact Y1 _
 ·rw[Ya,Yg];omega
theorem Qm {a:Int}:(if a<0 then -a else a)=(a.natAbs:Int):=by split <;> omega
theorem euclid {x y:Int}(hy:0<=y)(h:y≠0):Int.gcd y (x.fmod y)=Int.gcd x y/\0<=x.fmod y/\(x.fmod y).natAbs<y.natAbs:=by
 have hp:0<y:=by omega
 have r:=iy x hp;exact⟨HV x y hp,r.1,by omega⟩
def FL:Sp:=λvs H Q _=>∃k p:Int,vs=[.int k,.int p]/\k≠0/\2<=p/\p<64/\∀v:Nat,fq p k v->Q (.int v) H
section
theorem Eg (KG:b_ P w K mg base 2 "_law_plus" nA (FI K))(iK:b_ P w K mg base 2 "_law_times" nA (oE K))(F:Src K mg "_law_shift" pM JQ):b_ P w K mg base 3 "_law_shift" JQ (Cm K):=by
 refine F.ok iH (λvs H Q E h=>?_) (λf cdv A outer s H vs Q E hr h=>?_)
 ·obtain⟨a,f,c,n,rfl,_⟩:=h;rfl
 obtain⟨a,f,c,n,rfl,ha,lf,bf,bc,n1,hB,q⟩:=h;refine⟨_,ai (aD (i:=2) iH.nd rfl (z? rfl) (bF ah))
  (ai (aD (i:=3) iH.nd rfl (z? rfl) (bF (af ak ah)))
  (ai (cD D? rfl (bM (K:=K) rfl (pv 0)) (aB (i:=4) iH.nd rfl (Or.inr rfl))
   (ai (aD (i:=2) iH.nd rfl (z? rfl) (aF KG hr (af (pv 2) (af (b8 (aI (N:=["_law_part","_law_one"]) (sl:=[q?,j? 4]) (ao pM) XJ rfl rfl (by decide +kernel)) rfl (bM (K:=K) rfl (pv 3)) (λ_ _ _ _ _=>(aB (i:=0) (Yk_ ["_law_part","_law_one"]) rfl (z? rfl))) (λ_ _ _ _ _=>aU) (λ_ _ _ _ _=>(av aX (pv 1) (pv 0)))) ah))))
   (au (aD (i:=3) iH.nd rfl (z? rfl) (aF iK hr (af (pv 3) (af (bF (af (pv 1) (af ak ah))) ah)))))))
  (au (aJ (pv 2))))),?_⟩
 refine⟨aZ rfl,λp1 m1=>?_⟩
 have k1:=aA m1 (.lst []);refine⟨aZ rfl,λp2 m2=>?_⟩
 have k2:=aA m2 (.lst [.int 1]);have lm:(f.map V.int).length=f.length:=Ya _;have bk:f6 n [c,1]:=λx hx=>by
  simp only[Wp,Z6,or_false] at hx
  rcases hx with rfl|rfl
  ·exact bc
  ·exact Bd.mono (m:=1) (show Zm 1<2 ^ 1 by decide) n1
 refine⟨_,rfl,a,rfl,⟨_,(k1.trans k2).seq ha⟩,jD (xs:=f.map V.int) (λi σ H2=>aH H H2/\∃(fa sa:o?) (Fi Si:List Int) (o:Option V),σ=[Rq a,j? (.int c),Rq fa,Rq sa,o]/\H fa=q?/\H2 fa=j? (.lst (Fi.map V.int))/\H2 sa=j? (.lst (Si.map V.int))/\jl [c,1] Fi Si ((f.map λa=>trim [a]).drop i)=fh c f/\Fi.length<=i*2+1/\Si.length<=i*2+1/\f6 (1+i*(n+102)) Si)
  ⟨k1.trans k2,p1,p2,[],[1],_,rfl,m1,k2 _ _ ay,ay,Ih [c,1] _,Y1 _,by show 1<=_;omega,λx hx=>?_⟩ (λi σ H2 _ h=>h.1.seq ha) ?_ ?_⟩
 ·have:x=1:=by simpa using hx
  rw[this];exact Bd.mono (m:=1) (show Zm 1<2 ^ 1 by decide) (by omega)
 ·rintro i x σ H2 hx ⟨gg,fa,sa,Fi,Si,o,rfl,ff,eF,eS,hj,lF,lS,bS⟩
  obtain⟨fi,QZ,rfl⟩:=a_ hx;have hi:i<f.length:=(List.getElem?_eq_some_iff.mp QZ).1;have hmem:fi∈f:=Yw QZ;have hin:i*(n+102)+(n+102)<=30*(n+102):=by
   have:(i+1)*(n+102)<=30*(n+102):=Yx _ (by omega)
   rw[Wd,W6] at this;exact this
  have hdr:(f.map λa=>trim [a]).drop i=trim [fi]::(f.map λa=>trim [a]).drop (i+1):=by
   rw[List.drop_eq_getElem_cons (by rw[Ya];omega)]
   congr 1
   have:=(List.getElem?_eq_some_iff.mp QZ).2
   simp[this]
  rw[hdr] at hj;refine⟨_,rfl,_,rfl,sa,rfl,⟨_,aP.of eS⟩,λD hD=>fN (xs:=Si.map V.int) (λj ys H3=>aH H2 H3/\ys=((Si.take j).map λx=>fi*x).map V.int) ⟨aA hD _,rfl⟩ (λj ys H3 _ h=>aP.of (h.1 _ _ eS)) (λj m x ys H3 hm hjl hx hy hlen h=>?_) (λys H3 hy h=>?_)⟩
  ·obtain⟨g3,rfl⟩:=h
   obtain⟨sj,ZT,rfl⟩:=a_ hx;have bsj:Bd 1000000 sj:=(bS sj (Yw ZT)).mono (by omega)
   refine⟨_,rfl,_,rfl,_,_,rfl,rfl,xA (bf fi hmem) bsj,?_⟩
   refine CW.emit hm hjl (by rw[Ya,C?];omega) hy hlen ⟨aH.bw g3 hD _,?_⟩
   rw[List.take_add_one,ZT];simp
  ·obtain⟨g3,rfl⟩:=h
   rw[Ya,List.take_length] at hy;have ls:(Si.map λx=>fi*x).length=Si.length:=Ya _
   refine⟨fa,D,Fi,_,rfl,g3 _ _ eF,hy,by omega,by omega,λp4 H4 g4 n4 e4=>?_⟩
   have ZU:=g3.trans g4;refine⟨_,rfl,_,rfl,aZ rfl,λp5 n5=>?_⟩
   have k5:=aA n5 (.lst [.int c,.int 1]);refine⟨sa,p5,Si,[c,1],rfl,aP.of (k5 _ _ (ZU _ _ eS)),aP.of ay,by omega,by show 2<=400;decide,bS.mono (by omega),bk.mono (by omega),λp6 H6 g6 n6 e6=>?_⟩
   have l6:(trim (ee Si [c,1])).length<=Si.length+2:=Yn (Cn _) (Co _ _);have l4:=KD Fi (Si.map λx=>fi*x)
   rw[Dl] at e4 l4;refine⟨((gg.trans ZU).trans k5).trans g6,p4,p6,_,_,_,rfl,(gg.trans g3).free n4,g6 _ _ (k5 _ _ e4),e6,hj,?_,?_,((bS.ee bk).trim).mono ?_⟩
   ·omega
   ·omega
   ·rw[Wd,W6];omega
 ·rintro σ H2 ⟨gg,fa,sa,Fi,Si,o,rfl,ff,eF,eS,hj,lF,lS,bS⟩
  rw[lm,List.drop_of_length_le (by rw[Ya];exact Yd _)] at hj
  refine⟨_,rfl,q fa H2 gg ff ?_⟩
  rw[<- hj];exact eF
theorem Cq (B:ia mg)(F:Src K mg "_law_common" qQ GG):b_ P w K mg base 1 "_law_common" GG N1:=by
 refine F.ok uX (λvs H Q E h=>?_) (λf cdv A outer s H vs Q E hr h=>?_)
 ·obtain⟨a,b,rfl,_⟩:=h;rfl
 obtain⟨a,b,rfl,hb,q⟩:=h;refine⟨_,ai (eV D? (aW kY (pv 1) ak (bD _))
   (au (vY (i:=0) (j:=1) rfl uX.nd rfl rfl (by decide) rfl rfl (af (pv 1) (af (av bK (pv 0) (pv 1)) ah)) rfl)))
  (au (aJ (aE A9 rfl B.abs HP (af (pv 0) ah)))),?_⟩
 refine nE (λσ H2=>H2=H/\∃x y:Int,σ=[j? (.int x),j? (.int y)]/\0<=y/\Int.gcd x y=Int.gcd a b) (λσ _=>match σ with | [_,j? (.int y)]=>y.natAbs|_=>0) ?_ ?_ (λσ H Q Q' f ⟨v,e,s,k,ek,h⟩=>⟨v,e,s,k,ek,f _ _ h⟩)
 ·exact⟨rfl,_,_,rfl,hb,rfl⟩
 rintro σ H2 ⟨rfl,x,y,rfl,hy,hg⟩;refine⟨_,rfl,rfl,_,rfl,?_⟩
 refine fU (λc=>?_) (λc=>?_)
 ·have h0:y≠0:=by intro z;subst z;simp at c
  obtain⟨e1,e2,e3⟩:=euclid (x:=x) hy h0;exact⟨_,rfl,_,rfl,_,rfl,_,_,rfl,rfl,h0,_,_,rfl,⟨rfl,_,_,rfl,e2,e1.trans hg⟩,e3⟩
 ·have h0:y=0:=by by_cases z:y=0;exact z;simp[z] at c
  subst h0;refine⟨_,rfl,_,rfl,?_⟩
  have e:(if x<0 then -x else x)=F8 a b:=by
   unfold F8;rw[<- hg,Qm];simp
  rw[e];exact q
theorem GZ (F:Src K mg "_law_size" xw DN):b_ P w K mg base 1 "_law_size" DN FL:=by
  refine F.ok pL (λvs H Q E h=>?_) (λf cdv A outer s H vs Q E hr h=>?_)
  . obtain⟨a,b,rfl,_⟩:=h;rfl
  obtain⟨k,p,rfl,h0,hp,hp2,q⟩:=h;refine⟨_,ai (aD (i:=2) pL.nd rfl (z? rfl) ak)
    (ai (eV D? (aW iV (av bK (pv 0) (pv 1)) ak (bD _))
      (ai (aD (i:=0) pL.nd rfl (z? rfl) (av bU (pv 0) (pv 1)))
      (au (aD (i:=2) pL.nd rfl (z? rfl) (av b9 (pv 2) ak)))))
    (au (aJ (pv 2)))),?_⟩
  refine nE (λσ H2=>H2=H/\∃(m:Int) (v:Nat),σ=[j? (.int m),j? (.int p),j? (.int v)]/\m≠0/\k=p ^ v*m) (λσ _=>match σ with|some (.int m)::_=>m.natAbs|_=>0) ?_ ?_ ?_
  . exact⟨rfl,k,0,rfl,h0,by simp⟩
  . rintro σ H2 ⟨rfl,m,v,rfl,hm,hk⟩
    refine⟨_,rfl,_,rfl,_,_,rfl,rfl,show p≠0 by omega,rfl,_,rfl,?_⟩
    refine fU (λc=>?_) (λc=>?_)
    . have c':m.fmod p=0:=V.int.inj (Jb c)
      obtain⟨m',rfl⟩:=(nI (by omega)).mp c'
      have hm':m'≠0:=λz=>hm (by rw[z];simp)
      refine⟨_,rfl,_,rfl,_,_,rfl,rfl,(Bd.small (by omega) (by omega)).dv (by omega),?_⟩
      refine⟨_,rfl,_,_,rfl,rfl,⟨rfl,m',v+1,?_,hm',?_⟩,?_⟩
      . show [j? (V.int ((p*m').fdiv p)),j? (V.int p),j? (V.int ((v:Int)+1))]=_
        rw[jG (show p≠0 by omega)]
        rfl
      . rw[hk,Za];ac_rfl
      . show((p*m').fdiv p).natAbs<(p*m').natAbs
        rw[jG (show p≠0 by omega),Zf]
        have h2:2<=p.natAbs:=by omega
        have h3:0<m'.natAbs:=by omega
        calc m'.natAbs<2*m'.natAbs:=by omega
          _<=p.natAbs*m'.natAbs:=Yx _ h2
    . have c':¬ p ∣ m:=λz=>c (Ja (Jd V.int ((nI (by omega)).mpr z)))
      exact⟨_,rfl,q v (fq.of (by omega) hk c')⟩
  . rintro σ H Q Q' f ⟨v,e,v2,e2,i,j,e3,e4,c,s,k,ek,h⟩
    exact⟨v,e,v2,e2,i,j,e3,e4,c,s,k,ek,f _ _ h⟩
end
def uz:Sp:=λvs H Q _=>∃p k:Nat,vs=[.int (p:Int),.int (k:Int)]/\2<=p/\p<64/\k<=60/\Q (.int ((p ^ k:Nat):Int)) H
theorem i6 (c:Int){m:Nat}(h:0<m):∃k:Nat,k<m/\c.fmod (m:Int)=(k:Int):=by
 have h0:=Int.fmod_nonneg_of_pos c (show(0:Int)<(m:Int) by omega)
 have h1:=Int.fmod_lt_of_pos c (show(0:Int)<(m:Int) by omega)
 exact⟨(c.fmod (m:Int)).toNat,by omega,by omega⟩
def PT (r N:Nat)(H:Hp)(Q:VK):Prop:=∀(f:List Int) (n:Nat) (i:Int) (t l:o?) (H':Hp),aH H H'->H' t=j? (.tup [.ref l,.int i])->H' l=j? (.lst (f.map V.int))->Pw r f n->1<=n->n<=N->Q (.ref t) H'
theorem PT.on {r N:Nat}{H H':Hp}{Q:VK}(h:PT r N H Q)(g:aH H H'):PT r N H' Q:=λf n i t l H2 g2=>h f n i t l H2 (g.trans g2)
theorem vR {p k m:Nat}(hp:p<64)(h:6*k<m):Bd m ((p ^ k:Nat):Int):=by
 show((p ^ k:Nat):Int).natAbs<_
 rw[Int.natAbs_natCast];refine Z4 (Z2 (show p<=2 ^ 6 by omega) k) ?_
 rw[<- Wk];exact Wf (by decide) h
theorem rep0 (n:Nat):(Yi n [V.int 0]).flatten=(Yi n (0:Int)).map V.int:=by
 induction n with
 | zero=>rfl
 | succ n ih=>rw[Zh,Wq,ih,Zh];rfl
def AI (n:Nat)(c:Int):List Int:=[c]++Yi (n-1) 0++[1]
theorem MY {n:Nat}{c:Int}(hn:1<=n)(h8:n<=8)(hc:c.natAbs<=2 ^ 37):Pw 1 (AI n c) n:=by
 have hl:(AI n c).length=n+1:=by
  unfold AI;rw[Yk,Yk,Yp];show 1+(n-1)+1=_
  omega
 have top:aq (AI n c) n=1:=by
  unfold AI aq;rw[Yb,Y4 (by rw[Yk,Yp];show 1+_<=_;omega),Yk,Yp,show n-([c].length+(n-1))=0 by show n-(1+(n-1))=0;omega]
  rfl
 refine Pw.of hl ⟨(λz=>by rw[z] at hl;cases hl),by rw[hl];exact top⟩ h8 λk hk=>?_
 have hk':(aq (AI n c) k).natAbs<=if k=0 then c.natAbs else 0:=by
  unfold AI aq;rw[Yb,Y2 (by rw[Yk,Yp];show k<1+_;omega)]
  cases k with
  | zero=>exact Yd _
  | succ k=>
   rw[List.singleton_append,List.getElem?_cons_succ,Zi];split <;> simp
 have h1:2 ^ 40<=(2 ^ 40) ^ (n-k):=Nat.le_self_pow (by omega) _
 split at hk' <;> omega
def N2:Sp:=λvs H Q _=>∃p n h u:Nat,vs=[.int (p:Int),.int (n:Int),.int (h:Int),.int (u:Int)]/\2<=p/\p<48/\1<=n/\n<=6/\h<=5/\u<48/\PT 1 n H Q
section
theorem Eh (B:ia mg)(F:Src K mg "_law_power" uf Aj):b_ P w K mg base 1 "_law_power" Aj uz:=by
 refine F.ok mP (λvs H Q E h=>?_) (λf cdv A outer s H vs Q E hr h=>?_)
 ·obtain⟨x,k,rfl,_⟩:=h;rfl
 obtain⟨p,k,rfl,h2,h64,h60,q⟩:=h;refine⟨_,ai (aD (i:=2) mP.nd rfl (z? rfl) ak)
  (ai (cD D? rfl (bN rfl B.range (af (pv 1) ah)) (aB (i:=3) mP.nd rfl (z? rfl))
   (au (aD (i:=2) mP.nd rfl (z? rfl) (av aX (pv 2) (pv 0)))))
  (au (aJ (pv 2)))),?_⟩
 refine⟨_,rfl,_,rfl,by omega,by omega,?_⟩
 rw[Yf];refine cH (λi σ H2=>H2=H/\∃(o:Option V),σ=[Iq (p),Iq (k),Iq ((p ^ i:Nat)),o]) ⟨rfl,_,rfl⟩ ?_ ?_
 ·rintro i σ H2 hi ⟨rfl,o,rfl⟩
  refine⟨_,rfl,_,rfl,_,_,rfl,rfl,lZ (by omega) (by omega),rfl,j? (.int (0+(i:Int))),?_⟩
  rw[Zv,Zy];rfl
 ·rintro σ H2 ⟨rfl,o,rfl⟩
  exact⟨_,rfl,q⟩
theorem yr (B:ia mg)(fQ:b_ P w K mg base 1 "_law_power" Aj uz)(F:Src K mg "_law_ramified" jr JH):b_ P w K mg base 2 "_law_ramified" JH N2:=by
 refine F.ok qm (λvs H Q E h=>?_) (λf cdv A outer s H vs Q E hr h=>?_)
 ·obtain⟨p,n,h,u,rfl,_⟩:=h;rfl
 obtain⟨p,n,h,u,rfl,hp,hp2,hn,Lp,hh,hu,q⟩:=h;refine⟨_,ai (aD (i:=4) qm.nd rfl (z? rfl) (aE (zk (K:=K) rfl rfl) rfl B.sum HR (af (b8 (aI (N:=["_law_d","_law_high","_law_n"]) (sl:=[q?,j? 2,j? 1]) (ao jr) XQ rfl rfl (by decide +kernel)) rfl (bN rfl B.range (af (pv 1) ah)) (λ_ _ _ _ _=>(aB (i:=0) (Yk_ ["_law_d","_law_high","_law_n"]) rfl (z? rfl))) (λ_ _ _ _ _=>aU) (λ_ _ _ _ _=>(av bU (av aX (pv 0) (pv 1)) (pv 2)))) ah)))
  (au (aJ (i8 (af (av gm (av gm (bF (af (av bO ak (av aX (pv 3) (aF fQ hr (af (pv 0) (af (pv 2) ah))))) ah)) (av lW (bF (af ak ah)) (av bO (pv 1) ak))) (bF (af ak ah))) (af (pv 4) ah))))),?_⟩
 refine⟨_,rfl,_,rfl,by omega,by omega,λD hD=>?_⟩
 rw[Yf];refine BJ (λj=>.num (((0+(j:Int))*(h:Int)).fdiv (n:Int))) hD (by omega) (λj H2 Q2 hj g2 q2=>?_) λH2 g2 rr=>?_
 ·exact⟨_,rfl,_,rfl,_,_,rfl,rfl,gQ (by omega) (by omega),_,rfl,_,_,rfl,rfl,(Bd.small (by omega) (by omega)).dv (by omega),q2 _ H2 (aH.refl _) (.num _)⟩
 obtain⟨lD,eD,MW,_⟩:=dU (n:=n) (v:=λj=>((0+(j:Int))*(h:Int)).fdiv (n:Int)) rr
 cases eD;refine⟨D,_,rfl,aP.of MW,?_⟩
 refine⟨_,rfl,_,rfl,_,rfl,p,h,rfl,hp,by omega,by omega,?_⟩
 refine⟨_,_,rfl,rfl,gQ (by omega) (by omega),_,_,rfl,rfl,aZ rfl,λp3 n3=>?_⟩
 generalize hH3:L2.upd H2 p3 _=H3;obtain⟨g3,e3⟩:=bJ n3 hH3;clear hH3;refine⟨aZ rfl,λp4 n4=>?_⟩
 generalize hH4:L2.upd H3 p4 _=H4;obtain⟨g4,e4⟩:=bJ n4 hH4;clear hH4;refine⟨_,rfl,_,_,rfl,rfl,p4,((n-1:Nat):Int),_,rfl,Jd V.int (by omega),e4,by omega,by omega,by rw[C?,Yf];show 1*_<=_;omega,λp5 n5=>?_⟩
 rw[Yf,rep0];generalize hH5:L2.upd H4 p5 _=H5;obtain⟨g5,e5⟩:=bJ n5 hH5;clear hH5;refine⟨p3,p5,_,_,rfl,rfl,g5 _ _ (g4 _ _ e3),e5,by rw[C?,Ya,Yp];show 1+_<=_;omega,λp6 n6=>?_⟩
 generalize hH6:L2.upd H5 p6 _=H6;obtain⟨g6,e6⟩:=bJ n6 hH6;clear hH6;refine⟨aZ rfl,λp7 n7=>?_⟩
 generalize hH7:L2.upd H6 p7 _=H7;obtain⟨g7,e7⟩:=bJ n7 hH7;clear hH7;refine⟨p6,p7,_,_,rfl,rfl,g7 _ _ e6,e7,by rw[C?,Yk,Ya,Yp];show 1+_+1<=_;omega,λp8 n8=>?_⟩
 generalize hH8:L2.upd H7 p8 _=H8;obtain⟨g8,e8⟩:=bJ n8 hH8;clear hH8;refine⟨_,rfl,aZ rfl,λp9 n9=>?_⟩
 generalize hH9:L2.upd H8 p9 _=H9;obtain⟨g9,e9⟩:=bJ n9 hH9;clear hH9;refine q (AI n (0-(u:Int)*((p ^ h:Nat):Int))) n _ p9 p8 H9 (((((((g2.trans g3).trans g4).trans g5).trans g6).trans g7).trans g8).trans g9) e9 ?_ (MY hn (by omega) ?_) hn (Yd _)
 ·rw[g9 _ _ e8]
  unfold AI;rw[Yt,Yt];rfl
 ·have h1:p ^ h<=47 ^ 5:=Yn (Z2 (by omega) h) (Yy (by decide) hh)
  have h2:u*p ^ h<=47*47 ^ 5:=Zk (by omega) h1
  rw[<- Zy];omega
end
def N3:Sp:=λvs H Q _=>∃(p:Nat) (r:Int) (m:Nat),vs=[.int (p:Int),.int r,.int (m:Int)]/\2<=p/\p<48/\1<=m/\m<=6/\PT 1 m H Q
theorem FN {x:Int}{zs:List Int}:LM (V.int x) (zs.map V.int)=true↔x∈zs:=by
 unfold LM;rw[List.any_eq_true];constructor
 ·rintro⟨y,hy,e⟩
  obtain⟨z,hz,rfl⟩:=List.mem_map.mp hy;have e:(z == x)=true:=e;rw[beq_iff_eq.mp e] at hz;exact hz
 ·exact λh=>⟨_,List.mem_map.mpr ⟨x,h,rfl⟩,by show(x == x)=true;exact beq_self_eq_true _⟩
theorem tF {a b A C:Int}(h0:0<=a)(h1:a<=A)(k0:0<=b)(k1:b<=C):0<=a*b/\a*b<=A*C:=⟨Wz h0 k0,Int.mul_le_mul h1 k1 k0 (by omega)⟩
theorem G0 (zs:List Int):(zs.map V.int).all rQ=true:=by
 rw[Wc];intro v hv;obtain⟨z,_,rfl⟩:=List.mem_map.mp hv;rfl
section
theorem Ei (B:ia mg)(iK:b_ P w K mg base 2 "_law_times" nA (oE K))(oF:b_ P w K mg base 1 "_law_size" DN FL)(F:Src K mg "_law_zeros" ug JK):b_ P w K mg base 3 "_law_zeros" JK N3:=by
 refine F.ok cQ (λvs H Q E h=>?_) (λf cdv A outer s H vs Q E hr h=>?_)
 ·obtain⟨p,r,m,rfl,_⟩:=h;rfl
 obtain⟨p,r,m,rfl,hp,hp2,hm,hm6,q⟩:=h;refine⟨_,ai (aD (i:=3) cQ.nd rfl (z? rfl) (bF ah))
  (ai (aD (i:=4) cQ.nd rfl (z? rfl) (bF (af ak ah)))
  (ai (cD D? rfl (bN rfl B.range (af (pv 2) ah)) (aB (i:=5) cQ.nd rfl (z? rfl))
   (ai (aD (i:=6) cQ.nd rfl (z? rfl) (av b9 (av aX (pv 5) (pv 0)) (av aX (av bK (pv 1) (pv 0)) (bC (aG (K:=K) rfl) (bF (af ak (af (pv 0) (af (av aX (pv 0) (pv 0)) (af (pv 0) ah))))) (av bK (av bU (pv 1) (pv 0)) ak) (λ_ _=>rfl)))))
   (ai (cW (aW iV (av bK (av bU (av bU (pv 1) (pv 0)) ak) ak) ak (bD _))
    (au (aD (i:=6) cQ.nd rfl (z? rfl) (av b9 (pv 6) (av aX (av aX (av aX (pv 0) (pv 0)) (pv 0)) (pv 5)))))
    (bY))
   (ai (eV D? (aW (HU (K:=K) rfl) (pv 6) (pv 3) (by with_unfolding_all rfl))
    (au (aD (i:=6) cQ.nd rfl (z? rfl) (av b9 (pv 6) ak))))
   (ai (d8 (qg R? F! G! dO (pv 3) (af (pv 6) ah)))
   (ai (aD (i:=1) cQ.nd rfl (z? rfl) (av bU (av bU (pv 1) (pv 0)) ak))
   (au (aD (i:=4) cQ.nd rfl (z? rfl) (aF iK hr (af (pv 4) (af (bF (af (av bO ak (pv 6)) (af ak ah))) ah)))))))))))
  (ai (aD (i:=7) cQ.nd rfl (z? rfl) ak)
  (ai (cD D? rfl (bN rfl B.range (af (pv 2) ah)) (aB (i:=8) cQ.nd rfl (z? rfl))
   (au (cD D? rfl (tM rfl B.range (af (av b9 (pv 8) ak) (af (pv 2) ah))) (aB (i:=9) cQ.nd rfl (z? rfl))
    (au (aD (i:=7) cQ.nd rfl (z? rfl) (av b9 (pv 7) (aF oF hr (af (av bO (bC (aG (K:=K) rfl) (pv 3) (pv 8) (λ_ _=>rfl)) (bC (aG (K:=K) rfl) (pv 3) (pv 9) (λ_ _=>rfl))) (af (pv 0) ah)))))))))
  (au (aJ (i8 (af (pv 4) (af (pv 7) ah))))))))),?_⟩
 refine⟨aZ rfl,λp1 n1=>?_⟩
 generalize hH1:L2.upd H p1 _=H1;obtain⟨g1,e1⟩:=bJ n1 hH1;clear hH1;refine⟨aZ rfl,λp2 n2=>?_⟩
 generalize hH2:L2.upd H1 p2 _=H2;obtain⟨g2,e2⟩:=bJ n2 hH2;clear hH2;refine⟨_,rfl,_,rfl,by omega,by omega,?_⟩
 rw[Yf];have V2:p2≠p1:=λz=>by rw[z,e1] at n2;cases n2
 refine cH (λi σ H3=>aH H H3/\∃(zs f:List Int) (fl:o?) (r':Int) (o5 o6 o7 o8 o9:Option V),σ=[Iq (p),j? (.int r'),Iq (m),Rq p1,Rq fl,o5,o6,o7,o8,o9]/\H3 p1=j? (.lst (zs.map V.int))/\H3 fl=j? (.lst (f.map V.int))/\fl≠p1/\Pw 1 f i/\zs.length=i/\zs.Nodup/\∀z∈zs,0<=z/\z<2 ^ 20+(i:Int))
  ⟨g1.trans g2,[],[1],p2,_,_,_,_,_,_,rfl,g2 _ _ e1,e2,V2,Pw.one,rfl,List.nodup_nil,λz hz=>by cases hz⟩ ?_ ?_
 ·clear g1 g2 e1 e2 V2 n2
  rintro i σ H3 hi ⟨g3,zs,f,fl,r',o5,o6,o7,o8,o9,rfl,ez,ef,ne,pw,lz,nd,bz⟩;have hpp:=tF (a:=(p:Int)) (b:=(p:Int)) (A:=47) (C:=47) (by omega) (by omega) (by omega) (by omega)
  have S8:=tF (a:=(p:Int)*(p:Int)) (b:=(p:Int)) (A:=47*47) (C:=47) hpp.1 hpp.2 (by omega) (by omega)
  have hkp:=tF (a:=(0:Int)+(i:Int)) (b:=(p:Int)) (A:=5) (C:=47) (by omega) (by omega) (by omega) (by omega)
  have acq:=tF (a:=(p:Int)*(p:Int)*(p:Int)) (b:=(0:Int)+(i:Int)) (A:=47*47*47) (C:=5) S8.1 S8.2 (by omega) (by omega)
  have rp:=iy r' (y:=(p:Int)) (by omega)
  refine sQ (λx:Int=>[Iq (p),j? (.int r'),Iq (m),Rq p1,Rq fl,j? (.int (0+(i:Int))),j? (.int x),o7,o8,o9]) (λx H4=>aH H H4/\H4 p1=j? (.lst (zs.map V.int))/\H4 fl=j? (.lst (f.map V.int))/\0<=x/\x<=101849) (λC key=>?_) ?_
  ·refine⟨_,rfl,_,rfl,_,_,rfl,rfl,gQ (by omega) (by omega),_,rfl,_,rfl,_,_,rfl,rfl,(show(p:Int)≠0 by omega),_,rfl,_,rfl,_,rfl,_,_,rfl,rfl,gQ (by omega) (by omega),_,rfl,aZ rfl,λp4 n4=>?_⟩
   generalize hH4:L2.upd H3 p4 _=H4;obtain⟨g4,e4⟩:=bJ n4 hH4;clear hH4;have r4:=iy (r'.fdiv (p:Int)) (y:=4) (by decide)
   obtain⟨x,hx,x0,x1⟩:=pick (xs:=[V.int 1,.int (p:Int),.int ((p:Int)*(p:Int)),.int (p:Int)]) (P:=λn=>0<=n/\n<=2209) r4.1 r4.2 (by
    intro v hv;simp only[Wp,Z6,or_false] at hv
    rcases hv with rfl|rfl|rfl|rfl
    ·exact⟨_,rfl,by decide,by decide⟩
    ·exact⟨_,rfl,by omega,by omega⟩
    ·exact⟨_,rfl,by omega,by omega⟩
    ·exact⟨_,rfl,by omega,by omega⟩)
   refine⟨_,rfl,_,rfl,_,_,rfl,rfl,(Bd.small (by omega) (by omega)).dv (by omega),_,_,rfl,rfl,(show(4:Int)≠0 by decide),p4,_,_,_,rfl,rfl,aP.of e4,hx,_,_,rfl,rfl,lZ (by omega) (by omega),_,_,rfl,rfl,?_⟩
   have hrx:=tF (a:=r'.fmod (p:Int)) (b:=x) (A:=46) (C:=2209) rp.1 (by omega) x0 x1
   exact key _ H4 ⟨g3.trans g4,g4 _ _ ez,g4 _ _ ef,by omega,by omega⟩
  clear g3 ez ef H3;rintro x H3 ⟨g3,ez,ef,x0,x1⟩;refine sQ (λx:Int=>[Iq (p),j? (.int r'),Iq (m),Rq p1,Rq fl,j? (.int (0+(i:Int))),j? (.int x),o7,o8,o9]) (λx H4=>H4=H3/\0<=x/\x<2 ^ 20) (λC key=>?_) ?_
  ·refine⟨_,rfl,_,rfl,_,_,rfl,rfl,(Bd.small (by omega) (by omega)).dv (by omega),_,_,rfl,rfl,(Bd.small (by decide) (by decide)).dv (by decide),_,_,rfl,rfl,(show(2:Int)≠0 by decide),rfl,_,rfl,fU (λc1=>?_) (λc1=>key x H3 ⟨rfl,x0,by omega⟩)⟩
   refine⟨_,rfl,_,rfl,_,rfl,_,_,rfl,rfl,gQ (by omega) (by omega),_,rfl,_,_,rfl,rfl,lZ (by omega) (by omega),_,rfl,_,_,rfl,rfl,lZ (by omega) (by omega),_,_,rfl,rfl,?_⟩
   exact key _ H3 ⟨rfl,by omega,by omega⟩
  clear x0 x1 x;rintro x H4 ⟨rfl,x0,x1⟩;refine sQ (λx:Int=>[Iq (p),j? (.int r'),Iq (m),Rq p1,Rq fl,j? (.int (0+(i:Int))),j? (.int x),o7,o8,o9]) (λx H5=>H5=H4/\0<=x/\x<2 ^ 20+(i:Int)+1/\x ∉ zs) (λC key=>?_) ?_
  ·refine nE (λσ H5=>H5=H4/\∃x:Int,σ=[Iq (p),j? (.int r'),Iq (m),Rq p1,Rq fl,j? (.int (0+(i:Int))),j? (.int x),o7,o8,o9]/\0<=x/\x<2 ^ 20+(i:Int)+1) (λσ _=>match σ with | [_,_,_,_,_,_,j? (.int x),_,_,_]=>(2 ^ 20+(i:Int)+1-x).toNat|_=>0) ⟨rfl,x,rfl,x0,by omega⟩ ?_ ?_
   ·rintro σ H5 ⟨rfl,y,rfl,y0,y1⟩
    refine⟨_,rfl,_,rfl,p1,_,rfl,.inl (aP.of ez),rfl,G0 zs,_,rfl,fU (λc=>?_) (λc=>?_)⟩
    ·have hy:=bz y (FN.mp c)
     refine⟨_,rfl,_,_,rfl,rfl,⟨rfl,y+1,rfl,by omega,by omega⟩,?_⟩
     show(2 ^ 20+(i:Int)+1-(y+1)).toNat<(2 ^ 20+(i:Int)+1-y).toNat
     omega
    ·exact key y _ ⟨rfl,y0,y1,λz=>c (FN.mpr z)⟩
   ·rintro σ H Q Q' f ⟨v,e,v2,e2,p,xs,e3,e4,e5,e6,k,ek,h⟩
    exact⟨v,e,v2,e2,p,xs,e3,e4,e5,e6,k,ek,f _ _ h⟩
  clear x0 x1 x;rintro x H5 ⟨rfl,x0,x1,xn⟩;refine⟨_,rfl,.inl ⟨rfl,_,aP.of ez⟩,_,rfl,p1,_,_,rfl,rfl,ez,by rw[Ya,lz,C?];omega,?_⟩
  generalize hH6:L2.upd H5 p1 _=H6;have e6:H6 p1=j? (.lst ((zs++[x]).map V.int)):=by rw[<- hH6,ay,Yt];rfl
  have ef6:H6 fl=j? (.lst (f.map V.int)):=by rw[<- hH6,aO ne];exact ef
  have g6:aH H H6:=by rw[<- hH6];exact g3.bw n1 _
  clear hH6;refine⟨_,rfl,_,rfl,_,_,rfl,rfl,(Bd.small (by omega) (by omega)).dv (by omega),_,_,rfl,rfl,(Bd.small (by decide) (by decide)).dv (by decide),?_⟩
  refine⟨_,rfl,_,rfl,_,_,rfl,rfl,aZ rfl,λp7 n7=>?_⟩
  generalize hH7:L2.upd H6 p7 _=H7;obtain⟨g7,e7⟩:=bJ n7 hH7;clear hH7;have pl:Pw 1 [0-x,1] 1:=Pw.jy (by omega)
  refine⟨fl,p7,f,[0-x,1],rfl,aP.of (g7 _ _ ef6),aP.of e7,by rw[pw.len];omega,(by show 2<=400;decide),pw.Gh.mono (by omega),pl.Gh.mono (by decide),λl8 H8 g8 n8 e8=>?_⟩
  refine⟨(g6.trans g7).trans g8,zs++[x],_,l8,_,_,_,_,_,_,rfl,g8 _ _ (g7 _ _ e6),e8,(λz=>by rw[z,g7 _ _ e6] at n8;cases n8),pw.mul pl,by rw[Yk,lz];rfl,?_,λz hz=>?_⟩
  ·rw[List.nodup_append]
   refine⟨nd,List.nodup_cons.mpr ⟨Z6,List.nodup_nil⟩,λa ha b hb e=>?_⟩
   rw[List.mem_singleton] at hb;rw[e,hb] at ha;exact xn ha
  ·rcases List.mem_append.mp hz with h|h
   ·have:=bz z h;omega
   ·rw[List.mem_singleton] at h;omega
 ·clear g1 g2 e1 e2 V2 n2 n1
  rintro σ H3 ⟨g3,zs,f,fl,r',o5,o6,o7,o8,o9,rfl,ez,ef,ne,pw,lz,nd,bz⟩;refine⟨_,rfl,_,rfl,by omega,by omega,?_⟩
  rw[Yf];refine cH (λi σ H4=>H4=H3/\∃(x:Int) (o8 o9:Option V),σ=[Iq (p),j? (.int r'),Iq (m),Rq p1,Rq fl,o5,o6,j? (.int x),o8,o9]) ⟨rfl,_,_,_,rfl⟩ ?_ ?_
  ·rintro i σ H4 hi ⟨rfl,x,o8,o9,rfl⟩
   refine⟨_,rfl,_,_,rfl,rfl,_,rfl,_,_,rfl,⟨by omega,by omega,by omega,by omega⟩,?_⟩
   refine cH (λj σ H5=>H5=H4/\∃(x:Int) (o9:Option V),σ=[Iq (p),j? (.int r'),Iq (m),Rq p1,Rq fl,o5,o6,j? (.int x),j? (.int (0+(i:Int))),o9]) ⟨rfl,_,_,rfl⟩ ?_ ?_
   ·rintro j σ H5 hj ⟨rfl,x,o9,rfl⟩
    have hij:i+1+j<m:=by omega
    have a1:=eK (ns:=zs) (i:=0+(i:Int)) (by omega) (by omega)
    have a2:=eK (ns:=zs) (i:=0+(i:Int)+1+(j:Int)) (by omega) (by omega)
    refine⟨_,rfl,_,rfl,_,rfl,p1,_,_,_,rfl,rfl,aP.of ez,a1,_,rfl,_,rfl,p1,_,_,_,rfl,rfl,aP.of ez,a2,_,_,rfl,rfl,_,rfl,_,_,rfl,?_,by omega,by omega,λv _=>⟨_,_,rfl,rfl,rfl,_,_,rfl⟩⟩
    intro z;have hne:=(List.nodup_iff_pairwise_ne.mp nd);rw[show((0:Int)+(i:Int)).toNat=i by omega,show((0:Int)+(i:Int)+1+(j:Int)).toNat=i+1+j by omega] at z
    have:=List.pairwise_iff_getElem.mp hne i (i+1+j) (by omega) (by omega) (by omega)
    unfold aq at z;rw[Yb,Yb,Yc (by omega),Yc (by omega)] at z
    exact this (by simpa using Int.sub_eq_zero.mp z)
   ·rintro σ H5 ⟨rfl,x,o9,rfl⟩
    exact⟨rfl,_,_,_,rfl⟩
  ·rintro σ H4 ⟨rfl,x,o8,o9,rfl⟩
   refine⟨_,rfl,_,rfl,aZ rfl,λp5 n5=>?_⟩
   generalize hH5:L2.upd H4 p5 _=H5;obtain⟨g5,e5⟩:=bJ n5 hH5;exact q f m x p5 fl H5 (g3.trans g5) e5 (g5 _ _ ef) pw hm (Yd _)
end
def N4 (K:bE):Sp:=λvs H Q _=>∃(p n h:Nat) (a:o?) (g:List Int),vs=[.int (p:Int),.ref a,.int (h:Int)]/\H a=j? (.lst (g.map V.int))/\g.length=n+1/\L2.dR g/\f6 5 g/\2<=p/\p<48/\1<=n/\n<=6/\h<=2/\PT 1 n H Q
theorem Qn {p n h:Nat}{g:List Int}(lg:g.length=n+1)(mg:L2.dR g)(bg:f6 5 g)(hp:p<48)(hn:n<=6)(hh:h<=2):Pw 1 (lv (n+1) λk=>aq g k*((p ^ (h*(n-k)):Nat):Int)) n:=by
 have top:aq g n=1:=(topC lg mg).one;have hl:(lv (n+1) λk=>aq g k*((p ^ (h*(n-k)):Nat):Int)).length=n+1:=aQ _ _
 refine Pw.of hl ⟨(λz=>by rw[z] at hl;cases hl),by rw[hl];show aq _ n=1;rw[j9,W9 (by omega),top,Nat.sub_self,Nat.mul_zero];rfl⟩ (by omega) λk hk=>?_
 rw[j9,W9 (by omega),Zf,Int.natAbs_natCast]
 have h1:(aq g k).natAbs<=2 ^ 5:=W1 (bg.aq k);have h2:p ^ (h*(n-k))<=(2 ^ 6) ^ (2*(n-k)):=Yn (Z2 (by omega) _) (Yy (by decide) (Yx _ hh))
 have h3:=Zk h1 h2;have h4:8*(2 ^ 5*(2 ^ 6) ^ (2*(n-k)))<=(2 ^ 40) ^ (n-k):=by
  rw[<- Wk,<- Wk,<- Zq,show 8=2 ^ 3 by decide,<- Zq]
  exact Yy (by decide) (by omega)
 omega
section
theorem xM (B:ia mg)(fQ:b_ P w K mg base 1 "_law_power" Aj uz)(F:Src K mg "_law_stretched" iS JO):b_ P w K mg base 2 "_law_stretched" JO (N4 K):=by
 refine F.ok oq (λvs H Q E h=>?_) (λf cdv A outer s H vs Q E hr h=>?_)
 ·obtain⟨p,n,h,a,g,rfl,_⟩:=h;rfl
 obtain⟨p,n,h,a,g,rfl,ha,lg,mon,bg,hp,hp2,hn,Lp,hh,q⟩:=h;refine⟨_,ai (aD (i:=3) oq.nd rfl (Or.inr rfl) (av bO (aE (aN (K:=K) rfl) rfl B.len bI (af (pv 1) ah)) ak))
  (au (aJ (i8 (af (b8 (aI (N:=["_law_k","_law_g","_law_p","_law_high","_law_n"]) (sl:=[q?,j? 1,j? 0,j? 2,j? 3]) (ao iS) ["_law_p","_law_g","_law_high","_law_n"] rfl rfl (by decide +kernel)) rfl (bN rfl B.range (af (av b9 (pv 3) ak) ah)) (λ_ _ _ _ _=>(aB (i:=0) (Yk_ ["_law_k","_law_g","_law_p","_law_high","_law_n"]) rfl (z? rfl))) (λ_ _ _ _ _=>aU) (λ_ _ _ _ _=>(av aX (bC (aG (K:=K) rfl) (pv 1) (pv 0) (λ_ _=>rfl)) (aF fQ hr (af (pv 2) (af (av aX (pv 3) (av bO (pv 4) (pv 0))) ah)))))) (af (av bU (av aX (av aX (pv 2) (pv 3)) (av bO (pv 3) ak)) ak) ah))))),?_⟩
 have hl:(g.map V.int).length=n+1:=by rw[Ya,lg]
 refine⟨_,rfl,a,_,rfl,.inl (aP.of ha),_,_,rfl,rfl,?_⟩
 show ig 3 (V.int (((g.map V.int).length:Int)-1)) _ _ _
 rw[hl,show(((n+1:Nat):Int)-1)=(n:Int) by omega]
 refine⟨_,rfl,_,_,rfl,rfl,((n+1:Nat):Int),rfl,by omega,by omega,λD hD=>?_⟩
 rw[Yf];refine BJ (λj=>.num (aq g j*((p ^ (h*(n-j)):Nat):Int))) hD (by omega) (λj H2 Q2 hj g2 q2=>?_) λH2 g2 rr=>?_
 ·have a1:=eK (ns:=g) (i:=0+(j:Int)) (by omega) (by omega)
  have ZC:(h:Int)*((n:Int)-(0+(j:Int)))=((h*(n-j):Nat):Int):=by rw[Zy,show(n:Int)-(0+(j:Int))=((n-j:Nat):Int) by omega]
  have hle:h*(n-j)<=2*6:=Zk hh (by omega)
  rw[show((0:Int)+(j:Int)).toNat=j by omega] at a1
  refine⟨_,rfl,_,rfl,a,_,_,_,rfl,rfl,aP.of (g2 _ _ ha),a1,_,rfl,_,rfl,_,rfl,_,rfl,_,_,rfl,rfl,_,_,rfl,rfl,gQ (by omega) (by omega),p,h*(n-j),Jd (λz=>[V.int (p:Int),V.int z]) ZC,hp,by omega,by omega,?_⟩
  refine⟨_,_,rfl,rfl,Bd.ok (bg.aq j) (vR (m:=100) (by omega) (by omega)),q2 _ H2 (aH.refl _) (.num _)⟩
 obtain⟨lD,eD,MW,_⟩:=dU (n:=n+1) (v:=λk=>aq g k*((p ^ (h*(n-k)):Nat):Int)) rr
 cases eD;refine⟨_,rfl,_,rfl,_,_,rfl,rfl,gQ (by omega) (by omega),_,rfl,_,_,rfl,rfl,_,_,rfl,rfl,lZ (by omega) (by omega),_,_,rfl,rfl,(Bd.small (by decide) (by decide)).dv (by decide),aZ rfl,λp5 n5=>?_⟩
 generalize hH5:L2.upd H2 p5 _=H5;obtain⟨g5,e5⟩:=bJ n5 hH5;exact q _ n _ p5 D H5 (g2.trans g5) e5 (g5 _ _ MW) (Qn lg mon bg hp2 Lp hh) hn (Yd _)
end
theorem vS {f:List Int}{n:Nat}(h:Pw 2 f n)(hn1:1<=n)(hn:n<=6):AD f:=by
 have en:f.length-1=n:=by rw[h.len];omega
 refine⟨(h.So hn).mono (by decide),1100,by decide,by rw[en];omega,λi j hi=>?_⟩
 rw[en] at hi ⊢;exact h.ent hn1 hn (by rw[DY,en];omega) (h.bdl hn) (vO h.top hn1 λm hm=>bG hm) i j hi
def FO:Sp:=λvs H Q _=>∃(p:Nat) (c:Int) (m:Nat),vs=[.int (p:Int),.int c,.int (m:Int)]/\2<=p/\p<48/\1<=m/\m<=6/\PT 1 m H Q
theorem PT.le {r N M:Nat}{H:Hp}{Q:VK}(h:PT r N H Q)(hM:M<=N):PT r M H Q:=λf n i t l H' a b c d e g=>h f n i t l H' a b c d e (Yn g hM)
section
theorem Ej (B:ia mg)(Ek:b_ P w K mg base 1 "_law_common" GG N1)(AJ:b_ P w K mg base 2 "_law_ramified" JH N2)(zy:b_ P w K mg base 3 "_law_zeros" JK N3)(KH:b_ P w K mg base 2 "_law_poly" JI FJ)(fK:b_ P w K mg base 4 "discriminant" ["f"] (Au K))(yt:b_ P w K mg base 2 "_law_stretched" JO (N4 K))(F:Src K mg "_law_piece" uh JJ):b_ P w K mg base 5 "_law_piece" JJ FO:=by
 refine F.ok fF (λvs H Q E h=>?_) (λf cdv A outer s H vs Q E hr h=>?_)
 ·obtain⟨p,c,m,rfl,_⟩:=h;rfl
 obtain⟨p,c,m,rfl,hp,hp2,hm,hm6,q⟩:=h;refine⟨_,ai (aD (i:=3) fF.nd rfl (z? rfl) (av b9 ak (av bK (av bU (pv 1) ak) (pv 2))))
  (ai (aD (i:=4) fF.nd rfl (z? rfl) (av bU (pv 1) ak))
  (ai (cW (aW iV (av bK (pv 1) ak) ak (bD _))
   (ai (aD (i:=5) fF.nd rfl (z? rfl) (bC (aG (K:=K) rfl) (bF (af ak (af ak (af ak (af ak (af ak (af ak ah))))))) (av bK (pv 4) ak) (λ_ _=>rfl)))
   (ai (aD (i:=6) fF.nd rfl (z? rfl) (av b9 ak (av bK (av bU (pv 4) ak) (av bO (pv 0) ak))))
   (ai (eV D? (aW yJ (aF Ek hr (af (pv 5) (af (pv 3) ah))) ak (bD _))
    (au (aD (i:=5) fF.nd rfl (z? rfl) (av bO (pv 5) ak))))
   (au (aJ (aF AJ hr (af (pv 0) (af (pv 3) (af (pv 5) (af (pv 6) ah))))))))))
   (bY))
  (ai (cW (aW iV (av bK (pv 1) ak) ak (bD _))
   (au (aJ (aF zy hr (af (pv 0) (af (pv 4) (af (pv 3) ah))))))
   (bY))
  (ai (aD (i:=7) fF.nd rfl (z? rfl) (eW (eX (K:=K) rfl) (aF KH hr (af (pv 4) (af (av bO (pv 3) ak) (af ak ah)))) gb (gc (pv 3))))
  (ai (aD (i:=7) fF.nd rfl (z? rfl) (av gm (av gm (pv 7) (av lW (bF (af ak ah)) (av bO (pv 3) (aE (aN (K:=K) rfl) rfl B.len bI (af (pv 7) ah))))) (bF (af ak ah))))
  (ai (cW (aW iV (av bK (aF fK hr (af (pv 7) ah)) (pv 0)) ak (bD _))
   (au (aJ (aF zy hr (af (pv 0) (af (pv 4) (af (pv 3) ah))))))
   (bY))
  (au (aJ (aF yt hr (af (pv 0) (af (pv 7) (af (bC (aG (K:=K) rfl) (bF (af ak (af ak (af ak (af ak ah))))) (av bK (av bU (pv 4) (av zE ak ak)) ak) (λ_ _=>rfl)) ah)))))))))))),?_⟩
 obtain⟨k,hk,ek⟩:=i6 (c.fdiv 8) (show 0<m by omega)
 refine⟨_,rfl,_,_,rfl,rfl,(Bd.small (by decide) (by decide)).dv (by decide),_,rfl,_,_,rfl,rfl,(show(m:Int)≠0 by omega),_,_,rfl,rfl,?_⟩
 show ig 3 (V.int (1+(c.fdiv 8).fmod (m:Int))) _ _ _
 rw[ek,show(1:Int)+(k:Int)=((1+k:Nat):Int) by omega]
 obtain⟨n,hn⟩:∃n,n=1+k:=⟨_,rfl⟩;rw[<- hn];have n1:1<=n:=by omega
 have nm:n<=m:=by omega
 clear hn ek;refine⟨_,rfl,_,_,rfl,rfl,(Bd.small (by decide) (by decide)).dv (by decide),?_⟩
 show ig 4 (V.int (c.fdiv 64)) _ _ _
 generalize c.fdiv 64=r;refine⟨_,rfl,_,_,rfl,rfl,(show(3:Int)≠0 by decide),rfl,_,rfl,fU (λc1=>?_) (λc1=>?_)⟩
 ·refine⟨aZ rfl,λp1 G1=>?_⟩
  generalize hH1:L2.upd H p1 _=H1;obtain⟨g1,e1⟩:=bJ G1 hH1;clear hH1;obtain⟨h0,hh0,h01,h05⟩:∃h:Nat,qe [V.int 1,.int 2,.int 3,.int 5,.int 1,.int 4] (r.fmod 6)=j? (.int (h:Int))/\1<=h/\h<=5:=by
   obtain⟨k,hk,ek⟩:=i6 r (show 0<6 by decide)
   rw[show r.fmod 6=(k:Int) from ek]
   match k,hk with
   | 0,_=>exact⟨1,rfl,by decide,by decide⟩
   | 1,_=>exact⟨2,rfl,by decide,by decide⟩
   | 2,_=>exact⟨3,rfl,by decide,by decide⟩
   | 3,_=>exact⟨5,rfl,by decide,by decide⟩
   | 4,_=>exact⟨1,rfl,by decide,by decide⟩
   | 5,_=>exact⟨4,rfl,by decide,by decide⟩
  refine⟨_,rfl,_,_,rfl,rfl,(show(6:Int)≠0 by decide),p1,_,_,_,rfl,rfl,aP.of e1,hh0,?_⟩
  obtain⟨u,hu,eu⟩:=i6 (r.fdiv 6) (show 0<p-1 by omega)
  rw[show((p-1:Nat):Int)=(p:Int)-1 by omega] at eu
  refine⟨_,rfl,_,_,rfl,rfl,(Bd.small (by decide) (by decide)).dv (by decide),_,rfl,_,_,rfl,rfl,_,_,rfl,rfl,(show(p:Int)-1≠0 by omega),_,_,rfl,rfl,?_⟩
  show ig 6 (V.int (1+(r.fdiv 6).fmod ((p:Int)-1))) _ _ _
  rw[eu,show(1:Int)+(u:Int)=((1+u:Nat):Int) by omega]
  show Ends.nx _ (List.set _ _ _) _
  dsimp only
  refine sQ (λh:Nat=>[Iq (p),j? (.int c),Iq (m),Iq (n),j? (.int r),Iq (h),Iq ((1+u:Nat)),q?]) (λh H2=>H2=H1/\h<=5) (λC key=>?_) ?_
  ·refine nE (λσ H2=>H2=H1/\∃h:Nat,σ=[Iq (p),j? (.int c),Iq (m),Iq (n),j? (.int r),Iq (h),Iq ((1+u:Nat)),q?]/\1<=h/\h<=5) (λσ _=>match σ with | [_,_,_,_,_,j? (.int h),_,_]=>h.toNat|_=>0) ⟨rfl,h0,rfl,h01,h05⟩ ?_ ?_
   ·rintro σ H2 ⟨rfl,h,rfl,h1,h5⟩
    refine⟨_,rfl,_,rfl,(h:Int),(n:Int),rfl,by omega,_,_,rfl,rfl,_,rfl,fU (λcc=>?_) (λcc=>key h _ ⟨rfl,h5⟩)⟩
    have cc':(1:Int)<F8 (h:Int) (n:Int):=Jb cc;have h2:h≠1:=λz=>by
     rw[z] at cc';have:F8 ((1:Nat):Int) (n:Int)=1:=by unfold F8;simp
     omega
    refine⟨_,rfl,_,_,rfl,rfl,⟨rfl,h-1,?_,by omega,by omega⟩,?_⟩
    ·show [_,_,_,_,_,j? (V.int ((h:Int)-1)),_,_]=_
     rw[show(h:Int)-1=((h-1:Nat):Int) by omega]
    ·show((h:Int)-1).toNat<(h:Int).toNat
     omega
   ·rintro σ H Q Q' f ⟨v,e,v2,e2,a,b,e3,e4,i,j,e5,e6,k,ek,h⟩
    exact⟨v,e,v2,e2,a,b,e3,e4,i,j,e5,e6,k,ek,f _ _ h⟩
  ·rintro h H2 ⟨rfl,h5⟩
   exact⟨_,rfl,_,rfl,_,rfl,_,rfl,p,n,h,1+u,rfl,hp,hp2,n1,by omega,h5,by omega,(q.le nm).on g1⟩
 ·refine⟨_,rfl,_,_,rfl,rfl,(show(3:Int)≠0 by decide),rfl,_,rfl,fU (λc2=>?_) (λc2=>?_)⟩
  ·exact⟨_,rfl,_,rfl,_,rfl,p,r,n,rfl,hp,hp2,n1,by omega,q.le nm⟩
  refine⟨_,rfl,_,rfl,_,_,rfl,rfl,r,(n:Int)-1,1,rfl,by omega,by omega,rfl,λlow nl bl ll pl H1 g1 npl hpl=>?_⟩
  refine⟨_,rfl,_,rfl,pl,_,rfl,aP.of hpl,λp2 n2=>?_⟩
  rw[wz];generalize hH2:L2.upd H1 p2 _=H2;obtain⟨g2,e2⟩:=bJ n2 hH2;clear hH2;have lt:(low.take n).length<=n:=by rw[Ys];omega
  have bt:f6 5 (low.take n):=λx hx=>bl x (List.mem_of_mem_take hx)
  generalize low.take n=lo at e2 lt bt;refine⟨_,rfl,aZ rfl,λp3 n3=>?_⟩
  generalize hH3:L2.upd H2 p3 _=H3;obtain⟨g3,e3⟩:=bJ n3 hH3;clear hH3;refine⟨_,rfl,_,rfl,p2,_,rfl,.inl (aP.of (g3 _ _ e2)),_,_,rfl,rfl,p3,((n-lo.length:Nat):Int),_,rfl,Jd V.int (by rw[Ya];omega),e3,by omega,by omega,by rw[C?,Yf];show 1*_<=_;omega,λp4 n4=>?_⟩
  rw[Yf,rep0];generalize hH4:L2.upd H3 p4 _=H4;obtain⟨g4,e4⟩:=bJ n4 hH4;clear hH4;refine⟨p2,p4,_,_,rfl,rfl,g4 _ _ (g3 _ _ e2),e4,by rw[C?,Ya,Ya,Yp];omega,λp5 n5=>?_⟩
  generalize hH5:L2.upd H4 p5 _=H5;obtain⟨g5,e5⟩:=bJ n5 hH5;clear hH5;refine⟨aZ rfl,λp6 n6=>?_⟩
  generalize hH6:L2.upd H5 p6 _=H6;obtain⟨g6,e6⟩:=bJ n6 hH6;clear hH6;refine⟨p5,p6,_,_,rfl,rfl,g6 _ _ e5,e6,by rw[C?,Yk,Ya,Ya,Yp];show _+1<=_;omega,λp7 n7=>?_⟩
  generalize hH7:L2.upd H6 p7 _=H7;obtain⟨g7,e7⟩:=bJ n7 hH7;clear hH7;have gA:=(((((g1.trans g2).trans g3).trans g4).trans g5).trans g6).trans g7;obtain⟨g,lg,mon,bg,eg⟩:∃g:List Int,g.length=n+1/\L2.dR g/\f6 5 g/\H7 p7=j? (.lst (g.map V.int)):=by
   have hl:(lo++Yi (n-lo.length) 0++[1]).length=n+1:=by
    rw[Yk,Yk,Yp];show _+1=_
    omega
   refine⟨lo++Yi (n-lo.length) 0++[1],hl,⟨(λz=>by rw[z] at hl;cases hl),?_⟩,λx hx=>?_,by rw[e7,Yt,Yt];rfl⟩
   ·rw[hl]
    unfold aq;rw[Yb,Y4 (by rw[Yk,Yp];omega),Yk,Yp,show n+1-1-(lo.length+(n-lo.length))=0 by omega]
    rfl
   ·rcases List.mem_append.mp hx with h|h
    ·rcases List.mem_append.mp h with h|h
     ·exact bt x h
     ·rw[(List.mem_replicate.mp h).2];show Zm 0<2 ^ 5;decide
    ·rw[List.mem_singleton] at h;rw[h];show Zm 1<2 ^ 5;decide
  clear e2 e3 e4 e5 e6 e7;have pwg:Pw 1 g n:=Pw.of lg mon (by omega) λk hk=>by
   have h1:(aq g k).natAbs<2 ^ 5:=bg.aq k;have h2:2 ^ 40<=(2 ^ 40) ^ (n-k):=Nat.le_self_pow (by omega) _
   omega
  obtain⟨bd,E',hE,S9,hrr⟩:=vS (pwg.mono (show 1<=2 by decide)) n1 (by omega)
  rw[show g.length-1=n by omega] at S9 hrr
  refine⟨_,rfl,p7,g,n,E',rfl,aP.of eg,lg,n1,by omega,mon,bd,hE,S9,hrr,λH8 g8=>?_⟩
  refine⟨_,rfl,_,_,rfl,rfl,(show(p:Int)≠0 by omega),rfl,_,rfl,fU (λc3=>?_) (λc3=>?_)⟩
  ·exact⟨_,rfl,_,rfl,_,rfl,p,r,n,rfl,hp,hp2,n1,by omega,(q.le nm).on (gA.trans g8)⟩
  refine⟨_,rfl,_,rfl,aZ rfl,λp9 n9=>?_⟩
  generalize hH9:L2.upd H8 p9 _=H9;obtain⟨g9,e9⟩:=bJ n9 hH9;clear hH9;obtain⟨h,hh,h2⟩:∃h:Nat,qe [V.int 0,.int 1,.int 1,.int 2] ((r.fdiv (10 ^ 12)).fmod 4)=j? (.int (h:Int))/\h<=2:=by
   obtain⟨k,hk,ek⟩:=i6 (r.fdiv (10 ^ 12)) (show 0<4 by decide)
   rw[show(r.fdiv (10 ^ 12)).fmod 4=(k:Int) from ek]
   match k,hk with
   | 0,_=>exact⟨0,rfl,by decide⟩
   | 1,_=>exact⟨1,rfl,by decide⟩
   | 2,_=>exact⟨1,rfl,by decide⟩
   | 3,_=>exact⟨2,rfl,by decide⟩
  refine⟨_,rfl,_,_,rfl,rfl,⟨by decide,by decide,by decide⟩,_,_,rfl,rfl,(Bd.small (by decide) (by decide)).dv (by decide),_,_,rfl,rfl,(show(4:Int)≠0 by decide),p9,_,_,_,rfl,rfl,aP.of e9,hh,?_⟩
  exact⟨p,n,h,p7,g,rfl,g9 _ _ (g8 _ _ eg),lg,mon,bg,hp,hp2,n1,by omega,h2,(q.le nm).on ((gA.trans g8).trans g9)⟩
end
def Cr:Sp:=λvs H Q _=>∃(p:Nat) (a b:Int),vs=[.int (p:Int),.int a,.int b,.int 6]/\2<=p/\p<48/\PT 2 6 H Q
section
theorem Em (B:ia mg)(zz:b_ P w K mg base 5 "_law_piece" JJ FO)(zA:b_ P w K mg base 3 "_law_shift" JQ (Cm K))(oz:b_ P w K mg base 3 "resultant" nC (J6 K))(iK:b_ P w K mg base 2 "_law_times" nA (oE K))(oF:b_ P w K mg base 1 "_law_size" DN FL)(F:Src K mg "_law_built" um JG):b_ P w K mg base 6 "_law_built" JG Cr:=by
 refine F.ok gx (λvs H Q E h=>?_) (λf cdv A outer s H vs Q E hr h=>?_)
 ·obtain⟨p,a,b,rfl,_⟩:=h;rfl
 obtain⟨p,a,b,rfl,hp,hp2,q⟩:=h;refine⟨_,ai (ko (aF zz hr (af (pv 0) (af (pv 1) (af (bC (aG (K:=K) rfl) (bF (af (pv 3) (af ak ah))) (av bK (av bU (pv 1) ak) ak) (λ_ _=>rfl)) ah)))) (cP (n:=2) (K:=K) rfl rfl (aS (aB (i:=4) gx.nd rfl (z? rfl)) (aS (aB (i:=5) gx.nd rfl (z? rfl)) cO))))
  (ai (cW (aW iV (av bK (av bU (pv 1) ak) ak) ak (bD _))
   (au (aJ (i8 (af (aF zA hr (af (pv 4) (af (av bO (av bK (pv 2) ak) ak) ah))) (af (pv 5) ah)))))
   (bY))
  (ai (ko (aF zz hr (af (pv 0) (af (pv 2) (af ak ah)))) (cP (n:=2) (K:=K) rfl rfl (aS (aB (i:=6) gx.nd rfl (z? rfl)) (aS (aB (i:=7) gx.nd rfl (z? rfl)) cO))))
  (ai (aD (i:=6) gx.nd rfl (z? rfl) (aF zA hr (af (pv 6) (af (bC (aG (K:=K) rfl) (bF (af ak (af ak (af (pv 0) (af (av b9 (pv 0) ak) (af ak ah)))))) (av bK (av bU (pv 2) ak) ak) (λ_ _=>rfl)) ah))))
  (ai (aD (i:=8) gx.nd rfl (z? rfl) (aF oz hr (af (pv 4) (af (pv 6) ah))))
  (ai (cW (aW iV (pv 8) ak (bD _))
   (au (aJ (i8 (af (pv 4) (af (pv 5) ah)))))
   (bY))
  (au (aJ (i8 (af (aF iK hr (af (pv 4) (af (pv 6) ah))) (af (av b9 (av b9 (pv 5) (pv 7)) (aF oF hr (af (pv 8) (af (pv 0) ah)))) ah)))))))))),?_⟩
 obtain⟨k2,hk2,ek2⟩:=i6 (a.fdiv 4) (show 0<2 by decide)
 refine⟨_,rfl,_,rfl,_,rfl,aZ rfl,λp1 n1=>?_⟩
 generalize hH1:L2.upd H p1 _=H1;obtain⟨g1,e1⟩:=bJ n1 hH1;clear hH1;obtain⟨m,hm,m1,m6,m3⟩:∃m:Nat,qe [V.int 6,.int 3] ((a.fdiv 4).fmod 2)=j? (.int (m:Int))/\1<=m/\m<=6/\((a.fdiv 4).fmod 2≠0->m<=3):=by
  rw[show(a.fdiv 4).fmod 2=(k2:Int) from ek2]
  match k2,hk2 with
  | 0,_=>exact⟨6,rfl,by decide,by decide,λz=>Jf rfl z⟩
  | 1,_=>exact⟨3,rfl,by decide,by decide,λ_=>by decide⟩
 refine⟨_,rfl,_,_,rfl,rfl,(Bd.small (by decide) (by decide)).dv (by decide),_,_,rfl,rfl,(show(2:Int)≠0 by decide),p1,_,_,_,rfl,rfl,aP.of e1,hm,?_⟩
 refine⟨p,a,m,rfl,hp,hp2,m1,m6,λf n ix t l H2 g2 et el pf G1 nm=>?_⟩
 have V3:=g1.trans g2;refine⟨t,_,rfl,jv.of et,rfl,_,_,rfl,_,_,rfl,rfl,?_⟩
 refine⟨_,rfl,_,_,rfl,rfl,(Bd.small (by decide) (by decide)).dv (by decide),_,_,rfl,rfl,(show(2:Int)≠0 by decide),rfl,_,rfl,fU (λc1=>?_) (λc1=>?_)⟩
 ·obtain⟨k7,hk7,ZV⟩:=i6 b (show 0<7 by decide)
  have ZV:b.fmod 7=(k7:Int):=ZV;refine⟨_,rfl,_,rfl,_,_,rfl,rfl,(show(7:Int)≠0 by decide),_,_,rfl,rfl,l,f,_,8,rfl,aP.of el,by rw[pf.len];omega,pf.Gh.mono (by omega),(by show(b.fmod 7-3).natAbs<2 ^ 8;omega),by decide,by decide,λr H3 g3 nr er=>?_⟩
  refine⟨_,rfl,aZ rfl,λp4 n4=>?_⟩
  generalize hH4:L2.upd H3 p4 _=H4;obtain⟨g4,e4⟩:=bJ n4 hH4;exact q _ n _ p4 r H4 ((V3.trans g3).trans g4) e4 (g4 _ _ er) (pf.shift (by show(b.fmod 7-3).natAbs<=_;omega)) G1 (by omega)
 have m3:=m3 λz=>c1 (Ja (Jd V.int z))
 refine⟨_,rfl,_,rfl,p,b,3,rfl,hp,hp2,by decide,by decide,λg n' ix' t' l' H3 g3 et' el' pg acy nm'=>?_⟩
 refine⟨t',_,rfl,jv.of et',rfl,_,_,rfl,_,_,rfl,rfl,?_⟩
 have g03:=V3.trans g3;refine⟨_,rfl,_,rfl,_,rfl,_,_,rfl,rfl,aZ rfl,λp4 n4=>?_⟩
 generalize hH4:L2.upd H3 p4 _=H4;obtain⟨g4,e4⟩:=bJ n4 hH4;clear hH4;obtain⟨sh,hsh,s0,s1⟩:∃sh:Nat,qe [V.int 0,.int 1,.int (p:Int),.int ((p:Int)+1),.int 3] ((b.fdiv 3).fmod 5)=j? (.int (sh:Int))/\0<=sh/\sh<=48:=by
  obtain⟨k,hk,ek⟩:=i6 (b.fdiv 3) (show 0<5 by decide)
  rw[show(b.fdiv 3).fmod 5=(k:Int) from ek]
  match k,hk with
  | 0,_=>exact⟨0,rfl,by decide,by decide⟩
  | 1,_=>exact⟨1,rfl,by decide,by decide⟩
  | 2,_=>exact⟨p,rfl,by omega,by omega⟩
  | 3,_=>exact⟨p+1,rfl,by omega,by omega⟩
  | 4,_=>exact⟨3,rfl,by decide,by decide⟩
 refine⟨_,rfl,_,_,rfl,rfl,(Bd.small (by decide) (by decide)).dv (by decide),_,_,rfl,rfl,(show(5:Int)≠0 by decide),p4,_,_,_,rfl,rfl,aP.of e4,hsh,?_⟩
 refine⟨l',g,_,8,rfl,aP.of (g4 _ _ el'),by rw[pg.len];omega,pg.Gh.mono (by omega),(by show(sh:Int).natAbs<2 ^ 8;omega),by decide,by decide,λr H5 g5 nr er=>?_⟩
 have MZ:Pw 2 (fh (sh:Int) g) n':=pg.shift (by omega)
 generalize fh (sh:Int) g=gs at er MZ;have NO:=(g3.trans g4).trans g5;have V4:=NO _ _ el;have Up:=pf.mono (show 1<=2 by decide)
 refine⟨_,rfl,_,rfl,l,r,f,gs,n,1100,rfl,aP.of V4,aP.of er,pf.len,G1,by omega,by rw[MZ.len];omega,pf.mon,.inr (by rw[MZ.mon.2];decide),pf.Gh.mono (by omega),MZ.Gh.mono (by omega),by decide,by omega,Up.ent G1 (by omega) (by rw[MZ.len];omega) (λk=>Yn (MZ.TR (by omega) k) (Yy (by decide) (by decide))) (vO Up.top G1 λm hm=>bG hm),λH6 g6=>?_⟩
 generalize det n _=both;have ZW:=(V3.trans NO).trans g6;refine⟨_,rfl,rfl,_,rfl,fU (λc2=>?_) (λc2=>?_)⟩
 ·refine⟨_,rfl,_,rfl,aZ rfl,λp7 n7=>?_⟩
  generalize hH7:L2.upd H6 p7 _=H7;obtain⟨g7,e7⟩:=bJ n7 hH7;exact q f n _ p7 l H7 (ZW.trans g7) e7 (g7 _ _ (g6 _ _ V4)) Up G1 (by omega)
 have c2':both≠0:=λz=>c2 (Ja (Jd V.int z))
 refine⟨_,rfl,_,rfl,l,r,f,gs,rfl,aP.of (g6 _ _ V4),aP.of (g6 _ _ er),by rw[pf.len];omega,by rw[MZ.len];omega,pf.Gh.mono (by omega),MZ.Gh.mono (by omega),λr7 H7 g7 nr7 er7=>?_⟩
 refine⟨_,rfl,_,rfl,_,_,rfl,rfl,_,rfl,_,rfl,both,(p:Int),rfl,c2',by omega,by omega,λv hv=>⟨_,_,rfl,rfl,aZ rfl,λp8 n8=>?_⟩⟩
 generalize hH8:L2.upd H7 p8 _=H8;obtain⟨g8,e8⟩:=bJ n8 hH8;exact q _ (n+n') _ p8 r7 H8 ((ZW.trans g7).trans g8) e8 (g8 _ _ er7) (Up.mul MZ) (by omega) (by omega)
end
theorem pO {n:Nat}(a:Int){c:Vc}{R:Nat->Vc}{j:Nat}:a*sm n c R j=sm n (λt=>a*c t) R j:=by
 have:=kB (n:=n) a (d:=c) (e:=λ_=>0) (R:=R) (j:=j)
 rw[gU,We] at this;rw[<- this];exact dS (λi _=>by show a*c i+0=_;rw[We]) λ_ _=>rfl
theorem Cs {f:Fn}{n:Nat}(a b:Int)(u v:Vc)(m:Nat):yc f n (λj=>a*u j) (λj=>b*v j) m=a*b*yc f n u v m:=by
 unfold yc;rw[<- pO,Z8];congr 1
 rw[pO];refine sS λi _=>?_
 rw[<- pO];grind
structure Bs (f:Fn)(n p:Nat)(G:Nat->Vc)(k:Nat->Nat):Prop where
 one:∀i,i<n->G i i=1
 jk:∀i,i<n->∀j,i<j->G i j=0
 oV:∀i j,i<n->j<i->0<=G i j/\G i j<(p:Int) ^ k i
 SQ:∀i,i<n->k i<=12
 cl:∀i j,i<n->j<n->∀E,(∀t,t<n->k t<=E)->∃c:Vc,∀m,m<n->yc f n (λa=>(p:Int) ^ (E-k i)*G i a) (λa=>(p:Int) ^ (E-k j)*G j a) m=sm n (λt=>c t*(p:Int) ^ (2*E-k t)) G m
theorem gy.bs {R:Type}[Lean.Grind.CommRing R]{f:Fn}{n p d:Nat}{φ:Vc->R}{ip:R}{T:Nat->Vc}{s:Nat->Nat}(X:Xr f n p φ ip)(G:gy n p φ ip d T s)(hp:2<=p)(Uo:d<=12):Bs f n p (λi j=>T i j / T i i) λi=>d-s i:=by
 have L:=G.lor;have T5:∀k:Nat,(p:Int) ^ k≠0:=λk=>Int.pow_ne_zero (by omega)
 have S_:∀k:Nat,0<(p:Int) ^ k:=λk=>Z9 (by omega)
 have es:∀i,i<n->T i i=(p:Int) ^ s i:=λi hi=>(G.pw i hi).1
 have hg:∀i,i<n->∀j,T i j=(p:Int) ^ s i*(T i j / T i i):=λi hi j=>by
  have:=uV.JE X L hp es hi j
  rw[es i hi] at this ⊢;exact(Int.mul_ediv_cancel' this).symm
 refine⟨λi hi=>Int.ediv_self (by rw[es i hi];exact T5 _),λi hi j hj=>by rw[L.st.jk i hi j hj];exact Int.zero_ediv _,λi j hi hj=>?_,λi _=>by omega,λi j hi hj E hE=>?_⟩
 ·have r:=G.oV i j hi (by omega)
  have e:=hg i hi j;have le:=(G.pw i hi).2;generalize T i j / T i i=g at e;have ed:(p:Int) ^ d=(p:Int) ^ s i*(p:Int) ^ (d-s i):=by rw[<- Zw,Nat.add_sub_cancel' le]
  have r2:=r.2.2 (by omega)
  rw[e,ed] at r2;rw[e] at r;exact⟨Int.nonneg_of_mul_nonneg_right r.1 (S_ (s i)) |> λh=>h,Int.lt_of_mul_lt_mul_left r2 (Wy (S_ _))⟩
 ·have B:=X.ya
  have hun:∀i,i<n->kC n φ ip d T (un i)=ip ^ d*φ (T i):=λi hi=>by
   unfold kC;rw[B.sup (λj=>sm n (un i) T j) (T i) λj _=>iO hi]
  obtain⟨c,hc⟩:=L.sub.mul ⟨un i,rfl⟩ ⟨un j,rfl⟩;rw[hun i hi,hun j hj] at hc;have hm:φ (T i)*φ (T j)=φ (yc f n (T i) (T j)):=B.mul (c:=λa b=>tk f n (a+b)) X.mul _ _
  have Vl:zc R ((p:Int) ^ d)*ip ^ d=1:=qJ X.inv d;have key:φ (yc f n (T i) (T j))=φ λm=>(p:Int) ^ d*sm n c T m:=by
   rw[B.smul,<- hm];have h1:ip ^ d*φ (T i)*(ip ^ d*φ (T j))=ip ^ d*φ λm=>sm n c T m:=hc
   have h2:zc R ((p:Int) ^ d)*(zc R ((p:Int) ^ d)*(ip ^ d*φ (T i)*(ip ^ d*φ (T j))))=zc R ((p:Int) ^ d)*(zc R ((p:Int) ^ d)*(ip ^ d*φ λm=>sm n c T m)):=by rw[h1]
   grind
  refine⟨c,λm hm=>?_⟩
  have e1:=B.inj _ _ key m hm;have eT:∀i,i<n->T i=λa=>(p:Int) ^ s i*(T i a / T i i):=λi hi=>funext (hg i hi)
  rw[eT i hi,eT j hj,Cs] at e1;rw[show sm n c T m=sm n (λt=>c t*(p:Int) ^ s t) (λt a=>T t a / T t t) m from sS λt ht=>by
   show c t*T t m=c t*(p:Int) ^ s t*(T t m / T t t)
   rw[Z8,<- hg t ht m]] at e1
  rw[Cs];generalize yc f n (λa=>T i a / T i i) (λa=>T j a / T j j) m=W at e1 ⊢
  have li:=(G.pw i hi).2;have lj:=(G.pw j hj).2;have hEi:=hE i hi;have hEj:=hE j hj;refine Ze (T5 (2*d)) ?_
  have h1:(p:Int) ^ (2*d)*((p:Int) ^ (E-(d-s i))*(p:Int) ^ (E-(d-s j))*W)=(p:Int) ^ (2*E)*((p:Int) ^ s i*(p:Int) ^ s j*W):=by
   rw[<- Z8,<- Z8 ((p:Int) ^ (2*E)),<- Zw,<- Zw,<- Zw,<- Zw,show 2*d+(E-(d-s i)+(E-(d-s j)))=2*E+(s i+s j) by omega]
  rw[h1,e1,pO,pO,pO];refine dS (λt ht=>?_) λ_ _=>rfl
  have lt:=(G.pw t ht).2;have hEt:=hE t ht;have h2:(p:Int) ^ (2*d)*(p:Int) ^ (2*E-(d-s t))=(p:Int) ^ (2*E)*((p:Int) ^ d*(p:Int) ^ s t):=by
   rw[<- Zw,<- Zw,<- Zw,show 2*d+(2*E-(d-s t))=2*E+(d+s t) by omega]
  show(p:Int) ^ (2*E)*((p:Int) ^ d*(c t*(p:Int) ^ s t))=(p:Int) ^ (2*d)*(c t*(p:Int) ^ (2*E-(d-s t)))
  grind
structure yu (H:Hp)(n:Nat)(G:Nat->Vc)(k:Nat->Nat)(vs:List V):Prop where
 len:vs.length=n
 at_:∀i,i<n->∃t l,vs[i]?=j? (.ref t)/\H t=j? (.tup [.ref l,.int (k i:Int)])/\H l=j? (.lst ((lv (i+1) (G i)).map V.int))
theorem yu.same {H H':Hp}{n:Nat}{G:Nat->Vc}{k:Nat->Nat}{vs:List V}(h:yu H n G k vs)(g:aH H H'):yu H' n G k vs:=⟨h.len,λi hi=>by
 obtain⟨t,l,h1,h2,h3⟩:=h.at_ i hi;exact⟨t,l,h1,g _ _ h2,g _ _ h3⟩⟩
theorem yu.get {H:Hp}{n:Nat}{G:Nat->Vc}{k:Nat->Nat}{vs:List V}(h:yu H n G k vs){i:Nat}{x:V}(hx:vs[i]?=j? x):i<n/\∃t l,x=.ref t/\H t=j? (.tup [.ref l,.int (k i:Int)])/\H l=j? (.lst ((lv (i+1) (G i)).map V.int)):=by
 have hi:i<n:=by have:=(List.getElem?_eq_some_iff.mp hx).1;rw[h.len] at this;exact this
 obtain⟨t,l,h1,h2,h3⟩:=h.at_ i hi;rw[h1] at hx;cases hx;exact⟨hi,t,l,rfl,h2,h3⟩
def FP:Sp:=λvs H Q _=>∃(a b:o?) (h f:List Int) (n:Nat),vs=[.ref a,.ref b]/\H a=j? (.lst (h.map V.int))/\H b=j? (.lst (f.map V.int))/\f.length=n+1/\L2.dR f/\1<=n/\n<=6/\h.length<=20/\f6 2000 h/\f6 300 f/\∀(ρ:Vc) r H',aH H H'->lC (aq f) n (aq h) ρ->(∀m,Bd 10000 (ρ m))->Rep H' (dX H) r (rE n ρ)->Q r H'
section
theorem AK (B:ia mg)(F:Src K mg "_law_rest_by" om nA):b_ P w K mg base 1 "_law_rest_by" nA FP:=by
 refine F.ok gZ (λvs H Q E h=>?_) (λfa cdv A outer s H vs Q E hr h=>?_)
 ·obtain⟨a,b,h,f,n,rfl,_⟩:=h;rfl
 obtain⟨a,b,h,f,n,rfl,ha,hb,lf,mf,hn,Lp,lh,bh,bf,q⟩:=h;refine⟨_,ai (aD (i:=2) gZ.nd rfl (z? rfl) (kZ gP rfl B.list j6 (af (pv 0) ah)))
  (ai (cD D? rfl (zg rfl B.range (af (av bO (aE (aN (K:=K) rfl) rfl B.len bI (af (pv 0) ah)) (aE (aN (K:=K) rfl) rfl B.len bI (af (pv 1) ah))) (af (ni i7 ak) (af (ni i7 ak) ah)))) (aB (i:=3) gZ.nd rfl (z? rfl))
   (ai (aD (i:=4) gZ.nd rfl (z? rfl) (bC (aG (K:=K) rfl) (pv 2) (av bO (av b9 (pv 3) (aE (aN (K:=K) rfl) rfl B.len bI (af (pv 1) ah))) ak) (λ_ _=>rfl)))
   (au (cD D? rfl (bN rfl B.range (af (aE (aN (K:=K) rfl) rfl B.len bI (af (pv 1) ah)) ah)) (aB (i:=5) gZ.nd rfl (z? rfl))
    (au (ko (av bO (bC (aG (K:=K) rfl) (pv 2) (av b9 (pv 3) (pv 5)) (λ_ _=>rfl)) (av aX (pv 4) (bC (aG (K:=K) rfl) (pv 1) (pv 5) (λ_ _=>rfl)))) (Hu (pv 2) (av b9 (pv 3) (pv 5)) set_list)))))))
  (au (aJ (av gm (eW (eX (K:=K) rfl) (pv 2) gb (gc (av bO (aE (aN (K:=K) rfl) rfl B.len bI (af (pv 1) ah)) ak))) (av lW (bF (af ak ah)) (aE (yK rfl) rfl B.«max» De (af ak (af (av bO (av bO (aE (aN (K:=K) rfl) rfl B.len bI (af (pv 1) ah)) ak) (aE (aN (K:=K) rfl) rfl B.len bI (af (pv 0) ah))) ah)))))))),?_⟩
 refine⟨_,rfl,a,_,rfl,.inl (aP.of ha),λp1 n1=>?_⟩
 generalize hH1:L2.upd H p1 _=H1;obtain⟨g1,e1⟩:=bJ n1 hH1;clear hH1;obtain⟨N,hN⟩:∃N,N=h.length-(f.length-1):=⟨_,rfl⟩;refine⟨_,rfl,a,_,rfl,.inl (aP.of (g1 _ _ ha)),_,rfl,b,_,rfl,.inl (aP.of (g1 _ _ hb)),_,_,rfl,rfl,1,rfl,1,rfl,_,_,rfl,⟨by rw[Ya,Ya];omega,by rw[Ya,Ya];omega,by decide,by decide⟩,?_⟩
 rw[Ya,Ya,show((h.length:Int)-(f.length:Int) -(-1)).toNat=N by omega]
 refine nL (λi σ H2=>aH H H2/\∃(Qr R:List Int) (o3 o4 o5:Option V),σ=[Rq a,Rq b,Rq p1,o3,o4,o5]/\H2 p1=j? (.lst (R.map V.int))/\wF h f N i Qr R/\f6 (2000+i*302) R) ⟨g1,[],h,_,_,_,rfl,e1,⟨rfl,rfl,λm hm=>?_,λm h1 h2=>by omega,λh=>Jf h (by decide)⟩,bh.mono (by omega)⟩ ?_ ?_
 ·have hz:conv (Hj N 0 []) f m=0:=by
   rw[qB (f':=[]) (g':=f) (λa=>?_) (λ_=>rfl)]
   ·rfl
   ·unfold Hj
    rw[List.reverse_nil,W0,cM,gT]
  rw[hz];omega
 ·rintro i σ H2 hi ⟨gg,Qr,R,o3,o4,o5,rfl,eR,D,bR⟩
  have lr:=D.lr;rw[show(h.length:Int)-(f.length:Int)-(i:Int)=((N-1-i:Nat):Int) by omega]
  refine⟨_,rfl,_,rfl,_,rfl,b,_,rfl,.inl (aP.of (gg _ _ hb)),_,_,rfl,rfl,_,_,rfl,rfl,p1,_,_,.int (aq R (N-1-i+(f.length-1))),rfl,rfl,aP.of eR,?_,?_⟩
  ·rw[Ya,show((N-1-i:Nat):Int)+(f.length:Int)-1=((N-1-i+(f.length-1):Nat):Int) by omega]
   have:=eK (ns:=R) (i:=((N-1-i+(f.length-1):Nat):Int)) (by omega) (by omega)
   rw[Yf] at this;exact this
  generalize qj:aq R (N-1-i+(f.length-1))=lead;have zq:Bd (2000+i*302) lead:=qj ▸ bR.aq _;refine⟨_,rfl,b,_,rfl,.inl (aP.of (gg _ _ hb)),_,rfl,by rw[Ya];omega,by rw[Ya];omega,?_⟩
  rw[Ya,Yf];refine cH (λj σ H3=>aH H H3/\∃(R':List Int) (o5:Option V),σ=[Rq a,Rq b,Rq p1,Iq ((N-1-i:Nat)),j? (.int lead),o5]/\H3 p1=j? (.lst (R'.map V.int))/\Lh f R R' (N-1-i) lead j/\f6 (2000+(i+1)*302) R') ⟨gg,R,_,rfl,eR,Lh.start ..,bR.mono (by omega)⟩ ?_ ?_
  ·rintro j σ H3 hj ⟨g3,R',o5,rfl,NL,hR,PZ⟩
   have hij:N-1-i+j<R.length:=by omega
   have MJ:N-1-i+j<R'.length:=by rw[hR.1];exact hij
   have a1:=eK (ns:=f) (i:=0+(j:Int)) (by omega) (by omega)
   have a2:=eK (ns:=R') (i:=((N-1-i:Nat):Int)+(0+(j:Int))) (by omega) (by omega)
   rw[show((0:Int)+(j:Int)).toNat=j by omega] at a1
   rw[show(((N-1-i:Nat):Int)+(0+(j:Int))).toNat=N-1-i+j by omega] at a2
   refine⟨_,rfl,_,rfl,_,rfl,_,_,rfl,rfl,p1,_,_,_,rfl,rfl,aP.of NL,a2,_,rfl,_,rfl,_,rfl,b,_,_,_,rfl,rfl,aP.of (g3 _ _ hb),a1,_,_,rfl,rfl,xA (zq.mono (by omega)) ((bf.aq j).mono (by decide)),_,_,rfl,rfl,?_⟩
   refine⟨_,rfl,_,rfl,_,rfl,_,_,rfl,rfl,p1,_,_,N-1-i+j,rfl,rfl,NL,?_,?_⟩
   ·rw[Ya,vC (by omega) (by omega)];congr 1;omega
   refine⟨g3.bw n1 _,R'.set (N-1-i+j) (aq R' (N-1-i+j)-lead*aq f j),_,rfl,?_,hR.step (t:=N-1-i) hij,tU λm hm=>?_⟩
   ·rw[j8];exact ay
   ·rw[nN MJ]
    split
    ·have e1:=hR.2 (N-1-i+j) hij
     rw[W8 (by omega)] at e1
     rw[e1];have b1:Bd (2000+i*302) (aq R (N-1-i+j)-0):=by rw[Int.sub_zero];exact bR.aq _
     exact(b1.sub (zq.mul (bf.aq j))).mono (by omega)
    ·exact PZ.aq m
  ·rintro σ H3 ⟨g3,R',o5,rfl,NL,hR,PZ⟩
   rw[<- qj] at hR;exact⟨g3,Qr++[aq R (N-1-i+(f.length-1))],R',_,_,_,rfl,NL,D.next mf hN hi hR,PZ⟩
 ·rintro σ H2 ⟨gg,Qr,R,o3,o4,o5,rfl,eR,D,bR⟩
  have dn:=D.done mf hN;have lr:=D.lr;refine⟨_,rfl,_,rfl,b,_,rfl,.inl (aP.of (gg _ _ hb)),_,_,rfl,rfl,(n:Int),Jd V.int (by rw[Ya];omega),p1,_,rfl,aP.of eR,λp2 n2=>?_⟩
  rw[wz];generalize hH3:L2.upd H2 p2 _=H3;obtain⟨g3,e3⟩:=bJ n2 hH3;clear hH3;refine⟨aZ rfl,λp4 n4=>?_⟩
  generalize hH4:L2.upd H3 p4 _=H4;obtain⟨g4,e4⟩:=bJ n4 hH4;clear hH4;have gA:=(gg.trans g3).trans g4;refine⟨_,rfl,b,_,rfl,.inl (aP.of (gA _ _ hb)),_,_,rfl,rfl,_,rfl,a,_,rfl,.inl (aP.of (gA _ _ ha)),_,_,rfl,rfl,_,_,rfl,p4,((n-h.length:Nat):Int),_,rfl,Jd V.int (by rw[Ya,Ya];split <;> omega),e4,by omega,by omega,by rw[C?,Yf];show 1*_<=_;omega,λp5 n5=>?_⟩
  rw[Yf,rep0];generalize hH5:L2.upd H4 p5 _=H5;obtain⟨g5,e5⟩:=bJ n5 hH5;clear hH5;refine⟨p2,p5,_,_,rfl,rfl,g5 _ _ (g4 _ _ e3),e5,by rw[C?,Ya,Ya,Ys,Yp];omega,λp6 n6=>?_⟩
  generalize hH6:L2.upd H5 p6 _=H6;obtain⟨g6,e6⟩:=bJ n6 hH6;clear hH6;have lo:∀m,n<=m->aq R m=0:=λm hm=>by
   rw[<- QM];have:=dn.len
   exact bG (by omega)
  have gB:=(gA.trans g5).trans g6;refine q (aq R) _ H6 gB ⟨⟨aq Qr.reverse,Qr.reverse.length,λm hm=>bG hm,λm=>by rw[dn.eq m,zT,QM]⟩,lo⟩ (λm=>(bR.aq m).mono (by omega)) (Fd ?_ (((gA.trans g5)).free n6))
  rw[e6,<- Yt];congr 3
  refine Zr λm=>?_
  by_cases hm:m<n
  ·rw[cZ hm]
   by_cases hr:m<R.length
   ·rw[Y2 (by rw[Ys];omega),List.getElem?_take_of_lt hm,Yc hr]
    unfold aq;rw[Yb,Yc hr];rfl
   ·rw[Y4 (by rw[Ys];omega),Ys,Zi,W9 (by omega),bG (by omega)]
  ·rw[List.getElem?_eq_none_iff.mpr (by rw[Yk,Ys,Yp];omega),List.getElem?_eq_none_iff.mpr (by rw[aQ];omega)]
end
def yw (p E:Nat)(G:Nat->Vc)(k:Nat->Nat):Nat->Vc:=λi j=>(p:Int) ^ (E-k i)*G i j
def FQ:Sp:=λvs H Q _=>∃(a:o?) (us:List V) (n p:Nat) (G:Nat->Vc) (k:Nat->Nat),vs=[.ref a,.int (n:Int),.int (p:Int)]/\H a=j? (.lst us)/\yu H n G k us/\1<=n/\n<=6/\2<=p/\p<48/\(∀i,i<n->k i<=12)/\(∀i j,i<n->Bd 100 (G i j))/\(∀i,i<n->∀j,i<j->G i j=0)/\
 ∀(E:Nat) t r H',aH H H'->E<=12->(∀i,i<n->k i<=E)->H' t=j? (.tup [.int (E:Int),r])->Rep H' (dX H) r (mE n n (yw p E G k))->Q (.ref t) H'
section
theorem G2 (B:ia mg)(fQ:b_ P w K mg base 1 "_law_power" Aj uz)(F:Src K mg "_law_rows" jQ JL):b_ P w K mg base 2 "_law_rows" JL FQ:=by
 refine F.ok zp (λvs H Q E h=>?_) (λfa cdv A outer s H vs Q E hr h=>?_)
 ·obtain⟨a,us,n,p,G,k,rfl,_⟩:=h;rfl
 obtain⟨a,us,n,p,G,k,rfl,ha,ba,hn,Lp,hp,hp2,hk,hG,jk,q⟩:=h;refine⟨_,ai (aD (i:=3) zp.nd rfl (Or.inr rfl) (aE (Dk (K:=K) rfl rfl) rfl B.«max» De (af (b8 (aI (N:=["_law_g","_law_k"]) (sl:=[q?,q?]) (ao jQ) PJ rfl rfl (by decide +kernel)) rfl (bM (K:=K) rfl (pv 0)) (λ_ _ _ _ _=>(cP (n:=2) (K:=K) rfl rfl (aS (aB (i:=0) (Yk_ ["_law_g","_law_k"]) rfl (z? rfl)) (aS (aB (i:=1) (Yk_ ["_law_g","_law_k"]) rfl (z? rfl)) cO)))) (λ_ _ _ _ _=>aU) (λ_ _ _ _ _=>(pv 1))) ah)))
  (au (aJ (i8 (af (pv 3) (af (sF (f9 (N:=MF) (sl:=[q?,q?,j? 1,j? 2,j? 3]) "_law_k" (ao jQ) PJ rfl rfl (by decide +kernel)) rfl (bM (K:=K) rfl (pv 0)) (λ_ _ _ _ _=>(cP (n:=2) (K:=K) rfl rfl (aS (aB (i:=0) (Yk_ MF) rfl (z? rfl)) (aS (aB (i:=1) (Yk_ MF) rfl (Or.inr rfl)) cO)))) (λ_ _ _ _ _=>aU) (λ_ _ _ _ _=>(b8 (aI (N:=["_law_one","_law_p","_law_most","_law_k"]) (sl:=[q?,j? 3,j? 4,j? 1]) (nQ (MD ((cB jQ).getD 1 (.Pass ⟨0,0,0,0⟩))) (ao jQ)) MF rfl rfl (by decide +kernel)) rfl (bM (K:=K) rfl (av gm (pv 0) (av lW (bF (af ak ah)) (av bO (pv 2) (aE (aN (K:=K) rfl) rfl B.len bI (af (pv 0) ah)))))) (λ_ _ _ _ _=>(aB (i:=0) (Yk_ ["_law_one","_law_p","_law_most","_law_k"]) rfl (z? rfl))) (λ_ _ _ _ _=>aU) (λ_ _ _ _ _=>(av aX (pv 0) (aF fQ hr (af (pv 1) (af (av bO (pv 2) (pv 3)) ah)))))))) ah))))),?_⟩
 refine⟨_,rfl,a,rfl,⟨_,aP.of ha⟩,λD hD=>?_⟩
 refine nW (λi=>.num (k i:Int)) (n:=n) ba.len ha hD (by omega) (λi vx H2 Q2 hi g2 lJ q2=>?_) λH2 g2 rr=>?_
 ·obtain⟨_,t,l,rfl,ht,hl⟩:=ba.get lJ
  exact⟨t,_,rfl,jv.of (g2 _ _ ht),rfl,_,_,rfl,_,_,rfl,rfl,_,rfl,q2 _ H2 (aH.refl _) (.num _)⟩
 obtain⟨lD,eD,MW,_⟩:=dU (n:=n) (v:=λi=>(k i:Int)) rr
 cases eD;refine⟨D,_,rfl,aP.of MW,(λz=>by have:=Jd Wr z;rw[aQ] at this;simp at this;omega),λM ZX ZY=>?_⟩
 obtain⟨E,eE,hE12,hE⟩:∃E:Nat,M=(E:Int)/\E<=12/\∀i,i<n->k i<=E:=by
  unfold lv at ZX ZY;obtain⟨i0,hi0,rfl⟩:=List.mem_map.mp ZX;refine⟨k i0,rfl,hk i0 (List.mem_range.mp hi0),λi hi=>?_⟩
  have:=ZY _ (List.mem_map.mpr ⟨i,List.mem_range.mpr hi,rfl⟩)
  omega
 subst eE;have ba2:=ba.same g2;refine⟨_,rfl,_,rfl,a,rfl,⟨_,aP.of (g2 _ _ ha)⟩,λD2 yi=>?_⟩
 refine nW (λi=>rE n (yw p E G k i)) (n:=n) ba.len (g2 _ _ ha) yi (by omega) (λi vx H3 Q3 hi g3 lJ q3=>?_) λH3 g3 Lm=>?_
 ·obtain⟨_,t,l,rfl,ht,hl⟩:=(ba2.same g3).get lJ
  refine⟨t,_,rfl,jv.of ht,rfl,_,_,rfl,_,_,rfl,rfl,?_⟩
  refine⟨_,rfl,aZ rfl,λp4 n4=>?_⟩
  generalize hH4:L2.upd H3 p4 _=H4;obtain⟨g4,e4⟩:=bJ n4 hH4;clear hH4;refine⟨_,rfl,_,rfl,l,_,rfl,.inl (aP.of (g4 _ _ hl)),_,_,rfl,rfl,p4,((n-(i+1):Nat):Int),_,rfl,Jd V.int (by rw[Ya,aQ];omega),e4,by omega,by omega,by rw[C?,Yf];show 1*_<=_;omega,λp5 n5=>?_⟩
  rw[Yf,rep0];generalize hH5:L2.upd H4 p5 _=H5;obtain⟨g5,e5⟩:=bJ n5 hH5;clear hH5;refine⟨l,p5,_,_,rfl,rfl,g5 _ _ (g4 _ _ hl),e5,by rw[C?,Ya,Ya,aQ,Yp];omega,λp6 n6=>?_⟩
  generalize hH6:L2.upd H5 p6 _=H6;obtain⟨g6,e6⟩:=bJ n6 hH6;clear hH6;rw[<- Yt] at e6;have hlen:(lv (i+1) (G i)++Yi (n-(i+1)) 0).length=n:=by rw[Yk,aQ,Yp];omega
  refine⟨p6,rfl,⟨_,aP.of e6⟩,λD4 VD=>?_⟩
  have ZZ:=(g4.trans g5).trans g6;refine nW (λj=>.num (yw p E G k i j)) (n:=n) (by rw[Ya];exact hlen) e6 VD (by omega) (λj vz H7 Q7 hj g7 SO q7=>?_) λH7 g7 Lo=>q3 _ H7 (ZZ.trans g7) (Lo.older ZZ)
  obtain⟨y,hy,rfl⟩:=a_ SO;have ey:y=G i j:=by
   by_cases c:j<i+1
   ·rw[Y2 (by rw[aQ];exact c),cZ c] at hy
    exact(M? hy).symm
   ·rw[Y4 (by rw[aQ];omega),Zi,aQ,W9 (by omega)] at hy
    rw[jk i hi j (by omega)]
    exact(M? hy).symm
  subst ey;have hEi:=hE i hi;refine⟨_,rfl,_,rfl,_,rfl,_,rfl,_,_,rfl,rfl,p,E-k i,Jd (λz=>[V.int (p:Int),V.int z]) (by omega),hp,by omega,by omega,_,_,rfl,rfl,Bd.ok (hG i j hi) (vR (m:=100) (by omega) (by omega)),?_⟩
  show Q7 (V.int (G i j*((p ^ (E-k i):Nat):Int))) H7
  have e:G i j*((p ^ (E-k i):Nat):Int)=yw p E G k i j:=by unfold yw;rw[Zx,Zs]
  rw[e];exact q7 _ H7 (aH.refl _) (.num _)
 ·refine⟨aZ rfl,λp4 n4=>?_⟩
  generalize hH4:L2.upd H3 p4 _=H4;obtain⟨g4,e4⟩:=bJ n4 hH4;exact q E p4 (.ref D2) H4 ((g2.trans g3).trans g4) hE12 hE e4 ((Lm.older g2).same g4)
end
def N5:Sp:=λvs H Q _=>∃(a:o?) (us:List V) (rv:V) (n p M:Nat) (G:Nat->Vc) (k:Nat->Nat) (v c:Vc),vs=[.ref a,rv,.int (p:Int),.int (M:Int)]/\H a=j? (.lst us)/\yu H n G k us/\1<=n/\n<=6/\2<=p/\p<48/\M<=24/\(∀i,i<n->k i<=M)/\(∀i j,i<n->Bd 100 (G i j))/\(∀i,i<n->∀j,i<j->G i j=0)/\(∀i,i<n->G i i=1)/\Rep H Any rv (rE n v)/\(∀m,m<n->Bd 12000 (v m))/\(∀m,m<n->v m=sm n (λt=>c t*(p:Int) ^ (M-k t)) G m)/\∀H',aH H H'->Q (.bl true) H'
section
theorem yx (B:ia mg)(fQ:b_ P w K mg base 1 "_law_power" Aj uz)(F:Src K mg "_law_whole_by" jt JF):b_ P w K mg base 2 "_law_whole_by" JF N5:=by
 refine F.ok dw (λvs H Q E h=>?_) (λfa cdv A outer s H vs Q E hr h=>?_)
 ·obtain⟨a,us,rv,n,p,M,G,k,v,c,rfl,_⟩:=h;rfl
 obtain⟨a,us,rv,n,p,M,G,k,v,c,rfl,ha,ba,hn,Lp,hp,hp2,hM,hk,hG,jk,one,rr,bv,ev,q⟩:=h;obtain⟨lr,rfl,hlr,_⟩:=dU rr;refine⟨_,ai (aD (i:=4) dw.nd rfl (Or.inr rfl) (kZ gP rfl B.list j6 (af (pv 1) ah)))
  (ai (cD D? rfl (zg rfl B.range (af (av bO (aE (aN (K:=K) rfl) rfl B.len bI (af (pv 0) ah)) ak) (af (ni i7 ak) (af (ni i7 ak) ah)))) (aB (i:=5) dw.nd rfl (z? rfl))
   (ai (ko (bC (aG (K:=K) rfl) (pv 0) (pv 5) (λ_ _=>rfl)) (cP (n:=2) (K:=K) rfl rfl (aS (aB (i:=6) dw.nd rfl (Or.inr rfl)) (aS (aB (i:=7) dw.nd rfl (z? rfl)) cO))))
   (ai (aD (i:=8) dw.nd rfl (Or.inr rfl) (aF fQ hr (af (pv 2) (af (av bO (pv 3) (pv 7)) ah))))
   (ai (cW (aW kY (av bK (bC (aG (K:=K) rfl) (pv 4) (pv 5) (λ_ _=>rfl)) (pv 8)) ak (bD _))
    (au (aJ jg))
    (bY))
   (ai (aD (i:=9) dw.nd rfl (Or.inr rfl) (av bU (bC (aG (K:=K) rfl) (pv 4) (pv 5) (λ_ _=>rfl)) (pv 8)))
   (au (aD (i:=4) dw.nd rfl (Or.inr rfl) (b8 (aI (N:=XO) (sl:=[q?,j? 4,j? 9,j? 8,j? 6]) (ao jt) XI rfl rfl (by decide +kernel)) rfl (bN rfl B.range (af (aE (aN (K:=K) rfl) rfl B.len bI (af (pv 4) ah)) ah)) (λ_ _ _ _ _=>(aB (i:=0) (Yk_ XO) rfl (z? rfl))) (λ_ _ _ _ _=>aU) (λ_ _ _ _ _=>(av bO (bC (aG (K:=K) rfl) (pv 1) (pv 0) (λ_ _=>rfl)) (av aX (av aX (pv 2) (pv 3)) (bC (aG (K:=K) rfl) (av gm (pv 4) (av lW (bF (af ak ah)) (aE (aN (K:=K) rfl) rfl B.len bI (af (pv 1) ah)))) (pv 0) (λ_ _=>rfl)))))))))))))
  (au (aJ jg))),?_⟩
 refine⟨_,rfl,lr,_,rfl,.inl (aP.of hlr),λp1 n1=>?_⟩
 generalize hH1:L2.upd H p1 _=H1;obtain⟨g1,e1⟩:=bJ n1 hH1;clear hH1;refine⟨_,rfl,a,_,rfl,.inl (aP.of (g1 _ _ ha)),_,_,rfl,rfl,1,rfl,1,rfl,_,_,rfl,⟨by rw[ba.len];omega,by rw[ba.len];omega,by decide,by decide⟩,?_⟩
 rw[ba.len,show((n:Int)-1 -(-1)).toNat=n by omega]
 refine nL (λi σ H2=>aH H H2/\∃(r:o?) (u:Vc) (o5 o6 o7 o8 o9:Option V),σ=[Rq a,Rq lr,Iq (p),Iq (M),Rq r,o5,o6,o7,o8,o9]/\H2 r=j? (.lst ((lv n u).map V.int))/\(∀m,m<n->u m=sm (n-i) (λt=>c t*(p:Int) ^ (M-k t)) G m)/\∀m,m<n->Bd (12000+110*i) (u m)) ⟨g1,p1,v,_,_,_,_,_,rfl,e1,ev,bv⟩ ?_ ?_
 ·rintro i σ H2 hi ⟨g2,r,u,o5,o6,o7,o8,o9,rfl,er,eu,bu⟩
  rw[show(n:Int)-1-(i:Int)=((n-1-i:Nat):Int) by omega]
  obtain⟨d,hd⟩:∃d,d=n-1-i:=⟨_,rfl⟩;rw[<- hd];have hdn:d<n:=by omega
  rw[show n-i=d+1 by omega] at eu
  obtain⟨t,l,Nf,ht,hl⟩:=(ba.same g2).at_ d hdn;have hkd:=hk d hdn;refine⟨_,rfl,_,rfl,a,_,_,_,rfl,rfl,aP.of (g2 _ _ ha),dQ Nf,t,_,rfl,jv.of ht,rfl,_,_,rfl,_,_,rfl,rfl,?_⟩
  refine⟨_,rfl,_,rfl,_,rfl,_,_,rfl,rfl,p,M-k d,Jd (λz=>[V.int (p:Int),V.int z]) (by omega),hp,by omega,by omega,?_⟩
  have Tc:0<((p ^ (M-k d):Nat):Int):=by rw[Zx];exact Z9 (by omega)
  have bP:Bd 200 ((p ^ (M-k d):Nat):Int):=vR (by omega) (by omega)
  have Uq:u d=((p ^ (M-k d):Nat):Int)*c d:=by
   rw[eu d hdn];show sm d _ G d+c d*(p:Int) ^ (M-k d)*G d d=_
   rw[iA (q:=0) λt ht=>jk t (by omega) d ht,one d hdn,Zx]
   grind
  have Z_:∀m,m<n->u m-c d*((p ^ (M-k d):Nat):Int)*G d m=sm d (λt=>c t*(p:Int) ^ (M-k t)) G m:=λm hm=>by
   rw[eu m hm];show sm d _ G m+c d*(p:Int) ^ (M-k d)*G d m-_=_
   rw[Zx];omega
  generalize hPd:((p ^ (M-k d):Nat):Int)=Pd at Tc bP Uq Z_;have a1:=nv (n:=n) (v:=u) hdn;refine⟨_,rfl,_,rfl,r,_,_,_,rfl,rfl,aP.of er,a1,_,rfl,_,_,rfl,rfl,(show Pd≠0 by omega),rfl,_,rfl,fU (λz=>?_) (λ_=>?_)⟩
  ·exfalso
   have z:(!decide (V.int ((u d).fmod Pd)=V.int 0))=true:=z;rw[Ja (Jd V.int ((nI Tc).mpr ⟨c d,Uq⟩))] at z;cases z
  refine⟨_,rfl,_,rfl,r,_,_,_,rfl,rfl,aP.of er,a1,_,rfl,_,_,rfl,rfl,bP.dv (show Pd≠0 by omega),?_⟩
  show ig 9 (V.int ((u d).fdiv Pd)) _ _ _
  rw[Uq,jG (show Pd≠0 by omega)]
  have V5:Bd (12000+110*i) (c d*Pd):=by rw[Zs,<- Uq];exact bu d hdn
  have bcd:Bd (12000+110*i) (c d):=by
   refine Bd.le (y:=c d*Pd) ?_ V5
   rw[Zf];exact Nat.le_mul_of_pos_right _ (by omega)
  refine⟨_,rfl,r,_,rfl,.inl (aP.of er),_,rfl,by rw[Ya,aQ];omega,by rw[Ya,aQ];omega,λD hD=>?_⟩
  rw[Ya,aQ,Yf];refine BJ (λm=>.num (u m-c d*Pd*G d m)) hD (by omega) (λm H3 Q3 hm g3 q3=>?_) λH3 g3 Lm=>?_
  ·have a2:=nv (n:=n) (v:=u) hm
   rw[show(m:Int)=0+(m:Int) by omega] at a2
   refine⟨_,rfl,_,rfl,r,_,_,_,rfl,rfl,aP.of (g3 _ _ er),a2,_,rfl,_,rfl,_,_,rfl,rfl,Bd.ok bcd bP (by omega),_,rfl,aZ rfl,λp4 n4=>?_⟩
   generalize hH4:L2.upd H3 p4 _=H4;obtain⟨g4,e4⟩:=bJ n4 hH4;clear hH4;refine⟨_,rfl,r,_,rfl,.inl (aP.of (g4 _ _ (g3 _ _ er))),p4,(n:Int),_,rfl,Jd V.int (by rw[Ya,aQ]),e4,by omega,by omega,by rw[C?,Yf];show 1*_<=_;omega,λp5 n5=>?_⟩
   rw[Yf,rep0];generalize hH5:L2.upd H4 p5 _=H5;obtain⟨g5,e5⟩:=bJ n5 hH5;clear hH5;have V6:=g5 _ _ (g4 _ _ (g3 _ _ hl));refine⟨l,p5,_,_,rfl,rfl,V6,e5,by rw[C?,Ya,Ya,aQ,Yp];omega,λp6 n6=>?_⟩
   generalize hH6:L2.upd H5 p6 _=H6;obtain⟨g6,e6⟩:=bJ n6 hH6;clear hH6;rw[<- Yt] at e6;have a3:qe ((lv (d+1) (G d)++Yi n 0).map V.int) (0+(m:Int))=j? (.int (G d m)):=by
    rw[Zu];refine dQ ?_
    rw[Ye];by_cases cc:m<d+1
    ·rw[Y2 (by rw[aQ];exact cc),cZ cc];rfl
    ·rw[Y4 (by rw[aQ];omega),Zi,aQ,W9 (by omega),jk d hdn m (by omega)];rfl
   refine⟨_,rfl,p6,_,_,_,rfl,rfl,aP.of e6,a3,_,_,rfl,rfl,Bd.ok V5 (hG d m hdn) (by omega),_,_,rfl,rfl,?_⟩
   exact q3 _ H6 ((g4.trans g5).trans g6) (.num _)
  ·obtain⟨lD,eD,MW,_⟩:=dU (n:=n) (v:=λm=>u m-c d*Pd*G d m) Lm
   cases eD;refine⟨g2.trans g3,D,_,_,_,_,_,_,rfl,MW,λm hm=>by rw[Z_ m hm,show n-(i+1)=d by omega],λm hm=>?_⟩
   exact((bu m hm).sub (V5.mul (hG d m hdn))).mono (by omega)
 ·rintro σ H2 ⟨g2,r,u,o5,o6,o7,o8,o9,rfl,er,eu,bu⟩
  exact q H2 g2
end
def Ct (K:bE):Sp:=λvs H Q _=>∃(a:o?) (f:List Int),vs=[.ref a]/\aP K H a (f.map V.int)/\f.length<=1000/\Norm f/\∀H',aH H H'->Q (.bl true) H'
def N6 (K:bE):Sp:=λvs H Q _=>∃(a:o?) (us:List V) (n p:Nat) (G:Nat->Vc) (k:Nat->Nat),vs=[.ref a,.int (n:Int),.int (p:Int)]/\H a=j? (.lst us)/\yu H n G k us/\n<=6/\2<=p/\p<48/\(∀i,i<n->k i<=12)/\(∀i,i<n->G i i=1)/\(∀i j,i<n->j<i->0<=G i j/\G i j<(p:Int) ^ k i)/\∀H',aH H H'->Q (.bl true) H'
section
theorem AL (B:ia mg)(F:Src K mg "_law_is_poly" kg DQ):b_ P w K mg base 1 "_law_is_poly" DQ (Ct K):=by
 refine F.ok An (λvs H Q E h=>?_) (λf cdv A outer s H vs Q E hr h=>?_)
 ·obtain⟨a,f,rfl,_⟩:=h;rfl
 obtain⟨a,f,rfl,ha,lf,nf,q⟩:=h;refine⟨_,ai (cW (PW.pt (nh (gO (gk (aE (cR (K:=K) rfl) rfl B.isinstance bX (af (pv 0) (af (gM (v:=.ty "list") rfl B.list j6 rfl) ah))))) (qv (gO (gk (aE (yT (K:=K) rfl rfl) rfl B.all HQ (af (b8 (aI (N:=["_law_one"]) (sl:=[q?]) (ao kg) DQ rfl rfl (by decide +kernel)) rfl (bM (K:=K) rfl (pv 0)) (λ_ _ _ _ _=>(aB (i:=0) (Yk_ ["_law_one"]) rfl (z? rfl))) (λ_ _ _ _ _=>aU) (λ_ _ _ _ _=>(lQ (aE (cR (K:=K) rfl) rfl B.isinstance bX (af (pv 0) (af (gM (v:=.ty "int") rfl B.int Df rfl) ah))) (lO (C6 (aE (cR (K:=K) rfl) rfl B.isinstance bX (af (pv 0) (af (gM (v:=.ty "bool") rfl B.bool zM rfl) ah)))))))) ah)))))))
   (au (aJ jg))
   (bY))
  (au (aJ (M8 (j5 (mh (K:=K) rfl hr.units) (pv 0) (bF ah) (bD _)) (lO (j5 kY (bC (aG (K:=K) rfl) (pv 0) (ni i7 ak) (λ_ _=>rfl)) ak (bD _)))))),?_⟩
 refine⟨_,rfl,_,"list","list",true,rfl,.lst ha,rfl,_,rfl,gp ?_⟩
 refine⟨_,rfl,a,rfl,⟨_,ha⟩,λD hD=>?_⟩
 refine fN (xs:=f.map V.int) (λi ys H2=>aH H H2/\ys=(Yi i true).map V.bl) ⟨aA hD _,rfl⟩ (λi ys H2 _ h=>h.1.seq ha) ?_ ?_
 ·rintro i m x ys H2 hm hi hx hy hlen ⟨gg,rfl⟩
  obtain⟨n,hn,rfl⟩:=a_ hx;refine⟨_,rfl,_,"int","int",true,rfl,.int n,rfl,_,rfl,?_⟩
  refine jE ⟨_,rfl,_,"int","bool",false,rfl,.int n,by with_unfolding_all rfl,_,rfl,?_⟩
  refine CW.emit hm hi (by rw[Ya,C?];omega) hy hlen ⟨aH.bw gg hD _,?_⟩
  exact(qi i).symm
 ·rintro ys H2 hy ⟨gg,rfl⟩
  refine⟨D,_,rfl,aP.of hy,_,rfl,?_⟩
  rw[all_true];refine gp ?_
  refine⟨_,rfl,aZ rfl,λp1 n1=>?_⟩
  have g1:=gg.trans (aA n1 (.lst []));refine RU (xs:=f) (ys:=[]) (g1.seq ha) (aP.of ay) ⟨_,rfl,fU (λc=>?_) (λc=>?_)⟩
  ·exact q _ g1
  ·have hf:f≠[]:=λz=>c (Ja z)
   refine⟨_,rfl,_,rfl,a,_,_,_,rfl,rfl,g1.seq ha,su hf,rfl,?_⟩
   have e:decide (V.int (aq f (f.length-1))=V.int 0)=false:=Jc λz=>nf.last hf (V.int.inj z)
   rw[e];exact q _ g1
theorem yy (B:ia mg)(Cz:b_ P w K mg base 1 "_law_is_poly" DQ (Ct K))(fQ:b_ P w K mg base 1 "_law_power" Aj uz)(F:Src K mg "_law_is_basis" ju JN):b_ P w K mg base 2 "_law_is_basis" JN (N6 K):=by
 refine F.ok iT (λvs H Q E h=>?_) (λfa cdv A outer s H vs Q E hr h=>?_)
 ·obtain⟨a,us,n,p,G,k,rfl,_⟩:=h;rfl
 obtain⟨a,us,n,p,G,k,rfl,ha,ba,Lp,hp,hp2,hk,one,oV,q⟩:=h;refine⟨_,ai (cW (PW.pt (nh (gO (gk (aE (cR (K:=K) rfl) rfl B.isinstance bX (af (pv 0) (af (gM (v:=.ty "list") rfl B.list j6 rfl) ah))))) (qv (aW kY (aE (aN (K:=K) rfl) rfl B.len bI (af (pv 0) ah)) (pv 1) (bD _)))))
   (au (aJ jg))
   (bY))
  (ai (cD D? rfl (bN rfl B.range (af (pv 1) ah)) (aB (i:=3) iT.nd rfl (z? rfl))
   (ai (cW (PW.pt (nh (gO (gk (aE (cR (K:=K) rfl) rfl B.isinstance bX (af (bC (aG (K:=K) rfl) (pv 0) (pv 3) (λ_ _=>rfl)) (af (gM (v:=.ty "tuple") rfl B.tuple HS rfl) ah))))) (nh (aW kY (aE (aN (K:=K) rfl) rfl B.len bI (af (bC (aG (K:=K) rfl) (pv 0) (pv 3) (λ_ _=>rfl)) ah)) ak (bD _)) (qv (gO (gk (aF Cz hr (af (bC (l_ (K:=K) rfl) (bC (aG (K:=K) rfl) (pv 0) (pv 3) (λ_ _=>rfl)) ak (λ_ _=>rfl)) ah))))))))
    (au (aJ jg))
    (bY))
   (ai (ko (bC (aG (K:=K) rfl) (pv 0) (pv 3) (λ_ _=>rfl)) (cP (n:=2) (K:=K) rfl rfl (aS (aB (i:=4) iT.nd rfl (z? rfl)) (aS (aB (i:=5) iT.nd rfl (Or.inr rfl)) cO))))
   (ai (cW (PW.pt (nh (gO (gk (aE (cR (K:=K) rfl) rfl B.isinstance bX (af (pv 5) (af (gM (v:=.ty "int") rfl B.int Df rfl) ah))))) (nh (gk (aE (cR (K:=K) rfl) rfl B.isinstance bX (af (pv 5) (af (gM (v:=.ty "bool") rfl B.bool zM rfl) ah)))) (nh (aW A7 (pv 5) ak (bD _)) (nh (aW kY (aE (aN (K:=K) rfl) rfl B.len bI (af (pv 4) ah)) (av b9 (pv 3) ak) (bD _)) (qv (aW kY (bC (aG (K:=K) rfl) (pv 4) (ni i7 ak) (λ_ _=>rfl)) ak (bD _))))))))
    (au (aJ jg))
    (bY))
   (au (cW (gO (gk (aE (yT (K:=K) rfl rfl) rfl B.all HQ (af (b8 (aI (N:=["_law_one","_law_p","_law_k"]) (sl:=[q?,j? 2,j? 5]) (ao ju) XM rfl rfl (by decide +kernel)) rfl (bM (K:=K) rfl (eW (eX (K:=K) rfl) (pv 4) gb (gc (ni i7 ak)))) (λ_ _ _ _ _=>(aB (i:=0) (Yk_ ["_law_one","_law_p","_law_k"]) rfl (z? rfl))) (λ_ _ _ _ _=>aU) (λ_ _ _ _ _=>(A8 Hy A7 ak (pv 0) (aF fQ hr (af (pv 1) (af (pv 2) ah)))))) ah))))
    (au (aJ jg))
    (bY)))))))
  (au (aJ jg))),?_⟩
 refine⟨_,rfl,_,"list","list",true,rfl,.lst (aP.of ha),rfl,_,rfl,gp ?_⟩
 refine⟨_,rfl,a,_,rfl,.inl (aP.of ha),_,rfl,rfl,_,rfl,k8 (by rw[ba.len]) ?_⟩
 refine⟨_,rfl,_,rfl,by omega,by omega,?_⟩
 rw[Yf];refine cH (λi σ H2=>aH H H2/\∃(o3 o4 o5:Option V),σ=[Rq a,Iq (n),Iq (p),o3,o4,o5]) ⟨aH.refl _,_,_,_,rfl⟩ ?_ ?_
 ·rintro i σ H2 hi ⟨g2,o3,o4,o5,rfl⟩
  obtain⟨t,l,Nf,ht,hl⟩:=(ba.same g2).at_ i hi;have ha2:=g2 _ _ ha;have Ur:qe us (0+(i:Int))=j? (.ref t):=by rw[Zu];exact dQ Nf
  have nG:Norm (lv (i+1) (G i)):=.inr (by rw[aQ,Wl,j9,W9 (by omega),one i hi];decide)
  refine⟨_,rfl,_,rfl,a,_,_,_,rfl,rfl,aP.of ha2,Ur,_,"tuple","tuple",true,rfl,.tup (jv.of ht),rfl,_,rfl,gp ?_⟩
  refine⟨_,rfl,_,rfl,a,_,_,_,rfl,rfl,aP.of ha2,Ur,t,_,rfl,.inr (jv.of ht),rfl,_,rfl,k8 rfl ?_⟩
  refine⟨_,rfl,_,rfl,a,_,_,_,rfl,rfl,aP.of ha2,Ur,?_⟩
  refine⟨t,_,0,.ref l,rfl,rfl,jv.of ht,rfl,l,lv (i+1) (G i),rfl,aP.of hl,by rw[aQ];omega,nG,λH3 g3=>⟨_,rfl,gp ?_⟩⟩
  have ha3:=g3 _ _ ha2;have ht3:=g3 _ _ ht;have hl3:=g3 _ _ hl;refine⟨_,rfl,_,rfl,a,_,_,_,rfl,rfl,aP.of ha3,Ur,t,_,rfl,jv.of ht3,rfl,_,_,rfl,_,_,rfl,rfl,?_⟩
  refine⟨_,rfl,_,"int","int",true,rfl,.int _,rfl,_,rfl,gp ?_⟩
  refine⟨_,rfl,_,"int","bool",false,rfl,.int _,by with_unfolding_all rfl,_,rfl,gp ?_⟩
  refine⟨_,rfl,_,_,rfl,rfl,_,rfl,fU (λz=>?_) (λ_=>?_)⟩
  ·exact Jf (Jb z) (by omega)
  refine⟨_,rfl,l,_,rfl,.inl (aP.of hl3),_,rfl,_,_,rfl,rfl,rfl,_,rfl,k8 (by show V.int _=V.int _;rw[Ya,aQ];congr 1;omega) ?_⟩
  have aL:=su (ns:=lv (i+1) (G i)) (λz=>by have:=Jd Wr z;rw[aQ] at this;cases this)
  rw[aQ,Wl,j9,W9 (by omega),one i hi] at aL
  refine⟨_,rfl,1,rfl,l,_,_,_,rfl,rfl,aP.of hl3,aL,rfl,_,rfl,k8 rfl ?_⟩
  refine⟨_,rfl,1,rfl,-1,rfl,l,_,rfl,aP.of hl3,λp4 n4=>?_⟩
  generalize hH4:L2.upd H3 p4 _=H4;obtain⟨g4,e4⟩:=bJ n4 hH4;clear hH4;rw[Gv _ (λz=>by have:=Jd Wr z;rw[Ya,aQ] at this;cases this),<- List.map_dropLast] at e4
  have ld:(lv (i+1) (G i)).dropLast.length=i:=by rw[List.length_dropLast,aQ,Wl]
  refine⟨p4,rfl,⟨_,aP.of e4⟩,λD hD=>?_⟩
  refine fN (xs:=(lv (i+1) (G i)).dropLast.map V.int) (λj ys H5=>aH H4 H5/\ys=(Yi j true).map V.bl) ⟨aA hD _,rfl⟩ (λj ys H5 _ h=>aP.of (h.1 _ _ e4)) ?_ ?_
  ·rintro j m x ys H5 hm hj hx hy hlen ⟨gg,rfl⟩
   rw[Ya,ld] at hj;obtain⟨y,hy',rfl⟩:=a_ hx;have ey:y=G i j:=by
    rw[List.getElem?_dropLast,aQ,W9 (by omega),cZ (by omega)] at hy'
    exact(M? hy').symm
   subst ey;obtain⟨r0,r1⟩:=oV i j hi hj;have hki:=hk i hi;refine⟨_,rfl,_,_,rfl,rfl,_,rfl,?_⟩
   rw[W9 (Ja r0)];refine⟨_,rfl,_,rfl,p,k i,rfl,hp,by omega,by omega,_,_,rfl,rfl,?_⟩
   refine CW.emit hm (by rw[Ya,ld];exact hj) (by rw[Ya,ld,C?];omega) hy hlen ⟨aH.bw gg hD _,?_⟩
   show _++[V.bl (decide (G i j<((p ^ k i:Nat):Int)))]=_
   rw[Ja (show G i j<((p ^ k i:Nat):Int) by rw[Zx];exact r1)]
   exact(qi j).symm
  ·rintro ys H5 hy ⟨gg,rfl⟩
   refine⟨D,_,rfl,aP.of hy,_,rfl,?_⟩
   rw[all_true];exact gp ⟨((g2.trans g3).trans g4).trans gg,_,_,_,rfl⟩
 ·rintro σ H2 ⟨g2,o3,o4,o5,rfl⟩
  exact q H2 g2
end
theorem N7 {p E k:Nat}(hp:p<48)(h:E<=12):Bd 100 ((p:Int) ^ (E-k)):=by
 rw[<- Zx];exact vR (by omega) (by omega)
theorem Bs.bd {f:Fn}{n p:Nat}{G:Nat->Vc}{k:Nat->Nat}(b:Bs f n p G k)(hp:p<48){i:Nat}(hi:i<n)(j:Nat):Bd 100 (G i j):=by
 by_cases c:i<j
 ·rw[b.jk i hi j c];show Zm 0<_;exact Z0 (by decide)
 ·by_cases e:j=i
  ·rw[e,b.one i hi];show Zm 1<_;exact Yj (show 1<2 ^ 1 by decide) (Yy (by decide) (by decide))
  ·have r:=b.oV i j hi (by omega)
   have hk:=b.SQ i hi;have h2:Bd 100 ((p:Int) ^ (k i-0)):=N7 (k:=0) hp hk;rw[Nat.sub_zero] at h2;exact Bd.le (y:=(p:Int) ^ k i) (by omega) h2
def Td (K:bE):Sp:=λvs H Q _=>∃(a b:o?) (us:List V) (f:List Int) (n p:Nat) (G:Nat->Vc) (k:Nat->Nat),vs=[.ref a,.int (p:Int),.ref b]/\H a=j? (.lst (f.map V.int))/\H b=j? (.lst us)/\yu H n G k us/\Bs (aq f) n p G k/\f.length=n+1/\L2.dR f/\f6 300 f/\1<=n/\n<=6/\2<=p/\p<48/\∀H',aH H H'->Q (.bl true) H'
section
theorem CA (B:ia mg)(KI:b_ P w K mg base 2 "_law_rows" JL FQ)(iK:b_ P w K mg base 2 "_law_times" nA (oE K))(CB:b_ P w K mg base 1 "_law_rest_by" nA FP)(AM:b_ P w K mg base 2 "_law_whole_by" JF N5)(F:Src K mg "_law_closed" qR JM):b_ P w K mg base 3 "_law_closed" JM (Td K):=by
 refine F.ok fG (λvs H Q E h=>?_) (λfa cdv A outer s H vs Q E hr h=>?_)
 ·obtain⟨a,b,us,f,n,p,G,k,rfl,_⟩:=h;rfl
 obtain⟨a,b,us,f,n,p,G,k,rfl,ha,hb,ba,bs,lf,mf,bf,hn,Lp,hp,hp2,q⟩:=h;refine⟨_,ai (aD (i:=3) fG.nd rfl (z? rfl) (av bO (aE (aN (K:=K) rfl) rfl B.len bI (af (pv 0) ah)) ak))
  (ai (ko (aF KI hr (af (pv 2) (af (pv 3) (af (pv 1) ah)))) (cP (n:=2) (K:=K) rfl rfl (aS (aB (i:=4) fG.nd rfl (z? rfl)) (aS (aB (i:=5) fG.nd rfl (z? rfl)) cO))))
  (ai (cD D? rfl (bN rfl B.range (af (pv 3) ah)) (aB (i:=6) fG.nd rfl (z? rfl))
   (au (cD D? rfl (tM rfl B.range (af (pv 6) (af (pv 3) ah))) (aB (i:=7) fG.nd rfl (z? rfl))
    (ai (aD (i:=8) fG.nd rfl (z? rfl) (aF CB hr (af (aF iK hr (af (bC (aG (K:=K) rfl) (pv 5) (pv 6) (λ_ _=>rfl)) (af (bC (aG (K:=K) rfl) (pv 5) (pv 7) (λ_ _=>rfl)) ah))) (af (pv 0) ah))))
    (au (cW (gO (gk (aF AM hr (af (pv 2) (af (pv 8) (af (pv 1) (af (av aX ak (pv 4)) ah)))))))
     (au (aJ jg))
     (bY)))))))
  (au (aJ jg)))),?_⟩
 refine⟨_,rfl,a,_,rfl,.inl (aP.of ha),_,_,rfl,rfl,?_⟩
 show ig 3 (V.int (((f.map V.int).length:Int)-1)) _ _ _
 rw[Ya,lf,show(((n+1:Nat):Int)-1)=(n:Int) by omega]
 refine⟨_,rfl,_,rfl,_,rfl,b,us,n,p,G,k,rfl,hb,ba,hn,Lp,hp,hp2,bs.SQ,λi j hi=>bs.bd hp2 hi j,bs.jk,λE t r H1 g1 hE hkE ht rr=>?_⟩
 obtain⟨lr,ws,rfl,hlr,_,C⟩:=id rr.cf;refine⟨t,_,rfl,jv.of ht,rfl,_,_,rfl,_,_,rfl,rfl,?_⟩
 refine⟨_,rfl,_,rfl,by omega,by omega,?_⟩
 rw[Yf];have ha1:=g1 _ _ ha;have hb1:=g1 _ _ hb;refine cH (λi σ H2=>aH H1 H2/\∃(o6 o7 o8:Option V),σ=[Rq a,Iq (p),Rq b,Iq (n),Iq (E),Rq lr,o6,o7,o8]) ⟨aH.refl _,_,_,_,rfl⟩ ?_ ?_
 ·rintro i σ H2 hi ⟨g2,o6,o7,o8,rfl⟩
  refine⟨_,rfl,_,rfl,_,_,rfl,⟨by omega,by omega,by omega,by omega⟩,?_⟩
  refine cH (λj σ H3=>aH H1 H3/\∃(o7 o8:Option V),σ=[Rq a,Iq (p),Rq b,Iq (n),Iq (E),Rq lr,j? (.int (0+(i:Int))),o7,o8]) ⟨g2,_,_,rfl⟩ ?_ ?_
  ·rintro j σ H3 hj ⟨g3,o7,o8,rfl⟩
   obtain⟨j',ej⟩:∃j':Nat,j'=i+j:=⟨_,rfl⟩;rw[show(0:Int)+(i:Int)+(j:Int)=(j':Int) by omega]
   have hj':j'<n:=by omega
   obtain⟨y1,hy1,r1⟩:=C.at_ i hi;obtain⟨y2,J1,r2⟩:=C.at_ j' hj';obtain⟨l1,rfl,hl1,_⟩:=dU (r1.same g3);obtain⟨l2,rfl,hl2,_⟩:=dU (r2.same g3);have a1:qe ws (0+(i:Int))=j? (.ref l1):=by rw[Zu];exact dQ hy1
   have a2:qe ws (j':Int)=j? (.ref l2):=dQ J1;have M0:∀i,i<n->f6 200 (lv n (yw p E G k i)):=λi hi=>tU λm hm=>by
    rw[j9];split
    ·exact(N7 (k:=k i) hp2 hE).mul (bs.bd hp2 hi m)
    ·show Zm 0<_;exact Z0 (by decide)
   refine⟨_,rfl,_,rfl,lr,_,_,_,rfl,rfl,aP.of (g3 _ _ hlr),a1,_,rfl,_,rfl,lr,_,_,_,rfl,rfl,aP.of (g3 _ _ hlr),a2,l1,l2,_,_,rfl,aP.of hl1,aP.of hl2,by rw[aQ];omega,by rw[aQ];omega,(M0 i hi).mono (by decide),(M0 j' hj').mono (by decide),λlp H4 g4 np hlp=>?_⟩
   have YJ:(trim (ee (lv n (yw p E G k i)) (lv n (yw p E G k j')))).length<=20:=by
    refine Yn (Cn _) (Yn (Co _ _) ?_)
    rw[aQ,aQ];omega
   have Vu:=((M0 i hi).ee (M0 j' hj')).trim;refine⟨_,rfl,lp,a,_,f,n,rfl,hlp,g4 _ _ (g3 _ _ ha1),lf,mf,hn,Lp,YJ,Vu.mono (by rw[aQ];omega),bf,λρ r5 H5 g5 hρ bρ P7=>?_⟩
   have eρ:ρ=yc (aq f) n (yw p E G k i) (yw p E G k j'):=by
    rw[QM,Nk] at hρ;exact lC.uniq (topC lf mf) hρ (Fx (topC lf mf) hn _ _)
   obtain⟨c,hc⟩:=bs.cl i j' hi hj' E hkE;have V7:=(g3.trans g4).trans g5;refine⟨_,rfl,_,rfl,_,rfl,_,rfl,_,_,rfl,rfl,gQ (by decide) (by decide),b,us,r5,n,p,2*E,G,k,ρ,c,Jd (λz=>[V.ref b,r5,V.int (p:Int),V.int z]) (by omega),V7 _ _ hb1,ba.same (g1.trans V7),hn,Lp,hp,hp2,by omega,λi hi=>by have:=hkE i hi;omega,λi j hi=>bs.bd hp2 hi j,bs.jk,bs.one,P7.any,λm _=>(bρ m).mono (by decide),λm hm=>by rw[eρ];exact hc m hm,λH6 g6=>⟨_,rfl,gp ⟨V7.trans g6,_,_,rfl⟩⟩⟩
  ·rintro σ H3 ⟨g3,o7,o8,rfl⟩
   exact⟨g3,_,_,_,rfl⟩
 ·rintro σ H2 ⟨g2,o6,o7,o8,rfl⟩
  exact q H2 (g1.trans g2)
end
structure Exq (K:bE)(N B:o?)(j:Nat)(cs:List o?):Prop where
 ex:PySem.W.exmOne K (.ref N) (.ref B)=j? true
 k:Gm K N
 va:PySem.W.kitOne K (.ref N) (.type "ValueError")=j? true
 ki:∀i c,cs[i]?=j? c->PySem.W.kitOne K (.ref N) (.ref c)=j? (decide (i=j))
theorem V8 {p:Nat}(h:p∈PR):LM (V.int (p:Int)) S2=true:=by
 unfold LM S2;rw[List.any_eq_true];exact⟨_,List.mem_map.mpr ⟨p,h,rfl⟩,by show((p:Int) ==(p:Int))=true;exact beq_self_eq_true _⟩
theorem N8 {K:bE}{H:Hp}{p:Nat}(h:p∈PR):qu K H (.int (p:Int)) true:=by
 rw[<- V8 h];exact .int _
theorem N9 {K:bE}{H:Hp}{a:o?}{f:List Int}{n r:Nat}(ha:H a=j? (.lst (f.map V.int)))(pw:Pw r f n)(n1:1<=n)(n6:n<=6):oB K H (.ref a) true:=
 .Qh ha (by rw[pw.len];omega) true ⟨λ_=>⟨pw.mon,by rw[pw.len];omega,by rw[pw.len];omega⟩,λ_=>rfl⟩
theorem FT {H:Hp}{a:o?}{f g:List Int}(h:H a=j? (.lst (f.map V.int)))(h':H a=j? (.lst (g.map V.int))):f=g:=by
 rw[h] at h';exact(List.map_inj_right (f:=V.int) λ_ _ z=>V.int.inj z).mp (HO.lst.inj (M? h'))
theorem FU {H:Hp}{Pp a:o?}{xs:List V}(t:fj fR Pp H)(h:H a=j? (.lst xs)):del H Pp a=j? (.lst xs):=by
 obtain⟨ps,hps,_⟩:=t;rw[jK (λz=>by rw[z,hps] at h;cases h)];exact h
def KJ (Pp:o?):Sp:=λvs H Q _=>∃(a:o?) (f:List Int) (n p v:Nat),vs=[.ref a,.int (p:Int)]/\H a=j? (.lst (f.map V.int))/\Pw 2 f n/\1<=n/\n<=6/\p∈PR/\fj fR Pp H/\dN f≠0/\fq (p:Int) (dN f) v/\24<v/\∀H',aH H H'->Q (.bl true) H'
section
theorem yz:H! "ValueError"=j? (.type "ValueError"):=by decide +kernel
theorem AN {aC cL b7 aR bW aV:o?}(x3:Exq K aV cL 3 [b7,aR,bW,aV])
  (kJ:mg "BranchError"=j? (.ref cL)) (jA:mg "NoPrime"=j? (.ref b7)) (eH:mg "NoPolynomial"=j? (.ref aR)) (iJ:mg "NotPlain"=j? (.ref bW)) (jB:mg "TooDeep"=j? (.ref aV))
  (B:ia mg) (kK:vf P w K mg base 11 "whole_basis" jL (AF K aC b7 aR bW aV)) (F:Src K mg "_law_refused" ou JW):b_ P w K mg base 12 "_law_refused" JW (KJ aC):=by
 refine F.ok mQ (λvs H Q E h=>?_) (λfa cdv A outer s H vs Q E hr h=>?_)
 ·obtain⟨a,f,n,p,v,rfl,_⟩:=h;rfl
 obtain⟨a,f,n,p,v,rfl,ha,pw,n1,n6,hp,tq,h0,hv,h24,q⟩:=h;refine⟨_,ai (O8 (i:=2) ⟨rfl,rfl⟩ mQ.nd rfl rfl rfl kJ
   (λpn E=>au (d8 (z8 kK IB hr (af (pv 0) (af (pv 1) ah)))))
   (λea=>ai (aD (i:=3) mQ.nd rfl (z? rfl) (bF (af (aE (jJ (K:=K) rfl) rfl B.isinstance bX (af (pv 2) (af (j4 (v:=.ref b7) rfl jA rfl) ah))) (af (aE (jJ (K:=K) rfl) rfl B.isinstance bX (af (pv 2) (af (j4 (v:=.ref aR) rfl eH rfl) ah))) (af (aE (jJ (K:=K) rfl) rfl B.isinstance bX (af (pv 2) (af (j4 (v:=.ref bW) rfl iJ rfl) ah))) ah)))))
   (au (aJ (lQ (aE (jJ (K:=K) rfl) rfl B.isinstance bX (af (pv 2) (af (j4 (v:=.ref aV) rfl jB rfl) ah))) (lQ (aE (jJ (K:=K) rfl) rfl B.isinstance bX (af (pv 2) (af (gM (v:=.ty "ValueError") rfl B.ValueError yz rfl) ah))) (lO (C6 (aE (DF (K:=K) (ea:=ea) rfl rfl) rfl B.any OQ (af (pv 3) ah))))))))))
  (au (aJ jg)),?_⟩
 walk_at "rd"
 refine⟨.ref a,.int (p:Int),true,true,rfl,N8 hp,N9 ha pw n1 n6,tq,λz=>(nomatch z),λ_ z=>(nomatch z),λ_ _ a' f' p' ex ha' ey hp' mf l2 Qk=>?_⟩
 cases ex;have ef:=FT ha ha';subst ef;have ep:p=p':=by have:=V.int.inj ey;omega
 subst ep;refine⟨FU tq ha,vS pw n1 n6,λz=>Jf z h0,λv' hv' _=>?_⟩
 have V9:=hv.uniq hv';subst V9;refine⟨λ_=>?_,λ_ z=>by omega⟩
 intro ea H1 g1;refine⟨aV,rfl,x3.ex,λea' σ' he hf hl=>?_⟩
 cases he;obtain⟨a0,a1,a2,a3,rfl⟩:∃a0 a1 a2 a3,σ'=[a0,a1,a2,a3]:=by
  match σ',hl with
  | [a0,a1,a2,a3],_=>exact⟨a0,a1,a2,a3,rfl⟩
 have e1:(upd H1 ea (.ext (pT ea aV))) ea=j? (.ext (pT ea aV)):=ay;have gE:=g1.trans (aA hf (.ext (pT ea aV)));generalize upd H1 ea _=H2 at e1 gE;refine⟨_,rfl,ea,_,_,_,rfl,e1,x3.k,.own (x3.ki 0 _ rfl),?_⟩
 refine⟨_,rfl,ea,_,_,_,rfl,e1,x3.k,.own (x3.ki 1 _ rfl),?_⟩
 refine⟨_,rfl,ea,_,_,_,rfl,e1,x3.k,.own (x3.ki 2 _ rfl),?_⟩
 refine⟨aZ rfl,λp3 n3=>?_⟩
 generalize hH3:L2.upd H2 p3 _=H3;obtain⟨g3,e3⟩:=bJ n3 hH3;have e1:=g3 _ _ e1;refine⟨_,rfl,ea,_,_,_,rfl,e1,x3.k,.own (x3.ki 3 _ rfl),_,rfl,jE ?_⟩
 refine⟨_,rfl,ea,_,_,_,rfl,e1,x3.k,.ty x3.va,_,rfl,jE ?_⟩
 refine⟨_,rfl,p3,_,[false,false,false],rfl,aP.of e3,e1,_,rfl,?_⟩
 exact q H3 (gE.trans g3)
end
section
theorem lU.calm {k:Nat}{f:o?}{fd:P!}{ps:List Str}{sp:Sp}(F:lU P w K mg base (Hl P w) k f fd ps sp):lU P w K mg base ES k f fd ps λvs H Q _=>sp vs H Q λ_ _ _=>False:=
 ⟨λvs H Q E h=>F.len _ _ _ _ h,λA outer s H args us vs Q E hr e0 hb hv hs=>codeAny_mono (F.run A outer s H args us vs Q _ hr e0 hb hv hs) λr s' q=>by
  cases r with
  | error e=>
   obtain⟨ea,C,H',_,_,h⟩:=q;exact h.elim
  | ok fl=>cases fl <;> exact q⟩
theorem vf.calm {k:Nat}{x:Str}{ps:List Str}{sp:Sp}(D:vf P w K mg base k x ps sp):b_ P w K mg base k x ps λvs H Q _=>sp vs H Q λ_ _ _=>False:=by
 obtain⟨f,fd,F,r⟩:=D.ex;exact⟨f,fd,lU.calm F,r⟩
def KL (Pp:o?):Sp:=λvs H Q _=>∃(a:o?) (f:List Int) (n p v:Nat),vs=[.ref a,.int (p:Int)]/\H a=j? (.lst (f.map V.int))/\Pw 2 f n/\1<=n/\n<=6/\p∈PR/\fj fR Pp H/\dN f≠0/\fq (p:Int) (dN f) v/\v<=24/\∀(G:Nat->Vc) (k:Nat->Nat) r us H',cF H Pp H'->fj fR Pp H'->Bs (aq f) n p G k->H r=q?->H' r=j? (.lst us)->yu H' n G k us->(∀i,i<n->∃t l,us[i]?=j? (.ref t)/\H' t=j? (.tup [.ref l,.int (k i:Int)])/\(∃xs,H' l=j? (.lst xs)/\xs.length<=10)/\H l=q?/\l≠r)->Q (.ref r) H'
theorem M1 {aC C1 C2 C3 C4:o?}(D:vf P w K mg base 11 "whole_basis" jL (AF K aC C1 C2 C3 C4)):b_ P w K mg base 11 "whole_basis" jL (KL aC):=by
 obtain⟨fa,fd,F,r⟩:=(vf.calm D).ex;refine⟨fa,fd,F.imp λvs H Q E h=>?_,r⟩
 obtain⟨a,f,n,p,v,rfl,ha,pw,n1,n6,hp,tq,h0,hv,h24,q⟩:=h;refine⟨.ref a,.int (p:Int),true,true,rfl,N8 hp,N9 ha pw n1 n6,tq,λz=>(nomatch z),λ_ z=>(nomatch z),λ_ _ a' f' p' ex ha' ey hp' mf l2 Qk=>?_⟩
 cases ex;have ef:=FT ha ha';subst ef;have ep:p=p':=by have:=V.int.inj ey;omega
 subst ep;refine⟨FU tq ha,vS pw n1 n6,λz=>Jf z h0,λv' hv' _=>?_⟩
 have V9:=hv.uniq hv';subst V9;refine⟨λz=>?_,λ_ _ R _ φ ip d k T s r vs H' hN hT X G M Uo hr hv' ba=>?_⟩
 ·have:=pw.len
  omega
 ·have en:f.length-1=n:=by rw[pw.len];omega
  rw[en] at X G M ba;refine q _ _ r vs H' hN hT (gy.bs X G (cY hp).1 Uo) hr (cu hv').2 ⟨ba.len,λi hi=>?_⟩ λi hi=>?_
  ·obtain⟨t,l,h1,h2,h3,_⟩:=ba.at_ i hi
   exact⟨t,l,h1,(cu h2).2,(cu h3).2⟩
  ·obtain⟨t,l,h1,h2,h3,h4,h5⟩:=ba.at_ i hi
   exact⟨t,l,h1,(cu h2).2,⟨_,(cu h3).2,by rw[Ya,aQ];omega⟩,h4,h5⟩
end
theorem CC {qual:Str}{Pp p:o?}{H:Hp}{xs:List V}{o:HO}(h:fj qual Pp H)(hp:H p=j? (.lst xs)):fj qual Pp (upd H p o):=by
 obtain⟨ps,h1,h2,h3⟩:=h;refine⟨ps,by rw[aO (λz=>by rw[z,hp] at h1;cases h1)];exact h1,h2,λpos=>(h3 pos).imp id λ⟨c,a,b⟩=>⟨c,a,by rw[aO (λz=>by rw[z,hp] at b;cases b)];exact b⟩⟩
def FW (K:bE)(Pp:o?):Sp:=λvs H Q _=>∃(a:o?) (ns:List Int),vs=[.ref a]/\aP K H a (ns.map V.int)/\ns.length<=63/\H Pp=j? (.vU #[])/\∀H',Q (.bl true) H'
theorem M3 (c:Int):∃p:Nat,p∈PR/\qe [V.int 2,.int 3,.int 2,.int 3,.int 2,.int 5,.int 7,.int 11,.int 13,.int 17,.int 19,.int 23,.int 29,.int 31,.int 37,.int 41,.int 43,.int 47,.int 2,.int 3] (c.fmod 20)=j? (.int (p:Int)):=by
 obtain⟨k,hk,ek⟩:=i6 c (show 0<20 by decide)
 rw[show c.fmod 20=(k:Int) from ek]
 have key:∀k:Nat,k<20->∃p:Nat,p∈PR/\([2,3,2,3,2,5,7,11,13,17,19,23,29,31,37,41,43,47,2,3]:List Nat)[k]?=j? p:=by decide
 obtain⟨p,hp,e⟩:=key k hk;refine⟨p,hp,dQ ?_⟩
 have:=Jd (Option.map λn:Nat=>V.int (n:Int)) e
 rw[<- Ye] at this;exact this
section
theorem Qo {aC:o?}(B:ia mg)(qY:b_ P w K mg base 2 "_law_number" xq (Ck K))(G3:b_ P w K mg base 6 "_law_built" JG Cr)(fK:b_ P w K mg base 4 "discriminant" ["f"] (Au K))(oF:b_ P w K mg base 1 "_law_size" DN FL)(CD:b_ P w K mg base 12 "_law_refused" JW (KJ aC))(kK:b_ P w K mg base 11 "whole_basis" jL (KL aC))(AO:b_ P w K mg base 2 "_law_is_basis" JN (N6 K))(En:b_ P w K mg base 3 "_law_closed" JM (Td K))
  {f:o?} {fd:P!} (F:Lf K "law" "law" sY f fd):lU P w K mg base ES 13 f fd ["_law_script"] (FW K aC):=by
 refine F.ok mR (λvs H Q E h=>?_) (λcdv A outer s H vs Q E hr h=>?_)
 ·obtain⟨a,ns,rfl,_⟩:=h;rfl
 obtain⟨la,ns,rfl,hs,hl,hPp,q⟩:=h;refine⟨_,ai (aD (i:=1) mR.nd rfl (z? rfl) (bC (aG (K:=K) rfl) (bF (af ak (af ak (af ak (af ak (af ak (af ak (af ak (af ak (af ak (af ak (af ak (af ak (af ak (af ak (af ak (af ak (af ak (af ak (af ak (af ak ah))))))))))))))))))))) (av bK (aF qY hr (af (pv 0) (af ak ah))) ak) (λ_ _=>rfl)))
  (ai (ko (aF G3 hr (af (pv 1) (af (aF qY hr (af (pv 0) (af ak ah))) (af (aF qY hr (af (pv 0) (af ak ah))) (af ak ah))))) (cP (n:=2) (K:=K) rfl rfl (aS (aB (i:=2) mR.nd rfl (z? rfl)) (aS (aB (i:=3) mR.nd rfl (z? rfl)) cO))))
  (ai (aD (i:=4) mR.nd rfl (z? rfl) (aF fK hr (af (pv 2) ah)))
  (ai (cW (aW iV (pv 4) ak (bD _))
   (au (aJ jg))
   (bY))
  (ai (aD (i:=5) mR.nd rfl (z? rfl) (kZ gP rfl B.list j6 (af (pv 2) ah)))
  (ai (cW (aW yJ (aF oF hr (af (pv 4) (af (pv 1) ah))) ak (bD _))
   (au (aJ (lQ (aF CD hr (af (pv 5) (af (pv 1) ah))) (lO (j5 (mh (K:=K) rfl hr.units) (pv 5) (pv 2) (bD _))))))
   (bY))
  (ai (cD D? rfl (bN rfl B.range (af ak ah)) (aB (i:=6) mR.nd rfl (z? rfl))
   (ai (aD (i:=7) mR.nd rfl (z? rfl) (aF kK hr (af (pv 5) (af (pv 1) ah))))
   (ai (cW (PW.pt (nh (gO (gk (aF AO hr (af (pv 7) (af (av bO (aE (aN (K:=K) rfl) rfl B.len bI (af (pv 2) ah)) ak) (af (pv 1) ah)))))) (nh (gO (gk (aF En hr (af (pv 2) (af (pv 1) (af (pv 7) ah)))))) (qv (aW (vA (K:=K) rfl hr.units) (pv 5) (pv 2) (bD _))))))
    (au (aJ jg))
    (bY))
   (ai (cD D? rfl (bM (K:=K) rfl (pv 7)) (aB (i:=8) mR.nd rfl (z? rfl))
    (au (d8 (qg R? F! G! dO (bC (l_ (K:=K) rfl) (pv 8) ak (λ_ _=>rfl)) (af ak ah)))))
   (au (d8 (zJ R? PySem.F.slot_list_clear PySem.F.type_list_clear HG (pv 7) )))))))
  (au (aJ jg)))))))),?_⟩
 refine⟨aZ rfl,λp1 n1=>?_⟩
 generalize hH1:L2.upd H p1 _=H1;obtain⟨g1,e1⟩:=bJ n1 hH1;clear hH1;refine⟨_,rfl,la,ns,3,rfl,g1.seq hs,by decide,by decide,λc3=>?_⟩
 obtain⟨p,hp,hpx⟩:=M3 c3;have pp:=cY hp;refine⟨_,_,rfl,rfl,(show(20:Int)≠0 by decide),p1,_,_,_,rfl,rfl,aP.of e1,hpx,?_⟩
 refine⟨_,rfl,_,rfl,la,ns,1,rfl,g1.seq hs,by decide,by decide,λc1=>?_⟩
 refine⟨_,rfl,la,ns,2,rfl,g1.seq hs,by decide,by decide,λc2=>?_⟩
 have V_:p<48:=(show ∀p∈PR,p<48 by decide) p hp
 refine⟨p,c1,c2,rfl,by omega,V_,λf n ix t l H2 g2 et el pw G1 n6=>?_⟩
 refine⟨t,_,rfl,jv.of et,rfl,_,_,rfl,_,_,rfl,rfl,?_⟩
 have dk:=vS pw G1 n6;obtain⟨bd,E',hE,S9,hrr⟩:=id dk;have en:f.length-1=n:=by rw[pw.len];omega
 rw[en] at S9 hrr;refine⟨_,rfl,l,f,n,E',rfl,aP.of el,pw.len,G1,by omega,pw.mon,bd,hE,S9,hrr,λH3 g3=>?_⟩
 have ed:tg n*det n (λi j=>rr (aq f) n (aq (dl f)) (dl f).length i j)=dN f:=by
  unfold dN;rw[en]
 rw[ed];refine⟨_,rfl,rfl,_,rfl,fU (λc=>q _) (λc=>?_)⟩
 have h0:dN f≠0:=λz=>c (Ja (Jd V.int z))
 refine⟨_,rfl,l,_,rfl,.inl (aP.of (g3 _ _ el)),λp4 n4=>?_⟩
 generalize hH4:L2.upd H3 p4 _=H4;obtain⟨g4,e4⟩:=bJ n4 hH4;clear hH4;have el4:=g4 _ _ (g3 _ _ el);have gA:=((g1.trans g2).trans g3).trans g4;have Ln:fj fR aC H4:=(fj.nil hPp).same gA;have YX:=gA _ _ hPp;clear gA g1 g2 g3 g4 e1 et n4;refine⟨_,rfl,_,rfl,dN f,(p:Int),rfl,h0,by omega,by omega,λv hv=>⟨_,_,rfl,rfl,_,rfl,fU (λc=>?_) (λc=>?_)⟩⟩
 ·have c':(24:Int)<(v:Int):=Jb c
  refine⟨_,rfl,_,rfl,p4,f,n,p,v,rfl,e4,pw,G1,n6,hp,Ln,h0,hv,by omega,λH5 g5=>⟨_,rfl,jE ?_⟩⟩
  refine⟨_,rfl,_,rfl,RU (aP.of (g5 _ _ e4)) (aP.of (g5 _ _ el4)) ?_⟩
  rw[Ja rfl];exact q _
 have c':¬ (24:Int)<(v:Int):=λz=>c (Ja z)
 have keep:∀(a:o?) (xs:List V) H5,H4 a=j? (.lst xs)->cF H4 aC H5->H5 a=j? (.lst xs):=λa xs H5 h g=>g _ _ (λz=>by rw[z,YX] at h;cases h) h
 refine⟨_,rfl,by decide,by decide,cH (n:=2) (λi σ H5=>cF H4 aC H5/\fj fR aC H5/\∃(o6 o7 o8:Option V),σ=[Rq la,Iq (p),Rq l,j? (.int ix),j? (.int (dN f)),Rq p4,o6,o7,o8]) ⟨cF.refl _ _,Ln,_,_,_,rfl⟩ ?_ ?_⟩
 ·rintro i σ H5 hi ⟨n5,t5,o6,o7,o8,rfl⟩
  have h45:=keep _ _ _ e4 n5;have V6:=keep _ _ _ el4 n5;refine⟨_,rfl,_,rfl,p4,f,n,p,v,rfl,h45,pw,G1,n6,hp,t5,h0,hv,by omega,λG k r us H6 WA t6 bs nr hr ba mu=>?_⟩
  obtain⟨ps5,WB,_⟩:=id t5;have N_:∀(a:o?) (xs:List V) H7,H5 a=j? (.lst xs)->cF H5 aC H7->H7 a=j? (.lst xs):=λa xs H7 h g=>g _ _ (λz=>by rw[z,WB] at h;cases h) h
  have h46:=N_ _ _ _ h45 WA;have WC:=N_ _ _ _ V6 WA;refine⟨_,rfl,_,rfl,l,_,rfl,.inl (aP.of WC),_,_,rfl,rfl,_,rfl,r,us,n,p,G,k,Jd (λz=>[V.ref r,V.int z,V.int (p:Int)]) (by rw[Ya,pw.len];omega),hr,ba,n6,by omega,V_,bs.SQ,bs.one,bs.oV,λH7 g7=>⟨_,rfl,gp ?_⟩⟩
  refine⟨_,rfl,_,rfl,_,rfl,l,r,us,f,n,p,G,k,rfl,g7 _ _ WC,g7 _ _ hr,ba.same g7,bs,pw.len,pw.mon,(pw.So n6).mono (by decide),G1,n6,by omega,V_,λH8 g8=>⟨_,rfl,gp ?_⟩⟩
  have Oa:=g7.trans g8;refine⟨_,rfl,_,rfl,Rj (aP.of (Oa _ _ h46)) (aP.of (Oa _ _ WC)) ⟨_,rfl,k8 rfl ?_⟩⟩
  have n58:=WA.trans (cF.of Oa);have Nf:us.length=n:=ba.len;show Ends.nx _ (List.set _ _ _) _
  dsimp only
  refine sQ (λx:Option V=>[Rq la,Iq (p),Rq l,j? (.int ix),j? (.int (dN f)),Rq p4,j? (.int (0+(i:Int))),Rq r,x]) (λx H9=>cF H5 aC H9/\fj fR aC H9/\H9 r=j? (.lst us)) (λC key=>?_) ?_
  ·refine⟨_,rfl,r,rfl,⟨_,aP.of (Oa _ _ hr)⟩,jD (xs:=us) (λj σ H9=>cF H5 aC H9/\fj fR aC H9/\H9 r=j? (.lst us)/\(∀i,i<n->∃t l,us[i]?=j? (.ref t)/\H9 t=j? (.tup [.ref l,.int (k i:Int)])/\(∃xs,H9 l=j? (.lst xs)/\xs.length<=10+j)/\H5 l=q?/\l≠r)/\∃x,σ=[Rq la,Iq (p),Rq l,j? (.int ix),j? (.int (dN f)),Rq p4,j? (.int (0+(i:Int))),Rq r,x]) ⟨n58,t6.same Oa,Oa _ _ hr,λi hi=>?_,_,rfl⟩ (λj σ H9 _ h=>aP.of h.2.2.1) ?_ ?_⟩
   ·obtain⟨t,l,h1,h2,⟨xs,h3,h4⟩,h5,h6⟩:=mu i hi
    exact⟨t,l,h1,Oa _ _ h2,⟨xs,Oa _ _ h3,by omega⟩,h5,h6⟩
   ·rintro j y σ H9 hy ⟨Te,t9,Qp,mu9,x,rfl⟩
    have hj:j<n:=by have:=(List.getElem?_eq_some_iff.mp hy).1;omega
    obtain⟨t,l1,h1,h2,⟨xs,h3,h4⟩,h5,h6⟩:=mu9 j hj;rw[h1] at hy;cases hy;refine⟨_,rfl,t,_,_,_,rfl,rfl,jv.of h2,rfl,.inl ⟨rfl,_,aP.of h3⟩,l1,_,_,rfl,rfl,h3,by rw[C?];omega,?_⟩
    refine⟨Te.bw h5 _,CC t9 h3,by rw[aO (Ne.symm h6)];exact Qp,λi hi=>?_,_,rfl⟩
    obtain⟨t',l',k1,k2,⟨ys,k3,k4⟩,k5,k6⟩:=mu9 i hi;refine⟨t',l',k1,by rw[aO (λz=>by rw[z,h3] at k2;cases k2)];exact k2,?_,k5,k6⟩
    by_cases z:l'=l1
    ·exact⟨_,by rw[z];exact ay,by rw[Yk];show _+1<=_;omega⟩
    ·exact⟨ys,by rw[aO z];exact k3,by omega⟩
   ·rintro σ H9 ⟨Te,t9,Qp,_,x,rfl⟩
    exact key x H9 ⟨Te,t9,Qp⟩
  ·rintro x H9 ⟨Te,t9,Qp⟩
   refine⟨_,rfl,.inl ⟨rfl,_,aP.of Qp⟩,r,_,rfl,rfl,Qp,?_⟩
   exact⟨n5.trans (Te.bw nr _),CC t9 Qp,_,_,_,rfl⟩
 ·rintro σ H5 ⟨n5,t5,o6,o7,o8,rfl⟩
  exact q H5
end
theorem M4 {K:bE}{N:o?}:PySem.W.kitOne K (.ref N) (.ref N)=j? true:=by
 unfold PySem.W.kitOne;rw[W9 (beq_self_eq_true _)]
theorem ki4 {K:bE}{N c0 c1 c2 c3:o?}{j:Nat}(h0:PySem.W.kitOne K (.ref N) (.ref c0)=j? (decide (0=j)))(h1:PySem.W.kitOne K (.ref N) (.ref c1)=j? (decide (1=j)))(h2:PySem.W.kitOne K (.ref N) (.ref c2)=j? (decide (2=j)))(h3:PySem.W.kitOne K (.ref N) (.ref c3)=j? (decide (3=j))):∀i c,[c0,c1,c2,c3][i]?=j? c->PySem.W.kitOne K (.ref N) (.ref c)=j? (decide (i=j))
 | 0,_,rfl=>h0
 | 1,_,rfl=>h1
 | 2,_,rfl=>h2
 | 3,_,rfl=>h3
local macro_rules | `(tactic| walk_at "b1") => `(tactic| exact L2.bd1 λ_ _ _ _ _ _ _ => rfl)
local macro_rules | `(tactic| walk_at "b2") => `(tactic| exact L2.TR λ_ _ _ _ _ _ _ _ => rfl)
local macro_rules | `(tactic| walk_at "b3") => `(tactic| exact L2.bd3 λ_ _ _ _ _ _ _ _ _ => rfl)
local macro_rules | `(tactic| walk_at "b4") => `(tactic| exact L2.bd4 λ_ _ _ _ _ _ _ _ _ _ => rfl)
theorem all_mk {l:PySem.W.OpenLaw}{w:H?}{K:bE}{h:O?}{mg:Str->Option l?}{fa:o?}(X:K.In h)(G:h.Ns G? mg)(hfa:mg "law"=j? (.ref fa))
  {WD:o?} {WE WG:Option o?} {WH:Array (Option l?)} {WI WJ WK WL Qq WM:l?}
  {WN:o?} {WO Tf:Option o?} {WQ:Array (Option l?)} {WR Tg Th Ti Qs Tj:l?}
  {iI aC:o?}
  {cL:o?}
  {b7:o?}
  {aR:o?}
  {bW:o?}
  {aV:o?}
  {qb:Tok}
  {tG:Tok}
  {yC:Tok}
  {g_:o?} {CH:Obj}
  (qZ:cI K "is_whole" qL)
  (q8:cI K "is_prime" qM)
  (jV:cI K "number_power" jM)
  (oG:cI K "taken_out" nZ)
  (iL:cI K "size_of_number" iB)
  (jb:cI K "is_polynomial" i9)
  (q9:cI K "is_monic" qN)
  (d7:cI K "without_noughts_behind" dY)
  (kL:cI K "coefficient" kD)
  (mU:cI K "multiplied" mF)
  (uA:cI K "derived" pH)
  (uB:cI K "divided" uc)
  (jc:cI K "place_of_lead" i_)
  (q_:cI K "lessened" iD)
  (kM:cI K "determinant" kE)
  (oH:cI K "resultant" j_)
  (jW:cI K "discriminant" jN)
  (gC:cI K "is_bounded_monic" gu)
  (mV:cI K "plain_size" mG)
  (gD:cI K "refuse_for_basis" gv)
  (jX:cI K "without_lead" gX)
  (jd:cI K "with_lead_one" gi)
  (mW:cI K "first_lead" mH)
  (xN:cI K "kernel" iY)
  (uC:cI K "back_by" ud)
  (rq:cI K "unit_row" mJ)
  (WS:N? K G? "lead_at"=j? (j? (.ref WD))) (WT:K.lookup WD=j? ⟨WI,WE,.func (W? "lead_at" "lead_at" (dH fP) (cB fP) (ao fP) .none WJ WK WL WG Qq WM),WH⟩) (WU:Q! K Qq "lead_at"=true) (WV:C! K (.ref WD)=true)
  (uD:Qq=.ref iI) (jS:PySem.W.codeHdIn K iI aC=true)
  (uE:cI K "without" lH)
  (mX:cI K "triangular" jo)
  (kN:cI K "coordinates" iP)
  (xO:cI K "summed" lI)
  (mY:cI K "product_by" jq)
  (rz:cI K "table_of" iF)
  (rB:cI K "times_by" jP)
  (rC:cI K "power_by" qO)
  (xP:cI K "raised" oh)
  (kO:cI K "multipliers" iQ)
  (AQ:cI K "grown" pI)
  (kP:cI K "whole_basis" iR)
  (oK:cI K "_law_cell_at" oi)
  (rF:cI K "_law_number" qP)
  (rG:cI K "_law_common" qQ)
  (oM:cI K "_law_trimmed" oj)
  (uF:cI K "_law_times" ue)
  (xQ:cI K "_law_plus" sX)
  (xR:cI K "_law_poly" xu)
  (oN:cI K "_law_is_poly" kg)
  (uG:cI K "_law_power" uf)
  (oO:cI K "_law_rest_by" om)
  (xS:cI K "_law_size" xw)
  (mZ:cI K "_law_ramified" jr)
  (uH:cI K "_law_zeros" ug)
  (kQ:cI K "_law_stretched" iS)
  (uI:cI K "_law_shift" pM)
  (uJ:cI K "_law_piece" uh)
  (uK:cI K "_law_built" um)
  (xT:cI K "_law_rows" jQ)
  (m7:cI K "_law_whole_by" jt)
  (m8:cI K "_law_is_basis" ju)
  (rH:cI K "_law_closed" qR)
  (oQ:cI K "_law_refused" ou)
  (WW:N? K G? "law"=j? (j? (.ref WN))) (WX:K.lookup WN=j? ⟨WR,WO,.func (W? "law" "law" (dH sY) (cB sY) (ao sY) .none Tg Th Ti Tf Qs Tj),WQ⟩) (WY:Q! K Qs "law"=true) (WZ:C! K (.ref WN)=true)
  (jY:N? K G? "BranchError"=j? (j? (.ref cL)))
  (rJ:N? K G? "NoPrime"=j? (j? (.ref b7)))
  (je:N? K G? "NoPolynomial"=j? (j? (.ref aR)))
  (oR:N? K G? "NotPlain"=j? (j? (.ref bW)))
  (rK:N? K G? "TooDeep"=j? (j? (.ref aV)))
  (lM:PySem.W.excIn K b7 [.type "ValueError",.type "Exception",.type "BaseException",.type "object"] "ValueError.__new__"=true)
  (fH:PySem.W.excIn K aR [.type "ValueError",.type "Exception",.type "BaseException",.type "object"] "ValueError.__new__"=true)
  (jU:PySem.W.excIn K bW [.type "ValueError",.type "Exception",.type "BaseException",.type "object"] "ValueError.__new__"=true)
  (lN:PySem.W.excIn K aV [.type "ValueError",.type "Exception",.type "BaseException",.type "object"] "ValueError.__new__"=true)
  (KN:PySem.W.findIn K (.ref aV) "__getattribute__"=j? (j? (.builtin "BaseException.__getattribute__")))
  (KO:PySem.W.findIn K (.ref aV) "__getattr__"=j? q?)
  (KP:PySem.W.findIn K (.ref aV) "__class__"=j? (j? (.builtin "object.__class__")))
  (KQ:PySem.W.mroIn K aV (.type "BaseException")=j? true)
  (KR:PySem.W.subIn K (.ref aV) (.type "ValueError")=j? true)
  (KS:PySem.W.subIn K (.ref aV) (.ref cL)=j? true)
  (CJ:PySem.W.subIn K (.ref aV) (.ref aV)=j? true)
  (Qu:PySem.W.subIn K (.ref aV) (.ref b7)=j? false)
  (Qv:PySem.W.subIn K (.ref aV) (.ref aR)=j? false)
  (Qw:PySem.W.subIn K (.ref aV) (.ref bW)=j? false)
  (KU:PySem.W.specialIn K (.builtin "object.__class__") "__get__"=j? (j? (.builtin "getset_descriptor.__get__")))
  (Qx:PySem.W.takesIn K (.builtin "object.__class__")=j? true)
  (Qy:PySem.W.subIn K (.ref cL) (.type "BaseException")=j? true)
  (Qz:PySem.W.mroIn K cL (.type "object")=j? true)
  (QA:PySem.W.typeIn K (.ref cL)=j? (.type "type"))
  (QB:PySem.W.mroIn K b7 (.type "object")=j? true)
  (QC:PySem.W.typeIn K (.ref b7)=j? (.type "type"))
  (QD:PySem.W.mroIn K aR (.type "object")=j? true)
  (QE:PySem.W.typeIn K (.ref aR)=j? (.type "type"))
  (QF:PySem.W.mroIn K bW (.type "object")=j? true)
  (QG:PySem.W.typeIn K (.ref bW)=j? (.type "type"))
  (QH:PySem.W.mroIn K aV (.type "object")=j? true)
  (Tn:PySem.W.typeIn K (.ref aV)=j? (.type "type"))
  (fW:N? K G? "MOST_BASIS_DEGREE"=j? (j? (.int 6 qb)))
  (h_:N? K G? "MOST_BASIS_SIZE"=j? (j? (.int 24 tG)))
  (kR:N? K G? "MOST_DEGREE"=j? (j? (.int 12 yC)))
  (xU:N? K G? "PRIMES"=j? (j? (.ref g_))) (xV:K.lookup g_=j? CH)
  (xW:zN CH (PR.map λp:Nat=>(p:Int))=true)
  (m9:N? K G? "ValueError"=j? q?)
  (KW:N? K G? "abs"=j? q?)
  (KY:N? K G? "all"=j? q?)
  (KZ:N? K G? "any"=j? q?)
  (Eo:N? K G? "bool"=j? q?)
  (oU:N? K G? "enumerate"=j? q?)
  (K0:N? K G? "int"=j? q?)
  (m_:N? K G? "isinstance"=j? q?)
  (K1:N? K G? "len"=j? q?)
  (Ep:N? K G? "list"=j? q?)
  (K2:N? K G? "max"=j? q?)
  (K3:N? K G? "min"=j? q?)
  (AR:N? K G? "range"=j? q?)
  (rL:N? K G? "reversed"=j? q?)
  (K4:N? K G? "sum"=j? q?)
  (AS:N? K G? "tuple"=j? q?)
  (K5:N? K G? "zip"=j? q?):
  ∃fd:P!,(∀(s:u?) (v:l?),BindsTo s fd ⟨[v],[]⟩ [("_law_script",v)])/\∀base:O?,K.In base->base.Ns G? mg->BMain mg base->lU l.prog w K mg base ES 13 fa fd ["_law_script"] (FW K aC):=by
 have e:=hfa.symm.trans (PySem.W.mg_of X G WW);cases e;have Er:=aY (mg:=mg) (ps:=jm) X G qZ (by walk_at "b1")
 have Es:=aY (mg:=mg) (ps:=["k"]) X G q8 (by walk_at "b1")
 have xX:=aY (mg:=mg) (ps:=["k","n"]) X G jV (by walk_at "b2")
 have CK:=aY (mg:=mg) (ps:=sU) X G oG (by walk_at "b2")
 have uL:=aY (mg:=mg) (ps:=sU) X G iL (by walk_at "b2")
 have vp:=aY (mg:=mg) (ps:=jm) X G jb (by walk_at "b1")
 have Et:=aY (mg:=mg) (ps:=jm) X G q9 (by walk_at "b1")
 have kT:=aY (mg:=mg) (ps:=["numbers"]) X G d7 (by walk_at "b1")
 have yD:=aY (mg:=mg) (ps:=DR) X G kL (by walk_at "b2")
 have AU:=aY (mg:=mg) (ps:=nC) X G mU (by walk_at "b2")
 have G4:=aY (mg:=mg) (ps:=["f"]) X G uA (by walk_at "b1")
 have G5:=aY (mg:=mg) (ps:=nC) X G uB (by walk_at "b2")
 have vq:=aY (mg:=mg) (ps:=["table"]) X G jc (by walk_at "b1")
 have Ew:=aY (mg:=mg) (ps:=JU) X G q_ (by walk_at "b3")
 have yE:=aY (mg:=mg) (ps:=["table"]) X G kM (by walk_at "b1")
 have CL:=aY (mg:=mg) (ps:=nC) X G oH (by walk_at "b2")
 have xY:=aY (mg:=mg) (ps:=["f"]) X G jW (by walk_at "b1")
 have rM:=aY (mg:=mg) (ps:=jm) X G gC (by walk_at "b1")
 have AV:=aY (mg:=mg) (ps:=jL) X G mV (by walk_at "b2")
 have rN:=aY (mg:=mg) (ps:=jL) X G gD (by walk_at "b2")
 have xZ:=aY (mg:=mg) (ps:=DM) X G jX (by walk_at "b4")
 have vt:=aY (mg:=mg) (ps:=JX) X G jd (by walk_at "b3")
 have AW:=aY (mg:=mg) (ps:=JY) X G mW (by walk_at "b2")
 have K6:=aY (mg:=mg) (ps:=["rows","p"]) X G xN (by walk_at "b2")
 have G6:=aY (mg:=mg) (ps:=["k","power"]) X G uC (by walk_at "b2")
 have Ex:=aY (mg:=mg) (ps:=Ak) X G rq (by walk_at "b3")
 have G7:Je K mg "lead_at" fP JR iI:=Mm X G WS WT WU WV (λ_ _ _ _ _ _ us hl=>match us,hl with | [_,_,_,_],_=>rfl) uD
 have G8:=aY (mg:=mg) (ps:=JP) X G uE (by walk_at "b4")
 have AX:=aY (mg:=mg) (ps:=GH) X G mX (by walk_at "b3")
 have yF:=aY (mg:=mg) (ps:=GI) X G kN (by walk_at "b2")
 have K7:=aY (mg:=mg) (ps:=Al) X G xO (by walk_at "b2")
 have AY:=aY (mg:=mg) (ps:=JS) X G mY (by walk_at "b4")
 have Ey:=aY (mg:=mg) (ps:=DO) X G rz (by walk_at "b3")
 have Ez:=aY (mg:=mg) (ps:=JT) X G rB (by walk_at "b4")
 have EA:=aY (mg:=mg) (ps:=JV) X G rC (by walk_at "b4")
 have K8:=aY (mg:=mg) (ps:=yh) X G xP (by walk_at "b2")
 have yG:=aY (mg:=mg) (ps:=yh) X G kO (by walk_at "b2")
 have M5:=aY (mg:=mg) (ps:=jL) X G AQ (by walk_at "b2")
 have yH:=aY (mg:=mg) (ps:=jL) X G kP (by walk_at "b2")
 have CM:=aY (mg:=mg) (ps:=xq) X G oK (by walk_at "b2")
 have EB:=aY (mg:=mg) (ps:=xq) X G rF (by walk_at "b2")
 have EC:=aY (mg:=mg) (ps:=GG) X G rG (by walk_at "b2")
 have CO:=aY (mg:=mg) (ps:=DP) X G oM (by walk_at "b1")
 have G9:=aY (mg:=mg) (ps:=nA) X G uF (by walk_at "b2")
 have K9:=aY (mg:=mg) (ps:=nA) X G xQ (by walk_at "b2")
 have K_:=aY (mg:=mg) (ps:=JI) X G xR (by walk_at "b3")
 have CP:=aY (mg:=mg) (ps:=DQ) X G oN (by walk_at "b1")
 have G_:=aY (mg:=mg) (ps:=Aj) X G uG (by walk_at "b2")
 have CQ:=aY (mg:=mg) (ps:=nA) X G oO (by walk_at "b2")
 have La:=aY (mg:=mg) (ps:=DN) X G xS (by walk_at "b2")
 have AZ:=aY (mg:=mg) (ps:=JH) X G mZ (by walk_at "b4")
 have Hf:=aY (mg:=mg) (ps:=JK) X G uH (by walk_at "b3")
 have yI:=aY (mg:=mg) (ps:=JO) X G kQ (by walk_at "b3")
 have Hg:=aY (mg:=mg) (ps:=JQ) X G uI (by walk_at "b2")
 have Hh:=aY (mg:=mg) (ps:=JJ) X G uJ (by walk_at "b3")
 have Hi:=aY (mg:=mg) (ps:=JG) X G uK (by walk_at "b4")
 have Lb:=aY (mg:=mg) (ps:=JL) X G xT (by walk_at "b3")
 have A1:=aY (mg:=mg) (ps:=JF) X G m7 (by walk_at "b4")
 have A2:=aY (mg:=mg) (ps:=JN) X G m8 (by walk_at "b3")
 have ED:=aY (mg:=mg) (ps:=JM) X G rH (by walk_at "b3")
 have CT:=aY (mg:=mg) (ps:=JW) X G oQ (by walk_at "b2")
 have To:=wg (st:=sY) WX WY WZ;have kJ:mg "BranchError"=j? (.ref cL):=PySem.W.mg_of X G jY;have jA:mg "NoPrime"=j? (.ref b7):=PySem.W.mg_of X G rJ;have eH:mg "NoPolynomial"=j? (.ref aR):=PySem.W.mg_of X G je;have iJ:mg "NotPlain"=j? (.ref bW):=PySem.W.mg_of X G oR;have jB:mg "TooDeep"=j? (.ref aV):=PySem.W.mg_of X G rK;have B:ia mg:=⟨Y? X G m9,Y? X G KW,Y? X G KY,Y? X G KZ,Y? X G Eo,Y? X G oU,Y? X G K0,Y? X G m_,Y? X G K1,Y? X G Ep,Y? X G K2,Y? X G K3,Y? X G AR,Y? X G rL,Y? X G K4,Y? X G AS,Y? X G K5⟩;refine⟨W? "law" "law" (dH sY) (cB sY) (ao sY) .none Tg Th Ti Tf Qs Tj,λs v=>.of_eq rfl,λbase _ _ hbm=>?_⟩
 have hPR:∀H,jv K H g_ (PR.map λp:Nat=>V.int (p:Int)):=λH=>by
  have z:jv K H g_ ((PR.map λp:Nat=>(p:Int)).map V.int):=Di xV xW
  rw[W4] at z;exact z
 have X3:Exq K aV cL 3 [b7,aR,bW,aV]:=⟨Mg Qz QA Qy KS,⟨KN,KO,KP,KU,Qx,QH,KQ⟩,O_ (by decide +kernel) KR,ki4 (Dt CJ QB QC Qu) (Dt CJ QD QE Qv) (Dt CJ QF QG Qw) M4⟩
 have dnp:=vg (P:=l.prog) (w:=w) (base:=base) B xX;have dtk:=Aq (P:=l.prog) (w:=w) (base:=base) (K:=K) (mg:=mg) CK;have W_:=sZ dtk uL;have dt:=j3 (P:=l.prog) (w:=w) (base:=base) B kT;have dd:=xy (P:=l.prog) (w:=w) (base:=base) B (ur B vq) (BY B Ew) yE;have dc:=xB (P:=l.prog) (w:=w) (base:=base) B yD;have dm:=yj (P:=l.prog) (w:=w) (base:=base) B AU;have dv:=DX B dt G5;have dr:=As B dc dm dv dd CL;have di:=vj B (DW B G4) dr xY;have dwl:=vm (P:=l.prog) (w:=w) (base:=base) B xZ;have dlo:=uu (P:=l.prog) (w:=w) (base:=base) B vt;have dfl:=yl (P:=l.prog) (w:=w) (base:=base) B AW;have Xa:=GN B dwl dlo dfl K6;have Xb:=B3 (P:=l.prog) (w:=w) (base:=base) B Ex;have dbb:=DZ (P:=l.prog) (w:=w) (base:=base) G6;have dco:=xF (P:=l.prog) (w:=w) (base:=base) B yF;have Xc:=GO (P:=l.prog) (w:=w) (base:=base) B K7;have dpb:=ym B dt dm dv dc AY;have dta:=B4 B dpb dco Ey;have dtb:=B6 B Xc Ez;have dpw:=B7 B dtb EA;have dra:=GQ B Xb dpw K8;have dwo:=D7 (P:=l.prog) (w:=w) (base:=base) B G8;have dla:=D9 B hbm jS dtk W_ dbb Xb G7;have dtr:=yo B dnp dla dwo AX;have dmu:=xG B dra Xa dtr dco Xc yG;have dgr:=Kz B Xb dnp dta dmu dtr Xc M5;have diw:=BW (P:=l.prog) (w:=w) (base:=base) B Er;have dpr:=Cd B (PySem.W.mg_of X G xU) hPR diw Es;have dip:=uw B diw vp;have dmo:=Ce B dip Et;have dbm:=pY B (PySem.W.mg_of X G kR) dmo rM;have dps:=yq jA lM eH fH iJ jU B dpr dbm di W_ AV;have drf:=pZ jB lN B (PySem.W.mg_of X G fW) (PySem.W.mg_of X G h_) dps rN;have dwb:=xJ B drf dgr W_ yH;have Xd:=AN X3 kJ jA eH iJ jB B dwb CT;have Xe:=AH (P:=l.prog) (w:=w) (base:=base) B CO;have dti:=Ec B Xe G9;have dpl:=GX B Xe K9;have Tp:=Eh (P:=l.prog) (w:=w) (base:=base) B G_;have Xf:=GZ (P:=l.prog) (w:=w) (base:=base) La;have dze:=Ei B dti Xf Hf;have dpi:=Ej B (Cq B EC) (yr B Tp AZ) dze (Ef B Xe K_) di (xM B Tp yI) Hh;have dbu:=Em B dpi (Eg dpl dti Hg) dr dti Xf Hi;have dib:=yy B (AL B CP) Tp A2;have dcl:=CA B (G2 B Tp Lb) dti (AK B CQ) (yx B Tp A1) ED;exact Qo B (GY B (Ed B CM) EB) dbu di Xf Xd (M1 dwb) dib dcl To
theorem walk {l:PySem.W.OpenLaw}{q:F?}{loose:List Str}{XP:(Str->Option l?)->O?->Prop}{YP:H?->O?->Prop}{d:DefRec}{K:Params->bE}(hn:l.most=j? 63)(hdf:d.params.defaults=[])
  (hY:∀(w:H?) (h:O?),YP w h->(K w.params).In h/\PySem.W.TabsAt [(248,246)] h) (hK:∀w:H?,PySem.W.noTabs (K w.params)=true)
  (F:∀(w:H?) (mg:Str->Option l?) (fa:o?) (h:O?),(K w.params).In h->h.Ns G? mg->mg d.name=j? (.ref fa)->
   ∃fd:P!,(∀(s:u?) (u:l?),BindsTo s fd ⟨[u],[]⟩ [("_law_script",u)])/\∀base:O?,(K w.params).In base->base.Ns G? mg->BMain mg base->lU l.prog w (K w.params) mg base ES 13 fa fd ["_law_script"] (FW (K w.params) 246)):
  PySem.W.WalkO q loose XP YP l.row.toRowW d [] (λf vs=>PySem.call f vs):=
 L2.I_ (tabs:=[(248,246)]) (n:=63) (k:=13) (x:="_law_script") (CX:=λ_=>ES) (sp:=λw=>FW (K w.params) 246) hn (by decide) hdf ⟨rfl,by decide,by decide,rfl⟩ hY hK F (λ_ _ a ns hl hS hT=>⟨a,ns,rfl,hS,hl,hT (248,246) (by simp),λ_=>rfl⟩) λ_ _ _ _ _ z=>z
end K60
structure PySem.W.Fast:Prop where(tw12200364039911041350 tw13869941136816142176 tw12223112840958031033 tw16687790504365416740 tw8802628973175484584 tw9342168399232543626 tw10777938845546734505 tw1412625428629784616 tw16525695844880005969 tw1013072473834902120 tw14584851749549088413 tw14757817173298910053 tw17796982657868501676 tw7769779180097254747 tw17885942967027031042 tw17357192403479055286 tw13955558622305824249 tw16734830229642880054 tw7473382988163680895 tw765944735966233465 tw10627472685521936164 tw852123292223852890 tw12884305705471537725 tw10018253539675943466 tw6594157337120808577 tw3795306860863665446 tw15568529349541932831 tw7415370109228637520 tw7196518156506924705 tw6870915234572579120 tw11880680830614367226 tw10342239049234829507 tw3242919367648718301 tw17298446496697982989 tw17815971047729869645 tw2330735854430351561 tw1607660236314819548 tw3917875278038993296 tw4011319473048695473 tw16415204309155154918 tw237159121333755185 tw2966052726566430396 tw477835179578489000 tw16493001927355581942 tw10361199844657486821 tw17169933521738665674 tw14965048935724787606 tw2772478822775512140 tw7600529350867658017 tw14529131391415891988 tw8507234385816546902 tw11704144598732311661 tw1405486057637525514 tw1939586383513400778 tw17613599985711792471 tw13401810536107972975 tw10075581398398034111 tw7555876352277302447 tw17722686311085384244 tw9686862739697499124 tw7985429472558154461 tw17119966160835505095 tw9421086868796124365 tw17339056270425787769 tw13547909534324608963 tw1983719811578180801 tw9559189093714249290 tw13584596566322552735 tw13047210303015455635 tw6246412728257145604 tw15515241423011177459 tw18426157033772791105 tw11008103755222852580 tw1012151456655676682 tw2502529796235405485 tw8369948281604776232 tw16643317252632473260 tw4456873944427142605 tw14930804144886566065 tw5132982006673796153 tw12623523392499056867 tw14682734507223984718 tw11840929035812644494 tw16447473962671328078 tw14988412232999522386 tw744743881379472620 tw12853901431420959324 tw3333358733271262829 tw6872099393674363748 tw8208366930437651891 tw1651745990946939517 tw14996408698067432039 tw2450331320949931734 tw5837390638754321202 tw8287489881722412782 tw11835712491339623645 tw15088053461968322321 tw5625464902448904057 tw9087291524842408309 tw8817641866468218609 tw6191410190420118312 tw12354995038610980668 tw2803474571195541790 tw8657868824462325472 tw602211173949847406 tw16621310979598277649 tw6046098926966074596 tw5040699192346496059 tw14260693310305553488 tw7444398459147142160 tw16589319519752167828 tw11012422726903541551 tw4267025544800612636 tw11759708851655803173 tw178479924818462582 tw17331132155356965425 tw3332100445576309077 tw8648653494164121831 tw14385767502871650497 tw6985809854173672091 tw9332861810885435970 tw14618400958950114615 tw1260769392643824413 tw15693582142069371042 tw11709366531414457946 tw17510534515242527522 tw936982431173482268 tw5558883005103098468 tw14582897159747408589 tw10731200704227409592 tw16601829875833327678 tw2894989626828626185 tw12005904959973210531 tw10724628992554235535 tw10557934565788415407 tw4316420488580887124 tw16038700285326090211 tw772237875919092904 tw16674206195714369004 tw284064836804832604 tw9082704044048293708 tw3684889252701849878 tw9652379456169855164 tw525363981412743808 tw533847247794193067 tw7310112938435878558 tw14339035717018798643 tw7336217788915756345 tw5830244426919333991 tw14850812279765502872 tw14759573674829107488 tw8922600826172177775 tw4234706208602779564 tw15705307588836614709 tw7391876463566551006 tw857666892712915634 tw4258221740554286789 tw16943823792674789444 tw13996656460802990083 tw11148988833437999449 tw15654382983418920003 tw2448230406331395880 tw12637233916352271435 tw12641128473410283809 tw17150583837130602866 tw17218853766687000410 tw17795237801150855196 tw17452388587006353856 tw9974759364764469864 tw1108732757879945831 tw3666635517710635984 tw9422663981484745666 tw798784671016983132 tw7408917856433444501 tw18159187420015946168 tw4233857331631334125 tw15575468387957791004 tw7319414112494178558 tw6079160670255540549 tw11973824046296356097 tw13302056286726168207 tw2437613424326898153 tw12846012310200080253 tw17642959935959059605 tw11848300321410533178 tw8393245217494612474 tw7235000738242240971 tw9303162096638340690 tw8211663959958532160 tw3809513765677800204 tw18298382607052103239 tw7914790185778717090 tw1787853716110739413 tw1453114365388094050 tw10812312575571417024 tw18214488418987299787 tw1667907081186361926 tw6263969056875986278 tw4732906302251204524 tw8320196119837557558 tw12858795886720957540 tw1910890772475875189 tw1160425453988353454 tw16083936415222549930 tw3148537334087172263 tw17625592515327517465 tw16673454033106689224 tw5338322821189200173 tw16087781034814469573 tw12744809976351059628 tw13709551529438368072 tw4019102287544433596 tw7916766992583692220 tw12178757459358996389 tw12340338483121824278 tw8627036444918493681 tw17105532291711360353 tw5338465195491276387 tw12198644693208087878 tw1119098933613293919 tw14980610683393841582 tw11986511173420535868 tw7851356616223774685 tw12400001174991465027 tw3198270209378584883 tw18223637457063495889 tw6576913685415178417 tw4154879536068311859:True)
open PySem PySem.W PyProof.Rows
local macro_rules | `(tactic| walk_at "gl") => `(tactic| (refine' L2.R7 ?a ?l ?c ?k; (case a => k_is); (case l => k_is); (case c => k_is); (case k => k_is)))
local macro_rules | `(tactic| walk_at "mt") => `(tactic| (refine' L2.mt_mk ?a ?i ?l ?c ?k; (case a => k_is); (case i => k_is); (case l => k_is); (case c => k_is); (case k => k_is)))
set_option maxRecDepth 100000 in
set_option maxHeartbeats 0 in
theorem PySem.Challenge.cw_branchdepth_k60_a_basis_is_closed_holds : PySem.Challenge.rw_branchdepth_k60_a_basis_is_closed.Holds := by
 w_on;o_law;k_head;(case hw=>w_witness2)
 k_fill
 refine K60.walk (l:=PySem.Challenge.rw_branchdepth_k60_a_basis_is_closed) rfl rfl (fun w h Y=>⟨PySem.W.km_in_of Y,List.forall_mem_cons.mpr ⟨⟨PySem.W.codeHd_of_K (c:=248) (P:=246) (PySem.W.km_in_of Y) (by kernel_rfl),PySem.W.km_tabs_of Y 246 (by k_mem)⟩,fun _ h=>nomatch h⟩⟩) (fun w=>by kernel_rfl) ?F
 case F=>
  intro w mg fa h KX G hmg;refine' K60.all_mk KX G hmg ?qZ ?q8 ?jV ?oG ?iL ?jb ?q9 ?d7 ?kL ?mU ?uA ?uB ?jc ?q_ ?kM ?oH ?jW ?gC ?mV ?gD ?jX ?jd ?mW ?xN ?uC ?rq ?WS ?WT ?WU ?WV ?uD ?jS ?uE ?mX ?kN ?xO ?mY ?rz ?rB ?rC ?xP ?kO ?AQ ?kP ?oK ?rF ?rG ?oM ?uF ?xQ ?xR ?oN ?uG ?oO ?xS ?mZ ?uH ?kQ ?uI ?uJ ?uK ?xT ?m7 ?m8 ?rH ?oQ ?WW ?WX ?WY ?WZ ?jY ?rJ ?je ?oR ?rK ?lM ?fH ?jU ?lN ?KN ?KO ?KP ?KQ ?KR ?KS ?CJ ?Qu ?Qv ?Qw ?KU ?Qx ?Qy ?Qz ?QA ?QB ?QC ?QD ?QE ?QF ?QG ?QH ?Tn ?fW ?h_ ?kR ?xU ?xV ?xW ?m9 ?KW ?KY ?KZ ?Eo ?oU ?K0 ?m_ ?K1 ?Ep ?K2 ?K3 ?AR ?rL ?K4 ?AS ?K5
  (case qZ=>walk_at "gl")
  (case q8=>walk_at "gl")
  (case jV=>walk_at "gl")
  (case oG=>walk_at "gl")
  (case iL=>walk_at "gl")
  (case jb=>walk_at "gl")
  (case q9=>walk_at "gl")
  (case d7=>walk_at "gl")
  (case kL=>walk_at "gl")
  (case mU=>walk_at "gl")
  (case uA=>walk_at "gl")
  (case uB=>walk_at "gl")
  (case jc=>walk_at "gl")
  (case q_=>walk_at "gl")
  (case kM=>walk_at "gl")
  (case oH=>walk_at "gl")
  (case jW=>walk_at "gl")
  (case gC=>walk_at "gl")
  (case mV=>walk_at "gl")
  (case gD=>walk_at "gl")
  (case jX=>walk_at "gl")
  (case jd=>walk_at "gl")
  (case mW=>walk_at "gl")
  (case xN=>walk_at "gl")
  (case uC=>walk_at "gl")
  (case rq=>walk_at "gl")
  (case WS=>k_is)
  (case WT=>k_is)
  (case WU=>k_is)
  (case WV=>k_is)
  (case uD=>rfl)
  (case jS=>kernel_rfl)
  (case uE=>walk_at "gl")
  (case mX=>walk_at "gl")
  (case kN=>walk_at "gl")
  (case xO=>walk_at "gl")
  (case mY=>walk_at "gl")
  (case rz=>walk_at "gl")
  (case rB=>walk_at "gl")
  (case rC=>walk_at "gl")
  (case xP=>walk_at "gl")
  (case kO=>walk_at "gl")
  (case AQ=>walk_at "gl")
  (case kP=>walk_at "gl")
  (case oK=>walk_at "gl")
  (case rF=>walk_at "gl")
  (case rG=>walk_at "gl")
  (case oM=>walk_at "gl")
  (case uF=>walk_at "gl")
  (case xQ=>walk_at "gl")
  (case xR=>walk_at "gl")
  (case oN=>walk_at "gl")
  (case uG=>walk_at "gl")
  (case oO=>walk_at "gl")
  (case xS=>walk_at "gl")
  (case mZ=>walk_at "gl")
  (case uH=>walk_at "gl")
  (case kQ=>walk_at "gl")
  (case uI=>walk_at "gl")
  (case uJ=>walk_at "gl")
  (case uK=>walk_at "gl")
  (case xT=>walk_at "gl")
  (case m7=>walk_at "gl")
  (case m8=>walk_at "gl")
  (case rH=>walk_at "gl")
  (case oQ=>walk_at "gl")
  (case WW=>k_is)
  (case WX=>k_is)
  (case WY=>k_is)
  (case WZ=>k_is)
  (case jY=>k_is)
  (case rJ=>k_is)
  (case je=>k_is)
  (case oR=>k_is)
  (case rK=>k_is)
  (case lM=>k_exc)
  (case fH=>k_exc)
  (case jU=>k_exc)
  (case lN=>k_exc)
  (case KN=>k_is)
  (case KO=>k_is)
  (case KP=>k_is)
  (case KQ=>k_is)
  (case KR=>k_is)
  (case KS=>k_is)
  (case CJ=>k_is)
  (case Qu=>k_is)
  (case Qv=>k_is)
  (case Qw=>k_is)
  (case KU=>k_is)
  (case Qx=>k_is)
  (case Qy=>k_is)
  (case Qz=>k_is)
  (case QA=>k_is)
  (case QB=>k_is)
  (case QC=>k_is)
  (case QD=>k_is)
  (case QE=>k_is)
  (case QF=>k_is)
  (case QG=>k_is)
  (case QH=>k_is)
  (case Tn=>k_is)
  (case fW=>k_is)
  (case h_=>k_is)
  (case kR=>k_is)
  (case xU=>k_is)
  (case xV=>k_is)
  (case xW=>first|rfl|decide +kernel|k_is)
  (case m9=>k_is)
  (case KW=>k_is)
  (case KY=>k_is)
  (case KZ=>k_is)
  (case Eo=>k_is)
  (case oU=>k_is)
  (case K0=>k_is)
  (case m_=>k_is)
  (case K1=>k_is)
  (case Ep=>k_is)
  (case K2=>k_is)
  (case K3=>k_is)
  (case AR=>k_is)
  (case rL=>k_is)
  (case K4=>k_is)
  (case AS=>k_is)
  (case K5=>k_is)