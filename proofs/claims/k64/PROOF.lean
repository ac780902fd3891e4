import PyProof.Rows.All
import Wide.All
import OpenK.AllK
import Wide.FinOn
import Lean
import PyProof.EqAt
import PyProof.EqKinds
import PyProof.TupleCall
import KE.KMinKey
import PyProof.Rows.Range3
import KE.KTryMore
import KE.KLam
import KE.KNestM
import KE.KSortKey
import KE.KSortTup
import PySem.Challenge.RW_branchdepth_k64_bases_of_near_ones
open Option renaming some->j?,none->q?
open PySem renaming Value->l?,Addr->o?,Shared->u?,wpAny_bind->B?,sizeLine_eq->C?,Program->F?,mainGlobals->G?,World->H?,starEach->I?,wpAny_pure->J?,sizeLine->K?,wpAny->L?,Heap->O?,Stmt->Q?,model->S?,mem_of_lookup->U?,Around->A!,wpAny_mono->B!,bootBuiltins->H!,compareOp->J!,PyData->N!,FuncData->O!
open Or renaming inl->z?
open PySem.PassesOwn renaming never->D?
open Bool renaming false_ne_true->E?,and_eq_true->T?
open Option.some renaming inj->M?
open PySem.W renaming nsIn->N?,fnOf->W?,mg_none_of->Y?,keepIn->C!,codeIn->P!
open PySem.F renaming plainAttrs_list->R?,slot_list_append->F!,type_list_append->G!
open Classical renaming byContradiction->V?
open PySem.NameKind renaming free->Z?,cell->K!
open PySem.Obj renaming mapSeq->D!
open PySem.PyData renaming eqv->E!
open PySem.Value renaming ref->I!
open PyProof.Rows renaming callWith_type1->L!
open False renaming elim->M!
set_option Elab.async false
set_option linter.all false
set_option maxRecDepth 100000
local macro_rules|`(tactic|omega)=>`(tactic|first|lia|omega+splitDisjunctions)
abbrev bG:=PySem.W.Frag
open List renaming length_map->Ya,getD_eq_getElem?_getD->Yb,getElem?_eq_getElem->Yc,getElem?_map->Ye,length_range->Yf,length_append->Yi,range->Yk,replicate->Yn,Nodup->Yo,size_toArray->Yq,mem_append_right->Ys,mem_of_getElem?->Yt,length_replicate->Yv,length_take->Yx,getElem_mem->Yy,map_append->Yz,getElem?_range->Y0,lookup_cons->Y2,mem_cons_of_mem->Y3,length_drop->Y7,mem_cons_self->Y8,getElem?_append_left->Y9,getElem?_append_right->Zb,take_of_length_le->Zm,replicate_succ->Zo,ext_getElem?->Zv,length_reverse->Zw,not_mem_nil->Z3,zipWith->Z4,getElem_of_mem->Z6,all_eq_true->Z9,eq_nil_of_length_eq_zero->We,getElem?_eq_none->Wi,mem_cons->Wk,flatten_cons->Wl,map_congr_left->Wq,length_set->Ws,range_succ->Wu,length->Wy,map_map->W3
open Nat renaming le_refl->Yd,lt_of_lt_of_le->Yh,le_trans->Ym,ne_of_lt->Yp,mul_le_mul_right->Yr,pow_le_pow_right->Yu,zero_le->Yw,mul_le_mul_left->Za,mul_le_mul->Zf,pow_add->Zh,pow_succ->Zq,lt_irrefl->Zs,pow_le_pow_left->Zx,lt_of_le_of_lt->Z0,mod_eq_of_lt->Z2,pow_pos->Z5,add_mul->Wa,not_lt_zero->Wc,pow_lt_pow_right->Wd,add_sub_cancel_left->Wf,pow_mul->Wh,mul_assoc->Wj,mul_add->Wm,mul_comm->Wn,le_add_right->Wo,mul_succ->Wp,add_zero->Ww,le_of_lt->Wz,zero_add->W1,mul_zero->W2,le_succ->W4,one_mul->W5
open PySem.Heap renaming get?_push_of_some->Yg,lt_size->Yl,get?_push_size->Y1
open Int renaming toNat_natCast->Yj,mul_zero->Y4,fmod_eq_emod_of_nonneg->Y5,pow_succ->Y6,emod_lt_of_pos->Zc,pow_zero->Zd,natAbs_mul->Ze,emod_nonneg->Zg,eq_ofNat_of_zero_le->Zi,fdiv_eq_ediv_of_nonneg->Zj,zero_mul->Zk,natCast_mul->Zl,one_mul->Zn,emod_add_mul_ediv->Zr,add_zero->Zu,eq_of_mul_eq_mul_left->Zy,natAbs->Zz,mul_comm->Z1,toNat_of_nonneg->Z7,zero_add->Z8,pow_pos->Wb,pow_add->Wg,mul_assoc->Wr,natCast_pow->Wt,mul_one->Wv,mul_nonneg->Wx,le_of_lt->W0
abbrev W6:=@if_neg
abbrev W7:=@if_pos
abbrev W8:=@decide_eq_true
abbrev W9:=@of_decide_eq_true
abbrev Ja:=@decide_eq_false
abbrev Jb:=@congrArg
abbrev Jd:=@absurd
namespace L2
open PySem PySem.Spec PyProof.Rows
abbrev Key:=Sum Int Str
def Lg:Key->l?->Bool
 | .inl k,v=>Value.isInt k v
 | .inr x,v=>Value.isStrOf x v
def RW (w:H?):Key->Int
 | .inl k=>hashInt k
 | .inr x=>hashStr w x
theorem dG:∀ {k:Key} {v:l?},Lg k v=true->(∃i t,k=Sum.inl i/\v=Value.int i t)\/(∃x t,k=Sum.inr x/\v=Value.str x t)
 | .inl i,v,h=>by
  obtain⟨t,e⟩:=Value.isInt_shape (k:=i) (v:=v) h;exact .inl ⟨i,t,rfl,e⟩
 | .inr x,v,h=>by
  obtain⟨t,e⟩:=Value.isStrOf_shape (x:=x) (v:=v) h;exact .inr ⟨x,t,rfl,e⟩
theorem Ml (a b:Int):decide ((Sum.inl a:Key)=Sum.inl b)=(a == b):=by
 by_cases e:a=b
 ·subst e;simp
 ·have h:¬ (Sum.inl a:Key)=Sum.inl b:=λq=>e (Sum.inl.inj q)
  rw[Ja h];exact(beq_eq_false_iff_ne.mpr e).symm
theorem Mm (a b:Str):decide ((Sum.inr a:Key)=Sum.inr b)=decide (a=b):=by
 by_cases e:a=b
 ·subst e;simp
 ·have h:¬ (Sum.inr a:Key)=Sum.inr b:=λq=>e (Sum.inr.inj q)
  rw[Ja h,Ja e]
theorem Mp (a:Int)(b:Str):decide ((Sum.inl a:Key)=Sum.inr b)=false:=Ja (λq=>nomatch q)
theorem Mq (a:Str)(b:Int):decide ((Sum.inr a:Key)=Sum.inl b)=false:=Ja (λq=>nomatch q)
def Dk (prog:F?)(w:H?):PySem.KeyKind prog w Key where
 is:=Lg
 hash:=RW w
 inj:=λv a b ha hb=>by
  rcases dG ha with ⟨i,t,rfl,rfl⟩|⟨x,t,rfl,rfl⟩
  ·rcases dG hb with ⟨j,u,rfl,e⟩|⟨y,u,rfl,e⟩
   ·injection e with e1 _;rw[e1]
   ·exact nomatch e
  ·rcases dG hb with ⟨j,u,rfl,e⟩|⟨y,u,rfl,e⟩
   ·exact nomatch e
   ·injection e with e1 _;rw[e1]
 byValue:=λk v h=>by
  rcases dG h with ⟨i,t,rfl,rfl⟩|⟨x,t,rfl,rfl⟩ <;> rfl
 pyHash:=λhv h=>by
  rcases dG hv with ⟨i,t,rfl,rfl⟩|⟨x,t,rfl,rfl⟩
  ·exact wpAny_pyHash_int h
  ·exact wpAny_pyHash_str h
 eqBool:=λhu hv h=>by
  rcases dG hu with ⟨i,t,rfl,rfl⟩|⟨x,t,rfl,rfl⟩
  ·rcases dG hv with ⟨j,u,rfl,rfl⟩|⟨y,u,rfl,rfl⟩
   ·rw[Ml] at h;exact wpAny_eqBool_int h
   ·rw[Mp] at h;exact SeqAt.EqAt.int_str i t y u _ _ _ _ h
  ·rcases dG hv with ⟨j,u,rfl,rfl⟩|⟨y,u,rfl,rfl⟩
   ·rw[Mq] at h;exact SeqAt.EqAt.str_int x t j u _ _ _ _ h
   ·rw[Mm] at h;exact wpAny_eqBool_str h
 «strs»:=λk x t v h=>by
  rcases dG h with ⟨i,u,rfl,e⟩|⟨y,u,rfl,e⟩
  ·exact nomatch e
  ·injection e with e1 _
   subst e1;cases v <;> rfl
inductive V where
 | eO|bl (b:Bool)|int (i:Int)|str (x:Str)|byt (b:Array UInt8)|flt (b:UInt64)|ref (a:o?)|ty (n:String)
 deriving DecidableEq
def RelV:V->l?->Prop
 | .eO,u=>u=Value.none
 | .bl b,u=>u=Value.bool b
 | .int i,u=>∃t,u=Value.int i t
 | .str x,u=>∃t,u=Value.str x t
 | .byt b,u=>∃t,u=Value.bytes b t
 | .flt b,u=>∃t,u=Value.float b t
 | .ref a,u=>u=I! a
 | .ty n,u=>u=Value.type n
abbrev Vals:List V->List l?->Prop:=Paired RelV
theorem Vals.length {xs:List V}{us:List l?}(r:Vals xs us):xs.length=us.length:=Paired.length r
theorem Vals.get:∀ {xs:List V} {us:List l?} {i:Nat} {x:V},Vals xs us->xs[i]?=j? x->∃u,us[i]?=j? u/\RelV x u
 | _,_,_,_,.nil,e=>by simp at e
 | _,_,0,_,.cons r _,e=>by simp at e;subst e;exact⟨_,rfl,r⟩
 | _,_,i+1,x,.cons _ t,e=>by
  obtain⟨u,h1,h2⟩:=Vals.get (i:=i) (x:=x) t (by simpa using e)
  exact⟨u,by simpa using h1,h2⟩
theorem Vals.set {x:V}{u:l?}(r:RelV x u):∀ {xs:List V} {us:List l?} (i:Nat),Vals xs us->Vals (xs.set i x) (us.set i u)
 | _,_,_,.nil=>.nil
 | _,_,0,.cons _ t=>.cons r t
 | _,_,i+1,.cons q t=>.cons q (Vals.set r i t)
theorem Vals.append:∀ {xs ys:List V} {us ws:List l?},Vals xs us->Vals ys ws->Vals (xs++ys) (us++ws)
 | _,_,_,_,.nil,s=>s
 | _,_,_,_,.cons r t,s=>.cons r (Vals.append t s)
theorem Vals.take:∀ {xs:List V} {us:List l?} (n:Nat),Vals xs us->Vals (xs.take n) (us.take n)
 | _,_,0,_=>.nil
 | _,_,_+1,.nil=>.nil
 | _,_,n+1,.cons r t=>.cons r (Vals.take n t)
theorem Vals.drop:∀ {xs:List V} {us:List l?} (n:Nat),Vals xs us->Vals (xs.drop n) (us.drop n)
 | _,_,0,r=>r
 | _,_,_+1,.nil=>.nil
 | _,_,n+1,.cons _ t=>Vals.drop n t
def OG:Option V->Option l?->Prop
 | some v,j? u=>RelV v u
 | none,q?=>True
 | _,_=>False
def KV {κ:Type}:List (κ×V)->List (κ×l?)->Prop:=Paired λ(p:κ×V) (q:κ×l?)=>p.1=q.1/\RelV p.2 q.2
def kV:Key->V
 | .inl i=>.int i
 | .inr x=>.str x
inductive HO where
 | lst (xs:List V)
 | tup (xs:List V)
 | dK (kvs:List (Key×V))|dT (kvs:List (List Key×V))
 | set (S:Int->Bool) (n:Nat)
 | ins (C dx:o?) (fs:List (Str×V))
 | own (x:o?)
 | xd (fs:List (Str×V))
 | met (f x:o?)
 | rC (lo hi:Int)
 | FZ (o:Obj) (u:HO)
 | uN (ps:Array l?)
 | ext (φ:O?->Prop)
abbrev Hp:=o?->Option HO
def upd (H:Hp)(a:o?)(o:HO):Hp:=λb=>if b=a then j? o else H b
theorem av {H:Hp}{a:o?}{o:HO}:upd H a o a=j? o:=by unfold upd;rw[W7 rfl]
theorem aL {H:Hp}{a b:o?}{o:HO}(h:b≠a):upd H a o b=H b:=by unfold upd;rw[W6 h]
theorem bh {H:Hp}{a b:o?}{o:HO}(h:H a=j? o)(h':H b=q?):a≠b:=by
 intro e;subst e;rw[h] at h';cases h'
section
variable (P:F?) (w:H?)
def ir (H:Hp)(h:O?)(a:o?):HO->Prop
 | .lst xs=>xs.length<=K?/\∃(its:List l?) (n:Nat),Vals xs its/\h.get? a=j? { cls:=.type "list",data:=.seq its.toArray n }
 | .tup xs=>xs.length<=K?/\∃its:List l?,Vals xs its/\IsTup h a its.toArray
 | .dK kvs=>kvs.length<=K?/\(a == sysModules)=false/\∃vs,KV kvs vs/\h.DictOf (Dk P w) a vs
 | .dT kvs=>kvs.length<=K?/\(a == sysModules)=false/\∃xs:List (List Key×o?×l?),
   Paired (λ(p:List Key×V) (q:List Key×o?×l?)=>p.1=q.1/\H q.2.1=j? (.tup (p.1.map kV))/\RelV p.2 q.2.2) kvs xs/\
   ∃o es ep,h.get? a=j? o/\o.ExactDict/\o.data=.dict es ep/\es.toList=xs.map (entryOfKey (tupleKind (Dk P w)))/\(xs.map (·.1)).Nodup
 | .set S n=>h.SetOf (intKind P w) a S n
 | .ins C dx fs=>H dx=j? (.own a)/\fs.length<=1000/\dx≠a/\h.get? a=j? (PySem.W.instObj C dx)/\
   ∃mA,h.Ns1 dx mA/\(∀f,OG (fs.lookup f) (mA f))/\PySem.Within mA (fs.map (·.1))
 | .own _=>∃o,h.get? a=j? o
 | .xd fs=>∃mA,h.Ns1 a mA/\∀f,OG (fs.lookup f) (mA f)
 | .rC lo hi=>∃t u v,h.get? a=j? { cls:=.type "range",data:=.fields #[.int lo t,.int hi u,.int 1 v] }
 | .FZ o u=>h.get? a=j? o/\ir H h a u
 | .uN ps=>h.get? a=j? { cls:=.none,data:=.fields ps }
 | .met f x=>h.get? a=j? (PySem.W.methodObj (.ref f) (.ref x))
 | .ext φ=>φ h/\(∃o,h.get? a=j? o)/\∀h1 h2:O?,φ h1->(∀o,h1.get? a=j? o->h2.get? a=j? o)->φ h2
def tL (H:Hp)(h:O?):Prop:=∀a o,H a=j? o->ir P w H h a o
end
section
variable {P:F?} {w:H?} {H H':Hp} {h h':O?} {a:o?} {o:HO}
theorem ir.lt (x:ir P w H h a o):a<h.objs.size:=by
 cases o with
 | lst xs=>obtain⟨_,_,_,_,e⟩:=x;exact Yl e
 | tup xs=>obtain⟨_,_,_,p⟩:=x;exact p.lt
 | dK kvs=>obtain⟨_,_,_,_,o,_,_,e,_⟩:=x;exact Yl e
 | dT kvs=>obtain⟨_,_,_,_,o,_,_,e,_⟩:=x;exact Yl e
 | set S n=>obtain⟨o,_,_,_,e,_⟩:=x;exact Yl e
 | ins C dx fs=>obtain⟨_,_,_,e,_⟩:=x;exact Yl e
 | own y=>obtain⟨_,e⟩:=x;exact Yl e
 | xd fs=>obtain⟨_,⟨_,_,_,e,_⟩,_⟩:=x;exact Yl e
 | rC lo hi=>obtain⟨_,_,_,e⟩:=x;exact Yl e
 | FZ ob u=>obtain⟨e,_⟩:=x;exact Yl e
 | uN ps=>exact Yl (show h.get? a=j? _ from x)
 | met f y=>exact Yl (show h.get? a=j? _ from x)
 | ext φ=>obtain⟨_,⟨_,e⟩,_⟩:=x;exact Yl e
theorem Paired.OH {α β:Type}{F G:α->β->Prop}:∀ {l₁:List α} {l₂:List β},Paired F l₁ l₂->(∀a b,F a b->G a b)->Paired G l₁ l₂
 | _,_,.nil,_=>.nil
 | _,_,.cons r t,f=>.cons (f _ _ r) (Paired.OH t f)
theorem ir.stay (x:ir P w H h a o)(k:∀b u,(b=a\/H b=j? (.own a))->h.get? b=j? u->h'.get? b=j? u)
  (ho:∀b,H b=j? (.own a)->H' b=j? (.own a)) (ht:∀b xs,H b=j? (.tup xs)->H' b=j? (.tup xs)):ir P w H' h' a o:=by
 induction o with
 | lst xs=>obtain⟨z,its,n,r,e⟩:=x;exact⟨z,its,n,r,k _ _ (.inl rfl) e⟩
 | tup xs=>obtain⟨z,its,r,ob,e,c⟩:=x;exact⟨z,its,r,ob,k _ _ (.inl rfl) e,c⟩
 | dK kvs=>obtain⟨z,y,vs,r,ob,es,ep,e,c⟩:=x;exact⟨z,y,vs,r,ob,es,ep,k _ _ (.inl rfl) e,c⟩
 | dT kvs=>
  obtain⟨z,y,xs,r,ob,es,ep,e,c⟩:=x;exact⟨z,y,xs,Paired.OH r λp q z=>⟨z.1,ht _ _ z.2.1,z.2.2⟩,ob,es,ep,k _ _ (.inl rfl) e,c⟩
 | set S n=>obtain⟨ob,es,ep,t,e,c⟩:=x;exact⟨ob,es,ep,t,k _ _ (.inl rfl) e,c⟩
 | ins C dx fs=>
  obtain⟨d,z,ne,e,mA,⟨od,es,ep,e2,c⟩,r⟩:=x;exact⟨ho _ d,z,ne,k _ _ (.inl rfl) e,mA,⟨od,es,ep,k _ _ (.inr d) e2,c⟩,r⟩
 | own y=>obtain⟨ob,e⟩:=x;exact⟨ob,k _ _ (.inl rfl) e⟩
 | xd fs=>obtain⟨mA,⟨od,es,ep,e,c⟩,r⟩:=x;exact⟨mA,⟨od,es,ep,k _ _ (.inl rfl) e,c⟩,r⟩
 | rC lo hi=>obtain⟨t,u,v,e⟩:=x;exact⟨t,u,v,k _ _ (.inl rfl) e⟩
 | FZ ob u ih=>obtain⟨e,q⟩:=x;exact⟨k _ _ (.inl rfl) e,ih q⟩
 | uN ps=>
  have e:h.get? a=j? { cls:=.none,data:=.fields ps }:=x;show h'.get? a=j? { cls:=.none,data:=.fields ps }
  exact k a _ (.inl rfl) e
 | met f y=>
  have e:h.get? a=j? (PySem.W.methodObj (.ref f) (.ref y)):=x;show h'.get? a=j? (PySem.W.methodObj (.ref f) (.ref y))
  exact k a _ (.inl rfl) e
 | ext φ=>obtain⟨p,⟨o,e⟩,st⟩:=x;exact⟨st _ _ p λo q=>k _ _ (.inl rfl) q,⟨o,k _ _ (.inl rfl) e⟩,st⟩
theorem tL.lt (x:tL P w H h)(e:H a=j? o):a<h.objs.size:=(x a o e).lt
theorem tL.fresh (x:tL P w H h)(e:h.objs.size<=a):H a=q?:=by
 cases q:H a with
 | none=>rfl
 | some u=>exact Jd (Yh (x.lt q) e) (Zs _)
theorem tL.kept (x:tL P w H h)(k:∀b u,h.get? b=j? u->h'.get? b=j? u):tL P w H h':=λa o e=>
 (x a o e).stay (λb u _ q=>k b u q) (λ_ q=>q) λ_ _ q=>q
theorem tL.laid (x:tL P w H h)(k:∀b u,h.get? b=j? u->h'.get? b=j? u)(hp:h.objs.size<=a)(new:ir P w (upd H a o) h' a o):tL P w (upd H a o) h':=λb u e=>by
 have hn:=x.fresh hp;by_cases hb:b=a
 ·subst hb;rw[av] at e;cases e;exact new
 ·rw[aL hb] at e
  exact(x b u e).stay (λc v _ q=>k c v q) (λc q=>by rw[aL (bh q hn)];exact q) λc xs q=>by rw[aL (bh q hn)];exact q
end
def Rd (H:Hp)(a:o?)(u:HO):Prop:=H a=j? u\/∃o,H a=j? (.FZ o u)
theorem Rd.ok {P:F?}{w:H?}{H:Hp}{h:O?}{a:o?}{u:HO}(r:Rd H a u)(x:tL P w H h):ir P w H h a u:=by
 rcases r with r|⟨o,r⟩
 ·exact x a u r
 ·obtain⟨_,q⟩:=x a _ r
  exact q
def Ra:Option HO->Prop
 | some (.lst _)=>True
 | some (.dK _)=>True
 | some (.dT _)=>True
 | some (.set _ _)=>True
 | some (.ins _ _ _)=>True
 | some (.ext _)=>True
 | _=>False
section
variable {P:F?} {w:H?} {H:Hp} {h h':O?} {x e:o?} {o':HO}
theorem tL.write (ok:tL P w H h)(mu:Ra (H x))(he:e=x\/H e=j? (.own x))(k:∀b u,b≠e->h.get? b=j? u->h'.get? b=j? u)(N9:∃u,h'.get? e=j? u)
  (new:ir P w (upd H x o') h' x o'):tL P w (upd H x o') h':=λb u q=>by
 have OI:∀c y,H c=j? (.own y)->c≠x:=λc y r z=>by subst z;rw[r] at mu;exact mu
 have RX:∀c xs,H c=j? (.tup xs)->c≠x:=λc xs r z=>by subst z;rw[r] at mu;exact mu
 by_cases hb:b=x
 ·subst hb;rw[av] at q;cases q;exact new
 ·rw[aL hb] at q
  by_cases hbe:b=e
  ·have q':H b=j? (.own x):=by
    rcases he with z|z
    ·exact Jd (hbe.trans z) hb
    ·rw[hbe];exact z
   rw[q] at q';cases q';obtain⟨v,hv⟩:=N9;exact⟨v,by rw[hbe];exact hv⟩
  ·refine(ok b u q).stay (λc v hc r=>k c v ?_ r) (λc r=>by rw[aL (OI c b r)];exact r) λc xs r=>by rw[aL (RX c xs r)];exact r
   rcases hc with rfl|hc
   ·exact hbe
   ·rintro rfl
    rcases he with z|z
    ·exact OI c b hc z
    ·rw[hc] at z;cases z;exact hb rfl
end
structure Un (fs ex:List o?)(H H':Hp)(h h':O?):Prop where
 keep:∀b o,h.get? b=j? o->H b=q?->b ∉ fs->b ∉ ex->h'.get? b=j? o
 slot:∀b o,h.get? b=j? o->H b=q?->b∈fs->b ∉ ex->∃sl,h'.get? b=j? { o with slots:=sl }
 free:∀b o,h.get? b=j? o->H b=q?->b ∉ ex->H' b=q?
 there:∀b o,h.get? b=j? o->b ∉ ex->∃o',h'.get? b=j? o'
 tups:∀b xs,H b=j? (.tup xs)->H' b=j? (.tup xs)
 wR:∀b o u,H b=j? (.FZ o u)->H' b=j? (.FZ o u)
 wU:∀b ps,H b=j? (.uN ps)->∃more,H' b=j? (.uN (ps++more))
section
variable {fs fs' ex ex':List o?} {H H1 H2:Hp} {h h1 h2 h':O?} {a x e:o?} {o:HO}
theorem Un.any (u:Un fs ex H H1 h h1){b:o?}{ob:Obj}(q:h.get? b=j? ob)(n:H b=q?)(hx:b ∉ ex):∃sl,h1.get? b=j? { ob with slots:=sl }:=by
 by_cases hb:b∈fs
 ·exact u.slot b ob q n hb hx
 ·exact⟨ob.slots,u.keep b ob q n hb hx⟩
theorem Un.kept (k:∀b u,h.get? b=j? u->h'.get? b=j? u):Un fs ex H H h h':=
 ⟨λb ob q _ _ _=>k b ob q,λb ob q _ _ _=>⟨ob.slots,k b ob q⟩,λ_ _ _ n _=>n,λb ob q _=>⟨ob,k b ob q⟩,λ_ _ q=>q,λ_ _ _ q=>q,λ_ ps q=>⟨#[],by rw[q];simp⟩⟩
theorem Un.refl:Un fs ex H H h h:=Un.kept λ_ _ q=>q
theorem Un.laid (k:∀b u,h.get? b=j? u->h'.get? b=j? u)(hp:h.objs.size<=a)(hn:H a=q?):Un fs ex H (upd H a o) h h' where
 keep:=λb u q _ _ _=>k b u q
 slot:=λb u q _ _ _=>⟨u.slots,k b u q⟩
 free:=λb u q n _=>by rw[aL (Yp (Yh (Yl q) hp))];exact n
 there:=λb u q _=>⟨u,k b u q⟩
 tups:=λb xs q=>by rw[aL (bh q hn)];exact q
 wR:=λb u xs q=>by rw[aL (bh q hn)];exact q
 wU:=λb ps q=>⟨#[],by rw[aL (bh q hn),q];simp⟩
theorem Un.write (mu:Ra (H x))(he:e=x\/H e=j? (.own x))(k:∀b u,b≠e->h.get? b=j? u->h'.get? b=j? u)(N9:∃u,h'.get? e=j? u):Un fs ex H (upd H x o) h h':=by
 have hx:∀b,H b=q?->b≠x:=λb n z=>by subst z;rw[n] at mu;exact mu
 have hb:∀b,H b=q?->b≠e:=λb n z=>by
  subst z;rcases he with r|r
  ·exact hx b n r
  ·rw[n] at r;cases r
 have hm:∀b u,H b=j? u->¬ Ra (j? u)->b≠x:=λb u q nm z=>by subst z;rw[q] at mu;exact nm mu
 refine⟨λb u q n _ _=>k b u (hb b n) q,λb u q n _ _=>⟨u.slots,k b u (hb b n) q⟩,λb u q n _=>by rw[aL (hx b n)];exact n,λb u q _=>?_,
  λb xs q=>by rw[aL (hm b _ q λz=>z)];exact q,λb u xs q=>by rw[aL (hm b _ q λz=>z)];exact q,λb ps q=>⟨#[],by rw[aL (hm b _ q λz=>z),q];simp⟩⟩
 by_cases hbe:b=e
 ·subst hbe;exact N9
 ·exact⟨u,k b u hbe q⟩
end
def Rb (h:O?)(H:Hp):List o?:=(Yk h.objs.size).filter λa=>(H a).isSome
def wV (h:O?)(H:Hp):O?:=PySem.W.hideAll h (Rb h H)
theorem Ex (h:O?)(H:Hp):(wV h H).objs.size=h.objs.size:=PySem.W.hideAll_size _ _
theorem F0 {h:O?}{H:Hp}{b:o?}{o:Obj}(e:h.get? b=j? o)(n:H b=q?):(wV h H).get? b=j? o:=
 PySem.W.hideAll_get _ e λhm=>by
  have q:(H b).isSome=true:=(List.mem_filter.mp hm).2;rw[n] at q;simp at q
theorem JF {h:O?}{H:Hp}{b:o?}{o:Obj}(e:(wV h H).get? b=j? o):h.get? b=j? o/\H b=q?:=by
 have e':h.get? b=j? o:=PySem.W.of_hideAll (Rb h H) e;refine⟨e',?_⟩
 cases q:H b with
 | none=>rfl
 | some x=>
  have hm:b∈Rb h H:=List.mem_filter.mpr ⟨List.mem_range.mpr (Yl e'),by simp[q]⟩
  have z:(wV h H).get? b=q?:=PySem.W.hideAll_none (Rb h H) hm;rw[z] at e;cases e
structure Mod (K:bG)(mg:Str->Option l?)(base:O?):Prop where
 Rc:K.In base
 glob:base.Ns G? mg
 blt:∃mb,base.Ns builtinsNs mb/\∀x:Str,x≠"__name__"->mb x=H! x
 nolimit:base.NoLimit
structure Cx where
 prog:F?
 w:H?
 K:bG
 mg:Str->Option l?
 base:O?
 A:A!
 N:List Str
 s₀:u?
 H₀:Hp
 env:Env
 outer:List Env
 stack:List Env
 ex:List o?
 fn:Str->Bool
 calm:Bool
 pn:List (o?×Obj)
 xe:l?->u?->Prop
def frs (l:List Env):List o?:=l.filterMap (·.frame)
abbrev Cx.fs (X:Cx):List o?:=frs X.outer
def N_ (sc:Scope)(x:Str):Prop:=sc.names.lookup x=j? .local\/sc.names.lookup x=j? .cell\/sc.names.lookup x=j? .free
def Loc (sc:Scope)(x:Str):Prop:=sc.names.lookup x=j? .local\/sc.names.lookup x=j? .cell
def Look (env:Env)(h:O?)(m:Str->Option l?)(x:Str)(u:l?):Prop:=
 (env.kindOf x=j? .local/\m x=j? u)\/((env.kindOf x=j? .cell\/env.kindOf x=j? .free)/\∃c,env.cells.lookup x=j? c/\h.IsCell c (j? u))
structure Cx.Ok (X:Cx):Prop where
 mod:Mod X.K X.mg X.base
 kind:X.env.scope.kind=.function
 glob:X.env.globals=G?
 blt:X.env.builtins=builtinsNs
 above:X.s₀.heap.objs.size<=X.env.locals
 inj:∀x y c,X.env.cells.lookup x=j? c->X.env.cells.lookup y=j? c->x=y
 has:∀x,(X.env.kindOf x=j? .cell\/X.env.kindOf x=j? .free)->∃c,X.env.cells.lookup x=j? c
 Lh:∀x c,X.fn x=true->X.env.cells.lookup x=j? c->X.s₀.heap.objs.size<=c
 hd:X.calm=true->X.A.handled=q?
 frames:X.A.frames=j? X.stack
 stk:X.stack=X.outer\/(X.stack=X.env::X.outer/\X.env.frame=j? X.env.locals)
 Oa:∀b∈X.ex,b≠X.env.locals/\∀x c,X.env.cells.lookup x=j? c->c≠b
 bs:∀b o,X.base.get? b=j? o->X.s₀.heap.get? b=j? o/\X.H₀ b=q?
 Dl:X.base.objs.size<=X.s₀.heap.objs.size
 zX:∀b o,X.base.get? b=j? o->b ∉ X.ex
 zY:∀b∈X.ex,b ∉ X.fs
 mh:X.s₀.heap.FunFrames X.base X.outer
 F1:∀b∈X.fs,X.H₀ b=q?
structure Inv (X:Cx)(pins:List (o?×Obj))(σ:List (Option V))(H:Hp)(s:u?):Prop where
 ok:X.Ok
 os:s.os=X.s₀.os
 bare:AllBare s.gens
 base:Un X.fs X.ex X.H₀ H X.s₀.heap s.heap
 loc:∃m,s.heap.Ns X.env.locals m/\∀(i:Nat) (x:Str) (v:V),X.N[i]?=j? x->σ[i]?=j? (j? v)->N_ X.env.scope x->∃u,RelV v u/\Look X.env s.heap m x u
 cell:∀x c,X.env.cells.lookup x=j? c->∃v,s.heap.IsCell c v
 free:H X.env.locals=q?
 iN:∀x c,X.env.cells.lookup x=j? c->H c=q?
 pin:∀p∈X.pn++pins,s.heap.get? p.1=j? p.2/\H p.1=q?/\p.1≠X.env.locals/\p.1 ∉ X.fs/\∀v,p.2.data≠.cell v
 hok:tL X.prog X.w H s.heap
 len:σ.length=X.N.length
section
variable {X:Cx} {pins:List (o?×Obj)} {σ:List (Option V)} {H H':Hp} {s:u?} {h':O?}
theorem Cx.Ok.RY (ok:X.Ok){b:o?}{o:Obj}(e:X.base.get? b=j? o):b ∉ X.fs:=λhb=>by
 have:=(ok.mh.mem hb).1
 rw[e] at this;cases this
theorem Inv.bs (I:Inv X pins σ H s):∀b o,X.base.get? b=j? o->s.heap.get? b=j? o/\H b=q?:=λb o e=>
 ⟨I.base.keep b o (I.ok.bs b o e).1 (I.ok.bs b o e).2 (I.ok.RY e) (I.ok.zX b o e),I.base.free b o (I.ok.bs b o e).1 (I.ok.bs b o e).2 (I.ok.zX b o e)⟩
theorem Inv.bk (I:Inv X pins σ H s):∀b o,X.base.get? b=j? o->s.heap.get? b=j? o:=λb o e=>(I.bs b o e).1
theorem Inv.mod (I:Inv X pins σ H s):Mod X.K X.mg X.base:=I.ok.mod
theorem Inv.Dm (I:Inv X pins σ H s):X.K.In s.heap:=I.ok.mod.Rc.keeps I.bk
theorem Inv.lt (I:Inv X pins σ H s):X.env.locals<s.heap.objs.size:=let ⟨_,hn,_⟩:=I.loc;hn.lt
theorem Inv.sz (I:Inv X pins σ H s):X.s₀.heap.objs.size<=s.heap.objs.size:=Ym I.ok.above (Wz I.lt)
theorem Inv.RZ (I:Inv X pins σ H s){a:o?}(h:s.heap.objs.size<=a):a ∉ X.fs:=λhb=>by
 obtain⟨_,o,ho,_⟩:=I.ok.mh.mem hb;exact Jd (Yh (Yl ho) (Ym I.sz h)) (Zs _)
theorem Inv.Li (I:Inv X pins σ H s):∀x c,X.env.cells.lookup x=j? c->c≠X.env.locals:=λx c e z=>by
 obtain⟨v,o,ho,hd⟩:=I.cell x c e;obtain⟨m,⟨o',es,ep,ho',hd',_⟩,_⟩:=I.loc;rw[z,ho'] at ho;cases ho;rw[hd'] at hd;cases hd
theorem Inv.mh (I:Inv X pins σ H s):s.heap.FunFrames X.base X.outer:=by
 have all:∀(l:List Env),(∀b∈frs l,b∈X.fs)->X.s₀.heap.FunFrames X.base l->s.heap.FunFrames X.base l:=by
  intro l;induction l with
  | nil=>intro _ _;trivial
  | cons env r ih=>
   intro hs hl;obtain⟨hk,⟨L,o,hf,hn,ho,hd⟩,hr⟩:=hl;have hL:L∈X.fs:=hs L (by unfold frs;rw[List.filterMap_cons,hf];exact Y8)
   obtain⟨sl,e⟩:=I.base.slot L o ho (I.ok.F1 L hL) hL λz=>I.ok.zY L z hL
   exact⟨hk,⟨L,_,hf,hn,e,hd⟩,ih (λb hb=>hs b (by unfold frs;rw[List.filterMap_cons,hf];exact Y3 _ hb)) hr⟩
 exact all X.outer (λ_ hb=>hb) I.ok.mh
theorem Inv.stack (I:Inv X pins σ H s):s.heap.FunFrames X.base X.stack:=by
 rcases I.ok.stk with e|⟨e,hf⟩
 ·rw[e];exact I.mh
 ·rw[e]
  obtain⟨m,hn,_⟩:=I.loc;refine .cons (by rw[I.ok.kind];decide) hf hn ?_ I.mh
  exact Heap.get?_none_of_le (Ym I.ok.Dl I.ok.above)
theorem Inv.rG (I:Inv X pins σ H s):∀b∈frs X.stack,b∈X.env.locals::X.fs:=λb hb=>by
 rcases I.ok.stk with e|⟨e,hf⟩
 ·rw[e] at hb;exact Y3 _ hb
 ·rw[e] at hb
  unfold frs at hb;rw[List.filterMap_cons,hf] at hb;exact hb
theorem Inv.uq (I:Inv X pins σ H s):∀b∈frs X.stack,H b=q?:=λb hb=>by
 rcases List.mem_cons.mp (I.rG b hb) with e|hb
 ·rw[e];exact I.free
 ·obtain⟨_,o,ho,_⟩:=I.ok.mh.mem hb
  exact I.base.free b o ho (I.ok.F1 b hb) λz=>I.ok.zY b z hb
theorem Inv.step {g':Array GenState}{t':Nat}{d':Drawn}{ch:List o?}(I:Inv X pins σ H s)
  (hch:∀b∈ch,(b∈X.ex\/X.s₀.heap.objs.size<=b)/\b≠X.env.locals/\(∀x c,X.env.cells.lookup x=j? c->c≠b)/\∀p∈X.pn++pins,p.1≠b)
  (keep:∀b o,b≠X.env.locals->b ∉ X.fs->b ∉ ch->s.heap.get? b=j? o->H b=q?->h'.get? b=j? o)
  (slot:∀b o,b≠X.env.locals->b∈X.fs->b ∉ ch->s.heap.get? b=j? o->H b=q?->∃sl,h'.get? b=j? { o with slots:=sl }) (free:∀b o,b ∉ ch->s.heap.get? b=j? o->H b=q?->H' b=q?)
  (there:∀b o,b ∉ ch->s.heap.get? b=j? o->∃o',h'.get? b=j? o')
  (tups:∀b xs,H b=j? (.tup xs)->H' b=j? (.tup xs)) (wR:∀b o u,H b=j? (.FZ o u)->H' b=j? (.FZ o u)) (wU:∀b ps,H b=j? (.uN ps)->∃more,H' b=j? (.uN (ps++more)))
  (ns:∀m,s.heap.Ns X.env.locals m->h'.Ns X.env.locals m) (hok:tL X.prog X.w H' h') (hg:AllBare g'):
  Inv X pins σ H' { s with heap:=h',gens:=g',drawn:=d',toks:=t' }:=by
 have OJ:∀b o,X.s₀.heap.get? b=j? o->b≠X.env.locals:=λb o e=>Yp (Yh (Yl e) I.ok.above)
 have Rf:∀b o,X.s₀.heap.get? b=j? o->b ∉ X.ex->b ∉ ch:=λb o e hx hb=>by
  rcases (hch b hb).1 with z|z
  ·exact hx z
  ·exact Jd (Yh (Yl e) z) (Zs _)
 have cellK:∀x c,X.env.cells.lookup x=j? c->∀v,s.heap.IsCell c v->h'.IsCell c v:=λx c e v ⟨o,ho,hd⟩=>by
  have OL:c ∉ ch:=λz=>(hch c z).2.2.1 x c e rfl
  by_cases hc:c∈X.fs
  ·obtain⟨sl,q⟩:=slot c o (I.Li x c e) hc OL ho (I.iN x c e)
   exact⟨_,q,hd⟩
  ·exact⟨o,keep c o (I.Li x c e) hc OL ho (I.iN x c e),hd⟩
 refine⟨I.ok,I.os,hg,⟨λb o e n hb hx=>?_,λb o e n hb hx=>?_,λb o e n hx=>?_,λb o e hx=>?_,λb xs e=>tups b xs (I.base.tups b xs e),λb o xs e=>wR b o xs (I.base.wR b o xs e),λb ps e=>?_⟩,?_,λx c e=>?_,?_,λx c e=>?_,λp hp=>?_,hok,I.len⟩
 ·exact keep b o (OJ b o e) hb (Rf b o e hx) (I.base.keep b o e n hb hx) (I.base.free b o e n hx)
 ·obtain⟨sl,e1⟩:=I.base.slot b o e n hb hx
  obtain⟨OM,e2⟩:=slot b _ (OJ b o e) hb (Rf b o e hx) e1 (I.base.free b o e n hx);exact⟨OM,e2⟩
 ·obtain⟨o',e1⟩:=I.base.there b o e hx
  exact free b o' (Rf b o e hx) e1 (I.base.free b o e n hx)
 ·obtain⟨o',e1⟩:=I.base.there b o e hx
  exact there b o' (Rf b o e hx) e1
 ·obtain⟨m1,e1⟩:=I.base.wU b ps e
  obtain⟨m2,e2⟩:=wU b _ e1;exact⟨m1++m2,by rw[e2,Array.append_assoc]⟩
 ·obtain⟨m,hn,hl⟩:=I.loc
  refine⟨m,ns m hn,λi x v e1 e2 e3=>?_⟩
  obtain⟨u,r,l⟩:=hl i x v e1 e2 e3;refine⟨u,r,?_⟩
  rcases l with l|⟨k,c,e,z⟩
  ·exact .inl l
  ·exact .inr ⟨k,c,e,cellK x c e _ z⟩
 ·obtain⟨v,z⟩:=I.cell x c e
  exact⟨v,cellK x c e v z⟩
 ·obtain⟨m,⟨o,_,_,ho,_⟩,_⟩:=I.loc
  exact free _ o (λz=>(hch _ z).2.1 rfl) ho I.free
 ·obtain⟨v,o,ho,hd⟩:=I.cell x c e
  exact free c o (λz=>(hch c z).2.2.1 x c e rfl) ho (I.iN x c e)
 ·obtain⟨e,n,ne,nf,d⟩:=I.pin p hp
  have OL:p.1 ∉ ch:=λz=>(hch p.1 z).2.2.2 p hp rfl
  exact⟨keep p.1 p.2 ne nf OL e n,free p.1 p.2 OL e n,ne,nf,d⟩
theorem Inv.un {t':Nat}(I:Inv X pins σ H s)(u:Un X.fs [] H H' s.heap h')(hok:tL X.prog X.w H' h'):Inv X pins σ H' { s with heap:=h',toks:=t' }:=by
 obtain⟨m,⟨o,es,ep,ho,r⟩,_⟩:=id I.loc;obtain⟨sl,hL⟩:=u.any ho I.free (by simp)
 exact I.step (g':=s.gens) (d':=s.drawn) (ch:=[]) (λ_ z=>nomatch z) (λb o _ hb _ e n=>u.keep b o e n hb (by simp)) (λb o _ hb _ e n=>u.slot b o e n hb (by simp)) (λb o _ e n=>u.free b o e n (by simp)) (λb o _ e=>u.there b o e (by simp)) u.tups u.wR u.wU (λm' hm=>by
  obtain⟨o',es',R1,ho',r'⟩:=hm;rw[ho] at ho';cases ho';exact⟨_,es',R1,hL,r'⟩) hok I.bare
theorem Inv.call {g':Array GenState}{t':Nat}{d':Drawn}{ch:List o?}(I:Inv X pins σ H s)(u:Un (frs X.stack) ch H H' s.heap h')(hok:tL X.prog X.w H' h')(hg:AllBare g')
  (hch:∀b∈ch,(b∈X.ex\/X.s₀.heap.objs.size<=b)/\b≠X.env.locals/\(∀x c,X.env.cells.lookup x=j? c->c≠b)/\∀p∈X.pn++pins,p.1≠b):
  Inv X pins σ H' { s with heap:=h',gens:=g',drawn:=d',toks:=t' }:=by
 obtain⟨m,⟨o,es,ep,ho,r⟩,_⟩:=id I.loc;obtain⟨sl,hL⟩:=u.any ho I.free λz=>(hch _ z).2.1 rfl
 exact I.step (ch:=ch) hch (λb o hL hb hc e n=>u.keep b o e n (λz=>(List.mem_cons.mp (I.rG b z)).elim hL hb) hc) (λb o _ _ hc e n=>u.any e n hc) (λb o hc e n=>u.free b o e n hc) (λb o hc e=>u.there b o e hc) u.tups u.wR u.wU (λm' hm=>by
  obtain⟨o',es',R1,ho',r'⟩:=hm;rw[ho] at ho';cases ho';exact⟨_,es',R1,hL,r'⟩) hok hg
theorem Inv.turned {t':Nat}{it:o?}(I:Inv X pins σ H s)(k:∀b o,b≠it->s.heap.get? b=j? o->h'.get? b=j? o)(hn:H it=q?)(hL:it≠X.env.locals)
  (h1:it∈X.ex\/X.s₀.heap.objs.size<=it) (h2:∀x c,X.env.cells.lookup x=j? c->c≠it) (h3:∀p∈X.pn++pins,p.1≠it):Inv X pins σ H { s with heap:=h',toks:=t' }:=by
 have Lj:∀b u,H b=j? u->b≠it:=λb u e z=>by rw[z,hn] at e;cases e
 refine I.step (g':=s.gens) (d':=s.drawn) (ch:=[it]) (λb hb=>?_) (λb o _ _ hc e _=>k b o (λz=>hc (by simp[z])) e) (λb o _ _ hc e _=>⟨o.slots,k b o (λz=>hc (by simp[z])) e⟩) (λ_ _ _ _ n=>n)
  (λb o hc e=>⟨o,k b o (λz=>hc (by simp[z])) e⟩) (λ_ _ e=>e) (λ_ _ _ e=>e) (λb ps e=>⟨#[],by rw[e];simp⟩) (λm hm=>?_) (λb u e=>?_) I.bare
 ·have e:b=it:=by simpa using hb
  subst e;exact⟨h1,hL,h2,h3⟩
 ·obtain⟨o,es,ep,ho,r⟩:=hm
  exact⟨o,es,ep,k _ o (Ne.symm hL) ho,r⟩
 ·refine(I.hok b u e).stay (λc v hc q=>k c v ?_ q) (λ_ q=>q) λ_ _ q=>q
  rcases hc with z|z
  ·rw[z];exact Lj b u e
  ·exact Lj c _ z
theorem Inv.tok (I:Inv X pins σ H s)(t:Nat):Inv X pins σ H { s with toks:=t }:=I.un (h':=s.heap) (t':=t) Un.refl I.hok
theorem Inv.kept {t':Nat}(I:Inv X pins σ H s)(k:∀b u,s.heap.get? b=j? u->h'.get? b=j? u):Inv X pins σ H { s with heap:=h',toks:=t' }:=I.un (Un.kept k) (I.hok.kept k)
theorem Inv.laid {a:o?}{o:HO}{t':Nat}(I:Inv X pins σ H s)(k:∀b u,s.heap.get? b=j? u->h'.get? b=j? u)(hp:s.heap.objs.size<=a)(new:ir X.prog X.w (upd H a o) h' a o):
  Inv X pins σ (upd H a o) { s with heap:=h',toks:=t' }:=I.un (Un.laid k hp (I.hok.fresh hp)) (I.hok.laid k hp new)
theorem Inv.write {x e:o?}{o:HO}{t':Nat}(I:Inv X pins σ H s)(mu:Ra (H x))(he:e=x\/H e=j? (.own x))(k:∀b u,b≠e->s.heap.get? b=j? u->h'.get? b=j? u)(N9:∃u,h'.get? e=j? u)
  (new:ir X.prog X.w (upd H x o) h' x o):Inv X pins σ (upd H x o) { s with heap:=h',toks:=t' }:=I.un (Un.write mu he k N9) (I.hok.write mu he k N9 new)
theorem Inv.Dn {tM:List (o?×Obj)}(I:Inv X pins σ H s)(h:∀p∈tM,s.heap.get? p.1=j? p.2/\H p.1=q?/\p.1≠X.env.locals/\p.1 ∉ X.fs/\∀v,p.2.data≠.cell v):Inv X tM σ H s:=
 ⟨I.ok,I.os,I.bare,I.base,I.loc,I.cell,I.free,I.iN,λp hp=>(List.mem_append.mp hp).elim (λz=>I.pin p (List.mem_append_left _ z)) (h p),I.hok,I.len⟩
theorem zZ {N:List Str}(hN:N.Nodup){i j:Nat}{x:Str}(a:N[i]?=j? x)(b:N[j]?=j? x):i=j:=by
 obtain⟨h1,e1⟩:=List.getElem?_eq_some_iff.mp a;obtain⟨h2,e2⟩:=List.getElem?_eq_some_iff.mp b;exact(List.getElem_inj hN).mp (e1.trans e2.symm)
theorem rH {M:Model}{A:A!}{E:l?->u?->Prop}{i:Nat}{x:Str}{v:V}{u:l?}{Q:Unit->u?->Prop}(I:Inv X pins σ H s)(hN:X.N.Nodup)(hi:X.N[i]?=j? x)(hx:Loc X.env.scope x)(r:RelV v u)
  (h:∀s',Inv X pins (σ.set i (j? v)) H s'->(∃a,Heap.SameBut a s.heap s'.heap/\(a=X.env.locals\/X.env.cells.lookup x=j? a))->Q () s') (hf:X.fn x=true\/X.env.scope.names.lookup x=j? .local:=by first|exact .inl rfl|exact .inr rfl|assumption):L? M A (storeName X.env x u) Q E s:=by
 obtain⟨m,hn,hl⟩:=id I.loc;have hcls:(X.env.scope.kind == .class || (X.env.scope.kind == .module && X.env.locals != X.env.globals))=false:=by rw[I.ok.kind];rfl
 have OO:i<σ.length:=by rw[I.len];exact(List.getElem?_eq_some_iff.mp hi).1
 have Li:=I.Li;have tracked:∀ {a:o?} {h':O?},(∃o,s.heap.get? a=j? o/\H a=q?)->Heap.SameBut a s.heap h'->tL X.prog X.w H h':=λ{a h'} ha hs b ob e=>by
  obtain⟨_,_,hfree⟩:=ha;refine(I.hok b ob e).stay (λc w' hc q=>(hs.2 c ?_).trans q) (λ_ q=>q) λ_ _ q=>q
  rintro rfl;rcases hc with rfl|hc
  ·rw[hfree] at e;cases e
  ·rw[hfree] at hc;cases hc
 rcases hx with hk|hk
 ·refine wpAny_storeName_local hk hn (λh' hn' hs=>?_) hcls
  obtain⟨oL,_,_,W_,_⟩:=id hn;refine h _ ⟨I.ok,I.os,I.bare,⟨λb o e n hb hx=>?_,λb o e n hb hx=>?_,I.base.free,λb o e hx=>?_,I.base.tups,I.base.wR,I.base.wU⟩,⟨_,hn',λj y v' e1 e2 e3=>?_⟩,λy c e=>?_,I.free,I.iN,λp hp=>?_,tracked ⟨oL,W_,I.free⟩ hs,by simpa using I.len⟩ ⟨_,hs,.inl rfl⟩
  ·exact(hs.2 b (Yp (Yh (Yl e) I.ok.above))).trans (I.base.keep b o e n hb hx)
  ·obtain⟨sl,e1⟩:=I.base.slot b o e n hb hx
   exact⟨sl,(hs.2 b (Yp (Yh (Yl e) I.ok.above))).trans e1⟩
  ·obtain⟨o',e1⟩:=I.base.there b o e hx
   exact⟨o',(hs.2 b (Yp (Yh (Yl e) I.ok.above))).trans e1⟩
  ·by_cases hj:j=i
   ·subst hj
    rw[hi] at e1;cases e1;rw[List.getElem?_set_self OO] at e2;cases e2;exact⟨u,r,.inl ⟨hk,by simp⟩⟩
   ·rw[List.getElem?_set_ne (Ne.symm hj)] at e2
    obtain⟨u',r',q⟩:=hl j y v' e1 e2 e3;refine⟨u',r',?_⟩
    rcases q with ⟨k,e⟩|⟨k,c,e,z⟩
    ·refine .inl ⟨k,?_⟩
     have:y≠x:=λe=>hj (zZ hN e1 (e ▸ hi))
     simp[this,e]
    ·exact .inr ⟨k,c,e,z.sameBut hs (Li y c e)⟩
  ·obtain⟨w',z⟩:=I.cell y c e
   exact⟨w',z.sameBut hs (Li y c e)⟩
  ·obtain⟨e,n,ne,nf,d⟩:=I.pin p hp
   exact⟨(hs.2 p.1 ne).trans e,n,ne,nf,d⟩
 ·have hfn:X.fn x=true:=by
   rcases hf with z|z
   ·exact z
   ·rw[z] at hk;cases hk
  obtain⟨c,hc⟩:=I.ok.has x (.inl hk);obtain⟨w',z⟩:=I.cell x c hc;refine wpAny_storeName_cell I.ok.kind hk hc z (λh' hc' hs=>?_)
  obtain⟨oc,hoc,R3⟩:=id z;refine h { s with heap:=h' } ⟨I.ok,I.os,I.bare,⟨λb o e n hb hx=>?_,λb o e n hb hx=>?_,I.base.free,λb o e hx=>?_,I.base.tups,I.base.wR,I.base.wU⟩,⟨m,hn.sameBut hs (Ne.symm (Li x c hc)),λj y v' e1 e2 e3=>?_⟩,λy c' e=>?_,I.free,I.iN,λp hp=>?_,tracked ⟨oc,hoc,I.iN x c hc⟩ hs,by simpa using I.len⟩ ⟨c,hs,.inr hc⟩
  ·exact(hs.2 b (Yp (Yh (Yl e) (I.ok.Lh x c hfn hc)))).trans (I.base.keep b o e n hb hx)
  ·obtain⟨sl,e1⟩:=I.base.slot b o e n hb hx
   exact⟨sl,(hs.2 b (Yp (Yh (Yl e) (I.ok.Lh x c hfn hc)))).trans e1⟩
  ·obtain⟨o',e1⟩:=I.base.there b o e hx
   exact⟨o',(hs.2 b (Yp (Yh (Yl e) (I.ok.Lh x c hfn hc)))).trans e1⟩
  ·by_cases hj:j=i
   ·subst hj
    rw[hi] at e1;cases e1;rw[List.getElem?_set_self OO] at e2;cases e2;exact⟨u,r,.inr ⟨.inl hk,c,hc,hc'⟩⟩
   ·rw[List.getElem?_set_ne (Ne.symm hj)] at e2
    obtain⟨u',r',q⟩:=hl j y v' e1 e2 e3;refine⟨u',r',?_⟩
    rcases q with q|⟨k,c',e,z'⟩
    ·exact .inl q
    ·refine .inr ⟨k,c',e,z'.sameBut hs ?_⟩
     rintro rfl;exact hj (zZ hN e1 (I.ok.inj _ _ _ e hc ▸ hi))
  ·by_cases hcc:c'=c
   ·subst hcc;exact⟨_,hc'⟩
   ·obtain⟨w2,z2⟩:=I.cell y c' e
    exact⟨w2,z2.sameBut hs hcc⟩
  ·obtain⟨e,n,ne,nf,d⟩:=I.pin p hp
   refine⟨(hs.2 p.1 ?_).trans e,n,ne,nf,d⟩
   intro q;rw[q,hoc] at e;have q':oc=p.2:=M? e;exact d w' (by rw[<- q'];exact R3)
theorem mj {M:Model}{A:A!}{E:l?->u?->Prop}{i:Nat}{x:Str}{v:V}{u:l?}{Q:Unit->u?->Prop}(I:Inv X pins σ H s)(hN:X.N.Nodup)(hi:X.N[i]?=j? x)(hx:Loc X.env.scope x)(r:RelV v u)
  (h:∀s',Inv X pins (σ.set i (j? v)) H s'->Q () s') (hf:X.fn x=true\/X.env.scope.names.lookup x=j? .local:=by first|exact .inl rfl|exact .inr rfl|assumption):L? M A (storeName X.env x u) Q E s:=
 rH I hN hi hx r (λs' I' _=>h s' I') hf
theorem Inv.F2 {s':u?}{ch:List o?}(I:Inv X pins σ H s)(ho:s'.os=s.os)(u:Un (frs X.stack) ch H H' s.heap s'.heap)(hok:tL X.prog X.w H' s'.heap)(hg:AllBare s'.gens)
  (hch:∀b∈ch,(b∈X.ex\/X.s₀.heap.objs.size<=b)/\b≠X.env.locals/\(∀x c,X.env.cells.lookup x=j? c->c≠b)/\∀p∈X.pn++pins,p.1≠b):Inv X pins σ H' s':=by
 obtain⟨h',g',d',t',o'⟩:=s';have e:o'=s.os:=ho;subst e;exact I.call (g':=g') (t':=t') (d':=d') u hok hg hch
end
abbrev XK:=l?->Option o?->Hp->Prop
abbrev St:=List (Option V)
abbrev VK:=V->Hp->Prop
abbrev TE:=St->Hp->VK->Prop
abbrev TT:=St->Hp->(Bool->Hp->Prop)->Prop
abbrev TA:=St->Hp->(List V->Hp->Prop)->Prop
structure Ends where
 nx:St->Hp->Prop
 rt:VK
 bk:St->Hp->Prop:=λ_ _=>False
 ct:St->Hp->Prop:=λ_ _=>False
abbrev TS:=Ends->St->Hp->Prop
def EP (X:Cx)(pins:List (o?×Obj))(σ:St)(Q:VK)(u:l?)(s':u?):Prop:=∃v H',Inv X pins σ H' s'/\RelV v u/\Q v H'
def TP (X:Cx)(pins:List (o?×Obj))(σ:St)(Q:Bool->Hp->Prop)(b:Bool)(s':u?):Prop:=∃H',Inv X pins σ H' s'/\Q b H'
def AP (X:Cx)(pins:List (o?×Obj))(σ:St)(Q:List V->Hp->Prop)(us:List l?)(s':u?):Prop:=∃vs H',Inv X pins σ H' s'/\Vals vs us/\Q vs H'
def SP (X:Cx)(pins:List (o?×Obj))(D:Ends)(f:Flow)(s':u?):Prop:=
 match f with
 | .next=>∃σ' H',Inv X pins σ' H' s'/\D.nx σ' H'
 | .brk=>∃σ' H',Inv X pins σ' H' s'/\D.bk σ' H'
 | .cont=>∃σ' H',Inv X pins σ' H' s'/\D.ct σ' H'
 | .ret u=>∃v σ' H',Inv X pins σ' H' s'/\RelV v u/\D.rt v H'
structure By (p:Prop):Prop where
 out:p
instance {α:Sort _}{β:α->Prop}:CoeFun (By (∀a,β a)) (λ_=>∀a,β a):=⟨By.out⟩
abbrev PE (X:Cx)(e:Expr)(t:TE):Prop:=By (
 ∀(pins:List (o?×Obj)) (s:u?) (σ:St) (H:Hp) (Q:VK),Inv X pins σ H s->t σ H Q->L? (S? X.prog X.w) X.A (eval e X.env) (EP X pins σ Q) X.xe s)
abbrev PT (X:Cx)(e:Expr)(t:TT):Prop:=By (
 ∀(pins:List (o?×Obj)) (s:u?) (σ:St) (H:Hp) (Q:Bool->Hp->Prop),Inv X pins σ H s->t σ H Q->L? (S? X.prog X.w) X.A (isTrue e X.env (eval e X.env)) (TP X pins σ Q) X.xe s)
def PW (X:Cx)(e:Expr)(t:TT):Prop:=
 ∀(whole:Sem l?) (pins:List (o?×Obj)) (s:u?) (σ:St) (H:Hp) (Q:Bool->Hp->Prop),Inv X pins σ H s->t σ H Q->L? (S? X.prog X.w) X.A (isTrue e X.env whole) (TP X pins σ Q) X.xe s
theorem PW.pt {X:Cx}{e:Expr}{t:TT}(h:PW X e t):PT X e t:=⟨h _⟩
abbrev PA (X:Cx)(es:List Expr)(t:TA):Prop:=By (
 ∀(pos:Pos) (pins:List (o?×Obj)) (s:u?) (σ:St) (H:Hp) (Q:List V->Hp->Prop),Inv X pins σ H s->t σ H Q->L? (S? X.prog X.w) X.A (spliced (backTo pos (I? es X.env))) (AP X pins σ Q) X.xe s)
abbrev PS (X:Cx)(st:Q?)(t:TS):Prop:=By (
 ∀(pins:List (o?×Obj)) (s:u?) (σ:St) (H:Hp) (D:Ends),Inv X pins σ H s->t D σ H->L? (S? X.prog X.w) X.A (exec st X.env) (SP X pins D) X.xe s)
abbrev z4 (X:Cx)(st:List Q?)(t:TS):Prop:=By (
 ∀(pins:List (o?×Obj)) (s:u?) (σ:St) (H:Hp) (D:Ends),Inv X pins σ H s->t D σ H->L? (S? X.prog X.w) X.A (execs st X.env) (SP X pins D) X.xe s)
theorem eB {α:Type}{t:Sem α}{Q Q':α->u?->Prop}{M:Model}{A:A!}{E:l?->u?->Prop}{s:u?}(h:L? M A t Q E s)(hQ:∀a s,Q a s->Q' a s):L? M A t Q' E s:=B! h hQ λ_ _ x=>x
section
variable {X:Cx}
def Mr (i:Nat):TE:=λσ H Q=>∃v,σ[i]?=j? (j? v)/\Q v H
def tC (v:V):TE:=λ_ H Q=>Q v H
theorem Ms {i:Nat}{x:Str}{pos:Pos}(hN:X.N[i]?=j? x)(hv:N_ X.env.scope x)(hd:(x ==("__debug__":Str))=false:=by decide)(hcd:(x ==("__classdict__":Str))=false:=by decide):PE X (.Name x pos) (Mr i):=by
 refine⟨?_⟩
 intro pins s σ H Q I h;obtain⟨v,e,h⟩:=h;obtain⟨m,hn,hl⟩:=I.loc;obtain⟨u,r,l⟩:=hl i x v hN e hv;have fin:EP X pins σ Q u s:=⟨v,H,I,r,h⟩;rcases l with ⟨hk,hm⟩|⟨hk,c,hc,hcell⟩
 ·exact wpAny_Name (wpAny_loadName_local I.ok.kind hk hn hm fin) hd
 ·rcases hk with hk|hk
  ·exact wpAny_Name (wpAny_loadName_cell I.ok.kind hk hc hcell fin) hd
  ·exact wpAny_Name (wpAny_loadName_free I.ok.kind hk hc hcell fin hcd) hd
theorem ak {i j pos}:PE X (.Constant (.int i) j pos) (tC (.int i)):=⟨λ_ _ _ H _ I h=>wpAny_Constant_int ⟨.int i,H,I.tok _,⟨_,rfl⟩,h⟩⟩
theorem z5 {b j pos}:PE X (.Constant (.bool b) j pos) (tC (.bl b)):=⟨λ_ _ _ H _ I h=>Constant_bool ⟨.bl b,H,I,rfl,h⟩⟩
theorem rJ {j pos}:PE X (.Constant .none j pos) (tC .eO):=⟨λ_ _ _ H _ I h=>Constant_none ⟨.eO,H,I,rfl,h⟩⟩
theorem yr {x j pos}:PE X (.Constant (.str x) j pos) (tC (.str x)):=⟨λ_ _ _ H _ I h=>Calls.Constant_str ⟨.str x,H,I.tok _,⟨_,rfl⟩,h⟩⟩
def Gl (X:Cx)(x:Str):Prop:=X.env.kindOf x=j? .globalImplicit
theorem yt {E:l?->u?->Prop}{pins:List (o?×Obj)}{s:u?}{σ:St}{H:Hp}{x:Str}{u:l?}{pos:Pos}{Q:l?->u?->Prop}(I:Inv X pins σ H s)(hg:Gl X x)(hm:X.mg x=j? u)(h:Q u s)
  (hd:(x ==("__debug__":Str))=false:=by decide):L? (S? X.prog X.w) X.A (eval (.Name x pos) X.env) Q E s:=
 Calls.Name_function_global I.ok.kind hg (Calls.loadGlobal_global (by rw[I.ok.glob];exact I.mod.glob.keeps I.bk) hm h) hd
theorem jI {E:l?->u?->Prop}{pins:List (o?×Obj)}{s:u?}{σ:St}{H:Hp}{x:Str}{u:l?}{pos:Pos}{Q:l?->u?->Prop}(I:Inv X pins σ H s)(hg:Gl X x)(hm:X.mg x=q?)(hv:H! x=j? u)(h:Q u s)
  (hn:x≠"__name__":=by decide) (hd:(x ==("__debug__":Str))=false:=by decide):L? (S? X.prog X.w) X.A (eval (.Name x pos) X.env) Q E s:=by
 obtain⟨mb,h1,h2⟩:=I.mod.blt;exact Calls.Name_function_global I.ok.kind hg (Calls.loadGlobal_builtin (by rw[I.ok.glob];exact I.mod.glob.keeps I.bk) hm (by rw[I.ok.blt];exact h1.keeps I.bk) ((h2 x hn).trans hv) h) hd
theorem ur {x:Str}{v:V}{u:l?}{pos:Pos}(hg:Gl X x)(hm:X.mg x=j? u)(r:RelV v u)(hd:(x ==("__debug__":Str))=false:=by decide):PE X (.Name x pos) (tC v):=
 ⟨λ_ _ _ H _ I h=>yt I hg hm ⟨v,H,I,r,h⟩ hd⟩
theorem yu {x:Str}{v:V}{u:l?}{pos:Pos}(hg:Gl X x)(hm:X.mg x=q?)(hv:H! x=j? u)(r:RelV v u)(hn:x≠"__name__":=by decide)(hd:(x ==("__debug__":Str))=false:=by decide):PE X (.Name x pos) (tC v):=
 ⟨λ_ _ _ H _ I h=>jI I hg hm hv ⟨v,H,I,r,h⟩ hn hd⟩
variable {a b:Expr} {ta tb:TE} {pos:Pos}
def tB (t:TE):TT:=λσ H Q=>t σ H λx H1=>∃c,x=.bl c/\Q c H1
theorem yw {e:Expr}{t:TE}(h:PE X e t)(he:∀whole,isTrue e X.env whole=(do let v <- whole;standAt e.pos;holding [v] (truthy v)):=by intro _;rfl):PT X e (tB t):=by
 refine⟨?_⟩
 intro pins s σ H Q I hw;refine isTrue_plain (eB (h pins s σ H _ I hw) λv s1 ⟨x,H1,I1,r1,q1⟩=>?_) (he _)
 obtain⟨d,rfl,q⟩:=q1;cases r1;exact wpAny_truthy_bool ⟨H1,I1,q⟩
variable {tA Rg:TT} {rest:List Expr}
def R4 (t u:TT):TT:=λσ H Q=>t σ H λc H1=>if c=true then u σ H1 Q else Q false H1
def Xa (t u:TT):TT:=λσ H Q=>t σ H λc H1=>if c=true then Q true H1 else u σ H1 Q
def R5 (t:TT):TT:=λσ H Q=>t σ H λc H1=>Q (!c) H1
theorem Dp (ha:PT X a tA):PW X (.BoolOp .And [a] pos) tA:=by
 intro wh pins s σ H Q I h;refine isTrue_and (eB (ha pins s σ H Q I h) λc s1 e=>?_)
 cases c with
 | true=>exact isTrue_and_nil e
 | false=>exact e
theorem yx (ha:PT X a tA):PW X (.BoolOp .Or [a] pos) tA:=by
 intro wh pins s σ H Q I h;refine isTrue_or (eB (ha pins s σ H Q I h) λc s1 e=>?_)
 cases c with
 | false=>exact isTrue_or_nil e
 | true=>exact e
theorem F3 (ha:PT X a tA)(hb:PW X (.BoolOp .And (b::rest) pos) Rg):PW X (.BoolOp .And (a::b::rest) pos) (R4 tA Rg):=by
 intro wh pins s σ H Q I h;refine isTrue_and (eB (ha pins s σ H _ I h) λc s1 ⟨H1,I1,q1⟩=>?_)
 cases c with
 | true=>exact hb wh pins s1 σ H1 Q I1 q1
 | false=>exact⟨H1,I1,q1⟩
theorem z6 (ha:PT X a tA)(hb:PW X (.BoolOp .Or (b::rest) pos) Rg):PW X (.BoolOp .Or (a::b::rest) pos) (Xa tA Rg):=by
 intro wh pins s σ H Q I h;refine isTrue_or (eB (ha pins s σ H _ I h) λc s1 ⟨H1,I1,q1⟩=>?_)
 cases c with
 | true=>exact⟨H1,I1,q1⟩
 | false=>exact hb wh pins s1 σ H1 Q I1 q1
theorem yy (ha:PT X a tA):PT X (.UnaryOp .Not a pos) (R5 tA):=by
 refine⟨?_⟩
 intro pins s σ H Q I h;exact isTrue_not (ha pins s σ H (λc H1=>Q (!c) H1) I h)
def OP (ta tb:TE):TE:=λσ H Q=>ta σ H λx H1=>∃c,x=.bl c/\if c=true then tb σ H1 Q else Q (.bl false) H1
def R6 (ta tb:TE):TE:=λσ H Q=>ta σ H λx H1=>∃c,x=.bl c/\if c=true then Q (.bl true) H1 else tb σ H1 Q
def OQ (ta:TE):TE:=λσ H Q=>ta σ H λx H1=>∃c,x=.bl c/\Q (.bl (!c)) H1
theorem rK {op}{t:TE}(h:PE X a t):PE X (.BoolOp op [a] pos) t:=⟨λpins s σ H Q I hw=>BoolOp_one (h pins s σ H Q I hw)⟩
theorem uO (ha:PE X a ta)(hb:PE X (.BoolOp .And (b::rest) pos) tb):PE X (.BoolOp .And (a::b::rest) pos) (OP ta tb):=by
 refine⟨?_⟩
 intro pins s σ H Q I h;refine BoolOp_and (eB (ha pins s σ H _ I h) λv s1 ⟨x,H1,I1,r1,q1⟩=>?_)
 obtain⟨c,rfl,q1⟩:=q1;cases r1;refine wpAny_truthy_bool ?_
 cases c with
 | true=>exact hb pins s1 σ H1 Q I1 q1
 | false=>exact⟨.bl false,H1,I1,rfl,q1⟩
theorem Lk (ha:PE X a ta)(hb:PE X (.BoolOp .Or (b::rest) pos) tb):PE X (.BoolOp .Or (a::b::rest) pos) (R6 ta tb):=by
 refine⟨?_⟩
 intro pins s σ H Q I h;refine BoolOp_or (eB (ha pins s σ H _ I h) λv s1 ⟨x,H1,I1,r1,q1⟩=>?_)
 obtain⟨c,rfl,q1⟩:=q1;cases r1;refine wpAny_truthy_bool ?_
 cases c with
 | false=>exact hb pins s1 σ H1 Q I1 q1
 | true=>exact⟨.bl true,H1,I1,rfl,q1⟩
theorem F4 (ha:PE X a ta):PE X (.UnaryOp .Not a pos) (OQ ta):=by
 refine⟨?_⟩
 intro pins s σ H Q I h;refine UnaryOp_ (eB (ha pins s σ H _ I h) λv s1 ⟨x,H1,I1,r1,q1⟩=>?_)
 obtain⟨c,rfl,q1⟩:=q1;cases r1;exact not_of (wpAny_truthy_bool ⟨.bl (!c),H1,I1,rfl,q1⟩)
def Xb (t:TT)(ta tb:TE):TE:=λσ H Q=>t σ H λc H1=>if c=true then ta σ H1 Q else tb σ H1 Q
theorem uP {c:Expr}(hc:PT X c tA)(ha:PE X a ta)(hb:PE X b tb):PE X (.IfExp c a b pos) (Xb tA ta tb):=by
 refine⟨?_⟩
 intro pins s σ H Q I h;refine wpAny_IfExp (eB (hc pins s σ H _ I h) λd s1 ⟨H1,I1,q1⟩=>?_)
 cases d with
 | true=>exact ha pins s1 σ H1 Q I1 q1
 | false=>exact hb pins s1 σ H1 Q I1 q1
end
def aN (K:bG)(H:Hp)(a:o?)(xs:List V):Prop:=
 Rd H a (.lst xs)\/
  ∃(o:Obj) (its:Array l?) (n:Nat),K.lookup a=j? o/\o.cls=.type "list"/\o.dict=q?/\o.data=.seq its n/\its.size<=K?/\Vals xs its.toList
def kG (K:bG)(H:Hp)(a:o?)(xs:List V):Prop:=
 Rd H a (.tup xs)\/
  ∃(o:Obj) (its:Array l?) (n:Nat),K.lookup a=j? o/\o.cls=.type "tuple"/\o.data=.seq its n/\its.size<=K?/\Vals xs its.toList
def JG:l?->Option V
 | .none=>j? .eO
 | .bool b=>j? (.bl b)
 | .int i _=>j? (.int i)
 | .str x _=>j? (.str x)
 | .bytes b _=>j? (.byt b)
 | .float b _=>j? (.flt b)
 | .ref a=>j? (.ref a)
 | .type n=>j? (.ty n)
 | _=>q?
theorem RelV.abs {x:V}{u:l?}(r:RelV x u):JG u=j? x:=by
 cases x with
 | eO=>cases r;rfl
 | bl _=>cases r;rfl
 | int _=>obtain⟨t,rfl⟩:=r;rfl
 | str _=>obtain⟨t,rfl⟩:=r;rfl
 | byt _=>obtain⟨t,rfl⟩:=r;rfl
 | flt _=>obtain⟨t,rfl⟩:=r;rfl
 | ref _=>cases r;rfl
 | ty _=>cases r;rfl
theorem RelV.inj {x y:V}{u:l?}(r:RelV x u)(q:RelV y u):x=y:=M? (r.abs.symm.trans q.abs)
theorem Vals.inj:∀ {xs ys:List V} {us:List l?},Vals xs us->Vals ys us->xs=ys
 | _,_,_,.nil,.nil=>rfl
 | _,_,_,.cons r t,.cons r' t'=>by rw[r.inj r',Vals.inj t t']
section
variable {X:Cx} {pins:List (o?×Obj)} {σ:St} {H:Hp} {s:u?} {a:o?} {xs ys:List V}
theorem aN.of {K:bG}(h:H a=j? (.lst xs)):aN K H a xs:=.inl (.inl h)
theorem kG.of {K:bG}(h:H a=j? (.tup xs)):kG K H a xs:=.inl (.inl h)
theorem Inv.list (I:Inv X pins σ H s)(h:aN X.K H a xs):∃its:List l?,Vals xs its/\PlainL s.heap a its.toArray/\xs.length<=K?:=by
 rcases h with h|⟨o,its,n,hk,hc,hd,hs,hz,r⟩
 ·obtain⟨z,its,n,r,e⟩:=h.ok I.hok
  exact⟨its,r,⟨_,n,e,rfl,rfl,rfl⟩,z⟩
 ·refine⟨its.toList,r,⟨o,n,I.Dm a o hk,hc,hd,by simpa using hs⟩,?_⟩
  have e:=r.length;simp only[Array.length_toList] at e
  omega
theorem Inv.tuple (I:Inv X pins σ H s)(h:kG X.K H a xs):∃its:List l?,Vals xs its/\IsTup s.heap a its.toArray/\xs.length<=K?:=by
 rcases h with h|⟨o,its,n,hk,hc,hs,hz,r⟩
 ·obtain⟨z,its,r,p⟩:=h.ok I.hok
  exact⟨its,r,p,z⟩
 ·refine⟨its.toList,r,⟨o,I.Dm a o hk,hc,n,by simpa using hs⟩,?_⟩
  have e:=r.length;simp only[Array.length_toList] at e
  omega
theorem Inv.qm (I:Inv X pins σ H s)(h:aN X.K H a xs)(h':aN X.K H a ys):xs=ys:=by
 obtain⟨its,r,⟨o,n,e,_,_,d⟩,_⟩:=I.list h;obtain⟨its',r',⟨o',n',e',_,_,d'⟩,_⟩:=I.list h';rw[e] at e';cases e';rw[d] at d';injection d' with d1 _
 have:its=its':=by simpa using Jb Array.toList d1
 subst this;exact r.inj r'
end
abbrev Cx.wW (X:Cx)(E:l?->u?->Prop):Cx:={ X with xe:=E }
abbrev Cx.Ll (X:Cx):Cx:=X.wW λ_ _=>False
theorem Cx.Ok.wW {X:Cx}(ok:X.Ok)(E:l?->u?->Prop):(X.wW E).Ok:=
 ⟨ok.mod,ok.kind,ok.glob,ok.blt,ok.above,ok.inj,ok.has,ok.Lh,ok.hd,ok.frames,ok.stk,ok.Oa,ok.bs,ok.Dl,ok.zX,ok.zY,ok.mh,ok.F1⟩
theorem Cx.Ok.mq {X:Cx}{E:l?->u?->Prop}(ok:(X.wW E).Ok):X.Ok:=
 ⟨ok.mod,ok.kind,ok.glob,ok.blt,ok.above,ok.inj,ok.has,ok.Lh,ok.hd,ok.frames,ok.stk,ok.Oa,ok.bs,ok.Dl,ok.zX,ok.zY,ok.mh,ok.F1⟩
section
variable {X:Cx} {pins:List (o?×Obj)} {σ:St} {H:Hp} {s:u?} {E:l?->u?->Prop}
theorem Inv.wW (I:Inv X pins σ H s)(E:l?->u?->Prop):Inv (X.wW E) pins σ H s:=⟨I.ok.wW E,I.os,I.bare,I.base,I.loc,I.cell,I.free,I.iN,I.pin,I.hok,I.len⟩
theorem Inv.mq (I:Inv (X.wW E) pins σ H s):Inv X pins σ H s:=⟨I.ok.mq,I.os,I.bare,I.base,I.loc,I.cell,I.free,I.iN,I.pin,I.hok,I.len⟩
theorem SP.mq {D:Ends}{f:Flow}{s':u?}(h:SP (X.wW E) pins D f s'):SP X pins D f s':=by
 cases f with
 | next=>obtain⟨σ',H',I,q⟩:=h;exact⟨σ',H',I.mq,q⟩
 | brk=>obtain⟨σ',H',I,q⟩:=h;exact⟨σ',H',I.mq,q⟩
 | cont=>obtain⟨σ',H',I,q⟩:=h;exact⟨σ',H',I.mq,q⟩
 | ret u=>obtain⟨v,σ',H',I,r,q⟩:=h;exact⟨v,σ',H',I.mq,r,q⟩
theorem z4.Ll {st:List Q?}{t:TS}(h:z4 X.Ll st t):z4 X st t:=⟨λpins s σ H D I hw=>
 B! (h pins s σ H D (I.wW _) hw) (λ_ _ q=>q.mq) λ_ _ z=>M! z⟩
end
section
variable {X:Cx} {st:Q?} {rest:List Q?} {t u:TS} {e:Expr} {te:TE} {pos:Pos}
def OR:TS:=λD σ H=>D.nx σ H
def OS (t u:TS):TS:=λD σ H=>t { D with nx:=u D } σ H
theorem bY:z4 X [] OR:=⟨λ_ _ σ H _ I h=>wpAny_execs_nil ⟨σ,H,I,h⟩⟩
theorem ah (h1:PS X st t)(h2:z4 X rest u):z4 X (st::rest) (OS t u):=by
 refine⟨?_⟩
 intro pins s σ H D I h;refine wpAny_execs_cons (eB (h1 pins s σ H { D with nx:=u D } I h) λf s1 q=>?_)
 cases f with
 | next=>
  obtain⟨σ',H',I',q⟩:=q;exact h2 pins s1 σ' H' D I' q
 | ret v=>exact q
 | brk=>exact q
 | cont=>exact q
theorem ay (h1:PS X st t):z4 X [st] t:=by
 refine⟨?_⟩
 intro pins s σ H D I h;refine wpAny_execs_cons (eB (h1 pins s σ H D I h) λf s1 q=>?_)
 cases f with
 | next=>exact wpAny_execs_nil q
 | ret v=>exact q
 | brk=>exact q
 | cont=>exact q
theorem Inv.quiet {pins:List (o?×Obj)}{σ:St}{H:Hp}{s:u?}(I:Inv X pins σ H s):interactive X.env=false:=by simp[interactive,I.ok.kind]
def OT (te:TE):TS:=λD σ H=>te σ H λ_ H1=>D.nx σ H1
theorem fh (he:PE X e te)(hs:swapsWith e q? pos.line X.env=pure false:=by rfl):PS X (.Expr e pos) (OT te):=by
 refine⟨?_⟩
 intro pins s σ H D I h;exact wpAny_Expr_any (eB (he pins s σ H _ I h) λv s1 ⟨x,H1,I1,r1,q1⟩=>⟨σ,H1,I1,q1⟩) I.quiet hs
def R7 (te:TE):TS:=λD σ H=>te σ H D.rt
theorem aK (he:PE X e te):PS X (.Return (j? e) pos) (R7 te):=by
 refine⟨?_⟩
 intro pins s σ H D I h;exact wpAny_Return_some (eB (he pins s σ H _ I h) λv s1 ⟨x,H1,I1,r1,q1⟩=>⟨x,σ,H1,I1,r1,q1⟩)
def R8 (c:TT)(t u:TS):TS:=λD σ H=>c σ H λb H1=>if b=true then t D σ H1 else u D σ H1
theorem dS {c:Expr}{a b:List Q?}{tc:TT}(hc:PT X c tc)(ha:z4 X a t)(hb:z4 X b u):PS X (.If c a b pos) (R8 tc t u):=by
 refine⟨?_⟩
 intro pins s σ H D I h;refine wpAny_If (eB (hc pins s σ H _ I h) λd s1 ⟨H1,I1,q1⟩=>?_)
 cases d with
 | true=>exact ha pins s1 σ H1 D I1 q1
 | false=>exact hb pins s1 σ H1 D I1 q1
end
abbrev TG:=V->St->Hp->(St->Hp->Prop)->Prop
abbrev Lm:=List V->St->Hp->(St->Hp->Prop)->Prop
def PG (X:Cx)(target:Expr)(t:TG):Prop:=
 ∀(pins:List (o?×Obj)) (s:u?) (σ:St) (H:Hp) (v:V) (u:l?) (Q:St->Hp->Prop),Inv X pins σ H s->RelV v u->t v σ H Q->
  L? (S? X.prog X.w) X.A (assign target X.env u) (λ_ s'=>∃σ' H',Inv X pins σ' H' s'/\Q σ' H') X.xe s
def OU (X:Cx)(ts:List Expr)(t:Lm):Prop:=
 ∀(pins:List (o?×Obj)) (s:u?) (σ:St) (H:Hp) (vs:List V) (us:List l?) (Q:St->Hp->Prop),Inv X pins σ H s->Vals vs us->t vs σ H Q->
  L? (S? X.prog X.w) X.A (assignInOrder ((assignEach ts X.env).map (·.2)) us) (λ_ s'=>∃σ' H',Inv X pins σ' H' s'/\Q σ' H') X.xe s
abbrev F5:=V->V->V->Hp->(Hp->Prop)->Prop
def Mt (X:Cx)(t:F5):Prop:=
 ∀(pins:List (o?×Obj)) (s:u?) (σ:St) (H:Hp) (o i v:V) (ov iv u:l?) (Q:Hp->Prop),Inv X pins σ H s->RelV o ov->RelV i iv->RelV v u->t o i v H Q->
  L? (S? X.prog X.w) X.A (setItem ov iv u) (λ_ s'=>∃H',Inv X pins σ H' s'/\Q H') X.xe s
abbrev Ob:=V->V->Hp->VK->Prop
def Rh (X:Cx)(op:Operator)(t:Ob):Prop:=
 ∀(pins:List (o?×Obj)) (s:u?) (σ:St) (H:Hp) (x y:V) (v u:l?) (Q:VK),Inv X pins σ H s->RelV x v->RelV y u->t x y H Q->
  L? (S? X.prog X.w) X.A (inplaceOp op v u) (EP X pins σ Q) X.xe s
section
variable {X:Cx} {pos:Pos}
def iO (i:Nat):TG:=λv σ H Q=>Q (σ.set i (j? v)) H
theorem aC {i:Nat}{x:Str}(hN:X.N.Nodup)(hi:X.N[i]?=j? x)(hx:Loc X.env.scope x)(hf:X.fn x=true\/X.env.scope.names.lookup x=j? .local:=by first|exact .inl rfl|exact .inr rfl|assumption):PG X (.Name x pos) (iO i):=by
 intro pins s σ H v u Q I r h;exact wpAny_assign_Name (mj I hN hi hx r (λs' I'=>⟨_,H,I',h⟩) hf)
def R9:Lm:=λvs σ H Q=>vs=[]/\Q σ H
def OV (t:TG)(u:Lm):Lm:=λvs σ H Q=>∃v r,vs=v::r/\t v σ H λσ' H'=>u r σ' H' Q
theorem cY:OU X [] R9:=by
 intro pins s σ H vs us Q I r h;obtain⟨e,h⟩:=h;subst e;cases r;exact assignInOrder_nil ⟨σ,H,I,h⟩
theorem aS {e:Expr}{es:List Expr}{t:TG}{u:Lm}(h1:PG X e t)(h2:OU X es u)
  (hs:(assignEach (e::es) X.env).map (·.2)=assign e X.env::(assignEach es X.env).map (·.2):=by rfl):OU X (e::es) (OV t u):=by
 intro pins s σ H vs us Q I r h;obtain⟨v,vr,e1,h⟩:=h;subst e1;cases r with
 | cons r rr=>
  rw[hs];refine assignInOrder_cons (eB (h1 pins s σ H _ _ _ I r h) λ_ s1 ⟨σ1,H1,I1,q1⟩=>?_)
  exact h2 pins s1 σ1 H1 _ _ Q I1 rr q1
def OW (K:bG)(n:Nat)(t:Lm):TG:=λv σ H Q=>∃a xs,v=.ref a/\kG K H a xs/\xs.length=n/\t xs σ H Q
theorem Mu {es:List Expr}{k:Nat}{t:Lm}{n:Nat}(hc:X.calm=true)(h:OU X es t)
  (hn:(assignEach es X.env).length=n:=by rfl) (hst:(assignEach es X.env).findIdx? (·.1)=q?:=by rfl):PG X (.Tuple es k pos) (OW X.K n t):=by
 intro pins s σ H v u Q I r hw;obtain⟨a,xs,e1,hq,hl,hw⟩:=hw;subst e1;cases r;obtain⟨its,rv,ht,hz⟩:=I.tuple hq;refine assign_Tuple_tuple (I.ok.hd hc) ht (by simp[hn,<- hl,rv.length]) hst λh' hx=>?_
 have I1:Inv X pins σ H { s with heap:=h' }:=I.kept (t':=s.toks) λb o e=>hx b o (Yp (Yl e)) e
 exact h pins _ σ H xs _ Q I1 (by simpa using rv) hw
def R_ (to ti:TE)(t:F5):TG:=λv σ H Q=>to σ H λo H1=>ti σ H1 λi H2=>t o i v H2 λH3=>Q σ H3
theorem Mv {o i:Expr}{to ti:TE}{t:F5}(ho:PE X o to)(hi:PE X i ti)(hs:Mt X t)
  (ha:∀v,assign (.Subscript o i pos) X.env v=(do
   let ov <- holding [v] (eval o X.env)
   let iv <- holding [v,ov] (eval i X.env)
   standAt pos
   holding [v,ov,iv] (setItem ov iv v)
   release [v,ov,iv] []):=by intro _;rfl):PG X (.Subscript o i pos) (R_ to ti t):=by
 intro pins s σ H v u Q I r h;rw[ha];refine B? (wpAny_holding (eB (ho pins s σ H _ I h) λov s1 ⟨x,H1,I1,r1,q1⟩=>?_))
 refine B? (wpAny_holding (eB (hi pins s1 σ H1 _ I1 q1) λiv s2 ⟨y,H2,I2,r2,q2⟩=>?_))
 refine B? (wpAny_standAt (B? (wpAny_holding (eB (hs pins s2 σ H2 x y v ov iv u _ I2 r1 r2 r q2) λ_ s3 ⟨H3,I3,q3⟩=>?_))))
 exact wpAny_release ⟨σ,H3,I3,q3⟩
def JH (te:TE)(g:TG):TS:=λD σ H=>te σ H λx H1=>g x σ H1 D.nx
theorem rL {tg e:Expr}{te:TE}{g:TG}(he:PE X e te)(hg:PG X tg g)(hs:swapsWithSole [tg] e pos.line X.env=pure false:=by rfl)(hw:swappedStores [tg] e X.env=pure q?:=by rfl)
  (h1:(assignEach [tg] X.env).map (·.2)=[assign tg X.env]:=by rfl):PS X (.Assign [tg] e pos) (JH te g):=by
 refine⟨?_⟩
 intro pins s σ H D I h;refine wpAny_Assign_stores (eB (he pins s σ H _ I h) λv s1 ⟨x,H1,I1,r1,q1⟩=>?_) hs hw
 rw[h1];exact eB (hg pins s1 σ H1 x v _ I1 r1 q1) λ_ s2 q=>q
theorem aB {i:Nat}{x:Str}{e:Expr}{te:TE}{pos':Pos}(hN:X.N.Nodup)(hi:X.N[i]?=j? x)(hx:Loc X.env.scope x)(he:PE X e te)(hs:swapsWith e (j? (.Name x pos')) pos.line X.env=pure false:=by rfl)(hf:X.fn x=true\/X.env.scope.names.lookup x=j? .local:=by first|exact .inl rfl|exact .inr rfl|assumption):
  PS X (.Assign [.Name x pos'] e pos) (JH te (iO i)):=by
 refine⟨?_⟩
 intro pins s σ H D I h;refine wpAny_Assign_Name (eB (he pins s σ H _ I h) λv s1 ⟨y,H1,I1,r1,q1⟩=>?_) hs
 exact mj I1 hN hi hx r1 (λs2 I2=>⟨_,H1,I2,q1⟩) hf
def Sa (i j:Nat)(ta:TA):TS:=λD σ H=>ta σ H λvs H1=>∃v w,vs=[v,w]/\D.nx ((σ.set i (j? v)).set j (j? w)) H1
theorem uQ {i j:Nat}{x y:Str}{a b:Expr}{ta:TA}{px py pt:Pos}{kt k2 pt2}(hc:X.calm=true)(hN:X.N.Nodup)(hi:X.N[i]?=j? x)(hj:X.N[j]?=j? y)(hij:i≠j)
  (hx:X.env.scope.names.lookup x=j? .local) (hy:X.env.scope.names.lookup y=j? .local) (ha:PA X [a,b] ta)
  (hw:swappedStores [.Tuple [.Name x px,.Name y py] kt pt] (.Tuple [a,b] k2 pt2) X.env=pure (j? [x,y]))
  (hs:swapsWithSole [.Tuple [.Name x px,.Name y py] kt pt] (.Tuple [a,b] k2 pt2) pos.line X.env=pure false:=by rfl):
  PS X (.Assign [.Tuple [.Name x px,.Name y py] kt pt] (.Tuple [a,b] k2 pt2) pos) (Sa i j ta):=by
 refine⟨?_⟩
 intro pins s σ H D I h;rw[exec_Assign_arm];refine B? (wpAny_standAt ?_)
 rw[hs];refine B? (J? ?_)
 rw[W6 (by decide)]
 refine B? (Tuple_ (eB (ha _ pins s σ H _ I h) λus s1 ⟨vs,H1,I1,r1,q1⟩=>?_))
 obtain⟨v,w,e1,q1⟩:=q1;subst e1;obtain⟨u1,u2,rfl,rv,rw'⟩:∃u1 u2,us=[u1,u2]/\RelV v u1/\RelV w u2:=by
  cases r1 with
  | cons p q=>
   cases q with
   | cons p' q'=>
    cases q';exact⟨_,_,rfl,p,p'⟩
 refine wpAny_newObj_type ?_ (by show 2<=K?;decide)
 have I2:Inv X pins σ H1 { s1 with heap:=s1.heap.push { cls:=.type "tuple",data:=.seq [u1,u2].toArray } }:=I1.kept (t':=s1.toks) λb o e=>Yg _ e
 rw[hw];refine B? (J? ?_)
 show L? (S? X.prog X.w) X.A (do rule "assign.swapped-stores";let items <- unpackItems (.ref s1.heap.objs.size) 2 q?;assignInOrder [λv=>bindName X.env y v,λv=>bindName X.env x v] items.reverse;pure Flow.next) _ _ _
 refine B? (wpAny_rule (B? (unpackItems_tuple (items:=#[u1,u2]) (I.ok.hd hc) (IsTup.new s1.heap _) λh' hx'=>?_)))
 have I3:=I2.kept (h':=h') (t':=s1.toks) λb o e=>hx' b o (Yp (Yl e)) e
 show L? _ _ (assignInOrder [λv=>bindName X.env y v,λv=>bindName X.env x v] [u2,u1] >>= λ_=>pure Flow.next) _ _ _
 refine B? (assignInOrder_cons (wpAny_bindName (mj I3 hN hj (.inl hy) rw' (λs2 I4=>?_) (.inr hy))))
 refine assignInOrder_cons (wpAny_bindName (mj I4 hN hi (.inl hx) rv (λs3 I5=>assignInOrder_nil (J? ?_)) (.inr hx)))
 rw[List.set_comm _ _ (Ne.symm hij)] at I5;exact⟨_,H1,I5,q1⟩
def Sb (i:Nat)(te:TE)(ti:Ob):TS:=λD σ H=>∃x,σ[i]?=j? (j? x)/\te σ H λy H1=>ti x y H1 λz H2=>D.nx (σ.set i (j? z)) H2
theorem yz {i:Nat}{x:Str}{e:Expr}{te:TE}{op:Operator}{ti:Ob}{pos':Pos}(hN:X.N.Nodup)(hi:X.N[i]?=j? x)(hx:Loc X.env.scope x)(he:PE X e te)(ho:Rh X op ti)(hf:X.fn x=true\/X.env.scope.names.lookup x=j? .local:=by first|exact .inl rfl|exact .inr rfl|assumption):
  PS X (.AugAssign (.Name x pos') op e pos) (Sb i te ti):=by
 refine⟨?_⟩
 intro pins s σ H D I h;obtain⟨v,e1,h⟩:=h;obtain⟨m,hn,hl⟩:=I.loc;have vis:N_ X.env.scope x:=by rcases hx with k|k;exact .inl k;exact .inr (.inl k)
 obtain⟨u,r,l⟩:=hl i x v hi e1 vis;refine wpAny_AugAssign_Name ?_
 have go:L? (S? X.prog X.w) X.A (eval e X.env) (λw s₂=>L? (S? X.prog X.w) X.A (inplaceOp op u w) (λr s₃=>L? (S? X.prog X.w) X.A (storeName X.env x r) (λ_=>SP X pins D .next) X.xe s₃) X.xe s₂) X.xe s:=by
  refine eB (he pins s σ H _ I h) λw s1 ⟨y,H1,I1,r1,q1⟩=>?_
  refine eB (ho pins s1 σ H1 v y u w _ I1 r r1 q1) λz s2 ⟨zv,H2,I2,r2,q2⟩=>?_
  exact mj I2 hN hi hx r2 (λs3 I3=>⟨_,H2,I3,q2⟩) hf
 rcases l with ⟨hk,hm⟩|⟨hk,c,hc,hcell⟩
 ·exact wpAny_loadName_local I.ok.kind hk hn hm go
 ·rcases hk with hk|hk
  ·exact wpAny_loadName_cell I.ok.kind hk hc hcell go
  ·rcases hx with k|k
   ·have:X.env.scope.names.lookup x=j? .free:=hk
    rw[k] at this;cases this
   ·have:X.env.scope.names.lookup x=j? .free:=hk
    rw[k] at this;cases this
def OX (to ti te:TE)(JI:V->V->Hp->VK->Prop)(Ri:Ob)(JJ:F5):TS:=λD σ H=>to σ H λo H1=>ti σ H1 λi H2=>JI o i H2 λx H3=>te σ H3 λy H4=>Ri x y H4 λz H5=>JJ o i z H5 λH6=>D.nx σ H6
def Mw (X:Cx)(t:V->V->Hp->VK->Prop):Prop:=
 ∀(pins:List (o?×Obj)) (s:u?) (σ:St) (H:Hp) (o i:V) (ov iv:l?) (Q:VK),Inv X pins σ H s->RelV o ov->RelV i iv->t o i H Q->
  L? (S? X.prog X.w) X.A (getItem ov iv) (EP X pins σ Q) X.xe s
theorem Dq {o i e:Expr}{to ti te:TE}{JI:V->V->Hp->VK->Prop}{Ri:Ob}{JJ:F5}{op:Operator}{tpos:Pos}(ho:PE X o to)(hi:PE X i ti)(hg:Mw X JI)(he:PE X e te)(hp:Rh X op Ri)(hs:Mt X JJ)
  (ha:∀ov iv new,augStore i ov iv new=(do holding [new,ov,iv] (setItem ov iv new);release [new,ov,iv] [];pure .next):=by intros;rfl):PS X (.AugAssign (.Subscript o i tpos) op e pos) (OX to ti te JI Ri JJ):=by
 refine⟨?_⟩
 intro pins s σ H D I h;refine wpAny_AugAssign_SubscriptAny (eB (ho pins s σ H _ I h) λov s1 ⟨x1,H1,I1,r1,q1⟩=>?_) ha
 refine eB (hi pins s1 σ H1 _ I1 q1) λiv s2 ⟨x2,H2,I2,r2,q2⟩=>?_
 refine eB (hg pins s2 σ H2 x1 x2 ov iv _ I2 r1 r2 q2) λold s3 ⟨x3,H3,I3,r3,q3⟩=>?_
 refine eB (he pins s3 σ H3 _ I3 q3) λv s4 ⟨x4,H4,I4,r4,q4⟩=>?_
 refine eB (hp pins s4 σ H4 x3 x4 old v _ I4 r3 r4 q4) λnew s5 ⟨x5,H5,I5,r5,q5⟩=>?_
 exact eB (hs pins s5 σ H5 x1 x2 x5 ov iv new _ I5 r1 r2 r5 q5) λ_ s6 ⟨H6,I6,q6⟩=>⟨σ,H6,I6,q6⟩
def UM (f:Int->Int->Int):Ob:=λx y H Q=>∃i j,x=.int i/\y=.int j/\Q (.int (f i j)) H
theorem My:Rh X .Add (UM λi j=>i+j):=by
 intro pins s σ H x y v u Q I r1 r2 h;obtain⟨i,j,e1,e2,q⟩:=h;subst e1;subst e2;obtain⟨t,rfl⟩:=r1;obtain⟨t',rfl⟩:=r2;exact iadd_int ⟨.int _,H,I.tok _,⟨_,rfl⟩,q⟩
theorem Mz:Rh X .Sub (UM λi j=>i-j):=by
 intro pins s σ H x y v u Q I r1 r2 h;obtain⟨i,j,e1,e2,q⟩:=h;subst e1;subst e2;obtain⟨t,rfl⟩:=r1;obtain⟨t',rfl⟩:=r2;exact isub_int ⟨.int _,H,I.tok _,⟨_,rfl⟩,q⟩
end
section
variable {X:Cx} {pos:Pos}
def BA (c:TT)(tb:TS):TS:=λD σ H=>∃W:Nat->St->Hp->Prop,(∃m,W m σ H)/\∀m σ H,W m σ H->
 c σ H λb H1=>if b=true then ∃N:St->Hp->Prop,(∀σ' H',N σ' H'->∃m',m'<m/\W m' σ' H')/\tb { D with nx:=N,ct:=N,bk:=D.nx } σ H1 else D.nx σ H1
theorem ee {c:Expr}{body:List Q?}{tc:TT}{tb:TS}(hp:PassesOwn (S? X.prog X.w) X.A X.env X.xe)(hc:PT X c tc)(hb:z4 X body tb):PS X (.While c body [] pos) (BA tc tb):=by
 refine⟨?_⟩
 intro pins s σ H D I h;obtain⟨W,⟨m0,w0⟩,turn⟩:=h;refine wpAny_While (codeAny_whileLoop (λn s'=>∃σ' H',Inv X pins σ' H' s'/\W n σ' H') ?_ m0 ⟨σ,H,I,w0⟩)
 rintro n s1 ⟨σ1,H1,I1,w1⟩;refine wpAny_passesOwn hp (eB (hc pins s1 σ1 H1 _ I1 (turn n σ1 H1 w1)) λb s2 ⟨H2,I2,q2⟩=>?_)
 cases b with
 | true=>
  obtain⟨N,hN,q2⟩:=q2;rw[W7 rfl];refine wpAny_passesOwn hp (eB (hb pins s2 σ1 H2 _ I2 q2) λf s3 q3=>?_)
  cases f with
  | next=>
   obtain⟨σ3,H3,I3,n3⟩:=q3;obtain⟨m',hm,w3⟩:=hN σ3 H3 n3;exact⟨m',hm,σ3,H3,I3,w3⟩
  | cont=>
   obtain⟨σ3,H3,I3,n3⟩:=q3;obtain⟨m',hm,w3⟩:=hN σ3 H3 n3;exact⟨m',hm,σ3,H3,I3,w3⟩
  | brk=>exact q3
  | ret v=>exact q3
 | false=>
  rw[W6 E?];exact wpAny_execs_nil ⟨σ1,H2,I2,q2⟩
end
structure It where
 go:Nat->Hp->Prop
 MA:Nat->Hp->V->Hp->Prop
 stop:Nat->Hp->Prop
def jy (X:Cx)(pins:List (o?×Obj))(H:Hp)(b:o?):Prop:=
 H b=q?/\b≠X.env.locals/\b ∉ X.fs/\(b∈X.ex\/X.s₀.heap.objs.size<=b)/\(∀x c,X.env.cells.lookup x=j? c->c≠b)/\∀p∈X.pn++pins,p.1≠b
theorem Inv.uR {X:Cx}{pins:List (o?×Obj)}{σ:St}{H H':Hp}{s:u?}{b:o?}(I:Inv X pins σ H s)(hb:s.heap.objs.size<=b)(hn:H' b=q?):jy X pins H' b:=by
 refine⟨hn,Nat.ne_of_gt (Yh I.lt hb),I.RZ hb,.inr (Ym I.sz hb),λx c e z=>?_,λp hp z=>?_⟩
 ·obtain⟨v,q⟩:=I.cell x c e
  exact Jd (Yh q.lt (by rw[z];exact hb)) (Zs _)
 ·exact Jd (Yh (Yl (I.pin p hp).1) (by rw[z];exact hb)) (Zs _)
structure Turn (P:F?)(w:H?)(K:bG)(tg:Expr)(J:It)(fp:List o?)(it:o?)(tn:Nat->O?->Prop):Prop where
 mem:it∈fp
 obj:∀i h,tn i h->∀b∈fp,∃o,h.get? b=j? o/\∀v,o.data≠.cell v
 keep:∀i h h',tn i h->(∀b∈fp,∀o,h.get? b=j? o->h'.get? b=j? o)->tn i h'
 item:∀(X:Cx),X.prog=P->X.w=w->X.K=K->X.calm=true->∀(i:Nat) (pins:List (o?×Obj)) (s:u?) (σ:St) (H:Hp) (E:l?->u?->Prop),Inv X pins σ H s->(∀b∈fp,jy X pins H b)->tn i s.heap->J.go i H->
  L? (S? P w) X.A (pyNext (.ref it)) (λr s1=>∃u,r=j? u/\
   L? (S? P w) X.A (letOwnedTupleGo tg (.ref it) u) (λ_ s2=>∃x H',Inv X pins σ H' s2/\RelV x u/\J.MA i H x H'/\tn (i+1) s2.heap/\∀b∈fp,H' b=q?) E s1) E s
 done:∀(X:Cx),X.prog=P->X.w=w->X.K=K->X.calm=true->∀(i:Nat) (pins:List (o?×Obj)) (s:u?) (σ:St) (H:Hp) (E:l?->u?->Prop),Inv X pins σ H s->(∀b∈fp,jy X pins H b)->tn i s.heap->J.stop i H->
  L? (S? P w) X.A (pyNext (.ref it)) (λr s1=>r=q?/\Inv X pins σ H s1) E s
 self:∀(A:A!) (i:Nat) (s:u?) (Q:l?->u?->Prop) (E:l?->u?->Prop),tn i s.heap->Q (.ref it) s->L? (S? P w) A (pyIter (.ref it)) Q E s
abbrev TI:=St->Hp->(It->Hp->Prop)->Prop
def UN (X:Cx)(pins:List (o?×Obj))(σ:St)(tg:Expr)(R:It->Hp->Prop)(itv:l?)(s2:u?):Prop:=
 ∃(it:o?) (fp:List o?) (tn:Nat->O?->Prop) (J:It) (H':Hp),itv=.ref it/\Inv X pins σ H' s2/\Turn X.prog X.w X.K tg J fp it tn/\tn 0 s2.heap/\(∀b∈fp,jy X pins H' b)/\R J H'
def PI (X:Cx)(tg iter:Expr)(wi:TI):Prop:=
 ∀(pins:List (o?×Obj)) (s:u?) (σ:St) (H:Hp) (R:It->Hp->Prop),Inv X pins σ H s->wi σ H R->
  L? (S? X.prog X.w) X.A (eval iter X.env) (λv s1=>L? (S? X.prog X.w) X.A (pyIter v) (UN X pins σ tg R) X.xe s1) X.xe s
theorem F6 {M:Model}{A:A!}{E:l?->u?->Prop}{s:u?}{tg:Expr}{it:o?}{u:l?}{o:Obj}{n:String}{vs:Array l?}{Q:Unit->u?->Prop}(ho:s.heap.get? it=j? o)(hc:o.cls=.type n)(hd:o.data=.fields vs)
    (hn:["enumerate","zip","dict_itemiterator","dict_reverseitemiterator","odict_iterator","itertools.zip_longest","itertools.pairwise"].contains n=false) (hQ:Q () s):L? M A (letOwnedTupleGo tg (.ref it) u) Q E s:=by
  unfold letOwnedTupleGo;cases tg <;> first
    | exact J? hQ
    | (cases u <;> first
        | exact J? hQ
        | (refine B? (wpAny_load ho ?_)
           rw[hc,hd];show L? M A (if (["enumerate","zip","dict_itemiterator","dict_reverseitemiterator","odict_iterator","itertools.zip_longest","itertools.pairwise"].contains n && vs[0]? == j? (rawInt _))=true then _ else _) Q E s
           rw[W6 (by intro h;rw[hn,Bool.false_and] at h;cases h)]
           exact J? hQ))
def MB (K:bG)(a:o?):It:=
 ⟨λi H=>∃xs x,aN K H a xs/\xs[i]?=j? x,λi H x H'=>H'=H/\∀xs,aN K H a xs->xs[i]?=j? x,λi H=>∃xs,aN K H a xs/\xs.length<=i⟩
def JK (lo:Int)(n:Nat):It:=⟨λi _=>i<n,λi H x H'=>H'=H/\x=.int (lo+i),λi _=>n<=i⟩
theorem Ey {P:F?}{w:H?}{K:bG}{tg:Expr}(a it:o?):Turn P w K tg (MB K a) [it] it (λi h=>h.IsListIter it a i) where
 mem:=by simp
 obj:=λi h st b hb=>by
  have e:b=it:=by simpa using hb
  subst e;obtain⟨o,e,c,d⟩:=st;exact⟨o,e,λv z=>by rw[d] at z;cases z⟩
 keep:=λi h h' st k=>st.at λo e=>k it (by simp) o e
 item:=by
  intro X hP hw hK hc i pins s σ H E I hf st hg;subst hP hw hK;obtain⟨xs,x,hq,hx⟩:=hg;obtain⟨its,rv,p,hz⟩:=I.list hq;obtain⟨u,hu,ru⟩:=rv.get hx;obtain⟨f0,f1,f2,f3,f4,f5⟩:=hf it (by simp)
  refine wpAny_pyNext_list_item st p.isList (x:=u) (by simpa using hu) λh' st' sb=>?_
  have I1:Inv X pins σ H { s with heap:=h' }:=I.turned (t':=s.toks) (λb o hb e=>(sb.2 b hb).trans e) f0 f1 f3 f4 f5
  obtain⟨o,e,c,d⟩:=id st';exact⟨u,rfl,F6 (s:={ s with heap:=h' }) e c d (by decide) ⟨x,H,I1,ru,⟨rfl,λys hy=>by rw[I.qm hy hq];exact hx⟩,st',λb hb=>(hf b hb).1⟩⟩
 done:=by
  intro X hP hw hK hc i pins s σ H E I hf st hg;subst hP hw hK;obtain⟨xs,hq,hx⟩:=hg;obtain⟨its,rv,p,hz⟩:=I.list hq;obtain⟨f0,f1,f2,f3,f4,f5⟩:=hf it (by simp)
  have hl:=rv.length;exact wpAny_pyNext_list_end (I.ok.hd hc) st p.isList (by simp;omega) λh' eb=>⟨rfl,I.turned (t':=s.toks) (λb o hb e=>eb b o hb e) f0 f1 f3 f4 f5⟩
 self:=λ_ _ _ _ _ st h=>wpAny_pyIter_listiter st h
theorem BB {P:F?}{w:H?}{K:bG}{tg:Expr}(it:o?)(lo:Int)(n:Nat):Turn P w K tg (JK lo n) [it] it (λi h=>IsRangeIter h it (lo+(i:Nat)*1) ((n:Int)-(i:Nat)) 1) where
 mem:=by simp
 obj:=λi h st b hb=>by
  have e:b=it:=by simpa using hb
  subst e;exact⟨_,st,λv z=>by
   have z':Data.fields _=Data.cell v:=z;cases z'⟩
 keep:=λi h h' st k=>k it (by simp) _ st
 item:=by
  intro X hP hw hK hc i pins s σ H E I hf st hg;subst hP hw hK;obtain⟨f0,f1,f2,f3,f4,f5⟩:=hf it (by simp)
  have W:=Walks.range (prog:=X.prog) (w:=X.w) (I.ok.hd hc) it lo 1 n;refine W.item i s _ _ hg st λv h' tk hv st' kk=>?_
  obtain⟨t,rfl⟩:=hv;have I1:Inv X pins σ H { s with heap:=h',toks:=tk }:=I.turned (λb o hb e=>kk b o (by simpa using hb) e) f0 f1 f3 f4 f5
  refine⟨_,rfl,F6 (s:={ s with heap:=h',toks:=tk }) (n:="range_iterator") st' rfl rfl (by decide) ⟨.int (lo+i),H,I1,⟨t,?_⟩,⟨rfl,rfl⟩,st',λb hb=>(hf b hb).1⟩⟩
  rw[Wv]
 done:=by
  intro X hP hw hK hc i pins s σ H E I hf st hg;subst hP hw hK;obtain⟨f0,f1,f2,f3,f4,f5⟩:=hf it (by simp)
  exact wpAny_pyNext_range_end (I.ok.hd hc) st (by have:n<=i:=hg;omega) λh' eb=>⟨rfl,I.turned (t':=s.toks) (λb o hb e=>eb b o hb e) f0 f1 f3 f4 f5⟩
 self:=λ_ _ _ _ _ st h=>wpAny_pyIter_rangeiter st h
section
variable {X:Cx} {tg:Expr}
def Ln (K:bG)(tl:TE):TI:=λσ H R=>tl σ H λx H1=>∃a,x=.ref a/\(∃xs,aN K H1 a xs)/\R (MB K a) H1
theorem JL {l:Expr}{tl:TE}(hl:PE X l tl):PI X tg l (Ln X.K tl):=by
 intro pins s σ H R I h;refine eB (hl pins s σ H _ I h) λv s1 ⟨x,H1,I1,r1,q1⟩=>?_
 obtain⟨a,e,⟨xs,hq⟩,q⟩:=q1;subst e;cases r1;obtain⟨its,rv,p,hz⟩:=I1.list hq;refine wpAny_pyIter_list p.isList ?_
 refine⟨s1.heap.objs.size,[s1.heap.objs.size],_,_,H1,rfl,I1.kept (t':=s1.toks) λb o e=>Yg _ e,Ey a _,⟨_,Y1 _ rfl,rfl,rfl⟩,λb hb=>?_,q⟩
 have e:b=s1.heap.objs.size:=by simpa using hb
 subst e;exact I1.uR (Yd _) (I1.hok.fresh (Yd _))
theorem z7 {pins:List (o?×Obj)}{σ:St}{H:Hp}{s:u?}{R:It->Hp->Prop}{E:l?->u?->Prop}{lo hi:Int}{t u v:Tok}{tk:Nat}(I:Inv X pins σ H s)(h1:-(2 ^ 62)<=lo)(h2:lo<2 ^ 62)(h3:-(2 ^ 62)<=hi)(h4:hi<2 ^ 62)
  (q:R (JK lo (hi-lo).toNat) H):L? (S? X.prog X.w) X.A (pyIter (.ref s.heap.objs.size)) (UN X pins σ tg R) E { s with heap:=s.heap.push { cls:=.type "range",data:=.fields #[.int lo t,.int hi u,.int 1 v] },toks:=tk }:=by
 refine wpAny_pyIter_range (IsRange.new ..) (small_one h1 h2 h3 h4) ?_
 have I1:Inv X pins σ H { s with heap:=s.heap.push { cls:=.type "range",data:=.fields #[.int lo t,.int hi u,.int 1 v] },toks:=tk }:=I.kept λb o e=>Yg _ e
 refine⟨(s.heap.push { cls:=.type "range",data:=.fields #[.int lo t,.int hi u,.int 1 v] }).objs.size,[(s.heap.push { cls:=.type "range",data:=.fields #[.int lo t,.int hi u,.int 1 v] }).objs.size],_,_,H,rfl,
  I1.kept (t':=tk) λb o e=>Yg _ e,BB _ lo (hi-lo).toNat,?_,λb hb=>?_,q⟩
 ·have e1:lo+((0:Nat):Int)*1=lo:=by simp
  have e2:(((hi-lo).toNat:Nat):Int)-((0:Nat):Int)=Builtin.Range.rangeSize lo hi 1:=by rw[rangeSize_one];split <;> omega
  show IsRangeIter _ _ (lo+((0:Nat):Int)*1) ((((hi-lo).toNat:Nat):Int)-((0:Nat):Int)) 1
  rw[e1,e2];exact Y1 _ rfl
 ·have e:b=(s.heap.push { cls:=.type "range",data:=.fields #[.int lo t,.int hi u,.int 1 v] }).objs.size:=by simpa using hb
  subst e;exact I1.uR (Yd _) (I1.hok.fresh (Yd _))
def OY (ta:TA):TI:=λσ H R=>ta σ H λvs H1=>∃j:Int,vs=[.int j]/\-(2 ^ 62)<=j/\j<2 ^ 62/\R (JK 0 j.toNat) H1
def OZ (ta:TA):TI:=λσ H R=>ta σ H λvs H1=>∃i j:Int,vs=[.int i,.int j]/\(-(2 ^ 62)<=i/\i<2 ^ 62/\-(2 ^ 62)<=j/\j<2 ^ 62)/\R (JK i (j-i).toNat) H1
theorem bL {a:Expr}{ta:TA}{p pos:Pos}(hg:Gl X "range")(hm:X.mg "range"=q?)(ha:PA X [a] ta)(hs:I? [a] X.env=[(false,eval a X.env)]:=by rfl):PI X tg (.Call (.Name "range" p) [a] [] pos) (OY ta):=by
 intro pins s σ H R I h;refine Call_ (jI I hg hm boot_range (L! (eB (ha pos pins s σ H _ I h) λus s1 ⟨vs,H1,I1,r1,q1⟩=>?_) hs rfl))
 obtain⟨j,e,q1,q2,q⟩:=q1;subst e;cases r1 with
 | cons r rr=>
  cases rr;obtain⟨t,rfl⟩:=r;exact call_range_1 (z7 I1 (by omega) (by omega) q1 q2 (by simpa using q))
theorem xF {a b:Expr}{ta:TA}{p pos:Pos}(hg:Gl X "range")(hm:X.mg "range"=q?)(ha:PA X [a,b] ta)(hs:I? [a,b] X.env=[(false,eval a X.env),(false,eval b X.env)]:=by rfl)(hs2:I? [b] X.env=[(false,eval b X.env)]:=by rfl):
  PI X tg (.Call (.Name "range" p) [a,b] [] pos) (OZ ta):=by
 intro pins s σ H R I h;refine Call_ (jI I hg hm boot_range (L! (eB (ha pos pins s σ H _ I h) λus s1 ⟨vs,H1,I1,r1,q1⟩=>?_) (by rw[hs,hs2]) (by rw[hs2];rfl)))
 obtain⟨i,j,e,⟨q1,q2,q3,q4⟩,q⟩:=q1;subst e;cases r1 with
 | cons r rr=>
  cases rr with
  | cons r' rr=>
   cases rr;obtain⟨t,rfl⟩:=r;obtain⟨t',rfl⟩:=r';exact call_range_2 (z7 I1 q1 q2 q3 q4 q)
def Sd (wi:TI)(g:TG)(tb:TS):TS:=λD σ H=>wi σ H λJ H1=>∃W:Nat->Nat->St->Hp->Prop,(∃m,W 0 m σ H1)/\∀i m σ H,W i m σ H->
 (J.stop i H/\D.nx σ H)\/(J.go i H/\∃N:St->Hp->Prop,(∀σ' H',N σ' H'->∃m',m'<m/\W (i+1) m' σ' H')/\∀x H',J.MA i H x H'->g x σ H' λσ2 H2=>tb { D with nx:=N,ct:=N,bk:=D.nx } σ2 H2)
def rM (fp:List o?)(h:O?):List (o?×Obj):=fp.filterMap λb=>(h.get? b).map λo=>(b,o)
theorem eT {fp:List o?}{h:O?}{b:o?}{o:Obj}(hb:b∈fp)(e:h.get? b=j? o):(b,o)∈rM fp h:=List.mem_filterMap.mpr ⟨b,hb,by rw[e];rfl⟩
theorem Ez {fp:List o?}{h:O?}{p:o?×Obj}(hp:p∈rM fp h):p.1∈fp/\h.get? p.1=j? p.2:=by
 obtain⟨b,hb,e⟩:=List.mem_filterMap.mp hp;cases q:h.get? b with
 | none=>rw[q] at e;cases e
 | some o=>
  rw[q] at e;have e':(b,o)=p:=M? e;subst e';exact⟨hb,q⟩
theorem Inv.pinned {pins:List (o?×Obj)}{σ:St}{H:Hp}{s:u?}{fp:List o?}(I:Inv X pins σ H s)(hf:∀b∈fp,jy X pins H b)(ho:∀b∈fp,∃o,s.heap.get? b=j? o/\∀v,o.data≠.cell v):Inv X (pins++rM fp s.heap) σ H s:=
 I.Dn λp hp=>(List.mem_append.mp hp).elim (λz=>I.pin p (Ys _ z)) λz=>by
  obtain⟨hb,e⟩:=Ez z;obtain⟨f0,f1,f2,_⟩:=hf p.1 hb;obtain⟨o,e',d⟩:=ho p.1 hb;rw[e] at e';cases e';exact⟨e,f0,f1,f2,d⟩
theorem Inv.j5 {pins pl:List (o?×Obj)}{σ:St}{H:Hp}{s:u?}(I:Inv X (pins++pl) σ H s):Inv X pins σ H s:=I.Dn λp hp=>I.pin p (Ys _ (List.mem_append_left _ hp))
theorem cK {iter:Expr}{body:List Q?}{wi:TI}{g:TG}{tb:TS}{pos:Pos}(hp:PassesOwn (S? X.prog X.w) X.A X.env X.xe)(hc:X.calm=true)(hi:PI X tg iter wi)(hg:PG X tg g)(hb:z4 X body tb)
  (hs:∀x,foldedSetIterable iter X.env x=pure x:=by intro _;rfl):PS X (.For tg iter body [] pos) (Sd wi g tb):=by
 refine⟨?_⟩
 intro pins s σ H D I h;refine wpAny_For (eB (hi pins s σ H _ I h) λv s1 h1=>eB h1 λitv s2 h2=>?_) hs
 obtain⟨it,fp,tn,J,H2,e,I2,T,st2,f2,W,⟨m0,w0⟩,turn⟩:=h2;subst e;have uT:∀ {H':Hp},(∀b∈fp,H' b=q?)->∀b∈fp,jy X pins H' b:=λhn b hb=>⟨hn b hb,(f2 b hb).2⟩
 refine codeAny_forLoop_any (λn s'=>∃i σ' H',Inv X pins σ' H' s'/\tn i s'.heap/\(∀b∈fp,H' b=q?)/\W i n σ' H') ?_ m0 ⟨0,σ,H2,I2,st2,λb hb=>(f2 b hb).1,w0⟩
 rintro n s3 ⟨i,σ3,H3,I3,st3,Lo,w3⟩;rcases turn i n σ3 H3 w3 with ⟨stop,qn⟩|⟨go,N,hN,step⟩
 ·refine wpAny_passesOwn hp (eB (T.done X rfl rfl rfl hc i pins s3 σ3 H3 X.xe I3 (uT Lo) st3 stop) λr s4 ⟨hr,I4⟩=>?_)
  subst hr;exact wpAny_execs_nil ⟨σ3,H3,I4,qn⟩
 ·refine wpAny_passesOwn hp (eB (T.item X rfl rfl rfl hc i pins s3 σ3 H3 X.xe I3 (uT Lo) st3 go) λr s4 ⟨u,hr,h4⟩=>?_)
  subst hr;refine wpAny_passesOwn hp (eB h4 λ_ s5 ⟨x,H5,I5,r5,y5,F7,O0⟩=>?_)
  have O1:=I5.pinned (uT O0) (T.obj _ _ F7);refine wpAny_passesOwn hp (eB (hg _ s5 σ3 H5 x u _ O1 r5 (step x H5 y5)) λ_ s6 ⟨σ6,H6,I6,q6⟩=>?_)
  refine wpAny_passesOwn hp (eB (hb _ s6 σ6 H6 _ I6 q6) λf s7 q7=>?_)
  have again:∀ {σ7:St} {H7:Hp},Inv X (pins++rM fp s5.heap) σ7 H7 s7->N σ7 H7->∃m,m<n/\∃i σ' H',Inv X pins σ' H' s7/\tn i s7.heap/\(∀b∈fp,H' b=q?)/\W i m σ' H':=λ{σ7 H7} I7 n7=>by
   obtain⟨m',hm,w7⟩:=hN σ7 H7 n7;refine⟨m',hm,i+1,σ7,H7,I7.j5,T.keep _ _ _ F7 λb hb o e=>(I7.pin (b,o) (Ys _ (Ys _ (eT hb e)))).1,λb hb=>?_,w7⟩
   obtain⟨o,e,d⟩:=T.obj _ _ F7 b hb;exact(I7.pin (b,o) (Ys _ (Ys _ (eT hb e)))).2.1
  cases f with
  | next=>obtain⟨σ7,H7,I7,n7⟩:=q7;exact again I7 n7
  | cont=>obtain⟨σ7,H7,I7,n7⟩:=q7;exact again I7 n7
  | brk=>obtain⟨σ7,H7,I7,q7⟩:=q7;exact⟨σ7,H7,I7.j5,q7⟩
  | ret v=>obtain⟨x7,σ7,H7,I7,r7,q7⟩:=q7;exact⟨x7,σ7,H7,I7.j5,r7,q7⟩
end
theorem j6 {K:bG}{a:o?}{xs:List V}{g:TG}{tb:TS}{D:Ends}{σ:St}{H:Hp}(Pv:Nat->St->Hp->Prop)(h0:Pv 0 σ H)(hl:∀i σ H,i<=xs.length->Pv i σ H->aN K H a xs)
  (hs:∀i x σ H,xs[i]?=j? x->Pv i σ H->g x σ H λσ2 H2=>tb { D with nx:=Pv (i+1),ct:=Pv (i+1),bk:=D.nx } σ2 H2) (hd:∀σ H,Pv xs.length σ H->D.nx σ H):
  ∃W:Nat->Nat->St->Hp->Prop,(∃m,W 0 m σ H)/\∀i m σ H,W i m σ H->
   ((MB K a).stop i H/\D.nx σ H)\/((MB K a).go i H/\∃N:St->Hp->Prop,(∀σ' H',N σ' H'->∃m',m'<m/\W (i+1) m' σ' H')/\∀x H',(MB K a).MA i H x H'->g x σ H' λσ2 H2=>tb { D with nx:=N,ct:=N,bk:=D.nx } σ2 H2):=by
 refine⟨λi m σ H=>m=xs.length-i/\i<=xs.length/\Pv i σ H,⟨xs.length,by simp,Yw _,h0⟩,?_⟩
 rintro i m σ H ⟨rfl,hi,p⟩;have q:=hl i σ H hi p;by_cases hlt:i<xs.length
 ·refine .inr ⟨⟨xs,xs[i],q,by simp[hlt]⟩,Pv (i+1),λσ' H' p'=>⟨xs.length-(i+1),by omega,rfl,hlt,p'⟩,λx H' y=>?_⟩
  obtain⟨e,y⟩:=y;subst e;exact hs i x σ _ (y xs q) p
 ·have e:i=xs.length:=by omega
  subst e;exact .inl ⟨⟨xs,q,Yd _⟩,hd σ H p⟩
theorem dF {lo:Int}{n:Nat}{g:TG}{tb:TS}{D:Ends}{σ:St}{H:Hp}(Pv:Nat->St->Hp->Prop)(h0:Pv 0 σ H)
  (hs:∀i σ H,i<n->Pv i σ H->g (.int (lo+i)) σ H λσ2 H2=>tb { D with nx:=Pv (i+1),ct:=Pv (i+1),bk:=D.nx } σ2 H2) (hd:∀σ H,Pv n σ H->D.nx σ H):
  ∃W:Nat->Nat->St->Hp->Prop,(∃m,W 0 m σ H)/\∀i m σ H,W i m σ H->
   ((JK lo n).stop i H/\D.nx σ H)\/((JK lo n).go i H/\∃N:St->Hp->Prop,(∀σ' H',N σ' H'->∃m',m'<m/\W (i+1) m' σ' H')/\∀x H',(JK lo n).MA i H x H'->g x σ H' λσ2 H2=>tb { D with nx:=N,ct:=N,bk:=D.nx } σ2 H2):=by
 refine⟨λi m σ H=>m=n-i/\i<=n/\Pv i σ H,⟨n,by simp,Yw _,h0⟩,?_⟩
 rintro i m σ H ⟨rfl,hi,p⟩;by_cases hlt:i<n
 ·refine .inr ⟨hlt,Pv (i+1),λσ' H' p'=>⟨n-(i+1),by omega,rfl,hlt,p'⟩,λx H' y=>?_⟩
  obtain⟨e,y⟩:=y;subst e y;exact hs i σ _ hlt p
 ·have e:i=n:=by omega
  subst e;exact .inl ⟨Yd _,hd σ H p⟩
theorem mw {c:TT}{tb:TS}{D:Ends}{σ:St}{H:Hp}(Pv:St->Hp->Prop)(μ:St->Hp->Nat)(h0:Pv σ H)
  (hs:∀σ H,Pv σ H->c σ H λb H1=>if b=true then tb { D with nx:=λσ' H'=>Pv σ' H'/\μ σ' H'<μ σ H,ct:=λσ' H'=>Pv σ' H'/\μ σ' H'<μ σ H,bk:=D.nx } σ H1 else D.nx σ H1)
  (mono:∀σ H Q Q',(∀b H1,Q b H1->Q' b H1)->c σ H Q->c σ H Q'):BA c tb D σ H:=by
 refine⟨λm σ H=>m=μ σ H/\Pv σ H,⟨_,rfl,h0⟩,?_⟩
 rintro m σ H ⟨rfl,p⟩;refine mono σ H _ _ (λb H1 q=>?_) (hs σ H p)
 cases b with
 | true=>exact⟨_,λσ' H' ⟨p',l⟩=>⟨_,l,rfl,p'⟩,q⟩
 | false=>exact q
abbrev R2:=V->V->Hp->VK->Prop
def oj (X:Cx)(f:l?->l?->Sem l?)(r:R2):Prop:=
 ∀(pins:List (o?×Obj)) (s:u?) (σ:St) (H:Hp) (x y:V) (v u:l?) (Q:VK),Inv X pins σ H s->RelV x v->RelV y u->r x y H Q->
  L? (S? X.prog X.w) X.A (f v u) (EP X pins σ Q) X.xe s
def Se (X:Cx)(f:l?->Sem l?)(r:V->Hp->VK->Prop):Prop:=
 ∀(pins:List (o?×Obj)) (s:u?) (σ:St) (H:Hp) (x:V) (v:l?) (Q:VK),Inv X pins σ H s->RelV x v->r x H Q->
  L? (S? X.prog X.w) X.A (f v) (EP X pins σ Q) X.xe s
def i7 (X:Cx)(f:l?)(r:List V->Hp->VK->Prop):Prop:=
 ∀(pins:List (o?×Obj)) (s:u?) (σ:St) (H:Hp) (xs:List V) (us:List l?) (Q:VK),Inv X pins σ H s->Vals xs us->r xs H Q->
  L? (S? X.prog X.w) X.A (call f us) (EP X pins σ Q) X.xe s
def Rj (r:R2)(ta tb:TE):TE:=λσ H Q=>ta σ H λx H1=>tb σ H1 λy H2=>r x y H2 Q
def Xc (r:V->Hp->VK->Prop)(ta:TE):TE:=λσ H Q=>ta σ H λx H1=>r x H1 Q
def rI (C:Int->Int->Prop)(g:Int->Int->V):R2:=λx y H Q=>∃i j,x=.int i/\y=.int j/\C i j/\Q (g i j) H
def Ju (g:Int->Int->V):R2:=λx y H Q=>∃i j,x=.int i/\y=.int j/\Q (g i j) H
def rU (g:Int->V):V->Hp->VK->Prop:=λx H Q=>∃i,x=.int i/\Q (g i) H
section
variable {X:Cx} {a b c:Expr} {ta tb tc:TE} {pos:Pos}
theorem MC (ha:PE X a ta)(hb:PE X b tb){pins:List (o?×Obj)}{s:u?}{σ:St}{H:Hp}{R:V->V->Hp->Prop}(I:Inv X pins σ H s)
  (h:ta σ H λx H1=>tb σ H1 λy H2=>R x y H2) {Q:l?->u?->Prop} {f:l?->l?->Sem l?}
  (hf:∀v u s2 x y H2,Inv X pins σ H2 s2->RelV x v->RelV y u->R x y H2->L? (S? X.prog X.w) X.A (f v u) Q X.xe s2):
  L? (S? X.prog X.w) X.A (eval a X.env) (λv s₁=>L? (S? X.prog X.w) X.A (eval b X.env) (λu s₂=>L? (S? X.prog X.w) X.A (f v u) Q X.xe s₂) X.xe s₁) X.xe s:=by
 refine eB (ha pins s σ H _ I h) λv s1 ⟨x,H1,I1,r1,q1⟩=>?_
 refine eB (hb pins s1 σ H1 _ I1 q1) λu s2 ⟨y,H2,I2,r2,q2⟩=>?_
 exact hf v u s2 x y H2 I2 r1 r2 q2
theorem au {op:Operator}{r:R2}(ho:oj X (binaryOp op) r)(ha:PE X a ta)(hb:PE X b tb):PE X (.BinOp a op b pos) (Rj r ta tb):=by
 refine⟨?_⟩
 intro pins s σ H Q I h;exact wpAny_BinOp (MC ha hb I h λv u s2 x y H2 I2 rx ry q=>ho pins s2 σ H2 x y v u Q I2 rx ry q)
theorem z8 {op:UnaryOp}{r:V->Hp->VK->Prop}(ho:Se X (unaryOp op) r)(ha:PE X a ta):PE X (.UnaryOp op a pos) (Xc r ta):=by
 refine⟨?_⟩
 intro pins s σ H Q I h;exact UnaryOp_ (eB (ha pins s σ H _ I h) λv s1 ⟨x,H1,I1,r1,q1⟩=>ho pins s1 σ H1 x v Q I1 r1 q1)
theorem Rk {f:l?->l?->Sem l?}{C:Int->Int->Prop}{g:Int->Int->Int}
  (rule:∀(i j:Int) (t u:Tok) (s:u?) (Q:l?->u?->Prop) (E:l?->u?->Prop),C i j->Q (.int (g i j) s.toks) { s with toks:=s.toks+1 }->L? (S? X.prog X.w) X.A (f (.int i t) (.int j u)) Q E s):
  oj X f (rI C λi j=>.int (g i j)):=by
 intro pins s σ H x y v u Q I rx ry h;obtain⟨i,j,rfl,rfl,hc,q⟩:=h;obtain⟨t,rfl⟩:=rx;obtain⟨t',rfl⟩:=ry;exact rule i j t t' s _ _ hc ⟨.int (g i j),H,I.tok _,⟨_,rfl⟩,q⟩
theorem JM {f:l?->l?->Sem l?}{g:Int->Int->Int}
  (rule:∀(i j:Int) (t u:Tok) (s:u?) (Q:l?->u?->Prop) (E:l?->u?->Prop),Q (.int (g i j) s.toks) { s with toks:=s.toks+1 }->L? (S? X.prog X.w) X.A (f (.int i t) (.int j u)) Q E s):
  oj X f (Ju λi j=>.int (g i j)):=by
 intro pins s σ H x y v u Q I rx ry h;obtain⟨i,j,rfl,rfl,q⟩:=h;obtain⟨t,rfl⟩:=rx;obtain⟨t',rfl⟩:=ry;exact rule i j t t' s _ _ ⟨.int (g i j),H,I.tok _,⟨_,rfl⟩,q⟩
theorem JN {f:l?->l?->Sem l?}{g:Int->Int->Bool}
  (rule:∀(i j:Int) (t u:Tok) (s:u?) (Q:l?->u?->Prop) (E:l?->u?->Prop),Q (.bool (g i j)) s->L? (S? X.prog X.w) X.A (f (.int i t) (.int j u)) Q E s):
  oj X f (Ju λi j=>.bl (g i j)):=by
 intro pins s σ H x y v u Q I rx ry h;obtain⟨i,j,rfl,rfl,q⟩:=h;obtain⟨t,rfl⟩:=rx;obtain⟨t',rfl⟩:=ry;exact rule i j t t' s _ _ ⟨.bl (g i j),H,I,rfl,q⟩
def MD (i j:Int):Prop:=0<=j/\j<=1000000/\i.natAbs<2 ^ 64
theorem bU:oj X (binaryOp .Add) (Ju λi j=>.int (i+j)):=JM λ_ _ _ _ _ _ _ q=>add_int q
theorem bW:oj X (binaryOp .Sub) (Ju λi j=>.int (i-j)):=JM λ_ _ _ _ _ _ _ q=>sub_int q
theorem bw:oj X (binaryOp .Mod) (rI (λ_ j=>j≠0) λi j=>.int (i.fmod j)):=Rk λ_ _ _ _ _ _ _ hc q=>mod_int' hc q
theorem uU:oj X (binaryOp .Pow) (rI MD λi j=>.int (i ^ j.toNat)):=Rk λ_ _ _ _ _ _ _ hc q=>pow_int_small hc.1 hc.2.1 hc.2.2 q
theorem yC:oj X (inplaceOp .Add) (Ju λi j=>.int (i+j)):=JM λ_ _ _ _ _ _ _ q=>iadd_int q
theorem JO:oj X (inplaceOp .Sub) (Ju λi j=>.int (i-j)):=JM λ_ _ _ _ _ _ _ q=>isub_int q
theorem Xd {f:l?->Sem l?}{g:Int->Int}
  (rule:∀(i:Int) (t:Tok) (s:u?) (Q:l?->u?->Prop) (E:l?->u?->Prop),Q (.int (g i) s.toks) { s with toks:=s.toks+1 }->L? (S? X.prog X.w) X.A (f (.int i t)) Q E s):
  Se X f (rU λi=>.int (g i)):=by
 intro pins s σ H x v Q I rx h;obtain⟨i,rfl,q⟩:=h;obtain⟨t,rfl⟩:=rx;exact rule i t s _ _ ⟨.int (g i),H,I.tok _,⟨_,rfl⟩,q⟩
theorem uV:Se X (unaryOp .USub) (rU λi=>.int (-i)):=Xd λ_ _ _ _ _ q=>neg_int q
end
def ME:V->V->Bool
 | .eO,.eO=>true | .eO,.int _=>true | .int _,.eO=>true | .eO,.bl _=>true | .bl _,.eO=>true | .eO,.str _=>true | .str _,.eO=>true
 | .int _,.int _=>true | .bl _,.bl _=>true | .str _,.str _=>true | .byt _,.byt _=>true
 | .int _,.str _=>true | .str _,.int _=>true | .bl _,.str _=>true | .str _,.bl _=>true
 | _,_=>false
def Xe:R2:=λx y H Q=>ME x y=true/\Q (.bl (decide (x=y))) H
def Xf:R2:=λx y H Q=>ME x y=true/\Q (.bl (!decide (x=y))) H
theorem Dr {i j:Int}:decide (V.int i=V.int j)=(i == j):=by
 rw[Bool.eq_iff_iff];simp
theorem F8 {i j:Bool}:decide (V.bl i=V.bl j)=(i == j):=by
 rw[Bool.eq_iff_iff];simp
theorem Ds {i j:Str}:decide (V.str i=V.str j)=(i == j):=by
 rw[Bool.eq_iff_iff];simp
theorem Dt {i j:Array UInt8}:decide (V.byt i=V.byt j)=(i.toList == j.toList):=by
 rw[Bool.eq_iff_iff];cases i;cases j;simp
section
variable {X:Cx} {a b c:Expr} {ta tb tc:TE} {pos:Pos}
theorem bZ {pins:List (o?×Obj)}{σ:St}{H:Hp}{s:u?}{Q:VK}{k k':Bool}(I:Inv X pins σ H s)(q:Q (.bl k) H)(e:k=k'):EP X pins σ Q (.bool k') s:=by
 subst e;exact⟨.bl k,H,I,rfl,q⟩
theorem gy:oj X (J! .Eq) Xe:=by
 intro pins s σ H x y v u Q I rx ry h;obtain⟨hs,q⟩:=h;cases x with
 | eO=>
  cases rx;cases y with
  | eO=>cases ry;exact PySem.EqNone.eq_none_none (bZ I q (by simp))
  | bl j=>cases ry;exact PySem.EqNone.eq_none_bool (bZ I q (by simp))
  | int j=>obtain⟨t',rfl⟩:=ry;exact PySem.EqNone.eq_none_int (bZ I q (by simp))
  | str j=>obtain⟨t',rfl⟩:=ry;exact PySem.EqNone.eq_none_str (bZ I q (by simp))
  | _=>exact Jd (show false=true from hs) E?
 | bl i=>
  cases rx;cases y with
  | eO=>cases ry;exact PySem.EqNone.eq_bool_none (bZ I q (by simp))
  | bl j=>cases ry;exact eq_bool (bZ I q F8)
  | str j=>obtain⟨t',rfl⟩:=ry;exact PySem.EqMixed.eq_bool_str (bZ I q (by simp))
  | _=>exact Jd (show false=true from hs) E?
 | int i=>
  obtain⟨t,rfl⟩:=rx;cases y with
  | eO=>cases ry;exact PySem.EqNone.eq_int_none (bZ I q (by simp))
  | int j=>obtain⟨t',rfl⟩:=ry;exact eq_int (bZ I q Dr)
  | str j=>obtain⟨t',rfl⟩:=ry;exact PySem.EqMixed.eq_int_str (bZ I q (by simp))
  | _=>exact Jd (show false=true from hs) E?
 | str i=>
  obtain⟨t,rfl⟩:=rx;cases y with
  | eO=>cases ry;exact PySem.EqNone.eq_str_none (bZ I q (by simp))
  | bl j=>cases ry;exact PySem.EqMixed.eq_str_bool (bZ I q (by simp))
  | int j=>obtain⟨t',rfl⟩:=ry;exact PySem.EqMixed.eq_str_int (bZ I q (by simp))
  | str j=>obtain⟨t',rfl⟩:=ry;exact eq_str (bZ I q Ds)
  | _=>exact Jd (show false=true from hs) E?
 | byt i=>
  obtain⟨t,rfl⟩:=rx;cases y with
  | byt j=>obtain⟨t',rfl⟩:=ry;exact PySem.W.eq_bytes (bZ I q Dt)
  | _=>exact Jd (show false=true from hs) E?
 | _=>cases y <;> exact Jd (show false=true from hs) E?
theorem tN:oj X (J! .NotEq) Xf:=by
 intro pins s σ H x y v u Q I rx ry h;obtain⟨hs,q⟩:=h;cases x with
 | eO=>
  cases rx;cases y with
  | eO=>cases ry;exact PySem.EqNone.ne_none_none (bZ I q (by simp))
  | bl j=>cases ry;exact PySem.EqNone.ne_none_bool (bZ I q (by simp))
  | int j=>obtain⟨t',rfl⟩:=ry;exact PySem.EqNone.ne_none_int (bZ I q (by simp))
  | str j=>obtain⟨t',rfl⟩:=ry;exact PySem.EqNone.ne_none_str (bZ I q (by simp))
  | _=>exact Jd (show false=true from hs) E?
 | bl i=>
  cases rx;cases y with
  | eO=>cases ry;exact PySem.EqNone.ne_bool_none (bZ I q (by simp))
  | bl j=>cases ry;exact ne_bool (bZ I q (Jb not F8))
  | str j=>obtain⟨t',rfl⟩:=ry;exact PySem.EqMixed.ne_bool_str (bZ I q (by simp))
  | _=>exact Jd (show false=true from hs) E?
 | int i=>
  obtain⟨t,rfl⟩:=rx;cases y with
  | eO=>cases ry;exact PySem.EqNone.ne_int_none (bZ I q (by simp))
  | int j=>obtain⟨t',rfl⟩:=ry;exact ne_int (bZ I q (Jb not Dr))
  | str j=>obtain⟨t',rfl⟩:=ry;exact PySem.EqMixed.ne_int_str (bZ I q (by simp))
  | _=>exact Jd (show false=true from hs) E?
 | str i=>
  obtain⟨t,rfl⟩:=rx;cases y with
  | eO=>cases ry;exact PySem.EqNone.ne_str_none (bZ I q (by simp))
  | bl j=>cases ry;exact PySem.EqMixed.ne_str_bool (bZ I q (by simp))
  | int j=>obtain⟨t',rfl⟩:=ry;exact PySem.EqMixed.ne_str_int (bZ I q (by simp))
  | str j=>obtain⟨t',rfl⟩:=ry;exact ne_str (bZ I q (Jb not Ds))
  | _=>exact Jd (show false=true from hs) E?
 | byt i=>
  obtain⟨t,rfl⟩:=rx;cases y with
  | byt j=>obtain⟨t',rfl⟩:=ry;exact PySem.W.ne_bytes (bZ I q (Jb not Dt))
  | _=>exact Jd (show false=true from hs) E?
 | _=>cases y <;> exact Jd (show false=true from hs) E?
theorem F9:oj X (J! .Lt) (Ju λi j=>.bl (decide (i<j))):=JN λ_ _ _ _ _ _ _ q=>lt_int q
theorem Lp:oj X (J! .LtE) (Ju λi j=>.bl (decide (i<=j))):=JN λ_ _ _ _ _ _ _ q=>le_int q
theorem tO:oj X (J! .Gt) (Ju λi j=>.bl (decide (j<i))):=JN λ_ _ _ _ _ _ _ q=>gt_int q
theorem O2:oj X (J! .GtE) (Ju λi j=>.bl (decide (j<=i))):=JN λ_ _ _ _ _ _ _ q=>ge_int q
theorem aY (b:Expr){op:CmpOp}(h:op≠.In:=by decide)(h2:op≠.NotIn:=by decide):behindInMarks op b=false:=by
 have e1:(op == CmpOp.In)=false:=by cases op <;> first|rfl|exact Jd rfl h
 have e2:(op == CmpOp.NotIn)=false:=by cases op <;> first|rfl|exact Jd rfl h2
 cases b <;> simp[behindInMarks,e1,e2]
theorem nk {op:CmpOp}{r:R2}(ho:oj X (J! op) r)(ha:PE X a ta)(hb:PE X b tb)(hm:behindInMarks op b=false):PE X (.Compare a [op] [b] pos) (Rj r ta tb):=by
 refine⟨?_⟩
 intro pins s σ H Q I h;exact wpAny_Compare1 (MC ha hb I h λv u s2 x y H2 I2 rx ry q=>ho pins s2 σ H2 x y v u Q I2 rx ry q) hm
def O3 (t:TE):TT:=λσ H Q=>t σ H λx H'=>∃k,x=.bl k/\Q k H'
theorem aR {op:CmpOp}{r:R2}(ho:oj X (J! op) r)(ha:PE X a ta)(hb:PE X b tb)(hm:behindInMarks op b=false):PT X (.Compare a [op] [b] pos) (O3 (Rj r ta tb)):=by
 refine⟨?_⟩
 intro pins s σ H Q I h;refine wpAny_isTrue_Compare1 (eB (ha pins s σ H _ I h) λv s1 ⟨x,H1,I1,r1,q1⟩=>eB (hb pins s1 σ H1 _ I1 q1) λu s2 ⟨y,H2,I2,r2,q2⟩=>
  eB (ho pins s2 σ H2 x y v u _ I2 r1 r2 q2) λc s3 ⟨z,H3,I3,r3,k,e,q3⟩=>?_) hm
 subst e;cases r3;exact wpAny_truthy_bool ⟨H3,I3,q3⟩
def MF (r r':R2)(ta tb tc:TE):TE:=λσ H Q=>ta σ H λx H1=>tb σ H1 λy H2=>r x y H2 λz H3=>∃k,z=.bl k/\
 (if k=true then tc σ H3 λw' H4=>r' y w' H4 Q else Q (.bl false) H3)
theorem F_ {op op':CmpOp}{r r':R2}(ho:oj X (J! op) r)(ho':oj X (J! op') r')(ha:PE X a ta)(hb:PE X b tb)(hc:PE X c tc)
  (hm:lastMarks [op,op'] [b,c]=false:=by with_unfolding_all rfl):PE X (.Compare a [op,op'] [b,c] pos) (MF r r' ta tb tc):=by
 refine⟨?_⟩
 intro pins s σ H Q I h;refine Compare_chain (eB (ha pins s σ H _ I h) λv s1 ⟨x,H1,I1,r1,q1⟩=>chain_link (eB (hb pins s1 σ H1 _ I1 q1) λu s2 ⟨y,H2,I2,r2,q2⟩=>
  eB (ho pins s2 σ H2 x y v u _ I2 r1 r2 q2) λd s3 ⟨z,H3,I3,r3,k,e,q3⟩=>?_)) hm
 subst e;cases r3;refine wpAny_truthy_bool ?_
 cases k with
 | false=>exact ite_ff ⟨.bl false,H3,I3,rfl,q3⟩
 | true=>exact ite_tt (chain_last (eB (hc pins s3 σ H3 _ I3 q3) λw' s4 ⟨z',H4,I4,r4,q4⟩=>ho' pins s4 σ H4 y z' u w' Q I4 r2 r4 q4))
theorem uW:(K?:Nat)<2 ^ 63:=by rw[C?];decide
theorem vals1 {x:V}{us:List l?}(r:Vals [x] us):∃u,us=[u]/\RelV x u:=by
 cases r with
 | cons r1 r2=>cases r2;exact⟨_,rfl,r1⟩
theorem vals2 {x y:V}{us:List l?}(r:Vals [x,y] us):∃u w',us=[u,w']/\RelV x u/\RelV y w':=by
 cases r with
 | cons r1 r2=>
  cases r2 with
  | cons r3 r4=>cases r4;exact⟨_,_,rfl,r1,r3⟩
theorem uX:i7 X (.builtin "abs") (λxs H Q=>∃i,xs=[.int i]/\Q (.int (if i<0 then -i else i)) H):=by
 intro pins s σ H xs us Q I r h;obtain⟨i,rfl,q⟩:=h;obtain⟨u,rfl,t,rfl⟩:=vals1 r;exact call_abs_int λu tk=>⟨.int (if i<0 then -i else i),H,I.tok _,⟨_,rfl⟩,q⟩
theorem EA (hc:X.calm=true):i7 X (.builtin "max") (λxs H Q=>∃i j,xs=[.int i,.int j]/\Q (.int (if j > i then j else i)) H):=by
 intro pins s σ H xs us Q I r h;obtain⟨i,j,rfl,q⟩:=h;obtain⟨u,w',rfl,⟨t,rfl⟩,⟨t',rfl⟩⟩:=vals2 r;refine max_two_ints (I.ok.hd hc) λh' tk k=>⟨_,H,I.kept k,?_,q⟩
 by_cases hj:j > i
 ·rw[W7 hj,W7 hj];exact⟨_,rfl⟩
 ·rw[W6 hj,W6 hj];exact⟨_,rfl⟩
end
structure fj (k:Nat)(A:A!):Prop where
 hd:A.handled=q?
 dp:A.depth+3*k+5<recursionLimit
 un:A.units+16*k+200<cLine
 gd:A.guards=j? []
theorem fj.mono {j k:Nat}{A:A!}(r:fj k A)(h:j<=k):fj j A:=⟨r.hd,by have:=r.dp;omega,by have:=r.un;omega,r.gd⟩
theorem fj.deeper {k:Nat}{A:A!}(r:fj (k+1) A)(env:Env):fj k (A.deeper env):=
 ⟨r.hd,by have:=r.dp;show A.depth+1+3*k+5<_;omega,by have:=r.un;show A.units+3+16*k+200<_;omega,r.gd⟩
theorem fj.in1 {k:Nat}{A:A!}(r:fj (k+1) A):fj k A.in1:=
 ⟨r.hd,by have:=r.dp;show A.depth+3*k+5<_;omega,by have:=r.un;show A.units+1+16*k+200<_;omega,r.gd⟩
theorem fj.depth {k:Nat}{A:A!}(r:fj k A):A.depth<recursionLimit:=by have:=r.dp;omega
theorem fj.units {k:Nat}{A:A!}(r:fj k A):A.units+64<cLine:=by have:=r.un;omega
def Ga:TA:=λ_ H Q=>Q [] H
def z9 (ta:TE)(tr:TA):TA:=λσ H Q=>ta σ H λx H1=>tr σ H1 λxs H2=>Q (x::xs) H2
section
variable {X:Cx} {e:Expr} {es:List Expr} {te:TE} {t:TA} {pos:Pos}
theorem ai:PA X [] Ga:=⟨λ_ _ _ _ H Q I h=>Calls.spliced_nil ⟨[],H,I,.nil,h⟩⟩
theorem af (ha:PE X e te)(hr:PA X es t)(hs:I? (e::es) X.env=(false,eval e X.env)::I? es X.env:=by rfl):PA X (e::es) (z9 te t):=by
 refine⟨?_⟩
 intro pos pins s σ H Q I h;rw[hs];show L? _ _ (spliced ((false,eval e X.env)::backTo pos (I? es X.env))) _ _ s
 refine Calls.spliced_cons (eB (ha pins s σ H _ I h) λu s1 ⟨x,H1,I1,r1,q1⟩=>?_)
 exact eB (hr pos pins s1 σ H1 _ I1 q1) λus s2 ⟨xs,H2,I2,r2,q2⟩=>⟨x::xs,H2,I2,.cons r1 r2,q2⟩
def Sf (t:TA):TE:=λσ H Q=>t σ H λxs H1=>xs.length<=K?/\∀p,H1 p=q?->Q (.ref p) (upd H1 p (.tup xs))
def Sg (t:TA):TE:=λσ H Q=>t σ H λxs H1=>xs.length<=K?/\∀p,H1 p=q?->Q (.ref p) (upd H1 p (.lst xs))
theorem i8 {x1}(h:PA X es t):PE X (.Tuple es x1 pos) (Sf t):=by
 refine⟨?_⟩
 intro pins s σ H Q I hq;refine wpAny_Tuple_spliced (eB (h pos pins s σ H _ I hq) λus s1 ⟨xs,H1,I1,r,z,q⟩=>⟨by rw[<- r.length];exact z,?_⟩)
 have hf:H1 s1.heap.objs.size=q?:=I1.hok.fresh (Yd _);refine⟨.ref s1.heap.objs.size,upd H1 s1.heap.objs.size (.tup xs),I1.laid (t':=s1.toks) (λb u e=>Yg _ e) (Yd _) ?_,rfl,q _ hf⟩
 exact⟨z,us,r,⟨_,Y1 _ rfl,rfl,_,rfl⟩⟩
theorem bD (h:PA X es t):PE X (.List es pos) (Sg t):=by
 refine⟨?_⟩
 intro pins s σ H Q I hq;refine wpAny_List_spliced (eB (h pos pins s σ H _ I hq) λus s1 ⟨xs,H1,I1,r,z,q⟩=>⟨by rw[<- r.length];exact z,?_⟩)
 have hf:H1 s1.heap.objs.size=q?:=I1.hok.fresh (Yd _);refine⟨.ref s1.heap.objs.size,upd H1 s1.heap.objs.size (.lst xs),I1.laid (t':=s1.toks) (λb u e=>Yg _ e) (Yd _) ?_,rfl,q _ hf⟩
 exact⟨z,us,0,r,Y1 _ rfl⟩
end
abbrev Sp:=List V->Hp->VK->XK->Prop
abbrev EB:=List Env->Hp->u?->XK->l?->u?->Prop
structure EC (P:F?)(w:H?)(K:bG)(mg:Str->Option l?)(base:O?)(A:A!)(outer:List Env)(s:u?)(H:Hp):Prop where
 frames:A.frames=j? outer
 mod:Mod K mg base
 bs:∀b o,base.get? b=j? o->s.heap.get? b=j? o/\H b=q?
 Dl:base.objs.size<=s.heap.objs.size
 mh:s.heap.FunFrames base outer
 F1:∀b∈frs outer,H b=q?
 hok:tL P w H s.heap
 bare:AllBare s.gens
def CE (outer:List Env)(P:F?)(w:H?)(H:Hp)(s:u?)(Q:VK)(u:l?)(s':u?):Prop:=
 ∃v H',s'.os=s.os/\AllBare s'.gens/\Un (frs outer) [] H H' s.heap s'.heap/\tL P w H' s'.heap/\RelV v u/\Q v H'
def CR (CX:EB)(outer:List Env)(P:F?)(w:H?)(H:Hp)(s:u?)(Q:VK)(E:XK)(r:Result)(s':u?):Prop:=
 match r with
 | .ok (.ret u)=>CE outer P w H s Q u s'
 | .ok _=>False
 | .error e=>CX outer H s E e s'
structure kH (P:F?)(w:H?)(K:bG)(mg:Str->Option l?)(base:O?)(CX:EB)(k:Nat)(f:o?)(fd:O!)(ps:List Str)(sp:Sp):Prop where
 len:∀vs H Q E,sp vs H Q E->vs.length=ps.length
 run:∀(A:A!) (outer:List Env) (s:u?) (H:Hp) (args:Args) (us:List l?) (vs:List V) (Q:VK) (E:XK),fj k A->EC P w K mg base A outer s H->BindsTo s fd args (ps.zip us)->Vals vs us->sp vs H Q E->
  codeAny (S? P w) A (.call (.ref f) args) (CR CX outer P w H s Q E) s
theorem kH.imp {P:F?}{w:H?}{K:bG}{mg:Str->Option l?}{base:O?}{CX:EB}{k:Nat}{f:o?}{fd:O!}{ps:List Str}{sp UO:Sp}(F:kH P w K mg base CX k f fd ps sp)
  (h:∀vs H Q E,UO vs H Q E->sp vs H Q E):kH P w K mg base CX k f fd ps UO:=
 ⟨λvs H Q E q=>F.len vs H Q E (h _ _ _ _ q),λA outer s H args us vs Q E hr he hb hv hs=>F.run A outer s H args us vs Q E hr he hb hv (h _ _ _ _ hs)⟩
section
variable {X:Cx} {pins:List (o?×Obj)} {σ:St} {H:Hp} {s s':u?}
theorem Inv.O4 (I:Inv X pins σ H s):EC X.prog X.w X.K X.mg X.base X.A X.stack s H:=
 ⟨I.ok.frames,I.ok.mod,I.bs,Ym I.ok.Dl I.sz,I.stack,I.uq,I.hok,I.bare⟩
theorem Inv.after {Q:VK}{u:l?}(I:Inv X pins σ H s)(h:CE X.stack X.prog X.w H s Q u s'):EP X pins σ Q u s':=by
 obtain⟨v,H',os,bare,un,hok,r,q⟩:=h;obtain⟨hh,g,d,t,os'⟩:=s';obtain rfl:os'=s.os:=os
 exact⟨v,H',I.call (h':=hh) (g':=g) (d':=d) (t':=t) (ch:=[]) un hok bare (λb z=>Jd z (by simp)),r,q⟩
end
def Gb (sp:Sp)(Lq:List V)(E:XK)(t:TA):TE:=λσ H Q=>t σ H λvs H1=>sp (vs++Lq) H1 Q E
def Binds (K:bG)(fd:O!)(ps:List Str)(ds:List l?):Prop:=
 ∀(s:u?) (us:List l?),K.In s.heap->(us++ds).length=ps.length->BindsTo s fd ⟨us,[]⟩ (ps.zip (us++ds))
theorem Binds.all {K:bG}{fd:O!}{ps:List Str}(h:∀us:List l?,us.length=ps.length->bindArgs fd ⟨us,[]⟩=pure (ps.zip us)):Binds K fd ps []:=λs us _ hl=>by
 rw[List.append_nil] at hl ⊢;exact .of_eq (h us hl)
def Passes (CX:EB)(X:Cx)(E:XK):Prop:=∀(pins:List (o?×Obj)) (σ:St) (H:Hp) (s:u?) (e:l?) (s':u?),Inv X pins σ H s->CX X.stack H s E e s'->X.xe e s'
section
variable {X:Cx} {CX:EB} {k:Nat} {f C:o?} {fd:O!} {ps:List Str} {sp:Sp} {Lq:List V} {ds:List l?} {E:XK} {x m:Str} {p pos apos:Pos} {e o:Expr} {es:List Expr} {ta:TE} {t:TA}
theorem MG {pins:List (o?×Obj)}{σ:St}{H:Hp}{s:u?}{Q:VK}{us:List l?}{vs:List V}(F:kH X.prog X.w X.K X.mg X.base CX k f fd ps sp)(hr:fj k X.A)(hb:Binds X.K fd ps ds)(hd:Vals Lq ds)(hx:Passes CX X E)
  (I:Inv X pins σ H s) (r:Vals vs us) (h:sp (vs++Lq) H Q E):L? (S? X.prog X.w) X.A (call (.ref f) us) (EP X pins σ Q) X.xe s:=by
 have r2:Vals (vs++Lq) (us++ds):=r.append hd;have hl:(us++ds).length=ps.length:=by rw[<- r2.length];exact F.len _ _ _ _ h
 refine wpAny_call (codeAny_mono (F.run X.A X.stack s H ⟨us,[]⟩ (us++ds) (vs++Lq) Q E hr I.O4 (hb s us I.Dm hl) r2 h) λr s' hq=>?_)
 cases r with
 | error e=>exact hx pins σ H s e s' I hq
 | ok fl=>
  cases fl with
  | ret u=>exact I.after hq
  | next=>exact M! hq
  | brk=>exact M! hq
  | cont=>exact M! hq
theorem Du (F:kH X.prog X.w X.K X.mg X.base CX k f fd ps sp)(hr:fj k X.A)(hg:Gl X x)(hm:X.mg x=j? (.ref f))(hk:C! X.K (.ref f)=true)(hb:Binds X.K fd ps ds)(hd:Vals Lq ds)(hx:Passes CX X E)
  (ha:PA X (e::es) t) (hdb:(x ==("__debug__":Str))=false:=by decide) (he:I? (e::es) X.env=(false,eval e X.env)::I? es X.env:=by rfl) (hpl:(backTo pos (I? es X.env)).any (·.1)=false:=by rfl):
  PE X (.Call (.Name x p) (e::es) [] pos) (Gb sp Lq E t):=by
 refine⟨?_⟩
 intro pins s σ H Q I h;refine wpAny_Call_Name_kw (yt I hg hm ?_ hdb)
 refine PySem.W.callWith_K (h₀:=X.base) I.ok.mod.Rc hk (eB (ha pos pins s σ H _ I h) λus s1 ⟨vs,H1,I1,r,q⟩=>⟨I1.Dm,?_⟩) he hpl
 exact MG F hr hb hd hx I1 r q
end
def PK (X:Cx)(kws:List Keyword)(t:TA):Prop:=
 ∀(pos:Pos) (pins:List (o?×Obj)) (s:u?) (σ:St) (H:Hp) (Q:List V->Hp->Prop),Inv X pins σ H s->t σ H Q->L? (S? X.prog X.w) X.A (evalAll ((backToKw pos (keywordEach kws X.env)).map (·.2))) (AP X pins σ Q) X.xe s
section
variable {X:Cx} {CX:EB} {k:Nat} {f C:o?} {fd:O!} {ps ks:List Str} {sp:Sp} {E:XK} {x m:Str} {p pos apos kpos:Pos} {e o:Expr} {es:List Expr} {kws:List Keyword} {te ta:TE} {t tk:TA} {nm:Option Str}
theorem MH:PK X [] Ga:=λ_ _ _ _ H Q I h=>wpAny_evalAll_nil ⟨[],H,I,.nil,h⟩
theorem JP (ha:PE X e te)(hr:PK X kws t):PK X (⟨nm,e,kpos⟩::kws) (z9 te t):=by
 intro pos pins s σ H Q I h;show L? _ _ (evalAll ((do let v <- eval e X.env;standAt pos;pure v)::(backToKw pos (keywordEach kws X.env)).map (·.2))) _ _ s
 refine wpAny_evalAll_cons (B? (eB (ha pins s σ H _ I h) λu s1 ⟨x,H1,I1,r1,q1⟩=>B? (wpAny_standAt (J? ?_))))
 exact eB (hr pos pins s1 σ H1 _ I1 q1) λus s2 ⟨xs,H2,I2,r2,q2⟩=>⟨x::xs,H2,I2,.cons r1 r2,q2⟩
variable {g:List l?->List l?->List l?} {gV:List V->List V->List V}
end
structure aI (N P:List Str)(sc:Scope):Prop where
 kind:sc.kind=.function
 co:sc.isCoroutine=false
 gen:sc.isGenerator=false
 nd:N.Nodup
 pre:N.take P.length=P
 par:∀x∈P,sc.names.lookup x=j? .local\/sc.names.lookup x=j? .cell
 MI:∀y∈sc.names,y.2≠.free
theorem xG {kindOf:Str->Option NameKind}{x:Str}:∀ {binds:List (Str×l?)} {m:Str->Option l?},(∀v,(x,v) ∉ binds)->bindL kindOf binds m x=m x
 | [],_,_=>rfl
 | (n,v)::r,m,h=>by
  unfold bindL;rw[xG λw hw=>h w (Y3 _ hw)]
  split
  ·have:x≠n:=by rintro rfl;exact h v Y8
   simp[this]
  ·rfl
theorem xH {kindOf:Str->Option NameKind}{x:Str}:∀ {binds:List (Str×l?)} {m:Str->Option l?},(∀v,(x,v) ∉ binds)->bindC kindOf binds m x=m x
 | [],_,_=>rfl
 | (n,v)::r,m,h=>by
  unfold bindC;rw[xH λw hw=>h w (Y3 _ hw)]
  split
  ·rfl
  ·have:x≠n:=by rintro rfl;exact h v Y8
   simp[this]
theorem xJ {kindOf:Str->Option NameKind}{x:Str}{v:l?}:∀ {P:List Str} {vs:List l?} {i:Nat} {m:Str->Option l?},P.Nodup->P[i]?=j? x->vs[i]?=j? v->kindOf x=j? .local->
  bindL kindOf (P.zip vs) m x=j? v
 | [],_,_,_,_,h,_,_=>by simp at h
 | _::_,[],_,_,_,_,h,_=>by simp at h
 | p::P,w::vs,0,m,nd,h1,h2,hk=>by
  simp at h1 h2;subst h1;subst h2;show bindL kindOf ((p,w)::P.zip vs) m p=_
  unfold bindL;rw[xG λv hv=>(List.nodup_cons.mp nd).1 (List.of_mem_zip hv).1,W7 hk]
  simp
 | p::P,w::vs,i+1,m,nd,h1,h2,hk=>by
  show bindL kindOf ((p,w)::P.zip vs) m x=_
  unfold bindL;exact xJ (i:=i) (List.nodup_cons.mp nd).2 (by simpa using h1) (by simpa using h2) hk
theorem xK {kindOf:Str->Option NameKind}{x:Str}{v:l?}:∀ {P:List Str} {vs:List l?} {i:Nat} {m:Str->Option l?},P.Nodup->P[i]?=j? x->vs[i]?=j? v->kindOf x≠j? .local->
  bindC kindOf (P.zip vs) m x=j? v
 | [],_,_,_,_,h,_,_=>by simp at h
 | _::_,[],_,_,_,_,h,_=>by simp at h
 | p::P,w::vs,0,m,nd,h1,h2,hk=>by
  simp at h1 h2;subst h1;subst h2;show bindC kindOf ((p,w)::P.zip vs) m p=_
  unfold bindC;rw[xH λv hv=>(List.nodup_cons.mp nd).1 (List.of_mem_zip hv).1,W6 hk]
  simp
 | p::P,w::vs,i+1,m,nd,h1,h2,hk=>by
  show bindC kindOf ((p,w)::P.zip vs) m x=_
  unfold bindC;exact xK (i:=i) (List.nodup_cons.mp nd).2 (by simpa using h1) (by simpa using h2) hk
def start (N:List Str)(vs:List V):St:=vs.map j?++Yn (N.length-vs.length) q?
def oK (CX:EB)(P:F?)(w:H?)(K:bG)(mg:Str->Option l?)(base:O?)(N:List Str)(qual:Str)(scope:Scope)(f:o?)(cd:l?)(A:A!)(outer:List Env)(s:u?)(H:Hp)(E:XK):Cx where
 prog:=P
 w:=w
 K:=K
 mg:=mg
 base:=base
 A:=A.deeper (envOfC qual scope s.heap.objs.size f cd)
 N:=N
 s₀:=s
 H₀:=H
 env:=envOfC qual scope s.heap.objs.size f cd
 outer:=outer
 stack:=envOfC qual scope s.heap.objs.size f cd::outer
 ex:=[]
 calm:=true
 fn:=λ_=>true
 pn:=[]
 xe:=λe s'=>L? (S? P w) (A.deeper (envOfC qual scope s.heap.objs.size f cd)) (leaving (envOfC qual scope s.heap.objs.size f cd) e) (λ_ s''=>CX outer H s E e s'') (λe' s''=>CX outer H s E e' s'') s'
theorem uY {sc:Scope}{n:Nat}{x:Str}(h:sc.names.lookup x=j? .cell):∃c,(cellsFrom n sc.names []).lookup x=j? c:=by
 have q:=PySem.W.cellsFrom_some sc.names n [] (.inl h);exact Option.isSome_iff_exists.mp q
theorem ED {CX:EB}{P:F?}{w:H?}{K:bG}{mg:Str->Option l?}{base:O?}{N ps:List Str}{qual:Str}{scope:Scope}{f:o?}{cd:l?}{A:A!}{outer:List Env}{s s1:u?}{H:Hp}{E:XK}{us:List l?}{vs:List V}
  (S:aI N ps scope) (hd:A.handled=q?) (e0:EC P w K mg base A outer s H) (hl:vs.length=ps.length) (r:Vals vs us)
  (x:InCallC s s.heap.objs.size (bindL (envOfC qual scope s.heap.objs.size f cd).kindOf (ps.zip us) λ_=>q?) (cellsFrom (s.heap.objs.size+1) scope.names []) (bindC (envOfC qual scope s.heap.objs.size f cd).kindOf (ps.zip us) λ_=>q?) s1):
  Inv (oK CX P w K mg base N qual scope f cd A outer s H E) [] (start N vs) H s1:=by
 have hpl:ps.length<=N.length:=by have:=Jb Wy S.pre;rw[Yx] at this;omega
 obtain⟨h1,tk,rfl,hk⟩:=x.done;have O5:∀b:o?,b ∉ (oK CX P w K mg base N qual scope f cd A outer s H E).ex:=λb z=>Jd (show b∈([]:List o?) from z) (by simp)
 refine⟨⟨e0.mod,S.kind,rfl,rfl,Yd _,λy z c h1 h2=>?_,λy hy=>?_,λy c _ h=>?_,λ_=>hd,Around.frames_deeper e0.frames,.inr ⟨rfl,rfl⟩,λb z=>Jd z (O5 b),e0.bs,e0.Dl,λb _ _=>O5 b,λb z=>Jd z (O5 b),e0.mh,e0.F1⟩,
  rfl,e0.bare,Un.kept hk,⟨_,x.toInCall.ns,λi y v h1 h2 h3=>?_⟩,λy c h=>⟨_,x.cell y c h⟩,e0.hok.fresh (Yd _),λy c h=>?_,λp hp=>Jd (show p∈([]:List (o?×Obj)) from hp) (by simp),e0.hok.kept hk,?_⟩
 ·exact name_of_addr x.apart (U? h1) (U? h2)
 ·have hy:scope.names.lookup y=j? .cell\/scope.names.lookup y=j? .free:=hy
  rcases hy with hy|hy
  ·exact uY hy
  ·exact Jd rfl (S.MI _ (U? hy))
 ·exact Wz (x.above y c (U? h))
 ·have hi:i<vs.length:=by
   unfold start at h2;by_cases hi:i<vs.length
   ·exact hi
   ·rw[Zb (by simpa using hi)] at h2
    rw[List.getElem?_replicate] at h2;split at h2 <;> cases h2
  have ha:vs[i]?=j? v:=by
   unfold start at h2;rw[Y9 (by simpa using hi),Ye] at h2
   cases e:vs[i]? with
   | none=>rw[e] at h2;cases h2
   | some a=>rw[e] at h2;cases h2;rfl
  obtain⟨u,hu,rv⟩:=r.get ha;have hp:ps[i]?=j? y:=by
   rw[<- S.pre,List.getElem?_take_of_lt (by omega)];exact h1
  have UP:ps.Nodup:=by rw[<- S.pre];exact S.nd.sublist (List.take_sublist _ _)
  refine⟨u,rv,?_⟩
  rcases S.par y (Yt hp) with k|k
  ·exact .inl ⟨k,xJ UP hp hu k⟩
  ·obtain⟨c,e⟩:=uY (n:=s.heap.objs.size+1) k
   refine .inr ⟨.inl k,c,e,?_⟩
   have q:=x.cell y c e;rw[xK UP hp hu (by show scope.names.lookup y≠_;rw[k];decide)] at q
   exact q
 ·exact e0.hok.fresh (Wz (x.above y c (U? h)))
 ·unfold start
  show _=N.length
  rw[Yi,Ya,Yv];omega
theorem Gd {CX:EB}{P:F?}{w:H?}{K:bG}{mg:Str->Option l?}{base:O?}{k:Nat}{f:o?}{name qual:Str}{params:Arguments}{body:List Q?}{scope:Scope}{dV kV doc pm cdv ct oc:l?}{an od:Option o?}
  {osl:Array (Option l?)} {N ps:List Str} {sp:Sp} (lk:K.lookup f=j? ⟨oc,od,.func (W? name qual params body scope dV kV doc pm an cdv ct),osl⟩) (hcd:P! K cdv qual=true) (S:aI N ps scope)
  (len:∀vs H Q E,sp vs H Q E->vs.length=ps.length)
  (hbody:∀(A:A!) (outer:List Env) (s:u?) (H:Hp) (vs:List V) (Q:VK) (E:XK),fj k (A.deeper (envOfC qual scope s.heap.objs.size f cdv))->sp vs H Q E->
   ∃t,z4 (oK CX P w K mg base N qual scope f cdv A outer s H E) body t/\t { nx:=λ_ H'=>Q .eO H',rt:=Q } (start N vs) H):
  kH P w K mg base CX (k+1) f (W? name qual params body scope dV kV doc pm an cdv ct) ps sp:=by
 refine⟨len,λA outer s H args us vs Q E hr e0 hb r Jv=>?_⟩
 have hl:=len _ _ _ _ Jv;have KX:K.In s.heap:=e0.mod.Rc.keeps λb o e=>(e0.bs b o e).1
 have lim:s.heap.NoLimit:=e0.mod.nolimit.keeps λb o e=>(e0.bs b o e).1
 have hkind:∀y∈ps.zip us,scope.names.lookup y.1=j? .local\/(scope.names.lookup y.1=j? .cell/\((cellsFrom (s.heap.objs.size+1) scope.names []).lookup y.1).isSome=true):=λ⟨n,v⟩ hy=>by
  rcases S.par n (List.of_mem_zip hy).1 with q|q
  ·exact .inl q
  ·exact .inr ⟨q,PySem.W.cellsFrom_some _ _ _ (.inl q)⟩
 refine codeAny_call_function hr.depth (KX _ _ lk) rfl S.co S.gen rfl (PySem.W.codeRec_of KX hcd) (hb _ _ _ _ ?_)
 refine wpAny_newFunctionEnv_cells S.kind hkind λenv he s1 x=>?_
 subst he;refine⟨lim.keeps x.toInCall.keep,codeAny_func ?_⟩
 obtain⟨t,ht,hq⟩:=hbody A outer s H vs Q E (hr.deeper _) Jv;have I:Inv (oK CX P w K mg base N qual scope f cdv A outer s H E) [] (start N vs) H s1:=ED S hr.hd e0 hl r x;refine B! (ht [] s1 (start N vs) H _ I hq) (λfl s' hs=>?_) λe s' hs=>hs
 have fin:∀ {σ':St} {H':Hp} {v:V} {u:l?},Inv (oK CX P w K mg base N qual scope f cdv A outer s H E) [] σ' H' s'->RelV v u->Q v H'->CE outer P w H s Q u s':=
  λ{σ' H' v u} J rv q=>⟨v,H',J.os,J.bare,J.base,J.hok,rv,q⟩
 cases fl with
 | ret u=>
  obtain⟨v,σ',H',J,rv,q⟩:=hs;exact fin J rv q
 | next=>
  obtain⟨σ',H',J,q⟩:=hs;exact fin (v:=V.eO) (u:=Value.none) J rfl q
 | brk=>
  obtain⟨_,_,_,q⟩:=hs;exact M! q
 | cont=>
  obtain⟨_,_,_,q⟩:=hs;exact M! q
section
variable {X:Cx} {x:Str} {p pos:Pos} {e:Expr} {es:List Expr} {t:TA} {id T:String} {r:List V->Hp->VK->Prop}
def UQ (r:List V->Hp->VK->Prop)(t:TA):TE:=λσ H Q=>t σ H λvs H1=>r vs H1 Q
theorem aM (hc:i7 X (.builtin id) r)(hg:Gl X x)(hm:X.mg x=q?)(hv:H! x=j? (.builtin id))(ha:PA X (e::es) t)(hn:x≠"__name__":=by decide)(hdb:(x ==("__debug__":Str))=false:=by decide)
  (he:I? (e::es) X.env=(false,eval e X.env)::I? es X.env:=by rfl) (hpl:(backTo pos (I? es X.env)).any (·.1)=false:=by rfl):PE X (.Call (.Name x p) (e::es) [] pos) (UQ r t):=by
 refine⟨?_⟩
 intro pins s σ H Q I h;refine wpAny_Call_Name_kw (jI I hg hm hv ?_ hn hdb)
 exact PyProof.Rows.callWith_builtin1 (eB (ha pos pins s σ H _ I h) λus s1 ⟨vs,H1,I1,r1,q1⟩=>hc pins s1 σ H1 vs us Q I1 r1 q1) he hpl
theorem rN (hc:i7 X (.type T) r)(hg:Gl X x)(hm:X.mg x=q?)(hv:H! x=j? (.type T))(ha:PA X (e::es) t)(hn:x≠"__name__":=by decide)(hdb:(x ==("__debug__":Str))=false:=by decide)
  (he:I? (e::es) X.env=(false,eval e X.env)::I? es X.env:=by rfl) (hpl:(backTo pos (I? es X.env)).any (·.1)=false:=by rfl):PE X (.Call (.Name x p) (e::es) [] pos) (UQ r t):=by
 refine⟨?_⟩
 intro pins s σ H Q I h;refine wpAny_Call_Name_kw (jI I hg hm hv ?_ hn hdb)
 exact L! (eB (ha pos pins s σ H _ I h) λus s1 ⟨vs,H1,I1,r1,q1⟩=>hc pins s1 σ H1 vs us Q I1 r1 q1) he hpl
end
end L2
namespace HT
open PySem PyProof.Rows
section
variable {prog:F?} {w:H?} {A:A!} {E:l?->u?->Prop} {s:u?}
def qi (n d:Nat):Option Int->Nat
 | none=>d
 | some v=>if v<0 then (v+(n:Int)).toNat else min v.toNat n
theorem kI (n d k:Nat):qi n d (j? (k:Int))=min k n:=by
 show(if (k:Int)<0 then ((k:Int)+(n:Int)).toNat else min (k:Int).toNat n)=min k n
 rw[W6 (by omega),Yj]
end
end HT
namespace L2
open PySem PySem.Spec PyProof.Rows
abbrev TO:=St->Hp->(Option Int->Hp->Prop)->Prop
def PO (X:Cx)(e:Option Expr)(t:TO):Prop:=
 ∀(pins:List (o?×Obj)) (s:u?) (σ:St) (H:Hp) (Q:Option Int->Hp->Prop),Inv X pins σ H s->t σ H Q->
  L? (S? X.prog X.w) X.A (evalPart e X.env) (λu s'=>∃o H',Inv X pins σ H' s'/\IsPart u o/\Q o H') X.xe s
def JQ:TO:=λ_ H Q=>Q q? H
def O6 (t:TE):TO:=λσ H Q=>t σ H λx H1=>∃i,x=.int i/\Q (j? i) H1
section
variable {X:Cx} {e:Expr} {te:TE} {lo hi:Option Expr} {tl th:TO} {pos p2:Pos}
theorem f_:PO X q? JQ:=by
 intro pins s σ H Q I h;rw[evalPart_none];exact J? ⟨q?,H,I,.none,h⟩
theorem gf (h:PE X e te):PO X (j? e) (O6 te):=by
 intro pins s σ H Q I hw;rw[evalPart_some];refine eB (h pins s σ H _ I hw) λu s1 ⟨x,H1,I1,r1,q1⟩=>?_
 obtain⟨i,rfl,q⟩:=q1;obtain⟨t,rfl⟩:=r1;exact⟨j? i,H1,I1,.int i t,q⟩
def Sh (X:Cx)(r:V->Option Int->Option Int->Hp->VK->Prop):Prop:=
 ∀(pins:List (o?×Obj)) (s:u?) (σ:St) (H:Hp) (x:V) (v vl vu:l?) (lo hi:Option Int) (sl:o?) (Q:VK),Inv X pins σ H s->RelV x v->s.heap.IsSliceOf sl vl vu .none->IsPart vl lo->IsPart vu hi->r x lo hi H Q->
  ∃T id,typeLookup (.type T) "__getitem__"=pure (j? (.builtin id))/\s.TypeIs v T/\wpAny (S? X.prog X.w) X.A (getItem v (.ref sl)) (EP X pins σ Q) X.xe s
def Xg (r:V->Option Int->Option Int->Hp->VK->Prop)(te:TE)(tl th:TO):TE:=λσ H Q=>te σ H λx H1=>tl σ H1 λl H2=>th σ H2 λu H3=>r x l u H3 Q
theorem eU {r:V->Option Int->Option Int->Hp->VK->Prop}(hr:Sh X r)(he:PE X e te)(hl:PO X lo tl)(hu:PO X hi th):PE X (.Subscript e (.Slice lo hi q? p2) pos) (Xg r te tl th):=by
 refine⟨?_⟩
 intro pins s σ H Q I h;refine Subscript_ (eB (he pins s σ H _ I h) λv s1 ⟨x,H1,I1,r1,q1⟩=>?_)
 refine wpAny_Slice (eB (hl pins s1 σ H1 _ I1 q1) λvl s2 ⟨l,H2,I2,pl,q2⟩=>eB (hu pins s2 σ H2 _ I2 q2) λvu s3 ⟨u,H3,I3,pu,q3⟩=>?_)
 rw[evalPart_none];refine J? ?_
 have I4:Inv X pins σ H3 { s3 with heap:=s3.heap.push { cls:=.type "slice",data:=.fields #[vl,vu,.none] } }:=I3.kept (t':=s3.toks) λb ob q=>Yg _ q
 obtain⟨T,id,hT,ht,hg⟩:=hr pins { s3 with heap:=s3.heap.push { cls:=.type "slice",data:=.fields #[vl,vu,.none] } } σ H3 x v vl vu l u s3.heap.objs.size Q I4 r1 (Heap.IsSliceOf.new ..) pl pu q3
 show L? (S? X.prog X.w) X.A (subscriptTail e (.Slice lo hi q? p2) v (.ref s3.heap.objs.size)) (EP X pins σ Q) X.xe { s3 with heap:=s3.heap.push { cls:=.type "slice",data:=.fields #[vl,vu,.none] } }
 exact tail_any (ops:=[.ref s3.heap.objs.size,v]) ht hT hg (by with_unfolding_all rfl)
def iD (xs:List V)(lo hi:Option Int):List V:=(xs.drop (HT.qi xs.length 0 lo)).take (HT.qi xs.length xs.length hi-HT.qi xs.length 0 lo)
theorem z_ (xs:List V)(lo hi:Option Int):(iD xs lo hi).length<=xs.length:=by
 unfold iD;rw[Yx,Y7];omega
end
def Jw (n:Nat)(i:Int):Option Nat:=if 0<=i then (if i<n then j? i.toNat else q?) else if -(n:Int)<=i then j? (i+n).toNat else q?
def rF {α:Type}(xs:List α)(i:Int):Option α:=(Jw xs.length i).bind λj=>xs[j]?
theorem Dv {n:Nat}{i:Int}{j:Nat}(h:Jw n i=j? j):seqIndex? i n=j? j/\j<n/\-(n:Int)<=i/\i<n:=by
 unfold Jw at h;by_cases h0:0<=i
 ·rw[W7 h0] at h
  by_cases h1:i<n
  ·rw[W7 h1] at h
   have e:i.toNat=j:=M? h;exact⟨by rw[seqIndex_of h0 h1,e],by omega,by omega,h1⟩
  ·rw[W6 h1] at h;cases h
 ·rw[W6 h0] at h
  by_cases h1:-(n:Int)<=i
  ·rw[W7 h1] at h
   have e:(i+n).toNat=j:=M? h;exact⟨by rw[seqIndex_neg (by omega) h1,e],by omega,h1,by omega⟩
  ·rw[W6 h1] at h;cases h
theorem Dw {α:Type}{xs:List α}{i:Int}{v:α}(h:rF xs i=j? v):∃j,seqIndex? i xs.length=j? j/\xs[j]?=j? v/\j<xs.length/\-(xs.length:Int)<=i/\i<xs.length:=by
 unfold rF at h;cases e:Jw xs.length i with
 | none=>rw[e] at h;cases h
 | some j=>
  rw[e] at h;obtain⟨h1,h2,h3,h4⟩:=Dv e;exact⟨j,h1,h,h2,h3,h4⟩
theorem fH {α:Type}{xs:List α}{j:Nat}{v:α}(h:xs[j]?=j? v):rF xs (j:Int)=j? v:=by
 have hj:j<xs.length:=(List.getElem?_eq_some_iff.mp h).1;have e:Jw xs.length (j:Int)=j? j:=by
  unfold Jw;rw[W7 (by omega),W7 (by omega)];simp
 unfold rF;rw[e];exact h
def JR (b:Expr):Prop:=∀o i,subscripted b false o i=operate [o,i] (getItem o i)
def O7 (X:Cx)(r:R2):Prop:=
 ∀(value slice:Expr) (pins:List (o?×Obj)) (s:u?) (σ:St) (H:Hp) (x y:V) (v u:l?) (Q:VK),Inv X pins σ H s->RelV x v->RelV y u->r x y H Q->
  subscripted slice false v u=operate [v,u] (getItem v u)->L? (S? X.prog X.w) X.A (subscriptTail value slice v u) (EP X pins σ Q) X.xe s
def UR (X:Cx)(id:String)(r:V->List V->Hp->VK->Prop):Prop:=
 ∀(pins:List (o?×Obj)) (s:u?) (σ:St) (H:Hp) (x:V) (xs:List V) (v:l?) (us:List l?) (Q:VK),Inv X pins σ H s->RelV x v->Vals xs us->r x xs H Q->
  L? (S? X.prog X.w) X.A (call (.builtin id) (v::us)) (EP X pins σ Q) X.xe s
section
variable {X:Cx} {a b:Expr} {ta tb:TE} {pos:Pos}
theorem bI {r:R2}(hr:O7 X r)(ha:PE X a ta)(hb:PE X b tb)(hs:JR b):PE X (.Subscript a b pos) (Rj r ta tb):=by
 refine⟨?_⟩
 intro pins s σ H Q I h;exact Subscript_ (MC ha hb I h λv u s2 x y H2 I2 rx ry q=>hr a b pins s2 σ H2 x y v u Q I2 rx ry q (hs _ _))
def O8 (K:bG):R2:=λx y H Q=>∃p xs i v,x=.ref p/\y=.int i/\aN K H p xs/\rF xs i=j? v/\Q v H
def O9 (K:bG):R2:=λx y H Q=>∃p xs i v,x=.ref p/\y=.int i/\kG K H p xs/\rF xs i=j? v/\Q v H
theorem JS:O7 X (O8 X.K):=by
 intro value slice pins s σ H x y v u Q I rx ry h hs;obtain⟨p,xs,i,z,rfl,rfl,hq,he,q⟩:=h;cases rx;obtain⟨t,rfl⟩:=ry;obtain⟨its,r,pl,hz⟩:=I.list hq;obtain⟨j,h1,h2,h3,h4,h5⟩:=Dw he;obtain⟨w,ew,rw'⟩:=r.get h2;have hl:=r.length;have hn:=uW;have fin:EP X pins σ Q w s:=⟨z,H,I,rw',q⟩;by_cases h0:0<=i
 ·have hj:i.toNat=j:=by
   rw[seqIndex_of h0 h5] at h1;exact M? h1
  exact item_listR pl.isList h0 (by omega) (by rw[hj];simpa using ew) fin hs
 ·have hj:(i+(its.toArray.size:Int)).toNat=j:=by
   rw[seqIndex_neg (by omega) h4] at h1
   rw[Yq,<- hl];exact M? h1
  exact subscriptTail_builtinR (x:=w) pl.isList.typeIs slot_list_getitem.lookup
   (wpAny_getItem_list_neg (Q:=λr s'=>r=w/\EP X pins σ Q r s') pl.isList (by omega) (by rw[Yq] <;> omega) (by omega) (by rw[hj];simpa using ew) ⟨rfl,fin⟩) hs
theorem MJ:O7 X (O9 X.K):=by
 intro value slice pins s σ H x y v u Q I rx ry h hs;obtain⟨p,xs,i,z,rfl,rfl,hq,he,q⟩:=h;cases rx;obtain⟨t,rfl⟩:=ry;obtain⟨its,r,pl,hz⟩:=I.tuple hq;obtain⟨j,h1,h2,h3,h4,h5⟩:=Dw he;obtain⟨w,ew,rw'⟩:=r.get h2;have hl:=r.length;have hn:=uW;have fin:EP X pins σ Q w s:=⟨z,H,I,rw',q⟩;exact subscriptTail_builtinR (x:=w) pl.typeIs slot_tuple_getitem.lookup
  (getItem_tuple (j:=j) (Q:=λr s'=>r=w/\EP X pins σ Q r s') pl (by omega) (by omega) (by rw[Yq,<- hl];exact h1) (by simpa using ew) ⟨rfl,fin⟩) hs
theorem BC (its:List l?)(n j:Nat)(u:l?):D! (·.setIfInBounds j u) { cls:=.type "list",data:=.seq its.toArray n }={ cls:=.type "list",data:=.seq (its.set j u).toArray n }:=by
 simp[D!]
theorem Inv.lst {pins:List (o?×Obj)}{σ:St}{H:Hp}{s:u?}{p:o?}{xs:List V}(I:Inv X pins σ H s)(h:H p=j? (.lst xs)):
  ∃(its:List l?) (n:Nat),Vals xs its/\s.heap.get? p=j? { cls:=.type "list",data:=.seq its.toArray n }/\xs.length<=K?:=by
 obtain⟨z,its,n,r,e⟩:=I.hok p _ h;exact⟨its,n,r,e,z⟩
theorem Inv.MK {pins:List (o?×Obj)}{σ:St}{H:Hp}{s:u?}{p:o?}{xs ys:List V}{its its':List l?}{n n':Nat}{f:Obj->Obj}(I:Inv X pins σ H s)(h:H p=j? (.lst xs))
  (ho:s.heap.get? p=j? { cls:=.type "list",data:=.seq its.toArray n }) (hf:f { cls:=.type "list",data:=.seq its.toArray n }={ cls:=.type "list",data:=.seq its'.toArray n' }) (r:Vals ys its') (hz:ys.length<=K?) (t:Nat):
  Inv X pins σ (upd H p (.lst ys)) { s with heap:=s.heap.update p f,toks:=t }:=by
 have e:(s.heap.update p f).get? p=j? { cls:=.type "list",data:=.seq its'.toArray n' }:=by
  rw[Heap.get?_update_self f ho (by rw[hf] <;> rfl),hf]
 refine I.write (x:=p) (e:=p) (by rw[h];trivial) (.inl rfl) (λb u hb q=>(Heap.get?_update_other _ _ (Ne.symm hb)).trans q) ⟨_,e⟩ ?_
 exact⟨hz,its',n',r,e⟩
def O_:V->V->V->Hp->(Hp->Prop)->Prop:=λo i v H Q=>∃p xs k j,o=.ref p/\i=.int k/\H p=j? (.lst xs)/\Jw xs.length k=j? j/\Q (upd H p (.lst (xs.set j v)))
theorem set_list:Mt X O_:=by
 intro pins s σ H o i v ov iv u Q I ro ri rv h;obtain⟨p,xs,k,j,rfl,rfl,hp,hj,q⟩:=h;cases ro;obtain⟨t,rfl⟩:=ri;obtain⟨its,n,r,ho,hz⟩:=I.lst hp;obtain⟨h1,h2,h3,h4⟩:=Dv hj;have hl:=r.length;have hn:=uW;have I':Inv X pins σ (upd H p (.lst (xs.set j v))) { s with heap:=s.heap.update p (D! (·.setIfInBounds j u)) }:=
  I.MK hp ho (BC its n j u) (r.set rv j) (by rw[Ws];exact hz) s.toks
 by_cases h0:0<=k
 ·have hk:k.toNat=j:=by
   rw[seqIndex_of h0 h4] at h1;exact M? h1
  exact PySem.W.ki_setAt ho h0 (by omega) (by rw[Yq,<- hl];exact h4) (by rw[hk];exact⟨_,I',q⟩)
 ·have hk:(k+(its.toArray.size:Int)).toNat=j:=by
   rw[seqIndex_neg (by omega) h3] at h1
   rw[Yq,<- hl];exact M? h1
  exact PySem.W.ki_setBack ho (by omega) (by rw[Yq,<- hl];exact h3) (by omega) (by rw[hk];exact⟨_,I',q⟩)
theorem yD (lo hi:Option Int)(n:Nat):(sliceBounds lo hi q? n).1=((HT.qi n 0 lo:Nat):Int)/\(sliceBounds lo hi q? n).2.1=((HT.qi n n hi:Nat):Int)/\(sliceBounds lo hi q? n).2.2=1:=by
 refine⟨?_,?_,rfl⟩
 ·cases lo with
  | none=>simp[sliceBounds,HT.qi]
  | some i=>
   simp only[sliceBounds,HT.qi,Option.getD_none,show(1:Int) > 0 by decide,if_true]
   by_cases h:i<0
   ·simp only[h,if_true] <;> omega
   ·simp only[h,if_false] <;> omega
 ·cases hi with
  | none=>simp[sliceBounds,HT.qi]
  | some i=>
   simp only[sliceBounds,HT.qi,Option.getD_none,show(1:Int) > 0 by decide,if_true]
   by_cases h:i<0
   ·simp only[h,if_true] <;> omega
   ·simp only[h,if_false] <;> omega
theorem wX (its:List l?)(lo hi:Option Int):slicePick its.toArray lo hi q?=((its.drop (HT.qi its.length 0 lo)).take (HT.qi its.length its.length hi-HT.qi its.length 0 lo)).toArray:=by
 obtain⟨h1,h2,h3⟩:=yD lo hi its.toArray.size;unfold slicePick;rw[h1,h2,h3];simp only[sliceRange_one,pick_run,Yq] <;> rfl
def Pa (K:bG):V->Option Int->Option Int->Hp->VK->Prop:=λx lo hi H Q=>∃a xs,x=.ref a/\aN K H a xs/\∀p,H p=q?->Q (.ref p) (upd H p (.lst (iD xs lo hi)))
theorem JT:Sh X (Pa X.K):=by
 intro pins s σ H x v vl vu lo hi sl Q I rx hs pl pu h;obtain⟨a,xs,rfl,hx,q⟩:=h;cases rx;obtain⟨its,r,ht,hz⟩:=I.list hx;have hlen:=r.length;refine⟨"list",_,slot_list_getitem.lookup,ht.isList.typeIs,?_⟩
 refine wpAny_getItem_list_slice ht.isList hs pl pu .none (by simp) ?_ (by rw[Yq] <;> omega)
 rw[wX,<- hlen];refine⟨.ref s.heap.objs.size,_,I.laid (t':=s.toks) (o:=.lst (iD xs lo hi)) (λb ob q=>Yg _ q) (Yd _) ?_,rfl,q _ (I.hok.fresh (Yd _))⟩
 exact⟨Ym (z_ xs lo hi) hz,_,0,(r.drop (HT.qi xs.length 0 lo)).take (HT.qi xs.length xs.length hi-HT.qi xs.length 0 lo),Y1 _ rfl⟩
def qp:V->Bool
 | .eO=>true
 | .bl _=>true
 | .int _=>true
 | .str _=>true
 | _=>false
def Lr:V->V->Bool
 | .eO,.eO=>true
 | .bl a,.bl b=>a == b
 | .bl a,.int b=>(if a then 1 else 0) == b
 | .int a,.bl b=>a ==(if b then 1 else 0)
 | .int a,.int b=>a == b
 | .str a,.str b=>a == b
 | _,_=>false
theorem ML {A:A!}{s:u?}{y x:V}{u v:l?}(ry:RelV y u)(rx:RelV x v)(fy:qp y=true)(fx:qp x=true):SeqAt.EqAt A s u v (Lr y x):=by
 cases y with
 | eO=>
  cases ry;cases x with
  | eO=>cases rx;exact SeqAt.EqAt.same _
  | bl b=>cases rx;exact SeqAt.EqAt.none_bool b
  | int b=>obtain⟨t,rfl⟩:=rx;exact SeqAt.EqAt.none_int b t
  | str b=>obtain⟨t,rfl⟩:=rx;exact SeqAt.EqAt.none_str b t
  | _=>exact Jd (show false=true from fx) E?
 | bl a=>
  cases ry;cases x with
  | eO=>cases rx;exact SeqAt.EqAt.bool_none a
  | bl b=>cases rx;exact SeqAt.EqAt.bool_bool a b
  | int b=>obtain⟨t,rfl⟩:=rx;exact SeqAt.EqAt.bool_int a b t
  | str b=>obtain⟨t,rfl⟩:=rx;exact SeqAt.EqAt.bool_str a b t
  | _=>exact Jd (show false=true from fx) E?
 | int a=>
  obtain⟨t',rfl⟩:=ry;cases x with
  | eO=>cases rx;exact SeqAt.EqAt.int_none a t'
  | bl b=>cases rx;exact SeqAt.EqAt.int_bool a t' b
  | int b=>obtain⟨t,rfl⟩:=rx;exact SeqAt.EqAt.int_int a t' b t
  | str b=>obtain⟨t,rfl⟩:=rx;exact SeqAt.EqAt.int_str a t' b t
  | _=>exact Jd (show false=true from fx) E?
 | str a=>
  obtain⟨t',rfl⟩:=ry;cases x with
  | eO=>cases rx;exact SeqAt.EqAt.str_none a t'
  | bl b=>cases rx;exact SeqAt.EqAt.str_bool a t' b
  | int b=>obtain⟨t,rfl⟩:=rx;exact SeqAt.EqAt.str_int a t' b t
  | str b=>obtain⟨t,rfl⟩:=rx;exact SeqAt.EqAt.str_str a t' b t
  | _=>exact Jd (show false=true from fx) E?
 | _=>exact Jd (show false=true from fy) E?
def JU (x:V)(u:l?):Bool:=match u with
 | .none=>Lr .eO x
 | .bool b=>Lr (.bl b) x
 | .int i _=>Lr (.int i) x
 | .str z _=>Lr (.str z) x
 | _=>false
theorem Ge {x y:V}{u:l?}(r:RelV y u)(f:qp y=true):JU x u=Lr y x:=by
 cases y with
 | eO=>cases r;rfl
 | bl b=>cases r;rfl
 | int i=>obtain⟨t,rfl⟩:=r;rfl
 | str z=>obtain⟨t,rfl⟩:=r;rfl
 | _=>exact Jd (show false=true from f) E?
theorem yE {x:V}:∀ {xs:List V} {us:List l?},Vals xs us->xs.all qp=true->us.any (JU x)=xs.any λy=>Lr y x
 | _,_,.nil,_=>rfl
 | y::xs,u::us,.cons r t,f=>by
  rw[List.all_cons,T?] at f;rw[List.any_cons,List.any_cons,Ge r f.1,yE t f.2]
theorem uZ {A:A!}{s:u?}{x:V}{v:l?}(rx:RelV x v)(fx:qp x=true):∀ {xs:List V} {us:List l?},Vals xs us->xs.all qp=true->∀u∈us,SeqAt.EqAt A s u v (JU x u)
 | _,_,.nil,_=>λu hu=>by cases hu
 | y::xs,u::us,.cons r t,f=>λu' hu=>by
  rw[List.all_cons,T?] at f;rcases List.mem_cons.mp hu with rfl|hu
  ·rw[Ge r f.1];exact ML r rx f.1 fx
  ·exact uZ rx fx t f.2 u' hu
def JV (x:V)(xs:List V):Bool:=xs.any λy=>Lr y x
def US (K:bG)(neg:Bool):R2:=λx y H Q=>∃p xs,y=.ref p/\(aN K H p xs\/kG K H p xs)/\qp x=true/\xs.all qp=true/\Q (.bl (if neg then !JV x xs else JV x xs)) H
theorem EE:oj X (J! .In) (US X.K false):=by
 intro pins s σ H x y v u Q I rx ry h;obtain⟨p,xs,rfl,hq,fx,fs,q⟩:=h;cases ry;rcases hq with hq|hq
 ·obtain⟨its,r,pl,hz⟩:=I.list hq
  refine SeqAt.in_listAt (JU x) pl.isList (λw hw=>uZ rx fx r fs w (by simpa using hw)) ⟨.bl _,H,I,rfl,?_⟩
  rw[show its.toArray.any (JU x)=its.any (JU x) by simp,yE r fs]
  exact q
 ·obtain⟨its,r,pl,hz⟩:=I.tuple hq
  refine SeqAt.in_tupleAt (JU x) pl (λw hw=>uZ rx fx r fs w (by simpa using hw)) ⟨.bl _,H,I,rfl,?_⟩
  rw[show its.toArray.any (JU x)=its.any (JU x) by simp,yE r fs]
  exact q
theorem yF:i7 X (.builtin "len") (λxs H Q=>∃p ys,xs=[.ref p]/\(aN X.K H p ys\/kG X.K H p ys)/\Q (.int ys.length) H):=by
 intro pins s σ H xs us Q I r h;obtain⟨p,ys,rfl,hq,q⟩:=h;obtain⟨u,rfl,rx⟩:=vals1 r;cases rx;have hn:=uW;rcases hq with hq|hq
 ·obtain⟨its,r',pl,hz⟩:=I.list hq
  have hlen:=r'.length;exact Calls.call_len_list pl.isList (by simp only[Yq] <;> omega) ⟨.int ys.length,H,I.tok _,⟨s.toks+1,by rw[Yq,hlen]⟩,q⟩
 ·obtain⟨its,r',pl,hz⟩:=I.tuple hq
  have hlen:=r'.length;exact len_tuple pl (by simp only[Yq] <;> omega) ⟨.int ys.length,H,I.tok _,⟨s.toks+1,by rw[Yq,hlen]⟩,q⟩
theorem kJ:i7 X (.type "list") (λxs H Q=>∃p ys,xs=[.ref p]/\(aN X.K H p ys\/kG X.K H p ys)/\∀l,H l=q?->Q (.ref l) (upd H l (.lst ys))):=by
 intro pins s σ H xs us Q I r h;obtain⟨p,ys,rfl,hq,q⟩:=h;obtain⟨u,rfl,rx⟩:=vals1 r;cases rx;have fin:∀(its:List l?),Vals ys its->ys.length<=K?->∀(h':O?) (c':Nat),(∀b o',s.heap.get? b=j? o'->h'.get? b=j? o')->
   h'.get? s.heap.objs.size=j? { cls:=.type "list",dict:=q?,data:=.seq its.toArray c',slots:=#[] }->EP X pins σ Q (.ref s.heap.objs.size) { s with heap:=h' }:=λits r' hz h' c' kp e=>
  ⟨.ref s.heap.objs.size,_,I.laid (t':=s.toks) kp (Yd _) (show ir X.prog X.w _ h' _ (.lst ys) from⟨hz,its,c',r',e⟩),rfl,q _ (I.hok.fresh (Yd _))⟩
 rcases hq with hq|hq
 ·obtain⟨its,r',pl,hz⟩:=I.list hq
  have hlen:=r'.length;obtain⟨o,ho,hc,n,hd⟩:=pl.isList;exact call_list_seq p (.inl rfl) ho hc hd (λh' c' kp e=>fin its r' hz h' c' kp e) (by simp only[Yq] <;> omega)
 ·obtain⟨its,r',pl,hz⟩:=I.tuple hq
  have hlen:=r'.length;obtain⟨o,ho,hc,n,hd⟩:=pl;exact call_list_seq p (.inr rfl) ho hc hd (λh' c' kp e=>fin its r' hz h' c' kp e) (by simp only[Yq] <;> omega)
def Sj (K:bG)(T:String)(x:V)(H:Hp):Prop:=match x with
 | .str _=>T="str"
 | .int _=>T="int"
 | .ref p=>(T="list"/\∃xs,aN K H p xs)\/(T="tuple"/\∃o,K.lookup p=j? o/\o.cls=.type "tuple"/\o.dict=q?)\/
   (T="dict"/\((∃kvs,H p=j? (.dK kvs))\/∃kvs,H p=j? (.dT kvs)))\/(T="set"/\∃S n,H p=j? (.set S n))
 | _=>False
theorem Gf {pins:List (o?×Obj)}{σ:St}{H:Hp}{s:u?}{T:String}{x:V}{v:l?}(I:Inv X pins σ H s)(r:RelV x v)(ty:Sj X.K T x H):
  s.TypeIs v T/\∀a,v=.ref a->∃ob,s.heap.get? a=j? ob/\ob.dict=q?:=by
 cases x with
 | str z=>
  obtain⟨t,rfl⟩:=r;cases (show T="str" from ty)
  exact⟨typeIs_str s z t,λ_ e=>nomatch e⟩
 | int i=>
  obtain⟨t,rfl⟩:=r;cases (show T="int" from ty)
  exact⟨typeIs_int s i t,λ_ e=>nomatch e⟩
 | ref p=>
  cases r;rcases ty with ⟨rfl,xs,hq⟩|⟨rfl,o,hk,hc,hd⟩|⟨rfl,hk⟩|⟨rfl,S,n,hk⟩
  ·obtain⟨its,_,pl,_⟩:=I.list hq
   refine⟨pl.isList.typeIs,λa e=>?_⟩
   cases e;obtain⟨o,n,e,c,hd,_⟩:=pl;exact⟨o,e,hd⟩
  ·refine⟨⟨o,I.Dm p o hk,hc⟩,λa e=>?_⟩
   cases e;exact⟨o,I.Dm _ o hk,hd⟩
  ·have z:∃o,s.heap.get? p=j? o/\o.ExactDict:=by
    rcases hk with ⟨kvs,hk⟩|⟨kvs,hk⟩
    ·obtain⟨_,_,_,_,o,_,_,e,ex,_⟩:=I.hok p _ hk
     exact⟨o,e,ex⟩
    ·obtain⟨_,_,_,_,o,_,_,e,ex,_⟩:=I.hok p _ hk
     exact⟨o,e,ex⟩
   obtain⟨o,e,ex⟩:=z;refine⟨⟨o,e,ex.1⟩,λa e2=>?_⟩
   cases e2;exact⟨o,e,ex.2.1⟩
  ·obtain⟨o,_,_,_,e,ex,_⟩:=I.hok p _ hk
   refine⟨⟨o,e,ex.1⟩,λa e2=>?_⟩
   cases e2;exact⟨o,e,ex.2.1⟩
 | _=>exact M! ty
def Sk (K:bG)(T:String)(r:V->List V->Hp->VK->Prop)(to:TE):TE:=λσ H Q=>to σ H λx H1=>Sj K T x H1/\r x [] H1 Q
def Xh (K:bG)(T:String)(r:V->List V->Hp->VK->Prop)(to:TE)(t:TA):TE:=λσ H Q=>to σ H λx H1=>Sj K T x H1/\t σ H1 λxs H2=>r x xs H2 Q
variable {o e:Expr} {es:List Expr} {to:TE} {t:TA} {name:Str} {apos cpos:Pos} {T id:String} {r:V->List V->Hp->VK->Prop}
theorem BD (pa:PlainAttrs T)(slot:Slot T name id)(hty:typeOf (.builtin id)=pure (.type "method_descriptor"))(hm:UR X id r)(ho:PE X o to)
  (hbase:attributeBase o name X.env (eval o X.env)=eval o X.env:=by rfl) (hline:(apos.endLine == cpos.line)=true:=by rfl):PE X (.Call (.Attribute o name apos) [] [] cpos) (Sk X.K T r to):=by
 refine⟨?_⟩
 intro pins s σ H Q I h;refine wpAny_Call_method0_late hbase hline (eB (ho pins s σ H _ I h) λv s1 ⟨x,H1,I1,r1,ty,q1⟩=>?_)
 obtain⟨h1,h2⟩:=Gf I1 r1 ty;exact⟨T,id,pa,slot,hty,h1,h2,Calls.callWith_builtin rfl (PySem.evalArgs_none (hm pins s1 σ H1 x [] v [] Q I1 r1 .nil q1))⟩
theorem qu (pa:PlainAttrs T)(slot:Slot T name id)(hty:typeOf (.builtin id)=pure (.type "method_descriptor"))(hm:UR X id r)(ho:PE X o to)(ha:PA X (e::es) t)
  (hbase:attributeBase o name X.env (eval o X.env)=eval o X.env:=by rfl)
  (hfew:((backTo cpos (I? (e::es) X.env)).all (λx=>!x.1) && (backToKw cpos (keywordEach [] X.env)).all (λx=>x.1.isSome)
   && decide ((e::es).length+([]:List Keyword).length+(if ([]:List Keyword).isEmpty then 0 else 1)<30))=true:=by rfl)
  (hline:(apos.endLine == cpos.line)=true:=by rfl) (hs:I? (e::es) X.env=(false,eval e X.env)::I? es X.env:=by rfl) (hplain:(backTo cpos (I? es X.env)).any (·.1)=false:=by rfl):
  PE X (.Call (.Attribute o name apos) (e::es) [] cpos) (Xh X.K T r to t):=by
 refine⟨?_⟩
 intro pins s σ H Q I h;refine wpAny_Call_method_late hbase hfew hline rfl (eB (ho pins s σ H _ I h) λv s1 ⟨x,H1,I1,r1,ty,q1⟩=>?_)
 obtain⟨h1,h2⟩:=Gf I1 r1 ty;refine⟨T,id,pa,slot,hty,h1,h2,?_⟩
 have hA:=ha cpos pins s1 σ H1 _ I1 q1;rw[hs] at hA ⊢;refine Calls.callWith_builtin (by show(false || (backTo cpos (I? es X.env)).any (·.1))=false;rw[hplain] <;> rfl) (Calls.evalArgs_plain ?_)
 exact eB hA λus s2 ⟨vs,H2,I2,r2,q2⟩=>hm pins s2 σ H2 x vs v us Q I2 r1 r2 q2
end
def UT (X:Cx)(id:String)(r:V->List V->Hp->VK->Prop):Prop:=
 ∀(pins:List (o?×Obj)) (s:u?) (σ:St) (H:Hp) (x:V) (xs:List V) (v:l?) (us:List l?) (Q:VK),Inv X pins σ H s->RelV x v->Vals xs us->r x xs H Q->
  L? (S? X.prog X.w) X.A (call (.builtin id) (v::us)) (EP X pins σ Q) X.xe s
theorem Vals.one:∀ {x:V} {us:List l?},Vals [x] us->∃u,us=[u]/\RelV x u
 | _,_,.cons r .nil=>⟨_,rfl,r⟩
theorem Vals.zero:∀ {us:List l?},Vals [] us->us=[]
 | _,.nil=>rfl
theorem Vals.reverse {xs:List V}{us:List l?}(h:Vals xs us):Vals xs.reverse us.reverse:=by
 induction h with
 | nil=>exact .nil
 | cons r t ih=>rw[List.reverse_cons,List.reverse_cons];exact Vals.append ih (.cons r .nil)
theorem Vals.rep {xs:List V}{us:List l?}(h:Vals xs us):∀k:Nat,Vals (Yn k xs).flatten (Yn k us).flatten
 | 0=>.nil
 | k+1=>by
  rw[Zo,Zo,Wl,Wl];exact Vals.append h (Vals.rep h k)
theorem foldl_rep (its:List l?):∀(k:Nat) (acc:List l?),
  List.foldl (λx1 x2=>x1++x2) acc.toArray (Yn k its.toArray)=(acc++(Yn k its).flatten).toArray
 | 0,acc=>by simp
 | k+1,acc=>by
  have e:acc.toArray++its.toArray=(acc++its).toArray:=by simp
  have e2:(acc++its)++(Yn k its).flatten=acc++(Yn (k+1) its).flatten:=by
   rw[Zo,Wl,List.append_assoc]
  rw[<- e2,<- foldl_rep its k (acc++its),<- e,Zo,List.foldl_cons]
section
variable {X:Cx} {pins:List (o?×Obj)} {σ:St} {H:Hp} {s:u?} {l b:o?} {xs ys zs:List V}
theorem Inv.Pb {its its':List l?}{n:Nat}{f:Array l?->Array l?}{t':Nat}(I:Inv X pins σ H s)(hH:H l=j? (.lst xs))
  (e:s.heap.get? l=j? { cls:=.type "list",data:=.seq its.toArray n }) (hf:f its.toArray=its'.toArray) (hv:Vals ys its') (hz:ys.length<=K?):
  Inv X pins σ (upd H l (.lst ys)) { s with heap:=s.heap.update l (D! f),toks:=t' }:=by
 have q:=PySem.IsL.update e f;rw[hf] at q;refine I.write (x:=l) (e:=l) (by rw[hH];exact trivial) (.inl rfl) (λb' u hb hu=>(Heap.get?_update_other s.heap (D! f) (Ne.symm hb)).trans hu) ⟨_,q⟩ ?_
 exact⟨hz,its',_,hv,q⟩
theorem Inv.Pc {its:List l?}{t':Nat}(I:Inv X pins σ H s)(hv:Vals ys its)(hz:ys.length<=K?):
  Inv X pins σ (upd H s.heap.objs.size (.lst ys)) { s with heap:=s.heap.push { cls:=.type "list",data:=.seq its.toArray },toks:=t' }:=
 I.laid (λ_ _ q=>Yg _ q) (Yd _) ⟨hz,its,0,hv,Y1 _ rfl⟩
theorem Inv.fresh (I:Inv X pins σ H s):H s.heap.objs.size=q?:=I.hok.fresh (Yd _)
theorem Inv.Gg (I:Inv X pins σ H s)(hH:H l=j? (.lst xs)):xs.length<=K?/\∃(its:List l?) (n:Nat),Vals xs its/\xs.length=its.length/\s.heap.get? l=j? { cls:=.type "list",data:=.seq its.toArray n }:=by
 obtain⟨z,its,n,r,e⟩:=I.hok l _ hH;exact⟨z,its,n,r,r.length,e⟩
theorem Gh {n:Nat}(h:n<=K?):Builtin.List.listTooLong n=false:=by
 unfold Builtin.List.listTooLong;exact Ja (by omega)
end
section
variable {X:Cx}
def JW:V->List V->Hp->VK->Prop:=λx vs H Q=>∃l xs y,x=.ref l/\vs=[y]/\H l=j? (.lst xs)/\xs.length<K?/\Q .eO (upd H l (.lst (xs++[y])))
theorem dU:UT X "list.append" JW:=by
 intro pins s σ H x vs v us Q I rx rv h;obtain⟨l,xs,y,rfl,rfl,hH,hz,q⟩:=h;cases rx;obtain⟨u,rfl,ru⟩:=rv.one;obtain⟨z,its,n,r,hl,e⟩:=I.Gg hH;refine call_meets F.slot_list_append ⟨_,e,rfl⟩ F.entry_list_append (F.args_list_append_2 _ _) (PySem.list_append l its.toArray n u (by rw[Yq];omega)) ⟨e,?_⟩
 refine⟨.eO,_,I.Pb (its':=its++[u]) hH e (by simp) (r.append (.cons ru .nil)) ?_,rfl,q⟩
 rw[Yi,List.length_singleton];omega
def Gi:V->List V->Hp->VK->Prop:=λx vs H Q=>∃l xs,x=.ref l/\vs=[]/\H l=j? (.lst xs)/\Q .eO (upd H l (.lst xs.reverse))
theorem oM:UT X "list.reverse" Gi:=by
 intro pins s σ H x vs v us Q I rx rv h;obtain⟨l,xs,rfl,rfl,hH,q⟩:=h;cases rx;have Xi:=rv.zero;subst Xi;obtain⟨z,its,n,r,hl,e⟩:=I.Gg hH;refine call_meets F.slot_list_reverse ⟨_,e,rfl⟩ F.entry_list_reverse (F.args_list_reverse_1 _) (AutoSeq1.list_reverse_list_0 l its.toArray n (by rw[Yq];omega)) ⟨e,?_⟩
 refine⟨.eO,_,I.Pb (its':=its.reverse) hH e (by simp) r.reverse ?_,rfl,q⟩
 rw[Zw];omega
def Sl:R2:=λx y H Q=>∃l b xs zs,x=.ref l/\y=.ref b/\H l=j? (.lst xs)/\H b=j? (.lst zs)/\xs.length+zs.length<=K?/\∀p,H p=q?->Q (.ref p) (upd H p (.lst (xs++zs)))
theorem iE:oj X (binaryOp .Add) Sl:=by
 intro pins s σ H x y v u Q I rx ry h;obtain⟨l,b,xs,zs,rfl,rfl,hH,hB,hz,q⟩:=h;cases rx;cases ry;obtain⟨z,its,n,r,hl,e⟩:=I.Gg hH;obtain⟨z2,its2,n2,r2,hl2,e2⟩:=I.Gg hB;refine PySem.P.add_list e e2 ?_ (by rw[Yq,Yq];omega)
 have ea:its.toArray++its2.toArray=(its++its2).toArray:=by simp
 rw[ea];exact⟨.ref _,_,I.Pc (t':=s.toks) (r.append r2) (by rw[Yi];omega),rfl,q _ I.fresh⟩
def Sm:R2:=λx y H Q=>∃l k xs,x=.ref l/\y=.int k/\H l=j? (.lst xs)/\-(2 ^ 63)<=k/\k<2 ^ 63/\xs.length*k.toNat<=K?/\
 ∀p,H p=q?->Q (.ref p) (upd H p (.lst (Yn k.toNat xs).flatten))
theorem len_rep {α:Type}(xs:List α)(k:Nat):(Yn k xs).flatten.length=k*xs.length:=by
 induction k with
 | zero=>simp
 | succ k ih=>rw[Zo,Wl,Yi,ih,Nat.succ_mul,Nat.add_comm]
theorem rO:oj X (binaryOp .Mult) Sm:=by
 intro pins s σ H x y v u Q I rx ry h;obtain⟨l,k,xs,rfl,rfl,hH,h1,h2,hz,q⟩:=h;cases rx;obtain⟨t,rfl⟩:=ry;obtain⟨z,its,n,r,hl,e⟩:=I.Gg hH;have hlen:its.toArray.size*k.toNat<=K?:=by rw[Yq,<- hl];exact hz
 have hcap:¬ its.toArray.size*k.toNat > (2 ^ 63-1) / 8:=by
  have:(K?:Nat)<=(2 ^ 63-1) / 8:=by decide
  omega
 have hfit:¬ (!Builtin.List.listFitsIndex k)=true:=by
  rw[fitsIndex_both h1 h2];exact E?
 have Pd:¬ Builtin.List.listTooLong (its.toArray.size*k.toNat)=true:=by
  rw[Gh hlen];exact E?
 have hnew:List.foldl (λx1 x2=>x1++x2) #[] (Yn (if its.toArray.isEmpty=true then 0 else k.toNat) its.toArray)=(Yn k.toNat its).flatten.toArray:=by
  have f0:∀m:Nat,List.foldl (λx1 x2=>x1++x2) #[] (Yn m its.toArray)=(Yn m its).flatten.toArray:=λm=>by
   have:=foldl_rep its m []
   rw[List.nil_append] at this;exact this
  rw[f0];cases its with
  | nil=>simp
  | cons a r'=>rw[W6 (by simp)]
 refine wpAny_binaryOp_repeat_ref (T:="list") (U:="int") (by decide) ⟨_,e,rfl⟩ (λs'=>typeIs_int s' k t) noFill_list_mul F.fills_int_mul F.slot_int_rmul repeat_list F.slot_int_index.lookup
  (call_meets F.slot_int_rmul (typeIs_int s k t) F.entry_int_rmul (F.args_int_rmul_2 _ _) (int___rmul___int_list k t l its.toArray n)
   ⟨e,rfl,⟨_,e,rfl⟩,call_meets F.slot_list_mul ⟨_,e,rfl⟩ F.entry_list_mul (F.args_list_mul_2 _ _) (AutoListH.list___mul___list_int_3 l its.toArray n k t hfit hcap Pd) ⟨e,?_⟩⟩)
 rw[hnew];exact⟨.ref _,_,I.Pc (t':=s.toks) (r.rep k.toNat) (by rw[len_rep,Wn];exact hz),rfl,q _ I.fresh⟩
end
end L2
namespace Att
open PySem PySem.W PySem.Calls PyProof.Rows
theorem tZ {P:Params}{h:O?}:∀(ns:List Int) (vs:List l?),WellAll P h vs (ns.map WData.int)->IntsAre vs ns:=by
 intro ns;induction ns with
 | nil=>
  intro vs w;rw[List.map_nil] at w;cases w;exact .nil
 | cons n ns ih=>
  intro vs w;rw[List.map_cons] at w;cases w with
  | cons a b=>
   cases a;exact .cons _ _ (ih _ b)
theorem EF {l:OpenLaw}{n:Nat}(hn:l.most=j? n){P:Params}{h:O?}{args:List WData}{vals:List l?}
  (hpre:l.row.toRowW.claim.pre args=true) (hwl:WellAll P h vals args):
  ∃a vs ns,vals=[I! a]/\args=[WData.list (ns.map WData.int)]/\h.get? a=j? { cls:=.type "list",data:=.seq vs.toArray }/\IntsAre vs ns/\ns.length<=n:=by
 have hsh:WShape.hasAll [] args [.list .int]=true:=(pre_splitW hpre).1;have hc:l.pre.holds [] { args:=args }=true:=(pre_splitW hpre).2;obtain⟨d,r,rfl,h1,h2⟩:=hasAllW_cons hsh;obtain rfl:=hasAllW_nil h2
 obtain⟨xs,rfl,h3⟩:=hasW_list h1;obtain⟨ns,rfl⟩:=items_int h3;have hlen:ns.length<=n:=by
  unfold OpenLaw.pre at hc;have h4:(WTm.not (.lt (.lit (.int (n:Int))) (.len (.arg 0)))).holds [] { args:=[.list (ns.map .int)] }=true:=by
   have h4:=(holds_andW hc).1;rw[hn] at h4;exact h4
  have h5:=condW_of h4 (w_not (w_lt w_lit (w_len_list (w_arg rfl))));rw[Ya] at h5;refine Nat.le_of_not_lt λq=>?_
  have q':(n:Int)<((ns.length:Nat):Int):=by omega
  first
   | (rw[W8 q'] at h5;exact Jd h5 (by decide))
   | (simp at h5;omega)
 cases hwl with
 | cons w1 w2=>
  cases w2;cases w1 with
  | list ho hall=>exact⟨_,_,ns,rfl,rfl,ho,tZ ns _ hall,hlen⟩
theorem EG (l:OpenLaw)(args:List WData):l.row.toRowW.claim.post args (.bool true) args=true:=
 postW_of (r:=l.row.toRowW) (X:=(true == true))
  (show WShape.has [] (.bool true) .bool=true by first|rfl|decide|simp[WShape.has,WShape.arms,WShape.armsAll])
  (show(WTm.eq .res (.lit (.bool true))).value [] { args:=args,res:=j? (.bool true),after:=args }=j? (.bool (true == true)) from w_eq_bool (w_res rfl) w_lit) rfl
theorem Aa {l:OpenLaw}{n:Nat}{q:F?}{loose:List Str}{XP:(Str->Option l?)->O?->Prop}{YP:H?->O?->Prop}{d:DefRec}
  (hn:l.most=j? n) (hdf:d.params.defaults=[])
  (call:∀(w:H?) (s₀ s₁:u?) (mg mb:Str->Option l?) (fa:o?) (o:Obj) (pm cd doc:l?) (a:o?) (vs:List l?) (ns:List Int),
   Ground q loose [] XP w s₀ mg mb s₁.heap->YP w s₁.heap->
   s₁.heap.get? fa=j? o->o.data=.func (docDef d.name d.params d.body d.scope pm cd doc)->s₁.heap.CodeRec cd d.name->mg d.name=j? (.ref fa)->
   s₁.heap.get? a=j? { cls:=.type "list",data:=.seq vs.toArray }->IntsAre vs ns->ns.length<=n->s₁.gens=#[]->
   codeAny (S? l.prog w) callerA (.call (.ref fa) ⟨[.ref a],[]⟩) (λr s'=>r=.ok (.ret (.bool true))/\OldK s₁.heap s'.heap/\s'.os=s₁.os/\AllBare s'.gens) s₁):
  WalkO q loose XP YP l.row.toRowW d [] (λf vs=>PySem.call f vs):=by
 intro w s₀ s₁ mg mb G Y fa o pm cd doc dV kV ho hd hcd hD hmg hg args vals as hpre hlay hrd hwl hlo;obtain rfl:dV=.none:=Dflts.none hD hdf
 obtain rfl:kV=.none:=Dflts.noKw hD
 obtain⟨a,vs,ns,rfl,rfl,hobj,hints,hlen⟩:=EF hn hpre hwl;refine enter_call (codeAny_mono (call w s₀ s₁ mg mb fa o pm cd doc a vs ns G Y ho (fd_plain hd) hcd hmg hobj hints hlen hg) λr s' hq=>?_)
 obtain⟨rfl,h2,h3,h4⟩:=hq;exact⟨.inl ⟨.bool true,.bool true,[],rfl,λ_=>rfl,.bool true,EG l _,λ_=>⟨List.Pairwise.nil,λ_ hm=>(nomatch hm)⟩⟩,h2,h3,h4⟩
end Att
namespace L2
open PySem PySem.Spec PyProof.Rows
theorem xM:∀ {vs:List l?} {ns:List Int},IntsAre vs ns->Vals (ns.map V.int) vs
 | _,_,.nil=>.nil
 | _,_,.cons n t h=>.cons ⟨t,rfl⟩ (xM h)
def dB (s:Q?):Arguments:=match s with
 | .FunctionDef _ a _ _ _ _ _ _ _ _=>a
 | _=>{ posonlyargs:=[],args:=[],vararg:=q?,kwonlyargs:=[],kw_defaults:=[],kwarg:=q?,defaults:=[] }
def b7 (s:Q?):List Q?:=match s with
 | .FunctionDef _ _ b _ _ _ _ _ _ _=>b
 | _=>[]
def ao (s:Q?):Scope:=match s with
 | .FunctionDef _ _ _ _ _ _ sc _ _ _=>sc
 | _=>{ kind:=.function,names:=[],isGenerator:=false,isCoroutine:=false }
abbrev Dz:EB:=λ_ _ _ _ _ _=>False
abbrev E0:XK:=λ_ _ _=>False
theorem Pe {X:Cx}:Passes Dz X E0:=λ_ _ _ _ _ _ _ h=>h.elim
structure Jx (K:bG)(x qual:Str)(st:Q?)(f:o?)(fd:O!):Prop where
 ex:∃(oc:l?) (od:Option o?) (kV doc pm:l?) (an:Option o?) (cdv ct:l?) (osl:Array (Option l?)),
  fd=W? x qual (dB st) (b7 st) (ao st) .none kV doc pm an cdv ct/\K.lookup f=j? ⟨oc,od,.func fd,osl⟩/\PySem.W.codeIn K cdv qual=true
 kp:C! K (.ref f)=true
section
variable {P:F?} {w:H?} {K:bG} {mg:Str->Option l?} {base:O?}
theorem Jx.ok {x qual:Str}{st:Q?}{f:o?}{fd:O!}{N ps:List Str}{k:Nat}{sp:Sp}(F:Jx K x qual st f fd)(S:aI N ps (ao st))(len:∀vs H Q E,sp vs H Q E->vs.length=ps.length)
  (hbody:∀(cdv:l?) (A:A!) (outer:List Env) (s:u?) (H:Hp) (vs:List V) (Q:VK) (E:XK),fj k (A.deeper (envOfC qual (ao st) s.heap.objs.size f cdv))->sp vs H Q E->
   ∃t,z4 (oK Dz P w K mg base N qual (ao st) f cdv A outer s H E).Ll (b7 st) t/\t { nx:=λ_ H'=>Q .eO H',rt:=Q } (start N vs) H):kH P w K mg base Dz (k+1) f fd ps sp:=by
 obtain⟨oc,od,kV,doc,pm,an,cdv,ct,osl,rfl,lk,hcd⟩:=F.ex;refine Gd lk hcd S len λA outer s H vs Q E hr Jv=>?_
 obtain⟨t,h,q⟩:=hbody cdv A outer s H vs Q E hr Jv;exact⟨t,h.Ll,q⟩
theorem Jx.binds {x qual:Str}{st:Q?}{f:o?}{fd:O!}{ps:List Str}(F:Jx K x qual st f fd)
  (h:∀(kV doc pm:l?) (an:Option o?) (cdv ct:l?) (us:List l?),us.length=ps.length->bindArgs (W? x qual (dB st) (b7 st) (ao st) .none kV doc pm an cdv ct) ⟨us,[]⟩=pure (ps.zip us)):Binds K fd ps []:=by
 obtain⟨oc,od,kV,doc,pm,an,cdv,ct,osl,rfl,lk,hcd⟩:=F.ex;exact .all (h kV doc pm an cdv ct)
theorem u5 {x qual:Str}{st:Q?}{f:o?}{oc:l?}{od an:Option o?}{osl:Array (Option l?)}{kV doc pm cdv ct:l?}(l:K.lookup f=j? ⟨oc,od,.func (W? x qual (dB st) (b7 st) (ao st) .none kV doc pm an cdv ct),osl⟩)
  (c:P! K cdv qual=true) (k:C! K (.ref f)=true):Jx K x qual st f (W? x qual (dB st) (b7 st) (ao st) .none kV doc pm an cdv ct):=⟨⟨oc,od,kV,doc,pm,an,cdv,ct,osl,rfl,l,c⟩,k⟩
end
section
variable {X:Cx}
theorem pv (i:Nat){x:Str}{pos:Pos}(hN:X.N[i]?=j? x:=by rfl)(hv:N_ X.env.scope x:=by first|exact z? rfl|exact Or.inr (z? rfl)|exact Or.inr (Or.inr rfl))(hd:(x ==("__debug__":Str))=false:=by decide)
  (hcd:(x ==("__classdict__":Str))=false:=by decide):PE X (.Name x pos) (Mr i):=Ms hN hv hd hcd
end
theorem j7 {A B:Prop}(h:B):if false=true then A else B:=by
 rw[W6 E?];exact h
theorem j8 {A B:Prop}(h:A):if true=true then A else B:=by
 rw[W7 rfl];exact h
theorem fu {c A B:Prop}[Decidable c](h1:c->A)(h2:¬ c->B):if c then A else B:=by
 by_cases h:c
 ·rw[W7 h]
  exact h1 h
 ·rw[W6 h]
  exact h2 h
theorem om {c A B:Prop}[Decidable c](hc:c)(h:B):if (!decide c)=true then A else B:=by
 rw[W8 hc];exact j7 h
def aG (H H':Hp):Prop:=∀b o,H b=j? o->H' b=j? o
theorem aG.refl (H:Hp):aG H H:=λ_ _ h=>h
theorem aG.trans {H H1 H2:Hp}(a:aG H H1)(b:aG H1 H2):aG H H2:=λc o h=>b c o (a c o h)
theorem aG.free {H H':Hp}(e:aG H H'){l:o?}(h:H' l=Option.none):H l=Option.none:=by
 cases q:H l with
 | none=>rfl
 | some o=>
  rw[e l o q] at h;cases h
theorem aG.seq {K:bG}{H H':Hp}{a:o?}{xs:List V}(e:aG H H')(h:aN K H a xs):aN K H' a xs:=by
 rcases h with (h|⟨o,h⟩)|h
 ·exact .inl (.inl (e _ _ h))
 ·exact .inl (.inr ⟨o,e _ _ h⟩)
 ·exact .inr h
theorem fz {env:Env}:∀ {names:List (Str×NameKind)} {x:Str},names.lookup x=j? .free->
  (names.map λ(n,k)=>if (k == Z? && env.scope.kind == .function && env.kindOf n == j? .cell) then (n,K!) else (n,k)).lookup x=j? .free\/
  (names.map λ(n,k)=>if (k == Z? && env.scope.kind == .function && env.kindOf n == j? .cell) then (n,K!) else (n,k)).lookup x=j? .cell
 | [],_,h=>by simp at h
 | (n,k)::r,x,h=>by
  have ih:=@fz env r x;show List.lookup x ((if (k == Z? && env.scope.kind == .function && env.kindOf n == j? .cell)=true then (n,K!) else (n,k))::_)=_\/List.lookup x ((if (k == Z? && env.scope.kind == .function && env.kindOf n == j? .cell)=true then (n,K!) else (n,k))::_)=_
  cases hx:x == n with
  | true=>
   simp only[Y2,hx] at h
   cases h;by_cases hc:(Z? == Z? && env.scope.kind == .function && env.kindOf n == j? .cell)=true
   ·rw[W7 hc];exact .inr (by simp only[Y2,hx])
   ·rw[W6 hc];exact .inl (by simp only[Y2,hx])
  | false=>
   simp only[Y2,hx] at h
   by_cases hc:(k == Z? && env.scope.kind == .function && env.kindOf n == j? .cell)=true
   ·rw[W7 hc];simp only[Y2,hx];exact ih h
   ·rw[W6 hc];simp only[Y2,hx];exact ih h
theorem kK {env:Env}:∀ {names:List (Str×NameKind)} {x:Str} {kd:NameKind},(∀y∈names,y.2≠.cell)->kd=.cell\/kd=.free->
  (names.map λ(n,k)=>if (k == Z? && env.scope.kind == .function && env.kindOf n == j? .cell) then (n,K!) else (n,k)).lookup x=j? kd->names.lookup x=j? .free
 | [],_,_,_,_,h=>by simp at h
 | (n,k)::r,x,kd,hn,hk,h=>by
  have ih:=@kK env r x kd (λy hy=>hn y (Y3 _ hy)) hk
  have h':List.lookup x ((if (k == Z? && env.scope.kind == .function && env.kindOf n == j? .cell)=true then (n,K!) else (n,k))::(r.map λ(n,k)=>if (k == Z? && env.scope.kind == .function && env.kindOf n == j? .cell) then (n,K!) else (n,k)))=j? kd:=h
  have hkc:k≠.cell:=hn (n,k) Y8;by_cases hc:(k == Z? && env.scope.kind == .function && env.kindOf n == j? .cell)=true
  ·rw[W7 hc] at h'
   have hkf:k=.free:=by
    simp only[T?,beq_iff_eq] at hc
    exact hc.1.1
   subst hkf;cases hx:x == n with
   | true=>simp only[Y2,hx]
   | false=>simp only[Y2,hx] at h' ⊢;exact ih h'
  ·rw[W6 hc] at h'
   cases hx:x == n with
   | true=>
    simp only[Y2,hx] at h' ⊢
    have e:k=kd:=M? h';subst e;rcases hk with hk|hk
    ·exact Jd hk hkc
    ·rw[hk]
   | false=>simp only[Y2,hx] at h' ⊢;exact ih h'
def aO (cells:List (Str×o?)):List (Str×NameKind)->List (Str×o?)->List (Str×o?)
 | [],acc=>acc
 | (n,k)::r,acc=>aO cells r (if k=.free then match cells.lookup n with|some c=>(n,c)::acc|none=>acc else acc)
theorem gU {scope:Scope}{env:Env}(h:∀y∈scope.names,y.2=.free->∃c,env.cells.lookup y.1=j? c):closureFor scope env=pure (aO env.cells scope.names []):=by
 have go:∀(l:List (Str×NameKind)) (acc:List (Str×o?)),(∀y∈l,y.2=.free->∃c,env.cells.lookup y.1=j? c)->
   (forIn l acc λx (r:List (Str×o?))=>(match x with|(name,kind)=>if (kind == Z?)=true then do let c <- cellOf env name;pure (ForInStep.yield ((name,c)::r)) else pure (ForInStep.yield r):Sem (ForInStep (List (Str×o?)))))=pure (aO env.cells l acc):=by
  intro l;induction l with
  | nil=>intro acc _;rfl
  | cons x l ih=>
   intro acc hl;obtain⟨n,k⟩:=x;rw[List.forIn_cons];by_cases hk:k=.free
   ·subst hk
    obtain⟨c,hc⟩:=hl (n,.free) Y8 rfl;have e1:cellOf env n=pure c:=by unfold cellOf;rw[hc]
    simp only[beq_self_eq_true,if_true,e1,pure_bind]
    rw[ih _ λy hy=>hl y (Y3 _ hy)]
    show _=pure (aO env.cells l (if Z?=.free then match env.cells.lookup n with|some c=>(n,c)::acc|none=>acc else acc))
    rw[W7 rfl,hc]
   ·have hb:(k == Z?)=false:=by simpa using hk
    simp only[hb,Bool.false_eq_true,if_false,pure_bind]
    rw[ih _ λy hy=>hl y (Y3 _ hy)]
    show _=pure (aO env.cells l (if k=.free then _ else acc))
    rw[W6 hk]
 unfold closureFor;have:=go scope.names [] h
 simp only[bind_pure_comp] at this ⊢
 first
  | exact this
  | simpa using this
theorem jJ {cells:List (Str×o?)}{x:Str}{c:o?}:∀(l:List (Str×NameKind)) (acc:List (Str×o?)),(∀d,acc.lookup x=j? d->cells.lookup x=j? d)->(aO cells l acc).lookup x=j? c->cells.lookup x=j? c
 | [],acc,h,e=>h c e
 | (n,k)::r,acc,h,e=>by
  refine jJ r _ (λd hd=>?_) e
  split at hd
  ·split at hd
   ·rename_i c' hc'
    cases hx:x == n with
    | true=>
     simp only[Y2,hx] at hd
     have:x=n:=by simpa using hx
     subst this;rw[hc'];exact hd
    | false=>simp only[Y2,hx] at hd;exact h d hd
   ·exact h d hd
  ·exact h d hd
theorem fO {cells:List (Str×o?)}{x:Str}{c:o?}(hc:cells.lookup x=j? c):∀(l:List (Str×NameKind)) (acc:List (Str×o?)),(acc.lookup x=j? c\/(x,Z?)∈l)->(∀d,acc.lookup x=j? d->d=c)->(aO cells l acc).lookup x=j? c
 | [],acc,h,_=>by
  rcases h with h|h
  ·exact h
  ·cases h
 | (n,k)::r,acc,h,u=>by
  by_cases hk:k=.free
  ·subst hk
   show(aO cells r (if Z?=.free then match cells.lookup n with|some c=>(n,c)::acc|none=>acc else acc)).lookup x=j? c
   rw[W7 rfl];by_cases hx:x=n
   ·subst hx
    rw[hc];refine fO hc r _ (.inl (by simp)) λd hd=>?_
    simp at hd
    exact hd.symm
   ·have hb:(x == n)=false:=by simpa using hx
    have keep:∀(a2:List (Str×o?)),(match cells.lookup n with|some c=>(n,c)::acc|none=>acc)=a2->a2.lookup x=acc.lookup x:=by
     intro a2 e;subst e;cases cells.lookup n with
     | none=>rfl
     | some c'=>simp only[Y2,hb]
    refine fO hc r _ ?_ λd hd=>u d (by rw[keep _ rfl] at hd;exact hd)
    rcases h with h|h
    ·exact .inl (by rw[keep _ rfl];exact h)
    ·rcases List.mem_cons.mp h with h|h
     ·exact Jd (Jb Prod.fst h) hx
     ·exact .inr h
  ·show(aO cells r (if k=.free then _ else acc)).lookup x=j? c
   rw[W6 hk];refine fO hc r _ ?_ u
   rcases h with h|h
   ·exact .inl h
   ·rcases List.mem_cons.mp h with h|h
    ·exact Jd (Jb Prod.snd h).symm hk
    ·exact .inr h
abbrev fC (X:Cx)(N:List Str)(scope:Scope)(cl:List (Str×o?))(C:o?)(s2:u?)(H2:Hp)(fp:List o?):Cx:=
 { X with N:=N,s₀:=s2,H₀:=H2,env:=compEnvC scope cl C X.env,outer:=X.stack,ex:=fp,fn:=λ_=>false,pn:=[],xe:=λ_ _=>False }
def fk (sl:List (Option Nat))(σ:St):St:=sl.map λo=>match o with|some i=>(σ[i]?).join|none=>q?
structure a_ (X:Cx)(N:List Str)(sl:List (Option Nat))(scope:Scope):Prop where
 kind:scope.kind=.function
 rP:∀y∈scope.names,y.2≠.cell
 locs:∀y∈scope.names,y.2=.local->scope.names.lookup y.1=j? .local
 frees:∀y∈scope.names,y.2=.free->X.env.kindOf y.1=j? .cell\/X.env.kindOf y.1=j? .free
 len:sl.length=N.length
 out:∀(j i:Nat) (x:Str),N[j]?=j? x->sl[j]?=j? (j? i)->X.N[i]?=j? x/\scope.names.lookup x=j? .free
def Ls (X:Cx)(ifs:List Expr)(t:TT):Prop:=
 ∀(pins:List (o?×Obj)) (s:u?) (σ:St) (H:Hp) (Q:Bool->Hp->Prop),Inv X pins σ H s->t σ H Q->
  L? (S? X.prog X.w) X.A (forIn ifs true λc r=>if r=true then do let ok <- isTrue c X.env (eval c X.env);pure (ForInStep.yield ok) else pure (ForInStep.yield r)) (TP X pins σ Q) X.xe s
def JX:TT:=λ_ H Q=>Q true H
theorem aP {X:Cx}:Ls X [] JX:=λpins s σ H Q I h=>by
 rw[List.forIn_nil];exact J? ⟨H,I,h⟩
theorem JY {X:Cx}{c:Expr}{t:TT}(h:PT X c t):Ls X [c] t:=λpins s σ H Q I q=>by
 rw[List.forIn_cons];refine B? ?_
 rw[W7 rfl];refine B? (eB (h pins s σ H Q I q) λb s1 r=>J? ?_)
 show L? _ _ (forIn [] b _) _ _ _
 rw[List.forIn_nil];exact J? r
def tQ (J:It)(D:o?)(st:St)(g:TG)(nT:TT)(te:TE)(Q:VK)(H1:Hp):Prop:=∃W:Nat->Nat->Hp->Prop,
 (∃m,W 0 m (upd H1 D (.lst [])))/\∀i m H2,W i m H2->
  (J.stop i H2/\Q (.ref D) H2)\/(J.go i H2/\∀x H',J.MA i H2 x H'->g x st H' λσ3 H3=>nT σ3 H3 λb H4=>
   if b=true then te σ3 H4 λy H5=>∃ys,H5 D=j? (.lst ys)/\ys.length<K?/\∃m',m'<m/\W (i+1) m' (upd H5 D (.lst (ys++[y]))) else ∃m',m'<m/\W (i+1) m' H4)
def xN (wi:TI)(sl:List (Option Nat))(g:TG)(nT:TT)(te:TE):TE:=λσ H Q=>wi σ H λJ H1=>∀D,H1 D=q?->tQ J D (fk sl σ) g nT te Q H1
section
variable {X:Cx} {N:List Str} {sl:List (Option Nat)} {scope:Scope}
theorem tR {σ:St}{j:Nat}{v:V}(h:(fk sl σ)[j]?=j? (j? v)):∃i,sl[j]?=j? (j? i)/\σ[i]?=j? (j? v):=by
 unfold fk at h;rw[Ye] at h;cases e:sl[j]? with
 | none=>rw[e] at h;cases h
 | some o=>
  rw[e] at h;cases o with
  | none=>cases h
  | some i=>
   refine⟨i,rfl,?_⟩
   have h':(σ[i]?).join=j? v:=M? h;cases e2:σ[i]? with
   | none=>rw[e2] at h';cases h'
   | some q=>rw[e2] at h';exact Jb j? h'
theorem a_.clos (S:a_ X N sl scope)(ok:X.Ok):closureFor scope X.env=pure (aO X.env.cells scope.names []):=
 gU λy hy hf=>ok.has y.1 (S.frees y hy hf)
theorem a_.cell (S:a_ X N sl scope)(ok:X.Ok){x:Str}(hf:scope.names.lookup x=j? .free){c:o?}(hc:X.env.cells.lookup x=j? c):(aO X.env.cells scope.names []).lookup x=j? c:=
 fO hc _ _ (.inr (U? hf)) λd hd=>by simp at hd
theorem a_.back {x:Str}{c:o?}(h:(aO X.env.cells scope.names []).lookup x=j? c):X.env.cells.lookup x=j? c:=
 jJ _ _ (λd hd=>by simp at hd) h
theorem a_.ok (S:a_ X N sl scope){pins:List (o?×Obj)}{σ:St}{H2:Hp}{s2:u?}{fp:List o?}{C:o?}(I:Inv X pins σ H2 s2)(hf:∀b∈fp,jy X pins H2 b)(hlt:∀b∈fp,b<s2.heap.objs.size)(hC:s2.heap.objs.size<=C):
  (fC X N scope (aO X.env.cells scope.names []) C s2 H2 fp).Ok where
 mod:=I.ok.mod
 kind:=S.kind
 glob:=I.ok.glob
 blt:=I.ok.blt
 above:=hC
 inj:=λx y c h1 h2=>I.ok.inj x y c (a_.back h1) (a_.back h2)
 has:=λx hx=>by
  have hx':scope.names.lookup x=j? .free:=by
   rcases hx with hx|hx
   ·exact kK S.rP (.inl rfl) hx
   ·exact kK S.rP (.inr rfl) hx
  obtain⟨c,hc⟩:=I.ok.has x (S.frees _ (U? hx') rfl);exact⟨c,S.cell I.ok hx' hc⟩
 Lh:=λx c h=>Jd (show false=true from h) E?
 hd:=I.ok.hd
 frames:=I.ok.frames
 stk:=.inl rfl
 Oa:=λb hb=>⟨Yp (Yh (hlt b hb) hC),λx c h=>(hf b hb).2.2.2.2.1 x c (a_.back h)⟩
 bs:=I.bs
 Dl:=Ym I.ok.Dl I.sz
 zX:=λb o e hb=>by
  rcases (hf b hb).2.2.2.1 with z|z
  ·exact I.ok.zX b o e z
  ·exact Jd (Yh (Yh (Yl e) I.ok.Dl) z) (Zs _)
 zY:=λb hb z=>by
  rcases List.mem_cons.mp (I.rG b z) with e|e
  ·exact(hf b hb).2.1 e
  ·exact(hf b hb).2.2.1 e
 mh:=I.stack
 F1:=I.uq
theorem a_.again (S:a_ X N sl scope){pins:List (o?×Obj)}{σ:St}{H2:Hp}{s2:u?}{fp:List o?}{C:o?}(I:Inv X pins σ H2 s2)(hf:∀b∈fp,jy X pins H2 b)
  {tM:List (o?×Obj)} {σ':St} {H':Hp} {s':u?} (J:Inv (fC X N scope (aO X.env.cells scope.names []) C s2 H2 fp) tM σ' H' s'):
  Inv (fC X N scope (aO X.env.cells scope.names []) C s2 H2 fp) tM (fk sl σ) H' s':=by
 obtain⟨m,hn,_⟩:=J.loc;refine⟨J.ok,J.os,J.bare,J.base,⟨m,hn,λj x v e1 e2 _=>?_⟩,J.cell,J.free,J.iN,J.pin,J.hok,?_⟩
 ·obtain⟨i,h1,h2⟩:=tR e2
  obtain⟨hN,hfree⟩:=S.out j i x e1 h1;have hk:=S.frees _ (U? hfree) rfl;obtain⟨m0,hn0,Gj⟩:=I.loc;have hv:N_ X.env.scope x:=by
   rcases hk with hk|hk
   ·exact .inr (.inl hk)
   ·exact .inr (.inr hk)
  obtain⟨u,r,l⟩:=Gj i x v hN h2 hv;refine⟨u,r,.inr ⟨?_,?_⟩⟩
  ·rcases fz (env:=X.env) hfree with z|z
   ·exact .inr z
   ·exact .inl z
  ·rcases l with ⟨z,_⟩|⟨_,c,hc,q⟩
   ·rcases hk with hk|hk
    ·have hk':X.env.kindOf x=j? .cell:=hk
     rw[hk'] at z;cases z
    ·have hk':X.env.kindOf x=j? .free:=hk
     rw[hk'] at z;cases z
   ·refine⟨c,S.cell I.ok hfree hc,?_⟩
    obtain⟨o,ho,hd⟩:=q;have MM:c ∉ fp:=λz=>(hf c z).2.2.2.2.1 x c hc rfl
    obtain⟨OM,e⟩:=J.base.any ho (I.iN x c hc) MM;exact⟨_,e,hd⟩
 ·unfold fk
  rw[Ya];exact S.len
theorem Ab {elt tg iter:Expr}{ifs:List Expr}{pos pos2:Pos}{wi:TI}{g:TG}{nT:TT}{te:TE}{use:Option (l?->Sem Unit)}{QQ:l?->u?->Prop}(S:a_ X N sl scope)(j9:X.calm=true)(hi:PI X tg iter wi)
  (hg:∀cl C s2 H2 fp,PG (fC X N scope cl C s2 H2 fp) tg g) (hif:∀cl C s2 H2 fp,Ls (fC X N scope cl C s2 H2 fp) ifs nT) (he:∀cl C s2 H2 fp,PE (fC X N scope cl C s2 H2 fp) elt te)
  (hs:∀x,foldedSetIterable iter X.env x=pure x) {pins:List (o?×Obj)} {s:u?} {σ:St} {H:Hp} {Q:VK} (I:Inv X pins σ H s) (h:xN wi sl g nT te σ H Q)
  (hend:∀(D C:o?) (H3:Hp) (s4:u?) (fl:Flow),Inv X pins σ H3 s4->H3 C=q?->C≠X.env.locals->C ∉ X.fs->X.s₀.heap.objs.size<=C->(∀x c,X.env.cells.lookup x=j? c->c≠C)->(∀p∈X.pn++pins,p.1≠C)->(∃m,s4.heap.Ns C m)->Q (.ref D) H3->
   compPost (S? X.prog X.w) X.A X.xe use QQ (.ref D) C (.ok fl) s4):
  L? (S? X.prog X.w) X.A (comprehension (.ListComp elt [⟨tg,iter,ifs,0⟩] scope pos) scope X.env pos2 (newList []) false (eval iter X.env) use) QQ X.xe s:=by
 refine wpAny_comprehension_free (use:=use) rfl hs (S.clos I.ok) S.kind S.locs (B! (hi pins s σ H _ I h) (λxv s1 h1=>B! h1 (λitv s2 h2=>?_) λ_ _ e=>e) λ_ _ e=>e)
 obtain⟨it,fp,tn,J,H2,rfl,I2,T,st2,f2,hR⟩:=h2;obtain⟨W,⟨m0,w0⟩,turn⟩:=hR _ I2.fresh;refine wpAny_newObj_type (wpAny_newFunctionEnv S.rP (by intro y hy;simp at hy) (λh₁ u6 yG=>?_) S.kind)
 dsimp only at u6 yG ⊢
 generalize hP:s2.heap.push { cls:=.type "list",dict:=q?,data:=.seq ([]:List l?).toArray }=P2 at u6 yG ⊢;have hC:P2.objs.size=s2.heap.objs.size+1:=by rw[<- hP,Heap.size_push]
 have hDC:s2.heap.objs.size≠P2.objs.size:=by rw[hC];exact Yp (Nat.lt_succ_self _)
 have rQ:s2.heap.objs.size<=P2.objs.size:=by rw[hC];exact W4 _
 have hlt:∀b∈fp,b<s2.heap.objs.size:=λb hb=>let ⟨o,e,_⟩:=T.obj 0 _ st2 b hb;Yl e
 have old:∀b o,s2.heap.get? b=j? o->h₁.get? b=j? o:=λb o e=>yG.extBut b o (Yp (Yh (Yl e) rQ)) (Yg _ (hP ▸ Yg _ e))
 have Sn:h₁.get? s2.heap.objs.size=j? { cls:=.type "list",dict:=q?,data:=.seq ([]:List l?).toArray }:=yG.extBut _ _ hDC (Yg _ (hP ▸ Y1 _ rfl));have hok:=S.ok (C:=P2.objs.size) I2 f2 hlt rQ;have MN:tL X.prog X.w (upd H2 s2.heap.objs.size (.lst [])) h₁:=I2.hok.laid old (Yd _) ⟨Yw _,[],_,.nil,Sn⟩;have So:Un (frs X.stack) fp H2 (upd H2 s2.heap.objs.size (.lst [])) s2.heap h₁:=Un.laid old (Yd _) I2.fresh;have BE:∀x c,(aO X.env.cells scope.names []).lookup x=j? c->∃v,h₁.IsCell c v:=λx c hc=>by
  obtain⟨v,o,ho,hd⟩:=I2.cell x c (a_.back hc);exact⟨v,o,old c o ho,hd⟩
 have BF:∀x c,(aO X.env.cells scope.names []).lookup x=j? c->upd H2 s2.heap.objs.size (.lst []) c=q?:=λx c hc=>by
  obtain⟨v,q⟩:=I2.cell x c (a_.back hc);rw[aL (Yp q.lt)];exact I2.iN x c (a_.back hc)
 have BG:upd H2 s2.heap.objs.size (.lst []) P2.objs.size=q?:=by
  rw[aL (Ne.symm hDC)];exact I2.hok.fresh rQ
 have start:∀tk:Nat,Inv (fC X N scope (aO X.env.cells scope.names []) P2.objs.size s2 H2 fp) [] (fk sl σ) (upd H2 s2.heap.objs.size (.lst [])) { s2 with heap:=h₁,toks:=tk }:=λtk=>by
  have J0:Inv (fC X N scope (aO X.env.cells scope.names []) P2.objs.size s2 H2 fp) [] (Yn N.length q?) (upd H2 s2.heap.objs.size (.lst [])) { s2 with heap:=h₁,toks:=tk }:=
   ⟨hok,rfl,I2.bare,So,⟨_,u6,λi x v e1 e2 _=>by
    rw[List.getElem?_replicate] at e2;split at e2 <;> cases e2⟩,BE,BG,BF,λp hp=>Jd (show p∈([]:List (o?×Obj)) from hp) (by simp),MN,by simp⟩
  exact S.again I2 f2 J0
 have stK:tn 0 h₁:=T.keep _ _ _ st2 λb hb o e=>old b o e
 have Sq:∀b∈fp,upd H2 s2.heap.objs.size (.lst []) b=q?:=λb hb=>by
  rw[aL (Yp (hlt b hb))];exact(f2 b hb).1
 have uT:∀ {H':Hp},(∀b∈fp,H' b=q?)->∀b∈fp,jy (fC X N scope (aO X.env.cells scope.names []) P2.objs.size s2 H2 fp) [] H' b:=λhn b hb=>
  ⟨hn b hb,Yp (Yh (hlt b hb) rQ),λz=>hok.zY b hb z,.inl hb,λx c hc=>(hok.Oa b hb).2 x c hc,λp hp=>Jd (show p∈([]:List (o?×Obj)) from hp) (by simp)⟩
 have loop:∀tk:Nat,codeAny (S? X.prog X.w) X.A (.compLoop (.ListComp elt [⟨tg,iter,ifs,0⟩] scope pos) 0 (.ref it) (.ref s2.heap.objs.size) (compEnvC scope (aO X.env.cells scope.names []) P2.objs.size X.env))
   (compPost (S? X.prog X.w) X.A X.xe use QQ (.ref s2.heap.objs.size) P2.objs.size) { s2 with heap:=h₁,toks:=tk }:=λtk=>by
  refine codeAny_loop rfl (λn s'=>∃i H',Inv (fC X N scope (aO X.env.cells scope.names []) P2.objs.size s2 H2 fp) [] (fk sl σ) H' s'/\tn i s'.heap/\(∀b∈fp,H' b=q?)/\W i n H') ?_ m0 ⟨0,_,start tk,stK,Sq,w0⟩
  rintro n s3 ⟨i,H3,I3,st3,Lo,w3⟩;show L? _ X.A ((compTurn (.ListComp elt [⟨tg,iter,ifs,0⟩] scope pos) 0 (.ref it) (.ref s2.heap.objs.size) (compEnvC scope (aO X.env.cells scope.names []) P2.objs.size X.env)).onRaise (λx=>do noteFrame x (compEnvC scope (aO X.env.cells scope.names []) P2.objs.size X.env);theTreesLotGoes x)) _ _ s3
  refine wpAny_noted ?_
  rw[compTurn_list];rcases turn i n H3 w3 with ⟨stop,qn⟩|⟨go,step⟩
  ·refine B? (wpAny_standAt (B? (B! (T.done (fC X N scope (aO X.env.cells scope.names []) P2.objs.size s2 H2 fp) rfl rfl rfl j9 i [] s3 _ H3 _ I3 (uT Lo) st3 stop) (λr s4 ⟨hr,I4⟩=>?_) λ_ _ z=>z)))
   subst hr;refine J? ?_
   obtain⟨m4,Ss,_⟩:=I4.loc;have u0:Un (frs X.stack) fp H2 H3 s2.heap s4.heap:=I4.base;have hI:Inv X pins σ H3 s4:=I2.F2 (s':=s4) (ch:=fp) I4.os u0 I4.hok I4.bare λb hb=>⟨(f2 b hb).2.2.2.1,(f2 b hb).2.1,(f2 b hb).2.2.2.2.1,(f2 b hb).2.2.2.2.2⟩
   have JZ:=I2.uR (H':=H3) rQ I4.free;exact hend _ _ H3 s4 _ hI I4.free JZ.2.1 JZ.2.2.1 (Ym I2.sz rQ) JZ.2.2.2.2.1 JZ.2.2.2.2.2 ⟨m4,Ss⟩ qn
  ·refine B? (wpAny_standAt (B? (B! (T.item (fC X N scope (aO X.env.cells scope.names []) P2.objs.size s2 H2 fp) rfl rfl rfl j9 i [] s3 _ H3 (λ_ _=>False) I3 (uT Lo) st3 go) (λr s4 ⟨u,hr,h4⟩=>?_) λ_ _ z=>z.elim)))
   subst hr;refine B? (B! h4 (λ_ s5 ⟨x,H5,I5,r5,y5,F7,O0⟩=>?_) λ_ _ z=>z.elim)
   have O1:=I5.pinned (uT O0) (T.obj _ _ F7);refine B? (B! (hg _ _ _ _ _ _ s5 _ H5 x u _ O1 r5 (step x H5 y5)) (λ_ s6 ⟨σ6,H6,I6,q6⟩=>?_) λ_ _ z=>(show False from z).elim)
   have again:∀ {σ7:St} {H7:Hp} {s7:u?},Inv (fC X N scope (aO X.env.cells scope.names []) P2.objs.size s2 H2 fp) ([]++rM fp s5.heap) σ7 H7 s7->(∃m',m'<n/\W (i+1) m' H7)->
     ∃m',m'<n/\∃i H',Inv (fC X N scope (aO X.env.cells scope.names []) P2.objs.size s2 H2 fp) [] (fk sl σ) H' s7/\tn i s7.heap/\(∀b∈fp,H' b=q?)/\W i m' H':=λ{σ7 H7 s7} I7 ⟨m',hm,w7⟩=>by
    refine⟨m',hm,i+1,H7,S.again I2 f2 I7.j5,T.keep _ _ _ F7 λb hb o e=>(I7.pin (b,o) (Ys _ (Ys _ (eT hb e)))).1,λb hb=>?_,w7⟩
    obtain⟨o,e,d⟩:=T.obj _ _ F7 b hb;exact(I7.pin (b,o) (Ys _ (Ys _ (eT hb e)))).2.1
   refine B? (B! (hif _ _ _ _ _ _ s6 σ6 H6 _ I6 q6) (λok s7 ⟨H7,I7,q7⟩=>?_) λ_ _ z=>(show False from z).elim)
   cases ok with
   | false=>
    exact J? ⟨rfl,again I7 (by simpa using q7)⟩
   | true=>
    rw[W7 rfl] at q7;refine B? (B? (B! ((he _ _ _ _ _).out _ s7 σ6 H7 _ I7 q7) (λy s8 ⟨yv,H8,I8,r8,ys,hys,hlen,w8⟩=>?_) λ_ _ z=>(show False from z).elim))
    refine B? (B! (dU (X:=fC X N scope (aO X.env.cells scope.names []) P2.objs.size s2 H2 fp) _ s8 σ6 H8 (.ref s2.heap.objs.size) [yv] (.ref s2.heap.objs.size) [y]
     (λv H9=>v=.eO/\∃m',m'<n/\W (i+1) m' H9) I8 rfl (.cons r8 .nil) ⟨_,ys,yv,rfl,rfl,hys,hlen,rfl,w8⟩) (λr s9 ⟨v9,H9,I9,r9,e9,w9⟩=>?_) λ_ _ z=>(show False from z).elim)
    exact J? (J? ⟨rfl,again I9 w9⟩)
 exact codeAny_compStart_list (loop _) (T.self _ 0 _ _ _ stK (loop _))
theorem bM {elt tg iter:Expr}{ifs:List Expr}{pos:Pos}{wi:TI}{g:TG}{nT:TT}{te:TE}(S:a_ X N sl scope)(j9:X.calm=true)(hi:PI X tg iter wi)
  (hg:∀cl C s2 H2 fp,PG (fC X N scope cl C s2 H2 fp) tg g) (hif:∀cl C s2 H2 fp,Ls (fC X N scope cl C s2 H2 fp) ifs nT) (he:∀cl C s2 H2 fp,PE (fC X N scope cl C s2 H2 fp) elt te)
  (hs:∀x,foldedSetIterable iter X.env x=pure x:=by intro _;rfl):
  PE X (.ListComp elt [⟨tg,iter,ifs,0⟩] scope pos) (xN wi sl g nT te):=by
 refine⟨?_⟩
 intro pins s σ H Q I h;rw[eval_ListComp];refine Ab S j9 hi hg hif he hs I h λD C H3 s4 fl I4 n1 n2 n3 n4 n5 n6 ⟨m,hn⟩ q=>?_
 exact⟨m,hn,λh' Jy=>⟨.ref D,H3,I4.turned (t':=s4.toks) (λb o hb e=>(Jy.2 b hb).trans e) n1 n2 (.inr n4) n5 n6,rfl,q⟩⟩
theorem jC {i:Nat}{x:Str}{elt tg iter:Expr}{ifs:List Expr}{cpos pos pos':Pos}{wi:TI}{g:TG}{nT:TT}{te:TE}(hN:X.N.Nodup)(hi':X.N[i]?=j? x)(hx:Loc X.env.scope x)(S:a_ X N sl scope)(j9:X.calm=true)(hi:PI X tg iter wi)
  (hg:∀cl C s2 H2 fp,PG (fC X N scope cl C s2 H2 fp) tg g) (hif:∀cl C s2 H2 fp,Ls (fC X N scope cl C s2 H2 fp) ifs nT) (he:∀cl C s2 H2 fp,PE (fC X N scope cl C s2 H2 fp) elt te)
  (hsw:swapsWith (.ListComp elt [⟨tg,iter,ifs,0⟩] scope cpos) (j? (.Name x pos')) pos.line X.env=pure true:=by rfl)
  (hs:∀x,foldedSetIterable iter X.env x=pure x:=by intro _;rfl) (hf:X.fn x=true\/X.env.scope.names.lookup x=j? .local:=by first|exact .inl rfl|exact .inr rfl|assumption):
  PS X (.Assign [.Name x pos'] (.ListComp elt [⟨tg,iter,ifs,0⟩] scope cpos) pos) (JH (xN wi sl g nT te) (iO i)):=by
 refine⟨?_⟩
 intro pins s σ H D0 I h;rw[exec_Assign_Name_used _ _ _ _ hsw];refine B? (wpAny_standAt (B? ?_))
 show L? _ X.A (do let _ <- comprehension (.ListComp elt [⟨tg,iter,ifs,0⟩] scope cpos) scope X.env _ (newList []) false (eval iter X.env) (j? (assign (.Name x pos') X.env))) _ _ s
 refine B? (B! (Ab (QQ:=λ_ s'=>∃σ' H',Inv X pins σ' H' s'/\D0.nx σ' H') (use:=j? (assign (.Name x pos') X.env)) S j9 hi hg hif he hs I h λD C H3 s4 fl I4 n1 n2 n3 n4 n5 n6 hm q=>?_)
  (λ_ s' hq=>J? (J? hq)) λ_ _ e=>e)
 obtain⟨m,hn⟩:=hm;show L? _ X.A (assign (.Name x pos') X.env (.ref D)) _ _ _
 refine wpAny_assign_Name (rH I4 hN hi' hx (show RelV (.ref D) (.ref D) from rfl) (λs5 I5 ⟨a,Jy,ha⟩=>?_) hf)
 have Su:C≠a:=by
  rcases ha with rfl|ha
  ·exact n2
  ·exact λz=>n5 _ _ ha z.symm
 refine⟨m,hn.sameBut Jy Su,λh' MO=>⟨_,H3,I5.turned (t':=s5.toks) (λb o hb e=>(MO.2 b hb).trans e) n1 n2 (.inr n4) n5 n6,q⟩⟩
end
section
variable {X:Cx}
def lQ (i j:Int):Prop:=IntMulOk i j
def xO (i j:Int):Prop:=j≠0/\j.natAbs<2 ^ 9000
theorem xO.py {i j:Int}(h:xO i j):Builtin.divisionGoesByPylong i j=false:=by
 refine PyProof.noPylong_of_log2 ?_
 have h0:j.natAbs≠0:=λz=>h.1 (Int.natAbs_eq_zero.mp z)
 exact(Nat.log2_lt h0).mpr h.2
theorem aT:oj X (binaryOp .Mult) (rI lQ λi j=>.int (i*j)):=Rk λ_ _ _ _ _ _ _ hc q=>mul_int q hc
theorem bE:oj X (binaryOp .FloorDiv) (rI xO λi j=>.int (i.fdiv j)):=Rk λ_ _ _ _ _ _ _ hc q=>floordiv_int hc.1 q (.inl hc.py)
theorem DA {a b:Int}{m n:Nat}(ha:a.natAbs<2 ^ m)(hb:b.natAbs<2 ^ n)(h:m+n<=134217728):lQ a b:=
 IntMulOk.of_le (intBits_le_iff.mpr ha) (intBits_le_iff.mpr hb) h
theorem gD {a b:Int}(h1:-(2 ^ 64)<a)(h2:a<2 ^ 64):lQ a b:=.of_left (intBits_le_64 h1 h2)
theorem kL {a b:Int}(h1:-(2 ^ 64)<b)(h2:b<2 ^ 64):lQ a b:=.of_right (intBits_le_64 h1 h2)
def isPlain:V->Bool
 | .eO=>true
 | .bl _=>true
 | _=>false
theorem RelV.xP {x y:V}{v u:l?}(rx:RelV x v)(ry:RelV y u)(hy:isPlain y=true):plainIs v u=true/\(v == u)=decide (x=y):=by
 cases y with
 | eO=>
  cases ry;cases x <;> first|(cases rx;exact⟨rfl,rfl⟩)|(obtain⟨t,rfl⟩:=rx;exact⟨rfl,rfl⟩)
 | bl b=>
  cases ry;cases x with
  | bl c=>
   cases rx;refine⟨rfl,?_⟩
   cases b <;> cases c <;> rfl
  | eO=>cases rx;exact⟨rfl,rfl⟩
  | ref a=>cases rx;exact⟨rfl,rfl⟩
  | ty n=>cases rx;exact⟨rfl,rfl⟩
  | int _=>obtain⟨t,rfl⟩:=rx;exact⟨rfl,rfl⟩
  | str _=>obtain⟨t,rfl⟩:=rx;exact⟨rfl,rfl⟩
  | byt _=>obtain⟨t,rfl⟩:=rx;exact⟨rfl,rfl⟩
  | flt _=>obtain⟨t,rfl⟩:=rx;exact⟨rfl,rfl⟩
 | _=>exact Jd (show false=true from hy) E?
theorem Lu:oj X (J! .Is) (λx y H Q=>isPlain y=true/\Q (.bl (decide (x=y))) H):=by
 intro pins s σ H x y v u Q I rx ry h;obtain⟨hy,q⟩:=h;obtain⟨p,e⟩:=rx.xP ry hy;exact wpAny_is_plain p (bZ I q e.symm)
theorem Gk:oj X (J! .IsNot) (λx y H Q=>isPlain y=true/\Q (.bl (!decide (x=y))) H):=by
 intro pins s σ H x y v u Q I rx ry h;obtain⟨hy,q⟩:=h;obtain⟨p,e⟩:=rx.xP ry hy;exact wpAny_isNot_plain p (bZ I q (Jb not e.symm))
inductive DB (K:bG)(H:Hp):V->String->Prop where
 | eO:DB K H .eO "NoneType"
 | bl (x:Bool):DB K H (.bl x) "bool"
 | int (i:Int):DB K H (.int i) "int"
 | str (x:Str):DB K H (.str x) "str"
 | lst {a:o?} {xs:List V} (e:aN K H a xs):DB K H (.ref a) "list"
 | tup {a:o?} {xs:List V} (e:kG K H a xs):DB K H (.ref a) "tuple"
theorem Ac:i7 X (.builtin "isinstance") (λxs H Q=>∃x T T' b,xs=[x,.ty T']/\DB X.K H x T/\PySem.W.kitOne X.K (.type T) (.type T')=j? b/\Q (.bl b) H):=by
 intro pins s σ H xs us Q I rv h;obtain⟨x,T,T',b,rfl,ty,e,q⟩:=h;obtain⟨u,w',rfl,rx,rt⟩:=vals2 rv;obtain rfl:w'=Value.type T':=rt
 have fin:∀tk,EP X pins σ Q (.bool b) { s with toks:=tk }:=λtk=>⟨.bl b,H,I.tok tk,rfl,q⟩
 cases ty with
 | eO=>cases (show u=Value.none from rx);exact PySem.W.kia_one PySem.W.kitx_none I.Dm True.intro e (λz=>nomatch z) fin
 | bl y=>cases (show u=Value.bool y from rx);exact PySem.W.kia_one PySem.W.kitx_bool I.Dm True.intro e (λz=>nomatch z) fin
 | int i=>obtain⟨t,q'⟩:=(show ∃t,u=Value.int i t from rx);cases q';exact PySem.W.kia_one PySem.W.kitx_int I.Dm True.intro e (λz=>nomatch z) fin
 | str y=>obtain⟨t,q'⟩:=(show ∃t,u=Value.str y t from rx);cases q';exact PySem.W.kia_one PySem.W.kitx_str I.Dm True.intro e (λz=>nomatch z) fin
 | @lst a ys ea=>
  cases (show u=I! a from rx)
  obtain⟨its,_,⟨o,n,h1,h2,_⟩,_⟩:=I.list ea;exact PySem.W.kia_one PySem.W.kitx_list I.Dm ⟨o,h1,h2⟩ e (λz=>nomatch z) fin
 | @tup a ys ea=>
  cases (show u=I! a from rx)
  obtain⟨its,_,⟨o,h1,h2,_⟩,_⟩:=I.tuple ea;exact PySem.W.kia_one PySem.W.kitx_tuple I.Dm ⟨o,h1,h2⟩ e (λz=>nomatch z) fin
inductive Den (K:bG)(H:Hp):V->N!->Prop where
 | eO:Den K H .eO .none
 | bl (b:Bool):Den K H (.bl b) (.bool b)
 | int (i:Int):Den K H (.int i) (.int i)
 | str (x:Str):Den K H (.str x) (.str x)
 | lst {a:o?} {xs:List V} {ds:List N!}:aN K H a xs->xs.length=ds.length->(∀(i:Nat) x d,xs[i]?=j? x->ds[i]?=j? d->Den K H x d)->Den K H (.ref a) (.list ds)
 | tup {a:o?} {xs:List V} {ds:List N!}:kG K H a xs->xs.length=ds.length->(∀(i:Nat) x d,xs[i]?=j? x->ds[i]?=j? d->Den K H x d)->Den K H (.ref a) (.tuple ds)
theorem mC {h:O?}:∀ {us:List l?} {ds:List N!},us.length=ds.length->(∀(i:Nat) u d,us[i]?=j? u->ds[i]?=j? d->∃as,Reads h u d as)->∃as,ReadsAll h us ds as
 | [],[],_,_=>⟨[],.nil⟩
 | [],_::_,e,_=>by simp at e
 | _::_,[],e,_=>by simp at e
 | u::us,d::ds,e,f=>by
  obtain⟨as,r⟩:=f 0 u d rfl rfl;obtain⟨bs,rs⟩:=mC (us:=us) (ds:=ds) (by simpa using e) λi u d h1 h2=>f (i+1) u d (by simpa using h1) (by simpa using h2)
  exact⟨as++bs,.cons r rs⟩
theorem Vals.back {xs:List V}{us:List l?}(r:Vals xs us){i:Nat}{u:l?}(h:us[i]?=j? u):∃x,xs[i]?=j? x/\RelV x u:=by
 have hi:i<us.length:=(List.getElem?_eq_some_iff.mp h).1;have hx:i<xs.length:=by rw[r.length];exact hi
 obtain⟨u',h',rel⟩:=r.get (Yc hx);rw[h] at h';cases h';exact⟨_,Yc hx,rel⟩
theorem Den.reads {pins:List (o?×Obj)}{σ:St}{H:Hp}{s:u?}(I:Inv X pins σ H s){v:V}{d:N!}(D:Den X.K H v d):∀ {u:l?},RelV v u->∃as,Reads s.heap u d as:=by
 induction D with
 | eO=>intro u r;cases (show u=Value.none from r);exact⟨_,.none⟩
 | bl b=>intro u r;cases (show u=Value.bool b from r);exact⟨_,.bool b⟩
 | int i=>intro u r;obtain⟨t,rfl⟩:=(show ∃t,u=Value.int i t from r);exact⟨_,.int i t⟩
 | str x=>intro u r;obtain⟨t,rfl⟩:=(show ∃t,u=Value.str x t from r);exact⟨_,.str x t⟩
 | @lst a xs ds q hl _ ih=>
  intro u r;cases (show u=I! a from r)
  obtain⟨its,rv,⟨o,n,h1,h2,h3,h4⟩,_⟩:=I.list q;obtain⟨as,ra⟩:=mC (h:=s.heap) (us:=its) (ds:=ds) (by rw[<- rv.length];exact hl) λi u d e1 e2=>by
   obtain⟨x,ex,rel⟩:=rv.back e1;exact ih i x d ex e2 rel
  exact⟨_,.list h1 h2 h4 (by simpa using ra)⟩
 | @tup a xs ds q hl _ ih=>
  intro u r;cases (show u=I! a from r)
  obtain⟨its,rv,⟨o,h1,h2,n,h4⟩,_⟩:=I.tuple q;obtain⟨as,ra⟩:=mC (h:=s.heap) (us:=its) (ds:=ds) (by rw[<- rv.length];exact hl) λi u d e1 e2=>by
   obtain⟨x,ex,rel⟩:=rv.back e1;exact ih i x d ex e2 rel
  exact⟨_,.tuple h1 h2 h4 (by simpa using ra)⟩
def yH (K:bG)(neg:Bool):R2:=λx y H Q=>∃d e,Den K H x d/\Den K H y e/\SeqAt.shaped d=true/\SeqAt.shaped e=true/\Q (.bl (if neg then !E! d e else E! d e)) H
theorem MP (hu:X.A.units+64<cLine):oj X (J! .Eq) (yH X.K false):=by
 intro pins s σ H x y v u Q I rx ry h;obtain⟨d,e,Dx,Dy,sd,se,q⟩:=h;obtain⟨as,ra⟩:=Dx.reads I rx;obtain⟨bs,rb⟩:=Dy.reads I ry;exact SeqAt.compareEq_shaped ra rb sd se hu (bZ I q rfl)
theorem MQ (hu:X.A.units+64<cLine):oj X (J! .NotEq) (yH X.K true):=by
 intro pins s σ H x y v u Q I rx ry h;obtain⟨d,e,Dx,Dy,sd,se,q⟩:=h;obtain⟨as,ra⟩:=Dx.reads I rx;obtain⟨bs,rb⟩:=Dy.reads I ry;exact SeqAt.compareNe_shaped ra rb sd se hu (bZ I q rfl)
def Ad:V->Option N!
 | .eO=>j? .none
 | .bl b=>j? (.bool b)
 | .int i=>j? (.int i)
 | .str x=>j? (.str x)
 | _=>q?
theorem Gm {K:bG}{H:Hp}{v:V}{d:N!}(h:Ad v=j? d):Den K H v d:=by
 cases v <;> first|(cases h;constructor)|cases h
def oN:List V->Option (List N!)
 | []=>j? []
 | v::r=>match Ad v,oN r with
  | some d,j? ds=>j? (d::ds)
  | _,_=>q?
theorem rR:∀ {xs:List V} {ds:List N!},oN xs=j? ds->xs.length=ds.length/\∀(i:Nat) x d,xs[i]?=j? x->ds[i]?=j? d->Ad x=j? d
 | [],ds,h=>by cases h;exact⟨rfl,λi x d h=>by simp at h⟩
 | v::r,ds,h=>by
  unfold oN at h;cases e1:Ad v with
  | none=>rw[e1] at h;cases h
  | some d0=>
   cases e2:oN r with
   | none=>rw[e1,e2] at h;cases h
   | some dr=>
    rw[e1,e2] at h;cases h;obtain⟨hl,hx⟩:=rR e2;refine⟨by simp[hl],λi x d h1 h2=>?_⟩
    cases i with
    | zero=>simp at h1 h2;rw[<- h1,<- h2];exact e1
    | succ i=>exact hx i x d (by simpa using h1) (by simpa using h2)
theorem qv {K:bG}{H:Hp}{a:o?}{xs:List V}{ds:List N!}(q:aN K H a xs)(h:oN xs=j? ds):Den K H (.ref a) (.list ds):=
 .lst q (rR h).1 λi x d h1 h2=>Gm ((rR h).2 i x d h1 h2)
theorem fZ:∀(ns:List Int),oN (ns.map V.int)=j? (ns.map PyData.int)
 | []=>rfl
 | n::ns=>by
  show(match Ad (.int n),oN (ns.map V.int) with|some d,j? ds=>j? (d::ds)|_,_=>q?)=_
  rw[fZ ns];rfl
end
structure Src (K:bG)(mg:Str->Option l?)(x:Str)(st:Q?)(ps:List Str):Prop where
 ex:∃f fd,Jx K x x st f fd/\Binds K fd ps []/\mg x=j? (.ref f)
structure b_ (P:F?)(w:H?)(K:bG)(mg:Str->Option l?)(base:O?)(k:Nat)(x:Str)(ps:List Str)(sp:Sp):Prop where
 ex:∃f fd,kH P w K mg base Dz k f fd ps sp/\Binds K fd ps []/\PySem.W.keepIn K (.ref f)=true/\mg x=j? (.ref f)
section
variable {P:F?} {w:H?} {K:bG} {mg:Str->Option l?} {base:O?}
theorem Src.ok {x:Str}{st:Q?}{N ps:List Str}{k:Nat}{sp:Sp}(F:Src K mg x st ps)(S:aI N ps (ao st))(len:∀vs H Q E,sp vs H Q E->vs.length=ps.length)
  (hbody:∀(f:o?) (cdv:l?) (A:A!) (outer:List Env) (s:u?) (H:Hp) (vs:List V) (Q:VK) (E:XK),fj k (A.deeper (envOfC x (ao st) s.heap.objs.size f cdv))->sp vs H Q E->
   ∃t,z4 (oK Dz P w K mg base N x (ao st) f cdv A outer s H E).Ll (b7 st) t/\t { nx:=λ_ H'=>Q .eO H',rt:=Q } (start N vs) H):b_ P w K mg base (k+1) x ps sp:=by
 obtain⟨f,fd,F,B,M⟩:=F.ex;exact⟨f,fd,F.ok S len (hbody f),B,F.kp,M⟩
theorem MR {x:Str}{st:Q?}{ps:List Str}{f:o?}{oc:l?}{od an:Option o?}{osl:Array (Option l?)}{kV doc pm cdv ct:l?}{h:O?}(X:K.In h)(G:h.Ns G? mg)
  (a:N? K G? x=j? (j? (.ref f))) (l:K.lookup f=j? ⟨oc,od,.func (W? x x (dB st) (b7 st) (ao st) .none kV doc pm an cdv ct),osl⟩) (c:P! K cdv x=true) (k:C! K (.ref f)=true)
  (hb:∀(kV doc pm:l?) (an:Option o?) (cdv ct:l?) (us:List l?),us.length=ps.length->bindArgs (W? x x (dB st) (b7 st) (ao st) .none kV doc pm an cdv ct) ⟨us,[]⟩=pure (ps.zip us)):Src K mg x st ps:=
 ⟨f,_,u5 l c k,(u5 l c k).binds hb,PySem.W.mg_of X G a⟩
end
theorem aE {X:Cx}{k n:Nat}{x:Str}{ps:List Str}{sp:Sp}{e:Expr}{es:List Expr}{t:TA}{p pos:Pos}(D:b_ X.prog X.w X.K X.mg X.base k x ps sp)(hr:fj n X.A)(ha:PA X (e::es) t)(hle:k<=n:=by first|decide|omega)(hg:Gl X x:=by rfl)
  (hdb:(x ==("__debug__":Str))=false:=by decide) (he:I? (e::es) X.env=(false,eval e X.env)::I? es X.env:=by rfl) (hpl:(backTo pos (I? es X.env)).any (·.1)=false:=by rfl):
  PE X (.Call (.Name x p) (e::es) [] pos) (Gb sp [] E0 t):=by
 obtain⟨f,fd,F,B,kp,M⟩:=D.ex;exact Du F (hr.mono hle) hg M kp B .nil Pe ha hdb he hpl
theorem aA {H:Hp}{p:o?}(h:H p=q?)(o:HO):aG H (upd H p o):=λb u q=>by rw[aL (bh q h)];exact q
def Gn (DC:Scope)(ON N:List Str)(sl:List (Option Nat))(scope:Scope):Bool:=
 decide (scope.kind=.function) && scope.names.all (λy=>decide (y.2≠.cell)) && scope.names.all (λy=>decide (y.2=.local->scope.names.lookup y.1=j? .local)) &&
 scope.names.all (λy=>decide (y.2=.free->DC.names.lookup y.1=j? .cell\/DC.names.lookup y.1=j? .free)) && decide (sl.length=N.length) &&
 (Yk N.length).all λj=>match N[j]?,sl[j]? with
  | some x,j? (j? i)=>decide (ON[i]?=j? x/\scope.names.lookup x=j? .free)
  | _,_=>true
theorem aF {X:Cx}{N:List Str}{sl:List (Option Nat)}{scope:Scope}(DC:Scope)(ON:List Str)(h1:X.env.scope=DC)(h2:X.N=ON)(hb:Gn DC ON N sl scope=true):a_ X N sl scope:=by
 unfold Gn at hb;simp only[T?,decide_eq_true_eq,Z9] at hb
 obtain⟨⟨⟨⟨⟨b1,b2⟩,b3⟩,b4⟩,b5⟩,b6⟩:=hb;refine⟨b1,b2,b3,λy hy hf=>?_,b5,λj i x e1 e2=>?_⟩
 ·have:=b4 y hy hf
  show X.env.scope.names.lookup y.1=_\/X.env.scope.names.lookup y.1=_
  rw[h1];exact this
 ·have hj:j<N.length:=(List.getElem?_eq_some_iff.mp e1).1
  have:=b6 j (List.mem_range.mpr hj)
  rw[e1,e2] at this;have q:=W9 this;rw[h2];exact q
theorem b8:H! "len"=j? (.builtin "len"):=by decide +kernel
theorem BH:H! "abs"=j? (.builtin "abs"):=by decide +kernel
theorem jK:H! "isinstance"=j? (.builtin "isinstance"):=by decide +kernel
theorem MS:H! "any"=j? (.builtin "any"):=by decide +kernel
theorem MT:H! "min"=j? (.builtin "min"):=by decide +kernel
theorem Gp:H! "max"=j? (.builtin "max"):=by decide +kernel
theorem Gr:H! "sum"=j? (.builtin "sum"):=by decide +kernel
theorem MU:H! "int"=j? (.type "int"):=by decide +kernel
theorem J1:H! "bool"=j? (.type "bool"):=by decide +kernel
theorem uu:H! "list"=j? (.type "list"):=by decide +kernel
def Sw (K:bG):List V->Hp->VK->Prop:=λxs H Q=>∃x T T' b,xs=[x,.ty T']/\DB K H x T/\PySem.W.kitOne K (.type T) (.type T')=j? b/\Q (.bl b) H
def Pf (K:bG):List V->Hp->VK->Prop:=λxs H Q=>∃p ys,xs=[.ref p]/\(aN K H p ys\/kG K H p ys)/\Q (.int ys.length) H
section
variable {X:Cx} {K:bG}
theorem kM (h:X.K=K):i7 X (.builtin "isinstance") (Sw K):=by subst h;exact λpins s σ H xs us Q I rv ⟨a,b,c,d,e,f,g,i⟩=>Ac pins s σ H xs us Q I rv ⟨a,b,c,d,e,f,g,i⟩
theorem aQ (h:X.K=K):i7 X (.builtin "len") (Pf K):=by subst h;exact λpins s σ H xs us Q I rv ⟨a,b,c,d,e⟩=>yF pins s σ H xs us Q I rv ⟨a,b,c,d,e⟩
theorem aJ (h:X.K=K):O7 X (O8 K):=by subst h;exact JS
theorem qw (h:X.K=K):O7 X (O9 K):=by subst h;exact MJ
theorem eV (h:X.K=K):Sh X (Pa K):=by subst h;exact JT
theorem Gs (h:X.K=K):oj X (J! .In) (US K false):=by subst h;exact EE
theorem qx (h:X.K=K)(hu:X.A.units+64<cLine):oj X (J! .Eq) (yH K false):=by subst h;exact MP hu
theorem uv (h:X.K=K)(hu:X.A.units+64<cLine):oj X (J! .NotEq) (yH K true):=by subst h;exact MQ hu
theorem bF {tg l:Expr}{tl:TE}(h:X.K=K)(hl:PE X l tl):PI X tg l (Ln K tl):=by subst h;exact JL hl
theorem cZ {es:List Expr}{k:Nat}{t:Lm}{n:Nat}{pos:Pos}(hK:X.K=K)(hc:X.calm=true)(h:OU X es t)
  (hn:(assignEach es X.env).length=n:=by rfl) (hst:(assignEach es X.env).findIdx? (·.1)=q?:=by rfl):PG X (.Tuple es k pos) (OW K n t):=by subst hK;exact Mu hc h hn hst
end
def Bd (m:Nat)(x:Int):Prop:=x.natAbs<2 ^ m
theorem Bd.mono {m n:Nat}{x:Int}(h:Bd m x)(hmn:m<=n):Bd n x:=Yh h (Yu (by decide) hmn)
theorem Bd.bits {m:Nat}{x:Int}(h:Bd m x):Builtin.Int.intBits x<=m:=intBits_le_iff.mpr h
theorem Bd.of_bits {m:Nat}{x:Int}(h:Builtin.Int.intBits x<=m):Bd m x:=intBits_le_iff.mp h
theorem Bd.mul {m n:Nat}{x y:Int}(hx:Bd m x)(hy:Bd n y):Bd (m+n) (x*y):=.of_bits (intBits_mul_le hx.bits hy.bits)
theorem Bd.add {m n:Nat}{x y:Int}(hx:Bd m x)(hy:Bd n y):Bd (max m n+1) (x+y):=.of_bits (intBits_add_le hx.bits hy.bits)
theorem Bd.sub {m n:Nat}{x y:Int}(hx:Bd m x)(hy:Bd n y):Bd (max m n+1) (x-y):=.of_bits (intBits_sub_le hx.bits hy.bits)
theorem Bd.le {m:Nat}{x y:Int}(h:x.natAbs<=y.natAbs)(hy:Bd m y):Bd m x:=Z0 h hy
theorem Bd.fdiv {m:Nat}{x y:Int}(hx:Bd m x):Bd m (x.fdiv y):=.of_bits (intBits_fdiv_le hx.bits)
theorem Bd.ok {m n:Nat}{x y:Int}(hx:Bd m x)(hy:Bd n y)(h:m+n<=134217728:=by decide):lQ x y:=DA hx hy h
theorem Bd.dv {m:Nat}{i j:Int}(h:Bd m j)(h0:j≠0)(hm:m<=9000:=by decide):xO i j:=⟨h0,h.mono hm⟩
theorem Bd.small {x:Int}(h1:-(2 ^ 64)<x)(h2:x<2 ^ 64):Bd 64 x:=by unfold Bd;omega
theorem iw {α:Type}{xs:List α}{i:Int}(h0:0<=i)(h1:i.toNat<xs.length):rF xs i=j? xs[i.toNat]:=by
 have e:i=((i.toNat:Nat):Int):=by omega
 have q:rF xs ((i.toNat:Nat):Int)=j? xs[i.toNat]:=fH (Yc h1);rw[<- e] at q;exact q
theorem DE {α:Type}{xs:List α}{i:Int}(h0:0<=i)(h1:i<xs.length):∃v,rF xs i=j? v/\v∈xs:=by
 have hi:i.toNat<xs.length:=by omega
 exact⟨xs[i.toNat],iw h0 hi,Yy hi⟩
theorem gE (x:Int){y:Int}(hy:0<y):0<=x.fmod y/\x.fmod y<y:=⟨Int.fmod_nonneg_of_pos x hy,Int.fmod_lt_of_pos x hy⟩
theorem aV {α:Type}{xs:List α}(h:decide (xs.length<=1000)=true):xs.length<=K?:=Ym (W9 h) (by decide)
theorem Gu (x y:Int)(hy:0<y):Int.gcd y (x.fmod y)=Int.gcd x y:=by
 rw[Y5 x (W0 hy),Int.gcd_comm x y,Int.emod_def,Int.gcd_comm y];simp
 exact Int.gcd_comm ..
def EH (a b:Int):Int:=(Int.gcd a b:Int)
theorem pick {xs:List V}{i:Int}{P:Int->Prop}(h0:0<=i)(h1:i<xs.length)(hP:∀v∈xs,∃n,v=.int n/\P n):∃n,rF xs i=j? (.int n)/\P n:=by
 obtain⟨v,e,hm⟩:=DE h0 h1;obtain⟨n,rfl,p⟩:=hP v hm;exact⟨n,e,p⟩
theorem MV {c A B:Prop}[Decidable c](h:¬ c)(hB:B):if decide c=true then A else B:=by
 rw[Ja h];exact j7 hB
theorem MW {c A B:Prop}[Decidable c](h:c)(hA:A):if decide c=true then A else B:=by
 rw[W8 h];exact j8 hA
def CW (n:Nat)(D:o?)(Pv:Nat->List V->Hp->Prop):Nat->Nat->Hp->Prop:=λi m H2=>m=n-i/\i<=n/\∃ys,H2 D=j? (.lst ys)/\ys.length<=i/\Pv i ys H2
theorem CW.emit {n:Nat}{D:o?}{Pv:Nat->List V->Hp->Prop}{i m:Nat}{ys:List V}{y:V}{H5:Hp}(hm:m=n-i)(hi:i<n)(hn:n<=K?)(hy:H5 D=j? (.lst ys))(hl:ys.length<=i)
  (p:Pv (i+1) (ys++[y]) (upd H5 D (.lst (ys++[y])))):∃ys,H5 D=j? (.lst ys)/\ys.length<K?/\∃m',m'<m/\CW n D Pv (i+1) m' (upd H5 D (.lst (ys++[y]))):=
 ⟨ys,hy,by omega,n-(i+1),by omega,rfl,hi,ys++[y],av,by simp;omega,p⟩
theorem CW.skip {n:Nat}{D:o?}{Pv:Nat->List V->Hp->Prop}{i m:Nat}{ys:List V}{H4:Hp}(hm:m=n-i)(hi:i<n)(hy:H4 D=j? (.lst ys))(hl:ys.length<=i)(p:Pv (i+1) ys H4):
  ∃m',m'<m/\CW n D Pv (i+1) m' H4:=⟨n-(i+1),by omega,rfl,hi,ys,hy,by omega,p⟩
theorem gF {K:bG}{a D:o?}{xs:List V}{st:St}{g:TG}{nT:TT}{te:TE}{H1:Hp}{Q:VK}(Pv:Nat->List V->Hp->Prop)(h0:Pv 0 [] (upd H1 D (.lst [])))
  (hl:∀i ys H2,H2 D=j? (.lst ys)->Pv i ys H2->aN K H2 a xs)
  (hs:∀i m x ys H2,m=xs.length-i->i<xs.length->xs[i]?=j? x->H2 D=j? (.lst ys)->ys.length<=i->Pv i ys H2->g x st H2 λσ3 H3=>nT σ3 H3 λb H4=>
   if b=true then te σ3 H4 λy H5=>∃ys,H5 D=j? (.lst ys)/\ys.length<K?/\∃m',m'<m/\CW xs.length D Pv (i+1) m' (upd H5 D (.lst (ys++[y]))) else ∃m',m'<m/\CW xs.length D Pv (i+1) m' H4)
  (hd:∀ys H2,H2 D=j? (.lst ys)->Pv xs.length ys H2->Q (.ref D) H2):
  tQ (MB K a) D st g nT te Q H1:=by
 refine⟨CW xs.length D Pv,⟨xs.length,by simp,Yw _,[],av,Yd _,h0⟩,?_⟩
 rintro i m H2 ⟨hm,hi,ys,hy,hlen,p⟩;have q:=hl i ys H2 hy p;by_cases hlt:i<xs.length
 ·refine .inr ⟨⟨xs,xs[i],q,by simp[hlt]⟩,λx H' y=>?_⟩
  obtain⟨e,y⟩:=y;subst e;exact hs i m x ys _ hm hlt (y xs q) hy hlen p
 ·have e:i=xs.length:=by omega
  subst e;exact .inl ⟨⟨xs,q,Yd _⟩,hd ys H2 hy p⟩
theorem i9 {lo:Int}{n:Nat}{D:o?}{st:St}{g:TG}{nT:TT}{te:TE}{H1:Hp}{Q:VK}(Pv:Nat->List V->Hp->Prop)(h0:Pv 0 [] (upd H1 D (.lst [])))
  (hs:∀i m ys H2,m=n-i->i<n->H2 D=j? (.lst ys)->ys.length<=i->Pv i ys H2->g (.int (lo+i)) st H2 λσ3 H3=>nT σ3 H3 λb H4=>
   if b=true then te σ3 H4 λy H5=>∃ys,H5 D=j? (.lst ys)/\ys.length<K?/\∃m',m'<m/\CW n D Pv (i+1) m' (upd H5 D (.lst (ys++[y]))) else ∃m',m'<m/\CW n D Pv (i+1) m' H4)
  (hd:∀ys H2,H2 D=j? (.lst ys)->Pv n ys H2->Q (.ref D) H2):
  tQ (JK lo n) D st g nT te Q H1:=by
 refine⟨CW n D Pv,⟨n,by simp,Yw _,[],av,Yd _,h0⟩,?_⟩
 rintro i m H2 ⟨hm,hi,ys,hy,hlen,p⟩;by_cases hlt:i<n
 ·refine .inr ⟨hlt,λx H' y=>?_⟩
  obtain⟨e,y⟩:=y;subst e y;exact hs i m ys _ hm hlt hy hlen p
 ·have e:i=n:=by omega
  subst e;exact .inl ⟨Yd _,hd ys H2 hy p⟩
structure dW (p n:Int)(v:Nat):Prop where
 dv:p ^ v ∣ n
 no:¬ p ^ (v+1) ∣ n
theorem qy {p:Int}(hp:p≠0):∀v:Nat,p ^ v≠0
 | 0=>by rw[Zd];decide
 | v+1=>by rw[Y6];exact Int.mul_ne_zero (qy hp v) hp
theorem gh (p:Int){v w:Nat}(h:v<=w):p ^ v ∣ p ^ w:=by
 obtain⟨k,rfl⟩:=Nat.exists_eq_add_of_le h;exact⟨p ^ k,Wg p v k⟩
theorem dW.uniq {p n:Int}{v w:Nat}(a:dW p n v)(b:dW p n w):v=w:=by
 rcases Nat.lt_trichotomy v w with h|h|h
 ·exact Jd (Int.dvd_trans (gh p h) b.dv) a.no
 ·exact h
 ·exact Jd (Int.dvd_trans (gh p h) a.dv) b.no
theorem dW.of {p n m:Int}{v:Nat}(hp:p≠0)(h:n=p ^ v*m)(hm:¬ p ∣ m):dW p n v:=by
 refine⟨⟨m,h⟩,λ⟨k,hk⟩=>hm ?_⟩
 rw[h,Y6,Wr] at hk;exact⟨k,Zy (qy hp v) hk⟩
theorem dW.Rl {p n:Int}{v:Nat}(h:dW p n v):∃m,n=p ^ v*m/\¬ p ∣ m:=by
 obtain⟨m,e⟩:=h.dv;refine⟨m,e,λ⟨k,hk⟩=>h.no ⟨k,?_⟩⟩
 rw[e,hk,Y6,Wr]
theorem BI {p:Int}(hp:2<=p){n:Int}(hn:n≠0):∃v,dW p n v:=by
  have go:∀(k:Nat) (n:Int),n≠0->n.natAbs<=k->∃v,dW p n v:=by
    intro k;induction k with
    | zero=>intro n h0 h1;exact Jd (by omega) h0
    | succ k ih=>
      intro n h0 h1;by_cases hd:p ∣ n
      . obtain⟨m,rfl⟩:=hd
        have hm:m≠0:=λz=>h0 (by rw[z];simp)
        have hlt:m.natAbs<(p*m).natAbs:=by
          rw[Ze];have h2:2<=p.natAbs:=by omega
          have h3:0<m.natAbs:=by omega
          calc m.natAbs<2*m.natAbs:=by omega
            _<=p.natAbs*m.natAbs:=Yr _ h2
        obtain⟨v,hv⟩:=ih m hm (by omega)
        obtain⟨c,ec,hc⟩:=hv.Rl;exact⟨v+1,dW.of (by omega) (m:=c) (by rw[ec,Y6];ac_rfl) hc⟩
      . exact⟨0,dW.of (by omega) (m:=n) (by simp) hd⟩
  exact go n.natAbs n hn (Yd _)
theorem qz {x y:Int}(hy:0<y):x.fmod y=0↔y ∣ x:=by
 rw[Y5 x (W0 hy)];exact⟨Int.dvd_of_emod_eq_zero,Int.emod_eq_zero_of_dvd⟩
theorem kN {y m:Int}(hy:y≠0):(y*m).fdiv y=m:=Int.mul_fdiv_cancel_left m hy
end L2
namespace L2
theorem aG.aZ {H H':Hp}{D:PySem.Addr}(g:aG H H')(hD:H D=q?)(o:HO):aG H (upd H' D o):=λb u q=>by rw[aL (bh q hD)];exact g b u q
theorem Ae {c A B:Prop}[Decidable c](h:¬ c)(hA:A):if (!decide c)=true then A else B:=by
 rw[Ja h];exact j8 hA
end L2
namespace L2
open PySem PySem.Spec PyProof.Rows
def yI (o:Obj)(ns:List Int):Bool:=decide (o.cls=.type "tuple") && match o.data with
 | .seq its _=>decide (its.size<=1000) && decide (its.toList.map JG=ns.map λn=>j? (V.int n))
 | _=>false
theorem tS:∀ {us:List l?} {ns:List Int},us.map JG=ns.map (λn=>j? (V.int n))->Vals (ns.map V.int) us
 | [],[],_=>.nil
 | [],_::_,h=>by simp at h
 | _::_,[],h=>by simp at h
 | u::us,n::ns,h=>by
  simp only[List.map_cons,List.cons.injEq] at h
  refine .cons ?_ (tS h.2)
  have e:=h.1;cases u <;> simp[JG] at e
  subst e;exact⟨_,rfl⟩
theorem BJ {K:bG}{H:Hp}{a:o?}{o:Obj}{ns:List Int}(h:K.lookup a=j? o)(t:yI o ns=true):kG K H a (ns.map V.int):=by
 unfold yI at t;rw[T?] at t;obtain⟨t1,t2⟩:=t;have hc:=W9 t1;cases hd:o.data with
 | seq its n=>
  rw[hd] at t2;rw[T?] at t2;have h1:=W9 t2.1;have h2:=W9 t2.2;exact .inr ⟨o,its,n,h,hc,hd,Ym h1 (by decide),tS h2⟩
 | _=>rw[hd] at t2;exact Jd t2 E?
inductive Fl:Nat->N!->Prop where
 | eO {n:Nat}:Fl n .none
 | int {n:Nat} (i:Int):Fl n (.int i)
 | lst {n:Nat} {ds:List N!}:(∀d∈ds,Fl n d)->Fl (n+1) (.list ds)
 | tup {n:Nat} {ds:List N!}:(∀d∈ds,Fl n d)->Fl (n+1) (.tuple ds)
theorem kO:∀ {ds:List N!},(∀d∈ds,PyData.canLay0 d=true)->PyData.canLayAll0 ds=true
 | [],_=>by simp[PyData.canLayAll0]
 | d::ds,h=>by
  simp only[PyData.canLayAll0,T?]
  exact⟨h d Y8,kO λe he=>h e (Y3 _ he)⟩
theorem mD {n:Nat}:∀ {ds:List N!},(∀d∈ds,PyData.depth d<=n)->PyData.depthAll ds<=n
 | [],_=>by simp[PyData.depthAll]
 | d::ds,h=>by
  simp only[PyData.depthAll]
  exact Nat.max_le.mpr ⟨h d Y8,mD λe he=>h e (Y3 _ he)⟩
theorem Fl.both {n:Nat}{d:N!}(h:Fl n d):PyData.canLay0 d=true/\PyData.depth d<=n:=by
 induction h with
 | eO=>exact⟨by simp[PyData.canLay0],by simp[PyData.depth]⟩
 | int i=>exact⟨by simp[PyData.canLay0],by simp[PyData.depth]⟩
 | lst _ ih=>exact⟨by simp only[PyData.canLay0];exact kO λd hd=>(ih d hd).1,by simp only[PyData.depth];exact Nat.succ_le_succ (mD λd hd=>(ih d hd).2)⟩
 | tup _ ih=>exact⟨by simp only[PyData.canLay0];exact kO λd hd=>(ih d hd).1,by simp only[PyData.depth];exact Nat.succ_le_succ (mD λd hd=>(ih d hd).2)⟩
theorem Fl.shaped {n:Nat}{d:N!}(h:Fl n d)(hn:n<=64):SeqAt.shaped d=true:=by
 unfold SeqAt.shaped;rw[T?];exact⟨h.both.1,W8 (Ym h.both.2 hn)⟩
theorem Fl.self {n:Nat}{d:N!}(h:Fl n d):E! d d=true:=SeqAt.eqv_refl d h.both.1
mutual
theorem Gv:∀ {n m:Nat} {d e:N!},Fl n d->Fl m e->E! d e=true->d=e
 | _,_,_,_,.eO,.eO,_=>rfl
 | _,_,_,_,.eO,.int _,h=>by simp[E!] at h
 | _,_,_,_,.eO,.lst _,h=>by simp[E!] at h
 | _,_,_,_,.eO,.tup _,h=>by simp[E!] at h
 | _,_,_,_,.int _,.eO,h=>by simp[E!] at h
 | _,_,_,_,.int i,.int j,h=>by
  simp only[E!,beq_iff_eq] at h
  rw[h]
 | _,_,_,_,.int _,.lst _,h=>by simp[E!] at h
 | _,_,_,_,.int _,.tup _,h=>by simp[E!] at h
 | _,_,_,_,.lst _,.eO,h=>by simp[E!] at h
 | _,_,_,_,.lst _,.int _,h=>by simp[E!] at h
 | _,_,.list ds,.list es,.lst a,.lst b,h=>by
  simp only[E!] at h
  rw[eqvAll_eq a b h]
 | _,_,_,_,.lst _,.tup _,h=>by simp[E!] at h
 | _,_,_,_,.tup _,.eO,h=>by simp[E!] at h
 | _,_,_,_,.tup _,.int _,h=>by simp[E!] at h
 | _,_,_,_,.tup _,.lst _,h=>by simp[E!] at h
 | _,_,.tuple ds,.tuple es,.tup a,.tup b,h=>by
  simp only[E!] at h
  rw[eqvAll_eq a b h]
theorem eqvAll_eq:∀ {n m:Nat} {ds es:List N!},(∀d∈ds,Fl n d)->(∀d∈es,Fl m d)->PyData.eqvAll ds es=true->ds=es
 | _,_,[],[],_,_,_=>rfl
 | _,_,[],_::_,_,_,h=>by simp[PyData.eqvAll] at h
 | _,_,_::_,[],_,_,h=>by simp[PyData.eqvAll] at h
 | _,_,d::ds,e::es,a,b,h=>by
  simp only[PyData.eqvAll,T?] at h
  rw[Gv (a d Y8) (b e Y8) h.1,eqvAll_eq (λx hx=>a x (Y3 _ hx)) (λx hx=>b x (Y3 _ hx)) h.2]
end
noncomputable instance:DecidableEq N!:=λa b=>Classical.propDecidable _
theorem uw {n m:Nat}{d e:N!}(a:Fl n d)(b:Fl m e):E! d e=decide (d=e):=by
 cases h:E! d e with
 | true=>exact(W8 (Gv a b h)).symm
 | false=>
  refine(Ja λz=>?_).symm
  subst z;rw[a.self] at h;cases h
abbrev dI (ns:List Int):N!:=.list (ns.map .int)
theorem kP (ns:List Int):Fl 1 (dI ns):=.lst λd hd=>by
 obtain⟨i,_,rfl⟩:=List.mem_map.mp hd;exact .int i
theorem Gw {a b:List Int}(h:dI a=dI b):a=b:=by
 have h':a.map PyData.int=b.map PyData.int:=PyData.list.inj h;induction a generalizing b with
 | nil=>
  cases b with
  | nil=>rfl
  | cons _ _=>simp at h'
 | cons x a ih=>
  cases b with
  | nil=>simp at h'
  | cons y b=>
   simp only[List.map_cons,List.cons.injEq,PyData.int.injEq] at h'
   rw[h'.1,ih (Jb PyData.list h'.2) h'.2]
theorem Af (a b:List Int):E! (dI a) (dI b)=decide (a=b):=by
 rw[uw (kP a) (kP b)];by_cases h:a=b
 ·rw[W8 h,W8 (Jb dI h)]
 ·rw[Ja h,Ja λz=>h (Gw z)]
theorem Sx {K:bG}{H:Hp}{a b:o?}{xs ys:List Int}{Q:VK}(ha:aN K H a (xs.map V.int))(hb:aN K H b (ys.map V.int))(q:Q (.bl (decide (xs=ys))) H):yH K false (.ref a) (.ref b) H Q:=
 ⟨dI xs,dI ys,qv ha (fZ _),qv hb (fZ _),(kP _).shaped (by decide),(kP _).shaped (by decide),by
  show Q (.bl (E! (dI xs) (dI ys))) H
  rw[Af];exact q⟩
theorem OJ {K:bG}{H:Hp}{a b:o?}{xs ys:List Int}{Q:VK}(ha:aN K H a (xs.map V.int))(hb:aN K H b (ys.map V.int))(q:Q (.bl (!decide (xs=ys))) H):yH K true (.ref a) (.ref b) H Q:=
 ⟨dI xs,dI ys,qv ha (fZ _),qv hb (fZ _),(kP _).shaped (by decide),(kP _).shaped (by decide),by
  show Q (.bl (!E! (dI xs) (dI ys))) H
  rw[Af];exact q⟩
section
variable {X:Cx} {pins:List (o?×Obj)} {σ:St} {H:Hp} {s:u?} {h':O?}
theorem Inv.yJ {t':Nat}{ch:List o?}(I:Inv X pins σ H s)(k:∀b u,b ∉ ch->s.heap.get? b=j? u->h'.get? b=j? u)(hf:∀b∈ch,jy X pins H b):Inv X pins σ H { s with heap:=h',toks:=t' }:=by
 have Lj:∀b u,H b=j? u->b ∉ ch:=λb u e z=>by rw[(hf b z).1] at e;cases e
 refine I.step (g':=s.gens) (d':=s.drawn) (ch:=ch) (λb hb=>⟨(hf b hb).2.2.2.1,(hf b hb).2.1,(hf b hb).2.2.2.2.1,(hf b hb).2.2.2.2.2⟩) (λb o _ _ hc e _=>k b o hc e) (λb o _ _ hc e _=>⟨o.slots,k b o hc e⟩) (λ_ _ _ _ n=>n)
  (λb o hc e=>⟨o,k b o hc e⟩) (λ_ _ e=>e) (λ_ _ _ e=>e) (λb ps e=>⟨#[],by rw[e];simp⟩) (λm hm=>?_) (λb u e=>?_) I.bare
 ·obtain⟨o,es,ep,ho,r⟩:=hm
  exact⟨o,es,ep,k _ o (λz=>(hf _ z).2.1 rfl) ho,r⟩
 ·refine(I.hok b u e).stay (λc v hc q=>k c v ?_ q) (λ_ q=>q) λ_ _ q=>q
  rcases hc with z|z
  ·rw[z];exact Lj b u e
  ·exact Lj c _ z
theorem Inv.xQ {t':Nat}{ch:List o?}{a:o?}{o:HO}(I:Inv X pins σ H s)(k:∀b u,b ∉ ch->s.heap.get? b=j? u->h'.get? b=j? u)(hf:∀b∈ch,jy X pins H b)(ha:s.heap.objs.size<=a)(new:ir X.prog X.w (upd H a o) h' a o):
  Inv X pins σ (upd H a o) { s with heap:=h',toks:=t' }:=by
 have hn:H a=q?:=I.hok.fresh ha;have Lj:∀b u,H b=j? u->b ∉ ch:=λb u e z=>by rw[(hf b z).1] at e;cases e
 have Xj:∀b u,s.heap.get? b=j? u->b≠a:=λb u e=>Yp (Yh (Yl e) ha)
 refine I.step (g':=s.gens) (d':=s.drawn) (ch:=ch) (λb hb=>⟨(hf b hb).2.2.2.1,(hf b hb).2.1,(hf b hb).2.2.2.2.1,(hf b hb).2.2.2.2.2⟩) (λb o _ _ hc e _=>k b o hc e) (λb o _ _ hc e _=>⟨o.slots,k b o hc e⟩) (λb u _ e n=>by rw[aL (Xj b u e)];exact n)
  (λb o hc e=>⟨o,k b o hc e⟩) (λb xs e=>by rw[aL (bh e hn)];exact e) (λb u xs e=>by rw[aL (bh e hn)];exact e) (λb ps e=>⟨#[],by rw[aL (bh e hn),e];simp⟩) (λm hm=>?_) (λb u e=>?_) I.bare
 ·obtain⟨o,es,ep,ho,r⟩:=hm
  exact⟨o,es,ep,k _ o (λz=>(hf _ z).2.1 rfl) ho,r⟩
 ·by_cases hb:b=a
  ·subst hb
   rw[av] at e;cases e;exact new
  ·rw[aL hb] at e
   refine(I.hok b u e).stay (λc v hc q=>k c v ?_ q) (λc q=>by rw[aL (bh q hn)];exact q) λc xs q=>by rw[aL (bh q hn)];exact q
   rcases hc with z|z
   ·rw[z];exact Lj b u e
   ·exact Lj c _ z
end
def Oc (K:bG)(a:o?)(st:Nat):It:=
 ⟨λi H=>∃xs x,aN K H a xs/\xs[i]?=j? x,λi H v H'=>∃r x,v=.ref r/\H r=q?/\(∀xs,aN K H a xs->xs[i]?=j? x)/\H'=upd H r (.tup [.int ((st+i:Nat):Int),x]),λi H=>∃xs,aN K H a xs/\xs.length<=i⟩
theorem BK {prog:F?}{w:H?}{A:A!}(hh:A.handled=q?)(it l:o?)(hne:l≠it)(items:Array l?)(st:Nat):
  Draws prog w A it [it,l] (st+items.size) (λi v=>items[i-st]?=j? v) (λi h=>st<=i/\h.IsListIter it l (i-st)/\h.IsList l items) where
 live:=λ_ _ x=>let ⟨o,ho,_⟩:=x.2.1;⟨o,ho⟩
 frame:=λ_ _ _ x hk=>⟨x.1,x.2.1.at λo e=>hk it (by simp) o e,x.2.2.at λo e=>hk l (by simp) o e⟩
 item:=λi s Q E hi x hQ=>by
  have hlt:i-st<items.size:=by have:=x.1;omega
  refine wpAny_nextOf_list_item x.2.1 x.2.2 (x:=items[i-st]) (by simp[hlt]) λh' Pg hs'=>?_
  have e:i-st+1=i+1-st:=by have:=x.1;omega
  rw[e] at Pg;exact hQ _ h' s.toks (by simp[hlt]) ⟨Nat.le_succ_of_le x.1,Pg,x.2.2.extBut hs'.extBut hne⟩ hs'
 done:=λs Q E x hE=>wpAny_nextOf_list_end hh x.2.1 x.2.2 (by simp) hE
theorem EI {P:F?}{w:H?}{K:bG}{elts:List Expr}{k:Nat}{pos:Pos}(a e it:o?)(hei:e≠it)(Xk:a≠e)(hai:a≠it)(st:Nat):
  Turn P w K (.Tuple elts k pos) (Oc K a st) [e,it] e (λi h=>(∃old,IsEnum h e it ((st+i:Nat):Int) old)/\h.IsListIter it a i) where
 mem:=by simp
 obj:=λi h x b hb=>by
  obtain⟨⟨old,he⟩,o,ho,c,d⟩:=x;rcases List.mem_cons.mp hb with rfl|hb
  ·exact⟨_,he,λv z=>by
    have z':Data.fields _=Data.cell v:=z;cases z'⟩
  ·have e':b=it:=by simpa using hb
   subst e';exact⟨o,ho,λv z=>by rw[d] at z;cases z⟩
 keep:=λi h h' x kk=>⟨let ⟨old,he⟩:=x.1;⟨old,kk e (by simp) _ he⟩,x.2.at λo ho=>kk it (by simp) o ho⟩
 item:=by
  intro X hP hw hK hc i pins s σ H E I hf x hg;subst hP hw hK;obtain⟨xs,v,hq,hx⟩:=hg;obtain⟨its,rv,p,hz⟩:=I.list hq;obtain⟨u,hu,ru⟩:=rv.get hx;obtain⟨⟨old,he⟩,hit⟩:=x;have hi:i<its.length:=(List.getElem?_eq_some_iff.mp hu).1;have D:=BK (prog:=X.prog) (w:=X.w) (A:=X.A.in1) (I.ok.hd hc) it a hai its.toArray st;have hn0:H s.heap.objs.size=q?:=I.fresh;have helt:e<s.heap.objs.size:=Yl he;have hilt:it<s.heap.objs.size:=by obtain⟨_,y,_⟩:=id hit;exact Yl y
  refine wpAny_pyNext_enum_itemD (i:=st+i) D he ⟨Wo _ _,by rw[Wf];exact hit,p.isList⟩ (by simp;omega) hei (by simp[hei,Ne.symm Xk]) λy h1 tk hy ho st1 hT hsz hk=>?_
  rw[Wf] at hy;have ey:y=u:=by
   have:its[i]?=j? y:=by simpa using hy
   rw[hu] at this;exact(M? this).symm
  subst ey;refine⟨_,rfl,wpAny_letOwnedTupleGo_enum ho λh2 Xl hs2=>?_⟩
  have hT2:h2.get? s.heap.objs.size=j? { cls:=.type "tuple",data:=.seq #[.int ((st+i:Nat):Int) tk,y] }:=(hs2.2 _ (Nat.ne_of_gt helt)).trans hT;have I2:Inv X pins σ (upd H s.heap.objs.size (.tup [.int ((st+i:Nat):Int),v])) { s with heap:=h2,toks:=tk+1 }:=
   I.xQ (ch:=[e,it]) (λb u hb q=>(hs2.2 b λz=>hb (by simp[z])).trans (hk b u (λz=>hb (by simp[z])) (λz=>hb (by simp[z])) q)) hf (Yd _)
    ⟨by show 2<=K?;rw[C?];omega,[.int ((st+i:Nat):Int) tk,y],.cons ⟨_,rfl⟩ (.cons ru .nil),_,hT2,rfl,0,rfl⟩
  refine⟨.ref s.heap.objs.size,_,I2,rfl,⟨_,v,rfl,hn0,λys hy=>by rw[I.qm hy hq];exact hx,rfl⟩,⟨⟨y,?_⟩,?_⟩,λb hb=>?_⟩
  ·have e1:((st+i:Nat):Int)+1=((st+(i+1):Nat):Int):=by omega
   rw[<- e1];exact Xl
  ·have hl1:=st1.2.1
   have e2:st+i+1-st=i+1:=by omega
   rw[e2] at hl1;exact hl1.at λo q=>(hs2.2 it hei.symm).trans q
  ·rw[aL ?_]
   ·exact(hf b hb).1
   ·rcases List.mem_cons.mp hb with rfl|hb
    ·exact Yp helt
    ·have:b=it:=by simpa using hb
     subst this;exact Yp hilt
 done:=by
  intro X hP hw hK hc i pins s σ H E I hf x hg;subst hP hw hK;obtain⟨xs,hq,hx⟩:=hg;obtain⟨its,rv,p,hz⟩:=I.list hq;obtain⟨⟨old,he⟩,hit⟩:=x;have hl:=rv.length;have hT:s.TypeIs (.ref e) "enumerate":=⟨_,he,rfl⟩;unfold pyNext;refine B? (wpAny_attempt (wpAny_callSpecial?_slot (name:=Str.ofString "__next__") hT PySem.F.slot_enumerate_next (wpAny_call_entry PySem.F.slot_enumerate_next hT PySem.F.entry_enumerate_next ?_ (PySem.F.args_enumerate_next_1 _))))
  show L? _ _ (field (.ref e) 2 >>= _) _ _ _
  refine B? (wpAny_field he rfl (x:=.ref it) rfl ?_)
  refine B? (wpAny_nextOf_list_end (I.ok.hd hc) hit p.isList (by simp;omega) λh' x he' hx'=>?_)
  obtain⟨o,ho,hc'⟩:=hx';refine B? (wpAny_isInstance (T:="StopIteration") (b:=true) ⟨o,ho,hc'⟩ isSubtype_stop ?_)
  exact J? ⟨rfl,I.yJ (t':=s.toks) (ch:=[e,it]) (λb u hb q=>he' b u (λz=>hb (by simp[z])) q) hf⟩
 self:=λ_ _ _ _ _ x h=>let ⟨_,he⟩:=x.1;wpAny_pyIter_enum he h
section
variable {X:Cx} {elts:List Expr} {k:Nat} {tpos:Pos}
def Lv (K:bG)(ta:TA):TI:=λσ H R=>ta σ H λvs H1=>∃a,vs=[.ref a]/\(∃xs,aN K H1 a xs)/\R (Oc K a 0) H1
theorem J2 {l:Expr}{ta:TA}{p pos:Pos}(hg:Gl X "enumerate")(hm:X.mg "enumerate"=q?)(ha:PA X [l] ta)(hs:I? [l] X.env=[(false,eval l X.env)]:=by rfl):
  PI X (.Tuple elts k tpos) (.Call (.Name "enumerate" p) [l] [] pos) (Lv X.K ta):=by
 intro pins s σ H R I h;refine Call_ (jI I hg hm boot_enumerate (L! (eB (ha pos pins s σ H _ I h) λus s1 ⟨vs,H1,I1,r1,q1⟩=>?_) hs rfl))
 obtain⟨a,e,⟨xs,hq⟩,q⟩:=q1;subst e;obtain⟨u,rfl,ru⟩:=vals1 r1;cases (show u=I! a from ru)
 obtain⟨its,rv,pl,hz⟩:=I1.list hq;have hlt:a<s1.heap.objs.size:=by obtain⟨_,y,_⟩:=pl.isList;exact Yl y
 refine call_enumerate_list pl.isList λh' he hit hsz hk=>?_
 refine wpAny_pyIter_enum he ?_
 have I2:Inv X pins σ H1 { s1 with heap:=h' }:=I1.kept (t':=s1.toks) hk
 refine⟨_,[s1.heap.objs.size+1,s1.heap.objs.size],_,_,H1,rfl,I2,EI a (s1.heap.objs.size+1) s1.heap.objs.size (Nat.succ_ne_self _) (Yp (Nat.lt_succ_of_lt hlt)) (Yp hlt) 0,⟨⟨_,he⟩,hit⟩,λb hb=>?_,q⟩
 rcases List.mem_cons.mp hb with rfl|hb
 ·exact I1.uR (W4 _) (I1.hok.fresh (W4 _))
 ·have:b=s1.heap.objs.size:=by simpa using hb
  subst this;exact I1.uR (Yd _) (I1.hok.fresh (Yd _))
theorem iy {K:bG}{l:Expr}{ta:TA}{p pos:Pos}(hK:X.K=K)(hg:Gl X "enumerate")(hm:X.mg "enumerate"=q?)(ha:PA X [l] ta)(hs:I? [l] X.env=[(false,eval l X.env)]:=by rfl):
  PI X (.Tuple elts k tpos) (.Call (.Name "enumerate" p) [l] [] pos) (Lv K ta):=by subst hK;exact J2 hg hm ha hs
end
theorem j_ {K:bG}{a:o?}{st:Nat}{xs:List V}{g:TG}{tb:TS}{D:Ends}{σ:St}{H:Hp}(Pv:Nat->St->Hp->Prop)(h0:Pv 0 σ H)(hl:∀i σ H,i<=xs.length->Pv i σ H->aN K H a xs)
  (hs:∀i x σ H r,xs[i]?=j? x->Pv i σ H->H r=q?->g (.ref r) σ (upd H r (.tup [.int ((st+i:Nat):Int),x])) λσ2 H2=>tb { D with nx:=Pv (i+1),ct:=Pv (i+1),bk:=D.nx } σ2 H2) (hd:∀σ H,Pv xs.length σ H->D.nx σ H):
  ∃W:Nat->Nat->St->Hp->Prop,(∃m,W 0 m σ H)/\∀i m σ H,W i m σ H->
   ((Oc K a st).stop i H/\D.nx σ H)\/((Oc K a st).go i H/\∃N:St->Hp->Prop,(∀σ' H',N σ' H'->∃m',m'<m/\W (i+1) m' σ' H')/\∀x H',(Oc K a st).MA i H x H'->g x σ H' λσ2 H2=>tb { D with nx:=N,ct:=N,bk:=D.nx } σ2 H2):=by
 refine⟨λi m σ H=>m=xs.length-i/\i<=xs.length/\Pv i σ H,⟨xs.length,by simp,Yw _,h0⟩,?_⟩
 rintro i m σ H ⟨rfl,hi,p⟩;have q:=hl i σ H hi p;by_cases hlt:i<xs.length
 ·refine .inr ⟨⟨xs,xs[i],q,by simp[hlt]⟩,Pv (i+1),λσ' H' p'=>⟨xs.length-(i+1),by omega,rfl,hlt,p'⟩,λv H' y=>?_⟩
  obtain⟨r,x,e1,hr,hx,e2⟩:=y;subst e1 e2;exact hs i x σ _ r (hx xs q) p hr
 ·have e:i=xs.length:=by omega
  subst e;exact .inl ⟨⟨xs,q,Yd _⟩,hd σ H p⟩
theorem xR {K:bG}{a D:o?}{Rm:Nat}{xs:List V}{st:St}{g:TG}{nT:TT}{te:TE}{H1:Hp}{Q:VK}(Pv:Nat->List V->Hp->Prop)(h0:Pv 0 [] (upd H1 D (.lst [])))
  (hl:∀i ys H2,H2 D=j? (.lst ys)->Pv i ys H2->aN K H2 a xs)
  (hs:∀i m x ys H2 r,m=xs.length-i->i<xs.length->xs[i]?=j? x->H2 D=j? (.lst ys)->ys.length<=i->Pv i ys H2->H2 r=q?->g (.ref r) st (upd H2 r (.tup [.int ((Rm+i:Nat):Int),x])) λσ3 H3=>nT σ3 H3 λb H4=>
   if b=true then te σ3 H4 λy H5=>∃ys,H5 D=j? (.lst ys)/\ys.length<K?/\∃m',m'<m/\CW xs.length D Pv (i+1) m' (upd H5 D (.lst (ys++[y]))) else ∃m',m'<m/\CW xs.length D Pv (i+1) m' H4)
  (hd:∀ys H2,H2 D=j? (.lst ys)->Pv xs.length ys H2->Q (.ref D) H2):
  tQ (Oc K a Rm) D st g nT te Q H1:=by
 refine⟨CW xs.length D Pv,⟨xs.length,by simp,Yw _,[],av,Yd _,h0⟩,?_⟩
 rintro i m H2 ⟨hm,hi,ys,hy,hlen,p⟩;have q:=hl i ys H2 hy p;by_cases hlt:i<xs.length
 ·refine .inr ⟨⟨xs,xs[i],q,by simp[hlt]⟩,λv H' y=>?_⟩
  obtain⟨r,x,e1,hr,hx,e2⟩:=y;subst e1 e2;exact hs i m x ys _ r hm hlt (hx xs q) hy hlen p hr
 ·have e:i=xs.length:=by omega
  subst e;exact .inl ⟨⟨xs,q,Yd _⟩,hd ys H2 hy p⟩
def Od (top:Int)(n:Nat):It:=⟨λi _=>i<n,λi H x H'=>H'=H/\x=.int (top-i),λi _=>n<=i⟩
theorem xS {P:F?}{w:H?}{K:bG}{tg:Expr}(it:o?)(top:Int)(n:Nat):Turn P w K tg (Od top n) [it] it (λi h=>IsRangeIter h it (top+(i:Nat)*(-1)) ((n:Int)-(i:Nat)) (-1)) where
 mem:=by simp
 obj:=λi h st b hb=>by
  have e:b=it:=by simpa using hb
  subst e;exact⟨_,st,λv z=>by
   have z':Data.fields _=Data.cell v:=z;cases z'⟩
 keep:=λi h h' st k=>k it (by simp) _ st
 item:=by
  intro X hP hw hK hc i pins s σ H E I hf st hg;subst hP hw hK;obtain⟨f0,f1,f2,f3,f4,f5⟩:=hf it (by simp)
  have W:=Walks.range (prog:=X.prog) (w:=X.w) (I.ok.hd hc) it top (-1) n;refine W.item i s _ _ hg st λv h' tk hv st' kk=>?_
  obtain⟨t,rfl⟩:=hv;have I1:Inv X pins σ H { s with heap:=h',toks:=tk }:=I.turned (λb o hb e=>kk b o (by simpa using hb) e) f0 f1 f3 f4 f5
  refine⟨_,rfl,F6 (s:={ s with heap:=h',toks:=tk }) (n:="range_iterator") st' rfl rfl (by decide) ⟨.int (top-i),H,I1,⟨t,?_⟩,⟨rfl,rfl⟩,st',λb hb=>(hf b hb).1⟩⟩
  have e:top+(i:Int)*(-1)=top-(i:Int):=by omega
  rw[e]
 done:=by
  intro X hP hw hK hc i pins s σ H E I hf st hg;subst hP hw hK;obtain⟨f0,f1,f2,f3,f4,f5⟩:=hf it (by simp)
  exact wpAny_pyNext_range_end (I.ok.hd hc) st (by have:n<=i:=hg;omega) λh' eb=>⟨rfl,I.turned (t':=s.toks) (λb o hb e=>eb b o hb e) f0 f1 f3 f4 f5⟩
 self:=λ_ _ _ _ _ st h=>wpAny_pyIter_rangeiter st h
theorem Gx (hi:Int):Builtin.Range.rangeSize 0 hi 1=if 0<hi then hi else 0:=by
 rw[rangeSize_one];by_cases h:0<hi
 ·rw[W7 h,W7 h];omega
 ·rw[W6 h,W6 h]
theorem t6:isSubtype (.type "range_iterator") (.type "reversed")=pure false:=by rw[isSubtype_type];kernel_rfl
theorem t7 (r:o?)(a b c:Int)(t u v:Tok)(hc0:¬ (!(Builtin.Range.rangeFitsLong a && Builtin.Range.rangeFitsLong b && Builtin.Range.rangeFitsLong c && Builtin.Range.rangeFitsLong (-c) && Builtin.Range.rangeFitsLong (a-c) && Builtin.Range.rangeFitsLong (Builtin.Range.rangeSize a b c)))=true):
  Meets (Builtin.«range.__reversed__» ⟨[.ref r],[]⟩) (λ_ R s=>s.heap.get? r=j? { cls:=.type "range",dict:=q?,data:=.fields #[.int a t,.int b u,.int c v],slots:=#[] }/\
   R (.ok (.ret (I! s.heap.objs.size))) { s with heap:=s.heap.push { cls:=Value.type (if (Builtin.Range.rangeFitsLong a && Builtin.Range.rangeFitsLong b && Builtin.Range.rangeFitsLong c && Builtin.Range.rangeFitsLong (-c) && Builtin.Range.rangeFitsLong (a-c) && Builtin.Range.rangeFitsLong (Builtin.Range.rangeSize a b c))=true then "range_iterator" else "longrange_iterator"),data:=Data.fields #[rawInt (a+(Builtin.Range.rangeSize a b c-1)*c),rawInt (Builtin.Range.rangeSize a b c),rawInt (-c)] },toks:=s.toks }):=
 .of_wp λprog w A R s h=>by obtain⟨hp,g,d,tk,os⟩:=s;obtain⟨hl,h⟩:=h;wp_walk;exact⟨_,rfl,h⟩
section
variable {prog:F?} {w:H?} {A:A!} {E:l?->u?->Prop} {s:u?}
theorem oO {x:Int}(h1:-(2 ^ 62)-2<=x)(h2:x<=2 ^ 62+2):Builtin.Range.rangeFitsLong x=true:=by
 unfold Builtin.Range.rangeFitsLong;simp only[T?,decide_eq_true_eq]
 omega
theorem u7 {r:o?}{hi:Int}{t u v:Tok}{Q:l?->u?->Prop}(hr:IsRange s.heap r 0 hi 1 t u v)(h3:-(2 ^ 62)<=hi)(h4:hi<2 ^ 62)
  (h:Q (.ref s.heap.objs.size) { s with heap:=s.heap.push { cls:=.type "range_iterator",data:=.fields #[rawInt (0+((if 0<hi then hi else 0)-1)*1),rawInt (if 0<hi then hi else 0),rawInt (-1)] } }):
  L? (S? prog w) A (call (.builtin "range.__reversed__") [.ref r]) Q E s:=by
 have hs:(Builtin.Range.rangeFitsLong 0 && Builtin.Range.rangeFitsLong hi && Builtin.Range.rangeFitsLong 1 && Builtin.Range.rangeFitsLong (-1) && Builtin.Range.rangeFitsLong (0-1) && Builtin.Range.rangeFitsLong (Builtin.Range.rangeSize 0 hi 1))=true:=by
  rw[Gx];simp only[T?]
  refine⟨⟨⟨⟨⟨oO (by decide) (by decide),oO (by omega) (by omega)⟩,oO (by decide) (by decide)⟩,oO (by decide) (by decide)⟩,oO (by decide) (by decide)⟩,?_⟩
  split
  ·exact oO (by omega) (by omega)
  ·exact oO (by decide) (by decide)
 refine call_meets PySem.F.slot_range_reversed ⟨_,hr,rfl⟩ PySem.F.entry_range_reversed (PySem.F.args_range_reversed_1 _) (t7 r 0 hi 1 t u v (by rw[hs];simp)) ⟨hr,?_⟩
 rw[hs,Gx];simp only[if_true]
 exact h
theorem qA {r:o?}{hi:Int}{t u v:Tok}{Q1:l?->u?->Prop}(hr:IsRange s.heap r 0 hi 1 t u v)(h3:-(2 ^ 62)<=hi)(h4:hi<2 ^ 62)
  (h:Q1 (.ref s.heap.objs.size) { s with heap:=s.heap.push { cls:=.type "range_iterator",data:=.fields #[rawInt (0+((if 0<hi then hi else 0)-1)*1),rawInt (if 0<hi then hi else 0),rawInt (-1)] } }):
  codeAny (S? prog w) A (.call (.builtin "reversed.__new__") ⟨[.type "reversed",.ref r],[]⟩) (wants Q1 E) s:=by
 have hT:s.TypeIs (.ref r) "range":=⟨_,hr,rfl⟩;refine codeAny_of_tree ?_
 show L? _ A.in1 (do checkBuiltinCall "reversed.__new__" ⟨[.type "reversed",.ref r],[]⟩;again (.builtin "reversed.__new__" ⟨[.type "reversed",.ref r],[]⟩)) _ _ s
 refine B? (wpAny_of_eq (PySem.F.newCall_reversed_1 _) (J? ⟨plainId_quiet PySem.F.plain_reversed_new _,codeAny_builtin PySem.F.entry_reversed_new ?_⟩))
 rw[Around.under_plainId PySem.F.plain_reversed_new _];unfold Builtin.«reversed.__new__»;refine B? (wpAny_of_eq (newClass_reversed _) ?_)
 try dsimp only
 refine B? (wpAny_of_eq (a:=()) (by first|rfl|kernel_rfl) ?_)
 refine B? (wpAny_of_eq (a:=()) (by first|rfl|kernel_rfl) ?_)
 try dsimp only
 refine B? (wpAny_specialOf hT PySem.F.slot_range_reversed.lookup ?_)
 try dsimp only
 refine B? (wpAny_of_eq (PySem.F.slot_range_reversed.bind _) ?_)
 try dsimp only
 have nn:¬ ((Value.builtin "range.__reversed__" == Value.none)=true):=E?;rw[W6 nn];refine B? (wpAny_rule ?_)
 refine B? (m:=runValue (.call (.builtin "range.__reversed__") ⟨[.ref r],[]⟩)) (show L? _ _ (call (.builtin "range.__reversed__") [.ref r]) _ _ _ from u7 hr h3 h4 ?_)
 first
 | exact J? h
 | exact B? (J? (J? h))
theorem nU {r:o?}{hi:Int}{t u v:Tok}{Q:l?->u?->Prop}(hr:IsRange s.heap r 0 hi 1 t u v)(h3:-(2 ^ 62)<=hi)(h4:hi<2 ^ 62)
  (h:Q (.ref s.heap.objs.size) { s with heap:=s.heap.push { cls:=.type "range_iterator",data:=.fields #[rawInt (0+((if 0<hi then hi else 0)-1)*1),rawInt (if 0<hi then hi else 0),rawInt (-1)] } }):
  L? (S? prog w) A (call (.type "reversed") [.ref r]) Q E s:=by
 refine callType_other (U:="range_iterator") (Q₁:=λobj s₁=>obj=.ref s.heap.objs.size/\s₁={ s with heap:=s.heap.push { cls:=.type "range_iterator",data:=.fields #[rawInt (0+((if 0<hi then hi else 0)-1)*1),rawInt (if 0<hi then hi else 0),rawInt (-1)] } })
  (by decide +kernel) PySem.F.create_reversed ⟨_,_,PySem.F.mro_reversed⟩ PySem.F.made_reversed t6 (PySem.F.typeCall_reversed_1 _) (qA hr h3 h4 ⟨rfl,rfl⟩) ?_
 rintro obj s1 ⟨rfl,rfl⟩;exact⟨⟨_,Y1 _ rfl,rfl⟩,h⟩
end
section
variable {X:Cx} {tg:Expr}
def Sy (ta:TA):TE:=λσ H Q=>ta σ H λvs H1=>∃j:Int,vs=[.int j]/\∀p,H1 p=q?->Q (.ref p) (upd H1 p (.rC 0 j))
theorem u9 {a:Expr}{ta:TA}{p pos:Pos}(hg:Gl X "range")(hm:X.mg "range"=q?)(ha:PA X [a] ta)(hs:I? [a] X.env=[(false,eval a X.env)]:=by rfl):PE X (.Call (.Name "range" p) [a] [] pos) (Sy ta):=by
 refine⟨?_⟩
 intro pins s σ H Q I h;refine Call_ (jI I hg hm boot_range (L! (eB (ha pos pins s σ H _ I h) λus s1 ⟨vs,H1,I1,r1,q1⟩=>?_) hs rfl))
 obtain⟨j,e,q⟩:=q1;subst e;obtain⟨u,rfl,ru⟩:=vals1 r1;obtain⟨t,rfl⟩:=(show ∃t,u=Value.int j t from ru)
 refine call_range_1 ?_
 exact⟨.ref s1.heap.objs.size,_,I1.laid (o:=.rC 0 j) (λb o e=>Yg _ e) (Yd _) ⟨_,_,_,Y1 _ rfl⟩,rfl,q _ I1.fresh⟩
def Ph (ta:TA):TI:=λσ H R=>ta σ H λvs H1=>∃a,∃n:Int,vs=[.ref a]/\H1 a=j? (.rC 0 n)/\-(2 ^ 62)<=n/\n<2 ^ 62/\R (Od (n-1) n.toNat) H1
theorem yK {l:Expr}{ta:TA}{p pos:Pos}(hg:Gl X "reversed")(hm:X.mg "reversed"=q?)(ha:PA X [l] ta)(hs:I? [l] X.env=[(false,eval l X.env)]:=by rfl):
  PI X tg (.Call (.Name "reversed" p) [l] [] pos) (Ph ta):=by
 intro pins s σ H R I h;refine Call_ (jI I hg hm boot_reversed (L! (eB (ha pos pins s σ H _ I h) λus s1 ⟨vs,H1,I1,r1,q1⟩=>?_) hs rfl))
 obtain⟨a,n,e,hq,h1,h2,q⟩:=q1;subst e;obtain⟨u,rfl,ru⟩:=vals1 r1;cases (show u=I! a from ru)
 obtain⟨t,u,v,hr⟩:=I1.hok a _ hq;refine nU hr h1 h2 ?_
 have en:((n.toNat:Nat):Int)=if 0<n then n else 0:=by split <;> omega
 have hit:IsRangeIter (s1.heap.push { cls:=.type "range_iterator",data:=.fields #[rawInt (0+((if 0<n then n else 0)-1)*1),rawInt (if 0<n then n else 0),rawInt (-1)] }) s1.heap.objs.size (0+((if 0<n then n else 0)-1)*1) (if 0<n then n else 0) (-1):=Y1 _ rfl
 refine wpAny_pyIter_rangeiter (s:={ s1 with heap:=_ }) hit ?_
 by_cases hn:0<n
 ·rw[W7 hn] at en hit ⊢
  refine⟨_,[s1.heap.objs.size],_,_,H1,rfl,I1.kept (t':=s1.toks) λb o e=>Yg _ e,xS s1.heap.objs.size (n-1) n.toNat,?_,λb hb=>?_,q⟩
  ·have e1:n-1+((0:Nat):Int)*(-1)=0+(n-1)*1:=by omega
   have e2:((n.toNat:Nat):Int)-((0:Nat):Int)=n:=by omega
   show IsRangeIter _ _ (n-1+((0:Nat):Int)*(-1)) (((n.toNat:Nat):Int)-((0:Nat):Int)) (-1)
   rw[e1,e2];exact hit
  ·have e:b=s1.heap.objs.size:=by simpa using hb
   subst e;exact I1.uR (Yd _) (I1.hok.fresh (Yd _))
 ·rw[W6 hn] at en hit ⊢
  have e0:n.toNat=0:=by omega
  rw[e0] at q;have tr:Turn X.prog X.w X.K tg (Od (n-1) 0) [s1.heap.objs.size] s1.heap.objs.size (λi h=>IsRangeIter h s1.heap.objs.size (-1+(i:Nat)*(-1)) (((0:Nat):Int)-(i:Nat)) (-1)):=by
   have T:=xS (P:=X.prog) (w:=X.w) (K:=X.K) (tg:=tg) s1.heap.objs.size (-1) 0;exact⟨T.mem,T.obj,T.keep,λX a b c d i pins s σ H E I hf st hg=>Jd (show i<0 from hg) (Wc _),T.done,T.self⟩
  refine⟨_,[s1.heap.objs.size],_,_,H1,rfl,I1.kept (t':=s1.toks) λb o e=>Yg _ e,tr,hit,λb hb=>?_,q⟩
  have e:b=s1.heap.objs.size:=by simpa using hb
  subst e;exact I1.uR (Yd _) (I1.hok.fresh (Yd _))
end
theorem u_ {top:Int}{n:Nat}{g:TG}{tb:TS}{D:Ends}{σ:St}{H:Hp}(Pv:Nat->St->Hp->Prop)(h0:Pv 0 σ H)
  (hs:∀i σ H,i<n->Pv i σ H->g (.int (top-i)) σ H λσ2 H2=>tb { D with nx:=Pv (i+1),ct:=Pv (i+1),bk:=D.nx } σ2 H2) (hd:∀σ H,Pv n σ H->D.nx σ H):
  ∃W:Nat->Nat->St->Hp->Prop,(∃m,W 0 m σ H)/\∀i m σ H,W i m σ H->
   ((Od top n).stop i H/\D.nx σ H)\/((Od top n).go i H/\∃N:St->Hp->Prop,(∀σ' H',N σ' H'->∃m',m'<m/\W (i+1) m' σ' H')/\∀x H',(Od top n).MA i H x H'->g x σ H' λσ2 H2=>tb { D with nx:=N,ct:=N,bk:=D.nx } σ2 H2):=by
 refine⟨λi m σ H=>m=n-i/\i<=n/\Pv i σ H,⟨n,by simp,Yw _,h0⟩,?_⟩
 rintro i m σ H ⟨rfl,hi,p⟩;by_cases hlt:i<n
 ·refine .inr ⟨hlt,Pv (i+1),λσ' H' p'=>⟨n-(i+1),by omega,rfl,hlt,p'⟩,λx H' y=>?_⟩
  obtain⟨e,y⟩:=y;subst e y;exact hs i σ _ hlt p
 ·have e:i=n:=by omega
  subst e;exact .inl ⟨Yd _,hd σ H p⟩
def UU (tb:TS)(D:Ends)(Pv:St->Hp->Prop)(μ:St->Hp->Nat)(m:Nat)(σ:St)(H1:Hp):Prop:=
 ∃N:St->Hp->Prop,(∀σ' H',N σ' H'->∃m',m'<m/\(m'=μ σ' H'/\Pv σ' H'))/\tb { D with nx:=N,ct:=N,bk:=D.nx } σ H1
theorem win {tb:TS}{D:Ends}{Pv:St->Hp->Prop}{μ:St->Hp->Nat}{m:Nat}{σ:St}{H1:Hp}(h:tb { D with nx:=λσ' H'=>Pv σ' H'/\μ σ' H'<m,ct:=λσ' H'=>Pv σ' H'/\μ σ' H'<m,bk:=D.nx } σ H1):UU tb D Pv μ m σ H1:=
 ⟨_,λσ' H' ⟨p,l⟩=>⟨_,l,rfl,p⟩,h⟩
theorem i_ {c:TT}{tb:TS}{D:Ends}{σ:St}{H:Hp}(Pv:St->Hp->Prop)(μ:St->Hp->Nat)(h0:Pv σ H)
  (hs:∀σ H,Pv σ H->c σ H λb H1=>if b=true then UU tb D Pv μ (μ σ H) σ H1 else D.nx σ H1):BA c tb D σ H:=by
 refine⟨λm σ H=>m=μ σ H/\Pv σ H,⟨_,rfl,h0⟩,?_⟩
 rintro m σ H ⟨rfl,p⟩;exact hs σ H p
theorem merge {C:St->Hp->Prop}{G:Prop}(M:St->Hp->Prop)(h1:(∀σ H,M σ H->C σ H)->G)(h2:∀σ H,M σ H->C σ H):G:=h1 h2
def aq (f:List Int)(i:Nat):Int:=f.getD i 0
theorem iz (i:Nat):aq [] i=0:=by simp[aq]
theorem aX {f:List Int}{i:Nat}(h:f.length<=i):aq f i=0:=by
 unfold aq;rw[Yb,Wi h];rfl
theorem dR {f:List Int}{i:Nat}(h:i<f.length):aq f i=f[i]:=by
 unfold aq;rw[Yb,Yc h];rfl
theorem kc {f:List Int}{i:Nat}{x:Int}(h:f[i]?=j? x):aq f i=x:=by
 unfold aq;rw[Yb,h];rfl
theorem qB {f g:List Int}(hl:f.length=g.length)(h:∀i,i<f.length->aq f i=aq g i):f=g:=by
 refine List.ext_getElem hl λi h1 h2=>?_
 rw[<- dR h1,<- dR h2];exact h i h1
theorem mF {n:Nat}{c:Nat->Int}{i:Nat}(h:i<n):aq ((Yk n).map c) i=c i:=by
 rw[dR (by simpa using h)]
 simp
theorem fK {n:Nat}{c:Nat->Int}(hc:∀i,n<=i->c i=0)(i:Nat):aq ((Yk n).map c) i=c i:=by
 by_cases h:i<n
 ·exact mF h
 ·rw[aX (by simp;omega),hc i (by omega)]
theorem qC {f:List Int}{k:Nat}{v:Int}(hk:k<f.length)(i:Nat):aq (f.set k v) i=if i=k then v else aq f i:=by
 unfold aq;rw[Yb,List.getElem?_set];by_cases h:k=i
 ·subst h
  simp[hk]
 ·rw[W6 h,W6 (Ne.symm h),Yb]
theorem EJ {f:List Int}{n i:Nat}(h:i<n):aq (f.take n) i=aq f i:=by
 unfold aq;rw[Yb,List.getElem?_take,W7 h,Yb]
theorem yL {f:List Int}{n i:Nat}(h:n<=i):aq (f.take n) i=0:=aX (by rw[Yx];omega)
theorem Gy {f:List Int}{g:Int->Int}(h0:g 0=0)(i:Nat):aq (f.map g) i=g (aq f i):=by
 by_cases h:i<f.length
 ·rw[dR (by simpa using h),dR h];simp
 ·rw[aX (by simp;omega),aX (by omega),h0]
theorem jD {f g:List Int}(i:Nat):aq (f++g) i=if i<f.length then aq f i else aq g (i-f.length):=by
 unfold aq;rw[Yb,List.getElem?_append];split
 ·rw[Yb]
 ·rw[Yb]
theorem cL (n i:Nat):aq (Yn n 0) i=0:=by
 by_cases h:i<n
 ·rw[dR (by simpa using h)];simp
 ·exact aX (by simp;omega)
theorem Ag (f:List Int)(n i:Nat):aq (f++Yn n 0) i=aq f i:=by
 rw[jD];split
 ·rfl
 ·rw[cL,aX (by omega)]
def gx (f:List Int):Nat->Nat
 | 0=>0
 | n+1=>if aq f n=0 then gx f n else n+1
def trim (f:List Int):List Int:=f.take (gx f f.length)
def Norm (f:List Int):Prop:=f=[]\/aq f (f.length-1)≠0
theorem qD (f:List Int):∀n,gx f n<=n
 | 0=>Yd _
 | n+1=>by
  unfold gx;split
  ·exact Nat.le_succ_of_le (qD f n)
  ·exact Yd _
theorem Ah (f:List Int):∀n,gx f n=0\/aq f (gx f n-1)≠0
 | 0=>.inl rfl
 | n+1=>by
  unfold gx;split
  ·exact Ah f n
  ·rename_i h;exact .inr h
theorem xT (f:List Int):∀n i,gx f n<=i->i<n->aq f i=0
 | 0,i,_,h=>Jd h (Wc _)
 | n+1,i,h1,h2=>by
  unfold gx at h1;split at h1
  ·rename_i h
   by_cases e:i=n
   ·rw[e];exact h
   ·exact xT f n i h1 (by omega)
  ·omega
theorem f6 (f:List Int):(trim f).length=gx f f.length:=by
 unfold trim;rw[Yx,Nat.min_eq_left (qD f _)]
theorem dX (f:List Int)(i:Nat):aq (trim f) i=aq f i:=by
 unfold trim;by_cases h:i<gx f f.length
 ·exact EJ h
 ·rw[yL (by omega)]
  by_cases h2:i<f.length
  ·exact(xT f _ i (by omega) h2).symm
  ·exact(aX (by omega)).symm
theorem iX (f:List Int):Norm (trim f):=by
 rcases Ah f f.length with h|h
 ·left
  have:(trim f).length=0:=by rw[f6];exact h
  exact List.length_eq_zero_iff.mp this
 ·right
  rw[dX,f6];exact h
theorem qE {f g:List Int}(hf:Norm f)(hg:Norm g)(h:∀i,aq f i=aq g i):f=g:=by
 have key:∀ {f g:List Int},Norm f->(∀i,aq f i=aq g i)->f.length<=g.length:=by
  intro f g hf h;rcases hf with rfl|hf
  ·exact Yw _
  ·refine V? λhn=>hf ?_
   rw[h];exact aX (by omega)
 have hl:f.length=g.length:=Nat.le_antisymm (key hf h) (key hg λi=>(h i).symm)
 exact qB hl λi _=>h i
theorem Gz {f g:List Int}(h:∀i,aq f i=aq g i):trim f=trim g:=qE (iX f) (iX g) λi=>by rw[dX,dX,h]
theorem EK {f:List Int}(h:Norm f):trim f=f:=qE (iX f) h λi=>dX f i
theorem Norm.last {f:List Int}(h:Norm f)(hne:f≠[]):aq f (f.length-1)≠0:=by
 rcases h with h|h
 ·exact Jd h hne
 ·exact h
def GA (f g:List Int):List Int:=(Yk (max f.length g.length)).map λi=>aq f i+aq g i
theorem EL (f g:List Int)(i:Nat):aq (GA f g) i=aq f i+aq g i:=
 fK (λi h=>by rw[aX (by omega),aX (by omega)];rfl) i
def lW (f g:List Int):List Int:=trim (GA f g)
theorem kg (f g:List Int)(i:Nat):aq (lW f g) i=aq f i+aq g i:=by
 unfold lW;rw[dX,EL]
theorem kh (f g:List Int):Norm (lW f g):=iX _
def fE (f g:List Int):Nat->Nat->Int
 | 0,_=>0
 | i+1,m=>fE f g i m+(if i<=m then aq f i*aq g (m-i) else 0)
def conv (f g:List Int)(m:Nat):Int:=fE f g f.length m
def oq (f g:List Int)(i j m:Nat):Int:=fE f g i m+(if i<=m/\m-i<j then aq f i*aq g (m-i) else 0)
theorem vc (f g:List Int)(i m:Nat):oq f g i 0 m=fE f g i m:=by
 unfold oq;rw[W6 (by omega),Zu]
theorem xU (f g:List Int)(i m:Nat):oq f g i g.length m=fE f g (i+1) m:=by
 show _=fE f g i m+_
 unfold oq;congr 1
 by_cases h:i<=m
 ·by_cases h2:m-i<g.length
  ·rw[W7 ⟨h,h2⟩,W7 h]
  ·rw[W6 (by omega),W7 h,aX (f:=g) (by omega),Y4]
 ·rw[W6 (by omega),W6 h]
theorem ve (f g:List Int)(i j m:Nat):oq f g i (j+1) m=if m=i+j then oq f g i j m+aq f i*aq g j else oq f g i j m:=by
 unfold oq;by_cases h:m=i+j
 ·subst h
  have e:i+j-i=j:=by omega
  rw[W7 rfl,W7 ⟨by omega,by omega⟩,W6 (by omega),e]
  omega
 ·rw[W6 h]
  congr 1
  by_cases h1:i<=m/\m-i<j
  ·rw[W7 h1,W7 ⟨h1.1,by omega⟩]
  ·rw[W6 h1,W6 (by omega)]
theorem tT (f g:List Int):∀(i m:Nat),f.length<=i->fE f g i m=fE f g f.length m
 | 0,m,h=>by
  have:f.length=0:=by omega
  rw[this]
 | i+1,m,h=>by
  by_cases e:f.length=i+1
  ·rw[e]
  ·show fE f g i m+_=_
   rw[tT f g i m (by omega),aX (f:=f) (i:=i) (by omega)]
   simp
theorem rS (f g:List Int):∀(i m:Nat),(∀a,a<i->a<=m->aq f a*aq g (m-a)=0)->fE f g i m=0
 | 0,m,_=>rfl
 | i+1,m,h=>by
  show fE f g i m+_=0
  rw[rS f g i m λa h1 h2=>h a (by omega) h2]
  by_cases hi:i<=m
  ·rw[W7 hi,h i (by omega) hi];rfl
  ·rw[W6 hi];rfl
theorem mG (f g:List Int)(m:Nat)(h:f.length+g.length<=m+1):conv f g m=0:=
 rS f g f.length m λa h1 h2=>by rw[aX (f:=g) (by omega),Y4]
def d9 (f g:List Int):List Int:=if f=[]\/g=[] then [] else (Yk (f.length+g.length-1)).map (conv f g)
theorem nu (f g:List Int)(m:Nat):aq (d9 f g) m=conv f g m:=by
 unfold d9;by_cases h:f=[]\/g=[]
 ·rw[W7 h,iz]
  rcases h with rfl|rfl
  ·rfl
  ·exact(rS f [] f.length m λa _ _=>by rw[iz,Y4]).symm
 ·rw[W6 h]
  refine fK (λi hi=>mG f g i ?_) m
  have:0<f.length:=List.length_pos_iff.mpr λz=>h (.inl z)
  omega
def fP (m:Nat)(f:List Int):Prop:=∀x∈f,Bd m x
theorem fP.aq {m:Nat}{f:List Int}(h:fP m f)(i:Nat):Bd m (aq f i):=by
 by_cases hi:i<f.length
 ·rw[dR hi];exact h _ (Yy hi)
 ·rw[aX (by omega)]
  show Zz 0<2 ^ m
  exact Z5 (by decide)
theorem fP.mono {m n:Nat}{f:List Int}(h:fP m f)(hmn:m<=n):fP n f:=λx hx=>(h x hx).mono hmn
theorem vf {m:Nat}{f:List Int}(h:∀i,i<f.length->Bd m (aq f i)):fP m f:=λx hx=>by
 obtain⟨i,hi,rfl⟩:=Z6 hx;rw[<- dR hi];exact h i hi
theorem fP.trim {m:Nat}{f:List Int}(h:fP m f):fP m (trim f):=λx hx=>h x (List.mem_of_mem_take hx)
theorem DF (m:Nat):Bd m 0:=Z5 (by decide)
theorem fP.fE {m n:Nat}{f g:List Int}(hf:fP m f)(hg:fP n g):∀(i k:Nat),Bd (m+n+i) (fE f g i k)
 | 0,k=>DF _
 | i+1,k=>by
  have ih:=fP.fE hf hg i k;have h2:Bd (m+n+i) (if i<=k then L2.aq f i*L2.aq g (k-i) else 0):=by
   split
   ·exact((hf.aq i).mul (hg.aq (k-i))).mono (by omega)
   ·exact DF _
  exact(ih.add h2).mono (by omega)
theorem fP.d9 {m n:Nat}{f g:List Int}(hf:fP m f)(hg:fP n g):fP (m+n+f.length) (d9 f g):=vf λi _=>by
 rw[nu];exact fP.fE hf hg _ _
def MX (H:Hp)(Q:VK)(ns:List Int):Prop:=∀p H',aG H H'->H p=q?->H' p=j? (.lst (ns.map V.int))->Q (.ref p) H'
theorem rT (ns:List Int)(k:Nat)(h:k<=ns.length):iD (ns.map V.int) q? (j? (k:Int))=(ns.take k).map V.int:=by
 unfold iD;have e1:HT.qi (ns.map V.int).length 0 q?=0:=rfl;have e2:HT.qi (ns.map V.int).length (ns.map V.int).length (j? (k:Int))=k:=by
  rw[HT.kI,Ya];omega
 rw[e1,e2];simp
theorem qF (n:Nat):(Yn n [V.int 0]).flatten=(Yn n (0:Int)).map V.int:=by
 induction n with
 | zero=>rfl
 | succ n ih=>rw[Zo,Wl,ih,Zo];rfl
theorem aU {ns:List Int}{i:Nat}{x:V}(h:(ns.map V.int)[i]?=j? x):∃n,ns[i]?=j? n/\x=.int n:=by
 rw[Ye] at h;cases e:ns[i]? with
 | none=>rw[e] at h;cases h
 | some n=>rw[e] at h;exact⟨n,rfl,(M? h).symm⟩
theorem oQ {ns:List Int}{i:Nat}(h:i<ns.length):(ns.map V.int)[i]?=j? (.int (aq ns i)):=by
 rw[Ye,Yc h,dR h];rfl
theorem fL {ns:List Int}{i:Int}(h0:0<=i)(h1:i<(ns.length:Int)):rF (ns.map V.int) i=j? (.int (aq ns i.toNat)):=by
 have hi:i.toNat<(ns.map V.int).length:=by rw[Ya];omega
 rw[iw h0 hi];rw[dR (by rw[Ya] at hi;exact hi)]
 simp
theorem mH (ns:List Int)(i:Nat)(v:Int):(ns.map V.int).set i (.int v)=(ns.set i v).map V.int:=by rw[List.map_set]
theorem yM {n:Nat}{k:Int}(h0:0<=k)(h1:k<(n:Int)):Jw n k=j? k.toNat:=by
 unfold Jw;rw[W7 h0];first
  | rw[W7 h1]
  | rw[W7 (by omega)]
def Lw (K:bG):V->V->Hp->VK->Prop:=λx y H Q=>∃p xs i v,x=.ref p/\y=.int i/\aN K H p xs/\0<=i/\xs[i.toNat]?=j? v/\Q v H
theorem GB {X:Cx}:Mw X (Lw X.K):=by
 intro pins s σ H o i ov iv Q I ro ri h;obtain⟨p,xs,k,v,rfl,rfl,hq,h0,hx,q⟩:=h;cases ro;obtain⟨t,rfl⟩:=ri;obtain⟨its,r,pl,hz⟩:=I.list hq;obtain⟨u,hu,ru⟩:=r.get hx;have hl:=r.length;have hi:k.toNat<its.length:=(List.getElem?_eq_some_iff.mp hu).1;have hn:=uW;exact wpAny_getItem_list pl.isList h0 (by omega) (by simpa using hu) ⟨v,H,I,ru,q⟩
theorem xV {X:Cx}{K:bG}(h:X.K=K):Mw X (Lw K):=by subst h;exact GB
theorem Ai {ns:List Int}(h:ns≠[]):rF (ns.map V.int) (-1)=j? (.int (aq ns (ns.length-1))):=by
 have hl:0<ns.length:=List.length_pos_iff.mpr h;unfold rF Jw;rw[W6 (by decide),W7 (by rw[Ya];omega),Ya]
 have e:(-1+(ns.length:Int)).toNat=ns.length-1:=by omega
 show(ns.map V.int)[(-1+(ns.length:Int)).toNat]?=_
 rw[e];exact oQ (by omega)
theorem fP.snoc {m:Nat}{f:List Int}{x:Int}(h:fP m f)(hx:Bd m x):fP m (f++[x]):=λy hy=>by
 rcases List.mem_append.mp hy with z|z
 ·exact h y z
 ·have:y=x:=by simpa using z
  rw[this];exact hx
theorem qG (f:List Int)(x:Int):f.map V.int++[V.int x]=(f++[x]).map V.int:=by simp
theorem vg (ns:List Int)(k:Nat):iD (ns.map V.int) q? (j? (k:Int))=(ns.take k).map V.int:=by
 by_cases h:k<=ns.length
 ·exact rT ns k h
 ·unfold iD
  have e1:HT.qi (ns.map V.int).length 0 q?=0:=rfl;have e2:HT.qi (ns.map V.int).length (ns.map V.int).length (j? (k:Int))=ns.length:=by
   rw[HT.kI,Ya];omega
  rw[e1,e2,Zm (by simp),Zm (by omega)]
  simp
theorem fP.take {m:Nat}{f:List Int}(h:fP m f)(n:Nat):fP m (f.take n):=λx hx=>h x (List.mem_of_mem_take hx)
theorem vh (f g:List Int):∀(i m:Nat),m+1<=i->fE f g i m=fE f g (m+1) m
 | 0,m,h=>Jd h (by omega)
 | i+1,m,h=>by
  by_cases e:m=i
  ·rw[e]
  ·show fE f g i m+_=_
   rw[vh f g i m (by omega),W6 (by omega),Zu]
theorem qH (f g:List Int)(m:Nat):conv f g m=fE f g (m+1) m:=by
 unfold conv;by_cases h:f.length<=m+1
 ·exact(tT f g (m+1) m h).symm
 ·exact vh f g f.length m (by omega)
theorem vj {f f' g g':List Int}(hf:∀a,aq f a=aq f' a)(hg:∀a,aq g a=aq g' a):∀(i m:Nat),fE f g i m=fE f' g' i m
 | 0,m=>rfl
 | i+1,m=>by
  show fE f g i m+_=fE f' g' i m+_
  rw[vj hf hg i m,hf,hg]
theorem vm {f f' g g':List Int}(hf:∀a,aq f a=aq f' a)(hg:∀a,aq g a=aq g' a)(m:Nat):conv f g m=conv f' g' m:=by
 rw[qH,qH,vj hf hg]
theorem Aj {u f g:List Int}{t:Nat}{c:Int}(hc:∀a,aq u a=aq f a+if a=t then c else 0):∀(i m:Nat),fE u g i m=fE f g i m+if t<i/\t<=m then c*aq g (m-t) else 0
 | 0,m=>by
  rw[W6 (by omega)];simp[fE]
 | i+1,m=>by
  show fE u g i m+_=fE f g i m+_+_
  rw[Aj hc i m,hc];by_cases hi:i<=m
  ·rw[W7 hi,W7 hi]
   by_cases e:i=t
   ·subst e
    rw[W6 (by omega),W7 rfl,W7 ⟨by omega,hi⟩,Int.add_mul]
    omega
   ·rw[W6 e,Zu]
    by_cases h2:t<i/\t<=m
    ·rw[W7 h2,W7 ⟨by omega,h2.2⟩];omega
    ·rw[W6 h2,W6 (by omega)];omega
  ·rw[W6 hi,W6 hi]
   by_cases h2:t<i/\t<=m
   ·rw[W7 h2,W7 ⟨by omega,h2.2⟩];omega
   ·rw[W6 h2,W6 (by omega)]
theorem GC {u f g:List Int}{t:Nat}{c:Int}(hc:∀a,aq u a=aq f a+if a=t then c else 0)(m:Nat):conv u g m=conv f g m+if t<=m then c*aq g (m-t) else 0:=by
 rw[qH,qH,Aj hc];congr 1
 by_cases h:t<=m
 ·rw[W7 h,W7 ⟨by omega,h⟩]
 ·rw[W6 h,W6 (by omega)]
def dh (g:List Int):Prop:=g≠[]/\aq g (g.length-1)=1
theorem vn {f:List Int}{d:Nat}:∀n,(∀m,d<=m->m<n->aq f m=0)->gx f n<=d
 | 0,_=>Yw _
 | n+1,h=>by
  unfold gx;split
  ·exact vn n λm h1 h2=>h m h1 (by omega)
  ·rename_i hne
   refine V? λhn=>hne ?_
   exact h n (by omega) (by omega)
structure vo (f g q r:List Int):Prop where
 eq:∀m,aq f m=conv q g m+aq r m
 nq:Norm f->Norm q
 nr:Norm r
 len:r.length<g.length
 lq:q.length=f.length-(g.length-1)
def Jz (N i:Nat)(Qr:List Int):List Int:=Yn (N-i) 0++Qr.reverse
theorem GD {l:List Int}{i:Nat}(h:i<l.length):aq l.reverse i=aq l (l.length-1-i):=by
 rw[dR (by rw[Zw];exact h),dR (by omega)]
 rw[List.getElem_reverse]
theorem GF {N i:Nat}{Qr:List Int}{c:Int}(hl:Qr.length=i)(hi:i<N)(a:Nat):aq (Jz N (i+1) (Qr++[c])) a=aq (Jz N i Qr) a+if a=N-1-i then c else 0:=by
 unfold Jz;have e0:(Qr++[c]).reverse=c::Qr.reverse:=by simp
 rw[e0,jD (f:=Yn (N-(i+1)) 0),jD (f:=Yn (N-i) 0),Yv,Yv];by_cases h1:a<N-(i+1)
 ·rw[W7 h1,W7 (by omega),W6 (by omega),cL,cL];rfl
 ·rw[W6 h1]
  by_cases h2:a=N-1-i
  ·rw[W7 h2,W7 (by omega),cL]
   have e:a-(N-(i+1))=0:=by omega
   rw[e];show c=0+c
   omega
  ·rw[W6 h2,W6 (by omega)]
   have e:a-(N-(i+1))=(a-(N-i))+1:=by omega
   rw[e];show aq (c::Qr.reverse) ((a-(N-i))+1)=_
   have:aq (c::Qr.reverse) ((a-(N-i))+1)=aq Qr.reverse (a-(N-i)):=by simp[aq]
   rw[this];omega
theorem J3 {N:Nat}{Qr:List Int}(hl:Qr.length=N):Jz N N Qr=Qr.reverse:=by
 unfold Jz;rw[Nat.sub_self];rfl
structure xW (f g:List Int)(N i:Nat)(Qr R:List Int):Prop where
 lq:Qr.length=i
 lr:R.length=f.length
 eq:∀m,m<R.length->aq R m=aq f m-conv (Jz N i Qr) g m
 top:∀m,f.length-i<=m->m<R.length->aq R m=0
 lead:0<i->aq Qr 0=aq f (f.length-1)
def Lx (g:List Int)(R R':List Int)(t:Nat)(lead:Int)(j:Nat):Prop:=R'.length=R.length/\∀m,m<R.length->aq R' m=aq R m-if t<=m/\m-t<j then lead*aq g (m-t) else 0
theorem Lx.start (g R:List Int)(t:Nat)(lead:Int):Lx g R R t lead 0:=⟨rfl,λm _=>by rw[W6 (by omega)];omega⟩
theorem Lx.step {g R R':List Int}{t:Nat}{lead:Int}{j:Nat}(h:Lx g R R' t lead j)(hj:t+j<R.length):Lx g R (R'.set (t+j) (aq R' (t+j)-lead*aq g j)) t lead (j+1):=by
 refine⟨by rw[Ws];exact h.1,λm hm=>?_⟩
 rw[qC (by rw[h.1];exact hj)]
 by_cases e:m=t+j
 ·subst e
  have e2:t+j-t=j:=by omega
  rw[W7 rfl,W7 ⟨by omega,by omega⟩,h.2 _ hm,W6 (by omega),e2]
  omega
 ·rw[W6 e,h.2 m hm]
  congr 1
  by_cases h1:t<=m/\m-t<j
  ·rw[W7 h1,W7 ⟨h1.1,by omega⟩]
  ·rw[W6 h1,W6 (by omega)]
theorem xW.next {f g Qr R R':List Int}{N i:Nat}(hg:dh g)(hN:N=f.length-(g.length-1))(D:xW f g N i Qr R)(hi:i<N)(h:Lx g R R' (N-1-i) (aq R (N-1-i+(g.length-1))) g.length):
  xW f g N (i+1) (Qr++[aq R (N-1-i+(g.length-1))]) R':=by
 have UW:0<g.length:=List.length_pos_iff.mpr hg.1;have lr:=D.lr;have lq:=D.lq;refine⟨by rw[Yi,D.lq];rfl,h.1.trans D.lr,λm hm=>?_,λm h1 h2=>?_,λ_=>?_⟩
 ·rw[h.1] at hm
  rw[h.2 m hm,D.eq m hm,GC (GF (c:=aq R (N-1-i+(g.length-1))) D.lq hi)];have:(if N-1-i<=m/\m-(N-1-i)<g.length then aq R (N-1-i+(g.length-1))*aq g (m-(N-1-i)) else 0)=if N-1-i<=m then aq R (N-1-i+(g.length-1))*aq g (m-(N-1-i)) else 0:=by
   by_cases h1:N-1-i<=m
   ·by_cases h2:m-(N-1-i)<g.length
    ·rw[W7 ⟨h1,h2⟩,W7 h1]
    ·rw[W6 (by omega),W7 h1,aX (f:=g) (by omega),Y4]
   ·rw[W6 (by omega),W6 h1]
  rw[this];omega
 ·have h2':m<R.length:=by rw[h.1] at h2;exact h2
  rw[h.2 m h2'];by_cases e:m=f.length-(i+1)
  ·have e1:m-(N-1-i)=g.length-1:=by omega
   have e2:N-1-i+(g.length-1)=m:=by omega
   rw[W7 ⟨by omega,by omega⟩,e1,hg.2,e2,Wv]
   omega
  ·rw[D.top m (by omega) h2']
   have e1:g.length<=m-(N-1-i):=by omega
   rw[W6 (by omega)]
   rfl
 ·rw[jD]
  by_cases h0:0<i
  ·rw[W7 (by omega)];exact D.lead h0
  ·have e0:i=0:=by omega
   subst e0;rw[W6 (by omega)]
   have e1:N-1-0+(g.length-1)=f.length-1:=by omega
   have Pj:Qr=[]:=List.length_eq_zero_iff.mp D.lq;rw[e1,D.eq _ (by omega)]
   have hz:conv (Jz N 0 Qr) g (f.length-1)=0:=by
    rw[vm (f':=[]) (g':=g) (λa=>?_) (λ_=>rfl)]
    ·rfl
    ·unfold Jz
     rw[Pj,List.reverse_nil,List.append_nil,cL,iz]
   rw[hz];have:aq [aq f (f.length-1)-0] (0-Qr.length)=aq f (f.length-1)-0:=by rw[Pj];rfl
   rw[this];omega
theorem xW.done {f g Qr R:List Int}{N:Nat}(hg:dh g)(hN:N=f.length-(g.length-1))(D:xW f g N N Qr R):vo f g Qr.reverse (trim R):=by
 have UW:0<g.length:=List.length_pos_iff.mpr hg.1;refine⟨λm=>?_,λnf=>?_,iX R,?_,by rw[Zw,D.lq,hN]⟩
 ·rw[dX]
  by_cases hm:m<R.length
  ·have:=D.eq m hm
   rw[J3 D.lq] at this;omega
  ·have lr:=D.lr
   have lq:=D.lq;rw[aX (f:=f) (by omega),aX (f:=R) (by omega)]
   have hb:conv Qr.reverse g m=0:=by
    by_cases hz:Qr=[]
    ·subst hz;rfl
    ·have:0<Qr.length:=List.length_pos_iff.mpr hz
     exact mG _ _ _ (by rw[Zw];omega)
   rw[hb];rfl
 ·by_cases hz:Qr=[]
  ·left;rw[hz];rfl
  ·right
   have hl:0<Qr.length:=List.length_pos_iff.mpr hz;have lq:=D.lq;rw[GD (by rw[Zw];omega),Zw]
   have e:Qr.length-1-(Qr.length-1)=0:=by omega
   rw[e,D.lead (by omega)]
   exact nf.last λz=>by rw[z] at hN;simp at hN;omega
 ·rw[f6]
  have:gx R R.length<=g.length-1:=vn _ λm h1 h2=>D.top m (by have:=D.lr;omega) h2
  omega
def bN:Nat->(Nat->Int)->Int
 | 0,_=>0
 | n+1,f=>bN n f+f n
theorem bX {f g:Nat->Int}:∀ {n:Nat},(∀i,i<n->f i=g i)->bN n f=bN n g
 | 0,_=>rfl
 | n+1,h=>by
  show bN n f+f n=bN n g+g n
  rw[bX λi hi=>h i (by omega),h n (by omega)]
theorem qI (f g:Nat->Int):∀n,bN n (λi=>f i+g i)=bN n f+bN n g
 | 0=>rfl
 | n+1=>by
  show bN n (λi=>f i+g i)+(f n+g n)=bN n f+f n+(bN n g+g n)
  rw[qI f g n];omega
theorem qJ (c:Int)(f:Nat->Int):∀n,bN n (λi=>c*f i)=c*bN n f
 | 0=>by simp[bN]
 | n+1=>by
  show bN n (λi=>c*f i)+c*f n=c*(bN n f+f n)
  rw[qJ c f n,Int.mul_add]
theorem EM (c:Int)(f:Nat->Int)(n:Nat):bN n (λi=>f i*c)=bN n f*c:=by
 rw[Z1,<- qJ];exact bX λi _=>Z1 _ _
theorem c9 {f:Nat->Int}:∀ {n:Nat},(∀i,i<n->f i=0)->bN n f=0
 | 0,_=>rfl
 | n+1,h=>by
  show bN n f+f n=0
  rw[c9 λi hi=>h i (by omega),h n (by omega)]
  rfl
theorem xX (f:Nat->Int):∀n,bN (n+1) f=f 0+bN n λi=>f (i+1)
 | 0=>by simp[bN]
 | n+1=>by
  show bN (n+1) f+f (n+1)=f 0+(bN n (λi=>f (i+1))+f (n+1))
  rw[xX f n];omega
theorem Ak (f:Nat->Int):∀n,bN n f=bN n λi=>f (n-1-i)
 | 0=>rfl
 | n+1=>by
  rw[xX λi=>f (n+1-1-i)]
  show bN n f+f n=_
  rw[Ak f n];have e0:n+1-1-0=n:=by omega
  have e1:bN n (λi=>f (n-1-i))=bN n λi=>f (n+1-1-(i+1)):=bX λi hi=>by
   have:n-1-i=n+1-1-(i+1):=by omega
   rw[this]
  rw[e0,e1];omega
theorem oR (f:Nat->Int)(a:Nat):∀b,bN (a+b) f=bN a f+bN b λi=>f (a+i)
 | 0=>by simp[bN]
 | b+1=>by
  show bN (a+b) f+f (a+b)=bN a f+(bN b (λi=>f (a+i))+f (a+b))
  rw[oR f a b];omega
theorem ja {f:Nat->Int}{k:Nat}:∀ {n:Nat},k<n->(∀i,i<n->i≠k->f i=0)->bN n f=f k
 | 0,h,_=>Jd h (Wc _)
 | n+1,h,z=>by
  show bN n f+f n=f k
  by_cases e:k=n
  ·subst e
   rw[c9 λi hi=>z i (by omega) (by omega)]
   omega
  ·rw[ja (n:=n) (by omega) λi hi=>z i (by omega),z n (by omega) (Ne.symm e)]
   omega
theorem vp (F:Nat->Nat->Int):∀m,bN (m+1) (λk=>bN (k+1) λi=>F i k)=bN (m+1) λi=>bN (m-i+1) λj=>F i (i+j)
 | 0=>by simp[bN]
 | m+1=>by
  show bN (m+1) (λk=>bN (k+1) λi=>F i k)+bN (m+1+1) (λi=>F i (m+1))=_
  rw[vp F m];show _=bN (m+1) (λi=>bN (m+1-i+1) λj=>F i (i+j))+bN (m+1-(m+1)+1) (λj=>F (m+1) (m+1+j))
  have e1:bN (m+1) (λi=>bN (m+1-i+1) λj=>F i (i+j))=bN (m+1) (λi=>bN (m-i+1) (λj=>F i (i+j))+F i (m+1)):=bX λi hi=>by
   have h1:m+1-i+1=(m-i+1)+1:=by omega
   rw[h1];show bN (m-i+1) _+F i (i+(m-i+1))=_
   have h2:i+(m-i+1)=m+1:=by omega
   rw[h2]
  rw[e1,qI];have e2:m+1-(m+1)+1=1:=by omega
  rw[e2];show _+(bN (m+1) (λi=>F i (m+1))+F (m+1) (m+1))=_+(0+F (m+1) (m+1+0))
  have e3:m+1+0=m+1:=by omega
  rw[e3];omega
def cv (a b:Nat->Int)(m:Nat):Int:=bN (m+1) λi=>a i*b (m-i)
theorem Al {a a' b b':Nat->Int}{m:Nat}(ha:∀i,i<=m->a i=a' i)(hb:∀i,i<=m->b i=b' i):cv a b m=cv a' b' m:=bX λi hi=>by rw[ha i (by omega),hb (m-i) (by omega)]
theorem qK (a b:Nat->Int)(m:Nat):cv a b m=cv b a m:=by
 unfold cv;rw[Ak];refine bX λi hi=>?_
 have e1:m+1-1-i=m-i:=by omega
 have e2:m-(m-i)=i:=by omega
 rw[e1,e2,Z1]
theorem Am (a b c:Nat->Int)(m:Nat):cv (cv a b) c m=cv a (cv b c) m:=by
 have l:cv (cv a b) c m=bN (m+1) λk=>bN (k+1) λi=>a i*b (k-i)*c (m-k):=bX λk _=>by
  show bN (k+1) (λi=>a i*b (k-i))*c (m-k)=_
  rw[<- EM]
 rw[l,vp λi k=>a i*b (k-i)*c (m-k)]
 refine bX λi hi=>?_
 show _=a i*bN (m-i+1) λj=>b j*c (m-i-j)
 rw[<- qJ];refine bX λj hj=>?_
 have e1:i+j-i=j:=by omega
 have e2:m-(i+j)=m-i-j:=by omega
 rw[e1,e2,Wr]
theorem vq (a b c:Nat->Int)(m:Nat):cv (λi=>a i+b i) c m=cv a c m+cv b c m:=by
 unfold cv;rw[<- qI];exact bX λi _=>Int.add_mul ..
theorem J4 (a b c:Nat->Int)(m:Nat):cv a (λi=>b i+c i) m=cv a b m+cv a c m:=by
 rw[qK,vq,qK b,qK c]
theorem yN (b:Nat->Int)(m:Nat):cv (λ_=>0) b m=0:=c9 λi _=>Zk _
theorem uz {a b:Nat->Int}{c:Int}(h0:a 0=c)(hs:∀i,0<i->a i=0)(m:Nat):cv a b m=c*b m:=by
 unfold cv;rw[ja (k:=0) (by omega) λi _ hi=>by rw[hs i (by omega),Zk],h0,Nat.sub_zero]
theorem An (f g:List Int):∀(i m:Nat),i<=m+1->fE f g i m=bN i λa=>aq f a*aq g (m-a)
 | 0,m,_=>rfl
 | i+1,m,h=>by
  show fE f g i m+_=bN i _+_
  rw[An f g i m (by omega),W7 (by omega)]
theorem DG (f g:List Int)(m:Nat):conv f g m=cv (aq f) (aq g) m:=by
 rw[qH,An f g (m+1) m (Yd _)];rfl
theorem cp (f g:List Int)(m:Nat):aq (d9 f g) m=cv (aq f) (aq g) m:=by rw[nu,DG]
theorem MY (f g:List Int):aq (d9 f g)=cv (aq f) (aq g):=funext λm=>cp f g m
theorem UX (f g:List Int):aq (lW f g)=λm=>aq f m+aq g m:=funext λm=>kg f g m
theorem Sz (f:List Int):aq (trim f)=aq f:=funext λm=>dX f m
def tU (key:List Int):List (List Int)->List Int
 | []=>[]
 | d::r=>lW (d9 (tU key r) key) d
theorem vt (key:List Int):∀ds,Norm (tU key ds)
 | []=>.inl rfl
 | _::_=>kh _ _
def jl (key:List Int)(found step:List Int):List (List Int)->List Int
 | []=>found
 | d::r=>jl key (lW found (trim (d9 d step))) (trim (d9 step key)) r
theorem Ly (key:List Int):∀(ds:List (List Int)) (found step:List Int) (m:Nat),aq (jl key found step ds) m=aq found m+cv (aq (tU key ds)) (aq step) m
 | [],found,step,m=>by
  show aq found m=aq found m+cv (aq []) (aq step) m
  have e:cv (aq []) (aq step) m=0:=c9 λi _=>by rw[iz,Zk]
  rw[e,Zu]
 | d::r,found,step,m=>by
  show aq (jl key (lW found (trim (d9 d step))) (trim (d9 step key)) r) m=aq found m+cv (aq (lW (d9 (tU key r) key) d)) (aq step) m
  rw[Ly key r,UX,UX,Sz,Sz,MY,MY,MY,vq];have e1:cv (aq (tU key r)) (cv (aq step) (aq key)) m=cv (cv (aq (tU key r)) (aq key)) (aq step) m:=by
   rw[Am];exact Al (λ_ _=>rfl) λi _=>qK _ _ i
  rw[e1];show aq found m+cv (aq d) (aq step) m+_=_
  omega
theorem DH (key:List Int):∀(ds:List (List Int)) (found step:List Int),Norm found->Norm (jl key found step ds)
 | [],_,_,h=>h
 | _::r,_,_,_=>DH key r _ _ (kh _ _)
theorem GG (key:List Int)(ds:List (List Int)):jl key [] [1] ds=tU key ds:=by
 refine qE (DH key ds _ _ (.inl rfl)) (vt key ds) λm=>?_
 rw[Ly,iz,Z8,qK,uz (c:=1) rfl λi hi=>aX (by show 1<=i;omega),Zn]
abbrev LP:=o?×List Int
abbrev lrefs (ts:List LP):List V:=ts.map λt=>V.ref t.1
abbrev lvals (ts:List LP):List (List Int):=ts.map λt=>t.2
structure Bu (H:Hp)(p:o?)(ts:List LP):Prop where
 top:H p=j? (.lst (lrefs ts))
 it:∀t∈ts,H t.1=j? (.lst (t.2.map V.int))
theorem Bu.same {H H':Hp}{p:o?}{ts:List LP}(h:Bu H p ts)(g:aG H H'):Bu H' p ts:=⟨g _ _ h.top,λt ht=>g _ _ (h.it t ht)⟩
theorem Bu.snoc {H:Hp}{p:o?}{ts:List LP}{t:LP}(h:Bu H p ts)(hp:∀t∈ts,t.1≠p)(ht:H t.1=j? (.lst (t.2.map V.int)))(hn:t.1≠p):Bu (upd H p (.lst (lrefs ts++[.ref t.1]))) p (ts++[t]):=by
 refine⟨?_,λx hx=>?_⟩
 ·rw[av];simp[lrefs]
 ·rcases List.mem_append.mp hx with z|z
  ·rw[aL (hp x z)];exact h.it x z
  ·have:x=t:=by simpa using z
   subst this;rw[aL hn];exact ht
abbrev EN (ls:List (List Int)):N!:=.list (ls.map dI)
theorem DI (ls:List (List Int)):Fl 2 (EN ls):=.lst λd hd=>by
 obtain⟨i,_,rfl⟩:=List.mem_map.mp hd;exact kP i
theorem J5 {a b:List (List Int)}(h:EN a=EN b):a=b:=by
 have h':a.map dI=b.map dI:=PyData.list.inj h;induction a generalizing b with
 | nil=>
  cases b with
  | nil=>rfl
  | cons _ _=>simp at h'
 | cons x a ih=>
  cases b with
  | nil=>simp at h'
  | cons y b=>
   have h2:dI x=dI y/\a.map dI=b.map dI:=List.cons.inj h';rw[Gw h2.1,ih (Jb PyData.list h2.2) h2.2]
theorem MZ (a b:List (List Int)):E! (EN a) (EN b)=decide (a=b):=by
 rw[uw (DI a) (DI b)];by_cases h:a=b
 ·rw[W8 h,W8 (Jb EN h)]
 ·rw[Ja h,Ja λz=>h (J5 z)]
theorem M0 {K:bG}{H:Hp}{p:o?}{ts:List LP}(ht:aN K H p (lrefs ts))(hi:∀t∈ts,aN K H t.1 (t.2.map V.int)):Den K H (.ref p) (EN (lvals ts)):=by
 refine .lst ht (by simp) λi x d h1 h2=>?_
 rw[Ye] at h1 h2;cases e:ts[i]? with
 | none=>rw[e] at h1;cases h1
 | some t=>
  rw[e] at h1;rw[Ye,e] at h2;have hm:t∈ts:=Yt e;cases h1;cases h2;exact qv (hi t hm) (fZ _)
theorem Bu.den {K:bG}{H:Hp}{p:o?}{ts:List LP}(h:Bu H p ts):Den K H (.ref p) (EN (lvals ts)):=M0 (aN.of h.top) λt ht=>aN.of (h.it t ht)
theorem Bu.sql {K:bG}{H:Hp}{p:o?}{ts:List LP}(h:Bu H p ts):aN K H p (lrefs ts):=aN.of h.top
theorem SA {K:bG}{H:Hp}{x y:V}{a b:List (List Int)}{Q:VK}(hx:Den K H x (EN a))(hy:Den K H y (EN b))(q:Q (.bl (!decide (a=b))) H):yH K true x y H Q:=
 ⟨_,_,hx,hy,(DI _).shaped (by decide),(DI _).shaped (by decide),by show Q (.bl (!E! (EN a) (EN b))) H;rw[MZ];exact q⟩
theorem EO {K:bG}{H:Hp}{p:o?}(h:aN K H p []):Den K H (.ref p) (EN []):=.lst h rfl λi x d h1 _=>by simp at h1
theorem xY {ts:List LP}{i:Nat}{x:V}(h:(lrefs ts)[i]?=j? x):∃hi:i<ts.length,x=.ref ts[i].1:=by
 rw[Ye] at h;cases e:ts[i]? with
 | none=>rw[e] at h;cases h
 | some t=>
  rw[e] at h;obtain⟨hi,e2⟩:=List.getElem?_eq_some_iff.mp e;subst e2;exact⟨hi,(M? h).symm⟩
end L2
namespace L2
def bC:Nat->(Nat->Int)->Int
 | 0,_=>0
 | n+1,f=>bC n f+f n
theorem aH:∀ {n:Nat} {f g:Nat->Int},(∀i,i<n->f i=g i)->bC n f=bC n g
 | 0,_,_,_=>rfl
 | n+1,f,g,h=>by
  show bC n f+f n=bC n g+g n
  rw[aH λi hi=>h i (by omega),h n (by omega)]
theorem uA (a b:Int)(f g:Nat->Int):∀n,bC n (λi=>a*f i+b*g i)=a*bC n f+b*bC n g
 | 0=>by show(0:Int)=a*0+b*0;omega
 | n+1=>by
  show bC n _+(a*f n+b*g n)=a*(bC n f+f n)+b*(bC n g+g n)
  rw[uA a b f g n];generalize bC n f=x;generalize bC n g=y;grind
theorem c7 (a:Int)(f:Nat->Int):∀n,bC n (λi=>a*f i)=a*bC n f
 | 0=>by show(0:Int)=a*0;omega
 | n+1=>by
  show bC n _+a*f n=a*(bC n f+f n)
  rw[c7 a f n,Int.mul_add]
theorem fF:∀ {n:Nat} {f:Nat->Int},(∀i,i<n->f i=0)->bC n f=0
 | 0,_,_=>rfl
 | n+1,f,h=>by
  show bC n f+f n=0
  rw[fF λi hi=>h i (by omega),h n (by omega)]
  rfl
theorem nv (f:Nat->Int):∀n,bC (n+1) f=f 0+bC n (λi=>f (i+1))
 | 0=>by show 0+f 0=f 0+0;omega
 | n+1=>by
  show bC (n+1) f+f (n+1)=f 0+(bC n (λi=>f (i+1))+f (n+1))
  rw[nv f n];omega
theorem DJ {f:Nat->Int}{r:Nat}:∀ {n:Nat},r+1<n->(∀i,i<n->i≠r->i≠r+1->f i=0)->f r+f (r+1)=0->bC n f=0
 | 0,h,_,_=>Jd h (by omega)
 | n+1,h,z,e=>by
  show bC n f+f n=0
  by_cases c:r+1=n
  ·subst c
   show bC r f+f r+f (r+1)=0
   rw[fF λi hi=>z i (by omega) (by omega) (by omega)]
   omega
  ·rw[DJ (n:=n) (by omega) (λi hi=>z i (by omega)) e,z n (by omega) (by omega) (by omega)]
   rfl
abbrev Mx:=Nat->Nat->Int
def cW (i r:Nat):Nat:=if r<i then r else r+1
def sg (k:Nat):Int:=if k % 2=0 then 1 else -1
theorem DK (k:Nat):sg (k+1)=- sg k:=by
 unfold sg;rcases Nat.mod_two_eq_zero_or_one k with h|h
 ·rw[W6 (by omega),W7 h]
 ·rw[W7 (by omega),W6 (by omega)];rfl
theorem Lz (k:Nat):sg k*sg k=1:=by
 unfold sg;split <;> rfl
def det:Nat->Mx->Int
 | 0,_=>1
 | n+1,M=>bC (n+1) λi=>sg (n-i)*M i n*det n λr c=>M (cW i r) c
theorem cN (n:Nat)(M:Mx):det (n+1) M=bC (n+1) λi=>sg (n-i)*M i n*det n λr c=>M (cW i r) c:=rfl
theorem rW {i r n:Nat}(h:r<n):cW i r<n+1:=by unfold cW;split <;> omega
theorem M3 (i r:Nat):cW i r≠i:=by unfold cW;split <;> omega
theorem GH {i r x:Nat}(h:i≠r):cW i x=r↔x=if r<i then r else r-1:=by
 unfold cW;split <;> split <;> omega
theorem cT:∀ {n:Nat} {M N:Mx},(∀r c,r<n->c<n->M r c=N r c)->det n M=det n N
 | 0,_,_,_=>rfl
 | n+1,M,N,h=>by
  rw[cN,cN];refine aH λi hi=>?_
  rw[h i n hi (by omega),cT λr c hr hc=>h (cW i r) c (rW hr) (by omega)]
def f9 (M:Mx)(r:Nat)(u:Nat->Int):Mx:=λi c=>if i=r then u c else M i c
theorem eE (M:Mx)(r:Nat)(u:Nat->Int)(c:Nat):f9 M r u r c=u c:=W7 rfl
theorem d_ {M:Mx}{r i:Nat}{u:Nat->Int}(h:i≠r)(c:Nat):f9 M r u i c=M i c:=W6 h
theorem ny (M:Mx)(r:Nat):f9 M r (M r)=M:=by
 funext i c
 unfold f9;split
 ·rename_i h;rw[h]
 ·rfl
theorem rX {M:Mx}{i r:Nat}(h:i≠r)(u:Nat->Int):(λx c=>f9 M r u (cW i x) c)=f9 (λx c=>M (cW i x) c) (if r<i then r else r-1) u:=by
 funext x c
 unfold f9;by_cases e:cW i x=r
 ·rw[W7 e,W7 ((GH h).mp e)]
 ·rw[W6 e,W6 λz=>e ((GH h).mpr z)]
theorem rY (M:Mx)(r:Nat)(u:Nat->Int):(λx c=>f9 M r u (cW r x) c)=λx c=>M (cW r x) c:=by
 funext x c
 exact d_ (M3 r x) c
theorem nA (a b:Int)(u v:Nat->Int):∀(n:Nat) (M:Mx) (r:Nat),r<n->det n (f9 M r λc=>a*u c+b*v c)=a*det n (f9 M r u)+b*det n (f9 M r v)
 | 0,_,_,h=>Jd h (by omega)
 | n+1,M,r,h=>by
  rw[cN,cN,cN,<- uA];refine aH λi hi=>?_
  by_cases e:i=r
  ·subst e
   rw[rY,rY,rY,eE,eE,eE];generalize det n _=D;generalize sg (n-i)=S;grind
  ·rw[rX e,rX e,rX e,d_ e,d_ e,d_ e,nA a b u v n _ _ (by split <;> omega)]
   generalize det n (f9 _ _ u)=D1;generalize det n (f9 _ _ v)=D2;generalize sg (n-i)=S;grind
theorem uB:∀(n:Nat) (M:Mx) (r:Nat),r+1<n->(∀c,M r c=M (r+1) c)->det n M=0
 | 0,_,_,h,_=>Jd h (by omega)
 | n+1,M,r,h,e=>by
  rw[cN];refine DJ (r:=r) h (λi hi h1 h2=>?_) ?_
  ·have z:det n (λx c=>M (cW i x) c)=0:=by
    by_cases c:i<r
    ·refine uB n _ (r-1) (by omega) λc'=>?_
     have e1:cW i (r-1)=r:=by unfold cW;rw[W6 (by omega)];omega
     have e2:cW i (r-1+1)=r+1:=by unfold cW;rw[W6 (by omega)];omega
     show M (cW i (r-1)) c'=M (cW i (r-1+1)) c'
     rw[e1,e2];exact e c'
    ·refine uB n _ r (by omega) λc'=>?_
     have e1:cW i r=r:=by unfold cW;rw[W7 (by omega)]
     have e2:cW i (r+1)=r+1:=by unfold cW;rw[W7 (by omega)]
     show M (cW i r) c'=M (cW i (r+1)) c'
     rw[e1,e2];exact e c'
   rw[z,Y4]
  ·have e1:(λx c=>M (cW (r+1) x) c)=λx c=>M (cW r x) c:=by
    funext x c
    unfold cW;by_cases c1:x<r
    ·rw[W7 (by omega),W7 c1]
    ·by_cases c2:x=r
     ·subst c2
      rw[W7 (by omega),W6 (by omega)];exact e c
     ·rw[W6 (by omega),W6 c1]
   have e2:n-r=n-(r+1)+1:=by omega
   rw[e1,<- e n,e2,DK];generalize det n _=D;generalize sg (n-(r+1))=S;grind
def t8 (M:Mx)(p q:Nat)(u v:Nat->Int):Mx:=f9 (f9 M p u) q v
theorem iY {M:Mx}{p q:Nat}(h:p≠q)(u v:Nat->Int):f9 (f9 M p u) q v=f9 (f9 M q v) p u:=by
 funext i c
 unfold f9;by_cases c1:i=q
 ·subst c1;rw[W7 rfl,W6 λz=>h z.symm,W7 rfl]
 ·rw[W6 c1,W6 c1]
theorem J6 {n:Nat}{M:Mx}{p q:Nat}(hp:p<n)(hq:q<n)(hne:p≠q)(h:∀u,det n (t8 M p q u u)=0)(u v:Nat->Int):det n (t8 M p q u v)=- det n (t8 M p q v u):=by
 have z:=h λc=>1*u c+1*v c
 unfold t8 at*;rw[nA 1 1 u v n _ q hq,iY hne,iY hne,nA 1 1 u v n _ p hp,nA 1 1 u v n _ p hp,<- iY hne,<- iY hne,<- iY hne,<- iY hne,h u,h v] at z;omega
theorem ER (M:Mx)(p q:Nat):t8 M p q (M p) (M q)=M:=by
 unfold t8;rw[ny,ny]
theorem Ao {n:Nat}(M:Mx){r:Nat}(h:r+1<n):det n (t8 M r (r+1) (M (r+1)) (M r))=- det n M:=by
 rw[J6 (by omega) h (by omega) λu=>uB n _ r h λc=>?_,ER]
 unfold t8;rw[d_ (by omega),eE,eE]
theorem yO {n:Nat}{p:Nat}:∀(d:Nat) (M:Mx),p+d+1<n->(∀c,M p c=M (p+d+1) c)->det n M=0
 | 0,M,h,e=>uB n M p h e
 | d+1,M,h,e=>by
  have s:=Ao M (r:=p+d+1) (n:=n) h;have z:det n (t8 M (p+d+1) (p+d+1+1) (M (p+d+1+1)) (M (p+d+1)))=0:=by
   refine yO (p:=p) d _ (by omega) λc=>?_
   unfold t8;rw[d_ (by omega),d_ (by omega),d_ (by omega),eE]
   exact e c
  rw[z] at s;omega
theorem Aq {n:Nat}{M:Mx}{p q:Nat}(hp:p<n)(hq:q<n)(hne:p≠q)(h:∀c,M p c=M q c):det n M=0:=by
 rcases Nat.lt_or_gt_of_ne hne with z|z
 ·have e:q=p+(q-p-1)+1:=by omega
  rw[e] at h;exact yO (q-p-1) M (by omega) h
 ·have e:p=q+(p-q-1)+1:=by omega
  rw[e] at h;exact yO (p-q-1) M (by omega) λc=>(h c).symm
theorem J7 {n:Nat}(M:Mx){p q:Nat}(hp:p<n)(hq:q<n)(hne:p≠q)(a k:Int):det n (f9 M p λc=>a*M p c+k*M q c)=a*det n M:=by
 rw[nA a k (M p) (M q) n M p hp,ny,Aq (M:=f9 M p (M q)) hp hq hne λc=>?_]
 ·omega
 ·rw[eE,d_ λz=>hne z.symm]
theorem vv:∀(n:Nat) (M:Mx),(∀i,i<=n->M i 0=0)->det (n+1) M=0
 | 0,M,h=>by
  show 0+sg 0*M 0 0*1=0
  rw[h 0 (Yd _)];rfl
 | n+1,M,h=>by
  rw[cN];refine fF λi hi=>?_
  rw[vv n _ λj hj=>h (cW i j) (by have:=rW (i:=i) (r:=j) (n:=n+1) (by omega);omega),Y4]
theorem nC:∀(n:Nat) (M:Mx),(∀i,0<i->i<=n->M i 0=0)->det (n+1) M=M 0 0*det n λr c=>M (r+1) (c+1)
 | 0,M,h=>by
  show 0+sg 0*M 0 0*1=M 0 0*1
  have:sg 0=1:=rfl
  rw[this];omega
 | n+1,M,h=>by
  rw[cN (n+1),nv];have z:det (n+1) (λr c=>M (cW 0 r) c)=0:=vv n _ λj hj=>h (cW 0 j) (by unfold cW;rw[W6 (by omega)];omega) (by unfold cW;rw[W6 (by omega)];omega)
  rw[z,Y4,Z8,cN n,<- c7];refine aH λj hj=>?_
  rw[nC n _ λi h1 h2=>h (cW (j+1) i) (by unfold cW;split <;> omega) (by have:=rW (i:=j+1) (r:=i) (n:=n+1) (by omega);omega)]
  have e0:cW (j+1) 0=0:=by unfold cW;rw[W7 (by omega)]
  have e1:(λr c=>M (cW (j+1) (r+1)) (c+1))=λr c=>M (cW j r+1) (c+1):=by
   funext r c
   have:cW (j+1) (r+1)=cW j r+1:=by unfold cW;split <;> split <;> omega
   rw[this]
  rw[e0,e1];have e2:n+1-(j+1)=n-j:=by omega
  rw[e2];generalize det n _=D;generalize sg (n-j)=S;grind
theorem nE (k:Int):∀(n:Nat) (M:Mx),det n (λr c=>k*M r c)=k ^ n*det n M
 | 0,M=>by show(1:Int)=k ^ 0*1;rw[Zd];rfl
 | n+1,M=>by
  rw[cN,cN,<- c7];refine aH λi hi=>?_
  rw[nE k n λr c=>M (cW i r) c,Y6]
  generalize det n _=D;generalize sg (n-i)=S;generalize k ^ n=K;grind
def GI (N:Mx):Mx:=λa b=>N 0 0*N (a+1) (b+1)-N (a+1) 0*N 0 (b+1)
def eW (N:Mx)(k:Nat):Mx:=λr c=>if 0<r/\r<=k then N 0 0*N r c+(- N r 0)*N 0 c else N r c
theorem vA (N:Mx)(n:Nat):∀k,k<=n->det (n+1) (eW N k)=N 0 0 ^ k*det (n+1) N
 | 0,_=>by
  have e:eW N 0=N:=by
   funext r c
   exact W6 (by omega)
  rw[e,Zd,Zn]
 | k+1,h=>by
  have e:eW N (k+1)=f9 (eW N k) (k+1) λc=>N 0 0*eW N k (k+1) c+(- N (k+1) 0)*eW N k 0 c:=by
   funext r c
   have p0:eW N k 0 c=N 0 c:=W6 (by omega)
   have p1:eW N k (k+1) c=N (k+1) c:=W6 (by omega)
   unfold f9;by_cases c1:r=k+1
   ·subst c1
    rw[W7 rfl];show _=N 0 0*eW N k (k+1) c+(- N (k+1) 0)*eW N k 0 c
    rw[p0,p1];exact W7 (by omega)
   ·rw[W6 c1]
    unfold eW;by_cases c2:0<r/\r<=k
    ·rw[W7 c2,W7 (by omega)]
    ·rw[W6 c2,W6 (by omega)]
  rw[e,J7 (eW N k) (by omega) (by omega) (by omega),vA N n k (by omega),Y6]
  generalize N 0 0 ^ k=K;generalize det (n+1) N=D;grind
theorem M4 {n:Nat}{N:Mx}(h:N 0 0≠0):det (n+1) (GI N)=N 0 0 ^ n*det (n+2) N:=by
 have e:=vA N (n+1) (n+1) (Yd _);rw[nC (n+1) (eW N (n+1)) λi h1 h2=>?_] at e
 ·have e1:det (n+1) (λr c=>eW N (n+1) (r+1) (c+1))=det (n+1) (GI N):=cT λr c hr hc=>by
   unfold eW GI;rw[W7 (by omega)]
   generalize N 0 0=a;generalize N (r+1) (c+1)=b;generalize N (r+1) 0=d;generalize N 0 (c+1)=f;grind
  have e2:eW N (n+1) 0 0=N 0 0:=W6 (by omega)
  rw[e1,e2,Y6] at e;have e3:N 0 0*det (n+1) (GI N)=N 0 0*(N 0 0 ^ n*det (n+2) N):=by
   rw[e];generalize N 0 0 ^ n=K;grind
  exact Zy h e3
 ·unfold eW
  rw[W7 (by omega)]
  generalize N 0 0=a;generalize N i 0=b;grind
def wY (t:Nat):Nat->Nat
 | 0=>t
 | a+1=>cW t a
theorem GJ {t a m:Nat}(ht:t<m)(ha:a<m):wY t a<m:=by
 cases a with
 | zero=>exact ht
 | succ a=>show cW t a<m;unfold cW;split <;> omega
theorem yP {n:Nat}:∀(t:Nat) (M:Mx),t<n->det n (λa c=>M (wY t a) c)=sg t*det n M
 | 0,M,h=>by
  have e:(λa c=>M (wY 0 a) c)=M:=by
   funext a c
   cases a with
   | zero=>rfl
   | succ a=>show M (cW 0 a) c=M (a+1) c;unfold cW;rw[W6 (by omega)]
  rw[e];show _=1*_
  omega
 | t+1,M,h=>by
  have e:(λa c=>M (wY (t+1) a) c)=λa c=>t8 M t (t+1) (M (t+1)) (M t) (wY t a) c:=by
   funext a c
   unfold t8;cases a with
   | zero=>
    show M (t+1) c=f9 _ _ _ t c
    rw[d_ (by omega),eE]
   | succ a=>
    show M (cW (t+1) a) c=f9 _ _ _ (cW t a) c
    rcases Nat.lt_trichotomy a t with z|z|z
    ·have e1:cW (t+1) a=a:=by unfold cW;rw[W7 (by omega)]
     have e2:cW t a=a:=by unfold cW;rw[W7 (by omega)]
     rw[e1,e2,d_ (by omega),d_ (by omega)]
    ·subst z
     have e1:cW (a+1) a=a:=by unfold cW;rw[W7 (by omega)]
     have e2:cW a a=a+1:=by unfold cW;rw[W6 (by omega)]
     rw[e1,e2,eE]
    ·have e1:cW (t+1) a=a+1:=by unfold cW;rw[W6 (by omega)]
     have e2:cW t a=a+1:=by unfold cW;rw[W6 (by omega)]
     rw[e1,e2,d_ (by omega),d_ (by omega)]
  rw[e,yP t _ (by omega),Ao M h,DK]
  generalize det n M=D;generalize sg t=S;grind
end L2
namespace L2
theorem DL {d:Int}(h:d≠0):∀n:Nat,d ^ n≠0
 | 0=>by rw[Zd];decide
 | n+1=>by rw[Y6];exact Int.mul_ne_zero (DL h n) h
theorem uC (M:Mx):det 1 M=M 0 0:=by
 show 0+sg 0*M 0 0*1=M 0 0
 have:sg 0=1:=rfl
 rw[this];omega
def sh (I:Nat->Nat):Nat->Nat
 | 0=>0
 | a+1=>I a+1
structure Ba (A:Mx)(n k:Nat)(d:Int)(B:Mx)(m:Nat)(s:Int):Prop where
 d0:d≠0
 J8:∀(r:Nat) (I J:Nat->Nat),(∀a,a<=r->I a<m/\J a<m)->∃I' J':Nat->Nat,(∀a,a<r+1+k->I' a<n/\J' a<n)/\det (r+1) (λa b=>B (I a) (J b))=d ^ r*det (r+1+k) λa b=>A (I' a) (J' b)
 whole:∀m',m=m'+1->det m B=s*det n A*d ^ m'
 sq:s*s=1
 lead:∃I' J':Nat->Nat,(∀a,a<k->I' a<n/\J' a<n)/\d=det k λa b=>A (I' a) (J' b)
theorem Ba.start (A:Mx)(n:Nat):Ba A n 0 1 A n 1:=by
 refine⟨by decide,λr I J h=>⟨I,J,λa ha=>h a (by omega),?_⟩,λm' e=>?_,rfl,⟨λa=>a,λa=>a,λa ha=>Jd ha (by omega),rfl⟩⟩
 ·rw[Int.one_pow,Zn]
 ·rw[Int.one_pow];omega
section
variable {A B B':Mx} {n k m t:Nat} {d s:Int}
theorem Ba.divides (h:Ba A n k d B (m+1) s)(ht:t<m+1)(hp:B t 0≠0){a c:Nat}(ha:a<m)(hc:c<m):∃q,GI (λa c=>B (wY t a) c) a c=d*q:=by
 have hI:∀x,x<=1->wY t (sh (λ_=>a) x)<m+1/\sh (λ_=>c) x<m+1:=λx hx=>by
  match x with
  | 0=>exact⟨ht,by show 0<m+1;omega⟩
  | 1=>exact⟨GJ ht (by show a+1<m+1;omega),by show c+1<m+1;omega⟩
  | x+2=>omega
 obtain⟨I',J',_,e⟩:=h.J8 1 (λx=>wY t (sh (λ_=>a) x)) (sh (λ_=>c)) hI
 have e2:=M4 (n:=0) (N:=λx y=>B (wY t (sh (λ_=>a) x)) (sh (λ_=>c) y)) hp
 rw[uC,Zd,Zn,e,Y6,Zd,Zn] at e2;exact⟨_,e2⟩
theorem Ba.step (h:Ba A n k d B (m+1) s)(ht:t<m+1)(hp:B t 0≠0)(hB:∀a c,a<m->c<m->GI (λa c=>B (wY t a) c) a c=d*B' a c):Ba A n (k+1) (B t 0) B' m (sg t*s):=by
 refine⟨hp,λr I J SD=>?_,λm' em=>?_,?_,?_⟩
 ·have hI:∀x,x<=r+1->wY t (sh I x)<m+1/\sh J x<m+1:=λx hx=>by
   match x with
   | 0=>exact⟨ht,by show 0<m+1;omega⟩
   | x+1=>
    have:=SD x (by omega)
    exact⟨GJ ht (by show I x+1<m+1;omega),by show J x+1<m+1;omega⟩
  obtain⟨I',J',rg,e⟩:=h.J8 (r+1) (λx=>wY t (sh I x)) (sh J) hI
  have e2:=M4 (n:=r) (N:=λx y=>B (wY t (sh I x)) (sh J y)) hp
  have e3:det (r+1) (GI λx y=>B (wY t (sh I x)) (sh J y))=d ^ (r+1)*det (r+1) (λa b=>B' (I a) (J b)):=by
   rw[<- nE];refine cT λa b ha hb=>?_
   have h1:=SD a (by omega)
   have h2:=SD b (by omega)
   exact hB (I a) (J b) h1.1 h2.2
  rw[e3,e] at e2;have ei:r+1+1+k=r+1+(k+1):=by omega
  rw[ei] at e2 rg;refine⟨I',J',rg,?_⟩
  refine Zy (DL h.d0 (r+1)) (e2.trans ?_)
  show B t 0 ^ r*(d ^ (r+1)*_)=d ^ (r+1)*(B t 0 ^ r*_)
  generalize det (r+1+(k+1)) _=D;generalize B t 0 ^ r=P;generalize d ^ (r+1)=Q;grind
 ·subst em
  have e2:=M4 (n:=m') (N:=λa c=>B (wY t a) c) hp
  have e3:det (m'+1) (GI λa c=>B (wY t a) c)=d ^ (m'+1)*det (m'+1) B':=by
   rw[<- nE];exact cT λa b ha hb=>hB a b ha hb
  have e4:=h.whole (m'+1) rfl;have e5:=yP (n:=m'+2) t B ht;rw[e3,e5,e4] at e2;refine Zy (DL h.d0 (m'+1)) (e2.trans ?_)
  show B t 0 ^ m'*(sg t*(s*det n A*d ^ (m'+1)))=d ^ (m'+1)*(sg t*s*det n A*B t 0 ^ m')
  generalize B t 0 ^ m'=P;generalize d ^ (m'+1)=Q;generalize det n A=D;generalize sg t=S;grind
 ·have e1:=Lz t
  have e2:=h.sq;generalize sg t=S at*;grind
 ·obtain⟨I',J',rg,e⟩:=h.J8 0 (λ_=>t) (λ_=>0) λa ha=>⟨ht,by omega⟩
  rw[uC,Zd,Zn] at e;have ei:0+1+k=k+1:=by omega
  rw[ei] at e rg;exact⟨I',J',rg,e⟩
theorem Ba.fin (h:Ba A n k d B 1 s):s*B 0 0=det n A:=by
 have e:=h.whole 0 rfl;rw[uC,Zd,Wv] at e;rw[e];have:=h.sq
 generalize det n A=D at*;grind
theorem Ba.none (h:Ba A n k d B (m+1) s)(hz:∀i,i<m+1->B i 0=0):det n A=0:=by
 have e:=h.whole m rfl;rw[vv m B λi hi=>hz i (by omega)] at e
 rcases Int.mul_eq_zero.mp e.symm with z|z
 ·rcases Int.mul_eq_zero.mp z with y|y
  ·have:=h.sq
   rw[y] at this;cases this
  ·exact y
 ·exact Jd z (DL h.d0 m)
end
theorem yQ {X:Nat}:∀ {n:Nat} {f:Nat->Int},(∀i,i<n->(f i).natAbs<=X)->(bC n f).natAbs<=n*X
 | 0,_,_=>by show(0:Int).natAbs<=_;simp
 | n+1,f,h=>by
  have h1:=yQ (n:=n) (f:=f) λi hi=>h i (by omega)
  have h2:=h n (by omega)
  have h3:=Int.natAbs_add_le (bC n f) (f n);show(bC n f+f n).natAbs<=(n+1)*X
  rw[Nat.succ_mul];omega
theorem GK (k:Nat):(sg k).natAbs=1:=by unfold sg;split <;> rfl
theorem yR {E:Nat}:∀(n:Nat) (M:Mx),n<=32->(∀r c,r<n->c<n->(M r c).natAbs<=2 ^ E)->(det n M).natAbs<=2 ^ (n*(E+5))
 | 0,M,_,_=>by show(1:Int).natAbs<=2 ^ (0*(E+5));rw[Nat.zero_mul];decide
 | n+1,M,hn,h=>by
  rw[cN];refine Ym (yQ (X:=2 ^ E*2 ^ (n*(E+5))) λi hi=>?_) ?_
  ·rw[Ze,Ze,GK,W5]
   exact Zf (h i n hi (by omega)) (yR n _ (by omega) λr c hr hc=>h (cW i r) c (rW hr) (by omega))
  ·have e:2 ^ ((n+1)*(E+5))=32*(2 ^ E*2 ^ (n*(E+5))):=by
    rw[Nat.succ_mul,Zh,Zh 2 E 5];have:(2:Nat) ^ 5=32:=rfl
    rw[this];ac_rfl
   rw[e];exact Yr _ (by omega)
theorem Ba.ES {A B:Mx}{n k m:Nat}{d s:Int}{E:Nat}(h:Ba A n k d B m s)(hn:n<=32)(hk:m+k=n)(hA:∀r c,r<n->c<n->(A r c).natAbs<=2 ^ E):d.natAbs<=2 ^ (n*(E+5))/\∀i j,i<m->j<m->(B i j).natAbs<=2 ^ (n*(E+5)):=by
 refine⟨?_,λi j hi hj=>?_⟩
 ·obtain⟨I',J',rg,e⟩:=h.lead
  rw[e];exact Ym (yR (E:=E) k _ (by omega) λr c hr hc=>hA _ _ (rg r hr).1 (rg c hc).2) (Yu (by decide) (Yr _ (by omega)))
 ·obtain⟨I',J',rg,e⟩:=h.J8 0 (λ_=>i) (λ_=>j) λa ha=>⟨hi,hj⟩
  rw[uC,Zd,Zn] at e;rw[e];exact Ym (yR (E:=E) (0+1+k) _ (by omega) λr c hr hc=>hA _ _ (rg r hr).1 (rg c hc).2) (Yu (by decide) (Yr _ (by omega)))
def Bv:Nat->(Nat->Int)->Int
 | 0,_=>1
 | n+1,f=>Bv n f*f n
theorem xZ (f:Nat->Int):∀n,Bv (n+1) f=f 0*Bv n (λi=>f (i+1))
 | 0=>by show 1*f 0=f 0*1;omega
 | n+1=>by
  show Bv (n+1) f*f (n+1)=f 0*(Bv n (λi=>f (i+1))*f (n+1))
  rw[xZ f n,Wr]
theorem yS:∀(n:Nat) (M:Mx),(∀i j,j<i->i<n->M i j=0)->det n M=Bv n λi=>M i i
 | 0,_,_=>rfl
 | n+1,M,h=>by
  rw[nC n M λi h1 h2=>h i 0 h1 (by omega),xZ,yS n _ λi j h1 h2=>h (i+1) (j+1) (by omega) (by omega)]
end L2
namespace L2
theorem Ar {n:Nat}(M:Mx){p:Nat}(hp:p<n)(q:Nat->Nat)(a:Nat->Int):∀m,(∀k,k<m->q k<n/\q k≠p)->det n (f9 M p λc=>M p c+bC m λk=>a k*M (q k) c)=det n M
 | 0,_=>by
  have e:f9 M p (λc=>M p c+bC 0 λk=>a k*M (q k) c)=M:=by
   have:(λc=>M p c+bC 0 λk=>a k*M (q k) c)=M p:=by
    funext c
    show M p c+0=M p c
    omega
   rw[this,ny]
  rw[e]
 | m+1,h=>by
  have e:(λc=>M p c+bC (m+1) λk=>a k*M (q k) c)=λc=>1*(M p c+bC m λk=>a k*M (q k) c)+a m*M (q m) c:=by
   funext c
   show M p c+(bC m (λk=>a k*M (q k) c)+a m*M (q m) c)=_
   omega
  have hq:=h m (by omega)
  rw[e,nA 1 (a m) (λc=>M p c+bC m λk=>a k*M (q k) c) (M (q m)) n M p hp,Ar M hp q a m λk hk=>h k (by omega),Aq (M:=f9 M p (M (q m))) hp hq.1 (λz=>hq.2 z.symm) λc=>?_]
  ·omega
  ·rw[eE,d_ hq.2]
theorem x_ {n:Nat}{A:Mx}:∀(m:Nat) (M:Mx),(∀r c,r<n->c<n->M r c=A r c)->(∀r c,r<n->n<=c->M r c=0)->det (n+m) M=det n A*det m λr c=>M (n+r) (n+c)
 | 0,M,h1,_=>by
  show det n M=det n A*1
  rw[cT h1];omega
 | m+1,M,h1,h2=>by
  show det (n+m+1) M=det n A*det (m+1) _
  rw[cN (n+m),cN m,<- c7];have split:∀(f:Nat->Int) (a b:Nat),bC (a+b) f=bC a f+bC b λi=>f (a+i):=by
   intro f a b;induction b with
   | zero=>show bC a f=bC a f+0;omega
   | succ b ih=>show bC (a+b) f+f (a+b)=bC a f+(bC b (λi=>f (a+i))+f (a+b));rw[ih];omega
  rw[show n+m+1=n+(m+1) by omega,split,fF λi hi=>?_,Z8]
  ·refine aH λi hi=>?_
   have e1:n+m-(n+i)=m-i:=by omega
   rw[e1,x_ m (λr c=>M (cW (n+i) r) c) (λr c hr hc=>?_) (λr c hr hc=>?_)]
   ·have e2:(λr c=>M (cW (n+i) (n+r)) (n+c))=λr c=>M (n+cW i r) (n+c):=by
     funext r c
     have:cW (n+i) (n+r)=n+cW i r:=by unfold cW;split <;> split <;> omega
     rw[this]
    show sg (m-i)*M (n+i) (n+m)*(det n A*det m λr c=>M (cW (n+i) (n+r)) (n+c))=_
    rw[e2];generalize det m _=D;generalize det n A=D2;generalize sg (m-i)=S;generalize M (n+i) (n+m)=X;grind
   ·have:cW (n+i) r=r:=by unfold cW;rw[W7 (by omega)]
    rw[this];exact h1 r c hr hc
   ·have:cW (n+i) r=r:=by unfold cW;rw[W7 (by omega)]
    rw[this];exact h2 r c hr hc
  ·rw[h2 i (n+m) hi (by omega)]
   generalize sg _=S;generalize det _ _=D;grind
theorem vB {n:Nat}{C:Mx}:∀(m:Nat) (M:Mx),(∀r c,r<n->c<m->M r c=0)->(∀r c,r<n->c<n->M r (m+c)=C r c)->(∀r c,r<m->c<m->M (n+r) c=if r=c then -1 else 0)->det (n+m) M=(- sg n) ^ m*det n C
 | 0,M,_,h2,_=>by
  show det n M=_
  rw[Zd,Zn];exact cT λr c hr hc=>by have:=h2 r c hr hc;rw[W1] at this;exact this
 | m+1,M,h1,h2,h3=>by
  show det (n+m+1) M=_
  have e:=yP (n:=n+m+1) n M (by omega)
  rw[nC (n+m) _ λi hi hle=>?_] at e
  ·have e0:M (wY n 0) 0=-1:=by
    have:=h3 0 0 (by omega) (by omega)
    rw[W7 rfl] at this;exact this
   have ih:=vB (n:=n) (C:=C) m (λr c=>M (cW n r) (c+1)) (λr c hr hc=>?_) (λr c hr hc=>?_) (λr c hr hc=>?_)
   ·have e1:det (n+m) (λr c=>M (wY n (r+1)) (c+1))=(- sg n) ^ m*det n C:=ih
    rw[e0,e1] at e;have s2:=Lz n;have e2:det (n+m+1) M=sg n*(sg n*det (n+m+1) M):=by
     rw[<- Wr,s2,Zn]
    rw[e2,<- e,Y6];generalize (- sg n) ^ m=P;generalize det n C=D;generalize sg n=S;grind
   ·have:cW n r=r:=by unfold cW;rw[W7 hr]
    show M (cW n r) (c+1)=0
    rw[this];exact h1 r (c+1) hr (by omega)
   ·have:cW n r=r:=by unfold cW;rw[W7 hr]
    show M (cW n r) (m+c+1)=C r c
    rw[this,show m+c+1=m+1+c by omega];exact h2 r c hr hc
   ·have:cW n (n+r)=n+(r+1):=by unfold cW;rw[W6 (by omega)];omega
    show M (cW n (n+r)) (c+1)=_
    rw[this,h3 (r+1) (c+1) (by omega) (by omega)]
    by_cases z:r=c
    ·rw[W7 z,W7 (by omega)]
    ·rw[W6 z,W6 (by omega)]
  ·match i,hi with
   | i+1,_=>
    show M (cW n i) 0=0
    unfold cW;by_cases z:i<n
    ·rw[W7 z];exact h1 i 0 z (by omega)
    ·rw[W6 z]
     have e4:i+1=n+(i+1-n):=by omega
     rw[e4,h3 (i+1-n) 0 (by omega) (by omega),W6 (by omega)]
def lU (n:Nat)(A B:Mx):Mx:=λi c=>bC n λk=>A i k*B k c
def qj (n:Nat)(A B:Mx)(t:Nat):Mx:=λr c=>
 if r<n then (if c<n then (if r<t then 0 else A r c) else (if r<t then lU n A B r (c-n) else 0))
 else (if c<n then (if r-n=c then -1 else 0) else B (r-n) (c-n))
theorem As (n:Nat)(A B:Mx):∀t,t<=n->det (n+n) (qj n A B t)=det (n+n) (qj n A B 0)
 | 0,_=>rfl
 | t+1,h=>by
  rw[<- As n A B t (by omega),<- Ar (n:=n+n) (qj n A B t) (p:=t) (by omega) (λk=>n+k) (λk=>A t k) n λk hk=>⟨by omega,by omega⟩]
  refine cT λr c hr hc=>?_
  unfold f9;by_cases e:r=t
  ·subst e
   rw[W7 rfl];have J9:r<n:=by omega
   by_cases hcn:c<n
   ·have e1:qj n A B (r+1) r c=0:=by unfold qj;rw[W7 J9,W7 hcn,W7 (by omega)]
    have e2:qj n A B r r c=A r c:=by unfold qj;rw[W7 J9,W7 hcn,W6 (by omega)]
    have e3:(bC n λk=>A r k*qj n A B r (n+k) c)=bC n λk=>if k=c then-A r c else 0:=aH λk hk=>by
     unfold qj;rw[W6 (by omega),W7 hcn,show n+k-n=k by omega]
     by_cases z:k=c
     ·rw[W7 z,W7 z,z];omega
     ·rw[W6 z,W6 z];omega
    have e4:∀m,c<m->(bC m λk=>if k=c then-A r c else 0)=- A r c:=by
     intro m;induction m with
     | zero=>intro h;omega
     | succ m ih=>
      intro h;show bC m (λk=>if k=c then-A r c else 0)+(if m=c then-A r c else 0)=_
      by_cases z:m=c
      ·subst z
       rw[W7 rfl,fF λi hi=>W6 (by omega)];omega
      ·rw[W6 z,ih (by omega)];omega
    show _=qj n A B r r c+bC n λk=>A r k*qj n A B r (n+k) c
    rw[e1,e2,e3,e4 n hcn];omega
   ·have e1:qj n A B (r+1) r c=lU n A B r (c-n):=by unfold qj;rw[W7 J9,W6 hcn,W7 (by omega)]
    have e2:qj n A B r r c=0:=by unfold qj;rw[W7 J9,W6 hcn,W6 (by omega)]
    have e3:(bC n λk=>A r k*qj n A B r (n+k) c)=lU n A B r (c-n):=aH λk hk=>by
     unfold qj;rw[W6 (by omega),W6 hcn,show n+k-n=k by omega]
    show _=qj n A B r r c+bC n λk=>A r k*qj n A B r (n+k) c
    rw[e1,e2,e3];omega
  ·rw[W6 e]
   unfold qj;by_cases J9:r<n
   ·rw[W7 J9,W7 J9]
    have ez:(r<t+1)=(r<t):=propext ⟨λh=>by omega,λh=>by omega⟩
    simp only[ez]
   ·rw[W6 J9,W6 J9]
theorem M5 (n:Nat):(- sg n) ^ n=1:=by
 rcases Nat.mod_two_eq_zero_or_one n with h|h
 ·have e:sg n=1:=W7 h
  obtain⟨k,hk⟩:∃k,n=2*k:=⟨n / 2,by omega⟩
  rw[e,hk,Int.pow_mul];have:(-1:Int) ^ 2=1:=by decide
  rw[this,Int.one_pow]
 ·have e:sg n=-1:=W6 (by omega)
  rw[e,Int.neg_neg,Int.one_pow]
theorem uD (n:Nat)(A B:Mx):det n (lU n A B)=det n A*det n B:=by
 have e1:det (n+n) (qj n A B 0)=det n A*det n B:=by
  rw[x_ (n:=n) (A:=A) n (qj n A B 0) (λr c hr hc=>?_) (λr c hr hc=>?_)]
  ·congr 1
   refine cT λr c hr hc=>?_
   unfold qj;rw[W6 (by omega),W6 (by omega),show n+r-n=r by omega,show n+c-n=c by omega]
  ·unfold qj;rw[W7 hr,W7 hc,W6 (by omega)]
  ·unfold qj;rw[W7 hr,W6 (by omega),W6 (by omega)]
 have e2:det (n+n) (qj n A B n)=(- sg n) ^ n*det n (lU n A B):=by
  refine vB (n:=n) (C:=lU n A B) n (qj n A B n) (λr c hr hc=>?_) (λr c hr hc=>?_) (λr c hr hc=>?_)
  ·unfold qj;rw[W7 hr,W7 hc,W7 hr]
  ·unfold qj;rw[W7 hr,W6 (by omega),W7 hr,show n+c-n=c by omega]
  ·unfold qj;rw[W6 (by omega),W7 hc,show n+r-n=r by omega]
 rw[M5,Zn] at e2;rw[<- e2,As n A B n (Yd _),e1]
theorem DM:∀(n:Nat) (M:Mx),(∀i j,i<j->j<n->M i j=0)->det n M=Bv n λi=>M i i
 | 0,_,_=>rfl
 | n+1,M,h=>by
  rw[cN];show bC n _+_=Bv n (λi=>M i i)*M n n
  rw[fF λi hi=>?_]
  ·have e:det n (λr c=>M (cW n r) c)=det n M:=cT λr c hr hc=>by
    have:cW n r=r:=by unfold cW;rw[W7 hr]
    rw[this]
   show 0+sg (n-n)*M n n*det n (λr c=>M (cW n r) c)=_
   rw[e,Nat.sub_self,DM n M λi j hi hj=>h i j hi (by omega)]
   have:sg 0=1:=rfl
   rw[this];generalize Bv n _=P;generalize M n n=X;grind
  ·rw[h i n hi (by omega)]
   generalize sg _=S;generalize det _ _=D;grind
end L2
namespace L2
open PySem PySem.Spec PyProof.Rows
theorem oU:∀ {ns:List Int} {us:List l?},Vals (ns.map V.int) us->∃xs:Array (Int×Tok),us.toArray=intItems xs/\xs.toList.map (·.1)=ns
 | [],_,.nil=>⟨#[],by simp[intItems],rfl⟩
 | n::ns,_,.cons r rr=>by
  obtain⟨t,rfl⟩:=(show ∃t,_=Value.int n t from r)
  obtain⟨xs,e1,e2⟩:=oU rr;refine⟨((n,t)::xs.toList).toArray,?_,by simp[e2]⟩
  have e3:=Jb Array.toList e1;apply Array.toList_inj.mp
  simp only[intItems,Array.toList_map] at e3 ⊢
  simp[e3]
theorem oV {xs:Array (Int×Tok)}{ns:List Int}(h:xs.toList.map (·.1)=ns)(i:Nat):numAt xs i=aq ns i:=by
 unfold numAt aq;rw[<- h,Yb,Ye];simp
section
variable {X:Cx}
def LA (K:bG):List V->Hp->VK->Prop:=λxs H Q=>∃p,∃ns:List Int,xs=[.ref p]/\aN K H p (ns.map V.int)/\ns≠[]/\∀M,M∈ns->(∀a∈ns,a<=M)->Q (.int M) H
theorem ET (hc:X.calm=true):i7 X (.builtin "max") (LA X.K):=by
 intro pins s σ H xs us Q I rv h;obtain⟨p,ns,rfl,hq,hne,q⟩:=h;obtain⟨u,rfl,ru⟩:=vals1 rv;cases (show u=I! p from ru)
 obtain⟨its,r,hp,_⟩:=I.list hq;obtain⟨ys,e1,e2⟩:=oU r;have hl:=hp.isList;rw[e1] at hl;have hsz:ys.size=ns.length:=by rw[<- e2];simp
 have hpos:0<ns.length:=List.length_pos_iff.mpr hne;refine max_intList (I.ok.hd hc) hl (by omega) λv h' tk hv hk=>?_
 obtain⟨t,rfl⟩:=intItems_at hv;obtain⟨h1,h2⟩:=argBest_gt (numAt ys) (ys.size-1);refine⟨.int _,H,I.kept (h':=h') (t':=tk) hk,⟨t,rfl⟩,q _ ?_ λa ha=>?_⟩
 ·rw[oV e2,dR (by omega)];exact Yy _
 ·obtain⟨j,hj,rfl⟩:=Z6 ha
  have:=h2 j (by omega)
  rw[oV e2,dR hj] at this;exact this
theorem BL {K:bG}(h:X.K=K)(hc:X.calm=true):i7 X (.builtin "max") (LA K):=by subst h;exact ET hc
end
def eK (c:Int)(f:List Int):List Int:=tU [c,1] (f.map λa=>trim [a])
theorem BN (found step:List Int)(a:Int):lW found (step.map λx=>a*x)=lW found (trim (d9 (trim [a]) step)):=qE (kh _ _) (kh _ _) λm=>by
 rw[kg,kg,dX,cp,Gy (by simp),Sz,uz (c:=a) rfl λi hi=>aX (by show 1<=i;omega)]
def dl (f:List Int):List Int:=(Yk (f.length-1)).map λi=>((i+1:Nat):Int)*aq f (i+1)
theorem jE (f:List Int)(m:Nat):aq (dl f) m=((m+1:Nat):Int)*aq f (m+1):=
 fK (c:=λi=>((i+1:Nat):Int)*aq f (i+1)) (λi hi=>by rw[aX (by omega),Y4]) m
theorem J_ {f:List Int}(h:Norm f):Norm (dl f):=by
 by_cases hl:f.length<=1
 ·left
  unfold dl;have:f.length-1=0:=by omega
  rw[this];rfl
 ·right
  have e:(dl f).length=f.length-1:=by unfold dl;simp
  rw[jE,e];have e2:f.length-1-1+1=f.length-1:=by omega
  rw[e2];refine Int.mul_ne_zero (by omega) (h.last λz=>by rw[z] at hl;exact hl (by decide))
end L2
namespace L2
abbrev Fn:=Nat->Int
theorem eo (f:Nat->Int):∀n,bC n f=bN n f
 | 0=>rfl
 | n+1=>by
  show bC n f+f n=bN n f+f n
  rw[eo f n]
def xp (i:Nat):Fn:=λk=>if k=i then 1 else 0
structure Top (f:Fn)(n:Nat):Prop where
 one:f n=1
 top:∀m,n<m->f m=0
structure kQ (f:Fn)(n:Nat)(u r:Fn):Prop where
 ex:∃(q:Fn) (N:Nat),(∀m,N<=m->q m=0)/\∀m,u m=cv q f m+r m
 lo:∀m,n<=m->r m=0
theorem BO {d f:Fn}{n t:Nat}(hf:Top f n)(hd:∀i,t<i->d i=0):cv d f (t+n)=d t:=by
 unfold cv;rw[ja (k:=t) (by omega) λi hi hne=>?_]
 ·rw[show t+n-t=n by omega,hf.one,Wv]
 ·by_cases c:t<i
  ·rw[hd i c,Zk]
  ·rw[hf.top _ (by omega),Y4]
theorem M6 (a b c:Fn)(m:Nat):cv (λi=>a i-b i) c m=cv a c m-cv b c m:=by
 have h:=vq (λi=>a i-b i) b c m
 have e:(λi=>a i-b i+b i)=a:=by funext i;omega
 rw[e] at h;omega
theorem kQ.uniq {f:Fn}{n:Nat}{u r s:Fn}(hf:Top f n)(h:kQ f n u r)(h':kQ f n u s):r=s:=by
 obtain⟨⟨q,N,hq,e⟩,lo⟩:=h;obtain⟨⟨q',N',hq',e'⟩,lo'⟩:=h';have eq1:∀m,cv (λi=>q i-q' i) f m=s m-r m:=λm=>by
  rw[M6];have:=e m
  have:=e' m
  omega
 have dz:∀k t,max N N'-k<=t->q t-q' t=0:=by
  intro k;induction k with
  | zero=>intro t ht;rw[hq t (by omega),hq' t (by omega)];rfl
  | succ k ih=>
   intro t ht;by_cases c:max N N'-k<=t
   ·exact ih t c
   ·have:=BO (d:=λi=>q i-q' i) (t:=t) hf λi hi=>ih i (by omega)
    rw[eq1,lo _ (by omega),lo' _ (by omega)] at this
    exact this.symm
 funext m
 have h0:(λi=>q i-q' i)=λ_=>0:=funext λt=>dz (max N N') t (by omega)
 have:=eq1 m
 rw[h0,yN] at this;omega
theorem Ka (k:Int)(a c:Fn)(m:Nat):cv (λi=>k*a i) c m=k*cv a c m:=by
 unfold cv;rw[<- qJ];exact bX λi hi=>by rw[Wr]
theorem kQ.add {f:Fn}{n:Nat}{u r v s:Fn}(h:kQ f n u r)(h':kQ f n v s)(k:Int):kQ f n (λm=>u m+k*v m) (λm=>r m+k*s m):=by
 obtain⟨⟨q,N,hq,e⟩,lo⟩:=h;obtain⟨⟨q',N',hq',e'⟩,lo'⟩:=h';refine⟨⟨λi=>q i+k*q' i,max N N',λm hm=>by show q m+k*q' m=0;rw[hq m (by omega),hq' m (by omega)];omega,λm=>?_⟩,λm hm=>by show r m+k*s m=0;rw[lo m hm,lo' m hm];omega⟩
 rw[vq,Ka,e m,e' m,Int.mul_add];omega
theorem kQ.zero (f:Fn)(n:Nat):kQ f n (λ_=>0) (λ_=>0):=⟨⟨λ_=>0,0,λ_ _=>rfl,λm=>by rw[yN];rfl⟩,λ_ _=>rfl⟩
theorem kQ.sum {f:Fn}{n:Nat}{u r:Nat->Fn}(a:Nat->Int):∀m,(∀k,k<m->kQ f n (u k) (r k))->kQ f n (λc=>bC m λk=>a k*u k c) (λc=>bC m λk=>a k*r k c)
 | 0,_=>kQ.zero f n
 | m+1,h=>(kQ.sum a m λk hk=>h k (by omega)).add (h m (by omega)) (a m)
theorem kQ.next {f:Fn}{n:Nat}{p u r s:Fn}{P:Nat}(hp:∀m,P<=m->p m=0)(h:kQ f n u r)(h':kQ f n (cv p r) s):kQ f n (cv p u) s:=by
 obtain⟨⟨q,N,hq,e⟩,lo⟩:=h;obtain⟨⟨q',N',hq',e'⟩,lo'⟩:=h';refine⟨⟨λi=>cv p q i+q' i,max (P+N) N',λm hm=>?_,λm=>?_⟩,lo'⟩
 ·show cv p q m+q' m=0
  rw[hq' m (by omega)]
  unfold cv;rw[c9 λi hi=>?_]
  ·rfl
  ·by_cases c:P<=i
   ·rw[hp i c,Zk]
   ·rw[hq (m-i) (by omega),Y4]
 ·have e1:cv p u m=cv p (λi=>cv q f i+r i) m:=Al (λi _=>rfl) λi _=>e i
  rw[e1,J4,vq,<- Am,e' m];omega
theorem kQ.self {f:Fn}{n:Nat}{u:Fn}(h:∀m,n<=m->u m=0):kQ f n u u:=⟨⟨λ_=>0,0,λ_ _=>rfl,λm=>by rw[yN];omega⟩,h⟩
theorem iP (i:Nat)(u:Fn)(m:Nat):cv (xp i) u m=if i<=m then u (m-i) else 0:=by
 unfold cv xp;by_cases c:i<=m
 ·rw[W7 c,ja (k:=i) (by omega) λj hj hne=>by rw[W6 hne,Zk],W7 rfl,Zn]
 ·rw[W6 c,c9 λj hj=>by rw[W6 (by omega),Zk]]
theorem DN (i m:Nat)(h:i+1<=m):xp i m=0:=W6 (by omega)
theorem Kc (i:Nat)(u:Fn):cv (xp (i+1)) u=cv (xp 1) (cv (xp i) u):=by
 funext m
 rw[iP,iP];by_cases c:1<=m
 ·rw[W7 c,iP]
  by_cases c2:i<=m-1
  ·rw[W7 c2,W7 (by omega),show m-1-i=m-(i+1) by omega]
  ·rw[W6 c2,W6 (by omega)]
 ·rw[W6 c,W6 (by omega)]
structure Rows (f:Fn)(n:Nat)(g:Fn)(R:Nat->Fn):Prop where
 zero:kQ f n g (R 0)
 succ:∀i,kQ f n (cv (xp 1) (R i)) (R (i+1))
theorem Rows.at {f:Fn}{n:Nat}{g:Fn}{R:Nat->Fn}(h:Rows f n g R):∀i,kQ f n (cv (xp i) g) (R i)
 | 0=>by
  have:cv (xp 0) g=g:=by funext m;rw[iP,W7 (by omega)];rfl
  rw[this];exact h.zero
 | i+1=>by
  rw[Kc];exact kQ.next (λm hm=>DN 1 m hm) (h.at i) (h.succ i)
theorem Rows.comb {f:Fn}{n:Nat}{g:Fn}{R:Nat->Fn}(h:Rows f n g R){p:Fn}{P:Nat}(hp:∀m,P<=m->p m=0):kQ f n (cv p g) λc=>bC P λk=>p k*R k c:=by
 have e:cv p g=λc=>bC P λk=>p k*cv (xp k) g c:=by
  funext c
  rw[eo];have e1:∀k,k<P->p k*cv (xp k) g c=if k<=c then p k*g (c-k) else 0:=λk _=>by
   rw[iP];split
   ·rfl
   ·rw[Y4]
  rw[bX e1];unfold cv;by_cases z:P<=c+1
  ·have:c+1=P+(c+1-P):=by omega
   rw[this,oR,c9 (f:=λi=>p (P+i)*_) λi hi=>by rw[hp _ (by omega),Zk],Zu]
   exact bX λi hi=>by rw[W7 (by omega)]
  ·obtain⟨d,rfl⟩:∃d,P=(c+1)+d:=⟨P-(c+1),by omega⟩
   have s1:=oR (λi=>if i<=c then p i*g (c-i) else 0) (c+1) d
   have s2:(bN d λi=>if c+1+i<=c then p (c+1+i)*g (c-(c+1+i)) else 0)=0:=c9 λi hi=>W6 (by omega)
   rw[s1,s2,Zu];exact bX λi hi=>(W7 (by omega)).symm
 rw[e];exact kQ.sum p P λk _=>h.at k
def iR (z:Int):Fn:=λk=>if k=0 then-z else if k=1 then 1 else 0
end L2
namespace L2
def tk (f:Fn)(n:Nat):Nat->Fn
 | 0=>xp 0
 | k+1=>λm=>(if m=0 then 0 else tk f n k (m-1))-tk f n k (n-1)*f m
section
variable {f:Fn} {n:Nat}
theorem vC (hf:Top f n)(hn:1<=n):∀k m,n<=m->tk f n k m=0
 | 0,m,h=>W6 (by omega)
 | k+1,m,h=>by
  show(if m=0 then 0 else tk f n k (m-1))-tk f n k (n-1)*f m=0
  rw[W6 (by omega)]
  by_cases c:m=n
  ·rw[c,hf.one];omega
  ·rw[hf.top m (by omega),vC hf hn k (m-1) (by omega)];omega
theorem BP (hf:Top f n)(hn:1<=n):∀k,kQ f n (xp k) (tk f n k)
 | 0=>kQ.self λm hm=>vC hf hn 0 m hm
 | k+1=>by
  have e:xp (k+1)=cv (xp 1) (xp k):=by
   funext m
   rw[iP];unfold xp;by_cases c:1<=m
   ·rw[W7 c]
    by_cases c2:m=k+1
    ·rw[W7 c2,W7 (by omega)]
    ·rw[W6 c2,W6 (by omega)]
   ·rw[W6 c,W6 (by omega)]
  rw[e];refine kQ.next (λm hm=>DN 1 m hm) (BP hf hn k) ⟨⟨λi=>if i=0 then tk f n k (n-1) else 0,1,λm hm=>W6 (by omega),λm=>?_⟩,vC hf hn (k+1)⟩
  have e1:cv (λi=>if i=0 then tk f n k (n-1) else 0) f m=tk f n k (n-1)*f m:=uz (W7 rfl) (λi hi=>W6 (by omega)) m
  rw[e1,iP];show _=_+((if m=0 then 0 else tk f n k (m-1))-tk f n k (n-1)*f m)
  by_cases c:1<=m
  ·rw[W7 c,W6 (by omega)];omega
  ·rw[W6 c,W7 (by omega)];omega
theorem Kd (hf:Top f n)(hn:1<=n){g:Fn}{L:Nat}(hg:∀m,L<=m->g m=0){R:Nat->Fn}(h:Rows f n g R)(i:Nat):R i=λc=>bC L λk=>g k*tk f n (k+i) c:=by
 refine kQ.uniq hf (h.at i) ?_
 have e:cv (xp i) g=λc=>bC L λk=>g k*xp (k+i) c:=by
  funext c
  rw[iP,eo];by_cases z:i<=c
  ·rw[W7 z]
   by_cases y:c-i<L
   ·rw[ja (k:=c-i) y λk hk hne=>by unfold xp;rw[W6 (by omega),Y4]]
    unfold xp;rw[W7 (by omega),Wv]
   ·rw[hg _ (by omega),c9 λk hk=>by unfold xp;rw[W6 (by omega),Y4]]
  ·rw[W6 z,c9 λk hk=>by unfold xp;rw[W6 (by omega),Y4]]
 rw[e];exact kQ.sum g L λk _=>BP hf hn (k+i)
def wb (W c:Nat)(u:Fn):Prop:=∀j,(u j).natAbs*W ^ j<=c
end
end L2
namespace L2
theorem M7 (z:Int):∀i,2<=i->iR z i=0:=λi h=>by unfold iR;rw[W6 (by omega),W6 (by omega)]
def tg:Nat->Int
 | 0=>1
 | n+1=>tg n*sg n
theorem EU (c:Int):aq [c,1]=iR (- c):=by
 funext m
 match m with
 | 0=>show c=-(-c);omega
 | 1=>rfl
 | m+2=>rw[aX (by show 2<=_;omega),M7 _ _ (by omega)]
theorem BQ (a:Int)(m:Nat):aq (trim [a]) m=if m=0 then a else 0:=by
 rw[dX];match m with
 | 0=>rfl
 | m+1=>rw[aX (by show 1<=_;omega),W6 (by omega)]
theorem uE (c a:Int)(r:List Int)(m:Nat):aq (eK c (a::r)) m=cv (aq (eK c r)) (iR (- c)) m+if m=0 then a else 0:=by
 show aq (lW (d9 (eK c r) [c,1]) (trim [a])) m=_
 rw[kg,cp,EU,BQ]
theorem GL (c:Int):aq (eK c [])=λ_=>0:=funext λm=>iz m
end L2
namespace L2
open PySem PySem.Spec PyProof.Rows
theorem jL {env:Env}:∀ {names:List (Str×NameKind)} {x:Str} {kd:NameKind},kd=.cell\/kd=.free->
  (names.map λ(n,k)=>if (k == Z? && env.scope.kind == .function && env.kindOf n == j? .cell) then (n,K!) else (n,k)).lookup x=j? kd->names.lookup x=j? .free\/names.lookup x=j? .cell
 | [],_,_,_,h=>by simp at h
 | (n,k)::r,x,kd,hk,h=>by
  have ih:=@jL env r x kd hk;have h':List.lookup x ((if (k == Z? && env.scope.kind == .function && env.kindOf n == j? .cell)=true then (n,K!) else (n,k))::(r.map λ(n,k)=>if (k == Z? && env.scope.kind == .function && env.kindOf n == j? .cell) then (n,K!) else (n,k)))=j? kd:=h
  by_cases hc:(k == Z? && env.scope.kind == .function && env.kindOf n == j? .cell)=true
  ·rw[W7 hc] at h'
   have hkf:k=.free:=by
    simp only[T?,beq_iff_eq] at hc
    exact hc.1.1
   subst hkf;cases hx:x == n with
   | true=>exact .inl (by simp only[Y2,hx])
   | false=>simp only[Y2,hx] at h' ⊢;exact ih h'
  ·rw[W6 hc] at h'
   cases hx:x == n with
   | true=>
    simp only[Y2,hx] at h' ⊢
    have e:k=kd:=M? h';subst e;rcases hk with hk|hk
    ·rw[hk];exact .inr rfl
    ·rw[hk];exact .inl rfl
   | false=>simp only[Y2,hx] at h' ⊢;exact ih h'
structure cB (X:Cx)(N:List Str)(sl:List (Option Nat))(scope:Scope)(own:Str):Prop where
 kind:scope.kind=.function
 cells:∀n acc,cellsFrom n scope.names acc=(own,n)::acc
 push:∀h,pushCells h scope.names=h.push { cls:=.type "cell",data:=.cell q? }
 Pk:∀x,scope.names.lookup x=j? .cell->x=own
 SE:scope.names.lookup own=j? .cell
 locs:∀y∈scope.names,y.2=.local->scope.names.lookup y.1=j? .local
 frees:∀y∈scope.names,y.2=.free->X.env.kindOf y.1=j? .cell\/X.env.kindOf y.1=j? .free
 len:sl.length=N.length
 out:∀(j i:Nat) (x:Str),N[j]?=j? x->sl[j]?=j? (j? i)->X.N[i]?=j? x/\scope.names.lookup x=j? .free
abbrev dH (X:Cx)(N:List Str)(scope:Scope)(own:Str)(cl:List (Str×o?))(C:o?)(s2:u?)(H2:Hp)(fp:List o?):Cx:=
 { X with N:=N,s₀:=s2,H₀:=H2,env:=compEnvC scope cl C X.env,outer:=X.stack,ex:=fp,fn:=λx=>decide (x=own),pn:=[],xe:=λ_ _=>False }
theorem BR {M:Model}{A:A!}{E:l?->u?->Prop}{s:u?}{scope:Scope}{own:Str}{globals:o?}{cl:List (Str×o?)}{qual:Str}{env:Env}{Q:Env->u?->Prop}
  (hc:∀n acc,cellsFrom n scope.names acc=(own,n)::acc) (hp:∀h,pushCells h scope.names=h.push { cls:=.type "cell",data:=.cell q? })
  (hQ:Q (newEnv scope s.heap.objs.size globals ((own,s.heap.objs.size+1)::cl) qual q? .none (j? env) builtinsNs) { s with heap:=(s.heap.push { cls:=.type "dict",data:=.dict #[] }).push { cls:=.type "cell",data:=.cell q? } }):
  L? M A (newFunctionEnv scope globals cl [] qual q? .none (j? env)) Q E s:=by
 simp only[newFunctionEnv,Option.isSome_some,if_true]
 refine B? (wpAny_alloc ?_)
 refine B? (wpAny_layCells _ (λname kind cells=>by cases hkc:kind == K! <;> simp[hkc]) _ _ _ _ ?_)
 rw[hc,hp];rw[show({ s with heap:=s.heap.push { cls:=.type "dict",data:=.dict #[] } }:u?).heap.objs.size=s.heap.objs.size+1 from Heap.size_push ..]
 rw[List.forIn_nil];exact B? (J? (J? hQ))
section
variable {X:Cx} {N:List Str} {sl:List (Option Nat)} {scope:Scope} {own:Str}
theorem cB.clos (S:cB X N sl scope own)(ok:X.Ok):closureFor scope X.env=pure (aO X.env.cells scope.names []):=
 gU λy hy hf=>ok.has y.1 (S.frees y hy hf)
theorem cB.Pn (S:cB X N sl scope own){x:Str}(hf:scope.names.lookup x=j? .free){c:o?}(hc:X.env.cells.lookup x=j? c):(aO X.env.cells scope.names []).lookup x=j? c:=
 fO hc _ _ (.inr (U? hf)) λd hd=>by simp at hd
theorem cB.cell (S:cB X N sl scope own){x:Str}(hf:scope.names.lookup x=j? .free){c c0:o?}(hc:X.env.cells.lookup x=j? c):((own,c0)::aO X.env.cells scope.names []).lookup x=j? c:=by
 have hne:(x == own)=false:=by
  refine beq_eq_false_iff_ne.mpr λz=>?_
  subst z;rw[S.SE] at hf;cases hf
 rw[Y2,hne];exact S.Pn hf hc
theorem vD {cl:List (Str×o?)}{x:Str}{c c0:o?}(h:((own,c0)::cl).lookup x=j? c):(x=own/\c=c0)\/(x≠own/\cl.lookup x=j? c):=by
 rw[Y2] at h;cases e:x == own with
 | true=>rw[e] at h;exact .inl ⟨by simpa using e,(M? h).symm⟩
 | false=>rw[e] at h;exact .inr ⟨by simpa using e,h⟩
theorem cB.ok (S:cB X N sl scope own){pins:List (o?×Obj)}{σ:St}{H2:Hp}{s2:u?}{fp:List o?}{C c0:o?}(I:Inv X pins σ H2 s2)(hf:∀b∈fp,jy X pins H2 b)(hlt:∀b∈fp,b<s2.heap.objs.size)(hC:s2.heap.objs.size<=C)(hc0:s2.heap.objs.size<=c0):
  (dH X N scope own ((own,c0)::aO X.env.cells scope.names []) C s2 H2 fp).Ok where
 mod:=I.ok.mod
 kind:=S.kind
 glob:=I.ok.glob
 blt:=I.ok.blt
 above:=hC
 inj:=λx y c h1 h2=>by
  rcases vD h1 with ⟨e1,e2⟩|⟨e1,e2⟩
  ·rcases vD h2 with ⟨e3,e4⟩|⟨e3,e4⟩
   ·rw[e1,e3]
   ·obtain⟨v,q⟩:=I.cell y c (a_.back e4)
    have:=q.lt
    rw[e2] at this;exact Jd (Yh this hc0) (Zs _)
  ·rcases vD h2 with ⟨e3,e4⟩|⟨e3,e4⟩
   ·obtain⟨v,q⟩:=I.cell x c (a_.back e2)
    have:=q.lt
    rw[e4] at this;exact Jd (Yh this hc0) (Zs _)
   ·exact I.ok.inj x y c (a_.back e2) (a_.back e4)
 has:=λx hx=>by
  have hx':scope.names.lookup x=j? .free\/scope.names.lookup x=j? .cell:=by
   rcases hx with hx|hx
   ·exact jL (.inl rfl) hx
   ·exact jL (.inr rfl) hx
  rcases hx' with hx'|hx'
  ·obtain⟨c,hc⟩:=I.ok.has x (S.frees _ (U? hx') rfl)
   exact⟨c,S.cell hx' hc⟩
  ·have:=S.Pk x hx'
   subst this;exact⟨c0,by show List.lookup x ((x,c0)::_)=_;rw[Y2,beq_self_eq_true]⟩
 Lh:=λx c h hl=>by
  rcases vD hl with ⟨_,e2⟩|⟨e1,_⟩
  ·rw[e2];exact hc0
  ·exact Jd (W9 h) e1
 hd:=I.ok.hd
 frames:=I.ok.frames
 stk:=.inl rfl
 Oa:=λb hb=>⟨Yp (Yh (hlt b hb) hC),λx c h=>by
  rcases vD h with ⟨_,e2⟩|⟨_,e2⟩
  ·rw[e2];exact Nat.ne_of_gt (Yh (hlt b hb) hc0)
  ·exact(hf b hb).2.2.2.2.1 x c (a_.back e2)⟩
 bs:=I.bs
 Dl:=Ym I.ok.Dl I.sz
 zX:=λb o e hb=>by
  rcases (hf b hb).2.2.2.1 with z|z
  ·exact I.ok.zX b o e z
  ·exact Jd (Yh (Yh (Yl e) I.ok.Dl) z) (Zs _)
 zY:=λb hb z=>by
  rcases List.mem_cons.mp (I.rG b z) with e|e
  ·exact(hf b hb).2.1 e
  ·exact(hf b hb).2.2.1 e
 mh:=I.stack
 F1:=I.uq
theorem cB.again (S:cB X N sl scope own){pins:List (o?×Obj)}{σ:St}{H2:Hp}{s2:u?}{fp:List o?}{C c0:o?}(I:Inv X pins σ H2 s2)(hf:∀b∈fp,jy X pins H2 b)
  {tM:List (o?×Obj)} {σ':St} {H':Hp} {s':u?} (J:Inv (dH X N scope own ((own,c0)::aO X.env.cells scope.names []) C s2 H2 fp) tM σ' H' s'):
  Inv (dH X N scope own ((own,c0)::aO X.env.cells scope.names []) C s2 H2 fp) tM (fk sl σ) H' s':=by
 obtain⟨m,hn,_⟩:=J.loc;refine⟨J.ok,J.os,J.bare,J.base,⟨m,hn,λj x v e1 e2 _=>?_⟩,J.cell,J.free,J.iN,J.pin,J.hok,?_⟩
 ·obtain⟨i,h1,h2⟩:=tR e2
  obtain⟨hN,hfree⟩:=S.out j i x e1 h1;have hk:=S.frees _ (U? hfree) rfl;obtain⟨m0,hn0,Gj⟩:=I.loc;have hv:N_ X.env.scope x:=by
   rcases hk with hk|hk
   ·exact .inr (.inl hk)
   ·exact .inr (.inr hk)
  obtain⟨u,r,l⟩:=Gj i x v hN h2 hv;refine⟨u,r,.inr ⟨?_,?_⟩⟩
  ·rcases fz (env:=X.env) hfree with z|z
   ·exact .inr z
   ·exact .inl z
  ·rcases l with ⟨z,_⟩|⟨_,c,hc,q⟩
   ·rcases hk with hk|hk
    ·have hk':X.env.kindOf x=j? .cell:=hk
     rw[hk'] at z;cases z
    ·have hk':X.env.kindOf x=j? .free:=hk
     rw[hk'] at z;cases z
   ·refine⟨c,S.cell hfree hc,?_⟩
    obtain⟨o,ho,hd⟩:=q;have MM:c ∉ fp:=λz=>(hf c z).2.2.2.2.1 x c hc rfl
    obtain⟨OM,e⟩:=J.base.any ho (I.iN x c hc) MM;exact⟨_,e,hd⟩
 ·unfold fk
  rw[Ya];exact S.len
theorem ya {elt tg iter:Expr}{ifs:List Expr}{pos pos2:Pos}{wi:TI}{g:TG}{nT:TT}{te:TE}{use:Option (l?->Sem Unit)}{QQ:l?->u?->Prop}(S:cB X N sl scope own)(j9:X.calm=true)(hi:PI X tg iter wi)
  (hg:∀cl C s2 H2 fp,PG (dH X N scope own cl C s2 H2 fp) tg g) (hif:∀cl C s2 H2 fp,Ls (dH X N scope own cl C s2 H2 fp) ifs nT) (he:∀cl C s2 H2 fp,PE (dH X N scope own cl C s2 H2 fp) elt te)
  (hs:∀x,foldedSetIterable iter X.env x=pure x) {pins:List (o?×Obj)} {s:u?} {σ:St} {H:Hp} {Q:VK} (I:Inv X pins σ H s) (h:xN wi sl g nT te σ H Q)
  (hend:∀(D C:o?) (H3:Hp) (s4:u?) (fl:Flow),Inv X pins σ H3 s4->H3 C=q?->C≠X.env.locals->C ∉ X.fs->X.s₀.heap.objs.size<=C->(∀x c,X.env.cells.lookup x=j? c->c≠C)->(∀p∈X.pn++pins,p.1≠C)->(∃m,s4.heap.Ns C m)->Q (.ref D) H3->
   compPost (S? X.prog X.w) X.A X.xe use QQ (.ref D) C (.ok fl) s4):
  L? (S? X.prog X.w) X.A (comprehension (.ListComp elt [⟨tg,iter,ifs,0⟩] scope pos) scope X.env pos2 (newList []) false (eval iter X.env) use) QQ X.xe s:=by
 refine wpAny_comprehension_free (use:=use) rfl hs (S.clos I.ok) S.kind S.locs (B! (hi pins s σ H _ I h) (λxv s1 h1=>B! h1 (λitv s2 h2=>?_) λ_ _ e=>e) λ_ _ e=>e)
 obtain⟨it,fp,tn,J,H2,rfl,I2,T,st2,f2,hR⟩:=h2;obtain⟨W,⟨m0,w0⟩,turn⟩:=hR _ I2.fresh;refine wpAny_newObj_type (BR S.cells S.push ?_)
 dsimp only
 generalize hP:s2.heap.push { cls:=.type "list",dict:=q?,data:=.seq ([]:List l?).toArray }=P2;generalize hh1:(P2.push { cls:=.type "dict",data:=.dict #[] }).push { cls:=.type "cell",data:=.cell q? }=h₁;have hC:P2.objs.size=s2.heap.objs.size+1:=by rw[<- hP,Heap.size_push]
 have hDC:s2.heap.objs.size≠P2.objs.size:=by rw[hC];exact Yp (Nat.lt_succ_self _)
 have rQ:s2.heap.objs.size<=P2.objs.size:=by rw[hC];exact W4 _
 have hcle:s2.heap.objs.size<=P2.objs.size+1:=Nat.le_succ_of_le rQ;have Xm:s2.heap.objs.size≠P2.objs.size+1:=by rw[hC];exact Yp (Nat.lt_succ_of_lt (Nat.lt_succ_self _))
 have u6:h₁.Ns P2.objs.size (λ_=>q?):=hh1 ▸ (Heap.Ns.new P2 (.type "dict")).keeps (λb o e=>Yg _ e)
 have hlt:∀b∈fp,b<s2.heap.objs.size:=λb hb=>let ⟨o,e,_⟩:=T.obj 0 _ st2 b hb;Yl e
 have old:∀b o,s2.heap.get? b=j? o->h₁.get? b=j? o:=λb o e=>hh1 ▸ Yg _ (Yg _ (hP ▸ Yg _ e))
 have Sn:h₁.get? s2.heap.objs.size=j? { cls:=.type "list",dict:=q?,data:=.seq ([]:List l?).toArray }:=hh1 ▸ Yg _ (Yg _ (hP ▸ Y1 _ rfl));have hc1:h₁.IsCell (P2.objs.size+1) q?:=by
  have:(P2.push { cls:=.type "dict",data:=.dict #[] }).objs.size=P2.objs.size+1:=Heap.size_push ..
  rw[<- this,<- hh1];exact⟨_,Y1 _ rfl,rfl⟩
 have hok:=S.ok (C:=P2.objs.size) (c0:=P2.objs.size+1) I2 f2 hlt rQ hcle;have MN:tL X.prog X.w (upd H2 s2.heap.objs.size (.lst [])) h₁:=I2.hok.laid old (Yd _) ⟨Yw _,[],_,.nil,Sn⟩;have So:Un (frs X.stack) fp H2 (upd H2 s2.heap.objs.size (.lst [])) s2.heap h₁:=Un.laid old (Yd _) I2.fresh;have BE:∀x c,((own,P2.objs.size+1)::aO X.env.cells scope.names []).lookup x=j? c->∃v,h₁.IsCell c v:=λx c hc=>by
  rcases vD hc with ⟨_,e2⟩|⟨_,e2⟩
  ·rw[e2];exact⟨_,hc1⟩
  ·obtain⟨v,o,ho,hd⟩:=I2.cell x c (a_.back e2)
   exact⟨v,o,old c o ho,hd⟩
 have BF:∀x c,((own,P2.objs.size+1)::aO X.env.cells scope.names []).lookup x=j? c->upd H2 s2.heap.objs.size (.lst []) c=q?:=λx c hc=>by
  rcases vD hc with ⟨_,e2⟩|⟨_,e2⟩
  ·rw[e2,aL (Ne.symm Xm)]
   exact I2.hok.fresh hcle
  ·obtain⟨v,q⟩:=I2.cell x c (a_.back e2)
   rw[aL (Yp q.lt)];exact I2.iN x c (a_.back e2)
 have BG:upd H2 s2.heap.objs.size (.lst []) P2.objs.size=q?:=by
  rw[aL (Ne.symm hDC)];exact I2.hok.fresh rQ
 have start:∀tk:Nat,Inv (dH X N scope own ((own,P2.objs.size+1)::aO X.env.cells scope.names []) P2.objs.size s2 H2 fp) [] (fk sl σ) (upd H2 s2.heap.objs.size (.lst [])) { s2 with heap:=h₁,toks:=tk }:=λtk=>by
  have J0:Inv (dH X N scope own ((own,P2.objs.size+1)::aO X.env.cells scope.names []) P2.objs.size s2 H2 fp) [] (Yn N.length q?) (upd H2 s2.heap.objs.size (.lst [])) { s2 with heap:=h₁,toks:=tk }:=
   ⟨hok,rfl,I2.bare,So,⟨_,u6,λi x v e1 e2 _=>by
    rw[List.getElem?_replicate] at e2;split at e2 <;> cases e2⟩,BE,BG,BF,λp hp=>Jd (show p∈([]:List (o?×Obj)) from hp) (by simp),MN,by simp⟩
  exact S.again I2 f2 J0
 have stK:tn 0 h₁:=T.keep _ _ _ st2 λb hb o e=>old b o e
 have Sq:∀b∈fp,upd H2 s2.heap.objs.size (.lst []) b=q?:=λb hb=>by
  rw[aL (Yp (hlt b hb))];exact(f2 b hb).1
 have uT:∀ {H':Hp},(∀b∈fp,H' b=q?)->∀b∈fp,jy (dH X N scope own ((own,P2.objs.size+1)::aO X.env.cells scope.names []) P2.objs.size s2 H2 fp) [] H' b:=λhn b hb=>
  ⟨hn b hb,Yp (Yh (hlt b hb) rQ),λz=>hok.zY b hb z,.inl hb,λx c hc=>(hok.Oa b hb).2 x c hc,λp hp=>Jd (show p∈([]:List (o?×Obj)) from hp) (by simp)⟩
 have loop:∀tk:Nat,codeAny (S? X.prog X.w) X.A (.compLoop (.ListComp elt [⟨tg,iter,ifs,0⟩] scope pos) 0 (.ref it) (.ref s2.heap.objs.size) (compEnvC scope ((own,P2.objs.size+1)::aO X.env.cells scope.names []) P2.objs.size X.env))
   (compPost (S? X.prog X.w) X.A X.xe use QQ (.ref s2.heap.objs.size) P2.objs.size) { s2 with heap:=h₁,toks:=tk }:=λtk=>by
  refine codeAny_loop rfl (λn s'=>∃i H',Inv (dH X N scope own ((own,P2.objs.size+1)::aO X.env.cells scope.names []) P2.objs.size s2 H2 fp) [] (fk sl σ) H' s'/\tn i s'.heap/\(∀b∈fp,H' b=q?)/\W i n H') ?_ m0 ⟨0,_,start tk,stK,Sq,w0⟩
  rintro n s3 ⟨i,H3,I3,st3,Lo,w3⟩;show L? _ X.A ((compTurn (.ListComp elt [⟨tg,iter,ifs,0⟩] scope pos) 0 (.ref it) (.ref s2.heap.objs.size) (compEnvC scope ((own,P2.objs.size+1)::aO X.env.cells scope.names []) P2.objs.size X.env)).onRaise (λx=>do noteFrame x (compEnvC scope ((own,P2.objs.size+1)::aO X.env.cells scope.names []) P2.objs.size X.env);theTreesLotGoes x)) _ _ s3
  refine wpAny_noted ?_
  rw[compTurn_list];rcases turn i n H3 w3 with ⟨stop,qn⟩|⟨go,step⟩
  ·refine B? (wpAny_standAt (B? (B! (T.done (dH X N scope own ((own,P2.objs.size+1)::aO X.env.cells scope.names []) P2.objs.size s2 H2 fp) rfl rfl rfl j9 i [] s3 _ H3 _ I3 (uT Lo) st3 stop) (λr s4 ⟨hr,I4⟩=>?_) λ_ _ z=>z)))
   subst hr;refine J? ?_
   obtain⟨m4,Ss,_⟩:=I4.loc;have u0:Un (frs X.stack) fp H2 H3 s2.heap s4.heap:=I4.base;have hI:Inv X pins σ H3 s4:=I2.F2 (s':=s4) (ch:=fp) I4.os u0 I4.hok I4.bare λb hb=>⟨(f2 b hb).2.2.2.1,(f2 b hb).2.1,(f2 b hb).2.2.2.2.1,(f2 b hb).2.2.2.2.2⟩
   have JZ:=I2.uR (H':=H3) rQ I4.free;exact hend _ _ H3 s4 _ hI I4.free JZ.2.1 JZ.2.2.1 (Ym I2.sz rQ) JZ.2.2.2.2.1 JZ.2.2.2.2.2 ⟨m4,Ss⟩ qn
  ·refine B? (wpAny_standAt (B? (B! (T.item (dH X N scope own ((own,P2.objs.size+1)::aO X.env.cells scope.names []) P2.objs.size s2 H2 fp) rfl rfl rfl j9 i [] s3 _ H3 (λ_ _=>False) I3 (uT Lo) st3 go) (λr s4 ⟨u,hr,h4⟩=>?_) λ_ _ z=>z.elim)))
   subst hr;refine B? (B! h4 (λ_ s5 ⟨x,H5,I5,r5,y5,F7,O0⟩=>?_) λ_ _ z=>z.elim)
   have O1:=I5.pinned (uT O0) (T.obj _ _ F7);refine B? (B! (hg _ _ _ _ _ _ s5 _ H5 x u _ O1 r5 (step x H5 y5)) (λ_ s6 ⟨σ6,H6,I6,q6⟩=>?_) λ_ _ z=>(show False from z).elim)
   have again:∀ {σ7:St} {H7:Hp} {s7:u?},Inv (dH X N scope own ((own,P2.objs.size+1)::aO X.env.cells scope.names []) P2.objs.size s2 H2 fp) ([]++rM fp s5.heap) σ7 H7 s7->(∃m',m'<n/\W (i+1) m' H7)->
     ∃m',m'<n/\∃i H',Inv (dH X N scope own ((own,P2.objs.size+1)::aO X.env.cells scope.names []) P2.objs.size s2 H2 fp) [] (fk sl σ) H' s7/\tn i s7.heap/\(∀b∈fp,H' b=q?)/\W i m' H':=λ{σ7 H7 s7} I7 ⟨m',hm,w7⟩=>by
    refine⟨m',hm,i+1,H7,S.again I2 f2 I7.j5,T.keep _ _ _ F7 λb hb o e=>(I7.pin (b,o) (Ys _ (Ys _ (eT hb e)))).1,λb hb=>?_,w7⟩
    obtain⟨o,e,d⟩:=T.obj _ _ F7 b hb;exact(I7.pin (b,o) (Ys _ (Ys _ (eT hb e)))).2.1
   refine B? (B! (hif _ _ _ _ _ _ s6 σ6 H6 _ I6 q6) (λok s7 ⟨H7,I7,q7⟩=>?_) λ_ _ z=>(show False from z).elim)
   cases ok with
   | false=>
    exact J? ⟨rfl,again I7 (by simpa using q7)⟩
   | true=>
    rw[W7 rfl] at q7;refine B? (B? (B! ((he _ _ _ _ _).out _ s7 σ6 H7 _ I7 q7) (λy s8 ⟨yv,H8,I8,r8,ys,hys,hlen,w8⟩=>?_) λ_ _ z=>(show False from z).elim))
    refine B? (B! (dU (X:=dH X N scope own ((own,P2.objs.size+1)::aO X.env.cells scope.names []) P2.objs.size s2 H2 fp) _ s8 σ6 H8 (.ref s2.heap.objs.size) [yv] (.ref s2.heap.objs.size) [y]
     (λv H9=>v=.eO/\∃m',m'<n/\W (i+1) m' H9) I8 rfl (.cons r8 .nil) ⟨_,ys,yv,rfl,rfl,hys,hlen,rfl,w8⟩) (λr s9 ⟨v9,H9,I9,r9,e9,w9⟩=>?_) λ_ _ z=>(show False from z).elim)
    exact J? (J? ⟨rfl,again I9 w9⟩)
 exact codeAny_compStart_list (loop _) (T.self _ 0 _ _ _ stK (loop _))
theorem vE {elt tg iter:Expr}{ifs:List Expr}{pos:Pos}{wi:TI}{g:TG}{nT:TT}{te:TE}(S:cB X N sl scope own)(j9:X.calm=true)(hi:PI X tg iter wi)
  (hg:∀cl C s2 H2 fp,PG (dH X N scope own cl C s2 H2 fp) tg g) (hif:∀cl C s2 H2 fp,Ls (dH X N scope own cl C s2 H2 fp) ifs nT) (he:∀cl C s2 H2 fp,PE (dH X N scope own cl C s2 H2 fp) elt te)
  (hs:∀x,foldedSetIterable iter X.env x=pure x:=by intro _;rfl):
  PE X (.ListComp elt [⟨tg,iter,ifs,0⟩] scope pos) (xN wi sl g nT te):=by
 refine⟨?_⟩
 intro pins s σ H Q I h;rw[eval_ListComp];refine ya S j9 hi hg hif he hs I h λD C H3 s4 fl I4 n1 n2 n3 n4 n5 n6 ⟨m,hn⟩ q=>?_
 exact⟨m,hn,λh' Jy=>⟨.ref D,H3,I4.turned (t':=s4.toks) (λb o hb e=>(Jy.2 b hb).trans e) n1 n2 (.inr n4) n5 n6,rfl,q⟩⟩
end
def qL (scope DC:Scope):Scope:=
 { scope with names:=scope.names.map λ(n,k)=>if (k == .free && DC.kind == .function && DC.names.lookup n == j? .cell) then (n,.cell) else (n,k) }
theorem Au {own:Str}:∀ {names:List (Str×NameKind)},(names.filter λy=>decide (y.2=.cell))=[(own,.cell)]->(∀n acc,cellsFrom n names acc=(own,n)::acc)/\∀h,pushCells h names=h.push { cls:=.type "cell",data:=.cell q? }
 | [],h=>by simp at h
 | (x,k)::r,h=>by
  by_cases c:k=.cell
  ·subst c
   rw[List.filter_cons_of_pos (by simp)] at h
   have h1:x=own:=Jb Prod.fst (List.cons.inj h).1;have h2:(r.filter λy=>decide (y.2=.cell))=[]:=(List.cons.inj h).2
   have q?:∀(l:List (Str×NameKind)),(l.filter λy=>decide (y.2=.cell))=[]->(∀n acc,cellsFrom n l acc=acc)/\∀h,pushCells h l=h:=by
    intro l;induction l with
    | nil=>intro _;exact⟨λ_ _=>rfl,λ_=>rfl⟩
    | cons y l ih=>
     intro hl;obtain⟨y1,y2⟩:=y;have hy:y2≠.cell:=λz=>by
      rw[List.filter_cons_of_pos (by simpa using z)] at hl
      cases hl
     rw[List.filter_cons_of_neg (by simpa using hy)] at hl
     obtain⟨i1,i2⟩:=ih hl;have hb:(y2 == K!)=false:=by simpa using hy
     refine⟨λn acc=>?_,λh=>?_⟩
     ·unfold cellsFrom;rw[hb];exact i1 n acc
     ·unfold pushCells;rw[hb];exact i2 h
   obtain⟨n1,n2⟩:=q? r h2;subst h1;refine⟨λn acc=>?_,λh=>?_⟩
   ·unfold cellsFrom;exact n1 _ _
   ·unfold pushCells;exact n2 _
  ·rw[List.filter_cons_of_neg (by simpa using c)] at h
   obtain⟨i1,i2⟩:=Au h;have hb:(k == K!)=false:=by simpa using c
   refine⟨λn acc=>?_,λh=>?_⟩
   ·unfold cellsFrom;rw[hb];exact i1 n acc
   ·unfold pushCells;rw[hb];exact i2 h
def DO (DC:Scope)(ON N:List Str)(sl:List (Option Nat))(scope:Scope)(own:Str):Bool:=
 decide (scope.kind=.function) && decide ((scope.names.filter λy=>decide (y.2=.cell))=[(own,.cell)]) && decide (scope.names.lookup own=j? .cell) && scope.names.all (λy=>decide (y.2=.local->scope.names.lookup y.1=j? .local)) &&
 scope.names.all (λy=>decide (y.2=.free->DC.names.lookup y.1=j? .cell\/DC.names.lookup y.1=j? .free)) && decide (sl.length=N.length) &&
 (Yk N.length).all λj=>match N[j]?,sl[j]? with
  | some x,j? (j? i)=>decide (ON[i]?=j? x/\scope.names.lookup x=j? .free)
  | _,_=>true
theorem gW {X:Cx}{N:List Str}{sl:List (Option Nat)}{scope:Scope}(own:Str)(DC:Scope)(ON:List Str)(h1:X.env.scope=DC)(h2:X.N=ON)(hb:DO DC ON N sl scope own=true):cB X N sl scope own:=by
 unfold DO at hb;simp only[T?,decide_eq_true_eq,Z9] at hb
 obtain⟨⟨⟨⟨⟨⟨b1,b2⟩,Xn⟩,b3⟩,b4⟩,b5⟩,b6⟩:=hb;obtain⟨o1,o2⟩:=Au b2;refine⟨b1,o1,o2,λx hx=>?_,Xn,b3,λy hy hf=>?_,b5,λj i x e1 e2=>?_⟩
 ·have:(x,K!)∈(scope.names.filter λy=>decide (y.2=.cell)):=List.mem_filter.mpr ⟨U? hx,by simp⟩
  rw[b2] at this;exact Jb Prod.fst (List.mem_singleton.mp this)
 ·have:=b4 y hy hf
  show X.env.scope.names.lookup y.1=_\/X.env.scope.names.lookup y.1=_
  rw[h1];exact this
 ·have hj:j<N.length:=(List.getElem?_eq_some_iff.mp e1).1
  have:=b6 j (List.mem_range.mpr hj)
  rw[e1,e2] at this;have q:=W9 this;rw[h2];exact q
def yT:Q?->Scope
 | .Return (j? (.ListComp _ _ sc _)) _=>sc
 | .Assign _ (.ListComp _ _ sc _) _=>sc
 | _=>default
end L2
namespace L2
open PySem PySem.Spec PySem.W PyProof.Rows
section
variable {X:Cx} {N:List Str} {sl:List (Option Nat)} {scope:Scope} {own:Str}
theorem GN {i:Nat}{x:Str}{elt tg iter:Expr}{ifs:List Expr}{cpos pos pos':Pos}{wi:TI}{g:TG}{nT:TT}{te:TE}(hN:X.N.Nodup)(hi':X.N[i]?=j? x)(hx:Loc X.env.scope x)(S:cB X N sl scope own)(j9:X.calm=true)(hi:PI X tg iter wi)
  (hg:∀cl C s2 H2 fp,PG (dH X N scope own cl C s2 H2 fp) tg g) (hif:∀cl C s2 H2 fp,Ls (dH X N scope own cl C s2 H2 fp) ifs nT) (he:∀cl C s2 H2 fp,PE (dH X N scope own cl C s2 H2 fp) elt te)
  (hsw:swapsWith (.ListComp elt [⟨tg,iter,ifs,0⟩] scope cpos) (j? (.Name x pos')) pos.line X.env=pure true:=by rfl)
  (hs:∀x,foldedSetIterable iter X.env x=pure x:=by intro _;rfl) (hf:X.fn x=true\/X.env.scope.names.lookup x=j? .local:=by first|exact .inl rfl|exact .inr rfl|assumption):
  PS X (.Assign [.Name x pos'] (.ListComp elt [⟨tg,iter,ifs,0⟩] scope cpos) pos) (JH (xN wi sl g nT te) (iO i)):=by
 refine⟨?_⟩
 intro pins s σ H D0 I h;rw[exec_Assign_Name_used _ _ _ _ hsw];refine B? (wpAny_standAt (B? ?_))
 show L? _ X.A (do let _ <- comprehension (.ListComp elt [⟨tg,iter,ifs,0⟩] scope cpos) scope X.env _ (newList []) false (eval iter X.env) (j? (assign (.Name x pos') X.env))) _ _ s
 refine B? (B! (ya (QQ:=λ_ s'=>∃σ' H',Inv X pins σ' H' s'/\D0.nx σ' H') (use:=j? (assign (.Name x pos') X.env)) S j9 hi hg hif he hs I h λD C H3 s4 fl I4 n1 n2 n3 n4 n5 n6 hm q=>?_)
  (λ_ s' hq=>J? (J? hq)) λ_ _ e=>e)
 obtain⟨m,hn⟩:=hm;show L? _ X.A (assign (.Name x pos') X.env (.ref D)) _ _ _
 refine wpAny_assign_Name (rH I4 hN hi' hx (show RelV (.ref D) (.ref D) from rfl) (λs5 I5 ⟨a,Jy,ha⟩=>?_) hf)
 have Su:C≠a:=by
  rcases ha with rfl|ha
  ·exact n2
  ·exact λz=>n5 _ _ ha z.symm
 refine⟨m,hn.sameBut Jy Su,λh' MO=>⟨_,H3,I5.turned (t':=s5.toks) (λb o hb e=>(MO.2 b hb).trans e) n1 n2 (.inr n4) n5 n6,q⟩⟩
end
end L2
set_option maxHeartbeats 1000000
namespace L2
open PySem PySem.Spec PyProof.Rows
open AutoSeq1 (wpAny_loadPart')
end L2
namespace L2
open PySem PySem.Spec PyProof.Rows
def BS (a:o?)(h:O?):Prop:=∃o vs,h.get? a=j? o/\o.data=.fields vs/\vs[2]?=j? Value.none
def Ke (f:Obj->Obj):Prop:=∀o vs,o.data=.fields vs->vs[2]?=j? Value.none->∃vs',(f o).data=.fields vs'/\vs'[2]?=j? Value.none
def Kp {α:Type}:Sem α->Prop
 | .pure _=>True
 | .raise _=>True
 | .unsupported _=>True
 | .finish _=>True
 | .rule _ k=>Kp (k ())
 | .at _ k=>Kp (k ())
 | .load _ _ k=>∀o,Kp (k o)
 | .update _ _ f k=>Ke f/\Kp (k ())
 | .loadIfAlive _ k=>∀o,Kp (k o)
 | .point _ k=>Kp (k ())
 | .alloc _ k=>∀a,Kp (k a)
 | .fresh k=>∀t,Kp (k t)
 | .handled _ k=>∀x,Kp (k x)
 | .stack k=>∀x,Kp (k x)
 | _=>False
theorem BS.push {a:o?}{h:O?}(x:BS a h)(o:Obj):BS a (h.push o):=by
 obtain⟨o',vs,e,r⟩:=x;exact⟨o',vs,Yg o e,r⟩
theorem BS.update {a b:o?}{h:O?}{f:Obj->Obj}(x:BS a h)(hf:Ke f):BS a (h.update b f):=by
 obtain⟨o,vs,e,d,r⟩:=x;by_cases c:b=a
 ·subst c
  obtain⟨vs',d',r'⟩:=hf o vs d r;exact⟨f o,vs',Heap.get?_update_self f e (Obj.isFreed_of_fields d'),d',r'⟩
 ·exact⟨o,vs,(Heap.get?_update_other _ _ c).trans e,d,r⟩
section
variable {α β:Type} {M:Model} {a:o?}
theorem Kf {Γ:PySem.Ctx}(t:Sem α):Kp t->∀ {Q:α->Pos->u?->Prop} {E:l?->Pos->u?->Prop} {p:Pos} {s:u?},BS a s.heap->Sem.wp M Γ t Q E p s->
  Sem.wp M Γ t (λx p' s'=>Q x p' s'/\BS a s'.heap) (λx p' s'=>E x p' s'/\BS a s'.heap) p s:=by
 induction t with
 | pure x=>intro _ Q E p s c h;simp only[Sem.wp_pure] at h ⊢;exact⟨h,c⟩
 | raise x=>intro _ Q E p s c h;simp only[Sem.wp_raise] at h ⊢;exact⟨h,c⟩
 | unsupported x=>intro _ Q E p s c h;simp only[Sem.wp_unsupported] at h
 | finish x=>intro _ Q E p s c h;simp only[Sem.wp_finish] at h
 | rule x k ih=>intro hk Q E p s c h;simp only[Sem.wp_rule] at h ⊢;exact ih _ hk c h
 | «at» x k ih=>intro hk Q E p s c h;simp only[Sem.wp_at] at h ⊢;exact ih _ hk c h
 | load x y k ih=>intro hk Q E p s c h;rw[Sem.wp_load] at h ⊢;obtain⟨o,ho,h⟩:=h;exact⟨o,ho,ih o (hk o) c h⟩
 | update x y f k ih=>intro hk Q E p s c h;rw[Sem.wp_update] at h ⊢;exact⟨h.1,ih _ hk.2 (c.update hk.1) h.2⟩
 | loadIfAlive x k ih=>intro hk Q E p s c h;simp only[Sem.wp_loadIfAlive] at h ⊢;exact ih _ (hk _) c h
 | point x k ih=>intro hk Q E p s c h;simp only[Sem.wp_point] at h ⊢;exact ih _ hk c h
 | alloc x k ih=>intro hk Q E p s c h;simp only[Sem.wp_alloc] at h ⊢;exact ih _ (hk _) (c.push _) h
 | fresh k ih=>intro hk Q E p s c h;simp only[Sem.wp_fresh] at h ⊢;exact ih _ (hk _) c h
 | handled o k ih=>intro hk Q E p s c h;rw[Sem.wp] at h ⊢;exact ih _ (hk _) c h
 | stack k ih=>intro hk Q E p s c h;rw[Sem.wp] at h ⊢;exact ih _ (hk _) c h
 | register=>intro hk;exact M! hk
 | ask=>intro hk;exact M! hk
 | choose=>intro hk;exact M! hk
 | os=>intro hk;exact M! hk
 | call=>intro hk;exact M! hk
 | newGen=>intro hk;exact M! hk
 | genState=>intro hk;exact M! hk
 | resume=>intro hk;exact M! hk
 | yield=>intro hk;exact M! hk
 | fork=>intro hk;exact M! hk
 | thread=>intro hk;exact M! hk
 | await=>intro hk;exact M! hk
theorem Av {A:A!}{t:Sem α}(hk:Kp t){Q:α->u?->Prop}{E:l?->u?->Prop}{s:u?}(c:BS a s.heap)(h:L? M A t Q E s):
  L? M A t (λx s'=>Q x s'/\BS a s'.heap) (λx s'=>E x s'/\BS a s'.heap) s:=λΓ p hΓ=>Kf t hk c (h Γ p hΓ)
theorem Kp.bind {t:Sem α}{f:α->Sem β}(ht:Kp t)(hf:∀x,Kp (f x)):Kp (t >>= f):=by
 show Kp (t.bind f)
 induction t with
 | pure x=>exact hf x
 | raise x=>trivial
 | unsupported x=>trivial
 | finish x=>trivial
 | rule x k ih=>exact ih _ ht
 | «at» x k ih=>exact ih _ ht
 | load x y k ih=>exact λo=>ih o (ht o)
 | update x y g k ih=>exact⟨ht.1,ih _ ht.2⟩
 | loadIfAlive x k ih=>exact λo=>ih o (ht o)
 | point x k ih=>exact ih _ ht
 | alloc x k ih=>exact λo=>ih o (ht o)
 | fresh k ih=>exact λo=>ih o (ht o)
 | handled o k ih=>exact λo=>ih o (ht o)
 | stack k ih=>exact λo=>ih o (ht o)
 | _=>exact M! ht
theorem yU (b:o?):Kp (load b):=λ_=>trivial
theorem vF:Kp stack:=λ_=>trivial
theorem yc (b:o?){f:Obj->Obj}(h:Ke f):Kp (update b f):=⟨h,trivial⟩
theorem Aw (v:l?):Kp (fieldsOf v):=by
 unfold fieldsOf;cases v <;> first|trivial|skip
 refine(yU _).bind λo=>?_
 split <;> trivial
theorem qM (v:l?)(i:Nat):Kp (field v i):=by
 unfold field;refine(Aw v).bind λo=>?_
 split <;> trivial
theorem BU {i:Nat}(v:l?)(h:i≠2):Ke (Obj.mapFields (·.setIfInBounds i v)):=λo vs d r=>⟨_,Obj.data_mapFields d _,by rw[Array.getElem?_setIfInBounds_ne h];exact r⟩
theorem mJ (v:l?){i:Nat}(x:l?)(h:i≠2):Kp (setField v i x):=by
 unfold setField;cases v <;> first|trivial|skip
 show Kp (updateField _ i x)
 unfold updateField;refine(yU _).bind λo=>?_
 split
 ·split
  ·exact yc _ (BU x h)
  ·trivial
 ·trivial
theorem yV (v:l?)(f:Option o?):Kp (setFlight v f):=by
 unfold setFlight;refine(qM _ _).bind λo=>?_
 split
 ·exact mJ _ _ (by decide)
 ·trivial
theorem Ax:∀l:List Env,Kp (readyFrames l)
 | []=>trivial
 | env::outer=>by
  unfold readyFrames;cases env.frame with
  | none=>trivial
  | some f=>
   refine(yU _).bind λo=>?_
   split
   ·trivial
   ·refine Kp.bind ?_ λb=>Kp.bind ?_ λv=>Kp.bind (yc _ λo vs d r=>⟨vs,d,r⟩) λ_=>Ax outer
    ·unfold behindIsImport
     split
     ·trivial
     ·split
      ·trivial
      ·exact(qM _ _).bind λ_=>trivial
    ·unfold keptBack
     cases outer with
     | nil=>
      dsimp only
      split
      ·trivial
      ·refine Kp.bind ?_ λ_=>?_
       ·unfold underTheClaimsCaller
        exact vF.bind λ_=>trivial
       ·split <;> trivial
     | cons=>trivial
theorem BV (env:Env):Kp (PySem.frameOf env):=by
 unfold PySem.frameOf;refine Kp.bind ?_ λl=>?_
 ·unfold frameEnvs
  exact vF.bind λ_=>trivial
 ·refine Kp.bind ?_ λx=>?_
  ·unfold frameObject
   split
   ·trivial
   ·exact(Ax _).bind λ_=>trivial
  ·split <;> trivial
theorem GO (f:o?)(b:Bool):Kp (entryPlaceOf f b):=by
 unfold entryPlaceOf;refine vF.bind λx=>?_
 split <;> trivial
theorem GP (a b c d e:l?)(l:List l?):Kp (EntryCells.newEntry a b c d e l):=by
 unfold EntryCells.newEntry newFields newObj;generalize ([a,b,c,d,e]++(if l.isEmpty=true then Yn 6 Value.none else l)).toArray=X
 dsimp only
 split
 ·trivial
 ·unfold newObjAsIs
  exact λ_=>trivial
theorem Kg (e:l?)(env:Env):Kp (noteFrame e env):=by
 unfold noteFrame;cases env.frame with
 | none=>trivial
 | some f=>
  refine(qM _ _).bind λh=>?_
  have z:Kp (do setField e 1 (<- EntryCells.newEntry h (<- PySem.frameOf env) .none (rawInt f) .none (<- entryPlaceOf f (h != .none)))):=
   (BV env).bind λ_=>(GO _ _).bind λ_=>(GP _ _ _ _ _ _).bind λ_=>mJ _ _ (by decide)
  split
  ·refine(qM _ _).bind λ_=>?_
   split
   ·trivial
   ·exact(mJ _ _ (by decide)).bind λ_=>z
  ·exact z
theorem vG (e:l?)(env:Env):Kp (leaving env e):=(Kg e env).bind λ_=>yV _ _
end
section
variable {P:F?} {w:H?} {H H':Hp} {h h':O?} {a:o?} {o:HO}
theorem ir.here (x:ir P w H h a o):∃u,h.get? a=j? u:=by
 induction o with
 | lst xs=>obtain⟨_,_,_,_,e⟩:=x;exact⟨_,e⟩
 | tup xs=>obtain⟨_,_,_,ob,e,_⟩:=x;exact⟨_,e⟩
 | dK kvs=>obtain⟨_,_,_,_,o,_,_,e,_⟩:=x;exact⟨_,e⟩
 | dT kvs=>obtain⟨_,_,_,_,o,_,_,e,_⟩:=x;exact⟨_,e⟩
 | set S n=>obtain⟨o,_,_,_,e,_⟩:=x;exact⟨_,e⟩
 | ins C dx fs=>obtain⟨_,_,_,e,_⟩:=x;exact⟨_,e⟩
 | own y=>obtain⟨_,e⟩:=x;exact⟨_,e⟩
 | xd fs=>obtain⟨_,⟨_,_,_,e,_⟩,_⟩:=x;exact⟨_,e⟩
 | rC lo hi=>obtain⟨_,_,_,e⟩:=x;exact⟨_,e⟩
 | FZ ob u ih=>obtain⟨e,_⟩:=x;exact⟨_,e⟩
 | uN ps=>exact⟨_,(show h.get? a=j? _ from x)⟩
 | met f y=>exact⟨_,(show h.get? a=j? _ from x)⟩
 | ext φ=>obtain⟨_,⟨_,e⟩,_⟩:=x;exact⟨_,e⟩
end
structure Out (P:F?)(w:H?)(outer:List Env)(H:Hp)(s:u?)(C ea:o?)(H':Hp)(s':u?):Prop where
 os:s'.os=s.os
 bare:AllBare s'.gens
 un:Un (frs outer) [] H H' s.heap s'.heap
 hok:tL P w H' s'.heap
 free:H' ea=q?
 Xo:BS ea s'.heap
 Xp:∃(B:O?) (t:o?),Heap.FlyingW B outer ea (.ref C) (.ref t) s'.heap/\∀b o,s'.heap.get? b=j? o->((∃u,s.heap.get? b=j? u)\/H' b≠q?)->b ∉ frs outer->B.get? b=j? o
def JA (P:F?)(w:H?):EB:=λouter H s E e s'=>∃ea C H',e=.ref ea/\Out P w outer H s C ea H' s'/\E e (j? C) H'
section
variable {X:Cx} {pins:List (o?×Obj)} {σ:St} {H1 H':Hp} {s1 s2:u?} {C ea:o?}
theorem Inv.LB (J:Inv X pins σ H' s2)(stk:X.stack=X.env::X.outer)(hf:X.env.frame=j? X.env.locals)(hex:X.ex=[]){h3:O?}{B:O?}{t:o?}(he:H' ea=q?)(cx:BS ea h3)(fl:Heap.FlyingW B X.outer ea (.ref C) (.ref t) h3)
  (hB:∀b o,s2.heap.get? b=j? o->((∃u,X.s₀.heap.get? b=j? u)\/H' b≠q?)->b ∉ frs X.stack->B.get? b=j? o) (ups:s2.heap.UpToSlots h3):Out X.prog X.w X.outer X.H₀ X.s₀ C ea H' { s2 with heap:=h3 }:=by
 have hL:∀b,((∃u,X.s₀.heap.get? b=j? u)\/H' b≠q?)->b≠X.env.locals:=λb hc z=>by
  rcases hc with ⟨u,h⟩|h
  ·have:=Yh (Yl h) J.ok.above
   rw[z] at this;exact Jd this (Zs _)
  ·rw[z] at h
   exact h J.free
 have hns:∀b,((∃u,X.s₀.heap.get? b=j? u)\/H' b≠q?)->b ∉ frs X.outer->b ∉ frs X.stack:=λb hc hn hm=>by
  rcases List.mem_cons.mp (J.rG b hm) with e|e
  ·exact hL b hc e
  ·exact hn e
 have keep:∀b u,s2.heap.get? b=j? u->((∃u,X.s₀.heap.get? b=j? u)\/H' b≠q?)->b ∉ frs X.outer->h3.get? b=j? u:=λb u hb hc hn=>fl.1 _ _ (hB b u hb hc (hns b hc hn))
 have U:=J.base;rw[hex] at U;have slot:∀b o,X.s₀.heap.get? b=j? o->X.H₀ b=q?->b∈frs X.outer->∃sl,h3.get? b=j? { o with slots:=sl }:=λb o e n hb=>by
  obtain⟨sl,h2⟩:=U.slot b o e n hb (by simp)
  obtain⟨_,o',ho',hd⟩:=J.ok.mh.mem hb;rw[e] at ho';cases ho';obtain⟨OM,h4⟩:=ups b _ h2 hd;exact⟨OM,h4⟩
 refine⟨J.os,J.bare,⟨λb o e n hb hx=>keep b o (U.keep b o e n hb hx) (.inl ⟨_,e⟩) hb,λb o e n hb hx=>slot b o e n hb,λb o e n hx=>U.free b o e n hx,λb o e hx=>?_,U.tups,U.wR,U.wU⟩,λa o ha=>?_,he,cx,B,t,fl,λb o Xq hc hn=>?_⟩
 ·by_cases hb:b∈frs X.outer
  ·obtain⟨sl,z⟩:=slot b o e (J.ok.F1 b hb) hb
   exact⟨_,z⟩
  ·obtain⟨o',z⟩:=U.there b o e hx
   exact⟨_,keep b o' z (.inl ⟨_,e⟩) hb⟩
 ·refine(J.hok a o ha).stay (λb u hb hu=>?_) (λb z=>z) λb xs z=>z
  have tr:H' b≠q?:=by
   rcases hb with z|z
   ·rw[z,ha];simp
   ·rw[z];simp
  refine keep b u hu (.inr tr) λhm=>tr ?_
  refine J.uq b ?_
  rw[stk];obtain⟨env,he',hfe⟩:=List.mem_filterMap.mp hm;exact List.mem_filterMap.mpr ⟨env,Y3 _ he',hfe⟩
 ·obtain⟨o2,h2⟩:∃o2,s2.heap.get? b=j? o2:=by
   rcases hc with ⟨u,e⟩|z
   ·exact U.there b u e (by simp)
   ·cases q:H' b with
    | none=>exact Jd q z
    | some v=>exact(J.hok b v q).here
  have:=keep b o2 h2 hc hn
  rw[Xq] at this;cases this;exact hB b o h2 hc (hns b hc hn)
theorem Inv.passes (I:Inv X pins σ H1 s1)(stk:X.stack=X.env::X.outer)(hf:X.env.frame=j? X.env.locals)(hex:X.ex=[])(o:Out X.prog X.w X.stack H1 s1 C ea H' s2){M:Model}{E:l?->u?->Prop}{Q:Unit->u?->Prop}
  (q:∀s3,Out X.prog X.w X.outer X.H₀ X.s₀ C ea H' s3->Q () s3):L? M X.A (leaving X.env (.ref ea)) Q E s2:=by
 have J:Inv X pins σ H' s2:=I.F2 o.os o.un o.hok o.bare (λb z=>Jd z (by simp))
 obtain⟨B,t,fl,hB⟩:=o.Xp;have hfr:=I.ok.frames;rw[stk] at hfr fl;refine B! (Av (a:=ea) (vG _ _) o.Xo (wpAny_leaves_onW (Q:=λ_ s3=>∃h3,s3={ s2 with heap:=h3 }/\Heap.FlyingW B X.outer ea (.ref C) (.ref t) h3/\s2.heap.UpToSlots h3) (E:=E) hfr hf fl λh3 SG ups=>⟨h3,rfl,SG,ups⟩)) (λ_ s3 z=>?_) λ_ _ z=>z.1
 obtain⟨⟨h3,rfl,SG,ups⟩,c3⟩:=z;refine q _ (J.LB stk hf hex o.free c3 SG (λb o' hb hc hn=>hB b o' hb ?_ hn) ups)
 refine hc.imp (λ⟨u,e⟩=>?_) id
 exact I.base.there b u e (by rw[hex];simp)
end
section
variable {P:F?} {w:H?} {K:bG} {mg:Str->Option l?} {base:O?} {N:List Str} {qual:Str} {scope:Scope} {f:o?} {cd:l?} {A:A!} {outer:List Env} {s:u?} {H:Hp} {E:XK}
theorem GQ:Passes (JA P w) (oK (JA P w) P w K mg base N qual scope f cd A outer s H E) E:=λpins σ H1 s1 e s2 I h=>by
 obtain⟨ea,C,H',rfl,o,hE⟩:=h;exact I.passes rfl rfl rfl o λs3 o3=>⟨ea,C,H',rfl,o3,hE⟩
theorem Po:PassesOwn (S? P w) (oK (JA P w) P w K mg base N qual scope f cd A outer s H E).A (oK (JA P w) P w K mg base N qual scope f cd A outer s H E).env (oK (JA P w) P w K mg base N qual scope f cd A outer s H E).xe:=PassesOwn.leaving
end
section
variable {X:Cx} {pins:List (o?×Obj)} {σ:St} {H1:Hp} {s1:u?} {C ea:o?}
theorem Inv.raised (J:Inv X pins σ H1 s1)(stk:X.stack=X.env::X.outer)(hf:X.env.frame=j? X.env.locals)(hex:X.ex=[]){h':O?}{args:List l?}(hx:Heap.MadeExcOf s1.heap h' ea (.ref C) args){M:Model}{E:l?->u?->Prop}{Q:Unit->u?->Prop}
  (q:∀s3,Out X.prog X.w X.outer X.H₀ X.s₀ C ea H1 s3->Q () s3):L? M X.A (leaving X.env (.ref ea)) Q E { s1 with heap:=h' }:=by
 have hfr:=J.ok.frames;have hin:∀env∈X.stack,∀b,env.frame=j? b->b∈frs X.stack:=λenv he b hb=>List.mem_filterMap.mpr ⟨env,he,hb⟩
 have hl:=PySem.W.funFrames_hide J.stack hin;have he:H1 ea=q?:=by
  cases z:H1 ea with
  | none=>rfl
  | some o=>
   obtain⟨u,hu⟩:=(J.hok ea o z).here;rw[hx.new] at hu;cases hu
 rw[stk] at hfr hl;have c0:BS ea h':=by
  obtain⟨t,e,_⟩:=hx.there;exact⟨_,_,e,rfl,rfl⟩
 refine B! (Av (a:=ea) (vG _ _) c0 (wpAny_leaves_madeW (s:={ s1 with heap:=h' }) (Q:=λ_ s3=>∃h3 t,s3={ s1 with heap:=h3 }/\Heap.FlyingW (PySem.W.hideAll s1.heap (frs X.stack)) X.outer ea (.ref C) (.ref t) h3/\h'.UpToSlots h3) (E:=E) (base:=PySem.W.hideAll s1.heap (frs X.stack)) hfr hf (λb o z=>PySem.W.of_hideAll _ z) (by rw[stk];exact hl) hx λh3 t fl _ _ ups=>⟨h3,t,rfl,fl,ups⟩)) (λ_ s3 z=>?_) λ_ _ z=>z.1
 obtain⟨⟨h3,t,rfl,fl,ups⟩,c3⟩:=z;exact q _ (J.LB stk hf hex he c3 fl (λb o hb _ hn=>PySem.W.hideAll_get _ hb hn) ((Heap.UpToSlots.of_keeps hx.keeps).trans ups))
end
def Raises (X:Cx)(E:XK):Prop:=∀(pins:List (o?×Obj)) (σ:St) (H:Hp) (s:u?) (ea C:o?) (args:List l?) (h':O?),Inv X pins σ H s->Heap.MadeExcOf s.heap h' ea (.ref C) args->E (.ref ea) (j? C) H->X.xe (.ref ea) { s with heap:=h' }
theorem qN {P:F?}{w:H?}{K:bG}{mg:Str->Option l?}{base:O?}{N:List Str}{qual:Str}{scope:Scope}{f:o?}{cd:l?}{A:A!}{outer:List Env}{s:u?}{H:Hp}{E:XK}:
  Raises (oK (JA P w) P w K mg base N qual scope f cd A outer s H E) E:=λpins σ H1 s1 ea C args h' I hx hE=>I.raised rfl rfl rfl hx λs3 o=>⟨ea,C,H1,rfl,o,hE⟩
theorem Kh {K:bG}{h:O?}{C:o?}{bmB:List l?}{newId:String}(X:K.In h)(q:PySem.W.excIn K C bmB newId=true):∃(bm:List l?) (N:o?) (nm qn:Str) (bs:List l?) (hdct:Bool) (sn:List Str) (sub:List l?) (ab:Bool) (col:Option Bool) (dd:Option o?) (k0 k1 k2 k3 k5:Option l?) (mN:Str->Option l?),
  h.get? C=j? (excClassObj nm qn C N bs bm hdct sn sub ab col dd k0 k1 k2 k3 k5 newId)/\h.Ns N mN/\mN "__init__"=q?/\OwnTail h bmB bm:=by
 rw[PySem.W.excIn.eq_1] at q;split at q <;> try contradiction
 next dict data slots found=>
  split at q <;> try contradiction
  next D tail s0 s1 s2 s3 id s5 GR isSlots=>
   rw[T?,T?,T?,T?,T?] at q;obtain⟨⟨⟨⟨⟨c1,c2⟩,c3⟩,c4⟩,c5⟩,c6⟩:=q;have c1:=eq_of_beq c1;have c2:=eq_of_beq c2;have c6:=eq_of_beq c6;subst c1;subst c2;obtain⟨n1,b1,m1,Xs,q1,d1,l1,u1,a1,o1,e1⟩:=data;have c3:e1=false:=by simpa using c3
   have GR:m1=_:=GR;rw[GR,c3] at found;have es:slots=#[s0,s1,s2,s3,j? (.builtin id),s5]:=by
    rw[<- isSlots]
   rw[es] at found;exact⟨tail,Xs,n1,q1,b1,d1,l1,u1,a1,o1,dict,s0,s1,s2,s3,s5,_,X _ _ found,.of_isNs (PySem.W.isNs_of_in X c5),PySem.W.nsMap_none_of_in X c5 c6,PySem.W.tail_of_in X c4⟩
def M8 (C:o?)(E:XK)(t:TA):TS:=λ_ σ H=>t σ H λvs H1=>vs.length<=K?/\∀ea,H1 ea=q?->E (.ref ea) (j? C) H1
theorem qO {X:Cx}{E:XK}{x:Str}{C:o?}{bmB bmN:List l?}{B Bn newId nid initId inN:String}{np cpos pos:Pos}{e:Expr}{es:List Expr}{t:TA}(hx:Raises X E)(hc:X.calm=true)(hg:Gl X x)(hm:X.mg x=j? (.ref C))(q:PySem.W.excIn X.K C bmB newId=true)
  (Fn:ExcBaseFacts Bn newId inN bmN) (hBn:bmB.contains (.type Bn)=true) (F:ExcBaseFacts B nid initId bmB) (ha:PA X (e::es) t) (hd:(x ==("__debug__":Str))=false:=by decide)
  (he:I? (e::es) X.env=(false,eval e X.env)::I? es X.env:=by rfl) (hpl:(backTo cpos (I? es X.env)).any (·.1)=false:=by rfl):PS X (.Raise (j? (.Call (.Name x np) (e::es) [] cpos)) q? pos) (M8 C E t):=by
 refine⟨?_⟩
 intro pins s σ H D I h;obtain⟨v1,v2,v3,v4,v5,v6,v7,v8,v9,w1,w2,w3,w4,w5,w6,w7,mN,Rn,Xu,hni,TL⟩:=Kh I.mod.Rc q;refine wpAny_Raise_call_subU (bm:=v1) (N:=v2) (nm:=v3) (q:=v4) (bs:=v5) (hdct:=v6) (sn:=v7) (sub:=v8) (ab:=v9) (col:=w1) (dd:=w2) (k0:=w3) (k1:=w4) (k2:=w5) (k3:=w6) (k5:=w7) (C:=C) Fn hBn F (TL.hasType F.hasBase) (I.ok.hd hc) ?_ hni (yt I hg hm ⟨rfl,?_⟩ hd)
 ·rw[he]
  show(false || (backTo cpos (I? es X.env)).any (·.1))=false
  rw[hpl];rfl
 ·rw[he]
  have run:=ha cpos pins s σ H _ I h;rw[he] at run;refine Calls.evalArgs_plain (eB run λus s1 z=>?_)
  ·obtain⟨vs,J,I1,r,hl,hE⟩:=z
   refine⟨rfl,by rw[<- r.length];exact hl,I1.bk _ _ Rn,Xu.keeps I1.bk,TL.keeps I1.bk,λh' ea hm=>hx pins σ J s1 ea C us h' I1 hm (hE ea ?_)⟩
   cases z:J ea with
   | none=>rfl
   | some o=>
    obtain⟨u,hu⟩:=(I1.hok ea o z).here;rw[hm.new] at hu;cases hu
structure vH (P:F?)(w:H?)(K:bG)(mg:Str->Option l?)(base:O?)(k:Nat)(x:Str)(ps:List Str)(sp:Sp):Prop where
 ex:∃f fd,kH P w K mg base (JA P w) k f fd ps sp/\Binds K fd ps []/\PySem.W.keepIn K (.ref f)=true/\mg x=j? (.ref f)
section
variable {P:F?} {w:H?} {K:bG} {mg:Str->Option l?} {base:O?}
theorem Src.SH {x:Str}{st:Q?}{N ps:List Str}{k:Nat}{sp:Sp}(F:Src K mg x st ps)(S:aI N ps (ao st))(len:∀vs H Q E,sp vs H Q E->vs.length=ps.length)
  (body:∀(f:o?) (cdv:l?) (A:A!) (outer:List Env) (s:u?) (H:Hp) (vs:List V) (Q:VK) (E:XK),fj k (A.deeper (envOfC x (ao st) s.heap.objs.size f cdv))->sp vs H Q E->
   ∃t,z4 (oK (JA P w) P w K mg base N x (ao st) f cdv A outer s H E) (b7 st) t/\t { nx:=λ_ H'=>Q .eO H',rt:=Q } (start N vs) H):vH P w K mg base (k+1) x ps sp:=by
 obtain⟨f,fd,G,B,M⟩:=F.ex;have kp:=G.kp;obtain⟨_,_,_,_,_,_,cdv,_,_,rfl,lk,hcd⟩:=G.ex;exact⟨f,_,Gd lk hcd S len (body f cdv),B,kp,M⟩
end
theorem DP {X:Cx}{E:XK}{k n:Nat}{x:Str}{ps:List Str}{sp:Sp}{e:Expr}{es:List Expr}{t:TA}{p pos:Pos}(D:vH X.prog X.w X.K X.mg X.base k x ps sp)(hp:Passes (JA X.prog X.w) X E)(hr:fj n X.A)(ha:PA X (e::es) t)(hle:k<=n:=by decide)(hg:Gl X x:=by rfl)
  (hdb:(x ==("__debug__":Str))=false:=by decide) (he:I? (e::es) X.env=(false,eval e X.env)::I? es X.env:=by rfl) (hpl:(backTo pos (I? es X.env)).any (·.1)=false:=by rfl):
  PE X (.Call (.Name x p) (e::es) [] pos) (Gb sp [] E t):=by
 obtain⟨f,fd,F,B,kp,M⟩:=D.ex;exact Du F (hr.mono hle) hg M kp B .nil hp ha hdb he hpl
end L2
namespace L2
open PySem PySem.Spec PySem.W PyProof.Rows PySem.Calls PySem.Builtin PySem.Builtin.ObjectAttr PySem.Builtin.Getset_descriptor
end L2
namespace L2
open PySem PySem.Spec PySem.W PyProof.Rows
end L2
namespace Alg
open Lean.Grind
section mk
variable {α:Type} (zero one:α) (add mul:α->α->α) (neg:α->α)
def nc:Nat->α
 | 0=>zero
 | 1=>one
 | n+2=>add (nc (n+1)) one
def ic:Int->α
 | .ofNat n=>nc zero one add n
 | .negSucc n=>neg (nc zero one add (n+1))
def UY (x:α):Nat->α
 | 0=>one
 | n+1=>mul (UY x n) x
@[reducible] def SI (az:∀a,add a zero=a) (ac:∀a b,add a b=add b a) (aa:∀a b c,add (add a b) c=add a (add b c)) (ma:∀a b c,mul (mul a b) c=mul a (mul b c)) (mo:∀a,mul a one=a)
    (ld:∀a b c,mul a (add b c)=add (mul a b) (mul a c)) (mc:∀a b,mul a b=mul b a) (na:∀a,add (neg a) a=zero):CommRing α:=
  have mz:∀a,mul a zero=zero:=λa=>by
    have h1:mul a zero=add (mul a zero) (mul a zero):=by rw[<- ld,az]
    calc mul a zero=add zero (mul a zero):=by rw[ac,az]
      _=add (add (neg (mul a zero)) (mul a zero)) (mul a zero):=by rw[na]
      _=add (neg (mul a zero)) (mul a zero):=by rw[aa,<- h1]
      _=zero:=na _
  have nn:∀a,neg (neg a)=a:=λa=>by
    calc neg (neg a)=add (neg (neg a)) (add (neg a) a):=by rw[na,az]
      _=add (add (neg (neg a)) (neg a)) a:=by rw[aa]
      _=a:=by rw[na,ac,az]
  have nz:neg zero=zero:=by rw[<- az (neg zero),na]
  have nm:∀a b,mul (neg a) b=neg (mul a b):=λa b=>by
    calc mul (neg a) b=add (mul (neg a) b) (add (mul a b) (neg (mul a b))):=by rw[ac (mul a b),na,az]
      _=add (add (mul (neg a) b) (mul a b)) (neg (mul a b)):=by rw[aa]
      _=add (mul b (add (neg a) a)) (neg (mul a b)):=by rw[mc (neg a),mc a,ld]
      _=neg (mul a b):=by rw[na,mz,ac,az]
  have UZ:∀i:Int,ic zero one add neg (-i)=neg (ic zero one add neg i):=λi=>by
    match i with
    | .ofNat 0=>exact nz.symm
    | .ofNat (n+1)=>rfl
    | .negSucc n=>exact(nn _).symm
  { add:=add,mul:=mul,neg:=neg,sub:=λa b=>add a (neg b)
    natCast:=⟨nc zero one add⟩,ofNat:=λn=>⟨nc zero one add n⟩,nsmul:=⟨λn a=>mul (nc zero one add n) a⟩,npow:=⟨UY one mul⟩
    add_zero:=az,add_comm:=ac,add_assoc:=aa,mul_assoc:=ma,mul_one:=mo,one_mul:=λa=>(mc _ _).trans (mo a),left_distrib:=ld
    right_distrib:=λa b c=>by
      show mul (add a b) c=add (mul a c) (mul b c)
      rw[mc,ld,mc c,mc c]
    zero_mul:=λa=>(mc _ _).trans (mz a),mul_zero:=mz,pow_zero:=λ_=>rfl,pow_succ:=λ_ _=>rfl
    ofNat_succ:=λa=>by
      match a with
      | 0=>exact((ac _ _).trans (az one)).symm
      | n+1=>rfl
    ofNat_eq_natCast:=λ_=>rfl,nsmul_eq_natCast_mul:=λ_ _=>rfl
    intCast:=⟨ic zero one add neg⟩,zsmul:=⟨λi a=>mul (ic zero one add neg i) a⟩
    neg_add_cancel:=na,sub_eq_add_neg:=λ_ _=>rfl
    neg_zsmul:=λi a=>by
      show mul (ic zero one add neg (-i)) a=neg (mul (ic zero one add neg i) a)
      rw[UZ,nm]
    zsmul_natCast_eq_nsmul:=λ_ _=>rfl,intCast_ofNat:=λ_=>rfl,intCast_neg:=UZ,mul_comm:=mc }
end mk
@[ext] structure cS (α:Type) where
 c:Nat->α
section ser
variable {α:Type} [CommRing α]
def tl (a:cS α):cS α:=⟨λi=>a.c (i+1)⟩
def Oe (x:α)(a:cS α):cS α:=⟨λi=>x*a.c i⟩
def GS (a b:cS α):cS α:=⟨λi=>a.c i+b.c i⟩
def SJ (a:cS α):cS α:=⟨λi=>- a.c i⟩
def DQ:cS α:=⟨λ_=>0⟩
def cst (x:α):cS α:=⟨λi=>if i=0 then x else 0⟩
def cX (a b:cS α):Nat->α
 | 0=>a.c 0*b.c 0
 | k+1=>a.c 0*b.c (k+1)+cX (tl a) b k
def smul (a b:cS α):cS α:=⟨cX a b⟩
theorem qP (b:cS α):∀k,cX DQ b k=0
 | 0=>by show(0:α)*b.c 0=0;grind
 | k+1=>by
  have:=qP b k
  show(0:α)*b.c (k+1)+cX DQ b k=0
  grind
theorem mK (c:cS α):∀(k:Nat) (a b:cS α),cX (GS a b) c k=cX a c k+cX b c k
 | 0,a,b=>by show(a.c 0+b.c 0)*c.c 0=a.c 0*c.c 0+b.c 0*c.c 0;grind
 | k+1,a,b=>by
  have:=mK c k (tl a) (tl b)
  show(a.c 0+b.c 0)*c.c (k+1)+cX (GS (tl a) (tl b)) c k=(a.c 0*c.c (k+1)+cX (tl a) c k)+(b.c 0*c.c (k+1)+cX (tl b) c k)
  grind
theorem tV (x:α)(c:cS α):∀(k:Nat) (a:cS α),cX (Oe x a) c k=x*cX a c k
 | 0,a=>by show(x*a.c 0)*c.c 0=x*(a.c 0*c.c 0);grind
 | k+1,a=>by
  have:=tV x c k (tl a)
  show(x*a.c 0)*c.c (k+1)+cX (Oe x (tl a)) c k=x*(a.c 0*c.c (k+1)+cX (tl a) c k)
  grind
theorem Ay:∀(k:Nat) (a b:cS α),cX a b (k+1)=cX a (tl b) k+a.c (k+1)*b.c 0
 | 0,a,b=>rfl
 | k+1,a,b=>by
  have:=Ay k (tl a) b
  show a.c 0*b.c (k+2)+cX (tl a) b (k+1)=(a.c 0*b.c (k+2)+cX (tl a) (tl b) k)+a.c (k+2)*b.c 0
  have e:(tl a).c (k+1)=a.c (k+2):=rfl;grind
theorem nF:∀(k:Nat) (a b:cS α),cX a b k=cX b a k
 | 0,a,b=>by show a.c 0*b.c 0=b.c 0*a.c 0;grind
 | k+1,a,b=>by
  have:=nF k (tl a) b
  rw[Ay k b a];show a.c 0*b.c (k+1)+cX (tl a) b k=_
  grind
theorem Kl (a b:cS α):tl (smul a b)=GS (Oe (a.c 0) (tl b)) (smul (tl a) b):=rfl
theorem Az (c:cS α):∀(k:Nat) (a b:cS α),cX (smul a b) c k=cX a (smul b c) k
 | 0,a,b=>by show(a.c 0*b.c 0)*c.c 0=a.c 0*(b.c 0*c.c 0);grind
 | k+1,a,b=>by
  have:=Az c k (tl a) b
  show(a.c 0*b.c 0)*c.c (k+1)+cX (tl (smul a b)) c k=a.c 0*(b.c 0*c.c (k+1)+cX (tl b) c k)+cX (tl a) (smul b c) k
  rw[Kl,mK,tV];show _+(_+cX (smul (tl a) b) c k)=_
  grind
theorem GU (x:α)(b:cS α):∀k,cX (cst x) b k=x*b.c k
 | 0=>rfl
 | k+1=>by
  have e:tl (cst x)=DQ:=by
   apply cS.ext;funext i;show(if i+1=0 then x else 0)=(0:α);rw[W6 (by omega)]
  show(if 0=0 then x else 0)*b.c (k+1)+cX (tl (cst x)) b k=x*b.c (k+1)
  rw[e,qP,W7 rfl];grind
instance:CommRing (cS α):=SI DQ (cst 1) GS smul SJ
 (λa=>by apply cS.ext;funext i;show a.c i+0=a.c i;grind) (λa b=>by apply cS.ext;funext i;show a.c i+b.c i=b.c i+a.c i;grind)
 (λa b c=>by apply cS.ext;funext i;show a.c i+b.c i+c.c i=a.c i+(b.c i+c.c i);grind) (λa b c=>by apply cS.ext;funext i;exact Az c i a b)
 (λa=>by apply cS.ext;funext i;show cX a (cst 1) i=a.c i;rw[nF,GU];grind)
 (λa b c=>by apply cS.ext;funext i;show cX a (GS b c) i=cX a b i+cX a c i;rw[nF,mK,nF _ b,nF _ c])
 (λa b=>by apply cS.ext;funext i;exact nF i a b) (λa=>by apply cS.ext;funext i;show-a.c i+a.c i=0;grind)
theorem LC (a b:cS α)(i:Nat):(a+b).c i=a.c i+b.c i:=rfl
theorem Pq (a:cS α)(i:Nat):(-a).c i=- a.c i:=rfl
theorem GV (a b:cS α)(i:Nat):(a-b).c i=a.c i-b.c i:=by
 show a.c i+- b.c i=_
 grind
theorem nG (x:α)(a:cS α)(i:Nat):(cst x*a).c i=x*a.c i:=GU x a i
end ser
end Alg
namespace Alg
open Lean.Grind
section
variable {α:Type} [CommRing α]
def Dg (a:cS α)(n:Nat):Prop:=∀i,n<=i->a.c i=0
def rZ (a:cS α):Prop:=∃N,Dg a N
theorem Dg.mono {a:cS α}{m n:Nat}(h:Dg a m)(k:m<=n):Dg a n:=λi hi=>h i (by omega)
theorem Dg.add {a b:cS α}{n:Nat}(h:Dg a n)(k:Dg b n):Dg (a+b) n:=λi hi=>by rw[LC,h i hi,k i hi];grind
theorem Dg.neg {a:cS α}{n:Nat}(h:Dg a n):Dg (-a) n:=λi hi=>by rw[Pq,h i hi];grind
theorem Dg.sub {a b:cS α}{n:Nat}(h:Dg a n)(k:Dg b n):Dg (a-b) n:=λi hi=>by rw[GV,h i hi,k i hi];grind
theorem Dg.zero (n:Nat):Dg (0:cS α) n:=λi _=>rfl
theorem Dg.cst (x:α):Dg (cst x) 1:=λi hi=>by show(if i=0 then x else 0)=0;rw[W6 (by omega)]
theorem Dg.one:Dg (1:cS α) 1:=Dg.cst 1
theorem Dg.tl {a:cS α}{n:Nat}(h:Dg a (n+1)):Dg (tl a) n:=λi hi=>h (i+1) (by omega)
theorem Dg.Xv {a:cS α}(h:Dg a 0):a=0:=by
 apply cS.ext;funext i;exact h i (Yw _)
theorem M9 {a:cS α}(h:Dg a 1):a=Alg.cst (a.c 0):=by
 apply cS.ext;funext i
 show a.c i=if i=0 then a.c 0 else 0
 by_cases e:i=0
 ·rw[W7 e,e]
 ·rw[W6 e];exact h i (by omega)
theorem yW (b:cS α)(n:Nat)(hb:Dg b (n+1)):∀(m:Nat) (a:cS α),Dg a (m+1)->(a*b).c (m+n)=a.c m*b.c n/\Dg (a*b) (m+n+1)
 | 0,a,ha=>by
  rw[M9 ha];refine⟨by rw[W1,nG];rfl,λi hi=>?_⟩
  rw[nG,hb i (by omega)];grind
 | m+1,a,ha=>by
  obtain⟨h1,h2⟩:=yW b n hb m (tl a) ha.tl;have s:∀k,(a*b).c (k+1)=a.c 0*b.c (k+1)+(tl a*b).c k:=λk=>rfl
  refine⟨?_,λi hi=>?_⟩
  ·have e:m+1+n=(m+n)+1:=by omega
   rw[e,s,h1,hb _ (by omega)]
   show _+a.c (m+1)*_=_
   grind
  ·obtain⟨k,rfl⟩:∃k,i=k+1:=⟨i-1,by omega⟩
   rw[s,hb _ (by omega),h2 _ (by omega)];grind
theorem Dg.mul {a b:cS α}{m n:Nat}(ha:Dg a m)(hb:Dg b n):Dg (a*b) (m+n):=λi hi=>by
 obtain⟨h1,h2⟩:=yW b n (hb.mono (by omega)) m a (ha.mono (by omega))
 by_cases e:i=m+n
 ·rw[e,h1,ha m (Yd _)];grind
 ·exact h2 i (by omega)
theorem rZ.add {a b:cS α}:rZ a->rZ b->rZ (a+b):=λ⟨m,h⟩ ⟨n,k⟩=>⟨m+n,(h.mono (by omega)).add (k.mono (by omega))⟩
theorem rZ.neg {a:cS α}:rZ a->rZ (-a):=λ⟨m,h⟩=>⟨m,h.neg⟩
theorem rZ.mul {a b:cS α}:rZ a->rZ b->rZ (a*b):=λ⟨m,h⟩ ⟨n,k⟩=>⟨m+n,h.mul k⟩
theorem rZ.zero:rZ (0:cS α):=⟨0,Dg.zero 0⟩
theorem rZ.cst (x:α):rZ (cst x):=⟨1,Dg.cst x⟩
theorem bH {β:Type}[CommRing β](x:β)(n:Nat):x ^ (n+1)=x ^ n*x:=Semiring.pow_succ x n
theorem bO {β:Type}[CommRing β](x:β):x ^ 0=1:=Semiring.pow_zero x
theorem jM {β:Type}[CommRing β](x:β)(m:Nat):∀n,x ^ (m+n)=x ^ m*x ^ n
 | 0=>by rw[Ww,bO];grind
 | n+1=>by rw[<- Nat.add_assoc,bH,jM x m n,bH];grind
theorem GW {β:Type}[CommRing β]:∀n:Nat,(1:β) ^ n=1
 | 0=>bO _
 | n+1=>by rw[bH,GW n];grind
theorem BW {β:Type}[CommRing β](x y:β):∀n:Nat,(x*y) ^ n=x ^ n*y ^ n
 | 0=>by rw[bO,bO,bO];grind
 | n+1=>by rw[bH,BW x y n,bH,bH];grind
theorem BX {β:Type}[CommRing β](x:β)(m:Nat):∀n,x ^ (m*n)=(x ^ m) ^ n
 | 0=>by rw[W2,bO,bO]
 | n+1=>by rw[Wp,jM,BX x m n,bH]
def mon (x:α)(k:Nat):cS α:=⟨λi=>if i=k then x else 0⟩
theorem qQ (x:α)(b:cS α):∀k i,(mon x k*b).c i=if k<=i then x*b.c (i-k) else 0
 | 0,i=>by
  have e:mon x 0=cst x:=rfl;rw[e,nG,W7 (Yw _)];rfl
 | k+1,0=>by
  show(if 0=k+1 then x else 0)*b.c 0=_
  rw[W6 (by omega),W6 (by omega)];grind
 | k+1,i+1=>by
  have e:tl (mon x (k+1))=mon x k:=by
   apply cS.ext;funext j
   show(if j+1=k+1 then x else 0)=if j=k then x else 0
   by_cases h:j=k
   ·rw[W7 h,W7 (by omega)]
   ·rw[W6 h,W6 (by omega)]
  show(if 0=k+1 then x else 0)*b.c (i+1)+(tl (mon x (k+1))*b).c i=_
  rw[e,qQ x b k i,W6 (by omega)]
  by_cases h:k<=i
  ·rw[W7 h,W7 (by omega)]
   have:i+1-(k+1)=i-k:=by omega
   rw[this];grind
  ·rw[W6 h,W6 (by omega)];grind
theorem Dg.mon (x:α)(k:Nat):Dg (mon x k) (k+1):=λi hi=>by show(if i=k then x else 0)=0;rw[W6 (by omega)]
structure dh (f:cS α)(n:Nat):Prop where
 top:f.c n=1
 dg:Dg f (n+1)
theorem GX {f:cS α}{n:Nat}(hf:dh f n):∀(N:Nat) (a:cS α),Dg a N->∃q,Dg q (N-n)/\Dg (a-q*f) n
 | 0,a,ha=>⟨0,Dg.zero _,by
   have:a-0*f=a:=by grind
   rw[this];exact ha.mono (Yw _)⟩
 | N+1,a,ha=>by
  by_cases hn:N+1<=n
  ·refine⟨0,Dg.zero _,?_⟩
   have:a-0*f=a:=by grind
   rw[this];exact ha.mono hn
  ·have hd:Dg (a-Alg.mon (a.c N) (N-n)*f) N:=λi hi=>by
    rw[GV,qQ,W7 (by omega)]
    by_cases e:i=N
    ·have:N-(N-n)=n:=by omega
     rw[e,this,hf.top];grind
    ·rw[ha i (by omega),hf.dg _ (by omega)];grind
   obtain⟨q,h1,h2⟩:=GX hf N _ hd;refine⟨q+Alg.mon (a.c N) (N-n),?_,?_⟩
   ·refine(h1.mono (by omega)).add ?_
    have:N+1-n=N-n+1:=by omega
    rw[this];exact Dg.mon _ _
   ·have:a-(q+Alg.mon (a.c N) (N-n))*f=a-Alg.mon (a.c N) (N-n)*f-q*f:=by grind
    rw[this];exact h2
theorem AA {f:cS α}{n:Nat}(hf:dh f n):∀(M:Nat) (q:cS α),Dg q M->Dg (q*f) n->q=0
 | 0,q,h,_=>h.Xv
 | M+1,q,h,k=>by
  have e:=(yW f n hf.dg M q h).1;rw[k _ (by omega),hf.top] at e
  refine AA hf M q (λi hi=>?_) k
  by_cases z:i=M
  ·rw[z];grind
  ·exact h i (by omega)
def Cg (f a b:cS α):Prop:=∃q,rZ q/\a-b=q*f
theorem Cg.refl (f a:cS α):Cg f a a:=⟨0,rZ.zero,by grind⟩
theorem Cg.symm {f a b:cS α}:Cg f a b->Cg f b a:=λ⟨q,h,e⟩=>⟨-q,h.neg,by grind⟩
theorem Cg.trans {f a b c:cS α}:Cg f a b->Cg f b c->Cg f a c:=λ⟨q,h,e⟩ ⟨r,k,g⟩=>⟨q+r,h.add k,by grind⟩
theorem Cg.add {f a b c d:cS α}:Cg f a b->Cg f c d->Cg f (a+c) (b+d):=λ⟨q,h,e⟩ ⟨r,k,g⟩=>⟨q+r,h.add k,by grind⟩
theorem Cg.mul {f a b c d:cS α}(pb:rZ b)(pc:rZ c):Cg f a b->Cg f c d->Cg f (a*c) (b*d):=λ⟨q,h,e⟩ ⟨r,k,g⟩=>⟨q*c+b*r,(h.mul pc).add (pb.mul k),by grind⟩
theorem Cg.uniq {f:cS α}{n:Nat}(hf:dh f n){a b:cS α}(ha:Dg a n)(hb:Dg b n)(h:Cg f a b):a=b:=by
 obtain⟨q,⟨M,hq⟩,e⟩:=h;have z:=AA hf M q hq (by rw[<- e];exact ha.sub hb)
 rw[z] at e;grind
end
structure Md (α:Type)[CommRing α] where
 f:cS α
 n:Nat
 mon:dh f n
 pos:0<n
section
variable {α:Type} [CommRing α]
@[ext] structure Qt (M:Md α) where
 s:cS α
 lt:Dg s M.n
theorem DR (M:Md α)(a:cS α)(ha:rZ a):∃r,Dg r M.n/\Cg M.f a r:=by
 obtain⟨N,h⟩:=ha;obtain⟨q,h1,h2⟩:=GX M.mon N a h;exact⟨a-q*M.f,h2,q,⟨_,h1⟩,by grind⟩
open Classical in
noncomputable def rest (M:Md α)(a:cS α):cS α:=if h:∃r,Dg r M.n/\Cg M.f a r then h.choose else 0
theorem nH (M:Md α)(a:cS α):Dg (rest M a) M.n:=by
 unfold rest;split
 ·rename_i h;exact h.choose_spec.1
 ·exact Dg.zero _
theorem qR {M:Md α}{a:cS α}(ha:rZ a):Cg M.f a (rest M a):=by
 unfold rest;rw[dif_pos (DR M a ha)];exact(DR M a ha).choose_spec.2
theorem rest_eq {M:Md α}{a r:cS α}(hr:Dg r M.n)(h:Cg M.f a r):rest M a=r:=by
 have ex:∃r,Dg r M.n/\Cg M.f a r:=⟨r,hr,h⟩;refine Cg.uniq M.mon (nH M a) hr (Cg.trans (Cg.symm ?_) h)
 unfold rest;rw[dif_pos ex];exact ex.choose_spec.2
theorem Qt.BY {M:Md α}(x:Qt M):rZ x.s:=⟨_,x.lt⟩
noncomputable def Qt.of (M:Md α)(a:cS α):Qt M:=⟨rest M a,nH M a⟩
theorem M_ (M:Md α):Dg (1:cS α) M.n:=Dg.one.mono M.pos
noncomputable instance (M:Md α):CommRing (Qt M):=SI ⟨0,Dg.zero _⟩ ⟨1,M_ M⟩ (λa b=>⟨a.s+b.s,a.lt.add b.lt⟩) (λa b=>Qt.of M (a.s*b.s)) (λa=>⟨-a.s,a.lt.neg⟩)
 (λa=>by apply Qt.ext;show a.s+0=a.s;grind) (λa b=>by apply Qt.ext;show a.s+b.s=b.s+a.s;grind) (λa b c=>by apply Qt.ext;show a.s+b.s+c.s=a.s+(b.s+c.s);grind)
 (λa b c=>by
  apply Qt.ext
  show rest M (rest M (a.s*b.s)*c.s)=rest M (a.s*rest M (b.s*c.s))
  refine rest_eq (nH _ _) ?_
  have h1:Cg M.f (rest M (a.s*b.s)*c.s) (a.s*b.s*c.s):=Cg.mul (a.BY.mul b.BY) c.BY (qR (a.BY.mul b.BY)).symm (Cg.refl _ _);have h2:Cg M.f (a.s*(b.s*c.s)) (a.s*rest M (b.s*c.s)):=Cg.mul a.BY (b.BY.mul c.BY) (Cg.refl _ _) (qR (b.BY.mul c.BY));have e:a.s*b.s*c.s=a.s*(b.s*c.s):=by grind
  rw[e] at h1;exact h1.trans (h2.trans (qR (a.BY.mul ⟨_,nH _ _⟩))))
 (λa=>by
  apply Qt.ext
  show rest M (a.s*1)=a.s
  refine rest_eq a.lt ?_
  have e:a.s*1=a.s:=by grind
  rw[e];exact Cg.refl _ _)
 (λa b c=>by
  apply Qt.ext
  show rest M (a.s*(b.s+c.s))=rest M (a.s*b.s)+rest M (a.s*c.s)
  refine rest_eq ((nH _ _).add (nH _ _)) ?_
  have e:a.s*(b.s+c.s)=a.s*b.s+a.s*c.s:=by grind
  rw[e];exact Cg.add (qR (a.BY.mul b.BY)) (qR (a.BY.mul c.BY)))
 (λa b=>by
  apply Qt.ext
  show rest M (a.s*b.s)=rest M (b.s*a.s)
  have e:a.s*b.s=b.s*a.s:=by grind
  rw[e])
 (λa=>by apply Qt.ext;show -a.s+a.s=0;grind)
theorem Pr {M:Md α}(a b:Qt M):(a+b).s=a.s+b.s:=rfl
theorem Pu {M:Md α}(a:Qt M):(-a).s=-a.s:=rfl
theorem LD {M:Md α}(a b:Qt M):(a*b).s=rest M (a.s*b.s):=rfl
end
end Alg
namespace Alg
open Lean.Grind
section
variable {α:Type} [CommRing α]
theorem Km (x y:α):cst (x+y)=cst x+cst y:=by
 apply cS.ext;funext i
 show(if i=0 then x+y else 0)=(if i=0 then x else 0)+(if i=0 then y else 0)
 split <;> grind
theorem GY:cst (0:α)=0:=by
 apply cS.ext;funext i
 show(if i=0 then (0:α) else 0)=0
 split <;> rfl
def X:cS α:=mon 1 1
theorem rZ.X:rZ (X:cS α):=⟨2,Dg.mon 1 1⟩
end
section
variable {α:Type} [CommRing α]
def Xw (α:Type)[CommRing α]:Prop:=(1:α)≠0/\∀x:α,x≠0->∃y,x*y=1
def go (a:Nat):List Nat->List Nat
 | []=>[a]
 | c::l=>(a+c)::go c l
def row:Nat->List Nat
 | 0=>[1]
 | n+1=>go 0 (row n)
def nt (α:Type)[CommRing α]:Nat->α
 | 0=>0
 | n+1=>nt α n+1
theorem vI (a:Nat):∀b:Nat,nt α (a+b)=nt α a+nt α b
 | 0=>by show nt α a=nt α a+0;grind
 | b+1=>by
  have e:=vI a b;show nt α (a+b)+1=nt α a+(nt α b+1)
  rw[e];grind
theorem r_ (a:Nat):∀b:Nat,nt α (a*b)=nt α a*nt α b
 | 0=>by show(0:α)=nt α a*0;grind
 | b+1=>by
  rw[Wp,vI,r_ a b];show _=nt α a*(nt α b+1)
  grind
theorem Kn:nt α 0=0:=rfl
theorem vJ:nt α 1=1:=by show(0:α)+1=1;grind
def hs (x y:α):List Nat->α
 | []=>0
 | c::l=>nt α c*y ^ l.length+x*hs x y l
theorem GZ:∀(a:Nat) (l:List Nat),(go a l).length=l.length+1
 | _,[]=>rfl
 | _,c::l=>Jb (·+1) (GZ c l)
theorem LF (x y:α):∀(a:Nat) (l:List Nat),hs x y (go a l)=nt α a*y ^ l.length+(x+y)*hs x y l
 | a,[]=>by
  show nt α a*y ^ 0+x*0=nt α a*y ^ 0+(x+y)*0
  grind
 | a,c::l=>by
  have e:=LF x y c l;show nt α (a+c)*y ^ (go c l).length+x*hs x y (go c l)=nt α a*y ^ (l.length+1)+(x+y)*(nt α c*y ^ l.length+x*hs x y l)
  rw[GZ,e,vI,bH];grind
theorem G0 (x y:α):∀n:Nat,(x+y) ^ n=hs x y (row n)
 | 0=>by
  show _=nt α 1*y ^ 0+x*0
  rw[bO,bO,vJ];grind
 | n+1=>by
  show _=hs x y (go 0 (row n))
  rw[LF,bH,G0 x y n,Kn];grind
def LG (p:Nat):Bool:=(row p).head? == j? 1 && (row p).getLast? == j? 1 && ((row p).drop 1).dropLast.all (λc=>c % p == 0) && (row p).length == p+1 && decide (2<=p)
def PR:List Nat:=[2,3,5,7,11,13,17,19,23,29,31,37,41,43,47]
theorem Na:∀p∈PR,LG p=true:=by decide +kernel
end
end Alg
namespace Alg
open Lean.Grind
section
variable {α:Type} [CommRing α]
theorem uF {β:Type}[CommRing β]{q:Nat}(h:0<q):(0:β) ^ q=0:=by
 obtain⟨k,rfl⟩:∃k,q=k+1:=⟨q-1,by omega⟩
 rw[bH];grind
end
end Alg
namespace Alg
open Lean.Grind
inductive El where
 | num (n:Int)
 | vec (l:List El)
inductive EV:Nat->El->Prop where
 | num {n:Nat} (i:Int):EV n (.num i)
 | vec {n:Nat} {l:List El}:l.length<=100->(∀e∈l,EV n e)->EV (n+1) (.vec l)
structure Og:Type 1 where
 α:Type
 ring:CommRing α
 p:Nat
 d:Nat
 pr:p∈PR
 fld:Xw α
 ch:nt α p=0
 fr:∀x:α,x ^ (p ^ d)=x
 enc:α->El
 inj:∀x y,enc x=enc y->x=y
 ht:Nat
 fl:∀x,EV ht (enc x)
instance Og.rg (T:Og):Lean.Grind.CommRing T.α:=T.ring
theorem cC {p:Nat}(h:p∈PR):2<=p/\p<50:=by
 revert p;decide
def G1 (p:Nat)(x:Nat):Nat->Nat
 | 0=>1 % p
 | n+1=>G1 p x n*x % p
theorem yX:∀p∈PR,∀x,x<p->x≠0->∃y,y<p/\x*y % p=1 % p:=by
 have h:(PR.all λp=>(Yk p).all λx=>x == 0 || (Yk p).any λy=>x*y % p == 1 % p)=true:=by decide +kernel
 intro p hp x hx x0;rw[Z9] at h;have h2:=h p hp;rw[Z9] at h2;have h3:=h2 x (List.mem_range.mpr hx);rw[Bool.or_eq_true] at h3;rcases h3 with z|z
 ·exact Jd (by simpa using z) x0
 ·rw[List.any_eq_true] at z
  obtain⟨y,h4,h5⟩:=z;exact⟨y,List.mem_range.mp h4,by simpa using h5⟩
theorem Nb:∀p∈PR,∀x,x<p->G1 p x p=x:=by
 have h:(PR.all λp=>(Yk p).all λx=>G1 p x p == x)=true:=by decide +kernel
 intro p hp x hx;rw[Z9] at h;have h2:=h p hp;rw[Z9] at h2;simpa using h2 x (List.mem_range.mpr hx)
@[ext] structure Zp (p:Nat) where
 v:Nat
 lt:v<p
def SK {p:Nat}(h:0<p)(n:Nat):Zp p:=⟨n % p,Nat.mod_lt _ h⟩
@[reducible] def qS {p:Nat} (h:2<=p):CommRing (Zp p):=SI ⟨0,by omega⟩ ⟨1,by omega⟩ (λa b=>SK (by omega) (a.v+b.v)) (λa b=>SK (by omega) (a.v*b.v)) (λa=>SK (by omega) (p-a.v))
 (λa=>by apply Zp.ext;show(a.v+0) % p=a.v;rw[Ww];exact Z2 a.lt)
 (λa b=>by apply Zp.ext;show(a.v+b.v) % p=(b.v+a.v) % p;rw[Nat.add_comm])
 (λa b c=>by apply Zp.ext;show((a.v+b.v) % p+c.v) % p=(a.v+(b.v+c.v) % p) % p;rw[Nat.mod_add_mod,Nat.add_mod_mod,Nat.add_assoc])
 (λa b c=>by apply Zp.ext;show((a.v*b.v) % p*c.v) % p=(a.v*((b.v*c.v) % p)) % p;rw[Nat.mod_mul_mod,Nat.mul_mod_mod,Wj])
 (λa=>by apply Zp.ext;show(a.v*1) % p=a.v;rw[Nat.mul_one];exact Z2 a.lt)
 (λa b c=>by apply Zp.ext;show(a.v*((b.v+c.v) % p)) % p=((a.v*b.v) % p+(a.v*c.v) % p) % p;rw[Nat.mul_mod_mod,Wm,Nat.mod_add_mod,Nat.add_mod_mod])
 (λa b=>by apply Zp.ext;show(a.v*b.v) % p=(b.v*a.v) % p;rw[Wn])
 (λa=>by
  apply Zp.ext
  show((p-a.v) % p+a.v) % p=0
  rw[Nat.mod_add_mod];have:=a.lt
  have e:p-a.v+a.v=p:=by omega
  rw[e,Nat.mod_self])
section
variable {p:Nat} (h:2<=p)
theorem G2 (x:Zp p):∀n:Nat,(letI:=qS h;x ^ n:Zp p).v=G1 p x.v n
 | 0=>by
  show 1=1 % p
  exact(Z2 (by omega)).symm
 | n+1=>by
  have e:=G2 x n;show((letI:=qS h;x ^ n:Zp p).v*x.v) % p=G1 p x.v n*x.v % p
  rw[e]
theorem G3:∀n:Nat,(letI:=qS h;nt (Zp p) n:Zp p).v=n % p
 | 0=>(Nat.zero_mod p).symm
 | n+1=>by
  have e:=G3 n;show((letI:=qS h;nt (Zp p) n:Zp p).v+1) % p=(n+1) % p
  rw[e,Nat.mod_add_mod]
end
def ground (p:Nat)(hp:p∈PR):Og where
 α:=Zp p
 ring:=qS (cC hp).1
 p:=p
 d:=1
 pr:=hp
 fld:=by
  letI:=qS (cC hp).1
  have p2:=(cC hp).1;refine⟨λz=>?_,λx hx=>?_⟩
  ·have e:(1:Nat)=0:=Jb Zp.v z
   omega
  ·obtain⟨y,h1,h2⟩:=yX p hp x.v x.lt λz=>hx (Zp.ext z)
   refine⟨⟨y,h1⟩,Zp.ext ?_⟩
   show x.v*y % p=1
   rw[h2];exact Z2 (by omega)
 ch:=by
  letI:=qS (cC hp).1
  apply Zp.ext
  rw[G3 (cC hp).1,Nat.mod_self];rfl
 fr:=λx=>by
  letI:=qS (cC hp).1
  apply Zp.ext
  rw[G2 (cC hp).1,Nat.pow_one];exact Nb p hp x.v x.lt
 enc:=λx=>.num x.v
 inj:=λx y e=>by
  apply Zp.ext
  injection e with e
  exact Int.ofNat.inj e
 ht:=0
 fl:=λx=>.num _
end Alg
namespace L2
open PySem PySem.Spec PyProof.Rows
def Ro (K:bG)(a b:o?):It:=
 ⟨λi H=>∃xs ys x y,aN K H a xs/\aN K H b ys/\xs[i]?=j? x/\ys[i]?=j? y,
  λi H v H'=>∃r x y,v=.ref r/\H r=q?/\(∀xs,aN K H a xs->xs[i]?=j? x)/\(∀ys,aN K H b ys->ys[i]?=j? y)/\H'=upd H r (.tup [x,y]),
  λi H=>∃xs ys,aN K H a xs/\aN K H b ys/\(xs.length<=i\/ys.length<=i)⟩
theorem G4 {P:F?}{w:H?}{K:bG}{elts:List Expr}{k:Nat}{pos:Pos}(a b z TI TO i1 i2:o?)(D:ZipApart z TI TO i1 i2 a b):
  Turn P w K (.Tuple elts k pos) (Ro K a b) [z,TI,TO,i1,i2] z (λi h=>IsZip h z TI TO .none/\IsPair h TI (.ref i1) (.ref i2)/\(∃a b,IsPair h TO a b)/\h.IsListIter i1 a i/\h.IsListIter i2 b i) where
 mem:=by simp
 obj:=λi h x c hc=>by
  obtain⟨hz,hTI,⟨u,v,hTO⟩,⟨o1,h1,_,d1⟩,⟨o2,h2,_,d2⟩⟩:=x;simp only[Wk,Z3,or_false] at hc
  rcases hc with rfl|rfl|rfl|rfl|rfl
  ·exact⟨_,hz,λv z=>by have z':Data.fields _=Data.cell v:=z;cases z'⟩
  ·exact⟨_,hTI,λv z=>by have z':Data.seq _ _=Data.cell v:=z;cases z'⟩
  ·exact⟨_,hTO,λv z=>by have z':Data.seq _ _=Data.cell v:=z;cases z'⟩
  ·exact⟨o1,h1,λv z=>by rw[d1] at z;cases z⟩
  ·exact⟨o2,h2,λv z=>by rw[d2] at z;cases z⟩
 keep:=λi h h' x kk=>by
  obtain⟨hz,hTI,⟨u,v,hTO⟩,h1,h2⟩:=x;exact⟨kk z (by simp) _ hz,kk TI (by simp) _ hTI,⟨u,v,kk TO (by simp) _ hTO⟩,h1.at λo ho=>kk i1 (by simp) o ho,h2.at λo ho=>kk i2 (by simp) o ho⟩
 item:=by
  intro X hP hw hK hc i pins s σ H E I hf x hg;subst hP hw hK;obtain⟨xs,ys,vx,vy,Oh,Oi,hx,hy⟩:=hg;obtain⟨its,rv,p,_⟩:=I.list Oh;obtain⟨U0,rw',p',_⟩:=I.list Oi;obtain⟨ux,hux,Xx⟩:=rv.get hx;obtain⟨uy,Xy,Xz⟩:=rw'.get hy;obtain⟨hz,hTI,⟨u,v,hTO⟩,h1,h2⟩:=x;have hn0:H s.heap.objs.size=q?:=I.fresh;have XA:z<s.heap.objs.size:=Yl hz;have XC:TO<s.heap.objs.size:=Yl hTO;have XD:TI<s.heap.objs.size:=Yl hTI;have h1l:i1<s.heap.objs.size:=by obtain⟨_,y,_⟩:=id h1;exact Yl y
  have h2l:i2<s.heap.objs.size:=by obtain⟨_,y,_⟩:=id h2;exact Yl y
  refine wpAny_pyNext_zip_item (x:=ux) (y:=uy) D hz hTI hTO h1 h2 p.isList p'.isList (by simpa using hux) (by simpa using Xy) λh' a1 a2 a3 a4 a5 a6 a7=>?_
  refine⟨_,rfl,wpAny_letOwnedTupleGo_zip a1 λh3 b1 LH=>?_⟩
  have hT2:h3.get? s.heap.objs.size=j? { cls:=.type "tuple",data:=.seq #[ux,uy] }:=(LH.2 _ (Nat.ne_of_gt XA)).trans a5;have I2:Inv X pins σ (upd H s.heap.objs.size (.tup [vx,vy])) { s with heap:=h3 }:=
   I.xQ (t':=s.toks) (ch:=[z,TI,TO,i1,i2]) (λc o hc q=>(LH.2 c λe=>hc (by simp[e])).trans (a7 c o (λe=>hc (by simp[e])) (λe=>hc (by simp[e])) (λe=>hc (by simp[e])) (λe=>hc (by simp[e])) q)) hf (Yd _)
    ⟨by show 2<=K?;rw[C?];omega,[ux,uy],.cons Xx (.cons Xz .nil),_,hT2,rfl,0,rfl⟩
  refine⟨.ref s.heap.objs.size,_,I2,rfl,⟨_,vx,vy,rfl,hn0,λzs hzs=>by rw[I.qm hzs Oh];exact hx,λzs hzs=>by rw[I.qm hzs Oi];exact hy,rfl⟩,⟨b1,?_,⟨_,_,(LH.2 TO D.TOz).trans a2⟩,?_,?_⟩,λc hc=>?_⟩
  ·exact(LH.2 TI D.TIz).trans (a7 TI _ D.TIz D.TITO D.TIi1 D.TIi2 hTI)
  ·exact a3.at λo q=>(LH.2 i1 D.i1z).trans q
  ·exact a4.at λo q=>(LH.2 i2 D.i2z).trans q
  ·have hc0:=(hf c hc).1
   rw[aL ?_]
   ·exact hc0
   ·simp only[Wk,Z3,or_false] at hc
    rcases hc with rfl|rfl|rfl|rfl|rfl <;> exact Yp ‹_›
 done:=by
  intro X hP hw hK hc i pins s σ H E I hf x hg;subst hP hw hK;obtain⟨xs,ys,Oh,Oi,hle⟩:=hg;obtain⟨its,rv,p,_⟩:=I.list Oh;obtain⟨U0,rw',p',_⟩:=I.list Oi;obtain⟨hz,hTI,⟨u,v,hTO⟩,h1,h2⟩:=x;have l1:=rv.length;have l2:=rw'.length;refine wpAny_pyNext_zip_end (I.ok.hd hc) D hz hTI hTO h1 h2 p.isList p'.isList (by rcases hle with z|z;exact .inl (by simp;omega);exact .inr (by simp;omega)) λh' hk=>?_
  exact⟨rfl,I.yJ (t':=s.toks) (ch:=[z,TI,TO,i1,i2]) (λc o hc q=>hk c o (λe=>hc (by simp[e])) (λe=>hc (by simp[e])) (λe=>hc (by simp[e])) (λe=>hc (by simp[e])) q) hf⟩
 self:=λ_ _ _ _ _ x h=>wpAny_pyIter_zip x.1 h
section
variable {X:Cx} {elts:List Expr} {k:Nat} {tpos:Pos}
def Px (K:bG)(ta:TA):TI:=λσ H R=>ta σ H λvs H1=>∃a b,vs=[.ref a,.ref b]/\(∃xs,aN K H1 a xs)/\(∃ys,aN K H1 b ys)/\R (Ro K a b) H1
theorem boot_zip:H! "zip"=j? (.type "zip"):=by decide +kernel
theorem Nc {l m:Expr}{ta:TA}{p pos:Pos}(hg:Gl X "zip")(hm:X.mg "zip"=q?)(ha:PA X [l,m] ta)(hs:I? [l,m] X.env=(false,eval l X.env)::I? [m] X.env:=by rfl)(ht:((backTo pos (I? [m] X.env)).any λx=>x.1)=false:=by rfl):
  PI X (.Tuple elts k tpos) (.Call (.Name "zip" p) [l,m] [] pos) (Px X.K ta):=by
 intro pins s σ H R I h;refine Call_ (jI I hg hm boot_zip (L! (eB (ha pos pins s σ H _ I h) λus s1 ⟨vs,H1,I1,r1,q1⟩=>?_) hs ht))
 obtain⟨a,b,e,⟨xs,Oh⟩,⟨ys,Oi⟩,q⟩:=q1;subst e;obtain⟨u1,u2,rfl,x1,x2⟩:=vals2 r1;cases (show u1=I! a from x1)
 cases (show u2=I! b from x2)
 obtain⟨its,rv,pl,_⟩:=I1.list Oh;obtain⟨U0,rw',U1,_⟩:=I1.list Oi;have hla:a<s1.heap.objs.size:=by obtain⟨_,y,_⟩:=pl.isList;exact Yl y
 have hlb:b<s1.heap.objs.size:=by obtain⟨_,y,_⟩:=U1.isList;exact Yl y
 refine call_zip_2 pl.isList U1.isList λh' hz hTI hTO h1 h2 hsz hk=>?_
 refine wpAny_pyIter_zip hz ?_
 have I2:Inv X pins σ H1 { s1 with heap:=h' }:=I1.kept (t':=s1.toks) hk
 refine⟨_,[s1.heap.objs.size+4,s1.heap.objs.size+2,s1.heap.objs.size+3,s1.heap.objs.size,s1.heap.objs.size+1],_,_,H1,rfl,I2,G4 a b (s1.heap.objs.size+4) (s1.heap.objs.size+2) (s1.heap.objs.size+3) s1.heap.objs.size (s1.heap.objs.size+1) ?_,⟨hz,hTI,⟨_,_,hTO⟩,h1,h2⟩,λc hc=>?_,q⟩
 ·generalize s1.heap.objs.size=n at*
  constructor <;> (simp only[o?] at *;omega)
 ·have hge:s1.heap.objs.size<=c:=by
   simp only[Wk,Z3,or_false] at hc
   rcases hc with rfl|rfl|rfl|rfl|rfl
   ·exact Wo _ _
   ·exact Wo _ _
   ·exact Wo _ _
   ·exact Yd _
   ·exact Wo _ _
  exact I1.uR hge (I1.hok.fresh hge)
theorem uG {K:bG}{l m:Expr}{ta:TA}{p pos:Pos}(hK:X.K=K)(hg:Gl X "zip")(hm:X.mg "zip"=q?)(ha:PA X [l,m] ta)(hs:I? [l,m] X.env=(false,eval l X.env)::I? [m] X.env:=by rfl)(ht:((backTo pos (I? [m] X.env)).any λx=>x.1)=false:=by rfl):
  PI X (.Tuple elts k tpos) (.Call (.Name "zip" p) [l,m] [] pos) (Px K ta):=by subst hK;exact Nc hg hm ha hs ht
end
theorem AB {K:bG}{a b D:o?}{xs ys:List V}{st:St}{g:TG}{nT:TT}{te:TE}{H1:Hp}{Q:VK}(Pv:Nat->List V->Hp->Prop)(hle:xs.length=ys.length)(h0:Pv 0 [] (upd H1 D (.lst [])))
  (hl:∀i zs H2,H2 D=j? (.lst zs)->Pv i zs H2->aN K H2 a xs/\aN K H2 b ys)
  (hs:∀i m x y zs H2 r,m=xs.length-i->i<xs.length->xs[i]?=j? x->ys[i]?=j? y->H2 D=j? (.lst zs)->zs.length<=i->Pv i zs H2->H2 r=q?->g (.ref r) st (upd H2 r (.tup [x,y])) λσ3 H3=>nT σ3 H3 λbb H4=>
   if bb=true then te σ3 H4 λy H5=>∃ys,H5 D=j? (.lst ys)/\ys.length<K?/\∃m',m'<m/\CW xs.length D Pv (i+1) m' (upd H5 D (.lst (ys++[y]))) else ∃m',m'<m/\CW xs.length D Pv (i+1) m' H4)
  (hd:∀zs H2,H2 D=j? (.lst zs)->Pv xs.length zs H2->Q (.ref D) H2):
  tQ (Ro K a b) D st g nT te Q H1:=by
 refine⟨CW xs.length D Pv,⟨xs.length,by simp,Yw _,[],av,Yd _,h0⟩,?_⟩
 rintro i m H2 ⟨hm,hi,zs,hz,hlen,p⟩;obtain⟨q1,q2⟩:=hl i zs H2 hz p;by_cases hlt:i<xs.length
 ·have Nd:i<ys.length:=by omega
  refine .inr ⟨⟨xs,ys,xs[i],ys[i],q1,q2,by simp[hlt],by simp[Nd]⟩,λv H' y=>?_⟩
  obtain⟨r,x,y',e1,hr,hx,hy,e2⟩:=y;subst e1 e2;exact hs i m x y' zs _ r hm hlt (hx xs q1) (hy ys q2) hz hlen p hr
 ·have e:i=xs.length:=by omega
  subst e;exact .inl ⟨⟨xs,ys,q1,q2,.inl (Yd _)⟩,hd zs H2 hz p⟩
end L2
namespace L2
open PySem PySem.Spec PyProof.Rows Alg
inductive Rep (H:Hp)(ok:o?->Prop):V->El->Prop where
 | num (n:Int):Rep H ok (.int n) (.num n)
 | vec {a:o?} {vs:List V} {l:List El} (h:H a=j? (.lst vs)) (k:ok a) (hl:vs.length=l.length) (r:∀(i:Nat) x e,vs[i]?=j? x->l[i]?=j? e->Rep H ok x e):Rep H ok (.ref a) (.vec l)
theorem Rep.imp {H H':Hp}{ok ok':o?->Prop}(f:∀b o,H b=j? o->ok b->H' b=j? o/\ok' b){v:V}{e:El}(R:Rep H ok v e):Rep H' ok' v e:=by
 induction R with
 | num n=>exact .num n
 | vec h k hl _ ih=>exact .vec (f _ _ h k).1 (f _ _ h k).2 hl ih
abbrev Any:o?->Prop:=λ_=>True
abbrev dY (H:Hp):o?->Prop:=λb=>H b=q?
theorem Rep.same {H H':Hp}{ok:o?->Prop}{v:V}{e:El}(R:Rep H ok v e)(g:aG H H'):Rep H' ok v e:=R.imp λb o h k=>⟨g b o h,k⟩
theorem Rep.any {H:Hp}{ok:o?->Prop}{v:V}{e:El}(R:Rep H ok v e):Rep H Any v e:=R.imp λb o h k=>⟨h,trivial⟩
theorem Rep.older {H H0 H1:Hp}{v:V}{e:El}(R:Rep H (dY H1) v e)(g:aG H0 H1):Rep H (dY H0) v e:=R.imp λb o h k=>⟨h,g.free k⟩
mutual
def toD:El->N!
 | .num n=>.int n
 | .vec l=>.list (nV l)
def nV:List El->List N!
 | []=>[]
 | e::l=>toD e::nV l
end
theorem vK:∀l:List El,nV l=l.map toD
 | []=>rfl
 | e::l=>by show toD e::nV l=_;rw[vK l];rfl
mutual
theorem yY:∀ {a b:El},toD a=toD b->a=b
 | .num n,.num m,h=>by
  have:PyData.int n=PyData.int m:=h
  injection this with e;rw[e]
 | .num n,.vec l,h=>by
  have:PyData.int n=PyData.list (nV l):=h
  cases this
 | .vec l,.num n,h=>by
  have:PyData.list (nV l)=PyData.int n:=h
  cases this
 | .vec l,.vec k,h=>by
  have:PyData.list (nV l)=PyData.list (nV k):=h
  injection this with e;rw[AD e]
theorem AD:∀ {a b:List El},nV a=nV b->a=b
 | [],[],_=>rfl
 | [],e::l,h=>by
  have:([]:List N!)=toD e::nV l:=h
  cases this
 | e::l,[],h=>by
  have:toD e::nV l=[]:=h
  cases this
 | e::l,f::k,h=>by
  have:toD e::nV l=toD f::nV k:=h
  injection this with h1 h2
  rw[yY h1,AD h2]
end
theorem mL {n:Nat}{e:El}(h:EV n e):Fl n (toD e):=by
 induction h with
 | num i=>exact .int i
 | @vec n l _ _ ih=>
  show Fl (n+1) (.list (nV l))
  rw[vK];exact .lst λd hd=>by
   obtain⟨e,he,rfl⟩:=List.mem_map.mp hd;exact ih e he
theorem Rep.den {K:bG}{H:Hp}{ok:o?->Prop}{v:V}{e:El}(R:Rep H ok v e):Den K H v (toD e):=by
 induction R with
 | num n=>exact .int n
 | @vec a vs l h k hl r ih=>
  show Den K H (.ref a) (.list (nV l))
  rw[vK];refine .lst (aN.of h) (by rw[Ya];exact hl) λi x d h1 h2=>?_
  rw[Ye] at h2;cases e:l[i]? with
  | none=>rw[e] at h2;cases h2
  | some y=>
   rw[e] at h2;cases h2;exact ih i x y h1 e
theorem LI {K:bG}{H:Hp}{o1 o2:o?->Prop}{u v:V}{a b:El}{n m:Nat}{Q:VK}(R:Rep H o1 u a)(S:Rep H o2 v b)(f:EV n a)(g:EV m b)(hn:n<=64)(hm:m<=64)
  (q1:a=b->Q (.bl true) H) (q2:a≠b->Q (.bl false) H):yH K false u v H Q:=by
 refine⟨toD a,toD b,R.den,S.den,(mL f).shaped hn,(mL g).shaped hm,?_⟩
 show Q (.bl (E! (toD a) (toD b))) H
 rw[uw (mL f) (mL g)];by_cases h:a=b
 ·rw[W8 (Jb toD h)];exact q1 h
 ·rw[Ja λz=>h (yY z)];exact q2 h
theorem Py {K:bG}{H:Hp}{o1 o2:o?->Prop}{u v:V}{a b:El}{n m:Nat}{Q:VK}(R:Rep H o1 u a)(S:Rep H o2 v b)(f:EV n a)(g:EV m b)(hn:n<=64)(hm:m<=64)
  (q1:a=b->Q (.bl false) H) (q2:a≠b->Q (.bl true) H):yH K true u v H Q:=by
 refine⟨toD a,toD b,R.den,S.den,(mL f).shaped hn,(mL g).shaped hm,?_⟩
 show Q (.bl (!E! (toD a) (toD b))) H
 rw[uw (mL f) (mL g)];by_cases h:a=b
 ·rw[W8 (Jb toD h)];exact q1 h
 ·rw[Ja λz=>h (yY z)];exact q2 h
end L2
namespace L2
open PySem
section
variable {K:bG} {mg:Str->Option l?} {x qual:Str} {st:Q?} {ps:List Str} {C:o?}
def SM (K:bG)(x qual:Str)(st:Q?)(f:o?):Prop:=∃(oc:l?) (od an:Option o?) (osl:Array (Option l?)) (kV doc pm cdv ct:l?),K.lookup f=j? ⟨oc,od,.func (W? x qual (dB st) (b7 st) (ao st) .none kV doc pm an cdv ct),osl⟩/\PySem.W.codeIn K cdv qual=true/\PySem.W.keepIn K (.ref f)=true
def cF (K:bG)(x:Str)(st:Q?):Prop:=∃f,N? K G? x=j? (j? (.ref f))/\SM K x x st f
def G5 (x qual:Str)(st:Q?)(ps:List Str):Prop:=∀(kV doc pm:l?) (an:Option o?) (cdv ct:l?) (us:List l?),us.length=ps.length->bindArgs (W? x qual (dB st) (b7 st) (ao st) .none kV doc pm an cdv ct) ⟨us,[]⟩=pure (ps.zip us)
theorem Pz {f:o?}{oc:l?}{od an:Option o?}{osl:Array (Option l?)}{kV doc pm cdv ct:l?}(a:N? K G? x=j? (j? (.ref f)))(l:K.lookup f=j? ⟨oc,od,.func (W? x x (dB st) (b7 st) (ao st) .none kV doc pm an cdv ct),osl⟩)(c:P! K cdv x=true)(k:C! K (.ref f)=true):cF K x st:=
 ⟨f,a,oc,od,an,osl,kV,doc,pm,cdv,ct,l,c,k⟩
theorem aW {h:O?}(X:K.In h)(G:h.Ns G? mg)(g:cF K x st)(hb:G5 x x st ps):Src K mg x st ps:=by
 obtain⟨f,a,oc,od,an,osl,kV,doc,pm,cdv,ct,l,c,k⟩:=g;exact MR X G a l c k hb
theorem gX {us:List l?}{n:Nat}(h:us.length=n+1):∃x t,us=x::t/\t.length=n:=by
 cases us with
 | nil=>simp at h
 | cons x t=>exact⟨x,t,rfl,by simpa using h⟩
theorem XE {a0:Str}(h:∀(kV doc pm:l?) (an:Option o?) (cdv ct:l?) (u0:l?),bindArgs (W? x qual (dB st) (b7 st) (ao st) .none kV doc pm an cdv ct) ⟨[u0],[]⟩=pure ([(a0,u0)])):G5 x qual st [a0]:=by
 intro a b c d e f us hl;obtain⟨u0,t0,rfl,h0⟩:=gX hl;obtain rfl:=We h0
 exact h a b c d e f u0
theorem Oj {a0 a1:Str}(h:∀(kV doc pm:l?) (an:Option o?) (cdv ct:l?) (u0 u1:l?),bindArgs (W? x qual (dB st) (b7 st) (ao st) .none kV doc pm an cdv ct) ⟨[u0,u1],[]⟩=pure ([(a0,u0),(a1,u1)])):G5 x qual st [a0,a1]:=by
 intro a b c d e f us hl;obtain⟨u0,t0,rfl,h0⟩:=gX hl;obtain⟨u1,t1,rfl,h1⟩:=gX h0;obtain rfl:=We h1
 exact h a b c d e f u0 u1
theorem XF {a0 a1 a2:Str}(h:∀(kV doc pm:l?) (an:Option o?) (cdv ct:l?) (u0 u1 u2:l?),bindArgs (W? x qual (dB st) (b7 st) (ao st) .none kV doc pm an cdv ct) ⟨[u0,u1,u2],[]⟩=pure ([(a0,u0),(a1,u1),(a2,u2)])):G5 x qual st [a0,a1,a2]:=by
 intro a b c d e f us hl;obtain⟨u0,t0,rfl,h0⟩:=gX hl;obtain⟨u1,t1,rfl,h1⟩:=gX h0;obtain⟨u2,t2,rfl,h2⟩:=gX h1;obtain rfl:=We h2
 exact h a b c d e f u0 u1 u2
theorem XG {a0 a1 a2 a3:Str}(h:∀(kV doc pm:l?) (an:Option o?) (cdv ct:l?) (u0 u1 u2 u3:l?),bindArgs (W? x qual (dB st) (b7 st) (ao st) .none kV doc pm an cdv ct) ⟨[u0,u1,u2,u3],[]⟩=pure ([(a0,u0),(a1,u1),(a2,u2),(a3,u3)])):G5 x qual st [a0,a1,a2,a3]:=by
 intro a b c d e f us hl;obtain⟨u0,t0,rfl,h0⟩:=gX hl;obtain⟨u1,t1,rfl,h1⟩:=gX h0;obtain⟨u2,t2,rfl,h2⟩:=gX h1;obtain⟨u3,t3,rfl,h3⟩:=gX h2;obtain rfl:=We h3
 exact h a b c d e f u0 u1 u2 u3
end
end L2
namespace L2
open PySem PySem.Spec PyProof.Rows
end L2
namespace L2
open PySem PySem.Spec PySem.W PyProof.Rows
def BZ (f c':o?)(qual:Str)(params:Arguments)(body:Expr)(scope:Scope)(cl:List (Str×o?)):O?->Prop:=λh=>∃pm ctv,h.get? f=j? (kla_obj "<lambda>" qual params body scope cl pm c' ctv)
def EW (c':o?)(qual:Str):O?->Prop:=λh=>∃oc vs t,h.get? c'=j? oc/\oc.data=.fields vs/\vs[1]?=j? (.str qual t)
def nW (H:Hp)(P f c':o?)(ps:Array l?)(pos:Pos)(qual:Str)(params:Arguments)(body:Expr)(scope:Scope)(cl:List (Str×o?)):Hp:=
 upd (upd (upd H P (.uN (ps++#[rawInt pos.line,rawInt pos.col,.ref c']))) c' (.ext (EW c' qual))) f (.ext (BZ f c' qual params body scope cl))
def SN (P:o?)(pos:Pos)(qual:Str)(params:Arguments)(body:Expr)(scope:Scope)(cl:List (Str×o?)):TE:=λ_ H Q=>∃ps:Array l?,H P=j? (.uN ps)/\TriplesOk ps.toList/\codeAmong pos ps.toList=q?/\
 ∀f c',H f=q?->H c'=q?->f≠c'->Q (.ref f) (nW H P f c' ps pos qual params body scope cl)
def BMain (mg:Str->Option l?)(base:O?):Prop:=∃(bm:o?) (ob:Obj),mg "__builtins__"=j? (.ref bm)/\bm≠builtinsNs/\base.get? bm=j? ob/\ob.cls=.type "module"/\ob.dict=j? builtinsNs/\ob.data=.plain
section
variable {X:Cx}
theorem Nf {c P:o?}{params:Arguments}{body:Expr}{scope:Scope}{pos:Pos}(hb:BMain X.mg X.base)(hc:X.env.code=.ref c)(hk:codeHdIn X.K c P=true)(hcl:∀y∈scope.names,y.2=.free->∃c,X.env.cells.lookup y.1=j? c)(hdef:defaultsOf params X.env=([],[]):=by rfl):
  PE X (.Lambda params body scope pos) (SN P pos (X.env.qual++"<lambda>") params body scope (aO X.env.cells scope.names [])):=by
 refine⟨?_⟩
 intro pins s σ H Q I h;obtain⟨ps,hP,ht,hn,q⟩:=h;have eP:s.heap.get? P=j? (tabObj ps):=I.hok P _ hP;have hgs:=I.mod.glob.keeps I.bk;have hgP:G?≠P:=λz=>by
  obtain⟨o,es,ep,e,hd,_⟩:=hgs;rw[z,eP] at e;cases e;cases hd
 obtain⟨bm,ob,b1,b2,b3,b4,b5,b6⟩:=hb;have G6:=I.bk _ _ b3;have SO:bm≠P:=λz=>by rw[z,eP] at G6;cases G6;cases b4
 have SQ:bm≠G?:=λz=>by
  obtain⟨o,es,ep,e,hd,_⟩:=hgs;rw[z,e] at G6;cases G6;rw[hd] at b6;cases b6
 refine kla_eval hdef (kla_makeFunction (mg:=X.mg) (gU hcl) I.ok.glob hgs hc (codeHd_of_K I.Dm hk) eP ht hn hgP ⟨bm,ob,b1,b2,SQ,SO,G6,b4,b5,b6⟩ λc' ctv h' tk hx hge hlt hrec htb=>?_)
 have U3:P<s.heap.objs.size:=Yl eP;have SR:c'≠P:=λz=>Jd (Yh U3 hge) (by rw[z];exact Zs _)
 have hfc:h'.objs.size≠c':=Ne.symm (Yp hlt);have hsz:s.heap.objs.size<=h'.objs.size:=Ym hge (Wz hlt);have SS:h'.objs.size≠P:=Ne.symm (Yp (Yh U3 hsz));have nf:H h'.objs.size=q?:=I.hok.fresh hsz;have nc:H c'=q?:=I.hok.fresh hge;refine⟨.ref h'.objs.size,_,?_,rfl,q h'.objs.size c' nf nc hfc⟩
 generalize hO:kla_obj "<lambda>" (X.env.qual++"<lambda>") params body scope (aO X.env.cells scope.names []) ((X.mg "__name__").getD .none) c' ctv=O;have kp:∀b o,b≠P->s.heap.get? b=j? o->(h'.push O).get? b=j? o:=λb o hb e=>Yg _ (hx b o hb e)
 have ne:∀b o,H b=j? o->b≠P->nW H P h'.objs.size c' ps pos (X.env.qual++"<lambda>") params body scope (aO X.env.cells scope.names []) b=j? o:=λb o e hb=>by
  unfold nW;rw[aL (bh e nf),aL (bh e nc),aL hb];exact e
 have U4:nW H P h'.objs.size c' ps pos (X.env.qual++"<lambda>") params body scope (aO X.env.cells scope.names []) P=j? (.uN (ps++#[rawInt pos.line,rawInt pos.col,.ref c'])):=by
  unfold nW;rw[aL (Ne.symm SS),aL (Ne.symm SR),av]
 refine I.un ⟨λb o e n hb _=>?_,λb o e n hb _=>?_,λb o e n _=>?_,λb o e _=>?_,λb xs e=>?_,λb o u e=>?_,λb qs e=>?_⟩ λb o e=>?_
 ·exact kp b o (λz=>by rw[z,hP] at n;cases n) e
 ·exact⟨o.slots,kp b o (λz=>by rw[z,hP] at n;cases n) e⟩
 ·have hlb:=Yl e
  unfold nW;rw[aL (Yp (Yh hlb hsz)),aL (Yp (Yh hlb hge)),aL (λz=>by rw[z,hP] at n;cases n)]
  exact n
 ·by_cases z:b=P
  ·rw[z];exact⟨_,Yg _ htb⟩
  ·exact⟨o,kp b o z e⟩
 ·exact ne b _ e λz=>by rw[z,hP] at e;cases e
 ·exact ne b _ e λz=>by rw[z,hP] at e;cases e
 ·by_cases z:b=P
  ·rw[z,hP] at e;cases e
   exact⟨_,by rw[z];exact U4⟩
  ·exact⟨#[],by rw[ne b _ e z];simp⟩
 ·by_cases zf:b=h'.objs.size
  ·subst zf
   have e':j? (HO.ext (BZ h'.objs.size c' (X.env.qual++"<lambda>") params body scope (aO X.env.cells scope.names [])))=j? o:=by rw[<- e];exact av.symm
   cases e';have g:(h'.push O).get? h'.objs.size=j? O:=Y1 _ (by rw[<- hO];rfl)
   refine⟨⟨_,_,by rw[hO];exact g⟩,⟨_,g⟩,λh1 h2 z k=>?_⟩
   obtain⟨pm,cv,z⟩:=z;exact⟨pm,cv,k _ z⟩
  ·by_cases zc:b=c'
   ·subst zc
    have e':j? (HO.ext (EW b (X.env.qual++"<lambda>")))=j? o:=by
     rw[<- e];unfold nW;rw[aL zf,av]
    cases e';obtain⟨c2,oc,vs,t,ec,g1,g2,g3⟩:=hrec;cases ec;refine⟨⟨oc,vs,t,Yg _ g1,g2,g3⟩,⟨_,Yg _ g1⟩,λh1 h2 z k=>?_⟩
    obtain⟨o1,v1,t1,z1,z2,z3⟩:=z;exact⟨o1,v1,t1,k _ z1,z2,z3⟩
   ·by_cases zP:b=P
    ·subst zP
     rw[U4] at e;cases e;exact Yg _ htb
    ·have e':H b=j? o:=by
      rw[<- e];unfold nW;rw[aL zf,aL zc,aL zP]
     refine(I.hok b o e').stay (λd u hd hu=>kp d u (λz=>?_) hu) (λd hd=>ne d _ hd λz=>by rw[z,hP] at hd;cases hd) λd xs hd=>ne d _ hd λz=>by rw[z,hP] at hd;cases hd
     rcases hd with y|y
     ·exact zP (y.symm.trans z)
     ·rw[z,hP] at y;cases y
end
structure kR (h:O?)(H:Hp)(outer:List Env)(cl:List (Str×o?))(N:List Str)(vals:List V):Prop where
 inj:∀x y c,cl.lookup x=j? c->cl.lookup y=j? c->x=y
 cell:∀x c,cl.lookup x=j? c->(∃v,h.IsCell c v)/\H c=q?/\c ∉ frs outer
 val:∀(i:Nat) x v,N[i]?=j? x->vals[i]?=j? v->∃c u,cl.lookup x=j? c/\h.IsCell c (j? u)/\RelV v u
 len:vals.length=N.length
def DS (P:F?)(w:H?)(K:bG)(mg:Str->Option l?)(base:O?)(N:List Str)(qual:Str)(scope:Scope)(f c':o?)(cl:List (Str×o?))(A:A!)(outer:List Env)(s:u?)(H:Hp):Cx where
 prog:=P
 w:=w
 K:=K
 mg:=mg
 base:=base
 A:=A.deeper (envX qual scope s.heap.objs.size f (.ref c') cl)
 N:=N
 s₀:=s
 H₀:=H
 env:=envX qual scope s.heap.objs.size f (.ref c') cl
 outer:=outer
 stack:=envX qual scope s.heap.objs.size f (.ref c') cl::outer
 ex:=[]
 fn:=λ_=>false
 calm:=true
 pn:=[]
 xe:=λ_ _=>False
section
variable {X:Cx} {pins:List (o?×Obj)} {σ:St} {H1:Hp} {s1:u?}
theorem kR.made {scope:Scope}{N:List Str}{vals:List V}(I:Inv X pins σ H1 s1)(hfn:∀x,X.fn x=true)(hst:X.stack=X.env::X.outer/\X.env.frame=j? X.env.locals)(hfr:∀x∈N,X.env.kindOf x=j? .cell/\(x,Z?)∈scope.names)
  (hv:∀(j:Nat) x v,N[j]?=j? x->vals[j]?=j? v->∃i:Nat,X.N[i]?=j? x/\σ[i]?=j? (j? v)) (hl:vals.length=N.length):kR s1.heap H1 X.stack (aO X.env.cells scope.names []) N vals:=by
 have back:∀x c,(aO X.env.cells scope.names []).lookup x=j? c->X.env.cells.lookup x=j? c:=λx c e=>jJ scope.names [] (λd z=>by simp at z) e
 refine⟨λx y c e1 e2=>I.ok.inj x y c (back x c e1) (back y c e2),λx c e=>?_,λi x v e1 e2=>?_,hl⟩
 ·obtain⟨v,ic⟩:=I.cell x c (back x c e)
  refine⟨⟨v,ic⟩,I.iN x c (back x c e),λhm=>?_⟩
  rcases List.mem_cons.mp (I.rG c hm) with z|z
  ·exact I.Li x c (back x c e) z
  ·obtain⟨_,o,ho,_⟩:=I.ok.mh.mem z
   have:=Yh (Yl ho) (I.ok.Lh x c (hfn x) (back x c e))
   exact Jd this (Zs _)
 ·obtain⟨hk,hm⟩:=hfr x (Yt e1)
  obtain⟨j,hj,hs⟩:=hv i x v e1 e2;obtain⟨m,_,hloc⟩:=I.loc;obtain⟨u,r,lk⟩:=hloc j x v hj hs (.inr (.inl hk));rcases lk with ⟨z,_⟩|⟨_,c,hc,ic⟩
  ·rw[hk] at z;cases z
  ·exact⟨c,u,fO hc scope.names [] (.inr hm) (λd z=>by simp at z),ic,r⟩
end
end L2
namespace L2
open PySem Alg
open Classical
end L2
namespace L2
open PySem PySem.Spec PyProof.Rows Alg
section
variable {P:F?} {w:H?} {K:bG} {mg:Str->Option l?} {base:O?} {CG CS:o?}
theorem yZ (i:Int)(p:Nat):i.fmod (p:Int)=i % (p:Int):=Y5 i (Int.natCast_nonneg p)
end
def ki (n:Nat)(e:Nat->El):El:=.vec ((Yk n).map e)
theorem sr (l:List El):El.vec l=ki l.length λi=>l.getD i (.num 0):=by
 unfold ki;congr 1
 apply Zv
 intro i;by_cases h:i<l.length
 ·rw[Ye,Y0 h,Yc h]
  show j? _=j? (l.getD i (.num 0))
  rw[Yb,Yc h];rfl
 ·rw[List.getElem?_eq_none_iff.mpr (by omega),List.getElem?_eq_none_iff.mpr (by rw[Ya,Yf];omega)]
structure Cf (H:Hp)(ok:o?->Prop)(vs:List V)(n:Nat)(e:Nat->El):Prop where
 len:vs.length=n
 at_:∀i,i<n->∃v,vs[i]?=j? v/\Rep H ok v (e i)
theorem Cf.rep {H:Hp}{ok:o?->Prop}{vs:List V}{n:Nat}{e:Nat->El}{a:o?}(C:Cf H ok vs n e)(h:H a=j? (.lst vs))(k:ok a):Rep H ok (.ref a) (ki n e):=by
 refine .vec h k (by rw[C.len,Ya,Yf]) λi x d h1 h2=>?_
 have hi:i<n:=by rw[<- C.len];exact(List.getElem?_eq_some_iff.mp h1).1
 obtain⟨v,h3,r⟩:=C.at_ i hi;rw[h1] at h3;cases h3;rw[Ye,Y0 hi] at h2;cases h2;exact r
theorem Rep.cf {H:Hp}{ok:o?->Prop}{v:V}{n:Nat}{e:Nat->El}(R:Rep H ok v (ki n e)):∃a vs,v=.ref a/\H a=j? (.lst vs)/\ok a/\Cf H ok vs n e:=by
 unfold ki at R;cases R with
 | @vec a vs l h k hl r=>
  rw[Ya,Yf] at hl;refine⟨a,vs,rfl,h,k,hl,λi hi=>?_⟩
  refine⟨vs[i]'(by omega),Yc (by omega),r i _ _ (Yc (by omega)) ?_⟩
  rw[Ye,Y0 hi];rfl
theorem Cf.imp {H H':Hp}{ok ok':o?->Prop}{vs:List V}{n:Nat}{e:Nat->El}(C:Cf H ok vs n e)(f:∀b o,H b=j? o->ok b->H' b=j? o/\ok' b):Cf H' ok' vs n e:=
 ⟨C.len,λi hi=>let ⟨v,h,r⟩:=C.at_ i hi;⟨v,h,r.imp f⟩⟩
theorem Cf.same {H H':Hp}{ok:o?->Prop}{vs:List V}{n:Nat}{e:Nat->El}(C:Cf H ok vs n e)(g:aG H H'):Cf H' ok vs n e:=C.imp λb o h k=>⟨g b o h,k⟩
theorem Cf.nil {H:Hp}{ok:o?->Prop}{e:Nat->El}:Cf H ok [] 0 e:=⟨rfl,λi hi=>by omega⟩
theorem Cf.push {H:Hp}{ok:o?->Prop}{vs:List V}{n:Nat}{e:Nat->El}{v:V}(C:Cf H ok vs n e)(R:Rep H ok v (e n)):Cf H ok (vs++[v]) (n+1) e:=by
 refine⟨by rw[Yi,C.len];rfl,λi hi=>?_⟩
 by_cases h:i<n
 ·obtain⟨x,h1,h2⟩:=C.at_ i h
  exact⟨x,by rw[Y9 (by rw[C.len];exact h)];exact h1,h2⟩
 ·have:i=n:=by omega
  subst this;exact⟨v,by rw[<- C.len,List.getElem?_concat_length],R⟩
theorem Cf.congr {H:Hp}{ok:o?->Prop}{vs:List V}{n:Nat}{e d:Nat->El}(C:Cf H ok vs n e)(h:∀i,i<n->e i=d i):Cf H ok vs n d:=⟨C.len,λi hi=>by rw[<- h i hi];exact C.at_ i hi⟩
theorem Cf.append {H:Hp}{ok:o?->Prop}{vs ws:List V}{n m:Nat}{e d:Nat->El}(C:Cf H ok vs n e)(D:Cf H ok ws m d):Cf H ok (vs++ws) (n+m) λi=>if i<n then e i else d (i-n):=by
 refine⟨by rw[Yi,C.len,D.len],λi hi=>?_⟩
 by_cases h:i<n
 ·obtain⟨x,h1,h2⟩:=C.at_ i h
  exact⟨x,by rw[Y9 (by rw[C.len];exact h)];exact h1,by rw[W7 h];exact h2⟩
 ·obtain⟨x,h1,h2⟩:=D.at_ (i-n) (by omega)
  exact⟨x,by rw[Zb (by rw[C.len];omega),C.len];exact h1,by rw[W6 h];exact h2⟩
theorem Cf.get {H:Hp}{ok:o?->Prop}{vs:List V}{n:Nat}{e:Nat->El}(C:Cf H ok vs n e){i:Nat}{v:V}(h:vs[i]?=j? v):i<n/\Rep H ok v (e i):=by
 have hi:i<n:=by rw[<- C.len];exact(List.getElem?_eq_some_iff.mp h).1
 obtain⟨x,h1,h2⟩:=C.at_ i hi;rw[h] at h1;cases h1;exact⟨hi,h2⟩
abbrev Off (H:Hp)(D:o?):o?->Prop:=λb=>H b=q?/\b≠D
theorem Cf.upd {H H':Hp}{D:o?}{vs:List V}{n:Nat}{e:Nat->El}{o:HO}(C:Cf H' (Off H D) vs n e):Cf (upd H' D o) (Off H D) vs n e:=C.imp λb u h k=>⟨by rw[aL k.2];exact h,k⟩
theorem Rep.Ko {H H' H1:Hp}{D:o?}{v:V}{e:El}{o:HO}(R:Rep H' (dY H1) v e)(g:aG H H1)(hD:H1 D=j? o):Rep H' (Off H D) v e:=R.imp λb u h k=>⟨h,g.free k,λz=>by rw[z] at k;rw[show H1 D=q? from k] at hD;cases hD⟩
theorem Cf.G7 {H H':Hp}{D:o?}{vs:List V}{n:Nat}{e:Nat->El}(C:Cf H' (Off H D) vs n e):Cf H' (dY H) vs n e:=C.imp λb u h k=>⟨h,k.1⟩
theorem Kq (xs:List V)(k:Nat)(h:k<=xs.length):iD xs q? (j? (k:Int))=xs.take k:=by
 unfold iD;have e1:HT.qi xs.length 0 q?=0:=rfl;have e2:HT.qi xs.length xs.length (j? (k:Int))=k:=by rw[HT.kI];omega
 rw[e1,e2];simp
theorem Cf.rev {H:Hp}{ok:o?->Prop}{vs:List V}{n:Nat}{e:Nat->El}(C:Cf H ok vs n e):Cf H ok vs.reverse n λi=>e (n-1-i):=by
 refine⟨by rw[Zw];exact C.len,λi hi=>?_⟩
 obtain⟨v,h1,h2⟩:=C.at_ (n-1-i) (by omega)
 refine⟨v,?_,h2⟩
 rw[List.getElem?_reverse (by rw[C.len];exact hi),C.len]
 exact h1
def vL:Sp:=λvs H Q _=>∃(k n:Nat),vs=[.int (k:Int),.int (n:Int)]/\k<50/\n<=100/\Q (.int ((k ^ n:Nat):Int)) H
def del (H:Hp)(b:o?):Hp:=λc=>if c=b then q? else H c
theorem cu {H:Hp}{b c:o?}{o:HO}(h:del H b c=j? o):c≠b/\H c=j? o:=by
 unfold del at h;by_cases e:c=b
 ·rw[W7 e] at h;cases h
 ·rw[W6 e] at h;exact⟨e,h⟩
theorem jb {H:Hp}{b c:o?}(h:c≠b):del H b c=H c:=W6 h
theorem eX (H:Hp)(b:o?):aG (del H b) H:=λc o h=>(cu h).2
def cD (H:Hp)(b:o?)(H':Hp):Prop:=∀a o,a≠b->H a=j? o->H' a=j? o
theorem cD.del {b:o?}{H H':Hp}(h:cD H b H'):aG (L2.del H b) (L2.del H' b):=λc o e=>by rw[jb (cu e).1];exact h c o (cu e).1 (cu e).2
theorem cD.trans {b:o?}{H H' U5:Hp}(h:cD H b H')(h':cD H' b U5):cD H b U5:=λa o n e=>h' a o n (h a o n e)
theorem cD.of {b:o?}{H H':Hp}(h:aG H H'):cD H b H':=λa o _ e=>h a o e
theorem cD.fresh {b:o?}{H H':Hp}(h:cD H b H')(hb':∃o,H' b=j? o){a:o?}(ha:H' a=q?):H a=q?:=by
 have hne:a≠b:=λz=>by obtain⟨o,e⟩:=hb';rw[z,e] at ha;cases ha
 cases q:H a with
 | none=>rfl
 | some o=>rw[h a o hne q] at ha;cases ha
theorem cD.aZ {b p:o?}{H H':Hp}(h:cD H b H')(hp:H p=q?)(o:HO):cD H b (L2.upd H' p o):=λa u n e=>by
 rw[aL (bh e hp)];exact h a u n e
theorem yd (xs:List V)(k:Nat)(h:k<=xs.length):iD xs (j? (k:Int)) q?=xs.drop k:=by
 unfold iD;have e1:HT.qi xs.length xs.length q?=xs.length:=rfl;have e2:HT.qi xs.length 0 (j? (k:Int))=k:=by rw[HT.kI];omega
 rw[e1,e2];rw[Zm (by rw[Y7];omega)]
end L2
namespace L2
open PySem PySem.Spec PySem.W PyProof.Rows Alg
end L2
namespace L2
open PySem PySem.Spec PySem.W PyProof.Rows
end L2
namespace L2
open PySem PySem.Spec PySem.W PyProof.Rows Alg
end L2
namespace L2
open PySem PySem.Spec PySem.W PyProof.Rows
end L2
namespace L2
open PySem PySem.Spec PySem.W PyProof.Rows Alg
end L2
namespace L2
open PySem PySem.Spec PySem.W PyProof.Rows
theorem EX {P:F?}{w:H?}{K:bG}{mg mb:Str->Option l?}{CX:EB}{k:Nat}{fa a:o?}{fd:O!}{x:Str}{sp:Sp}{s₁:u?}{vs:List l?}{ns:List Int}{tabs:List (o?×o?)}
  (KX:K.In s₁.heap) (hns:s₁.heap.Ns G? mg) (hb:s₁.heap.Ns builtinsNs mb) (XH:∀x:Str,x≠"__name__"->mb x=H! x) (hlim:s₁.heap.NoLimit) (hbm:BMain mg s₁.heap) (hT:TabsAt tabs s₁.heap) (hK:noTabs K=true) (hg:s₁.gens=#[])
  (ha:s₁.heap.get? a=j? { cls:=.type "list",data:=.seq vs.toArray }) (hi:IntsAre vs ns) (hl:ns.length<=K?) (hr:fj k callerA)
  (F:∀base:O?,K.In base->base.Ns G? mg->BMain mg base->kH P w K mg base CX k fa fd [x] sp) (hbind:∀(s:u?) (u:l?),BindsTo s fd ⟨[u],[]⟩ [(x,u)])
  (Jv:∀H:Hp,aN K H a (ns.map V.int)->(∀q∈tabs,H q.2=j? (.uN #[]))->sp [.ref a] H (λv _=>v=.bl true) λ_ _ _=>False)
  (SV:∀H e s',CX [] H s₁ (λ_ _ _=>False) e s'->False):
  codeAny (S? P w) callerA (.call (.ref fa) ⟨[.ref a],[]⟩) (λr s'=>r=.ok (.ret (.bool true))/\OldK s₁.heap s'.heap/\s'.os=s₁.os/\AllBare s'.gens) s₁:=by
 have rv:=xM hi;have SW:=hi.length;have Ng:∀b o,K.lookup b=j? o->b ∉ tabs.map (·.2):=λb o e hm=>by
  obtain⟨q,hq,rfl⟩:=List.mem_map.mp hm;have e1:=(hT q hq).2;rw[KX _ _ e] at e1;cases e1;have h2:=List.all_eq_true.mp hK (_,_) (mem_of_lookupK e);exact Jd (show false=true from h2) E?
 have PB:a ∉ tabs.map (·.2):=λhm=>by
  obtain⟨q,hq,e⟩:=List.mem_map.mp hm;have e1:=(hT q hq).2;rw[show q.2=a from e,ha] at e1
  cases e1
 have core:∀H:Hp,(∀b,H b=q?\/(b=a/\∃o xs,H b=j? (.FZ o (.lst xs)))\/(b∈tabs.map (·.2)/\H b=j? (.uN #[])))->(∀q∈tabs,H q.2=j? (.uN #[]))->aN K H a (ns.map V.int)->tL P w H s₁.heap->(H a≠q?->K.lookup a=q?)->
   codeAny (S? P w) callerA (.call (.ref fa) ⟨[.ref a],[]⟩) (λr s'=>r=.ok (.ret (.bool true))/\OldK s₁.heap s'.heap/\s'.os=s₁.os/\AllBare s'.gens) s₁:=by
  intro H hO hTb hS hok XI;have y9:∀ {b:o?} {o:Obj},s₁.heap.get? b=j? o->H b=q?->(wV s₁.heap H).get? b=j? o:=λe n=>F0 e n
  have O5:∀ {b:o?} {o:Obj},s₁.heap.get? b=j? o->o.cls≠.type "list"->o.cls≠.none->H b=q?:=λ{b o} e d1 d2=>by
   rcases hO b with z|⟨z,_⟩|⟨z,_⟩
   ·exact z
   ·rw[z,ha] at e;cases e;exact Jd rfl d1
   ·obtain⟨q,hq,rfl⟩:=List.mem_map.mp z
    rw[(hT q hq).2] at e;cases e;exact Jd rfl d2
  have XJ:∀ {b:o?} {o:Obj} {es:Array DictEntry} {ep:Nat},s₁.heap.get? b=j? o->o.data=.dict es ep->H b=q?:=λ{b o es ep} e d=>by
   rcases hO b with z|⟨z,_⟩|⟨z,_⟩
   ·exact z
   ·rw[z,ha] at e;cases e;cases d
   ·obtain⟨q,hq,rfl⟩:=List.mem_map.mp z
    rw[(hT q hq).2] at e;cases e;cases d
  have Rp:∀ {b:o?} {m:Str->Option l?},s₁.heap.Ns b m->(wV s₁.heap H).Ns b m:=λ{b m} ⟨o,es,ep,e,d,r⟩=>⟨o,es,ep,y9 e (XJ e d),d,r⟩
  have U6:K.In (wV s₁.heap H):=λb o e=>y9 (KX b o e) (by
   rcases hO b with z|⟨z,o',xs,z2⟩|⟨z,_⟩
   ·exact z
   ·subst z
    rw[XI (by rw[z2];simp)] at e;cases e
   ·exact Jd z (Ng b o e))
  have XM:BMain mg (wV s₁.heap H):=by
   obtain⟨bm,ob,b1,b2,b3,b4,b5,b6⟩:=hbm;exact⟨bm,ob,b1,b2,y9 b3 (O5 b3 (by rw[b4];decide) (by rw[b4];decide)),b4,b5,b6⟩
  have hM:Mod K mg (wV s₁.heap H):=⟨U6,Rp hns,⟨mb,Rp hb,XH⟩,let ⟨mc,h1,h2⟩:=hlim;⟨mc,Rp h1,h2⟩⟩
  have e0:EC P w K mg (wV s₁.heap H) callerA [] s₁ H:=⟨rfl,hM,λb o e=>JF e,Nat.le_of_eq (Ex _ _),trivial,λb hb=>Jd (show b∈([]:List o?) from hb) (by simp),hok,.of_eq hg⟩
  refine codeAny_mono ((F _ U6 (Rp hns) XM).run callerA [] s₁ H ⟨[.ref a],[]⟩ [.ref a] [.ref a] _ _ hr e0 (hbind s₁ (.ref a)) (.cons rfl .nil) (Jv H hS hTb)) λr s' h=>?_
  cases r with
  | error e=>exact(SV H e s' h).elim
  | ok fl=>
   cases fl with
   | next=>exact M! h
   | brk=>exact M! h
   | cont=>exact M! h
   | ret u=>
    obtain⟨v,H',os,bare,un,PC,r',q⟩:=h;have q':v=.bl true:=q;subst q';obtain rfl:u=Value.bool true:=r'
    have old:∀b o,s₁.heap.get? b=j? o->s'.heap.get? b=j? o\/(isCodeTable s₁.heap b/\o=tabObj #[]/\∃ps,s'.heap.get? b=j? (tabObj ps)):=λb o e=>by
     rcases hO b with z|⟨z,ob,xs,z2⟩|⟨z,z2⟩
     ·exact .inl (un.keep b o e z (by intro y;exact Jd (show b∈([]:List o?) from y) (by simp)) (by simp))
     ·have z3:=un.wR b ob _ z2
      obtain⟨e1,_⟩:=hok b _ z2;obtain⟨e2,_⟩:=PC b _ z3;rw[e] at e1;cases e1;exact .inl e2
     ·obtain⟨q,hq,rfl⟩:=List.mem_map.mp z
      obtain⟨m,z3⟩:=un.wU _ _ z2;have e1:=(hT q hq).2;rw[e] at e1;exact .inr ⟨((hT q hq).1.tab (hT q hq).2).isCodeTable,M? e1,_,PC _ _ z3⟩
    refine⟨rfl,⟨λb o e=>?_,λb o e=>?_⟩,os,bare⟩
    ·rcases old b o e with z|⟨ht,rfl,ps,hP⟩
     ·exact .inl z
     ·exact .inr (.inl ⟨ht,rfl,#[],ps,rfl,by rw[Array.empty_append];exact hP⟩)
    ·rcases old b o e with z|⟨_,_,ps,hP⟩
     ·exact⟨_,z⟩
     ·exact⟨_,hP⟩
 have tok:∀(H:Hp) (q:o?×o?),q∈tabs->ir P w H s₁.heap q.2 (.uN #[]):=λH q hq=>(hT q hq).2
 cases hk:K.lookup a with
 | some o=>
  have e:=KX a o hk;rw[ha] at e;cases e;refine core (λb=>if b∈tabs.map (·.2) then j? (.uN #[]) else q?) (λb=>?_) (λq hq=>W7 (List.mem_map_of_mem hq)) (.inr ⟨_,vs.toArray,_,hk,rfl,rfl,rfl,by rw[Yq,SW];exact hl,by simpa using rv⟩) (λb u z=>?_) (λz=>Jd (W6 PB) z)
  ·by_cases hb:b∈tabs.map (·.2)
   ·exact .inr (.inr ⟨hb,W7 hb⟩)
   ·exact .inl (W6 hb)
  ·by_cases hb:b∈tabs.map (·.2)
   ·have z':=(W7 hb).symm.trans z
    cases z';obtain⟨q,hq,rfl⟩:=List.mem_map.mp hb;exact tok _ q hq
   ·have z':=(W6 hb).symm.trans z
    cases z'
 | none=>
  refine core (λb=>if b∈tabs.map (·.2) then j? (.uN #[]) else if b=a then j? (.FZ { cls:=.type "list",data:=.seq vs.toArray } (.lst (ns.map V.int))) else q?) (λb=>?_) (λq hq=>W7 (List.mem_map_of_mem hq)) (.inl (.inr ⟨{ cls:=.type "list",data:=.seq vs.toArray },(W6 PB).trans (W7 rfl)⟩)) (λb u z=>?_) λ_=>hk
  ·by_cases hb:b∈tabs.map (·.2)
   ·exact .inr (.inr ⟨hb,W7 hb⟩)
   ·by_cases hb2:b=a
    ·exact .inr (.inl ⟨hb2,_,_,(W6 hb).trans (W7 hb2)⟩)
    ·exact .inl ((W6 hb).trans (W6 hb2))
  ·by_cases hb:b∈tabs.map (·.2)
   ·have z':=(W7 hb).symm.trans z
    cases z';obtain⟨q,hq,rfl⟩:=List.mem_map.mp hb;exact tok _ q hq
   ·by_cases hb2:b=a
    ·have z':=((W6 hb).trans (W7 hb2)).symm.trans z
     cases z';subst hb2;exact⟨ha,by rw[Ya];exact hl,vs,_,rv,ha⟩
    ·have z':=((W6 hb).trans (W6 hb2)).symm.trans z
     cases z'
theorem G8 {l:PySem.W.OpenLaw}{n k:Nat}{q:F?}{loose:List Str}{XP:(Str->Option l?)->O?->Prop}{YP:H?->O?->Prop}{d:DefRec}{K:Params->bG}{CX:H?->EB}{sp:H?->Sp}{x:Str}{tabs:List (o?×o?)}
  (hn:l.most=j? n) (hn2:n<=K?) (hdf:d.params.defaults=[]) (hr:fj k callerA)
  (hY:∀(w:H?) (h:O?),YP w h->(K w.params).In h/\TabsAt tabs h) (hK:∀w:H?,noTabs (K w.params)=true)
  (F:∀(w:H?) (mg:Str->Option l?) (fa:o?) (h:O?),(K w.params).In h->h.Ns G? mg->mg d.name=j? (.ref fa)->
   ∃fd:O!,(∀(s:u?) (u:l?),BindsTo s fd ⟨[u],[]⟩ [(x,u)])/\
    ∀base:O?,(K w.params).In base->base.Ns G? mg->BMain mg base->kH l.prog w (K w.params) mg base (CX w) k fa fd [x] (sp w))
  (Jv:∀(w:H?) (H:Hp) (a:o?) (ns:List Int),ns.length<=n->aN (K w.params) H a (ns.map V.int)->(∀q∈tabs,H q.2=j? (.uN #[]))->sp w [.ref a] H (λv _=>v=.bl true) λ_ _ _=>False)
  (SV:∀(w:H?) (H:Hp) (s:u?) (e:l?) (s':u?),CX w [] H s (λ_ _ _=>False) e s'->False):
  PySem.W.WalkO q loose XP YP l.row.toRowW d [] (λf vs=>PySem.call f vs):=by
 refine Att.Aa hn hdf λw s₀ s₁ mg mb fa o pm cd doc a vs ns G Y ho hd hcd hmg hobj hints hlen hg=>?_
 obtain⟨KX,hT⟩:=hY w _ Y;obtain⟨fd,hb,hF⟩:=F w mg fa _ KX G.T.g hmg;have hbm:BMain mg s₁.heap:=by
  obtain⟨bm,ob,b1,b2,b3,b4,b5,b6⟩:=G.T.bmain;exact⟨bm,ob,b1,b2,b3,b4,b5,b6⟩
 exact EX KX G.T.g G.T.b G.T.builtins G.T.nolimit hbm hT (hK w) hg hobj hints (Ym hlen hn2) hr hF hb (λH hS hTb=>Jv w H a ns hlen hS hTb) λH e s'=>SV w H s₁ e s'
section
variable {P:F?} {w:H?} {K:bG} {mg:Str->Option l?} {base:O?}
theorem Jx.XN {x qual:Str}{st:Q?}{f c:o?}{fd:O!}{N ps:List Str}{k:Nat}{sp:Sp}(F:Jx K x qual st f fd)(hc:fd.code=.ref c)(S:aI N ps (ao st))(len:∀vs H Q E,sp vs H Q E->vs.length=ps.length)
  (hbody:∀(A:A!) (outer:List Env) (s:u?) (H:Hp) (vs:List V) (Q:VK) (E:XK),fj k (A.deeper (envOfC qual (ao st) s.heap.objs.size f (.ref c)))->sp vs H Q E->
   ∃t,z4 (oK Dz P w K mg base N qual (ao st) f (.ref c) A outer s H E).Ll (b7 st) t/\t { nx:=λ_ H'=>Q .eO H',rt:=Q } (start N vs) H):kH P w K mg base Dz (k+1) f fd ps sp:=by
 obtain⟨oc,od,kV,doc,pm,an,cdv,ct,osl,rfl,lk,hcd⟩:=F.ex;have e:cdv=.ref c:=hc;subst e;refine Gd lk hcd S len λA outer s H vs Q E hr Jv=>?_
 obtain⟨t,h,q⟩:=hbody A outer s H vs Q E hr Jv;exact⟨t,h.Ll,q⟩
structure G9 (K:bG)(mg:Str->Option l?)(x:Str)(st:Q?)(ps:List Str)(c:o?):Prop where
 ex:∃f fd,Jx K x x st f fd/\Binds K fd ps []/\mg x=j? (.ref f)/\fd.code=.ref c
theorem G9.ok {x:Str}{st:Q?}{N ps:List Str}{k:Nat}{c:o?}{sp:Sp}(F:G9 K mg x st ps c)(S:aI N ps (ao st))(len:∀vs H Q E,sp vs H Q E->vs.length=ps.length)
  (hbody:∀(f:o?) (A:A!) (outer:List Env) (s:u?) (H:Hp) (vs:List V) (Q:VK) (E:XK),fj k (A.deeper (envOfC x (ao st) s.heap.objs.size f (.ref c)))->sp vs H Q E->
   ∃t,z4 (oK Dz P w K mg base N x (ao st) f (.ref c) A outer s H E).Ll (b7 st) t/\t { nx:=λ_ H'=>Q .eO H',rt:=Q } (start N vs) H):b_ P w K mg base (k+1) x ps sp:=by
 obtain⟨f,fd,G,B,M,hc⟩:=F.ex;exact⟨f,fd,G.XN hc S len (hbody f),B,G.kp,M⟩
theorem Kr {x:Str}{st:Q?}{ps:List Str}{f c0:o?}{oc:l?}{od an:Option o?}{osl:Array (Option l?)}{kV doc pm cdv ct:l?}{h:O?}(X:K.In h)(G:h.Ns G? mg)
  (a:N? K G? x=j? (j? (.ref f))) (l:K.lookup f=j? ⟨oc,od,.func (W? x x (dB st) (b7 st) (ao st) .none kV doc pm an cdv ct),osl⟩) (c:P! K cdv x=true) (k:C! K (.ref f)=true)
  (hb:∀(kV doc pm:l?) (an:Option o?) (cdv ct:l?) (us:List l?),us.length=ps.length->bindArgs (W? x x (dB st) (b7 st) (ao st) .none kV doc pm an cdv ct) ⟨us,[]⟩=pure (ps.zip us)) (hc:cdv=.ref c0):G9 K mg x st ps c0:=
 ⟨f,_,u5 l c k,(u5 l c k).binds hb,PySem.W.mg_of X G a,hc⟩
theorem EY {n:Nat}{sc scope:Scope}(h:∀y∈scope.names,y.2=.free->sc.names.lookup y.1=j? .cell):∀y∈scope.names,y.2=.free->∃c,(cellsFrom n sc.names []).lookup y.1=j? c:=λy hy hf=>uY (h y hy hf)
theorem Ks {cells:List (Str×o?)}{scope:Scope}(h:∀y∈scope.names,y.2=.free->∃c,cells.lookup y.1=j? c):∀x,scope.names.lookup x=j? .free->∃c,(aO cells scope.names []).lookup x=j? c:=λx hx=>by
 have hm:=U? hx;obtain⟨c,hc⟩:=h _ hm rfl;exact⟨c,fO hc scope.names [] (.inr hm) (λd z=>by simp at z)⟩
theorem y_ {a b c:l?}{i j:Int}{t u:Tok}(ha:a=.int i t)(hb:b=.int j u):∀(l:List l?),TriplesOk l->TriplesOk (l++[a,b,c]):=by
 subst ha hb;intro l h;fun_induction TriplesOk l with
 | case1=>exact trivial
 | case2 _ _ _ _ _ rest ih=>exact ih h
 | case3=>exact h.elim
theorem B0 {pos:Pos}{a b:Nat}{c:l?}(hne:¬ (a=pos.line/\b=pos.col)):∀(l:List l?),TriplesOk l->codeAmong pos l=q?->codeAmong pos (l++[rawInt a,rawInt b,c])=q?:=by
 intro l h hn;fun_induction TriplesOk l with
 | case1=>
  show(if ((a:Int) == pos.line && (b:Int) == pos.col)=true then j? c else q?)=q?
  rw[W6];intro z;rw[T?,beq_iff_eq,beq_iff_eq] at z;exact hne ⟨by omega,by omega⟩
 | case2 i t j u x rest ih=>
  have hn':(if ((i:Int) == pos.line && j == pos.col)=true then j? x else codeAmong pos rest)=q?:=hn
  show(if ((i:Int) == pos.line && j == pos.col)=true then j? x else codeAmong pos (rest++[rawInt a,rawInt b,c]))=q?
  by_cases z:((i:Int) == pos.line && j == pos.col)=true
  ·rw[W7 z] at hn';cases hn'
  ·rw[W6 z] at hn' ⊢
   exact ih h hn'
 | case3=>exact h.elim
end
end L2
namespace L2
open PySem PySem.Spec PyProof.Rows Alg
theorem b9 {H H':Hp}{l:o?}{o:HO}(n:H l=q?)(hX:upd H l o=H'):aG H H'/\H' l=j? o:=by
 subst hX;exact⟨aA n _,av⟩
theorem tW {a b:TS}{D:Ends}{σ:St}{H:Hp}{I:Type}(f:I->St)(P:I->Hp->Prop)(h1:∀C:St->Hp->Prop,(∀i H,P i H->C (f i) H)->a { D with nx:=C } σ H)(h2:∀i H,P i H->b D (f i) H):OS a b D σ H:=h1 (b D) h2
theorem G_ {C:St->Hp->Prop}{I:Type}{f:I->St}{P:I->Hp->Prop}{j:Nat}{v:V}{σ:St}{H:Hp}(k:∀i H,P i H->C (f i) H)(i:I)(p:P i H)(e:σ.set j (j? v)=f i):iO j v σ H C:=by
 show C (σ.set j (j? v)) H
 rw[e];exact k i H p
end L2
namespace L2
open PySem PySem.Spec PySem.W PyProof.Rows Alg
theorem B3 {pos:Pos}{x:l?}{m:List l?}:∀(l:List l?),TriplesOk l->codeAmong pos l=j? x->codeAmong pos (l++m)=j? x:=by
 intro l h hx;fun_induction TriplesOk l with
 | case1=>cases hx
 | case2 i t j u y rest ih=>
  have hx':(if ((i:Int) == pos.line && j == pos.col)=true then j? y else codeAmong pos rest)=j? x:=hx
  show(if ((i:Int) == pos.line && j == pos.col)=true then j? y else codeAmong pos (rest++m))=j? x
  by_cases z:((i:Int) == pos.line && j == pos.col)=true
  ·rw[W7 z] at hx' ⊢;exact hx'
  ·rw[W6 z] at hx' ⊢;exact ih h hx'
 | case3=>exact h.elim
theorem EZ {pos:Pos}{c:l?}:∀(l:List l?),TriplesOk l->codeAmong pos l=q?->codeAmong pos (l++[rawInt pos.line,rawInt pos.col,c])=j? c:=by
 intro l h hn;fun_induction TriplesOk l with
 | case1=>
  show(if ((pos.line:Int) == pos.line && (pos.col:Int) == pos.col)=true then j? c else q?)=j? c
  rw[W7];rw[T?,beq_iff_eq,beq_iff_eq];exact⟨rfl,rfl⟩
 | case2 i t j u x rest ih=>
  have hn':(if ((i:Int) == pos.line && j == pos.col)=true then j? x else codeAmong pos rest)=q?:=hn
  show(if ((i:Int) == pos.line && j == pos.col)=true then j? x else codeAmong pos (rest++[rawInt pos.line,rawInt pos.col,c]))=j? c
  by_cases z:((i:Int) == pos.line && j == pos.col)=true
  ·rw[W7 z] at hn';cases hn'
  ·rw[W6 z] at hn' ⊢
   exact ih h hn'
 | case3=>exact h.elim
def fQ (qual:Str)(Pp:o?)(H:Hp):Prop:=∃ps:Array l?,H Pp=j? (.uN ps)/\TriplesOk ps.toList/\∀pos:Pos,codeAmong pos ps.toList=q?\/∃c,codeAmong pos ps.toList=j? (.ref c)/\H c=j? (.ext (EW c qual))
theorem fQ.nil {qual:Str}{Pp:o?}{H:Hp}(h:H Pp=j? (.uN #[])):fQ qual Pp H:=⟨#[],h,trivial,λ_=>.inl rfl⟩
theorem fQ.same {qual:Str}{Pp:o?}{H H':Hp}(h:fQ qual Pp H)(g:aG H H'):fQ qual Pp H':=by
 obtain⟨ps,h1,h2,h3⟩:=h;exact⟨ps,g _ _ h1,h2,λpos=>(h3 pos).imp id λ⟨c,a,b⟩=>⟨c,a,g _ _ b⟩⟩
structure nX where
 qual:Str
 params:Arguments
 body:Expr
 scope:Scope
 x:Str
 N:List Str
 t:TE
def nX.here (L:nX)(cl:List (Str×o?))(f c:o?)(H:Hp):Prop:=H f=j? (.ext (BZ f c L.qual L.params L.body L.scope cl))/\H c=j? (.ext (EW c L.qual))
theorem nX.here.same {L:nX}{cl:List (Str×o?)}{f c:o?}{H H':Hp}(h:L.here cl f c H)(g:aG H H'):L.here cl f c H':=⟨g _ _ h.1,g _ _ h.2⟩
structure nX.Ok (L:nX)(P:F?)(w:H?)(K:bG)(mg:Str->Option l?)(base:O?)(k:Nat):Prop where
 kind:L.scope.kind=.function
 co:L.scope.isCoroutine=false
 gen:L.scope.isGenerator=false
 rP:∀y∈L.scope.names,y.2≠.cell
 loc:L.scope.names.lookup L.x=j? .local
 frees:∀x∈L.N,L.scope.names.lookup x=j? .free
 bind:∀cl pm cdv ct u,bindArgs (kla_fn "<lambda>" L.qual L.params L.body L.scope cl pm cdv ct) ⟨[u],[]⟩=pure [(L.x,u)]
 pe:∀(cl:List (Str×o?)) (f c:o?) (A:A!) (outer:List Env) (s:u?) (H:Hp),fj k (A.deeper (envX L.qual L.scope s.heap.objs.size f (.ref c) cl))->PE (DS P w K mg base (L.x::L.N) L.qual L.scope f c cl A outer s H) L.body L.t
section
variable {P:F?} {w:H?} {K:bG} {mg:Str->Option l?} {base:O?}
theorem Hf {L:nX}{k:Nat}{f c:o?}{cl:List (Str×o?)}{vals:List V}(g:L.Ok P w K mg base k){A:A!}{outer:List Env}{s:u?}{H:Hp}{Q:VK}{v:V}{u:l?}(hr:fj (k+1) A)(e0:EC P w K mg base A outer s H)(hh:L.here cl f c H)
  (has:∀x,L.scope.names.lookup x=j? .free->∃c,cl.lookup x=j? c) (hc:kR s.heap H outer cl L.N vals) (rv:RelV v u) (q:L.t (j? v::vals.map j?) H Q):codeAny (S? P w) A (.call (.ref f) ⟨[u],[]⟩) (CR Dz outer P w H s Q E0) s:=by
 obtain⟨h1,h2⟩:=hh;obtain⟨⟨pm,ctv,hf⟩,_⟩:=e0.hok _ _ h1;obtain⟨⟨oc,vs,t,hc1,hc2,hc3⟩,_⟩:=e0.hok _ _ h2;have lim:s.heap.NoLimit:=e0.mod.nolimit.keeps λb o e=>(e0.bs b o e).1
 refine kla_callFunE hr.depth hf rfl g.co g.gen rfl ⟨c,oc,vs,t,rfl,hc1,hc2,hc3⟩ ?_
 rw[g.bind];refine J? (wpAny_newFunctionEnv g.rP (λy hy=>by rw[List.mem_singleton.mp hy];exact g.loc) (λh₁ hns Jy=>⟨lim.fresh _ Jy,?_⟩) g.kind)
 show codeAny _ _ (.expr L.body (envX L.qual L.scope s.heap.objs.size f (.ref c) cl)) _ _
 have hk₁:∀b o,s.heap.get? b=j? o->h₁.get? b=j? o:=λb o e=>Jy.extBut b o (Yp (Yl e)) (Yg _ e)
 have Rn:∀c v,s.heap.IsCell c v->h₁.IsCell c v:=λc v ⟨o,e,d⟩=>⟨o,hk₁ c o e,d⟩
 have ok:(DS P w K mg base (L.x::L.N) L.qual L.scope f c cl A outer s H).Ok:=
  ⟨e0.mod,g.kind,rfl,rfl,Yd _,hc.inj,λx hx=>by
   rcases hx with z|z
   ·exact Jd rfl (g.rP _ (U? z))
   ·exact has x z,λx c z=>(nomatch (show false=true from z)),λ_=>hr.hd,Around.frames_deeper e0.frames,.inr ⟨rfl,rfl⟩,λb z=>Jd (show b∈([]:List o?) from z) (by simp),e0.bs,e0.Dl,λb o _ z=>Jd (show b∈([]:List o?) from z) (by simp),λb z=>Jd (show b∈([]:List o?) from z) (by simp),e0.mh,e0.F1⟩
 have I:Inv (DS P w K mg base (L.x::L.N) L.qual L.scope f c cl A outer s H) [] (j? v::vals.map j?) H { s with heap:=h₁,toks:=s.toks+1 }:=by
  refine⟨ok,rfl,e0.bare,Un.kept hk₁,⟨_,hns,λi x v' e1 e2 e3=>?_⟩,λx c e=>?_,e0.hok.fresh (Yd _),λx c e=>(hc.cell x c e).2.1,λp hp=>Jd (show p∈([]:List (o?×Obj)) from hp) (by simp),e0.hok.kept hk₁,by show(vals.map j?).length+1=L.N.length+1;rw[Ya,hc.len]⟩
  ·cases i with
   | zero=>
    cases e1;cases e2;exact⟨u,rv,.inl ⟨g.loc,by simp⟩⟩
   | succ i=>
    have e1:L.N[i]?=j? x:=e1;have e2:(vals.map j?)[i]?=j? (j? v'):=e2;have ev:vals[i]?=j? v':=by
     rw[Ye] at e2;cases z:vals[i]? with
     | none=>rw[z] at e2;cases e2
     | some y=>rw[z] at e2;cases e2;rfl
    obtain⟨c,u,l,ic,r⟩:=hc.val i x v' e1 ev;exact⟨u,r,.inr ⟨.inr (g.frees x (Yt e1)),c,l,Rn _ _ ic⟩⟩
  ·obtain⟨⟨v,ic⟩,_⟩:=hc.cell x c e
   exact⟨v,Rn _ _ ic⟩
 refine kla_codeExpr (B! ((g.pe cl f c A outer s H (hr.deeper _)).1 [] _ _ H Q I q) (λv s' hl=>?_) λ_ _ z=>M! z)
 obtain⟨y,H',J,r,q'⟩:=hl;exact⟨y,H',J.os,J.bare,J.base,J.hok,r,q'⟩
end
def ye (P:o?)(pos:Pos)(L:nX)(cl:List (Str×o?)):TE:=λ_ H Q=>∃ps:Array l?,H P=j? (.uN ps)/\TriplesOk ps.toList/\
  ((codeAmong pos ps.toList=q?/\∀f c',H f=q?->H c'=q?->f≠c'->Q (.ref f) (nW H P f c' ps pos L.qual L.params L.body L.scope cl))\/
   (∃c',codeAmong pos ps.toList=j? (.ref c')/\H c'=j? (.ext (EW c' L.qual))/\∀f,H f=q?->Q (.ref f) (upd H f (.ext (BZ f c' L.qual L.params L.body L.scope cl)))))
section
variable {X:Cx}
theorem Ku {c P:o?}{params:Arguments}{body:Expr}{scope:Scope}{pos:Pos}{L:nX}(hL:L.params=params/\L.body=body/\L.scope=scope)(hq:X.env.qual++"<lambda>"=L.qual)(hb:BMain X.mg X.base)(hc:X.env.code=.ref c)(hk:codeHdIn X.K c P=true)(hcf:∀y∈scope.names,y.2=.free->∃c,X.env.cells.lookup y.1=j? c)(hdef:defaultsOf params X.env=([],[]):=by rfl):
  PE X (.Lambda params body scope pos) (ye P pos L (aO X.env.cells scope.names [])):=by
 obtain⟨rfl,rfl,rfl⟩:=hL;have hm:=Nf (X:=X) (params:=L.params) (body:=L.body) (scope:=L.scope) (pos:=pos) hb hc hk hcf hdef;rw[hq] at hm;refine⟨?_⟩
 intro pins s σ H Q I h;obtain⟨ps,hP,ht,⟨hn,q⟩|⟨c',hf,hc',q⟩⟩:=h
 ·exact hm.1 pins s σ H Q I ⟨ps,hP,ht,hn,q⟩
 have eP:s.heap.get? P=j? (tabObj ps):=I.hok P _ hP;have hgs:=I.mod.glob.keeps I.bk;obtain⟨bm,ob,b1,b2,b3,b4,b5,b6⟩:=hb;have G6:=I.bk _ _ b3;have SO:bm≠P:=λz=>by rw[z,eP] at G6;cases G6;cases b4
 have SQ:bm≠G?:=λz=>by
  obtain⟨o,es,ep,e,hd,_⟩:=hgs;rw[z,e] at G6;cases G6;rw[hd] at b6;cases b6
 refine kla_eval hdef (kla_makeFunctionHit (mg:=X.mg) (gU hcf) I.ok.glob hgs hc (codeHd_of_K I.Dm hk) eP ht hf ⟨bm,ob,b1,b2,SQ,SO,G6,b4,b5,b6⟩ λctv h' tk hx hsz=>?_)
 rw[hq];generalize hO:({ cls:=.type "function",data:=.func (kla_fn "<lambda>" L.qual L.params L.body L.scope (aO X.env.cells L.scope.names []) ((X.mg "__name__").getD .none) (.ref c') ctv) }:Obj)=O;have g:(h'.push O).get? h'.objs.size=j? O:=Y1 _ (by rw[<- hO];rfl)
 refine⟨.ref h'.objs.size,_,I.laid (a:=h'.objs.size) (o:=.ext (BZ h'.objs.size c' L.qual L.params L.body L.scope (aO X.env.cells L.scope.names []))) (λb o e=>Yg _ (hx b o e)) hsz ⟨⟨_,_,by rw[g,<- hO]⟩,⟨_,g⟩,λh1 h2 z k=>?_⟩,rfl,q _ (I.hok.fresh hsz)⟩
 obtain⟨pm,cv,z⟩:=z;exact⟨pm,cv,k _ z⟩
end
theorem E1 {Pp:o?}{pos:Pos}{L:nX}{cl:List (Str×o?)}{σ:St}{H:Hp}{Q:VK}(tq:fQ L.qual Pp H)(q:∀f c H',cD H Pp H'->fQ L.qual Pp H'->L.here cl f c H'->Q (.ref f) H'):ye Pp pos L cl σ H Q:=by
 obtain⟨ps,h1,h2,h3⟩:=tq;refine⟨ps,h1,h2,?_⟩
 rcases h3 pos with h|⟨c,h,hc⟩
 ·refine .inl ⟨h,λf c nf nc hfc=>?_⟩
  have SS:Pp≠f:=bh h1 nf;have SR:Pp≠c:=bh h1 nc;have nw:cD H Pp (nW H Pp f c ps pos L.qual L.params L.body L.scope cl):=λb o hb e=>by
   unfold nW;rw[aL (bh e nf),aL (bh e nc),aL hb];exact e
  have ef:(nW H Pp f c ps pos L.qual L.params L.body L.scope cl) f=j? (.ext (BZ f c L.qual L.params L.body L.scope cl)):=av;have ec:(nW H Pp f c ps pos L.qual L.params L.body L.scope cl) c=j? (.ext (EW c L.qual)):=by
   unfold nW;rw[aL (Ne.symm hfc),av]
  have eP:(nW H Pp f c ps pos L.qual L.params L.body L.scope cl) Pp=j? (.uN (ps++#[rawInt pos.line,rawInt pos.col,.ref c])):=by
   unfold nW;rw[aL SS,aL SR,av]
  have e:(ps++#[rawInt pos.line,rawInt pos.col,.ref c]).toList=ps.toList++[rawInt pos.line,rawInt pos.col,.ref c]:=by simp
  refine q f c _ nw ⟨_,eP,by rw[e];exact y_ rfl rfl _ h2,λp2=>?_⟩ ⟨ef,ec⟩
  rw[e];rcases h3 p2 with h'|⟨c2,h',hc2⟩
  ·by_cases z:pos.line=p2.line/\pos.col=p2.col
   ·refine .inr ⟨c,?_,ec⟩
    rw[z.1,z.2];exact EZ _ h2 h'
   ·exact .inl (B0 z _ h2 h')
  ·exact .inr ⟨c2,B3 _ h2 h',nw _ _ (λz=>by rw[z,h1] at hc2;cases hc2) hc2⟩
 ·refine .inr ⟨c,h,hc,λf nf=>?_⟩
  have g:=aA nf (.ext (BZ f c L.qual L.params L.body L.scope cl));exact q f c _ (cD.of g) (fQ.same ⟨ps,h1,h2,h3⟩ g) ⟨av,g _ _ hc⟩
section
variable {X:Cx} {x:Str} {id:String} {p pos:Pos} {e:Expr} {es:List Expr} {kws:List Keyword} {t tk:TA} {ks:List Str}
def Hg (X:Cx)(f:l?)(ks:List Str)(r:St->List V->List V->Hp->VK->Prop):Prop:=
 ∀(pins:List (o?×Obj)) (s:u?) (σ:St) (H:Hp) (xs ys:List V) (us ws:List l?) (Q:VK),Inv X pins σ H s->Vals xs us->Vals ys ws->r σ xs ys H Q->L? (S? X.prog X.w) X.A (call f us (ks.zip ws)) (EP X pins σ Q) X.xe s
def Hh (r:St->List V->List V->Hp->VK->Prop)(t tk:TA):TE:=λσ H Q=>t σ H λvs H1=>tk σ H1 λws H2=>r σ vs ws H2 Q
theorem B4 {r:St->List V->List V->Hp->VK->Prop}(hc:Hg X (.builtin id) ks r)(hg:Gl X x)(hm:X.mg x=q?)(hv:H! x=j? (.builtin id))(ha:PA X (e::es) t)(hk:PK X kws tk)
  (hks:(backToKw pos (keywordEach kws X.env)).filterMap (·.1)=ks:=by rfl)
  (hn:x≠"__name__":=by decide) (hdb:(x ==("__debug__":Str))=false:=by decide)
  (he:backTo pos (I? (e::es) X.env)=(false,eval e X.env)::backTo pos (I? es X.env):=by rfl)
  (hplain:(backTo pos (I? (e::es) X.env)).any (·.1)=false:=by rfl)
  (hall:(backToKw pos (keywordEach kws X.env)).all (·.1.isSome)=true:=by rfl)
  (hkw:(backToKw pos (keywordEach kws X.env)).any (·.1.isNone)=false:=by rfl):PE X (.Call (.Name x p) (e::es) kws pos) (Hh r t tk):=by
 refine⟨?_⟩
 intro pins s σ H Q I h;refine wpAny_Call_Name_kw (jI I hg hm hv ?_ hn hdb)
 refine callWith_builtin_kwB hplain hkw ?_
 have hb:=ha pos pins s σ H _ I h;rw[he] at hb ⊢;refine evalArgs_kwB hall (eB hb λus s1 ⟨vs,H1,I1,r1,q1⟩=>?_)
 refine eB (hk pos pins s1 σ H1 _ I1 q1) λws s2 ⟨ys,H2,I2,r2,q2⟩=>?_
 rw[hks];exact hc pins s2 σ H2 vs ys us ws Q I2 r1 r2 q2
end
theorem Kv {sc scope:Scope}{N:List Str}(h:∀x∈N,sc.names.lookup x=j? .cell/\(x,Z?)∈scope.names):∀x∈N,sc.names.lookup x=j? .cell/\(x,Z?)∈scope.names:=h
structure Nh (K:bG)(L:nX)(cl:List (Str×o?))(l f c:o?)(vs vals:List V)(kf:Nat->Int)(Pv:Nat->Hp->Prop)(Q:VK):Prop where
 lst:∀i H',Pv i H'->aN K H' l vs
 key:∀i v H',vs[i]?=j? v->Pv i H'->L.here cl f c H'/\L.t (j? v::vals.map j?) H' λkv H2=>kv=.int (kf i)/\Pv (i+1) H2
 fin:∀i v H',vs[i]?=j? v->(∀j,j<vs.length->kf i<=kf j)->Pv vs.length H'->Q v H'
def AE (K:bG)(N:List Str)(L:nX)(cl:List (Str×o?)):St->List V->List V->Hp->VK->Prop:=λσ xs ys H Q=>∃(l f c:o?) (vs vals:List V) (kf:Nat->Int) (Pv:Nat->Hp->Prop),xs=[.ref l]/\ys=[.ref f]/\0<vs.length/\
 (∀(j:Nat) x v,L.N[j]?=j? x->vals[j]?=j? v->∃i:Nat,N[i]?=j? x/\σ[i]?=j? (j? v))/\vals.length=L.N.length/\Pv 0 H/\Nh K L cl l f c vs vals kf Pv Q
section
variable {X:Cx} {pins:List (o?×Obj)} {σ:St} {L:nX} {cl:List (Str×o?)} {k:Nat} {l f c J S:o?} {vs vals:List V} {kf:Nat->Int} {Pv:Nat->Hp->Prop} {Q:VK}
theorem AF (g:L.Ok X.prog X.w X.K X.mg X.base k)(hr:fj (k+2) X.A)(has:∀x,L.scope.names.lookup x=j? .free->∃c,cl.lookup x=j? c)(mc:∀ {pins:List (o?×Obj)} {H1:Hp} {s1:u?},Inv X pins σ H1 s1->kR s1.heap H1 X.stack cl L.N vals)
  (M:Nh X.K L cl l f c vs vals kf Pv Q) {i:Nat} {v:V} {u:l?} {s:u?} {H:Hp} {oJ oS:Obj} (hv:vs[i]?=j? v) (ru:RelV v u) (I:Inv X pins σ H s) (fJ:jy X pins H J) (fS:jy X pins H S) (gJ:s.heap.get? J=j? oJ) (gS:s.heap.get? S=j? oS) (nJ:∀v,oJ.data≠.cell v) (nS:∀v,oS.data≠.cell v) (pv:Pv i H)
  {R:l?->u?->Prop} {E:l?->u?->Prop} (q:∀t s2 H2,Inv X pins σ H2 s2->jy X pins H2 J->jy X pins H2 S->s2.heap.get? J=j? oJ->s2.heap.get? S=j? oS->Pv (i+1) H2->R (.int (kf i) t) s2):
  L? (S? X.prog X.w) X.A.in1 (call (.ref f) [u]) R E s:=by
 obtain⟨hh,ht⟩:=M.key i v H hv pv;have hfp:∀b∈[J,S],jy X pins H b:=λb hb=>by
  rcases List.mem_cons.mp hb with rfl|hb
  ·exact fJ
  ·rw[List.mem_singleton.mp hb];exact fS
 have hob:∀b∈[J,S],∃o,s.heap.get? b=j? o/\∀v,o.data≠.cell v:=λb hb=>by
  rcases List.mem_cons.mp hb with rfl|hb
  ·exact⟨_,gJ,nJ⟩
  ·rw[List.mem_singleton.mp hb];exact⟨_,gS,nS⟩
 have Ip:=I.pinned hfp hob;have e0:=Ip.O4;have e2:EC X.prog X.w X.K X.mg X.base X.A.in1 X.stack s H:=⟨e0.frames,e0.mod,e0.bs,e0.Dl,e0.mh,e0.F1,e0.hok,e0.bare⟩;refine wpAny_call (codeAny_mono (Hf g (fj.in1 hr) e2 hh has (mc Ip) ru ht) λr s2 hq2=>?_)
 cases r with
 | error er=>exact M! hq2
 | ok fl=>
  cases fl with
  | next=>exact M! hq2
  | brk=>exact M! hq2
  | cont=>exact M! hq2
  | ret u=>
   obtain⟨kv,H2,I2,XO,ek,Ol⟩:=Ip.after hq2;subst ek;obtain⟨t2,rfl⟩:=(show ∃t,u=Value.int _ t from XO)
   have pJ:=I2.pin (J,oJ) (Ys _ (Ys _ (eT Y8 gJ)));have pS:=I2.pin (S,oS) (Ys _ (Ys _ (eT (Y3 _ Y8) gS)));exact q t2 s2 H2 I2.j5 ⟨pJ.2.1,fJ.2⟩ ⟨pS.2.1,fS.2⟩ pJ.1 pS.1 Ol
theorem za {h:O?}{n:Nat}{xs:Array l?}(a:h.IsListIter J l n)(b:h.IsList l xs):l≠J:=λz=>by
 obtain⟨o,e,d,_⟩:=a;obtain⟨u,e',d',_⟩:=b;rw[z,e] at e';cases e';rw[d] at d';injection d' with d'
 exact Jd d' (by decide)
theorem E3 (g:L.Ok X.prog X.w X.K X.mg X.base k)(hr:fj (k+2) X.A)(Ni:X.calm=true)(has:∀x,L.scope.names.lookup x=j? .free->∃c,cl.lookup x=j? c)(mc:∀ {pins:List (o?×Obj)} {H1:Hp} {s1:u?},Inv X pins σ H1 s1->kR s1.heap H1 X.stack cl L.N vals)
  (M:Nh X.K L cl l f c vs vals kf Pv Q) (Kw:S≠J):∀(r j i:Nat) (s:u?) (H:Hp) (vb:l?) (tb:Tok) (cc:Nat) (v:V),vs.length-(j+1)=r->j+1<=vs.length->Inv X pins σ H s->jy X pins H J->jy X pins H S->s.heap.get? S=j? (seqObj "list" #[vb,.int (kf i) tb] cc)->s.heap.IsListIter J l (j+1)->
   vs[i]?=j? v->RelV v vb->(∀j',j'<=j->kf i<=kf j')->Pv (j+1) H->codeAny (S? X.prog X.w) X.A (.builtin "min.loop" ⟨[.ref J,.ref f,.ref S],[]⟩) (λr s'=>match r with | .ok (.ret v)=>EP X pins σ Q v s' | .ok _=>False | .error e=>X.xe e s') s:=by
 have nm:(toString "min"++toString ".loop":String)="min.loop":=by decide
 intro r;induction r with
 | zero=>
  intro j i s H vb tb cc v hrr hj I fJ fS gS hit hv rv hb pv;obtain⟨its,Nj,hp,_⟩:=I.list (M.lst _ _ pv);have hls:=hp.isList;have hlen:vs.length=its.length:=Nj.length;have W:=Walks.list (prog:=X.prog) (w:=X.w) (A:=X.A.in1) (I.ok.hd Ni) J l (za hit hls) its.toArray;refine codeAny_builtin PySem.F.entry_min_loop ?_
  rw[Around.under_plainId PySem.F.plain_min_loop _];show L? _ X.A.in1 (seqItems? (.ref S) >>= _) _ _ s
  refine B? (wpAny_seqItems gS rfl ?_)
  show L? _ X.A.in1 (tryCatch (pyNext (.ref J)) _ >>= _) _ _ s
  refine B? (wpAny_tryCatch (W.done s _ _ ⟨by rw[Yq,show its.length=j+1 by omega];exact hit,hls⟩ λh' tk kk=>?_))
  have PD:=kk S _ (by simpa using Kw) gS
  have sb:=Heap.SameBut.update h' S (D! λ_=>(#[]:Array l?))
  show L? _ X.A.in1 (updateSeq S (λ_=>#[]) >>= _) _ _ _
  refine B? (wpAny_updateSeq PD rfl (B? (wpAny_letGo (J? ?_))))
  have I9:Inv X pins σ H { s with heap:=h'.update S (D! λ_=>(#[]:Array l?)),toks:=tk }:=I.yJ (ch:=[J,S]) (λb u hb q=>(sb.2 b (λz=>hb (by simp[z]))).trans (kk b u (λz=>hb (by simp at z;simp[z])) q)) (λb hb=>by
   rcases List.mem_cons.mp hb with rfl|hb
   ·exact fJ
   ·rw[List.mem_singleton.mp hb];exact fS)
  exact⟨v,H,I9,rv,M.fin i v H hv (λj' hj'=>hb j' (by omega)) (by rw[show vs.length=j+1 by omega];exact pv)⟩
 | succ r ih=>
  intro j i s H vb tb cc v hrr hj I fJ fS gS hit hv rv hb pv;obtain⟨its,Nj,hp,_⟩:=I.list (M.lst _ _ pv);have hls:=hp.isList;have hlen:vs.length=its.length:=Nj.length;have W:=Walks.list (prog:=X.prog) (w:=X.w) (A:=X.A.in1) (I.ok.hd Ni) J l (za hit hls) its.toArray;refine codeAny_builtin PySem.F.entry_min_loop ?_
  rw[Around.under_plainId PySem.F.plain_min_loop _];show L? _ X.A.in1 (seqItems? (.ref S) >>= _) _ _ s
  refine B? (wpAny_seqItems gS rfl ?_)
  show L? _ X.A.in1 (tryCatch (pyNext (.ref J)) _ >>= _) _ _ s
  refine B? (wpAny_tryCatch (W.item (j+1) s _ _ (by rw[Yq];omega) ⟨hit,hls⟩ λu h' tk hP Nk kk=>?_))
  have hu:its[j+1]?=j? u:=by simpa using hP
  obtain⟨v2,hv2⟩:∃v2,vs[j+1]?=j? v2:=⟨_,Yc (by omega)⟩
  obtain⟨u2,PF,Nl⟩:=Nj.get hv2;rw[hu] at PF;cases PF;have PD:=kk S _ (by simpa using Kw) gS
  obtain⟨oJ,gJ,cJ,dJ⟩:=id Nk.1;have I1:Inv X pins σ H { s with heap:=h',toks:=tk }:=I.turned (it:=J) (λb o hb q=>kk b o (by simpa using hb) q) fJ.1 fJ.2.1 fJ.2.2.2.1 fJ.2.2.2.2.1 fJ.2.2.2.2.2
  show L? _ X.A.in1 (tryCatch (holding [u] (call (.ref f) [u])) _ >>= _) _ _ _
  refine B? (wpAny_tryCatch (wpAny_holding (AF g hr has mc M hv2 Nl I1 fJ fS gJ PD (λv z=>by rw[dJ] at z;cases z) (λv z=>by cases z) pv λt2 s2 H2 I2 Rr DT Rt Om Ol=>?_)))
  show L? _ X.A.in1 (tryCatch (holding [u,.int (kf (j+1)) t2] (richCompare .Lt (.int (kf (j+1)) t2) (.int (kf i) tb) >>= _)) _ >>= _) _ _ _
  refine B? (wpAny_tryCatch (wpAny_holding (B? (CmpOf.ints_lt (prog:=X.prog) (w:=X.w) (A:=X.A.in1) (P:=λi v=>∃t,v=.int (kf i) t) kf (λi v h=>h) (j+1) i _ _ _ _ _ ⟨t2,rfl⟩ ⟨tb,rfl⟩ ?_))))
  refine B? (wpAny_holding (wpAny_truthy_bool ?_))
  refine B? (wpAny_letGo (J? ?_))
  by_cases hb':kf (j+1)<kf i
  ·have sb:=Heap.SameBut.update s2.heap S (D! λ_=>#[u,.int (kf (j+1)) t2])
   obtain⟨c2,hc2⟩:∃c2,(s2.heap.update S (D! λ_=>#[u,.int (kf (j+1)) t2])).get? S=j? (seqObj "list" #[u,.int (kf (j+1)) t2] c2):=⟨_,get?_update_seq Om λ_=>#[u,.int (kf (j+1)) t2]⟩
   simp only[hb',decide_true,if_true]
   refine B? ?_
   refine wpAny_updateSeq Om rfl (B? (wpAny_letGo ?_))
   rw[nm];refine J? ⟨plainId_quiet PySem.F.plain_min_loop _,ih (j+1) (j+1) _ H2 u t2 c2 v2 (by omega) (by omega) (I2.turned (it:=S) (t':=s2.toks) (λb o hb q=>(sb.2 b hb).trans q) DT.1 DT.2.1 DT.2.2.2.1 DT.2.2.2.2.1 DT.2.2.2.2.2) Rr DT hc2 ⟨oJ,(sb.2 J (Ne.symm Kw)).trans Rt,cJ,dJ⟩ hv2 Nl (λj' hj'=>?_) Ol⟩
   by_cases e:j'=j+1
   ·rw[e];exact Int.le_refl _
   ·have:=hb j' (by omega);omega
  ·simp only[hb',decide_false,Bool.false_eq_true,if_false]
   refine B? (wpAny_letGo ?_)
   rw[nm];refine J? ⟨plainId_quiet PySem.F.plain_min_loop _,ih (j+1) i _ H2 vb tb cc v (by omega) (by omega) I2 Rr DT Om ⟨oJ,Rt,cJ,dJ⟩ hv rv (λj' hj'=>?_) Ol⟩
   by_cases e:j'=j+1
   ·rw[e];omega
   ·exact hb j' (by omega)
end
section
variable {X:Cx}
theorem E4 {L:nX}{k:Nat}{scope:Scope}(g:L.Ok X.prog X.w X.K X.mg X.base k)(hr:fj (k+2) X.A)(Ni:X.calm=true)(hsc:L.scope=scope)(hcf:∀y∈scope.names,y.2=.free->∃c,X.env.cells.lookup y.1=j? c)(hst:X.stack=X.env::X.outer/\X.env.frame=j? X.env.locals)(hfn:∀x,X.fn x=true)
  (hfr:∀x∈L.N,X.env.kindOf x=j? .cell/\(x,Z?)∈scope.names):Hg X (.builtin "min") ["key"] (AE X.K X.N L (aO X.env.cells scope.names [])):=by
 intro pins s σ H xs ys us ws Q I rx ry h;obtain⟨l,f,c,vs,vals,kf,Pv,rfl,rfl,hne,PJ,hvl,pv,M⟩:=h;obtain⟨u,rfl,ru⟩:=vals1 rx;cases (show u=I! l from ru)
 obtain⟨u2,rfl,Nl⟩:=vals1 ry;cases (show u2=I! f from Nl)
 have mc:∀ {pins:List (o?×Obj)} {H1:Hp} {s1:u?},Inv X pins σ H1 s1->kR s1.heap H1 X.stack (aO X.env.cells scope.names []) L.N vals:=λI'=>kR.made I' hfn hst hfr PJ hvl
 have has:∀x,L.scope.names.lookup x=j? .free->∃c,(aO X.env.cells scope.names []).lookup x=j? c:=by rw[hsc];exact Ks hcf
 obtain⟨its,Nj,hp,_⟩:=I.list (M.lst _ _ pv);have hls:=hp.isList;have hlen:vs.length=its.length:=Nj.length;have Nm:l<s.heap.objs.size:=by obtain⟨_,e,_⟩:=id hls;exact Yl e
 have nm:(toString "min"++toString ".loop":String)="min.loop":=by decide
 show L? _ _ (call (.builtin "min") [.ref l] [(Str.ofString "key",.ref f)]) _ _ _
 refine kmk_tree PySem.F.kind_min PySem.F.plain_min PySem.F.entry_min (kmk_min_key _ _) ?_
 show L? _ X.A.in1 (Builtin.Builtins.bindParams "min" ["key","default"] 0 ⟨[],[(Str.ofString "key",.ref f)]⟩ >>= _) _ _ s
 refine B? (wpAny_of_eq (show Builtin.Builtins.bindParams "min" ["key","default"] 0 ⟨[],[(Str.ofString "key",.ref f)]⟩=pure [j? (.ref f),q?] from rfl) (B? (J? ?_)))
 refine B? (wpAny_pyIter_list hls ?_)
 refine B? (wpAny_newList ?_ (Yw _))
 rw[nm];have hS:(s.heap.push { cls:=.type "list_iterator",data:=.fields #[.ref l,.int 0 0] }).objs.size=s.heap.objs.size+1:=size_push' ..;have SX:((s.heap.push { cls:=.type "list_iterator",data:=.fields #[.ref l,.int 0 0] }).push (seqObj "list" #[] 0)).get? s.heap.objs.size=j? { cls:=.type "list_iterator",data:=.fields #[.ref l,.int 0 0] }:=Yg _ (Y1 _ rfl);have Ru:((s.heap.push { cls:=.type "list_iterator",data:=.fields #[.ref l,.int 0 0] }).push (seqObj "list" #[] 0)).get? (s.heap.objs.size+1)=j? (seqObj "list" #[] 0):=by
  rw[<- hS];exact Y1 _ rfl
 have keep:∀b o,s.heap.get? b=j? o->((s.heap.push { cls:=.type "list_iterator",data:=.fields #[.ref l,.int 0 0] }).push (seqObj "list" #[] 0)).get? b=j? o:=λb o e=>Yg _ (Yg _ e)
 refine J? ⟨plainId_quiet PySem.F.plain_min_loop _,?_⟩
 rw[hS];show codeAny _ _ _ _ { s with heap:=(s.heap.push { cls:=.type "list_iterator",data:=.fields #[.ref l,.int 0 0] }).push (seqObj "list" #[] 0) }
 have Nn:((s.heap.push { cls:=.type "list_iterator",data:=.fields #[.ref l,.int 0 0] }).push (seqObj "list" #[] 0)).IsList l its.toArray:=by
  obtain⟨o,e,r⟩:=hls;exact⟨o,keep _ _ e,r⟩
 generalize (s.heap.push { cls:=.type "list_iterator",data:=.fields #[.ref l,.int 0 0] }).push (seqObj "list" #[] 0)=h1 at SX Ru keep Nn ⊢;have fJ:=I.uR (Yd _) (I.hok.fresh (Yd s.heap.objs.size));have fS:jy X pins H (s.heap.objs.size+1):=I.uR (W4 s.heap.objs.size) (I.hok.fresh (W4 s.heap.objs.size));have I0:Inv X pins σ H { s with heap:=h1,toks:=s.toks }:=I.kept keep
 have Kw:s.heap.objs.size+1≠s.heap.objs.size:=Nat.succ_ne_self _;generalize s.heap.objs.size+1=S at Ru fS Kw ⊢;generalize s.heap.objs.size=J at SX fJ Kw ⊢;have hit:h1.IsListIter J l 0:=⟨_,SX,rfl,rfl⟩;have W:=Walks.list (prog:=X.prog) (w:=X.w) (A:=X.A.in1) (I.ok.hd Ni) J l (za hit Nn) its.toArray;refine codeAny_builtin PySem.F.entry_min_loop ?_
 rw[Around.under_plainId PySem.F.plain_min_loop _];show L? _ X.A.in1 (seqItems? (.ref S) >>= _) _ _ _
 refine B? (wpAny_seqItems Ru rfl ?_)
 show L? _ X.A.in1 (tryCatch (pyNext (.ref J)) _ >>= _) _ _ _
 refine B? (wpAny_tryCatch (W.item 0 _ _ _ (by rw[Yq];omega) ⟨hit,Nn⟩ λu h' tk hP Nk kk=>?_))
 have hu:its[0]?=j? u:=by simpa using hP
 obtain⟨v2,hv2⟩:∃v2,vs[0]?=j? v2:=⟨_,Yc (by omega)⟩
 obtain⟨u2,PF,Nl⟩:=Nj.get hv2;rw[hu] at PF;cases PF;have PD:=kk S _ (by simpa using Kw) Ru
 obtain⟨oJ,gJ,cJ,dJ⟩:=id Nk.1;have I1:Inv X pins σ H { s with heap:=h',toks:=tk }:=Inv.turned (s:={ s with heap:=h1,toks:=s.toks }) I0 (it:=J) (λb o hb q=>kk b o (by simpa using hb) q) fJ.1 fJ.2.1 fJ.2.2.2.1 fJ.2.2.2.2.1 fJ.2.2.2.2.2
 show L? _ X.A.in1 (tryCatch (holding [u] (call (.ref f) [u])) _ >>= _) _ _ _
 refine B? (wpAny_tryCatch (wpAny_holding (AF g hr has mc M hv2 Nl I1 fJ fS gJ PD (λv z=>by rw[dJ] at z;cases z) (λv z=>by cases z) pv λt2 s2 H2 I2 Rr DT Rt Om Ol=>?_)))
 have sb:=Heap.SameBut.update s2.heap S (D! λ_=>#[u,.int (kf 0) t2])
 obtain⟨c2,hc2⟩:∃c2,(s2.heap.update S (D! λ_=>#[u,.int (kf 0) t2])).get? S=j? (seqObj "list" #[u,.int (kf 0) t2] c2):=⟨_,get?_update_seq Om λ_=>#[u,.int (kf 0) t2]⟩
 show L? _ X.A.in1 (updateSeq S (λ_=>#[u,.int (kf 0) t2]) >>= _) _ _ _
 refine B? ?_
 refine wpAny_updateSeq Om rfl ?_
 rw[nm];refine J? ⟨plainId_quiet PySem.F.plain_min_loop _,E3 g hr Ni has mc M Kw _ 0 0 _ H2 u t2 c2 v2 rfl (by omega) (I2.turned (it:=S) (t':=s2.toks) (λb o hb q=>(sb.2 b hb).trans q) DT.1 DT.2.1 DT.2.2.2.1 DT.2.2.2.2.1 DT.2.2.2.2.2) Rr DT hc2 ⟨oJ,(sb.2 J (Ne.symm Kw)).trans Rt,cJ,dJ⟩ hv2 Nl (λj' hj'=>?_) Ol⟩
 rw[show j'=0 by omega];exact Int.le_refl _
theorem Ky {K:bG}{c P:o?}{e:Expr}{params:Arguments}{body:Expr}{scope:Scope}{pos pos2 p kp:Pos}{x:Str}{N:List Str}{t:TE}{ta:TA}{k:Nat}(hK:X.K=K)
  (hbody:∀(cl:List (Str×o?)) (f c:o?) (A:A!) (outer:List Env) (s:u?) (H:Hp),fj k (A.deeper (envX (X.env.qual++"<lambda>") scope s.heap.objs.size f (.ref c) cl))->PE (DS X.prog X.w K X.mg X.base (x::N) (X.env.qual++"<lambda>") scope f c cl A outer s H) body t)
  (hr:fj (k+2) X.A) (Ni:X.calm=true) (hst:X.stack=X.env::X.outer/\X.env.frame=j? X.env.locals) (hfn:∀x,X.fn x=true) (hb:BMain X.mg X.base) (hc:X.env.code=.ref c) (hk:codeHdIn K c P=true) (hg:Gl X "min") (hm:X.mg "min"=q?) (ha:PA X [e] ta)
  (hbind:∀cl pm cdv ct u,bindArgs (kla_fn "<lambda>" (X.env.qual++"<lambda>") params body scope cl pm cdv ct) ⟨[u],[]⟩=pure [(x,u)])
  (hcf:∀y∈scope.names,y.2=.free->∃c,X.env.cells.lookup y.1=j? c) (hfr:∀x∈N,X.env.kindOf x=j? .cell/\(x,Z?)∈scope.names) (hnc:∀y∈scope.names,y.2≠.cell) (hloc:scope.names.lookup x=j? .local) (Np:∀x∈N,scope.names.lookup x=j? .free)
  (hdef:defaultsOf params X.env=([],[]):=by rfl) (hkind:scope.kind=.function:=by rfl) (hco:scope.isCoroutine=false:=by rfl) (hgen:scope.isGenerator=false:=by rfl)
  (XQ:backTo pos2 (I? [e] X.env)=(false,eval e X.env)::backTo pos2 (I? [] X.env):=by rfl)
  (hplain:(backTo pos2 (I? [e] X.env)).any (·.1)=false:=by rfl):
  PE X (.Call (.Name "min" p) [e] [.mk (j? "key") (.Lambda params body scope pos) kp] pos2) (Hh (AE K X.N ⟨X.env.qual++"<lambda>",params,body,scope,x,N,t⟩ (aO X.env.cells scope.names [])) ta (z9 (ye P pos ⟨X.env.qual++"<lambda>",params,body,scope,x,N,t⟩ (aO X.env.cells scope.names [])) Ga)):=by
 subst hK;exact B4 (E4 (k:=k) (L:=⟨X.env.qual++"<lambda>",params,body,scope,x,N,t⟩) ⟨hkind,hco,hgen,hnc,hloc,Np,hbind,hbody⟩ hr Ni rfl hcf hst hfn hfr) hg hm MT ha (JP (Ku ⟨rfl,rfl,rfl⟩ rfl hb hc hk hcf hdef) MH) (he:=XQ) (hplain:=hplain)
end
end L2
namespace L2
open PySem PySem.SeqAt PySem.Spec PySem.W PyProof.Rows
end L2
namespace L2
open PySem PySem.Spec PyProof.Rows Alg
end L2
namespace Alg
open Lean.Grind
end Alg
namespace L2
open Alg
end L2
namespace Alg
open Lean.Grind
section
variable {α:Type} [CommRing α]
inductive gB (S:List (Nat->α)):(Nat->α)->Prop where
 | zero:gB S λ_=>0
 | add {r v:Nat->α} (a:α) (h:r∈S) (t:gB S v):gB S λi=>a*r i+v i
theorem gB.of {S:List (Nat->α)}{v w:Nat->α}(h:gB S v)(e:∀i,v i=w i):gB S w:=by
 rw[<- funext e];exact h
theorem gB.plus {S:List (Nat->α)}{v w:Nat->α}(h:gB S v)(k:gB S w):gB S λi=>v i+w i:=by
 induction h with
 | zero=>exact k.of λi=>by grind
 | @add r v a hr _ ih=>exact(gB.add a hr ih).of λi=>by grind
theorem gB.smul {S:List (Nat->α)}{v:Nat->α}(c:α)(h:gB S v):gB S λi=>c*v i:=by
 induction h with
 | zero=>exact gB.zero.of λi=>by grind
 | @add r v a hr _ ih=>exact(gB.add (c*a) hr ih).of λi=>by grind
theorem gB.mem {S:List (Nat->α)}{r:Nat->α}(h:r∈S):gB S r:=(gB.add 1 h gB.zero).of λi=>by grind
theorem gB.trans {S S':List (Nat->α)}(hs:∀r∈S,gB S' r){v:Nat->α}(h:gB S v):gB S' v:=by
 induction h with
 | zero=>exact .zero
 | @add r v a hr _ ih=>exact((hs r hr).smul a).plus ih
theorem gB.B5 {S:List (Nat->α)}{k:Nat}(hs:∀r∈S,r k=0){v:Nat->α}(h:gB S v):v k=0:=by
 induction h with
 | zero=>rfl
 | @add r v a hr _ ih=>show a*r k+v k=0;rw[hs r hr,ih];grind
theorem gB.step {S S':List (Nat->α)}{r s0:Nat->α}{k:Nat}{b:α}(e0:∀i,r i=b*s0 i)(e1:r k=1)(hs:∀s∈S,s=s0\/(λi=>s i-s k*r i)∈S'){v:Nat->α}(h:gB S v):gB S' λi=>v i-v k*r i:=by
 induction h with
 | zero=>exact gB.zero.of λi=>by grind
 | @add s v a hr _ ih=>
  rcases hs s hr with rfl|h
  ·have e2:b*s k=1:=by rw[<- e0];exact e1
   refine ih.of λi=>?_
   rw[e0 i];grind
  ·refine(gB.add a h ih).of λi=>?_
   grind
theorem gB.back {S:List (Nat->α)}{r s0 s:Nat->α}{k:Nat}{b:α}(e0:∀i,r i=b*s0 i)(h0:s0∈S)(hs:s∈S):gB S λi=>s i-s k*r i:=by
 refine(gB.add (-(s k*b)) h0 (gB.mem hs)).of λi=>?_
 rw[e0 i];grind
def sm (n:Nat)(d:Nat->α)(R:Nat->Nat->α)(j:Nat):α:=match n with
 | 0=>0
 | n+1=>sm n d R j+d n*R n j
theorem cO {n:Nat}{d d':Nat->α}{R R':Nat->Nat->α}{j:Nat}(h:∀i,i<n->d i=d' i)(k:∀i,i<n->R i j=R' i j):sm n d R j=sm n d' R' j:=by
 induction n with
 | zero=>rfl
 | succ n ih=>
  show sm n d R j+d n*R n j=sm n d' R' j+d' n*R' n j
  rw[ih (λi hi=>h i (by omega)) (λi hi=>k i (by omega)),h n (by omega),k n (by omega)]
theorem gY {n:Nat}{R:Nat->Nat->α}{j:Nat}:sm n (λ_=>0) R j=0:=by
 induction n with
 | zero=>rfl
 | succ n ih=>
  show sm n (λ_=>0) R j+0*R n j=0
  rw[ih];grind
theorem jc {n:Nat}(a:α){d e:Nat->α}{R:Nat->Nat->α}{j:Nat}:sm n (λi=>a*d i+e i) R j=a*sm n d R j+sm n e R j:=by
 induction n with
 | zero=>show(0:α)=a*0+0;grind
 | succ n ih=>
  show sm n (λi=>a*d i+e i) R j+(a*d n+e n)*R n j=a*(sm n d R j+d n*R n j)+(sm n e R j+e n*R n j)
  rw[ih];grind
theorem gZ {n:Nat}{R:Nat->Nat->α}{j k:Nat}(hk:k<n):sm n (λi=>if i=k then 1 else 0) R j=R k j:=by
 induction n with
 | zero=>omega
 | succ n ih=>
  show sm n (λi=>if i=k then 1 else 0) R j+(if n=k then 1 else 0)*R n j=R k j
  by_cases h:n=k
  ·subst h
   rw[W7 rfl,cO (d':=λ_=>0) (λi hi=>by show(if i=n then (1:α) else 0)=0;rw[W6 (by omega)]) (λi hi=>rfl),gY];grind
  ·rw[ih (by omega),W6 h];grind
def jz (W n:Nat)(R:Nat->Nat->α)(k:Nat):Nat->α:=λj=>if j<W then R k j else if j<W+n then (if j-W=k then 1 else 0) else 0
theorem Kz {W n:Nat}{R:Nat->Nat->α}{S:List (Nat->α)}(hS:∀r∈S,∃k,k<n/\r=jz W n R k){v:Nat->α}(h:gB S v):(∀j,j<W->v j=sm n (λi=>v (W+i)) R j)/\∀j,W+n<=j->v j=0:=by
 induction h with
 | zero=>exact⟨λj _=>gY.symm,λ_ _=>rfl⟩
 | @add r v a hr _ ih=>
  obtain⟨k,hk,rfl⟩:=hS r hr;refine⟨λj hj=>?_,λj hj=>?_⟩
  ·show a*jz W n R k j+v j=_
   rw[jc (n:=n) a (d:=λi=>jz W n R k (W+i)) (e:=λi=>v (W+i)),<- ih.1 j hj]
   congr 1
   rw[cO (n:=n) (d':=λi=>if i=k then 1 else 0) (λi hi=>?_) (λi hi=>rfl),gZ hk]
   ·show a*(if j<W then R k j else _)=_
    rw[W7 hj]
   ·show(if W+i<W then R k (W+i) else if W+i<W+n then (if W+i-W=k then (1:α) else 0) else 0)=_
    rw[W6 (by omega),W7 (by omega),Wf]
  ·show a*(if j<W then R k j else if j<W+n then _ else 0)+v j=0
   rw[W6 (by omega),W6 (by omega),ih.2 j hj];grind
theorem AH {W n:Nat}{R:Nat->Nat->α}(d:Nat->α):∀m,m<=n->gB ((Yk n).map (jz W n R)) λj=>sm m d (jz W n R) j
 | 0,_=>.zero
 | m+1,hm=>(gB.add (d m) (List.mem_map.mpr ⟨m,List.mem_range.mpr (by omega),rfl⟩) (AH d m (by omega))).of λj=>by
   show d m*jz W n R m j+sm m d (jz W n R) j=sm m d (jz W n R) j+d m*jz W n R m j
   grind
theorem KA {W n:Nat}{R:Nat->Nat->α}{d:Nat->α}:(∀j,j<W->sm n d (jz W n R) j=sm n d R j)/\(∀i,i<n->sm n d (jz W n R) (W+i)=d i)/\∀j,W+n<=j->sm n d (jz W n R) j=0:=by
 refine⟨λj hj=>cO (λi _=>rfl) λi _=>by show(if j<W then R i j else _)=_;rw[W7 hj],λi hi=>?_,λj hj=>?_⟩
 ·have e:∀m,m<=n->sm m d (jz W n R) (W+i)=if i<m then d i else 0:=by
   intro m;induction m with
   | zero=>intro _;rw[W6 (by omega)];rfl
   | succ m ih=>
    intro hm;show sm m d (jz W n R) (W+i)+d m*(if W+i<W then R m (W+i) else if W+i<W+n then (if W+i-W=m then (1:α) else 0) else 0)=_
    rw[ih (by omega),W6 (show ¬ W+i<W by omega),W7 (show W+i<W+n by omega),Wf]
    by_cases h1:i=m
    ·subst h1
     rw[W6 (show ¬ i<i by omega),W7 rfl,W7 (show i<i+1 by omega)];grind
    ·rw[W6 h1]
     by_cases h2:i<m
     ·rw[W7 h2,W7 (show i<m+1 by omega)];grind
     ·rw[W6 h2,W6 (show ¬ i<m+1 by omega)];grind
  rw[e n (Yd n),W7 hi]
 ·have:sm n d (jz W n R) j=sm n d (λ_ _=>0) j:=cO (λi _=>rfl) λi _=>by
   show(if j<W then R i j else if j<W+n then _ else 0)=0
   rw[W6 (by omega),W6 (by omega)]
  rw[this];have z:∀m,sm m d (λ_ _=>(0:α)) j=0:=λm=>by
   induction m with
   | zero=>rfl
   | succ m ih=>show sm m d (λ_ _=>(0:α)) j+d m*0=0;rw[ih];grind
  exact z n
structure Bw (W n:Nat)(R:Nat->Nat->α)(k:Nat)(S:List (Nat->α)):Prop where
 sub:∀r∈S,gB ((Yk n).map (jz W n R)) r
 nil:∀r∈S,∀j,j<k->r j=0
 all:∀v,gB ((Yk n).map (jz W n R)) v->(∀j,j<k->v j=0)->gB S v
theorem Bw.start {W n:Nat}{R:Nat->Nat->α}:Bw W n R 0 ((Yk n).map (jz W n R)):=⟨λr h=>.mem h,λr _ j hj=>Jd hj (Wc _),λv h _=>h⟩
theorem Bw.skip {W n k:Nat}{R:Nat->Nat->α}{S:List (Nat->α)}(h:Bw W n R k S)(h0:∀r∈S,r k=0):Bw W n R (k+1) S:=
 ⟨h.sub,λr hr j hj=>by
  by_cases e:j=k
  ·rw[e];exact h0 r hr
  ·exact h.nil r hr j (by omega),λv hv h1=>h.all v hv λj hj=>h1 j (by omega)⟩
theorem Bw.step {W n k:Nat}{R:Nat->Nat->α}{S S':List (Nat->α)}{r s0:Nat->α}{b:α}(h:Bw W n R k S)(h0:s0∈S)(e0:∀i,r i=b*s0 i)(e1:r k=1)(hs:∀s∈S,s=s0\/(λi=>s i-s k*r i)∈S')(hs':∀t∈S',∃s∈S,t=λi=>s i-s k*r i):Bw W n R (k+1) S':=by
 refine⟨λt ht=>?_,λt ht j hj=>?_,λv hv h1=>?_⟩
 ·obtain⟨s,hs,rfl⟩:=hs' t ht
  exact(gB.back e0 h0 hs).trans h.sub
 ·obtain⟨s,hs,rfl⟩:=hs' t ht
  show s j-s k*r j=0
  by_cases e:j=k
  ·rw[e,e1];grind
  ·rw[e0 j,h.nil s hs j (by omega),h.nil s0 h0 j (by omega)];grind
 ·have:=(h.all v hv λj hj=>h1 j (by omega)).step e0 e1 hs
  refine this.of λi=>?_
  rw[h1 k (by omega)];grind
theorem Bw.done {W n:Nat}{R:Nat->Nat->α}{S:List (Nat->α)}(h:Bw W n R W S):(∀r∈S,∀j,j<W->sm n (λi=>r (W+i)) R j=0)/\∀d:Nat->α,(∀j,j<W->sm n d R j=0)->∃v,gB S v/\∀i,i<n->v (W+i)=d i:=by
 refine⟨λr hr j hj=>?_,λd hd=>?_⟩
 ·have:=(Kz (W:=W) (n:=n) (R:=R) (λr hr=>by obtain⟨k,hk,e⟩:=List.mem_map.mp hr;exact⟨k,List.mem_range.mp hk,e.symm⟩) (h.sub r hr)).1 j hj
  rw[<- this];exact h.nil r hr j hj
 ·obtain⟨a,b,_⟩:=KA (W:=W) (n:=n) (R:=R) (d:=d)
  exact⟨_,h.all _ (AH d n (Yd n)) λj hj=>by rw[a j hj];exact hd j hj,b⟩
end
end Alg
namespace L2
open PySem Alg
end L2
namespace Alg
open Lean.Grind
end Alg
namespace L2
open PySem Alg
end L2
namespace Alg
open Lean.Grind
section
variable {α:Type} [CommRing α]
theorem B6 {p:Nat}(hc:nt α p=0)(k:Nat):nt α (k % p)=nt α k:=by
 have h:=Nat.div_add_mod k p;have h2:nt α k=nt α (p*(k / p)+k % p):=by rw[h]
 rw[h2,vI,r_,hc];grind
end
end Alg
namespace L2
open PySem Alg
abbrev Zt (T:Og):Type:=(ground T.p T.pr).α
def zv {T:Og}(x:Zt T):Nat:=(show Zp T.p from x).v
section
variable {T:Og} {F:T.α->Nat->Zt T}
theorem PL (z:Zt T):Alg.nt (Zt T) (zv z)=z:=by
 apply Zp.ext
 show(letI:=qS (cC T.pr).1;Alg.nt (Zp T.p) (zv z):Zp T.p).v=(show Zp T.p from z).v
 rw[G3];exact Z2 (show Zp T.p from z).lt
end
end L2
namespace Alg
open Lean.Grind
abbrev Vc:=Nat->Int
def Gq (S:List Vc)(m:Int)(q:Nat)(v:Vc):Prop:=(∀j,q<=j->v j=0)/\∃u z:Vc,gB S u/\∀j,v j=u j+m*z j
theorem Gq.zero {S:List Vc}{m:Int}{q:Nat}:Gq S m q λ_=>0:=⟨λ_ _=>rfl,_,λ_=>0,.zero,λj=>by show(0:Int)=0+m*0;omega⟩
theorem Gq.iR {S:List Vc}{m:Int}{q:Nat}(a:Int){v w:Vc}(h:Gq S m q v)(k:Gq S m q w):Gq S m q λj=>a*v j+w j:=by
 obtain⟨h0,u,z,hu,e⟩:=h;obtain⟨k0,u',z',LJ,e'⟩:=k;exact⟨λj hj=>by show a*v j+w j=0;rw[h0 j hj,k0 j hj];omega,_,λj=>a*z j+z' j,(hu.smul a).plus LJ,λj=>by show a*v j+w j=a*u j+u' j+m*(a*z j+z' j);rw[e j,e' j];grind⟩
theorem Gq.of {S:List Vc}{m:Int}{q:Nat}{v w:Vc}(h:Gq S m q v)(e:∀j,v j=w j):Gq S m q w:=by rw[<- funext e];exact h
theorem Gq.mem {S:List Vc}{m:Int}{q:Nat}{r:Vc}(h:r∈S)(h0:∀j,q<=j->r j=0):Gq S m q r:=⟨h0,r,λ_=>0,.mem h,λj=>by show r j=r j+m*0;omega⟩
theorem Gq.Hi {S:List Vc}{m:Int}{q:Nat}{v w z:Vc}(h:Gq S m q v)(w0:∀j,q<=j->w j=0)(e:∀j,w j=v j+m*z j):Gq S m q w:=by
 obtain⟨h0,u,z',hu,e'⟩:=h;exact⟨w0,u,λj=>z j+z' j,hu,λj=>by rw[e j,e' j];grind⟩
theorem Gq.unit {S:List Vc}{m:Int}{q k:Nat}(hk:k<q):Gq S m q λj=>if j=k then m else 0:=by
 refine(Gq.zero (S:=S) (m:=m) (q:=q)).Hi (z:=λj=>if j=k then 1 else 0) (λj hj=>W6 (by omega)) λj=>?_
 by_cases e:j=k
 ·simp[e]
 ·simp[e]
theorem Gq.sm {S:List Vc}{m:Int}{q:Nat}{c:Vc}{T:Nat->Vc}:∀n,(∀i,i<n->Gq S m q (T i))->Gq S m q λj=>sm n c T j
 | 0,_=>.zero
 | n+1,h=>((h n (by omega)).iR (c n) (Gq.sm n λi hi=>h i (by omega))).of λj=>by
   show c n*T n j+Alg.sm n c T j=Alg.sm n c T j+c n*T n j
   omega
theorem gB.lead {S S':List Vc}{lead:Vc}{m:Int}(h:∀r∈S,∃r'∈S',∃(o:Int) (w:Vc),∀j,r j=r' j+o*lead j+m*w j){u:Vc}(hu:gB S u):∃(A:Int) (u' w:Vc),gB S' u'/\∀j,u j=A*lead j+u' j+m*w j:=by
 induction hu with
 | zero=>exact⟨0,_,λ_=>0,.zero,λj=>by show(0:Int)=0*lead j+0+m*0;grind⟩
 | @add r v a hr _ ih=>
  obtain⟨r',hr',o,w,e⟩:=h r hr;obtain⟨A,u',w',LJ,e'⟩:=ih;exact⟨a*o+A,_,λj=>a*w j+w' j,.add a hr' LJ,λj=>by show a*r j+v j=(a*o+A)*lead j+(a*r' j+u' j)+m*(a*w j+w' j);rw[e j,e' j];grind⟩
theorem Gq.step {S S':List Vc}{lead:Vc}{m t:Int}{q:Nat}(hs:∀r∈S,∃r'∈S',∃(o:Int) (w:Vc),∀j,r j=r' j+o*lead j+m*w j)(hx:∃x∈S',∃w:Vc,∀j,t*lead j=x j+m*w j)(hl:t*lead q=m)(hup:∀j,q+1<=j->lead j=0)(h0:∀r∈S',∀j,q<=j->r j=0)(m0:m≠0){g:Vc}(hg:Gq S m (q+1) g):∃(a:Int) (g':Vc),Gq S' m q g'/\∀j,g j=a*lead j+g' j:=by
 obtain⟨gz,u,z,hu,eg⟩:=hg;obtain⟨A,u',w,LJ,eu⟩:=hu.lead hs;obtain⟨x,xs,wx,ex⟩:=hx;have w1:wx q=1:=by
  have:=ex q
  rw[hl,h0 x xs q (Yd q),Z8] at this;have e:m*(wx q-1)=0:=by grind
  rcases Int.mul_eq_zero.mp e with y|y
  ·exact Jd y m0
  ·omega
 have U7:∀j,g j=(A+(w q+z q)*t)*lead j+(u' j-(w q+z q)*x j+m*(w j+z j-(w q+z q)*wx j)):=λj=>by
  have:=ex j
  rw[eg j,eu j];grind
 refine⟨A+(w q+z q)*t,_,⟨λj hj=>?_,λj=>u' j-(w q+z q)*x j,λj=>w j+z j-(w q+z q)*wx j,(gB.add (-(w q+z q)) xs LJ).of λj=>by show -(w q+z q)*x j+u' j=u' j-(w q+z q)*x j;grind,λj=>rfl⟩,U7⟩
 by_cases e:j=q
 ·subst e
  show u' j-(w j+z j)*x j+m*(w j+z j-(w j+z j)*wx j)=0
  rw[w1,h0 x xs j (Yd j),LJ.B5 λr hr=>h0 r hr j (Yd j)];grind
 ·have h1:=U7 j
  rw[gz j (by omega),hup j (by omega)] at h1
  grind
theorem AI {n:Nat}{d d':Vc}{R R':Nat->Vc}{j:Nat}(h:∀i,i<n->d i*R i j=d' i*R' i j):sm n d R j=sm n d' R' j:=by
 induction n with
 | zero=>rfl
 | succ n ih=>
  show sm n d R j+d n*R n j=sm n d' R' j+d' n*R' n j
  rw[ih λi hi=>h i (by omega),h n (by omega)]
theorem B7 {n q:Nat}(hq:q<n){c:Vc}(c0:c q=0){T:Nat->Vc}{lead:Vc}{a:Int}(j:Nat):sm n (λi=>if i=q then a else c i) (λi=>if i=q then lead else T i) j=sm n c T j+a*lead j:=by
 induction n with
 | zero=>omega
 | succ n ih=>
  show sm n _ _ j+(if n=q then a else c n)*(if n=q then lead else T n) j=sm n c T j+c n*T n j+a*lead j
  by_cases e:n=q
  ·rw[W7 e,W7 e,AI (d':=c) (R':=T) λi hi=>by
    show(if i=q then a else c i)*(if i=q then lead else T i) j=_
    rw[W6 (by omega),W6 (by omega)]]
   rw[e,c0];grind
  ·rw[W6 e,W6 e,ih (by omega)];grind
structure Hj (n:Nat)(R:List Vc)(m:Int)(q:Nat)(T:Nat->Vc)(S:List Vc):Prop where
 low:∀r∈S,∀j,q<=j->r j=0
 sub:∀r∈S,Gq R m n r
 told:∀i,q<=i->i<n->Gq R m n (T i)
 lX:∀i,q<=i->i<n->∀j,i<j->T i j=0
 all:∀v,Gq R m n v->∃c g:Vc,(∀i,i<q->c i=0)/\Gq S m q g/\∀j,v j=sm n c T j+g j
theorem Hj.step {n q:Nat}{R S S':List Vc}{m t:Int}{T:Nat->Vc}{lead:Vc}(h:Hj n R m (q+1) T S)(hq:q<n)(m0:m≠0)
  (vM:Gq R m n lead) (hup:∀j,q+1<=j->lead j=0) (hl:t*lead q=m)
  (hs:∀r∈S,∃r'∈S',∃(o:Int) (w:Vc),∀j,r j=r' j+o*lead j+m*w j) (hx:∃x∈S',∃w:Vc,∀j,t*lead j=x j+m*w j)
  (hb:∀r'∈S',(∃r∈S,∃(o:Int) (w:Vc),∀j,r j=r' j+o*lead j+m*w j)\/∃w:Vc,∀j,t*lead j=r' j+m*w j) (h0:∀r∈S',∀j,q<=j->r j=0):Hj n R m q (λi=>if i=q then lead else T i) S':=by
 refine⟨h0,λr' hr'=>?_,λi hi hn=>?_,λi hi hn j hj=>?_,λv hv=>?_⟩
 ·rcases hb r' hr' with ⟨r,hr,o,w,e⟩|⟨w,e⟩
  ·exact(vM.iR (-o) (h.sub r hr)).Hi (z:=λj=>-w j) (λj hj=>h0 r' hr' j (by omega)) λj=>by have:=e j;grind
  ·exact(vM.iR t Gq.zero).Hi (z:=λj=>-w j) (λj hj=>h0 r' hr' j (by omega)) λj=>by have:=e j;grind
 ·by_cases e:i=q
  ·rw[W7 e];exact vM
  ·rw[W6 e];exact h.told i (by omega) hn
 ·by_cases e:i=q
  ·rw[W7 e];exact hup j (by omega)
  ·rw[W6 e];exact h.lX i (by omega) hn j hj
 ·obtain⟨c,g,c0,hg,e⟩:=h.all v hv
  obtain⟨a,g',hg',e'⟩:=hg.step hs hx hl hup h0 m0;refine⟨λi=>if i=q then a else c i,g',λi hi=>?_,hg',λj=>?_⟩
  ·show(if i=q then a else c i)=0
   rw[W6 (by omega)];exact c0 i (by omega)
  ·rw[B7 hq (c0 q (by omega)) j,e j,e' j];omega
theorem Hj.start {n:Nat}{R:List Vc}{m:Int}{T:Nat->Vc}{S:List Vc}(h1:∀r∈S,Gq R m n r)(h2:∀r∈R,∃r'∈S,∃w:Vc,∀j,r j=r' j+m*w j):Hj n R m n T S:=by
 refine⟨λr hr=>(h1 r hr).1,h1,λi hi hn=>by omega,λi hi hn=>by omega,λv hv=>⟨λ_=>0,v,λ_ _=>rfl,?_,λj=>by rw[gY];omega⟩⟩
 obtain⟨v0,u,z,hu,e⟩:=hv;obtain⟨A,u',w,LJ,eu⟩:=hu.lead (S':=S) (lead:=λ_=>0) (m:=m) λr hr=>by
  obtain⟨r',hr',w,e⟩:=h2 r hr;exact⟨r',hr',0,w,λj=>by rw[e j];omega⟩
 exact⟨v0,u',λj=>w j+z j,LJ,λj=>by rw[e j,eu j];grind⟩
structure cU (n:Nat)(T:Nat->Vc):Prop where
 lX:∀i,i<n->∀j,i<j->T i j=0
 nz:∀i,i<n->T i i≠0
def iZ (n:Nat)(T:Nat->Vc)(v:Vc):Prop:=∃c:Vc,∀j,v j=sm n c T j
theorem Hj.done {n:Nat}{R S:List Vc}{m:Int}{T:Nat->Vc}(h:Hj n R m 0 T S){v:Vc}:Gq R m n v↔iZ n T v:=by
 refine⟨λhv=>?_,λ⟨c,e⟩=>(Gq.sm n λi hi=>h.told i (by omega) hi).of λj=>(e j).symm⟩
 obtain⟨c,g,_,hg,e⟩:=h.all v hv;exact⟨c,λj=>by rw[e j,hg.1 j (by omega)];omega⟩
theorem jd {n q j:Nat}{c:Vc}{T:Nat->Vc}(hT:∀i,i<n->T i j=0):sm n c T j=0:=by
 induction n with
 | zero=>rfl
 | succ n ih=>
  show sm n c T j+c n*T n j=0
  rw[ih λi hi=>hT i (by omega),hT n (by omega)];omega
theorem cU.at_ {n:Nat}{T:Nat->Vc}(h:cU n T)(c:Vc){q:Nat}(hq:q<n):sm (q+1) c T q=c q*T q q:=by
 show sm q c T q+c q*T q q=_
 rw[jd (q:=q) λi hi=>h.lX i (by omega) q hi];omega
theorem cU.uniq {n:Nat}{T:Nat->Vc}(h:cU n T):∀q,q<=n->∀ {c c':Vc},(∀j,sm q c T j=sm q c' T j)->∀i,i<q->c i=c' i
 | 0,_,c,c',_,i,hi=>by omega
 | q+1,hq,c,c',e,i,hi=>by
  have e1:c q=c' q:=by
   have:=e q
   rw[h.at_ c (by omega),h.at_ c' (by omega)] at this
   exact Int.eq_of_mul_eq_mul_right (h.nz q (by omega)) this
  by_cases y:i=q
  ·rw[y];exact e1
  ·refine cU.uniq h q (by omega) (λj=>?_) i (by omega)
   have h1:sm q c T j+c q*T q j=sm q c' T j+c' q*T q j:=e j;rw[e1] at h1;omega
theorem iZ.iR {n:Nat}{T:Nat->Vc}(a:Int){v w:Vc}(h:iZ n T v)(k:iZ n T w):iZ n T λj=>a*v j+w j:=by
 obtain⟨c,e⟩:=h;obtain⟨d,e'⟩:=k;exact⟨λi=>a*c i+d i,λj=>by show a*v j+w j=_;rw[jc,e j,e' j]⟩
theorem iZ.of {n:Nat}{T:Nat->Vc}{v w:Vc}(h:iZ n T v)(e:∀j,v j=w j):iZ n T w:=by rw[<- funext e];exact h
theorem iZ.row {n:Nat}{T:Nat->Vc}{i:Nat}(hi:i<n):iZ n T (T i):=⟨λk=>if k=i then 1 else 0,λj=>(gZ hi).symm⟩
theorem iZ.zero {n:Nat}{T:Nat->Vc}:iZ n T λ_=>0:=⟨λ_=>0,λj=>gY.symm⟩
theorem iZ.sm {n:Nat}{T:Nat->Vc}{c:Vc}{U:Nat->Vc}:∀k,(∀i,i<k->iZ n T (U i))->iZ n T λj=>sm k c U j
 | 0,_=>.zero
 | k+1,h=>((h k (by omega)).iR (c k) (iZ.sm k λi hi=>h i (by omega))).of λj=>by
   show c k*U k j+Alg.sm k c U j=Alg.sm k c U j+c k*U k j
   omega
theorem cU.cut {n:Nat}{T:Nat->Vc}(h:cU n T){v:Vc}{q:Nat}(hv:iZ n T v)(v0:∀j,q<=j->v j=0)(hq:q<=n):∃c:Vc,∀j,v j=sm q c T j:=by
 obtain⟨c,e⟩:=hv;have key:∀k,q<=k->k<=n->(∀j,v j=sm k c T j)->∃c:Vc,∀j,v j=sm q c T j:=by
  intro k;induction k with
  | zero=>
   intro h1 _ e;have h5:q=0:=by omega
   rw[h5];exact⟨c,e⟩
  | succ k ih=>
   intro h1 h2 e;by_cases y:q=k+1
   ·subst y;exact⟨c,e⟩
   ·refine ih (by omega) (by omega) λj=>?_
    have h3:=e k;rw[v0 k (by omega),h.at_ c (by omega)] at h3
    rcases Int.mul_eq_zero.mp h3.symm with z|z
    ·rw[e j]
     show Alg.sm k c T j+c k*T k j=_
     rw[z];omega
    ·exact Jd z (h.nz k (by omega))
 exact key n hq (Yd n) e
theorem cU.dvd {n:Nat}{T U:Nat->Vc}(hT:cU n T)(hU:cU n U)(sub:∀i,i<n->iZ n T (U i)){i:Nat}(hi:i<n):T i i ∣ U i i:=by
 obtain⟨c,e⟩:=hT.cut (q:=i+1) (sub i hi) (λj hj=>hU.lX i hi j (by omega)) (by omega)
 have:=e i
 rw[hT.at_ c hi] at this;exact⟨c i,by rw[this,Z1]⟩
theorem cU.same {n:Nat}{T U:Nat->Vc}(hT:cU n T)(hU:cU n U)(sub:∀i,i<n->iZ n T (U i))(eq:∀i,i<n->U i i=T i i):∀i,i<n->iZ n U (T i):=by
 have key:∀k,∀i,i<k->i<n->iZ n U (T i):=by
  intro k;induction k with
  | zero=>intro i hi;omega
  | succ k ih=>
   intro i hik hi;by_cases y:i<k
   ·exact ih i y hi
   obtain rfl:i=k:=by omega
   obtain⟨c,e⟩:=hT.cut (q:=i+1) (sub i hi) (λj hj=>hU.lX i hi j (by omega)) (by omega)
   have c1:c i=1:=by
    have:=e i
    rw[hT.at_ c hi,eq i hi] at this;have z:=hT.nz i hi;have:(c i-1)*T i i=0:=by grind
    rcases Int.mul_eq_zero.mp this with y|y
    ·omega
    ·exact Jd y z
   refine(iZ.iR (-1) (iZ.sm (c:=c) (U:=T) i λk hk=>ih k hk (by omega)) (iZ.row (T:=U) hi)).of λj=>?_
   have h3:U i j=Alg.sm i c T j+c i*T i j:=e j;rw[c1] at h3;omega
 exact λi hi=>key n i hi hi
end Alg
namespace L2
open PySem PySem.Spec PyProof.Rows Alg
def rE (n:Nat)(v:Vc):El:=ki n λj=>.num (v j)
def mE (r c:Nat)(A:Nat->Vc):El:=ki r λi=>rE c (A i)
def tE (r c d:Nat)(A:Nat->Nat->Vc):El:=ki r λi=>mE c d (A i)
def lv (n:Nat)(v:Vc):List Int:=(Yk n).map v
theorem bK (n:Nat)(v:Vc):(lv n v).length=n:=by unfold lv;rw[Ya,Yf]
theorem dM {n:Nat}{v:Vc}{j:Nat}(h:j<n):(lv n v)[j]?=j? (v j):=by unfold lv;rw[Ye,Y0 h];rfl
theorem nI (n:Nat)(v:Vc)(j:Nat):aq (lv n v) j=if j<n then v j else 0:=by
 unfold aq;by_cases h:j<n
 ·rw[W7 h,Yb,dM h];rfl
 ·rw[W6 h,Yb,List.getElem?_eq_none_iff.mpr (by rw[bK];omega)];rfl
theorem vN {n:Nat}{e d:Nat->El}(h:∀i,i<n->e i=d i):ki n e=ki n d:=by
 unfold ki;congr 1
 exact Wq λi hi=>h i (List.mem_range.mp hi)
theorem vO {n:Nat}{v w:Vc}(h:∀j,j<n->v j=w j):rE n v=rE n w:=vN λj hj=>by rw[h j hj]
theorem Hl {n:Nat}{v:Vc}{H:Hp}{ok:o?->Prop}{l:o?}(h:H l=j? (.lst ((lv n v).map V.int)))(k:ok l):Rep H ok (.ref l) (rE n v):=by
 refine Cf.rep (vs:=(lv n v).map V.int) ⟨by rw[Ya,bK],λi hi=>⟨.int (v i),by rw[Ye,dM hi];rfl,.num _⟩⟩ h k
theorem KC {H:Hp}{ok:o?->Prop}{v:V}{n:Int}(h:Rep H ok v (.num n)):v=.int n:=by cases h;rfl
theorem dQ {n:Nat}{v:Vc}{H:Hp}{ok:o?->Prop}{x:V}(h:Rep H ok x (rE n v)):∃l,x=.ref l/\H l=j? (.lst ((lv n v).map V.int))/\ok l:=by
 obtain⟨l,vs,rfl,hl,k,C⟩:=h.cf;refine⟨l,rfl,?_,k⟩
 have:vs=(lv n v).map V.int:=by
  refine Zv λi=>?_
  by_cases hi:i<n
  ·obtain⟨y,h1,r⟩:=C.at_ i hi
   rw[h1,Ye,dM hi,KC r];rfl
  ·rw[List.getElem?_eq_none_iff.mpr (by rw[C.len];omega),List.getElem?_eq_none_iff.mpr (by rw[Ya,bK];omega)]
 rw[<- this];exact hl
theorem ou {n j:Nat}{v:Vc}(h:j<n):rF ((lv n v).map V.int) (j:Int)=j? (.int (v j)):=fH (by rw[Ye,dM h];rfl)
section
variable {K:bG} {D:o?} {st:St} {g:TG} {te:TE} {H1:Hp} {Q:VK} {n:Nat}
theorem lY {a:o?}{xs:List V}(e:Nat->El)(hn:xs.length=n)(h:H1 a=j? (.lst xs))(hD:H1 D=q?)(hz:n<=1000)
  (hs:∀i x H2 (Q2:VK),i<n->aG H1 H2->xs[i]?=j? x->(∀r H3,aG H2 H3->Rep H3 (dY H2) r (e i)->Q2 r H3)->g x st H2 λσ3 H3=>te σ3 H3 Q2)
  (q:∀H2,aG H1 H2->Rep H2 (dY H1) (.ref D) (ki n e)->Q (.ref D) H2):tQ (MB K a) D st g JX te Q H1:=by
 refine gF (xs:=xs) (λi ys H2=>aG H1 H2/\Cf H2 (Off H1 D) ys i e) ⟨aA hD _,.nil⟩ (λi ys H2 _ h'=>aN.of (h'.1 _ _ h)) ?_ ?_
 ·rintro i m x ys H2 hm hi hx hy hlen ⟨gg,cy⟩
  refine hs i x H2 _ (by omega) gg hx λr H3 g3 rr=>?_
  exact CW.emit hm hi (by rw[C?];omega) (g3 _ _ hy) hlen ⟨aG.aZ (gg.trans g3) hD _,((cy.same g3).push (rr.Ko gg hy)).upd⟩
 ·rintro ys H2 hy ⟨gg,cy⟩
  rw[hn] at cy;exact q H2 gg (cy.G7.rep hy hD)
theorem B8 {lo:Int}(e:Nat->El)(hD:H1 D=q?)(hz:n<=1000)
  (hs:∀i H2 (Q2:VK),i<n->aG H1 H2->(∀r H3,aG H2 H3->Rep H3 (dY H2) r (e i)->Q2 r H3)->g (.int (lo+(i:Int))) st H2 λσ3 H3=>te σ3 H3 Q2)
  (q:∀H2,aG H1 H2->Rep H2 (dY H1) (.ref D) (ki n e)->Q (.ref D) H2):tQ (JK lo n) D st g JX te Q H1:=by
 refine i9 (λi ys H2=>aG H1 H2/\Cf H2 (Off H1 D) ys i e) ⟨aA hD _,.nil⟩ ?_ ?_
 ·rintro i m ys H2 hm hi hy hlen ⟨gg,cy⟩
  refine hs i H2 _ hi gg λr H3 g3 rr=>?_
  exact CW.emit hm hi (by rw[C?];omega) (g3 _ _ hy) hlen ⟨aG.aZ (gg.trans g3) hD _,((cy.same g3).push (rr.Ko gg hy)).upd⟩
 ·rintro ys H2 hy ⟨gg,cy⟩
  exact q H2 gg (cy.G7.rep hy hD)
theorem Nq {a b:o?}{xs ys:List V}(e:Nat->El)(hn:xs.length=n)(hm:ys.length=n)(ha:H1 a=j? (.lst xs))(hb:H1 b=j? (.lst ys))(hD:H1 D=q?)(hz:n<=1000)
  (hs:∀i x y t H2 (Q2:VK),i<n->aG H1 H2->xs[i]?=j? x->ys[i]?=j? y->H2 t=j? (.tup [x,y])->(∀r H3,aG H2 H3->Rep H3 (dY H2) r (e i)->Q2 r H3)->g (.ref t) st H2 λσ3 H3=>te σ3 H3 Q2)
  (q:∀H2,aG H1 H2->Rep H2 (dY H1) (.ref D) (ki n e)->Q (.ref D) H2):tQ (Ro K a b) D st g JX te Q H1:=by
 refine AB (xs:=xs) (ys:=ys) (λi zs H2=>aG H1 H2/\Cf H2 (Off H1 D) zs i e) (by rw[hn,hm]) ⟨aA hD _,.nil⟩ (λi zs H2 _ h=>⟨aN.of (h.1 _ _ ha),aN.of (h.1 _ _ hb)⟩) ?_ ?_
 ·rintro i m x y zs H2 r hm hi hx hy hz' hlen ⟨gg,cz⟩ hr
  have kr:=aA hr (.tup [x,y]);refine hs i x y r _ _ (by omega) (gg.trans kr) hx hy av λr2 H3 g3 rr=>?_
  exact CW.emit hm hi (by rw[C?];omega) (g3 _ _ (kr _ _ hz')) hlen ⟨aG.aZ ((gg.trans kr).trans g3) hD _,((cz.same (kr.trans g3)).push (rr.Ko (gg.trans kr) (kr _ _ hz'))).upd⟩
 ·rintro zs H2 hz' ⟨gg,cz⟩
  rw[hn] at cz;exact q H2 gg (cz.G7.rep hz' hD)
end
end L2
namespace L2
open PySem PySem.Spec PyProof.Rows
section
variable {X:Cx}
def PM (K:bG):List V->Hp->VK->Prop:=λxs H Q=>∃p,∃ns:List Int,xs=[.ref p]/\aN K H p (ns.map V.int)/\Q (.int ns.sum) H
theorem B9 {ys:Array (Int×Tok)}{ns:List Int}(e2:ys.toList.map (·.1)=ns):preSum (numAt ys) ys.size=ns.sum:=by
 have key:∀n,n<=ns.length->preSum (numAt ys) n=(ns.take n).sum:=by
  intro n;induction n with
  | zero=>intro _;simp[preSum]
  | succ n ih=>
   intro h;rw[List.take_succ_eq_append_getElem (by omega),List.sum_append,<- ih (by omega)]
   show preSum (numAt ys) n+numAt ys n=_
   rw[oV e2,dR (by omega)]
   simp
 have hsz:ys.size=ns.length:=by rw[<- e2];simp
 rw[hsz,key _ (Yd _),List.take_length]
theorem Ho (hc:X.calm=true):i7 X (.builtin "sum") (PM X.K):=by
 intro pins s σ H xs us Q I rv h;obtain⟨p,ns,rfl,hq,q⟩:=h;obtain⟨u,rfl,ru⟩:=vals1 rv;cases (show u=I! p from ru)
 obtain⟨its,r,hp,_⟩:=I.list hq;obtain⟨ys,e1,e2⟩:=oU r;have hl:=hp.isList;rw[e1] at hl;refine sum_intListG (I.ok.hd hc) hl λh' tk t hk=>?_
 refine⟨.int _,H,I.kept (h':=h') (t':=tk) hk,⟨t,rfl⟩,?_⟩
 rw[B9 e2];exact q
theorem yf {K:bG}(h:X.K=K)(hc:X.calm=true):i7 X (.builtin "sum") (PM K):=by subst h;exact Ho hc
end
end L2
namespace L2
theorem DU {f:Nat->Int}:∀ {n:Nat},(∀i,i<n->f i=1)->Bv n f=1
 | 0,_=>rfl
 | n+1,h=>by
  show Bv n f*f n=1
  rw[DU λi hi=>h i (by omega),h n (by omega)];rfl
def yg (i k:Nat):Int:=if k=i then 1 else 0
theorem KD (n:Nat):det n yg=1:=by
 rw[yS n yg λi j h _=>show yg i j=0 from W6 (by omega)]
 exact DU λi _=>W7 rfl
theorem zb {f:Nat->Int}{k n:Nat}(hk:k<n)(h:∀i,i<n->i≠k->f i=0):bC n f=f k:=by rw[eo,ja hk h]
theorem KG (f g:Nat->Int)(n:Nat):bC n (λi=>f i+g i)=bC n f+bC n g:=by rw[eo,eo,eo,qI]
theorem AJ {n c:Nat}(hc:c<n)(f:Nat->Int):bC n (λk=>f k*yg k c)=f c:=by
 rw[zb hc λk _ hne=>by show f k*yg k c=0;unfold yg;rw[W6 (λz=>hne z.symm),Y4]]
 show f c*yg c c=f c
 unfold yg;rw[W7 rfl,Wv]
theorem Top.mul {f g:Fn}{n m:Nat}(hf:Top f n)(hg:Top g m):Top (cv f g) (n+m):=by
 refine⟨by rw[BO hg λi hi=>hf.top i hi];exact hf.one,λk hk=>?_⟩
 unfold cv;refine c9 λi hi=>?_
 by_cases c:n<i
 ·rw[hf.top i c,Zk]
 ·rw[hg.top _ (by omega),Y4]
section
variable {f:Fn} {n:Nat}
theorem Hq (hf:Top f n)(hn:1<=n){W C:Nat}(hW:1<=W)(hb:wb W (C*W ^ n) f):∀k,wb W ((W*(1+C)) ^ k) (tk f n k)
 | 0,j=>by
  show(xp 0 j).natAbs*W ^ j<=1
  unfold xp;by_cases c:j=0
  ·rw[W7 c,c];simp
  ·rw[W6 c];simp
 | k+1,j=>by
  have ih:=Hq hf hn hW hb k;show((if j=0 then 0 else tk f n k (j-1))-tk f n k (n-1)*f j).natAbs*W ^ j<=_
  generalize hc:(W*(1+C)) ^ k=c at ih;have h1:(if j=0 then (0:Int) else tk f n k (j-1)).natAbs*W ^ j<=c*W:=by
   by_cases z:j=0
   ·rw[W7 z];simp
   ·rw[W6 z]
    have:=Yr W (ih (j-1))
    rw[Wj,<- Zq,show(j-1).succ=j by omega] at this
    exact this
  have h2:(tk f n k (n-1)*f j).natAbs*W ^ j<=c*W*C:=by
   rw[Ze,Wj];have a1:=Za (tk f n k (n-1)).natAbs (hb j);refine Ym a1 ?_
   have e:(tk f n k (n-1)).natAbs*(C*W ^ n)=(tk f n k (n-1)).natAbs*W ^ (n-1)*(W*C):=by
    have:W ^ n=W ^ (n-1)*W:=by rw[<- Zq,show(n-1).succ=n by omega]
    rw[this];ac_rfl
   rw[e,Wj c];exact Yr _ (ih (n-1))
  have h3:=Int.natAbs_sub_le (if j=0 then (0:Int) else tk f n k (j-1)) (tk f n k (n-1)*f j)
  refine Ym (Yr _ h3) ?_
  rw[Wa,Zq,hc,<- Wj,Wm,Nat.mul_one];exact Nat.add_le_add h1 h2
theorem E5 (hf:Top f n)(hn:1<=n){W C cg L:Nat}(hW:1<=W)(hb:wb W (C*W ^ n) f){g:Fn}(hg:∀m,L<=m->g m=0)(bg:wb W cg g){R:Nat->Fn}(h:Rows f n g R)(i j:Nat):(R i j).natAbs<=L*(cg*(1+C) ^ L*(W*(1+C)) ^ i):=by
 rw[Kd hf hn hg h i];refine yQ λk hk=>?_
 rw[Ze];have h1:=Hq hf hn hW hb (k+i) j;have h2:(tk f n (k+i) j).natAbs<=(W*(1+C)) ^ (k+i):=Ym (Nat.le_mul_of_pos_right _ (Z5 hW)) h1;refine Ym (Za _ h2) ?_
 rw[Zh,<- Wj];refine Yr _ ?_
 rw[Nat.mul_pow,<- Wj];exact Zf (bg k) (Yu (Ym (Yd 1) (Wo 1 _)) (Wz hk))
end
end L2
namespace Alg
open Lean.Grind
section
variable {R:Type} [CommRing R]
def zc (R:Type)[CommRing R](k:Int):R:=@IntCast.intCast R Ring.intCast k
theorem oW (a b:Int):zc R (a+b)=zc R a+zc R b:=Ring.intCast_add a b
theorem gG (a b:Int):zc R (a*b)=zc R a*zc R b:=Ring.intCast_mul a b
theorem mO (a:Int):zc R (-a)=-zc R a:=Ring.intCast_neg a
theorem zd:zc R 0=0:=Ring.intCast_zero
theorem gi:zc R 1=1:=Ring.intCast_one
theorem cE:∀n:Nat,zc R (n:Int)=nt R n
 | 0=>zd
 | n+1=>by
  rw[show((n+1:Nat):Int)=(n:Int)+1 by omega,oW,cE n,gi];rfl
structure c8 (O:R->Prop):Prop where
 one:O 1
 add {a b:R}:O a->O b->O (a+b)
 neg {a:R}:O a->O (-a)
 mul {a b:R}:O a->O b->O (a*b)
section
variable {O:R->Prop}
theorem c8.zero (h:c8 O):O 0:=by
 have:=h.add h.one (h.neg h.one)
 rwa [show(1:R)+-1=0 by grind] at this
theorem c8.pow (h:c8 O){a:R}(ha:O a):∀n:Nat,O (a ^ n)
 | 0=>by rw[bO];exact h.one
 | n+1=>by rw[bH];exact h.mul (h.pow ha n) ha
theorem c8.nt (h:c8 O):∀n:Nat,O (nt R n)
 | 0=>h.zero
 | n+1=>h.add (h.nt n) h.one
theorem c8.zc (h:c8 O)(k:Int):O (zc R k):=by
 rcases Int.le_total 0 k with y|y
 ·obtain⟨n,rfl⟩:=Zi y
  rw[cE];exact h.nt n
 ·obtain⟨n,e⟩:=Zi (show 0<=-k by omega)
  rw[show k=-(n:Int) by omega,mO,cE];exact h.neg (h.nt n)
def Cp (O:R->Prop)(p a b:R):Prop:=∃w,O w/\a=b+p*w
variable {p:R}
theorem Cp.refl (h:c8 O)(a:R):Cp O p a a:=⟨0,h.zero,by grind⟩
theorem Cp.symm (h:c8 O){a b:R}:Cp O p a b->Cp O p b a:=λ⟨w,hw,e⟩=>⟨-w,h.neg hw,by grind⟩
theorem Cp.trans (h:c8 O){a b c:R}:Cp O p a b->Cp O p b c->Cp O p a c:=λ⟨w,hw,e⟩ ⟨v,hv,g⟩=>⟨w+v,h.add hw hv,by grind⟩
theorem Cp.add (h:c8 O){a b c d:R}:Cp O p a b->Cp O p c d->Cp O p (a+c) (b+d):=λ⟨w,hw,e⟩ ⟨v,hv,g⟩=>⟨w+v,h.add hw hv,by grind⟩
theorem Cp.mul (h:c8 O){a b c d:R}(hb:O b)(hc:O c):Cp O p a b->Cp O p c d->Cp O p (a*c) (b*d):=λ⟨w,hw,e⟩ ⟨v,hv,g⟩=>⟨w*c+b*v,h.add (h.mul hw hc) (h.mul hb hv),by grind⟩
theorem Cp.pow (h:c8 O){a b:R}(ha:O a)(hb:O b)(c:Cp O p a b):∀n:Nat,Cp O p (a ^ n) (b ^ n)
 | 0=>by rw[bO,bO];exact .refl h _
 | n+1=>by rw[bH,bH];exact .mul h (h.pow hb n) ha (Cp.pow h ha hb c n) c
theorem AK (h:c8 O){x y:R}(hx:O x)(hy:O y)(p:Nat):∀l:List Nat,(∀c∈l,c % p=0)->Cp O (Alg.nt R p) (hs x y (l++[1])) (x ^ l.length)
 | [],_=>by
  show Cp O _ (Alg.nt R 1*y ^ 0+x*0) (x ^ 0)
  rw[bO,bO,vJ,show(1:R)*1+x*0=1 by grind];exact .refl h _
 | c::l,hc=>by
  obtain⟨w,hw,e⟩:=AK h hx hy p l λd hd=>hc d (Y3 _ hd)
  obtain⟨k,hk⟩:=Nat.dvd_of_mod_eq_zero (hc c Y8);refine⟨Alg.nt R k*y ^ (l++[1]).length+x*w,h.add (h.mul (h.nt k) (h.pow hy _)) (h.mul hx hw),?_⟩
  show Alg.nt R c*y ^ (l++[1]).length+x*hs x y (l++[1])=x ^ (l.length+1)+_
  rw[e,hk,r_,bH];grind
theorem Hr (h:c8 O){p:Nat}(hp:p∈PR){x y:R}(hx:O x)(hy:O y):Cp O (Alg.nt R p) ((x+y) ^ p) (x ^ p+y ^ p):=by
 have h':=Na p hp;unfold LG at h';simp only[T?,beq_iff_eq,decide_eq_true_eq,Z9] at h'
 obtain⟨⟨⟨⟨h1,h2⟩,h3⟩,h4⟩,h5⟩:=h';rw[G0];match e:row p,h1 with
 | c::t,h1=>
  rw[e] at h2 h3 h4;have c1:c=1:=by simpa using h1
  have tl:t.length=p:=by simpa using h4
  have Rv:t≠[]:=by intro z;rw[z] at tl;simp at tl;omega
  have t2:t=t.dropLast++[1]:=by
   have:=List.dropLast_concat_getLast Rv
   have gl:t.getLast Rv=1:=by
    rw[List.getLast?_cons_of_ne_nil Rv] at h2;rw[List.getLast?_eq_some_getLast Rv] at h2;simpa using h2
   rw[gl] at this;exact this.symm
  have dl:t.dropLast.length+1=p:=by rw[List.length_dropLast];omega
  have h3:∀d∈t.dropLast,d % p=0:=h3;obtain⟨w,hw,e⟩:=AK h hx hy p t.dropLast h3;refine⟨x*w,h.mul hx hw,?_⟩
  show Alg.nt R c*y ^ t.length+x*hs x y t=_
  rw[tl,c1,vJ,t2,e];have:x*x ^ t.dropLast.length=x ^ p:=by
   rw[<- dl,bH];grind
  grind
theorem oX {p:Nat}(hp:p∈PR):1<=p:=by
 have:∀q∈PR,1<=q:=by decide
 exact this p hp
theorem Hs (h:c8 O){p:Nat}(hp:p∈PR):∀n:Nat,Cp O (Alg.nt R p) (Alg.nt R n ^ p) (Alg.nt R n)
 | 0=>by show Cp O _ ((0:R) ^ p) 0;rw[uF (oX hp)];exact .refl h _
 | n+1=>by
  refine(Hr h hp (h.nt n) h.one).trans h ?_
  rw[GW];exact(Hs h hp n).add h (.refl h _)
theorem PN (h:c8 O){p:Nat}(hp:p∈PR)(k:Int):Cp O (Alg.nt R p) (Alg.zc R k ^ p) (Alg.zc R k):=by
 rcases Int.le_total 0 k with y|y
 ·obtain⟨n,rfl⟩:=Zi y
  rw[cE];exact Hs h hp n
 ·obtain⟨n,e⟩:=Zi (show 0<=-k by omega)
  rw[show k=-(n:Int) by omega,mO,cE]
  obtain⟨w,hw,e1⟩:=Hr h hp (h.nt n) (h.neg (h.nt n));obtain⟨v,hv,e2⟩:=Hs h hp n;rw[show Alg.nt R n+-Alg.nt R n=0 by grind,uF (oX hp)] at e1
  exact⟨-w-v,by have:=h.add (h.neg hw) (h.neg hv);rwa [show -w+-v=-w-v by grind] at this,by grind⟩
def sR (n:Nat)(x:Vc)(o:Nat->R):R:=match n with
 | 0=>0
 | n+1=>sR n x o+zc R (x n)*o n
theorem KH (h:c8 O){x:Vc}{o:Nat->R}:∀n,(∀i,i<n->O (o i))->O (sR n x o)
 | 0,_=>h.zero
 | n+1,k=>h.add (KH h n λi hi=>k i (by omega)) (h.mul (h.zc _) (k n (by omega)))
theorem DV (h:c8 O){p:Nat}(hp:p∈PR){x:Vc}{o:Nat->R}:∀n,(∀i,i<n->O (o i))->Cp O (Alg.nt R p) (sR n x o ^ p) (sR n x λi=>o i ^ p)
 | 0,_=>by show Cp O _ ((0:R) ^ p) 0;rw[uF (oX hp)];exact .refl h _
 | n+1,k=>by
  refine(Hr h hp (KH h n λi hi=>k i (by omega)) (h.mul (h.zc (x n)) (k n (by omega)))).trans h ?_
  refine(DV h hp n λi hi=>k i (by omega)).add h ?_
  rw[BW];exact .mul h (h.zc _) (h.pow (k n (by omega)) p) (PN h hp (x n)) (.refl h _)
theorem vP (h:c8 O){p:Nat}(hp:p∈PR){x:Vc}{o:Nat->R}{n:Nat}(ho:∀i,i<n->O (o i)):∀d:Nat,Cp O (Alg.nt R p) (sR n x o ^ (p ^ d)) (sR n x λi=>o i ^ (p ^ d))
 | 0=>by
  have:∀z:R,z ^ (p ^ 0)=z:=λz=>by
   rw[Nat.pow_zero];have:=bH z 0
   rw[bO] at this;grind
  simp only[this];exact .refl h _
 | d+1=>by
  have e:∀z:R,z ^ (p ^ (d+1))=(z ^ (p ^ d)) ^ p:=λz=>by rw[Zq,BX]
  simp only[e]
  refine((vP h hp ho d).pow h (h.pow (KH h n ho) _) (KH h n λi hi=>h.pow (ho i hi) _) p).trans h ?_
  exact DV h hp n λi hi=>h.pow (ho i hi) _
def lZ (O:R->Prop)(p:R)(q:Nat)(a:R):Prop:=O a/\∃w,O w/\a ^ q=p*w
theorem lZ.add (h:c8 O){p:Nat}(hp:p∈PR){d:Nat}{a b:R}(ha:lZ O (Alg.nt R p) (p ^ d) a)(hb:lZ O (Alg.nt R p) (p ^ d) b):lZ O (Alg.nt R p) (p ^ d) (a+b):=by
 obtain⟨oa,w,hw,e⟩:=ha;obtain⟨ob,v,hv,g⟩:=hb;have:=vP h hp (x:=λ_=>1) (o:=λi=>if i=0 then a else b) (n:=2) (λi hi=>by
  by_cases c:i=0
  ·rw[W7 c];exact oa
  ·rw[W6 c];exact ob) d
 obtain⟨u,hu,e1⟩:=this;have s2:∀o:Nat->R,sR 2 (λ_=>1) o=o 0+o 1:=λo=>by
  show(0:R)+zc R 1*o 0+zc R 1*o 1=_
  rw[gi];grind
 rw[s2,s2] at e1;simp only[W7,W6 (show ¬ (1:Nat)=0 by decide)] at e1
 exact⟨h.add oa ob,w+v+u,h.add (h.add hw hv) hu,by rw[e1,e,g];grind⟩
theorem lZ.mul (h:c8 O){p:R}{q:Nat}{a b:R}(ha:lZ O p q a)(hb:O b):lZ O p q (b*a):=by
 obtain⟨oa,w,hw,e⟩:=ha;exact⟨h.mul hb oa,b ^ q*w,h.mul (h.pow hb q) hw,by rw[BW,e];grind⟩
theorem lZ.neg (h:c8 O){p:R}{q:Nat}{a:R}(ha:lZ O p q a):lZ O p q (-a):=by
 have:=ha.mul h (h.neg h.one)
 rwa [show -1*a=-a by grind] at this
theorem lZ.own (h:c8 O){p:R}{q:Nat}(hq:1<=q)(hp:O p){a:R}(ha:O a):lZ O p q (p*a):=by
 obtain⟨k,rfl⟩:∃k,q=k+1:=⟨q-1,by omega⟩
 exact⟨h.mul hp ha,(p*a) ^ k*a,h.mul (h.pow (h.mul hp ha) k) ha,by rw[bH];grind⟩
def AL (O:R->Prop)(p:R)(q:Nat)(a:R):Prop:=O (p*a)/\∀b,lZ O p q b->lZ O p q (a*b)
theorem AL.of (h:c8 O){p:R}(hp:O p){q:Nat}{a:R}(ha:O a):AL O p q a:=⟨h.mul hp ha,λb hb=>hb.mul h ha⟩
theorem AL.sub (h:c8 O){p:Nat}(hp:p∈PR)(d:Nat):c8 (AL O (Alg.nt R p) (p ^ d)) where
 one:=.of h (h.nt p) h.one
 add {a b} ha hb:=⟨by
   have:=h.add ha.1 hb.1
   rwa [show Alg.nt R p*a+Alg.nt R p*b=Alg.nt R p*(a+b) by grind] at this,λc hc=>by
   have:=(ha.2 c hc).add h hp (hb.2 c hc)
   rwa [show a*c+b*c=(a+b)*c by grind] at this⟩
 neg {a} ha:=⟨by
   have:=h.neg ha.1
   rwa [show -(Alg.nt R p*a)=Alg.nt R p*-a by grind] at this,λc hc=>by
   have:=(ha.2 c hc).neg h
   rwa [show -(a*c)=-a*c by grind] at this⟩
 mul {a b} ha hb:=⟨by
   have h1:=hb.2 _ (lZ.own h (Nat.pos_of_ne_zero λz=>by
    have:=Z5 (n:=d) (oX hp);omega) (h.nt p) h.one)
   have:=(ha.2 _ h1).1
   rwa [show a*(b*(Alg.nt R p*1))=Alg.nt R p*(a*b) by grind] at this,λc hc=>by
   have:=ha.2 _ (hb.2 c hc)
   rwa [show a*(b*c)=a*b*c by grind] at this⟩
end
end
end Alg
namespace Alg
open Lean.Grind
section
variable {R:Type} [CommRing R]
structure nK (n:Nat)(el:Vc->R):Prop where
 iR:∀(a:Int) (v w:Vc),el (λj=>a*v j+w j)=zc R a*el v+el w
 inj:∀v w:Vc,el v=el w->∀j,j<n->v j=w j
 sup:∀v w:Vc,(∀j,j<n->v j=w j)->el v=el w
def Of (el:Vc->R)(a:R):Prop:=∃c,a=el c
def un (i:Nat):Vc:=λj=>if j=i then 1 else 0
theorem AM {x:Vc}{j:Nat}:∀m,sm m x un j=if j<m then x j else 0
 | 0=>by rw[W6 (by omega)];rfl
 | m+1=>by
  show sm m x un j+x m*(if j=m then 1 else 0)=_
  rw[AM m];by_cases e:j=m
  ·subst e;rw[W6 (by omega),W7 rfl,W7 (by omega)];omega
  ·rw[W6 e]
   by_cases h:j<m
   ·rw[W7 h,W7 (by omega)];omega
   ·rw[W6 h,W6 (by omega)];omega
theorem vQ {n:Nat}{x:Vc}{t:Nat->Vc}{V:Nat->Vc}{k:Nat}:∀a,sm a x (λi k=>sm n (t i) V k) k=sm n (λm=>sm a x t m) V k
 | 0=>(gY (n:=n) (R:=V) (j:=k)).symm
 | a+1=>by
  show sm a x _ k+x a*sm n (t a) V k=sm n (λm=>sm a x t m+x a*t a m) V k
  rw[vQ a];have:=jc (n:=n) (x a) (d:=t a) (e:=λm=>sm a x t m) (R:=V) (j:=k)
  rw[show(λm=>sm a x t m+x a*t a m)=λm=>x a*t a m+sm a x t m from funext λm=>by omega,this]
  omega
theorem je {x x':Vc}{o o':Nat->R}:∀n,(∀i,i<n->x i=x' i)->(∀i,i<n->o i=o' i)->sR n x o=sR n x' o'
 | 0,_,_=>rfl
 | n+1,h,k=>by
  show sR n x o+zc R (x n)*o n=sR n x' o'+zc R (x' n)*o' n
  rw[je n (λi hi=>h i (by omega)) (λi hi=>k i (by omega)),h n (by omega),k n (by omega)]
theorem mP {x:Vc}{o:Nat->R}(b:R):∀n,b*sR n x o=sR n x λi=>b*o i
 | 0=>by show b*0=0;grind
 | n+1=>by
  show b*(sR n x o+zc R (x n)*o n)=sR n x (λi=>b*o i)+zc R (x n)*(b*o n)
  rw[<- mP b n];grind
theorem LK {O:R->Prop}(h:c8 O){p:R}{x:Vc}{o o':Nat->R}:∀n,(∀i,i<n->Cp O p (o i) (o' i))->(∀i,i<n->O (o i))->Cp O p (sR n x o) (sR n x o')
 | 0,_,_=>.refl h _
 | n+1,k,l=>(LK h n (λi hi=>k i (by omega)) λi hi=>l i (by omega)).add h (.mul h (h.zc _) (l n (by omega)) (.refl h _) (k n (by omega)))
theorem lZ.zero {O:R->Prop}(h:c8 O){p:R}{q:Nat}(hq:0<q):lZ O p q 0:=⟨h.zero,0,h.zero,by rw[uF hq];grind⟩
theorem Ht {O:R->Prop}(h:c8 O){p:Nat}(hp:p∈PR){d:Nat}{x:Vc}{o:Nat->R}:∀n,(∀i,i<n->lZ O (nt R p) (p ^ d) (o i))->lZ O (nt R p) (p ^ d) (sR n x o)
 | 0,_=>.zero h (Z5 (oX hp))
 | n+1,k=>(Ht h hp n λi hi=>k i (by omega)).add h hp ((k n (by omega)).mul h (h.zc _))
section
variable {n:Nat} {el:Vc->R}
theorem nK.zero (B:nK n el):el (λ_=>0)=0:=by
 have:=B.iR 1 (λ_=>0) λ_=>0
 rw[gi,show(λj:Nat=>(1:Int)*0+0)=λ_=>0 from rfl] at this
 grind
theorem nK.smul (B:nK n el)(a:Int)(v:Vc):el (λj=>a*v j)=zc R a*el v:=by
 have:=B.iR a v λ_=>0
 rw[B.zero,show(λj=>a*v j+0)=λj=>a*v j from funext λj=>by omega] at this
 rw[this];grind
theorem nK.sm (B:nK n el){d:Vc}{U:Nat->Vc}:∀k,el (λj=>sm k d U j)=sR k d λi=>el (U i)
 | 0=>B.zero
 | k+1=>by
  have:=B.iR (d k) (U k) λj=>Alg.sm k d U j
  rw[B.sm k] at this;rw[show(λj=>Alg.sm (k+1) d U j)=λj=>d k*U k j+Alg.sm k d U j from funext λj=>by show Alg.sm k d U j+d k*U k j=_;omega,this]
  show _=sR k d (λi=>el (U i))+zc R (d k)*el (U k)
  grind
theorem nK.un (B:nK n el)(x:Vc):el x=sR n x λi=>el (un i):=by
 rw[<- B.sm n];exact B.sup _ _ λj hj=>by rw[AM,W7 hj]
theorem nK.dvd (B:nK n el){a:Int}{y w:Vc}(h:el y=zc R a*el w):∀j,j<n->y j=a*w j:=by
 rw[<- B.smul] at h;exact B.inj _ _ h
variable {c:Nat->Nat->Vc}
theorem nK.B_ (B:nK n el)(hc:∀i j,i<n->j<n->el (Alg.un i)*el (Alg.un j)=el (c i j)){i:Nat}(hi:i<n)(y:Vc):el (Alg.un i)*el y=el λk=>Alg.sm n y (c i) k:=by
 rw[B.sm n,B.un y,mP];exact je n (λ_ _=>rfl) λj hj=>hc i j hi hj
theorem nK.mul (B:nK n el)(hc:∀i j,i<n->j<n->el (Alg.un i)*el (Alg.un j)=el (c i j))(x y:Vc):el x*el y=el λk=>Alg.sm n x (λi k=>Alg.sm n y (c i) k) k:=by
 rw[B.sm n,B.un x,show ∀a b:R,a*b=b*a from λa b=>by grind,mP]
 exact je n (λ_ _=>rfl) λi hi=>by rw[<- B.B_ hc hi y];grind
theorem nK.Hu (B:nK n el)(i:Nat):Of el (el (Alg.un i)):=⟨_,rfl⟩
theorem nK.power (B:nK n el)(h:c8 (Of el)){p:Nat}(hp:p∈PR){d:Nat}{told:Nat->Vc}(ht:∀i,i<n->Cp (Of el) (nt R p) (el (told i)) (el (Alg.un i) ^ (p ^ d)))(x:Vc):Cp (Of el) (nt R p) (el x ^ (p ^ d)) (el λj=>Alg.sm n x told j):=by
 rw[B.sm n,B.un x];refine(vP h hp (λi _=>B.Hu i) d).trans h ?_
 exact LK h n (λi hi=>(ht i hi).symm h) λi hi=>h.pow (B.Hu i) _
theorem nK.idl (B:nK n el)(h:c8 (Of el)){p:Nat}(hp:p∈PR){d:Nat}{told:Nat->Vc}(ht:∀i,i<n->Cp (Of el) (nt R p) (el (told i)) (el (Alg.un i) ^ (p ^ d)))(x:Vc):lZ (Of el) (nt R p) (p ^ d) (el x)↔∀j,j<n->(p:Int) ∣ Alg.sm n x told j:=by
 obtain⟨w,⟨w',rfl⟩,e⟩:=B.power h hp ht x;rw[<- cE] at e ⊢;constructor
 ·rintro⟨_,v,⟨v',rfl⟩,e1⟩ j hj
  have:el (λj=>Alg.sm n x told j)=zc R (p:Int)*el λj=>-1*w' j+v' j:=by
   rw[B.iR,mO,gi];rw[e1] at e;grind
  exact⟨_,B.dvd this j hj⟩
 ·intro hd
  have:∀j,∃z:Int,j<n->Alg.sm n x told j=(p:Int)*z:=λj=>by
   by_cases hj:j<n
   ·obtain⟨z,hz⟩:=hd j hj;exact⟨z,λ_=>hz⟩
   ·exact⟨0,λy=>Jd y hj⟩
  obtain⟨z,hz⟩:=Classical.axiomOfChoice this;have e2:el (λj=>Alg.sm n x told j)=zc R (p:Int)*el z:=by
   rw[<- B.smul];exact B.sup _ _ hz
  refine⟨⟨_,rfl⟩,el λj=>1*z j+w' j,⟨_,rfl⟩,?_⟩
  rw[e,e2,B.iR,gi];grind
theorem nK.mlt (B:nK n el)(h:c8 (Of el)){p:Nat}(hp:p∈PR){d:Nat}(hc:∀i j,i<n->j<n->el (Alg.un i)*el (Alg.un j)=el (c i j)){V:Nat->Vc}(hV:cU n V)
  (hI:∀x:Vc,(∀j,n<=j->x j=0)->(iZ n V x↔lZ (Of el) (nt R p) (p ^ d) (el x))) {t:Nat->Nat->Vc} (ht:∀i j,i<n->j<n->∀k,k<n->Alg.sm n (V j) (c i) k=Alg.sm n (t i j) V k)
  {ip:R} (Hv:nt R p*ip=1) (x:Vc):(∀j,j<n->∀m,m<n->(p:Int) ∣ Alg.sm n x (λi=>t i j) m)↔AL (Of el) (nt R p) (p ^ d) (ip*el x):=by
 have V0:∀a:Vc,∀k,n<=k->Alg.sm n a V k=0:=λa k hk=>jd (q:=0) λi hi=>hV.lX i hi k (by omega)
 have key:∀j,j<n->el x*el (V j)=el λk=>Alg.sm n (λm=>Alg.sm n x (λi=>t i j) m) V k:=λj hj=>by
  rw[B.un x,show ∀a b:R,a*b=b*a from λa b=>by grind,mP]
  have:(sR n x λi=>el (V j)*el (Alg.un i))=sR n x λi=>el λk=>Alg.sm n (t i j) V k:=je n (λ_ _=>rfl) λi hi=>by
   rw[show el (V j)*el (Alg.un i)=el (Alg.un i)*el (V j) by grind,B.B_ hc hi]
   exact B.sup _ _ λk hk=>ht i j hi hj k hk
  rw[this,<- B.sm n];exact B.sup _ _ λk _=>vQ n
 have PU:∀b,lZ (Of el) (nt R p) (p ^ d) b->∃a:Vc,b=el λk=>Alg.sm n a V k:=λb hb=>by
  obtain⟨y,rfl⟩:=hb.1;have e:el y=el λj=>if j<n then y j else 0:=B.sup _ _ λj hj=>by rw[W7 hj]
  rw[e] at hb;obtain⟨a,ha⟩:=(hI _ λj hj=>W6 (by omega)).mpr hb
  exact⟨a,by rw[e];exact B.sup _ _ λj _=>ha j⟩
 have XR:∀a:Vc,lZ (Of el) (nt R p) (p ^ d) (el λk=>Alg.sm n a V k):=λa=>(hI _ (V0 a)).mp ⟨a,λ_=>rfl⟩
 constructor
 ·intro hd
  refine⟨⟨x,by rw[show nt R p*(ip*el x)=nt R p*ip*el x by grind,Hv];grind⟩,λb hb=>?_⟩
  obtain⟨a,rfl⟩:=PU b hb;rw[B.sm n,mP];refine Ht h hp n λj hj=>?_
  have:∀m,∃z:Int,m<n->Alg.sm n x (λi=>t i j) m=(p:Int)*z:=λm=>by
   by_cases hm:m<n
   ·obtain⟨z,hz⟩:=hd j hj m hm;exact⟨z,λ_=>hz⟩
   ·exact⟨0,λy=>Jd y hm⟩
  obtain⟨z,hz⟩:=Classical.axiomOfChoice this;have e:el x*el (V j)=nt R p*el λk=>Alg.sm n z V k:=by
   rw[key j hj,<- cE,<- B.smul];refine B.sup _ _ λk _=>?_
   rw[cO (d':=λm=>(p:Int)*z m) (λi hi=>hz i hi) λi _=>rfl]
   have:=jc (n:=n) (p:Int) (d:=z) (e:=λ_=>0) (R:=V) (j:=k)
   rw[gY] at this;rw[show(λm=>(p:Int)*z m)=λm=>(p:Int)*z m+0 from funext λm=>by omega,this];omega
  rw[show ip*el x*el (V j)=ip*(el x*el (V j)) by grind,e,show ∀b:R,ip*(nt R p*b)=nt R p*ip*b from λb=>by grind,Hv,show ∀b:R,1*b=b from λb=>by grind]
  exact XR z
 ·intro hm j hj m hmn
  have XS:lZ (Of el) (nt R p) (p ^ d) (el (V j)):=(hI (V j) λk hk=>hV.lX j hj k (by omega)).mp (.row hj)
  obtain⟨a,ha⟩:=PU _ (hm.2 _ XS);have e:(el λk=>Alg.sm n (λm=>Alg.sm n x (λi=>t i j) m) V k)=zc R (p:Int)*el λk=>Alg.sm n a V k:=by
   rw[<- key j hj,cE,<- ha,show nt R p*(ip*el x*el (V j))=nt R p*ip*(el x*el (V j)) by grind,Hv];grind
  have e2:=B.dvd e;have e3:∀k,Alg.sm n (λm=>Alg.sm n x (λi=>t i j) m) V k=Alg.sm n (λm=>(p:Int)*a m) V k:=λk=>by
   have:=jc (n:=n) (p:Int) (d:=a) (e:=λ_=>0) (R:=V) (j:=k)
   rw[gY] at this;rw[show(λm=>(p:Int)*a m)=λm=>(p:Int)*a m+0 from funext λm=>by omega,this]
   by_cases hk:k<n
   ·rw[e2 k hk];omega
   ·rw[V0 _ k (by omega),V0 _ k (by omega)];omega
  exact⟨_,hV.uniq n (Yd n) e3 m hmn⟩
end
def g_ (n:Nat)(φ:Vc->R)(ip:R)(d:Nat)(T:Nat->Vc)(c:Vc):R:=ip ^ d*φ λj=>sm n c T j
section
variable {n:Nat} {φ:Vc->R} {ip:R} {p d:Nat} {T:Nat->Vc}
theorem jN (Hv:nt R p*ip=1):∀d:Nat,zc R ((p:Int) ^ d)*ip ^ d=1
 | 0=>by rw[Zd,gi,bO];grind
 | d+1=>by
  have:=jN Hv d
  rw[Y6,gG,cE,bH];grind
theorem nK.lX (B:nK n φ)(Hv:nt R p*ip=1)(hT:cU n T):nK n (g_ n φ ip d T) where
 iR a v w:=by
  show ip ^ d*(φ λj=>Alg.sm n (λj=>a*v j+w j) T j)=zc R a*(ip ^ d*φ _)+ip ^ d*φ _
  rw[show(λj=>Alg.sm n (λj=>a*v j+w j) T j)=λj=>a*Alg.sm n v T j+Alg.sm n w T j from funext λj=>jc a,B.iR];grind
 inj v w e:=by
  have e1:φ (λj=>Alg.sm n v T j)=φ λj=>Alg.sm n w T j:=by
   have e2:zc R ((p:Int) ^ d)*(ip ^ d*φ λj=>Alg.sm n v T j)=zc R ((p:Int) ^ d)*(ip ^ d*φ λj=>Alg.sm n w T j):=Jb _ e
   have:=jN Hv d
   grind
  have e3:=B.inj _ _ e1;refine hT.uniq n (Yd n) λj=>?_
  by_cases hj:j<n
  ·exact e3 j hj
  ·rw[jd (q:=0) λi hi=>hT.lX i hi j (by omega),jd (q:=0) λi hi=>hT.lX i hi j (by omega)]
 sup v w e:=by
  show ip ^ d*φ _=ip ^ d*φ _
  congr 2
  exact funext λj=>cO (λi hi=>e i hi) λi _=>rfl
structure kT (n p:Nat)(φ:Vc->R)(ip:R)(d:Nat)(T:Nat->Vc):Prop where
 st:cU n T
 sub:c8 (Of (g_ n φ ip d T))
 all:∀z,Of (g_ n φ ip d T) (φ z)
theorem kT.next (B:nK n φ)(hp:p∈PR)(Hv:nt R p*ip=1)(L:kT n p φ ip d T){k:Nat}{N:List Vc}{T':Nat->Vc}(Rx:cU n T')
  (hN:∀r∈N,AL (Of (g_ n φ ip d T)) (nt R p) (p ^ k) (ip*g_ n φ ip d T r)) (XT:∀x,AL (Of (g_ n φ ip d T)) (nt R p) (p ^ k) (ip*g_ n φ ip d T x)->∃v z:Vc,gB N v/\∀i,i<n->x i=v i+(p:Int)*z i)
  (hG:∀v,Gq ((Yk n).map (λi j=>(p:Int)*T i j)++N.map λr j=>sm n r T j) ((p:Int) ^ (d+1)) n v↔iZ n T' v):kT n p φ ip (d+1) T':=by
 have BT:=B.lX (d:=d) Hv L.st;have T0:∀a:Vc,∀k,n<=k->sm n a T k=0:=λa k hk=>jd (q:=0) λi hi=>L.st.lX i hi k (by omega)
 have sM:=AL.sub L.sub hp k;have oP:=L.sub.nt p;have key:∀a,Of (g_ n φ ip (d+1) T') a↔AL (Of (g_ n φ ip d T)) (nt R p) (p ^ k) a:=by
  intro a;constructor
  ·rintro⟨c,rfl⟩
   have hv:=(hG λj=>sm n c T' j).mpr ⟨c,λ_=>rfl⟩
   show AL _ _ _ (ip ^ (d+1)*φ λj=>sm n c T' j)
   generalize (λj=>sm n c T' j)=v at hv
   obtain⟨v0,u,z,hu,e⟩:=hv;have key:∀ {u:Vc},gB ((Yk n).map (λi j=>(p:Int)*T i j)++N.map λr j=>sm n r T j) u->AL (Of (g_ n φ ip d T)) (nt R p) (p ^ k) (ip ^ (d+1)*φ u):=by
    intro u hu;induction hu with
    | zero=>rw[B.zero,show ip ^ (d+1)*0=0 by grind];exact sM.zero
    | @add r v a hr _ ih=>
     have e1:ip ^ (d+1)*φ (λi=>a*r i+v i)=zc R a*(ip ^ (d+1)*φ r)+ip ^ (d+1)*φ v:=by rw[B.iR];grind
     rw[e1];refine sM.add (sM.mul (sM.zc a) ?_) ih
     rcases List.mem_append.mp hr with y|y
     ·obtain⟨i,hi,rfl⟩:=List.mem_map.mp y
      have hi:=List.mem_range.mp hi;have:ip ^ (d+1)*φ (λj=>(p:Int)*T i j)=g_ n φ ip d T (un i):=by
       show _=ip ^ d*φ _
       rw[B.smul,cE,bH,show(λj=>sm n (un i) T j)=T i from funext λj=>gZ hi];grind
      rw[this];exact .of L.sub oP ⟨_,rfl⟩
     ·obtain⟨s,hs,rfl⟩:=List.mem_map.mp y
      have:ip ^ (d+1)*φ (λj=>sm n s T j)=ip*g_ n φ ip d T s:=by
       show _=ip*(ip ^ d*φ _)
       rw[bH];grind
      rw[this];exact hN s hs
   have e1:ip ^ (d+1)*φ v=φ z+ip ^ (d+1)*φ u:=by
    have e2:φ v=zc R ((p:Int) ^ (d+1))*φ z+φ u:=by
     rw[<- B.iR];exact B.sup _ _ λj _=>by rw[e j];omega
    have:=jN Hv (d+1)
    rw[e2];grind
   rw[e1];exact sM.add (.of L.sub oP (L.all z)) (key hu)
  ·intro ha
   obtain⟨x,hx⟩:=ha.1;have ea:a=ip*g_ n φ ip d T x:=by rw[<- hx];grind
   rw[ea] at ha;obtain⟨v,z,hv,e⟩:=XT x ha;have e1:g_ n φ ip d T x=zc R (p:Int)*g_ n φ ip d T z+g_ n φ ip d T v:=by
    rw[<- BT.iR];exact BT.sup _ _ λj hj=>by rw[e j hj];omega
   have g1:Gq ((Yk n).map (λi j=>(p:Int)*T i j)++N.map λr j=>sm n r T j) ((p:Int) ^ (d+1)) n λj=>sm n v T j:=by
    clear e e1;induction hv with
    | zero=>exact Gq.zero.of λj=>gY.symm
    | @add r w a hr _ ih=>
     exact((Gq.mem (List.mem_append.mpr (.inr (List.mem_map.mpr ⟨r,hr,rfl⟩))) (T0 r)).iR a ih).of λj=>(jc a).symm
   have g2:Gq ((Yk n).map (λi j=>(p:Int)*T i j)++N.map λr j=>sm n r T j) ((p:Int) ^ (d+1)) n λj=>sm n z (λi j=>(p:Int)*T i j) j:=
    Gq.sm n λi hi=>Gq.mem (List.mem_append.mpr (.inl (List.mem_map.mpr ⟨i,List.mem_range.mpr hi,rfl⟩))) λj hj=>by show(p:Int)*T i j=0;rw[L.st.lX i hi j (by omega)];omega
   obtain⟨c,hc⟩:=(hG _).mp (g1.iR 1 g2);refine⟨c,?_⟩
   show a=ip ^ (d+1)*φ λj=>sm n c T' j
   have e3:(φ λj=>sm n c T' j)=zc R (p:Int)*(φ λj=>sm n z T j)+φ λj=>sm n v T j:=by
    rw[<- B.iR];refine B.sup _ _ λj _=>?_
    rw[<- hc j];have:sm n z (λi j=>(p:Int)*T i j) j=(p:Int)*sm n z T j:=by
     have:∀m,sm m z (λi j=>(p:Int)*T i j) j=(p:Int)*sm m z T j:=λm=>by
      induction m with
      | zero=>show(0:Int)=_*0;omega
      | succ m ih=>show sm m z _ j+z m*(_*T m j)=_*(sm m z T j+z m*T m j);rw[ih];grind
     exact this n
    show 1*sm n v T j+sm n z (λi j=>(p:Int)*T i j) j=_
    rw[this];omega
   rw[ea,e1,e3];show ip*(zc R (p:Int)*(ip ^ d*φ _)+ip ^ d*φ _)=_
   rw[bH];grind
 exact⟨Rx,⟨(key _).mpr sM.one,λa b=>(key _).mpr (sM.add ((key _).mp a) ((key _).mp b)),λa=>(key _).mpr (sM.neg ((key _).mp a)),λa b=>(key _).mpr (sM.mul ((key _).mp a) ((key _).mp b))⟩,λz=>(key _).mpr (.of L.sub oP (L.all z))⟩
end
end
end Alg
namespace L2
open Alg
theorem gk (g:Nat->Nat->Int)(m:Nat):∀n,bC n (λi=>bC m λj=>g i j)=bC m λj=>bC n λi=>g i j
 | 0=>(fF λ_ _=>rfl).symm
 | n+1=>by
  show bC n (λi=>bC m λj=>g i j)+bC m (λj=>g n j)=bC m λj=>bC n (λi=>g i j)+g n j
  rw[gk g m n,KG]
theorem mQ (a:Int)(f:Nat->Int)(n:Nat):bC n (λi=>f i*a)=bC n f*a:=by
 rw[Z1,<- c7];exact aH λi _=>Z1 _ _
theorem uH {g:Nat->Int}{m:Nat}:∀ {n},m<=n->(∀i,m<=i->i<n->g i=0)->bC n g=bC m g
 | 0,h,_=>by rw[show m=0 by omega]
 | n+1,h,k=>by
  by_cases c:m=n+1
  ·rw[c]
  ·show bC n g+g n=_
   rw[k n (by omega) (by omega),uH (n:=n) (by omega) λi hi hn=>k i hi (by omega)];omega
theorem gm (n:Nat)(d:Nat->Int)(R:Nat->Nat->Int)(j:Nat):sm n d R j=bC n λi=>d i*R i j:=by
 induction n with
 | zero=>rfl
 | succ n ih=>show sm n d R j+d n*R n j=_+_;rw[ih]
section
variable {f:Fn} {n:Nat}
theorem oY:∀k,k<n->tk f n k=xp k
 | 0,_=>rfl
 | k+1,hk=>by
  funext m
  show(if m=0 then 0 else tk f n k (m-1))-tk f n k (n-1)*f m=xp (k+1) m
  rw[oY k (by omega)]
  unfold xp;rw[W6 (show ¬ n-1=k by omega)]
  by_cases c:m=0
  ·rw[W7 c,W6 (by omega)];omega
  ·rw[W6 c]
   by_cases e:m=k+1
   ·rw[W7 e,W7 (by omega)];omega
   ·rw[W6 e,W6 (by omega)];omega
theorem Ca (hf:Top f n)(hn:1<=n):∀b j,bC n (λc=>f c*tk f n (c+b) j)+tk f n (n+b) j=0
 | 0,j=>by
  have e1:bC n (λc=>f c*tk f n (c+0) j)=if j<n then f j else 0:=by
   by_cases c:j<n
   ·rw[W7 c,zb (k:=j) c λi hi hne=>by rw[oY (i+0) (by omega)];unfold xp;rw[W6 (by omega)];omega]
    rw[oY (j+0) (by omega)];unfold xp;rw[W7 (by omega)];omega
   ·rw[W6 c]
    exact fF λi hi=>by rw[oY (i+0) (by omega)];unfold xp;rw[W6 (by omega)];omega
  rw[e1];by_cases c:j<n
  ·obtain⟨k,rfl⟩:∃k,n=k+1:=⟨n-1,by omega⟩
   rw[W7 c];show f j+((if j=0 then 0 else tk f (k+1) k (j-1))-tk f (k+1) k (k+1-1)*f j)=0
   rw[oY k (by omega)]
   unfold xp;rw[W7 (show k+1-1=k by omega)]
   by_cases z:j=0
   ·rw[W7 z];omega
   ·rw[W6 z,W6 (by omega)];omega
  ·rw[W6 c,vC hf hn _ _ (by omega)];omega
 | b+1,j=>by
  have h1:=Ca hf hn b (n-1);have e:bC n (λc=>f c*tk f n (c+(b+1)) j)+tk f n (n+(b+1)) j=(if j=0 then 0 else bC n (λc=>f c*tk f n (c+b) (j-1))+tk f n (n+b) (j-1))-(bC n (λc=>f c*tk f n (c+b) (n-1))+tk f n (n+b) (n-1))*f j:=by
   have e1:bC n (λc=>f c*tk f n (c+(b+1)) j)=(if j=0 then 0 else bC n (λc=>f c*tk f n (c+b) (j-1)))-bC n (λc=>f c*tk f n (c+b) (n-1))*f j:=by
    have:bC n (λc=>f c*tk f n (c+(b+1)) j)=bC n λc=>1*(if j=0 then 0 else f c*tk f n (c+b) (j-1))+(-f j)*(f c*tk f n (c+b) (n-1)):=aH λc _=>by
     show f c*((if j=0 then 0 else tk f n (c+b) (j-1))-tk f n (c+b) (n-1)*f j)=_
     by_cases z:j=0
     ·rw[W7 z,W7 z];grind
     ·rw[W6 z,W6 z];grind
    rw[this,uA];by_cases z:j=0
    ·simp only[W7 z];rw[fF λ_ _=>rfl];grind
    ·simp only[W6 z];grind
   rw[e1];show _+((if j=0 then 0 else tk f n (n+b) (j-1))-tk f n (n+b) (n-1)*f j)=_
   by_cases z:j=0
   ·rw[W7 z,W7 z,W7 z];grind
   ·rw[W6 z,W6 z,W6 z];grind
  rw[e,h1];by_cases z:j=0
  ·rw[W7 z];omega
  ·rw[W6 z,Ca hf hn b (j-1)];omega
theorem Cb (hf:Top f n)(hn:1<=n):∀l b j,bC n (λc=>tk f n l c*tk f n (c+b) j)=tk f n (l+b) j
 | 0,b,j=>by
  rw[zb (k:=0) (by omega) λi hi hne=>by show xp 0 i*_=0;unfold xp;rw[W6 (by omega)];omega]
  show xp 0 0*tk f n (0+b) j=_
  unfold xp;rw[W7 rfl];omega
 | l+1,b,j=>by
  have ih:=Cb hf hn l (b+1) j;have rl:=Ca hf hn b j;have e:bC n (λc=>tk f n (l+1) c*tk f n (c+b) j)=bC n (λc=>(if c=0 then 0 else tk f n l (c-1))*tk f n (c+b) j)-tk f n l (n-1)*bC n (λc=>f c*tk f n (c+b) j):=by
   have:=uA 1 (-tk f n l (n-1)) (λc=>(if c=0 then 0 else tk f n l (c-1))*tk f n (c+b) j) (λc=>f c*tk f n (c+b) j) n
   rw[show ∀x y z:Int,x-y*z=1*x+-y*z from λx y z=>by grind,<- this]
   exact aH λc _=>by
    show((if c=0 then 0 else tk f n l (c-1))-tk f n l (n-1)*f c)*_=_
    grind
  obtain⟨k,rfl⟩:∃k,n=k+1:=⟨n-1,by omega⟩
  rw[e,nv];rw[show l+1+b=l+(b+1) by omega,<- ih]
  show(if (0:Nat)=0 then 0 else _)*_+bC k (λi=>(if i+1=0 then 0 else tk f (k+1) l (i+1-1))*tk f (k+1) (i+1+b) j)-tk f (k+1) l (k+1-1)*_=bC k (λc=>tk f (k+1) l c*tk f (k+1) (c+(b+1)) j)+tk f (k+1) l k*tk f (k+1) (k+(b+1)) j
  rw[W7 rfl,show bC k (λi=>(if i+1=0 then 0 else tk f (k+1) l (i+1-1))*tk f (k+1) (i+1+b) j)=bC k λc=>tk f (k+1) l c*tk f (k+1) (c+(b+1)) j from aH λi _=>by
   rw[W6 (by omega),show i+1+b=i+(b+1) by omega,show i+1-1=i by omega]]
  rw[show k+1+b=k+(b+1) by omega] at rl
  rw[show k+1-1=k by omega]
  grind
theorem ze (hf:Top f n):∀e i l,i+e+1=n->tk f n l i=bC (e+1) λc=>f (c+i+1)*tk f n (l+c) (n-1)
 | 0,i,l,h=>by
  show _=0+f (0+i+1)*tk f n (l+0) (n-1)
  rw[show 0+i+1=n by omega,hf.one,show n-1=i by omega,show l+0=l by omega];omega
 | e+1,i,l,h=>by
  have ih:=ze hf e (i+1) (l+1) (by omega)
  rw[nv];have h1:tk f n (l+1) (i+1)=(if i+1=0 then 0 else tk f n l (i+1-1))-tk f n l (n-1)*f (i+1):=rfl
  rw[W6 (by omega),show i+1-1=i by omega,ih] at h1
  have h2:bC (e+1) (λc=>f (c+(i+1)+1)*tk f n (l+1+c) (n-1))=bC (e+1) λc=>f (c+1+i+1)*tk f n (l+(c+1)) (n-1):=aH λc _=>by
   rw[show c+(i+1)+1=c+1+i+1 by omega,show l+1+c=l+(c+1) by omega]
  rw[h2] at h1;show _=f (0+i+1)*tk f n (l+0) (n-1)+_
  rw[show 0+i+1=i+1 by omega,show l+0=l by omega]
  grind
def t1 (f:Fn)(n k:Nat):Int:=bC n λi=>tk f n (k+i) i
theorem PV (hf:Top f n)(hn:1<=n)(k:Nat):t1 f n k=bC n λm=>((m+1:Nat):Int)*f (m+1)*tk f n (m+k) (n-1):=by
 obtain⟨q,rfl⟩:∃q,n=q+1:=⟨n-1,by omega⟩
 have e1:t1 f (q+1) k=bN (q+1) λi=>bN (q-i+1) λj=>f (i+j+1)*tk f (q+1) (k+(i+j)) q:=by
  unfold t1;rw[eo];refine bX λi hi=>?_
  rw[ze hf (q-i) i (k+i) (by omega),eo]
  refine bX λj hj=>?_
  rw[show j+i+1=i+j+1 by omega,show k+i+j=k+(i+j) by omega,show q+1-1=q by omega]
 rw[e1,<- vp λi k'=>f (k'+1)*tk f (q+1) (k+k') q,eo]
 refine bX λm hm=>?_
 have e2:∀(x:Int) (c:Nat),bN c (λ_=>x)=(c:Int)*x:=λx c=>by
  induction c with
  | zero=>show(0:Int)=0*x;omega
  | succ c ih=>
   show bN c (λ_=>x)+x=_
   rw[ih,show((c+1:Nat):Int)=(c:Int)+1 by omega];grind
 rw[e2,show k+m=m+k by omega,show q+1-1=q by omega];grind
def U8 (f:Fn)(n:Nat):Mx:=λa b=>t1 f n (a+b)
def lam (f:Fn)(n:Nat):Mx:=λc b=>tk f n (c+b) (n-1)
theorem KI (hf:Top f n)(hn:1<=n):∃w,w*det n (lam f n)=1:=by
 refine⟨det n λi c=>f (c+i+1),?_⟩
 rw[<- uD,<- KD n];refine cT λi b hi hb=>?_
 have e:tk f n b i=bC n λc=>f (c+i+1)*tk f n (b+c) (n-1):=by
  rw[ze hf (n-1-i) i b (by omega)]
  exact(uH (m:=n-1-i+1) (by omega) λj hj _=>by
   show f (j+i+1)*_=0
   rw[hf.top _ (by omega)];omega).symm
 show bC n (λk=>f (k+i+1)*tk f n (k+b) (n-1))=yg i b
 rw[aH (g:=λc=>f (c+i+1)*tk f n (b+c) (n-1)) λc _=>by rw[Nat.add_comm c b],<- e,oY b hb]
 unfold xp yg;by_cases c:i=b
 ·rw[W7 c,W7 c.symm]
 ·rw[W6 c,W6 λz=>c z.symm]
theorem KJ (hf:Top f n)(hn:1<=n){g:Fn}(hg:∀m,m<n->g m=((m+1:Nat):Int)*f (m+1)):det n (U8 f n)=(det n λa c=>bC n λk=>g k*tk f n (k+a) c)*det n (lam f n):=by
 rw[<- uD];refine cT λa b ha hb=>?_
 show t1 f n (a+b)=bC n λc=>(bC n λk=>g k*tk f n (k+a) c)*tk f n (c+b) (n-1)
 rw[PV hf hn];have:(bC n λc=>(bC n λk=>g k*tk f n (k+a) c)*tk f n (c+b) (n-1))=bC n λc=>bC n λk=>g k*(tk f n (k+a) c*tk f n (c+b) (n-1)):=aH λc _=>by
  rw[<- mQ];exact aH λk _=>by grind
 rw[this,gk];refine aH λm hm=>?_
 rw[c7,Cb hf hn,hg m hm,show m+a+b=m+(a+b) by omega]
def wQ (n:Nat)(A:Mx):Int:=bC n λi=>A i i
theorem Hw (n:Nat)(A B:Mx):wQ n (lU n A B)=wQ n (lU n B A):=by
 show bC n (λi=>bC n λk=>A i k*B k i)=bC n λi=>bC n λk=>B i k*A k i
 rw[gk];exact aH λi _=>aH λk _=>Z1 _ _
theorem su (n:Nat)(A B C:Mx)(i k:Nat):lU n (lU n A B) C i k=lU n A (lU n B C) i k:=by
 show bC n (λm=>(bC n λl=>A i l*B l m)*C m k)=bC n λl=>A i l*bC n λm=>B l m*C m k
 have e1:bC n (λm=>(bC n λl=>A i l*B l m)*C m k)=bC n λm=>bC n λl=>A i l*(B l m*C m k):=aH λm _=>by
  rw[<- mQ];exact aH λl _=>by grind
 rw[e1,gk];exact aH λl _=>by rw[c7]
theorem yh {n:Nat}{A A' B B':Mx}{i k:Nat}(h1:∀l,l<n->A i l=A' i l)(h2:∀l,l<n->B l k=B' l k):lU n A B i k=lU n A' B' i k:=aH λl hl=>by rw[h1 l hl,h2 l hl]
theorem Hx {n:Nat}{A C T S:Mx}{P:Int}(hP:P≠0)(h1:∀i k,i<n->k<n->lU n T A i k=P*lU n C T i k)(h2:∀i k,i<n->k<n->lU n S T i k=P*yg i k)(h3:∀i k,i<n->k<n->lU n T S i k=P*yg i k):wQ n A=P*wQ n C:=by
 have e1:P*wQ n A=wQ n (lU n A (lU n S T)):=by
  unfold wQ;rw[<- c7];refine aH λi hi=>?_
  rw[yh (A':=A) (B':=λl k=>P*yg l k) (λ_ _=>rfl) λl hl=>h2 l i hl hi]
  show _=bC n λk=>A i k*(P*yg k i)
  rw[aH (g:=λk=>P*(A i k*yg k i)) λk _=>by grind,c7,AJ hi]
 have e2:wQ n (lU n A (lU n S T))=wQ n (lU n (lU n T A) S):=by
  rw[show wQ n (lU n A (lU n S T))=wQ n (lU n (lU n A S) T) from aH λi _=>(su n A S T i i).symm,Hw]
  exact aH λi _=>(su n T A S i i).symm
 have e3:wQ n (lU n (lU n T A) S)=P*(P*wQ n C):=by
  have:wQ n (lU n (lU n T A) S)=P*wQ n (lU n (lU n C T) S):=by
   unfold wQ;rw[<- c7];refine aH λi hi=>?_
   show bC n (λl=>lU n T A i l*S l i)=P*bC n λl=>lU n C T i l*S l i
   rw[<- c7];exact aH λl hl=>by rw[h1 i l hi hl];grind
  rw[this];congr 1
  unfold wQ;rw[<- c7];refine aH λi hi=>?_
  rw[su,yh (A':=C) (B':=λl k=>P*yg l k) (λ_ _=>rfl) λl hl=>h3 l i hl hi]
  show(bC n λk=>C i k*(P*yg k i))=_
  rw[aH (g:=λk=>P*(C i k*yg k i)) λk _=>by grind,c7,AJ hi]
 rw[e2,e3] at e1;exact Zy hP e1
end
end L2
namespace L2
open Alg Lean.Grind
structure Xr (f:Fn)(n p:Nat){R:Type}[CommRing R](φ:Vc->R)(ip:R):Prop where
 t_:nK n φ
 inv:nt R p*ip=1
 one:φ (un 0)=1
 mul:∀a b,a<n->b<n->φ (un a)*φ (un b)=φ (tk f n (a+b))
section
variable {R:Type} [CommRing R] {f:Fn} {n p d:Nat} {φ:Vc->R} {ip:R} {T:Nat->Vc}
theorem AN:cU n un:=⟨λi _ j hj=>W6 (by omega),λi _=>by show(if i=i then (1:Int) else 0)≠0;rw[W7 rfl];decide⟩
theorem Xr.start (X:Xr f n p φ ip):kT n p φ ip 0 un:=by
 have e:∀c,g_ n φ ip 0 un c=φ c:=λc=>by
  show ip ^ 0*φ _=_
  rw[bO,X.t_.sup (λj=>sm n c un j) c λj hj=>by rw[AM,W7 hj]];grind
 have B:=X.t_;refine⟨AN,⟨⟨un 0,by rw[e,X.one]⟩,?_,?_,?_⟩,λz=>⟨z,(e z).symm⟩⟩
 ·rintro a b ⟨x,rfl⟩ ⟨y,rfl⟩
  exact⟨λj=>1*x j+y j,by rw[e,e,e,B.iR,gi];grind⟩
 ·rintro a ⟨x,rfl⟩
  exact⟨λj=>-1*x j,by rw[e,e,B.smul,mO,gi];grind⟩
 ·rintro a b ⟨x,rfl⟩ ⟨y,rfl⟩
  rw[e,e,B.mul (c:=λa b=>tk f n (a+b)) X.mul]
  exact⟨_,(e _).symm⟩
theorem PX (hf:Top f n)(hn:1<=n)(l:Nat):bC n (λk=>tk f n l k*t1 f n k)=t1 f n l:=by
 unfold t1;rw[show bC n (λk=>tk f n l k*bC n λi=>tk f n (k+i) i)=bC n λk=>bC n λi=>tk f n l k*tk f n (k+i) i from aH λk _=>(c7 _ _ _).symm,gk]
 exact aH λi _=>Cb hf hn l i i
theorem kT.SY (X:Xr f n p φ ip)(hf:Top f n)(hn:1<=n)(p0:p≠0)(L:kT n p φ ip d T){g:Fn}(hg:∀m,m<n->g m=((m+1:Nat):Int)*f (m+1)):
  ∃w:Int,(Bv n λi=>T i i)*(Bv n λi=>T i i)*(det n λa c=>bC n λk=>g k*tk f n (k+a) c)=((p:Int) ^ d*(p:Int) ^ d) ^ n*w:=by
 have B:=X.t_;have BT:=B.lX (d:=d) X.inv L.st;generalize hP:(p:Int) ^ d=P;have P0:P≠0:=by rw[<- hP];exact Int.pow_ne_zero (by omega)
 have PY:zc R P*ip ^ d=1:=by rw[<- hP];exact jN X.inv d
 have hel:∀y,(φ λj=>sm n y T j)=zc R P*g_ n φ ip d T y:=λy=>by
  show _=zc R P*(ip ^ d*φ _)
  grind
 have hT:∀i,i<n->φ (T i)=zc R P*g_ n φ ip d T (un i):=λi hi=>by
  rw[<- hel];exact B.sup _ _ λj _=>(gZ hi).symm
 have T0:∀a:Vc,∀k,n<=k->sm n a T k=0:=λa k hk=>jd (q:=0) λi hi=>L.st.lX i hi k (by omega)
 have hc0:∀i,∃ci:Nat->Vc,∀j,g_ n φ ip d T (un i)*g_ n φ ip d T (un j)=g_ n φ ip d T (ci j):=λi=>Classical.axiomOfChoice λj=>L.sub.mul ⟨_,rfl⟩ ⟨_,rfl⟩
 obtain⟨c,hc⟩:=Classical.axiomOfChoice hc0;obtain⟨S,hS⟩:=Classical.axiomOfChoice λi=>L.all (un i)
 have hA:∀v i,i<n->φ v*φ (un i)=φ λk=>sm n v (λa=>tk f n (a+i)) k:=λv i hi=>by
  rw[B.mul (c:=λa b=>tk f n (a+b)) X.mul]
  refine B.sup _ _ λk _=>cO (λ_ _=>rfl) λa _=>gZ hi
 have hC:∀y i,i<n->g_ n φ ip d T y*g_ n φ ip d T (un i)=g_ n φ ip d T λk=>sm n y (λj=>c j i) k:=λy i hi=>by
  rw[BT.mul (c:=c) λi j _ _=>hc i j]
  refine BT.sup _ _ λk _=>cO (λ_ _=>rfl) λa _=>gZ hi
 have hS':∀i k,i<n->k<n->sm n (S i) T k=P*un i k:=λi k hi hk=>by
  have:(φ λj=>sm n (S i) T j)=φ λk=>P*un i k:=by rw[hel,<- hS i,B.smul]
  exact B.inj _ _ this k hk
 have XU:∀(x:Vc) (k:Nat),k<n->sm n x (λj k=>P*un j k) k=P*x k:=λx k hk=>by
  rw[gm,aH (g:=λi=>P*(x i*un i k)) λi _=>by grind,c7,<- gm n x un k,AM,W7 hk]
 have h3:∀i k,i<n->k<n->sm n (T i) S k=P*un i k:=λi k hi hk=>by
  refine L.st.uniq n (Yd n) (c:=λm=>sm n (T i) S m) (c':=λm=>P*un i m) (λj=>?_) k hk
  by_cases hj:j<n
  ·rw[<- vQ,cO (R':=λj k=>P*un j k) (λ_ _=>rfl) λl hl=>hS' l j hl hj,XU _ _ hj]
   have:=jc (n:=n) P (d:=un i) (e:=λ_=>0) (R:=T) (j:=j)
   rw[gY] at this;rw[show(λm=>P*un i m)=λm=>P*un i m+0 from funext λm=>by omega,this,show sm n (un i) T j=T i j from gZ hi];omega
  ·rw[T0 _ j (by omega),T0 _ j (by omega)]
 have htr:∀y,bC n (λk=>sm n y T k*t1 f n k)=P*wQ n λi k=>sm n y (λj=>c j i) k:=λy=>by
  rw[<- Hx (A:=λi k=>sm n (λj=>sm n y T j) (λa=>tk f n (a+i)) k) (T:=T) (S:=S) P0 (λi k hi hk=>?_) (λi k hi hk=>?_) λi k hi hk=>?_]
  ·unfold wQ t1
   rw[show bC n (λk=>sm n y T k*bC n λi=>tk f n (k+i) i)=bC n λk=>bC n λi=>sm n y T k*tk f n (k+i) i from aH λk _=>(c7 _ _ _).symm,gk]
   exact aH λi _=>(gm _ _ _ _).symm
  ·show bC n (λl=>T i l*sm n (λj=>sm n y T j) (λa=>tk f n (a+l)) k)=P*bC n λl=>sm n y (λj=>c j i) l*T l k
   rw[<- gm n (T i) (λl k=>sm n (λj=>sm n y T j) (λa=>tk f n (a+l)) k) k,<- gm n (λl=>sm n y (λj=>c j i) l) T k]
   have e:(φ λk=>sm n (T i) (λl k=>sm n (λj=>sm n y T j) (λa=>tk f n (a+l)) k) k)=φ λk=>P*sm n (λl=>sm n y (λj=>c j i) l) T k:=by
    rw[B.sm n,je n (λ_ _=>rfl) λl hl=>(hA (λj=>sm n y T j) l hl).symm,<- mP,<- B.un (T i),B.smul,hel,hT i hi,hel,<- hC y i hi]
    grind
   exact B.inj _ _ e k hk
  ·show bC n (λl=>S i l*T l k)=P*yg i k
   rw[<- gm n (S i) T k];exact hS' i k hi hk
  ·show bC n (λl=>T i l*S l k)=P*yg i k
   rw[<- gm n (T i) S k];exact h3 i k hi hk
 obtain⟨w,hw⟩:=KI hf hn;have AO:det n (lU n (lU n T (U8 f n)) λa b=>T b a)=(P*P) ^ n*det n λi j=>wQ n λm k=>sm n (c i j) (λj=>c j m) k:=by
  rw[<- nE];refine cT λi j hi hj=>?_
  have e1:∀k,k<n->sm n (T i) (λa k=>sm n (T j) (λb=>tk f n (a+b)) k) k=P*sm n (c i j) T k:=by
   have:(φ λk=>sm n (T i) (λa k=>sm n (T j) (λb=>tk f n (a+b)) k) k)=φ λk=>P*sm n (c i j) T k:=by
    rw[<- B.mul (c:=λa b=>tk f n (a+b)) X.mul,B.smul,hel,hT i hi,hT j hj,<- hc i j];grind
   exact B.inj _ _ this
  have e2:bC n (λk=>sm n (T i) (λa k=>sm n (T j) (λb=>tk f n (a+b)) k) k*t1 f n k)=P*P*wQ n λm k=>sm n (c i j) (λj=>c j m) k:=by
   rw[aH (g:=λk=>P*(sm n (c i j) T k*t1 f n k)) λk hk=>by rw[e1 k hk];grind,c7,htr];grind
  rw[<- e2];show bC n (λb=>(bC n λa=>T i a*t1 f n (a+b))*T j b)=_
  have e3:∀k,sm n (T i) (λa k=>sm n (T j) (λb=>tk f n (a+b)) k) k*t1 f n k=bC n λa=>bC n λb=>T i a*T j b*(tk f n (a+b) k*t1 f n k):=λk=>by
   rw[gm,<- mQ];refine aH λa _=>?_
   rw[gm,<- c7,<- mQ];exact aH λb _=>by grind
  rw[aH λk _=>e3 k,gk]
  have e4:bC n (λa=>bC n λk=>bC n λb=>T i a*T j b*(tk f n (a+b) k*t1 f n k))=bC n λa=>bC n λb=>T i a*T j b*t1 f n (a+b):=aH λa _=>by
   rw[gk];exact aH λb _=>by rw[c7,PX hf hn]
  rw[e4,gk];refine aH λb _=>?_
  rw[<- mQ];exact aH λa _=>by grind
 rw[uD,uD,DM n T λi j hij hj=>L.st.lX i (by omega) j hij,yS n (λa b=>T b a) λi j hij hi=>L.st.lX j (by omega) i hij,KJ hf hn hg] at AO
 generalize (det n λi j=>wQ n λm k=>sm n (c i j) (λj=>c j m) k)=E at AO
 generalize det n (lam f n)=Λ at hw AO;generalize (det n λa c=>bC n λk=>g k*tk f n (k+a) c)=D at AO
 refine⟨w*E,?_⟩
 generalize (Bv n λi=>T i i)=Z at AO
 generalize (P*P) ^ n=Y at AO;grind
def tot:Nat->(Nat->Nat)->Nat
 | 0,_=>0
 | n+1,s=>tot n s+s n
theorem Hy {s s':Nat->Nat}:∀n,(∀i,i<n->s' i<=s i+1)->tot n s'<=tot n s+n/\(tot n s'=tot n s+n->∀i,i<n->s' i=s i+1)
 | 0,_=>⟨Yd 0,λ_ i hi=>by omega⟩
 | n+1,h=>by
  obtain⟨a,b⟩:=Hy n λi hi=>h i (by omega)
  have hn:=h n (by omega)
  refine⟨by show tot n s'+s' n<=tot n s+s n+(n+1);omega,λe i hi=>?_⟩
  have e:tot n s'+s' n=tot n s+s n+(n+1):=e;by_cases c:i=n
  ·subst c;omega
  ·exact b (by omega) i (by omega)
theorem DW {T:Nat->Vc}{s:Nat->Nat}:∀n,(∀i,i<n->T i i=(p:Int) ^ s i)->Bv n (λi=>T i i)=(p:Int) ^ tot n s
 | 0,_=>rfl
 | n+1,h=>by
  show Bv n (λi=>T i i)*T n n=(p:Int) ^ (tot n s+s n)
  rw[DW n λi hi=>h i (by omega),h n (by omega),Wg]
theorem vR {a b:Nat}(hp:2<=p)(h:(p:Int) ^ a ∣ (p:Int) ^ b):a<=b:=by
 rw[<- Wt,<- Wt,Int.natCast_dvd_natCast] at h;exact(Nat.pow_dvd_pow_iff_le_right (by omega)).mp h
theorem cU.grow {T':Nat->Vc}(hp:2<=p)(hT:cU n T)(Rx:cU n T'){s s':Nat->Nat}(es:∀i,i<n->T i i=(p:Int) ^ s i)(es':∀i,i<n->T' i i=(p:Int) ^ s' i)
  (sub:∀i,i<n->iZ n T' λj=>(p:Int)*T i j) {r:Vc} (hr:iZ n T' λj=>sm n r T j) {k:Nat} (hk:k<n) (nd:¬ (p:Int) ∣ r k):tot n s'<tot n s+n:=by
 have hU:cU n λi j=>(p:Int)*T i j:=⟨λi hi j hj=>by show(p:Int)*T i j=0;rw[hT.lX i hi j hj];omega,λi hi z=>by
  rcases Int.mul_eq_zero.mp z with y|y
  ·omega
  ·exact hT.nz i hi y⟩
 have hle:∀i,i<n->s' i<=s i+1:=λi hi=>by
  have:=Rx.dvd hU sub hi
  rw[es' i hi,show(p:Int)*T i i=(p:Int) ^ (s i+1) by rw[es i hi,Y6,Z1]] at this
  exact vR hp this
 obtain⟨a,b⟩:=Hy n hle;rcases Nat.lt_or_eq_of_le a with y|y
 ·exact y
 ·exfalso
  have hs:=Rx.same hU sub λi hi=>by
   show(p:Int)*T i i=T' i i
   rw[es i hi,es' i hi,b y i hi,Y6,Z1]
  obtain⟨cr,er⟩:=hr;obtain⟨w,hw⟩:=iZ.sm (c:=cr) (U:=T') n hs;have e:∀j,sm n r T j=sm n (λm=>(p:Int)*w m) T j:=λj=>by
   have e1:sm n r T j=sm n cr T' j:=er j;have e2:sm n cr T' j=sm n w (λi j=>(p:Int)*T i j) j:=hw j
   rw[e1,e2];exact AI λi _=>by grind
  exact nd ⟨_,hT.uniq n (Yd n) e k hk⟩
theorem kT.le (X:Xr f n p φ ip)(hf:Top f n)(hn:1<=n)(hp:2<=p)(L:kT n p φ ip d T){g:Fn}(hg:∀m,m<n->g m=((m+1:Nat):Int)*f (m+1)){s:Nat->Nat}(es:∀i,i<n->T i i=(p:Int) ^ s i)
  {z:Nat} {u:Int} (hD:(det n λa c=>bC n λk=>g k*tk f n (k+a) c)=(p:Int) ^ z*u) (hu:¬ (p:Int) ∣ u):2*(d*n)<=2*tot n s+z:=by
 obtain⟨w,e⟩:=kT.SY X hf hn (by omega) L hg
 rw[DW n es,hD] at e;by_cases c:2*(d*n)<=2*tot n s+z
 ·exact c
 exfalso
 obtain⟨k,hk⟩:∃k,2*(d*n)=2*tot n s+z+(k+1):=⟨2*(d*n)-(2*tot n s+z)-1,by omega⟩
 have e1:((p:Int) ^ d*(p:Int) ^ d) ^ n=(p:Int) ^ (2*tot n s+z)*((p:Int)*(p:Int) ^ k):=by
  rw[<- Wg,<- Int.pow_mul,show(d+d)*n=2*(d*n) by rw[Wa];omega,hk,Wg,Y6,Z1 ((p:Int) ^ k)]
 have e2:(p:Int) ^ tot n s*(p:Int) ^ tot n s*((p:Int) ^ z*u)=(p:Int) ^ (2*tot n s+z)*u:=by
  rw[Wg,show 2*tot n s=tot n s+tot n s by omega,Wg];grind
 rw[e1,e2,Wr] at e;have:=Zy (Int.pow_ne_zero (by omega)) e
 exact hu ⟨(p:Int) ^ k*w,by rw[this];grind⟩
end
section
variable {α:Type} [CommRing α]
theorem Hz {M:Md α}{a:cS α}(h:Dg a M.n):Alg.rest M a=a:=rest_eq h (Cg.refl _ _)
theorem Nr {M:Md α}:∀k:Nat,(nt (Qt M) k).s=cst (nt α k)
 | 0=>GY.symm
 | k+1=>by
  show(nt (Qt M) k).s+1=cst (nt α k+1)
  rw[Nr k,Km];rfl
theorem PZ {M:Md α}(k:Int):(zc (Qt M) k).s=cst (zc α k):=by
 rcases Int.le_total 0 k with y|y
 ·obtain⟨n,rfl⟩:=Zi y
  rw[cE,cE,Nr]
 ·obtain⟨n,e⟩:=Zi (show 0<=-k by omega)
  rw[show k=-(n:Int) by omega,mO,mO,cE,cE,Pu,Nr]
  apply cS.ext
  funext i
  show -(cst (nt α n)).c i=if i=0 then -nt α n else 0
  show -(if i=0 then nt α n else 0)=_
  by_cases c:i=0
  ·rw[W7 c,W7 c]
  ·rw[W6 c,W6 c];grind
end
theorem HA (k:Int):zc Rat k=(k:Rat):=rfl
section
variable {f:Fn} {n p:Nat}
def Sv (v:Vc):cS Rat:=⟨λi=>(v i:Rat)⟩
theorem HB {v:Vc}{n:Nat}(h:∀j,n<=j->v j=0):Dg (Sv v) n:=λi hi=>by show((v i:Int):Rat)=0;rw[h i hi];rfl
def Mf (hf:Top f n)(hn:1<=n):Md Rat:=⟨Sv f,n,⟨by show((f n:Int):Rat)=1;rw[hf.one];rfl,HB λj hj=>hf.top j (by omega)⟩,hn⟩
def eL (n:Nat)(v:Vc):Vc:=λj=>if j<n then v j else 0
def Nt (hf:Top f n)(hn:1<=n)(v:Vc):Qt (Mf hf hn):=⟨Sv (eL n v),HB λj (hj:n<=j)=>W6 (by omega)⟩
theorem LL (hf:Top f n)(hn:1<=n):∀k,Cg (Sv f) (mon 1 k) (Sv (tk f n k))
 | 0=>by
  have:Sv (tk f n 0)=mon 1 0:=by
   apply cS.ext;funext i
   show((xp 0 i:Int):Rat)=if i=0 then 1 else 0
   unfold xp;by_cases c:i=0
   ·rw[W7 c,W7 c];rfl
   ·rw[W6 c,W6 c];rfl
  rw[this];exact Cg.refl _ _
 | k+1=>by
  have e1:(mon 1 (k+1):cS Rat)=X*mon 1 k:=by
   apply cS.ext;funext i
   show _=(mon 1 1*mon 1 k:cS Rat).c i
   rw[qQ];show(if i=k+1 then (1:Rat) else 0)=if 1<=i then 1*(if i-1=k then (1:Rat) else 0) else 0
   by_cases c:1<=i
   ·rw[W7 c]
    by_cases d:i=k+1
    ·rw[W7 d,W7 (by omega)];grind
    ·rw[W6 d,W6 (by omega)];grind
   ·rw[W6 c,W6 (by omega)]
  rw[e1];have px:rZ (Sv (tk f n k)):=⟨n,HB λj hj=>vC hf hn k j hj⟩
  refine(Cg.mul rZ.X (⟨_,Dg.mon 1 k⟩) (Cg.refl _ _) (LL hf hn k)).trans ⟨cst ((tk f n k (n-1):Int):Rat),rZ.cst _,?_⟩
  apply cS.ext;funext i
  rw[GV,nG];show(mon 1 1*Sv (tk f n k):cS Rat).c i-(((if i=0 then 0 else tk f n k (i-1))-tk f n k (n-1)*f i:Int):Rat)=((tk f n k (n-1):Int):Rat)*((f i:Int):Rat)
  rw[qQ,Rat.intCast_sub,Rat.intCast_mul];by_cases c:1<=i
  ·rw[W7 c,W6 (by omega)]
   show(1:Rat)*((tk f n k (i-1):Int):Rat)-_=_
   grind
  ·rw[W6 c,W7 (by omega)]
   show(0:Rat)-((0:Rat)-_)=_
   grind
theorem P1 (hf:Top f n)(hn:1<=n)(hp:1<=p):∃ip,Xr f n p (Nt hf hn) ip:=by
 have Mn:(Mf hf hn).n=n:=rfl;have d1:∀x:Rat,Dg (cst x) (Mf hf hn).n:=λx=>(Dg.cst x).mono (by rw[Mn];exact hn)
 have Oe:∀(x:Rat) (a b:Qt (Mf hf hn)),a.s=cst x->∀i,(a*b).s.c i=x*b.s.c i:=λx a b h i=>by
  rw[LD,h,Hz,nG];exact λj hj=>by rw[nG,b.lt j hj];grind
 have hp0:((p:Int):Rat)≠0:=λz=>by
  have:((p:Int):Rat)=((0:Int):Rat):=z
  have:=Rat.intCast_inj.mp this
  omega
 refine⟨⟨cst ((p:Int):Rat)⁻¹,d1 _⟩,⟨λa v w=>?_,λv w e j hj=>?_,λv w e=>?_⟩,?_,?_,λa b ha hb=>?_⟩
 ·apply Qt.ext;apply cS.ext;funext i
  rw[Pr,LC,Oe _ _ _ (PZ a),HA];show(((if i<n then a*v i+w i else 0:Int)):Rat)=(a:Rat)*(((if i<n then v i else 0:Int)):Rat)+(((if i<n then w i else 0:Int)):Rat)
  by_cases c:i<n
  ·rw[W7 c,W7 c,W7 c,Rat.intCast_add,Rat.intCast_mul]
  ·rw[W6 c,W6 c,W6 c]
   show(0:Rat)=(a:Rat)*0+0
   grind
 ·have h:(Nt hf hn v).s.c j=(Nt hf hn w).s.c j:=by rw[e]
  have h:(((if j<n then v j else 0:Int)):Rat)=(((if j<n then w j else 0:Int)):Rat):=h
  rw[W7 hj,W7 hj] at h;exact Rat.intCast_inj.mp h
 ·apply Qt.ext;apply cS.ext;funext i
  show(((if i<n then v i else 0:Int)):Rat)=(((if i<n then w i else 0:Int)):Rat)
  by_cases c:i<n
  ·rw[W7 c,W7 c,e i c]
  ·rw[W6 c,W6 c]
 ·apply Qt.ext;apply cS.ext;funext i
  rw[<- cE,Oe _ _ _ (PZ (p:Int)),HA];show((p:Int):Rat)*(if i=0 then ((p:Int):Rat)⁻¹ else 0)=if i=0 then 1 else 0
  by_cases c:i=0
  ·rw[W7 c,W7 c];exact Rat.mul_inv_cancel _ hp0
  ·rw[W6 c,W6 c];grind
 ·apply Qt.ext;apply cS.ext;funext i
  show(((if i<n then (if i=0 then 1 else 0) else 0:Int)):Rat)=if i=0 then 1 else 0
  by_cases c:i=0
  ·rw[W7 (by omega),W7 c,W7 c];rfl
  ·rw[W6 c,W6 c]
   by_cases h:i<n
   ·rw[W7 h];rfl
   ·rw[W6 h];rfl
 ·have hu:∀a,a<n->(Nt hf hn (un a)).s=mon 1 a:=λa ha=>by
   apply cS.ext;funext i
   show(((if i<n then (if i=a then 1 else 0) else 0:Int)):Rat)=if i=a then 1 else 0
   by_cases c:i=a
   ·rw[W7 (by omega),W7 c,W7 c];rfl
   ·rw[W6 c,W6 c]
    by_cases h:i<n
    ·rw[W7 h];rfl
    ·rw[W6 h];rfl
  apply Qt.ext
  rw[LD,hu a ha,hu b hb];refine rest_eq (Nt hf hn _).lt ?_
  have e1:(mon 1 a*mon 1 b:cS Rat)=mon 1 (a+b):=by
   apply cS.ext;funext i
   rw[qQ];show(if a<=i then 1*(if i-a=b then (1:Rat) else 0) else 0)=if i=a+b then 1 else 0
   by_cases c:a<=i
   ·rw[W7 c]
    by_cases d:i=a+b
    ·rw[W7 d,W7 (by omega)];grind
    ·rw[W6 d,W6 (by omega)];grind
   ·rw[W6 c,W6 (by omega)]
  have e2:(Nt hf hn (tk f n (a+b))).s=Sv (tk f n (a+b)):=by
   apply cS.ext;funext i
   show(((if i<n then tk f n (a+b) i else 0:Int)):Rat)=((tk f n (a+b) i:Int):Rat)
   by_cases c:i<n
   ·rw[W7 c]
   ·rw[W6 c,vC hf hn _ _ (by omega)]
  rw[e1,e2];exact LL hf hn (a+b)
end
end L2
set_option exponentiation.threshold 2000
namespace L2
open PySem PySem.Spec PyProof.Rows
def sN (W:Nat):Nat->Fn->Nat
 | 0,_=>0
 | N+1,h=>sN W N h+(h N).natAbs*W ^ N
theorem zg {W:Nat}{h:Fn}:∀ {N M:Nat},N<=M->sN W N h<=sN W M h
 | N,0,h=>by rw[show N=0 by omega];exact Yd _
 | N,M+1,h=>by
  by_cases c:N=M+1
  ·rw[c];exact Yd _
  ·have:=zg (W:=W) (h:=by assumption) (show N<=M by omega)
   show _<=sN W M _+_
   omega
theorem DX {W:Nat}{h:Fn}{N j:Nat}(hj:j<N):(h j).natAbs*W ^ j<=sN W N h:=by
 have h1:(h j).natAbs*W ^ j<=sN W (j+1) h:=Nat.le_add_left _ _;exact Ym h1 (zg (by omega))
theorem Cc {W:Nat}{a b c:Fn}(e:∀j,c j=a j+b j):∀N,sN W N c<=sN W N a+sN W N b
 | 0=>Yd 0
 | N+1=>by
  show sN W N c+(c N).natAbs*W ^ N<=sN W N a+(a N).natAbs*W ^ N+(sN W N b+(b N).natAbs*W ^ N)
  have h1:=Cc (W:=W) e N;have h2:(c N).natAbs<=(a N).natAbs+(b N).natAbs:=by rw[e N];exact Int.natAbs_add_le _ _
  have h3:=Yr (W ^ N) h2;rw[Wa] at h3;omega
theorem HC {W i:Nat}{g:Fn}(c:Int):∀N,sN W N (λj=>c*cv (xp i) g j)<=c.natAbs*W ^ i*sN W N g
 | 0=>Yw _
 | N+1=>by
  have key:∀M,sN W (M+i) (λj=>c*cv (xp i) g j)<=c.natAbs*W ^ i*sN W M g:=by
   intro M;induction M with
   | zero=>
    have z:∀k,k<=i->sN W k (λj=>c*cv (xp i) g j)=0:=by
     intro k;induction k with
     | zero=>intro _;rfl
     | succ k ih=>
      intro hk;show sN W k _+(c*cv (xp i) g k).natAbs*W ^ k=0
      rw[ih (by omega),iP,W6 (by omega)];simp
    rw[W1,z i (Yd i)];exact Yw _
   | succ M ih=>
    rw[show M+1+i=M+i+1 by omega]
    show sN W (M+i) _+(c*cv (xp i) g (M+i)).natAbs*W ^ (M+i)<=c.natAbs*W ^ i*(sN W M g+(g M).natAbs*W ^ M)
    rw[iP,W7 (by omega),Nat.add_sub_cancel,Ze,Wm,Zh]
    have:c.natAbs*(g M).natAbs*(W ^ M*W ^ i)=c.natAbs*W ^ i*((g M).natAbs*W ^ M):=by ac_rfl
    omega
  refine Ym (zg (show N+1<=N+1+i by omega)) (key (N+1))
theorem LM {W L:Nat}{a g:Fn}(ha:∀j,L<=j->a j=0)(N:Nat):sN W N (cv a g)<=sN W L a*sN W N g:=by
 have e:∀m,cv a g m=bC L λi=>a i*cv (xp i) g m:=by
  intro m;have h1:cv a g m=bN (m+1) λi=>a i*g (m-i):=rfl
  rw[h1,<- eo];have h2:bC L (λi=>a i*cv (xp i) g m)=bC (L+(m+1)) λi=>a i*cv (xp i) g m:=(uH (by omega) λi hi _=>by rw[ha i hi,Zk]).symm
  have h3:bC (m+1) (λi=>a i*g (m-i))=bC (L+(m+1)) λi=>a i*cv (xp i) g m:=by
   rw[uH (m:=m+1) (n:=L+(m+1)) (by omega) λi hi _=>by rw[iP,W6 (by omega),Y4]]
   exact aH λi hi=>by rw[iP,W7 (by omega)]
  rw[h2,h3]
 have key:∀M,sN W N (λm=>bC M λi=>a i*cv (xp i) g m)<=sN W M a*sN W N g:=by
  intro M;induction M with
  | zero=>
   have:∀K,sN W K (λ_=>(0:Int))=0:=λK=>by
    induction K with
    | zero=>rfl
    | succ K ih=>show sN W K _+Zz 0*_=0;rw[ih];simp
   show sN W N (λ_=>(0:Int))<=_
   rw[this];exact Yw _
  | succ M ih=>
   refine Ym (Cc (a:=λm=>bC M λi=>a i*cv (xp i) g m) (b:=λm=>a M*cv (xp M) g m) (λm=>rfl) N) ?_
   show _<=(sN W M a+(a M).natAbs*W ^ M)*sN W N g
   rw[Wa];exact Nat.add_le_add ih (HC (a M) N)
 rw[show cv a g=λm=>bC L λi=>a i*cv (xp i) g m from funext e]
 exact key L
theorem DY {W:Nat}{h:Fn}{N:Nat}(h0:∀j,N<=j->h j=0):∀ {M},N<=M->sN W M h=sN W N h
 | 0,hM=>by rw[show N=0 by omega]
 | M+1,hM=>by
  by_cases c:N=M+1
  ·rw[c]
  ·show sN W M h+(h M).natAbs*W ^ M=_
   rw[DY h0 (show N<=M by omega),h0 M (by omega)];simp
theorem yi {p:List Int}{n:Nat}(hp:Norm p)(h:Top (aq p) n):p.length=n+1:=by
 rcases hp with z|z
 ·rw[z] at h
  have:=h.one
  rw[iz] at this;cases this
 ·have h1:¬ p.length-1 > n:=λc=>z (h.top _ c)
  have h2:¬ p.length<=n:=λc=>by
   have:=h.one
   rw[aX c] at this;cases this
  omega
theorem topC {f:List Int}{n:Nat}(hl:f.length=n+1)(hm:L2.dh f):Top (aq f) n:=⟨by have:=hm.2;rw[hl] at this;exact this,λm hm=>aX (by omega)⟩
structure Pw (r:Nat)(f:List Int)(n:Nat):Prop where
 len:f.length=n+1
 mon:L2.dh f
 nm:sN (2 ^ 40) (n+1) (aq f)<=(2 ^ (40+r)) ^ n
variable {r s n m:Nat} {f g:List Int}
theorem Pw.hi (h:Pw r f n){j:Nat}(hj:n+1<=j):aq f j=0:=aX (by rw[h.len];exact hj)
theorem Pw.top (h:Pw r f n):Top (aq f) n:=topC h.len h.mon
theorem Pw.mono (h:Pw r f n)(hr:r<=s):Pw s f n:=⟨h.len,h.mon,Ym h.nm (Zx (Yu (by decide) (by omega)) n)⟩
theorem Pw.mul (hf:Pw r f n)(hg:Pw r g m):Pw r (trim (d9 f g)) (n+m):=by
 have fn:f≠[]:=hf.mon.1;have gn:g≠[]:=hg.mon.1;have hl:(d9 f g).length=n+m+1:=by
  unfold d9;rw[W6 (by rintro (z|z);exact fn z;exact gn z),Ya,Yf,hf.len,hg.len];omega
 have top:aq (d9 f g) (n+m)=1:=by
  rw[MY,BO hg.top λi hi=>hf.hi (by omega)];exact hf.top.one
 have nn:Norm (d9 f g):=.inr (by rw[hl];show aq _ (n+m)≠0;rw[top];decide)
 rw[EK nn];refine⟨hl,⟨(λz=>by rw[z] at hl;cases hl),by rw[hl];exact top⟩,?_⟩
 rw[MY,Zh];refine Ym (LM (L:=n+1) (λj hj=>hf.hi hj) _) (Zf hf.nm ?_)
 rw[DY (N:=m+1) (λj hj=>hg.hi hj) (by omega)]
 exact hg.nm
theorem Pw.one:Pw r [1] 0:=⟨rfl,⟨by simp,rfl⟩,by show 0+1*(2 ^ 40) ^ 0<=_;simp⟩
theorem Pw.of (hl:f.length=n+1)(hm:L2.dh f)(hn:n<=8)(h:∀k,k<n->8*(aq f k).natAbs<=(2 ^ 40) ^ (n-k)):Pw 1 f n:=by
 refine⟨hl,hm,?_⟩
 have key:∀k,k<=n->8*sN (2 ^ 40) k (aq f)<=k*(2 ^ 40) ^ n:=by
  intro k;induction k with
  | zero=>intro _;show 8*0<=0*_;simp
  | succ k ih=>
   intro hk;show 8*(sN (2 ^ 40) k (aq f)+(aq f k).natAbs*(2 ^ 40) ^ k)<=_
   have h1:=ih (by omega)
   have h2:=Yr ((2 ^ 40) ^ k) (h k (by omega))
   rw[<- Zh,Nat.sub_add_cancel (by omega)] at h2
   rw[Wa,Wm];rw[Wj] at h2;omega
 have top:aq f n=1:=(topC hl hm).one;show sN (2 ^ 40) n (aq f)+(aq f n).natAbs*(2 ^ 40) ^ n<=_
 rw[top];cases n with
 | zero=>simp[sN]
 | succ n=>
  have h1:=key (n+1) (Yd _);have h2:(n+1)*(2 ^ 40) ^ (n+1)<=8*(2 ^ 40) ^ (n+1):=Yr _ hn;have h3:2*(2 ^ 40) ^ (n+1)<=(2 ^ (40+1)) ^ (n+1):=by
   rw[Zq 2 40,Nat.mul_pow,Wn];exact Za _ (by rw[Zq];have:=Z5 (n:=n) (show 0<2 by decide);omega)
  have e:Zz 1=1:=rfl;rw[e];omega
theorem Pw.iR {c:Int}(h:c.natAbs<=2 ^ 37):Pw 1 [c,1] 1:=Pw.of rfl ⟨by simp,rfl⟩ (by decide) λk hk=>by
 rw[show k=0 by omega]
 show 8*c.natAbs<=(2 ^ 40) ^ 1
 omega
theorem DZ (W:Nat)(a:Int)(r:List Int):∀N,sN W (N+1) (aq (a::r))=a.natAbs+W*sN W N (aq r)
 | 0=>by show 0+(aq (a::r) 0).natAbs*W ^ 0=a.natAbs+W*0;rw[show aq (a::r) 0=a from rfl];simp
 | N+1=>by
  show sN W (N+1) (aq (a::r))+(aq (a::r) (N+1)).natAbs*W ^ (N+1)=a.natAbs+W*(sN W N (aq r)+(aq r N).natAbs*W ^ N)
  rw[DZ W a r N,show aq (a::r) (N+1)=aq r N from rfl,Wm,Zq]
  have:(aq r N).natAbs*(W ^ N*W)=W*((aq r N).natAbs*W ^ N):=by ac_rfl
  omega
theorem D5 (W:Nat):∀N,sN W N (λ_=>(0:Int))=0
 | 0=>rfl
 | N+1=>by show sN W N _+Zz 0*_=0;rw[D5 W N];simp
theorem HD (W:Nat)(a:Int):∀N,sN W N (λm=>if m=0 then a else 0)<=a.natAbs
 | 0=>Yw _
 | 1=>by show 0+a.natAbs*W ^ 0<=_;simp
 | N+2=>by
  show sN W (N+1) _+(if N+1=0 then a else 0).natAbs*_<=_
  rw[W6 (by omega)]
  have:=HD W a (N+1)
  simp
  exact this
theorem HE {W:Nat}{c:Int}(hc:c.natAbs<=W):∀N,sN W N (iR (-c))<=2*W
 | 0=>Yw _
 | 1=>by show 0+(iR (-c) 0).natAbs*W ^ 0<=_;rw[show iR (-c) 0=-(-c) from rfl];simp;omega
 | 2=>by
  show 0+(iR (-c) 0).natAbs*W ^ 0+(iR (-c) 1).natAbs*W ^ 1<=_
  rw[show iR (-c) 0=-(-c) from rfl,show iR (-c) 1=1 from rfl]
  simp;omega
 | N+3=>by
  show sN W (N+2) _+(iR (-c) (N+2)).natAbs*_<=_
  have e:iR (-c) (N+2)=0:=by unfold L2.iR;rw[W6 (by omega),W6 (by omega)]
  rw[e];have:=HE hc (N+2)
  simp
  exact this
theorem LN {W:Nat}{c:Int}(hc:c.natAbs<=W):∀(f:List Int) (N:Nat),sN W N (aq (eK c f))<=sN (2*W) f.length (aq f)
 | [],N=>by rw[GL,D5];exact Yw _
 | a::r,N=>by
  rw[List.length_cons,DZ];have h1:=Cc (W:=W) (a:=cv (aq (eK c r)) (iR (-c))) (b:=λm=>if m=0 then a else 0) (c:=aq (eK c (a::r))) (λj=>uE c a r j) N
  have h2:=LM (W:=W) (L:=(eK c r).length) (a:=aq (eK c r)) (g:=iR (-c)) (λj hj=>aX hj) N
  have h3:=LN hc r (eK c r).length;have h4:=HE hc N;have h5:=HD W a N;have h6:=Zf h3 h4;rw[Wn (sN (2*W) r.length (aq r))] at h6;omega
theorem HF {W:Nat}{h:Fn}(n:Nat):∀N,N<=n+1->sN (2*W) N h<=2 ^ n*sN W N h
 | 0,_=>Yw _
 | N+1,hN=>by
  show sN (2*W) N h+(h N).natAbs*(2*W) ^ N<=2 ^ n*(sN W N h+(h N).natAbs*W ^ N)
  have h1:=HF (W:=W) (h:=h) n N (by omega)
  have h2:2 ^ N<=2 ^ n:=Yu (by decide) (by omega)
  have h3:=Yr ((h N).natAbs*W ^ N) h2;rw[Nat.mul_pow,Wm];have:(h N).natAbs*(2 ^ N*W ^ N)=2 ^ N*((h N).natAbs*W ^ N):=by ac_rfl
  omega
theorem HG (c:Int):∀(f:List Int) (n:Nat),f.length=n+1->aq f n=1->Top (aq (eK c f)) n
 | [],n,h,_=>by cases h
 | [a],n,h,e=>by
  have hn:n=0:=by simp at h;omega
  subst hn;have ha:a=1:=e;have e2:aq (eK c [a])=λm=>if m=0 then a else 0:=funext λm=>by
   rw[uE,GL];have:cv (λ_=>0) (L2.iR (-c)) m=0:=by
    show bN (m+1) (λi=>(0:Int)*_)=0
    rw[show(λi=>(0:Int)*L2.iR (-c) (m-i))=λ_=>0 from funext λi=>Zk _]
    exact c9 λ_ _=>rfl
   rw[this,Z8]
  rw[e2];exact⟨by rw[W7 rfl];exact ha,λm hm=>by rw[W6 (by omega)]⟩
 | a::b::r,n,h,e=>by
  cases n with
  | zero=>simp at h
  | succ n=>
   have ih:=HG c (b::r) n (by simpa using h) e
   have hl:Top (L2.iR (-c)) 1:=⟨rfl,λm hm=>by unfold L2.iR;rw[W6 (by omega),W6 (by omega)]⟩
   have t:=ih.mul hl;exact⟨by rw[uE,W6 (by omega),Zu];exact t.one,λm hm=>by rw[uE,W6 (by omega),Zu];exact t.top m hm⟩
theorem Pw.shift {c:Int}(h:Pw r f n)(hc:c.natAbs<=2 ^ 40):Pw (r+1) (eK c f) n:=by
 have t:=HG c f n h.len h.top.one;have nn:Norm (eK c f):=vt _ _;have hl:=yi nn t;refine⟨hl,⟨(λz=>by rw[z] at hl;cases hl),by rw[hl];exact t.one⟩,?_⟩
 have h1:=LN hc f (n+1);rw[h.len] at h1;have h2:=HF (W:=2 ^ 40) (h:=aq f) n (n+1) (Yd _);refine Ym h1 (Ym h2 (Ym (Za _ h.nm) ?_))
 rw[<- Nat.mul_pow,show 40+(r+1)=40+r+1 by omega,Zq 2 (40+r),Wn]
 exact Yd _
theorem Pw.wb (h:Pw r f n):wb (2 ^ 40) (2 ^ (r*n)*(2 ^ 40) ^ n) (aq f):=λj=>by
 have e:(2 ^ (40+r)) ^ n=2 ^ (r*n)*(2 ^ 40) ^ n:=by
  rw[Zh,Nat.mul_pow,Wn,<- Wh 2 r n]
 rw[<- e];by_cases c:j<n+1
 ·exact Ym (DX c) h.nm
 ·rw[h.hi (by omega)];simp
theorem Pw.bd (h:Pw r f n)(j:Nat):(aq f j).natAbs<=2 ^ ((40+r)*n):=by
 rw[Wh];by_cases c:j<n+1
 ·exact Ym (Nat.le_mul_of_pos_right _ (Z5 (by decide))) (Ym (DX (W:=2 ^ 40) c) h.nm)
 ·rw[h.hi (by omega)];exact Yw _
theorem Pw.ES (h:Pw r f n):fP ((40+r)*n+1) f:=vf λj _=>Z0 (h.bd j) (Wd (by decide) (by omega))
theorem Pw.ent (h:Pw 2 f n)(n1:1<=n)(n6:n<=6){g:List Int}(lg:g.length<=7)(bg:∀k,(aq g k).natAbs<=2 ^ 255){R:Nat->Fn}(hR:Rows (aq f) n (aq g) R):∀i j,i<=n->(R i j).natAbs<=2 ^ 1100:=by
 intro i j hi;have XW:L2.wb (2 ^ 40) (2 ^ 255*(2 ^ 40) ^ 7) (aq g):=λk=>by
  by_cases c:k<g.length
  ·exact Zf (bg k) (Yu (by decide) (by omega))
  ·rw[aX (by omega)];simp
 refine Ym (E5 h.top n1 (W:=2 ^ 40) (by decide) h.wb (λm hm=>aX hm) XW hR i j) ?_
 have e1:1+2 ^ (2*n)<=2 ^ 13:=by
  have:2 ^ (2*n)<=2 ^ 12:=Yu (by decide) (by omega)
  omega
 have e2:(1+2 ^ (2*n)) ^ g.length<=(2 ^ 13) ^ 7:=Ym (Zx e1 _) (Yu (by decide) lg)
 have e3:(2 ^ 40*(1+2 ^ (2*n))) ^ i<=(2 ^ 53) ^ 6:=by
  refine Ym (Zx (Za _ e1) _) ?_
  rw[<- Zh];exact Yu (by decide) (by omega)
 refine Ym (Zf (show g.length<=2 ^ 3 by omega) (Zf (Za _ e2) e3)) ?_
 have e4:2 ^ 3*(2 ^ 255*(2 ^ 40) ^ 7*(2 ^ 13) ^ 7*(2 ^ 53) ^ 6)=2 ^ (3+(255+40*7+13*7+53*6)):=by
  rw[<- Wh,<- Wh,<- Wh,<- Zh,<- Zh,<- Zh,<- Zh]
 rw[e4];exact Yu (by decide) (by decide)
theorem Pw.Oj (h:Pw 2 f n)(n6:n<=6)(j:Nat):(aq f j).natAbs<=2 ^ 252:=Ym (h.bd j) (Yu (by decide) (by omega))
theorem Pw.S0 (h:Pw 2 f n)(n6:n<=6):fP 253 f:=h.ES.mono (by omega)
theorem Pw.XX (h:Pw 2 f n)(n6:n<=6)(k:Nat):(aq (dl f) k).natAbs<=2 ^ 255:=by
 rw[jE];by_cases c:k+1<n+1
 ·rw[Ze]
  refine Ym (Zf (show((k+1:Nat):Int).natAbs<=2 ^ 3 by omega) (h.Oj n6 (k+1))) ?_
  rw[<- Zh];exact Yu (by decide) (by decide)
 ·rw[h.hi (by omega),Y4];exact Yw _
end L2
namespace L2
open Alg Lean.Grind
theorem yj {T:Nat->Vc}{c v:Vc}{i:Nat}:∀n,(∀k,k<n->∀j,k<j->T k j=0)->(∀k,k<n->T k k≠0)->(∀j,v j=sm n c T j)->i<n->(∀j,i<j->v j=0)->∀j,v j=sm (i+1) c T j
 | 0,_,_,_,hi,_=>by omega
 | n+1,lX,nz,e,hi,h0=>by
  by_cases h:i=n
  ·rw[h];exact e
  ·have e1:v n=c n*T n n:=by
    rw[e n];show sm n c T n+c n*T n n=_
    rw[jd (q:=0) λk hk=>lX k (by omega) n hk];omega
   have e2:c n=0:=by
    rw[h0 n (by omega)] at e1
    rcases Int.mul_eq_zero.mp e1.symm with z|z
    ·exact z
    ·exact Jd z (nz n (by omega))
   refine yj n (λk hk=>lX k (by omega)) (λk hk=>nz k (by omega)) (λj=>?_) (by omega) h0
   rw[e j];show sm n c T j+c n*T n j=_
   rw[e2];simp
theorem iZ.add {n:Nat}{T:Nat->Vc}{v w:Vc}(a:Int):iZ n T v->iZ n T w->iZ n T λj=>a*v j+w j:=λ⟨c,e⟩ ⟨d,g⟩=>⟨λi=>a*c i+d i,λj=>by rw[jc,<- e,<- g]⟩
theorem iZ.row {n:Nat}{T:Nat->Vc}{i:Nat}(hi:i<n):iZ n T (T i):=⟨λk=>if k=i then 1 else 0,λj=>(gZ hi).symm⟩
theorem iZ.of {n:Nat}{T:Nat->Vc}{v w:Vc}(h:iZ n T v)(e:∀j,w j=v j):iZ n T w:=by
 obtain⟨c,g⟩:=h;exact⟨c,λj=>by rw[e j,g j]⟩
theorem iZ.cut {n:Nat}{T:Nat->Vc}(st:cU n T){v:Vc}{i:Nat}(h:iZ n T v)(hi:i<n)(h0:∀j,i<j->v j=0):∃a:Int,v i=a*T i i/\iZ n T (λj=>v j-a*T i j)/\∀j,i<=j->v j-a*T i j=0:=by
 obtain⟨c,e⟩:=id h;have e1:=yj n st.lX st.nz e hi h0;have e2:v i=c i*T i i:=by
  rw[e1 i];show sm i c T i+c i*T i i=_
  rw[jd (q:=0) λk hk=>st.lX k (by omega) i hk];omega
 refine⟨c i,e2,?_,λj hj=>?_⟩
 ·exact iZ.of (iZ.add (-(c i)) (iZ.row hi) h) λj=>by grind
 ·by_cases z:j=i
  ·rw[z,e2];omega
  ·rw[h0 j (by omega),st.lX i hi j (by omega)];simp
theorem zh {p:Nat}(hp:p∈PR){a:Int}(h:¬ (p:Int) ∣ a):∃y u:Int,a*y=1+p*u:=by
 have p1:=cC hp;have h0:0<=a % (p:Int):=Zg _ (by omega)
 have h1:a % (p:Int)<p:=Zc _ (by omega)
 obtain⟨y,_,e⟩:=yX p hp (a % (p:Int)).toNat (by omega) (λz=>h (Int.dvd_of_emod_eq_zero (by omega)))
 have e2:((a % (p:Int))*(y:Int)) % (p:Int)=1 % (p:Int):=by
  have:=Jb (λn:Nat=>(n:Int)) e
  simp only[Int.natCast_emod,Zl,Z7 h0] at this
  exact this
 have e3:(p:Int) ∣ (a % (p:Int))*(y:Int)-1:=Int.dvd_of_emod_eq_zero (by rw[Int.sub_emod,e2];simp)
 obtain⟨u,hu⟩:=e3;have ha:=Zr a (p:Int);generalize a % (p:Int)=r at*;generalize a / (p:Int)=t at*;exact⟨y,u+t*y,by rw[<- ha];grind⟩
theorem E6 {p:Nat}(hp:p∈PR){a b:Int}(h:(p:Int) ∣ a*b):(p:Int) ∣ a\/(p:Int) ∣ b:=by
 by_cases c:(p:Int) ∣ a
 ·exact .inl c
 ·right
  obtain⟨y,u,e⟩:=zh hp c;obtain⟨w,hw⟩:=h;exact⟨y*w-u*b,by grind⟩
theorem HH {q:Int}{c:Vc}{A:Nat->Vc}{j:Nat}:∀n,(∀i,i<n->q ∣ A i j)->q ∣ sm n c A j
 | 0,_=>⟨0,by show(0:Int)=_;simp⟩
 | n+1,h=>by
  obtain⟨x,hx⟩:=HH n (c:=c) λi hi=>h i (by omega)
  obtain⟨y,hy⟩:=h n (by omega)
  exact⟨x+c n*y,by show sm n c A j+c n*A n j=_;rw[hx,hy];grind⟩
theorem HJ {a b:Int}{c:Vc}{A D:Nat->Vc}{j k:Nat}:∀n,(∀i,i<n->D i j=a*A i j-A i k*b)->sm n c D j=a*sm n c A j-sm n c A k*b
 | 0,_=>by show(0:Int)=a*0-0*b;simp
 | n+1,h=>by
  show sm n c D j+c n*D n j=a*(sm n c A j+c n*A n j)-(sm n c A k+c n*A n k)*b
  rw[HJ n λi hi=>h i (by omega),h n (by omega)];grind
theorem zj {p:Nat}(hp:p∈PR):∀(n:Nat) (A:Nat->Vc),∃c:Vc,(∃i,i<=n/\¬ (p:Int) ∣ c i)/\∀j,j<n->(p:Int) ∣ sm (n+1) c A j
 | 0,A=>⟨λ_=>1,⟨0,Yd _,λz=>by have:=cC hp;have z:(p:Int) ∣ 1:=z;have:=Int.le_of_dvd (by decide) z;omega⟩,λj hj=>Jd hj (Wc _)⟩
 | n+1,A=>by
  by_cases all:∀i,i<=n+1->(p:Int) ∣ A i n
  ·obtain⟨c,⟨i,hi,hc⟩,h⟩:=zj hp n A
   refine⟨λi=>if i=n+1 then 0 else c i,⟨i,by omega,by show ¬ (p:Int) ∣ (if i=n+1 then 0 else c i);rw[W6 (by omega)];exact hc⟩,λj hj=>?_⟩
   by_cases z:j=n
   ·rw[z];exact HH _ λi hi=>all i (by omega)
   ·show(p:Int) ∣ sm (n+1) (λi=>if i=n+1 then 0 else c i) A j+(if n+1=n+1 then 0 else c (n+1))*A (n+1) j
    rw[W7 rfl,Zk,Zu,cO (d':=c) (R':=A) (λi hi=>W6 (by omega)) λ_ _=>rfl]
    exact h j (by omega)
  ·obtain⟨r,hr⟩:=Classical.not_forall.mp all
   obtain⟨hr1,hr2⟩:=Classical.not_imp.mp hr;obtain⟨B,hB⟩:∃B:Nat->Vc,B=λi=>if i=r then A (n+1) else A i:=⟨_,rfl⟩
   obtain⟨c,⟨i0,hi0,hc⟩,h⟩:=zj hp n λi j=>A r n*B i j-B i n*A r j
   obtain⟨s,hs⟩:∃s,s=- sm (n+1) c B n:=⟨_,rfl⟩;have key:∀j,sm (n+2) (λi=>if i=r then s else if i=n+1 then c r*A r n else c i*A r n) A j=A r n*sm (n+1) c B j-sm (n+1) c B n*A r j:=by
    intro j;have e0:A r n*sm (n+1) c B j=sm (n+1) (λi=>c i*A r n) B j:=by
     have:=jc (n:=n+1) (A r n) (d:=c) (e:=λ_=>0) (R:=B) (j:=j)
     rw[gY,Zu] at this;rw[<- this];exact cO (λi _=>by show A r n*c i+0=_;rw[Zu,Z1]) λ_ _=>rfl
    rw[e0];show sm (n+1) (λi=>if i=r then s else if i=n+1 then c r*A r n else c i*A r n) A j+(if n+1=r then s else if n+1=n+1 then c r*A r n else c (n+1)*A r n)*A (n+1) j=_
    by_cases z:n+1=r
    ·rw[W7 z,cO (d':=λi=>c i*A r n) (R':=B) (λi hi=>by rw[W6 (by omega),W6 (by omega)]) λi hi=>by rw[hB];simp only[];rw[W6 (by omega)],hs,z]
     grind
    ·rw[W6 z,W7 rfl]
     have q:r<n+1:=by omega
     have e1:=B7 q (c:=λi=>if i=r then 0 else c i*A r n) (W7 rfl) (T:=A) (lead:=A r) (a:=s) j
     have e2:=B7 q (c:=λi=>if i=r then 0 else c i*A r n) (W7 rfl) (T:=A) (lead:=A (n+1)) (a:=c r*A r n) j
     have e3:sm (n+1) (λi=>if i=r then s else if i=n+1 then c r*A r n else c i*A r n) A j=sm (n+1) (λi=>if i=r then s else if i=r then 0 else c i*A r n) (λi=>if i=r then A r else A i) j:=by
      refine cO (λi hi=>?_) λi hi=>?_
      ·by_cases w:i=r
       ·rw[W7 w,W7 w]
       ·rw[W6 w,W6 w,W6 w,W6 (by omega)]
      ·by_cases w:i=r
       ·rw[W7 w,w]
       ·rw[W6 w]
     have e4:sm (n+1) (λi=>c i*A r n) B j=sm (n+1) (λi=>if i=r then c r*A r n else if i=r then 0 else c i*A r n) (λi=>if i=r then A (n+1) else A i) j:=by
      refine cO (λi hi=>?_) λi hi=>by rw[hB]
      by_cases w:i=r
      ·rw[W7 w,w]
      ·rw[W6 w,W6 w]
     rw[e3,e4,e1,e2,hs];grind
   refine⟨λi=>if i=r then s else if i=n+1 then c r*A r n else c i*A r n,⟨if i0=r then n+1 else i0,by split <;> omega,?_⟩,λj hj=>?_⟩
   ·intro z
    have e:(if (if i0=r then n+1 else i0)=r then s else if (if i0=r then n+1 else i0)=n+1 then c r*A r n else c (if i0=r then n+1 else i0)*A r n)=c i0*A r n:=by
     by_cases w:i0=r
     ·rw[W7 w,W6 (by omega),W7 rfl,w]
     ·rw[W6 w,W6 w,W6 (by omega)]
    have z:(p:Int) ∣ c i0*A r n:=by rw[<- e];exact z
    rcases E6 hp z with z|z
    ·exact hc z
    ·exact hr2 z
   ·rw[key j]
    by_cases z:j=n
    ·rw[z];exact⟨0,by grind⟩
    ·have:=h j (by omega)
     rw[HJ (a:=A r n) (b:=A r j) (A:=B) (k:=n) (n+1) λi _=>rfl] at this
     exact this
section
variable {R:Type} [CommRing R] {O:R->Prop}
def qk (O:R->Prop)(p a:R):Prop:=∃w,O w/\a=p*w
theorem qk.add (h:c8 O){p a b:R}:qk O p a->qk O p b->qk O p (a+b):=λ⟨x,hx,e⟩ ⟨y,hy,g⟩=>⟨x+y,h.add hx hy,by rw[e,g];grind⟩
theorem qk.mul (h:c8 O){p a b:R}(hb:O b):qk O p a->qk O p (b*a):=λ⟨x,hx,e⟩=>⟨b*x,h.mul hb hx,by rw[e];grind⟩
theorem qk.sub (h:c8 O){p a b:R}:qk O p a->qk O p b->qk O p (a-b):=λ⟨x,hx,e⟩ ⟨y,hy,g⟩=>⟨x+-y,h.add hx (h.neg hy),by rw[e,g];grind⟩
theorem Nu (h:c8 O){p:R}{c:Vc}{o:Nat->R}{i0:Nat}:∀N,i0<N->qk O p (sR N c o)->(∀i,i<N->i≠i0->qk O p (zc R (c i)*o i))->qk O p (zc R (c i0)*o i0):=by
 have z:∀N,N<=i0->(∀i,i<N->i≠i0->qk O p (zc R (c i)*o i))->qk O p (sR N c o):=by
  intro N;induction N with
  | zero=>intro _ _;exact⟨0,h.zero,by show(0:R)=_;grind⟩
  | succ N ih=>intro hN ha;exact qk.add h (ih (by omega) λi hi=>ha i (by omega)) (ha N (by omega) (by omega))
 intro N;induction N with
 | zero=>intro hi;omega
 | succ N ih=>
  intro hi hs ha;have e:sR (N+1) c o=sR N c o+zc R (c N)*o N:=rfl;by_cases q:i0=N
  ·have h1:=z N (by omega) λi hi'=>ha i (by omega)
   have:=qk.sub h hs h1
   rw[e,show sR N c o+zc R (c N)*o N-sR N c o=zc R (c N)*o N by grind] at this
   rw[q];exact this
  ·refine ih (by omega) ?_ λi hi'=>ha i (by omega)
   have:=qk.sub h hs (ha N (by omega) (λw=>q w.symm))
   rw[e,show sR N c o+zc R (c N)*o N-zc R (c N)*o N=sR N c o by grind] at this
   exact this
variable {n:Nat} {el:Vc->R}
theorem jM (a:R)(m:Nat):∀k,a ^ (m+k)=a ^ m*a ^ k
 | 0=>by rw[Ww,bO];grind
 | k+1=>by rw[<- Nat.add_assoc,bH,jM a m k,bH];grind
theorem qT {P:Nat->Prop}:∀n,P n->∃i,i<=n/\P i/\∀j,j<i->¬ P j
 | n,h=>by
  by_cases c:∃j,j<n/\P j
  ·obtain⟨j,hj,pj⟩:=c
   obtain⟨i,hi,pi,l⟩:=qT j pj;exact⟨i,by omega,pi,l⟩
  ·exact⟨n,Yd _,h,λj hj pj=>c ⟨j,hj,pj⟩⟩
theorem D6 (B:nK n el)(h:c8 (Of el)){p:Nat}(hp:p∈PR){a:R}(ha:Of el a):∀m:Nat,qk (Of el) (nt R p) (a ^ m)->qk (Of el) (nt R p) (a ^ n)
 | m,hm=>by
  by_cases c:m<=n
  ·rw[show n=n-m+m by omega,jM]
   exact qk.mul h (h.pow ha _) hm
  ·obtain⟨v,hv⟩:=Classical.axiomOfChoice λi=>h.pow ha i
   obtain⟨c,⟨i1,hi1,hc1⟩,hr⟩:=zj hp n v;obtain⟨i0,hi0,hc0,hl⟩:=qT (P:=λi=>¬ (p:Int) ∣ c i) i1 hc1
   have S1:qk (Of el) (nt R p) (sR (n+1) c λi=>a ^ i):=by
    have e:(sR (n+1) c λi=>a ^ i)=el λj=>sm (n+1) c v j:=by
     rw[B.sm (n+1)];exact je (n+1) (λ_ _=>rfl) λi _=>hv i
    obtain⟨z,hz⟩:∃z:Vc,∀j,j<n->sm (n+1) c v j=(p:Int)*z j:=⟨λj=>sm (n+1) c v j / (p:Int),λj hj=>(Int.mul_ediv_cancel' (hr j hj)).symm⟩
    refine⟨el z,⟨z,rfl⟩,?_⟩
    rw[e,B.sup _ (λj=>(p:Int)*z j) hz,B.smul,cE]
   have P4:qk (Of el) (nt R p) (sR (n+1) c λi=>a ^ (m-1-i0)*a ^ i):=by
    rw[<- mP];exact qk.mul h (h.pow ha _) S1
   have h1:=Nu (i0:=i0) h (n+1) (by omega) P4 λi hi hne=>by
    by_cases q:i<i0
    ·obtain⟨u,hu⟩:=Classical.not_not.mp (hl i q)
     rw[hu,gG,cE];exact⟨zc R u*(a ^ (m-1-i0)*a ^ i),h.mul (h.zc u) (h.mul (h.pow ha _) (h.pow ha _)),by grind⟩
    ·refine qk.mul h (h.zc _) ?_
     rw[<- jM,show m-1-i0+i=m-1-i0+i-m+m by omega,jM]
     exact qk.mul h (h.pow ha _) hm
   rw[<- jM,show m-1-i0+i0=m-1 by omega] at h1
   obtain⟨y,u,hy⟩:=zh hp hc0;refine D6 B h hp ha (m-1) ?_
   have h2:=qk.mul h (h.zc y) h1;have e:zc R y*(zc R (c i0)*a ^ (m-1))=a ^ (m-1)+nt R p*(zc R u*a ^ (m-1)):=by
    have:zc R (c i0*y)=1+nt R p*zc R u:=by rw[hy,oW,gi,gG,cE]
    rw[gG] at this;grind
   rw[e] at h2;have h3:=qk.sub h h2 ⟨zc R u*a ^ (m-1),h.mul (h.zc u) (h.pow ha _),rfl⟩;rw[show a ^ (m-1)+nt R p*(zc R u*a ^ (m-1))-nt R p*(zc R u*a ^ (m-1))=a ^ (m-1) by grind] at h3
   exact h3
termination_by m=>m
theorem Nv {α:Type}{M:α->Prop}{Q:α->α->Prop}(h:∀a,M a->∃b,M b/\Q a b){a0:α}(h0:M a0):∃s:Nat->α,(∀i,M (s i))/\∀i,Q (s i) (s (i+1)):=by
 obtain⟨g,hg⟩:=Classical.axiomOfChoice λa:{ a // M a }=>h a.1 a.2
 let t:Nat->{ a // M a }:=λi=>Nat.rec ⟨a0,h0⟩ (λ_ x=>⟨g x,(hg x).1⟩) i
 exact⟨λi=>(t i).1,λi=>(t i).2,λi=>(hg (t i)).2⟩
theorem zk (a b:R):∀m:Nat,(a*b) ^ m=a ^ m*b ^ m
 | 0=>by rw[bO,bO,bO];grind
 | m+1=>by rw[bH,zk a b m,bH,bH];grind
theorem LO (a:R)(m:Nat):∀k:Nat,a ^ (m*k)=(a ^ m) ^ k
 | 0=>by rw[W2,bO,bO]
 | k+1=>by rw[Wp,jM,LO a m k,bH]
theorem KL (B:nK n el)(h:c8 (Of el)){p:Nat}(hp:p∈PR){ip:R}(Hv:nt R p*ip=1){k:Nat}(hq:n<=p ^ k)(hM:∀a,AL (Of el) (nt R p) (p ^ k) a->Of el a)
  {O':R->Prop} (h':c8 O') (sub:∀a,Of el a->O' a) {N:Nat} (fin:∀a,O' a->Of el (nt R p ^ N*a)) (a0:R) (ha0:O' a0):Of el a0:=by
 refine V? λXY=>?_
 have q1:1<=p ^ k:=Z5 (by have:=cC hp;omega)
 have oP:Of el (nt R p):=h.nt p;obtain⟨j,_,pj,lj⟩:=qT (P:=λj=>Of el (nt R p ^ j*a0)) N (fin a0 ha0)
 have j1:j≠0:=λz=>XY (by rw[z,bO] at pj;rw[show a0=1*a0 by grind];exact pj)
 have M1:O' (nt R p ^ (j-1)*a0)/\¬ Of el (nt R p ^ (j-1)*a0)/\Of el (nt R p*(nt R p ^ (j-1)*a0)):=by
  refine⟨h'.mul (h'.pow (sub _ oP) _) ha0,lj (j-1) (by omega),?_⟩
  have e:nt R p ^ j=nt R p ^ (j-1)*nt R p:=by rw[<- bH];congr 1;omega
  have pj:Of el (nt R p ^ j*a0):=pj;rw[e] at pj;rw[show nt R p*(nt R p ^ (j-1)*a0)=nt R p ^ (j-1)*nt R p*a0 by grind]
  exact pj
 by_cases c:∃a,(O' a/\¬ Of el a/\Of el (nt R p*a))/\∀x,lZ (Of el) (nt R p) (p ^ k) x->Of el (x*a)
 ·obtain⟨a,⟨oa,na,pa⟩,ha⟩:=c
  refine na (hM a ⟨pa,λb hb=>?_⟩)
  have S2:Of el (a*b):=by have:=ha b hb;rw[show a*b=b*a by grind];exact this
  refine⟨S2,?_⟩
  obtain⟨w,ow,ew⟩:=hb.2;have key:qk (Of el) (nt R p) ((a*b) ^ (p ^ k*(N+1))):=by
   have e1:b ^ (p ^ k*(N+1))=nt R p*(nt R p ^ N*w ^ (N+1)):=by
    rw[LO,ew,zk,bH];grind
   have o1:=fin _ (h'.pow oa (p ^ k*(N+1)));refine⟨nt R p ^ N*a ^ (p ^ k*(N+1))*w ^ (N+1),h.mul o1 (h.pow ow _),?_⟩
   rw[zk,e1];grind
  obtain⟨w2,XZ,X0⟩:=D6 B h hp S2 _ key;refine⟨(a*b) ^ (p ^ k-n)*w2,h.mul (h.pow S2 _) XZ,?_⟩
  have:(a*b) ^ (p ^ k)=(a*b) ^ (p ^ k-n)*(a*b) ^ n:=by rw[<- jM];congr 1;omega
  rw[this,X0];grind
 ·have step:∀a,(O' a/\¬ Of el a/\Of el (nt R p*a))->∃b,(O' b/\¬ Of el b/\Of el (nt R p*b))/\∃x,lZ (Of el) (nt R p) (p ^ k) x/\b=x*a:=by
   intro a ha;refine V? λz=>c ⟨a,ha,λx hx=>V? λw=>z ⟨x*a,⟨h'.mul (sub _ hx.1) ha.1,w,?_⟩,x,hx,rfl⟩⟩
   rw[show nt R p*(x*a)=x*(nt R p*a) by grind]
   exact h.mul hx.1 ha.2.2
  obtain⟨s,hs,hx⟩:=Nv step M1;have X3:∀i d,∃z,lZ (Of el) (nt R p) (p ^ k) z/\s (i+d+1)=z*s i:=by
   intro i d;induction d with
   | zero=>
    obtain⟨x,S3,e⟩:=hx i;exact⟨x,S3,e⟩
   | succ d ih=>
    obtain⟨z,hz,e⟩:=ih;obtain⟨x,S3,e2⟩:=hx (i+d+1);refine⟨x*z,hz.mul h S3.1,?_⟩
    rw[show i+(d+1)+1=i+d+1+1 by omega,e2,e];grind
  obtain⟨v,hv⟩:=Classical.axiomOfChoice λi=>(hs i).2.2
  obtain⟨c,⟨i1,hi1,hc1⟩,hr⟩:=zj hp n v;obtain⟨i0,hi0,hc0,hl⟩:=qT (P:=λi=>¬ (p:Int) ∣ c i) i1 hc1
  have rel:Of el (sR (n+1) c s):=by
   have e:nt R p*sR (n+1) c s=el λj=>sm (n+1) c v j:=by
    rw[mP,B.sm (n+1)];exact je (n+1) (λ_ _=>rfl) λi _=>hv i
   obtain⟨z,hz⟩:∃z:Vc,∀j,j<n->sm (n+1) c v j=(p:Int)*z j:=⟨λj=>sm (n+1) c v j / (p:Int),λj hj=>(Int.mul_ediv_cancel' (hr j hj)).symm⟩
   rw[B.sup _ (λj=>(p:Int)*z j) hz,B.smul,cE] at e
   exact⟨z,by grind⟩
  have split:∀M,i0<M->∃y o,lZ (Of el) (nt R p) (p ^ k) y/\Of el o/\sR M c s=zc R (c i0)*s i0+y*s i0+o:=by
   have low:∀M,M<=i0->Of el (sR M c s):=by
    intro M;induction M with
    | zero=>intro _;exact h.zero
    | succ M ih=>
     intro hM';obtain⟨u,hu⟩:=Classical.not_not.mp (hl M (by omega))
     refine h.add (ih (by omega)) ?_
     show Of el (zc R (c M)*s M)
     rw[hu,gG,cE,show nt R p*zc R u*s M=zc R u*(nt R p*s M) by grind]
     exact h.mul (h.zc u) (hs M).2.2
   intro M;induction M with
   | zero=>intro z;omega
   | succ M ih=>
    intro hM';have e:sR (M+1) c s=sR M c s+zc R (c M)*s M:=rfl;by_cases q:M=i0
    ·refine⟨0,sR M c s,lZ.zero h (by omega),low M (by omega),?_⟩
     rw[e,q];grind
    ·obtain⟨y,o,hy,ho,e2⟩:=ih (by omega)
     obtain⟨z,hz,e3⟩:=X3 i0 (M-i0-1);rw[show i0+(M-i0-1)+1=M by omega] at e3
     refine⟨y+zc R (c M)*z,o,hy.add h hp (hz.mul h (h.zc _)),ho,?_⟩
     rw[e,e2,e3];grind
  obtain⟨y,o,hy,ho,e⟩:=split (n+1) (by omega)
  obtain⟨u,t,hu⟩:=zh hp hc0;have pa:=(hs i0).2.2;have na:=(hs i0).2.1;rw[e] at rel;generalize s i0=a at rel pa na;have r1:Of el (zc R (c i0)*a+y*a):=by
   have:=h.add rel (h.neg ho)
   rw[show zc R (c i0)*a+y*a+o+-o=zc R (c i0)*a+y*a by grind] at this
   exact this
  have hY:lZ (Of el) (nt R p) (p ^ k) (-(zc R u*y)):=(hy.mul h (h.zc u)).neg h;have r2:Of el (a-(-(zc R u*y))*a):=by
   have h1:=h.add (h.mul (h.zc u) r1) (h.neg (h.mul (h.zc t) pa));have e2:zc R (c i0)*zc R u=1+nt R p*zc R t:=by rw[<- gG,hu,oW,gi,gG,cE]
   rw[show zc R u*(zc R (c i0)*a+y*a)+-(zc R t*(nt R p*a))=a-(-(zc R u*y))*a by grind] at h1
   exact h1
  generalize -(zc R u*y)=Y at hY r2;have r3:∀m:Nat,Of el (a-Y ^ m*a):=by
   intro m;induction m with
   | zero=>rw[bO,show a-1*a=0 by grind];exact h.zero
   | succ m ih=>
    have h1:=h.add ih (h.mul (h.pow hY.1 m) r2);rw[show a-Y ^ m*a+Y ^ m*(a-Y*a)=a-Y ^ (m+1)*a by rw[bH];grind] at h1
    exact h1
  obtain⟨w,ow,ew⟩:=hY.2;have h1:=h.add (r3 (p ^ k)) (h.mul ow pa);rw[ew,show a-nt R p*w*a+w*(nt R p*a)=a by grind] at h1
  exact na h1
end
theorem uI {f g:Fn}{n:Nat}{M:Int}(h:∀m,M ∣ g m-f m):∀k j,M ∣ tk g n k j-tk f n k j
 | 0,j=>⟨0,by show xp 0 j-xp 0 j=_;omega⟩
 | k+1,j=>by
  show M ∣ (if j=0 then 0 else tk g n k (j-1))-tk g n k (n-1)*g j-((if j=0 then 0 else tk f n k (j-1))-tk f n k (n-1)*f j)
  obtain⟨a,ha⟩:=uI (n:=n) h k (n-1);obtain⟨b,hb⟩:=h j;have e1:tk g n k (n-1)=tk f n k (n-1)+M*a:=by omega
  have e2:g j=f j+M*b:=by omega
  rw[e1,e2];by_cases z:j=0
  ·rw[W7 z,W7 z]
   exact⟨-(tk f n k (n-1)*b)-a*(f j+M*b),by grind⟩
  ·rw[W6 z,W6 z]
   obtain⟨c,hc⟩:=uI (n:=n) h k (j-1);have e3:tk g n k (j-1)=tk f n k (j-1)+M*c:=by omega
   rw[e3];exact⟨c-(tk f n k (n-1)*b)-a*(f j+M*b),by grind⟩
theorem zl {c:Vc}{A B:Nat->Vc}{M:Int}{j:Nat}:∀n,(∀i,i<n->M ∣ B i j-A i j)->M ∣ sm n c B j-sm n c A j
 | 0,_=>⟨0,by show(0:Int)-0=_;simp⟩
 | n+1,h=>by
  obtain⟨x,hx⟩:=zl n (c:=c) λi hi=>h i (by omega)
  obtain⟨y,hy⟩:=h n (by omega)
  have e:B n j=A n j+M*y:=by omega
  refine⟨x+c n*y,?_⟩
  show sm n c B j+c n*B n j-(sm n c A j+c n*A n j)=_
  rw[e];grind
def KN (f:Fn)(n:Nat)(u v:Vc):Vc:=λk=>sm n u (λa k=>sm n v (λb=>tk f n (a+b)) k) k
theorem HK {f g:Fn}{n:Nat}{M:Int}(h:∀m,M ∣ g m-f m)(u v:Vc)(k:Nat):M ∣ KN g n u v k-KN f n u v k:=
 zl n λa _=>zl n λb _=>uI h (a+b) k
section
variable {R:Type} [CommRing R] {f:Fn} {n p d:Nat} {φ:Vc->R} {ip:R} {T:Nat->Vc}
theorem kT.rows (X:Xr f n p φ ip)(L:kT n p φ ip d T)(z:Vc):∃c:Vc,∀j,j<n->(p:Int) ^ d*z j=sm n c T j:=by
 have B:=X.t_;have PY:zc R ((p:Int) ^ d)*ip ^ d=1:=jN X.inv d;obtain⟨c,hc⟩:=L.all z;refine⟨c,λj hj=>?_⟩
 have:(φ λj=>(p:Int) ^ d*z j)=φ λj=>sm n c T j:=by
  rw[B.smul,hc];show zc R ((p:Int) ^ d)*(ip ^ d*φ _)=_
  grind
 exact B.inj _ _ this j hj
theorem kT.prods (X:Xr f n p φ ip)(L:kT n p φ ip d T)(x y:Vc):∃c:Vc,∀j,j<n->KN f n (λj=>sm n x T j) (λj=>sm n y T j) j=(p:Int) ^ d*sm n c T j:=by
 have B:=X.t_;have PY:zc R ((p:Int) ^ d)*ip ^ d=1:=jN X.inv d;obtain⟨c,hc⟩:=L.sub.mul ⟨x,rfl⟩ ⟨y,rfl⟩;refine⟨c,λj hj=>?_⟩
 have hm:(φ λj=>sm n x T j)*(φ λj=>sm n y T j)=φ (KN f n (λj=>sm n x T j) λj=>sm n y T j):=B.mul (c:=λa b=>tk f n (a+b)) X.mul _ _
 have key:φ (KN f n (λj=>sm n x T j) λj=>sm n y T j)=φ λm=>(p:Int) ^ d*sm n c T m:=by
  rw[B.smul,<- hm];have h1:ip ^ d*(φ λj=>sm n x T j)*(ip ^ d*φ λj=>sm n y T j)=ip ^ d*φ λm=>sm n c T m:=hc
  have h2:zc R ((p:Int) ^ d)*(zc R ((p:Int) ^ d)*(ip ^ d*(φ λj=>sm n x T j)*(ip ^ d*φ λj=>sm n y T j)))=zc R ((p:Int) ^ d)*(zc R ((p:Int) ^ d)*(ip ^ d*φ λm=>sm n c T m)):=by rw[h1]
  grind
 exact B.inj _ _ key j hj
theorem kT.KO (X:Xr f n p φ ip)(st:cU n T)(all:∀z:Vc,∃c:Vc,∀j,j<n->(p:Int) ^ d*z j=sm n c T j)(prods:∀x y:Vc,∃c:Vc,∀j,j<n->KN f n (λj=>sm n x T j) (λj=>sm n y T j) j=(p:Int) ^ d*sm n c T j):kT n p φ ip d T:=by
 have B:=X.t_;have BT:=B.lX (d:=d) X.inv st;have PY:zc R ((p:Int) ^ d)*ip ^ d=1:=jN X.inv d;have hall:∀z,Of (g_ n φ ip d T) (φ z):=λz=>by
  obtain⟨c,hc⟩:=all z;refine⟨c,?_⟩
  show φ z=ip ^ d*φ _
  rw[<- B.sup (λj=>(p:Int) ^ d*z j) (λj=>sm n c T j) hc,B.smul]
  grind
 refine⟨st,⟨by rw[<- X.one];exact hall _,?_,?_,?_⟩,hall⟩
 ·rintro a b ⟨x,rfl⟩ ⟨y,rfl⟩
  exact⟨λj=>1*x j+y j,by rw[BT.iR,gi];grind⟩
 ·rintro a ⟨x,rfl⟩
  exact⟨λj=>-1*x j,by rw[BT.smul,mO,gi];grind⟩
 ·rintro a b ⟨x,rfl⟩ ⟨y,rfl⟩
  obtain⟨c,hc⟩:=prods x y;refine⟨c,?_⟩
  show ip ^ d*(φ λj=>sm n x T j)*(ip ^ d*φ λj=>sm n y T j)=ip ^ d*φ λj=>sm n c T j
  have hm:(φ λj=>sm n x T j)*(φ λj=>sm n y T j)=φ (KN f n (λj=>sm n x T j) λj=>sm n y T j):=B.mul (c:=λa b=>tk f n (a+b)) X.mul _ _
  rw[B.sup _ (λm=>(p:Int) ^ d*sm n c T m) hc,B.smul] at hm
  grind
end
theorem kT.near {R R':Type}[CommRing R][CommRing R']{f g:Fn}{n p d s:Nat}{φ:Vc->R}{ip:R}{φ':Vc->R'}{S4:R'}{T:Nat->Vc}(X:Xr f n p φ ip)(X':Xr g n p φ' S4)(L:kT n p φ ip d T)(h:∀m,(p:Int) ^ (s+1) ∣ g m-f m)(h2:2*d<=s+1):kT n p φ' S4 d T:=by
 refine kT.KO X' L.st (kT.rows X L) λx y=>?_
 obtain⟨c,hc⟩:=kT.prods X L x y;obtain⟨w,hw⟩:∃w:Vc,∀j,KN g n (λj=>sm n x T j) (λj=>sm n y T j) j=KN f n (λj=>sm n x T j) (λj=>sm n y T j) j+(p:Int) ^ (s+1)*w j:=by
  obtain⟨w,hw⟩:=Classical.axiomOfChoice λj=>HK (n:=n) h (λj=>sm n x T j) (λj=>sm n y T j) j
  exact⟨w,λj=>by have:=hw j;omega⟩
 obtain⟨c2,hc2⟩:=kT.rows X L λj=>(p:Int) ^ (s+1-2*d)*w j
 refine⟨λi=>1*c i+c2 i,λj hj=>?_⟩
 rw[hw j,hc j hj,jc,<- hc2 j hj,show s+1=d+(d+(s+1-2*d)) by omega,Wg,Wg,show d+(d+(s+1-2*d))-2*d=s+1-2*d by omega]
 grind
section
variable {R:Type} [CommRing R]
inductive Cl (O P:R->Prop):R->Prop where
 | mul {a b:R}:O a->P b->Cl O P (a*b)
 | add {a b:R}:Cl O P a->Cl O P b->Cl O P (a+b)
 | neg {a:R}:Cl O P a->Cl O P (-a)
theorem Cl.sub {O P:R->Prop}(h:c8 O)(k:c8 P):c8 (Cl O P) where
 one:=by rw[show(1:R)=1*1 by grind];exact .mul h.one k.one
 add:=.add
 neg:=.neg
 mul:=by
  intro a b ha hb;induction ha with
  | @mul x y hx hy=>
   induction hb with
   | @mul u v hu hv=>rw[show x*y*(u*v)=x*u*(y*v) by grind];exact .mul (h.mul hx hu) (k.mul hy hv)
   | @add u v _ _ i1 i2=>rw[show x*y*(u+v)=x*y*u+x*y*v by grind];exact .add i1 i2
   | @neg u _ i=>rw[show x*y*-u=-(x*y*u) by grind];exact .neg i
  | @add x y _ _ i1 i2=>rw[show(x+y)*b=x*b+y*b by grind];exact .add i1 i2
  | @neg x _ i=>rw[show -x*b=-(x*b) by grind];exact .neg i
variable {f:Fn} {n p d d':Nat} {φ:Vc->R} {ip:R} {T T':Nat->Vc}
theorem HL:∀d:Nat,nt R p ^ d=zc R ((p:Int) ^ d)
 | 0=>by rw[bO,Zd,gi]
 | d+1=>by rw[bH,HL d,Y6,gG,cE]
theorem kT.holds (X:Xr f n p φ ip)(hp:p∈PR)(L:kT n p φ ip d T)(L':kT n p φ ip d' T'){k:Nat}(hq:n<=p ^ k)(hM:∀a,AL (Of (g_ n φ ip d' T')) (nt R p) (p ^ k) a->Of (g_ n φ ip d' T') a)(c:Vc):∃c':Vc,∀j,j<n->(p:Int) ^ d'*sm n c T j=(p:Int) ^ d*sm n c' T' j:=by
 have B:=X.t_;have X4:=B.lX (d:=d') X.inv L'.st;have PY:zc R ((p:Int) ^ d)*ip ^ d=1:=jN X.inv d;have X5:zc R ((p:Int) ^ d')*ip ^ d'=1:=jN X.inv d';have home:∀b,Of (g_ n φ ip d T) b->Of (g_ n φ ip d' T') (nt R p ^ d*b):=by
  rintro b ⟨x,rfl⟩;have e:nt R p ^ d*g_ n φ ip d T x=φ λj=>sm n x T j:=by
   rw[HL];show zc R ((p:Int) ^ d)*(ip ^ d*φ _)=_
   grind
  rw[e];exact L'.all _
 have fin:∀a,Cl (Of (g_ n φ ip d' T')) (Of (g_ n φ ip d T)) a->Of (g_ n φ ip d' T') (nt R p ^ d*a):=by
  intro a ha;induction ha with
  | @mul x y hx hy=>rw[show nt R p ^ d*(x*y)=x*(nt R p ^ d*y) by grind];exact L'.sub.mul hx (home y hy)
  | @add x y _ _ i1 i2=>rw[show nt R p ^ d*(x+y)=nt R p ^ d*x+nt R p ^ d*y by grind];exact L'.sub.add i1 i2
  | @neg x _ i=>rw[show nt R p ^ d*-x=-(nt R p ^ d*x) by grind];exact L'.sub.neg i
 have key:=KL X4 L'.sub hp X.inv hq hM (Cl.sub L'.sub L.sub) (λa ha=>by rw[show a=a*1 by grind];exact .mul ha L.sub.one) fin (g_ n φ ip d T c) (by rw[show g_ n φ ip d T c=1*g_ n φ ip d T c by grind];exact .mul L'.sub.one ⟨c,rfl⟩)
 obtain⟨c',hc'⟩:=key;refine⟨c',λj hj=>?_⟩
 have:(φ λj=>(p:Int) ^ d'*sm n c T j)=φ λj=>(p:Int) ^ d*sm n c' T' j:=by
  rw[B.smul,B.smul];have h1:ip ^ d*(φ λj=>sm n c T j)=ip ^ d'*φ λj=>sm n c' T' j:=hc'
  have h2:zc R ((p:Int) ^ d)*(zc R ((p:Int) ^ d')*(ip ^ d*φ λj=>sm n c T j))=zc R ((p:Int) ^ d)*(zc R ((p:Int) ^ d')*(ip ^ d'*φ λj=>sm n c' T' j)):=by rw[h1]
  grind
 exact B.inj _ _ this j hj
theorem kT.P5 (X:Xr f n p φ ip)(hp:p∈PR)(L:kT n p φ ip d T)(L':kT n p φ ip d' T'){k:Nat}(hq:n<=p ^ k)(hM:∀a,AL (Of (g_ n φ ip d' T')) (nt R p) (p ^ k) a->Of (g_ n φ ip d' T') a)
  {s s':Nat->Nat} (es:∀i,i<n->T i i=(p:Int) ^ s i) (es':∀i,i<n->T' i i=(p:Int) ^ s' i) {i:Nat} (hi:i<n):d+s' i<=d'+s i:=by
 obtain⟨c',hc'⟩:=kT.holds X hp L L' hq hM λk=>if k=i then 1 else 0
 have p2:=cC hp;have X6:∀k:Nat,(p:Int) ^ k≠0:=λk=>Int.pow_ne_zero (by omega)
 have e:∀j,j<n->(p:Int) ^ d'*T i j=(p:Int) ^ d*sm n c' T' j:=λj hj=>by rw[<- hc' j hj,gZ hi]
 have z:∀j,i<j->sm n c' T' j=0:=λj hj=>by
  by_cases hj':j<n
  ·have:=e j hj'
   rw[L.st.lX i hi j hj,Y4] at this;rcases Int.mul_eq_zero.mp this.symm with w|w
   ·exact Jd w (X6 d)
   ·exact w
  ·exact jd (q:=0) λt ht=>L'.st.lX t ht j (by omega)
 obtain⟨a,ea,_,_⟩:=iZ.cut L'.st ⟨c',λj=>rfl⟩ hi z
 have e2:=e i hi;rw[ea,es i hi,es' i hi] at e2;have:(p:Int) ^ (d+s' i) ∣ (p:Int) ^ (d'+s i):=⟨a,by rw[Wg,Wg,e2];ac_rfl⟩
 exact vR (by omega) this
end
theorem vS {M:Int}{a b:Nat->Int}:∀n,(∀i,i<n->M ∣ b i-a i)->M ∣ bC n b-bC n a
 | 0,_=>⟨0,by show(0:Int)-0=_;simp⟩
 | n+1,h=>by
  obtain⟨x,hx⟩:=vS n λi hi=>h i (by omega)
  obtain⟨y,hy⟩:=h n (by omega)
  exact⟨x+y,by show bC n b+b n-(bC n a+a n)=_;rw[Int.mul_add];omega⟩
theorem mR {M a b c e:Int}(h:M ∣ b-a)(k:M ∣ e-c):M ∣ b*e-a*c:=by
 obtain⟨x,hx⟩:=h;obtain⟨y,hy⟩:=k;have e1:b=a+M*x:=by omega
 have e2:e=c+M*y:=by omega
 exact⟨a*y+x*c+M*x*y,by rw[e1,e2];grind⟩
theorem AQ {M:Int}:∀(n:Nat) {A B:Mx},(∀i j,i<n->j<n->M ∣ B i j-A i j)->M ∣ det n B-det n A
 | 0,_,_,_=>⟨0,by show(1:Int)-1=_;simp⟩
 | n+1,A,B,h=>by
  rw[cN,cN];refine vS (n+1) λi hi=>?_
  refine mR (mR ⟨0,by simp⟩ (h i n hi (by omega))) (AQ n λr c hr hc=>h _ _ (rW hr) (by omega))
theorem E7 {f g:Fn}{n L:Nat}{M:Int}(h:∀m,M ∣ g m-f m){u v:Fn}(hu:∀m,u m=((m+1:Nat):Int)*f (m+1))(hv:∀m,v m=((m+1:Nat):Int)*g (m+1)):
  M ∣ (det n λi j=>bC L λk=>v k*tk g n (k+i) j)-det n λi j=>bC L λk=>u k*tk f n (k+i) j:=by
 refine AQ n λi j _ _=>vS L λk _=>mR ?_ (uI h (k+i) j)
 rw[hu k,hv k];exact mR ⟨0,by simp⟩ (h (k+1))
theorem HN {p a b:Int}{s:Nat}(hp:p≠0)(h:dW p a s)(k:p ^ (s+1) ∣ b-a):dW p b s/\b≠0:=by
 obtain⟨m,em,nd⟩:=h.Rl;obtain⟨t,ht⟩:=k;have eb:b=p ^ s*(m+p*t):=by
  have:b=a+p ^ (s+1)*t:=by omega
  rw[this,em,Y6];grind
 have Ry:¬ p ∣ m+p*t:=λ⟨x,hx⟩=>nd ⟨x-t,by grind⟩
 refine⟨dW.of hp eb Ry,λz=>?_⟩
 rw[z] at eb;rcases Int.mul_eq_zero.mp eb.symm with w|w
 ·exact Jd w (Int.pow_ne_zero hp)
 ·exact Ry ⟨0,by rw[w];simp⟩
theorem LQ {f:Fn}{n:Nat}{g:Fn}(i j:Nat):∀L,bC L (λk=>g k*tk f n (k+(i+1)) j)=(if j=0 then 0 else bC L λk=>g k*tk f n (k+i) (j-1))-(bC L λk=>g k*tk f n (k+i) (n-1))*f j
 | 0=>by show(0:Int)=(if j=0 then 0 else 0)-0*f j;split <;> simp
 | L+1=>by
  show bC L _+g L*tk f n (L+(i+1)) j=(if j=0 then 0 else bC L (λk=>g k*tk f n (k+i) (j-1))+g L*tk f n (L+i) (j-1))-(bC L (λk=>g k*tk f n (k+i) (n-1))+g L*tk f n (L+i) (n-1))*f j
  rw[LQ i j L,<- Nat.add_assoc];show _+g L*((if j=0 then 0 else tk f n (L+i) (j-1))-tk f n (L+i) (n-1)*f j)=_
  split <;> grind
theorem HP {f:Fn}{n L:Nat}{g:Fn}{a b:Nat}(hL:L<=n)(hg:∀k,(g k).natAbs<=2 ^ a)(hf:∀j,(f j).natAbs+1<=2 ^ b):∀i j,(bC L λk=>g k*tk f n (k+i) j).natAbs<=2 ^ (a+b*i)
 | 0,j=>by
  have e:(bC L λk=>g k*tk f n (k+0) j)=if j<L then g j else 0:=by
   rw[<- AM (x:=g) (j:=j) L,gm];refine aH λk hk=>?_
   rw[Ww,oY k (by omega)]
   rfl
  rw[e,W2,Ww];split
  ·exact hg j
  ·exact Yw _
 | i+1,j=>by
  rw[LQ];have h1:=HP hL hg hf i (n-1);have h2:(if j=0 then 0 else bC L λk=>g k*tk f n (k+i) (j-1)).natAbs<=2 ^ (a+b*i):=by
   split
   ·exact Yw _
   ·exact HP hL hg hf i (j-1)
  generalize (if j=0 then 0 else bC L λk=>g k*tk f n (k+i) (j-1))=x at h2
  generalize (bC L λk=>g k*tk f n (k+i) (n-1))=y at h1
  have h3:(x-y*f j).natAbs<=x.natAbs+y.natAbs*(f j).natAbs:=by
   rw[<- Ze];exact Int.natAbs_sub_le _ _
  have h4:=Zf h1 (hf j);rw[Wm,Nat.mul_one] at h4;have h5:y.natAbs*(f j).natAbs<=2 ^ (a+b*i)*(f j).natAbs:=Yr _ h1;have h6:2 ^ (a+b*i)*((f j).natAbs+1)<=2 ^ (a+b*i)*2 ^ b:=Za _ (hf j);rw[Wm,Nat.mul_one,<- Zh,show a+b*i+b=a+b*(i+1) by rw[Wm];omega] at h6
  omega
end L2
namespace L2
open PySem PySem.Spec PyProof.Rows
def LR (K:bG):List V->Hp->VK->Prop:=λxs H Q=>∃p,∃ns:List Int,xs=[.ref p]/\aN K H p (ns.map V.int)/\Q (.bl (ns.any (· != 0))) H
section
variable {X:Cx} {K:bG}
theorem KP {ns:List Int}:∀ {us:List l?},Vals (ns.map V.int) us->us.length=ns.length/\∀(i:Nat) (v:l?),us[i]?=j? v->∃(n:Int) (t:Tok),ns[i]?=j? n/\v=Value.int n t:=by
 induction ns with
 | nil=>intro us r;rw[List.map_nil] at r;cases r;exact⟨rfl,λi v h=>by simp at h⟩
 | cons n ns ih=>
  intro us r;rw[List.map_cons] at r;cases r with
  | cons h t=>
   obtain⟨tk,rfl⟩:=h;obtain⟨hl,hg⟩:=ih t;refine⟨by simp[hl],λi v hv=>?_⟩
   cases i with
   | zero=>simp at hv;exact⟨n,tk,rfl,hv.symm⟩
   | succ i=>exact hg i v (by simpa using hv)
theorem E8 (hc:X.calm=true):i7 X (.builtin "any") (LR X.K):=by
 intro pins s σ H xs us Q I rv h;obtain⟨p,ns,rfl,hq,q⟩:=h;obtain⟨u,rfl,ru⟩:=vals1 rv;cases (show u=I! p from ru)
 obtain⟨its,r,hp,_⟩:=I.list hq;obtain⟨hlen,hget⟩:=KP r;have hl:=hp.isList;have hlt:p<s.heap.objs.size:=by obtain⟨_,e,_⟩:=hl;exact Yl e
 refine call_any_walk (wpAny_pyIter_list hl ?_)
 refine⟨s.heap.objs.size,[s.heap.objs.size,p],[s.heap.objs.size],its.toArray.size,_,_,λi=>((ns.map (· != 0))[i]?).getD false,rfl,Walks.list (A:=X.A.in1) (I.ok.hd hc) _ p (Yp hlt) its.toArray,
  ⟨⟨_,Y1 _ rfl,rfl,rfl⟩,hl.push _⟩,λi v s' Q' E' hP hQ=>?_,λh' tk hk=>?_⟩
 ·obtain⟨n,t,e,rfl⟩:=hget i v (by simpa using hP)
  simp only[Ye,e,Option.map_some,Option.getD_some] at hQ
  exact truthy_int hQ
 ·have e:((Yk its.toArray.size).any λi=>((ns.map (· != 0))[i]?).getD false)=ns.any (· != 0):=by
   rw[Yq,hlen];have:=LSm.range_any (ns.map (· != 0))
   rw[Ya] at this;rw[this,List.any_map];rfl
  rw[e];exact⟨.bl _,H,I.kept (h':=h') (t':=tk) (LSm.kept_iter hk),rfl,q⟩
theorem Cd (h:X.K=K)(hc:X.calm=true):i7 X (.builtin "any") (LR K):=by subst h;exact E8 hc
end
end L2
namespace K64
open PySem L2 Alg
variable {P:F?} {w:H?} {K:bG} {mg:Str->Option l?} {base:O?}
theorem Yk_(l:List Str)(h:Yo l:=by decide +kernel):Yo l:=h
abbrev P6:List Str:=["_law_script","_law_p","_law_f","_law_index","_law_number_here","_law_size_here","_law_more","_law_step","_law_near","_law_ks","_law_other"]
abbrev U9:List Str:=["_law_f","_law_number_here","_law_found","_law_step","_law_one"]
abbrev RA:List Str:=["rows","p","many","width","left","place","at","lead_row"]
abbrev U_:List Str:=["rows","p","depth","power","left","told","place","lead"]
abbrev Va:List Str:=["_law_p","_law_n","_law_high","_law_unit","_law_index"]
abbrev Vb:List Str:=["_law_f","_law_g","_law_many","_law_one","_law_other"]
abbrev Vd:List Str:=["f","p","lattice","depth","told","place","row","lead"]
abbrev Ve:List Str:=["table","p","low","ideal","rows","line","row","one"]
abbrev RB:List Str:=["f","p","degree","lattice","depth","found","deeper"]
abbrev S5:List Str:=["rows","lead","place","power","told","row","often"]
abbrev Nx:List Str:=["rows","place","p","power","those","row","back"]
abbrev HQ:List Str:=["_law_p","_law_one","_law_other","_law_most"]
abbrev HR:List Str:=["_law_p","_law_n","_law_high","_law_unit"]
abbrev Ny:List Str:=["table","p","many","told","reached"]
abbrev E_:List Str:=["_law_cell","_law_most","_law_kind"]
abbrev HS:List Str:=["_law_p","_law_cell","_law_most"]
abbrev HU:List Str:=["_law_p","_law_rest","_law_many"]
abbrev Nz:List Str:=["number","more","often","power"]
abbrev NB:List Str:=["table","one","other","p","row"]
abbrev Ce:List Str:=["_law_number_here","_law_many"]
abbrev HV:List Str:=["_law_p","_law_g","_law_high"]
abbrev HW:List Str:=["rows","lead","place","power"]
abbrev Ci:List Str:=["row","lead_row","place","p"]
abbrev NC:List Str:=["one","lattice","f","power"]
abbrev HX:List Str:=["_law_f","_law_number_here"]
abbrev Cj:List Str:=["_law_number_here","_law_p"]
abbrev ND:List Str:=["one","other","factor","p"]
abbrev HY:List Str:=["rows","place","p","power"]
abbrev HZ:List Str:=["f","one","other","power"]
abbrev H_:List Str:=["table","one","other","p"]
abbrev zm:List Str:=["width","place","number"]
abbrev Fb:List Str:=["_law_one","_law_other"]
abbrev Ia:List Str:=["table","at","divisor"]
abbrev vU:List Str:=["_law_script","_law_k"]
abbrev Ib:List Str:=["table","row","n","p"]
abbrev Ck:List Str:=["f","lattice","power"]
abbrev Fc:List Str:=["rows","p","depth"]
abbrev Ic:List Str:=["row","place","p"]
abbrev Fd:List Str:=["_law_g","_law_k"]
abbrev sy:List Str:=["_law_f","_law_g"]
abbrev zo:List Str:=["numbers","rows"]
abbrev Fe:List Str:=["lattice","row"]
abbrev Ie:List Str:=["rows","place"]
abbrev Cm:List Str:=["_law_numbers"]
abbrev Ff:List Str:=["number","p"]
abbrev Cn:List Str:=["f","place"]
abbrev wZ:List Str:=["table","p"]
abbrev qU:List Str:=["k","p"]
abbrev l_:List Str:=["f","g"]
abbrev jA:List Str:=["f","p"]
abbrev iS:List Str:=["thing"]
abbrev Rq(a:o?):Option V:=j? (.ref a)
abbrev Iq(i:Int):Option V:=j? (.int i)
local macro_rules | `(tactic| walk_at "sc") => `(tactic| exact⟨rfl, rfl, rfl, by decide +kernel, rfl, by decide +kernel, by decide +kernel⟩)
local macro_rules | `(tactic| walk_at "rd") => `(tactic| repeat ((fail_if_success with_reducible refine fu ?_ ?_); first|refine⟨_, rfl, ?_⟩|refine⟨_, _, rfl, rfl, ?_⟩|refine⟨_, _, rfl, rfl, show(_ : Int) ≠ 0 by decide, ?_⟩|refine⟨_, _, rfl, rfl, show lQ _ _ from kL (by decide) (by decide), ?_⟩|refine⟨_, _, rfl, rfl, show lQ _ _ from gD (by decide) (by decide), ?_⟩|refine⟨_, _, rfl, rfl, show xO _ _ from(Bd.small (by decide) (by decide)).dv (by decide), ?_⟩|refine⟨_, _, rfl, rfl, show MD _ _ from⟨by decide, by decide, by decide⟩, ?_⟩|refine⟨show(_ : Int) ≠ 0 by decide, ?_⟩|refine⟨show lQ _ _ from kL (by decide) (by decide), ?_⟩|refine⟨show lQ _ _ from gD (by decide) (by decide), ?_⟩|refine⟨show xO _ _ from(Bd.small (by decide) (by decide)).dv (by decide), ?_⟩|refine⟨show MD _ _ from⟨by decide, by decide, by decide⟩, ?_⟩|refine⟨show ME _ _ = true from rfl, ?_⟩|refine⟨show isPlain _ = true from rfl, ?_⟩|refine⟨show Wy _ <= K? from aV rfl, ?_⟩))
def top (i:Nat):Q?:=PySem.Challenge.pw_branchdepth_k64_bases_of_near_ones.main.body.getD i (.Pass ⟨0,0,0,0⟩)
abbrev oZ:Q?:=top 8
theorem AR:aI iS iS (ao oZ):=by walk_at "sc"
abbrev o_:Q?:=top 9
theorem AS:aI ["k"] ["k"] (ao o_):=by walk_at "sc"
abbrev jg:Q?:=top 10
theorem fM:aI ["k","n","told","turn"] ["k","n"] (ao jg):=by walk_at "sc"
abbrev mS:Q?:=top 11
theorem iT:aI ["k","p","size"] qU (ao mS):=by walk_at "sc"
abbrev gH:Q?:=top 12
theorem qV:aI qU qU (ao gH):=by walk_at "sc"
abbrev iF:Q?:=top 14
theorem kj:aI ["thing","part"] iS (ao iF):=by walk_at "sc"
abbrev pq:Q?:=top 15
theorem AU:aI iS iS (ao pq):=by walk_at "sc"
abbrev dN:Q?:=top 16
theorem dD:aI ["numbers","many"] ["numbers"] (ao dN):=by walk_at "sc"
abbrev jO:Q?:=top 17
theorem vV:aI Cn Cn (ao jO):=by walk_at "sc"
abbrev kU:Q?:=top 18
theorem eG:aI ["f","g","product","at","one","behind","other"] l_ (ao kU):=by walk_at "sc"
abbrev nL:Q?:=top 19
theorem Co:aI ["f"] ["f"] (ao nL):=by walk_at "sc"
abbrev sA:Q?:=top 20
theorem eY:aI ["f","g","rest","quotient","degree","place","lead","at","part"] l_ (ao sA):=by walk_at "sc"
abbrev iG:Q?:=top 22
theorem gI:aI ["table","at","row"] ["table"] (ao iG):=by walk_at "sc"
abbrev gK:Q?:=top 23
theorem mT:aI ["table","at","divisor","top","others"] Ia (ao gK):=by walk_at "sc"
abbrev jP:Q?:=top 24
theorem dj:aI ["table","rows","sign","lead","at"] ["table"] (ao jP):=by walk_at "sc"
abbrev jF:Q?:=top 25
theorem fm:aI ["f","g","degree","table","rest","turn"] l_ (ao jF):=by walk_at "sc"
abbrev jh:Q?:=top 26
theorem iH:aI ["f","degree","told"] ["f"] (ao jh):=by walk_at "sc"
abbrev fR:Q?:=top 31
theorem nY:aI iS iS (ao fR):=by walk_at "sc"
abbrev kW:Q?:=top 32
theorem oz:aI ["f","p","size"] jA (ao kW):=by walk_at "sc"
abbrev fU:Q?:=top 33
theorem iQ:aI ["f","p","size"] jA (ao fU):=by walk_at "sc"
abbrev gp:Q?:=top 35
theorem lV:aI ["row","lead_row","place","p","factor"] Ci (ao gp):=by walk_at "sc"
abbrev fN:Q?:=top 36
theorem gM:aI ["row","place","p","back"] Ic (ao fN):=by walk_at "sc"
abbrev kX:Q?:=top 37
theorem jQ:aI ["rows","place","at","row"] Ie (ao kX):=by walk_at "sc"
abbrev iA:Q?:=top 38
theorem f7:aI RA ["rows","p"] (ao iA):=by walk_at "sc"
abbrev sC:Q?:=top 40
theorem fV:aI ["k","power","one","other","factor","next_factor","quotient"] ["k","power"] (ao sC):=by walk_at "sc"
abbrev kY:Q?:=top 41
theorem AV:aI zm zm (ao kY):=by walk_at "sc"
abbrev fq:Q?:=top 42
theorem kZ:aI Nx HY (ao fq):=by walk_at "sc"
abbrev ko:Q?:=top 43
theorem ji:aI S5 HW (ao ko):=by walk_at "sc"
abbrev iU:Q?:=top 44
theorem dO:aI U_ Fc (ao iU):=by walk_at "sc"
abbrev h_:Q?:=top 45
theorem dZ:aI ["lattice","row","left","told","place","often"] Fe (ao h_):=by walk_at "sc"
abbrev kq:Q?:=top 46
theorem Fg:aI zo zo (ao kq):=by walk_at "sc"
abbrev iV:Q?:=top 48
theorem jR:aI ["f","one","other","power","product","rest"] HZ (ao iV):=by walk_at "sc"
abbrev gO:Q?:=top 49
theorem AW:aI Ck Ck (ao gO):=by walk_at "sc"
abbrev jj:Q?:=top 50
theorem tX:aI NB H_ (ao jj):=by walk_at "sc"
abbrev pA:Q?:=top 51
theorem jG:aI ["table","row","n","p","told","turn"] Ib (ao pA):=by walk_at "sc"
abbrev mU:Q?:=top 52
theorem i6:aI Ny wZ (ao mU):=by walk_at "sc"
abbrev ia:Q?:=top 53
theorem cP:aI Ve wZ (ao ia):=by walk_at "sc"
abbrev nM:Q?:=top 54
theorem gq:aI RB jA (ao nM):=by walk_at "sc"
abbrev ie:Q?:=top 55
theorem dw:aI Vd jA (ao ie):=by walk_at "sc"
abbrev mV:Q?:=top 57
theorem zp:aI vU vU (ao mV):=by walk_at "sc"
abbrev pB:Q?:=top 58
theorem eZ:aI ["_law_script","_law_k","_law_x","_law_total","_law_j"] vU (ao pB):=by walk_at "sc"
abbrev pC:Q?:=top 59
theorem tY:aI Fb Fb (ao pC):=by walk_at "sc"
abbrev mW:Q?:=top 60
theorem k8:aI ["_law_numbers","_law_many"] Cm (ao mW):=by walk_at "sc"
abbrev sD:Q?:=top 61
theorem k_:aI ["_law_f","_law_g","_law_found","_law_i","_law_j"] sy (ao sD):=by walk_at "sc"
abbrev qW:Q?:=top 62
theorem nN:aI Vb sy (ao qW):=by walk_at "sc"
abbrev vW:Q?:=top 63
theorem gP:aI ["_law_cell","_law_most","_law_kind","_law_found","_law_many","_law_rest","_law_base","_law_k"] E_ (ao vW):=by walk_at "sc"
abbrev sE:Q?:=top 64
theorem lB:aI ["_law_number_here","_law_many","_law_found","_law_k"] Ce (ao sE):=by walk_at "sc"
abbrev vX:Q?:=top 65
theorem nO:aI ["_law_number_here","_law_p","_law_found"] Cj (ao vX):=by walk_at "sc"
abbrev iW:Q?:=top 66
theorem oA:aI Va HR (ao iW):=by walk_at "sc"
abbrev sF:Q?:=top 67
theorem cG:aI ["_law_p","_law_rest","_law_many","_law_zeros_here","_law_f","_law_k","_law_number_here","_law_index","_law_i","_law_j"] HU (ao sF):=by walk_at "sc"
abbrev ig:Q?:=top 68
theorem mX:aI ["_law_p","_law_g","_law_high","_law_n"] HV (ao ig):=by walk_at "sc"
abbrev nQ:Q?:=top 69
theorem gQ:aI U9 HX (ao nQ):=by walk_at "sc"
abbrev sG:Q?:=top 70
theorem e_:aI ["_law_p","_law_cell","_law_most","_law_n","_law_rest","_law_high","_law_unit","_law_g"] HS (ao sG):=by walk_at "sc"
abbrev sH:Q?:=top 71
theorem fW:aI ["_law_p","_law_one","_law_other","_law_most","_law_f","_law_index","_law_g","_law_more","_law_both"] HQ (ao sH):=by walk_at "sc"
abbrev ku:Q?:=top 72
theorem jk:aI P6 ["_law_script"] (ao ku):=by walk_at "sc"
structure iI (mg:Str->Option l?):Prop where
 «abs»:mg "abs"=q?
 «any»:mg "any"=q?
 «bool»:mg "bool"=q?
 «enumerate»:mg "enumerate"=q?
 «int»:mg "int"=q?
 «isinstance»:mg "isinstance"=q?
 «len»:mg "len"=q?
 «list»:mg "list"=q?
 «max»:mg "max"=q?
 «min»:mg "min"=q?
 «range»:mg "range"=q?
 «reversed»:mg "reversed"=q?
 «sum»:mg "sum"=q?
 «zip»:mg "zip"=q?
def sI (K:bG):Sp:=λvs H Q _=>∃(x:V) (T:String),vs=[x]/\DB K H x T/\Q (.bl (decide (T="int"))) H
def zq:Sp:=λvs H Q _=>∃k p:Int,vs=[.int k,.int p]/\k≠0/\2<=p/\p<2 ^ 62/\∀(v:Nat) (m:Int) (r:o?) (H':Hp),aG H H'->k=p ^ v*m->¬ p ∣ m->H' r=j? (.tup [.int v,.int m])->Q (.ref r) H'
def P7 (p k:Int)(x:V):Prop:=(k=0/\x=.eO)\/(k≠0/\∃v:Nat,dW p k v/\x=.int v)
def uJ:Sp:=λvs H Q _=>∃k p:Int,vs=[.int k,.int p]/\2<=p/\p<2 ^ 62/\∀(x:V) (H':Hp),aG H H'->P7 p k x->Q x H'
section
theorem AX (B:iI mg)(F:Src K mg "is_whole" oZ iS):b_ P w K mg base 1 "is_whole" iS (sI K):=by
 refine F.ok AR (λvs H Q E h=>?_) (λf cdv A outer s H vs Q E hr h=>?_)
 ·obtain⟨x,T,rfl,_⟩:=h;rfl
 obtain⟨x,T,rfl,ty,q⟩:=h;refine⟨_,ay (aK (uO (aM (kM (K:=K) rfl) rfl B.isinstance jK (af (pv 0) (af (yu (v:=.ty "int") rfl B.int MU rfl) ai))) (rK (F4 (aM (kM (K:=K) rfl) rfl B.isinstance jK (af (pv 0) (af (yu (v:=.ty "bool") rfl B.bool J1 rfl) ai))))))),?_⟩
 cases ty with
 | eO=>exact⟨_,rfl,_,_,"int",false,rfl,.eO,by with_unfolding_all rfl,_,rfl,q⟩
 | bl b=>exact⟨_,rfl,_,_,"int",true,rfl,.bl b,by with_unfolding_all rfl,_,rfl,_,rfl,_,_,"bool",true,rfl,.bl b,rfl,_,rfl,q⟩
 | int i=>exact⟨_,rfl,_,_,"int",true,rfl,.int i,rfl,_,rfl,_,rfl,_,_,"bool",false,rfl,.int i,by with_unfolding_all rfl,_,rfl,q⟩
 | str b=>exact⟨_,rfl,_,_,"int",false,rfl,.str b,by with_unfolding_all rfl,_,rfl,q⟩
 | lst e=>exact⟨_,rfl,_,_,"int",false,rfl,.lst e,by with_unfolding_all rfl,_,rfl,q⟩
 | tup e=>exact⟨_,rfl,_,_,"int",false,rfl,.tup e,by with_unfolding_all rfl,_,rfl,q⟩
theorem zu (F:Src K mg "taken_out" mS qU):b_ P w K mg base 1 "taken_out" qU zq:=by
  refine F.ok iT (λvs H Q E h=>?_) (λf cdv A outer s H vs Q E hr h=>?_)
  . obtain⟨a,b,rfl,_⟩:=h;rfl
  obtain⟨k,p,rfl,h0,hp,hp2,q⟩:=h;refine⟨_,ah (aB (i:=2) iT.nd rfl (z? rfl) ak)
    (ah (ee D? (aR gy (au bw (pv 0) (pv 1)) ak (aY _))
      (ah (aB (i:=0) iT.nd rfl (z? rfl) (au bE (pv 0) (pv 1)))
      (ay (yz (i:=2) iT.nd rfl (z? rfl) ak yC))))
    (ay (aK (i8 (af (pv 2) (af (pv 0) ai)))))),?_⟩
  refine mw (λσ H2=>H2=H/\∃(m:Int) (v:Nat),σ=[j? (.int m),j? (.int p),j? (.int v)]/\m≠0/\k=p ^ v*m) (λσ _=>match σ with|some (.int m)::_=>m.natAbs|_=>0) ?_ ?_ ?_
  . exact⟨rfl,k,0,rfl,h0,by simp⟩
  . rintro σ H2 ⟨rfl,m,v,rfl,hm,hk⟩
    refine⟨_,rfl,_,rfl,_,_,rfl,rfl,show p≠0 by omega,rfl,_,rfl,?_⟩
    refine fu (λc=>?_) (λc=>?_)
    . have c':m.fmod p=0:=V.int.inj (W9 c)
      obtain⟨m',rfl⟩:=(qz (by omega)).mp c'
      have hm':m'≠0:=λz=>hm (by rw[z];simp)
      refine⟨_,rfl,_,rfl,_,_,rfl,rfl,(Bd.small (by omega) (by omega)).dv (by omega),?_⟩
      refine⟨_,rfl,_,_,rfl,rfl,⟨rfl,m',v+1,?_,hm',?_⟩,?_⟩
      . show [j? (V.int ((p*m').fdiv p)),j? (V.int p),j? (V.int ((v:Int)+1))]=_
        rw[kN (show p≠0 by omega)]
        rfl
      . rw[hk,Y6];ac_rfl
      . show((p*m').fdiv p).natAbs<(p*m').natAbs
        rw[kN (show p≠0 by omega),Ze]
        have h2:2<=p.natAbs:=by omega
        have h3:0<m'.natAbs:=by omega
        calc m'.natAbs<2*m'.natAbs:=by omega
          _<=p.natAbs*m'.natAbs:=Yr _ h2
    . have c':¬ p ∣ m:=λz=>c (W8 (Jb V.int ((qz (by omega)).mpr z)))
      refine⟨_,rfl,_,rfl,aV rfl,λr hr'=>?_⟩
      exact q v m r _ (aA hr' _) hk c' av
  . rintro σ H Q Q' f ⟨v,e,v2,e2,i,j,e3,e4,c,s,k,ek,h⟩
    exact⟨v,e,v2,e2,i,j,e3,e4,c,s,k,ek,f _ _ h⟩
theorem qX (mY:b_ P w K mg base 1 "taken_out" qU zq)(F:Src K mg "size_of_number" gH qU):b_ P w K mg base 2 "size_of_number" qU uJ:=by
 refine F.ok qV (λvs H Q E h=>?_) (λf cdv A outer s H vs Q E hr h=>?_)
 ·obtain⟨a,b,rfl,_⟩:=h;rfl
 obtain⟨k,p,rfl,hp,hp2,q⟩:=h;refine⟨_,ah (dS (aR gy (pv 0) ak (aY _))
   (ay (aK rJ))
   (bY))
  (ay (aK (bI (qw (K:=K) rfl) (aE mY hr (af (pv 0) (af (pv 1) ai))) ak (λ_ _=>rfl)))),?_⟩
 refine⟨_,rfl,rfl,_,rfl,?_⟩
 refine fu (λc=>?_) (λc=>?_)
 ·exact q _ H (aG.refl H) (.inl ⟨V.int.inj (W9 c),rfl⟩)
 ·have h0:k≠0:=λz=>c (W8 (Jb V.int z))
  refine⟨_,rfl,_,rfl,k,p,rfl,h0,hp,hp2,λv m r H' g hk hm e=>?_⟩
  exact⟨_,_,_,_,rfl,rfl,kG.of e,rfl,q _ H' g (.inr ⟨h0,v,dW.of (by omega) hk hm,rfl⟩)⟩
end
section
theorem ua (B:iI mg)(F:Src K mg "number_power" jg ["k","n"]):b_ P w K mg base 1 "number_power" ["k","n"] vL:=by
 refine F.ok fM (λvs H Q E h=>?_) (λfa cdv A outer s H vs Q E hr h=>?_)
 ·obtain⟨k,n,rfl,_⟩:=h;rfl
 obtain⟨k,n,rfl,hk,hn,q⟩:=h;refine⟨_,ah (aB (i:=2) fM.nd rfl (z? rfl) ak)
  (ah (cK D? rfl (bL rfl B.range (af (pv 1) ai)) (aC (i:=3) fM.nd rfl (z? rfl))
   (ay (aB (i:=2) fM.nd rfl (z? rfl) (au aT (pv 2) (pv 0)))))
  (ay (aK (pv 2)))),?_⟩
 walk_at "rd"
 refine⟨by omega,by omega,?_⟩
 have b:∀i:Nat,i<=100->Bd 640 ((k ^ i:Nat):Int):=λi hi=>by
  show((k ^ i:Nat):Int).natAbs<_
  rw[Int.natAbs_natCast];refine Z0 (Zx (show k<=2 ^ 6 by omega) i) ?_
  rw[<- Wh];exact Wd (by decide) (by omega)
 rw[Yj];refine dF (λi σ H2=>H2=H/\∃o,σ=[j? (.int k),j? (.int n),Iq ((k ^ i:Nat)),o]) ⟨rfl,_,rfl⟩ ?_ ?_
 ·rintro i σ H2 hi ⟨rfl,o,rfl⟩
  refine⟨_,rfl,_,rfl,_,_,rfl,rfl,(b i (by omega)).ok (Bd.small (x:=(k:Int)) (by omega) (by omega)),?_⟩
  have e:((k ^ (i+1):Nat):Int)=((k ^ i:Nat):Int)*(k:Int):=by rw[Zq,Zl]
  rw[e];exact⟨rfl,_,rfl⟩
 ·rintro σ H2 ⟨rfl,o,rfl⟩
  exact⟨_,rfl,q⟩
end
def zw (ls:List (List Int)):Mx:=λi j=>(ls.getD i []).getD j 0
structure RC (m:Nat)(ts:List LP):Prop where
 len:ts.length=m
 row:∀t∈ts,t.2.length=m
theorem pD {ts:List LP}{i:Nat}(hi:i<ts.length)(j:Nat):zw (lvals ts) i j=ts[i].2.getD j 0:=by
 have:(lvals ts).getD i []=ts[i].2:=by simp[Yb,hi]
 unfold zw;rw[this]
theorem sJ {xs:List Int}{j:Nat}(h:j<xs.length):rF (xs.map V.int) (j:Int)=j? (.int (xs.getD j 0)):=by
 rw[iw (by omega) (by rw[Ya];omega)]
 simp[Yb,h]
def Ig (K:bG):Sp:=λvs H Q _=>∃(p:o?) (ts:List LP),vs=[.ref p]/\Bu H p ts/\(∀t∈ts,0<t.2.length)/\ts.length<=1000/\
 (∀(t:Nat) (H':Hp),aG H H'->t<ts.length->zw (lvals ts) t 0≠0->Q (.int (t:Int)) H')/\∀H',aG H H'->(∀i,i<ts.length->zw (lvals ts) i 0=0)->Q .eO H'
section
theorem sL (B:iI mg)(F:Src K mg "place_of_lead" iG ["table"]):b_ P w K mg base 1 "place_of_lead" ["table"] (Ig K):=by
 refine F.ok gI (λvs H Q E h=>?_) (λf cdv A outer s' H vs Q E hr h=>?_)
 ·obtain⟨p,ts,rfl,_⟩:=h;rfl
 obtain⟨p,ts,rfl,hT,hp,lt,q1,q2⟩:=h;refine⟨_,ah (cK D? rfl (iy (K:=K) rfl rfl B.enumerate (af (pv 0) ai)) (cZ (n:=2) (K:=K) rfl rfl (aS (aC (i:=1) gI.nd rfl (z? rfl)) (aS (aC (i:=2) gI.nd rfl (z? rfl)) cY)))
   (ay (dS (aR tN (bI (aJ (K:=K) rfl) (pv 2) ak (λ_ _=>rfl)) ak (aY _))
    (ay (aK (pv 1)))
    (bY))))
  (ay (aK rJ)),?_⟩
 have lrl:(lrefs ts).length=ts.length:=Ya _;refine⟨_,rfl,p,rfl,⟨_,hT.sql⟩,j_ (st:=0) (xs:=lrefs ts) (λi σ H2=>aG H H2/\(∃o1 o2,σ=[Rq p,o1,o2])/\∀j,j<i->zw (lvals ts) j 0=0) ⟨aG.refl _,⟨_,_,rfl⟩,λj hj=>Jd hj (by omega)⟩ (λi σ H2 _ h=>(hT.same h.1).sql) ?_ ?_⟩
 ·rintro i x σ H2 r hx ⟨gg,⟨o1,o2,rfl⟩,hz⟩ hr'
  obtain⟨hi,rfl⟩:=xY hx;have gr:=aA hr' (.tup [.int ((0+i:Nat):Int),.ref ts[i].1]);have g2:=gg.trans gr;have e1:=g2 _ _ (hT.it ts[i] (Yy _));have a0:=sJ (xs:=ts[i].2) (j:=0) (hp ts[i] (Yy _));have em:=pD hi 0;refine⟨r,_,rfl,kG.of av,rfl,_,_,rfl,_,_,rfl,rfl,?_⟩
  refine⟨_,rfl,ts[i].1,_,_,_,rfl,rfl,aN.of e1,a0,rfl,_,rfl,?_⟩
  rw[<- em];by_cases c:zw (lvals ts) i 0=0
  ·refine om (Jb V.int c) ⟨g2,⟨_,_,rfl⟩,λj hj=>?_⟩
   by_cases e:j=i
   ·rw[e];exact c
   ·exact hz j (by omega)
  ·refine Ae (λz=>c (V.int.inj z)) ⟨_,rfl,?_⟩
   simp only[W1] at g2 ⊢
   exact q1 i _ g2 hi c
 ·rintro σ H2 ⟨gg,_,hz⟩
  exact q2 H2 gg λi hi=>hz i (by rw[lrl];exact hi)
end
def JB (ts:List LP)(t m:Nat)(d:Int)(a:Nat):List Int:=(Yk m).map λc=>(GI (λa c=>zw (lvals ts) (wY t a) c) a c).fdiv d
def AY (K:bG):Sp:=λvs H Q _=>∃(p:o?) (ts:List LP) (t m:Nat) (d:Int),vs=[.ref p,.int (t:Int),.int d]/\Bu H p ts/\RC (m+1) ts/\t<m+1/\m<=100/\d≠0/\Bd 9000 d/\(∀i j,i<m+1->j<m+1->Bd 9000 (zw (lvals ts) i j))/\
 ∀(q:o?) (us:List LP) (H':Hp),aG H H'->H q=q?->Bu H' q us->lvals us=(Yk m).map (JB ts t m d)->Q (.ref q) H'
theorem Cq {xs:List V}{k:Nat}(h:k<=xs.length):iD xs (j? (k:Int)) q?=xs.drop k:=by
 unfold iD;have e1:HT.qi xs.length 0 (j? (k:Int))=k:=by rw[HT.kI];omega
 have e2:HT.qi xs.length xs.length q?=xs.length:=rfl;rw[e1,e2,Zm (by rw[Y7];exact Yd _)]
theorem vY {xs:List V}{k:Nat}(h:k<=xs.length):iD xs q? (j? (k:Int))=xs.take k:=by
 unfold iD;have e1:HT.qi xs.length 0 q?=0:=rfl;have e2:HT.qi xs.length xs.length (j? (k:Int))=k:=by rw[HT.kI];omega
 rw[e1,e2,Nat.sub_zero,List.drop_zero]
section
theorem NF {ts:List LP}{t a:Nat}(ht:t<ts.length):(ts.take t++ts.drop (t+1))[a]?=ts[cW t a]?:=by
 unfold cW;by_cases c:a<t
 ·rw[W7 c,Y9 (by rw[Yx];omega),List.getElem?_take,W7 c]
 ·rw[W6 c,Zb (by rw[Yx];omega),Yx,List.getElem?_drop]
  congr 1
  omega
theorem AZ (B:iI mg)(F:Src K mg "lessened" gK Ia):b_ P w K mg base 1 "lessened" Ia (AY K):=by
 refine F.ok mT (λvs H Q E h=>?_) (λf cdv A outer s' H vs Q E hr h=>?_)
 ·obtain⟨p,ts,t,m,d,rfl,_⟩:=h;rfl
 obtain⟨p,ts,t,m,d,rfl,hT,sq,ht,hm,d0,bd,bT,q⟩:=h;refine⟨_,ah (aB (i:=3) mT.nd rfl (Or.inr rfl) (bI (aJ (K:=K) rfl) (pv 0) (pv 1) (λ_ _=>rfl)))
  (ah (aB (i:=4) mT.nd rfl (z? rfl) (au iE (eU (eV (K:=K) rfl) (pv 0) f_ (gf (pv 1))) (eU (eV (K:=K) rfl) (pv 0) (gf (au bU (pv 1) ak)) f_)))
  (ay (aK (vE (gW (N:=["row","top","divisor"]) (sl:=[q?,j? 3,j? 2]) "row" (ao gK) ["table","at","divisor","top","others"] rfl rfl (by decide +kernel)) rfl (bF (K:=K) rfl (pv 4)) (λ_ _ _ _ _=>(aC (i:=0) (Yk_ ["row","top","divisor"]) rfl (Or.inr rfl))) (λ_ _ _ _ _=>aP) (λ_ _ _ _ _=>(bM (aF (N:=["place","top","row","divisor"]) (sl:=[q?,j? 1,j? 0,j? 2]) (qL (yT ((b7 gK).getD 2 (.Pass ⟨0,0,0,0⟩))) (ao gK)) ["row","top","divisor"] rfl rfl (by decide +kernel)) rfl (xF rfl B.range (af ak (af (aM (aQ (K:=K) rfl) rfl B.len b8 (af (pv 0) ai)) ai))) (λ_ _ _ _ _=>(aC (i:=0) (Yk_ ["place","top","row","divisor"]) rfl (z? rfl))) (λ_ _ _ _ _=>aP) (λ_ _ _ _ _=>(au bE (au bW (au aT (bI (aJ (K:=K) rfl) (pv 1) ak (λ_ _=>rfl)) (bI (aJ (K:=K) rfl) (pv 2) (pv 0) (λ_ _=>rfl))) (au aT (bI (aJ (K:=K) rfl) (pv 2) ak (λ_ _=>rfl)) (bI (aJ (K:=K) rfl) (pv 1) (pv 0) (λ_ _=>rfl)))) (pv 3))))))))),?_⟩
 have lrl:(lrefs ts).length=m+1:=by rw[Ya];exact sq.len
 have S6:t<ts.length:=by rw[sq.len];exact ht
 have KQ:rF (lrefs ts) (t:Int)=j? (.ref ts[t].1):=by
  rw[iw (by omega) (by rw[lrl];omega)]
  simp
 refine⟨_,rfl,_,rfl,p,_,_,_,rfl,rfl,hT.sql,KQ,?_⟩
 walk_at "rd"
 refine⟨p,_,rfl,hT.sql,λp1 n1=>?_⟩
 rw[vY (by rw[lrl];omega)]
 have k1:=aA n1 (.lst ((lrefs ts).take t));refine⟨_,rfl,_,rfl,_,_,rfl,rfl,_,rfl,p,_,rfl,(hT.same k1).sql,λp2 n2=>?_⟩
 rw[show(t:Int)+1=((t+1:Nat):Int) by omega] at*
 rw[Cq (by rw[lrl];omega)] at*
 have k2:=aA n2 (.lst ((lrefs ts).drop (t+1)));refine⟨p1,p2,_,_,rfl,rfl,k2 _ _ av,av,by rw[Yx,Y7,lrl,C?];omega,λp3 n3=>?_⟩
 have k3:=aA n3 (.lst ((lrefs ts).take t++(lrefs ts).drop (t+1)));have e3:=av (H:=L2.upd (L2.upd H p1 (.lst ((lrefs ts).take t))) p2 (.lst ((lrefs ts).drop (t+1)))) (a:=p3) (o:=.lst ((lrefs ts).take t++(lrefs ts).drop (t+1)));have g3:=(k1.trans k2).trans k3;generalize L2.upd (L2.upd (L2.upd H p1 (.lst ((lrefs ts).take t))) p2 (.lst ((lrefs ts).drop (t+1)))) p3 (.lst ((lrefs ts).take t++(lrefs ts).drop (t+1)))=H3 at e3 g3 ⊢;have Vf:(lrefs ts).take t++(lrefs ts).drop (t+1)=lrefs (ts.take t++ts.drop (t+1)):=by simp[lrefs,List.map_take,List.map_drop]
 rw[Vf] at e3;have hos:=λa=>NF (ts:=ts) (t:=t) (a:=a) S6
 have Vg:(ts.take t++ts.drop (t+1)).length=m:=by rw[Yi,Yx,Y7,sq.len];omega
 generalize ts.take t++ts.drop (t+1)=os at e3 hos Vg;clear k1 k2 k3 Vf n1 n2 n3;have KR:=hT.same g3;have Vh:(lrefs os).length=m:=by rw[Ya];exact Vg
 have et:=KR.it ts[t] (Yy _);have X7:=sq.row ts[t] (Yy _);have Vi:=λj=>pD S6 j
 generalize ts[t]=tt at et X7 Vi KQ ⊢;refine⟨_,rfl,p3,rfl,⟨_,aN.of e3⟩,λD hD=>gF (xs:=lrefs os) (λa ys H4=>aG H3 H4/\∃us:List LP,ys=lrefs us/\(∀u∈us,H4 u.1=j? (.lst (u.2.map V.int))/\u.1≠D)/\lvals us=(Yk a).map (JB ts t m d)) ⟨aA hD _,[],rfl,λu hu=>by simp at hu,rfl⟩ (λa ys H4 _ h=>aN.of (h.1 _ _ e3)) (λa m' x ys H4 hm' ha hx hy hlen h=>?_) (λys H4 hy h=>?_)⟩
 ·obtain⟨g4,us,rfl,hu,hv⟩:=h
  obtain⟨ha',rfl⟩:=xY hx;have S7:cW t a<ts.length:=by rw[sq.len];exact rW (by omega)
  have X8:os[a]=ts[cW t a]:=by
   have:=hos a
   rw[Yc ha',Yc S7] at this;exact M? this
  rw[X8];have er:=g4 _ _ (KR.it ts[cW t a] (Yy _));have Vj:=sq.row ts[cW t a] (Yy _);have Vk:=λj=>pD S7 j
  generalize ts[cW t a]=rr at er Vj Vk ⊢;have RD:=g4 _ _ et;have lrr:(rr.2.map V.int).length=m+1:=by rw[Ya];exact Vj
  refine⟨_,rfl,rr.1,_,rfl,.inl (aN.of er),?_⟩
  rw[lrr];refine⟨1,_,rfl,⟨by decide,by decide,by omega,by omega⟩,λD2 w_=>?_⟩
  rw[show((m+1:Nat):Int)-1=(m:Int) by omega,Yj]
  refine i9 (λc zs H5=>aG H4 H5/\zs=((Yk c).map λc=>(GI (λa c=>zw (lvals ts) (wY t a) c) a c).fdiv d).map V.int) ⟨aA w_ _,rfl⟩ (λc m2 zs H5 hm2 hc KS hlen2 h2=>?_) (λzs H5 KS h2=>?_)
  ·obtain⟨g5,rfl⟩:=h2
   have Vl:=g5 _ _ er;have Vn:=g5 _ _ RD;have P8:=sJ (xs:=tt.2) (j:=0) (by omega)
   have Vo:=sJ (xs:=tt.2) (j:=c+1) (by omega)
   have Vp:=sJ (xs:=rr.2) (j:=0) (by omega)
   have Vq:=sJ (xs:=rr.2) (j:=c+1) (by omega)
   rw[<- Vi] at P8 Vo;rw[<- Vk] at Vp Vq;rw[show(1:Int)+(c:Int)=((c+1:Nat):Int) by omega]
   have P9:cW t a<m+1:=by rw[<- sq.len];exact S7
   have b1:=bT t 0 ht (by omega)
   have b2:=bT (cW t a) (c+1) P9 (by omega)
   have b3:=bT (cW t a) 0 P9 (by omega)
   have b4:=bT t (c+1) ht (by omega)
   refine⟨_,rfl,tt.1,_,_,_,rfl,rfl,aN.of Vn,P8,_,rfl,_,rfl,rr.1,_,_,_,rfl,rfl,aN.of Vl,Vq,_,_,rfl,rfl,b1.ok b2,?_⟩
   refine⟨_,rfl,rr.1,_,_,_,rfl,rfl,aN.of Vl,Vp,_,rfl,_,rfl,tt.1,_,_,_,rfl,rfl,aN.of Vn,Vo,_,_,rfl,rfl,b3.ok b4,?_⟩
   refine⟨_,_,rfl,rfl,_,rfl,_,_,rfl,rfl,bd.dv d0,?_⟩
   refine CW.emit hm2 hc (by rw[C?];omega) KS hlen2 ⟨aG.aZ g5 w_ _,?_⟩
   rw[Wu,Yz,Yz];rfl
  ·obtain⟨g5,rfl⟩:=h2
   have X_:=g5 _ _ hy;have RE:D2≠D:=λz=>by rw[z,hy] at w_;cases w_
   refine CW.emit hm' ha (by rw[Vh,C?];omega) X_ hlen ⟨aG.aZ (g4.trans g5) hD _,us++[(D2,JB ts t m d a)],by simp[lrefs],λu mu=>?_,?_⟩
   ·rcases List.mem_append.mp mu with y|y
    ·obtain⟨u1,u2⟩:=hu u y
     exact⟨by rw[aL u2];exact g5 _ _ u1,u2⟩
    ·have:u=(D2,JB ts t m d a):=by simpa using y
     rw[this];exact⟨by rw[aL RE];exact KS,RE⟩
   ·have el:lvals (us++[((D2,JB ts t m d a):LP)])=lvals us++[JB ts t m d a]:=by simp[lvals]
    rw[el,Wu,Yz,hv];rfl
 ·obtain⟨g4,us,rfl,hu,hv⟩:=h
  rw[Vh] at hv;exact q D us H4 (g3.trans g4) (g3.free hD) ⟨hy,λu mu=>(hu u mu).1⟩ hv
end
theorem NG {ts us:List LP}{t m:Nat}{d:Int}(h:lvals us=(Yk m).map (JB ts t m d)):RC m us/\∀a c,a<m->c<m->zw (lvals us) a c=(GI (λa c=>zw (lvals ts) (wY t a) c) a c).fdiv d:=by
 have hl:us.length=m:=by have:=Jb Wy h;simpa using this
 refine⟨⟨hl,λu hu=>?_⟩,λa c ha hc=>?_⟩
 ·have:u.2∈lvals us:=List.mem_map_of_mem hu
  rw[h] at this;obtain⟨a,_,e⟩:=List.mem_map.mp this;rw[<- e];simp[JB]
 ·have e:(lvals us).getD a []=JB ts t m d a:=by rw[h];simp[Yb,ha]
  show((lvals us).getD a []).getD c 0=_
  rw[e];unfold JB;rw[Yb,Ye,Y0 hc];rfl
def LS (K:bG):Sp:=λvs H Q _=>∃(p:o?) (ts:List LP) (n E:Nat),vs=[.ref p]/\Bu H p ts/\RC n ts/\n<=26/\n*(E+5)<9000/\(∀i j,i<n->j<n->(zw (lvals ts) i j).natAbs<=2 ^ E)/\∀H',aG H H'->Q (.int (det n (zw (lvals ts)))) H'
theorem LU {x:Int}{k:Nat}(hk:k<9000)(h:x.natAbs<=2 ^ k):Bd 9000 x:=Z0 h (Wd (by decide) hk)
def μd:St->Hp->Nat:=λσ H=>match σ with
 | [_,j? (.ref p),_,_,_]=>match H p with
  | some (.lst xs)=>xs.length
  | _=>0
 | _=>0
section
theorem vZ (B:iI mg)(uc:b_ P w K mg base 1 "place_of_lead" ["table"] (Ig K))(Cr:b_ P w K mg base 1 "lessened" Ia (AY K))(F:Src K mg "determinant" jP ["table"]):b_ P w K mg base 2 "determinant" ["table"] (LS K):=by
 refine F.ok dj (λvs H Q E h=>?_) (λf cdv A outer s' H vs Q E hr h=>?_)
 ·obtain⟨p,ts,n,E,rfl,_⟩:=h;rfl
 obtain⟨p0,Vr,n,E9,rfl,YA,YB,hn,LV,bA,q⟩:=h;refine⟨_,ah (aB (i:=1) dj.nd rfl (z? rfl) (pv 0))
  (ah (aB (i:=2) dj.nd rfl (z? rfl) ak)
  (ah (aB (i:=3) dj.nd rfl (z? rfl) ak)
  (ah (ee D? (aR (uv (K:=K) rfl hr.units) (pv 1) (bD ai) (aY _))
   (ah (aB (i:=4) dj.nd rfl (z? rfl) (aE uc hr (af (pv 1) ai)))
   (ah (dS (aR Lu (pv 4) rJ (aY _))
    (ay (aK ak))
    (bY))
   (ah (dS (aR gy (au bw (pv 4) ak) ak (aY _))
    (ay (aB (i:=2) dj.nd rfl (z? rfl) (z8 uV (pv 2))))
    (bY))
   (ay (uQ (i:=1) (j:=3) rfl dj.nd rfl rfl (by decide) rfl rfl (af (aE Cr hr (af (pv 1) (af (pv 4) (af (pv 3) ai)))) (af (bI (aJ (K:=K) rfl) (bI (aJ (K:=K) rfl) (pv 1) (pv 4) (λ_ _=>rfl)) ak (λ_ _=>rfl)) ai)) rfl))))))
  (ay (aK (au aT (pv 2) (pv 3))))))),?_⟩
 generalize hA:zw (lvals Vr)=A0 at bA q;refine⟨_,rfl,?_⟩
 refine i_ (λσ H2=>aG H H2/\∃(p:o?) (ts:List LP) (s d:Int) (o:Option V) (m:Nat),σ=[Rq p0,Rq p,j? (.int s),j? (.int d),o]/\Bu H2 p ts/\RC m ts/\Bd 64 s/\Bd 9000 d/\((∃m' k,m=m'+1/\m+k=n/\Ba A0 n k d (zw (lvals ts)) m s)\/(m=0/\s*d=det n A0))) μd ⟨aG.refl _,p0,Vr,1,1,_,n,rfl,YA,YB,Bd.small (by decide) (by decide),(Bd.small (by decide) (by decide)).mono (by decide),?_⟩ ?_
 ·cases n with
  | zero=>exact .inr ⟨rfl,rfl⟩
  | succ n'=>exact .inl ⟨n',0,rfl,rfl,hA ▸ Ba.start A0 (n'+1)⟩
 ·rintro σ H2 ⟨g2,p,ts,s,d,o,m,rfl,hT,sq,bs,bd,hB⟩
  refine⟨_,rfl,aV rfl,λpe KU=>?_⟩
  have ke:=aA KU (.lst []);refine SA (hT.same ke).den (EO (aN.of av)) ⟨_,rfl,?_⟩
  rcases hB with ⟨m',k,em,hk,hBa⟩|⟨em,AO⟩
  ·subst em
   have hne:lvals ts≠[]:=λz=>by
    have:=Jb Wy z
    rw[Ya,sq.len] at this;cases this
   have KR:=hT.same ke;have g3:=g2.trans ke;have YC:μd [Rq p0,Rq p,j? (.int s),j? (.int d),o] H2=m'+1:=by
    show(match H2 p with|some (.lst xs)=>xs.length|_=>0)=m'+1
    rw[hT.top];show(lrefs ts).length=m'+1
    rw[Ya];exact sq.len
   rw[YC];generalize L2.upd H2 pe (.lst [])=H3 at KR g3;obtain⟨bd',bB⟩:=hBa.ES (by omega) hk bA
   refine Ae hne (win ?_)
   refine⟨_,rfl,p,ts,rfl,KR,λt ht=>by rw[sq.row t ht];omega,by rw[sq.len];omega,λt H4 g4 ht hnz=>?_,λH4 g4 hz=>?_⟩
   ·have ht':t<m'+1:=by rw[<- sq.len];exact ht
    refine⟨_,rfl,rfl,_,rfl,j7 ?_⟩
    have Oo:=KR.same g4;apply merge (M:=λσ HM=>HM=H4/\σ=[Rq p0,Rq p,j? (.int (sg t*s)),j? (.int d),Iq (t)])
    case h1=>
     intro key;refine⟨_,rfl,_,_,rfl,rfl,(by decide:(2:Int)≠0),rfl,_,rfl,?_⟩
     have Vs:((t:Int)).fmod 2=((t % 2:Nat):Int):=by
      rw[Y5 _ (by decide)];omega
     by_cases c:t % 2=1
     ·have es:sg t*s=-s:=by unfold sg;rw[W6 (by omega)];omega
      refine MW (by show V.int (((t:Int)).fmod 2)=V.int 1;rw[Vs,c];rfl) ⟨_,rfl,_,rfl,key _ _ ⟨rfl,by rw[es];rfl⟩⟩
     ·have es:sg t*s=s:=by unfold sg;rw[W7 (by omega)];omega
      refine MV (λz=>c (by have z':V.int (((t:Int)).fmod 2)=V.int 1:=z;have:=V.int.inj z';rw[Vs] at this;omega)) (key _ _ ⟨rfl,by rw[es];rfl⟩)
    case h2=>
     rintro σ HM ⟨rfl,rfl⟩;refine⟨_,rfl,_,rfl,_,rfl,p,ts,t,m',d,rfl,Oo,sq,ht',by omega,hBa.d0,bd,λi j hi hj=>LU LV (bB i j hi hj),λq1 us H5 g5 n5 hU hv=>?_⟩
     have Vt:=Oo.same g5;have KQ:rF (lrefs ts) (t:Int)=j? (.ref ts[t].1):=by
      rw[iw (by omega) (by rw[Ya];omega)]
      simp
     have P8:=sJ (xs:=ts[t].2) (j:=0) (by rw[sq.row _ (Yy _)];omega)
     rw[<- pD ht] at P8;refine⟨_,rfl,_,rfl,p,_,_,_,rfl,rfl,Vt.sql,KQ,ts[t].1,_,_,_,rfl,rfl,aN.of (Vt.it ts[t] (Yy _)),P8,_,_,rfl,?_⟩
     obtain⟨Vu,Oq⟩:=NG hv;have bs':Bd 64 (sg t*s):=by
      refine Bd.le (y:=s) ?_ bs
      rw[Ze,GK,W5];exact Yd _
     refine⟨⟨((g3.trans g4).trans g5),q1,us,sg t*s,zw (lvals ts) t 0,_,m',rfl,hU,Vu,bs',LU LV (bB t 0 ht' (by omega)),?_⟩,?_⟩
     ·cases m' with
      | zero=>
       have:t=0:=by omega
       subst this;refine .inr ⟨rfl,?_⟩
       have:=hBa.fin
       have e1:sg 0=1:=rfl;rw[e1,Zn];exact this
      | succ m2=>
       refine .inl ⟨m2,k+1,rfl,by omega,hBa.step ht' hnz λa c ha hc=>?_⟩
       obtain⟨qq,e⟩:=hBa.divides ht' hnz ha hc;rw[Oq a c ha hc,e,Int.mul_fdiv_cancel_left _ hBa.d0]
     ·show(match H5 q1 with|some (.lst xs)=>xs.length|_=>0)<m'+1
      rw[hU.top];show(lrefs us).length<m'+1
      rw[Ya,Vu.len];omega
   ·refine⟨_,rfl,rfl,_,rfl,j8 ?_⟩
    have:=hBa.none λi hi=>hz i (by rw[sq.len];exact hi)
    rw[this] at q;exact q H4 (g3.trans g4)
  ·subst em
   have he:lvals ts=[]:=by
    have:=sq.len
    rw[List.length_eq_zero_iff] at this;rw[this];rfl
   refine om he ?_
   refine⟨_,rfl,_,rfl,_,_,rfl,rfl,bs.ok bd,?_⟩
   show Q (.int (s*d)) _
   rw[AO];exact q _ (g2.trans ke)
end
def pF (K:bG):Sp:=λvs H Q _=>∃(a:o?) (f:List Int),vs=[.ref a]/\aN K H a (f.map V.int)/\f.length<=1000/\MX H Q (trim f)
def Cs (K:bG):Sp:=λvs H Q _=>∃(a:o?) (f:List Int) (i:Nat),vs=[.ref a,.int i]/\aN K H a (f.map V.int)/\Q (.int (aq f i)) H
def Ih (K:bG):Sp:=λvs H Q _=>∃(a b:o?) (f g:List Int),vs=[.ref a,.ref b]/\aN K H a (f.map V.int)/\aN K H b (g.map V.int)/\f.length<=1000/\g.length<=1000/\fP 1000000 f/\fP 1000000 g/\MX H Q (d9 f g)
theorem zx {x y:Int}(hx:Bd 1000000 x)(hy:Bd 1000000 y):lQ x y:=hx.ok hy
section
theorem jB (B:iI mg)(F:Src K mg "without_noughts_behind" dN ["numbers"]):b_ P w K mg base 1 "without_noughts_behind" ["numbers"] (pF K):=by
 refine F.ok dD (λvs H Q E h=>?_) (λf cdv A outer s H vs Q E hr h=>?_)
 ·obtain⟨a,f,rfl,_⟩:=h;rfl
 obtain⟨a,f,rfl,hS,hlen,q⟩:=h;refine⟨_,ah (aB (i:=1) dD.nd rfl (z? rfl) (aM (aQ (K:=K) rfl) rfl B.len b8 (af (pv 0) ai)))
  (ah (ee D? (PW.pt (F3 (aR tO (pv 1) ak (aY _)) (Dp (aR gy (bI (aJ (K:=K) rfl) (pv 0) (au bW (pv 1) ak) (λ_ _=>rfl)) ak (aY _)))))
   (ay (yz (i:=1) dD.nd rfl (z? rfl) ak JO)))
  (ay (aK (eU (eV (K:=K) rfl) (pv 0) f_ (gf (pv 1)))))),?_⟩
 refine⟨_,rfl,a,_,rfl,.inl hS,?_⟩
 rw[Ya];have fin:∀(k:Nat) H2,aG H H2->k<=f.length->gx f f.length=gx f k->gx f k=k->aN K H2 a (f.map V.int)->∀p,H2 p=q?->Q (.ref p) (upd H2 p (.lst (iD (f.map V.int) q? (j? (k:Int))))):=λk H2 g hk e1 e2 hS2 p hp=>by
  rw[rT f k hk];refine q p _ (g.trans (aA hp _)) (g.free hp) ?_
  unfold trim;rw[e1,e2];exact av
 refine i_ (λσ H2=>H2=H/\∃k:Nat,σ=[Rq a,j? (.int k)]/\k<=f.length/\gx f f.length=gx f k) (λσ _=>match σ with | [_,j? (.int k)]=>k.toNat|_=>0) ⟨rfl,f.length,rfl,Yd _,rfl⟩ ?_
 rintro σ H2 ⟨rfl,k,rfl,hk,ht⟩;refine⟨_,rfl,_,_,rfl,rfl,_,rfl,fu (λc=>?_) (λc=>?_)⟩
 ·have c':(0:Int)<k:=W9 c
  obtain⟨m,rfl⟩:∃m,k=m+1:=⟨k-1,by omega⟩
  refine⟨_,rfl,_,rfl,_,_,rfl,rfl,a,_,_,_,rfl,rfl,hS,fL (by omega) (by omega),rfl,_,rfl,?_⟩
  have em:(((m+1:Nat):Int)-1).toNat=m:=by omega
  rw[em];refine fu (λc=>?_) (λc=>?_)
  ·have c2:aq f m=0:=V.int.inj (W9 c)
   refine win ⟨_,rfl,_,_,rfl,rfl,⟨rfl,m,?_,by omega,?_⟩,?_⟩
   ·have e:((m+1:Nat):Int)-1=(m:Int):=by omega
    show [j? (V.ref a),j? (V.int (((m+1:Nat):Int)-1))]=_
    rw[e]
   ·exact ht.trans (by show(if aq f m=0 then gx f m else m+1)=_;rw[W7 c2])
   ·show(((m+1:Nat):Int)-1).toNat<(((m+1:Nat):Int)).toNat
    omega
  ·have c2:aq f m≠0:=λz=>c (W8 (Jb V.int z))
   exact⟨_,rfl,_,rfl,_,rfl,a,_,rfl,hS,fin (m+1) _ (aG.refl _) hk ht (by show(if aq f m=0 then gx f m else m+1)=_;rw[W6 c2]) hS⟩
 ·have c':k=0:=by
   have:¬ (0:Int)<k:=λz=>c (W8 z)
   omega
  subst c';refine j7 ?_
  exact⟨_,rfl,_,rfl,_,rfl,a,_,rfl,hS,fin 0 _ (aG.refl _) hk ht rfl hS⟩
end
section
theorem v_ (B:iI mg)(F:Src K mg "coefficient" jO Cn):b_ P w K mg base 1 "coefficient" Cn (Cs K):=by
 refine F.ok vV (λvs H Q E h=>?_) (λf cdv A outer s H vs Q E hr h=>?_)
 ·obtain⟨a,f,i,rfl,_⟩:=h;rfl
 obtain⟨a,f,i,rfl,hS,q⟩:=h;refine⟨_,ay (aK (uP (aR F9 (pv 1) (aM (aQ (K:=K) rfl) rfl B.len b8 (af (pv 0) ai)) (aY _)) (bI (aJ (K:=K) rfl) (pv 0) (pv 1) (λ_ _=>rfl)) ak)),?_⟩
 refine⟨_,rfl,_,rfl,a,_,rfl,.inl hS,_,_,rfl,rfl,_,rfl,?_⟩
 rw[Ya];refine fu (λc=>?_) (λc=>?_)
 ·have c':(i:Int)<(f.length:Nat):=W9 c
  refine⟨_,rfl,_,rfl,a,_,_,_,rfl,rfl,hS,fL (by omega) (by omega),?_⟩
  rw[Yj];exact q
 ·have c':¬ (i:Int)<(f.length:Nat):=λz=>c (W8 z)
  rw[aX (by omega)] at q
  exact q
end
section
theorem xg (B:iI mg)(F:Src K mg "multiplied" kU l_):b_ P w K mg base 1 "multiplied" l_ (Ih K):=by
 refine F.ok eG (λvs H Q E h=>?_) (λf cdv A outer s H vs Q E hr h=>?_)
 ·obtain⟨a,b,f,g,rfl,_⟩:=h;rfl
 obtain⟨a,b,f,g,rfl,ha,hb,lf,lg,bf,bg,q⟩:=h;refine⟨_,ah (dS (PW.pt (z6 (aR (qx (K:=K) rfl hr.units) (pv 0) (bD ai) (aY _)) (yx (aR (qx (K:=K) rfl hr.units) (pv 1) (bD ai) (aY _)))))
   (ay (aK (bD ai)))
   (bY))
  (ah (aB (i:=2) eG.nd rfl (z? rfl) (au rO (bD (af ak ai)) (au bW (au bU (aM (aQ (K:=K) rfl) rfl B.len b8 (af (pv 0) ai)) (aM (aQ (K:=K) rfl) rfl B.len b8 (af (pv 1) ai))) ak)))
  (ah (cK D? rfl (iy (K:=K) rfl rfl B.enumerate (af (pv 0) ai)) (cZ (n:=2) (K:=K) rfl rfl (aS (aC (i:=3) eG.nd rfl (z? rfl)) (aS (aC (i:=4) eG.nd rfl (z? rfl)) cY)))
   (ay (cK D? rfl (iy (K:=K) rfl rfl B.enumerate (af (pv 1) ai)) (cZ (n:=2) (K:=K) rfl rfl (aS (aC (i:=5) eG.nd rfl (z? rfl)) (aS (aC (i:=6) eG.nd rfl (z? rfl)) cY)))
    (ay (Dq (pv 2) (au bU (pv 3) (pv 5)) (xV (K:=K) rfl) (au aT (pv 4) (pv 6)) My set_list)))))
  (ay (aK (pv 2))))),?_⟩
 have P_:f=[]\/g=[]->∀H2,aG H H2->∀p,H2 p=q?->Q (.ref p) (upd H2 p (.lst [])):=λhn H2 g2 p hp=>by
  have e:d9 f g=[]:=by unfold d9;rw[W7 hn]
  refine q p _ (g2.trans (aA hp _)) (g2.free hp) ?_
  rw[e];exact av
 refine⟨_,rfl,aV rfl,λp1 n1=>?_⟩
 have g1:=aA n1 (.lst []);refine Sx (xs:=f) (ys:=[]) (g1.seq ha) (aN.of av) ⟨_,rfl,fu (λc=>?_) (λc=>?_)⟩
 ·refine j8 ?_
  exact⟨aV rfl,P_ (.inl (W9 c)) _ g1⟩
 have hf:f≠[]:=λz=>c (W8 z)
 refine⟨_,rfl,aV rfl,λp2 n2=>?_⟩
 have g2:=g1.trans (aA n2 (.lst []));refine Sx (xs:=g) (ys:=[]) (g2.seq hb) (aN.of av) ⟨_,rfl,fu (λc=>?_) (λc=>?_)⟩
 ·exact⟨aV rfl,P_ (.inr (W9 c)) _ g2⟩
 have hg:g≠[]:=λz=>c (W8 z)
 have l1:0<f.length:=List.length_pos_iff.mpr hf;have l2:0<g.length:=List.length_pos_iff.mpr hg;refine⟨aV rfl,λp3 n3=>?_⟩
 have g3:=g2.trans (aA n3 (.lst [.int 0]));refine⟨_,rfl,a,_,rfl,.inl (g3.seq ha),_,rfl,b,_,rfl,.inl (g3.seq hb),?_⟩
 rw[Ya,Ya];have en:((f.length:Int)+(g.length:Int)-1)=((f.length+g.length-1:Nat):Int):=by omega
 refine⟨_,_,rfl,rfl,_,_,rfl,rfl,p3,_,_,rfl,rfl,av,by omega,by omega,?_,λp hp=>?_⟩
 ·rw[C?];show 1*_<=_;omega
 rw[en,Yj,qF];have g4:=g3.trans (aA hp (.lst ((Yn (f.length+g.length-1) (0:Int)).map V.int)));have f4:H p=q?:=g3.free hp;refine⟨_,rfl,a,rfl,⟨_,g4.seq ha⟩,j_ (st:=0) (xs:=f.map V.int) (λi σ H2=>aG H H2/\∃(P:List Int) (o1 o2 o3 o4:Option V),σ=[Rq a,Rq b,Rq p,o1,o2,o3,o4]/\H2 p=j? (.lst (P.map V.int))/\P.length=f.length+g.length-1/\∀m,m<P.length->aq P m=fE f g i m)
  ⟨g4,_,_,_,_,_,rfl,av,by simp,λm hm=>cL _ _⟩ ?_ ?_ ?_⟩
 ·rintro i σ H2 hi ⟨gg,_⟩
  exact gg.seq ha
 ·rintro i x σ H2 r hx ⟨gg,P,o1,o2,o3,o4,rfl,eP,lP,hP⟩ hr'
  obtain⟨fi,Ot,rfl⟩:=aU hx;have hi:i<f.length:=(List.getElem?_eq_some_iff.mp Ot).1;have Vv:aq f i=fi:=kc Ot;have gr:=aA hr' (.tup [.int ((0+i:Nat):Int),.int fi]);refine⟨r,_,rfl,kG.of av,rfl,_,_,rfl,_,_,rfl,rfl,?_⟩
  refine⟨_,rfl,b,rfl,⟨_,(gg.trans gr).seq hb⟩,j_ (st:=0) (xs:=g.map V.int) (λj σ H2=>aG H H2/\∃(P:List Int) (o3 o4:Option V),σ=[Rq a,Rq b,Rq p,Iq ((0+i:Nat)),j? (.int fi),o3,o4]/\H2 p=j? (.lst (P.map V.int))/\P.length=f.length+g.length-1/\∀m,m<P.length->aq P m=oq f g i j m)
   ⟨gg.trans gr,P,_,_,rfl,gr _ _ eP,lP,λm hm=>by rw[vc];exact hP m hm⟩ ?_ ?_ ?_⟩
  ·rintro j σ H3 hj ⟨gg,_⟩
   exact gg.seq hb
  ·rintro j y σ H3 r2 hy ⟨gg,P,o3,o4,rfl,eP,lP,hP⟩ hr2
   obtain⟨gj,Qa,rfl⟩:=aU hy;have hj:j<g.length:=(List.getElem?_eq_some_iff.mp Qa).1;have Qc:aq g j=gj:=kc Qa;have Ou:=aA hr2 (.tup [.int ((0+j:Nat):Int),.int gj]);refine⟨r2,_,rfl,kG.of av,rfl,_,_,rfl,_,_,rfl,rfl,?_⟩
   have LW:(((0+i:Nat):Int)+((0+j:Nat):Int))=((i+j:Nat):Int):=by omega
   have hij:i+j<P.length:=by omega
   have Vw:=Ou _ _ eP;refine⟨_,rfl,_,rfl,_,rfl,_,_,rfl,rfl,p,_,_,.int (aq P (i+j)),rfl,rfl,aN.of Vw,by omega,?_,?_⟩
   ·rw[LW,Yj];exact oQ hij
   refine⟨_,rfl,_,rfl,_,_,rfl,rfl,zx (by rw[<- Vv];exact bf.aq i) (by rw[<- Qc];exact bg.aq j),_,_,rfl,rfl,p,_,_,i+j,rfl,rfl,Vw,?_,?_⟩
   ·rw[LW,Ya];exact yM (by omega) (by omega)
   refine⟨(gg.trans Ou).aZ f4 _,P.set (i+j) (aq P (i+j)+fi*gj),_,_,rfl,?_,by rw[Ws];exact lP,λm hm=>?_⟩
   ·rw[mH];exact av
   ·rw[Ws] at hm
    rw[qC hij,ve,hP m hm,<- Vv,<- Qc];split
    ·rename_i h;subst h;rw[hP _ hm]
    ·rfl
  ·rintro σ H3 ⟨gg,P,o3,o4,rfl,eP,lP,hP⟩
   refine⟨gg,P,_,_,_,_,rfl,eP,lP,λm hm=>?_⟩
   rw[<- xU];have:=hP m hm
   rw[Ya] at this;exact this
 ·rintro σ H2 ⟨gg,P,o1,o2,o3,o4,rfl,eP,lP,hP⟩
  refine⟨_,rfl,q p H2 gg f4 ?_⟩
  have e:P=d9 f g:=by
   refine qB ?_ λm hm=>?_
   ·unfold d9;rw[W6 (by rintro (z|z);exact hf z;exact hg z),Ya,Yf];exact lP
   ·rw[nu,hP m hm,Ya];rfl
  rw[<- e];exact eP
end
def LX (K:bG):Sp:=λvs H Q _=>∃(a:o?) (f:List Int),vs=[.ref a]/\aN K H a (f.map V.int)/\f.length<=1000/\MX H Q (dl f)
section
theorem Ct (B:iI mg)(F:Src K mg "derived" nL ["f"]):b_ P w K mg base 1 "derived" ["f"] (LX K):=by
 refine F.ok Co (λvs H Q E h=>?_) (λf cdv A outer s H vs Q E hr h=>?_)
 ·obtain⟨a,f,rfl,_⟩:=h;rfl
 obtain⟨a,f,rfl,ha,lf,q⟩:=h;refine⟨_,ay (aK (eU (eV (K:=K) rfl) (bM (aF (N:=["at","part"]) (sl:=[q?,q?]) (ao nL) ["f"] rfl rfl (by decide +kernel)) rfl (iy (K:=K) rfl rfl B.enumerate (af (pv 0) ai)) (λ_ _ _ _ _=>(cZ (n:=2) (K:=K) rfl rfl (aS (aC (i:=0) (Yk_ ["at","part"]) rfl (z? rfl)) (aS (aC (i:=1) (Yk_ ["at","part"]) rfl (z? rfl)) cY)))) (λ_ _ _ _ _=>aP) (λ_ _ _ _ _=>(au aT (pv 0) (pv 1)))) (gf ak) f_)),?_⟩
 refine⟨_,rfl,a,rfl,⟨_,ha⟩,λD hD=>?_⟩
 refine xR (Rm:=0) (xs:=f.map V.int) (λi ys H2=>aG H H2/\ys=((Yk i).map λi:Nat=>(i:Int)*aq f i).map V.int) ⟨aA hD _,rfl⟩ (λi ys H2 _ h=>h.1.seq ha) ?_ ?_
 ·rintro i m x ys H2 r hm hi hx hy hlen ⟨gg,rfl⟩ hr'
  obtain⟨n,hn,rfl⟩:=aU hx;have kr:=aA hr' (.tup [.int ((0+i:Nat):Int),.int n]);rw[Ya] at hi;refine⟨r,_,rfl,kG.of av,rfl,_,_,rfl,_,_,rfl,rfl,?_⟩
  refine⟨_,rfl,_,rfl,_,_,rfl,rfl,gD (by omega) (by omega),?_⟩
  refine CW.emit hm (by rw[Ya];exact hi) (by rw[Ya,C?];omega) (kr _ _ hy) hlen ⟨aG.aZ (gg.trans kr) hD _,?_⟩
  rw[Wu,Yz,Yz];have e:((0+i:Nat):Int)=(i:Int):=by omega
  show _++[V.int (((0+i:Nat):Int)*n)]=_++[V.int ((i:Int)*aq f i)]
  rw[e,kc hn]
 ·rintro ys H2 hy ⟨gg,rfl⟩
  rw[Ya] at hy;refine⟨_,rfl,D,_,rfl,aN.of hy,λp hp=>?_⟩
  refine q p _ (gg.trans (aA hp _)) (gg.free hp) ?_
  rw[av];congr 2
  have e1:iD (((Yk f.length).map λi:Nat=>(i:Int)*aq f i).map V.int) (j? 1) q?=(((Yk f.length).map λi:Nat=>(i:Int)*aq f i).drop 1).map V.int:=by
   unfold iD;have h1:HT.qi (((Yk f.length).map λi:Nat=>(i:Int)*aq f i).map V.int).length 0 (j? 1)=min 1 f.length:=by
    have:=HT.kI (((Yk f.length).map λi:Nat=>(i:Int)*aq f i).map V.int).length 0 1
    rw[Ya,Ya,Yf] at this ⊢;exact this
   have h2:HT.qi (((Yk f.length).map λi:Nat=>(i:Int)*aq f i).map V.int).length (((Yk f.length).map λi:Nat=>(i:Int)*aq f i).map V.int).length q?=f.length:=by
    rw[Ya,Ya,Yf];rfl
   rw[h1,h2,Zm (by rw[Y7,Ya,Ya,Yf];exact Yd _)]
   by_cases hz:f.length=0
   ·rw[hz];rfl
   ·rw[Nat.min_eq_left (by omega),List.map_drop]
  rw[e1];congr 1
  refine qB ?_ λi hi=>?_
  ·unfold dl;rw[Y7,Ya,Yf,Ya,Yf]
  ·rw[Y7,Ya,Yf] at hi
   rw[jE,dR (by rw[Y7,Ya,Yf];exact hi)]
   simp
end
def Qd (H:Hp)(Q:VK)(q r:List Int):Prop:=∀t a b H',aG H H'->H a=q?->H b=q?->a≠b->H' t=j? (.tup [.ref a,.ref b])->H' a=j? (.lst (q.map V.int))->H' b=j? (.lst (r.map V.int))->Q (.ref t) H'
def Ii (K:bG):Sp:=λvs H Q _=>∃(a b:o?) (f g:List Int) (m n:Nat),vs=[.ref a,.ref b]/\aN K H a (f.map V.int)/\aN K H b (g.map V.int)/\f.length<=1000/\g.length<=1000/\dh g/\fP m f/\fP n g/\m+f.length*(n+2)<=1000000/\
 ∀q r,vo f g q r->fP (m+f.length*(n+2)) q->fP (m+f.length*(n+2)) r->Qd H Q q r
section
theorem Cz (B:iI mg)(cI:b_ P w K mg base 1 "without_noughts_behind" ["numbers"] (pF K))(F:Src K mg "divided" sA l_):b_ P w K mg base 2 "divided" l_ (Ii K):=by
 refine F.ok eY (λvs H Q E h=>?_) (λf cdv A outer s H vs Q E hr h=>?_)
 ·obtain⟨a,b,f,g,m,n,rfl,_⟩:=h;rfl
 obtain⟨a,b,f,g,mB,nB,rfl,ha,hb,lf,lg,hg,bf,bg,hB,q⟩:=h;have UW:0<g.length:=List.length_pos_iff.mpr hg.1;refine⟨_,ah (aB (i:=2) eY.nd rfl (z? rfl) (rN kJ rfl B.list uu (af (pv 0) ai)))
  (ah (aB (i:=3) eY.nd rfl (z? rfl) (bD ai))
  (ah (aB (i:=4) eY.nd rfl (z? rfl) (au bW (aM (aQ (K:=K) rfl) rfl B.len b8 (af (pv 1) ai)) ak))
  (ah (cK D? rfl (yK rfl B.reversed (af (u9 rfl B.range (af (au bW (aM (aQ (K:=K) rfl) rfl B.len b8 (af (pv 0) ai)) (pv 4)) ai)) ai)) (aC (i:=5) eY.nd rfl (z? rfl))
   (ah (aB (i:=6) eY.nd rfl (z? rfl) (bI (aJ (K:=K) rfl) (pv 2) (au bU (pv 5) (pv 4)) (λ_ _=>rfl)))
   (ah (fh (qu R? F! G! dU (pv 3) (af (pv 6) ai)))
   (ay (cK D? rfl (iy (K:=K) rfl rfl B.enumerate (af (pv 1) ai)) (cZ (n:=2) (K:=K) rfl rfl (aS (aC (i:=7) eY.nd rfl (z? rfl)) (aS (aC (i:=8) eY.nd rfl (z? rfl)) cY)))
    (ay (Dq (pv 2) (au bU (pv 5) (pv 7)) (xV (K:=K) rfl) (au aT (pv 6) (pv 8)) Mz set_list)))))))
  (ah (fh (BD R? PySem.F.slot_list_reverse PySem.F.type_list_reverse oM (pv 3) ))
  (ay (aK (i8 (af (pv 3) (af (aE cI hr (af (pv 2) ai)) ai))))))))),?_⟩
 refine⟨_,rfl,a,_,rfl,.inl ha,λp1 n1=>?_⟩
 have k1:=aA n1 (.lst (f.map V.int));refine⟨aV rfl,λp2 n2=>?_⟩
 have k2:=aA n2 (.lst []);have g2:=k1.trans k2;have f2:H p2=q?:=k1.free n2;have hne:p1≠p2:=bh av n2;refine⟨_,rfl,b,_,rfl,.inl (g2.seq hb),_,_,rfl,rfl,?_⟩
 rw[Ya];refine⟨_,rfl,a,_,rfl,.inl (g2.seq ha),?_⟩
 rw[Ya];refine⟨_,rfl,_,_,rfl,rfl,_,rfl,λp3 n3=>?_⟩
 have k3:=aA n3 (.rC 0 ((f.length:Int)-((g.length:Int)-1)));have g3:=g2.trans k3;obtain⟨N,hN⟩:∃N,N=f.length-(g.length-1):=⟨_,rfl⟩;have eN:((f.length:Int)-((g.length:Int)-1)).toNat=N:=by omega
 refine⟨p3,_,rfl,av,by omega,by omega,?_⟩
 rw[eN];refine u_ (λi σ H2=>aG H H2/\∃(Qr R:List Int) (o1 o2 o3 o4:Option V),σ=[Rq a,Rq b,Rq p1,Rq p2,j? (.int ((g.length:Int)-1)),o1,o2,o3,o4]/\H2 p2=j? (.lst (Qr.map V.int))/\H2 p1=j? (.lst (R.map V.int))/\xW f g N i Qr R/\fP (mB+i*(nB+2)) R/\fP (mB+i*(nB+2)) Qr)
  ⟨g3,[],f,_,_,_,_,rfl,k3 _ _ av,k3 _ _ (k2 _ _ av),⟨rfl,rfl,λm hm=>?_,λm h1 h2=>by omega,λh=>Jd h (by decide)⟩,bf.mono (by omega),λx hx=>by simp at hx⟩ ?_ ?_
 ·have hz:conv (Jz N 0 []) g m=0:=by
   rw[vm (f':=[]) (g':=g) (λa=>?_) (λ_=>rfl)]
   ·rfl
   ·unfold Jz
    rw[List.reverse_nil,List.append_nil,cL,iz]
  rw[hz];omega
 ·rintro i σ H2 hi ⟨gg,Qr,R,o1,o2,o3,o4,rfl,eQ,eR,D,bR,bQ⟩
  have lr:=D.lr;have lq:=D.lq;have hN1:N<=f.length:=by omega
  have et:((f.length:Int)-((g.length:Int)-1)-1-(i:Int))=((N-1-i:Nat):Int):=by omega
  rw[et];have ep:(((N-1-i:Nat):Int)+((g.length:Int)-1))=((N-1-i+(g.length-1):Nat):Int):=by omega
  refine⟨_,rfl,_,rfl,_,rfl,_,_,rfl,rfl,p1,_,_,_,rfl,rfl,aN.of eR,fL (by omega) (by omega),?_⟩
  rw[ep,Yj];generalize vM:aq R (N-1-i+(g.length-1))=lead;have Ij:Bd (mB+i*(nB+2)) lead:=vM ▸ bR.aq _;refine⟨_,rfl,.inl ⟨rfl,_,aN.of eQ⟩,_,rfl,p2,_,_,rfl,rfl,eQ,by rw[Ya,C?];omega,?_⟩
  have g4:aG H (upd H2 p2 (.lst (Qr.map V.int++[V.int lead]))):=gg.aZ f2 _;have YD:upd H2 p2 (.lst (Qr.map V.int++[V.int lead])) p1=j? (.lst (R.map V.int)):=by rw[aL hne];exact eR
  have hmul:(i+1)*(nB+2)=i*(nB+2)+(nB+2):=by rw[Wa,W5]
  have hle:(i+1)*(nB+2)<=f.length*(nB+2):=Yr _ (by omega)
  refine⟨_,rfl,b,rfl,⟨_,g4.seq hb⟩,j_ (st:=0) (xs:=g.map V.int) (λj σ H3=>aG H H3/\∃(R':List Int) (o3 o4:Option V),σ=[Rq a,Rq b,Rq p1,Rq p2,j? (.int ((g.length:Int)-1)),Iq ((N-1-i:Nat)),j? (.int lead),o3,o4]/\H3 p2=j? (.lst ((Qr++[lead]).map V.int))/\H3 p1=j? (.lst (R'.map V.int))/\Lx g R R' (N-1-i) lead j/\fP (mB+(i+1)*(nB+2)) R')
   ⟨g4,R,_,_,rfl,by rw[<- qG];exact av,YD,Lx.start ..,bR.mono (by omega)⟩ ?_ ?_ ?_⟩
  ·rintro j σ H3 hj ⟨gg,_⟩
   exact gg.seq hb
  ·rintro j y σ H3 r2 hy ⟨gg,R',o3,o4,rfl,S8,S9,hR,S_⟩ hr2
   obtain⟨gj,Qa,rfl⟩:=aU hy;have hj:j<g.length:=(List.getElem?_eq_some_iff.mp Qa).1;have Qc:aq g j=gj:=kc Qa;have Ou:=aA hr2 (.tup [.int ((0+j:Nat):Int),.int gj]);refine⟨r2,_,rfl,kG.of av,rfl,_,_,rfl,_,_,rfl,rfl,?_⟩
   have LW:(((N-1-i:Nat):Int)+((0+j:Nat):Int))=((N-1-i+j:Nat):Int):=by omega
   have hij:N-1-i+j<R.length:=by omega
   have Qf:N-1-i+j<R'.length:=by rw[hR.1];exact hij
   have Vx:=Ou _ _ S9;have Vy:Bd nB gj:=Qc ▸ bg.aq j;refine⟨_,rfl,_,rfl,_,rfl,_,_,rfl,rfl,p1,_,_,.int (aq R' (N-1-i+j)),rfl,rfl,aN.of Vx,by omega,?_,?_⟩
   ·rw[LW,Yj];exact oQ Qf
   refine⟨_,rfl,_,rfl,_,_,rfl,rfl,zx (Ij.mono (by omega)) (Vy.mono (by omega)),_,_,rfl,rfl,p1,_,_,N-1-i+j,rfl,rfl,Vx,?_,?_⟩
   ·rw[LW,Ya];exact yM (by omega) (by omega)
   have hstep:=hR.step (t:=N-1-i) hij;rw[Qc] at hstep;refine⟨(gg.trans Ou).aZ n1 _,R'.set (N-1-i+j) (aq R' (N-1-i+j)-lead*gj),_,_,rfl,?_,?_,hstep,vf λm hm=>?_⟩
   ·rw[aL (Ne.symm hne)];exact Ou _ _ S8
   ·rw[mH];exact av
   ·rw[qC Qf]
    split
    ·have YE:N-1-i+j<R.length:=hij
     have e1:=hR.2 (N-1-i+j) YE;rw[W6 (by omega)] at e1
     rw[e1];have b1:Bd (mB+i*(nB+2)) (aq R (N-1-i+j)-0):=by rw[Int.sub_zero];exact bR.aq _
     exact(b1.sub (Ij.mul Vy)).mono (by omega)
    ·exact S_.aq m
  ·rintro σ H3 ⟨gg,R',o3,o4,rfl,S8,S9,hR,S_⟩
   rw[Ya] at hR;rw[<- vM] at hR;refine⟨gg,Qr++[lead],R',_,_,_,_,rfl,S8,S9,?_,S_,(bQ.mono (by omega)).snoc (Ij.mono (by omega))⟩
   have:=D.next hg hN hi hR
   rw[vM] at this;exact this
 ·rintro σ H2 ⟨gg,Qr,R,o1,o2,o3,o4,rfl,eQ,eR,D,bR,bQ⟩
  have lr:=D.lr;have hle:N*(nB+2)<=f.length*(nB+2):=Yr _ (by omega)
  refine⟨_,rfl,.inl ⟨rfl,_,aN.of eQ⟩,p2,_,rfl,rfl,eQ,?_⟩
  have YF:(Qr.map V.int).reverse=Qr.reverse.map V.int:=by rw[List.map_reverse]
  rw[YF];have g5:aG H (upd H2 p2 (.lst (Qr.reverse.map V.int))):=gg.aZ f2 _;have YG:upd H2 p2 (.lst (Qr.reverse.map V.int)) p1=j? (.lst (R.map V.int)):=by rw[aL hne];exact eR
  refine⟨_,rfl,_,rfl,p1,R,rfl,aN.of YG,by omega,λp6 H6 g6 n6 e6=>⟨aV rfl,λp7 n7=>?_⟩⟩
  have k7:=aA n7 (.tup [.ref p2,.ref p6]);have e2:=g6 _ _ (show upd H2 p2 (.lst (Qr.reverse.map V.int)) p2=j? (.lst (Qr.reverse.map V.int)) from av)
  refine q Qr.reverse (trim R) (D.done hg hN) (λx hx=>(bQ x (List.mem_reverse.mp hx)).mono (by omega)) (bR.trim.mono (by omega)) p7 p2 p6 _ ((g5.trans g6).trans k7) f2 (g5.free n6) ?_ av (k7 _ _ e2) (k7 _ _ e6)
  exact bh (show upd H2 p2 (.lst (Qr.reverse.map V.int)) p2=j? (.lst (Qr.reverse.map V.int)) from av) n6
end
def rr (f:Fn)(n:Nat)(g:Fn)(L:Nat):Nat->Fn:=λi c=>bC L λk=>g k*tk f n (k+i) c
theorem KW {f:Fn}{n:Nat}(hf:Top f n)(hn:1<=n)(k:Nat):kQ f n (cv (xp 1) (tk f n k)) (tk f n (k+1)):=by
 refine⟨⟨λi=>if i=0 then tk f n k (n-1) else 0,1,λm hm=>W6 (by omega),λm=>?_⟩,vC hf hn (k+1)⟩
 have e1:cv (λi=>if i=0 then tk f n k (n-1) else 0) f m=tk f n k (n-1)*f m:=uz (W7 rfl) (λi hi=>W6 (by omega)) m
 rw[e1,iP];show _=_+((if m=0 then 0 else tk f n k (m-1))-tk f n k (n-1)*f m)
 by_cases c:1<=m
 ·rw[W7 c,W6 (by omega)];omega
 ·rw[W6 c,W7 (by omega)];omega
theorem uK {f:Fn}{n:Nat}(hf:Top f n)(hn:1<=n){g:Fn}{L:Nat}(hg:∀m,L<=m->g m=0):Rows f n g (rr f n g L):=by
 refine⟨?_,λi=>?_⟩
 ·have e:g=λc=>bC L λk=>g k*xp (k+0) c:=by
   funext c
   rw[eo];by_cases y:c<L
   ·rw[ja (k:=c) y λk hk hne=>by unfold xp;rw[W6 (by omega),Y4]]
    unfold xp;rw[W7 (by omega),Wv]
   ·rw[hg _ (by omega),c9 λk hk=>by unfold xp;rw[W6 (by omega),Y4]]
  have:=kQ.sum (f:=f) (n:=n) (u:=λk=>xp (k+0)) (r:=λk=>tk f n (k+0)) g L λk _=>BP hf hn (k+0)
  rw[<- e] at this;exact this
 ·have e:cv (xp 1) (rr f n g L i)=λc=>bC L λk=>g k*cv (xp 1) (tk f n (k+i)) c:=by
   funext c
   rw[iP];by_cases z:1<=c
   ·rw[W7 z]
    exact aH λk hk=>by rw[iP,W7 z]
   ·rw[W6 z]
    exact(fF λk hk=>by rw[iP,W6 z,Y4]).symm
  rw[e];exact kQ.sum g L λk _=>KW hf hn (k+i)
theorem vo.Tc {u f q r:List Int}{n:Nat}(hl:f.length=n+1)(h:vo u f q r):kQ (aq f) n (aq u) (aq r):=
 ⟨⟨aq q,q.length,λm hm=>aX hm,λm=>by rw[h.eq m,DG]⟩,λm hm=>aX (by have:=h.len;omega)⟩
theorem wc {f:List Int}{n:Nat}(hl:f.length=n+1)(hm:dh f):Top (aq f) n:=⟨by have:=hm.2;rw[hl] at this;exact this,λm h=>aX (by omega)⟩
theorem NH:aq [0,1]=xp 1:=by
 funext m
 match m with
 | 0=>rfl
 | 1=>rfl
 | m+2=>rw[aX (by show 2<=_;omega)];unfold xp;rw[W6 (by omega)]
def Ik (K:bG):Sp:=λvs H Q _=>∃(a b:o?) (f g:List Int) (n E:Nat),vs=[.ref a,.ref b]/\aN K H a (f.map V.int)/\aN K H b (g.map V.int)/\f.length=n+1/\1<=n/\n<=26/\g.length<=60/\dh f/\Norm g/\fP 5000 f/\fP 5000 g/\E<=9000/\n*(E+5)<9000/\
 (∀i j,i<=n->(rr (aq f) n (aq g) g.length i j).natAbs<=2 ^ E)/\∀H',aG H H'->Q (.int (det n λi j=>rr (aq f) n (aq g) g.length i j)) H'
section
theorem zy (B:iI mg)(jS:b_ P w K mg base 1 "coefficient" Cn (Cs K))(lC:b_ P w K mg base 1 "multiplied" l_ (Ih K))(nR:b_ P w K mg base 2 "divided" l_ (Ii K))(xh:b_ P w K mg base 2 "determinant" ["table"] (LS K))(F:Src K mg "resultant" jF l_):b_ P w K mg base 3 "resultant" l_ (Ik K):=by
 refine F.ok fm (λvs H Q E h=>?_) (λfa cdv A outer s H vs Q E hr h=>?_)
 ·obtain⟨a,b,f,g,n,E,rfl,_⟩:=h;rfl
 obtain⟨a,b,f,g,n,E9,rfl,ha,hb,lf,hn1,hn,lg,mf,ng,bf,bg,hE,LV,bR,q⟩:=h;have hf:=wc lf mf;have hR:=uK hf hn1 (g:=aq g) (L:=g.length) λm hm=>aX hm
 generalize hrr:rr (aq f) n (aq g) g.length=R at hR bR q;refine⟨_,ah (aB (i:=2) fm.nd rfl (z? rfl) (au bW (aM (aQ (K:=K) rfl) rfl B.len b8 (af (pv 0) ai)) ak))
  (ah (aB (i:=3) fm.nd rfl (z? rfl) (bD ai))
  (ah (aB (i:=4) fm.nd rfl (Or.inr rfl) (bI (qw (K:=K) rfl) (aE nR hr (af (pv 1) (af (pv 0) ai))) ak (λ_ _=>rfl)))
  (ah (cK D? rfl (bL rfl B.range (af (pv 2) ai)) (aC (i:=5) fm.nd rfl (z? rfl))
   (ah (fh (qu R? F! G! dU (pv 3) (af (bM (aF (N:=["place","rest"]) (sl:=[q?,j? 4]) (ao jF) ["f","g","degree","table","rest","turn"] rfl rfl (by decide +kernel)) rfl (bL rfl B.range (af (pv 2) ai)) (λ_ _ _ _ _=>(aC (i:=0) (Yk_ ["place","rest"]) rfl (z? rfl))) (λ_ _ _ _ _=>aP) (λ_ _ _ _ _=>(aE jS hr (af (pv 1) (af (pv 0) ai))))) ai)))
   (ay (aB (i:=4) fm.nd rfl (Or.inr rfl) (bI (qw (K:=K) rfl) (aE nR hr (af (aE lC hr (af (bD (af ak (af ak ai))) (af (pv 4) ai))) (af (pv 0) ai))) ak (λ_ _=>rfl))))))
  (ay (aK (aE xh hr (af (pv 3) ai))))))),?_⟩
 refine⟨_,rfl,a,_,rfl,.inl ha,?_⟩
 rw[Ya,lf];refine⟨_,_,rfl,rfl,aV rfl,λp0 n0=>?_⟩
 have k0:=aA n0 (.lst []);refine⟨_,rfl,_,rfl,b,a,g,f,5000,5000,rfl,k0.seq hb,k0.seq ha,by omega,by omega,mf,bg,bf,by omega,λq0 r0 hd0 _ _ t0 qa ra H1 g1 n1 n2 hne et eq er=>?_⟩
 refine⟨t0,_,_,_,rfl,rfl,kG.of et,rfl,?_⟩
 have e0:aq r0=R 0:=kQ.uniq hf (vo.Tc lf hd0) hR.zero;have l0:r0.length<=n:=by have:=hd0.len;omega
 have YH:∀(r:List Int) (i:Nat),aq r=R i->i<=n->fP 9001 r:=λr i e hi=>vf λj _=>by
  rw[e];exact Z0 (bR i j hi) (Wd (by decide) (by omega))
 refine⟨_,rfl,_,rfl,by omega,by omega,?_⟩
 rw[show(((n+1:Nat):Int)-1).toNat=n by omega]
 refine dF (λi σ H2=>aG H H2/\∃(ts:List LP) (r:List Int) (ra:o?) (o:Option V),σ=[Rq a,Rq b,j? (.int (((n+1:Nat):Int)-1)),Rq p0,Rq ra,o]/\Bu H2 p0 ts/\ts.length=i/\(∀t∈ts,t.2.length=n/\t.1≠p0)/\(∀x j,x<i->j<n->zw (lvals ts) x j=R x j)/\H2 ra=j? (.lst (r.map V.int))/\aq r=R i/\r.length<=n/\Norm r/\ra≠p0)
  ⟨k0.trans g1,[],r0,ra,_,rfl,⟨g1 _ _ av,λt ht=>by simp at ht⟩,rfl,λt ht=>by simp at ht,λx j hx=>Jd hx (by omega),er,e0,l0,hd0.nr,λz=>by rw[z,av] at n2;cases n2⟩ ?_ ?_
 ·rintro i σ H2 hi ⟨g2,ts,r,ra,o,rfl,hT,lt,hts,Oq,er,eR,lr,nr,Vz⟩
  refine⟨_,rfl,.inl ⟨rfl,_,aN.of hT.top⟩,_,rfl,_,rfl,by omega,by omega,λD hD=>?_⟩
  rw[show(((n+1:Nat):Int)-1).toNat=n by omega]
  refine i9 (λj ys H3=>aG H2 H3/\ys=((Yk j).map (R i)).map V.int) ⟨aA hD _,rfl⟩ (λj m ys H3 hm hj hy hlen h=>?_) (λys H3 hy h=>?_)
  ·obtain⟨g3,rfl⟩:=h
   rw[show(0:Int)+(j:Int)=((j:Nat):Int) by omega]
   refine⟨_,rfl,_,rfl,ra,r,j,rfl,aN.of (g3 _ _ er),?_⟩
   refine CW.emit hm hj (by rw[C?];omega) hy hlen ⟨aG.aZ g3 hD _,?_⟩
   rw[Wu,Yz,Yz,eR];rfl
  ·obtain⟨g3,rfl⟩:=h
   have KR:=hT.same g3;have Qg:D≠p0:=λz=>by rw[z,hT.top] at hD;cases hD
   refine⟨p0,_,_,rfl,rfl,KR.top,by rw[Ya,C?];omega,?_⟩
   have Oo:=KR.snoc (t:=(D,(Yk n).map (R i))) (λt ht=>(hts t ht).2) hy Qg
   have g4:aG H (L2.upd H3 p0 (.lst (lrefs ts++[V.ref D]))):=(g2.trans g3).aZ n0 _;have VA:(L2.upd H3 p0 (.lst (lrefs ts++[V.ref D]))) ra=j? (.lst (r.map V.int)):=by rw[aL Vz];exact g3 _ _ er
   generalize L2.upd H3 p0 (.lst (lrefs ts++[V.ref D]))=H4 at Oo g4 VA ⊢;refine⟨aV rfl,λl1 m1=>?_⟩
   have k1:=aA m1 (.lst [.int 0,.int 1]);have YI:fP 1000000 ([0,1]:List Int):=λx hx=>by
    simp only[Wk,Z3,or_false] at hx
    rcases hx with rfl|rfl <;> exact Bd.mono (m:=64) (Bd.small (by decide) (by decide)) (by decide)
   have Td:fP 1 ([0,1]:List Int):=λx hx=>by
    simp only[Wk,Z3,or_false] at hx
    rcases hx with rfl|rfl <;> (show Zz _<2 ^ 1;decide)
   have br:=YH r i eR (by omega)
   refine⟨_,rfl,l1,ra,[0,1],r,rfl,aN.of av,aN.of (k1 _ _ VA),by decide,by omega,YI,br.mono (by decide),λpm H5 g5 n5 e5=>?_⟩
   have Te:=k1.trans g5;have lpm:(d9 [0,1] r).length<=28:=by
    unfold d9;split
    ·simp
    ·rw[Ya,Yf];show 2+r.length-1<=28;omega
   have YJ:fP 9010 (d9 [0,1] r):=(Td.d9 br).mono (by show 1+9001+2<=9010;decide)
   have tot:9010+(d9 [0,1] r).length*(5000+2)<=1000000:=by omega
   refine⟨_,rfl,pm,a,d9 [0,1] r,f,9010,5000,rfl,aN.of e5,(g4.trans Te).seq ha,by omega,by omega,mf,YJ,bf,tot,λq1 r1 hd1 _ _ t1 qa1 YK H6 g6 n6 n7 YL YM eq1 YN=>?_⟩
   refine⟨t1,_,_,_,rfl,rfl,kG.of YM,rfl,?_⟩
   have e1:aq r1=R (i+1):=by
    have h1:=vo.Tc lf hd1;rw[MY,NH,eR] at h1;exact kQ.uniq hf h1 (hR.succ i)
   have Ov:=Te.trans g6;refine⟨g4.trans Ov,ts++[(D,(Yk n).map (R i))],r1,YK,_,rfl,Oo.same Ov,by rw[Yi,lt];rfl,λt ht=>?_,λx j hx hj=>?_,YN,e1,by have:=hd1.len;omega,hd1.nr,λz=>by rw[z,(Oo.same Te).top] at n7;cases n7⟩
   ·rcases List.mem_append.mp ht with y|y
    ·exact hts t y
    ·have:t=(D,(Yk n).map (R i)):=by simpa using y
     rw[this];exact⟨by simp,Qg⟩
   ·by_cases e:x=i
    ·have ex:x=ts.length:=by omega
     have:zw (lvals (ts++[(D,(Yk n).map (R i))])) ts.length j=((Yk n).map (R i)).getD j 0:=by
      rw[pD (by rw[Yi];show _<_+1;omega)]
      simp
     rw[ex,this,<- ex,e,Yb,Ye,Y0 hj];rfl
    ·rw[pD (by rw[Yi];omega),List.getElem_append_left (by omega),<- pD (by omega)]
     exact Oq x j (by omega) hj
 ·rintro σ H2 ⟨g2,ts,r,ra,o,rfl,hT,lt,hts,Oq,er,eR,lr,nr,Vz⟩
  have ed:det n (zw (lvals ts))=det n λi j=>R i j:=cT λi j hi hj=>Oq i j hi hj
  refine⟨_,rfl,p0,ts,n,E9,rfl,hT,⟨lt,λt ht=>(hts t ht).1⟩,hn,LV,λi j hi hj=>by rw[Oq i j hi hj];exact bR i j (by omega),λH3 g3=>?_⟩
  rw[ed];exact q H3 (g2.trans g3)
end
theorem pG (f:List Int):(dl f).length=f.length-1:=by unfold dl;rw[Ya,Yf]
theorem NI {f:List Int}{m:Nat}(h:fP m f)(l:f.length<=1000):fP (m+10) (dl f):=by
 intro x hx;obtain⟨i,hi,rfl⟩:=List.mem_map.mp hx;have hi':=List.mem_range.mp hi;have b1:Bd 10 ((i+1:Nat):Int):=show Zz _<2 ^ 10 by omega
 exact(b1.mul (h.aq _)).mono (by omega)
theorem Il (n:Nat)(h:n<=26):(n*(n-1) / 2 % 2=1->tg n=-1)/\(¬ n*(n-1) / 2 % 2=1->tg n=1):=by
 have key:∀n:Fin 27,(n.val*(n.val-1) / 2 % 2=1->tg n.val=-1)/\(¬ n.val*(n.val-1) / 2 % 2=1->tg n.val=1):=by decide +kernel
 exact key ⟨n,by omega⟩
def zz (K:bG):Sp:=λvs H Q _=>∃(a:o?) (f:List Int) (n E:Nat),vs=[.ref a]/\aN K H a (f.map V.int)/\f.length=n+1/\1<=n/\n<=26/\dh f/\fP 4990 f/\E<=9000/\n*(E+5)<9000/\
 (∀i j,i<=n->(rr (aq f) n (aq (dl f)) (dl f).length i j).natAbs<=2 ^ E)/\∀H',aG H H'->Q (.int (tg n*det n λi j=>rr (aq f) n (aq (dl f)) (dl f).length i j)) H'
section
theorem ud (B:iI mg)(Fj:b_ P w K mg base 1 "derived" ["f"] (LX K))(mZ:b_ P w K mg base 3 "resultant" l_ (Ik K))(F:Src K mg "discriminant" jh ["f"]):b_ P w K mg base 4 "discriminant" ["f"] (zz K):=by
 refine F.ok iH (λvs H Q E h=>?_) (λfa cdv A outer s H vs Q E hr h=>?_)
 ·obtain⟨a,f,n,E,rfl,_⟩:=h;rfl
 obtain⟨a,f,n,E9,rfl,ha,lf,hn1,hn,mf,bf,hE,LV,bR,q⟩:=h;generalize hd:(det n λi j=>rr (aq f) n (aq (dl f)) (dl f).length i j)=D at q
 refine⟨_,ah (aB (i:=1) iH.nd rfl (z? rfl) (au bW (aM (aQ (K:=K) rfl) rfl B.len b8 (af (pv 0) ai)) ak))
  (ah (aB (i:=2) iH.nd rfl (z? rfl) (aE mZ hr (af (pv 0) (af (aE Fj hr (af (pv 0) ai)) ai))))
  (ah (dS (aR gy (au bw (au bE (au aT (pv 1) (au bW (pv 1) ak)) ak) ak) ak (aY _))
   (ay (aK (z8 uV (pv 2))))
   (bY))
  (ay (aK (pv 2))))),?_⟩
 refine⟨_,rfl,a,_,rfl,.inl ha,?_⟩
 rw[Ya,lf];refine⟨_,_,rfl,rfl,?_⟩
 show iO 1 (V.int (((n+1:Nat):Int)-1)) _ _ _
 rw[show((n+1:Nat):Int)-1=(n:Int) by omega]
 refine⟨_,rfl,_,rfl,a,f,rfl,ha,by omega,λpd H1 g1 n1 e1=>?_⟩
 refine⟨a,pd,f,dl f,n,E9,rfl,g1.seq ha,aN.of e1,lf,hn1,hn,by rw[pG];omega,mf,J_ (.inr (by rw[mf.2];decide)),bf.mono (by decide),NI bf (by omega),hE,LV,bR,λH2 g2=>?_⟩
 rw[hd];have g:=g1.trans g2;obtain⟨t1,t2⟩:=Il n hn;have em:((((n:Int)*((n:Int)-1)).fdiv 2).fmod 2)=((n*(n-1) / 2 % 2:Nat):Int):=by
  obtain⟨k,rfl⟩:∃k,n=k+1:=⟨n-1,by omega⟩
  have e1:((k+1:Nat):Int)-1=(k:Int):=by omega
  have e2:k+1-1=k:=by omega
  rw[e1,e2,<- Zl,Zj _ (by decide),Y5 _ (by decide)]
  omega
 refine⟨_,rfl,_,rfl,_,_,rfl,rfl,_,_,rfl,rfl,gD (by omega) (by omega),?_⟩
 refine⟨_,_,rfl,rfl,(Bd.small (by decide) (by decide)).dv (by decide),_,_,rfl,rfl,(by decide:(2:Int)≠0),rfl,_,rfl,?_⟩
 by_cases c:n*(n-1) / 2 % 2=1
 ·refine MW (by show V.int ((((n:Int)*((n:Int)-1)).fdiv 2).fmod 2)=V.int 1;rw[em,c];rfl) ?_
  have:=q H2 g
  rw[t1 c,show -1*D=- D by omega] at this
  exact⟨_,rfl,_,rfl,this⟩
 ·refine MV (λz=>c (by have z':V.int ((((n:Int)*((n:Int)-1)).fdiv 2).fmod 2)=V.int 1:=z;have:=V.int.inj z';rw[em] at this;omega)) ?_
  have:=q H2 g
  rw[t2 c,Zn] at this;exact⟨_,rfl,this⟩
end
section
def eN (l:List Int):El:=.vec (l.map El.num)
def Rw (p:Nat)(n:Nat)(l:List Int):Prop:=l.length=n/\∀x∈l,0<=x/\x<(p:Int)
theorem qY {H:Hp}{ok:o?->Prop}{l:o?}{ns:List Int}(h:H l=j? (.lst (ns.map V.int)))(k:ok l):Rep H ok (.ref l) (eN ns):=.vec h k (by rw[Ya,Ya]) λi v e h1 h2=>by
 rw[Ye] at h1 h2;cases z:ns[i]? with
 | none=>rw[z] at h1;cases h1
 | some n=>rw[z] at h1 h2;cases h1;cases h2;exact .num n
theorem ints_rep {H:Hp}{ok:o?->Prop}{v:V}{ns:List Int}(h:Rep H ok v (eN ns)):∃l,v=.ref l/\H l=j? (.lst (ns.map V.int))/\ok l:=by
 unfold eN at h;generalize he:El.vec (ns.map El.num)=e at h;cases h with
 | num n=>cases he
 | @vec a vs l h k hl it=>
  injection he with he
  refine⟨a,rfl,?_,k⟩
  have:vs=ns.map V.int:=by
   refine Zv λi=>?_
   rw[Ye];cases z:ns[i]? with
   | none=>
    have:=List.getElem?_eq_none_iff.mp z
    rw[List.getElem?_eq_none_iff.mpr (by rw[hl,<- he,Ya];exact this)];rfl
   | some n=>
    have hi:=(List.getElem?_eq_some_iff.mp z).1;have h2:l[i]?=j? (.num n):=by rw[<- he,Ye,z];rfl
    have h1:vs[i]?=j? (vs[i]'(by rw[hl,<- he,Ya];exact hi)):=Yc _
    have:=it i _ _ h1 h2
    rw[h1];generalize vs[i]'(by rw[hl,<- he,Ya];exact hi)=y at this
    cases this;rfl
  rw[<- this];exact h
def yk:Sp:=λvs H Q _=>∃(p m:Nat) (i:Nat) (u v:V) (a b:List Int),vs=[u,v,.int (i:Int),.int (p:Int)]/\p∈PR/\Rep H Any u (eN a)/\Rep H Any v (eN b)/\Rw p m a/\Rw p m b/\i<m/\m<=100/\∀r H',aG H H'->Rep H' (dY H) r (eN (Z4 (λx y=>(x-a.getD i 0*y) % (p:Int)) a b))->Q r H'
theorem ue (B:iI mg)(F:Src K mg "without_lead" gp Ci):b_ P w K mg base 1 "without_lead" Ci yk:=by
 refine F.ok lV (λvs H Q E h=>?_) (λfa cdv A outer s H vs Q E hr h=>?_)
 ·obtain⟨p,m,i,u,v,a,b,rfl,_⟩:=h;rfl
 obtain⟨p,m,i,u,v,a,b,rfl,hp,ru,rv,ra,rb,hi,hm,q⟩:=h;obtain⟨la,rfl,hla,_⟩:=ints_rep ru;obtain⟨lb,rfl,hlb,_⟩:=ints_rep rv;refine⟨_,ah (aB (i:=4) lV.nd rfl (Or.inr rfl) (bI (aJ (K:=K) rfl) (pv 0) (pv 2) (λ_ _=>rfl)))
  (ay (aK (bM (aF (N:=ND) (sl:=[q?,q?,j? 4,j? 3]) (ao gp) ["row","lead_row","place","p","factor"] rfl rfl (by decide +kernel)) rfl (uG (K:=K) rfl rfl B.zip (af (pv 0) (af (pv 1) ai))) (λ_ _ _ _ _=>(cZ (n:=2) (K:=K) rfl rfl (aS (aC (i:=0) (Yk_ ND) rfl (z? rfl)) (aS (aC (i:=1) (Yk_ ND) rfl (z? rfl)) cY)))) (λ_ _ _ _ _=>aP) (λ_ _ _ _ _=>(au bw (au bW (pv 0) (au aT (pv 2) (pv 1))) (pv 3)))))),?_⟩
 have pp:=cC hp;have hget:a[i]?=j? (a.getD i 0):=by rw[Yb,Yc (by rw[ra.1];exact hi)];rfl
 have hga:=ra.2 _ (Yt hget);generalize a.getD i 0=c at hget hga q;refine⟨_,rfl,_,rfl,la,_,_,_,rfl,rfl,aN.of hla,fH (j:=i) (by rw[Ye,hget];rfl),?_⟩
 refine⟨_,rfl,_,rfl,la,lb,rfl,⟨_,aN.of hla⟩,⟨_,aN.of hlb⟩,λD hD=>?_⟩
 refine AB (xs:=a.map V.int) (ys:=b.map V.int) (λn zs H2=>aG H H2/\zs=((Z4 (λx y=>(x-c*y) % (p:Int)) a b).take n).map V.int) (by rw[Ya,Ya,ra.1,rb.1]) ⟨aA hD _,rfl⟩ (λn zs H2 _ h=>⟨aN.of (h.1 _ _ hla),aN.of (h.1 _ _ hlb)⟩) (λn m' vx vy zs H2 r hm hn jT Im hy hlen h hr2=>?_) (λzs H2 hy h=>?_)
 ·obtain⟨g2,rfl⟩:=h
  rw[Ya,ra.1] at hn;obtain⟨x,hx,rfl⟩:=aU jT;obtain⟨y,hy',rfl⟩:=aU Im;have k2:=aA hr2 (.tup [.int x,.int y]);have yb:=rb.2 _ (Yt hy');refine⟨r,_,rfl,kG.of av,rfl,_,_,rfl,_,_,rfl,rfl,?_⟩
  refine⟨_,rfl,_,rfl,_,rfl,_,_,rfl,rfl,DA (Bd.small (by omega) (by omega)) (Bd.small (by omega) (by omega)) (by decide),_,_,rfl,rfl,_,rfl,_,_,rfl,rfl,(show(p:Int)≠0 by omega),?_⟩
  refine CW.emit hm (by rw[Ya,ra.1];exact hn) (by rw[Ya,ra.1,C?];omega) (k2 _ _ hy) hlen ⟨aG.aZ (g2.trans k2) hD _,?_⟩
  have hz:(Z4 (λx y=>(x-c*y) % (p:Int)) a b)[n]?=j? ((x-c*y) % (p:Int)):=by rw[List.getElem?_zipWith,hx,hy']
  rw[List.take_succ,hz,Yz];show _++[V.int ((x-c*y).fmod (p:Int))]=_++[V.int ((x-c*y) % (p:Int))]
  rw[yZ]
 ·obtain⟨g2,rfl⟩:=h
  rw[Zm (by rw[List.length_zipWith,Ya,ra.1,rb.1];omega)] at hy
  exact q _ _ g2 (qY hy (show H D=q? from hD))
def yl:Sp:=λvs H Q _=>∃(p:Nat) (hp:p∈PR) (m i:Nat) (u:V) (a:List Int),vs=[u,.int (i:Int),.int (p:Int)]/\Rep H Any u (eN a)/\Rw p m a/\i<m/\m<=100/\a.getD i 0≠0/\∀(b:Nat) r H',(b*(a.getD i 0).toNat) % p=1->aG H H'->Rep H' (dY H) r (eN (a.map λx=>((b:Int)*x) % (p:Int)))->Q r H'
theorem sO (B:iI mg)(F:Src K mg "with_lead_one" fN Ic):b_ P w K mg base 1 "with_lead_one" Ic yl:=by
 refine F.ok gM (λvs H Q E h=>?_) (λfa cdv A outer s H vs Q E hr h=>?_)
 ·obtain⟨p,hp,m,i,u,a,rfl,_⟩:=h;rfl
 obtain⟨p,hp,m,i,u,a,rfl,ru,ra,hi,hm,h0,q⟩:=h;obtain⟨la,rfl,hla,_⟩:=ints_rep ru;refine⟨_,ah (aB (i:=3) gM.nd rfl (Or.inr rfl) ak)
  (ah (ee D? (aR tN (au bw (au aT (pv 3) (bI (aJ (K:=K) rfl) (pv 0) (pv 1) (λ_ _=>rfl))) (pv 2)) ak (aY _))
   (ay (yz (i:=3) gM.nd rfl (Or.inr rfl) ak yC)))
  (ay (aK (bM (aF (N:=["one","back","p"]) (sl:=[q?,j? 3,j? 2]) (ao fN) ["row","place","p","back"] rfl rfl (by decide +kernel)) rfl (bF (K:=K) rfl (pv 0)) (λ_ _ _ _ _=>(aC (i:=0) (Yk_ ["one","back","p"]) rfl (z? rfl))) (λ_ _ _ _ _=>aP) (λ_ _ _ _ _=>(au bw (au aT (pv 1) (pv 0)) (pv 2))))))),?_⟩
 have pp:=cC hp;have hget:a[i]?=j? (a.getD i 0):=by rw[Yb,Yc (by rw[ra.1];exact hi)];rfl
 have hga:=ra.2 _ (Yt hget);generalize a.getD i 0=c at hget hga h0 q;obtain⟨cn,rfl⟩:=Zi hga.1;obtain⟨y,hy,e1⟩:=yX p hp cn (by omega) (by omega)
 have e1:cn*y % p=1:=by rw[e1];exact Z2 (by omega)
 have y0:y≠0:=λz=>by rw[z,W2,Nat.zero_mod] at e1;omega
 refine i_ (λσ H2=>H2=H/\∃b:Nat,σ=[Rq la,Iq (i),Iq (p),Iq (b)]/\1<=b/\b<=y) (λσ _=>match σ with | [_,_,_,j? (.int b)]=>(y:Nat)-b.toNat|_=>0) ⟨rfl,1,rfl,Yd 1,by omega⟩ ?_
 rintro σ H2 ⟨rfl,b,rfl,b1,b2⟩;refine⟨_,rfl,_,rfl,_,rfl,la,_,_,_,rfl,rfl,aN.of hla,fH (j:=i) (by rw[Ye,hget];rfl),_,_,rfl,rfl,DA (Bd.small (by omega) (by omega)) (Bd.small (by omega) (by omega)) (by decide),_,rfl,_,_,rfl,rfl,(show(p:Int)≠0 by omega),?_⟩
 have ev:((b:Int)*(cn:Int)).fmod (p:Int)=((b*cn % p:Nat):Int):=by rw[yZ,<- Zl,<- Int.natCast_emod]
 refine⟨rfl,_,rfl,?_⟩
 by_cases e:b*cn % p=1
 ·refine om (by show V.int (((b:Int)*(cn:Int)).fmod (p:Int))=V.int 1;rw[ev,e];rfl) ?_
  refine⟨_,rfl,la,rfl,⟨_,aN.of hla⟩,λD hD=>?_⟩
  refine gF (xs:=a.map V.int) (λn zs H3=>aG H2 H3/\zs=((a.map λx=>((b:Int)*x) % (p:Int)).take n).map V.int) ⟨aA hD _,rfl⟩ (λn zs H3 _ h=>aN.of (h.1 _ _ hla)) ?_ ?_
  ·rintro n m' vx zs H3 hm' hn jT hy' hlen ⟨g3,rfl⟩
   rw[Ya,ra.1] at hn;obtain⟨x,hx,rfl⟩:=aU jT;have xb:=ra.2 _ (Yt hx);refine⟨_,rfl,_,rfl,_,_,rfl,rfl,DA (Bd.small (by omega) (by omega)) (Bd.small (by omega) (by omega)) (by decide),_,rfl,_,_,rfl,rfl,(show(p:Int)≠0 by omega),?_⟩
   refine CW.emit hm' (by rw[Ya,ra.1];exact hn) (by rw[Ya,ra.1,C?];omega) hy' hlen ⟨aG.aZ g3 hD _,?_⟩
   have hz:(a.map λx=>((b:Int)*x) % (p:Int))[n]?=j? (((b:Int)*x) % (p:Int)):=by rw[Ye,hx];rfl
   rw[List.take_succ,hz,Yz];show _++[V.int (((b:Int)*x).fmod (p:Int))]=_++[V.int (((b:Int)*x) % (p:Int))]
   rw[yZ]
  ·rintro zs H3 hy' ⟨g3,rfl⟩
   rw[Zm (by rw[Ya,Ya];omega)] at hy'
   exact q b _ _ (by rw[Yj];exact e) g3 (qY hy' (show H2 D=q? from hD))
 ·refine Ae (λz=>e ?_) ?_
  ·have z:V.int (((b:Int)*(cn:Int)).fmod (p:Int))=V.int 1:=z
   rw[ev] at z;injection z with z
   omega
  ·have hne:b≠y:=λz=>e (by rw[z,Wn];exact e1)
   refine win ⟨_,rfl,_,_,rfl,rfl,⟨rfl,b+1,rfl,by omega,by omega⟩,?_⟩
   show y-((b:Int)+1).toNat<y-(b:Int).toNat
   omega
def D7 (K:bG):Sp:=λvs H Q _=>∃(p m i:Nat) (u:V) (R:List (List Int)),vs=[u,.int (i:Int)]/\Rep H Any u (.vec (R.map eN))/\(∀a∈R,Rw p m a)/\i<m/\R.length<=100/\
 (∀(t:Nat) (a:List Int) H',aG H H'->R[t]?=j? a->a.getD i 0≠0->Q (.int (t:Int)) H')/\((∀a∈R,a.getD i 0=0)->∀H',aG H H'->Q .eO H')
theorem xj (B:iI mg)(F:Src K mg "first_lead" kX Ie):b_ P w K mg base 1 "first_lead" Ie (D7 K):=by
 refine F.ok jQ (λvs H Q E h=>?_) (λfa cdv A outer s H vs Q E hr h=>?_)
 ·obtain⟨p,m,i,u,R,rfl,_⟩:=h;rfl
 obtain⟨p,m,i,u,R,rfl,ru,rw',hi,hR,q1,q2⟩:=h;refine⟨_,ah (cK D? rfl (iy (K:=K) rfl rfl B.enumerate (af (pv 0) ai)) (cZ (n:=2) (K:=K) rfl rfl (aS (aC (i:=2) jQ.nd rfl (z? rfl)) (aS (aC (i:=3) jQ.nd rfl (z? rfl)) cY)))
   (ay (dS (aR tN (bI (aJ (K:=K) rfl) (pv 3) (pv 1) (λ_ _=>rfl)) ak (aY _))
    (ay (aK (pv 2)))
    (bY))))
  (ay (aK rJ)),?_⟩
 rw[sr] at ru;obtain⟨l,vs,rfl,hl,_,C⟩:=id ru.cf;have lv:vs.length=R.length:=by rw[C.len,Ya]
 refine⟨_,rfl,l,rfl,⟨_,aN.of hl⟩,j_ (st:=0) (xs:=vs) (λn σ H2=>aG H H2/\(∀(t:Nat) a,t<n->R[t]?=j? a->a.getD i 0=0)/\∃o1 o2,σ=[Rq l,Iq (i),o1,o2]) ⟨aG.refl H,λt a ht=>Jd ht (Wc _),_,_,rfl⟩ (λn σ H2 _ h=>aN.of (h.1 _ _ hl)) ?_ ?_⟩
 ·rintro n v σ H2 r hv ⟨g2,h2,o1,o2,rfl⟩ hr2
  obtain⟨hn,rv⟩:=C.get hv;have RG:n<R.length:=by rw[Ya] at hn;exact hn
  have e:(R.map eN).getD n (.num 0)=eN R[n]:=by rw[Yb,Ye,Yc RG];rfl
  rw[e] at rv;have k2:=aA hr2 (.tup [.int ((0+n:Nat):Int),v]);have e3:(upd H2 r (.tup [.int ((0+n:Nat):Int),v])) r=j? (.tup [.int ((0+n:Nat):Int),v]):=av;generalize upd H2 r (.tup [.int ((0+n:Nat):Int),v])=H3 at k2 e3;have wn:=rw' _ (Yy RG);obtain⟨la,rfl,hla,_⟩:=ints_rep ((rv.same g2).same k2);have hget:R[n][i]?=j? (R[n].getD i 0):=by rw[Yb,Yc (by rw[wn.1];exact hi)];rfl
  refine⟨r,_,rfl,kG.of e3,rfl,_,_,rfl,_,_,rfl,rfl,?_⟩
  refine⟨_,rfl,_,rfl,la,_,_,_,rfl,rfl,aN.of hla,fH (j:=i) (by rw[Ye,hget];rfl),rfl,_,rfl,?_⟩
  by_cases z:R[n].getD i 0=0
  ·refine om (by rw[z]) ⟨g2.trans k2,λt a ht hat=>?_,_,_,rfl⟩
   by_cases c:t<n
   ·exact h2 t a c hat
   ·obtain rfl:t=n:=by omega
    rw[Yc RG] at hat;cases hat;exact z
  ·refine Ae (λy=>z (V.int.inj y)) ⟨_,rfl,?_⟩
   rw[W1];exact q1 n _ _ (g2.trans k2) (Yc RG) z
 ·rintro σ H2 ⟨g2,h2,o1,o2,rfl⟩
  refine q2 (λa ha=>?_) _ g2
  obtain⟨t,ht,rfl⟩:=Z6 ha;exact h2 t _ (by omega) (Yc ht)
theorem uL {β:Type}{l:List β}{t:Nat}(ht:t<l.length)(i:Nat):(l.take t++l.drop (t+1))[i]?=l[if i<t then i else i+1]?:=by
 by_cases h:i<t
 ·rw[W7 h,Y9 (by rw[Yx];omega),List.getElem?_take_of_lt h]
 ·rw[W6 h,Zb (by rw[Yx];omega),Yx,List.getElem?_drop]
  congr 1
  omega
theorem Rw.get {p m:Nat}{l:List Int}(h:Rw p m l)(j:Nat):0<=l.getD j 0/\(l.getD j 0<(p:Int)\/l.getD j 0=0):=by
 rw[Yb];cases e:l[j]? with
 | none=>exact⟨Int.le_refl 0,.inr rfl⟩
 | some x=>have:=h.2 x (Yt e);exact⟨this.1,.inl this.2⟩
def zr {p:Nat}(hp:p∈PR)(l:List Int)(j:Nat):(ground p hp).α:=nt (ground p hp).α (l.getD j 0).toNat
theorem Io {p:Nat}(hp:p∈PR){x y:Int}(hx:0<=x)(hy:0<=y)(h:x % (p:Int)=y % (p:Int)):nt (ground p hp).α x.toNat=nt (ground p hp).α y.toNat:=by
 rw[<- B6 (ground p hp).ch x.toNat,<- B6 (ground p hp).ch y.toNat];congr 1
 show x.toNat % p=y.toNat % p
 have e1:((x.toNat % p:Nat):Int)=x % (p:Int):=by rw[Int.natCast_emod,Z7 hx]
 have e2:((y.toNat % p:Nat):Int)=y % (p:Int):=by rw[Int.natCast_emod,Z7 hy]
 omega
theorem pH {p m:Nat}(hp:p∈PR){a b:List Int}{c:Int}(ra:Rw p m a)(rb:Rw p m b)(c0:0<=c)(j:Nat):zr hp (Z4 (λx y=>(x-c*y) % (p:Int)) a b) j=zr hp a j-nt (ground p hp).α c.toNat*zr hp b j:=by
 have pp:=cC hp;have key:∀x y:Int,0<=x->0<=y->nt (ground p hp).α ((x-c*y) % (p:Int)).toNat=nt (ground p hp).α x.toNat-nt (ground p hp).α c.toNat*nt (ground p hp).α y.toNat:=λx y hx hy=>by
  have h:nt (ground p hp).α ((x-c*y) % (p:Int)).toNat+nt (ground p hp).α (c.toNat*y.toNat)=nt (ground p hp).α x.toNat:=by
   rw[<- vI];have hm:=Zg (x-c*y) (show(p:Int)≠0 by omega)
   have hcy:0<=c*y:=Wx c0 hy;have e:(((x-c*y) % (p:Int)).toNat+c.toNat*y.toNat:Nat)=((x-c*y) % (p:Int)+c*y).toNat:=by
    have:((c.toNat*y.toNat:Nat):Int)=c*y:=by rw[Zl,Z7 c0,Z7 hy]
    omega
   rw[e];refine Io hp (by omega) hx ?_
   rw[Int.emod_add_emod];congr 1
   omega
  rw[r_] at h;grind
 unfold zr;by_cases hj:j<m
 ·have h1:a[j]?=j? (a.getD j 0):=by rw[Yb,Yc (by rw[ra.1];exact hj)];rfl
  have h2:b[j]?=j? (b.getD j 0):=by rw[Yb,Yc (by rw[rb.1];exact hj)];rfl
  have h3:(Z4 (λx y=>(x-c*y) % (p:Int)) a b).getD j 0=(a.getD j 0-c*b.getD j 0) % (p:Int):=by rw[Yb,List.getElem?_zipWith,h1,h2];rfl
  rw[h3];exact key _ _ (ra.get j).1 (rb.get j).1
 ·have h1:a.getD j 0=0:=by rw[Yb,Wi (by rw[ra.1];omega)];rfl
  have h2:b.getD j 0=0:=by rw[Yb,Wi (by rw[rb.1];omega)];rfl
  have h3:(Z4 (λx y=>(x-c*y) % (p:Int)) a b).getD j 0=0:=by rw[Yb,Wi (by rw[List.length_zipWith,ra.1,rb.1];omega)];rfl
  rw[h1,h2,h3];show(0:(ground p hp).α)=0-nt (ground p hp).α c.toNat*0
  grind
theorem Rw.without {p m:Nat}(hp:p∈PR){a b:List Int}{c:Int}(ra:Rw p m a)(rb:Rw p m b):Rw p m (Z4 (λx y=>(x-c*y) % (p:Int)) a b):=by
 have pp:=cC hp;refine⟨by rw[List.length_zipWith,ra.1,rb.1,Nat.min_self],λx hx=>?_⟩
 obtain⟨i,hi,rfl⟩:=Z6 hx;rw[List.getElem_zipWith];exact⟨Zg _ (by omega),Zc _ (by omega)⟩
theorem zA {p m:Nat}(hp:p∈PR){a:List Int}{b:Nat}(ra:Rw p m a)(j:Nat):zr hp (a.map λx=>((b:Int)*x) % (p:Int)) j=nt (ground p hp).α b*zr hp a j:=by
 have pp:=cC hp;unfold zr;have h3:(a.map λx=>((b:Int)*x) % (p:Int)).getD j 0=((b:Int)*a.getD j 0) % (p:Int):=by
  rw[Yb,Yb,Ye];cases a[j]? with
  | none=>show(0:Int)=((b:Int)*0) % (p:Int);simp
  | some x=>rfl
 have h0:=(ra.get j).1;rw[h3,<- r_];have e:(b*(a.getD j 0).toNat:Nat)=((b:Int)*a.getD j 0).toNat:=by
  have:((b*(a.getD j 0).toNat:Nat):Int)=(b:Int)*a.getD j 0:=by rw[Zl,Z7 h0]
  omega
 rw[e];exact Io hp (Zg _ (by omega)) (Wx (by omega) h0) (Int.emod_emod _ _)
theorem Rw.lead {p m:Nat}(hp:p∈PR){a:List Int}{b:Nat}(ra:Rw p m a):Rw p m (a.map λx=>((b:Int)*x) % (p:Int)):=by
 have pp:=cC hp;refine⟨by rw[Ya,ra.1],λx hx=>?_⟩
 obtain⟨y,_,rfl⟩:=List.mem_map.mp hx;exact⟨Zg _ (by omega),Zc _ (by omega)⟩
def fG (n t:Nat):List Int:=(Yk n).map λj=>if j=t then 1 else 0
theorem A1 {p W n:Nat}(hp:p∈PR){R:List (List Int)}(hn:R.length=n)(hR:∀a∈R,Rw p W a){t:Nat}{a:List Int}(ht:R[t]?=j? a):zr hp (a++fG n t)=jz W n (λr j=>zr hp (R.getD r []) j) t:=by
 funext j
 have ra:=hR a (Yt ht);have et:R.getD t []=a:=by rw[Yb,ht];rfl
 show nt (ground p hp).α ((a++fG n t).getD j 0).toNat=if j<W then zr hp (R.getD t []) j else if j<W+n then (if j-W=t then 1 else 0) else 0
 have lu:(fG n t).length=n:=by unfold fG;rw[Ya,Yf]
 by_cases h1:j<W
 ·rw[W7 h1,et,Yb,Y9 (by rw[ra.1];exact h1)]
  unfold zr;rw[Yb]
 ·rw[W6 h1,Yb,Zb (by rw[ra.1];omega),ra.1]
  by_cases h2:j<W+n
  ·rw[W7 h2]
   unfold fG;rw[Ye,Y0 (by omega)]
   show nt (ground p hp).α (if j-W=t then (1:Int) else 0).toNat=_
   by_cases h3:j-W=t
   ·rw[W7 h3,W7 h3];exact vJ
   ·rw[W6 h3,W6 h3];rfl
  ·rw[W6 h2,Wi (by rw[lu];omega)];rfl
def KY {α:Type}[Lean.Grind.CommRing α](W n:Nat)(S:List (Nat->α)):Prop:=∃ι:Nat->Nat,(∀u,u<S.length->ι u<n)/\∀(t u:Nat) s,S[t]?=j? s->u<S.length->s (W+ι u)=if t=u then 1 else 0
theorem KY.step {α:Type}[Lean.Grind.CommRing α]{W n t k:Nat}{S S':List (Nat->α)}{s0 r:Nat->α}{b:α}(h:KY W n S)(ht:S[t]?=j? s0)(er:∀j,r j=b*s0 j)(hl:S'.length+1=S.length)(hs:∀(i:Nat) s',S'[i]?=j? s'->∃s,S[if i<t then i else i+1]?=j? s/\∀j,s' j=s j-s k*r j):KY W n S':=by
 obtain⟨ι,h1,h2⟩:=h;have S6:=(List.getElem?_eq_some_iff.mp ht).1;refine⟨λu=>ι (if u<t then u else u+1),λu hu=>h1 _ (by split <;> omega),λi u s' hi hu=>?_⟩
 obtain⟨s,hs1,hs2⟩:=hs i s' hi;have hk:(if u<t then u else u+1)<S.length:=by split <;> omega
 have e1:=h2 _ _ s hs1 hk;have e2:=h2 _ _ s0 ht hk;rw[W6 (show ¬ t=(if u<t then u else u+1) by split <;> omega)] at e2
 show s' (W+ι (if u<t then u else u+1))=_
 rw[hs2,er,e1,e2];by_cases c:i=u
 ·rw[W7 (by rw[c]),W7 c];grind
 ·rw[W6 (show ¬ (if i<t then i else i+1)=(if u<t then u else u+1) by split <;> split <;> omega),W6 c];grind
theorem KY.start {α:Type}[Lean.Grind.CommRing α]{W n:Nat}{R:Nat->Nat->α}:KY W n ((Yk n).map (jz W n R)):=by
 refine⟨λu=>u,λu hu=>by rw[Ya,Yf] at hu;exact hu,λt u s hs hu=>?_⟩
 rw[Ya,Yf] at hu;rw[Ye] at hs;have ht:t<n:=by
  rcases Nat.lt_or_ge t n with y|y
  ·exact y
  ·rw[List.getElem?_eq_none_iff.mpr (by rw[Yf];exact y)] at hs;cases hs
 rw[Y0 ht] at hs;cases hs;show(if W+u<W then R t (W+u) else if W+u<W+n then (if W+u-W=t then (1:α) else 0) else 0)=_
 rw[W6 (by omega),W7 (by omega),Wf]
 by_cases c:t=u
 ·rw[W7 c,W7 c.symm]
 ·rw[W6 c,W6 λz=>c z.symm]
def A2:Sp:=λvs H Q _=>∃(p:Nat) (hp:p∈PR) (W:Nat) (v:V) (R:List (List Int)),vs=[v,.int (p:Int)]/\Rep H Any v (.vec (R.map eN))/\1<=R.length/\R.length<=50/\W<=50/\(∀a∈R,Rw p W a)/\
 ∀(S:List (List Int)) r H',aG H H'->(∀l∈S,Rw p (W+R.length) l)->S.length<=50->(∀l∈S,∃i,i<R.length/\l.getD (W+i) 0≠0)->Bw W R.length (λr j=>zr hp (R.getD r []) j) W (S.map (zr hp))->Rep H' (dY H) r (.vec (S.map λl=>eN (l.drop W)))->Q r H'
theorem Fo (B:iI mg)(we:b_ P w K mg base 1 "without_lead" Ci yk)(uf:b_ P w K mg base 1 "with_lead_one" Ic yl)(zB:b_ P w K mg base 1 "first_lead" Ie (D7 K))(F:Src K mg "kernel" iA ["rows","p"]):b_ P w K mg base 2 "kernel" ["rows","p"] A2:=by
 refine F.ok f7 (λvs H Q E h=>?_) (λfa cdv A outer s H vs Q E hr h=>?_)
 ·obtain⟨p,hp,W,v,R,rfl,_⟩:=h;rfl
 obtain⟨p,hp,W,v,R,rfl,rv,n1,n2,hW,hR,q⟩:=h;refine⟨_,ah (aB (i:=2) f7.nd rfl (Or.inr rfl) (aM (aQ (K:=K) rfl) rfl B.len b8 (af (pv 0) ai)))
  (ah (aB (i:=3) f7.nd rfl (Or.inr rfl) (aM (aQ (K:=K) rfl) rfl B.len b8 (af (bI (aJ (K:=K) rfl) (pv 0) ak (λ_ _=>rfl)) ai)))
  (ah (GN (i:=4) f7.nd rfl (z? rfl) (gW (N:=["at","row","many"]) (sl:=[q?,q?,j? 2]) "at" (ao iA) RA rfl rfl (by decide +kernel)) rfl (iy (K:=K) rfl rfl B.enumerate (af (pv 0) ai)) (λ_ _ _ _ _=>(cZ (n:=2) (K:=K) rfl rfl (aS (aC (i:=0) (Yk_ ["at","row","many"]) rfl (Or.inr rfl)) (aS (aC (i:=1) (Yk_ ["at","row","many"]) rfl (z? rfl)) cY)))) (λ_ _ _ _ _=>aP) (λ_ _ _ _ _=>(au iE (pv 1) (bM (aF (N:=["place","at"]) (sl:=[q?,j? 0]) (qL (yT ((b7 iA).getD 2 (.Pass ⟨0,0,0,0⟩))) (ao iA)) ["at","row","many"] rfl rfl (by decide +kernel)) rfl (bL rfl B.range (af (pv 2) ai)) (λ_ _ _ _ _=>(aC (i:=0) (Yk_ ["place","at"]) rfl (z? rfl))) (λ_ _ _ _ _=>aP) (λ_ _ _ _ _=>(uP (aR gy (pv 0) (pv 1) (aY _)) ak ak))))))
  (ah (cK D? rfl (bL rfl B.range (af (pv 3) ai)) (aC (i:=5) f7.nd rfl (Or.inr rfl))
   (ah (aB (i:=6) f7.nd rfl (z? rfl) (aE zB hr (af (pv 4) (af (pv 5) ai))))
   (ay (dS (aR Gk (pv 6) rJ (aY _))
    (ah (aB (i:=7) f7.nd rfl (Or.inr rfl) (aE uf hr (af (bI (aJ (K:=K) rfl) (pv 4) (pv 6) (λ_ _=>rfl)) (af (pv 5) (af (pv 1) ai)))))
    (ay (jC (i:=4) f7.nd rfl (z? rfl) (aF (N:=Ci) (sl:=[q?,j? 7,j? 5,j? 1]) (ao iA) RA rfl rfl (by decide +kernel)) rfl (bF (K:=K) rfl (au iE (eU (eV (K:=K) rfl) (pv 4) f_ (gf (pv 6))) (eU (eV (K:=K) rfl) (pv 4) (gf (au bU (pv 6) ak)) f_))) (λ_ _ _ _ _=>(aC (i:=0) (Yk_ Ci) rfl (z? rfl))) (λ_ _ _ _ _=>aP) (λ_ _ _ _ _=>(aE we hr (af (pv 0) (af (pv 1) (af (pv 2) (af (pv 3) ai)))))))))
    (bY)))))
  (ay (aK (bM (aF (N:=["row","width"]) (sl:=[q?,j? 3]) (ao iA) RA rfl rfl (by decide +kernel)) rfl (bF (K:=K) rfl (pv 4)) (λ_ _ _ _ _=>(aC (i:=0) (Yk_ ["row","width"]) rfl (z? rfl))) (λ_ _ _ _ _=>aP) (λ_ _ _ _ _=>(eU (eV (K:=K) rfl) (pv 0) (gf (pv 1)) f_)))))))),?_⟩
 have pp:=cC hp;have rv0:=rv;rw[sr] at rv;obtain⟨l,vs,rfl,hl,_,C⟩:=id rv.cf;have lv:vs.length=R.length:=by rw[C.len,Ya]
 have Qh:∀ {i:Nat} {x:V} {H2:Hp},aG H H2->vs[i]?=j? x->∃a,R[i]?=j? a/\Rep H2 Any x (eN a):=λg hx=>by
  obtain⟨hi,r⟩:=C.get hx;rw[Ya] at hi;refine⟨_,Yc hi,?_⟩
  rw[Yb,Ye,Yc hi] at r;exact r.same g
 obtain⟨v0,hv0⟩:∃v0,vs[0]?=j? v0:=⟨_,Yc (by omega)⟩
 obtain⟨a0,ha0,r0⟩:=Qh (aG.refl H) hv0;obtain⟨l0,rfl,Gj,_⟩:=ints_rep r0;have w0:=(hR a0 (Yt ha0)).1;refine tW (λ_:Unit=>[Rq l,Iq (p),Iq (R.length),q?,q?,q?,q?,q?]) (λ_ H2=>H=H2) (λC' key=>⟨_,rfl,l,_,rfl,.inl (aN.of hl),G_ key () rfl (by rw[lv];rfl)⟩) ?_
 rintro _ _ rfl;refine tW (λ_:Unit=>[Rq l,Iq (p),Iq (R.length),Iq (W),q?,q?,q?,q?]) (λ_ H2=>H=H2) (λC' key=>⟨_,rfl,l,_,_,_,rfl,rfl,aN.of hl,fH (j:=0) hv0,l0,_,rfl,.inl (aN.of Gj),G_ key () rfl (by rw[Ya,w0];rfl)⟩) ?_
 rintro _ _ rfl;refine tW (λi:o?×List (List Int)=>[Rq l,Iq (p),Iq (R.length),Iq (W),Rq i.1,q?,q?,q?]) (λi H2=>aG H H2/\Rep H2 (dY H) (.ref i.1) (.vec (i.2.map eN))/\i.2=(Yk R.length).map λt=>R.getD t []++fG R.length t) (λC' key=>?_) ?_
 ·skip
  refine⟨_,rfl,l,rfl,⟨_,aN.of hl⟩,λD hD=>?_⟩
  refine xR (Rm:=0) (xs:=vs) (λi ys H2=>aG H H2/\Cf H2 (Off H D) ys i λt=>eN (R.getD t []++fG R.length t)) ⟨aA hD _,.nil⟩ (λi ys H2 _ h=>aN.of (h.1 _ _ hl)) ?_ ?_
  ·rintro t m' x ys H2 r hm' ht hx hy hlen ⟨g2,cy⟩ hr2
   have htR:t<R.length:=by omega
   obtain⟨a,ha,ra⟩:=Qh g2 hx;have wa:=hR a (Yt ha);have k2:=aA hr2 (.tup [.int ((0+t:Nat):Int),x]);have e3:(upd H2 r (.tup [.int ((0+t:Nat):Int),x])) r=j? (.tup [.int ((0+t:Nat):Int),x]):=av;generalize upd H2 r (.tup [.int ((0+t:Nat):Int),x])=H3 at k2 e3;obtain⟨la,rfl,hla,_⟩:=ints_rep (ra.same k2);refine⟨r,_,rfl,kG.of e3,rfl,_,_,rfl,_,_,rfl,rfl,?_⟩
   refine⟨_,rfl,_,rfl,_,rfl,by omega,by omega,λD2 w_=>?_⟩
   rw[Yj];refine i9 (λj zs H4=>aG H3 H4/\zs=((fG R.length t).take j).map V.int) ⟨aA w_ _,rfl⟩ ?_ ?_
   ·rintro j m2 zs H4 hm2 hj hz YO ⟨g4,rfl⟩
    have hu:(fG R.length t)[j]?=j? (if j=t then 1 else 0):=by unfold fG;rw[Ye,Y0 hj];rfl
    refine⟨_,rfl,_,rfl,rfl,_,rfl,?_⟩
    have fin:∀w:Int,(if j=t then (1:Int) else 0)=w->∃ys,H4 D2=j? (.lst ys)/\ys.length<K?/\∃m',m'<m2/\CW R.length D2 (λj zs H4=>aG H3 H4/\zs=((fG R.length t).take j).map V.int) (j+1) m' (upd H4 D2 (.lst (ys++[V.int w]))):=λw hw=>
     CW.emit hm2 hj (by rw[C?];omega) hz YO ⟨aG.aZ g4 w_ _,by rw[List.take_succ,hu,hw,Yz];rfl⟩
    by_cases c:j=t
    ·refine MW (by rw[c];congr 1;try omega) (fin 1 (W7 c))
    ·refine MV (λz=>c ?_) (fin 0 (W6 c))
     injection z with z
     omega
   ·rintro zs H4 hz ⟨g4,rfl⟩
    rw[Zm (by unfold fG;rw[Ya,Yf];exact Yd _)] at hz
    have lu:(fG R.length t).length=R.length:=by unfold fG;rw[Ya,Yf]
    refine⟨la,D2,_,_,rfl,rfl,g4 _ _ hla,hz,by rw[Ya,Ya,wa.1,lu,C?];omega,λl5 n5=>?_⟩
    have k5:=aA n5 (.lst (a.map V.int++(fG R.length t).map V.int));have e5:(upd H4 l5 (.lst (a.map V.int++(fG R.length t).map V.int))) l5=j? (.lst ((a++fG R.length t).map V.int)):=by rw[Yz];exact av
    generalize upd H4 l5 (.lst (a.map V.int++(fG R.length t).map V.int))=H5 at k5 e5;have LY:=(k2.trans g4).trans k5;have Tf:∀c,H2 c=q?->c≠D:=λc hc z=>by rw[z,hy] at hc;cases hc
    have VB:H2 l5=q?:=(k2.trans g4).free n5;refine CW.emit hm' ht (by rw[lv,C?];omega) (LY _ _ hy) hlen ⟨aG.aZ (g2.trans LY) hD _,?_⟩
    refine(Cf.push (cy.same LY) ?_).upd
    have et:R.getD t []=a:=by rw[Yb,ha];rfl
    rw[et];exact qY e5 ⟨g2.free VB,Tf _ VB⟩
  ·rintro ys H2 hy ⟨g2,cy⟩
   refine G_ key (D,(Yk R.length).map λt=>R.getD t []++fG R.length t) ⟨g2,?_,rfl⟩ rfl
   show Rep H2 (dY H) (.ref D) (.vec (((Yk R.length).map λt=>R.getD t []++fG R.length t).map eN))
   rw[W3];rw[lv] at cy;exact(cy.imp λc o h k=>⟨h,k.1⟩).rep hy hD
 rintro⟨lf,S⟩ H3 ⟨g3,rf,eS⟩
 have rf:Rep H3 (dY H) (.ref lf) (.vec (S.map eN)):=rf;have lS:S.length<=50:=by rw[show S=_ from eS,Ya,Yf];exact n2
 have hS:∀l∈S,Rw p (W+R.length) l:=λl hl'=>by
  rw[show S=_ from eS] at hl'
  obtain⟨t,ht,rfl⟩:=List.mem_map.mp hl';have ht:=List.mem_range.mp ht;have wt:=hR (R.getD t []) (by rw[Yb,Yc ht];exact Yy ht)
  refine⟨by rw[Yi,wt.1];unfold fG;rw[Ya,Yf],λx hx=>?_⟩
  rcases List.mem_append.mp hx with h|h
  ·exact wt.2 x h
  ·obtain⟨j,_,rfl⟩:=List.mem_map.mp h
   split <;> omega
 have kS:Bw W R.length (λr j=>zr hp (R.getD r []) j) 0 (S.map (zr hp)):=by
  have:S.map (zr hp)=(Yk R.length).map (jz W R.length λr j=>zr hp (R.getD r []) j):=by
   rw[show S=_ from eS,W3]
   refine Wq λt ht=>?_
   have ht:=List.mem_range.mp ht;have e:R[t]?=j? (R.getD t []):=by rw[Yb,Yc ht];rfl
   exact A1 hp rfl hR e
  rw[this];exact Bw.start
 have uS:KY W R.length (S.map (zr hp)):=by
  have:S.map (zr hp)=(Yk R.length).map (jz W R.length λr j=>zr hp (R.getD r []) j):=by
   rw[show S=_ from eS,W3]
   refine Wq λt ht=>?_
   have ht:=List.mem_range.mp ht;have e:R[t]?=j? (R.getD t []):=by rw[Yb,Yc ht];rfl
   exact A1 hp rfl hR e
  rw[this];exact KY.start
 clear eS;refine tW (λi:o?×Option V×Option V×Option V=>[Rq l,Iq (p),Iq (R.length),Iq (W),Rq i.1,i.2.1,i.2.2.1,i.2.2.2]) (λi H4=>aG H H4/\∃S:List (List Int),Rep H4 (dY H) (.ref i.1) (.vec (S.map eN))/\S.length<=50/\(∀l∈S,Rw p (W+R.length) l)/\KY W R.length (S.map (zr hp))/\Bw W R.length (λr j=>zr hp (R.getD r []) j) W (S.map (zr hp))) (λC' key=>?_) ?_
 ·skip
  refine⟨_,rfl,_,rfl,by omega,by omega,?_⟩
  rw[Yj];refine dF (λk σ H4=>aG H H4/\∃(lf:o?) (S:List (List Int)) (o1 o2 o3:Option V),σ=[Rq l,Iq (p),Iq (R.length),Iq (W),Rq lf,o1,o2,o3]/\Rep H4 (dY H) (.ref lf) (.vec (S.map eN))/\S.length<=50/\(∀l∈S,Rw p (W+R.length) l)/\KY W R.length (S.map (zr hp))/\Bw W R.length (λr j=>zr hp (R.getD r []) j) k (S.map (zr hp))) ⟨g3,lf,S,_,_,_,rfl,rf,lS,hS,uS,kS⟩ ?_ ?_
  ·rintro k σ H4 hk ⟨g4,lf,S,o1,o2,o3,rfl,rf,lS,hS,uS,kS⟩
   show iO 5 (V.int (0+(k:Int))) _ _ _
   rw[Z8];have VC:=rf;rw[sr] at rf;obtain⟨Tg,fs,Th,Ow,YQ,CF⟩:=id rf.cf;obtain rfl:lf=Tg:=V.ref.inj Th
   have RH:fs.length=S.length:=by rw[CF.len,Ya]
   have fget:∀ {i:Nat} {x:V} {H2:Hp},aG H4 H2->fs[i]?=j? x->∃a,S[i]?=j? a/\Rep H2 Any x (eN a):=λg hx=>by
    obtain⟨hi,r⟩:=CF.get hx;rw[Ya] at hi;refine⟨_,Yc hi,?_⟩
    rw[Yb,Ye,Yc hi] at r;exact(r.same g).any
   refine⟨_,rfl,_,rfl,p,W+R.length,k,.ref lf,S,rfl,VC.any,hS,by omega,by omega,λt s0 H5 g5 ht h0=>?_,λh0 H5 g5=>?_⟩
   ·have ht':=(List.getElem?_eq_some_iff.mp ht).1
    refine⟨_,rfl,rfl,_,rfl,Ae (λz=>by cases z) ?_⟩
    have g45:=g4.trans g5;obtain⟨xt,hxt⟩:∃x,fs[t]?=j? x:=⟨_,Yc (by omega)⟩
    obtain⟨s0',Qi,YR⟩:=fget g5 hxt;obtain rfl:s0=s0':=by rw[ht] at Qi;exact M? Qi
    have Qj:=Yt ht;refine⟨_,rfl,_,rfl,lf,_,_,_,rfl,rfl,aN.of (g5 _ _ Ow),fH (j:=t) hxt,_,rfl,_,rfl,p,hp,W+R.length,k,xt,s0,rfl,YR,hS s0 Qj,by omega,by omega,h0,λb r6 H6 hb g6 NJ=>?_⟩
    have Ov:=g5.trans g6;refine⟨_,rfl,_,rfl,_,rfl,lf,_,rfl,aN.of (Ov _ _ Ow),λl7 n7=>?_⟩
    rw[Kq fs t (by omega)]
    generalize hX:upd H6 l7 _=H7;have x7:=b9 n7 hX;clear hX;refine⟨_,rfl,_,rfl,_,_,rfl,rfl,_,rfl,lf,_,rfl,aN.of (x7.1 _ _ (Ov _ _ Ow)),λl8 n8=>?_⟩
    rw[show iD fs (j? ((t:Int)+1)) q?=fs.drop (t+1) from by rw[show(t:Int)+1=((t+1:Nat):Int) by omega];exact yd fs (t+1) (by omega)]
    generalize hX:upd H7 l8 _=H8;have x8:=b9 n8 hX;clear hX;refine⟨l7,l8,_,_,rfl,rfl,x8.1 _ _ x7.2,x8.2,by rw[Yx,Y7,C?];omega,λl9 n9=>?_⟩
    generalize hX:upd H8 l9 _=H9;have x9:=b9 n9 hX;clear hX;have Ox:=(x7.1.trans x8.1).trans x9.1;have KZ:=Ov.trans Ox;refine⟨l9,rfl,⟨_,aN.of x9.2⟩,λD hD=>?_⟩
    have Ti:=NJ.same Ox;have wl:=(hS s0 Qj).lead hp (b:=b);have YS:∀(i:Nat) x,(fs.take t++fs.drop (t+1))[i]?=j? x->∃a,(S.take t++S.drop (t+1))[i]?=j? a/\∀H2,aG H4 H2->Rep H2 Any x (eN a):=λi x hx=>by
     rw[uL (by omega)] at hx
     obtain⟨a,ha,_⟩:=fget (aG.refl H4) hx;exact⟨a,by rw[uL ht'];exact ha,λH2 g=>by obtain⟨a',ha',r⟩:=fget g hx;rw[ha] at ha';cases ha';exact r⟩
    have Tj:(S.take t++S.drop (t+1)).length=(fs.take t++fs.drop (t+1)).length:=by rw[Yi,Yi,Yx,Yx,Y7,Y7,RH]
    have Qk:∀a∈S.take t++S.drop (t+1),a∈S:=λa ha=>(List.mem_append.mp ha).elim List.mem_of_mem_take List.mem_of_mem_drop
    have nD:H D=q?:=(g4.trans KZ).free hD;refine gF (xs:=fs.take t++fs.drop (t+1)) (λi ys H2=>aG H9 H2/\Cf H2 (Off H D) ys i λi=>eN (((S.take t++S.drop (t+1)).map λa=>Z4 (λx y=>(x-a.getD k 0*y) % (p:Int)) a (s0.map λx=>((b:Int)*x) % (p:Int))).getD i [])) ⟨aA hD _,.nil⟩ (λi ys H2 _ h=>aN.of (h.1 _ _ x9.2)) ?_ ?_
    ·rintro i m' x ys H2 hm' hi hx hy hlen ⟨g2,cy⟩
     obtain⟨a,ha,ra⟩:=YS i x hx;have ma:=Qk a (Yt ha);refine⟨_,rfl,_,rfl,_,rfl,_,rfl,p,W+R.length,k,x,r6,a,_,rfl,hp,ra H2 (KZ.trans g2),(Ti.same g2).any,hS a ma,wl,by omega,by omega,λr H3 g3 rr=>?_⟩
     refine CW.emit hm' hi (by rw[<- Tj,Yi,Yx,Y7,C?];omega) (g3 _ _ hy) hlen ⟨aG.aZ (g2.trans g3) hD _,?_⟩
     refine(Cf.push (cy.same g3) ?_).upd
     have e:((S.take t++S.drop (t+1)).map λa=>Z4 (λx y=>(x-a.getD k 0*y) % (p:Int)) a (s0.map λx=>((b:Int)*x) % (p:Int))).getD i []=Z4 (λx y=>(x-a.getD k 0*y) % (p:Int)) a (s0.map λx=>((b:Int)*x) % (p:Int)):=by rw[Yb,Ye,ha];rfl
     rw[e];refine rr.imp λc o h kk=>⟨h,((g4.trans KZ).trans g2).free kk,λz=>?_⟩
     rw[z] at kk;rw[show H2 D=q? from kk] at hy
     cases hy
    ·rintro ys H2 hy ⟨g2,cy⟩
     show iO 4 (V.ref D) _ _ _
     have gA:=(g4.trans KZ).trans g2;refine⟨gA,D,(S.take t++S.drop (t+1)).map (λa=>Z4 (λx y=>(x-a.getD k 0*y) % (p:Int)) a (s0.map λx=>((b:Int)*x) % (p:Int))),_,_,_,rfl,?_,?_,?_,?_,?_⟩
     ·rw[sr,Ya,Ya,Tj]
      refine(Cf.congr (cy.imp λc o h kk=>⟨h,kk.1⟩) λi hi=>?_).rep hy nD
      rw[Yb,Yb,Ye (f:=eN)];cases hz:((S.take t++S.drop (t+1)).map λa=>Z4 (λx y=>(x-a.getD k 0*y) % (p:Int)) a (s0.map λx=>((b:Int)*x) % (p:Int)))[i]? with
      | none=>exact Jd (List.getElem?_eq_none_iff.mp hz) (by rw[Ya,Tj];omega)
      | some z=>rfl
     ·rw[Ya,Yi,Yx,Y7];omega
     ·intro l' hl'
      obtain⟨a,ha,rfl⟩:=List.mem_map.mp hl';exact(hS a (Qk a ha)).without hp wl
     ·refine uS.step (t:=t) (k:=k) (s0:=zr hp s0) (r:=zr hp (s0.map λx=>((b:Int)*x) % (p:Int))) (b:=nt (ground p hp).α b) (by rw[Ye,ht];rfl) (λj=>zA hp (hS s0 Qj) j) (by rw[Ya,Ya,Ya,Yi,Yx,Y7];omega) λi s' hi=>?_
      rw[Ye,Ye,uL ht'] at hi;cases hz:S[if i<t then i else i+1]? with
      | none=>rw[hz] at hi;cases hi
      | some a=>
       rw[hz] at hi;cases hi;have wa:=hS a (Yt hz);exact⟨zr hp a,by rw[Ye,hz];rfl,λj=>pH hp wa wl (wa.get k).1 j⟩
     ·have b0:=hS s0 Qj
      refine kS.step (r:=zr hp (s0.map λx=>((b:Int)*x) % (p:Int))) (s0:=zr hp s0) (b:=nt (ground p hp).α b) (List.mem_map.mpr ⟨s0,Qj,rfl⟩) (λj=>zA hp b0 j) ?_ ?_ ?_
      ·rw[zA hp b0]
       show nt (ground p hp).α b*nt (ground p hp).α (s0.getD k 0).toNat=1
       rw[<- r_,<- B6 (ground p hp).ch];show nt (ground p hp).α (b*(s0.getD k 0).toNat % p)=1
       rw[hb];exact vJ
      ·intro z hz
       obtain⟨a,ha,rfl⟩:=List.mem_map.mp hz;obtain⟨i,hi,rfl⟩:=Z6 ha;by_cases c:i=t
       ·left
        subst c;rw[Yc hi] at ht;cases ht;rfl
       ·right
        refine List.mem_map.mpr ⟨_,List.mem_map.mpr ⟨S[i],?_,rfl⟩,?_⟩
        ·refine List.mem_iff_getElem?.mpr ⟨if i<t then i else i-1,?_⟩
         rw[uL ht'];by_cases c2:i<t
         ·rw[W7 c2,W7 c2];exact Yc hi
         ·rw[W6 c2,W6 (by omega),show i-1+1=i by omega];exact Yc hi
        ·funext j
         exact pH hp (hS _ (Yy hi)) wl ((hS _ (Yy hi)).get k).1 j
      ·intro z hz
       obtain⟨y,hy',rfl⟩:=List.mem_map.mp hz;obtain⟨a,ha,rfl⟩:=List.mem_map.mp hy';refine⟨zr hp a,List.mem_map.mpr ⟨a,Qk a ha,rfl⟩,?_⟩
       funext j
       exact pH hp (hS a (Qk a ha)) wl ((hS a (Qk a ha)).get k).1 j
   ·refine⟨_,rfl,rfl,_,rfl,om rfl ?_⟩
    exact⟨g4.trans g5,lf,S,_,_,_,rfl,VC.same g5,lS,hS,uS,kS.skip λr hr=>by
     obtain⟨a,ha,rfl⟩:=List.mem_map.mp hr;show nt (ground p hp).α (a.getD k 0).toNat=0
     rw[h0 a ha];rfl⟩
  ·rintro σ H4 ⟨g4,lf,S,o1,o2,o3,rfl,rf,lS,hS,uS,kS⟩
   exact key (lf,o1,o2,o3) _ ⟨g4,S,rf,lS,hS,uS,kS⟩
 rintro⟨lf,o1,o2,o3⟩ H4 ⟨g4,S,rf,lS,hS,uS,kS⟩
 rw[sr] at rf;obtain⟨Tg,fs,Th,Ow,YQ,CF⟩:=id rf.cf;obtain rfl:lf=Tg:=V.ref.inj Th
 have RH:fs.length=S.length:=by rw[CF.len,Ya]
 refine⟨_,rfl,lf,rfl,⟨_,aN.of Ow⟩,λD hD=>?_⟩
 have nD:H D=q?:=g4.free hD;refine gF (xs:=fs) (λi ys H2=>aG H4 H2/\Cf H2 (Off H D) ys i λi=>eN ((S.getD i []).drop W)) ⟨aA hD _,.nil⟩ (λi ys H2 _ h=>aN.of (h.1 _ _ Ow)) ?_ ?_
 ·rintro i m' x ys H2 hm' hi hx hy hlen ⟨g2,cy⟩
  obtain⟨hi',rx⟩:=CF.get hx;rw[Ya] at hi';rw[Yb,Ye,Yc hi'] at rx;have rx:Rep H4 (dY H) x (eN S[i]):=rx;obtain⟨la,rfl,hla,_⟩:=ints_rep (rx.same g2);have wa:=hS _ (Yy hi');refine⟨_,rfl,_,rfl,_,rfl,la,_,rfl,aN.of hla,λl5 n5=>?_⟩
  rw[yd _ W (by rw[Ya,wa.1];omega)]
  generalize hX:upd H2 l5 _=H5;have x5:=b9 n5 hX;clear hX;have LY:=g2.trans x5.1;refine CW.emit hm' hi (by rw[RH,C?];omega) (x5.1 _ _ hy) hlen ⟨aG.aZ LY hD _,?_⟩
  refine(Cf.push (cy.same x5.1) ?_).upd
  have e:S.getD i []=S[i]:=by rw[Yb,Yc hi'];rfl
  rw[e];refine qY (by rw[List.map_drop];exact x5.2) ⟨(g4.trans g2).free n5,λz=>?_⟩
  rw[z,hy] at n5;cases n5
 ·rintro ys H2 hy ⟨g2,cy⟩
  refine q S _ H2 (g4.trans g2) hS lS (λl hl=>?_) kS ?_
  ·obtain⟨ι,h1,h2⟩:=uS
   obtain⟨t,ht,rfl⟩:=Z6 hl;have e:=h2 t t (zr hp S[t]) (by rw[Ye,Yc ht];rfl) (by rw[Ya];exact ht)
   refine⟨ι t,h1 t (by rw[Ya];exact ht),λz=>?_⟩
   rw[W7 rfl] at e;unfold zr at e;rw[z] at e;exact(ground p hp).fld.1 e.symm
  rw[sr,Ya,<- RH];refine(Cf.congr (cy.imp λc o h kk=>⟨h,kk.1⟩) λi hi=>?_).rep hy nD
  rw[Yb,Yb,Ye,Yc (by omega)]
  rfl
end
def zC:Sp:=λvs H Q _=>∃(n k:Nat) (x:Int),vs=[.int (n:Int),.int (k:Int),.int x]/\n<=1000/\∀r H',aG H H'->Rep H' (dY H) r (rE n λj=>if j=k then x else 0)->Q r H'
section
theorem A3 (B:iI mg)(F:Src K mg "unit_row" kY zm):b_ P w K mg base 1 "unit_row" zm zC:=by
 refine F.ok AV (λvs H Q E h=>?_) (λf cdv A outer s H vs Q E hr h=>?_)
 ·obtain⟨n,k,x,rfl,_⟩:=h;rfl
 obtain⟨n,k,x,rfl,hn,q⟩:=h;refine⟨_,ay (aK (bM (aF (N:=["at","place","number"]) (sl:=[q?,j? 1,j? 2]) (ao kY) zm rfl rfl (by decide +kernel)) rfl (bL rfl B.range (af (pv 0) ai)) (λ_ _ _ _ _=>(aC (i:=0) (Yk_ ["at","place","number"]) rfl (z? rfl))) (λ_ _ _ _ _=>aP) (λ_ _ _ _ _=>(uP (aR gy (pv 0) (pv 1) (aY _)) (pv 2) ak)))),?_⟩
 refine⟨_,rfl,_,rfl,by omega,by omega,λD hD=>?_⟩
 rw[Yj];refine B8 (λj=>.num (if j=k then x else 0)) hD hn (λi H2 Q2 hi g2 q2=>?_) λH2 g2 rr=>q _ H2 g2 rr
 walk_at "rd"
 refine fu (λc=>?_) (λc=>?_)
 ·have e:i=k:=by have:=V.int.inj (W9 c);omega
  rw[W7 e] at q2;exact⟨_,rfl,q2 _ H2 (aG.refl _) (.num _)⟩
 ·have e:i≠k:=λz=>c (W8 (by rw[z,Z8]))
  rw[W6 e] at q2;exact q2 _ H2 (aG.refl _) (.num _)
structure Eu (k m a b f g A C:Int):Prop where
 pos:0<a
 nn:0<=b
 le:b<=m
 A0:0<=A
 C0:0<=C
 sg:(f=A/\g=-C)\/(f=-A/\g=C)
 sum:a*C+b*A=m
 cf:∃t,f*k=a+m*t
 cg:∃t,g*k=b+m*t
 bz:∃x y:Int,x*a+y*b=1
theorem Eu.bnd {k m a b f g A C:Int}(h:Eu k m a b f g A C):g.natAbs<=m.natAbs:=by
 have h1:C<=a*C:=by
  have:=Int.mul_le_mul_of_nonneg_right (show 1<=a by have:=h.pos;omega) h.C0
  omega
 have h2:=Wx h.nn h.A0;have h3:=h.sum;have h4:=h.C0;rcases h.sg with ⟨_,e⟩|⟨_,e⟩ <;> omega
theorem Eu.step {k m a b f g A C q:Int}(h:Eu k m a b f g A C)(hb:0<b)(hq:q=a / b):Eu k m b (a-q*b) g (f-q*g) C (A+q*C)/\a-q*b<b:=by
 have e1:a-q*b=a % b:=by rw[hq,Int.emod_def,Z1]
 have h1:=Zg a (show b≠0 by omega)
 have h2:=Zc a hb;have q0:0<=q:=by rw[hq];exact Int.ediv_nonneg (by have:=h.pos;omega) (by omega)
 have le:=h.le;obtain⟨t,ht⟩:=h.cf;obtain⟨t',ht'⟩:=h.cg;obtain⟨x,y,hxy⟩:=h.bz;refine⟨⟨hb,by omega,by omega,h.C0,by have:=Wx q0 h.C0;have:=h.A0;omega,?_,?_,⟨t',ht'⟩,⟨t-q*t',?_⟩,⟨x*q+y,x,?_⟩⟩,by omega⟩
 ·rcases h.sg with ⟨e,e'⟩|⟨e,e'⟩
  ·exact .inr ⟨e',by rw[e,e'];grind⟩
  ·exact .inl ⟨e',by rw[e,e'];grind⟩
 ·have:=h.sum;grind
 ·grind
 ·grind
def Ir:Sp:=λvs H Q _=>∃k m:Int,vs=[.int k,.int m]/\0<k/\2<=m/\Bd 8000 k/\Bd 8000 m/\(∃x y:Int,x*k+y*m=1)/\∀b t:Int,0<=b->b<m->b*k=1+m*t->∀H',aG H H'->Q (.int b) H'
theorem CA (F:Src K mg "back_by" sC ["k","power"]):b_ P w K mg base 1 "back_by" ["k","power"] Ir:=by
 refine F.ok fV (λvs H Q E h=>?_) (λf cdv A outer s H vs Q E hr h=>?_)
 ·obtain⟨k,m,rfl,_⟩:=h;rfl
 obtain⟨k,m,rfl,hk,hm,bk,bm,hb,q⟩:=h;refine⟨_,ah (uQ (i:=2) (j:=3) rfl fV.nd rfl rfl (by decide) rfl rfl (af (pv 0) (af (pv 1) ai)) rfl)
  (ah (rL (i8 (af ak (af ak ai))) (cZ (n:=2) (K:=K) rfl rfl (aS (aC (i:=4) fV.nd rfl (z? rfl)) (aS (aC (i:=5) fV.nd rfl (z? rfl)) cY))))
  (ah (ee D? (aR tN (pv 3) ak (aY _))
   (ah (aB (i:=6) fV.nd rfl (z? rfl) (au bE (pv 2) (pv 3)))
   (ah (uQ (i:=2) (j:=3) rfl fV.nd rfl rfl (by decide) rfl rfl (af (pv 3) (af (au bW (pv 2) (au aT (pv 6) (pv 3))) ai)) rfl)
   (ay (uQ (i:=4) (j:=5) rfl fV.nd rfl rfl (by decide) rfl rfl (af (pv 5) (af (au bW (pv 4) (au aT (pv 6) (pv 5))) ai)) rfl)))))
  (ay (aK (au bw (pv 4) (pv 1)))))),?_⟩
 walk_at "rd"
 refine⟨_,_,rfl,aV rfl,λp hp=>⟨p,_,rfl,kG.of av,rfl,_,_,rfl,_,_,rfl,rfl,?_⟩⟩
 have g0:=aA hp (.tup [.int 1,.int 0]);generalize L2.upd H p (.tup [.int 1,.int 0])=H1 at g0 ⊢;refine i_ (λσ H2=>H2=H1/\∃(a b f g:Int) (o:Option V) (A C:Int),σ=[j? (.int k),j? (.int m),j? (.int a),j? (.int b),j? (.int f),j? (.int g),o]/\Eu k m a b f g A C/\Bd 8000 a) (λσ _=>match σ with | [_,_,_,j? (.int b),_,_,_]=>b.toNat|_=>0)
  ⟨rfl,k,m,1,0,_,1,0,rfl,⟨hk,by omega,by omega,by decide,by decide,.inl ⟨rfl,rfl⟩,by omega,⟨0,by omega⟩,⟨-1,by omega⟩,hb⟩,bk⟩ ?_
 rintro σ H2 ⟨rfl,a,b,f,g,o,A,C,rfl,e,ba⟩;refine⟨_,rfl,rfl,_,rfl,?_⟩
 have le:=e.le;have nn:=e.nn;by_cases z:b=0
 ·refine om (by rw[z]) ?_
  refine⟨_,rfl,_,rfl,_,_,rfl,rfl,(show m≠0 by omega),?_⟩
  obtain⟨x,y,hxy⟩:=e.bz;have a1:a=1:=by
   have:a ∣ 1:=⟨x,by rw[<- hxy,z];grind⟩
   have:=Int.le_of_dvd (by decide) this
   have:=e.pos;omega
  obtain⟨t,ht⟩:=e.cf;show Q (V.int (f.fmod m)) H2
  rw[Y5 _ (show 0<=m by omega)]
  exact q _ (t-f / m*k) (Zg _ (by omega)) (Zc _ (by omega)) (by rw[Int.emod_def,a1] at *;grind) H2 g0
 ·refine Ae (λy=>z (V.int.inj y)) (win ?_)
  have b0:0<b:=by omega
  have bb:Bd 8000 b:=Bd.le (y:=m) (by omega) bm
  have bg:Bd 8000 g:=Bd.le e.bnd bm;have eq:a.fdiv b=a / b:=Zj _ (by omega)
  obtain⟨e',hlt⟩:=e.step b0 eq;have bq:Bd 8000 (a.fdiv b):=ba.fdiv;refine⟨_,rfl,_,rfl,_,_,rfl,rfl,bb.dv (by omega),?_⟩
  refine⟨_,rfl,_,rfl,_,rfl,_,rfl,_,_,rfl,rfl,bq.ok bb,_,_,rfl,rfl,_,_,rfl,?_⟩
  refine⟨_,rfl,_,rfl,_,rfl,_,rfl,_,_,rfl,rfl,bq.ok bg,_,_,rfl,rfl,_,_,rfl,?_⟩
  refine⟨⟨rfl,b,_,g,_,_,C,_,rfl,e',bb⟩,?_⟩
  show(a-a.fdiv b*b).toNat<b.toNat
  omega
def wg (K:bG):Sp:=λvs H Q _=>∃(n:Nat) (u v:V) (T:Nat->Vc) (x c:Vc),vs=[u,v]/\Rep H Any u (mE n n T)/\Rep H Any v (rE n x)/\n<=100/\cU n T/\(∀j,j<n->x j=sm n c T j)/\(∀i,i<n->Bd 100000 (c i))/\(∀i j,i<n->j<n->Bd 8000 (T i j))/\
 ∀r H',aG H H'->Rep H' (dY H) r (rE n c)->Q r H'
theorem NK {n:Nat}{c:Vc}{i:Nat}(hi:i<=n):(lv i λj=>c (n-1-j)).reverse=(lv n c).drop (n-i):=by
 refine Zv λk=>?_
 unfold lv;by_cases hk:k<i
 ·rw[List.getElem?_reverse (by rw[Ya,Yf];exact hk),Ya,Yf,Ye,Y0 (by omega),List.getElem?_drop,Ye,Y0 (by omega)]
  show j? (c (n-1-(i-1-k)))=j? (c (n-i+k))
  congr 2;omega
 ·rw[List.getElem?_eq_none_iff.mpr (by rw[Zw,Ya,Yf];omega),List.getElem?_eq_none_iff.mpr (by rw[Y7,Ya,Yf];omega)]
theorem D8 (n:Nat)(v:Vc):lv (n+1) v=lv n v++[v n]:=by unfold lv;rw[Wu,Yz];rfl
theorem wj (B:iI mg)(F:Src K mg "coordinates" h_ Fe):b_ P w K mg base 1 "coordinates" Fe (wg K):=by
 refine F.ok dZ (λvs H Q E h=>?_) (λf cdv A outer s H vs Q E hr h=>?_)
 ·obtain⟨n,u,v,T,x,c,rfl,_⟩:=h;rfl
 obtain⟨n,u,v,T,x,c,rfl,ru,rv,hn,hT,hx,bc,bT,q⟩:=h;obtain⟨lu,us,rfl,VD,_,Cu⟩:=ru.cf;obtain⟨lx,rfl,hlx,_⟩:=dQ rv;refine⟨_,ah (aB (i:=2) dZ.nd rfl (z? rfl) (pv 1))
  (ah (aB (i:=3) dZ.nd rfl (z? rfl) (bD ai))
  (ah (cK D? rfl (yK rfl B.reversed (af (u9 rfl B.range (af (aM (aQ (K:=K) rfl) rfl B.len b8 (af (pv 1) ai)) ai)) ai)) (aC (i:=4) dZ.nd rfl (z? rfl))
   (ah (aB (i:=5) dZ.nd rfl (Or.inr rfl) (au bE (bI (aJ (K:=K) rfl) (pv 2) (pv 4) (λ_ _=>rfl)) (bI (aJ (K:=K) rfl) (bI (aJ (K:=K) rfl) (pv 0) (pv 4) (λ_ _=>rfl)) (pv 4) (λ_ _=>rfl))))
   (ah (jC (i:=2) dZ.nd rfl (z? rfl) (aF (N:=["number","more","often"]) (sl:=[q?,q?,j? 5]) (ao h_) ["lattice","row","left","told","place","often"] rfl rfl (by decide +kernel)) rfl (uG (K:=K) rfl rfl B.zip (af (pv 2) (af (bI (aJ (K:=K) rfl) (pv 0) (pv 4) (λ_ _=>rfl)) ai))) (λ_ _ _ _ _=>(cZ (n:=2) (K:=K) rfl rfl (aS (aC (i:=0) (Yk_ ["number","more","often"]) rfl (z? rfl)) (aS (aC (i:=1) (Yk_ ["number","more","often"]) rfl (z? rfl)) cY)))) (λ_ _ _ _ _=>aP) (λ_ _ _ _ _=>(au bW (pv 0) (au aT (pv 2) (pv 1)))))
   (ay (fh (qu R? F! G! dU (pv 3) (af (pv 5) ai)))))))
  (ah (fh (BD R? PySem.F.slot_list_reverse PySem.F.type_list_reverse oM (pv 3) ))
  (ay (aK (pv 3)))))),?_⟩
 walk_at "rd"
 intro p hp;have g0:=aA hp (.lst []);refine⟨_,rfl,lx,_,rfl,.inl (aN.of (g0 _ _ hlx)),?_⟩
 rw[Ya,bK];refine⟨_,rfl,λp3 n3=>?_⟩
 have k3:=aA n3 (.rC 0 (n:Int));refine⟨p3,_,rfl,av,by omega,by omega,?_⟩
 rw[Yj];have g3:=g0.trans k3;have YT:lx≠p:=bh hlx hp;refine u_ (λi σ H2=>aG H H2/\∃(ra:o?) (o1 o2:Option V),σ=[Rq lu,Rq lx,Rq ra,Rq p,o1,o2]/\H2 p=j? (.lst ((lv i λj=>c (n-1-j)).map V.int))/\H2 ra=j? (.lst ((lv n λj=>sm (n-i) c T j).map V.int))/\ra≠p)
  ⟨g3,lx,_,_,rfl,k3 _ _ av,?_,YT⟩ ?_ ?_
 ·rw[g3 _ _ hlx]
  congr 3
  unfold lv;exact Wq λj hj=>hx j (List.mem_range.mp hj)
 ·rintro i σ H2 hi ⟨g2,ra,o1,o2,rfl,ep,era,hne⟩
  obtain⟨d,hd⟩:∃d,d+1+i=n:=⟨n-1-i,by omega⟩
  have ed:((n:Int)-1-(i:Int))=((d:Nat):Int):=by omega
  rw[show n-i=d+1 by omega] at era
  obtain⟨vd,YU,rd⟩:=Cu.at_ d (by omega)
  obtain⟨ld,rfl,Tn,_⟩:=dQ rd;have hat:rF us ((d:Nat):Int)=j? (.ref ld):=fH YU;have T0:=hT.nz d (by omega)
  rw[ed];refine⟨_,rfl,_,rfl,ra,_,_,_,rfl,rfl,aN.of era,ou (by omega),_,rfl,_,rfl,lu,_,_,_,rfl,rfl,aN.of (g2 _ _ VD),hat,_,rfl,ld,_,_,_,rfl,rfl,aN.of (g2 _ _ Tn),ou (by omega),_,_,rfl,rfl,(bT d d (by omega) (by omega)).dv T0,?_⟩
  show iO 5 (V.int ((sm (d+1) c T d).fdiv (T d d))) _ _ _
  rw[hT.at_ c (by omega),Int.mul_fdiv_cancel _ T0]
  refine⟨_,rfl,_,rfl,_,rfl,lu,_,_,_,rfl,rfl,aN.of (g2 _ _ VD),hat,ra,ld,rfl,⟨_,aN.of era⟩,⟨_,aN.of (g2 _ _ Tn)⟩,λD hD=>?_⟩
  refine Nq (λj=>.num (sm d c T j)) (n:=n) (by rw[Ya,bK]) (by rw[Ya,bK]) era (g2 _ _ Tn) hD (by omega) (λj vx vy t H3 Q2 hj g3 jT Im ht q2=>?_) λH3 g3 rr=>?_
  ·obtain⟨y1,hy1,rfl⟩:=aU jT
   obtain⟨y2,KS,rfl⟩:=aU Im;rw[dM hj] at hy1 KS;cases hy1;cases KS;refine⟨t,_,rfl,kG.of ht,rfl,_,_,rfl,_,_,rfl,rfl,?_⟩
   refine⟨_,rfl,_,rfl,_,rfl,_,_,rfl,rfl,(bc d (by omega)).ok (bT d j (by omega) hj),_,_,rfl,rfl,?_⟩
   have e:sm (d+1) c T j-c d*T d j=sm d c T j:=by show sm d c T j+c d*T d j-c d*T d j=_;omega
   show Q2 (V.int (sm (d+1) c T j-c d*T d j)) H3
   rw[e];exact q2 _ H3 (aG.refl _) (.num _)
  ·have fD:H D=q?:=g2.free hD
   obtain⟨l2,e2,To,_⟩:=dQ rr;cases e2;have VE:=g3 _ _ ep;have Qg:D≠p:=λz=>by rw[z,ep] at hD;cases hD
   refine⟨_,rfl,.inl ⟨rfl,_,aN.of VE⟩,_,rfl,p,_,_,rfl,rfl,VE,by rw[Ya,bK,C?];omega,?_⟩
   refine⟨(g2.trans g3).aZ hp _,D,_,_,rfl,?_,?_,Qg⟩
   ·rw[av,D8,Yz,show n-1-i=d by omega];rfl
   ·rw[aL Qg,show n-(i+1)=d by omega];exact To
 ·rintro σ H2 ⟨g2,ra,o1,o2,rfl,ep,era,hne⟩
  refine⟨_,rfl,.inl ⟨rfl,_,aN.of ep⟩,p,_,rfl,rfl,ep,?_⟩
  rw[<- List.map_reverse,NK (Yd n),Nat.sub_self,List.drop_zero];exact⟨_,rfl,q _ _ (g2.aZ hp _) (Hl av hp)⟩
theorem Iu {x:Vc}{A:Nat->Vc}{i:Nat}:∀k,(lv k λm=>x m*A m i).sum=sm k x A i
 | 0=>rfl
 | k+1=>by rw[D8,List.sum_append,Iu k];show sm k x A i+(x k*A k i+0)=sm k x A i+x k*A k i;omega
def qZ (K:bG):Sp:=λvs H Q _=>∃(k n:Nat) (u v:V) (x:Vc) (A:Nat->Vc),vs=[u,v]/\Rep H Any u (rE k x)/\Rep H Any v (mE k n A)/\1<=k/\k<=1000/\n<=1000/\(∀i,i<k->Bd 100000 (x i))/\(∀i j,i<k->j<n->Bd 100000 (A i j))/\
 ∀r H',aG H H'->Rep H' (dY H) r (rE n λj=>sm k x A j)->Q r H'
theorem Fp (B:iI mg)(F:Src K mg "summed" kq zo):b_ P w K mg base 1 "summed" zo (qZ K):=by
 refine F.ok Fg (λvs H Q E h=>?_) (λf cdv A outer s H vs Q E hr h=>?_)
 ·obtain⟨k,n,u,v,x,A,rfl,_⟩:=h;rfl
 obtain⟨k,n,u,v,x,A,rfl,ru,rv,hk1,hk,hn,bx,bA,q⟩:=h;obtain⟨lx,rfl,hlx,_⟩:=dQ ru;obtain⟨lA,us,rfl,JC,_,C⟩:=rv.cf;refine⟨_,ay (aK (vE (gW (N:=["place","numbers","rows"]) (sl:=[q?,j? 0,j? 1]) "place" (ao kq) zo rfl rfl (by decide +kernel)) rfl (bL rfl B.range (af (aM (aQ (K:=K) rfl) rfl B.len b8 (af (bI (aJ (K:=K) rfl) (pv 1) ak (λ_ _=>rfl)) ai)) ai)) (λ_ _ _ _ _=>(aC (i:=0) (Yk_ ["place","numbers","rows"]) rfl (Or.inr rfl))) (λ_ _ _ _ _=>aP) (λ_ _ _ _ _=>(aM (yf (K:=K) rfl rfl) rfl B.sum Gr (af (bM (aF (N:=["many","row","place"]) (sl:=[q?,q?,j? 0]) (qL (yT ((b7 kq).getD 0 (.Pass ⟨0,0,0,0⟩))) (ao kq)) ["place","numbers","rows"] rfl rfl (by decide +kernel)) rfl (uG (K:=K) rfl rfl B.zip (af (pv 1) (af (pv 2) ai))) (λ_ _ _ _ _=>(cZ (n:=2) (K:=K) rfl rfl (aS (aC (i:=0) (Yk_ ["many","row","place"]) rfl (z? rfl)) (aS (aC (i:=1) (Yk_ ["many","row","place"]) rfl (z? rfl)) cY)))) (λ_ _ _ _ _=>aP) (λ_ _ _ _ _=>(au aT (pv 0) (bI (aJ (K:=K) rfl) (pv 1) (pv 2) (λ_ _=>rfl))))) ai))))),?_⟩
 walk_at "rd"
 obtain⟨v0,hv0,r0⟩:=C.at_ 0 (by omega)
 obtain⟨l0,rfl,Gj,_⟩:=dQ r0;have Iv:rF us 0=j? (.ref l0):=fH (j:=0) hv0;refine⟨lA,_,_,_,rfl,rfl,aN.of JC,Iv,l0,_,rfl,.inl (aN.of Gj),?_⟩
 rw[Ya,bK];refine⟨_,rfl,by omega,by omega,λD hD=>?_⟩
 rw[Yj];refine B8 (λj=>.num (sm k x A j)) hD hn (λi H2 Q2 hi g2 q2=>?_) λH2 g2 rr=>q _ H2 g2 rr
 rw[Z8];refine⟨_,rfl,_,rfl,lx,lA,rfl,⟨_,aN.of (g2 _ _ hlx)⟩,⟨_,aN.of (g2 _ _ JC)⟩,λD2 w_=>?_⟩
 refine Nq (λm=>.num (x m*A m i)) (n:=k) (by rw[Ya,bK]) C.len (g2 _ _ hlx) (g2 _ _ JC) w_ (by omega) (λm vx vy t H3 Q3 hm g3 jT Im ht q3=>?_) λH3 g3 rr=>?_
 ·obtain⟨y1,hy1,rfl⟩:=aU jT
  rw[dM hm] at hy1;cases hy1;obtain⟨_,ry⟩:=C.get Im;obtain⟨lm,rfl,YV,_⟩:=dQ ry;refine⟨t,_,rfl,kG.of ht,rfl,_,_,rfl,_,_,rfl,rfl,?_⟩
  refine⟨_,rfl,_,rfl,_,rfl,lm,_,_,_,rfl,rfl,aN.of ((g2.trans g3) _ _ YV),ou hi,_,_,rfl,rfl,(bx m hm).ok (bA m i hm hi),?_⟩
  exact q3 _ H3 (aG.refl _) (.num _)
 ·obtain⟨l2,e2,To,_⟩:=dQ rr
  cases e2;refine⟨D2,_,rfl,aN.of To,?_⟩
  rw[Iu];exact q2 _ H3 g3 (.num _)
end
def D9 (f:Fn)(n:Nat)(u v:Vc):Vc:=λk=>sm n u (λa k=>sm n v (λb=>tk f n (a+b)) k) k
theorem K0 {f:Fn}{n:Nat}(hf:Top f n)(hn:1<=n)(u v:Vc):kQ f n (cv (aq (lv n u)) (aq (lv n v))) (D9 f n u v):=by
 have hz:∀w:Vc,∀m,n<=m->aq (lv n w) m=0:=λw m hm=>by rw[nI,W6 (by omega)]
 have h:=(uK hf hn (g:=aq (lv n v)) (L:=n) (hz v)).comb (p:=aq (lv n u)) (P:=n) (hz u);have e:(λc=>bC n λk=>aq (lv n u) k*rr f n (aq (lv n v)) n k c)=D9 f n u v:=by
  funext c
  unfold D9 rr;rw[gm];refine aH λa ha=>?_
  rw[gm,nI,W7 ha];congr 1
  exact aH λb hb=>by rw[nI,W7 hb,Nat.add_comm]
 rw[e] at h;exact h
def Iw (K:bG):Sp:=λvs H Q _=>∃(a:o?) (fl:List Int) (n:Nat) (x y:V) (u v:Vc) (m:Int),vs=[.ref a,x,y,.int m]/\aN K H a (fl.map V.int)/\fl.length=n+1/\1<=n/\n<=20/\L2.dh fl/\fP 5000 fl/\Rep H Any x (rE n u)/\Rep H Any y (rE n v)/\(∀j,j<n->Bd 2000 (u j))/\(∀j,j<n->Bd 2000 (v j))/\m≠0/\Bd 8000 m/\
 ∀r H',aG H H'->Rep H' (dY H) r (rE n λj=>(D9 (aq fl) n u v j).fdiv m)->Q r H'
section
theorem Iz {n m:Nat}{u:Vc}(h:∀j,j<n->Bd m (u j)):fP m (lv n u):=λx hx=>by
 unfold lv at hx;obtain⟨j,hj,rfl⟩:=List.mem_map.mp hx;exact h j (List.mem_range.mp hj)
theorem xm (B:iI mg)(cI:b_ P w K mg base 1 "without_noughts_behind" ["numbers"] (pF K))(lC:b_ P w K mg base 1 "multiplied" l_ (Ih K))(nR:b_ P w K mg base 2 "divided" l_ (Ii K))(jS:b_ P w K mg base 1 "coefficient" Cn (Cs K))(F:Src K mg "product_by" iV HZ):b_ P w K mg base 3 "product_by" HZ (Iw K):=by
 refine F.ok jR (λvs H Q E h=>?_) (λf cdv A outer s H vs Q E hr h=>?_)
 ·obtain⟨a,fl,n,x,y,u,v,m,rfl,_⟩:=h;rfl
 obtain⟨a,fl,n,x,y,u,v,m,rfl,ha,lf,hn1,hn,mf,bf,rx,ry,bu,bv,m0,bm,q⟩:=h;obtain⟨lx,rfl,hlx,_⟩:=dQ rx;obtain⟨ly,rfl,VF,_⟩:=dQ ry;have hf:=wc lf mf;refine⟨_,ah (aB (i:=4) jR.nd rfl (z? rfl) (aE lC hr (af (aE cI hr (af (pv 1) ai)) (af (aE cI hr (af (pv 2) ai)) ai))))
  (ah (aB (i:=5) jR.nd rfl (Or.inr rfl) (bI (qw (K:=K) rfl) (aE nR hr (af (pv 4) (af (pv 0) ai))) ak (λ_ _=>rfl)))
  (ay (aK (bM (aF (N:=["place","rest","power"]) (sl:=[q?,j? 5,j? 3]) (ao iV) ["f","one","other","power","product","rest"] rfl rfl (by decide +kernel)) rfl (bL rfl B.range (af (aM (aQ (K:=K) rfl) rfl B.len b8 (af (pv 1) ai)) ai)) (λ_ _ _ _ _=>(aC (i:=0) (Yk_ ["place","rest","power"]) rfl (z? rfl))) (λ_ _ _ _ _=>aP) (λ_ _ _ _ _=>(au bE (aE jS hr (af (pv 1) (af (pv 0) ai))) (pv 2))))))),?_⟩
 walk_at "rd"
 refine⟨lx,lv n u,rfl,aN.of hlx,by rw[bK];omega,λp1 H1 g1 n1 e1=>?_⟩
 walk_at "rd"
 refine⟨ly,lv n v,rfl,aN.of (g1 _ _ VF),by rw[bK];omega,λp2 H2 g2 n2 e2=>?_⟩
 have b1:fP 2000 (trim (lv n u)):=(Iz bu).trim;have b2:fP 2000 (trim (lv n v)):=(Iz bv).trim;have l1:(trim (lv n u)).length<=n:=by unfold trim;rw[Yx,bK];omega
 have l2:(trim (lv n v)).length<=n:=by unfold trim;rw[Yx,bK];omega
 refine⟨p1,p2,_,_,rfl,aN.of (g2 _ _ e1),aN.of e2,by omega,by omega,b1.mono (by decide),b2.mono (by decide),λp3 H3 g3 n3 e3=>?_⟩
 walk_at "rd"
 have LZ:=(g1.trans g2).trans g3;have lp:(d9 (trim (lv n u)) (trim (lv n v))).length<=40:=by
  unfold d9;split
  ·simp
  ·rw[Ya,Yf];omega
 refine⟨p3,a,_,fl,4100,5000,rfl,aN.of e3,LZ.seq ha,by omega,by omega,mf,((b1.d9 b2).mono (by omega)),bf,by omega,λq0 r0 hd0 _ _ t0 qa ra H4 g4 n4 n5 hne et eq er=>?_⟩
 refine⟨t0,_,_,_,rfl,rfl,kG.of et,rfl,?_⟩
 have Tp:=LZ.trans g4;have e0:aq r0=D9 (aq fl) n u v:=by
  have h1:=vo.Tc lf hd0;rw[MY,show aq (trim (lv n u))=aq (lv n u) from funext λi=>dX _ i,show aq (trim (lv n v))=aq (lv n v) from funext λi=>dX _ i] at h1
  exact kQ.uniq hf h1 (K0 hf hn1 u v)
 walk_at "rd"
 refine⟨lx,_,rfl,.inl (aN.of (Tp _ _ hlx)),?_⟩
 rw[Ya,bK];refine⟨_,rfl,by omega,by omega,λD hD=>?_⟩
 rw[Yj];refine B8 (λj=>.num ((D9 (aq fl) n u v j).fdiv m)) hD (by omega) (λi H5 Q2 hi g5 q2=>?_) λH5 g5 rr=>q _ H5 (Tp.trans g5) (rr.older Tp)
 rw[Z8];refine⟨_,rfl,_,rfl,ra,r0,i,rfl,aN.of (g5 _ _ er),_,rfl,_,_,rfl,rfl,bm.dv m0,?_⟩
 show Q2 (V.int ((aq r0 i).fdiv m)) H5
 rw[e0];exact q2 _ H5 (aG.refl _) (.num _)
def D_ (K:bG):Sp:=λvs H Q _=>∃(a:o?) (fl:List Int) (n:Nat) (x:V) (T:Nat->Vc) (c:Nat->Nat->Vc) (m:Int),vs=[.ref a,x,.int m]/\aN K H a (fl.map V.int)/\fl.length=n+1/\1<=n/\n<=20/\L2.dh fl/\fP 5000 fl/\Rep H Any x (mE n n T)/\cU n T/\(∀i j,i<n->j<n->Bd 2000 (T i j))/\m≠0/\Bd 8000 m/\
 (∀i j,i<n->j<n->∀k,k<n->D9 (aq fl) n (T i) (T j) k=m*sm n (c i j) T k)/\(∀i j k,i<n->j<n->k<n->Bd 100000 (c i j k))/\∀r H',aG H H'->Rep H' (dY H) r (tE n n n c)->Q r H'
theorem A4 (B:iI mg)(zD:b_ P w K mg base 3 "product_by" HZ (Iw K))(jU:b_ P w K mg base 1 "coordinates" Fe (wg K))(F:Src K mg "table_of" gO Ck):b_ P w K mg base 4 "table_of" Ck (D_ K):=by
 refine F.ok AW (λvs H Q E h=>?_) (λf cdv A outer s H vs Q E hr h=>?_)
 ·obtain⟨a,fl,n,x,T,c,m,rfl,_⟩:=h;rfl
 obtain⟨a,fl,n,x,T,c,m,rfl,ha,lf,hn1,hn,mf,bf,rx,hT,bT,m0,bm,hc,bc,q⟩:=h;obtain⟨lT,us,rfl,RI,_,C⟩:=id rx.cf;refine⟨_,ay (aK (vE (gW (N:=NC) (sl:=[q?,j? 1,j? 0,j? 2]) "one" (ao gO) Ck rfl rfl (by decide +kernel)) rfl (bF (K:=K) rfl (pv 1)) (λ_ _ _ _ _=>(aC (i:=0) (Yk_ NC) rfl (Or.inr rfl))) (λ_ _ _ _ _=>aP) (λ_ _ _ _ _=>(bM (aF (N:=["other","lattice","f","one","power"]) (sl:=[q?,j? 1,j? 2,j? 0,j? 3]) (qL (yT ((b7 gO).getD 0 (.Pass ⟨0,0,0,0⟩))) (ao gO)) NC rfl rfl (by decide +kernel)) rfl (bF (K:=K) rfl (pv 1)) (λ_ _ _ _ _=>(aC (i:=0) (Yk_ ["other","lattice","f","one","power"]) rfl (z? rfl))) (λ_ _ _ _ _=>aP) (λ_ _ _ _ _=>(aE jU hr (af (pv 1) (af (aE zD hr (af (pv 2) (af (pv 3) (af (pv 0) (af (pv 4) ai))))) ai)))))))),?_⟩
 walk_at "rd"
 refine⟨⟨_,aN.of RI⟩,λD hD=>?_⟩
 refine lY (λi=>mE n n (c i)) (n:=n) C.len RI hD (by omega) (λi vx H2 Q2 hi g2 jT q2=>?_) λH2 g2 rr=>q _ H2 g2 rr
 obtain⟨_,ri⟩:=C.get jT;refine⟨_,rfl,lT,rfl,⟨_,aN.of (g2 _ _ RI)⟩,λD2 w_=>?_⟩
 refine lY (λj=>rE n (c i j)) (n:=n) C.len (g2 _ _ RI) w_ (by omega) (λj vy H3 Q3 hj g3 Im q3=>?_) λH3 g3 rr=>q2 _ H3 g3 rr
 obtain⟨_,rj⟩:=C.get Im;have RJ:=g2.trans g3;refine⟨_,rfl,_,rfl,_,rfl,_,rfl,_,rfl,a,fl,n,vx,vy,T i,T j,m,rfl,RJ.seq ha,lf,hn1,hn,mf,bf,ri.same RJ,rj.same RJ,λk hk=>bT i k hi hk,λk hk=>bT j k hj hk,m0,bm,λr4 H4 g4 NL=>?_⟩
 refine⟨n,_,_,T,_,c i j,rfl,rx.same (RJ.trans g4),NL.any,by omega,hT,λk hk=>?_,λk hk=>bc i j k hi hj hk,λk l hk hl=>(bT k l hk hl).mono (by decide),λr5 H5 g5 Ql=>q3 _ H5 (g4.trans g5) (Ql.older g4)⟩
 rw[hc i j hi hj k hk,Int.mul_fdiv_cancel_left _ m0]
def JD (n:Nat)(c:Nat->Nat->Vc)(p:Int)(x y:Vc):Vc:=λk=>sm n x (λi k=>sm n y (c i) k) k % p
def K1 (n:Nat)(c:Nat->Nat->Vc)(p:Int)(x:Vc):Nat->Vc
 | 0=>x
 | m+1=>JD n c p (K1 n c p x m) x
def Fq (n:Nat)(c:Nat->Nat->Vc)(p:Nat):Nat->Nat->Vc
 | 0,i=>un i
 | k+1,i=>K1 n c (p:Int) (Fq n c p k i) (p-1)
theorem Ea {n k:Nat}{a b:Nat}{x:Vc}{A:Nat->Vc}{j:Nat}(hn:n<2 ^ k)(hx:∀i,i<n->Bd a (x i))(hA:∀i,i<n->Bd b (A i j)):Bd (a+b+k) (sm n x A j):=by
 have key:∀m,m<=n->(sm m x A j).natAbs<=m*2 ^ (a+b):=by
  intro m;induction m with
  | zero=>intro _;show Zz 0<=_;simp
  | succ m ih=>
   intro hm;have h1:=ih (by omega)
   have h2:Bd (a+b) (x m*A m j):=(hx m (by omega)).mul (hA m (by omega))
   have h3:(sm m x A j+x m*A m j).natAbs<=(sm m x A j).natAbs+(x m*A m j).natAbs:=Int.natAbs_add_le _ _;have h2':(x m*A m j).natAbs<2 ^ (a+b):=h2;show(sm m x A j+x m*A m j).natAbs<=(m+1)*2 ^ (a+b)
   rw[Wa,W5];omega
 have h:=key n (Yd n);refine Z0 h ?_
 rw[Zh 2 (a+b) k,Wn (2 ^ (a+b))];exact Nat.mul_lt_mul_of_pos_right hn (Z5 (by decide))
def A5 (K:bG):Sp:=λvs H Q _=>∃(n p:Nat) (t x y:V) (c:Nat->Nat->Vc) (u v:Vc),vs=[t,x,y,.int (p:Int)]/\Rep H Any t (tE n n n c)/\Rep H Any x (rE n u)/\Rep H Any y (rE n v)/\1<=n/\n<=20/\2<=p/\p<=50/\(∀i j k,i<n->j<n->k<n->Bd 90000 (c i j k))/\(∀i,i<n->Bd 64 (u i))/\(∀i,i<n->Bd 64 (v i))/\
 ∀r H',aG H H'->Rep H' (dY H) r (rE n (JD n c (p:Int) u v))->Q r H'
theorem A6 (B:iI mg)(kB:b_ P w K mg base 1 "summed" zo (qZ K))(F:Src K mg "times_by" jj H_):b_ P w K mg base 2 "times_by" H_ (A5 K):=by
 refine F.ok tX (λvs H Q E h=>?_) (λf cdv A outer s H vs Q E hr h=>?_)
 ·obtain⟨n,p,t,x,y,c,u,v,rfl,_⟩:=h;rfl
 obtain⟨n,p,t,x,y,c,u,v,rfl,rt,rx,ry,hn1,hn,hp,hp2,bc,bu,bv,q⟩:=h;obtain⟨lt,us,rfl,hlt,_,C⟩:=id rt.cf;obtain⟨lx,rfl,hlx,_⟩:=dQ rx;obtain⟨ly,rfl,VF,_⟩:=dQ ry;refine⟨_,ah (aB (i:=4) tX.nd rfl (z? rfl) (aE kB hr (af (pv 1) (af (bM (aF (N:=["line","other"]) (sl:=[q?,j? 2]) (ao jj) NB rfl rfl (by decide +kernel)) rfl (bF (K:=K) rfl (pv 0)) (λ_ _ _ _ _=>(aC (i:=0) (Yk_ ["line","other"]) rfl (z? rfl))) (λ_ _ _ _ _=>aP) (λ_ _ _ _ _=>(aE kB hr (af (pv 1) (af (pv 0) ai))))) ai))))
  (ay (aK (bM (aF (N:=Ff) (sl:=[q?,j? 3]) (ao jj) NB rfl rfl (by decide +kernel)) rfl (bF (K:=K) rfl (pv 4)) (λ_ _ _ _ _=>(aC (i:=0) (Yk_ Ff) rfl (z? rfl))) (λ_ _ _ _ _=>aP) (λ_ _ _ _ _=>(au bw (pv 0) (pv 1)))))),?_⟩
 walk_at "rd"
 refine⟨⟨_,aN.of hlt⟩,λD hD=>?_⟩
 refine lY (λi=>rE n λk=>sm n v (c i) k) (n:=n) C.len hlt hD (by omega) (λi vx H2 Q2 hi g2 jT q2=>?_) λH2 g2 rr=>?_
 ·obtain⟨_,ri⟩:=C.get jT
  exact⟨_,rfl,_,rfl,n,n,_,vx,v,c i,rfl,ry.same g2,ri.same g2,hn1,by omega,by omega,λj hj=>(bv j hj).mono (by decide),λj k hj hk=>(bc i j k hi hj hk).mono (by decide),λr H3 g3 rr=>q2 _ H3 g3 rr⟩
 refine⟨n,n,_,_,u,λi k=>sm n v (c i) k,rfl,rx.same g2,rr.any,hn1,by omega,by omega,λj hj=>(bu j hj).mono (by decide),λi k hi hk=>(Ea (k:=5) (by omega) bv λj hj=>bc i j k hi hj hk).mono (by decide),λr3 H3 g3 Oz=>?_⟩
 obtain⟨l3,rfl,hl3,_⟩:=dQ Oz;refine⟨_,rfl,l3,rfl,⟨_,aN.of hl3⟩,λD4 Tq=>?_⟩
 refine lY (λk=>.num (JD n c (p:Int) u v k)) (n:=n) (by rw[Ya,bK]) hl3 Tq (by omega) (λk vx H5 Q5 hk g5 jT q5=>?_) λH5 g5 Ql=>q _ H5 ((g2.trans g3).trans g5) (Ql.older (g2.trans g3))
 obtain⟨y1,hy1,rfl⟩:=aU jT;rw[dM hk] at hy1;cases hy1;refine⟨_,rfl,_,rfl,_,_,rfl,rfl,(show(p:Int)≠0 by omega),?_⟩
 have e:(sm n u (λi k=>sm n v (c i) k) k).fmod (p:Int)=JD n c (p:Int) u v k:=Y5 _ (by omega)
 show Q5 (V.int ((sm n u (λi k=>sm n v (c i) k) k).fmod (p:Int))) H5
 rw[e];exact q5 _ H5 (aG.refl _) (.num _)
theorem K2 {n p:Nat}(hp:2<=p){c:Nat->Nat->Vc}{x y:Vc}(k:Nat):0<=JD n c (p:Int) x y k/\JD n c (p:Int) x y k<(p:Int):=⟨Zg _ (by omega),Zc _ (by omega)⟩
theorem Eb {n p:Nat}(hp:2<=p){c:Nat->Nat->Vc}{x:Vc}{k:Nat}(hx:0<=x k/\x k<(p:Int)):∀m,0<=K1 n c (p:Int) x m k/\K1 n c (p:Int) x m k<(p:Int)
 | 0=>hx
 | m+1=>K2 hp k
theorem uM {n p:Nat}(hp:2<=p){c:Nat->Nat->Vc}{i j:Nat}:∀k,0<=Fq n c p k i j/\Fq n c p k i j<(p:Int)
 | 0=>by
  show 0<=(if j=i then (1:Int) else 0)/\(if j=i then (1:Int) else 0)<_
  by_cases e:j=i
  ·rw[W7 e];omega
  ·rw[W6 e];omega
 | k+1=>Eb hp (uM hp k) _
def IA (K:bG):Sp:=λvs H Q _=>∃(n p:Nat) (t x:V) (c:Nat->Nat->Vc) (u:Vc),vs=[t,x,.int (p:Int),.int (p:Int)]/\Rep H Any t (tE n n n c)/\Rep H Any x (rE n u)/\1<=n/\n<=20/\2<=p/\p<=50/\(∀i j k,i<n->j<n->k<n->Bd 90000 (c i j k))/\(∀i,i<n->0<=u i/\u i<(p:Int))/\
 ∀r H',aG H H'->Rep H' (dY H) r (rE n (K1 n c (p:Int) u (p-1)))->Q r H'
theorem A7 (B:iI mg)(CB:b_ P w K mg base 2 "times_by" H_ (A5 K))(F:Src K mg "power_by" pA Ib):b_ P w K mg base 3 "power_by" Ib (IA K):=by
 refine F.ok jG (λvs H Q E h=>?_) (λf cdv A outer s H vs Q E hr h=>?_)
 ·obtain⟨n,p,t,x,c,u,rfl,_⟩:=h;rfl
 obtain⟨n,p,t,x,c,u,rfl,rt,rx,hn1,hn,hp,hp2,bc,hu,q⟩:=h;refine⟨_,ah (aB (i:=4) jG.nd rfl (z? rfl) (pv 1))
  (ah (cK D? rfl (bL rfl B.range (af (au bW (pv 2) ak) ai)) (aC (i:=5) jG.nd rfl (z? rfl))
   (ay (aB (i:=4) jG.nd rfl (z? rfl) (aE CB hr (af (pv 0) (af (pv 4) (af (pv 1) (af (pv 3) ai))))))))
  (ay (aK (pv 4)))),?_⟩
 walk_at "rd"
 refine⟨by omega,by omega,?_⟩
 rw[show((p:Int)-1).toNat=p-1 by omega]
 have bu:∀m,∀i,i<n->Bd 64 (K1 n c (p:Int) u m i):=λm i hi=>by
  have:=Eb (n:=n) (c:=c) hp (hu i hi) m
  exact Bd.small (by omega) (by omega)
 refine dF (λi σ H2=>aG H H2/\∃(v:V) (o:Option V),σ=[j? t,j? x,Iq (p),Iq (p),j? v,o]/\Rep H2 Any v (rE n (K1 n c (p:Int) u i))/\(1<=i->Rep H2 (dY H) v (rE n (K1 n c (p:Int) u i)))) ⟨aG.refl H,x,_,rfl,rx,λh=>Jd h (by decide)⟩ ?_ ?_
 ·rintro i σ H2 hi ⟨g2,v,o,rfl,rv,_⟩
  refine⟨_,rfl,_,rfl,_,rfl,_,rfl,n,p,t,v,x,c,_,u,rfl,rt.same g2,rv,rx.same g2,hn1,hn,hp,hp2,bc,bu i,λj hj=>bu 0 j hj,λr H3 g3 rr=>?_⟩
  exact⟨g2.trans g3,_,_,rfl,rr.any,λ_=>rr.older g2⟩
 ·rintro σ H2 ⟨g2,v,o,rfl,rv,rn⟩
  exact⟨_,rfl,q _ H2 g2 (rn (by omega))⟩
def A8 (K:bG):Sp:=λvs H Q _=>∃(n p:Nat) (t:V) (c:Nat->Nat->Vc),vs=[t,.int (p:Int)]/\Rep H Any t (tE n n n c)/\1<=n/\n<=20/\2<=p/\p<=50/\(∀i j k,i<n->j<n->k<n->Bd 90000 (c i j k))/\
 ∀k r H',n<=p ^ k->aG H H'->Rep H' (dY H) r (mE n n (Fq n c p k))->Q r H'
theorem Ft (B:iI mg)(jm:b_ P w K mg base 1 "unit_row" zm zC)(CC:b_ P w K mg base 3 "power_by" Ib (IA K))(F:Src K mg "raised" mU wZ):b_ P w K mg base 4 "raised" wZ (A8 K):=by
 refine F.ok i6 (λvs H Q E h=>?_) (λf cdv A outer s H vs Q E hr h=>?_)
 ·obtain⟨n,p,t,c,rfl,_⟩:=h;rfl
 obtain⟨n,p,t,c,rfl,rt,hn1,hn,hp,hp2,bc,q⟩:=h;obtain⟨lt,us,rfl,hlt,_,C⟩:=id rt.cf;refine⟨_,ah (aB (i:=2) i6.nd rfl (Or.inr rfl) (aM (aQ (K:=K) rfl) rfl B.len b8 (af (pv 0) ai)))
  (ah (jC (i:=3) i6.nd rfl (z? rfl) (aF (N:=["place","many"]) (sl:=[q?,j? 2]) (ao mU) Ny rfl rfl (by decide +kernel)) rfl (bL rfl B.range (af (pv 2) ai)) (λ_ _ _ _ _=>(aC (i:=0) (Yk_ ["place","many"]) rfl (z? rfl))) (λ_ _ _ _ _=>aP) (λ_ _ _ _ _=>(aE jm hr (af (pv 1) (af (pv 0) (af ak ai))))))
  (ah (aB (i:=4) i6.nd rfl (z? rfl) ak)
  (ah (ee D? (aR F9 (pv 4) (pv 2) (aY _))
   (ah (jC (i:=3) i6.nd rfl (z? rfl) (aF (N:=["row","table","p"]) (sl:=[q?,j? 0,j? 1]) (ao mU) Ny rfl rfl (by decide +kernel)) rfl (bF (K:=K) rfl (pv 3)) (λ_ _ _ _ _=>(aC (i:=0) (Yk_ ["row","table","p"]) rfl (z? rfl))) (λ_ _ _ _ _=>aP) (λ_ _ _ _ _=>(aE CC hr (af (pv 1) (af (pv 0) (af (pv 2) (af (pv 2) ai)))))))
   (ay (aB (i:=4) i6.nd rfl (z? rfl) (au aT (pv 4) (pv 1))))))
  (ay (aK (pv 3)))))),?_⟩
 walk_at "rd"
 refine⟨lt,_,rfl,.inl (aN.of hlt),?_⟩
 rw[C.len];refine⟨_,rfl,_,rfl,by omega,by omega,λD hD=>?_⟩
 rw[Yj];refine B8 (λi=>rE n (un i)) hD (by omega) (λi H2 Q2 hi g2 q2=>?_) λH2 g2 rr=>?_
 ·rw[Z8]
  exact⟨_,rfl,_,rfl,n,i,1,rfl,by omega,λr H3 g3 rr=>q2 _ H3 g3 rr⟩
 refine i_ (λσ H2=>aG H H2/\∃(k:Nat) (v:V),σ=[Rq lt,Iq (p),Iq (n),j? v,Iq ((p ^ k:Nat))]/\p ^ k<=1000/\Rep H2 (dY H) v (mE n n (Fq n c p k))) (λσ _=>match σ with | [_,_,_,_,j? (.int r)]=>n-r.toNat|_=>0)
  ⟨g2,0,_,rfl,by rw[Nat.pow_zero];decide,rr⟩ ?_
 rintro σ H3 ⟨g3,k,v,rfl,hk,rv⟩;refine⟨_,rfl,_,rfl,_,_,rfl,rfl,_,rfl,fu (λc1=>?_) (λc1=>?_)⟩
 ·have hlt':p ^ k<n:=by have:=W9 c1;omega
  obtain⟨lv',vs,rfl,VG,_,Cv⟩:=id rv.cf;refine win ⟨_,rfl,lv',rfl,⟨_,aN.of VG⟩,λD2 w_=>?_⟩
  refine lY (λi=>rE n (Fq n c p (k+1) i)) (n:=n) Cv.len VG w_ (by omega) (λi vx H4 Q4 hi g4 jT q4=>?_) λH4 g4 NL=>?_
  ·obtain⟨_,ri⟩:=Cv.get jT
   exact⟨_,rfl,_,rfl,_,rfl,_,rfl,n,p,_,vx,c,Fq n c p k i,rfl,rt.same (g3.trans g4),(ri.same g4).any,hn1,hn,hp,hp2,bc,λj _=>uM hp k,λr H5 g5 Ql=>q4 _ H5 g5 Ql⟩
  ·have h1:p ^ k*p<=19*50:=Zf (by omega) hp2
   have e1:((p ^ k:Nat):Int)*(p:Int)=((p ^ (k+1):Nat):Int):=by rw[Zq,Zl]
   refine⟨_,rfl,_,rfl,_,_,rfl,rfl,gD (by omega) (by omega),?_⟩
   show(aG H H4/\_)/\_
   refine⟨⟨g3.trans g4,k+1,_,by show _=[_,_,_,_,j? (V.int ((p ^ (k+1):Nat):Int))];rw[<- e1];rfl,by rw[Zq];omega,NL.older g3⟩,?_⟩
   show n-(((p ^ k:Nat):Int)*(p:Int)).toNat<n-(((p ^ k:Nat):Int)).toNat
   rw[e1,Yj,Yj,Zq];have h2:1<=p ^ k:=Z5 (by omega)
   have h3:p ^ k*2<=p ^ k*p:=Za _ hp;omega
 ·have hge:n<=p ^ k:=by
   have:¬ ((p ^ k:Nat):Int)<(n:Int):=λz=>c1 (W8 z)
   omega
  exact⟨_,rfl,q k _ H3 hge g3 rv⟩
end
def Bx (k:Nat)(A:Nat->Vc)(lead:Vc)(q:Nat)(m:Int):Nat->Vc:=λi j=>if i<k then (A i j-(A i q / lead q)*lead j) % m else ((m / lead q)*lead j) % m
def L0 (K:bG):Sp:=λvs H Q _=>∃(k n q:Nat) (u v:V) (A:Nat->Vc) (lead:Vc) (m:Int),vs=[u,v,.int (q:Int),.int m]/\Rep H Any u (mE k n A)/\Rep H Any v (rE n lead)/\q<n/\n<=100/\k<=100/\0<m/\0<lead q/\Bd 8000 m/\(∀i j,i<k->j<n->Bd 8000 (A i j))/\(∀j,j<n->Bd 8000 (lead j))/\
 ∀r H',aG H H'->Rep H' (dY H) r (mE (k+1) n (Bx k A lead q m))->Q r H'
section
theorem CD (B:iI mg)(F:Src K mg "without" ko HW):b_ P w K mg base 1 "without" HW (L0 K):=by
 refine F.ok ji (λvs H Q E h=>?_) (λf cdv A outer s H vs Q E hr h=>?_)
 ·obtain⟨k,n,q,u,v,A,lead,m,rfl,_⟩:=h;rfl
 obtain⟨k,n,q,u,v,A,lead,m,rfl,ru,rv,hq,hn,hk,m0,l0,bm,bA,bl,qq⟩:=h;obtain⟨lA,us,rfl,JC,_,C⟩:=ru.cf;obtain⟨ll,rfl,Nm,_⟩:=dQ rv;refine⟨_,ah (aB (i:=4) ji.nd rfl (z? rfl) (bD ai))
  (ah (cK D? rfl (bF (K:=K) rfl (pv 0)) (aC (i:=5) ji.nd rfl (z? rfl))
   (ah (aB (i:=6) ji.nd rfl (Or.inr rfl) (au bE (bI (aJ (K:=K) rfl) (pv 5) (pv 2) (λ_ _=>rfl)) (bI (aJ (K:=K) rfl) (pv 1) (pv 2) (λ_ _=>rfl))))
   (ay (fh (qu R? F! G! dU (pv 4) (af (bM (aF (N:=Nz) (sl:=[q?,q?,j? 6,j? 3]) (ao ko) S5 rfl rfl (by decide +kernel)) rfl (uG (K:=K) rfl rfl B.zip (af (pv 5) (af (pv 1) ai))) (λ_ _ _ _ _=>(cZ (n:=2) (K:=K) rfl rfl (aS (aC (i:=0) (Yk_ Nz) rfl (z? rfl)) (aS (aC (i:=1) (Yk_ Nz) rfl (z? rfl)) cY)))) (λ_ _ _ _ _=>aP) (λ_ _ _ _ _=>(au bw (au bW (pv 0) (au aT (pv 2) (pv 1))) (pv 3)))) ai))))))
  (ah (aB (i:=6) ji.nd rfl (Or.inr rfl) (au bE (pv 3) (bI (aJ (K:=K) rfl) (pv 1) (pv 2) (λ_ _=>rfl))))
  (ay (aK (au iE (pv 4) (bD (af (bM (aF (N:=["number","often","power"]) (sl:=[q?,j? 6,j? 3]) (ao ko) S5 rfl rfl (by decide +kernel)) rfl (bF (K:=K) rfl (pv 1)) (λ_ _ _ _ _=>(aC (i:=0) (Yk_ ["number","often","power"]) rfl (z? rfl))) (λ_ _ _ _ _=>aP) (λ_ _ _ _ _=>(au bw (au aT (pv 1) (pv 0)) (pv 2)))) ai))))))),?_⟩
 walk_at "rd"
 intro p hp;have g0:=aA hp (.lst []);refine⟨_,rfl,lA,rfl,⟨_,aN.of (g0 _ _ JC)⟩,j6 (xs:=us) (λi σ H2=>aG H H2/\∃(ys:List V) (o1 o2:Option V),σ=[Rq lA,Rq ll,Iq (q),j? (.int m),Rq p,o1,o2]/\H2 p=j? (.lst ys)/\Cf H2 (Off H p) ys i λi=>rE n (Bx k A lead q m i))
  ⟨g0,[],_,_,rfl,av,.nil⟩ (λi σ H2 _ h=>aN.of (h.1 _ _ JC)) ?_ ?_⟩
 ·rintro i vx σ H2 jT ⟨g2,ys,o1,o2,rfl,ep,Cy⟩
  obtain⟨hi,ri⟩:=C.get jT;obtain⟨lr,rfl,hlr,_⟩:=dQ ri;refine⟨_,rfl,_,rfl,lr,_,_,_,rfl,rfl,aN.of (g2 _ _ hlr),ou hq,_,rfl,_,rfl,ll,_,_,_,rfl,rfl,aN.of (g2 _ _ Nm),ou hq,_,_,rfl,rfl,(bl q hq).dv (by omega),?_⟩
  show iO 6 (V.int ((A i q).fdiv (lead q))) _ _ _
  rw[Zj _ (show 0<=lead q by omega)]
  refine⟨_,rfl,.inl ⟨rfl,_,aN.of ep⟩,_,rfl,_,rfl,lr,ll,rfl,⟨_,aN.of (g2 _ _ hlr)⟩,⟨_,aN.of (g2 _ _ Nm)⟩,λD hD=>?_⟩
  have bo:Bd 8000 (A i q / lead q):=by
   rw[<- Zj _ (show 0<=lead q by omega)];exact(bA i q hi hq).fdiv
  refine Nq (λj=>.num (Bx k A lead q m i j)) (n:=n) (by rw[Ya,bK]) (by rw[Ya,bK]) (g2 _ _ hlr) (g2 _ _ Nm) hD (by omega) (λj vx vy t H3 Q2 hj g3 jT Im ht q2=>?_) λH3 g3 rr=>?_
  ·obtain⟨y1,hy1,rfl⟩:=aU jT
   obtain⟨y2,KS,rfl⟩:=aU Im;rw[dM hj] at hy1 KS;cases hy1;cases KS;refine⟨t,_,rfl,kG.of ht,rfl,_,_,rfl,_,_,rfl,rfl,?_⟩
   refine⟨_,rfl,_,rfl,_,rfl,_,_,rfl,rfl,bo.ok (bl j hj),_,_,rfl,rfl,_,rfl,_,_,rfl,rfl,(show m≠0 by omega),?_⟩
   show Q2 (V.int ((A i j-A i q / lead q*lead j).fmod m)) H3
   have e:(A i j-A i q / lead q*lead j).fmod m=Bx k A lead q m i j:=by
    unfold Bx;rw[W7 hi,Y5 _ (by omega)]
   rw[e];exact q2 _ H3 (aG.refl _) (.num _)
  ·refine⟨p,_,_,rfl,rfl,g3 _ _ ep,by rw[Cy.len,C?];omega,?_⟩
   exact⟨(g2.trans g3).aZ hp _,_,_,_,rfl,av,((Cy.same g3).push (rr.Ko g2 ep)).upd⟩
 ·rintro σ H2 ⟨g2,ys,o1,o2,rfl,ep,Cy⟩
  rw[C.len] at Cy;refine⟨_,rfl,_,rfl,_,rfl,ll,_,_,_,rfl,rfl,aN.of (g2 _ _ Nm),ou hq,_,_,rfl,rfl,(bl q hq).dv (by omega),?_⟩
  show iO 6 (V.int (m.fdiv (lead q))) _ _ _
  rw[Zj _ (show 0<=lead q by omega)]
  have bo:Bd 8000 (m / lead q):=by
   rw[<- Zj _ (show 0<=lead q by omega)];exact bm.fdiv
  refine⟨_,rfl,_,rfl,ll,rfl,⟨_,aN.of (g2 _ _ Nm)⟩,λD hD=>?_⟩
  refine lY (λj=>.num (Bx k A lead q m k j)) (n:=n) (by rw[Ya,bK]) (g2 _ _ Nm) hD (by omega) (λj vx H3 Q2 hj g3 jT q2=>?_) λH3 g3 rr=>?_
  ·obtain⟨y1,hy1,rfl⟩:=aU jT
   rw[dM hj] at hy1;cases hy1;refine⟨_,rfl,_,rfl,_,_,rfl,rfl,bo.ok (bl j hj),_,rfl,_,_,rfl,rfl,(show m≠0 by omega),?_⟩
   show Q2 (V.int ((m / lead q*lead j).fmod m)) H3
   have e:(m / lead q*lead j).fmod m=Bx k A lead q m k j:=by
    unfold Bx;rw[W6 (by omega),Y5 _ (by omega)]
   rw[e];exact q2 _ H3 (aG.refl _) (.num _)
  ·refine⟨aV rfl,λp2 n2=>?_⟩
   have k2:=aA n2 (.lst [.ref D]);have g4:=(g2.trans g3).trans k2;refine⟨p,p2,_,_,rfl,rfl,k2 _ _ (g3 _ _ ep),av,by rw[Cy.len,C?];show k+1<=_;omega,λp3 n3=>?_⟩
   have k3:=aA n3 (.lst (ys++[.ref D]));refine qq _ _ (g4.trans k3) ?_
   have c1:=((Cy.G7.same g3).push (rr.older g2)).same (k2.trans k3);exact c1.rep av (g4.free n3)
end
def gC:Str:="lead_at.<locals>.<lambda>"
structure IB (k n:Nat)(A:Nat->Vc)(q p d:Nat)(lead:Vc):Prop where
 pw:∃s,s<=d/\lead q=(p:Int) ^ s
 rC:∀j,j<n->0<=lead j/\lead j<=(p:Int) ^ d
 dv:∀i,i<k->lead q ∣ A i q
 src:(∃i,i<k/\∃b:Int,∀j,j<n->lead j=(b*A i j) % (p:Int) ^ d)\/∀j,j<n->lead j=if j=q then (p:Int) ^ d else 0
def A9 (K:bG)(Pp:o?):Sp:=λvs H Q _=>∃(k n q d p:Nat) (u:V) (A:Nat->Vc),vs=[u,.int (q:Int),.int (p:Int),.int ((p:Int) ^ d)]/\p∈PR/\Rep (del H Pp) Any u (mE k n A)/\q<n/\n<=20/\1<=k/\k<=90/\1<=d/\d<=30/\(∀i j,i<k->j<n->0<=A i j/\A i j<(p:Int) ^ d)/\fQ gC Pp H/\
 ∀lead r H',cD H Pp H'->fQ gC Pp H'->IB k n A q p d lead->Rep (del H' Pp) (dY H) r (rE n lead)->Q r H'
theorem CH {Pp:o?}{pos:Pos}{L:nX}{cl:List (Str×o?)}{σ:St}{H:Hp}{Q:VK}{ql:Str}(hq:L.qual=ql)(tq:fQ ql Pp H)(q:∀f c H',cD H Pp H'->fQ ql Pp H'->L.here cl f c H'->Q (.ref f) H'):ye Pp pos L cl σ H Q:=by subst hq;exact E1 tq q
theorem IC {K:bG}{N:List Str}{Pp l:o?}{pos:Pos}{L:nX}{cl:List (Str×o?)}{σ:St}{H:Hp}{Q:VK}{ql:Str}{i:Nat}(hq:L.qual=ql)(hσ:σ[i]?=j? (j? (.ref l)))(tq:fQ ql Pp H)(q:∀f c H',cD H Pp H'->fQ ql Pp H'->L.here cl f c H'->AE K N L cl σ [.ref l] [.ref f] H' Q):
  Hh (AE K N L cl) (z9 (Mr i) Ga) (z9 (ye Pp pos L cl) Ga) σ H Q:=by
 refine⟨_,hσ,?_⟩
 show ye Pp pos L cl σ H λy H2=>AE K N L cl σ [.ref l] [y] H2 Q
 exact CH hq tq q
theorem zE {p:Nat}(hp:p∈PR){m:Int}(hm:¬ (p:Int) ∣ m):∀d:Nat,∃x y:Int,x*m+y*(p:Int) ^ d=1
 | 0=>⟨0,1,by rw[Zd];omega⟩
 | d+1=>by
  obtain⟨x,y,e⟩:=zE hp hm d;have pp:=cC hp;have h1:=Zg m (show(p:Int)≠0 by omega)
  have h2:=Zc m (show(0:Int)<p by omega)
  obtain⟨c,hc⟩:=Zi h1;have c0:c≠0:=λz=>hm (Int.dvd_of_emod_eq_zero (by rw[hc,z];rfl))
  obtain⟨b,hb,e1⟩:=yX p hp c (by omega) (by omega)
  have p2:2<=p:=by
   have:∀q∈PR,2<=q:=by decide
   exact this p hp
  have e1:c*b % p=1:=by rw[e1];exact Z2 (by omega)
  have e2:(c:Int)*(b:Int)=1+(p:Int)*((c*b / p:Nat):Int):=by
   have:=Nat.div_add_mod (c*b) p
   rw[e1] at this;have h:((p*(c*b / p)+1:Nat):Int)=((c*b:Nat):Int):=by rw[this]
   rw[Int.natCast_add,Zl,Zl] at h;omega
  have e3:m=(c:Int)+(p:Int)*(m / p):=by
   have:=Zr m (p:Int)
   rw[hc] at this;omega
  generalize m / (p:Int)=g at e3;generalize ((c*b / p:Nat):Int)=t at e2;refine⟨x*(b*m-(p:Int)*(g*b+t))+y*(p:Int) ^ d*b,-(y*(g*b+t)),?_⟩
  rw[Y6];generalize (p:Int) ^ d=W at e;have e4:(b:Int)*m-(p:Int)*(g*b+t)=1:=by rw[e3];grind
  rw[e4];grind
theorem Ec {H:Hp}{ok:o?->Prop}{n:Nat}:∀ {ys:List V},(∀y∈ys,∃e,Rep H ok y e/\EV n e)->∃es:List El,ys.length=es.length/\(∀(i:Nat) v e,ys[i]?=j? v->es[i]?=j? e->Rep H ok v e)/\∀e∈es,EV n e
 | [],_=>⟨[],rfl,λi v e h=>by simp at h,λe h=>by simp at h⟩
 | y::ys,h=>by
  obtain⟨e,r,f⟩:=h y Y8;obtain⟨es,h1,h2,h3⟩:=Ec (ys:=ys) λz hz=>h z (Y3 _ hz)
  refine⟨e::es,by simp[h1],λi v d a b=>?_,λd hd=>?_⟩
  ·cases i with
   | zero=>cases a;cases b;exact r
   | succ i=>exact h2 i v d a b
  ·rcases List.mem_cons.mp hd with rfl|hd
   ·exact f
   ·exact h3 d hd
theorem L3 {n:Nat}{v:Vc}(h:n<=100):EV 1 (rE n v):=.vec (by rw[Ya,Yf];exact h) λe he=>by
 obtain⟨i,_,rfl⟩:=List.mem_map.mp he;exact .num _
theorem Rep.zF {H0 H1 H2:Hp}{Pp:o?}{o:HO}{v:V}{e:El}(r:Rep H2 (dY H1) v e)(hP:H1 Pp=j? o)(f:∀b,H1 b=q?->H0 b=q?):Rep (del H2 Pp) (dY H0) v e:=r.imp λb u h k=>⟨by
  rw[jb (λz=>by rw[z] at k;rw[show H1 Pp=q? from k] at hP;cases hP)];exact h,f b k⟩
theorem ym {p d:Nat}(hp:p∈PR)(hd:d<=30):Bd 200 ((p:Int) ^ d):=by
 have:∀q∈PR,q<=2 ^ 6:=by decide
 show((p:Int) ^ d).natAbs<2 ^ 200
 rw[<- Wt,Int.natAbs_natCast];refine Z0 (Zx (this p hp) d) ?_
 rw[<- Wh];exact Wd (by decide) (by omega)
section
theorem CJ {gR aD:o?}(B:iI mg)(hbm:BMain mg base)(jn:PySem.W.codeHdIn K gR aD=true)(mY:b_ P w K mg base 1 "taken_out" qU zq)(d7:b_ P w K mg base 2 "size_of_number" qU uJ)(Fv:b_ P w K mg base 1 "back_by" ["k","power"] Ir)(jm:b_ P w K mg base 1 "unit_row" zm zC)(F:G9 K mg "lead_at" fq HY gR):b_ P w K mg base 7 "lead_at" HY (A9 K aD):=by
 refine F.ok kZ (λvs H Q E h=>?_) (λfa A outer s H vs Q E hr h=>?_)
 ·obtain⟨k,n,q,d,p,u,A,rfl,_⟩:=h;rfl
 obtain⟨k,n,q,d,p,u,A,rfl,hp,ru,hq,hn,hk1,hk,hd1,hd,hA,tq,qq⟩:=h;obtain⟨lA,us,rfl,JC,_,C⟩:=id ru.cf;refine⟨_,ah (jC (i:=4) kZ.nd rfl (z? rfl) (aF (N:=["row","place"]) (sl:=[q?,j? 1]) (ao fq) Nx rfl rfl (by decide +kernel)) rfl (bF (K:=K) rfl (pv 0)) (λ_ _ _ _ _=>(aC (i:=0) (Yk_ ["row","place"]) rfl (z? rfl))) (λ_ _ _ _ _=>(JY (aR tN (bI (aJ (K:=K) rfl) (pv 0) (pv 1) (λ_ _=>rfl)) ak (aY _)))) (λ_ _ _ _ _=>(pv 0)))
  (ah (dS (aR (qx (K:=K) rfl hr.units) (pv 4) (bD ai) (aY _))
   (ay (aK (aE jm hr (af (aM (aQ (K:=K) rfl) rfl B.len b8 (af (bI (aJ (K:=K) rfl) (pv 0) ak (λ_ _=>rfl)) ai)) (af (pv 1) (af (pv 3) ai))))))
   (bY))
  (ah (aB (i:=5) kZ.nd rfl (z? rfl) (Ky (c:=gR) (P:=aD) (x:="one") (N:=["place","p"]) (k:=2) (K:=K) rfl (λ_ _ _ _ _ _ _ hr=>(aE d7 hr (af (bI (aJ (K:=K) rfl) (pv 0) (pv 1) (λ_ _=>rfl)) (af (pv 2) ai)))) (hr.mono (by first|decide|omega)) rfl ⟨rfl,rfl⟩ (λ_=>rfl) hbm rfl jn rfl B.«min» (af (pv 4) ai) (λ_ _ _ _ _=>rfl) (EY (by decide +kernel)) (Kv (sc:=ao fq) (by decide +kernel)) (by decide +kernel) rfl (by decide +kernel)))
  (ah (aB (i:=6) kZ.nd rfl (Or.inr rfl) (aE Fv hr (af (bI (qw (K:=K) rfl) (aE mY hr (af (bI (aJ (K:=K) rfl) (pv 5) (pv 1) (λ_ _=>rfl)) (af (pv 2) ai))) ak (λ_ _=>rfl)) (af (pv 3) ai))))
  (ay (aK (bM (aF (N:=["number","back","power"]) (sl:=[q?,j? 6,j? 3]) (ao fq) Nx rfl rfl (by decide +kernel)) rfl (bF (K:=K) rfl (pv 5)) (λ_ _ _ _ _=>(aC (i:=0) (Yk_ ["number","back","power"]) rfl (z? rfl))) (λ_ _ _ _ _=>aP) (λ_ _ _ _ _=>(au bw (au aT (pv 1) (pv 0)) (pv 2))))))))),?_⟩
 have CK:=(cu JC).2;have p2:2<=p/\p<50:=by
  have:∀q∈PR,2<=q/\q<50:=by decide
  exact this p hp
 have L4:=ym hp hd;have hm0:(0:Int)<(p:Int) ^ d:=Wb (by omega)
 walk_at "rd"
 refine⟨⟨_,aN.of CK⟩,λD hD=>?_⟩
 refine gF (xs:=us) (λi ys H2=>aG H H2/\ys.length<=i/\(∀y∈ys,∃j,us[j]?=j? y/\A j q≠0)/\∀j y,j<i->us[j]?=j? y->A j q≠0->y∈ys) ⟨aA hD _,Yd 0,λy hy=>by simp at hy,λj y hj=>Jd hj (Wc _)⟩ (λi ys H2 _ h=>aN.of (h.1 _ _ CK)) ?_ ?_
 ·rintro i m x ys H2 hm hi hx hy hlen ⟨g2,hle,h1,h2⟩
  obtain⟨hik,ri⟩:=C.get hx;obtain⟨lr,rfl,hlr,_⟩:=dQ ri;have K3:=(cu hlr).2;refine⟨_,rfl,_,rfl,lr,_,_,_,rfl,rfl,aN.of (g2 _ _ K3),ou hq,rfl,_,rfl,?_⟩
  by_cases z:A i q=0
  ·refine om (by rw[z]) (CW.skip hm hi hy hlen ⟨g2,by omega,h1,λj y hj e nz=>?_⟩)
   by_cases c:j=i
   ·rw[c] at nz;exact Jd z nz
   ·exact h2 j y (by omega) e nz
  ·refine Ae (λy=>z (V.int.inj y)) ⟨_,rfl,CW.emit hm hi (by rw[C.len,C?];omega) hy hlen ⟨aG.aZ g2 hD _,by rw[Yi];show ys.length+1<=_;omega,λy hy=>?_,λj y hj e nz=>?_⟩⟩
   ·rcases List.mem_append.mp hy with y1|y1
    ·exact h1 y y1
    ·rw[List.mem_singleton.mp y1];exact⟨i,hx,z⟩
   ·by_cases c:j=i
    ·rw[c,hx] at e;cases e
     exact Ys _ Y8
    ·exact List.mem_append_left _ (h2 j y (by omega) e nz)
 ·rintro ys H2 hy ⟨g2,hle,h1,h2⟩
  rw[C.len] at h2 hle;have fD:H D=q?:=hD;refine⟨_,rfl,aV rfl,λpe KU=>?_⟩
  have k3:=aA KU (.lst []);have g3:=g2.trans k3;have hyp:=k3 _ _ hy;have L5:(L2.upd H2 pe (.lst [])) pe=j? (.lst []):=av;have ID:=tq.same g3;generalize L2.upd H2 pe (.lst [])=H3 at k3 g3 hyp L5 ID;have sP:∀y j,us[j]?=j? y->j<k/\∃lr,y=.ref lr/\H lr=j? (.lst ((lv n (A j)).map V.int))/\lr≠aD:=λy j e=>by
   obtain⟨hj,rj⟩:=C.get e;obtain⟨lr,rfl,hlr,_⟩:=dQ rj;exact⟨hj,lr,rfl,(cu hlr).2,(cu hlr).1⟩
  obtain⟨es,el,er,ef⟩:=Ec (H:=H3) (ok:=Any) (n:=1) (ys:=ys) λy hy=>by
   obtain⟨j,e,_⟩:=h1 y hy;obtain⟨hj,lr,rfl,hlr,_⟩:=sP y j e;exact⟨_,Hl (g3 _ _ hlr) trivial,L3 (by omega)⟩
  have YW:ys.length<=100:=by omega
  have YX:Rep H3 Any (.ref D) (.vec es):=.vec hyp trivial el er;have IE:Rep H3 Any (.ref pe) (.vec []):=.vec L5 trivial rfl λi v e h=>by simp at h
  refine LI YX IE (.vec (by omega) ef) (.vec (n:=1) (by decide) λe he=>by simp at he) (by decide) (by decide) (λe=>?_) (λe=>?_)
  ·have y0:ys=[]:=by
    have:es=[]:=by injection e
    rw[this] at el;exact List.length_eq_zero_iff.mp el
   have az:∀i,i<k->A i q=0:=λi hi=>V? λz=>by
    have:=h2 i _ hi (Yc (by rw[C.len];exact hi)) z
    rw[y0] at this;simp at this
   refine⟨_,rfl,j8 ?_⟩
   obtain⟨v0,hv0,_⟩:=C.at_ 0 (by omega)
   obtain⟨_,l0,rfl,Gj,_⟩:=sP v0 0 hv0;have Iv:rF us 0=j? (.ref l0):=fH (j:=0) hv0;refine⟨_,rfl,lA,_,_,_,rfl,rfl,aN.of (g3 _ _ CK),Iv,l0,_,rfl,.inl (aN.of (g3 _ _ Gj)),?_⟩
   rw[Ya,bK];refine⟨_,rfl,_,rfl,n,q,(p:Int) ^ d,rfl,by omega,λr H4 g4 rr=>?_⟩
   obtain⟨ps,L6,_⟩:=id ID;refine qq (λj=>if j=q then (p:Int) ^ d else 0) r H4 (cD.of (g3.trans g4)) (ID.same g4) ⟨⟨d,Yd d,W7 rfl⟩,λj _=>?_,λi hi=>by rw[az i hi];exact Int.dvd_zero _,.inr λj _=>rfl⟩ (Rep.zF rr L6 λb hb=>g3.free hb)
   by_cases c:j=q
   ·rw[W7 c];omega
   ·rw[W6 c];omega
  ·have y0:ys≠[]:=λz=>e (by rw[z] at el;rw[List.length_eq_zero_iff.mp el.symm])
   refine⟨_,rfl,j7 ?_⟩
   have hj:∀i:Nat,∃j:Nat,∀y,ys[i]?=j? y->us[j]?=j? y/\A j q≠0:=λi=>by
    cases h:ys[i]? with
    | none=>exact⟨0,λy z=>by cases z⟩
    | some y=>
     obtain⟨j,a,b⟩:=h1 y (Yt h);exact⟨j,λy' z=>by cases z;exact⟨a,b⟩⟩
   obtain⟨jf,Tr⟩:=Classical.axiomOfChoice hj;have hs:∀i,∃s:Nat,A (jf i) q≠0->dW (p:Int) (A (jf i) q) s:=λi=>by
    by_cases z:A (jf i) q=0
    ·exact⟨0,λy=>Jd z y⟩
    ·obtain⟨s,hs⟩:=BI (p:=(p:Int)) (by omega) z
     exact⟨s,λ_=>hs⟩
   obtain⟨sf,Tt⟩:=Classical.axiomOfChoice hs;have hPl:∃o,H3 aD=j? o:=by obtain⟨ps,h,_⟩:=id ID;exact⟨_,h⟩
   refine IC (i:=4) (l:=D) rfl rfl ID λf c H4 VH NN hh=>?_
   have YY:D≠aD:=λz=>by
    obtain⟨ps,h,_⟩:=id tq;rw[z] at hD;rw[h] at hD;cases hD
   have n4:cD H aD H4:=(cD.of g3).trans VH;have YZ:=VH D _ YY hyp;refine⟨D,f,c,ys,[.int (q:Int),.int (p:Int)],λi=>(sf i:Int),λi H'=>aG H4 H',rfl,rfl,List.length_pos_iff.mpr y0,?_,rfl,aG.refl _,⟨λi H' g=>aN.of (g _ _ YZ),λi v H' hv g=>⟨hh.same g,?_⟩,λi v H5 hv hmin g5=>?_⟩⟩
   ·intro j x v e1 e2
    match j,e1,e2 with
    | 0,e1,e2=>cases e1;cases e2;exact⟨1,rfl,rfl⟩
    | 1,e1,e2=>cases e1;cases e2;exact⟨2,rfl,rfl⟩
    | j+2,e1,e2=>have e2:([]:List V)[j]?=j? v:=e2;simp at e2
   ·obtain⟨e1,e2⟩:=Tr i v hv
    obtain⟨_,lr,rfl,hlr,hne⟩:=sP v _ e1;refine⟨_,rfl,_,rfl,lr,_,_,_,rfl,rfl,aN.of (g _ _ (n4 _ _ hne hlr)),ou hq,_,rfl,_,(p:Int),rfl,by omega,by omega,λx H6 g6 sv=>?_⟩
    rcases sv with ⟨z,_⟩|⟨_,s',hv',rfl⟩
    ·exact Jd z e2
    ·exact⟨by rw[hv'.uniq (Tt i e2)],g.trans g6⟩
   ·obtain⟨e1,e2⟩:=Tr i v hv
    obtain⟨hjk,lr,rfl,hlr,hne⟩:=sP v _ e1;have vi:=Tt i e2;have n5:cD H aD H5:=n4.trans (cD.of g5);have Tu:=n5 _ _ hne hlr;obtain⟨a0,a1⟩:=hA (jf i) q hjk hq;have dv:∀i',i'<k->(p:Int) ^ sf i ∣ A i' q:=λi' hi'=>by
     by_cases z:A i' q=0
     ·rw[z];exact Int.dvd_zero _
     ·have eg:us[i']?=j? (us[i']'(by rw[C.len];exact hi')):=Yc _
      have hin:=h2 i' _ hi' eg z;obtain⟨m,hm,em⟩:=Z6 hin;have Y_:ys[m]?=j? (us[i']'(by rw[C.len];exact hi')):=by rw[Yc hm,em]
      obtain⟨e3,e4⟩:=Tr m _ Y_;have hle:=hmin m hm;obtain⟨_,l1,x1,x2,_⟩:=sP _ _ e3;obtain⟨_,l2,x3,x4,_⟩:=sP _ _ eg;rw[x1] at x3;cases x3;rw[x2] at x4;have x5:(lv n (A (jf m))).map V.int=(lv n (A i')).map V.int:=by injection x4 with x4;injection x4
      have x6:A (jf m) q=A i' q:=by
       have:=Jb (λl=>l[q]?) x5
       simp only[Ye,dM hq] at this
       injection this with this;injection this
      rw[<- x6];exact Int.dvd_trans (gh _ (by have:(sf i:Int)<=(sf m:Int):=hle;omega)) (Tt m e4).dv
    have hps:(0:Int)<(p:Int) ^ sf i:=Wb (by omega)
    refine⟨_,rfl,_,rfl,lr,_,_,_,rfl,rfl,aN.of Tu,ou hq,_,rfl,A (jf i) q,(p:Int),rfl,e2,by omega,by omega,λv' m' r H6 g6 ek nd et=>?_⟩
    have ev:v'=sf i:=(dW.of (by omega) ek nd).uniq vi
    subst ev;have mp:0<m':=by
     rcases Int.lt_or_le 0 m' with y|y
     ·exact y
     ·have h:=Wx (W0 hps) (show 0<=-m' by omega)
      rw[Int.mul_neg,<- ek] at h;omega
    have mle:m'<=A (jf i) q/\(p:Int) ^ sf i<=A (jf i) q:=by
     have h1:=Int.mul_le_mul_of_nonneg_right (show 1<=(p:Int) ^ sf i by omega) (W0 mp)
     have h2:=Int.mul_le_mul_of_nonneg_left (show 1<=m' by omega) (W0 hps)
     rw[<- ek] at h1 h2;omega
    have ZA:2<=(p:Int) ^ d:=by
     obtain⟨d',rfl⟩:∃d',d=d'+1:=⟨d-1,by omega⟩
     rw[Y6];have h1:(0:Int)<(p:Int) ^ d':=Wb (by omega)
     have h2:=Int.mul_le_mul_of_nonneg_right (show 1<=(p:Int) ^ d' by omega) (show(0:Int)<=p by omega)
     omega
    have bm':Bd 200 m':=Bd.le (y:=(p:Int) ^ d) (by omega) L4
    refine⟨r,_,_,_,rfl,rfl,kG.of et,rfl,_,rfl,m',(p:Int) ^ d,rfl,mp,ZA,bm'.mono (by decide),L4.mono (by decide),zE hp nd d,λb t b0 b1 eb H7 g7=>?_⟩
    have n7:cD H aD H7:=n5.trans (cD.of (g6.trans g7));have VI:=((NN.same g5).same g6).same g7;have Qm:=n7 _ _ hne hlr;refine⟨_,rfl,lr,rfl,⟨_,aN.of Qm⟩,λD2 w_=>?_⟩
    refine lY (λj=>.num ((b*A (jf i) j) % (p:Int) ^ d)) (n:=n) (by rw[Ya,bK]) Qm w_ (by omega) (λj vx H8 Q2 hj g8 jT q2=>?_) λH8 g8 rr=>?_
    ·obtain⟨y1,hy1,rfl⟩:=aU jT
     rw[dM hj] at hy1;cases hy1;have aj:=hA (jf i) j hjk hj;refine⟨_,rfl,_,rfl,_,_,rfl,rfl,(Bd.le (y:=(p:Int) ^ d) (by omega) L4).ok (Bd.le (y:=(p:Int) ^ d) (by omega) L4),_,rfl,_,_,rfl,rfl,(show(p:Int) ^ d≠0 by omega),?_⟩
     show Q2 (V.int ((b*A (jf i) j).fmod ((p:Int) ^ d))) H8
     rw[Y5 _ (by omega)]
     exact q2 _ H8 (aG.refl _) (.num _)
    ·have ZC:∃o,H7 aD=j? o:=by obtain⟨ps,h,_⟩:=id VI;exact⟨_,h⟩
     obtain⟨o7,VJ⟩:=ZC;have eq:(b*A (jf i) q) % (p:Int) ^ d=(p:Int) ^ sf i:=by
      have:b*A (jf i) q=(p:Int) ^ sf i+(p:Int) ^ d*((p:Int) ^ sf i*t):=by rw[ek];grind
      rw[this,Int.add_mul_emod_self_left];exact Int.emod_eq_of_lt (by omega) (by omega)
     have sd:sf i<=d:=by
      rcases Nat.le_total (sf i) d with y|y
      ·exact y
      ·exact Jd (Int.le_of_dvd hps (gh (p:Int) y)) (by omega)
     refine qq (λj=>(b*A (jf i) j) % (p:Int) ^ d) _ H8 (n7.trans (cD.of g8)) (VI.same g8) ⟨⟨sf i,sd,eq⟩,λj hj=>?_,λi' hi'=>by show(b*A (jf i) q) % (p:Int) ^ d ∣ _;rw[eq];exact dv i' hi',.inl ⟨jf i,hjk,b,λj _=>rfl⟩⟩ (Rep.zF rr VJ λb hb=>n7.fresh ⟨o7,VJ⟩ hb)
     have h1:=Zg (b*A (jf i) j) (show(p:Int) ^ d≠0 by omega)
     have h2:=Zc (b*A (jf i) j) hm0;exact⟨h1,W0 h2⟩
end
def rowsOf (k n:Nat)(A:Nat->Vc):List Vc:=(Yk k).map λi=>eL n (A i)
theorem cQ {k n:Nat}{A:Nat->Vc}{r:Vc}:r∈rowsOf k n A↔∃i,i<k/\r=eL n (A i):=by
 unfold rowsOf;rw[List.mem_map];exact⟨λ⟨i,h,e⟩=>⟨i,List.mem_range.mp h,e.symm⟩,λ⟨i,h,e⟩=>⟨i,List.mem_range.mpr h,e.symm⟩⟩
theorem cV {n j:Nat}{v:Vc}(h:n<=j):eL n v j=0:=W6 (by omega)
theorem cA {n j:Nat}{v:Vc}(h:j<n):eL n v j=v j:=W7 h
theorem IF {n q k p d:Nat}{R:List Vc}{T:Nat->Vc}{A:Nat->Vc}{ld:Vc}(hp:2<=p)(hq:q<n)(h:Hj n R ((p:Int) ^ d) (q+1) T (rowsOf k n A))(L:IB k n A q p d ld):Hj n R ((p:Int) ^ d) q (λi=>if i=q then eL n ld else T i) (rowsOf (k+1) n (Bx k A ld q ((p:Int) ^ d))):=by
 have m0:(0:Int)<(p:Int) ^ d:=Wb (by omega)
 obtain⟨s,hs,es⟩:=L.pw;have l0:(0:Int)<ld q:=by rw[es];exact Wb (by omega)
 have ht:(p:Int) ^ d / ld q*ld q=(p:Int) ^ d:=Int.ediv_mul_cancel (by rw[es];exact gh _ hs)
 have low:∀i,i<k->∀j,q+1<=j->j<n->A i j=0:=λi hi j h1 h2=>by
  have:=h.low (eL n (A i)) (cQ.mpr ⟨i,hi,rfl⟩) j h1
  rw[cA h2] at this;exact this
 have Tv:∀j,q+1<=j->j<n->ld j=0:=λj h1 h2=>by
  rcases L.src with ⟨i,hi,b,e⟩|e
  ·rw[e j h2,low i hi j h1 h2,Y4,Int.zero_emod]
  ·rw[e j h2,W6 (by omega)]
 have ZD:∀i,i<k->A i q / ld q*ld q=A i q:=λi hi=>Int.ediv_mul_cancel (L.dv i hi)
 have w1:∀i,i<k->∀j,eL n (A i) j=eL n (Bx k A ld q ((p:Int) ^ d) i) j+(A i q / ld q)*eL n ld j+(p:Int) ^ d*eL n (λj=>(A i j-(A i q / ld q)*ld j) / (p:Int) ^ d) j:=λi hi j=>by
  by_cases c:j<n
  ·rw[cA c,cA c,cA c,cA c]
   unfold Bx;rw[W7 hi];have:=Zr (A i j-(A i q / ld q)*ld j) ((p:Int) ^ d)
   omega
  ·rw[cV (by omega),cV (by omega),cV (by omega),cV (by omega)];omega
 have w2:∀j,((p:Int) ^ d / ld q)*eL n ld j=eL n (Bx k A ld q ((p:Int) ^ d) k) j+(p:Int) ^ d*eL n (λj=>(((p:Int) ^ d / ld q)*ld j) / (p:Int) ^ d) j:=λj=>by
  by_cases c:j<n
  ·rw[cA c,cA c,cA c]
   unfold Bx;rw[W6 (by omega)]
   have:=Zr (((p:Int) ^ d / ld q)*ld j) ((p:Int) ^ d)
   omega
  ·rw[cV (by omega),cV (by omega),cV (by omega)];omega
 refine h.step hq (by omega) ?_ (λj hj=>?_) (t:=(p:Int) ^ d / ld q) (by rw[cA hq];exact ht) (λr hr=>?_) ⟨_,cQ.mpr ⟨k,by omega,rfl⟩,_,w2⟩ (λr' hr'=>?_) λr' hr' j hj=>?_
 ·rcases L.src with ⟨i,hi,b,e⟩|e
  ·refine((h.sub _ (cQ.mpr ⟨i,hi,rfl⟩)).iR b Gq.zero).Hi (z:=λj=>-eL n (λj=>(b*A i j) / (p:Int) ^ d) j) (λj hj=>cV hj) λj=>?_
   by_cases c:j<n
   ·rw[cA c,cA c,cA c,e j c]
    have:=Zr (b*A i j) ((p:Int) ^ d)
    grind
   ·rw[cV (by omega),cV (by omega),cV (by omega)];grind
  ·refine(Gq.unit hq).of λj=>?_
   by_cases c:j<n
   ·rw[cA c,e j c]
   ·rw[cV (by omega),W6 (by omega)]
 ·by_cases c:j<n
  ·rw[cA c];exact Tv j hj c
  ·exact cV (by omega)
 ·obtain⟨i,hi,rfl⟩:=cQ.mp hr
  exact⟨_,cQ.mpr ⟨i,by omega,rfl⟩,_,_,w1 i hi⟩
 ·obtain⟨i,hi,rfl⟩:=cQ.mp hr'
  by_cases c:i<k
  ·exact .inl ⟨_,cQ.mpr ⟨i,c,rfl⟩,_,_,w1 i c⟩
  ·obtain rfl:i=k:=by omega
   exact .inr ⟨_,w2⟩
 ·obtain⟨i,hi,rfl⟩:=cQ.mp hr'
  by_cases c:j<n
  ·rw[cA c]
   unfold Bx;by_cases ci:i<k
   ·rw[W7 ci]
    by_cases e:j=q
    ·rw[e,ZD i ci,Int.sub_self,Int.zero_emod]
    ·rw[low i ci j (by omega) c,Tv j (by omega) c,Y4,Int.sub_zero,Int.zero_emod]
   ·rw[W6 ci]
    by_cases e:j=q
    ·rw[e,ht,Int.emod_self]
    ·rw[Tv j (by omega) c,Y4,Int.zero_emod]
  ·exact cV (by omega)
theorem Fw {n k:Nat}{m:Int}{A:Nat->Vc}{T:Nat->Vc}:Hj n (rowsOf k n A) m n T (rowsOf k n λi j=>A i j % m):=by
 have e:∀i j,eL n (A i) j=eL n (λj=>A i j % m) j+m*eL n (λj=>A i j / m) j:=λi j=>by
  by_cases c:j<n
  ·rw[cA c,cA c,cA c];exact(Zr _ _).symm
  ·rw[cV (by omega),cV (by omega),cV (by omega)];omega
 refine .start (λr hr=>?_) λr hr=>?_
 ·obtain⟨i,hi,rfl⟩:=cQ.mp hr
  exact(Gq.mem (cQ.mpr ⟨i,hi,rfl⟩) λj hj=>cV hj).Hi (z:=λj=>-eL n (λj=>A i j / m) j) (λj hj=>cV hj) λj=>by have:=e i j;grind
 ·obtain⟨i,hi,rfl⟩:=cQ.mp hr
  exact⟨_,cQ.mpr ⟨i,hi,rfl⟩,_,e i⟩
def IG (K:bG)(Pp:o?):Sp:=λvs H Q _=>∃(k n d p:Nat) (u:V) (A:Nat->Vc),vs=[u,.int (p:Int),.int (d:Int)]/\p∈PR/\Rep (del H Pp) Any u (mE k n A)/\1<=n/\n<=20/\1<=k/\k<=60/\1<=d/\d<=30/\fQ gC Pp H/\
 ∀(T:Nat->Vc) (s:Nat->Nat) r H',cD H Pp H'->fQ gC Pp H'->cU n T->(∀i,i<n->T i i=(p:Int) ^ s i/\s i<=d)->(∀i j,i<n->j<n->0<=T i j/\T i j<=(p:Int) ^ d/\(j≠i->T i j<(p:Int) ^ d))->(∀v,Gq (rowsOf k n A) ((p:Int) ^ d) n v↔iZ n T v)->Rep (del H' Pp) (dY H) r (mE n n T)->Q r H'
section
theorem xo {aD:o?}(B:iI mg)(jo:b_ P w K mg base 1 "number_power" ["k","n"] vL)(Fx:b_ P w K mg base 7 "lead_at" HY (A9 K aD))(Fy:b_ P w K mg base 1 "without" HW (L0 K))(F:Src K mg "triangular" iU Fc):b_ P w K mg base 8 "triangular" Fc (IG K aD):=by
 refine F.ok dO (λvs H Q E h=>?_) (λf cdv A outer s H vs Q E hr h=>?_)
 ·obtain⟨k,n,d,p,u,A,rfl,_⟩:=h;rfl
 obtain⟨k,n,d,p,u,A,rfl,hp,ru,hn1,hn,hk1,hk,hd1,hd,tq,qq⟩:=h;obtain⟨lA,us,rfl,JC,_,C⟩:=id ru.cf;have CK:=(cu JC).2;have pp:=cC hp;refine⟨_,ah (aB (i:=3) dO.nd rfl (Or.inr rfl) (aE jo hr (af (pv 1) (af (pv 2) ai))))
  (ah (jC (i:=4) dO.nd rfl (z? rfl) (aF (N:=["row","power"]) (sl:=[q?,j? 3]) (ao iU) U_ rfl rfl (by decide +kernel)) rfl (bF (K:=K) rfl (pv 0)) (λ_ _ _ _ _=>(aC (i:=0) (Yk_ ["row","power"]) rfl (z? rfl))) (λ_ _ _ _ _=>aP) (λ_ _ _ _ _=>(bM (aF (N:=["number","power"]) (sl:=[q?,j? 1]) _ ["row","power"] rfl rfl (by kernel_rfl)) rfl (bF (K:=K) rfl (pv 0)) (λ_ _ _ _ _=>(aC (i:=0) (Yk_ ["number","power"]) rfl (z? rfl))) (λ_ _ _ _ _=>aP) (λ_ _ _ _ _=>(au bw (pv 0) (pv 1))))))
  (ah (aB (i:=5) dO.nd rfl (z? rfl) (bD ai))
  (ah (cK D? rfl (yK rfl B.reversed (af (u9 rfl B.range (af (aM (aQ (K:=K) rfl) rfl B.len b8 (af (bI (aJ (K:=K) rfl) (pv 0) ak (λ_ _=>rfl)) ai)) ai)) ai)) (aC (i:=6) dO.nd rfl (z? rfl))
   (ah (aB (i:=7) dO.nd rfl (z? rfl) (aE Fx hr (af (pv 4) (af (pv 6) (af (pv 1) (af (pv 3) ai))))))
   (ah (aB (i:=4) dO.nd rfl (z? rfl) (aE Fy hr (af (pv 4) (af (pv 7) (af (pv 6) (af (pv 3) ai))))))
   (ay (fh (qu R? F! G! dU (pv 5) (af (pv 7) ai)))))))
  (ah (fh (BD R? PySem.F.slot_list_reverse PySem.F.type_list_reverse oM (pv 5) ))
  (ay (aK (pv 5))))))),?_⟩
 walk_at "rd"
 refine⟨p,d,rfl,by omega,by omega,?_⟩
 rw[Wt];have m0:(0:Int)<(p:Int) ^ d:=Wb (by omega)
 have L4:=ym hp hd;have Qn:∀vx i,us[i]?=j? vx->i<k/\∃lr,vx=.ref lr/\H lr=j? (.lst ((lv n (A i)).map V.int)):=λvx i e=>by
  obtain⟨hi,ri⟩:=C.get e;obtain⟨lr,rfl,hlr,_⟩:=dQ ri;exact⟨hi,lr,rfl,(cu hlr).2⟩
 refine⟨_,rfl,lA,rfl,⟨_,aN.of CK⟩,λD hD=>?_⟩
 refine lY (λi=>rE n λj=>A i j % (p:Int) ^ d) (n:=k) C.len CK hD (by omega) (λi vx H2 Q2 hi g2 jT q2=>?_) λH2 g2 rr=>?_
 ·obtain⟨_,lr,rfl,hlr⟩:=Qn vx i jT
  refine⟨_,rfl,lr,rfl,⟨_,aN.of (g2 _ _ hlr)⟩,λD2 w_=>?_⟩
  refine lY (λj=>.num (A i j % (p:Int) ^ d)) (n:=n) (by rw[Ya,bK]) (g2 _ _ hlr) w_ (by omega) (λj vx H3 Q3 hj g3 jT q3=>?_) λH3 g3 rr=>q2 _ H3 g3 rr
  obtain⟨y1,hy1,rfl⟩:=aU jT;rw[dM hj] at hy1;cases hy1;refine⟨_,rfl,_,rfl,_,_,rfl,rfl,(show(p:Int) ^ d≠0 by omega),?_⟩
  show Q3 (V.int ((A i j).fmod ((p:Int) ^ d))) H3
  rw[Y5 _ (by omega)]
  exact q3 _ H3 (aG.refl _) (.num _)
 refine⟨aV rfl,λtp htp=>?_⟩
 have k3:=aA htp (.lst []);have g3:=g2.trans k3;have fT:H tp=q?:=g2.free htp;obtain⟨ps,L6,_⟩:=id tq;have OA:tp≠aD:=λz=>by rw[z,L6] at fT;cases fT
 obtain⟨v0,hv0,_⟩:=C.at_ 0 (by omega)
 obtain⟨_,l0,rfl,Gj⟩:=Qn v0 0 hv0;have Iv:rF us 0=j? (.ref l0):=fH (j:=0) hv0;refine⟨_,rfl,lA,_,_,_,rfl,rfl,aN.of (g3 _ _ CK),Iv,l0,_,rfl,.inl (aN.of (g3 _ _ Gj)),?_⟩
 rw[Ya,bK];refine⟨_,rfl,λp3 n3=>⟨p3,_,rfl,av,by omega,by omega,?_⟩⟩
 have k4:=aA n3 (.rC 0 (n:Int));have g4:=g3.trans k4;rw[Yj];have RD:=k4 _ _ (show L2.upd H2 tp (.lst []) tp=j? (.lst []) from av)
 have VL:=k3.trans k4;generalize L2.upd (L2.upd H2 tp (.lst [])) p3 (.rC 0 (n:Int))=H4 at k4 g4 RD VL;refine u_ (λi σ H5=>cD H aD H5/\fQ gC aD H5/\∃(lf:V) (ys:List V) (A' T:Nat->Vc) (s:Nat->Nat) (o1 o2:Option V),σ=[Rq lA,Iq (p),Iq (d),j? (.int ((p:Int) ^ d)),j? lf,Rq tp,o1,o2]/\Rep (del H5 aD) (·≠tp) lf (mE (k+i) n A')/\
   (∀a j,a<k+i->j<n->0<=A' a j/\A' a j<(p:Int) ^ d)/\H5 tp=j? (.lst ys)/\Cf (del H5 aD) (λb=>H b=q?/\b≠tp) ys i (λt=>rE n (T (n-1-t)))/\Hj n (rowsOf k n A) ((p:Int) ^ d) (n-i) T (rowsOf (k+i) n A')/\(∀a,n-i<=a->a<n->T a a=(p:Int) ^ s a/\s a<=d)/\∀a j,n-i<=a->a<n->j<n->0<=T a j/\T a j<=(p:Int) ^ d/\(j≠a->T a j<(p:Int) ^ d))
  ⟨cD.of g4,tq.same g4,_,[],_,λ_ _=>0,λ_=>0,_,_,rfl,?_,λa j _ _=>⟨Zg _ (by omega),Zc _ m0⟩,RD,.nil,Fw,λa h1 h2=>by omega,λa j h1 h2=>by omega⟩ ?_ ?_
 ·exact rr.imp λb u h kb=>⟨by rw[jb (λz=>by rw[z] at kb;rw[show H aD=q? from kb] at L6;cases L6)];exact VL b u h,bh h htp⟩
 ·rintro i σ H5 hi ⟨n5,OB,lf,ys,A',T,s,o1,o2,rfl,Tw,rA,e5,Cy,tr,OC,hT⟩
  obtain⟨q,hq⟩:∃q,q+1+i=n:=⟨n-1-i,by omega⟩
  have hqn:q<n:=by omega
  have eq1:((n:Int)-1-(i:Int))=((q:Nat):Int):=by omega
  rw[show n-i=q+1 by omega] at tr OC hT
  rw[eq1];refine⟨_,rfl,_,rfl,_,rfl,_,rfl,k+i,n,q,d,p,lf,A',rfl,hp,Tw.any,hqn,hn,by omega,by omega,hd1,hd,rA,OB,λld r H6 n6 L7 OD NJ=>?_⟩
  have m6:∃o,H6 aD=j? o:=by obtain⟨ps,h,_⟩:=id L7;exact⟨_,h⟩
  have m5:∃o,H5 aD=j? o:=by obtain⟨ps,h,_⟩:=id OB;exact⟨_,h⟩
  obtain⟨o6,ho6⟩:=m6;obtain⟨o5,ZE⟩:=m5;obtain⟨sq,ZF,VM⟩:=OD.pw;have l0:0<ld q:=by rw[VM];exact Wb (by omega)
  have bl:∀j,j<n->Bd 8000 (ld j):=λj hj=>by
   have:=OD.rC j hj
   exact(Bd.le (y:=(p:Int) ^ d) (by omega) L4).mono (by decide)
  refine⟨_,rfl,_,rfl,_,rfl,_,rfl,k+i,n,q,lf,r,A',ld,(p:Int) ^ d,rfl,((Tw.same n6.del).any).same (eX _ _),NJ.any.same (eX _ _),hqn,by omega,by omega,m0,l0,L4.mono (by decide),λa j ha hj=>?_,bl,λr2 H7 g7 L8=>?_⟩
  ·have:=rA a j ha hj
   exact(Bd.le (y:=(p:Int) ^ d) (by omega) L4).mono (by decide)
  have e6:=n6 tp _ OA e5;have e7:=g7 _ _ e6;refine⟨_,rfl,.inl ⟨rfl,_,aN.of e7⟩,_,rfl,tp,_,_,rfl,rfl,e7,by rw[Cy.len,C?];omega,?_⟩
  have n7:cD H aD H7:=(n5.trans n6).trans (cD.of g7);have n8:=n7.aZ fT (.lst (ys++[r]));have up:∀b u,b≠aD->b≠tp->H7 b=j? u->del (L2.upd H7 tp (.lst (ys++[r]))) aD b=j? u:=λb u h1 h2 h3=>by rw[jb h1,aL h2];exact h3
  have Qo:fQ gC aD (L2.upd H7 tp (.lst (ys++[r]))):=by
   obtain⟨ps,h1,h2,h3⟩:=L7.same g7;refine⟨ps,by rw[aL (Ne.symm OA)];exact h1,h2,λpos=>(h3 pos).imp id λ⟨c,a,b⟩=>⟨c,a,?_⟩⟩
   rw[aL (λz=>by rw[z,e7] at b;cases b)];exact b
  refine⟨n8,Qo,r2,ys++[r],Bx (k+i) A' ld q ((p:Int) ^ d),λa=>if a=q then eL n ld else T a,λa=>if a=q then sq else s a,_,_,rfl,?_,λa j _ _=>?_,av,?_,?_,λa h1 h2=>?_,λa j h1 h2 hj=>?_⟩
  ·exact L8.imp λb u h kb=>⟨up b u (λz=>by rw[z] at kb;rw[show H6 aD=q? from kb] at ho6;cases ho6) (λz=>by rw[z] at kb;rw[show H6 tp=q? from kb] at e6;cases e6) h,λz=>by rw[z] at kb;rw[show H6 tp=q? from kb] at e6;cases e6⟩
  ·unfold Bx
   split
   ·exact⟨Zg _ (by omega),Zc _ m0⟩
   ·exact⟨Zg _ (by omega),Zc _ m0⟩
  ·refine Cf.push ((Cy.imp λb u h kb=>⟨up b u (cu h).1 kb.2 (g7 _ _ (n6 b u (cu h).1 (cu h).2)),kb⟩).congr λt ht=>?_) ?_
   ·show rE n (T (n-1-t))=rE n (if n-1-t=q then eL n ld else T (n-1-t))
    rw[W6 (by omega)]
   ·show Rep _ _ r (rE n (if n-1-i=q then eL n ld else T (n-1-i)))
    rw[W7 (by omega),vO (w:=ld) λj hj=>cA hj]
    refine NJ.imp λb u h kb=>⟨up b u (cu h).1 (λz=>?_) (g7 _ _ (cu h).2),n5.fresh ⟨o5,ZE⟩ kb,λz=>?_⟩
    ·rw[z] at kb;rw[show H5 tp=q? from kb] at e5;cases e5
    ·rw[z] at kb;rw[show H5 tp=q? from kb] at e5;cases e5
  ·rw[show n-(i+1)=q by omega]
   exact IF (by omega) hqn tr OD
  ·by_cases c:a=q
   ·subst c
    refine⟨?_,by show(if a=a then sq else s a)<=d;rw[W7 rfl];exact ZF⟩
    show(if a=a then eL n ld else T a) a=(p:Int) ^ (if a=a then sq else s a)
    rw[W7 rfl,W7 rfl,cA h2];exact VM
   ·have:=OC a (by omega) h2
    refine⟨?_,by show(if a=q then sq else s a)<=d;rw[W6 c];exact this.2⟩
    show(if a=q then eL n ld else T a) a=(p:Int) ^ (if a=q then sq else s a)
    rw[W6 c,W6 c];exact this.1
  ·show 0<=(if a=q then eL n ld else T a) j/\(if a=q then eL n ld else T a) j<=_/\(j≠a->(if a=q then eL n ld else T a) j<_)
   by_cases c:a=q
   ·rw[W7 c,cA hj]
    refine⟨(OD.rC j hj).1,(OD.rC j hj).2,λZG=>?_⟩
    rcases OD.src with ⟨_,_,b,e⟩|e
    ·rw[e j hj];exact Zc _ m0
    ·rw[e j hj,W6 (λz=>ZG (z.trans c.symm))];exact m0
   ·rw[W6 c];exact hT a j (by omega) h2 hj
 ·rintro σ H5 ⟨n5,OB,lf,ys,A',T,s,o1,o2,rfl,Tw,rA,e5,Cy,tr,OC,hT⟩
  rw[Nat.sub_self] at tr OC hT;refine⟨_,rfl,.inl ⟨rfl,_,aN.of e5⟩,tp,_,rfl,rfl,e5,⟨_,rfl,?_⟩⟩
  have n6:=n5.aZ fT (.lst ys.reverse);have L7:fQ gC aD (L2.upd H5 tp (.lst ys.reverse)):=by
   obtain⟨ps,h1,h2,h3⟩:=OB;refine⟨ps,by rw[aL (Ne.symm OA)];exact h1,h2,λpos=>(h3 pos).imp id λ⟨c,a,b⟩=>⟨c,a,?_⟩⟩
   rw[aL (λz=>by rw[z,e5] at b;cases b)];exact b
  refine qq T s _ _ n6 L7 ⟨λa ha j hj=>tr.lX a (by omega) ha j hj,λa ha=>?_⟩ (λa ha=>OC a (by omega) ha) (λa j ha hj=>hT a j (by omega) ha hj) (λv=>tr.done) ?_
  ·rw[(OC a (by omega) ha).1]
   exact Int.ne_of_gt (Wb (by omega))
  ·have c1:Cf (del (L2.upd H5 tp (.lst ys.reverse)) aD) (dY H) ys.reverse n λi=>rE n (T i):=by
    refine Cf.congr (Cf.rev (Cy.imp λb u h kb=>⟨by rw[jb (cu h).1,aL kb.2];exact(cu h).2,kb.1⟩)) λa ha=>?_
    show rE n (T (n-1-(n-1-a)))=_
    rw[show n-1-(n-1-a)=a by omega]
   exact c1.rep (by rw[jb OA];exact av) fT
end
section
variable {R:Type} [Lean.Grind.CommRing R]
theorem L_ {k:Nat}{x:Vc}{A:Nat->Vc}{j:Nat}:zc R (sm k x A j)=sm k (λi=>zc R (x i)) (λi j=>zc R (A i j)) j:=by
 induction k with
 | zero=>exact zd
 | succ k ih=>
  show zc R (sm k x A j+x k*A k j)=sm k _ _ j+zc R (x k)*zc R (A k j)
  rw[oW,gG,ih]
end
theorem NO {p:Nat}(hp:p∈PR){x:Int}:zc (ground p hp).α x=0↔(p:Int) ∣ x:=by
 have hz:zc (ground p hp).α (p:Int)=0:=by rw[cE];exact(ground p hp).ch
 constructor
 ·intro h
  refine V? λnd=>?_
  obtain⟨u,v,e⟩:=zE hp nd 1;have e2:zc (ground p hp).α (u*x+v*(p:Int) ^ 1)=1:=by rw[e,gi]
  rw[Y6,Zd,Zn,oW,gG,gG,h,hz] at e2;refine(ground p hp).fld.1 ?_
  rw[<- e2];grind
 ·rintro⟨c,rfl⟩
  rw[gG,hz];grind
theorem II {p:Nat}(hp:p∈PR){m:Nat}{l:List Int}(h:Rw p m l)(j:Nat):zr hp l j=zc (ground p hp).α (l.getD j 0):=by
 have:=(h.get j).1
 show nt (ground p hp).α (l.getD j 0).toNat=_
 rw[<- cE,Z7 this]
theorem Qp {p:Nat}(hp:p∈PR)(a:(ground p hp).α):∃k:Int,zc (ground p hp).α k=a:=⟨(zv (T:=ground p hp) a:Int),by rw[cE];exact PL (T:=ground p hp) a⟩
def m7 (W:Nat)(l:List Int):Vc:=λi=>l.getD (W+i) 0
theorem A_ {p:Nat}(hp:p∈PR){W k:Nat}{A:Nat->Vc}(rC:∀i j,i<k->j<W->0<=A i j/\A i j<(p:Int)){S:List (List Int)}(hS:∀l∈S,Rw p (W+k) l)(hK:Bw W k (λr j=>zr hp (((Yk k).map λi=>lv W (A i)).getD r []) j) W (S.map (zr hp))):
  (∀l∈S,∀j,j<W->(p:Int) ∣ sm k (m7 W l) A j)/\∀x:Vc,(∀j,j<W->(p:Int) ∣ sm k x A j)->∃v z:Vc,gB (S.map (m7 W)) v/\∀i,i<k->x i=v i+(p:Int)*z i:=by
 have er:∀i j,i<k->j<W->zr hp (((Yk k).map λi=>lv W (A i)).getD i []) j=zc (ground p hp).α (A i j):=λi j hi hj=>by
  have e1:((Yk k).map λi=>lv W (A i)).getD i []=lv W (A i):=by rw[Yb,Ye,Y0 hi];rfl
  have h:Rw p W (lv W (A i)):=⟨bK _ _,λx hx=>by
   unfold lv at hx;obtain⟨j,hj,rfl⟩:=List.mem_map.mp hx;exact rC i j hi (List.mem_range.mp hj)⟩
  rw[e1,II hp h,Yb,dM hj];rfl
 obtain⟨d1,d2⟩:=hK.done;refine⟨λl hl j hj=>?_,λx hx=>?_⟩
 ·have:=d1 _ (List.mem_map.mpr ⟨l,hl,rfl⟩) j hj
  rw[cO (d':=λi=>zc (ground p hp).α (m7 W l i)) (R':=λi j=>zc (ground p hp).α (A i j)) (λi _=>II hp (hS l hl) (W+i)) (λi hi=>er i j hi hj),<- L_] at this
  exact(NO hp).mp this
 ·obtain⟨v,hv,ev⟩:=d2 (λi=>zc (ground p hp).α (x i)) λj hj=>by
   rw[cO (d':=λi=>zc (ground p hp).α (x i)) (R':=λi j=>zc (ground p hp).α (A i j)) (λi _=>rfl) (λi hi=>er i j hi hj),<- L_]
   exact(NO hp).mpr (hx j hj)
  have lift:∀ {v:Nat->(ground p hp).α},gB (S.map (zr hp)) v->∃u:Vc,gB (S.map (m7 W)) u/\∀i,v (W+i)=zc (ground p hp).α (u i):=by
   intro v hv;induction hv with
   | zero=>exact⟨_,.zero,λi=>zd.symm⟩
   | @add r v a hr _ ih=>
    obtain⟨l,hl,rfl⟩:=List.mem_map.mp hr;obtain⟨u,hu,eu⟩:=ih;obtain⟨k',rfl⟩:=Qp hp a;refine⟨_,.add k' (List.mem_map.mpr ⟨l,hl,rfl⟩) hu,λi=>?_⟩
    show zc _ k'*zr hp l (W+i)+v (W+i)=zc _ (k'*m7 W l i+u i)
    rw[oW,gG,eu i,II hp (hS l hl)];rfl
  obtain⟨u,hu,eu⟩:=lift hv;have hz:∀i,∃z:Int,i<k->x i=u i+(p:Int)*z:=λi=>by
   by_cases c:i<k
   ·have e:zc (ground p hp).α (x i+-u i)=0:=by rw[oW,mO,<- ev i c,<- eu i];grind
    obtain⟨z,hz⟩:=(NO hp).mp e;exact⟨z,λ_=>by omega⟩
   ·exact⟨0,λh=>Jd h c⟩
  obtain⟨z,hz⟩:=Classical.axiomOfChoice hz;exact⟨u,z,hu,hz⟩
theorem cU.bnd {n b e:Nat}{T:Nat->Vc}(hT:cU n T)(bT:∀i j,i<n->j<n->Bd e (T i j)){c:Vc}(hb:∀j,j<n->Bd b (sm n c T j)):∀i,i<n->Bd (b+(e+1)*n) (c i):=by
 have key:∀m k,k+m=n->(∀j,j<n->Bd (b+(e+1)*m) (sm k c T j))/\∀i,k<=i->i<n->Bd (b+(e+1)*n) (c i):=by
  intro m;induction m with
  | zero=>
   intro k hk;obtain rfl:k=n:=by omega
   exact⟨λj hj=>(hb j hj).mono (by omega),λi h1 h2=>by omega⟩
  | succ m ih=>
   intro k hk;obtain⟨h1,h2⟩:=ih (k+1) (by omega)
   have e1:=h1 k (by omega)
   rw[hT.at_ c (by omega)] at e1
   have ck:Bd (b+(e+1)*m) (c k):=by
    refine Bd.le ?_ e1
    rw[Ze];exact Nat.le_mul_of_pos_right _ (by have:=hT.nz k (by omega);omega)
   refine⟨λj hj=>?_,λi hi hn=>?_⟩
   ·have e2:sm k c T j=sm (k+1) c T j-c k*T k j:=by show _=sm k c T j+c k*T k j-c k*T k j;omega
    rw[e2];refine((h1 j hj).sub (ck.mul (bT k j (by omega) hj))).mono ?_
    rw[Wp];omega
   ·by_cases c1:i=k
    ·rw[c1]
     refine ck.mono ?_
     have:(e+1)*m<=(e+1)*n:=Za _ (by omega)
     omega
    ·exact h2 i (by omega) hn
 exact λi hi=>(key n 0 (by omega)).2 i (Yw _) hi
theorem IJ {f:Fn}{n a:Nat}(hf:∀j,Bd a (f j)):∀k j,Bd (1+k*(a+1)) (tk f n k j)
 | 0,j=>by
  show Bd _ (if j=0 then 1 else 0)
  split
  ·show Zz 1<2 ^ _;rw[Nat.zero_mul];decide
  ·show Zz 0<2 ^ _;rw[Nat.zero_mul];decide
 | k+1,j=>by
  show Bd _ ((if j=0 then 0 else tk f n k (j-1))-tk f n k (n-1)*f j)
  have h1:Bd (1+k*(a+1)) (if j=0 then 0 else tk f n k (j-1)):=by
   split
   ·exact Z5 (by decide)
   ·exact IJ hf k (j-1)
  refine(h1.sub ((IJ hf k (n-1)).mul (hf j))).mono ?_
  rw[Wa];omega
theorem NP {f:Fn}{n a b:Nat}{u v:Vc}(hn:n<=6)(hf:∀j,Bd a (f j))(hu:∀j,j<n->Bd b (u j))(hv:∀j,j<n->Bd b (v j))(k:Nat):Bd (b+(b+(1+10*(a+1))+3)+3) (D9 f n u v k):=by
 unfold D9;refine Ea (k:=3) (by omega) hu λi hi=>Ea (k:=3) (by omega) hv λj hj=>(IJ hf (i+j) k).mono ?_
 have:(i+j)*(a+1)<=10*(a+1):=Yr _ (by omega)
 omega
section
variable {R:Type} [Lean.Grind.CommRing R] {n p:Nat} {el:Vc->R} {c:Nat->Nat->Vc}
theorem NQ (Ba:nK n el)(h:c8 (Of el))(hc:∀i j,i<n->j<n->el (un i)*el (un j)=el (c i j))(x y:Vc):Cp (Of el) (nt R p) (el (JD n c (p:Int) x y)) (el x*el y):=by
 refine Cp.symm h ⟨el λk=>sm n x (λi k=>sm n y (c i) k) k / (p:Int),⟨_,rfl⟩,?_⟩
 rw[Ba.mul hc,<- cE];have:=Ba.iR (p:Int) (λk=>sm n x (λi k=>sm n y (c i) k) k / (p:Int)) (JD n c (p:Int) x y)
 rw[show(λj=>(p:Int)*(sm n x (λi k=>sm n y (c i) k) j / (p:Int))+JD n c (p:Int) x y j)=λk=>sm n x (λi k=>sm n y (c i) k) k from funext λj=>by
  have:=Zr (sm n x (λi k=>sm n y (c i) k) j) (p:Int)
  unfold JD;omega] at this
 rw[this];grind
theorem IK (Ba:nK n el)(h:c8 (Of el))(hc:∀i j,i<n->j<n->el (un i)*el (un j)=el (c i j))(x:Vc):∀m,Cp (Of el) (nt R p) (el (K1 n c (p:Int) x m)) (el x ^ (m+1))
 | 0=>by
  have:el x ^ (0+1)=el x:=by rw[bH,bO];grind
  rw[this];exact .refl h _
 | m+1=>by
  refine(NQ Ba h hc _ x).trans h ?_
  rw[bH (el x) (m+1)];exact .mul h (h.pow ⟨_,rfl⟩ _) ⟨_,rfl⟩ (IK Ba h hc x m) (.refl h _)
theorem IL (hp:p∈PR)(Ba:nK n el)(h:c8 (Of el))(hc:∀i j,i<n->j<n->el (un i)*el (un j)=el (c i j))(i:Nat):∀k,Cp (Of el) (nt R p) (el (Fq n c p k i)) (el (un i) ^ (p ^ k))
 | 0=>by
  have:el (un i) ^ (p ^ 0)=el (un i):=by rw[Nat.pow_zero,show(1:Nat)=0+1 from rfl,bH,bO];grind
  rw[this];exact .refl h _
 | k+1=>by
  have pp:=cC hp;refine(IK Ba h hc (Fq n c p k i) (p-1)).trans h ?_
  rw[show p-1+1=p by omega,Zq,BX]
  exact(IL hp Ba h hc i k).pow h ⟨_,rfl⟩ (h.pow ⟨_,rfl⟩ _) p
end
theorem Qq (n:Nat)(v:Vc):rE n v=eN (lv n v):=by
 unfold rE ki eN lv;rw[W3];rfl
theorem zG (r c:Nat)(A:Nat->Vc):mE r c A=.vec (((Yk r).map λi=>lv c (A i)).map eN):=by
 unfold mE ki;rw[W3];congr 1
 exact Wq λi _=>Qq c (A i)
theorem Ed {p W k:Nat}{S:List (List Int)}(hS:∀l∈S,Rw p (W+k) l):El.vec (S.map λl=>eN (l.drop W))=mE S.length k λt=>m7 W (S.getD t []):=by
 rw[zG];congr 1
 refine Zv λt=>?_
 rw[Ye,Ye,Ye];by_cases ht:t<S.length
 ·rw[Y0 ht,Yc ht]
  show j? (eN (S[t].drop W))=j? (eN (lv k (m7 W (S.getD t []))))
  have e:S.getD t []=S[t]:=by rw[Yb,Yc ht];rfl
  have hl:=(hS _ (Yy ht)).1;rw[e];congr 2
  refine Zv λi=>?_
  by_cases hi:i<k
  ·rw[dM hi,List.getElem?_drop]
   show _=j? (S[t].getD (W+i) 0)
   rw[Yb,Yc (by omega)];rfl
  ·rw[List.getElem?_eq_none_iff.mpr (by rw[Y7];omega),List.getElem?_eq_none_iff.mpr (by rw[bK];omega)]
 ·rw[List.getElem?_eq_none_iff.mpr (by omega),List.getElem?_eq_none_iff.mpr (by rw[Yf];omega)];rfl
theorem Bb {p W k:Nat}{S:List (List Int)}(hS:∀l∈S,Rw p (W+k) l):rowsOf S.length k (λt=>m7 W (S.getD t []))=S.map (m7 W):=by
 refine Zv λt=>?_
 unfold rowsOf;rw[Ye,Ye];by_cases ht:t<S.length
 ·rw[Y0 ht,Yc ht]
  show j? (eL k (m7 W (S.getD t [])))=j? (m7 W S[t])
  have e:S.getD t []=S[t]:=by rw[Yb,Yc ht];rfl
  have hl:=(hS _ (Yy ht)).1;rw[e];congr 1
  funext i
  by_cases hi:i<k
  ·exact cA hi
  ·rw[cV (by omega)]
   show 0=S[t].getD (W+i) 0
   rw[Yb,List.getElem?_eq_none_iff.mpr (by omega)];rfl
 ·rw[List.getElem?_eq_none_iff.mpr (by rw[Yf];omega),List.getElem?_eq_none_iff.mpr (by omega)];rfl
theorem K4 {p W k:Nat}{S:List (List Int)}(hS:∀l∈S,Rw p (W+k) l){t i:Nat}(ht:t<S.length)(hi:i<k):0<=m7 W (S.getD t []) i/\m7 W (S.getD t []) i<(p:Int):=by
 have e:S.getD t []=S[t]:=by rw[Yb,Yc ht];rfl
 have hl:=hS _ (Yy ht);rw[e];have hg:S[t][W+i]?=j? (S[t].getD (W+i) 0):=by rw[Yb,Yc (by rw[hl.1];omega)];rfl
 exact hl.2 _ (Yt hg)
theorem NR {p:Int}{n:Nat}{x:Vc}{A B:Nat->Vc}{j:Nat}(h:∀i,i<n->p ∣ A i j-B i j):p ∣ sm n x A j-sm n x B j:=by
 induction n with
 | zero=>exact⟨0,by show(0:Int)-0=p*0;omega⟩
 | succ n ih=>
  obtain⟨a,ha⟩:=ih λi hi=>h i (by omega)
  obtain⟨b,hb⟩:=h n (by omega)
  refine⟨a+x n*b,?_⟩
  show sm n x A j+x n*A n j-(sm n x B j+x n*B n j)=_
  grind
section
variable {R:Type} [Lean.Grind.CommRing R]
structure IM (n p:Nat)(el:Vc->R)(ip:R)(c:Nat->Nat->Vc):Prop where
 t_:nK n el
 sub:c8 (Of el)
 mul:∀i j,i<n->j<n->el (un i)*el (un j)=el (c i j)
 inv:nt R p*ip=1
structure MulOk (n p:Nat)(el:Vc->R)(ip:R)(d m:Nat)(N:Nat->Vc):Prop where
 le:m<=50
 rC:∀t i,t<m->i<n->0<=N t i/\N t i<(p:Int)
 nz:∀t,t<m->∃i,i<n/\N t i≠0
 mlt:∀t,t<m->AL (Of el) (nt R p) (p ^ d) (ip*el (N t))
 all:∀x,AL (Of el) (nt R p) (p ^ d) (ip*el x)->∃v z:Vc,gB (rowsOf m n N) v/\∀i,i<n->x i=v i+(p:Int)*z i
 ge:n<=p ^ d
variable {n p d:Nat} {el:Vc->R} {ip:R} {c:Nat->Nat->Vc}
theorem IP (hp:p∈PR)(G:IM n p el ip c){told:Nat->Vc}(ht:∀i,i<n->Cp (Of el) (nt R p) (el (told i)) (el (un i) ^ (p ^ d))){m0:Nat}{N:Nat->Vc}(k1:∀t,t<m0->∀j,j<n->(p:Int) ∣ sm n (N t) told j)
  (k2:∀x:Vc,(∀j,j<n->(p:Int) ∣ sm n x told j)->∃v z:Vc,gB (rowsOf m0 n N) v/\∀i,i<n->x i=v i+(p:Int)*z i) {x:Vc} (x0:∀j,n<=j->x j=0):Gq (rowsOf m0 n N) ((p:Int) ^ 1) n x↔lZ (Of el) (nt R p) (p ^ d) (el x):=by
 have e1:(p:Int) ^ 1=(p:Int):=by rw[Y6,Zd,Zn]
 have hq:1<=p ^ d:=Z5 (oX hp);rw[e1];constructor
 ·rintro⟨_,u,z,hu,e⟩
  have iu:lZ (Of el) (nt R p) (p ^ d) (el u):=by
   clear e;induction hu with
   | zero=>rw[G.t_.zero];exact .zero G.sub hq
   | @add r v a hr _ ih=>
    obtain⟨t,ht',rfl⟩:=cQ.mp hr;rw[G.t_.iR];refine lZ.add G.sub hp (lZ.mul G.sub ?_ (G.sub.zc a)) ih
    rw[G.t_.sup _ (N t) λj hj=>cA hj]
    exact(G.t_.idl G.sub hp ht _).mpr (k1 t ht')
  have e2:el x=zc R (p:Int)*el z+el u:=by
   rw[<- G.t_.iR];exact G.t_.sup _ _ λj _=>by rw[e j];omega
  rw[e2,cE];exact(lZ.own G.sub hq (G.sub.nt p) ⟨z,rfl⟩).add G.sub hp iu
 ·intro h
  obtain⟨v,z,hv,e⟩:=k2 x ((G.t_.idl G.sub hp ht x).mp h);have v0:∀j,n<=j->v j=0:=λj hj=>hv.B5 λr hr=>by
   obtain⟨t,_,rfl⟩:=cQ.mp hr;exact cV hj
  exact⟨x0,v,eL n z,hv,λj=>by
   by_cases cj:j<n
   ·rw[cA cj];exact e j cj
   ·rw[cV (by omega),x0 j (by omega),v0 j (by omega)];omega⟩
theorem IQ (hp:p∈PR)(G:IM n p el ip c)(hge:n<=p ^ d){told:Nat->Vc}(ht:∀i,i<n->Cp (Of el) (nt R p) (el (told i)) (el (un i) ^ (p ^ d)))(k2:∀x:Vc,(∀j,j<n->(p:Int) ∣ sm n x told j)->∃z:Vc,∀i,i<n->x i=(p:Int)*z i)(N:Nat->Vc):MulOk n p el ip d 0 N:=by
 refine⟨by decide,λt i h=>by omega,λt h=>by omega,λt h=>by omega,λx hx=>?_,hge⟩
 have h1:=hx.2 _ (lZ.own G.sub (Z5 (oX hp)) (G.sub.nt p) G.sub.one);have inv:=G.inv;rw[show ip*el x*(nt R p*1)=el x by grind] at h1
 obtain⟨z,hz⟩:=k2 x ((G.t_.idl G.sub hp ht x).mp h1);exact⟨_,z,.zero,λi hi=>by rw[hz i hi];omega⟩
end
theorem Ma {r c:Nat}{A:Nat->Vc}(h:r<=100)(k:c<=100):EV 2 (mE r c A):=.vec (by rw[Ya,Yf];exact h) λe he=>by
 obtain⟨i,_,rfl⟩:=List.mem_map.mp he;exact L3 k
theorem NS {n j:Nat}{u v:Vc}(h:∀k,k<n->u (n*j+k)=v k):lv (n*j) u++lv n v=lv (n*(j+1)) u:=by
 refine Zv λq=>?_
 have e:n*(j+1)=n*j+n:=Wp n j;by_cases c1:q<n*j
 ·rw[Y9 (by rw[bK];exact c1),dM c1,dM (by omega)]
 ·rw[Zb (by rw[bK];omega),bK]
  by_cases c2:q<n*j+n
  ·rw[dM (by omega),dM (by omega),<- h (q-n*j) (by omega),show n*j+(q-n*j)=q by omega]
  ·rw[List.getElem?_eq_none_iff.mpr (by rw[bK];omega),List.getElem?_eq_none_iff.mpr (by rw[bK];omega)]
def IS (K:bG)(Pp:o?):Sp:=λvs H Q _=>∃(n p:Nat) (R:Type) (_:Lean.Grind.CommRing R) (el:Vc->R) (ip:R) (c:Nat->Nat->Vc) (t:V),vs=[t,.int (p:Int)]/\p∈PR/\Rep (del H Pp) Any t (tE n n n c)/\1<=n/\n<=6/\(∀i j k,i<n->j<n->k<n->Bd 60000 (c i j k))/\IM n p el ip c/\fQ gC Pp H/\
 ∀(d m:Nat) (N:Nat->Vc) r H',cD H Pp H'->fQ gC Pp H'->MulOk n p el ip d m N->Rep (del H' Pp) (dY H) r (mE m n N)->Q r H'
section
theorem wk {aD:o?}(B:iI mg)(IT:b_ P w K mg base 4 "raised" wZ (A8 K))(Bc:b_ P w K mg base 2 "kernel" ["rows","p"] A2)(lE:b_ P w K mg base 8 "triangular" Fc (IG K aD))(jU:b_ P w K mg base 1 "coordinates" Fe (wg K))(kB:b_ P w K mg base 1 "summed" zo (qZ K))(F:Src K mg "multipliers" ia wZ):b_ P w K mg base 9 "multipliers" wZ (IS K aD):=by
 refine F.ok cP (λvs H Q E h=>?_) (λf cdv A outer s H vs Q E hr h=>?_)
 ·obtain⟨n,p,R,_,el,ip,c,t,rfl,_⟩:=h;rfl
 obtain⟨n,p,R,_,el,ip,c,t,rfl,hp,rt,hn1,hn,bc,G,tq,qq⟩:=h;have pp:=cC hp;obtain⟨lt,us,rfl,hlt,_,C⟩:=id rt.cf;have hlt':=(cu hlt).2;refine⟨_,ah (aB (i:=2) cP.nd rfl (z? rfl) (aE Bc hr (af (aE IT hr (af (pv 0) (af (pv 1) ai))) (af (pv 1) ai))))
  (ah (dS (aR (qx (K:=K) rfl hr.units) (pv 2) (bD ai) (aY _))
   (ay (aK (bD ai)))
   (bY))
  (ah (aB (i:=3) cP.nd rfl (z? rfl) (aE lE hr (af (pv 2) (af (pv 1) (af ak ai)))))
  (ah (aB (i:=4) cP.nd rfl (z? rfl) (bD ai))
  (ah (cK D? rfl (bF (K:=K) rfl (pv 0)) (aC (i:=5) cP.nd rfl (z? rfl))
   (ah (aB (i:=6) cP.nd rfl (z? rfl) (bD ai))
   (ah (cK D? rfl (bF (K:=K) rfl (pv 3)) (aC (i:=7) cP.nd rfl (z? rfl))
    (ay (aB (i:=6) cP.nd rfl (z? rfl) (au iE (pv 6) (bM (aF (N:=Ff) (sl:=[q?,j? 1]) (ao ia) Ve rfl rfl (by decide +kernel)) rfl (bF (K:=K) rfl (aE jU hr (af (pv 3) (af (aE kB hr (af (pv 7) (af (pv 5) ai))) ai)))) (λ_ _ _ _ _=>(aC (i:=0) (Yk_ Ff) rfl (z? rfl))) (λ_ _ _ _ _=>aP) (λ_ _ _ _ _=>(au bw (pv 0) (pv 1))))))))
   (ay (fh (qu R? F! G! dU (pv 4) (af (pv 6) ai)))))))
  (ay (aK (aE Bc hr (af (pv 4) (af (pv 1) ai))))))))),?_⟩
 walk_at "rd"
 have ZH:Rep H Any (.ref lt) (tE n n n c):=rt.same (eX _ _);refine⟨n,p,.ref lt,c,rfl,ZH,hn1,by omega,by omega,by omega,λi j k hi hj hk=>(bc i j k hi hj hk).mono (by decide),λk1 r1 H1 hge g1 ZI=>?_⟩
 have lR:((Yk n).map λi=>lv n (Fq n c p k1 i)).length=n:=by rw[Ya,Yf]
 refine⟨_,rfl,p,hp,n,r1,(Yk n).map λi=>lv n (Fq n c p k1 i),rfl,by rw[<- zG];exact ZI.any,by rw[lR];exact hn1,by rw[lR];omega,by omega,λa ha=>?_,λS r2 H2 g2 hS lS ZJ kS VN=>?_⟩
 ·obtain⟨i,_,rfl⟩:=List.mem_map.mp ha
  refine⟨bK _ _,λx hx=>?_⟩
  obtain⟨j,_,rfl⟩:=List.mem_map.mp hx;exact uM (by omega) k1
 rw[lR] at hS ZJ kS;obtain⟨ZK,Tz⟩:=A_ hp (W:=n) (k:=n) (A:=Fq n c p k1) (λi j _ _=>uM (by omega) k1) hS kS
 rw[Ed hS] at VN;rw[<- Bb hS] at Tz;have ht:=λi (_:i<n)=>IL hp G.t_ G.sub G.mul i k1
 have TF:∀t,t<S.length->∀j,j<n->(p:Int) ∣ sm n (m7 n (S.getD t [])) (Fq n c p k1) j:=λt ht'=>ZK _ (by rw[Yb,Yc ht'];exact Yy ht')
 have ZL:=λ{x:Vc} x0=>IP hp G ht TF Tz (x:=x) x0
 have ZM:=g1.trans g2;refine⟨_,rfl,aV rfl,λpe KU=>?_⟩
 have k3:=aA KU (.lst []);have L5:(L2.upd H2 pe (.lst [])) pe=j? (.lst []):=av;have LZ:=ZM.trans k3;generalize L2.upd H2 pe (.lst [])=H3 at k3 L5 LZ;have Oz:=VN.same k3;have ZN:=tq.same g1;have ID:=tq.same LZ;obtain⟨ps1,ZO,_⟩:=id ZN;obtain⟨ps3,VO,_⟩:=id ID;have IE:Rep H3 Any (.ref pe) (.vec []):=.vec L5 trivial rfl λi v e h=>by simp at h
 refine LI Oz IE (Ma (by omega) (by omega)) (.vec (n:=1) (by decide) λe he=>by simp at he) (by decide) (by decide) (λe=>?_) (λe=>?_)
 ·have s0:S.length=0:=by
   unfold mE ki at e;injection e with e
   have:=Jb Wy e
   rw[Ya,Yf] at this;exact this
  refine⟨_,rfl,j8 ⟨aV rfl,λp4 n4=>?_⟩⟩
  have k4:=aA n4 (.lst []);refine qq k1 0 (λ_ _=>0) _ _ (cD.of (LZ.trans k4)) (ID.same k4) (IQ hp G hge ht (λx hx=>?_) _) ?_
  ·obtain⟨v,z,hv,ev⟩:=Tz x hx
   rw[s0] at hv;have v0:∀j,v j=0:=λj=>hv.B5 λr hr=>by
    obtain⟨t,ht,_⟩:=cQ.mp hr;omega
   exact⟨z,λi hi=>by rw[ev i hi,v0 i];omega⟩
  ·exact Rep.zF (H1:=H3) (.vec av (show H3 p4=q? from n4) rfl λi v e h=>by simp at h) VO λb hb=>LZ.free hb
 ·have s1:1<=S.length:=by
   rcases Nat.eq_zero_or_pos S.length with y|y
   ·exact Jd (by unfold mE ki;rw[y];rfl) e
   ·exact y
  refine⟨_,rfl,j7 ?_⟩
  refine⟨_,rfl,_,rfl,S.length,n,1,p,r2,λt=>m7 n (S.getD t []),rfl,hp,Rep.any (Rep.zF (H0:=H1) Oz ZO λb hb=>hb),hn1,by omega,s1,by omega,Yd 1,by decide,ID,λVm sV r4 H4 n4 NN RK pwV rV ZP NL=>?_⟩
  obtain⟨ZQ,hP4,_⟩:=id NN;have RL:cD H aD H4:=(cD.of LZ).trans n4;have TH:Rep H4 Any (.ref lt) (tE n n n c):=(rt.same RL.del).same (eX _ _);have VP:Rep H4 Any r4 (mE n n Vm):=NL.any.same (eX _ _);clear TH C hlt hlt';have TH:Rep H4 Any (.ref lt) (tE n n n c):=(rt.same RL.del).same (eX _ _);obtain⟨lt',us,elt,hlt,_,C⟩:=id TH.cf;cases elt;obtain⟨la,ZR,rfl,hla,_,CI⟩:=id VP.cf;have p1:(p:Int) ^ 1=(p:Int):=by rw[Y6,Zd,Zn]
  have bV:∀i j,i<n->j<n->Bd 6 (Vm i j):=λi j hi hj=>by
   have:=rV i j hi hj
   rw[p1] at this;show Zz _<2 ^ 6
   omega
  have hI:∀x:Vc,(∀j,n<=j->x j=0)->(iZ n Vm x↔lZ (Of el) (nt R p) (p ^ k1) (el x)):=λx x0=>(ZP x).symm.trans (ZL x0)
  have htx:∀i,∃ti:Nat->Vc,∀j,i<n->j<n->∀k,eL n (λk=>sm n (Vm j) (c i) k) k=sm n (ti j) Vm k:=λi=>by
   refine Classical.axiomOfChoice (r:=λj (t:Vc)=>i<n->j<n->∀k,eL n (λk=>sm n (Vm j) (c i) k) k=sm n t Vm k) λj=>?_
   by_cases hi:i<n
   ·by_cases hj:j<n
    ·have h1:=(hI (Vm j) λk hk=>RK.lX j hj k (by omega)).mp (.row hj)
     have h2:=h1.mul G.sub (G.t_.Hu i);rw[G.t_.B_ G.mul hi,G.t_.sup (λk=>sm n (Vm j) (c i) k) (eL n λk=>sm n (Vm j) (c i) k) λk hk=>(cA hk).symm] at h2
     obtain⟨t,ht⟩:=(hI _ λk hk=>cV hk).mpr h2
     exact⟨t,λ_ _=>ht⟩
    ·exact⟨λ_=>0,λ_ h=>Jd h hj⟩
   ·exact⟨λ_=>0,λh=>Jd h hi⟩
  obtain⟨tt,ZS⟩:=Classical.axiomOfChoice htx;have NT:∀i j,i<n->j<n->∀k,k<n->sm n (Vm j) (c i) k=sm n (tt i j) Vm k:=λi j hi hj k hk=>by rw[<- ZS i j hi hj k,cA hk]
  have ZT:∀i j,i<n->j<n->∀k,k<n->Bd 100000 (tt i j k):=λi j hi hj k hk=>by
   refine(cU.bnd (b:=60009) RK bV (λq hq=>?_) k hk).mono ?_
   ·rw[<- NT i j hi hj q hq]
    exact(Ea (k:=3) (by omega) (λa ha=>bV j a hj ha) λa ha=>bc i a q hi ha hq).mono (by decide)
   ·have:7*n<=7*6:=Za _ hn
    omega
  have mlt:=λx=>G.t_.mlt G.sub hp G.mul RK hI NT G.inv x
  refine⟨aV rfl,λrp TJ=>?_⟩
  have k5:=aA TJ (.lst []);have VQ:(L2.upd H4 rp (.lst [])) rp=j? (.lst []):=av;generalize L2.upd H4 rp (.lst [])=H5 at k5 VQ;have nn:n*n<=6*6:=Zf hn hn;refine⟨_,rfl,lt,rfl,⟨_,aN.of (k5 _ _ hlt)⟩,j6 (xs:=us) (λi σ H6=>aG H4 H6/\∃(ys:List V) (o1 o2 o3:Option V),σ=[Rq lt,Iq (p),j? r2,Rq la,Rq rp,o1,o2,o3]/\H6 rp=j? (.lst ys)/\Cf H6 (Off H4 rp) ys i λi=>rE (n*n) λq=>tt i (q / n) (q % n) % (p:Int))
   ⟨k5,[],_,_,_,rfl,VQ,.nil⟩ (λi σ H6 _ h=>aN.of (h.1 _ _ hlt)) ?_ ?_⟩
  ·rintro i vx σ H6 jT ⟨g6,ys,o1,o2,o3,rfl,e6,Cy⟩
   obtain⟨hi,ri⟩:=C.get jT;refine⟨aV rfl,λr0 n0=>?_⟩
   have k7:=aA n0 (.lst []);have VR:(L2.upd H6 r0 (.lst [])) r0=j? (.lst []):=av;generalize L2.upd H6 r0 (.lst [])=H7 at k7 VR;have g7:=g6.trans k7;refine⟨_,rfl,la,rfl,⟨_,aN.of (g7 _ _ hla)⟩,j6 (xs:=ZR) (λj σ H8=>aG H7 H8/\∃(ra:o?) (o:Option V),σ=[Rq lt,Iq (p),j? r2,Rq la,Rq rp,j? vx,Rq ra,o]/\H8 ra=j? (.lst ((lv (n*j) λq=>tt i (q / n) (q % n) % (p:Int)).map V.int))/\H6 ra=q?)
    ⟨aG.refl _,r0,_,rfl,by rw[W2];exact VR,n0⟩ (λj σ H8 _ h=>aN.of ((g7.trans h.1) _ _ hla)) ?_ ?_⟩
   ·rintro j vy σ H8 Im ⟨g8,ra,o,rfl,e8,n8⟩
    obtain⟨hj,rj⟩:=CI.get Im;have TM:=g7.trans g8;refine⟨_,rfl,_,rfl,_,rfl,_,rfl,n,n,vy,vx,Vm j,c i,rfl,rj.same TM,ri.same TM,hn1,by omega,by omega,λa ha=>(bV j a hj ha).mono (by decide),λa b ha hb=>(bc i a b hi ha hb).mono (by decide),λr9 H9 g9 Ti=>?_⟩
    refine⟨n,.ref la,r9,Vm,_,tt i j,rfl,VP.same (TM.trans g9),Ti.any,by omega,RK,NT i j hi hj,ZT i j hi hj,λa b ha hb=>(bV a b ha hb).mono (by decide),λr10 RM ZU K5=>?_⟩
    obtain⟨ZV,rfl,VS,_⟩:=dQ K5;refine⟨ZV,rfl,⟨_,aN.of VS⟩,λD hD=>?_⟩
    refine lY (λk=>.num (tt i j k % (p:Int))) (n:=n) (by rw[Ya,bK]) VS hD (by omega) (λk vz RN Q2 hk Qs NU q2=>?_) λRN Qs NV=>?_
    ·obtain⟨y1,hy1,rfl⟩:=aU NU
     rw[dM hk] at hy1;cases hy1;refine⟨_,rfl,_,rfl,_,_,rfl,rfl,(show(p:Int)≠0 by omega),?_⟩
     show Q2 (V.int ((tt i j k).fmod (p:Int))) RN
     rw[yZ];exact q2 _ RN (aG.refl _) (.num _)
    ·obtain⟨l11,ZW,h11,_⟩:=dQ NV
     cases ZW;have NW:=(g9.trans ZU).trans Qs;have VT:n*j+n<=n*n:=by
      have:=Za n (show j+1<=n by omega)
      rw[Wp] at this;exact this
     refine⟨ra,D,_,_,rfl,rfl,NW _ _ e8,h11,by rw[Ya,Ya,bK,bK,C?];omega,λZX RO=>?_⟩
     have ZY:=aA RO (.lst ((lv (n*j) λq=>tt i (q / n) (q % n) % (p:Int)).map V.int++(lv n λk=>tt i j k % (p:Int)).map V.int))
     refine⟨(g8.trans NW).trans ZY,ZX,_,rfl,?_,?_⟩
     ·rw[av,<- Yz,NS λk hk=>?_]
      show tt i ((n*j+k) / n) ((n*j+k) % n) % (p:Int)=_
      rw[Nat.mul_add_div (by omega),Nat.div_eq_of_lt hk,Nat.mul_add_mod,Z2 hk,Ww]
     ·exact(k7.trans (g8.trans NW)).free RO
   ·rintro σ H8 ⟨g8,ra,o,rfl,e8,n8⟩
    rw[CI.len] at e8;have VU:=(k7.trans g8) _ _ e6;refine⟨_,rfl,.inl ⟨rfl,_,aN.of VU⟩,_,rfl,rp,_,_,rfl,rfl,VU,by rw[Cy.len,C?];omega,?_⟩
    have hne:ra≠rp:=λz=>by rw[z,e6] at n8;cases n8
    exact⟨(g7.trans g8).aZ TJ _,_,_,_,_,rfl,av,((Cy.same (k7.trans g8)).push (Hl e8 ⟨g6.free n8,hne⟩)).upd⟩
  ·rintro σ H6 ⟨g6,ys,o1,o2,o3,rfl,e6,Cy⟩
   rw[C.len] at Cy;have TN:Rep H6 (dY H4) (.ref rp) (mE n (n*n) λi q=>tt i (q / n) (q % n) % (p:Int)):=Cy.G7.rep e6 TJ
   have Qu:∀i q,i<n->q<n*n->0<=tt i (q / n) (q % n) % (p:Int)/\tt i (q / n) (q % n) % (p:Int)<(p:Int):=λi q _ _=>⟨Zg _ (by omega),Zc _ (by omega)⟩
   have TQ:((Yk n).map λi=>lv (n*n) λq=>tt i (q / n) (q % n) % (p:Int)).length=n:=by rw[Ya,Yf]
   refine⟨_,rfl,_,rfl,p,hp,n*n,.ref rp,(Yk n).map λi=>lv (n*n) λq=>tt i (q / n) (q % n) % (p:Int),rfl,by rw[<- zG n (n*n) λi q=>tt i (q / n) (q % n) % (p:Int)];exact TN.any,by rw[TQ];exact hn1,by rw[TQ];omega,by omega,λa ha=>?_,λS' r7 H7 g7 hS' ZZ VV VW L8=>?_⟩
   ·obtain⟨i,hi,rfl⟩:=List.mem_map.mp ha
    refine⟨bK _ _,λx hx=>?_⟩
    obtain⟨j,hj,rfl⟩:=List.mem_map.mp hx;exact Qu i j (List.mem_range.mp hi) (List.mem_range.mp hj)
   rw[TQ] at hS' VV VW;obtain⟨q1,q2⟩:=A_ hp (W:=n*n) (k:=n) (A:=λi q=>tt i (q / n) (q % n) % (p:Int)) Qu hS' VW
   rw[Ed hS'] at L8;rw[<- Bb hS'] at q2;have hmod:∀(x:Vc) j m,j<n->m<n->(p:Int) ∣ sm n x (λi q=>tt i (q / n) (q % n) % (p:Int)) (n*j+m)-sm n x (λi=>tt i j) m:=λx j m hj hm=>by
    have e1:sm n x (λi=>tt i j) m=sm n x (λi _=>tt i j m) (n*j+m):=by rw[gm,gm]
    rw[e1];refine NR λi _=>?_
    show(p:Int) ∣ tt i ((n*j+m) / n) ((n*j+m) % n) % (p:Int)-tt i j m
    rw[Nat.mul_add_div (by omega),Nat.div_eq_of_lt hm,Nat.mul_add_mod,Z2 hm,Ww]
    have:=Zr (tt i j m) (p:Int)
    exact⟨-(tt i j m / (p:Int)),by grind⟩
   have Nd:∀j m,j<n->m<n->n*j+m<n*n:=λj m hj hm=>by
    have:=Za n (show j+1<=n by omega)
    rw[Wp] at this;omega
   obtain⟨ZQ,Qv,_⟩:=id (NN.same g6);refine qq k1 S'.length (λt=>m7 (n*n) (S'.getD t [])) r7 H7 (RL.trans (cD.of (g6.trans g7))) ((NN.same g6).same g7) ⟨ZZ,λt i ht hi=>K4 hS' ht hi,λt ht=>?_,λt ht=>(mlt _).mp λj hj m hm=>?_,λx hx=>q2 x λq hq=>?_,hge⟩ (Rep.zF L8 Qv λb hb=>(RL.trans (cD.of g6)).fresh ⟨_,Qv⟩ hb)
   ·obtain⟨i,hi,h⟩:=VV (S'.getD t []) (by rw[Yb,Yc ht];exact Yy ht)
    exact⟨i,hi,h⟩
   ·have h1:=q1 (S'.getD t []) (by rw[Yb,Yc ht];exact Yy ht) (n*j+m) (Nd j m hj hm)
    obtain⟨a,ha⟩:=h1;obtain⟨b,hb⟩:=hmod (m7 (n*n) (S'.getD t [])) j m hj hm;exact⟨a-b,by grind⟩
   ·obtain⟨a,ha⟩:=(mlt x).mpr hx (q / n) (Nat.div_lt_of_lt_mul hq) (q % n) (Nat.mod_lt _ (by omega))
    obtain⟨b,hb⟩:=hmod x (q / n) (q % n) (Nat.div_lt_of_lt_mul hq) (Nat.mod_lt _ (by omega))
    rw[Nat.div_add_mod] at hb;exact⟨a+b,by grind⟩
end
section
variable {R:Type} [Lean.Grind.CommRing R] {f:Fn} {n p d:Nat} {φ:Vc->R} {ip:R} {T:Nat->Vc}
theorem kT.table (X:Xr f n p φ ip)(L:kT n p φ ip d T):∃c:Nat->Nat->Vc,IM n p (g_ n φ ip d T) ip c/\∀i j,i<n->j<n->∀k,k<n->D9 f n (T i) (T j) k=(p:Int) ^ d*sm n (c i j) T k:=by
 have Ba:=X.t_;have BT:=Ba.lX (d:=d) X.inv L.st;have PY:zc R ((p:Int) ^ d)*ip ^ d=1:=jN X.inv d;have hel:∀y,(φ λj=>sm n y T j)=zc R ((p:Int) ^ d)*g_ n φ ip d T y:=λy=>by
  show _=zc R ((p:Int) ^ d)*(ip ^ d*φ _)
  grind
 have hT:∀i,i<n->φ (T i)=zc R ((p:Int) ^ d)*g_ n φ ip d T (un i):=λi hi=>by
  rw[<- hel];exact Ba.sup _ _ λj _=>(gZ hi).symm
 have hc0:∀i,∃ci:Nat->Vc,∀j,g_ n φ ip d T (un i)*g_ n φ ip d T (un j)=g_ n φ ip d T (ci j):=λi=>Classical.axiomOfChoice λj=>L.sub.mul ⟨_,rfl⟩ ⟨_,rfl⟩
 obtain⟨c,hc⟩:=Classical.axiomOfChoice hc0;refine⟨c,⟨BT,L.sub,λi j _ _=>hc i j,X.inv⟩,λi j hi hj=>?_⟩
 have:φ (D9 f n (T i) (T j))=φ λk=>(p:Int) ^ d*sm n (c i j) T k:=by
  unfold D9;rw[<- Ba.mul (c:=λa b=>tk f n (a+b)) X.mul,Ba.smul,hel,hT i hi,hT j hj,<- hc i j];grind
 exact Ba.inj _ _ this
structure gu (n p:Nat)(φ:Vc->R)(ip:R)(d:Nat)(T:Nat->Vc)(s:Nat->Nat):Prop where
 lor:kT n p φ ip d T
 pw:∀i,i<n->T i i=(p:Int) ^ s i/\s i<=d
 rC:∀i j,i<n->j<n->0<=T i j/\T i j<=(p:Int) ^ d/\(j≠i->T i j<(p:Int) ^ d)
 dep:d+tot n s<=d*n
theorem Be:∀n,tot n (λ_=>0)=0
 | 0=>rfl
 | n+1=>by show tot n (λ_=>0)+0=0;rw[Be n]
theorem gu.start (X:Xr f n p φ ip):gu n p φ ip 0 un λ_=>0:=by
 refine⟨X.start,λi _=>⟨by show(if i=i then (1:Int) else 0)=_;rw[W7 rfl,Zd],Yd 0⟩,λi j _ _=>?_,by rw[Be];omega⟩
 show 0<=(if j=i then (1:Int) else 0)/\(if j=i then (1:Int) else 0)<=_/\(j≠i->(if j=i then (1:Int) else 0)<_)
 rw[Zd];by_cases c:j=i
 ·rw[W7 c];exact⟨by decide,by decide,λz=>Jd c z⟩
 ·rw[W6 c];exact⟨by decide,by decide,λ_=>by decide⟩
theorem Fz {m:Nat}{N:Nat->Vc}(hT:cU n T):rowsOf (n+m) n (λi j=>if i<n then (p:Int)*T i j else sm n (N (i-n)) T j)=(Yk n).map (λi j=>(p:Int)*T i j)++(rowsOf m n N).map λr j=>sm n r T j:=by
 have T0:∀a:Vc,∀k,n<=k->sm n a T k=0:=λa k hk=>jd (q:=0) λi hi=>hT.lX i hi k (by omega)
 refine Zv λt=>?_
 unfold rowsOf;rw[Ye];by_cases h1:t<n
 ·rw[Y9 (by rw[Ya,Yf];exact h1),Ye,Y0 h1,Y0 (by omega)]
  show j? (eL n _)=j? _
  congr 1
  funext j
  by_cases c:j<n
  ·rw[cA c];exact W7 h1
  ·rw[cV (by omega)];show 0=(p:Int)*T t j;rw[hT.lX t h1 j (by omega)];omega
 ·rw[Zb (by rw[Ya,Yf];omega),Ya,Yf,Ye,Ye]
  by_cases h2:t<n+m
  ·rw[Y0 h2,Y0 (by omega)]
   show j? (eL n _)=j? _
   congr 1
   funext j
   show _=sm n (eL n (N (t-n))) T j
   rw[cO (d':=N (t-n)) (λi hi=>cA hi) λi _=>rfl]
   by_cases c:j<n
   ·rw[cA c];exact W6 h1
   ·rw[cV (by omega),T0 _ j (by omega)]
  ·rw[List.getElem?_eq_none_iff.mpr (by rw[Yf];omega),List.getElem?_eq_none_iff.mpr (by rw[Yf];omega)];rfl
theorem gu.next (X:Xr f n p φ ip)(hp:p∈PR){s:Nat->Nat}(G:gu n p φ ip d T s){k m:Nat}{N:Nat->Vc}(M:MulOk n p (g_ n φ ip d T) ip k m N)(hm:1<=m){T':Nat->Vc}{s':Nat->Nat}(st:cU n T')(pw:∀i,i<n->T' i i=(p:Int) ^ s' i/\s' i<=d+1)(rC:∀i j,i<n->j<n->0<=T' i j/\T' i j<=(p:Int) ^ (d+1)/\(j≠i->T' i j<(p:Int) ^ (d+1)))
  (hG:∀v,Gq (rowsOf (n+m) n (λi j=>if i<n then (p:Int)*T i j else sm n (N (i-n)) T j)) ((p:Int) ^ (d+1)) n v↔iZ n T' v):gu n p φ ip (d+1) T' s':=by
 have hT:=G.lor.st;have BT:=X.t_.lX (d:=d) X.inv hT;have pp:=cC hp;have T0:∀a:Vc,∀k,n<=k->sm n a T k=0:=λa k hk=>jd (q:=0) λi hi=>hT.lX i hi k (by omega)
 rw[Fz hT] at hG;have L':kT n p φ ip (d+1) T':=kT.next X.t_ hp X.inv G.lor (k:=k) (N:=rowsOf m n N) st (λr hr=>by
   obtain⟨t,ht,rfl⟩:=cQ.mp hr;rw[BT.sup (eL n (N t)) (N t) λj hj=>cA hj]
   exact M.mlt t ht) M.all hG
 obtain⟨i0,hi0,nz⟩:=M.nz 0 hm;have r0:=M.rC 0 i0 hm hi0;have hgr:=cU.grow (p:=p) (by omega) hT st (s:=s) (s':=s') (λi hi=>(G.pw i hi).1) (λi hi=>(pw i hi).1) (λi hi=>(hG _).mp (Gq.mem (List.mem_append.mpr (.inl (List.mem_map.mpr ⟨i,List.mem_range.mpr hi,rfl⟩))) λj hj=>by show(p:Int)*T i j=0;rw[hT.lX i hi j (by omega)];omega)) (r:=eL n (N 0))
  ((hG _).mp (Gq.mem (List.mem_append.mpr (.inr (List.mem_map.mpr ⟨_,cQ.mpr ⟨0,hm,rfl⟩,rfl⟩))) λj hj=>T0 _ j hj)) (k:=i0) hi0 (λhd=>by
   rw[cA hi0] at hd;have:=Int.le_of_dvd (by omega) hd
   omega)
 have dep:=G.dep;exact⟨L',pw,rC,by rw[Wa];omega⟩
end
def Ef (K:bG)(Pp:o?):Sp:=λvs H Q _=>∃(a:o?) (fl:List Int) (n p z:Nat) (u:Int),vs=[.ref a,.int (p:Int)]/\p∈PR/\del H Pp a=j? (.lst (fl.map V.int))/\fl.length=n+1/\1<=n/\n<=6/\L2.dh fl/\fP 4990 fl/\(det n λi j=>rr (aq fl) n (aq (dl fl)) (dl fl).length i j)=(p:Int) ^ z*u/\¬ (p:Int) ∣ u/\z<=24/\fQ gC Pp H/\
 ∀(R:Type) (_:Lean.Grind.CommRing R) (φ:Vc->R) (ip:R) (d k:Nat) (T:Nat->Vc) (s:Nat->Nat) r t H',cD H Pp H'->fQ gC Pp H'->Xr (aq fl) n p φ ip->gu n p φ ip d T s->MulOk n p (g_ n φ ip d T) ip k 0 (λ_ _=>0)->d<=12->H t=q?->del H' Pp t=j? (.tup [r,.int (d:Int)])->Rep (del H' Pp) (dY H) r (mE n n T)->Q (.ref t) H'
section
theorem IU {aD:o?}(B:iI mg)(jm:b_ P w K mg base 1 "unit_row" zm zC)(jo:b_ P w K mg base 1 "number_power" ["k","n"] vL)(wm:b_ P w K mg base 4 "table_of" Ck (D_ K))(oB:b_ P w K mg base 9 "multipliers" wZ (IS K aD))(lE:b_ P w K mg base 8 "triangular" Fc (IG K aD))(kB:b_ P w K mg base 1 "summed" zo (qZ K))(F:Src K mg "grown" nM jA):b_ P w K mg base 10 "grown" jA (Ef K aD):=by
 refine F.ok gq (λvs H Q E h=>?_) (λfa cdv A outer s H vs Q E hr h=>?_)
 ·obtain⟨a,fl,n,p,z,u,rfl,_⟩:=h;rfl
 obtain⟨a,fl,n,p,z,u,rfl,hp,ha,lf,hn1,hn,mf,bf,hD,hu,hz,tq,qq⟩:=h;have pp:=cC hp;have ha':=(cu ha).2;have hf:=wc lf mf;obtain⟨ip,X⟩:=P1 (p:=p) hf hn1 (by omega)
 generalize Nt hf hn1=φ at X;have hg:∀m,m<n->aq (dl fl) m=((m+1:Nat):Int)*aq fl (m+1):=λm _=>jE fl m
 have Z_:(det n λa c=>bC n λk=>aq (dl fl) k*tk (aq fl) n (k+a) c)=(p:Int) ^ z*u:=by
  rw[<- hD];refine cT λi j _ _=>?_
  unfold rr;rw[pG,lf];rfl
 have deep:∀ {d:Nat} {T:Nat->Vc} {s:Nat->Nat},gu n p φ ip d T s->d<=12:=λ{d T s} G=>by
  have h1:=kT.le X hf hn1 (by omega) G.lor hg (s:=s) (λi hi=>(G.pw i hi).1) Z_ hu
  have h2:=G.dep;omega
 have bf':∀j,Bd 5000 (aq fl j):=λj=>(bf.aq j).mono (by decide)
 have turn:∀ {d:Nat} {T:Nat->Vc} {s:Nat->Nat} (G:gu n p φ ip d T s),∃c:Nat->Nat->Vc,IM n p (g_ n φ ip d T) ip c/\(∀i j,i<n->j<n->∀k,k<n->D9 (aq fl) n (T i) (T j) k=(p:Int) ^ d*sm n (c i j) T k)/\(∀i j,i<n->j<n->Bd 200 (T i j))/\∀i j k,i<n->j<n->k<n->Bd 60000 (c i j k):=λ{d T s} G=>by
  obtain⟨c,h1,h2⟩:=kT.table X G.lor;have hd:=deep G;have bT:∀i j,i<n->j<n->Bd 200 (T i j):=λi j hi hj=>by
   have:=G.rC i j hi hj
   exact Bd.le (y:=(p:Int) ^ d) (by omega) (ym hp (by omega))
  refine⟨c,h1,h2,bT,λi j k hi hj hk=>?_⟩
  have m0:(0:Int)<(p:Int) ^ d:=Wb (by omega)
  refine(cU.bnd (b:=50417) G.lor.st bT (λq hq=>?_) k hk).mono ?_
  ·refine Bd.le (y:=D9 (aq fl) n (T i) (T j) q) ?_ (NP hn bf' (λa ha=>bT i a hi ha) (λa ha=>bT j a hj ha) q)
   rw[h2 i j hi hj q hq,Ze];exact Nat.le_mul_of_pos_left _ (by omega)
  ·have:201*n<=201*6:=Za _ hn
   omega
 refine⟨_,ah (aB (i:=2) gq.nd rfl (Or.inr rfl) (au bW (aM (aQ (K:=K) rfl) rfl B.len b8 (af (pv 0) ai)) ak))
  (ah (aB (i:=3) gq.nd rfl (Or.inr rfl) (bM (aF (N:=["place","degree"]) (sl:=[q?,j? 2]) (ao nM) RB rfl rfl (by decide +kernel)) rfl (bL rfl B.range (af (pv 2) ai)) (λ_ _ _ _ _=>(aC (i:=0) (Yk_ ["place","degree"]) rfl (z? rfl))) (λ_ _ _ _ _=>aP) (λ_ _ _ _ _=>(aE jm hr (af (pv 1) (af (pv 0) (af ak ai)))))))
  (ah (aB (i:=4) gq.nd rfl (z? rfl) ak)
  (ah (aB (i:=5) gq.nd rfl (z? rfl) (aE oB hr (af (aE wm hr (af (pv 0) (af (pv 3) (af ak ai)))) (af (pv 1) ai))))
  (ah (ee D? (aR (uv (K:=K) rfl hr.units) (pv 5) (bD ai) (aY _))
   (ah (jC (i:=6) gq.nd rfl (z? rfl) (aF (N:=["row","p"]) (sl:=[q?,j? 1]) (ao nM) RB rfl rfl (by decide +kernel)) rfl (bF (K:=K) rfl (pv 3)) (λ_ _ _ _ _=>(aC (i:=0) (Yk_ ["row","p"]) rfl (z? rfl))) (λ_ _ _ _ _=>aP) (λ_ _ _ _ _=>(bM (aF (N:=Ff) (sl:=[q?,j? 1]) _ ["row","p"] rfl rfl (by kernel_rfl)) rfl (bF (K:=K) rfl (pv 0)) (λ_ _ _ _ _=>(aC (i:=0) (Yk_ Ff) rfl (z? rfl))) (λ_ _ _ _ _=>aP) (λ_ _ _ _ _=>(au aT (pv 1) (pv 0))))))
   (ah (yz (i:=4) gq.nd rfl (z? rfl) ak yC)
   (ah (aB (i:=3) gq.nd rfl (Or.inr rfl) (aE lE hr (af (au iE (pv 6) (bM (aF (N:=["numbers","lattice"]) (sl:=[q?,j? 3]) (ao nM) RB rfl rfl (by decide +kernel)) rfl (bF (K:=K) rfl (pv 5)) (λ_ _ _ _ _=>(aC (i:=0) (Yk_ ["numbers","lattice"]) rfl (z? rfl))) (λ_ _ _ _ _=>aP) (λ_ _ _ _ _=>(aE kB hr (af (pv 0) (af (pv 1) ai)))))) (af (pv 1) (af (pv 4) ai)))))
   (ay (aB (i:=5) gq.nd rfl (z? rfl) (aE oB hr (af (aE wm hr (af (pv 0) (af (pv 3) (af (aE jo hr (af (pv 1) (af (pv 4) ai))) ai)))) (af (pv 1) ai)))))))))
  (ay (aK (i8 (af (pv 3) (af (pv 4) ai))))))))),?_⟩
 walk_at "rd"
 refine⟨a,_,rfl,.inl (aN.of ha'),?_⟩
 rw[Ya,lf];refine⟨_,_,rfl,rfl,?_⟩
 show iO 2 (V.int (((n+1:Nat):Int)-1)) _ _ _
 rw[show((n+1:Nat):Int)-1=(n:Int) by omega]
 refine⟨_,rfl,_,rfl,by omega,by omega,λD RE=>?_⟩
 rw[Yj];refine B8 (λi=>rE n (un i)) RE (by omega) (λi H2 Q2 hi g2 q2=>?_) λH2 g2 rr=>?_
 ·rw[Z8]
  exact⟨_,rfl,_,rfl,n,i,1,rfl,by omega,λr H3 g3 rr=>q2 _ H3 g3 rr⟩
 have Qw:=tq.same g2;obtain⟨ps,L6,_⟩:=id tq;obtain⟨ps2,OE,_⟩:=id Qw;obtain⟨c,AG,hc,bT,bc⟩:=turn (gu.start X);refine⟨_,rfl,_,rfl,a,fl,n,.ref D,un,c,1,rfl,aN.of (g2 _ _ ha'),lf,hn1,by omega,mf,bf.mono (by decide),rr.any,AN,λi j hi hj=>(bT i j hi hj).mono (by decide),by decide,(Bd.small (by decide) (by decide)).mono (by decide),λi j hi hj k hk=>by
  have:=hc i j hi hj k hk
  rw[Zd] at this;exact this,λi j k hi hj hk=>(bc i j k hi hj hk).mono (by decide),λr3 H3 g3 Oz=>?_⟩
 refine⟨_,rfl,n,p,_,_,g_ n φ ip 0 un,ip,c,r3,rfl,hp,Rep.any (Rep.zF (H0:=H2) Oz OE λb hb=>hb),hn1,hn,bc,AG,Qw.same g3,λk0 m N r4 H4 n4 NN M NL=>?_⟩
 have rD:Rep (del H2 aD) (dY H) (.ref D) (mE n n un):=Rep.zF rr L6 λb hb=>hb
 have VX:cD H2 aD H4:=(cD.of g3).trans n4;refine i_ (λσ H5=>cD H aD H5/\fQ gC aD H5/\∃(lt fv:V) (T:Nat->Vc) (s:Nat->Nat) (d k m:Nat) (N:Nat->Vc) (o:Option V),σ=[Rq a,Iq (p),Iq (n),j? lt,Iq (d),j? fv,o]/\Rep (del H5 aD) (dY H) lt (mE n n T)/\Rep (del H5 aD) Any fv (mE m n N)/\gu n p φ ip d T s/\MulOk n p (g_ n φ ip d T) ip k m N)
  (λσ _=>match σ with | [_,_,_,_,j? (.int d),_,_]=>30-d.toNat|_=>0) ⟨(cD.of g2).trans VX,NN,.ref D,r4,un,λ_=>0,0,k0,m,N,_,rfl,rD.same VX.del,NL.any,gu.start X,M⟩ ?_
 rintro σ H5 ⟨n5,OB,lt,fv,T,s,d,k,m,N,o,rfl,rlt,rfv,G,M⟩;have TR:=deep G;have m50:=M.le;refine⟨_,rfl,aV rfl,λpe KU=>?_⟩
 have k6:=aA KU (.lst []);have L5:(L2.upd H5 pe (.lst [])) pe=j? (.lst []):=av;generalize L2.upd H5 pe (.lst [])=H6 at k6 L5;have n6:=n5.trans (cD.of k6);have L7:=OB.same k6;have VY:cD H5 aD H6:=cD.of k6;have NX:=rlt.same VY.del;have Qx:=rfv.same VY.del;obtain⟨ps6,TU,_⟩:=id L7;have IE:Rep H6 Any (.ref pe) (.vec []):=.vec L5 trivial rfl λi v e h=>by simp at h
 refine Py (Qx.same (eX _ _)) IE (Ma (by omega) (by omega)) (.vec (n:=1) (by decide) λe he=>by simp at he) (by decide) (by decide) (λe=>?_) (λe=>?_)
 ·have s0:m=0:=by
   unfold mE ki at e;injection e with e
   have:=Jb Wy e
   rw[Ya,Yf] at this;exact this
  subst s0;refine⟨_,rfl,j7 ?_⟩
  refine⟨_,rfl,_,rfl,aV rfl,λt nt=>?_⟩
  have k7:=aA nt (.tup [lt,.int (d:Int)]);have VZ:cD H6 aD _:=cD.of k7;have tP:t≠aD:=λz=>by rw[z,TU] at nt;cases nt
  refine qq _ _ φ ip d k T s lt t _ (n6.trans VZ) (L7.same k7) X G ⟨M.le,λt i h=>by omega,λt h=>by omega,λt h=>by omega,M.all,M.ge⟩ TR (n6.fresh ⟨_,TU⟩ nt) (by rw[jb tP];exact av) (NX.same VZ.del)
 ·have m1:1<=m:=by
   rcases Nat.eq_zero_or_pos m with y|y
   ·exact Jd (by unfold mE ki;rw[y];rfl) e
   ·exact y
  refine⟨_,rfl,j8 (win ?_)⟩
  obtain⟨la,us,rfl,hla,_,C⟩:=id NX.cf;obtain⟨lb,ws,rfl,hlb,_,Cw⟩:=id Qx.cf;have Qy:=(cu hla).2;have Qz:=(cu hlb).2;have bT:∀i j,i<n->j<n->Bd 200 (T i j):=λi j hi hj=>by
   have:=G.rC i j hi hj
   exact Bd.le (y:=(p:Int) ^ d) (by omega) (ym hp (by omega))
  refine⟨_,rfl,la,rfl,⟨_,aN.of Qy⟩,λD2 w_=>?_⟩
  refine lY (λi=>rE n λj=>(p:Int)*T i j) (n:=n) C.len Qy w_ (by omega) (λi vx H7 Q2 hi g7 jT q2=>?_) λH7 g7 L8=>?_
  ·obtain⟨_,ri⟩:=C.get jT
   obtain⟨lr,rfl,hlr,_⟩:=dQ ri;have K3:=g7 _ _ (cu hlr).2;refine⟨_,rfl,lr,rfl,⟨_,aN.of K3⟩,λD3 QA=>?_⟩
   refine lY (λj=>.num ((p:Int)*T i j)) (n:=n) (by rw[Ya,bK]) K3 QA (by omega) (λj vx H8 Q3 hj g8 jT q3=>?_) λH8 g8 rr=>q2 _ H8 g8 rr
   obtain⟨y1,hy1,rfl⟩:=aU jT;rw[dM hj] at hy1;cases hy1;exact⟨_,rfl,_,rfl,_,_,rfl,rfl,gD (by omega) (by omega),q3 _ H8 (aG.refl _) (.num _)⟩
  refine⟨_,rfl,_,_,rfl,rfl,?_⟩
  refine⟨_,rfl,_,rfl,lb,rfl,⟨_,aN.of (g7 _ _ Qz)⟩,λD3 QA=>?_⟩
  refine lY (λt=>rE n λj=>sm n (N t) T j) (n:=m) Cw.len (g7 _ _ Qz) QA (by omega) (λt vx H8 Q2 ht g8 jT q2=>?_) λH8 g8 RP=>?_
  ·obtain⟨_,rt⟩:=Cw.get jT
   refine⟨_,rfl,_,rfl,n,n,vx,.ref la,N t,T,rfl,(rt.any.same (eX _ _)).same (g7.trans g8),(NX.any.same (eX _ _)).same (g7.trans g8),hn1,by omega,by omega,λi hi=>?_,λi j hi hj=>(bT i j hi hj).mono (by decide),λr H9 g9 rr=>q2 _ H9 g9 rr⟩
   have:=M.rC t i ht hi
   exact(Bd.small (by omega) (by omega)).mono (by decide)
  obtain⟨_,QB,e2,h2,nD2,C2⟩:=id (L8.same g8).cf;cases e2;obtain⟨_,RQ,e3,h3,nD3,C3⟩:=id RP.cf;cases e3;refine⟨D2,D3,_,_,rfl,rfl,h2,h3,by rw[C2.len,C3.len,C?];omega,λp4 V1=>?_⟩
  have k9:=aA V1 (.lst (QB++RQ));have e9:(L2.upd H8 p4 (.lst (QB++RQ))) p4=j? (.lst (QB++RQ)):=av;generalize L2.upd H8 p4 (.lst (QB++RQ))=H9 at k9 e9;have Ox:=(g7.trans g8).trans k9;have rA:Rep H9 (dY H6) (.ref p4) (mE (n+m) n λi j=>if i<n then (p:Int)*T i j else sm n (N (i-n)) T j):=by
   have:=((C2.same k9).append ((C3.imp λb o h kb=>⟨h,g7.free kb⟩).same k9)).rep e9 ((g7.trans g8).free V1)
   unfold mE;rw[vN (d:=λi=>if i<n then rE n λj=>(p:Int)*T i j else rE n λj=>sm n (N (i-n)) T j) λi _=>?_]
   ·exact this
   ·by_cases c1:i<n
    ·rw[W7 c1];exact vO λj _=>W7 c1
    ·rw[W6 c1];exact vO λj _=>W6 c1
  have V2:=L7.same Ox;refine⟨_,rfl,_,rfl,n+m,n,d+1,p,.ref p4,λi j=>if i<n then (p:Int)*T i j else sm n (N (i-n)) T j,rfl,hp,Rep.any (Rep.zF (H0:=H6) rA TU λb hb=>hb),hn1,by omega,by omega,by omega,by omega,by omega,V2,λT' s' r5 RM n10 QC st pw rC hG K5=>?_⟩
  have G':=G.next X hp M m1 st pw rC hG;have hd':=deep G';obtain⟨c',AG',hc',bT',V3⟩:=turn G';have QD:cD H aD RM:=(n6.trans (cD.of Ox)).trans n10;obtain⟨aag,TV,_⟩:=id QC;refine⟨_,rfl,_,rfl,_,rfl,_,rfl,p,d+1,rfl,by omega,by omega,?_⟩
  rw[Wt];have m0:(0:Int)<(p:Int) ^ (d+1):=Wb (by omega)
  refine⟨a,fl,n,r5,T',c',(p:Int) ^ (d+1),rfl,aN.of (QD _ _ (cu ha).1 ha'),lf,hn1,by omega,mf,bf.mono (by decide),K5.any.same (eX _ _),st,λi j hi hj=>(bT' i j hi hj).mono (by decide),by omega,(ym hp (by omega)).mono (by decide),hc',λi j k hi hj hk=>(V3 i j k hi hj hk).mono (by decide),λr11 RN Qs NV=>?_⟩
  refine⟨_,rfl,n,p,_,_,g_ n φ ip (d+1) T',ip,c',r11,rfl,hp,Rep.any (Rep.zF (H0:=RM) NV TV λb hb=>hb),hn1,hn,V3,AG',QC.same Qs,λk' m' N' r12 H12 RO TX M' TY=>?_⟩
  have Mb:cD RM aD H12:=(cD.of Qs).trans RO;refine⟨⟨QD.trans Mb,TX,r5,r12,T',s',d+1,k',m',N',_,rfl,Rep.same (K5.imp λb o h kb=>⟨h,(n6.trans (cD.of Ox)).fresh ⟨_,V2.choose_spec.1⟩ kb⟩) Mb.del,TY.any,G',M'⟩,?_⟩
  show 30-((d:Int)+1).toNat<30-((d:Int)).toNat
  omega
end
inductive q9 (K:bG)(H:Hp):V->Bool->Prop where
 | NY {a:o?} {ns:List Int}:aN K H a (ns.map V.int)->ns.length<=1000->∀b:Bool,(b=true↔Norm ns)->q9 K H (.ref a) b
 | bad {a:o?} {xs:List V} {i:Nat} {x:V} {T:String}:aN K H a xs->(∀j,j<i->∃n,xs[j]?=j? (.int n))->xs[i]?=j? x->DB K H x T->T≠"int"->q9 K H (.ref a) false
 | other {x:V} {T:String}:DB K H x T->T≠"list"->q9 K H x false
def Eg (K:bG):Sp:=λvs H Q _=>∃(x:V) (b:Bool),vs=[x]/\q9 K H x b/\∀H',aG H H'->Q (.bl b) H'
section
theorem sQ (B:iI mg)(pI:b_ P w K mg base 1 "is_whole" iS (sI K))(F:Src K mg "is_polynomial" iF iS):b_ P w K mg base 2 "is_polynomial" iS (Eg K):=by
 refine F.ok kj (λvs H Q E h=>?_) (λf cdv A outer s H vs Q E hr h=>?_)
 ·obtain⟨x,b,rfl,_⟩:=h;rfl
 obtain⟨x,b,rfl,NZ,q⟩:=h;refine⟨_,ah (dS (yy (yw (aM (kM (K:=K) rfl) rfl B.isinstance jK (af (pv 0) (af (yu (v:=.ty "list") rfl B.list uu rfl) ai)))))
   (ay (aK z5))
   (bY))
  (ah (cK D? rfl (bF (K:=K) rfl (pv 0)) (aC (i:=1) kj.nd rfl (z? rfl))
   (ay (dS (yy (yw (aE pI hr (af (pv 1) ai))))
    (ay (aK z5))
    (bY))))
  (ay (aK (Lk (nk (qx (K:=K) rfl hr.units) (pv 0) (bD ai) (aY _)) (rK (nk tN (bI (aJ (K:=K) rfl) (pv 0) (z8 uV ak) (λ_ _=>rfl)) ak (aY _))))))),?_⟩
 cases NZ with
 | @NY a ns ha ln b hb=>
  refine⟨_,rfl,_,"list","list",true,rfl,.lst ha,rfl,_,rfl,j7 ?_⟩
  refine⟨_,rfl,a,rfl,⟨_,ha⟩,j6 (xs:=ns.map V.int) (λi σ H2=>H2=H/\∃o,σ=[Rq a,o]) ⟨rfl,_,rfl⟩ (λi σ H2 _ h=>h.1 ▸ ha) ?_ ?_⟩
  ·rintro i x σ H2 hx ⟨rfl,o,rfl⟩
   obtain⟨n,hn,rfl⟩:=aU hx;refine⟨_,rfl,_,"int",rfl,.int n,_,rfl,j7 ?_⟩
   exact⟨rfl,_,rfl⟩
  ·rintro σ H2 ⟨rfl,o,rfl⟩
   refine⟨_,rfl,aV rfl,λp1 n1=>?_⟩
   have k1:=aA n1 (.lst []);refine Sx (xs:=ns) (ys:=[]) (k1.seq ha) (aN.of av) ⟨_,rfl,fu (λc=>?_) (λc=>?_)⟩
   ·have e:b=true:=hb.mpr (.inl (W9 c))
    rw[e] at q;exact q _ k1
   ·have hne:ns≠[]:=λz=>c (W8 z)
    refine⟨_,rfl,_,rfl,a,_,_,_,rfl,rfl,k1.seq ha,Ai hne,rfl,?_⟩
    have e:(!decide (V.int (aq ns (ns.length-1))=V.int 0))=b:=by
     cases b with
     | true=>
      have hN:=hb.mp rfl;rw[Ja λz=>hN.last hne (V.int.inj z)]
      rfl
     | false=>
      have hN:aq ns (ns.length-1)=0:=by
       refine V? λz=>?_
       exact Jd (hb.mpr (.inr z)) E?
      rw[W8 (Jb V.int hN)];rfl
    rw[e];exact q _ k1
 | @bad a xs i x T ha hj hx ty hT=>
  refine⟨_,rfl,_,"list","list",true,rfl,.lst ha,rfl,_,rfl,j7 ?_⟩
  have hlt:i<xs.length:=(List.getElem?_eq_some_iff.mp hx).1;refine⟨_,rfl,a,rfl,⟨_,ha⟩,j6 (xs:=xs) (λj σ H2=>j<=i/\H2=H/\∃o,σ=[Rq a,o]) ⟨Yw _,rfl,_,rfl⟩ (λi σ H2 _ h=>h.2.1 ▸ ha) ?_ ?_⟩
  ·rintro j y σ H2 hy ⟨hji,rfl,o,rfl⟩
   by_cases e:j=i
   ·subst e
    rw[hx] at hy;obtain rfl:=M? hy
    refine⟨_,rfl,_,T,rfl,ty,_,rfl,?_⟩
    rw[Ja hT];refine j8 (q _ (aG.refl _))
   ·obtain⟨n,hn⟩:=hj j (by omega)
    rw[hn] at hy;obtain rfl:=M? hy
    refine⟨_,rfl,_,"int",rfl,.int n,_,rfl,j7 ?_⟩
    exact⟨by omega,rfl,_,rfl⟩
  ·rintro σ H2 ⟨hji,_⟩
   omega
 | @other x T ty hT=>
  cases ty with
  | eO=>exact⟨_,rfl,_,_,"list",false,rfl,.eO,by with_unfolding_all rfl,_,rfl,j8 (q _ (aG.refl _))⟩
  | bl b=>exact⟨_,rfl,_,_,"list",false,rfl,.bl b,by with_unfolding_all rfl,_,rfl,j8 (q _ (aG.refl _))⟩
  | int i=>exact⟨_,rfl,_,_,"list",false,rfl,.int i,by with_unfolding_all rfl,_,rfl,j8 (q _ (aG.refl _))⟩
  | str b=>exact⟨_,rfl,_,_,"list",false,rfl,.str b,by with_unfolding_all rfl,_,rfl,j8 (q _ (aG.refl _))⟩
  | lst e=>exact Jd rfl hT
  | tup e=>exact⟨_,rfl,_,_,"list",false,rfl,.tup e,by with_unfolding_all rfl,_,rfl,j8 (q _ (aG.refl _))⟩
end
def QE:List V:=PR.map λp:Nat=>V.int (p:Int)
inductive oE (K:bG)(H:Hp):V->Bool->Prop where
 | int (i:Int):oE K H (.int i) (JV (V.int i) QE)
 | other {x:V} {T:String}:DB K H x T->T≠"int"->oE K H x false
theorem N1 {i:Int}(h:JV (V.int i) QE=true):∃p:Nat,p∈PR/\i=(p:Int):=by
 unfold JV at h;rw[List.any_eq_true] at h;obtain⟨y,hy,e⟩:=h;unfold QE at hy;obtain⟨p,hp,rfl⟩:=List.mem_map.mp hy;refine⟨p,hp,?_⟩
 have e:((p:Int) == i)=true:=e;exact(beq_iff_eq.mp e).symm
def QF (K:bG):Sp:=λvs H Q _=>∃(x:V) (b:Bool),vs=[x]/\oE K H x b/\Q (.bl b) H
inductive oF (K:bG)(H:Hp):V->Bool->Prop where
 | NY {a:o?} {ns:List Int}:H a=j? (.lst (ns.map V.int))->ns.length<=1000->∀b:Bool,(b=true↔L2.dh ns/\2<=ns.length/\ns.length<=13)->oF K H (.ref a) b
 | bad {a:o?} {xs:List V} {i:Nat} {x:V} {T:String}:aN K H a xs->(∀j,j<i->∃n,xs[j]?=j? (.int n))->xs[i]?=j? x->DB K H x T->T≠"int"->oF K H (.ref a) false
 | other {x:V} {T:String}:DB K H x T->T≠"list"->oF K H x false
def Mc (K:bG):Sp:=λvs H Q _=>∃(x:V),vs=[x]/\((∃(a:o?) (ns:List Int),x=.ref a/\aN K H a (ns.map V.int)/\ns.length<=1000/\(L2.dh ns->∀H',aG H H'->Q (.bl true) H')/\(¬ L2.dh ns->∀H',aG H H'->Q (.bl false) H'))\/(q9 K H x false/\∀H',aG H H'->Q (.bl false) H'))
section
theorem Bf {gv:o?}(B:iI mg)(IV:mg "PRIMES"=j? (.ref gv))(hP:∀H,kG K H gv (PR.map λp:Nat=>V.int (p:Int)))(pI:b_ P w K mg base 1 "is_whole" iS (sI K))(F:Src K mg "is_prime" o_ ["k"]):b_ P w K mg base 2 "is_prime" ["k"] (QF K):=by
 refine F.ok AS (λvs H Q E h=>?_) (λf cdv A outer s H vs Q E hr h=>?_)
 ·obtain⟨x,b,rfl,_⟩:=h;rfl
 obtain⟨x,b,rfl,NZ,q⟩:=h;refine⟨_,ay (aK (uO (aE pI hr (af (pv 0) ai)) (rK (nk (Gs (K:=K) rfl) (pv 0) (ur (v:=.ref gv) rfl IV rfl) (by with_unfolding_all rfl))))),?_⟩
 cases NZ with
 | int i=>exact⟨_,rfl,_,_,rfl,.int i,_,rfl,_,rfl,gv,_,rfl,.inr (hP H),rfl,by decide,q⟩
 | other ty hT=>
  refine⟨_,rfl,_,_,rfl,ty,_,rfl,?_⟩
  rw[Ja hT];exact q
theorem Bg (B:iI mg)(ug:b_ P w K mg base 2 "is_polynomial" iS (Eg K))(F:Src K mg "is_monic" pq iS):b_ P w K mg base 3 "is_monic" iS (Mc K):=by
 refine F.ok AU (λvs H Q E h=>?_) (λf cdv A outer s H vs Q E hr h=>?_)
 ·obtain⟨x,rfl,_⟩:=h;rfl
 obtain⟨x,rfl,h⟩:=h;refine⟨_,ay (aK (uO (aE ug hr (af (pv 0) ai)) (uO (nk (uv (K:=K) rfl hr.units) (pv 0) (bD ai) (aY _)) (rK (nk gy (bI (aJ (K:=K) rfl) (pv 0) (z8 uV ak) (λ_ _=>rfl)) ak (aY _)))))),?_⟩
 walk_at "rd"
 rcases h with ⟨a,ns,rfl,ha,ln,qt,qf⟩|⟨NZ,qf⟩
 ·by_cases hN:Norm ns
  ·refine⟨.ref a,true,rfl,.NY ha ln true ⟨λ_=>hN,λ_=>rfl⟩,λH1 g1=>⟨_,rfl,j8 ?_⟩⟩
   refine⟨_,rfl,aV rfl,λpe KU=>?_⟩
   have k2:=aA KU (.lst []);refine OJ (xs:=ns) (ys:=[]) (k2.seq (g1.seq ha)) (aN.of av) ⟨_,rfl,?_⟩
   by_cases c:ns=[]
   ·refine om c ?_
    exact qf (λm=>m.1 c) _ (g1.trans k2)
   ·refine Ae c ?_
    refine⟨_,rfl,_,rfl,a,_,_,_,rfl,rfl,k2.seq (g1.seq ha),Ai c,rfl,?_⟩
    by_cases c1:aq ns (ns.length-1)=1
    ·show Q (V.bl (decide (V.int (aq ns (ns.length-1))=V.int 1))) _
     rw[W8 (Jb V.int c1)];exact qt ⟨c,c1⟩ _ (g1.trans k2)
    ·show Q (V.bl (decide (V.int (aq ns (ns.length-1))=V.int 1))) _
     rw[Ja λz=>c1 (V.int.inj z)]
     exact qf (λm=>c1 m.2) _ (g1.trans k2)
  ·refine⟨.ref a,false,rfl,.NY ha ln false ⟨λz=>(nomatch z),λz=>Jd z hN⟩,λH1 g1=>⟨_,rfl,j7 ?_⟩⟩
   exact qf (λm=>hN (.inr (by rw[m.2];decide))) H1 g1
 ·exact⟨x,false,rfl,NZ,λH1 g1=>⟨_,rfl,j7 (qf H1 g1)⟩⟩
def QG (K:bG):Sp:=λvs H Q _=>∃(x:V) (b:Bool),vs=[x]/\oF K H x b/\∀H',aG H H'->Q (.bl b) H'
theorem nZ (B:iI mg){t1:Tok}(xq:mg "MOST_DEGREE"=j? (.int 12 t1))(CL:b_ P w K mg base 3 "is_monic" iS (Mc K))(F:Src K mg "is_bounded_monic" fR iS):b_ P w K mg base 4 "is_bounded_monic" iS (QG K):=by
 refine F.ok nY (λvs H Q E h=>?_) (λf cdv A outer s H vs Q E hr h=>?_)
 ·obtain⟨x,b,rfl,_⟩:=h;rfl
 obtain⟨x,b,rfl,NZ,q⟩:=h;refine⟨_,ay (aK (uO (aE CL hr (af (pv 0) ai)) (rK (F_ Lp Lp ak (aM (aQ (K:=K) rfl) rfl B.len b8 (af (pv 0) ai)) (au bU (ur (v:=.int 12) rfl xq ⟨_,rfl⟩) ak))))),?_⟩
 walk_at "rd"
 cases NZ with
 | @NY a ns ha ln b hb=>
  refine .inl ⟨a,ns,rfl,aN.of ha,ln,λm H1 g1=>⟨_,rfl,j8 ?_⟩,λnm H1 g1=>⟨_,rfl,j7 ?_⟩⟩
  ·refine⟨_,rfl,a,_,rfl,.inl (aN.of (g1 _ _ ha)),?_⟩
   rw[Ya];refine⟨_,_,rfl,rfl,_,rfl,fu (λc=>?_) (λc=>?_)⟩
   ·have c':=W9 c
    refine⟨_,_,rfl,rfl,_,_,rfl,rfl,?_⟩
    have e:decide ((ns.length:Int)<=12+1)=b:=by
     cases b with
     | true=>
      have:=(hb.mp rfl).2.2
      exact W8 (by omega)
     | false=>
      refine Ja λz=>?_
      have:=hb.mpr ⟨m,by omega,by omega⟩
      cases this
    show Q (V.bl (decide ((ns.length:Int)<=12+1))) H1
    rw[e];exact q H1 g1
   ·have e:b=false:=by
     cases b with
     | true=>
      have:=(hb.mp rfl).2.1
      exact Jd (W8 (show(2:Int)<=(ns.length:Int) by omega)) c
     | false=>rfl
    rw[e] at q;exact q H1 g1
  ·have e:b=false:=by
    cases b with
    | true=>exact Jd (hb.mp rfl).1 nm
    | false=>rfl
   rw[e] at q;exact q H1 g1
 | bad ha hj hx ty hT=>exact .inr ⟨.bad ha hj hx ty hT,λH1 g1=>⟨_,rfl,j7 (q H1 g1)⟩⟩
 | other ty hT=>exact .inr ⟨.other ty hT,λH1 g1=>⟨_,rfl,j7 (q H1 g1)⟩⟩
end
abbrev RS:List l?:=[.type "ValueError",.type "Exception",.type "BaseException",.type "object"]
def Rz (CN:o?)(H:Hp)(E:XK):Prop:=∀(ea:o?) (H':Hp),aG H H'->E (.ref ea) (j? CN) H'
def pK (ns:List Int):Prop:=fP 4990 ns/\∃E:Nat,E<=9000/\(ns.length-1)*(E+5)<9000/\∀i j,i<=ns.length-1->(rr (aq ns) (ns.length-1) (aq (dl ns)) (dl ns).length i j).natAbs<=2 ^ E
def cR (ns:List Int):Int:=tg (ns.length-1)*det (ns.length-1) λi j=>rr (aq ns) (ns.length-1) (aq (dl ns)) (dl ns).length i j
theorem oE.yes {K:bG}{H:Hp}{y:V}{b:Bool}(h:oE K H y b):b=true->∃p:Nat,p∈PR/\y=.int (p:Int):=by
 cases h with
 | int i=>
  intro e;obtain⟨p,hp,rfl⟩:=N1 e;exact⟨p,hp,rfl⟩
 | other _ _=>intro e;cases e
theorem oF.yes {K:bG}{H:Hp}{x:V}{b:Bool}(h:oF K H x b):b=true->∃(a:o?) (ns:List Int),x=.ref a/\H a=j? (.lst (ns.map V.int))/\L2.dh ns/\2<=ns.length/\ns.length<=13:=by
 cases h with
 | NY ha ln b hb=>
  intro e;obtain⟨h1,h2,h3⟩:=hb.mp e;exact⟨_,_,rfl,ha,h1,h2,h3⟩
 | bad=>intro e;cases e
 | other=>intro e;cases e
def Eh (K:bG)(C1 C2 C3:o?):Sp:=λvs H Q E=>∃(x y:V) (bp bf:Bool),vs=[x,y]/\oE K H y bp/\oF K H x bf/\(bp=false->Rz C1 H E)/\(bp=true->bf=false->Rz C2 H E)/\
 (bp=true->bf=true->∀(a:o?) (ns:List Int) (p:Nat),x=.ref a->H a=j? (.lst (ns.map V.int))->y=.int (p:Int)->p∈PR->L2.dh ns->2<=ns.length->ns.length<=13->pK ns/\(cR ns=0->Rz C3 H E)/\∀v:Nat,dW (p:Int) (cR ns) v->cR ns≠0->∀H',aG H H'->Q (.int (v:Int)) H')
section
theorem xr {c_ bJ cH:o?}(sS:mg "NoPrime"=j? (.ref c_))(kC:PySem.W.excIn K c_ RS "ValueError.__new__"=true)(jq:mg "NoPolynomial"=j? (.ref bJ))(fc:PySem.W.excIn K bJ RS "ValueError.__new__"=true)(pL:mg "NotPlain"=j? (.ref cH))(jr:PySem.W.excIn K cH RS "ValueError.__new__"=true)(B:iI mg)
  (CM:b_ P w K mg base 2 "is_prime" ["k"] (QF K)) (pM:b_ P w K mg base 4 "is_bounded_monic" iS (QG K)) (d8:b_ P w K mg base 4 "discriminant" ["f"] (zz K)) (d7:b_ P w K mg base 2 "size_of_number" qU uJ) (F:Src K mg "plain_size" kW jA):vH P w K mg base 5 "plain_size" jA (Eh K c_ bJ cH):=by
 refine F.SH oz (λvs H Q E h=>?_) (λf cdv A outer s H vs Q E hr h=>?_)
 ·obtain⟨x,y,bp,bf,rfl,_⟩:=h;rfl
 obtain⟨x,y,bp,bf,rfl,pa,fa,q1,q2,q3⟩:=h;refine⟨_,ah (dS (yy (yw (aE CM hr (af (pv 1) ai))))
   (ay (qO qN rfl rfl sS kC PySem.F.excBase_ValueError rfl PySem.F.excBase_ValueError (af yr ai)))
   (bY))
  (ah (dS (yy (yw (aE pM hr (af (pv 0) ai))))
   (ay (qO qN rfl rfl jq fc PySem.F.excBase_ValueError rfl PySem.F.excBase_ValueError (af yr ai)))
   (bY))
  (ah (aB (i:=2) oz.nd rfl (z? rfl) (aE d7 hr (af (aE d8 hr (af (pv 0) ai)) (af (pv 1) ai))))
  (ah (dS (aR Lu (pv 2) rJ (aY _))
   (ay (qO qN rfl rfl pL jr PySem.F.excBase_ValueError rfl PySem.F.excBase_ValueError (af yr ai)))
   (bY))
  (ay (aK (pv 2)))))),?_⟩
 walk_at "rd"
 refine⟨y,bp,rfl,pa,⟨_,rfl,?_⟩⟩
 have hy:=oE.yes pa;have hx:=oF.yes fa;cases bp with
 | false=>exact j8 ⟨by rw[C?];decide,λea _=>q1 rfl ea H (aG.refl H)⟩
 | true=>
  refine j7 ⟨_,rfl,x,bf,rfl,fa,λH1 g1=>⟨_,rfl,?_⟩⟩
  cases bf with
  | false=>exact j8 ⟨by rw[C?];decide,λea _=>q2 rfl rfl ea H1 g1⟩
  | true=>
   obtain⟨p,hp,rfl⟩:=hy rfl;obtain⟨a,ns,rfl,ha,mf,l2,OF⟩:=hx rfl;obtain⟨⟨ES,E9,hE,LV,bR⟩,qn,qs⟩:=q3 rfl rfl a ns p rfl ha rfl hp mf l2 OF;have pp:=cC hp;refine j7 ⟨_,rfl,a,ns,ns.length-1,E9,rfl,aN.of (g1 _ _ ha),by omega,by omega,by omega,mf,ES,hE,LV,bR,λH2 g2=>?_⟩
   refine⟨_,rfl,cR ns,(p:Int),rfl,by omega,by omega,λz H3 g3 sv=>?_⟩
   have g:=(g1.trans g2).trans g3;rcases sv with ⟨d0,rfl⟩|⟨d0,v,hv,rfl⟩
   ·exact⟨_,rfl,rfl,_,rfl,j8 ⟨by rw[C?];decide,λea _=>qn d0 ea H3 g⟩⟩
   ·exact⟨_,rfl,rfl,_,rfl,j7 ⟨_,rfl,qs v hv d0 H3 g⟩⟩
def Bh (K:bG)(C1 C2 C3 C4:o?):Sp:=λvs H Q E=>∃(x y:V) (bp bf:Bool),vs=[x,y]/\oE K H y bp/\oF K H x bf/\(bp=false->Rz C1 H E)/\(bp=true->bf=false->Rz C2 H E)/\
 (bp=true->bf=true->∀(a:o?) (ns:List Int) (p:Nat),x=.ref a->H a=j? (.lst (ns.map V.int))->y=.int (p:Int)->p∈PR->L2.dh ns->2<=ns.length->ns.length<=13->pK ns/\(cR ns=0->Rz C3 H E)/\∀v:Nat,dW (p:Int) (cR ns) v->cR ns≠0->(7<ns.length\/24<v->Rz C4 H E)/\(ns.length<=7->v<=24->∀H',aG H H'->Q .eO H'))
theorem n_ {c_ bJ cH eH:o?}(sU:mg "TooDeep"=j? (.ref eH))(kD:PySem.W.excIn K eH RS "ValueError.__new__"=true)(B:iI mg){t1 t2:Tok}(oh:mg "MOST_BASIS_DEGREE"=j? (.int 6 t1))(q_:mg "MOST_BASIS_SIZE"=j? (.int 24 t2))
  (zH:vH P w K mg base 5 "plain_size" jA (Eh K c_ bJ cH)) (F:Src K mg "refuse_for_basis" fU jA):vH P w K mg base 6 "refuse_for_basis" jA (Bh K c_ bJ cH eH):=by
 refine F.SH iQ (λvs H Q E h=>?_) (λf cdv A outer s H vs Q E hr h=>?_)
 ·obtain⟨x,y,bp,bf,rfl,_⟩:=h;rfl
 obtain⟨x,y,bp,bf,rfl,pa,fa,q1,q2,q3⟩:=h;refine⟨_,ah (aB (i:=2) iQ.nd rfl (z? rfl) (DP zH GQ hr (af (pv 0) (af (pv 1) ai))))
  (ay (dS (PW.pt (z6 (aR tO (au bW (aM (aQ (K:=K) rfl) rfl B.len b8 (af (pv 0) ai)) ak) (ur (v:=.int 6) rfl oh ⟨_,rfl⟩) (aY _)) (yx (aR tO (pv 2) (ur (v:=.int 24) rfl q_ ⟨_,rfl⟩) (aY _)))))
   (ay (qO qN rfl rfl sU kD PySem.F.excBase_ValueError rfl PySem.F.excBase_ValueError (af yr ai)))
   (bY))),?_⟩
 walk_at "rd"
 refine⟨x,y,bp,bf,rfl,pa,fa,q1,q2,λhb1 hb2 a ns p ex ha ey hp mf l2 OF=>?_⟩
 obtain⟨dk,qn,qs⟩:=q3 hb1 hb2 a ns p ex ha ey hp mf l2 OF;subst ex ey;refine⟨dk,qn,λv hv d0 H1 g1=>?_⟩
 obtain⟨qd,qo⟩:=qs v hv d0;refine⟨_,rfl,a,_,rfl,.inl (aN.of (g1 _ _ ha)),?_⟩
 rw[Ya];refine⟨_,_,rfl,rfl,_,_,rfl,rfl,_,rfl,fu (λc=>?_) (λc=>?_)⟩
 ·have c':=W9 c
  exact j8 ⟨by rw[C?];decide,λea _=>qd (.inl (by omega)) ea H1 g1⟩
 ·have c':¬ (6:Int)<(ns.length:Int)-1:=λz=>c (W8 z)
  refine⟨_,rfl,_,_,rfl,rfl,_,rfl,fu (λd=>?_) (λd=>?_)⟩
  ·have d':=W9 d
   exact⟨by rw[C?];decide,λea _=>qd (.inr (by omega)) ea H1 g1⟩
  ·have d':¬ (24:Int)<(v:Int):=λz=>d (W8 z)
   exact qo (by omega) (by omega) H1 g1
end
theorem K6 {n m:Nat}{v:Vc}(h:m<=n):(lv n v).take m=lv m v:=by
 unfold lv;rw[<- List.map_take,List.take_range,Nat.min_eq_left h]
structure K7 (H:Hp)(ok:o?->Prop)(n d:Nat)(T:Nat->Vc)(s:Nat->Nat)(vs:List V):Prop where
 len:vs.length=n
 at_:∀i,i<n->∃t l,vs[i]?=j? (.ref t)/\H t=j? (.tup [.ref l,.int ((d-s i:Nat):Int)])/\H l=j? (.lst ((lv (i+1) λj=>T i j / T i i).map V.int))/\ok l
def Ei (K:bG)(Pp C1 C2 C3 C4:o?):Sp:=λvs H Q E=>∃(x y:V) (bp bf:Bool),vs=[x,y]/\oE K H y bp/\oF K H x bf/\fQ gC Pp H/\(bp=false->Rz C1 H E)/\(bp=true->bf=false->Rz C2 H E)/\
 (bp=true->bf=true->∀(a:o?) (ns:List Int) (p:Nat),x=.ref a->H a=j? (.lst (ns.map V.int))->y=.int (p:Int)->p∈PR->L2.dh ns->2<=ns.length->ns.length<=13->del H Pp a=j? (.lst (ns.map V.int))/\pK ns/\(cR ns=0->Rz C3 H E)/\∀v:Nat,dW (p:Int) (cR ns) v->cR ns≠0->(7<ns.length\/24<v->Rz C4 H E)/\
  (ns.length<=7->v<=24->∀(R:Type) (_:Lean.Grind.CommRing R) (φ:Vc->R) (ip:R) (d k:Nat) (T:Nat->Vc) (s:Nat->Nat) r vs H',cD H Pp H'->fQ gC Pp H'->Xr (aq ns) (ns.length-1) p φ ip->gu (ns.length-1) p φ ip d T s->MulOk (ns.length-1) p (g_ (ns.length-1) φ ip d T) ip k 0 (λ_ _=>0)->d<=12->H r=q?->del H' Pp r=j? (.lst vs)->K7 (del H' Pp) (λl=>H l=q?/\l≠r) (ns.length-1) d T s vs->Q (.ref r) H'))
section
theorem wo {aD c_ bJ cH eH:o?}(B:iI mg)(pN:vH P w K mg base 6 "refuse_for_basis" jA (Bh K c_ bJ cH eH))(K8:b_ P w K mg base 10 "grown" jA (Ef K aD))(d7:b_ P w K mg base 2 "size_of_number" qU uJ)(F:Src K mg "whole_basis" ie jA):vH P w K mg base 11 "whole_basis" jA (Ei K aD c_ bJ cH eH):=by
 refine F.SH dw (λvs H Q E h=>?_) (λf cdv A outer s H vs Q E hr h=>?_)
 ·obtain⟨x,y,bp,bf,rfl,_⟩:=h;rfl
 obtain⟨x,y,bp,bf,rfl,pa,fa,tq,q1,q2,q3⟩:=h;refine⟨_,ah (fh (DP pN GQ hr (af (pv 0) (af (pv 1) ai))))
  (ah (rL (aE K8 hr (af (pv 0) (af (pv 1) ai))) (cZ (n:=2) (K:=K) rfl rfl (aS (aC (i:=2) dw.nd rfl (z? rfl)) (aS (aC (i:=3) dw.nd rfl (z? rfl)) cY))))
  (ah (aB (i:=4) dw.nd rfl (z? rfl) (bD ai))
  (ah (cK Po rfl (iy (K:=K) rfl rfl B.enumerate (af (pv 2) ai)) (cZ (n:=2) (K:=K) rfl rfl (aS (aC (i:=5) dw.nd rfl (z? rfl)) (aS (aC (i:=6) dw.nd rfl (z? rfl)) cY)))
   (ah (aB (i:=7) dw.nd rfl (Or.inr rfl) (bI (aJ (K:=K) rfl) (pv 6) (pv 5) (λ_ _=>rfl)))
   (ay (fh (qu R? F! G! dU (pv 4) (af (i8 (af (bM (aF (N:=["number","lead"]) (sl:=[q?,j? 7]) (ao ie) Vd rfl rfl (by decide +kernel)) rfl (bF (K:=K) rfl (eU (eV (K:=K) rfl) (pv 6) f_ (gf (au bU (pv 5) ak)))) (λ_ _ _ _ _=>(aC (i:=0) (Yk_ ["number","lead"]) rfl (z? rfl))) (λ_ _ _ _ _=>aP) (λ_ _ _ _ _=>(au bE (pv 0) (pv 1)))) (af (au bW (pv 3) (aE d7 hr (af (pv 7) (af (pv 1) ai)))) ai))) ai))))))
  (ay (aK (pv 4)))))),?_⟩
 walk_at "rd"
 refine⟨x,y,bp,bf,rfl,pa,fa,q1,q2,λhb1 hb2 a ns p ex ha ey hp mf l2 OF=>?_⟩
 obtain⟨hda,dk,qn,qs⟩:=q3 hb1 hb2 a ns p ex ha ey hp mf l2 OF;subst ex ey;refine⟨dk,qn,λv hv d0=>⟨(qs v hv d0).1,λl7 V4 H1 g1=>?_⟩⟩
 have qo:=(qs v hv d0).2 l7 V4;have pp:=cC hp;obtain⟨n,hn⟩:∃n,ns.length=n+1:=⟨ns.length-1,by omega⟩
 have en:ns.length-1=n:=by omega
 rw[en] at qo;obtain⟨m,em,nd⟩:=hv.Rl;have QH:tg n=1\/tg n=-1:=by
  obtain⟨t1,t2⟩:=Il n (by omega)
  by_cases c:n*(n-1) / 2 % 2=1
  ·exact .inr (t1 c)
  ·exact .inl (t2 c)
 have eD:(det n λi j=>rr (aq ns) n (aq (dl ns)) (dl ns).length i j)=(p:Int) ^ v*(tg n*m):=by
  have e1:tg n*(det n λi j=>rr (aq ns) n (aq (dl ns)) (dl ns).length i j)=(p:Int) ^ v*m:=by rw[<- em];unfold cR;rw[en]
  rcases QH with h|h
  ·rw[h] at e1 ⊢;grind
  ·rw[h] at e1 ⊢;grind
 have Ry:¬ (p:Int) ∣ tg n*m:=λ⟨c,e⟩=>nd (by
  rcases QH with h|h
  ·exact⟨c,by rw[h] at e;grind⟩
  ·exact⟨-c,by rw[h] at e;grind⟩)
 have n1:cD H aD H1:=cD.of g1;obtain⟨ps,L6,_⟩:=id (tq.same g1);refine⟨_,rfl,_,rfl,a,ns,n,p,v,tg n*m,rfl,hp,n1.del _ _ hda,hn,by omega,by omega,mf,dk.1,eD,Ry,V4,tq.same g1,λR ri φ ip d k T s r t H2 n2 Qw X G M V5 ht ett rr=>?_⟩
 have TZ:=(cu ett).2;obtain⟨ps2,OE,_⟩:=id Qw;refine⟨t,_,rfl,kG.of TZ,rfl,_,_,rfl,_,_,rfl,rfl,?_⟩
 refine⟨aV rfl,λtp QI=>?_⟩
 have k3:=aA QI (.lst []);have V6:(L2.upd H2 tp (.lst [])) tp=j? (.lst []):=av;generalize L2.upd H2 tp (.lst [])=H3 at k3 V6;have rH2:Rep H2 Any r (mE n n T):=rr.any.same (eX _ _);obtain⟨lr,us,rfl,hlr,_,C⟩:=id rH2.cf;have T3:cD H aD H2:=n1.trans n2;have ftp:H tp=q?:=T3.fresh ⟨_,OE⟩ QI;have OA:tp≠aD:=λz=>by rw[z,OE] at QI;cases QI
 refine⟨_,rfl,lr,rfl,⟨_,aN.of (k3 _ _ hlr)⟩,j_ (st:=0) (xs:=us) (λi σ H4=>aG H2 H4/\∃(ys:List V) (o1 o2 o3:Option V),σ=[Rq a,Iq (p),Rq lr,Iq (d),Rq tp,o1,o2,o3]/\H4 tp=j? (.lst ys)/\ys.length=i/\∀j,j<i->∃t l,ys[j]?=j? (.ref t)/\H4 t=j? (.tup [.ref l,.int ((d-s j:Nat):Int)])/\H4 l=j? (.lst ((lv (j+1) λq=>T j q / T j j).map V.int))/\t≠tp/\l≠tp/\H2 t=q?/\H2 l=q?)
  ⟨k3,[],_,_,_,rfl,V6,rfl,λj hj=>Jd hj (Wc _)⟩ (λi σ H4 _ h=>aN.of (h.1 _ _ hlr)) ?_ ?_⟩
 ·rintro i vx σ H4 r5 jT ⟨g4,ys,o1,o2,o3,rfl,e4,ly,hys⟩ nr5
  obtain⟨hi,ri⟩:=C.get jT;obtain⟨lx,rfl,hlx,_⟩:=dQ ri;rw[W1];have k5:=aA nr5 (.tup [.int (i:Int),.ref lx]);have e5:(L2.upd H4 r5 (.tup [.int (i:Int),.ref lx])) r5=j? (.tup [.int (i:Int),.ref lx]):=av;generalize L2.upd H4 r5 (.tup [.int (i:Int),.ref lx])=H5 at k5 e5;have g5:=g4.trans k5;refine⟨r5,_,rfl,kG.of e5,rfl,_,_,rfl,_,_,rfl,rfl,?_⟩
  refine⟨_,rfl,_,rfl,lx,_,_,_,rfl,rfl,aN.of (g5 _ _ hlx),ou hi,?_⟩
  refine⟨_,rfl,.inl ⟨rfl,_,aN.of (k5 _ _ e4)⟩,?_⟩
  refine⟨_,rfl,_,rfl,_,_,rfl,rfl,_,rfl,lx,_,rfl,aN.of (g5 _ _ hlx),λl6 n6=>?_⟩
  rw[show iD ((lv n (T i)).map V.int) q? (j? ((i:Int)+1))=(lv (i+1) (T i)).map V.int from by
   rw[show(i:Int)+1=((i+1:Nat):Int) by omega,vY (by rw[Ya,bK];omega),<- List.map_take,K6 (by omega)]]
  have k6:=aA n6 (.lst ((lv (i+1) (T i)).map V.int));have e6:(L2.upd H5 l6 (.lst ((lv (i+1) (T i)).map V.int))) l6=j? (.lst ((lv (i+1) (T i)).map V.int)):=av;generalize L2.upd H5 l6 (.lst ((lv (i+1) (T i)).map V.int))=H6 at k6 e6;obtain⟨V7,sle⟩:=G.pw i hi;have tpos:0<T i i:=by rw[V7];exact Wb (by omega)
  have bTi:Bd 200 (T i i):=by
   have:=G.rC i i hi hi
   exact Bd.le (y:=(p:Int) ^ d) (by omega) (ym hp (by omega))
  refine⟨l6,rfl,⟨_,aN.of e6⟩,λD hD=>?_⟩
  refine lY (λj=>.num (T i j / T i i)) (n:=i+1) (by rw[Ya,bK]) e6 hD (by omega) (λj vz H7 Q2 hj g7 NU q2=>?_) λH7 g7 L8=>?_
  ·obtain⟨y1,hy1,rfl⟩:=aU NU
   rw[dM hj] at hy1;cases hy1;refine⟨_,rfl,_,rfl,_,_,rfl,rfl,bTi.dv (by omega),?_⟩
   show Q2 (V.int ((T i j).fdiv (T i i))) H7
   rw[Zj _ (by omega)]
   exact q2 _ H7 (aG.refl _) (.num _)
  ·obtain⟨lD,eD',Me,nD⟩:=dQ L8
   cases eD';refine⟨_,rfl,_,rfl,_,rfl,T i i,(p:Int),rfl,by omega,by omega,λz H8 g8 sv=>?_⟩
   have sz:z=.int (s i:Int):=by
    rcases sv with ⟨z0,_⟩|⟨_,v',hv',rfl⟩
    ·omega
    ·rw[hv'.uniq (dW.of (v:=s i) (m:=1) (by omega) (by rw[V7,Wv]) (λh=>by have:=Int.le_of_dvd (by decide) h;omega))]
   subst sz;refine⟨_,_,rfl,rfl,aV rfl,λt9 V8=>?_⟩
   generalize hX:L2.upd H8 t9 _=H9;have x9:=b9 V8 hX;clear hX;have k9:=x9.1;have e9:H9 t9=j? (.tup [.ref D,.int ((d-s i:Nat):Int)]):=by
    rw[x9.2];show j? (HO.tup [V.ref D,V.int ((d:Int)-(s i:Int))])=_
    rw[show(d:Int)-(s i:Int)=((d-s i:Nat):Int) by omega]
   have KZ:=(((k5.trans k6).trans g7).trans g8).trans k9;have e49:=KZ _ _ e4;refine⟨tp,_,_,rfl,rfl,e49,by rw[ly,C?];omega,?_⟩
   have T4:H4 D=q?:=(k5.trans k6).free hD;have T5:H4 t9=q?:=(((k5.trans k6).trans g7).trans g8).free V8;have V9:D≠tp:=λz=>by rw[z,e4] at T4;cases T4
   have V_:t9≠tp:=λz=>by rw[z,e4] at T5;cases T5
   refine⟨(g4.trans KZ).aZ QI _,_,_,_,_,rfl,av,by rw[Yi,ly];rfl,λj hj=>?_⟩
   by_cases c:j=i
   ·subst c
    refine⟨t9,D,by rw[<- ly,List.getElem?_concat_length],by rw[aL V_];exact e9,by rw[aL V9];exact k9 _ _ (g8 _ _ Me),V_,V9,g4.free T5,g4.free T4⟩
   ·obtain⟨t',l',h1,h2,h3,h4,h5,h6,h7⟩:=hys j (by omega)
    exact⟨t',l',by rw[Y9 (by omega)];exact h1,by rw[aL h4];exact KZ _ _ h2,by rw[aL h5];exact KZ _ _ h3,h4,h5,h6,h7⟩
 ·rintro σ H4 ⟨g4,ys,o1,o2,o3,rfl,e4,ly,hys⟩
  rw[C.len] at ly hys;have nP:∀b,H2 b=q?->b≠aD:=λb hb z=>by rw[z,OE] at hb;cases hb
  refine⟨_,rfl,qo R ri φ ip d k T s tp ys H4 (T3.trans (cD.of g4)) (Qw.same g4) X G M V5 ftp (by rw[jb OA];exact e4) ⟨ly,λi hi=>?_⟩⟩
  obtain⟨t',l',h1,h2,h3,h4,h5,h6,h7⟩:=hys i hi;exact⟨t',l',h1,by rw[jb (nP _ h6)];exact h2,by rw[jb (nP _ h7)];exact h3,T3.fresh ⟨_,OE⟩ h7,h5⟩
end
section
theorem zI (B:iI mg)(F:Src K mg "_law_trimmed" mW Cm):b_ P w K mg base 1 "_law_trimmed" Cm (pF K):=by
 refine F.ok k8 (λvs H Q E h=>?_) (λf cdv A outer s H vs Q E hr h=>?_)
 ·obtain⟨a,f,rfl,_⟩:=h;rfl
 obtain⟨a,f,rfl,hS,hlen,q⟩:=h;refine⟨_,ah (aB (i:=1) k8.nd rfl (z? rfl) (aM (aQ (K:=K) rfl) rfl B.len b8 (af (pv 0) ai)))
  (ah (ee D? (PW.pt (F3 (aR tO (pv 1) ak (aY _)) (Dp (aR gy (bI (aJ (K:=K) rfl) (pv 0) (au bW (pv 1) ak) (λ_ _=>rfl)) ak (aY _)))))
   (ay (aB (i:=1) k8.nd rfl (z? rfl) (au bW (pv 1) ak))))
  (ay (aK (rN kJ rfl B.list uu (af (eU (eV (K:=K) rfl) (pv 0) f_ (gf (pv 1))) ai))))),?_⟩
 refine⟨_,rfl,a,_,rfl,.inl hS,?_⟩
 rw[Ya];have fin:∀(k:Nat) H2,aG H H2->k<=f.length->gx f f.length=gx f k->gx f k=k->∀p,H2 p=q?->∃p2 ys,[V.ref p]=[.ref p2]/\(aN K (upd H2 p (.lst (iD (f.map V.int) q? (j? (k:Int))))) p2 ys\/kG K (upd H2 p (.lst (iD (f.map V.int) q? (j? (k:Int))))) p2 ys)/\
   ∀l,upd H2 p (.lst (iD (f.map V.int) q? (j? (k:Int)))) l=q?->Q (.ref l) (upd (upd H2 p (.lst (iD (f.map V.int) q? (j? (k:Int))))) l (.lst ys)):=λk H2 g hk e1 e2 p hp=>by
  refine⟨p,_,rfl,.inl (aN.of av),λl hl=>?_⟩
  rw[rT f k hk] at hl ⊢;refine q l _ ((g.trans (aA hp _)).trans (aA hl _)) ((g.trans (aA hp _)).free hl) ?_
  unfold trim;rw[e1,e2];exact av
 refine i_ (λσ H2=>H2=H/\∃k:Nat,σ=[Rq a,j? (.int k)]/\k<=f.length/\gx f f.length=gx f k) (λσ _=>match σ with | [_,j? (.int k)]=>k.toNat|_=>0) ⟨rfl,f.length,rfl,Yd _,rfl⟩ ?_
 rintro σ H2 ⟨rfl,k,rfl,hk,ht⟩;refine⟨_,rfl,_,_,rfl,rfl,_,rfl,fu (λc=>?_) (λc=>?_)⟩
 ·have c':(0:Int)<k:=W9 c
  obtain⟨m,rfl⟩:∃m,k=m+1:=⟨k-1,by omega⟩
  refine⟨_,rfl,_,rfl,_,_,rfl,rfl,a,_,_,_,rfl,rfl,hS,fL (by omega) (by omega),rfl,_,rfl,?_⟩
  have em:(((m+1:Nat):Int)-1).toNat=m:=by omega
  rw[em];refine fu (λc=>?_) (λc=>?_)
  ·have c2:aq f m=0:=V.int.inj (W9 c)
   refine win ⟨_,rfl,_,_,rfl,rfl,⟨rfl,m,?_,by omega,?_⟩,?_⟩
   ·have e:((m+1:Nat):Int)-1=(m:Int):=by omega
    show [j? (V.ref a),j? (V.int (((m+1:Nat):Int)-1))]=_
    rw[e]
   ·exact ht.trans (by show(if aq f m=0 then gx f m else m+1)=_;rw[W7 c2])
   ·show(((m+1:Nat):Int)-1).toNat<(((m+1:Nat):Int)).toNat
    omega
  ·have c2:aq f m≠0:=λz=>c (W8 (Jb V.int z))
   exact⟨_,rfl,_,rfl,_,rfl,a,_,rfl,hS,fin (m+1) _ (aG.refl _) hk ht (by show(if aq f m=0 then gx f m else m+1)=_;rw[W6 c2])⟩
 ·have c':k=0:=by
   have:¬ (0:Int)<k:=λz=>c (W8 z)
   omega
  subst c';refine j7 ?_
  exact⟨_,rfl,_,rfl,_,rfl,a,_,rfl,hS,fin 0 _ (aG.refl _) hk ht rfl⟩
end
def rq (K:bG):Sp:=λvs H Q _=>∃(a b:o?) (f g:List Int),vs=[.ref a,.ref b]/\aN K H a (f.map V.int)/\aN K H b (g.map V.int)/\f.length<=400/\g.length<=400/\fP 1000000 f/\fP 1000000 g/\MX H Q (trim (d9 f g))
def zJ (K:bG):Sp:=λvs H Q _=>∃(a b:o?) (f g:List Int),vs=[.ref a,.ref b]/\H a=j? (.lst (f.map V.int))/\H b=j? (.lst (g.map V.int))/\f.length<=1000/\g.length<=1000/\MX H Q (lW f g)
section
def wu (f g:List Int):List Int:=(Yk (f.length+g.length)).map (conv f g)
theorem Bj (f g:List Int):trim (wu f g)=trim (d9 f g):=Gz λi=>by
 rw[nu];unfold wu;exact fK (λi hi=>mG f g i (by omega)) i
theorem CO (B:iI mg)(iB:b_ P w K mg base 1 "_law_trimmed" Cm (pF K))(F:Src K mg "_law_times" sD sy):b_ P w K mg base 2 "_law_times" sy (rq K):=by
 refine F.ok k_ (λvs H Q E h=>?_) (λf cdv A outer s H vs Q E hr h=>?_)
 ·obtain⟨a,b,f,g,rfl,_⟩:=h;rfl
 obtain⟨a,b,f,g,rfl,ha,hb,lf,lg,bf,bg,q⟩:=h;refine⟨_,ah (aB (i:=2) k_.nd rfl (z? rfl) (au rO (bD (af ak ai)) (au bU (aM (aQ (K:=K) rfl) rfl B.len b8 (af (pv 0) ai)) (aM (aQ (K:=K) rfl) rfl B.len b8 (af (pv 1) ai)))))
  (ah (cK D? rfl (bL rfl B.range (af (aM (aQ (K:=K) rfl) rfl B.len b8 (af (pv 0) ai)) ai)) (aC (i:=3) k_.nd rfl (z? rfl))
   (ay (cK D? rfl (bL rfl B.range (af (aM (aQ (K:=K) rfl) rfl B.len b8 (af (pv 1) ai)) ai)) (aC (i:=4) k_.nd rfl (z? rfl))
    (ay (rL (au bU (bI (aJ (K:=K) rfl) (pv 2) (au bU (pv 3) (pv 4)) (λ_ _=>rfl)) (au aT (bI (aJ (K:=K) rfl) (pv 0) (pv 3) (λ_ _=>rfl)) (bI (aJ (K:=K) rfl) (pv 1) (pv 4) (λ_ _=>rfl)))) (Mv (pv 2) (au bU (pv 3) (pv 4)) set_list))))))
  (ay (aK (aE iB hr (af (pv 2) ai))))),?_⟩
 refine⟨aV rfl,λp3 n3=>?_⟩
 have g3:=aA n3 (.lst [.int 0]);refine⟨_,rfl,a,_,rfl,.inl (g3.seq ha),_,rfl,b,_,rfl,.inl (g3.seq hb),?_⟩
 rw[Ya,Ya];have en:((f.length:Int)+(g.length:Int))=((f.length+g.length:Nat):Int):=by omega
 refine⟨_,_,rfl,rfl,p3,_,_,rfl,rfl,av,by omega,by omega,?_,λp hp=>?_⟩
 ·rw[C?];show 1*_<=_;omega
 rw[en,Yj,qF];have g4:=g3.trans (aA hp (.lst ((Yn (f.length+g.length) (0:Int)).map V.int)));have f4:H p=q?:=g3.free hp;refine⟨_,rfl,a,_,rfl,.inl (g4.seq ha),?_⟩
 rw[Ya];refine⟨_,rfl,by omega,by omega,dF (λi σ H2=>aG H H2/\∃(P:List Int) (o1 o2:Option V),σ=[Rq a,Rq b,Rq p,o1,o2]/\H2 p=j? (.lst (P.map V.int))/\P.length=f.length+g.length/\∀m,m<P.length->aq P m=fE f g i m)
  ⟨g4,_,_,_,rfl,av,by simp,λm hm=>cL _ _⟩ ?_ ?_⟩
 ·rintro i σ H2 hi ⟨gg,P,o1,o2,rfl,eP,lP,hP⟩
  have hi':i<f.length:=by omega
  refine⟨_,rfl,b,_,rfl,.inl (gg.seq hb),?_⟩
  rw[Ya];refine⟨_,rfl,by omega,by omega,dF (λj σ H2=>aG H H2/\∃(P:List Int) (o2:Option V),σ=[Rq a,Rq b,Rq p,j? (.int (0+(i:Int))),o2]/\H2 p=j? (.lst (P.map V.int))/\P.length=f.length+g.length/\∀m,m<P.length->aq P m=oq f g i j m)
   ⟨gg,P,_,rfl,eP,lP,λm hm=>by rw[vc];exact hP m hm⟩ ?_ ?_⟩
  ·rintro j σ H3 hj ⟨gg,P,o2,rfl,eP,lP,hP⟩
   have hj':j<g.length:=by omega
   have LW:((0+(i:Int))+(0+(j:Int)))=((i+j:Nat):Int):=by omega
   have hij:i+j<P.length:=by omega
   have ei:((0:Int)+(i:Int)).toNat=i:=by omega
   have ej:((0:Int)+(j:Int)).toNat=j:=by omega
   have b1:Bd 1000000 (aq f ((0:Int)+(i:Int)).toNat):=bf.aq _;have b2:Bd 1000000 (aq g ((0:Int)+(j:Int)).toNat):=bg.aq _;refine⟨_,rfl,_,rfl,_,rfl,_,_,rfl,rfl,p,_,_,_,rfl,rfl,aN.of eP,fL (by omega) (by omega),?_⟩
   refine⟨_,rfl,_,rfl,a,_,_,_,rfl,rfl,gg.seq ha,fL (by omega) (by omega),_,rfl,_,rfl,b,_,_,_,rfl,rfl,gg.seq hb,fL (by omega) (by omega),_,_,rfl,rfl,zx b1 b2,_,_,rfl,rfl,?_⟩
   refine⟨_,rfl,_,rfl,_,rfl,_,_,rfl,rfl,p,_,_,i+j,rfl,rfl,eP,?_,?_⟩
   ·rw[LW,Ya];exact yM (by omega) (by omega)
   rw[LW,Yj,ei,ej];refine⟨gg.aZ f4 _,P.set (i+j) (aq P (i+j)+aq f i*aq g j),_,rfl,?_,by rw[Ws];exact lP,λm hm=>?_⟩
   ·rw[<- mH];exact av
   ·rw[Ws] at hm
    rw[qC hij,ve,hP m hm];split
    ·rename_i h;subst h;rw[hP _ hm]
    ·rfl
  ·rintro σ H3 ⟨gg,P,o2,rfl,eP,lP,hP⟩
   refine⟨gg,P,_,_,rfl,eP,lP,λm hm=>?_⟩
   rw[<- xU];have:=hP m hm
   rw[Yj] at this;exact this
 ·rintro σ H2 ⟨gg,P,o1,o2,rfl,eP,lP,hP⟩
  have e:P=wu f g:=by
   refine qB ?_ λm hm=>?_
   ·unfold wu;rw[Ya,Yf];exact lP
   ·unfold wu
    rw[mF (by omega),hP m hm,Yj]
    rfl
  subst e;refine⟨_,rfl,p,_,rfl,aN.of eP,by omega,λp2 H3 g3 n3 e3=>?_⟩
  rw[Bj] at e3;exact q p2 H3 (gg.trans g3) (gg.free n3) e3
theorem FA (B:iI mg)(iB:b_ P w K mg base 1 "_law_trimmed" Cm (pF K))(F:Src K mg "_law_plus" qW sy):b_ P w K mg base 2 "_law_plus" sy (zJ K):=by
 refine F.ok nN (λvs H Q E h=>?_) (λf cdv A outer s H vs Q E hr h=>?_)
 ·obtain⟨a,b,f,g,rfl,_⟩:=h;rfl
 obtain⟨a,b,f,g,rfl,ea,eb,lf,lg,q⟩:=h;have ha:aN K H a (f.map V.int):=aN.of ea;have hb:aN K H b (g.map V.int):=aN.of eb;refine⟨_,ah (aB (i:=2) nN.nd rfl (z? rfl) (aM (EA rfl) rfl B.«max» Gp (af (aM (aQ (K:=K) rfl) rfl B.len b8 (af (pv 0) ai)) (af (aM (aQ (K:=K) rfl) rfl B.len b8 (af (pv 1) ai)) ai))))
  (ah (aB (i:=3) nN.nd rfl (Or.inr rfl) (au iE (pv 0) (au rO (bD (af ak ai)) (au bW (pv 2) (aM (aQ (K:=K) rfl) rfl B.len b8 (af (pv 0) ai))))))
  (ah (aB (i:=4) nN.nd rfl (Or.inr rfl) (au iE (pv 1) (au rO (bD (af ak ai)) (au bW (pv 2) (aM (aQ (K:=K) rfl) rfl B.len b8 (af (pv 1) ai))))))
  (ay (aK (aE iB hr (af (bM (aF (N:=["_law_k","_law_one","_law_other"]) (sl:=[q?,j? 3,j? 4]) (ao qW) Vb rfl rfl (by decide +kernel)) rfl (bL rfl B.range (af (pv 2) ai)) (λ_ _ _ _ _=>(aC (i:=0) (Yk_ ["_law_k","_law_one","_law_other"]) rfl (z? rfl))) (λ_ _ _ _ _=>aP) (λ_ _ _ _ _=>(au bU (bI (aJ (K:=K) rfl) (pv 1) (pv 0) (λ_ _=>rfl)) (bI (aJ (K:=K) rfl) (pv 2) (pv 0) (λ_ _=>rfl))))) ai)))))),?_⟩
 refine⟨_,rfl,a,_,rfl,.inl ha,_,rfl,b,_,rfl,.inl hb,_,_,rfl,?_⟩
 rw[Ya,Ya];have em:(if ((g.length:Nat):Int) > ((f.length:Nat):Int) then ((g.length:Nat):Int) else ((f.length:Nat):Int))=((max f.length g.length:Nat):Int):=by split <;> omega
 rw[em];refine⟨_,rfl,aV rfl,λp1 n1=>?_⟩
 have g1:=aA n1 (.lst [.int 0]);refine⟨_,rfl,_,rfl,a,_,rfl,.inl (g1.seq ha),?_⟩
 rw[Ya];have e1:(((max f.length g.length:Nat):Int)-((f.length:Nat):Int))=((max f.length g.length-f.length:Nat):Int):=by omega
 refine⟨_,_,rfl,rfl,p1,_,_,rfl,rfl,av,by omega,by omega,?_,λp2 n2=>?_⟩
 ·rw[C?];show 1*_<=_;omega
 rw[e1,Yj,qF] at*;have g2:=g1.trans (aA n2 (.lst ((Yn (max f.length g.length-f.length) (0:Int)).map V.int)));refine⟨a,p2,_,_,rfl,rfl,g2 _ _ ea,av,?_,λp3 n3=>?_⟩
 ·rw[Ya,Ya,Yv,C?];omega
 rw[<- Yz] at*;have g3:=g2.trans (aA n3 (.lst ((f++Yn (max f.length g.length-f.length) (0:Int)).map V.int)));refine⟨_,rfl,aV rfl,λp4 n4=>?_⟩
 have k4:=aA n4 (.lst [.int 0]);have g4:=g3.trans k4;refine⟨_,rfl,_,rfl,b,_,rfl,.inl (g4.seq hb),?_⟩
 rw[Ya];have e2:(((max f.length g.length:Nat):Int)-((g.length:Nat):Int))=((max f.length g.length-g.length:Nat):Int):=by omega
 refine⟨_,_,rfl,rfl,p4,_,_,rfl,rfl,av,by omega,by omega,?_,λp5 n5=>?_⟩
 ·rw[C?];show 1*_<=_;omega
 rw[e2,Yj,qF] at*;have k5:=aA n5 (.lst ((Yn (max f.length g.length-g.length) (0:Int)).map V.int));have g5:=g4.trans k5;refine⟨b,p5,_,_,rfl,rfl,g5 _ _ eb,av,?_,λp6 n6=>?_⟩
 ·rw[Ya,Ya,Yv,C?];omega
 rw[<- Yz] at*;have k6:=aA n6 (.lst ((g++Yn (max f.length g.length-g.length) (0:Int)).map V.int));have g6:=g5.trans k6;have s3:∀ {H7:Hp},aG (upd (upd (upd (upd (upd (upd H p1 (.lst [.int 0])) p2 (.lst ((Yn (max f.length g.length-f.length) (0:Int)).map V.int))) p3 (.lst ((f++Yn (max f.length g.length-f.length) (0:Int)).map V.int))) p4 (.lst [.int 0])) p5 (.lst ((Yn (max f.length g.length-g.length) (0:Int)).map V.int))) p6 (.lst ((g++Yn (max f.length g.length-g.length) (0:Int)).map V.int))) H7->
   aN K H7 p3 ((f++Yn (max f.length g.length-f.length) (0:Int)).map V.int)/\aN K H7 p6 ((g++Yn (max f.length g.length-g.length) (0:Int)).map V.int):=λs7=>⟨aN.of (s7 _ _ (k6 _ _ (k5 _ _ (k4 _ _ av)))),aN.of (s7 _ _ av)⟩
 refine⟨_,rfl,_,rfl,by omega,by omega,λD hD=>?_⟩
 rw[Yj];refine i9 (λi ys H2=>aG _ H2/\ys=((Yk i).map λi=>aq f i+aq g i).map V.int) ⟨aA hD _,rfl⟩ ?_ ?_
 ·rintro i m ys H2 hm hi hy hlen ⟨gg,rfl⟩
  obtain⟨z1,z2⟩:=s3 gg;have ei:((0:Int)+(i:Int)).toNat=i:=by omega
  refine⟨_,rfl,_,rfl,p3,_,_,_,rfl,rfl,z1,fL (by omega) (by rw[Yi,Yv];omega),_,rfl,_,rfl,p6,_,_,_,rfl,rfl,z2,fL (by omega) (by rw[Yi,Yv];omega),_,_,rfl,rfl,?_⟩
  rw[ei,Ag,Ag];refine CW.emit hm hi (by rw[C?];omega) hy hlen ⟨aG.aZ gg hD _,?_⟩
  rw[Wu,Yz,Yz];rfl
 ·rintro ys H2 hy ⟨gg,rfl⟩
  have gA:=g6.trans gg;refine⟨D,GA f g,rfl,aN.of hy,by unfold GA;rw[Ya,Yf];omega,λp H' g' n' e'=>q p H' (gA.trans g') (gA.free n') e'⟩
end
def IW (K:bG):Sp:=λvs H Q _=>∃(a:o?) (ns:List Int) (k:Int),vs=[.ref a,.int k]/\aN K H a (ns.map V.int)/\0<=k/\∀n:Int,Q (.int n) H
def Bk (K:bG):Sp:=λvs H Q _=>∃(a:o?) (ns:List Int) (k:Int),vs=[.ref a,.int k]/\aN K H a (ns.map V.int)/\0<=k/\k<=100/\∀n:Int,Q (.int n) H
section
theorem CP (B:iI mg)(F:Src K mg "_law_cell_at" mV vU):b_ P w K mg base 1 "_law_cell_at" vU (IW K):=by
 refine F.ok zp (λvs H Q E h=>?_) (λf cdv A outer s H vs Q E hr h=>?_)
 ·obtain⟨a,ns,k,rfl,_⟩:=h;rfl
 obtain⟨a,ns,k,rfl,hS,h0,q⟩:=h;refine⟨_,ah (dS (aR F9 (pv 1) (aM (aQ (K:=K) rfl) rfl B.len b8 (af (pv 0) ai)) (aY _))
   (ay (aK (bI (aJ (K:=K) rfl) (pv 0) (pv 1) (λ_ _=>rfl))))
   (bY))
  (ay (aK ak)),?_⟩
 refine⟨_,rfl,_,rfl,a,_,rfl,.inl hS,_,_,rfl,rfl,_,rfl,?_⟩
 refine fu (λc=>?_) (λc=>?_)
 ·have hk:k<((ns.map V.int).length:Nat):=W9 c
  obtain⟨v,e,hm⟩:=DE (xs:=ns.map V.int) h0 hk;obtain⟨n,_,rfl⟩:=List.mem_map.mp hm;exact⟨_,rfl,_,rfl,_,_,_,_,rfl,rfl,hS,e,q n⟩
 ·exact q 0
theorem FD (B:iI mg)(jH:b_ P w K mg base 1 "_law_cell_at" vU (IW K))(F:Src K mg "_law_number" pB vU):b_ P w K mg base 2 "_law_number" vU (Bk K):=by
 refine F.ok eZ (λvs H Q E h=>?_) (λf cdv A outer s H vs Q E hr h=>?_)
 ·obtain⟨a,ns,k,rfl,_⟩:=h;rfl
 obtain⟨a,ns,k,rfl,hS,h0,h1,q⟩:=h;refine⟨_,ah (dS (aR O2 (aM uX rfl B.abs BH (af (aE jH hr (af (pv 0) (af (pv 1) ai))) ai)) (au uU ak ak) (aY _))
   (ay (aK (aE jH hr (af (pv 0) (af (pv 1) ai)))))
   (bY))
  (ah (aB (i:=2) eZ.nd rfl (z? rfl) (au bU (au bU (aE jH hr (af (pv 0) (af ak ai))) (au aT ak (pv 1))) (au aT ak (aE jH hr (af (pv 0) (af (pv 1) ai))))))
  (ah (aB (i:=2) eZ.nd rfl (z? rfl) (au bU (au bw (pv 2) ak) ak))
  (ah (aB (i:=3) eZ.nd rfl (z? rfl) ak)
  (ah (cK D? rfl (bL rfl B.range (af ak ai)) (aC (i:=4) eZ.nd rfl (z? rfl))
   (ah (aB (i:=2) eZ.nd rfl (z? rfl) (au bw (au bU (au bU (au bU (au aT (pv 2) ak) (au bE (pv 2) ak)) (au aT (au aT ak (pv 4)) (pv 4))) ak) ak))
   (ay (aB (i:=3) eZ.nd rfl (z? rfl) (au bU (au aT (pv 3) ak) (au bw (au aT (pv 2) ak) ak))))))
  (ay (aK (pv 3))))))),?_⟩
 refine⟨_,rfl,_,rfl,a,ns,k,rfl,hS,h0,λn1=>?_⟩
 walk_at "rd"
 refine fu (λc=>?_) (λc=>?_)
 ·exact⟨_,rfl,_,rfl,a,ns,k,rfl,hS,h0,λn=>q n⟩
 refine⟨_,rfl,a,ns,0,rfl,hS,Int.le_refl 0,λn2=>?_⟩
 walk_at "rd"
 refine⟨a,ns,k,rfl,hS,h0,λn3=>?_⟩
 walk_at "rd"
 refine⟨by decide,by decide,dF (n:=12) (λi σ H2=>H2=H/\∃(x t:Int) (j:Option V),σ=[Rq a,j? (.int k),j? (.int x),j? (.int t),j]) ⟨rfl,_,_,_,rfl⟩ ?_ ?_⟩
 ·rintro i σ H2 hi ⟨rfl,x,t,j,rfl⟩
  have hj:lQ (19*(0+(i:Int))) (0+(i:Int)):=kL (by omega) (by omega)
  walk_at "rd"
  refine⟨hj,?_⟩
  walk_at "rd"
  exact⟨rfl,_,_,_,rfl⟩
 ·rintro σ H2 ⟨rfl,x,t,j,rfl⟩
  exact⟨_,rfl,q t⟩
end
def K9 (n:Int):Prop:=n=1\/n=-1
theorem QJ (x:Int):∃n,rF [V.int 1,V.int (-1)] (x.fmod 2)=j? (.int n)/\K9 n:=by
 have r:=gE x (y:=2) (by decide)
 refine pick r.1 r.2 ?_
 intro v hv;simp only[Wk,Z3,or_false] at hv
 rcases hv with rfl|rfl
 ·exact⟨_,rfl,.inl rfl⟩
 ·exact⟨_,rfl,.inr rfl⟩
theorem QK {x s:Int}(h:K9 s):lQ x s:=by rcases h with rfl|rfl <;> exact kL (by decide) (by decide)
theorem K9.bd {x s:Int}{m:Nat}(h:K9 s)(hx:Bd m x):Bd m (x*s):=Bd.le (y:=x) (by rcases h with rfl|rfl <;> simp) hx
theorem N2 {x y:Int}{m:Nat}(hy:0<y)(h:Bd m y):Bd m (x.fmod y):=Bd.le (y:=y) (by have:=gE x hy;omega) h
def zK:Sp:=λvs H Q _=>∃c m k:Int,vs=[.int c,.int m,.int k]/\0<=m/\m<=100/\k=1/\∀f:List Int,Norm f->fP 5 f->(f.length:Int)<=m+1->MX H Q f
section
theorem CQ (B:iI mg)(iB:b_ P w K mg base 1 "_law_trimmed" Cm (pF K))(F:Src K mg "_law_poly" vW E_):b_ P w K mg base 2 "_law_poly" E_ zK:=by
 refine F.ok gP (λvs H Q E h=>?_) (λf cdv A outer s H vs Q E hr h=>?_)
 ·obtain⟨c,m,k,rfl,_⟩:=h;rfl
 obtain⟨c,m,k,rfl,h0,h1,hk,q⟩:=h;refine⟨_,ah (aB (i:=3) gP.nd rfl (z? rfl) (bD ai))
  (ah (aB (i:=4) gP.nd rfl (z? rfl) (au bw (pv 0) (au bU (pv 1) ak)))
  (ah (aB (i:=5) gP.nd rfl (z? rfl) (au bE (pv 0) (au bU (pv 1) ak)))
  (ah (aB (i:=6) gP.nd rfl (z? rfl) (bI (aJ (K:=K) rfl) (bD (af ak (af ak (af (au uU ak ak) (af (au uU ak ak) ai))))) (au bw (pv 2) ak) (λ_ _=>rfl)))
  (ah (cK D? rfl (bL rfl B.range (af (pv 4) ai)) (aC (i:=7) gP.nd rfl (z? rfl))
   (ah (fh (qu R? F! G! dU (pv 3) (af (au aT (au bw (pv 5) (pv 6)) (bI (aJ (K:=K) rfl) (bD (af ak (af (z8 uV ak) ai))) (au bw (au bE (pv 5) (pv 6)) ak) (λ_ _=>rfl))) ai)))
   (ay (aB (i:=5) gP.nd rfl (z? rfl) (au bE (au bE (pv 5) (pv 6)) ak)))))
  (ay (aK (aE iB hr (af (pv 3) ai)))))))),?_⟩
 refine⟨aV rfl,λp hp=>?_⟩
 have g1:=aA hp (.lst []);refine⟨_,rfl,_,rfl,_,_,rfl,rfl,_,_,rfl,rfl,show m+2≠0 by omega,?_⟩
 refine⟨_,rfl,_,rfl,_,_,rfl,rfl,_,_,rfl,rfl,(Bd.small (by omega) (by omega)).dv (show m+2≠0 by omega),?_⟩
 walk_at "rd"
 intro p1 n1;walk_at "rd"
 obtain⟨bs,hbs,hb1,hb2⟩:∃bs:Int,rF [V.int 7,V.int 19,V.int (10 ^ 6),V.int (10 ^ 55)] (k.fmod 4)=j? (.int bs)/\0<bs/\Bd 5 bs:=by
  subst hk;exact⟨19,rfl,by decide,show Zz _<2 ^ 5 by decide⟩
 refine⟨p1,_,_,_,rfl,rfl,aN.of av,hbs,?_⟩
 have rm:=gE c (y:=m+2) (by omega)
 have g2:=g1.trans (aA n1 (.lst [.int 7,.int 19,.int (10 ^ 6),.int (10 ^ 55)]));refine⟨_,rfl,_,rfl,by omega,by omega,dF (λi σ H2=>aG H H2/\∃(P:List Int) (r:Int) (o:Option V),σ=[j? (.int c),j? (.int m),j? (.int k),Rq p,j? (.int (c.fmod (m+2))),j? (.int r),j? (.int bs),o]/\H2 p=j? (.lst (P.map V.int))/\P.length=i/\fP 5 P)
  ⟨g2,[],_,_,rfl,(aA n1 _) _ _ av,rfl,λx hx=>by simp at hx⟩ ?_ ?_⟩
 ·rintro i σ H2 hi ⟨gg,P,r,o,rfl,eP,lP,bP⟩
  refine⟨_,rfl,.inl ⟨rfl,_,aN.of eP⟩,?_⟩
  refine⟨_,rfl,_,rfl,_,_,rfl,rfl,show bs≠0 by omega,?_⟩
  walk_at "rd"
  intro p2 n2;refine⟨_,rfl,_,rfl,_,_,rfl,rfl,hb2.dv (by omega),_,_,rfl,rfl,show(2:Int)≠0 by decide,?_⟩
  obtain⟨sg,hsg,hs⟩:=QJ (r.fdiv bs);refine⟨p2,_,_,_,rfl,rfl,aN.of av,hsg,_,_,rfl,rfl,QK hs,?_⟩
  have k2:=aA n2 (.lst [V.int 1,V.int (-1)]);refine⟨p,_,_,rfl,rfl,k2 _ _ eP,by rw[Ya,C?];omega,?_⟩
  refine⟨_,rfl,_,rfl,_,_,rfl,rfl,hb2.dv (by omega),_,_,rfl,rfl,(Bd.small (by decide) (by decide)).dv (by decide),?_⟩
  refine⟨(gg.trans k2).aZ hp _,P++[r.fmod bs*sg],_,_,rfl,?_,by rw[Yi,lP];rfl,bP.snoc (hs.bd (N2 hb1 hb2))⟩
  rw[<- qG];exact av
 ·rintro σ H2 ⟨gg,P,r,o,rfl,eP,lP,bP⟩
  refine⟨_,rfl,p,P,rfl,aN.of eP,by omega,λp2 H3 g3 n3 e3=>q (trim P) (iX P) bP.trim ?_ p2 H3 (gg.trans g3) (gg.free n3) e3⟩
  have:=qD P P.length
  rw[f6];omega
end
def Bl (K:bG):Sp:=λvs H Q _=>∃(a:o?) (f:List Int) (c:Int) (n:Nat),vs=[.ref a,.int c]/\aN K H a (f.map V.int)/\f.length<=30/\fP 1000000 f/\Bd n c/\1<=n/\1+30*(n+102)<=1000000/\MX H Q (eK c f)
def Mg:Sp:=λvs H Q _=>∃a b:Int,vs=[.int a,.int b]/\0<=b/\Q (.int (EH a b)) H
theorem IX (f g:List Int):(lW f g).length<=max f.length g.length:=by
 unfold lW;rw[f6];refine Ym (qD _ _) ?_
 unfold GA;rw[Ya,Yf];exact Yd _
theorem IY (f:List Int):(trim f).length<=f.length:=by rw[f6];exact qD _ _
theorem IZ (f g:List Int):(d9 f g).length<=f.length+g.length:=by
 unfold d9;split
 ·exact Yw _
 ·rw[Ya,Yf];omega
theorem N3 {a:Int}:(if a<0 then -a else a)=(a.natAbs:Int):=by split <;> omega
theorem euclid {x y:Int}(hy:0<=y)(h:y≠0):Int.gcd y (x.fmod y)=Int.gcd x y/\0<=x.fmod y/\(x.fmod y).natAbs<y.natAbs:=by
 have hp:0<y:=by omega
 have r:=gE x hp;exact⟨Gu x y hp,r.1,by omega⟩
def Ej:Sp:=λvs H Q _=>∃k p:Int,vs=[.int k,.int p]/\k≠0/\2<=p/\p<64/\∀v:Nat,dW p k v->Q (.int v) H
section
theorem CT (wz:b_ P w K mg base 2 "_law_plus" sy (zJ K))(kE:b_ P w K mg base 2 "_law_times" sy (rq K))(F:Src K mg "_law_shift" nQ HX):b_ P w K mg base 3 "_law_shift" HX (Bl K):=by
 refine F.ok gQ (λvs H Q E h=>?_) (λf cdv A outer s H vs Q E hr h=>?_)
 ·obtain⟨a,f,c,n,rfl,_⟩:=h;rfl
 obtain⟨a,f,c,n,rfl,ha,lf,bf,bc,n1,hB,q⟩:=h;refine⟨_,ah (aB (i:=2) gQ.nd rfl (z? rfl) (bD ai))
  (ah (aB (i:=3) gQ.nd rfl (z? rfl) (bD (af ak ai)))
  (ah (cK D? rfl (bF (K:=K) rfl (pv 0)) (aC (i:=4) gQ.nd rfl (Or.inr rfl))
   (ah (aB (i:=2) gQ.nd rfl (z? rfl) (aE wz hr (af (pv 2) (af (bM (aF (N:=["_law_part","_law_one"]) (sl:=[q?,j? 4]) (ao nQ) U9 rfl rfl (by decide +kernel)) rfl (bF (K:=K) rfl (pv 3)) (λ_ _ _ _ _=>(aC (i:=0) (Yk_ ["_law_part","_law_one"]) rfl (z? rfl))) (λ_ _ _ _ _=>aP) (λ_ _ _ _ _=>(au aT (pv 1) (pv 0)))) ai))))
   (ay (aB (i:=3) gQ.nd rfl (z? rfl) (aE kE hr (af (pv 3) (af (bD (af (pv 1) (af ak ai))) ai)))))))
  (ay (aK (pv 2))))),?_⟩
 refine⟨aV rfl,λp1 m1=>?_⟩
 have k1:=aA m1 (.lst []);refine⟨aV rfl,λp2 m2=>?_⟩
 have k2:=aA m2 (.lst [.int 1]);have lm:(f.map V.int).length=f.length:=Ya _;have bk:fP n [c,1]:=λx hx=>by
  simp only[Wk,Z3,or_false] at hx
  rcases hx with rfl|rfl
  ·exact bc
  ·exact Bd.mono (m:=1) (show Zz 1<2 ^ 1 by decide) n1
 refine⟨_,rfl,a,rfl,⟨_,(k1.trans k2).seq ha⟩,j6 (xs:=f.map V.int) (λi σ H2=>aG H H2/\∃(fa sa:o?) (Fi Si:List Int) (o:Option V),σ=[Rq a,j? (.int c),Rq fa,Rq sa,o]/\H fa=q?/\H2 fa=j? (.lst (Fi.map V.int))/\H2 sa=j? (.lst (Si.map V.int))/\jl [c,1] Fi Si ((f.map λa=>trim [a]).drop i)=eK c f/\Fi.length<=i*2+1/\Si.length<=i*2+1/\fP (1+i*(n+102)) Si)
  ⟨k1.trans k2,p1,p2,[],[1],_,rfl,m1,k2 _ _ av,av,GG [c,1] _,Yw _,by show 1<=_;omega,λx hx=>?_⟩ (λi σ H2 _ h=>h.1.seq ha) ?_ ?_⟩
 ·have:x=1:=by simpa using hx
  rw[this];exact Bd.mono (m:=1) (show Zz 1<2 ^ 1 by decide) (by omega)
 ·rintro i x σ H2 hx ⟨gg,fa,sa,Fi,Si,o,rfl,ff,eF,eS,hj,lF,lS,bS⟩
  obtain⟨fi,Ot,rfl⟩:=aU hx;have hi:i<f.length:=(List.getElem?_eq_some_iff.mp Ot).1;have hmem:fi∈f:=Yt Ot;have hin:i*(n+102)+(n+102)<=30*(n+102):=by
   have:(i+1)*(n+102)<=30*(n+102):=Yr _ (by omega)
   rw[Wa,W5] at this;exact this
  have hdr:(f.map λa=>trim [a]).drop i=trim [fi]::(f.map λa=>trim [a]).drop (i+1):=by
   rw[List.drop_eq_getElem_cons (by rw[Ya];omega)]
   congr 1
   have:=(List.getElem?_eq_some_iff.mp Ot).2
   simp[this]
  rw[hdr] at hj;refine⟨_,rfl,_,rfl,sa,rfl,⟨_,aN.of eS⟩,λD hD=>gF (xs:=Si.map V.int) (λj ys H3=>aG H2 H3/\ys=((Si.take j).map λx=>fi*x).map V.int) ⟨aA hD _,rfl⟩ (λj ys H3 _ h=>aN.of (h.1 _ _ eS)) (λj m x ys H3 hm hjl hx hy hlen h=>?_) (λys H3 hy h=>?_)⟩
  ·obtain⟨g3,rfl⟩:=h
   obtain⟨sj,WA,rfl⟩:=aU hx;have bsj:Bd 1000000 sj:=(bS sj (Yt WA)).mono (by omega)
   refine⟨_,rfl,_,rfl,_,_,rfl,rfl,zx (bf fi hmem) bsj,?_⟩
   refine CW.emit hm hjl (by rw[Ya,C?];omega) hy hlen ⟨aG.aZ g3 hD _,?_⟩
   rw[List.take_add_one,WA];simp
  ·obtain⟨g3,rfl⟩:=h
   rw[Ya,List.take_length] at hy;have ls:(Si.map λx=>fi*x).length=Si.length:=Ya _
   refine⟨fa,D,Fi,_,rfl,g3 _ _ eF,hy,by omega,by omega,λp4 H4 g4 n4 e4=>?_⟩
   have WB:=g3.trans g4;refine⟨_,rfl,_,rfl,aV rfl,λp5 n5=>?_⟩
   have k5:=aA n5 (.lst [.int c,.int 1]);refine⟨sa,p5,Si,[c,1],rfl,aN.of (k5 _ _ (WB _ _ eS)),aN.of av,by omega,by show 2<=400;decide,bS.mono (by omega),bk.mono (by omega),λp6 H6 g6 n6 e6=>?_⟩
   have l6:(trim (d9 Si [c,1])).length<=Si.length+2:=Ym (IY _) (IZ _ _);have l4:=IX Fi (Si.map λx=>fi*x)
   rw[BN] at e4 l4;refine⟨((gg.trans WB).trans k5).trans g6,p4,p6,_,_,_,rfl,(gg.trans g3).free n4,g6 _ _ (k5 _ _ e4),e6,hj,?_,?_,((bS.d9 bk).trim).mono ?_⟩
   ·omega
   ·omega
   ·rw[Wa,W5];omega
 ·rintro σ H2 ⟨gg,fa,sa,Fi,Si,o,rfl,ff,eF,eS,hj,lF,lS,bS⟩
  rw[lm,List.drop_of_length_le (by rw[Ya];exact Yd _)] at hj
  refine⟨_,rfl,q fa H2 gg ff ?_⟩
  rw[<- hj];exact eF
theorem Bm (B:iI mg)(F:Src K mg "_law_common" pC Fb):b_ P w K mg base 1 "_law_common" Fb Mg:=by
 refine F.ok tY (λvs H Q E h=>?_) (λf cdv A outer s H vs Q E hr h=>?_)
 ·obtain⟨a,b,rfl,_⟩:=h;rfl
 obtain⟨a,b,rfl,hb,q⟩:=h;refine⟨_,ah (ee D? (aR tN (pv 1) ak (aY _))
   (ay (uQ (i:=0) (j:=1) rfl tY.nd rfl rfl (by decide) rfl rfl (af (pv 1) (af (au bw (pv 0) (pv 1)) ai)) rfl)))
  (ay (aK (aM uX rfl B.abs BH (af (pv 0) ai)))),?_⟩
 refine mw (λσ H2=>H2=H/\∃x y:Int,σ=[j? (.int x),j? (.int y)]/\0<=y/\Int.gcd x y=Int.gcd a b) (λσ _=>match σ with | [_,j? (.int y)]=>y.natAbs|_=>0) ?_ ?_ (λσ H Q Q' f ⟨v,e,s,k,ek,h⟩=>⟨v,e,s,k,ek,f _ _ h⟩)
 ·exact⟨rfl,_,_,rfl,hb,rfl⟩
 rintro σ H2 ⟨rfl,x,y,rfl,hy,hg⟩;refine⟨_,rfl,rfl,_,rfl,?_⟩
 refine fu (λc=>?_) (λc=>?_)
 ·have h0:y≠0:=by intro z;subst z;simp at c
  obtain⟨e1,e2,e3⟩:=euclid (x:=x) hy h0;exact⟨_,rfl,_,rfl,_,rfl,_,_,rfl,rfl,h0,_,_,rfl,⟨rfl,_,_,rfl,e2,e1.trans hg⟩,e3⟩
 ·have h0:y=0:=by by_cases z:y=0;exact z;simp[z] at c
  subst h0;refine⟨_,rfl,_,rfl,?_⟩
  have e:(if x<0 then -x else x)=EH a b:=by
   unfold EH;rw[<- hg,N3];simp
  rw[e];exact q
theorem FE (F:Src K mg "_law_size" vX Cj):b_ P w K mg base 1 "_law_size" Cj Ej:=by
  refine F.ok nO (λvs H Q E h=>?_) (λf cdv A outer s H vs Q E hr h=>?_)
  . obtain⟨a,b,rfl,_⟩:=h;rfl
  obtain⟨k,p,rfl,h0,hp,hp2,q⟩:=h;refine⟨_,ah (aB (i:=2) nO.nd rfl (z? rfl) ak)
    (ah (ee D? (aR gy (au bw (pv 0) (pv 1)) ak (aY _))
      (ah (aB (i:=0) nO.nd rfl (z? rfl) (au bE (pv 0) (pv 1)))
      (ay (aB (i:=2) nO.nd rfl (z? rfl) (au bU (pv 2) ak)))))
    (ay (aK (pv 2)))),?_⟩
  refine mw (λσ H2=>H2=H/\∃(m:Int) (v:Nat),σ=[j? (.int m),j? (.int p),j? (.int v)]/\m≠0/\k=p ^ v*m) (λσ _=>match σ with|some (.int m)::_=>m.natAbs|_=>0) ?_ ?_ ?_
  . exact⟨rfl,k,0,rfl,h0,by simp⟩
  . rintro σ H2 ⟨rfl,m,v,rfl,hm,hk⟩
    refine⟨_,rfl,_,rfl,_,_,rfl,rfl,show p≠0 by omega,rfl,_,rfl,?_⟩
    refine fu (λc=>?_) (λc=>?_)
    . have c':m.fmod p=0:=V.int.inj (W9 c)
      obtain⟨m',rfl⟩:=(qz (by omega)).mp c'
      have hm':m'≠0:=λz=>hm (by rw[z];simp)
      refine⟨_,rfl,_,rfl,_,_,rfl,rfl,(Bd.small (by omega) (by omega)).dv (by omega),?_⟩
      refine⟨_,rfl,_,_,rfl,rfl,⟨rfl,m',v+1,?_,hm',?_⟩,?_⟩
      . show [j? (V.int ((p*m').fdiv p)),j? (V.int p),j? (V.int ((v:Int)+1))]=_
        rw[kN (show p≠0 by omega)]
        rfl
      . rw[hk,Y6];ac_rfl
      . show((p*m').fdiv p).natAbs<(p*m').natAbs
        rw[kN (show p≠0 by omega),Ze]
        have h2:2<=p.natAbs:=by omega
        have h3:0<m'.natAbs:=by omega
        calc m'.natAbs<2*m'.natAbs:=by omega
          _<=p.natAbs*m'.natAbs:=Yr _ h2
    . have c':¬ p ∣ m:=λz=>c (W8 (Jb V.int ((qz (by omega)).mpr z)))
      exact⟨_,rfl,q v (dW.of (by omega) hk c')⟩
  . rintro σ H Q Q' f ⟨v,e,v2,e2,i,j,e3,e4,c,s,k,ek,h⟩
    exact⟨v,e,v2,e2,i,j,e3,e4,c,s,k,ek,f _ _ h⟩
end
def zL:Sp:=λvs H Q _=>∃p k:Nat,vs=[.int (p:Int),.int (k:Int)]/\2<=p/\p<64/\k<=60/\Q (.int ((p ^ k:Nat):Int)) H
theorem iC (c:Int){m:Nat}(h:0<m):∃k:Nat,k<m/\c.fmod (m:Int)=(k:Int):=by
 have h0:=Int.fmod_nonneg_of_pos c (show(0:Int)<(m:Int) by omega)
 have h1:=Int.fmod_lt_of_pos c (show(0:Int)<(m:Int) by omega)
 exact⟨(c.fmod (m:Int)).toNat,by omega,by omega⟩
def PT (r N:Nat)(H:Hp)(Q:VK):Prop:=∀(f:List Int) (n:Nat) (i:Int) (t l:o?) (H':Hp),aG H H'->H' t=j? (.tup [.ref l,.int i])->H' l=j? (.lst (f.map V.int))->Pw r f n->1<=n->n<=N->Q (.ref t) H'
theorem PT.on {r N:Nat}{H H':Hp}{Q:VK}(h:PT r N H Q)(g:aG H H'):PT r N H' Q:=λf n i t l H2 g2=>h f n i t l H2 (g.trans g2)
theorem Ek {p k m:Nat}(hp:p<64)(h:6*k<m):Bd m ((p ^ k:Nat):Int):=by
 show((p ^ k:Nat):Int).natAbs<_
 rw[Int.natAbs_natCast];refine Z0 (Zx (show p<=2 ^ 6 by omega) k) ?_
 rw[<- Wh];exact Wd (by decide) h
theorem rep0 (n:Nat):(Yn n [V.int 0]).flatten=(Yn n (0:Int)).map V.int:=by
 induction n with
 | zero=>rfl
 | succ n ih=>rw[Zo,Wl,ih,Zo];rfl
def zM (n:Nat)(c:Int):List Int:=[c]++Yn (n-1) 0++[1]
theorem K_ {n:Nat}{c:Int}(hn:1<=n)(h8:n<=8)(hc:c.natAbs<=2 ^ 37):Pw 1 (zM n c) n:=by
 have hl:(zM n c).length=n+1:=by
  unfold zM;rw[Yi,Yi,Yv];show 1+(n-1)+1=_
  omega
 have top:aq (zM n c) n=1:=by
  unfold zM aq;rw[Yb,Zb (by rw[Yi,Yv];show 1+_<=_;omega),Yi,Yv,show n-([c].length+(n-1))=0 by show n-(1+(n-1))=0;omega]
  rfl
 refine Pw.of hl ⟨(λz=>by rw[z] at hl;cases hl),by rw[hl];exact top⟩ h8 λk hk=>?_
 have hk':(aq (zM n c) k).natAbs<=if k=0 then c.natAbs else 0:=by
  unfold zM aq;rw[Yb,Y9 (by rw[Yi,Yv];show k<1+_;omega)]
  cases k with
  | zero=>exact Yd _
  | succ k=>
   rw[List.singleton_append,List.getElem?_cons_succ,List.getElem?_replicate];split <;> simp
 have h1:2 ^ 40<=(2 ^ 40) ^ (n-k):=Nat.le_self_pow (by omega) _
 split at hk' <;> omega
def Mh:Sp:=λvs H Q _=>∃p n h u:Nat,vs=[.int (p:Int),.int (n:Int),.int (h:Int),.int (u:Int)]/\2<=p/\p<48/\1<=n/\n<=6/\h<=5/\u<48/\PT 1 n H Q
section
theorem CU (B:iI mg)(F:Src K mg "_law_power" sE Ce):b_ P w K mg base 1 "_law_power" Ce zL:=by
 refine F.ok lB (λvs H Q E h=>?_) (λf cdv A outer s H vs Q E hr h=>?_)
 ·obtain⟨x,k,rfl,_⟩:=h;rfl
 obtain⟨p,k,rfl,h2,h64,h60,q⟩:=h;refine⟨_,ah (aB (i:=2) lB.nd rfl (z? rfl) ak)
  (ah (cK D? rfl (bL rfl B.range (af (pv 1) ai)) (aC (i:=3) lB.nd rfl (z? rfl))
   (ay (aB (i:=2) lB.nd rfl (z? rfl) (au aT (pv 2) (pv 0)))))
  (ay (aK (pv 2)))),?_⟩
 refine⟨_,rfl,_,rfl,by omega,by omega,?_⟩
 rw[Yj];refine dF (λi σ H2=>H2=H/\∃(o:Option V),σ=[Iq (p),Iq (k),Iq ((p ^ i:Nat)),o]) ⟨rfl,_,rfl⟩ ?_ ?_
 ·rintro i σ H2 hi ⟨rfl,o,rfl⟩
  refine⟨_,rfl,_,rfl,_,_,rfl,rfl,kL (by omega) (by omega),rfl,j? (.int (0+(i:Int))),?_⟩
  rw[Zq,Zl];rfl
 ·rintro σ H2 ⟨rfl,o,rfl⟩
  exact⟨_,rfl,q⟩
theorem xu (B:iI mg)(kF:b_ P w K mg base 1 "_law_power" Ce zL)(F:Src K mg "_law_ramified" iW HR):b_ P w K mg base 2 "_law_ramified" HR Mh:=by
 refine F.ok oA (λvs H Q E h=>?_) (λf cdv A outer s H vs Q E hr h=>?_)
 ·obtain⟨p,n,h,u,rfl,_⟩:=h;rfl
 obtain⟨p,n,h,u,rfl,hp,hp2,hn,WC,hh,hu,q⟩:=h;refine⟨_,ah (aB (i:=4) oA.nd rfl (z? rfl) (aM (yf (K:=K) rfl rfl) rfl B.sum Gr (af (bM (aF (N:=["_law_d","_law_high","_law_n"]) (sl:=[q?,j? 2,j? 1]) (ao iW) Va rfl rfl (by decide +kernel)) rfl (bL rfl B.range (af (pv 1) ai)) (λ_ _ _ _ _=>(aC (i:=0) (Yk_ ["_law_d","_law_high","_law_n"]) rfl (z? rfl))) (λ_ _ _ _ _=>aP) (λ_ _ _ _ _=>(au bE (au aT (pv 0) (pv 1)) (pv 2)))) ai)))
  (ay (aK (i8 (af (au iE (au iE (bD (af (au bW ak (au aT (pv 3) (aE kF hr (af (pv 0) (af (pv 2) ai))))) ai)) (au rO (bD (af ak ai)) (au bW (pv 1) ak))) (bD (af ak ai))) (af (pv 4) ai))))),?_⟩
 refine⟨_,rfl,_,rfl,by omega,by omega,λD hD=>?_⟩
 rw[Yj];refine B8 (λj=>.num (((0+(j:Int))*(h:Int)).fdiv (n:Int))) hD (by omega) (λj H2 Q2 hj g2 q2=>?_) λH2 g2 rr=>?_
 ·exact⟨_,rfl,_,rfl,_,_,rfl,rfl,gD (by omega) (by omega),_,rfl,_,_,rfl,rfl,(Bd.small (by omega) (by omega)).dv (by omega),q2 _ H2 (aG.refl _) (.num _)⟩
 obtain⟨lD,eD,Me,_⟩:=dQ (n:=n) (v:=λj=>((0+(j:Int))*(h:Int)).fdiv (n:Int)) rr
 cases eD;refine⟨D,_,rfl,aN.of Me,?_⟩
 refine⟨_,rfl,_,rfl,_,rfl,p,h,rfl,hp,by omega,by omega,?_⟩
 refine⟨_,_,rfl,rfl,gD (by omega) (by omega),_,_,rfl,rfl,aV rfl,λp3 n3=>?_⟩
 generalize hH3:L2.upd H2 p3 _=H3;obtain⟨g3,e3⟩:=b9 n3 hH3;clear hH3;refine⟨aV rfl,λp4 n4=>?_⟩
 generalize hH4:L2.upd H3 p4 _=H4;obtain⟨g4,e4⟩:=b9 n4 hH4;clear hH4;refine⟨_,rfl,_,_,rfl,rfl,p4,((n-1:Nat):Int),_,rfl,Jb V.int (by omega),e4,by omega,by omega,by rw[C?,Yj];show 1*_<=_;omega,λp5 n5=>?_⟩
 rw[Yj,rep0];generalize hH5:L2.upd H4 p5 _=H5;obtain⟨g5,e5⟩:=b9 n5 hH5;clear hH5;refine⟨p3,p5,_,_,rfl,rfl,g5 _ _ (g4 _ _ e3),e5,by rw[C?,Ya,Yv];show 1+_<=_;omega,λp6 n6=>?_⟩
 generalize hH6:L2.upd H5 p6 _=H6;obtain⟨g6,e6⟩:=b9 n6 hH6;clear hH6;refine⟨aV rfl,λp7 n7=>?_⟩
 generalize hH7:L2.upd H6 p7 _=H7;obtain⟨g7,e7⟩:=b9 n7 hH7;clear hH7;refine⟨p6,p7,_,_,rfl,rfl,g7 _ _ e6,e7,by rw[C?,Yi,Ya,Yv];show 1+_+1<=_;omega,λp8 n8=>?_⟩
 generalize hH8:L2.upd H7 p8 _=H8;obtain⟨g8,e8⟩:=b9 n8 hH8;clear hH8;refine⟨_,rfl,aV rfl,λp9 n9=>?_⟩
 generalize hH9:L2.upd H8 p9 _=H9;obtain⟨g9,e9⟩:=b9 n9 hH9;clear hH9;refine q (zM n (0-(u:Int)*((p ^ h:Nat):Int))) n _ p9 p8 H9 (((((((g2.trans g3).trans g4).trans g5).trans g6).trans g7).trans g8).trans g9) e9 ?_ (K_ hn (by omega) ?_) hn (Yd _)
 ·rw[g9 _ _ e8]
  unfold zM;rw[Yz,Yz];rfl
 ·have h1:p ^ h<=47 ^ 5:=Ym (Zx (by omega) h) (Yu (by decide) hh)
  have h2:u*p ^ h<=47*47 ^ 5:=Zf (by omega) h1
  rw[<- Zl];omega
end
def Mi:Sp:=λvs H Q _=>∃(p:Nat) (r:Int) (m:Nat),vs=[.int (p:Int),.int r,.int (m:Int)]/\2<=p/\p<48/\1<=m/\m<=6/\PT 1 m H Q
theorem Em {x:Int}{zs:List Int}:JV (V.int x) (zs.map V.int)=true↔x∈zs:=by
 unfold JV;rw[List.any_eq_true];constructor
 ·rintro⟨y,hy,e⟩
  obtain⟨z,hz,rfl⟩:=List.mem_map.mp hy;have e:(z == x)=true:=e;rw[beq_iff_eq.mp e] at hz;exact hz
 ·exact λh=>⟨_,List.mem_map.mpr ⟨x,h,rfl⟩,by show(x == x)=true;exact beq_self_eq_true _⟩
theorem rz {a b A C:Int}(h0:0<=a)(h1:a<=A)(k0:0<=b)(k1:b<=C):0<=a*b/\a*b<=A*C:=⟨Wx h0 k0,Int.mul_le_mul h1 k1 k0 (by omega)⟩
theorem FF (zs:List Int):(zs.map V.int).all qp=true:=by
 rw[Z9];intro v hv;obtain⟨z,_,rfl⟩:=List.mem_map.mp hv;rfl
section
theorem CV (B:iI mg)(kE:b_ P w K mg base 2 "_law_times" sy (rq K))(jt:b_ P w K mg base 1 "_law_size" Cj Ej)(F:Src K mg "_law_zeros" sF HU):b_ P w K mg base 3 "_law_zeros" HU Mi:=by
 refine F.ok cG (λvs H Q E h=>?_) (λf cdv A outer s H vs Q E hr h=>?_)
 ·obtain⟨p,r,m,rfl,_⟩:=h;rfl
 obtain⟨p,r,m,rfl,hp,hp2,hm,hm6,q⟩:=h;refine⟨_,ah (aB (i:=3) cG.nd rfl (z? rfl) (bD ai))
  (ah (aB (i:=4) cG.nd rfl (z? rfl) (bD (af ak ai)))
  (ah (cK D? rfl (bL rfl B.range (af (pv 2) ai)) (aC (i:=5) cG.nd rfl (z? rfl))
   (ah (aB (i:=6) cG.nd rfl (z? rfl) (au bU (au aT (pv 5) (pv 0)) (au aT (au bw (pv 1) (pv 0)) (bI (aJ (K:=K) rfl) (bD (af ak (af (pv 0) (af (au aT (pv 0) (pv 0)) (af (pv 0) ai))))) (au bw (au bE (pv 1) (pv 0)) ak) (λ_ _=>rfl)))))
   (ah (dS (aR gy (au bw (au bE (au bE (pv 1) (pv 0)) ak) ak) ak (aY _))
    (ay (aB (i:=6) cG.nd rfl (z? rfl) (au bU (pv 6) (au aT (au aT (au aT (pv 0) (pv 0)) (pv 0)) (pv 5)))))
    (bY))
   (ah (ee D? (aR (Gs (K:=K) rfl) (pv 6) (pv 3) (by with_unfolding_all rfl))
    (ay (aB (i:=6) cG.nd rfl (z? rfl) (au bU (pv 6) ak))))
   (ah (fh (qu R? F! G! dU (pv 3) (af (pv 6) ai)))
   (ah (aB (i:=1) cG.nd rfl (z? rfl) (au bE (au bE (pv 1) (pv 0)) ak))
   (ay (aB (i:=4) cG.nd rfl (z? rfl) (aE kE hr (af (pv 4) (af (bD (af (au bW ak (pv 6)) (af ak ai))) ai)))))))))))
  (ah (aB (i:=7) cG.nd rfl (z? rfl) ak)
  (ah (cK D? rfl (bL rfl B.range (af (pv 2) ai)) (aC (i:=8) cG.nd rfl (z? rfl))
   (ay (cK D? rfl (xF rfl B.range (af (au bU (pv 8) ak) (af (pv 2) ai))) (aC (i:=9) cG.nd rfl (z? rfl))
    (ay (aB (i:=7) cG.nd rfl (z? rfl) (au bU (pv 7) (aE jt hr (af (au bW (bI (aJ (K:=K) rfl) (pv 3) (pv 8) (λ_ _=>rfl)) (bI (aJ (K:=K) rfl) (pv 3) (pv 9) (λ_ _=>rfl))) (af (pv 0) ai)))))))))
  (ay (aK (i8 (af (pv 4) (af (pv 7) ai))))))))),?_⟩
 refine⟨aV rfl,λp1 n1=>?_⟩
 generalize hH1:L2.upd H p1 _=H1;obtain⟨g1,e1⟩:=b9 n1 hH1;clear hH1;refine⟨aV rfl,λp2 n2=>?_⟩
 generalize hH2:L2.upd H1 p2 _=H2;obtain⟨g2,e2⟩:=b9 n2 hH2;clear hH2;refine⟨_,rfl,_,rfl,by omega,by omega,?_⟩
 rw[Yj];have T6:p2≠p1:=λz=>by rw[z,e1] at n2;cases n2
 refine dF (λi σ H3=>aG H H3/\∃(zs f:List Int) (fl:o?) (r':Int) (o5 o6 o7 o8 o9:Option V),σ=[Iq (p),j? (.int r'),Iq (m),Rq p1,Rq fl,o5,o6,o7,o8,o9]/\H3 p1=j? (.lst (zs.map V.int))/\H3 fl=j? (.lst (f.map V.int))/\fl≠p1/\Pw 1 f i/\zs.length=i/\zs.Nodup/\∀z∈zs,0<=z/\z<2 ^ 20+(i:Int))
  ⟨g1.trans g2,[],[1],p2,_,_,_,_,_,_,rfl,g2 _ _ e1,e2,T6,Pw.one,rfl,List.nodup_nil,λz hz=>by cases hz⟩ ?_ ?_
 ·clear g1 g2 e1 e2 T6 n2
  rintro i σ H3 hi ⟨g3,zs,f,fl,r',o5,o6,o7,o8,o9,rfl,ez,ef,ne,pw,lz,nd,bz⟩;have hpp:=rz (a:=(p:Int)) (b:=(p:Int)) (A:=47) (C:=47) (by omega) (by omega) (by omega) (by omega)
  have QL:=rz (a:=(p:Int)*(p:Int)) (b:=(p:Int)) (A:=47*47) (C:=47) hpp.1 hpp.2 (by omega) (by omega)
  have hkp:=rz (a:=(0:Int)+(i:Int)) (b:=(p:Int)) (A:=5) (C:=47) (by omega) (by omega) (by omega) (by omega)
  have aat:=rz (a:=(p:Int)*(p:Int)*(p:Int)) (b:=(0:Int)+(i:Int)) (A:=47*47*47) (C:=5) QL.1 QL.2 (by omega) (by omega)
  have rp:=gE r' (y:=(p:Int)) (by omega)
  refine tW (λx:Int=>[Iq (p),j? (.int r'),Iq (m),Rq p1,Rq fl,j? (.int (0+(i:Int))),j? (.int x),o7,o8,o9]) (λx H4=>aG H H4/\H4 p1=j? (.lst (zs.map V.int))/\H4 fl=j? (.lst (f.map V.int))/\0<=x/\x<=101849) (λC key=>?_) ?_
  ·refine⟨_,rfl,_,rfl,_,_,rfl,rfl,gD (by omega) (by omega),_,rfl,_,rfl,_,_,rfl,rfl,(show(p:Int)≠0 by omega),_,rfl,_,rfl,_,rfl,_,_,rfl,rfl,gD (by omega) (by omega),_,rfl,aV rfl,λp4 n4=>?_⟩
   generalize hH4:L2.upd H3 p4 _=H4;obtain⟨g4,e4⟩:=b9 n4 hH4;clear hH4;have r4:=gE (r'.fdiv (p:Int)) (y:=4) (by decide)
   obtain⟨x,hx,x0,x1⟩:=pick (xs:=[V.int 1,.int (p:Int),.int ((p:Int)*(p:Int)),.int (p:Int)]) (P:=λn=>0<=n/\n<=2209) r4.1 r4.2 (by
    intro v hv;simp only[Wk,Z3,or_false] at hv
    rcases hv with rfl|rfl|rfl|rfl
    ·exact⟨_,rfl,by decide,by decide⟩
    ·exact⟨_,rfl,by omega,by omega⟩
    ·exact⟨_,rfl,by omega,by omega⟩
    ·exact⟨_,rfl,by omega,by omega⟩)
   refine⟨_,rfl,_,rfl,_,_,rfl,rfl,(Bd.small (by omega) (by omega)).dv (by omega),_,_,rfl,rfl,(show(4:Int)≠0 by decide),p4,_,_,_,rfl,rfl,aN.of e4,hx,_,_,rfl,rfl,kL (by omega) (by omega),_,_,rfl,rfl,?_⟩
   have hrx:=rz (a:=r'.fmod (p:Int)) (b:=x) (A:=46) (C:=2209) rp.1 (by omega) x0 x1
   exact key _ H4 ⟨g3.trans g4,g4 _ _ ez,g4 _ _ ef,by omega,by omega⟩
  clear g3 ez ef H3;rintro x H3 ⟨g3,ez,ef,x0,x1⟩;refine tW (λx:Int=>[Iq (p),j? (.int r'),Iq (m),Rq p1,Rq fl,j? (.int (0+(i:Int))),j? (.int x),o7,o8,o9]) (λx H4=>H4=H3/\0<=x/\x<2 ^ 20) (λC key=>?_) ?_
  ·refine⟨_,rfl,_,rfl,_,_,rfl,rfl,(Bd.small (by omega) (by omega)).dv (by omega),_,_,rfl,rfl,(Bd.small (by decide) (by decide)).dv (by decide),_,_,rfl,rfl,(show(2:Int)≠0 by decide),rfl,_,rfl,fu (λc1=>?_) (λc1=>key x H3 ⟨rfl,x0,by omega⟩)⟩
   refine⟨_,rfl,_,rfl,_,rfl,_,_,rfl,rfl,gD (by omega) (by omega),_,rfl,_,_,rfl,rfl,kL (by omega) (by omega),_,rfl,_,_,rfl,rfl,kL (by omega) (by omega),_,_,rfl,rfl,?_⟩
   exact key _ H3 ⟨rfl,by omega,by omega⟩
  clear x0 x1 x;rintro x H4 ⟨rfl,x0,x1⟩;refine tW (λx:Int=>[Iq (p),j? (.int r'),Iq (m),Rq p1,Rq fl,j? (.int (0+(i:Int))),j? (.int x),o7,o8,o9]) (λx H5=>H5=H4/\0<=x/\x<2 ^ 20+(i:Int)+1/\x ∉ zs) (λC key=>?_) ?_
  ·refine mw (λσ H5=>H5=H4/\∃x:Int,σ=[Iq (p),j? (.int r'),Iq (m),Rq p1,Rq fl,j? (.int (0+(i:Int))),j? (.int x),o7,o8,o9]/\0<=x/\x<2 ^ 20+(i:Int)+1) (λσ _=>match σ with | [_,_,_,_,_,_,j? (.int x),_,_,_]=>(2 ^ 20+(i:Int)+1-x).toNat|_=>0) ⟨rfl,x,rfl,x0,by omega⟩ ?_ ?_
   ·rintro σ H5 ⟨rfl,y,rfl,y0,y1⟩
    refine⟨_,rfl,_,rfl,p1,_,rfl,.inl (aN.of ez),rfl,FF zs,_,rfl,fu (λc=>?_) (λc=>?_)⟩
    ·have hy:=bz y (Em.mp c)
     refine⟨_,rfl,_,_,rfl,rfl,⟨rfl,y+1,rfl,by omega,by omega⟩,?_⟩
     show(2 ^ 20+(i:Int)+1-(y+1)).toNat<(2 ^ 20+(i:Int)+1-y).toNat
     omega
    ·exact key y _ ⟨rfl,y0,y1,λz=>c (Em.mpr z)⟩
   ·rintro σ H Q Q' f ⟨v,e,v2,e2,p,xs,e3,e4,e5,e6,k,ek,h⟩
    exact⟨v,e,v2,e2,p,xs,e3,e4,e5,e6,k,ek,f _ _ h⟩
  clear x0 x1 x;rintro x H5 ⟨rfl,x0,x1,xn⟩;refine⟨_,rfl,.inl ⟨rfl,_,aN.of ez⟩,_,rfl,p1,_,_,rfl,rfl,ez,by rw[Ya,lz,C?];omega,?_⟩
  generalize hH6:L2.upd H5 p1 _=H6;have e6:H6 p1=j? (.lst ((zs++[x]).map V.int)):=by rw[<- hH6,av,Yz];rfl
  have ef6:H6 fl=j? (.lst (f.map V.int)):=by rw[<- hH6,aL ne];exact ef
  have g6:aG H H6:=by rw[<- hH6];exact g3.aZ n1 _
  clear hH6;refine⟨_,rfl,_,rfl,_,_,rfl,rfl,(Bd.small (by omega) (by omega)).dv (by omega),_,_,rfl,rfl,(Bd.small (by decide) (by decide)).dv (by decide),?_⟩
  refine⟨_,rfl,_,rfl,_,_,rfl,rfl,aV rfl,λp7 n7=>?_⟩
  generalize hH7:L2.upd H6 p7 _=H7;obtain⟨g7,e7⟩:=b9 n7 hH7;clear hH7;have pl:Pw 1 [0-x,1] 1:=Pw.iR (by omega)
  refine⟨fl,p7,f,[0-x,1],rfl,aN.of (g7 _ _ ef6),aN.of e7,by rw[pw.len];omega,(by show 2<=400;decide),pw.ES.mono (by omega),pl.ES.mono (by decide),λl8 H8 g8 n8 e8=>?_⟩
  refine⟨(g6.trans g7).trans g8,zs++[x],_,l8,_,_,_,_,_,_,rfl,g8 _ _ (g7 _ _ e6),e8,(λz=>by rw[z,g7 _ _ e6] at n8;cases n8),pw.mul pl,by rw[Yi,lz];rfl,?_,λz hz=>?_⟩
  ·rw[List.nodup_append]
   refine⟨nd,List.nodup_cons.mpr ⟨Z3,List.nodup_nil⟩,λa ha b hb e=>?_⟩
   rw[List.mem_singleton] at hb;rw[e,hb] at ha;exact xn ha
  ·rcases List.mem_append.mp hz with h|h
   ·have:=bz z h;omega
   ·rw[List.mem_singleton] at h;omega
 ·clear g1 g2 e1 e2 T6 n2 n1
  rintro σ H3 ⟨g3,zs,f,fl,r',o5,o6,o7,o8,o9,rfl,ez,ef,ne,pw,lz,nd,bz⟩;refine⟨_,rfl,_,rfl,by omega,by omega,?_⟩
  rw[Yj];refine dF (λi σ H4=>H4=H3/\∃(x:Int) (o8 o9:Option V),σ=[Iq (p),j? (.int r'),Iq (m),Rq p1,Rq fl,o5,o6,j? (.int x),o8,o9]) ⟨rfl,_,_,_,rfl⟩ ?_ ?_
  ·rintro i σ H4 hi ⟨rfl,x,o8,o9,rfl⟩
   refine⟨_,rfl,_,_,rfl,rfl,_,rfl,_,_,rfl,⟨by omega,by omega,by omega,by omega⟩,?_⟩
   refine dF (λj σ H5=>H5=H4/\∃(x:Int) (o9:Option V),σ=[Iq (p),j? (.int r'),Iq (m),Rq p1,Rq fl,o5,o6,j? (.int x),j? (.int (0+(i:Int))),o9]) ⟨rfl,_,_,rfl⟩ ?_ ?_
   ·rintro j σ H5 hj ⟨rfl,x,o9,rfl⟩
    have hij:i+1+j<m:=by omega
    have a1:=fL (ns:=zs) (i:=0+(i:Int)) (by omega) (by omega)
    have a2:=fL (ns:=zs) (i:=0+(i:Int)+1+(j:Int)) (by omega) (by omega)
    refine⟨_,rfl,_,rfl,_,rfl,p1,_,_,_,rfl,rfl,aN.of ez,a1,_,rfl,_,rfl,p1,_,_,_,rfl,rfl,aN.of ez,a2,_,_,rfl,rfl,_,rfl,_,_,rfl,?_,by omega,by omega,λv _=>⟨_,_,rfl,rfl,rfl,_,_,rfl⟩⟩
    intro z;have hne:=(List.nodup_iff_pairwise_ne.mp nd);rw[show((0:Int)+(i:Int)).toNat=i by omega,show((0:Int)+(i:Int)+1+(j:Int)).toNat=i+1+j by omega] at z
    have:=List.pairwise_iff_getElem.mp hne i (i+1+j) (by omega) (by omega) (by omega)
    unfold aq at z;rw[Yb,Yb,Yc (by omega),Yc (by omega)] at z
    exact this (by simpa using Int.sub_eq_zero.mp z)
   ·rintro σ H5 ⟨rfl,x,o9,rfl⟩
    exact⟨rfl,_,_,_,rfl⟩
  ·rintro σ H4 ⟨rfl,x,o8,o9,rfl⟩
   refine⟨_,rfl,_,rfl,aV rfl,λp5 n5=>?_⟩
   generalize hH5:L2.upd H4 p5 _=H5;obtain⟨g5,e5⟩:=b9 n5 hH5;exact q f m x p5 fl H5 (g3.trans g5) e5 (g5 _ _ ef) pw hm (Yd _)
end
def Mj (K:bG):Sp:=λvs H Q _=>∃(p n h:Nat) (a:o?) (g:List Int),vs=[.int (p:Int),.ref a,.int (h:Int)]/\H a=j? (.lst (g.map V.int))/\g.length=n+1/\L2.dh g/\fP 5 g/\2<=p/\p<48/\1<=n/\n<=6/\h<=2/\PT 1 n H Q
theorem N4 {p n h:Nat}{g:List Int}(lg:g.length=n+1)(mg:L2.dh g)(bg:fP 5 g)(hp:p<48)(hn:n<=6)(hh:h<=2):Pw 1 (lv (n+1) λk=>aq g k*((p ^ (h*(n-k)):Nat):Int)) n:=by
 have top:aq g n=1:=(topC lg mg).one;have hl:(lv (n+1) λk=>aq g k*((p ^ (h*(n-k)):Nat):Int)).length=n+1:=bK _ _
 refine Pw.of hl ⟨(λz=>by rw[z] at hl;cases hl),by rw[hl];show aq _ n=1;rw[nI,W7 (by omega),top,Nat.sub_self,W2];rfl⟩ (by omega) λk hk=>?_
 rw[nI,W7 (by omega),Ze,Int.natAbs_natCast]
 have h1:(aq g k).natAbs<=2 ^ 5:=Wz (bg.aq k);have h2:p ^ (h*(n-k))<=(2 ^ 6) ^ (2*(n-k)):=Ym (Zx (by omega) _) (Yu (by decide) (Yr _ hh))
 have h3:=Zf h1 h2;have h4:8*(2 ^ 5*(2 ^ 6) ^ (2*(n-k)))<=(2 ^ 40) ^ (n-k):=by
  rw[<- Wh,<- Wh,<- Zh,show 8=2 ^ 3 by decide,<- Zh]
  exact Yu (by decide) (by omega)
 omega
section
theorem wA (B:iI mg)(kF:b_ P w K mg base 1 "_law_power" Ce zL)(F:Src K mg "_law_stretched" ig HV):b_ P w K mg base 2 "_law_stretched" HV (Mj K):=by
 refine F.ok mX (λvs H Q E h=>?_) (λf cdv A outer s H vs Q E hr h=>?_)
 ·obtain⟨p,n,h,a,g,rfl,_⟩:=h;rfl
 obtain⟨p,n,h,a,g,rfl,ha,lg,mon,bg,hp,hp2,hn,WC,hh,q⟩:=h;refine⟨_,ah (aB (i:=3) mX.nd rfl (Or.inr rfl) (au bW (aM (aQ (K:=K) rfl) rfl B.len b8 (af (pv 1) ai)) ak))
  (ay (aK (i8 (af (bM (aF (N:=["_law_k","_law_g","_law_p","_law_high","_law_n"]) (sl:=[q?,j? 1,j? 0,j? 2,j? 3]) (ao ig) ["_law_p","_law_g","_law_high","_law_n"] rfl rfl (by decide +kernel)) rfl (bL rfl B.range (af (au bU (pv 3) ak) ai)) (λ_ _ _ _ _=>(aC (i:=0) (Yk_ ["_law_k","_law_g","_law_p","_law_high","_law_n"]) rfl (z? rfl))) (λ_ _ _ _ _=>aP) (λ_ _ _ _ _=>(au aT (bI (aJ (K:=K) rfl) (pv 1) (pv 0) (λ_ _=>rfl)) (aE kF hr (af (pv 2) (af (au aT (pv 3) (au bW (pv 4) (pv 0))) ai)))))) (af (au bE (au aT (au aT (pv 2) (pv 3)) (au bW (pv 3) ak)) ak) ai))))),?_⟩
 have hl:(g.map V.int).length=n+1:=by rw[Ya,lg]
 refine⟨_,rfl,a,_,rfl,.inl (aN.of ha),_,_,rfl,rfl,?_⟩
 show iO 3 (V.int (((g.map V.int).length:Int)-1)) _ _ _
 rw[hl,show(((n+1:Nat):Int)-1)=(n:Int) by omega]
 refine⟨_,rfl,_,_,rfl,rfl,((n+1:Nat):Int),rfl,by omega,by omega,λD hD=>?_⟩
 rw[Yj];refine B8 (λj=>.num (aq g j*((p ^ (h*(n-j)):Nat):Int))) hD (by omega) (λj H2 Q2 hj g2 q2=>?_) λH2 g2 rr=>?_
 ·have a1:=fL (ns:=g) (i:=0+(j:Int)) (by omega) (by omega)
  have VT:(h:Int)*((n:Int)-(0+(j:Int)))=((h*(n-j):Nat):Int):=by rw[Zl,show(n:Int)-(0+(j:Int))=((n-j:Nat):Int) by omega]
  have hle:h*(n-j)<=2*6:=Zf hh (by omega)
  rw[show((0:Int)+(j:Int)).toNat=j by omega] at a1
  refine⟨_,rfl,_,rfl,a,_,_,_,rfl,rfl,aN.of (g2 _ _ ha),a1,_,rfl,_,rfl,_,rfl,_,rfl,_,_,rfl,rfl,_,_,rfl,rfl,gD (by omega) (by omega),p,h*(n-j),Jb (λz=>[V.int (p:Int),V.int z]) VT,hp,by omega,by omega,?_⟩
  refine⟨_,_,rfl,rfl,Bd.ok (bg.aq j) (Ek (m:=100) (by omega) (by omega)),q2 _ H2 (aG.refl _) (.num _)⟩
 obtain⟨lD,eD,Me,_⟩:=dQ (n:=n+1) (v:=λk=>aq g k*((p ^ (h*(n-k)):Nat):Int)) rr
 cases eD;refine⟨_,rfl,_,rfl,_,_,rfl,rfl,gD (by omega) (by omega),_,rfl,_,_,rfl,rfl,_,_,rfl,rfl,kL (by omega) (by omega),_,_,rfl,rfl,(Bd.small (by decide) (by decide)).dv (by decide),aV rfl,λp5 n5=>?_⟩
 generalize hH5:L2.upd H2 p5 _=H5;obtain⟨g5,e5⟩:=b9 n5 hH5;exact q _ n _ p5 D H5 (g2.trans g5) e5 (g5 _ _ Me) (N4 lg mon bg hp2 WC hh) hn (Yd _)
end
theorem En {f:List Int}{n:Nat}(h:Pw 2 f n)(hn1:1<=n)(hn:n<=6):pK f:=by
 have en:f.length-1=n:=by rw[h.len];omega
 refine⟨(h.S0 hn).mono (by decide),1100,by decide,by rw[en];omega,λi j hi=>?_⟩
 rw[en] at hi ⊢;exact h.ent hn1 hn (by rw[pG,en];omega) (h.XX hn) (uK h.top hn1 λm hm=>aX hm) i j hi
def Eo:Sp:=λvs H Q _=>∃(p:Nat) (c:Int) (m:Nat),vs=[.int (p:Int),.int c,.int (m:Int)]/\2<=p/\p<48/\1<=m/\m<=6/\PT 1 m H Q
theorem PT.le {r N M:Nat}{H:Hp}{Q:VK}(h:PT r N H Q)(hM:M<=N):PT r M H Q:=λf n i t l H' a b c d e g=>h f n i t l H' a b c d e (Ym g hM)
section
theorem CY (B:iI mg)(CZ:b_ P w K mg base 1 "_law_common" Fb Mg)(zN:b_ P w K mg base 2 "_law_ramified" HR Mh)(yo:b_ P w K mg base 3 "_law_zeros" HU Mi)(wB:b_ P w K mg base 2 "_law_poly" E_ zK)(d8:b_ P w K mg base 4 "discriminant" ["f"] (zz K))(xw:b_ P w K mg base 2 "_law_stretched" HV (Mj K))(F:Src K mg "_law_piece" sG HS):b_ P w K mg base 5 "_law_piece" HS Eo:=by
 refine F.ok e_ (λvs H Q E h=>?_) (λf cdv A outer s H vs Q E hr h=>?_)
 ·obtain⟨p,c,m,rfl,_⟩:=h;rfl
 obtain⟨p,c,m,rfl,hp,hp2,hm,hm6,q⟩:=h;refine⟨_,ah (aB (i:=3) e_.nd rfl (z? rfl) (au bU ak (au bw (au bE (pv 1) ak) (pv 2))))
  (ah (aB (i:=4) e_.nd rfl (z? rfl) (au bE (pv 1) ak))
  (ah (dS (aR gy (au bw (pv 1) ak) ak (aY _))
   (ah (aB (i:=5) e_.nd rfl (z? rfl) (bI (aJ (K:=K) rfl) (bD (af ak (af ak (af ak (af ak (af ak (af ak ai))))))) (au bw (pv 4) ak) (λ_ _=>rfl)))
   (ah (aB (i:=6) e_.nd rfl (z? rfl) (au bU ak (au bw (au bE (pv 4) ak) (au bW (pv 0) ak))))
   (ah (ee D? (aR tO (aE CZ hr (af (pv 5) (af (pv 3) ai))) ak (aY _))
    (ay (aB (i:=5) e_.nd rfl (z? rfl) (au bW (pv 5) ak))))
   (ay (aK (aE zN hr (af (pv 0) (af (pv 3) (af (pv 5) (af (pv 6) ai))))))))))
   (bY))
  (ah (dS (aR gy (au bw (pv 1) ak) ak (aY _))
   (ay (aK (aE yo hr (af (pv 0) (af (pv 4) (af (pv 3) ai))))))
   (bY))
  (ah (aB (i:=7) e_.nd rfl (z? rfl) (eU (eV (K:=K) rfl) (aE wB hr (af (pv 4) (af (au bW (pv 3) ak) (af ak ai)))) f_ (gf (pv 3))))
  (ah (aB (i:=7) e_.nd rfl (z? rfl) (au iE (au iE (pv 7) (au rO (bD (af ak ai)) (au bW (pv 3) (aM (aQ (K:=K) rfl) rfl B.len b8 (af (pv 7) ai))))) (bD (af ak ai))))
  (ah (dS (aR gy (au bw (aE d8 hr (af (pv 7) ai)) (pv 0)) ak (aY _))
   (ay (aK (aE yo hr (af (pv 0) (af (pv 4) (af (pv 3) ai))))))
   (bY))
  (ay (aK (aE xw hr (af (pv 0) (af (pv 7) (af (bI (aJ (K:=K) rfl) (bD (af ak (af ak (af ak (af ak ai))))) (au bw (au bE (pv 4) (au uU ak ak)) ak) (λ_ _=>rfl)) ai)))))))))))),?_⟩
 obtain⟨k,hk,ek⟩:=iC (c.fdiv 8) (show 0<m by omega)
 refine⟨_,rfl,_,_,rfl,rfl,(Bd.small (by decide) (by decide)).dv (by decide),_,rfl,_,_,rfl,rfl,(show(m:Int)≠0 by omega),_,_,rfl,rfl,?_⟩
 show iO 3 (V.int (1+(c.fdiv 8).fmod (m:Int))) _ _ _
 rw[ek,show(1:Int)+(k:Int)=((1+k:Nat):Int) by omega]
 obtain⟨n,hn⟩:∃n,n=1+k:=⟨_,rfl⟩;rw[<- hn];have n1:1<=n:=by omega
 have nm:n<=m:=by omega
 clear hn ek;refine⟨_,rfl,_,_,rfl,rfl,(Bd.small (by decide) (by decide)).dv (by decide),?_⟩
 show iO 4 (V.int (c.fdiv 64)) _ _ _
 generalize c.fdiv 64=r;refine⟨_,rfl,_,_,rfl,rfl,(show(3:Int)≠0 by decide),rfl,_,rfl,fu (λc1=>?_) (λc1=>?_)⟩
 ·refine⟨aV rfl,λp1 Ep=>?_⟩
  generalize hH1:L2.upd H p1 _=H1;obtain⟨g1,e1⟩:=b9 Ep hH1;clear hH1;obtain⟨h0,hh0,h01,h05⟩:∃h:Nat,rF [V.int 1,.int 2,.int 3,.int 5,.int 1,.int 4] (r.fmod 6)=j? (.int (h:Int))/\1<=h/\h<=5:=by
   obtain⟨k,hk,ek⟩:=iC r (show 0<6 by decide)
   rw[show r.fmod 6=(k:Int) from ek]
   match k,hk with
   | 0,_=>exact⟨1,rfl,by decide,by decide⟩
   | 1,_=>exact⟨2,rfl,by decide,by decide⟩
   | 2,_=>exact⟨3,rfl,by decide,by decide⟩
   | 3,_=>exact⟨5,rfl,by decide,by decide⟩
   | 4,_=>exact⟨1,rfl,by decide,by decide⟩
   | 5,_=>exact⟨4,rfl,by decide,by decide⟩
  refine⟨_,rfl,_,_,rfl,rfl,(show(6:Int)≠0 by decide),p1,_,_,_,rfl,rfl,aN.of e1,hh0,?_⟩
  obtain⟨u,hu,eu⟩:=iC (r.fdiv 6) (show 0<p-1 by omega)
  rw[show((p-1:Nat):Int)=(p:Int)-1 by omega] at eu
  refine⟨_,rfl,_,_,rfl,rfl,(Bd.small (by decide) (by decide)).dv (by decide),_,rfl,_,_,rfl,rfl,_,_,rfl,rfl,(show(p:Int)-1≠0 by omega),_,_,rfl,rfl,?_⟩
  show iO 6 (V.int (1+(r.fdiv 6).fmod ((p:Int)-1))) _ _ _
  rw[eu,show(1:Int)+(u:Int)=((1+u:Nat):Int) by omega]
  show Ends.nx _ (List.set _ _ _) _
  dsimp only
  refine tW (λh:Nat=>[Iq (p),j? (.int c),Iq (m),Iq (n),j? (.int r),Iq (h),Iq ((1+u:Nat)),q?]) (λh H2=>H2=H1/\h<=5) (λC key=>?_) ?_
  ·refine mw (λσ H2=>H2=H1/\∃h:Nat,σ=[Iq (p),j? (.int c),Iq (m),Iq (n),j? (.int r),Iq (h),Iq ((1+u:Nat)),q?]/\1<=h/\h<=5) (λσ _=>match σ with | [_,_,_,_,_,j? (.int h),_,_]=>h.toNat|_=>0) ⟨rfl,h0,rfl,h01,h05⟩ ?_ ?_
   ·rintro σ H2 ⟨rfl,h,rfl,h1,h5⟩
    refine⟨_,rfl,_,rfl,(h:Int),(n:Int),rfl,by omega,_,_,rfl,rfl,_,rfl,fu (λcc=>?_) (λcc=>key h _ ⟨rfl,h5⟩)⟩
    have cc':(1:Int)<EH (h:Int) (n:Int):=W9 cc;have h2:h≠1:=λz=>by
     rw[z] at cc';have:EH ((1:Nat):Int) (n:Int)=1:=by unfold EH;simp
     omega
    refine⟨_,rfl,_,_,rfl,rfl,⟨rfl,h-1,?_,by omega,by omega⟩,?_⟩
    ·show [_,_,_,_,_,j? (V.int ((h:Int)-1)),_,_]=_
     rw[show(h:Int)-1=((h-1:Nat):Int) by omega]
    ·show((h:Int)-1).toNat<(h:Int).toNat
     omega
   ·rintro σ H Q Q' f ⟨v,e,v2,e2,a,b,e3,e4,i,j,e5,e6,k,ek,h⟩
    exact⟨v,e,v2,e2,a,b,e3,e4,i,j,e5,e6,k,ek,f _ _ h⟩
  ·rintro h H2 ⟨rfl,h5⟩
   exact⟨_,rfl,_,rfl,_,rfl,_,rfl,p,n,h,1+u,rfl,hp,hp2,n1,by omega,h5,by omega,(q.le nm).on g1⟩
 ·refine⟨_,rfl,_,_,rfl,rfl,(show(3:Int)≠0 by decide),rfl,_,rfl,fu (λc2=>?_) (λc2=>?_)⟩
  ·exact⟨_,rfl,_,rfl,_,rfl,p,r,n,rfl,hp,hp2,n1,by omega,q.le nm⟩
  refine⟨_,rfl,_,rfl,_,_,rfl,rfl,r,(n:Int)-1,1,rfl,by omega,by omega,rfl,λlow nl bl ll pl H1 g1 npl hpl=>?_⟩
  refine⟨_,rfl,_,rfl,pl,_,rfl,aN.of hpl,λp2 n2=>?_⟩
  rw[vg];generalize hH2:L2.upd H1 p2 _=H2;obtain⟨g2,e2⟩:=b9 n2 hH2;clear hH2;have lt:(low.take n).length<=n:=by rw[Yx];omega
  have bt:fP 5 (low.take n):=λx hx=>bl x (List.mem_of_mem_take hx)
  generalize low.take n=lo at e2 lt bt;refine⟨_,rfl,aV rfl,λp3 n3=>?_⟩
  generalize hH3:L2.upd H2 p3 _=H3;obtain⟨g3,e3⟩:=b9 n3 hH3;clear hH3;refine⟨_,rfl,_,rfl,p2,_,rfl,.inl (aN.of (g3 _ _ e2)),_,_,rfl,rfl,p3,((n-lo.length:Nat):Int),_,rfl,Jb V.int (by rw[Ya];omega),e3,by omega,by omega,by rw[C?,Yj];show 1*_<=_;omega,λp4 n4=>?_⟩
  rw[Yj,rep0];generalize hH4:L2.upd H3 p4 _=H4;obtain⟨g4,e4⟩:=b9 n4 hH4;clear hH4;refine⟨p2,p4,_,_,rfl,rfl,g4 _ _ (g3 _ _ e2),e4,by rw[C?,Ya,Ya,Yv];omega,λp5 n5=>?_⟩
  generalize hH5:L2.upd H4 p5 _=H5;obtain⟨g5,e5⟩:=b9 n5 hH5;clear hH5;refine⟨aV rfl,λp6 n6=>?_⟩
  generalize hH6:L2.upd H5 p6 _=H6;obtain⟨g6,e6⟩:=b9 n6 hH6;clear hH6;refine⟨p5,p6,_,_,rfl,rfl,g6 _ _ e5,e6,by rw[C?,Yi,Ya,Ya,Yv];show _+1<=_;omega,λp7 n7=>?_⟩
  generalize hH7:L2.upd H6 p7 _=H7;obtain⟨g7,e7⟩:=b9 n7 hH7;clear hH7;have gA:=(((((g1.trans g2).trans g3).trans g4).trans g5).trans g6).trans g7;obtain⟨g,lg,mon,bg,eg⟩:∃g:List Int,g.length=n+1/\L2.dh g/\fP 5 g/\H7 p7=j? (.lst (g.map V.int)):=by
   have hl:(lo++Yn (n-lo.length) 0++[1]).length=n+1:=by
    rw[Yi,Yi,Yv];show _+1=_
    omega
   refine⟨lo++Yn (n-lo.length) 0++[1],hl,⟨(λz=>by rw[z] at hl;cases hl),?_⟩,λx hx=>?_,by rw[e7,Yz,Yz];rfl⟩
   ·rw[hl]
    unfold aq;rw[Yb,Zb (by rw[Yi,Yv];omega),Yi,Yv,show n+1-1-(lo.length+(n-lo.length))=0 by omega]
    rfl
   ·rcases List.mem_append.mp hx with h|h
    ·rcases List.mem_append.mp h with h|h
     ·exact bt x h
     ·rw[(List.mem_replicate.mp h).2];show Zz 0<2 ^ 5;decide
    ·rw[List.mem_singleton] at h;rw[h];show Zz 1<2 ^ 5;decide
  clear e2 e3 e4 e5 e6 e7;have pwg:Pw 1 g n:=Pw.of lg mon (by omega) λk hk=>by
   have h1:(aq g k).natAbs<2 ^ 5:=bg.aq k;have h2:2 ^ 40<=(2 ^ 40) ^ (n-k):=Nat.le_self_pow (by omega) _
   omega
  obtain⟨bd,E',hE,QM,hrr⟩:=En (pwg.mono (show 1<=2 by decide)) n1 (by omega)
  rw[show g.length-1=n by omega] at QM hrr
  refine⟨_,rfl,p7,g,n,E',rfl,aN.of eg,lg,n1,by omega,mon,bd,hE,QM,hrr,λH8 g8=>?_⟩
  refine⟨_,rfl,_,_,rfl,rfl,(show(p:Int)≠0 by omega),rfl,_,rfl,fu (λc3=>?_) (λc3=>?_)⟩
  ·exact⟨_,rfl,_,rfl,_,rfl,p,r,n,rfl,hp,hp2,n1,by omega,(q.le nm).on (gA.trans g8)⟩
  refine⟨_,rfl,_,rfl,aV rfl,λp9 n9=>?_⟩
  generalize hH9:L2.upd H8 p9 _=H9;obtain⟨g9,e9⟩:=b9 n9 hH9;clear hH9;obtain⟨h,hh,h2⟩:∃h:Nat,rF [V.int 0,.int 1,.int 1,.int 2] ((r.fdiv (10 ^ 12)).fmod 4)=j? (.int (h:Int))/\h<=2:=by
   obtain⟨k,hk,ek⟩:=iC (r.fdiv (10 ^ 12)) (show 0<4 by decide)
   rw[show(r.fdiv (10 ^ 12)).fmod 4=(k:Int) from ek]
   match k,hk with
   | 0,_=>exact⟨0,rfl,by decide⟩
   | 1,_=>exact⟨1,rfl,by decide⟩
   | 2,_=>exact⟨1,rfl,by decide⟩
   | 3,_=>exact⟨2,rfl,by decide⟩
  refine⟨_,rfl,_,_,rfl,rfl,⟨by decide,by decide,by decide⟩,_,_,rfl,rfl,(Bd.small (by decide) (by decide)).dv (by decide),_,_,rfl,rfl,(show(4:Int)≠0 by decide),p9,_,_,_,rfl,rfl,aN.of e9,hh,?_⟩
  exact⟨p,n,h,p7,g,rfl,g9 _ _ (g8 _ _ eg),lg,mon,bg,hp,hp2,n1,by omega,h2,(q.le nm).on ((gA.trans g8).trans g9)⟩
end
def Bo:Sp:=λvs H Q _=>∃(p:Nat) (a b:Int),vs=[.int (p:Int),.int a,.int b,.int 6]/\2<=p/\p<48/\PT 2 6 H Q
section
theorem C5 (B:iI mg)(yp:b_ P w K mg base 5 "_law_piece" HS Eo)(yq:b_ P w K mg base 3 "_law_shift" HX (Bl K))(mZ:b_ P w K mg base 3 "resultant" l_ (Ik K))(kE:b_ P w K mg base 2 "_law_times" sy (rq K))(jt:b_ P w K mg base 1 "_law_size" Cj Ej)(F:Src K mg "_law_built" sH HQ):b_ P w K mg base 6 "_law_built" HQ Bo:=by
 refine F.ok fW (λvs H Q E h=>?_) (λf cdv A outer s H vs Q E hr h=>?_)
 ·obtain⟨p,a,b,rfl,_⟩:=h;rfl
 obtain⟨p,a,b,rfl,hp,hp2,q⟩:=h;refine⟨_,ah (rL (aE yp hr (af (pv 0) (af (pv 1) (af (bI (aJ (K:=K) rfl) (bD (af (pv 3) (af ak ai))) (au bw (au bE (pv 1) ak) ak) (λ_ _=>rfl)) ai)))) (cZ (n:=2) (K:=K) rfl rfl (aS (aC (i:=4) fW.nd rfl (z? rfl)) (aS (aC (i:=5) fW.nd rfl (z? rfl)) cY))))
  (ah (dS (aR gy (au bw (au bE (pv 1) ak) ak) ak (aY _))
   (ay (aK (i8 (af (aE yq hr (af (pv 4) (af (au bW (au bw (pv 2) ak) ak) ai))) (af (pv 5) ai)))))
   (bY))
  (ah (rL (aE yp hr (af (pv 0) (af (pv 2) (af ak ai)))) (cZ (n:=2) (K:=K) rfl rfl (aS (aC (i:=6) fW.nd rfl (z? rfl)) (aS (aC (i:=7) fW.nd rfl (z? rfl)) cY))))
  (ah (aB (i:=6) fW.nd rfl (z? rfl) (aE yq hr (af (pv 6) (af (bI (aJ (K:=K) rfl) (bD (af ak (af ak (af (pv 0) (af (au bU (pv 0) ak) (af ak ai)))))) (au bw (au bE (pv 2) ak) ak) (λ_ _=>rfl)) ai))))
  (ah (aB (i:=8) fW.nd rfl (z? rfl) (aE mZ hr (af (pv 4) (af (pv 6) ai))))
  (ah (dS (aR gy (pv 8) ak (aY _))
   (ay (aK (i8 (af (pv 4) (af (pv 5) ai)))))
   (bY))
  (ay (aK (i8 (af (aE kE hr (af (pv 4) (af (pv 6) ai))) (af (au bU (au bU (pv 5) (pv 7)) (aE jt hr (af (pv 8) (af (pv 0) ai)))) ai)))))))))),?_⟩
 obtain⟨k2,hk2,ek2⟩:=iC (a.fdiv 4) (show 0<2 by decide)
 refine⟨_,rfl,_,rfl,_,rfl,aV rfl,λp1 n1=>?_⟩
 generalize hH1:L2.upd H p1 _=H1;obtain⟨g1,e1⟩:=b9 n1 hH1;clear hH1;obtain⟨m,hm,m1,m6,m3⟩:∃m:Nat,rF [V.int 6,.int 3] ((a.fdiv 4).fmod 2)=j? (.int (m:Int))/\1<=m/\m<=6/\((a.fdiv 4).fmod 2≠0->m<=3):=by
  rw[show(a.fdiv 4).fmod 2=(k2:Int) from ek2]
  match k2,hk2 with
  | 0,_=>exact⟨6,rfl,by decide,by decide,λz=>Jd rfl z⟩
  | 1,_=>exact⟨3,rfl,by decide,by decide,λ_=>by decide⟩
 refine⟨_,rfl,_,_,rfl,rfl,(Bd.small (by decide) (by decide)).dv (by decide),_,_,rfl,rfl,(show(2:Int)≠0 by decide),p1,_,_,_,rfl,rfl,aN.of e1,hm,?_⟩
 refine⟨p,a,m,rfl,hp,hp2,m1,m6,λf n ix t l H2 g2 et el pf Ep nm=>?_⟩
 have T7:=g1.trans g2;refine⟨t,_,rfl,kG.of et,rfl,_,_,rfl,_,_,rfl,rfl,?_⟩
 refine⟨_,rfl,_,_,rfl,rfl,(Bd.small (by decide) (by decide)).dv (by decide),_,_,rfl,rfl,(show(2:Int)≠0 by decide),rfl,_,rfl,fu (λc1=>?_) (λc1=>?_)⟩
 ·obtain⟨k7,hk7,WD⟩:=iC b (show 0<7 by decide)
  have WD:b.fmod 7=(k7:Int):=WD;refine⟨_,rfl,_,rfl,_,_,rfl,rfl,(show(7:Int)≠0 by decide),_,_,rfl,rfl,l,f,_,8,rfl,aN.of el,by rw[pf.len];omega,pf.ES.mono (by omega),(by show(b.fmod 7-3).natAbs<2 ^ 8;omega),by decide,by decide,λr H3 g3 nr er=>?_⟩
  refine⟨_,rfl,aV rfl,λp4 n4=>?_⟩
  generalize hH4:L2.upd H3 p4 _=H4;obtain⟨g4,e4⟩:=b9 n4 hH4;exact q _ n _ p4 r H4 ((T7.trans g3).trans g4) e4 (g4 _ _ er) (pf.shift (by show(b.fmod 7-3).natAbs<=_;omega)) Ep (by omega)
 have m3:=m3 λz=>c1 (W8 (Jb V.int z))
 refine⟨_,rfl,_,rfl,p,b,3,rfl,hp,hp2,by decide,by decide,λg n' ix' t' l' H3 g3 et' el' pg aaA nm'=>?_⟩
 refine⟨t',_,rfl,kG.of et',rfl,_,_,rfl,_,_,rfl,rfl,?_⟩
 have g03:=T7.trans g3;refine⟨_,rfl,_,rfl,_,rfl,_,_,rfl,rfl,aV rfl,λp4 n4=>?_⟩
 generalize hH4:L2.upd H3 p4 _=H4;obtain⟨g4,e4⟩:=b9 n4 hH4;clear hH4;obtain⟨sh,hsh,s0,s1⟩:∃sh:Nat,rF [V.int 0,.int 1,.int (p:Int),.int ((p:Int)+1),.int 3] ((b.fdiv 3).fmod 5)=j? (.int (sh:Int))/\0<=sh/\sh<=48:=by
  obtain⟨k,hk,ek⟩:=iC (b.fdiv 3) (show 0<5 by decide)
  rw[show(b.fdiv 3).fmod 5=(k:Int) from ek]
  match k,hk with
  | 0,_=>exact⟨0,rfl,by decide,by decide⟩
  | 1,_=>exact⟨1,rfl,by decide,by decide⟩
  | 2,_=>exact⟨p,rfl,by omega,by omega⟩
  | 3,_=>exact⟨p+1,rfl,by omega,by omega⟩
  | 4,_=>exact⟨3,rfl,by decide,by decide⟩
 refine⟨_,rfl,_,_,rfl,rfl,(Bd.small (by decide) (by decide)).dv (by decide),_,_,rfl,rfl,(show(5:Int)≠0 by decide),p4,_,_,_,rfl,rfl,aN.of e4,hsh,?_⟩
 refine⟨l',g,_,8,rfl,aN.of (g4 _ _ el'),by rw[pg.len];omega,pg.ES.mono (by omega),(by show(sh:Int).natAbs<2 ^ 8;omega),by decide,by decide,λr H5 g5 nr er=>?_⟩
 have La:Pw 2 (eK (sh:Int) g) n':=pg.shift (by omega)
 generalize eK (sh:Int) g=gs at er La;have LY:=(g3.trans g4).trans g5;have T8:=LY _ _ el;have RT:=pf.mono (show 1<=2 by decide)
 refine⟨_,rfl,_,rfl,l,r,f,gs,n,1100,rfl,aN.of T8,aN.of er,pf.len,Ep,by omega,by rw[La.len];omega,pf.mon,.inr (by rw[La.mon.2];decide),pf.ES.mono (by omega),La.ES.mono (by omega),by decide,by omega,RT.ent Ep (by omega) (by rw[La.len];omega) (λk=>Ym (La.Oj (by omega) k) (Yu (by decide) (by decide))) (uK RT.top Ep λm hm=>aX hm),λH6 g6=>?_⟩
 generalize det n _=both;have WE:=(T7.trans LY).trans g6;refine⟨_,rfl,rfl,_,rfl,fu (λc2=>?_) (λc2=>?_)⟩
 ·refine⟨_,rfl,_,rfl,aV rfl,λp7 n7=>?_⟩
  generalize hH7:L2.upd H6 p7 _=H7;obtain⟨g7,e7⟩:=b9 n7 hH7;exact q f n _ p7 l H7 (WE.trans g7) e7 (g7 _ _ (g6 _ _ T8)) RT Ep (by omega)
 have c2':both≠0:=λz=>c2 (W8 (Jb V.int z))
 refine⟨_,rfl,_,rfl,l,r,f,gs,rfl,aN.of (g6 _ _ T8),aN.of (g6 _ _ er),by rw[pf.len];omega,by rw[La.len];omega,pf.ES.mono (by omega),La.ES.mono (by omega),λr7 H7 g7 nr7 er7=>?_⟩
 refine⟨_,rfl,_,rfl,_,_,rfl,rfl,_,rfl,_,rfl,both,(p:Int),rfl,c2',by omega,by omega,λv hv=>⟨_,_,rfl,rfl,aV rfl,λp8 n8=>?_⟩⟩
 generalize hH8:L2.upd H7 p8 _=H8;obtain⟨g8,e8⟩:=b9 n8 hH8;exact q _ (n+n') _ p8 r7 H8 ((WE.trans g7).trans g8) e8 (g8 _ _ er7) (RT.mul La) (by omega) (by omega)
end
theorem T9 {p:Nat}(h:p∈PR):JV (V.int (p:Int)) QE=true:=by
 unfold JV QE;rw[List.any_eq_true];exact⟨_,List.mem_map.mpr ⟨p,h,rfl⟩,by show((p:Int) ==(p:Int))=true;exact beq_self_eq_true _⟩
theorem QN {K:bG}{H:Hp}{p:Nat}(h:p∈PR):oE K H (.int (p:Int)) true:=by
 rw[<- T9 h];exact .int _
theorem Lb {H:Hp}{a:o?}{f g:List Int}(h:H a=j? (.lst (f.map V.int)))(h':H a=j? (.lst (g.map V.int))):f=g:=by
 rw[h] at h';exact(List.map_inj_right (f:=V.int) λ_ _ z=>V.int.inj z).mp (HO.lst.inj (M? h'))
theorem Lc {H:Hp}{Pp a:o?}{xs:List V}(t:fQ gC Pp H)(h:H a=j? (.lst xs)):del H Pp a=j? (.lst xs):=by
 obtain⟨ps,hps,_⟩:=t;rw[jb (λz=>by rw[z,hps] at h;cases h)];exact h
theorem Ld {R:Type}[Lean.Grind.CommRing R]{n p k:Nat}{el:Vc->R}{ip:R}{N:Nat->Vc}(B:nK n el)(inv:nt R p*ip=1)(M:MulOk n p el ip k 0 N):∀a,AL (Of el) (nt R p) (p ^ k) a->Of el a:=by
 intro a ha;obtain⟨x,hx⟩:=ha.1;have ea:a=ip*el x:=by rw[<- hx];grind
 rw[ea] at ha;obtain⟨v,z,hv,hz⟩:=M.all x ha;have v0:∀i,v i=0:=by
  have key:∀(l:List Vc) (v:Vc),gB l v->l=[]->∀i,v i=0:=by
   intro l v h e;induction h with
   | zero=>intro i;rfl
   | add a hm _ _=>rw[e] at hm;cases hm
  exact key _ _ hv rfl
 refine⟨z,?_⟩
 rw[ea,B.sup x (λi=>(p:Int)*z i) λi hi=>by rw[hz i hi,v0 i];omega,B.smul,cE]
 grind
structure Told (f:Fn)(n p v:Nat)(k:Nat->Nat):Prop where
 ex:∃(R:Type) (_:Lean.Grind.CommRing R) (φ:Vc->R) (ip:R) (d q:Nat) (T:Nat->Vc) (s:Nat->Nat),Xr f n p φ ip/\gu n p φ ip d T s/\MulOk n p (g_ n φ ip d T) ip q 0 (λ_ _=>0)/\2*d<=v/\(∀i,i<n->k i=d-s i)/\2*tot n k<=v
theorem I_ {f:List Int}{n p v:Nat}(en:f.length-1=n)(n26:n<=26)(hv:dW (p:Int) (cR f) v):∃u:Int,(det n λi j=>rr (aq f) n (aq (dl f)) (dl f).length i j)=(p:Int) ^ v*u/\¬ (p:Int) ∣ u:=by
 obtain⟨m,em,nd⟩:=hv.Rl;have QH:tg n=1\/tg n=-1:=by
  obtain⟨t1,t2⟩:=Il n n26;by_cases c:n*(n-1) / 2 % 2=1
  ·exact .inr (t1 c)
  ·exact .inl (t2 c)
 have e1:tg n*(det n λi j=>rr (aq f) n (aq (dl f)) (dl f).length i j)=(p:Int) ^ v*m:=by rw[<- em];unfold cR;rw[en]
 refine⟨tg n*m,?_,λ⟨c,e⟩=>nd ?_⟩
 ·rcases QH with h|h
  ·rw[h] at e1 ⊢;grind
  ·rw[h] at e1 ⊢;grind
 ·rcases QH with h|h
  ·exact⟨c,by rw[h] at e;grind⟩
  ·exact⟨-c,by rw[h] at e;grind⟩
theorem Er {d:Nat}{s k:Nat->Nat}:∀n,(∀i,i<n->s i<=d/\k i=d-s i)->tot n k+tot n s=d*n
 | 0,_=>by show 0+0=_;omega
 | n+1,h=>by
  have:=Er n λi hi=>h i (by omega)
  have:=h n (by omega)
  show tot n k+k n+(tot n s+s n)=_
  rw[Wp];omega
theorem Told.of {R:Type}[Lean.Grind.CommRing R]{f:List Int}{n p v d q:Nat}{φ:Vc->R}{ip:R}{T:Nat->Vc}{s:Nat->Nat}(lf:f.length=n+1)(mf:L2.dh f)(n1:1<=n)(n6:n<=6)(hp:p∈PR)(hv:dW (p:Int) (cR f) v)(X:Xr (aq f) n p φ ip)(G:gu n p φ ip d T s)(M:MulOk n p (g_ n φ ip d T) ip q 0 (λ_ _=>0)):Told (aq f) n p v λi=>d-s i:=by
 obtain⟨u,hD,hu⟩:=I_ (n:=n) (by omega) (by omega) hv
 have T_:(dl f).length=n:=by rw[pG,lf];omega
 rw[T_] at hD;have le:=kT.le X (topC lf mf) n1 (cC hp).1 G.lor (g:=aq (dl f)) (λm _=>jE f m) (λi hi=>(G.pw i hi).1) hD hu
 have dep:=G.dep;have ts:=Er (d:=d) (s:=s) (k:=λi=>d-s i) n λi hi=>⟨(G.pw i hi).2,rfl⟩
 exact⟨R,inferInstance,φ,ip,d,q,T,s,X,G,M,by omega,λi _=>rfl,by omega⟩
theorem Told.le {f g:Fn}{n p v:Nat}{k k':Nat->Nat}(hp:p∈PR)(a:Told f n p v k)(b:Told g n p v k')(h:∀m,(p:Int) ^ (v+1) ∣ g m-f m){i:Nat}(hi:i<n):k i<=k' i:=by
 obtain⟨R,_,φ,ip,d,q,T,s,X,G,M,h1,h2,_⟩:=a.ex;obtain⟨R',_,φ',S4,d',q',T',s',X',G',M',h1',h2',_⟩:=b.ex;have L1:=kT.near X X' G.lor h (by omega)
 have:=kT.P5 X' hp L1 G'.lor M'.ge (Ld (X'.t_.lX (d:=d') X'.inv G'.lor.st) X'.inv M') (λi hi=>(G.pw i hi).1) (λi hi=>(G'.pw i hi).1) hi
 rw[h2 i hi,h2' i hi];have:=(G.pw i hi).2
 omega
theorem Told.same {f g:Fn}{n p v:Nat}{k k':Nat->Nat}(hp:p∈PR)(a:Told f n p v k)(b:Told g n p v k')(h:∀m,(p:Int) ^ (v+1) ∣ g m-f m){i:Nat}(hi:i<n):k i=k' i:=
 Nat.le_antisymm (Told.le hp a b h hi) (Told.le hp b a (λm=>by obtain⟨c,hc⟩:=h m;exact⟨-c,by rw[Int.mul_neg,<- hc];omega⟩) hi)
theorem Es {s:Nat->Nat}:∀n {i:Nat},i<n->s i<=tot n s
 | 0,_,h=>by omega
 | n+1,i,h=>by
  show s i<=tot n s+s n
  by_cases c:i=n
  ·rw[c];omega
  ·have:=Es (s:=s) n (show i<n by omega);omega
structure Ua (H:Hp)(n:Nat)(k:Nat->Nat)(vs:List V):Prop where
 len:vs.length=n
 at_:∀i,i<n->∃t l,vs[i]?=j? (.ref t)/\H t=j? (.tup [.ref l,.int (k i:Int)])
section
theorem kH.calm {k:Nat}{f:o?}{fd:O!}{ps:List Str}{sp:Sp}(F:kH P w K mg base (JA P w) k f fd ps sp):kH P w K mg base Dz k f fd ps λvs H Q _=>sp vs H Q λ_ _ _=>False:=
 ⟨λvs H Q E h=>F.len _ _ _ _ h,λA outer s H args us vs Q E hr e0 hb hv hs=>codeAny_mono (F.run A outer s H args us vs Q _ hr e0 hb hv hs) λr s' q=>by
  cases r with
  | error e=>
   obtain⟨ea,C,H',_,_,h⟩:=q;exact h.elim
  | ok fl=>cases fl <;> exact q⟩
theorem vH.calm {k:Nat}{x:Str}{ps:List Str}{sp:Sp}(D:vH P w K mg base k x ps sp):b_ P w K mg base k x ps λvs H Q _=>sp vs H Q λ_ _ _=>False:=by
 obtain⟨f,fd,F,r⟩:=D.ex;exact⟨f,fd,kH.calm F,r⟩
def Et (Pp:o?):Sp:=λvs H Q _=>∃(a:o?) (f:List Int) (n p v:Nat),vs=[.ref a,.int (p:Int)]/\H a=j? (.lst (f.map V.int))/\f.length=n+1/\L2.dh f/\pK f/\1<=n/\n<=6/\p∈PR/\fQ gC Pp H/\cR f≠0/\dW (p:Int) (cR f) v/\v<=24/\∀(k:Nat->Nat) r us H',cD H Pp H'->fQ gC Pp H'->Told (aq f) n p v k->H' r=j? (.lst us)->Ua H' n k us->Q (.ref r) H'
theorem Jc {aD C1 C2 C3 C4:o?}(D:vH P w K mg base 11 "whole_basis" jA (Ei K aD C1 C2 C3 C4)):b_ P w K mg base 11 "whole_basis" jA (Et aD):=by
 obtain⟨fa,fd,F,r⟩:=(vH.calm D).ex;refine⟨fa,fd,F.imp λvs H Q E h=>?_,r⟩
 obtain⟨a,f,n,p,v,rfl,ha,lf,mf,dk,n1,n6,hp,tq,h0,hv,h24,q⟩:=h;refine⟨.ref a,.int (p:Int),true,true,rfl,QN hp,.NY ha (by omega) true ⟨λ_=>⟨mf,by omega,by omega⟩,λ_=>rfl⟩,tq,λz=>(nomatch z),λ_ z=>(nomatch z),λ_ _ a' f' p' ex ha' ey hp' mf l2 OF=>?_⟩
 cases ex;have ef:=Lb ha ha';subst ef;have ep:p=p':=by have:=V.int.inj ey;omega
 subst ep;refine⟨Lc tq ha,dk,λz=>Jd z h0,λv' hv' _=>?_⟩
 have evv:=hv.uniq hv';subst evv;refine⟨λz=>by omega,λ_ _ R _ φ ip d k T s r vs H' hN hT X G M V5 hr hv' ba=>?_⟩
 have en:f.length-1=n:=by omega
 rw[en] at X G M ba;refine q _ r vs H' hN hT (Told.of lf mf n1 n6 hp hv X G M) (cu hv').2 ⟨ba.len,λi hi=>?_⟩
 obtain⟨t,l,h1,h2,_⟩:=ba.at_ i hi;exact⟨t,l,h1,(cu h2).2⟩
end
theorem Le (c:Int):∃p:Nat,p∈PR/\rF [V.int 2,.int 3,.int 2,.int 3,.int 2,.int 5,.int 7,.int 11,.int 13,.int 17,.int 19,.int 23,.int 29,.int 31,.int 37,.int 41,.int 43,.int 47,.int 2,.int 3] (c.fmod 20)=j? (.int (p:Int)):=by
 obtain⟨k,hk,ek⟩:=iC c (show 0<20 by decide)
 rw[show c.fmod 20=(k:Int) from ek]
 have key:∀k:Nat,k<20->∃p:Nat,p∈PR/\([2,3,2,3,2,5,7,11,13,17,19,23,29,31,37,41,43,47,2,3]:List Nat)[k]?=j? p:=by decide
 obtain⟨p,hp,e⟩:=key k hk;refine⟨p,hp,fH ?_⟩
 have:=Jb (Option.map λn:Nat=>V.int (n:Int)) e
 rw[<- Ye] at this;exact this
def Ew (K:bG)(Pp:o?):Sp:=λvs H Q _=>∃(a:o?) (ns:List Int),vs=[.ref a]/\aN K H a (ns.map V.int)/\ns.length<=63/\H Pp=j? (.uN #[])/\∀H',Q (.bl true) H'
theorem FG {f:List Int}{n:Nat}(lf:f.length=n+1)(mf:L2.dh f)(n1:1<=n)(n6:n<=6)(b:∀j,(aq f j).natAbs<=10 ^ 59):pK f:=by
 have en:f.length-1=n:=by omega
 have b2:∀j,(aq f j).natAbs+1<=2 ^ 196:=λj=>Ym (Nat.succ_le_succ (b j)) (by decide)
 refine⟨vf λj _=>Yh (b2 j) (Yu (by decide) (by decide)),1375,by decide,by rw[en];omega,λi j hi=>?_⟩
 rw[en] at hi ⊢;have T_:(dl f).length=n:=by rw[pG,lf];omega
 rw[T_];have hg:∀k,(aq (dl f) k).natAbs<=2 ^ 199:=λk=>by
  by_cases c:k<n
  ·rw[jE,Ze]
   refine Ym (Zf (show((k+1:Nat):Int).natAbs<=2 ^ 3 by omega) (Nat.le_of_succ_le (b2 (k+1)))) ?_
   rw[<- Zh];exact Yd _
  ·rw[aX (by omega)];exact Yw _
 have:=HP (f:=aq f) (n:=n) (L:=n) (g:=aq (dl f)) (Yd n) hg b2 i j
 exact Ym this (Yu (by decide) (by omega))
section
theorem N5 {aD:o?}(B:iI mg)(lG:b_ P w K mg base 2 "_law_number" vU (Bk K))(FH:b_ P w K mg base 6 "_law_built" HQ Bo)(d8:b_ P w K mg base 4 "discriminant" ["f"] (zz K))(jt:b_ P w K mg base 1 "_law_size" Cj Ej)(wB:b_ P w K mg base 2 "_law_poly" E_ zK)(kF:b_ P w K mg base 1 "_law_power" Ce zL)(wz:b_ P w K mg base 2 "_law_plus" sy (zJ K))(oG:b_ P w K mg base 11 "whole_basis" jA (Et aD))
  {f:o?} {fd:O!} (F:Jx K "law" "law" ku f fd):kH P w K mg base Dz 13 f fd ["_law_script"] (Ew K aD):=by
 refine F.ok jk (λvs H Q E h=>?_) (λcdv A outer s H vs Q E hr h=>?_)
 ·obtain⟨a,ns,rfl,_⟩:=h;rfl
 obtain⟨la,ns,rfl,hs,hl,WG,q⟩:=h;refine⟨_,ah (aB (i:=1) jk.nd rfl (z? rfl) (bI (aJ (K:=K) rfl) (bD (af ak (af ak (af ak (af ak (af ak (af ak (af ak (af ak (af ak (af ak (af ak (af ak (af ak (af ak (af ak (af ak (af ak (af ak (af ak (af ak ai))))))))))))))))))))) (au bw (aE lG hr (af (pv 0) (af ak ai))) ak) (λ_ _=>rfl)))
  (ah (rL (aE FH hr (af (pv 1) (af (aE lG hr (af (pv 0) (af ak ai))) (af (aE lG hr (af (pv 0) (af ak ai))) (af ak ai))))) (cZ (n:=2) (K:=K) rfl rfl (aS (aC (i:=2) jk.nd rfl (z? rfl)) (aS (aC (i:=3) jk.nd rfl (z? rfl)) cY))))
  (ah (aB (i:=4) jk.nd rfl (z? rfl) (aE d8 hr (af (pv 2) ai)))
  (ah (dS (PW.pt (z6 (aR gy (pv 4) ak (aY _)) (yx (aR tO (aE jt hr (af (pv 4) (af (pv 1) ai))) ak (aY _)))))
   (ay (aK z5))
   (bY))
  (ah (aB (i:=5) jk.nd rfl (z? rfl) (aE jt hr (af (pv 4) (af (pv 1) ai))))
  (ah (aB (i:=6) jk.nd rfl (z? rfl) (eU (eV (K:=K) rfl) (aE wB hr (af (aE lG hr (af (pv 0) (af ak ai))) (af (au bW (aM (aQ (K:=K) rfl) rfl B.len b8 (af (pv 2) ai)) ak) (af ak ai)))) f_ (gf (au bW (aM (aQ (K:=K) rfl) rfl B.len b8 (af (pv 2) ai)) ak))))
  (ah (aB (i:=7) jk.nd rfl (Or.inr rfl) (aE kF hr (af (pv 1) (af (au bU (pv 5) ak) ai))))
  (ah (aB (i:=8) jk.nd rfl (z? rfl) (aE wz hr (af (pv 2) (af (bM (aF (N:=["_law_one","_law_step"]) (sl:=[q?,j? 7]) (ao ku) P6 rfl rfl (by decide +kernel)) rfl (bF (K:=K) rfl (pv 6)) (λ_ _ _ _ _=>(aC (i:=0) (Yk_ ["_law_one","_law_step"]) rfl (z? rfl))) (λ_ _ _ _ _=>aP) (λ_ _ _ _ _=>(au aT (pv 0) (pv 1)))) ai))))
  (ah (dS (aR tO (aM (BL (K:=K) rfl rfl) rfl B.«max» Gp (af (bM (aF (N:=["_law_one"]) (sl:=[q?]) (ao ku) P6 rfl rfl (by decide +kernel)) rfl (bF (K:=K) rfl (pv 8)) (λ_ _ _ _ _=>(aC (i:=0) (Yk_ ["_law_one"]) rfl (z? rfl))) (λ_ _ _ _ _=>aP) (λ_ _ _ _ _=>(aM uX rfl B.abs BH (af (pv 0) ai)))) ai)) (au uU ak ak) (aY _))
   (ay (aK z5))
   (bY))
  (ah (jC (i:=9) jk.nd rfl (z? rfl) (aF (N:=Fd) (sl:=[q?,q?]) (ao ku) P6 rfl rfl (by decide +kernel)) rfl (bF (K:=K) rfl (aE oG hr (af (rN kJ rfl B.list uu (af (pv 2) ai)) (af (pv 1) ai)))) (λ_ _ _ _ _=>(cZ (n:=2) (K:=K) rfl rfl (aS (aC (i:=0) (Yk_ Fd) rfl (z? rfl)) (aS (aC (i:=1) (Yk_ Fd) rfl (z? rfl)) cY)))) (λ_ _ _ _ _=>aP) (λ_ _ _ _ _=>(pv 1)))
  (ah (aB (i:=10) jk.nd rfl (z? rfl) (aE d8 hr (af (pv 8) ai)))
  (ah (dS (PW.pt (z6 (aR gy (pv 10) ak (aY _)) (z6 (aR tN (aE jt hr (af (pv 10) (af (pv 1) ai))) (pv 5) (aY _)) (yx (aR (uv (K:=K) rfl hr.units) (bM (aF (N:=Fd) (sl:=[q?,q?]) (ao ku) P6 rfl rfl (by decide +kernel)) rfl (bF (K:=K) rfl (aE oG hr (af (pv 8) (af (pv 1) ai)))) (λ_ _ _ _ _=>(cZ (n:=2) (K:=K) rfl rfl (aS (aC (i:=0) (Yk_ Fd) rfl (z? rfl)) (aS (aC (i:=1) (Yk_ Fd) rfl (z? rfl)) cY)))) (λ_ _ _ _ _=>aP) (λ_ _ _ _ _=>(pv 1))) (pv 9) (aY _))))))
   (ay (aK z5))
   (bY))
  (ay (aK (Lk (nk tO (pv 5) ak (aY _)) (rK (F4 (aM (Cd (K:=K) rfl rfl) rfl B.any MS (af (pv 9) ai)))))))))))))))))),?_⟩
 refine⟨aV rfl,λp1 n1=>?_⟩
 generalize hH1:L2.upd H p1 _=H1;obtain⟨g1,e1⟩:=b9 n1 hH1;clear hH1;refine⟨_,rfl,la,ns,3,rfl,g1.seq hs,by decide,by decide,λc3=>?_⟩
 obtain⟨p,hp,hpx⟩:=Le c3;have pp:=cC hp;refine⟨_,_,rfl,rfl,(show(20:Int)≠0 by decide),p1,_,_,_,rfl,rfl,aN.of e1,hpx,?_⟩
 refine⟨_,rfl,_,rfl,la,ns,1,rfl,g1.seq hs,by decide,by decide,λc1=>?_⟩
 refine⟨_,rfl,la,ns,2,rfl,g1.seq hs,by decide,by decide,λc2=>?_⟩
 have p48:p<48:=(show ∀p∈PR,p<48 by decide) p hp
 refine⟨p,c1,c2,rfl,by omega,p48,λf n ix t l H2 g2 et el pw Ep n6=>?_⟩
 refine⟨t,_,rfl,kG.of et,rfl,_,_,rfl,_,_,rfl,rfl,?_⟩
 have dk:=En pw Ep n6;obtain⟨bd,E',hE,QM,hrr⟩:=id dk;have en:f.length-1=n:=by rw[pw.len];omega
 rw[en] at QM hrr;refine⟨_,rfl,l,f,n,E',rfl,aN.of el,pw.len,Ep,by omega,pw.mon,bd,hE,QM,hrr,λH3 g3=>?_⟩
 have ed:tg n*det n (λi j=>rr (aq f) n (aq (dl f)) (dl f).length i j)=cR f:=by
  unfold cR;rw[en]
 rw[ed];refine⟨_,rfl,rfl,_,rfl,fu (λc=>j8 (q _)) (λc=>?_)⟩
 have h0:cR f≠0:=λz=>c (W8 (Jb V.int z))
 refine⟨_,rfl,_,rfl,cR f,(p:Int),rfl,h0,by omega,by omega,λv hv=>⟨_,_,rfl,rfl,_,rfl,fu (λc=>q _) (λc=>?_)⟩⟩
 have c':¬ (24:Int)<(v:Int):=λz=>c (W8 z)
 refine⟨_,rfl,_,rfl,cR f,(p:Int),rfl,h0,by omega,by omega,λv' hv'=>?_⟩
 have ev:=hv.uniq hv';subst ev;have gA:=(g1.trans g2).trans g3;have RU:=g3 _ _ el;have ID:fQ gC aD H3:=(fQ.nil WG).same gA;have VO:=gA _ _ WG;have LH:=gA.seq hs;clear gA g1 g2 g3 e1 et;refine⟨_,rfl,la,ns,4,rfl,LH,by decide,by decide,λc4=>?_⟩
 refine⟨_,rfl,l,_,rfl,.inl (aN.of RU),_,_,rfl,rfl,c4,(n:Int)-1,1,Jb (λz=>[V.int c4,V.int z,V.int 1]) (by rw[Ya,pw.len];omega),by omega,by omega,rfl,λlow nl bl ll pl H4 g4 npl hpl=>?_⟩
 refine⟨_,rfl,l,_,rfl,.inl (aN.of (g4 _ _ RU)),_,_,rfl,rfl,(n:Int),Jb V.int (by rw[Ya,pw.len];omega),pl,_,rfl,aN.of hpl,λp5 n5=>?_⟩
 rw[vg];generalize hH5:L2.upd H4 p5 _=H5;obtain⟨g5,e5⟩:=b9 n5 hH5;clear hH5;have lt:(low.take n).length<=n:=by rw[Yx];omega
 have bt:fP 5 (low.take n):=bl.take n;generalize low.take n=lo at e5 lt bt;have WH:=g4.trans g5;refine⟨_,rfl,_,rfl,_,_,rfl,rfl,p,v+1,Jb (λz=>[V.int (p:Int),V.int z]) (by omega),by omega,by omega,by omega,?_⟩
 have bP:Bd 200 ((p ^ (v+1):Nat):Int):=Ek (by omega) (by omega)
 have WI:((p ^ (v+1):Nat):Int)=(p:Int) ^ (v+1):=Wt _ _;generalize ((p ^ (v+1):Nat):Int)=st at bP WI;refine⟨_,rfl,_,rfl,p5,rfl,⟨_,aN.of e5⟩,λD hD=>?_⟩
 refine lY (λj=>.num (aq lo j*st)) (n:=lo.length) (by rw[Ya]) e5 hD (by omega) (λj vz H6 Q6 hj g6 NU q6=>?_) λH6 g6 NJ=>?_
 ·obtain⟨y,hy,rfl⟩:=aU NU
  have ey:aq lo j=y:=kc hy;subst ey;exact⟨_,rfl,_,rfl,_,_,rfl,rfl,Bd.ok (bt.aq j) bP (by decide),q6 _ H6 (aG.refl _) (.num _)⟩
 obtain⟨lD,eD,Me,_⟩:=dQ (n:=lo.length) (v:=λj=>aq lo j*st) NJ
 cases eD;have Ub:=WH.trans g6;refine⟨l,D,f,_,rfl,Ub _ _ RU,Me,by rw[pw.len];omega,by rw[bK];omega,λln H7 g7 nn RV=>?_⟩
 have cn:∀m,aq (lW f (lv lo.length λj=>aq lo j*st)) m=aq f m+aq lo m*st:=λm=>by
  rw[kg,nI];by_cases hm:m<lo.length
  ·rw[W7 hm]
  ·rw[W6 hm,aX (f:=lo) (by omega),Zk]
 have topn:Top (aq (lW f (lv lo.length λj=>aq lo j*st))) n:=⟨by rw[cn,aX (f:=lo) (by omega),Zk,Zu];exact pw.top.one,λm hm=>by rw[cn,aX (f:=lo) (by omega),Zk,Zu];exact pw.top.top m hm⟩
 have Mk:=yi (kh f (lv lo.length λj=>aq lo j*st)) topn
 have Je:∀m,(p:Int) ^ (v+1) ∣ aq (lW f (lv lo.length λj=>aq lo j*st)) m-aq f m:=λm=>⟨aq lo m,by rw[cn,<- WI];grind⟩
 generalize lW f (lv lo.length λj=>aq lo j*st)=ne at RV topn Mk Je cn
 have Uc:L2.dh ne:=⟨(λz=>by rw[z] at Mk;cases Mk),by rw[Mk];exact topn.one⟩
 have WJ:=Ub.trans g7;clear cn;refine⟨_,rfl,ln,rfl,⟨_,aN.of RV⟩,λD2 w_=>?_⟩
 refine lY (λj=>.num (if aq ne j<0 then -aq ne j else aq ne j)) (n:=n+1) (by rw[Ya,Mk]) RV w_ (by omega) (λj vz H8 Q8 hj g8 NU q8=>?_) λH8 g8 RP=>?_
 ·obtain⟨y,hy,rfl⟩:=aU NU
  have ey:aq ne j=y:=kc hy;subst ey;exact⟨_,rfl,_,rfl,q8 _ H8 (aG.refl _) (.num _)⟩
 obtain⟨lD2,eD2,QO,_⟩:=dQ (n:=n+1) (v:=λj=>if aq ne j<0 then -aq ne j else aq ne j) RP
 cases eD2;refine⟨D2,_,rfl,aN.of QO,(λz=>by have:=Jb Wy z;rw[bK] at this;cases this),λMx hM1 WK=>?_⟩
 refine⟨_,_,rfl,rfl,⟨by decide,by decide,by decide⟩,_,_,rfl,rfl,_,rfl,fu (λc=>q _) (λc=>?_)⟩
 have bne:∀j,(aq ne j).natAbs<=10 ^ 59:=λj=>by
  have cM:¬ (10:Int) ^ 59<Mx:=λz=>c (W8 z)
  by_cases hj:j<n+1
  ·have:=WK (if aq ne j<0 then -aq ne j else aq ne j) (by unfold lv;exact List.mem_map.mpr ⟨j,List.mem_range.mpr hj,rfl⟩)
   split at this <;> omega
  ·rw[aX (by omega)];exact Yw _
 have Ud:=WJ.trans g8;have WL:pK ne:=FG Mk Uc Ep n6 bne;have N6:=g8 _ _ RV;have WM:=Ud _ _ RU;have Qo:=ID.same Ud;clear Ud WJ Ub WH g4 g5 g6 g7 g8 e5 Me QO NJ RP hM1 WK hpl;refine⟨_,rfl,l,_,rfl,.inl (aN.of WM),λp9 n9=>?_⟩
 generalize hH9:L2.upd H8 p9 _=H9;obtain⟨g9,e9⟩:=b9 n9 hH9;clear hH9;refine⟨_,rfl,p9,f,n,p,v,rfl,e9,pw.len,pw.mon,dk,Ep,n6,hp,Qo.same g9,h0,hv,by omega,λk r us Ha na ta tk hr ka=>?_⟩
 refine⟨r,rfl,⟨_,aN.of hr⟩,λD3 QA=>?_⟩
 refine lY (λi=>.num (k i:Int)) (n:=n) ka.len hr QA (by omega) (λi vx Hb Qb hi gb jT qb=>?_) λHb gb WN=>?_
 ·obtain⟨t',l',h1,h2⟩:=ka.at_ i hi
  rw[h1] at jT;cases jT;exact⟨t',_,rfl,kG.of (gb _ _ h2),rfl,_,_,rfl,_,_,rfl,rfl,_,rfl,qb _ Hb (aG.refl _) (.num _)⟩
 obtain⟨lD3,eD3,QS,_⟩:=dQ (n:=n) (v:=λi=>(k i:Int)) WN
 cases eD3;obtain⟨ps9,QT,_⟩:=id (Qo.same g9);have QU:Hb ln=j? (.lst (ne.map V.int)):=gb _ _ (na _ _ (λz=>by have h:=g9 _ _ N6;rw[z,QT] at h;cases h) (g9 _ _ N6))
 have WO:=ta.same gb;clear na gb g9 e9 hr ka WN QT Qo WM N6;obtain⟨Oj,E2,hE2,QV,QW⟩:=id WL;have WQ:ne.length-1=n:=by omega
 rw[WQ] at QV QW;refine⟨_,rfl,ln,ne,n,E2,rfl,aN.of QU,Mk,Ep,by omega,Uc,Oj,hE2,QV,QW,λHc gc=>?_⟩
 have WR:tg n*det n (λi j=>rr (aq ne) n (aq (dl ne)) (dl ne).length i j)=cR ne:=by
  unfold cR;rw[WQ]
 rw[WR];have ldf:(dl f).length=n:=by rw[pG];omega
 have ldn:(dl ne).length=n:=by rw[pG];omega
 have dn:(p:Int) ^ (v+1) ∣ cR ne-cR f:=by
  rw[<- ed,<- WR,ldf,ldn];exact mR ⟨0,by simp⟩ (E7 Je (λm=>jE f m) λm=>jE ne m)
 obtain⟨hvn,Ue⟩:=HN (show(p:Int)≠0 by omega) hv dn
 refine⟨_,rfl,rfl,_,rfl,fu (λz=>Jd (V.int.inj (W9 z)) Ue) (λ_=>?_)⟩
 refine⟨_,rfl,_,rfl,cR ne,(p:Int),rfl,Ue,by omega,by omega,λv2 hv2=>?_⟩
 have ev2:=hvn.uniq hv2;subst ev2;refine⟨_,rfl,rfl,_,rfl,om rfl ?_⟩
 refine⟨_,rfl,_,rfl,ln,ne,n,p,v,rfl,gc _ _ QU,Mk,Uc,WL,Ep,n6,hp,WO.same gc,Ue,hvn,by omega,λk2 r2 QB Hd nd td tk2 hr2 WS=>?_⟩
 have ek:∀i,i<n->k2 i=k i:=λi hi=>(Told.same hp tk tk2 Je hi).symm
 obtain⟨psc,Ug,_⟩:=id (WO.same gc);have QX:Hd D3=j? (.lst ((lv n λi=>(k i:Int)).map V.int)):=nd _ _ (λz=>by have h:=gc _ _ QS;rw[z,Ug] at h;cases h) (gc _ _ QS)
 refine⟨r2,rfl,⟨_,aN.of hr2⟩,λD4 Tq=>?_⟩
 refine lY (λi=>.num (k i:Int)) (n:=n) WS.len hr2 Tq (by omega) (λi vx He Qe hi ge jT qe=>?_) λHe ge rre=>?_
 ·obtain⟨t',l',h1,h2⟩:=WS.at_ i hi
  rw[h1] at jT;cases jT;rw[ek i hi] at h2;exact⟨t',_,rfl,kG.of (ge _ _ h2),rfl,_,_,rfl,_,_,rfl,rfl,_,rfl,qe _ He (aG.refl _) (.num _)⟩
 obtain⟨lD4,eD4,Uh,_⟩:=dQ (n:=n) (v:=λi=>(k i:Int)) rre
 cases eD4;refine⟨_,rfl,OJ (aN.of Uh) (aN.of (ge _ _ QX)) ⟨_,rfl,om rfl ?_⟩⟩
 refine⟨_,rfl,_,_,rfl,rfl,_,rfl,fu (λz=>q _) (λz=>?_)⟩
 have z':¬ (1:Int)<(v:Int):=λw=>z (W8 w)
 have tz:=tk.ex;obtain⟨R0,_,φ0,ip0,d0,q0,T0,s0,_,_,_,_,_,ht⟩:=tz;have kz:∀i,i<n->k i=0:=λi hi=>by
  have:=Es (s:=k) n hi
  omega
 refine⟨_,rfl,D3,_,rfl,aN.of (ge _ _ QX),_,rfl,?_⟩
 have ea:(lv n λi=>(k i:Int)).any (· != 0)=false:=by
  rw[List.any_eq_false];intro x hx;unfold lv at hx;obtain⟨i,hi,rfl⟩:=List.mem_map.mp hx;rw[kz i (List.mem_range.mp hi)];decide
 rw[ea];exact q _
end
local macro_rules | `(tactic| walk_at "b1") => `(tactic| exact L2.XE λ_ _ _ _ _ _ _ => rfl)
local macro_rules | `(tactic| walk_at "b2") => `(tactic| exact L2.Oj λ_ _ _ _ _ _ _ _ => rfl)
local macro_rules | `(tactic| walk_at "b3") => `(tactic| exact L2.XF λ_ _ _ _ _ _ _ _ _ => rfl)
local macro_rules | `(tactic| walk_at "b4") => `(tactic| exact L2.XG λ_ _ _ _ _ _ _ _ _ _ => rfl)
theorem all_mk {l:PySem.W.OpenLaw}{w:H?}{K:bG}{h:O?}{mg:Str->Option l?}{fa:o?}(X:K.In h)(G:h.Ns G? mg)(hfa:mg "law"=j? (.ref fa))
  {Ui:o?} {Uj Uk:Option o?} {Ul:Array (Option l?)} {Um Uo Up Uq N7 Ur:l?}
  {Us:o?} {Ut QY:Option o?} {Uu:Array (Option l?)} {Uv QZ Q0 Q7 N8 Q9:l?}
  {gR aD:o?}
  {oH:o?}
  {c_:o?}
  {bJ:o?}
  {cH:o?}
  {eH:o?}
  {oi:Tok}
  {rB:Tok}
  {xx:Tok}
  {gv:o?} {Bp:Obj}
  (pO:cF K "is_whole" oZ)
  (pP:cF K "is_prime" o_)
  (ju:cF K "number_power" jg)
  (m8:cF K "taken_out" mS)
  (gT:cF K "size_of_number" gH)
  (iJ:cF K "is_polynomial" iF)
  (pQ:cF K "is_monic" pq)
  (dP:cF K "without_noughts_behind" dN)
  (jV:cF K "coefficient" jO)
  (lH:cF K "multiplied" kU)
  (sW:cF K "derived" nL)
  (sX:cF K "divided" sA)
  (iK:cF K "place_of_lead" iG)
  (pR:cF K "lessened" gK)
  (jW:cF K "determinant" jP)
  (m9:cF K "resultant" jF)
  (jv:cF K "discriminant" jh)
  (fX:cF K "is_bounded_monic" fR)
  (lI:cF K "plain_size" kW)
  (fY:cF K "refuse_for_basis" fU)
  (jw:cF K "without_lead" gp)
  (iL:cF K "with_lead_one" fN)
  (lJ:cF K "first_lead" kX)
  (wC:cF K "kernel" iA)
  (sY:cF K "back_by" sC)
  (pT:cF K "unit_row" kY)
  (Uw:N? K G? "lead_at"=j? (j? (.ref Ui))) (Ux:K.lookup Ui=j? ⟨Um,Uj,.func (W? "lead_at" "lead_at" (dB fq) (b7 fq) (ao fq) .none Uo Up Uq Uk N7 Ur),Ul⟩) (Uy:P! K N7 "lead_at"=true) (Uz:C! K (.ref Ui)=true)
  (sZ:N7=.ref gR) (jn:PySem.W.codeHdIn K gR aD=true)
  (s_:cF K "without" ko)
  (lK:cF K "triangular" iU)
  (jX:cF K "coordinates" h_)
  (wD:cF K "summed" kq)
  (lM:cF K "product_by" iV)
  (pU:cF K "table_of" gO)
  (pV:cF K "times_by" jj)
  (pW:cF K "power_by" pA)
  (wF:cF K "raised" mU)
  (jY:cF K "multipliers" ia)
  (zO:cF K "grown" nM)
  (jZ:cF K "whole_basis" ie)
  (m_:cF K "_law_cell_at" mV)
  (pX:cF K "_law_number" pB)
  (pY:cF K "_law_common" pC)
  (nh:cF K "_law_trimmed" mW)
  (tu:cF K "_law_times" sD)
  (wG:cF K "_law_plus" qW)
  (wH:cF K "_law_poly" vW)
  (tw:cF K "_law_power" sE)
  (wI:cF K "_law_size" vX)
  (lN:cF K "_law_ramified" iW)
  (tD:cF K "_law_zeros" sF)
  (j0:cF K "_law_stretched" ig)
  (tF:cF K "_law_shift" nQ)
  (tG:cF K "_law_piece" sG)
  (tH:cF K "_law_built" sH)
  (UA:N? K G? "law"=j? (j? (.ref Us))) (UB:K.lookup Us=j? ⟨Uv,Ut,.func (W? "law" "law" (dB ku) (b7 ku) (ao ku) .none QZ Q0 Q7 QY N8 Q9),Uu⟩) (UC:P! K N8 "law"=true) (UD:C! K (.ref Us)=true)
  (jx:N? K G? "BranchError"=j? (j? (.ref oH)))
  (pZ:N? K G? "NoPrime"=j? (j? (.ref c_)))
  (iM:N? K G? "NoPolynomial"=j? (j? (.ref bJ)))
  (ni:N? K G? "NotPlain"=j? (j? (.ref cH)))
  (p_:N? K G? "TooDeep"=j? (j? (.ref eH)))
  (kC:PySem.W.excIn K c_ [.type "ValueError",.type "Exception",.type "BaseException",.type "object"] "ValueError.__new__"=true)
  (fc:PySem.W.excIn K bJ [.type "ValueError",.type "Exception",.type "BaseException",.type "object"] "ValueError.__new__"=true)
  (jr:PySem.W.excIn K cH [.type "ValueError",.type "Exception",.type "BaseException",.type "object"] "ValueError.__new__"=true)
  (kD:PySem.W.excIn K eH [.type "ValueError",.type "Exception",.type "BaseException",.type "object"] "ValueError.__new__"=true)
  (fB:N? K G? "MOST_BASIS_DEGREE"=j? (j? (.int 6 oi)))
  (gw:N? K G? "MOST_BASIS_SIZE"=j? (j? (.int 24 rB)))
  (j3:N? K G? "MOST_DEGREE"=j? (j? (.int 12 xx)))
  (wJ:N? K G? "PRIMES"=j? (j? (.ref gv))) (wK:K.lookup gv=j? Bp)
  (wL:yI Bp (PR.map λp:Nat=>(p:Int))=true)
  (Jf:N? K G? "abs"=j? q?)
  (Jg:N? K G? "any"=j? q?)
  (C6:N? K G? "bool"=j? q?)
  (nj:N? K G? "enumerate"=j? q?)
  (Jh:N? K G? "int"=j? q?)
  (lO:N? K G? "isinstance"=j? q?)
  (Ji:N? K G? "len"=j? q?)
  (C7:N? K G? "list"=j? q?)
  (Jj:N? K G? "max"=j? q?)
  (Jk:N? K G? "min"=j? q?)
  (zQ:N? K G? "range"=j? q?)
  (qc:N? K G? "reversed"=j? q?)
  (Jl:N? K G? "sum"=j? q?)
  (Jm:N? K G? "zip"=j? q?):
  ∃fd:O!,(∀(s:u?) (v:l?),BindsTo s fd ⟨[v],[]⟩ [("_law_script",v)])/\∀base:O?,K.In base->base.Ns G? mg->BMain mg base->kH l.prog w K mg base Dz 13 fa fd ["_law_script"] (Ew K aD):=by
 have e:=hfa.symm.trans (PySem.W.mg_of X G UA);cases e;have C8:=aW (mg:=mg) (ps:=iS) X G pO (by walk_at "b1")
 have C9:=aW (mg:=mg) (ps:=["k"]) X G pP (by walk_at "b1")
 have wM:=aW (mg:=mg) (ps:=["k","n"]) X G ju (by walk_at "b2")
 have Bq:=aW (mg:=mg) (ps:=qU) X G m8 (by walk_at "b2")
 have tK:=aW (mg:=mg) (ps:=qU) X G gT (by walk_at "b2")
 have uh:=aW (mg:=mg) (ps:=iS) X G iJ (by walk_at "b1")
 have C_:=aW (mg:=mg) (ps:=iS) X G pQ (by walk_at "b1")
 have j4:=aW (mg:=mg) (ps:=["numbers"]) X G dP (by walk_at "b1")
 have xy:=aW (mg:=mg) (ps:=Cn) X G jV (by walk_at "b2")
 have zR:=aW (mg:=mg) (ps:=l_) X G lH (by walk_at "b2")
 have FI:=aW (mg:=mg) (ps:=["f"]) X G sW (by walk_at "b1")
 have FJ:=aW (mg:=mg) (ps:=l_) X G sX (by walk_at "b2")
 have um:=aW (mg:=mg) (ps:=["table"]) X G iK (by walk_at "b1")
 have Dc:=aW (mg:=mg) (ps:=Ia) X G pR (by walk_at "b3")
 have xA:=aW (mg:=mg) (ps:=["table"]) X G jW (by walk_at "b1")
 have Br:=aW (mg:=mg) (ps:=l_) X G m9 (by walk_at "b2")
 have wN:=aW (mg:=mg) (ps:=["f"]) X G jv (by walk_at "b1")
 have qg:=aW (mg:=mg) (ps:=iS) X G fX (by walk_at "b1")
 have zS:=aW (mg:=mg) (ps:=jA) X G lI (by walk_at "b2")
 have qh:=aW (mg:=mg) (ps:=jA) X G fY (by walk_at "b2")
 have wO:=aW (mg:=mg) (ps:=Ci) X G jw (by walk_at "b4")
 have uo:=aW (mg:=mg) (ps:=Ic) X G iL (by walk_at "b3")
 have zT:=aW (mg:=mg) (ps:=Ie) X G lJ (by walk_at "b2")
 have Jo:=aW (mg:=mg) (ps:=["rows","p"]) X G wC (by walk_at "b2")
 have FL:=aW (mg:=mg) (ps:=["k","power"]) X G sY (by walk_at "b2")
 have Dd:=aW (mg:=mg) (ps:=zm) X G pT (by walk_at "b3")
 have FN:G9 K mg "lead_at" fq HY gR:=Kr X G Uw Ux Uy Uz (λ_ _ _ _ _ _ us hl=>match us,hl with | [_,_,_,_],_=>rfl) sZ
 have FO:=aW (mg:=mg) (ps:=HW) X G s_ (by walk_at "b4")
 have zU:=aW (mg:=mg) (ps:=Fc) X G lK (by walk_at "b3")
 have xB:=aW (mg:=mg) (ps:=Fe) X G jX (by walk_at "b2")
 have Jp:=aW (mg:=mg) (ps:=zo) X G wD (by walk_at "b2")
 have zV:=aW (mg:=mg) (ps:=HZ) X G lM (by walk_at "b4")
 have De:=aW (mg:=mg) (ps:=Ck) X G pU (by walk_at "b3")
 have Df:=aW (mg:=mg) (ps:=H_) X G pV (by walk_at "b4")
 have Dh:=aW (mg:=mg) (ps:=Ib) X G pW (by walk_at "b4")
 have Jq:=aW (mg:=mg) (ps:=wZ) X G wF (by walk_at "b2")
 have xC:=aW (mg:=mg) (ps:=wZ) X G jY (by walk_at "b2")
 have Lf:=aW (mg:=mg) (ps:=jA) X G zO (by walk_at "b2")
 have xD:=aW (mg:=mg) (ps:=jA) X G jZ (by walk_at "b2")
 have Bs:=aW (mg:=mg) (ps:=vU) X G m_ (by walk_at "b2")
 have Di:=aW (mg:=mg) (ps:=vU) X G pX (by walk_at "b2")
 have Dj:=aW (mg:=mg) (ps:=Fb) X G pY (by walk_at "b2")
 have Bt:=aW (mg:=mg) (ps:=Cm) X G nh (by walk_at "b1")
 have FP:=aW (mg:=mg) (ps:=sy) X G tu (by walk_at "b2")
 have Jr:=aW (mg:=mg) (ps:=sy) X G wG (by walk_at "b2")
 have Js:=aW (mg:=mg) (ps:=E_) X G wH (by walk_at "b3")
 have FQ:=aW (mg:=mg) (ps:=Ce) X G tw (by walk_at "b2")
 have Jt:=aW (mg:=mg) (ps:=Cj) X G wI (by walk_at "b2")
 have zW:=aW (mg:=mg) (ps:=HR) X G lN (by walk_at "b4")
 have FT:=aW (mg:=mg) (ps:=HU) X G tD (by walk_at "b3")
 have xE:=aW (mg:=mg) (ps:=HV) X G j0 (by walk_at "b3")
 have FU:=aW (mg:=mg) (ps:=HX) X G tF (by walk_at "b2")
 have FW:=aW (mg:=mg) (ps:=HS) X G tG (by walk_at "b3")
 have FY:=aW (mg:=mg) (ps:=HQ) X G tH (by walk_at "b4")
 have Q_:=u5 (st:=ku) UB UC UD;have JE:mg "BranchError"=j? (.ref oH):=PySem.W.mg_of X G jx;have sS:mg "NoPrime"=j? (.ref c_):=PySem.W.mg_of X G pZ;have jq:mg "NoPolynomial"=j? (.ref bJ):=PySem.W.mg_of X G iM;have pL:mg "NotPlain"=j? (.ref cH):=PySem.W.mg_of X G ni;have sU:mg "TooDeep"=j? (.ref eH):=PySem.W.mg_of X G p_;have B:iI mg:=⟨Y? X G Jf,Y? X G Jg,Y? X G C6,Y? X G nj,Y? X G Jh,Y? X G lO,Y? X G Ji,Y? X G C7,Y? X G Jj,Y? X G Jk,Y? X G zQ,Y? X G qc,Y? X G Jl,Y? X G Jm⟩;refine⟨W? "law" "law" (dB ku) (b7 ku) (ao ku) .none QZ Q0 Q7 QY N8 Q9,λs v=>.of_eq rfl,λbase _ _ hbm=>?_⟩
 have hPR:∀H,kG K H gv (PR.map λp:Nat=>V.int (p:Int)):=λH=>by
  have z:kG K H gv ((PR.map λp:Nat=>(p:Int)).map V.int):=BJ wK wL
  rw[W3] at z;exact z
 have WT:=ua (P:=l.prog) (w:=w) (base:=base) B wM;have WU:=zu (P:=l.prog) (w:=w) (base:=base) (K:=K) (mg:=mg) Bq;have UE:=qX WU tK;have dt:=jB (P:=l.prog) (w:=w) (base:=base) B j4;have dd:=vZ (P:=l.prog) (w:=w) (base:=base) B (sL B um) (AZ B Dc) xA;have dc:=v_ (P:=l.prog) (w:=w) (base:=base) B xy;have dm:=xg (P:=l.prog) (w:=w) (base:=base) B zR;have dv:=Cz B dt FJ;have dr:=zy B dc dm dv dd Br;have di:=ud B (Ct B FI) dr wN;have dwl:=ue (P:=l.prog) (w:=w) (base:=base) B wO;have dlo:=sO (P:=l.prog) (w:=w) (base:=base) B uo;have dfl:=xj (P:=l.prog) (w:=w) (base:=base) B zT;have UG:=Fo B dwl dlo dfl Jo;have UH:=A3 (P:=l.prog) (w:=w) (base:=base) B Dd;have dbb:=CA (P:=l.prog) (w:=w) (base:=base) FL;have WV:=wj (P:=l.prog) (w:=w) (base:=base) B xB;have UI:=Fp (P:=l.prog) (w:=w) (base:=base) B Jp;have dpb:=xm B dt dm dv dc zV;have dta:=A4 B dpb WV De;have dtb:=A6 B UI Df;have dpw:=A7 B dtb Dh;have dra:=Ft B UH dpw Jq;have dwo:=CD (P:=l.prog) (w:=w) (base:=base) B FO;have dla:=CJ B hbm jn WU UE dbb UH FN;have WW:=xo B WT dla dwo zU;have dmu:=wk B dra UG WW WV UI xC;have dgr:=IU B UH WT dta dmu WW UI Lf;have WX:=AX (P:=l.prog) (w:=w) (base:=base) B C8;have dpr:=Bf B (PySem.W.mg_of X G wJ) hPR WX C9;have dip:=sQ B WX uh;have dmo:=Bg B dip C_;have dbm:=nZ B (PySem.W.mg_of X G j3) dmo qg;have dps:=xr sS kC jq fc pL jr B dpr dbm di UE zS;have drf:=n_ sU kD B (PySem.W.mg_of X G fB) (PySem.W.mg_of X G gw) dps qh;have dwb:=wo B drf dgr UE xD;have UJ:=zI (P:=l.prog) (w:=w) (base:=base) B Bt;have dti:=CO B UJ FP;have WY:=FA B UJ Jr;have UK:=CU (P:=l.prog) (w:=w) (base:=base) B FQ;have UL:=FE (P:=l.prog) (w:=w) (base:=base) Jt;have dze:=CV B dti UL FT;have WZ:=CQ B UJ Js;have dpi:=CY B (Bm B Dj) (xu B UK zW) dze WZ di (wA B UK xE) FW;have dbu:=C5 B dpi (CT WY dti FU) dr dti UL FY;exact N5 B (FD B (CP B Bs) Di) dbu di UL WZ UK WY (Jc dwb) Q_
theorem walk {l:PySem.W.OpenLaw}{q:F?}{loose:List Str}{XP:(Str->Option l?)->O?->Prop}{YP:H?->O?->Prop}{d:DefRec}{K:Params->bG}(hn:l.most=j? 63)(hdf:d.params.defaults=[])
  (hY:∀(w:H?) (h:O?),YP w h->(K w.params).In h/\PySem.W.TabsAt [(248,246)] h) (hK:∀w:H?,PySem.W.noTabs (K w.params)=true)
  (F:∀(w:H?) (mg:Str->Option l?) (fa:o?) (h:O?),(K w.params).In h->h.Ns G? mg->mg d.name=j? (.ref fa)->
   ∃fd:O!,(∀(s:u?) (u:l?),BindsTo s fd ⟨[u],[]⟩ [("_law_script",u)])/\∀base:O?,(K w.params).In base->base.Ns G? mg->BMain mg base->kH l.prog w (K w.params) mg base Dz 13 fa fd ["_law_script"] (Ew (K w.params) 246)):
  PySem.W.WalkO q loose XP YP l.row.toRowW d [] (λf vs=>PySem.call f vs):=
 L2.G8 (tabs:=[(248,246)]) (n:=63) (k:=13) (x:="_law_script") (CX:=λ_=>Dz) (sp:=λw=>Ew (K w.params) 246) hn (by decide) hdf ⟨rfl,by decide,by decide,rfl⟩ hY hK F (λ_ _ a ns hl hS hT=>⟨a,ns,rfl,hS,hl,hT (248,246) (by simp),λ_=>rfl⟩) λ_ _ _ _ _ z=>z
end K64
structure PySem.W.Fast:Prop where(tw16588312088266410506 tw8433575634422326366 tw16932978676994011717 tw8783830747910820629 tw17584369507534886209 tw12775700926167878077 tw18064940927360847638 tw8075586109274843479 tw14258975826897135153 tw7008102579140424785 tw17340589347459276577 tw11125139681504917221 tw2453433962915523046 tw12775191041771574430 tw11589221948841215263 tw12592897105506606370 tw12209744603168769943 tw9336007482645575099 tw5159504374488337262 tw8710951737365491102 tw5666083429304862604 tw2412010775423344646 tw15612462917744988147 tw12330881448881146704 tw16450336819449822476 tw4211724929537236375 tw16624092075688471823 tw4022714349794626327 tw3702712876405180735 tw11384905666104788045 tw7286919888891623541 tw15096831397248661076 tw18328884565222076582 tw16702178504985426758 tw13822300457671493746 tw17330650215177070670 tw18386575362860971659 tw13249304205797563314 tw2508389565920502187 tw987802433306084119 tw12340312298180035185 tw11056140809634810577 tw15095285645978996483 tw17410774905193793892 tw7146369041337626962 tw15668754890225552273 tw17744727488204905489 tw16667097598568711333 tw2353668775535014551 tw15355614266144711582 tw4013493148522205519 tw14847409468794585071 tw1693315961450021296 tw3941803752055592384 tw3594907882374893794 tw17024060834219288306 tw9261345369305226936 tw3272190431820621816 tw15286354809574400414 tw9902419828141349925 tw11063447788065904038 tw12628204534667062480 tw8666100261676428819 tw18277405002870723346 tw16835989589017642994 tw16473559820492694966 tw7919945373338552457 tw10275248730331563721 tw6539538633922388937 tw13281152560769543390 tw17983394444342291309 tw15885588203590312836 tw15082834668400124795 tw14541614448227897355 tw358159880898598738 tw1926941780248538035 tw4512349400688117300 tw3751160352087530306 tw978978712302105432 tw13922659389313659648 tw1910091367662391949 tw17679599878140500209 tw18166820113486025257 tw16277907869587267926 tw793435399331614434 tw3830141581571392539 tw15970613382598692488 tw6961003927525864740 tw11550091307564567339 tw4796801210295552374 tw3737520930177159081 tw11537646069878599831 tw12223641105076914169 tw6761122898317442276 tw8514487625876876886 tw7902129494800760863 tw8487772158521176896 tw11054500658303355722 tw1397482192563652662 tw10300170843133923610 tw1827206507371156696 tw13529589385828614092 tw14793152366863356972 tw4069042710078410115 tw11902047340772680354 tw12712945537706413341 tw11053547219575340053 tw14471787195596894987 tw2519139592622549149 tw1071116814452687179 tw11434356384304788299 tw6167239462449893043 tw2145610965262248178 tw15910678385006335275 tw5169550348293170951 tw10515137868957934715 tw14233113140927714830 tw14003163904049809503 tw14314120878488721789 tw13391985333686743290 tw5114406808360991028 tw6721101555688034726 tw2259897884447119127 tw10779561684132284348 tw14024567617922548049 tw3074594514704023467 tw10398224879121566844 tw15406547373806685658 tw16640279468754348153 tw5779915261845021847 tw16711136080400119467 tw8154534067802869108 tw2898590430421400398 tw11081162044999123422 tw4761024383993272871 tw14970232207099838522 tw2269540976522161496 tw7728435018620707033 tw8112314350497934735 tw10068823611854124857 tw13307949738350691482 tw4837637348612027149 tw9583978651406019498 tw11360940935185635027 tw11240004713648404414 tw5103112526347300875 tw18209628543207143700 tw2231754882417995456 tw1838822401947634388 tw2271738514560184317 tw14052669401196196892 tw7774398896022963477 tw13279777039349192879 tw16339817003977320523 tw242787320780777119 tw13002119955208792920 tw9587730431499186519 tw10828581764623541025 tw1868240751922139655 tw17453658730151436102 tw15953920268625330898 tw6645060408465275178 tw4460495783318869294 tw1666038266951633766 tw3082415253341209568 tw16184152734662982851 tw1444502386168748363 tw1739496567306085442 tw6837123758104741173 tw347213890157780015 tw1222687645825499098 tw2321541958623522651 tw16915945795862544333 tw13633705905563602285 tw2046182772337598328 tw8268202331543585117 tw9367026841887349277 tw13033347429289909916 tw14952790132995760815 tw10832294978959708316 tw7029961701841876159 tw12421716255909161926 tw10613658652669776634 tw6158287594363257705 tw16142424001544346163 tw12283628897151403313 tw966020238067056209 tw16095734746947320288 tw9312369793555790507 tw7854289798907323163 tw6065239948127403714 tw13163509599648284790 tw12588257393859382474 tw11496619051236972202 tw16851693527978414875 tw11360485538833803485 tw18374475763677885677 tw3895535988343056846 tw14120736443225077032 tw14815903039173988532 tw6904440753477628603 tw11313394732365023371 tw12259502692683471816 tw9677779734099657721 tw6357225326776850136 tw7062693073302393656 tw4108345636848759227 tw16146540570847321788 tw6256790255197921067 tw6898328353065308789 tw12971412420413306296 tw13099903265901514724 tw6528161452506740352 tw14914809957989039150 tw10949880526349526498 tw11500360178879996673 tw16932764776028009 tw9840342979961865067 tw10965052901432953643 tw4523152645442057210 tw2180532276907098743 tw16136315533774370707 tw15736940251614750564 tw1621485124607379250 tw8508994243155881745 tw18373508837589572842 tw4480376040469780141 tw2450479739717958420:True)
open PySem PySem.W PyProof.Rows
local macro_rules | `(tactic| walk_at "gl") => `(tactic| (refine' L2.Pz ?a ?l ?c ?k; (case a => k_is); (case l => k_is); (case c => k_is); (case k => k_is)))
local macro_rules | `(tactic| walk_at "mt") => `(tactic| (refine' L2.mt_mk ?a ?i ?l ?c ?k; (case a => k_is); (case i => k_is); (case l => k_is); (case c => k_is); (case k => k_is)))
set_option maxRecDepth 100000 in
set_option maxHeartbeats 0 in
theorem PySem.Challenge.cw_branchdepth_k64_bases_of_near_ones_holds : PySem.Challenge.rw_branchdepth_k64_bases_of_near_ones.Holds := by
 w_on;o_law;k_head;(case hw=>w_witness2)
 k_fill
 refine K64.walk (l:=PySem.Challenge.rw_branchdepth_k64_bases_of_near_ones) rfl rfl (fun w h Y=>⟨PySem.W.km_in_of Y,List.forall_mem_cons.mpr ⟨⟨PySem.W.codeHd_of_K (c:=248) (P:=246) (PySem.W.km_in_of Y) (by kernel_rfl),PySem.W.km_tabs_of Y 246 (by k_mem)⟩,fun _ h=>nomatch h⟩⟩) (fun w=>by kernel_rfl) ?F
 case F=>
  intro w mg fa h KX G hmg;refine' K64.all_mk KX G hmg ?pO ?pP ?ju ?m8 ?gT ?iJ ?pQ ?dP ?jV ?lH ?sW ?sX ?iK ?pR ?jW ?m9 ?jv ?fX ?lI ?fY ?jw ?iL ?lJ ?wC ?sY ?pT ?Uw ?Ux ?Uy ?Uz ?sZ ?jn ?s_ ?lK ?jX ?wD ?lM ?pU ?pV ?pW ?wF ?jY ?zO ?jZ ?m_ ?pX ?pY ?nh ?tu ?wG ?wH ?tw ?wI ?lN ?tD ?j0 ?tF ?tG ?tH ?UA ?UB ?UC ?UD ?jx ?pZ ?iM ?ni ?p_ ?kC ?fc ?jr ?kD ?fB ?gw ?j3 ?wJ ?wK ?wL ?Jf ?Jg ?C6 ?nj ?Jh ?lO ?Ji ?C7 ?Jj ?Jk ?zQ ?qc ?Jl ?Jm
  (case pO=>walk_at "gl")
  (case pP=>walk_at "gl")
  (case ju=>walk_at "gl")
  (case m8=>walk_at "gl")
  (case gT=>walk_at "gl")
  (case iJ=>walk_at "gl")
  (case pQ=>walk_at "gl")
  (case dP=>walk_at "gl")
  (case jV=>walk_at "gl")
  (case lH=>walk_at "gl")
  (case sW=>walk_at "gl")
  (case sX=>walk_at "gl")
  (case iK=>walk_at "gl")
  (case pR=>walk_at "gl")
  (case jW=>walk_at "gl")
  (case m9=>walk_at "gl")
  (case jv=>walk_at "gl")
  (case fX=>walk_at "gl")
  (case lI=>walk_at "gl")
  (case fY=>walk_at "gl")
  (case jw=>walk_at "gl")
  (case iL=>walk_at "gl")
  (case lJ=>walk_at "gl")
  (case wC=>walk_at "gl")
  (case sY=>walk_at "gl")
  (case pT=>walk_at "gl")
  (case Uw=>k_is)
  (case Ux=>k_is)
  (case Uy=>k_is)
  (case Uz=>k_is)
  (case sZ=>rfl)
  (case jn=>kernel_rfl)
  (case s_=>walk_at "gl")
  (case lK=>walk_at "gl")
  (case jX=>walk_at "gl")
  (case wD=>walk_at "gl")
  (case lM=>walk_at "gl")
  (case pU=>walk_at "gl")
  (case pV=>walk_at "gl")
  (case pW=>walk_at "gl")
  (case wF=>walk_at "gl")
  (case jY=>walk_at "gl")
  (case zO=>walk_at "gl")
  (case jZ=>walk_at "gl")
  (case m_=>walk_at "gl")
  (case pX=>walk_at "gl")
  (case pY=>walk_at "gl")
  (case nh=>walk_at "gl")
  (case tu=>walk_at "gl")
  (case wG=>walk_at "gl")
  (case wH=>walk_at "gl")
  (case tw=>walk_at "gl")
  (case wI=>walk_at "gl")
  (case lN=>walk_at "gl")
  (case tD=>walk_at "gl")
  (case j0=>walk_at "gl")
  (case tF=>walk_at "gl")
  (case tG=>walk_at "gl")
  (case tH=>walk_at "gl")
  (case UA=>k_is)
  (case UB=>k_is)
  (case UC=>k_is)
  (case UD=>k_is)
  (case jx=>k_is)
  (case pZ=>k_is)
  (case iM=>k_is)
  (case ni=>k_is)
  (case p_=>k_is)
  (case kC=>k_exc)
  (case fc=>k_exc)
  (case jr=>k_exc)
  (case kD=>k_exc)
  (case fB=>k_is)
  (case gw=>k_is)
  (case j3=>k_is)
  (case wJ=>k_is)
  (case wK=>k_is)
  (case wL=>first|rfl|decide +kernel|k_is)
  (case Jf=>k_is)
  (case Jg=>k_is)
  (case C6=>k_is)
  (case nj=>k_is)
  (case Jh=>k_is)
  (case lO=>k_is)
  (case Ji=>k_is)
  (case C7=>k_is)
  (case Jj=>k_is)
  (case Jk=>k_is)
  (case zQ=>k_is)
  (case qc=>k_is)
  (case Jl=>k_is)
  (case Jm=>k_is)