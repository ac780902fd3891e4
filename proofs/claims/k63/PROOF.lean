import PyProof.Rows.All
import Wide.All
import OpenK.AllK
import Wide.FinOn
import Lean
import PyProof.EqAt
import PyProof.EqKinds
import PyProof.TupleCall
import KE.KMinKey
import PyProof.Rows.Range3
import KE.KTryMore
import KE.KLam
import KE.KNestM
import KE.KSortKey
import KE.KSortTup
import PySem.Challenge.RW_branchdepth_k63_bases_refused
set_option Elab.async false
set_option linter.all false
set_option maxRecDepth 100000
local macro_rules|`(tactic|omega)=>`(tactic|first|lia|omega+splitDisjunctions)
abbrev FrQ:=PySem.W.Frag
open List renaming length_map->Ya,getD_eq_getElem?_getD->Yb,getElem?_eq_getElem->Yc,getElem?_map->Ye,length_range->Yg,range->Yj,length_append->Yl,size_toArray->Yn,Nodup->Yo,replicate->Yp,mem_append_right->Yq,length_take->Yr,getElem?_range->Yu,mem_of_getElem?->Yv,getElem_mem->Yw,lookup_cons->Yx,mem_cons_of_mem->Yy,length_drop->Yz,getElem?_append_right->Y0,getElem?_append_left->Y2,mem_cons_self->Y4,map_append->Y6,take_of_length_le->Ze,ext_getElem?->Zi,length_reverse->Zj,zipWith->Zo,replicate_succ->Zq,eq_nil_of_length_eq_zero->Z0,getElem_of_mem->Z2,all_eq_true->Z3,getElem?_eq_none->Z6,map_congr_left->Wb,length_set->Wd,flatten_cons->Wh,not_mem_nil->Wl,range_succ->Wn,map_map->Wq,length->Wr
open Nat renaming le_refl->Yd,lt_of_lt_of_le->Yh,ne_of_lt->Ym,le_trans->Ys,mul_le_mul_right->Y1,zero_le->Y7,lt_irrefl->Zh,not_lt_zero->Zl,mod_eq_of_lt->Zn,mul_le_mul_left->Zr,lt_of_le_of_lt->Zv,pow_pos->Zw,pow_le_pow_right->Zy,add_sub_cancel_left->Z1,pow_succ->Z5,pow_lt_pow_right->Z7,le_add_right->Z8,pow_add->Wf,add_mul->Wg,sub_self->Wi,mul_le_mul->Wj,zero_add->Wo,mul_succ->Wp,le_succ->Ws
open PySem.Heap renaming get?_push_of_some->Yf,lt_size->Yi,get?_push_size->Yt,FlyingW->Wa
open Int renaming toNat_natCast->Yk,fmod_eq_emod_of_nonneg->Y3,pow_succ->Y5,mul_zero->Y8,pow_zero->Y9,emod_lt_of_pos->Za,emod_nonneg->Zb,eq_ofNat_of_zero_le->Zc,fdiv_eq_ediv_of_nonneg->Zd,natAbs_mul->Zf,one_mul->Zg,eq_of_mul_eq_mul_left->Zk,emod_add_mul_ediv->Zm,toNat_of_nonneg->Zs,mul_comm->Zu,pow_pos->Zx,natCast_mul->Zz,zero_add->Z4,zero_mul->Z9,mul_assoc->Wc,natCast_pow->We,natAbs->Wk,mul_one->Wm,pow_add->Wt
abbrev Wu:=@if_neg
abbrev Wv:=@if_pos
abbrev Ww:=@decide_eq_true
abbrev Wx:=@of_decide_eq_true
abbrev Wy:=@decide_eq_false
abbrev Wz:=@congrArg
abbrev W1:=@absurd
namespace L2
open PySem PySem.Spec PyProof.Rows
abbrev Key:=Sum Int Str
def keyIs:Key->Value->Bool
 | .inl k,v=>Value.isInt k v
 | .inr x,v=>Value.isStrOf x v
def keyH (w:World):Key->Int
 | .inl k=>hashInt k
 | .inr x=>hashStr w x
theorem keyIs_shape:∀ {k:Key} {v:Value},keyIs k v=true->(∃ i t,k=Sum.inl i/\v=Value.int i t)\/(∃ x t,k=Sum.inr x/\v=Value.str x t)
 | .inl i,v,h=>by
  obtain⟨t,e⟩:=Value.isInt_shape (k:=i) (v:=v) h;exact .inl ⟨i,t,rfl,e⟩
 | .inr x,v,h=>by
  obtain⟨t,e⟩:=Value.isStrOf_shape (x:=x) (v:=v) h;exact .inr ⟨x,t,rfl,e⟩
theorem key_ll (a b:Int):decide ((Sum.inl a:Key)=Sum.inl b)=(a == b):=by
 by_cases e:a=b
 ·subst e;simp
 ·have h:¬ (Sum.inl a:Key)=Sum.inl b:=fun q=>e (Sum.inl.inj q)
  rw[Wy h];exact (beq_eq_false_iff_ne.mpr e).symm
theorem key_rr (a b:Str):decide ((Sum.inr a:Key)=Sum.inr b)=decide (a=b):=by
 by_cases e:a=b
 ·subst e;simp
 ·have h:¬ (Sum.inr a:Key)=Sum.inr b:=fun q=>e (Sum.inr.inj q)
  rw[Wy h,Wy e]
theorem key_lr (a:Int)(b:Str):decide ((Sum.inl a:Key)=Sum.inr b)=false:=Wy (fun q=>nomatch q)
theorem key_rl (a:Str)(b:Int):decide ((Sum.inr a:Key)=Sum.inl b)=false:=Wy (fun q=>nomatch q)
def mixKind (prog:Program)(w:World):PySem.KeyKind prog w Key where
 is:=keyIs
 hash:=keyH w
 inj:=fun v a b ha hb=>by
  rcases keyIs_shape ha with ⟨i,t,rfl,rfl⟩ | ⟨x,t,rfl,rfl⟩
  ·rcases keyIs_shape hb with ⟨j,u,rfl,e⟩ | ⟨y,u,rfl,e⟩
   ·injection e with e1 _;rw[e1]
   ·exact nomatch e
  ·rcases keyIs_shape hb with ⟨j,u,rfl,e⟩ | ⟨y,u,rfl,e⟩
   ·exact nomatch e
   ·injection e with e1 _;rw[e1]
 byValue:=fun k v h=>by
  rcases keyIs_shape h with ⟨i,t,rfl,rfl⟩ | ⟨x,t,rfl,rfl⟩ <;> rfl
 pyHash:=fun hv h=>by
  rcases keyIs_shape hv with ⟨i,t,rfl,rfl⟩ | ⟨x,t,rfl,rfl⟩
  ·exact wpAny_pyHash_int h
  ·exact wpAny_pyHash_str h
 eqBool:=fun hu hv h=>by
  rcases keyIs_shape hu with ⟨i,t,rfl,rfl⟩ | ⟨x,t,rfl,rfl⟩
  ·rcases keyIs_shape hv with ⟨j,u,rfl,rfl⟩ | ⟨y,u,rfl,rfl⟩
   ·rw[key_ll] at h;exact wpAny_eqBool_int h
   ·rw[key_lr] at h;exact SeqAt.EqAt.int_str i t y u _ _ _ _ h
  ·rcases keyIs_shape hv with ⟨j,u,rfl,rfl⟩ | ⟨y,u,rfl,rfl⟩
   ·rw[key_rl] at h;exact SeqAt.EqAt.str_int x t j u _ _ _ _ h
   ·rw[key_rr] at h;exact wpAny_eqBool_str h
 «strs»:=fun k x t v h=>by
  rcases keyIs_shape h with ⟨i,u,rfl,e⟩ | ⟨y,u,rfl,e⟩
  ·exact nomatch e
  ·injection e with e1 _
   subst e1;cases v <;> rfl
end L2
namespace L2
open PySem PySem.Spec PyProof.Rows
inductive V where
 | non | bl (b:Bool) | int (i:Int) | str (x:Str) | byt (b:Array UInt8) | flt (b:UInt64) | ref (a:Addr) | ty (n:String)
 deriving DecidableEq
def RelV:V->Value->Prop
 | .non,u=>u=Value.none
 | .bl b,u=>u=Value.bool b
 | .int i,u=>∃ t,u=Value.int i t
 | .str x,u=>∃ t,u=Value.str x t
 | .byt b,u=>∃ t,u=Value.bytes b t
 | .flt b,u=>∃ t,u=Value.float b t
 | .ref a,u=>u=Value.ref a
 | .ty n,u=>u=Value.type n
abbrev Vals:List V->List Value->Prop:=Paired RelV
theorem Vals.length {xs:List V}{us:List Value}(r:Vals xs us):xs.length=us.length:=Paired.length r
theorem Vals.get:∀ {xs:List V} {us:List Value} {i:Nat} {x:V},Vals xs us->xs[i]?=some x->∃ u,us[i]?=some u/\RelV x u
 | _,_,_,_,.nil,e=>by simp at e
 | _,_,0,_,.cons r _,e=>by simp at e;subst e;exact⟨_,rfl,r⟩
 | _,_,i+1,x,.cons _ t,e=>by
  obtain⟨u,h1,h2⟩:=Vals.get (i:=i) (x:=x) t (by simpa using e)
  exact⟨u,by simpa using h1,h2⟩
theorem Vals.set {x:V}{u:Value}(r:RelV x u):∀ {xs:List V} {us:List Value} (i:Nat),Vals xs us->Vals (xs.set i x) (us.set i u)
 | _,_,_,.nil=>.nil
 | _,_,0,.cons _ t=>.cons r t
 | _,_,i+1,.cons q t=>.cons q (Vals.set r i t)
theorem Vals.append:∀ {xs ys:List V} {us ws:List Value},Vals xs us->Vals ys ws->Vals (xs++ys) (us++ws)
 | _,_,_,_,.nil,s=>s
 | _,_,_,_,.cons r t,s=>.cons r (Vals.append t s)
theorem Vals.take:∀ {xs:List V} {us:List Value} (n:Nat),Vals xs us->Vals (xs.take n) (us.take n)
 | _,_,0,_=>.nil
 | _,_,_+1,.nil=>.nil
 | _,_,n+1,.cons r t=>.cons r (Vals.take n t)
theorem Vals.drop:∀ {xs:List V} {us:List Value} (n:Nat),Vals xs us->Vals (xs.drop n) (us.drop n)
 | _,_,0,r=>r
 | _,_,_+1,.nil=>.nil
 | _,_,n+1,.cons _ t=>Vals.drop n t
def RelO:Option V->Option Value->Prop
 | some v,some u=>RelV v u
 | none,none=>True
 | _,_=>False
def KV {κ:Type}:List (κ×V)->List (κ×Value)->Prop:=Paired fun (p:κ×V) (q:κ×Value)=>p.1=q.1/\RelV p.2 q.2
def kV:Key->V
 | .inl i=>.int i
 | .inr x=>.str x
inductive HO where
 | lst (xs:List V)
 | tup (xs:List V)
 | dK (kvs:List (Key×V)) | dT (kvs:List (List Key×V))
 | set (S:Int->Bool) (n:Nat)
 | ins (C dx:Addr) (fs:List (Str×V))
 | own (x:Addr)
 | xd (fs:List (Str×V))
 | met (f x:Addr)
 | rng (lo hi:Int)
 | frz (o:Obj) (u:HO)
 | tbl (ps:Array Value)
 | ext (φ:Heap->Prop)
abbrev Hp:=Addr->Option HO
def upd (H:Hp)(a:Addr)(o:HO):Hp:=fun b=>if b=a then some o else H b
theorem upd_same {H:Hp}{a:Addr}{o:HO}:upd H a o a=some o:=by unfold upd;rw[Wv rfl]
theorem upd_ne {H:Hp}{a b:Addr}{o:HO}(h:b≠a):upd H a o b=H b:=by unfold upd;rw[Wu h]
theorem ne_of_none {H:Hp}{a b:Addr}{o:HO}(h:H a=some o)(h':H b=none):a≠b:=by
 intro e;subst e;rw[h] at h';cases h'
section
variable (P:Program) (w:World)
def ObjOk (H:Hp)(h:Heap)(a:Addr):HO->Prop
 | .lst xs=>xs.length<=sizeLine/\∃ (its:List Value) (n:Nat),Vals xs its/\h.get? a=some { cls:=.type "list",data:=.seq its.toArray n }
 | .tup xs=>xs.length<=sizeLine/\∃ its:List Value,Vals xs its/\IsTup h a its.toArray
 | .dK kvs=>kvs.length<=sizeLine/\(a == sysModules)=false/\∃ vs,KV kvs vs/\h.DictOf (mixKind P w) a vs
 | .dT kvs=>kvs.length<=sizeLine/\(a == sysModules)=false/\∃ xs:List (List Key×Addr×Value),
   Paired (fun (p:List Key×V) (q:List Key×Addr×Value)=>p.1=q.1/\H q.2.1=some (.tup (p.1.map kV))/\RelV p.2 q.2.2) kvs xs/\
   ∃ o es ep,h.get? a=some o/\o.ExactDict/\o.data=.dict es ep/\es.toList=xs.map (entryOfKey (tupleKind (mixKind P w)))/\(xs.map (·.1)).Nodup
 | .set S n=>h.SetOf (intKind P w) a S n
 | .ins C dx fs=>H dx=some (.own a)/\fs.length<=1000/\dx≠a/\h.get? a=some (PySem.W.instObj C dx)/\
   ∃ mA,h.Ns1 dx mA/\(∀ f,RelO (fs.lookup f) (mA f))/\PySem.Within mA (fs.map (·.1))
 | .own _=>∃ o,h.get? a=some o
 | .xd fs=>∃ mA,h.Ns1 a mA/\∀ f,RelO (fs.lookup f) (mA f)
 | .rng lo hi=>∃ t u v,h.get? a=some { cls:=.type "range",data:=.fields #[.int lo t,.int hi u,.int 1 v] }
 | .frz o u=>h.get? a=some o/\ObjOk H h a u
 | .tbl ps=>h.get? a=some { cls:=.none,data:=.fields ps }
 | .met f x=>h.get? a=some (PySem.W.methodObj (.ref f) (.ref x))
 | .ext φ=>φ h/\(∃ o,h.get? a=some o)/\∀ h1 h2:Heap,φ h1->(∀ o,h1.get? a=some o->h2.get? a=some o)->φ h2
def HOk (H:Hp)(h:Heap):Prop:=∀ a o,H a=some o->ObjOk P w H h a o
end
section
variable {P:Program} {w:World} {H H':Hp} {h h':Heap} {a:Addr} {o:HO}
theorem ObjOk.lt (x:ObjOk P w H h a o):a<h.objs.size:=by
 cases o with
 | lst xs=>obtain⟨_,_,_,_,e⟩:=x;exact Yi e
 | tup xs=>obtain⟨_,_,_,p⟩:=x;exact p.lt
 | dK kvs=>obtain⟨_,_,_,_,o,_,_,e,_⟩:=x;exact Yi e
 | dT kvs=>obtain⟨_,_,_,_,o,_,_,e,_⟩:=x;exact Yi e
 | set S n=>obtain⟨o,_,_,_,e,_⟩:=x;exact Yi e
 | ins C dx fs=>obtain⟨_,_,_,e,_⟩:=x;exact Yi e
 | own y=>obtain⟨_,e⟩:=x;exact Yi e
 | xd fs=>obtain⟨_,⟨_,_,_,e,_⟩,_⟩:=x;exact Yi e
 | rng lo hi=>obtain⟨_,_,_,e⟩:=x;exact Yi e
 | frz ob u=>obtain⟨e,_⟩:=x;exact Yi e
 | tbl ps=>exact Yi (show h.get? a=some _ from x)
 | met f y=>exact Yi (show h.get? a=some _ from x)
 | ext φ=>obtain⟨_,⟨_,e⟩,_⟩:=x;exact Yi e
theorem Paired.mapP {α β:Type}{F G:α->β->Prop}:∀ {l₁:List α} {l₂:List β},Paired F l₁ l₂->(∀ a b,F a b->G a b)->Paired G l₁ l₂
 | _,_,.nil,_=>.nil
 | _,_,.cons r t,f=>.cons (f _ _ r) (Paired.mapP t f)
theorem ObjOk.stay (x:ObjOk P w H h a o)(k:∀ b u,(b=a\/H b=some (.own a))->h.get? b=some u->h'.get? b=some u)
  (ho:∀ b,H b=some (.own a)->H' b=some (.own a)) (ht:∀ b xs,H b=some (.tup xs)->H' b=some (.tup xs)):ObjOk P w H' h' a o:=by
 induction o with
 | lst xs=>obtain⟨z,its,n,r,e⟩:=x;exact⟨z,its,n,r,k _ _ (.inl rfl) e⟩
 | tup xs=>obtain⟨z,its,r,ob,e,c⟩:=x;exact⟨z,its,r,ob,k _ _ (.inl rfl) e,c⟩
 | dK kvs=>obtain⟨z,y,vs,r,ob,es,ep,e,c⟩:=x;exact⟨z,y,vs,r,ob,es,ep,k _ _ (.inl rfl) e,c⟩
 | dT kvs=>
  obtain⟨z,y,xs,r,ob,es,ep,e,c⟩:=x;exact⟨z,y,xs,Paired.mapP r fun p q z=>⟨z.1,ht _ _ z.2.1,z.2.2⟩,ob,es,ep,k _ _ (.inl rfl) e,c⟩
 | set S n=>obtain⟨ob,es,ep,t,e,c⟩:=x;exact⟨ob,es,ep,t,k _ _ (.inl rfl) e,c⟩
 | ins C dx fs=>
  obtain⟨d,z,ne,e,mA,⟨od,es,ep,e2,c⟩,r⟩:=x;exact⟨ho _ d,z,ne,k _ _ (.inl rfl) e,mA,⟨od,es,ep,k _ _ (.inr d) e2,c⟩,r⟩
 | own y=>obtain⟨ob,e⟩:=x;exact⟨ob,k _ _ (.inl rfl) e⟩
 | xd fs=>obtain⟨mA,⟨od,es,ep,e,c⟩,r⟩:=x;exact⟨mA,⟨od,es,ep,k _ _ (.inl rfl) e,c⟩,r⟩
 | rng lo hi=>obtain⟨t,u,v,e⟩:=x;exact⟨t,u,v,k _ _ (.inl rfl) e⟩
 | frz ob u ih=>obtain⟨e,q⟩:=x;exact⟨k _ _ (.inl rfl) e,ih q⟩
 | tbl ps=>
  have e:h.get? a=some { cls:=.none,data:=.fields ps }:=x;show h'.get? a=some { cls:=.none,data:=.fields ps }
  exact k a _ (.inl rfl) e
 | met f y=>
  have e:h.get? a=some (PySem.W.methodObj (.ref f) (.ref y)):=x;show h'.get? a=some (PySem.W.methodObj (.ref f) (.ref y))
  exact k a _ (.inl rfl) e
 | ext φ=>obtain⟨p,⟨o,e⟩,st⟩:=x;exact⟨st _ _ p fun o q=>k _ _ (.inl rfl) q,⟨o,k _ _ (.inl rfl) e⟩,st⟩
theorem HOk.lt (x:HOk P w H h)(e:H a=some o):a<h.objs.size:=(x a o e).lt
theorem HOk.fresh (x:HOk P w H h)(e:h.objs.size<=a):H a=none:=by
 cases q:H a with
 | none=>rfl
 | some u=>exact W1 (Yh (x.lt q) e) (Zh _)
theorem HOk.kept (x:HOk P w H h)(k:∀ b u,h.get? b=some u->h'.get? b=some u):HOk P w H h':=fun a o e=>
 (x a o e).stay (fun b u _ q=>k b u q) (fun _ q=>q) fun _ _ q=>q
theorem HOk.laid (x:HOk P w H h)(k:∀ b u,h.get? b=some u->h'.get? b=some u)(hp:h.objs.size<=a)(new:ObjOk P w (upd H a o) h' a o):HOk P w (upd H a o) h':=fun b u e=>by
 have hn:=x.fresh hp;by_cases hb:b=a
 ·subst hb;rw[upd_same] at e;cases e;exact new
 ·rw[upd_ne hb] at e
  exact (x b u e).stay (fun c v _ q=>k c v q) (fun c q=>by rw[upd_ne (ne_of_none q hn)];exact q) fun c xs q=>by rw[upd_ne (ne_of_none q hn)];exact q
end
def Rd (H:Hp)(a:Addr)(u:HO):Prop:=H a=some u\/∃ o,H a=some (.frz o u)
theorem Rd.ok {P:Program}{w:World}{H:Hp}{h:Heap}{a:Addr}{u:HO}(r:Rd H a u)(x:HOk P w H h):ObjOk P w H h a u:=by
 rcases r with r | ⟨o,r⟩
 ·exact x a u r
 ·obtain⟨_,q⟩:=x a _ r
  exact q
def Mut:Option HO->Prop
 | some (.lst _)=>True
 | some (.dK _)=>True
 | some (.dT _)=>True
 | some (.set _ _)=>True
 | some (.ins _ _ _)=>True
 | some (.ext _)=>True
 | _=>False
section
variable {P:Program} {w:World} {H:Hp} {h h':Heap} {x e:Addr} {o':HO}
theorem HOk.write (ok:HOk P w H h)(mu:Mut (H x))(he:e=x\/H e=some (.own x))(k:∀ b u,b≠e->h.get? b=some u->h'.get? b=some u)(heo:∃ u,h'.get? e=some u)
  (new:ObjOk P w (upd H x o') h' x o'):HOk P w (upd H x o') h':=fun b u q=>by
 have nown:∀ c y,H c=some (.own y)->c≠x:=fun c y r z=>by subst z;rw[r] at mu;exact mu
 have ntup:∀ c xs,H c=some (.tup xs)->c≠x:=fun c xs r z=>by subst z;rw[r] at mu;exact mu
 by_cases hb:b=x
 ·subst hb;rw[upd_same] at q;cases q;exact new
 ·rw[upd_ne hb] at q
  by_cases hbe:b=e
  ·have q':H b=some (.own x):=by
    rcases he with z | z
    ·exact W1 (hbe.trans z) hb
    ·rw[hbe];exact z
   rw[q] at q';cases q';obtain⟨v,hv⟩:=heo;exact⟨v,by rw[hbe];exact hv⟩
  ·refine (ok b u q).stay (fun c v hc r=>k c v ?_ r) (fun c r=>by rw[upd_ne (nown c b r)];exact r) fun c xs r=>by rw[upd_ne (ntup c xs r)];exact r
   rcases hc with rfl | hc
   ·exact hbe
   ·rintro rfl
    rcases he with z | z
    ·exact nown c b hc z
    ·rw[hc] at z;cases z;exact hb rfl
end
structure Un (fs ex:List Addr)(H H':Hp)(h h':Heap):Prop where
 keep:∀ b o,h.get? b=some o->H b=none->b ∉ fs->b ∉ ex->h'.get? b=some o
 slot:∀ b o,h.get? b=some o->H b=none->b∈fs->b ∉ ex->∃ sl,h'.get? b=some { o with slots:=sl }
 free:∀ b o,h.get? b=some o->H b=none->b ∉ ex->H' b=none
 there:∀ b o,h.get? b=some o->b ∉ ex->∃ o',h'.get? b=some o'
 tups:∀ b xs,H b=some (.tup xs)->H' b=some (.tup xs)
 frzs:∀ b o u,H b=some (.frz o u)->H' b=some (.frz o u)
 tbls:∀ b ps,H b=some (.tbl ps)->∃ more,H' b=some (.tbl (ps++more))
section
variable {fs fs' ex ex':List Addr} {H H1 H2:Hp} {h h1 h2 h':Heap} {a x e:Addr} {o:HO}
theorem Un.any (u:Un fs ex H H1 h h1){b:Addr}{ob:Obj}(q:h.get? b=some ob)(n:H b=none)(hx:b ∉ ex):∃ sl,h1.get? b=some { ob with slots:=sl }:=by
 by_cases hb:b∈fs
 ·exact u.slot b ob q n hb hx
 ·exact⟨ob.slots,u.keep b ob q n hb hx⟩
theorem Un.kept (k:∀ b u,h.get? b=some u->h'.get? b=some u):Un fs ex H H h h':=
 ⟨fun b ob q _ _ _=>k b ob q,fun b ob q _ _ _=>⟨ob.slots,k b ob q⟩,fun _ _ _ n _=>n,fun b ob q _=>⟨ob,k b ob q⟩,fun _ _ q=>q,fun _ _ _ q=>q,fun _ ps q=>⟨#[],by rw[q];simp⟩⟩
theorem Un.refl:Un fs ex H H h h:=Un.kept fun _ _ q=>q
theorem Un.laid (k:∀ b u,h.get? b=some u->h'.get? b=some u)(hp:h.objs.size<=a)(hn:H a=none):Un fs ex H (upd H a o) h h' where
 keep:=fun b u q _ _ _=>k b u q
 slot:=fun b u q _ _ _=>⟨u.slots,k b u q⟩
 free:=fun b u q n _=>by rw[upd_ne (Ym (Yh (Yi q) hp))];exact n
 there:=fun b u q _=>⟨u,k b u q⟩
 tups:=fun b xs q=>by rw[upd_ne (ne_of_none q hn)];exact q
 frzs:=fun b u xs q=>by rw[upd_ne (ne_of_none q hn)];exact q
 tbls:=fun b ps q=>⟨#[],by rw[upd_ne (ne_of_none q hn),q];simp⟩
theorem Un.write (mu:Mut (H x))(he:e=x\/H e=some (.own x))(k:∀ b u,b≠e->h.get? b=some u->h'.get? b=some u)(heo:∃ u,h'.get? e=some u):Un fs ex H (upd H x o) h h':=by
 have hx:∀ b,H b=none->b≠x:=fun b n z=>by subst z;rw[n] at mu;exact mu
 have hb:∀ b,H b=none->b≠e:=fun b n z=>by
  subst z;rcases he with r | r
  ·exact hx b n r
  ·rw[n] at r;cases r
 have hm:∀ b u,H b=some u->¬ Mut (some u)->b≠x:=fun b u q nm z=>by subst z;rw[q] at mu;exact nm mu
 refine⟨fun b u q n _ _=>k b u (hb b n) q,fun b u q n _ _=>⟨u.slots,k b u (hb b n) q⟩,fun b u q n _=>by rw[upd_ne (hx b n)];exact n,fun b u q _=>?_,
  fun b xs q=>by rw[upd_ne (hm b _ q fun z=>z)];exact q,fun b u xs q=>by rw[upd_ne (hm b _ q fun z=>z)];exact q,fun b ps q=>⟨#[],by rw[upd_ne (hm b _ q fun z=>z),q];simp⟩⟩
 by_cases hbe:b=e
 ·subst hbe;exact heo
 ·exact⟨u,k b u hbe q⟩
end
def trk (h:Heap)(H:Hp):List Addr:=(Yj h.objs.size).filter fun a=>(H a).isSome
def hidT (h:Heap)(H:Hp):Heap:=PySem.W.hideAll h (trk h H)
theorem hidT_size (h:Heap)(H:Hp):(hidT h H).objs.size=h.objs.size:=PySem.W.hideAll_size _ _
theorem hidT_get {h:Heap}{H:Hp}{b:Addr}{o:Obj}(e:h.get? b=some o)(n:H b=none):(hidT h H).get? b=some o:=
 PySem.W.hideAll_get _ e fun hm=>by
  have q:(H b).isSome=true:=(List.mem_filter.mp hm).2;rw[n] at q;simp at q
theorem of_hidT {h:Heap}{H:Hp}{b:Addr}{o:Obj}(e:(hidT h H).get? b=some o):h.get? b=some o/\H b=none:=by
 have e':h.get? b=some o:=PySem.W.of_hideAll (trk h H) e;refine⟨e',?_⟩
 cases q:H b with
 | none=>rfl
 | some x=>
  have hm:b∈trk h H:=List.mem_filter.mpr ⟨List.mem_range.mpr (Yi e'),by simp[q]⟩
  have z:(hidT h H).get? b=none:=PySem.W.hideAll_none (trk h H) hm;rw[z] at e;cases e
end L2
namespace L2
open PySem PySem.Spec PyProof.Rows
structure Mod (K:FrQ)(mg:Str->Option Value)(base:Heap):Prop where
 kin:K.In base
 glob:base.Ns mainGlobals mg
 blt:∃ mb,base.Ns builtinsNs mb/\∀ x:Str,x≠"__name__"->mb x=bootBuiltins x
 nolimit:base.NoLimit
structure Cx where
 prog:Program
 w:World
 K:FrQ
 mg:Str->Option Value
 base:Heap
 A:Around
 N:List Str
 s₀:Shared
 H₀:Hp
 env:Env
 outer:List Env
 stack:List Env
 ex:List Addr
 fn:Str->Bool
 calm:Bool
 pn:List (Addr×Obj)
 xe:Value->Shared->Prop
def frs (l:List Env):List Addr:=l.filterMap (·.frame)
abbrev Cx.fs (X:Cx):List Addr:=frs X.outer
def Vis (sc:Scope)(x:Str):Prop:=sc.names.lookup x=some .local\/sc.names.lookup x=some .cell\/sc.names.lookup x=some .free
def Loc (sc:Scope)(x:Str):Prop:=sc.names.lookup x=some .local\/sc.names.lookup x=some .cell
def Look (env:Env)(h:Heap)(m:Str->Option Value)(x:Str)(u:Value):Prop:=
 (env.kindOf x=some .local/\m x=some u)\/((env.kindOf x=some .cell\/env.kindOf x=some .free)/\∃ c,env.cells.lookup x=some c/\h.IsCell c (some u))
structure Cx.Ok (X:Cx):Prop where
 mod:Mod X.K X.mg X.base
 kind:X.env.scope.kind=.function
 glob:X.env.globals=mainGlobals
 blt:X.env.builtins=builtinsNs
 above:X.s₀.heap.objs.size<=X.env.locals
 inj:∀ x y c,X.env.cells.lookup x=some c->X.env.cells.lookup y=some c->x=y
 has:∀ x,(X.env.kindOf x=some .cell\/X.env.kindOf x=some .free)->∃ c,X.env.cells.lookup x=some c
 cab:∀ x c,X.fn x=true->X.env.cells.lookup x=some c->X.s₀.heap.objs.size<=c
 hd:X.calm=true->X.A.handled=none
 frames:X.A.frames=some X.stack
 stk:X.stack=X.outer\/(X.stack=X.env::X.outer/\X.env.frame=some X.env.locals)
 exf:∀ b∈X.ex,b≠X.env.locals/\∀ x c,X.env.cells.lookup x=some c->c≠b
 bs:∀ b o,X.base.get? b=some o->X.s₀.heap.get? b=some o/\X.H₀ b=none
 bsz:X.base.objs.size<=X.s₀.heap.objs.size
 noex:∀ b o,X.base.get? b=some o->b ∉ X.ex
 exfs:∀ b∈X.ex,b ∉ X.fs
 funs:X.s₀.heap.FunFrames X.base X.outer
 frf:∀ b∈X.fs,X.H₀ b=none
structure Inv (X:Cx)(pins:List (Addr×Obj))(σ:List (Option V))(H:Hp)(s:Shared):Prop where
 ok:X.Ok
 os:s.os=X.s₀.os
 bare:AllBare s.gens
 base:Un X.fs X.ex X.H₀ H X.s₀.heap s.heap
 loc:∃ m,s.heap.Ns X.env.locals m/\∀ (i:Nat) (x:Str) (v:V),X.N[i]?=some x->σ[i]?=some (some v)->Vis X.env.scope x->∃ u,RelV v u/\Look X.env s.heap m x u
 cell:∀ x c,X.env.cells.lookup x=some c->∃ v,s.heap.IsCell c v
 free:H X.env.locals=none
 freeC:∀ x c,X.env.cells.lookup x=some c->H c=none
 pin:∀ p∈X.pn++pins,s.heap.get? p.1=some p.2/\H p.1=none/\p.1≠X.env.locals/\p.1 ∉ X.fs/\∀ v,p.2.data≠.cell v
 hok:HOk X.prog X.w H s.heap
 len:σ.length=X.N.length
section
variable {X:Cx} {pins:List (Addr×Obj)} {σ:List (Option V)} {H H':Hp} {s:Shared} {h':Heap}
theorem Cx.Ok.nofr (ok:X.Ok){b:Addr}{o:Obj}(e:X.base.get? b=some o):b ∉ X.fs:=fun hb=>by
 have:=(ok.funs.mem hb).1
 rw[e] at this;cases this
theorem Inv.bs (I:Inv X pins σ H s):∀ b o,X.base.get? b=some o->s.heap.get? b=some o/\H b=none:=fun b o e=>
 ⟨I.base.keep b o (I.ok.bs b o e).1 (I.ok.bs b o e).2 (I.ok.nofr e) (I.ok.noex b o e),I.base.free b o (I.ok.bs b o e).1 (I.ok.bs b o e).2 (I.ok.noex b o e)⟩
theorem Inv.bk (I:Inv X pins σ H s):∀ b o,X.base.get? b=some o->s.heap.get? b=some o:=fun b o e=>(I.bs b o e).1
theorem Inv.mod (I:Inv X pins σ H s):Mod X.K X.mg X.base:=I.ok.mod
theorem Inv.kIn (I:Inv X pins σ H s):X.K.In s.heap:=I.ok.mod.kin.keeps I.bk
theorem Inv.lt (I:Inv X pins σ H s):X.env.locals<s.heap.objs.size:=let ⟨_,hn,_⟩:=I.loc;hn.lt
theorem Inv.sz (I:Inv X pins σ H s):X.s₀.heap.objs.size<=s.heap.objs.size:=Ys I.ok.above (Nat.le_of_lt I.lt)
theorem Inv.nofs (I:Inv X pins σ H s){a:Addr}(h:s.heap.objs.size<=a):a ∉ X.fs:=fun hb=>by
 obtain⟨_,o,ho,_⟩:=I.ok.funs.mem hb;exact W1 (Yh (Yi ho) (Ys I.sz h)) (Zh _)
theorem Inv.cne (I:Inv X pins σ H s):∀ x c,X.env.cells.lookup x=some c->c≠X.env.locals:=fun x c e z=>by
 obtain⟨v,o,ho,hd⟩:=I.cell x c e;obtain⟨m,⟨o',es,ep,ho',hd',_⟩,_⟩:=I.loc;rw[z,ho'] at ho;cases ho;rw[hd'] at hd;cases hd
theorem Inv.funs (I:Inv X pins σ H s):s.heap.FunFrames X.base X.outer:=by
 have all:∀ (l:List Env),(∀ b∈frs l,b∈X.fs)->X.s₀.heap.FunFrames X.base l->s.heap.FunFrames X.base l:=by
  intro l;induction l with
  | nil=>intro _ _;trivial
  | cons env r ih=>
   intro hs hl;obtain⟨hk,⟨L,o,hf,hn,ho,hd⟩,hr⟩:=hl;have hL:L∈X.fs:=hs L (by unfold frs;rw[List.filterMap_cons,hf];exact Y4)
   obtain⟨sl,e⟩:=I.base.slot L o ho (I.ok.frf L hL) hL fun z=>I.ok.exfs L z hL
   exact⟨hk,⟨L,_,hf,hn,e,hd⟩,ih (fun b hb=>hs b (by unfold frs;rw[List.filterMap_cons,hf];exact Yy _ hb)) hr⟩
 exact all X.outer (fun _ hb=>hb) I.ok.funs
theorem Inv.stack (I:Inv X pins σ H s):s.heap.FunFrames X.base X.stack:=by
 rcases I.ok.stk with e | ⟨e,hf⟩
 ·rw[e];exact I.funs
 ·rw[e]
  obtain⟨m,hn,_⟩:=I.loc;refine .cons (by rw[I.ok.kind];decide) hf hn ?_ I.funs
  exact Heap.get?_none_of_le (Ys I.ok.bsz I.ok.above)
theorem Inv.stkSub (I:Inv X pins σ H s):∀ b∈frs X.stack,b∈X.env.locals::X.fs:=fun b hb=>by
 rcases I.ok.stk with e | ⟨e,hf⟩
 ·rw[e] at hb;exact Yy _ hb
 ·rw[e] at hb
  unfold frs at hb;rw[List.filterMap_cons,hf] at hb;exact hb
theorem Inv.stkFree (I:Inv X pins σ H s):∀ b∈frs X.stack,H b=none:=fun b hb=>by
 rcases List.mem_cons.mp (I.stkSub b hb) with e | hb
 ·rw[e];exact I.free
 ·obtain⟨_,o,ho,_⟩:=I.ok.funs.mem hb
  exact I.base.free b o ho (I.ok.frf b hb) fun z=>I.ok.exfs b z hb
theorem Inv.step {g':Array GenState}{t':Nat}{d':Drawn}{ch:List Addr}(I:Inv X pins σ H s)
  (hch:∀ b∈ch,(b∈X.ex\/X.s₀.heap.objs.size<=b)/\b≠X.env.locals/\(∀ x c,X.env.cells.lookup x=some c->c≠b)/\∀ p∈X.pn++pins,p.1≠b)
  (keep:∀ b o,b≠X.env.locals->b ∉ X.fs->b ∉ ch->s.heap.get? b=some o->H b=none->h'.get? b=some o)
  (slot:∀ b o,b≠X.env.locals->b∈X.fs->b ∉ ch->s.heap.get? b=some o->H b=none->∃ sl,h'.get? b=some { o with slots:=sl }) (free:∀ b o,b ∉ ch->s.heap.get? b=some o->H b=none->H' b=none)
  (there:∀ b o,b ∉ ch->s.heap.get? b=some o->∃ o',h'.get? b=some o')
  (tups:∀ b xs,H b=some (.tup xs)->H' b=some (.tup xs)) (frzs:∀ b o u,H b=some (.frz o u)->H' b=some (.frz o u)) (tbls:∀ b ps,H b=some (.tbl ps)->∃ more,H' b=some (.tbl (ps++more)))
  (ns:∀ m,s.heap.Ns X.env.locals m->h'.Ns X.env.locals m) (hok:HOk X.prog X.w H' h') (hg:AllBare g'):
  Inv X pins σ H' { s with heap:=h',gens:=g',drawn:=d',toks:=t' }:=by
 have neL:∀ b o,X.s₀.heap.get? b=some o->b≠X.env.locals:=fun b o e=>Ym (Yh (Yi e) I.ok.above)
 have neC:∀ b o,X.s₀.heap.get? b=some o->b ∉ X.ex->b ∉ ch:=fun b o e hx hb=>by
  rcases (hch b hb).1 with z | z
  ·exact hx z
  ·exact W1 (Yh (Yi e) z) (Zh _)
 have cellK:∀ x c,X.env.cells.lookup x=some c->∀ v,s.heap.IsCell c v->h'.IsCell c v:=fun x c e v ⟨o,ho,hd⟩=>by
  have nch:c ∉ ch:=fun z=>(hch c z).2.2.1 x c e rfl
  by_cases hc:c∈X.fs
  ·obtain⟨sl,q⟩:=slot c o (I.cne x c e) hc nch ho (I.freeC x c e)
   exact⟨_,q,hd⟩
  ·exact⟨o,keep c o (I.cne x c e) hc nch ho (I.freeC x c e),hd⟩
 refine⟨I.ok,I.os,hg,⟨fun b o e n hb hx=>?_,fun b o e n hb hx=>?_,fun b o e n hx=>?_,fun b o e hx=>?_,fun b xs e=>tups b xs (I.base.tups b xs e),fun b o xs e=>frzs b o xs (I.base.frzs b o xs e),fun b ps e=>?_⟩,?_,fun x c e=>?_,?_,fun x c e=>?_,fun p hp=>?_,hok,I.len⟩
 ·exact keep b o (neL b o e) hb (neC b o e hx) (I.base.keep b o e n hb hx) (I.base.free b o e n hx)
 ·obtain⟨sl,e1⟩:=I.base.slot b o e n hb hx
  obtain⟨sl',e2⟩:=slot b _ (neL b o e) hb (neC b o e hx) e1 (I.base.free b o e n hx);exact⟨sl',e2⟩
 ·obtain⟨o',e1⟩:=I.base.there b o e hx
  exact free b o' (neC b o e hx) e1 (I.base.free b o e n hx)
 ·obtain⟨o',e1⟩:=I.base.there b o e hx
  exact there b o' (neC b o e hx) e1
 ·obtain⟨m1,e1⟩:=I.base.tbls b ps e
  obtain⟨m2,e2⟩:=tbls b _ e1;exact⟨m1++m2,by rw[e2,Array.append_assoc]⟩
 ·obtain⟨m,hn,hl⟩:=I.loc
  refine⟨m,ns m hn,fun i x v e1 e2 e3=>?_⟩
  obtain⟨u,r,l⟩:=hl i x v e1 e2 e3;refine⟨u,r,?_⟩
  rcases l with l | ⟨k,c,e,z⟩
  ·exact .inl l
  ·exact .inr ⟨k,c,e,cellK x c e _ z⟩
 ·obtain⟨v,z⟩:=I.cell x c e
  exact⟨v,cellK x c e v z⟩
 ·obtain⟨m,⟨o,_,_,ho,_⟩,_⟩:=I.loc
  exact free _ o (fun z=>(hch _ z).2.1 rfl) ho I.free
 ·obtain⟨v,o,ho,hd⟩:=I.cell x c e
  exact free c o (fun z=>(hch c z).2.2.1 x c e rfl) ho (I.freeC x c e)
 ·obtain⟨e,n,ne,nf,d⟩:=I.pin p hp
  have nch:p.1 ∉ ch:=fun z=>(hch p.1 z).2.2.2 p hp rfl
  exact⟨keep p.1 p.2 ne nf nch e n,free p.1 p.2 nch e n,ne,nf,d⟩
theorem Inv.un {t':Nat}(I:Inv X pins σ H s)(u:Un X.fs [] H H' s.heap h')(hok:HOk X.prog X.w H' h'):Inv X pins σ H' { s with heap:=h',toks:=t' }:=by
 obtain⟨m,⟨o,es,ep,ho,r⟩,_⟩:=id I.loc;obtain⟨sl,hL⟩:=u.any ho I.free (by simp)
 exact I.step (g':=s.gens) (d':=s.drawn) (ch:=[]) (fun _ z=>nomatch z) (fun b o _ hb _ e n=>u.keep b o e n hb (by simp)) (fun b o _ hb _ e n=>u.slot b o e n hb (by simp)) (fun b o _ e n=>u.free b o e n (by simp)) (fun b o _ e=>u.there b o e (by simp)) u.tups u.frzs u.tbls (fun m' hm=>by
  obtain⟨o',es',ep',ho',r'⟩:=hm;rw[ho] at ho';cases ho';exact⟨_,es',ep',hL,r'⟩) hok I.bare
theorem Inv.call {g':Array GenState}{t':Nat}{d':Drawn}{ch:List Addr}(I:Inv X pins σ H s)(u:Un (frs X.stack) ch H H' s.heap h')(hok:HOk X.prog X.w H' h')(hg:AllBare g')
  (hch:∀ b∈ch,(b∈X.ex\/X.s₀.heap.objs.size<=b)/\b≠X.env.locals/\(∀ x c,X.env.cells.lookup x=some c->c≠b)/\∀ p∈X.pn++pins,p.1≠b):
  Inv X pins σ H' { s with heap:=h',gens:=g',drawn:=d',toks:=t' }:=by
 obtain⟨m,⟨o,es,ep,ho,r⟩,_⟩:=id I.loc;obtain⟨sl,hL⟩:=u.any ho I.free fun z=>(hch _ z).2.1 rfl
 exact I.step (ch:=ch) hch (fun b o hL hb hc e n=>u.keep b o e n (fun z=>(List.mem_cons.mp (I.stkSub b z)).elim hL hb) hc) (fun b o _ _ hc e n=>u.any e n hc) (fun b o hc e n=>u.free b o e n hc) (fun b o hc e=>u.there b o e hc) u.tups u.frzs u.tbls (fun m' hm=>by
  obtain⟨o',es',ep',ho',r'⟩:=hm;rw[ho] at ho';cases ho';exact⟨_,es',ep',hL,r'⟩) hok hg
theorem Inv.turned {t':Nat}{it:Addr}(I:Inv X pins σ H s)(k:∀ b o,b≠it->s.heap.get? b=some o->h'.get? b=some o)(hn:H it=none)(hL:it≠X.env.locals)
  (h1:it∈X.ex\/X.s₀.heap.objs.size<=it) (h2:∀ x c,X.env.cells.lookup x=some c->c≠it) (h3:∀ p∈X.pn++pins,p.1≠it):Inv X pins σ H { s with heap:=h',toks:=t' }:=by
 have nit:∀ b u,H b=some u->b≠it:=fun b u e z=>by rw[z,hn] at e;cases e
 refine I.step (g':=s.gens) (d':=s.drawn) (ch:=[it]) (fun b hb=>?_) (fun b o _ _ hc e _=>k b o (fun z=>hc (by simp[z])) e) (fun b o _ _ hc e _=>⟨o.slots,k b o (fun z=>hc (by simp[z])) e⟩) (fun _ _ _ _ n=>n)
  (fun b o hc e=>⟨o,k b o (fun z=>hc (by simp[z])) e⟩) (fun _ _ e=>e) (fun _ _ _ e=>e) (fun b ps e=>⟨#[],by rw[e];simp⟩) (fun m hm=>?_) (fun b u e=>?_) I.bare
 ·have e:b=it:=by simpa using hb
  subst e;exact⟨h1,hL,h2,h3⟩
 ·obtain⟨o,es,ep,ho,r⟩:=hm
  exact⟨o,es,ep,k _ o (Ne.symm hL) ho,r⟩
 ·refine (I.hok b u e).stay (fun c v hc q=>k c v ?_ q) (fun _ q=>q) fun _ _ q=>q
  rcases hc with z | z
  ·rw[z];exact nit b u e
  ·exact nit c _ z
theorem Inv.tok (I:Inv X pins σ H s)(t:Nat):Inv X pins σ H { s with toks:=t }:=I.un (h':=s.heap) (t':=t) Un.refl I.hok
theorem Inv.kept {t':Nat}(I:Inv X pins σ H s)(k:∀ b u,s.heap.get? b=some u->h'.get? b=some u):Inv X pins σ H { s with heap:=h',toks:=t' }:=I.un (Un.kept k) (I.hok.kept k)
theorem Inv.laid {a:Addr}{o:HO}{t':Nat}(I:Inv X pins σ H s)(k:∀ b u,s.heap.get? b=some u->h'.get? b=some u)(hp:s.heap.objs.size<=a)(new:ObjOk X.prog X.w (upd H a o) h' a o):
  Inv X pins σ (upd H a o) { s with heap:=h',toks:=t' }:=I.un (Un.laid k hp (I.hok.fresh hp)) (I.hok.laid k hp new)
theorem Inv.write {x e:Addr}{o:HO}{t':Nat}(I:Inv X pins σ H s)(mu:Mut (H x))(he:e=x\/H e=some (.own x))(k:∀ b u,b≠e->s.heap.get? b=some u->h'.get? b=some u)(heo:∃ u,h'.get? e=some u)
  (new:ObjOk X.prog X.w (upd H x o) h' x o):Inv X pins σ (upd H x o) { s with heap:=h',toks:=t' }:=I.un (Un.write mu he k heo) (I.hok.write mu he k heo new)
theorem Inv.pins_of {pins':List (Addr×Obj)}(I:Inv X pins σ H s)(h:∀ p∈pins',s.heap.get? p.1=some p.2/\H p.1=none/\p.1≠X.env.locals/\p.1 ∉ X.fs/\∀ v,p.2.data≠.cell v):Inv X pins' σ H s:=
 ⟨I.ok,I.os,I.bare,I.base,I.loc,I.cell,I.free,I.freeC,fun p hp=>(List.mem_append.mp hp).elim (fun z=>I.pin p (List.mem_append_left _ z)) (h p),I.hok,I.len⟩
theorem nodup_ix {N:List Str}(hN:N.Nodup){i j:Nat}{x:Str}(a:N[i]?=some x)(b:N[j]?=some x):i=j:=by
 obtain⟨h1,e1⟩:=List.getElem?_eq_some_iff.mp a;obtain⟨h2,e2⟩:=List.getElem?_eq_some_iff.mp b;exact (List.getElem_inj hN).mp (e1.trans e2.symm)
theorem store_ok2 {M:Model}{A:Around}{E:Value->Shared->Prop}{i:Nat}{x:Str}{v:V}{u:Value}{Q:Unit->Shared->Prop}(I:Inv X pins σ H s)(hN:X.N.Nodup)(hi:X.N[i]?=some x)(hx:Loc X.env.scope x)(r:RelV v u)
  (h:∀ s',Inv X pins (σ.set i (some v)) H s'->(∃ a,Heap.SameBut a s.heap s'.heap/\(a=X.env.locals\/X.env.cells.lookup x=some a))->Q () s') (hf:X.fn x=true\/X.env.scope.names.lookup x=some .local:=by first|exact .inl rfl|exact .inr rfl|assumption):wpAny M A (storeName X.env x u) Q E s:=by
 obtain⟨m,hn,hl⟩:=id I.loc;have hcls:(X.env.scope.kind == .class || (X.env.scope.kind == .module && X.env.locals != X.env.globals))=false:=by rw[I.ok.kind];rfl
 have hiσ:i<σ.length:=by rw[I.len];exact (List.getElem?_eq_some_iff.mp hi).1
 have cne:=I.cne;have tracked:∀ {a:Addr} {h':Heap},(∃ o,s.heap.get? a=some o/\H a=none)->Heap.SameBut a s.heap h'->HOk X.prog X.w H h':=fun {a h'} ha hs b ob e=>by
  obtain⟨_,_,hfree⟩:=ha;refine (I.hok b ob e).stay (fun c w' hc q=>(hs.2 c ?_).trans q) (fun _ q=>q) fun _ _ q=>q
  rintro rfl;rcases hc with rfl | hc
  ·rw[hfree] at e;cases e
  ·rw[hfree] at hc;cases hc
 rcases hx with hk | hk
 ·refine wpAny_storeName_local hk hn (fun h' hn' hs=>?_) hcls
  obtain⟨oL,_,_,hoL,_⟩:=id hn;refine h _ ⟨I.ok,I.os,I.bare,⟨fun b o e n hb hx=>?_,fun b o e n hb hx=>?_,I.base.free,fun b o e hx=>?_,I.base.tups,I.base.frzs,I.base.tbls⟩,⟨_,hn',fun j y v' e1 e2 e3=>?_⟩,fun y c e=>?_,I.free,I.freeC,fun p hp=>?_,tracked ⟨oL,hoL,I.free⟩ hs,by simpa using I.len⟩ ⟨_,hs,.inl rfl⟩
  ·exact (hs.2 b (Ym (Yh (Yi e) I.ok.above))).trans (I.base.keep b o e n hb hx)
  ·obtain⟨sl,e1⟩:=I.base.slot b o e n hb hx
   exact⟨sl,(hs.2 b (Ym (Yh (Yi e) I.ok.above))).trans e1⟩
  ·obtain⟨o',e1⟩:=I.base.there b o e hx
   exact⟨o',(hs.2 b (Ym (Yh (Yi e) I.ok.above))).trans e1⟩
  ·by_cases hj:j=i
   ·subst hj
    rw[hi] at e1;cases e1;rw[List.getElem?_set_self hiσ] at e2;cases e2;exact⟨u,r,.inl ⟨hk,by simp⟩⟩
   ·rw[List.getElem?_set_ne (Ne.symm hj)] at e2
    obtain⟨u',r',q⟩:=hl j y v' e1 e2 e3;refine⟨u',r',?_⟩
    rcases q with ⟨k,e⟩ | ⟨k,c,e,z⟩
    ·refine .inl ⟨k,?_⟩
     have:y≠x:=fun e=>hj (nodup_ix hN e1 (e ▸ hi))
     simp[this,e]
    ·exact .inr ⟨k,c,e,z.sameBut hs (cne y c e)⟩
  ·obtain⟨w',z⟩:=I.cell y c e
   exact⟨w',z.sameBut hs (cne y c e)⟩
  ·obtain⟨e,n,ne,nf,d⟩:=I.pin p hp
   exact⟨(hs.2 p.1 ne).trans e,n,ne,nf,d⟩
 ·have hfn:X.fn x=true:=by
   rcases hf with z | z
   ·exact z
   ·rw[z] at hk;cases hk
  obtain⟨c,hc⟩:=I.ok.has x (.inl hk);obtain⟨w',z⟩:=I.cell x c hc;refine wpAny_storeName_cell I.ok.kind hk hc z (fun h' hc' hs=>?_)
  obtain⟨oc,hoc,hocd⟩:=id z;refine h { s with heap:=h' } ⟨I.ok,I.os,I.bare,⟨fun b o e n hb hx=>?_,fun b o e n hb hx=>?_,I.base.free,fun b o e hx=>?_,I.base.tups,I.base.frzs,I.base.tbls⟩,⟨m,hn.sameBut hs (Ne.symm (cne x c hc)),fun j y v' e1 e2 e3=>?_⟩,fun y c' e=>?_,I.free,I.freeC,fun p hp=>?_,tracked ⟨oc,hoc,I.freeC x c hc⟩ hs,by simpa using I.len⟩ ⟨c,hs,.inr hc⟩
  ·exact (hs.2 b (Ym (Yh (Yi e) (I.ok.cab x c hfn hc)))).trans (I.base.keep b o e n hb hx)
  ·obtain⟨sl,e1⟩:=I.base.slot b o e n hb hx
   exact⟨sl,(hs.2 b (Ym (Yh (Yi e) (I.ok.cab x c hfn hc)))).trans e1⟩
  ·obtain⟨o',e1⟩:=I.base.there b o e hx
   exact⟨o',(hs.2 b (Ym (Yh (Yi e) (I.ok.cab x c hfn hc)))).trans e1⟩
  ·by_cases hj:j=i
   ·subst hj
    rw[hi] at e1;cases e1;rw[List.getElem?_set_self hiσ] at e2;cases e2;exact⟨u,r,.inr ⟨.inl hk,c,hc,hc'⟩⟩
   ·rw[List.getElem?_set_ne (Ne.symm hj)] at e2
    obtain⟨u',r',q⟩:=hl j y v' e1 e2 e3;refine⟨u',r',?_⟩
    rcases q with q | ⟨k,c',e,z'⟩
    ·exact .inl q
    ·refine .inr ⟨k,c',e,z'.sameBut hs ?_⟩
     rintro rfl;exact hj (nodup_ix hN e1 (I.ok.inj _ _ _ e hc ▸ hi))
  ·by_cases hcc:c'=c
   ·subst hcc;exact⟨_,hc'⟩
   ·obtain⟨w2,z2⟩:=I.cell y c' e
    exact⟨w2,z2.sameBut hs hcc⟩
  ·obtain⟨e,n,ne,nf,d⟩:=I.pin p hp
   refine⟨(hs.2 p.1 ?_).trans e,n,ne,nf,d⟩
   intro q;rw[q,hoc] at e;have q':oc=p.2:=Option.some.inj e;exact d w' (by rw[<- q'];exact hocd)
theorem store_ok {M:Model}{A:Around}{E:Value->Shared->Prop}{i:Nat}{x:Str}{v:V}{u:Value}{Q:Unit->Shared->Prop}(I:Inv X pins σ H s)(hN:X.N.Nodup)(hi:X.N[i]?=some x)(hx:Loc X.env.scope x)(r:RelV v u)
  (h:∀ s',Inv X pins (σ.set i (some v)) H s'->Q () s') (hf:X.fn x=true\/X.env.scope.names.lookup x=some .local:=by first|exact .inl rfl|exact .inr rfl|assumption):wpAny M A (storeName X.env x u) Q E s:=
 store_ok2 I hN hi hx r (fun s' I' _=>h s' I') hf
theorem Inv.call' {s':Shared}{ch:List Addr}(I:Inv X pins σ H s)(ho:s'.os=s.os)(u:Un (frs X.stack) ch H H' s.heap s'.heap)(hok:HOk X.prog X.w H' s'.heap)(hg:AllBare s'.gens)
  (hch:∀ b∈ch,(b∈X.ex\/X.s₀.heap.objs.size<=b)/\b≠X.env.locals/\(∀ x c,X.env.cells.lookup x=some c->c≠b)/\∀ p∈X.pn++pins,p.1≠b):Inv X pins σ H' s':=by
 obtain⟨h',g',d',t',o'⟩:=s';have e:o'=s.os:=ho;subst e;exact I.call (g':=g') (t':=t') (d':=d') u hok hg hch
end
abbrev XK:=Value->Option Addr->Hp->Prop
abbrev St:=List (Option V)
abbrev VK:=V->Hp->Prop
abbrev TE:=St->Hp->VK->Prop
abbrev TT:=St->Hp->(Bool->Hp->Prop)->Prop
abbrev TA:=St->Hp->(List V->Hp->Prop)->Prop
structure Ends where
 nx:St->Hp->Prop
 rt:VK
 bk:St->Hp->Prop:=fun _ _=>False
 ct:St->Hp->Prop:=fun _ _=>False
abbrev TS:=Ends->St->Hp->Prop
def EP (X:Cx)(pins:List (Addr×Obj))(σ:St)(Q:VK)(u:Value)(s':Shared):Prop:=∃ v H',Inv X pins σ H' s'/\RelV v u/\Q v H'
def TP (X:Cx)(pins:List (Addr×Obj))(σ:St)(Q:Bool->Hp->Prop)(b:Bool)(s':Shared):Prop:=∃ H',Inv X pins σ H' s'/\Q b H'
def AP (X:Cx)(pins:List (Addr×Obj))(σ:St)(Q:List V->Hp->Prop)(us:List Value)(s':Shared):Prop:=∃ vs H',Inv X pins σ H' s'/\Vals vs us/\Q vs H'
def SP (X:Cx)(pins:List (Addr×Obj))(D:Ends)(f:Flow)(s':Shared):Prop:=
 match f with
 | .next=>∃ σ' H',Inv X pins σ' H' s'/\D.nx σ' H'
 | .brk=>∃ σ' H',Inv X pins σ' H' s'/\D.bk σ' H'
 | .cont=>∃ σ' H',Inv X pins σ' H' s'/\D.ct σ' H'
 | .ret u=>∃ v σ' H',Inv X pins σ' H' s'/\RelV v u/\D.rt v H'
structure Hold (p:Prop):Prop where
 out:p
instance {α:Sort _}{β:α->Prop}:CoeFun (Hold (∀ a,β a)) (fun _=>∀ a,β a):=⟨Hold.out⟩
abbrev PE (X:Cx)(e:Expr)(t:TE):Prop:=Hold (
 ∀ (pins:List (Addr×Obj)) (s:Shared) (σ:St) (H:Hp) (Q:VK),Inv X pins σ H s->t σ H Q->wpAny (model X.prog X.w) X.A (eval e X.env) (EP X pins σ Q) X.xe s)
abbrev PT (X:Cx)(e:Expr)(t:TT):Prop:=Hold (
 ∀ (pins:List (Addr×Obj)) (s:Shared) (σ:St) (H:Hp) (Q:Bool->Hp->Prop),Inv X pins σ H s->t σ H Q->wpAny (model X.prog X.w) X.A (isTrue e X.env (eval e X.env)) (TP X pins σ Q) X.xe s)
def PW (X:Cx)(e:Expr)(t:TT):Prop:=
 ∀ (whole:Sem Value) (pins:List (Addr×Obj)) (s:Shared) (σ:St) (H:Hp) (Q:Bool->Hp->Prop),Inv X pins σ H s->t σ H Q->wpAny (model X.prog X.w) X.A (isTrue e X.env whole) (TP X pins σ Q) X.xe s
theorem PW.pt {X:Cx}{e:Expr}{t:TT}(h:PW X e t):PT X e t:=⟨h _⟩
abbrev PA (X:Cx)(es:List Expr)(t:TA):Prop:=Hold (
 ∀ (pos:Pos) (pins:List (Addr×Obj)) (s:Shared) (σ:St) (H:Hp) (Q:List V->Hp->Prop),Inv X pins σ H s->t σ H Q->wpAny (model X.prog X.w) X.A (spliced (backTo pos (starEach es X.env))) (AP X pins σ Q) X.xe s)
abbrev PS (X:Cx)(st:Stmt)(t:TS):Prop:=Hold (
 ∀ (pins:List (Addr×Obj)) (s:Shared) (σ:St) (H:Hp) (D:Ends),Inv X pins σ H s->t D σ H->wpAny (model X.prog X.w) X.A (exec st X.env) (SP X pins D) X.xe s)
abbrev PSs (X:Cx)(st:List Stmt)(t:TS):Prop:=Hold (
 ∀ (pins:List (Addr×Obj)) (s:Shared) (σ:St) (H:Hp) (D:Ends),Inv X pins σ H s->t D σ H->wpAny (model X.prog X.w) X.A (execs st X.env) (SP X pins D) X.xe s)
theorem thn {α:Type}{t:Sem α}{Q Q':α->Shared->Prop}{M:Model}{A:Around}{E:Value->Shared->Prop}{s:Shared}(h:wpAny M A t Q E s)(hQ:∀ a s,Q a s->Q' a s):wpAny M A t Q' E s:=wpAny_mono h hQ fun _ _ x=>x
end L2
namespace L2
open PySem PySem.Spec PyProof.Rows
section
variable {X:Cx}
def tVar (i:Nat):TE:=fun σ H Q=>∃ v,σ[i]?=some (some v)/\Q v H
def tC (v:V):TE:=fun _ H Q=>Q v H
theorem pe_var {i:Nat}{x:Str}{pos:Pos}(hN:X.N[i]?=some x)(hv:Vis X.env.scope x)(hd:(x ==("__debug__":Str))=false:=by decide)(hcd:(x ==("__classdict__":Str))=false:=by decide):PE X (.Name x pos) (tVar i):=by
 refine⟨?_⟩
 intro pins s σ H Q I h;obtain⟨v,e,h⟩:=h;obtain⟨m,hn,hl⟩:=I.loc;obtain⟨u,r,l⟩:=hl i x v hN e hv;have fin:EP X pins σ Q u s:=⟨v,H,I,r,h⟩;rcases l with ⟨hk,hm⟩ | ⟨hk,c,hc,hcell⟩
 ·exact wpAny_Name (wpAny_loadName_local I.ok.kind hk hn hm fin) hd
 ·rcases hk with hk | hk
  ·exact wpAny_Name (wpAny_loadName_cell I.ok.kind hk hc hcell fin) hd
  ·exact wpAny_Name (wpAny_loadName_free I.ok.kind hk hc hcell fin hcd) hd
theorem pe_int {i j pos}:PE X (.Constant (.int i) j pos) (tC (.int i)):=⟨fun _ _ _ H _ I h=>wpAny_Constant_int ⟨.int i,H,I.tok _,⟨_,rfl⟩,h⟩⟩
theorem pe_bl {b j pos}:PE X (.Constant (.bool b) j pos) (tC (.bl b)):=⟨fun _ _ _ H _ I h=>Constant_bool ⟨.bl b,H,I,rfl,h⟩⟩
theorem pe_non {j pos}:PE X (.Constant .none j pos) (tC .non):=⟨fun _ _ _ H _ I h=>Constant_none ⟨.non,H,I,rfl,h⟩⟩
theorem pe_str {x j pos}:PE X (.Constant (.str x) j pos) (tC (.str x)):=⟨fun _ _ _ H _ I h=>Calls.Constant_str ⟨.str x,H,I.tok _,⟨_,rfl⟩,h⟩⟩
def Gl (X:Cx)(x:Str):Prop:=X.env.kindOf x=some .globalImplicit
theorem ld_glob {E:Value->Shared->Prop}{pins:List (Addr×Obj)}{s:Shared}{σ:St}{H:Hp}{x:Str}{u:Value}{pos:Pos}{Q:Value->Shared->Prop}(I:Inv X pins σ H s)(hg:Gl X x)(hm:X.mg x=some u)(h:Q u s)
  (hd:(x ==("__debug__":Str))=false:=by decide):wpAny (model X.prog X.w) X.A (eval (.Name x pos) X.env) Q E s:=
 Calls.Name_function_global I.ok.kind hg (Calls.loadGlobal_global (by rw[I.ok.glob];exact I.mod.glob.keeps I.bk) hm h) hd
theorem ld_blt {E:Value->Shared->Prop}{pins:List (Addr×Obj)}{s:Shared}{σ:St}{H:Hp}{x:Str}{u:Value}{pos:Pos}{Q:Value->Shared->Prop}(I:Inv X pins σ H s)(hg:Gl X x)(hm:X.mg x=none)(hv:bootBuiltins x=some u)(h:Q u s)
  (hn:x≠"__name__":=by decide) (hd:(x ==("__debug__":Str))=false:=by decide):wpAny (model X.prog X.w) X.A (eval (.Name x pos) X.env) Q E s:=by
 obtain⟨mb,h1,h2⟩:=I.mod.blt;exact Calls.Name_function_global I.ok.kind hg (Calls.loadGlobal_builtin (by rw[I.ok.glob];exact I.mod.glob.keeps I.bk) hm (by rw[I.ok.blt];exact h1.keeps I.bk) ((h2 x hn).trans hv) h) hd
theorem pe_glob {x:Str}{v:V}{u:Value}{pos:Pos}(hg:Gl X x)(hm:X.mg x=some u)(r:RelV v u)(hd:(x ==("__debug__":Str))=false:=by decide):PE X (.Name x pos) (tC v):=
 ⟨fun _ _ _ H _ I h=>ld_glob I hg hm ⟨v,H,I,r,h⟩ hd⟩
theorem pe_bltn {x:Str}{v:V}{u:Value}{pos:Pos}(hg:Gl X x)(hm:X.mg x=none)(hv:bootBuiltins x=some u)(r:RelV v u)(hn:x≠"__name__":=by decide)(hd:(x ==("__debug__":Str))=false:=by decide):PE X (.Name x pos) (tC v):=
 ⟨fun _ _ _ H _ I h=>ld_blt I hg hm hv ⟨v,H,I,r,h⟩ hn hd⟩
variable {a b:Expr} {ta tb:TE} {pos:Pos}
def tB (t:TE):TT:=fun σ H Q=>t σ H fun x H1=>∃ c,x=.bl c/\Q c H1
theorem pt_val {e:Expr}{t:TE}(h:PE X e t)(he:∀ whole,isTrue e X.env whole=(do let v <- whole;standAt e.pos;holding [v] (truthy v)):=by intro _;rfl):PT X e (tB t):=by
 refine⟨?_⟩
 intro pins s σ H Q I hw;refine isTrue_plain (thn (h pins s σ H _ I hw) fun v s1 ⟨x,H1,I1,r1,q1⟩=>?_) (he _)
 obtain⟨d,rfl,q⟩:=q1;cases r1;exact wpAny_truthy_bool ⟨H1,I1,q⟩
variable {tA tB':TT} {rest:List Expr}
def tAnd (t u:TT):TT:=fun σ H Q=>t σ H fun c H1=>if c=true then u σ H1 Q else Q false H1
def tOr (t u:TT):TT:=fun σ H Q=>t σ H fun c H1=>if c=true then Q true H1 else u σ H1 Q
def tNot (t:TT):TT:=fun σ H Q=>t σ H fun c H1=>Q (!c) H1
theorem pw_and1 (ha:PT X a tA):PW X (.BoolOp .And [a] pos) tA:=by
 intro wh pins s σ H Q I h;refine isTrue_and (thn (ha pins s σ H Q I h) fun c s1 e=>?_)
 cases c with
 | true=>exact isTrue_and_nil e
 | false=>exact e
theorem pw_or1 (ha:PT X a tA):PW X (.BoolOp .Or [a] pos) tA:=by
 intro wh pins s σ H Q I h;refine isTrue_or (thn (ha pins s σ H Q I h) fun c s1 e=>?_)
 cases c with
 | false=>exact isTrue_or_nil e
 | true=>exact e
theorem pw_and (ha:PT X a tA)(hb:PW X (.BoolOp .And (b::rest) pos) tB'):PW X (.BoolOp .And (a::b::rest) pos) (tAnd tA tB'):=by
 intro wh pins s σ H Q I h;refine isTrue_and (thn (ha pins s σ H _ I h) fun c s1 ⟨H1,I1,q1⟩=>?_)
 cases c with
 | true=>exact hb wh pins s1 σ H1 Q I1 q1
 | false=>exact⟨H1,I1,q1⟩
theorem pw_or (ha:PT X a tA)(hb:PW X (.BoolOp .Or (b::rest) pos) tB'):PW X (.BoolOp .Or (a::b::rest) pos) (tOr tA tB'):=by
 intro wh pins s σ H Q I h;refine isTrue_or (thn (ha pins s σ H _ I h) fun c s1 ⟨H1,I1,q1⟩=>?_)
 cases c with
 | true=>exact⟨H1,I1,q1⟩
 | false=>exact hb wh pins s1 σ H1 Q I1 q1
theorem pt_not (ha:PT X a tA):PT X (.UnaryOp .Not a pos) (tNot tA):=by
 refine⟨?_⟩
 intro pins s σ H Q I h;exact isTrue_not (ha pins s σ H (fun c H1=>Q (!c) H1) I h)
def tAndV (ta tb:TE):TE:=fun σ H Q=>ta σ H fun x H1=>∃ c,x=.bl c/\if c=true then tb σ H1 Q else Q (.bl false) H1
def tOrV (ta tb:TE):TE:=fun σ H Q=>ta σ H fun x H1=>∃ c,x=.bl c/\if c=true then Q (.bl true) H1 else tb σ H1 Q
def tNotV (ta:TE):TE:=fun σ H Q=>ta σ H fun x H1=>∃ c,x=.bl c/\Q (.bl (!c)) H1
theorem pe_one {op}{t:TE}(h:PE X a t):PE X (.BoolOp op [a] pos) t:=⟨fun pins s σ H Q I hw=>BoolOp_one (h pins s σ H Q I hw)⟩
theorem pe_and (ha:PE X a ta)(hb:PE X (.BoolOp .And (b::rest) pos) tb):PE X (.BoolOp .And (a::b::rest) pos) (tAndV ta tb):=by
 refine⟨?_⟩
 intro pins s σ H Q I h;refine BoolOp_and (thn (ha pins s σ H _ I h) fun v s1 ⟨x,H1,I1,r1,q1⟩=>?_)
 obtain⟨c,rfl,q1⟩:=q1;cases r1;refine wpAny_truthy_bool ?_
 cases c with
 | true=>exact hb pins s1 σ H1 Q I1 q1
 | false=>exact⟨.bl false,H1,I1,rfl,q1⟩
theorem pe_or (ha:PE X a ta)(hb:PE X (.BoolOp .Or (b::rest) pos) tb):PE X (.BoolOp .Or (a::b::rest) pos) (tOrV ta tb):=by
 refine⟨?_⟩
 intro pins s σ H Q I h;refine BoolOp_or (thn (ha pins s σ H _ I h) fun v s1 ⟨x,H1,I1,r1,q1⟩=>?_)
 obtain⟨c,rfl,q1⟩:=q1;cases r1;refine wpAny_truthy_bool ?_
 cases c with
 | false=>exact hb pins s1 σ H1 Q I1 q1
 | true=>exact⟨.bl true,H1,I1,rfl,q1⟩
theorem pe_not (ha:PE X a ta):PE X (.UnaryOp .Not a pos) (tNotV ta):=by
 refine⟨?_⟩
 intro pins s σ H Q I h;refine UnaryOp_ (thn (ha pins s σ H _ I h) fun v s1 ⟨x,H1,I1,r1,q1⟩=>?_)
 obtain⟨c,rfl,q1⟩:=q1;cases r1;exact not_of (wpAny_truthy_bool ⟨.bl (!c),H1,I1,rfl,q1⟩)
def tIf (t:TT)(ta tb:TE):TE:=fun σ H Q=>t σ H fun c H1=>if c=true then ta σ H1 Q else tb σ H1 Q
theorem pe_ifExp {c:Expr}(hc:PT X c tA)(ha:PE X a ta)(hb:PE X b tb):PE X (.IfExp c a b pos) (tIf tA ta tb):=by
 refine⟨?_⟩
 intro pins s σ H Q I h;refine wpAny_IfExp (thn (hc pins s σ H _ I h) fun d s1 ⟨H1,I1,q1⟩=>?_)
 cases d with
 | true=>exact ha pins s1 σ H1 Q I1 q1
 | false=>exact hb pins s1 σ H1 Q I1 q1
end
end L2
namespace L2
open PySem PySem.Spec PyProof.Rows
def SqL (K:FrQ)(H:Hp)(a:Addr)(xs:List V):Prop:=
 Rd H a (.lst xs)\/
  ∃ (o:Obj) (its:Array Value) (n:Nat),K.lookup a=some o/\o.cls=.type "list"/\o.dict=none/\o.data=.seq its n/\its.size<=sizeLine/\Vals xs its.toList
def SqT (K:FrQ)(H:Hp)(a:Addr)(xs:List V):Prop:=
 Rd H a (.tup xs)\/
  ∃ (o:Obj) (its:Array Value) (n:Nat),K.lookup a=some o/\o.cls=.type "tuple"/\o.data=.seq its n/\its.size<=sizeLine/\Vals xs its.toList
def absV:Value->Option V
 | .none=>some .non
 | .bool b=>some (.bl b)
 | .int i _=>some (.int i)
 | .str x _=>some (.str x)
 | .bytes b _=>some (.byt b)
 | .float b _=>some (.flt b)
 | .ref a=>some (.ref a)
 | .type n=>some (.ty n)
 | _=>none
theorem RelV.abs {x:V}{u:Value}(r:RelV x u):absV u=some x:=by
 cases x with
 | non=>cases r;rfl
 | bl _=>cases r;rfl
 | int _=>obtain⟨t,rfl⟩:=r;rfl
 | str _=>obtain⟨t,rfl⟩:=r;rfl
 | byt _=>obtain⟨t,rfl⟩:=r;rfl
 | flt _=>obtain⟨t,rfl⟩:=r;rfl
 | ref _=>cases r;rfl
 | ty _=>cases r;rfl
theorem RelV.inj {x y:V}{u:Value}(r:RelV x u)(q:RelV y u):x=y:=Option.some.inj (r.abs.symm.trans q.abs)
theorem Vals.inj:∀ {xs ys:List V} {us:List Value},Vals xs us->Vals ys us->xs=ys
 | _,_,_,.nil,.nil=>rfl
 | _,_,_,.cons r t,.cons r' t'=>by rw[r.inj r',Vals.inj t t']
section
variable {X:Cx} {pins:List (Addr×Obj)} {σ:St} {H:Hp} {s:Shared} {a:Addr} {xs ys:List V}
theorem SqL.of {K:FrQ}(h:H a=some (.lst xs)):SqL K H a xs:=.inl (.inl h)
theorem SqT.of {K:FrQ}(h:H a=some (.tup xs)):SqT K H a xs:=.inl (.inl h)
theorem Inv.list (I:Inv X pins σ H s)(h:SqL X.K H a xs):∃ its:List Value,Vals xs its/\PlainL s.heap a its.toArray/\xs.length<=sizeLine:=by
 rcases h with h | ⟨o,its,n,hk,hc,hd,hs,hz,r⟩
 ·obtain⟨z,its,n,r,e⟩:=h.ok I.hok
  exact⟨its,r,⟨_,n,e,rfl,rfl,rfl⟩,z⟩
 ·refine⟨its.toList,r,⟨o,n,I.kIn a o hk,hc,hd,by simpa using hs⟩,?_⟩
  have e:=r.length;simp only[Array.length_toList] at e
  omega
theorem Inv.tuple (I:Inv X pins σ H s)(h:SqT X.K H a xs):∃ its:List Value,Vals xs its/\IsTup s.heap a its.toArray/\xs.length<=sizeLine:=by
 rcases h with h | ⟨o,its,n,hk,hc,hs,hz,r⟩
 ·obtain⟨z,its,r,p⟩:=h.ok I.hok
  exact⟨its,r,p,z⟩
 ·refine⟨its.toList,r,⟨o,I.kIn a o hk,hc,n,by simpa using hs⟩,?_⟩
  have e:=r.length;simp only[Array.length_toList] at e
  omega
theorem Inv.list_inj (I:Inv X pins σ H s)(h:SqL X.K H a xs)(h':SqL X.K H a ys):xs=ys:=by
 obtain⟨its,r,⟨o,n,e,_,_,d⟩,_⟩:=I.list h;obtain⟨its',r',⟨o',n',e',_,_,d'⟩,_⟩:=I.list h';rw[e] at e';cases e';rw[d] at d';injection d' with d1 _
 have:its=its':=by simpa using Wz Array.toList d1
 subst this;exact r.inj r'
end
abbrev Cx.wish (X:Cx)(E:Value->Shared->Prop):Cx:={ X with xe:=E }
abbrev Cx.nox (X:Cx):Cx:=X.wish fun _ _=>False
theorem Cx.Ok.wish {X:Cx}(ok:X.Ok)(E:Value->Shared->Prop):(X.wish E).Ok:=
 ⟨ok.mod,ok.kind,ok.glob,ok.blt,ok.above,ok.inj,ok.has,ok.cab,ok.hd,ok.frames,ok.stk,ok.exf,ok.bs,ok.bsz,ok.noex,ok.exfs,ok.funs,ok.frf⟩
theorem Cx.Ok.unwish {X:Cx}{E:Value->Shared->Prop}(ok:(X.wish E).Ok):X.Ok:=
 ⟨ok.mod,ok.kind,ok.glob,ok.blt,ok.above,ok.inj,ok.has,ok.cab,ok.hd,ok.frames,ok.stk,ok.exf,ok.bs,ok.bsz,ok.noex,ok.exfs,ok.funs,ok.frf⟩
section
variable {X:Cx} {pins:List (Addr×Obj)} {σ:St} {H:Hp} {s:Shared} {E:Value->Shared->Prop}
theorem Inv.wish (I:Inv X pins σ H s)(E:Value->Shared->Prop):Inv (X.wish E) pins σ H s:=⟨I.ok.wish E,I.os,I.bare,I.base,I.loc,I.cell,I.free,I.freeC,I.pin,I.hok,I.len⟩
theorem Inv.unwish (I:Inv (X.wish E) pins σ H s):Inv X pins σ H s:=⟨I.ok.unwish,I.os,I.bare,I.base,I.loc,I.cell,I.free,I.freeC,I.pin,I.hok,I.len⟩
theorem SP.unwish {D:Ends}{f:Flow}{s':Shared}(h:SP (X.wish E) pins D f s'):SP X pins D f s':=by
 cases f with
 | next=>obtain⟨σ',H',I,q⟩:=h;exact⟨σ',H',I.unwish,q⟩
 | brk=>obtain⟨σ',H',I,q⟩:=h;exact⟨σ',H',I.unwish,q⟩
 | cont=>obtain⟨σ',H',I,q⟩:=h;exact⟨σ',H',I.unwish,q⟩
 | ret u=>obtain⟨v,σ',H',I,r,q⟩:=h;exact⟨v,σ',H',I.unwish,r,q⟩
theorem PSs.nox {st:List Stmt}{t:TS}(h:PSs X.nox st t):PSs X st t:=⟨fun pins s σ H D I hw=>
 wpAny_mono (h pins s σ H D (I.wish _) hw) (fun _ _ q=>q.unwish) fun _ _ z=>False.elim z⟩
end
section
variable {X:Cx} {st:Stmt} {rest:List Stmt} {t u:TS} {e:Expr} {te:TE} {pos:Pos}
def tNext:TS:=fun D σ H=>D.nx σ H
def tSeq (t u:TS):TS:=fun D σ H=>t { D with nx:=u D } σ H
theorem pss_nil:PSs X [] tNext:=⟨fun _ _ σ H _ I h=>wpAny_execs_nil ⟨σ,H,I,h⟩⟩
theorem pss_cons (h1:PS X st t)(h2:PSs X rest u):PSs X (st::rest) (tSeq t u):=by
 refine⟨?_⟩
 intro pins s σ H D I h;refine wpAny_execs_cons (thn (h1 pins s σ H { D with nx:=u D } I h) fun f s1 q=>?_)
 cases f with
 | next=>
  obtain⟨σ',H',I',q⟩:=q;exact h2 pins s1 σ' H' D I' q
 | ret v=>exact q
 | brk=>exact q
 | cont=>exact q
theorem pss_one (h1:PS X st t):PSs X [st] t:=by
 refine⟨?_⟩
 intro pins s σ H D I h;refine wpAny_execs_cons (thn (h1 pins s σ H D I h) fun f s1 q=>?_)
 cases f with
 | next=>exact wpAny_execs_nil q
 | ret v=>exact q
 | brk=>exact q
 | cont=>exact q
theorem Inv.quiet {pins:List (Addr×Obj)}{σ:St}{H:Hp}{s:Shared}(I:Inv X pins σ H s):interactive X.env=false:=by simp[interactive,I.ok.kind]
def tDrop (te:TE):TS:=fun D σ H=>te σ H fun _ H1=>D.nx σ H1
theorem ps_expr (he:PE X e te)(hs:swapsWith e none pos.line X.env=pure false:=by rfl):PS X (.Expr e pos) (tDrop te):=by
 refine⟨?_⟩
 intro pins s σ H D I h;exact wpAny_Expr_any (thn (he pins s σ H _ I h) fun v s1 ⟨x,H1,I1,r1,q1⟩=>⟨σ,H1,I1,q1⟩) I.quiet hs
def tRet (te:TE):TS:=fun D σ H=>te σ H D.rt
theorem ps_ret (he:PE X e te):PS X (.Return (some e) pos) (tRet te):=by
 refine⟨?_⟩
 intro pins s σ H D I h;exact wpAny_Return_some (thn (he pins s σ H _ I h) fun v s1 ⟨x,H1,I1,r1,q1⟩=>⟨x,σ,H1,I1,r1,q1⟩)
def tIfS (c:TT)(t u:TS):TS:=fun D σ H=>c σ H fun b H1=>if b=true then t D σ H1 else u D σ H1
theorem ps_if {c:Expr}{a b:List Stmt}{tc:TT}(hc:PT X c tc)(ha:PSs X a t)(hb:PSs X b u):PS X (.If c a b pos) (tIfS tc t u):=by
 refine⟨?_⟩
 intro pins s σ H D I h;refine wpAny_If (thn (hc pins s σ H _ I h) fun d s1 ⟨H1,I1,q1⟩=>?_)
 cases d with
 | true=>exact ha pins s1 σ H1 D I1 q1
 | false=>exact hb pins s1 σ H1 D I1 q1
end
abbrev TG:=V->St->Hp->(St->Hp->Prop)->Prop
abbrev TGs:=List V->St->Hp->(St->Hp->Prop)->Prop
def PG (X:Cx)(target:Expr)(t:TG):Prop:=
 ∀ (pins:List (Addr×Obj)) (s:Shared) (σ:St) (H:Hp) (v:V) (u:Value) (Q:St->Hp->Prop),Inv X pins σ H s->RelV v u->t v σ H Q->
  wpAny (model X.prog X.w) X.A (assign target X.env u) (fun _ s'=>∃ σ' H',Inv X pins σ' H' s'/\Q σ' H') X.xe s
def PGs (X:Cx)(ts:List Expr)(t:TGs):Prop:=
 ∀ (pins:List (Addr×Obj)) (s:Shared) (σ:St) (H:Hp) (vs:List V) (us:List Value) (Q:St->Hp->Prop),Inv X pins σ H s->Vals vs us->t vs σ H Q->
  wpAny (model X.prog X.w) X.A (assignInOrder ((assignEach ts X.env).map (·.2)) us) (fun _ s'=>∃ σ' H',Inv X pins σ' H' s'/\Q σ' H') X.xe s
abbrev TSet:=V->V->V->Hp->(Hp->Prop)->Prop
def PSet (X:Cx)(t:TSet):Prop:=
 ∀ (pins:List (Addr×Obj)) (s:Shared) (σ:St) (H:Hp) (o i v:V) (ov iv u:Value) (Q:Hp->Prop),Inv X pins σ H s->RelV o ov->RelV i iv->RelV v u->t o i v H Q->
  wpAny (model X.prog X.w) X.A (setItem ov iv u) (fun _ s'=>∃ H',Inv X pins σ H' s'/\Q H') X.xe s
abbrev TIp:=V->V->Hp->VK->Prop
def PIp (X:Cx)(op:Operator)(t:TIp):Prop:=
 ∀ (pins:List (Addr×Obj)) (s:Shared) (σ:St) (H:Hp) (x y:V) (v u:Value) (Q:VK),Inv X pins σ H s->RelV x v->RelV y u->t x y H Q->
  wpAny (model X.prog X.w) X.A (inplaceOp op v u) (EP X pins σ Q) X.xe s
section
variable {X:Cx} {pos:Pos}
def gName (i:Nat):TG:=fun v σ H Q=>Q (σ.set i (some v)) H
theorem pg_name {i:Nat}{x:Str}(hN:X.N.Nodup)(hi:X.N[i]?=some x)(hx:Loc X.env.scope x)(hf:X.fn x=true\/X.env.scope.names.lookup x=some .local:=by first|exact .inl rfl|exact .inr rfl|assumption):PG X (.Name x pos) (gName i):=by
 intro pins s σ H v u Q I r h;exact wpAny_assign_Name (store_ok I hN hi hx r (fun s' I'=>⟨_,H,I',h⟩) hf)
def gNil:TGs:=fun vs σ H Q=>vs=[]/\Q σ H
def gCons (t:TG)(u:TGs):TGs:=fun vs σ H Q=>∃ v r,vs=v::r/\t v σ H fun σ' H'=>u r σ' H' Q
theorem pgs_nil:PGs X [] gNil:=by
 intro pins s σ H vs us Q I r h;obtain⟨e,h⟩:=h;subst e;cases r;exact assignInOrder_nil ⟨σ,H,I,h⟩
theorem pgs_cons {e:Expr}{es:List Expr}{t:TG}{u:TGs}(h1:PG X e t)(h2:PGs X es u)
  (hs:(assignEach (e::es) X.env).map (·.2)=assign e X.env::(assignEach es X.env).map (·.2):=by rfl):PGs X (e::es) (gCons t u):=by
 intro pins s σ H vs us Q I r h;obtain⟨v,vr,e1,h⟩:=h;subst e1;cases r with
 | cons r rr=>
  rw[hs];refine assignInOrder_cons (thn (h1 pins s σ H _ _ _ I r h) fun _ s1 ⟨σ1,H1,I1,q1⟩=>?_)
  exact h2 pins s1 σ1 H1 _ _ Q I1 rr q1
def gTup (K:FrQ)(n:Nat)(t:TGs):TG:=fun v σ H Q=>∃ a xs,v=.ref a/\SqT K H a xs/\xs.length=n/\t xs σ H Q
theorem pg_tup {es:List Expr}{k:Nat}{t:TGs}{n:Nat}(hc:X.calm=true)(h:PGs X es t)
  (hn:(assignEach es X.env).length=n:=by rfl) (hst:(assignEach es X.env).findIdx? (·.1)=none:=by rfl):PG X (.Tuple es k pos) (gTup X.K n t):=by
 intro pins s σ H v u Q I r hw;obtain⟨a,xs,e1,hq,hl,hw⟩:=hw;subst e1;cases r;obtain⟨its,rv,ht,hz⟩:=I.tuple hq;refine assign_Tuple_tuple (I.ok.hd hc) ht (by simp[hn,<- hl,rv.length]) hst fun h' hx=>?_
 have I1:Inv X pins σ H { s with heap:=h' }:=I.kept (t':=s.toks) fun b o e=>hx b o (Ym (Yi e)) e
 exact h pins _ σ H xs _ Q I1 (by simpa using rv) hw
def gSub (to ti:TE)(t:TSet):TG:=fun v σ H Q=>to σ H fun o H1=>ti σ H1 fun i H2=>t o i v H2 fun H3=>Q σ H3
theorem pg_sub {o i:Expr}{to ti:TE}{t:TSet}(ho:PE X o to)(hi:PE X i ti)(hs:PSet X t)
  (ha:∀ v,assign (.Subscript o i pos) X.env v=(do
   let ov <- holding [v] (eval o X.env)
   let iv <- holding [v,ov] (eval i X.env)
   standAt pos
   holding [v,ov,iv] (setItem ov iv v)
   release [v,ov,iv] []):=by intro _;rfl):PG X (.Subscript o i pos) (gSub to ti t):=by
 intro pins s σ H v u Q I r h;rw[ha];refine wpAny_bind (wpAny_holding (thn (ho pins s σ H _ I h) fun ov s1 ⟨x,H1,I1,r1,q1⟩=>?_))
 refine wpAny_bind (wpAny_holding (thn (hi pins s1 σ H1 _ I1 q1) fun iv s2 ⟨y,H2,I2,r2,q2⟩=>?_))
 refine wpAny_bind (wpAny_standAt (wpAny_bind (wpAny_holding (thn (hs pins s2 σ H2 x y v ov iv u _ I2 r1 r2 r q2) fun _ s3 ⟨H3,I3,q3⟩=>?_))))
 exact wpAny_release ⟨σ,H3,I3,q3⟩
def tAsg (te:TE)(g:TG):TS:=fun D σ H=>te σ H fun x H1=>g x σ H1 D.nx
theorem ps_asg {tg e:Expr}{te:TE}{g:TG}(he:PE X e te)(hg:PG X tg g)(hs:swapsWithSole [tg] e pos.line X.env=pure false:=by rfl)(hw:swappedStores [tg] e X.env=pure none:=by rfl)
  (h1:(assignEach [tg] X.env).map (·.2)=[assign tg X.env]:=by rfl):PS X (.Assign [tg] e pos) (tAsg te g):=by
 refine⟨?_⟩
 intro pins s σ H D I h;refine wpAny_Assign_stores (thn (he pins s σ H _ I h) fun v s1 ⟨x,H1,I1,r1,q1⟩=>?_) hs hw
 rw[h1];exact thn (hg pins s1 σ H1 x v _ I1 r1 q1) fun _ s2 q=>q
theorem ps_set {i:Nat}{x:Str}{e:Expr}{te:TE}{pos':Pos}(hN:X.N.Nodup)(hi:X.N[i]?=some x)(hx:Loc X.env.scope x)(he:PE X e te)(hs:swapsWith e (some (.Name x pos')) pos.line X.env=pure false:=by rfl)(hf:X.fn x=true\/X.env.scope.names.lookup x=some .local:=by first|exact .inl rfl|exact .inr rfl|assumption):
  PS X (.Assign [.Name x pos'] e pos) (tAsg te (gName i)):=by
 refine⟨?_⟩
 intro pins s σ H D I h;refine wpAny_Assign_Name (thn (he pins s σ H _ I h) fun v s1 ⟨y,H1,I1,r1,q1⟩=>?_) hs
 exact store_ok I1 hN hi hx r1 (fun s2 I2=>⟨_,H1,I2,q1⟩) hf
def tPar (i j:Nat)(ta:TA):TS:=fun D σ H=>ta σ H fun vs H1=>∃ v w,vs=[v,w]/\D.nx ((σ.set i (some v)).set j (some w)) H1
theorem ps_par {i j:Nat}{x y:Str}{a b:Expr}{ta:TA}{px py pt:Pos}{kt k2 pt2}(hc:X.calm=true)(hN:X.N.Nodup)(hi:X.N[i]?=some x)(hj:X.N[j]?=some y)(hij:i≠j)
  (hx:X.env.scope.names.lookup x=some .local) (hy:X.env.scope.names.lookup y=some .local) (ha:PA X [a,b] ta)
  (hw:swappedStores [.Tuple [.Name x px,.Name y py] kt pt] (.Tuple [a,b] k2 pt2) X.env=pure (some [x,y]))
  (hs:swapsWithSole [.Tuple [.Name x px,.Name y py] kt pt] (.Tuple [a,b] k2 pt2) pos.line X.env=pure false:=by rfl):
  PS X (.Assign [.Tuple [.Name x px,.Name y py] kt pt] (.Tuple [a,b] k2 pt2) pos) (tPar i j ta):=by
 refine⟨?_⟩
 intro pins s σ H D I h;rw[exec_Assign_arm];refine wpAny_bind (wpAny_standAt ?_)
 rw[hs];refine wpAny_bind (wpAny_pure ?_)
 rw[Wu (by decide)]
 refine wpAny_bind (Tuple_ (thn (ha _ pins s σ H _ I h) fun us s1 ⟨vs,H1,I1,r1,q1⟩=>?_))
 obtain⟨v,w,e1,q1⟩:=q1;subst e1;obtain⟨u1,u2,rfl,rv,rw'⟩:∃ u1 u2,us=[u1,u2]/\RelV v u1/\RelV w u2:=by
  cases r1 with
  | cons p q=>
   cases q with
   | cons p' q'=>
    cases q';exact⟨_,_,rfl,p,p'⟩
 refine wpAny_newObj_type ?_ (by show 2<=sizeLine;decide)
 have I2:Inv X pins σ H1 { s1 with heap:=s1.heap.push { cls:=.type "tuple",data:=.seq [u1,u2].toArray } }:=I1.kept (t':=s1.toks) fun b o e=>Yf _ e
 rw[hw];refine wpAny_bind (wpAny_pure ?_)
 show wpAny (model X.prog X.w) X.A (do rule "assign.swapped-stores";let items <- unpackItems (.ref s1.heap.objs.size) 2 none;assignInOrder [fun v=>bindName X.env y v,fun v=>bindName X.env x v] items.reverse;pure Flow.next) _ _ _
 refine wpAny_bind (wpAny_rule (wpAny_bind (unpackItems_tuple (items:=#[u1,u2]) (I.ok.hd hc) (IsTup.new s1.heap _) fun h' hx'=>?_)))
 have I3:=I2.kept (h':=h') (t':=s1.toks) fun b o e=>hx' b o (Ym (Yi e)) e
 show wpAny _ _ (assignInOrder [fun v=>bindName X.env y v,fun v=>bindName X.env x v] [u2,u1] >>= fun _=>pure Flow.next) _ _ _
 refine wpAny_bind (assignInOrder_cons (wpAny_bindName (store_ok I3 hN hj (.inl hy) rw' (fun s2 I4=>?_) (.inr hy))))
 refine assignInOrder_cons (wpAny_bindName (store_ok I4 hN hi (.inl hx) rv (fun s3 I5=>assignInOrder_nil (wpAny_pure ?_)) (.inr hx)))
 rw[List.set_comm _ _ (Ne.symm hij)] at I5;exact⟨_,H1,I5,q1⟩
def tAug (i:Nat)(te:TE)(ti:TIp):TS:=fun D σ H=>∃ x,σ[i]?=some (some x)/\te σ H fun y H1=>ti x y H1 fun z H2=>D.nx (σ.set i (some z)) H2
theorem ps_aug {i:Nat}{x:Str}{e:Expr}{te:TE}{op:Operator}{ti:TIp}{pos':Pos}(hN:X.N.Nodup)(hi:X.N[i]?=some x)(hx:Loc X.env.scope x)(he:PE X e te)(ho:PIp X op ti)(hf:X.fn x=true\/X.env.scope.names.lookup x=some .local:=by first|exact .inl rfl|exact .inr rfl|assumption):
  PS X (.AugAssign (.Name x pos') op e pos) (tAug i te ti):=by
 refine⟨?_⟩
 intro pins s σ H D I h;obtain⟨v,e1,h⟩:=h;obtain⟨m,hn,hl⟩:=I.loc;have vis:Vis X.env.scope x:=by rcases hx with k | k;exact .inl k;exact .inr (.inl k)
 obtain⟨u,r,l⟩:=hl i x v hi e1 vis;refine wpAny_AugAssign_Name ?_
 have go:wpAny (model X.prog X.w) X.A (eval e X.env) (fun w s₂=>wpAny (model X.prog X.w) X.A (inplaceOp op u w) (fun r s₃=>wpAny (model X.prog X.w) X.A (storeName X.env x r) (fun _=>SP X pins D .next) X.xe s₃) X.xe s₂) X.xe s:=by
  refine thn (he pins s σ H _ I h) fun w s1 ⟨y,H1,I1,r1,q1⟩=>?_
  refine thn (ho pins s1 σ H1 v y u w _ I1 r r1 q1) fun z s2 ⟨zv,H2,I2,r2,q2⟩=>?_
  exact store_ok I2 hN hi hx r2 (fun s3 I3=>⟨_,H2,I3,q2⟩) hf
 rcases l with ⟨hk,hm⟩ | ⟨hk,c,hc,hcell⟩
 ·exact wpAny_loadName_local I.ok.kind hk hn hm go
 ·rcases hk with hk | hk
  ·exact wpAny_loadName_cell I.ok.kind hk hc hcell go
  ·rcases hx with k | k
   ·have:X.env.scope.names.lookup x=some .free:=hk
    rw[k] at this;cases this
   ·have:X.env.scope.names.lookup x=some .free:=hk
    rw[k] at this;cases this
def tAugS (to ti te:TE)(tget:V->V->Hp->VK->Prop)(tip:TIp)(tset:TSet):TS:=fun D σ H=>to σ H fun o H1=>ti σ H1 fun i H2=>tget o i H2 fun x H3=>te σ H3 fun y H4=>tip x y H4 fun z H5=>tset o i z H5 fun H6=>D.nx σ H6
def PGet (X:Cx)(t:V->V->Hp->VK->Prop):Prop:=
 ∀ (pins:List (Addr×Obj)) (s:Shared) (σ:St) (H:Hp) (o i:V) (ov iv:Value) (Q:VK),Inv X pins σ H s->RelV o ov->RelV i iv->t o i H Q->
  wpAny (model X.prog X.w) X.A (getItem ov iv) (EP X pins σ Q) X.xe s
theorem ps_augS {o i e:Expr}{to ti te:TE}{tget:V->V->Hp->VK->Prop}{tip:TIp}{tset:TSet}{op:Operator}{tpos:Pos}(ho:PE X o to)(hi:PE X i ti)(hg:PGet X tget)(he:PE X e te)(hp:PIp X op tip)(hs:PSet X tset)
  (ha:∀ ov iv new,augStore i ov iv new=(do holding [new,ov,iv] (setItem ov iv new);release [new,ov,iv] [];pure .next):=by intros;rfl):PS X (.AugAssign (.Subscript o i tpos) op e pos) (tAugS to ti te tget tip tset):=by
 refine⟨?_⟩
 intro pins s σ H D I h;refine wpAny_AugAssign_SubscriptAny (thn (ho pins s σ H _ I h) fun ov s1 ⟨x1,H1,I1,r1,q1⟩=>?_) ha
 refine thn (hi pins s1 σ H1 _ I1 q1) fun iv s2 ⟨x2,H2,I2,r2,q2⟩=>?_
 refine thn (hg pins s2 σ H2 x1 x2 ov iv _ I2 r1 r2 q2) fun old s3 ⟨x3,H3,I3,r3,q3⟩=>?_
 refine thn (he pins s3 σ H3 _ I3 q3) fun v s4 ⟨x4,H4,I4,r4,q4⟩=>?_
 refine thn (hp pins s4 σ H4 x3 x4 old v _ I4 r3 r4 q4) fun new s5 ⟨x5,H5,I5,r5,q5⟩=>?_
 exact thn (hs pins s5 σ H5 x1 x2 x5 ov iv new _ I5 r1 r2 r5 q5) fun _ s6 ⟨H6,I6,q6⟩=>⟨σ,H6,I6,q6⟩
def ipI (f:Int->Int->Int):TIp:=fun x y H Q=>∃ i j,x=.int i/\y=.int j/\Q (.int (f i j)) H
theorem ip_add:PIp X .Add (ipI fun i j=>i+j):=by
 intro pins s σ H x y v u Q I r1 r2 h;obtain⟨i,j,e1,e2,q⟩:=h;subst e1;subst e2;obtain⟨t,rfl⟩:=r1;obtain⟨t',rfl⟩:=r2;exact iadd_int ⟨.int _,H,I.tok _,⟨_,rfl⟩,q⟩
theorem ip_sub:PIp X .Sub (ipI fun i j=>i - j):=by
 intro pins s σ H x y v u Q I r1 r2 h;obtain⟨i,j,e1,e2,q⟩:=h;subst e1;subst e2;obtain⟨t,rfl⟩:=r1;obtain⟨t',rfl⟩:=r2;exact isub_int ⟨.int _,H,I.tok _,⟨_,rfl⟩,q⟩
end
section
variable {X:Cx} {pos:Pos}
def tWhile (c:TT)(tb:TS):TS:=fun D σ H=>∃ W:Nat->St->Hp->Prop,(∃ m,W m σ H)/\∀ m σ H,W m σ H->
 c σ H fun b H1=>if b=true then ∃ N:St->Hp->Prop,(∀ σ' H',N σ' H'->∃ m',m'<m/\W m' σ' H')/\tb { D with nx:=N,ct:=N,bk:=D.nx } σ H1 else D.nx σ H1
theorem ps_while {c:Expr}{body:List Stmt}{tc:TT}{tb:TS}(hp:PassesOwn (model X.prog X.w) X.A X.env X.xe)(hc:PT X c tc)(hb:PSs X body tb):PS X (.While c body [] pos) (tWhile tc tb):=by
 refine⟨?_⟩
 intro pins s σ H D I h;obtain⟨W,⟨m0,w0⟩,turn⟩:=h;refine wpAny_While (codeAny_whileLoop (fun n s'=>∃ σ' H',Inv X pins σ' H' s'/\W n σ' H') ?_ m0 ⟨σ,H,I,w0⟩)
 rintro n s1 ⟨σ1,H1,I1,w1⟩;refine wpAny_passesOwn hp (thn (hc pins s1 σ1 H1 _ I1 (turn n σ1 H1 w1)) fun b s2 ⟨H2,I2,q2⟩=>?_)
 cases b with
 | true=>
  obtain⟨N,hN,q2⟩:=q2;rw[Wv rfl];refine wpAny_passesOwn hp (thn (hb pins s2 σ1 H2 _ I2 q2) fun f s3 q3=>?_)
  cases f with
  | next=>
   obtain⟨σ3,H3,I3,n3⟩:=q3;obtain⟨m',hm,w3⟩:=hN σ3 H3 n3;exact⟨m',hm,σ3,H3,I3,w3⟩
  | cont=>
   obtain⟨σ3,H3,I3,n3⟩:=q3;obtain⟨m',hm,w3⟩:=hN σ3 H3 n3;exact⟨m',hm,σ3,H3,I3,w3⟩
  | brk=>exact q3
  | ret v=>exact q3
 | false=>
  rw[Wu Bool.false_ne_true];exact wpAny_execs_nil ⟨σ1,H2,I2,q2⟩
end
structure It where
 go:Nat->Hp->Prop
 yld:Nat->Hp->V->Hp->Prop
 stop:Nat->Hp->Prop
def FpOk (X:Cx)(pins:List (Addr×Obj))(H:Hp)(b:Addr):Prop:=
 H b=none/\b≠X.env.locals/\b ∉ X.fs/\(b∈X.ex\/X.s₀.heap.objs.size<=b)/\(∀ x c,X.env.cells.lookup x=some c->c≠b)/\∀ p∈X.pn++pins,p.1≠b
theorem Inv.fpOk {X:Cx}{pins:List (Addr×Obj)}{σ:St}{H H':Hp}{s:Shared}{b:Addr}(I:Inv X pins σ H s)(hb:s.heap.objs.size<=b)(hn:H' b=none):FpOk X pins H' b:=by
 refine⟨hn,Nat.ne_of_gt (Yh I.lt hb),I.nofs hb,.inr (Ys I.sz hb),fun x c e z=>?_,fun p hp z=>?_⟩
 ·obtain⟨v,q⟩:=I.cell x c e
  exact W1 (Yh q.lt (by rw[z];exact hb)) (Zh _)
 ·exact W1 (Yh (Yi (I.pin p hp).1) (by rw[z];exact hb)) (Zh _)
structure Turn (P:Program)(w:World)(K:FrQ)(tg:Expr)(J:It)(fp:List Addr)(it:Addr)(tn:Nat->Heap->Prop):Prop where
 mem:it∈fp
 obj:∀ i h,tn i h->∀ b∈fp,∃ o,h.get? b=some o/\∀ v,o.data≠.cell v
 keep:∀ i h h',tn i h->(∀ b∈fp,∀ o,h.get? b=some o->h'.get? b=some o)->tn i h'
 item:∀ (X:Cx),X.prog=P->X.w=w->X.K=K->X.calm=true->∀ (i:Nat) (pins:List (Addr×Obj)) (s:Shared) (σ:St) (H:Hp) (E:Value->Shared->Prop),Inv X pins σ H s->(∀ b∈fp,FpOk X pins H b)->tn i s.heap->J.go i H->
  wpAny (model P w) X.A (pyNext (.ref it)) (fun r s1=>∃ u,r=some u/\
   wpAny (model P w) X.A (letOwnedTupleGo tg (.ref it) u) (fun _ s2=>∃ x H',Inv X pins σ H' s2/\RelV x u/\J.yld i H x H'/\tn (i+1) s2.heap/\∀ b∈fp,H' b=none) E s1) E s
 done:∀ (X:Cx),X.prog=P->X.w=w->X.K=K->X.calm=true->∀ (i:Nat) (pins:List (Addr×Obj)) (s:Shared) (σ:St) (H:Hp) (E:Value->Shared->Prop),Inv X pins σ H s->(∀ b∈fp,FpOk X pins H b)->tn i s.heap->J.stop i H->
  wpAny (model P w) X.A (pyNext (.ref it)) (fun r s1=>r=none/\Inv X pins σ H s1) E s
 self:∀ (A:Around) (i:Nat) (s:Shared) (Q:Value->Shared->Prop) (E:Value->Shared->Prop),tn i s.heap->Q (.ref it) s->wpAny (model P w) A (pyIter (.ref it)) Q E s
abbrev TI:=St->Hp->(It->Hp->Prop)->Prop
def PIE (X:Cx)(pins:List (Addr×Obj))(σ:St)(tg:Expr)(R:It->Hp->Prop)(itv:Value)(s2:Shared):Prop:=
 ∃ (it:Addr) (fp:List Addr) (tn:Nat->Heap->Prop) (J:It) (H':Hp),itv=.ref it/\Inv X pins σ H' s2/\Turn X.prog X.w X.K tg J fp it tn/\tn 0 s2.heap/\(∀ b∈fp,FpOk X pins H' b)/\R J H'
def PI (X:Cx)(tg iter:Expr)(wi:TI):Prop:=
 ∀ (pins:List (Addr×Obj)) (s:Shared) (σ:St) (H:Hp) (R:It->Hp->Prop),Inv X pins σ H s->wi σ H R->
  wpAny (model X.prog X.w) X.A (eval iter X.env) (fun v s1=>wpAny (model X.prog X.w) X.A (pyIter v) (PIE X pins σ tg R) X.xe s1) X.xe s
theorem go_of {M:Model}{A:Around}{E:Value->Shared->Prop}{s:Shared}{tg:Expr}{it:Addr}{u:Value}{o:Obj}{n:String}{vs:Array Value}{Q:Unit->Shared->Prop}(ho:s.heap.get? it=some o)(hc:o.cls=.type n)(hd:o.data=.fields vs)
    (hn:["enumerate","zip","dict_itemiterator","dict_reverseitemiterator","odict_iterator","itertools.zip_longest","itertools.pairwise"].contains n=false) (hQ:Q () s):wpAny M A (letOwnedTupleGo tg (.ref it) u) Q E s:=by
  unfold letOwnedTupleGo;cases tg <;> first
    | exact wpAny_pure hQ
    | (cases u <;> first
        | exact wpAny_pure hQ
        | (refine wpAny_bind (wpAny_load ho ?_)
           rw[hc,hd];show wpAny M A (if (["enumerate","zip","dict_itemiterator","dict_reverseitemiterator","odict_iterator","itertools.zip_longest","itertools.pairwise"].contains n && vs[0]? == some (rawInt _))=true then _ else _) Q E s
           rw[Wu (by intro h;rw[hn,Bool.false_and] at h;cases h)]
           exact wpAny_pure hQ))
def Itl (K:FrQ)(a:Addr):It:=
 ⟨fun i H=>∃ xs x,SqL K H a xs/\xs[i]?=some x,fun i H x H'=>H'=H/\∀ xs,SqL K H a xs->xs[i]?=some x,fun i H=>∃ xs,SqL K H a xs/\xs.length<=i⟩
def Itr (lo:Int)(n:Nat):It:=⟨fun i _=>i<n,fun i H x H'=>H'=H/\x=.int (lo+i),fun i _=>n<=i⟩
theorem turn_list {P:Program}{w:World}{K:FrQ}{tg:Expr}(a it:Addr):Turn P w K tg (Itl K a) [it] it (fun i h=>h.IsListIter it a i) where
 mem:=by simp
 obj:=fun i h st b hb=>by
  have e:b=it:=by simpa using hb
  subst e;obtain⟨o,e,c,d⟩:=st;exact⟨o,e,fun v z=>by rw[d] at z;cases z⟩
 keep:=fun i h h' st k=>st.at fun o e=>k it (by simp) o e
 item:=by
  intro X hP hw hK hc i pins s σ H E I hf st hg;subst hP hw hK;obtain⟨xs,x,hq,hx⟩:=hg;obtain⟨its,rv,p,hz⟩:=I.list hq;obtain⟨u,hu,ru⟩:=rv.get hx;obtain⟨f0,f1,f2,f3,f4,f5⟩:=hf it (by simp)
  refine wpAny_pyNext_list_item st p.isList (x:=u) (by simpa using hu) fun h' st' sb=>?_
  have I1:Inv X pins σ H { s with heap:=h' }:=I.turned (t':=s.toks) (fun b o hb e=>(sb.2 b hb).trans e) f0 f1 f3 f4 f5
  obtain⟨o,e,c,d⟩:=id st';exact⟨u,rfl,go_of (s:={ s with heap:=h' }) e c d (by decide) ⟨x,H,I1,ru,⟨rfl,fun ys hy=>by rw[I.list_inj hy hq];exact hx⟩,st',fun b hb=>(hf b hb).1⟩⟩
 done:=by
  intro X hP hw hK hc i pins s σ H E I hf st hg;subst hP hw hK;obtain⟨xs,hq,hx⟩:=hg;obtain⟨its,rv,p,hz⟩:=I.list hq;obtain⟨f0,f1,f2,f3,f4,f5⟩:=hf it (by simp)
  have hl:=rv.length;exact wpAny_pyNext_list_end (I.ok.hd hc) st p.isList (by simp;omega) fun h' eb=>⟨rfl,I.turned (t':=s.toks) (fun b o hb e=>eb b o hb e) f0 f1 f3 f4 f5⟩
 self:=fun _ _ _ _ _ st h=>wpAny_pyIter_listiter st h
theorem turn_range {P:Program}{w:World}{K:FrQ}{tg:Expr}(it:Addr)(lo:Int)(n:Nat):Turn P w K tg (Itr lo n) [it] it (fun i h=>IsRangeIter h it (lo+(i:Nat)*1) ((n:Int) - (i:Nat)) 1) where
 mem:=by simp
 obj:=fun i h st b hb=>by
  have e:b=it:=by simpa using hb
  subst e;exact⟨_,st,fun v z=>by
   have z':Data.fields _=Data.cell v:=z;cases z'⟩
 keep:=fun i h h' st k=>k it (by simp) _ st
 item:=by
  intro X hP hw hK hc i pins s σ H E I hf st hg;subst hP hw hK;obtain⟨f0,f1,f2,f3,f4,f5⟩:=hf it (by simp)
  have W:=Walks.range (prog:=X.prog) (w:=X.w) (I.ok.hd hc) it lo 1 n;refine W.item i s _ _ hg st fun v h' tk hv st' kk=>?_
  obtain⟨t,rfl⟩:=hv;have I1:Inv X pins σ H { s with heap:=h',toks:=tk }:=I.turned (fun b o hb e=>kk b o (by simpa using hb) e) f0 f1 f3 f4 f5
  refine⟨_,rfl,go_of (s:={ s with heap:=h',toks:=tk }) (n:="range_iterator") st' rfl rfl (by decide) ⟨.int (lo+i),H,I1,⟨t,?_⟩,⟨rfl,rfl⟩,st',fun b hb=>(hf b hb).1⟩⟩
  rw[Wm]
 done:=by
  intro X hP hw hK hc i pins s σ H E I hf st hg;subst hP hw hK;obtain⟨f0,f1,f2,f3,f4,f5⟩:=hf it (by simp)
  exact wpAny_pyNext_range_end (I.ok.hd hc) st (by have:n<=i:=hg;omega) fun h' eb=>⟨rfl,I.turned (t':=s.toks) (fun b o hb e=>eb b o hb e) f0 f1 f3 f4 f5⟩
 self:=fun _ _ _ _ _ st h=>wpAny_pyIter_rangeiter st h
end L2
namespace L2
open PySem PySem.Spec PyProof.Rows
section
variable {X:Cx} {tg:Expr}
def iList (K:FrQ)(tl:TE):TI:=fun σ H R=>tl σ H fun x H1=>∃ a,x=.ref a/\(∃ xs,SqL K H1 a xs)/\R (Itl K a) H1
theorem pi_list {l:Expr}{tl:TE}(hl:PE X l tl):PI X tg l (iList X.K tl):=by
 intro pins s σ H R I h;refine thn (hl pins s σ H _ I h) fun v s1 ⟨x,H1,I1,r1,q1⟩=>?_
 obtain⟨a,e,⟨xs,hq⟩,q⟩:=q1;subst e;cases r1;obtain⟨its,rv,p,hz⟩:=I1.list hq;refine wpAny_pyIter_list p.isList ?_
 refine⟨s1.heap.objs.size,[s1.heap.objs.size],_,_,H1,rfl,I1.kept (t':=s1.toks) fun b o e=>Yf _ e,turn_list a _,⟨_,Yt _ rfl,rfl,rfl⟩,fun b hb=>?_,q⟩
 have e:b=s1.heap.objs.size:=by simpa using hb
 subst e;exact I1.fpOk (Yd _) (I1.hok.fresh (Yd _))
theorem range_it {pins:List (Addr×Obj)}{σ:St}{H:Hp}{s:Shared}{R:It->Hp->Prop}{E:Value->Shared->Prop}{lo hi:Int}{t u v:Tok}{tk:Nat}(I:Inv X pins σ H s)(h1:-(2 ^ 62)<=lo)(h2:lo<2 ^ 62)(h3:-(2 ^ 62)<=hi)(h4:hi<2 ^ 62)
  (q:R (Itr lo (hi - lo).toNat) H):wpAny (model X.prog X.w) X.A (pyIter (.ref s.heap.objs.size)) (PIE X pins σ tg R) E { s with heap:=s.heap.push { cls:=.type "range",data:=.fields #[.int lo t,.int hi u,.int 1 v] },toks:=tk }:=by
 refine wpAny_pyIter_range (IsRange.new ..) (small_one h1 h2 h3 h4) ?_
 have I1:Inv X pins σ H { s with heap:=s.heap.push { cls:=.type "range",data:=.fields #[.int lo t,.int hi u,.int 1 v] },toks:=tk }:=I.kept fun b o e=>Yf _ e
 refine⟨(s.heap.push { cls:=.type "range",data:=.fields #[.int lo t,.int hi u,.int 1 v] }).objs.size,[(s.heap.push { cls:=.type "range",data:=.fields #[.int lo t,.int hi u,.int 1 v] }).objs.size],_,_,H,rfl,
  I1.kept (t':=tk) fun b o e=>Yf _ e,turn_range _ lo (hi - lo).toNat,?_,fun b hb=>?_,q⟩
 ·have e1:lo+((0:Nat):Int)*1=lo:=by simp
  have e2:(((hi - lo).toNat:Nat):Int) - ((0:Nat):Int)=Builtin.Range.rangeSize lo hi 1:=by rw[rangeSize_one];split <;> omega
  show IsRangeIter _ _ (lo+((0:Nat):Int)*1) ((((hi - lo).toNat:Nat):Int) - ((0:Nat):Int)) 1
  rw[e1,e2];exact Yt _ rfl
 ·have e:b=(s.heap.push { cls:=.type "range",data:=.fields #[.int lo t,.int hi u,.int 1 v] }).objs.size:=by simpa using hb
  subst e;exact I1.fpOk (Yd _) (I1.hok.fresh (Yd _))
def iRng1 (ta:TA):TI:=fun σ H R=>ta σ H fun vs H1=>∃ j:Int,vs=[.int j]/\-(2 ^ 62)<=j/\j<2 ^ 62/\R (Itr 0 j.toNat) H1
def iRng2 (ta:TA):TI:=fun σ H R=>ta σ H fun vs H1=>∃ i j:Int,vs=[.int i,.int j]/\(-(2 ^ 62)<=i/\i<2 ^ 62/\-(2 ^ 62)<=j/\j<2 ^ 62)/\R (Itr i (j - i).toNat) H1
theorem pi_range1 {a:Expr}{ta:TA}{p pos:Pos}(hg:Gl X "range")(hm:X.mg "range"=none)(ha:PA X [a] ta)(hs:starEach [a] X.env=[(false,eval a X.env)]:=by rfl):PI X tg (.Call (.Name "range" p) [a] [] pos) (iRng1 ta):=by
 intro pins s σ H R I h;refine Call_ (ld_blt I hg hm boot_range (PyProof.Rows.callWith_type1 (thn (ha pos pins s σ H _ I h) fun us s1 ⟨vs,H1,I1,r1,q1⟩=>?_) hs rfl))
 obtain⟨j,e,q1,q2,q⟩:=q1;subst e;cases r1 with
 | cons r rr=>
  cases rr;obtain⟨t,rfl⟩:=r;exact call_range_1 (range_it I1 (by omega) (by omega) q1 q2 (by simpa using q))
theorem pi_range2 {a b:Expr}{ta:TA}{p pos:Pos}(hg:Gl X "range")(hm:X.mg "range"=none)(ha:PA X [a,b] ta)(hs:starEach [a,b] X.env=[(false,eval a X.env),(false,eval b X.env)]:=by rfl)(hs2:starEach [b] X.env=[(false,eval b X.env)]:=by rfl):
  PI X tg (.Call (.Name "range" p) [a,b] [] pos) (iRng2 ta):=by
 intro pins s σ H R I h;refine Call_ (ld_blt I hg hm boot_range (PyProof.Rows.callWith_type1 (thn (ha pos pins s σ H _ I h) fun us s1 ⟨vs,H1,I1,r1,q1⟩=>?_) (by rw[hs,hs2]) (by rw[hs2];rfl)))
 obtain⟨i,j,e,⟨q1,q2,q3,q4⟩,q⟩:=q1;subst e;cases r1 with
 | cons r rr=>
  cases rr with
  | cons r' rr=>
   cases rr;obtain⟨t,rfl⟩:=r;obtain⟨t',rfl⟩:=r';exact call_range_2 (range_it I1 q1 q2 q3 q4 q)
def tFor (wi:TI)(g:TG)(tb:TS):TS:=fun D σ H=>wi σ H fun J H1=>∃ W:Nat->Nat->St->Hp->Prop,(∃ m,W 0 m σ H1)/\∀ i m σ H,W i m σ H->
 (J.stop i H/\D.nx σ H)\/(J.go i H/\∃ N:St->Hp->Prop,(∀ σ' H',N σ' H'->∃ m',m'<m/\W (i+1) m' σ' H')/\∀ x H',J.yld i H x H'->g x σ H' fun σ2 H2=>tb { D with nx:=N,ct:=N,bk:=D.nx } σ2 H2)
def pinsAt (fp:List Addr)(h:Heap):List (Addr×Obj):=fp.filterMap fun b=>(h.get? b).map fun o=>(b,o)
theorem mem_pinsAt {fp:List Addr}{h:Heap}{b:Addr}{o:Obj}(hb:b∈fp)(e:h.get? b=some o):(b,o)∈pinsAt fp h:=List.mem_filterMap.mpr ⟨b,hb,by rw[e];rfl⟩
theorem of_pinsAt {fp:List Addr}{h:Heap}{p:Addr×Obj}(hp:p∈pinsAt fp h):p.1∈fp/\h.get? p.1=some p.2:=by
 obtain⟨b,hb,e⟩:=List.mem_filterMap.mp hp;cases q:h.get? b with
 | none=>rw[q] at e;cases e
 | some o=>
  rw[q] at e;have e':(b,o)=p:=Option.some.inj e;subst e';exact⟨hb,q⟩
theorem Inv.pinned {pins:List (Addr×Obj)}{σ:St}{H:Hp}{s:Shared}{fp:List Addr}(I:Inv X pins σ H s)(hf:∀ b∈fp,FpOk X pins H b)(ho:∀ b∈fp,∃ o,s.heap.get? b=some o/\∀ v,o.data≠.cell v):Inv X (pins++pinsAt fp s.heap) σ H s:=
 I.pins_of fun p hp=>(List.mem_append.mp hp).elim (fun z=>I.pin p (Yq _ z)) fun z=>by
  obtain⟨hb,e⟩:=of_pinsAt z;obtain⟨f0,f1,f2,_⟩:=hf p.1 hb;obtain⟨o,e',d⟩:=ho p.1 hb;rw[e] at e';cases e';exact⟨e,f0,f1,f2,d⟩
theorem Inv.unpinned {pins pl:List (Addr×Obj)}{σ:St}{H:Hp}{s:Shared}(I:Inv X (pins++pl) σ H s):Inv X pins σ H s:=I.pins_of fun p hp=>I.pin p (Yq _ (List.mem_append_left _ hp))
theorem ps_for {iter:Expr}{body:List Stmt}{wi:TI}{g:TG}{tb:TS}{pos:Pos}(hp:PassesOwn (model X.prog X.w) X.A X.env X.xe)(hc:X.calm=true)(hi:PI X tg iter wi)(hg:PG X tg g)(hb:PSs X body tb)
  (hs:∀ x,foldedSetIterable iter X.env x=pure x:=by intro _;rfl):PS X (.For tg iter body [] pos) (tFor wi g tb):=by
 refine⟨?_⟩
 intro pins s σ H D I h;refine wpAny_For (thn (hi pins s σ H _ I h) fun v s1 h1=>thn h1 fun itv s2 h2=>?_) hs
 obtain⟨it,fp,tn,J,H2,e,I2,T,st2,f2,W,⟨m0,w0⟩,turn⟩:=h2;subst e;have stat:∀ {H':Hp},(∀ b∈fp,H' b=none)->∀ b∈fp,FpOk X pins H' b:=fun hn b hb=>⟨hn b hb,(f2 b hb).2⟩
 refine codeAny_forLoop_any (fun n s'=>∃ i σ' H',Inv X pins σ' H' s'/\tn i s'.heap/\(∀ b∈fp,H' b=none)/\W i n σ' H') ?_ m0 ⟨0,σ,H2,I2,st2,fun b hb=>(f2 b hb).1,w0⟩
 rintro n s3 ⟨i,σ3,H3,I3,st3,fr3,w3⟩;rcases turn i n σ3 H3 w3 with ⟨stop,qn⟩ | ⟨go,N,hN,step⟩
 ·refine wpAny_passesOwn hp (thn (T.done X rfl rfl rfl hc i pins s3 σ3 H3 X.xe I3 (stat fr3) st3 stop) fun r s4 ⟨hr,I4⟩=>?_)
  subst hr;exact wpAny_execs_nil ⟨σ3,H3,I4,qn⟩
 ·refine wpAny_passesOwn hp (thn (T.item X rfl rfl rfl hc i pins s3 σ3 H3 X.xe I3 (stat fr3) st3 go) fun r s4 ⟨u,hr,h4⟩=>?_)
  subst hr;refine wpAny_passesOwn hp (thn h4 fun _ s5 ⟨x,H5,I5,r5,y5,st5,fr5⟩=>?_)
  have I5':=I5.pinned (stat fr5) (T.obj _ _ st5);refine wpAny_passesOwn hp (thn (hg _ s5 σ3 H5 x u _ I5' r5 (step x H5 y5)) fun _ s6 ⟨σ6,H6,I6,q6⟩=>?_)
  refine wpAny_passesOwn hp (thn (hb _ s6 σ6 H6 _ I6 q6) fun f s7 q7=>?_)
  have again:∀ {σ7:St} {H7:Hp},Inv X (pins++pinsAt fp s5.heap) σ7 H7 s7->N σ7 H7->∃ m,m<n/\∃ i σ' H',Inv X pins σ' H' s7/\tn i s7.heap/\(∀ b∈fp,H' b=none)/\W i m σ' H':=fun {σ7 H7} I7 n7=>by
   obtain⟨m',hm,w7⟩:=hN σ7 H7 n7;refine⟨m',hm,i+1,σ7,H7,I7.unpinned,T.keep _ _ _ st5 fun b hb o e=>(I7.pin (b,o) (Yq _ (Yq _ (mem_pinsAt hb e)))).1,fun b hb=>?_,w7⟩
   obtain⟨o,e,d⟩:=T.obj _ _ st5 b hb;exact (I7.pin (b,o) (Yq _ (Yq _ (mem_pinsAt hb e)))).2.1
  cases f with
  | next=>obtain⟨σ7,H7,I7,n7⟩:=q7;exact again I7 n7
  | cont=>obtain⟨σ7,H7,I7,n7⟩:=q7;exact again I7 n7
  | brk=>obtain⟨σ7,H7,I7,q7⟩:=q7;exact⟨σ7,H7,I7.unpinned,q7⟩
  | ret v=>obtain⟨x7,σ7,H7,I7,r7,q7⟩:=q7;exact⟨x7,σ7,H7,I7.unpinned,r7,q7⟩
end
theorem for_list {K:FrQ}{a:Addr}{xs:List V}{g:TG}{tb:TS}{D:Ends}{σ:St}{H:Hp}(Pv:Nat->St->Hp->Prop)(h0:Pv 0 σ H)(hl:∀ i σ H,i<=xs.length->Pv i σ H->SqL K H a xs)
  (hs:∀ i x σ H,xs[i]?=some x->Pv i σ H->g x σ H fun σ2 H2=>tb { D with nx:=Pv (i+1),ct:=Pv (i+1),bk:=D.nx } σ2 H2) (hd:∀ σ H,Pv xs.length σ H->D.nx σ H):
  ∃ W:Nat->Nat->St->Hp->Prop,(∃ m,W 0 m σ H)/\∀ i m σ H,W i m σ H->
   ((Itl K a).stop i H/\D.nx σ H)\/((Itl K a).go i H/\∃ N:St->Hp->Prop,(∀ σ' H',N σ' H'->∃ m',m'<m/\W (i+1) m' σ' H')/\∀ x H',(Itl K a).yld i H x H'->g x σ H' fun σ2 H2=>tb { D with nx:=N,ct:=N,bk:=D.nx } σ2 H2):=by
 refine⟨fun i m σ H=>m=xs.length - i/\i<=xs.length/\Pv i σ H,⟨xs.length,by simp,Y7 _,h0⟩,?_⟩
 rintro i m σ H ⟨rfl,hi,p⟩;have q:=hl i σ H hi p;by_cases hlt:i<xs.length
 ·refine .inr ⟨⟨xs,xs[i],q,by simp[hlt]⟩,Pv (i+1),fun σ' H' p'=>⟨xs.length - (i+1),by omega,rfl,hlt,p'⟩,fun x H' y=>?_⟩
  obtain⟨e,y⟩:=y;subst e;exact hs i x σ _ (y xs q) p
 ·have e:i=xs.length:=by omega
  subst e;exact .inl ⟨⟨xs,q,Yd _⟩,hd σ H p⟩
theorem for_range {lo:Int}{n:Nat}{g:TG}{tb:TS}{D:Ends}{σ:St}{H:Hp}(Pv:Nat->St->Hp->Prop)(h0:Pv 0 σ H)
  (hs:∀ i σ H,i<n->Pv i σ H->g (.int (lo+i)) σ H fun σ2 H2=>tb { D with nx:=Pv (i+1),ct:=Pv (i+1),bk:=D.nx } σ2 H2) (hd:∀ σ H,Pv n σ H->D.nx σ H):
  ∃ W:Nat->Nat->St->Hp->Prop,(∃ m,W 0 m σ H)/\∀ i m σ H,W i m σ H->
   ((Itr lo n).stop i H/\D.nx σ H)\/((Itr lo n).go i H/\∃ N:St->Hp->Prop,(∀ σ' H',N σ' H'->∃ m',m'<m/\W (i+1) m' σ' H')/\∀ x H',(Itr lo n).yld i H x H'->g x σ H' fun σ2 H2=>tb { D with nx:=N,ct:=N,bk:=D.nx } σ2 H2):=by
 refine⟨fun i m σ H=>m=n - i/\i<=n/\Pv i σ H,⟨n,by simp,Y7 _,h0⟩,?_⟩
 rintro i m σ H ⟨rfl,hi,p⟩;by_cases hlt:i<n
 ·refine .inr ⟨hlt,Pv (i+1),fun σ' H' p'=>⟨n - (i+1),by omega,rfl,hlt,p'⟩,fun x H' y=>?_⟩
  obtain⟨e,y⟩:=y;subst e y;exact hs i σ _ hlt p
 ·have e:i=n:=by omega
  subst e;exact .inl ⟨Yd _,hd σ H p⟩
theorem while_by {c:TT}{tb:TS}{D:Ends}{σ:St}{H:Hp}(Pv:St->Hp->Prop)(μ:St->Hp->Nat)(h0:Pv σ H)
  (hs:∀ σ H,Pv σ H->c σ H fun b H1=>if b=true then tb { D with nx:=fun σ' H'=>Pv σ' H'/\μ σ' H'<μ σ H,ct:=fun σ' H'=>Pv σ' H'/\μ σ' H'<μ σ H,bk:=D.nx } σ H1 else D.nx σ H1)
  (mono:∀ σ H Q Q',(∀ b H1,Q b H1->Q' b H1)->c σ H Q->c σ H Q'):tWhile c tb D σ H:=by
 refine⟨fun m σ H=>m=μ σ H/\Pv σ H,⟨_,rfl,h0⟩,?_⟩
 rintro m σ H ⟨rfl,p⟩;refine mono σ H _ _ (fun b H1 q=>?_) (hs σ H p)
 cases b with
 | true=>exact⟨_,fun σ' H' ⟨p',l⟩=>⟨_,l,rfl,p'⟩,q⟩
 | false=>exact q
end L2
namespace L2
open PySem PySem.Spec PyProof.Rows
abbrev R2:=V->V->Hp->VK->Prop
def OpR (X:Cx)(f:Value->Value->Sem Value)(r:R2):Prop:=
 ∀ (pins:List (Addr×Obj)) (s:Shared) (σ:St) (H:Hp) (x y:V) (v u:Value) (Q:VK),Inv X pins σ H s->RelV x v->RelV y u->r x y H Q->
  wpAny (model X.prog X.w) X.A (f v u) (EP X pins σ Q) X.xe s
def UnR (X:Cx)(f:Value->Sem Value)(r:V->Hp->VK->Prop):Prop:=
 ∀ (pins:List (Addr×Obj)) (s:Shared) (σ:St) (H:Hp) (x:V) (v:Value) (Q:VK),Inv X pins σ H s->RelV x v->r x H Q->
  wpAny (model X.prog X.w) X.A (f v) (EP X pins σ Q) X.xe s
def CallR (X:Cx)(f:Value)(r:List V->Hp->VK->Prop):Prop:=
 ∀ (pins:List (Addr×Obj)) (s:Shared) (σ:St) (H:Hp) (xs:List V) (us:List Value) (Q:VK),Inv X pins σ H s->Vals xs us->r xs H Q->
  wpAny (model X.prog X.w) X.A (call f us) (EP X pins σ Q) X.xe s
def tOp (r:R2)(ta tb:TE):TE:=fun σ H Q=>ta σ H fun x H1=>tb σ H1 fun y H2=>r x y H2 Q
def tUn (r:V->Hp->VK->Prop)(ta:TE):TE:=fun σ H Q=>ta σ H fun x H1=>r x H1 Q
def rI (C:Int->Int->Prop)(g:Int->Int->V):R2:=fun x y H Q=>∃ i j,x=.int i/\y=.int j/\C i j/\Q (g i j) H
def rI0 (g:Int->Int->V):R2:=fun x y H Q=>∃ i j,x=.int i/\y=.int j/\Q (g i j) H
def rU (g:Int->V):V->Hp->VK->Prop:=fun x H Q=>∃ i,x=.int i/\Q (g i) H
section
variable {X:Cx} {a b c:Expr} {ta tb tc:TE} {pos:Pos}
theorem binT (ha:PE X a ta)(hb:PE X b tb){pins:List (Addr×Obj)}{s:Shared}{σ:St}{H:Hp}{R:V->V->Hp->Prop}(I:Inv X pins σ H s)
  (h:ta σ H fun x H1=>tb σ H1 fun y H2=>R x y H2) {Q:Value->Shared->Prop} {f:Value->Value->Sem Value}
  (hf:∀ v u s2 x y H2,Inv X pins σ H2 s2->RelV x v->RelV y u->R x y H2->wpAny (model X.prog X.w) X.A (f v u) Q X.xe s2):
  wpAny (model X.prog X.w) X.A (eval a X.env) (fun v s₁=>wpAny (model X.prog X.w) X.A (eval b X.env) (fun u s₂=>wpAny (model X.prog X.w) X.A (f v u) Q X.xe s₂) X.xe s₁) X.xe s:=by
 refine thn (ha pins s σ H _ I h) fun v s1 ⟨x,H1,I1,r1,q1⟩=>?_
 refine thn (hb pins s1 σ H1 _ I1 q1) fun u s2 ⟨y,H2,I2,r2,q2⟩=>?_
 exact hf v u s2 x y H2 I2 r1 r2 q2
theorem pe_op {op:Operator}{r:R2}(ho:OpR X (binaryOp op) r)(ha:PE X a ta)(hb:PE X b tb):PE X (.BinOp a op b pos) (tOp r ta tb):=by
 refine⟨?_⟩
 intro pins s σ H Q I h;exact wpAny_BinOp (binT ha hb I h fun v u s2 x y H2 I2 rx ry q=>ho pins s2 σ H2 x y v u Q I2 rx ry q)
theorem pe_un {op:UnaryOp}{r:V->Hp->VK->Prop}(ho:UnR X (unaryOp op) r)(ha:PE X a ta):PE X (.UnaryOp op a pos) (tUn r ta):=by
 refine⟨?_⟩
 intro pins s σ H Q I h;exact UnaryOp_ (thn (ha pins s σ H _ I h) fun v s1 ⟨x,H1,I1,r1,q1⟩=>ho pins s1 σ H1 x v Q I1 r1 q1)
theorem opI {f:Value->Value->Sem Value}{C:Int->Int->Prop}{g:Int->Int->Int}
  (rule:∀ (i j:Int) (t u:Tok) (s:Shared) (Q:Value->Shared->Prop) (E:Value->Shared->Prop),C i j->Q (.int (g i j) s.toks) { s with toks:=s.toks+1 }->wpAny (model X.prog X.w) X.A (f (.int i t) (.int j u)) Q E s):
  OpR X f (rI C fun i j=>.int (g i j)):=by
 intro pins s σ H x y v u Q I rx ry h;obtain⟨i,j,rfl,rfl,hc,q⟩:=h;obtain⟨t,rfl⟩:=rx;obtain⟨t',rfl⟩:=ry;exact rule i j t t' s _ _ hc ⟨.int (g i j),H,I.tok _,⟨_,rfl⟩,q⟩
theorem opI0 {f:Value->Value->Sem Value}{g:Int->Int->Int}
  (rule:∀ (i j:Int) (t u:Tok) (s:Shared) (Q:Value->Shared->Prop) (E:Value->Shared->Prop),Q (.int (g i j) s.toks) { s with toks:=s.toks+1 }->wpAny (model X.prog X.w) X.A (f (.int i t) (.int j u)) Q E s):
  OpR X f (rI0 fun i j=>.int (g i j)):=by
 intro pins s σ H x y v u Q I rx ry h;obtain⟨i,j,rfl,rfl,q⟩:=h;obtain⟨t,rfl⟩:=rx;obtain⟨t',rfl⟩:=ry;exact rule i j t t' s _ _ ⟨.int (g i j),H,I.tok _,⟨_,rfl⟩,q⟩
theorem opB0 {f:Value->Value->Sem Value}{g:Int->Int->Bool}
  (rule:∀ (i j:Int) (t u:Tok) (s:Shared) (Q:Value->Shared->Prop) (E:Value->Shared->Prop),Q (.bool (g i j)) s->wpAny (model X.prog X.w) X.A (f (.int i t) (.int j u)) Q E s):
  OpR X f (rI0 fun i j=>.bl (g i j)):=by
 intro pins s σ H x y v u Q I rx ry h;obtain⟨i,j,rfl,rfl,q⟩:=h;obtain⟨t,rfl⟩:=rx;obtain⟨t',rfl⟩:=ry;exact rule i j t t' s _ _ ⟨.bl (g i j),H,I,rfl,q⟩
def CPow (i j:Int):Prop:=0<=j/\j<=1000000/\i.natAbs<2 ^ 64
theorem op_add:OpR X (binaryOp .Add) (rI0 fun i j=>.int (i+j)):=opI0 fun _ _ _ _ _ _ _ q=>add_int q
theorem op_sub:OpR X (binaryOp .Sub) (rI0 fun i j=>.int (i - j)):=opI0 fun _ _ _ _ _ _ _ q=>sub_int q
theorem op_modN:OpR X (binaryOp .Mod) (rI (fun _ j=>j≠0) fun i j=>.int (i.fmod j)):=opI fun _ _ _ _ _ _ _ hc q=>mod_int' hc q
theorem op_pow:OpR X (binaryOp .Pow) (rI CPow fun i j=>.int (i ^ j.toNat)):=opI fun _ _ _ _ _ _ _ hc q=>pow_int_small hc.1 hc.2.1 hc.2.2 q
theorem iop_add:OpR X (inplaceOp .Add) (rI0 fun i j=>.int (i+j)):=opI0 fun _ _ _ _ _ _ _ q=>iadd_int q
theorem iop_sub:OpR X (inplaceOp .Sub) (rI0 fun i j=>.int (i - j)):=opI0 fun _ _ _ _ _ _ _ q=>isub_int q
theorem unI {f:Value->Sem Value}{g:Int->Int}
  (rule:∀ (i:Int) (t:Tok) (s:Shared) (Q:Value->Shared->Prop) (E:Value->Shared->Prop),Q (.int (g i) s.toks) { s with toks:=s.toks+1 }->wpAny (model X.prog X.w) X.A (f (.int i t)) Q E s):
  UnR X f (rU fun i=>.int (g i)):=by
 intro pins s σ H x v Q I rx h;obtain⟨i,rfl,q⟩:=h;obtain⟨t,rfl⟩:=rx;exact rule i t s _ _ ⟨.int (g i),H,I.tok _,⟨_,rfl⟩,q⟩
theorem un_neg:UnR X (unaryOp .USub) (rU fun i=>.int (-i)):=unI fun _ _ _ _ _ q=>neg_int q
end
def scal:V->V->Bool
 | .non,.non=>true | .non,.int _=>true | .int _,.non=>true | .non,.bl _=>true | .bl _,.non=>true | .non,.str _=>true | .str _,.non=>true
 | .int _,.int _=>true | .bl _,.bl _=>true | .str _,.str _=>true | .byt _,.byt _=>true
 | .int _,.str _=>true | .str _,.int _=>true | .bl _,.str _=>true | .str _,.bl _=>true
 | _,_=>false
def rEq:R2:=fun x y H Q=>scal x y=true/\Q (.bl (decide (x=y))) H
def rNe:R2:=fun x y H Q=>scal x y=true/\Q (.bl (!decide (x=y))) H
theorem dec_int {i j:Int}:decide (V.int i=V.int j)=(i == j):=by
 rw[Bool.eq_iff_iff];simp
theorem dec_bl {i j:Bool}:decide (V.bl i=V.bl j)=(i == j):=by
 rw[Bool.eq_iff_iff];simp
theorem dec_str {i j:Str}:decide (V.str i=V.str j)=(i == j):=by
 rw[Bool.eq_iff_iff];simp
theorem dec_byt {i j:Array UInt8}:decide (V.byt i=V.byt j)=(i.toList == j.toList):=by
 rw[Bool.eq_iff_iff];cases i;cases j;simp
section
variable {X:Cx} {a b c:Expr} {ta tb tc:TE} {pos:Pos}
theorem fin_bl {pins:List (Addr×Obj)}{σ:St}{H:Hp}{s:Shared}{Q:VK}{k k':Bool}(I:Inv X pins σ H s)(q:Q (.bl k) H)(e:k=k'):EP X pins σ Q (.bool k') s:=by
 subst e;exact⟨.bl k,H,I,rfl,q⟩
theorem op_eq:OpR X (compareOp .Eq) rEq:=by
 intro pins s σ H x y v u Q I rx ry h;obtain⟨hs,q⟩:=h;cases x with
 | non=>
  cases rx;cases y with
  | non=>cases ry;exact PySem.EqNone.eq_none_none (fin_bl I q (by simp))
  | bl j=>cases ry;exact PySem.EqNone.eq_none_bool (fin_bl I q (by simp))
  | int j=>obtain⟨t',rfl⟩:=ry;exact PySem.EqNone.eq_none_int (fin_bl I q (by simp))
  | str j=>obtain⟨t',rfl⟩:=ry;exact PySem.EqNone.eq_none_str (fin_bl I q (by simp))
  | _=>exact W1 (show false=true from hs) Bool.false_ne_true
 | bl i=>
  cases rx;cases y with
  | non=>cases ry;exact PySem.EqNone.eq_bool_none (fin_bl I q (by simp))
  | bl j=>cases ry;exact eq_bool (fin_bl I q dec_bl)
  | str j=>obtain⟨t',rfl⟩:=ry;exact PySem.EqMixed.eq_bool_str (fin_bl I q (by simp))
  | _=>exact W1 (show false=true from hs) Bool.false_ne_true
 | int i=>
  obtain⟨t,rfl⟩:=rx;cases y with
  | non=>cases ry;exact PySem.EqNone.eq_int_none (fin_bl I q (by simp))
  | int j=>obtain⟨t',rfl⟩:=ry;exact eq_int (fin_bl I q dec_int)
  | str j=>obtain⟨t',rfl⟩:=ry;exact PySem.EqMixed.eq_int_str (fin_bl I q (by simp))
  | _=>exact W1 (show false=true from hs) Bool.false_ne_true
 | str i=>
  obtain⟨t,rfl⟩:=rx;cases y with
  | non=>cases ry;exact PySem.EqNone.eq_str_none (fin_bl I q (by simp))
  | bl j=>cases ry;exact PySem.EqMixed.eq_str_bool (fin_bl I q (by simp))
  | int j=>obtain⟨t',rfl⟩:=ry;exact PySem.EqMixed.eq_str_int (fin_bl I q (by simp))
  | str j=>obtain⟨t',rfl⟩:=ry;exact eq_str (fin_bl I q dec_str)
  | _=>exact W1 (show false=true from hs) Bool.false_ne_true
 | byt i=>
  obtain⟨t,rfl⟩:=rx;cases y with
  | byt j=>obtain⟨t',rfl⟩:=ry;exact PySem.W.eq_bytes (fin_bl I q dec_byt)
  | _=>exact W1 (show false=true from hs) Bool.false_ne_true
 | _=>cases y <;> exact W1 (show false=true from hs) Bool.false_ne_true
theorem op_ne:OpR X (compareOp .NotEq) rNe:=by
 intro pins s σ H x y v u Q I rx ry h;obtain⟨hs,q⟩:=h;cases x with
 | non=>
  cases rx;cases y with
  | non=>cases ry;exact PySem.EqNone.ne_none_none (fin_bl I q (by simp))
  | bl j=>cases ry;exact PySem.EqNone.ne_none_bool (fin_bl I q (by simp))
  | int j=>obtain⟨t',rfl⟩:=ry;exact PySem.EqNone.ne_none_int (fin_bl I q (by simp))
  | str j=>obtain⟨t',rfl⟩:=ry;exact PySem.EqNone.ne_none_str (fin_bl I q (by simp))
  | _=>exact W1 (show false=true from hs) Bool.false_ne_true
 | bl i=>
  cases rx;cases y with
  | non=>cases ry;exact PySem.EqNone.ne_bool_none (fin_bl I q (by simp))
  | bl j=>cases ry;exact ne_bool (fin_bl I q (Wz not dec_bl))
  | str j=>obtain⟨t',rfl⟩:=ry;exact PySem.EqMixed.ne_bool_str (fin_bl I q (by simp))
  | _=>exact W1 (show false=true from hs) Bool.false_ne_true
 | int i=>
  obtain⟨t,rfl⟩:=rx;cases y with
  | non=>cases ry;exact PySem.EqNone.ne_int_none (fin_bl I q (by simp))
  | int j=>obtain⟨t',rfl⟩:=ry;exact ne_int (fin_bl I q (Wz not dec_int))
  | str j=>obtain⟨t',rfl⟩:=ry;exact PySem.EqMixed.ne_int_str (fin_bl I q (by simp))
  | _=>exact W1 (show false=true from hs) Bool.false_ne_true
 | str i=>
  obtain⟨t,rfl⟩:=rx;cases y with
  | non=>cases ry;exact PySem.EqNone.ne_str_none (fin_bl I q (by simp))
  | bl j=>cases ry;exact PySem.EqMixed.ne_str_bool (fin_bl I q (by simp))
  | int j=>obtain⟨t',rfl⟩:=ry;exact PySem.EqMixed.ne_str_int (fin_bl I q (by simp))
  | str j=>obtain⟨t',rfl⟩:=ry;exact ne_str (fin_bl I q (Wz not dec_str))
  | _=>exact W1 (show false=true from hs) Bool.false_ne_true
 | byt i=>
  obtain⟨t,rfl⟩:=rx;cases y with
  | byt j=>obtain⟨t',rfl⟩:=ry;exact PySem.W.ne_bytes (fin_bl I q (Wz not dec_byt))
  | _=>exact W1 (show false=true from hs) Bool.false_ne_true
 | _=>cases y <;> exact W1 (show false=true from hs) Bool.false_ne_true
theorem op_lt:OpR X (compareOp .Lt) (rI0 fun i j=>.bl (decide (i<j))):=opB0 fun _ _ _ _ _ _ _ q=>lt_int q
theorem op_le:OpR X (compareOp .LtE) (rI0 fun i j=>.bl (decide (i<=j))):=opB0 fun _ _ _ _ _ _ _ q=>le_int q
theorem op_gt:OpR X (compareOp .Gt) (rI0 fun i j=>.bl (decide (j<i))):=opB0 fun _ _ _ _ _ _ _ q=>gt_int q
theorem op_ge:OpR X (compareOp .GtE) (rI0 fun i j=>.bl (decide (j<=i))):=opB0 fun _ _ _ _ _ _ _ q=>ge_int q
theorem nomark (b:Expr){op:CmpOp}(h:op≠.In:=by decide)(h2:op≠.NotIn:=by decide):behindInMarks op b=false:=by
 have e1:(op == CmpOp.In)=false:=by cases op <;> first|rfl|exact W1 rfl h
 have e2:(op == CmpOp.NotIn)=false:=by cases op <;> first|rfl|exact W1 rfl h2
 cases b <;> simp[behindInMarks,e1,e2]
theorem pe_cmpR {op:CmpOp}{r:R2}(ho:OpR X (compareOp op) r)(ha:PE X a ta)(hb:PE X b tb)(hm:behindInMarks op b=false):PE X (.Compare a [op] [b] pos) (tOp r ta tb):=by
 refine⟨?_⟩
 intro pins s σ H Q I h;exact wpAny_Compare1 (binT ha hb I h fun v u s2 x y H2 I2 rx ry q=>ho pins s2 σ H2 x y v u Q I2 rx ry q) hm
def tTest (t:TE):TT:=fun σ H Q=>t σ H fun x H'=>∃ k,x=.bl k/\Q k H'
theorem pt_cmpR {op:CmpOp}{r:R2}(ho:OpR X (compareOp op) r)(ha:PE X a ta)(hb:PE X b tb)(hm:behindInMarks op b=false):PT X (.Compare a [op] [b] pos) (tTest (tOp r ta tb)):=by
 refine⟨?_⟩
 intro pins s σ H Q I h;refine wpAny_isTrue_Compare1 (thn (ha pins s σ H _ I h) fun v s1 ⟨x,H1,I1,r1,q1⟩=>thn (hb pins s1 σ H1 _ I1 q1) fun u s2 ⟨y,H2,I2,r2,q2⟩=>
  thn (ho pins s2 σ H2 x y v u _ I2 r1 r2 q2) fun c s3 ⟨z,H3,I3,r3,k,e,q3⟩=>?_) hm
 subst e;cases r3;exact wpAny_truthy_bool ⟨H3,I3,q3⟩
def tChain (r r':R2)(ta tb tc:TE):TE:=fun σ H Q=>ta σ H fun x H1=>tb σ H1 fun y H2=>r x y H2 fun z H3=>∃ k,z=.bl k/\
 (if k=true then tc σ H3 fun w' H4=>r' y w' H4 Q else Q (.bl false) H3)
theorem pe_chain {op op':CmpOp}{r r':R2}(ho:OpR X (compareOp op) r)(ho':OpR X (compareOp op') r')(ha:PE X a ta)(hb:PE X b tb)(hc:PE X c tc)
  (hm:lastMarks [op,op'] [b,c]=false:=by with_unfolding_all rfl):PE X (.Compare a [op,op'] [b,c] pos) (tChain r r' ta tb tc):=by
 refine⟨?_⟩
 intro pins s σ H Q I h;refine Compare_chain (thn (ha pins s σ H _ I h) fun v s1 ⟨x,H1,I1,r1,q1⟩=>chain_link (thn (hb pins s1 σ H1 _ I1 q1) fun u s2 ⟨y,H2,I2,r2,q2⟩=>
  thn (ho pins s2 σ H2 x y v u _ I2 r1 r2 q2) fun d s3 ⟨z,H3,I3,r3,k,e,q3⟩=>?_)) hm
 subst e;cases r3;refine wpAny_truthy_bool ?_
 cases k with
 | false=>exact ite_ff ⟨.bl false,H3,I3,rfl,q3⟩
 | true=>exact ite_tt (chain_last (thn (hc pins s3 σ H3 _ I3 q3) fun w' s4 ⟨z',H4,I4,r4,q4⟩=>ho' pins s4 σ H4 y z' u w' Q I4 r2 r4 q4))
theorem line63:(sizeLine:Nat)<2 ^ 63:=by rw[sizeLine_eq];decide
theorem vals1 {x:V}{us:List Value}(r:Vals [x] us):∃ u,us=[u]/\RelV x u:=by
 cases r with
 | cons r1 r2=>cases r2;exact⟨_,rfl,r1⟩
theorem vals2 {x y:V}{us:List Value}(r:Vals [x,y] us):∃ u w',us=[u,w']/\RelV x u/\RelV y w':=by
 cases r with
 | cons r1 r2=>
  cases r2 with
  | cons r3 r4=>cases r4;exact⟨_,_,rfl,r1,r3⟩
theorem call_abs:CallR X (.builtin "abs") (fun xs H Q=>∃ i,xs=[.int i]/\Q (.int (if i<0 then -i else i)) H):=by
 intro pins s σ H xs us Q I r h;obtain⟨i,rfl,q⟩:=h;obtain⟨u,rfl,t,rfl⟩:=vals1 r;exact call_abs_int fun u tk=>⟨.int (if i<0 then -i else i),H,I.tok _,⟨_,rfl⟩,q⟩
theorem call_min2 (hc:X.calm=true):CallR X (.builtin "min") (fun xs H Q=>∃ i j,xs=[.int i,.int j]/\Q (.int (if j<i then j else i)) H):=by
 intro pins s σ H xs us Q I r h;obtain⟨i,j,rfl,q⟩:=h;obtain⟨u,w',rfl,⟨t,rfl⟩,⟨t',rfl⟩⟩:=vals2 r;refine min_two_ints (I.ok.hd hc) fun h' tk k=>⟨_,H,I.kept k,?_,q⟩
 by_cases hj:j<i
 ·rw[Wv hj,Wv hj];exact⟨_,rfl⟩
 ·rw[Wu hj,Wu hj];exact⟨_,rfl⟩
end
end L2
namespace L2
open PySem PySem.Spec PyProof.Rows
end L2
namespace L2
open PySem PySem.Spec PyProof.Rows
structure Room (k:Nat)(A:Around):Prop where
 hd:A.handled=none
 dp:A.depth+3*k+5<recursionLimit
 un:A.units+16*k+200<cLine
 gd:A.guards=some []
theorem Room.mono {j k:Nat}{A:Around}(r:Room k A)(h:j<=k):Room j A:=⟨r.hd,by have:=r.dp;omega,by have:=r.un;omega,r.gd⟩
theorem Room.deeper {k:Nat}{A:Around}(r:Room (k+1) A)(env:Env):Room k (A.deeper env):=
 ⟨r.hd,by have:=r.dp;show A.depth+1+3*k+5<_;omega,by have:=r.un;show A.units+3+16*k+200<_;omega,r.gd⟩
theorem Room.in1 {k:Nat}{A:Around}(r:Room (k+1) A):Room k A.in1:=
 ⟨r.hd,by have:=r.dp;show A.depth+3*k+5<_;omega,by have:=r.un;show A.units+1+16*k+200<_;omega,r.gd⟩
theorem Room.depth {k:Nat}{A:Around}(r:Room k A):A.depth<recursionLimit:=by have:=r.dp;omega
theorem Room.units {k:Nat}{A:Around}(r:Room k A):A.units+64<cLine:=by have:=r.un;omega
def tNil:TA:=fun _ H Q=>Q [] H
def tCons (ta:TE)(tr:TA):TA:=fun σ H Q=>ta σ H fun x H1=>tr σ H1 fun xs H2=>Q (x::xs) H2
section
variable {X:Cx} {e:Expr} {es:List Expr} {te:TE} {t:TA} {pos:Pos}
theorem pa_nil:PA X [] tNil:=⟨fun _ _ _ _ H Q I h=>Calls.spliced_nil ⟨[],H,I,.nil,h⟩⟩
theorem pa_cons (ha:PE X e te)(hr:PA X es t)(hs:starEach (e::es) X.env=(false,eval e X.env)::starEach es X.env:=by rfl):PA X (e::es) (tCons te t):=by
 refine⟨?_⟩
 intro pos pins s σ H Q I h;rw[hs];show wpAny _ _ (spliced ((false,eval e X.env)::backTo pos (starEach es X.env))) _ _ s
 refine Calls.spliced_cons (thn (ha pins s σ H _ I h) fun u s1 ⟨x,H1,I1,r1,q1⟩=>?_)
 exact thn (hr pos pins s1 σ H1 _ I1 q1) fun us s2 ⟨xs,H2,I2,r2,q2⟩=>⟨x::xs,H2,I2,.cons r1 r2,q2⟩
def tTup (t:TA):TE:=fun σ H Q=>t σ H fun xs H1=>xs.length<=sizeLine/\∀ p,H1 p=none->Q (.ref p) (upd H1 p (.tup xs))
def tLst (t:TA):TE:=fun σ H Q=>t σ H fun xs H1=>xs.length<=sizeLine/\∀ p,H1 p=none->Q (.ref p) (upd H1 p (.lst xs))
theorem pe_tup {x1}(h:PA X es t):PE X (.Tuple es x1 pos) (tTup t):=by
 refine⟨?_⟩
 intro pins s σ H Q I hq;refine wpAny_Tuple_spliced (thn (h pos pins s σ H _ I hq) fun us s1 ⟨xs,H1,I1,r,z,q⟩=>⟨by rw[<- r.length];exact z,?_⟩)
 have hf:H1 s1.heap.objs.size=none:=I1.hok.fresh (Yd _);refine⟨.ref s1.heap.objs.size,upd H1 s1.heap.objs.size (.tup xs),I1.laid (t':=s1.toks) (fun b u e=>Yf _ e) (Yd _) ?_,rfl,q _ hf⟩
 exact⟨z,us,r,⟨_,Yt _ rfl,rfl,_,rfl⟩⟩
theorem pe_lst (h:PA X es t):PE X (.List es pos) (tLst t):=by
 refine⟨?_⟩
 intro pins s σ H Q I hq;refine wpAny_List_spliced (thn (h pos pins s σ H _ I hq) fun us s1 ⟨xs,H1,I1,r,z,q⟩=>⟨by rw[<- r.length];exact z,?_⟩)
 have hf:H1 s1.heap.objs.size=none:=I1.hok.fresh (Yd _);refine⟨.ref s1.heap.objs.size,upd H1 s1.heap.objs.size (.lst xs),I1.laid (t':=s1.toks) (fun b u e=>Yf _ e) (Yd _) ?_,rfl,q _ hf⟩
 exact⟨z,us,0,r,Yt _ rfl⟩
end
abbrev Sp:=List V->Hp->VK->XK->Prop
abbrev CXT:=List Env->Hp->Shared->XK->Value->Shared->Prop
structure Env0 (P:Program)(w:World)(K:FrQ)(mg:Str->Option Value)(base:Heap)(A:Around)(outer:List Env)(s:Shared)(H:Hp):Prop where
 frames:A.frames=some outer
 mod:Mod K mg base
 bs:∀ b o,base.get? b=some o->s.heap.get? b=some o/\H b=none
 bsz:base.objs.size<=s.heap.objs.size
 funs:s.heap.FunFrames base outer
 frf:∀ b∈frs outer,H b=none
 hok:HOk P w H s.heap
 bare:AllBare s.gens
def CE (outer:List Env)(P:Program)(w:World)(H:Hp)(s:Shared)(Q:VK)(u:Value)(s':Shared):Prop:=
 ∃ v H',s'.os=s.os/\AllBare s'.gens/\Un (frs outer) [] H H' s.heap s'.heap/\HOk P w H' s'.heap/\RelV v u/\Q v H'
def CR (CX:CXT)(outer:List Env)(P:Program)(w:World)(H:Hp)(s:Shared)(Q:VK)(E:XK)(r:Result)(s':Shared):Prop:=
 match r with
 | .ok (.ret u)=>CE outer P w H s Q u s'
 | .ok _=>False
 | .error e=>CX outer H s E e s'
structure FnOk (P:Program)(w:World)(K:FrQ)(mg:Str->Option Value)(base:Heap)(CX:CXT)(k:Nat)(f:Addr)(fd:FuncData)(ps:List Str)(sp:Sp):Prop where
 len:∀ vs H Q E,sp vs H Q E->vs.length=ps.length
 run:∀ (A:Around) (outer:List Env) (s:Shared) (H:Hp) (args:Args) (us:List Value) (vs:List V) (Q:VK) (E:XK),Room k A->Env0 P w K mg base A outer s H->BindsTo s fd args (ps.zip us)->Vals vs us->sp vs H Q E->
  codeAny (model P w) A (.call (.ref f) args) (CR CX outer P w H s Q E) s
section
variable {X:Cx} {pins:List (Addr×Obj)} {σ:St} {H:Hp} {s s':Shared}
theorem Inv.env0 (I:Inv X pins σ H s):Env0 X.prog X.w X.K X.mg X.base X.A X.stack s H:=
 ⟨I.ok.frames,I.ok.mod,I.bs,Ys I.ok.bsz I.sz,I.stack,I.stkFree,I.hok,I.bare⟩
theorem Inv.after {Q:VK}{u:Value}(I:Inv X pins σ H s)(h:CE X.stack X.prog X.w H s Q u s'):EP X pins σ Q u s':=by
 obtain⟨v,H',os,bare,un,hok,r,q⟩:=h;obtain⟨hh,g,d,t,os'⟩:=s';obtain rfl:os'=s.os:=os
 exact⟨v,H',I.call (h':=hh) (g':=g) (d':=d) (t':=t) (ch:=[]) un hok bare (fun b z=>W1 z (by simp)),r,q⟩
end
def tCall (sp:Sp)(dvs:List V)(E:XK)(t:TA):TE:=fun σ H Q=>t σ H fun vs H1=>sp (vs++dvs) H1 Q E
def Binds (K:FrQ)(fd:FuncData)(ps:List Str)(ds:List Value):Prop:=
 ∀ (s:Shared) (us:List Value),K.In s.heap->(us++ds).length=ps.length->BindsTo s fd ⟨us,[]⟩ (ps.zip (us++ds))
theorem Binds.all {K:FrQ}{fd:FuncData}{ps:List Str}(h:∀ us:List Value,us.length=ps.length->bindArgs fd ⟨us,[]⟩=pure (ps.zip us)):Binds K fd ps []:=fun s us _ hl=>by
 rw[List.append_nil] at hl ⊢;exact .of_eq (h us hl)
def Passes (CX:CXT)(X:Cx)(E:XK):Prop:=∀ (pins:List (Addr×Obj)) (σ:St) (H:Hp) (s:Shared) (e:Value) (s':Shared),Inv X pins σ H s->CX X.stack H s E e s'->X.xe e s'
section
variable {X:Cx} {CX:CXT} {k:Nat} {f C:Addr} {fd:FuncData} {ps:List Str} {sp:Sp} {dvs:List V} {ds:List Value} {E:XK} {x m:Str} {p pos apos:Pos} {e o:Expr} {es:List Expr} {ta:TE} {t:TA}
theorem run_fn {pins:List (Addr×Obj)}{σ:St}{H:Hp}{s:Shared}{Q:VK}{us:List Value}{vs:List V}(F:FnOk X.prog X.w X.K X.mg X.base CX k f fd ps sp)(hr:Room k X.A)(hb:Binds X.K fd ps ds)(hd:Vals dvs ds)(hx:Passes CX X E)
  (I:Inv X pins σ H s) (r:Vals vs us) (h:sp (vs++dvs) H Q E):wpAny (model X.prog X.w) X.A (call (.ref f) us) (EP X pins σ Q) X.xe s:=by
 have r2:Vals (vs++dvs) (us++ds):=r.append hd;have hl:(us++ds).length=ps.length:=by rw[<- r2.length];exact F.len _ _ _ _ h
 refine wpAny_call (codeAny_mono (F.run X.A X.stack s H ⟨us,[]⟩ (us++ds) (vs++dvs) Q E hr I.env0 (hb s us I.kIn hl) r2 h) fun r s' hq=>?_)
 cases r with
 | error e=>exact hx pins σ H s e s' I hq
 | ok fl=>
  cases fl with
  | ret u=>exact I.after hq
  | next=>exact False.elim hq
  | brk=>exact False.elim hq
  | cont=>exact False.elim hq
theorem pe_call (F:FnOk X.prog X.w X.K X.mg X.base CX k f fd ps sp)(hr:Room k X.A)(hg:Gl X x)(hm:X.mg x=some (.ref f))(hk:PySem.W.keepIn X.K (.ref f)=true)(hb:Binds X.K fd ps ds)(hd:Vals dvs ds)(hx:Passes CX X E)
  (ha:PA X (e::es) t) (hdb:(x ==("__debug__":Str))=false:=by decide) (he:starEach (e::es) X.env=(false,eval e X.env)::starEach es X.env:=by rfl) (hpl:(backTo pos (starEach es X.env)).any (·.1)=false:=by rfl):
  PE X (.Call (.Name x p) (e::es) [] pos) (tCall sp dvs E t):=by
 refine⟨?_⟩
 intro pins s σ H Q I h;refine wpAny_Call_Name_kw (ld_glob I hg hm ?_ hdb)
 refine PySem.W.callWith_K (h₀:=X.base) I.ok.mod.kin hk (thn (ha pos pins s σ H _ I h) fun us s1 ⟨vs,H1,I1,r,q⟩=>⟨I1.kIn,?_⟩) he hpl
 exact run_fn F hr hb hd hx I1 r q
end
def PK (X:Cx)(kws:List Keyword)(t:TA):Prop:=
 ∀ (pos:Pos) (pins:List (Addr×Obj)) (s:Shared) (σ:St) (H:Hp) (Q:List V->Hp->Prop),Inv X pins σ H s->t σ H Q->wpAny (model X.prog X.w) X.A (evalAll ((backToKw pos (keywordEach kws X.env)).map (·.2))) (AP X pins σ Q) X.xe s
section
variable {X:Cx} {CX:CXT} {k:Nat} {f C:Addr} {fd:FuncData} {ps ks:List Str} {sp:Sp} {E:XK} {x m:Str} {p pos apos kpos:Pos} {e o:Expr} {es:List Expr} {kws:List Keyword} {te ta:TE} {t tk:TA} {nm:Option Str}
theorem pk_nil:PK X [] tNil:=fun _ _ _ _ H Q I h=>wpAny_evalAll_nil ⟨[],H,I,.nil,h⟩
theorem pk_cons (ha:PE X e te)(hr:PK X kws t):PK X (⟨nm,e,kpos⟩::kws) (tCons te t):=by
 intro pos pins s σ H Q I h;show wpAny _ _ (evalAll ((do let v <- eval e X.env;standAt pos;pure v)::(backToKw pos (keywordEach kws X.env)).map (·.2))) _ _ s
 refine wpAny_evalAll_cons (wpAny_bind (thn (ha pins s σ H _ I h) fun u s1 ⟨x,H1,I1,r1,q1⟩=>wpAny_bind (wpAny_standAt (wpAny_pure ?_))))
 exact thn (hr pos pins s1 σ H1 _ I1 q1) fun us s2 ⟨xs,H2,I2,r2,q2⟩=>⟨x::xs,H2,I2,.cons r1 r2,q2⟩
variable {g:List Value->List Value->List Value} {gV:List V->List V->List V}
end
structure FnScope (N P:List Str)(sc:Scope):Prop where
 kind:sc.kind=.function
 co:sc.isCoroutine=false
 gen:sc.isGenerator=false
 nd:N.Nodup
 pre:N.take P.length=P
 par:∀ x∈P,sc.names.lookup x=some .local\/sc.names.lookup x=some .cell
 nofree:∀ y∈sc.names,y.2≠.free
theorem bindL_out {kindOf:Str->Option NameKind}{x:Str}:∀ {binds:List (Str×Value)} {m:Str->Option Value},(∀ v,(x,v) ∉ binds)->bindL kindOf binds m x=m x
 | [],_,_=>rfl
 | (n,v)::r,m,h=>by
  unfold bindL;rw[bindL_out fun w hw=>h w (Yy _ hw)]
  split
  ·have:x≠n:=by rintro rfl;exact h v Y4
   simp[this]
  ·rfl
theorem bindC_out {kindOf:Str->Option NameKind}{x:Str}:∀ {binds:List (Str×Value)} {m:Str->Option Value},(∀ v,(x,v) ∉ binds)->bindC kindOf binds m x=m x
 | [],_,_=>rfl
 | (n,v)::r,m,h=>by
  unfold bindC;rw[bindC_out fun w hw=>h w (Yy _ hw)]
  split
  ·rfl
  ·have:x≠n:=by rintro rfl;exact h v Y4
   simp[this]
theorem bindL_get {kindOf:Str->Option NameKind}{x:Str}{v:Value}:∀ {P:List Str} {vs:List Value} {i:Nat} {m:Str->Option Value},P.Nodup->P[i]?=some x->vs[i]?=some v->kindOf x=some .local->
  bindL kindOf (P.zip vs) m x=some v
 | [],_,_,_,_,h,_,_=>by simp at h
 | _::_,[],_,_,_,_,h,_=>by simp at h
 | p::P,w::vs,0,m,nd,h1,h2,hk=>by
  simp at h1 h2;subst h1;subst h2;show bindL kindOf ((p,w)::P.zip vs) m p=_
  unfold bindL;rw[bindL_out fun v hv=>(List.nodup_cons.mp nd).1 (List.of_mem_zip hv).1,Wv hk]
  simp
 | p::P,w::vs,i+1,m,nd,h1,h2,hk=>by
  show bindL kindOf ((p,w)::P.zip vs) m x=_
  unfold bindL;exact bindL_get (i:=i) (List.nodup_cons.mp nd).2 (by simpa using h1) (by simpa using h2) hk
theorem bindC_get {kindOf:Str->Option NameKind}{x:Str}{v:Value}:∀ {P:List Str} {vs:List Value} {i:Nat} {m:Str->Option Value},P.Nodup->P[i]?=some x->vs[i]?=some v->kindOf x≠some .local->
  bindC kindOf (P.zip vs) m x=some v
 | [],_,_,_,_,h,_,_=>by simp at h
 | _::_,[],_,_,_,_,h,_=>by simp at h
 | p::P,w::vs,0,m,nd,h1,h2,hk=>by
  simp at h1 h2;subst h1;subst h2;show bindC kindOf ((p,w)::P.zip vs) m p=_
  unfold bindC;rw[bindC_out fun v hv=>(List.nodup_cons.mp nd).1 (List.of_mem_zip hv).1,Wu hk]
  simp
 | p::P,w::vs,i+1,m,nd,h1,h2,hk=>by
  show bindC kindOf ((p,w)::P.zip vs) m x=_
  unfold bindC;exact bindC_get (i:=i) (List.nodup_cons.mp nd).2 (by simpa using h1) (by simpa using h2) hk
def start (N:List Str)(vs:List V):St:=vs.map some++Yp (N.length - vs.length) none
def cxOf (CX:CXT)(P:Program)(w:World)(K:FrQ)(mg:Str->Option Value)(base:Heap)(N:List Str)(qual:Str)(scope:Scope)(f:Addr)(cd:Value)(A:Around)(outer:List Env)(s:Shared)(H:Hp)(E:XK):Cx where
 prog:=P
 w:=w
 K:=K
 mg:=mg
 base:=base
 A:=A.deeper (envOfC qual scope s.heap.objs.size f cd)
 N:=N
 s₀:=s
 H₀:=H
 env:=envOfC qual scope s.heap.objs.size f cd
 outer:=outer
 stack:=envOfC qual scope s.heap.objs.size f cd::outer
 ex:=[]
 calm:=true
 fn:=fun _=>true
 pn:=[]
 xe:=fun e s'=>wpAny (model P w) (A.deeper (envOfC qual scope s.heap.objs.size f cd)) (leaving (envOfC qual scope s.heap.objs.size f cd) e) (fun _ s''=>CX outer H s E e s'') (fun e' s''=>CX outer H s E e' s'') s'
theorem cell_has {sc:Scope}{n:Nat}{x:Str}(h:sc.names.lookup x=some .cell):∃ c,(cellsFrom n sc.names []).lookup x=some c:=by
 have q:=PySem.W.cellsFrom_some sc.names n [] (.inl h);exact Option.isSome_iff_exists.mp q
theorem inv_start {CX:CXT}{P:Program}{w:World}{K:FrQ}{mg:Str->Option Value}{base:Heap}{N ps:List Str}{qual:Str}{scope:Scope}{f:Addr}{cd:Value}{A:Around}{outer:List Env}{s s1:Shared}{H:Hp}{E:XK}{us:List Value}{vs:List V}
  (S:FnScope N ps scope) (hd:A.handled=none) (e0:Env0 P w K mg base A outer s H) (hl:vs.length=ps.length) (r:Vals vs us)
  (x:InCallC s s.heap.objs.size (bindL (envOfC qual scope s.heap.objs.size f cd).kindOf (ps.zip us) fun _=>none) (cellsFrom (s.heap.objs.size+1) scope.names []) (bindC (envOfC qual scope s.heap.objs.size f cd).kindOf (ps.zip us) fun _=>none) s1):
  Inv (cxOf CX P w K mg base N qual scope f cd A outer s H E) [] (start N vs) H s1:=by
 have hpl:ps.length<=N.length:=by have:=Wz Wr S.pre;rw[Yr] at this;omega
 obtain⟨h1,tk,rfl,hk⟩:=x.done;have noA:∀ b:Addr,b ∉ (cxOf CX P w K mg base N qual scope f cd A outer s H E).ex:=fun b z=>W1 (show b∈([]:List Addr) from z) (by simp)
 refine⟨⟨e0.mod,S.kind,rfl,rfl,Yd _,fun y z c h1 h2=>?_,fun y hy=>?_,fun y c _ h=>?_,fun _=>hd,Around.frames_deeper e0.frames,.inr ⟨rfl,rfl⟩,fun b z=>W1 z (noA b),e0.bs,e0.bsz,fun b _ _=>noA b,fun b z=>W1 z (noA b),e0.funs,e0.frf⟩,
  rfl,e0.bare,Un.kept hk,⟨_,x.toInCall.ns,fun i y v h1 h2 h3=>?_⟩,fun y c h=>⟨_,x.cell y c h⟩,e0.hok.fresh (Yd _),fun y c h=>?_,fun p hp=>W1 (show p∈([]:List (Addr×Obj)) from hp) (by simp),e0.hok.kept hk,?_⟩
 ·exact name_of_addr x.apart (PySem.mem_of_lookup h1) (PySem.mem_of_lookup h2)
 ·have hy:scope.names.lookup y=some .cell\/scope.names.lookup y=some .free:=hy
  rcases hy with hy | hy
  ·exact cell_has hy
  ·exact W1 rfl (S.nofree _ (PySem.mem_of_lookup hy))
 ·exact Nat.le_of_lt (x.above y c (PySem.mem_of_lookup h))
 ·have hi:i<vs.length:=by
   unfold start at h2;by_cases hi:i<vs.length
   ·exact hi
   ·rw[Y0 (by simpa using hi)] at h2
    rw[List.getElem?_replicate] at h2;split at h2 <;> cases h2
  have ha:vs[i]?=some v:=by
   unfold start at h2;rw[Y2 (by simpa using hi),Ye] at h2
   cases e:vs[i]? with
   | none=>rw[e] at h2;cases h2
   | some a=>rw[e] at h2;cases h2;rfl
  obtain⟨u,hu,rv⟩:=r.get ha;have hp:ps[i]?=some y:=by
   rw[<- S.pre,List.getElem?_take_of_lt (by omega)];exact h1
  have ndP:ps.Nodup:=by rw[<- S.pre];exact S.nd.sublist (List.take_sublist _ _)
  refine⟨u,rv,?_⟩
  rcases S.par y (Yv hp) with k | k
  ·exact .inl ⟨k,bindL_get ndP hp hu k⟩
  ·obtain⟨c,e⟩:=cell_has (n:=s.heap.objs.size+1) k
   refine .inr ⟨.inl k,c,e,?_⟩
   have q:=x.cell y c e;rw[bindC_get ndP hp hu (by show scope.names.lookup y≠_;rw[k];decide)] at q
   exact q
 ·exact e0.hok.fresh (Nat.le_of_lt (x.above y c (PySem.mem_of_lookup h)))
 ·unfold start
  show _=N.length
  rw[Yl,Ya,List.length_replicate];omega
theorem fn_of {CX:CXT}{P:Program}{w:World}{K:FrQ}{mg:Str->Option Value}{base:Heap}{k:Nat}{f:Addr}{name qual:Str}{params:Arguments}{body:List Stmt}{scope:Scope}{dV kV doc pm cdv ct oc:Value}{an od:Option Addr}
  {osl:Array (Option Value)} {N ps:List Str} {sp:Sp} (lk:K.lookup f=some ⟨oc,od,.func (PySem.W.fnOf name qual params body scope dV kV doc pm an cdv ct),osl⟩) (hcd:PySem.W.codeIn K cdv qual=true) (S:FnScope N ps scope)
  (len:∀ vs H Q E,sp vs H Q E->vs.length=ps.length)
  (hbody:∀ (A:Around) (outer:List Env) (s:Shared) (H:Hp) (vs:List V) (Q:VK) (E:XK),Room k (A.deeper (envOfC qual scope s.heap.objs.size f cdv))->sp vs H Q E->
   ∃ t,PSs (cxOf CX P w K mg base N qual scope f cdv A outer s H E) body t/\t { nx:=fun _ H'=>Q .non H',rt:=Q } (start N vs) H):
  FnOk P w K mg base CX (k+1) f (PySem.W.fnOf name qual params body scope dV kV doc pm an cdv ct) ps sp:=by
 refine⟨len,fun A outer s H args us vs Q E hr e0 hb r hsp=>?_⟩
 have hl:=len _ _ _ _ hsp;have KX:K.In s.heap:=e0.mod.kin.keeps fun b o e=>(e0.bs b o e).1
 have lim:s.heap.NoLimit:=e0.mod.nolimit.keeps fun b o e=>(e0.bs b o e).1
 have hkind:∀ y∈ps.zip us,scope.names.lookup y.1=some .local\/(scope.names.lookup y.1=some .cell/\((cellsFrom (s.heap.objs.size+1) scope.names []).lookup y.1).isSome=true):=fun ⟨n,v⟩ hy=>by
  rcases S.par n (List.of_mem_zip hy).1 with q | q
  ·exact .inl q
  ·exact .inr ⟨q,PySem.W.cellsFrom_some _ _ _ (.inl q)⟩
 refine codeAny_call_function hr.depth (KX _ _ lk) rfl S.co S.gen rfl (PySem.W.codeRec_of KX hcd) (hb _ _ _ _ ?_)
 refine wpAny_newFunctionEnv_cells S.kind hkind fun env he s1 x=>?_
 subst he;refine⟨lim.keeps x.toInCall.keep,codeAny_func ?_⟩
 obtain⟨t,ht,hq⟩:=hbody A outer s H vs Q E (hr.deeper _) hsp;have I:Inv (cxOf CX P w K mg base N qual scope f cdv A outer s H E) [] (start N vs) H s1:=inv_start S hr.hd e0 hl r x;refine wpAny_mono (ht [] s1 (start N vs) H _ I hq) (fun fl s' hs=>?_) fun e s' hs=>hs
 have fin:∀ {σ':St} {H':Hp} {v:V} {u:Value},Inv (cxOf CX P w K mg base N qual scope f cdv A outer s H E) [] σ' H' s'->RelV v u->Q v H'->CE outer P w H s Q u s':=
  fun {σ' H' v u} J rv q=>⟨v,H',J.os,J.bare,J.base,J.hok,rv,q⟩
 cases fl with
 | ret u=>
  obtain⟨v,σ',H',J,rv,q⟩:=hs;exact fin J rv q
 | next=>
  obtain⟨σ',H',J,q⟩:=hs;exact fin (v:=V.non) (u:=Value.none) J rfl q
 | brk=>
  obtain⟨_,_,_,q⟩:=hs;exact False.elim q
 | cont=>
  obtain⟨_,_,_,q⟩:=hs;exact False.elim q
end L2
namespace L2
open PySem PySem.Spec PyProof.Rows
section
variable {X:Cx} {x:Str} {p pos:Pos} {e:Expr} {es:List Expr} {t:TA} {id T:String} {r:List V->Hp->VK->Prop}
def tCB (r:List V->Hp->VK->Prop)(t:TA):TE:=fun σ H Q=>t σ H fun vs H1=>r vs H1 Q
theorem pe_callB (hc:CallR X (.builtin id) r)(hg:Gl X x)(hm:X.mg x=none)(hv:bootBuiltins x=some (.builtin id))(ha:PA X (e::es) t)(hn:x≠"__name__":=by decide)(hdb:(x ==("__debug__":Str))=false:=by decide)
  (he:starEach (e::es) X.env=(false,eval e X.env)::starEach es X.env:=by rfl) (hpl:(backTo pos (starEach es X.env)).any (·.1)=false:=by rfl):PE X (.Call (.Name x p) (e::es) [] pos) (tCB r t):=by
 refine⟨?_⟩
 intro pins s σ H Q I h;refine wpAny_Call_Name_kw (ld_blt I hg hm hv ?_ hn hdb)
 exact PyProof.Rows.callWith_builtin1 (thn (ha pos pins s σ H _ I h) fun us s1 ⟨vs,H1,I1,r1,q1⟩=>hc pins s1 σ H1 vs us Q I1 r1 q1) he hpl
theorem pe_callTy (hc:CallR X (.type T) r)(hg:Gl X x)(hm:X.mg x=none)(hv:bootBuiltins x=some (.type T))(ha:PA X (e::es) t)(hn:x≠"__name__":=by decide)(hdb:(x ==("__debug__":Str))=false:=by decide)
  (he:starEach (e::es) X.env=(false,eval e X.env)::starEach es X.env:=by rfl) (hpl:(backTo pos (starEach es X.env)).any (·.1)=false:=by rfl):PE X (.Call (.Name x p) (e::es) [] pos) (tCB r t):=by
 refine⟨?_⟩
 intro pins s σ H Q I h;refine wpAny_Call_Name_kw (ld_blt I hg hm hv ?_ hn hdb)
 exact PyProof.Rows.callWith_type1 (thn (ha pos pins s σ H _ I h) fun us s1 ⟨vs,H1,I1,r1,q1⟩=>hc pins s1 σ H1 vs us Q I1 r1 q1) he hpl
end
end L2
namespace HT
open PySem PyProof.Rows
section
variable {prog:Program} {w:World} {A:Around} {E:Value->Shared->Prop} {s:Shared}
def sIx (n d:Nat):Option Int->Nat
 | none=>d
 | some v=>if v<0 then (v+(n:Int)).toNat else min v.toNat n
theorem sIx_nat (n d k:Nat):sIx n d (some (k:Int))=min k n:=by
 show (if (k:Int)<0 then ((k:Int)+(n:Int)).toNat else min (k:Int).toNat n)=min k n
 rw[Wu (by omega),Yk]
end
end HT
namespace L2
open PySem PySem.Spec PyProof.Rows
abbrev TO:=St->Hp->(Option Int->Hp->Prop)->Prop
def PO (X:Cx)(e:Option Expr)(t:TO):Prop:=
 ∀ (pins:List (Addr×Obj)) (s:Shared) (σ:St) (H:Hp) (Q:Option Int->Hp->Prop),Inv X pins σ H s->t σ H Q->
  wpAny (model X.prog X.w) X.A (evalPart e X.env) (fun u s'=>∃ o H',Inv X pins σ H' s'/\IsPart u o/\Q o H') X.xe s
def tNoPart:TO:=fun _ H Q=>Q none H
def tPart (t:TE):TO:=fun σ H Q=>t σ H fun x H1=>∃ i,x=.int i/\Q (some i) H1
section
variable {X:Cx} {e:Expr} {te:TE} {lo hi:Option Expr} {tl th:TO} {pos p2:Pos}
theorem po_none:PO X none tNoPart:=by
 intro pins s σ H Q I h;rw[evalPart_none];exact wpAny_pure ⟨none,H,I,.none,h⟩
theorem po_some (h:PE X e te):PO X (some e) (tPart te):=by
 intro pins s σ H Q I hw;rw[evalPart_some];refine thn (h pins s σ H _ I hw) fun u s1 ⟨x,H1,I1,r1,q1⟩=>?_
 obtain⟨i,rfl,q⟩:=q1;obtain⟨t,rfl⟩:=r1;exact⟨some i,H1,I1,.int i t,q⟩
def SlR (X:Cx)(r:V->Option Int->Option Int->Hp->VK->Prop):Prop:=
 ∀ (pins:List (Addr×Obj)) (s:Shared) (σ:St) (H:Hp) (x:V) (v vl vu:Value) (lo hi:Option Int) (sl:Addr) (Q:VK),Inv X pins σ H s->RelV x v->s.heap.IsSliceOf sl vl vu .none->IsPart vl lo->IsPart vu hi->r x lo hi H Q->
  ∃ T id,typeLookup (.type T) "__getitem__"=pure (some (.builtin id))/\s.TypeIs v T/\wpAny (model X.prog X.w) X.A (getItem v (.ref sl)) (EP X pins σ Q) X.xe s
def tSl (r:V->Option Int->Option Int->Hp->VK->Prop)(te:TE)(tl th:TO):TE:=fun σ H Q=>te σ H fun x H1=>tl σ H1 fun l H2=>th σ H2 fun u H3=>r x l u H3 Q
theorem pe_slice {r:V->Option Int->Option Int->Hp->VK->Prop}(hr:SlR X r)(he:PE X e te)(hl:PO X lo tl)(hu:PO X hi th):PE X (.Subscript e (.Slice lo hi none p2) pos) (tSl r te tl th):=by
 refine⟨?_⟩
 intro pins s σ H Q I h;refine Subscript_ (thn (he pins s σ H _ I h) fun v s1 ⟨x,H1,I1,r1,q1⟩=>?_)
 refine wpAny_Slice (thn (hl pins s1 σ H1 _ I1 q1) fun vl s2 ⟨l,H2,I2,pl,q2⟩=>thn (hu pins s2 σ H2 _ I2 q2) fun vu s3 ⟨u,H3,I3,pu,q3⟩=>?_)
 rw[evalPart_none];refine wpAny_pure ?_
 have I4:Inv X pins σ H3 { s3 with heap:=s3.heap.push { cls:=.type "slice",data:=.fields #[vl,vu,.none] } }:=I3.kept (t':=s3.toks) fun b ob q=>Yf _ q
 obtain⟨T,id,hT,ht,hg⟩:=hr pins { s3 with heap:=s3.heap.push { cls:=.type "slice",data:=.fields #[vl,vu,.none] } } σ H3 x v vl vu l u s3.heap.objs.size Q I4 r1 (Heap.IsSliceOf.new ..) pl pu q3
 show wpAny (model X.prog X.w) X.A (subscriptTail e (.Slice lo hi none p2) v (.ref s3.heap.objs.size)) (EP X pins σ Q) X.xe { s3 with heap:=s3.heap.push { cls:=.type "slice",data:=.fields #[vl,vu,.none] } }
 exact tail_any (ops:=[.ref s3.heap.objs.size,v]) ht hT hg (by with_unfolding_all rfl)
def cutV (xs:List V)(lo hi:Option Int):List V:=(xs.drop (HT.sIx xs.length 0 lo)).take (HT.sIx xs.length xs.length hi - HT.sIx xs.length 0 lo)
theorem cutV_length (xs:List V)(lo hi:Option Int):(cutV xs lo hi).length<=xs.length:=by
 unfold cutV;rw[Yr,Yz];omega
end
end L2
namespace L2
open PySem PySem.Spec PyProof.Rows
def ixN (n:Nat)(i:Int):Option Nat:=if 0<=i then (if i<n then some i.toNat else none) else if -(n:Int)<=i then some (i+n).toNat else none
def atI {α:Type}(xs:List α)(i:Int):Option α:=(ixN xs.length i).bind fun j=>xs[j]?
theorem ixN_seq {n:Nat}{i:Int}{j:Nat}(h:ixN n i=some j):seqIndex? i n=some j/\j<n/\-(n:Int)<=i/\i<n:=by
 unfold ixN at h;by_cases h0:0<=i
 ·rw[Wv h0] at h
  by_cases h1:i<n
  ·rw[Wv h1] at h
   have e:i.toNat=j:=Option.some.inj h;exact⟨by rw[seqIndex_of h0 h1,e],by omega,by omega,h1⟩
  ·rw[Wu h1] at h;cases h
 ·rw[Wu h0] at h
  by_cases h1:-(n:Int)<=i
  ·rw[Wv h1] at h
   have e:(i+n).toNat=j:=Option.some.inj h;exact⟨by rw[seqIndex_neg (by omega) h1,e],by omega,h1,by omega⟩
  ·rw[Wu h1] at h;cases h
theorem atI_get {α:Type}{xs:List α}{i:Int}{v:α}(h:atI xs i=some v):∃ j,seqIndex? i xs.length=some j/\xs[j]?=some v/\j<xs.length/\-(xs.length:Int)<=i/\i<xs.length:=by
 unfold atI at h;cases e:ixN xs.length i with
 | none=>rw[e] at h;cases h
 | some j=>
  rw[e] at h;obtain⟨h1,h2,h3,h4⟩:=ixN_seq e;exact⟨j,h1,h,h2,h3,h4⟩
theorem atI_nat {α:Type}{xs:List α}{j:Nat}{v:α}(h:xs[j]?=some v):atI xs (j:Int)=some v:=by
 have hj:j<xs.length:=(List.getElem?_eq_some_iff.mp h).1;have e:ixN xs.length (j:Int)=some j:=by
  unfold ixN;rw[Wv (by omega),Wv (by omega)];simp
 unfold atI;rw[e];exact h
def PlainIx (b:Expr):Prop:=∀ o i,subscripted b false o i=operate [o,i] (getItem o i)
def IxR (X:Cx)(r:R2):Prop:=
 ∀ (value slice:Expr) (pins:List (Addr×Obj)) (s:Shared) (σ:St) (H:Hp) (x y:V) (v u:Value) (Q:VK),Inv X pins σ H s->RelV x v->RelV y u->r x y H Q->
  subscripted slice false v u=operate [v,u] (getItem v u)->wpAny (model X.prog X.w) X.A (subscriptTail value slice v u) (EP X pins σ Q) X.xe s
def MtR (X:Cx)(id:String)(r:V->List V->Hp->VK->Prop):Prop:=
 ∀ (pins:List (Addr×Obj)) (s:Shared) (σ:St) (H:Hp) (x:V) (xs:List V) (v:Value) (us:List Value) (Q:VK),Inv X pins σ H s->RelV x v->Vals xs us->r x xs H Q->
  wpAny (model X.prog X.w) X.A (call (.builtin id) (v::us)) (EP X pins σ Q) X.xe s
section
variable {X:Cx} {a b:Expr} {ta tb:TE} {pos:Pos}
theorem pe_ix {r:R2}(hr:IxR X r)(ha:PE X a ta)(hb:PE X b tb)(hs:PlainIx b):PE X (.Subscript a b pos) (tOp r ta tb):=by
 refine⟨?_⟩
 intro pins s σ H Q I h;exact Subscript_ (binT ha hb I h fun v u s2 x y H2 I2 rx ry q=>hr a b pins s2 σ H2 x y v u Q I2 rx ry q (hs _ _))
def rIxL (K:FrQ):R2:=fun x y H Q=>∃ p xs i v,x=.ref p/\y=.int i/\SqL K H p xs/\atI xs i=some v/\Q v H
def rIxT (K:FrQ):R2:=fun x y H Q=>∃ p xs i v,x=.ref p/\y=.int i/\SqT K H p xs/\atI xs i=some v/\Q v H
theorem ix_list:IxR X (rIxL X.K):=by
 intro value slice pins s σ H x y v u Q I rx ry h hs;obtain⟨p,xs,i,z,rfl,rfl,hq,he,q⟩:=h;cases rx;obtain⟨t,rfl⟩:=ry;obtain⟨its,r,pl,hz⟩:=I.list hq;obtain⟨j,h1,h2,h3,h4,h5⟩:=atI_get he;obtain⟨w,ew,rw'⟩:=r.get h2;have hl:=r.length;have hn:=line63;have fin:EP X pins σ Q w s:=⟨z,H,I,rw',q⟩;by_cases h0:0<=i
 ·have hj:i.toNat=j:=by
   rw[seqIndex_of h0 h5] at h1;exact Option.some.inj h1
  exact item_listR pl.isList h0 (by omega) (by rw[hj];simpa using ew) fin hs
 ·have hj:(i+(its.toArray.size:Int)).toNat=j:=by
   rw[seqIndex_neg (by omega) h4] at h1
   rw[Yn,<- hl];exact Option.some.inj h1
  exact subscriptTail_builtinR (x:=w) pl.isList.typeIs slot_list_getitem.lookup
   (wpAny_getItem_list_neg (Q:=fun r s'=>r=w/\EP X pins σ Q r s') pl.isList (by omega) (by rw[Yn] <;> omega) (by omega) (by rw[hj];simpa using ew) ⟨rfl,fin⟩) hs
theorem ix_tup:IxR X (rIxT X.K):=by
 intro value slice pins s σ H x y v u Q I rx ry h hs;obtain⟨p,xs,i,z,rfl,rfl,hq,he,q⟩:=h;cases rx;obtain⟨t,rfl⟩:=ry;obtain⟨its,r,pl,hz⟩:=I.tuple hq;obtain⟨j,h1,h2,h3,h4,h5⟩:=atI_get he;obtain⟨w,ew,rw'⟩:=r.get h2;have hl:=r.length;have hn:=line63;have fin:EP X pins σ Q w s:=⟨z,H,I,rw',q⟩;exact subscriptTail_builtinR (x:=w) pl.typeIs slot_tuple_getitem.lookup
  (getItem_tuple (j:=j) (Q:=fun r s'=>r=w/\EP X pins σ Q r s') pl (by omega) (by omega) (by rw[Yn,<- hl];exact h1) (by simpa using ew) ⟨rfl,fin⟩) hs
theorem mapSeq_set (its:List Value)(n j:Nat)(u:Value):Obj.mapSeq (·.setIfInBounds j u) { cls:=.type "list",data:=.seq its.toArray n }={ cls:=.type "list",data:=.seq (its.set j u).toArray n }:=by
 simp[Obj.mapSeq]
theorem Inv.lst {pins:List (Addr×Obj)}{σ:St}{H:Hp}{s:Shared}{p:Addr}{xs:List V}(I:Inv X pins σ H s)(h:H p=some (.lst xs)):
  ∃ (its:List Value) (n:Nat),Vals xs its/\s.heap.get? p=some { cls:=.type "list",data:=.seq its.toArray n }/\xs.length<=sizeLine:=by
 obtain⟨z,its,n,r,e⟩:=I.hok p _ h;exact⟨its,n,r,e,z⟩
theorem Inv.lstUpd {pins:List (Addr×Obj)}{σ:St}{H:Hp}{s:Shared}{p:Addr}{xs ys:List V}{its its':List Value}{n n':Nat}{f:Obj->Obj}(I:Inv X pins σ H s)(h:H p=some (.lst xs))
  (ho:s.heap.get? p=some { cls:=.type "list",data:=.seq its.toArray n }) (hf:f { cls:=.type "list",data:=.seq its.toArray n }={ cls:=.type "list",data:=.seq its'.toArray n' }) (r:Vals ys its') (hz:ys.length<=sizeLine) (t:Nat):
  Inv X pins σ (upd H p (.lst ys)) { s with heap:=s.heap.update p f,toks:=t }:=by
 have e:(s.heap.update p f).get? p=some { cls:=.type "list",data:=.seq its'.toArray n' }:=by
  rw[Heap.get?_update_self f ho (by rw[hf] <;> rfl),hf]
 refine I.write (x:=p) (e:=p) (by rw[h];trivial) (.inl rfl) (fun b u hb q=>(Heap.get?_update_other _ _ (Ne.symm hb)).trans q) ⟨_,e⟩ ?_
 exact⟨hz,its',n',r,e⟩
def rSetL:V->V->V->Hp->(Hp->Prop)->Prop:=fun o i v H Q=>∃ p xs k j,o=.ref p/\i=.int k/\H p=some (.lst xs)/\ixN xs.length k=some j/\Q (upd H p (.lst (xs.set j v)))
theorem set_list:PSet X rSetL:=by
 intro pins s σ H o i v ov iv u Q I ro ri rv h;obtain⟨p,xs,k,j,rfl,rfl,hp,hj,q⟩:=h;cases ro;obtain⟨t,rfl⟩:=ri;obtain⟨its,n,r,ho,hz⟩:=I.lst hp;obtain⟨h1,h2,h3,h4⟩:=ixN_seq hj;have hl:=r.length;have hn:=line63;have I':Inv X pins σ (upd H p (.lst (xs.set j v))) { s with heap:=s.heap.update p (Obj.mapSeq (·.setIfInBounds j u)) }:=
  I.lstUpd hp ho (mapSeq_set its n j u) (r.set rv j) (by rw[Wd];exact hz) s.toks
 by_cases h0:0<=k
 ·have hk:k.toNat=j:=by
   rw[seqIndex_of h0 h4] at h1;exact Option.some.inj h1
  exact PySem.W.ki_setAt ho h0 (by omega) (by rw[Yn,<- hl];exact h4) (by rw[hk];exact⟨_,I',q⟩)
 ·have hk:(k+(its.toArray.size:Int)).toNat=j:=by
   rw[seqIndex_neg (by omega) h3] at h1
   rw[Yn,<- hl];exact Option.some.inj h1
  exact PySem.W.ki_setBack ho (by omega) (by rw[Yn,<- hl];exact h3) (by omega) (by rw[hk];exact⟨_,I',q⟩)
theorem slice_bounds (lo hi:Option Int)(n:Nat):(sliceBounds lo hi none n).1=((HT.sIx n 0 lo:Nat):Int)/\(sliceBounds lo hi none n).2.1=((HT.sIx n n hi:Nat):Int)/\(sliceBounds lo hi none n).2.2=1:=by
 refine⟨?_,?_,rfl⟩
 ·cases lo with
  | none=>simp[sliceBounds,HT.sIx]
  | some i=>
   simp only[sliceBounds,HT.sIx,Option.getD_none,show (1:Int) > 0 by decide,if_true]
   by_cases h:i<0
   ·simp only[h,if_true] <;> omega
   ·simp only[h,if_false] <;> omega
 ·cases hi with
  | none=>simp[sliceBounds,HT.sIx]
  | some i=>
   simp only[sliceBounds,HT.sIx,Option.getD_none,show (1:Int) > 0 by decide,if_true]
   by_cases h:i<0
   ·simp only[h,if_true] <;> omega
   ·simp only[h,if_false] <;> omega
theorem slicePick_cut (its:List Value)(lo hi:Option Int):slicePick its.toArray lo hi none=((its.drop (HT.sIx its.length 0 lo)).take (HT.sIx its.length its.length hi - HT.sIx its.length 0 lo)).toArray:=by
 obtain⟨h1,h2,h3⟩:=slice_bounds lo hi its.toArray.size;unfold slicePick;rw[h1,h2,h3];simp only[sliceRange_one,pick_run,Yn] <;> rfl
def rSlL (K:FrQ):V->Option Int->Option Int->Hp->VK->Prop:=fun x lo hi H Q=>∃ a xs,x=.ref a/\SqL K H a xs/\∀ p,H p=none->Q (.ref p) (upd H p (.lst (cutV xs lo hi)))
theorem sl_list:SlR X (rSlL X.K):=by
 intro pins s σ H x v vl vu lo hi sl Q I rx hs pl pu h;obtain⟨a,xs,rfl,hx,q⟩:=h;cases rx;obtain⟨its,r,ht,hz⟩:=I.list hx;have hlen:=r.length;refine⟨"list",_,slot_list_getitem.lookup,ht.isList.typeIs,?_⟩
 refine wpAny_getItem_list_slice ht.isList hs pl pu .none (by simp) ?_ (by rw[Yn] <;> omega)
 rw[slicePick_cut,<- hlen];refine⟨.ref s.heap.objs.size,_,I.laid (t':=s.toks) (o:=.lst (cutV xs lo hi)) (fun b ob q=>Yf _ q) (Yd _) ?_,rfl,q _ (I.hok.fresh (Yd _))⟩
 exact⟨Ys (cutV_length xs lo hi) hz,_,0,(r.drop (HT.sIx xs.length 0 lo)).take (HT.sIx xs.length xs.length hi - HT.sIx xs.length 0 lo),Yt _ rfl⟩
def flatV:V->Bool
 | .non=>true
 | .bl _=>true
 | .int _=>true
 | .str _=>true
 | _=>false
def eqV:V->V->Bool
 | .non,.non=>true
 | .bl a,.bl b=>a == b
 | .bl a,.int b=>(if a then 1 else 0) == b
 | .int a,.bl b=>a ==(if b then 1 else 0)
 | .int a,.int b=>a == b
 | .str a,.str b=>a == b
 | _,_=>false
theorem eqAt_V {A:Around}{s:Shared}{y x:V}{u v:Value}(ry:RelV y u)(rx:RelV x v)(fy:flatV y=true)(fx:flatV x=true):SeqAt.EqAt A s u v (eqV y x):=by
 cases y with
 | non=>
  cases ry;cases x with
  | non=>cases rx;exact SeqAt.EqAt.same _
  | bl b=>cases rx;exact SeqAt.EqAt.none_bool b
  | int b=>obtain⟨t,rfl⟩:=rx;exact SeqAt.EqAt.none_int b t
  | str b=>obtain⟨t,rfl⟩:=rx;exact SeqAt.EqAt.none_str b t
  | _=>exact W1 (show false=true from fx) Bool.false_ne_true
 | bl a=>
  cases ry;cases x with
  | non=>cases rx;exact SeqAt.EqAt.bool_none a
  | bl b=>cases rx;exact SeqAt.EqAt.bool_bool a b
  | int b=>obtain⟨t,rfl⟩:=rx;exact SeqAt.EqAt.bool_int a b t
  | str b=>obtain⟨t,rfl⟩:=rx;exact SeqAt.EqAt.bool_str a b t
  | _=>exact W1 (show false=true from fx) Bool.false_ne_true
 | int a=>
  obtain⟨t',rfl⟩:=ry;cases x with
  | non=>cases rx;exact SeqAt.EqAt.int_none a t'
  | bl b=>cases rx;exact SeqAt.EqAt.int_bool a t' b
  | int b=>obtain⟨t,rfl⟩:=rx;exact SeqAt.EqAt.int_int a t' b t
  | str b=>obtain⟨t,rfl⟩:=rx;exact SeqAt.EqAt.int_str a t' b t
  | _=>exact W1 (show false=true from fx) Bool.false_ne_true
 | str a=>
  obtain⟨t',rfl⟩:=ry;cases x with
  | non=>cases rx;exact SeqAt.EqAt.str_none a t'
  | bl b=>cases rx;exact SeqAt.EqAt.str_bool a t' b
  | int b=>obtain⟨t,rfl⟩:=rx;exact SeqAt.EqAt.str_int a t' b t
  | str b=>obtain⟨t,rfl⟩:=rx;exact SeqAt.EqAt.str_str a t' b t
  | _=>exact W1 (show false=true from fx) Bool.false_ne_true
 | _=>exact W1 (show false=true from fy) Bool.false_ne_true
def eqU (x:V)(u:Value):Bool:=match u with
 | .none=>eqV .non x
 | .bool b=>eqV (.bl b) x
 | .int i _=>eqV (.int i) x
 | .str z _=>eqV (.str z) x
 | _=>false
theorem eqU_of {x y:V}{u:Value}(r:RelV y u)(f:flatV y=true):eqU x u=eqV y x:=by
 cases y with
 | non=>cases r;rfl
 | bl b=>cases r;rfl
 | int i=>obtain⟨t,rfl⟩:=r;rfl
 | str z=>obtain⟨t,rfl⟩:=r;rfl
 | _=>exact W1 (show false=true from f) Bool.false_ne_true
theorem any_eqU {x:V}:∀ {xs:List V} {us:List Value},Vals xs us->xs.all flatV=true->us.any (eqU x)=xs.any fun y=>eqV y x
 | _,_,.nil,_=>rfl
 | y::xs,u::us,.cons r t,f=>by
  rw[List.all_cons,Bool.and_eq_true] at f;rw[List.any_cons,List.any_cons,eqU_of r f.1,any_eqU t f.2]
theorem mem_eqAt {A:Around}{s:Shared}{x:V}{v:Value}(rx:RelV x v)(fx:flatV x=true):∀ {xs:List V} {us:List Value},Vals xs us->xs.all flatV=true->∀ u∈us,SeqAt.EqAt A s u v (eqU x u)
 | _,_,.nil,_=>fun u hu=>by cases hu
 | y::xs,u::us,.cons r t,f=>fun u' hu=>by
  rw[List.all_cons,Bool.and_eq_true] at f;rcases List.mem_cons.mp hu with rfl | hu
  ·rw[eqU_of r f.1];exact eqAt_V r rx f.1 fx
  ·exact mem_eqAt rx fx t f.2 u' hu
def inV (x:V)(xs:List V):Bool:=xs.any fun y=>eqV y x
def rIn (K:FrQ)(neg:Bool):R2:=fun x y H Q=>∃ p xs,y=.ref p/\(SqL K H p xs\/SqT K H p xs)/\flatV x=true/\xs.all flatV=true/\Q (.bl (if neg then !inV x xs else inV x xs)) H
theorem op_in_seq:OpR X (compareOp .In) (rIn X.K false):=by
 intro pins s σ H x y v u Q I rx ry h;obtain⟨p,xs,rfl,hq,fx,fs,q⟩:=h;cases ry;rcases hq with hq | hq
 ·obtain⟨its,r,pl,hz⟩:=I.list hq
  refine SeqAt.in_listAt (eqU x) pl.isList (fun w hw=>mem_eqAt rx fx r fs w (by simpa using hw)) ⟨.bl _,H,I,rfl,?_⟩
  rw[show its.toArray.any (eqU x)=its.any (eqU x) by simp,any_eqU r fs]
  exact q
 ·obtain⟨its,r,pl,hz⟩:=I.tuple hq
  refine SeqAt.in_tupleAt (eqU x) pl (fun w hw=>mem_eqAt rx fx r fs w (by simpa using hw)) ⟨.bl _,H,I,rfl,?_⟩
  rw[show its.toArray.any (eqU x)=its.any (eqU x) by simp,any_eqU r fs]
  exact q
theorem call_len_seq:CallR X (.builtin "len") (fun xs H Q=>∃ p ys,xs=[.ref p]/\(SqL X.K H p ys\/SqT X.K H p ys)/\Q (.int ys.length) H):=by
 intro pins s σ H xs us Q I r h;obtain⟨p,ys,rfl,hq,q⟩:=h;obtain⟨u,rfl,rx⟩:=vals1 r;cases rx;have hn:=line63;rcases hq with hq | hq
 ·obtain⟨its,r',pl,hz⟩:=I.list hq
  have hlen:=r'.length;exact Calls.call_len_list pl.isList (by simp only[Yn] <;> omega) ⟨.int ys.length,H,I.tok _,⟨s.toks+1,by rw[Yn,hlen]⟩,q⟩
 ·obtain⟨its,r',pl,hz⟩:=I.tuple hq
  have hlen:=r'.length;exact len_tuple pl (by simp only[Yn] <;> omega) ⟨.int ys.length,H,I.tok _,⟨s.toks+1,by rw[Yn,hlen]⟩,q⟩
theorem call_list_of:CallR X (.type "list") (fun xs H Q=>∃ p ys,xs=[.ref p]/\(SqL X.K H p ys\/SqT X.K H p ys)/\∀ l,H l=none->Q (.ref l) (upd H l (.lst ys))):=by
 intro pins s σ H xs us Q I r h;obtain⟨p,ys,rfl,hq,q⟩:=h;obtain⟨u,rfl,rx⟩:=vals1 r;cases rx;have fin:∀ (its:List Value),Vals ys its->ys.length<=sizeLine->∀ (h':Heap) (c':Nat),(∀ b o',s.heap.get? b=some o'->h'.get? b=some o')->
   h'.get? s.heap.objs.size=some { cls:=.type "list",dict:=none,data:=.seq its.toArray c',slots:=#[] }->EP X pins σ Q (.ref s.heap.objs.size) { s with heap:=h' }:=fun its r' hz h' c' kp e=>
  ⟨.ref s.heap.objs.size,_,I.laid (t':=s.toks) kp (Yd _) (show ObjOk X.prog X.w _ h' _ (.lst ys) from ⟨hz,its,c',r',e⟩),rfl,q _ (I.hok.fresh (Yd _))⟩
 rcases hq with hq | hq
 ·obtain⟨its,r',pl,hz⟩:=I.list hq
  have hlen:=r'.length;obtain⟨o,ho,hc,n,hd⟩:=pl.isList;exact call_list_seq p (.inl rfl) ho hc hd (fun h' c' kp e=>fin its r' hz h' c' kp e) (by simp only[Yn] <;> omega)
 ·obtain⟨its,r',pl,hz⟩:=I.tuple hq
  have hlen:=r'.length;obtain⟨o,ho,hc,n,hd⟩:=pl;exact call_list_seq p (.inr rfl) ho hc hd (fun h' c' kp e=>fin its r' hz h' c' kp e) (by simp only[Yn] <;> omega)
theorem call_tuple_of:CallR X (.type "tuple") (fun xs H Q=>∃ p ys,xs=[.ref p]/\((SqL X.K H p ys/\∀ l,H l=none->Q (.ref l) (upd H l (.tup ys)))\/(SqT X.K H p ys/\Q (.ref p) H))):=by
 intro pins s σ H xs us Q I r h;obtain⟨p,ys,rfl,h⟩:=h;obtain⟨u,rfl,rx⟩:=vals1 r;cases rx;rcases h with ⟨hq,q⟩ | ⟨hq,q⟩
 ·obtain⟨its,r',pl,hz⟩:=I.list hq
  have hlen:=r'.length;refine call_tuple_list pl.isList (fun h' kp=>?_) (by simp only[Yn] <;> omega)
  have I1:Inv X pins σ H { s with heap:=h' }:=I.kept (t':=s.toks) kp
  have I2:Inv X pins σ (upd H h'.objs.size (.tup ys)) { s with heap:=h'.push { cls:=.type "tuple",data:=.seq its.toArray } }:=
   I1.laid (t':=s.toks) (fun b o e=>Yf _ e) (Yd _) (show ObjOk X.prog X.w _ _ _ (.tup ys) from ⟨hz,its,r',IsTup.new _ _⟩)
  exact⟨.ref h'.objs.size,_,I2,rfl,q _ (I1.hok.fresh (Yd _))⟩
 ·obtain⟨its,r',pl,hz⟩:=I.tuple hq
  exact call_tuple_same pl ⟨.ref p,H,I,rfl,q⟩
def tyV (K:FrQ)(T:String)(x:V)(H:Hp):Prop:=match x with
 | .str _=>T="str"
 | .int _=>T="int"
 | .ref p=>(T="list"/\∃ xs,SqL K H p xs)\/(T="tuple"/\∃ o,K.lookup p=some o/\o.cls=.type "tuple"/\o.dict=none)\/
   (T="dict"/\((∃ kvs,H p=some (.dK kvs))\/∃ kvs,H p=some (.dT kvs)))\/(T="set"/\∃ S n,H p=some (.set S n))
 | _=>False
theorem tyV_is {pins:List (Addr×Obj)}{σ:St}{H:Hp}{s:Shared}{T:String}{x:V}{v:Value}(I:Inv X pins σ H s)(r:RelV x v)(ty:tyV X.K T x H):
  s.TypeIs v T/\∀ a,v=.ref a->∃ ob,s.heap.get? a=some ob/\ob.dict=none:=by
 cases x with
 | str z=>
  obtain⟨t,rfl⟩:=r;cases (show T="str" from ty)
  exact⟨typeIs_str s z t,fun _ e=>nomatch e⟩
 | int i=>
  obtain⟨t,rfl⟩:=r;cases (show T="int" from ty)
  exact⟨typeIs_int s i t,fun _ e=>nomatch e⟩
 | ref p=>
  cases r;rcases ty with ⟨rfl,xs,hq⟩ | ⟨rfl,o,hk,hc,hd⟩ | ⟨rfl,hk⟩ | ⟨rfl,S,n,hk⟩
  ·obtain⟨its,_,pl,_⟩:=I.list hq
   refine⟨pl.isList.typeIs,fun a e=>?_⟩
   cases e;obtain⟨o,n,e,c,hd,_⟩:=pl;exact⟨o,e,hd⟩
  ·refine⟨⟨o,I.kIn p o hk,hc⟩,fun a e=>?_⟩
   cases e;exact⟨o,I.kIn _ o hk,hd⟩
  ·have z:∃ o,s.heap.get? p=some o/\o.ExactDict:=by
    rcases hk with ⟨kvs,hk⟩ | ⟨kvs,hk⟩
    ·obtain⟨_,_,_,_,o,_,_,e,ex,_⟩:=I.hok p _ hk
     exact⟨o,e,ex⟩
    ·obtain⟨_,_,_,_,o,_,_,e,ex,_⟩:=I.hok p _ hk
     exact⟨o,e,ex⟩
   obtain⟨o,e,ex⟩:=z;refine⟨⟨o,e,ex.1⟩,fun a e2=>?_⟩
   cases e2;exact⟨o,e,ex.2.1⟩
  ·obtain⟨o,_,_,_,e,ex,_⟩:=I.hok p _ hk
   refine⟨⟨o,e,ex.1⟩,fun a e2=>?_⟩
   cases e2;exact⟨o,e,ex.2.1⟩
 | _=>exact False.elim ty
def tBM0 (K:FrQ)(T:String)(r:V->List V->Hp->VK->Prop)(to:TE):TE:=fun σ H Q=>to σ H fun x H1=>tyV K T x H1/\r x [] H1 Q
def tBM (K:FrQ)(T:String)(r:V->List V->Hp->VK->Prop)(to:TE)(t:TA):TE:=fun σ H Q=>to σ H fun x H1=>tyV K T x H1/\t σ H1 fun xs H2=>r x xs H2 Q
variable {o e:Expr} {es:List Expr} {to:TE} {t:TA} {name:Str} {apos cpos:Pos} {T id:String} {r:V->List V->Hp->VK->Prop}
theorem pe_bm0 (pa:PlainAttrs T)(slot:Slot T name id)(hty:typeOf (.builtin id)=pure (.type "method_descriptor"))(hm:MtR X id r)(ho:PE X o to)
  (hbase:attributeBase o name X.env (eval o X.env)=eval o X.env:=by rfl) (hline:(apos.endLine == cpos.line)=true:=by rfl):PE X (.Call (.Attribute o name apos) [] [] cpos) (tBM0 X.K T r to):=by
 refine⟨?_⟩
 intro pins s σ H Q I h;refine wpAny_Call_method0_late hbase hline (thn (ho pins s σ H _ I h) fun v s1 ⟨x,H1,I1,r1,ty,q1⟩=>?_)
 obtain⟨h1,h2⟩:=tyV_is I1 r1 ty;exact⟨T,id,pa,slot,hty,h1,h2,Calls.callWith_builtin rfl (PySem.evalArgs_none (hm pins s1 σ H1 x [] v [] Q I1 r1 .nil q1))⟩
theorem pe_bm (pa:PlainAttrs T)(slot:Slot T name id)(hty:typeOf (.builtin id)=pure (.type "method_descriptor"))(hm:MtR X id r)(ho:PE X o to)(ha:PA X (e::es) t)
  (hbase:attributeBase o name X.env (eval o X.env)=eval o X.env:=by rfl)
  (hfew:((backTo cpos (starEach (e::es) X.env)).all (fun x=>!x.1) && (backToKw cpos (keywordEach [] X.env)).all (fun x=>x.1.isSome)
   && decide ((e::es).length+([]:List Keyword).length+(if ([]:List Keyword).isEmpty then 0 else 1)<30))=true:=by rfl)
  (hline:(apos.endLine == cpos.line)=true:=by rfl) (hs:starEach (e::es) X.env=(false,eval e X.env)::starEach es X.env:=by rfl) (hplain:(backTo cpos (starEach es X.env)).any (·.1)=false:=by rfl):
  PE X (.Call (.Attribute o name apos) (e::es) [] cpos) (tBM X.K T r to t):=by
 refine⟨?_⟩
 intro pins s σ H Q I h;refine wpAny_Call_method_late hbase hfew hline rfl (thn (ho pins s σ H _ I h) fun v s1 ⟨x,H1,I1,r1,ty,q1⟩=>?_)
 obtain⟨h1,h2⟩:=tyV_is I1 r1 ty;refine⟨T,id,pa,slot,hty,h1,h2,?_⟩
 have hA:=ha cpos pins s1 σ H1 _ I1 q1;rw[hs] at hA ⊢;refine Calls.callWith_builtin (by show (false || (backTo cpos (starEach es X.env)).any (·.1))=false;rw[hplain] <;> rfl) (Calls.evalArgs_plain ?_)
 exact thn hA fun us s2 ⟨vs,H2,I2,r2,q2⟩=>hm pins s2 σ H2 x vs v us Q I2 r1 r2 q2
end
end L2
namespace L2
open PySem PySem.Spec PyProof.Rows
def MtM (X:Cx)(id:String)(r:V->List V->Hp->VK->Prop):Prop:=
 ∀ (pins:List (Addr×Obj)) (s:Shared) (σ:St) (H:Hp) (x:V) (xs:List V) (v:Value) (us:List Value) (Q:VK),Inv X pins σ H s->RelV x v->Vals xs us->r x xs H Q->
  wpAny (model X.prog X.w) X.A (call (.builtin id) (v::us)) (EP X pins σ Q) X.xe s
theorem Vals.one:∀ {x:V} {us:List Value},Vals [x] us->∃ u,us=[u]/\RelV x u
 | _,_,.cons r .nil=>⟨_,rfl,r⟩
theorem Vals.zero:∀ {us:List Value},Vals [] us->us=[]
 | _,.nil=>rfl
theorem Vals.reverse {xs:List V}{us:List Value}(h:Vals xs us):Vals xs.reverse us.reverse:=by
 induction h with
 | nil=>exact .nil
 | cons r t ih=>rw[List.reverse_cons,List.reverse_cons];exact Vals.append ih (.cons r .nil)
theorem Vals.rep {xs:List V}{us:List Value}(h:Vals xs us):∀ k:Nat,Vals (Yp k xs).flatten (Yp k us).flatten
 | 0=>.nil
 | k+1=>by
  rw[Zq,Zq,Wh,Wh];exact Vals.append h (Vals.rep h k)
theorem foldl_rep (its:List Value):∀ (k:Nat) (acc:List Value),
  List.foldl (fun x1 x2=>x1++x2) acc.toArray (Yp k its.toArray)=(acc++(Yp k its).flatten).toArray
 | 0,acc=>by simp
 | k+1,acc=>by
  have e:acc.toArray++its.toArray=(acc++its).toArray:=by simp
  have e2:(acc++its)++(Yp k its).flatten=acc++(Yp (k+1) its).flatten:=by
   rw[Zq,Wh,List.append_assoc]
  rw[<- e2,<- foldl_rep its k (acc++its),<- e,Zq,List.foldl_cons]
section
variable {X:Cx} {pins:List (Addr×Obj)} {σ:St} {H:Hp} {s:Shared} {l b:Addr} {xs ys zs:List V}
theorem Inv.lset {its its':List Value}{n:Nat}{f:Array Value->Array Value}{t':Nat}(I:Inv X pins σ H s)(hH:H l=some (.lst xs))
  (e:s.heap.get? l=some { cls:=.type "list",data:=.seq its.toArray n }) (hf:f its.toArray=its'.toArray) (hv:Vals ys its') (hz:ys.length<=sizeLine):
  Inv X pins σ (upd H l (.lst ys)) { s with heap:=s.heap.update l (Obj.mapSeq f),toks:=t' }:=by
 have q:=PySem.IsL.update e f;rw[hf] at q;refine I.write (x:=l) (e:=l) (by rw[hH];exact trivial) (.inl rfl) (fun b' u hb hu=>(Heap.get?_update_other s.heap (Obj.mapSeq f) (Ne.symm hb)).trans hu) ⟨_,q⟩ ?_
 exact⟨hz,its',_,hv,q⟩
theorem Inv.lnew {its:List Value}{t':Nat}(I:Inv X pins σ H s)(hv:Vals ys its)(hz:ys.length<=sizeLine):
  Inv X pins σ (upd H s.heap.objs.size (.lst ys)) { s with heap:=s.heap.push { cls:=.type "list",data:=.seq its.toArray },toks:=t' }:=
 I.laid (fun _ _ q=>Yf _ q) (Yd _) ⟨hz,its,0,hv,Yt _ rfl⟩
theorem Inv.fresh (I:Inv X pins σ H s):H s.heap.objs.size=none:=I.hok.fresh (Yd _)
theorem Inv.lstM (I:Inv X pins σ H s)(hH:H l=some (.lst xs)):xs.length<=sizeLine/\∃ (its:List Value) (n:Nat),Vals xs its/\xs.length=its.length/\s.heap.get? l=some { cls:=.type "list",data:=.seq its.toArray n }:=by
 obtain⟨z,its,n,r,e⟩:=I.hok l _ hH;exact⟨z,its,n,r,r.length,e⟩
theorem notLongL {n:Nat}(h:n<=sizeLine):Builtin.List.listTooLong n=false:=by
 unfold Builtin.List.listTooLong;exact Wy (by omega)
end
section
variable {X:Cx}
def rAppend:V->List V->Hp->VK->Prop:=fun x vs H Q=>∃ l xs y,x=.ref l/\vs=[y]/\H l=some (.lst xs)/\xs.length<sizeLine/\Q .non (upd H l (.lst (xs++[y])))
theorem mt_append:MtM X "list.append" rAppend:=by
 intro pins s σ H x vs v us Q I rx rv h;obtain⟨l,xs,y,rfl,rfl,hH,hz,q⟩:=h;cases rx;obtain⟨u,rfl,ru⟩:=rv.one;obtain⟨z,its,n,r,hl,e⟩:=I.lstM hH;refine call_meets F.slot_list_append ⟨_,e,rfl⟩ F.entry_list_append (F.args_list_append_2 _ _) (PySem.list_append l its.toArray n u (by rw[Yn];omega)) ⟨e,?_⟩
 refine⟨.non,_,I.lset (its':=its++[u]) hH e (by simp) (r.append (.cons ru .nil)) ?_,rfl,q⟩
 rw[Yl,List.length_singleton];omega
def rReverse:V->List V->Hp->VK->Prop:=fun x vs H Q=>∃ l xs,x=.ref l/\vs=[]/\H l=some (.lst xs)/\Q .non (upd H l (.lst xs.reverse))
theorem mt_reverse:MtM X "list.reverse" rReverse:=by
 intro pins s σ H x vs v us Q I rx rv h;obtain⟨l,xs,rfl,rfl,hH,q⟩:=h;cases rx;have hus:=rv.zero;subst hus;obtain⟨z,its,n,r,hl,e⟩:=I.lstM hH;refine call_meets F.slot_list_reverse ⟨_,e,rfl⟩ F.entry_list_reverse (F.args_list_reverse_1 _) (AutoSeq1.list_reverse_list_0 l its.toArray n (by rw[Yn];omega)) ⟨e,?_⟩
 refine⟨.non,_,I.lset (its':=its.reverse) hH e (by simp) r.reverse ?_,rfl,q⟩
 rw[Zj];omega
def rCat:R2:=fun x y H Q=>∃ l b xs zs,x=.ref l/\y=.ref b/\H l=some (.lst xs)/\H b=some (.lst zs)/\xs.length+zs.length<=sizeLine/\∀ p,H p=none->Q (.ref p) (upd H p (.lst (xs++zs)))
theorem op_cat:OpR X (binaryOp .Add) rCat:=by
 intro pins s σ H x y v u Q I rx ry h;obtain⟨l,b,xs,zs,rfl,rfl,hH,hB,hz,q⟩:=h;cases rx;cases ry;obtain⟨z,its,n,r,hl,e⟩:=I.lstM hH;obtain⟨z2,its2,n2,r2,hl2,e2⟩:=I.lstM hB;refine PySem.P.add_list e e2 ?_ (by rw[Yn,Yn];omega)
 have ea:its.toArray++its2.toArray=(its++its2).toArray:=by simp
 rw[ea];exact⟨.ref _,_,I.lnew (t':=s.toks) (r.append r2) (by rw[Yl];omega),rfl,q _ I.fresh⟩
def rRep:R2:=fun x y H Q=>∃ l k xs,x=.ref l/\y=.int k/\H l=some (.lst xs)/\-(2 ^ 63)<=k/\k<2 ^ 63/\xs.length*k.toNat<=sizeLine/\
 ∀ p,H p=none->Q (.ref p) (upd H p (.lst (Yp k.toNat xs).flatten))
theorem len_rep {α:Type}(xs:List α)(k:Nat):(Yp k xs).flatten.length=k*xs.length:=by
 induction k with
 | zero=>simp
 | succ k ih=>rw[Zq,Wh,Yl,ih,Nat.succ_mul,Nat.add_comm]
theorem op_rep:OpR X (binaryOp .Mult) rRep:=by
 intro pins s σ H x y v u Q I rx ry h;obtain⟨l,k,xs,rfl,rfl,hH,h1,h2,hz,q⟩:=h;cases rx;obtain⟨t,rfl⟩:=ry;obtain⟨z,its,n,r,hl,e⟩:=I.lstM hH;have hlen:its.toArray.size*k.toNat<=sizeLine:=by rw[Yn,<- hl];exact hz
 have hcap:¬ its.toArray.size*k.toNat > (2 ^ 63 - 1) / 8:=by
  have:(sizeLine:Nat)<=(2 ^ 63 - 1) / 8:=by decide
  omega
 have hfit:¬ (!Builtin.List.listFitsIndex k)=true:=by
  rw[fitsIndex_both h1 h2];exact Bool.false_ne_true
 have hlong:¬ Builtin.List.listTooLong (its.toArray.size*k.toNat)=true:=by
  rw[notLongL hlen];exact Bool.false_ne_true
 have hnew:List.foldl (fun x1 x2=>x1++x2) #[] (Yp (if its.toArray.isEmpty=true then 0 else k.toNat) its.toArray)=(Yp k.toNat its).flatten.toArray:=by
  have f0:∀ m:Nat,List.foldl (fun x1 x2=>x1++x2) #[] (Yp m its.toArray)=(Yp m its).flatten.toArray:=fun m=>by
   have:=foldl_rep its m []
   rw[List.nil_append] at this;exact this
  rw[f0];cases its with
  | nil=>simp
  | cons a r'=>rw[Wu (by simp)]
 refine wpAny_binaryOp_repeat_ref (T:="list") (U:="int") (by decide) ⟨_,e,rfl⟩ (fun s'=>typeIs_int s' k t) noFill_list_mul F.fills_int_mul F.slot_int_rmul repeat_list F.slot_int_index.lookup
  (call_meets F.slot_int_rmul (typeIs_int s k t) F.entry_int_rmul (F.args_int_rmul_2 _ _) (int___rmul___int_list k t l its.toArray n)
   ⟨e,rfl,⟨_,e,rfl⟩,call_meets F.slot_list_mul ⟨_,e,rfl⟩ F.entry_list_mul (F.args_list_mul_2 _ _) (AutoListH.list___mul___list_int_3 l its.toArray n k t hfit hcap hlong) ⟨e,?_⟩⟩)
 rw[hnew];exact⟨.ref _,_,I.lnew (t':=s.toks) (r.rep k.toNat) (by rw[len_rep,Nat.mul_comm];exact hz),rfl,q _ I.fresh⟩
end
end L2
namespace Att
open PySem PySem.W PySem.Calls PyProof.Rows
theorem ints_of_wellAll {P:Params}{h:Heap}:∀ (ns:List Int) (vs:List Value),WellAll P h vs (ns.map WData.int)->IntsAre vs ns:=by
 intro ns;induction ns with
 | nil=>
  intro vs w;rw[List.map_nil] at w;cases w;exact .nil
 | cons n ns ih=>
  intro vs w;rw[List.map_cons] at w;cases w with
  | cons a b=>
   cases a;exact .cons _ _ (ih _ b)
theorem script_of {l:OpenLaw}{n:Nat}(hn:l.most=some n){P:Params}{h:Heap}{args:List WData}{vals:List Value}
  (hpre:l.row.toRowW.claim.pre args=true) (hwl:WellAll P h vals args):
  ∃ a vs ns,vals=[Value.ref a]/\args=[WData.list (ns.map WData.int)]/\h.get? a=some { cls:=.type "list",data:=.seq vs.toArray }/\IntsAre vs ns/\ns.length<=n:=by
 have hsh:WShape.hasAll [] args [.list .int]=true:=(pre_splitW hpre).1;have hc:l.pre.holds [] { args:=args }=true:=(pre_splitW hpre).2;obtain⟨d,r,rfl,h1,h2⟩:=hasAllW_cons hsh;obtain rfl:=hasAllW_nil h2
 obtain⟨xs,rfl,h3⟩:=hasW_list h1;obtain⟨ns,rfl⟩:=items_int h3;have hlen:ns.length<=n:=by
  unfold OpenLaw.pre at hc;have h4:(WTm.not (.lt (.lit (.int (n:Int))) (.len (.arg 0)))).holds [] { args:=[.list (ns.map .int)] }=true:=by
   have h4:=(holds_andW hc).1;rw[hn] at h4;exact h4
  have h5:=condW_of h4 (w_not (w_lt w_lit (w_len_list (w_arg rfl))));rw[Ya] at h5;refine Nat.le_of_not_lt fun q=>?_
  have q':(n:Int)<((ns.length:Nat):Int):=by omega
  first
   | (rw[Ww q'] at h5;exact W1 h5 (by decide))
   | (simp at h5;omega)
 cases hwl with
 | cons w1 w2=>
  cases w2;cases w1 with
  | list ho hall=>exact⟨_,_,ns,rfl,rfl,ho,ints_of_wellAll ns _ hall,hlen⟩
theorem post_true (l:OpenLaw)(args:List WData):l.row.toRowW.claim.post args (.bool true) args=true:=
 postW_of (r:=l.row.toRowW) (X:=(true == true))
  (show WShape.has [] (.bool true) .bool=true by first|rfl|decide|simp[WShape.has,WShape.arms,WShape.armsAll])
  (show (WTm.eq .res (.lit (.bool true))).value [] { args:=args,res:=some (.bool true),after:=args }=some (.bool (true == true)) from w_eq_bool (w_res rfl) w_lit) rfl
theorem attach_call {l:OpenLaw}{n:Nat}{q:Program}{loose:List Str}{XP:(Str->Option Value)->Heap->Prop}{YP:World->Heap->Prop}{d:DefRec}
  (hn:l.most=some n) (hdf:d.params.defaults=[])
  (call:∀ (w:World) (s₀ s₁:Shared) (mg mb:Str->Option Value) (fa:Addr) (o:Obj) (pm cd doc:Value) (a:Addr) (vs:List Value) (ns:List Int),
   Ground q loose [] XP w s₀ mg mb s₁.heap->YP w s₁.heap->
   s₁.heap.get? fa=some o->o.data=.func (docDef d.name d.params d.body d.scope pm cd doc)->s₁.heap.CodeRec cd d.name->mg d.name=some (.ref fa)->
   s₁.heap.get? a=some { cls:=.type "list",data:=.seq vs.toArray }->IntsAre vs ns->ns.length<=n->s₁.gens=#[]->
   codeAny (model l.prog w) callerA (.call (.ref fa) ⟨[.ref a],[]⟩) (fun r s'=>r=.ok (.ret (.bool true))/\OldK s₁.heap s'.heap/\s'.os=s₁.os/\AllBare s'.gens) s₁):
  WalkO q loose XP YP l.row.toRowW d [] (fun f vs=>PySem.call f vs):=by
 intro w s₀ s₁ mg mb G Y fa o pm cd doc dV kV ho hd hcd hD hmg hg args vals as hpre hlay hrd hwl hlo;obtain rfl:dV=.none:=Dflts.none hD hdf
 obtain rfl:kV=.none:=Dflts.noKw hD
 obtain⟨a,vs,ns,rfl,rfl,hobj,hints,hlen⟩:=script_of hn hpre hwl;refine enter_call (codeAny_mono (call w s₀ s₁ mg mb fa o pm cd doc a vs ns G Y ho (fd_plain hd) hcd hmg hobj hints hlen hg) fun r s' hq=>?_)
 obtain⟨rfl,h2,h3,h4⟩:=hq;exact⟨.inl ⟨.bool true,.bool true,[],rfl,fun _=>rfl,.bool true,post_true l _,fun _=>⟨List.Pairwise.nil,fun _ hm=>(nomatch hm)⟩⟩,h2,h3,h4⟩
end Att
namespace L2
open PySem PySem.Spec PyProof.Rows
theorem vals_ints:∀ {vs:List Value} {ns:List Int},IntsAre vs ns->Vals (ns.map V.int) vs
 | _,_,.nil=>.nil
 | _,_,.cons n t h=>.cons ⟨t,rfl⟩ (vals_ints h)
end L2
namespace L2
open PySem PySem.Spec PyProof.Rows
end L2
namespace L2
open PySem PySem.Spec PyProof.Rows
def defArgs (s:Stmt):Arguments:=match s with
 | .FunctionDef _ a _ _ _ _ _ _ _ _=>a
 | _=>{ posonlyargs:=[],args:=[],vararg:=none,kwonlyargs:=[],kw_defaults:=[],kwarg:=none,defaults:=[] }
def defBody (s:Stmt):List Stmt:=match s with
 | .FunctionDef _ _ b _ _ _ _ _ _ _=>b
 | _=>[]
def defScope (s:Stmt):Scope:=match s with
 | .FunctionDef _ _ _ _ _ _ sc _ _ _=>sc
 | _=>{ kind:=.function,names:=[],isGenerator:=false,isCoroutine:=false }
abbrev CX0:CXT:=fun _ _ _ _ _ _=>False
abbrev E0:XK:=fun _ _ _=>False
theorem pass0 {X:Cx}:Passes CX0 X E0:=fun _ _ _ _ _ _ _ h=>h.elim
structure Fun (K:FrQ)(x qual:Str)(st:Stmt)(f:Addr)(fd:FuncData):Prop where
 ex:∃ (oc:Value) (od:Option Addr) (kV doc pm:Value) (an:Option Addr) (cdv ct:Value) (osl:Array (Option Value)),
  fd=PySem.W.fnOf x qual (defArgs st) (defBody st) (defScope st) .none kV doc pm an cdv ct/\K.lookup f=some ⟨oc,od,.func fd,osl⟩/\PySem.W.codeIn K cdv qual=true
 kp:PySem.W.keepIn K (.ref f)=true
section
variable {P:Program} {w:World} {K:FrQ} {mg:Str->Option Value} {base:Heap}
theorem Fun.ok {x qual:Str}{st:Stmt}{f:Addr}{fd:FuncData}{N ps:List Str}{k:Nat}{sp:Sp}(F:Fun K x qual st f fd)(S:FnScope N ps (defScope st))(len:∀ vs H Q E,sp vs H Q E->vs.length=ps.length)
  (hbody:∀ (cdv:Value) (A:Around) (outer:List Env) (s:Shared) (H:Hp) (vs:List V) (Q:VK) (E:XK),Room k (A.deeper (envOfC qual (defScope st) s.heap.objs.size f cdv))->sp vs H Q E->
   ∃ t,PSs (cxOf CX0 P w K mg base N qual (defScope st) f cdv A outer s H E).nox (defBody st) t/\t { nx:=fun _ H'=>Q .non H',rt:=Q } (start N vs) H):FnOk P w K mg base CX0 (k+1) f fd ps sp:=by
 obtain⟨oc,od,kV,doc,pm,an,cdv,ct,osl,rfl,lk,hcd⟩:=F.ex;refine fn_of lk hcd S len fun A outer s H vs Q E hr hsp=>?_
 obtain⟨t,h,q⟩:=hbody cdv A outer s H vs Q E hr hsp;exact⟨t,h.nox,q⟩
theorem Fun.binds {x qual:Str}{st:Stmt}{f:Addr}{fd:FuncData}{ps:List Str}(F:Fun K x qual st f fd)
  (h:∀ (kV doc pm:Value) (an:Option Addr) (cdv ct:Value) (us:List Value),us.length=ps.length->bindArgs (PySem.W.fnOf x qual (defArgs st) (defBody st) (defScope st) .none kV doc pm an cdv ct) ⟨us,[]⟩=pure (ps.zip us)):Binds K fd ps []:=by
 obtain⟨oc,od,kV,doc,pm,an,cdv,ct,osl,rfl,lk,hcd⟩:=F.ex;exact .all (h kV doc pm an cdv ct)
theorem fun_mk {x qual:Str}{st:Stmt}{f:Addr}{oc:Value}{od an:Option Addr}{osl:Array (Option Value)}{kV doc pm cdv ct:Value}(l:K.lookup f=some ⟨oc,od,.func (PySem.W.fnOf x qual (defArgs st) (defBody st) (defScope st) .none kV doc pm an cdv ct),osl⟩)
  (c:PySem.W.codeIn K cdv qual=true) (k:PySem.W.keepIn K (.ref f)=true):Fun K x qual st f (PySem.W.fnOf x qual (defArgs st) (defBody st) (defScope st) .none kV doc pm an cdv ct):=⟨⟨oc,od,kV,doc,pm,an,cdv,ct,osl,rfl,l,c⟩,k⟩
end
section
variable {X:Cx}
theorem pv (i:Nat){x:Str}{pos:Pos}(hN:X.N[i]?=some x:=by rfl)(hv:Vis X.env.scope x:=by first|exact Or.inl rfl|exact Or.inr (Or.inl rfl)|exact Or.inr (Or.inr rfl))(hd:(x ==("__debug__":Str))=false:=by decide)
  (hcd:(x ==("__classdict__":Str))=false:=by decide):PE X (.Name x pos) (tVar i):=pe_var hN hv hd hcd
end
theorem iteF {A B:Prop}(h:B):if false=true then A else B:=by
 rw[Wu Bool.false_ne_true];exact h
theorem iteT {A B:Prop}(h:A):if true=true then A else B:=by
 rw[Wv rfl];exact h
theorem ite2 {c A B:Prop}[Decidable c](h1:c->A)(h2:¬ c->B):if c then A else B:=by
 by_cases h:c
 ·rw[Wv h]
  exact h1 h
 ·rw[Wu h]
  exact h2 h
theorem iteNS {c A B:Prop}[Decidable c](hc:c)(h:B):if (!decide c)=true then A else B:=by
 rw[Ww hc];exact iteF h
def Same (H H':Hp):Prop:=∀ b o,H b=some o->H' b=some o
theorem Same.refl (H:Hp):Same H H:=fun _ _ h=>h
theorem Same.trans {H H1 H2:Hp}(a:Same H H1)(b:Same H1 H2):Same H H2:=fun c o h=>b c o (a c o h)
theorem Same.free {H H':Hp}(e:Same H H'){l:Addr}(h:H' l=Option.none):H l=Option.none:=by
 cases q:H l with
 | none=>rfl
 | some o=>
  rw[e l o q] at h;cases h
theorem Same.seq {K:FrQ}{H H':Hp}{a:Addr}{xs:List V}(e:Same H H')(h:SqL K H a xs):SqL K H' a xs:=by
 rcases h with (h | ⟨o,h⟩) | h
 ·exact .inl (.inl (e _ _ h))
 ·exact .inl (.inr ⟨o,e _ _ h⟩)
 ·exact .inr h
end L2
namespace L2
open PySem PySem.Spec PyProof.Rows
theorem lookup_relabel_free {env:Env}:∀ {names:List (Str×NameKind)} {x:Str},names.lookup x=some .free->
  (names.map fun (n,k)=>if (k == NameKind.free && env.scope.kind == .function && env.kindOf n == some .cell) then (n,NameKind.cell) else (n,k)).lookup x=some .free\/
  (names.map fun (n,k)=>if (k == NameKind.free && env.scope.kind == .function && env.kindOf n == some .cell) then (n,NameKind.cell) else (n,k)).lookup x=some .cell
 | [],_,h=>by simp at h
 | (n,k)::r,x,h=>by
  have ih:=@lookup_relabel_free env r x;show List.lookup x ((if (k == NameKind.free && env.scope.kind == .function && env.kindOf n == some .cell)=true then (n,NameKind.cell) else (n,k))::_)=_\/List.lookup x ((if (k == NameKind.free && env.scope.kind == .function && env.kindOf n == some .cell)=true then (n,NameKind.cell) else (n,k))::_)=_
  cases hx:x == n with
  | true=>
   simp only[Yx,hx] at h
   cases h;by_cases hc:(NameKind.free == NameKind.free && env.scope.kind == .function && env.kindOf n == some .cell)=true
   ·rw[Wv hc];exact .inr (by simp only[Yx,hx])
   ·rw[Wu hc];exact .inl (by simp only[Yx,hx])
  | false=>
   simp only[Yx,hx] at h
   by_cases hc:(k == NameKind.free && env.scope.kind == .function && env.kindOf n == some .cell)=true
   ·rw[Wv hc];simp only[Yx,hx];exact ih h
   ·rw[Wu hc];simp only[Yx,hx];exact ih h
theorem relabel_back {env:Env}:∀ {names:List (Str×NameKind)} {x:Str} {kd:NameKind},(∀ y∈names,y.2≠.cell)->kd=.cell\/kd=.free->
  (names.map fun (n,k)=>if (k == NameKind.free && env.scope.kind == .function && env.kindOf n == some .cell) then (n,NameKind.cell) else (n,k)).lookup x=some kd->names.lookup x=some .free
 | [],_,_,_,_,h=>by simp at h
 | (n,k)::r,x,kd,hn,hk,h=>by
  have ih:=@relabel_back env r x kd (fun y hy=>hn y (Yy _ hy)) hk
  have h':List.lookup x ((if (k == NameKind.free && env.scope.kind == .function && env.kindOf n == some .cell)=true then (n,NameKind.cell) else (n,k))::(r.map fun (n,k)=>if (k == NameKind.free && env.scope.kind == .function && env.kindOf n == some .cell) then (n,NameKind.cell) else (n,k)))=some kd:=h
  have hkc:k≠.cell:=hn (n,k) Y4;by_cases hc:(k == NameKind.free && env.scope.kind == .function && env.kindOf n == some .cell)=true
  ·rw[Wv hc] at h'
   have hkf:k=.free:=by
    simp only[Bool.and_eq_true,beq_iff_eq] at hc
    exact hc.1.1
   subst hkf;cases hx:x == n with
   | true=>simp only[Yx,hx]
   | false=>simp only[Yx,hx] at h' ⊢;exact ih h'
  ·rw[Wu hc] at h'
   cases hx:x == n with
   | true=>
    simp only[Yx,hx] at h' ⊢
    have e:k=kd:=Option.some.inj h';subst e;rcases hk with hk | hk
    ·exact W1 hk hkc
    ·rw[hk]
   | false=>simp only[Yx,hx] at h' ⊢;exact ih h'
def closOf (cells:List (Str×Addr)):List (Str×NameKind)->List (Str×Addr)->List (Str×Addr)
 | [],acc=>acc
 | (n,k)::r,acc=>closOf cells r (if k=.free then match cells.lookup n with | some c=>(n,c)::acc | none=>acc else acc)
theorem closureFor_eq {scope:Scope}{env:Env}(h:∀ y∈scope.names,y.2=.free->∃ c,env.cells.lookup y.1=some c):closureFor scope env=pure (closOf env.cells scope.names []):=by
 have go:∀ (l:List (Str×NameKind)) (acc:List (Str×Addr)),(∀ y∈l,y.2=.free->∃ c,env.cells.lookup y.1=some c)->
   (forIn l acc fun x (r:List (Str×Addr))=>(match x with | (name,kind)=>if (kind == NameKind.free)=true then do let c <- cellOf env name;pure (ForInStep.yield ((name,c)::r)) else pure (ForInStep.yield r):Sem (ForInStep (List (Str×Addr)))))=pure (closOf env.cells l acc):=by
  intro l;induction l with
  | nil=>intro acc _;rfl
  | cons x l ih=>
   intro acc hl;obtain⟨n,k⟩:=x;rw[List.forIn_cons];by_cases hk:k=.free
   ·subst hk
    obtain⟨c,hc⟩:=hl (n,.free) Y4 rfl;have e1:cellOf env n=pure c:=by unfold cellOf;rw[hc]
    simp only[beq_self_eq_true,if_true,e1,pure_bind]
    rw[ih _ fun y hy=>hl y (Yy _ hy)]
    show _=pure (closOf env.cells l (if NameKind.free=.free then match env.cells.lookup n with | some c=>(n,c)::acc | none=>acc else acc))
    rw[Wv rfl,hc]
   ·have hb:(k == NameKind.free)=false:=by simpa using hk
    simp only[hb,Bool.false_eq_true,if_false,pure_bind]
    rw[ih _ fun y hy=>hl y (Yy _ hy)]
    show _=pure (closOf env.cells l (if k=.free then _ else acc))
    rw[Wu hk]
 unfold closureFor;have:=go scope.names [] h
 simp only[bind_pure_comp] at this ⊢
 first
  | exact this
  | simpa using this
theorem closOf_lookup {cells:List (Str×Addr)}{x:Str}{c:Addr}:∀ (l:List (Str×NameKind)) (acc:List (Str×Addr)),(∀ d,acc.lookup x=some d->cells.lookup x=some d)->(closOf cells l acc).lookup x=some c->cells.lookup x=some c
 | [],acc,h,e=>h c e
 | (n,k)::r,acc,h,e=>by
  refine closOf_lookup r _ (fun d hd=>?_) e
  split at hd
  ·split at hd
   ·rename_i c' hc'
    cases hx:x == n with
    | true=>
     simp only[Yx,hx] at hd
     have:x=n:=by simpa using hx
     subst this;rw[hc'];exact hd
    | false=>simp only[Yx,hx] at hd;exact h d hd
   ·exact h d hd
  ·exact h d hd
theorem closOf_has {cells:List (Str×Addr)}{x:Str}{c:Addr}(hc:cells.lookup x=some c):∀ (l:List (Str×NameKind)) (acc:List (Str×Addr)),(acc.lookup x=some c\/(x,NameKind.free)∈l)->(∀ d,acc.lookup x=some d->d=c)->(closOf cells l acc).lookup x=some c
 | [],acc,h,_=>by
  rcases h with h | h
  ·exact h
  ·cases h
 | (n,k)::r,acc,h,u=>by
  by_cases hk:k=.free
  ·subst hk
   show (closOf cells r (if NameKind.free=.free then match cells.lookup n with | some c=>(n,c)::acc | none=>acc else acc)).lookup x=some c
   rw[Wv rfl];by_cases hx:x=n
   ·subst hx
    rw[hc];refine closOf_has hc r _ (.inl (by simp)) fun d hd=>?_
    simp at hd
    exact hd.symm
   ·have hb:(x == n)=false:=by simpa using hx
    have keep:∀ (a2:List (Str×Addr)),(match cells.lookup n with | some c=>(n,c)::acc | none=>acc)=a2->a2.lookup x=acc.lookup x:=by
     intro a2 e;subst e;cases cells.lookup n with
     | none=>rfl
     | some c'=>simp only[Yx,hb]
    refine closOf_has hc r _ ?_ fun d hd=>u d (by rw[keep _ rfl] at hd;exact hd)
    rcases h with h | h
    ·exact .inl (by rw[keep _ rfl];exact h)
    ·rcases List.mem_cons.mp h with h | h
     ·exact W1 (Wz Prod.fst h) hx
     ·exact .inr h
  ·show (closOf cells r (if k=.free then _ else acc)).lookup x=some c
   rw[Wu hk];refine closOf_has hc r _ ?_ u
   rcases h with h | h
   ·exact .inl h
   ·rcases List.mem_cons.mp h with h | h
    ·exact W1 (Wz Prod.snd h).symm hk
    ·exact .inr h
abbrev cmpCx (X:Cx)(N:List Str)(scope:Scope)(cl:List (Str×Addr))(C:Addr)(s2:Shared)(H2:Hp)(fp:List Addr):Cx:=
 { X with N:=N,s₀:=s2,H₀:=H2,env:=compEnvC scope cl C X.env,outer:=X.stack,ex:=fp,fn:=fun _=>false,pn:=[],xe:=fun _ _=>False }
def innerSt (sl:List (Option Nat))(σ:St):St:=sl.map fun o=>match o with | some i=>(σ[i]?).join | none=>none
structure CompScope (X:Cx)(N:List Str)(sl:List (Option Nat))(scope:Scope):Prop where
 kind:scope.kind=.function
 nocell:∀ y∈scope.names,y.2≠.cell
 locs:∀ y∈scope.names,y.2=.local->scope.names.lookup y.1=some .local
 frees:∀ y∈scope.names,y.2=.free->X.env.kindOf y.1=some .cell\/X.env.kindOf y.1=some .free
 len:sl.length=N.length
 out:∀ (j i:Nat) (x:Str),N[j]?=some x->sl[j]?=some (some i)->X.N[i]?=some x/\scope.names.lookup x=some .free
def PIf (X:Cx)(ifs:List Expr)(t:TT):Prop:=
 ∀ (pins:List (Addr×Obj)) (s:Shared) (σ:St) (H:Hp) (Q:Bool->Hp->Prop),Inv X pins σ H s->t σ H Q->
  wpAny (model X.prog X.w) X.A (forIn ifs true fun c r=>if r=true then do let ok <- isTrue c X.env (eval c X.env);pure (ForInStep.yield ok) else pure (ForInStep.yield r)) (TP X pins σ Q) X.xe s
def tAll:TT:=fun _ H Q=>Q true H
theorem pif_none {X:Cx}:PIf X [] tAll:=fun pins s σ H Q I h=>by
 rw[List.forIn_nil];exact wpAny_pure ⟨H,I,h⟩
theorem pif_one {X:Cx}{c:Expr}{t:TT}(h:PT X c t):PIf X [c] t:=fun pins s σ H Q I q=>by
 rw[List.forIn_cons];refine wpAny_bind ?_
 rw[Wv rfl];refine wpAny_bind (thn (h pins s σ H Q I q) fun b s1 r=>wpAny_pure ?_)
 show wpAny _ _ (forIn [] b _) _ _ _
 rw[List.forIn_nil];exact wpAny_pure r
def compW (J:It)(D:Addr)(st:St)(g:TG)(tif:TT)(te:TE)(Q:VK)(H1:Hp):Prop:=∃ W:Nat->Nat->Hp->Prop,
 (∃ m,W 0 m (upd H1 D (.lst [])))/\∀ i m H2,W i m H2->
  (J.stop i H2/\Q (.ref D) H2)\/(J.go i H2/\∀ x H',J.yld i H2 x H'->g x st H' fun σ3 H3=>tif σ3 H3 fun b H4=>
   if b=true then te σ3 H4 fun y H5=>∃ ys,H5 D=some (.lst ys)/\ys.length<sizeLine/\∃ m',m'<m/\W (i+1) m' (upd H5 D (.lst (ys++[y]))) else ∃ m',m'<m/\W (i+1) m' H4)
def tComp (wi:TI)(sl:List (Option Nat))(g:TG)(tif:TT)(te:TE):TE:=fun σ H Q=>wi σ H fun J H1=>∀ D,H1 D=none->compW J D (innerSt sl σ) g tif te Q H1
end L2
namespace L2
open PySem PySem.Spec PyProof.Rows
section
variable {X:Cx} {N:List Str} {sl:List (Option Nat)} {scope:Scope}
theorem innerSt_get {σ:St}{j:Nat}{v:V}(h:(innerSt sl σ)[j]?=some (some v)):∃ i,sl[j]?=some (some i)/\σ[i]?=some (some v):=by
 unfold innerSt at h;rw[Ye] at h;cases e:sl[j]? with
 | none=>rw[e] at h;cases h
 | some o=>
  rw[e] at h;cases o with
  | none=>cases h
  | some i=>
   refine⟨i,rfl,?_⟩
   have h':(σ[i]?).join=some v:=Option.some.inj h;cases e2:σ[i]? with
   | none=>rw[e2] at h';cases h'
   | some q=>rw[e2] at h';exact Wz some h'
theorem CompScope.clos (S:CompScope X N sl scope)(ok:X.Ok):closureFor scope X.env=pure (closOf X.env.cells scope.names []):=
 closureFor_eq fun y hy hf=>ok.has y.1 (S.frees y hy hf)
theorem CompScope.cell (S:CompScope X N sl scope)(ok:X.Ok){x:Str}(hf:scope.names.lookup x=some .free){c:Addr}(hc:X.env.cells.lookup x=some c):(closOf X.env.cells scope.names []).lookup x=some c:=
 closOf_has hc _ _ (.inr (PySem.mem_of_lookup hf)) fun d hd=>by simp at hd
theorem CompScope.back {x:Str}{c:Addr}(h:(closOf X.env.cells scope.names []).lookup x=some c):X.env.cells.lookup x=some c:=
 closOf_lookup _ _ (fun d hd=>by simp at hd) h
theorem CompScope.ok (S:CompScope X N sl scope){pins:List (Addr×Obj)}{σ:St}{H2:Hp}{s2:Shared}{fp:List Addr}{C:Addr}(I:Inv X pins σ H2 s2)(hf:∀ b∈fp,FpOk X pins H2 b)(hlt:∀ b∈fp,b<s2.heap.objs.size)(hC:s2.heap.objs.size<=C):
  (cmpCx X N scope (closOf X.env.cells scope.names []) C s2 H2 fp).Ok where
 mod:=I.ok.mod
 kind:=S.kind
 glob:=I.ok.glob
 blt:=I.ok.blt
 above:=hC
 inj:=fun x y c h1 h2=>I.ok.inj x y c (CompScope.back h1) (CompScope.back h2)
 has:=fun x hx=>by
  have hx':scope.names.lookup x=some .free:=by
   rcases hx with hx | hx
   ·exact relabel_back S.nocell (.inl rfl) hx
   ·exact relabel_back S.nocell (.inr rfl) hx
  obtain⟨c,hc⟩:=I.ok.has x (S.frees _ (PySem.mem_of_lookup hx') rfl);exact⟨c,S.cell I.ok hx' hc⟩
 cab:=fun x c h=>W1 (show false=true from h) Bool.false_ne_true
 hd:=I.ok.hd
 frames:=I.ok.frames
 stk:=.inl rfl
 exf:=fun b hb=>⟨Ym (Yh (hlt b hb) hC),fun x c h=>(hf b hb).2.2.2.2.1 x c (CompScope.back h)⟩
 bs:=I.bs
 bsz:=Ys I.ok.bsz I.sz
 noex:=fun b o e hb=>by
  rcases (hf b hb).2.2.2.1 with z | z
  ·exact I.ok.noex b o e z
  ·exact W1 (Yh (Yh (Yi e) I.ok.bsz) z) (Zh _)
 exfs:=fun b hb z=>by
  rcases List.mem_cons.mp (I.stkSub b z) with e | e
  ·exact (hf b hb).2.1 e
  ·exact (hf b hb).2.2.1 e
 funs:=I.stack
 frf:=I.stkFree
theorem CompScope.again (S:CompScope X N sl scope){pins:List (Addr×Obj)}{σ:St}{H2:Hp}{s2:Shared}{fp:List Addr}{C:Addr}(I:Inv X pins σ H2 s2)(hf:∀ b∈fp,FpOk X pins H2 b)
  {pins':List (Addr×Obj)} {σ':St} {H':Hp} {s':Shared} (J:Inv (cmpCx X N scope (closOf X.env.cells scope.names []) C s2 H2 fp) pins' σ' H' s'):
  Inv (cmpCx X N scope (closOf X.env.cells scope.names []) C s2 H2 fp) pins' (innerSt sl σ) H' s':=by
 obtain⟨m,hn,_⟩:=J.loc;refine⟨J.ok,J.os,J.bare,J.base,⟨m,hn,fun j x v e1 e2 _=>?_⟩,J.cell,J.free,J.freeC,J.pin,J.hok,?_⟩
 ·obtain⟨i,h1,h2⟩:=innerSt_get e2
  obtain⟨hN,hfree⟩:=S.out j i x e1 h1;have hk:=S.frees _ (PySem.mem_of_lookup hfree) rfl;obtain⟨m0,hn0,hl0⟩:=I.loc;have hv:Vis X.env.scope x:=by
   rcases hk with hk | hk
   ·exact .inr (.inl hk)
   ·exact .inr (.inr hk)
  obtain⟨u,r,l⟩:=hl0 i x v hN h2 hv;refine⟨u,r,.inr ⟨?_,?_⟩⟩
  ·rcases lookup_relabel_free (env:=X.env) hfree with z | z
   ·exact .inr z
   ·exact .inl z
  ·rcases l with ⟨z,_⟩ | ⟨_,c,hc,q⟩
   ·rcases hk with hk | hk
    ·have hk':X.env.kindOf x=some .cell:=hk
     rw[hk'] at z;cases z
    ·have hk':X.env.kindOf x=some .free:=hk
     rw[hk'] at z;cases z
   ·refine⟨c,S.cell I.ok hfree hc,?_⟩
    obtain⟨o,ho,hd⟩:=q;have ncfp:c ∉ fp:=fun z=>(hf c z).2.2.2.2.1 x c hc rfl
    obtain⟨sl',e⟩:=J.base.any ho (I.freeC x c hc) ncfp;exact⟨_,e,hd⟩
 ·unfold innerSt
  rw[Ya];exact S.len
theorem comp_run {elt tg iter:Expr}{ifs:List Expr}{pos pos2:Pos}{wi:TI}{g:TG}{tif:TT}{te:TE}{use:Option (Value->Sem Unit)}{QQ:Value->Shared->Prop}(S:CompScope X N sl scope)(hcalm:X.calm=true)(hi:PI X tg iter wi)
  (hg:∀ cl C s2 H2 fp,PG (cmpCx X N scope cl C s2 H2 fp) tg g) (hif:∀ cl C s2 H2 fp,PIf (cmpCx X N scope cl C s2 H2 fp) ifs tif) (he:∀ cl C s2 H2 fp,PE (cmpCx X N scope cl C s2 H2 fp) elt te)
  (hs:∀ x,foldedSetIterable iter X.env x=pure x) {pins:List (Addr×Obj)} {s:Shared} {σ:St} {H:Hp} {Q:VK} (I:Inv X pins σ H s) (h:tComp wi sl g tif te σ H Q)
  (hend:∀ (D C:Addr) (H3:Hp) (s4:Shared) (fl:Flow),Inv X pins σ H3 s4->H3 C=none->C≠X.env.locals->C ∉ X.fs->X.s₀.heap.objs.size<=C->(∀ x c,X.env.cells.lookup x=some c->c≠C)->(∀ p∈X.pn++pins,p.1≠C)->(∃ m,s4.heap.Ns C m)->Q (.ref D) H3->
   compPost (model X.prog X.w) X.A X.xe use QQ (.ref D) C (.ok fl) s4):
  wpAny (model X.prog X.w) X.A (comprehension (.ListComp elt [⟨tg,iter,ifs,0⟩] scope pos) scope X.env pos2 (newList []) false (eval iter X.env) use) QQ X.xe s:=by
 refine wpAny_comprehension_free (use:=use) rfl hs (S.clos I.ok) S.kind S.locs (wpAny_mono (hi pins s σ H _ I h) (fun xv s1 h1=>wpAny_mono h1 (fun itv s2 h2=>?_) fun _ _ e=>e) fun _ _ e=>e)
 obtain⟨it,fp,tn,J,H2,rfl,I2,T,st2,f2,hR⟩:=h2;obtain⟨W,⟨m0,w0⟩,turn⟩:=hR _ I2.fresh;refine wpAny_newObj_type (wpAny_newFunctionEnv S.nocell (by intro y hy;simp at hy) (fun h₁ hns₁ hsb₁=>?_) S.kind)
 dsimp only at hns₁ hsb₁ ⊢
 generalize hP:s2.heap.push { cls:=.type "list",dict:=none,data:=.seq ([]:List Value).toArray }=P2 at hns₁ hsb₁ ⊢;have hC:P2.objs.size=s2.heap.objs.size+1:=by rw[<- hP,Heap.size_push]
 have hDC:s2.heap.objs.size≠P2.objs.size:=by rw[hC];exact Ym (Nat.lt_succ_self _)
 have hCle:s2.heap.objs.size<=P2.objs.size:=by rw[hC];exact Ws _
 have hlt:∀ b∈fp,b<s2.heap.objs.size:=fun b hb=>let ⟨o,e,_⟩:=T.obj 0 _ st2 b hb;Yi e
 have old:∀ b o,s2.heap.get? b=some o->h₁.get? b=some o:=fun b o e=>hsb₁.extBut b o (Ym (Yh (Yi e) hCle)) (Yf _ (hP ▸ Yf _ e))
 have hD1:h₁.get? s2.heap.objs.size=some { cls:=.type "list",dict:=none,data:=.seq ([]:List Value).toArray }:=hsb₁.extBut _ _ hDC (Yf _ (hP ▸ Yt _ rfl));have hok:=S.ok (C:=P2.objs.size) I2 f2 hlt hCle;have hokH:HOk X.prog X.w (upd H2 s2.heap.objs.size (.lst [])) h₁:=I2.hok.laid old (Yd _) ⟨Y7 _,[],_,.nil,hD1⟩;have hUn:Un (frs X.stack) fp H2 (upd H2 s2.heap.objs.size (.lst [])) s2.heap h₁:=Un.laid old (Yd _) I2.fresh;have hcellK:∀ x c,(closOf X.env.cells scope.names []).lookup x=some c->∃ v,h₁.IsCell c v:=fun x c hc=>by
  obtain⟨v,o,ho,hd⟩:=I2.cell x c (CompScope.back hc);exact⟨v,o,old c o ho,hd⟩
 have hfreeK:∀ x c,(closOf X.env.cells scope.names []).lookup x=some c->upd H2 s2.heap.objs.size (.lst []) c=none:=fun x c hc=>by
  obtain⟨v,q⟩:=I2.cell x c (CompScope.back hc);rw[upd_ne (Ym q.lt)];exact I2.freeC x c (CompScope.back hc)
 have hfreeC:upd H2 s2.heap.objs.size (.lst []) P2.objs.size=none:=by
  rw[upd_ne (Ne.symm hDC)];exact I2.hok.fresh hCle
 have start:∀ tk:Nat,Inv (cmpCx X N scope (closOf X.env.cells scope.names []) P2.objs.size s2 H2 fp) [] (innerSt sl σ) (upd H2 s2.heap.objs.size (.lst [])) { s2 with heap:=h₁,toks:=tk }:=fun tk=>by
  have J0:Inv (cmpCx X N scope (closOf X.env.cells scope.names []) P2.objs.size s2 H2 fp) [] (Yp N.length none) (upd H2 s2.heap.objs.size (.lst [])) { s2 with heap:=h₁,toks:=tk }:=
   ⟨hok,rfl,I2.bare,hUn,⟨_,hns₁,fun i x v e1 e2 _=>by
    rw[List.getElem?_replicate] at e2;split at e2 <;> cases e2⟩,hcellK,hfreeC,hfreeK,fun p hp=>W1 (show p∈([]:List (Addr×Obj)) from hp) (by simp),hokH,by simp⟩
  exact S.again I2 f2 J0
 have stK:tn 0 h₁:=T.keep _ _ _ st2 fun b hb o e=>old b o e
 have fr1:∀ b∈fp,upd H2 s2.heap.objs.size (.lst []) b=none:=fun b hb=>by
  rw[upd_ne (Ym (hlt b hb))];exact (f2 b hb).1
 have stat:∀ {H':Hp},(∀ b∈fp,H' b=none)->∀ b∈fp,FpOk (cmpCx X N scope (closOf X.env.cells scope.names []) P2.objs.size s2 H2 fp) [] H' b:=fun hn b hb=>
  ⟨hn b hb,Ym (Yh (hlt b hb) hCle),fun z=>hok.exfs b hb z,.inl hb,fun x c hc=>(hok.exf b hb).2 x c hc,fun p hp=>W1 (show p∈([]:List (Addr×Obj)) from hp) (by simp)⟩
 have loop:∀ tk:Nat,codeAny (model X.prog X.w) X.A (.compLoop (.ListComp elt [⟨tg,iter,ifs,0⟩] scope pos) 0 (.ref it) (.ref s2.heap.objs.size) (compEnvC scope (closOf X.env.cells scope.names []) P2.objs.size X.env))
   (compPost (model X.prog X.w) X.A X.xe use QQ (.ref s2.heap.objs.size) P2.objs.size) { s2 with heap:=h₁,toks:=tk }:=fun tk=>by
  refine codeAny_loop rfl (fun n s'=>∃ i H',Inv (cmpCx X N scope (closOf X.env.cells scope.names []) P2.objs.size s2 H2 fp) [] (innerSt sl σ) H' s'/\tn i s'.heap/\(∀ b∈fp,H' b=none)/\W i n H') ?_ m0 ⟨0,_,start tk,stK,fr1,w0⟩
  rintro n s3 ⟨i,H3,I3,st3,fr3,w3⟩;show wpAny _ X.A ((compTurn (.ListComp elt [⟨tg,iter,ifs,0⟩] scope pos) 0 (.ref it) (.ref s2.heap.objs.size) (compEnvC scope (closOf X.env.cells scope.names []) P2.objs.size X.env)).onRaise (fun x=>do noteFrame x (compEnvC scope (closOf X.env.cells scope.names []) P2.objs.size X.env);theTreesLotGoes x)) _ _ s3
  refine wpAny_noted ?_
  rw[compTurn_list];rcases turn i n H3 w3 with ⟨stop,qn⟩ | ⟨go,step⟩
  ·refine wpAny_bind (wpAny_standAt (wpAny_bind (wpAny_mono (T.done (cmpCx X N scope (closOf X.env.cells scope.names []) P2.objs.size s2 H2 fp) rfl rfl rfl hcalm i [] s3 _ H3 _ I3 (stat fr3) st3 stop) (fun r s4 ⟨hr,I4⟩=>?_) fun _ _ z=>z)))
   subst hr;refine wpAny_pure ?_
   obtain⟨m4,hn4,_⟩:=I4.loc;have u0:Un (frs X.stack) fp H2 H3 s2.heap s4.heap:=I4.base;have hI:Inv X pins σ H3 s4:=I2.call' (s':=s4) (ch:=fp) I4.os u0 I4.hok I4.bare fun b hb=>⟨(f2 b hb).2.2.2.1,(f2 b hb).2.1,(f2 b hb).2.2.2.2.1,(f2 b hb).2.2.2.2.2⟩
   have hC':=I2.fpOk (H':=H3) hCle I4.free;exact hend _ _ H3 s4 _ hI I4.free hC'.2.1 hC'.2.2.1 (Ys I2.sz hCle) hC'.2.2.2.2.1 hC'.2.2.2.2.2 ⟨m4,hn4⟩ qn
  ·refine wpAny_bind (wpAny_standAt (wpAny_bind (wpAny_mono (T.item (cmpCx X N scope (closOf X.env.cells scope.names []) P2.objs.size s2 H2 fp) rfl rfl rfl hcalm i [] s3 _ H3 (fun _ _=>False) I3 (stat fr3) st3 go) (fun r s4 ⟨u,hr,h4⟩=>?_) fun _ _ z=>z.elim)))
   subst hr;refine wpAny_bind (wpAny_mono h4 (fun _ s5 ⟨x,H5,I5,r5,y5,st5,fr5⟩=>?_) fun _ _ z=>z.elim)
   have I5':=I5.pinned (stat fr5) (T.obj _ _ st5);refine wpAny_bind (wpAny_mono (hg _ _ _ _ _ _ s5 _ H5 x u _ I5' r5 (step x H5 y5)) (fun _ s6 ⟨σ6,H6,I6,q6⟩=>?_) fun _ _ z=>(show False from z).elim)
   have again:∀ {σ7:St} {H7:Hp} {s7:Shared},Inv (cmpCx X N scope (closOf X.env.cells scope.names []) P2.objs.size s2 H2 fp) ([]++pinsAt fp s5.heap) σ7 H7 s7->(∃ m',m'<n/\W (i+1) m' H7)->
     ∃ m',m'<n/\∃ i H',Inv (cmpCx X N scope (closOf X.env.cells scope.names []) P2.objs.size s2 H2 fp) [] (innerSt sl σ) H' s7/\tn i s7.heap/\(∀ b∈fp,H' b=none)/\W i m' H':=fun {σ7 H7 s7} I7 ⟨m',hm,w7⟩=>by
    refine⟨m',hm,i+1,H7,S.again I2 f2 I7.unpinned,T.keep _ _ _ st5 fun b hb o e=>(I7.pin (b,o) (Yq _ (Yq _ (mem_pinsAt hb e)))).1,fun b hb=>?_,w7⟩
    obtain⟨o,e,d⟩:=T.obj _ _ st5 b hb;exact (I7.pin (b,o) (Yq _ (Yq _ (mem_pinsAt hb e)))).2.1
   refine wpAny_bind (wpAny_mono (hif _ _ _ _ _ _ s6 σ6 H6 _ I6 q6) (fun ok s7 ⟨H7,I7,q7⟩=>?_) fun _ _ z=>(show False from z).elim)
   cases ok with
   | false=>
    exact wpAny_pure ⟨rfl,again I7 (by simpa using q7)⟩
   | true=>
    rw[Wv rfl] at q7;refine wpAny_bind (wpAny_bind (wpAny_mono ((he _ _ _ _ _).out _ s7 σ6 H7 _ I7 q7) (fun y s8 ⟨yv,H8,I8,r8,ys,hys,hlen,w8⟩=>?_) fun _ _ z=>(show False from z).elim))
    refine wpAny_bind (wpAny_mono (mt_append (X:=cmpCx X N scope (closOf X.env.cells scope.names []) P2.objs.size s2 H2 fp) _ s8 σ6 H8 (.ref s2.heap.objs.size) [yv] (.ref s2.heap.objs.size) [y]
     (fun v H9=>v=.non/\∃ m',m'<n/\W (i+1) m' H9) I8 rfl (.cons r8 .nil) ⟨_,ys,yv,rfl,rfl,hys,hlen,rfl,w8⟩) (fun r s9 ⟨v9,H9,I9,r9,e9,w9⟩=>?_) fun _ _ z=>(show False from z).elim)
    exact wpAny_pure (wpAny_pure ⟨rfl,again I9 w9⟩)
 exact codeAny_compStart_list (loop _) (T.self _ 0 _ _ _ stK (loop _))
theorem pe_comp {elt tg iter:Expr}{ifs:List Expr}{pos:Pos}{wi:TI}{g:TG}{tif:TT}{te:TE}(S:CompScope X N sl scope)(hcalm:X.calm=true)(hi:PI X tg iter wi)
  (hg:∀ cl C s2 H2 fp,PG (cmpCx X N scope cl C s2 H2 fp) tg g) (hif:∀ cl C s2 H2 fp,PIf (cmpCx X N scope cl C s2 H2 fp) ifs tif) (he:∀ cl C s2 H2 fp,PE (cmpCx X N scope cl C s2 H2 fp) elt te)
  (hs:∀ x,foldedSetIterable iter X.env x=pure x:=by intro _;rfl):
  PE X (.ListComp elt [⟨tg,iter,ifs,0⟩] scope pos) (tComp wi sl g tif te):=by
 refine⟨?_⟩
 intro pins s σ H Q I h;rw[eval_ListComp];refine comp_run S hcalm hi hg hif he hs I h fun D C H3 s4 fl I4 n1 n2 n3 n4 n5 n6 ⟨m,hn⟩ q=>?_
 exact⟨m,hn,fun h' hsb=>⟨.ref D,H3,I4.turned (t':=s4.toks) (fun b o hb e=>(hsb.2 b hb).trans e) n1 n2 (.inr n4) n5 n6,rfl,q⟩⟩
theorem ps_setC {i:Nat}{x:Str}{elt tg iter:Expr}{ifs:List Expr}{cpos pos pos':Pos}{wi:TI}{g:TG}{tif:TT}{te:TE}(hN:X.N.Nodup)(hi':X.N[i]?=some x)(hx:Loc X.env.scope x)(S:CompScope X N sl scope)(hcalm:X.calm=true)(hi:PI X tg iter wi)
  (hg:∀ cl C s2 H2 fp,PG (cmpCx X N scope cl C s2 H2 fp) tg g) (hif:∀ cl C s2 H2 fp,PIf (cmpCx X N scope cl C s2 H2 fp) ifs tif) (he:∀ cl C s2 H2 fp,PE (cmpCx X N scope cl C s2 H2 fp) elt te)
  (hsw:swapsWith (.ListComp elt [⟨tg,iter,ifs,0⟩] scope cpos) (some (.Name x pos')) pos.line X.env=pure true:=by rfl)
  (hs:∀ x,foldedSetIterable iter X.env x=pure x:=by intro _;rfl) (hf:X.fn x=true\/X.env.scope.names.lookup x=some .local:=by first|exact .inl rfl|exact .inr rfl|assumption):
  PS X (.Assign [.Name x pos'] (.ListComp elt [⟨tg,iter,ifs,0⟩] scope cpos) pos) (tAsg (tComp wi sl g tif te) (gName i)):=by
 refine⟨?_⟩
 intro pins s σ H D0 I h;rw[exec_Assign_Name_used _ _ _ _ hsw];refine wpAny_bind (wpAny_standAt (wpAny_bind ?_))
 show wpAny _ X.A (do let _ <- comprehension (.ListComp elt [⟨tg,iter,ifs,0⟩] scope cpos) scope X.env _ (newList []) false (eval iter X.env) (some (assign (.Name x pos') X.env))) _ _ s
 refine wpAny_bind (wpAny_mono (comp_run (QQ:=fun _ s'=>∃ σ' H',Inv X pins σ' H' s'/\D0.nx σ' H') (use:=some (assign (.Name x pos') X.env)) S hcalm hi hg hif he hs I h fun D C H3 s4 fl I4 n1 n2 n3 n4 n5 n6 hm q=>?_)
  (fun _ s' hq=>wpAny_pure (wpAny_pure hq)) fun _ _ e=>e)
 obtain⟨m,hn⟩:=hm;show wpAny _ X.A (assign (.Name x pos') X.env (.ref D)) _ _ _
 refine wpAny_assign_Name (store_ok2 I4 hN hi' hx (show RelV (.ref D) (.ref D) from rfl) (fun s5 I5 ⟨a,hsb,ha⟩=>?_) hf)
 have hCa:C≠a:=by
  rcases ha with rfl | ha
  ·exact n2
  ·exact fun z=>n5 _ _ ha z.symm
 refine⟨m,hn.sameBut hsb hCa,fun h' hsb'=>⟨_,H3,I5.turned (t':=s5.toks) (fun b o hb e=>(hsb'.2 b hb).trans e) n1 n2 (.inr n4) n5 n6,q⟩⟩
end
end L2
namespace L2
open PySem PySem.Spec PyProof.Rows
section
variable {X:Cx}
def CMulO (i j:Int):Prop:=IntMulOk i j
def CDivW (i j:Int):Prop:=j≠0/\j.natAbs<2 ^ 9000
theorem CDivW.py {i j:Int}(h:CDivW i j):Builtin.divisionGoesByPylong i j=false:=by
 refine PyProof.noPylong_of_log2 ?_
 have h0:j.natAbs≠0:=fun z=>h.1 (Int.natAbs_eq_zero.mp z)
 exact (Nat.log2_lt h0).mpr h.2
theorem op_mulO:OpR X (binaryOp .Mult) (rI CMulO fun i j=>.int (i*j)):=opI fun _ _ _ _ _ _ _ hc q=>mul_int q hc
theorem op_fdivW:OpR X (binaryOp .FloorDiv) (rI CDivW fun i j=>.int (i.fdiv j)):=opI fun _ _ _ _ _ _ _ hc q=>floordiv_int hc.1 q (.inl hc.py)
theorem mulOk {a b:Int}{m n:Nat}(ha:a.natAbs<2 ^ m)(hb:b.natAbs<2 ^ n)(h:m+n<=134217728):CMulO a b:=
 IntMulOk.of_le (intBits_le_iff.mpr ha) (intBits_le_iff.mpr hb) h
theorem mulOkL {a b:Int}(h1:-(2 ^ 64)<a)(h2:a<2 ^ 64):CMulO a b:=.of_left (intBits_le_64 h1 h2)
theorem mulOkR {a b:Int}(h1:-(2 ^ 64)<b)(h2:b<2 ^ 64):CMulO a b:=.of_right (intBits_le_64 h1 h2)
def isPlain:V->Bool
 | .non=>true
 | .bl _=>true
 | _=>false
theorem RelV.beq_plain {x y:V}{v u:Value}(rx:RelV x v)(ry:RelV y u)(hy:isPlain y=true):plainIs v u=true/\(v == u)=decide (x=y):=by
 cases y with
 | non=>
  cases ry;cases x <;> first|(cases rx;exact⟨rfl,rfl⟩)|(obtain⟨t,rfl⟩:=rx;exact⟨rfl,rfl⟩)
 | bl b=>
  cases ry;cases x with
  | bl c=>
   cases rx;refine⟨rfl,?_⟩
   cases b <;> cases c <;> rfl
  | non=>cases rx;exact⟨rfl,rfl⟩
  | ref a=>cases rx;exact⟨rfl,rfl⟩
  | ty n=>cases rx;exact⟨rfl,rfl⟩
  | int _=>obtain⟨t,rfl⟩:=rx;exact⟨rfl,rfl⟩
  | str _=>obtain⟨t,rfl⟩:=rx;exact⟨rfl,rfl⟩
  | byt _=>obtain⟨t,rfl⟩:=rx;exact⟨rfl,rfl⟩
  | flt _=>obtain⟨t,rfl⟩:=rx;exact⟨rfl,rfl⟩
 | _=>exact W1 (show false=true from hy) Bool.false_ne_true
theorem op_is:OpR X (compareOp .Is) (fun x y H Q=>isPlain y=true/\Q (.bl (decide (x=y))) H):=by
 intro pins s σ H x y v u Q I rx ry h;obtain⟨hy,q⟩:=h;obtain⟨p,e⟩:=rx.beq_plain ry hy;exact wpAny_is_plain p (fin_bl I q e.symm)
theorem op_isnot:OpR X (compareOp .IsNot) (fun x y H Q=>isPlain y=true/\Q (.bl (!decide (x=y))) H):=by
 intro pins s σ H x y v u Q I rx ry h;obtain⟨hy,q⟩:=h;obtain⟨p,e⟩:=rx.beq_plain ry hy;exact wpAny_isNot_plain p (fin_bl I q (Wz not e.symm))
inductive TyB (K:FrQ)(H:Hp):V->String->Prop where
 | non:TyB K H .non "NoneType"
 | bl (x:Bool):TyB K H (.bl x) "bool"
 | int (i:Int):TyB K H (.int i) "int"
 | str (x:Str):TyB K H (.str x) "str"
 | lst {a:Addr} {xs:List V} (e:SqL K H a xs):TyB K H (.ref a) "list"
 | tup {a:Addr} {xs:List V} (e:SqT K H a xs):TyB K H (.ref a) "tuple"
theorem call_isinst:CallR X (.builtin "isinstance") (fun xs H Q=>∃ x T T' b,xs=[x,.ty T']/\TyB X.K H x T/\PySem.W.kitOne X.K (.type T) (.type T')=some b/\Q (.bl b) H):=by
 intro pins s σ H xs us Q I rv h;obtain⟨x,T,T',b,rfl,ty,e,q⟩:=h;obtain⟨u,w',rfl,rx,rt⟩:=vals2 rv;obtain rfl:w'=Value.type T':=rt
 have fin:∀ tk,EP X pins σ Q (.bool b) { s with toks:=tk }:=fun tk=>⟨.bl b,H,I.tok tk,rfl,q⟩
 cases ty with
 | non=>cases (show u=Value.none from rx);exact PySem.W.kia_one PySem.W.kitx_none I.kIn True.intro e (fun z=>nomatch z) fin
 | bl y=>cases (show u=Value.bool y from rx);exact PySem.W.kia_one PySem.W.kitx_bool I.kIn True.intro e (fun z=>nomatch z) fin
 | int i=>obtain⟨t,q'⟩:=(show ∃ t,u=Value.int i t from rx);cases q';exact PySem.W.kia_one PySem.W.kitx_int I.kIn True.intro e (fun z=>nomatch z) fin
 | str y=>obtain⟨t,q'⟩:=(show ∃ t,u=Value.str y t from rx);cases q';exact PySem.W.kia_one PySem.W.kitx_str I.kIn True.intro e (fun z=>nomatch z) fin
 | @lst a ys ea=>
  cases (show u=Value.ref a from rx)
  obtain⟨its,_,⟨o,n,h1,h2,_⟩,_⟩:=I.list ea;exact PySem.W.kia_one PySem.W.kitx_list I.kIn ⟨o,h1,h2⟩ e (fun z=>nomatch z) fin
 | @tup a ys ea=>
  cases (show u=Value.ref a from rx)
  obtain⟨its,_,⟨o,h1,h2,_⟩,_⟩:=I.tuple ea;exact PySem.W.kia_one PySem.W.kitx_tuple I.kIn ⟨o,h1,h2⟩ e (fun z=>nomatch z) fin
inductive Den (K:FrQ)(H:Hp):V->PyData->Prop where
 | non:Den K H .non .none
 | bl (b:Bool):Den K H (.bl b) (.bool b)
 | int (i:Int):Den K H (.int i) (.int i)
 | str (x:Str):Den K H (.str x) (.str x)
 | lst {a:Addr} {xs:List V} {ds:List PyData}:SqL K H a xs->xs.length=ds.length->(∀ (i:Nat) x d,xs[i]?=some x->ds[i]?=some d->Den K H x d)->Den K H (.ref a) (.list ds)
 | tup {a:Addr} {xs:List V} {ds:List PyData}:SqT K H a xs->xs.length=ds.length->(∀ (i:Nat) x d,xs[i]?=some x->ds[i]?=some d->Den K H x d)->Den K H (.ref a) (.tuple ds)
theorem readsAll_of {h:Heap}:∀ {us:List Value} {ds:List PyData},us.length=ds.length->(∀ (i:Nat) u d,us[i]?=some u->ds[i]?=some d->∃ as,Reads h u d as)->∃ as,ReadsAll h us ds as
 | [],[],_,_=>⟨[],.nil⟩
 | [],_::_,e,_=>by simp at e
 | _::_,[],e,_=>by simp at e
 | u::us,d::ds,e,f=>by
  obtain⟨as,r⟩:=f 0 u d rfl rfl;obtain⟨bs,rs⟩:=readsAll_of (us:=us) (ds:=ds) (by simpa using e) fun i u d h1 h2=>f (i+1) u d (by simpa using h1) (by simpa using h2)
  exact⟨as++bs,.cons r rs⟩
theorem Vals.back {xs:List V}{us:List Value}(r:Vals xs us){i:Nat}{u:Value}(h:us[i]?=some u):∃ x,xs[i]?=some x/\RelV x u:=by
 have hi:i<us.length:=(List.getElem?_eq_some_iff.mp h).1;have hx:i<xs.length:=by rw[r.length];exact hi
 obtain⟨u',h',rel⟩:=r.get (Yc hx);rw[h] at h';cases h';exact⟨_,Yc hx,rel⟩
theorem Den.reads {pins:List (Addr×Obj)}{σ:St}{H:Hp}{s:Shared}(I:Inv X pins σ H s){v:V}{d:PyData}(D:Den X.K H v d):∀ {u:Value},RelV v u->∃ as,Reads s.heap u d as:=by
 induction D with
 | non=>intro u r;cases (show u=Value.none from r);exact⟨_,.none⟩
 | bl b=>intro u r;cases (show u=Value.bool b from r);exact⟨_,.bool b⟩
 | int i=>intro u r;obtain⟨t,rfl⟩:=(show ∃ t,u=Value.int i t from r);exact⟨_,.int i t⟩
 | str x=>intro u r;obtain⟨t,rfl⟩:=(show ∃ t,u=Value.str x t from r);exact⟨_,.str x t⟩
 | @lst a xs ds q hl _ ih=>
  intro u r;cases (show u=Value.ref a from r)
  obtain⟨its,rv,⟨o,n,h1,h2,h3,h4⟩,_⟩:=I.list q;obtain⟨as,ra⟩:=readsAll_of (h:=s.heap) (us:=its) (ds:=ds) (by rw[<- rv.length];exact hl) fun i u d e1 e2=>by
   obtain⟨x,ex,rel⟩:=rv.back e1;exact ih i x d ex e2 rel
  exact⟨_,.list h1 h2 h4 (by simpa using ra)⟩
 | @tup a xs ds q hl _ ih=>
  intro u r;cases (show u=Value.ref a from r)
  obtain⟨its,rv,⟨o,h1,h2,n,h4⟩,_⟩:=I.tuple q;obtain⟨as,ra⟩:=readsAll_of (h:=s.heap) (us:=its) (ds:=ds) (by rw[<- rv.length];exact hl) fun i u d e1 e2=>by
   obtain⟨x,ex,rel⟩:=rv.back e1;exact ih i x d ex e2 rel
  exact⟨_,.tuple h1 h2 h4 (by simpa using ra)⟩
def rEqD (K:FrQ)(neg:Bool):R2:=fun x y H Q=>∃ d e,Den K H x d/\Den K H y e/\SeqAt.shaped d=true/\SeqAt.shaped e=true/\Q (.bl (if neg then !PyData.eqv d e else PyData.eqv d e)) H
theorem op_eqD (hu:X.A.units+64<cLine):OpR X (compareOp .Eq) (rEqD X.K false):=by
 intro pins s σ H x y v u Q I rx ry h;obtain⟨d,e,Dx,Dy,sd,se,q⟩:=h;obtain⟨as,ra⟩:=Dx.reads I rx;obtain⟨bs,rb⟩:=Dy.reads I ry;exact SeqAt.compareEq_shaped ra rb sd se hu (fin_bl I q rfl)
theorem op_neD (hu:X.A.units+64<cLine):OpR X (compareOp .NotEq) (rEqD X.K true):=by
 intro pins s σ H x y v u Q I rx ry h;obtain⟨d,e,Dx,Dy,sd,se,q⟩:=h;obtain⟨as,ra⟩:=Dx.reads I rx;obtain⟨bs,rb⟩:=Dy.reads I ry;exact SeqAt.compareNe_shaped ra rb sd se hu (fin_bl I q rfl)
def scalD:V->Option PyData
 | .non=>some .none
 | .bl b=>some (.bool b)
 | .int i=>some (.int i)
 | .str x=>some (.str x)
 | _=>none
theorem den_scal {K:FrQ}{H:Hp}{v:V}{d:PyData}(h:scalD v=some d):Den K H v d:=by
 cases v <;> first|(cases h;constructor)|cases h
def scalDs:List V->Option (List PyData)
 | []=>some []
 | v::r=>match scalD v,scalDs r with
  | some d,some ds=>some (d::ds)
  | _,_=>none
theorem scalDs_ok:∀ {xs:List V} {ds:List PyData},scalDs xs=some ds->xs.length=ds.length/\∀ (i:Nat) x d,xs[i]?=some x->ds[i]?=some d->scalD x=some d
 | [],ds,h=>by cases h;exact⟨rfl,fun i x d h=>by simp at h⟩
 | v::r,ds,h=>by
  unfold scalDs at h;cases e1:scalD v with
  | none=>rw[e1] at h;cases h
  | some d0=>
   cases e2:scalDs r with
   | none=>rw[e1,e2] at h;cases h
   | some dr=>
    rw[e1,e2] at h;cases h;obtain⟨hl,hx⟩:=scalDs_ok e2;refine⟨by simp[hl],fun i x d h1 h2=>?_⟩
    cases i with
    | zero=>simp at h1 h2;rw[<- h1,<- h2];exact e1
    | succ i=>exact hx i x d (by simpa using h1) (by simpa using h2)
theorem den_lst {K:FrQ}{H:Hp}{a:Addr}{xs:List V}{ds:List PyData}(q:SqL K H a xs)(h:scalDs xs=some ds):Den K H (.ref a) (.list ds):=
 .lst q (scalDs_ok h).1 fun i x d h1 h2=>den_scal ((scalDs_ok h).2 i x d h1 h2)
theorem scalDs_ints:∀ (ns:List Int),scalDs (ns.map V.int)=some (ns.map PyData.int)
 | []=>rfl
 | n::ns=>by
  show (match scalD (.int n),scalDs (ns.map V.int) with | some d,some ds=>some (d::ds) | _,_=>none)=_
  rw[scalDs_ints ns];rfl
theorem boolsAre_of:∀ {bs:List Bool} {us:List Value},Vals (bs.map V.bl) us->LSm.BoolsAre us bs
 | [],_,.nil=>.nil
 | b::bs,_,.cons r t=>by
  cases (show _=Value.bool b from r)
  exact .cons b (boolsAre_of t)
end
structure Src (K:FrQ)(mg:Str->Option Value)(x:Str)(st:Stmt)(ps:List Str):Prop where
 ex:∃ f fd,Fun K x x st f fd/\Binds K fd ps []/\mg x=some (.ref f)
structure Dfn (P:Program)(w:World)(K:FrQ)(mg:Str->Option Value)(base:Heap)(k:Nat)(x:Str)(ps:List Str)(sp:Sp):Prop where
 ex:∃ f fd,FnOk P w K mg base CX0 k f fd ps sp/\Binds K fd ps []/\PySem.W.keepIn K (.ref f)=true/\mg x=some (.ref f)
section
variable {P:Program} {w:World} {K:FrQ} {mg:Str->Option Value} {base:Heap}
theorem Src.ok {x:Str}{st:Stmt}{N ps:List Str}{k:Nat}{sp:Sp}(F:Src K mg x st ps)(S:FnScope N ps (defScope st))(len:∀ vs H Q E,sp vs H Q E->vs.length=ps.length)
  (hbody:∀ (f:Addr) (cdv:Value) (A:Around) (outer:List Env) (s:Shared) (H:Hp) (vs:List V) (Q:VK) (E:XK),Room k (A.deeper (envOfC x (defScope st) s.heap.objs.size f cdv))->sp vs H Q E->
   ∃ t,PSs (cxOf CX0 P w K mg base N x (defScope st) f cdv A outer s H E).nox (defBody st) t/\t { nx:=fun _ H'=>Q .non H',rt:=Q } (start N vs) H):Dfn P w K mg base (k+1) x ps sp:=by
 obtain⟨f,fd,F,B,M⟩:=F.ex;exact⟨f,fd,F.ok S len (hbody f),B,F.kp,M⟩
theorem src_mk {x:Str}{st:Stmt}{ps:List Str}{f:Addr}{oc:Value}{od an:Option Addr}{osl:Array (Option Value)}{kV doc pm cdv ct:Value}{h:Heap}(X:K.In h)(G:h.Ns mainGlobals mg)
  (a:PySem.W.nsIn K mainGlobals x=some (some (.ref f))) (l:K.lookup f=some ⟨oc,od,.func (PySem.W.fnOf x x (defArgs st) (defBody st) (defScope st) .none kV doc pm an cdv ct),osl⟩) (c:PySem.W.codeIn K cdv x=true) (k:PySem.W.keepIn K (.ref f)=true)
  (hb:∀ (kV doc pm:Value) (an:Option Addr) (cdv ct:Value) (us:List Value),us.length=ps.length->bindArgs (PySem.W.fnOf x x (defArgs st) (defBody st) (defScope st) .none kV doc pm an cdv ct) ⟨us,[]⟩=pure (ps.zip us)):Src K mg x st ps:=
 ⟨f,_,fun_mk l c k,(fun_mk l c k).binds hb,PySem.W.mg_of X G a⟩
end
theorem pe_def {X:Cx}{k n:Nat}{x:Str}{ps:List Str}{sp:Sp}{e:Expr}{es:List Expr}{t:TA}{p pos:Pos}(D:Dfn X.prog X.w X.K X.mg X.base k x ps sp)(hr:Room n X.A)(ha:PA X (e::es) t)(hle:k<=n:=by decide)(hg:Gl X x:=by rfl)
  (hdb:(x ==("__debug__":Str))=false:=by decide) (he:starEach (e::es) X.env=(false,eval e X.env)::starEach es X.env:=by rfl) (hpl:(backTo pos (starEach es X.env)).any (·.1)=false:=by rfl):
  PE X (.Call (.Name x p) (e::es) [] pos) (tCall sp [] E0 t):=by
 obtain⟨f,fd,F,B,kp,M⟩:=D.ex;exact pe_call F (hr.mono hle) hg M kp B .nil pass0 ha hdb he hpl
theorem same_new {H:Hp}{p:Addr}(h:H p=none)(o:HO):Same H (upd H p o):=fun b u q=>by rw[upd_ne (ne_of_none q h)];exact q
end L2
namespace L2
open PySem PySem.Spec PyProof.Rows
def compOk (osc:Scope)(ON N:List Str)(sl:List (Option Nat))(scope:Scope):Bool:=
 decide (scope.kind=.function) && scope.names.all (fun y=>decide (y.2≠.cell)) && scope.names.all (fun y=>decide (y.2=.local->scope.names.lookup y.1=some .local)) &&
 scope.names.all (fun y=>decide (y.2=.free->osc.names.lookup y.1=some .cell\/osc.names.lookup y.1=some .free)) && decide (sl.length=N.length) &&
 (Yj N.length).all fun j=>match N[j]?,sl[j]? with
  | some x,some (some i)=>decide (ON[i]?=some x/\scope.names.lookup x=some .free)
  | _,_=>true
theorem compScope_mk {X:Cx}{N:List Str}{sl:List (Option Nat)}{scope:Scope}(osc:Scope)(ON:List Str)(h1:X.env.scope=osc)(h2:X.N=ON)(hb:compOk osc ON N sl scope=true):CompScope X N sl scope:=by
 unfold compOk at hb;simp only[Bool.and_eq_true,decide_eq_true_eq,Z3] at hb
 obtain⟨⟨⟨⟨⟨b1,b2⟩,b3⟩,b4⟩,b5⟩,b6⟩:=hb;refine⟨b1,b2,b3,fun y hy hf=>?_,b5,fun j i x e1 e2=>?_⟩
 ·have:=b4 y hy hf
  show X.env.scope.names.lookup y.1=_\/X.env.scope.names.lookup y.1=_
  rw[h1];exact this
 ·have hj:j<N.length:=(List.getElem?_eq_some_iff.mp e1).1
  have:=b6 j (List.mem_range.mpr hj)
  rw[e1,e2] at this;have q:=Wx this;rw[h2];exact q
theorem bt_len:bootBuiltins "len"=some (.builtin "len"):=by decide +kernel
theorem bt_abs:bootBuiltins "abs"=some (.builtin "abs"):=by decide +kernel
theorem bt_isinstance:bootBuiltins "isinstance"=some (.builtin "isinstance"):=by decide +kernel
theorem bt_any:bootBuiltins "any"=some (.builtin "any"):=by decide +kernel
theorem bt_min:bootBuiltins "min"=some (.builtin "min"):=by decide +kernel
theorem bt_sum:bootBuiltins "sum"=some (.builtin "sum"):=by decide +kernel
theorem bt_int:bootBuiltins "int"=some (.type "int"):=by decide +kernel
theorem bt_bool:bootBuiltins "bool"=some (.type "bool"):=by decide +kernel
theorem bt_list:bootBuiltins "list"=some (.type "list"):=by decide +kernel
theorem bt_tuple:bootBuiltins "tuple"=some (.type "tuple"):=by decide +kernel
end L2
namespace L2
open PySem PySem.Spec PyProof.Rows
def rIsi (K:FrQ):List V->Hp->VK->Prop:=fun xs H Q=>∃ x T T' b,xs=[x,.ty T']/\TyB K H x T/\PySem.W.kitOne K (.type T) (.type T')=some b/\Q (.bl b) H
def rLenS (K:FrQ):List V->Hp->VK->Prop:=fun xs H Q=>∃ p ys,xs=[.ref p]/\(SqL K H p ys\/SqT K H p ys)/\Q (.int ys.length) H
section
variable {X:Cx} {K:FrQ}
theorem callK_isinst (h:X.K=K):CallR X (.builtin "isinstance") (rIsi K):=by subst h;exact fun pins s σ H xs us Q I rv ⟨a,b,c,d,e,f,g,i⟩=>call_isinst pins s σ H xs us Q I rv ⟨a,b,c,d,e,f,g,i⟩
theorem callK_len (h:X.K=K):CallR X (.builtin "len") (rLenS K):=by subst h;exact fun pins s σ H xs us Q I rv ⟨a,b,c,d,e⟩=>call_len_seq pins s σ H xs us Q I rv ⟨a,b,c,d,e⟩
theorem ixK_list (h:X.K=K):IxR X (rIxL K):=by subst h;exact ix_list
theorem ixK_tup (h:X.K=K):IxR X (rIxT K):=by subst h;exact ix_tup
theorem slK_list (h:X.K=K):SlR X (rSlL K):=by subst h;exact sl_list
theorem opK_in (h:X.K=K):OpR X (compareOp .In) (rIn K false):=by subst h;exact op_in_seq
theorem opK_eqD (h:X.K=K)(hu:X.A.units+64<cLine):OpR X (compareOp .Eq) (rEqD K false):=by subst h;exact op_eqD hu
theorem opK_neD (h:X.K=K)(hu:X.A.units+64<cLine):OpR X (compareOp .NotEq) (rEqD K true):=by subst h;exact op_neD hu
theorem piK_list {tg l:Expr}{tl:TE}(h:X.K=K)(hl:PE X l tl):PI X tg l (iList K tl):=by subst h;exact pi_list hl
theorem pgK_tup {es:List Expr}{k:Nat}{t:TGs}{n:Nat}{pos:Pos}(hK:X.K=K)(hc:X.calm=true)(h:PGs X es t)
  (hn:(assignEach es X.env).length=n:=by rfl) (hst:(assignEach es X.env).findIdx? (·.1)=none:=by rfl):PG X (.Tuple es k pos) (gTup K n t):=by subst hK;exact pg_tup hc h hn hst
end
end L2
namespace L2
open PySem PySem.Spec PyProof.Rows
def Bd (m:Nat)(x:Int):Prop:=x.natAbs<2 ^ m
theorem Bd.mono {m n:Nat}{x:Int}(h:Bd m x)(hmn:m<=n):Bd n x:=Yh h (Zy (by decide) hmn)
theorem Bd.bits {m:Nat}{x:Int}(h:Bd m x):Builtin.Int.intBits x<=m:=intBits_le_iff.mpr h
theorem Bd.of_bits {m:Nat}{x:Int}(h:Builtin.Int.intBits x<=m):Bd m x:=intBits_le_iff.mp h
theorem Bd.mul {m n:Nat}{x y:Int}(hx:Bd m x)(hy:Bd n y):Bd (m+n) (x*y):=.of_bits (intBits_mul_le hx.bits hy.bits)
theorem Bd.add {m n:Nat}{x y:Int}(hx:Bd m x)(hy:Bd n y):Bd (max m n+1) (x+y):=.of_bits (intBits_add_le hx.bits hy.bits)
theorem Bd.sub {m n:Nat}{x y:Int}(hx:Bd m x)(hy:Bd n y):Bd (max m n+1) (x - y):=.of_bits (intBits_sub_le hx.bits hy.bits)
theorem Bd.le {m:Nat}{x y:Int}(h:x.natAbs<=y.natAbs)(hy:Bd m y):Bd m x:=Zv h hy
theorem Bd.fdiv {m:Nat}{x y:Int}(hx:Bd m x):Bd m (x.fdiv y):=.of_bits (intBits_fdiv_le hx.bits)
theorem Bd.ok {m n:Nat}{x y:Int}(hx:Bd m x)(hy:Bd n y)(h:m+n<=134217728:=by decide):CMulO x y:=mulOk hx hy h
theorem Bd.dv {m:Nat}{i j:Int}(h:Bd m j)(h0:j≠0)(hm:m<=9000:=by decide):CDivW i j:=⟨h0,h.mono hm⟩
theorem Bd.small {x:Int}(h1:-(2 ^ 64)<x)(h2:x<2 ^ 64):Bd 64 x:=by unfold Bd;omega
theorem atI_get_nat {α:Type}{xs:List α}{i:Int}(h0:0<=i)(h1:i.toNat<xs.length):atI xs i=some xs[i.toNat]:=by
 have e:i=((i.toNat:Nat):Int):=by omega
 have q:atI xs ((i.toNat:Nat):Int)=some xs[i.toNat]:=atI_nat (Yc h1);rw[<- e] at q;exact q
theorem atI_mem {α:Type}{xs:List α}{i:Int}(h0:0<=i)(h1:i<xs.length):∃ v,atI xs i=some v/\v∈xs:=by
 have hi:i.toNat<xs.length:=by omega
 exact⟨xs[i.toNat],atI_get_nat h0 hi,Yw hi⟩
theorem len_ok {α:Type}{xs:List α}(h:decide (xs.length<=1000)=true):xs.length<=sizeLine:=Ys (Wx h) (by decide)
end L2
namespace L2
open PySem PySem.Spec PyProof.Rows
theorem iteN {c A B:Prop}[Decidable c](h:¬ c)(hB:B):if decide c=true then A else B:=by
 rw[Wy h];exact iteF hB
theorem iteY {c A B:Prop}[Decidable c](h:c)(hA:A):if decide c=true then A else B:=by
 rw[Ww h];exact iteT hA
def CW (n:Nat)(D:Addr)(Pv:Nat->List V->Hp->Prop):Nat->Nat->Hp->Prop:=fun i m H2=>m=n - i/\i<=n/\∃ ys,H2 D=some (.lst ys)/\ys.length<=i/\Pv i ys H2
theorem CW.emit {n:Nat}{D:Addr}{Pv:Nat->List V->Hp->Prop}{i m:Nat}{ys:List V}{y:V}{H5:Hp}(hm:m=n - i)(hi:i<n)(hn:n<=sizeLine)(hy:H5 D=some (.lst ys))(hl:ys.length<=i)
  (p:Pv (i+1) (ys++[y]) (upd H5 D (.lst (ys++[y])))):∃ ys,H5 D=some (.lst ys)/\ys.length<sizeLine/\∃ m',m'<m/\CW n D Pv (i+1) m' (upd H5 D (.lst (ys++[y]))):=
 ⟨ys,hy,by omega,n - (i+1),by omega,rfl,hi,ys++[y],upd_same,by simp;omega,p⟩
theorem CW.skip {n:Nat}{D:Addr}{Pv:Nat->List V->Hp->Prop}{i m:Nat}{ys:List V}{H4:Hp}(hm:m=n - i)(hi:i<n)(hy:H4 D=some (.lst ys))(hl:ys.length<=i)(p:Pv (i+1) ys H4):
  ∃ m',m'<m/\CW n D Pv (i+1) m' H4:=⟨n - (i+1),by omega,rfl,hi,ys,hy,by omega,p⟩
theorem comp_list {K:FrQ}{a D:Addr}{xs:List V}{st:St}{g:TG}{tif:TT}{te:TE}{H1:Hp}{Q:VK}(Pv:Nat->List V->Hp->Prop)(h0:Pv 0 [] (upd H1 D (.lst [])))
  (hl:∀ i ys H2,H2 D=some (.lst ys)->Pv i ys H2->SqL K H2 a xs)
  (hs:∀ i m x ys H2,m=xs.length - i->i<xs.length->xs[i]?=some x->H2 D=some (.lst ys)->ys.length<=i->Pv i ys H2->g x st H2 fun σ3 H3=>tif σ3 H3 fun b H4=>
   if b=true then te σ3 H4 fun y H5=>∃ ys,H5 D=some (.lst ys)/\ys.length<sizeLine/\∃ m',m'<m/\CW xs.length D Pv (i+1) m' (upd H5 D (.lst (ys++[y]))) else ∃ m',m'<m/\CW xs.length D Pv (i+1) m' H4)
  (hd:∀ ys H2,H2 D=some (.lst ys)->Pv xs.length ys H2->Q (.ref D) H2):
  compW (Itl K a) D st g tif te Q H1:=by
 refine⟨CW xs.length D Pv,⟨xs.length,by simp,Y7 _,[],upd_same,Yd _,h0⟩,?_⟩
 rintro i m H2 ⟨hm,hi,ys,hy,hlen,p⟩;have q:=hl i ys H2 hy p;by_cases hlt:i<xs.length
 ·refine .inr ⟨⟨xs,xs[i],q,by simp[hlt]⟩,fun x H' y=>?_⟩
  obtain⟨e,y⟩:=y;subst e;exact hs i m x ys _ hm hlt (y xs q) hy hlen p
 ·have e:i=xs.length:=by omega
  subst e;exact .inl ⟨⟨xs,q,Yd _⟩,hd ys H2 hy p⟩
theorem comp_range {lo:Int}{n:Nat}{D:Addr}{st:St}{g:TG}{tif:TT}{te:TE}{H1:Hp}{Q:VK}(Pv:Nat->List V->Hp->Prop)(h0:Pv 0 [] (upd H1 D (.lst [])))
  (hs:∀ i m ys H2,m=n - i->i<n->H2 D=some (.lst ys)->ys.length<=i->Pv i ys H2->g (.int (lo+i)) st H2 fun σ3 H3=>tif σ3 H3 fun b H4=>
   if b=true then te σ3 H4 fun y H5=>∃ ys,H5 D=some (.lst ys)/\ys.length<sizeLine/\∃ m',m'<m/\CW n D Pv (i+1) m' (upd H5 D (.lst (ys++[y]))) else ∃ m',m'<m/\CW n D Pv (i+1) m' H4)
  (hd:∀ ys H2,H2 D=some (.lst ys)->Pv n ys H2->Q (.ref D) H2):
  compW (Itr lo n) D st g tif te Q H1:=by
 refine⟨CW n D Pv,⟨n,by simp,Y7 _,[],upd_same,Yd _,h0⟩,?_⟩
 rintro i m H2 ⟨hm,hi,ys,hy,hlen,p⟩;by_cases hlt:i<n
 ·refine .inr ⟨hlt,fun x H' y=>?_⟩
  obtain⟨e,y⟩:=y;subst e y;exact hs i m ys _ hm hlt hy hlen p
 ·have e:i=n:=by omega
  subst e;exact .inl ⟨Yd _,hd ys H2 hy p⟩
end L2
namespace L2
open PySem PySem.Spec PyProof.Rows
structure IsVal (p n:Int)(v:Nat):Prop where
 dv:p ^ v ∣ n
 no:¬ p ^ (v+1) ∣ n
theorem pow_ne_zero' {p:Int}(hp:p≠0):∀ v:Nat,p ^ v≠0
 | 0=>by rw[Y9];decide
 | v+1=>by rw[Y5];exact Int.mul_ne_zero (pow_ne_zero' hp v) hp
theorem pow_dvd_pow' (p:Int){v w:Nat}(h:v<=w):p ^ v ∣ p ^ w:=by
 obtain⟨k,rfl⟩:=Nat.exists_eq_add_of_le h;exact⟨p ^ k,Wt p v k⟩
theorem IsVal.uniq {p n:Int}{v w:Nat}(a:IsVal p n v)(b:IsVal p n w):v=w:=by
 rcases Nat.lt_trichotomy v w with h | h | h
 ·exact W1 (Int.dvd_trans (pow_dvd_pow' p h) b.dv) a.no
 ·exact h
 ·exact W1 (Int.dvd_trans (pow_dvd_pow' p h) a.dv) b.no
theorem IsVal.of {p n m:Int}{v:Nat}(hp:p≠0)(h:n=p ^ v*m)(hm:¬ p ∣ m):IsVal p n v:=by
 refine⟨⟨m,h⟩,fun ⟨k,hk⟩=>hm ?_⟩
 rw[h,Y5,Wc] at hk;exact⟨k,Zk (pow_ne_zero' hp v) hk⟩
theorem IsVal.fac {p n:Int}{v:Nat}(h:IsVal p n v):∃ m,n=p ^ v*m/\¬ p ∣ m:=by
 obtain⟨m,e⟩:=h.dv;refine⟨m,e,fun ⟨k,hk⟩=>h.no ⟨k,?_⟩⟩
 rw[e,hk,Y5,Wc]
theorem exists_val {p:Int}(hp:2<=p){n:Int}(hn:n≠0):∃ v,IsVal p n v:=by
  have go:∀ (k:Nat) (n:Int),n≠0->n.natAbs<=k->∃ v,IsVal p n v:=by
    intro k;induction k with
    | zero=>intro n h0 h1;exact W1 (by omega) h0
    | succ k ih=>
      intro n h0 h1;by_cases hd:p ∣ n
      . obtain⟨m,rfl⟩:=hd
        have hm:m≠0:=fun z=>h0 (by rw[z];simp)
        have hlt:m.natAbs<(p*m).natAbs:=by
          rw[Zf];have h2:2<=p.natAbs:=by omega
          have h3:0<m.natAbs:=by omega
          calc m.natAbs<2*m.natAbs:=by omega
            _<=p.natAbs*m.natAbs:=Y1 _ h2
        obtain⟨v,hv⟩:=ih m hm (by omega)
        obtain⟨c,ec,hc⟩:=hv.fac;exact⟨v+1,IsVal.of (by omega) (m:=c) (by rw[ec,Y5];ac_rfl) hc⟩
      . exact⟨0,IsVal.of (by omega) (m:=n) (by simp) hd⟩
  exact go n.natAbs n hn (Yd _)
theorem fmod_dvd {x y:Int}(hy:0<y):x.fmod y=0↔y ∣ x:=by
 rw[Y3 x (Int.le_of_lt hy)];exact⟨Int.dvd_of_emod_eq_zero,Int.emod_eq_zero_of_dvd⟩
theorem fdiv_exact {y m:Int}(hy:y≠0):(y*m).fdiv y=m:=Int.mul_fdiv_cancel_left m hy
end L2
namespace L2
theorem Same.free_upd {H H':Hp}{D:PySem.Addr}(g:Same H H')(hD:H D=none)(o:HO):Same H (upd H' D o):=fun b u q=>by rw[upd_ne (ne_of_none q hD)];exact g b u q
theorem iteS {c A B:Prop}[Decidable c](h:¬ c)(hA:A):if (!decide c)=true then A else B:=by
 rw[Wy h];exact iteT hA
end L2
namespace L2
open PySem PySem.Spec PyProof.Rows
def tupInts (o:Obj)(ns:List Int):Bool:=decide (o.cls=.type "tuple") && match o.data with
 | .seq its _=>decide (its.size<=1000) && decide (its.toList.map absV=ns.map fun n=>some (V.int n))
 | _=>false
theorem vals_of_abs:∀ {us:List Value} {ns:List Int},us.map absV=ns.map (fun n=>some (V.int n))->Vals (ns.map V.int) us
 | [],[],_=>.nil
 | [],_::_,h=>by simp at h
 | _::_,[],h=>by simp at h
 | u::us,n::ns,h=>by
  simp only[List.map_cons,List.cons.injEq] at h
  refine .cons ?_ (vals_of_abs h.2)
  have e:=h.1;cases u <;> simp[absV] at e
  subst e;exact⟨_,rfl⟩
theorem tupInts_ok {K:FrQ}{H:Hp}{a:Addr}{o:Obj}{ns:List Int}(h:K.lookup a=some o)(t:tupInts o ns=true):SqT K H a (ns.map V.int):=by
 unfold tupInts at t;rw[Bool.and_eq_true] at t;obtain⟨t1,t2⟩:=t;have hc:=Wx t1;cases hd:o.data with
 | seq its n=>
  rw[hd] at t2;rw[Bool.and_eq_true] at t2;have h1:=Wx t2.1;have h2:=Wx t2.2;exact .inr ⟨o,its,n,h,hc,hd,Ys h1 (by decide),vals_of_abs h2⟩
 | _=>rw[hd] at t2;exact W1 t2 Bool.false_ne_true
end L2
namespace L2
open PySem PySem.Spec PyProof.Rows
inductive Fl:Nat->PyData->Prop where
 | non {n:Nat}:Fl n .none
 | int {n:Nat} (i:Int):Fl n (.int i)
 | lst {n:Nat} {ds:List PyData}:(∀ d∈ds,Fl n d)->Fl (n+1) (.list ds)
 | tup {n:Nat} {ds:List PyData}:(∀ d∈ds,Fl n d)->Fl (n+1) (.tuple ds)
theorem canLayAll_of:∀ {ds:List PyData},(∀ d∈ds,PyData.canLay0 d=true)->PyData.canLayAll0 ds=true
 | [],_=>by simp[PyData.canLayAll0]
 | d::ds,h=>by
  simp only[PyData.canLayAll0,Bool.and_eq_true]
  exact⟨h d Y4,canLayAll_of fun e he=>h e (Yy _ he)⟩
theorem depthAll_of {n:Nat}:∀ {ds:List PyData},(∀ d∈ds,PyData.depth d<=n)->PyData.depthAll ds<=n
 | [],_=>by simp[PyData.depthAll]
 | d::ds,h=>by
  simp only[PyData.depthAll]
  exact Nat.max_le.mpr ⟨h d Y4,depthAll_of fun e he=>h e (Yy _ he)⟩
theorem Fl.both {n:Nat}{d:PyData}(h:Fl n d):PyData.canLay0 d=true/\PyData.depth d<=n:=by
 induction h with
 | non=>exact⟨by simp[PyData.canLay0],by simp[PyData.depth]⟩
 | int i=>exact⟨by simp[PyData.canLay0],by simp[PyData.depth]⟩
 | lst _ ih=>exact⟨by simp only[PyData.canLay0];exact canLayAll_of fun d hd=>(ih d hd).1,by simp only[PyData.depth];exact Nat.succ_le_succ (depthAll_of fun d hd=>(ih d hd).2)⟩
 | tup _ ih=>exact⟨by simp only[PyData.canLay0];exact canLayAll_of fun d hd=>(ih d hd).1,by simp only[PyData.depth];exact Nat.succ_le_succ (depthAll_of fun d hd=>(ih d hd).2)⟩
theorem Fl.shaped {n:Nat}{d:PyData}(h:Fl n d)(hn:n<=64):SeqAt.shaped d=true:=by
 unfold SeqAt.shaped;rw[Bool.and_eq_true];exact⟨h.both.1,Ww (Ys h.both.2 hn)⟩
theorem Fl.self {n:Nat}{d:PyData}(h:Fl n d):PyData.eqv d d=true:=SeqAt.eqv_refl d h.both.1
mutual
theorem eqv_eq:∀ {n m:Nat} {d e:PyData},Fl n d->Fl m e->PyData.eqv d e=true->d=e
 | _,_,_,_,.non,.non,_=>rfl
 | _,_,_,_,.non,.int _,h=>by simp[PyData.eqv] at h
 | _,_,_,_,.non,.lst _,h=>by simp[PyData.eqv] at h
 | _,_,_,_,.non,.tup _,h=>by simp[PyData.eqv] at h
 | _,_,_,_,.int _,.non,h=>by simp[PyData.eqv] at h
 | _,_,_,_,.int i,.int j,h=>by
  simp only[PyData.eqv,beq_iff_eq] at h
  rw[h]
 | _,_,_,_,.int _,.lst _,h=>by simp[PyData.eqv] at h
 | _,_,_,_,.int _,.tup _,h=>by simp[PyData.eqv] at h
 | _,_,_,_,.lst _,.non,h=>by simp[PyData.eqv] at h
 | _,_,_,_,.lst _,.int _,h=>by simp[PyData.eqv] at h
 | _,_,.list ds,.list es,.lst a,.lst b,h=>by
  simp only[PyData.eqv] at h
  rw[eqvAll_eq a b h]
 | _,_,_,_,.lst _,.tup _,h=>by simp[PyData.eqv] at h
 | _,_,_,_,.tup _,.non,h=>by simp[PyData.eqv] at h
 | _,_,_,_,.tup _,.int _,h=>by simp[PyData.eqv] at h
 | _,_,_,_,.tup _,.lst _,h=>by simp[PyData.eqv] at h
 | _,_,.tuple ds,.tuple es,.tup a,.tup b,h=>by
  simp only[PyData.eqv] at h
  rw[eqvAll_eq a b h]
theorem eqvAll_eq:∀ {n m:Nat} {ds es:List PyData},(∀ d∈ds,Fl n d)->(∀ d∈es,Fl m d)->PyData.eqvAll ds es=true->ds=es
 | _,_,[],[],_,_,_=>rfl
 | _,_,[],_::_,_,_,h=>by simp[PyData.eqvAll] at h
 | _,_,_::_,[],_,_,h=>by simp[PyData.eqvAll] at h
 | _,_,d::ds,e::es,a,b,h=>by
  simp only[PyData.eqvAll,Bool.and_eq_true] at h
  rw[eqv_eq (a d Y4) (b e Y4) h.1,eqvAll_eq (fun x hx=>a x (Yy _ hx)) (fun x hx=>b x (Yy _ hx)) h.2]
end
noncomputable instance:DecidableEq PyData:=fun a b=>Classical.propDecidable _
theorem eqv_dec {n m:Nat}{d e:PyData}(a:Fl n d)(b:Fl m e):PyData.eqv d e=decide (d=e):=by
 cases h:PyData.eqv d e with
 | true=>exact (Ww (eqv_eq a b h)).symm
 | false=>
  refine (Wy fun z=>?_).symm
  subst z;rw[a.self] at h;cases h
abbrev dI (ns:List Int):PyData:=.list (ns.map .int)
theorem fl_ints (ns:List Int):Fl 1 (dI ns):=.lst fun d hd=>by
 obtain⟨i,_,rfl⟩:=List.mem_map.mp hd;exact .int i
theorem dI_inj {a b:List Int}(h:dI a=dI b):a=b:=by
 have h':a.map PyData.int=b.map PyData.int:=PyData.list.inj h;induction a generalizing b with
 | nil=>
  cases b with
  | nil=>rfl
  | cons _ _=>simp at h'
 | cons x a ih=>
  cases b with
  | nil=>simp at h'
  | cons y b=>
   simp only[List.map_cons,List.cons.injEq,PyData.int.injEq] at h'
   rw[h'.1,ih (Wz PyData.list h'.2) h'.2]
theorem eqv_ints (a b:List Int):PyData.eqv (dI a) (dI b)=decide (a=b):=by
 rw[eqv_dec (fl_ints a) (fl_ints b)];by_cases h:a=b
 ·rw[Ww h,Ww (Wz dI h)]
 ·rw[Wy h,Wy fun z=>h (dI_inj z)]
theorem eqL {K:FrQ}{H:Hp}{a b:Addr}{xs ys:List Int}{Q:VK}(ha:SqL K H a (xs.map V.int))(hb:SqL K H b (ys.map V.int))(q:Q (.bl (decide (xs=ys))) H):rEqD K false (.ref a) (.ref b) H Q:=
 ⟨dI xs,dI ys,den_lst ha (scalDs_ints _),den_lst hb (scalDs_ints _),(fl_ints _).shaped (by decide),(fl_ints _).shaped (by decide),by
  show Q (.bl (PyData.eqv (dI xs) (dI ys))) H
  rw[eqv_ints];exact q⟩
theorem neL {K:FrQ}{H:Hp}{a b:Addr}{xs ys:List Int}{Q:VK}(ha:SqL K H a (xs.map V.int))(hb:SqL K H b (ys.map V.int))(q:Q (.bl (!decide (xs=ys))) H):rEqD K true (.ref a) (.ref b) H Q:=
 ⟨dI xs,dI ys,den_lst ha (scalDs_ints _),den_lst hb (scalDs_ints _),(fl_ints _).shaped (by decide),(fl_ints _).shaped (by decide),by
  show Q (.bl (!PyData.eqv (dI xs) (dI ys))) H
  rw[eqv_ints];exact q⟩
end L2
namespace L2
open PySem PySem.Spec PyProof.Rows
section
variable {X:Cx} {pins:List (Addr×Obj)} {σ:St} {H:Hp} {s:Shared} {h':Heap}
theorem Inv.turnedL {t':Nat}{ch:List Addr}(I:Inv X pins σ H s)(k:∀ b u,b ∉ ch->s.heap.get? b=some u->h'.get? b=some u)(hf:∀ b∈ch,FpOk X pins H b):Inv X pins σ H { s with heap:=h',toks:=t' }:=by
 have nit:∀ b u,H b=some u->b ∉ ch:=fun b u e z=>by rw[(hf b z).1] at e;cases e
 refine I.step (g':=s.gens) (d':=s.drawn) (ch:=ch) (fun b hb=>⟨(hf b hb).2.2.2.1,(hf b hb).2.1,(hf b hb).2.2.2.2.1,(hf b hb).2.2.2.2.2⟩) (fun b o _ _ hc e _=>k b o hc e) (fun b o _ _ hc e _=>⟨o.slots,k b o hc e⟩) (fun _ _ _ _ n=>n)
  (fun b o hc e=>⟨o,k b o hc e⟩) (fun _ _ e=>e) (fun _ _ _ e=>e) (fun b ps e=>⟨#[],by rw[e];simp⟩) (fun m hm=>?_) (fun b u e=>?_) I.bare
 ·obtain⟨o,es,ep,ho,r⟩:=hm
  exact⟨o,es,ep,k _ o (fun z=>(hf _ z).2.1 rfl) ho,r⟩
 ·refine (I.hok b u e).stay (fun c v hc q=>k c v ?_ q) (fun _ q=>q) fun _ _ q=>q
  rcases hc with z | z
  ·rw[z];exact nit b u e
  ·exact nit c _ z
theorem Inv.turnedNew {t':Nat}{ch:List Addr}{a:Addr}{o:HO}(I:Inv X pins σ H s)(k:∀ b u,b ∉ ch->s.heap.get? b=some u->h'.get? b=some u)(hf:∀ b∈ch,FpOk X pins H b)(ha:s.heap.objs.size<=a)(new:ObjOk X.prog X.w (upd H a o) h' a o):
  Inv X pins σ (upd H a o) { s with heap:=h',toks:=t' }:=by
 have hn:H a=none:=I.hok.fresh ha;have nit:∀ b u,H b=some u->b ∉ ch:=fun b u e z=>by rw[(hf b z).1] at e;cases e
 have nea:∀ b u,s.heap.get? b=some u->b≠a:=fun b u e=>Ym (Yh (Yi e) ha)
 refine I.step (g':=s.gens) (d':=s.drawn) (ch:=ch) (fun b hb=>⟨(hf b hb).2.2.2.1,(hf b hb).2.1,(hf b hb).2.2.2.2.1,(hf b hb).2.2.2.2.2⟩) (fun b o _ _ hc e _=>k b o hc e) (fun b o _ _ hc e _=>⟨o.slots,k b o hc e⟩) (fun b u _ e n=>by rw[upd_ne (nea b u e)];exact n)
  (fun b o hc e=>⟨o,k b o hc e⟩) (fun b xs e=>by rw[upd_ne (ne_of_none e hn)];exact e) (fun b u xs e=>by rw[upd_ne (ne_of_none e hn)];exact e) (fun b ps e=>⟨#[],by rw[upd_ne (ne_of_none e hn),e];simp⟩) (fun m hm=>?_) (fun b u e=>?_) I.bare
 ·obtain⟨o,es,ep,ho,r⟩:=hm
  exact⟨o,es,ep,k _ o (fun z=>(hf _ z).2.1 rfl) ho,r⟩
 ·by_cases hb:b=a
  ·subst hb
   rw[upd_same] at e;cases e;exact new
  ·rw[upd_ne hb] at e
   refine (I.hok b u e).stay (fun c v hc q=>k c v ?_ q) (fun c q=>by rw[upd_ne (ne_of_none q hn)];exact q) fun c xs q=>by rw[upd_ne (ne_of_none q hn)];exact q
   rcases hc with z | z
   ·rw[z];exact nit b u e
   ·exact nit c _ z
end
def Ite (K:FrQ)(a:Addr)(st:Nat):It:=
 ⟨fun i H=>∃ xs x,SqL K H a xs/\xs[i]?=some x,fun i H v H'=>∃ r x,v=.ref r/\H r=none/\(∀ xs,SqL K H a xs->xs[i]?=some x)/\H'=upd H r (.tup [.int ((st+i:Nat):Int),x]),fun i H=>∃ xs,SqL K H a xs/\xs.length<=i⟩
theorem draws_from {prog:Program}{w:World}{A:Around}(hh:A.handled=none)(it l:Addr)(hne:l≠it)(items:Array Value)(st:Nat):
  Draws prog w A it [it,l] (st+items.size) (fun i v=>items[i - st]?=some v) (fun i h=>st<=i/\h.IsListIter it l (i - st)/\h.IsList l items) where
 live:=fun _ _ x=>let ⟨o,ho,_⟩:=x.2.1;⟨o,ho⟩
 frame:=fun _ _ _ x hk=>⟨x.1,x.2.1.at fun o e=>hk it (by simp) o e,x.2.2.at fun o e=>hk l (by simp) o e⟩
 item:=fun i s Q E hi x hQ=>by
  have hlt:i - st<items.size:=by have:=x.1;omega
  refine wpAny_nextOf_list_item x.2.1 x.2.2 (x:=items[i - st]) (by simp[hlt]) fun h' hit' hs'=>?_
  have e:i - st+1=i+1 - st:=by have:=x.1;omega
  rw[e] at hit';exact hQ _ h' s.toks (by simp[hlt]) ⟨Nat.le_succ_of_le x.1,hit',x.2.2.extBut hs'.extBut hne⟩ hs'
 done:=fun s Q E x hE=>wpAny_nextOf_list_end hh x.2.1 x.2.2 (by simp) hE
theorem turn_enum {P:Program}{w:World}{K:FrQ}{elts:List Expr}{k:Nat}{pos:Pos}(a e it:Addr)(hei:e≠it)(hae:a≠e)(hai:a≠it)(st:Nat):
  Turn P w K (.Tuple elts k pos) (Ite K a st) [e,it] e (fun i h=>(∃ old,IsEnum h e it ((st+i:Nat):Int) old)/\h.IsListIter it a i) where
 mem:=by simp
 obj:=fun i h x b hb=>by
  obtain⟨⟨old,he⟩,o,ho,c,d⟩:=x;rcases List.mem_cons.mp hb with rfl | hb
  ·exact⟨_,he,fun v z=>by
    have z':Data.fields _=Data.cell v:=z;cases z'⟩
  ·have e':b=it:=by simpa using hb
   subst e';exact⟨o,ho,fun v z=>by rw[d] at z;cases z⟩
 keep:=fun i h h' x kk=>⟨let ⟨old,he⟩:=x.1;⟨old,kk e (by simp) _ he⟩,x.2.at fun o ho=>kk it (by simp) o ho⟩
 item:=by
  intro X hP hw hK hc i pins s σ H E I hf x hg;subst hP hw hK;obtain⟨xs,v,hq,hx⟩:=hg;obtain⟨its,rv,p,hz⟩:=I.list hq;obtain⟨u,hu,ru⟩:=rv.get hx;obtain⟨⟨old,he⟩,hit⟩:=x;have hi:i<its.length:=(List.getElem?_eq_some_iff.mp hu).1;have D:=draws_from (prog:=X.prog) (w:=X.w) (A:=X.A.in1) (I.ok.hd hc) it a hai its.toArray st;have hn0:H s.heap.objs.size=none:=I.fresh;have helt:e<s.heap.objs.size:=Yi he;have hilt:it<s.heap.objs.size:=by obtain⟨_,y,_⟩:=id hit;exact Yi y
  refine wpAny_pyNext_enum_itemD (i:=st+i) D he ⟨Z8 _ _,by rw[Z1];exact hit,p.isList⟩ (by simp;omega) hei (by simp[hei,Ne.symm hae]) fun y h1 tk hy ho st1 hT hsz hk=>?_
  rw[Z1] at hy;have ey:y=u:=by
   have:its[i]?=some y:=by simpa using hy
   rw[hu] at this;exact (Option.some.inj this).symm
  subst ey;refine⟨_,rfl,wpAny_letOwnedTupleGo_enum ho fun h2 he2 hs2=>?_⟩
  have hT2:h2.get? s.heap.objs.size=some { cls:=.type "tuple",data:=.seq #[.int ((st+i:Nat):Int) tk,y] }:=(hs2.2 _ (Nat.ne_of_gt helt)).trans hT;have I2:Inv X pins σ (upd H s.heap.objs.size (.tup [.int ((st+i:Nat):Int),v])) { s with heap:=h2,toks:=tk+1 }:=
   I.turnedNew (ch:=[e,it]) (fun b u hb q=>(hs2.2 b fun z=>hb (by simp[z])).trans (hk b u (fun z=>hb (by simp[z])) (fun z=>hb (by simp[z])) q)) hf (Yd _)
    ⟨by show 2<=sizeLine;rw[sizeLine_eq];omega,[.int ((st+i:Nat):Int) tk,y],.cons ⟨_,rfl⟩ (.cons ru .nil),_,hT2,rfl,0,rfl⟩
  refine⟨.ref s.heap.objs.size,_,I2,rfl,⟨_,v,rfl,hn0,fun ys hy=>by rw[I.list_inj hy hq];exact hx,rfl⟩,⟨⟨y,?_⟩,?_⟩,fun b hb=>?_⟩
  ·have e1:((st+i:Nat):Int)+1=((st+(i+1):Nat):Int):=by omega
   rw[<- e1];exact he2
  ·have hl1:=st1.2.1
   have e2:st+i+1 - st=i+1:=by omega
   rw[e2] at hl1;exact hl1.at fun o q=>(hs2.2 it hei.symm).trans q
  ·rw[upd_ne ?_]
   ·exact (hf b hb).1
   ·rcases List.mem_cons.mp hb with rfl | hb
    ·exact Ym helt
    ·have:b=it:=by simpa using hb
     subst this;exact Ym hilt
 done:=by
  intro X hP hw hK hc i pins s σ H E I hf x hg;subst hP hw hK;obtain⟨xs,hq,hx⟩:=hg;obtain⟨its,rv,p,hz⟩:=I.list hq;obtain⟨⟨old,he⟩,hit⟩:=x;have hl:=rv.length;have hT:s.TypeIs (.ref e) "enumerate":=⟨_,he,rfl⟩;unfold pyNext;refine wpAny_bind (wpAny_attempt (wpAny_callSpecial?_slot (name:=Str.ofString "__next__") hT PySem.F.slot_enumerate_next (wpAny_call_entry PySem.F.slot_enumerate_next hT PySem.F.entry_enumerate_next ?_ (PySem.F.args_enumerate_next_1 _))))
  show wpAny _ _ (field (.ref e) 2 >>= _) _ _ _
  refine wpAny_bind (wpAny_field he rfl (x:=.ref it) rfl ?_)
  refine wpAny_bind (wpAny_nextOf_list_end (I.ok.hd hc) hit p.isList (by simp;omega) fun h' x he' hx'=>?_)
  obtain⟨o,ho,hc'⟩:=hx';refine wpAny_bind (wpAny_isInstance (T:="StopIteration") (b:=true) ⟨o,ho,hc'⟩ isSubtype_stop ?_)
  exact wpAny_pure ⟨rfl,I.turnedL (t':=s.toks) (ch:=[e,it]) (fun b u hb q=>he' b u (fun z=>hb (by simp[z])) q) hf⟩
 self:=fun _ _ _ _ _ x h=>let ⟨_,he⟩:=x.1;wpAny_pyIter_enum he h
section
variable {X:Cx} {elts:List Expr} {k:Nat} {tpos:Pos}
def iEnum (K:FrQ)(ta:TA):TI:=fun σ H R=>ta σ H fun vs H1=>∃ a,vs=[.ref a]/\(∃ xs,SqL K H1 a xs)/\R (Ite K a 0) H1
theorem pi_enum {l:Expr}{ta:TA}{p pos:Pos}(hg:Gl X "enumerate")(hm:X.mg "enumerate"=none)(ha:PA X [l] ta)(hs:starEach [l] X.env=[(false,eval l X.env)]:=by rfl):
  PI X (.Tuple elts k tpos) (.Call (.Name "enumerate" p) [l] [] pos) (iEnum X.K ta):=by
 intro pins s σ H R I h;refine Call_ (ld_blt I hg hm boot_enumerate (PyProof.Rows.callWith_type1 (thn (ha pos pins s σ H _ I h) fun us s1 ⟨vs,H1,I1,r1,q1⟩=>?_) hs rfl))
 obtain⟨a,e,⟨xs,hq⟩,q⟩:=q1;subst e;obtain⟨u,rfl,ru⟩:=vals1 r1;cases (show u=Value.ref a from ru)
 obtain⟨its,rv,pl,hz⟩:=I1.list hq;have hlt:a<s1.heap.objs.size:=by obtain⟨_,y,_⟩:=pl.isList;exact Yi y
 refine call_enumerate_list pl.isList fun h' he hit hsz hk=>?_
 refine wpAny_pyIter_enum he ?_
 have I2:Inv X pins σ H1 { s1 with heap:=h' }:=I1.kept (t':=s1.toks) hk
 refine⟨_,[s1.heap.objs.size+1,s1.heap.objs.size],_,_,H1,rfl,I2,turn_enum a (s1.heap.objs.size+1) s1.heap.objs.size (Nat.succ_ne_self _) (Ym (Nat.lt_succ_of_lt hlt)) (Ym hlt) 0,⟨⟨_,he⟩,hit⟩,fun b hb=>?_,q⟩
 rcases List.mem_cons.mp hb with rfl | hb
 ·exact I1.fpOk (Ws _) (I1.hok.fresh (Ws _))
 ·have:b=s1.heap.objs.size:=by simpa using hb
  subst this;exact I1.fpOk (Yd _) (I1.hok.fresh (Yd _))
theorem piK_enum {K:FrQ}{l:Expr}{ta:TA}{p pos:Pos}(hK:X.K=K)(hg:Gl X "enumerate")(hm:X.mg "enumerate"=none)(ha:PA X [l] ta)(hs:starEach [l] X.env=[(false,eval l X.env)]:=by rfl):
  PI X (.Tuple elts k tpos) (.Call (.Name "enumerate" p) [l] [] pos) (iEnum K ta):=by subst hK;exact pi_enum hg hm ha hs
end
theorem for_enum {K:FrQ}{a:Addr}{st:Nat}{xs:List V}{g:TG}{tb:TS}{D:Ends}{σ:St}{H:Hp}(Pv:Nat->St->Hp->Prop)(h0:Pv 0 σ H)(hl:∀ i σ H,i<=xs.length->Pv i σ H->SqL K H a xs)
  (hs:∀ i x σ H r,xs[i]?=some x->Pv i σ H->H r=none->g (.ref r) σ (upd H r (.tup [.int ((st+i:Nat):Int),x])) fun σ2 H2=>tb { D with nx:=Pv (i+1),ct:=Pv (i+1),bk:=D.nx } σ2 H2) (hd:∀ σ H,Pv xs.length σ H->D.nx σ H):
  ∃ W:Nat->Nat->St->Hp->Prop,(∃ m,W 0 m σ H)/\∀ i m σ H,W i m σ H->
   ((Ite K a st).stop i H/\D.nx σ H)\/((Ite K a st).go i H/\∃ N:St->Hp->Prop,(∀ σ' H',N σ' H'->∃ m',m'<m/\W (i+1) m' σ' H')/\∀ x H',(Ite K a st).yld i H x H'->g x σ H' fun σ2 H2=>tb { D with nx:=N,ct:=N,bk:=D.nx } σ2 H2):=by
 refine⟨fun i m σ H=>m=xs.length - i/\i<=xs.length/\Pv i σ H,⟨xs.length,by simp,Y7 _,h0⟩,?_⟩
 rintro i m σ H ⟨rfl,hi,p⟩;have q:=hl i σ H hi p;by_cases hlt:i<xs.length
 ·refine .inr ⟨⟨xs,xs[i],q,by simp[hlt]⟩,Pv (i+1),fun σ' H' p'=>⟨xs.length - (i+1),by omega,rfl,hlt,p'⟩,fun v H' y=>?_⟩
  obtain⟨r,x,e1,hr,hx,e2⟩:=y;subst e1 e2;exact hs i x σ _ r (hx xs q) p hr
 ·have e:i=xs.length:=by omega
  subst e;exact .inl ⟨⟨xs,q,Yd _⟩,hd σ H p⟩
theorem comp_enum {K:FrQ}{a D:Addr}{st0:Nat}{xs:List V}{st:St}{g:TG}{tif:TT}{te:TE}{H1:Hp}{Q:VK}(Pv:Nat->List V->Hp->Prop)(h0:Pv 0 [] (upd H1 D (.lst [])))
  (hl:∀ i ys H2,H2 D=some (.lst ys)->Pv i ys H2->SqL K H2 a xs)
  (hs:∀ i m x ys H2 r,m=xs.length - i->i<xs.length->xs[i]?=some x->H2 D=some (.lst ys)->ys.length<=i->Pv i ys H2->H2 r=none->g (.ref r) st (upd H2 r (.tup [.int ((st0+i:Nat):Int),x])) fun σ3 H3=>tif σ3 H3 fun b H4=>
   if b=true then te σ3 H4 fun y H5=>∃ ys,H5 D=some (.lst ys)/\ys.length<sizeLine/\∃ m',m'<m/\CW xs.length D Pv (i+1) m' (upd H5 D (.lst (ys++[y]))) else ∃ m',m'<m/\CW xs.length D Pv (i+1) m' H4)
  (hd:∀ ys H2,H2 D=some (.lst ys)->Pv xs.length ys H2->Q (.ref D) H2):
  compW (Ite K a st0) D st g tif te Q H1:=by
 refine⟨CW xs.length D Pv,⟨xs.length,by simp,Y7 _,[],upd_same,Yd _,h0⟩,?_⟩
 rintro i m H2 ⟨hm,hi,ys,hy,hlen,p⟩;have q:=hl i ys H2 hy p;by_cases hlt:i<xs.length
 ·refine .inr ⟨⟨xs,xs[i],q,by simp[hlt]⟩,fun v H' y=>?_⟩
  obtain⟨r,x,e1,hr,hx,e2⟩:=y;subst e1 e2;exact hs i m x ys _ r hm hlt (hx xs q) hy hlen p hr
 ·have e:i=xs.length:=by omega
  subst e;exact .inl ⟨⟨xs,q,Yd _⟩,hd ys H2 hy p⟩
def Itd (top:Int)(n:Nat):It:=⟨fun i _=>i<n,fun i H x H'=>H'=H/\x=.int (top - i),fun i _=>n<=i⟩
theorem turn_down {P:Program}{w:World}{K:FrQ}{tg:Expr}(it:Addr)(top:Int)(n:Nat):Turn P w K tg (Itd top n) [it] it (fun i h=>IsRangeIter h it (top+(i:Nat)*(-1)) ((n:Int) - (i:Nat)) (-1)) where
 mem:=by simp
 obj:=fun i h st b hb=>by
  have e:b=it:=by simpa using hb
  subst e;exact⟨_,st,fun v z=>by
   have z':Data.fields _=Data.cell v:=z;cases z'⟩
 keep:=fun i h h' st k=>k it (by simp) _ st
 item:=by
  intro X hP hw hK hc i pins s σ H E I hf st hg;subst hP hw hK;obtain⟨f0,f1,f2,f3,f4,f5⟩:=hf it (by simp)
  have W:=Walks.range (prog:=X.prog) (w:=X.w) (I.ok.hd hc) it top (-1) n;refine W.item i s _ _ hg st fun v h' tk hv st' kk=>?_
  obtain⟨t,rfl⟩:=hv;have I1:Inv X pins σ H { s with heap:=h',toks:=tk }:=I.turned (fun b o hb e=>kk b o (by simpa using hb) e) f0 f1 f3 f4 f5
  refine⟨_,rfl,go_of (s:={ s with heap:=h',toks:=tk }) (n:="range_iterator") st' rfl rfl (by decide) ⟨.int (top - i),H,I1,⟨t,?_⟩,⟨rfl,rfl⟩,st',fun b hb=>(hf b hb).1⟩⟩
  have e:top+(i:Int)*(-1)=top - (i:Int):=by omega
  rw[e]
 done:=by
  intro X hP hw hK hc i pins s σ H E I hf st hg;subst hP hw hK;obtain⟨f0,f1,f2,f3,f4,f5⟩:=hf it (by simp)
  exact wpAny_pyNext_range_end (I.ok.hd hc) st (by have:n<=i:=hg;omega) fun h' eb=>⟨rfl,I.turned (t':=s.toks) (fun b o hb e=>eb b o hb e) f0 f1 f3 f4 f5⟩
 self:=fun _ _ _ _ _ st h=>wpAny_pyIter_rangeiter st h
theorem rsize0 (hi:Int):Builtin.Range.rangeSize 0 hi 1=if 0<hi then hi else 0:=by
 rw[rangeSize_one];by_cases h:0<hi
 ·rw[Wv h,Wv h];omega
 ·rw[Wu h,Wu h]
theorem sub_ri_reversed:isSubtype (.type "range_iterator") (.type "reversed")=pure false:=by rw[isSubtype_type];kernel_rfl
theorem range_rev_meets (r:Addr)(a b c:Int)(t u v:Tok)(hc0:¬ (!(Builtin.Range.rangeFitsLong a && Builtin.Range.rangeFitsLong b && Builtin.Range.rangeFitsLong c && Builtin.Range.rangeFitsLong (-c) && Builtin.Range.rangeFitsLong (a - c) && Builtin.Range.rangeFitsLong (Builtin.Range.rangeSize a b c)))=true):
  Meets (Builtin.«range.__reversed__» ⟨[.ref r],[]⟩) (fun _ R s=>s.heap.get? r=some { cls:=.type "range",dict:=none,data:=.fields #[.int a t,.int b u,.int c v],slots:=#[] }/\
   R (.ok (.ret (Value.ref s.heap.objs.size))) { s with heap:=s.heap.push { cls:=Value.type (if (Builtin.Range.rangeFitsLong a && Builtin.Range.rangeFitsLong b && Builtin.Range.rangeFitsLong c && Builtin.Range.rangeFitsLong (-c) && Builtin.Range.rangeFitsLong (a - c) && Builtin.Range.rangeFitsLong (Builtin.Range.rangeSize a b c))=true then "range_iterator" else "longrange_iterator"),data:=Data.fields #[rawInt (a+(Builtin.Range.rangeSize a b c - 1)*c),rawInt (Builtin.Range.rangeSize a b c),rawInt (-c)] },toks:=s.toks }):=
 .of_wp fun prog w A R s h=>by obtain⟨hp,g,d,tk,os⟩:=s;obtain⟨hl,h⟩:=h;wp_walk;exact⟨_,rfl,h⟩
section
variable {prog:Program} {w:World} {A:Around} {E:Value->Shared->Prop} {s:Shared}
theorem fits62 {x:Int}(h1:-(2 ^ 62) - 2<=x)(h2:x<=2 ^ 62+2):Builtin.Range.rangeFitsLong x=true:=by
 unfold Builtin.Range.rangeFitsLong;simp only[Bool.and_eq_true,decide_eq_true_eq]
 omega
theorem call_range_rev {r:Addr}{hi:Int}{t u v:Tok}{Q:Value->Shared->Prop}(hr:IsRange s.heap r 0 hi 1 t u v)(h3:-(2 ^ 62)<=hi)(h4:hi<2 ^ 62)
  (h:Q (.ref s.heap.objs.size) { s with heap:=s.heap.push { cls:=.type "range_iterator",data:=.fields #[rawInt (0+((if 0<hi then hi else 0) - 1)*1),rawInt (if 0<hi then hi else 0),rawInt (-1)] } }):
  wpAny (model prog w) A (call (.builtin "range.__reversed__") [.ref r]) Q E s:=by
 have hs:(Builtin.Range.rangeFitsLong 0 && Builtin.Range.rangeFitsLong hi && Builtin.Range.rangeFitsLong 1 && Builtin.Range.rangeFitsLong (-1) && Builtin.Range.rangeFitsLong (0 - 1) && Builtin.Range.rangeFitsLong (Builtin.Range.rangeSize 0 hi 1))=true:=by
  rw[rsize0];simp only[Bool.and_eq_true]
  refine⟨⟨⟨⟨⟨fits62 (by decide) (by decide),fits62 (by omega) (by omega)⟩,fits62 (by decide) (by decide)⟩,fits62 (by decide) (by decide)⟩,fits62 (by decide) (by decide)⟩,?_⟩
  split
  ·exact fits62 (by omega) (by omega)
  ·exact fits62 (by decide) (by decide)
 refine call_meets PySem.F.slot_range_reversed ⟨_,hr,rfl⟩ PySem.F.entry_range_reversed (PySem.F.args_range_reversed_1 _) (range_rev_meets r 0 hi 1 t u v (by rw[hs];simp)) ⟨hr,?_⟩
 rw[hs,rsize0];simp only[if_true]
 exact h
theorem code_revrange_new {r:Addr}{hi:Int}{t u v:Tok}{Q1:Value->Shared->Prop}(hr:IsRange s.heap r 0 hi 1 t u v)(h3:-(2 ^ 62)<=hi)(h4:hi<2 ^ 62)
  (h:Q1 (.ref s.heap.objs.size) { s with heap:=s.heap.push { cls:=.type "range_iterator",data:=.fields #[rawInt (0+((if 0<hi then hi else 0) - 1)*1),rawInt (if 0<hi then hi else 0),rawInt (-1)] } }):
  codeAny (model prog w) A (.call (.builtin "reversed.__new__") ⟨[.type "reversed",.ref r],[]⟩) (wants Q1 E) s:=by
 have hT:s.TypeIs (.ref r) "range":=⟨_,hr,rfl⟩;refine codeAny_of_tree ?_
 show wpAny _ A.in1 (do checkBuiltinCall "reversed.__new__" ⟨[.type "reversed",.ref r],[]⟩;again (.builtin "reversed.__new__" ⟨[.type "reversed",.ref r],[]⟩)) _ _ s
 refine wpAny_bind (wpAny_of_eq (PySem.F.newCall_reversed_1 _) (wpAny_pure ⟨plainId_quiet PySem.F.plain_reversed_new _,codeAny_builtin PySem.F.entry_reversed_new ?_⟩))
 rw[Around.under_plainId PySem.F.plain_reversed_new _];unfold Builtin.«reversed.__new__»;refine wpAny_bind (wpAny_of_eq (newClass_reversed _) ?_)
 try dsimp only
 refine wpAny_bind (wpAny_of_eq (a:=()) (by first|rfl|kernel_rfl) ?_)
 refine wpAny_bind (wpAny_of_eq (a:=()) (by first|rfl|kernel_rfl) ?_)
 try dsimp only
 refine wpAny_bind (wpAny_specialOf hT PySem.F.slot_range_reversed.lookup ?_)
 try dsimp only
 refine wpAny_bind (wpAny_of_eq (PySem.F.slot_range_reversed.bind _) ?_)
 try dsimp only
 have nn:¬ ((Value.builtin "range.__reversed__" == Value.none)=true):=Bool.false_ne_true;rw[Wu nn];refine wpAny_bind (wpAny_rule ?_)
 refine wpAny_bind (m:=runValue (.call (.builtin "range.__reversed__") ⟨[.ref r],[]⟩)) (show wpAny _ _ (call (.builtin "range.__reversed__") [.ref r]) _ _ _ from call_range_rev hr h3 h4 ?_)
 first
 | exact wpAny_pure h
 | exact wpAny_bind (wpAny_pure (wpAny_pure h))
theorem call_reversed_range {r:Addr}{hi:Int}{t u v:Tok}{Q:Value->Shared->Prop}(hr:IsRange s.heap r 0 hi 1 t u v)(h3:-(2 ^ 62)<=hi)(h4:hi<2 ^ 62)
  (h:Q (.ref s.heap.objs.size) { s with heap:=s.heap.push { cls:=.type "range_iterator",data:=.fields #[rawInt (0+((if 0<hi then hi else 0) - 1)*1),rawInt (if 0<hi then hi else 0),rawInt (-1)] } }):
  wpAny (model prog w) A (call (.type "reversed") [.ref r]) Q E s:=by
 refine callType_other (U:="range_iterator") (Q₁:=fun obj s₁=>obj=.ref s.heap.objs.size/\s₁={ s with heap:=s.heap.push { cls:=.type "range_iterator",data:=.fields #[rawInt (0+((if 0<hi then hi else 0) - 1)*1),rawInt (if 0<hi then hi else 0),rawInt (-1)] } })
  (by decide +kernel) PySem.F.create_reversed ⟨_,_,PySem.F.mro_reversed⟩ PySem.F.made_reversed sub_ri_reversed (PySem.F.typeCall_reversed_1 _) (code_revrange_new hr h3 h4 ⟨rfl,rfl⟩) ?_
 rintro obj s1 ⟨rfl,rfl⟩;exact⟨⟨_,Yt _ rfl,rfl⟩,h⟩
end
section
variable {X:Cx} {tg:Expr}
def tRng (ta:TA):TE:=fun σ H Q=>ta σ H fun vs H1=>∃ j:Int,vs=[.int j]/\∀ p,H1 p=none->Q (.ref p) (upd H1 p (.rng 0 j))
theorem pe_range {a:Expr}{ta:TA}{p pos:Pos}(hg:Gl X "range")(hm:X.mg "range"=none)(ha:PA X [a] ta)(hs:starEach [a] X.env=[(false,eval a X.env)]:=by rfl):PE X (.Call (.Name "range" p) [a] [] pos) (tRng ta):=by
 refine⟨?_⟩
 intro pins s σ H Q I h;refine Call_ (ld_blt I hg hm boot_range (PyProof.Rows.callWith_type1 (thn (ha pos pins s σ H _ I h) fun us s1 ⟨vs,H1,I1,r1,q1⟩=>?_) hs rfl))
 obtain⟨j,e,q⟩:=q1;subst e;obtain⟨u,rfl,ru⟩:=vals1 r1;obtain⟨t,rfl⟩:=(show ∃ t,u=Value.int j t from ru)
 refine call_range_1 ?_
 exact⟨.ref s1.heap.objs.size,_,I1.laid (o:=.rng 0 j) (fun b o e=>Yf _ e) (Yd _) ⟨_,_,_,Yt _ rfl⟩,rfl,q _ I1.fresh⟩
def iRevR (ta:TA):TI:=fun σ H R=>ta σ H fun vs H1=>∃ a,∃ n:Int,vs=[.ref a]/\H1 a=some (.rng 0 n)/\-(2 ^ 62)<=n/\n<2 ^ 62/\R (Itd (n - 1) n.toNat) H1
theorem pi_revR {l:Expr}{ta:TA}{p pos:Pos}(hg:Gl X "reversed")(hm:X.mg "reversed"=none)(ha:PA X [l] ta)(hs:starEach [l] X.env=[(false,eval l X.env)]:=by rfl):
  PI X tg (.Call (.Name "reversed" p) [l] [] pos) (iRevR ta):=by
 intro pins s σ H R I h;refine Call_ (ld_blt I hg hm boot_reversed (PyProof.Rows.callWith_type1 (thn (ha pos pins s σ H _ I h) fun us s1 ⟨vs,H1,I1,r1,q1⟩=>?_) hs rfl))
 obtain⟨a,n,e,hq,h1,h2,q⟩:=q1;subst e;obtain⟨u,rfl,ru⟩:=vals1 r1;cases (show u=Value.ref a from ru)
 obtain⟨t,u,v,hr⟩:=I1.hok a _ hq;refine call_reversed_range hr h1 h2 ?_
 have en:((n.toNat:Nat):Int)=if 0<n then n else 0:=by split <;> omega
 have hit:IsRangeIter (s1.heap.push { cls:=.type "range_iterator",data:=.fields #[rawInt (0+((if 0<n then n else 0) - 1)*1),rawInt (if 0<n then n else 0),rawInt (-1)] }) s1.heap.objs.size (0+((if 0<n then n else 0) - 1)*1) (if 0<n then n else 0) (-1):=Yt _ rfl
 refine wpAny_pyIter_rangeiter (s:={ s1 with heap:=_ }) hit ?_
 by_cases hn:0<n
 ·rw[Wv hn] at en hit ⊢
  refine⟨_,[s1.heap.objs.size],_,_,H1,rfl,I1.kept (t':=s1.toks) fun b o e=>Yf _ e,turn_down s1.heap.objs.size (n - 1) n.toNat,?_,fun b hb=>?_,q⟩
  ·have e1:n - 1+((0:Nat):Int)*(-1)=0+(n - 1)*1:=by omega
   have e2:((n.toNat:Nat):Int) - ((0:Nat):Int)=n:=by omega
   show IsRangeIter _ _ (n - 1+((0:Nat):Int)*(-1)) (((n.toNat:Nat):Int) - ((0:Nat):Int)) (-1)
   rw[e1,e2];exact hit
  ·have e:b=s1.heap.objs.size:=by simpa using hb
   subst e;exact I1.fpOk (Yd _) (I1.hok.fresh (Yd _))
 ·rw[Wu hn] at en hit ⊢
  have e0:n.toNat=0:=by omega
  rw[e0] at q;have tr:Turn X.prog X.w X.K tg (Itd (n - 1) 0) [s1.heap.objs.size] s1.heap.objs.size (fun i h=>IsRangeIter h s1.heap.objs.size (-1+(i:Nat)*(-1)) (((0:Nat):Int) - (i:Nat)) (-1)):=by
   have T:=turn_down (P:=X.prog) (w:=X.w) (K:=X.K) (tg:=tg) s1.heap.objs.size (-1) 0;exact⟨T.mem,T.obj,T.keep,fun X a b c d i pins s σ H E I hf st hg=>W1 (show i<0 from hg) (Zl _),T.done,T.self⟩
  refine⟨_,[s1.heap.objs.size],_,_,H1,rfl,I1.kept (t':=s1.toks) fun b o e=>Yf _ e,tr,hit,fun b hb=>?_,q⟩
  have e:b=s1.heap.objs.size:=by simpa using hb
  subst e;exact I1.fpOk (Yd _) (I1.hok.fresh (Yd _))
end
theorem for_down {top:Int}{n:Nat}{g:TG}{tb:TS}{D:Ends}{σ:St}{H:Hp}(Pv:Nat->St->Hp->Prop)(h0:Pv 0 σ H)
  (hs:∀ i σ H,i<n->Pv i σ H->g (.int (top - i)) σ H fun σ2 H2=>tb { D with nx:=Pv (i+1),ct:=Pv (i+1),bk:=D.nx } σ2 H2) (hd:∀ σ H,Pv n σ H->D.nx σ H):
  ∃ W:Nat->Nat->St->Hp->Prop,(∃ m,W 0 m σ H)/\∀ i m σ H,W i m σ H->
   ((Itd top n).stop i H/\D.nx σ H)\/((Itd top n).go i H/\∃ N:St->Hp->Prop,(∀ σ' H',N σ' H'->∃ m',m'<m/\W (i+1) m' σ' H')/\∀ x H',(Itd top n).yld i H x H'->g x σ H' fun σ2 H2=>tb { D with nx:=N,ct:=N,bk:=D.nx } σ2 H2):=by
 refine⟨fun i m σ H=>m=n - i/\i<=n/\Pv i σ H,⟨n,by simp,Y7 _,h0⟩,?_⟩
 rintro i m σ H ⟨rfl,hi,p⟩;by_cases hlt:i<n
 ·refine .inr ⟨hlt,Pv (i+1),fun σ' H' p'=>⟨n - (i+1),by omega,rfl,hlt,p'⟩,fun x H' y=>?_⟩
  obtain⟨e,y⟩:=y;subst e y;exact hs i σ _ hlt p
 ·have e:i=n:=by omega
  subst e;exact .inl ⟨Yd _,hd σ H p⟩
def WIn (tb:TS)(D:Ends)(Pv:St->Hp->Prop)(μ:St->Hp->Nat)(m:Nat)(σ:St)(H1:Hp):Prop:=
 ∃ N:St->Hp->Prop,(∀ σ' H',N σ' H'->∃ m',m'<m/\(m'=μ σ' H'/\Pv σ' H'))/\tb { D with nx:=N,ct:=N,bk:=D.nx } σ H1
theorem win {tb:TS}{D:Ends}{Pv:St->Hp->Prop}{μ:St->Hp->Nat}{m:Nat}{σ:St}{H1:Hp}(h:tb { D with nx:=fun σ' H'=>Pv σ' H'/\μ σ' H'<m,ct:=fun σ' H'=>Pv σ' H'/\μ σ' H'<m,bk:=D.nx } σ H1):WIn tb D Pv μ m σ H1:=
 ⟨_,fun σ' H' ⟨p,l⟩=>⟨_,l,rfl,p⟩,h⟩
theorem while_in {c:TT}{tb:TS}{D:Ends}{σ:St}{H:Hp}(Pv:St->Hp->Prop)(μ:St->Hp->Nat)(h0:Pv σ H)
  (hs:∀ σ H,Pv σ H->c σ H fun b H1=>if b=true then WIn tb D Pv μ (μ σ H) σ H1 else D.nx σ H1):tWhile c tb D σ H:=by
 refine⟨fun m σ H=>m=μ σ H/\Pv σ H,⟨_,rfl,h0⟩,?_⟩
 rintro m σ H ⟨rfl,p⟩;exact hs σ H p
theorem merge {C:St->Hp->Prop}{G:Prop}(M:St->Hp->Prop)(h1:(∀ σ H,M σ H->C σ H)->G)(h2:∀ σ H,M σ H->C σ H):G:=h1 h2
end L2
namespace L2
open PySem PySem.Spec PyProof.Rows
def coef (f:List Int)(i:Nat):Int:=f.getD i 0
theorem coef_nil (i:Nat):coef [] i=0:=by simp[coef]
theorem coef_ge {f:List Int}{i:Nat}(h:f.length<=i):coef f i=0:=by
 unfold coef;rw[Yb,Z6 h];rfl
theorem coef_lt {f:List Int}{i:Nat}(h:i<f.length):coef f i=f[i]:=by
 unfold coef;rw[Yb,Yc h];rfl
theorem coef_get {f:List Int}{i:Nat}{x:Int}(h:f[i]?=some x):coef f i=x:=by
 unfold coef;rw[Yb,h];rfl
theorem ext_coef {f g:List Int}(hl:f.length=g.length)(h:∀ i,i<f.length->coef f i=coef g i):f=g:=by
 refine List.ext_getElem hl fun i h1 h2=>?_
 rw[<- coef_lt h1,<- coef_lt h2];exact h i h1
theorem coef_map_range {n:Nat}{c:Nat->Int}{i:Nat}(h:i<n):coef ((Yj n).map c) i=c i:=by
 rw[coef_lt (by simpa using h)]
 simp
theorem coef_map_range' {n:Nat}{c:Nat->Int}(hc:∀ i,n<=i->c i=0)(i:Nat):coef ((Yj n).map c) i=c i:=by
 by_cases h:i<n
 ·exact coef_map_range h
 ·rw[coef_ge (by simp;omega),hc i (by omega)]
theorem coef_set {f:List Int}{k:Nat}{v:Int}(hk:k<f.length)(i:Nat):coef (f.set k v) i=if i=k then v else coef f i:=by
 unfold coef;rw[Yb,List.getElem?_set];by_cases h:k=i
 ·subst h
  simp[hk]
 ·rw[Wu h,Wu (Ne.symm h),Yb]
theorem coef_take {f:List Int}{n i:Nat}(h:i<n):coef (f.take n) i=coef f i:=by
 unfold coef;rw[Yb,List.getElem?_take,Wv h,Yb]
theorem coef_take_ge {f:List Int}{n i:Nat}(h:n<=i):coef (f.take n) i=0:=coef_ge (by rw[Yr];omega)
theorem coef_append {f g:List Int}(i:Nat):coef (f++g) i=if i<f.length then coef f i else coef g (i - f.length):=by
 unfold coef;rw[Yb,List.getElem?_append];split
 ·rw[Yb]
 ·rw[Yb]
theorem coef_replicate (n i:Nat):coef (Yp n 0) i=0:=by
 by_cases h:i<n
 ·rw[coef_lt (by simpa using h)];simp
 ·exact coef_ge (by simp;omega)
def tlen (f:List Int):Nat->Nat
 | 0=>0
 | n+1=>if coef f n=0 then tlen f n else n+1
def trim (f:List Int):List Int:=f.take (tlen f f.length)
def Norm (f:List Int):Prop:=f=[]\/coef f (f.length - 1)≠0
theorem tlen_le (f:List Int):∀ n,tlen f n<=n
 | 0=>Yd _
 | n+1=>by
  unfold tlen;split
  ·exact Nat.le_succ_of_le (tlen_le f n)
  ·exact Yd _
theorem tlen_top (f:List Int):∀ n,tlen f n=0\/coef f (tlen f n - 1)≠0
 | 0=>.inl rfl
 | n+1=>by
  unfold tlen;split
  ·exact tlen_top f n
  ·rename_i h;exact .inr h
theorem tlen_zero (f:List Int):∀ n i,tlen f n<=i->i<n->coef f i=0
 | 0,i,_,h=>W1 h (Zl _)
 | n+1,i,h1,h2=>by
  unfold tlen at h1;split at h1
  ·rename_i h
   by_cases e:i=n
   ·rw[e];exact h
   ·exact tlen_zero f n i h1 (by omega)
  ·omega
theorem trim_length (f:List Int):(trim f).length=tlen f f.length:=by
 unfold trim;rw[Yr,Nat.min_eq_left (tlen_le f _)]
theorem coef_trim (f:List Int)(i:Nat):coef (trim f) i=coef f i:=by
 unfold trim;by_cases h:i<tlen f f.length
 ·exact coef_take h
 ·rw[coef_take_ge (by omega)]
  by_cases h2:i<f.length
  ·exact (tlen_zero f _ i (by omega) h2).symm
  ·exact (coef_ge (by omega)).symm
theorem norm_trim (f:List Int):Norm (trim f):=by
 rcases tlen_top f f.length with h | h
 ·left
  have:(trim f).length=0:=by rw[trim_length];exact h
  exact List.length_eq_zero_iff.mp this
 ·right
  rw[coef_trim,trim_length];exact h
theorem norm_ext {f g:List Int}(hf:Norm f)(hg:Norm g)(h:∀ i,coef f i=coef g i):f=g:=by
 have key:∀ {f g:List Int},Norm f->(∀ i,coef f i=coef g i)->f.length<=g.length:=by
  intro f g hf h;rcases hf with rfl | hf
  ·exact Y7 _
  ·refine Classical.byContradiction fun hn=>hf ?_
   rw[h];exact coef_ge (by omega)
 have hl:f.length=g.length:=Nat.le_antisymm (key hf h) (key hg fun i=>(h i).symm)
 exact ext_coef hl fun i _=>h i
theorem trim_ext {f g:List Int}(h:∀ i,coef f i=coef g i):trim f=trim g:=norm_ext (norm_trim f) (norm_trim g) fun i=>by rw[coef_trim,coef_trim,h]
theorem trim_norm {f:List Int}(h:Norm f):trim f=f:=norm_ext (norm_trim f) h fun i=>coef_trim f i
theorem Norm.last {f:List Int}(h:Norm f)(hne:f≠[]):coef f (f.length - 1)≠0:=by
 rcases h with h | h
 ·exact W1 h hne
 ·exact h
def rowS (f g:List Int):Nat->Nat->Int
 | 0,_=>0
 | i+1,m=>rowS f g i m+(if i<=m then coef f i*coef g (m - i) else 0)
def conv (f g:List Int)(m:Nat):Int:=rowS f g f.length m
def cellS (f g:List Int)(i j m:Nat):Int:=rowS f g i m+(if i<=m/\m - i<j then coef f i*coef g (m - i) else 0)
theorem cellS_zero (f g:List Int)(i m:Nat):cellS f g i 0 m=rowS f g i m:=by
 unfold cellS;rw[Wu (by omega),Int.add_zero]
theorem cellS_end (f g:List Int)(i m:Nat):cellS f g i g.length m=rowS f g (i+1) m:=by
 show _=rowS f g i m+_
 unfold cellS;congr 1
 by_cases h:i<=m
 ·by_cases h2:m - i<g.length
  ·rw[Wv ⟨h,h2⟩,Wv h]
  ·rw[Wu (by omega),Wv h,coef_ge (f:=g) (by omega),Y8]
 ·rw[Wu (by omega),Wu h]
theorem cellS_step (f g:List Int)(i j m:Nat):cellS f g i (j+1) m=if m=i+j then cellS f g i j m+coef f i*coef g j else cellS f g i j m:=by
 unfold cellS;by_cases h:m=i+j
 ·subst h
  have e:i+j - i=j:=by omega
  rw[Wv rfl,Wv ⟨by omega,by omega⟩,Wu (by omega),e]
  omega
 ·rw[Wu h]
  congr 1
  by_cases h1:i<=m/\m - i<j
  ·rw[Wv h1,Wv ⟨h1.1,by omega⟩]
  ·rw[Wu h1,Wu (by omega)]
theorem rowS_beyond (f g:List Int):∀ (i m:Nat),f.length<=i->rowS f g i m=rowS f g f.length m
 | 0,m,h=>by
  have:f.length=0:=by omega
  rw[this]
 | i+1,m,h=>by
  by_cases e:f.length=i+1
  ·rw[e]
  ·show rowS f g i m+_=_
   rw[rowS_beyond f g i m (by omega),coef_ge (f:=f) (i:=i) (by omega)]
   simp
theorem rowS_zero (f g:List Int):∀ (i m:Nat),(∀ a,a<i->a<=m->coef f a*coef g (m - a)=0)->rowS f g i m=0
 | 0,m,_=>rfl
 | i+1,m,h=>by
  show rowS f g i m+_=0
  rw[rowS_zero f g i m fun a h1 h2=>h a (by omega) h2]
  by_cases hi:i<=m
  ·rw[Wv hi,h i (by omega) hi];rfl
  ·rw[Wu hi];rfl
theorem conv_beyond (f g:List Int)(m:Nat)(h:f.length+g.length<=m+1):conv f g m=0:=
 rowS_zero f g f.length m fun a h1 h2=>by rw[coef_ge (f:=g) (by omega),Y8]
def pmul (f g:List Int):List Int:=if f=[]\/g=[] then [] else (Yj (f.length+g.length - 1)).map (conv f g)
theorem coef_pmul (f g:List Int)(m:Nat):coef (pmul f g) m=conv f g m:=by
 unfold pmul;by_cases h:f=[]\/g=[]
 ·rw[Wv h,coef_nil]
  rcases h with rfl | rfl
  ·rfl
  ·exact (rowS_zero f [] f.length m fun a _ _=>by rw[coef_nil,Y8]).symm
 ·rw[Wu h]
  refine coef_map_range' (fun i hi=>conv_beyond f g i ?_) m
  have:0<f.length:=List.length_pos_iff.mpr fun z=>h (.inl z)
  omega
def Bds (m:Nat)(f:List Int):Prop:=∀ x∈f,Bd m x
theorem Bds.coef {m:Nat}{f:List Int}(h:Bds m f)(i:Nat):Bd m (coef f i):=by
 by_cases hi:i<f.length
 ·rw[coef_lt hi];exact h _ (Yw hi)
 ·rw[coef_ge (by omega)]
  show Wk 0<2 ^ m
  exact Zw (by decide)
theorem Bds.mono {m n:Nat}{f:List Int}(h:Bds m f)(hmn:m<=n):Bds n f:=fun x hx=>(h x hx).mono hmn
theorem bds_of {m:Nat}{f:List Int}(h:∀ i,i<f.length->Bd m (coef f i)):Bds m f:=fun x hx=>by
 obtain⟨i,hi,rfl⟩:=Z2 hx;rw[<- coef_lt hi];exact h i hi
theorem Bds.trim {m:Nat}{f:List Int}(h:Bds m f):Bds m (trim f):=fun x hx=>h x (List.mem_of_mem_take hx)
theorem bd_zero (m:Nat):Bd m 0:=Zw (by decide)
theorem Bds.rowS {m n:Nat}{f g:List Int}(hf:Bds m f)(hg:Bds n g):∀ (i k:Nat),Bd (m+n+i) (rowS f g i k)
 | 0,k=>bd_zero _
 | i+1,k=>by
  have ih:=Bds.rowS hf hg i k;have h2:Bd (m+n+i) (if i<=k then L2.coef f i*L2.coef g (k - i) else 0):=by
   split
   ·exact ((hf.coef i).mul (hg.coef (k - i))).mono (by omega)
   ·exact bd_zero _
  exact (ih.add h2).mono (by omega)
theorem Bds.pmul {m n:Nat}{f g:List Int}(hf:Bds m f)(hg:Bds n g):Bds (m+n+f.length) (pmul f g):=bds_of fun i _=>by
 rw[coef_pmul];exact Bds.rowS hf hg _ _
def New (H:Hp)(Q:VK)(ns:List Int):Prop:=∀ p H',Same H H'->H p=none->H' p=some (.lst (ns.map V.int))->Q (.ref p) H'
theorem cutV_take (ns:List Int)(k:Nat)(h:k<=ns.length):cutV (ns.map V.int) none (some (k:Int))=(ns.take k).map V.int:=by
 unfold cutV;have e1:HT.sIx (ns.map V.int).length 0 none=0:=rfl;have e2:HT.sIx (ns.map V.int).length (ns.map V.int).length (some (k:Int))=k:=by
  rw[HT.sIx_nat,Ya];omega
 rw[e1,e2];simp
theorem rep_zero (n:Nat):(Yp n [V.int 0]).flatten=(Yp n (0:Int)).map V.int:=by
 induction n with
 | zero=>rfl
 | succ n ih=>rw[Zq,Wh,ih,Zq];rfl
theorem map_int_get {ns:List Int}{i:Nat}{x:V}(h:(ns.map V.int)[i]?=some x):∃ n,ns[i]?=some n/\x=.int n:=by
 rw[Ye] at h;cases e:ns[i]? with
 | none=>rw[e] at h;cases h
 | some n=>rw[e] at h;exact⟨n,rfl,(Option.some.inj h).symm⟩
theorem map_int_at {ns:List Int}{i:Nat}(h:i<ns.length):(ns.map V.int)[i]?=some (.int (coef ns i)):=by
 rw[Ye,Yc h,coef_lt h];rfl
theorem atI_int {ns:List Int}{i:Int}(h0:0<=i)(h1:i<(ns.length:Int)):atI (ns.map V.int) i=some (.int (coef ns i.toNat)):=by
 have hi:i.toNat<(ns.map V.int).length:=by rw[Ya];omega
 rw[atI_get_nat h0 hi];rw[coef_lt (by rw[Ya] at hi;exact hi)]
 simp
theorem map_int_set (ns:List Int)(i:Nat)(v:Int):(ns.map V.int).set i (.int v)=(ns.set i v).map V.int:=by rw[List.map_set]
theorem ixN_nat {n:Nat}{k:Int}(h0:0<=k)(h1:k<(n:Int)):ixN n k=some k.toNat:=by
 unfold ixN;rw[Wv h0];first
  | rw[Wv h1]
  | rw[Wv (by omega)]
def rGetL (K:FrQ):V->V->Hp->VK->Prop:=fun x y H Q=>∃ p xs i v,x=.ref p/\y=.int i/\SqL K H p xs/\0<=i/\xs[i.toNat]?=some v/\Q v H
theorem get_list {X:Cx}:PGet X (rGetL X.K):=by
 intro pins s σ H o i ov iv Q I ro ri h;obtain⟨p,xs,k,v,rfl,rfl,hq,h0,hx,q⟩:=h;cases ro;obtain⟨t,rfl⟩:=ri;obtain⟨its,r,pl,hz⟩:=I.list hq;obtain⟨u,hu,ru⟩:=r.get hx;have hl:=r.length;have hi:k.toNat<its.length:=(List.getElem?_eq_some_iff.mp hu).1;have hn:=line63;exact wpAny_getItem_list pl.isList h0 (by omega) (by simpa using hu) ⟨v,H,I,ru,q⟩
theorem getK_list {X:Cx}{K:FrQ}(h:X.K=K):PGet X (rGetL K):=by subst h;exact get_list
theorem atI_neg1 {ns:List Int}(h:ns≠[]):atI (ns.map V.int) (-1)=some (.int (coef ns (ns.length - 1))):=by
 have hl:0<ns.length:=List.length_pos_iff.mpr h;unfold atI ixN;rw[Wu (by decide),Wv (by rw[Ya];omega),Ya]
 have e:(-1+(ns.length:Int)).toNat=ns.length - 1:=by omega
 show (ns.map V.int)[(-1+(ns.length:Int)).toNat]?=_
 rw[e];exact map_int_at (by omega)
theorem Bds.snoc {m:Nat}{f:List Int}{x:Int}(h:Bds m f)(hx:Bd m x):Bds m (f++[x]):=fun y hy=>by
 rcases List.mem_append.mp hy with z | z
 ·exact h y z
 ·have:y=x:=by simpa using z
  rw[this];exact hx
theorem map_int_snoc (f:List Int)(x:Int):f.map V.int++[V.int x]=(f++[x]).map V.int:=by simp
theorem cutV_takeL (ns:List Int)(k:Nat):cutV (ns.map V.int) none (some (k:Int))=(ns.take k).map V.int:=by
 by_cases h:k<=ns.length
 ·exact cutV_take ns k h
 ·unfold cutV
  have e1:HT.sIx (ns.map V.int).length 0 none=0:=rfl;have e2:HT.sIx (ns.map V.int).length (ns.map V.int).length (some (k:Int))=ns.length:=by
   rw[HT.sIx_nat,Ya];omega
  rw[e1,e2,Ze (by simp),Ze (by omega)]
  simp
end L2
namespace L2
open PySem PySem.Spec PyProof.Rows
theorem rowS_short (f g:List Int):∀ (i m:Nat),m+1<=i->rowS f g i m=rowS f g (m+1) m
 | 0,m,h=>W1 h (by omega)
 | i+1,m,h=>by
  by_cases e:m=i
  ·rw[e]
  ·show rowS f g i m+_=_
   rw[rowS_short f g i m (by omega),Wu (by omega),Int.add_zero]
theorem conv_eq (f g:List Int)(m:Nat):conv f g m=rowS f g (m+1) m:=by
 unfold conv;by_cases h:f.length<=m+1
 ·exact (rowS_beyond f g (m+1) m h).symm
 ·exact rowS_short f g f.length m (by omega)
theorem rowS_congr {f f' g g':List Int}(hf:∀ a,coef f a=coef f' a)(hg:∀ a,coef g a=coef g' a):∀ (i m:Nat),rowS f g i m=rowS f' g' i m
 | 0,m=>rfl
 | i+1,m=>by
  show rowS f g i m+_=rowS f' g' i m+_
  rw[rowS_congr hf hg i m,hf,hg]
theorem conv_congr {f f' g g':List Int}(hf:∀ a,coef f a=coef f' a)(hg:∀ a,coef g a=coef g' a)(m:Nat):conv f g m=conv f' g' m:=by
 rw[conv_eq,conv_eq,rowS_congr hf hg]
theorem rowS_one {u f g:List Int}{t:Nat}{c:Int}(hc:∀ a,coef u a=coef f a+if a=t then c else 0):∀ (i m:Nat),rowS u g i m=rowS f g i m+if t<i/\t<=m then c*coef g (m - t) else 0
 | 0,m=>by
  rw[Wu (by omega)];simp[rowS]
 | i+1,m=>by
  show rowS u g i m+_=rowS f g i m+_+_
  rw[rowS_one hc i m,hc];by_cases hi:i<=m
  ·rw[Wv hi,Wv hi]
   by_cases e:i=t
   ·subst e
    rw[Wu (by omega),Wv rfl,Wv ⟨by omega,hi⟩,Int.add_mul]
    omega
   ·rw[Wu e,Int.add_zero]
    by_cases h2:t<i/\t<=m
    ·rw[Wv h2,Wv ⟨by omega,h2.2⟩];omega
    ·rw[Wu h2,Wu (by omega)];omega
  ·rw[Wu hi,Wu hi]
   by_cases h2:t<i/\t<=m
   ·rw[Wv h2,Wv ⟨by omega,h2.2⟩];omega
   ·rw[Wu h2,Wu (by omega)]
theorem conv_one {u f g:List Int}{t:Nat}{c:Int}(hc:∀ a,coef u a=coef f a+if a=t then c else 0)(m:Nat):conv u g m=conv f g m+if t<=m then c*coef g (m - t) else 0:=by
 rw[conv_eq,conv_eq,rowS_one hc];congr 1
 by_cases h:t<=m
 ·rw[Wv h,Wv ⟨by omega,h⟩]
 ·rw[Wu h,Wu (by omega)]
def Monic (g:List Int):Prop:=g≠[]/\coef g (g.length - 1)=1
theorem tlen_le_of {f:List Int}{d:Nat}:∀ n,(∀ m,d<=m->m<n->coef f m=0)->tlen f n<=d
 | 0,_=>Y7 _
 | n+1,h=>by
  unfold tlen;split
  ·exact tlen_le_of n fun m h1 h2=>h m h1 (by omega)
  ·rename_i hne
   refine Classical.byContradiction fun hn=>hne ?_
   exact h n (by omega) (by omega)
structure IsDiv (f g q r:List Int):Prop where
 eq:∀ m,coef f m=conv q g m+coef r m
 nq:Norm f->Norm q
 nr:Norm r
 len:r.length<g.length
 lq:q.length=f.length - (g.length - 1)
def qSo (N i:Nat)(Qr:List Int):List Int:=Yp (N - i) 0++Qr.reverse
theorem coef_rev {l:List Int}{i:Nat}(h:i<l.length):coef l.reverse i=coef l (l.length - 1 - i):=by
 rw[coef_lt (by rw[Zj];exact h),coef_lt (by omega)]
 rw[List.getElem_reverse]
theorem qSo_next {N i:Nat}{Qr:List Int}{c:Int}(hl:Qr.length=i)(hi:i<N)(a:Nat):coef (qSo N (i+1) (Qr++[c])) a=coef (qSo N i Qr) a+if a=N - 1 - i then c else 0:=by
 unfold qSo;have e0:(Qr++[c]).reverse=c::Qr.reverse:=by simp
 rw[e0,coef_append (f:=Yp (N - (i+1)) 0),coef_append (f:=Yp (N - i) 0),List.length_replicate,List.length_replicate];by_cases h1:a<N - (i+1)
 ·rw[Wv h1,Wv (by omega),Wu (by omega),coef_replicate,coef_replicate];rfl
 ·rw[Wu h1]
  by_cases h2:a=N - 1 - i
  ·rw[Wv h2,Wv (by omega),coef_replicate]
   have e:a - (N - (i+1))=0:=by omega
   rw[e];show c=0+c
   omega
  ·rw[Wu h2,Wu (by omega)]
   have e:a - (N - (i+1))=(a - (N - i))+1:=by omega
   rw[e];show coef (c::Qr.reverse) ((a - (N - i))+1)=_
   have:coef (c::Qr.reverse) ((a - (N - i))+1)=coef Qr.reverse (a - (N - i)):=by simp[coef]
   rw[this];omega
theorem qSo_end {N:Nat}{Qr:List Int}(hl:Qr.length=N):qSo N N Qr=Qr.reverse:=by
 unfold qSo;rw[Wi];rfl
structure DivSo (f g:List Int)(N i:Nat)(Qr R:List Int):Prop where
 lq:Qr.length=i
 lr:R.length=f.length
 eq:∀ m,m<R.length->coef R m=coef f m - conv (qSo N i Qr) g m
 top:∀ m,f.length - i<=m->m<R.length->coef R m=0
 lead:0<i->coef Qr 0=coef f (f.length - 1)
def RIn (g:List Int)(R R':List Int)(t:Nat)(lead:Int)(j:Nat):Prop:=R'.length=R.length/\∀ m,m<R.length->coef R' m=coef R m - if t<=m/\m - t<j then lead*coef g (m - t) else 0
theorem RIn.start (g R:List Int)(t:Nat)(lead:Int):RIn g R R t lead 0:=⟨rfl,fun m _=>by rw[Wu (by omega)];omega⟩
theorem RIn.step {g R R':List Int}{t:Nat}{lead:Int}{j:Nat}(h:RIn g R R' t lead j)(hj:t+j<R.length):RIn g R (R'.set (t+j) (coef R' (t+j) - lead*coef g j)) t lead (j+1):=by
 refine⟨by rw[Wd];exact h.1,fun m hm=>?_⟩
 rw[coef_set (by rw[h.1];exact hj)]
 by_cases e:m=t+j
 ·subst e
  have e2:t+j - t=j:=by omega
  rw[Wv rfl,Wv ⟨by omega,by omega⟩,h.2 _ hm,Wu (by omega),e2]
  omega
 ·rw[Wu e,h.2 m hm]
  congr 1
  by_cases h1:t<=m/\m - t<j
  ·rw[Wv h1,Wv ⟨h1.1,by omega⟩]
  ·rw[Wu h1,Wu (by omega)]
theorem DivSo.next {f g Qr R R':List Int}{N i:Nat}(hg:Monic g)(hN:N=f.length - (g.length - 1))(D:DivSo f g N i Qr R)(hi:i<N)(h:RIn g R R' (N - 1 - i) (coef R (N - 1 - i+(g.length - 1))) g.length):
  DivSo f g N (i+1) (Qr++[coef R (N - 1 - i+(g.length - 1))]) R':=by
 have hgl:0<g.length:=List.length_pos_iff.mpr hg.1;have lr:=D.lr;have lq:=D.lq;refine⟨by rw[Yl,D.lq];rfl,h.1.trans D.lr,fun m hm=>?_,fun m h1 h2=>?_,fun _=>?_⟩
 ·rw[h.1] at hm
  rw[h.2 m hm,D.eq m hm,conv_one (qSo_next (c:=coef R (N - 1 - i+(g.length - 1))) D.lq hi)];have:(if N - 1 - i<=m/\m - (N - 1 - i)<g.length then coef R (N - 1 - i+(g.length - 1))*coef g (m - (N - 1 - i)) else 0)=if N - 1 - i<=m then coef R (N - 1 - i+(g.length - 1))*coef g (m - (N - 1 - i)) else 0:=by
   by_cases h1:N - 1 - i<=m
   ·by_cases h2:m - (N - 1 - i)<g.length
    ·rw[Wv ⟨h1,h2⟩,Wv h1]
    ·rw[Wu (by omega),Wv h1,coef_ge (f:=g) (by omega),Y8]
   ·rw[Wu (by omega),Wu h1]
  rw[this];omega
 ·have h2':m<R.length:=by rw[h.1] at h2;exact h2
  rw[h.2 m h2'];by_cases e:m=f.length - (i+1)
  ·have e1:m - (N - 1 - i)=g.length - 1:=by omega
   have e2:N - 1 - i+(g.length - 1)=m:=by omega
   rw[Wv ⟨by omega,by omega⟩,e1,hg.2,e2,Wm]
   omega
  ·rw[D.top m (by omega) h2']
   have e1:g.length<=m - (N - 1 - i):=by omega
   rw[Wu (by omega)]
   rfl
 ·rw[coef_append]
  by_cases h0:0<i
  ·rw[Wv (by omega)];exact D.lead h0
  ·have e0:i=0:=by omega
   subst e0;rw[Wu (by omega)]
   have e1:N - 1 - 0+(g.length - 1)=f.length - 1:=by omega
   have hnil:Qr=[]:=List.length_eq_zero_iff.mp D.lq;rw[e1,D.eq _ (by omega)]
   have hz:conv (qSo N 0 Qr) g (f.length - 1)=0:=by
    rw[conv_congr (f':=[]) (g':=g) (fun a=>?_) (fun _=>rfl)]
    ·rfl
    ·unfold qSo
     rw[hnil,List.reverse_nil,List.append_nil,coef_replicate,coef_nil]
   rw[hz];have:coef [coef f (f.length - 1) - 0] (0 - Qr.length)=coef f (f.length - 1) - 0:=by rw[hnil];rfl
   rw[this];omega
theorem DivSo.done {f g Qr R:List Int}{N:Nat}(hg:Monic g)(hN:N=f.length - (g.length - 1))(D:DivSo f g N N Qr R):IsDiv f g Qr.reverse (trim R):=by
 have hgl:0<g.length:=List.length_pos_iff.mpr hg.1;refine⟨fun m=>?_,fun nf=>?_,norm_trim R,?_,by rw[Zj,D.lq,hN]⟩
 ·rw[coef_trim]
  by_cases hm:m<R.length
  ·have:=D.eq m hm
   rw[qSo_end D.lq] at this;omega
  ·have lr:=D.lr
   have lq:=D.lq;rw[coef_ge (f:=f) (by omega),coef_ge (f:=R) (by omega)]
   have hb:conv Qr.reverse g m=0:=by
    by_cases hz:Qr=[]
    ·subst hz;rfl
    ·have:0<Qr.length:=List.length_pos_iff.mpr hz
     exact conv_beyond _ _ _ (by rw[Zj];omega)
   rw[hb];rfl
 ·by_cases hz:Qr=[]
  ·left;rw[hz];rfl
  ·right
   have hl:0<Qr.length:=List.length_pos_iff.mpr hz;have lq:=D.lq;rw[coef_rev (by rw[Zj];omega),Zj]
   have e:Qr.length - 1 - (Qr.length - 1)=0:=by omega
   rw[e,D.lead (by omega)]
   exact nf.last fun z=>by rw[z] at hN;simp at hN;omega
 ·rw[trim_length]
  have:tlen R R.length<=g.length - 1:=tlen_le_of _ fun m h1 h2=>D.top m (by have:=D.lr;omega) h2
  omega
end L2
namespace L2
open PySem PySem.Spec PyProof.Rows
def sumN:Nat->(Nat->Int)->Int
 | 0,_=>0
 | n+1,f=>sumN n f+f n
theorem sumN_congr {f g:Nat->Int}:∀ {n:Nat},(∀ i,i<n->f i=g i)->sumN n f=sumN n g
 | 0,_=>rfl
 | n+1,h=>by
  show sumN n f+f n=sumN n g+g n
  rw[sumN_congr fun i hi=>h i (by omega),h n (by omega)]
theorem sumN_add (f g:Nat->Int):∀ n,sumN n (fun i=>f i+g i)=sumN n f+sumN n g
 | 0=>rfl
 | n+1=>by
  show sumN n (fun i=>f i+g i)+(f n+g n)=sumN n f+f n+(sumN n g+g n)
  rw[sumN_add f g n];omega
theorem sumN_mul (c:Int)(f:Nat->Int):∀ n,sumN n (fun i=>c*f i)=c*sumN n f
 | 0=>by simp[sumN]
 | n+1=>by
  show sumN n (fun i=>c*f i)+c*f n=c*(sumN n f+f n)
  rw[sumN_mul c f n,Int.mul_add]
theorem sumN_mulR (c:Int)(f:Nat->Int)(n:Nat):sumN n (fun i=>f i*c)=sumN n f*c:=by
 rw[Zu,<- sumN_mul];exact sumN_congr fun i _=>Zu _ _
theorem sumN_zero {f:Nat->Int}:∀ {n:Nat},(∀ i,i<n->f i=0)->sumN n f=0
 | 0,_=>rfl
 | n+1,h=>by
  show sumN n f+f n=0
  rw[sumN_zero fun i hi=>h i (by omega),h n (by omega)]
  rfl
theorem sumN_head (f:Nat->Int):∀ n,sumN (n+1) f=f 0+sumN n fun i=>f (i+1)
 | 0=>by simp[sumN]
 | n+1=>by
  show sumN (n+1) f+f (n+1)=f 0+(sumN n (fun i=>f (i+1))+f (n+1))
  rw[sumN_head f n];omega
theorem sumN_rev (f:Nat->Int):∀ n,sumN n f=sumN n fun i=>f (n - 1 - i)
 | 0=>rfl
 | n+1=>by
  rw[sumN_head fun i=>f (n+1 - 1 - i)]
  show sumN n f+f n=_
  rw[sumN_rev f n];have e0:n+1 - 1 - 0=n:=by omega
  have e1:sumN n (fun i=>f (n - 1 - i))=sumN n fun i=>f (n+1 - 1 - (i+1)):=sumN_congr fun i hi=>by
   have:n - 1 - i=n+1 - 1 - (i+1):=by omega
   rw[this]
  rw[e0,e1];omega
theorem sumN_split (f:Nat->Int)(a:Nat):∀ b,sumN (a+b) f=sumN a f+sumN b fun i=>f (a+i)
 | 0=>by simp[sumN]
 | b+1=>by
  show sumN (a+b) f+f (a+b)=sumN a f+(sumN b (fun i=>f (a+i))+f (a+b))
  rw[sumN_split f a b];omega
theorem sumN_one {f:Nat->Int}{k:Nat}:∀ {n:Nat},k<n->(∀ i,i<n->i≠k->f i=0)->sumN n f=f k
 | 0,h,_=>W1 h (Zl _)
 | n+1,h,z=>by
  show sumN n f+f n=f k
  by_cases e:k=n
  ·subst e
   rw[sumN_zero fun i hi=>z i (by omega) (by omega)]
   omega
  ·rw[sumN_one (n:=n) (by omega) fun i hi=>z i (by omega),z n (by omega) (Ne.symm e)]
   omega
theorem sumN_tri (F:Nat->Nat->Int):∀ m,sumN (m+1) (fun k=>sumN (k+1) fun i=>F i k)=sumN (m+1) fun i=>sumN (m - i+1) fun j=>F i (i+j)
 | 0=>by simp[sumN]
 | m+1=>by
  show sumN (m+1) (fun k=>sumN (k+1) fun i=>F i k)+sumN (m+1+1) (fun i=>F i (m+1))=_
  rw[sumN_tri F m];show _=sumN (m+1) (fun i=>sumN (m+1 - i+1) fun j=>F i (i+j))+sumN (m+1 - (m+1)+1) (fun j=>F (m+1) (m+1+j))
  have e1:sumN (m+1) (fun i=>sumN (m+1 - i+1) fun j=>F i (i+j))=sumN (m+1) (fun i=>sumN (m - i+1) (fun j=>F i (i+j))+F i (m+1)):=sumN_congr fun i hi=>by
   have h1:m+1 - i+1=(m - i+1)+1:=by omega
   rw[h1];show sumN (m - i+1) _+F i (i+(m - i+1))=_
   have h2:i+(m - i+1)=m+1:=by omega
   rw[h2]
  rw[e1,sumN_add];have e2:m+1 - (m+1)+1=1:=by omega
  rw[e2];show _+(sumN (m+1) (fun i=>F i (m+1))+F (m+1) (m+1))=_+(0+F (m+1) (m+1+0))
  have e3:m+1+0=m+1:=by omega
  rw[e3];omega
def cv (a b:Nat->Int)(m:Nat):Int:=sumN (m+1) fun i=>a i*b (m - i)
theorem cv_congr {a a' b b':Nat->Int}{m:Nat}(ha:∀ i,i<=m->a i=a' i)(hb:∀ i,i<=m->b i=b' i):cv a b m=cv a' b' m:=sumN_congr fun i hi=>by rw[ha i (by omega),hb (m - i) (by omega)]
theorem cv_comm (a b:Nat->Int)(m:Nat):cv a b m=cv b a m:=by
 unfold cv;rw[sumN_rev];refine sumN_congr fun i hi=>?_
 have e1:m+1 - 1 - i=m - i:=by omega
 have e2:m - (m - i)=i:=by omega
 rw[e1,e2,Zu]
theorem cv_assoc (a b c:Nat->Int)(m:Nat):cv (cv a b) c m=cv a (cv b c) m:=by
 have l:cv (cv a b) c m=sumN (m+1) fun k=>sumN (k+1) fun i=>a i*b (k - i)*c (m - k):=sumN_congr fun k _=>by
  show sumN (k+1) (fun i=>a i*b (k - i))*c (m - k)=_
  rw[<- sumN_mulR]
 rw[l,sumN_tri fun i k=>a i*b (k - i)*c (m - k)]
 refine sumN_congr fun i hi=>?_
 show _=a i*sumN (m - i+1) fun j=>b j*c (m - i - j)
 rw[<- sumN_mul];refine sumN_congr fun j hj=>?_
 have e1:i+j - i=j:=by omega
 have e2:m - (i+j)=m - i - j:=by omega
 rw[e1,e2,Wc]
theorem cv_add (a b c:Nat->Int)(m:Nat):cv (fun i=>a i+b i) c m=cv a c m+cv b c m:=by
 unfold cv;rw[<- sumN_add];exact sumN_congr fun i _=>Int.add_mul ..
theorem cv_addR (a b c:Nat->Int)(m:Nat):cv a (fun i=>b i+c i) m=cv a b m+cv a c m:=by
 rw[cv_comm,cv_add,cv_comm b,cv_comm c]
theorem cv_zero (b:Nat->Int)(m:Nat):cv (fun _=>0) b m=0:=sumN_zero fun i _=>Z9 _
theorem cv_unit {a b:Nat->Int}{c:Int}(h0:a 0=c)(hs:∀ i,0<i->a i=0)(m:Nat):cv a b m=c*b m:=by
 unfold cv;rw[sumN_one (k:=0) (by omega) fun i _ hi=>by rw[hs i (by omega),Z9],h0,Nat.sub_zero]
theorem rowS_sum (f g:List Int):∀ (i m:Nat),i<=m+1->rowS f g i m=sumN i fun a=>coef f a*coef g (m - a)
 | 0,m,_=>rfl
 | i+1,m,h=>by
  show rowS f g i m+_=sumN i _+_
  rw[rowS_sum f g i m (by omega),Wv (by omega)]
theorem conv_cv (f g:List Int)(m:Nat):conv f g m=cv (coef f) (coef g) m:=by
 rw[conv_eq,rowS_sum f g (m+1) m (Yd _)];rfl
theorem cp (f g:List Int)(m:Nat):coef (pmul f g) m=cv (coef f) (coef g) m:=by rw[coef_pmul,conv_cv]
theorem cpf (f g:List Int):coef (pmul f g)=cv (coef f) (coef g):=funext fun m=>cp f g m
end L2
namespace L2
open PySem PySem.Spec PyProof.Rows
abbrev LP:=Addr×List Int
abbrev lrefs (ts:List LP):List V:=ts.map fun t=>V.ref t.1
abbrev lvals (ts:List LP):List (List Int):=ts.map fun t=>t.2
structure LLs (H:Hp)(p:Addr)(ts:List LP):Prop where
 top:H p=some (.lst (lrefs ts))
 it:∀ t∈ts,H t.1=some (.lst (t.2.map V.int))
theorem LLs.same {H H':Hp}{p:Addr}{ts:List LP}(h:LLs H p ts)(g:Same H H'):LLs H' p ts:=⟨g _ _ h.top,fun t ht=>g _ _ (h.it t ht)⟩
theorem LLs.snoc {H:Hp}{p:Addr}{ts:List LP}{t:LP}(h:LLs H p ts)(hp:∀ t∈ts,t.1≠p)(ht:H t.1=some (.lst (t.2.map V.int)))(hn:t.1≠p):LLs (upd H p (.lst (lrefs ts++[.ref t.1]))) p (ts++[t]):=by
 refine⟨?_,fun x hx=>?_⟩
 ·rw[upd_same];simp[lrefs]
 ·rcases List.mem_append.mp hx with z | z
  ·rw[upd_ne (hp x z)];exact h.it x z
  ·have:x=t:=by simpa using z
   subst this;rw[upd_ne hn];exact ht
abbrev dLL (ls:List (List Int)):PyData:=.list (ls.map dI)
theorem fl_ll (ls:List (List Int)):Fl 2 (dLL ls):=.lst fun d hd=>by
 obtain⟨i,_,rfl⟩:=List.mem_map.mp hd;exact fl_ints i
theorem dLL_inj {a b:List (List Int)}(h:dLL a=dLL b):a=b:=by
 have h':a.map dI=b.map dI:=PyData.list.inj h;induction a generalizing b with
 | nil=>
  cases b with
  | nil=>rfl
  | cons _ _=>simp at h'
 | cons x a ih=>
  cases b with
  | nil=>simp at h'
  | cons y b=>
   have h2:dI x=dI y/\a.map dI=b.map dI:=List.cons.inj h';rw[dI_inj h2.1,ih (Wz PyData.list h2.2) h2.2]
theorem eqv_ll (a b:List (List Int)):PyData.eqv (dLL a) (dLL b)=decide (a=b):=by
 rw[eqv_dec (fl_ll a) (fl_ll b)];by_cases h:a=b
 ·rw[Ww h,Ww (Wz dLL h)]
 ·rw[Wy h,Wy fun z=>h (dLL_inj z)]
theorem den_ll {K:FrQ}{H:Hp}{p:Addr}{ts:List LP}(ht:SqL K H p (lrefs ts))(hi:∀ t∈ts,SqL K H t.1 (t.2.map V.int)):Den K H (.ref p) (dLL (lvals ts)):=by
 refine .lst ht (by simp) fun i x d h1 h2=>?_
 rw[Ye] at h1 h2;cases e:ts[i]? with
 | none=>rw[e] at h1;cases h1
 | some t=>
  rw[e] at h1;rw[Ye,e] at h2;have hm:t∈ts:=Yv e;cases h1;cases h2;exact den_lst (hi t hm) (scalDs_ints _)
theorem LLs.den {K:FrQ}{H:Hp}{p:Addr}{ts:List LP}(h:LLs H p ts):Den K H (.ref p) (dLL (lvals ts)):=den_ll (SqL.of h.top) fun t ht=>SqL.of (h.it t ht)
theorem LLs.sql {K:FrQ}{H:Hp}{p:Addr}{ts:List LP}(h:LLs H p ts):SqL K H p (lrefs ts):=SqL.of h.top
theorem neLL {K:FrQ}{H:Hp}{x y:V}{a b:List (List Int)}{Q:VK}(hx:Den K H x (dLL a))(hy:Den K H y (dLL b))(q:Q (.bl (!decide (a=b))) H):rEqD K true x y H Q:=
 ⟨_,_,hx,hy,(fl_ll _).shaped (by decide),(fl_ll _).shaped (by decide),by show Q (.bl (!PyData.eqv (dLL a) (dLL b))) H;rw[eqv_ll];exact q⟩
theorem den_nilLL {K:FrQ}{H:Hp}{p:Addr}(h:SqL K H p []):Den K H (.ref p) (dLL []):=.lst h rfl fun i x d h1 _=>by simp at h1
theorem lrefs_get {ts:List LP}{i:Nat}{x:V}(h:(lrefs ts)[i]?=some x):∃ hi:i<ts.length,x=.ref ts[i].1:=by
 rw[Ye] at h;cases e:ts[i]? with
 | none=>rw[e] at h;cases h
 | some t=>
  rw[e] at h;obtain⟨hi,e2⟩:=List.getElem?_eq_some_iff.mp e;subst e2;exact⟨hi,(Option.some.inj h).symm⟩
end L2
namespace L2
def sgm:Nat->(Nat->Int)->Int
 | 0,_=>0
 | n+1,f=>sgm n f+f n
theorem sgm_congr:∀ {n:Nat} {f g:Nat->Int},(∀ i,i<n->f i=g i)->sgm n f=sgm n g
 | 0,_,_,_=>rfl
 | n+1,f,g,h=>by
  show sgm n f+f n=sgm n g+g n
  rw[sgm_congr fun i hi=>h i (by omega),h n (by omega)]
theorem sgm_lin (a b:Int)(f g:Nat->Int):∀ n,sgm n (fun i=>a*f i+b*g i)=a*sgm n f+b*sgm n g
 | 0=>by show (0:Int)=a*0+b*0;omega
 | n+1=>by
  show sgm n _+(a*f n+b*g n)=a*(sgm n f+f n)+b*(sgm n g+g n)
  rw[sgm_lin a b f g n];generalize sgm n f=x;generalize sgm n g=y;grind
theorem sgm_mul (a:Int)(f:Nat->Int):∀ n,sgm n (fun i=>a*f i)=a*sgm n f
 | 0=>by show (0:Int)=a*0;omega
 | n+1=>by
  show sgm n _+a*f n=a*(sgm n f+f n)
  rw[sgm_mul a f n,Int.mul_add]
theorem sgm_zero:∀ {n:Nat} {f:Nat->Int},(∀ i,i<n->f i=0)->sgm n f=0
 | 0,_,_=>rfl
 | n+1,f,h=>by
  show sgm n f+f n=0
  rw[sgm_zero fun i hi=>h i (by omega),h n (by omega)]
  rfl
theorem sgm_shift (f:Nat->Int):∀ n,sgm (n+1) f=f 0+sgm n (fun i=>f (i+1))
 | 0=>by show 0+f 0=f 0+0;omega
 | n+1=>by
  show sgm (n+1) f+f (n+1)=f 0+(sgm n (fun i=>f (i+1))+f (n+1))
  rw[sgm_shift f n];omega
theorem sgm_two {f:Nat->Int}{r:Nat}:∀ {n:Nat},r+1<n->(∀ i,i<n->i≠r->i≠r+1->f i=0)->f r+f (r+1)=0->sgm n f=0
 | 0,h,_,_=>W1 h (by omega)
 | n+1,h,z,e=>by
  show sgm n f+f n=0
  by_cases c:r+1=n
  ·subst c
   show sgm r f+f r+f (r+1)=0
   rw[sgm_zero fun i hi=>z i (by omega) (by omega) (by omega)]
   omega
  ·rw[sgm_two (n:=n) (by omega) (fun i hi=>z i (by omega)) e,z n (by omega) (by omega) (by omega)]
   rfl
abbrev Mx:=Nat->Nat->Int
def skp (i r:Nat):Nat:=if r<i then r else r+1
def sg (k:Nat):Int:=if k % 2=0 then 1 else -1
theorem sg_succ (k:Nat):sg (k+1)=- sg k:=by
 unfold sg;rcases Nat.mod_two_eq_zero_or_one k with h | h
 ·rw[Wu (by omega),Wv h]
 ·rw[Wv (by omega),Wu (by omega)];rfl
theorem sg_sq (k:Nat):sg k*sg k=1:=by
 unfold sg;split <;> rfl
def det:Nat->Mx->Int
 | 0,_=>1
 | n+1,M=>sgm (n+1) fun i=>sg (n - i)*M i n*det n fun r c=>M (skp i r) c
theorem det_succ (n:Nat)(M:Mx):det (n+1) M=sgm (n+1) fun i=>sg (n - i)*M i n*det n fun r c=>M (skp i r) c:=rfl
theorem skp_lt {i r n:Nat}(h:r<n):skp i r<n+1:=by unfold skp;split <;> omega
theorem skp_ne (i r:Nat):skp i r≠i:=by unfold skp;split <;> omega
theorem skp_eq {i r x:Nat}(h:i≠r):skp i x=r↔x=if r<i then r else r - 1:=by
 unfold skp;split <;> split <;> omega
theorem det_congr:∀ {n:Nat} {M N:Mx},(∀ r c,r<n->c<n->M r c=N r c)->det n M=det n N
 | 0,_,_,_=>rfl
 | n+1,M,N,h=>by
  rw[det_succ,det_succ];refine sgm_congr fun i hi=>?_
  rw[h i n hi (by omega),det_congr fun r c hr hc=>h (skp i r) c (skp_lt hr) (by omega)]
def setR (M:Mx)(r:Nat)(u:Nat->Int):Mx:=fun i c=>if i=r then u c else M i c
theorem setR_same (M:Mx)(r:Nat)(u:Nat->Int)(c:Nat):setR M r u r c=u c:=Wv rfl
theorem setR_ne {M:Mx}{r i:Nat}{u:Nat->Int}(h:i≠r)(c:Nat):setR M r u i c=M i c:=Wu h
theorem setR_self (M:Mx)(r:Nat):setR M r (M r)=M:=by
 funext i c
 unfold setR;split
 ·rename_i h;rw[h]
 ·rfl
theorem minor_set {M:Mx}{i r:Nat}(h:i≠r)(u:Nat->Int):(fun x c=>setR M r u (skp i x) c)=setR (fun x c=>M (skp i x) c) (if r<i then r else r - 1) u:=by
 funext x c
 unfold setR;by_cases e:skp i x=r
 ·rw[Wv e,Wv ((skp_eq h).mp e)]
 ·rw[Wu e,Wu fun z=>e ((skp_eq h).mpr z)]
theorem minor_own (M:Mx)(r:Nat)(u:Nat->Int):(fun x c=>setR M r u (skp r x) c)=fun x c=>M (skp r x) c:=by
 funext x c
 exact setR_ne (skp_ne r x) c
theorem det_lin (a b:Int)(u v:Nat->Int):∀ (n:Nat) (M:Mx) (r:Nat),r<n->det n (setR M r fun c=>a*u c+b*v c)=a*det n (setR M r u)+b*det n (setR M r v)
 | 0,_,_,h=>W1 h (by omega)
 | n+1,M,r,h=>by
  rw[det_succ,det_succ,det_succ,<- sgm_lin];refine sgm_congr fun i hi=>?_
  by_cases e:i=r
  ·subst e
   rw[minor_own,minor_own,minor_own,setR_same,setR_same,setR_same];generalize det n _=D;generalize sg (n - i)=S;grind
  ·rw[minor_set e,minor_set e,minor_set e,setR_ne e,setR_ne e,setR_ne e,det_lin a b u v n _ _ (by split <;> omega)]
   generalize det n (setR _ _ u)=D1;generalize det n (setR _ _ v)=D2;generalize sg (n - i)=S;grind
theorem det_adj:∀ (n:Nat) (M:Mx) (r:Nat),r+1<n->(∀ c,M r c=M (r+1) c)->det n M=0
 | 0,_,_,h,_=>W1 h (by omega)
 | n+1,M,r,h,e=>by
  rw[det_succ];refine sgm_two (r:=r) h (fun i hi h1 h2=>?_) ?_
  ·have z:det n (fun x c=>M (skp i x) c)=0:=by
    by_cases c:i<r
    ·refine det_adj n _ (r - 1) (by omega) fun c'=>?_
     have e1:skp i (r - 1)=r:=by unfold skp;rw[Wu (by omega)];omega
     have e2:skp i (r - 1+1)=r+1:=by unfold skp;rw[Wu (by omega)];omega
     show M (skp i (r - 1)) c'=M (skp i (r - 1+1)) c'
     rw[e1,e2];exact e c'
    ·refine det_adj n _ r (by omega) fun c'=>?_
     have e1:skp i r=r:=by unfold skp;rw[Wv (by omega)]
     have e2:skp i (r+1)=r+1:=by unfold skp;rw[Wv (by omega)]
     show M (skp i r) c'=M (skp i (r+1)) c'
     rw[e1,e2];exact e c'
   rw[z,Y8]
  ·have e1:(fun x c=>M (skp (r+1) x) c)=fun x c=>M (skp r x) c:=by
    funext x c
    unfold skp;by_cases c1:x<r
    ·rw[Wv (by omega),Wv c1]
    ·by_cases c2:x=r
     ·subst c2
      rw[Wv (by omega),Wu (by omega)];exact e c
     ·rw[Wu (by omega),Wu c1]
   have e2:n - r=n - (r+1)+1:=by omega
   rw[e1,<- e n,e2,sg_succ];generalize det n _=D;generalize sg (n - (r+1))=S;grind
def set2 (M:Mx)(p q:Nat)(u v:Nat->Int):Mx:=setR (setR M p u) q v
theorem set2_comm {M:Mx}{p q:Nat}(h:p≠q)(u v:Nat->Int):setR (setR M p u) q v=setR (setR M q v) p u:=by
 funext i c
 unfold setR;by_cases c1:i=q
 ·subst c1;rw[Wv rfl,Wu fun z=>h z.symm,Wv rfl]
 ·rw[Wu c1,Wu c1]
theorem swap_of {n:Nat}{M:Mx}{p q:Nat}(hp:p<n)(hq:q<n)(hne:p≠q)(h:∀ u,det n (set2 M p q u u)=0)(u v:Nat->Int):det n (set2 M p q u v)=- det n (set2 M p q v u):=by
 have z:=h fun c=>1*u c+1*v c
 unfold set2 at*;rw[det_lin 1 1 u v n _ q hq,set2_comm hne,set2_comm hne,det_lin 1 1 u v n _ p hp,det_lin 1 1 u v n _ p hp,<- set2_comm hne,<- set2_comm hne,<- set2_comm hne,<- set2_comm hne,h u,h v] at z;omega
theorem set2_self (M:Mx)(p q:Nat):set2 M p q (M p) (M q)=M:=by
 unfold set2;rw[setR_self,setR_self]
theorem swap_adj {n:Nat}(M:Mx){r:Nat}(h:r+1<n):det n (set2 M r (r+1) (M (r+1)) (M r))=- det n M:=by
 rw[swap_of (by omega) h (by omega) fun u=>det_adj n _ r h fun c=>?_,set2_self]
 unfold set2;rw[setR_ne (by omega),setR_same,setR_same]
theorem det_eq0 {n:Nat}{p:Nat}:∀ (d:Nat) (M:Mx),p+d+1<n->(∀ c,M p c=M (p+d+1) c)->det n M=0
 | 0,M,h,e=>det_adj n M p h e
 | d+1,M,h,e=>by
  have s:=swap_adj M (r:=p+d+1) (n:=n) h;have z:det n (set2 M (p+d+1) (p+d+1+1) (M (p+d+1+1)) (M (p+d+1)))=0:=by
   refine det_eq0 (p:=p) d _ (by omega) fun c=>?_
   unfold set2;rw[setR_ne (by omega),setR_ne (by omega),setR_ne (by omega),setR_same]
   exact e c
  rw[z] at s;omega
theorem det_same {n:Nat}{M:Mx}{p q:Nat}(hp:p<n)(hq:q<n)(hne:p≠q)(h:∀ c,M p c=M q c):det n M=0:=by
 rcases Nat.lt_or_gt_of_ne hne with z | z
 ·have e:q=p+(q - p - 1)+1:=by omega
  rw[e] at h;exact det_eq0 (q - p - 1) M (by omega) h
 ·have e:p=q+(p - q - 1)+1:=by omega
  rw[e] at h;exact det_eq0 (p - q - 1) M (by omega) fun c=>(h c).symm
theorem det_add {n:Nat}(M:Mx){p q:Nat}(hp:p<n)(hq:q<n)(hne:p≠q)(a k:Int):det n (setR M p fun c=>a*M p c+k*M q c)=a*det n M:=by
 rw[det_lin a k (M p) (M q) n M p hp,setR_self,det_same (M:=setR M p (M q)) hp hq hne fun c=>?_]
 ·omega
 ·rw[setR_same,setR_ne fun z=>hne z.symm]
theorem zero_col:∀ (n:Nat) (M:Mx),(∀ i,i<=n->M i 0=0)->det (n+1) M=0
 | 0,M,h=>by
  show 0+sg 0*M 0 0*1=0
  rw[h 0 (Yd _)];rfl
 | n+1,M,h=>by
  rw[det_succ];refine sgm_zero fun i hi=>?_
  rw[zero_col n _ fun j hj=>h (skp i j) (by have:=skp_lt (i:=i) (r:=j) (n:=n+1) (by omega);omega),Y8]
theorem first_col:∀ (n:Nat) (M:Mx),(∀ i,0<i->i<=n->M i 0=0)->det (n+1) M=M 0 0*det n fun r c=>M (r+1) (c+1)
 | 0,M,h=>by
  show 0+sg 0*M 0 0*1=M 0 0*1
  have:sg 0=1:=rfl
  rw[this];omega
 | n+1,M,h=>by
  rw[det_succ (n+1),sgm_shift];have z:det (n+1) (fun r c=>M (skp 0 r) c)=0:=zero_col n _ fun j hj=>h (skp 0 j) (by unfold skp;rw[Wu (by omega)];omega) (by unfold skp;rw[Wu (by omega)];omega)
  rw[z,Y8,Z4,det_succ n,<- sgm_mul];refine sgm_congr fun j hj=>?_
  rw[first_col n _ fun i h1 h2=>h (skp (j+1) i) (by unfold skp;split <;> omega) (by have:=skp_lt (i:=j+1) (r:=i) (n:=n+1) (by omega);omega)]
  have e0:skp (j+1) 0=0:=by unfold skp;rw[Wv (by omega)]
  have e1:(fun r c=>M (skp (j+1) (r+1)) (c+1))=fun r c=>M (skp j r+1) (c+1):=by
   funext r c
   have:skp (j+1) (r+1)=skp j r+1:=by unfold skp;split <;> split <;> omega
   rw[this]
  rw[e0,e1];have e2:n+1 - (j+1)=n - j:=by omega
  rw[e2];generalize det n _=D;generalize sg (n - j)=S;grind
theorem det_scale (k:Int):∀ (n:Nat) (M:Mx),det n (fun r c=>k*M r c)=k ^ n*det n M
 | 0,M=>by show (1:Int)=k ^ 0*1;rw[Y9];rfl
 | n+1,M=>by
  rw[det_succ,det_succ,<- sgm_mul];refine sgm_congr fun i hi=>?_
  rw[det_scale k n fun r c=>M (skp i r) c,Y5]
  generalize det n _=D;generalize sg (n - i)=S;generalize k ^ n=K;grind
def chi (N:Mx):Mx:=fun a b=>N 0 0*N (a+1) (b+1) - N (a+1) 0*N 0 (b+1)
def partly (N:Mx)(k:Nat):Mx:=fun r c=>if 0<r/\r<=k then N 0 0*N r c+(- N r 0)*N 0 c else N r c
theorem det_partly (N:Mx)(n:Nat):∀ k,k<=n->det (n+1) (partly N k)=N 0 0 ^ k*det (n+1) N
 | 0,_=>by
  have e:partly N 0=N:=by
   funext r c
   exact Wu (by omega)
  rw[e,Y9,Zg]
 | k+1,h=>by
  have e:partly N (k+1)=setR (partly N k) (k+1) fun c=>N 0 0*partly N k (k+1) c+(- N (k+1) 0)*partly N k 0 c:=by
   funext r c
   have p0:partly N k 0 c=N 0 c:=Wu (by omega)
   have p1:partly N k (k+1) c=N (k+1) c:=Wu (by omega)
   unfold setR;by_cases c1:r=k+1
   ·subst c1
    rw[Wv rfl];show _=N 0 0*partly N k (k+1) c+(- N (k+1) 0)*partly N k 0 c
    rw[p0,p1];exact Wv (by omega)
   ·rw[Wu c1]
    unfold partly;by_cases c2:0<r/\r<=k
    ·rw[Wv c2,Wv (by omega)]
    ·rw[Wu c2,Wu (by omega)]
  rw[e,det_add (partly N k) (by omega) (by omega) (by omega),det_partly N n k (by omega),Y5]
  generalize N 0 0 ^ k=K;generalize det (n+1) N=D;grind
theorem chio {n:Nat}{N:Mx}(h:N 0 0≠0):det (n+1) (chi N)=N 0 0 ^ n*det (n+2) N:=by
 have e:=det_partly N (n+1) (n+1) (Yd _);rw[first_col (n+1) (partly N (n+1)) fun i h1 h2=>?_] at e
 ·have e1:det (n+1) (fun r c=>partly N (n+1) (r+1) (c+1))=det (n+1) (chi N):=det_congr fun r c hr hc=>by
   unfold partly chi;rw[Wv (by omega)]
   generalize N 0 0=a;generalize N (r+1) (c+1)=b;generalize N (r+1) 0=d;generalize N 0 (c+1)=f;grind
  have e2:partly N (n+1) 0 0=N 0 0:=Wu (by omega)
  rw[e1,e2,Y5] at e;have e3:N 0 0*det (n+1) (chi N)=N 0 0*(N 0 0 ^ n*det (n+2) N):=by
   rw[e];generalize N 0 0 ^ n=K;grind
  exact Zk h e3
 ·unfold partly
  rw[Wv (by omega)]
  generalize N 0 0=a;generalize N i 0=b;grind
def cyc (t:Nat):Nat->Nat
 | 0=>t
 | a+1=>skp t a
theorem cyc_lt {t a m:Nat}(ht:t<m)(ha:a<m):cyc t a<m:=by
 cases a with
 | zero=>exact ht
 | succ a=>show skp t a<m;unfold skp;split <;> omega
theorem det_cyc {n:Nat}:∀ (t:Nat) (M:Mx),t<n->det n (fun a c=>M (cyc t a) c)=sg t*det n M
 | 0,M,h=>by
  have e:(fun a c=>M (cyc 0 a) c)=M:=by
   funext a c
   cases a with
   | zero=>rfl
   | succ a=>show M (skp 0 a) c=M (a+1) c;unfold skp;rw[Wu (by omega)]
  rw[e];show _=1*_
  omega
 | t+1,M,h=>by
  have e:(fun a c=>M (cyc (t+1) a) c)=fun a c=>set2 M t (t+1) (M (t+1)) (M t) (cyc t a) c:=by
   funext a c
   unfold set2;cases a with
   | zero=>
    show M (t+1) c=setR _ _ _ t c
    rw[setR_ne (by omega),setR_same]
   | succ a=>
    show M (skp (t+1) a) c=setR _ _ _ (skp t a) c
    rcases Nat.lt_trichotomy a t with z | z | z
    ·have e1:skp (t+1) a=a:=by unfold skp;rw[Wv (by omega)]
     have e2:skp t a=a:=by unfold skp;rw[Wv (by omega)]
     rw[e1,e2,setR_ne (by omega),setR_ne (by omega)]
    ·subst z
     have e1:skp (a+1) a=a:=by unfold skp;rw[Wv (by omega)]
     have e2:skp a a=a+1:=by unfold skp;rw[Wu (by omega)]
     rw[e1,e2,setR_same]
    ·have e1:skp (t+1) a=a+1:=by unfold skp;rw[Wu (by omega)]
     have e2:skp t a=a+1:=by unfold skp;rw[Wu (by omega)]
     rw[e1,e2,setR_ne (by omega),setR_ne (by omega)]
  rw[e,det_cyc t _ (by omega),swap_adj M h,sg_succ]
  generalize det n M=D;generalize sg t=S;grind
end L2
namespace L2
theorem pw_ne {d:Int}(h:d≠0):∀ n:Nat,d ^ n≠0
 | 0=>by rw[Y9];decide
 | n+1=>by rw[Y5];exact Int.mul_ne_zero (pw_ne h n) h
theorem det_one (M:Mx):det 1 M=M 0 0:=by
 show 0+sg 0*M 0 0*1=M 0 0
 have:sg 0=1:=rfl
 rw[this];omega
def sh (I:Nat->Nat):Nat->Nat
 | 0=>0
 | a+1=>I a+1
structure Ba (A:Mx)(n k:Nat)(d:Int)(B:Mx)(m:Nat)(s:Int):Prop where
 d0:d≠0
 mins:∀ (r:Nat) (I J:Nat->Nat),(∀ a,a<=r->I a<m/\J a<m)->∃ I' J':Nat->Nat,(∀ a,a<r+1+k->I' a<n/\J' a<n)/\det (r+1) (fun a b=>B (I a) (J b))=d ^ r*det (r+1+k) fun a b=>A (I' a) (J' b)
 whole:∀ m',m=m'+1->det m B=s*det n A*d ^ m'
 sq:s*s=1
 lead:∃ I' J':Nat->Nat,(∀ a,a<k->I' a<n/\J' a<n)/\d=det k fun a b=>A (I' a) (J' b)
theorem Ba.start (A:Mx)(n:Nat):Ba A n 0 1 A n 1:=by
 refine⟨by decide,fun r I J h=>⟨I,J,fun a ha=>h a (by omega),?_⟩,fun m' e=>?_,rfl,⟨fun a=>a,fun a=>a,fun a ha=>W1 ha (by omega),rfl⟩⟩
 ·rw[Int.one_pow,Zg]
 ·rw[Int.one_pow];omega
section
variable {A B B':Mx} {n k m t:Nat} {d s:Int}
theorem Ba.divides (h:Ba A n k d B (m+1) s)(ht:t<m+1)(hp:B t 0≠0){a c:Nat}(ha:a<m)(hc:c<m):∃ q,chi (fun a c=>B (cyc t a) c) a c=d*q:=by
 have hI:∀ x,x<=1->cyc t (sh (fun _=>a) x)<m+1/\sh (fun _=>c) x<m+1:=fun x hx=>by
  match x with
  | 0=>exact⟨ht,by show 0<m+1;omega⟩
  | 1=>exact⟨cyc_lt ht (by show a+1<m+1;omega),by show c+1<m+1;omega⟩
  | x+2=>omega
 obtain⟨I',J',_,e⟩:=h.mins 1 (fun x=>cyc t (sh (fun _=>a) x)) (sh (fun _=>c)) hI
 have e2:=chio (n:=0) (N:=fun x y=>B (cyc t (sh (fun _=>a) x)) (sh (fun _=>c) y)) hp
 rw[det_one,Y9,Zg,e,Y5,Y9,Zg] at e2;exact⟨_,e2⟩
theorem Ba.step (h:Ba A n k d B (m+1) s)(ht:t<m+1)(hp:B t 0≠0)(hB:∀ a c,a<m->c<m->chi (fun a c=>B (cyc t a) c) a c=d*B' a c):Ba A n (k+1) (B t 0) B' m (sg t*s):=by
 refine⟨hp,fun r I J hIJ=>?_,fun m' em=>?_,?_,?_⟩
 ·have hI:∀ x,x<=r+1->cyc t (sh I x)<m+1/\sh J x<m+1:=fun x hx=>by
   match x with
   | 0=>exact⟨ht,by show 0<m+1;omega⟩
   | x+1=>
    have:=hIJ x (by omega)
    exact⟨cyc_lt ht (by show I x+1<m+1;omega),by show J x+1<m+1;omega⟩
  obtain⟨I',J',rg,e⟩:=h.mins (r+1) (fun x=>cyc t (sh I x)) (sh J) hI
  have e2:=chio (n:=r) (N:=fun x y=>B (cyc t (sh I x)) (sh J y)) hp
  have e3:det (r+1) (chi fun x y=>B (cyc t (sh I x)) (sh J y))=d ^ (r+1)*det (r+1) (fun a b=>B' (I a) (J b)):=by
   rw[<- det_scale];refine det_congr fun a b ha hb=>?_
   have h1:=hIJ a (by omega)
   have h2:=hIJ b (by omega)
   exact hB (I a) (J b) h1.1 h2.2
  rw[e3,e] at e2;have ei:r+1+1+k=r+1+(k+1):=by omega
  rw[ei] at e2 rg;refine⟨I',J',rg,?_⟩
  refine Zk (pw_ne h.d0 (r+1)) (e2.trans ?_)
  show B t 0 ^ r*(d ^ (r+1)*_)=d ^ (r+1)*(B t 0 ^ r*_)
  generalize det (r+1+(k+1)) _=D;generalize B t 0 ^ r=P;generalize d ^ (r+1)=Q;grind
 ·subst em
  have e2:=chio (n:=m') (N:=fun a c=>B (cyc t a) c) hp
  have e3:det (m'+1) (chi fun a c=>B (cyc t a) c)=d ^ (m'+1)*det (m'+1) B':=by
   rw[<- det_scale];exact det_congr fun a b ha hb=>hB a b ha hb
  have e4:=h.whole (m'+1) rfl;have e5:=det_cyc (n:=m'+2) t B ht;rw[e3,e5,e4] at e2;refine Zk (pw_ne h.d0 (m'+1)) (e2.trans ?_)
  show B t 0 ^ m'*(sg t*(s*det n A*d ^ (m'+1)))=d ^ (m'+1)*(sg t*s*det n A*B t 0 ^ m')
  generalize B t 0 ^ m'=P;generalize d ^ (m'+1)=Q;generalize det n A=D;generalize sg t=S;grind
 ·have e1:=sg_sq t
  have e2:=h.sq;generalize sg t=S at*;grind
 ·obtain⟨I',J',rg,e⟩:=h.mins 0 (fun _=>t) (fun _=>0) fun a ha=>⟨ht,by omega⟩
  rw[det_one,Y9,Zg] at e;have ei:0+1+k=k+1:=by omega
  rw[ei] at e rg;exact⟨I',J',rg,e⟩
theorem Ba.fin (h:Ba A n k d B 1 s):s*B 0 0=det n A:=by
 have e:=h.whole 0 rfl;rw[det_one,Y9,Wm] at e;rw[e];have:=h.sq
 generalize det n A=D at*;grind
theorem Ba.none (h:Ba A n k d B (m+1) s)(hz:∀ i,i<m+1->B i 0=0):det n A=0:=by
 have e:=h.whole m rfl;rw[zero_col m B fun i hi=>hz i (by omega)] at e
 rcases Int.mul_eq_zero.mp e.symm with z | z
 ·rcases Int.mul_eq_zero.mp z with y | y
  ·have:=h.sq
   rw[y] at this;cases this
  ·exact y
 ·exact W1 z (pw_ne h.d0 m)
end
theorem sgm_abs {X:Nat}:∀ {n:Nat} {f:Nat->Int},(∀ i,i<n->(f i).natAbs<=X)->(sgm n f).natAbs<=n*X
 | 0,_,_=>by show (0:Int).natAbs<=_;simp
 | n+1,f,h=>by
  have h1:=sgm_abs (n:=n) (f:=f) fun i hi=>h i (by omega)
  have h2:=h n (by omega)
  have h3:=Int.natAbs_add_le (sgm n f) (f n);show (sgm n f+f n).natAbs<=(n+1)*X
  rw[Nat.succ_mul];omega
theorem sg_abs (k:Nat):(sg k).natAbs=1:=by unfold sg;split <;> rfl
theorem det_abs {E:Nat}:∀ (n:Nat) (M:Mx),n<=32->(∀ r c,r<n->c<n->(M r c).natAbs<=2 ^ E)->(det n M).natAbs<=2 ^ (n*(E+5))
 | 0,M,_,_=>by show (1:Int).natAbs<=2 ^ (0*(E+5));rw[Nat.zero_mul];decide
 | n+1,M,hn,h=>by
  rw[det_succ];refine Ys (sgm_abs (X:=2 ^ E*2 ^ (n*(E+5))) fun i hi=>?_) ?_
  ·rw[Zf,Zf,sg_abs,Nat.one_mul]
   exact Wj (h i n hi (by omega)) (det_abs n _ (by omega) fun r c hr hc=>h (skp i r) c (skp_lt hr) (by omega))
  ·have e:2 ^ ((n+1)*(E+5))=32*(2 ^ E*2 ^ (n*(E+5))):=by
    rw[Nat.succ_mul,Wf,Wf 2 E 5];have:(2:Nat) ^ 5=32:=rfl
    rw[this];ac_rfl
   rw[e];exact Y1 _ (by omega)
theorem Ba.bds {A B:Mx}{n k m:Nat}{d s:Int}{E:Nat}(h:Ba A n k d B m s)(hn:n<=32)(hk:m+k=n)(hA:∀ r c,r<n->c<n->(A r c).natAbs<=2 ^ E):d.natAbs<=2 ^ (n*(E+5))/\∀ i j,i<m->j<m->(B i j).natAbs<=2 ^ (n*(E+5)):=by
 refine⟨?_,fun i j hi hj=>?_⟩
 ·obtain⟨I',J',rg,e⟩:=h.lead
  rw[e];exact Ys (det_abs (E:=E) k _ (by omega) fun r c hr hc=>hA _ _ (rg r hr).1 (rg c hc).2) (Zy (by decide) (Y1 _ (by omega)))
 ·obtain⟨I',J',rg,e⟩:=h.mins 0 (fun _=>i) (fun _=>j) fun a ha=>⟨hi,hj⟩
  rw[det_one,Y9,Zg] at e;rw[e];exact Ys (det_abs (E:=E) (0+1+k) _ (by omega) fun r c hr hc=>hA _ _ (rg r hr).1 (rg c hc).2) (Zy (by decide) (Y1 _ (by omega)))
def prN:Nat->(Nat->Int)->Int
 | 0,_=>1
 | n+1,f=>prN n f*f n
theorem prN_shift (f:Nat->Int):∀ n,prN (n+1) f=f 0*prN n (fun i=>f (i+1))
 | 0=>by show 1*f 0=f 0*1;omega
 | n+1=>by
  show prN (n+1) f*f (n+1)=f 0*(prN n (fun i=>f (i+1))*f (n+1))
  rw[prN_shift f n,Wc]
theorem det_tri:∀ (n:Nat) (M:Mx),(∀ i j,j<i->i<n->M i j=0)->det n M=prN n fun i=>M i i
 | 0,_,_=>rfl
 | n+1,M,h=>by
  rw[first_col n M fun i h1 h2=>h i 0 h1 (by omega),prN_shift,det_tri n _ fun i j h1 h2=>h (i+1) (j+1) (by omega) (by omega)]
end L2
namespace L2
theorem det_comb {n:Nat}(M:Mx){p:Nat}(hp:p<n)(q:Nat->Nat)(a:Nat->Int):∀ m,(∀ k,k<m->q k<n/\q k≠p)->det n (setR M p fun c=>M p c+sgm m fun k=>a k*M (q k) c)=det n M
 | 0,_=>by
  have e:setR M p (fun c=>M p c+sgm 0 fun k=>a k*M (q k) c)=M:=by
   have:(fun c=>M p c+sgm 0 fun k=>a k*M (q k) c)=M p:=by
    funext c
    show M p c+0=M p c
    omega
   rw[this,setR_self]
  rw[e]
 | m+1,h=>by
  have e:(fun c=>M p c+sgm (m+1) fun k=>a k*M (q k) c)=fun c=>1*(M p c+sgm m fun k=>a k*M (q k) c)+a m*M (q m) c:=by
   funext c
   show M p c+(sgm m (fun k=>a k*M (q k) c)+a m*M (q m) c)=_
   omega
  have hq:=h m (by omega)
  rw[e,det_lin 1 (a m) (fun c=>M p c+sgm m fun k=>a k*M (q k) c) (M (q m)) n M p hp,det_comb M hp q a m fun k hk=>h k (by omega),det_same (M:=setR M p (M (q m))) hp hq.1 (fun z=>hq.2 z.symm) fun c=>?_]
  ·omega
  ·rw[setR_same,setR_ne hq.2]
theorem det_block {n:Nat}{A:Mx}:∀ (m:Nat) (M:Mx),(∀ r c,r<n->c<n->M r c=A r c)->(∀ r c,r<n->n<=c->M r c=0)->det (n+m) M=det n A*det m fun r c=>M (n+r) (n+c)
 | 0,M,h1,_=>by
  show det n M=det n A*1
  rw[det_congr h1];omega
 | m+1,M,h1,h2=>by
  show det (n+m+1) M=det n A*det (m+1) _
  rw[det_succ (n+m),det_succ m,<- sgm_mul];have split:∀ (f:Nat->Int) (a b:Nat),sgm (a+b) f=sgm a f+sgm b fun i=>f (a+i):=by
   intro f a b;induction b with
   | zero=>show sgm a f=sgm a f+0;omega
   | succ b ih=>show sgm (a+b) f+f (a+b)=sgm a f+(sgm b (fun i=>f (a+i))+f (a+b));rw[ih];omega
  rw[show n+m+1=n+(m+1) by omega,split,sgm_zero fun i hi=>?_,Z4]
  ·refine sgm_congr fun i hi=>?_
   have e1:n+m - (n+i)=m - i:=by omega
   rw[e1,det_block m (fun r c=>M (skp (n+i) r) c) (fun r c hr hc=>?_) (fun r c hr hc=>?_)]
   ·have e2:(fun r c=>M (skp (n+i) (n+r)) (n+c))=fun r c=>M (n+skp i r) (n+c):=by
     funext r c
     have:skp (n+i) (n+r)=n+skp i r:=by unfold skp;split <;> split <;> omega
     rw[this]
    show sg (m - i)*M (n+i) (n+m)*(det n A*det m fun r c=>M (skp (n+i) (n+r)) (n+c))=_
    rw[e2];generalize det m _=D;generalize det n A=D2;generalize sg (m - i)=S;generalize M (n+i) (n+m)=X;grind
   ·have:skp (n+i) r=r:=by unfold skp;rw[Wv (by omega)]
    rw[this];exact h1 r c hr hc
   ·have:skp (n+i) r=r:=by unfold skp;rw[Wv (by omega)]
    rw[this];exact h2 r c hr hc
  ·rw[h2 i (n+m) hi (by omega)]
   generalize sg _=S;generalize det _ _=D;grind
theorem det_behind {n:Nat}{C:Mx}:∀ (m:Nat) (M:Mx),(∀ r c,r<n->c<m->M r c=0)->(∀ r c,r<n->c<n->M r (m+c)=C r c)->(∀ r c,r<m->c<m->M (n+r) c=if r=c then -1 else 0)->det (n+m) M=(- sg n) ^ m*det n C
 | 0,M,_,h2,_=>by
  show det n M=_
  rw[Y9,Zg];exact det_congr fun r c hr hc=>by have:=h2 r c hr hc;rw[Wo] at this;exact this
 | m+1,M,h1,h2,h3=>by
  show det (n+m+1) M=_
  have e:=det_cyc (n:=n+m+1) n M (by omega)
  rw[first_col (n+m) _ fun i hi hle=>?_] at e
  ·have e0:M (cyc n 0) 0=-1:=by
    have:=h3 0 0 (by omega) (by omega)
    rw[Wv rfl] at this;exact this
   have ih:=det_behind (n:=n) (C:=C) m (fun r c=>M (skp n r) (c+1)) (fun r c hr hc=>?_) (fun r c hr hc=>?_) (fun r c hr hc=>?_)
   ·have e1:det (n+m) (fun r c=>M (cyc n (r+1)) (c+1))=(- sg n) ^ m*det n C:=ih
    rw[e0,e1] at e;have s2:=sg_sq n;have e2:det (n+m+1) M=sg n*(sg n*det (n+m+1) M):=by
     rw[<- Wc,s2,Zg]
    rw[e2,<- e,Y5];generalize (- sg n) ^ m=P;generalize det n C=D;generalize sg n=S;grind
   ·have:skp n r=r:=by unfold skp;rw[Wv hr]
    show M (skp n r) (c+1)=0
    rw[this];exact h1 r (c+1) hr (by omega)
   ·have:skp n r=r:=by unfold skp;rw[Wv hr]
    show M (skp n r) (m+c+1)=C r c
    rw[this,show m+c+1=m+1+c by omega];exact h2 r c hr hc
   ·have:skp n (n+r)=n+(r+1):=by unfold skp;rw[Wu (by omega)];omega
    show M (skp n (n+r)) (c+1)=_
    rw[this,h3 (r+1) (c+1) (by omega) (by omega)]
    by_cases z:r=c
    ·rw[Wv z,Wv (by omega)]
    ·rw[Wu z,Wu (by omega)]
  ·match i,hi with
   | i+1,_=>
    show M (skp n i) 0=0
    unfold skp;by_cases z:i<n
    ·rw[Wv z];exact h1 i 0 z (by omega)
    ·rw[Wu z]
     have e4:i+1=n+(i+1 - n):=by omega
     rw[e4,h3 (i+1 - n) 0 (by omega) (by omega),Wu (by omega)]
def mxm (n:Nat)(A B:Mx):Mx:=fun i c=>sgm n fun k=>A i k*B k c
def blk (n:Nat)(A B:Mx)(t:Nat):Mx:=fun r c=>
 if r<n then (if c<n then (if r<t then 0 else A r c) else (if r<t then mxm n A B r (c - n) else 0))
 else (if c<n then (if r - n=c then -1 else 0) else B (r - n) (c - n))
theorem blk_step (n:Nat)(A B:Mx):∀ t,t<=n->det (n+n) (blk n A B t)=det (n+n) (blk n A B 0)
 | 0,_=>rfl
 | t+1,h=>by
  rw[<- blk_step n A B t (by omega),<- det_comb (n:=n+n) (blk n A B t) (p:=t) (by omega) (fun k=>n+k) (fun k=>A t k) n fun k hk=>⟨by omega,by omega⟩]
  refine det_congr fun r c hr hc=>?_
  unfold setR;by_cases e:r=t
  ·subst e
   rw[Wv rfl];have hrn:r<n:=by omega
   by_cases hcn:c<n
   ·have e1:blk n A B (r+1) r c=0:=by unfold blk;rw[Wv hrn,Wv hcn,Wv (by omega)]
    have e2:blk n A B r r c=A r c:=by unfold blk;rw[Wv hrn,Wv hcn,Wu (by omega)]
    have e3:(sgm n fun k=>A r k*blk n A B r (n+k) c)=sgm n fun k=>if k=c then - A r c else 0:=sgm_congr fun k hk=>by
     unfold blk;rw[Wu (by omega),Wv hcn,show n+k - n=k by omega]
     by_cases z:k=c
     ·rw[Wv z,Wv z,z];omega
     ·rw[Wu z,Wu z];omega
    have e4:∀ m,c<m->(sgm m fun k=>if k=c then - A r c else 0)=- A r c:=by
     intro m;induction m with
     | zero=>intro h;omega
     | succ m ih=>
      intro h;show sgm m (fun k=>if k=c then - A r c else 0)+(if m=c then - A r c else 0)=_
      by_cases z:m=c
      ·subst z
       rw[Wv rfl,sgm_zero fun i hi=>Wu (by omega)];omega
      ·rw[Wu z,ih (by omega)];omega
    show _=blk n A B r r c+sgm n fun k=>A r k*blk n A B r (n+k) c
    rw[e1,e2,e3,e4 n hcn];omega
   ·have e1:blk n A B (r+1) r c=mxm n A B r (c - n):=by unfold blk;rw[Wv hrn,Wu hcn,Wv (by omega)]
    have e2:blk n A B r r c=0:=by unfold blk;rw[Wv hrn,Wu hcn,Wu (by omega)]
    have e3:(sgm n fun k=>A r k*blk n A B r (n+k) c)=mxm n A B r (c - n):=sgm_congr fun k hk=>by
     unfold blk;rw[Wu (by omega),Wu hcn,show n+k - n=k by omega]
    show _=blk n A B r r c+sgm n fun k=>A r k*blk n A B r (n+k) c
    rw[e1,e2,e3];omega
  ·rw[Wu e]
   unfold blk;by_cases hrn:r<n
   ·rw[Wv hrn,Wv hrn]
    have ez:(r<t+1)=(r<t):=propext ⟨fun h=>by omega,fun h=>by omega⟩
    simp only[ez]
   ·rw[Wu hrn,Wu hrn]
theorem sg_one (n:Nat):(- sg n) ^ n=1:=by
 rcases Nat.mod_two_eq_zero_or_one n with h | h
 ·have e:sg n=1:=Wv h
  obtain⟨k,hk⟩:∃ k,n=2*k:=⟨n / 2,by omega⟩
  rw[e,hk,Int.pow_mul];have:(-1:Int) ^ 2=1:=by decide
  rw[this,Int.one_pow]
 ·have e:sg n=-1:=Wu (by omega)
  rw[e,Int.neg_neg,Int.one_pow]
theorem det_mul (n:Nat)(A B:Mx):det n (mxm n A B)=det n A*det n B:=by
 have e1:det (n+n) (blk n A B 0)=det n A*det n B:=by
  rw[det_block (n:=n) (A:=A) n (blk n A B 0) (fun r c hr hc=>?_) (fun r c hr hc=>?_)]
  ·congr 1
   refine det_congr fun r c hr hc=>?_
   unfold blk;rw[Wu (by omega),Wu (by omega),show n+r - n=r by omega,show n+c - n=c by omega]
  ·unfold blk;rw[Wv hr,Wv hc,Wu (by omega)]
  ·unfold blk;rw[Wv hr,Wu (by omega),Wu (by omega)]
 have e2:det (n+n) (blk n A B n)=(- sg n) ^ n*det n (mxm n A B):=by
  refine det_behind (n:=n) (C:=mxm n A B) n (blk n A B n) (fun r c hr hc=>?_) (fun r c hr hc=>?_) (fun r c hr hc=>?_)
  ·unfold blk;rw[Wv hr,Wv hc,Wv hr]
  ·unfold blk;rw[Wv hr,Wu (by omega),Wv hr,show n+c - n=c by omega]
  ·unfold blk;rw[Wu (by omega),Wv hc,show n+r - n=r by omega]
 rw[sg_one,Zg] at e2;rw[<- e2,blk_step n A B n (Yd _),e1]
theorem det_low:∀ (n:Nat) (M:Mx),(∀ i j,i<j->j<n->M i j=0)->det n M=prN n fun i=>M i i
 | 0,_,_=>rfl
 | n+1,M,h=>by
  rw[det_succ];show sgm n _+_=prN n (fun i=>M i i)*M n n
  rw[sgm_zero fun i hi=>?_]
  ·have e:det n (fun r c=>M (skp n r) c)=det n M:=det_congr fun r c hr hc=>by
    have:skp n r=r:=by unfold skp;rw[Wv hr]
    rw[this]
   show 0+sg (n - n)*M n n*det n (fun r c=>M (skp n r) c)=_
   rw[e,Wi,det_low n M fun i j hi hj=>h i j hi (by omega)]
   have:sg 0=1:=rfl
   rw[this];generalize prN n _=P;generalize M n n=X;grind
  ·rw[h i n hi (by omega)]
   generalize sg _=S;generalize det _ _=D;grind
end L2
namespace L2
open PySem PySem.Spec PyProof.Rows
theorem ints_items:∀ {ns:List Int} {us:List Value},Vals (ns.map V.int) us->∃ xs:Array (Int×Tok),us.toArray=intItems xs/\xs.toList.map (·.1)=ns
 | [],_,.nil=>⟨#[],by simp[intItems],rfl⟩
 | n::ns,_,.cons r rr=>by
  obtain⟨t,rfl⟩:=(show ∃ t,_=Value.int n t from r)
  obtain⟨xs,e1,e2⟩:=ints_items rr;refine⟨((n,t)::xs.toList).toArray,?_,by simp[e2]⟩
  have e3:=Wz Array.toList e1;apply Array.toList_inj.mp
  simp only[intItems,Array.toList_map] at e3 ⊢
  simp[e3]
theorem numAt_coef {xs:Array (Int×Tok)}{ns:List Int}(h:xs.toList.map (·.1)=ns)(i:Nat):numAt xs i=coef ns i:=by
 unfold numAt coef;rw[<- h,Yb,Ye];simp
end L2
namespace L2
open PySem PySem.Spec PyProof.Rows
def dl (f:List Int):List Int:=(Yj (f.length - 1)).map fun i=>((i+1:Nat):Int)*coef f (i+1)
theorem coef_dl (f:List Int)(m:Nat):coef (dl f) m=((m+1:Nat):Int)*coef f (m+1):=
 coef_map_range' (c:=fun i=>((i+1:Nat):Int)*coef f (i+1)) (fun i hi=>by rw[coef_ge (by omega),Y8]) m
theorem norm_dl {f:List Int}(h:Norm f):Norm (dl f):=by
 by_cases hl:f.length<=1
 ·left
  unfold dl;have:f.length - 1=0:=by omega
  rw[this];rfl
 ·right
  have e:(dl f).length=f.length - 1:=by unfold dl;simp
  rw[coef_dl,e];have e2:f.length - 1 - 1+1=f.length - 1:=by omega
  rw[e2];refine Int.mul_ne_zero (by omega) (h.last fun z=>by rw[z] at hl;exact hl (by decide))
end L2
namespace L2
abbrev Fn:=Nat->Int
theorem sgm_sumN (f:Nat->Int):∀ n,sgm n f=sumN n f
 | 0=>rfl
 | n+1=>by
  show sgm n f+f n=sumN n f+f n
  rw[sgm_sumN f n]
def xp (i:Nat):Fn:=fun k=>if k=i then 1 else 0
structure Top (f:Fn)(n:Nat):Prop where
 one:f n=1
 top:∀ m,n<m->f m=0
structure Rst (f:Fn)(n:Nat)(u r:Fn):Prop where
 ex:∃ (q:Fn) (N:Nat),(∀ m,N<=m->q m=0)/\∀ m,u m=cv q f m+r m
 lo:∀ m,n<=m->r m=0
theorem cv_top {d f:Fn}{n t:Nat}(hf:Top f n)(hd:∀ i,t<i->d i=0):cv d f (t+n)=d t:=by
 unfold cv;rw[sumN_one (k:=t) (by omega) fun i hi hne=>?_]
 ·rw[show t+n - t=n by omega,hf.one,Wm]
 ·by_cases c:t<i
  ·rw[hd i c,Z9]
  ·rw[hf.top _ (by omega),Y8]
theorem cv_sub (a b c:Fn)(m:Nat):cv (fun i=>a i - b i) c m=cv a c m - cv b c m:=by
 have h:=cv_add (fun i=>a i - b i) b c m
 have e:(fun i=>a i - b i+b i)=a:=by funext i;omega
 rw[e] at h;omega
theorem Rst.uniq {f:Fn}{n:Nat}{u r s:Fn}(hf:Top f n)(h:Rst f n u r)(h':Rst f n u s):r=s:=by
 obtain⟨⟨q,N,hq,e⟩,lo⟩:=h;obtain⟨⟨q',N',hq',e'⟩,lo'⟩:=h';have eq1:∀ m,cv (fun i=>q i - q' i) f m=s m - r m:=fun m=>by
  rw[cv_sub];have:=e m
  have:=e' m
  omega
 have dz:∀ k t,max N N' - k<=t->q t - q' t=0:=by
  intro k;induction k with
  | zero=>intro t ht;rw[hq t (by omega),hq' t (by omega)];rfl
  | succ k ih=>
   intro t ht;by_cases c:max N N' - k<=t
   ·exact ih t c
   ·have:=cv_top (d:=fun i=>q i - q' i) (t:=t) hf fun i hi=>ih i (by omega)
    rw[eq1,lo _ (by omega),lo' _ (by omega)] at this
    exact this.symm
 funext m
 have h0:(fun i=>q i - q' i)=fun _=>0:=funext fun t=>dz (max N N') t (by omega)
 have:=eq1 m
 rw[h0,cv_zero] at this;omega
theorem cv_smul (k:Int)(a c:Fn)(m:Nat):cv (fun i=>k*a i) c m=k*cv a c m:=by
 unfold cv;rw[<- sumN_mul];exact sumN_congr fun i hi=>by rw[Wc]
theorem Rst.add {f:Fn}{n:Nat}{u r v s:Fn}(h:Rst f n u r)(h':Rst f n v s)(k:Int):Rst f n (fun m=>u m+k*v m) (fun m=>r m+k*s m):=by
 obtain⟨⟨q,N,hq,e⟩,lo⟩:=h;obtain⟨⟨q',N',hq',e'⟩,lo'⟩:=h';refine⟨⟨fun i=>q i+k*q' i,max N N',fun m hm=>by show q m+k*q' m=0;rw[hq m (by omega),hq' m (by omega)];omega,fun m=>?_⟩,fun m hm=>by show r m+k*s m=0;rw[lo m hm,lo' m hm];omega⟩
 rw[cv_add,cv_smul,e m,e' m,Int.mul_add];omega
theorem Rst.zero (f:Fn)(n:Nat):Rst f n (fun _=>0) (fun _=>0):=⟨⟨fun _=>0,0,fun _ _=>rfl,fun m=>by rw[cv_zero];rfl⟩,fun _ _=>rfl⟩
theorem Rst.sum {f:Fn}{n:Nat}{u r:Nat->Fn}(a:Nat->Int):∀ m,(∀ k,k<m->Rst f n (u k) (r k))->Rst f n (fun c=>sgm m fun k=>a k*u k c) (fun c=>sgm m fun k=>a k*r k c)
 | 0,_=>Rst.zero f n
 | m+1,h=>(Rst.sum a m fun k hk=>h k (by omega)).add (h m (by omega)) (a m)
theorem Rst.next {f:Fn}{n:Nat}{p u r s:Fn}{P:Nat}(hp:∀ m,P<=m->p m=0)(h:Rst f n u r)(h':Rst f n (cv p r) s):Rst f n (cv p u) s:=by
 obtain⟨⟨q,N,hq,e⟩,lo⟩:=h;obtain⟨⟨q',N',hq',e'⟩,lo'⟩:=h';refine⟨⟨fun i=>cv p q i+q' i,max (P+N) N',fun m hm=>?_,fun m=>?_⟩,lo'⟩
 ·show cv p q m+q' m=0
  rw[hq' m (by omega)]
  unfold cv;rw[sumN_zero fun i hi=>?_]
  ·rfl
  ·by_cases c:P<=i
   ·rw[hp i c,Z9]
   ·rw[hq (m - i) (by omega),Y8]
 ·have e1:cv p u m=cv p (fun i=>cv q f i+r i) m:=cv_congr (fun i _=>rfl) fun i _=>e i
  rw[e1,cv_addR,cv_add,<- cv_assoc,e' m];omega
theorem Rst.self {f:Fn}{n:Nat}{u:Fn}(h:∀ m,n<=m->u m=0):Rst f n u u:=⟨⟨fun _=>0,0,fun _ _=>rfl,fun m=>by rw[cv_zero];omega⟩,h⟩
theorem cv_xp (i:Nat)(u:Fn)(m:Nat):cv (xp i) u m=if i<=m then u (m - i) else 0:=by
 unfold cv xp;by_cases c:i<=m
 ·rw[Wv c,sumN_one (k:=i) (by omega) fun j hj hne=>by rw[Wu hne,Z9],Wv rfl,Zg]
 ·rw[Wu c,sumN_zero fun j hj=>by rw[Wu (by omega),Z9]]
theorem xp_zero (i m:Nat)(h:i+1<=m):xp i m=0:=Wu (by omega)
theorem xp_succ (i:Nat)(u:Fn):cv (xp (i+1)) u=cv (xp 1) (cv (xp i) u):=by
 funext m
 rw[cv_xp,cv_xp];by_cases c:1<=m
 ·rw[Wv c,cv_xp]
  by_cases c2:i<=m - 1
  ·rw[Wv c2,Wv (by omega),show m - 1 - i=m - (i+1) by omega]
  ·rw[Wu c2,Wu (by omega)]
 ·rw[Wu c,Wu (by omega)]
structure Rows (f:Fn)(n:Nat)(g:Fn)(R:Nat->Fn):Prop where
 zero:Rst f n g (R 0)
 succ:∀ i,Rst f n (cv (xp 1) (R i)) (R (i+1))
theorem Rows.at {f:Fn}{n:Nat}{g:Fn}{R:Nat->Fn}(h:Rows f n g R):∀ i,Rst f n (cv (xp i) g) (R i)
 | 0=>by
  have:cv (xp 0) g=g:=by funext m;rw[cv_xp,Wv (by omega)];rfl
  rw[this];exact h.zero
 | i+1=>by
  rw[xp_succ];exact Rst.next (fun m hm=>xp_zero 1 m hm) (h.at i) (h.succ i)
theorem Rows.comb {f:Fn}{n:Nat}{g:Fn}{R:Nat->Fn}(h:Rows f n g R){p:Fn}{P:Nat}(hp:∀ m,P<=m->p m=0):Rst f n (cv p g) fun c=>sgm P fun k=>p k*R k c:=by
 have e:cv p g=fun c=>sgm P fun k=>p k*cv (xp k) g c:=by
  funext c
  rw[sgm_sumN];have e1:∀ k,k<P->p k*cv (xp k) g c=if k<=c then p k*g (c - k) else 0:=fun k _=>by
   rw[cv_xp];split
   ·rfl
   ·rw[Y8]
  rw[sumN_congr e1];unfold cv;by_cases z:P<=c+1
  ·have:c+1=P+(c+1 - P):=by omega
   rw[this,sumN_split,sumN_zero (f:=fun i=>p (P+i)*_) fun i hi=>by rw[hp _ (by omega),Z9],Int.add_zero]
   exact sumN_congr fun i hi=>by rw[Wv (by omega)]
  ·obtain⟨d,rfl⟩:∃ d,P=(c+1)+d:=⟨P - (c+1),by omega⟩
   have s1:=sumN_split (fun i=>if i<=c then p i*g (c - i) else 0) (c+1) d
   have s2:(sumN d fun i=>if c+1+i<=c then p (c+1+i)*g (c - (c+1+i)) else 0)=0:=sumN_zero fun i hi=>Wu (by omega)
   rw[s1,s2,Int.add_zero];exact sumN_congr fun i hi=>(Wv (by omega)).symm
 rw[e];exact Rst.sum p P fun k _=>h.at k
end L2
namespace L2
def tk (f:Fn)(n:Nat):Nat->Fn
 | 0=>xp 0
 | k+1=>fun m=>(if m=0 then 0 else tk f n k (m - 1)) - tk f n k (n - 1)*f m
section
variable {f:Fn} {n:Nat}
theorem tk_lo (hf:Top f n)(hn:1<=n):∀ k m,n<=m->tk f n k m=0
 | 0,m,h=>Wu (by omega)
 | k+1,m,h=>by
  show (if m=0 then 0 else tk f n k (m - 1)) - tk f n k (n - 1)*f m=0
  rw[Wu (by omega)]
  by_cases c:m=n
  ·rw[c,hf.one];omega
  ·rw[hf.top m (by omega),tk_lo hf hn k (m - 1) (by omega)];omega
theorem tk_rst (hf:Top f n)(hn:1<=n):∀ k,Rst f n (xp k) (tk f n k)
 | 0=>Rst.self fun m hm=>tk_lo hf hn 0 m hm
 | k+1=>by
  have e:xp (k+1)=cv (xp 1) (xp k):=by
   funext m
   rw[cv_xp];unfold xp;by_cases c:1<=m
   ·rw[Wv c]
    by_cases c2:m=k+1
    ·rw[Wv c2,Wv (by omega)]
    ·rw[Wu c2,Wu (by omega)]
   ·rw[Wu c,Wu (by omega)]
  rw[e];refine Rst.next (fun m hm=>xp_zero 1 m hm) (tk_rst hf hn k) ⟨⟨fun i=>if i=0 then tk f n k (n - 1) else 0,1,fun m hm=>Wu (by omega),fun m=>?_⟩,tk_lo hf hn (k+1)⟩
  have e1:cv (fun i=>if i=0 then tk f n k (n - 1) else 0) f m=tk f n k (n - 1)*f m:=cv_unit (Wv rfl) (fun i hi=>Wu (by omega)) m
  rw[e1,cv_xp];show _=_+((if m=0 then 0 else tk f n k (m - 1)) - tk f n k (n - 1)*f m)
  by_cases c:1<=m
  ·rw[Wv c,Wu (by omega)];omega
  ·rw[Wu c,Wv (by omega)];omega
def wb (W c:Nat)(u:Fn):Prop:=∀ j,(u j).natAbs*W ^ j<=c
theorem wb_tk (hf:Top f n)(hn:1<=n){W:Nat}(hW:1<=W)(hb:wb W ((2*W) ^ n) f):∀ k,wb W ((W*(1+2 ^ n)) ^ k) (tk f n k)
 | 0,j=>by
  show (xp 0 j).natAbs*W ^ j<=1
  unfold xp;by_cases c:j=0
  ·rw[Wv c,c];simp
  ·rw[Wu c];simp
 | k+1,j=>by
  have ih:=wb_tk hf hn hW hb k;show ((if j=0 then 0 else tk f n k (j - 1)) - tk f n k (n - 1)*f j).natAbs*W ^ j<=_
  generalize hc:(W*(1+2 ^ n)) ^ k=c at ih;have h1:(if j=0 then (0:Int) else tk f n k (j - 1)).natAbs*W ^ j<=c*W:=by
   by_cases z:j=0
   ·rw[Wv z];simp
   ·rw[Wu z]
    have:=Y1 W (ih (j - 1))
    rw[Nat.mul_assoc,<- Z5,show (j - 1).succ=j by omega] at this
    exact this
  have h2:(tk f n k (n - 1)*f j).natAbs*W ^ j<=c*W*2 ^ n:=by
   rw[Zf,Nat.mul_assoc];have a1:=Zr (tk f n k (n - 1)).natAbs (hb j);refine Ys a1 ?_
   have e:(tk f n k (n - 1)).natAbs*(2*W) ^ n=(tk f n k (n - 1)).natAbs*W ^ (n - 1)*(W*2 ^ n):=by
    rw[Nat.mul_pow];have:W ^ n=W ^ (n - 1)*W:=by rw[<- Z5,show (n - 1).succ=n by omega]
    rw[this];ac_rfl
   rw[e,Nat.mul_assoc c];exact Y1 _ (ih (n - 1))
  have h3:=Int.natAbs_sub_le (if j=0 then (0:Int) else tk f n k (j - 1)) (tk f n k (n - 1)*f j)
  refine Ys (Y1 _ h3) ?_
  rw[Wg,Z5,hc,<- Nat.mul_assoc,Nat.mul_add,Nat.mul_one];exact Nat.add_le_add h1 h2
end
end L2
namespace L2
def tg:Nat->Int
 | 0=>1
 | n+1=>tg n*sg n
end L2
namespace L2
open PySem PySem.Spec PyProof.Rows
theorem relabel_back2 {env:Env}:∀ {names:List (Str×NameKind)} {x:Str} {kd:NameKind},kd=.cell\/kd=.free->
  (names.map fun (n,k)=>if (k == NameKind.free && env.scope.kind == .function && env.kindOf n == some .cell) then (n,NameKind.cell) else (n,k)).lookup x=some kd->names.lookup x=some .free\/names.lookup x=some .cell
 | [],_,_,_,h=>by simp at h
 | (n,k)::r,x,kd,hk,h=>by
  have ih:=@relabel_back2 env r x kd hk;have h':List.lookup x ((if (k == NameKind.free && env.scope.kind == .function && env.kindOf n == some .cell)=true then (n,NameKind.cell) else (n,k))::(r.map fun (n,k)=>if (k == NameKind.free && env.scope.kind == .function && env.kindOf n == some .cell) then (n,NameKind.cell) else (n,k)))=some kd:=h
  by_cases hc:(k == NameKind.free && env.scope.kind == .function && env.kindOf n == some .cell)=true
  ·rw[Wv hc] at h'
   have hkf:k=.free:=by
    simp only[Bool.and_eq_true,beq_iff_eq] at hc
    exact hc.1.1
   subst hkf;cases hx:x == n with
   | true=>exact .inl (by simp only[Yx,hx])
   | false=>simp only[Yx,hx] at h' ⊢;exact ih h'
  ·rw[Wu hc] at h'
   cases hx:x == n with
   | true=>
    simp only[Yx,hx] at h' ⊢
    have e:k=kd:=Option.some.inj h';subst e;rcases hk with hk | hk
    ·rw[hk];exact .inr rfl
    ·rw[hk];exact .inl rfl
   | false=>simp only[Yx,hx] at h' ⊢;exact ih h'
structure CompScopeC (X:Cx)(N:List Str)(sl:List (Option Nat))(scope:Scope)(own:Str):Prop where
 kind:scope.kind=.function
 cells:∀ n acc,cellsFrom n scope.names acc=(own,n)::acc
 push:∀ h,pushCells h scope.names=h.push { cls:=.type "cell",data:=.cell none }
 cell1:∀ x,scope.names.lookup x=some .cell->x=own
 ownc:scope.names.lookup own=some .cell
 locs:∀ y∈scope.names,y.2=.local->scope.names.lookup y.1=some .local
 frees:∀ y∈scope.names,y.2=.free->X.env.kindOf y.1=some .cell\/X.env.kindOf y.1=some .free
 len:sl.length=N.length
 out:∀ (j i:Nat) (x:Str),N[j]?=some x->sl[j]?=some (some i)->X.N[i]?=some x/\scope.names.lookup x=some .free
abbrev cmpCxC (X:Cx)(N:List Str)(scope:Scope)(own:Str)(cl:List (Str×Addr))(C:Addr)(s2:Shared)(H2:Hp)(fp:List Addr):Cx:=
 { X with N:=N,s₀:=s2,H₀:=H2,env:=compEnvC scope cl C X.env,outer:=X.stack,ex:=fp,fn:=fun x=>decide (x=own),pn:=[],xe:=fun _ _=>False }
theorem newEnv_one {M:Model}{A:Around}{E:Value->Shared->Prop}{s:Shared}{scope:Scope}{own:Str}{globals:Addr}{cl:List (Str×Addr)}{qual:Str}{env:Env}{Q:Env->Shared->Prop}
  (hc:∀ n acc,cellsFrom n scope.names acc=(own,n)::acc) (hp:∀ h,pushCells h scope.names=h.push { cls:=.type "cell",data:=.cell none })
  (hQ:Q (newEnv scope s.heap.objs.size globals ((own,s.heap.objs.size+1)::cl) qual none .none (some env) builtinsNs) { s with heap:=(s.heap.push { cls:=.type "dict",data:=.dict #[] }).push { cls:=.type "cell",data:=.cell none } }):
  wpAny M A (newFunctionEnv scope globals cl [] qual none .none (some env)) Q E s:=by
 simp only[newFunctionEnv,Option.isSome_some,if_true]
 refine wpAny_bind (wpAny_alloc ?_)
 refine wpAny_bind (wpAny_layCells _ (fun name kind cells=>by cases hkc:kind == NameKind.cell <;> simp[hkc]) _ _ _ _ ?_)
 rw[hc,hp];rw[show ({ s with heap:=s.heap.push { cls:=.type "dict",data:=.dict #[] } }:Shared).heap.objs.size=s.heap.objs.size+1 from Heap.size_push ..]
 rw[List.forIn_nil];exact wpAny_bind (wpAny_pure (wpAny_pure hQ))
section
variable {X:Cx} {N:List Str} {sl:List (Option Nat)} {scope:Scope} {own:Str}
theorem CompScopeC.clos (S:CompScopeC X N sl scope own)(ok:X.Ok):closureFor scope X.env=pure (closOf X.env.cells scope.names []):=
 closureFor_eq fun y hy hf=>ok.has y.1 (S.frees y hy hf)
theorem CompScopeC.cell0 (S:CompScopeC X N sl scope own){x:Str}(hf:scope.names.lookup x=some .free){c:Addr}(hc:X.env.cells.lookup x=some c):(closOf X.env.cells scope.names []).lookup x=some c:=
 closOf_has hc _ _ (.inr (PySem.mem_of_lookup hf)) fun d hd=>by simp at hd
theorem CompScopeC.cell (S:CompScopeC X N sl scope own){x:Str}(hf:scope.names.lookup x=some .free){c c0:Addr}(hc:X.env.cells.lookup x=some c):((own,c0)::closOf X.env.cells scope.names []).lookup x=some c:=by
 have hne:(x == own)=false:=by
  refine beq_eq_false_iff_ne.mpr fun z=>?_
  subst z;rw[S.ownc] at hf;cases hf
 rw[Yx,hne];exact S.cell0 hf hc
theorem lookC {cl:List (Str×Addr)}{x:Str}{c c0:Addr}(h:((own,c0)::cl).lookup x=some c):(x=own/\c=c0)\/(x≠own/\cl.lookup x=some c):=by
 rw[Yx] at h;cases e:x == own with
 | true=>rw[e] at h;exact .inl ⟨by simpa using e,(Option.some.inj h).symm⟩
 | false=>rw[e] at h;exact .inr ⟨by simpa using e,h⟩
theorem CompScopeC.ok (S:CompScopeC X N sl scope own){pins:List (Addr×Obj)}{σ:St}{H2:Hp}{s2:Shared}{fp:List Addr}{C c0:Addr}(I:Inv X pins σ H2 s2)(hf:∀ b∈fp,FpOk X pins H2 b)(hlt:∀ b∈fp,b<s2.heap.objs.size)(hC:s2.heap.objs.size<=C)(hc0:s2.heap.objs.size<=c0):
  (cmpCxC X N scope own ((own,c0)::closOf X.env.cells scope.names []) C s2 H2 fp).Ok where
 mod:=I.ok.mod
 kind:=S.kind
 glob:=I.ok.glob
 blt:=I.ok.blt
 above:=hC
 inj:=fun x y c h1 h2=>by
  rcases lookC h1 with ⟨e1,e2⟩ | ⟨e1,e2⟩
  ·rcases lookC h2 with ⟨e3,e4⟩ | ⟨e3,e4⟩
   ·rw[e1,e3]
   ·obtain⟨v,q⟩:=I.cell y c (CompScope.back e4)
    have:=q.lt
    rw[e2] at this;exact W1 (Yh this hc0) (Zh _)
  ·rcases lookC h2 with ⟨e3,e4⟩ | ⟨e3,e4⟩
   ·obtain⟨v,q⟩:=I.cell x c (CompScope.back e2)
    have:=q.lt
    rw[e4] at this;exact W1 (Yh this hc0) (Zh _)
   ·exact I.ok.inj x y c (CompScope.back e2) (CompScope.back e4)
 has:=fun x hx=>by
  have hx':scope.names.lookup x=some .free\/scope.names.lookup x=some .cell:=by
   rcases hx with hx | hx
   ·exact relabel_back2 (.inl rfl) hx
   ·exact relabel_back2 (.inr rfl) hx
  rcases hx' with hx' | hx'
  ·obtain⟨c,hc⟩:=I.ok.has x (S.frees _ (PySem.mem_of_lookup hx') rfl)
   exact⟨c,S.cell hx' hc⟩
  ·have:=S.cell1 x hx'
   subst this;exact⟨c0,by show List.lookup x ((x,c0)::_)=_;rw[Yx,beq_self_eq_true]⟩
 cab:=fun x c h hl=>by
  rcases lookC hl with ⟨_,e2⟩ | ⟨e1,_⟩
  ·rw[e2];exact hc0
  ·exact W1 (Wx h) e1
 hd:=I.ok.hd
 frames:=I.ok.frames
 stk:=.inl rfl
 exf:=fun b hb=>⟨Ym (Yh (hlt b hb) hC),fun x c h=>by
  rcases lookC h with ⟨_,e2⟩ | ⟨_,e2⟩
  ·rw[e2];exact Nat.ne_of_gt (Yh (hlt b hb) hc0)
  ·exact (hf b hb).2.2.2.2.1 x c (CompScope.back e2)⟩
 bs:=I.bs
 bsz:=Ys I.ok.bsz I.sz
 noex:=fun b o e hb=>by
  rcases (hf b hb).2.2.2.1 with z | z
  ·exact I.ok.noex b o e z
  ·exact W1 (Yh (Yh (Yi e) I.ok.bsz) z) (Zh _)
 exfs:=fun b hb z=>by
  rcases List.mem_cons.mp (I.stkSub b z) with e | e
  ·exact (hf b hb).2.1 e
  ·exact (hf b hb).2.2.1 e
 funs:=I.stack
 frf:=I.stkFree
theorem CompScopeC.again (S:CompScopeC X N sl scope own){pins:List (Addr×Obj)}{σ:St}{H2:Hp}{s2:Shared}{fp:List Addr}{C c0:Addr}(I:Inv X pins σ H2 s2)(hf:∀ b∈fp,FpOk X pins H2 b)
  {pins':List (Addr×Obj)} {σ':St} {H':Hp} {s':Shared} (J:Inv (cmpCxC X N scope own ((own,c0)::closOf X.env.cells scope.names []) C s2 H2 fp) pins' σ' H' s'):
  Inv (cmpCxC X N scope own ((own,c0)::closOf X.env.cells scope.names []) C s2 H2 fp) pins' (innerSt sl σ) H' s':=by
 obtain⟨m,hn,_⟩:=J.loc;refine⟨J.ok,J.os,J.bare,J.base,⟨m,hn,fun j x v e1 e2 _=>?_⟩,J.cell,J.free,J.freeC,J.pin,J.hok,?_⟩
 ·obtain⟨i,h1,h2⟩:=innerSt_get e2
  obtain⟨hN,hfree⟩:=S.out j i x e1 h1;have hk:=S.frees _ (PySem.mem_of_lookup hfree) rfl;obtain⟨m0,hn0,hl0⟩:=I.loc;have hv:Vis X.env.scope x:=by
   rcases hk with hk | hk
   ·exact .inr (.inl hk)
   ·exact .inr (.inr hk)
  obtain⟨u,r,l⟩:=hl0 i x v hN h2 hv;refine⟨u,r,.inr ⟨?_,?_⟩⟩
  ·rcases lookup_relabel_free (env:=X.env) hfree with z | z
   ·exact .inr z
   ·exact .inl z
  ·rcases l with ⟨z,_⟩ | ⟨_,c,hc,q⟩
   ·rcases hk with hk | hk
    ·have hk':X.env.kindOf x=some .cell:=hk
     rw[hk'] at z;cases z
    ·have hk':X.env.kindOf x=some .free:=hk
     rw[hk'] at z;cases z
   ·refine⟨c,S.cell hfree hc,?_⟩
    obtain⟨o,ho,hd⟩:=q;have ncfp:c ∉ fp:=fun z=>(hf c z).2.2.2.2.1 x c hc rfl
    obtain⟨sl',e⟩:=J.base.any ho (I.freeC x c hc) ncfp;exact⟨_,e,hd⟩
 ·unfold innerSt
  rw[Ya];exact S.len
theorem comp_runC {elt tg iter:Expr}{ifs:List Expr}{pos pos2:Pos}{wi:TI}{g:TG}{tif:TT}{te:TE}{use:Option (Value->Sem Unit)}{QQ:Value->Shared->Prop}(S:CompScopeC X N sl scope own)(hcalm:X.calm=true)(hi:PI X tg iter wi)
  (hg:∀ cl C s2 H2 fp,PG (cmpCxC X N scope own cl C s2 H2 fp) tg g) (hif:∀ cl C s2 H2 fp,PIf (cmpCxC X N scope own cl C s2 H2 fp) ifs tif) (he:∀ cl C s2 H2 fp,PE (cmpCxC X N scope own cl C s2 H2 fp) elt te)
  (hs:∀ x,foldedSetIterable iter X.env x=pure x) {pins:List (Addr×Obj)} {s:Shared} {σ:St} {H:Hp} {Q:VK} (I:Inv X pins σ H s) (h:tComp wi sl g tif te σ H Q)
  (hend:∀ (D C:Addr) (H3:Hp) (s4:Shared) (fl:Flow),Inv X pins σ H3 s4->H3 C=none->C≠X.env.locals->C ∉ X.fs->X.s₀.heap.objs.size<=C->(∀ x c,X.env.cells.lookup x=some c->c≠C)->(∀ p∈X.pn++pins,p.1≠C)->(∃ m,s4.heap.Ns C m)->Q (.ref D) H3->
   compPost (model X.prog X.w) X.A X.xe use QQ (.ref D) C (.ok fl) s4):
  wpAny (model X.prog X.w) X.A (comprehension (.ListComp elt [⟨tg,iter,ifs,0⟩] scope pos) scope X.env pos2 (newList []) false (eval iter X.env) use) QQ X.xe s:=by
 refine wpAny_comprehension_free (use:=use) rfl hs (S.clos I.ok) S.kind S.locs (wpAny_mono (hi pins s σ H _ I h) (fun xv s1 h1=>wpAny_mono h1 (fun itv s2 h2=>?_) fun _ _ e=>e) fun _ _ e=>e)
 obtain⟨it,fp,tn,J,H2,rfl,I2,T,st2,f2,hR⟩:=h2;obtain⟨W,⟨m0,w0⟩,turn⟩:=hR _ I2.fresh;refine wpAny_newObj_type (newEnv_one S.cells S.push ?_)
 dsimp only
 generalize hP:s2.heap.push { cls:=.type "list",dict:=none,data:=.seq ([]:List Value).toArray }=P2;generalize hh1:(P2.push { cls:=.type "dict",data:=.dict #[] }).push { cls:=.type "cell",data:=.cell none }=h₁;have hC:P2.objs.size=s2.heap.objs.size+1:=by rw[<- hP,Heap.size_push]
 have hDC:s2.heap.objs.size≠P2.objs.size:=by rw[hC];exact Ym (Nat.lt_succ_self _)
 have hCle:s2.heap.objs.size<=P2.objs.size:=by rw[hC];exact Ws _
 have hcle:s2.heap.objs.size<=P2.objs.size+1:=Nat.le_succ_of_le hCle;have hDc:s2.heap.objs.size≠P2.objs.size+1:=by rw[hC];exact Ym (Nat.lt_succ_of_lt (Nat.lt_succ_self _))
 have hns₁:h₁.Ns P2.objs.size (fun _=>none):=hh1 ▸ (Heap.Ns.new P2 (.type "dict")).keeps (fun b o e=>Yf _ e)
 have hlt:∀ b∈fp,b<s2.heap.objs.size:=fun b hb=>let ⟨o,e,_⟩:=T.obj 0 _ st2 b hb;Yi e
 have old:∀ b o,s2.heap.get? b=some o->h₁.get? b=some o:=fun b o e=>hh1 ▸ Yf _ (Yf _ (hP ▸ Yf _ e))
 have hD1:h₁.get? s2.heap.objs.size=some { cls:=.type "list",dict:=none,data:=.seq ([]:List Value).toArray }:=hh1 ▸ Yf _ (Yf _ (hP ▸ Yt _ rfl));have hc1:h₁.IsCell (P2.objs.size+1) none:=by
  have:(P2.push { cls:=.type "dict",data:=.dict #[] }).objs.size=P2.objs.size+1:=Heap.size_push ..
  rw[<- this,<- hh1];exact⟨_,Yt _ rfl,rfl⟩
 have hok:=S.ok (C:=P2.objs.size) (c0:=P2.objs.size+1) I2 f2 hlt hCle hcle;have hokH:HOk X.prog X.w (upd H2 s2.heap.objs.size (.lst [])) h₁:=I2.hok.laid old (Yd _) ⟨Y7 _,[],_,.nil,hD1⟩;have hUn:Un (frs X.stack) fp H2 (upd H2 s2.heap.objs.size (.lst [])) s2.heap h₁:=Un.laid old (Yd _) I2.fresh;have hcellK:∀ x c,((own,P2.objs.size+1)::closOf X.env.cells scope.names []).lookup x=some c->∃ v,h₁.IsCell c v:=fun x c hc=>by
  rcases lookC hc with ⟨_,e2⟩ | ⟨_,e2⟩
  ·rw[e2];exact⟨_,hc1⟩
  ·obtain⟨v,o,ho,hd⟩:=I2.cell x c (CompScope.back e2)
   exact⟨v,o,old c o ho,hd⟩
 have hfreeK:∀ x c,((own,P2.objs.size+1)::closOf X.env.cells scope.names []).lookup x=some c->upd H2 s2.heap.objs.size (.lst []) c=none:=fun x c hc=>by
  rcases lookC hc with ⟨_,e2⟩ | ⟨_,e2⟩
  ·rw[e2,upd_ne (Ne.symm hDc)]
   exact I2.hok.fresh hcle
  ·obtain⟨v,q⟩:=I2.cell x c (CompScope.back e2)
   rw[upd_ne (Ym q.lt)];exact I2.freeC x c (CompScope.back e2)
 have hfreeC:upd H2 s2.heap.objs.size (.lst []) P2.objs.size=none:=by
  rw[upd_ne (Ne.symm hDC)];exact I2.hok.fresh hCle
 have start:∀ tk:Nat,Inv (cmpCxC X N scope own ((own,P2.objs.size+1)::closOf X.env.cells scope.names []) P2.objs.size s2 H2 fp) [] (innerSt sl σ) (upd H2 s2.heap.objs.size (.lst [])) { s2 with heap:=h₁,toks:=tk }:=fun tk=>by
  have J0:Inv (cmpCxC X N scope own ((own,P2.objs.size+1)::closOf X.env.cells scope.names []) P2.objs.size s2 H2 fp) [] (Yp N.length none) (upd H2 s2.heap.objs.size (.lst [])) { s2 with heap:=h₁,toks:=tk }:=
   ⟨hok,rfl,I2.bare,hUn,⟨_,hns₁,fun i x v e1 e2 _=>by
    rw[List.getElem?_replicate] at e2;split at e2 <;> cases e2⟩,hcellK,hfreeC,hfreeK,fun p hp=>W1 (show p∈([]:List (Addr×Obj)) from hp) (by simp),hokH,by simp⟩
  exact S.again I2 f2 J0
 have stK:tn 0 h₁:=T.keep _ _ _ st2 fun b hb o e=>old b o e
 have fr1:∀ b∈fp,upd H2 s2.heap.objs.size (.lst []) b=none:=fun b hb=>by
  rw[upd_ne (Ym (hlt b hb))];exact (f2 b hb).1
 have stat:∀ {H':Hp},(∀ b∈fp,H' b=none)->∀ b∈fp,FpOk (cmpCxC X N scope own ((own,P2.objs.size+1)::closOf X.env.cells scope.names []) P2.objs.size s2 H2 fp) [] H' b:=fun hn b hb=>
  ⟨hn b hb,Ym (Yh (hlt b hb) hCle),fun z=>hok.exfs b hb z,.inl hb,fun x c hc=>(hok.exf b hb).2 x c hc,fun p hp=>W1 (show p∈([]:List (Addr×Obj)) from hp) (by simp)⟩
 have loop:∀ tk:Nat,codeAny (model X.prog X.w) X.A (.compLoop (.ListComp elt [⟨tg,iter,ifs,0⟩] scope pos) 0 (.ref it) (.ref s2.heap.objs.size) (compEnvC scope ((own,P2.objs.size+1)::closOf X.env.cells scope.names []) P2.objs.size X.env))
   (compPost (model X.prog X.w) X.A X.xe use QQ (.ref s2.heap.objs.size) P2.objs.size) { s2 with heap:=h₁,toks:=tk }:=fun tk=>by
  refine codeAny_loop rfl (fun n s'=>∃ i H',Inv (cmpCxC X N scope own ((own,P2.objs.size+1)::closOf X.env.cells scope.names []) P2.objs.size s2 H2 fp) [] (innerSt sl σ) H' s'/\tn i s'.heap/\(∀ b∈fp,H' b=none)/\W i n H') ?_ m0 ⟨0,_,start tk,stK,fr1,w0⟩
  rintro n s3 ⟨i,H3,I3,st3,fr3,w3⟩;show wpAny _ X.A ((compTurn (.ListComp elt [⟨tg,iter,ifs,0⟩] scope pos) 0 (.ref it) (.ref s2.heap.objs.size) (compEnvC scope ((own,P2.objs.size+1)::closOf X.env.cells scope.names []) P2.objs.size X.env)).onRaise (fun x=>do noteFrame x (compEnvC scope ((own,P2.objs.size+1)::closOf X.env.cells scope.names []) P2.objs.size X.env);theTreesLotGoes x)) _ _ s3
  refine wpAny_noted ?_
  rw[compTurn_list];rcases turn i n H3 w3 with ⟨stop,qn⟩ | ⟨go,step⟩
  ·refine wpAny_bind (wpAny_standAt (wpAny_bind (wpAny_mono (T.done (cmpCxC X N scope own ((own,P2.objs.size+1)::closOf X.env.cells scope.names []) P2.objs.size s2 H2 fp) rfl rfl rfl hcalm i [] s3 _ H3 _ I3 (stat fr3) st3 stop) (fun r s4 ⟨hr,I4⟩=>?_) fun _ _ z=>z)))
   subst hr;refine wpAny_pure ?_
   obtain⟨m4,hn4,_⟩:=I4.loc;have u0:Un (frs X.stack) fp H2 H3 s2.heap s4.heap:=I4.base;have hI:Inv X pins σ H3 s4:=I2.call' (s':=s4) (ch:=fp) I4.os u0 I4.hok I4.bare fun b hb=>⟨(f2 b hb).2.2.2.1,(f2 b hb).2.1,(f2 b hb).2.2.2.2.1,(f2 b hb).2.2.2.2.2⟩
   have hC':=I2.fpOk (H':=H3) hCle I4.free;exact hend _ _ H3 s4 _ hI I4.free hC'.2.1 hC'.2.2.1 (Ys I2.sz hCle) hC'.2.2.2.2.1 hC'.2.2.2.2.2 ⟨m4,hn4⟩ qn
  ·refine wpAny_bind (wpAny_standAt (wpAny_bind (wpAny_mono (T.item (cmpCxC X N scope own ((own,P2.objs.size+1)::closOf X.env.cells scope.names []) P2.objs.size s2 H2 fp) rfl rfl rfl hcalm i [] s3 _ H3 (fun _ _=>False) I3 (stat fr3) st3 go) (fun r s4 ⟨u,hr,h4⟩=>?_) fun _ _ z=>z.elim)))
   subst hr;refine wpAny_bind (wpAny_mono h4 (fun _ s5 ⟨x,H5,I5,r5,y5,st5,fr5⟩=>?_) fun _ _ z=>z.elim)
   have I5':=I5.pinned (stat fr5) (T.obj _ _ st5);refine wpAny_bind (wpAny_mono (hg _ _ _ _ _ _ s5 _ H5 x u _ I5' r5 (step x H5 y5)) (fun _ s6 ⟨σ6,H6,I6,q6⟩=>?_) fun _ _ z=>(show False from z).elim)
   have again:∀ {σ7:St} {H7:Hp} {s7:Shared},Inv (cmpCxC X N scope own ((own,P2.objs.size+1)::closOf X.env.cells scope.names []) P2.objs.size s2 H2 fp) ([]++pinsAt fp s5.heap) σ7 H7 s7->(∃ m',m'<n/\W (i+1) m' H7)->
     ∃ m',m'<n/\∃ i H',Inv (cmpCxC X N scope own ((own,P2.objs.size+1)::closOf X.env.cells scope.names []) P2.objs.size s2 H2 fp) [] (innerSt sl σ) H' s7/\tn i s7.heap/\(∀ b∈fp,H' b=none)/\W i m' H':=fun {σ7 H7 s7} I7 ⟨m',hm,w7⟩=>by
    refine⟨m',hm,i+1,H7,S.again I2 f2 I7.unpinned,T.keep _ _ _ st5 fun b hb o e=>(I7.pin (b,o) (Yq _ (Yq _ (mem_pinsAt hb e)))).1,fun b hb=>?_,w7⟩
    obtain⟨o,e,d⟩:=T.obj _ _ st5 b hb;exact (I7.pin (b,o) (Yq _ (Yq _ (mem_pinsAt hb e)))).2.1
   refine wpAny_bind (wpAny_mono (hif _ _ _ _ _ _ s6 σ6 H6 _ I6 q6) (fun ok s7 ⟨H7,I7,q7⟩=>?_) fun _ _ z=>(show False from z).elim)
   cases ok with
   | false=>
    exact wpAny_pure ⟨rfl,again I7 (by simpa using q7)⟩
   | true=>
    rw[Wv rfl] at q7;refine wpAny_bind (wpAny_bind (wpAny_mono ((he _ _ _ _ _).out _ s7 σ6 H7 _ I7 q7) (fun y s8 ⟨yv,H8,I8,r8,ys,hys,hlen,w8⟩=>?_) fun _ _ z=>(show False from z).elim))
    refine wpAny_bind (wpAny_mono (mt_append (X:=cmpCxC X N scope own ((own,P2.objs.size+1)::closOf X.env.cells scope.names []) P2.objs.size s2 H2 fp) _ s8 σ6 H8 (.ref s2.heap.objs.size) [yv] (.ref s2.heap.objs.size) [y]
     (fun v H9=>v=.non/\∃ m',m'<n/\W (i+1) m' H9) I8 rfl (.cons r8 .nil) ⟨_,ys,yv,rfl,rfl,hys,hlen,rfl,w8⟩) (fun r s9 ⟨v9,H9,I9,r9,e9,w9⟩=>?_) fun _ _ z=>(show False from z).elim)
    exact wpAny_pure (wpAny_pure ⟨rfl,again I9 w9⟩)
 exact codeAny_compStart_list (loop _) (T.self _ 0 _ _ _ stK (loop _))
theorem pe_compC {elt tg iter:Expr}{ifs:List Expr}{pos:Pos}{wi:TI}{g:TG}{tif:TT}{te:TE}(S:CompScopeC X N sl scope own)(hcalm:X.calm=true)(hi:PI X tg iter wi)
  (hg:∀ cl C s2 H2 fp,PG (cmpCxC X N scope own cl C s2 H2 fp) tg g) (hif:∀ cl C s2 H2 fp,PIf (cmpCxC X N scope own cl C s2 H2 fp) ifs tif) (he:∀ cl C s2 H2 fp,PE (cmpCxC X N scope own cl C s2 H2 fp) elt te)
  (hs:∀ x,foldedSetIterable iter X.env x=pure x:=by intro _;rfl):
  PE X (.ListComp elt [⟨tg,iter,ifs,0⟩] scope pos) (tComp wi sl g tif te):=by
 refine⟨?_⟩
 intro pins s σ H Q I h;rw[eval_ListComp];refine comp_runC S hcalm hi hg hif he hs I h fun D C H3 s4 fl I4 n1 n2 n3 n4 n5 n6 ⟨m,hn⟩ q=>?_
 exact⟨m,hn,fun h' hsb=>⟨.ref D,H3,I4.turned (t':=s4.toks) (fun b o hb e=>(hsb.2 b hb).trans e) n1 n2 (.inr n4) n5 n6,rfl,q⟩⟩
end
def relabelS (scope osc:Scope):Scope:=
 { scope with names:=scope.names.map fun (n,k)=>if (k == .free && osc.kind == .function && osc.names.lookup n == some .cell) then (n,.cell) else (n,k) }
theorem one_cell {own:Str}:∀ {names:List (Str×NameKind)},(names.filter fun y=>decide (y.2=.cell))=[(own,.cell)]->(∀ n acc,cellsFrom n names acc=(own,n)::acc)/\∀ h,pushCells h names=h.push { cls:=.type "cell",data:=.cell none }
 | [],h=>by simp at h
 | (x,k)::r,h=>by
  by_cases c:k=.cell
  ·subst c
   rw[List.filter_cons_of_pos (by simp)] at h
   have h1:x=own:=Wz Prod.fst (List.cons.inj h).1;have h2:(r.filter fun y=>decide (y.2=.cell))=[]:=(List.cons.inj h).2
   have none:∀ (l:List (Str×NameKind)),(l.filter fun y=>decide (y.2=.cell))=[]->(∀ n acc,cellsFrom n l acc=acc)/\∀ h,pushCells h l=h:=by
    intro l;induction l with
    | nil=>intro _;exact⟨fun _ _=>rfl,fun _=>rfl⟩
    | cons y l ih=>
     intro hl;obtain⟨y1,y2⟩:=y;have hy:y2≠.cell:=fun z=>by
      rw[List.filter_cons_of_pos (by simpa using z)] at hl
      cases hl
     rw[List.filter_cons_of_neg (by simpa using hy)] at hl
     obtain⟨i1,i2⟩:=ih hl;have hb:(y2 == NameKind.cell)=false:=by simpa using hy
     refine⟨fun n acc=>?_,fun h=>?_⟩
     ·unfold cellsFrom;rw[hb];exact i1 n acc
     ·unfold pushCells;rw[hb];exact i2 h
   obtain⟨n1,n2⟩:=none r h2;subst h1;refine⟨fun n acc=>?_,fun h=>?_⟩
   ·unfold cellsFrom;exact n1 _ _
   ·unfold pushCells;exact n2 _
  ·rw[List.filter_cons_of_neg (by simpa using c)] at h
   obtain⟨i1,i2⟩:=one_cell h;have hb:(k == NameKind.cell)=false:=by simpa using c
   refine⟨fun n acc=>?_,fun h=>?_⟩
   ·unfold cellsFrom;rw[hb];exact i1 n acc
   ·unfold pushCells;rw[hb];exact i2 h
def compOkC (osc:Scope)(ON N:List Str)(sl:List (Option Nat))(scope:Scope)(own:Str):Bool:=
 decide (scope.kind=.function) && decide ((scope.names.filter fun y=>decide (y.2=.cell))=[(own,.cell)]) && decide (scope.names.lookup own=some .cell) && scope.names.all (fun y=>decide (y.2=.local->scope.names.lookup y.1=some .local)) &&
 scope.names.all (fun y=>decide (y.2=.free->osc.names.lookup y.1=some .cell\/osc.names.lookup y.1=some .free)) && decide (sl.length=N.length) &&
 (Yj N.length).all fun j=>match N[j]?,sl[j]? with
  | some x,some (some i)=>decide (ON[i]?=some x/\scope.names.lookup x=some .free)
  | _,_=>true
theorem compScopeC_mk {X:Cx}{N:List Str}{sl:List (Option Nat)}{scope:Scope}(own:Str)(osc:Scope)(ON:List Str)(h1:X.env.scope=osc)(h2:X.N=ON)(hb:compOkC osc ON N sl scope own=true):CompScopeC X N sl scope own:=by
 unfold compOkC at hb;simp only[Bool.and_eq_true,decide_eq_true_eq,Z3] at hb
 obtain⟨⟨⟨⟨⟨⟨b1,b2⟩,b2'⟩,b3⟩,b4⟩,b5⟩,b6⟩:=hb;obtain⟨o1,o2⟩:=one_cell b2;refine⟨b1,o1,o2,fun x hx=>?_,b2',b3,fun y hy hf=>?_,b5,fun j i x e1 e2=>?_⟩
 ·have:(x,NameKind.cell)∈(scope.names.filter fun y=>decide (y.2=.cell)):=List.mem_filter.mpr ⟨PySem.mem_of_lookup hx,by simp⟩
  rw[b2] at this;exact Wz Prod.fst (List.mem_singleton.mp this)
 ·have:=b4 y hy hf
  show X.env.scope.names.lookup y.1=_\/X.env.scope.names.lookup y.1=_
  rw[h1];exact this
 ·have hj:j<N.length:=(List.getElem?_eq_some_iff.mp e1).1
  have:=b6 j (List.mem_range.mpr hj)
  rw[e1,e2] at this;have q:=Wx this;rw[h2];exact q
def stComp:Stmt->Scope
 | .Return (some (.ListComp _ _ sc _)) _=>sc
 | .Assign _ (.ListComp _ _ sc _) _=>sc
 | _=>default
end L2
namespace L2
open PySem PySem.Spec PySem.W PyProof.Rows
section
variable {X:Cx} {N:List Str} {sl:List (Option Nat)} {scope:Scope} {own:Str}
theorem ps_setCC {i:Nat}{x:Str}{elt tg iter:Expr}{ifs:List Expr}{cpos pos pos':Pos}{wi:TI}{g:TG}{tif:TT}{te:TE}(hN:X.N.Nodup)(hi':X.N[i]?=some x)(hx:Loc X.env.scope x)(S:CompScopeC X N sl scope own)(hcalm:X.calm=true)(hi:PI X tg iter wi)
  (hg:∀ cl C s2 H2 fp,PG (cmpCxC X N scope own cl C s2 H2 fp) tg g) (hif:∀ cl C s2 H2 fp,PIf (cmpCxC X N scope own cl C s2 H2 fp) ifs tif) (he:∀ cl C s2 H2 fp,PE (cmpCxC X N scope own cl C s2 H2 fp) elt te)
  (hsw:swapsWith (.ListComp elt [⟨tg,iter,ifs,0⟩] scope cpos) (some (.Name x pos')) pos.line X.env=pure true:=by rfl)
  (hs:∀ x,foldedSetIterable iter X.env x=pure x:=by intro _;rfl) (hf:X.fn x=true\/X.env.scope.names.lookup x=some .local:=by first|exact .inl rfl|exact .inr rfl|assumption):
  PS X (.Assign [.Name x pos'] (.ListComp elt [⟨tg,iter,ifs,0⟩] scope cpos) pos) (tAsg (tComp wi sl g tif te) (gName i)):=by
 refine⟨?_⟩
 intro pins s σ H D0 I h;rw[exec_Assign_Name_used _ _ _ _ hsw];refine wpAny_bind (wpAny_standAt (wpAny_bind ?_))
 show wpAny _ X.A (do let _ <- comprehension (.ListComp elt [⟨tg,iter,ifs,0⟩] scope cpos) scope X.env _ (newList []) false (eval iter X.env) (some (assign (.Name x pos') X.env))) _ _ s
 refine wpAny_bind (wpAny_mono (comp_runC (QQ:=fun _ s'=>∃ σ' H',Inv X pins σ' H' s'/\D0.nx σ' H') (use:=some (assign (.Name x pos') X.env)) S hcalm hi hg hif he hs I h fun D C H3 s4 fl I4 n1 n2 n3 n4 n5 n6 hm q=>?_)
  (fun _ s' hq=>wpAny_pure (wpAny_pure hq)) fun _ _ e=>e)
 obtain⟨m,hn⟩:=hm;show wpAny _ X.A (assign (.Name x pos') X.env (.ref D)) _ _ _
 refine wpAny_assign_Name (store_ok2 I4 hN hi' hx (show RelV (.ref D) (.ref D) from rfl) (fun s5 I5 ⟨a,hsb,ha⟩=>?_) hf)
 have hCa:C≠a:=by
  rcases ha with rfl | ha
  ·exact n2
  ·exact fun z=>n5 _ _ ha z.symm
 refine⟨m,hn.sameBut hsb hCa,fun h' hsb'=>⟨_,H3,I5.turned (t':=s5.toks) (fun b o hb e=>(hsb'.2 b hb).trans e) n1 n2 (.inr n4) n5 n6,q⟩⟩
end
end L2
set_option maxHeartbeats 1000000
namespace L2
open PySem PySem.Spec PyProof.Rows
open AutoSeq1 (wpAny_loadPart')
end L2
namespace L2
open PySem PySem.Spec PyProof.Rows
def Cxn (a:Addr)(h:Heap):Prop:=∃ o vs,h.get? a=some o/\o.data=.fields vs/\vs[2]?=some Value.none
def Upd3 (f:Obj->Obj):Prop:=∀ o vs,o.data=.fields vs->vs[2]?=some Value.none->∃ vs',(f o).data=.fields vs'/\vs'[2]?=some Value.none
def Kp {α:Type}:Sem α->Prop
 | .pure _=>True
 | .raise _=>True
 | .unsupported _=>True
 | .finish _=>True
 | .rule _ k=>Kp (k ())
 | .at _ k=>Kp (k ())
 | .load _ _ k=>∀ o,Kp (k o)
 | .update _ _ f k=>Upd3 f/\Kp (k ())
 | .loadIfAlive _ k=>∀ o,Kp (k o)
 | .point _ k=>Kp (k ())
 | .alloc _ k=>∀ a,Kp (k a)
 | .fresh k=>∀ t,Kp (k t)
 | .handled _ k=>∀ x,Kp (k x)
 | .stack k=>∀ x,Kp (k x)
 | _=>False
theorem Cxn.push {a:Addr}{h:Heap}(x:Cxn a h)(o:Obj):Cxn a (h.push o):=by
 obtain⟨o',vs,e,r⟩:=x;exact⟨o',vs,Yf o e,r⟩
theorem Cxn.update {a b:Addr}{h:Heap}{f:Obj->Obj}(x:Cxn a h)(hf:Upd3 f):Cxn a (h.update b f):=by
 obtain⟨o,vs,e,d,r⟩:=x;by_cases c:b=a
 ·subst c
  obtain⟨vs',d',r'⟩:=hf o vs d r;exact⟨f o,vs',Heap.get?_update_self f e (Obj.isFreed_of_fields d'),d',r'⟩
 ·exact⟨o,vs,(Heap.get?_update_other _ _ c).trans e,d,r⟩
section
variable {α β:Type} {M:Model} {a:Addr}
theorem keep_wp {Γ:PySem.Ctx}(t:Sem α):Kp t->∀ {Q:α->Pos->Shared->Prop} {E:Value->Pos->Shared->Prop} {p:Pos} {s:Shared},Cxn a s.heap->Sem.wp M Γ t Q E p s->
  Sem.wp M Γ t (fun x p' s'=>Q x p' s'/\Cxn a s'.heap) (fun x p' s'=>E x p' s'/\Cxn a s'.heap) p s:=by
 induction t with
 | pure x=>intro _ Q E p s c h;simp only[Sem.wp_pure] at h ⊢;exact⟨h,c⟩
 | raise x=>intro _ Q E p s c h;simp only[Sem.wp_raise] at h ⊢;exact⟨h,c⟩
 | unsupported x=>intro _ Q E p s c h;simp only[Sem.wp_unsupported] at h
 | finish x=>intro _ Q E p s c h;simp only[Sem.wp_finish] at h
 | rule x k ih=>intro hk Q E p s c h;simp only[Sem.wp_rule] at h ⊢;exact ih _ hk c h
 | «at» x k ih=>intro hk Q E p s c h;simp only[Sem.wp_at] at h ⊢;exact ih _ hk c h
 | load x y k ih=>intro hk Q E p s c h;rw[Sem.wp_load] at h ⊢;obtain⟨o,ho,h⟩:=h;exact⟨o,ho,ih o (hk o) c h⟩
 | update x y f k ih=>intro hk Q E p s c h;rw[Sem.wp_update] at h ⊢;exact⟨h.1,ih _ hk.2 (c.update hk.1) h.2⟩
 | loadIfAlive x k ih=>intro hk Q E p s c h;simp only[Sem.wp_loadIfAlive] at h ⊢;exact ih _ (hk _) c h
 | point x k ih=>intro hk Q E p s c h;simp only[Sem.wp_point] at h ⊢;exact ih _ hk c h
 | alloc x k ih=>intro hk Q E p s c h;simp only[Sem.wp_alloc] at h ⊢;exact ih _ (hk _) (c.push _) h
 | fresh k ih=>intro hk Q E p s c h;simp only[Sem.wp_fresh] at h ⊢;exact ih _ (hk _) c h
 | handled o k ih=>intro hk Q E p s c h;rw[Sem.wp] at h ⊢;exact ih _ (hk _) c h
 | stack k ih=>intro hk Q E p s c h;rw[Sem.wp] at h ⊢;exact ih _ (hk _) c h
 | register=>intro hk;exact False.elim hk
 | ask=>intro hk;exact False.elim hk
 | choose=>intro hk;exact False.elim hk
 | os=>intro hk;exact False.elim hk
 | call=>intro hk;exact False.elim hk
 | newGen=>intro hk;exact False.elim hk
 | genState=>intro hk;exact False.elim hk
 | resume=>intro hk;exact False.elim hk
 | yield=>intro hk;exact False.elim hk
 | fork=>intro hk;exact False.elim hk
 | thread=>intro hk;exact False.elim hk
 | await=>intro hk;exact False.elim hk
theorem keep_any {A:Around}{t:Sem α}(hk:Kp t){Q:α->Shared->Prop}{E:Value->Shared->Prop}{s:Shared}(c:Cxn a s.heap)(h:wpAny M A t Q E s):
  wpAny M A t (fun x s'=>Q x s'/\Cxn a s'.heap) (fun x s'=>E x s'/\Cxn a s'.heap) s:=fun Γ p hΓ=>keep_wp t hk c (h Γ p hΓ)
theorem Kp.bind {t:Sem α}{f:α->Sem β}(ht:Kp t)(hf:∀ x,Kp (f x)):Kp (t >>= f):=by
 show Kp (t.bind f)
 induction t with
 | pure x=>exact hf x
 | raise x=>trivial
 | unsupported x=>trivial
 | finish x=>trivial
 | rule x k ih=>exact ih _ ht
 | «at» x k ih=>exact ih _ ht
 | load x y k ih=>exact fun o=>ih o (ht o)
 | update x y g k ih=>exact⟨ht.1,ih _ ht.2⟩
 | loadIfAlive x k ih=>exact fun o=>ih o (ht o)
 | point x k ih=>exact ih _ ht
 | alloc x k ih=>exact fun o=>ih o (ht o)
 | fresh k ih=>exact fun o=>ih o (ht o)
 | handled o k ih=>exact fun o=>ih o (ht o)
 | stack k ih=>exact fun o=>ih o (ht o)
 | _=>exact False.elim ht
theorem kp_load (b:Addr):Kp (load b):=fun _=>trivial
theorem kp_stack:Kp stack:=fun _=>trivial
theorem kp_update (b:Addr){f:Obj->Obj}(h:Upd3 f):Kp (update b f):=⟨h,trivial⟩
theorem kp_fieldsOf (v:Value):Kp (fieldsOf v):=by
 unfold fieldsOf;cases v <;> first|trivial|skip
 refine (kp_load _).bind fun o=>?_
 split <;> trivial
theorem kp_field (v:Value)(i:Nat):Kp (field v i):=by
 unfold field;refine (kp_fieldsOf v).bind fun o=>?_
 split <;> trivial
theorem upd3_field {i:Nat}(v:Value)(h:i≠2):Upd3 (Obj.mapFields (·.setIfInBounds i v)):=fun o vs d r=>⟨_,Obj.data_mapFields d _,by rw[Array.getElem?_setIfInBounds_ne h];exact r⟩
theorem kp_setField (v:Value){i:Nat}(x:Value)(h:i≠2):Kp (setField v i x):=by
 unfold setField;cases v <;> first|trivial|skip
 show Kp (updateField _ i x)
 unfold updateField;refine (kp_load _).bind fun o=>?_
 split
 ·split
  ·exact kp_update _ (upd3_field x h)
  ·trivial
 ·trivial
theorem kp_setFlight (v:Value)(f:Option Addr):Kp (setFlight v f):=by
 unfold setFlight;refine (kp_field _ _).bind fun o=>?_
 split
 ·exact kp_setField _ _ (by decide)
 ·trivial
theorem kp_ready:∀ l:List Env,Kp (readyFrames l)
 | []=>trivial
 | env::outer=>by
  unfold readyFrames;cases env.frame with
  | none=>trivial
  | some f=>
   refine (kp_load _).bind fun o=>?_
   split
   ·trivial
   ·refine Kp.bind ?_ fun b=>Kp.bind ?_ fun v=>Kp.bind (kp_update _ fun o vs d r=>⟨vs,d,r⟩) fun _=>kp_ready outer
    ·unfold behindIsImport
     split
     ·trivial
     ·split
      ·trivial
      ·exact (kp_field _ _).bind fun _=>trivial
    ·unfold keptBack
     cases outer with
     | nil=>
      dsimp only
      split
      ·trivial
      ·refine Kp.bind ?_ fun _=>?_
       ·unfold underTheClaimsCaller
        exact kp_stack.bind fun _=>trivial
       ·split <;> trivial
     | cons=>trivial
theorem kp_frameOf (env:Env):Kp (PySem.frameOf env):=by
 unfold PySem.frameOf;refine Kp.bind ?_ fun l=>?_
 ·unfold frameEnvs
  exact kp_stack.bind fun _=>trivial
 ·refine Kp.bind ?_ fun x=>?_
  ·unfold frameObject
   split
   ·trivial
   ·exact (kp_ready _).bind fun _=>trivial
  ·split <;> trivial
theorem kp_place (f:Addr)(b:Bool):Kp (entryPlaceOf f b):=by
 unfold entryPlaceOf;refine kp_stack.bind fun x=>?_
 split <;> trivial
theorem kp_entry (a b c d e:Value)(l:List Value):Kp (EntryCells.newEntry a b c d e l):=by
 unfold EntryCells.newEntry newFields newObj;generalize ([a,b,c,d,e]++(if l.isEmpty=true then Yp 6 Value.none else l)).toArray=X
 dsimp only
 split
 ·trivial
 ·unfold newObjAsIs
  exact fun _=>trivial
theorem kp_note (e:Value)(env:Env):Kp (noteFrame e env):=by
 unfold noteFrame;cases env.frame with
 | none=>trivial
 | some f=>
  refine (kp_field _ _).bind fun h=>?_
  have z:Kp (do setField e 1 (<- EntryCells.newEntry h (<- PySem.frameOf env) .none (rawInt f) .none (<- entryPlaceOf f (h != .none)))):=
   (kp_frameOf env).bind fun _=>(kp_place _ _).bind fun _=>(kp_entry _ _ _ _ _ _).bind fun _=>kp_setField _ _ (by decide)
  split
  ·refine (kp_field _ _).bind fun _=>?_
   split
   ·trivial
   ·exact (kp_setField _ _ (by decide)).bind fun _=>z
  ·exact z
theorem kp_leaving (e:Value)(env:Env):Kp (leaving env e):=(kp_note e env).bind fun _=>kp_setFlight _ _
end
theorem entry_unchain:entryFor table "proto.unchain"=some Builtin.«proto.unchain»:=entryFor_of_fast (by kernel_rfl)
section
variable {prog:Program} {w:World} {A:Around} {E:Value->Shared->Prop} {s:Shared} {ea:Addr}
theorem list_endH {it l:Addr}{i:Nat}{items}{Q:Option Value->Shared->Prop}(hh:A.handled=some (.ref ea))(hx0:Cxn ea s.heap)(hne:ea≠it)
  (hit:s.heap.IsListIter it l i) (hl:s.heap.IsList l items) (hx:items[i]?=none)
  (hQ:∀ h',Heap.ExtBut it s.heap h'->Q none { s with heap:=h' }):wpAny (model prog w) A (pyNext (.ref it)) Q E s:=by
 obtain⟨o,ho,hc,hd⟩:=id hit;obtain⟨ol,hol,_,nl,hdl⟩:=hl;unfold pyNext;refine wpAny_bind (wpAny_attempt (wpAny_callSpecial?_slot (name:=Str.ofString "__next__") hit.typeIs slot_listiter_next
  (wpAny_call_entry slot_listiter_next hit.typeIs entry_listiter_next ?_ (args_listiter_next _))))
 show wpAny _ _ (field (.ref it) 0 >>= _) _ _ s
 refine wpAny_bind (wpAny_field ho hd (x:=.ref l) rfl ?_)
 show wpAny _ _ (if (Value.ref l == Value.none)=true then _ else _) _ _ s
 rw[Wu (show ¬ ((Value.ref l == Value.none)=true) from Bool.false_ne_true)]
 show wpAny _ _ (field (.ref it) 1 >>= _) _ _ s
 refine wpAny_bind (wpAny_field ho hd (x:=.int i 0) rfl ?_)
 show wpAny _ _ (seqItems? (.ref l) >>= _) _ _ s
 refine wpAny_bind (wpAny_seqItems hol hdl ?_)
 simp only[Yk,hx]
 refine wpAny_bind (wpAny_rule (wpAny_bind (wpAny_setField ho hd (by simp) ?_)))
 show wpAny _ _ (newExc (.type "StopIteration") [] >>= _) _ _ _
 refine wpAny_bind ?_
 simp only[newExc,newTuple]
 refine wpAny_bind (wpAny_newObj_type ?_ (by size_fits))
 refine wpAny_bind (m:=firstArgMember _ _) (wpAny_of_eq (a:=Value.none) (by first|rfl|(simp only[firstArgMember];rfl)) ?_)
 refine wpAny_newObj_type ?_ (by size_fits)
 simp only[raiseNew]
 refine wpAny_bind (wpAny_handled ?_)
 rw[show A.in1.handled=some (.ref ea) from hh]
 have hU:Upd3 (Obj.mapFields fun x=>x.setIfInBounds 0 Value.none):=upd3_field (i:=0) Value.none (by decide)
 have hs1:Heap.SameBut it s.heap (s.heap.update it (Obj.mapFields fun x=>x.setIfInBounds 0 Value.none)):=Heap.SameBut.update ..
 have c1:=hx0.update (b:=it) hU;generalize s.heap.update it (Obj.mapFields fun x=>x.setIfInBounds 0 Value.none)=H1 at hs1 c1 ⊢
 have c2:=c1.push { cls:=Value.type "tuple",data:=Data.seq #[] };have x2:=hs1.extBut.push { cls:=Value.type "tuple",data:=Data.seq #[] };generalize hH2:H1.push { cls:=Value.type "tuple",data:=Data.seq #[] }=H2 at c2 x2 ⊢;have lt:ea<H2.objs.size:=by obtain⟨_,_,e,_⟩:=c2;exact Yi e
 have e3:=Yt H2 (o:={ cls:=Value.type "StopIteration",data:=Data.fields (#[Value.ref H1.objs.size,Value.none,Value.none,Value.none,Value.bool false,Value.none]++ownMembersOf (Value.type "StopIteration") []) }) rfl;obtain⟨oe,vs,he,hde,h2⟩:=c2.push { cls:=Value.type "StopIteration",data:=Data.fields (#[Value.ref H1.objs.size,Value.none,Value.none,Value.none,Value.bool false,Value.none]++ownMembersOf (Value.type "StopIteration") []) };show wpAny _ _ (if (Value.ref ea != Value.ref H2.objs.size)=true then _ else _) _ _ _
 rw[Wv (show (Value.ref ea != Value.ref H2.objs.size)=true from bne_iff_ne.mpr fun z=>Ym lt (Value.ref.inj z))]
 refine wpAny_bind (wpAny_holding (wpAny_runValue (codeAny_builtin entry_unchain ?_)))
 refine wpAny_bind (wpAny_field he hde h2 ?_)
 refine wpAny_pure ?_
 refine wpAny_bind (show wpAny _ _ (setField (.ref H2.objs.size) 2 (.ref ea)) _ _ _ from wpAny_setField e3 rfl (by rw[Array.size_append];exact Yh (show 2<6 by decide) (Z8 6 _)) ?_)
 refine wpAny_throw ?_
 refine wpAny_bind (wpAny_isInstance (T:="StopIteration") (b:=true) ⟨_,Heap.get?_update_self _ e3 rfl,rfl⟩ isSubtype_stop ?_)
 refine wpAny_pure (hQ _ fun b o' hb e=>?_)
 have:=x2.push { cls:=Value.type "StopIteration",data:=Data.fields (#[Value.ref H1.objs.size,Value.none,Value.none,Value.none,Value.bool false,Value.none]++ownMembersOf (Value.type "StopIteration") []) } b o' hb e
 refine (Heap.get?_update_other _ _ ?_).trans this
 exact Nat.ne_of_gt (Yi (x2 b o' hb e))
theorem walksH (hh:A.handled=some (.ref ea))(I ax:Addr)(hne:ax≠I)(hne2:ea≠I)(items:Array Value):
  Walks prog w A I [I,ax,ea] [I] items.size (fun i v=>items[i]?=some v) (fun i h=>h.IsListIter I ax i/\h.IsList ax items/\Cxn ea h) where
 sub:=fun b hb=>by simp at hb;simp[hb]
 frame:=fun _ _ _ st hk=>⟨st.1.at fun o e=>hk I (by simp) o e,st.2.1.at fun o e=>hk ax (by simp) o e,let ⟨o,vs,e,r⟩:=st.2.2;⟨o,vs,hk ea (by simp) o e,r⟩⟩
 item:=fun i s Q E hi st hQ=>by
  refine wpAny_pyNext_list_item st.1 st.2.1 (x:=items[i]) (by simp[hi]) fun h' hit' hs'=>?_
  exact hQ _ h' s.toks (by simp[hi]) ⟨hit',st.2.1.extBut hs'.extBut hne,let ⟨o,vs,e,r⟩:=st.2.2;⟨o,vs,hs'.extBut ea o hne2 e,r⟩⟩ fun b o hb e=>hs'.extBut b o (fun h=>hb (by simp[h])) e
 done:=fun s Q E st hQ=>list_endH hh st.2.2 hne2 st.1 st.2.1 (by simp) fun h' he'=>hQ h' s.toks fun b o hb e=>he' b o (fun h=>hb (by simp[h])) e
 self:=fun _ _ _ _ st hQ=>wpAny_pyIter_listiter st.1 hQ
end
end L2
namespace L2
open PySem PySem.Spec PyProof.Rows
section
variable {P:Program} {w:World} {H H':Hp} {h h':Heap} {a:Addr} {o:HO}
theorem ObjOk.here (x:ObjOk P w H h a o):∃ u,h.get? a=some u:=by
 induction o with
 | lst xs=>obtain⟨_,_,_,_,e⟩:=x;exact⟨_,e⟩
 | tup xs=>obtain⟨_,_,_,ob,e,_⟩:=x;exact⟨_,e⟩
 | dK kvs=>obtain⟨_,_,_,_,o,_,_,e,_⟩:=x;exact⟨_,e⟩
 | dT kvs=>obtain⟨_,_,_,_,o,_,_,e,_⟩:=x;exact⟨_,e⟩
 | set S n=>obtain⟨o,_,_,_,e,_⟩:=x;exact⟨_,e⟩
 | ins C dx fs=>obtain⟨_,_,_,e,_⟩:=x;exact⟨_,e⟩
 | own y=>obtain⟨_,e⟩:=x;exact⟨_,e⟩
 | xd fs=>obtain⟨_,⟨_,_,_,e,_⟩,_⟩:=x;exact⟨_,e⟩
 | rng lo hi=>obtain⟨_,_,_,e⟩:=x;exact⟨_,e⟩
 | frz ob u ih=>obtain⟨e,_⟩:=x;exact⟨_,e⟩
 | tbl ps=>exact⟨_,(show h.get? a=some _ from x)⟩
 | met f y=>exact⟨_,(show h.get? a=some _ from x)⟩
 | ext φ=>obtain⟨_,⟨_,e⟩,_⟩:=x;exact⟨_,e⟩
end
structure Out (P:Program)(w:World)(outer:List Env)(H:Hp)(s:Shared)(C ea:Addr)(H':Hp)(s':Shared):Prop where
 os:s'.os=s.os
 bare:AllBare s'.gens
 un:Un (frs outer) [] H H' s.heap s'.heap
 hok:HOk P w H' s'.heap
 free:H' ea=none
 cxn:Cxn ea s'.heap
 fly:∃ (B:Heap) (t:Addr),Wa B outer ea (.ref C) (.ref t) s'.heap/\∀ b o,s'.heap.get? b=some o->((∃ u,s.heap.get? b=some u)\/H' b≠none)->b ∉ frs outer->B.get? b=some o
def CXe (P:Program)(w:World):CXT:=fun outer H s E e s'=>∃ ea C H',e=.ref ea/\Out P w outer H s C ea H' s'/\E e (some C) H'
section
variable {X:Cx} {pins:List (Addr×Obj)} {σ:St} {H1 H':Hp} {s1 s2:Shared} {C ea:Addr}
theorem Inv.outOf (J:Inv X pins σ H' s2)(stk:X.stack=X.env::X.outer)(hf:X.env.frame=some X.env.locals)(hex:X.ex=[]){h3:Heap}{B:Heap}{t:Addr}(he:H' ea=none)(cx:Cxn ea h3)(fl:Wa B X.outer ea (.ref C) (.ref t) h3)
  (hB:∀ b o,s2.heap.get? b=some o->((∃ u,X.s₀.heap.get? b=some u)\/H' b≠none)->b ∉ frs X.stack->B.get? b=some o) (ups:s2.heap.UpToSlots h3):Out X.prog X.w X.outer X.H₀ X.s₀ C ea H' { s2 with heap:=h3 }:=by
 have hL:∀ b,((∃ u,X.s₀.heap.get? b=some u)\/H' b≠none)->b≠X.env.locals:=fun b hc z=>by
  rcases hc with ⟨u,h⟩ | h
  ·have:=Yh (Yi h) J.ok.above
   rw[z] at this;exact W1 this (Zh _)
  ·rw[z] at h
   exact h J.free
 have hns:∀ b,((∃ u,X.s₀.heap.get? b=some u)\/H' b≠none)->b ∉ frs X.outer->b ∉ frs X.stack:=fun b hc hn hm=>by
  rcases List.mem_cons.mp (J.stkSub b hm) with e | e
  ·exact hL b hc e
  ·exact hn e
 have keep:∀ b u,s2.heap.get? b=some u->((∃ u,X.s₀.heap.get? b=some u)\/H' b≠none)->b ∉ frs X.outer->h3.get? b=some u:=fun b u hb hc hn=>fl.1 _ _ (hB b u hb hc (hns b hc hn))
 have U:=J.base;rw[hex] at U;have slot:∀ b o,X.s₀.heap.get? b=some o->X.H₀ b=none->b∈frs X.outer->∃ sl,h3.get? b=some { o with slots:=sl }:=fun b o e n hb=>by
  obtain⟨sl,h2⟩:=U.slot b o e n hb (by simp)
  obtain⟨_,o',ho',hd⟩:=J.ok.funs.mem hb;rw[e] at ho';cases ho';obtain⟨sl',h4⟩:=ups b _ h2 hd;exact⟨sl',h4⟩
 refine⟨J.os,J.bare,⟨fun b o e n hb hx=>keep b o (U.keep b o e n hb hx) (.inl ⟨_,e⟩) hb,fun b o e n hb hx=>slot b o e n hb,fun b o e n hx=>U.free b o e n hx,fun b o e hx=>?_,U.tups,U.frzs,U.tbls⟩,fun a o ha=>?_,he,cx,B,t,fl,fun b o h3b hc hn=>?_⟩
 ·by_cases hb:b∈frs X.outer
  ·obtain⟨sl,z⟩:=slot b o e (J.ok.frf b hb) hb
   exact⟨_,z⟩
  ·obtain⟨o',z⟩:=U.there b o e hx
   exact⟨_,keep b o' z (.inl ⟨_,e⟩) hb⟩
 ·refine (J.hok a o ha).stay (fun b u hb hu=>?_) (fun b z=>z) fun b xs z=>z
  have tr:H' b≠none:=by
   rcases hb with z | z
   ·rw[z,ha];simp
   ·rw[z];simp
  refine keep b u hu (.inr tr) fun hm=>tr ?_
  refine J.stkFree b ?_
  rw[stk];obtain⟨env,he',hfe⟩:=List.mem_filterMap.mp hm;exact List.mem_filterMap.mpr ⟨env,Yy _ he',hfe⟩
 ·obtain⟨o2,h2⟩:∃ o2,s2.heap.get? b=some o2:=by
   rcases hc with ⟨u,e⟩ | z
   ·exact U.there b u e (by simp)
   ·cases q:H' b with
    | none=>exact W1 q z
    | some v=>exact (J.hok b v q).here
  have:=keep b o2 h2 hc hn
  rw[h3b] at this;cases this;exact hB b o h2 hc (hns b hc hn)
theorem Inv.passes (I:Inv X pins σ H1 s1)(stk:X.stack=X.env::X.outer)(hf:X.env.frame=some X.env.locals)(hex:X.ex=[])(o:Out X.prog X.w X.stack H1 s1 C ea H' s2){M:Model}{E:Value->Shared->Prop}{Q:Unit->Shared->Prop}
  (q:∀ s3,Out X.prog X.w X.outer X.H₀ X.s₀ C ea H' s3->Q () s3):wpAny M X.A (leaving X.env (.ref ea)) Q E s2:=by
 have J:Inv X pins σ H' s2:=I.call' o.os o.un o.hok o.bare (fun b z=>W1 z (by simp))
 obtain⟨B,t,fl,hB⟩:=o.fly;have hfr:=I.ok.frames;rw[stk] at hfr fl;refine wpAny_mono (keep_any (a:=ea) (kp_leaving _ _) o.cxn (wpAny_leaves_onW (Q:=fun _ s3=>∃ h3,s3={ s2 with heap:=h3 }/\Wa B X.outer ea (.ref C) (.ref t) h3/\s2.heap.UpToSlots h3) (E:=E) hfr hf fl fun h3 fl3 ups=>⟨h3,rfl,fl3,ups⟩)) (fun _ s3 z=>?_) fun _ _ z=>z.1
 obtain⟨⟨h3,rfl,fl3,ups⟩,c3⟩:=z;refine q _ (J.outOf stk hf hex o.free c3 fl3 (fun b o' hb hc hn=>hB b o' hb ?_ hn) ups)
 refine hc.imp (fun ⟨u,e⟩=>?_) id
 exact I.base.there b u e (by rw[hex];simp)
end
section
variable {P:Program} {w:World} {K:FrQ} {mg:Str->Option Value} {base:Heap} {N:List Str} {qual:Str} {scope:Scope} {f:Addr} {cd:Value} {A:Around} {outer:List Env} {s:Shared} {H:Hp} {E:XK}
theorem pass_e:Passes (CXe P w) (cxOf (CXe P w) P w K mg base N qual scope f cd A outer s H E) E:=fun pins σ H1 s1 e s2 I h=>by
 obtain⟨ea,C,H',rfl,o,hE⟩:=h;exact I.passes rfl rfl rfl o fun s3 o3=>⟨ea,C,H',rfl,o3,hE⟩
theorem own_e:PassesOwn (model P w) (cxOf (CXe P w) P w K mg base N qual scope f cd A outer s H E).A (cxOf (CXe P w) P w K mg base N qual scope f cd A outer s H E).env (cxOf (CXe P w) P w K mg base N qual scope f cd A outer s H E).xe:=PassesOwn.leaving
end
section
variable {X:Cx} {pins:List (Addr×Obj)} {σ:St} {H1:Hp} {s1:Shared} {C ea:Addr}
theorem Inv.raised (J:Inv X pins σ H1 s1)(stk:X.stack=X.env::X.outer)(hf:X.env.frame=some X.env.locals)(hex:X.ex=[]){h':Heap}{args:List Value}(hx:Heap.MadeExcOf s1.heap h' ea (.ref C) args){M:Model}{E:Value->Shared->Prop}{Q:Unit->Shared->Prop}
  (q:∀ s3,Out X.prog X.w X.outer X.H₀ X.s₀ C ea H1 s3->Q () s3):wpAny M X.A (leaving X.env (.ref ea)) Q E { s1 with heap:=h' }:=by
 have hfr:=J.ok.frames;have hin:∀ env∈X.stack,∀ b,env.frame=some b->b∈frs X.stack:=fun env he b hb=>List.mem_filterMap.mpr ⟨env,he,hb⟩
 have hl:=PySem.W.funFrames_hide J.stack hin;have he:H1 ea=none:=by
  cases z:H1 ea with
  | none=>rfl
  | some o=>
   obtain⟨u,hu⟩:=(J.hok ea o z).here;rw[hx.new] at hu;cases hu
 rw[stk] at hfr hl;have c0:Cxn ea h':=by
  obtain⟨t,e,_⟩:=hx.there;exact⟨_,_,e,rfl,rfl⟩
 refine wpAny_mono (keep_any (a:=ea) (kp_leaving _ _) c0 (wpAny_leaves_madeW (s:={ s1 with heap:=h' }) (Q:=fun _ s3=>∃ h3 t,s3={ s1 with heap:=h3 }/\Wa (PySem.W.hideAll s1.heap (frs X.stack)) X.outer ea (.ref C) (.ref t) h3/\h'.UpToSlots h3) (E:=E) (base:=PySem.W.hideAll s1.heap (frs X.stack)) hfr hf (fun b o z=>PySem.W.of_hideAll _ z) (by rw[stk];exact hl) hx fun h3 t fl _ _ ups=>⟨h3,t,rfl,fl,ups⟩)) (fun _ s3 z=>?_) fun _ _ z=>z.1
 obtain⟨⟨h3,t,rfl,fl,ups⟩,c3⟩:=z;exact q _ (J.outOf stk hf hex he c3 fl (fun b o hb _ hn=>PySem.W.hideAll_get _ hb hn) ((Heap.UpToSlots.of_keeps hx.keeps).trans ups))
end
def Raises (X:Cx)(E:XK):Prop:=∀ (pins:List (Addr×Obj)) (σ:St) (H:Hp) (s:Shared) (ea C:Addr) (args:List Value) (h':Heap),Inv X pins σ H s->Heap.MadeExcOf s.heap h' ea (.ref C) args->E (.ref ea) (some C) H->X.xe (.ref ea) { s with heap:=h' }
theorem raises_e {P:Program}{w:World}{K:FrQ}{mg:Str->Option Value}{base:Heap}{N:List Str}{qual:Str}{scope:Scope}{f:Addr}{cd:Value}{A:Around}{outer:List Env}{s:Shared}{H:Hp}{E:XK}:
  Raises (cxOf (CXe P w) P w K mg base N qual scope f cd A outer s H E) E:=fun pins σ H1 s1 ea C args h' I hx hE=>I.raised rfl rfl rfl hx fun s3 o=>⟨ea,C,H1,rfl,o,hE⟩
theorem exc_obj {K:FrQ}{h:Heap}{C:Addr}{bmB:List Value}{newId:String}(X:K.In h)(q:PySem.W.excIn K C bmB newId=true):∃ (bm:List Value) (N:Addr) (nm qn:Str) (bs:List Value) (hdct:Bool) (sn:List Str) (sub:List Value) (ab:Bool) (col:Option Bool) (dd:Option Addr) (k0 k1 k2 k3 k5:Option Value) (mN:Str->Option Value),
  h.get? C=some (excClassObj nm qn C N bs bm hdct sn sub ab col dd k0 k1 k2 k3 k5 newId)/\h.Ns N mN/\mN "__init__"=none/\OwnTail h bmB bm:=by
 rw[PySem.W.excIn.eq_1] at q;split at q <;> try contradiction
 next dict data slots found=>
  split at q <;> try contradiction
  next D tail s0 s1 s2 s3 id s5 isMro isSlots=>
   rw[Bool.and_eq_true,Bool.and_eq_true,Bool.and_eq_true,Bool.and_eq_true,Bool.and_eq_true] at q;obtain⟨⟨⟨⟨⟨c1,c2⟩,c3⟩,c4⟩,c5⟩,c6⟩:=q;have c1:=eq_of_beq c1;have c2:=eq_of_beq c2;have c6:=eq_of_beq c6;subst c1;subst c2;obtain⟨n1,b1,m1,ns1,q1,d1,l1,u1,a1,o1,e1⟩:=data;have c3:e1=false:=by simpa using c3
   have isMro:m1=_:=isMro;rw[isMro,c3] at found;have es:slots=#[s0,s1,s2,s3,some (.builtin id),s5]:=by
    rw[<- isSlots]
   rw[es] at found;exact⟨tail,ns1,n1,q1,b1,d1,l1,u1,a1,o1,dict,s0,s1,s2,s3,s5,_,X _ _ found,.of_isNs (PySem.W.isNs_of_in X c5),PySem.W.nsMap_none_of_in X c5 c6,PySem.W.tail_of_in X c4⟩
def tRaise (C:Addr)(E:XK)(t:TA):TS:=fun _ σ H=>t σ H fun vs H1=>vs.length<=sizeLine/\∀ ea,H1 ea=none->E (.ref ea) (some C) H1
theorem ps_raise {X:Cx}{E:XK}{x:Str}{C:Addr}{bmB bmN:List Value}{B Bn newId nid initId inN:String}{np cpos pos:Pos}{e:Expr}{es:List Expr}{t:TA}(hx:Raises X E)(hc:X.calm=true)(hg:Gl X x)(hm:X.mg x=some (.ref C))(q:PySem.W.excIn X.K C bmB newId=true)
  (Fn:ExcBaseFacts Bn newId inN bmN) (hBn:bmB.contains (.type Bn)=true) (F:ExcBaseFacts B nid initId bmB) (ha:PA X (e::es) t) (hd:(x ==("__debug__":Str))=false:=by decide)
  (he:starEach (e::es) X.env=(false,eval e X.env)::starEach es X.env:=by rfl) (hpl:(backTo cpos (starEach es X.env)).any (·.1)=false:=by rfl):PS X (.Raise (some (.Call (.Name x np) (e::es) [] cpos)) none pos) (tRaise C E t):=by
 refine⟨?_⟩
 intro pins s σ H D I h;obtain⟨v1,v2,v3,v4,v5,v6,v7,v8,v9,w1,w2,w3,w4,w5,w6,w7,mN,isC,isN,hni,TL⟩:=exc_obj I.mod.kin q;refine wpAny_Raise_call_subU (bm:=v1) (N:=v2) (nm:=v3) (q:=v4) (bs:=v5) (hdct:=v6) (sn:=v7) (sub:=v8) (ab:=v9) (col:=w1) (dd:=w2) (k0:=w3) (k1:=w4) (k2:=w5) (k3:=w6) (k5:=w7) (C:=C) Fn hBn F (TL.hasType F.hasBase) (I.ok.hd hc) ?_ hni (ld_glob I hg hm ⟨rfl,?_⟩ hd)
 ·rw[he]
  show (false || (backTo cpos (starEach es X.env)).any (·.1))=false
  rw[hpl];rfl
 ·rw[he]
  have run:=ha cpos pins s σ H _ I h;rw[he] at run;refine Calls.evalArgs_plain (thn run fun us s1 z=>?_)
  ·obtain⟨vs,J,I1,r,hl,hE⟩:=z
   refine⟨rfl,by rw[<- r.length];exact hl,I1.bk _ _ isC,isN.keeps I1.bk,TL.keeps I1.bk,fun h' ea hm=>hx pins σ J s1 ea C us h' I1 hm (hE ea ?_)⟩
   cases z:J ea with
   | none=>rfl
   | some o=>
    obtain⟨u,hu⟩:=(I1.hok ea o z).here;rw[hm.new] at hu;cases hu
structure DfnE (P:Program)(w:World)(K:FrQ)(mg:Str->Option Value)(base:Heap)(k:Nat)(x:Str)(ps:List Str)(sp:Sp):Prop where
 ex:∃ f fd,FnOk P w K mg base (CXe P w) k f fd ps sp/\Binds K fd ps []/\PySem.W.keepIn K (.ref f)=true/\mg x=some (.ref f)
section
variable {P:Program} {w:World} {K:FrQ} {mg:Str->Option Value} {base:Heap}
theorem Src.okE {x:Str}{st:Stmt}{N ps:List Str}{k:Nat}{sp:Sp}(F:Src K mg x st ps)(S:FnScope N ps (defScope st))(len:∀ vs H Q E,sp vs H Q E->vs.length=ps.length)
  (body:∀ (f:Addr) (cdv:Value) (A:Around) (outer:List Env) (s:Shared) (H:Hp) (vs:List V) (Q:VK) (E:XK),Room k (A.deeper (envOfC x (defScope st) s.heap.objs.size f cdv))->sp vs H Q E->
   ∃ t,PSs (cxOf (CXe P w) P w K mg base N x (defScope st) f cdv A outer s H E) (defBody st) t/\t { nx:=fun _ H'=>Q .non H',rt:=Q } (start N vs) H):DfnE P w K mg base (k+1) x ps sp:=by
 obtain⟨f,fd,G,B,M⟩:=F.ex;have kp:=G.kp;obtain⟨_,_,_,_,_,_,cdv,_,_,rfl,lk,hcd⟩:=G.ex;exact⟨f,_,fn_of lk hcd S len (body f cdv),B,kp,M⟩
end
theorem pe_defE {X:Cx}{E:XK}{k n:Nat}{x:Str}{ps:List Str}{sp:Sp}{e:Expr}{es:List Expr}{t:TA}{p pos:Pos}(D:DfnE X.prog X.w X.K X.mg X.base k x ps sp)(hp:Passes (CXe X.prog X.w) X E)(hr:Room n X.A)(ha:PA X (e::es) t)(hle:k<=n:=by decide)(hg:Gl X x:=by rfl)
  (hdb:(x ==("__debug__":Str))=false:=by decide) (he:starEach (e::es) X.env=(false,eval e X.env)::starEach es X.env:=by rfl) (hpl:(backTo pos (starEach es X.env)).any (·.1)=false:=by rfl):
  PE X (.Call (.Name x p) (e::es) [] pos) (tCall sp [] E t):=by
 obtain⟨f,fd,F,B,kp,M⟩:=D.ex;exact pe_call F (hr.mono hle) hg M kp B .nil hp ha hdb he hpl
end L2
namespace L2
open PySem PySem.Spec PySem.W PyProof.Rows PySem.Calls PySem.Builtin PySem.Builtin.ObjectAttr PySem.Builtin.Getset_descriptor
def ExAt (a C:Addr)(h:Heap):Prop:=∃ o vs,h.get? a=some o/\o.cls=.ref C/\o.data=.fields vs/\vs[2]?=some Value.none
structure ExcK (K:FrQ)(C:Addr):Prop where
 ga:findIn K (.ref C) "__getattribute__"=some (some (.builtin "BaseException.__getattribute__"))
 no:findIn K (.ref C) "__getattr__"=some none
 at_:findIn K (.ref C) "__class__"=some (some (.builtin "object.__class__"))
 get:specialIn K (.builtin "object.__class__") "__get__"=some (some (.builtin "getset_descriptor.__get__"))
 tk:takesIn K (.builtin "object.__class__")=some true
 ob:mroIn K C (.type "object")=some true
 be:mroIn K C (.type "BaseException")=some true
section
variable {prog:Program} {w:World} {A:Around} {E:Value->Shared->Prop} {s:Shared} {K:FrQ} {x C:Addr}
theorem ExAt.type {M:Model}{h:Heap}(I:ExAt x C h):Looks M h (typeOf (.ref x)) (.ref C):=by
 obtain⟨o,vs,h1,h2,_⟩:=I;exact h2 ▸ (Looks.ld h1).andThen .now
theorem exc_get {R:Result->Shared->Prop}{tp:Value}(X:K.In s.heap)(I:ExAt x C s.heap)(hm:mroIn K C (.type "object")=some true)
  (h:R (.ok (.ret (.ref C))) s):codeAny (model prog w) A (.call (.builtin "getset_descriptor.__get__") ⟨[.builtin "object.__class__",.ref x,tp],[]⟩) R s:=by
 obtain⟨hh,g,dr,t,os⟩:=s;have L0:=I.type (M:=model prog w);have L1:=looks_mroIn (M:=model prog w) X hm;refine codeAny_call_builtin KF.slot_gs.plain KF.entry_gs (KF.slot_gs.check _ _ _ _ _ _ _ _ KF.type_class (KF.args_gs _ _ _) ?_)
 unfold Builtin.«getset_descriptor.__get__» descrGet;rw[dga_obj];refine wpAny_bind (wpAny_pure ?_)
 unfold descrGetter descrCheckInstance descrNameAndClass isInstance;simp only[KF.owner_class]
 repeat lk
 refine⟨Code.quiet_builtin _ (by decide +kernel),codeAny_builtin KF.entry_class ?_⟩
 unfold Builtin.«object.__class__» shownTypeOf;repeat lk
 exact h
theorem exc_find {M:Model}{h:Heap}(X:K.In h)(k:ExcK K C):Looks M h (find (.ref x) (.ref C) "__class__") (.bind (.builtin "getset_descriptor.__get__") (.builtin "object.__class__")):=by
 have L1:=looks_findIn (M:=M) X k.at_;have L2:Looks M h (getOf (some (.builtin "object.__class__"))) (some (.builtin "getset_descriptor.__get__")):=looks_specialIn X k.get;have L3:=looks_takesIn (M:=M) X k.tk;exact L1.andThen (L2.andThen ((show Looks M h (dataDescriptor? (some (.builtin "object.__class__")) (some (.builtin "getset_descriptor.__get__"))) (some (.builtin "getset_descriptor.__get__",.builtin "object.__class__")) from L3.andThen .now).andThen (Looks.tag .now)))
theorem exc_check {M:Model}{nameV:Value}{Q:Unit->Shared->Prop}(X:K.In s.heap)(k:ExcK K C)(I:ExAt x C s.heap)(hq:Q () s):wpAny M A (checkBuiltinCall "BaseException.__getattribute__" ⟨[.ref x,nameV],[]⟩) Q E s:=by
 have hk:builtinKind "BaseException.__getattribute__"=some .slot:=by decide +kernel
 have hsplit:splitId "BaseException.__getattribute__"=some ("BaseException","__getattribute__"):=by decide +kernel
 have ha:=F.args_bexc_ga (.ref x) nameV;have L0:=I.type (M:=M);have L1:=looks_mroIn (M:=M) X k.be;obtain⟨hh,g,dr,t,os⟩:=s;simp only[checkBuiltinCall,hk,hsplit]
 refine wpAny_bind ?_
 unfold isInstance;repeat (first|lk|wp_step)
 exact hq
theorem exc_class {Q:Option Value->Shared->Prop}(X:K.In s.heap)(k:ExcK K C)(I:ExAt x C s.heap)(h:Q (some (.ref C)) { s with toks:=s.toks+1 }):wpAny (model prog w) A (getAttr? (.ref x) "__class__") Q E s:=by
 obtain⟨hh,g,d,t,os⟩:=s;have L0:=I.type (M:=model prog w);have L1:=looks_findIn (M:=model prog w) X k.ga;have L2:=looks_findIn (M:=model prog w) X k.no;have LF:=exc_find (M:=model prog w) (x:=x) X k;have f3:=F.excAttr_ValueError.ga.bind (.ref x);have hx2:(Value.builtin "BaseException.__getattribute__" == Value.builtin "object.__getattribute__")=false:=by decide +kernel
 have hx1:(onTheHeap (Value.ref C) && Value.builtin "BaseException.__getattribute__" == Value.builtin "object.__getattribute__")=false:=by rw[hx2];rfl
 unfold getAttr? getAttrBy? getAttrBy;refine wpAny_bind (wpAny_mkText (wpAny_bind (wpAny_attempt (wpAny_holding (wpAny_bind (L0.at (wpAny_bind (L1.at ?_))))))))
 dsimp only
 rw[Wu (by rw[hx1];decide)]
 unfold getAttrByItsOwn hookBefore;rw[Wv (show onTheHeap (Value.ref C)=true from rfl)]
 refine wpAny_bind (L2.at ?_)
 refine wpAny_bind (wpAny_attempt (wpAny_holding ?_))
 unfold callGetattribute;rw[Wu (by decide)]
 unfold boundAndCalled;rw[f3];refine wpAny_bind (wpAny_pure ?_)
 refine wpAny_call (codeAny_call_builtin F.excAttr_ValueError.ga.plain F.entry_bexc_ga (exc_check (K:=K) (C:=C) X k I ?_))
 have f4:attrName (Value.str ("__class__":Str) t)=pure "__class__":=rfl;have e0:slotArgs "__getattribute__" 1 ⟨[Value.ref x,.str "__class__" t],[]⟩=pure (.ref x,[.str "__class__" t]):=rfl;unfold Builtin.«object.__getattribute__»;show wpAny _ _ (slotArgs "__getattribute__" 1 ⟨[Value.ref x,.str "__class__" t],[]⟩ >>= _) _ _ _
 rw[e0];refine wpAny_bind (wpAny_pure ?_)
 dsimp only
 rw[f4];refine wpAny_bind (wpAny_pure (wpAny_bind (L0.at (wpAny_bind (LF.at ?_)))))
 dsimp only
 unfold bindTo;dsimp only
 refine wpAny_bind (wpAny_holding (wpAny_call (exc_get (K:=K) (C:=C) X I k.ob ?_)))
 refine wpAny_pure ?_
 exact handed_on rfl (wpAny_pure h)
end
section
variable {K:FrQ}
theorem kitx_exc {x C:Addr}(k:ExcK K C):KitX K (.ref x) (.ref C) (ExAt x C) where
 ty:=fun _ _ _ I=>I.type
 it:=fun _ _ X _=>by
  obtain⟨cd,hcD,_⟩:=Option.bind_eq_some_iff.mp k.ob;unfold clsIn at hcD;split at hcD
  ·rename_i c' d' cd' sl' ho
   intro A' Q' E' s' k q;unfold isType loadHead;exact wpAny_bind (wpAny_loadPart (k _ _ (X _ _ ho)) (wpAny_pure q))
  ·cases hcD
 ne:=fun h tp dd its n sl X htp=>by
  obtain⟨cd,hcD,_⟩:=Option.bind_eq_some_iff.mp k.ob;refine Bool.eq_false_iff.mpr fun q=>?_
  have e:C=tp:=Value.ref.inj (beq_iff_eq.mp q);subst e;unfold clsIn at hcD;split at hcD
  ·rename_i c' d' cd' sl' ho
   have z:=(X _ _ ho).symm.trans htp;cases z
  ·cases hcD
 ca:=fun X I q=>exc_class X k I q
end
inductive Ksi (K:FrQ)(H:Hp)(C:Addr):V->Bool->Prop where
 | ty {T:String} {b:Bool} (h:kitOne K (.ref C) (.type T)=some b):Ksi K H C (.ty T) b
 | own {D:Addr} {b:Bool} (h:kitOne K (.ref C) (.ref D)=some b):Ksi K H C (.ref D) b
 | tup {a:Addr} {cs:List Addr} {b:Bool} (e:H a=some (.tup (cs.map V.ref))) (h:kitAny K (.ref C) (cs.map Value.ref)=some b):Ksi K H C (.ref a) b
theorem vals_refs:∀ {cs:List Addr} {us:List Value},Vals (cs.map V.ref) us->us=cs.map Value.ref
 | [],_,r=>by cases r;rfl
 | c::cs,_,r=>by
  cases r with
  | cons r1 r2=>
   cases (show _=Value.ref c from r1)
   rw[vals_refs r2];rfl
def rIsiE (K:FrQ):List V->Hp->VK->Prop:=fun xs H Q=>∃ a C c b,xs=[.ref a,c]/\H a=some (.ext (ExAt a C))/\ExcK K C/\Ksi K H C c b/\Q (.bl b) H
section
variable {X:Cx}
theorem call_isiE:CallR X (.builtin "isinstance") (rIsiE X.K):=by
 intro pins s σ H xs us Q I rv h;obtain⟨a,C,c,b,rfl,ha,k,kb,q⟩:=h;obtain⟨u,w',rfl,rx,rt⟩:=vals2 rv;cases (show u=Value.ref a from rx)
 have fin:∀ tk,EP X pins σ Q (.bool b) { s with toks:=tk }:=fun tk=>⟨.bl b,H,I.tok tk,rfl,q⟩
 have hE:ExAt a C s.heap:=(I.hok a _ ha).1;cases kb with
 | ty h=>cases (show w'=Value.type _ from rt);exact kia_one (kitx_exc k) I.kIn hE h (fun z=>nomatch z) fin
 | own h=>cases (show w'=Value.ref _ from rt);exact kia_one (kitx_exc k) I.kIn hE h (fun z=>nomatch z) fin
 | tup e h=>
  cases (show w'=Value.ref _ from rt)
  obtain⟨its,r,tt,_⟩:=I.tuple (SqT.of e);have er:=vals_refs r;subst er;obtain⟨o,h1,h2,h3⟩:=tt;obtain⟨oc,od,oda,osl⟩:=o;dsimp only at h2 h3
  subst h2;obtain⟨n,h3⟩:=h3;subst h3;exact kia_tup (kitx_exc k) I.kIn hE h1 h (fun z=>nomatch z) fin
theorem callK_isiE {K:FrQ}(h:X.K=K):CallR X (.builtin "isinstance") (rIsiE K):=by subst h;exact call_isiE
end
section
variable {X:Cx} {pins:List (Addr×Obj)} {σ:St} {H1 H':Hp} {s1 s2:Shared} {C ea:Addr}
theorem Inv.caught (I:Inv X pins σ H1 s1)(o:Out X.prog X.w X.stack H1 s1 C ea H' s2):∃ (B:Heap) (t:Addr),Wa B X.stack ea (.ref C) (.ref t) s2.heap/\
  ∀ h5,Wa B X.stack ea (.ref C) (.ref t) h5->s2.heap.UpToSlots h5->Cxn ea h5->Inv X pins σ (upd H' ea (.ext (ExAt ea C))) { s2 with heap:=h5 }:=by
 obtain⟨B,t,fl,hB⟩:=o.fly;refine⟨B,t,fl,fun h5 f5 ups c5=>?_⟩
 have nofr:ea ∉ frs X.stack:=fun hb=>by
  obtain⟨_,o',ho',hd⟩:=f5.2.2.1.mem hb;obtain⟨oe,vs,he,_,hdd,_⟩:=f5.first
  rw[he] at ho';cases ho';exact hd vs hdd
 have fresh:∀ u,s1.heap.get? ea≠some u:=fun u z=>by
  obtain⟨o2,h2⟩:=o.un.there ea u z (by simp)
  have:=hB ea o2 h2 (.inl ⟨_,z⟩) nofr
  rw[f5.2.1] at this;cases this
 have keep:∀ b u,s2.heap.get? b=some u->((∃ u,s1.heap.get? b=some u)\/H' b≠none)->b ∉ frs X.stack->h5.get? b=some u:=fun b u hb hc hn=>f5.1 _ _ (hB b u hb hc hn)
 have slot:∀ b o',s1.heap.get? b=some o'->H1 b=none->b∈frs X.stack->∃ sl,h5.get? b=some { o' with slots:=sl }:=fun b o' e n hb=>by
  obtain⟨sl,h2⟩:=o.un.slot b o' e n hb (by simp)
  obtain⟨_,oo,ho',hd⟩:=I.stack.mem hb;rw[e] at ho';cases ho';obtain⟨sl',h4⟩:=ups b _ h2 hd;exact⟨sl',h4⟩
 have ne:∀ b o',H' b=some o'->b≠ea:=fun b o' z w=>by rw[w,o.free] at z;cases z
 refine I.call' (s':={ s2 with heap:=h5 }) o.os ⟨fun b o' e n hb hx=>keep b o' (o.un.keep b o' e n hb hx) (.inl ⟨_,e⟩) hb,fun b o' e n hb hx=>slot b o' e n hb,fun b o' e n hx=>?_,fun b o' e hx=>?_,fun b xs z=>?_,fun b o' u z=>?_,fun b ps z=>?_⟩ (fun a u ha=>?_) o.bare (fun b z=>W1 z (by simp))
 ·have:b≠ea:=fun z=>fresh o' (z ▸ e)
  rw[upd_ne this];exact o.un.free b o' e n hx
 ·by_cases hb:b∈frs X.stack
  ·obtain⟨sl,z⟩:=slot b o' e (I.stkFree b hb) hb
   exact⟨_,z⟩
  ·obtain⟨o2,z⟩:=o.un.there b o' e hx
   exact⟨_,keep b o2 z (.inl ⟨_,e⟩) hb⟩
 ·have:=o.un.tups b xs z
  rw[upd_ne (ne b _ this)];exact this
 ·have:=o.un.frzs b o' u z
  rw[upd_ne (ne b _ this)];exact this
 ·obtain⟨m,this⟩:=o.un.tbls b ps z
  exact⟨m,by rw[upd_ne (ne b _ this)];exact this⟩
 ·by_cases c:a=ea
  ·subst c
   rw[upd_same] at ha;cases ha;obtain⟨oe,vs,he,hc,hdd,_⟩:=f5.first
   obtain⟨oe',vs',he',hdd',h2'⟩:=c5;rw[he] at he';cases he';refine⟨⟨oe,vs',he,hc,hdd',h2'⟩,⟨_,he⟩,fun h1 h2 z k=>?_⟩
   obtain⟨o1,v1,z1,z2,z3⟩:=z;exact⟨o1,v1,k _ z1,z2,z3⟩
  ·rw[upd_ne c] at ha
   have tr:∀ b,(b=a\/H' b=some (.own a))->H' b≠none:=fun b hb=>by
    rcases hb with z | z
    ·rw[z,ha];simp
    ·rw[z];simp
   refine (o.hok a u ha).stay (fun b v hb hv=>?_) (fun b z=>by rw[upd_ne (ne b _ z)];exact z) fun b xs z=>by rw[upd_ne (ne b _ z)];exact z
   refine keep b v hv (.inr (tr b hb)) fun hm=>tr b hb ?_
   obtain⟨_,o',ho',hd⟩:=I.stack.mem hm;exact o.un.free b o' ho' (I.stkFree b hm) (by simp)
end
abbrev Cx.bears (X:Cx)(pn:List (Addr×Obj)):Cx:={ X with pn:=pn }
abbrev Cx.inTry (X:Cx)(pn:List (Addr×Obj))(E:XK):Cx:=(X.bears pn).wish fun e s'=>∃ pins σ H1 s1,Inv (X.bears pn) pins σ H1 s1/\CXe X.prog X.w X.stack H1 s1 E e s'
abbrev Cx.inExc (X:Cx)(ea:Addr):Cx:={ X with A:=X.A.mark (some (.ref ea)),calm:=false,xe:=fun _ _=>False }
section
variable {X:Cx} {pins pn:List (Addr×Obj)} {σ:St} {H:Hp} {s:Shared} {ea:Addr}
theorem Cx.Ok.bears (ok:X.Ok)(pn:List (Addr×Obj)):(X.bears pn).Ok:=
 ⟨ok.mod,ok.kind,ok.glob,ok.blt,ok.above,ok.inj,ok.has,ok.cab,ok.hd,ok.frames,ok.stk,ok.exf,ok.bs,ok.bsz,ok.noex,ok.exfs,ok.funs,ok.frf⟩
theorem Cx.Ok.unbears (ok:(X.bears pn).Ok):X.Ok:=
 ⟨ok.mod,ok.kind,ok.glob,ok.blt,ok.above,ok.inj,ok.has,ok.cab,ok.hd,ok.frames,ok.stk,ok.exf,ok.bs,ok.bsz,ok.noex,ok.exfs,ok.funs,ok.frf⟩
theorem Inv.bears (I:Inv X pins σ H s):Inv (X.bears (X.pn++pins)) [] σ H s:=⟨I.ok.bears _,I.os,I.bare,I.base,I.loc,I.cell,I.free,I.freeC,fun p hp=>I.pin p (by rw[List.append_nil] at hp;exact hp),I.hok,I.len⟩
theorem Inv.unbears {pl:List (Addr×Obj)}(I:Inv (X.bears (X.pn++pins)) pl σ H s):Inv X pins σ H s:=⟨I.ok.unbears,I.os,I.bare,I.base,I.loc,I.cell,I.free,I.freeC,fun p hp=>I.pin p (List.mem_append_left _ hp),I.hok,I.len⟩
theorem SP.unbears {D:Ends}{f:Flow}(h:SP (X.bears (X.pn++pins)) [] D f s):SP X pins D f s:=by
 cases f with
 | next=>obtain⟨σ',H',I,q⟩:=h;exact⟨σ',H',I.unbears,q⟩
 | brk=>obtain⟨σ',H',I,q⟩:=h;exact⟨σ',H',I.unbears,q⟩
 | cont=>obtain⟨σ',H',I,q⟩:=h;exact⟨σ',H',I.unbears,q⟩
 | ret u=>obtain⟨v,σ',H',I,r,q⟩:=h;exact⟨v,σ',H',I.unbears,r,q⟩
theorem Cx.Ok.inExc (ok:X.Ok)(ea:Addr):(X.inExc ea).Ok:=
 ⟨ok.mod,ok.kind,ok.glob,ok.blt,ok.above,ok.inj,ok.has,ok.cab,(fun z=>nomatch z),ok.frames,ok.stk,ok.exf,ok.bs,ok.bsz,ok.noex,ok.exfs,ok.funs,ok.frf⟩
theorem Inv.inExc (I:Inv X pins σ H s)(ea:Addr):Inv (X.inExc ea) pins σ H s:=⟨I.ok.inExc ea,I.os,I.bare,I.base,I.loc,I.cell,I.free,I.freeC,I.pin,I.hok,I.len⟩
theorem Inv.outExc (ok:X.Ok)(I:Inv (X.inExc ea) pins σ H s):Inv X pins σ H s:=⟨ok,I.os,I.bare,I.base,I.loc,I.cell,I.free,I.freeC,I.pin,I.hok,I.len⟩
theorem pass_try {E:XK}:Passes (CXe X.prog X.w) (X.inTry pn E) E:=fun pins σ H s e s' I h=>⟨pins,σ,H,s,I.unwish,h⟩
theorem Inv.forgot (I:Inv X pins σ H s){h':Heap}{m':Str->Option Value}{t':Nat}(hn:h'.Ns X.env.locals m')(hs:Heap.SameBut X.env.locals s.heap h'):Inv X pins (Yp X.N.length none) H { s with heap:=h',toks:=t' }:=by
 have ne:∀ b o,X.s₀.heap.get? b=some o->b≠X.env.locals:=fun b o e=>Ym (Yh (Yi e) I.ok.above)
 refine⟨I.ok,I.os,I.bare,⟨fun b o e n hb hx=>(hs.2 b (ne b o e)).trans (I.base.keep b o e n hb hx),fun b o e n hb hx=>?_,I.base.free,fun b o e hx=>?_,I.base.tups,I.base.frzs,I.base.tbls⟩,⟨m',hn,fun i x v e1 e2 e3=>?_⟩,fun x c e=>?_,I.free,I.freeC,fun p hp=>?_,fun b ob e=>?_,by rw[List.length_replicate]⟩
 ·obtain⟨sl,z⟩:=I.base.slot b o e n hb hx
  exact⟨sl,(hs.2 b (ne b o e)).trans z⟩
 ·obtain⟨o',z⟩:=I.base.there b o e hx
  exact⟨o',(hs.2 b (ne b o e)).trans z⟩
 ·rw[List.getElem?_replicate] at e2
  split at e2 <;> cases e2
 ·obtain⟨v,z⟩:=I.cell x c e
  exact⟨v,z.sameBut hs (I.cne x c e)⟩
 ·obtain⟨z1,z2,z3,z4,z5⟩:=I.pin p hp
  exact⟨(hs.2 _ z3).trans z1,z2,z3,z4,z5⟩
 ·refine (I.hok b ob e).stay (fun c w' hc q=>(hs.2 c ?_).trans q) (fun _ q=>q) fun _ _ q=>q
  rintro rfl;rcases hc with z | z
  ·rw[<- z,I.free] at e;cases e
  ·rw[I.free] at z;cases z
end
def tTry (K:FrQ)(i len:Nat)(D:Addr)(tb:XK->TS)(ts:Addr->TS):TS:=fun Dn σ H=>tb (fun e C H'=>∃ c,C=some c/\exmOne K (.ref c) (.ref D)=some true/\∀ (ea:Addr) (σ':St),e=.ref ea->H' ea=none->σ'.length=len->
 ts ea { nx:=fun _ H2=>Dn.nx (Yp len none) H2,rt:=Dn.rt,bk:=fun _ H2=>Dn.bk (Yp len none) H2,ct:=fun _ H2=>Dn.ct (Yp len none) H2 } (σ'.set i (some (.ref ea))) (upd H' ea (.ext (ExAt ea c)))) Dn σ H
theorem ps_try {X:Cx}{i:Nat}{n x:Str}{D:Addr}{body suite:List Stmt}{b₀:Stmt}{tb:XK->TS}{ts:Addr->TS}{np hpos pos:Pos}(hf:X.stack=X.env::X.outer/\X.env.frame=some X.env.locals)(hN:X.N.Nodup)(hi:X.N[i]?=some n)(hl:X.env.kindOf n=some .local)
  (hg:Gl X x) (hm:X.mg x=some (.ref D)) (hb:∀ pn E,PSs (X.inTry pn E) body (tb E)) (hs:∀ ea,PSs (X.inExc ea) (b₀::suite) (ts ea)) (hd:(x ==("__debug__":Str))=false:=by decide):
  PS X (.Try body [.ExceptHandler (some (.Name x np)) (some n) (b₀::suite) hpos] [] [] pos) (tTry X.K i X.N.length D tb ts):=by
 refine⟨?_⟩
 intro pins s σ H Dn I h;refine wpAny_Try_except (wpAny_mono ((hb (X.pn++pins) _).1 [] s σ H Dn (I.bears.wish _) h) (fun f s1 q=>?_) fun e s2 q=>?_)
 ·have q:=q.unwish.unbears
  cases f with
  | next=>exact wpAny_execs_nil q
  | brk=>exact q
  | cont=>exact q
  | ret u=>exact q
 ·obtain⟨pl,σ1,H1,s1,I1,ea,C,H',rfl,o,c,hc,hx,hts⟩:=q
  cases hc;have I1:=I1.unbears;obtain⟨B,t,fl,nxt⟩:=I1.caught o;have hfr:=I1.ok.frames;rw[hf.1] at hfr fl nxt;refine wpAny_mono (keep_any (a:=ea) (kp_note _ _) o.cxn (wpAny_looks_onW (Q:=fun _ s3=>∃ h3,s3={ s2 with heap:=h3 }/\Heap.HeldW B (X.env::X.outer) ea (.ref C) (.ref t) X.env.locals h3/\s2.heap.UpToSlots h3) (E:=fun _ _=>False) hfr hf.2 fl fun h3 held3 u3=>⟨h3,rfl,held3,u3⟩)) (fun _ s3 z=>?_) fun _ _ z=>False.elim z.1
  obtain⟨⟨h3,rfl,held3,u3⟩,c3⟩:=z;refine wpAny_mono (keep_any (a:=ea) (kp_setFlight _ _) c3 (wpAny_landsW (s:={ s2 with heap:=h3 }) (Q:=fun _ s4=>∃ h4,s4={ s2 with heap:=h4 }/\Wa B (X.env::X.outer) ea (.ref C) (.ref t) h4/\h3.UpToSlots h4) (E:=fun _ _=>False) held3 fun h4 f4 u4=>⟨h4,rfl,f4,u4⟩)) (fun _ s4 z=>?_) fun _ _ z=>False.elim z.1
  obtain⟨⟨h4,rfl,f4,u4⟩,c4⟩:=z;have J4:=(nxt h4 f4 (u3.trans u4) c4).inExc ea;refine wpAny_handleBy_cons (codeAny_handlers_test (ld_glob (X:=X.inExc ea) J4 hg hm ?_ hd)) (by intro q;cases q)
  have hE4:ExAt ea C h4:=(J4.hok ea _ upd_same).1;refine (exm_one (K:=X.K) J4.kIn hE4.type hx).at ?_
  refine codeAny_handlers_suite_as ?_
  refine wpAny_mono (keep_any (a:=ea) (kp_setFlight _ _) c4 (lands_againW (s:={ s2 with heap:=h4 }) (Q:=fun _ s5=>∃ h5,s5={ s2 with heap:=h5 }/\Wa B (X.env::X.outer) ea (.ref C) (.ref t) h5/\h4.UpToSlots h5) (E:=fun _ _=>False) f4 fun h5 f5 u5=>⟨h5,rfl,f5,u5⟩)) (fun _ s5 z=>?_) fun _ _ z=>False.elim z.1
  obtain⟨⟨h5,rfl,f5,u5⟩,c5⟩:=z;have J5:=(nxt h5 f5 ((u3.trans u4).trans u5) c5).inExc ea;refine store_ok (X:=X.inExc ea) J5 hN hi (.inl hl) (v:=.ref ea) rfl (fun s6 I6=>?_) (.inr hl)
  refine wpAny_mono ((hs ea).1 pins s6 _ _ _ I6 (hts ea σ1 rfl o.free I1.len)) (fun f s7 q=>?_) fun _ _ z=>False.elim z
  have hcls:(X.env.scope.kind == .class || (X.env.scope.kind == .module && X.env.locals != X.env.globals))=false:=by rw[I.ok.kind];rfl
  have gone:∀ σ' H2,Inv (X.inExc ea) pins σ' H2 s7->∀ Q:Unit->Shared->Prop,(∀ s8,Inv X pins (Yp X.N.length none) H2 s8->Q () s8)->wpAny (model X.prog X.w) X.A (do bindName X.env n .none;unbindBehindTheSuite X.env n hpos) Q X.xe s7:=fun σ' H2 I7 Q k=>by
   obtain⟨m,hn,_⟩:=id I7.loc;exact wpAny_nameGoes hl hn hcls fun h' m' hn' hs'=>k _ ((I7.outExc I.ok).forgot hn' hs')
  cases f with
  | next=>obtain⟨σ',H2,I7,z⟩:=q;exact gone _ _ I7 _ fun s8 I8=>⟨_,_,I8,z⟩
  | brk=>obtain⟨σ',H2,I7,z⟩:=q;exact gone _ _ I7 _ fun s8 I8=>⟨_,_,I8,z⟩
  | cont=>obtain⟨σ',H2,I7,z⟩:=q;exact gone _ _ I7 _ fun s8 I8=>⟨_,_,I8,z⟩
  | ret u=>obtain⟨v,σ',H2,I7,r,z⟩:=q;exact gone _ _ I7 _ fun s8 I8=>⟨v,_,_,I8,r,z⟩
section
variable {K:FrQ} {N C:Addr} {b:Bool}
theorem cls_of (hm:mroIn K C (.type "object")=some true):(clsIn K C).isSome=true:=by
 obtain⟨cd,hcD,_⟩:=Option.bind_eq_some_iff.mp hm;rw[hcD];rfl
theorem kit_cl (hm:mroIn K C (.type "object")=some true)(ht:typeIn K (.ref C)=some (.type "type"))(hs:subIn K (.ref N) (.ref C)=some b):kitCls K (.ref N) (.ref C)=some b:=by
 show (if ((clsIn K C).isSome && typeIn K (.ref C) == some (.type "type"))=true then subIn K (.ref N) (.ref C) else none)=some b
 rw[cls_of hm,ht,Wv (by simp),hs]
theorem kit_no (hN:subIn K (.ref N) (.ref N)=some true)(hm:mroIn K C (.type "object")=some true)(ht:typeIn K (.ref C)=some (.type "type"))(hs:subIn K (.ref N) (.ref C)=some false):kitOne K (.ref N) (.ref C)=some false:=by
 unfold kitOne;rw[Wu (fun z=>by
  have e:N=C:=Value.ref.inj (beq_iff_eq.mp z);rw[<- e,hN] at hs;cases hs)]
 exact kit_cl hm ht hs
theorem kit_ty {T:String}(hk:kitMeta T=true)(hs:subIn K (.ref N) (.type T)=some b):kitOne K (.ref N) (.type T)=some b:=by
 unfold kitOne;rw[Wu (fun z=>by have:=beq_iff_eq.mp z;cases this)]
 show (if kitMeta T=true then subIn K (.ref N) (.type T) else none)=some b
 rw[Wv hk,hs]
theorem exm_yes (hm:mroIn K C (.type "object")=some true)(ht:typeIn K (.ref C)=some (.type "type"))(hb:subIn K (.ref C) (.type "BaseException")=some true)(hs:subIn K (.ref N) (.ref C)=some true):exmOne K (.ref N) (.ref C)=some true:=by
 unfold exmOne;rw[hb,Wv (by simp)]
 exact kit_cl hm ht hs
end
end L2
namespace L2
open PySem PySem.Spec PySem.W PyProof.Rows
end L2
namespace Alg
open Lean.Grind
section mk
variable {α:Type} (zero one:α) (add mul:α->α->α) (neg:α->α)
def nc:Nat->α
 | 0=>zero
 | 1=>one
 | n+2=>add (nc (n+1)) one
def ic:Int->α
 | .ofNat n=>nc zero one add n
 | .negSucc n=>neg (nc zero one add (n+1))
def npw (x:α):Nat->α
 | 0=>one
 | n+1=>mul (npw x n) x
@[reducible] def mkR (az:∀ a,add a zero=a) (ac:∀ a b,add a b=add b a) (aa:∀ a b c,add (add a b) c=add a (add b c)) (ma:∀ a b c,mul (mul a b) c=mul a (mul b c)) (mo:∀ a,mul a one=a)
    (ld:∀ a b c,mul a (add b c)=add (mul a b) (mul a c)) (mc:∀ a b,mul a b=mul b a) (na:∀ a,add (neg a) a=zero):CommRing α:=
  have mz:∀ a,mul a zero=zero:=fun a=>by
    have h1:mul a zero=add (mul a zero) (mul a zero):=by rw[<- ld,az]
    calc mul a zero=add zero (mul a zero):=by rw[ac,az]
      _=add (add (neg (mul a zero)) (mul a zero)) (mul a zero):=by rw[na]
      _=add (neg (mul a zero)) (mul a zero):=by rw[aa,<- h1]
      _=zero:=na _
  have nn:∀ a,neg (neg a)=a:=fun a=>by
    calc neg (neg a)=add (neg (neg a)) (add (neg a) a):=by rw[na,az]
      _=add (add (neg (neg a)) (neg a)) a:=by rw[aa]
      _=a:=by rw[na,ac,az]
  have nz:neg zero=zero:=by rw[<- az (neg zero),na]
  have nm:∀ a b,mul (neg a) b=neg (mul a b):=fun a b=>by
    calc mul (neg a) b=add (mul (neg a) b) (add (mul a b) (neg (mul a b))):=by rw[ac (mul a b),na,az]
      _=add (add (mul (neg a) b) (mul a b)) (neg (mul a b)):=by rw[aa]
      _=add (mul b (add (neg a) a)) (neg (mul a b)):=by rw[mc (neg a),mc a,ld]
      _=neg (mul a b):=by rw[na,mz,ac,az]
  have inn:∀ i:Int,ic zero one add neg (-i)=neg (ic zero one add neg i):=fun i=>by
    match i with
    | .ofNat 0=>exact nz.symm
    | .ofNat (n+1)=>rfl
    | .negSucc n=>exact (nn _).symm
  { add:=add,mul:=mul,neg:=neg,sub:=fun a b=>add a (neg b)
    natCast:=⟨nc zero one add⟩,ofNat:=fun n=>⟨nc zero one add n⟩,nsmul:=⟨fun n a=>mul (nc zero one add n) a⟩,npow:=⟨npw one mul⟩
    add_zero:=az,add_comm:=ac,add_assoc:=aa,mul_assoc:=ma,mul_one:=mo,one_mul:=fun a=>(mc _ _).trans (mo a),left_distrib:=ld
    right_distrib:=fun a b c=>by
      show mul (add a b) c=add (mul a c) (mul b c)
      rw[mc,ld,mc c,mc c]
    zero_mul:=fun a=>(mc _ _).trans (mz a),mul_zero:=mz,pow_zero:=fun _=>rfl,pow_succ:=fun _ _=>rfl
    ofNat_succ:=fun a=>by
      match a with
      | 0=>exact ((ac _ _).trans (az one)).symm
      | n+1=>rfl
    ofNat_eq_natCast:=fun _=>rfl,nsmul_eq_natCast_mul:=fun _ _=>rfl
    intCast:=⟨ic zero one add neg⟩,zsmul:=⟨fun i a=>mul (ic zero one add neg i) a⟩
    neg_add_cancel:=na,sub_eq_add_neg:=fun _ _=>rfl
    neg_zsmul:=fun i a=>by
      show mul (ic zero one add neg (-i)) a=neg (mul (ic zero one add neg i) a)
      rw[inn,nm]
    zsmul_natCast_eq_nsmul:=fun _ _=>rfl,intCast_ofNat:=fun _=>rfl,intCast_neg:=inn,mul_comm:=mc }
end mk
@[ext] structure Ser (α:Type) where
 c:Nat->α
section ser
variable {α:Type} [CommRing α]
def tl (a:Ser α):Ser α:=⟨fun i=>a.c (i+1)⟩
def smu (x:α)(a:Ser α):Ser α:=⟨fun i=>x*a.c i⟩
def sadd (a b:Ser α):Ser α:=⟨fun i=>a.c i+b.c i⟩
def sneg (a:Ser α):Ser α:=⟨fun i=>- a.c i⟩
def szero:Ser α:=⟨fun _=>0⟩
def cst (x:α):Ser α:=⟨fun i=>if i=0 then x else 0⟩
def smulc (a b:Ser α):Nat->α
 | 0=>a.c 0*b.c 0
 | k+1=>a.c 0*b.c (k+1)+smulc (tl a) b k
def smul (a b:Ser α):Ser α:=⟨smulc a b⟩
theorem sc_zero_left (b:Ser α):∀ k,smulc szero b k=0
 | 0=>by show (0:α)*b.c 0=0;grind
 | k+1=>by
  have:=sc_zero_left b k
  show (0:α)*b.c (k+1)+smulc szero b k=0
  grind
theorem sc_add_left (c:Ser α):∀ (k:Nat) (a b:Ser α),smulc (sadd a b) c k=smulc a c k+smulc b c k
 | 0,a,b=>by show (a.c 0+b.c 0)*c.c 0=a.c 0*c.c 0+b.c 0*c.c 0;grind
 | k+1,a,b=>by
  have:=sc_add_left c k (tl a) (tl b)
  show (a.c 0+b.c 0)*c.c (k+1)+smulc (sadd (tl a) (tl b)) c k=(a.c 0*c.c (k+1)+smulc (tl a) c k)+(b.c 0*c.c (k+1)+smulc (tl b) c k)
  grind
theorem sc_smu_left (x:α)(c:Ser α):∀ (k:Nat) (a:Ser α),smulc (smu x a) c k=x*smulc a c k
 | 0,a=>by show (x*a.c 0)*c.c 0=x*(a.c 0*c.c 0);grind
 | k+1,a=>by
  have:=sc_smu_left x c k (tl a)
  show (x*a.c 0)*c.c (k+1)+smulc (smu x (tl a)) c k=x*(a.c 0*c.c (k+1)+smulc (tl a) c k)
  grind
theorem sc_right:∀ (k:Nat) (a b:Ser α),smulc a b (k+1)=smulc a (tl b) k+a.c (k+1)*b.c 0
 | 0,a,b=>rfl
 | k+1,a,b=>by
  have:=sc_right k (tl a) b
  show a.c 0*b.c (k+2)+smulc (tl a) b (k+1)=(a.c 0*b.c (k+2)+smulc (tl a) (tl b) k)+a.c (k+2)*b.c 0
  have e:(tl a).c (k+1)=a.c (k+2):=rfl;grind
theorem sc_comm:∀ (k:Nat) (a b:Ser α),smulc a b k=smulc b a k
 | 0,a,b=>by show a.c 0*b.c 0=b.c 0*a.c 0;grind
 | k+1,a,b=>by
  have:=sc_comm k (tl a) b
  rw[sc_right k b a];show a.c 0*b.c (k+1)+smulc (tl a) b k=_
  grind
theorem tl_smul (a b:Ser α):tl (smul a b)=sadd (smu (a.c 0) (tl b)) (smul (tl a) b):=rfl
theorem sc_assoc (c:Ser α):∀ (k:Nat) (a b:Ser α),smulc (smul a b) c k=smulc a (smul b c) k
 | 0,a,b=>by show (a.c 0*b.c 0)*c.c 0=a.c 0*(b.c 0*c.c 0);grind
 | k+1,a,b=>by
  have:=sc_assoc c k (tl a) b
  show (a.c 0*b.c 0)*c.c (k+1)+smulc (tl (smul a b)) c k=a.c 0*(b.c 0*c.c (k+1)+smulc (tl b) c k)+smulc (tl a) (smul b c) k
  rw[tl_smul,sc_add_left,sc_smu_left];show _+(_+smulc (smul (tl a) b) c k)=_
  grind
theorem sc_cst (x:α)(b:Ser α):∀ k,smulc (cst x) b k=x*b.c k
 | 0=>rfl
 | k+1=>by
  have e:tl (cst x)=szero:=by
   apply Ser.ext;funext i;show (if i+1=0 then x else 0)=(0:α);rw[Wu (by omega)]
  show (if 0=0 then x else 0)*b.c (k+1)+smulc (tl (cst x)) b k=x*b.c (k+1)
  rw[e,sc_zero_left,Wv rfl];grind
instance:CommRing (Ser α):=mkR szero (cst 1) sadd smul sneg
 (fun a=>by apply Ser.ext;funext i;show a.c i+0=a.c i;grind) (fun a b=>by apply Ser.ext;funext i;show a.c i+b.c i=b.c i+a.c i;grind)
 (fun a b c=>by apply Ser.ext;funext i;show a.c i+b.c i+c.c i=a.c i+(b.c i+c.c i);grind) (fun a b c=>by apply Ser.ext;funext i;exact sc_assoc c i a b)
 (fun a=>by apply Ser.ext;funext i;show smulc a (cst 1) i=a.c i;rw[sc_comm,sc_cst];grind)
 (fun a b c=>by apply Ser.ext;funext i;show smulc a (sadd b c) i=smulc a b i+smulc a c i;rw[sc_comm,sc_add_left,sc_comm _ b,sc_comm _ c])
 (fun a b=>by apply Ser.ext;funext i;exact sc_comm i a b) (fun a=>by apply Ser.ext;funext i;show - a.c i+a.c i=0;grind)
theorem c_add (a b:Ser α)(i:Nat):(a+b).c i=a.c i+b.c i:=rfl
theorem c_neg (a:Ser α)(i:Nat):(-a).c i=- a.c i:=rfl
theorem c_sub (a b:Ser α)(i:Nat):(a - b).c i=a.c i - b.c i:=by
 show a.c i+- b.c i=_
 grind
theorem cst_mul (x:α)(a:Ser α)(i:Nat):(cst x*a).c i=x*a.c i:=sc_cst x a i
end ser
end Alg
namespace Alg
open Lean.Grind
section
variable {α:Type} [CommRing α]
def Dg (a:Ser α)(n:Nat):Prop:=∀ i,n<=i->a.c i=0
def IsP (a:Ser α):Prop:=∃ N,Dg a N
theorem Dg.mono {a:Ser α}{m n:Nat}(h:Dg a m)(k:m<=n):Dg a n:=fun i hi=>h i (by omega)
theorem Dg.add {a b:Ser α}{n:Nat}(h:Dg a n)(k:Dg b n):Dg (a+b) n:=fun i hi=>by rw[c_add,h i hi,k i hi];grind
theorem Dg.neg {a:Ser α}{n:Nat}(h:Dg a n):Dg (-a) n:=fun i hi=>by rw[c_neg,h i hi];grind
theorem Dg.sub {a b:Ser α}{n:Nat}(h:Dg a n)(k:Dg b n):Dg (a - b) n:=fun i hi=>by rw[c_sub,h i hi,k i hi];grind
theorem Dg.zero (n:Nat):Dg (0:Ser α) n:=fun i _=>rfl
theorem Dg.cst (x:α):Dg (cst x) 1:=fun i hi=>by show (if i=0 then x else 0)=0;rw[Wu (by omega)]
theorem Dg.one:Dg (1:Ser α) 1:=Dg.cst 1
theorem Dg.tl {a:Ser α}{n:Nat}(h:Dg a (n+1)):Dg (tl a) n:=fun i hi=>h (i+1) (by omega)
theorem Dg.eq0 {a:Ser α}(h:Dg a 0):a=0:=by
 apply Ser.ext;funext i;exact h i (Y7 _)
theorem cst_of {a:Ser α}(h:Dg a 1):a=Alg.cst (a.c 0):=by
 apply Ser.ext;funext i
 show a.c i=if i=0 then a.c 0 else 0
 by_cases e:i=0
 ·rw[Wv e,e]
 ·rw[Wu e];exact h i (by omega)
theorem mul_top (b:Ser α)(n:Nat)(hb:Dg b (n+1)):∀ (m:Nat) (a:Ser α),Dg a (m+1)->(a*b).c (m+n)=a.c m*b.c n/\Dg (a*b) (m+n+1)
 | 0,a,ha=>by
  rw[cst_of ha];refine⟨by rw[Wo,cst_mul];rfl,fun i hi=>?_⟩
  rw[cst_mul,hb i (by omega)];grind
 | m+1,a,ha=>by
  obtain⟨h1,h2⟩:=mul_top b n hb m (tl a) ha.tl;have s:∀ k,(a*b).c (k+1)=a.c 0*b.c (k+1)+(tl a*b).c k:=fun k=>rfl
  refine⟨?_,fun i hi=>?_⟩
  ·have e:m+1+n=(m+n)+1:=by omega
   rw[e,s,h1,hb _ (by omega)]
   show _+a.c (m+1)*_=_
   grind
  ·obtain⟨k,rfl⟩:∃ k,i=k+1:=⟨i - 1,by omega⟩
   rw[s,hb _ (by omega),h2 _ (by omega)];grind
theorem Dg.mul {a b:Ser α}{m n:Nat}(ha:Dg a m)(hb:Dg b n):Dg (a*b) (m+n):=fun i hi=>by
 obtain⟨h1,h2⟩:=mul_top b n (hb.mono (by omega)) m a (ha.mono (by omega))
 by_cases e:i=m+n
 ·rw[e,h1,ha m (Yd _)];grind
 ·exact h2 i (by omega)
theorem IsP.add {a b:Ser α}:IsP a->IsP b->IsP (a+b):=fun ⟨m,h⟩ ⟨n,k⟩=>⟨m+n,(h.mono (by omega)).add (k.mono (by omega))⟩
theorem IsP.neg {a:Ser α}:IsP a->IsP (-a):=fun ⟨m,h⟩=>⟨m,h.neg⟩
theorem IsP.mul {a b:Ser α}:IsP a->IsP b->IsP (a*b):=fun ⟨m,h⟩ ⟨n,k⟩=>⟨m+n,h.mul k⟩
theorem IsP.zero:IsP (0:Ser α):=⟨0,Dg.zero 0⟩
theorem IsP.cst (x:α):IsP (cst x):=⟨1,Dg.cst x⟩
theorem pw_succ {β:Type}[CommRing β](x:β)(n:Nat):x ^ (n+1)=x ^ n*x:=Semiring.pow_succ x n
theorem pw_zero {β:Type}[CommRing β](x:β):x ^ 0=1:=Semiring.pow_zero x
theorem pw_add {β:Type}[CommRing β](x:β)(m:Nat):∀ n,x ^ (m+n)=x ^ m*x ^ n
 | 0=>by rw[Nat.add_zero,pw_zero];grind
 | n+1=>by rw[<- Nat.add_assoc,pw_succ,pw_add x m n,pw_succ];grind
theorem one_pw {β:Type}[CommRing β]:∀ n:Nat,(1:β) ^ n=1
 | 0=>pw_zero _
 | n+1=>by rw[pw_succ,one_pw n];grind
theorem mul_pw {β:Type}[CommRing β](x y:β):∀ n:Nat,(x*y) ^ n=x ^ n*y ^ n
 | 0=>by rw[pw_zero,pw_zero,pw_zero];grind
 | n+1=>by rw[pw_succ,mul_pw x y n,pw_succ,pw_succ];grind
theorem pw_mul {β:Type}[CommRing β](x:β)(m:Nat):∀ n,x ^ (m*n)=(x ^ m) ^ n
 | 0=>by rw[Nat.mul_zero,pw_zero,pw_zero]
 | n+1=>by rw[Wp,pw_add,pw_mul x m n,pw_succ]
def mon (x:α)(k:Nat):Ser α:=⟨fun i=>if i=k then x else 0⟩
theorem mon_mul (x:α)(b:Ser α):∀ k i,(mon x k*b).c i=if k<=i then x*b.c (i - k) else 0
 | 0,i=>by
  have e:mon x 0=cst x:=rfl;rw[e,cst_mul,Wv (Y7 _)];rfl
 | k+1,0=>by
  show (if 0=k+1 then x else 0)*b.c 0=_
  rw[Wu (by omega),Wu (by omega)];grind
 | k+1,i+1=>by
  have e:tl (mon x (k+1))=mon x k:=by
   apply Ser.ext;funext j
   show (if j+1=k+1 then x else 0)=if j=k then x else 0
   by_cases h:j=k
   ·rw[Wv h,Wv (by omega)]
   ·rw[Wu h,Wu (by omega)]
  show (if 0=k+1 then x else 0)*b.c (i+1)+(tl (mon x (k+1))*b).c i=_
  rw[e,mon_mul x b k i,Wu (by omega)]
  by_cases h:k<=i
  ·rw[Wv h,Wv (by omega)]
   have:i+1 - (k+1)=i - k:=by omega
   rw[this];grind
  ·rw[Wu h,Wu (by omega)];grind
theorem Dg.mon (x:α)(k:Nat):Dg (mon x k) (k+1):=fun i hi=>by show (if i=k then x else 0)=0;rw[Wu (by omega)]
structure Monic (f:Ser α)(n:Nat):Prop where
 top:f.c n=1
 dg:Dg f (n+1)
theorem div_ex {f:Ser α}{n:Nat}(hf:Monic f n):∀ (N:Nat) (a:Ser α),Dg a N->∃ q,Dg q (N - n)/\Dg (a - q*f) n
 | 0,a,ha=>⟨0,Dg.zero _,by
   have:a - 0*f=a:=by grind
   rw[this];exact ha.mono (Y7 _)⟩
 | N+1,a,ha=>by
  by_cases hn:N+1<=n
  ·refine⟨0,Dg.zero _,?_⟩
   have:a - 0*f=a:=by grind
   rw[this];exact ha.mono hn
  ·have hd:Dg (a - Alg.mon (a.c N) (N - n)*f) N:=fun i hi=>by
    rw[c_sub,mon_mul,Wv (by omega)]
    by_cases e:i=N
    ·have:N - (N - n)=n:=by omega
     rw[e,this,hf.top];grind
    ·rw[ha i (by omega),hf.dg _ (by omega)];grind
   obtain⟨q,h1,h2⟩:=div_ex hf N _ hd;refine⟨q+Alg.mon (a.c N) (N - n),?_,?_⟩
   ·refine (h1.mono (by omega)).add ?_
    have:N+1 - n=N - n+1:=by omega
    rw[this];exact Dg.mon _ _
   ·have:a - (q+Alg.mon (a.c N) (N - n))*f=a - Alg.mon (a.c N) (N - n)*f - q*f:=by grind
    rw[this];exact h2
theorem div_uniq {f:Ser α}{n:Nat}(hf:Monic f n):∀ (M:Nat) (q:Ser α),Dg q M->Dg (q*f) n->q=0
 | 0,q,h,_=>h.eq0
 | M+1,q,h,k=>by
  have e:=(mul_top f n hf.dg M q h).1;rw[k _ (by omega),hf.top] at e
  refine div_uniq hf M q (fun i hi=>?_) k
  by_cases z:i=M
  ·rw[z];grind
  ·exact h i (by omega)
def Cg (f a b:Ser α):Prop:=∃ q,IsP q/\a - b=q*f
theorem Cg.refl (f a:Ser α):Cg f a a:=⟨0,IsP.zero,by grind⟩
theorem Cg.symm {f a b:Ser α}:Cg f a b->Cg f b a:=fun ⟨q,h,e⟩=>⟨-q,h.neg,by grind⟩
theorem Cg.trans {f a b c:Ser α}:Cg f a b->Cg f b c->Cg f a c:=fun ⟨q,h,e⟩ ⟨r,k,g⟩=>⟨q+r,h.add k,by grind⟩
theorem Cg.add {f a b c d:Ser α}:Cg f a b->Cg f c d->Cg f (a+c) (b+d):=fun ⟨q,h,e⟩ ⟨r,k,g⟩=>⟨q+r,h.add k,by grind⟩
theorem Cg.mul {f a b c d:Ser α}(pb:IsP b)(pc:IsP c):Cg f a b->Cg f c d->Cg f (a*c) (b*d):=fun ⟨q,h,e⟩ ⟨r,k,g⟩=>⟨q*c+b*r,(h.mul pc).add (pb.mul k),by grind⟩
theorem Cg.uniq {f:Ser α}{n:Nat}(hf:Monic f n){a b:Ser α}(ha:Dg a n)(hb:Dg b n)(h:Cg f a b):a=b:=by
 obtain⟨q,⟨M,hq⟩,e⟩:=h;have z:=div_uniq hf M q hq (by rw[<- e];exact ha.sub hb)
 rw[z] at e;grind
end
structure Md (α:Type)[CommRing α] where
 f:Ser α
 n:Nat
 mon:Monic f n
 pos:0<n
section
variable {α:Type} [CommRing α]
@[ext] structure Qt (M:Md α) where
 s:Ser α
 lt:Dg s M.n
theorem rest_ex (M:Md α)(a:Ser α)(ha:IsP a):∃ r,Dg r M.n/\Cg M.f a r:=by
 obtain⟨N,h⟩:=ha;obtain⟨q,h1,h2⟩:=div_ex M.mon N a h;exact⟨a - q*M.f,h2,q,⟨_,h1⟩,by grind⟩
open Classical in
noncomputable def rest (M:Md α)(a:Ser α):Ser α:=if h:∃ r,Dg r M.n/\Cg M.f a r then h.choose else 0
theorem rest_dg (M:Md α)(a:Ser α):Dg (rest M a) M.n:=by
 unfold rest;split
 ·rename_i h;exact h.choose_spec.1
 ·exact Dg.zero _
theorem rest_cg {M:Md α}{a:Ser α}(ha:IsP a):Cg M.f a (rest M a):=by
 unfold rest;rw[dif_pos (rest_ex M a ha)];exact (rest_ex M a ha).choose_spec.2
theorem rest_eq {M:Md α}{a r:Ser α}(hr:Dg r M.n)(h:Cg M.f a r):rest M a=r:=by
 have ex:∃ r,Dg r M.n/\Cg M.f a r:=⟨r,hr,h⟩;refine Cg.uniq M.mon (rest_dg M a) hr (Cg.trans (Cg.symm ?_) h)
 unfold rest;rw[dif_pos ex];exact ex.choose_spec.2
theorem Qt.isP {M:Md α}(x:Qt M):IsP x.s:=⟨_,x.lt⟩
noncomputable def Qt.of (M:Md α)(a:Ser α):Qt M:=⟨rest M a,rest_dg M a⟩
theorem one_dg (M:Md α):Dg (1:Ser α) M.n:=Dg.one.mono M.pos
noncomputable instance (M:Md α):CommRing (Qt M):=mkR ⟨0,Dg.zero _⟩ ⟨1,one_dg M⟩ (fun a b=>⟨a.s+b.s,a.lt.add b.lt⟩) (fun a b=>Qt.of M (a.s*b.s)) (fun a=>⟨-a.s,a.lt.neg⟩)
 (fun a=>by apply Qt.ext;show a.s+0=a.s;grind) (fun a b=>by apply Qt.ext;show a.s+b.s=b.s+a.s;grind) (fun a b c=>by apply Qt.ext;show a.s+b.s+c.s=a.s+(b.s+c.s);grind)
 (fun a b c=>by
  apply Qt.ext
  show rest M (rest M (a.s*b.s)*c.s)=rest M (a.s*rest M (b.s*c.s))
  refine rest_eq (rest_dg _ _) ?_
  have h1:Cg M.f (rest M (a.s*b.s)*c.s) (a.s*b.s*c.s):=Cg.mul (a.isP.mul b.isP) c.isP (rest_cg (a.isP.mul b.isP)).symm (Cg.refl _ _);have h2:Cg M.f (a.s*(b.s*c.s)) (a.s*rest M (b.s*c.s)):=Cg.mul a.isP (b.isP.mul c.isP) (Cg.refl _ _) (rest_cg (b.isP.mul c.isP));have e:a.s*b.s*c.s=a.s*(b.s*c.s):=by grind
  rw[e] at h1;exact h1.trans (h2.trans (rest_cg (a.isP.mul ⟨_,rest_dg _ _⟩))))
 (fun a=>by
  apply Qt.ext
  show rest M (a.s*1)=a.s
  refine rest_eq a.lt ?_
  have e:a.s*1=a.s:=by grind
  rw[e];exact Cg.refl _ _)
 (fun a b c=>by
  apply Qt.ext
  show rest M (a.s*(b.s+c.s))=rest M (a.s*b.s)+rest M (a.s*c.s)
  refine rest_eq ((rest_dg _ _).add (rest_dg _ _)) ?_
  have e:a.s*(b.s+c.s)=a.s*b.s+a.s*c.s:=by grind
  rw[e];exact Cg.add (rest_cg (a.isP.mul b.isP)) (rest_cg (a.isP.mul c.isP)))
 (fun a b=>by
  apply Qt.ext
  show rest M (a.s*b.s)=rest M (b.s*a.s)
  have e:a.s*b.s=b.s*a.s:=by grind
  rw[e])
 (fun a=>by apply Qt.ext;show -a.s+a.s=0;grind)
theorem s_add {M:Md α}(a b:Qt M):(a+b).s=a.s+b.s:=rfl
theorem s_neg {M:Md α}(a:Qt M):(-a).s=-a.s:=rfl
theorem s_mul {M:Md α}(a b:Qt M):(a*b).s=rest M (a.s*b.s):=rfl
end
end Alg
namespace Alg
open Lean.Grind
section
variable {α:Type} [CommRing α]
theorem cst_add (x y:α):cst (x+y)=cst x+cst y:=by
 apply Ser.ext;funext i
 show (if i=0 then x+y else 0)=(if i=0 then x else 0)+(if i=0 then y else 0)
 split <;> grind
theorem cst_zero:cst (0:α)=0:=by
 apply Ser.ext;funext i
 show (if i=0 then (0:α) else 0)=0
 split <;> rfl
def X:Ser α:=mon 1 1
theorem IsP.X:IsP (X:Ser α):=⟨2,Dg.mon 1 1⟩
end
section
variable {α:Type} [CommRing α]
def Fld (α:Type)[CommRing α]:Prop:=(1:α)≠0/\∀ x:α,x≠0->∃ y,x*y=1
def go (a:Nat):List Nat->List Nat
 | []=>[a]
 | c::l=>(a+c)::go c l
def row:Nat->List Nat
 | 0=>[1]
 | n+1=>go 0 (row n)
def nt (α:Type)[CommRing α]:Nat->α
 | 0=>0
 | n+1=>nt α n+1
theorem nt_add (a:Nat):∀ b:Nat,nt α (a+b)=nt α a+nt α b
 | 0=>by show nt α a=nt α a+0;grind
 | b+1=>by
  have e:=nt_add a b;show nt α (a+b)+1=nt α a+(nt α b+1)
  rw[e];grind
theorem nt_mul (a:Nat):∀ b:Nat,nt α (a*b)=nt α a*nt α b
 | 0=>by show (0:α)=nt α a*0;grind
 | b+1=>by
  rw[Wp,nt_add,nt_mul a b];show _=nt α a*(nt α b+1)
  grind
theorem nt_zero:nt α 0=0:=rfl
theorem nt_one:nt α 1=1:=by show (0:α)+1=1;grind
def hs (x y:α):List Nat->α
 | []=>0
 | c::l=>nt α c*y ^ l.length+x*hs x y l
theorem go_len:∀ (a:Nat) (l:List Nat),(go a l).length=l.length+1
 | _,[]=>rfl
 | _,c::l=>Wz (·+1) (go_len c l)
theorem hs_go (x y:α):∀ (a:Nat) (l:List Nat),hs x y (go a l)=nt α a*y ^ l.length+(x+y)*hs x y l
 | a,[]=>by
  show nt α a*y ^ 0+x*0=nt α a*y ^ 0+(x+y)*0
  grind
 | a,c::l=>by
  have e:=hs_go x y c l;show nt α (a+c)*y ^ (go c l).length+x*hs x y (go c l)=nt α a*y ^ (l.length+1)+(x+y)*(nt α c*y ^ l.length+x*hs x y l)
  rw[go_len,e,nt_add,pw_succ];grind
theorem pow_hs (x y:α):∀ n:Nat,(x+y) ^ n=hs x y (row n)
 | 0=>by
  show _=nt α 1*y ^ 0+x*0
  rw[pw_zero,pw_zero,nt_one];grind
 | n+1=>by
  show _=hs x y (go 0 (row n))
  rw[hs_go,pw_succ,pow_hs x y n,nt_zero];grind
def okrow (p:Nat):Bool:=(row p).head? == some 1 && (row p).getLast? == some 1 && ((row p).drop 1).dropLast.all (fun c=>c % p == 0) && (row p).length == p+1 && decide (2<=p)
def PR:List Nat:=[2,3,5,7,11,13,17,19,23,29,31,37,41,43,47]
theorem okrows:∀ p∈PR,okrow p=true:=by decide +kernel
end
end Alg
namespace Alg
open Lean.Grind
section
variable {α:Type} [CommRing α]
theorem zero_pw {β:Type}[CommRing β]{q:Nat}(h:0<q):(0:β) ^ q=0:=by
 obtain⟨k,rfl⟩:∃ k,q=k+1:=⟨q - 1,by omega⟩
 rw[pw_succ];grind
end
end Alg
namespace Alg
open Lean.Grind
inductive El where
 | num (n:Int)
 | vec (l:List El)
inductive FlE:Nat->El->Prop where
 | num {n:Nat} (i:Int):FlE n (.num i)
 | vec {n:Nat} {l:List El}:l.length<=100->(∀ e∈l,FlE n e)->FlE (n+1) (.vec l)
structure Twr:Type 1 where
 α:Type
 ring:CommRing α
 p:Nat
 d:Nat
 pr:p∈PR
 fld:Fld α
 ch:nt α p=0
 fr:∀ x:α,x ^ (p ^ d)=x
 enc:α->El
 inj:∀ x y,enc x=enc y->x=y
 ht:Nat
 fl:∀ x,FlE ht (enc x)
instance Twr.rg (T:Twr):Lean.Grind.CommRing T.α:=T.ring
theorem pr_pos {p:Nat}(h:p∈PR):2<=p/\p<50:=by
 revert p;decide
def fpow (p:Nat)(x:Nat):Nat->Nat
 | 0=>1 % p
 | n+1=>fpow p x n*x % p
theorem fp_inv:∀ p∈PR,∀ x,x<p->x≠0->∃ y,y<p/\x*y % p=1 % p:=by
 have h:(PR.all fun p=>(Yj p).all fun x=>x == 0 || (Yj p).any fun y=>x*y % p == 1 % p)=true:=by decide +kernel
 intro p hp x hx x0;rw[Z3] at h;have h2:=h p hp;rw[Z3] at h2;have h3:=h2 x (List.mem_range.mpr hx);rw[Bool.or_eq_true] at h3;rcases h3 with z | z
 ·exact W1 (by simpa using z) x0
 ·rw[List.any_eq_true] at z
  obtain⟨y,h4,h5⟩:=z;exact⟨y,List.mem_range.mp h4,by simpa using h5⟩
theorem fp_pow:∀ p∈PR,∀ x,x<p->fpow p x p=x:=by
 have h:(PR.all fun p=>(Yj p).all fun x=>fpow p x p == x)=true:=by decide +kernel
 intro p hp x hx;rw[Z3] at h;have h2:=h p hp;rw[Z3] at h2;simpa using h2 x (List.mem_range.mpr hx)
@[ext] structure Zp (p:Nat) where
 v:Nat
 lt:v<p
def zmk {p:Nat}(h:0<p)(n:Nat):Zp p:=⟨n % p,Nat.mod_lt _ h⟩
@[reducible] def zring {p:Nat} (h:2<=p):CommRing (Zp p):=mkR ⟨0,by omega⟩ ⟨1,by omega⟩ (fun a b=>zmk (by omega) (a.v+b.v)) (fun a b=>zmk (by omega) (a.v*b.v)) (fun a=>zmk (by omega) (p - a.v))
 (fun a=>by apply Zp.ext;show (a.v+0) % p=a.v;rw[Nat.add_zero];exact Zn a.lt)
 (fun a b=>by apply Zp.ext;show (a.v+b.v) % p=(b.v+a.v) % p;rw[Nat.add_comm])
 (fun a b c=>by apply Zp.ext;show ((a.v+b.v) % p+c.v) % p=(a.v+(b.v+c.v) % p) % p;rw[Nat.mod_add_mod,Nat.add_mod_mod,Nat.add_assoc])
 (fun a b c=>by apply Zp.ext;show ((a.v*b.v) % p*c.v) % p=(a.v*((b.v*c.v) % p)) % p;rw[Nat.mod_mul_mod,Nat.mul_mod_mod,Nat.mul_assoc])
 (fun a=>by apply Zp.ext;show (a.v*1) % p=a.v;rw[Nat.mul_one];exact Zn a.lt)
 (fun a b c=>by apply Zp.ext;show (a.v*((b.v+c.v) % p)) % p=((a.v*b.v) % p+(a.v*c.v) % p) % p;rw[Nat.mul_mod_mod,Nat.mul_add,Nat.mod_add_mod,Nat.add_mod_mod])
 (fun a b=>by apply Zp.ext;show (a.v*b.v) % p=(b.v*a.v) % p;rw[Nat.mul_comm])
 (fun a=>by
  apply Zp.ext
  show ((p - a.v) % p+a.v) % p=0
  rw[Nat.mod_add_mod];have:=a.lt
  have e:p - a.v+a.v=p:=by omega
  rw[e,Nat.mod_self])
section
variable {p:Nat} (h:2<=p)
theorem zv_pow (x:Zp p):∀ n:Nat,(letI:=zring h;x ^ n:Zp p).v=fpow p x.v n
 | 0=>by
  show 1=1 % p
  exact (Zn (by omega)).symm
 | n+1=>by
  have e:=zv_pow x n;show ((letI:=zring h;x ^ n:Zp p).v*x.v) % p=fpow p x.v n*x.v % p
  rw[e]
theorem zv_nt:∀ n:Nat,(letI:=zring h;nt (Zp p) n:Zp p).v=n % p
 | 0=>(Nat.zero_mod p).symm
 | n+1=>by
  have e:=zv_nt n;show ((letI:=zring h;nt (Zp p) n:Zp p).v+1) % p=(n+1) % p
  rw[e,Nat.mod_add_mod]
end
def ground (p:Nat)(hp:p∈PR):Twr where
 α:=Zp p
 ring:=zring (pr_pos hp).1
 p:=p
 d:=1
 pr:=hp
 fld:=by
  letI:=zring (pr_pos hp).1
  have p2:=(pr_pos hp).1;refine⟨fun z=>?_,fun x hx=>?_⟩
  ·have e:(1:Nat)=0:=Wz Zp.v z
   omega
  ·obtain⟨y,h1,h2⟩:=fp_inv p hp x.v x.lt fun z=>hx (Zp.ext z)
   refine⟨⟨y,h1⟩,Zp.ext ?_⟩
   show x.v*y % p=1
   rw[h2];exact Zn (by omega)
 ch:=by
  letI:=zring (pr_pos hp).1
  apply Zp.ext
  rw[zv_nt (pr_pos hp).1,Nat.mod_self];rfl
 fr:=fun x=>by
  letI:=zring (pr_pos hp).1
  apply Zp.ext
  rw[zv_pow (pr_pos hp).1,Nat.pow_one];exact fp_pow p hp x.v x.lt
 enc:=fun x=>.num x.v
 inj:=fun x y e=>by
  apply Zp.ext
  injection e with e
  exact Int.ofNat.inj e
 ht:=0
 fl:=fun x=>.num _
end Alg
namespace L2
open PySem PySem.Spec PyProof.Rows
def Itz (K:FrQ)(a b:Addr):It:=
 ⟨fun i H=>∃ xs ys x y,SqL K H a xs/\SqL K H b ys/\xs[i]?=some x/\ys[i]?=some y,
  fun i H v H'=>∃ r x y,v=.ref r/\H r=none/\(∀ xs,SqL K H a xs->xs[i]?=some x)/\(∀ ys,SqL K H b ys->ys[i]?=some y)/\H'=upd H r (.tup [x,y]),
  fun i H=>∃ xs ys,SqL K H a xs/\SqL K H b ys/\(xs.length<=i\/ys.length<=i)⟩
theorem turn_zip {P:Program}{w:World}{K:FrQ}{elts:List Expr}{k:Nat}{pos:Pos}(a b z TI TO i1 i2:Addr)(D:ZipApart z TI TO i1 i2 a b):
  Turn P w K (.Tuple elts k pos) (Itz K a b) [z,TI,TO,i1,i2] z (fun i h=>IsZip h z TI TO .none/\IsPair h TI (.ref i1) (.ref i2)/\(∃ a b,IsPair h TO a b)/\h.IsListIter i1 a i/\h.IsListIter i2 b i) where
 mem:=by simp
 obj:=fun i h x c hc=>by
  obtain⟨hz,hTI,⟨u,v,hTO⟩,⟨o1,h1,_,d1⟩,⟨o2,h2,_,d2⟩⟩:=x;simp only[List.mem_cons,Wl,or_false] at hc
  rcases hc with rfl | rfl | rfl | rfl | rfl
  ·exact⟨_,hz,fun v z=>by have z':Data.fields _=Data.cell v:=z;cases z'⟩
  ·exact⟨_,hTI,fun v z=>by have z':Data.seq _ _=Data.cell v:=z;cases z'⟩
  ·exact⟨_,hTO,fun v z=>by have z':Data.seq _ _=Data.cell v:=z;cases z'⟩
  ·exact⟨o1,h1,fun v z=>by rw[d1] at z;cases z⟩
  ·exact⟨o2,h2,fun v z=>by rw[d2] at z;cases z⟩
 keep:=fun i h h' x kk=>by
  obtain⟨hz,hTI,⟨u,v,hTO⟩,h1,h2⟩:=x;exact⟨kk z (by simp) _ hz,kk TI (by simp) _ hTI,⟨u,v,kk TO (by simp) _ hTO⟩,h1.at fun o ho=>kk i1 (by simp) o ho,h2.at fun o ho=>kk i2 (by simp) o ho⟩
 item:=by
  intro X hP hw hK hc i pins s σ H E I hf x hg;subst hP hw hK;obtain⟨xs,ys,vx,vy,hqx,hqy,hx,hy⟩:=hg;obtain⟨its,rv,p,_⟩:=I.list hqx;obtain⟨jts,rw',p',_⟩:=I.list hqy;obtain⟨ux,hux,rux⟩:=rv.get hx;obtain⟨uy,huy,ruy⟩:=rw'.get hy;obtain⟨hz,hTI,⟨u,v,hTO⟩,h1,h2⟩:=x;have hn0:H s.heap.objs.size=none:=I.fresh;have hzl:z<s.heap.objs.size:=Yi hz;have hTOl:TO<s.heap.objs.size:=Yi hTO;have hTIl:TI<s.heap.objs.size:=Yi hTI;have h1l:i1<s.heap.objs.size:=by obtain⟨_,y,_⟩:=id h1;exact Yi y
  have h2l:i2<s.heap.objs.size:=by obtain⟨_,y,_⟩:=id h2;exact Yi y
  refine wpAny_pyNext_zip_item (x:=ux) (y:=uy) D hz hTI hTO h1 h2 p.isList p'.isList (by simpa using hux) (by simpa using huy) fun h' a1 a2 a3 a4 a5 a6 a7=>?_
  refine⟨_,rfl,wpAny_letOwnedTupleGo_zip a1 fun h3 b1 hs3=>?_⟩
  have hT2:h3.get? s.heap.objs.size=some { cls:=.type "tuple",data:=.seq #[ux,uy] }:=(hs3.2 _ (Nat.ne_of_gt hzl)).trans a5;have I2:Inv X pins σ (upd H s.heap.objs.size (.tup [vx,vy])) { s with heap:=h3 }:=
   I.turnedNew (t':=s.toks) (ch:=[z,TI,TO,i1,i2]) (fun c o hc q=>(hs3.2 c fun e=>hc (by simp[e])).trans (a7 c o (fun e=>hc (by simp[e])) (fun e=>hc (by simp[e])) (fun e=>hc (by simp[e])) (fun e=>hc (by simp[e])) q)) hf (Yd _)
    ⟨by show 2<=sizeLine;rw[sizeLine_eq];omega,[ux,uy],.cons rux (.cons ruy .nil),_,hT2,rfl,0,rfl⟩
  refine⟨.ref s.heap.objs.size,_,I2,rfl,⟨_,vx,vy,rfl,hn0,fun zs hzs=>by rw[I.list_inj hzs hqx];exact hx,fun zs hzs=>by rw[I.list_inj hzs hqy];exact hy,rfl⟩,⟨b1,?_,⟨_,_,(hs3.2 TO D.TOz).trans a2⟩,?_,?_⟩,fun c hc=>?_⟩
  ·exact (hs3.2 TI D.TIz).trans (a7 TI _ D.TIz D.TITO D.TIi1 D.TIi2 hTI)
  ·exact a3.at fun o q=>(hs3.2 i1 D.i1z).trans q
  ·exact a4.at fun o q=>(hs3.2 i2 D.i2z).trans q
  ·have hc0:=(hf c hc).1
   rw[upd_ne ?_]
   ·exact hc0
   ·simp only[List.mem_cons,Wl,or_false] at hc
    rcases hc with rfl | rfl | rfl | rfl | rfl <;> exact Ym ‹_›
 done:=by
  intro X hP hw hK hc i pins s σ H E I hf x hg;subst hP hw hK;obtain⟨xs,ys,hqx,hqy,hle⟩:=hg;obtain⟨its,rv,p,_⟩:=I.list hqx;obtain⟨jts,rw',p',_⟩:=I.list hqy;obtain⟨hz,hTI,⟨u,v,hTO⟩,h1,h2⟩:=x;have l1:=rv.length;have l2:=rw'.length;refine wpAny_pyNext_zip_end (I.ok.hd hc) D hz hTI hTO h1 h2 p.isList p'.isList (by rcases hle with z | z;exact .inl (by simp;omega);exact .inr (by simp;omega)) fun h' hk=>?_
  exact⟨rfl,I.turnedL (t':=s.toks) (ch:=[z,TI,TO,i1,i2]) (fun c o hc q=>hk c o (fun e=>hc (by simp[e])) (fun e=>hc (by simp[e])) (fun e=>hc (by simp[e])) (fun e=>hc (by simp[e])) q) hf⟩
 self:=fun _ _ _ _ _ x h=>wpAny_pyIter_zip x.1 h
section
variable {X:Cx} {elts:List Expr} {k:Nat} {tpos:Pos}
def iZip (K:FrQ)(ta:TA):TI:=fun σ H R=>ta σ H fun vs H1=>∃ a b,vs=[.ref a,.ref b]/\(∃ xs,SqL K H1 a xs)/\(∃ ys,SqL K H1 b ys)/\R (Itz K a b) H1
theorem boot_zip:bootBuiltins "zip"=some (.type "zip"):=by decide +kernel
theorem pi_zip {l m:Expr}{ta:TA}{p pos:Pos}(hg:Gl X "zip")(hm:X.mg "zip"=none)(ha:PA X [l,m] ta)(hs:starEach [l,m] X.env=(false,eval l X.env)::starEach [m] X.env:=by rfl)(ht:((backTo pos (starEach [m] X.env)).any fun x=>x.1)=false:=by rfl):
  PI X (.Tuple elts k tpos) (.Call (.Name "zip" p) [l,m] [] pos) (iZip X.K ta):=by
 intro pins s σ H R I h;refine Call_ (ld_blt I hg hm boot_zip (PyProof.Rows.callWith_type1 (thn (ha pos pins s σ H _ I h) fun us s1 ⟨vs,H1,I1,r1,q1⟩=>?_) hs ht))
 obtain⟨a,b,e,⟨xs,hqx⟩,⟨ys,hqy⟩,q⟩:=q1;subst e;obtain⟨u1,u2,rfl,x1,x2⟩:=vals2 r1;cases (show u1=Value.ref a from x1)
 cases (show u2=Value.ref b from x2)
 obtain⟨its,rv,pl,_⟩:=I1.list hqx;obtain⟨jts,rw',pl',_⟩:=I1.list hqy;have hla:a<s1.heap.objs.size:=by obtain⟨_,y,_⟩:=pl.isList;exact Yi y
 have hlb:b<s1.heap.objs.size:=by obtain⟨_,y,_⟩:=pl'.isList;exact Yi y
 refine call_zip_2 pl.isList pl'.isList fun h' hz hTI hTO h1 h2 hsz hk=>?_
 refine wpAny_pyIter_zip hz ?_
 have I2:Inv X pins σ H1 { s1 with heap:=h' }:=I1.kept (t':=s1.toks) hk
 refine⟨_,[s1.heap.objs.size+4,s1.heap.objs.size+2,s1.heap.objs.size+3,s1.heap.objs.size,s1.heap.objs.size+1],_,_,H1,rfl,I2,turn_zip a b (s1.heap.objs.size+4) (s1.heap.objs.size+2) (s1.heap.objs.size+3) s1.heap.objs.size (s1.heap.objs.size+1) ?_,⟨hz,hTI,⟨_,_,hTO⟩,h1,h2⟩,fun c hc=>?_,q⟩
 ·generalize s1.heap.objs.size=n at*
  constructor <;> (simp only[Addr] at *;omega)
 ·have hge:s1.heap.objs.size<=c:=by
   simp only[List.mem_cons,Wl,or_false] at hc
   rcases hc with rfl | rfl | rfl | rfl | rfl
   ·exact Z8 _ _
   ·exact Z8 _ _
   ·exact Z8 _ _
   ·exact Yd _
   ·exact Z8 _ _
  exact I1.fpOk hge (I1.hok.fresh hge)
theorem piK_zip {K:FrQ}{l m:Expr}{ta:TA}{p pos:Pos}(hK:X.K=K)(hg:Gl X "zip")(hm:X.mg "zip"=none)(ha:PA X [l,m] ta)(hs:starEach [l,m] X.env=(false,eval l X.env)::starEach [m] X.env:=by rfl)(ht:((backTo pos (starEach [m] X.env)).any fun x=>x.1)=false:=by rfl):
  PI X (.Tuple elts k tpos) (.Call (.Name "zip" p) [l,m] [] pos) (iZip K ta):=by subst hK;exact pi_zip hg hm ha hs ht
end
theorem comp_zip {K:FrQ}{a b D:Addr}{xs ys:List V}{st:St}{g:TG}{tif:TT}{te:TE}{H1:Hp}{Q:VK}(Pv:Nat->List V->Hp->Prop)(hle:xs.length=ys.length)(h0:Pv 0 [] (upd H1 D (.lst [])))
  (hl:∀ i zs H2,H2 D=some (.lst zs)->Pv i zs H2->SqL K H2 a xs/\SqL K H2 b ys)
  (hs:∀ i m x y zs H2 r,m=xs.length - i->i<xs.length->xs[i]?=some x->ys[i]?=some y->H2 D=some (.lst zs)->zs.length<=i->Pv i zs H2->H2 r=none->g (.ref r) st (upd H2 r (.tup [x,y])) fun σ3 H3=>tif σ3 H3 fun bb H4=>
   if bb=true then te σ3 H4 fun y H5=>∃ ys,H5 D=some (.lst ys)/\ys.length<sizeLine/\∃ m',m'<m/\CW xs.length D Pv (i+1) m' (upd H5 D (.lst (ys++[y]))) else ∃ m',m'<m/\CW xs.length D Pv (i+1) m' H4)
  (hd:∀ zs H2,H2 D=some (.lst zs)->Pv xs.length zs H2->Q (.ref D) H2):
  compW (Itz K a b) D st g tif te Q H1:=by
 refine⟨CW xs.length D Pv,⟨xs.length,by simp,Y7 _,[],upd_same,Yd _,h0⟩,?_⟩
 rintro i m H2 ⟨hm,hi,zs,hz,hlen,p⟩;obtain⟨q1,q2⟩:=hl i zs H2 hz p;by_cases hlt:i<xs.length
 ·have hlt2:i<ys.length:=by omega
  refine .inr ⟨⟨xs,ys,xs[i],ys[i],q1,q2,by simp[hlt],by simp[hlt2]⟩,fun v H' y=>?_⟩
  obtain⟨r,x,y',e1,hr,hx,hy,e2⟩:=y;subst e1 e2;exact hs i m x y' zs _ r hm hlt (hx xs q1) (hy ys q2) hz hlen p hr
 ·have e:i=xs.length:=by omega
  subst e;exact .inl ⟨⟨xs,ys,q1,q2,.inl (Yd _)⟩,hd zs H2 hz p⟩
end L2
namespace L2
open PySem PySem.Spec PyProof.Rows Alg
inductive Rep (H:Hp)(ok:Addr->Prop):V->El->Prop where
 | num (n:Int):Rep H ok (.int n) (.num n)
 | vec {a:Addr} {vs:List V} {l:List El} (h:H a=some (.lst vs)) (k:ok a) (hl:vs.length=l.length) (r:∀ (i:Nat) x e,vs[i]?=some x->l[i]?=some e->Rep H ok x e):Rep H ok (.ref a) (.vec l)
theorem Rep.imp {H H':Hp}{ok ok':Addr->Prop}(f:∀ b o,H b=some o->ok b->H' b=some o/\ok' b){v:V}{e:El}(R:Rep H ok v e):Rep H' ok' v e:=by
 induction R with
 | num n=>exact .num n
 | vec h k hl _ ih=>exact .vec (f _ _ h k).1 (f _ _ h k).2 hl ih
abbrev Any:Addr->Prop:=fun _=>True
abbrev NewB (H:Hp):Addr->Prop:=fun b=>H b=none
theorem Rep.same {H H':Hp}{ok:Addr->Prop}{v:V}{e:El}(R:Rep H ok v e)(g:Same H H'):Rep H' ok v e:=R.imp fun b o h k=>⟨g b o h,k⟩
theorem Rep.any {H:Hp}{ok:Addr->Prop}{v:V}{e:El}(R:Rep H ok v e):Rep H Any v e:=R.imp fun b o h k=>⟨h,trivial⟩
theorem Rep.older {H H0 H1:Hp}{v:V}{e:El}(R:Rep H (NewB H1) v e)(g:Same H0 H1):Rep H (NewB H0) v e:=R.imp fun b o h k=>⟨h,g.free k⟩
mutual
def toD:El->PyData
 | .num n=>.int n
 | .vec l=>.list (toDs l)
def toDs:List El->List PyData
 | []=>[]
 | e::l=>toD e::toDs l
end
theorem toDs_map:∀ l:List El,toDs l=l.map toD
 | []=>rfl
 | e::l=>by show toD e::toDs l=_;rw[toDs_map l];rfl
mutual
theorem toD_inj:∀ {a b:El},toD a=toD b->a=b
 | .num n,.num m,h=>by
  have:PyData.int n=PyData.int m:=h
  injection this with e;rw[e]
 | .num n,.vec l,h=>by
  have:PyData.int n=PyData.list (toDs l):=h
  cases this
 | .vec l,.num n,h=>by
  have:PyData.list (toDs l)=PyData.int n:=h
  cases this
 | .vec l,.vec k,h=>by
  have:PyData.list (toDs l)=PyData.list (toDs k):=h
  injection this with e;rw[toDs_inj e]
theorem toDs_inj:∀ {a b:List El},toDs a=toDs b->a=b
 | [],[],_=>rfl
 | [],e::l,h=>by
  have:([]:List PyData)=toD e::toDs l:=h
  cases this
 | e::l,[],h=>by
  have:toD e::toDs l=[]:=h
  cases this
 | e::l,f::k,h=>by
  have:toD e::toDs l=toD f::toDs k:=h
  injection this with h1 h2
  rw[toD_inj h1,toDs_inj h2]
end
theorem fl_toD {n:Nat}{e:El}(h:FlE n e):Fl n (toD e):=by
 induction h with
 | num i=>exact .int i
 | @vec n l _ _ ih=>
  show Fl (n+1) (.list (toDs l))
  rw[toDs_map];exact .lst fun d hd=>by
   obtain⟨e,he,rfl⟩:=List.mem_map.mp hd;exact ih e he
theorem Rep.den {K:FrQ}{H:Hp}{ok:Addr->Prop}{v:V}{e:El}(R:Rep H ok v e):Den K H v (toD e):=by
 induction R with
 | num n=>exact .int n
 | @vec a vs l h k hl r ih=>
  show Den K H (.ref a) (.list (toDs l))
  rw[toDs_map];refine .lst (SqL.of h) (by rw[Ya];exact hl) fun i x d h1 h2=>?_
  rw[Ye] at h2;cases e:l[i]? with
  | none=>rw[e] at h2;cases h2
  | some y=>
   rw[e] at h2;cases h2;exact ih i x y h1 e
theorem eqRep {K:FrQ}{H:Hp}{o1 o2:Addr->Prop}{u v:V}{a b:El}{n m:Nat}{Q:VK}(R:Rep H o1 u a)(S:Rep H o2 v b)(f:FlE n a)(g:FlE m b)(hn:n<=64)(hm:m<=64)
  (q1:a=b->Q (.bl true) H) (q2:a≠b->Q (.bl false) H):rEqD K false u v H Q:=by
 refine⟨toD a,toD b,R.den,S.den,(fl_toD f).shaped hn,(fl_toD g).shaped hm,?_⟩
 show Q (.bl (PyData.eqv (toD a) (toD b))) H
 rw[eqv_dec (fl_toD f) (fl_toD g)];by_cases h:a=b
 ·rw[Ww (Wz toD h)];exact q1 h
 ·rw[Wy fun z=>h (toD_inj z)];exact q2 h
theorem neRep {K:FrQ}{H:Hp}{o1 o2:Addr->Prop}{u v:V}{a b:El}{n m:Nat}{Q:VK}(R:Rep H o1 u a)(S:Rep H o2 v b)(f:FlE n a)(g:FlE m b)(hn:n<=64)(hm:m<=64)
  (q1:a=b->Q (.bl false) H) (q2:a≠b->Q (.bl true) H):rEqD K true u v H Q:=by
 refine⟨toD a,toD b,R.den,S.den,(fl_toD f).shaped hn,(fl_toD g).shaped hm,?_⟩
 show Q (.bl (!PyData.eqv (toD a) (toD b))) H
 rw[eqv_dec (fl_toD f) (fl_toD g)];by_cases h:a=b
 ·rw[Ww (Wz toD h)];exact q1 h
 ·rw[Wy fun z=>h (toD_inj z)];exact q2 h
end L2
namespace L2
open PySem
section
variable {K:FrQ} {mg:Str->Option Value} {x qual:Str} {st:Stmt} {ps:List Str} {C:Addr}
def FnIn (K:FrQ)(x qual:Str)(st:Stmt)(f:Addr):Prop:=∃ (oc:Value) (od an:Option Addr) (osl:Array (Option Value)) (kV doc pm cdv ct:Value),K.lookup f=some ⟨oc,od,.func (PySem.W.fnOf x qual (defArgs st) (defBody st) (defScope st) .none kV doc pm an cdv ct),osl⟩/\PySem.W.codeIn K cdv qual=true/\PySem.W.keepIn K (.ref f)=true
def GlIn (K:FrQ)(x:Str)(st:Stmt):Prop:=∃ f,PySem.W.nsIn K mainGlobals x=some (some (.ref f))/\FnIn K x x st f
def BdAs (x qual:Str)(st:Stmt)(ps:List Str):Prop:=∀ (kV doc pm:Value) (an:Option Addr) (cdv ct:Value) (us:List Value),us.length=ps.length->bindArgs (PySem.W.fnOf x qual (defArgs st) (defBody st) (defScope st) .none kV doc pm an cdv ct) ⟨us,[]⟩=pure (ps.zip us)
theorem gl_mk {f:Addr}{oc:Value}{od an:Option Addr}{osl:Array (Option Value)}{kV doc pm cdv ct:Value}(a:PySem.W.nsIn K mainGlobals x=some (some (.ref f)))(l:K.lookup f=some ⟨oc,od,.func (PySem.W.fnOf x x (defArgs st) (defBody st) (defScope st) .none kV doc pm an cdv ct),osl⟩)(c:PySem.W.codeIn K cdv x=true)(k:PySem.W.keepIn K (.ref f)=true):GlIn K x st:=
 ⟨f,a,oc,od,an,osl,kV,doc,pm,cdv,ct,l,c,k⟩
theorem src_in {h:Heap}(X:K.In h)(G:h.Ns mainGlobals mg)(g:GlIn K x st)(hb:BdAs x x st ps):Src K mg x st ps:=by
 obtain⟨f,a,oc,od,an,osl,kV,doc,pm,cdv,ct,l,c,k⟩:=g;exact src_mk X G a l c k hb
theorem us_cons {us:List Value}{n:Nat}(h:us.length=n+1):∃ x t,us=x::t/\t.length=n:=by
 cases us with
 | nil=>simp at h
 | cons x t=>exact⟨x,t,rfl,by simpa using h⟩
theorem bd1 {a0:Str}(h:∀ (kV doc pm:Value) (an:Option Addr) (cdv ct:Value) (u0:Value),bindArgs (PySem.W.fnOf x qual (defArgs st) (defBody st) (defScope st) .none kV doc pm an cdv ct) ⟨[u0],[]⟩=pure ([(a0,u0)])):BdAs x qual st [a0]:=by
 intro a b c d e f us hl;obtain⟨u0,t0,rfl,h0⟩:=us_cons hl;obtain rfl:=Z0 h0
 exact h a b c d e f u0
theorem bd2 {a0 a1:Str}(h:∀ (kV doc pm:Value) (an:Option Addr) (cdv ct:Value) (u0 u1:Value),bindArgs (PySem.W.fnOf x qual (defArgs st) (defBody st) (defScope st) .none kV doc pm an cdv ct) ⟨[u0,u1],[]⟩=pure ([(a0,u0),(a1,u1)])):BdAs x qual st [a0,a1]:=by
 intro a b c d e f us hl;obtain⟨u0,t0,rfl,h0⟩:=us_cons hl;obtain⟨u1,t1,rfl,h1⟩:=us_cons h0;obtain rfl:=Z0 h1
 exact h a b c d e f u0 u1
theorem bd3 {a0 a1 a2:Str}(h:∀ (kV doc pm:Value) (an:Option Addr) (cdv ct:Value) (u0 u1 u2:Value),bindArgs (PySem.W.fnOf x qual (defArgs st) (defBody st) (defScope st) .none kV doc pm an cdv ct) ⟨[u0,u1,u2],[]⟩=pure ([(a0,u0),(a1,u1),(a2,u2)])):BdAs x qual st [a0,a1,a2]:=by
 intro a b c d e f us hl;obtain⟨u0,t0,rfl,h0⟩:=us_cons hl;obtain⟨u1,t1,rfl,h1⟩:=us_cons h0;obtain⟨u2,t2,rfl,h2⟩:=us_cons h1;obtain rfl:=Z0 h2
 exact h a b c d e f u0 u1 u2
theorem bd4 {a0 a1 a2 a3:Str}(h:∀ (kV doc pm:Value) (an:Option Addr) (cdv ct:Value) (u0 u1 u2 u3:Value),bindArgs (PySem.W.fnOf x qual (defArgs st) (defBody st) (defScope st) .none kV doc pm an cdv ct) ⟨[u0,u1,u2,u3],[]⟩=pure ([(a0,u0),(a1,u1),(a2,u2),(a3,u3)])):BdAs x qual st [a0,a1,a2,a3]:=by
 intro a b c d e f us hl;obtain⟨u0,t0,rfl,h0⟩:=us_cons hl;obtain⟨u1,t1,rfl,h1⟩:=us_cons h0;obtain⟨u2,t2,rfl,h2⟩:=us_cons h1;obtain⟨u3,t3,rfl,h3⟩:=us_cons h2;obtain rfl:=Z0 h3
 exact h a b c d e f u0 u1 u2 u3
end
end L2
namespace L2
open PySem PySem.Spec PyProof.Rows
end L2
namespace L2
open PySem PySem.Spec PyProof.Rows
end L2
namespace L2
open PySem PySem.Spec PySem.W PyProof.Rows
def LamP (f c':Addr)(qual:Str)(params:Arguments)(body:Expr)(scope:Scope)(cl:List (Str×Addr)):Heap->Prop:=fun h=>∃ pm ctv,h.get? f=some (kla_obj "<lambda>" qual params body scope cl pm c' ctv)
def CodP (c':Addr)(qual:Str):Heap->Prop:=fun h=>∃ oc vs t,h.get? c'=some oc/\oc.data=.fields vs/\vs[1]?=some (.str qual t)
def lamH (H:Hp)(P f c':Addr)(ps:Array Value)(pos:Pos)(qual:Str)(params:Arguments)(body:Expr)(scope:Scope)(cl:List (Str×Addr)):Hp:=
 upd (upd (upd H P (.tbl (ps++#[rawInt pos.line,rawInt pos.col,.ref c']))) c' (.ext (CodP c' qual))) f (.ext (LamP f c' qual params body scope cl))
def tLam (P:Addr)(pos:Pos)(qual:Str)(params:Arguments)(body:Expr)(scope:Scope)(cl:List (Str×Addr)):TE:=fun _ H Q=>∃ ps:Array Value,H P=some (.tbl ps)/\TriplesOk ps.toList/\codeAmong pos ps.toList=none/\
 ∀ f c',H f=none->H c'=none->f≠c'->Q (.ref f) (lamH H P f c' ps pos qual params body scope cl)
def BMain (mg:Str->Option Value)(base:Heap):Prop:=∃ (bm:Addr) (ob:Obj),mg "__builtins__"=some (.ref bm)/\bm≠builtinsNs/\base.get? bm=some ob/\ob.cls=.type "module"/\ob.dict=some builtinsNs/\ob.data=.plain
section
variable {X:Cx}
theorem pe_lam {c P:Addr}{params:Arguments}{body:Expr}{scope:Scope}{pos:Pos}(hb:BMain X.mg X.base)(hc:X.env.code=.ref c)(hk:codeHdIn X.K c P=true)(hcl:∀ y∈scope.names,y.2=.free->∃ c,X.env.cells.lookup y.1=some c)(hdef:defaultsOf params X.env=([],[]):=by rfl):
  PE X (.Lambda params body scope pos) (tLam P pos (X.env.qual++"<lambda>") params body scope (closOf X.env.cells scope.names [])):=by
 refine⟨?_⟩
 intro pins s σ H Q I h;obtain⟨ps,hP,ht,hn,q⟩:=h;have eP:s.heap.get? P=some (tabObj ps):=I.hok P _ hP;have hgs:=I.mod.glob.keeps I.bk;have hgP:mainGlobals≠P:=fun z=>by
  obtain⟨o,es,ep,e,hd,_⟩:=hgs;rw[z,eP] at e;cases e;cases hd
 obtain⟨bm,ob,b1,b2,b3,b4,b5,b6⟩:=hb;have b3':=I.bk _ _ b3;have hbP:bm≠P:=fun z=>by rw[z,eP] at b3';cases b3';cases b4
 have hbG:bm≠mainGlobals:=fun z=>by
  obtain⟨o,es,ep,e,hd,_⟩:=hgs;rw[z,e] at b3';cases b3';rw[hd] at b6;cases b6
 refine kla_eval hdef (kla_makeFunction (mg:=X.mg) (closureFor_eq hcl) I.ok.glob hgs hc (codeHd_of_K I.kIn hk) eP ht hn hgP ⟨bm,ob,b1,b2,hbG,hbP,b3',b4,b5,b6⟩ fun c' ctv h' tk hx hge hlt hrec htb=>?_)
 have hP':P<s.heap.objs.size:=Yi eP;have hcP:c'≠P:=fun z=>W1 (Yh hP' hge) (by rw[z];exact Zh _)
 have hfc:h'.objs.size≠c':=Ne.symm (Ym hlt);have hsz:s.heap.objs.size<=h'.objs.size:=Ys hge (Nat.le_of_lt hlt);have hfP:h'.objs.size≠P:=Ne.symm (Ym (Yh hP' hsz));have nf:H h'.objs.size=none:=I.hok.fresh hsz;have nc:H c'=none:=I.hok.fresh hge;refine⟨.ref h'.objs.size,_,?_,rfl,q h'.objs.size c' nf nc hfc⟩
 generalize hO:kla_obj "<lambda>" (X.env.qual++"<lambda>") params body scope (closOf X.env.cells scope.names []) ((X.mg "__name__").getD .none) c' ctv=O;have kp:∀ b o,b≠P->s.heap.get? b=some o->(h'.push O).get? b=some o:=fun b o hb e=>Yf _ (hx b o hb e)
 have ne:∀ b o,H b=some o->b≠P->lamH H P h'.objs.size c' ps pos (X.env.qual++"<lambda>") params body scope (closOf X.env.cells scope.names []) b=some o:=fun b o e hb=>by
  unfold lamH;rw[upd_ne (ne_of_none e nf),upd_ne (ne_of_none e nc),upd_ne hb];exact e
 have atP:lamH H P h'.objs.size c' ps pos (X.env.qual++"<lambda>") params body scope (closOf X.env.cells scope.names []) P=some (.tbl (ps++#[rawInt pos.line,rawInt pos.col,.ref c'])):=by
  unfold lamH;rw[upd_ne (Ne.symm hfP),upd_ne (Ne.symm hcP),upd_same]
 refine I.un ⟨fun b o e n hb _=>?_,fun b o e n hb _=>?_,fun b o e n _=>?_,fun b o e _=>?_,fun b xs e=>?_,fun b o u e=>?_,fun b qs e=>?_⟩ fun b o e=>?_
 ·exact kp b o (fun z=>by rw[z,hP] at n;cases n) e
 ·exact⟨o.slots,kp b o (fun z=>by rw[z,hP] at n;cases n) e⟩
 ·have hlb:=Yi e
  unfold lamH;rw[upd_ne (Ym (Yh hlb hsz)),upd_ne (Ym (Yh hlb hge)),upd_ne (fun z=>by rw[z,hP] at n;cases n)]
  exact n
 ·by_cases z:b=P
  ·rw[z];exact⟨_,Yf _ htb⟩
  ·exact⟨o,kp b o z e⟩
 ·exact ne b _ e fun z=>by rw[z,hP] at e;cases e
 ·exact ne b _ e fun z=>by rw[z,hP] at e;cases e
 ·by_cases z:b=P
  ·rw[z,hP] at e;cases e
   exact⟨_,by rw[z];exact atP⟩
  ·exact⟨#[],by rw[ne b _ e z];simp⟩
 ·by_cases zf:b=h'.objs.size
  ·subst zf
   have e':some (HO.ext (LamP h'.objs.size c' (X.env.qual++"<lambda>") params body scope (closOf X.env.cells scope.names [])))=some o:=by rw[<- e];exact upd_same.symm
   cases e';have g:(h'.push O).get? h'.objs.size=some O:=Yt _ (by rw[<- hO];rfl)
   refine⟨⟨_,_,by rw[hO];exact g⟩,⟨_,g⟩,fun h1 h2 z k=>?_⟩
   obtain⟨pm,cv,z⟩:=z;exact⟨pm,cv,k _ z⟩
  ·by_cases zc:b=c'
   ·subst zc
    have e':some (HO.ext (CodP b (X.env.qual++"<lambda>")))=some o:=by
     rw[<- e];unfold lamH;rw[upd_ne zf,upd_same]
    cases e';obtain⟨c2,oc,vs,t,ec,g1,g2,g3⟩:=hrec;cases ec;refine⟨⟨oc,vs,t,Yf _ g1,g2,g3⟩,⟨_,Yf _ g1⟩,fun h1 h2 z k=>?_⟩
    obtain⟨o1,v1,t1,z1,z2,z3⟩:=z;exact⟨o1,v1,t1,k _ z1,z2,z3⟩
   ·by_cases zP:b=P
    ·subst zP
     rw[atP] at e;cases e;exact Yf _ htb
    ·have e':H b=some o:=by
      rw[<- e];unfold lamH;rw[upd_ne zf,upd_ne zc,upd_ne zP]
     refine (I.hok b o e').stay (fun d u hd hu=>kp d u (fun z=>?_) hu) (fun d hd=>ne d _ hd fun z=>by rw[z,hP] at hd;cases hd) fun d xs hd=>ne d _ hd fun z=>by rw[z,hP] at hd;cases hd
     rcases hd with y | y
     ·exact zP (y.symm.trans z)
     ·rw[z,hP] at y;cases y
end
structure CellsAt (h:Heap)(H:Hp)(outer:List Env)(cl:List (Str×Addr))(N:List Str)(vals:List V):Prop where
 inj:∀ x y c,cl.lookup x=some c->cl.lookup y=some c->x=y
 cell:∀ x c,cl.lookup x=some c->(∃ v,h.IsCell c v)/\H c=none/\c ∉ frs outer
 val:∀ (i:Nat) x v,N[i]?=some x->vals[i]?=some v->∃ c u,cl.lookup x=some c/\h.IsCell c (some u)/\RelV v u
 len:vals.length=N.length
def lamCx (P:Program)(w:World)(K:FrQ)(mg:Str->Option Value)(base:Heap)(N:List Str)(qual:Str)(scope:Scope)(f c':Addr)(cl:List (Str×Addr))(A:Around)(outer:List Env)(s:Shared)(H:Hp):Cx where
 prog:=P
 w:=w
 K:=K
 mg:=mg
 base:=base
 A:=A.deeper (envX qual scope s.heap.objs.size f (.ref c') cl)
 N:=N
 s₀:=s
 H₀:=H
 env:=envX qual scope s.heap.objs.size f (.ref c') cl
 outer:=outer
 stack:=envX qual scope s.heap.objs.size f (.ref c') cl::outer
 ex:=[]
 fn:=fun _=>false
 calm:=true
 pn:=[]
 xe:=fun _ _=>False
section
variable {X:Cx} {pins:List (Addr×Obj)} {σ:St} {H1:Hp} {s1:Shared}
theorem CellsAt.made {scope:Scope}{N:List Str}{vals:List V}(I:Inv X pins σ H1 s1)(hfn:∀ x,X.fn x=true)(hst:X.stack=X.env::X.outer/\X.env.frame=some X.env.locals)(hfr:∀ x∈N,X.env.kindOf x=some .cell/\(x,NameKind.free)∈scope.names)
  (hv:∀ (j:Nat) x v,N[j]?=some x->vals[j]?=some v->∃ i:Nat,X.N[i]?=some x/\σ[i]?=some (some v)) (hl:vals.length=N.length):CellsAt s1.heap H1 X.stack (closOf X.env.cells scope.names []) N vals:=by
 have back:∀ x c,(closOf X.env.cells scope.names []).lookup x=some c->X.env.cells.lookup x=some c:=fun x c e=>closOf_lookup scope.names [] (fun d z=>by simp at z) e
 refine⟨fun x y c e1 e2=>I.ok.inj x y c (back x c e1) (back y c e2),fun x c e=>?_,fun i x v e1 e2=>?_,hl⟩
 ·obtain⟨v,ic⟩:=I.cell x c (back x c e)
  refine⟨⟨v,ic⟩,I.freeC x c (back x c e),fun hm=>?_⟩
  rcases List.mem_cons.mp (I.stkSub c hm) with z | z
  ·exact I.cne x c (back x c e) z
  ·obtain⟨_,o,ho,_⟩:=I.ok.funs.mem z
   have:=Yh (Yi ho) (I.ok.cab x c (hfn x) (back x c e))
   exact W1 this (Zh _)
 ·obtain⟨hk,hm⟩:=hfr x (Yv e1)
  obtain⟨j,hj,hs⟩:=hv i x v e1 e2;obtain⟨m,_,hloc⟩:=I.loc;obtain⟨u,r,lk⟩:=hloc j x v hj hs (.inr (.inl hk));rcases lk with ⟨z,_⟩ | ⟨_,c,hc,ic⟩
  ·rw[hk] at z;cases z
  ·exact⟨c,u,closOf_has hc scope.names [] (.inr hm) (fun d z=>by simp at z),ic,r⟩
end
end L2
namespace L2
open PySem PySem.Spec PySem.W PyProof.Rows
end L2
namespace L2
open PySem Alg
open Classical
end L2
namespace L2
open PySem PySem.Spec PyProof.Rows Alg
section
variable {P:Program} {w:World} {K:FrQ} {mg:Str->Option Value} {base:Heap} {CG CS:Addr}
theorem fmod_p (i:Int)(p:Nat):i.fmod (p:Int)=i % (p:Int):=Y3 i (Int.natCast_nonneg p)
end
end L2
namespace L2
open PySem PySem.Spec PyProof.Rows Alg
def vecN (n:Nat)(e:Nat->El):El:=.vec ((Yj n).map e)
theorem vec_of (l:List El):El.vec l=vecN l.length fun i=>l.getD i (.num 0):=by
 unfold vecN;congr 1
 apply Zi
 intro i;by_cases h:i<l.length
 ·rw[Ye,Yu h,Yc h]
  show some _=some (l.getD i (.num 0))
  rw[Yb,Yc h];rfl
 ·rw[List.getElem?_eq_none_iff.mpr (by omega),List.getElem?_eq_none_iff.mpr (by rw[Ya,Yg];omega)]
structure Cf (H:Hp)(ok:Addr->Prop)(vs:List V)(n:Nat)(e:Nat->El):Prop where
 len:vs.length=n
 at_:∀ i,i<n->∃ v,vs[i]?=some v/\Rep H ok v (e i)
theorem Cf.rep {H:Hp}{ok:Addr->Prop}{vs:List V}{n:Nat}{e:Nat->El}{a:Addr}(C:Cf H ok vs n e)(h:H a=some (.lst vs))(k:ok a):Rep H ok (.ref a) (vecN n e):=by
 refine .vec h k (by rw[C.len,Ya,Yg]) fun i x d h1 h2=>?_
 have hi:i<n:=by rw[<- C.len];exact (List.getElem?_eq_some_iff.mp h1).1
 obtain⟨v,h3,r⟩:=C.at_ i hi;rw[h1] at h3;cases h3;rw[Ye,Yu hi] at h2;cases h2;exact r
theorem Rep.cf {H:Hp}{ok:Addr->Prop}{v:V}{n:Nat}{e:Nat->El}(R:Rep H ok v (vecN n e)):∃ a vs,v=.ref a/\H a=some (.lst vs)/\ok a/\Cf H ok vs n e:=by
 unfold vecN at R;cases R with
 | @vec a vs l h k hl r=>
  rw[Ya,Yg] at hl;refine⟨a,vs,rfl,h,k,hl,fun i hi=>?_⟩
  refine⟨vs[i]'(by omega),Yc (by omega),r i _ _ (Yc (by omega)) ?_⟩
  rw[Ye,Yu hi];rfl
theorem Cf.imp {H H':Hp}{ok ok':Addr->Prop}{vs:List V}{n:Nat}{e:Nat->El}(C:Cf H ok vs n e)(f:∀ b o,H b=some o->ok b->H' b=some o/\ok' b):Cf H' ok' vs n e:=
 ⟨C.len,fun i hi=>let ⟨v,h,r⟩:=C.at_ i hi;⟨v,h,r.imp f⟩⟩
theorem Cf.same {H H':Hp}{ok:Addr->Prop}{vs:List V}{n:Nat}{e:Nat->El}(C:Cf H ok vs n e)(g:Same H H'):Cf H' ok vs n e:=C.imp fun b o h k=>⟨g b o h,k⟩
theorem Cf.nil {H:Hp}{ok:Addr->Prop}{e:Nat->El}:Cf H ok [] 0 e:=⟨rfl,fun i hi=>by omega⟩
theorem Cf.push {H:Hp}{ok:Addr->Prop}{vs:List V}{n:Nat}{e:Nat->El}{v:V}(C:Cf H ok vs n e)(R:Rep H ok v (e n)):Cf H ok (vs++[v]) (n+1) e:=by
 refine⟨by rw[Yl,C.len];rfl,fun i hi=>?_⟩
 by_cases h:i<n
 ·obtain⟨x,h1,h2⟩:=C.at_ i h
  exact⟨x,by rw[Y2 (by rw[C.len];exact h)];exact h1,h2⟩
 ·have:i=n:=by omega
  subst this;exact⟨v,by rw[<- C.len,List.getElem?_concat_length],R⟩
theorem Cf.congr {H:Hp}{ok:Addr->Prop}{vs:List V}{n:Nat}{e d:Nat->El}(C:Cf H ok vs n e)(h:∀ i,i<n->e i=d i):Cf H ok vs n d:=⟨C.len,fun i hi=>by rw[<- h i hi];exact C.at_ i hi⟩
theorem Cf.append {H:Hp}{ok:Addr->Prop}{vs ws:List V}{n m:Nat}{e d:Nat->El}(C:Cf H ok vs n e)(D:Cf H ok ws m d):Cf H ok (vs++ws) (n+m) fun i=>if i<n then e i else d (i - n):=by
 refine⟨by rw[Yl,C.len,D.len],fun i hi=>?_⟩
 by_cases h:i<n
 ·obtain⟨x,h1,h2⟩:=C.at_ i h
  exact⟨x,by rw[Y2 (by rw[C.len];exact h)];exact h1,by rw[Wv h];exact h2⟩
 ·obtain⟨x,h1,h2⟩:=D.at_ (i - n) (by omega)
  exact⟨x,by rw[Y0 (by rw[C.len];omega),C.len];exact h1,by rw[Wu h];exact h2⟩
theorem Cf.get {H:Hp}{ok:Addr->Prop}{vs:List V}{n:Nat}{e:Nat->El}(C:Cf H ok vs n e){i:Nat}{v:V}(h:vs[i]?=some v):i<n/\Rep H ok v (e i):=by
 have hi:i<n:=by rw[<- C.len];exact (List.getElem?_eq_some_iff.mp h).1
 obtain⟨x,h1,h2⟩:=C.at_ i hi;rw[h] at h1;cases h1;exact⟨hi,h2⟩
abbrev Off (H:Hp)(D:Addr):Addr->Prop:=fun b=>H b=none/\b≠D
theorem Cf.upd {H H':Hp}{D:Addr}{vs:List V}{n:Nat}{e:Nat->El}{o:HO}(C:Cf H' (Off H D) vs n e):Cf (upd H' D o) (Off H D) vs n e:=C.imp fun b u h k=>⟨by rw[upd_ne k.2];exact h,k⟩
theorem Rep.offN {H H' H1:Hp}{D:Addr}{v:V}{e:El}{o:HO}(R:Rep H' (NewB H1) v e)(g:Same H H1)(hD:H1 D=some o):Rep H' (Off H D) v e:=R.imp fun b u h k=>⟨h,g.free k,fun z=>by rw[z] at k;rw[show H1 D=none from k] at hD;cases hD⟩
theorem Cf.newB {H H':Hp}{D:Addr}{vs:List V}{n:Nat}{e:Nat->El}(C:Cf H' (Off H D) vs n e):Cf H' (NewB H) vs n e:=C.imp fun b u h k=>⟨h,k.1⟩
theorem cutV_vs (xs:List V)(k:Nat)(h:k<=xs.length):cutV xs none (some (k:Int))=xs.take k:=by
 unfold cutV;have e1:HT.sIx xs.length 0 none=0:=rfl;have e2:HT.sIx xs.length xs.length (some (k:Int))=k:=by rw[HT.sIx_nat];omega
 rw[e1,e2];simp
theorem Cf.rev {H:Hp}{ok:Addr->Prop}{vs:List V}{n:Nat}{e:Nat->El}(C:Cf H ok vs n e):Cf H ok vs.reverse n fun i=>e (n - 1 - i):=by
 refine⟨by rw[Zj];exact C.len,fun i hi=>?_⟩
 obtain⟨v,h1,h2⟩:=C.at_ (n - 1 - i) (by omega)
 refine⟨v,?_,h2⟩
 rw[List.getElem?_reverse (by rw[C.len];exact hi),C.len]
 exact h1
def spNumPow:Sp:=fun vs H Q _=>∃ (k n:Nat),vs=[.int (k:Int),.int (n:Int)]/\k<50/\n<=100/\Q (.int ((k ^ n:Nat):Int)) H
end L2
namespace L2
open PySem PySem.Spec PyProof.Rows Alg
def del (H:Hp)(b:Addr):Hp:=fun c=>if c=b then none else H c
theorem del_inv {H:Hp}{b c:Addr}{o:HO}(h:del H b c=some o):c≠b/\H c=some o:=by
 unfold del at h;by_cases e:c=b
 ·rw[Wv e] at h;cases h
 ·rw[Wu e] at h;exact⟨e,h⟩
theorem del_of {H:Hp}{b c:Addr}(h:c≠b):del H b c=H c:=Wu h
theorem del_same (H:Hp)(b:Addr):Same (del H b) H:=fun c o h=>(del_inv h).2
theorem cutV_last (xs:List V)(h:xs≠[]):cutV xs none (some (-1))=xs.dropLast:=by
 have hl:0<xs.length:=List.length_pos_iff.mpr h;unfold cutV;have e1:HT.sIx xs.length 0 none=0:=rfl;have e2:HT.sIx xs.length xs.length (some (-1))=xs.length - 1:=by
  simp only[HT.sIx]
  rw[Wv (by decide)]
  omega
 rw[e1,e2,List.dropLast_eq_take];simp
def NewO (H:Hp)(b:Addr)(H':Hp):Prop:=∀ a o,a≠b->H a=some o->H' a=some o
theorem NewO.del {b:Addr}{H H':Hp}(h:NewO H b H'):Same (L2.del H b) (L2.del H' b):=fun c o e=>by rw[del_of (del_inv e).1];exact h c o (del_inv e).1 (del_inv e).2
theorem NewO.refl (H:Hp)(b:Addr):NewO H b H:=fun _ _ _ h=>h
theorem NewO.trans {b:Addr}{H H' H'':Hp}(h:NewO H b H')(h':NewO H' b H''):NewO H b H'':=fun a o n e=>h' a o n (h a o n e)
theorem NewO.of {b:Addr}{H H':Hp}(h:Same H H'):NewO H b H':=fun a o _ e=>h a o e
theorem NewO.fresh {b:Addr}{H H':Hp}(h:NewO H b H')(hb':∃ o,H' b=some o){a:Addr}(ha:H' a=none):H a=none:=by
 have hne:a≠b:=fun z=>by obtain⟨o,e⟩:=hb';rw[z,e] at ha;cases ha
 cases q:H a with
 | none=>rfl
 | some o=>rw[h a o hne q] at ha;cases ha
theorem NewO.free_upd {b p:Addr}{H H':Hp}(h:NewO H b H')(hp:H p=none)(o:HO):NewO H b (L2.upd H' p o):=fun a u n e=>by
 rw[upd_ne (ne_of_none e hp)];exact h a u n e
theorem cutV_from (xs:List V)(k:Nat)(h:k<=xs.length):cutV xs (some (k:Int)) none=xs.drop k:=by
 unfold cutV;have e1:HT.sIx xs.length xs.length none=xs.length:=rfl;have e2:HT.sIx xs.length 0 (some (k:Int))=k:=by rw[HT.sIx_nat];omega
 rw[e1,e2];rw[Ze (by rw[Yz];omega)]
end L2
namespace L2
open PySem PySem.Spec PySem.W PyProof.Rows Alg
end L2
namespace L2
open PySem PySem.Spec PySem.W PyProof.Rows
end L2
namespace L2
open PySem PySem.Spec PySem.W PyProof.Rows
end L2
namespace L2
open PySem PySem.Spec PySem.W PyProof.Rows Alg
end L2
namespace L2
open PySem PySem.Spec PySem.W PyProof.Rows
end L2
namespace L2
open PySem PySem.Spec PySem.W PyProof.Rows Alg
end L2
namespace L2
open PySem PySem.Spec PySem.W PyProof.Rows
theorem law_callT {P:Program}{w:World}{K:FrQ}{mg mb:Str->Option Value}{CX:CXT}{k:Nat}{fa a:Addr}{fd:FuncData}{x:Str}{sp:Sp}{s₁:Shared}{vs:List Value}{ns:List Int}{tabs:List (Addr×Addr)}
  (KX:K.In s₁.heap) (hns:s₁.heap.Ns mainGlobals mg) (hb:s₁.heap.Ns builtinsNs mb) (hbb:∀ x:Str,x≠"__name__"->mb x=bootBuiltins x) (hlim:s₁.heap.NoLimit) (hbm:BMain mg s₁.heap) (hT:TabsAt tabs s₁.heap) (hK:noTabs K=true) (hg:s₁.gens=#[])
  (ha:s₁.heap.get? a=some { cls:=.type "list",data:=.seq vs.toArray }) (hi:IntsAre vs ns) (hl:ns.length<=sizeLine) (hr:Room k callerA)
  (F:∀ base:Heap,K.In base->base.Ns mainGlobals mg->BMain mg base->FnOk P w K mg base CX k fa fd [x] sp) (hbind:∀ (s:Shared) (u:Value),BindsTo s fd ⟨[u],[]⟩ [(x,u)])
  (hsp:∀ H:Hp,SqL K H a (ns.map V.int)->(∀ q∈tabs,H q.2=some (.tbl #[]))->sp [.ref a] H (fun v _=>v=.bl true) fun _ _ _=>False)
  (hCX:∀ H e s',CX [] H s₁ (fun _ _ _=>False) e s'->False):
  codeAny (model P w) callerA (.call (.ref fa) ⟨[.ref a],[]⟩) (fun r s'=>r=.ok (.ret (.bool true))/\OldK s₁.heap s'.heap/\s'.os=s₁.os/\AllBare s'.gens) s₁:=by
 have rv:=vals_ints hi;have lenV:=hi.length;have notTab:∀ b o,K.lookup b=some o->b ∉ tabs.map (·.2):=fun b o e hm=>by
  obtain⟨q,hq,rfl⟩:=List.mem_map.mp hm;have e1:=(hT q hq).2;rw[KX _ _ e] at e1;cases e1;have h2:=List.all_eq_true.mp hK (_,_) (mem_of_lookupK e);exact W1 (show false=true from h2) Bool.false_ne_true
 have aTab:a ∉ tabs.map (·.2):=fun hm=>by
  obtain⟨q,hq,e⟩:=List.mem_map.mp hm;have e1:=(hT q hq).2;rw[show q.2=a from e,ha] at e1
  cases e1
 have core:∀ H:Hp,(∀ b,H b=none\/(b=a/\∃ o xs,H b=some (.frz o (.lst xs)))\/(b∈tabs.map (·.2)/\H b=some (.tbl #[])))->(∀ q∈tabs,H q.2=some (.tbl #[]))->SqL K H a (ns.map V.int)->HOk P w H s₁.heap->(H a≠none->K.lookup a=none)->
   codeAny (model P w) callerA (.call (.ref fa) ⟨[.ref a],[]⟩) (fun r s'=>r=.ok (.ret (.bool true))/\OldK s₁.heap s'.heap/\s'.os=s₁.os/\AllBare s'.gens) s₁:=by
  intro H hO hTb hS hok hKa;have base_of:∀ {b:Addr} {o:Obj},s₁.heap.get? b=some o->H b=none->(hidT s₁.heap H).get? b=some o:=fun e n=>hidT_get e n
  have noA:∀ {b:Addr} {o:Obj},s₁.heap.get? b=some o->o.cls≠.type "list"->o.cls≠.none->H b=none:=fun {b o} e d1 d2=>by
   rcases hO b with z | ⟨z,_⟩ | ⟨z,_⟩
   ·exact z
   ·rw[z,ha] at e;cases e;exact W1 rfl d1
   ·obtain⟨q,hq,rfl⟩:=List.mem_map.mp z
    rw[(hT q hq).2] at e;cases e;exact W1 rfl d2
  have noD:∀ {b:Addr} {o:Obj} {es:Array DictEntry} {ep:Nat},s₁.heap.get? b=some o->o.data=.dict es ep->H b=none:=fun {b o es ep} e d=>by
   rcases hO b with z | ⟨z,_⟩ | ⟨z,_⟩
   ·exact z
   ·rw[z,ha] at e;cases e;cases d
   ·obtain⟨q,hq,rfl⟩:=List.mem_map.mp z
    rw[(hT q hq).2] at e;cases e;cases d
  have nsK:∀ {b:Addr} {m:Str->Option Value},s₁.heap.Ns b m->(hidT s₁.heap H).Ns b m:=fun {b m} ⟨o,es,ep,e,d,r⟩=>⟨o,es,ep,base_of e (noD e d),d,r⟩
  have hKb:K.In (hidT s₁.heap H):=fun b o e=>base_of (KX b o e) (by
   rcases hO b with z | ⟨z,o',xs,z2⟩ | ⟨z,_⟩
   ·exact z
   ·subst z
    rw[hKa (by rw[z2];simp)] at e;cases e
   ·exact W1 z (notTab b o e))
  have hBM:BMain mg (hidT s₁.heap H):=by
   obtain⟨bm,ob,b1,b2,b3,b4,b5,b6⟩:=hbm;exact⟨bm,ob,b1,b2,base_of b3 (noA b3 (by rw[b4];decide) (by rw[b4];decide)),b4,b5,b6⟩
  have hM:Mod K mg (hidT s₁.heap H):=⟨hKb,nsK hns,⟨mb,nsK hb,hbb⟩,let ⟨mc,h1,h2⟩:=hlim;⟨mc,nsK h1,h2⟩⟩
  have e0:Env0 P w K mg (hidT s₁.heap H) callerA [] s₁ H:=⟨rfl,hM,fun b o e=>of_hidT e,Nat.le_of_eq (hidT_size _ _),trivial,fun b hb=>W1 (show b∈([]:List Addr) from hb) (by simp),hok,.of_eq hg⟩
  refine codeAny_mono ((F _ hKb (nsK hns) hBM).run callerA [] s₁ H ⟨[.ref a],[]⟩ [.ref a] [.ref a] _ _ hr e0 (hbind s₁ (.ref a)) (.cons rfl .nil) (hsp H hS hTb)) fun r s' h=>?_
  cases r with
  | error e=>exact (hCX H e s' h).elim
  | ok fl=>
   cases fl with
   | next=>exact False.elim h
   | brk=>exact False.elim h
   | cont=>exact False.elim h
   | ret u=>
    obtain⟨v,H',os,bare,un,hok',r',q⟩:=h;have q':v=.bl true:=q;subst q';obtain rfl:u=Value.bool true:=r'
    have old:∀ b o,s₁.heap.get? b=some o->s'.heap.get? b=some o\/(isCodeTable s₁.heap b/\o=tabObj #[]/\∃ ps,s'.heap.get? b=some (tabObj ps)):=fun b o e=>by
     rcases hO b with z | ⟨z,ob,xs,z2⟩ | ⟨z,z2⟩
     ·exact .inl (un.keep b o e z (by intro y;exact W1 (show b∈([]:List Addr) from y) (by simp)) (by simp))
     ·have z3:=un.frzs b ob _ z2
      obtain⟨e1,_⟩:=hok b _ z2;obtain⟨e2,_⟩:=hok' b _ z3;rw[e] at e1;cases e1;exact .inl e2
     ·obtain⟨q,hq,rfl⟩:=List.mem_map.mp z
      obtain⟨m,z3⟩:=un.tbls _ _ z2;have e1:=(hT q hq).2;rw[e] at e1;exact .inr ⟨((hT q hq).1.tab (hT q hq).2).isCodeTable,Option.some.inj e1,_,hok' _ _ z3⟩
    refine⟨rfl,⟨fun b o e=>?_,fun b o e=>?_⟩,os,bare⟩
    ·rcases old b o e with z | ⟨ht,rfl,ps,hP⟩
     ·exact .inl z
     ·exact .inr (.inl ⟨ht,rfl,#[],ps,rfl,by rw[Array.empty_append];exact hP⟩)
    ·rcases old b o e with z | ⟨_,_,ps,hP⟩
     ·exact⟨_,z⟩
     ·exact⟨_,hP⟩
 have tok:∀ (H:Hp) (q:Addr×Addr),q∈tabs->ObjOk P w H s₁.heap q.2 (.tbl #[]):=fun H q hq=>(hT q hq).2
 cases hk:K.lookup a with
 | some o=>
  have e:=KX a o hk;rw[ha] at e;cases e;refine core (fun b=>if b∈tabs.map (·.2) then some (.tbl #[]) else none) (fun b=>?_) (fun q hq=>Wv (List.mem_map_of_mem hq)) (.inr ⟨_,vs.toArray,_,hk,rfl,rfl,rfl,by rw[Yn,lenV];exact hl,by simpa using rv⟩) (fun b u z=>?_) (fun z=>W1 (Wu aTab) z)
  ·by_cases hb:b∈tabs.map (·.2)
   ·exact .inr (.inr ⟨hb,Wv hb⟩)
   ·exact .inl (Wu hb)
  ·by_cases hb:b∈tabs.map (·.2)
   ·have z':=(Wv hb).symm.trans z
    cases z';obtain⟨q,hq,rfl⟩:=List.mem_map.mp hb;exact tok _ q hq
   ·have z':=(Wu hb).symm.trans z
    cases z'
 | none=>
  refine core (fun b=>if b∈tabs.map (·.2) then some (.tbl #[]) else if b=a then some (.frz { cls:=.type "list",data:=.seq vs.toArray } (.lst (ns.map V.int))) else none) (fun b=>?_) (fun q hq=>Wv (List.mem_map_of_mem hq)) (.inl (.inr ⟨{ cls:=.type "list",data:=.seq vs.toArray },(Wu aTab).trans (Wv rfl)⟩)) (fun b u z=>?_) fun _=>hk
  ·by_cases hb:b∈tabs.map (·.2)
   ·exact .inr (.inr ⟨hb,Wv hb⟩)
   ·by_cases hb2:b=a
    ·exact .inr (.inl ⟨hb2,_,_,(Wu hb).trans (Wv hb2)⟩)
    ·exact .inl ((Wu hb).trans (Wu hb2))
  ·by_cases hb:b∈tabs.map (·.2)
   ·have z':=(Wv hb).symm.trans z
    cases z';obtain⟨q,hq,rfl⟩:=List.mem_map.mp hb;exact tok _ q hq
   ·by_cases hb2:b=a
    ·have z':=((Wu hb).trans (Wv hb2)).symm.trans z
     cases z';subst hb2;exact⟨ha,by rw[Ya];exact hl,vs,_,rv,ha⟩
    ·have z':=((Wu hb).trans (Wu hb2)).symm.trans z
     cases z'
theorem walk_ofT {l:PySem.W.OpenLaw}{n k:Nat}{q:Program}{loose:List Str}{XP:(Str->Option Value)->Heap->Prop}{YP:World->Heap->Prop}{d:DefRec}{K:Params->FrQ}{CX:World->CXT}{sp:World->Sp}{x:Str}{tabs:List (Addr×Addr)}
  (hn:l.most=some n) (hn2:n<=sizeLine) (hdf:d.params.defaults=[]) (hr:Room k callerA)
  (hY:∀ (w:World) (h:Heap),YP w h->(K w.params).In h/\TabsAt tabs h) (hK:∀ w:World,noTabs (K w.params)=true)
  (F:∀ (w:World) (mg:Str->Option Value) (fa:Addr) (h:Heap),(K w.params).In h->h.Ns mainGlobals mg->mg d.name=some (.ref fa)->
   ∃ fd:FuncData,(∀ (s:Shared) (u:Value),BindsTo s fd ⟨[u],[]⟩ [(x,u)])/\
    ∀ base:Heap,(K w.params).In base->base.Ns mainGlobals mg->BMain mg base->FnOk l.prog w (K w.params) mg base (CX w) k fa fd [x] (sp w))
  (hsp:∀ (w:World) (H:Hp) (a:Addr) (ns:List Int),ns.length<=n->SqL (K w.params) H a (ns.map V.int)->(∀ q∈tabs,H q.2=some (.tbl #[]))->sp w [.ref a] H (fun v _=>v=.bl true) fun _ _ _=>False)
  (hCX:∀ (w:World) (H:Hp) (s:Shared) (e:Value) (s':Shared),CX w [] H s (fun _ _ _=>False) e s'->False):
  PySem.W.WalkO q loose XP YP l.row.toRowW d [] (fun f vs=>PySem.call f vs):=by
 refine Att.attach_call hn hdf fun w s₀ s₁ mg mb fa o pm cd doc a vs ns G Y ho hd hcd hmg hobj hints hlen hg=>?_
 obtain⟨KX,hT⟩:=hY w _ Y;obtain⟨fd,hb,hF⟩:=F w mg fa _ KX G.T.g hmg;have hbm:BMain mg s₁.heap:=by
  obtain⟨bm,ob,b1,b2,b3,b4,b5,b6⟩:=G.T.bmain;exact⟨bm,ob,b1,b2,b3,b4,b5,b6⟩
 exact law_callT KX G.T.g G.T.b G.T.builtins G.T.nolimit hbm hT (hK w) hg hobj hints (Ys hlen hn2) hr hF hb (fun H hS hTb=>hsp w H a ns hlen hS hTb) fun H e s'=>hCX w H s₁ e s'
section
variable {P:Program} {w:World} {K:FrQ} {mg:Str->Option Value} {base:Heap}
theorem Fun.okC {x qual:Str}{st:Stmt}{f c:Addr}{fd:FuncData}{N ps:List Str}{k:Nat}{sp:Sp}(F:Fun K x qual st f fd)(hc:fd.code=.ref c)(S:FnScope N ps (defScope st))(len:∀ vs H Q E,sp vs H Q E->vs.length=ps.length)
  (hbody:∀ (A:Around) (outer:List Env) (s:Shared) (H:Hp) (vs:List V) (Q:VK) (E:XK),Room k (A.deeper (envOfC qual (defScope st) s.heap.objs.size f (.ref c)))->sp vs H Q E->
   ∃ t,PSs (cxOf CX0 P w K mg base N qual (defScope st) f (.ref c) A outer s H E).nox (defBody st) t/\t { nx:=fun _ H'=>Q .non H',rt:=Q } (start N vs) H):FnOk P w K mg base CX0 (k+1) f fd ps sp:=by
 obtain⟨oc,od,kV,doc,pm,an,cdv,ct,osl,rfl,lk,hcd⟩:=F.ex;have e:cdv=.ref c:=hc;subst e;refine fn_of lk hcd S len fun A outer s H vs Q E hr hsp=>?_
 obtain⟨t,h,q⟩:=hbody A outer s H vs Q E hr hsp;exact⟨t,h.nox,q⟩
structure SrcC (K:FrQ)(mg:Str->Option Value)(x:Str)(st:Stmt)(ps:List Str)(c:Addr):Prop where
 ex:∃ f fd,Fun K x x st f fd/\Binds K fd ps []/\mg x=some (.ref f)/\fd.code=.ref c
theorem SrcC.ok {x:Str}{st:Stmt}{N ps:List Str}{k:Nat}{c:Addr}{sp:Sp}(F:SrcC K mg x st ps c)(S:FnScope N ps (defScope st))(len:∀ vs H Q E,sp vs H Q E->vs.length=ps.length)
  (hbody:∀ (f:Addr) (A:Around) (outer:List Env) (s:Shared) (H:Hp) (vs:List V) (Q:VK) (E:XK),Room k (A.deeper (envOfC x (defScope st) s.heap.objs.size f (.ref c)))->sp vs H Q E->
   ∃ t,PSs (cxOf CX0 P w K mg base N x (defScope st) f (.ref c) A outer s H E).nox (defBody st) t/\t { nx:=fun _ H'=>Q .non H',rt:=Q } (start N vs) H):Dfn P w K mg base (k+1) x ps sp:=by
 obtain⟨f,fd,G,B,M,hc⟩:=F.ex;exact⟨f,fd,G.okC hc S len (hbody f),B,G.kp,M⟩
theorem srcC_mk {x:Str}{st:Stmt}{ps:List Str}{f c0:Addr}{oc:Value}{od an:Option Addr}{osl:Array (Option Value)}{kV doc pm cdv ct:Value}{h:Heap}(X:K.In h)(G:h.Ns mainGlobals mg)
  (a:PySem.W.nsIn K mainGlobals x=some (some (.ref f))) (l:K.lookup f=some ⟨oc,od,.func (PySem.W.fnOf x x (defArgs st) (defBody st) (defScope st) .none kV doc pm an cdv ct),osl⟩) (c:PySem.W.codeIn K cdv x=true) (k:PySem.W.keepIn K (.ref f)=true)
  (hb:∀ (kV doc pm:Value) (an:Option Addr) (cdv ct:Value) (us:List Value),us.length=ps.length->bindArgs (PySem.W.fnOf x x (defArgs st) (defBody st) (defScope st) .none kV doc pm an cdv ct) ⟨us,[]⟩=pure (ps.zip us)) (hc:cdv=.ref c0):SrcC K mg x st ps c0:=
 ⟨f,_,fun_mk l c k,(fun_mk l c k).binds hb,PySem.W.mg_of X G a,hc⟩
theorem lam_cells {n:Nat}{sc scope:Scope}(h:∀ y∈scope.names,y.2=.free->sc.names.lookup y.1=some .cell):∀ y∈scope.names,y.2=.free->∃ c,(cellsFrom n sc.names []).lookup y.1=some c:=fun y hy hf=>cell_has (h y hy hf)
theorem lam_has {cells:List (Str×Addr)}{scope:Scope}(h:∀ y∈scope.names,y.2=.free->∃ c,cells.lookup y.1=some c):∀ x,scope.names.lookup x=some .free->∃ c,(closOf cells scope.names []).lookup x=some c:=fun x hx=>by
 have hm:=PySem.mem_of_lookup hx;obtain⟨c,hc⟩:=h _ hm rfl;exact⟨c,closOf_has hc scope.names [] (.inr hm) (fun d z=>by simp at z)⟩
theorem triples_snoc {a b c:Value}{i j:Int}{t u:Tok}(ha:a=.int i t)(hb:b=.int j u):∀ (l:List Value),TriplesOk l->TriplesOk (l++[a,b,c]):=by
 subst ha hb;intro l h;fun_induction TriplesOk l with
 | case1=>exact trivial
 | case2 _ _ _ _ _ rest ih=>exact ih h
 | case3=>exact h.elim
theorem among_snoc {pos:Pos}{a b:Nat}{c:Value}(hne:¬ (a=pos.line/\b=pos.col)):∀ (l:List Value),TriplesOk l->codeAmong pos l=none->codeAmong pos (l++[rawInt a,rawInt b,c])=none:=by
 intro l h hn;fun_induction TriplesOk l with
 | case1=>
  show (if ((a:Int) == pos.line && (b:Int) == pos.col)=true then some c else none)=none
  rw[Wu];intro z;rw[Bool.and_eq_true,beq_iff_eq,beq_iff_eq] at z;exact hne ⟨by omega,by omega⟩
 | case2 i t j u x rest ih=>
  have hn':(if ((i:Int) == pos.line && j == pos.col)=true then some x else codeAmong pos rest)=none:=hn
  show (if ((i:Int) == pos.line && j == pos.col)=true then some x else codeAmong pos (rest++[rawInt a,rawInt b,c]))=none
  by_cases z:((i:Int) == pos.line && j == pos.col)=true
  ·rw[Wv z] at hn';cases hn'
  ·rw[Wu z] at hn' ⊢
   exact ih h hn'
 | case3=>exact h.elim
end
end L2
namespace L2
open PySem PySem.Spec PyProof.Rows Alg
theorem new_of {H H':Hp}{l:Addr}{o:HO}(n:H l=none)(hX:upd H l o=H'):Same H H'/\H' l=some o:=by
 subst hX;exact⟨same_new n _,upd_same⟩
theorem mseqF {a b:TS}{D:Ends}{σ:St}{H:Hp}{I:Type}(f:I->St)(P:I->Hp->Prop)(h1:∀ C:St->Hp->Prop,(∀ i H,P i H->C (f i) H)->a { D with nx:=C } σ H)(h2:∀ i H,P i H->b D (f i) H):tSeq a b D σ H:=h1 (b D) h2
theorem gsetF {C:St->Hp->Prop}{I:Type}{f:I->St}{P:I->Hp->Prop}{j:Nat}{v:V}{σ:St}{H:Hp}(k:∀ i H,P i H->C (f i) H)(i:I)(p:P i H)(e:σ.set j (some v)=f i):gName j v σ H C:=by
 show C (σ.set j (some v)) H
 rw[e];exact k i H p
end L2
namespace L2
open PySem PySem.Spec PySem.W PyProof.Rows Alg
theorem among_keep {pos:Pos}{x:Value}{m:List Value}:∀ (l:List Value),TriplesOk l->codeAmong pos l=some x->codeAmong pos (l++m)=some x:=by
 intro l h hx;fun_induction TriplesOk l with
 | case1=>cases hx
 | case2 i t j u y rest ih=>
  have hx':(if ((i:Int) == pos.line && j == pos.col)=true then some y else codeAmong pos rest)=some x:=hx
  show (if ((i:Int) == pos.line && j == pos.col)=true then some y else codeAmong pos (rest++m))=some x
  by_cases z:((i:Int) == pos.line && j == pos.col)=true
  ·rw[Wv z] at hx' ⊢;exact hx'
  ·rw[Wu z] at hx' ⊢;exact ih h hx'
 | case3=>exact h.elim
theorem among_hit {pos:Pos}{c:Value}:∀ (l:List Value),TriplesOk l->codeAmong pos l=none->codeAmong pos (l++[rawInt pos.line,rawInt pos.col,c])=some c:=by
 intro l h hn;fun_induction TriplesOk l with
 | case1=>
  show (if ((pos.line:Int) == pos.line && (pos.col:Int) == pos.col)=true then some c else none)=some c
  rw[Wv];rw[Bool.and_eq_true,beq_iff_eq,beq_iff_eq];exact⟨rfl,rfl⟩
 | case2 i t j u x rest ih=>
  have hn':(if ((i:Int) == pos.line && j == pos.col)=true then some x else codeAmong pos rest)=none:=hn
  show (if ((i:Int) == pos.line && j == pos.col)=true then some x else codeAmong pos (rest++[rawInt pos.line,rawInt pos.col,c]))=some c
  by_cases z:((i:Int) == pos.line && j == pos.col)=true
  ·rw[Wv z] at hn';cases hn'
  ·rw[Wu z] at hn' ⊢
   exact ih h hn'
 | case3=>exact h.elim
def TabQ (qual:Str)(Pp:Addr)(H:Hp):Prop:=∃ ps:Array Value,H Pp=some (.tbl ps)/\TriplesOk ps.toList/\∀ pos:Pos,codeAmong pos ps.toList=none\/∃ c,codeAmong pos ps.toList=some (.ref c)/\H c=some (.ext (CodP c qual))
theorem TabQ.nil {qual:Str}{Pp:Addr}{H:Hp}(h:H Pp=some (.tbl #[])):TabQ qual Pp H:=⟨#[],h,trivial,fun _=>.inl rfl⟩
theorem TabQ.same {qual:Str}{Pp:Addr}{H H':Hp}(h:TabQ qual Pp H)(g:Same H H'):TabQ qual Pp H':=by
 obtain⟨ps,h1,h2,h3⟩:=h;exact⟨ps,g _ _ h1,h2,fun pos=>(h3 pos).imp id fun ⟨c,a,b⟩=>⟨c,a,g _ _ b⟩⟩
end L2
namespace L2
open PySem PySem.Spec PySem.W PyProof.Rows Alg
structure LamK where
 qual:Str
 params:Arguments
 body:Expr
 scope:Scope
 x:Str
 N:List Str
 t:TE
def LamK.here (L:LamK)(cl:List (Str×Addr))(f c:Addr)(H:Hp):Prop:=H f=some (.ext (LamP f c L.qual L.params L.body L.scope cl))/\H c=some (.ext (CodP c L.qual))
theorem LamK.here.same {L:LamK}{cl:List (Str×Addr)}{f c:Addr}{H H':Hp}(h:L.here cl f c H)(g:Same H H'):L.here cl f c H':=⟨g _ _ h.1,g _ _ h.2⟩
structure LamK.Ok (L:LamK)(P:Program)(w:World)(K:FrQ)(mg:Str->Option Value)(base:Heap)(k:Nat):Prop where
 kind:L.scope.kind=.function
 co:L.scope.isCoroutine=false
 gen:L.scope.isGenerator=false
 nocell:∀ y∈L.scope.names,y.2≠.cell
 loc:L.scope.names.lookup L.x=some .local
 frees:∀ x∈L.N,L.scope.names.lookup x=some .free
 bind:∀ cl pm cdv ct u,bindArgs (kla_fn "<lambda>" L.qual L.params L.body L.scope cl pm cdv ct) ⟨[u],[]⟩=pure [(L.x,u)]
 pe:∀ (cl:List (Str×Addr)) (f c:Addr) (A:Around) (outer:List Env) (s:Shared) (H:Hp),Room k (A.deeper (envX L.qual L.scope s.heap.objs.size f (.ref c) cl))->PE (lamCx P w K mg base (L.x::L.N) L.qual L.scope f c cl A outer s H) L.body L.t
section
variable {P:Program} {w:World} {K:FrQ} {mg:Str->Option Value} {base:Heap}
theorem lamK_run {L:LamK}{k:Nat}{f c:Addr}{cl:List (Str×Addr)}{vals:List V}(g:L.Ok P w K mg base k){A:Around}{outer:List Env}{s:Shared}{H:Hp}{Q:VK}{v:V}{u:Value}(hr:Room (k+1) A)(e0:Env0 P w K mg base A outer s H)(hh:L.here cl f c H)
  (has:∀ x,L.scope.names.lookup x=some .free->∃ c,cl.lookup x=some c) (hc:CellsAt s.heap H outer cl L.N vals) (rv:RelV v u) (q:L.t (some v::vals.map some) H Q):codeAny (model P w) A (.call (.ref f) ⟨[u],[]⟩) (CR CX0 outer P w H s Q E0) s:=by
 obtain⟨h1,h2⟩:=hh;obtain⟨⟨pm,ctv,hf⟩,_⟩:=e0.hok _ _ h1;obtain⟨⟨oc,vs,t,hc1,hc2,hc3⟩,_⟩:=e0.hok _ _ h2;have lim:s.heap.NoLimit:=e0.mod.nolimit.keeps fun b o e=>(e0.bs b o e).1
 refine kla_callFunE hr.depth hf rfl g.co g.gen rfl ⟨c,oc,vs,t,rfl,hc1,hc2,hc3⟩ ?_
 rw[g.bind];refine wpAny_pure (wpAny_newFunctionEnv g.nocell (fun y hy=>by rw[List.mem_singleton.mp hy];exact g.loc) (fun h₁ hns hsb=>⟨lim.fresh _ hsb,?_⟩) g.kind)
 show codeAny _ _ (.expr L.body (envX L.qual L.scope s.heap.objs.size f (.ref c) cl)) _ _
 have hk₁:∀ b o,s.heap.get? b=some o->h₁.get? b=some o:=fun b o e=>hsb.extBut b o (Ym (Yi e)) (Yf _ e)
 have isC:∀ c v,s.heap.IsCell c v->h₁.IsCell c v:=fun c v ⟨o,e,d⟩=>⟨o,hk₁ c o e,d⟩
 have ok:(lamCx P w K mg base (L.x::L.N) L.qual L.scope f c cl A outer s H).Ok:=
  ⟨e0.mod,g.kind,rfl,rfl,Yd _,hc.inj,fun x hx=>by
   rcases hx with z | z
   ·exact W1 rfl (g.nocell _ (PySem.mem_of_lookup z))
   ·exact has x z,fun x c z=>(nomatch (show false=true from z)),fun _=>hr.hd,Around.frames_deeper e0.frames,.inr ⟨rfl,rfl⟩,fun b z=>W1 (show b∈([]:List Addr) from z) (by simp),e0.bs,e0.bsz,fun b o _ z=>W1 (show b∈([]:List Addr) from z) (by simp),fun b z=>W1 (show b∈([]:List Addr) from z) (by simp),e0.funs,e0.frf⟩
 have I:Inv (lamCx P w K mg base (L.x::L.N) L.qual L.scope f c cl A outer s H) [] (some v::vals.map some) H { s with heap:=h₁,toks:=s.toks+1 }:=by
  refine⟨ok,rfl,e0.bare,Un.kept hk₁,⟨_,hns,fun i x v' e1 e2 e3=>?_⟩,fun x c e=>?_,e0.hok.fresh (Yd _),fun x c e=>(hc.cell x c e).2.1,fun p hp=>W1 (show p∈([]:List (Addr×Obj)) from hp) (by simp),e0.hok.kept hk₁,by show (vals.map some).length+1=L.N.length+1;rw[Ya,hc.len]⟩
  ·cases i with
   | zero=>
    cases e1;cases e2;exact⟨u,rv,.inl ⟨g.loc,by simp⟩⟩
   | succ i=>
    have e1:L.N[i]?=some x:=e1;have e2:(vals.map some)[i]?=some (some v'):=e2;have ev:vals[i]?=some v':=by
     rw[Ye] at e2;cases z:vals[i]? with
     | none=>rw[z] at e2;cases e2
     | some y=>rw[z] at e2;cases e2;rfl
    obtain⟨c,u,l,ic,r⟩:=hc.val i x v' e1 ev;exact⟨u,r,.inr ⟨.inr (g.frees x (Yv e1)),c,l,isC _ _ ic⟩⟩
  ·obtain⟨⟨v,ic⟩,_⟩:=hc.cell x c e
   exact⟨v,isC _ _ ic⟩
 refine kla_codeExpr (wpAny_mono ((g.pe cl f c A outer s H (hr.deeper _)).1 [] _ _ H Q I q) (fun v s' hl=>?_) fun _ _ z=>False.elim z)
 obtain⟨y,H',J,r,q'⟩:=hl;exact⟨y,H',J.os,J.bare,J.base,J.hok,r,q'⟩
end
def tLamK (P:Addr)(pos:Pos)(L:LamK)(cl:List (Str×Addr)):TE:=fun _ H Q=>∃ ps:Array Value,H P=some (.tbl ps)/\TriplesOk ps.toList/\
  ((codeAmong pos ps.toList=none/\∀ f c',H f=none->H c'=none->f≠c'->Q (.ref f) (lamH H P f c' ps pos L.qual L.params L.body L.scope cl))\/
   (∃ c',codeAmong pos ps.toList=some (.ref c')/\H c'=some (.ext (CodP c' L.qual))/\∀ f,H f=none->Q (.ref f) (upd H f (.ext (LamP f c' L.qual L.params L.body L.scope cl)))))
section
variable {X:Cx}
theorem pe_lamK {c P:Addr}{params:Arguments}{body:Expr}{scope:Scope}{pos:Pos}{L:LamK}(hL:L.params=params/\L.body=body/\L.scope=scope)(hq:X.env.qual++"<lambda>"=L.qual)(hb:BMain X.mg X.base)(hc:X.env.code=.ref c)(hk:codeHdIn X.K c P=true)(hcf:∀ y∈scope.names,y.2=.free->∃ c,X.env.cells.lookup y.1=some c)(hdef:defaultsOf params X.env=([],[]):=by rfl):
  PE X (.Lambda params body scope pos) (tLamK P pos L (closOf X.env.cells scope.names [])):=by
 obtain⟨rfl,rfl,rfl⟩:=hL;have hm:=pe_lam (X:=X) (params:=L.params) (body:=L.body) (scope:=L.scope) (pos:=pos) hb hc hk hcf hdef;rw[hq] at hm;refine⟨?_⟩
 intro pins s σ H Q I h;obtain⟨ps,hP,ht,⟨hn,q⟩|⟨c',hf,hc',q⟩⟩:=h
 ·exact hm.1 pins s σ H Q I ⟨ps,hP,ht,hn,q⟩
 have eP:s.heap.get? P=some (tabObj ps):=I.hok P _ hP;have hgs:=I.mod.glob.keeps I.bk;obtain⟨bm,ob,b1,b2,b3,b4,b5,b6⟩:=hb;have b3':=I.bk _ _ b3;have hbP:bm≠P:=fun z=>by rw[z,eP] at b3';cases b3';cases b4
 have hbG:bm≠mainGlobals:=fun z=>by
  obtain⟨o,es,ep,e,hd,_⟩:=hgs;rw[z,e] at b3';cases b3';rw[hd] at b6;cases b6
 refine kla_eval hdef (kla_makeFunctionHit (mg:=X.mg) (closureFor_eq hcf) I.ok.glob hgs hc (codeHd_of_K I.kIn hk) eP ht hf ⟨bm,ob,b1,b2,hbG,hbP,b3',b4,b5,b6⟩ fun ctv h' tk hx hsz=>?_)
 rw[hq];generalize hO:({ cls:=.type "function",data:=.func (kla_fn "<lambda>" L.qual L.params L.body L.scope (closOf X.env.cells L.scope.names []) ((X.mg "__name__").getD .none) (.ref c') ctv) }:Obj)=O;have g:(h'.push O).get? h'.objs.size=some O:=Yt _ (by rw[<- hO];rfl)
 refine⟨.ref h'.objs.size,_,I.laid (a:=h'.objs.size) (o:=.ext (LamP h'.objs.size c' L.qual L.params L.body L.scope (closOf X.env.cells L.scope.names []))) (fun b o e=>Yf _ (hx b o e)) hsz ⟨⟨_,_,by rw[g,<- hO]⟩,⟨_,g⟩,fun h1 h2 z k=>?_⟩,rfl,q _ (I.hok.fresh hsz)⟩
 obtain⟨pm,cv,z⟩:=z;exact⟨pm,cv,k _ z⟩
end
theorem lamK_step {Pp:Addr}{pos:Pos}{L:LamK}{cl:List (Str×Addr)}{σ:St}{H:Hp}{Q:VK}(tq:TabQ L.qual Pp H)(q:∀ f c H',NewO H Pp H'->TabQ L.qual Pp H'->L.here cl f c H'->Q (.ref f) H'):tLamK Pp pos L cl σ H Q:=by
 obtain⟨ps,h1,h2,h3⟩:=tq;refine⟨ps,h1,h2,?_⟩
 rcases h3 pos with h | ⟨c,h,hc⟩
 ·refine .inl ⟨h,fun f c nf nc hfc=>?_⟩
  have hfP:Pp≠f:=ne_of_none h1 nf;have hcP:Pp≠c:=ne_of_none h1 nc;have nw:NewO H Pp (lamH H Pp f c ps pos L.qual L.params L.body L.scope cl):=fun b o hb e=>by
   unfold lamH;rw[upd_ne (ne_of_none e nf),upd_ne (ne_of_none e nc),upd_ne hb];exact e
  have ef:(lamH H Pp f c ps pos L.qual L.params L.body L.scope cl) f=some (.ext (LamP f c L.qual L.params L.body L.scope cl)):=upd_same;have ec:(lamH H Pp f c ps pos L.qual L.params L.body L.scope cl) c=some (.ext (CodP c L.qual)):=by
   unfold lamH;rw[upd_ne (Ne.symm hfc),upd_same]
  have eP:(lamH H Pp f c ps pos L.qual L.params L.body L.scope cl) Pp=some (.tbl (ps++#[rawInt pos.line,rawInt pos.col,.ref c])):=by
   unfold lamH;rw[upd_ne hfP,upd_ne hcP,upd_same]
  have e:(ps++#[rawInt pos.line,rawInt pos.col,.ref c]).toList=ps.toList++[rawInt pos.line,rawInt pos.col,.ref c]:=by simp
  refine q f c _ nw ⟨_,eP,by rw[e];exact triples_snoc rfl rfl _ h2,fun p2=>?_⟩ ⟨ef,ec⟩
  rw[e];rcases h3 p2 with h' | ⟨c2,h',hc2⟩
  ·by_cases z:pos.line=p2.line/\pos.col=p2.col
   ·refine .inr ⟨c,?_,ec⟩
    rw[z.1,z.2];exact among_hit _ h2 h'
   ·exact .inl (among_snoc z _ h2 h')
  ·exact .inr ⟨c2,among_keep _ h2 h',nw _ _ (fun z=>by rw[z,h1] at hc2;cases hc2) hc2⟩
 ·refine .inr ⟨c,h,hc,fun f nf=>?_⟩
  have g:=same_new nf (.ext (LamP f c L.qual L.params L.body L.scope cl));exact q f c _ (NewO.of g) (TabQ.same ⟨ps,h1,h2,h3⟩ g) ⟨upd_same,g _ _ hc⟩
section
variable {X:Cx} {x:Str} {id:String} {p pos:Pos} {e:Expr} {es:List Expr} {kws:List Keyword} {t tk:TA} {ks:List Str}
def CallKS (X:Cx)(f:Value)(ks:List Str)(r:St->List V->List V->Hp->VK->Prop):Prop:=
 ∀ (pins:List (Addr×Obj)) (s:Shared) (σ:St) (H:Hp) (xs ys:List V) (us ws:List Value) (Q:VK),Inv X pins σ H s->Vals xs us->Vals ys ws->r σ xs ys H Q->wpAny (model X.prog X.w) X.A (call f us (ks.zip ws)) (EP X pins σ Q) X.xe s
def tCBKS (r:St->List V->List V->Hp->VK->Prop)(t tk:TA):TE:=fun σ H Q=>t σ H fun vs H1=>tk σ H1 fun ws H2=>r σ vs ws H2 Q
theorem pe_callBkS {r:St->List V->List V->Hp->VK->Prop}(hc:CallKS X (.builtin id) ks r)(hg:Gl X x)(hm:X.mg x=none)(hv:bootBuiltins x=some (.builtin id))(ha:PA X (e::es) t)(hk:PK X kws tk)
  (hks:(backToKw pos (keywordEach kws X.env)).filterMap (·.1)=ks:=by rfl)
  (hn:x≠"__name__":=by decide) (hdb:(x ==("__debug__":Str))=false:=by decide)
  (he:backTo pos (starEach (e::es) X.env)=(false,eval e X.env)::backTo pos (starEach es X.env):=by rfl)
  (hplain:(backTo pos (starEach (e::es) X.env)).any (·.1)=false:=by rfl)
  (hall:(backToKw pos (keywordEach kws X.env)).all (·.1.isSome)=true:=by rfl)
  (hkw:(backToKw pos (keywordEach kws X.env)).any (·.1.isNone)=false:=by rfl):PE X (.Call (.Name x p) (e::es) kws pos) (tCBKS r t tk):=by
 refine⟨?_⟩
 intro pins s σ H Q I h;refine wpAny_Call_Name_kw (ld_blt I hg hm hv ?_ hn hdb)
 refine callWith_builtin_kwB hplain hkw ?_
 have hb:=ha pos pins s σ H _ I h;rw[he] at hb ⊢;refine evalArgs_kwB hall (thn hb fun us s1 ⟨vs,H1,I1,r1,q1⟩=>?_)
 refine thn (hk pos pins s1 σ H1 _ I1 q1) fun ws s2 ⟨ys,H2,I2,r2,q2⟩=>?_
 rw[hks];exact hc pins s2 σ H2 vs ys us ws Q I2 r1 r2 q2
end
theorem min_frs {sc scope:Scope}{N:List Str}(h:∀ x∈N,sc.names.lookup x=some .cell/\(x,NameKind.free)∈scope.names):∀ x∈N,sc.names.lookup x=some .cell/\(x,NameKind.free)∈scope.names:=h
structure MinP (K:FrQ)(L:LamK)(cl:List (Str×Addr))(l f c:Addr)(vs vals:List V)(kf:Nat->Int)(Pv:Nat->Hp->Prop)(Q:VK):Prop where
 lst:∀ i H',Pv i H'->SqL K H' l vs
 key:∀ i v H',vs[i]?=some v->Pv i H'->L.here cl f c H'/\L.t (some v::vals.map some) H' fun kv H2=>kv=.int (kf i)/\Pv (i+1) H2
 fin:∀ i v H',vs[i]?=some v->(∀ j,j<vs.length->kf i<=kf j)->Pv vs.length H'->Q v H'
def rMinK (K:FrQ)(N:List Str)(L:LamK)(cl:List (Str×Addr)):St->List V->List V->Hp->VK->Prop:=fun σ xs ys H Q=>∃ (l f c:Addr) (vs vals:List V) (kf:Nat->Int) (Pv:Nat->Hp->Prop),xs=[.ref l]/\ys=[.ref f]/\0<vs.length/\
 (∀ (j:Nat) x v,L.N[j]?=some x->vals[j]?=some v->∃ i:Nat,N[i]?=some x/\σ[i]?=some (some v))/\vals.length=L.N.length/\Pv 0 H/\MinP K L cl l f c vs vals kf Pv Q
section
variable {X:Cx} {pins:List (Addr×Obj)} {σ:St} {L:LamK} {cl:List (Str×Addr)} {k:Nat} {l f c J S:Addr} {vs vals:List V} {kf:Nat->Int} {Pv:Nat->Hp->Prop} {Q:VK}
theorem minK_key (g:L.Ok X.prog X.w X.K X.mg X.base k)(hr:Room (k+2) X.A)(has:∀ x,L.scope.names.lookup x=some .free->∃ c,cl.lookup x=some c)(mc:∀ {pins:List (Addr×Obj)} {H1:Hp} {s1:Shared},Inv X pins σ H1 s1->CellsAt s1.heap H1 X.stack cl L.N vals)
  (M:MinP X.K L cl l f c vs vals kf Pv Q) {i:Nat} {v:V} {u:Value} {s:Shared} {H:Hp} {oJ oS:Obj} (hv:vs[i]?=some v) (ru:RelV v u) (I:Inv X pins σ H s) (fJ:FpOk X pins H J) (fS:FpOk X pins H S) (gJ:s.heap.get? J=some oJ) (gS:s.heap.get? S=some oS) (nJ:∀ v,oJ.data≠.cell v) (nS:∀ v,oS.data≠.cell v) (pv:Pv i H)
  {R:Value->Shared->Prop} {E:Value->Shared->Prop} (q:∀ t s2 H2,Inv X pins σ H2 s2->FpOk X pins H2 J->FpOk X pins H2 S->s2.heap.get? J=some oJ->s2.heap.get? S=some oS->Pv (i+1) H2->R (.int (kf i) t) s2):
  wpAny (model X.prog X.w) X.A.in1 (call (.ref f) [u]) R E s:=by
 obtain⟨hh,ht⟩:=M.key i v H hv pv;have hfp:∀ b∈[J,S],FpOk X pins H b:=fun b hb=>by
  rcases List.mem_cons.mp hb with rfl | hb
  ·exact fJ
  ·rw[List.mem_singleton.mp hb];exact fS
 have hob:∀ b∈[J,S],∃ o,s.heap.get? b=some o/\∀ v,o.data≠.cell v:=fun b hb=>by
  rcases List.mem_cons.mp hb with rfl | hb
  ·exact⟨_,gJ,nJ⟩
  ·rw[List.mem_singleton.mp hb];exact⟨_,gS,nS⟩
 have Ip:=I.pinned hfp hob;have e0:=Ip.env0;have e2:Env0 X.prog X.w X.K X.mg X.base X.A.in1 X.stack s H:=⟨e0.frames,e0.mod,e0.bs,e0.bsz,e0.funs,e0.frf,e0.hok,e0.bare⟩;refine wpAny_call (codeAny_mono (lamK_run g (Room.in1 hr) e2 hh has (mc Ip) ru ht) fun r s2 hq2=>?_)
 cases r with
 | error er=>exact False.elim hq2
 | ok fl=>
  cases fl with
  | next=>exact False.elim hq2
  | brk=>exact False.elim hq2
  | cont=>exact False.elim hq2
  | ret u=>
   obtain⟨kv,H2,I2,rk2,ek,pv2⟩:=Ip.after hq2;subst ek;obtain⟨t2,rfl⟩:=(show ∃ t,u=Value.int _ t from rk2)
   have pJ:=I2.pin (J,oJ) (Yq _ (Yq _ (mem_pinsAt Y4 gJ)));have pS:=I2.pin (S,oS) (Yq _ (Yq _ (mem_pinsAt (Yy _ Y4) gS)));exact q t2 s2 H2 I2.unpinned ⟨pJ.2.1,fJ.2⟩ ⟨pS.2.1,fS.2⟩ pJ.1 pS.1 pv2
theorem iter_ne {h:Heap}{n:Nat}{xs:Array Value}(a:h.IsListIter J l n)(b:h.IsList l xs):l≠J:=fun z=>by
 obtain⟨o,e,d,_⟩:=a;obtain⟨u,e',d',_⟩:=b;rw[z,e] at e';cases e';rw[d] at d';injection d' with d'
 exact W1 d' (by decide)
theorem minK_loop (g:L.Ok X.prog X.w X.K X.mg X.base k)(hr:Room (k+2) X.A)(hcm:X.calm=true)(has:∀ x,L.scope.names.lookup x=some .free->∃ c,cl.lookup x=some c)(mc:∀ {pins:List (Addr×Obj)} {H1:Hp} {s1:Shared},Inv X pins σ H1 s1->CellsAt s1.heap H1 X.stack cl L.N vals)
  (M:MinP X.K L cl l f c vs vals kf Pv Q) (hSJ:S≠J):∀ (r j i:Nat) (s:Shared) (H:Hp) (vb:Value) (tb:Tok) (cc:Nat) (v:V),vs.length - (j+1)=r->j+1<=vs.length->Inv X pins σ H s->FpOk X pins H J->FpOk X pins H S->s.heap.get? S=some (seqObj "list" #[vb,.int (kf i) tb] cc)->s.heap.IsListIter J l (j+1)->
   vs[i]?=some v->RelV v vb->(∀ j',j'<=j->kf i<=kf j')->Pv (j+1) H->codeAny (model X.prog X.w) X.A (.builtin "min.loop" ⟨[.ref J,.ref f,.ref S],[]⟩) (fun r s'=>match r with | .ok (.ret v)=>EP X pins σ Q v s' | .ok _=>False | .error e=>X.xe e s') s:=by
 have nm:(toString "min"++toString ".loop":String)="min.loop":=by decide
 intro r;induction r with
 | zero=>
  intro j i s H vb tb cc v hrr hj I fJ fS gS hit hv rv hb pv;obtain⟨its,rvs,hp,_⟩:=I.list (M.lst _ _ pv);have hls:=hp.isList;have hlen:vs.length=its.length:=rvs.length;have W:=Walks.list (prog:=X.prog) (w:=X.w) (A:=X.A.in1) (I.ok.hd hcm) J l (iter_ne hit hls) its.toArray;refine codeAny_builtin PySem.F.entry_min_loop ?_
  rw[Around.under_plainId PySem.F.plain_min_loop _];show wpAny _ X.A.in1 (seqItems? (.ref S) >>= _) _ _ s
  refine wpAny_bind (wpAny_seqItems gS rfl ?_)
  show wpAny _ X.A.in1 (tryCatch (pyNext (.ref J)) _ >>= _) _ _ s
  refine wpAny_bind (wpAny_tryCatch (W.done s _ _ ⟨by rw[Yn,show its.length=j+1 by omega];exact hit,hls⟩ fun h' tk kk=>?_))
  have gS':=kk S _ (by simpa using hSJ) gS
  have sb:=Heap.SameBut.update h' S (Obj.mapSeq fun _=>(#[]:Array Value))
  show wpAny _ X.A.in1 (updateSeq S (fun _=>#[]) >>= _) _ _ _
  refine wpAny_bind (wpAny_updateSeq gS' rfl (wpAny_bind (wpAny_letGo (wpAny_pure ?_))))
  have I9:Inv X pins σ H { s with heap:=h'.update S (Obj.mapSeq fun _=>(#[]:Array Value)),toks:=tk }:=I.turnedL (ch:=[J,S]) (fun b u hb q=>(sb.2 b (fun z=>hb (by simp[z]))).trans (kk b u (fun z=>hb (by simp at z;simp[z])) q)) (fun b hb=>by
   rcases List.mem_cons.mp hb with rfl | hb
   ·exact fJ
   ·rw[List.mem_singleton.mp hb];exact fS)
  exact⟨v,H,I9,rv,M.fin i v H hv (fun j' hj'=>hb j' (by omega)) (by rw[show vs.length=j+1 by omega];exact pv)⟩
 | succ r ih=>
  intro j i s H vb tb cc v hrr hj I fJ fS gS hit hv rv hb pv;obtain⟨its,rvs,hp,_⟩:=I.list (M.lst _ _ pv);have hls:=hp.isList;have hlen:vs.length=its.length:=rvs.length;have W:=Walks.list (prog:=X.prog) (w:=X.w) (A:=X.A.in1) (I.ok.hd hcm) J l (iter_ne hit hls) its.toArray;refine codeAny_builtin PySem.F.entry_min_loop ?_
  rw[Around.under_plainId PySem.F.plain_min_loop _];show wpAny _ X.A.in1 (seqItems? (.ref S) >>= _) _ _ s
  refine wpAny_bind (wpAny_seqItems gS rfl ?_)
  show wpAny _ X.A.in1 (tryCatch (pyNext (.ref J)) _ >>= _) _ _ s
  refine wpAny_bind (wpAny_tryCatch (W.item (j+1) s _ _ (by rw[Yn];omega) ⟨hit,hls⟩ fun u h' tk hP hst' kk=>?_))
  have hu:its[j+1]?=some u:=by simpa using hP
  obtain⟨v2,hv2⟩:∃ v2,vs[j+1]?=some v2:=⟨_,Yc (by omega)⟩
  obtain⟨u2,hu2,ru2⟩:=rvs.get hv2;rw[hu] at hu2;cases hu2;have gS':=kk S _ (by simpa using hSJ) gS
  obtain⟨oJ,gJ,cJ,dJ⟩:=id hst'.1;have I1:Inv X pins σ H { s with heap:=h',toks:=tk }:=I.turned (it:=J) (fun b o hb q=>kk b o (by simpa using hb) q) fJ.1 fJ.2.1 fJ.2.2.2.1 fJ.2.2.2.2.1 fJ.2.2.2.2.2
  show wpAny _ X.A.in1 (tryCatch (holding [u] (call (.ref f) [u])) _ >>= _) _ _ _
  refine wpAny_bind (wpAny_tryCatch (wpAny_holding (minK_key g hr has mc M hv2 ru2 I1 fJ fS gJ gS' (fun v z=>by rw[dJ] at z;cases z) (fun v z=>by cases z) pv fun t2 s2 H2 I2 fJ2 fS2 gJ2 gS2 pv2=>?_)))
  show wpAny _ X.A.in1 (tryCatch (holding [u,.int (kf (j+1)) t2] (richCompare .Lt (.int (kf (j+1)) t2) (.int (kf i) tb) >>= _)) _ >>= _) _ _ _
  refine wpAny_bind (wpAny_tryCatch (wpAny_holding (wpAny_bind (CmpOf.ints_lt (prog:=X.prog) (w:=X.w) (A:=X.A.in1) (P:=fun i v=>∃ t,v=.int (kf i) t) kf (fun i v h=>h) (j+1) i _ _ _ _ _ ⟨t2,rfl⟩ ⟨tb,rfl⟩ ?_))))
  refine wpAny_bind (wpAny_holding (wpAny_truthy_bool ?_))
  refine wpAny_bind (wpAny_letGo (wpAny_pure ?_))
  by_cases hb':kf (j+1)<kf i
  ·have sb:=Heap.SameBut.update s2.heap S (Obj.mapSeq fun _=>#[u,.int (kf (j+1)) t2])
   obtain⟨c2,hc2⟩:∃ c2,(s2.heap.update S (Obj.mapSeq fun _=>#[u,.int (kf (j+1)) t2])).get? S=some (seqObj "list" #[u,.int (kf (j+1)) t2] c2):=⟨_,get?_update_seq gS2 fun _=>#[u,.int (kf (j+1)) t2]⟩
   simp only[hb',decide_true,if_true]
   refine wpAny_bind ?_
   refine wpAny_updateSeq gS2 rfl (wpAny_bind (wpAny_letGo ?_))
   rw[nm];refine wpAny_pure ⟨plainId_quiet PySem.F.plain_min_loop _,ih (j+1) (j+1) _ H2 u t2 c2 v2 (by omega) (by omega) (I2.turned (it:=S) (t':=s2.toks) (fun b o hb q=>(sb.2 b hb).trans q) fS2.1 fS2.2.1 fS2.2.2.2.1 fS2.2.2.2.2.1 fS2.2.2.2.2.2) fJ2 fS2 hc2 ⟨oJ,(sb.2 J (Ne.symm hSJ)).trans gJ2,cJ,dJ⟩ hv2 ru2 (fun j' hj'=>?_) pv2⟩
   by_cases e:j'=j+1
   ·rw[e];exact Int.le_refl _
   ·have:=hb j' (by omega);omega
  ·simp only[hb',decide_false,Bool.false_eq_true,if_false]
   refine wpAny_bind (wpAny_letGo ?_)
   rw[nm];refine wpAny_pure ⟨plainId_quiet PySem.F.plain_min_loop _,ih (j+1) i _ H2 vb tb cc v (by omega) (by omega) I2 fJ2 fS2 gS2 ⟨oJ,gJ2,cJ,dJ⟩ hv rv (fun j' hj'=>?_) pv2⟩
   by_cases e:j'=j+1
   ·rw[e];omega
   ·exact hb j' (by omega)
end
section
variable {X:Cx}
theorem call_minK {L:LamK}{k:Nat}{scope:Scope}(g:L.Ok X.prog X.w X.K X.mg X.base k)(hr:Room (k+2) X.A)(hcm:X.calm=true)(hsc:L.scope=scope)(hcf:∀ y∈scope.names,y.2=.free->∃ c,X.env.cells.lookup y.1=some c)(hst:X.stack=X.env::X.outer/\X.env.frame=some X.env.locals)(hfn:∀ x,X.fn x=true)
  (hfr:∀ x∈L.N,X.env.kindOf x=some .cell/\(x,NameKind.free)∈scope.names):CallKS X (.builtin "min") ["key"] (rMinK X.K X.N L (closOf X.env.cells scope.names [])):=by
 intro pins s σ H xs ys us ws Q I rx ry h;obtain⟨l,f,c,vs,vals,kf,Pv,rfl,rfl,hne,hvals,hvl,pv,M⟩:=h;obtain⟨u,rfl,ru⟩:=vals1 rx;cases (show u=Value.ref l from ru)
 obtain⟨u2,rfl,ru2⟩:=vals1 ry;cases (show u2=Value.ref f from ru2)
 have mc:∀ {pins:List (Addr×Obj)} {H1:Hp} {s1:Shared},Inv X pins σ H1 s1->CellsAt s1.heap H1 X.stack (closOf X.env.cells scope.names []) L.N vals:=fun I'=>CellsAt.made I' hfn hst hfr hvals hvl
 have has:∀ x,L.scope.names.lookup x=some .free->∃ c,(closOf X.env.cells scope.names []).lookup x=some c:=by rw[hsc];exact lam_has hcf
 obtain⟨its,rvs,hp,_⟩:=I.list (M.lst _ _ pv);have hls:=hp.isList;have hlen:vs.length=its.length:=rvs.length;have hll:l<s.heap.objs.size:=by obtain⟨_,e,_⟩:=id hls;exact Yi e
 have nm:(toString "min"++toString ".loop":String)="min.loop":=by decide
 show wpAny _ _ (call (.builtin "min") [.ref l] [(Str.ofString "key",.ref f)]) _ _ _
 refine kmk_tree PySem.F.kind_min PySem.F.plain_min PySem.F.entry_min (kmk_min_key _ _) ?_
 show wpAny _ X.A.in1 (Builtin.Builtins.bindParams "min" ["key","default"] 0 ⟨[],[(Str.ofString "key",.ref f)]⟩ >>= _) _ _ s
 refine wpAny_bind (wpAny_of_eq (show Builtin.Builtins.bindParams "min" ["key","default"] 0 ⟨[],[(Str.ofString "key",.ref f)]⟩=pure [some (.ref f),none] from rfl) (wpAny_bind (wpAny_pure ?_)))
 refine wpAny_bind (wpAny_pyIter_list hls ?_)
 refine wpAny_bind (wpAny_newList ?_ (Y7 _))
 rw[nm];have hS:(s.heap.push { cls:=.type "list_iterator",data:=.fields #[.ref l,.int 0 0] }).objs.size=s.heap.objs.size+1:=size_push' ..;have gJ0:((s.heap.push { cls:=.type "list_iterator",data:=.fields #[.ref l,.int 0 0] }).push (seqObj "list" #[] 0)).get? s.heap.objs.size=some { cls:=.type "list_iterator",data:=.fields #[.ref l,.int 0 0] }:=Yf _ (Yt _ rfl);have gS0:((s.heap.push { cls:=.type "list_iterator",data:=.fields #[.ref l,.int 0 0] }).push (seqObj "list" #[] 0)).get? (s.heap.objs.size+1)=some (seqObj "list" #[] 0):=by
  rw[<- hS];exact Yt _ rfl
 have keep:∀ b o,s.heap.get? b=some o->((s.heap.push { cls:=.type "list_iterator",data:=.fields #[.ref l,.int 0 0] }).push (seqObj "list" #[] 0)).get? b=some o:=fun b o e=>Yf _ (Yf _ e)
 refine wpAny_pure ⟨plainId_quiet PySem.F.plain_min_loop _,?_⟩
 rw[hS];show codeAny _ _ _ _ { s with heap:=(s.heap.push { cls:=.type "list_iterator",data:=.fields #[.ref l,.int 0 0] }).push (seqObj "list" #[] 0) }
 have hls1:((s.heap.push { cls:=.type "list_iterator",data:=.fields #[.ref l,.int 0 0] }).push (seqObj "list" #[] 0)).IsList l its.toArray:=by
  obtain⟨o,e,r⟩:=hls;exact⟨o,keep _ _ e,r⟩
 generalize (s.heap.push { cls:=.type "list_iterator",data:=.fields #[.ref l,.int 0 0] }).push (seqObj "list" #[] 0)=h1 at gJ0 gS0 keep hls1 ⊢;have fJ:=I.fpOk (Yd _) (I.hok.fresh (Yd s.heap.objs.size));have fS:FpOk X pins H (s.heap.objs.size+1):=I.fpOk (Ws s.heap.objs.size) (I.hok.fresh (Ws s.heap.objs.size));have I0:Inv X pins σ H { s with heap:=h1,toks:=s.toks }:=I.kept keep
 have hSJ:s.heap.objs.size+1≠s.heap.objs.size:=Nat.succ_ne_self _;generalize s.heap.objs.size+1=S at gS0 fS hSJ ⊢;generalize s.heap.objs.size=J at gJ0 fJ hSJ ⊢;have hit:h1.IsListIter J l 0:=⟨_,gJ0,rfl,rfl⟩;have W:=Walks.list (prog:=X.prog) (w:=X.w) (A:=X.A.in1) (I.ok.hd hcm) J l (iter_ne hit hls1) its.toArray;refine codeAny_builtin PySem.F.entry_min_loop ?_
 rw[Around.under_plainId PySem.F.plain_min_loop _];show wpAny _ X.A.in1 (seqItems? (.ref S) >>= _) _ _ _
 refine wpAny_bind (wpAny_seqItems gS0 rfl ?_)
 show wpAny _ X.A.in1 (tryCatch (pyNext (.ref J)) _ >>= _) _ _ _
 refine wpAny_bind (wpAny_tryCatch (W.item 0 _ _ _ (by rw[Yn];omega) ⟨hit,hls1⟩ fun u h' tk hP hst' kk=>?_))
 have hu:its[0]?=some u:=by simpa using hP
 obtain⟨v2,hv2⟩:∃ v2,vs[0]?=some v2:=⟨_,Yc (by omega)⟩
 obtain⟨u2,hu2,ru2⟩:=rvs.get hv2;rw[hu] at hu2;cases hu2;have gS':=kk S _ (by simpa using hSJ) gS0
 obtain⟨oJ,gJ,cJ,dJ⟩:=id hst'.1;have I1:Inv X pins σ H { s with heap:=h',toks:=tk }:=Inv.turned (s:={ s with heap:=h1,toks:=s.toks }) I0 (it:=J) (fun b o hb q=>kk b o (by simpa using hb) q) fJ.1 fJ.2.1 fJ.2.2.2.1 fJ.2.2.2.2.1 fJ.2.2.2.2.2
 show wpAny _ X.A.in1 (tryCatch (holding [u] (call (.ref f) [u])) _ >>= _) _ _ _
 refine wpAny_bind (wpAny_tryCatch (wpAny_holding (minK_key g hr has mc M hv2 ru2 I1 fJ fS gJ gS' (fun v z=>by rw[dJ] at z;cases z) (fun v z=>by cases z) pv fun t2 s2 H2 I2 fJ2 fS2 gJ2 gS2 pv2=>?_)))
 have sb:=Heap.SameBut.update s2.heap S (Obj.mapSeq fun _=>#[u,.int (kf 0) t2])
 obtain⟨c2,hc2⟩:∃ c2,(s2.heap.update S (Obj.mapSeq fun _=>#[u,.int (kf 0) t2])).get? S=some (seqObj "list" #[u,.int (kf 0) t2] c2):=⟨_,get?_update_seq gS2 fun _=>#[u,.int (kf 0) t2]⟩
 show wpAny _ X.A.in1 (updateSeq S (fun _=>#[u,.int (kf 0) t2]) >>= _) _ _ _
 refine wpAny_bind ?_
 refine wpAny_updateSeq gS2 rfl ?_
 rw[nm];refine wpAny_pure ⟨plainId_quiet PySem.F.plain_min_loop _,minK_loop g hr hcm has mc M hSJ _ 0 0 _ H2 u t2 c2 v2 rfl (by omega) (I2.turned (it:=S) (t':=s2.toks) (fun b o hb q=>(sb.2 b hb).trans q) fS2.1 fS2.2.1 fS2.2.2.2.1 fS2.2.2.2.2.1 fS2.2.2.2.2.2) fJ2 fS2 hc2 ⟨oJ,(sb.2 J (Ne.symm hSJ)).trans gJ2,cJ,dJ⟩ hv2 ru2 (fun j' hj'=>?_) pv2⟩
 rw[show j'=0 by omega];exact Int.le_refl _
theorem pe_minK {K:FrQ}{c P:Addr}{e:Expr}{params:Arguments}{body:Expr}{scope:Scope}{pos pos2 p kp:Pos}{x:Str}{N:List Str}{t:TE}{ta:TA}{k:Nat}(hK:X.K=K)
  (hbody:∀ (cl:List (Str×Addr)) (f c:Addr) (A:Around) (outer:List Env) (s:Shared) (H:Hp),Room k (A.deeper (envX (X.env.qual++"<lambda>") scope s.heap.objs.size f (.ref c) cl))->PE (lamCx X.prog X.w K X.mg X.base (x::N) (X.env.qual++"<lambda>") scope f c cl A outer s H) body t)
  (hr:Room (k+2) X.A) (hcm:X.calm=true) (hst:X.stack=X.env::X.outer/\X.env.frame=some X.env.locals) (hfn:∀ x,X.fn x=true) (hb:BMain X.mg X.base) (hc:X.env.code=.ref c) (hk:codeHdIn K c P=true) (hg:Gl X "min") (hm:X.mg "min"=none) (ha:PA X [e] ta)
  (hbind:∀ cl pm cdv ct u,bindArgs (kla_fn "<lambda>" (X.env.qual++"<lambda>") params body scope cl pm cdv ct) ⟨[u],[]⟩=pure [(x,u)])
  (hcf:∀ y∈scope.names,y.2=.free->∃ c,X.env.cells.lookup y.1=some c) (hfr:∀ x∈N,X.env.kindOf x=some .cell/\(x,NameKind.free)∈scope.names) (hnc:∀ y∈scope.names,y.2≠.cell) (hloc:scope.names.lookup x=some .local) (hfrees:∀ x∈N,scope.names.lookup x=some .free)
  (hdef:defaultsOf params X.env=([],[]):=by rfl) (hkind:scope.kind=.function:=by rfl) (hco:scope.isCoroutine=false:=by rfl) (hgen:scope.isGenerator=false:=by rfl)
  (he1:backTo pos2 (starEach [e] X.env)=(false,eval e X.env)::backTo pos2 (starEach [] X.env):=by rfl)
  (hplain:(backTo pos2 (starEach [e] X.env)).any (·.1)=false:=by rfl):
  PE X (.Call (.Name "min" p) [e] [.mk (some "key") (.Lambda params body scope pos) kp] pos2) (tCBKS (rMinK K X.N ⟨X.env.qual++"<lambda>",params,body,scope,x,N,t⟩ (closOf X.env.cells scope.names [])) ta (tCons (tLamK P pos ⟨X.env.qual++"<lambda>",params,body,scope,x,N,t⟩ (closOf X.env.cells scope.names [])) tNil)):=by
 subst hK;exact pe_callBkS (call_minK (k:=k) (L:=⟨X.env.qual++"<lambda>",params,body,scope,x,N,t⟩) ⟨hkind,hco,hgen,hnc,hloc,hfrees,hbind,hbody⟩ hr hcm rfl hcf hst hfn hfr) hg hm bt_min ha (pk_cons (pe_lamK ⟨rfl,rfl,rfl⟩ rfl hb hc hk hcf hdef) pk_nil) (he:=he1) (hplain:=hplain)
end
end L2
namespace L2
open PySem PySem.SeqAt PySem.Spec PySem.W PyProof.Rows
def isT:Value->Bool
 | .bool b=>b == true
 | _=>false
theorem bools_items:∀ {bs:List Bool} {us:List Value},Vals (bs.map V.bl) us->us=bs.map Value.bool
 | [],_,.nil=>rfl
 | b::bs,_,.cons r rr=>by
  rw[bools_items rr];have:=(show _=Value.bool b from r)
  subst this;rfl
theorem eqT_at (bs:List Bool)(A:Around)(s:Shared):∀ y,y∈(bs.map Value.bool).toArray->EqAt A s y (.bool true) (isT y):=fun y hy=>by
 have hy:y∈bs.map Value.bool:=List.mem_toArray.mp hy;obtain⟨b,_,rfl⟩:=List.mem_map.mp hy;exact EqAt.bool_bool b true
section
variable {X:Cx}
def rCountT:V->List V->Hp->VK->Prop:=fun x vs H Q=>∃ (l:Addr) (bs:List Bool),x=.ref l/\vs=[.bl true]/\H l=some (.lst (bs.map V.bl))/\Q (.int (bs.count true:Nat)) H
theorem mt_countT:MtR X "list.count" rCountT:=by
 intro pins s σ H x vs v us Q I rx rv h;obtain⟨l,bs,rfl,rfl,hH,q⟩:=h;cases rx;obtain⟨u,rfl,ru⟩:=vals1 rv;cases (show u=Value.bool true from ru)
 obtain⟨z,its,n,r,hl,e⟩:=I.lstM hH;obtain rfl:=bools_items r
 refine call_meets PySem.F.slot_list_count ⟨_,e,rfl⟩ PySem.F.entry_list_count (PySem.F.args_list_count_2 _ _) (SeqAt.list_countAt l (bs.map Value.bool).toArray n none #[] (.bool true) isT) ⟨e,eqT_at bs _ _,?_⟩
 have hc:((bs.map Value.bool).toArray.toList.countP isT:Nat)=bs.count true:=by
  show (bs.map Value.bool).countP isT=_
  rw[List.countP_map];rfl
 rw[hc];exact⟨.int _,H,I.kept (t':=s.toks+1) fun b o e=>e,⟨_,rfl⟩,q⟩
def rIndexT:V->List V->Hp->VK->Prop:=fun x vs H Q=>∃ (l:Addr) (bs:List Bool) (j:Nat),x=.ref l/\vs=[.bl true]/\H l=some (.lst (bs.map V.bl))/\bs[j]?=some true/\(∀ m,m<j->bs[m]?=some false)/\j<1000/\Q (.int (j:Nat)) H
theorem mt_indexT:MtR X "list.index" rIndexT:=by
 intro pins s σ H x vs v us Q I rx rv h;obtain⟨l,bs,j,rfl,rfl,hH,hj,hno,hj2,q⟩:=h;cases rx;obtain⟨u,rfl,ru⟩:=vals1 rv;cases (show u=Value.bool true from ru)
 obtain⟨z,its,n,r,hl,e⟩:=I.lstM hH;obtain rfl:=bools_items r
 have hjl:=(List.getElem?_eq_some_iff.mp hj).1;refine call_meets PySem.F.slot_list_index ⟨_,e,rfl⟩ PySem.F.entry_list_index (PySem.F.args_list_index_2 _ _) (SeqAt.list_indexAt l (bs.map Value.bool).toArray n none #[] (.bool true) isT j (by simp;exact hjl) (by omega) ?_ ?_) ⟨e,eqT_at bs _ _,?_⟩
 ·have:bs[j]=true:=(List.getElem?_eq_some_iff.mp hj).2
  simp[isT,this]
 ·intro m hm hmj
  have hml:m<bs.length:=by omega
  have:bs[m]=false:=(List.getElem?_eq_some_iff.mp (hno m hmj)).2
  simp[isT,this]
 ·exact⟨.int _,H,I.kept (t':=s.toks+1) fun b o e=>e,⟨_,rfl⟩,q⟩
section
variable {K:FrQ}
def rAnyH (K:FrQ)(ea:Addr):List V->Hp->VK->Prop:=fun xs H Q=>∃ p C,∃ bs:List Bool,xs=[.ref p]/\SqL K H p (bs.map V.bl)/\H ea=some (.ext (ExAt ea C))/\Q (.bl (bs.any id)) H
theorem callK_anyH {ea:Addr}(h:X.K=K)(hh:X.A.handled=some (.ref ea)):CallR X (.builtin "any") (rAnyH K ea):=by
 subst h;intro pins s σ H xs us Q I rv h;obtain⟨p,C,bs,rfl,hq,hx,q⟩:=h;obtain⟨u,rfl,ru⟩:=vals1 rv;cases (show u=Value.ref p from ru)
 obtain⟨its,r,hp,_⟩:=I.list hq;have hb:=boolsAre_of r;have hl:=hp.isList;have hlt:p<s.heap.objs.size:=by obtain⟨_,e,_⟩:=hl;exact Yi e
 have hE:ExAt ea C s.heap:=(I.hok ea _ hx).1;have cx:Cxn ea s.heap:=by obtain⟨o,vs,e,_,d,c⟩:=hE;exact⟨o,vs,e,d,c⟩
 have hlt2:ea<s.heap.objs.size:=by obtain⟨_,_,e,_⟩:=cx;exact Yi e
 refine call_any_walk (wpAny_pyIter_list hl ?_)
 refine⟨s.heap.objs.size,[s.heap.objs.size,p,ea],[s.heap.objs.size],its.toArray.size,_,_,fun i=>(bs[i]?).getD false,rfl,walksH (A:=X.A.in1) hh _ p (Ym hlt) (Ym hlt2) its.toArray,
  ⟨⟨_,Yt _ rfl,rfl,rfl⟩,hl.push _,cx.push _⟩,fun i v s' Q' E' hP hQ=>?_,fun h' tk hk=>?_⟩
 ·obtain⟨b,e,rfl⟩:=hb.get i v (by simpa using hP)
  simp only[e,Option.getD_some] at hQ
  exact wpAny_truthy_bool hQ
 ·have e:((Yj its.toArray.size).any fun i=>(bs[i]?).getD false)=bs.any id:=by
   rw[Yn,hb.length];exact LSm.range_any bs
  rw[e];exact⟨.bl _,H,I.kept (h':=h') (t':=tk) (LSm.kept_iter hk),rfl,q⟩
end
variable {o e:Expr} {es:List Expr} {to:TE} {t:TA} {name:Str} {apos cpos:Pos} {T id:String} {r:V->List V->Hp->VK->Prop} {K:FrQ}
theorem pe_bmK (hK:X.K=K)(pa:PlainAttrs T)(slot:Slot T name id)(hty:typeOf (.builtin id)=pure (.type "method_descriptor"))(hm:MtR X id r)(ho:PE X o to)(ha:PA X (e::es) t)
  (hbase:attributeBase o name X.env (eval o X.env)=eval o X.env:=by rfl)
  (hfew:((backTo cpos (starEach (e::es) X.env)).all (fun x=>!x.1) && (backToKw cpos (keywordEach [] X.env)).all (fun x=>x.1.isSome)
   && decide ((e::es).length+([]:List Keyword).length+(if ([]:List Keyword).isEmpty then 0 else 1)<30))=true:=by rfl)
  (hline:(apos.endLine == cpos.line)=true:=by rfl) (hs:starEach (e::es) X.env=(false,eval e X.env)::starEach es X.env:=by rfl) (hplain:(backTo cpos (starEach es X.env)).any (·.1)=false:=by rfl):
  PE X (.Call (.Attribute o name apos) (e::es) [] cpos) (tBM K T r to t):=by
 subst hK;exact pe_bm pa slot hty hm ho ha hbase hfew hline hs hplain
end
end L2
namespace L2
open PySem PySem.Spec PyProof.Rows Alg
end L2
namespace Alg
open Lean.Grind
end Alg
namespace L2
open Alg
end L2
namespace Alg
open Lean.Grind
section
variable {α:Type} [CommRing α]
inductive Spn (S:List (Nat->α)):(Nat->α)->Prop where
 | zero:Spn S fun _=>0
 | add {r v:Nat->α} (a:α) (h:r∈S) (t:Spn S v):Spn S fun i=>a*r i+v i
theorem Spn.of {S:List (Nat->α)}{v w:Nat->α}(h:Spn S v)(e:∀ i,v i=w i):Spn S w:=by
 rw[<- funext e];exact h
theorem Spn.plus {S:List (Nat->α)}{v w:Nat->α}(h:Spn S v)(k:Spn S w):Spn S fun i=>v i+w i:=by
 induction h with
 | zero=>exact k.of fun i=>by grind
 | @add r v a hr _ ih=>exact (Spn.add a hr ih).of fun i=>by grind
theorem Spn.smul {S:List (Nat->α)}{v:Nat->α}(c:α)(h:Spn S v):Spn S fun i=>c*v i:=by
 induction h with
 | zero=>exact Spn.zero.of fun i=>by grind
 | @add r v a hr _ ih=>exact (Spn.add (c*a) hr ih).of fun i=>by grind
theorem Spn.mem {S:List (Nat->α)}{r:Nat->α}(h:r∈S):Spn S r:=(Spn.add 1 h Spn.zero).of fun i=>by grind
theorem Spn.trans {S S':List (Nat->α)}(hs:∀ r∈S,Spn S' r){v:Nat->α}(h:Spn S v):Spn S' v:=by
 induction h with
 | zero=>exact .zero
 | @add r v a hr _ ih=>exact ((hs r hr).smul a).plus ih
theorem Spn.nought {S:List (Nat->α)}{k:Nat}(hs:∀ r∈S,r k=0){v:Nat->α}(h:Spn S v):v k=0:=by
 induction h with
 | zero=>rfl
 | @add r v a hr _ ih=>show a*r k+v k=0;rw[hs r hr,ih];grind
theorem Spn.step {S S':List (Nat->α)}{r s0:Nat->α}{k:Nat}{b:α}(e0:∀ i,r i=b*s0 i)(e1:r k=1)(hs:∀ s∈S,s=s0\/(fun i=>s i - s k*r i)∈S'){v:Nat->α}(h:Spn S v):Spn S' fun i=>v i - v k*r i:=by
 induction h with
 | zero=>exact Spn.zero.of fun i=>by grind
 | @add s v a hr _ ih=>
  rcases hs s hr with rfl | h
  ·have e2:b*s k=1:=by rw[<- e0];exact e1
   refine ih.of fun i=>?_
   rw[e0 i];grind
  ·refine (Spn.add a h ih).of fun i=>?_
   grind
theorem Spn.back {S:List (Nat->α)}{r s0 s:Nat->α}{k:Nat}{b:α}(e0:∀ i,r i=b*s0 i)(h0:s0∈S)(hs:s∈S):Spn S fun i=>s i - s k*r i:=by
 refine (Spn.add (-(s k*b)) h0 (Spn.mem hs)).of fun i=>?_
 rw[e0 i];grind
def sm (n:Nat)(d:Nat->α)(R:Nat->Nat->α)(j:Nat):α:=match n with
 | 0=>0
 | n+1=>sm n d R j+d n*R n j
theorem sm_congr {n:Nat}{d d':Nat->α}{R R':Nat->Nat->α}{j:Nat}(h:∀ i,i<n->d i=d' i)(k:∀ i,i<n->R i j=R' i j):sm n d R j=sm n d' R' j:=by
 induction n with
 | zero=>rfl
 | succ n ih=>
  show sm n d R j+d n*R n j=sm n d' R' j+d' n*R' n j
  rw[ih (fun i hi=>h i (by omega)) (fun i hi=>k i (by omega)),h n (by omega),k n (by omega)]
theorem sm_zero {n:Nat}{R:Nat->Nat->α}{j:Nat}:sm n (fun _=>0) R j=0:=by
 induction n with
 | zero=>rfl
 | succ n ih=>
  show sm n (fun _=>0) R j+0*R n j=0
  rw[ih];grind
theorem sm_lin {n:Nat}(a:α){d e:Nat->α}{R:Nat->Nat->α}{j:Nat}:sm n (fun i=>a*d i+e i) R j=a*sm n d R j+sm n e R j:=by
 induction n with
 | zero=>show (0:α)=a*0+0;grind
 | succ n ih=>
  show sm n (fun i=>a*d i+e i) R j+(a*d n+e n)*R n j=a*(sm n d R j+d n*R n j)+(sm n e R j+e n*R n j)
  rw[ih];grind
theorem sm_unit {n:Nat}{R:Nat->Nat->α}{j k:Nat}(hk:k<n):sm n (fun i=>if i=k then 1 else 0) R j=R k j:=by
 induction n with
 | zero=>omega
 | succ n ih=>
  show sm n (fun i=>if i=k then 1 else 0) R j+(if n=k then 1 else 0)*R n j=R k j
  by_cases h:n=k
  ·subst h
   rw[Wv rfl,sm_congr (d':=fun _=>0) (fun i hi=>by show (if i=n then (1:α) else 0)=0;rw[Wu (by omega)]) (fun i hi=>rfl),sm_zero];grind
  ·rw[ih (by omega),Wu h];grind
def row0 (W n:Nat)(R:Nat->Nat->α)(k:Nat):Nat->α:=fun j=>if j<W then R k j else if j<W+n then (if j - W=k then 1 else 0) else 0
theorem spn_rel {W n:Nat}{R:Nat->Nat->α}{S:List (Nat->α)}(hS:∀ r∈S,∃ k,k<n/\r=row0 W n R k){v:Nat->α}(h:Spn S v):(∀ j,j<W->v j=sm n (fun i=>v (W+i)) R j)/\∀ j,W+n<=j->v j=0:=by
 induction h with
 | zero=>exact⟨fun j _=>sm_zero.symm,fun _ _=>rfl⟩
 | @add r v a hr _ ih=>
  obtain⟨k,hk,rfl⟩:=hS r hr;refine⟨fun j hj=>?_,fun j hj=>?_⟩
  ·show a*row0 W n R k j+v j=_
   rw[sm_lin (n:=n) a (d:=fun i=>row0 W n R k (W+i)) (e:=fun i=>v (W+i)),<- ih.1 j hj]
   congr 1
   rw[sm_congr (n:=n) (d':=fun i=>if i=k then 1 else 0) (fun i hi=>?_) (fun i hi=>rfl),sm_unit hk]
   ·show a*(if j<W then R k j else _)=_
    rw[Wv hj]
   ·show (if W+i<W then R k (W+i) else if W+i<W+n then (if W+i - W=k then (1:α) else 0) else 0)=_
    rw[Wu (by omega),Wv (by omega),Z1]
  ·show a*(if j<W then R k j else if j<W+n then _ else 0)+v j=0
   rw[Wu (by omega),Wu (by omega),ih.2 j hj];grind
theorem spn_row0 {W n:Nat}{R:Nat->Nat->α}(d:Nat->α):∀ m,m<=n->Spn ((Yj n).map (row0 W n R)) fun j=>sm m d (row0 W n R) j
 | 0,_=>.zero
 | m+1,hm=>(Spn.add (d m) (List.mem_map.mpr ⟨m,List.mem_range.mpr (by omega),rfl⟩) (spn_row0 d m (by omega))).of fun j=>by
   show d m*row0 W n R m j+sm m d (row0 W n R) j=sm m d (row0 W n R) j+d m*row0 W n R m j
   grind
theorem sm_row0 {W n:Nat}{R:Nat->Nat->α}{d:Nat->α}:(∀ j,j<W->sm n d (row0 W n R) j=sm n d R j)/\(∀ i,i<n->sm n d (row0 W n R) (W+i)=d i)/\∀ j,W+n<=j->sm n d (row0 W n R) j=0:=by
 refine⟨fun j hj=>sm_congr (fun i _=>rfl) fun i _=>by show (if j<W then R i j else _)=_;rw[Wv hj],fun i hi=>?_,fun j hj=>?_⟩
 ·have e:∀ m,m<=n->sm m d (row0 W n R) (W+i)=if i<m then d i else 0:=by
   intro m;induction m with
   | zero=>intro _;rw[Wu (by omega)];rfl
   | succ m ih=>
    intro hm;show sm m d (row0 W n R) (W+i)+d m*(if W+i<W then R m (W+i) else if W+i<W+n then (if W+i - W=m then (1:α) else 0) else 0)=_
    rw[ih (by omega),Wu (show ¬ W+i<W by omega),Wv (show W+i<W+n by omega),Z1]
    by_cases h1:i=m
    ·subst h1
     rw[Wu (show ¬ i<i by omega),Wv rfl,Wv (show i<i+1 by omega)];grind
    ·rw[Wu h1]
     by_cases h2:i<m
     ·rw[Wv h2,Wv (show i<m+1 by omega)];grind
     ·rw[Wu h2,Wu (show ¬ i<m+1 by omega)];grind
  rw[e n (Yd n),Wv hi]
 ·have:sm n d (row0 W n R) j=sm n d (fun _ _=>0) j:=sm_congr (fun i _=>rfl) fun i _=>by
   show (if j<W then R i j else if j<W+n then _ else 0)=0
   rw[Wu (by omega),Wu (by omega)]
  rw[this];have z:∀ m,sm m d (fun _ _=>(0:α)) j=0:=fun m=>by
   induction m with
   | zero=>rfl
   | succ m ih=>show sm m d (fun _ _=>(0:α)) j+d m*0=0;rw[ih];grind
  exact z n
structure Krn (W n:Nat)(R:Nat->Nat->α)(k:Nat)(S:List (Nat->α)):Prop where
 sub:∀ r∈S,Spn ((Yj n).map (row0 W n R)) r
 nil:∀ r∈S,∀ j,j<k->r j=0
 all:∀ v,Spn ((Yj n).map (row0 W n R)) v->(∀ j,j<k->v j=0)->Spn S v
theorem Krn.start {W n:Nat}{R:Nat->Nat->α}:Krn W n R 0 ((Yj n).map (row0 W n R)):=⟨fun r h=>.mem h,fun r _ j hj=>W1 hj (Zl _),fun v h _=>h⟩
theorem Krn.skip {W n k:Nat}{R:Nat->Nat->α}{S:List (Nat->α)}(h:Krn W n R k S)(h0:∀ r∈S,r k=0):Krn W n R (k+1) S:=
 ⟨h.sub,fun r hr j hj=>by
  by_cases e:j=k
  ·rw[e];exact h0 r hr
  ·exact h.nil r hr j (by omega),fun v hv h1=>h.all v hv fun j hj=>h1 j (by omega)⟩
theorem Krn.step {W n k:Nat}{R:Nat->Nat->α}{S S':List (Nat->α)}{r s0:Nat->α}{b:α}(h:Krn W n R k S)(h0:s0∈S)(e0:∀ i,r i=b*s0 i)(e1:r k=1)(hs:∀ s∈S,s=s0\/(fun i=>s i - s k*r i)∈S')(hs':∀ t∈S',∃ s∈S,t=fun i=>s i - s k*r i):Krn W n R (k+1) S':=by
 refine⟨fun t ht=>?_,fun t ht j hj=>?_,fun v hv h1=>?_⟩
 ·obtain⟨s,hs,rfl⟩:=hs' t ht
  exact (Spn.back e0 h0 hs).trans h.sub
 ·obtain⟨s,hs,rfl⟩:=hs' t ht
  show s j - s k*r j=0
  by_cases e:j=k
  ·rw[e,e1];grind
  ·rw[e0 j,h.nil s hs j (by omega),h.nil s0 h0 j (by omega)];grind
 ·have:=(h.all v hv fun j hj=>h1 j (by omega)).step e0 e1 hs
  refine this.of fun i=>?_
  rw[h1 k (by omega)];grind
theorem Krn.done {W n:Nat}{R:Nat->Nat->α}{S:List (Nat->α)}(h:Krn W n R W S):(∀ r∈S,∀ j,j<W->sm n (fun i=>r (W+i)) R j=0)/\∀ d:Nat->α,(∀ j,j<W->sm n d R j=0)->∃ v,Spn S v/\∀ i,i<n->v (W+i)=d i:=by
 refine⟨fun r hr j hj=>?_,fun d hd=>?_⟩
 ·have:=(spn_rel (W:=W) (n:=n) (R:=R) (fun r hr=>by obtain⟨k,hk,e⟩:=List.mem_map.mp hr;exact⟨k,List.mem_range.mp hk,e.symm⟩) (h.sub r hr)).1 j hj
  rw[<- this];exact h.nil r hr j hj
 ·obtain⟨a,b,_⟩:=sm_row0 (W:=W) (n:=n) (R:=R) (d:=d)
  exact⟨_,h.all _ (spn_row0 d n (Yd n)) fun j hj=>by rw[a j hj];exact hd j hj,b⟩
end
end Alg
namespace L2
open PySem Alg
end L2
namespace Alg
open Lean.Grind
end Alg
namespace L2
open PySem Alg
end L2
namespace Alg
open Lean.Grind
section
variable {α:Type} [CommRing α]
theorem nt_mod {p:Nat}(hc:nt α p=0)(k:Nat):nt α (k % p)=nt α k:=by
 have h:=Nat.div_add_mod k p;have h2:nt α k=nt α (p*(k / p)+k % p):=by rw[h]
 rw[h2,nt_add,nt_mul,hc];grind
end
end Alg
namespace L2
open PySem Alg
end L2
namespace L2
open PySem Alg
abbrev Zt (T:Twr):Type:=(ground T.p T.pr).α
def zv {T:Twr}(x:Zt T):Nat:=(show Zp T.p from x).v
section
variable {T:Twr} {F:T.α->Nat->Zt T}
theorem nt_zv (z:Zt T):Alg.nt (Zt T) (zv z)=z:=by
 apply Zp.ext
 show (letI:=zring (pr_pos T.pr).1;Alg.nt (Zp T.p) (zv z):Zp T.p).v=(show Zp T.p from z).v
 rw[zv_nt];exact Zn (show Zp T.p from z).lt
end
end L2
namespace Alg
open Lean.Grind
abbrev Vc:=Nat->Int
def Gq (S:List Vc)(m:Int)(q:Nat)(v:Vc):Prop:=(∀ j,q<=j->v j=0)/\∃ u z:Vc,Spn S u/\∀ j,v j=u j+m*z j
theorem Gq.zero {S:List Vc}{m:Int}{q:Nat}:Gq S m q fun _=>0:=⟨fun _ _=>rfl,_,fun _=>0,.zero,fun j=>by show (0:Int)=0+m*0;omega⟩
theorem Gq.lin {S:List Vc}{m:Int}{q:Nat}(a:Int){v w:Vc}(h:Gq S m q v)(k:Gq S m q w):Gq S m q fun j=>a*v j+w j:=by
 obtain⟨h0,u,z,hu,e⟩:=h;obtain⟨k0,u',z',hu',e'⟩:=k;exact⟨fun j hj=>by show a*v j+w j=0;rw[h0 j hj,k0 j hj];omega,_,fun j=>a*z j+z' j,(hu.smul a).plus hu',fun j=>by show a*v j+w j=a*u j+u' j+m*(a*z j+z' j);rw[e j,e' j];grind⟩
theorem Gq.of {S:List Vc}{m:Int}{q:Nat}{v w:Vc}(h:Gq S m q v)(e:∀ j,v j=w j):Gq S m q w:=by rw[<- funext e];exact h
theorem Gq.mem {S:List Vc}{m:Int}{q:Nat}{r:Vc}(h:r∈S)(h0:∀ j,q<=j->r j=0):Gq S m q r:=⟨h0,r,fun _=>0,.mem h,fun j=>by show r j=r j+m*0;omega⟩
theorem Gq.modl {S:List Vc}{m:Int}{q:Nat}{v w z:Vc}(h:Gq S m q v)(w0:∀ j,q<=j->w j=0)(e:∀ j,w j=v j+m*z j):Gq S m q w:=by
 obtain⟨h0,u,z',hu,e'⟩:=h;exact⟨w0,u,fun j=>z j+z' j,hu,fun j=>by rw[e j,e' j];grind⟩
theorem Gq.unit {S:List Vc}{m:Int}{q k:Nat}(hk:k<q):Gq S m q fun j=>if j=k then m else 0:=by
 refine (Gq.zero (S:=S) (m:=m) (q:=q)).modl (z:=fun j=>if j=k then 1 else 0) (fun j hj=>Wu (by omega)) fun j=>?_
 by_cases e:j=k
 ·simp[e]
 ·simp[e]
theorem Gq.sm {S:List Vc}{m:Int}{q:Nat}{c:Vc}{T:Nat->Vc}:∀ n,(∀ i,i<n->Gq S m q (T i))->Gq S m q fun j=>sm n c T j
 | 0,_=>.zero
 | n+1,h=>((h n (by omega)).lin (c n) (Gq.sm n fun i hi=>h i (by omega))).of fun j=>by
   show c n*T n j+Alg.sm n c T j=Alg.sm n c T j+c n*T n j
   omega
theorem Spn.lead {S S':List Vc}{lead:Vc}{m:Int}(h:∀ r∈S,∃ r'∈S',∃ (o:Int) (w:Vc),∀ j,r j=r' j+o*lead j+m*w j){u:Vc}(hu:Spn S u):∃ (A:Int) (u' w:Vc),Spn S' u'/\∀ j,u j=A*lead j+u' j+m*w j:=by
 induction hu with
 | zero=>exact⟨0,_,fun _=>0,.zero,fun j=>by show (0:Int)=0*lead j+0+m*0;grind⟩
 | @add r v a hr _ ih=>
  obtain⟨r',hr',o,w,e⟩:=h r hr;obtain⟨A,u',w',hu',e'⟩:=ih;exact⟨a*o+A,_,fun j=>a*w j+w' j,.add a hr' hu',fun j=>by show a*r j+v j=(a*o+A)*lead j+(a*r' j+u' j)+m*(a*w j+w' j);rw[e j,e' j];grind⟩
theorem Gq.step {S S':List Vc}{lead:Vc}{m t:Int}{q:Nat}(hs:∀ r∈S,∃ r'∈S',∃ (o:Int) (w:Vc),∀ j,r j=r' j+o*lead j+m*w j)(hx:∃ x∈S',∃ w:Vc,∀ j,t*lead j=x j+m*w j)(hl:t*lead q=m)(hup:∀ j,q+1<=j->lead j=0)(h0:∀ r∈S',∀ j,q<=j->r j=0)(m0:m≠0){g:Vc}(hg:Gq S m (q+1) g):∃ (a:Int) (g':Vc),Gq S' m q g'/\∀ j,g j=a*lead j+g' j:=by
 obtain⟨gz,u,z,hu,eg⟩:=hg;obtain⟨A,u',w,hu',eu⟩:=hu.lead hs;obtain⟨x,xs,wx,ex⟩:=hx;have w1:wx q=1:=by
  have:=ex q
  rw[hl,h0 x xs q (Yd q),Z4] at this;have e:m*(wx q - 1)=0:=by grind
  rcases Int.mul_eq_zero.mp e with y | y
  ·exact W1 y m0
  ·omega
 have eg':∀ j,g j=(A+(w q+z q)*t)*lead j+(u' j - (w q+z q)*x j+m*(w j+z j - (w q+z q)*wx j)):=fun j=>by
  have:=ex j
  rw[eg j,eu j];grind
 refine⟨A+(w q+z q)*t,_,⟨fun j hj=>?_,fun j=>u' j - (w q+z q)*x j,fun j=>w j+z j - (w q+z q)*wx j,(Spn.add (-(w q+z q)) xs hu').of fun j=>by show -(w q+z q)*x j+u' j=u' j - (w q+z q)*x j;grind,fun j=>rfl⟩,eg'⟩
 by_cases e:j=q
 ·subst e
  show u' j - (w j+z j)*x j+m*(w j+z j - (w j+z j)*wx j)=0
  rw[w1,h0 x xs j (Yd j),hu'.nought fun r hr=>h0 r hr j (Yd j)];grind
 ·have h1:=eg' j
  rw[gz j (by omega),hup j (by omega)] at h1
  grind
theorem sm_terms {n:Nat}{d d':Vc}{R R':Nat->Vc}{j:Nat}(h:∀ i,i<n->d i*R i j=d' i*R' i j):sm n d R j=sm n d' R' j:=by
 induction n with
 | zero=>rfl
 | succ n ih=>
  show sm n d R j+d n*R n j=sm n d' R' j+d' n*R' n j
  rw[ih fun i hi=>h i (by omega),h n (by omega)]
theorem sm_put {n q:Nat}(hq:q<n){c:Vc}(c0:c q=0){T:Nat->Vc}{lead:Vc}{a:Int}(j:Nat):sm n (fun i=>if i=q then a else c i) (fun i=>if i=q then lead else T i) j=sm n c T j+a*lead j:=by
 induction n with
 | zero=>omega
 | succ n ih=>
  show sm n _ _ j+(if n=q then a else c n)*(if n=q then lead else T n) j=sm n c T j+c n*T n j+a*lead j
  by_cases e:n=q
  ·rw[Wv e,Wv e,sm_terms (d':=c) (R':=T) fun i hi=>by
    show (if i=q then a else c i)*(if i=q then lead else T i) j=_
    rw[Wu (by omega),Wu (by omega)]]
   rw[e,c0];grind
  ·rw[Wu e,Wu e,ih (by omega)];grind
structure Tri (n:Nat)(R:List Vc)(m:Int)(q:Nat)(T:Nat->Vc)(S:List Vc):Prop where
 low:∀ r∈S,∀ j,q<=j->r j=0
 sub:∀ r∈S,Gq R m n r
 told:∀ i,q<=i->i<n->Gq R m n (T i)
 tri:∀ i,q<=i->i<n->∀ j,i<j->T i j=0
 all:∀ v,Gq R m n v->∃ c g:Vc,(∀ i,i<q->c i=0)/\Gq S m q g/\∀ j,v j=sm n c T j+g j
theorem Tri.step {n q:Nat}{R S S':List Vc}{m t:Int}{T:Nat->Vc}{lead:Vc}(h:Tri n R m (q+1) T S)(hq:q<n)(m0:m≠0)
  (hlead:Gq R m n lead) (hup:∀ j,q+1<=j->lead j=0) (hl:t*lead q=m)
  (hs:∀ r∈S,∃ r'∈S',∃ (o:Int) (w:Vc),∀ j,r j=r' j+o*lead j+m*w j) (hx:∃ x∈S',∃ w:Vc,∀ j,t*lead j=x j+m*w j)
  (hb:∀ r'∈S',(∃ r∈S,∃ (o:Int) (w:Vc),∀ j,r j=r' j+o*lead j+m*w j)\/∃ w:Vc,∀ j,t*lead j=r' j+m*w j) (h0:∀ r∈S',∀ j,q<=j->r j=0):Tri n R m q (fun i=>if i=q then lead else T i) S':=by
 refine⟨h0,fun r' hr'=>?_,fun i hi hn=>?_,fun i hi hn j hj=>?_,fun v hv=>?_⟩
 ·rcases hb r' hr' with ⟨r,hr,o,w,e⟩ | ⟨w,e⟩
  ·exact (hlead.lin (-o) (h.sub r hr)).modl (z:=fun j=>-w j) (fun j hj=>h0 r' hr' j (by omega)) fun j=>by have:=e j;grind
  ·exact (hlead.lin t Gq.zero).modl (z:=fun j=>-w j) (fun j hj=>h0 r' hr' j (by omega)) fun j=>by have:=e j;grind
 ·by_cases e:i=q
  ·rw[Wv e];exact hlead
  ·rw[Wu e];exact h.told i (by omega) hn
 ·by_cases e:i=q
  ·rw[Wv e];exact hup j (by omega)
  ·rw[Wu e];exact h.tri i (by omega) hn j hj
 ·obtain⟨c,g,c0,hg,e⟩:=h.all v hv
  obtain⟨a,g',hg',e'⟩:=hg.step hs hx hl hup h0 m0;refine⟨fun i=>if i=q then a else c i,g',fun i hi=>?_,hg',fun j=>?_⟩
  ·show (if i=q then a else c i)=0
   rw[Wu (by omega)];exact c0 i (by omega)
  ·rw[sm_put hq (c0 q (by omega)) j,e j,e' j];omega
theorem Tri.start {n:Nat}{R:List Vc}{m:Int}{T:Nat->Vc}{S:List Vc}(h1:∀ r∈S,Gq R m n r)(h2:∀ r∈R,∃ r'∈S,∃ w:Vc,∀ j,r j=r' j+m*w j):Tri n R m n T S:=by
 refine⟨fun r hr=>(h1 r hr).1,h1,fun i hi hn=>by omega,fun i hi hn=>by omega,fun v hv=>⟨fun _=>0,v,fun _ _=>rfl,?_,fun j=>by rw[sm_zero];omega⟩⟩
 obtain⟨v0,u,z,hu,e⟩:=hv;obtain⟨A,u',w,hu',eu⟩:=hu.lead (S':=S) (lead:=fun _=>0) (m:=m) fun r hr=>by
  obtain⟨r',hr',w,e⟩:=h2 r hr;exact⟨r',hr',0,w,fun j=>by rw[e j];omega⟩
 exact⟨v0,u',fun j=>w j+z j,hu',fun j=>by rw[e j,eu j];grind⟩
structure Stair (n:Nat)(T:Nat->Vc):Prop where
 tri:∀ i,i<n->∀ j,i<j->T i j=0
 nz:∀ i,i<n->T i i≠0
def InS (n:Nat)(T:Nat->Vc)(v:Vc):Prop:=∃ c:Vc,∀ j,v j=sm n c T j
theorem Tri.done {n:Nat}{R S:List Vc}{m:Int}{T:Nat->Vc}(h:Tri n R m 0 T S){v:Vc}:Gq R m n v↔InS n T v:=by
 refine⟨fun hv=>?_,fun ⟨c,e⟩=>(Gq.sm n fun i hi=>h.told i (by omega) hi).of fun j=>(e j).symm⟩
 obtain⟨c,g,_,hg,e⟩:=h.all v hv;exact⟨c,fun j=>by rw[e j,hg.1 j (by omega)];omega⟩
theorem sm_low {n q j:Nat}{c:Vc}{T:Nat->Vc}(hT:∀ i,i<n->T i j=0):sm n c T j=0:=by
 induction n with
 | zero=>rfl
 | succ n ih=>
  show sm n c T j+c n*T n j=0
  rw[ih fun i hi=>hT i (by omega),hT n (by omega)];omega
theorem Stair.at_ {n:Nat}{T:Nat->Vc}(h:Stair n T)(c:Vc){q:Nat}(hq:q<n):sm (q+1) c T q=c q*T q q:=by
 show sm q c T q+c q*T q q=_
 rw[sm_low (q:=q) fun i hi=>h.tri i (by omega) q hi];omega
theorem Stair.uniq {n:Nat}{T:Nat->Vc}(h:Stair n T):∀ q,q<=n->∀ {c c':Vc},(∀ j,sm q c T j=sm q c' T j)->∀ i,i<q->c i=c' i
 | 0,_,c,c',_,i,hi=>by omega
 | q+1,hq,c,c',e,i,hi=>by
  have e1:c q=c' q:=by
   have:=e q
   rw[h.at_ c (by omega),h.at_ c' (by omega)] at this
   exact Int.eq_of_mul_eq_mul_right (h.nz q (by omega)) this
  by_cases y:i=q
  ·rw[y];exact e1
  ·refine Stair.uniq h q (by omega) (fun j=>?_) i (by omega)
   have h1:sm q c T j+c q*T q j=sm q c' T j+c' q*T q j:=e j;rw[e1] at h1;omega
theorem InS.lin {n:Nat}{T:Nat->Vc}(a:Int){v w:Vc}(h:InS n T v)(k:InS n T w):InS n T fun j=>a*v j+w j:=by
 obtain⟨c,e⟩:=h;obtain⟨d,e'⟩:=k;exact⟨fun i=>a*c i+d i,fun j=>by show a*v j+w j=_;rw[sm_lin,e j,e' j]⟩
theorem InS.of {n:Nat}{T:Nat->Vc}{v w:Vc}(h:InS n T v)(e:∀ j,v j=w j):InS n T w:=by rw[<- funext e];exact h
theorem InS.row {n:Nat}{T:Nat->Vc}{i:Nat}(hi:i<n):InS n T (T i):=⟨fun k=>if k=i then 1 else 0,fun j=>(sm_unit hi).symm⟩
theorem InS.zero {n:Nat}{T:Nat->Vc}:InS n T fun _=>0:=⟨fun _=>0,fun j=>sm_zero.symm⟩
theorem InS.sm {n:Nat}{T:Nat->Vc}{c:Vc}{U:Nat->Vc}:∀ k,(∀ i,i<k->InS n T (U i))->InS n T fun j=>sm k c U j
 | 0,_=>.zero
 | k+1,h=>((h k (by omega)).lin (c k) (InS.sm k fun i hi=>h i (by omega))).of fun j=>by
   show c k*U k j+Alg.sm k c U j=Alg.sm k c U j+c k*U k j
   omega
theorem Stair.cut {n:Nat}{T:Nat->Vc}(h:Stair n T){v:Vc}{q:Nat}(hv:InS n T v)(v0:∀ j,q<=j->v j=0)(hq:q<=n):∃ c:Vc,∀ j,v j=sm q c T j:=by
 obtain⟨c,e⟩:=hv;have key:∀ k,q<=k->k<=n->(∀ j,v j=sm k c T j)->∃ c:Vc,∀ j,v j=sm q c T j:=by
  intro k;induction k with
  | zero=>
   intro h1 _ e;have h5:q=0:=by omega
   rw[h5];exact⟨c,e⟩
  | succ k ih=>
   intro h1 h2 e;by_cases y:q=k+1
   ·subst y;exact⟨c,e⟩
   ·refine ih (by omega) (by omega) fun j=>?_
    have h3:=e k;rw[v0 k (by omega),h.at_ c (by omega)] at h3
    rcases Int.mul_eq_zero.mp h3.symm with z | z
    ·rw[e j]
     show Alg.sm k c T j+c k*T k j=_
     rw[z];omega
    ·exact W1 z (h.nz k (by omega))
 exact key n hq (Yd n) e
theorem Stair.dvd {n:Nat}{T U:Nat->Vc}(hT:Stair n T)(hU:Stair n U)(sub:∀ i,i<n->InS n T (U i)){i:Nat}(hi:i<n):T i i ∣ U i i:=by
 obtain⟨c,e⟩:=hT.cut (q:=i+1) (sub i hi) (fun j hj=>hU.tri i hi j (by omega)) (by omega)
 have:=e i
 rw[hT.at_ c hi] at this;exact⟨c i,by rw[this,Zu]⟩
theorem Stair.same {n:Nat}{T U:Nat->Vc}(hT:Stair n T)(hU:Stair n U)(sub:∀ i,i<n->InS n T (U i))(eq:∀ i,i<n->U i i=T i i):∀ i,i<n->InS n U (T i):=by
 have key:∀ k,∀ i,i<k->i<n->InS n U (T i):=by
  intro k;induction k with
  | zero=>intro i hi;omega
  | succ k ih=>
   intro i hik hi;by_cases y:i<k
   ·exact ih i y hi
   obtain rfl:i=k:=by omega
   obtain⟨c,e⟩:=hT.cut (q:=i+1) (sub i hi) (fun j hj=>hU.tri i hi j (by omega)) (by omega)
   have c1:c i=1:=by
    have:=e i
    rw[hT.at_ c hi,eq i hi] at this;have z:=hT.nz i hi;have:(c i - 1)*T i i=0:=by grind
    rcases Int.mul_eq_zero.mp this with y | y
    ·omega
    ·exact W1 y z
   refine (InS.lin (-1) (InS.sm (c:=c) (U:=T) i fun k hk=>ih k hk (by omega)) (InS.row (T:=U) hi)).of fun j=>?_
   have h3:U i j=Alg.sm i c T j+c i*T i j:=e j;rw[c1] at h3;omega
 exact fun i hi=>key n i hi hi
end Alg
namespace L2
open PySem PySem.Spec PyProof.Rows Alg
def rE (n:Nat)(v:Vc):El:=vecN n fun j=>.num (v j)
def mE (r c:Nat)(A:Nat->Vc):El:=vecN r fun i=>rE c (A i)
def tE (r c d:Nat)(A:Nat->Nat->Vc):El:=vecN r fun i=>mE c d (A i)
def lv (n:Nat)(v:Vc):List Int:=(Yj n).map v
theorem lv_len (n:Nat)(v:Vc):(lv n v).length=n:=by unfold lv;rw[Ya,Yg]
theorem lv_get {n:Nat}{v:Vc}{j:Nat}(h:j<n):(lv n v)[j]?=some (v j):=by unfold lv;rw[Ye,Yu h];rfl
theorem lv_coef (n:Nat)(v:Vc)(j:Nat):coef (lv n v) j=if j<n then v j else 0:=by
 unfold coef;by_cases h:j<n
 ·rw[Wv h,Yb,lv_get h];rfl
 ·rw[Wu h,Yb,List.getElem?_eq_none_iff.mpr (by rw[lv_len];omega)];rfl
theorem vecN_congr {n:Nat}{e d:Nat->El}(h:∀ i,i<n->e i=d i):vecN n e=vecN n d:=by
 unfold vecN;congr 1
 exact Wb fun i hi=>h i (List.mem_range.mp hi)
theorem rE_congr {n:Nat}{v w:Vc}(h:∀ j,j<n->v j=w j):rE n v=rE n w:=vecN_congr fun j hj=>by rw[h j hj]
theorem rE_vs {n:Nat}{v:Vc}{H:Hp}{ok:Addr->Prop}{l:Addr}(h:H l=some (.lst ((lv n v).map V.int)))(k:ok l):Rep H ok (.ref l) (rE n v):=by
 refine Cf.rep (vs:=(lv n v).map V.int) ⟨by rw[Ya,lv_len],fun i hi=>⟨.int (v i),by rw[Ye,lv_get hi];rfl,.num _⟩⟩ h k
theorem rep_num {H:Hp}{ok:Addr->Prop}{v:V}{n:Int}(h:Rep H ok v (.num n)):v=.int n:=by cases h;rfl
theorem vs_rE {n:Nat}{v:Vc}{H:Hp}{ok:Addr->Prop}{x:V}(h:Rep H ok x (rE n v)):∃ l,x=.ref l/\H l=some (.lst ((lv n v).map V.int))/\ok l:=by
 obtain⟨l,vs,rfl,hl,k,C⟩:=h.cf;refine⟨l,rfl,?_,k⟩
 have:vs=(lv n v).map V.int:=by
  refine Zi fun i=>?_
  by_cases hi:i<n
  ·obtain⟨y,h1,r⟩:=C.at_ i hi
   rw[h1,Ye,lv_get hi,rep_num r];rfl
  ·rw[List.getElem?_eq_none_iff.mpr (by rw[C.len];omega),List.getElem?_eq_none_iff.mpr (by rw[Ya,lv_len];omega)]
 rw[<- this];exact hl
theorem lv_at {n j:Nat}{v:Vc}(h:j<n):atI ((lv n v).map V.int) (j:Int)=some (.int (v j)):=atI_nat (by rw[Ye,lv_get h];rfl)
section
variable {K:FrQ} {D:Addr} {st:St} {g:TG} {te:TE} {H1:Hp} {Q:VK} {n:Nat}
theorem cmpL {a:Addr}{xs:List V}(e:Nat->El)(hn:xs.length=n)(h:H1 a=some (.lst xs))(hD:H1 D=none)(hz:n<=1000)
  (hs:∀ i x H2 (Q2:VK),i<n->Same H1 H2->xs[i]?=some x->(∀ r H3,Same H2 H3->Rep H3 (NewB H2) r (e i)->Q2 r H3)->g x st H2 fun σ3 H3=>te σ3 H3 Q2)
  (q:∀ H2,Same H1 H2->Rep H2 (NewB H1) (.ref D) (vecN n e)->Q (.ref D) H2):compW (Itl K a) D st g tAll te Q H1:=by
 refine comp_list (xs:=xs) (fun i ys H2=>Same H1 H2/\Cf H2 (Off H1 D) ys i e) ⟨same_new hD _,.nil⟩ (fun i ys H2 _ h'=>SqL.of (h'.1 _ _ h)) ?_ ?_
 ·rintro i m x ys H2 hm hi hx hy hlen ⟨gg,cy⟩
  refine hs i x H2 _ (by omega) gg hx fun r H3 g3 rr=>?_
  exact CW.emit hm hi (by rw[sizeLine_eq];omega) (g3 _ _ hy) hlen ⟨Same.free_upd (gg.trans g3) hD _,((cy.same g3).push (rr.offN gg hy)).upd⟩
 ·rintro ys H2 hy ⟨gg,cy⟩
  rw[hn] at cy;exact q H2 gg (cy.newB.rep hy hD)
theorem cmpR {lo:Int}(e:Nat->El)(hD:H1 D=none)(hz:n<=1000)
  (hs:∀ i H2 (Q2:VK),i<n->Same H1 H2->(∀ r H3,Same H2 H3->Rep H3 (NewB H2) r (e i)->Q2 r H3)->g (.int (lo+(i:Int))) st H2 fun σ3 H3=>te σ3 H3 Q2)
  (q:∀ H2,Same H1 H2->Rep H2 (NewB H1) (.ref D) (vecN n e)->Q (.ref D) H2):compW (Itr lo n) D st g tAll te Q H1:=by
 refine comp_range (fun i ys H2=>Same H1 H2/\Cf H2 (Off H1 D) ys i e) ⟨same_new hD _,.nil⟩ ?_ ?_
 ·rintro i m ys H2 hm hi hy hlen ⟨gg,cy⟩
  refine hs i H2 _ hi gg fun r H3 g3 rr=>?_
  exact CW.emit hm hi (by rw[sizeLine_eq];omega) (g3 _ _ hy) hlen ⟨Same.free_upd (gg.trans g3) hD _,((cy.same g3).push (rr.offN gg hy)).upd⟩
 ·rintro ys H2 hy ⟨gg,cy⟩
  exact q H2 gg (cy.newB.rep hy hD)
theorem cmpZ {a b:Addr}{xs ys:List V}(e:Nat->El)(hn:xs.length=n)(hm:ys.length=n)(ha:H1 a=some (.lst xs))(hb:H1 b=some (.lst ys))(hD:H1 D=none)(hz:n<=1000)
  (hs:∀ i x y t H2 (Q2:VK),i<n->Same H1 H2->xs[i]?=some x->ys[i]?=some y->H2 t=some (.tup [x,y])->(∀ r H3,Same H2 H3->Rep H3 (NewB H2) r (e i)->Q2 r H3)->g (.ref t) st H2 fun σ3 H3=>te σ3 H3 Q2)
  (q:∀ H2,Same H1 H2->Rep H2 (NewB H1) (.ref D) (vecN n e)->Q (.ref D) H2):compW (Itz K a b) D st g tAll te Q H1:=by
 refine comp_zip (xs:=xs) (ys:=ys) (fun i zs H2=>Same H1 H2/\Cf H2 (Off H1 D) zs i e) (by rw[hn,hm]) ⟨same_new hD _,.nil⟩ (fun i zs H2 _ h=>⟨SqL.of (h.1 _ _ ha),SqL.of (h.1 _ _ hb)⟩) ?_ ?_
 ·rintro i m x y zs H2 r hm hi hx hy hz' hlen ⟨gg,cz⟩ hr
  have kr:=same_new hr (.tup [x,y]);refine hs i x y r _ _ (by omega) (gg.trans kr) hx hy upd_same fun r2 H3 g3 rr=>?_
  exact CW.emit hm hi (by rw[sizeLine_eq];omega) (g3 _ _ (kr _ _ hz')) hlen ⟨Same.free_upd ((gg.trans kr).trans g3) hD _,((cz.same (kr.trans g3)).push (rr.offN (gg.trans kr) (kr _ _ hz'))).upd⟩
 ·rintro zs H2 hz' ⟨gg,cz⟩
  rw[hn] at cz;exact q H2 gg (cz.newB.rep hz' hD)
end
end L2
namespace L2
open PySem PySem.Spec PyProof.Rows
section
variable {X:Cx}
def rSum (K:FrQ):List V->Hp->VK->Prop:=fun xs H Q=>∃ p,∃ ns:List Int,xs=[.ref p]/\SqL K H p (ns.map V.int)/\Q (.int ns.sum) H
theorem preSum_sum {ys:Array (Int×Tok)}{ns:List Int}(e2:ys.toList.map (·.1)=ns):preSum (numAt ys) ys.size=ns.sum:=by
 have key:∀ n,n<=ns.length->preSum (numAt ys) n=(ns.take n).sum:=by
  intro n;induction n with
  | zero=>intro _;simp[preSum]
  | succ n ih=>
   intro h;rw[List.take_succ_eq_append_getElem (by omega),List.sum_append,<- ih (by omega)]
   show preSum (numAt ys) n+numAt ys n=_
   rw[numAt_coef e2,coef_lt (by omega)]
   simp
 have hsz:ys.size=ns.length:=by rw[<- e2];simp
 rw[hsz,key _ (Yd _),List.take_length]
theorem call_sum (hc:X.calm=true):CallR X (.builtin "sum") (rSum X.K):=by
 intro pins s σ H xs us Q I rv h;obtain⟨p,ns,rfl,hq,q⟩:=h;obtain⟨u,rfl,ru⟩:=vals1 rv;cases (show u=Value.ref p from ru)
 obtain⟨its,r,hp,_⟩:=I.list hq;obtain⟨ys,e1,e2⟩:=ints_items r;have hl:=hp.isList;rw[e1] at hl;refine sum_intListG (I.ok.hd hc) hl fun h' tk t hk=>?_
 refine⟨.int _,H,I.kept (h':=h') (t':=tk) hk,⟨t,rfl⟩,?_⟩
 rw[preSum_sum e2];exact q
theorem callK_sum {K:FrQ}(h:X.K=K)(hc:X.calm=true):CallR X (.builtin "sum") (rSum K):=by subst h;exact call_sum hc
end
end L2
namespace L2
theorem prN_one {f:Nat->Int}:∀ {n:Nat},(∀ i,i<n->f i=1)->prN n f=1
 | 0,_=>rfl
 | n+1,h=>by
  show prN n f*f n=1
  rw[prN_one fun i hi=>h i (by omega),h n (by omega)];rfl
def dlt (i k:Nat):Int:=if k=i then 1 else 0
theorem det_dlt (n:Nat):det n dlt=1:=by
 rw[det_tri n dlt fun i j h _=>show dlt i j=0 from Wu (by omega)]
 exact prN_one fun i _=>Wv rfl
theorem sgm_one {f:Nat->Int}{k n:Nat}(hk:k<n)(h:∀ i,i<n->i≠k->f i=0):sgm n f=f k:=by rw[sgm_sumN,sumN_one hk h]
theorem sgm_add (f g:Nat->Int)(n:Nat):sgm n (fun i=>f i+g i)=sgm n f+sgm n g:=by rw[sgm_sumN,sgm_sumN,sgm_sumN,sumN_add]
theorem sgm_dltR {n c:Nat}(hc:c<n)(f:Nat->Int):sgm n (fun k=>f k*dlt k c)=f c:=by
 rw[sgm_one hc fun k _ hne=>by show f k*dlt k c=0;unfold dlt;rw[Wu (fun z=>hne z.symm),Y8]]
 show f c*dlt c c=f c
 unfold dlt;rw[Wv rfl,Wm]
end L2
namespace Alg
open Lean.Grind
section
variable {R:Type} [CommRing R]
def zc (R:Type)[CommRing R](k:Int):R:=@IntCast.intCast R Ring.intCast k
theorem zc_add (a b:Int):zc R (a+b)=zc R a+zc R b:=Ring.intCast_add a b
theorem zc_mul (a b:Int):zc R (a*b)=zc R a*zc R b:=Ring.intCast_mul a b
theorem zc_neg (a:Int):zc R (-a)=-zc R a:=Ring.intCast_neg a
theorem zc_zero:zc R 0=0:=Ring.intCast_zero
theorem zc_one:zc R 1=1:=Ring.intCast_one
theorem zc_nat:∀ n:Nat,zc R (n:Int)=nt R n
 | 0=>zc_zero
 | n+1=>by
  rw[show ((n+1:Nat):Int)=(n:Int)+1 by omega,zc_add,zc_nat n,zc_one];rfl
structure SubR (O:R->Prop):Prop where
 one:O 1
 add {a b:R}:O a->O b->O (a+b)
 neg {a:R}:O a->O (-a)
 mul {a b:R}:O a->O b->O (a*b)
section
variable {O:R->Prop}
theorem SubR.zero (h:SubR O):O 0:=by
 have:=h.add h.one (h.neg h.one)
 rwa [show (1:R)+-1=0 by grind] at this
theorem SubR.pow (h:SubR O){a:R}(ha:O a):∀ n:Nat,O (a ^ n)
 | 0=>by rw[pw_zero];exact h.one
 | n+1=>by rw[pw_succ];exact h.mul (h.pow ha n) ha
theorem SubR.nt (h:SubR O):∀ n:Nat,O (nt R n)
 | 0=>h.zero
 | n+1=>h.add (h.nt n) h.one
theorem SubR.zc (h:SubR O)(k:Int):O (zc R k):=by
 rcases Int.le_total 0 k with y | y
 ·obtain⟨n,rfl⟩:=Zc y
  rw[zc_nat];exact h.nt n
 ·obtain⟨n,e⟩:=Zc (show 0<=-k by omega)
  rw[show k=-(n:Int) by omega,zc_neg,zc_nat];exact h.neg (h.nt n)
def Cp (O:R->Prop)(p a b:R):Prop:=∃ w,O w/\a=b+p*w
variable {p:R}
theorem Cp.refl (h:SubR O)(a:R):Cp O p a a:=⟨0,h.zero,by grind⟩
theorem Cp.symm (h:SubR O){a b:R}:Cp O p a b->Cp O p b a:=fun ⟨w,hw,e⟩=>⟨-w,h.neg hw,by grind⟩
theorem Cp.trans (h:SubR O){a b c:R}:Cp O p a b->Cp O p b c->Cp O p a c:=fun ⟨w,hw,e⟩ ⟨v,hv,g⟩=>⟨w+v,h.add hw hv,by grind⟩
theorem Cp.add (h:SubR O){a b c d:R}:Cp O p a b->Cp O p c d->Cp O p (a+c) (b+d):=fun ⟨w,hw,e⟩ ⟨v,hv,g⟩=>⟨w+v,h.add hw hv,by grind⟩
theorem Cp.mul (h:SubR O){a b c d:R}(hb:O b)(hc:O c):Cp O p a b->Cp O p c d->Cp O p (a*c) (b*d):=fun ⟨w,hw,e⟩ ⟨v,hv,g⟩=>⟨w*c+b*v,h.add (h.mul hw hc) (h.mul hb hv),by grind⟩
theorem Cp.pow (h:SubR O){a b:R}(ha:O a)(hb:O b)(c:Cp O p a b):∀ n:Nat,Cp O p (a ^ n) (b ^ n)
 | 0=>by rw[pw_zero,pw_zero];exact .refl h _
 | n+1=>by rw[pw_succ,pw_succ];exact .mul h (h.pow hb n) ha (Cp.pow h ha hb c n) c
theorem hs_lastO (h:SubR O){x y:R}(hx:O x)(hy:O y)(p:Nat):∀ l:List Nat,(∀ c∈l,c % p=0)->Cp O (Alg.nt R p) (hs x y (l++[1])) (x ^ l.length)
 | [],_=>by
  show Cp O _ (Alg.nt R 1*y ^ 0+x*0) (x ^ 0)
  rw[pw_zero,pw_zero,nt_one,show (1:R)*1+x*0=1 by grind];exact .refl h _
 | c::l,hc=>by
  obtain⟨w,hw,e⟩:=hs_lastO h hx hy p l fun d hd=>hc d (Yy _ hd)
  obtain⟨k,hk⟩:=Nat.dvd_of_mod_eq_zero (hc c Y4);refine⟨Alg.nt R k*y ^ (l++[1]).length+x*w,h.add (h.mul (h.nt k) (h.pow hy _)) (h.mul hx hw),?_⟩
  show Alg.nt R c*y ^ (l++[1]).length+x*hs x y (l++[1])=x ^ (l.length+1)+_
  rw[e,hk,nt_mul,pw_succ];grind
theorem frobO (h:SubR O){p:Nat}(hp:p∈PR){x y:R}(hx:O x)(hy:O y):Cp O (Alg.nt R p) ((x+y) ^ p) (x ^ p+y ^ p):=by
 have h':=okrows p hp;unfold okrow at h';simp only[Bool.and_eq_true,beq_iff_eq,decide_eq_true_eq,Z3] at h'
 obtain⟨⟨⟨⟨h1,h2⟩,h3⟩,h4⟩,h5⟩:=h';rw[pow_hs];match e:row p,h1 with
 | c::t,h1=>
  rw[e] at h2 h3 h4;have c1:c=1:=by simpa using h1
  have tl:t.length=p:=by simpa using h4
  have tne:t≠[]:=by intro z;rw[z] at tl;simp at tl;omega
  have t2:t=t.dropLast++[1]:=by
   have:=List.dropLast_concat_getLast tne
   have gl:t.getLast tne=1:=by
    rw[List.getLast?_cons_of_ne_nil tne] at h2;rw[List.getLast?_eq_some_getLast tne] at h2;simpa using h2
   rw[gl] at this;exact this.symm
  have dl:t.dropLast.length+1=p:=by rw[List.length_dropLast];omega
  have h3:∀ d∈t.dropLast,d % p=0:=h3;obtain⟨w,hw,e⟩:=hs_lastO h hx hy p t.dropLast h3;refine⟨x*w,h.mul hx hw,?_⟩
  show Alg.nt R c*y ^ t.length+x*hs x y t=_
  rw[tl,c1,nt_one,t2,e];have:x*x ^ t.dropLast.length=x ^ p:=by
   rw[<- dl,pw_succ];grind
  grind
theorem pr_one {p:Nat}(hp:p∈PR):1<=p:=by
 have:∀ q∈PR,1<=q:=by decide
 exact this p hp
theorem fermN (h:SubR O){p:Nat}(hp:p∈PR):∀ n:Nat,Cp O (Alg.nt R p) (Alg.nt R n ^ p) (Alg.nt R n)
 | 0=>by show Cp O _ ((0:R) ^ p) 0;rw[zero_pw (pr_one hp)];exact .refl h _
 | n+1=>by
  refine (frobO h hp (h.nt n) h.one).trans h ?_
  rw[one_pw];exact (fermN h hp n).add h (.refl h _)
theorem fermZ (h:SubR O){p:Nat}(hp:p∈PR)(k:Int):Cp O (Alg.nt R p) (Alg.zc R k ^ p) (Alg.zc R k):=by
 rcases Int.le_total 0 k with y | y
 ·obtain⟨n,rfl⟩:=Zc y
  rw[zc_nat];exact fermN h hp n
 ·obtain⟨n,e⟩:=Zc (show 0<=-k by omega)
  rw[show k=-(n:Int) by omega,zc_neg,zc_nat]
  obtain⟨w,hw,e1⟩:=frobO h hp (h.nt n) (h.neg (h.nt n));obtain⟨v,hv,e2⟩:=fermN h hp n;rw[show Alg.nt R n+-Alg.nt R n=0 by grind,zero_pw (pr_one hp)] at e1
  exact⟨-w - v,by have:=h.add (h.neg hw) (h.neg hv);rwa [show -w+-v=-w - v by grind] at this,by grind⟩
def sR (n:Nat)(x:Vc)(o:Nat->R):R:=match n with
 | 0=>0
 | n+1=>sR n x o+zc R (x n)*o n
theorem sR_O (h:SubR O){x:Vc}{o:Nat->R}:∀ n,(∀ i,i<n->O (o i))->O (sR n x o)
 | 0,_=>h.zero
 | n+1,k=>h.add (sR_O h n fun i hi=>k i (by omega)) (h.mul (h.zc _) (k n (by omega)))
theorem sR_frob (h:SubR O){p:Nat}(hp:p∈PR){x:Vc}{o:Nat->R}:∀ n,(∀ i,i<n->O (o i))->Cp O (Alg.nt R p) (sR n x o ^ p) (sR n x fun i=>o i ^ p)
 | 0,_=>by show Cp O _ ((0:R) ^ p) 0;rw[zero_pw (pr_one hp)];exact .refl h _
 | n+1,k=>by
  refine (frobO h hp (sR_O h n fun i hi=>k i (by omega)) (h.mul (h.zc (x n)) (k n (by omega)))).trans h ?_
  refine (sR_frob h hp n fun i hi=>k i (by omega)).add h ?_
  rw[mul_pw];exact .mul h (h.zc _) (h.pow (k n (by omega)) p) (fermZ h hp (x n)) (.refl h _)
theorem sR_frobq (h:SubR O){p:Nat}(hp:p∈PR){x:Vc}{o:Nat->R}{n:Nat}(ho:∀ i,i<n->O (o i)):∀ d:Nat,Cp O (Alg.nt R p) (sR n x o ^ (p ^ d)) (sR n x fun i=>o i ^ (p ^ d))
 | 0=>by
  have:∀ z:R,z ^ (p ^ 0)=z:=fun z=>by
   rw[Nat.pow_zero];have:=pw_succ z 0
   rw[pw_zero] at this;grind
  simp only[this];exact .refl h _
 | d+1=>by
  have e:∀ z:R,z ^ (p ^ (d+1))=(z ^ (p ^ d)) ^ p:=fun z=>by rw[Z5,pw_mul]
  simp only[e]
  refine ((sR_frobq h hp ho d).pow h (h.pow (sR_O h n ho) _) (sR_O h n fun i hi=>h.pow (ho i hi) _) p).trans h ?_
  exact sR_frob h hp n fun i hi=>h.pow (ho i hi) _
def Idl (O:R->Prop)(p:R)(q:Nat)(a:R):Prop:=O a/\∃ w,O w/\a ^ q=p*w
theorem Idl.add (h:SubR O){p:Nat}(hp:p∈PR){d:Nat}{a b:R}(ha:Idl O (Alg.nt R p) (p ^ d) a)(hb:Idl O (Alg.nt R p) (p ^ d) b):Idl O (Alg.nt R p) (p ^ d) (a+b):=by
 obtain⟨oa,w,hw,e⟩:=ha;obtain⟨ob,v,hv,g⟩:=hb;have:=sR_frobq h hp (x:=fun _=>1) (o:=fun i=>if i=0 then a else b) (n:=2) (fun i hi=>by
  by_cases c:i=0
  ·rw[Wv c];exact oa
  ·rw[Wu c];exact ob) d
 obtain⟨u,hu,e1⟩:=this;have s2:∀ o:Nat->R,sR 2 (fun _=>1) o=o 0+o 1:=fun o=>by
  show (0:R)+zc R 1*o 0+zc R 1*o 1=_
  rw[zc_one];grind
 rw[s2,s2] at e1;simp only[Wv,Wu (show ¬ (1:Nat)=0 by decide)] at e1
 exact⟨h.add oa ob,w+v+u,h.add (h.add hw hv) hu,by rw[e1,e,g];grind⟩
theorem Idl.mul (h:SubR O){p:R}{q:Nat}{a b:R}(ha:Idl O p q a)(hb:O b):Idl O p q (b*a):=by
 obtain⟨oa,w,hw,e⟩:=ha;exact⟨h.mul hb oa,b ^ q*w,h.mul (h.pow hb q) hw,by rw[mul_pw,e];grind⟩
theorem Idl.neg (h:SubR O){p:R}{q:Nat}{a:R}(ha:Idl O p q a):Idl O p q (-a):=by
 have:=ha.mul h (h.neg h.one)
 rwa [show -1*a=-a by grind] at this
theorem Idl.own (h:SubR O){p:R}{q:Nat}(hq:1<=q)(hp:O p){a:R}(ha:O a):Idl O p q (p*a):=by
 obtain⟨k,rfl⟩:∃ k,q=k+1:=⟨q - 1,by omega⟩
 exact⟨h.mul hp ha,(p*a) ^ k*a,h.mul (h.pow (h.mul hp ha) k) ha,by rw[pw_succ];grind⟩
def Mlt (O:R->Prop)(p:R)(q:Nat)(a:R):Prop:=O (p*a)/\∀ b,Idl O p q b->Idl O p q (a*b)
theorem Mlt.of (h:SubR O){p:R}(hp:O p){q:Nat}{a:R}(ha:O a):Mlt O p q a:=⟨h.mul hp ha,fun b hb=>hb.mul h ha⟩
theorem Mlt.sub (h:SubR O){p:Nat}(hp:p∈PR)(d:Nat):SubR (Mlt O (Alg.nt R p) (p ^ d)) where
 one:=.of h (h.nt p) h.one
 add {a b} ha hb:=⟨by
   have:=h.add ha.1 hb.1
   rwa [show Alg.nt R p*a+Alg.nt R p*b=Alg.nt R p*(a+b) by grind] at this,fun c hc=>by
   have:=(ha.2 c hc).add h hp (hb.2 c hc)
   rwa [show a*c+b*c=(a+b)*c by grind] at this⟩
 neg {a} ha:=⟨by
   have:=h.neg ha.1
   rwa [show -(Alg.nt R p*a)=Alg.nt R p*-a by grind] at this,fun c hc=>by
   have:=(ha.2 c hc).neg h
   rwa [show -(a*c)=-a*c by grind] at this⟩
 mul {a b} ha hb:=⟨by
   have h1:=hb.2 _ (Idl.own h (Nat.pos_of_ne_zero fun z=>by
    have:=Zw (n:=d) (pr_one hp);omega) (h.nt p) h.one)
   have:=(ha.2 _ h1).1
   rwa [show a*(b*(Alg.nt R p*1))=Alg.nt R p*(a*b) by grind] at this,fun c hc=>by
   have:=ha.2 _ (hb.2 c hc)
   rwa [show a*(b*c)=a*b*c by grind] at this⟩
end
end
end Alg
namespace Alg
open Lean.Grind
section
variable {R:Type} [CommRing R]
structure Bas (n:Nat)(el:Vc->R):Prop where
 lin:∀ (a:Int) (v w:Vc),el (fun j=>a*v j+w j)=zc R a*el v+el w
 inj:∀ v w:Vc,el v=el w->∀ j,j<n->v j=w j
 sup:∀ v w:Vc,(∀ j,j<n->v j=w j)->el v=el w
def Of (el:Vc->R)(a:R):Prop:=∃ c,a=el c
def un (i:Nat):Vc:=fun j=>if j=i then 1 else 0
theorem sm_un {x:Vc}{j:Nat}:∀ m,sm m x un j=if j<m then x j else 0
 | 0=>by rw[Wu (by omega)];rfl
 | m+1=>by
  show sm m x un j+x m*(if j=m then 1 else 0)=_
  rw[sm_un m];by_cases e:j=m
  ·subst e;rw[Wu (by omega),Wv rfl,Wv (by omega)];omega
  ·rw[Wu e]
   by_cases h:j<m
   ·rw[Wv h,Wv (by omega)];omega
   ·rw[Wu h,Wu (by omega)];omega
theorem sm_assoc {n:Nat}{x:Vc}{t:Nat->Vc}{V:Nat->Vc}{k:Nat}:∀ a,sm a x (fun i k=>sm n (t i) V k) k=sm n (fun m=>sm a x t m) V k
 | 0=>(sm_zero (n:=n) (R:=V) (j:=k)).symm
 | a+1=>by
  show sm a x _ k+x a*sm n (t a) V k=sm n (fun m=>sm a x t m+x a*t a m) V k
  rw[sm_assoc a];have:=sm_lin (n:=n) (x a) (d:=t a) (e:=fun m=>sm a x t m) (R:=V) (j:=k)
  rw[show (fun m=>sm a x t m+x a*t a m)=fun m=>x a*t a m+sm a x t m from funext fun m=>by omega,this]
  omega
theorem sR_congr {x x':Vc}{o o':Nat->R}:∀ n,(∀ i,i<n->x i=x' i)->(∀ i,i<n->o i=o' i)->sR n x o=sR n x' o'
 | 0,_,_=>rfl
 | n+1,h,k=>by
  show sR n x o+zc R (x n)*o n=sR n x' o'+zc R (x' n)*o' n
  rw[sR_congr n (fun i hi=>h i (by omega)) (fun i hi=>k i (by omega)),h n (by omega),k n (by omega)]
theorem sR_mul {x:Vc}{o:Nat->R}(b:R):∀ n,b*sR n x o=sR n x fun i=>b*o i
 | 0=>by show b*0=0;grind
 | n+1=>by
  show b*(sR n x o+zc R (x n)*o n)=sR n x (fun i=>b*o i)+zc R (x n)*(b*o n)
  rw[<- sR_mul b n];grind
theorem sR_cp {O:R->Prop}(h:SubR O){p:R}{x:Vc}{o o':Nat->R}:∀ n,(∀ i,i<n->Cp O p (o i) (o' i))->(∀ i,i<n->O (o i))->Cp O p (sR n x o) (sR n x o')
 | 0,_,_=>.refl h _
 | n+1,k,l=>(sR_cp h n (fun i hi=>k i (by omega)) fun i hi=>l i (by omega)).add h (.mul h (h.zc _) (l n (by omega)) (.refl h _) (k n (by omega)))
theorem Idl.zero {O:R->Prop}(h:SubR O){p:R}{q:Nat}(hq:0<q):Idl O p q 0:=⟨h.zero,0,h.zero,by rw[zero_pw hq];grind⟩
theorem sR_idl {O:R->Prop}(h:SubR O){p:Nat}(hp:p∈PR){d:Nat}{x:Vc}{o:Nat->R}:∀ n,(∀ i,i<n->Idl O (nt R p) (p ^ d) (o i))->Idl O (nt R p) (p ^ d) (sR n x o)
 | 0,_=>.zero h (Zw (pr_one hp))
 | n+1,k=>(sR_idl h hp n fun i hi=>k i (by omega)).add h hp ((k n (by omega)).mul h (h.zc _))
section
variable {n:Nat} {el:Vc->R}
theorem Bas.zero (B:Bas n el):el (fun _=>0)=0:=by
 have:=B.lin 1 (fun _=>0) fun _=>0
 rw[zc_one,show (fun j:Nat=>(1:Int)*0+0)=fun _=>0 from rfl] at this
 grind
theorem Bas.smul (B:Bas n el)(a:Int)(v:Vc):el (fun j=>a*v j)=zc R a*el v:=by
 have:=B.lin a v fun _=>0
 rw[B.zero,show (fun j=>a*v j+0)=fun j=>a*v j from funext fun j=>by omega] at this
 rw[this];grind
theorem Bas.sm (B:Bas n el){d:Vc}{U:Nat->Vc}:∀ k,el (fun j=>sm k d U j)=sR k d fun i=>el (U i)
 | 0=>B.zero
 | k+1=>by
  have:=B.lin (d k) (U k) fun j=>Alg.sm k d U j
  rw[B.sm k] at this;rw[show (fun j=>Alg.sm (k+1) d U j)=fun j=>d k*U k j+Alg.sm k d U j from funext fun j=>by show Alg.sm k d U j+d k*U k j=_;omega,this]
  show _=sR k d (fun i=>el (U i))+zc R (d k)*el (U k)
  grind
theorem Bas.un (B:Bas n el)(x:Vc):el x=sR n x fun i=>el (un i):=by
 rw[<- B.sm n];exact B.sup _ _ fun j hj=>by rw[sm_un,Wv hj]
theorem Bas.dvd (B:Bas n el){a:Int}{y w:Vc}(h:el y=zc R a*el w):∀ j,j<n->y j=a*w j:=by
 rw[<- B.smul] at h;exact B.inj _ _ h
variable {c:Nat->Nat->Vc}
theorem Bas.un_mul (B:Bas n el)(hc:∀ i j,i<n->j<n->el (Alg.un i)*el (Alg.un j)=el (c i j)){i:Nat}(hi:i<n)(y:Vc):el (Alg.un i)*el y=el fun k=>Alg.sm n y (c i) k:=by
 rw[B.sm n,B.un y,sR_mul];exact sR_congr n (fun _ _=>rfl) fun j hj=>hc i j hi hj
theorem Bas.mul (B:Bas n el)(hc:∀ i j,i<n->j<n->el (Alg.un i)*el (Alg.un j)=el (c i j))(x y:Vc):el x*el y=el fun k=>Alg.sm n x (fun i k=>Alg.sm n y (c i) k) k:=by
 rw[B.sm n,B.un x,show ∀ a b:R,a*b=b*a from fun a b=>by grind,sR_mul]
 exact sR_congr n (fun _ _=>rfl) fun i hi=>by rw[<- B.un_mul hc hi y];grind
theorem Bas.in_un (B:Bas n el)(i:Nat):Of el (el (Alg.un i)):=⟨_,rfl⟩
theorem Bas.power (B:Bas n el)(h:SubR (Of el)){p:Nat}(hp:p∈PR){d:Nat}{told:Nat->Vc}(ht:∀ i,i<n->Cp (Of el) (nt R p) (el (told i)) (el (Alg.un i) ^ (p ^ d)))(x:Vc):Cp (Of el) (nt R p) (el x ^ (p ^ d)) (el fun j=>Alg.sm n x told j):=by
 rw[B.sm n,B.un x];refine (sR_frobq h hp (fun i _=>B.in_un i) d).trans h ?_
 exact sR_cp h n (fun i hi=>(ht i hi).symm h) fun i hi=>h.pow (B.in_un i) _
theorem Bas.idl (B:Bas n el)(h:SubR (Of el)){p:Nat}(hp:p∈PR){d:Nat}{told:Nat->Vc}(ht:∀ i,i<n->Cp (Of el) (nt R p) (el (told i)) (el (Alg.un i) ^ (p ^ d)))(x:Vc):Idl (Of el) (nt R p) (p ^ d) (el x)↔∀ j,j<n->(p:Int) ∣ Alg.sm n x told j:=by
 obtain⟨w,⟨w',rfl⟩,e⟩:=B.power h hp ht x;rw[<- zc_nat] at e ⊢;constructor
 ·rintro⟨_,v,⟨v',rfl⟩,e1⟩ j hj
  have:el (fun j=>Alg.sm n x told j)=zc R (p:Int)*el fun j=>-1*w' j+v' j:=by
   rw[B.lin,zc_neg,zc_one];rw[e1] at e;grind
  exact⟨_,B.dvd this j hj⟩
 ·intro hd
  have:∀ j,∃ z:Int,j<n->Alg.sm n x told j=(p:Int)*z:=fun j=>by
   by_cases hj:j<n
   ·obtain⟨z,hz⟩:=hd j hj;exact⟨z,fun _=>hz⟩
   ·exact⟨0,fun y=>W1 y hj⟩
  obtain⟨z,hz⟩:=Classical.axiomOfChoice this;have e2:el (fun j=>Alg.sm n x told j)=zc R (p:Int)*el z:=by
   rw[<- B.smul];exact B.sup _ _ hz
  refine⟨⟨_,rfl⟩,el fun j=>1*z j+w' j,⟨_,rfl⟩,?_⟩
  rw[e,e2,B.lin,zc_one];grind
theorem Bas.mlt (B:Bas n el)(h:SubR (Of el)){p:Nat}(hp:p∈PR){d:Nat}(hc:∀ i j,i<n->j<n->el (Alg.un i)*el (Alg.un j)=el (c i j)){V:Nat->Vc}(hV:Stair n V)
  (hI:∀ x:Vc,(∀ j,n<=j->x j=0)->(InS n V x↔Idl (Of el) (nt R p) (p ^ d) (el x))) {t:Nat->Nat->Vc} (ht:∀ i j,i<n->j<n->∀ k,k<n->Alg.sm n (V j) (c i) k=Alg.sm n (t i j) V k)
  {ip:R} (hip:nt R p*ip=1) (x:Vc):(∀ j,j<n->∀ m,m<n->(p:Int) ∣ Alg.sm n x (fun i=>t i j) m)↔Mlt (Of el) (nt R p) (p ^ d) (ip*el x):=by
 have V0:∀ a:Vc,∀ k,n<=k->Alg.sm n a V k=0:=fun a k hk=>sm_low (q:=0) fun i hi=>hV.tri i hi k (by omega)
 have key:∀ j,j<n->el x*el (V j)=el fun k=>Alg.sm n (fun m=>Alg.sm n x (fun i=>t i j) m) V k:=fun j hj=>by
  rw[B.un x,show ∀ a b:R,a*b=b*a from fun a b=>by grind,sR_mul]
  have:(sR n x fun i=>el (V j)*el (Alg.un i))=sR n x fun i=>el fun k=>Alg.sm n (t i j) V k:=sR_congr n (fun _ _=>rfl) fun i hi=>by
   rw[show el (V j)*el (Alg.un i)=el (Alg.un i)*el (V j) by grind,B.un_mul hc hi]
   exact B.sup _ _ fun k hk=>ht i j hi hj k hk
  rw[this,<- B.sm n];exact B.sup _ _ fun k _=>sm_assoc n
 have cutI:∀ b,Idl (Of el) (nt R p) (p ^ d) b->∃ a:Vc,b=el fun k=>Alg.sm n a V k:=fun b hb=>by
  obtain⟨y,rfl⟩:=hb.1;have e:el y=el fun j=>if j<n then y j else 0:=B.sup _ _ fun j hj=>by rw[Wv hj]
  rw[e] at hb;obtain⟨a,ha⟩:=(hI _ fun j hj=>Wu (by omega)).mpr hb
  exact⟨a,by rw[e];exact B.sup _ _ fun j _=>ha j⟩
 have inI:∀ a:Vc,Idl (Of el) (nt R p) (p ^ d) (el fun k=>Alg.sm n a V k):=fun a=>(hI _ (V0 a)).mp ⟨a,fun _=>rfl⟩
 constructor
 ·intro hd
  refine⟨⟨x,by rw[show nt R p*(ip*el x)=nt R p*ip*el x by grind,hip];grind⟩,fun b hb=>?_⟩
  obtain⟨a,rfl⟩:=cutI b hb;rw[B.sm n,sR_mul];refine sR_idl h hp n fun j hj=>?_
  have:∀ m,∃ z:Int,m<n->Alg.sm n x (fun i=>t i j) m=(p:Int)*z:=fun m=>by
   by_cases hm:m<n
   ·obtain⟨z,hz⟩:=hd j hj m hm;exact⟨z,fun _=>hz⟩
   ·exact⟨0,fun y=>W1 y hm⟩
  obtain⟨z,hz⟩:=Classical.axiomOfChoice this;have e:el x*el (V j)=nt R p*el fun k=>Alg.sm n z V k:=by
   rw[key j hj,<- zc_nat,<- B.smul];refine B.sup _ _ fun k _=>?_
   rw[sm_congr (d':=fun m=>(p:Int)*z m) (fun i hi=>hz i hi) fun i _=>rfl]
   have:=sm_lin (n:=n) (p:Int) (d:=z) (e:=fun _=>0) (R:=V) (j:=k)
   rw[sm_zero] at this;rw[show (fun m=>(p:Int)*z m)=fun m=>(p:Int)*z m+0 from funext fun m=>by omega,this];omega
  rw[show ip*el x*el (V j)=ip*(el x*el (V j)) by grind,e,show ∀ b:R,ip*(nt R p*b)=nt R p*ip*b from fun b=>by grind,hip,show ∀ b:R,1*b=b from fun b=>by grind]
  exact inI z
 ·intro hm j hj m hmn
  have hVj:Idl (Of el) (nt R p) (p ^ d) (el (V j)):=(hI (V j) fun k hk=>hV.tri j hj k (by omega)).mp (.row hj)
  obtain⟨a,ha⟩:=cutI _ (hm.2 _ hVj);have e:(el fun k=>Alg.sm n (fun m=>Alg.sm n x (fun i=>t i j) m) V k)=zc R (p:Int)*el fun k=>Alg.sm n a V k:=by
   rw[<- key j hj,zc_nat,<- ha,show nt R p*(ip*el x*el (V j))=nt R p*ip*(el x*el (V j)) by grind,hip];grind
  have e2:=B.dvd e;have e3:∀ k,Alg.sm n (fun m=>Alg.sm n x (fun i=>t i j) m) V k=Alg.sm n (fun m=>(p:Int)*a m) V k:=fun k=>by
   have:=sm_lin (n:=n) (p:Int) (d:=a) (e:=fun _=>0) (R:=V) (j:=k)
   rw[sm_zero] at this;rw[show (fun m=>(p:Int)*a m)=fun m=>(p:Int)*a m+0 from funext fun m=>by omega,this]
   by_cases hk:k<n
   ·rw[e2 k hk];omega
   ·rw[V0 _ k (by omega),V0 _ k (by omega)];omega
  exact⟨_,hV.uniq n (Yd n) e3 m hmn⟩
end
def elT (n:Nat)(φ:Vc->R)(ip:R)(d:Nat)(T:Nat->Vc)(c:Vc):R:=ip ^ d*φ fun j=>sm n c T j
section
variable {n:Nat} {φ:Vc->R} {ip:R} {p d:Nat} {T:Nat->Vc}
theorem ip_pow (hip:nt R p*ip=1):∀ d:Nat,zc R ((p:Int) ^ d)*ip ^ d=1
 | 0=>by rw[Y9,zc_one,pw_zero];grind
 | d+1=>by
  have:=ip_pow hip d
  rw[Y5,zc_mul,zc_nat,pw_succ];grind
theorem Bas.tri (B:Bas n φ)(hip:nt R p*ip=1)(hT:Stair n T):Bas n (elT n φ ip d T) where
 lin a v w:=by
  show ip ^ d*(φ fun j=>Alg.sm n (fun j=>a*v j+w j) T j)=zc R a*(ip ^ d*φ _)+ip ^ d*φ _
  rw[show (fun j=>Alg.sm n (fun j=>a*v j+w j) T j)=fun j=>a*Alg.sm n v T j+Alg.sm n w T j from funext fun j=>sm_lin a,B.lin];grind
 inj v w e:=by
  have e1:φ (fun j=>Alg.sm n v T j)=φ fun j=>Alg.sm n w T j:=by
   have e2:zc R ((p:Int) ^ d)*(ip ^ d*φ fun j=>Alg.sm n v T j)=zc R ((p:Int) ^ d)*(ip ^ d*φ fun j=>Alg.sm n w T j):=Wz _ e
   have:=ip_pow hip d
   grind
  have e3:=B.inj _ _ e1;refine hT.uniq n (Yd n) fun j=>?_
  by_cases hj:j<n
  ·exact e3 j hj
  ·rw[sm_low (q:=0) fun i hi=>hT.tri i hi j (by omega),sm_low (q:=0) fun i hi=>hT.tri i hi j (by omega)]
 sup v w e:=by
  show ip ^ d*φ _=ip ^ d*φ _
  congr 2
  exact funext fun j=>sm_congr (fun i hi=>e i hi) fun i _=>rfl
structure Lor (n p:Nat)(φ:Vc->R)(ip:R)(d:Nat)(T:Nat->Vc):Prop where
 st:Stair n T
 sub:SubR (Of (elT n φ ip d T))
 all:∀ z,Of (elT n φ ip d T) (φ z)
theorem Lor.next (B:Bas n φ)(hp:p∈PR)(hip:nt R p*ip=1)(L:Lor n p φ ip d T){k:Nat}{N:List Vc}{T':Nat->Vc}(hT':Stair n T')
  (hN:∀ r∈N,Mlt (Of (elT n φ ip d T)) (nt R p) (p ^ k) (ip*elT n φ ip d T r)) (hN':∀ x,Mlt (Of (elT n φ ip d T)) (nt R p) (p ^ k) (ip*elT n φ ip d T x)->∃ v z:Vc,Spn N v/\∀ i,i<n->x i=v i+(p:Int)*z i)
  (hG:∀ v,Gq ((Yj n).map (fun i j=>(p:Int)*T i j)++N.map fun r j=>sm n r T j) ((p:Int) ^ (d+1)) n v↔InS n T' v):Lor n p φ ip (d+1) T':=by
 have BT:=B.tri (d:=d) hip L.st;have T0:∀ a:Vc,∀ k,n<=k->sm n a T k=0:=fun a k hk=>sm_low (q:=0) fun i hi=>L.st.tri i hi k (by omega)
 have sM:=Mlt.sub L.sub hp k;have oP:=L.sub.nt p;have key:∀ a,Of (elT n φ ip (d+1) T') a↔Mlt (Of (elT n φ ip d T)) (nt R p) (p ^ k) a:=by
  intro a;constructor
  ·rintro⟨c,rfl⟩
   have hv:=(hG fun j=>sm n c T' j).mpr ⟨c,fun _=>rfl⟩
   show Mlt _ _ _ (ip ^ (d+1)*φ fun j=>sm n c T' j)
   generalize (fun j=>sm n c T' j)=v at hv
   obtain⟨v0,u,z,hu,e⟩:=hv;have key:∀ {u:Vc},Spn ((Yj n).map (fun i j=>(p:Int)*T i j)++N.map fun r j=>sm n r T j) u->Mlt (Of (elT n φ ip d T)) (nt R p) (p ^ k) (ip ^ (d+1)*φ u):=by
    intro u hu;induction hu with
    | zero=>rw[B.zero,show ip ^ (d+1)*0=0 by grind];exact sM.zero
    | @add r v a hr _ ih=>
     have e1:ip ^ (d+1)*φ (fun i=>a*r i+v i)=zc R a*(ip ^ (d+1)*φ r)+ip ^ (d+1)*φ v:=by rw[B.lin];grind
     rw[e1];refine sM.add (sM.mul (sM.zc a) ?_) ih
     rcases List.mem_append.mp hr with y | y
     ·obtain⟨i,hi,rfl⟩:=List.mem_map.mp y
      have hi:=List.mem_range.mp hi;have:ip ^ (d+1)*φ (fun j=>(p:Int)*T i j)=elT n φ ip d T (un i):=by
       show _=ip ^ d*φ _
       rw[B.smul,zc_nat,pw_succ,show (fun j=>sm n (un i) T j)=T i from funext fun j=>sm_unit hi];grind
      rw[this];exact .of L.sub oP ⟨_,rfl⟩
     ·obtain⟨s,hs,rfl⟩:=List.mem_map.mp y
      have:ip ^ (d+1)*φ (fun j=>sm n s T j)=ip*elT n φ ip d T s:=by
       show _=ip*(ip ^ d*φ _)
       rw[pw_succ];grind
      rw[this];exact hN s hs
   have e1:ip ^ (d+1)*φ v=φ z+ip ^ (d+1)*φ u:=by
    have e2:φ v=zc R ((p:Int) ^ (d+1))*φ z+φ u:=by
     rw[<- B.lin];exact B.sup _ _ fun j _=>by rw[e j];omega
    have:=ip_pow hip (d+1)
    rw[e2];grind
   rw[e1];exact sM.add (.of L.sub oP (L.all z)) (key hu)
  ·intro ha
   obtain⟨x,hx⟩:=ha.1;have ea:a=ip*elT n φ ip d T x:=by rw[<- hx];grind
   rw[ea] at ha;obtain⟨v,z,hv,e⟩:=hN' x ha;have e1:elT n φ ip d T x=zc R (p:Int)*elT n φ ip d T z+elT n φ ip d T v:=by
    rw[<- BT.lin];exact BT.sup _ _ fun j hj=>by rw[e j hj];omega
   have g1:Gq ((Yj n).map (fun i j=>(p:Int)*T i j)++N.map fun r j=>sm n r T j) ((p:Int) ^ (d+1)) n fun j=>sm n v T j:=by
    clear e e1;induction hv with
    | zero=>exact Gq.zero.of fun j=>sm_zero.symm
    | @add r w a hr _ ih=>
     exact ((Gq.mem (List.mem_append.mpr (.inr (List.mem_map.mpr ⟨r,hr,rfl⟩))) (T0 r)).lin a ih).of fun j=>(sm_lin a).symm
   have g2:Gq ((Yj n).map (fun i j=>(p:Int)*T i j)++N.map fun r j=>sm n r T j) ((p:Int) ^ (d+1)) n fun j=>sm n z (fun i j=>(p:Int)*T i j) j:=
    Gq.sm n fun i hi=>Gq.mem (List.mem_append.mpr (.inl (List.mem_map.mpr ⟨i,List.mem_range.mpr hi,rfl⟩))) fun j hj=>by show (p:Int)*T i j=0;rw[L.st.tri i hi j (by omega)];omega
   obtain⟨c,hc⟩:=(hG _).mp (g1.lin 1 g2);refine⟨c,?_⟩
   show a=ip ^ (d+1)*φ fun j=>sm n c T' j
   have e3:(φ fun j=>sm n c T' j)=zc R (p:Int)*(φ fun j=>sm n z T j)+φ fun j=>sm n v T j:=by
    rw[<- B.lin];refine B.sup _ _ fun j _=>?_
    rw[<- hc j];have:sm n z (fun i j=>(p:Int)*T i j) j=(p:Int)*sm n z T j:=by
     have:∀ m,sm m z (fun i j=>(p:Int)*T i j) j=(p:Int)*sm m z T j:=fun m=>by
      induction m with
      | zero=>show (0:Int)=_*0;omega
      | succ m ih=>show sm m z _ j+z m*(_*T m j)=_*(sm m z T j+z m*T m j);rw[ih];grind
     exact this n
    show 1*sm n v T j+sm n z (fun i j=>(p:Int)*T i j) j=_
    rw[this];omega
   rw[ea,e1,e3];show ip*(zc R (p:Int)*(ip ^ d*φ _)+ip ^ d*φ _)=_
   rw[pw_succ];grind
 exact⟨hT',⟨(key _).mpr sM.one,fun a b=>(key _).mpr (sM.add ((key _).mp a) ((key _).mp b)),fun a=>(key _).mpr (sM.neg ((key _).mp a)),fun a b=>(key _).mpr (sM.mul ((key _).mp a) ((key _).mp b))⟩,fun z=>(key _).mpr (.of L.sub oP (L.all z))⟩
end
end
end Alg
namespace L2
open Alg
theorem sgm_swap (g:Nat->Nat->Int)(m:Nat):∀ n,sgm n (fun i=>sgm m fun j=>g i j)=sgm m fun j=>sgm n fun i=>g i j
 | 0=>(sgm_zero fun _ _=>rfl).symm
 | n+1=>by
  show sgm n (fun i=>sgm m fun j=>g i j)+sgm m (fun j=>g n j)=sgm m fun j=>sgm n (fun i=>g i j)+g n j
  rw[sgm_swap g m n,sgm_add]
theorem sgm_mulR (a:Int)(f:Nat->Int)(n:Nat):sgm n (fun i=>f i*a)=sgm n f*a:=by
 rw[Zu,<- sgm_mul];exact sgm_congr fun i _=>Zu _ _
theorem sgm_cut {g:Nat->Int}{m:Nat}:∀ {n},m<=n->(∀ i,m<=i->i<n->g i=0)->sgm n g=sgm m g
 | 0,h,_=>by rw[show m=0 by omega]
 | n+1,h,k=>by
  by_cases c:m=n+1
  ·rw[c]
  ·show sgm n g+g n=_
   rw[k n (by omega) (by omega),sgm_cut (n:=n) (by omega) fun i hi hn=>k i hi (by omega)];omega
theorem sm_sgm (n:Nat)(d:Nat->Int)(R:Nat->Nat->Int)(j:Nat):sm n d R j=sgm n fun i=>d i*R i j:=by
 induction n with
 | zero=>rfl
 | succ n ih=>show sm n d R j+d n*R n j=_+_;rw[ih]
section
variable {f:Fn} {n:Nat}
theorem tk_low:∀ k,k<n->tk f n k=xp k
 | 0,_=>rfl
 | k+1,hk=>by
  funext m
  show (if m=0 then 0 else tk f n k (m - 1)) - tk f n k (n - 1)*f m=xp (k+1) m
  rw[tk_low k (by omega)]
  unfold xp;rw[Wu (show ¬ n - 1=k by omega)]
  by_cases c:m=0
  ·rw[Wv c,Wu (by omega)];omega
  ·rw[Wu c]
   by_cases e:m=k+1
   ·rw[Wv e,Wv (by omega)];omega
   ·rw[Wu e,Wu (by omega)];omega
theorem tk_rel (hf:Top f n)(hn:1<=n):∀ b j,sgm n (fun c=>f c*tk f n (c+b) j)+tk f n (n+b) j=0
 | 0,j=>by
  have e1:sgm n (fun c=>f c*tk f n (c+0) j)=if j<n then f j else 0:=by
   by_cases c:j<n
   ·rw[Wv c,sgm_one (k:=j) c fun i hi hne=>by rw[tk_low (i+0) (by omega)];unfold xp;rw[Wu (by omega)];omega]
    rw[tk_low (j+0) (by omega)];unfold xp;rw[Wv (by omega)];omega
   ·rw[Wu c]
    exact sgm_zero fun i hi=>by rw[tk_low (i+0) (by omega)];unfold xp;rw[Wu (by omega)];omega
  rw[e1];by_cases c:j<n
  ·obtain⟨k,rfl⟩:∃ k,n=k+1:=⟨n - 1,by omega⟩
   rw[Wv c];show f j+((if j=0 then 0 else tk f (k+1) k (j - 1)) - tk f (k+1) k (k+1 - 1)*f j)=0
   rw[tk_low k (by omega)]
   unfold xp;rw[Wv (show k+1 - 1=k by omega)]
   by_cases z:j=0
   ·rw[Wv z];omega
   ·rw[Wu z,Wu (by omega)];omega
  ·rw[Wu c,tk_lo hf hn _ _ (by omega)];omega
 | b+1,j=>by
  have h1:=tk_rel hf hn b (n - 1);have e:sgm n (fun c=>f c*tk f n (c+(b+1)) j)+tk f n (n+(b+1)) j=(if j=0 then 0 else sgm n (fun c=>f c*tk f n (c+b) (j - 1))+tk f n (n+b) (j - 1)) - (sgm n (fun c=>f c*tk f n (c+b) (n - 1))+tk f n (n+b) (n - 1))*f j:=by
   have e1:sgm n (fun c=>f c*tk f n (c+(b+1)) j)=(if j=0 then 0 else sgm n (fun c=>f c*tk f n (c+b) (j - 1))) - sgm n (fun c=>f c*tk f n (c+b) (n - 1))*f j:=by
    have:sgm n (fun c=>f c*tk f n (c+(b+1)) j)=sgm n fun c=>1*(if j=0 then 0 else f c*tk f n (c+b) (j - 1))+(-f j)*(f c*tk f n (c+b) (n - 1)):=sgm_congr fun c _=>by
     show f c*((if j=0 then 0 else tk f n (c+b) (j - 1)) - tk f n (c+b) (n - 1)*f j)=_
     by_cases z:j=0
     ·rw[Wv z,Wv z];grind
     ·rw[Wu z,Wu z];grind
    rw[this,sgm_lin];by_cases z:j=0
    ·simp only[Wv z];rw[sgm_zero fun _ _=>rfl];grind
    ·simp only[Wu z];grind
   rw[e1];show _+((if j=0 then 0 else tk f n (n+b) (j - 1)) - tk f n (n+b) (n - 1)*f j)=_
   by_cases z:j=0
   ·rw[Wv z,Wv z,Wv z];grind
   ·rw[Wu z,Wu z,Wu z];grind
  rw[e,h1];by_cases z:j=0
  ·rw[Wv z];omega
  ·rw[Wu z,tk_rel hf hn b (j - 1)];omega
theorem tk_mul (hf:Top f n)(hn:1<=n):∀ l b j,sgm n (fun c=>tk f n l c*tk f n (c+b) j)=tk f n (l+b) j
 | 0,b,j=>by
  rw[sgm_one (k:=0) (by omega) fun i hi hne=>by show xp 0 i*_=0;unfold xp;rw[Wu (by omega)];omega]
  show xp 0 0*tk f n (0+b) j=_
  unfold xp;rw[Wv rfl];omega
 | l+1,b,j=>by
  have ih:=tk_mul hf hn l (b+1) j;have rl:=tk_rel hf hn b j;have e:sgm n (fun c=>tk f n (l+1) c*tk f n (c+b) j)=sgm n (fun c=>(if c=0 then 0 else tk f n l (c - 1))*tk f n (c+b) j) - tk f n l (n - 1)*sgm n (fun c=>f c*tk f n (c+b) j):=by
   have:=sgm_lin 1 (-tk f n l (n - 1)) (fun c=>(if c=0 then 0 else tk f n l (c - 1))*tk f n (c+b) j) (fun c=>f c*tk f n (c+b) j) n
   rw[show ∀ x y z:Int,x - y*z=1*x+-y*z from fun x y z=>by grind,<- this]
   exact sgm_congr fun c _=>by
    show ((if c=0 then 0 else tk f n l (c - 1)) - tk f n l (n - 1)*f c)*_=_
    grind
  obtain⟨k,rfl⟩:∃ k,n=k+1:=⟨n - 1,by omega⟩
  rw[e,sgm_shift];rw[show l+1+b=l+(b+1) by omega,<- ih]
  show (if (0:Nat)=0 then 0 else _)*_+sgm k (fun i=>(if i+1=0 then 0 else tk f (k+1) l (i+1 - 1))*tk f (k+1) (i+1+b) j) - tk f (k+1) l (k+1 - 1)*_=sgm k (fun c=>tk f (k+1) l c*tk f (k+1) (c+(b+1)) j)+tk f (k+1) l k*tk f (k+1) (k+(b+1)) j
  rw[Wv rfl,show sgm k (fun i=>(if i+1=0 then 0 else tk f (k+1) l (i+1 - 1))*tk f (k+1) (i+1+b) j)=sgm k fun c=>tk f (k+1) l c*tk f (k+1) (c+(b+1)) j from sgm_congr fun i _=>by
   rw[Wu (by omega),show i+1+b=i+(b+1) by omega,show i+1 - 1=i by omega]]
  rw[show k+1+b=k+(b+1) by omega] at rl
  rw[show k+1 - 1=k by omega]
  grind
theorem tk_pick (hf:Top f n):∀ e i l,i+e+1=n->tk f n l i=sgm (e+1) fun c=>f (c+i+1)*tk f n (l+c) (n - 1)
 | 0,i,l,h=>by
  show _=0+f (0+i+1)*tk f n (l+0) (n - 1)
  rw[show 0+i+1=n by omega,hf.one,show n - 1=i by omega,show l+0=l by omega];omega
 | e+1,i,l,h=>by
  have ih:=tk_pick hf e (i+1) (l+1) (by omega)
  rw[sgm_shift];have h1:tk f n (l+1) (i+1)=(if i+1=0 then 0 else tk f n l (i+1 - 1)) - tk f n l (n - 1)*f (i+1):=rfl
  rw[Wu (by omega),show i+1 - 1=i by omega,ih] at h1
  have h2:sgm (e+1) (fun c=>f (c+(i+1)+1)*tk f n (l+1+c) (n - 1))=sgm (e+1) fun c=>f (c+1+i+1)*tk f n (l+(c+1)) (n - 1):=sgm_congr fun c _=>by
   rw[show c+(i+1)+1=c+1+i+1 by omega,show l+1+c=l+(c+1) by omega]
  rw[h2] at h1;show _=f (0+i+1)*tk f n (l+0) (n - 1)+_
  rw[show 0+i+1=i+1 by omega,show l+0=l by omega]
  grind
def t1 (f:Fn)(n k:Nat):Int:=sgm n fun i=>tk f n (k+i) i
theorem euler (hf:Top f n)(hn:1<=n)(k:Nat):t1 f n k=sgm n fun m=>((m+1:Nat):Int)*f (m+1)*tk f n (m+k) (n - 1):=by
 obtain⟨q,rfl⟩:∃ q,n=q+1:=⟨n - 1,by omega⟩
 have e1:t1 f (q+1) k=sumN (q+1) fun i=>sumN (q - i+1) fun j=>f (i+j+1)*tk f (q+1) (k+(i+j)) q:=by
  unfold t1;rw[sgm_sumN];refine sumN_congr fun i hi=>?_
  rw[tk_pick hf (q - i) i (k+i) (by omega),sgm_sumN]
  refine sumN_congr fun j hj=>?_
  rw[show j+i+1=i+j+1 by omega,show k+i+j=k+(i+j) by omega,show q+1 - 1=q by omega]
 rw[e1,<- sumN_tri fun i k'=>f (k'+1)*tk f (q+1) (k+k') q,sgm_sumN]
 refine sumN_congr fun m hm=>?_
 have e2:∀ (x:Int) (c:Nat),sumN c (fun _=>x)=(c:Int)*x:=fun x c=>by
  induction c with
  | zero=>show (0:Int)=0*x;omega
  | succ c ih=>
   show sumN c (fun _=>x)+x=_
   rw[ih,show ((c+1:Nat):Int)=(c:Int)+1 by omega];grind
 rw[e2,show k+m=m+k by omega,show q+1 - 1=q by omega];grind
def tau (f:Fn)(n:Nat):Mx:=fun a b=>t1 f n (a+b)
def lam (f:Fn)(n:Nat):Mx:=fun c b=>tk f n (c+b) (n - 1)
theorem lam_det (hf:Top f n)(hn:1<=n):∃ w,w*det n (lam f n)=1:=by
 refine⟨det n fun i c=>f (c+i+1),?_⟩
 rw[<- det_mul,<- det_dlt n];refine det_congr fun i b hi hb=>?_
 have e:tk f n b i=sgm n fun c=>f (c+i+1)*tk f n (b+c) (n - 1):=by
  rw[tk_pick hf (n - 1 - i) i b (by omega)]
  exact (sgm_cut (m:=n - 1 - i+1) (by omega) fun j hj _=>by
   show f (j+i+1)*_=0
   rw[hf.top _ (by omega)];omega).symm
 show sgm n (fun k=>f (k+i+1)*tk f n (k+b) (n - 1))=dlt i b
 rw[sgm_congr (g:=fun c=>f (c+i+1)*tk f n (b+c) (n - 1)) fun c _=>by rw[Nat.add_comm c b],<- e,tk_low b hb]
 unfold xp dlt;by_cases c:i=b
 ·rw[Wv c,Wv c.symm]
 ·rw[Wu c,Wu fun z=>c z.symm]
theorem tau_det (hf:Top f n)(hn:1<=n){g:Fn}(hg:∀ m,m<n->g m=((m+1:Nat):Int)*f (m+1)):det n (tau f n)=(det n fun a c=>sgm n fun k=>g k*tk f n (k+a) c)*det n (lam f n):=by
 rw[<- det_mul];refine det_congr fun a b ha hb=>?_
 show t1 f n (a+b)=sgm n fun c=>(sgm n fun k=>g k*tk f n (k+a) c)*tk f n (c+b) (n - 1)
 rw[euler hf hn];have:(sgm n fun c=>(sgm n fun k=>g k*tk f n (k+a) c)*tk f n (c+b) (n - 1))=sgm n fun c=>sgm n fun k=>g k*(tk f n (k+a) c*tk f n (c+b) (n - 1)):=sgm_congr fun c _=>by
  rw[<- sgm_mulR];exact sgm_congr fun k _=>by grind
 rw[this,sgm_swap];refine sgm_congr fun m hm=>?_
 rw[sgm_mul,tk_mul hf hn,hg m hm,show m+a+b=m+(a+b) by omega]
def trc (n:Nat)(A:Mx):Int:=sgm n fun i=>A i i
theorem trc_comm (n:Nat)(A B:Mx):trc n (mxm n A B)=trc n (mxm n B A):=by
 show sgm n (fun i=>sgm n fun k=>A i k*B k i)=sgm n fun i=>sgm n fun k=>B i k*A k i
 rw[sgm_swap];exact sgm_congr fun i _=>sgm_congr fun k _=>Zu _ _
theorem mxm_assoc (n:Nat)(A B C:Mx)(i k:Nat):mxm n (mxm n A B) C i k=mxm n A (mxm n B C) i k:=by
 show sgm n (fun m=>(sgm n fun l=>A i l*B l m)*C m k)=sgm n fun l=>A i l*sgm n fun m=>B l m*C m k
 have e1:sgm n (fun m=>(sgm n fun l=>A i l*B l m)*C m k)=sgm n fun m=>sgm n fun l=>A i l*(B l m*C m k):=sgm_congr fun m _=>by
  rw[<- sgm_mulR];exact sgm_congr fun l _=>by grind
 rw[e1,sgm_swap];exact sgm_congr fun l _=>by rw[sgm_mul]
theorem mxm_congr {n:Nat}{A A' B B':Mx}{i k:Nat}(h1:∀ l,l<n->A i l=A' i l)(h2:∀ l,l<n->B l k=B' l k):mxm n A B i k=mxm n A' B' i k:=sgm_congr fun l hl=>by rw[h1 l hl,h2 l hl]
theorem trc_same {n:Nat}{A C T S:Mx}{P:Int}(hP:P≠0)(h1:∀ i k,i<n->k<n->mxm n T A i k=P*mxm n C T i k)(h2:∀ i k,i<n->k<n->mxm n S T i k=P*dlt i k)(h3:∀ i k,i<n->k<n->mxm n T S i k=P*dlt i k):trc n A=P*trc n C:=by
 have e1:P*trc n A=trc n (mxm n A (mxm n S T)):=by
  unfold trc;rw[<- sgm_mul];refine sgm_congr fun i hi=>?_
  rw[mxm_congr (A':=A) (B':=fun l k=>P*dlt l k) (fun _ _=>rfl) fun l hl=>h2 l i hl hi]
  show _=sgm n fun k=>A i k*(P*dlt k i)
  rw[sgm_congr (g:=fun k=>P*(A i k*dlt k i)) fun k _=>by grind,sgm_mul,sgm_dltR hi]
 have e2:trc n (mxm n A (mxm n S T))=trc n (mxm n (mxm n T A) S):=by
  rw[show trc n (mxm n A (mxm n S T))=trc n (mxm n (mxm n A S) T) from sgm_congr fun i _=>(mxm_assoc n A S T i i).symm,trc_comm]
  exact sgm_congr fun i _=>(mxm_assoc n T A S i i).symm
 have e3:trc n (mxm n (mxm n T A) S)=P*(P*trc n C):=by
  have:trc n (mxm n (mxm n T A) S)=P*trc n (mxm n (mxm n C T) S):=by
   unfold trc;rw[<- sgm_mul];refine sgm_congr fun i hi=>?_
   show sgm n (fun l=>mxm n T A i l*S l i)=P*sgm n fun l=>mxm n C T i l*S l i
   rw[<- sgm_mul];exact sgm_congr fun l hl=>by rw[h1 i l hi hl];grind
  rw[this];congr 1
  unfold trc;rw[<- sgm_mul];refine sgm_congr fun i hi=>?_
  rw[mxm_assoc,mxm_congr (A':=C) (B':=fun l k=>P*dlt l k) (fun _ _=>rfl) fun l hl=>h3 l i hl hi]
  show (sgm n fun k=>C i k*(P*dlt k i))=_
  rw[sgm_congr (g:=fun k=>P*(C i k*dlt k i)) fun k _=>by grind,sgm_mul,sgm_dltR hi]
 rw[e2,e3] at e1;exact Zk hP e1
end
end L2
namespace L2
open Alg Lean.Grind
structure Xr (f:Fn)(n p:Nat){R:Type}[CommRing R](φ:Vc->R)(ip:R):Prop where
 bas:Bas n φ
 inv:nt R p*ip=1
 one:φ (un 0)=1
 mul:∀ a b,a<n->b<n->φ (un a)*φ (un b)=φ (tk f n (a+b))
section
variable {R:Type} [CommRing R] {f:Fn} {n p d:Nat} {φ:Vc->R} {ip:R} {T:Nat->Vc}
theorem stair_un:Stair n un:=⟨fun i _ j hj=>Wu (by omega),fun i _=>by show (if i=i then (1:Int) else 0)≠0;rw[Wv rfl];decide⟩
theorem Xr.start (X:Xr f n p φ ip):Lor n p φ ip 0 un:=by
 have e:∀ c,elT n φ ip 0 un c=φ c:=fun c=>by
  show ip ^ 0*φ _=_
  rw[pw_zero,X.bas.sup (fun j=>sm n c un j) c fun j hj=>by rw[sm_un,Wv hj]];grind
 have B:=X.bas;refine⟨stair_un,⟨⟨un 0,by rw[e,X.one]⟩,?_,?_,?_⟩,fun z=>⟨z,(e z).symm⟩⟩
 ·rintro a b ⟨x,rfl⟩ ⟨y,rfl⟩
  exact⟨fun j=>1*x j+y j,by rw[e,e,e,B.lin,zc_one];grind⟩
 ·rintro a ⟨x,rfl⟩
  exact⟨fun j=>-1*x j,by rw[e,e,B.smul,zc_neg,zc_one];grind⟩
 ·rintro a b ⟨x,rfl⟩ ⟨y,rfl⟩
  rw[e,e,B.mul (c:=fun a b=>tk f n (a+b)) X.mul]
  exact⟨_,(e _).symm⟩
theorem t1_tk (hf:Top f n)(hn:1<=n)(l:Nat):sgm n (fun k=>tk f n l k*t1 f n k)=t1 f n l:=by
 unfold t1;rw[show sgm n (fun k=>tk f n l k*sgm n fun i=>tk f n (k+i) i)=sgm n fun k=>sgm n fun i=>tk f n l k*tk f n (k+i) i from sgm_congr fun k _=>(sgm_mul _ _ _).symm,sgm_swap]
 exact sgm_congr fun i _=>tk_mul hf hn l i i
theorem Lor.disc (X:Xr f n p φ ip)(hf:Top f n)(hn:1<=n)(p0:p≠0)(L:Lor n p φ ip d T){g:Fn}(hg:∀ m,m<n->g m=((m+1:Nat):Int)*f (m+1)):
  ∃ w:Int,(prN n fun i=>T i i)*(prN n fun i=>T i i)*(det n fun a c=>sgm n fun k=>g k*tk f n (k+a) c)=((p:Int) ^ d*(p:Int) ^ d) ^ n*w:=by
 have B:=X.bas;have BT:=B.tri (d:=d) X.inv L.st;generalize hP:(p:Int) ^ d=P;have P0:P≠0:=by rw[<- hP];exact Int.pow_ne_zero (by omega)
 have hPi:zc R P*ip ^ d=1:=by rw[<- hP];exact ip_pow X.inv d
 have hel:∀ y,(φ fun j=>sm n y T j)=zc R P*elT n φ ip d T y:=fun y=>by
  show _=zc R P*(ip ^ d*φ _)
  grind
 have hT:∀ i,i<n->φ (T i)=zc R P*elT n φ ip d T (un i):=fun i hi=>by
  rw[<- hel];exact B.sup _ _ fun j _=>(sm_unit hi).symm
 have T0:∀ a:Vc,∀ k,n<=k->sm n a T k=0:=fun a k hk=>sm_low (q:=0) fun i hi=>L.st.tri i hi k (by omega)
 have hc0:∀ i,∃ ci:Nat->Vc,∀ j,elT n φ ip d T (un i)*elT n φ ip d T (un j)=elT n φ ip d T (ci j):=fun i=>Classical.axiomOfChoice fun j=>L.sub.mul ⟨_,rfl⟩ ⟨_,rfl⟩
 obtain⟨c,hc⟩:=Classical.axiomOfChoice hc0;obtain⟨S,hS⟩:=Classical.axiomOfChoice fun i=>L.all (un i)
 have hA:∀ v i,i<n->φ v*φ (un i)=φ fun k=>sm n v (fun a=>tk f n (a+i)) k:=fun v i hi=>by
  rw[B.mul (c:=fun a b=>tk f n (a+b)) X.mul]
  refine B.sup _ _ fun k _=>sm_congr (fun _ _=>rfl) fun a _=>sm_unit hi
 have hC:∀ y i,i<n->elT n φ ip d T y*elT n φ ip d T (un i)=elT n φ ip d T fun k=>sm n y (fun j=>c j i) k:=fun y i hi=>by
  rw[BT.mul (c:=c) fun i j _ _=>hc i j]
  refine BT.sup _ _ fun k _=>sm_congr (fun _ _=>rfl) fun a _=>sm_unit hi
 have hS':∀ i k,i<n->k<n->sm n (S i) T k=P*un i k:=fun i k hi hk=>by
  have:(φ fun j=>sm n (S i) T j)=φ fun k=>P*un i k:=by rw[hel,<- hS i,B.smul]
  exact B.inj _ _ this k hk
 have pun:∀ (x:Vc) (k:Nat),k<n->sm n x (fun j k=>P*un j k) k=P*x k:=fun x k hk=>by
  rw[sm_sgm,sgm_congr (g:=fun i=>P*(x i*un i k)) fun i _=>by grind,sgm_mul,<- sm_sgm n x un k,sm_un,Wv hk]
 have h3:∀ i k,i<n->k<n->sm n (T i) S k=P*un i k:=fun i k hi hk=>by
  refine L.st.uniq n (Yd n) (c:=fun m=>sm n (T i) S m) (c':=fun m=>P*un i m) (fun j=>?_) k hk
  by_cases hj:j<n
  ·rw[<- sm_assoc,sm_congr (R':=fun j k=>P*un j k) (fun _ _=>rfl) fun l hl=>hS' l j hl hj,pun _ _ hj]
   have:=sm_lin (n:=n) P (d:=un i) (e:=fun _=>0) (R:=T) (j:=j)
   rw[sm_zero] at this;rw[show (fun m=>P*un i m)=fun m=>P*un i m+0 from funext fun m=>by omega,this,show sm n (un i) T j=T i j from sm_unit hi];omega
  ·rw[T0 _ j (by omega),T0 _ j (by omega)]
 have htr:∀ y,sgm n (fun k=>sm n y T k*t1 f n k)=P*trc n fun i k=>sm n y (fun j=>c j i) k:=fun y=>by
  rw[<- trc_same (A:=fun i k=>sm n (fun j=>sm n y T j) (fun a=>tk f n (a+i)) k) (T:=T) (S:=S) P0 (fun i k hi hk=>?_) (fun i k hi hk=>?_) fun i k hi hk=>?_]
  ·unfold trc t1
   rw[show sgm n (fun k=>sm n y T k*sgm n fun i=>tk f n (k+i) i)=sgm n fun k=>sgm n fun i=>sm n y T k*tk f n (k+i) i from sgm_congr fun k _=>(sgm_mul _ _ _).symm,sgm_swap]
   exact sgm_congr fun i _=>(sm_sgm _ _ _ _).symm
  ·show sgm n (fun l=>T i l*sm n (fun j=>sm n y T j) (fun a=>tk f n (a+l)) k)=P*sgm n fun l=>sm n y (fun j=>c j i) l*T l k
   rw[<- sm_sgm n (T i) (fun l k=>sm n (fun j=>sm n y T j) (fun a=>tk f n (a+l)) k) k,<- sm_sgm n (fun l=>sm n y (fun j=>c j i) l) T k]
   have e:(φ fun k=>sm n (T i) (fun l k=>sm n (fun j=>sm n y T j) (fun a=>tk f n (a+l)) k) k)=φ fun k=>P*sm n (fun l=>sm n y (fun j=>c j i) l) T k:=by
    rw[B.sm n,sR_congr n (fun _ _=>rfl) fun l hl=>(hA (fun j=>sm n y T j) l hl).symm,<- sR_mul,<- B.un (T i),B.smul,hel,hT i hi,hel,<- hC y i hi]
    grind
   exact B.inj _ _ e k hk
  ·show sgm n (fun l=>S i l*T l k)=P*dlt i k
   rw[<- sm_sgm n (S i) T k];exact hS' i k hi hk
  ·show sgm n (fun l=>T i l*S l k)=P*dlt i k
   rw[<- sm_sgm n (T i) S k];exact h3 i k hi hk
 obtain⟨w,hw⟩:=lam_det hf hn;have hdet:det n (mxm n (mxm n T (tau f n)) fun a b=>T b a)=(P*P) ^ n*det n fun i j=>trc n fun m k=>sm n (c i j) (fun j=>c j m) k:=by
  rw[<- det_scale];refine det_congr fun i j hi hj=>?_
  have e1:∀ k,k<n->sm n (T i) (fun a k=>sm n (T j) (fun b=>tk f n (a+b)) k) k=P*sm n (c i j) T k:=by
   have:(φ fun k=>sm n (T i) (fun a k=>sm n (T j) (fun b=>tk f n (a+b)) k) k)=φ fun k=>P*sm n (c i j) T k:=by
    rw[<- B.mul (c:=fun a b=>tk f n (a+b)) X.mul,B.smul,hel,hT i hi,hT j hj,<- hc i j];grind
   exact B.inj _ _ this
  have e2:sgm n (fun k=>sm n (T i) (fun a k=>sm n (T j) (fun b=>tk f n (a+b)) k) k*t1 f n k)=P*P*trc n fun m k=>sm n (c i j) (fun j=>c j m) k:=by
   rw[sgm_congr (g:=fun k=>P*(sm n (c i j) T k*t1 f n k)) fun k hk=>by rw[e1 k hk];grind,sgm_mul,htr];grind
  rw[<- e2];show sgm n (fun b=>(sgm n fun a=>T i a*t1 f n (a+b))*T j b)=_
  have e3:∀ k,sm n (T i) (fun a k=>sm n (T j) (fun b=>tk f n (a+b)) k) k*t1 f n k=sgm n fun a=>sgm n fun b=>T i a*T j b*(tk f n (a+b) k*t1 f n k):=fun k=>by
   rw[sm_sgm,<- sgm_mulR];refine sgm_congr fun a _=>?_
   rw[sm_sgm,<- sgm_mul,<- sgm_mulR];exact sgm_congr fun b _=>by grind
  rw[sgm_congr fun k _=>e3 k,sgm_swap]
  have e4:sgm n (fun a=>sgm n fun k=>sgm n fun b=>T i a*T j b*(tk f n (a+b) k*t1 f n k))=sgm n fun a=>sgm n fun b=>T i a*T j b*t1 f n (a+b):=sgm_congr fun a _=>by
   rw[sgm_swap];exact sgm_congr fun b _=>by rw[sgm_mul,t1_tk hf hn]
  rw[e4,sgm_swap];refine sgm_congr fun b _=>?_
  rw[<- sgm_mulR];exact sgm_congr fun a _=>by grind
 rw[det_mul,det_mul,det_low n T fun i j hij hj=>L.st.tri i (by omega) j hij,det_tri n (fun a b=>T b a) fun i j hij hi=>L.st.tri j (by omega) i hij,tau_det hf hn hg] at hdet
 generalize (det n fun i j=>trc n fun m k=>sm n (c i j) (fun j=>c j m) k)=E at hdet
 generalize det n (lam f n)=Λ at hw hdet;generalize (det n fun a c=>sgm n fun k=>g k*tk f n (k+a) c)=D at hdet
 refine⟨w*E,?_⟩
 generalize (prN n fun i=>T i i)=Z at hdet
 generalize (P*P) ^ n=Y at hdet;grind
def tot:Nat->(Nat->Nat)->Nat
 | 0,_=>0
 | n+1,s=>tot n s+s n
theorem tot_up {s s':Nat->Nat}:∀ n,(∀ i,i<n->s' i<=s i+1)->tot n s'<=tot n s+n/\(tot n s'=tot n s+n->∀ i,i<n->s' i=s i+1)
 | 0,_=>⟨Yd 0,fun _ i hi=>by omega⟩
 | n+1,h=>by
  obtain⟨a,b⟩:=tot_up n fun i hi=>h i (by omega)
  have hn:=h n (by omega)
  refine⟨by show tot n s'+s' n<=tot n s+s n+(n+1);omega,fun e i hi=>?_⟩
  have e:tot n s'+s' n=tot n s+s n+(n+1):=e;by_cases c:i=n
  ·subst c;omega
  ·exact b (by omega) i (by omega)
theorem prN_pow {T:Nat->Vc}{s:Nat->Nat}:∀ n,(∀ i,i<n->T i i=(p:Int) ^ s i)->prN n (fun i=>T i i)=(p:Int) ^ tot n s
 | 0,_=>rfl
 | n+1,h=>by
  show prN n (fun i=>T i i)*T n n=(p:Int) ^ (tot n s+s n)
  rw[prN_pow n fun i hi=>h i (by omega),h n (by omega),Wt]
theorem pow_dvd_le {a b:Nat}(hp:2<=p)(h:(p:Int) ^ a ∣ (p:Int) ^ b):a<=b:=by
 rw[<- We,<- We,Int.natCast_dvd_natCast] at h;exact (Nat.pow_dvd_pow_iff_le_right (by omega)).mp h
theorem Stair.grow {T':Nat->Vc}(hp:2<=p)(hT:Stair n T)(hT':Stair n T'){s s':Nat->Nat}(es:∀ i,i<n->T i i=(p:Int) ^ s i)(es':∀ i,i<n->T' i i=(p:Int) ^ s' i)
  (sub:∀ i,i<n->InS n T' fun j=>(p:Int)*T i j) {r:Vc} (hr:InS n T' fun j=>sm n r T j) {k:Nat} (hk:k<n) (nd:¬ (p:Int) ∣ r k):tot n s'<tot n s+n:=by
 have hU:Stair n fun i j=>(p:Int)*T i j:=⟨fun i hi j hj=>by show (p:Int)*T i j=0;rw[hT.tri i hi j hj];omega,fun i hi z=>by
  rcases Int.mul_eq_zero.mp z with y | y
  ·omega
  ·exact hT.nz i hi y⟩
 have hle:∀ i,i<n->s' i<=s i+1:=fun i hi=>by
  have:=hT'.dvd hU sub hi
  rw[es' i hi,show (p:Int)*T i i=(p:Int) ^ (s i+1) by rw[es i hi,Y5,Zu]] at this
  exact pow_dvd_le hp this
 obtain⟨a,b⟩:=tot_up n hle;rcases Nat.lt_or_eq_of_le a with y | y
 ·exact y
 ·exfalso
  have hs:=hT'.same hU sub fun i hi=>by
   show (p:Int)*T i i=T' i i
   rw[es i hi,es' i hi,b y i hi,Y5,Zu]
  obtain⟨cr,er⟩:=hr;obtain⟨w,hw⟩:=InS.sm (c:=cr) (U:=T') n hs;have e:∀ j,sm n r T j=sm n (fun m=>(p:Int)*w m) T j:=fun j=>by
   have e1:sm n r T j=sm n cr T' j:=er j;have e2:sm n cr T' j=sm n w (fun i j=>(p:Int)*T i j) j:=hw j
   rw[e1,e2];exact sm_terms fun i _=>by grind
  exact nd ⟨_,hT.uniq n (Yd n) e k hk⟩
theorem Lor.le (X:Xr f n p φ ip)(hf:Top f n)(hn:1<=n)(hp:2<=p)(L:Lor n p φ ip d T){g:Fn}(hg:∀ m,m<n->g m=((m+1:Nat):Int)*f (m+1)){s:Nat->Nat}(es:∀ i,i<n->T i i=(p:Int) ^ s i)
  {z:Nat} {u:Int} (hD:(det n fun a c=>sgm n fun k=>g k*tk f n (k+a) c)=(p:Int) ^ z*u) (hu:¬ (p:Int) ∣ u):2*(d*n)<=2*tot n s+z:=by
 obtain⟨w,e⟩:=Lor.disc X hf hn (by omega) L hg
 rw[prN_pow n es,hD] at e;by_cases c:2*(d*n)<=2*tot n s+z
 ·exact c
 exfalso
 obtain⟨k,hk⟩:∃ k,2*(d*n)=2*tot n s+z+(k+1):=⟨2*(d*n) - (2*tot n s+z) - 1,by omega⟩
 have e1:((p:Int) ^ d*(p:Int) ^ d) ^ n=(p:Int) ^ (2*tot n s+z)*((p:Int)*(p:Int) ^ k):=by
  rw[<- Wt,<- Int.pow_mul,show (d+d)*n=2*(d*n) by rw[Wg];omega,hk,Wt,Y5,Zu ((p:Int) ^ k)]
 have e2:(p:Int) ^ tot n s*(p:Int) ^ tot n s*((p:Int) ^ z*u)=(p:Int) ^ (2*tot n s+z)*u:=by
  rw[Wt,show 2*tot n s=tot n s+tot n s by omega,Wt];grind
 rw[e1,e2,Wc] at e;have:=Zk (Int.pow_ne_zero (by omega)) e
 exact hu ⟨(p:Int) ^ k*w,by rw[this];grind⟩
end
end L2
namespace L2
open Alg Lean.Grind
section
variable {α:Type} [CommRing α]
theorem rest_low {M:Md α}{a:Ser α}(h:Dg a M.n):Alg.rest M a=a:=rest_eq h (Cg.refl _ _)
theorem nt_s {M:Md α}:∀ k:Nat,(nt (Qt M) k).s=cst (nt α k)
 | 0=>cst_zero.symm
 | k+1=>by
  show (nt (Qt M) k).s+1=cst (nt α k+1)
  rw[nt_s k,cst_add];rfl
theorem zc_s {M:Md α}(k:Int):(zc (Qt M) k).s=cst (zc α k):=by
 rcases Int.le_total 0 k with y | y
 ·obtain⟨n,rfl⟩:=Zc y
  rw[zc_nat,zc_nat,nt_s]
 ·obtain⟨n,e⟩:=Zc (show 0<=-k by omega)
  rw[show k=-(n:Int) by omega,zc_neg,zc_neg,zc_nat,zc_nat,s_neg,nt_s]
  apply Ser.ext
  funext i
  show -(cst (nt α n)).c i=if i=0 then -nt α n else 0
  show -(if i=0 then nt α n else 0)=_
  by_cases c:i=0
  ·rw[Wv c,Wv c]
  ·rw[Wu c,Wu c];grind
end
theorem zc_rat (k:Int):zc Rat k=(k:Rat):=rfl
section
variable {f:Fn} {n p:Nat}
def Sv (v:Vc):Ser Rat:=⟨fun i=>(v i:Rat)⟩
theorem sv_dg {v:Vc}{n:Nat}(h:∀ j,n<=j->v j=0):Dg (Sv v) n:=fun i hi=>by show ((v i:Int):Rat)=0;rw[h i hi];rfl
def Mf (hf:Top f n)(hn:1<=n):Md Rat:=⟨Sv f,n,⟨by show ((f n:Int):Rat)=1;rw[hf.one];rfl,sv_dg fun j hj=>hf.top j (by omega)⟩,hn⟩
def cutn (n:Nat)(v:Vc):Vc:=fun j=>if j<n then v j else 0
def phi (hf:Top f n)(hn:1<=n)(v:Vc):Qt (Mf hf hn):=⟨Sv (cutn n v),sv_dg fun j (hj:n<=j)=>Wu (by omega)⟩
theorem tk_cg (hf:Top f n)(hn:1<=n):∀ k,Cg (Sv f) (mon 1 k) (Sv (tk f n k))
 | 0=>by
  have:Sv (tk f n 0)=mon 1 0:=by
   apply Ser.ext;funext i
   show ((xp 0 i:Int):Rat)=if i=0 then 1 else 0
   unfold xp;by_cases c:i=0
   ·rw[Wv c,Wv c];rfl
   ·rw[Wu c,Wu c];rfl
  rw[this];exact Cg.refl _ _
 | k+1=>by
  have e1:(mon 1 (k+1):Ser Rat)=X*mon 1 k:=by
   apply Ser.ext;funext i
   show _=(mon 1 1*mon 1 k:Ser Rat).c i
   rw[mon_mul];show (if i=k+1 then (1:Rat) else 0)=if 1<=i then 1*(if i - 1=k then (1:Rat) else 0) else 0
   by_cases c:1<=i
   ·rw[Wv c]
    by_cases d:i=k+1
    ·rw[Wv d,Wv (by omega)];grind
    ·rw[Wu d,Wu (by omega)];grind
   ·rw[Wu c,Wu (by omega)]
  rw[e1];have px:IsP (Sv (tk f n k)):=⟨n,sv_dg fun j hj=>tk_lo hf hn k j hj⟩
  refine (Cg.mul IsP.X (⟨_,Dg.mon 1 k⟩) (Cg.refl _ _) (tk_cg hf hn k)).trans ⟨cst ((tk f n k (n - 1):Int):Rat),IsP.cst _,?_⟩
  apply Ser.ext;funext i
  rw[c_sub,cst_mul];show (mon 1 1*Sv (tk f n k):Ser Rat).c i - (((if i=0 then 0 else tk f n k (i - 1)) - tk f n k (n - 1)*f i:Int):Rat)=((tk f n k (n - 1):Int):Rat)*((f i:Int):Rat)
  rw[mon_mul,Rat.intCast_sub,Rat.intCast_mul];by_cases c:1<=i
  ·rw[Wv c,Wu (by omega)]
   show (1:Rat)*((tk f n k (i - 1):Int):Rat) - _=_
   grind
  ·rw[Wu c,Wv (by omega)]
   show (0:Rat) - ((0:Rat) - _)=_
   grind
theorem xr_ex (hf:Top f n)(hn:1<=n)(hp:1<=p):∃ ip,Xr f n p (phi hf hn) ip:=by
 have Mn:(Mf hf hn).n=n:=rfl;have d1:∀ x:Rat,Dg (cst x) (Mf hf hn).n:=fun x=>(Dg.cst x).mono (by rw[Mn];exact hn)
 have smu:∀ (x:Rat) (a b:Qt (Mf hf hn)),a.s=cst x->∀ i,(a*b).s.c i=x*b.s.c i:=fun x a b h i=>by
  rw[s_mul,h,rest_low,cst_mul];exact fun j hj=>by rw[cst_mul,b.lt j hj];grind
 have hp0:((p:Int):Rat)≠0:=fun z=>by
  have:((p:Int):Rat)=((0:Int):Rat):=z
  have:=Rat.intCast_inj.mp this
  omega
 refine⟨⟨cst ((p:Int):Rat)⁻¹,d1 _⟩,⟨fun a v w=>?_,fun v w e j hj=>?_,fun v w e=>?_⟩,?_,?_,fun a b ha hb=>?_⟩
 ·apply Qt.ext;apply Ser.ext;funext i
  rw[s_add,c_add,smu _ _ _ (zc_s a),zc_rat];show (((if i<n then a*v i+w i else 0:Int)):Rat)=(a:Rat)*(((if i<n then v i else 0:Int)):Rat)+(((if i<n then w i else 0:Int)):Rat)
  by_cases c:i<n
  ·rw[Wv c,Wv c,Wv c,Rat.intCast_add,Rat.intCast_mul]
  ·rw[Wu c,Wu c,Wu c]
   show (0:Rat)=(a:Rat)*0+0
   grind
 ·have h:(phi hf hn v).s.c j=(phi hf hn w).s.c j:=by rw[e]
  have h:(((if j<n then v j else 0:Int)):Rat)=(((if j<n then w j else 0:Int)):Rat):=h
  rw[Wv hj,Wv hj] at h;exact Rat.intCast_inj.mp h
 ·apply Qt.ext;apply Ser.ext;funext i
  show (((if i<n then v i else 0:Int)):Rat)=(((if i<n then w i else 0:Int)):Rat)
  by_cases c:i<n
  ·rw[Wv c,Wv c,e i c]
  ·rw[Wu c,Wu c]
 ·apply Qt.ext;apply Ser.ext;funext i
  rw[<- zc_nat,smu _ _ _ (zc_s (p:Int)),zc_rat];show ((p:Int):Rat)*(if i=0 then ((p:Int):Rat)⁻¹ else 0)=if i=0 then 1 else 0
  by_cases c:i=0
  ·rw[Wv c,Wv c];exact Rat.mul_inv_cancel _ hp0
  ·rw[Wu c,Wu c];grind
 ·apply Qt.ext;apply Ser.ext;funext i
  show (((if i<n then (if i=0 then 1 else 0) else 0:Int)):Rat)=if i=0 then 1 else 0
  by_cases c:i=0
  ·rw[Wv (by omega),Wv c,Wv c];rfl
  ·rw[Wu c,Wu c]
   by_cases h:i<n
   ·rw[Wv h];rfl
   ·rw[Wu h];rfl
 ·have hu:∀ a,a<n->(phi hf hn (un a)).s=mon 1 a:=fun a ha=>by
   apply Ser.ext;funext i
   show (((if i<n then (if i=a then 1 else 0) else 0:Int)):Rat)=if i=a then 1 else 0
   by_cases c:i=a
   ·rw[Wv (by omega),Wv c,Wv c];rfl
   ·rw[Wu c,Wu c]
    by_cases h:i<n
    ·rw[Wv h];rfl
    ·rw[Wu h];rfl
  apply Qt.ext
  rw[s_mul,hu a ha,hu b hb];refine rest_eq (phi hf hn _).lt ?_
  have e1:(mon 1 a*mon 1 b:Ser Rat)=mon 1 (a+b):=by
   apply Ser.ext;funext i
   rw[mon_mul];show (if a<=i then 1*(if i - a=b then (1:Rat) else 0) else 0)=if i=a+b then 1 else 0
   by_cases c:a<=i
   ·rw[Wv c]
    by_cases d:i=a+b
    ·rw[Wv d,Wv (by omega)];grind
    ·rw[Wu d,Wu (by omega)];grind
   ·rw[Wu c,Wu (by omega)]
  have e2:(phi hf hn (tk f n (a+b))).s=Sv (tk f n (a+b)):=by
   apply Ser.ext;funext i
   show (((if i<n then tk f n (a+b) i else 0:Int)):Rat)=((tk f n (a+b) i:Int):Rat)
   by_cases c:i<n
   ·rw[Wv c]
   ·rw[Wu c,tk_lo hf hn _ _ (by omega)]
  rw[e1,e2];exact tk_cg hf hn (a+b)
end
end L2
namespace K63
open PySem L2 Alg
abbrev Lq0:List Str:=["_law_script","_law_k","_law_cell","_law_more","_law_p","_law_n","_law_f","_law_due_here"]
abbrev Lq1:List Str:=["rows","p","many","width","left","place","at","lead_row"]
abbrev Lq2:List Str:=["rows","p","depth","power","left","told","place","lead"]
abbrev Lq3:List Str:=["f","p","lattice","depth","told","place","row","lead"]
abbrev Lq4:List Str:=["table","p","low","ideal","rows","line","row","one"]
abbrev Lq5:List Str:=["f","p","degree","lattice","depth","found","deeper"]
abbrev Lq6:List Str:=["rows","lead","place","power","told","row","often"]
abbrev Lq7:List Str:=["rows","place","p","power","those","row","back"]
abbrev Lq8:List Str:=["table","p","many","told","reached"]
abbrev Lq9:List Str:=["number","more","often","power"]
abbrev Lq10:List Str:=["table","one","other","p","row"]
abbrev Lq11:List Str:=["rows","lead","place","power"]
abbrev Lq12:List Str:=["row","lead_row","place","p"]
abbrev Lq13:List Str:=["one","lattice","f","power"]
abbrev Lq14:List Str:=["_law_number_here","_law_p"]
abbrev Lq15:List Str:=["one","other","factor","p"]
abbrev Lq16:List Str:=["rows","place","p","power"]
abbrev Lq17:List Str:=["f","one","other","power"]
abbrev Lq18:List Str:=["table","one","other","p"]
abbrev Lq19:List Str:=["width","place","number"]
abbrev Lq20:List Str:=["table","at","divisor"]
abbrev Lq21:List Str:=["_law_script","_law_k"]
abbrev Lq22:List Str:=["table","row","n","p"]
abbrev Lq23:List Str:=["f","lattice","power"]
abbrev Lq24:List Str:=["_law_cell","_law_f"]
abbrev Lq25:List Str:=["rows","p","depth"]
abbrev Lq26:List Str:=["row","place","p"]
abbrev Lq27:List Str:=["_law_f","_law_g"]
abbrev Lq28:List Str:=["_law_f","_law_p"]
abbrev Lq29:List Str:=["numbers","rows"]
abbrev Lq30:List Str:=["lattice","row"]
abbrev Lq31:List Str:=["_law_numbers"]
abbrev Lq32:List Str:=["rows","place"]
abbrev Lq33:List Str:=["number","p"]
abbrev Lq34:List Str:=["f","place"]
abbrev Lq35:List Str:=["table","p"]
abbrev Lq36:List Str:=["k","p"]
abbrev Lq37:List Str:=["f","g"]
abbrev Lq38:List Str:=["f","p"]
abbrev Lq39:List Str:=["thing"]
abbrev Rq(a:Addr):Option V:=some (.ref a)
abbrev Iq(i:Int):Option V:=some (.int i)
local macro_rules | `(tactic| walk_at "sc") => `(tactic| exact ⟨rfl, rfl, rfl, by decide +kernel, rfl, by decide +kernel, by decide +kernel⟩)
local macro_rules | `(tactic| walk_at "rd") => `(tactic| repeat ((fail_if_success with_reducible refine ite2 ?_ ?_); first | refine ⟨_, rfl, ?_⟩ | refine ⟨_, _, rfl, rfl, ?_⟩ | refine ⟨_, _, rfl, rfl, show (_ : Int) ≠ 0 by decide, ?_⟩ | refine ⟨_, _, rfl, rfl, show CMulO _ _ from mulOkR (by decide) (by decide), ?_⟩ | refine ⟨_, _, rfl, rfl, show CMulO _ _ from mulOkL (by decide) (by decide), ?_⟩ | refine ⟨_, _, rfl, rfl, show CDivW _ _ from (Bd.small (by decide) (by decide)).dv (by decide), ?_⟩ | refine ⟨_, _, rfl, rfl, show CPow _ _ from ⟨by decide, by decide, by decide⟩, ?_⟩ | refine ⟨show (_ : Int) ≠ 0 by decide, ?_⟩ | refine ⟨show CMulO _ _ from mulOkR (by decide) (by decide), ?_⟩ | refine ⟨show CMulO _ _ from mulOkL (by decide) (by decide), ?_⟩ | refine ⟨show CDivW _ _ from (Bd.small (by decide) (by decide)).dv (by decide), ?_⟩ | refine ⟨show CPow _ _ from ⟨by decide, by decide, by decide⟩, ?_⟩ | refine ⟨show scal _ _ = true from rfl, ?_⟩ | refine ⟨show isPlain _ = true from rfl, ?_⟩ | refine ⟨show Wr _ <= sizeLine from len_ok rfl, ?_⟩))
def top (i:Nat):Stmt:=PySem.Challenge.pw_branchdepth_k63_bases_refused.main.body.getD i (.Pass ⟨0,0,0,0⟩)
abbrev s_is_whole:Stmt:=top 12
theorem sc_is_whole:FnScope Lq39 Lq39 (defScope s_is_whole):=by walk_at "sc"
abbrev s_is_prime:Stmt:=top 13
theorem sc_is_prime:FnScope ["k"] ["k"] (defScope s_is_prime):=by walk_at "sc"
abbrev s_number_power:Stmt:=top 14
theorem sc_number_power:FnScope ["k","n","told","turn"] ["k","n"] (defScope s_number_power):=by walk_at "sc"
abbrev s_taken_out:Stmt:=top 15
theorem sc_taken_out:FnScope ["k","p","size"] Lq36 (defScope s_taken_out):=by walk_at "sc"
abbrev s_size_of_number:Stmt:=top 16
theorem sc_size_of_number:FnScope Lq36 Lq36 (defScope s_size_of_number):=by walk_at "sc"
abbrev s_is_polynomial:Stmt:=top 18
theorem sc_is_polynomial:FnScope ["thing","part"] Lq39 (defScope s_is_polynomial):=by walk_at "sc"
abbrev s_is_monic:Stmt:=top 19
theorem sc_is_monic:FnScope Lq39 Lq39 (defScope s_is_monic):=by walk_at "sc"
abbrev s_without_noughts_behind:Stmt:=top 20
theorem sc_without_noughts_behind:FnScope ["numbers","many"] ["numbers"] (defScope s_without_noughts_behind):=by walk_at "sc"
abbrev s_coefficient:Stmt:=top 21
theorem sc_coefficient:FnScope Lq34 Lq34 (defScope s_coefficient):=by walk_at "sc"
abbrev s_multiplied:Stmt:=top 22
theorem sc_multiplied:FnScope ["f","g","product","at","one","behind","other"] Lq37 (defScope s_multiplied):=by walk_at "sc"
abbrev s_derived:Stmt:=top 23
theorem sc_derived:FnScope ["f"] ["f"] (defScope s_derived):=by walk_at "sc"
abbrev s_divided:Stmt:=top 24
theorem sc_divided:FnScope ["f","g","rest","quotient","degree","place","lead","at","part"] Lq37 (defScope s_divided):=by walk_at "sc"
abbrev s_place_of_lead:Stmt:=top 26
theorem sc_place_of_lead:FnScope ["table","at","row"] ["table"] (defScope s_place_of_lead):=by walk_at "sc"
abbrev s_lessened:Stmt:=top 27
theorem sc_lessened:FnScope ["table","at","divisor","top","others"] Lq20 (defScope s_lessened):=by walk_at "sc"
abbrev s_determinant:Stmt:=top 28
theorem sc_determinant:FnScope ["table","rows","sign","lead","at"] ["table"] (defScope s_determinant):=by walk_at "sc"
abbrev s_resultant:Stmt:=top 29
theorem sc_resultant:FnScope ["f","g","degree","table","rest","turn"] Lq37 (defScope s_resultant):=by walk_at "sc"
abbrev s_discriminant:Stmt:=top 30
theorem sc_discriminant:FnScope ["f","degree","told"] ["f"] (defScope s_discriminant):=by walk_at "sc"
abbrev s_is_bounded_monic:Stmt:=top 35
theorem sc_is_bounded_monic:FnScope Lq39 Lq39 (defScope s_is_bounded_monic):=by walk_at "sc"
abbrev s_plain_size:Stmt:=top 36
theorem sc_plain_size:FnScope ["f","p","size"] Lq38 (defScope s_plain_size):=by walk_at "sc"
abbrev s_refuse_for_basis:Stmt:=top 37
theorem sc_refuse_for_basis:FnScope ["f","p","size"] Lq38 (defScope s_refuse_for_basis):=by walk_at "sc"
abbrev s_without_lead:Stmt:=top 39
theorem sc_without_lead:FnScope ["row","lead_row","place","p","factor"] Lq12 (defScope s_without_lead):=by walk_at "sc"
abbrev s_with_lead_one:Stmt:=top 40
theorem sc_with_lead_one:FnScope ["row","place","p","back"] Lq26 (defScope s_with_lead_one):=by walk_at "sc"
abbrev s_first_lead:Stmt:=top 41
theorem sc_first_lead:FnScope ["rows","place","at","row"] Lq32 (defScope s_first_lead):=by walk_at "sc"
abbrev s_kernel:Stmt:=top 42
theorem sc_kernel:FnScope Lq1 ["rows","p"] (defScope s_kernel):=by walk_at "sc"
abbrev s_back_by:Stmt:=top 44
theorem sc_back_by:FnScope ["k","power","one","other","factor","next_factor","quotient"] ["k","power"] (defScope s_back_by):=by walk_at "sc"
abbrev s_unit_row:Stmt:=top 45
theorem sc_unit_row:FnScope Lq19 Lq19 (defScope s_unit_row):=by walk_at "sc"
abbrev s_lead_at:Stmt:=top 46
theorem sc_lead_at:FnScope Lq7 Lq16 (defScope s_lead_at):=by walk_at "sc"
abbrev s_without:Stmt:=top 47
theorem sc_without:FnScope Lq6 Lq11 (defScope s_without):=by walk_at "sc"
abbrev s_triangular:Stmt:=top 48
theorem sc_triangular:FnScope Lq2 Lq25 (defScope s_triangular):=by walk_at "sc"
abbrev s_coordinates:Stmt:=top 49
theorem sc_coordinates:FnScope ["lattice","row","left","told","place","often"] Lq30 (defScope s_coordinates):=by walk_at "sc"
abbrev s_summed:Stmt:=top 50
theorem sc_summed:FnScope Lq29 Lq29 (defScope s_summed):=by walk_at "sc"
abbrev s_product_by:Stmt:=top 52
theorem sc_product_by:FnScope ["f","one","other","power","product","rest"] Lq17 (defScope s_product_by):=by walk_at "sc"
abbrev s_table_of:Stmt:=top 53
theorem sc_table_of:FnScope Lq23 Lq23 (defScope s_table_of):=by walk_at "sc"
abbrev s_times_by:Stmt:=top 54
theorem sc_times_by:FnScope Lq10 Lq18 (defScope s_times_by):=by walk_at "sc"
abbrev s_power_by:Stmt:=top 55
theorem sc_power_by:FnScope ["table","row","n","p","told","turn"] Lq22 (defScope s_power_by):=by walk_at "sc"
abbrev s_raised:Stmt:=top 56
theorem sc_raised:FnScope Lq8 Lq35 (defScope s_raised):=by walk_at "sc"
abbrev s_multipliers:Stmt:=top 57
theorem sc_multipliers:FnScope Lq4 Lq35 (defScope s_multipliers):=by walk_at "sc"
abbrev s_grown:Stmt:=top 58
theorem sc_grown:FnScope Lq5 Lq38 (defScope s_grown):=by walk_at "sc"
abbrev s_whole_basis:Stmt:=top 59
theorem sc_whole_basis:FnScope Lq3 Lq38 (defScope s_whole_basis):=by walk_at "sc"
abbrev s_q_cell_at:Stmt:=top 61
theorem sc_q_cell_at:FnScope Lq21 Lq21 (defScope s_q_cell_at):=by walk_at "sc"
abbrev s_q_number:Stmt:=top 62
theorem sc_q_number:FnScope ["_law_script","_law_k","_law_x","_law_total","_law_j"] Lq21 (defScope s_q_number):=by walk_at "sc"
abbrev s_q_trimmed:Stmt:=top 63
theorem sc_q_trimmed:FnScope ["_law_numbers","_law_many"] Lq31 (defScope s_q_trimmed):=by walk_at "sc"
abbrev s_q_times:Stmt:=top 64
theorem sc_q_times:FnScope ["_law_f","_law_g","_law_found","_law_i","_law_j"] Lq27 (defScope s_q_times):=by walk_at "sc"
abbrev s_q_outcome:Stmt:=top 65
theorem sc_q_outcome:FnScope ["_law_f","_law_p","e","_law_kinds","_law_others"] Lq28 (defScope s_q_outcome):=by walk_at "sc"
abbrev s_q_product:Stmt:=top 66
theorem sc_q_product:FnScope ["_law_some","_law_f","_law_one"] ["_law_some"] (defScope s_q_product):=by walk_at "sc"
abbrev s_q_odd:Stmt:=top 67
theorem sc_q_odd:FnScope ["_law_cell","_law_f","_law_some","_law_at"] Lq24 (defScope s_q_odd):=by walk_at "sc"
abbrev s_q_size:Stmt:=top 68
theorem sc_q_size:FnScope ["_law_number_here","_law_p","_law_found"] Lq14 (defScope s_q_size):=by walk_at "sc"
abbrev s_q_due:Stmt:=top 69
theorem sc_q_due:FnScope ["_law_f","_law_p","_law_number_here"] Lq28 (defScope s_q_due):=by walk_at "sc"
abbrev s_law:Stmt:=top 70
theorem sc_law:FnScope Lq0 ["_law_script"] (defScope s_law):=by walk_at "sc"
structure Blt (mg:Str->Option Value):Prop where
 «ValueError»:mg "ValueError"=none
 «abs»:mg "abs"=none
 «any»:mg "any"=none
 «bool»:mg "bool"=none
 «enumerate»:mg "enumerate"=none
 «int»:mg "int"=none
 «isinstance»:mg "isinstance"=none
 «len»:mg "len"=none
 «list»:mg "list"=none
 «min»:mg "min"=none
 «range»:mg "range"=none
 «reversed»:mg "reversed"=none
 «sum»:mg "sum"=none
 «tuple»:mg "tuple"=none
 «zip»:mg "zip"=none
def spIsWhole (K:FrQ):Sp:=fun vs H Q _=>∃ (x:V) (T:String),vs=[x]/\TyB K H x T/\Q (.bl (decide (T="int"))) H
def spTaken:Sp:=fun vs H Q _=>∃ k p:Int,vs=[.int k,.int p]/\k≠0/\2<=p/\p<2 ^ 62/\∀ (v:Nat) (m:Int) (r:Addr) (H':Hp),Same H H'->k=p ^ v*m->¬ p ∣ m->H' r=some (.tup [.int v,.int m])->Q (.ref r) H'
def SizeV (p k:Int)(x:V):Prop:=(k=0/\x=.non)\/(k≠0/\∃ v:Nat,IsVal p k v/\x=.int v)
def spSizeN:Sp:=fun vs H Q _=>∃ k p:Int,vs=[.int k,.int p]/\2<=p/\p<2 ^ 62/\∀ (x:V) (H':Hp),Same H H'->SizeV p k x->Q x H'
section
variable {P:Program} {w:World} {K:FrQ} {mg:Str->Option Value} {base:Heap}
theorem ok_is_whole (B:Blt mg)(F:Src K mg "is_whole" s_is_whole Lq39):Dfn P w K mg base 1 "is_whole" Lq39 (spIsWhole K):=by
 refine F.ok sc_is_whole (fun vs H Q E h=>?_) (fun f cdv A outer s H vs Q E hr h=>?_)
 ·obtain⟨x,T,rfl,_⟩:=h;rfl
 obtain⟨x,T,rfl,ty,q⟩:=h;refine⟨_,pss_one (ps_ret (pe_and (pe_callB (callK_isinst (K:=K) rfl) rfl B.«isinstance» bt_isinstance (pa_cons (pv 0) (pa_cons (pe_bltn (v:=.ty "int") rfl B.«int» bt_int rfl) pa_nil))) (pe_one (pe_not (pe_callB (callK_isinst (K:=K) rfl) rfl B.«isinstance» bt_isinstance (pa_cons (pv 0) (pa_cons (pe_bltn (v:=.ty "bool") rfl B.«bool» bt_bool rfl) pa_nil))))))),?_⟩
 cases ty with
 | non=>exact⟨_,rfl,_,_,"int",false,rfl,.non,by with_unfolding_all rfl,_,rfl,q⟩
 | bl b=>exact⟨_,rfl,_,_,"int",true,rfl,.bl b,by with_unfolding_all rfl,_,rfl,_,rfl,_,_,"bool",true,rfl,.bl b,rfl,_,rfl,q⟩
 | int i=>exact⟨_,rfl,_,_,"int",true,rfl,.int i,rfl,_,rfl,_,rfl,_,_,"bool",false,rfl,.int i,by with_unfolding_all rfl,_,rfl,q⟩
 | str b=>exact⟨_,rfl,_,_,"int",false,rfl,.str b,by with_unfolding_all rfl,_,rfl,q⟩
 | lst e=>exact⟨_,rfl,_,_,"int",false,rfl,.lst e,by with_unfolding_all rfl,_,rfl,q⟩
 | tup e=>exact⟨_,rfl,_,_,"int",false,rfl,.tup e,by with_unfolding_all rfl,_,rfl,q⟩
theorem ok_taken_out (F:Src K mg "taken_out" s_taken_out Lq36):Dfn P w K mg base 1 "taken_out" Lq36 spTaken:=by
  refine F.ok sc_taken_out (fun vs H Q E h=>?_) (fun f cdv A outer s H vs Q E hr h=>?_)
  . obtain⟨a,b,rfl,_⟩:=h;rfl
  obtain⟨k,p,rfl,h0,hp,hp2,q⟩:=h;refine⟨_,pss_cons (ps_set (i:=2) sc_taken_out.nd rfl (Or.inl rfl) pe_int)
    (pss_cons (ps_while PassesOwn.never (pt_cmpR op_eq (pe_op op_modN (pv 0) (pv 1)) pe_int (nomark _))
      (pss_cons (ps_set (i:=0) sc_taken_out.nd rfl (Or.inl rfl) (pe_op op_fdivW (pv 0) (pv 1)))
      (pss_one (ps_aug (i:=2) sc_taken_out.nd rfl (Or.inl rfl) pe_int iop_add))))
    (pss_one (ps_ret (pe_tup (pa_cons (pv 2) (pa_cons (pv 0) pa_nil)))))),?_⟩
  refine while_by (fun σ H2=>H2=H/\∃ (m:Int) (v:Nat),σ=[some (.int m),some (.int p),some (.int v)]/\m≠0/\k=p ^ v*m) (fun σ _=>match σ with | some (.int m)::_=>m.natAbs | _=>0) ?_ ?_ ?_
  . exact⟨rfl,k,0,rfl,h0,by simp⟩
  . rintro σ H2 ⟨rfl,m,v,rfl,hm,hk⟩
    refine⟨_,rfl,_,rfl,_,_,rfl,rfl,show p≠0 by omega,rfl,_,rfl,?_⟩
    refine ite2 (fun c=>?_) (fun c=>?_)
    . have c':m.fmod p=0:=V.int.inj (Wx c)
      obtain⟨m',rfl⟩:=(fmod_dvd (by omega)).mp c'
      have hm':m'≠0:=fun z=>hm (by rw[z];simp)
      refine⟨_,rfl,_,rfl,_,_,rfl,rfl,(Bd.small (by omega) (by omega)).dv (by omega),?_⟩
      refine⟨_,rfl,_,_,rfl,rfl,⟨rfl,m',v+1,?_,hm',?_⟩,?_⟩
      . show [some (V.int ((p*m').fdiv p)),some (V.int p),some (V.int ((v:Int)+1))]=_
        rw[fdiv_exact (show p≠0 by omega)]
        rfl
      . rw[hk,Y5];ac_rfl
      . show ((p*m').fdiv p).natAbs<(p*m').natAbs
        rw[fdiv_exact (show p≠0 by omega),Zf]
        have h2:2<=p.natAbs:=by omega
        have h3:0<m'.natAbs:=by omega
        calc m'.natAbs<2*m'.natAbs:=by omega
          _<=p.natAbs*m'.natAbs:=Y1 _ h2
    . have c':¬ p ∣ m:=fun z=>c (Ww (Wz V.int ((fmod_dvd (by omega)).mpr z)))
      refine⟨_,rfl,_,rfl,len_ok rfl,fun r hr'=>?_⟩
      exact q v m r _ (same_new hr' _) hk c' upd_same
  . rintro σ H Q Q' f ⟨v,e,v2,e2,i,j,e3,e4,c,s,k,ek,h⟩
    exact⟨v,e,v2,e2,i,j,e3,e4,c,s,k,ek,f _ _ h⟩
theorem ok_size_of_number (d_taken_out:Dfn P w K mg base 1 "taken_out" Lq36 spTaken)(F:Src K mg "size_of_number" s_size_of_number Lq36):Dfn P w K mg base 2 "size_of_number" Lq36 spSizeN:=by
 refine F.ok sc_size_of_number (fun vs H Q E h=>?_) (fun f cdv A outer s H vs Q E hr h=>?_)
 ·obtain⟨a,b,rfl,_⟩:=h;rfl
 obtain⟨k,p,rfl,hp,hp2,q⟩:=h;refine⟨_,pss_cons (ps_if (pt_cmpR op_eq (pv 0) pe_int (nomark _))
   (pss_one (ps_ret pe_non))
   (pss_nil))
  (pss_one (ps_ret (pe_ix (ixK_tup (K:=K) rfl) (pe_def d_taken_out hr (pa_cons (pv 0) (pa_cons (pv 1) pa_nil))) pe_int (fun _ _=>rfl)))),?_⟩
 refine⟨_,rfl,rfl,_,rfl,?_⟩
 refine ite2 (fun c=>?_) (fun c=>?_)
 ·exact q _ H (Same.refl H) (.inl ⟨V.int.inj (Wx c),rfl⟩)
 ·have h0:k≠0:=fun z=>c (Ww (Wz V.int z))
  refine⟨_,rfl,_,rfl,k,p,rfl,h0,hp,hp2,fun v m r H' g hk hm e=>?_⟩
  exact⟨_,_,_,_,rfl,rfl,SqT.of e,rfl,q _ H' g (.inr ⟨h0,v,IsVal.of (by omega) hk hm,rfl⟩)⟩
end
section
variable {P:Program} {w:World} {K:FrQ} {mg:Str->Option Value} {base:Heap}
theorem ok_number_power (B:Blt mg)(F:Src K mg "number_power" s_number_power ["k","n"]):Dfn P w K mg base 1 "number_power" ["k","n"] spNumPow:=by
 refine F.ok sc_number_power (fun vs H Q E h=>?_) (fun fa cdv A outer s H vs Q E hr h=>?_)
 ·obtain⟨k,n,rfl,_⟩:=h;rfl
 obtain⟨k,n,rfl,hk,hn,q⟩:=h;refine⟨_,pss_cons (ps_set (i:=2) sc_number_power.nd rfl (Or.inl rfl) pe_int)
  (pss_cons (ps_for PassesOwn.never rfl (pi_range1 rfl B.«range» (pa_cons (pv 1) pa_nil)) (pg_name (i:=3) sc_number_power.nd rfl (Or.inl rfl))
   (pss_one (ps_set (i:=2) sc_number_power.nd rfl (Or.inl rfl) (pe_op op_mulO (pv 2) (pv 0)))))
  (pss_one (ps_ret (pv 2)))),?_⟩
 walk_at "rd"
 refine⟨by omega,by omega,?_⟩
 have b:∀ i:Nat,i<=100->Bd 640 ((k ^ i:Nat):Int):=fun i hi=>by
  show ((k ^ i:Nat):Int).natAbs<_
  rw[Int.natAbs_natCast];refine Zv (Nat.pow_le_pow_left (show k<=2 ^ 6 by omega) i) ?_
  rw[<- Nat.pow_mul];exact Z7 (by decide) (by omega)
 rw[Yk];refine for_range (fun i σ H2=>H2=H/\∃ o,σ=[some (.int k),some (.int n),Iq ((k ^ i:Nat)),o]) ⟨rfl,_,rfl⟩ ?_ ?_
 ·rintro i σ H2 hi ⟨rfl,o,rfl⟩
  refine⟨_,rfl,_,rfl,_,_,rfl,rfl,(b i (by omega)).ok (Bd.small (x:=(k:Int)) (by omega) (by omega)),?_⟩
  have e:((k ^ (i+1):Nat):Int)=((k ^ i:Nat):Int)*(k:Int):=by rw[Z5,Zz]
  rw[e];exact⟨rfl,_,rfl⟩
 ·rintro σ H2 ⟨rfl,o,rfl⟩
  exact⟨_,rfl,q⟩
end
def mxL (ls:List (List Int)):Mx:=fun i j=>(ls.getD i []).getD j 0
structure Sqr (m:Nat)(ts:List LP):Prop where
 len:ts.length=m
 row:∀ t∈ts,t.2.length=m
theorem mxL_at {ts:List LP}{i:Nat}(hi:i<ts.length)(j:Nat):mxL (lvals ts) i j=ts[i].2.getD j 0:=by
 have:(lvals ts).getD i []=ts[i].2:=by simp[Yb,hi]
 unfold mxL;rw[this]
theorem at_row {xs:List Int}{j:Nat}(h:j<xs.length):atI (xs.map V.int) (j:Int)=some (.int (xs.getD j 0)):=by
 rw[atI_get_nat (by omega) (by rw[Ya];omega)]
 simp[Yb,h]
def spLead (K:FrQ):Sp:=fun vs H Q _=>∃ (p:Addr) (ts:List LP),vs=[.ref p]/\LLs H p ts/\(∀ t∈ts,0<t.2.length)/\ts.length<=1000/\
 (∀ (t:Nat) (H':Hp),Same H H'->t<ts.length->mxL (lvals ts) t 0≠0->Q (.int (t:Int)) H')/\∀ H',Same H H'->(∀ i,i<ts.length->mxL (lvals ts) i 0=0)->Q .non H'
section
variable {P:Program} {w:World} {K:FrQ} {mg:Str->Option Value} {base:Heap}
theorem ok_place_of_lead (B:Blt mg)(F:Src K mg "place_of_lead" s_place_of_lead ["table"]):Dfn P w K mg base 1 "place_of_lead" ["table"] (spLead K):=by
 refine F.ok sc_place_of_lead (fun vs H Q E h=>?_) (fun f cdv A outer s' H vs Q E hr h=>?_)
 ·obtain⟨p,ts,rfl,_⟩:=h;rfl
 obtain⟨p,ts,rfl,hT,hp,lt,q1,q2⟩:=h;refine⟨_,pss_cons (ps_for PassesOwn.never rfl (piK_enum (K:=K) rfl rfl B.«enumerate» (pa_cons (pv 0) pa_nil)) (pgK_tup (n:=2) (K:=K) rfl rfl (pgs_cons (pg_name (i:=1) sc_place_of_lead.nd rfl (Or.inl rfl)) (pgs_cons (pg_name (i:=2) sc_place_of_lead.nd rfl (Or.inl rfl)) pgs_nil)))
   (pss_one (ps_if (pt_cmpR op_ne (pe_ix (ixK_list (K:=K) rfl) (pv 2) pe_int (fun _ _=>rfl)) pe_int (nomark _))
    (pss_one (ps_ret (pv 1)))
    (pss_nil))))
  (pss_one (ps_ret pe_non)),?_⟩
 have lrl:(lrefs ts).length=ts.length:=Ya _;refine⟨_,rfl,p,rfl,⟨_,hT.sql⟩,for_enum (st:=0) (xs:=lrefs ts) (fun i σ H2=>Same H H2/\(∃ o1 o2,σ=[Rq p,o1,o2])/\∀ j,j<i->mxL (lvals ts) j 0=0) ⟨Same.refl _,⟨_,_,rfl⟩,fun j hj=>W1 hj (by omega)⟩ (fun i σ H2 _ h=>(hT.same h.1).sql) ?_ ?_⟩
 ·rintro i x σ H2 r hx ⟨gg,⟨o1,o2,rfl⟩,hz⟩ hr'
  obtain⟨hi,rfl⟩:=lrefs_get hx;have gr:=same_new hr' (.tup [.int ((0+i:Nat):Int),.ref ts[i].1]);have g2:=gg.trans gr;have e1:=g2 _ _ (hT.it ts[i] (Yw _));have a0:=at_row (xs:=ts[i].2) (j:=0) (hp ts[i] (Yw _));have em:=mxL_at hi 0;refine⟨r,_,rfl,SqT.of upd_same,rfl,_,_,rfl,_,_,rfl,rfl,?_⟩
  refine⟨_,rfl,ts[i].1,_,_,_,rfl,rfl,SqL.of e1,a0,rfl,_,rfl,?_⟩
  rw[<- em];by_cases c:mxL (lvals ts) i 0=0
  ·refine iteNS (Wz V.int c) ⟨g2,⟨_,_,rfl⟩,fun j hj=>?_⟩
   by_cases e:j=i
   ·rw[e];exact c
   ·exact hz j (by omega)
  ·refine iteS (fun z=>c (V.int.inj z)) ⟨_,rfl,?_⟩
   simp only[Wo] at g2 ⊢
   exact q1 i _ g2 hi c
 ·rintro σ H2 ⟨gg,_,hz⟩
  exact q2 H2 gg fun i hi=>hz i (by rw[lrl];exact hi)
end
def lsn (ts:List LP)(t m:Nat)(d:Int)(a:Nat):List Int:=(Yj m).map fun c=>(chi (fun a c=>mxL (lvals ts) (cyc t a) c) a c).fdiv d
def spLessen (K:FrQ):Sp:=fun vs H Q _=>∃ (p:Addr) (ts:List LP) (t m:Nat) (d:Int),vs=[.ref p,.int (t:Int),.int d]/\LLs H p ts/\Sqr (m+1) ts/\t<m+1/\m<=100/\d≠0/\Bd 9000 d/\(∀ i j,i<m+1->j<m+1->Bd 9000 (mxL (lvals ts) i j))/\
 ∀ (q:Addr) (us:List LP) (H':Hp),Same H H'->H q=none->LLs H' q us->lvals us=(Yj m).map (lsn ts t m d)->Q (.ref q) H'
theorem cutV_dropV {xs:List V}{k:Nat}(h:k<=xs.length):cutV xs (some (k:Int)) none=xs.drop k:=by
 unfold cutV;have e1:HT.sIx xs.length 0 (some (k:Int))=k:=by rw[HT.sIx_nat];omega
 have e2:HT.sIx xs.length xs.length none=xs.length:=rfl;rw[e1,e2,Ze (by rw[Yz];exact Yd _)]
theorem cutV_takeV {xs:List V}{k:Nat}(h:k<=xs.length):cutV xs none (some (k:Int))=xs.take k:=by
 unfold cutV;have e1:HT.sIx xs.length 0 none=0:=rfl;have e2:HT.sIx xs.length xs.length (some (k:Int))=k:=by rw[HT.sIx_nat];omega
 rw[e1,e2,Nat.sub_zero,List.drop_zero]
section
variable {P:Program} {w:World} {K:FrQ} {mg:Str->Option Value} {base:Heap}
theorem os_get {ts:List LP}{t a:Nat}(ht:t<ts.length):(ts.take t++ts.drop (t+1))[a]?=ts[skp t a]?:=by
 unfold skp;by_cases c:a<t
 ·rw[Wv c,Y2 (by rw[Yr];omega),List.getElem?_take,Wv c]
 ·rw[Wu c,Y0 (by rw[Yr];omega),Yr,List.getElem?_drop]
  congr 1
  omega
theorem ok_lessened (B:Blt mg)(F:Src K mg "lessened" s_lessened Lq20):Dfn P w K mg base 1 "lessened" Lq20 (spLessen K):=by
 refine F.ok sc_lessened (fun vs H Q E h=>?_) (fun f cdv A outer s' H vs Q E hr h=>?_)
 ·obtain⟨p,ts,t,m,d,rfl,_⟩:=h;rfl
 obtain⟨p,ts,t,m,d,rfl,hT,sq,ht,hm,d0,bd,bT,q⟩:=h;refine⟨_,pss_cons (ps_set (i:=3) sc_lessened.nd rfl (Or.inr rfl) (pe_ix (ixK_list (K:=K) rfl) (pv 0) (pv 1) (fun _ _=>rfl)))
  (pss_cons (ps_set (i:=4) sc_lessened.nd rfl (Or.inl rfl) (pe_op op_cat (pe_slice (slK_list (K:=K) rfl) (pv 0) po_none (po_some (pv 1))) (pe_slice (slK_list (K:=K) rfl) (pv 0) (po_some (pe_op op_add (pv 1) pe_int)) po_none)))
  (pss_one (ps_ret (pe_compC (compScopeC_mk (N:=["row","top","divisor"]) (sl:=[none,some 3,some 2]) "row" (defScope s_lessened) ["table","at","divisor","top","others"] rfl rfl (by decide +kernel)) rfl (piK_list (K:=K) rfl (pv 4)) (fun _ _ _ _ _=>(pg_name (i:=0) (by show Yo (["row","top","divisor"]:List Str);decide +kernel) rfl (Or.inr rfl))) (fun _ _ _ _ _=>pif_none) (fun _ _ _ _ _=>(pe_comp (compScope_mk (N:=["place","top","row","divisor"]) (sl:=[none,some 1,some 0,some 2]) (relabelS (stComp ((defBody s_lessened).getD 2 (.Pass ⟨0,0,0,0⟩))) (defScope s_lessened)) ["row","top","divisor"] rfl rfl (by decide +kernel)) rfl (pi_range2 rfl B.«range» (pa_cons pe_int (pa_cons (pe_callB (callK_len (K:=K) rfl) rfl B.«len» bt_len (pa_cons (pv 0) pa_nil)) pa_nil))) (fun _ _ _ _ _=>(pg_name (i:=0) (by show Yo (["place","top","row","divisor"]:List Str);decide +kernel) rfl (Or.inl rfl))) (fun _ _ _ _ _=>pif_none) (fun _ _ _ _ _=>(pe_op op_fdivW (pe_op op_sub (pe_op op_mulO (pe_ix (ixK_list (K:=K) rfl) (pv 1) pe_int (fun _ _=>rfl)) (pe_ix (ixK_list (K:=K) rfl) (pv 2) (pv 0) (fun _ _=>rfl))) (pe_op op_mulO (pe_ix (ixK_list (K:=K) rfl) (pv 2) pe_int (fun _ _=>rfl)) (pe_ix (ixK_list (K:=K) rfl) (pv 1) (pv 0) (fun _ _=>rfl)))) (pv 3))))))))),?_⟩
 have lrl:(lrefs ts).length=m+1:=by rw[Ya];exact sq.len
 have htl:t<ts.length:=by rw[sq.len];exact ht
 have at_t:atI (lrefs ts) (t:Int)=some (.ref ts[t].1):=by
  rw[atI_get_nat (by omega) (by rw[lrl];omega)]
  simp
 refine⟨_,rfl,_,rfl,p,_,_,_,rfl,rfl,hT.sql,at_t,?_⟩
 walk_at "rd"
 refine⟨p,_,rfl,hT.sql,fun p1 n1=>?_⟩
 rw[cutV_takeV (by rw[lrl];omega)]
 have k1:=same_new n1 (.lst ((lrefs ts).take t));refine⟨_,rfl,_,rfl,_,_,rfl,rfl,_,rfl,p,_,rfl,(hT.same k1).sql,fun p2 n2=>?_⟩
 rw[show (t:Int)+1=((t+1:Nat):Int) by omega] at*
 rw[cutV_dropV (by rw[lrl];omega)] at*
 have k2:=same_new n2 (.lst ((lrefs ts).drop (t+1)));refine⟨p1,p2,_,_,rfl,rfl,k2 _ _ upd_same,upd_same,by rw[Yr,Yz,lrl,sizeLine_eq];omega,fun p3 n3=>?_⟩
 have k3:=same_new n3 (.lst ((lrefs ts).take t++(lrefs ts).drop (t+1)));have e3:=upd_same (H:=L2.upd (L2.upd H p1 (.lst ((lrefs ts).take t))) p2 (.lst ((lrefs ts).drop (t+1)))) (a:=p3) (o:=.lst ((lrefs ts).take t++(lrefs ts).drop (t+1)));have g3:=(k1.trans k2).trans k3;generalize L2.upd (L2.upd (L2.upd H p1 (.lst ((lrefs ts).take t))) p2 (.lst ((lrefs ts).drop (t+1)))) p3 (.lst ((lrefs ts).take t++(lrefs ts).drop (t+1)))=H3 at e3 g3 ⊢;have eos:(lrefs ts).take t++(lrefs ts).drop (t+1)=lrefs (ts.take t++ts.drop (t+1)):=by simp[lrefs,List.map_take,List.map_drop]
 rw[eos] at e3;have hos:=fun a=>os_get (ts:=ts) (t:=t) (a:=a) htl
 have los:(ts.take t++ts.drop (t+1)).length=m:=by rw[Yl,Yr,Yz,sq.len];omega
 generalize ts.take t++ts.drop (t+1)=os at e3 hos los;clear k1 k2 k3 eos n1 n2 n3;have hT3:=hT.same g3;have lro:(lrefs os).length=m:=by rw[Ya];exact los
 have et:=hT3.it ts[t] (Yw _);have lt_:=sq.row ts[t] (Yw _);have emt:=fun j=>mxL_at htl j
 generalize ts[t]=tt at et lt_ emt at_t ⊢;refine⟨_,rfl,p3,rfl,⟨_,SqL.of e3⟩,fun D hD=>comp_list (xs:=lrefs os) (fun a ys H4=>Same H3 H4/\∃ us:List LP,ys=lrefs us/\(∀ u∈us,H4 u.1=some (.lst (u.2.map V.int))/\u.1≠D)/\lvals us=(Yj a).map (lsn ts t m d)) ⟨same_new hD _,[],rfl,fun u hu=>by simp at hu,rfl⟩ (fun a ys H4 _ h=>SqL.of (h.1 _ _ e3)) (fun a m' x ys H4 hm' ha hx hy hlen h=>?_) (fun ys H4 hy h=>?_)⟩
 ·obtain⟨g4,us,rfl,hu,hv⟩:=h
  obtain⟨ha',rfl⟩:=lrefs_get hx;have hsk:skp t a<ts.length:=by rw[sq.len];exact skp_lt (by omega)
  have eoa:os[a]=ts[skp t a]:=by
   have:=hos a
   rw[Yc ha',Yc hsk] at this;exact Option.some.inj this
  rw[eoa];have er:=g4 _ _ (hT3.it ts[skp t a] (Yw _));have lr_:=sq.row ts[skp t a] (Yw _);have emr:=fun j=>mxL_at hsk j
  generalize ts[skp t a]=rr at er lr_ emr ⊢;have et4:=g4 _ _ et;have lrr:(rr.2.map V.int).length=m+1:=by rw[Ya];exact lr_
  refine⟨_,rfl,rr.1,_,rfl,.inl (SqL.of er),?_⟩
  rw[lrr];refine⟨1,_,rfl,⟨by decide,by decide,by omega,by omega⟩,fun D2 hD2=>?_⟩
  rw[show ((m+1:Nat):Int) - 1=(m:Int) by omega,Yk]
  refine comp_range (fun c zs H5=>Same H4 H5/\zs=((Yj c).map fun c=>(chi (fun a c=>mxL (lvals ts) (cyc t a) c) a c).fdiv d).map V.int) ⟨same_new hD2 _,rfl⟩ (fun c m2 zs H5 hm2 hc hy2 hlen2 h2=>?_) (fun zs H5 hy2 h2=>?_)
  ·obtain⟨g5,rfl⟩:=h2
   have er5:=g5 _ _ er;have et5:=g5 _ _ et4;have at0:=at_row (xs:=tt.2) (j:=0) (by omega)
   have at1:=at_row (xs:=tt.2) (j:=c+1) (by omega)
   have ar0:=at_row (xs:=rr.2) (j:=0) (by omega)
   have ar1:=at_row (xs:=rr.2) (j:=c+1) (by omega)
   rw[<- emt] at at0 at1;rw[<- emr] at ar0 ar1;rw[show (1:Int)+(c:Int)=((c+1:Nat):Int) by omega]
   have hskm:skp t a<m+1:=by rw[<- sq.len];exact hsk
   have b1:=bT t 0 ht (by omega)
   have b2:=bT (skp t a) (c+1) hskm (by omega)
   have b3:=bT (skp t a) 0 hskm (by omega)
   have b4:=bT t (c+1) ht (by omega)
   refine⟨_,rfl,tt.1,_,_,_,rfl,rfl,SqL.of et5,at0,_,rfl,_,rfl,rr.1,_,_,_,rfl,rfl,SqL.of er5,ar1,_,_,rfl,rfl,b1.ok b2,?_⟩
   refine⟨_,rfl,rr.1,_,_,_,rfl,rfl,SqL.of er5,ar0,_,rfl,_,rfl,tt.1,_,_,_,rfl,rfl,SqL.of et5,at1,_,_,rfl,rfl,b3.ok b4,?_⟩
   refine⟨_,_,rfl,rfl,_,rfl,_,_,rfl,rfl,bd.dv d0,?_⟩
   refine CW.emit hm2 hc (by rw[sizeLine_eq];omega) hy2 hlen2 ⟨Same.free_upd g5 hD2 _,?_⟩
   rw[Wn,Y6,Y6];rfl
  ·obtain⟨g5,rfl⟩:=h2
   have hyD:=g5 _ _ hy;have hDD:D2≠D:=fun z=>by rw[z,hy] at hD2;cases hD2
   refine CW.emit hm' ha (by rw[lro,sizeLine_eq];omega) hyD hlen ⟨Same.free_upd (g4.trans g5) hD _,us++[(D2,lsn ts t m d a)],by simp[lrefs],fun u mu=>?_,?_⟩
   ·rcases List.mem_append.mp mu with y | y
    ·obtain⟨u1,u2⟩:=hu u y
     exact⟨by rw[upd_ne u2];exact g5 _ _ u1,u2⟩
    ·have:u=(D2,lsn ts t m d a):=by simpa using y
     rw[this];exact⟨by rw[upd_ne hDD];exact hy2,hDD⟩
   ·have el:lvals (us++[((D2,lsn ts t m d a):LP)])=lvals us++[lsn ts t m d a]:=by simp[lvals]
    rw[el,Wn,Y6,hv];rfl
 ·obtain⟨g4,us,rfl,hu,hv⟩:=h
  rw[lro] at hv;exact q D us H4 (g3.trans g4) (g3.free hD) ⟨hy,fun u mu=>(hu u mu).1⟩ hv
end
theorem lsn_mx {ts us:List LP}{t m:Nat}{d:Int}(h:lvals us=(Yj m).map (lsn ts t m d)):Sqr m us/\∀ a c,a<m->c<m->mxL (lvals us) a c=(chi (fun a c=>mxL (lvals ts) (cyc t a) c) a c).fdiv d:=by
 have hl:us.length=m:=by have:=Wz Wr h;simpa using this
 refine⟨⟨hl,fun u hu=>?_⟩,fun a c ha hc=>?_⟩
 ·have:u.2∈lvals us:=List.mem_map_of_mem hu
  rw[h] at this;obtain⟨a,_,e⟩:=List.mem_map.mp this;rw[<- e];simp[lsn]
 ·have e:(lvals us).getD a []=lsn ts t m d a:=by rw[h];simp[Yb,ha]
  show ((lvals us).getD a []).getD c 0=_
  rw[e];unfold lsn;rw[Yb,Ye,Yu hc];rfl
def spDet (K:FrQ):Sp:=fun vs H Q _=>∃ (p:Addr) (ts:List LP) (n E:Nat),vs=[.ref p]/\LLs H p ts/\Sqr n ts/\n<=26/\n*(E+5)<9000/\(∀ i j,i<n->j<n->(mxL (lvals ts) i j).natAbs<=2 ^ E)/\∀ H',Same H H'->Q (.int (det n (mxL (lvals ts)))) H'
theorem bd_le {x:Int}{k:Nat}(hk:k<9000)(h:x.natAbs<=2 ^ k):Bd 9000 x:=Zv h (Z7 (by decide) hk)
def μd:St->Hp->Nat:=fun σ H=>match σ with
 | [_,some (.ref p),_,_,_]=>match H p with
  | some (.lst xs)=>xs.length
  | _=>0
 | _=>0
section
variable {P:Program} {w:World} {K:FrQ} {mg:Str->Option Value} {base:Heap}
theorem ok_determinant (B:Blt mg)(d_place_of_lead:Dfn P w K mg base 1 "place_of_lead" ["table"] (spLead K))(d_lessened:Dfn P w K mg base 1 "lessened" Lq20 (spLessen K))(F:Src K mg "determinant" s_determinant ["table"]):Dfn P w K mg base 2 "determinant" ["table"] (spDet K):=by
 refine F.ok sc_determinant (fun vs H Q E h=>?_) (fun f cdv A outer s' H vs Q E hr h=>?_)
 ·obtain⟨p,ts,n,E,rfl,_⟩:=h;rfl
 obtain⟨p0,ts0,n,E9,rfl,hT0,sq0,hn,hE9,bA,q⟩:=h;refine⟨_,pss_cons (ps_set (i:=1) sc_determinant.nd rfl (Or.inl rfl) (pv 0))
  (pss_cons (ps_set (i:=2) sc_determinant.nd rfl (Or.inl rfl) pe_int)
  (pss_cons (ps_set (i:=3) sc_determinant.nd rfl (Or.inl rfl) pe_int)
  (pss_cons (ps_while PassesOwn.never (pt_cmpR (opK_neD (K:=K) rfl hr.units) (pv 1) (pe_lst pa_nil) (nomark _))
   (pss_cons (ps_set (i:=4) sc_determinant.nd rfl (Or.inl rfl) (pe_def d_place_of_lead hr (pa_cons (pv 1) pa_nil)))
   (pss_cons (ps_if (pt_cmpR op_is (pv 4) pe_non (nomark _))
    (pss_one (ps_ret pe_int))
    (pss_nil))
   (pss_cons (ps_if (pt_cmpR op_eq (pe_op op_modN (pv 4) pe_int) pe_int (nomark _))
    (pss_one (ps_set (i:=2) sc_determinant.nd rfl (Or.inl rfl) (pe_un un_neg (pv 2))))
    (pss_nil))
   (pss_one (ps_par (i:=1) (j:=3) rfl sc_determinant.nd rfl rfl (by decide) rfl rfl (pa_cons (pe_def d_lessened hr (pa_cons (pv 1) (pa_cons (pv 4) (pa_cons (pv 3) pa_nil)))) (pa_cons (pe_ix (ixK_list (K:=K) rfl) (pe_ix (ixK_list (K:=K) rfl) (pv 1) (pv 4) (fun _ _=>rfl)) pe_int (fun _ _=>rfl)) pa_nil)) rfl))))))
  (pss_one (ps_ret (pe_op op_mulO (pv 2) (pv 3))))))),?_⟩
 generalize hA:mxL (lvals ts0)=A0 at bA q;refine⟨_,rfl,?_⟩
 refine while_in (fun σ H2=>Same H H2/\∃ (p:Addr) (ts:List LP) (s d:Int) (o:Option V) (m:Nat),σ=[Rq p0,Rq p,some (.int s),some (.int d),o]/\LLs H2 p ts/\Sqr m ts/\Bd 64 s/\Bd 9000 d/\((∃ m' k,m=m'+1/\m+k=n/\Ba A0 n k d (mxL (lvals ts)) m s)\/(m=0/\s*d=det n A0))) μd ⟨Same.refl _,p0,ts0,1,1,_,n,rfl,hT0,sq0,Bd.small (by decide) (by decide),(Bd.small (by decide) (by decide)).mono (by decide),?_⟩ ?_
 ·cases n with
  | zero=>exact .inr ⟨rfl,rfl⟩
  | succ n'=>exact .inl ⟨n',0,rfl,rfl,hA ▸ Ba.start A0 (n'+1)⟩
 ·rintro σ H2 ⟨g2,p,ts,s,d,o,m,rfl,hT,sq,bs,bd,hB⟩
  refine⟨_,rfl,len_ok rfl,fun pe npe=>?_⟩
  have ke:=same_new npe (.lst []);refine neLL (hT.same ke).den (den_nilLL (SqL.of upd_same)) ⟨_,rfl,?_⟩
  rcases hB with ⟨m',k,em,hk,hBa⟩ | ⟨em,hdet⟩
  ·subst em
   have hne:lvals ts≠[]:=fun z=>by
    have:=Wz Wr z
    rw[Ya,sq.len] at this;cases this
   have hT3:=hT.same ke;have g3:=g2.trans ke;have hmu:μd [Rq p0,Rq p,some (.int s),some (.int d),o] H2=m'+1:=by
    show (match H2 p with | some (.lst xs)=>xs.length | _=>0)=m'+1
    rw[hT.top];show (lrefs ts).length=m'+1
    rw[Ya];exact sq.len
   rw[hmu];generalize L2.upd H2 pe (.lst [])=H3 at hT3 g3;obtain⟨bd',bB⟩:=hBa.bds (by omega) hk bA
   refine iteS hne (win ?_)
   refine⟨_,rfl,p,ts,rfl,hT3,fun t ht=>by rw[sq.row t ht];omega,by rw[sq.len];omega,fun t H4 g4 ht hnz=>?_,fun H4 g4 hz=>?_⟩
   ·have ht':t<m'+1:=by rw[<- sq.len];exact ht
    refine⟨_,rfl,rfl,_,rfl,iteF ?_⟩
    have hT4:=hT3.same g4;apply merge (M:=fun σ HM=>HM=H4/\σ=[Rq p0,Rq p,some (.int (sg t*s)),some (.int d),Iq (t)])
    case h1=>
     intro key;refine⟨_,rfl,_,_,rfl,rfl,(by decide:(2:Int)≠0),rfl,_,rfl,?_⟩
     have em2:((t:Int)).fmod 2=((t % 2:Nat):Int):=by
      rw[Y3 _ (by decide)];omega
     by_cases c:t % 2=1
     ·have es:sg t*s=-s:=by unfold sg;rw[Wu (by omega)];omega
      refine iteY (by show V.int (((t:Int)).fmod 2)=V.int 1;rw[em2,c];rfl) ⟨_,rfl,_,rfl,key _ _ ⟨rfl,by rw[es];rfl⟩⟩
     ·have es:sg t*s=s:=by unfold sg;rw[Wv (by omega)];omega
      refine iteN (fun z=>c (by have z':V.int (((t:Int)).fmod 2)=V.int 1:=z;have:=V.int.inj z';rw[em2] at this;omega)) (key _ _ ⟨rfl,by rw[es];rfl⟩)
    case h2=>
     rintro σ HM ⟨rfl,rfl⟩;refine⟨_,rfl,_,rfl,_,rfl,p,ts,t,m',d,rfl,hT4,sq,ht',by omega,hBa.d0,bd,fun i j hi hj=>bd_le hE9 (bB i j hi hj),fun q1 us H5 g5 n5 hU hv=>?_⟩
     have hT5:=hT4.same g5;have at_t:atI (lrefs ts) (t:Int)=some (.ref ts[t].1):=by
      rw[atI_get_nat (by omega) (by rw[Ya];omega)]
      simp
     have at0:=at_row (xs:=ts[t].2) (j:=0) (by rw[sq.row _ (Yw _)];omega)
     rw[<- mxL_at ht] at at0;refine⟨_,rfl,_,rfl,p,_,_,_,rfl,rfl,hT5.sql,at_t,ts[t].1,_,_,_,rfl,rfl,SqL.of (hT5.it ts[t] (Yw _)),at0,_,_,rfl,?_⟩
     obtain⟨squ,hmx⟩:=lsn_mx hv;have bs':Bd 64 (sg t*s):=by
      refine Bd.le (y:=s) ?_ bs
      rw[Zf,sg_abs,Nat.one_mul];exact Yd _
     refine⟨⟨((g3.trans g4).trans g5),q1,us,sg t*s,mxL (lvals ts) t 0,_,m',rfl,hU,squ,bs',bd_le hE9 (bB t 0 ht' (by omega)),?_⟩,?_⟩
     ·cases m' with
      | zero=>
       have:t=0:=by omega
       subst this;refine .inr ⟨rfl,?_⟩
       have:=hBa.fin
       have e1:sg 0=1:=rfl;rw[e1,Zg];exact this
      | succ m2=>
       refine .inl ⟨m2,k+1,rfl,by omega,hBa.step ht' hnz fun a c ha hc=>?_⟩
       obtain⟨qq,e⟩:=hBa.divides ht' hnz ha hc;rw[hmx a c ha hc,e,Int.mul_fdiv_cancel_left _ hBa.d0]
     ·show (match H5 q1 with | some (.lst xs)=>xs.length | _=>0)<m'+1
      rw[hU.top];show (lrefs us).length<m'+1
      rw[Ya,squ.len];omega
   ·refine⟨_,rfl,rfl,_,rfl,iteT ?_⟩
    have:=hBa.none fun i hi=>hz i (by rw[sq.len];exact hi)
    rw[this] at q;exact q H4 (g3.trans g4)
  ·subst em
   have he:lvals ts=[]:=by
    have:=sq.len
    rw[List.length_eq_zero_iff] at this;rw[this];rfl
   refine iteNS he ?_
   refine⟨_,rfl,_,rfl,_,_,rfl,rfl,bs.ok bd,?_⟩
   show Q (.int (s*d)) _
   rw[hdet];exact q _ (g2.trans ke)
end
def spTrim (K:FrQ):Sp:=fun vs H Q _=>∃ (a:Addr) (f:List Int),vs=[.ref a]/\SqL K H a (f.map V.int)/\f.length<=1000/\New H Q (trim f)
def spCoef (K:FrQ):Sp:=fun vs H Q _=>∃ (a:Addr) (f:List Int) (i:Nat),vs=[.ref a,.int i]/\SqL K H a (f.map V.int)/\Q (.int (coef f i)) H
def spMul (K:FrQ):Sp:=fun vs H Q _=>∃ (a b:Addr) (f g:List Int),vs=[.ref a,.ref b]/\SqL K H a (f.map V.int)/\SqL K H b (g.map V.int)/\f.length<=1000/\g.length<=1000/\Bds 1000000 f/\Bds 1000000 g/\New H Q (pmul f g)
theorem bd_mul {x y:Int}(hx:Bd 1000000 x)(hy:Bd 1000000 y):CMulO x y:=hx.ok hy
section
variable {P:Program} {w:World} {K:FrQ} {mg:Str->Option Value} {base:Heap}
theorem ok_without_noughts_behind (B:Blt mg)(F:Src K mg "without_noughts_behind" s_without_noughts_behind ["numbers"]):Dfn P w K mg base 1 "without_noughts_behind" ["numbers"] (spTrim K):=by
 refine F.ok sc_without_noughts_behind (fun vs H Q E h=>?_) (fun f cdv A outer s H vs Q E hr h=>?_)
 ·obtain⟨a,f,rfl,_⟩:=h;rfl
 obtain⟨a,f,rfl,hS,hlen,q⟩:=h;refine⟨_,pss_cons (ps_set (i:=1) sc_without_noughts_behind.nd rfl (Or.inl rfl) (pe_callB (callK_len (K:=K) rfl) rfl B.«len» bt_len (pa_cons (pv 0) pa_nil)))
  (pss_cons (ps_while PassesOwn.never (PW.pt (pw_and (pt_cmpR op_gt (pv 1) pe_int (nomark _)) (pw_and1 (pt_cmpR op_eq (pe_ix (ixK_list (K:=K) rfl) (pv 0) (pe_op op_sub (pv 1) pe_int) (fun _ _=>rfl)) pe_int (nomark _)))))
   (pss_one (ps_aug (i:=1) sc_without_noughts_behind.nd rfl (Or.inl rfl) pe_int iop_sub)))
  (pss_one (ps_ret (pe_slice (slK_list (K:=K) rfl) (pv 0) po_none (po_some (pv 1)))))),?_⟩
 refine⟨_,rfl,a,_,rfl,.inl hS,?_⟩
 rw[Ya];have fin:∀ (k:Nat) H2,Same H H2->k<=f.length->tlen f f.length=tlen f k->tlen f k=k->SqL K H2 a (f.map V.int)->∀ p,H2 p=none->Q (.ref p) (upd H2 p (.lst (cutV (f.map V.int) none (some (k:Int))))):=fun k H2 g hk e1 e2 hS2 p hp=>by
  rw[cutV_take f k hk];refine q p _ (g.trans (same_new hp _)) (g.free hp) ?_
  unfold trim;rw[e1,e2];exact upd_same
 refine while_in (fun σ H2=>H2=H/\∃ k:Nat,σ=[Rq a,some (.int k)]/\k<=f.length/\tlen f f.length=tlen f k) (fun σ _=>match σ with | [_,some (.int k)]=>k.toNat | _=>0) ⟨rfl,f.length,rfl,Yd _,rfl⟩ ?_
 rintro σ H2 ⟨rfl,k,rfl,hk,ht⟩;refine⟨_,rfl,_,_,rfl,rfl,_,rfl,ite2 (fun c=>?_) (fun c=>?_)⟩
 ·have c':(0:Int)<k:=Wx c
  obtain⟨m,rfl⟩:∃ m,k=m+1:=⟨k - 1,by omega⟩
  refine⟨_,rfl,_,rfl,_,_,rfl,rfl,a,_,_,_,rfl,rfl,hS,atI_int (by omega) (by omega),rfl,_,rfl,?_⟩
  have em:(((m+1:Nat):Int) - 1).toNat=m:=by omega
  rw[em];refine ite2 (fun c=>?_) (fun c=>?_)
  ·have c2:coef f m=0:=V.int.inj (Wx c)
   refine win ⟨_,rfl,_,_,rfl,rfl,⟨rfl,m,?_,by omega,?_⟩,?_⟩
   ·have e:((m+1:Nat):Int) - 1=(m:Int):=by omega
    show [some (V.ref a),some (V.int (((m+1:Nat):Int) - 1))]=_
    rw[e]
   ·exact ht.trans (by show (if coef f m=0 then tlen f m else m+1)=_;rw[Wv c2])
   ·show (((m+1:Nat):Int) - 1).toNat<(((m+1:Nat):Int)).toNat
    omega
  ·have c2:coef f m≠0:=fun z=>c (Ww (Wz V.int z))
   exact⟨_,rfl,_,rfl,_,rfl,a,_,rfl,hS,fin (m+1) _ (Same.refl _) hk ht (by show (if coef f m=0 then tlen f m else m+1)=_;rw[Wu c2]) hS⟩
 ·have c':k=0:=by
   have:¬ (0:Int)<k:=fun z=>c (Ww z)
   omega
  subst c';refine iteF ?_
  exact⟨_,rfl,_,rfl,_,rfl,a,_,rfl,hS,fin 0 _ (Same.refl _) hk ht rfl hS⟩
end
section
variable {P:Program} {w:World} {K:FrQ} {mg:Str->Option Value} {base:Heap}
theorem ok_coefficient (B:Blt mg)(F:Src K mg "coefficient" s_coefficient Lq34):Dfn P w K mg base 1 "coefficient" Lq34 (spCoef K):=by
 refine F.ok sc_coefficient (fun vs H Q E h=>?_) (fun f cdv A outer s H vs Q E hr h=>?_)
 ·obtain⟨a,f,i,rfl,_⟩:=h;rfl
 obtain⟨a,f,i,rfl,hS,q⟩:=h;refine⟨_,pss_one (ps_ret (pe_ifExp (pt_cmpR op_lt (pv 1) (pe_callB (callK_len (K:=K) rfl) rfl B.«len» bt_len (pa_cons (pv 0) pa_nil)) (nomark _)) (pe_ix (ixK_list (K:=K) rfl) (pv 0) (pv 1) (fun _ _=>rfl)) pe_int)),?_⟩
 refine⟨_,rfl,_,rfl,a,_,rfl,.inl hS,_,_,rfl,rfl,_,rfl,?_⟩
 rw[Ya];refine ite2 (fun c=>?_) (fun c=>?_)
 ·have c':(i:Int)<(f.length:Nat):=Wx c
  refine⟨_,rfl,_,rfl,a,_,_,_,rfl,rfl,hS,atI_int (by omega) (by omega),?_⟩
  rw[Yk];exact q
 ·have c':¬ (i:Int)<(f.length:Nat):=fun z=>c (Ww z)
  rw[coef_ge (by omega)] at q
  exact q
end
section
variable {P:Program} {w:World} {K:FrQ} {mg:Str->Option Value} {base:Heap}
theorem ok_multiplied (B:Blt mg)(F:Src K mg "multiplied" s_multiplied Lq37):Dfn P w K mg base 1 "multiplied" Lq37 (spMul K):=by
 refine F.ok sc_multiplied (fun vs H Q E h=>?_) (fun f cdv A outer s H vs Q E hr h=>?_)
 ·obtain⟨a,b,f,g,rfl,_⟩:=h;rfl
 obtain⟨a,b,f,g,rfl,ha,hb,lf,lg,bf,bg,q⟩:=h;refine⟨_,pss_cons (ps_if (PW.pt (pw_or (pt_cmpR (opK_eqD (K:=K) rfl hr.units) (pv 0) (pe_lst pa_nil) (nomark _)) (pw_or1 (pt_cmpR (opK_eqD (K:=K) rfl hr.units) (pv 1) (pe_lst pa_nil) (nomark _)))))
   (pss_one (ps_ret (pe_lst pa_nil)))
   (pss_nil))
  (pss_cons (ps_set (i:=2) sc_multiplied.nd rfl (Or.inl rfl) (pe_op op_rep (pe_lst (pa_cons pe_int pa_nil)) (pe_op op_sub (pe_op op_add (pe_callB (callK_len (K:=K) rfl) rfl B.«len» bt_len (pa_cons (pv 0) pa_nil)) (pe_callB (callK_len (K:=K) rfl) rfl B.«len» bt_len (pa_cons (pv 1) pa_nil))) pe_int)))
  (pss_cons (ps_for PassesOwn.never rfl (piK_enum (K:=K) rfl rfl B.«enumerate» (pa_cons (pv 0) pa_nil)) (pgK_tup (n:=2) (K:=K) rfl rfl (pgs_cons (pg_name (i:=3) sc_multiplied.nd rfl (Or.inl rfl)) (pgs_cons (pg_name (i:=4) sc_multiplied.nd rfl (Or.inl rfl)) pgs_nil)))
   (pss_one (ps_for PassesOwn.never rfl (piK_enum (K:=K) rfl rfl B.«enumerate» (pa_cons (pv 1) pa_nil)) (pgK_tup (n:=2) (K:=K) rfl rfl (pgs_cons (pg_name (i:=5) sc_multiplied.nd rfl (Or.inl rfl)) (pgs_cons (pg_name (i:=6) sc_multiplied.nd rfl (Or.inl rfl)) pgs_nil)))
    (pss_one (ps_augS (pv 2) (pe_op op_add (pv 3) (pv 5)) (getK_list (K:=K) rfl) (pe_op op_mulO (pv 4) (pv 6)) ip_add set_list)))))
  (pss_one (ps_ret (pv 2))))),?_⟩
 have nilq:f=[]\/g=[]->∀ H2,Same H H2->∀ p,H2 p=none->Q (.ref p) (upd H2 p (.lst [])):=fun hn H2 g2 p hp=>by
  have e:pmul f g=[]:=by unfold pmul;rw[Wv hn]
  refine q p _ (g2.trans (same_new hp _)) (g2.free hp) ?_
  rw[e];exact upd_same
 refine⟨_,rfl,len_ok rfl,fun p1 n1=>?_⟩
 have g1:=same_new n1 (.lst []);refine eqL (xs:=f) (ys:=[]) (g1.seq ha) (SqL.of upd_same) ⟨_,rfl,ite2 (fun c=>?_) (fun c=>?_)⟩
 ·refine iteT ?_
  exact⟨len_ok rfl,nilq (.inl (Wx c)) _ g1⟩
 have hf:f≠[]:=fun z=>c (Ww z)
 refine⟨_,rfl,len_ok rfl,fun p2 n2=>?_⟩
 have g2:=g1.trans (same_new n2 (.lst []));refine eqL (xs:=g) (ys:=[]) (g2.seq hb) (SqL.of upd_same) ⟨_,rfl,ite2 (fun c=>?_) (fun c=>?_)⟩
 ·exact⟨len_ok rfl,nilq (.inr (Wx c)) _ g2⟩
 have hg:g≠[]:=fun z=>c (Ww z)
 have l1:0<f.length:=List.length_pos_iff.mpr hf;have l2:0<g.length:=List.length_pos_iff.mpr hg;refine⟨len_ok rfl,fun p3 n3=>?_⟩
 have g3:=g2.trans (same_new n3 (.lst [.int 0]));refine⟨_,rfl,a,_,rfl,.inl (g3.seq ha),_,rfl,b,_,rfl,.inl (g3.seq hb),?_⟩
 rw[Ya,Ya];have en:((f.length:Int)+(g.length:Int) - 1)=((f.length+g.length - 1:Nat):Int):=by omega
 refine⟨_,_,rfl,rfl,_,_,rfl,rfl,p3,_,_,rfl,rfl,upd_same,by omega,by omega,?_,fun p hp=>?_⟩
 ·rw[sizeLine_eq];show 1*_<=_;omega
 rw[en,Yk,rep_zero];have g4:=g3.trans (same_new hp (.lst ((Yp (f.length+g.length - 1) (0:Int)).map V.int)));have f4:H p=none:=g3.free hp;refine⟨_,rfl,a,rfl,⟨_,g4.seq ha⟩,for_enum (st:=0) (xs:=f.map V.int) (fun i σ H2=>Same H H2/\∃ (P:List Int) (o1 o2 o3 o4:Option V),σ=[Rq a,Rq b,Rq p,o1,o2,o3,o4]/\H2 p=some (.lst (P.map V.int))/\P.length=f.length+g.length - 1/\∀ m,m<P.length->coef P m=rowS f g i m)
  ⟨g4,_,_,_,_,_,rfl,upd_same,by simp,fun m hm=>coef_replicate _ _⟩ ?_ ?_ ?_⟩
 ·rintro i σ H2 hi ⟨gg,_⟩
  exact gg.seq ha
 ·rintro i x σ H2 r hx ⟨gg,P,o1,o2,o3,o4,rfl,eP,lP,hP⟩ hr'
  obtain⟨fi,hfi,rfl⟩:=map_int_get hx;have hi:i<f.length:=(List.getElem?_eq_some_iff.mp hfi).1;have efi:coef f i=fi:=coef_get hfi;have gr:=same_new hr' (.tup [.int ((0+i:Nat):Int),.int fi]);refine⟨r,_,rfl,SqT.of upd_same,rfl,_,_,rfl,_,_,rfl,rfl,?_⟩
  refine⟨_,rfl,b,rfl,⟨_,(gg.trans gr).seq hb⟩,for_enum (st:=0) (xs:=g.map V.int) (fun j σ H2=>Same H H2/\∃ (P:List Int) (o3 o4:Option V),σ=[Rq a,Rq b,Rq p,Iq ((0+i:Nat)),some (.int fi),o3,o4]/\H2 p=some (.lst (P.map V.int))/\P.length=f.length+g.length - 1/\∀ m,m<P.length->coef P m=cellS f g i j m)
   ⟨gg.trans gr,P,_,_,rfl,gr _ _ eP,lP,fun m hm=>by rw[cellS_zero];exact hP m hm⟩ ?_ ?_ ?_⟩
  ·rintro j σ H3 hj ⟨gg,_⟩
   exact gg.seq hb
  ·rintro j y σ H3 r2 hy ⟨gg,P,o3,o4,rfl,eP,lP,hP⟩ hr2
   obtain⟨gj,hgj,rfl⟩:=map_int_get hy;have hj:j<g.length:=(List.getElem?_eq_some_iff.mp hgj).1;have egj:coef g j=gj:=coef_get hgj;have gr2:=same_new hr2 (.tup [.int ((0+j:Nat):Int),.int gj]);refine⟨r2,_,rfl,SqT.of upd_same,rfl,_,_,rfl,_,_,rfl,rfl,?_⟩
   have eij:(((0+i:Nat):Int)+((0+j:Nat):Int))=((i+j:Nat):Int):=by omega
   have hij:i+j<P.length:=by omega
   have eP2:=gr2 _ _ eP;refine⟨_,rfl,_,rfl,_,rfl,_,_,rfl,rfl,p,_,_,.int (coef P (i+j)),rfl,rfl,SqL.of eP2,by omega,?_,?_⟩
   ·rw[eij,Yk];exact map_int_at hij
   refine⟨_,rfl,_,rfl,_,_,rfl,rfl,bd_mul (by rw[<- efi];exact bf.coef i) (by rw[<- egj];exact bg.coef j),_,_,rfl,rfl,p,_,_,i+j,rfl,rfl,eP2,?_,?_⟩
   ·rw[eij,Ya];exact ixN_nat (by omega) (by omega)
   refine⟨(gg.trans gr2).free_upd f4 _,P.set (i+j) (coef P (i+j)+fi*gj),_,_,rfl,?_,by rw[Wd];exact lP,fun m hm=>?_⟩
   ·rw[map_int_set];exact upd_same
   ·rw[Wd] at hm
    rw[coef_set hij,cellS_step,hP m hm,<- efi,<- egj];split
    ·rename_i h;subst h;rw[hP _ hm]
    ·rfl
  ·rintro σ H3 ⟨gg,P,o3,o4,rfl,eP,lP,hP⟩
   refine⟨gg,P,_,_,_,_,rfl,eP,lP,fun m hm=>?_⟩
   rw[<- cellS_end];have:=hP m hm
   rw[Ya] at this;exact this
 ·rintro σ H2 ⟨gg,P,o1,o2,o3,o4,rfl,eP,lP,hP⟩
  refine⟨_,rfl,q p H2 gg f4 ?_⟩
  have e:P=pmul f g:=by
   refine ext_coef ?_ fun m hm=>?_
   ·unfold pmul;rw[Wu (by rintro (z|z);exact hf z;exact hg z),Ya,Yg];exact lP
   ·rw[coef_pmul,hP m hm,Ya];rfl
  rw[<- e];exact eP
end
def spDer (K:FrQ):Sp:=fun vs H Q _=>∃ (a:Addr) (f:List Int),vs=[.ref a]/\SqL K H a (f.map V.int)/\f.length<=1000/\New H Q (dl f)
section
variable {P:Program} {w:World} {K:FrQ} {mg:Str->Option Value} {base:Heap}
theorem ok_derived (B:Blt mg)(F:Src K mg "derived" s_derived ["f"]):Dfn P w K mg base 1 "derived" ["f"] (spDer K):=by
 refine F.ok sc_derived (fun vs H Q E h=>?_) (fun f cdv A outer s H vs Q E hr h=>?_)
 ·obtain⟨a,f,rfl,_⟩:=h;rfl
 obtain⟨a,f,rfl,ha,lf,q⟩:=h;refine⟨_,pss_one (ps_ret (pe_slice (slK_list (K:=K) rfl) (pe_comp (compScope_mk (N:=["at","part"]) (sl:=[none,none]) (defScope s_derived) ["f"] rfl rfl (by decide +kernel)) rfl (piK_enum (K:=K) rfl rfl B.«enumerate» (pa_cons (pv 0) pa_nil)) (fun _ _ _ _ _=>(pgK_tup (n:=2) (K:=K) rfl rfl (pgs_cons (pg_name (i:=0) (by show Yo (["at","part"]:List Str);decide +kernel) rfl (Or.inl rfl)) (pgs_cons (pg_name (i:=1) (by show Yo (["at","part"]:List Str);decide +kernel) rfl (Or.inl rfl)) pgs_nil)))) (fun _ _ _ _ _=>pif_none) (fun _ _ _ _ _=>(pe_op op_mulO (pv 0) (pv 1)))) (po_some pe_int) po_none)),?_⟩
 refine⟨_,rfl,a,rfl,⟨_,ha⟩,fun D hD=>?_⟩
 refine comp_enum (st0:=0) (xs:=f.map V.int) (fun i ys H2=>Same H H2/\ys=((Yj i).map fun i:Nat=>(i:Int)*coef f i).map V.int) ⟨same_new hD _,rfl⟩ (fun i ys H2 _ h=>h.1.seq ha) ?_ ?_
 ·rintro i m x ys H2 r hm hi hx hy hlen ⟨gg,rfl⟩ hr'
  obtain⟨n,hn,rfl⟩:=map_int_get hx;have kr:=same_new hr' (.tup [.int ((0+i:Nat):Int),.int n]);rw[Ya] at hi;refine⟨r,_,rfl,SqT.of upd_same,rfl,_,_,rfl,_,_,rfl,rfl,?_⟩
  refine⟨_,rfl,_,rfl,_,_,rfl,rfl,mulOkL (by omega) (by omega),?_⟩
  refine CW.emit hm (by rw[Ya];exact hi) (by rw[Ya,sizeLine_eq];omega) (kr _ _ hy) hlen ⟨Same.free_upd (gg.trans kr) hD _,?_⟩
  rw[Wn,Y6,Y6];have e:((0+i:Nat):Int)=(i:Int):=by omega
  show _++[V.int (((0+i:Nat):Int)*n)]=_++[V.int ((i:Int)*coef f i)]
  rw[e,coef_get hn]
 ·rintro ys H2 hy ⟨gg,rfl⟩
  rw[Ya] at hy;refine⟨_,rfl,D,_,rfl,SqL.of hy,fun p hp=>?_⟩
  refine q p _ (gg.trans (same_new hp _)) (gg.free hp) ?_
  rw[upd_same];congr 2
  have e1:cutV (((Yj f.length).map fun i:Nat=>(i:Int)*coef f i).map V.int) (some 1) none=(((Yj f.length).map fun i:Nat=>(i:Int)*coef f i).drop 1).map V.int:=by
   unfold cutV;have h1:HT.sIx (((Yj f.length).map fun i:Nat=>(i:Int)*coef f i).map V.int).length 0 (some 1)=min 1 f.length:=by
    have:=HT.sIx_nat (((Yj f.length).map fun i:Nat=>(i:Int)*coef f i).map V.int).length 0 1
    rw[Ya,Ya,Yg] at this ⊢;exact this
   have h2:HT.sIx (((Yj f.length).map fun i:Nat=>(i:Int)*coef f i).map V.int).length (((Yj f.length).map fun i:Nat=>(i:Int)*coef f i).map V.int).length none=f.length:=by
    rw[Ya,Ya,Yg];rfl
   rw[h1,h2,Ze (by rw[Yz,Ya,Ya,Yg];exact Yd _)]
   by_cases hz:f.length=0
   ·rw[hz];rfl
   ·rw[Nat.min_eq_left (by omega),List.map_drop]
  rw[e1];congr 1
  refine ext_coef ?_ fun i hi=>?_
  ·unfold dl;rw[Yz,Ya,Yg,Ya,Yg]
  ·rw[Yz,Ya,Yg] at hi
   rw[coef_dl,coef_lt (by rw[Yz,Ya,Yg];exact hi)]
   simp
end
def NewQR (H:Hp)(Q:VK)(q r:List Int):Prop:=∀ t a b H',Same H H'->H a=none->H b=none->a≠b->H' t=some (.tup [.ref a,.ref b])->H' a=some (.lst (q.map V.int))->H' b=some (.lst (r.map V.int))->Q (.ref t) H'
def spDiv (K:FrQ):Sp:=fun vs H Q _=>∃ (a b:Addr) (f g:List Int) (m n:Nat),vs=[.ref a,.ref b]/\SqL K H a (f.map V.int)/\SqL K H b (g.map V.int)/\f.length<=1000/\g.length<=1000/\Monic g/\Bds m f/\Bds n g/\m+f.length*(n+2)<=1000000/\
 ∀ q r,IsDiv f g q r->Bds (m+f.length*(n+2)) q->Bds (m+f.length*(n+2)) r->NewQR H Q q r
section
variable {P:Program} {w:World} {K:FrQ} {mg:Str->Option Value} {base:Heap}
theorem ok_divided (B:Blt mg)(d_without_noughts_behind:Dfn P w K mg base 1 "without_noughts_behind" ["numbers"] (spTrim K))(F:Src K mg "divided" s_divided Lq37):Dfn P w K mg base 2 "divided" Lq37 (spDiv K):=by
 refine F.ok sc_divided (fun vs H Q E h=>?_) (fun f cdv A outer s H vs Q E hr h=>?_)
 ·obtain⟨a,b,f,g,m,n,rfl,_⟩:=h;rfl
 obtain⟨a,b,f,g,mB,nB,rfl,ha,hb,lf,lg,hg,bf,bg,hB,q⟩:=h;have hgl:0<g.length:=List.length_pos_iff.mpr hg.1;refine⟨_,pss_cons (ps_set (i:=2) sc_divided.nd rfl (Or.inl rfl) (pe_callTy call_list_of rfl B.«list» bt_list (pa_cons (pv 0) pa_nil)))
  (pss_cons (ps_set (i:=3) sc_divided.nd rfl (Or.inl rfl) (pe_lst pa_nil))
  (pss_cons (ps_set (i:=4) sc_divided.nd rfl (Or.inl rfl) (pe_op op_sub (pe_callB (callK_len (K:=K) rfl) rfl B.«len» bt_len (pa_cons (pv 1) pa_nil)) pe_int))
  (pss_cons (ps_for PassesOwn.never rfl (pi_revR rfl B.«reversed» (pa_cons (pe_range rfl B.«range» (pa_cons (pe_op op_sub (pe_callB (callK_len (K:=K) rfl) rfl B.«len» bt_len (pa_cons (pv 0) pa_nil)) (pv 4)) pa_nil)) pa_nil)) (pg_name (i:=5) sc_divided.nd rfl (Or.inl rfl))
   (pss_cons (ps_set (i:=6) sc_divided.nd rfl (Or.inl rfl) (pe_ix (ixK_list (K:=K) rfl) (pv 2) (pe_op op_add (pv 5) (pv 4)) (fun _ _=>rfl)))
   (pss_cons (ps_expr (pe_bm PySem.F.plainAttrs_list PySem.F.slot_list_append PySem.F.type_list_append mt_append (pv 3) (pa_cons (pv 6) pa_nil)))
   (pss_one (ps_for PassesOwn.never rfl (piK_enum (K:=K) rfl rfl B.«enumerate» (pa_cons (pv 1) pa_nil)) (pgK_tup (n:=2) (K:=K) rfl rfl (pgs_cons (pg_name (i:=7) sc_divided.nd rfl (Or.inl rfl)) (pgs_cons (pg_name (i:=8) sc_divided.nd rfl (Or.inl rfl)) pgs_nil)))
    (pss_one (ps_augS (pv 2) (pe_op op_add (pv 5) (pv 7)) (getK_list (K:=K) rfl) (pe_op op_mulO (pv 6) (pv 8)) ip_sub set_list)))))))
  (pss_cons (ps_expr (pe_bm0 PySem.F.plainAttrs_list PySem.F.slot_list_reverse PySem.F.type_list_reverse mt_reverse (pv 3) ))
  (pss_one (ps_ret (pe_tup (pa_cons (pv 3) (pa_cons (pe_def d_without_noughts_behind hr (pa_cons (pv 2) pa_nil)) pa_nil))))))))),?_⟩
 refine⟨_,rfl,a,_,rfl,.inl ha,fun p1 n1=>?_⟩
 have k1:=same_new n1 (.lst (f.map V.int));refine⟨len_ok rfl,fun p2 n2=>?_⟩
 have k2:=same_new n2 (.lst []);have g2:=k1.trans k2;have f2:H p2=none:=k1.free n2;have hne:p1≠p2:=ne_of_none upd_same n2;refine⟨_,rfl,b,_,rfl,.inl (g2.seq hb),_,_,rfl,rfl,?_⟩
 rw[Ya];refine⟨_,rfl,a,_,rfl,.inl (g2.seq ha),?_⟩
 rw[Ya];refine⟨_,rfl,_,_,rfl,rfl,_,rfl,fun p3 n3=>?_⟩
 have k3:=same_new n3 (.rng 0 ((f.length:Int) - ((g.length:Int) - 1)));have g3:=g2.trans k3;obtain⟨N,hN⟩:∃ N,N=f.length - (g.length - 1):=⟨_,rfl⟩;have eN:((f.length:Int) - ((g.length:Int) - 1)).toNat=N:=by omega
 refine⟨p3,_,rfl,upd_same,by omega,by omega,?_⟩
 rw[eN];refine for_down (fun i σ H2=>Same H H2/\∃ (Qr R:List Int) (o1 o2 o3 o4:Option V),σ=[Rq a,Rq b,Rq p1,Rq p2,some (.int ((g.length:Int) - 1)),o1,o2,o3,o4]/\H2 p2=some (.lst (Qr.map V.int))/\H2 p1=some (.lst (R.map V.int))/\DivSo f g N i Qr R/\Bds (mB+i*(nB+2)) R/\Bds (mB+i*(nB+2)) Qr)
  ⟨g3,[],f,_,_,_,_,rfl,k3 _ _ upd_same,k3 _ _ (k2 _ _ upd_same),⟨rfl,rfl,fun m hm=>?_,fun m h1 h2=>by omega,fun h=>W1 h (by decide)⟩,bf.mono (by omega),fun x hx=>by simp at hx⟩ ?_ ?_
 ·have hz:conv (qSo N 0 []) g m=0:=by
   rw[conv_congr (f':=[]) (g':=g) (fun a=>?_) (fun _=>rfl)]
   ·rfl
   ·unfold qSo
    rw[List.reverse_nil,List.append_nil,coef_replicate,coef_nil]
  rw[hz];omega
 ·rintro i σ H2 hi ⟨gg,Qr,R,o1,o2,o3,o4,rfl,eQ,eR,D,bR,bQ⟩
  have lr:=D.lr;have lq:=D.lq;have hN1:N<=f.length:=by omega
  have et:((f.length:Int) - ((g.length:Int) - 1) - 1 - (i:Int))=((N - 1 - i:Nat):Int):=by omega
  rw[et];have ep:(((N - 1 - i:Nat):Int)+((g.length:Int) - 1))=((N - 1 - i+(g.length - 1):Nat):Int):=by omega
  refine⟨_,rfl,_,rfl,_,rfl,_,_,rfl,rfl,p1,_,_,_,rfl,rfl,SqL.of eR,atI_int (by omega) (by omega),?_⟩
  rw[ep,Yk];generalize hlead:coef R (N - 1 - i+(g.length - 1))=lead;have blead:Bd (mB+i*(nB+2)) lead:=hlead ▸ bR.coef _;refine⟨_,rfl,.inl ⟨rfl,_,SqL.of eQ⟩,_,rfl,p2,_,_,rfl,rfl,eQ,by rw[Ya,sizeLine_eq];omega,?_⟩
  have g4:Same H (upd H2 p2 (.lst (Qr.map V.int++[V.int lead]))):=gg.free_upd f2 _;have hR4:upd H2 p2 (.lst (Qr.map V.int++[V.int lead])) p1=some (.lst (R.map V.int)):=by rw[upd_ne hne];exact eR
  have hmul:(i+1)*(nB+2)=i*(nB+2)+(nB+2):=by rw[Wg,Nat.one_mul]
  have hle:(i+1)*(nB+2)<=f.length*(nB+2):=Y1 _ (by omega)
  refine⟨_,rfl,b,rfl,⟨_,g4.seq hb⟩,for_enum (st:=0) (xs:=g.map V.int) (fun j σ H3=>Same H H3/\∃ (R':List Int) (o3 o4:Option V),σ=[Rq a,Rq b,Rq p1,Rq p2,some (.int ((g.length:Int) - 1)),Iq ((N - 1 - i:Nat)),some (.int lead),o3,o4]/\H3 p2=some (.lst ((Qr++[lead]).map V.int))/\H3 p1=some (.lst (R'.map V.int))/\RIn g R R' (N - 1 - i) lead j/\Bds (mB+(i+1)*(nB+2)) R')
   ⟨g4,R,_,_,rfl,by rw[<- map_int_snoc];exact upd_same,hR4,RIn.start ..,bR.mono (by omega)⟩ ?_ ?_ ?_⟩
  ·rintro j σ H3 hj ⟨gg,_⟩
   exact gg.seq hb
  ·rintro j y σ H3 r2 hy ⟨gg,R',o3,o4,rfl,eQ3,eR3,hR,bR'⟩ hr2
   obtain⟨gj,hgj,rfl⟩:=map_int_get hy;have hj:j<g.length:=(List.getElem?_eq_some_iff.mp hgj).1;have egj:coef g j=gj:=coef_get hgj;have gr2:=same_new hr2 (.tup [.int ((0+j:Nat):Int),.int gj]);refine⟨r2,_,rfl,SqT.of upd_same,rfl,_,_,rfl,_,_,rfl,rfl,?_⟩
   have eij:(((N - 1 - i:Nat):Int)+((0+j:Nat):Int))=((N - 1 - i+j:Nat):Int):=by omega
   have hij:N - 1 - i+j<R.length:=by omega
   have hij':N - 1 - i+j<R'.length:=by rw[hR.1];exact hij
   have eR4:=gr2 _ _ eR3;have bgj:Bd nB gj:=egj ▸ bg.coef j;refine⟨_,rfl,_,rfl,_,rfl,_,_,rfl,rfl,p1,_,_,.int (coef R' (N - 1 - i+j)),rfl,rfl,SqL.of eR4,by omega,?_,?_⟩
   ·rw[eij,Yk];exact map_int_at hij'
   refine⟨_,rfl,_,rfl,_,_,rfl,rfl,bd_mul (blead.mono (by omega)) (bgj.mono (by omega)),_,_,rfl,rfl,p1,_,_,N - 1 - i+j,rfl,rfl,eR4,?_,?_⟩
   ·rw[eij,Ya];exact ixN_nat (by omega) (by omega)
   have hstep:=hR.step (t:=N - 1 - i) hij;rw[egj] at hstep;refine⟨(gg.trans gr2).free_upd n1 _,R'.set (N - 1 - i+j) (coef R' (N - 1 - i+j) - lead*gj),_,_,rfl,?_,?_,hstep,bds_of fun m hm=>?_⟩
   ·rw[upd_ne (Ne.symm hne)];exact gr2 _ _ eQ3
   ·rw[map_int_set];exact upd_same
   ·rw[coef_set hij']
    split
    ·have hmR:N - 1 - i+j<R.length:=hij
     have e1:=hR.2 (N - 1 - i+j) hmR;rw[Wu (by omega)] at e1
     rw[e1];have b1:Bd (mB+i*(nB+2)) (coef R (N - 1 - i+j) - 0):=by rw[Int.sub_zero];exact bR.coef _
     exact (b1.sub (blead.mul bgj)).mono (by omega)
    ·exact bR'.coef m
  ·rintro σ H3 ⟨gg,R',o3,o4,rfl,eQ3,eR3,hR,bR'⟩
   rw[Ya] at hR;rw[<- hlead] at hR;refine⟨gg,Qr++[lead],R',_,_,_,_,rfl,eQ3,eR3,?_,bR',(bQ.mono (by omega)).snoc (blead.mono (by omega))⟩
   have:=D.next hg hN hi hR
   rw[hlead] at this;exact this
 ·rintro σ H2 ⟨gg,Qr,R,o1,o2,o3,o4,rfl,eQ,eR,D,bR,bQ⟩
  have lr:=D.lr;have hle:N*(nB+2)<=f.length*(nB+2):=Y1 _ (by omega)
  refine⟨_,rfl,.inl ⟨rfl,_,SqL.of eQ⟩,p2,_,rfl,rfl,eQ,?_⟩
  have hrv:(Qr.map V.int).reverse=Qr.reverse.map V.int:=by rw[List.map_reverse]
  rw[hrv];have g5:Same H (upd H2 p2 (.lst (Qr.reverse.map V.int))):=gg.free_upd f2 _;have hR5:upd H2 p2 (.lst (Qr.reverse.map V.int)) p1=some (.lst (R.map V.int)):=by rw[upd_ne hne];exact eR
  refine⟨_,rfl,_,rfl,p1,R,rfl,SqL.of hR5,by omega,fun p6 H6 g6 n6 e6=>⟨len_ok rfl,fun p7 n7=>?_⟩⟩
  have k7:=same_new n7 (.tup [.ref p2,.ref p6]);have e2:=g6 _ _ (show upd H2 p2 (.lst (Qr.reverse.map V.int)) p2=some (.lst (Qr.reverse.map V.int)) from upd_same)
  refine q Qr.reverse (trim R) (D.done hg hN) (fun x hx=>(bQ x (List.mem_reverse.mp hx)).mono (by omega)) (bR.trim.mono (by omega)) p7 p2 p6 _ ((g5.trans g6).trans k7) f2 (g5.free n6) ?_ upd_same (k7 _ _ e2) (k7 _ _ e6)
  exact ne_of_none (show upd H2 p2 (.lst (Qr.reverse.map V.int)) p2=some (.lst (Qr.reverse.map V.int)) from upd_same) n6
end
def rr (f:Fn)(n:Nat)(g:Fn)(L:Nat):Nat->Fn:=fun i c=>sgm L fun k=>g k*tk f n (k+i) c
theorem tk_next {f:Fn}{n:Nat}(hf:Top f n)(hn:1<=n)(k:Nat):Rst f n (cv (xp 1) (tk f n k)) (tk f n (k+1)):=by
 refine⟨⟨fun i=>if i=0 then tk f n k (n - 1) else 0,1,fun m hm=>Wu (by omega),fun m=>?_⟩,tk_lo hf hn (k+1)⟩
 have e1:cv (fun i=>if i=0 then tk f n k (n - 1) else 0) f m=tk f n k (n - 1)*f m:=cv_unit (Wv rfl) (fun i hi=>Wu (by omega)) m
 rw[e1,cv_xp];show _=_+((if m=0 then 0 else tk f n k (m - 1)) - tk f n k (n - 1)*f m)
 by_cases c:1<=m
 ·rw[Wv c,Wu (by omega)];omega
 ·rw[Wu c,Wv (by omega)];omega
theorem rows_rr {f:Fn}{n:Nat}(hf:Top f n)(hn:1<=n){g:Fn}{L:Nat}(hg:∀ m,L<=m->g m=0):Rows f n g (rr f n g L):=by
 refine⟨?_,fun i=>?_⟩
 ·have e:g=fun c=>sgm L fun k=>g k*xp (k+0) c:=by
   funext c
   rw[sgm_sumN];by_cases y:c<L
   ·rw[sumN_one (k:=c) y fun k hk hne=>by unfold xp;rw[Wu (by omega),Y8]]
    unfold xp;rw[Wv (by omega),Wm]
   ·rw[hg _ (by omega),sumN_zero fun k hk=>by unfold xp;rw[Wu (by omega),Y8]]
  have:=Rst.sum (f:=f) (n:=n) (u:=fun k=>xp (k+0)) (r:=fun k=>tk f n (k+0)) g L fun k _=>tk_rst hf hn (k+0)
  rw[<- e] at this;exact this
 ·have e:cv (xp 1) (rr f n g L i)=fun c=>sgm L fun k=>g k*cv (xp 1) (tk f n (k+i)) c:=by
   funext c
   rw[cv_xp];by_cases z:1<=c
   ·rw[Wv z]
    exact sgm_congr fun k hk=>by rw[cv_xp,Wv z]
   ·rw[Wu z]
    exact (sgm_zero fun k hk=>by rw[cv_xp,Wu z,Y8]).symm
  rw[e];exact Rst.sum g L fun k _=>tk_next hf hn (k+i)
theorem IsDiv.rst {u f q r:List Int}{n:Nat}(hl:f.length=n+1)(h:IsDiv u f q r):Rst (coef f) n (coef u) (coef r):=
 ⟨⟨coef q,q.length,fun m hm=>coef_ge hm,fun m=>by rw[h.eq m,conv_cv]⟩,fun m hm=>coef_ge (by have:=h.len;omega)⟩
theorem top_coef {f:List Int}{n:Nat}(hl:f.length=n+1)(hm:Monic f):Top (coef f) n:=⟨by have:=hm.2;rw[hl] at this;exact this,fun m h=>coef_ge (by omega)⟩
theorem coef_x:coef [0,1]=xp 1:=by
 funext m
 match m with
 | 0=>rfl
 | 1=>rfl
 | m+2=>rw[coef_ge (by show 2<=_;omega)];unfold xp;rw[Wu (by omega)]
def spRes (K:FrQ):Sp:=fun vs H Q _=>∃ (a b:Addr) (f g:List Int) (n E:Nat),vs=[.ref a,.ref b]/\SqL K H a (f.map V.int)/\SqL K H b (g.map V.int)/\f.length=n+1/\1<=n/\n<=26/\g.length<=60/\Monic f/\Norm g/\Bds 5000 f/\Bds 5000 g/\E<=9000/\n*(E+5)<9000/\
 (∀ i j,i<=n->(rr (coef f) n (coef g) g.length i j).natAbs<=2 ^ E)/\∀ H',Same H H'->Q (.int (det n fun i j=>rr (coef f) n (coef g) g.length i j)) H'
section
variable {P:Program} {w:World} {K:FrQ} {mg:Str->Option Value} {base:Heap}
theorem ok_resultant (B:Blt mg)(d_coefficient:Dfn P w K mg base 1 "coefficient" Lq34 (spCoef K))(d_multiplied:Dfn P w K mg base 1 "multiplied" Lq37 (spMul K))(d_divided:Dfn P w K mg base 2 "divided" Lq37 (spDiv K))(d_determinant:Dfn P w K mg base 2 "determinant" ["table"] (spDet K))(F:Src K mg "resultant" s_resultant Lq37):Dfn P w K mg base 3 "resultant" Lq37 (spRes K):=by
 refine F.ok sc_resultant (fun vs H Q E h=>?_) (fun fa cdv A outer s H vs Q E hr h=>?_)
 ·obtain⟨a,b,f,g,n,E,rfl,_⟩:=h;rfl
 obtain⟨a,b,f,g,n,E9,rfl,ha,hb,lf,hn1,hn,lg,mf,ng,bf,bg,hE,hE9,bR,q⟩:=h;have hf:=top_coef lf mf;have hR:=rows_rr hf hn1 (g:=coef g) (L:=g.length) fun m hm=>coef_ge hm
 generalize hrr:rr (coef f) n (coef g) g.length=R at hR bR q;refine⟨_,pss_cons (ps_set (i:=2) sc_resultant.nd rfl (Or.inl rfl) (pe_op op_sub (pe_callB (callK_len (K:=K) rfl) rfl B.«len» bt_len (pa_cons (pv 0) pa_nil)) pe_int))
  (pss_cons (ps_set (i:=3) sc_resultant.nd rfl (Or.inl rfl) (pe_lst pa_nil))
  (pss_cons (ps_set (i:=4) sc_resultant.nd rfl (Or.inr rfl) (pe_ix (ixK_tup (K:=K) rfl) (pe_def d_divided hr (pa_cons (pv 1) (pa_cons (pv 0) pa_nil))) pe_int (fun _ _=>rfl)))
  (pss_cons (ps_for PassesOwn.never rfl (pi_range1 rfl B.«range» (pa_cons (pv 2) pa_nil)) (pg_name (i:=5) sc_resultant.nd rfl (Or.inl rfl))
   (pss_cons (ps_expr (pe_bm PySem.F.plainAttrs_list PySem.F.slot_list_append PySem.F.type_list_append mt_append (pv 3) (pa_cons (pe_comp (compScope_mk (N:=["place","rest"]) (sl:=[none,some 4]) (defScope s_resultant) ["f","g","degree","table","rest","turn"] rfl rfl (by decide +kernel)) rfl (pi_range1 rfl B.«range» (pa_cons (pv 2) pa_nil)) (fun _ _ _ _ _=>(pg_name (i:=0) (by show Yo (["place","rest"]:List Str);decide +kernel) rfl (Or.inl rfl))) (fun _ _ _ _ _=>pif_none) (fun _ _ _ _ _=>(pe_def d_coefficient hr (pa_cons (pv 1) (pa_cons (pv 0) pa_nil))))) pa_nil)))
   (pss_one (ps_set (i:=4) sc_resultant.nd rfl (Or.inr rfl) (pe_ix (ixK_tup (K:=K) rfl) (pe_def d_divided hr (pa_cons (pe_def d_multiplied hr (pa_cons (pe_lst (pa_cons pe_int (pa_cons pe_int pa_nil))) (pa_cons (pv 4) pa_nil))) (pa_cons (pv 0) pa_nil))) pe_int (fun _ _=>rfl))))))
  (pss_one (ps_ret (pe_def d_determinant hr (pa_cons (pv 3) pa_nil))))))),?_⟩
 refine⟨_,rfl,a,_,rfl,.inl ha,?_⟩
 rw[Ya,lf];refine⟨_,_,rfl,rfl,len_ok rfl,fun p0 n0=>?_⟩
 have k0:=same_new n0 (.lst []);refine⟨_,rfl,_,rfl,b,a,g,f,5000,5000,rfl,k0.seq hb,k0.seq ha,by omega,by omega,mf,bg,bf,by omega,fun q0 r0 hd0 _ _ t0 qa ra H1 g1 n1 n2 hne et eq er=>?_⟩
 refine⟨t0,_,_,_,rfl,rfl,SqT.of et,rfl,?_⟩
 have e0:coef r0=R 0:=Rst.uniq hf (IsDiv.rst lf hd0) hR.zero;have l0:r0.length<=n:=by have:=hd0.len;omega
 have bdR:∀ (r:List Int) (i:Nat),coef r=R i->i<=n->Bds 9001 r:=fun r i e hi=>bds_of fun j _=>by
  rw[e];exact Zv (bR i j hi) (Z7 (by decide) (by omega))
 refine⟨_,rfl,_,rfl,by omega,by omega,?_⟩
 rw[show (((n+1:Nat):Int) - 1).toNat=n by omega]
 refine for_range (fun i σ H2=>Same H H2/\∃ (ts:List LP) (r:List Int) (ra:Addr) (o:Option V),σ=[Rq a,Rq b,some (.int (((n+1:Nat):Int) - 1)),Rq p0,Rq ra,o]/\LLs H2 p0 ts/\ts.length=i/\(∀ t∈ts,t.2.length=n/\t.1≠p0)/\(∀ x j,x<i->j<n->mxL (lvals ts) x j=R x j)/\H2 ra=some (.lst (r.map V.int))/\coef r=R i/\r.length<=n/\Norm r/\ra≠p0)
  ⟨k0.trans g1,[],r0,ra,_,rfl,⟨g1 _ _ upd_same,fun t ht=>by simp at ht⟩,rfl,fun t ht=>by simp at ht,fun x j hx=>W1 hx (by omega),er,e0,l0,hd0.nr,fun z=>by rw[z,upd_same] at n2;cases n2⟩ ?_ ?_
 ·rintro i σ H2 hi ⟨g2,ts,r,ra,o,rfl,hT,lt,hts,hmx,er,eR,lr,nr,hra⟩
  refine⟨_,rfl,.inl ⟨rfl,_,SqL.of hT.top⟩,_,rfl,_,rfl,by omega,by omega,fun D hD=>?_⟩
  rw[show (((n+1:Nat):Int) - 1).toNat=n by omega]
  refine comp_range (fun j ys H3=>Same H2 H3/\ys=((Yj j).map (R i)).map V.int) ⟨same_new hD _,rfl⟩ (fun j m ys H3 hm hj hy hlen h=>?_) (fun ys H3 hy h=>?_)
  ·obtain⟨g3,rfl⟩:=h
   rw[show (0:Int)+(j:Int)=((j:Nat):Int) by omega]
   refine⟨_,rfl,_,rfl,ra,r,j,rfl,SqL.of (g3 _ _ er),?_⟩
   refine CW.emit hm hj (by rw[sizeLine_eq];omega) hy hlen ⟨Same.free_upd g3 hD _,?_⟩
   rw[Wn,Y6,Y6,eR];rfl
  ·obtain⟨g3,rfl⟩:=h
   have hT3:=hT.same g3;have hDp:D≠p0:=fun z=>by rw[z,hT.top] at hD;cases hD
   refine⟨p0,_,_,rfl,rfl,hT3.top,by rw[Ya,sizeLine_eq];omega,?_⟩
   have hT4:=hT3.snoc (t:=(D,(Yj n).map (R i))) (fun t ht=>(hts t ht).2) hy hDp
   have g4:Same H (L2.upd H3 p0 (.lst (lrefs ts++[V.ref D]))):=(g2.trans g3).free_upd n0 _;have er4:(L2.upd H3 p0 (.lst (lrefs ts++[V.ref D]))) ra=some (.lst (r.map V.int)):=by rw[upd_ne hra];exact g3 _ _ er
   generalize L2.upd H3 p0 (.lst (lrefs ts++[V.ref D]))=H4 at hT4 g4 er4 ⊢;refine⟨len_ok rfl,fun l1 m1=>?_⟩
   have k1:=same_new m1 (.lst [.int 0,.int 1]);have b01:Bds 1000000 ([0,1]:List Int):=fun x hx=>by
    simp only[List.mem_cons,Wl,or_false] at hx
    rcases hx with rfl | rfl <;> exact Bd.mono (m:=64) (Bd.small (by decide) (by decide)) (by decide)
   have b01':Bds 1 ([0,1]:List Int):=fun x hx=>by
    simp only[List.mem_cons,Wl,or_false] at hx
    rcases hx with rfl | rfl <;> (show Wk _<2 ^ 1;decide)
   have br:=bdR r i eR (by omega)
   refine⟨_,rfl,l1,ra,[0,1],r,rfl,SqL.of upd_same,SqL.of (k1 _ _ er4),by decide,by omega,b01,br.mono (by decide),fun pm H5 g5 n5 e5=>?_⟩
   have k15:=k1.trans g5;have lpm:(pmul [0,1] r).length<=28:=by
    unfold pmul;split
    ·simp
    ·rw[Ya,Yg];show 2+r.length - 1<=28;omega
   have bpm:Bds 9010 (pmul [0,1] r):=(b01'.pmul br).mono (by show 1+9001+2<=9010;decide)
   have tot:9010+(pmul [0,1] r).length*(5000+2)<=1000000:=by omega
   refine⟨_,rfl,pm,a,pmul [0,1] r,f,9010,5000,rfl,SqL.of e5,(g4.trans k15).seq ha,by omega,by omega,mf,bpm,bf,tot,fun q1 r1 hd1 _ _ t1 qa1 ra1 H6 g6 n6 n7 hne1 et1 eq1 er1=>?_⟩
   refine⟨t1,_,_,_,rfl,rfl,SqT.of et1,rfl,?_⟩
   have e1:coef r1=R (i+1):=by
    have h1:=IsDiv.rst lf hd1;rw[cpf,coef_x,eR] at h1;exact Rst.uniq hf h1 (hR.succ i)
   have g46:=k15.trans g6;refine⟨g4.trans g46,ts++[(D,(Yj n).map (R i))],r1,ra1,_,rfl,hT4.same g46,by rw[Yl,lt];rfl,fun t ht=>?_,fun x j hx hj=>?_,er1,e1,by have:=hd1.len;omega,hd1.nr,fun z=>by rw[z,(hT4.same k15).top] at n7;cases n7⟩
   ·rcases List.mem_append.mp ht with y | y
    ·exact hts t y
    ·have:t=(D,(Yj n).map (R i)):=by simpa using y
     rw[this];exact⟨by simp,hDp⟩
   ·by_cases e:x=i
    ·have ex:x=ts.length:=by omega
     have:mxL (lvals (ts++[(D,(Yj n).map (R i))])) ts.length j=((Yj n).map (R i)).getD j 0:=by
      rw[mxL_at (by rw[Yl];show _<_+1;omega)]
      simp
     rw[ex,this,<- ex,e,Yb,Ye,Yu hj];rfl
    ·rw[mxL_at (by rw[Yl];omega),List.getElem_append_left (by omega),<- mxL_at (by omega)]
     exact hmx x j (by omega) hj
 ·rintro σ H2 ⟨g2,ts,r,ra,o,rfl,hT,lt,hts,hmx,er,eR,lr,nr,hra⟩
  have ed:det n (mxL (lvals ts))=det n fun i j=>R i j:=det_congr fun i j hi hj=>hmx i j hi hj
  refine⟨_,rfl,p0,ts,n,E9,rfl,hT,⟨lt,fun t ht=>(hts t ht).1⟩,hn,hE9,fun i j hi hj=>by rw[hmx i j hi hj];exact bR i j (by omega),fun H3 g3=>?_⟩
  rw[ed];exact q H3 (g2.trans g3)
end
theorem len_dl (f:List Int):(dl f).length=f.length - 1:=by unfold dl;rw[Ya,Yg]
theorem bds_dl {f:List Int}{m:Nat}(h:Bds m f)(l:f.length<=1000):Bds (m+10) (dl f):=by
 intro x hx;obtain⟨i,hi,rfl⟩:=List.mem_map.mp hx;have hi':=List.mem_range.mp hi;have b1:Bd 10 ((i+1:Nat):Int):=show Wk _<2 ^ 10 by omega
 exact (b1.mul (h.coef _)).mono (by omega)
theorem tg_at (n:Nat)(h:n<=26):(n*(n - 1) / 2 % 2=1->tg n=-1)/\(¬ n*(n - 1) / 2 % 2=1->tg n=1):=by
 have key:∀ n:Fin 27,(n.val*(n.val - 1) / 2 % 2=1->tg n.val=-1)/\(¬ n.val*(n.val - 1) / 2 % 2=1->tg n.val=1):=by decide +kernel
 exact key ⟨n,by omega⟩
def spDisc (K:FrQ):Sp:=fun vs H Q _=>∃ (a:Addr) (f:List Int) (n E:Nat),vs=[.ref a]/\SqL K H a (f.map V.int)/\f.length=n+1/\1<=n/\n<=26/\Monic f/\Bds 4990 f/\E<=9000/\n*(E+5)<9000/\
 (∀ i j,i<=n->(rr (coef f) n (coef (dl f)) (dl f).length i j).natAbs<=2 ^ E)/\∀ H',Same H H'->Q (.int (tg n*det n fun i j=>rr (coef f) n (coef (dl f)) (dl f).length i j)) H'
section
variable {P:Program} {w:World} {K:FrQ} {mg:Str->Option Value} {base:Heap}
theorem ok_discriminant (B:Blt mg)(d_derived:Dfn P w K mg base 1 "derived" ["f"] (spDer K))(d_resultant:Dfn P w K mg base 3 "resultant" Lq37 (spRes K))(F:Src K mg "discriminant" s_discriminant ["f"]):Dfn P w K mg base 4 "discriminant" ["f"] (spDisc K):=by
 refine F.ok sc_discriminant (fun vs H Q E h=>?_) (fun fa cdv A outer s H vs Q E hr h=>?_)
 ·obtain⟨a,f,n,E,rfl,_⟩:=h;rfl
 obtain⟨a,f,n,E9,rfl,ha,lf,hn1,hn,mf,bf,hE,hE9,bR,q⟩:=h;generalize hd:(det n fun i j=>rr (coef f) n (coef (dl f)) (dl f).length i j)=D at q
 refine⟨_,pss_cons (ps_set (i:=1) sc_discriminant.nd rfl (Or.inl rfl) (pe_op op_sub (pe_callB (callK_len (K:=K) rfl) rfl B.«len» bt_len (pa_cons (pv 0) pa_nil)) pe_int))
  (pss_cons (ps_set (i:=2) sc_discriminant.nd rfl (Or.inl rfl) (pe_def d_resultant hr (pa_cons (pv 0) (pa_cons (pe_def d_derived hr (pa_cons (pv 0) pa_nil)) pa_nil))))
  (pss_cons (ps_if (pt_cmpR op_eq (pe_op op_modN (pe_op op_fdivW (pe_op op_mulO (pv 1) (pe_op op_sub (pv 1) pe_int)) pe_int) pe_int) pe_int (nomark _))
   (pss_one (ps_ret (pe_un un_neg (pv 2))))
   (pss_nil))
  (pss_one (ps_ret (pv 2))))),?_⟩
 refine⟨_,rfl,a,_,rfl,.inl ha,?_⟩
 rw[Ya,lf];refine⟨_,_,rfl,rfl,?_⟩
 show gName 1 (V.int (((n+1:Nat):Int) - 1)) _ _ _
 rw[show ((n+1:Nat):Int) - 1=(n:Int) by omega]
 refine⟨_,rfl,_,rfl,a,f,rfl,ha,by omega,fun pd H1 g1 n1 e1=>?_⟩
 refine⟨a,pd,f,dl f,n,E9,rfl,g1.seq ha,SqL.of e1,lf,hn1,hn,by rw[len_dl];omega,mf,norm_dl (.inr (by rw[mf.2];decide)),bf.mono (by decide),bds_dl bf (by omega),hE,hE9,bR,fun H2 g2=>?_⟩
 rw[hd];have g:=g1.trans g2;obtain⟨t1,t2⟩:=tg_at n hn;have em:((((n:Int)*((n:Int) - 1)).fdiv 2).fmod 2)=((n*(n - 1) / 2 % 2:Nat):Int):=by
  obtain⟨k,rfl⟩:∃ k,n=k+1:=⟨n - 1,by omega⟩
  have e1:((k+1:Nat):Int) - 1=(k:Int):=by omega
  have e2:k+1 - 1=k:=by omega
  rw[e1,e2,<- Zz,Zd _ (by decide),Y3 _ (by decide)]
  omega
 refine⟨_,rfl,_,rfl,_,_,rfl,rfl,_,_,rfl,rfl,mulOkL (by omega) (by omega),?_⟩
 refine⟨_,_,rfl,rfl,(Bd.small (by decide) (by decide)).dv (by decide),_,_,rfl,rfl,(by decide:(2:Int)≠0),rfl,_,rfl,?_⟩
 by_cases c:n*(n - 1) / 2 % 2=1
 ·refine iteY (by show V.int ((((n:Int)*((n:Int) - 1)).fdiv 2).fmod 2)=V.int 1;rw[em,c];rfl) ?_
  have:=q H2 g
  rw[t1 c,show -1*D=- D by omega] at this
  exact⟨_,rfl,_,rfl,this⟩
 ·refine iteN (fun z=>c (by have z':V.int ((((n:Int)*((n:Int) - 1)).fdiv 2).fmod 2)=V.int 1:=z;have:=V.int.inj z';rw[em] at this;omega)) ?_
  have:=q H2 g
  rw[t2 c,Zg] at this;exact⟨_,rfl,this⟩
end
section
variable {P:Program} {w:World} {K:FrQ} {mg:Str->Option Value} {base:Heap}
def eN (l:List Int):El:=.vec (l.map El.num)
def Rw (p:Nat)(n:Nat)(l:List Int):Prop:=l.length=n/\∀ x∈l,0<=x/\x<(p:Int)
theorem rep_ints {H:Hp}{ok:Addr->Prop}{l:Addr}{ns:List Int}(h:H l=some (.lst (ns.map V.int)))(k:ok l):Rep H ok (.ref l) (eN ns):=.vec h k (by rw[Ya,Ya]) fun i v e h1 h2=>by
 rw[Ye] at h1 h2;cases z:ns[i]? with
 | none=>rw[z] at h1;cases h1
 | some n=>rw[z] at h1 h2;cases h1;cases h2;exact .num n
theorem ints_rep {H:Hp}{ok:Addr->Prop}{v:V}{ns:List Int}(h:Rep H ok v (eN ns)):∃ l,v=.ref l/\H l=some (.lst (ns.map V.int))/\ok l:=by
 unfold eN at h;generalize he:El.vec (ns.map El.num)=e at h;cases h with
 | num n=>cases he
 | @vec a vs l h k hl it=>
  injection he with he
  refine⟨a,rfl,?_,k⟩
  have:vs=ns.map V.int:=by
   refine Zi fun i=>?_
   rw[Ye];cases z:ns[i]? with
   | none=>
    have:=List.getElem?_eq_none_iff.mp z
    rw[List.getElem?_eq_none_iff.mpr (by rw[hl,<- he,Ya];exact this)];rfl
   | some n=>
    have hi:=(List.getElem?_eq_some_iff.mp z).1;have h2:l[i]?=some (.num n):=by rw[<- he,Ye,z];rfl
    have h1:vs[i]?=some (vs[i]'(by rw[hl,<- he,Ya];exact hi)):=Yc _
    have:=it i _ _ h1 h2
    rw[h1];generalize vs[i]'(by rw[hl,<- he,Ya];exact hi)=y at this
    cases this;rfl
  rw[<- this];exact h
def spWithout:Sp:=fun vs H Q _=>∃ (p m:Nat) (i:Nat) (u v:V) (a b:List Int),vs=[u,v,.int (i:Int),.int (p:Int)]/\p∈PR/\Rep H Any u (eN a)/\Rep H Any v (eN b)/\Rw p m a/\Rw p m b/\i<m/\m<=100/\∀ r H',Same H H'->Rep H' (NewB H) r (eN (Zo (fun x y=>(x - a.getD i 0*y) % (p:Int)) a b))->Q r H'
theorem ok_without_lead (B:Blt mg)(F:Src K mg "without_lead" s_without_lead Lq12):Dfn P w K mg base 1 "without_lead" Lq12 spWithout:=by
 refine F.ok sc_without_lead (fun vs H Q E h=>?_) (fun fa cdv A outer s H vs Q E hr h=>?_)
 ·obtain⟨p,m,i,u,v,a,b,rfl,_⟩:=h;rfl
 obtain⟨p,m,i,u,v,a,b,rfl,hp,ru,rv,ra,rb,hi,hm,q⟩:=h;obtain⟨la,rfl,hla,_⟩:=ints_rep ru;obtain⟨lb,rfl,hlb,_⟩:=ints_rep rv;refine⟨_,pss_cons (ps_set (i:=4) sc_without_lead.nd rfl (Or.inr rfl) (pe_ix (ixK_list (K:=K) rfl) (pv 0) (pv 2) (fun _ _=>rfl)))
  (pss_one (ps_ret (pe_comp (compScope_mk (N:=Lq15) (sl:=[none,none,some 4,some 3]) (defScope s_without_lead) ["row","lead_row","place","p","factor"] rfl rfl (by decide +kernel)) rfl (piK_zip (K:=K) rfl rfl B.«zip» (pa_cons (pv 0) (pa_cons (pv 1) pa_nil))) (fun _ _ _ _ _=>(pgK_tup (n:=2) (K:=K) rfl rfl (pgs_cons (pg_name (i:=0) (by show Yo (Lq15:List Str);decide +kernel) rfl (Or.inl rfl)) (pgs_cons (pg_name (i:=1) (by show Yo (Lq15:List Str);decide +kernel) rfl (Or.inl rfl)) pgs_nil)))) (fun _ _ _ _ _=>pif_none) (fun _ _ _ _ _=>(pe_op op_modN (pe_op op_sub (pv 0) (pe_op op_mulO (pv 2) (pv 1))) (pv 3)))))),?_⟩
 have pp:=pr_pos hp;have hget:a[i]?=some (a.getD i 0):=by rw[Yb,Yc (by rw[ra.1];exact hi)];rfl
 have hga:=ra.2 _ (Yv hget);generalize a.getD i 0=c at hget hga q;refine⟨_,rfl,_,rfl,la,_,_,_,rfl,rfl,SqL.of hla,atI_nat (j:=i) (by rw[Ye,hget];rfl),?_⟩
 refine⟨_,rfl,_,rfl,la,lb,rfl,⟨_,SqL.of hla⟩,⟨_,SqL.of hlb⟩,fun D hD=>?_⟩
 refine comp_zip (xs:=a.map V.int) (ys:=b.map V.int) (fun n zs H2=>Same H H2/\zs=((Zo (fun x y=>(x - c*y) % (p:Int)) a b).take n).map V.int) (by rw[Ya,Ya,ra.1,rb.1]) ⟨same_new hD _,rfl⟩ (fun n zs H2 _ h=>⟨SqL.of (h.1 _ _ hla),SqL.of (h.1 _ _ hlb)⟩) (fun n m' vx vy zs H2 r hm hn hvx hvy hy hlen h hr2=>?_) (fun zs H2 hy h=>?_)
 ·obtain⟨g2,rfl⟩:=h
  rw[Ya,ra.1] at hn;obtain⟨x,hx,rfl⟩:=map_int_get hvx;obtain⟨y,hy',rfl⟩:=map_int_get hvy;have k2:=same_new hr2 (.tup [.int x,.int y]);have yb:=rb.2 _ (Yv hy');refine⟨r,_,rfl,SqT.of upd_same,rfl,_,_,rfl,_,_,rfl,rfl,?_⟩
  refine⟨_,rfl,_,rfl,_,rfl,_,_,rfl,rfl,mulOk (Bd.small (by omega) (by omega)) (Bd.small (by omega) (by omega)) (by decide),_,_,rfl,rfl,_,rfl,_,_,rfl,rfl,(show (p:Int)≠0 by omega),?_⟩
  refine CW.emit hm (by rw[Ya,ra.1];exact hn) (by rw[Ya,ra.1,sizeLine_eq];omega) (k2 _ _ hy) hlen ⟨Same.free_upd (g2.trans k2) hD _,?_⟩
  have hz:(Zo (fun x y=>(x - c*y) % (p:Int)) a b)[n]?=some ((x - c*y) % (p:Int)):=by rw[List.getElem?_zipWith,hx,hy']
  rw[List.take_succ,hz,Y6];show _++[V.int ((x - c*y).fmod (p:Int))]=_++[V.int ((x - c*y) % (p:Int))]
  rw[fmod_p]
 ·obtain⟨g2,rfl⟩:=h
  rw[Ze (by rw[List.length_zipWith,Ya,ra.1,rb.1];omega)] at hy
  exact q _ _ g2 (rep_ints hy (show H D=none from hD))
def spLeadOne:Sp:=fun vs H Q _=>∃ (p:Nat) (hp:p∈PR) (m i:Nat) (u:V) (a:List Int),vs=[u,.int (i:Int),.int (p:Int)]/\Rep H Any u (eN a)/\Rw p m a/\i<m/\m<=100/\a.getD i 0≠0/\∀ (b:Nat) r H',(b*(a.getD i 0).toNat) % p=1->Same H H'->Rep H' (NewB H) r (eN (a.map fun x=>((b:Int)*x) % (p:Int)))->Q r H'
theorem ok_with_lead_one (B:Blt mg)(F:Src K mg "with_lead_one" s_with_lead_one Lq26):Dfn P w K mg base 1 "with_lead_one" Lq26 spLeadOne:=by
 refine F.ok sc_with_lead_one (fun vs H Q E h=>?_) (fun fa cdv A outer s H vs Q E hr h=>?_)
 ·obtain⟨p,hp,m,i,u,a,rfl,_⟩:=h;rfl
 obtain⟨p,hp,m,i,u,a,rfl,ru,ra,hi,hm,h0,q⟩:=h;obtain⟨la,rfl,hla,_⟩:=ints_rep ru;refine⟨_,pss_cons (ps_set (i:=3) sc_with_lead_one.nd rfl (Or.inr rfl) pe_int)
  (pss_cons (ps_while PassesOwn.never (pt_cmpR op_ne (pe_op op_modN (pe_op op_mulO (pv 3) (pe_ix (ixK_list (K:=K) rfl) (pv 0) (pv 1) (fun _ _=>rfl))) (pv 2)) pe_int (nomark _))
   (pss_one (ps_aug (i:=3) sc_with_lead_one.nd rfl (Or.inr rfl) pe_int iop_add)))
  (pss_one (ps_ret (pe_comp (compScope_mk (N:=["one","back","p"]) (sl:=[none,some 3,some 2]) (defScope s_with_lead_one) ["row","place","p","back"] rfl rfl (by decide +kernel)) rfl (piK_list (K:=K) rfl (pv 0)) (fun _ _ _ _ _=>(pg_name (i:=0) (by show Yo (["one","back","p"]:List Str);decide +kernel) rfl (Or.inl rfl))) (fun _ _ _ _ _=>pif_none) (fun _ _ _ _ _=>(pe_op op_modN (pe_op op_mulO (pv 1) (pv 0)) (pv 2))))))),?_⟩
 have pp:=pr_pos hp;have hget:a[i]?=some (a.getD i 0):=by rw[Yb,Yc (by rw[ra.1];exact hi)];rfl
 have hga:=ra.2 _ (Yv hget);generalize a.getD i 0=c at hget hga h0 q;obtain⟨cn,rfl⟩:=Zc hga.1;obtain⟨y,hy,e1⟩:=fp_inv p hp cn (by omega) (by omega)
 have e1:cn*y % p=1:=by rw[e1];exact Zn (by omega)
 have y0:y≠0:=fun z=>by rw[z,Nat.mul_zero,Nat.zero_mod] at e1;omega
 refine while_in (fun σ H2=>H2=H/\∃ b:Nat,σ=[Rq la,Iq (i),Iq (p),Iq (b)]/\1<=b/\b<=y) (fun σ _=>match σ with | [_,_,_,some (.int b)]=>(y:Nat) - b.toNat | _=>0) ⟨rfl,1,rfl,Yd 1,by omega⟩ ?_
 rintro σ H2 ⟨rfl,b,rfl,b1,b2⟩;refine⟨_,rfl,_,rfl,_,rfl,la,_,_,_,rfl,rfl,SqL.of hla,atI_nat (j:=i) (by rw[Ye,hget];rfl),_,_,rfl,rfl,mulOk (Bd.small (by omega) (by omega)) (Bd.small (by omega) (by omega)) (by decide),_,rfl,_,_,rfl,rfl,(show (p:Int)≠0 by omega),?_⟩
 have ev:((b:Int)*(cn:Int)).fmod (p:Int)=((b*cn % p:Nat):Int):=by rw[fmod_p,<- Zz,<- Int.natCast_emod]
 refine⟨rfl,_,rfl,?_⟩
 by_cases e:b*cn % p=1
 ·refine iteNS (by show V.int (((b:Int)*(cn:Int)).fmod (p:Int))=V.int 1;rw[ev,e];rfl) ?_
  refine⟨_,rfl,la,rfl,⟨_,SqL.of hla⟩,fun D hD=>?_⟩
  refine comp_list (xs:=a.map V.int) (fun n zs H3=>Same H2 H3/\zs=((a.map fun x=>((b:Int)*x) % (p:Int)).take n).map V.int) ⟨same_new hD _,rfl⟩ (fun n zs H3 _ h=>SqL.of (h.1 _ _ hla)) ?_ ?_
  ·rintro n m' vx zs H3 hm' hn hvx hy' hlen ⟨g3,rfl⟩
   rw[Ya,ra.1] at hn;obtain⟨x,hx,rfl⟩:=map_int_get hvx;have xb:=ra.2 _ (Yv hx);refine⟨_,rfl,_,rfl,_,_,rfl,rfl,mulOk (Bd.small (by omega) (by omega)) (Bd.small (by omega) (by omega)) (by decide),_,rfl,_,_,rfl,rfl,(show (p:Int)≠0 by omega),?_⟩
   refine CW.emit hm' (by rw[Ya,ra.1];exact hn) (by rw[Ya,ra.1,sizeLine_eq];omega) hy' hlen ⟨Same.free_upd g3 hD _,?_⟩
   have hz:(a.map fun x=>((b:Int)*x) % (p:Int))[n]?=some (((b:Int)*x) % (p:Int)):=by rw[Ye,hx];rfl
   rw[List.take_succ,hz,Y6];show _++[V.int (((b:Int)*x).fmod (p:Int))]=_++[V.int (((b:Int)*x) % (p:Int))]
   rw[fmod_p]
  ·rintro zs H3 hy' ⟨g3,rfl⟩
   rw[Ze (by rw[Ya,Ya];omega)] at hy'
   exact q b _ _ (by rw[Yk];exact e) g3 (rep_ints hy' (show H2 D=none from hD))
 ·refine iteS (fun z=>e ?_) ?_
  ·have z:V.int (((b:Int)*(cn:Int)).fmod (p:Int))=V.int 1:=z
   rw[ev] at z;injection z with z
   omega
  ·have hne:b≠y:=fun z=>e (by rw[z,Nat.mul_comm];exact e1)
   refine win ⟨_,rfl,_,_,rfl,rfl,⟨rfl,b+1,rfl,by omega,by omega⟩,?_⟩
   show y - ((b:Int)+1).toNat<y - (b:Int).toNat
   omega
def spFirst (K:FrQ):Sp:=fun vs H Q _=>∃ (p m i:Nat) (u:V) (R:List (List Int)),vs=[u,.int (i:Int)]/\Rep H Any u (.vec (R.map eN))/\(∀ a∈R,Rw p m a)/\i<m/\R.length<=100/\
 (∀ (t:Nat) (a:List Int) H',Same H H'->R[t]?=some a->a.getD i 0≠0->Q (.int (t:Int)) H')/\((∀ a∈R,a.getD i 0=0)->∀ H',Same H H'->Q .non H')
theorem ok_first_lead (B:Blt mg)(F:Src K mg "first_lead" s_first_lead Lq32):Dfn P w K mg base 1 "first_lead" Lq32 (spFirst K):=by
 refine F.ok sc_first_lead (fun vs H Q E h=>?_) (fun fa cdv A outer s H vs Q E hr h=>?_)
 ·obtain⟨p,m,i,u,R,rfl,_⟩:=h;rfl
 obtain⟨p,m,i,u,R,rfl,ru,rw',hi,hR,q1,q2⟩:=h;refine⟨_,pss_cons (ps_for PassesOwn.never rfl (piK_enum (K:=K) rfl rfl B.«enumerate» (pa_cons (pv 0) pa_nil)) (pgK_tup (n:=2) (K:=K) rfl rfl (pgs_cons (pg_name (i:=2) sc_first_lead.nd rfl (Or.inl rfl)) (pgs_cons (pg_name (i:=3) sc_first_lead.nd rfl (Or.inl rfl)) pgs_nil)))
   (pss_one (ps_if (pt_cmpR op_ne (pe_ix (ixK_list (K:=K) rfl) (pv 3) (pv 1) (fun _ _=>rfl)) pe_int (nomark _))
    (pss_one (ps_ret (pv 2)))
    (pss_nil))))
  (pss_one (ps_ret pe_non)),?_⟩
 rw[vec_of] at ru;obtain⟨l,vs,rfl,hl,_,C⟩:=id ru.cf;have lv:vs.length=R.length:=by rw[C.len,Ya]
 refine⟨_,rfl,l,rfl,⟨_,SqL.of hl⟩,for_enum (st:=0) (xs:=vs) (fun n σ H2=>Same H H2/\(∀ (t:Nat) a,t<n->R[t]?=some a->a.getD i 0=0)/\∃ o1 o2,σ=[Rq l,Iq (i),o1,o2]) ⟨Same.refl H,fun t a ht=>W1 ht (Zl _),_,_,rfl⟩ (fun n σ H2 _ h=>SqL.of (h.1 _ _ hl)) ?_ ?_⟩
 ·rintro n v σ H2 r hv ⟨g2,h2,o1,o2,rfl⟩ hr2
  obtain⟨hn,rv⟩:=C.get hv;have hnR:n<R.length:=by rw[Ya] at hn;exact hn
  have e:(R.map eN).getD n (.num 0)=eN R[n]:=by rw[Yb,Ye,Yc hnR];rfl
  rw[e] at rv;have k2:=same_new hr2 (.tup [.int ((0+n:Nat):Int),v]);have e3:(upd H2 r (.tup [.int ((0+n:Nat):Int),v])) r=some (.tup [.int ((0+n:Nat):Int),v]):=upd_same;generalize upd H2 r (.tup [.int ((0+n:Nat):Int),v])=H3 at k2 e3;have wn:=rw' _ (Yw hnR);obtain⟨la,rfl,hla,_⟩:=ints_rep ((rv.same g2).same k2);have hget:R[n][i]?=some (R[n].getD i 0):=by rw[Yb,Yc (by rw[wn.1];exact hi)];rfl
  refine⟨r,_,rfl,SqT.of e3,rfl,_,_,rfl,_,_,rfl,rfl,?_⟩
  refine⟨_,rfl,_,rfl,la,_,_,_,rfl,rfl,SqL.of hla,atI_nat (j:=i) (by rw[Ye,hget];rfl),rfl,_,rfl,?_⟩
  by_cases z:R[n].getD i 0=0
  ·refine iteNS (by rw[z]) ⟨g2.trans k2,fun t a ht hat=>?_,_,_,rfl⟩
   by_cases c:t<n
   ·exact h2 t a c hat
   ·obtain rfl:t=n:=by omega
    rw[Yc hnR] at hat;cases hat;exact z
  ·refine iteS (fun y=>z (V.int.inj y)) ⟨_,rfl,?_⟩
   rw[Wo];exact q1 n _ _ (g2.trans k2) (Yc hnR) z
 ·rintro σ H2 ⟨g2,h2,o1,o2,rfl⟩
  refine q2 (fun a ha=>?_) _ g2
  obtain⟨t,ht,rfl⟩:=Z2 ha;exact h2 t _ (by omega) (Yc ht)
theorem cut_out {β:Type}{l:List β}{t:Nat}(ht:t<l.length)(i:Nat):(l.take t++l.drop (t+1))[i]?=l[if i<t then i else i+1]?:=by
 by_cases h:i<t
 ·rw[Wv h,Y2 (by rw[Yr];omega),List.getElem?_take_of_lt h]
 ·rw[Wu h,Y0 (by rw[Yr];omega),Yr,List.getElem?_drop]
  congr 1
  omega
theorem Rw.get {p m:Nat}{l:List Int}(h:Rw p m l)(j:Nat):0<=l.getD j 0/\(l.getD j 0<(p:Int)\/l.getD j 0=0):=by
 rw[Yb];cases e:l[j]? with
 | none=>exact⟨Int.le_refl 0,.inr rfl⟩
 | some x=>have:=h.2 x (Yv e);exact⟨this.1,.inl this.2⟩
def zr {p:Nat}(hp:p∈PR)(l:List Int)(j:Nat):(ground p hp).α:=nt (ground p hp).α (l.getD j 0).toNat
theorem nt_int {p:Nat}(hp:p∈PR){x y:Int}(hx:0<=x)(hy:0<=y)(h:x % (p:Int)=y % (p:Int)):nt (ground p hp).α x.toNat=nt (ground p hp).α y.toNat:=by
 rw[<- nt_mod (ground p hp).ch x.toNat,<- nt_mod (ground p hp).ch y.toNat];congr 1
 show x.toNat % p=y.toNat % p
 have e1:((x.toNat % p:Nat):Int)=x % (p:Int):=by rw[Int.natCast_emod,Zs hx]
 have e2:((y.toNat % p:Nat):Int)=y % (p:Int):=by rw[Int.natCast_emod,Zs hy]
 omega
theorem zr_without {p m:Nat}(hp:p∈PR){a b:List Int}{c:Int}(ra:Rw p m a)(rb:Rw p m b)(c0:0<=c)(j:Nat):zr hp (Zo (fun x y=>(x - c*y) % (p:Int)) a b) j=zr hp a j - nt (ground p hp).α c.toNat*zr hp b j:=by
 have pp:=pr_pos hp;have key:∀ x y:Int,0<=x->0<=y->nt (ground p hp).α ((x - c*y) % (p:Int)).toNat=nt (ground p hp).α x.toNat - nt (ground p hp).α c.toNat*nt (ground p hp).α y.toNat:=fun x y hx hy=>by
  have h:nt (ground p hp).α ((x - c*y) % (p:Int)).toNat+nt (ground p hp).α (c.toNat*y.toNat)=nt (ground p hp).α x.toNat:=by
   rw[<- nt_add];have hm:=Zb (x - c*y) (show (p:Int)≠0 by omega)
   have hcy:0<=c*y:=Int.mul_nonneg c0 hy;have e:(((x - c*y) % (p:Int)).toNat+c.toNat*y.toNat:Nat)=((x - c*y) % (p:Int)+c*y).toNat:=by
    have:((c.toNat*y.toNat:Nat):Int)=c*y:=by rw[Zz,Zs c0,Zs hy]
    omega
   rw[e];refine nt_int hp (by omega) hx ?_
   rw[Int.emod_add_emod];congr 1
   omega
  rw[nt_mul] at h;grind
 unfold zr;by_cases hj:j<m
 ·have h1:a[j]?=some (a.getD j 0):=by rw[Yb,Yc (by rw[ra.1];exact hj)];rfl
  have h2:b[j]?=some (b.getD j 0):=by rw[Yb,Yc (by rw[rb.1];exact hj)];rfl
  have h3:(Zo (fun x y=>(x - c*y) % (p:Int)) a b).getD j 0=(a.getD j 0 - c*b.getD j 0) % (p:Int):=by rw[Yb,List.getElem?_zipWith,h1,h2];rfl
  rw[h3];exact key _ _ (ra.get j).1 (rb.get j).1
 ·have h1:a.getD j 0=0:=by rw[Yb,Z6 (by rw[ra.1];omega)];rfl
  have h2:b.getD j 0=0:=by rw[Yb,Z6 (by rw[rb.1];omega)];rfl
  have h3:(Zo (fun x y=>(x - c*y) % (p:Int)) a b).getD j 0=0:=by rw[Yb,Z6 (by rw[List.length_zipWith,ra.1,rb.1];omega)];rfl
  rw[h1,h2,h3];show (0:(ground p hp).α)=0 - nt (ground p hp).α c.toNat*0
  grind
theorem Rw.without {p m:Nat}(hp:p∈PR){a b:List Int}{c:Int}(ra:Rw p m a)(rb:Rw p m b):Rw p m (Zo (fun x y=>(x - c*y) % (p:Int)) a b):=by
 have pp:=pr_pos hp;refine⟨by rw[List.length_zipWith,ra.1,rb.1,Nat.min_self],fun x hx=>?_⟩
 obtain⟨i,hi,rfl⟩:=Z2 hx;rw[List.getElem_zipWith];exact⟨Zb _ (by omega),Za _ (by omega)⟩
theorem zr_lead {p m:Nat}(hp:p∈PR){a:List Int}{b:Nat}(ra:Rw p m a)(j:Nat):zr hp (a.map fun x=>((b:Int)*x) % (p:Int)) j=nt (ground p hp).α b*zr hp a j:=by
 have pp:=pr_pos hp;unfold zr;have h3:(a.map fun x=>((b:Int)*x) % (p:Int)).getD j 0=((b:Int)*a.getD j 0) % (p:Int):=by
  rw[Yb,Yb,Ye];cases a[j]? with
  | none=>show (0:Int)=((b:Int)*0) % (p:Int);simp
  | some x=>rfl
 have h0:=(ra.get j).1;rw[h3,<- nt_mul];have e:(b*(a.getD j 0).toNat:Nat)=((b:Int)*a.getD j 0).toNat:=by
  have:((b*(a.getD j 0).toNat:Nat):Int)=(b:Int)*a.getD j 0:=by rw[Zz,Zs h0]
  omega
 rw[e];exact nt_int hp (Zb _ (by omega)) (Int.mul_nonneg (by omega) h0) (Int.emod_emod _ _)
theorem Rw.lead {p m:Nat}(hp:p∈PR){a:List Int}{b:Nat}(ra:Rw p m a):Rw p m (a.map fun x=>((b:Int)*x) % (p:Int)):=by
 have pp:=pr_pos hp;refine⟨by rw[Ya,ra.1],fun x hx=>?_⟩
 obtain⟨y,_,rfl⟩:=List.mem_map.mp hx;exact⟨Zb _ (by omega),Za _ (by omega)⟩
def unitL (n t:Nat):List Int:=(Yj n).map fun j=>if j=t then 1 else 0
theorem zr_start {p W n:Nat}(hp:p∈PR){R:List (List Int)}(hn:R.length=n)(hR:∀ a∈R,Rw p W a){t:Nat}{a:List Int}(ht:R[t]?=some a):zr hp (a++unitL n t)=row0 W n (fun r j=>zr hp (R.getD r []) j) t:=by
 funext j
 have ra:=hR a (Yv ht);have et:R.getD t []=a:=by rw[Yb,ht];rfl
 show nt (ground p hp).α ((a++unitL n t).getD j 0).toNat=if j<W then zr hp (R.getD t []) j else if j<W+n then (if j - W=t then 1 else 0) else 0
 have lu:(unitL n t).length=n:=by unfold unitL;rw[Ya,Yg]
 by_cases h1:j<W
 ·rw[Wv h1,et,Yb,Y2 (by rw[ra.1];exact h1)]
  unfold zr;rw[Yb]
 ·rw[Wu h1,Yb,Y0 (by rw[ra.1];omega),ra.1]
  by_cases h2:j<W+n
  ·rw[Wv h2]
   unfold unitL;rw[Ye,Yu (by omega)]
   show nt (ground p hp).α (if j - W=t then (1:Int) else 0).toNat=_
   by_cases h3:j - W=t
   ·rw[Wv h3,Wv h3];exact nt_one
   ·rw[Wu h3,Wu h3];rfl
  ·rw[Wu h2,Z6 (by rw[lu];omega)];rfl
def Uni {α:Type}[Lean.Grind.CommRing α](W n:Nat)(S:List (Nat->α)):Prop:=∃ ι:Nat->Nat,(∀ u,u<S.length->ι u<n)/\∀ (t u:Nat) s,S[t]?=some s->u<S.length->s (W+ι u)=if t=u then 1 else 0
theorem Uni.step {α:Type}[Lean.Grind.CommRing α]{W n t k:Nat}{S S':List (Nat->α)}{s0 r:Nat->α}{b:α}(h:Uni W n S)(ht:S[t]?=some s0)(er:∀ j,r j=b*s0 j)(hl:S'.length+1=S.length)(hs:∀ (i:Nat) s',S'[i]?=some s'->∃ s,S[if i<t then i else i+1]?=some s/\∀ j,s' j=s j - s k*r j):Uni W n S':=by
 obtain⟨ι,h1,h2⟩:=h;have htl:=(List.getElem?_eq_some_iff.mp ht).1;refine⟨fun u=>ι (if u<t then u else u+1),fun u hu=>h1 _ (by split <;> omega),fun i u s' hi hu=>?_⟩
 obtain⟨s,hs1,hs2⟩:=hs i s' hi;have hk:(if u<t then u else u+1)<S.length:=by split <;> omega
 have e1:=h2 _ _ s hs1 hk;have e2:=h2 _ _ s0 ht hk;rw[Wu (show ¬ t=(if u<t then u else u+1) by split <;> omega)] at e2
 show s' (W+ι (if u<t then u else u+1))=_
 rw[hs2,er,e1,e2];by_cases c:i=u
 ·rw[Wv (by rw[c]),Wv c];grind
 ·rw[Wu (show ¬ (if i<t then i else i+1)=(if u<t then u else u+1) by split <;> split <;> omega),Wu c];grind
theorem Uni.start {α:Type}[Lean.Grind.CommRing α]{W n:Nat}{R:Nat->Nat->α}:Uni W n ((Yj n).map (row0 W n R)):=by
 refine⟨fun u=>u,fun u hu=>by rw[Ya,Yg] at hu;exact hu,fun t u s hs hu=>?_⟩
 rw[Ya,Yg] at hu;rw[Ye] at hs;have ht:t<n:=by
  rcases Nat.lt_or_ge t n with y | y
  ·exact y
  ·rw[List.getElem?_eq_none_iff.mpr (by rw[Yg];exact y)] at hs;cases hs
 rw[Yu ht] at hs;cases hs;show (if W+u<W then R t (W+u) else if W+u<W+n then (if W+u - W=t then (1:α) else 0) else 0)=_
 rw[Wu (by omega),Wv (by omega),Z1]
 by_cases c:t=u
 ·rw[Wv c,Wv c.symm]
 ·rw[Wu c,Wu fun z=>c z.symm]
def spKernel:Sp:=fun vs H Q _=>∃ (p:Nat) (hp:p∈PR) (W:Nat) (v:V) (R:List (List Int)),vs=[v,.int (p:Int)]/\Rep H Any v (.vec (R.map eN))/\1<=R.length/\R.length<=50/\W<=50/\(∀ a∈R,Rw p W a)/\
 ∀ (S:List (List Int)) r H',Same H H'->(∀ l∈S,Rw p (W+R.length) l)->S.length<=50->(∀ l∈S,∃ i,i<R.length/\l.getD (W+i) 0≠0)->Krn W R.length (fun r j=>zr hp (R.getD r []) j) W (S.map (zr hp))->Rep H' (NewB H) r (.vec (S.map fun l=>eN (l.drop W)))->Q r H'
theorem ok_kernel (B:Blt mg)(d_without_lead:Dfn P w K mg base 1 "without_lead" Lq12 spWithout)(d_with_lead_one:Dfn P w K mg base 1 "with_lead_one" Lq26 spLeadOne)(d_first_lead:Dfn P w K mg base 1 "first_lead" Lq32 (spFirst K))(F:Src K mg "kernel" s_kernel ["rows","p"]):Dfn P w K mg base 2 "kernel" ["rows","p"] spKernel:=by
 refine F.ok sc_kernel (fun vs H Q E h=>?_) (fun fa cdv A outer s H vs Q E hr h=>?_)
 ·obtain⟨p,hp,W,v,R,rfl,_⟩:=h;rfl
 obtain⟨p,hp,W,v,R,rfl,rv,n1,n2,hW,hR,q⟩:=h;refine⟨_,pss_cons (ps_set (i:=2) sc_kernel.nd rfl (Or.inr rfl) (pe_callB (callK_len (K:=K) rfl) rfl B.«len» bt_len (pa_cons (pv 0) pa_nil)))
  (pss_cons (ps_set (i:=3) sc_kernel.nd rfl (Or.inr rfl) (pe_callB (callK_len (K:=K) rfl) rfl B.«len» bt_len (pa_cons (pe_ix (ixK_list (K:=K) rfl) (pv 0) pe_int (fun _ _=>rfl)) pa_nil)))
  (pss_cons (ps_setCC (i:=4) sc_kernel.nd rfl (Or.inl rfl) (compScopeC_mk (N:=["at","row","many"]) (sl:=[none,none,some 2]) "at" (defScope s_kernel) Lq1 rfl rfl (by decide +kernel)) rfl (piK_enum (K:=K) rfl rfl B.«enumerate» (pa_cons (pv 0) pa_nil)) (fun _ _ _ _ _=>(pgK_tup (n:=2) (K:=K) rfl rfl (pgs_cons (pg_name (i:=0) (by show Yo (["at","row","many"]:List Str);decide +kernel) rfl (Or.inr rfl)) (pgs_cons (pg_name (i:=1) (by show Yo (["at","row","many"]:List Str);decide +kernel) rfl (Or.inl rfl)) pgs_nil)))) (fun _ _ _ _ _=>pif_none) (fun _ _ _ _ _=>(pe_op op_cat (pv 1) (pe_comp (compScope_mk (N:=["place","at"]) (sl:=[none,some 0]) (relabelS (stComp ((defBody s_kernel).getD 2 (.Pass ⟨0,0,0,0⟩))) (defScope s_kernel)) ["at","row","many"] rfl rfl (by decide +kernel)) rfl (pi_range1 rfl B.«range» (pa_cons (pv 2) pa_nil)) (fun _ _ _ _ _=>(pg_name (i:=0) (by show Yo (["place","at"]:List Str);decide +kernel) rfl (Or.inl rfl))) (fun _ _ _ _ _=>pif_none) (fun _ _ _ _ _=>(pe_ifExp (pt_cmpR op_eq (pv 0) (pv 1) (nomark _)) pe_int pe_int))))))
  (pss_cons (ps_for PassesOwn.never rfl (pi_range1 rfl B.«range» (pa_cons (pv 3) pa_nil)) (pg_name (i:=5) sc_kernel.nd rfl (Or.inr rfl))
   (pss_cons (ps_set (i:=6) sc_kernel.nd rfl (Or.inl rfl) (pe_def d_first_lead hr (pa_cons (pv 4) (pa_cons (pv 5) pa_nil))))
   (pss_one (ps_if (pt_cmpR op_isnot (pv 6) pe_non (nomark _))
    (pss_cons (ps_set (i:=7) sc_kernel.nd rfl (Or.inr rfl) (pe_def d_with_lead_one hr (pa_cons (pe_ix (ixK_list (K:=K) rfl) (pv 4) (pv 6) (fun _ _=>rfl)) (pa_cons (pv 5) (pa_cons (pv 1) pa_nil)))))
    (pss_one (ps_setC (i:=4) sc_kernel.nd rfl (Or.inl rfl) (compScope_mk (N:=Lq12) (sl:=[none,some 7,some 5,some 1]) (defScope s_kernel) Lq1 rfl rfl (by decide +kernel)) rfl (piK_list (K:=K) rfl (pe_op op_cat (pe_slice (slK_list (K:=K) rfl) (pv 4) po_none (po_some (pv 6))) (pe_slice (slK_list (K:=K) rfl) (pv 4) (po_some (pe_op op_add (pv 6) pe_int)) po_none))) (fun _ _ _ _ _=>(pg_name (i:=0) (by show Yo (Lq12:List Str);decide +kernel) rfl (Or.inl rfl))) (fun _ _ _ _ _=>pif_none) (fun _ _ _ _ _=>(pe_def d_without_lead hr (pa_cons (pv 0) (pa_cons (pv 1) (pa_cons (pv 2) (pa_cons (pv 3) pa_nil)))))))))
    (pss_nil)))))
  (pss_one (ps_ret (pe_comp (compScope_mk (N:=["row","width"]) (sl:=[none,some 3]) (defScope s_kernel) Lq1 rfl rfl (by decide +kernel)) rfl (piK_list (K:=K) rfl (pv 4)) (fun _ _ _ _ _=>(pg_name (i:=0) (by show Yo (["row","width"]:List Str);decide +kernel) rfl (Or.inl rfl))) (fun _ _ _ _ _=>pif_none) (fun _ _ _ _ _=>(pe_slice (slK_list (K:=K) rfl) (pv 0) (po_some (pv 1)) po_none)))))))),?_⟩
 have pp:=pr_pos hp;have rv0:=rv;rw[vec_of] at rv;obtain⟨l,vs,rfl,hl,_,C⟩:=id rv.cf;have lv:vs.length=R.length:=by rw[C.len,Ya]
 have cget:∀ {i:Nat} {x:V} {H2:Hp},Same H H2->vs[i]?=some x->∃ a,R[i]?=some a/\Rep H2 Any x (eN a):=fun g hx=>by
  obtain⟨hi,r⟩:=C.get hx;rw[Ya] at hi;refine⟨_,Yc hi,?_⟩
  rw[Yb,Ye,Yc hi] at r;exact r.same g
 obtain⟨v0,hv0⟩:∃ v0,vs[0]?=some v0:=⟨_,Yc (by omega)⟩
 obtain⟨a0,ha0,r0⟩:=cget (Same.refl H) hv0;obtain⟨l0,rfl,hl0,_⟩:=ints_rep r0;have w0:=(hR a0 (Yv ha0)).1;refine mseqF (fun _:Unit=>[Rq l,Iq (p),Iq (R.length),none,none,none,none,none]) (fun _ H2=>H=H2) (fun C' key=>⟨_,rfl,l,_,rfl,.inl (SqL.of hl),gsetF key () rfl (by rw[lv];rfl)⟩) ?_
 rintro _ _ rfl;refine mseqF (fun _:Unit=>[Rq l,Iq (p),Iq (R.length),Iq (W),none,none,none,none]) (fun _ H2=>H=H2) (fun C' key=>⟨_,rfl,l,_,_,_,rfl,rfl,SqL.of hl,atI_nat (j:=0) hv0,l0,_,rfl,.inl (SqL.of hl0),gsetF key () rfl (by rw[Ya,w0];rfl)⟩) ?_
 rintro _ _ rfl;refine mseqF (fun i:Addr×List (List Int)=>[Rq l,Iq (p),Iq (R.length),Iq (W),Rq i.1,none,none,none]) (fun i H2=>Same H H2/\Rep H2 (NewB H) (.ref i.1) (.vec (i.2.map eN))/\i.2=(Yj R.length).map fun t=>R.getD t []++unitL R.length t) (fun C' key=>?_) ?_
 ·skip
  refine⟨_,rfl,l,rfl,⟨_,SqL.of hl⟩,fun D hD=>?_⟩
  refine comp_enum (st0:=0) (xs:=vs) (fun i ys H2=>Same H H2/\Cf H2 (Off H D) ys i fun t=>eN (R.getD t []++unitL R.length t)) ⟨same_new hD _,.nil⟩ (fun i ys H2 _ h=>SqL.of (h.1 _ _ hl)) ?_ ?_
  ·rintro t m' x ys H2 r hm' ht hx hy hlen ⟨g2,cy⟩ hr2
   have htR:t<R.length:=by omega
   obtain⟨a,ha,ra⟩:=cget g2 hx;have wa:=hR a (Yv ha);have k2:=same_new hr2 (.tup [.int ((0+t:Nat):Int),x]);have e3:(upd H2 r (.tup [.int ((0+t:Nat):Int),x])) r=some (.tup [.int ((0+t:Nat):Int),x]):=upd_same;generalize upd H2 r (.tup [.int ((0+t:Nat):Int),x])=H3 at k2 e3;obtain⟨la,rfl,hla,_⟩:=ints_rep (ra.same k2);refine⟨r,_,rfl,SqT.of e3,rfl,_,_,rfl,_,_,rfl,rfl,?_⟩
   refine⟨_,rfl,_,rfl,_,rfl,by omega,by omega,fun D2 hD2=>?_⟩
   rw[Yk];refine comp_range (fun j zs H4=>Same H3 H4/\zs=((unitL R.length t).take j).map V.int) ⟨same_new hD2 _,rfl⟩ ?_ ?_
   ·rintro j m2 zs H4 hm2 hj hz hlz ⟨g4,rfl⟩
    have hu:(unitL R.length t)[j]?=some (if j=t then 1 else 0):=by unfold unitL;rw[Ye,Yu hj];rfl
    refine⟨_,rfl,_,rfl,rfl,_,rfl,?_⟩
    have fin:∀ w:Int,(if j=t then (1:Int) else 0)=w->∃ ys,H4 D2=some (.lst ys)/\ys.length<sizeLine/\∃ m',m'<m2/\CW R.length D2 (fun j zs H4=>Same H3 H4/\zs=((unitL R.length t).take j).map V.int) (j+1) m' (upd H4 D2 (.lst (ys++[V.int w]))):=fun w hw=>
     CW.emit hm2 hj (by rw[sizeLine_eq];omega) hz hlz ⟨Same.free_upd g4 hD2 _,by rw[List.take_succ,hu,hw,Y6];rfl⟩
    by_cases c:j=t
    ·refine iteY (by rw[c];congr 1;try omega) (fin 1 (Wv c))
    ·refine iteN (fun z=>c ?_) (fin 0 (Wu c))
     injection z with z
     omega
   ·rintro zs H4 hz ⟨g4,rfl⟩
    rw[Ze (by unfold unitL;rw[Ya,Yg];exact Yd _)] at hz
    have lu:(unitL R.length t).length=R.length:=by unfold unitL;rw[Ya,Yg]
    refine⟨la,D2,_,_,rfl,rfl,g4 _ _ hla,hz,by rw[Ya,Ya,wa.1,lu,sizeLine_eq];omega,fun l5 n5=>?_⟩
    have k5:=same_new n5 (.lst (a.map V.int++(unitL R.length t).map V.int));have e5:(upd H4 l5 (.lst (a.map V.int++(unitL R.length t).map V.int))) l5=some (.lst ((a++unitL R.length t).map V.int)):=by rw[Y6];exact upd_same
    generalize upd H4 l5 (.lst (a.map V.int++(unitL R.length t).map V.int))=H5 at k5 e5;have g25:=(k2.trans g4).trans k5;have hDne:∀ c,H2 c=none->c≠D:=fun c hc z=>by rw[z,hy] at hc;cases hc
    have n52:H2 l5=none:=(k2.trans g4).free n5;refine CW.emit hm' ht (by rw[lv,sizeLine_eq];omega) (g25 _ _ hy) hlen ⟨Same.free_upd (g2.trans g25) hD _,?_⟩
    refine (Cf.push (cy.same g25) ?_).upd
    have et:R.getD t []=a:=by rw[Yb,ha];rfl
    rw[et];exact rep_ints e5 ⟨g2.free n52,hDne _ n52⟩
  ·rintro ys H2 hy ⟨g2,cy⟩
   refine gsetF key (D,(Yj R.length).map fun t=>R.getD t []++unitL R.length t) ⟨g2,?_,rfl⟩ rfl
   show Rep H2 (NewB H) (.ref D) (.vec (((Yj R.length).map fun t=>R.getD t []++unitL R.length t).map eN))
   rw[Wq];rw[lv] at cy;exact (cy.imp fun c o h k=>⟨h,k.1⟩).rep hy hD
 rintro⟨lf,S⟩ H3 ⟨g3,rf,eS⟩
 have rf:Rep H3 (NewB H) (.ref lf) (.vec (S.map eN)):=rf;have lS:S.length<=50:=by rw[show S=_ from eS,Ya,Yg];exact n2
 have hS:∀ l∈S,Rw p (W+R.length) l:=fun l hl'=>by
  rw[show S=_ from eS] at hl'
  obtain⟨t,ht,rfl⟩:=List.mem_map.mp hl';have ht:=List.mem_range.mp ht;have wt:=hR (R.getD t []) (by rw[Yb,Yc ht];exact Yw ht)
  refine⟨by rw[Yl,wt.1];unfold unitL;rw[Ya,Yg],fun x hx=>?_⟩
  rcases List.mem_append.mp hx with h | h
  ·exact wt.2 x h
  ·obtain⟨j,_,rfl⟩:=List.mem_map.mp h
   split <;> omega
 have kS:Krn W R.length (fun r j=>zr hp (R.getD r []) j) 0 (S.map (zr hp)):=by
  have:S.map (zr hp)=(Yj R.length).map (row0 W R.length fun r j=>zr hp (R.getD r []) j):=by
   rw[show S=_ from eS,Wq]
   refine Wb fun t ht=>?_
   have ht:=List.mem_range.mp ht;have e:R[t]?=some (R.getD t []):=by rw[Yb,Yc ht];rfl
   exact zr_start hp rfl hR e
  rw[this];exact Krn.start
 have uS:Uni W R.length (S.map (zr hp)):=by
  have:S.map (zr hp)=(Yj R.length).map (row0 W R.length fun r j=>zr hp (R.getD r []) j):=by
   rw[show S=_ from eS,Wq]
   refine Wb fun t ht=>?_
   have ht:=List.mem_range.mp ht;have e:R[t]?=some (R.getD t []):=by rw[Yb,Yc ht];rfl
   exact zr_start hp rfl hR e
  rw[this];exact Uni.start
 clear eS;refine mseqF (fun i:Addr×Option V×Option V×Option V=>[Rq l,Iq (p),Iq (R.length),Iq (W),Rq i.1,i.2.1,i.2.2.1,i.2.2.2]) (fun i H4=>Same H H4/\∃ S:List (List Int),Rep H4 (NewB H) (.ref i.1) (.vec (S.map eN))/\S.length<=50/\(∀ l∈S,Rw p (W+R.length) l)/\Uni W R.length (S.map (zr hp))/\Krn W R.length (fun r j=>zr hp (R.getD r []) j) W (S.map (zr hp))) (fun C' key=>?_) ?_
 ·skip
  refine⟨_,rfl,_,rfl,by omega,by omega,?_⟩
  rw[Yk];refine for_range (fun k σ H4=>Same H H4/\∃ (lf:Addr) (S:List (List Int)) (o1 o2 o3:Option V),σ=[Rq l,Iq (p),Iq (R.length),Iq (W),Rq lf,o1,o2,o3]/\Rep H4 (NewB H) (.ref lf) (.vec (S.map eN))/\S.length<=50/\(∀ l∈S,Rw p (W+R.length) l)/\Uni W R.length (S.map (zr hp))/\Krn W R.length (fun r j=>zr hp (R.getD r []) j) k (S.map (zr hp))) ⟨g3,lf,S,_,_,_,rfl,rf,lS,hS,uS,kS⟩ ?_ ?_
  ·rintro k σ H4 hk ⟨g4,lf,S,o1,o2,o3,rfl,rf,lS,hS,uS,kS⟩
   show gName 5 (V.int (0+(k:Int))) _ _ _
   rw[Z4];have rf0:=rf;rw[vec_of] at rf;obtain⟨lf',fs,elf,hlf,nlf,CF⟩:=id rf.cf;obtain rfl:lf=lf':=V.ref.inj elf
   have lfs:fs.length=S.length:=by rw[CF.len,Ya]
   have fget:∀ {i:Nat} {x:V} {H2:Hp},Same H4 H2->fs[i]?=some x->∃ a,S[i]?=some a/\Rep H2 Any x (eN a):=fun g hx=>by
    obtain⟨hi,r⟩:=CF.get hx;rw[Ya] at hi;refine⟨_,Yc hi,?_⟩
    rw[Yb,Ye,Yc hi] at r;exact (r.same g).any
   refine⟨_,rfl,_,rfl,p,W+R.length,k,.ref lf,S,rfl,rf0.any,hS,by omega,by omega,fun t s0 H5 g5 ht h0=>?_,fun h0 H5 g5=>?_⟩
   ·have ht':=(List.getElem?_eq_some_iff.mp ht).1
    refine⟨_,rfl,rfl,_,rfl,iteS (fun z=>by cases z) ?_⟩
    have g45:=g4.trans g5;obtain⟨xt,hxt⟩:∃ x,fs[t]?=some x:=⟨_,Yc (by omega)⟩
    obtain⟨s0',hs0',rx0⟩:=fget g5 hxt;obtain rfl:s0=s0':=by rw[ht] at hs0';exact Option.some.inj hs0'
    have ms0:=Yv ht;refine⟨_,rfl,_,rfl,lf,_,_,_,rfl,rfl,SqL.of (g5 _ _ hlf),atI_nat (j:=t) hxt,_,rfl,_,rfl,p,hp,W+R.length,k,xt,s0,rfl,rx0,hS s0 ms0,by omega,by omega,h0,fun b r6 H6 hb g6 rr6=>?_⟩
    have g46:=g5.trans g6;refine⟨_,rfl,_,rfl,_,rfl,lf,_,rfl,SqL.of (g46 _ _ hlf),fun l7 n7=>?_⟩
    rw[cutV_vs fs t (by omega)]
    generalize hX:upd H6 l7 _=H7;have x7:=new_of n7 hX;clear hX;refine⟨_,rfl,_,rfl,_,_,rfl,rfl,_,rfl,lf,_,rfl,SqL.of (x7.1 _ _ (g46 _ _ hlf)),fun l8 n8=>?_⟩
    rw[show cutV fs (some ((t:Int)+1)) none=fs.drop (t+1) from by rw[show (t:Int)+1=((t+1:Nat):Int) by omega];exact cutV_from fs (t+1) (by omega)]
    generalize hX:upd H7 l8 _=H8;have x8:=new_of n8 hX;clear hX;refine⟨l7,l8,_,_,rfl,rfl,x8.1 _ _ x7.2,x8.2,by rw[Yr,Yz,sizeLine_eq];omega,fun l9 n9=>?_⟩
    generalize hX:upd H8 l9 _=H9;have x9:=new_of n9 hX;clear hX;have g69:=(x7.1.trans x8.1).trans x9.1;have g49:=g46.trans g69;refine⟨l9,rfl,⟨_,SqL.of x9.2⟩,fun D hD=>?_⟩
    have rr9:=rr6.same g69;have wl:=(hS s0 ms0).lead hp (b:=b);have hSS:∀ (i:Nat) x,(fs.take t++fs.drop (t+1))[i]?=some x->∃ a,(S.take t++S.drop (t+1))[i]?=some a/\∀ H2,Same H4 H2->Rep H2 Any x (eN a):=fun i x hx=>by
     rw[cut_out (by omega)] at hx
     obtain⟨a,ha,_⟩:=fget (Same.refl H4) hx;exact⟨a,by rw[cut_out ht'];exact ha,fun H2 g=>by obtain⟨a',ha',r⟩:=fget g hx;rw[ha] at ha';cases ha';exact r⟩
    have lSS:(S.take t++S.drop (t+1)).length=(fs.take t++fs.drop (t+1)).length:=by rw[Yl,Yl,Yr,Yr,Yz,Yz,lfs]
    have mSS:∀ a∈S.take t++S.drop (t+1),a∈S:=fun a ha=>(List.mem_append.mp ha).elim List.mem_of_mem_take List.mem_of_mem_drop
    have nD:H D=none:=(g4.trans g49).free hD;refine comp_list (xs:=fs.take t++fs.drop (t+1)) (fun i ys H2=>Same H9 H2/\Cf H2 (Off H D) ys i fun i=>eN (((S.take t++S.drop (t+1)).map fun a=>Zo (fun x y=>(x - a.getD k 0*y) % (p:Int)) a (s0.map fun x=>((b:Int)*x) % (p:Int))).getD i [])) ⟨same_new hD _,.nil⟩ (fun i ys H2 _ h=>SqL.of (h.1 _ _ x9.2)) ?_ ?_
    ·rintro i m' x ys H2 hm' hi hx hy hlen ⟨g2,cy⟩
     obtain⟨a,ha,ra⟩:=hSS i x hx;have ma:=mSS a (Yv ha);refine⟨_,rfl,_,rfl,_,rfl,_,rfl,p,W+R.length,k,x,r6,a,_,rfl,hp,ra H2 (g49.trans g2),(rr9.same g2).any,hS a ma,wl,by omega,by omega,fun r H3 g3 rr=>?_⟩
     refine CW.emit hm' hi (by rw[<- lSS,Yl,Yr,Yz,sizeLine_eq];omega) (g3 _ _ hy) hlen ⟨Same.free_upd (g2.trans g3) hD _,?_⟩
     refine (Cf.push (cy.same g3) ?_).upd
     have e:((S.take t++S.drop (t+1)).map fun a=>Zo (fun x y=>(x - a.getD k 0*y) % (p:Int)) a (s0.map fun x=>((b:Int)*x) % (p:Int))).getD i []=Zo (fun x y=>(x - a.getD k 0*y) % (p:Int)) a (s0.map fun x=>((b:Int)*x) % (p:Int)):=by rw[Yb,Ye,ha];rfl
     rw[e];refine rr.imp fun c o h kk=>⟨h,((g4.trans g49).trans g2).free kk,fun z=>?_⟩
     rw[z] at kk;rw[show H2 D=none from kk] at hy
     cases hy
    ·rintro ys H2 hy ⟨g2,cy⟩
     show gName 4 (V.ref D) _ _ _
     have gA:=(g4.trans g49).trans g2;refine⟨gA,D,(S.take t++S.drop (t+1)).map (fun a=>Zo (fun x y=>(x - a.getD k 0*y) % (p:Int)) a (s0.map fun x=>((b:Int)*x) % (p:Int))),_,_,_,rfl,?_,?_,?_,?_,?_⟩
     ·rw[vec_of,Ya,Ya,lSS]
      refine (Cf.congr (cy.imp fun c o h kk=>⟨h,kk.1⟩) fun i hi=>?_).rep hy nD
      rw[Yb,Yb,Ye (f:=eN)];cases hz:((S.take t++S.drop (t+1)).map fun a=>Zo (fun x y=>(x - a.getD k 0*y) % (p:Int)) a (s0.map fun x=>((b:Int)*x) % (p:Int)))[i]? with
      | none=>exact W1 (List.getElem?_eq_none_iff.mp hz) (by rw[Ya,lSS];omega)
      | some z=>rfl
     ·rw[Ya,Yl,Yr,Yz];omega
     ·intro l' hl'
      obtain⟨a,ha,rfl⟩:=List.mem_map.mp hl';exact (hS a (mSS a ha)).without hp wl
     ·refine uS.step (t:=t) (k:=k) (s0:=zr hp s0) (r:=zr hp (s0.map fun x=>((b:Int)*x) % (p:Int))) (b:=nt (ground p hp).α b) (by rw[Ye,ht];rfl) (fun j=>zr_lead hp (hS s0 ms0) j) (by rw[Ya,Ya,Ya,Yl,Yr,Yz];omega) fun i s' hi=>?_
      rw[Ye,Ye,cut_out ht'] at hi;cases hz:S[if i<t then i else i+1]? with
      | none=>rw[hz] at hi;cases hi
      | some a=>
       rw[hz] at hi;cases hi;have wa:=hS a (Yv hz);exact⟨zr hp a,by rw[Ye,hz];rfl,fun j=>zr_without hp wa wl (wa.get k).1 j⟩
     ·have b0:=hS s0 ms0
      refine kS.step (r:=zr hp (s0.map fun x=>((b:Int)*x) % (p:Int))) (s0:=zr hp s0) (b:=nt (ground p hp).α b) (List.mem_map.mpr ⟨s0,ms0,rfl⟩) (fun j=>zr_lead hp b0 j) ?_ ?_ ?_
      ·rw[zr_lead hp b0]
       show nt (ground p hp).α b*nt (ground p hp).α (s0.getD k 0).toNat=1
       rw[<- nt_mul,<- nt_mod (ground p hp).ch];show nt (ground p hp).α (b*(s0.getD k 0).toNat % p)=1
       rw[hb];exact nt_one
      ·intro z hz
       obtain⟨a,ha,rfl⟩:=List.mem_map.mp hz;obtain⟨i,hi,rfl⟩:=Z2 ha;by_cases c:i=t
       ·left
        subst c;rw[Yc hi] at ht;cases ht;rfl
       ·right
        refine List.mem_map.mpr ⟨_,List.mem_map.mpr ⟨S[i],?_,rfl⟩,?_⟩
        ·refine List.mem_iff_getElem?.mpr ⟨if i<t then i else i - 1,?_⟩
         rw[cut_out ht'];by_cases c2:i<t
         ·rw[Wv c2,Wv c2];exact Yc hi
         ·rw[Wu c2,Wu (by omega),show i - 1+1=i by omega];exact Yc hi
        ·funext j
         exact zr_without hp (hS _ (Yw hi)) wl ((hS _ (Yw hi)).get k).1 j
      ·intro z hz
       obtain⟨y,hy',rfl⟩:=List.mem_map.mp hz;obtain⟨a,ha,rfl⟩:=List.mem_map.mp hy';refine⟨zr hp a,List.mem_map.mpr ⟨a,mSS a ha,rfl⟩,?_⟩
       funext j
       exact zr_without hp (hS a (mSS a ha)) wl ((hS a (mSS a ha)).get k).1 j
   ·refine⟨_,rfl,rfl,_,rfl,iteNS rfl ?_⟩
    exact⟨g4.trans g5,lf,S,_,_,_,rfl,rf0.same g5,lS,hS,uS,kS.skip fun r hr=>by
     obtain⟨a,ha,rfl⟩:=List.mem_map.mp hr;show nt (ground p hp).α (a.getD k 0).toNat=0
     rw[h0 a ha];rfl⟩
  ·rintro σ H4 ⟨g4,lf,S,o1,o2,o3,rfl,rf,lS,hS,uS,kS⟩
   exact key (lf,o1,o2,o3) _ ⟨g4,S,rf,lS,hS,uS,kS⟩
 rintro⟨lf,o1,o2,o3⟩ H4 ⟨g4,S,rf,lS,hS,uS,kS⟩
 rw[vec_of] at rf;obtain⟨lf',fs,elf,hlf,nlf,CF⟩:=id rf.cf;obtain rfl:lf=lf':=V.ref.inj elf
 have lfs:fs.length=S.length:=by rw[CF.len,Ya]
 refine⟨_,rfl,lf,rfl,⟨_,SqL.of hlf⟩,fun D hD=>?_⟩
 have nD:H D=none:=g4.free hD;refine comp_list (xs:=fs) (fun i ys H2=>Same H4 H2/\Cf H2 (Off H D) ys i fun i=>eN ((S.getD i []).drop W)) ⟨same_new hD _,.nil⟩ (fun i ys H2 _ h=>SqL.of (h.1 _ _ hlf)) ?_ ?_
 ·rintro i m' x ys H2 hm' hi hx hy hlen ⟨g2,cy⟩
  obtain⟨hi',rx⟩:=CF.get hx;rw[Ya] at hi';rw[Yb,Ye,Yc hi'] at rx;have rx:Rep H4 (NewB H) x (eN S[i]):=rx;obtain⟨la,rfl,hla,_⟩:=ints_rep (rx.same g2);have wa:=hS _ (Yw hi');refine⟨_,rfl,_,rfl,_,rfl,la,_,rfl,SqL.of hla,fun l5 n5=>?_⟩
  rw[cutV_from _ W (by rw[Ya,wa.1];omega)]
  generalize hX:upd H2 l5 _=H5;have x5:=new_of n5 hX;clear hX;have g25:=g2.trans x5.1;refine CW.emit hm' hi (by rw[lfs,sizeLine_eq];omega) (x5.1 _ _ hy) hlen ⟨Same.free_upd g25 hD _,?_⟩
  refine (Cf.push (cy.same x5.1) ?_).upd
  have e:S.getD i []=S[i]:=by rw[Yb,Yc hi'];rfl
  rw[e];refine rep_ints (by rw[List.map_drop];exact x5.2) ⟨(g4.trans g2).free n5,fun z=>?_⟩
  rw[z,hy] at n5;cases n5
 ·rintro ys H2 hy ⟨g2,cy⟩
  refine q S _ H2 (g4.trans g2) hS lS (fun l hl=>?_) kS ?_
  ·obtain⟨ι,h1,h2⟩:=uS
   obtain⟨t,ht,rfl⟩:=Z2 hl;have e:=h2 t t (zr hp S[t]) (by rw[Ye,Yc ht];rfl) (by rw[Ya];exact ht)
   refine⟨ι t,h1 t (by rw[Ya];exact ht),fun z=>?_⟩
   rw[Wv rfl] at e;unfold zr at e;rw[z] at e;exact (ground p hp).fld.1 e.symm
  rw[vec_of,Ya,<- lfs];refine (Cf.congr (cy.imp fun c o h kk=>⟨h,kk.1⟩) fun i hi=>?_).rep hy nD
  rw[Yb,Yb,Ye,Yc (by omega)]
  rfl
end
def spUnit:Sp:=fun vs H Q _=>∃ (n k:Nat) (x:Int),vs=[.int (n:Int),.int (k:Int),.int x]/\n<=1000/\∀ r H',Same H H'->Rep H' (NewB H) r (rE n fun j=>if j=k then x else 0)->Q r H'
section
variable {P:Program} {w:World} {K:FrQ} {mg:Str->Option Value} {base:Heap}
theorem ok_unit_row (B:Blt mg)(F:Src K mg "unit_row" s_unit_row Lq19):Dfn P w K mg base 1 "unit_row" Lq19 spUnit:=by
 refine F.ok sc_unit_row (fun vs H Q E h=>?_) (fun f cdv A outer s H vs Q E hr h=>?_)
 ·obtain⟨n,k,x,rfl,_⟩:=h;rfl
 obtain⟨n,k,x,rfl,hn,q⟩:=h;refine⟨_,pss_one (ps_ret (pe_comp (compScope_mk (N:=["at","place","number"]) (sl:=[none,some 1,some 2]) (defScope s_unit_row) Lq19 rfl rfl (by decide +kernel)) rfl (pi_range1 rfl B.«range» (pa_cons (pv 0) pa_nil)) (fun _ _ _ _ _=>(pg_name (i:=0) (by show Yo (["at","place","number"]:List Str);decide +kernel) rfl (Or.inl rfl))) (fun _ _ _ _ _=>pif_none) (fun _ _ _ _ _=>(pe_ifExp (pt_cmpR op_eq (pv 0) (pv 1) (nomark _)) (pv 2) pe_int)))),?_⟩
 refine⟨_,rfl,_,rfl,by omega,by omega,fun D hD=>?_⟩
 rw[Yk];refine cmpR (fun j=>.num (if j=k then x else 0)) hD hn (fun i H2 Q2 hi g2 q2=>?_) fun H2 g2 rr=>q _ H2 g2 rr
 walk_at "rd"
 refine ite2 (fun c=>?_) (fun c=>?_)
 ·have e:i=k:=by have:=V.int.inj (Wx c);omega
  rw[Wv e] at q2;exact⟨_,rfl,q2 _ H2 (Same.refl _) (.num _)⟩
 ·have e:i≠k:=fun z=>c (Ww (by rw[z,Z4]))
  rw[Wu e] at q2;exact q2 _ H2 (Same.refl _) (.num _)
structure Eu (k m a b f g A C:Int):Prop where
 pos:0<a
 nn:0<=b
 le:b<=m
 A0:0<=A
 C0:0<=C
 sg:(f=A/\g=-C)\/(f=-A/\g=C)
 sum:a*C+b*A=m
 cf:∃ t,f*k=a+m*t
 cg:∃ t,g*k=b+m*t
 bz:∃ x y:Int,x*a+y*b=1
theorem Eu.bnd {k m a b f g A C:Int}(h:Eu k m a b f g A C):g.natAbs<=m.natAbs:=by
 have h1:C<=a*C:=by
  have:=Int.mul_le_mul_of_nonneg_right (show 1<=a by have:=h.pos;omega) h.C0
  omega
 have h2:=Int.mul_nonneg h.nn h.A0;have h3:=h.sum;have h4:=h.C0;rcases h.sg with ⟨_,e⟩ | ⟨_,e⟩ <;> omega
theorem Eu.step {k m a b f g A C q:Int}(h:Eu k m a b f g A C)(hb:0<b)(hq:q=a / b):Eu k m b (a - q*b) g (f - q*g) C (A+q*C)/\a - q*b<b:=by
 have e1:a - q*b=a % b:=by rw[hq,Int.emod_def,Zu]
 have h1:=Zb a (show b≠0 by omega)
 have h2:=Za a hb;have q0:0<=q:=by rw[hq];exact Int.ediv_nonneg (by have:=h.pos;omega) (by omega)
 have le:=h.le;obtain⟨t,ht⟩:=h.cf;obtain⟨t',ht'⟩:=h.cg;obtain⟨x,y,hxy⟩:=h.bz;refine⟨⟨hb,by omega,by omega,h.C0,by have:=Int.mul_nonneg q0 h.C0;have:=h.A0;omega,?_,?_,⟨t',ht'⟩,⟨t - q*t',?_⟩,⟨x*q+y,x,?_⟩⟩,by omega⟩
 ·rcases h.sg with ⟨e,e'⟩ | ⟨e,e'⟩
  ·exact .inr ⟨e',by rw[e,e'];grind⟩
  ·exact .inl ⟨e',by rw[e,e'];grind⟩
 ·have:=h.sum;grind
 ·grind
 ·grind
def spBack:Sp:=fun vs H Q _=>∃ k m:Int,vs=[.int k,.int m]/\0<k/\2<=m/\Bd 8000 k/\Bd 8000 m/\(∃ x y:Int,x*k+y*m=1)/\∀ b t:Int,0<=b->b<m->b*k=1+m*t->∀ H',Same H H'->Q (.int b) H'
theorem ok_back_by (F:Src K mg "back_by" s_back_by ["k","power"]):Dfn P w K mg base 1 "back_by" ["k","power"] spBack:=by
 refine F.ok sc_back_by (fun vs H Q E h=>?_) (fun f cdv A outer s H vs Q E hr h=>?_)
 ·obtain⟨k,m,rfl,_⟩:=h;rfl
 obtain⟨k,m,rfl,hk,hm,bk,bm,hb,q⟩:=h;refine⟨_,pss_cons (ps_par (i:=2) (j:=3) rfl sc_back_by.nd rfl rfl (by decide) rfl rfl (pa_cons (pv 0) (pa_cons (pv 1) pa_nil)) rfl)
  (pss_cons (ps_asg (pe_tup (pa_cons pe_int (pa_cons pe_int pa_nil))) (pgK_tup (n:=2) (K:=K) rfl rfl (pgs_cons (pg_name (i:=4) sc_back_by.nd rfl (Or.inl rfl)) (pgs_cons (pg_name (i:=5) sc_back_by.nd rfl (Or.inl rfl)) pgs_nil))))
  (pss_cons (ps_while PassesOwn.never (pt_cmpR op_ne (pv 3) pe_int (nomark _))
   (pss_cons (ps_set (i:=6) sc_back_by.nd rfl (Or.inl rfl) (pe_op op_fdivW (pv 2) (pv 3)))
   (pss_cons (ps_par (i:=2) (j:=3) rfl sc_back_by.nd rfl rfl (by decide) rfl rfl (pa_cons (pv 3) (pa_cons (pe_op op_sub (pv 2) (pe_op op_mulO (pv 6) (pv 3))) pa_nil)) rfl)
   (pss_one (ps_par (i:=4) (j:=5) rfl sc_back_by.nd rfl rfl (by decide) rfl rfl (pa_cons (pv 5) (pa_cons (pe_op op_sub (pv 4) (pe_op op_mulO (pv 6) (pv 5))) pa_nil)) rfl)))))
  (pss_one (ps_ret (pe_op op_modN (pv 4) (pv 1)))))),?_⟩
 walk_at "rd"
 refine⟨_,_,rfl,len_ok rfl,fun p hp=>⟨p,_,rfl,SqT.of upd_same,rfl,_,_,rfl,_,_,rfl,rfl,?_⟩⟩
 have g0:=same_new hp (.tup [.int 1,.int 0]);generalize L2.upd H p (.tup [.int 1,.int 0])=H1 at g0 ⊢;refine while_in (fun σ H2=>H2=H1/\∃ (a b f g:Int) (o:Option V) (A C:Int),σ=[some (.int k),some (.int m),some (.int a),some (.int b),some (.int f),some (.int g),o]/\Eu k m a b f g A C/\Bd 8000 a) (fun σ _=>match σ with | [_,_,_,some (.int b),_,_,_]=>b.toNat | _=>0)
  ⟨rfl,k,m,1,0,_,1,0,rfl,⟨hk,by omega,by omega,by decide,by decide,.inl ⟨rfl,rfl⟩,by omega,⟨0,by omega⟩,⟨-1,by omega⟩,hb⟩,bk⟩ ?_
 rintro σ H2 ⟨rfl,a,b,f,g,o,A,C,rfl,e,ba⟩;refine⟨_,rfl,rfl,_,rfl,?_⟩
 have le:=e.le;have nn:=e.nn;by_cases z:b=0
 ·refine iteNS (by rw[z]) ?_
  refine⟨_,rfl,_,rfl,_,_,rfl,rfl,(show m≠0 by omega),?_⟩
  obtain⟨x,y,hxy⟩:=e.bz;have a1:a=1:=by
   have:a ∣ 1:=⟨x,by rw[<- hxy,z];grind⟩
   have:=Int.le_of_dvd (by decide) this
   have:=e.pos;omega
  obtain⟨t,ht⟩:=e.cf;show Q (V.int (f.fmod m)) H2
  rw[Y3 _ (show 0<=m by omega)]
  exact q _ (t - f / m*k) (Zb _ (by omega)) (Za _ (by omega)) (by rw[Int.emod_def,a1] at *;grind) H2 g0
 ·refine iteS (fun y=>z (V.int.inj y)) (win ?_)
  have b0:0<b:=by omega
  have bb:Bd 8000 b:=Bd.le (y:=m) (by omega) bm
  have bg:Bd 8000 g:=Bd.le e.bnd bm;have eq:a.fdiv b=a / b:=Zd _ (by omega)
  obtain⟨e',hlt⟩:=e.step b0 eq;have bq:Bd 8000 (a.fdiv b):=ba.fdiv;refine⟨_,rfl,_,rfl,_,_,rfl,rfl,bb.dv (by omega),?_⟩
  refine⟨_,rfl,_,rfl,_,rfl,_,rfl,_,_,rfl,rfl,bq.ok bb,_,_,rfl,rfl,_,_,rfl,?_⟩
  refine⟨_,rfl,_,rfl,_,rfl,_,rfl,_,_,rfl,rfl,bq.ok bg,_,_,rfl,rfl,_,_,rfl,?_⟩
  refine⟨⟨rfl,b,_,g,_,_,C,_,rfl,e',bb⟩,?_⟩
  show (a - a.fdiv b*b).toNat<b.toNat
  omega
def spCoords (K:FrQ):Sp:=fun vs H Q _=>∃ (n:Nat) (u v:V) (T:Nat->Vc) (x c:Vc),vs=[u,v]/\Rep H Any u (mE n n T)/\Rep H Any v (rE n x)/\n<=100/\Stair n T/\(∀ j,j<n->x j=sm n c T j)/\(∀ i,i<n->Bd 100000 (c i))/\(∀ i j,i<n->j<n->Bd 8000 (T i j))/\
 ∀ r H',Same H H'->Rep H' (NewB H) r (rE n c)->Q r H'
theorem lv_rev {n:Nat}{c:Vc}{i:Nat}(hi:i<=n):(lv i fun j=>c (n - 1 - j)).reverse=(lv n c).drop (n - i):=by
 refine Zi fun k=>?_
 unfold lv;by_cases hk:k<i
 ·rw[List.getElem?_reverse (by rw[Ya,Yg];exact hk),Ya,Yg,Ye,Yu (by omega),List.getElem?_drop,Ye,Yu (by omega)]
  show some (c (n - 1 - (i - 1 - k)))=some (c (n - i+k))
  congr 2;omega
 ·rw[List.getElem?_eq_none_iff.mpr (by rw[Zj,Ya,Yg];omega),List.getElem?_eq_none_iff.mpr (by rw[Yz,Ya,Yg];omega)]
theorem lv_succ (n:Nat)(v:Vc):lv (n+1) v=lv n v++[v n]:=by unfold lv;rw[Wn,Y6];rfl
theorem ok_coordinates (B:Blt mg)(F:Src K mg "coordinates" s_coordinates Lq30):Dfn P w K mg base 1 "coordinates" Lq30 (spCoords K):=by
 refine F.ok sc_coordinates (fun vs H Q E h=>?_) (fun f cdv A outer s H vs Q E hr h=>?_)
 ·obtain⟨n,u,v,T,x,c,rfl,_⟩:=h;rfl
 obtain⟨n,u,v,T,x,c,rfl,ru,rv,hn,hT,hx,bc,bT,q⟩:=h;obtain⟨lu,us,rfl,hlu,_,Cu⟩:=ru.cf;obtain⟨lx,rfl,hlx,_⟩:=vs_rE rv;refine⟨_,pss_cons (ps_set (i:=2) sc_coordinates.nd rfl (Or.inl rfl) (pv 1))
  (pss_cons (ps_set (i:=3) sc_coordinates.nd rfl (Or.inl rfl) (pe_lst pa_nil))
  (pss_cons (ps_for PassesOwn.never rfl (pi_revR rfl B.«reversed» (pa_cons (pe_range rfl B.«range» (pa_cons (pe_callB (callK_len (K:=K) rfl) rfl B.«len» bt_len (pa_cons (pv 1) pa_nil)) pa_nil)) pa_nil)) (pg_name (i:=4) sc_coordinates.nd rfl (Or.inl rfl))
   (pss_cons (ps_set (i:=5) sc_coordinates.nd rfl (Or.inr rfl) (pe_op op_fdivW (pe_ix (ixK_list (K:=K) rfl) (pv 2) (pv 4) (fun _ _=>rfl)) (pe_ix (ixK_list (K:=K) rfl) (pe_ix (ixK_list (K:=K) rfl) (pv 0) (pv 4) (fun _ _=>rfl)) (pv 4) (fun _ _=>rfl))))
   (pss_cons (ps_setC (i:=2) sc_coordinates.nd rfl (Or.inl rfl) (compScope_mk (N:=["number","more","often"]) (sl:=[none,none,some 5]) (defScope s_coordinates) ["lattice","row","left","told","place","often"] rfl rfl (by decide +kernel)) rfl (piK_zip (K:=K) rfl rfl B.«zip» (pa_cons (pv 2) (pa_cons (pe_ix (ixK_list (K:=K) rfl) (pv 0) (pv 4) (fun _ _=>rfl)) pa_nil))) (fun _ _ _ _ _=>(pgK_tup (n:=2) (K:=K) rfl rfl (pgs_cons (pg_name (i:=0) (by show Yo (["number","more","often"]:List Str);decide +kernel) rfl (Or.inl rfl)) (pgs_cons (pg_name (i:=1) (by show Yo (["number","more","often"]:List Str);decide +kernel) rfl (Or.inl rfl)) pgs_nil)))) (fun _ _ _ _ _=>pif_none) (fun _ _ _ _ _=>(pe_op op_sub (pv 0) (pe_op op_mulO (pv 2) (pv 1)))))
   (pss_one (ps_expr (pe_bm PySem.F.plainAttrs_list PySem.F.slot_list_append PySem.F.type_list_append mt_append (pv 3) (pa_cons (pv 5) pa_nil)))))))
  (pss_cons (ps_expr (pe_bm0 PySem.F.plainAttrs_list PySem.F.slot_list_reverse PySem.F.type_list_reverse mt_reverse (pv 3) ))
  (pss_one (ps_ret (pv 3)))))),?_⟩
 walk_at "rd"
 intro p hp;have g0:=same_new hp (.lst []);refine⟨_,rfl,lx,_,rfl,.inl (SqL.of (g0 _ _ hlx)),?_⟩
 rw[Ya,lv_len];refine⟨_,rfl,fun p3 n3=>?_⟩
 have k3:=same_new n3 (.rng 0 (n:Int));refine⟨p3,_,rfl,upd_same,by omega,by omega,?_⟩
 rw[Yk];have g3:=g0.trans k3;have lxp:lx≠p:=ne_of_none hlx hp;refine for_down (fun i σ H2=>Same H H2/\∃ (ra:Addr) (o1 o2:Option V),σ=[Rq lu,Rq lx,Rq ra,Rq p,o1,o2]/\H2 p=some (.lst ((lv i fun j=>c (n - 1 - j)).map V.int))/\H2 ra=some (.lst ((lv n fun j=>sm (n - i) c T j).map V.int))/\ra≠p)
  ⟨g3,lx,_,_,rfl,k3 _ _ upd_same,?_,lxp⟩ ?_ ?_
 ·rw[g3 _ _ hlx]
  congr 3
  unfold lv;exact Wb fun j hj=>hx j (List.mem_range.mp hj)
 ·rintro i σ H2 hi ⟨g2,ra,o1,o2,rfl,ep,era,hne⟩
  obtain⟨d,hd⟩:∃ d,d+1+i=n:=⟨n - 1 - i,by omega⟩
  have ed:((n:Int) - 1 - (i:Int))=((d:Nat):Int):=by omega
  rw[show n - i=d+1 by omega] at era
  obtain⟨vd,hvd,rd⟩:=Cu.at_ d (by omega)
  obtain⟨ld,rfl,hld,_⟩:=vs_rE rd;have hat:atI us ((d:Nat):Int)=some (.ref ld):=atI_nat hvd;have T0:=hT.nz d (by omega)
  rw[ed];refine⟨_,rfl,_,rfl,ra,_,_,_,rfl,rfl,SqL.of era,lv_at (by omega),_,rfl,_,rfl,lu,_,_,_,rfl,rfl,SqL.of (g2 _ _ hlu),hat,_,rfl,ld,_,_,_,rfl,rfl,SqL.of (g2 _ _ hld),lv_at (by omega),_,_,rfl,rfl,(bT d d (by omega) (by omega)).dv T0,?_⟩
  show gName 5 (V.int ((sm (d+1) c T d).fdiv (T d d))) _ _ _
  rw[hT.at_ c (by omega),Int.mul_fdiv_cancel _ T0]
  refine⟨_,rfl,_,rfl,_,rfl,lu,_,_,_,rfl,rfl,SqL.of (g2 _ _ hlu),hat,ra,ld,rfl,⟨_,SqL.of era⟩,⟨_,SqL.of (g2 _ _ hld)⟩,fun D hD=>?_⟩
  refine cmpZ (fun j=>.num (sm d c T j)) (n:=n) (by rw[Ya,lv_len]) (by rw[Ya,lv_len]) era (g2 _ _ hld) hD (by omega) (fun j vx vy t H3 Q2 hj g3 hvx hvy ht q2=>?_) fun H3 g3 rr=>?_
  ·obtain⟨y1,hy1,rfl⟩:=map_int_get hvx
   obtain⟨y2,hy2,rfl⟩:=map_int_get hvy;rw[lv_get hj] at hy1 hy2;cases hy1;cases hy2;refine⟨t,_,rfl,SqT.of ht,rfl,_,_,rfl,_,_,rfl,rfl,?_⟩
   refine⟨_,rfl,_,rfl,_,rfl,_,_,rfl,rfl,(bc d (by omega)).ok (bT d j (by omega) hj),_,_,rfl,rfl,?_⟩
   have e:sm (d+1) c T j - c d*T d j=sm d c T j:=by show sm d c T j+c d*T d j - c d*T d j=_;omega
   show Q2 (V.int (sm (d+1) c T j - c d*T d j)) H3
   rw[e];exact q2 _ H3 (Same.refl _) (.num _)
  ·have fD:H D=none:=g2.free hD
   obtain⟨l2,e2,el2,_⟩:=vs_rE rr;cases e2;have ep3:=g3 _ _ ep;have hDp:D≠p:=fun z=>by rw[z,ep] at hD;cases hD
   refine⟨_,rfl,.inl ⟨rfl,_,SqL.of ep3⟩,_,rfl,p,_,_,rfl,rfl,ep3,by rw[Ya,lv_len,sizeLine_eq];omega,?_⟩
   refine⟨(g2.trans g3).free_upd hp _,D,_,_,rfl,?_,?_,hDp⟩
   ·rw[upd_same,lv_succ,Y6,show n - 1 - i=d by omega];rfl
   ·rw[upd_ne hDp,show n - (i+1)=d by omega];exact el2
 ·rintro σ H2 ⟨g2,ra,o1,o2,rfl,ep,era,hne⟩
  refine⟨_,rfl,.inl ⟨rfl,_,SqL.of ep⟩,p,_,rfl,rfl,ep,?_⟩
  rw[<- List.map_reverse,lv_rev (Yd n),Wi,List.drop_zero];exact⟨_,rfl,q _ _ (g2.free_upd hp _) (rE_vs upd_same hp)⟩
theorem lv_sum {x:Vc}{A:Nat->Vc}{i:Nat}:∀ k,(lv k fun m=>x m*A m i).sum=sm k x A i
 | 0=>rfl
 | k+1=>by rw[lv_succ,List.sum_append,lv_sum k];show sm k x A i+(x k*A k i+0)=sm k x A i+x k*A k i;omega
def spSummed (K:FrQ):Sp:=fun vs H Q _=>∃ (k n:Nat) (u v:V) (x:Vc) (A:Nat->Vc),vs=[u,v]/\Rep H Any u (rE k x)/\Rep H Any v (mE k n A)/\1<=k/\k<=1000/\n<=1000/\(∀ i,i<k->Bd 100000 (x i))/\(∀ i j,i<k->j<n->Bd 100000 (A i j))/\
 ∀ r H',Same H H'->Rep H' (NewB H) r (rE n fun j=>sm k x A j)->Q r H'
theorem ok_summed (B:Blt mg)(F:Src K mg "summed" s_summed Lq29):Dfn P w K mg base 1 "summed" Lq29 (spSummed K):=by
 refine F.ok sc_summed (fun vs H Q E h=>?_) (fun f cdv A outer s H vs Q E hr h=>?_)
 ·obtain⟨k,n,u,v,x,A,rfl,_⟩:=h;rfl
 obtain⟨k,n,u,v,x,A,rfl,ru,rv,hk1,hk,hn,bx,bA,q⟩:=h;obtain⟨lx,rfl,hlx,_⟩:=vs_rE ru;obtain⟨lA,us,rfl,hlA,_,C⟩:=rv.cf;refine⟨_,pss_one (ps_ret (pe_compC (compScopeC_mk (N:=["place","numbers","rows"]) (sl:=[none,some 0,some 1]) "place" (defScope s_summed) Lq29 rfl rfl (by decide +kernel)) rfl (pi_range1 rfl B.«range» (pa_cons (pe_callB (callK_len (K:=K) rfl) rfl B.«len» bt_len (pa_cons (pe_ix (ixK_list (K:=K) rfl) (pv 1) pe_int (fun _ _=>rfl)) pa_nil)) pa_nil)) (fun _ _ _ _ _=>(pg_name (i:=0) (by show Yo (["place","numbers","rows"]:List Str);decide +kernel) rfl (Or.inr rfl))) (fun _ _ _ _ _=>pif_none) (fun _ _ _ _ _=>(pe_callB (callK_sum (K:=K) rfl rfl) rfl B.«sum» bt_sum (pa_cons (pe_comp (compScope_mk (N:=["many","row","place"]) (sl:=[none,none,some 0]) (relabelS (stComp ((defBody s_summed).getD 0 (.Pass ⟨0,0,0,0⟩))) (defScope s_summed)) ["place","numbers","rows"] rfl rfl (by decide +kernel)) rfl (piK_zip (K:=K) rfl rfl B.«zip» (pa_cons (pv 1) (pa_cons (pv 2) pa_nil))) (fun _ _ _ _ _=>(pgK_tup (n:=2) (K:=K) rfl rfl (pgs_cons (pg_name (i:=0) (by show Yo (["many","row","place"]:List Str);decide +kernel) rfl (Or.inl rfl)) (pgs_cons (pg_name (i:=1) (by show Yo (["many","row","place"]:List Str);decide +kernel) rfl (Or.inl rfl)) pgs_nil)))) (fun _ _ _ _ _=>pif_none) (fun _ _ _ _ _=>(pe_op op_mulO (pv 0) (pe_ix (ixK_list (K:=K) rfl) (pv 1) (pv 2) (fun _ _=>rfl))))) pa_nil))))),?_⟩
 walk_at "rd"
 obtain⟨v0,hv0,r0⟩:=C.at_ 0 (by omega)
 obtain⟨l0,rfl,hl0,_⟩:=vs_rE r0;have hat0:atI us 0=some (.ref l0):=atI_nat (j:=0) hv0;refine⟨lA,_,_,_,rfl,rfl,SqL.of hlA,hat0,l0,_,rfl,.inl (SqL.of hl0),?_⟩
 rw[Ya,lv_len];refine⟨_,rfl,by omega,by omega,fun D hD=>?_⟩
 rw[Yk];refine cmpR (fun j=>.num (sm k x A j)) hD hn (fun i H2 Q2 hi g2 q2=>?_) fun H2 g2 rr=>q _ H2 g2 rr
 rw[Z4];refine⟨_,rfl,_,rfl,lx,lA,rfl,⟨_,SqL.of (g2 _ _ hlx)⟩,⟨_,SqL.of (g2 _ _ hlA)⟩,fun D2 hD2=>?_⟩
 refine cmpZ (fun m=>.num (x m*A m i)) (n:=k) (by rw[Ya,lv_len]) C.len (g2 _ _ hlx) (g2 _ _ hlA) hD2 (by omega) (fun m vx vy t H3 Q3 hm g3 hvx hvy ht q3=>?_) fun H3 g3 rr=>?_
 ·obtain⟨y1,hy1,rfl⟩:=map_int_get hvx
  rw[lv_get hm] at hy1;cases hy1;obtain⟨_,ry⟩:=C.get hvy;obtain⟨lm,rfl,hlm,_⟩:=vs_rE ry;refine⟨t,_,rfl,SqT.of ht,rfl,_,_,rfl,_,_,rfl,rfl,?_⟩
  refine⟨_,rfl,_,rfl,_,rfl,lm,_,_,_,rfl,rfl,SqL.of ((g2.trans g3) _ _ hlm),lv_at hi,_,_,rfl,rfl,(bx m hm).ok (bA m i hm hi),?_⟩
  exact q3 _ H3 (Same.refl _) (.num _)
 ·obtain⟨l2,e2,el2,_⟩:=vs_rE rr
  cases e2;refine⟨D2,_,rfl,SqL.of el2,?_⟩
  rw[lv_sum];exact q2 _ H3 g3 (.num _)
end
def pr2 (f:Fn)(n:Nat)(u v:Vc):Vc:=fun k=>sm n u (fun a k=>sm n v (fun b=>tk f n (a+b)) k) k
theorem pr2_rst {f:Fn}{n:Nat}(hf:Top f n)(hn:1<=n)(u v:Vc):Rst f n (cv (coef (lv n u)) (coef (lv n v))) (pr2 f n u v):=by
 have hz:∀ w:Vc,∀ m,n<=m->coef (lv n w) m=0:=fun w m hm=>by rw[lv_coef,Wu (by omega)]
 have h:=(rows_rr hf hn (g:=coef (lv n v)) (L:=n) (hz v)).comb (p:=coef (lv n u)) (P:=n) (hz u);have e:(fun c=>sgm n fun k=>coef (lv n u) k*rr f n (coef (lv n v)) n k c)=pr2 f n u v:=by
  funext c
  unfold pr2 rr;rw[sm_sgm];refine sgm_congr fun a ha=>?_
  rw[sm_sgm,lv_coef,Wv ha];congr 1
  exact sgm_congr fun b hb=>by rw[lv_coef,Wv hb,Nat.add_comm]
 rw[e] at h;exact h
def spProd (K:FrQ):Sp:=fun vs H Q _=>∃ (a:Addr) (fl:List Int) (n:Nat) (x y:V) (u v:Vc) (m:Int),vs=[.ref a,x,y,.int m]/\SqL K H a (fl.map V.int)/\fl.length=n+1/\1<=n/\n<=20/\L2.Monic fl/\Bds 5000 fl/\Rep H Any x (rE n u)/\Rep H Any y (rE n v)/\(∀ j,j<n->Bd 2000 (u j))/\(∀ j,j<n->Bd 2000 (v j))/\m≠0/\Bd 8000 m/\
 ∀ r H',Same H H'->Rep H' (NewB H) r (rE n fun j=>(pr2 (coef fl) n u v j).fdiv m)->Q r H'
section
variable {P:Program} {w:World} {K:FrQ} {mg:Str->Option Value} {base:Heap}
theorem bds_lv {n m:Nat}{u:Vc}(h:∀ j,j<n->Bd m (u j)):Bds m (lv n u):=fun x hx=>by
 unfold lv at hx;obtain⟨j,hj,rfl⟩:=List.mem_map.mp hx;exact h j (List.mem_range.mp hj)
theorem ok_product_by (B:Blt mg)(d_without_noughts_behind:Dfn P w K mg base 1 "without_noughts_behind" ["numbers"] (spTrim K))(d_multiplied:Dfn P w K mg base 1 "multiplied" Lq37 (spMul K))(d_divided:Dfn P w K mg base 2 "divided" Lq37 (spDiv K))(d_coefficient:Dfn P w K mg base 1 "coefficient" Lq34 (spCoef K))(F:Src K mg "product_by" s_product_by Lq17):Dfn P w K mg base 3 "product_by" Lq17 (spProd K):=by
 refine F.ok sc_product_by (fun vs H Q E h=>?_) (fun f cdv A outer s H vs Q E hr h=>?_)
 ·obtain⟨a,fl,n,x,y,u,v,m,rfl,_⟩:=h;rfl
 obtain⟨a,fl,n,x,y,u,v,m,rfl,ha,lf,hn1,hn,mf,bf,rx,ry,bu,bv,m0,bm,q⟩:=h;obtain⟨lx,rfl,hlx,_⟩:=vs_rE rx;obtain⟨ly,rfl,hly,_⟩:=vs_rE ry;have hf:=top_coef lf mf;refine⟨_,pss_cons (ps_set (i:=4) sc_product_by.nd rfl (Or.inl rfl) (pe_def d_multiplied hr (pa_cons (pe_def d_without_noughts_behind hr (pa_cons (pv 1) pa_nil)) (pa_cons (pe_def d_without_noughts_behind hr (pa_cons (pv 2) pa_nil)) pa_nil))))
  (pss_cons (ps_set (i:=5) sc_product_by.nd rfl (Or.inr rfl) (pe_ix (ixK_tup (K:=K) rfl) (pe_def d_divided hr (pa_cons (pv 4) (pa_cons (pv 0) pa_nil))) pe_int (fun _ _=>rfl)))
  (pss_one (ps_ret (pe_comp (compScope_mk (N:=["place","rest","power"]) (sl:=[none,some 5,some 3]) (defScope s_product_by) ["f","one","other","power","product","rest"] rfl rfl (by decide +kernel)) rfl (pi_range1 rfl B.«range» (pa_cons (pe_callB (callK_len (K:=K) rfl) rfl B.«len» bt_len (pa_cons (pv 1) pa_nil)) pa_nil)) (fun _ _ _ _ _=>(pg_name (i:=0) (by show Yo (["place","rest","power"]:List Str);decide +kernel) rfl (Or.inl rfl))) (fun _ _ _ _ _=>pif_none) (fun _ _ _ _ _=>(pe_op op_fdivW (pe_def d_coefficient hr (pa_cons (pv 1) (pa_cons (pv 0) pa_nil))) (pv 2))))))),?_⟩
 walk_at "rd"
 refine⟨lx,lv n u,rfl,SqL.of hlx,by rw[lv_len];omega,fun p1 H1 g1 n1 e1=>?_⟩
 walk_at "rd"
 refine⟨ly,lv n v,rfl,SqL.of (g1 _ _ hly),by rw[lv_len];omega,fun p2 H2 g2 n2 e2=>?_⟩
 have b1:Bds 2000 (trim (lv n u)):=(bds_lv bu).trim;have b2:Bds 2000 (trim (lv n v)):=(bds_lv bv).trim;have l1:(trim (lv n u)).length<=n:=by unfold trim;rw[Yr,lv_len];omega
 have l2:(trim (lv n v)).length<=n:=by unfold trim;rw[Yr,lv_len];omega
 refine⟨p1,p2,_,_,rfl,SqL.of (g2 _ _ e1),SqL.of e2,by omega,by omega,b1.mono (by decide),b2.mono (by decide),fun p3 H3 g3 n3 e3=>?_⟩
 walk_at "rd"
 have g13:=(g1.trans g2).trans g3;have lp:(pmul (trim (lv n u)) (trim (lv n v))).length<=40:=by
  unfold pmul;split
  ·simp
  ·rw[Ya,Yg];omega
 refine⟨p3,a,_,fl,4100,5000,rfl,SqL.of e3,g13.seq ha,by omega,by omega,mf,((b1.pmul b2).mono (by omega)),bf,by omega,fun q0 r0 hd0 _ _ t0 qa ra H4 g4 n4 n5 hne et eq er=>?_⟩
 refine⟨t0,_,_,_,rfl,rfl,SqT.of et,rfl,?_⟩
 have g14:=g13.trans g4;have e0:coef r0=pr2 (coef fl) n u v:=by
  have h1:=IsDiv.rst lf hd0;rw[cpf,show coef (trim (lv n u))=coef (lv n u) from funext fun i=>coef_trim _ i,show coef (trim (lv n v))=coef (lv n v) from funext fun i=>coef_trim _ i] at h1
  exact Rst.uniq hf h1 (pr2_rst hf hn1 u v)
 walk_at "rd"
 refine⟨lx,_,rfl,.inl (SqL.of (g14 _ _ hlx)),?_⟩
 rw[Ya,lv_len];refine⟨_,rfl,by omega,by omega,fun D hD=>?_⟩
 rw[Yk];refine cmpR (fun j=>.num ((pr2 (coef fl) n u v j).fdiv m)) hD (by omega) (fun i H5 Q2 hi g5 q2=>?_) fun H5 g5 rr=>q _ H5 (g14.trans g5) (rr.older g14)
 rw[Z4];refine⟨_,rfl,_,rfl,ra,r0,i,rfl,SqL.of (g5 _ _ er),_,rfl,_,_,rfl,rfl,bm.dv m0,?_⟩
 show Q2 (V.int ((coef r0 i).fdiv m)) H5
 rw[e0];exact q2 _ H5 (Same.refl _) (.num _)
def spTable (K:FrQ):Sp:=fun vs H Q _=>∃ (a:Addr) (fl:List Int) (n:Nat) (x:V) (T:Nat->Vc) (c:Nat->Nat->Vc) (m:Int),vs=[.ref a,x,.int m]/\SqL K H a (fl.map V.int)/\fl.length=n+1/\1<=n/\n<=20/\L2.Monic fl/\Bds 5000 fl/\Rep H Any x (mE n n T)/\Stair n T/\(∀ i j,i<n->j<n->Bd 2000 (T i j))/\m≠0/\Bd 8000 m/\
 (∀ i j,i<n->j<n->∀ k,k<n->pr2 (coef fl) n (T i) (T j) k=m*sm n (c i j) T k)/\(∀ i j k,i<n->j<n->k<n->Bd 100000 (c i j k))/\∀ r H',Same H H'->Rep H' (NewB H) r (tE n n n c)->Q r H'
theorem ok_table_of (B:Blt mg)(d_product_by:Dfn P w K mg base 3 "product_by" Lq17 (spProd K))(d_coordinates:Dfn P w K mg base 1 "coordinates" Lq30 (spCoords K))(F:Src K mg "table_of" s_table_of Lq23):Dfn P w K mg base 4 "table_of" Lq23 (spTable K):=by
 refine F.ok sc_table_of (fun vs H Q E h=>?_) (fun f cdv A outer s H vs Q E hr h=>?_)
 ·obtain⟨a,fl,n,x,T,c,m,rfl,_⟩:=h;rfl
 obtain⟨a,fl,n,x,T,c,m,rfl,ha,lf,hn1,hn,mf,bf,rx,hT,bT,m0,bm,hc,bc,q⟩:=h;obtain⟨lT,us,rfl,hlT,_,C⟩:=id rx.cf;refine⟨_,pss_one (ps_ret (pe_compC (compScopeC_mk (N:=Lq13) (sl:=[none,some 1,some 0,some 2]) "one" (defScope s_table_of) Lq23 rfl rfl (by decide +kernel)) rfl (piK_list (K:=K) rfl (pv 1)) (fun _ _ _ _ _=>(pg_name (i:=0) (by show Yo (Lq13:List Str);decide +kernel) rfl (Or.inr rfl))) (fun _ _ _ _ _=>pif_none) (fun _ _ _ _ _=>(pe_comp (compScope_mk (N:=["other","lattice","f","one","power"]) (sl:=[none,some 1,some 2,some 0,some 3]) (relabelS (stComp ((defBody s_table_of).getD 0 (.Pass ⟨0,0,0,0⟩))) (defScope s_table_of)) Lq13 rfl rfl (by decide +kernel)) rfl (piK_list (K:=K) rfl (pv 1)) (fun _ _ _ _ _=>(pg_name (i:=0) (by show Yo (["other","lattice","f","one","power"]:List Str);decide +kernel) rfl (Or.inl rfl))) (fun _ _ _ _ _=>pif_none) (fun _ _ _ _ _=>(pe_def d_coordinates hr (pa_cons (pv 1) (pa_cons (pe_def d_product_by hr (pa_cons (pv 2) (pa_cons (pv 3) (pa_cons (pv 0) (pa_cons (pv 4) pa_nil))))) pa_nil)))))))),?_⟩
 walk_at "rd"
 refine⟨⟨_,SqL.of hlT⟩,fun D hD=>?_⟩
 refine cmpL (fun i=>mE n n (c i)) (n:=n) C.len hlT hD (by omega) (fun i vx H2 Q2 hi g2 hvx q2=>?_) fun H2 g2 rr=>q _ H2 g2 rr
 obtain⟨_,ri⟩:=C.get hvx;refine⟨_,rfl,lT,rfl,⟨_,SqL.of (g2 _ _ hlT)⟩,fun D2 hD2=>?_⟩
 refine cmpL (fun j=>rE n (c i j)) (n:=n) C.len (g2 _ _ hlT) hD2 (by omega) (fun j vy H3 Q3 hj g3 hvy q3=>?_) fun H3 g3 rr=>q2 _ H3 g3 rr
 obtain⟨_,rj⟩:=C.get hvy;have g23:=g2.trans g3;refine⟨_,rfl,_,rfl,_,rfl,_,rfl,_,rfl,a,fl,n,vx,vy,T i,T j,m,rfl,g23.seq ha,lf,hn1,hn,mf,bf,ri.same g23,rj.same g23,fun k hk=>bT i k hi hk,fun k hk=>bT j k hj hk,m0,bm,fun r4 H4 g4 rr4=>?_⟩
 refine⟨n,_,_,T,_,c i j,rfl,rx.same (g23.trans g4),rr4.any,by omega,hT,fun k hk=>?_,fun k hk=>bc i j k hi hj hk,fun k l hk hl=>(bT k l hk hl).mono (by decide),fun r5 H5 g5 rr5=>q3 _ H5 (g4.trans g5) (rr5.older g4)⟩
 rw[hc i j hi hj k hk,Int.mul_fdiv_cancel_left _ m0]
def tmb (n:Nat)(c:Nat->Nat->Vc)(p:Int)(x y:Vc):Vc:=fun k=>sm n x (fun i k=>sm n y (c i) k) k % p
def pwb (n:Nat)(c:Nat->Nat->Vc)(p:Int)(x:Vc):Nat->Vc
 | 0=>x
 | m+1=>tmb n c p (pwb n c p x m) x
def rsd (n:Nat)(c:Nat->Nat->Vc)(p:Nat):Nat->Nat->Vc
 | 0,i=>un i
 | k+1,i=>pwb n c (p:Int) (rsd n c p k i) (p - 1)
theorem bd_sm {n k:Nat}{a b:Nat}{x:Vc}{A:Nat->Vc}{j:Nat}(hn:n<2 ^ k)(hx:∀ i,i<n->Bd a (x i))(hA:∀ i,i<n->Bd b (A i j)):Bd (a+b+k) (sm n x A j):=by
 have key:∀ m,m<=n->(sm m x A j).natAbs<=m*2 ^ (a+b):=by
  intro m;induction m with
  | zero=>intro _;show Wk 0<=_;simp
  | succ m ih=>
   intro hm;have h1:=ih (by omega)
   have h2:Bd (a+b) (x m*A m j):=(hx m (by omega)).mul (hA m (by omega))
   have h3:(sm m x A j+x m*A m j).natAbs<=(sm m x A j).natAbs+(x m*A m j).natAbs:=Int.natAbs_add_le _ _;have h2':(x m*A m j).natAbs<2 ^ (a+b):=h2;show (sm m x A j+x m*A m j).natAbs<=(m+1)*2 ^ (a+b)
   rw[Wg,Nat.one_mul];omega
 have h:=key n (Yd n);refine Zv h ?_
 rw[Wf 2 (a+b) k,Nat.mul_comm (2 ^ (a+b))];exact Nat.mul_lt_mul_of_pos_right hn (Zw (by decide))
def spTimesB (K:FrQ):Sp:=fun vs H Q _=>∃ (n p:Nat) (t x y:V) (c:Nat->Nat->Vc) (u v:Vc),vs=[t,x,y,.int (p:Int)]/\Rep H Any t (tE n n n c)/\Rep H Any x (rE n u)/\Rep H Any y (rE n v)/\1<=n/\n<=20/\2<=p/\p<=50/\(∀ i j k,i<n->j<n->k<n->Bd 90000 (c i j k))/\(∀ i,i<n->Bd 64 (u i))/\(∀ i,i<n->Bd 64 (v i))/\
 ∀ r H',Same H H'->Rep H' (NewB H) r (rE n (tmb n c (p:Int) u v))->Q r H'
theorem ok_times_by (B:Blt mg)(d_summed:Dfn P w K mg base 1 "summed" Lq29 (spSummed K))(F:Src K mg "times_by" s_times_by Lq18):Dfn P w K mg base 2 "times_by" Lq18 (spTimesB K):=by
 refine F.ok sc_times_by (fun vs H Q E h=>?_) (fun f cdv A outer s H vs Q E hr h=>?_)
 ·obtain⟨n,p,t,x,y,c,u,v,rfl,_⟩:=h;rfl
 obtain⟨n,p,t,x,y,c,u,v,rfl,rt,rx,ry,hn1,hn,hp,hp2,bc,bu,bv,q⟩:=h;obtain⟨lt,us,rfl,hlt,_,C⟩:=id rt.cf;obtain⟨lx,rfl,hlx,_⟩:=vs_rE rx;obtain⟨ly,rfl,hly,_⟩:=vs_rE ry;refine⟨_,pss_cons (ps_set (i:=4) sc_times_by.nd rfl (Or.inl rfl) (pe_def d_summed hr (pa_cons (pv 1) (pa_cons (pe_comp (compScope_mk (N:=["line","other"]) (sl:=[none,some 2]) (defScope s_times_by) Lq10 rfl rfl (by decide +kernel)) rfl (piK_list (K:=K) rfl (pv 0)) (fun _ _ _ _ _=>(pg_name (i:=0) (by show Yo (["line","other"]:List Str);decide +kernel) rfl (Or.inl rfl))) (fun _ _ _ _ _=>pif_none) (fun _ _ _ _ _=>(pe_def d_summed hr (pa_cons (pv 1) (pa_cons (pv 0) pa_nil))))) pa_nil))))
  (pss_one (ps_ret (pe_comp (compScope_mk (N:=Lq33) (sl:=[none,some 3]) (defScope s_times_by) Lq10 rfl rfl (by decide +kernel)) rfl (piK_list (K:=K) rfl (pv 4)) (fun _ _ _ _ _=>(pg_name (i:=0) (by show Yo (Lq33:List Str);decide +kernel) rfl (Or.inl rfl))) (fun _ _ _ _ _=>pif_none) (fun _ _ _ _ _=>(pe_op op_modN (pv 0) (pv 1)))))),?_⟩
 walk_at "rd"
 refine⟨⟨_,SqL.of hlt⟩,fun D hD=>?_⟩
 refine cmpL (fun i=>rE n fun k=>sm n v (c i) k) (n:=n) C.len hlt hD (by omega) (fun i vx H2 Q2 hi g2 hvx q2=>?_) fun H2 g2 rr=>?_
 ·obtain⟨_,ri⟩:=C.get hvx
  exact⟨_,rfl,_,rfl,n,n,_,vx,v,c i,rfl,ry.same g2,ri.same g2,hn1,by omega,by omega,fun j hj=>(bv j hj).mono (by decide),fun j k hj hk=>(bc i j k hi hj hk).mono (by decide),fun r H3 g3 rr=>q2 _ H3 g3 rr⟩
 refine⟨n,n,_,_,u,fun i k=>sm n v (c i) k,rfl,rx.same g2,rr.any,hn1,by omega,by omega,fun j hj=>(bu j hj).mono (by decide),fun i k hi hk=>(bd_sm (k:=5) (by omega) bv fun j hj=>bc i j k hi hj hk).mono (by decide),fun r3 H3 g3 rr3=>?_⟩
 obtain⟨l3,rfl,hl3,_⟩:=vs_rE rr3;refine⟨_,rfl,l3,rfl,⟨_,SqL.of hl3⟩,fun D4 hD4=>?_⟩
 refine cmpL (fun k=>.num (tmb n c (p:Int) u v k)) (n:=n) (by rw[Ya,lv_len]) hl3 hD4 (by omega) (fun k vx H5 Q5 hk g5 hvx q5=>?_) fun H5 g5 rr5=>q _ H5 ((g2.trans g3).trans g5) (rr5.older (g2.trans g3))
 obtain⟨y1,hy1,rfl⟩:=map_int_get hvx;rw[lv_get hk] at hy1;cases hy1;refine⟨_,rfl,_,rfl,_,_,rfl,rfl,(show (p:Int)≠0 by omega),?_⟩
 have e:(sm n u (fun i k=>sm n v (c i) k) k).fmod (p:Int)=tmb n c (p:Int) u v k:=Y3 _ (by omega)
 show Q5 (V.int ((sm n u (fun i k=>sm n v (c i) k) k).fmod (p:Int))) H5
 rw[e];exact q5 _ H5 (Same.refl _) (.num _)
theorem tmb_rng {n p:Nat}(hp:2<=p){c:Nat->Nat->Vc}{x y:Vc}(k:Nat):0<=tmb n c (p:Int) x y k/\tmb n c (p:Int) x y k<(p:Int):=⟨Zb _ (by omega),Za _ (by omega)⟩
theorem pwb_rng {n p:Nat}(hp:2<=p){c:Nat->Nat->Vc}{x:Vc}{k:Nat}(hx:0<=x k/\x k<(p:Int)):∀ m,0<=pwb n c (p:Int) x m k/\pwb n c (p:Int) x m k<(p:Int)
 | 0=>hx
 | m+1=>tmb_rng hp k
theorem rsd_rng {n p:Nat}(hp:2<=p){c:Nat->Nat->Vc}{i j:Nat}:∀ k,0<=rsd n c p k i j/\rsd n c p k i j<(p:Int)
 | 0=>by
  show 0<=(if j=i then (1:Int) else 0)/\(if j=i then (1:Int) else 0)<_
  by_cases e:j=i
  ·rw[Wv e];omega
  ·rw[Wu e];omega
 | k+1=>pwb_rng hp (rsd_rng hp k) _
def spPowB (K:FrQ):Sp:=fun vs H Q _=>∃ (n p:Nat) (t x:V) (c:Nat->Nat->Vc) (u:Vc),vs=[t,x,.int (p:Int),.int (p:Int)]/\Rep H Any t (tE n n n c)/\Rep H Any x (rE n u)/\1<=n/\n<=20/\2<=p/\p<=50/\(∀ i j k,i<n->j<n->k<n->Bd 90000 (c i j k))/\(∀ i,i<n->0<=u i/\u i<(p:Int))/\
 ∀ r H',Same H H'->Rep H' (NewB H) r (rE n (pwb n c (p:Int) u (p - 1)))->Q r H'
theorem ok_power_by (B:Blt mg)(d_times_by:Dfn P w K mg base 2 "times_by" Lq18 (spTimesB K))(F:Src K mg "power_by" s_power_by Lq22):Dfn P w K mg base 3 "power_by" Lq22 (spPowB K):=by
 refine F.ok sc_power_by (fun vs H Q E h=>?_) (fun f cdv A outer s H vs Q E hr h=>?_)
 ·obtain⟨n,p,t,x,c,u,rfl,_⟩:=h;rfl
 obtain⟨n,p,t,x,c,u,rfl,rt,rx,hn1,hn,hp,hp2,bc,hu,q⟩:=h;refine⟨_,pss_cons (ps_set (i:=4) sc_power_by.nd rfl (Or.inl rfl) (pv 1))
  (pss_cons (ps_for PassesOwn.never rfl (pi_range1 rfl B.«range» (pa_cons (pe_op op_sub (pv 2) pe_int) pa_nil)) (pg_name (i:=5) sc_power_by.nd rfl (Or.inl rfl))
   (pss_one (ps_set (i:=4) sc_power_by.nd rfl (Or.inl rfl) (pe_def d_times_by hr (pa_cons (pv 0) (pa_cons (pv 4) (pa_cons (pv 1) (pa_cons (pv 3) pa_nil))))))))
  (pss_one (ps_ret (pv 4)))),?_⟩
 walk_at "rd"
 refine⟨by omega,by omega,?_⟩
 rw[show ((p:Int) - 1).toNat=p - 1 by omega]
 have bu:∀ m,∀ i,i<n->Bd 64 (pwb n c (p:Int) u m i):=fun m i hi=>by
  have:=pwb_rng (n:=n) (c:=c) hp (hu i hi) m
  exact Bd.small (by omega) (by omega)
 refine for_range (fun i σ H2=>Same H H2/\∃ (v:V) (o:Option V),σ=[some t,some x,Iq (p),Iq (p),some v,o]/\Rep H2 Any v (rE n (pwb n c (p:Int) u i))/\(1<=i->Rep H2 (NewB H) v (rE n (pwb n c (p:Int) u i)))) ⟨Same.refl H,x,_,rfl,rx,fun h=>W1 h (by decide)⟩ ?_ ?_
 ·rintro i σ H2 hi ⟨g2,v,o,rfl,rv,_⟩
  refine⟨_,rfl,_,rfl,_,rfl,_,rfl,n,p,t,v,x,c,_,u,rfl,rt.same g2,rv,rx.same g2,hn1,hn,hp,hp2,bc,bu i,fun j hj=>bu 0 j hj,fun r H3 g3 rr=>?_⟩
  exact⟨g2.trans g3,_,_,rfl,rr.any,fun _=>rr.older g2⟩
 ·rintro σ H2 ⟨g2,v,o,rfl,rv,rn⟩
  exact⟨_,rfl,q _ H2 g2 (rn (by omega))⟩
def spRaised (K:FrQ):Sp:=fun vs H Q _=>∃ (n p:Nat) (t:V) (c:Nat->Nat->Vc),vs=[t,.int (p:Int)]/\Rep H Any t (tE n n n c)/\1<=n/\n<=20/\2<=p/\p<=50/\(∀ i j k,i<n->j<n->k<n->Bd 90000 (c i j k))/\
 ∀ k r H',n<=p ^ k->Same H H'->Rep H' (NewB H) r (mE n n (rsd n c p k))->Q r H'
theorem ok_raised (B:Blt mg)(d_unit_row:Dfn P w K mg base 1 "unit_row" Lq19 spUnit)(d_power_by:Dfn P w K mg base 3 "power_by" Lq22 (spPowB K))(F:Src K mg "raised" s_raised Lq35):Dfn P w K mg base 4 "raised" Lq35 (spRaised K):=by
 refine F.ok sc_raised (fun vs H Q E h=>?_) (fun f cdv A outer s H vs Q E hr h=>?_)
 ·obtain⟨n,p,t,c,rfl,_⟩:=h;rfl
 obtain⟨n,p,t,c,rfl,rt,hn1,hn,hp,hp2,bc,q⟩:=h;obtain⟨lt,us,rfl,hlt,_,C⟩:=id rt.cf;refine⟨_,pss_cons (ps_set (i:=2) sc_raised.nd rfl (Or.inr rfl) (pe_callB (callK_len (K:=K) rfl) rfl B.«len» bt_len (pa_cons (pv 0) pa_nil)))
  (pss_cons (ps_setC (i:=3) sc_raised.nd rfl (Or.inl rfl) (compScope_mk (N:=["place","many"]) (sl:=[none,some 2]) (defScope s_raised) Lq8 rfl rfl (by decide +kernel)) rfl (pi_range1 rfl B.«range» (pa_cons (pv 2) pa_nil)) (fun _ _ _ _ _=>(pg_name (i:=0) (by show Yo (["place","many"]:List Str);decide +kernel) rfl (Or.inl rfl))) (fun _ _ _ _ _=>pif_none) (fun _ _ _ _ _=>(pe_def d_unit_row hr (pa_cons (pv 1) (pa_cons (pv 0) (pa_cons pe_int pa_nil))))))
  (pss_cons (ps_set (i:=4) sc_raised.nd rfl (Or.inl rfl) pe_int)
  (pss_cons (ps_while PassesOwn.never (pt_cmpR op_lt (pv 4) (pv 2) (nomark _))
   (pss_cons (ps_setC (i:=3) sc_raised.nd rfl (Or.inl rfl) (compScope_mk (N:=["row","table","p"]) (sl:=[none,some 0,some 1]) (defScope s_raised) Lq8 rfl rfl (by decide +kernel)) rfl (piK_list (K:=K) rfl (pv 3)) (fun _ _ _ _ _=>(pg_name (i:=0) (by show Yo (["row","table","p"]:List Str);decide +kernel) rfl (Or.inl rfl))) (fun _ _ _ _ _=>pif_none) (fun _ _ _ _ _=>(pe_def d_power_by hr (pa_cons (pv 1) (pa_cons (pv 0) (pa_cons (pv 2) (pa_cons (pv 2) pa_nil)))))))
   (pss_one (ps_set (i:=4) sc_raised.nd rfl (Or.inl rfl) (pe_op op_mulO (pv 4) (pv 1))))))
  (pss_one (ps_ret (pv 3)))))),?_⟩
 walk_at "rd"
 refine⟨lt,_,rfl,.inl (SqL.of hlt),?_⟩
 rw[C.len];refine⟨_,rfl,_,rfl,by omega,by omega,fun D hD=>?_⟩
 rw[Yk];refine cmpR (fun i=>rE n (un i)) hD (by omega) (fun i H2 Q2 hi g2 q2=>?_) fun H2 g2 rr=>?_
 ·rw[Z4]
  exact⟨_,rfl,_,rfl,n,i,1,rfl,by omega,fun r H3 g3 rr=>q2 _ H3 g3 rr⟩
 refine while_in (fun σ H2=>Same H H2/\∃ (k:Nat) (v:V),σ=[Rq lt,Iq (p),Iq (n),some v,Iq ((p ^ k:Nat))]/\p ^ k<=1000/\Rep H2 (NewB H) v (mE n n (rsd n c p k))) (fun σ _=>match σ with | [_,_,_,_,some (.int r)]=>n - r.toNat | _=>0)
  ⟨g2,0,_,rfl,by rw[Nat.pow_zero];decide,rr⟩ ?_
 rintro σ H3 ⟨g3,k,v,rfl,hk,rv⟩;refine⟨_,rfl,_,rfl,_,_,rfl,rfl,_,rfl,ite2 (fun c1=>?_) (fun c1=>?_)⟩
 ·have hlt':p ^ k<n:=by have:=Wx c1;omega
  obtain⟨lv',vs,rfl,hlv,_,Cv⟩:=id rv.cf;refine win ⟨_,rfl,lv',rfl,⟨_,SqL.of hlv⟩,fun D2 hD2=>?_⟩
  refine cmpL (fun i=>rE n (rsd n c p (k+1) i)) (n:=n) Cv.len hlv hD2 (by omega) (fun i vx H4 Q4 hi g4 hvx q4=>?_) fun H4 g4 rr4=>?_
  ·obtain⟨_,ri⟩:=Cv.get hvx
   exact⟨_,rfl,_,rfl,_,rfl,_,rfl,n,p,_,vx,c,rsd n c p k i,rfl,rt.same (g3.trans g4),(ri.same g4).any,hn1,hn,hp,hp2,bc,fun j _=>rsd_rng hp k,fun r H5 g5 rr5=>q4 _ H5 g5 rr5⟩
  ·have h1:p ^ k*p<=19*50:=Wj (by omega) hp2
   have e1:((p ^ k:Nat):Int)*(p:Int)=((p ^ (k+1):Nat):Int):=by rw[Z5,Zz]
   refine⟨_,rfl,_,rfl,_,_,rfl,rfl,mulOkL (by omega) (by omega),?_⟩
   show (Same H H4/\_)/\_
   refine⟨⟨g3.trans g4,k+1,_,by show _=[_,_,_,_,some (V.int ((p ^ (k+1):Nat):Int))];rw[<- e1];rfl,by rw[Z5];omega,rr4.older g3⟩,?_⟩
   show n - (((p ^ k:Nat):Int)*(p:Int)).toNat<n - (((p ^ k:Nat):Int)).toNat
   rw[e1,Yk,Yk,Z5];have h2:1<=p ^ k:=Zw (by omega)
   have h3:p ^ k*2<=p ^ k*p:=Zr _ hp;omega
 ·have hge:n<=p ^ k:=by
   have:¬ ((p ^ k:Nat):Int)<(n:Int):=fun z=>c1 (Ww z)
   omega
  exact⟨_,rfl,q k _ H3 hge g3 rv⟩
end
def wol (k:Nat)(A:Nat->Vc)(lead:Vc)(q:Nat)(m:Int):Nat->Vc:=fun i j=>if i<k then (A i j - (A i q / lead q)*lead j) % m else ((m / lead q)*lead j) % m
def spWol (K:FrQ):Sp:=fun vs H Q _=>∃ (k n q:Nat) (u v:V) (A:Nat->Vc) (lead:Vc) (m:Int),vs=[u,v,.int (q:Int),.int m]/\Rep H Any u (mE k n A)/\Rep H Any v (rE n lead)/\q<n/\n<=100/\k<=100/\0<m/\0<lead q/\Bd 8000 m/\(∀ i j,i<k->j<n->Bd 8000 (A i j))/\(∀ j,j<n->Bd 8000 (lead j))/\
 ∀ r H',Same H H'->Rep H' (NewB H) r (mE (k+1) n (wol k A lead q m))->Q r H'
section
variable {P:Program} {w:World} {K:FrQ} {mg:Str->Option Value} {base:Heap}
theorem ok_without (B:Blt mg)(F:Src K mg "without" s_without Lq11):Dfn P w K mg base 1 "without" Lq11 (spWol K):=by
 refine F.ok sc_without (fun vs H Q E h=>?_) (fun f cdv A outer s H vs Q E hr h=>?_)
 ·obtain⟨k,n,q,u,v,A,lead,m,rfl,_⟩:=h;rfl
 obtain⟨k,n,q,u,v,A,lead,m,rfl,ru,rv,hq,hn,hk,m0,l0,bm,bA,bl,qq⟩:=h;obtain⟨lA,us,rfl,hlA,_,C⟩:=ru.cf;obtain⟨ll,rfl,hll,_⟩:=vs_rE rv;refine⟨_,pss_cons (ps_set (i:=4) sc_without.nd rfl (Or.inl rfl) (pe_lst pa_nil))
  (pss_cons (ps_for PassesOwn.never rfl (piK_list (K:=K) rfl (pv 0)) (pg_name (i:=5) sc_without.nd rfl (Or.inl rfl))
   (pss_cons (ps_set (i:=6) sc_without.nd rfl (Or.inr rfl) (pe_op op_fdivW (pe_ix (ixK_list (K:=K) rfl) (pv 5) (pv 2) (fun _ _=>rfl)) (pe_ix (ixK_list (K:=K) rfl) (pv 1) (pv 2) (fun _ _=>rfl))))
   (pss_one (ps_expr (pe_bm PySem.F.plainAttrs_list PySem.F.slot_list_append PySem.F.type_list_append mt_append (pv 4) (pa_cons (pe_comp (compScope_mk (N:=Lq9) (sl:=[none,none,some 6,some 3]) (defScope s_without) Lq6 rfl rfl (by decide +kernel)) rfl (piK_zip (K:=K) rfl rfl B.«zip» (pa_cons (pv 5) (pa_cons (pv 1) pa_nil))) (fun _ _ _ _ _=>(pgK_tup (n:=2) (K:=K) rfl rfl (pgs_cons (pg_name (i:=0) (by show Yo (Lq9:List Str);decide +kernel) rfl (Or.inl rfl)) (pgs_cons (pg_name (i:=1) (by show Yo (Lq9:List Str);decide +kernel) rfl (Or.inl rfl)) pgs_nil)))) (fun _ _ _ _ _=>pif_none) (fun _ _ _ _ _=>(pe_op op_modN (pe_op op_sub (pv 0) (pe_op op_mulO (pv 2) (pv 1))) (pv 3)))) pa_nil))))))
  (pss_cons (ps_set (i:=6) sc_without.nd rfl (Or.inr rfl) (pe_op op_fdivW (pv 3) (pe_ix (ixK_list (K:=K) rfl) (pv 1) (pv 2) (fun _ _=>rfl))))
  (pss_one (ps_ret (pe_op op_cat (pv 4) (pe_lst (pa_cons (pe_comp (compScope_mk (N:=["number","often","power"]) (sl:=[none,some 6,some 3]) (defScope s_without) Lq6 rfl rfl (by decide +kernel)) rfl (piK_list (K:=K) rfl (pv 1)) (fun _ _ _ _ _=>(pg_name (i:=0) (by show Yo (["number","often","power"]:List Str);decide +kernel) rfl (Or.inl rfl))) (fun _ _ _ _ _=>pif_none) (fun _ _ _ _ _=>(pe_op op_modN (pe_op op_mulO (pv 1) (pv 0)) (pv 2)))) pa_nil))))))),?_⟩
 walk_at "rd"
 intro p hp;have g0:=same_new hp (.lst []);refine⟨_,rfl,lA,rfl,⟨_,SqL.of (g0 _ _ hlA)⟩,for_list (xs:=us) (fun i σ H2=>Same H H2/\∃ (ys:List V) (o1 o2:Option V),σ=[Rq lA,Rq ll,Iq (q),some (.int m),Rq p,o1,o2]/\H2 p=some (.lst ys)/\Cf H2 (Off H p) ys i fun i=>rE n (wol k A lead q m i))
  ⟨g0,[],_,_,rfl,upd_same,.nil⟩ (fun i σ H2 _ h=>SqL.of (h.1 _ _ hlA)) ?_ ?_⟩
 ·rintro i vx σ H2 hvx ⟨g2,ys,o1,o2,rfl,ep,Cy⟩
  obtain⟨hi,ri⟩:=C.get hvx;obtain⟨lr,rfl,hlr,_⟩:=vs_rE ri;refine⟨_,rfl,_,rfl,lr,_,_,_,rfl,rfl,SqL.of (g2 _ _ hlr),lv_at hq,_,rfl,_,rfl,ll,_,_,_,rfl,rfl,SqL.of (g2 _ _ hll),lv_at hq,_,_,rfl,rfl,(bl q hq).dv (by omega),?_⟩
  show gName 6 (V.int ((A i q).fdiv (lead q))) _ _ _
  rw[Zd _ (show 0<=lead q by omega)]
  refine⟨_,rfl,.inl ⟨rfl,_,SqL.of ep⟩,_,rfl,_,rfl,lr,ll,rfl,⟨_,SqL.of (g2 _ _ hlr)⟩,⟨_,SqL.of (g2 _ _ hll)⟩,fun D hD=>?_⟩
  have bo:Bd 8000 (A i q / lead q):=by
   rw[<- Zd _ (show 0<=lead q by omega)];exact (bA i q hi hq).fdiv
  refine cmpZ (fun j=>.num (wol k A lead q m i j)) (n:=n) (by rw[Ya,lv_len]) (by rw[Ya,lv_len]) (g2 _ _ hlr) (g2 _ _ hll) hD (by omega) (fun j vx vy t H3 Q2 hj g3 hvx hvy ht q2=>?_) fun H3 g3 rr=>?_
  ·obtain⟨y1,hy1,rfl⟩:=map_int_get hvx
   obtain⟨y2,hy2,rfl⟩:=map_int_get hvy;rw[lv_get hj] at hy1 hy2;cases hy1;cases hy2;refine⟨t,_,rfl,SqT.of ht,rfl,_,_,rfl,_,_,rfl,rfl,?_⟩
   refine⟨_,rfl,_,rfl,_,rfl,_,_,rfl,rfl,bo.ok (bl j hj),_,_,rfl,rfl,_,rfl,_,_,rfl,rfl,(show m≠0 by omega),?_⟩
   show Q2 (V.int ((A i j - A i q / lead q*lead j).fmod m)) H3
   have e:(A i j - A i q / lead q*lead j).fmod m=wol k A lead q m i j:=by
    unfold wol;rw[Wv hi,Y3 _ (by omega)]
   rw[e];exact q2 _ H3 (Same.refl _) (.num _)
  ·refine⟨p,_,_,rfl,rfl,g3 _ _ ep,by rw[Cy.len,sizeLine_eq];omega,?_⟩
   exact⟨(g2.trans g3).free_upd hp _,_,_,_,rfl,upd_same,((Cy.same g3).push (rr.offN g2 ep)).upd⟩
 ·rintro σ H2 ⟨g2,ys,o1,o2,rfl,ep,Cy⟩
  rw[C.len] at Cy;refine⟨_,rfl,_,rfl,_,rfl,ll,_,_,_,rfl,rfl,SqL.of (g2 _ _ hll),lv_at hq,_,_,rfl,rfl,(bl q hq).dv (by omega),?_⟩
  show gName 6 (V.int (m.fdiv (lead q))) _ _ _
  rw[Zd _ (show 0<=lead q by omega)]
  have bo:Bd 8000 (m / lead q):=by
   rw[<- Zd _ (show 0<=lead q by omega)];exact bm.fdiv
  refine⟨_,rfl,_,rfl,ll,rfl,⟨_,SqL.of (g2 _ _ hll)⟩,fun D hD=>?_⟩
  refine cmpL (fun j=>.num (wol k A lead q m k j)) (n:=n) (by rw[Ya,lv_len]) (g2 _ _ hll) hD (by omega) (fun j vx H3 Q2 hj g3 hvx q2=>?_) fun H3 g3 rr=>?_
  ·obtain⟨y1,hy1,rfl⟩:=map_int_get hvx
   rw[lv_get hj] at hy1;cases hy1;refine⟨_,rfl,_,rfl,_,_,rfl,rfl,bo.ok (bl j hj),_,rfl,_,_,rfl,rfl,(show m≠0 by omega),?_⟩
   show Q2 (V.int ((m / lead q*lead j).fmod m)) H3
   have e:(m / lead q*lead j).fmod m=wol k A lead q m k j:=by
    unfold wol;rw[Wu (by omega),Y3 _ (by omega)]
   rw[e];exact q2 _ H3 (Same.refl _) (.num _)
  ·refine⟨len_ok rfl,fun p2 n2=>?_⟩
   have k2:=same_new n2 (.lst [.ref D]);have g4:=(g2.trans g3).trans k2;refine⟨p,p2,_,_,rfl,rfl,k2 _ _ (g3 _ _ ep),upd_same,by rw[Cy.len,sizeLine_eq];show k+1<=_;omega,fun p3 n3=>?_⟩
   have k3:=same_new n3 (.lst (ys++[.ref D]));refine qq _ _ (g4.trans k3) ?_
   have c1:=((Cy.newB.same g3).push (rr.older g2)).same (k2.trans k3);exact c1.rep upd_same (g4.free n3)
end
def qualL:Str:="lead_at.<locals>.<lambda>"
structure IsLead (k n:Nat)(A:Nat->Vc)(q p d:Nat)(lead:Vc):Prop where
 pw:∃ s,s<=d/\lead q=(p:Int) ^ s
 rng:∀ j,j<n->0<=lead j/\lead j<=(p:Int) ^ d
 dv:∀ i,i<k->lead q ∣ A i q
 src:(∃ i,i<k/\∃ b:Int,∀ j,j<n->lead j=(b*A i j) % (p:Int) ^ d)\/∀ j,j<n->lead j=if j=q then (p:Int) ^ d else 0
def spLeadAt (K:FrQ)(Pp:Addr):Sp:=fun vs H Q _=>∃ (k n q d p:Nat) (u:V) (A:Nat->Vc),vs=[u,.int (q:Int),.int (p:Int),.int ((p:Int) ^ d)]/\p∈PR/\Rep (del H Pp) Any u (mE k n A)/\q<n/\n<=20/\1<=k/\k<=90/\1<=d/\d<=30/\(∀ i j,i<k->j<n->0<=A i j/\A i j<(p:Int) ^ d)/\TabQ qualL Pp H/\
 ∀ lead r H',NewO H Pp H'->TabQ qualL Pp H'->IsLead k n A q p d lead->Rep (del H' Pp) (NewB H) r (rE n lead)->Q r H'
theorem lamK_stepQ {Pp:Addr}{pos:Pos}{L:LamK}{cl:List (Str×Addr)}{σ:St}{H:Hp}{Q:VK}{ql:Str}(hq:L.qual=ql)(tq:TabQ ql Pp H)(q:∀ f c H',NewO H Pp H'->TabQ ql Pp H'->L.here cl f c H'->Q (.ref f) H'):tLamK Pp pos L cl σ H Q:=by subst hq;exact lamK_step tq q
theorem min_step {K:FrQ}{N:List Str}{Pp l:Addr}{pos:Pos}{L:LamK}{cl:List (Str×Addr)}{σ:St}{H:Hp}{Q:VK}{ql:Str}{i:Nat}(hq:L.qual=ql)(hσ:σ[i]?=some (some (.ref l)))(tq:TabQ ql Pp H)(q:∀ f c H',NewO H Pp H'->TabQ ql Pp H'->L.here cl f c H'->rMinK K N L cl σ [.ref l] [.ref f] H' Q):
  tCBKS (rMinK K N L cl) (tCons (tVar i) tNil) (tCons (tLamK Pp pos L cl) tNil) σ H Q:=by
 refine⟨_,hσ,?_⟩
 show tLamK Pp pos L cl σ H fun y H2=>rMinK K N L cl σ [.ref l] [y] H2 Q
 exact lamK_stepQ hq tq q
theorem bez_pow {p:Nat}(hp:p∈PR){m:Int}(hm:¬ (p:Int) ∣ m):∀ d:Nat,∃ x y:Int,x*m+y*(p:Int) ^ d=1
 | 0=>⟨0,1,by rw[Y9];omega⟩
 | d+1=>by
  obtain⟨x,y,e⟩:=bez_pow hp hm d;have pp:=pr_pos hp;have h1:=Zb m (show (p:Int)≠0 by omega)
  have h2:=Za m (show (0:Int)<p by omega)
  obtain⟨c,hc⟩:=Zc h1;have c0:c≠0:=fun z=>hm (Int.dvd_of_emod_eq_zero (by rw[hc,z];rfl))
  obtain⟨b,hb,e1⟩:=fp_inv p hp c (by omega) (by omega)
  have p2:2<=p:=by
   have:∀ q∈PR,2<=q:=by decide
   exact this p hp
  have e1:c*b % p=1:=by rw[e1];exact Zn (by omega)
  have e2:(c:Int)*(b:Int)=1+(p:Int)*((c*b / p:Nat):Int):=by
   have:=Nat.div_add_mod (c*b) p
   rw[e1] at this;have h:((p*(c*b / p)+1:Nat):Int)=((c*b:Nat):Int):=by rw[this]
   rw[Int.natCast_add,Zz,Zz] at h;omega
  have e3:m=(c:Int)+(p:Int)*(m / p):=by
   have:=Zm m (p:Int)
   rw[hc] at this;omega
  generalize m / (p:Int)=g at e3;generalize ((c*b / p:Nat):Int)=t at e2;refine⟨x*(b*m - (p:Int)*(g*b+t))+y*(p:Int) ^ d*b,-(y*(g*b+t)),?_⟩
  rw[Y5];generalize (p:Int) ^ d=W at e;have e4:(b:Int)*m - (p:Int)*(g*b+t)=1:=by rw[e3];grind
  rw[e4];grind
theorem reps_of {H:Hp}{ok:Addr->Prop}{n:Nat}:∀ {ys:List V},(∀ y∈ys,∃ e,Rep H ok y e/\FlE n e)->∃ es:List El,ys.length=es.length/\(∀ (i:Nat) v e,ys[i]?=some v->es[i]?=some e->Rep H ok v e)/\∀ e∈es,FlE n e
 | [],_=>⟨[],rfl,fun i v e h=>by simp at h,fun e h=>by simp at h⟩
 | y::ys,h=>by
  obtain⟨e,r,f⟩:=h y Y4;obtain⟨es,h1,h2,h3⟩:=reps_of (ys:=ys) fun z hz=>h z (Yy _ hz)
  refine⟨e::es,by simp[h1],fun i v d a b=>?_,fun d hd=>?_⟩
  ·cases i with
   | zero=>cases a;cases b;exact r
   | succ i=>exact h2 i v d a b
  ·rcases List.mem_cons.mp hd with rfl | hd
   ·exact f
   ·exact h3 d hd
theorem fl_rE {n:Nat}{v:Vc}(h:n<=100):FlE 1 (rE n v):=.vec (by rw[Ya,Yg];exact h) fun e he=>by
 obtain⟨i,_,rfl⟩:=List.mem_map.mp he;exact .num _
theorem Rep.delN {H0 H1 H2:Hp}{Pp:Addr}{o:HO}{v:V}{e:El}(r:Rep H2 (NewB H1) v e)(hP:H1 Pp=some o)(f:∀ b,H1 b=none->H0 b=none):Rep (del H2 Pp) (NewB H0) v e:=r.imp fun b u h k=>⟨by
  rw[del_of (fun z=>by rw[z] at k;rw[show H1 Pp=none from k] at hP;cases hP)];exact h,f b k⟩
theorem pd_bd {p d:Nat}(hp:p∈PR)(hd:d<=30):Bd 200 ((p:Int) ^ d):=by
 have:∀ q∈PR,q<=2 ^ 6:=by decide
 show ((p:Int) ^ d).natAbs<2 ^ 200
 rw[<- We,Int.natAbs_natCast];refine Zv (Nat.pow_le_pow_left (this p hp) d) ?_
 rw[<- Nat.pow_mul];exact Z7 (by decide) (by omega)
section
variable {P:Program} {w:World} {K:FrQ} {mg:Str->Option Value} {base:Heap}
theorem ok_lead_at {c_lead_at P_lead_at:Addr}(B:Blt mg)(hbm:BMain mg base)(hk_lead_at:PySem.W.codeHdIn K c_lead_at P_lead_at=true)(d_taken_out:Dfn P w K mg base 1 "taken_out" Lq36 spTaken)(d_size_of_number:Dfn P w K mg base 2 "size_of_number" Lq36 spSizeN)(d_back_by:Dfn P w K mg base 1 "back_by" ["k","power"] spBack)(d_unit_row:Dfn P w K mg base 1 "unit_row" Lq19 spUnit)(F:SrcC K mg "lead_at" s_lead_at Lq16 c_lead_at):Dfn P w K mg base 7 "lead_at" Lq16 (spLeadAt K P_lead_at):=by
 refine F.ok sc_lead_at (fun vs H Q E h=>?_) (fun fa A outer s H vs Q E hr h=>?_)
 ·obtain⟨k,n,q,d,p,u,A,rfl,_⟩:=h;rfl
 obtain⟨k,n,q,d,p,u,A,rfl,hp,ru,hq,hn,hk1,hk,hd1,hd,hA,tq,qq⟩:=h;obtain⟨lA,us,rfl,hlA,_,C⟩:=id ru.cf;refine⟨_,pss_cons (ps_setC (i:=4) sc_lead_at.nd rfl (Or.inl rfl) (compScope_mk (N:=["row","place"]) (sl:=[none,some 1]) (defScope s_lead_at) Lq7 rfl rfl (by decide +kernel)) rfl (piK_list (K:=K) rfl (pv 0)) (fun _ _ _ _ _=>(pg_name (i:=0) (by show Yo (["row","place"]:List Str);decide +kernel) rfl (Or.inl rfl))) (fun _ _ _ _ _=>(pif_one (pt_cmpR op_ne (pe_ix (ixK_list (K:=K) rfl) (pv 0) (pv 1) (fun _ _=>rfl)) pe_int (nomark _)))) (fun _ _ _ _ _=>(pv 0)))
  (pss_cons (ps_if (pt_cmpR (opK_eqD (K:=K) rfl hr.units) (pv 4) (pe_lst pa_nil) (nomark _))
   (pss_one (ps_ret (pe_def d_unit_row hr (pa_cons (pe_callB (callK_len (K:=K) rfl) rfl B.«len» bt_len (pa_cons (pe_ix (ixK_list (K:=K) rfl) (pv 0) pe_int (fun _ _=>rfl)) pa_nil)) (pa_cons (pv 1) (pa_cons (pv 3) pa_nil))))))
   (pss_nil))
  (pss_cons (ps_set (i:=5) sc_lead_at.nd rfl (Or.inl rfl) (pe_minK (c:=c_lead_at) (P:=P_lead_at) (x:="one") (N:=["place","p"]) (k:=2) (K:=K) rfl (fun _ _ _ _ _ _ _ hr=>(pe_def d_size_of_number hr (pa_cons (pe_ix (ixK_list (K:=K) rfl) (pv 0) (pv 1) (fun _ _=>rfl)) (pa_cons (pv 2) pa_nil)))) (hr.mono (by first|decide|omega)) rfl ⟨rfl,rfl⟩ (fun _=>rfl) hbm rfl hk_lead_at rfl B.«min» (pa_cons (pv 4) pa_nil) (fun _ _ _ _ _=>rfl) (lam_cells (by decide +kernel)) (min_frs (sc:=defScope s_lead_at) (by decide +kernel)) (by decide +kernel) rfl (by decide +kernel)))
  (pss_cons (ps_set (i:=6) sc_lead_at.nd rfl (Or.inr rfl) (pe_def d_back_by hr (pa_cons (pe_ix (ixK_tup (K:=K) rfl) (pe_def d_taken_out hr (pa_cons (pe_ix (ixK_list (K:=K) rfl) (pv 5) (pv 1) (fun _ _=>rfl)) (pa_cons (pv 2) pa_nil))) pe_int (fun _ _=>rfl)) (pa_cons (pv 3) pa_nil))))
  (pss_one (ps_ret (pe_comp (compScope_mk (N:=["number","back","power"]) (sl:=[none,some 6,some 3]) (defScope s_lead_at) Lq7 rfl rfl (by decide +kernel)) rfl (piK_list (K:=K) rfl (pv 5)) (fun _ _ _ _ _=>(pg_name (i:=0) (by show Yo (["number","back","power"]:List Str);decide +kernel) rfl (Or.inl rfl))) (fun _ _ _ _ _=>pif_none) (fun _ _ _ _ _=>(pe_op op_modN (pe_op op_mulO (pv 1) (pv 0)) (pv 2))))))))),?_⟩
 have hlA':=(del_inv hlA).2;have p2:2<=p/\p<50:=by
  have:∀ q∈PR,2<=q/\q<50:=by decide
  exact this p hp
 have bpd:=pd_bd hp hd;have hm0:(0:Int)<(p:Int) ^ d:=Zx (by omega)
 walk_at "rd"
 refine⟨⟨_,SqL.of hlA'⟩,fun D hD=>?_⟩
 refine comp_list (xs:=us) (fun i ys H2=>Same H H2/\ys.length<=i/\(∀ y∈ys,∃ j,us[j]?=some y/\A j q≠0)/\∀ j y,j<i->us[j]?=some y->A j q≠0->y∈ys) ⟨same_new hD _,Yd 0,fun y hy=>by simp at hy,fun j y hj=>W1 hj (Zl _)⟩ (fun i ys H2 _ h=>SqL.of (h.1 _ _ hlA')) ?_ ?_
 ·rintro i m x ys H2 hm hi hx hy hlen ⟨g2,hle,h1,h2⟩
  obtain⟨hik,ri⟩:=C.get hx;obtain⟨lr,rfl,hlr,_⟩:=vs_rE ri;have hlr':=(del_inv hlr).2;refine⟨_,rfl,_,rfl,lr,_,_,_,rfl,rfl,SqL.of (g2 _ _ hlr'),lv_at hq,rfl,_,rfl,?_⟩
  by_cases z:A i q=0
  ·refine iteNS (by rw[z]) (CW.skip hm hi hy hlen ⟨g2,by omega,h1,fun j y hj e nz=>?_⟩)
   by_cases c:j=i
   ·rw[c] at nz;exact W1 z nz
   ·exact h2 j y (by omega) e nz
  ·refine iteS (fun y=>z (V.int.inj y)) ⟨_,rfl,CW.emit hm hi (by rw[C.len,sizeLine_eq];omega) hy hlen ⟨Same.free_upd g2 hD _,by rw[Yl];show ys.length+1<=_;omega,fun y hy=>?_,fun j y hj e nz=>?_⟩⟩
   ·rcases List.mem_append.mp hy with y1 | y1
    ·exact h1 y y1
    ·rw[List.mem_singleton.mp y1];exact⟨i,hx,z⟩
   ·by_cases c:j=i
    ·rw[c,hx] at e;cases e
     exact Yq _ Y4
    ·exact List.mem_append_left _ (h2 j y (by omega) e nz)
 ·rintro ys H2 hy ⟨g2,hle,h1,h2⟩
  rw[C.len] at h2 hle;have fD:H D=none:=hD;refine⟨_,rfl,len_ok rfl,fun pe npe=>?_⟩
  have k3:=same_new npe (.lst []);have g3:=g2.trans k3;have hyp:=k3 _ _ hy;have epe:(L2.upd H2 pe (.lst [])) pe=some (.lst []):=upd_same;have tq3:=tq.same g3;generalize L2.upd H2 pe (.lst [])=H3 at k3 g3 hyp epe tq3;have row_at:∀ y j,us[j]?=some y->j<k/\∃ lr,y=.ref lr/\H lr=some (.lst ((lv n (A j)).map V.int))/\lr≠P_lead_at:=fun y j e=>by
   obtain⟨hj,rj⟩:=C.get e;obtain⟨lr,rfl,hlr,_⟩:=vs_rE rj;exact⟨hj,lr,rfl,(del_inv hlr).2,(del_inv hlr).1⟩
  obtain⟨es,el,er,ef⟩:=reps_of (H:=H3) (ok:=Any) (n:=1) (ys:=ys) fun y hy=>by
   obtain⟨j,e,_⟩:=h1 y hy;obtain⟨hj,lr,rfl,hlr,_⟩:=row_at y j e;exact⟨_,rE_vs (g3 _ _ hlr) trivial,fl_rE (by omega)⟩
  have ylen:ys.length<=100:=by omega
  have rys:Rep H3 Any (.ref D) (.vec es):=.vec hyp trivial el er;have rnil:Rep H3 Any (.ref pe) (.vec []):=.vec epe trivial rfl fun i v e h=>by simp at h
  refine eqRep rys rnil (.vec (by omega) ef) (.vec (n:=1) (by decide) fun e he=>by simp at he) (by decide) (by decide) (fun e=>?_) (fun e=>?_)
  ·have y0:ys=[]:=by
    have:es=[]:=by injection e
    rw[this] at el;exact List.length_eq_zero_iff.mp el
   have az:∀ i,i<k->A i q=0:=fun i hi=>Classical.byContradiction fun z=>by
    have:=h2 i _ hi (Yc (by rw[C.len];exact hi)) z
    rw[y0] at this;simp at this
   refine⟨_,rfl,iteT ?_⟩
   obtain⟨v0,hv0,_⟩:=C.at_ 0 (by omega)
   obtain⟨_,l0,rfl,hl0,_⟩:=row_at v0 0 hv0;have hat0:atI us 0=some (.ref l0):=atI_nat (j:=0) hv0;refine⟨_,rfl,lA,_,_,_,rfl,rfl,SqL.of (g3 _ _ hlA'),hat0,l0,_,rfl,.inl (SqL.of (g3 _ _ hl0)),?_⟩
   rw[Ya,lv_len];refine⟨_,rfl,_,rfl,n,q,(p:Int) ^ d,rfl,by omega,fun r H4 g4 rr=>?_⟩
   obtain⟨ps,hPs,_⟩:=id tq3;refine qq (fun j=>if j=q then (p:Int) ^ d else 0) r H4 (NewO.of (g3.trans g4)) (tq3.same g4) ⟨⟨d,Yd d,Wv rfl⟩,fun j _=>?_,fun i hi=>by rw[az i hi];exact Int.dvd_zero _,.inr fun j _=>rfl⟩ (Rep.delN rr hPs fun b hb=>g3.free hb)
   by_cases c:j=q
   ·rw[Wv c];omega
   ·rw[Wu c];omega
  ·have y0:ys≠[]:=fun z=>e (by rw[z] at el;rw[List.length_eq_zero_iff.mp el.symm])
   refine⟨_,rfl,iteF ?_⟩
   have hj:∀ i:Nat,∃ j:Nat,∀ y,ys[i]?=some y->us[j]?=some y/\A j q≠0:=fun i=>by
    cases h:ys[i]? with
    | none=>exact⟨0,fun y z=>by cases z⟩
    | some y=>
     obtain⟨j,a,b⟩:=h1 y (Yv h);exact⟨j,fun y' z=>by cases z;exact⟨a,b⟩⟩
   obtain⟨jf,hjf⟩:=Classical.axiomOfChoice hj;have hs:∀ i,∃ s:Nat,A (jf i) q≠0->IsVal (p:Int) (A (jf i) q) s:=fun i=>by
    by_cases z:A (jf i) q=0
    ·exact⟨0,fun y=>W1 z y⟩
    ·obtain⟨s,hs⟩:=exists_val (p:=(p:Int)) (by omega) z
     exact⟨s,fun _=>hs⟩
   obtain⟨sf,hsf⟩:=Classical.axiomOfChoice hs;have hPl:∃ o,H3 P_lead_at=some o:=by obtain⟨ps,h,_⟩:=id tq3;exact⟨_,h⟩
   refine min_step (i:=4) (l:=D) rfl rfl tq3 fun f c H4 nw4 tq4 hh=>?_
   have hDP:D≠P_lead_at:=fun z=>by
    obtain⟨ps,h,_⟩:=id tq;rw[z] at hD;rw[h] at hD;cases hD
   have n4:NewO H P_lead_at H4:=(NewO.of g3).trans nw4;have hy4:=nw4 D _ hDP hyp;refine⟨D,f,c,ys,[.int (q:Int),.int (p:Int)],fun i=>(sf i:Int),fun i H'=>Same H4 H',rfl,rfl,List.length_pos_iff.mpr y0,?_,rfl,Same.refl _,⟨fun i H' g=>SqL.of (g _ _ hy4),fun i v H' hv g=>⟨hh.same g,?_⟩,fun i v H5 hv hmin g5=>?_⟩⟩
   ·intro j x v e1 e2
    match j,e1,e2 with
    | 0,e1,e2=>cases e1;cases e2;exact⟨1,rfl,rfl⟩
    | 1,e1,e2=>cases e1;cases e2;exact⟨2,rfl,rfl⟩
    | j+2,e1,e2=>have e2:([]:List V)[j]?=some v:=e2;simp at e2
   ·obtain⟨e1,e2⟩:=hjf i v hv
    obtain⟨_,lr,rfl,hlr,hne⟩:=row_at v _ e1;refine⟨_,rfl,_,rfl,lr,_,_,_,rfl,rfl,SqL.of (g _ _ (n4 _ _ hne hlr)),lv_at hq,_,rfl,_,(p:Int),rfl,by omega,by omega,fun x H6 g6 sv=>?_⟩
    rcases sv with ⟨z,_⟩ | ⟨_,s',hv',rfl⟩
    ·exact W1 z e2
    ·exact⟨by rw[hv'.uniq (hsf i e2)],g.trans g6⟩
   ·obtain⟨e1,e2⟩:=hjf i v hv
    obtain⟨hjk,lr,rfl,hlr,hne⟩:=row_at v _ e1;have vi:=hsf i e2;have n5:NewO H P_lead_at H5:=n4.trans (NewO.of g5);have hlr5:=n5 _ _ hne hlr;obtain⟨a0,a1⟩:=hA (jf i) q hjk hq;have dv:∀ i',i'<k->(p:Int) ^ sf i ∣ A i' q:=fun i' hi'=>by
     by_cases z:A i' q=0
     ·rw[z];exact Int.dvd_zero _
     ·have eg:us[i']?=some (us[i']'(by rw[C.len];exact hi')):=Yc _
      have hin:=h2 i' _ hi' eg z;obtain⟨m,hm,em⟩:=Z2 hin;have hym:ys[m]?=some (us[i']'(by rw[C.len];exact hi')):=by rw[Yc hm,em]
      obtain⟨e3,e4⟩:=hjf m _ hym;have hle:=hmin m hm;obtain⟨_,l1,x1,x2,_⟩:=row_at _ _ e3;obtain⟨_,l2,x3,x4,_⟩:=row_at _ _ eg;rw[x1] at x3;cases x3;rw[x2] at x4;have x5:(lv n (A (jf m))).map V.int=(lv n (A i')).map V.int:=by injection x4 with x4;injection x4
      have x6:A (jf m) q=A i' q:=by
       have:=Wz (fun l=>l[q]?) x5
       simp only[Ye,lv_get hq] at this
       injection this with this;injection this
      rw[<- x6];exact Int.dvd_trans (pow_dvd_pow' _ (by have:(sf i:Int)<=(sf m:Int):=hle;omega)) (hsf m e4).dv
    have hps:(0:Int)<(p:Int) ^ sf i:=Zx (by omega)
    refine⟨_,rfl,_,rfl,lr,_,_,_,rfl,rfl,SqL.of hlr5,lv_at hq,_,rfl,A (jf i) q,(p:Int),rfl,e2,by omega,by omega,fun v' m' r H6 g6 ek nd et=>?_⟩
    have ev:v'=sf i:=(IsVal.of (by omega) ek nd).uniq vi
    subst ev;have mp:0<m':=by
     rcases Int.lt_or_le 0 m' with y | y
     ·exact y
     ·have h:=Int.mul_nonneg (Int.le_of_lt hps) (show 0<=-m' by omega)
      rw[Int.mul_neg,<- ek] at h;omega
    have mle:m'<=A (jf i) q/\(p:Int) ^ sf i<=A (jf i) q:=by
     have h1:=Int.mul_le_mul_of_nonneg_right (show 1<=(p:Int) ^ sf i by omega) (Int.le_of_lt mp)
     have h2:=Int.mul_le_mul_of_nonneg_left (show 1<=m' by omega) (Int.le_of_lt hps)
     rw[<- ek] at h1 h2;omega
    have pd2:2<=(p:Int) ^ d:=by
     obtain⟨d',rfl⟩:∃ d',d=d'+1:=⟨d - 1,by omega⟩
     rw[Y5];have h1:(0:Int)<(p:Int) ^ d':=Zx (by omega)
     have h2:=Int.mul_le_mul_of_nonneg_right (show 1<=(p:Int) ^ d' by omega) (show (0:Int)<=p by omega)
     omega
    have bm':Bd 200 m':=Bd.le (y:=(p:Int) ^ d) (by omega) bpd
    refine⟨r,_,_,_,rfl,rfl,SqT.of et,rfl,_,rfl,m',(p:Int) ^ d,rfl,mp,pd2,bm'.mono (by decide),bpd.mono (by decide),bez_pow hp nd d,fun b t b0 b1 eb H7 g7=>?_⟩
    have n7:NewO H P_lead_at H7:=n5.trans (NewO.of (g6.trans g7));have tq7:=((tq4.same g5).same g6).same g7;have hlr7:=n7 _ _ hne hlr;refine⟨_,rfl,lr,rfl,⟨_,SqL.of hlr7⟩,fun D2 hD2=>?_⟩
    refine cmpL (fun j=>.num ((b*A (jf i) j) % (p:Int) ^ d)) (n:=n) (by rw[Ya,lv_len]) hlr7 hD2 (by omega) (fun j vx H8 Q2 hj g8 hvx q2=>?_) fun H8 g8 rr=>?_
    ·obtain⟨y1,hy1,rfl⟩:=map_int_get hvx
     rw[lv_get hj] at hy1;cases hy1;have aj:=hA (jf i) j hjk hj;refine⟨_,rfl,_,rfl,_,_,rfl,rfl,(Bd.le (y:=(p:Int) ^ d) (by omega) bpd).ok (Bd.le (y:=(p:Int) ^ d) (by omega) bpd),_,rfl,_,_,rfl,rfl,(show (p:Int) ^ d≠0 by omega),?_⟩
     show Q2 (V.int ((b*A (jf i) j).fmod ((p:Int) ^ d))) H8
     rw[Y3 _ (by omega)]
     exact q2 _ H8 (Same.refl _) (.num _)
    ·have hP7:∃ o,H7 P_lead_at=some o:=by obtain⟨ps,h,_⟩:=id tq7;exact⟨_,h⟩
     obtain⟨o7,ho7⟩:=hP7;have eq:(b*A (jf i) q) % (p:Int) ^ d=(p:Int) ^ sf i:=by
      have:b*A (jf i) q=(p:Int) ^ sf i+(p:Int) ^ d*((p:Int) ^ sf i*t):=by rw[ek];grind
      rw[this,Int.add_mul_emod_self_left];exact Int.emod_eq_of_lt (by omega) (by omega)
     have sd:sf i<=d:=by
      rcases Nat.le_total (sf i) d with y | y
      ·exact y
      ·exact W1 (Int.le_of_dvd hps (pow_dvd_pow' (p:Int) y)) (by omega)
     refine qq (fun j=>(b*A (jf i) j) % (p:Int) ^ d) _ H8 (n7.trans (NewO.of g8)) (tq7.same g8) ⟨⟨sf i,sd,eq⟩,fun j hj=>?_,fun i' hi'=>by show (b*A (jf i) q) % (p:Int) ^ d ∣ _;rw[eq];exact dv i' hi',.inl ⟨jf i,hjk,b,fun j _=>rfl⟩⟩ (Rep.delN rr ho7 fun b hb=>n7.fresh ⟨o7,ho7⟩ hb)
     have h1:=Zb (b*A (jf i) j) (show (p:Int) ^ d≠0 by omega)
     have h2:=Za (b*A (jf i) j) hm0;exact⟨h1,Int.le_of_lt h2⟩
end
def rowsOf (k n:Nat)(A:Nat->Vc):List Vc:=(Yj k).map fun i=>cutn n (A i)
theorem mem_rows {k n:Nat}{A:Nat->Vc}{r:Vc}:r∈rowsOf k n A↔∃ i,i<k/\r=cutn n (A i):=by
 unfold rowsOf;rw[List.mem_map];exact⟨fun ⟨i,h,e⟩=>⟨i,List.mem_range.mp h,e.symm⟩,fun ⟨i,h,e⟩=>⟨i,List.mem_range.mpr h,e.symm⟩⟩
theorem cut_hi {n j:Nat}{v:Vc}(h:n<=j):cutn n v j=0:=Wu (by omega)
theorem cut_lo {n j:Nat}{v:Vc}(h:j<n):cutn n v j=v j:=Wv h
theorem tri_turn {n q k p d:Nat}{R:List Vc}{T:Nat->Vc}{A:Nat->Vc}{ld:Vc}(hp:2<=p)(hq:q<n)(h:Tri n R ((p:Int) ^ d) (q+1) T (rowsOf k n A))(L:IsLead k n A q p d ld):Tri n R ((p:Int) ^ d) q (fun i=>if i=q then cutn n ld else T i) (rowsOf (k+1) n (wol k A ld q ((p:Int) ^ d))):=by
 have m0:(0:Int)<(p:Int) ^ d:=Zx (by omega)
 obtain⟨s,hs,es⟩:=L.pw;have l0:(0:Int)<ld q:=by rw[es];exact Zx (by omega)
 have ht:(p:Int) ^ d / ld q*ld q=(p:Int) ^ d:=Int.ediv_mul_cancel (by rw[es];exact pow_dvd_pow' _ hs)
 have low:∀ i,i<k->∀ j,q+1<=j->j<n->A i j=0:=fun i hi j h1 h2=>by
  have:=h.low (cutn n (A i)) (mem_rows.mpr ⟨i,hi,rfl⟩) j h1
  rw[cut_lo h2] at this;exact this
 have lup:∀ j,q+1<=j->j<n->ld j=0:=fun j h1 h2=>by
  rcases L.src with ⟨i,hi,b,e⟩ | e
  ·rw[e j h2,low i hi j h1 h2,Y8,Int.zero_emod]
  ·rw[e j h2,Wu (by omega)]
 have dvq:∀ i,i<k->A i q / ld q*ld q=A i q:=fun i hi=>Int.ediv_mul_cancel (L.dv i hi)
 have w1:∀ i,i<k->∀ j,cutn n (A i) j=cutn n (wol k A ld q ((p:Int) ^ d) i) j+(A i q / ld q)*cutn n ld j+(p:Int) ^ d*cutn n (fun j=>(A i j - (A i q / ld q)*ld j) / (p:Int) ^ d) j:=fun i hi j=>by
  by_cases c:j<n
  ·rw[cut_lo c,cut_lo c,cut_lo c,cut_lo c]
   unfold wol;rw[Wv hi];have:=Zm (A i j - (A i q / ld q)*ld j) ((p:Int) ^ d)
   omega
  ·rw[cut_hi (by omega),cut_hi (by omega),cut_hi (by omega),cut_hi (by omega)];omega
 have w2:∀ j,((p:Int) ^ d / ld q)*cutn n ld j=cutn n (wol k A ld q ((p:Int) ^ d) k) j+(p:Int) ^ d*cutn n (fun j=>(((p:Int) ^ d / ld q)*ld j) / (p:Int) ^ d) j:=fun j=>by
  by_cases c:j<n
  ·rw[cut_lo c,cut_lo c,cut_lo c]
   unfold wol;rw[Wu (by omega)]
   have:=Zm (((p:Int) ^ d / ld q)*ld j) ((p:Int) ^ d)
   omega
  ·rw[cut_hi (by omega),cut_hi (by omega),cut_hi (by omega)];omega
 refine h.step hq (by omega) ?_ (fun j hj=>?_) (t:=(p:Int) ^ d / ld q) (by rw[cut_lo hq];exact ht) (fun r hr=>?_) ⟨_,mem_rows.mpr ⟨k,by omega,rfl⟩,_,w2⟩ (fun r' hr'=>?_) fun r' hr' j hj=>?_
 ·rcases L.src with ⟨i,hi,b,e⟩ | e
  ·refine ((h.sub _ (mem_rows.mpr ⟨i,hi,rfl⟩)).lin b Gq.zero).modl (z:=fun j=>-cutn n (fun j=>(b*A i j) / (p:Int) ^ d) j) (fun j hj=>cut_hi hj) fun j=>?_
   by_cases c:j<n
   ·rw[cut_lo c,cut_lo c,cut_lo c,e j c]
    have:=Zm (b*A i j) ((p:Int) ^ d)
    grind
   ·rw[cut_hi (by omega),cut_hi (by omega),cut_hi (by omega)];grind
  ·refine (Gq.unit hq).of fun j=>?_
   by_cases c:j<n
   ·rw[cut_lo c,e j c]
   ·rw[cut_hi (by omega),Wu (by omega)]
 ·by_cases c:j<n
  ·rw[cut_lo c];exact lup j hj c
  ·exact cut_hi (by omega)
 ·obtain⟨i,hi,rfl⟩:=mem_rows.mp hr
  exact⟨_,mem_rows.mpr ⟨i,by omega,rfl⟩,_,_,w1 i hi⟩
 ·obtain⟨i,hi,rfl⟩:=mem_rows.mp hr'
  by_cases c:i<k
  ·exact .inl ⟨_,mem_rows.mpr ⟨i,c,rfl⟩,_,_,w1 i c⟩
  ·obtain rfl:i=k:=by omega
   exact .inr ⟨_,w2⟩
 ·obtain⟨i,hi,rfl⟩:=mem_rows.mp hr'
  by_cases c:j<n
  ·rw[cut_lo c]
   unfold wol;by_cases ci:i<k
   ·rw[Wv ci]
    by_cases e:j=q
    ·rw[e,dvq i ci,Int.sub_self,Int.zero_emod]
    ·rw[low i ci j (by omega) c,lup j (by omega) c,Y8,Int.sub_zero,Int.zero_emod]
   ·rw[Wu ci]
    by_cases e:j=q
    ·rw[e,ht,Int.emod_self]
    ·rw[lup j (by omega) c,Y8,Int.zero_emod]
  ·exact cut_hi (by omega)
theorem tri_first {n k:Nat}{m:Int}{A:Nat->Vc}{T:Nat->Vc}:Tri n (rowsOf k n A) m n T (rowsOf k n fun i j=>A i j % m):=by
 have e:∀ i j,cutn n (A i) j=cutn n (fun j=>A i j % m) j+m*cutn n (fun j=>A i j / m) j:=fun i j=>by
  by_cases c:j<n
  ·rw[cut_lo c,cut_lo c,cut_lo c];exact (Zm _ _).symm
  ·rw[cut_hi (by omega),cut_hi (by omega),cut_hi (by omega)];omega
 refine .start (fun r hr=>?_) fun r hr=>?_
 ·obtain⟨i,hi,rfl⟩:=mem_rows.mp hr
  exact (Gq.mem (mem_rows.mpr ⟨i,hi,rfl⟩) fun j hj=>cut_hi hj).modl (z:=fun j=>-cutn n (fun j=>A i j / m) j) (fun j hj=>cut_hi hj) fun j=>by have:=e i j;grind
 ·obtain⟨i,hi,rfl⟩:=mem_rows.mp hr
  exact⟨_,mem_rows.mpr ⟨i,hi,rfl⟩,_,e i⟩
def spTri (K:FrQ)(Pp:Addr):Sp:=fun vs H Q _=>∃ (k n d p:Nat) (u:V) (A:Nat->Vc),vs=[u,.int (p:Int),.int (d:Int)]/\p∈PR/\Rep (del H Pp) Any u (mE k n A)/\1<=n/\n<=20/\1<=k/\k<=60/\1<=d/\d<=30/\TabQ qualL Pp H/\
 ∀ (T:Nat->Vc) (s:Nat->Nat) r H',NewO H Pp H'->TabQ qualL Pp H'->Stair n T->(∀ i,i<n->T i i=(p:Int) ^ s i/\s i<=d)->(∀ i j,i<n->j<n->0<=T i j/\T i j<=(p:Int) ^ d)->(∀ v,Gq (rowsOf k n A) ((p:Int) ^ d) n v↔InS n T v)->Rep (del H' Pp) (NewB H) r (mE n n T)->Q r H'
section
variable {P:Program} {w:World} {K:FrQ} {mg:Str->Option Value} {base:Heap}
theorem ok_triangular {P_lead_at:Addr}(B:Blt mg)(d_number_power:Dfn P w K mg base 1 "number_power" ["k","n"] spNumPow)(d_lead_at:Dfn P w K mg base 7 "lead_at" Lq16 (spLeadAt K P_lead_at))(d_without:Dfn P w K mg base 1 "without" Lq11 (spWol K))(F:Src K mg "triangular" s_triangular Lq25):Dfn P w K mg base 8 "triangular" Lq25 (spTri K P_lead_at):=by
 refine F.ok sc_triangular (fun vs H Q E h=>?_) (fun f cdv A outer s H vs Q E hr h=>?_)
 ·obtain⟨k,n,d,p,u,A,rfl,_⟩:=h;rfl
 obtain⟨k,n,d,p,u,A,rfl,hp,ru,hn1,hn,hk1,hk,hd1,hd,tq,qq⟩:=h;obtain⟨lA,us,rfl,hlA,_,C⟩:=id ru.cf;have hlA':=(del_inv hlA).2;have pp:=pr_pos hp;refine⟨_,pss_cons (ps_set (i:=3) sc_triangular.nd rfl (Or.inr rfl) (pe_def d_number_power hr (pa_cons (pv 1) (pa_cons (pv 2) pa_nil))))
  (pss_cons (ps_setC (i:=4) sc_triangular.nd rfl (Or.inl rfl) (compScope_mk (N:=["row","power"]) (sl:=[none,some 3]) (defScope s_triangular) Lq2 rfl rfl (by decide +kernel)) rfl (piK_list (K:=K) rfl (pv 0)) (fun _ _ _ _ _=>(pg_name (i:=0) (by show Yo (["row","power"]:List Str);decide +kernel) rfl (Or.inl rfl))) (fun _ _ _ _ _=>pif_none) (fun _ _ _ _ _=>(pe_comp (compScope_mk (N:=["number","power"]) (sl:=[none,some 1]) _ ["row","power"] rfl rfl (by kernel_rfl)) rfl (piK_list (K:=K) rfl (pv 0)) (fun _ _ _ _ _=>(pg_name (i:=0) (by show Yo (["number","power"]:List Str);decide +kernel) rfl (Or.inl rfl))) (fun _ _ _ _ _=>pif_none) (fun _ _ _ _ _=>(pe_op op_modN (pv 0) (pv 1))))))
  (pss_cons (ps_set (i:=5) sc_triangular.nd rfl (Or.inl rfl) (pe_lst pa_nil))
  (pss_cons (ps_for PassesOwn.never rfl (pi_revR rfl B.«reversed» (pa_cons (pe_range rfl B.«range» (pa_cons (pe_callB (callK_len (K:=K) rfl) rfl B.«len» bt_len (pa_cons (pe_ix (ixK_list (K:=K) rfl) (pv 0) pe_int (fun _ _=>rfl)) pa_nil)) pa_nil)) pa_nil)) (pg_name (i:=6) sc_triangular.nd rfl (Or.inl rfl))
   (pss_cons (ps_set (i:=7) sc_triangular.nd rfl (Or.inl rfl) (pe_def d_lead_at hr (pa_cons (pv 4) (pa_cons (pv 6) (pa_cons (pv 1) (pa_cons (pv 3) pa_nil))))))
   (pss_cons (ps_set (i:=4) sc_triangular.nd rfl (Or.inl rfl) (pe_def d_without hr (pa_cons (pv 4) (pa_cons (pv 7) (pa_cons (pv 6) (pa_cons (pv 3) pa_nil))))))
   (pss_one (ps_expr (pe_bm PySem.F.plainAttrs_list PySem.F.slot_list_append PySem.F.type_list_append mt_append (pv 5) (pa_cons (pv 7) pa_nil)))))))
  (pss_cons (ps_expr (pe_bm0 PySem.F.plainAttrs_list PySem.F.slot_list_reverse PySem.F.type_list_reverse mt_reverse (pv 5) ))
  (pss_one (ps_ret (pv 5))))))),?_⟩
 walk_at "rd"
 refine⟨p,d,rfl,by omega,by omega,?_⟩
 rw[We];have m0:(0:Int)<(p:Int) ^ d:=Zx (by omega)
 have bpd:=pd_bd hp hd;have hrow:∀ vx i,us[i]?=some vx->i<k/\∃ lr,vx=.ref lr/\H lr=some (.lst ((lv n (A i)).map V.int)):=fun vx i e=>by
  obtain⟨hi,ri⟩:=C.get e;obtain⟨lr,rfl,hlr,_⟩:=vs_rE ri;exact⟨hi,lr,rfl,(del_inv hlr).2⟩
 refine⟨_,rfl,lA,rfl,⟨_,SqL.of hlA'⟩,fun D hD=>?_⟩
 refine cmpL (fun i=>rE n fun j=>A i j % (p:Int) ^ d) (n:=k) C.len hlA' hD (by omega) (fun i vx H2 Q2 hi g2 hvx q2=>?_) fun H2 g2 rr=>?_
 ·obtain⟨_,lr,rfl,hlr⟩:=hrow vx i hvx
  refine⟨_,rfl,lr,rfl,⟨_,SqL.of (g2 _ _ hlr)⟩,fun D2 hD2=>?_⟩
  refine cmpL (fun j=>.num (A i j % (p:Int) ^ d)) (n:=n) (by rw[Ya,lv_len]) (g2 _ _ hlr) hD2 (by omega) (fun j vx H3 Q3 hj g3 hvx q3=>?_) fun H3 g3 rr=>q2 _ H3 g3 rr
  obtain⟨y1,hy1,rfl⟩:=map_int_get hvx;rw[lv_get hj] at hy1;cases hy1;refine⟨_,rfl,_,rfl,_,_,rfl,rfl,(show (p:Int) ^ d≠0 by omega),?_⟩
  show Q3 (V.int ((A i j).fmod ((p:Int) ^ d))) H3
  rw[Y3 _ (by omega)]
  exact q3 _ H3 (Same.refl _) (.num _)
 refine⟨len_ok rfl,fun tp htp=>?_⟩
 have k3:=same_new htp (.lst []);have g3:=g2.trans k3;have fT:H tp=none:=g2.free htp;obtain⟨ps,hPs,_⟩:=id tq;have tpP:tp≠P_lead_at:=fun z=>by rw[z,hPs] at fT;cases fT
 obtain⟨v0,hv0,_⟩:=C.at_ 0 (by omega)
 obtain⟨_,l0,rfl,hl0⟩:=hrow v0 0 hv0;have hat0:atI us 0=some (.ref l0):=atI_nat (j:=0) hv0;refine⟨_,rfl,lA,_,_,_,rfl,rfl,SqL.of (g3 _ _ hlA'),hat0,l0,_,rfl,.inl (SqL.of (g3 _ _ hl0)),?_⟩
 rw[Ya,lv_len];refine⟨_,rfl,fun p3 n3=>⟨p3,_,rfl,upd_same,by omega,by omega,?_⟩⟩
 have k4:=same_new n3 (.rng 0 (n:Int));have g4:=g3.trans k4;rw[Yk];have et4:=k4 _ _ (show L2.upd H2 tp (.lst []) tp=some (.lst []) from upd_same)
 have k34:=k3.trans k4;generalize L2.upd (L2.upd H2 tp (.lst [])) p3 (.rng 0 (n:Int))=H4 at k4 g4 et4 k34;refine for_down (fun i σ H5=>NewO H P_lead_at H5/\TabQ qualL P_lead_at H5/\∃ (lf:V) (ys:List V) (A' T:Nat->Vc) (s:Nat->Nat) (o1 o2:Option V),σ=[Rq lA,Iq (p),Iq (d),some (.int ((p:Int) ^ d)),some lf,Rq tp,o1,o2]/\Rep (del H5 P_lead_at) (·≠tp) lf (mE (k+i) n A')/\
   (∀ a j,a<k+i->j<n->0<=A' a j/\A' a j<(p:Int) ^ d)/\H5 tp=some (.lst ys)/\Cf (del H5 P_lead_at) (fun b=>H b=none/\b≠tp) ys i (fun t=>rE n (T (n - 1 - t)))/\Tri n (rowsOf k n A) ((p:Int) ^ d) (n - i) T (rowsOf (k+i) n A')/\(∀ a,n - i<=a->a<n->T a a=(p:Int) ^ s a/\s a<=d)/\∀ a j,n - i<=a->a<n->j<n->0<=T a j/\T a j<=(p:Int) ^ d)
  ⟨NewO.of g4,tq.same g4,_,[],_,fun _ _=>0,fun _=>0,_,_,rfl,?_,fun a j _ _=>⟨Zb _ (by omega),Za _ m0⟩,et4,.nil,tri_first,fun a h1 h2=>by omega,fun a j h1 h2=>by omega⟩ ?_ ?_
 ·exact rr.imp fun b u h kb=>⟨by rw[del_of (fun z=>by rw[z] at kb;rw[show H P_lead_at=none from kb] at hPs;cases hPs)];exact k34 b u h,ne_of_none h htp⟩
 ·rintro i σ H5 hi ⟨n5,tq5,lf,ys,A',T,s,o1,o2,rfl,rlf,rA,e5,Cy,tr,hpw,hT⟩
  obtain⟨q,hq⟩:∃ q,q+1+i=n:=⟨n - 1 - i,by omega⟩
  have hqn:q<n:=by omega
  have eq1:((n:Int) - 1 - (i:Int))=((q:Nat):Int):=by omega
  rw[show n - i=q+1 by omega] at tr hpw hT
  rw[eq1];refine⟨_,rfl,_,rfl,_,rfl,_,rfl,k+i,n,q,d,p,lf,A',rfl,hp,rlf.any,hqn,hn,by omega,by omega,hd1,hd,rA,tq5,fun ld r H6 n6 tq6 isl rr6=>?_⟩
  have m6:∃ o,H6 P_lead_at=some o:=by obtain⟨ps,h,_⟩:=id tq6;exact⟨_,h⟩
  have m5:∃ o,H5 P_lead_at=some o:=by obtain⟨ps,h,_⟩:=id tq5;exact⟨_,h⟩
  obtain⟨o6,ho6⟩:=m6;obtain⟨o5,ho5⟩:=m5;obtain⟨sq,hsq,esq⟩:=isl.pw;have l0:0<ld q:=by rw[esq];exact Zx (by omega)
  have bl:∀ j,j<n->Bd 8000 (ld j):=fun j hj=>by
   have:=isl.rng j hj
   exact (Bd.le (y:=(p:Int) ^ d) (by omega) bpd).mono (by decide)
  refine⟨_,rfl,_,rfl,_,rfl,_,rfl,k+i,n,q,lf,r,A',ld,(p:Int) ^ d,rfl,((rlf.same n6.del).any).same (del_same _ _),rr6.any.same (del_same _ _),hqn,by omega,by omega,m0,l0,bpd.mono (by decide),fun a j ha hj=>?_,bl,fun r2 H7 g7 rr7=>?_⟩
  ·have:=rA a j ha hj
   exact (Bd.le (y:=(p:Int) ^ d) (by omega) bpd).mono (by decide)
  have e6:=n6 tp _ tpP e5;have e7:=g7 _ _ e6;refine⟨_,rfl,.inl ⟨rfl,_,SqL.of e7⟩,_,rfl,tp,_,_,rfl,rfl,e7,by rw[Cy.len,sizeLine_eq];omega,?_⟩
  have n7:NewO H P_lead_at H7:=(n5.trans n6).trans (NewO.of g7);have n8:=n7.free_upd fT (.lst (ys++[r]));have up:∀ b u,b≠P_lead_at->b≠tp->H7 b=some u->del (L2.upd H7 tp (.lst (ys++[r]))) P_lead_at b=some u:=fun b u h1 h2 h3=>by rw[del_of h1,upd_ne h2];exact h3
  have tq8:TabQ qualL P_lead_at (L2.upd H7 tp (.lst (ys++[r]))):=by
   obtain⟨ps,h1,h2,h3⟩:=tq6.same g7;refine⟨ps,by rw[upd_ne (Ne.symm tpP)];exact h1,h2,fun pos=>(h3 pos).imp id fun ⟨c,a,b⟩=>⟨c,a,?_⟩⟩
   rw[upd_ne (fun z=>by rw[z,e7] at b;cases b)];exact b
  refine⟨n8,tq8,r2,ys++[r],wol (k+i) A' ld q ((p:Int) ^ d),fun a=>if a=q then cutn n ld else T a,fun a=>if a=q then sq else s a,_,_,rfl,?_,fun a j _ _=>?_,upd_same,?_,?_,fun a h1 h2=>?_,fun a j h1 h2 hj=>?_⟩
  ·exact rr7.imp fun b u h kb=>⟨up b u (fun z=>by rw[z] at kb;rw[show H6 P_lead_at=none from kb] at ho6;cases ho6) (fun z=>by rw[z] at kb;rw[show H6 tp=none from kb] at e6;cases e6) h,fun z=>by rw[z] at kb;rw[show H6 tp=none from kb] at e6;cases e6⟩
  ·unfold wol
   split
   ·exact⟨Zb _ (by omega),Za _ m0⟩
   ·exact⟨Zb _ (by omega),Za _ m0⟩
  ·refine Cf.push ((Cy.imp fun b u h kb=>⟨up b u (del_inv h).1 kb.2 (g7 _ _ (n6 b u (del_inv h).1 (del_inv h).2)),kb⟩).congr fun t ht=>?_) ?_
   ·show rE n (T (n - 1 - t))=rE n (if n - 1 - t=q then cutn n ld else T (n - 1 - t))
    rw[Wu (by omega)]
   ·show Rep _ _ r (rE n (if n - 1 - i=q then cutn n ld else T (n - 1 - i)))
    rw[Wv (by omega),rE_congr (w:=ld) fun j hj=>cut_lo hj]
    refine rr6.imp fun b u h kb=>⟨up b u (del_inv h).1 (fun z=>?_) (g7 _ _ (del_inv h).2),n5.fresh ⟨o5,ho5⟩ kb,fun z=>?_⟩
    ·rw[z] at kb;rw[show H5 tp=none from kb] at e5;cases e5
    ·rw[z] at kb;rw[show H5 tp=none from kb] at e5;cases e5
  ·rw[show n - (i+1)=q by omega]
   exact tri_turn (by omega) hqn tr isl
  ·by_cases c:a=q
   ·subst c
    refine⟨?_,by show (if a=a then sq else s a)<=d;rw[Wv rfl];exact hsq⟩
    show (if a=a then cutn n ld else T a) a=(p:Int) ^ (if a=a then sq else s a)
    rw[Wv rfl,Wv rfl,cut_lo h2];exact esq
   ·have:=hpw a (by omega) h2
    refine⟨?_,by show (if a=q then sq else s a)<=d;rw[Wu c];exact this.2⟩
    show (if a=q then cutn n ld else T a) a=(p:Int) ^ (if a=q then sq else s a)
    rw[Wu c,Wu c];exact this.1
  ·show 0<=(if a=q then cutn n ld else T a) j/\(if a=q then cutn n ld else T a) j<=_
   by_cases c:a=q
   ·rw[Wv c,cut_lo hj];exact isl.rng j hj
   ·rw[Wu c];exact hT a j (by omega) h2 hj
 ·rintro σ H5 ⟨n5,tq5,lf,ys,A',T,s,o1,o2,rfl,rlf,rA,e5,Cy,tr,hpw,hT⟩
  rw[Wi] at tr hpw hT;refine⟨_,rfl,.inl ⟨rfl,_,SqL.of e5⟩,tp,_,rfl,rfl,e5,⟨_,rfl,?_⟩⟩
  have n6:=n5.free_upd fT (.lst ys.reverse);have tq6:TabQ qualL P_lead_at (L2.upd H5 tp (.lst ys.reverse)):=by
   obtain⟨ps,h1,h2,h3⟩:=tq5;refine⟨ps,by rw[upd_ne (Ne.symm tpP)];exact h1,h2,fun pos=>(h3 pos).imp id fun ⟨c,a,b⟩=>⟨c,a,?_⟩⟩
   rw[upd_ne (fun z=>by rw[z,e5] at b;cases b)];exact b
  refine qq T s _ _ n6 tq6 ⟨fun a ha j hj=>tr.tri a (by omega) ha j hj,fun a ha=>?_⟩ (fun a ha=>hpw a (by omega) ha) (fun a j ha hj=>hT a j (by omega) ha hj) (fun v=>tr.done) ?_
  ·rw[(hpw a (by omega) ha).1]
   exact Int.ne_of_gt (Zx (by omega))
  ·have c1:Cf (del (L2.upd H5 tp (.lst ys.reverse)) P_lead_at) (NewB H) ys.reverse n fun i=>rE n (T i):=by
    refine Cf.congr (Cf.rev (Cy.imp fun b u h kb=>⟨by rw[del_of (del_inv h).1,upd_ne kb.2];exact (del_inv h).2,kb.1⟩)) fun a ha=>?_
    show rE n (T (n - 1 - (n - 1 - a)))=_
    rw[show n - 1 - (n - 1 - a)=a by omega]
   exact c1.rep (by rw[del_of tpP];exact upd_same) fT
end
section
variable {R:Type} [Lean.Grind.CommRing R]
theorem zc_sm {k:Nat}{x:Vc}{A:Nat->Vc}{j:Nat}:zc R (sm k x A j)=sm k (fun i=>zc R (x i)) (fun i j=>zc R (A i j)) j:=by
 induction k with
 | zero=>exact zc_zero
 | succ k ih=>
  show zc R (sm k x A j+x k*A k j)=sm k _ _ j+zc R (x k)*zc R (A k j)
  rw[zc_add,zc_mul,ih]
end
theorem zc_p {p:Nat}(hp:p∈PR){x:Int}:zc (ground p hp).α x=0↔(p:Int) ∣ x:=by
 have hz:zc (ground p hp).α (p:Int)=0:=by rw[zc_nat];exact (ground p hp).ch
 constructor
 ·intro h
  refine Classical.byContradiction fun nd=>?_
  obtain⟨u,v,e⟩:=bez_pow hp nd 1;have e2:zc (ground p hp).α (u*x+v*(p:Int) ^ 1)=1:=by rw[e,zc_one]
  rw[Y5,Y9,Zg,zc_add,zc_mul,zc_mul,h,hz] at e2;refine (ground p hp).fld.1 ?_
  rw[<- e2];grind
 ·rintro⟨c,rfl⟩
  rw[zc_mul,hz];grind
theorem zr_zc {p:Nat}(hp:p∈PR){m:Nat}{l:List Int}(h:Rw p m l)(j:Nat):zr hp l j=zc (ground p hp).α (l.getD j 0):=by
 have:=(h.get j).1
 show nt (ground p hp).α (l.getD j 0).toNat=_
 rw[<- zc_nat,Zs this]
theorem zc_on {p:Nat}(hp:p∈PR)(a:(ground p hp).α):∃ k:Int,zc (ground p hp).α k=a:=⟨(zv (T:=ground p hp) a:Int),by rw[zc_nat];exact nt_zv (T:=ground p hp) a⟩
def kRow (W:Nat)(l:List Int):Vc:=fun i=>l.getD (W+i) 0
theorem kern_int {p:Nat}(hp:p∈PR){W k:Nat}{A:Nat->Vc}(rng:∀ i j,i<k->j<W->0<=A i j/\A i j<(p:Int)){S:List (List Int)}(hS:∀ l∈S,Rw p (W+k) l)(hK:Krn W k (fun r j=>zr hp (((Yj k).map fun i=>lv W (A i)).getD r []) j) W (S.map (zr hp))):
  (∀ l∈S,∀ j,j<W->(p:Int) ∣ sm k (kRow W l) A j)/\∀ x:Vc,(∀ j,j<W->(p:Int) ∣ sm k x A j)->∃ v z:Vc,Spn (S.map (kRow W)) v/\∀ i,i<k->x i=v i+(p:Int)*z i:=by
 have er:∀ i j,i<k->j<W->zr hp (((Yj k).map fun i=>lv W (A i)).getD i []) j=zc (ground p hp).α (A i j):=fun i j hi hj=>by
  have e1:((Yj k).map fun i=>lv W (A i)).getD i []=lv W (A i):=by rw[Yb,Ye,Yu hi];rfl
  have h:Rw p W (lv W (A i)):=⟨lv_len _ _,fun x hx=>by
   unfold lv at hx;obtain⟨j,hj,rfl⟩:=List.mem_map.mp hx;exact rng i j hi (List.mem_range.mp hj)⟩
  rw[e1,zr_zc hp h,Yb,lv_get hj];rfl
 obtain⟨d1,d2⟩:=hK.done;refine⟨fun l hl j hj=>?_,fun x hx=>?_⟩
 ·have:=d1 _ (List.mem_map.mpr ⟨l,hl,rfl⟩) j hj
  rw[sm_congr (d':=fun i=>zc (ground p hp).α (kRow W l i)) (R':=fun i j=>zc (ground p hp).α (A i j)) (fun i _=>zr_zc hp (hS l hl) (W+i)) (fun i hi=>er i j hi hj),<- zc_sm] at this
  exact (zc_p hp).mp this
 ·obtain⟨v,hv,ev⟩:=d2 (fun i=>zc (ground p hp).α (x i)) fun j hj=>by
   rw[sm_congr (d':=fun i=>zc (ground p hp).α (x i)) (R':=fun i j=>zc (ground p hp).α (A i j)) (fun i _=>rfl) (fun i hi=>er i j hi hj),<- zc_sm]
   exact (zc_p hp).mpr (hx j hj)
  have lift:∀ {v:Nat->(ground p hp).α},Spn (S.map (zr hp)) v->∃ u:Vc,Spn (S.map (kRow W)) u/\∀ i,v (W+i)=zc (ground p hp).α (u i):=by
   intro v hv;induction hv with
   | zero=>exact⟨_,.zero,fun i=>zc_zero.symm⟩
   | @add r v a hr _ ih=>
    obtain⟨l,hl,rfl⟩:=List.mem_map.mp hr;obtain⟨u,hu,eu⟩:=ih;obtain⟨k',rfl⟩:=zc_on hp a;refine⟨_,.add k' (List.mem_map.mpr ⟨l,hl,rfl⟩) hu,fun i=>?_⟩
    show zc _ k'*zr hp l (W+i)+v (W+i)=zc _ (k'*kRow W l i+u i)
    rw[zc_add,zc_mul,eu i,zr_zc hp (hS l hl)];rfl
  obtain⟨u,hu,eu⟩:=lift hv;have hz:∀ i,∃ z:Int,i<k->x i=u i+(p:Int)*z:=fun i=>by
   by_cases c:i<k
   ·have e:zc (ground p hp).α (x i+-u i)=0:=by rw[zc_add,zc_neg,<- ev i c,<- eu i];grind
    obtain⟨z,hz⟩:=(zc_p hp).mp e;exact⟨z,fun _=>by omega⟩
   ·exact⟨0,fun h=>W1 h c⟩
  obtain⟨z,hz⟩:=Classical.axiomOfChoice hz;exact⟨u,z,hu,hz⟩
theorem Stair.bnd {n b e:Nat}{T:Nat->Vc}(hT:Stair n T)(bT:∀ i j,i<n->j<n->Bd e (T i j)){c:Vc}(hb:∀ j,j<n->Bd b (sm n c T j)):∀ i,i<n->Bd (b+(e+1)*n) (c i):=by
 have key:∀ m k,k+m=n->(∀ j,j<n->Bd (b+(e+1)*m) (sm k c T j))/\∀ i,k<=i->i<n->Bd (b+(e+1)*n) (c i):=by
  intro m;induction m with
  | zero=>
   intro k hk;obtain rfl:k=n:=by omega
   exact⟨fun j hj=>(hb j hj).mono (by omega),fun i h1 h2=>by omega⟩
  | succ m ih=>
   intro k hk;obtain⟨h1,h2⟩:=ih (k+1) (by omega)
   have e1:=h1 k (by omega)
   rw[hT.at_ c (by omega)] at e1
   have ck:Bd (b+(e+1)*m) (c k):=by
    refine Bd.le ?_ e1
    rw[Zf];exact Nat.le_mul_of_pos_right _ (by have:=hT.nz k (by omega);omega)
   refine⟨fun j hj=>?_,fun i hi hn=>?_⟩
   ·have e2:sm k c T j=sm (k+1) c T j - c k*T k j:=by show _=sm k c T j+c k*T k j - c k*T k j;omega
    rw[e2];refine ((h1 j hj).sub (ck.mul (bT k j (by omega) hj))).mono ?_
    rw[Wp];omega
   ·by_cases c1:i=k
    ·rw[c1]
     refine ck.mono ?_
     have:(e+1)*m<=(e+1)*n:=Zr _ (by omega)
     omega
    ·exact h2 i (by omega) hn
 exact fun i hi=>(key n 0 (by omega)).2 i (Y7 _) hi
theorem tk_bd {f:Fn}{n a:Nat}(hf:∀ j,Bd a (f j)):∀ k j,Bd (1+k*(a+1)) (tk f n k j)
 | 0,j=>by
  show Bd _ (if j=0 then 1 else 0)
  split
  ·show Wk 1<2 ^ _;rw[Nat.zero_mul];decide
  ·show Wk 0<2 ^ _;rw[Nat.zero_mul];decide
 | k+1,j=>by
  show Bd _ ((if j=0 then 0 else tk f n k (j - 1)) - tk f n k (n - 1)*f j)
  have h1:Bd (1+k*(a+1)) (if j=0 then 0 else tk f n k (j - 1)):=by
   split
   ·exact Zw (by decide)
   ·exact tk_bd hf k (j - 1)
  refine (h1.sub ((tk_bd hf k (n - 1)).mul (hf j))).mono ?_
  rw[Wg];omega
theorem pr2_bd {f:Fn}{n a b:Nat}{u v:Vc}(hn:n<=6)(hf:∀ j,Bd a (f j))(hu:∀ j,j<n->Bd b (u j))(hv:∀ j,j<n->Bd b (v j))(k:Nat):Bd (b+(b+(1+10*(a+1))+3)+3) (pr2 f n u v k):=by
 unfold pr2;refine bd_sm (k:=3) (by omega) hu fun i hi=>bd_sm (k:=3) (by omega) hv fun j hj=>(tk_bd hf (i+j) k).mono ?_
 have:(i+j)*(a+1)<=10*(a+1):=Y1 _ (by omega)
 omega
section
variable {R:Type} [Lean.Grind.CommRing R] {n p:Nat} {el:Vc->R} {c:Nat->Nat->Vc}
theorem tmb_cp (Ba:Bas n el)(h:SubR (Of el))(hc:∀ i j,i<n->j<n->el (un i)*el (un j)=el (c i j))(x y:Vc):Cp (Of el) (nt R p) (el (tmb n c (p:Int) x y)) (el x*el y):=by
 refine Cp.symm h ⟨el fun k=>sm n x (fun i k=>sm n y (c i) k) k / (p:Int),⟨_,rfl⟩,?_⟩
 rw[Ba.mul hc,<- zc_nat];have:=Ba.lin (p:Int) (fun k=>sm n x (fun i k=>sm n y (c i) k) k / (p:Int)) (tmb n c (p:Int) x y)
 rw[show (fun j=>(p:Int)*(sm n x (fun i k=>sm n y (c i) k) j / (p:Int))+tmb n c (p:Int) x y j)=fun k=>sm n x (fun i k=>sm n y (c i) k) k from funext fun j=>by
  have:=Zm (sm n x (fun i k=>sm n y (c i) k) j) (p:Int)
  unfold tmb;omega] at this
 rw[this];grind
theorem pwb_cp (Ba:Bas n el)(h:SubR (Of el))(hc:∀ i j,i<n->j<n->el (un i)*el (un j)=el (c i j))(x:Vc):∀ m,Cp (Of el) (nt R p) (el (pwb n c (p:Int) x m)) (el x ^ (m+1))
 | 0=>by
  have:el x ^ (0+1)=el x:=by rw[pw_succ,pw_zero];grind
  rw[this];exact .refl h _
 | m+1=>by
  refine (tmb_cp Ba h hc _ x).trans h ?_
  rw[pw_succ (el x) (m+1)];exact .mul h (h.pow ⟨_,rfl⟩ _) ⟨_,rfl⟩ (pwb_cp Ba h hc x m) (.refl h _)
theorem rsd_cp (hp:p∈PR)(Ba:Bas n el)(h:SubR (Of el))(hc:∀ i j,i<n->j<n->el (un i)*el (un j)=el (c i j))(i:Nat):∀ k,Cp (Of el) (nt R p) (el (rsd n c p k i)) (el (un i) ^ (p ^ k))
 | 0=>by
  have:el (un i) ^ (p ^ 0)=el (un i):=by rw[Nat.pow_zero,show (1:Nat)=0+1 from rfl,pw_succ,pw_zero];grind
  rw[this];exact .refl h _
 | k+1=>by
  have pp:=pr_pos hp;refine (pwb_cp Ba h hc (rsd n c p k i) (p - 1)).trans h ?_
  rw[show p - 1+1=p by omega,Z5,pw_mul]
  exact (rsd_cp hp Ba h hc i k).pow h ⟨_,rfl⟩ (h.pow ⟨_,rfl⟩ _) p
end
theorem rE_eN (n:Nat)(v:Vc):rE n v=eN (lv n v):=by
 unfold rE vecN eN lv;rw[Wq];rfl
theorem mE_list (r c:Nat)(A:Nat->Vc):mE r c A=.vec (((Yj r).map fun i=>lv c (A i)).map eN):=by
 unfold mE vecN;rw[Wq];congr 1
 exact Wb fun i _=>rE_eN c (A i)
theorem ker_rep {p W k:Nat}{S:List (List Int)}(hS:∀ l∈S,Rw p (W+k) l):El.vec (S.map fun l=>eN (l.drop W))=mE S.length k fun t=>kRow W (S.getD t []):=by
 rw[mE_list];congr 1
 refine Zi fun t=>?_
 rw[Ye,Ye,Ye];by_cases ht:t<S.length
 ·rw[Yu ht,Yc ht]
  show some (eN (S[t].drop W))=some (eN (lv k (kRow W (S.getD t []))))
  have e:S.getD t []=S[t]:=by rw[Yb,Yc ht];rfl
  have hl:=(hS _ (Yw ht)).1;rw[e];congr 2
  refine Zi fun i=>?_
  by_cases hi:i<k
  ·rw[lv_get hi,List.getElem?_drop]
   show _=some (S[t].getD (W+i) 0)
   rw[Yb,Yc (by omega)];rfl
  ·rw[List.getElem?_eq_none_iff.mpr (by rw[Yz];omega),List.getElem?_eq_none_iff.mpr (by rw[lv_len];omega)]
 ·rw[List.getElem?_eq_none_iff.mpr (by omega),List.getElem?_eq_none_iff.mpr (by rw[Yg];omega)];rfl
theorem rows_ker {p W k:Nat}{S:List (List Int)}(hS:∀ l∈S,Rw p (W+k) l):rowsOf S.length k (fun t=>kRow W (S.getD t []))=S.map (kRow W):=by
 refine Zi fun t=>?_
 unfold rowsOf;rw[Ye,Ye];by_cases ht:t<S.length
 ·rw[Yu ht,Yc ht]
  show some (cutn k (kRow W (S.getD t [])))=some (kRow W S[t])
  have e:S.getD t []=S[t]:=by rw[Yb,Yc ht];rfl
  have hl:=(hS _ (Yw ht)).1;rw[e];congr 1
  funext i
  by_cases hi:i<k
  ·exact cut_lo hi
  ·rw[cut_hi (by omega)]
   show 0=S[t].getD (W+i) 0
   rw[Yb,List.getElem?_eq_none_iff.mpr (by omega)];rfl
 ·rw[List.getElem?_eq_none_iff.mpr (by rw[Yg];omega),List.getElem?_eq_none_iff.mpr (by omega)];rfl
theorem ker_rng {p W k:Nat}{S:List (List Int)}(hS:∀ l∈S,Rw p (W+k) l){t i:Nat}(ht:t<S.length)(hi:i<k):0<=kRow W (S.getD t []) i/\kRow W (S.getD t []) i<(p:Int):=by
 have e:S.getD t []=S[t]:=by rw[Yb,Yc ht];rfl
 have hl:=hS _ (Yw ht);rw[e];have hg:S[t][W+i]?=some (S[t].getD (W+i) 0):=by rw[Yb,Yc (by rw[hl.1];omega)];rfl
 exact hl.2 _ (Yv hg)
theorem sm_mod {p:Int}{n:Nat}{x:Vc}{A B:Nat->Vc}{j:Nat}(h:∀ i,i<n->p ∣ A i j - B i j):p ∣ sm n x A j - sm n x B j:=by
 induction n with
 | zero=>exact⟨0,by show (0:Int) - 0=p*0;omega⟩
 | succ n ih=>
  obtain⟨a,ha⟩:=ih fun i hi=>h i (by omega)
  obtain⟨b,hb⟩:=h n (by omega)
  refine⟨a+x n*b,?_⟩
  show sm n x A j+x n*A n j - (sm n x B j+x n*B n j)=_
  grind
section
variable {R:Type} [Lean.Grind.CommRing R]
structure AlgT (n p:Nat)(el:Vc->R)(ip:R)(c:Nat->Nat->Vc):Prop where
 bas:Bas n el
 sub:SubR (Of el)
 mul:∀ i j,i<n->j<n->el (un i)*el (un j)=el (c i j)
 inv:nt R p*ip=1
structure MulOk (n p:Nat)(el:Vc->R)(ip:R)(d m:Nat)(N:Nat->Vc):Prop where
 le:m<=50
 rng:∀ t i,t<m->i<n->0<=N t i/\N t i<(p:Int)
 nz:∀ t,t<m->∃ i,i<n/\N t i≠0
 mlt:∀ t,t<m->Mlt (Of el) (nt R p) (p ^ d) (ip*el (N t))
 all:∀ x,Mlt (Of el) (nt R p) (p ^ d) (ip*el x)->∃ v z:Vc,Spn (rowsOf m n N) v/\∀ i,i<n->x i=v i+(p:Int)*z i
variable {n p d:Nat} {el:Vc->R} {ip:R} {c:Nat->Nat->Vc}
theorem ideal_ok (hp:p∈PR)(G:AlgT n p el ip c){told:Nat->Vc}(ht:∀ i,i<n->Cp (Of el) (nt R p) (el (told i)) (el (un i) ^ (p ^ d))){m0:Nat}{N:Nat->Vc}(k1:∀ t,t<m0->∀ j,j<n->(p:Int) ∣ sm n (N t) told j)
  (k2:∀ x:Vc,(∀ j,j<n->(p:Int) ∣ sm n x told j)->∃ v z:Vc,Spn (rowsOf m0 n N) v/\∀ i,i<n->x i=v i+(p:Int)*z i) {x:Vc} (x0:∀ j,n<=j->x j=0):Gq (rowsOf m0 n N) ((p:Int) ^ 1) n x↔Idl (Of el) (nt R p) (p ^ d) (el x):=by
 have e1:(p:Int) ^ 1=(p:Int):=by rw[Y5,Y9,Zg]
 have hq:1<=p ^ d:=Zw (pr_one hp);rw[e1];constructor
 ·rintro⟨_,u,z,hu,e⟩
  have iu:Idl (Of el) (nt R p) (p ^ d) (el u):=by
   clear e;induction hu with
   | zero=>rw[G.bas.zero];exact .zero G.sub hq
   | @add r v a hr _ ih=>
    obtain⟨t,ht',rfl⟩:=mem_rows.mp hr;rw[G.bas.lin];refine Idl.add G.sub hp (Idl.mul G.sub ?_ (G.sub.zc a)) ih
    rw[G.bas.sup _ (N t) fun j hj=>cut_lo hj]
    exact (G.bas.idl G.sub hp ht _).mpr (k1 t ht')
  have e2:el x=zc R (p:Int)*el z+el u:=by
   rw[<- G.bas.lin];exact G.bas.sup _ _ fun j _=>by rw[e j];omega
  rw[e2,zc_nat];exact (Idl.own G.sub hq (G.sub.nt p) ⟨z,rfl⟩).add G.sub hp iu
 ·intro h
  obtain⟨v,z,hv,e⟩:=k2 x ((G.bas.idl G.sub hp ht x).mp h);have v0:∀ j,n<=j->v j=0:=fun j hj=>hv.nought fun r hr=>by
   obtain⟨t,_,rfl⟩:=mem_rows.mp hr;exact cut_hi hj
  exact⟨x0,v,cutn n z,hv,fun j=>by
   by_cases cj:j<n
   ·rw[cut_lo cj];exact e j cj
   ·rw[cut_hi (by omega),x0 j (by omega),v0 j (by omega)];omega⟩
theorem mul_none (hp:p∈PR)(G:AlgT n p el ip c){told:Nat->Vc}(ht:∀ i,i<n->Cp (Of el) (nt R p) (el (told i)) (el (un i) ^ (p ^ d)))(k2:∀ x:Vc,(∀ j,j<n->(p:Int) ∣ sm n x told j)->∃ z:Vc,∀ i,i<n->x i=(p:Int)*z i)(N:Nat->Vc):MulOk n p el ip d 0 N:=by
 refine⟨by decide,fun t i h=>by omega,fun t h=>by omega,fun t h=>by omega,fun x hx=>?_⟩
 have h1:=hx.2 _ (Idl.own G.sub (Zw (pr_one hp)) (G.sub.nt p) G.sub.one);have inv:=G.inv;rw[show ip*el x*(nt R p*1)=el x by grind] at h1
 obtain⟨z,hz⟩:=k2 x ((G.bas.idl G.sub hp ht x).mp h1);exact⟨_,z,.zero,fun i hi=>by rw[hz i hi];omega⟩
end
theorem fl_mE {r c:Nat}{A:Nat->Vc}(h:r<=100)(k:c<=100):FlE 2 (mE r c A):=.vec (by rw[Ya,Yg];exact h) fun e he=>by
 obtain⟨i,_,rfl⟩:=List.mem_map.mp he;exact fl_rE k
theorem lv_cat {n j:Nat}{u v:Vc}(h:∀ k,k<n->u (n*j+k)=v k):lv (n*j) u++lv n v=lv (n*(j+1)) u:=by
 refine Zi fun q=>?_
 have e:n*(j+1)=n*j+n:=Wp n j;by_cases c1:q<n*j
 ·rw[Y2 (by rw[lv_len];exact c1),lv_get c1,lv_get (by omega)]
 ·rw[Y0 (by rw[lv_len];omega),lv_len]
  by_cases c2:q<n*j+n
  ·rw[lv_get (by omega),lv_get (by omega),<- h (q - n*j) (by omega),show n*j+(q - n*j)=q by omega]
  ·rw[List.getElem?_eq_none_iff.mpr (by rw[lv_len];omega),List.getElem?_eq_none_iff.mpr (by rw[lv_len];omega)]
def spMult (K:FrQ)(Pp:Addr):Sp:=fun vs H Q _=>∃ (n p:Nat) (R:Type) (_:Lean.Grind.CommRing R) (el:Vc->R) (ip:R) (c:Nat->Nat->Vc) (t:V),vs=[t,.int (p:Int)]/\p∈PR/\Rep (del H Pp) Any t (tE n n n c)/\1<=n/\n<=6/\(∀ i j k,i<n->j<n->k<n->Bd 60000 (c i j k))/\AlgT n p el ip c/\TabQ qualL Pp H/\
 ∀ (d m:Nat) (N:Nat->Vc) r H',NewO H Pp H'->TabQ qualL Pp H'->MulOk n p el ip d m N->Rep (del H' Pp) (NewB H) r (mE m n N)->Q r H'
section
variable {P:Program} {w:World} {K:FrQ} {mg:Str->Option Value} {base:Heap}
theorem ok_multipliers {P_lead_at:Addr}(B:Blt mg)(d_raised:Dfn P w K mg base 4 "raised" Lq35 (spRaised K))(d_kernel:Dfn P w K mg base 2 "kernel" ["rows","p"] spKernel)(d_triangular:Dfn P w K mg base 8 "triangular" Lq25 (spTri K P_lead_at))(d_coordinates:Dfn P w K mg base 1 "coordinates" Lq30 (spCoords K))(d_summed:Dfn P w K mg base 1 "summed" Lq29 (spSummed K))(F:Src K mg "multipliers" s_multipliers Lq35):Dfn P w K mg base 9 "multipliers" Lq35 (spMult K P_lead_at):=by
 refine F.ok sc_multipliers (fun vs H Q E h=>?_) (fun f cdv A outer s H vs Q E hr h=>?_)
 ·obtain⟨n,p,R,_,el,ip,c,t,rfl,_⟩:=h;rfl
 obtain⟨n,p,R,_,el,ip,c,t,rfl,hp,rt,hn1,hn,bc,G,tq,qq⟩:=h;have pp:=pr_pos hp;obtain⟨lt,us,rfl,hlt,_,C⟩:=id rt.cf;have hlt':=(del_inv hlt).2;refine⟨_,pss_cons (ps_set (i:=2) sc_multipliers.nd rfl (Or.inl rfl) (pe_def d_kernel hr (pa_cons (pe_def d_raised hr (pa_cons (pv 0) (pa_cons (pv 1) pa_nil))) (pa_cons (pv 1) pa_nil))))
  (pss_cons (ps_if (pt_cmpR (opK_eqD (K:=K) rfl hr.units) (pv 2) (pe_lst pa_nil) (nomark _))
   (pss_one (ps_ret (pe_lst pa_nil)))
   (pss_nil))
  (pss_cons (ps_set (i:=3) sc_multipliers.nd rfl (Or.inl rfl) (pe_def d_triangular hr (pa_cons (pv 2) (pa_cons (pv 1) (pa_cons pe_int pa_nil)))))
  (pss_cons (ps_set (i:=4) sc_multipliers.nd rfl (Or.inl rfl) (pe_lst pa_nil))
  (pss_cons (ps_for PassesOwn.never rfl (piK_list (K:=K) rfl (pv 0)) (pg_name (i:=5) sc_multipliers.nd rfl (Or.inl rfl))
   (pss_cons (ps_set (i:=6) sc_multipliers.nd rfl (Or.inl rfl) (pe_lst pa_nil))
   (pss_cons (ps_for PassesOwn.never rfl (piK_list (K:=K) rfl (pv 3)) (pg_name (i:=7) sc_multipliers.nd rfl (Or.inl rfl))
    (pss_one (ps_set (i:=6) sc_multipliers.nd rfl (Or.inl rfl) (pe_op op_cat (pv 6) (pe_comp (compScope_mk (N:=Lq33) (sl:=[none,some 1]) (defScope s_multipliers) Lq4 rfl rfl (by decide +kernel)) rfl (piK_list (K:=K) rfl (pe_def d_coordinates hr (pa_cons (pv 3) (pa_cons (pe_def d_summed hr (pa_cons (pv 7) (pa_cons (pv 5) pa_nil))) pa_nil)))) (fun _ _ _ _ _=>(pg_name (i:=0) (by show Yo (Lq33:List Str);decide +kernel) rfl (Or.inl rfl))) (fun _ _ _ _ _=>pif_none) (fun _ _ _ _ _=>(pe_op op_modN (pv 0) (pv 1))))))))
   (pss_one (ps_expr (pe_bm PySem.F.plainAttrs_list PySem.F.slot_list_append PySem.F.type_list_append mt_append (pv 4) (pa_cons (pv 6) pa_nil)))))))
  (pss_one (ps_ret (pe_def d_kernel hr (pa_cons (pv 4) (pa_cons (pv 1) pa_nil))))))))),?_⟩
 walk_at "rd"
 have rtH:Rep H Any (.ref lt) (tE n n n c):=rt.same (del_same _ _);refine⟨n,p,.ref lt,c,rfl,rtH,hn1,by omega,by omega,by omega,fun i j k hi hj hk=>(bc i j k hi hj hk).mono (by decide),fun k1 r1 H1 _ g1 rr1=>?_⟩
 have lR:((Yj n).map fun i=>lv n (rsd n c p k1 i)).length=n:=by rw[Ya,Yg]
 refine⟨_,rfl,p,hp,n,r1,(Yj n).map fun i=>lv n (rsd n c p k1 i),rfl,by rw[<- mE_list];exact rr1.any,by rw[lR];exact hn1,by rw[lR];omega,by omega,fun a ha=>?_,fun S r2 H2 g2 hS lS nzS kS rr2=>?_⟩
 ·obtain⟨i,_,rfl⟩:=List.mem_map.mp ha
  refine⟨lv_len _ _,fun x hx=>?_⟩
  obtain⟨j,_,rfl⟩:=List.mem_map.mp hx;exact rsd_rng (by omega) k1
 rw[lR] at hS nzS kS;obtain⟨km1,km2⟩:=kern_int hp (W:=n) (k:=n) (A:=rsd n c p k1) (fun i j _ _=>rsd_rng (by omega) k1) hS kS
 rw[ker_rep hS] at rr2;rw[<- rows_ker hS] at km2;have ht:=fun i (_:i<n)=>rsd_cp hp G.bas G.sub G.mul i k1
 have km1':∀ t,t<S.length->∀ j,j<n->(p:Int) ∣ sm n (kRow n (S.getD t [])) (rsd n c p k1) j:=fun t ht'=>km1 _ (by rw[Yb,Yc ht'];exact Yw ht')
 have idk:=fun {x:Vc} x0=>ideal_ok hp G ht km1' km2 (x:=x) x0
 have g12:=g1.trans g2;refine⟨_,rfl,len_ok rfl,fun pe npe=>?_⟩
 have k3:=same_new npe (.lst []);have epe:(L2.upd H2 pe (.lst [])) pe=some (.lst []):=upd_same;have g13:=g12.trans k3;generalize L2.upd H2 pe (.lst [])=H3 at k3 epe g13;have rr3:=rr2.same k3;have tq1:=tq.same g1;have tq3:=tq.same g13;obtain⟨ps1,hP1,_⟩:=id tq1;obtain⟨ps3,hP3,_⟩:=id tq3;have rnil:Rep H3 Any (.ref pe) (.vec []):=.vec epe trivial rfl fun i v e h=>by simp at h
 refine eqRep rr3 rnil (fl_mE (by omega) (by omega)) (.vec (n:=1) (by decide) fun e he=>by simp at he) (by decide) (by decide) (fun e=>?_) (fun e=>?_)
 ·have s0:S.length=0:=by
   unfold mE vecN at e;injection e with e
   have:=Wz Wr e
   rw[Ya,Yg] at this;exact this
  refine⟨_,rfl,iteT ⟨len_ok rfl,fun p4 n4=>?_⟩⟩
  have k4:=same_new n4 (.lst []);refine qq k1 0 (fun _ _=>0) _ _ (NewO.of (g13.trans k4)) (tq3.same k4) (mul_none hp G ht (fun x hx=>?_) _) ?_
  ·obtain⟨v,z,hv,ev⟩:=km2 x hx
   rw[s0] at hv;have v0:∀ j,v j=0:=fun j=>hv.nought fun r hr=>by
    obtain⟨t,ht,_⟩:=mem_rows.mp hr;omega
   exact⟨z,fun i hi=>by rw[ev i hi,v0 i];omega⟩
  ·exact Rep.delN (H1:=H3) (.vec upd_same (show H3 p4=none from n4) rfl fun i v e h=>by simp at h) hP3 fun b hb=>g13.free hb
 ·have s1:1<=S.length:=by
   rcases Nat.eq_zero_or_pos S.length with y | y
   ·exact W1 (by unfold mE vecN;rw[y];rfl) e
   ·exact y
  refine⟨_,rfl,iteF ?_⟩
  refine⟨_,rfl,_,rfl,S.length,n,1,p,r2,fun t=>kRow n (S.getD t []),rfl,hp,Rep.any (Rep.delN (H0:=H1) rr3 hP1 fun b hb=>hb),hn1,by omega,s1,by omega,Yd 1,by decide,tq3,fun Vm sV r4 H4 n4 tq4 stV pwV rV gqV rr4=>?_⟩
  obtain⟨ps4,hP4,_⟩:=id tq4;have n04:NewO H P_lead_at H4:=(NewO.of g13).trans n4;have rt4:Rep H4 Any (.ref lt) (tE n n n c):=(rt.same n04.del).same (del_same _ _);have rI4:Rep H4 Any r4 (mE n n Vm):=rr4.any.same (del_same _ _);clear rt4 C hlt hlt';have rt4:Rep H4 Any (.ref lt) (tE n n n c):=(rt.same n04.del).same (del_same _ _);obtain⟨lt',us,elt,hlt,_,C⟩:=id rt4.cf;cases elt;obtain⟨la,vs4,rfl,hla,_,CI⟩:=id rI4.cf;have p1:(p:Int) ^ 1=(p:Int):=by rw[Y5,Y9,Zg]
  have bV:∀ i j,i<n->j<n->Bd 6 (Vm i j):=fun i j hi hj=>by
   have:=rV i j hi hj
   rw[p1] at this;show Wk _<2 ^ 6
   omega
  have hI:∀ x:Vc,(∀ j,n<=j->x j=0)->(InS n Vm x↔Idl (Of el) (nt R p) (p ^ k1) (el x)):=fun x x0=>(gqV x).symm.trans (idk x0)
  have htx:∀ i,∃ ti:Nat->Vc,∀ j,i<n->j<n->∀ k,cutn n (fun k=>sm n (Vm j) (c i) k) k=sm n (ti j) Vm k:=fun i=>by
   refine Classical.axiomOfChoice (r:=fun j (t:Vc)=>i<n->j<n->∀ k,cutn n (fun k=>sm n (Vm j) (c i) k) k=sm n t Vm k) fun j=>?_
   by_cases hi:i<n
   ·by_cases hj:j<n
    ·have h1:=(hI (Vm j) fun k hk=>stV.tri j hj k (by omega)).mp (.row hj)
     have h2:=h1.mul G.sub (G.bas.in_un i);rw[G.bas.un_mul G.mul hi,G.bas.sup (fun k=>sm n (Vm j) (c i) k) (cutn n fun k=>sm n (Vm j) (c i) k) fun k hk=>(cut_lo hk).symm] at h2
     obtain⟨t,ht⟩:=(hI _ fun k hk=>cut_hi hk).mpr h2
     exact⟨t,fun _ _=>ht⟩
    ·exact⟨fun _=>0,fun _ h=>W1 h hj⟩
   ·exact⟨fun _=>0,fun h=>W1 h hi⟩
  obtain⟨tt,htt⟩:=Classical.axiomOfChoice htx;have htt':∀ i j,i<n->j<n->∀ k,k<n->sm n (Vm j) (c i) k=sm n (tt i j) Vm k:=fun i j hi hj k hk=>by rw[<- htt i j hi hj k,cut_lo hk]
  have btt:∀ i j,i<n->j<n->∀ k,k<n->Bd 100000 (tt i j k):=fun i j hi hj k hk=>by
   refine (Stair.bnd (b:=60009) stV bV (fun q hq=>?_) k hk).mono ?_
   ·rw[<- htt' i j hi hj q hq]
    exact (bd_sm (k:=3) (by omega) (fun a ha=>bV j a hj ha) fun a ha=>bc i a q hi ha hq).mono (by decide)
   ·have:7*n<=7*6:=Zr _ hn
    omega
  have mlt:=fun x=>G.bas.mlt G.sub hp G.mul stV hI htt' G.inv x
  refine⟨len_ok rfl,fun rp nrp=>?_⟩
  have k5:=same_new nrp (.lst []);have erp:(L2.upd H4 rp (.lst [])) rp=some (.lst []):=upd_same;generalize L2.upd H4 rp (.lst [])=H5 at k5 erp;have nn:n*n<=6*6:=Wj hn hn;refine⟨_,rfl,lt,rfl,⟨_,SqL.of (k5 _ _ hlt)⟩,for_list (xs:=us) (fun i σ H6=>Same H4 H6/\∃ (ys:List V) (o1 o2 o3:Option V),σ=[Rq lt,Iq (p),some r2,Rq la,Rq rp,o1,o2,o3]/\H6 rp=some (.lst ys)/\Cf H6 (Off H4 rp) ys i fun i=>rE (n*n) fun q=>tt i (q / n) (q % n) % (p:Int))
   ⟨k5,[],_,_,_,rfl,erp,.nil⟩ (fun i σ H6 _ h=>SqL.of (h.1 _ _ hlt)) ?_ ?_⟩
  ·rintro i vx σ H6 hvx ⟨g6,ys,o1,o2,o3,rfl,e6,Cy⟩
   obtain⟨hi,ri⟩:=C.get hvx;refine⟨len_ok rfl,fun r0 n0=>?_⟩
   have k7:=same_new n0 (.lst []);have er0:(L2.upd H6 r0 (.lst [])) r0=some (.lst []):=upd_same;generalize L2.upd H6 r0 (.lst [])=H7 at k7 er0;have g7:=g6.trans k7;refine⟨_,rfl,la,rfl,⟨_,SqL.of (g7 _ _ hla)⟩,for_list (xs:=vs4) (fun j σ H8=>Same H7 H8/\∃ (ra:Addr) (o:Option V),σ=[Rq lt,Iq (p),some r2,Rq la,Rq rp,some vx,Rq ra,o]/\H8 ra=some (.lst ((lv (n*j) fun q=>tt i (q / n) (q % n) % (p:Int)).map V.int))/\H6 ra=none)
    ⟨Same.refl _,r0,_,rfl,by rw[Nat.mul_zero];exact er0,n0⟩ (fun j σ H8 _ h=>SqL.of ((g7.trans h.1) _ _ hla)) ?_ ?_⟩
   ·rintro j vy σ H8 hvy ⟨g8,ra,o,rfl,e8,n8⟩
    obtain⟨hj,rj⟩:=CI.get hvy;have g48:=g7.trans g8;refine⟨_,rfl,_,rfl,_,rfl,_,rfl,n,n,vy,vx,Vm j,c i,rfl,rj.same g48,ri.same g48,hn1,by omega,by omega,fun a ha=>(bV j a hj ha).mono (by decide),fun a b ha hb=>(bc i a b hi ha hb).mono (by decide),fun r9 H9 g9 rr9=>?_⟩
    refine⟨n,.ref la,r9,Vm,_,tt i j,rfl,rI4.same (g48.trans g9),rr9.any,by omega,stV,htt' i j hi hj,btt i j hi hj,fun a b ha hb=>(bV a b ha hb).mono (by decide),fun r10 H10 g10 rr10=>?_⟩
    obtain⟨l10,rfl,h10,_⟩:=vs_rE rr10;refine⟨l10,rfl,⟨_,SqL.of h10⟩,fun D hD=>?_⟩
    refine cmpL (fun k=>.num (tt i j k % (p:Int))) (n:=n) (by rw[Ya,lv_len]) h10 hD (by omega) (fun k vz H11 Q2 hk g11 hvz q2=>?_) fun H11 g11 rr11=>?_
    ·obtain⟨y1,hy1,rfl⟩:=map_int_get hvz
     rw[lv_get hk] at hy1;cases hy1;refine⟨_,rfl,_,rfl,_,_,rfl,rfl,(show (p:Int)≠0 by omega),?_⟩
     show Q2 (V.int ((tt i j k).fmod (p:Int))) H11
     rw[fmod_p];exact q2 _ H11 (Same.refl _) (.num _)
    ·obtain⟨l11,e11,h11,_⟩:=vs_rE rr11
     cases e11;have g811:=(g9.trans g10).trans g11;have hnj:n*j+n<=n*n:=by
      have:=Zr n (show j+1<=n by omega)
      rw[Wp] at this;exact this
     refine⟨ra,D,_,_,rfl,rfl,g811 _ _ e8,h11,by rw[Ya,Ya,lv_len,lv_len,sizeLine_eq];omega,fun p12 n12=>?_⟩
     have k12:=same_new n12 (.lst ((lv (n*j) fun q=>tt i (q / n) (q % n) % (p:Int)).map V.int++(lv n fun k=>tt i j k % (p:Int)).map V.int))
     refine⟨(g8.trans g811).trans k12,p12,_,rfl,?_,?_⟩
     ·rw[upd_same,<- Y6,lv_cat fun k hk=>?_]
      show tt i ((n*j+k) / n) ((n*j+k) % n) % (p:Int)=_
      rw[Nat.mul_add_div (by omega),Nat.div_eq_of_lt hk,Nat.mul_add_mod,Zn hk,Nat.add_zero]
     ·exact (k7.trans (g8.trans g811)).free n12
   ·rintro σ H8 ⟨g8,ra,o,rfl,e8,n8⟩
    rw[CI.len] at e8;have e6':=(k7.trans g8) _ _ e6;refine⟨_,rfl,.inl ⟨rfl,_,SqL.of e6'⟩,_,rfl,rp,_,_,rfl,rfl,e6',by rw[Cy.len,sizeLine_eq];omega,?_⟩
    have hne:ra≠rp:=fun z=>by rw[z,e6] at n8;cases n8
    exact⟨(g7.trans g8).free_upd nrp _,_,_,_,_,rfl,upd_same,((Cy.same (k7.trans g8)).push (rE_vs e8 ⟨g6.free n8,hne⟩)).upd⟩
  ·rintro σ H6 ⟨g6,ys,o1,o2,o3,rfl,e6,Cy⟩
   rw[C.len] at Cy;have rrow:Rep H6 (NewB H4) (.ref rp) (mE n (n*n) fun i q=>tt i (q / n) (q % n) % (p:Int)):=Cy.newB.rep e6 nrp
   have rngG:∀ i q,i<n->q<n*n->0<=tt i (q / n) (q % n) % (p:Int)/\tt i (q / n) (q % n) % (p:Int)<(p:Int):=fun i q _ _=>⟨Zb _ (by omega),Za _ (by omega)⟩
   have lR2:((Yj n).map fun i=>lv (n*n) fun q=>tt i (q / n) (q % n) % (p:Int)).length=n:=by rw[Ya,Yg]
   refine⟨_,rfl,_,rfl,p,hp,n*n,.ref rp,(Yj n).map fun i=>lv (n*n) fun q=>tt i (q / n) (q % n) % (p:Int),rfl,by rw[<- mE_list n (n*n) fun i q=>tt i (q / n) (q % n) % (p:Int)];exact rrow.any,by rw[lR2];exact hn1,by rw[lR2];omega,by omega,fun a ha=>?_,fun S' r7 H7 g7 hS' lS' nz' kS' rr7=>?_⟩
   ·obtain⟨i,hi,rfl⟩:=List.mem_map.mp ha
    refine⟨lv_len _ _,fun x hx=>?_⟩
    obtain⟨j,hj,rfl⟩:=List.mem_map.mp hx;exact rngG i j (List.mem_range.mp hi) (List.mem_range.mp hj)
   rw[lR2] at hS' nz' kS';obtain⟨q1,q2⟩:=kern_int hp (W:=n*n) (k:=n) (A:=fun i q=>tt i (q / n) (q % n) % (p:Int)) rngG hS' kS'
   rw[ker_rep hS'] at rr7;rw[<- rows_ker hS'] at q2;have hmod:∀ (x:Vc) j m,j<n->m<n->(p:Int) ∣ sm n x (fun i q=>tt i (q / n) (q % n) % (p:Int)) (n*j+m) - sm n x (fun i=>tt i j) m:=fun x j m hj hm=>by
    have e1:sm n x (fun i=>tt i j) m=sm n x (fun i _=>tt i j m) (n*j+m):=by rw[sm_sgm,sm_sgm]
    rw[e1];refine sm_mod fun i _=>?_
    show (p:Int) ∣ tt i ((n*j+m) / n) ((n*j+m) % n) % (p:Int) - tt i j m
    rw[Nat.mul_add_div (by omega),Nat.div_eq_of_lt hm,Nat.mul_add_mod,Zn hm,Nat.add_zero]
    have:=Zm (tt i j m) (p:Int)
    exact⟨-(tt i j m / (p:Int)),by grind⟩
   have hlt2:∀ j m,j<n->m<n->n*j+m<n*n:=fun j m hj hm=>by
    have:=Zr n (show j+1<=n by omega)
    rw[Wp] at this;omega
   obtain⟨ps4,hP4',_⟩:=id (tq4.same g6);refine qq k1 S'.length (fun t=>kRow (n*n) (S'.getD t [])) r7 H7 (n04.trans (NewO.of (g6.trans g7))) ((tq4.same g6).same g7) ⟨lS',fun t i ht hi=>ker_rng hS' ht hi,fun t ht=>?_,fun t ht=>(mlt _).mp fun j hj m hm=>?_,fun x hx=>q2 x fun q hq=>?_⟩ (Rep.delN rr7 hP4' fun b hb=>(n04.trans (NewO.of g6)).fresh ⟨_,hP4'⟩ hb)
   ·obtain⟨i,hi,h⟩:=nz' (S'.getD t []) (by rw[Yb,Yc ht];exact Yw ht)
    exact⟨i,hi,h⟩
   ·have h1:=q1 (S'.getD t []) (by rw[Yb,Yc ht];exact Yw ht) (n*j+m) (hlt2 j m hj hm)
    obtain⟨a,ha⟩:=h1;obtain⟨b,hb⟩:=hmod (kRow (n*n) (S'.getD t [])) j m hj hm;exact⟨a - b,by grind⟩
   ·obtain⟨a,ha⟩:=(mlt x).mpr hx (q / n) (Nat.div_lt_of_lt_mul hq) (q % n) (Nat.mod_lt _ (by omega))
    obtain⟨b,hb⟩:=hmod x (q / n) (q % n) (Nat.div_lt_of_lt_mul hq) (Nat.mod_lt _ (by omega))
    rw[Nat.div_add_mod] at hb;exact⟨a+b,by grind⟩
end
section
variable {R:Type} [Lean.Grind.CommRing R] {f:Fn} {n p d:Nat} {φ:Vc->R} {ip:R} {T:Nat->Vc}
theorem Lor.table (X:Xr f n p φ ip)(L:Lor n p φ ip d T):∃ c:Nat->Nat->Vc,AlgT n p (elT n φ ip d T) ip c/\∀ i j,i<n->j<n->∀ k,k<n->pr2 f n (T i) (T j) k=(p:Int) ^ d*sm n (c i j) T k:=by
 have Ba:=X.bas;have BT:=Ba.tri (d:=d) X.inv L.st;have hPi:zc R ((p:Int) ^ d)*ip ^ d=1:=ip_pow X.inv d;have hel:∀ y,(φ fun j=>sm n y T j)=zc R ((p:Int) ^ d)*elT n φ ip d T y:=fun y=>by
  show _=zc R ((p:Int) ^ d)*(ip ^ d*φ _)
  grind
 have hT:∀ i,i<n->φ (T i)=zc R ((p:Int) ^ d)*elT n φ ip d T (un i):=fun i hi=>by
  rw[<- hel];exact Ba.sup _ _ fun j _=>(sm_unit hi).symm
 have hc0:∀ i,∃ ci:Nat->Vc,∀ j,elT n φ ip d T (un i)*elT n φ ip d T (un j)=elT n φ ip d T (ci j):=fun i=>Classical.axiomOfChoice fun j=>L.sub.mul ⟨_,rfl⟩ ⟨_,rfl⟩
 obtain⟨c,hc⟩:=Classical.axiomOfChoice hc0;refine⟨c,⟨BT,L.sub,fun i j _ _=>hc i j,X.inv⟩,fun i j hi hj=>?_⟩
 have:φ (pr2 f n (T i) (T j))=φ fun k=>(p:Int) ^ d*sm n (c i j) T k:=by
  unfold pr2;rw[<- Ba.mul (c:=fun a b=>tk f n (a+b)) X.mul,Ba.smul,hel,hT i hi,hT j hj,<- hc i j];grind
 exact Ba.inj _ _ this
structure GrowOk (n p:Nat)(φ:Vc->R)(ip:R)(d:Nat)(T:Nat->Vc)(s:Nat->Nat):Prop where
 lor:Lor n p φ ip d T
 pw:∀ i,i<n->T i i=(p:Int) ^ s i/\s i<=d
 rng:∀ i j,i<n->j<n->0<=T i j/\T i j<=(p:Int) ^ d
 dep:d+tot n s<=d*n
theorem tot_zero:∀ n,tot n (fun _=>0)=0
 | 0=>rfl
 | n+1=>by show tot n (fun _=>0)+0=0;rw[tot_zero n]
theorem GrowOk.start (X:Xr f n p φ ip):GrowOk n p φ ip 0 un fun _=>0:=by
 refine⟨X.start,fun i _=>⟨by show (if i=i then (1:Int) else 0)=_;rw[Wv rfl,Y9],Yd 0⟩,fun i j _ _=>?_,by rw[tot_zero];omega⟩
 show 0<=(if j=i then (1:Int) else 0)/\(if j=i then (1:Int) else 0)<=_
 rw[Y9];split <;> omega
theorem rows_grow {m:Nat}{N:Nat->Vc}(hT:Stair n T):rowsOf (n+m) n (fun i j=>if i<n then (p:Int)*T i j else sm n (N (i - n)) T j)=(Yj n).map (fun i j=>(p:Int)*T i j)++(rowsOf m n N).map fun r j=>sm n r T j:=by
 have T0:∀ a:Vc,∀ k,n<=k->sm n a T k=0:=fun a k hk=>sm_low (q:=0) fun i hi=>hT.tri i hi k (by omega)
 refine Zi fun t=>?_
 unfold rowsOf;rw[Ye];by_cases h1:t<n
 ·rw[Y2 (by rw[Ya,Yg];exact h1),Ye,Yu h1,Yu (by omega)]
  show some (cutn n _)=some _
  congr 1
  funext j
  by_cases c:j<n
  ·rw[cut_lo c];exact Wv h1
  ·rw[cut_hi (by omega)];show 0=(p:Int)*T t j;rw[hT.tri t h1 j (by omega)];omega
 ·rw[Y0 (by rw[Ya,Yg];omega),Ya,Yg,Ye,Ye]
  by_cases h2:t<n+m
  ·rw[Yu h2,Yu (by omega)]
   show some (cutn n _)=some _
   congr 1
   funext j
   show _=sm n (cutn n (N (t - n))) T j
   rw[sm_congr (d':=N (t - n)) (fun i hi=>cut_lo hi) fun i _=>rfl]
   by_cases c:j<n
   ·rw[cut_lo c];exact Wu h1
   ·rw[cut_hi (by omega),T0 _ j (by omega)]
  ·rw[List.getElem?_eq_none_iff.mpr (by rw[Yg];omega),List.getElem?_eq_none_iff.mpr (by rw[Yg];omega)];rfl
theorem GrowOk.next (X:Xr f n p φ ip)(hp:p∈PR){s:Nat->Nat}(G:GrowOk n p φ ip d T s){k m:Nat}{N:Nat->Vc}(M:MulOk n p (elT n φ ip d T) ip k m N)(hm:1<=m){T':Nat->Vc}{s':Nat->Nat}(st:Stair n T')(pw:∀ i,i<n->T' i i=(p:Int) ^ s' i/\s' i<=d+1)(rng:∀ i j,i<n->j<n->0<=T' i j/\T' i j<=(p:Int) ^ (d+1))
  (hG:∀ v,Gq (rowsOf (n+m) n (fun i j=>if i<n then (p:Int)*T i j else sm n (N (i - n)) T j)) ((p:Int) ^ (d+1)) n v↔InS n T' v):GrowOk n p φ ip (d+1) T' s':=by
 have hT:=G.lor.st;have BT:=X.bas.tri (d:=d) X.inv hT;have pp:=pr_pos hp;have T0:∀ a:Vc,∀ k,n<=k->sm n a T k=0:=fun a k hk=>sm_low (q:=0) fun i hi=>hT.tri i hi k (by omega)
 rw[rows_grow hT] at hG;have L':Lor n p φ ip (d+1) T':=Lor.next X.bas hp X.inv G.lor (k:=k) (N:=rowsOf m n N) st (fun r hr=>by
   obtain⟨t,ht,rfl⟩:=mem_rows.mp hr;rw[BT.sup (cutn n (N t)) (N t) fun j hj=>cut_lo hj]
   exact M.mlt t ht) M.all hG
 obtain⟨i0,hi0,nz⟩:=M.nz 0 hm;have r0:=M.rng 0 i0 hm hi0;have hgr:=Stair.grow (p:=p) (by omega) hT st (s:=s) (s':=s') (fun i hi=>(G.pw i hi).1) (fun i hi=>(pw i hi).1) (fun i hi=>(hG _).mp (Gq.mem (List.mem_append.mpr (.inl (List.mem_map.mpr ⟨i,List.mem_range.mpr hi,rfl⟩))) fun j hj=>by show (p:Int)*T i j=0;rw[hT.tri i hi j (by omega)];omega)) (r:=cutn n (N 0))
  ((hG _).mp (Gq.mem (List.mem_append.mpr (.inr (List.mem_map.mpr ⟨_,mem_rows.mpr ⟨0,hm,rfl⟩,rfl⟩))) fun j hj=>T0 _ j hj)) (k:=i0) hi0 (fun hd=>by
   rw[cut_lo hi0] at hd;have:=Int.le_of_dvd (by omega) hd
   omega)
 have dep:=G.dep;exact⟨L',pw,rng,by rw[Wg];omega⟩
end
def spGrown (K:FrQ)(Pp:Addr):Sp:=fun vs H Q _=>∃ (a:Addr) (fl:List Int) (n p z:Nat) (u:Int),vs=[.ref a,.int (p:Int)]/\p∈PR/\del H Pp a=some (.lst (fl.map V.int))/\fl.length=n+1/\1<=n/\n<=6/\L2.Monic fl/\Bds 4990 fl/\(det n fun i j=>rr (coef fl) n (coef (dl fl)) (dl fl).length i j)=(p:Int) ^ z*u/\¬ (p:Int) ∣ u/\z<=24/\TabQ qualL Pp H/\
 ∀ (R:Type) (_:Lean.Grind.CommRing R) (φ:Vc->R) (ip:R) (d k:Nat) (T:Nat->Vc) (s:Nat->Nat) r t H',NewO H Pp H'->TabQ qualL Pp H'->Xr (coef fl) n p φ ip->GrowOk n p φ ip d T s->MulOk n p (elT n φ ip d T) ip k 0 (fun _ _=>0)->d<=12->H t=none->del H' Pp t=some (.tup [r,.int (d:Int)])->Rep (del H' Pp) (NewB H) r (mE n n T)->Q (.ref t) H'
section
variable {P:Program} {w:World} {K:FrQ} {mg:Str->Option Value} {base:Heap}
theorem ok_grown {P_lead_at:Addr}(B:Blt mg)(d_unit_row:Dfn P w K mg base 1 "unit_row" Lq19 spUnit)(d_number_power:Dfn P w K mg base 1 "number_power" ["k","n"] spNumPow)(d_table_of:Dfn P w K mg base 4 "table_of" Lq23 (spTable K))(d_multipliers:Dfn P w K mg base 9 "multipliers" Lq35 (spMult K P_lead_at))(d_triangular:Dfn P w K mg base 8 "triangular" Lq25 (spTri K P_lead_at))(d_summed:Dfn P w K mg base 1 "summed" Lq29 (spSummed K))(F:Src K mg "grown" s_grown Lq38):Dfn P w K mg base 10 "grown" Lq38 (spGrown K P_lead_at):=by
 refine F.ok sc_grown (fun vs H Q E h=>?_) (fun fa cdv A outer s H vs Q E hr h=>?_)
 ·obtain⟨a,fl,n,p,z,u,rfl,_⟩:=h;rfl
 obtain⟨a,fl,n,p,z,u,rfl,hp,ha,lf,hn1,hn,mf,bf,hD,hu,hz,tq,qq⟩:=h;have pp:=pr_pos hp;have ha':=(del_inv ha).2;have hf:=top_coef lf mf;obtain⟨ip,X⟩:=xr_ex (p:=p) hf hn1 (by omega)
 generalize phi hf hn1=φ at X;have hg:∀ m,m<n->coef (dl fl) m=((m+1:Nat):Int)*coef fl (m+1):=fun m _=>coef_dl fl m
 have hD':(det n fun a c=>sgm n fun k=>coef (dl fl) k*tk (coef fl) n (k+a) c)=(p:Int) ^ z*u:=by
  rw[<- hD];refine det_congr fun i j _ _=>?_
  unfold rr;rw[len_dl,lf];rfl
 have deep:∀ {d:Nat} {T:Nat->Vc} {s:Nat->Nat},GrowOk n p φ ip d T s->d<=12:=fun {d T s} G=>by
  have h1:=Lor.le X hf hn1 (by omega) G.lor hg (s:=s) (fun i hi=>(G.pw i hi).1) hD' hu
  have h2:=G.dep;omega
 have bf':∀ j,Bd 5000 (coef fl j):=fun j=>(bf.coef j).mono (by decide)
 have turn:∀ {d:Nat} {T:Nat->Vc} {s:Nat->Nat} (G:GrowOk n p φ ip d T s),∃ c:Nat->Nat->Vc,AlgT n p (elT n φ ip d T) ip c/\(∀ i j,i<n->j<n->∀ k,k<n->pr2 (coef fl) n (T i) (T j) k=(p:Int) ^ d*sm n (c i j) T k)/\(∀ i j,i<n->j<n->Bd 200 (T i j))/\∀ i j k,i<n->j<n->k<n->Bd 60000 (c i j k):=fun {d T s} G=>by
  obtain⟨c,h1,h2⟩:=Lor.table X G.lor;have hd:=deep G;have bT:∀ i j,i<n->j<n->Bd 200 (T i j):=fun i j hi hj=>by
   have:=G.rng i j hi hj
   exact Bd.le (y:=(p:Int) ^ d) (by omega) (pd_bd hp (by omega))
  refine⟨c,h1,h2,bT,fun i j k hi hj hk=>?_⟩
  have m0:(0:Int)<(p:Int) ^ d:=Zx (by omega)
  refine (Stair.bnd (b:=50417) G.lor.st bT (fun q hq=>?_) k hk).mono ?_
  ·refine Bd.le (y:=pr2 (coef fl) n (T i) (T j) q) ?_ (pr2_bd hn bf' (fun a ha=>bT i a hi ha) (fun a ha=>bT j a hj ha) q)
   rw[h2 i j hi hj q hq,Zf];exact Nat.le_mul_of_pos_left _ (by omega)
  ·have:201*n<=201*6:=Zr _ hn
   omega
 refine⟨_,pss_cons (ps_set (i:=2) sc_grown.nd rfl (Or.inr rfl) (pe_op op_sub (pe_callB (callK_len (K:=K) rfl) rfl B.«len» bt_len (pa_cons (pv 0) pa_nil)) pe_int))
  (pss_cons (ps_set (i:=3) sc_grown.nd rfl (Or.inr rfl) (pe_comp (compScope_mk (N:=["place","degree"]) (sl:=[none,some 2]) (defScope s_grown) Lq5 rfl rfl (by decide +kernel)) rfl (pi_range1 rfl B.«range» (pa_cons (pv 2) pa_nil)) (fun _ _ _ _ _=>(pg_name (i:=0) (by show Yo (["place","degree"]:List Str);decide +kernel) rfl (Or.inl rfl))) (fun _ _ _ _ _=>pif_none) (fun _ _ _ _ _=>(pe_def d_unit_row hr (pa_cons (pv 1) (pa_cons (pv 0) (pa_cons pe_int pa_nil)))))))
  (pss_cons (ps_set (i:=4) sc_grown.nd rfl (Or.inl rfl) pe_int)
  (pss_cons (ps_set (i:=5) sc_grown.nd rfl (Or.inl rfl) (pe_def d_multipliers hr (pa_cons (pe_def d_table_of hr (pa_cons (pv 0) (pa_cons (pv 3) (pa_cons pe_int pa_nil)))) (pa_cons (pv 1) pa_nil))))
  (pss_cons (ps_while PassesOwn.never (pt_cmpR (opK_neD (K:=K) rfl hr.units) (pv 5) (pe_lst pa_nil) (nomark _))
   (pss_cons (ps_setC (i:=6) sc_grown.nd rfl (Or.inl rfl) (compScope_mk (N:=["row","p"]) (sl:=[none,some 1]) (defScope s_grown) Lq5 rfl rfl (by decide +kernel)) rfl (piK_list (K:=K) rfl (pv 3)) (fun _ _ _ _ _=>(pg_name (i:=0) (by show Yo (["row","p"]:List Str);decide +kernel) rfl (Or.inl rfl))) (fun _ _ _ _ _=>pif_none) (fun _ _ _ _ _=>(pe_comp (compScope_mk (N:=Lq33) (sl:=[none,some 1]) _ ["row","p"] rfl rfl (by kernel_rfl)) rfl (piK_list (K:=K) rfl (pv 0)) (fun _ _ _ _ _=>(pg_name (i:=0) (by show Yo (Lq33:List Str);decide +kernel) rfl (Or.inl rfl))) (fun _ _ _ _ _=>pif_none) (fun _ _ _ _ _=>(pe_op op_mulO (pv 1) (pv 0))))))
   (pss_cons (ps_aug (i:=4) sc_grown.nd rfl (Or.inl rfl) pe_int iop_add)
   (pss_cons (ps_set (i:=3) sc_grown.nd rfl (Or.inr rfl) (pe_def d_triangular hr (pa_cons (pe_op op_cat (pv 6) (pe_comp (compScope_mk (N:=["numbers","lattice"]) (sl:=[none,some 3]) (defScope s_grown) Lq5 rfl rfl (by decide +kernel)) rfl (piK_list (K:=K) rfl (pv 5)) (fun _ _ _ _ _=>(pg_name (i:=0) (by show Yo (["numbers","lattice"]:List Str);decide +kernel) rfl (Or.inl rfl))) (fun _ _ _ _ _=>pif_none) (fun _ _ _ _ _=>(pe_def d_summed hr (pa_cons (pv 0) (pa_cons (pv 1) pa_nil)))))) (pa_cons (pv 1) (pa_cons (pv 4) pa_nil)))))
   (pss_one (ps_set (i:=5) sc_grown.nd rfl (Or.inl rfl) (pe_def d_multipliers hr (pa_cons (pe_def d_table_of hr (pa_cons (pv 0) (pa_cons (pv 3) (pa_cons (pe_def d_number_power hr (pa_cons (pv 1) (pa_cons (pv 4) pa_nil))) pa_nil)))) (pa_cons (pv 1) pa_nil)))))))))
  (pss_one (ps_ret (pe_tup (pa_cons (pv 3) (pa_cons (pv 4) pa_nil))))))))),?_⟩
 walk_at "rd"
 refine⟨a,_,rfl,.inl (SqL.of ha'),?_⟩
 rw[Ya,lf];refine⟨_,_,rfl,rfl,?_⟩
 show gName 2 (V.int (((n+1:Nat):Int) - 1)) _ _ _
 rw[show ((n+1:Nat):Int) - 1=(n:Int) by omega]
 refine⟨_,rfl,_,rfl,by omega,by omega,fun D hDD=>?_⟩
 rw[Yk];refine cmpR (fun i=>rE n (un i)) hDD (by omega) (fun i H2 Q2 hi g2 q2=>?_) fun H2 g2 rr=>?_
 ·rw[Z4]
  exact⟨_,rfl,_,rfl,n,i,1,rfl,by omega,fun r H3 g3 rr=>q2 _ H3 g3 rr⟩
 have tq2:=tq.same g2;obtain⟨ps,hPs,_⟩:=id tq;obtain⟨ps2,hP2,_⟩:=id tq2;obtain⟨c,AG,hc,bT,bc⟩:=turn (GrowOk.start X);refine⟨_,rfl,_,rfl,a,fl,n,.ref D,un,c,1,rfl,SqL.of (g2 _ _ ha'),lf,hn1,by omega,mf,bf.mono (by decide),rr.any,stair_un,fun i j hi hj=>(bT i j hi hj).mono (by decide),by decide,(Bd.small (by decide) (by decide)).mono (by decide),fun i j hi hj k hk=>by
  have:=hc i j hi hj k hk
  rw[Y9] at this;exact this,fun i j k hi hj hk=>(bc i j k hi hj hk).mono (by decide),fun r3 H3 g3 rr3=>?_⟩
 refine⟨_,rfl,n,p,_,_,elT n φ ip 0 un,ip,c,r3,rfl,hp,Rep.any (Rep.delN (H0:=H2) rr3 hP2 fun b hb=>hb),hn1,hn,bc,AG,tq2.same g3,fun k0 m N r4 H4 n4 tq4 M rr4=>?_⟩
 have rD:Rep (del H2 P_lead_at) (NewB H) (.ref D) (mE n n un):=Rep.delN rr hPs fun b hb=>hb
 have n24:NewO H2 P_lead_at H4:=(NewO.of g3).trans n4;refine while_in (fun σ H5=>NewO H P_lead_at H5/\TabQ qualL P_lead_at H5/\∃ (lt fv:V) (T:Nat->Vc) (s:Nat->Nat) (d k m:Nat) (N:Nat->Vc) (o:Option V),σ=[Rq a,Iq (p),Iq (n),some lt,Iq (d),some fv,o]/\Rep (del H5 P_lead_at) (NewB H) lt (mE n n T)/\Rep (del H5 P_lead_at) Any fv (mE m n N)/\GrowOk n p φ ip d T s/\MulOk n p (elT n φ ip d T) ip k m N)
  (fun σ _=>match σ with | [_,_,_,_,some (.int d),_,_]=>30 - d.toNat | _=>0) ⟨(NewO.of g2).trans n24,tq4,.ref D,r4,un,fun _=>0,0,k0,m,N,_,rfl,rD.same n24.del,rr4.any,GrowOk.start X,M⟩ ?_
 rintro σ H5 ⟨n5,tq5,lt,fv,T,s,d,k,m,N,o,rfl,rlt,rfv,G,M⟩;have hd12:=deep G;have m50:=M.le;refine⟨_,rfl,len_ok rfl,fun pe npe=>?_⟩
 have k6:=same_new npe (.lst []);have epe:(L2.upd H5 pe (.lst [])) pe=some (.lst []):=upd_same;generalize L2.upd H5 pe (.lst [])=H6 at k6 epe;have n6:=n5.trans (NewO.of k6);have tq6:=tq5.same k6;have n56:NewO H5 P_lead_at H6:=NewO.of k6;have rlt6:=rlt.same n56.del;have rfv6:=rfv.same n56.del;obtain⟨ps6,hP6,_⟩:=id tq6;have rnil:Rep H6 Any (.ref pe) (.vec []):=.vec epe trivial rfl fun i v e h=>by simp at h
 refine neRep (rfv6.same (del_same _ _)) rnil (fl_mE (by omega) (by omega)) (.vec (n:=1) (by decide) fun e he=>by simp at he) (by decide) (by decide) (fun e=>?_) (fun e=>?_)
 ·have s0:m=0:=by
   unfold mE vecN at e;injection e with e
   have:=Wz Wr e
   rw[Ya,Yg] at this;exact this
  subst s0;refine⟨_,rfl,iteF ?_⟩
  refine⟨_,rfl,_,rfl,len_ok rfl,fun t nt=>?_⟩
  have k7:=same_new nt (.tup [lt,.int (d:Int)]);have n67:NewO H6 P_lead_at _:=NewO.of k7;have tP:t≠P_lead_at:=fun z=>by rw[z,hP6] at nt;cases nt
  refine qq _ _ φ ip d k T s lt t _ (n6.trans n67) (tq6.same k7) X G ⟨M.le,fun t i h=>by omega,fun t h=>by omega,fun t h=>by omega,M.all⟩ hd12 (n6.fresh ⟨_,hP6⟩ nt) (by rw[del_of tP];exact upd_same) (rlt6.same n67.del)
 ·have m1:1<=m:=by
   rcases Nat.eq_zero_or_pos m with y | y
   ·exact W1 (by unfold mE vecN;rw[y];rfl) e
   ·exact y
  refine⟨_,rfl,iteT (win ?_)⟩
  obtain⟨la,us,rfl,hla,_,C⟩:=id rlt6.cf;obtain⟨lb,ws,rfl,hlb,_,Cw⟩:=id rfv6.cf;have hla':=(del_inv hla).2;have hlb':=(del_inv hlb).2;have bT:∀ i j,i<n->j<n->Bd 200 (T i j):=fun i j hi hj=>by
   have:=G.rng i j hi hj
   exact Bd.le (y:=(p:Int) ^ d) (by omega) (pd_bd hp (by omega))
  refine⟨_,rfl,la,rfl,⟨_,SqL.of hla'⟩,fun D2 hD2=>?_⟩
  refine cmpL (fun i=>rE n fun j=>(p:Int)*T i j) (n:=n) C.len hla' hD2 (by omega) (fun i vx H7 Q2 hi g7 hvx q2=>?_) fun H7 g7 rr7=>?_
  ·obtain⟨_,ri⟩:=C.get hvx
   obtain⟨lr,rfl,hlr,_⟩:=vs_rE ri;have hlr':=g7 _ _ (del_inv hlr).2;refine⟨_,rfl,lr,rfl,⟨_,SqL.of hlr'⟩,fun D3 hD3=>?_⟩
   refine cmpL (fun j=>.num ((p:Int)*T i j)) (n:=n) (by rw[Ya,lv_len]) hlr' hD3 (by omega) (fun j vx H8 Q3 hj g8 hvx q3=>?_) fun H8 g8 rr=>q2 _ H8 g8 rr
   obtain⟨y1,hy1,rfl⟩:=map_int_get hvx;rw[lv_get hj] at hy1;cases hy1;exact⟨_,rfl,_,rfl,_,_,rfl,rfl,mulOkL (by omega) (by omega),q3 _ H8 (Same.refl _) (.num _)⟩
  refine⟨_,rfl,_,_,rfl,rfl,?_⟩
  refine⟨_,rfl,_,rfl,lb,rfl,⟨_,SqL.of (g7 _ _ hlb')⟩,fun D3 hD3=>?_⟩
  refine cmpL (fun t=>rE n fun j=>sm n (N t) T j) (n:=m) Cw.len (g7 _ _ hlb') hD3 (by omega) (fun t vx H8 Q2 ht g8 hvx q2=>?_) fun H8 g8 rr8=>?_
  ·obtain⟨_,rt⟩:=Cw.get hvx
   refine⟨_,rfl,_,rfl,n,n,vx,.ref la,N t,T,rfl,(rt.any.same (del_same _ _)).same (g7.trans g8),(rlt6.any.same (del_same _ _)).same (g7.trans g8),hn1,by omega,by omega,fun i hi=>?_,fun i j hi hj=>(bT i j hi hj).mono (by decide),fun r H9 g9 rr=>q2 _ H9 g9 rr⟩
   have:=M.rng t i ht hi
   exact (Bd.small (by omega) (by omega)).mono (by decide)
  obtain⟨_,us2,e2,h2,nD2,C2⟩:=id (rr7.same g8).cf;cases e2;obtain⟨_,ws2,e3,h3,nD3,C3⟩:=id rr8.cf;cases e3;refine⟨D2,D3,_,_,rfl,rfl,h2,h3,by rw[C2.len,C3.len,sizeLine_eq];omega,fun p4 n4'=>?_⟩
  have k9:=same_new n4' (.lst (us2++ws2));have e9:(L2.upd H8 p4 (.lst (us2++ws2))) p4=some (.lst (us2++ws2)):=upd_same;generalize L2.upd H8 p4 (.lst (us2++ws2))=H9 at k9 e9;have g69:=(g7.trans g8).trans k9;have rA:Rep H9 (NewB H6) (.ref p4) (mE (n+m) n fun i j=>if i<n then (p:Int)*T i j else sm n (N (i - n)) T j):=by
   have:=((C2.same k9).append ((C3.imp fun b o h kb=>⟨h,g7.free kb⟩).same k9)).rep e9 ((g7.trans g8).free n4')
   unfold mE;rw[vecN_congr (d:=fun i=>if i<n then rE n fun j=>(p:Int)*T i j else rE n fun j=>sm n (N (i - n)) T j) fun i _=>?_]
   ·exact this
   ·by_cases c1:i<n
    ·rw[Wv c1];exact rE_congr fun j _=>Wv c1
    ·rw[Wu c1];exact rE_congr fun j _=>Wu c1
  have tq9:=tq6.same g69;refine⟨_,rfl,_,rfl,n+m,n,d+1,p,.ref p4,fun i j=>if i<n then (p:Int)*T i j else sm n (N (i - n)) T j,rfl,hp,Rep.any (Rep.delN (H0:=H6) rA hP6 fun b hb=>hb),hn1,by omega,by omega,by omega,by omega,by omega,tq9,fun T' s' r5 H10 n10 tq10 st pw rng hG rr10=>?_⟩
  have G':=G.next X hp M m1 st pw rng hG;have hd':=deep G';obtain⟨c',AG',hc',bT',bc'⟩:=turn G';have n610:NewO H P_lead_at H10:=(n6.trans (NewO.of g69)).trans n10;obtain⟨ps10,hP10,_⟩:=id tq10;refine⟨_,rfl,_,rfl,_,rfl,_,rfl,p,d+1,rfl,by omega,by omega,?_⟩
  rw[We];have m0:(0:Int)<(p:Int) ^ (d+1):=Zx (by omega)
  refine⟨a,fl,n,r5,T',c',(p:Int) ^ (d+1),rfl,SqL.of (n610 _ _ (del_inv ha).1 ha'),lf,hn1,by omega,mf,bf.mono (by decide),rr10.any.same (del_same _ _),st,fun i j hi hj=>(bT' i j hi hj).mono (by decide),by omega,(pd_bd hp (by omega)).mono (by decide),hc',fun i j k hi hj hk=>(bc' i j k hi hj hk).mono (by decide),fun r11 H11 g11 rr11=>?_⟩
  refine⟨_,rfl,n,p,_,_,elT n φ ip (d+1) T',ip,c',r11,rfl,hp,Rep.any (Rep.delN (H0:=H10) rr11 hP10 fun b hb=>hb),hn1,hn,bc',AG',tq10.same g11,fun k' m' N' r12 H12 n12 tq12 M' rr12=>?_⟩
  have n1012:NewO H10 P_lead_at H12:=(NewO.of g11).trans n12;refine⟨⟨n610.trans n1012,tq12,r5,r12,T',s',d+1,k',m',N',_,rfl,Rep.same (rr10.imp fun b o h kb=>⟨h,(n6.trans (NewO.of g69)).fresh ⟨_,tq9.choose_spec.1⟩ kb⟩) n1012.del,rr12.any,G',M'⟩,?_⟩
  show 30 - ((d:Int)+1).toNat<30 - ((d:Int)).toNat
  omega
end
inductive PolyAns (K:FrQ)(H:Hp):V->Bool->Prop where
 | whl {a:Addr} {ns:List Int}:SqL K H a (ns.map V.int)->ns.length<=1000->∀ b:Bool,(b=true↔Norm ns)->PolyAns K H (.ref a) b
 | bad {a:Addr} {xs:List V} {i:Nat} {x:V} {T:String}:SqL K H a xs->(∀ j,j<i->∃ n,xs[j]?=some (.int n))->xs[i]?=some x->TyB K H x T->T≠"int"->PolyAns K H (.ref a) false
 | other {x:V} {T:String}:TyB K H x T->T≠"list"->PolyAns K H x false
def spIsPol (K:FrQ):Sp:=fun vs H Q _=>∃ (x:V) (b:Bool),vs=[x]/\PolyAns K H x b/\∀ H',Same H H'->Q (.bl b) H'
section
variable {P:Program} {w:World} {K:FrQ} {mg:Str->Option Value} {base:Heap}
theorem ok_is_polynomial (B:Blt mg)(d_is_whole:Dfn P w K mg base 1 "is_whole" Lq39 (spIsWhole K))(F:Src K mg "is_polynomial" s_is_polynomial Lq39):Dfn P w K mg base 2 "is_polynomial" Lq39 (spIsPol K):=by
 refine F.ok sc_is_polynomial (fun vs H Q E h=>?_) (fun f cdv A outer s H vs Q E hr h=>?_)
 ·obtain⟨x,b,rfl,_⟩:=h;rfl
 obtain⟨x,b,rfl,ans,q⟩:=h;refine⟨_,pss_cons (ps_if (pt_not (pt_val (pe_callB (callK_isinst (K:=K) rfl) rfl B.«isinstance» bt_isinstance (pa_cons (pv 0) (pa_cons (pe_bltn (v:=.ty "list") rfl B.«list» bt_list rfl) pa_nil)))))
   (pss_one (ps_ret pe_bl))
   (pss_nil))
  (pss_cons (ps_for PassesOwn.never rfl (piK_list (K:=K) rfl (pv 0)) (pg_name (i:=1) sc_is_polynomial.nd rfl (Or.inl rfl))
   (pss_one (ps_if (pt_not (pt_val (pe_def d_is_whole hr (pa_cons (pv 1) pa_nil))))
    (pss_one (ps_ret pe_bl))
    (pss_nil))))
  (pss_one (ps_ret (pe_or (pe_cmpR (opK_eqD (K:=K) rfl hr.units) (pv 0) (pe_lst pa_nil) (nomark _)) (pe_one (pe_cmpR op_ne (pe_ix (ixK_list (K:=K) rfl) (pv 0) (pe_un un_neg pe_int) (fun _ _=>rfl)) pe_int (nomark _))))))),?_⟩
 cases ans with
 | @whl a ns ha ln b hb=>
  refine⟨_,rfl,_,"list","list",true,rfl,.lst ha,rfl,_,rfl,iteF ?_⟩
  refine⟨_,rfl,a,rfl,⟨_,ha⟩,for_list (xs:=ns.map V.int) (fun i σ H2=>H2=H/\∃ o,σ=[Rq a,o]) ⟨rfl,_,rfl⟩ (fun i σ H2 _ h=>h.1 ▸ ha) ?_ ?_⟩
  ·rintro i x σ H2 hx ⟨rfl,o,rfl⟩
   obtain⟨n,hn,rfl⟩:=map_int_get hx;refine⟨_,rfl,_,"int",rfl,.int n,_,rfl,iteF ?_⟩
   exact⟨rfl,_,rfl⟩
  ·rintro σ H2 ⟨rfl,o,rfl⟩
   refine⟨_,rfl,len_ok rfl,fun p1 n1=>?_⟩
   have k1:=same_new n1 (.lst []);refine eqL (xs:=ns) (ys:=[]) (k1.seq ha) (SqL.of upd_same) ⟨_,rfl,ite2 (fun c=>?_) (fun c=>?_)⟩
   ·have e:b=true:=hb.mpr (.inl (Wx c))
    rw[e] at q;exact q _ k1
   ·have hne:ns≠[]:=fun z=>c (Ww z)
    refine⟨_,rfl,_,rfl,a,_,_,_,rfl,rfl,k1.seq ha,atI_neg1 hne,rfl,?_⟩
    have e:(!decide (V.int (coef ns (ns.length - 1))=V.int 0))=b:=by
     cases b with
     | true=>
      have hN:=hb.mp rfl;rw[Wy fun z=>hN.last hne (V.int.inj z)]
      rfl
     | false=>
      have hN:coef ns (ns.length - 1)=0:=by
       refine Classical.byContradiction fun z=>?_
       exact W1 (hb.mpr (.inr z)) Bool.false_ne_true
      rw[Ww (Wz V.int hN)];rfl
    rw[e];exact q _ k1
 | @bad a xs i x T ha hj hx ty hT=>
  refine⟨_,rfl,_,"list","list",true,rfl,.lst ha,rfl,_,rfl,iteF ?_⟩
  have hlt:i<xs.length:=(List.getElem?_eq_some_iff.mp hx).1;refine⟨_,rfl,a,rfl,⟨_,ha⟩,for_list (xs:=xs) (fun j σ H2=>j<=i/\H2=H/\∃ o,σ=[Rq a,o]) ⟨Y7 _,rfl,_,rfl⟩ (fun i σ H2 _ h=>h.2.1 ▸ ha) ?_ ?_⟩
  ·rintro j y σ H2 hy ⟨hji,rfl,o,rfl⟩
   by_cases e:j=i
   ·subst e
    rw[hx] at hy;obtain rfl:=Option.some.inj hy
    refine⟨_,rfl,_,T,rfl,ty,_,rfl,?_⟩
    rw[Wy hT];refine iteT (q _ (Same.refl _))
   ·obtain⟨n,hn⟩:=hj j (by omega)
    rw[hn] at hy;obtain rfl:=Option.some.inj hy
    refine⟨_,rfl,_,"int",rfl,.int n,_,rfl,iteF ?_⟩
    exact⟨by omega,rfl,_,rfl⟩
  ·rintro σ H2 ⟨hji,_⟩
   omega
 | @other x T ty hT=>
  cases ty with
  | non=>exact⟨_,rfl,_,_,"list",false,rfl,.non,by with_unfolding_all rfl,_,rfl,iteT (q _ (Same.refl _))⟩
  | bl b=>exact⟨_,rfl,_,_,"list",false,rfl,.bl b,by with_unfolding_all rfl,_,rfl,iteT (q _ (Same.refl _))⟩
  | int i=>exact⟨_,rfl,_,_,"list",false,rfl,.int i,by with_unfolding_all rfl,_,rfl,iteT (q _ (Same.refl _))⟩
  | str b=>exact⟨_,rfl,_,_,"list",false,rfl,.str b,by with_unfolding_all rfl,_,rfl,iteT (q _ (Same.refl _))⟩
  | lst e=>exact W1 rfl hT
  | tup e=>exact⟨_,rfl,_,_,"list",false,rfl,.tup e,by with_unfolding_all rfl,_,rfl,iteT (q _ (Same.refl _))⟩
end
def prV:List V:=PR.map fun p:Nat=>V.int (p:Int)
inductive PrAns (K:FrQ)(H:Hp):V->Bool->Prop where
 | int (i:Int):PrAns K H (.int i) (inV (V.int i) prV)
 | other {x:V} {T:String}:TyB K H x T->T≠"int"->PrAns K H x false
theorem inV_pr {i:Int}(h:inV (V.int i) prV=true):∃ p:Nat,p∈PR/\i=(p:Int):=by
 unfold inV at h;rw[List.any_eq_true] at h;obtain⟨y,hy,e⟩:=h;unfold prV at hy;obtain⟨p,hp,rfl⟩:=List.mem_map.mp hy;refine⟨p,hp,?_⟩
 have e:((p:Int) == i)=true:=e;exact (beq_iff_eq.mp e).symm
def spPr (K:FrQ):Sp:=fun vs H Q _=>∃ (x:V) (b:Bool),vs=[x]/\PrAns K H x b/\Q (.bl b) H
inductive BmAns (K:FrQ)(H:Hp):V->Bool->Prop where
 | whl {a:Addr} {ns:List Int}:H a=some (.lst (ns.map V.int))->ns.length<=1000->∀ b:Bool,(b=true↔L2.Monic ns/\2<=ns.length/\ns.length<=13)->BmAns K H (.ref a) b
 | bad {a:Addr} {xs:List V} {i:Nat} {x:V} {T:String}:SqL K H a xs->(∀ j,j<i->∃ n,xs[j]?=some (.int n))->xs[i]?=some x->TyB K H x T->T≠"int"->BmAns K H (.ref a) false
 | other {x:V} {T:String}:TyB K H x T->T≠"list"->BmAns K H x false
def spMon (K:FrQ):Sp:=fun vs H Q _=>∃ (x:V),vs=[x]/\((∃ (a:Addr) (ns:List Int),x=.ref a/\SqL K H a (ns.map V.int)/\ns.length<=1000/\(L2.Monic ns->∀ H',Same H H'->Q (.bl true) H')/\(¬ L2.Monic ns->∀ H',Same H H'->Q (.bl false) H'))\/(PolyAns K H x false/\∀ H',Same H H'->Q (.bl false) H'))
section
variable {P:Program} {w:World} {K:FrQ} {mg:Str->Option Value} {base:Heap}
theorem ok_is_prime {x_PRIMES:Addr}(B:Blt mg)(m_PRIMES:mg "PRIMES"=some (.ref x_PRIMES))(hP:∀ H,SqT K H x_PRIMES (PR.map fun p:Nat=>V.int (p:Int)))(d_is_whole:Dfn P w K mg base 1 "is_whole" Lq39 (spIsWhole K))(F:Src K mg "is_prime" s_is_prime ["k"]):Dfn P w K mg base 2 "is_prime" ["k"] (spPr K):=by
 refine F.ok sc_is_prime (fun vs H Q E h=>?_) (fun f cdv A outer s H vs Q E hr h=>?_)
 ·obtain⟨x,b,rfl,_⟩:=h;rfl
 obtain⟨x,b,rfl,ans,q⟩:=h;refine⟨_,pss_one (ps_ret (pe_and (pe_def d_is_whole hr (pa_cons (pv 0) pa_nil)) (pe_one (pe_cmpR (opK_in (K:=K) rfl) (pv 0) (pe_glob (v:=.ref x_PRIMES) rfl m_PRIMES rfl) (by with_unfolding_all rfl))))),?_⟩
 cases ans with
 | int i=>exact⟨_,rfl,_,_,rfl,.int i,_,rfl,_,rfl,x_PRIMES,_,rfl,.inr (hP H),rfl,by decide,q⟩
 | other ty hT=>
  refine⟨_,rfl,_,_,rfl,ty,_,rfl,?_⟩
  rw[Wy hT];exact q
theorem ok_is_monic (B:Blt mg)(d_is_polynomial:Dfn P w K mg base 2 "is_polynomial" Lq39 (spIsPol K))(F:Src K mg "is_monic" s_is_monic Lq39):Dfn P w K mg base 3 "is_monic" Lq39 (spMon K):=by
 refine F.ok sc_is_monic (fun vs H Q E h=>?_) (fun f cdv A outer s H vs Q E hr h=>?_)
 ·obtain⟨x,rfl,_⟩:=h;rfl
 obtain⟨x,rfl,h⟩:=h;refine⟨_,pss_one (ps_ret (pe_and (pe_def d_is_polynomial hr (pa_cons (pv 0) pa_nil)) (pe_and (pe_cmpR (opK_neD (K:=K) rfl hr.units) (pv 0) (pe_lst pa_nil) (nomark _)) (pe_one (pe_cmpR op_eq (pe_ix (ixK_list (K:=K) rfl) (pv 0) (pe_un un_neg pe_int) (fun _ _=>rfl)) pe_int (nomark _)))))),?_⟩
 walk_at "rd"
 rcases h with ⟨a,ns,rfl,ha,ln,qt,qf⟩ | ⟨ans,qf⟩
 ·by_cases hN:Norm ns
  ·refine⟨.ref a,true,rfl,.whl ha ln true ⟨fun _=>hN,fun _=>rfl⟩,fun H1 g1=>⟨_,rfl,iteT ?_⟩⟩
   refine⟨_,rfl,len_ok rfl,fun pe npe=>?_⟩
   have k2:=same_new npe (.lst []);refine neL (xs:=ns) (ys:=[]) (k2.seq (g1.seq ha)) (SqL.of upd_same) ⟨_,rfl,?_⟩
   by_cases c:ns=[]
   ·refine iteNS c ?_
    exact qf (fun m=>m.1 c) _ (g1.trans k2)
   ·refine iteS c ?_
    refine⟨_,rfl,_,rfl,a,_,_,_,rfl,rfl,k2.seq (g1.seq ha),atI_neg1 c,rfl,?_⟩
    by_cases c1:coef ns (ns.length - 1)=1
    ·show Q (V.bl (decide (V.int (coef ns (ns.length - 1))=V.int 1))) _
     rw[Ww (Wz V.int c1)];exact qt ⟨c,c1⟩ _ (g1.trans k2)
    ·show Q (V.bl (decide (V.int (coef ns (ns.length - 1))=V.int 1))) _
     rw[Wy fun z=>c1 (V.int.inj z)]
     exact qf (fun m=>c1 m.2) _ (g1.trans k2)
  ·refine⟨.ref a,false,rfl,.whl ha ln false ⟨fun z=>(nomatch z),fun z=>W1 z hN⟩,fun H1 g1=>⟨_,rfl,iteF ?_⟩⟩
   exact qf (fun m=>hN (.inr (by rw[m.2];decide))) H1 g1
 ·exact⟨x,false,rfl,ans,fun H1 g1=>⟨_,rfl,iteF (qf H1 g1)⟩⟩
def spBm (K:FrQ):Sp:=fun vs H Q _=>∃ (x:V) (b:Bool),vs=[x]/\BmAns K H x b/\∀ H',Same H H'->Q (.bl b) H'
theorem ok_is_bounded_monic (B:Blt mg){t1:Tok}(m_MOST_DEGREE:mg "MOST_DEGREE"=some (.int 12 t1))(d_is_monic:Dfn P w K mg base 3 "is_monic" Lq39 (spMon K))(F:Src K mg "is_bounded_monic" s_is_bounded_monic Lq39):Dfn P w K mg base 4 "is_bounded_monic" Lq39 (spBm K):=by
 refine F.ok sc_is_bounded_monic (fun vs H Q E h=>?_) (fun f cdv A outer s H vs Q E hr h=>?_)
 ·obtain⟨x,b,rfl,_⟩:=h;rfl
 obtain⟨x,b,rfl,ans,q⟩:=h;refine⟨_,pss_one (ps_ret (pe_and (pe_def d_is_monic hr (pa_cons (pv 0) pa_nil)) (pe_one (pe_chain op_le op_le pe_int (pe_callB (callK_len (K:=K) rfl) rfl B.«len» bt_len (pa_cons (pv 0) pa_nil)) (pe_op op_add (pe_glob (v:=.int 12) rfl m_MOST_DEGREE ⟨_,rfl⟩) pe_int))))),?_⟩
 walk_at "rd"
 cases ans with
 | @whl a ns ha ln b hb=>
  refine .inl ⟨a,ns,rfl,SqL.of ha,ln,fun m H1 g1=>⟨_,rfl,iteT ?_⟩,fun nm H1 g1=>⟨_,rfl,iteF ?_⟩⟩
  ·refine⟨_,rfl,a,_,rfl,.inl (SqL.of (g1 _ _ ha)),?_⟩
   rw[Ya];refine⟨_,_,rfl,rfl,_,rfl,ite2 (fun c=>?_) (fun c=>?_)⟩
   ·have c':=Wx c
    refine⟨_,_,rfl,rfl,_,_,rfl,rfl,?_⟩
    have e:decide ((ns.length:Int)<=12+1)=b:=by
     cases b with
     | true=>
      have:=(hb.mp rfl).2.2
      exact Ww (by omega)
     | false=>
      refine Wy fun z=>?_
      have:=hb.mpr ⟨m,by omega,by omega⟩
      cases this
    show Q (V.bl (decide ((ns.length:Int)<=12+1))) H1
    rw[e];exact q H1 g1
   ·have e:b=false:=by
     cases b with
     | true=>
      have:=(hb.mp rfl).2.1
      exact W1 (Ww (show (2:Int)<=(ns.length:Int) by omega)) c
     | false=>rfl
    rw[e] at q;exact q H1 g1
  ·have e:b=false:=by
    cases b with
    | true=>exact W1 (hb.mp rfl).1 nm
    | false=>rfl
   rw[e] at q;exact q H1 g1
 | bad ha hj hx ty hT=>exact .inr ⟨.bad ha hj hx ty hT,fun H1 g1=>⟨_,rfl,iteF (q H1 g1)⟩⟩
 | other ty hT=>exact .inr ⟨.other ty hT,fun H1 g1=>⟨_,rfl,iteF (q H1 g1)⟩⟩
end
abbrev bmV:List Value:=[.type "ValueError",.type "Exception",.type "BaseException",.type "object"]
def Rz (CN:Addr)(H:Hp)(E:XK):Prop:=∀ (ea:Addr) (H':Hp),Same H H'->E (.ref ea) (some CN) H'
def DiscOk (ns:List Int):Prop:=Bds 4990 ns/\∃ E:Nat,E<=9000/\(ns.length - 1)*(E+5)<9000/\∀ i j,i<=ns.length - 1->(rr (coef ns) (ns.length - 1) (coef (dl ns)) (dl ns).length i j).natAbs<=2 ^ E
def discOf (ns:List Int):Int:=tg (ns.length - 1)*det (ns.length - 1) fun i j=>rr (coef ns) (ns.length - 1) (coef (dl ns)) (dl ns).length i j
theorem PrAns.yes {K:FrQ}{H:Hp}{y:V}{b:Bool}(h:PrAns K H y b):b=true->∃ p:Nat,p∈PR/\y=.int (p:Int):=by
 cases h with
 | int i=>
  intro e;obtain⟨p,hp,rfl⟩:=inV_pr e;exact⟨p,hp,rfl⟩
 | other _ _=>intro e;cases e
theorem BmAns.yes {K:FrQ}{H:Hp}{x:V}{b:Bool}(h:BmAns K H x b):b=true->∃ (a:Addr) (ns:List Int),x=.ref a/\H a=some (.lst (ns.map V.int))/\L2.Monic ns/\2<=ns.length/\ns.length<=13:=by
 cases h with
 | whl ha ln b hb=>
  intro e;obtain⟨h1,h2,h3⟩:=hb.mp e;exact⟨_,_,rfl,ha,h1,h2,h3⟩
 | bad=>intro e;cases e
 | other=>intro e;cases e
def spPlain (K:FrQ)(C1 C2 C3:Addr):Sp:=fun vs H Q E=>∃ (x y:V) (bp bf:Bool),vs=[x,y]/\PrAns K H y bp/\BmAns K H x bf/\(bp=false->Rz C1 H E)/\(bp=true->bf=false->Rz C2 H E)/\
 (bp=true->bf=true->∀ (a:Addr) (ns:List Int) (p:Nat),x=.ref a->H a=some (.lst (ns.map V.int))->y=.int (p:Int)->p∈PR->L2.Monic ns->2<=ns.length->ns.length<=13->DiscOk ns/\(discOf ns=0->Rz C3 H E)/\∀ v:Nat,IsVal (p:Int) (discOf ns) v->discOf ns≠0->∀ H',Same H H'->Q (.int (v:Int)) H')
section
variable {P:Program} {w:World} {K:FrQ} {mg:Str->Option Value} {base:Heap}
theorem ok_plain_size {C_NoPrime C_NoPolynomial C_NotPlain:Addr}(m_NoPrime:mg "NoPrime"=some (.ref C_NoPrime))(q_NoPrime:PySem.W.excIn K C_NoPrime bmV "ValueError.__new__"=true)(m_NoPolynomial:mg "NoPolynomial"=some (.ref C_NoPolynomial))(q_NoPolynomial:PySem.W.excIn K C_NoPolynomial bmV "ValueError.__new__"=true)(m_NotPlain:mg "NotPlain"=some (.ref C_NotPlain))(q_NotPlain:PySem.W.excIn K C_NotPlain bmV "ValueError.__new__"=true)(B:Blt mg)
  (d_is_prime:Dfn P w K mg base 2 "is_prime" ["k"] (spPr K)) (d_is_bounded_monic:Dfn P w K mg base 4 "is_bounded_monic" Lq39 (spBm K)) (d_discriminant:Dfn P w K mg base 4 "discriminant" ["f"] (spDisc K)) (d_size_of_number:Dfn P w K mg base 2 "size_of_number" Lq36 spSizeN) (F:Src K mg "plain_size" s_plain_size Lq38):DfnE P w K mg base 5 "plain_size" Lq38 (spPlain K C_NoPrime C_NoPolynomial C_NotPlain):=by
 refine F.okE sc_plain_size (fun vs H Q E h=>?_) (fun f cdv A outer s H vs Q E hr h=>?_)
 ·obtain⟨x,y,bp,bf,rfl,_⟩:=h;rfl
 obtain⟨x,y,bp,bf,rfl,pa,fa,q1,q2,q3⟩:=h;refine⟨_,pss_cons (ps_if (pt_not (pt_val (pe_def d_is_prime hr (pa_cons (pv 1) pa_nil))))
   (pss_one (ps_raise raises_e rfl rfl m_NoPrime q_NoPrime PySem.F.excBase_ValueError rfl PySem.F.excBase_ValueError (pa_cons pe_str pa_nil)))
   (pss_nil))
  (pss_cons (ps_if (pt_not (pt_val (pe_def d_is_bounded_monic hr (pa_cons (pv 0) pa_nil))))
   (pss_one (ps_raise raises_e rfl rfl m_NoPolynomial q_NoPolynomial PySem.F.excBase_ValueError rfl PySem.F.excBase_ValueError (pa_cons pe_str pa_nil)))
   (pss_nil))
  (pss_cons (ps_set (i:=2) sc_plain_size.nd rfl (Or.inl rfl) (pe_def d_size_of_number hr (pa_cons (pe_def d_discriminant hr (pa_cons (pv 0) pa_nil)) (pa_cons (pv 1) pa_nil))))
  (pss_cons (ps_if (pt_cmpR op_is (pv 2) pe_non (nomark _))
   (pss_one (ps_raise raises_e rfl rfl m_NotPlain q_NotPlain PySem.F.excBase_ValueError rfl PySem.F.excBase_ValueError (pa_cons pe_str pa_nil)))
   (pss_nil))
  (pss_one (ps_ret (pv 2)))))),?_⟩
 walk_at "rd"
 refine⟨y,bp,rfl,pa,⟨_,rfl,?_⟩⟩
 have hy:=PrAns.yes pa;have hx:=BmAns.yes fa;cases bp with
 | false=>exact iteT ⟨by rw[sizeLine_eq];decide,fun ea _=>q1 rfl ea H (Same.refl H)⟩
 | true=>
  refine iteF ⟨_,rfl,x,bf,rfl,fa,fun H1 g1=>⟨_,rfl,?_⟩⟩
  cases bf with
  | false=>exact iteT ⟨by rw[sizeLine_eq];decide,fun ea _=>q2 rfl rfl ea H1 g1⟩
  | true=>
   obtain⟨p,hp,rfl⟩:=hy rfl;obtain⟨a,ns,rfl,ha,mf,l2,l13⟩:=hx rfl;obtain⟨⟨bds,E9,hE,hE9,bR⟩,qn,qs⟩:=q3 rfl rfl a ns p rfl ha rfl hp mf l2 l13;have pp:=pr_pos hp;refine iteF ⟨_,rfl,a,ns,ns.length - 1,E9,rfl,SqL.of (g1 _ _ ha),by omega,by omega,by omega,mf,bds,hE,hE9,bR,fun H2 g2=>?_⟩
   refine⟨_,rfl,discOf ns,(p:Int),rfl,by omega,by omega,fun z H3 g3 sv=>?_⟩
   have g:=(g1.trans g2).trans g3;rcases sv with ⟨d0,rfl⟩ | ⟨d0,v,hv,rfl⟩
   ·exact⟨_,rfl,rfl,_,rfl,iteT ⟨by rw[sizeLine_eq];decide,fun ea _=>qn d0 ea H3 g⟩⟩
   ·exact⟨_,rfl,rfl,_,rfl,iteF ⟨_,rfl,qs v hv d0 H3 g⟩⟩
def spRefuse (K:FrQ)(C1 C2 C3 C4:Addr):Sp:=fun vs H Q E=>∃ (x y:V) (bp bf:Bool),vs=[x,y]/\PrAns K H y bp/\BmAns K H x bf/\(bp=false->Rz C1 H E)/\(bp=true->bf=false->Rz C2 H E)/\
 (bp=true->bf=true->∀ (a:Addr) (ns:List Int) (p:Nat),x=.ref a->H a=some (.lst (ns.map V.int))->y=.int (p:Int)->p∈PR->L2.Monic ns->2<=ns.length->ns.length<=13->DiscOk ns/\(discOf ns=0->Rz C3 H E)/\∀ v:Nat,IsVal (p:Int) (discOf ns) v->discOf ns≠0->(7<ns.length\/24<v->Rz C4 H E)/\(ns.length<=7->v<=24->∀ H',Same H H'->Q .non H'))
theorem ok_refuse_for_basis {C_NoPrime C_NoPolynomial C_NotPlain C_TooDeep:Addr}(m_TooDeep:mg "TooDeep"=some (.ref C_TooDeep))(q_TooDeep:PySem.W.excIn K C_TooDeep bmV "ValueError.__new__"=true)(B:Blt mg){t1 t2:Tok}(m_MOST_BASIS_DEGREE:mg "MOST_BASIS_DEGREE"=some (.int 6 t1))(m_MOST_BASIS_SIZE:mg "MOST_BASIS_SIZE"=some (.int 24 t2))
  (d_plain_size:DfnE P w K mg base 5 "plain_size" Lq38 (spPlain K C_NoPrime C_NoPolynomial C_NotPlain)) (F:Src K mg "refuse_for_basis" s_refuse_for_basis Lq38):DfnE P w K mg base 6 "refuse_for_basis" Lq38 (spRefuse K C_NoPrime C_NoPolynomial C_NotPlain C_TooDeep):=by
 refine F.okE sc_refuse_for_basis (fun vs H Q E h=>?_) (fun f cdv A outer s H vs Q E hr h=>?_)
 ·obtain⟨x,y,bp,bf,rfl,_⟩:=h;rfl
 obtain⟨x,y,bp,bf,rfl,pa,fa,q1,q2,q3⟩:=h;refine⟨_,pss_cons (ps_set (i:=2) sc_refuse_for_basis.nd rfl (Or.inl rfl) (pe_defE d_plain_size pass_e hr (pa_cons (pv 0) (pa_cons (pv 1) pa_nil))))
  (pss_one (ps_if (PW.pt (pw_or (pt_cmpR op_gt (pe_op op_sub (pe_callB (callK_len (K:=K) rfl) rfl B.«len» bt_len (pa_cons (pv 0) pa_nil)) pe_int) (pe_glob (v:=.int 6) rfl m_MOST_BASIS_DEGREE ⟨_,rfl⟩) (nomark _)) (pw_or1 (pt_cmpR op_gt (pv 2) (pe_glob (v:=.int 24) rfl m_MOST_BASIS_SIZE ⟨_,rfl⟩) (nomark _)))))
   (pss_one (ps_raise raises_e rfl rfl m_TooDeep q_TooDeep PySem.F.excBase_ValueError rfl PySem.F.excBase_ValueError (pa_cons pe_str pa_nil)))
   (pss_nil))),?_⟩
 walk_at "rd"
 refine⟨x,y,bp,bf,rfl,pa,fa,q1,q2,fun hb1 hb2 a ns p ex ha ey hp mf l2 l13=>?_⟩
 obtain⟨dk,qn,qs⟩:=q3 hb1 hb2 a ns p ex ha ey hp mf l2 l13;subst ex ey;refine⟨dk,qn,fun v hv d0 H1 g1=>?_⟩
 obtain⟨qd,qo⟩:=qs v hv d0;refine⟨_,rfl,a,_,rfl,.inl (SqL.of (g1 _ _ ha)),?_⟩
 rw[Ya];refine⟨_,_,rfl,rfl,_,_,rfl,rfl,_,rfl,ite2 (fun c=>?_) (fun c=>?_)⟩
 ·have c':=Wx c
  exact iteT ⟨by rw[sizeLine_eq];decide,fun ea _=>qd (.inl (by omega)) ea H1 g1⟩
 ·have c':¬ (6:Int)<(ns.length:Int) - 1:=fun z=>c (Ww z)
  refine⟨_,rfl,_,_,rfl,rfl,_,rfl,ite2 (fun d=>?_) (fun d=>?_)⟩
  ·have d':=Wx d
   exact⟨by rw[sizeLine_eq];decide,fun ea _=>qd (.inr (by omega)) ea H1 g1⟩
  ·have d':¬ (24:Int)<(v:Int):=fun z=>d (Ww z)
   exact qo (by omega) (by omega) H1 g1
end
theorem lv_take {n m:Nat}{v:Vc}(h:m<=n):(lv n v).take m=lv m v:=by
 unfold lv;rw[<- List.map_take,List.take_range,Nat.min_eq_left h]
structure BasisAt (H:Hp)(n d:Nat)(T:Nat->Vc)(s:Nat->Nat)(vs:List V):Prop where
 len:vs.length=n
 at_:∀ i,i<n->∃ t l,vs[i]?=some (.ref t)/\H t=some (.tup [.ref l,.int ((d - s i:Nat):Int)])/\H l=some (.lst ((lv (i+1) fun j=>T i j / T i i).map V.int))
def spWhole (K:FrQ)(Pp C1 C2 C3 C4:Addr):Sp:=fun vs H Q E=>∃ (x y:V) (bp bf:Bool),vs=[x,y]/\PrAns K H y bp/\BmAns K H x bf/\TabQ qualL Pp H/\(bp=false->Rz C1 H E)/\(bp=true->bf=false->Rz C2 H E)/\
 (bp=true->bf=true->∀ (a:Addr) (ns:List Int) (p:Nat),x=.ref a->H a=some (.lst (ns.map V.int))->y=.int (p:Int)->p∈PR->L2.Monic ns->2<=ns.length->ns.length<=13->del H Pp a=some (.lst (ns.map V.int))/\DiscOk ns/\(discOf ns=0->Rz C3 H E)/\∀ v:Nat,IsVal (p:Int) (discOf ns) v->discOf ns≠0->(7<ns.length\/24<v->Rz C4 H E)/\
  (ns.length<=7->v<=24->∀ (R:Type) (_:Lean.Grind.CommRing R) (φ:Vc->R) (ip:R) (d k:Nat) (T:Nat->Vc) (s:Nat->Nat) r vs H',NewO H Pp H'->TabQ qualL Pp H'->Xr (coef ns) (ns.length - 1) p φ ip->GrowOk (ns.length - 1) p φ ip d T s->MulOk (ns.length - 1) p (elT (ns.length - 1) φ ip d T) ip k 0 (fun _ _=>0)->d<=12->H r=none->del H' Pp r=some (.lst vs)->BasisAt (del H' Pp) (ns.length - 1) d T s vs->Q (.ref r) H'))
section
variable {P:Program} {w:World} {K:FrQ} {mg:Str->Option Value} {base:Heap}
theorem ok_whole_basis {P_lead_at C_NoPrime C_NoPolynomial C_NotPlain C_TooDeep:Addr}(B:Blt mg)(d_refuse_for_basis:DfnE P w K mg base 6 "refuse_for_basis" Lq38 (spRefuse K C_NoPrime C_NoPolynomial C_NotPlain C_TooDeep))(d_grown:Dfn P w K mg base 10 "grown" Lq38 (spGrown K P_lead_at))(d_size_of_number:Dfn P w K mg base 2 "size_of_number" Lq36 spSizeN)(F:Src K mg "whole_basis" s_whole_basis Lq38):DfnE P w K mg base 11 "whole_basis" Lq38 (spWhole K P_lead_at C_NoPrime C_NoPolynomial C_NotPlain C_TooDeep):=by
 refine F.okE sc_whole_basis (fun vs H Q E h=>?_) (fun f cdv A outer s H vs Q E hr h=>?_)
 ·obtain⟨x,y,bp,bf,rfl,_⟩:=h;rfl
 obtain⟨x,y,bp,bf,rfl,pa,fa,tq,q1,q2,q3⟩:=h;refine⟨_,pss_cons (ps_expr (pe_defE d_refuse_for_basis pass_e hr (pa_cons (pv 0) (pa_cons (pv 1) pa_nil))))
  (pss_cons (ps_asg (pe_def d_grown hr (pa_cons (pv 0) (pa_cons (pv 1) pa_nil))) (pgK_tup (n:=2) (K:=K) rfl rfl (pgs_cons (pg_name (i:=2) sc_whole_basis.nd rfl (Or.inl rfl)) (pgs_cons (pg_name (i:=3) sc_whole_basis.nd rfl (Or.inl rfl)) pgs_nil))))
  (pss_cons (ps_set (i:=4) sc_whole_basis.nd rfl (Or.inl rfl) (pe_lst pa_nil))
  (pss_cons (ps_for own_e rfl (piK_enum (K:=K) rfl rfl B.«enumerate» (pa_cons (pv 2) pa_nil)) (pgK_tup (n:=2) (K:=K) rfl rfl (pgs_cons (pg_name (i:=5) sc_whole_basis.nd rfl (Or.inl rfl)) (pgs_cons (pg_name (i:=6) sc_whole_basis.nd rfl (Or.inl rfl)) pgs_nil)))
   (pss_cons (ps_set (i:=7) sc_whole_basis.nd rfl (Or.inr rfl) (pe_ix (ixK_list (K:=K) rfl) (pv 6) (pv 5) (fun _ _=>rfl)))
   (pss_one (ps_expr (pe_bm PySem.F.plainAttrs_list PySem.F.slot_list_append PySem.F.type_list_append mt_append (pv 4) (pa_cons (pe_tup (pa_cons (pe_comp (compScope_mk (N:=["number","lead"]) (sl:=[none,some 7]) (defScope s_whole_basis) Lq3 rfl rfl (by decide +kernel)) rfl (piK_list (K:=K) rfl (pe_slice (slK_list (K:=K) rfl) (pv 6) po_none (po_some (pe_op op_add (pv 5) pe_int)))) (fun _ _ _ _ _=>(pg_name (i:=0) (by show Yo (["number","lead"]:List Str);decide +kernel) rfl (Or.inl rfl))) (fun _ _ _ _ _=>pif_none) (fun _ _ _ _ _=>(pe_op op_fdivW (pv 0) (pv 1)))) (pa_cons (pe_op op_sub (pv 3) (pe_def d_size_of_number hr (pa_cons (pv 7) (pa_cons (pv 1) pa_nil)))) pa_nil))) pa_nil))))))
  (pss_one (ps_ret (pv 4)))))),?_⟩
 walk_at "rd"
 refine⟨x,y,bp,bf,rfl,pa,fa,q1,q2,fun hb1 hb2 a ns p ex ha ey hp mf l2 l13=>?_⟩
 obtain⟨hda,dk,qn,qs⟩:=q3 hb1 hb2 a ns p ex ha ey hp mf l2 l13;subst ex ey;refine⟨dk,qn,fun v hv d0=>⟨(qs v hv d0).1,fun l7 v24 H1 g1=>?_⟩⟩
 have qo:=(qs v hv d0).2 l7 v24;have pp:=pr_pos hp;obtain⟨n,hn⟩:∃ n,ns.length=n+1:=⟨ns.length - 1,by omega⟩
 have en:ns.length - 1=n:=by omega
 rw[en] at qo;obtain⟨m,em,nd⟩:=hv.fac;have tgs:tg n=1\/tg n=-1:=by
  obtain⟨t1,t2⟩:=tg_at n (by omega)
  by_cases c:n*(n - 1) / 2 % 2=1
  ·exact .inr (t1 c)
  ·exact .inl (t2 c)
 have eD:(det n fun i j=>rr (coef ns) n (coef (dl ns)) (dl ns).length i j)=(p:Int) ^ v*(tg n*m):=by
  have e1:tg n*(det n fun i j=>rr (coef ns) n (coef (dl ns)) (dl ns).length i j)=(p:Int) ^ v*m:=by rw[<- em];unfold discOf;rw[en]
  rcases tgs with h | h
  ·rw[h] at e1 ⊢;grind
  ·rw[h] at e1 ⊢;grind
 have nd':¬ (p:Int) ∣ tg n*m:=fun ⟨c,e⟩=>nd (by
  rcases tgs with h | h
  ·exact⟨c,by rw[h] at e;grind⟩
  ·exact⟨-c,by rw[h] at e;grind⟩)
 have n1:NewO H P_lead_at H1:=NewO.of g1;obtain⟨ps,hPs,_⟩:=id (tq.same g1);refine⟨_,rfl,_,rfl,a,ns,n,p,v,tg n*m,rfl,hp,n1.del _ _ hda,hn,by omega,by omega,mf,dk.1,eD,nd',v24,tq.same g1,fun R ri φ ip d k T s r t H2 n2 tq2 X G M d12 ht ett rr=>?_⟩
 have ett':=(del_inv ett).2;obtain⟨ps2,hP2,_⟩:=id tq2;refine⟨t,_,rfl,SqT.of ett',rfl,_,_,rfl,_,_,rfl,rfl,?_⟩
 refine⟨len_ok rfl,fun tp ntp=>?_⟩
 have k3:=same_new ntp (.lst []);have etp:(L2.upd H2 tp (.lst [])) tp=some (.lst []):=upd_same;generalize L2.upd H2 tp (.lst [])=H3 at k3 etp;have rH2:Rep H2 Any r (mE n n T):=rr.any.same (del_same _ _);obtain⟨lr,us,rfl,hlr,_,C⟩:=id rH2.cf;have n02:NewO H P_lead_at H2:=n1.trans n2;have ftp:H tp=none:=n02.fresh ⟨_,hP2⟩ ntp;have tpP:tp≠P_lead_at:=fun z=>by rw[z,hP2] at ntp;cases ntp
 refine⟨_,rfl,lr,rfl,⟨_,SqL.of (k3 _ _ hlr)⟩,for_enum (st:=0) (xs:=us) (fun i σ H4=>Same H2 H4/\∃ (ys:List V) (o1 o2 o3:Option V),σ=[Rq a,Iq (p),Rq lr,Iq (d),Rq tp,o1,o2,o3]/\H4 tp=some (.lst ys)/\ys.length=i/\∀ j,j<i->∃ t l,ys[j]?=some (.ref t)/\H4 t=some (.tup [.ref l,.int ((d - s j:Nat):Int)])/\H4 l=some (.lst ((lv (j+1) fun q=>T j q / T j j).map V.int))/\t≠tp/\l≠tp/\H2 t=none/\H2 l=none)
  ⟨k3,[],_,_,_,rfl,etp,rfl,fun j hj=>W1 hj (Zl _)⟩ (fun i σ H4 _ h=>SqL.of (h.1 _ _ hlr)) ?_ ?_⟩
 ·rintro i vx σ H4 r5 hvx ⟨g4,ys,o1,o2,o3,rfl,e4,ly,hys⟩ nr5
  obtain⟨hi,ri⟩:=C.get hvx;obtain⟨lx,rfl,hlx,_⟩:=vs_rE ri;rw[Wo];have k5:=same_new nr5 (.tup [.int (i:Int),.ref lx]);have e5:(L2.upd H4 r5 (.tup [.int (i:Int),.ref lx])) r5=some (.tup [.int (i:Int),.ref lx]):=upd_same;generalize L2.upd H4 r5 (.tup [.int (i:Int),.ref lx])=H5 at k5 e5;have g5:=g4.trans k5;refine⟨r5,_,rfl,SqT.of e5,rfl,_,_,rfl,_,_,rfl,rfl,?_⟩
  refine⟨_,rfl,_,rfl,lx,_,_,_,rfl,rfl,SqL.of (g5 _ _ hlx),lv_at hi,?_⟩
  refine⟨_,rfl,.inl ⟨rfl,_,SqL.of (k5 _ _ e4)⟩,?_⟩
  refine⟨_,rfl,_,rfl,_,_,rfl,rfl,_,rfl,lx,_,rfl,SqL.of (g5 _ _ hlx),fun l6 n6=>?_⟩
  rw[show cutV ((lv n (T i)).map V.int) none (some ((i:Int)+1))=(lv (i+1) (T i)).map V.int from by
   rw[show (i:Int)+1=((i+1:Nat):Int) by omega,cutV_takeV (by rw[Ya,lv_len];omega),<- List.map_take,lv_take (by omega)]]
  have k6:=same_new n6 (.lst ((lv (i+1) (T i)).map V.int));have e6:(L2.upd H5 l6 (.lst ((lv (i+1) (T i)).map V.int))) l6=some (.lst ((lv (i+1) (T i)).map V.int)):=upd_same;generalize L2.upd H5 l6 (.lst ((lv (i+1) (T i)).map V.int))=H6 at k6 e6;obtain⟨eTi,sle⟩:=G.pw i hi;have tpos:0<T i i:=by rw[eTi];exact Zx (by omega)
  have bTi:Bd 200 (T i i):=by
   have:=G.rng i i hi hi
   exact Bd.le (y:=(p:Int) ^ d) (by omega) (pd_bd hp (by omega))
  refine⟨l6,rfl,⟨_,SqL.of e6⟩,fun D hD=>?_⟩
  refine cmpL (fun j=>.num (T i j / T i i)) (n:=i+1) (by rw[Ya,lv_len]) e6 hD (by omega) (fun j vz H7 Q2 hj g7 hvz q2=>?_) fun H7 g7 rr7=>?_
  ·obtain⟨y1,hy1,rfl⟩:=map_int_get hvz
   rw[lv_get hj] at hy1;cases hy1;refine⟨_,rfl,_,rfl,_,_,rfl,rfl,bTi.dv (by omega),?_⟩
   show Q2 (V.int ((T i j).fdiv (T i i))) H7
   rw[Zd _ (by omega)]
   exact q2 _ H7 (Same.refl _) (.num _)
  ·obtain⟨lD,eD',hlD,nD⟩:=vs_rE rr7
   cases eD';refine⟨_,rfl,_,rfl,_,rfl,T i i,(p:Int),rfl,by omega,by omega,fun z H8 g8 sv=>?_⟩
   have sz:z=.int (s i:Int):=by
    rcases sv with ⟨z0,_⟩ | ⟨_,v',hv',rfl⟩
    ·omega
    ·rw[hv'.uniq (IsVal.of (v:=s i) (m:=1) (by omega) (by rw[eTi,Wm]) (fun h=>by have:=Int.le_of_dvd (by decide) h;omega))]
   subst sz;refine⟨_,_,rfl,rfl,len_ok rfl,fun t9 nt9=>?_⟩
   generalize hX:L2.upd H8 t9 _=H9;have x9:=new_of nt9 hX;clear hX;have k9:=x9.1;have e9:H9 t9=some (.tup [.ref D,.int ((d - s i:Nat):Int)]):=by
    rw[x9.2];show some (HO.tup [V.ref D,V.int ((d:Int) - (s i:Int))])=_
    rw[show (d:Int) - (s i:Int)=((d - s i:Nat):Int) by omega]
   have g49:=(((k5.trans k6).trans g7).trans g8).trans k9;have e49:=g49 _ _ e4;refine⟨tp,_,_,rfl,rfl,e49,by rw[ly,sizeLine_eq];omega,?_⟩
   have nD4:H4 D=none:=(k5.trans k6).free hD;have nt4:H4 t9=none:=(((k5.trans k6).trans g7).trans g8).free nt9;have Dtp:D≠tp:=fun z=>by rw[z,e4] at nD4;cases nD4
   have ttp:t9≠tp:=fun z=>by rw[z,e4] at nt4;cases nt4
   refine⟨(g4.trans g49).free_upd ntp _,_,_,_,_,rfl,upd_same,by rw[Yl,ly];rfl,fun j hj=>?_⟩
   by_cases c:j=i
   ·subst c
    refine⟨t9,D,by rw[<- ly,List.getElem?_concat_length],by rw[upd_ne ttp];exact e9,by rw[upd_ne Dtp];exact k9 _ _ (g8 _ _ hlD),ttp,Dtp,g4.free nt4,g4.free nD4⟩
   ·obtain⟨t',l',h1,h2,h3,h4,h5,h6,h7⟩:=hys j (by omega)
    exact⟨t',l',by rw[Y2 (by omega)];exact h1,by rw[upd_ne h4];exact g49 _ _ h2,by rw[upd_ne h5];exact g49 _ _ h3,h4,h5,h6,h7⟩
 ·rintro σ H4 ⟨g4,ys,o1,o2,o3,rfl,e4,ly,hys⟩
  rw[C.len] at ly hys;have nP:∀ b,H2 b=none->b≠P_lead_at:=fun b hb z=>by rw[z,hP2] at hb;cases hb
  refine⟨_,rfl,qo R ri φ ip d k T s tp ys H4 (n02.trans (NewO.of g4)) (tq2.same g4) X G M d12 ftp (by rw[del_of tpP];exact e4) ⟨ly,fun i hi=>?_⟩⟩
  obtain⟨t',l',h1,h2,h3,h4,h5,h6,h7⟩:=hys i hi;exact⟨t',l',h1,by rw[del_of (nP _ h6)];exact h2,by rw[del_of (nP _ h7)];exact h3⟩
end
def sN (W:Nat):Nat->Fn->Nat
 | 0,_=>0
 | N+1,h=>sN W N h+(h N).natAbs*W ^ N
theorem sN_mono {W:Nat}{h:Fn}:∀ {N M:Nat},N<=M->sN W N h<=sN W M h
 | N,0,h=>by rw[show N=0 by omega];exact Yd _
 | N,M+1,h=>by
  by_cases c:N=M+1
  ·rw[c];exact Yd _
  ·have:=sN_mono (W:=W) (h:=by assumption) (show N<=M by omega)
   show _<=sN W M _+_
   omega
theorem sN_term {W:Nat}{h:Fn}{N j:Nat}(hj:j<N):(h j).natAbs*W ^ j<=sN W N h:=by
 have h1:(h j).natAbs*W ^ j<=sN W (j+1) h:=Nat.le_add_left _ _;exact Ys h1 (sN_mono (by omega))
theorem sN_add {W:Nat}{a b c:Fn}(e:∀ j,c j=a j+b j):∀ N,sN W N c<=sN W N a+sN W N b
 | 0=>Yd 0
 | N+1=>by
  show sN W N c+(c N).natAbs*W ^ N<=sN W N a+(a N).natAbs*W ^ N+(sN W N b+(b N).natAbs*W ^ N)
  have h1:=sN_add (W:=W) e N;have h2:(c N).natAbs<=(a N).natAbs+(b N).natAbs:=by rw[e N];exact Int.natAbs_add_le _ _
  have h3:=Y1 (W ^ N) h2;rw[Wg] at h3;omega
theorem sN_shift {W i:Nat}{g:Fn}(c:Int):∀ N,sN W N (fun j=>c*cv (xp i) g j)<=c.natAbs*W ^ i*sN W N g
 | 0=>Y7 _
 | N+1=>by
  have key:∀ M,sN W (M+i) (fun j=>c*cv (xp i) g j)<=c.natAbs*W ^ i*sN W M g:=by
   intro M;induction M with
   | zero=>
    have z:∀ k,k<=i->sN W k (fun j=>c*cv (xp i) g j)=0:=by
     intro k;induction k with
     | zero=>intro _;rfl
     | succ k ih=>
      intro hk;show sN W k _+(c*cv (xp i) g k).natAbs*W ^ k=0
      rw[ih (by omega),cv_xp,Wu (by omega)];simp
    rw[Wo,z i (Yd i)];exact Y7 _
   | succ M ih=>
    rw[show M+1+i=M+i+1 by omega]
    show sN W (M+i) _+(c*cv (xp i) g (M+i)).natAbs*W ^ (M+i)<=c.natAbs*W ^ i*(sN W M g+(g M).natAbs*W ^ M)
    rw[cv_xp,Wv (by omega),Nat.add_sub_cancel,Zf,Nat.mul_add,Wf]
    have:c.natAbs*(g M).natAbs*(W ^ M*W ^ i)=c.natAbs*W ^ i*((g M).natAbs*W ^ M):=by ac_rfl
    omega
  refine Ys (sN_mono (show N+1<=N+1+i by omega)) (key (N+1))
theorem sN_cv {W L:Nat}{a g:Fn}(ha:∀ j,L<=j->a j=0)(N:Nat):sN W N (cv a g)<=sN W L a*sN W N g:=by
 have e:∀ m,cv a g m=sgm L fun i=>a i*cv (xp i) g m:=by
  intro m;have h1:cv a g m=sumN (m+1) fun i=>a i*g (m - i):=rfl
  rw[h1,<- sgm_sumN];have h2:sgm L (fun i=>a i*cv (xp i) g m)=sgm (L+(m+1)) fun i=>a i*cv (xp i) g m:=(sgm_cut (by omega) fun i hi _=>by rw[ha i hi,Z9]).symm
  have h3:sgm (m+1) (fun i=>a i*g (m - i))=sgm (L+(m+1)) fun i=>a i*cv (xp i) g m:=by
   rw[sgm_cut (m:=m+1) (n:=L+(m+1)) (by omega) fun i hi _=>by rw[cv_xp,Wu (by omega),Y8]]
   exact sgm_congr fun i hi=>by rw[cv_xp,Wv (by omega)]
  rw[h2,h3]
 have key:∀ M,sN W N (fun m=>sgm M fun i=>a i*cv (xp i) g m)<=sN W M a*sN W N g:=by
  intro M;induction M with
  | zero=>
   have:∀ K,sN W K (fun _=>(0:Int))=0:=fun K=>by
    induction K with
    | zero=>rfl
    | succ K ih=>show sN W K _+Wk 0*_=0;rw[ih];simp
   show sN W N (fun _=>(0:Int))<=_
   rw[this];exact Y7 _
  | succ M ih=>
   refine Ys (sN_add (a:=fun m=>sgm M fun i=>a i*cv (xp i) g m) (b:=fun m=>a M*cv (xp M) g m) (fun m=>rfl) N) ?_
   show _<=(sN W M a+(a M).natAbs*W ^ M)*sN W N g
   rw[Wg];exact Nat.add_le_add ih (sN_shift (a M) N)
 rw[show cv a g=fun m=>sgm L fun i=>a i*cv (xp i) g m from funext e]
 exact key L
structure PG (f:List Int)(n:Nat):Prop where
 len:f.length=n+1
 mon:L2.Monic f
 nm:sN (2 ^ 28) (n+1) (coef f)<=(2*2 ^ 28) ^ n
theorem sN_stay {W:Nat}{h:Fn}{N:Nat}(h0:∀ j,N<=j->h j=0):∀ {M},N<=M->sN W M h=sN W N h
 | 0,hM=>by rw[show N=0 by omega]
 | M+1,hM=>by
  by_cases c:N=M+1
  ·rw[c]
  ·show sN W M h+(h M).natAbs*W ^ M=_
   rw[sN_stay h0 (show N<=M by omega),h0 M (by omega)];simp
theorem PG.hi {f:List Int}{n:Nat}(h:PG f n){j:Nat}(hj:n+1<=j):coef f j=0:=coef_ge (by rw[h.len];exact hj)
theorem PG.top {f:List Int}{n:Nat}(h:PG f n):Top (coef f) n:=top_coef h.len h.mon
theorem PG.mul {f g:List Int}{n m:Nat}(hf:PG f n)(hg:PG g m):PG (trim (pmul f g)) (n+m):=by
 have fn:f≠[]:=hf.mon.1;have gn:g≠[]:=hg.mon.1;have hl:(pmul f g).length=n+m+1:=by
  unfold pmul;rw[Wu (by rintro (z|z);exact fn z;exact gn z),Ya,Yg,hf.len,hg.len];omega
 have top:coef (pmul f g) (n+m)=1:=by
  rw[cpf,cv_top hg.top fun i hi=>hf.hi (by omega)];exact hf.top.one
 have nn:Norm (pmul f g):=.inr (by rw[hl];show coef _ (n+m)≠0;rw[top];decide)
 rw[trim_norm nn];refine⟨hl,⟨(fun z=>by rw[z] at hl;cases hl),by rw[hl];exact top⟩,?_⟩
 rw[cpf,Wf];refine Ys (sN_cv (L:=n+1) (fun j hj=>hf.hi hj) _) (Wj hf.nm ?_)
 rw[sN_stay (N:=m+1) (fun j hj=>hg.hi hj) (by omega)]
 exact hg.nm
theorem PG.one:PG [1] 0:=⟨rfl,⟨by simp,rfl⟩,by decide⟩
theorem PG.lin {c:Int}(h:c.natAbs<=2 ^ 28):PG [c,1] 1:=by
 refine⟨rfl,⟨by simp,rfl⟩,?_⟩
 show 0+c.natAbs*(2 ^ 28) ^ 0+1*(2 ^ 28) ^ 1<=(2*2 ^ 28) ^ 1
 omega
theorem PG.quad {a b:Int}(ha:a.natAbs<=9)(hb:b.natAbs<=4):PG [a,b,1] 2:=by
 refine⟨rfl,⟨by simp,rfl⟩,?_⟩
 show 0+a.natAbs*(2 ^ 28) ^ 0+b.natAbs*(2 ^ 28) ^ 1+1*(2 ^ 28) ^ 2<=(2*2 ^ 28) ^ 2
 omega
theorem PG.wb {f:List Int}{n:Nat}(h:PG f n):wb (2 ^ 28) ((2*2 ^ 28) ^ n) (coef f):=fun j=>by
 by_cases c:j<n+1
 ·exact Ys (sN_term c) h.nm
 ·rw[h.hi (by omega)];simp
theorem PG.bd {f:List Int}{n:Nat}(h:PG f n)(hn:n<=9)(j:Nat):(coef f j).natAbs<=2 ^ 261:=by
 have h1:=h.wb j;have h2:(coef f j).natAbs<=(coef f j).natAbs*(2 ^ 28) ^ j:=Nat.le_mul_of_pos_right _ (Zw (by decide))
 have h3:(2*2 ^ 28) ^ n<=(2*2 ^ 28) ^ 9:=Zy (by decide) hn
 have h4:(2*2 ^ 28) ^ 9=2 ^ 261:=by decide
 omega
theorem PG.bds {f:List Int}{n:Nat}(h:PG f n)(hn:n<=9):Bds 262 f:=bds_of fun j _=>Zv (h.bd hn j) (Z7 (by decide) (by decide))
theorem PG.disc {f:List Int}{n:Nat}(h:PG f n)(hn1:1<=n)(hn:n<=9):DiscOk f:=by
 have en:f.length - 1=n:=by rw[h.len];omega
 refine⟨(h.bds hn).mono (by decide),915,by decide,by rw[en];omega,fun i j hi=>?_⟩
 rw[en] at hi ⊢;unfold rr;have hk:∀ k,k<(dl f).length->(coef (dl f) k*tk (coef f) n (k+i) j).natAbs<=2 ^ (265+646):=fun k hk=>by
  rw[len_dl,en] at hk;rw[Zf,Wf];refine Wj ?_ ?_
  ·rw[coef_dl,Zf]
   refine Ys (Wj (show ((k+1:Nat):Int).natAbs<=2 ^ 4 by omega) (h.bd hn (k+1))) ?_
   rw[<- Wf];exact Yd _
  ·have h1:=wb_tk h.top hn1 (W:=2 ^ 28) (by decide) h.wb (k+i) j
   have h2:(tk (coef f) n (k+i) j).natAbs<=(tk (coef f) n (k+i) j).natAbs*(2 ^ 28) ^ j:=Nat.le_mul_of_pos_right _ (Zw (by decide))
   refine Ys (Ys h2 h1) ?_
   have h3:2 ^ 28*(1+2 ^ n)<=2 ^ 38:=by
    have:2 ^ n<=2 ^ 9:=Zy (by decide) hn
    omega
   refine Ys (Nat.pow_le_pow_left h3 _) ?_
   rw[<- Nat.pow_mul];exact Zy (by decide) (by omega)
 refine Ys (sgm_abs hk) ?_
 rw[len_dl,en,show (2:Nat) ^ 915=2 ^ 4*2 ^ (265+646) by rw[<- Wf]]
 exact Y1 _ (by omega)
def sV (x:String):V:=.str (Str.ofString x)
inductive DueV (ns:List Int)(p:Nat):V->Prop where
 | plain:discOf ns=0->DueV ns p (sV "plain")
 | deep {v:Nat}:discOf ns≠0->IsVal (p:Int) (discOf ns) v->7<ns.length\/24<v->DueV ns p (sV "deep")
 | fine {v:Nat}:discOf ns≠0->IsVal (p:Int) (discOf ns) v->ns.length<=7->v<=24->DueV ns p (.int ((ns.length:Int) - 1))
theorem DueV.uniq {ns:List Int}{p:Nat}{x y:V}(a:DueV ns p x)(b:DueV ns p y):x=y:=by
 cases a with
 | plain h=>
  cases b with
  | plain=>rfl
  | deep h'=>exact W1 h h'
  | fine h'=>exact W1 h h'
 | deep h hv hd=>
  cases b with
  | plain h'=>exact W1 h' h
  | deep=>rfl
  | fine _ hv' h1 h2=>
   have:=hv.uniq hv'
   omega
 | fine h hv h1 h2=>
  cases b with
  | plain h'=>exact W1 h' h
  | deep _ hv' hd=>
   have:=hv.uniq hv'
   omega
  | fine=>rfl
structure Exq (K:FrQ)(N B:Addr)(j:Nat)(cs:List Addr):Prop where
 ex:PySem.W.exmOne K (.ref N) (.ref B)=some true
 k:ExcK K N
 va:PySem.W.kitOne K (.ref N) (.type "ValueError")=some true
 ki:∀ i c,cs[i]?=some c->PySem.W.kitOne K (.ref N) (.ref c)=some (decide (i=j))
def spOut (K:FrQ)(Pp:Addr):Sp:=fun vs H Q _=>∃ (x y:V) (bp bf:Bool),vs=[x,y]/\PrAns K H y bp/\BmAns K H x bf/\TabQ qualL Pp H/\
 (bp=true->bf=true->∀ (a:Addr) (ns:List Int),x=.ref a->H a=some (.lst (ns.map V.int))->del H Pp a=some (.lst (ns.map V.int))/\DiscOk ns)/\
 ∀ v H',NewO H Pp H'->TabQ qualL Pp H'->(bp=false->v=sV "prime")->(bp=true->bf=false->v=sV "polynomial")->(bp=true->bf=true->∀ (a:Addr) (ns:List Int) (p:Nat),x=.ref a->H a=some (.lst (ns.map V.int))->y=.int (p:Int)->DueV ns p v)->Q v H'
section
variable {P:Program} {w:World} {K:FrQ} {mg:Str->Option Value} {base:Heap}
theorem bt_ValueError:bootBuiltins "ValueError"=some (.type "ValueError"):=by decide +kernel
theorem ok_q_outcome {P_lead_at C_BranchError C_NoPrime C_NoPolynomial C_NotPlain C_TooDeep C_NoRow C_NoSize C_NoText C_NoTower:Addr}
  (x0:Exq K C_NoPrime C_BranchError 0 [C_NoPrime,C_NoPolynomial,C_NotPlain,C_TooDeep,C_NoRow,C_NoSize,C_NoText,C_NoTower]) (x1:Exq K C_NoPolynomial C_BranchError 1 [C_NoPrime,C_NoPolynomial,C_NotPlain,C_TooDeep,C_NoRow,C_NoSize,C_NoText,C_NoTower])
  (x2:Exq K C_NotPlain C_BranchError 2 [C_NoPrime,C_NoPolynomial,C_NotPlain,C_TooDeep,C_NoRow,C_NoSize,C_NoText,C_NoTower]) (x3:Exq K C_TooDeep C_BranchError 3 [C_NoPrime,C_NoPolynomial,C_NotPlain,C_TooDeep,C_NoRow,C_NoSize,C_NoText,C_NoTower])
  (m_BranchError:mg "BranchError"=some (.ref C_BranchError)) (m_NoPrime:mg "NoPrime"=some (.ref C_NoPrime)) (m_NoPolynomial:mg "NoPolynomial"=some (.ref C_NoPolynomial)) (m_NotPlain:mg "NotPlain"=some (.ref C_NotPlain)) (m_TooDeep:mg "TooDeep"=some (.ref C_TooDeep)) (m_NoRow:mg "NoRow"=some (.ref C_NoRow)) (m_NoSize:mg "NoSize"=some (.ref C_NoSize)) (m_NoText:mg "NoText"=some (.ref C_NoText)) (m_NoTower:mg "NoTower"=some (.ref C_NoTower))
  (B:Blt mg) (d_whole_basis:DfnE P w K mg base 11 "whole_basis" Lq38 (spWhole K P_lead_at C_NoPrime C_NoPolynomial C_NotPlain C_TooDeep)) (F:Src K mg "_law_outcome" s_q_outcome Lq28):Dfn P w K mg base 12 "_law_outcome" Lq28 (spOut K P_lead_at):=by
 refine F.ok sc_q_outcome (fun vs H Q E h=>?_) (fun fa cdv A outer s H vs Q E hr h=>?_)
 ·obtain⟨x,y,bp,bf,rfl,_⟩:=h;rfl
 obtain⟨x,y,bp,bf,rfl,pa,fx,tq,hd,q⟩:=h;refine⟨_,pss_one (ps_try (i:=2) ⟨rfl,rfl⟩ sc_q_outcome.nd rfl rfl rfl m_BranchError
   (fun pn E=>pss_one (ps_ret (pe_callB (callK_len (K:=K) rfl) rfl B.«len» bt_len (pa_cons (pe_defE d_whole_basis pass_try hr (pa_cons (pv 0) (pa_cons (pv 1) pa_nil))) pa_nil))))
   (fun ea=>pss_cons (ps_set (i:=3) sc_q_outcome.nd rfl (Or.inl rfl) (pe_lst (pa_cons (pe_callB (callK_isiE (K:=K) rfl) rfl B.«isinstance» bt_isinstance (pa_cons (pv 2) (pa_cons (pe_glob (v:=.ref C_NoPrime) rfl m_NoPrime rfl) pa_nil))) (pa_cons (pe_callB (callK_isiE (K:=K) rfl) rfl B.«isinstance» bt_isinstance (pa_cons (pv 2) (pa_cons (pe_glob (v:=.ref C_NoPolynomial) rfl m_NoPolynomial rfl) pa_nil))) (pa_cons (pe_callB (callK_isiE (K:=K) rfl) rfl B.«isinstance» bt_isinstance (pa_cons (pv 2) (pa_cons (pe_glob (v:=.ref C_NotPlain) rfl m_NotPlain rfl) pa_nil))) (pa_cons (pe_callB (callK_isiE (K:=K) rfl) rfl B.«isinstance» bt_isinstance (pa_cons (pv 2) (pa_cons (pe_glob (v:=.ref C_TooDeep) rfl m_TooDeep rfl) pa_nil))) pa_nil))))))
   (pss_cons (ps_set (i:=4) sc_q_outcome.nd rfl (Or.inl rfl) (pe_lst (pa_cons (pe_callB (callK_isiE (K:=K) rfl) rfl B.«isinstance» bt_isinstance (pa_cons (pv 2) (pa_cons (pe_glob (v:=.ref C_NoRow) rfl m_NoRow rfl) pa_nil))) (pa_cons (pe_callB (callK_isiE (K:=K) rfl) rfl B.«isinstance» bt_isinstance (pa_cons (pv 2) (pa_cons (pe_glob (v:=.ref C_NoSize) rfl m_NoSize rfl) pa_nil))) (pa_cons (pe_callB (callK_isiE (K:=K) rfl) rfl B.«isinstance» bt_isinstance (pa_cons (pv 2) (pa_cons (pe_glob (v:=.ref C_NoText) rfl m_NoText rfl) pa_nil))) (pa_cons (pe_callB (callK_isiE (K:=K) rfl) rfl B.«isinstance» bt_isinstance (pa_cons (pv 2) (pa_cons (pe_glob (v:=.ref C_NoTower) rfl m_NoTower rfl) pa_nil))) pa_nil))))))
   (pss_cons (ps_if (PW.pt (pw_or (pt_val (pe_callB (callK_anyH (K:=K) (ea:=ea) rfl rfl) rfl B.«any» bt_any (pa_cons (pv 4) pa_nil))) (pw_or (pt_cmpR op_ne (pe_bmK (K:=K) rfl PySem.F.plainAttrs_list PySem.F.slot_list_count PySem.F.type_list_count mt_countT (pv 3) (pa_cons pe_bl pa_nil)) pe_int (nomark _)) (pw_or1 (pt_not (pt_val (pe_callB (callK_isiE (K:=K) rfl) rfl B.«isinstance» bt_isinstance (pa_cons (pv 2) (pa_cons (pe_bltn (v:=.ty "ValueError") rfl B.«ValueError» bt_ValueError rfl) pa_nil)))))))))
    (pss_one (ps_ret pe_str))
    (pss_nil))
   (pss_one (ps_ret (pe_ix (ixK_list (K:=K) rfl) (pe_lst (pa_cons pe_str (pa_cons pe_str (pa_cons pe_str (pa_cons pe_str pa_nil))))) (pe_bmK (K:=K) rfl PySem.F.plainAttrs_list PySem.F.slot_list_index PySem.F.type_list_index mt_indexT (pv 3) (pa_cons pe_bl pa_nil)) (fun _ _=>rfl)))))))),?_⟩
 walk_at "rd"
 refine⟨x,y,bp,bf,rfl,pa,fx,tq,fun hb=>?_,fun hb1 hb2=>?_,fun hb1 hb2 a ns p ex ha ey hp mf l2 l13=>?_⟩
 ·skip
  intro ea H1 g1;refine⟨C_NoPrime,rfl,x0.ex,fun ea' σ' he hf hl=>?_⟩
  cases he;obtain⟨a0,a1,a2,a3,a4,rfl⟩:∃ a0 a1 a2 a3 a4,σ'=[a0,a1,a2,a3,a4]:=by
   match σ',hl with
   | [a0,a1,a2,a3,a4],_=>exact⟨a0,a1,a2,a3,a4,rfl⟩
  have e1:(upd H1 ea (.ext (ExAt ea C_NoPrime))) ea=some (.ext (ExAt ea C_NoPrime)):=upd_same;have gE:=g1.trans (same_new hf (.ext (ExAt ea C_NoPrime)));generalize upd H1 ea _=H2 at e1 gE;refine⟨_,rfl,ea,_,_,_,rfl,e1,x0.k,.own (x0.ki 0 _ rfl),?_⟩
  refine⟨_,rfl,ea,_,_,_,rfl,e1,x0.k,.own (x0.ki 1 _ rfl),?_⟩
  refine⟨_,rfl,ea,_,_,_,rfl,e1,x0.k,.own (x0.ki 2 _ rfl),?_⟩
  refine⟨_,rfl,ea,_,_,_,rfl,e1,x0.k,.own (x0.ki 3 _ rfl),?_⟩
  refine⟨len_ok rfl,fun p3 n3=>?_⟩
  generalize hH3:L2.upd H2 p3 _=H3;obtain⟨g3,e3⟩:=new_of n3 hH3;have e1:=g3 _ _ e1;refine⟨_,rfl,ea,_,_,_,rfl,e1,x0.k,.own (x0.ki 4 _ rfl),?_⟩
  refine⟨_,rfl,ea,_,_,_,rfl,e1,x0.k,.own (x0.ki 5 _ rfl),?_⟩
  refine⟨_,rfl,ea,_,_,_,rfl,e1,x0.k,.own (x0.ki 6 _ rfl),?_⟩
  refine⟨_,rfl,ea,_,_,_,rfl,e1,x0.k,.own (x0.ki 7 _ rfl),?_⟩
  refine⟨len_ok rfl,fun p4 n4=>?_⟩
  generalize hH4:L2.upd H3 p4 _=H4;obtain⟨g4,e4⟩:=new_of n4 hH4;have e1:=g4 _ _ e1;have e3:=g4 _ _ e3;refine⟨_,rfl,p4,_,[false,false,false,false],rfl,SqL.of e4,e1,_,rfl,iteF ?_⟩
  refine⟨_,rfl,.inl ⟨rfl,_,SqL.of e3⟩,p3,[decide (0=0),decide (1=0),decide (2=0),decide (3=0)],rfl,rfl,e3,rfl,_,rfl,iteF ?_⟩
  refine⟨_,rfl,ea,_,_,_,rfl,e1,x0.k,.ty x0.va,_,rfl,iteF ?_⟩
  refine⟨len_ok rfl,fun p5 n5=>?_⟩
  generalize hH5:L2.upd H4 p5 _=H5;obtain⟨g5,e5⟩:=new_of n5 hH5;have e3:=g5 _ _ e3;refine⟨_,rfl,.inl ⟨rfl,_,SqL.of e3⟩,p3,[decide (0=0),decide (1=0),decide (2=0),decide (3=0)],0,rfl,rfl,e3,rfl,?_,by decide,p5,_,_,_,rfl,rfl,SqL.of e5,rfl,?_⟩
  ·intro m hm
   match m,hm with
   | m,hm=>exact W1 hm (Zl m)
  have gA:=((gE.trans g3).trans g4).trans g5;refine q _ _ (NewO.of gA) (tq.same gA) (fun _=>rfl) (fun z=>?_) (fun z=>?_) <;> · rw[hb] at z;cases z
 ·skip
  intro ea H1 g1;refine⟨C_NoPolynomial,rfl,x1.ex,fun ea' σ' he hf hl=>?_⟩
  cases he;obtain⟨a0,a1,a2,a3,a4,rfl⟩:∃ a0 a1 a2 a3 a4,σ'=[a0,a1,a2,a3,a4]:=by
   match σ',hl with
   | [a0,a1,a2,a3,a4],_=>exact⟨a0,a1,a2,a3,a4,rfl⟩
  have e1:(upd H1 ea (.ext (ExAt ea C_NoPolynomial))) ea=some (.ext (ExAt ea C_NoPolynomial)):=upd_same;have gE:=g1.trans (same_new hf (.ext (ExAt ea C_NoPolynomial)));generalize upd H1 ea _=H2 at e1 gE;refine⟨_,rfl,ea,_,_,_,rfl,e1,x1.k,.own (x1.ki 0 _ rfl),?_⟩
  refine⟨_,rfl,ea,_,_,_,rfl,e1,x1.k,.own (x1.ki 1 _ rfl),?_⟩
  refine⟨_,rfl,ea,_,_,_,rfl,e1,x1.k,.own (x1.ki 2 _ rfl),?_⟩
  refine⟨_,rfl,ea,_,_,_,rfl,e1,x1.k,.own (x1.ki 3 _ rfl),?_⟩
  refine⟨len_ok rfl,fun p3 n3=>?_⟩
  generalize hH3:L2.upd H2 p3 _=H3;obtain⟨g3,e3⟩:=new_of n3 hH3;have e1:=g3 _ _ e1;refine⟨_,rfl,ea,_,_,_,rfl,e1,x1.k,.own (x1.ki 4 _ rfl),?_⟩
  refine⟨_,rfl,ea,_,_,_,rfl,e1,x1.k,.own (x1.ki 5 _ rfl),?_⟩
  refine⟨_,rfl,ea,_,_,_,rfl,e1,x1.k,.own (x1.ki 6 _ rfl),?_⟩
  refine⟨_,rfl,ea,_,_,_,rfl,e1,x1.k,.own (x1.ki 7 _ rfl),?_⟩
  refine⟨len_ok rfl,fun p4 n4=>?_⟩
  generalize hH4:L2.upd H3 p4 _=H4;obtain⟨g4,e4⟩:=new_of n4 hH4;have e1:=g4 _ _ e1;have e3:=g4 _ _ e3;refine⟨_,rfl,p4,_,[false,false,false,false],rfl,SqL.of e4,e1,_,rfl,iteF ?_⟩
  refine⟨_,rfl,.inl ⟨rfl,_,SqL.of e3⟩,p3,[decide (0=1),decide (1=1),decide (2=1),decide (3=1)],rfl,rfl,e3,rfl,_,rfl,iteF ?_⟩
  refine⟨_,rfl,ea,_,_,_,rfl,e1,x1.k,.ty x1.va,_,rfl,iteF ?_⟩
  refine⟨len_ok rfl,fun p5 n5=>?_⟩
  generalize hH5:L2.upd H4 p5 _=H5;obtain⟨g5,e5⟩:=new_of n5 hH5;have e3:=g5 _ _ e3;refine⟨_,rfl,.inl ⟨rfl,_,SqL.of e3⟩,p3,[decide (0=1),decide (1=1),decide (2=1),decide (3=1)],1,rfl,rfl,e3,rfl,?_,by decide,p5,_,_,_,rfl,rfl,SqL.of e5,rfl,?_⟩
  ·intro m hm
   match m,hm with
   | 0,_=>rfl
  have gA:=((gE.trans g3).trans g4).trans g5;refine q _ _ (NewO.of gA) (tq.same gA) (fun z=>?_) (fun _ _=>rfl) (fun _ z=>?_)
  ·rw[hb1] at z;cases z
  ·rw[hb2] at z;cases z
 ·obtain⟨hda,dk⟩:=hd hb1 hb2 a ns ex ha
  have fin:∀ v H',NewO H P_lead_at H'->TabQ qualL P_lead_at H'->DueV ns p v->Q v H':=fun v H' g t d=>by
   refine q v H' g t (fun z=>?_) (fun _ z=>?_) fun _ _ a' ns' p' ex' ha' ey'=>?_
   ·rw[hb1] at z;cases z
   ·rw[hb2] at z;cases z
   ·rw[ex] at ex'
    cases ex';have hn:ns=ns':=by
     have h':=(hd hb1 hb2 a ns' ex ha').1;rw[hda] at h';exact (List.map_inj_right (f:=V.int) fun _ _ z=>V.int.inj z).mp (HO.lst.inj (Option.some.inj h'))
    subst hn;rw[ey] at ey';have:p=p':=by
     have:=V.int.inj ey'
     omega
    subst this;exact d
  refine⟨hda,dk,fun h0=>?_,fun v hv h0=>⟨fun hbig=>?_,fun hs1 hs2 R _ φ ip d k T s r vs H' g t _ _ _ _ hr hv' _=>?_⟩⟩
  ·skip
   intro ea H1 g1;refine⟨C_NotPlain,rfl,x2.ex,fun ea' σ' he hf hl=>?_⟩
   cases he;obtain⟨a0,a1,a2,a3,a4,rfl⟩:∃ a0 a1 a2 a3 a4,σ'=[a0,a1,a2,a3,a4]:=by
    match σ',hl with
    | [a0,a1,a2,a3,a4],_=>exact⟨a0,a1,a2,a3,a4,rfl⟩
   have e1:(upd H1 ea (.ext (ExAt ea C_NotPlain))) ea=some (.ext (ExAt ea C_NotPlain)):=upd_same;have gE:=g1.trans (same_new hf (.ext (ExAt ea C_NotPlain)));generalize upd H1 ea _=H2 at e1 gE;refine⟨_,rfl,ea,_,_,_,rfl,e1,x2.k,.own (x2.ki 0 _ rfl),?_⟩
   refine⟨_,rfl,ea,_,_,_,rfl,e1,x2.k,.own (x2.ki 1 _ rfl),?_⟩
   refine⟨_,rfl,ea,_,_,_,rfl,e1,x2.k,.own (x2.ki 2 _ rfl),?_⟩
   refine⟨_,rfl,ea,_,_,_,rfl,e1,x2.k,.own (x2.ki 3 _ rfl),?_⟩
   refine⟨len_ok rfl,fun p3 n3=>?_⟩
   generalize hH3:L2.upd H2 p3 _=H3;obtain⟨g3,e3⟩:=new_of n3 hH3;have e1:=g3 _ _ e1;refine⟨_,rfl,ea,_,_,_,rfl,e1,x2.k,.own (x2.ki 4 _ rfl),?_⟩
   refine⟨_,rfl,ea,_,_,_,rfl,e1,x2.k,.own (x2.ki 5 _ rfl),?_⟩
   refine⟨_,rfl,ea,_,_,_,rfl,e1,x2.k,.own (x2.ki 6 _ rfl),?_⟩
   refine⟨_,rfl,ea,_,_,_,rfl,e1,x2.k,.own (x2.ki 7 _ rfl),?_⟩
   refine⟨len_ok rfl,fun p4 n4=>?_⟩
   generalize hH4:L2.upd H3 p4 _=H4;obtain⟨g4,e4⟩:=new_of n4 hH4;have e1:=g4 _ _ e1;have e3:=g4 _ _ e3;refine⟨_,rfl,p4,_,[false,false,false,false],rfl,SqL.of e4,e1,_,rfl,iteF ?_⟩
   refine⟨_,rfl,.inl ⟨rfl,_,SqL.of e3⟩,p3,[decide (0=2),decide (1=2),decide (2=2),decide (3=2)],rfl,rfl,e3,rfl,_,rfl,iteF ?_⟩
   refine⟨_,rfl,ea,_,_,_,rfl,e1,x2.k,.ty x2.va,_,rfl,iteF ?_⟩
   refine⟨len_ok rfl,fun p5 n5=>?_⟩
   generalize hH5:L2.upd H4 p5 _=H5;obtain⟨g5,e5⟩:=new_of n5 hH5;have e3:=g5 _ _ e3;refine⟨_,rfl,.inl ⟨rfl,_,SqL.of e3⟩,p3,[decide (0=2),decide (1=2),decide (2=2),decide (3=2)],2,rfl,rfl,e3,rfl,?_,by decide,p5,_,_,_,rfl,rfl,SqL.of e5,rfl,?_⟩
   ·intro m hm
    match m,hm with
    | 0,_=>rfl
    | 1,_=>rfl
   have gA:=((gE.trans g3).trans g4).trans g5;exact fin _ _ (NewO.of gA) (tq.same gA) (.plain h0)
  ·skip
   intro ea H1 g1;refine⟨C_TooDeep,rfl,x3.ex,fun ea' σ' he hf hl=>?_⟩
   cases he;obtain⟨a0,a1,a2,a3,a4,rfl⟩:∃ a0 a1 a2 a3 a4,σ'=[a0,a1,a2,a3,a4]:=by
    match σ',hl with
    | [a0,a1,a2,a3,a4],_=>exact⟨a0,a1,a2,a3,a4,rfl⟩
   have e1:(upd H1 ea (.ext (ExAt ea C_TooDeep))) ea=some (.ext (ExAt ea C_TooDeep)):=upd_same;have gE:=g1.trans (same_new hf (.ext (ExAt ea C_TooDeep)));generalize upd H1 ea _=H2 at e1 gE;refine⟨_,rfl,ea,_,_,_,rfl,e1,x3.k,.own (x3.ki 0 _ rfl),?_⟩
   refine⟨_,rfl,ea,_,_,_,rfl,e1,x3.k,.own (x3.ki 1 _ rfl),?_⟩
   refine⟨_,rfl,ea,_,_,_,rfl,e1,x3.k,.own (x3.ki 2 _ rfl),?_⟩
   refine⟨_,rfl,ea,_,_,_,rfl,e1,x3.k,.own (x3.ki 3 _ rfl),?_⟩
   refine⟨len_ok rfl,fun p3 n3=>?_⟩
   generalize hH3:L2.upd H2 p3 _=H3;obtain⟨g3,e3⟩:=new_of n3 hH3;have e1:=g3 _ _ e1;refine⟨_,rfl,ea,_,_,_,rfl,e1,x3.k,.own (x3.ki 4 _ rfl),?_⟩
   refine⟨_,rfl,ea,_,_,_,rfl,e1,x3.k,.own (x3.ki 5 _ rfl),?_⟩
   refine⟨_,rfl,ea,_,_,_,rfl,e1,x3.k,.own (x3.ki 6 _ rfl),?_⟩
   refine⟨_,rfl,ea,_,_,_,rfl,e1,x3.k,.own (x3.ki 7 _ rfl),?_⟩
   refine⟨len_ok rfl,fun p4 n4=>?_⟩
   generalize hH4:L2.upd H3 p4 _=H4;obtain⟨g4,e4⟩:=new_of n4 hH4;have e1:=g4 _ _ e1;have e3:=g4 _ _ e3;refine⟨_,rfl,p4,_,[false,false,false,false],rfl,SqL.of e4,e1,_,rfl,iteF ?_⟩
   refine⟨_,rfl,.inl ⟨rfl,_,SqL.of e3⟩,p3,[decide (0=3),decide (1=3),decide (2=3),decide (3=3)],rfl,rfl,e3,rfl,_,rfl,iteF ?_⟩
   refine⟨_,rfl,ea,_,_,_,rfl,e1,x3.k,.ty x3.va,_,rfl,iteF ?_⟩
   refine⟨len_ok rfl,fun p5 n5=>?_⟩
   generalize hH5:L2.upd H4 p5 _=H5;obtain⟨g5,e5⟩:=new_of n5 hH5;have e3:=g5 _ _ e3;refine⟨_,rfl,.inl ⟨rfl,_,SqL.of e3⟩,p3,[decide (0=3),decide (1=3),decide (2=3),decide (3=3)],3,rfl,rfl,e3,rfl,?_,by decide,p5,_,_,_,rfl,rfl,SqL.of e5,rfl,?_⟩
   ·intro m hm
    match m,hm with
    | 0,_=>rfl
    | 1,_=>rfl
    | 2,_=>rfl
   have gA:=((gE.trans g3).trans g4).trans g5;exact fin _ _ (NewO.of gA) (tq.same gA) (.deep h0 hv hbig)
  ·have hl:vs.length=ns.length - 1:=by
    rename_i bb
    exact bb.len
   refine⟨r,vs,rfl,.inl (SqL.of (del_inv hv').2),?_⟩
   have e:((vs.length:Nat):Int)=(ns.length:Int) - 1:=by omega
   rw[e];exact fin _ _ g t (.fine h0 hv hs1 hs2)
end
section
variable {P:Program} {w:World} {K:FrQ} {mg:Str->Option Value} {base:Heap}
theorem ok_q_trimmed (B:Blt mg)(F:Src K mg "_law_trimmed" s_q_trimmed Lq31):Dfn P w K mg base 1 "_law_trimmed" Lq31 (spTrim K):=by
 refine F.ok sc_q_trimmed (fun vs H Q E h=>?_) (fun f cdv A outer s H vs Q E hr h=>?_)
 ·obtain⟨a,f,rfl,_⟩:=h;rfl
 obtain⟨a,f,rfl,hS,hlen,q⟩:=h;refine⟨_,pss_cons (ps_set (i:=1) sc_q_trimmed.nd rfl (Or.inl rfl) (pe_callB (callK_len (K:=K) rfl) rfl B.«len» bt_len (pa_cons (pv 0) pa_nil)))
  (pss_cons (ps_while PassesOwn.never (PW.pt (pw_and (pt_cmpR op_gt (pv 1) pe_int (nomark _)) (pw_and1 (pt_cmpR op_eq (pe_ix (ixK_list (K:=K) rfl) (pv 0) (pe_op op_sub (pv 1) pe_int) (fun _ _=>rfl)) pe_int (nomark _)))))
   (pss_one (ps_set (i:=1) sc_q_trimmed.nd rfl (Or.inl rfl) (pe_op op_sub (pv 1) pe_int))))
  (pss_one (ps_ret (pe_callTy call_list_of rfl B.«list» bt_list (pa_cons (pe_slice (slK_list (K:=K) rfl) (pv 0) po_none (po_some (pv 1))) pa_nil))))),?_⟩
 refine⟨_,rfl,a,_,rfl,.inl hS,?_⟩
 rw[Ya];have fin:∀ (k:Nat) H2,Same H H2->k<=f.length->tlen f f.length=tlen f k->tlen f k=k->∀ p,H2 p=none->∃ p2 ys,[V.ref p]=[.ref p2]/\(SqL K (upd H2 p (.lst (cutV (f.map V.int) none (some (k:Int))))) p2 ys\/SqT K (upd H2 p (.lst (cutV (f.map V.int) none (some (k:Int))))) p2 ys)/\
   ∀ l,upd H2 p (.lst (cutV (f.map V.int) none (some (k:Int)))) l=none->Q (.ref l) (upd (upd H2 p (.lst (cutV (f.map V.int) none (some (k:Int))))) l (.lst ys)):=fun k H2 g hk e1 e2 p hp=>by
  refine⟨p,_,rfl,.inl (SqL.of upd_same),fun l hl=>?_⟩
  rw[cutV_take f k hk] at hl ⊢;refine q l _ ((g.trans (same_new hp _)).trans (same_new hl _)) ((g.trans (same_new hp _)).free hl) ?_
  unfold trim;rw[e1,e2];exact upd_same
 refine while_in (fun σ H2=>H2=H/\∃ k:Nat,σ=[Rq a,some (.int k)]/\k<=f.length/\tlen f f.length=tlen f k) (fun σ _=>match σ with | [_,some (.int k)]=>k.toNat | _=>0) ⟨rfl,f.length,rfl,Yd _,rfl⟩ ?_
 rintro σ H2 ⟨rfl,k,rfl,hk,ht⟩;refine⟨_,rfl,_,_,rfl,rfl,_,rfl,ite2 (fun c=>?_) (fun c=>?_)⟩
 ·have c':(0:Int)<k:=Wx c
  obtain⟨m,rfl⟩:∃ m,k=m+1:=⟨k - 1,by omega⟩
  refine⟨_,rfl,_,rfl,_,_,rfl,rfl,a,_,_,_,rfl,rfl,hS,atI_int (by omega) (by omega),rfl,_,rfl,?_⟩
  have em:(((m+1:Nat):Int) - 1).toNat=m:=by omega
  rw[em];refine ite2 (fun c=>?_) (fun c=>?_)
  ·have c2:coef f m=0:=V.int.inj (Wx c)
   refine win ⟨_,rfl,_,_,rfl,rfl,⟨rfl,m,?_,by omega,?_⟩,?_⟩
   ·have e:((m+1:Nat):Int) - 1=(m:Int):=by omega
    show [some (V.ref a),some (V.int (((m+1:Nat):Int) - 1))]=_
    rw[e]
   ·exact ht.trans (by show (if coef f m=0 then tlen f m else m+1)=_;rw[Wv c2])
   ·show (((m+1:Nat):Int) - 1).toNat<(((m+1:Nat):Int)).toNat
    omega
  ·have c2:coef f m≠0:=fun z=>c (Ww (Wz V.int z))
   exact⟨_,rfl,_,rfl,_,rfl,a,_,rfl,hS,fin (m+1) _ (Same.refl _) hk ht (by show (if coef f m=0 then tlen f m else m+1)=_;rw[Wu c2])⟩
 ·have c':k=0:=by
   have:¬ (0:Int)<k:=fun z=>c (Ww z)
   omega
  subst c';refine iteF ?_
  exact⟨_,rfl,_,rfl,_,rfl,a,_,rfl,hS,fin 0 _ (Same.refl _) hk ht rfl⟩
end
def spTimesL (K:FrQ):Sp:=fun vs H Q _=>∃ (a b:Addr) (f g:List Int),vs=[.ref a,.ref b]/\SqL K H a (f.map V.int)/\SqL K H b (g.map V.int)/\f.length<=400/\g.length<=400/\Bds 1000000 f/\Bds 1000000 g/\New H Q (trim (pmul f g))
section
variable {P:Program} {w:World} {K:FrQ} {mg:Str->Option Value} {base:Heap}
def timesL (f g:List Int):List Int:=(Yj (f.length+g.length)).map (conv f g)
theorem trim_timesL (f g:List Int):trim (timesL f g)=trim (pmul f g):=trim_ext fun i=>by
 rw[coef_pmul];unfold timesL;exact coef_map_range' (fun i hi=>conv_beyond f g i (by omega)) i
theorem ok_q_times (B:Blt mg)(d_q_trimmed:Dfn P w K mg base 1 "_law_trimmed" Lq31 (spTrim K))(F:Src K mg "_law_times" s_q_times Lq27):Dfn P w K mg base 2 "_law_times" Lq27 (spTimesL K):=by
 refine F.ok sc_q_times (fun vs H Q E h=>?_) (fun f cdv A outer s H vs Q E hr h=>?_)
 ·obtain⟨a,b,f,g,rfl,_⟩:=h;rfl
 obtain⟨a,b,f,g,rfl,ha,hb,lf,lg,bf,bg,q⟩:=h;refine⟨_,pss_cons (ps_set (i:=2) sc_q_times.nd rfl (Or.inl rfl) (pe_op op_rep (pe_lst (pa_cons pe_int pa_nil)) (pe_op op_add (pe_callB (callK_len (K:=K) rfl) rfl B.«len» bt_len (pa_cons (pv 0) pa_nil)) (pe_callB (callK_len (K:=K) rfl) rfl B.«len» bt_len (pa_cons (pv 1) pa_nil)))))
  (pss_cons (ps_for PassesOwn.never rfl (pi_range1 rfl B.«range» (pa_cons (pe_callB (callK_len (K:=K) rfl) rfl B.«len» bt_len (pa_cons (pv 0) pa_nil)) pa_nil)) (pg_name (i:=3) sc_q_times.nd rfl (Or.inl rfl))
   (pss_one (ps_for PassesOwn.never rfl (pi_range1 rfl B.«range» (pa_cons (pe_callB (callK_len (K:=K) rfl) rfl B.«len» bt_len (pa_cons (pv 1) pa_nil)) pa_nil)) (pg_name (i:=4) sc_q_times.nd rfl (Or.inl rfl))
    (pss_one (ps_asg (pe_op op_add (pe_ix (ixK_list (K:=K) rfl) (pv 2) (pe_op op_add (pv 3) (pv 4)) (fun _ _=>rfl)) (pe_op op_mulO (pe_ix (ixK_list (K:=K) rfl) (pv 0) (pv 3) (fun _ _=>rfl)) (pe_ix (ixK_list (K:=K) rfl) (pv 1) (pv 4) (fun _ _=>rfl)))) (pg_sub (pv 2) (pe_op op_add (pv 3) (pv 4)) set_list))))))
  (pss_one (ps_ret (pe_def d_q_trimmed hr (pa_cons (pv 2) pa_nil))))),?_⟩
 refine⟨len_ok rfl,fun p3 n3=>?_⟩
 have g3:=same_new n3 (.lst [.int 0]);refine⟨_,rfl,a,_,rfl,.inl (g3.seq ha),_,rfl,b,_,rfl,.inl (g3.seq hb),?_⟩
 rw[Ya,Ya];have en:((f.length:Int)+(g.length:Int))=((f.length+g.length:Nat):Int):=by omega
 refine⟨_,_,rfl,rfl,p3,_,_,rfl,rfl,upd_same,by omega,by omega,?_,fun p hp=>?_⟩
 ·rw[sizeLine_eq];show 1*_<=_;omega
 rw[en,Yk,rep_zero];have g4:=g3.trans (same_new hp (.lst ((Yp (f.length+g.length) (0:Int)).map V.int)));have f4:H p=none:=g3.free hp;refine⟨_,rfl,a,_,rfl,.inl (g4.seq ha),?_⟩
 rw[Ya];refine⟨_,rfl,by omega,by omega,for_range (fun i σ H2=>Same H H2/\∃ (P:List Int) (o1 o2:Option V),σ=[Rq a,Rq b,Rq p,o1,o2]/\H2 p=some (.lst (P.map V.int))/\P.length=f.length+g.length/\∀ m,m<P.length->coef P m=rowS f g i m)
  ⟨g4,_,_,_,rfl,upd_same,by simp,fun m hm=>coef_replicate _ _⟩ ?_ ?_⟩
 ·rintro i σ H2 hi ⟨gg,P,o1,o2,rfl,eP,lP,hP⟩
  have hi':i<f.length:=by omega
  refine⟨_,rfl,b,_,rfl,.inl (gg.seq hb),?_⟩
  rw[Ya];refine⟨_,rfl,by omega,by omega,for_range (fun j σ H2=>Same H H2/\∃ (P:List Int) (o2:Option V),σ=[Rq a,Rq b,Rq p,some (.int (0+(i:Int))),o2]/\H2 p=some (.lst (P.map V.int))/\P.length=f.length+g.length/\∀ m,m<P.length->coef P m=cellS f g i j m)
   ⟨gg,P,_,rfl,eP,lP,fun m hm=>by rw[cellS_zero];exact hP m hm⟩ ?_ ?_⟩
  ·rintro j σ H3 hj ⟨gg,P,o2,rfl,eP,lP,hP⟩
   have hj':j<g.length:=by omega
   have eij:((0+(i:Int))+(0+(j:Int)))=((i+j:Nat):Int):=by omega
   have hij:i+j<P.length:=by omega
   have ei:((0:Int)+(i:Int)).toNat=i:=by omega
   have ej:((0:Int)+(j:Int)).toNat=j:=by omega
   have b1:Bd 1000000 (coef f ((0:Int)+(i:Int)).toNat):=bf.coef _;have b2:Bd 1000000 (coef g ((0:Int)+(j:Int)).toNat):=bg.coef _;refine⟨_,rfl,_,rfl,_,rfl,_,_,rfl,rfl,p,_,_,_,rfl,rfl,SqL.of eP,atI_int (by omega) (by omega),?_⟩
   refine⟨_,rfl,_,rfl,a,_,_,_,rfl,rfl,gg.seq ha,atI_int (by omega) (by omega),_,rfl,_,rfl,b,_,_,_,rfl,rfl,gg.seq hb,atI_int (by omega) (by omega),_,_,rfl,rfl,bd_mul b1 b2,_,_,rfl,rfl,?_⟩
   refine⟨_,rfl,_,rfl,_,rfl,_,_,rfl,rfl,p,_,_,i+j,rfl,rfl,eP,?_,?_⟩
   ·rw[eij,Ya];exact ixN_nat (by omega) (by omega)
   rw[eij,Yk,ei,ej];refine⟨gg.free_upd f4 _,P.set (i+j) (coef P (i+j)+coef f i*coef g j),_,rfl,?_,by rw[Wd];exact lP,fun m hm=>?_⟩
   ·rw[<- map_int_set];exact upd_same
   ·rw[Wd] at hm
    rw[coef_set hij,cellS_step,hP m hm];split
    ·rename_i h;subst h;rw[hP _ hm]
    ·rfl
  ·rintro σ H3 ⟨gg,P,o2,rfl,eP,lP,hP⟩
   refine⟨gg,P,_,_,rfl,eP,lP,fun m hm=>?_⟩
   rw[<- cellS_end];have:=hP m hm
   rw[Yk] at this;exact this
 ·rintro σ H2 ⟨gg,P,o1,o2,rfl,eP,lP,hP⟩
  have e:P=timesL f g:=by
   refine ext_coef ?_ fun m hm=>?_
   ·unfold timesL;rw[Ya,Yg];exact lP
   ·unfold timesL
    rw[coef_map_range (by omega),hP m hm,Yk]
    rfl
  subst e;refine⟨_,rfl,p,_,rfl,SqL.of eP,by omega,fun p2 H3 g3 n3 e3=>?_⟩
  rw[trim_timesL] at e3;exact q p2 H3 (gg.trans g3) (gg.free n3) e3
end
def spCell (K:FrQ):Sp:=fun vs H Q _=>∃ (a:Addr) (ns:List Int) (k:Int),vs=[.ref a,.int k]/\SqL K H a (ns.map V.int)/\0<=k/\∀ n:Int,Q (.int n) H
def spNumber (K:FrQ):Sp:=fun vs H Q _=>∃ (a:Addr) (ns:List Int) (k:Int),vs=[.ref a,.int k]/\SqL K H a (ns.map V.int)/\0<=k/\k<=100/\∀ n:Int,Q (.int n) H
section
variable {P:Program} {w:World} {K:FrQ} {mg:Str->Option Value} {base:Heap}
theorem ok_cell_at (B:Blt mg)(F:Src K mg "_law_cell_at" s_q_cell_at Lq21):Dfn P w K mg base 1 "_law_cell_at" Lq21 (spCell K):=by
 refine F.ok sc_q_cell_at (fun vs H Q E h=>?_) (fun f cdv A outer s H vs Q E hr h=>?_)
 ·obtain⟨a,ns,k,rfl,_⟩:=h;rfl
 obtain⟨a,ns,k,rfl,hS,h0,q⟩:=h;refine⟨_,pss_cons (ps_if (pt_cmpR op_lt (pv 1) (pe_callB (callK_len (K:=K) rfl) rfl B.«len» bt_len (pa_cons (pv 0) pa_nil)) (nomark _))
   (pss_one (ps_ret (pe_ix (ixK_list (K:=K) rfl) (pv 0) (pv 1) (fun _ _=>rfl))))
   (pss_nil))
  (pss_one (ps_ret pe_int)),?_⟩
 refine⟨_,rfl,_,rfl,a,_,rfl,.inl hS,_,_,rfl,rfl,_,rfl,?_⟩
 refine ite2 (fun c=>?_) (fun c=>?_)
 ·have hk:k<((ns.map V.int).length:Nat):=Wx c
  obtain⟨v,e,hm⟩:=atI_mem (xs:=ns.map V.int) h0 hk;obtain⟨n,_,rfl⟩:=List.mem_map.mp hm;exact⟨_,rfl,_,rfl,_,_,_,_,rfl,rfl,hS,e,q n⟩
 ·exact q 0
theorem ok_number (B:Blt mg)(d_q_cell_at:Dfn P w K mg base 1 "_law_cell_at" Lq21 (spCell K))(F:Src K mg "_law_number" s_q_number Lq21):Dfn P w K mg base 2 "_law_number" Lq21 (spNumber K):=by
 refine F.ok sc_q_number (fun vs H Q E h=>?_) (fun f cdv A outer s H vs Q E hr h=>?_)
 ·obtain⟨a,ns,k,rfl,_⟩:=h;rfl
 obtain⟨a,ns,k,rfl,hS,h0,h1,q⟩:=h;refine⟨_,pss_cons (ps_if (pt_cmpR op_ge (pe_callB call_abs rfl B.«abs» bt_abs (pa_cons (pe_def d_q_cell_at hr (pa_cons (pv 0) (pa_cons (pv 1) pa_nil))) pa_nil)) (pe_op op_pow pe_int pe_int) (nomark _))
   (pss_one (ps_ret (pe_def d_q_cell_at hr (pa_cons (pv 0) (pa_cons (pv 1) pa_nil)))))
   (pss_nil))
  (pss_cons (ps_set (i:=2) sc_q_number.nd rfl (Or.inl rfl) (pe_op op_add (pe_op op_add (pe_def d_q_cell_at hr (pa_cons (pv 0) (pa_cons pe_int pa_nil))) (pe_op op_mulO pe_int (pv 1))) (pe_op op_mulO pe_int (pe_def d_q_cell_at hr (pa_cons (pv 0) (pa_cons (pv 1) pa_nil))))))
  (pss_cons (ps_set (i:=2) sc_q_number.nd rfl (Or.inl rfl) (pe_op op_add (pe_op op_modN (pv 2) pe_int) pe_int))
  (pss_cons (ps_set (i:=3) sc_q_number.nd rfl (Or.inl rfl) pe_int)
  (pss_cons (ps_for PassesOwn.never rfl (pi_range1 rfl B.«range» (pa_cons pe_int pa_nil)) (pg_name (i:=4) sc_q_number.nd rfl (Or.inl rfl))
   (pss_cons (ps_set (i:=2) sc_q_number.nd rfl (Or.inl rfl) (pe_op op_modN (pe_op op_add (pe_op op_add (pe_op op_add (pe_op op_mulO (pv 2) pe_int) (pe_op op_fdivW (pv 2) pe_int)) (pe_op op_mulO (pe_op op_mulO pe_int (pv 4)) (pv 4))) pe_int) pe_int))
   (pss_one (ps_set (i:=3) sc_q_number.nd rfl (Or.inl rfl) (pe_op op_add (pe_op op_mulO (pv 3) pe_int) (pe_op op_modN (pe_op op_mulO (pv 2) pe_int) pe_int))))))
  (pss_one (ps_ret (pv 3))))))),?_⟩
 refine⟨_,rfl,_,rfl,a,ns,k,rfl,hS,h0,fun n1=>?_⟩
 walk_at "rd"
 refine ite2 (fun c=>?_) (fun c=>?_)
 ·exact⟨_,rfl,_,rfl,a,ns,k,rfl,hS,h0,fun n=>q n⟩
 refine⟨_,rfl,a,ns,0,rfl,hS,Int.le_refl 0,fun n2=>?_⟩
 walk_at "rd"
 refine⟨a,ns,k,rfl,hS,h0,fun n3=>?_⟩
 walk_at "rd"
 refine⟨by decide,by decide,for_range (n:=12) (fun i σ H2=>H2=H/\∃ (x t:Int) (j:Option V),σ=[Rq a,some (.int k),some (.int x),some (.int t),j]) ⟨rfl,_,_,_,rfl⟩ ?_ ?_⟩
 ·rintro i σ H2 hi ⟨rfl,x,t,j,rfl⟩
  have hj:CMulO (19*(0+(i:Int))) (0+(i:Int)):=mulOkR (by omega) (by omega)
  walk_at "rd"
  refine⟨hj,?_⟩
  walk_at "rd"
  exact⟨rfl,_,_,_,rfl⟩
 ·rintro σ H2 ⟨rfl,x,t,j,rfl⟩
  exact⟨_,rfl,q t⟩
end
def lin (c:Int):Vc:=fun j=>if j=0 then c else 1
def spProdL:Sp:=fun vs H Q _=>∃ (a:Addr) (ws:List V) (m:Nat) (c:Nat->Int) (ok:Addr->Prop),vs=[.ref a]/\H a=some (.lst ws)/\Cf H ok ws m (fun i=>rE 2 (lin (c i)))/\m<=9/\(∀ i,i<m->(c i).natAbs<=2 ^ 28)/\∀ f,PG f m->New H Q f
def spSzL:Sp:=fun vs H Q _=>∃ k p:Int,vs=[.int k,.int p]/\k≠0/\2<=p/\p<64/\∀ v:Nat,IsVal p k v->Q (.int v) H
def spDueL (K:FrQ):Sp:=fun vs H Q _=>∃ (a:Addr) (f:List Int) (n p:Nat),vs=[.ref a,.int (p:Int)]/\SqL K H a (f.map V.int)/\PG f n/\1<=n/\n<=9/\2<=p/\p<64/\∀ v H',Same H H'->DueV f p v->Q v H'
section
variable {P:Program} {w:World} {K:FrQ} {mg:Str->Option Value} {base:Heap}
theorem ok_q_product (B:Blt mg)(d_q_times:Dfn P w K mg base 2 "_law_times" Lq27 (spTimesL K))(F:Src K mg "_law_product" s_q_product ["_law_some"]):Dfn P w K mg base 3 "_law_product" ["_law_some"] spProdL:=by
 refine F.ok sc_q_product (fun vs H Q E h=>?_) (fun fa cdv A outer s H vs Q E hr h=>?_)
 ·obtain⟨a,ws,m,c,ok,rfl,_⟩:=h;rfl
 obtain⟨a,ws,m,c,ok,rfl,ha,C,hm,hc,q⟩:=h;refine⟨_,pss_cons (ps_set (i:=1) sc_q_product.nd rfl (Or.inl rfl) (pe_lst (pa_cons pe_int pa_nil)))
  (pss_cons (ps_for PassesOwn.never rfl (piK_list (K:=K) rfl (pv 0)) (pg_name (i:=2) sc_q_product.nd rfl (Or.inl rfl))
   (pss_one (ps_set (i:=1) sc_q_product.nd rfl (Or.inl rfl) (pe_def d_q_times hr (pa_cons (pv 1) (pa_cons (pv 2) pa_nil))))))
  (pss_one (ps_ret (pv 1)))),?_⟩
 refine⟨len_ok rfl,fun p1 n1=>?_⟩
 generalize hH1:L2.upd H p1 _=H1;obtain⟨g1,e1⟩:=new_of n1 hH1;refine⟨_,rfl,?_⟩
 refine⟨a,rfl,⟨_,SqL.of (g1 _ _ ha)⟩,?_⟩
 refine for_list (xs:=ws) (fun i σ H2=>Same H H2/\∃ (f:List Int) (l:Addr) (o:Option V),PG f i/\H2 l=some (.lst (f.map V.int))/\H l=none/\σ=[Rq a,Rq l,o]) ⟨g1,[1],p1,_,PG.one,e1,n1,rfl⟩ (fun i σ H2 _ h=>SqL.of (h.1 _ _ ha)) ?_ ?_
 ·rintro i x σ H2 hx ⟨g2,f,l,o,pg,hl,nl,rfl⟩
  have hi:i<m:=by have:=(List.getElem?_eq_some_iff.mp hx).1;rw[C.len] at this;exact this
  obtain⟨y,hy,ry⟩:=C.at_ i hi;rw[hx] at hy;cases hy;obtain⟨b,rfl,hb,_⟩:=vs_rE ry;have pl:=PG.lin (hc i hi);refine⟨_,rfl,_,rfl,l,b,f,[c i,1],rfl,SqL.of hl,SqL.of (g2 _ _ hb),by rw[pg.len];omega,(by show 2<=400;decide),(pg.bds (by omega)).mono (by decide),(pl.bds (by decide)).mono (by decide),fun r H3 g3 nr hr3=>?_⟩
  exact⟨g2.trans g3,_,r,_,pg.mul pl,hr3,(by cases z:H r with | none=>rfl | some o=>rw[g2 _ _ z] at nr;cases nr),rfl⟩
 ·rintro σ H2 ⟨g2,f,l,o,pg,hl,nl,rfl⟩
  rw[C.len] at pg;exact⟨_,rfl,q f pg l H2 g2 nl hl⟩
theorem ok_q_size (F:Src K mg "_law_size" s_q_size Lq14):Dfn P w K mg base 1 "_law_size" Lq14 spSzL:=by
  refine F.ok sc_q_size (fun vs H Q E h=>?_) (fun f cdv A outer s H vs Q E hr h=>?_)
  . obtain⟨a,b,rfl,_⟩:=h;rfl
  obtain⟨k,p,rfl,h0,hp,hp2,q⟩:=h;refine⟨_,pss_cons (ps_set (i:=2) sc_q_size.nd rfl (Or.inl rfl) pe_int)
    (pss_cons (ps_while PassesOwn.never (pt_cmpR op_eq (pe_op op_modN (pv 0) (pv 1)) pe_int (nomark _))
      (pss_cons (ps_set (i:=0) sc_q_size.nd rfl (Or.inl rfl) (pe_op op_fdivW (pv 0) (pv 1)))
      (pss_one (ps_set (i:=2) sc_q_size.nd rfl (Or.inl rfl) (pe_op op_add (pv 2) pe_int)))))
    (pss_one (ps_ret (pv 2)))),?_⟩
  refine while_by (fun σ H2=>H2=H/\∃ (m:Int) (v:Nat),σ=[some (.int m),some (.int p),some (.int v)]/\m≠0/\k=p ^ v*m) (fun σ _=>match σ with | some (.int m)::_=>m.natAbs | _=>0) ?_ ?_ ?_
  . exact⟨rfl,k,0,rfl,h0,by simp⟩
  . rintro σ H2 ⟨rfl,m,v,rfl,hm,hk⟩
    refine⟨_,rfl,_,rfl,_,_,rfl,rfl,show p≠0 by omega,rfl,_,rfl,?_⟩
    refine ite2 (fun c=>?_) (fun c=>?_)
    . have c':m.fmod p=0:=V.int.inj (Wx c)
      obtain⟨m',rfl⟩:=(fmod_dvd (by omega)).mp c'
      have hm':m'≠0:=fun z=>hm (by rw[z];simp)
      refine⟨_,rfl,_,rfl,_,_,rfl,rfl,(Bd.small (by omega) (by omega)).dv (by omega),?_⟩
      refine⟨_,rfl,_,_,rfl,rfl,⟨rfl,m',v+1,?_,hm',?_⟩,?_⟩
      . show [some (V.int ((p*m').fdiv p)),some (V.int p),some (V.int ((v:Int)+1))]=_
        rw[fdiv_exact (show p≠0 by omega)]
        rfl
      . rw[hk,Y5];ac_rfl
      . show ((p*m').fdiv p).natAbs<(p*m').natAbs
        rw[fdiv_exact (show p≠0 by omega),Zf]
        have h2:2<=p.natAbs:=by omega
        have h3:0<m'.natAbs:=by omega
        calc m'.natAbs<2*m'.natAbs:=by omega
          _<=p.natAbs*m'.natAbs:=Y1 _ h2
    . have c':¬ p ∣ m:=fun z=>c (Ww (Wz V.int ((fmod_dvd (by omega)).mpr z)))
      exact⟨_,rfl,q v (IsVal.of (by omega) hk c')⟩
  . rintro σ H Q Q' f ⟨v,e,v2,e2,i,j,e3,e4,c,s,k,ek,h⟩
    exact⟨v,e,v2,e2,i,j,e3,e4,c,s,k,ek,f _ _ h⟩
theorem ok_q_due (B:Blt mg)(d_discriminant:Dfn P w K mg base 4 "discriminant" ["f"] (spDisc K))(d_q_size:Dfn P w K mg base 1 "_law_size" Lq14 spSzL)(F:Src K mg "_law_due" s_q_due Lq28):Dfn P w K mg base 5 "_law_due" Lq28 (spDueL K):=by
 refine F.ok sc_q_due (fun vs H Q E h=>?_) (fun fa cdv A outer s H vs Q E hr h=>?_)
 ·obtain⟨a,f,n,p,rfl,_⟩:=h;rfl
 obtain⟨a,f,n,p,rfl,ha,pg,hn1,hn,hp,hp2,q⟩:=h;obtain⟨bd,E',hE,hnE,hrr⟩:=pg.disc hn1 hn;have en:f.length - 1=n:=by rw[pg.len];omega
 rw[en] at hnE hrr;refine⟨_,pss_cons (ps_set (i:=2) sc_q_due.nd rfl (Or.inl rfl) (pe_def d_discriminant hr (pa_cons (pv 0) pa_nil)))
  (pss_cons (ps_if (pt_cmpR op_eq (pv 2) pe_int (nomark _))
   (pss_one (ps_ret pe_str))
   (pss_nil))
  (pss_cons (ps_if (PW.pt (pw_or (pt_cmpR op_gt (pe_callB (callK_len (K:=K) rfl) rfl B.«len» bt_len (pa_cons (pv 0) pa_nil)) pe_int (nomark _)) (pw_or1 (pt_cmpR op_gt (pe_def d_q_size hr (pa_cons (pv 2) (pa_cons (pv 1) pa_nil))) pe_int (nomark _)))))
   (pss_one (ps_ret pe_str))
   (pss_nil))
  (pss_one (ps_ret (pe_op op_sub (pe_callB (callK_len (K:=K) rfl) rfl B.«len» bt_len (pa_cons (pv 0) pa_nil)) pe_int))))),?_⟩
 walk_at "rd"
 refine⟨a,f,n,E',rfl,ha,pg.len,hn1,by omega,pg.mon,bd,hE,hnE,hrr,fun H1 g1=>?_⟩
 have ed:tg n*det n (fun i j=>rr (coef f) n (coef (dl f)) (dl f).length i j)=discOf f:=by
  unfold discOf;rw[en]
 rw[ed];refine⟨_,rfl,rfl,_,rfl,ite2 (fun c=>?_) (fun c=>?_)⟩
 ·exact q _ H1 g1 (.plain (V.int.inj (Wx c)))
 ·have h0:discOf f≠0:=fun z=>c (Ww (Wz V.int z))
  refine⟨_,rfl,a,_,rfl,.inl (g1.seq ha),_,_,rfl,rfl,_,rfl,?_⟩
  rw[Ya];refine ite2 (fun c1=>?_) (fun c1=>?_)
  ·have c1':(7:Int)<(f.length:Int):=Wx c1
   obtain⟨v,hv⟩:=exists_val (p:=(p:Int)) (by omega) h0
   exact iteT (q _ H1 g1 (.deep h0 hv (.inl (by omega))))
  ·have c1':¬ (7:Int)<(f.length:Int):=fun z=>c1 (Ww z)
   refine⟨_,rfl,_,rfl,discOf f,(p:Int),rfl,h0,by omega,by omega,fun v hv=>⟨_,_,rfl,rfl,_,rfl,ite2 (fun c2=>?_) (fun c2=>?_)⟩⟩
   ·have c2':(24:Int)<(v:Int):=Wx c2
    exact q _ H1 g1 (.deep h0 hv (.inr (by omega)))
   ·have c2':¬ (24:Int)<(v:Int):=fun z=>c2 (Ww z)
    refine⟨_,rfl,a,_,rfl,.inl (g1.seq ha),_,_,rfl,rfl,?_⟩
    rw[Ya];exact q _ H1 g1 (.fine h0 hv (by omega) (by omega))
end
def spOdd (K:FrQ):Sp:=fun vs H Q _=>∃ (c:Int) (a:Addr) (f:List Int) (n:Nat),vs=[.int c,.ref a]/\H a=some (.lst (f.map V.int))/\PG f n/\1<=n/\n<=9/\∀ x H',Same H H'->BmAns K H' x false->Q x H'
section
variable {P:Program} {w:World} {K:FrQ} {mg:Str->Option Value} {base:Heap}
theorem ok_q_odd (B:Blt mg)(F:Src K mg "_law_odd" s_q_odd Lq24):Dfn P w K mg base 1 "_law_odd" Lq24 (spOdd K):=by
 refine F.ok sc_q_odd (fun vs H Q E h=>?_) (fun fa cdv A outer s H vs Q E hr h=>?_)
 ·obtain⟨c,a,f,n,rfl,_⟩:=h;rfl
 obtain⟨c,a,f,n,rfl,ha,pg,hn1,hn,q⟩:=h;refine⟨_,pss_cons (ps_set (i:=2) sc_q_odd.nd rfl (Or.inl rfl) (pe_lst (pa_cons pe_non (pa_cons pe_int (pa_cons pe_str (pa_cons (pe_lst pa_nil) (pa_cons (pe_lst (pa_cons pe_int pa_nil)) (pa_cons (pe_op op_cat (pe_slice (slK_list (K:=K) rfl) (pv 1) po_none (po_some (pe_un un_neg pe_int))) (pe_lst (pa_cons pe_int pa_nil))) (pa_cons (pe_callTy call_tuple_of rfl B.«tuple» bt_tuple (pa_cons (pv 1) pa_nil)) (pa_cons (pe_op op_cat (pv 1) (pe_lst (pa_cons pe_int pa_nil))) (pa_cons (pe_op op_cat (pe_op op_rep (pe_lst (pa_cons pe_int pa_nil)) pe_int) (pe_lst (pa_cons pe_int pa_nil))) (pa_cons (pe_lst (pa_cons pe_bl (pa_cons pe_int pa_nil))) (pa_cons (pe_lst (pa_cons pe_non (pa_cons pe_int pa_nil))) (pa_cons (pe_lst (pa_cons pe_int (pa_cons pe_str pa_nil))) (pa_cons (pe_lst (pa_cons pe_int pa_nil)) pa_nil)))))))))))))))
  (pss_cons (ps_if (pt_cmpR op_lt (pe_op op_modN (pv 0) pe_int) pe_int (nomark _))
   (pss_one (ps_ret (pe_ix (ixK_list (K:=K) rfl) (pv 2) (pe_op op_modN (pv 0) pe_int) (fun _ _=>rfl))))
   (pss_nil))
  (pss_cons (ps_set (i:=3) sc_q_odd.nd rfl (Or.inl rfl) (pe_op op_modN (pe_op op_fdivW (pv 0) pe_int) (pe_callB (callK_len (K:=K) rfl) rfl B.«len» bt_len (pa_cons (pv 1) pa_nil))))
  (pss_one (ps_ret (pe_op op_cat (pe_op op_cat (pe_slice (slK_list (K:=K) rfl) (pv 1) po_none (po_some (pv 3))) (pe_lst (pa_cons (pe_ix (ixK_list (K:=K) rfl) (pe_lst (pa_cons pe_non (pa_cons pe_bl (pa_cons pe_str (pa_cons (pe_lst (pa_cons pe_int pa_nil)) (pa_cons (pe_tup (pa_cons pe_int pa_nil)) (pa_cons pe_bl pa_nil))))))) (pe_op op_modN (pe_op op_fdivW (pv 0) pe_int) pe_int) (fun _ _=>rfl)) pa_nil))) (pe_slice (slK_list (K:=K) rfl) (pv 1) (po_some (pe_op op_add (pv 3) pe_int)) po_none)))))),?_⟩
 refine⟨len_ok rfl,fun p1 n1=>?_⟩
 generalize hH1:L2.upd H p1 _=H1;obtain⟨g1,e1⟩:=new_of n1 hH1;refine⟨len_ok rfl,fun p2 n2=>?_⟩
 generalize hH2:L2.upd H1 p2 _=H2;obtain⟨g2,e2⟩:=new_of n2 hH2;have ga2:=g1.trans g2;refine⟨_,rfl,_,rfl,_,rfl,a,_,rfl,SqL.of (ga2 _ _ ha),fun p3 n3=>?_⟩
 generalize hH3:L2.upd H2 p3 _=H3;obtain⟨g3,e3⟩:=new_of n3 hH3;refine⟨len_ok rfl,fun p4 n4=>?_⟩
 generalize hH4:L2.upd H3 p4 _=H4;obtain⟨g4,e4⟩:=new_of n4 hH4;rw[cutV_last _ (fun z=>pg.mon.1 (List.map_eq_nil_iff.mp z))] at e3
 refine⟨p3,p4,_,_,rfl,rfl,g4 _ _ e3,e4,(by rw[sizeLine_eq,List.length_dropLast,Ya,pg.len];show _+1<=_;omega),fun p5 n5=>?_⟩
 generalize hH5:L2.upd H4 p5 _=H5;obtain⟨g5,e5⟩:=new_of n5 hH5;have ga5:=((ga2.trans g3).trans g4).trans g5;refine⟨_,rfl,a,_,rfl,.inl ⟨SqL.of (ga5 _ _ ha),fun p6 n6=>?_⟩⟩
 generalize hH6:L2.upd H5 p6 _=H6;obtain⟨g6,e6⟩:=new_of n6 hH6;refine⟨_,rfl,len_ok rfl,fun p7 n7=>?_⟩
 generalize hH7:L2.upd H6 p7 _=H7;obtain⟨g7,e7⟩:=new_of n7 hH7;have ga6:=ga5.trans g6;refine⟨a,p7,_,_,rfl,rfl,g7 _ _ (ga6 _ _ ha),e7,(by rw[sizeLine_eq,Ya,pg.len];show _+1<=_;omega),fun p8 n8=>?_⟩
 generalize hH8:L2.upd H7 p8 _=H8;obtain⟨g8,e8⟩:=new_of n8 hH8;refine⟨len_ok rfl,fun p9 n9=>?_⟩
 generalize hH9:L2.upd H8 p9 _=H9;obtain⟨g9,e9⟩:=new_of n9 hH9;refine⟨p9,13,_,rfl,rfl,e9,by decide,by decide,by rw[sizeLine_eq];decide,fun p10 n10=>?_⟩
 generalize hH10:L2.upd H9 p10 _=H10;obtain⟨g10,e10⟩:=new_of n10 hH10;refine⟨len_ok rfl,fun p11 n11=>?_⟩
 generalize hH11:L2.upd H10 p11 _=H11;obtain⟨g11,e11⟩:=new_of n11 hH11;refine⟨p10,p11,_,_,rfl,rfl,g11 _ _ e10,e11,by rw[sizeLine_eq];decide,fun p12 n12=>?_⟩
 generalize hH12:L2.upd H11 p12 _=H12;obtain⟨g12,e12⟩:=new_of n12 hH12;refine⟨len_ok rfl,fun p13 n13=>?_⟩
 generalize hH13:L2.upd H12 p13 _=H13;obtain⟨g13,e13⟩:=new_of n13 hH13;refine⟨len_ok rfl,fun p14 n14=>?_⟩
 generalize hH14:L2.upd H13 p14 _=H14;obtain⟨g14,e14⟩:=new_of n14 hH14;refine⟨len_ok rfl,fun p15 n15=>?_⟩
 generalize hH15:L2.upd H14 p15 _=H15;obtain⟨g15,e15⟩:=new_of n15 hH15;refine⟨len_ok rfl,fun p16 n16=>?_⟩
 generalize hH16:L2.upd H15 p16 _=H16;obtain⟨g16,e16⟩:=new_of n16 hH16;refine⟨len_ok rfl,fun p17 n17=>?_⟩
 generalize hH17:L2.upd H16 p17 _=H17;obtain⟨g17,e17⟩:=new_of n17 hH17;have b16:=g17;have b15:=g16.trans b16;have b14:=g15.trans b15;have b13:=g14.trans b14;have b12:=g13.trans b13;have b8:=(((g9.trans g10).trans g11).trans g12).trans b12;have b6:=(g7.trans g8).trans b8;have b5:=g6.trans b6;have b2:=((g3.trans g4).trans g5).trans b5;have b1:=g2.trans b2;have gA:=g1.trans b1;have h17:=gA _ _ ha;have hall:∀ k:Nat,k<13->∃ x,[V.non,V.int 7,sV "x",.ref p1,.ref p2,.ref p5,.ref p6,.ref p8,.ref p12,.ref p13,.ref p14,.ref p15,.ref p16][k]?=some x/\BmAns K H17 x false:=by
  intro k hk;have whl:∀ (q:Addr) (ns:List Int),H17 q=some (.lst (ns.map V.int))->ns.length<=1000->¬ (L2.Monic ns/\2<=ns.length/\ns.length<=13)->BmAns K H17 (.ref q) false:=fun q ns h l h'=>.whl h l false ⟨fun z=>(nomatch z),fun z=>W1 z h'⟩
  match k,hk with
  | 0,_=>exact⟨_,rfl,.other .non (by decide)⟩
  | 1,_=>exact⟨_,rfl,.other (.int 7) (by decide)⟩
  | 2,_=>exact⟨_,rfl,.other (.str _) (by decide)⟩
  | 3,_=>exact⟨_,rfl,whl _ [] (b1 _ _ e1) (by decide) fun z=>z.1.1 rfl⟩
  | 4,_=>exact⟨_,rfl,whl _ [1] (b2 _ _ e2) (by decide) fun z=>W1 z.2.1 (by decide)⟩
  | 5,_=>
   refine⟨_,rfl,whl _ (f.dropLast++[2]) (by rw[b5 _ _ e5,Y6,List.map_dropLast];rfl) (by rw[Yl,List.length_dropLast,pg.len];show _+1<=_;omega) fun z=>?_⟩
   have h1:=z.1.2;rw[Yl,show ([2]:List Int).length=1 from rfl,Nat.add_sub_cancel] at h1
   unfold coef at h1;rw[Yb,Y0 (Yd _),Wi] at h1;cases h1
  | 6,_=>exact⟨_,rfl,.other (.tup (SqT.of (b6 _ _ e6))) (by decide)⟩
  | 7,_=>
   refine⟨_,rfl,whl _ (f++[0]) (by rw[b8 _ _ e8,Y6];rfl) (by rw[Yl,pg.len];show _+1<=_;omega) fun z=>?_⟩
   have h1:=z.1.2;rw[Yl,show ([0]:List Int).length=1 from rfl,Nat.add_sub_cancel] at h1
   unfold coef at h1;rw[Yb,Y0 (Yd _),Wi] at h1;cases h1
  | 8,_=>exact⟨_,rfl,whl _ [0,0,0,0,0,0,0,0,0,0,0,0,0,1] (b12 _ _ e12) (by decide) fun z=>W1 z.2.2 (by decide)⟩
  | 9,_=>exact⟨_,rfl,.bad (i:=0) (SqL.of (b13 _ _ e13)) (fun j hj=>W1 hj (Zl _)) rfl (.bl true) (by decide)⟩
  | 10,_=>exact⟨_,rfl,.bad (i:=0) (SqL.of (b14 _ _ e14)) (fun j hj=>W1 hj (Zl _)) rfl .non (by decide)⟩
  | 11,_=>exact⟨_,rfl,.bad (i:=1) (SqL.of (b15 _ _ e15)) (fun j hj=>by rw[show j=0 by omega];exact⟨1,rfl⟩) rfl (.str _) (by decide)⟩
  | 12,_=>exact⟨_,rfl,whl _ [5] (b16 _ _ e16) (by decide) fun z=>W1 z.2.1 (by decide)⟩
 clear e1 e2 e3 e4 e5 e6 e7 e8 e9 e10 e11 e12 e13 e14 e15 e16 hH1 hH2 hH3 hH4 hH5 hH6 hH7 hH8 hH9 hH10 hH11 hH12 hH13 hH14 hH15 hH16 hH17;refine⟨_,rfl,_,_,rfl,rfl,(show (26:Int)≠0 by decide),_,_,rfl,rfl,_,rfl,ite2 (fun c1=>?_) (fun c1=>?_)⟩
 ·obtain⟨x,hx,bx⟩:=hall (c.fmod 13).toNat (by have:=Int.fmod_lt_of_pos c (show (0:Int)<13 by decide);omega)
  refine⟨_,rfl,_,rfl,_,_,rfl,rfl,(show (13:Int)≠0 by decide),p17,_,_,x,rfl,rfl,SqL.of e17,?_,q x H17 gA bx⟩
  have h0:0<=c.fmod 13:=Int.fmod_nonneg_of_pos c (by decide)
  have:=atI_nat hx
  rw[Zs h0] at this;exact this
 ·have hl:(f.map V.int).length=n+1:=by rw[Ya,pg.len]
  refine⟨_,rfl,_,_,rfl,rfl,(Bd.small (by decide) (by decide)).dv (by decide),_,rfl,a,_,rfl,.inl (SqL.of h17),_,_,rfl,rfl,(by rw[hl];show ((n+1:Nat):Int)≠0;omega),?_⟩
  rw[hl];obtain⟨at_,hat,eat⟩:∃ at_:Nat,at_<n+1/\(c.fdiv 26).fmod ((n+1:Nat):Int)=(at_:Int):=by
   have h0:=Int.fmod_nonneg_of_pos (c.fdiv 26) (show (0:Int)<((n+1:Nat):Int) by omega)
   have h1:=Int.fmod_lt_of_pos (c.fdiv 26) (show (0:Int)<((n+1:Nat):Int) by omega)
   exact⟨((c.fdiv 26).fmod ((n+1:Nat):Int)).toNat,by omega,by omega⟩
  show gName 3 (V.int ((c.fdiv 26).fmod ((n+1:Nat):Int))) _ _ _
  rw[eat];refine⟨_,rfl,_,rfl,_,rfl,a,_,rfl,SqL.of h17,fun pa na=>?_⟩
  generalize hHa:L2.upd H17 pa _=Ha;obtain⟨ga,ea⟩:=new_of na hHa;refine⟨len_ok rfl,fun pb nb=>?_⟩
  generalize hHb:L2.upd Ha pb _=Hb;obtain⟨gb,eb⟩:=new_of nb hHb;refine⟨len_ok rfl,fun pc nc=>?_⟩
  generalize hHc:L2.upd Hb pc _=Hc;obtain⟨gc,ec⟩:=new_of nc hHc;refine⟨len_ok rfl,fun pd nd=>?_⟩
  generalize hHd:L2.upd Hc pd _=Hd;obtain⟨gd,ed⟩:=new_of nd hHd;obtain⟨k6,hk6,ek6⟩:∃ k6:Nat,k6<6/\(c.fdiv 676).fmod 6=(k6:Int):=by
   have h0:=Int.fmod_nonneg_of_pos (c.fdiv 676) (show (0:Int)<6 by decide)
   have h1:=Int.fmod_lt_of_pos (c.fdiv 676) (show (0:Int)<6 by decide)
   exact⟨((c.fdiv 676).fmod 6).toNat,by omega,by omega⟩
  have hbad:∀ Hz,Same Hd Hz->∃ x T,[V.non,.bl true,sV "1",.ref pb,.ref pc,.bl false][k6]?=some x/\TyB K Hz x T/\T≠"int":=by
   intro Hz gz;match k6,hk6 with
   | 0,_=>exact⟨_,_,rfl,.non,by decide⟩
   | 1,_=>exact⟨_,_,rfl,.bl _,by decide⟩
   | 2,_=>exact⟨_,_,rfl,.str _,by decide⟩
   | 3,_=>exact⟨_,_,rfl,.lst (SqL.of (gz _ _ (gd _ _ (gc _ _ eb)))),by decide⟩
   | 4,_=>exact⟨_,_,rfl,.tup (SqT.of (gz _ _ (gd _ _ ec))),by decide⟩
   | 5,_=>exact⟨_,_,rfl,.bl _,by decide⟩
  obtain⟨x,T,hx,_,_⟩:=hbad Hd (Same.refl _);refine⟨_,rfl,_,_,rfl,rfl,(Bd.small (by decide) (by decide)).dv (by decide),_,_,rfl,rfl,(show (6:Int)≠0 by decide),pd,_,_,x,rfl,rfl,SqL.of ed,by rw[ek6];exact atI_nat hx,?_⟩
  refine⟨len_ok rfl,fun pe ne=>?_⟩
  generalize hHe:L2.upd Hd pe _=He;obtain⟨ge,ee⟩:=new_of ne hHe;have ea':=ge _ _ (gd _ _ (gc _ _ (gb _ _ ea)));rw[cutV_takeL] at ea';refine⟨pa,pe,_,_,rfl,rfl,ea',ee,(by rw[sizeLine_eq,Ya,Yr,pg.len];show _+1<=_;omega),fun pf nf=>?_⟩
  generalize hHf:L2.upd He pf _=Hf;obtain⟨gf,ef⟩:=new_of nf hHf;have gaf:=((((ga.trans gb).trans gc).trans gd).trans ge).trans gf;refine⟨_,rfl,_,rfl,_,_,rfl,rfl,_,rfl,a,_,rfl,SqL.of (gaf _ _ h17),fun pg' ng=>?_⟩
  generalize hHg:L2.upd Hf pg' _=Hg;obtain⟨gg,eg⟩:=new_of ng hHg;have ecut:cutV (f.map V.int) (some ((at_:Int)+1)) none=(f.map V.int).drop (at_+1):=cutV_from _ (at_+1) (by rw[hl];omega)
  rw[ecut] at eg;refine⟨pf,pg',_,_,rfl,rfl,gg _ _ ef,eg,(by rw[sizeLine_eq,Yl,Ya,Yr,Yz,hl,pg.len];show _+1+_<=_;omega),fun ph nh=>?_⟩
  generalize hHh:L2.upd Hg ph _=Hh;obtain⟨gh,eh⟩:=new_of nh hHh;obtain⟨x',T',hx',ty',hT'⟩:=hbad Hh (((ge.trans gf).trans gg).trans gh);rw[hx] at hx';cases hx';have lt:((f.take at_).map V.int).length=at_:=by rw[Ya,Yr,pg.len];omega
  refine q _ Hh ((gA.trans gaf).trans (gg.trans gh)) (.bad (i:=at_) (SqL.of eh) (fun j hj=>?_) ?_ ty' hT')
  ·rw[List.append_assoc,Y2 (by rw[lt];exact hj),Ye]
   rw[Yc (by rw[Yr,pg.len];omega)]
   exact⟨_,rfl⟩
  ·rw[List.append_assoc,Y0 (by rw[lt];exact Yd _),lt,Wi]
   rfl
end
theorem sqL_newO {K:FrQ}{Pp a:Addr}{H H':Hp}{xs:List V}{ps:Array Value}(h:SqL K H a xs)(e:H Pp=some (.tbl ps))(g:NewO H Pp H'):SqL K H' a xs:=by
 rcases h with h | h
 ·refine .inl ?_
  rcases h with h | ⟨o,h⟩
  ·exact .inl (g _ _ (fun z=>by rw[z] at h;have:=e.symm.trans h;cases this) h)
  ·exact .inr ⟨o,g _ _ (fun z=>by rw[z] at h;have:=e.symm.trans h;cases this) h⟩
 ·exact .inr h
def spLaw (K:FrQ)(Pp:Addr):Sp:=fun vs H Q _=>∃ (a:Addr) (ns:List Int),vs=[.ref a]/\SqL K H a (ns.map V.int)/\ns.length<=63/\H Pp=some (.tbl #[])/\∀ H',Q (.bl true) H'
structure W63 (Pp:Addr)(H0 H:Hp)(l:Addr)(n:Nat):Prop where
 new:NewO H0 Pp H
 tq:TabQ qualL Pp H
 f:∃ f,PG f n/\H l=some (.lst (f.map V.int))
 n1:1<=n
 n9:n<=9
theorem TyB.same {K:FrQ}{H H':Hp}{x:V}{T:String}(h:TyB K H x T)(g:Same H H'):TyB K H' x T:=by
 cases h with
 | non=>exact .non
 | bl x=>exact .bl x
 | int i=>exact .int i
 | str x=>exact .str x
 | lst e=>exact .lst (g.seq e)
 | @tup a xs e=>
  refine .tup (xs:=xs) ?_
  rcases e with (h | ⟨o,h⟩) | h
  ·exact .inl (.inl (g _ _ h))
  ·exact .inl (.inr ⟨o,g _ _ h⟩)
  ·exact .inr h
theorem BmAns.same {K:FrQ}{H H':Hp}{x:V}{b:Bool}(h:BmAns K H x b)(g:Same H H'):BmAns K H' x b:=by
 cases h with
 | whl a l b e=>exact .whl (g _ _ a) l b e
 | bad a b c d e=>exact .bad (g.seq a) b c (TyB.same d g) e
 | other a b=>exact .other (TyB.same a g) b
structure F63 (K:FrQ)(Pp:Addr)(H0 H:Hp)(p:Nat)(x d:V):Prop where
 new:NewO H0 Pp H
 tq:TabQ qualL Pp H
 b:∃ b:Bool,BmAns K H x b/\(b=false->d=sV "polynomial")/\(b=true->∃ l f n,x=.ref l/\H l=some (.lst (f.map V.int))/\PG f n/\1<=n/\n<=9/\DueV f p d)
structure F64 (K:FrQ)(Pp:Addr)(H0 H:Hp)(p:Nat)(x y d:V):Prop where
 new:NewO H0 Pp H
 tq:TabQ qualL Pp H
 b:∃ b c:Bool,PrAns K H y b/\BmAns K H x c/\(b=false->d=sV "prime")/\(b=true->y=.int (p:Int)/\(c=false->d=sV "polynomial")/\(c=true->∃ l f n,x=.ref l/\H l=some (.lst (f.map V.int))/\PG f n/\1<=n/\n<=9/\DueV f p d))
theorem fmod_nat (c:Int){m:Nat}(h:0<m):∃ k:Nat,k<m/\c.fmod (m:Int)=(k:Int):=by
 have h0:=Int.fmod_nonneg_of_pos c (show (0:Int)<(m:Int) by omega)
 have h1:=Int.fmod_lt_of_pos c (show (0:Int)<(m:Int) by omega)
 exact⟨(c.fmod (m:Int)).toNat,by omega,by omega⟩
theorem row_new {H:Hp}{r:Addr}{c:Int}(h:H r=none){H':Hp}(e:H' r=some (.lst [.int c,.int 1])):Rep H' (NewB H) (.ref r) (rE 2 (lin c)):=rE_vs (n:=2) (v:=lin c) e h
section
variable {P:Program} {w:World} {K:FrQ} {mg:Str->Option Value} {base:Heap}
theorem ok_law {P_lead_at:Addr}(B:Blt mg)(d_q_number:Dfn P w K mg base 2 "_law_number" Lq21 (spNumber K))(d_q_times:Dfn P w K mg base 2 "_law_times" Lq27 (spTimesL K))(d_q_product:Dfn P w K mg base 3 "_law_product" ["_law_some"] spProdL)(d_q_odd:Dfn P w K mg base 1 "_law_odd" Lq24 (spOdd K))(d_q_due:Dfn P w K mg base 5 "_law_due" Lq28 (spDueL K))(d_q_outcome:Dfn P w K mg base 12 "_law_outcome" Lq28 (spOut K P_lead_at))
  {f:Addr} {fd:FuncData} (F:Fun K "law" "law" s_law f fd):FnOk P w K mg base CX0 13 f fd ["_law_script"] (spLaw K P_lead_at):=by
 refine F.ok sc_law (fun vs H Q E h=>?_) (fun cdv A outer s H vs Q E hr h=>?_)
 ·obtain⟨a,ns,rfl,_⟩:=h;rfl
 obtain⟨la,ns,rfl,hs,hl,hPp,q⟩:=h;refine⟨_,pss_cons (ps_for PassesOwn.never rfl (pi_range1 rfl B.«range» (pa_cons (pe_op op_add pe_int (pe_callB (call_min2 rfl) rfl B.«min» bt_min (pa_cons pe_int (pa_cons (pe_callB (callK_len (K:=K) rfl) rfl B.«len» bt_len (pa_cons (pv 0) pa_nil)) pa_nil)))) pa_nil)) (pg_name (i:=1) sc_law.nd rfl (Or.inl rfl))
   (pss_cons (ps_set (i:=2) sc_law.nd rfl (Or.inr rfl) (pe_def d_q_number hr (pa_cons (pv 0) (pa_cons (pv 1) pa_nil))))
   (pss_cons (ps_set (i:=3) sc_law.nd rfl (Or.inl rfl) (pe_def d_q_number hr (pa_cons (pv 0) (pa_cons (pe_op op_add pe_int (pv 1)) pa_nil))))
   (pss_cons (ps_set (i:=4) sc_law.nd rfl (Or.inl rfl) (pe_ix (ixK_list (K:=K) rfl) (pe_lst (pa_cons pe_int (pa_cons pe_int (pa_cons pe_int (pa_cons pe_int (pa_cons pe_int (pa_cons pe_int pa_nil))))))) (pe_op op_modN (pv 2) pe_int) (fun _ _=>rfl)))
   (pss_cons (ps_set (i:=5) sc_law.nd rfl (Or.inr rfl) (pe_op op_add pe_int (pe_op op_modN (pe_op op_fdivW (pv 2) pe_int) pe_int)))
   (pss_cons (ps_set (i:=6) sc_law.nd rfl (Or.inl rfl) (pe_def d_q_product hr (pa_cons (pe_comp (compScope_mk (N:=["_law_j","_law_n","_law_cell"]) (sl:=[none,some 5,some 2]) (defScope s_law) Lq0 rfl rfl (by decide +kernel)) rfl (pi_range1 rfl B.«range» (pa_cons (pv 5) pa_nil)) (fun _ _ _ _ _=>(pg_name (i:=0) (by show Yo (["_law_j","_law_n","_law_cell"]:List Str);decide +kernel) rfl (Or.inl rfl))) (fun _ _ _ _ _=>pif_none) (fun _ _ _ _ _=>(pe_lst (pa_cons (pe_op op_sub (pe_op op_sub pe_int (pv 0)) (pe_op op_mulO (pv 1) (pe_op op_modN (pe_op op_fdivW (pe_op op_fdivW (pv 2) pe_int) (pe_op op_add (pv 0) pe_int)) pe_int))) (pa_cons pe_int pa_nil))))) pa_nil)))
   (pss_cons (ps_if (PW.pt (pw_and (pt_cmpR op_eq (pe_op op_modN (pv 3) pe_int) pe_int (nomark _)) (pw_and1 (pt_cmpR op_lt (pv 5) pe_int (nomark _)))))
    (pss_one (ps_set (i:=6) sc_law.nd rfl (Or.inl rfl) (pe_def d_q_times hr (pa_cons (pv 6) (pa_cons (pe_lst (pa_cons (pe_op op_add pe_int (pe_op op_modN (pe_op op_fdivW (pv 2) pe_int) pe_int)) (pa_cons (pe_op op_sub (pe_op op_modN (pe_op op_fdivW (pv 2) pe_int) pe_int) pe_int) (pa_cons pe_int pa_nil)))) pa_nil)))))
    (pss_nil))
   (pss_cons (ps_if (pt_cmpR op_eq (pe_op op_modN (pe_op op_fdivW (pv 3) pe_int) pe_int) pe_int (nomark _))
    (pss_one (ps_set (i:=6) sc_law.nd rfl (Or.inl rfl) (pe_def d_q_product hr (pa_cons (pe_op op_cat (pe_comp (compScope_mk (N:=["_law_j"]) (sl:=[none]) (defScope s_law) Lq0 rfl rfl (by decide +kernel)) rfl (pi_range1 rfl B.«range» (pa_cons (pe_op op_add pe_int (pe_op op_modN (pe_op op_fdivW (pv 2) pe_int) pe_int)) pa_nil)) (fun _ _ _ _ _=>(pg_name (i:=0) (by show Yo (["_law_j"]:List Str);decide +kernel) rfl (Or.inl rfl))) (fun _ _ _ _ _=>pif_none) (fun _ _ _ _ _=>(pe_lst (pa_cons (pe_op op_sub pe_int (pv 0)) (pa_cons pe_int pa_nil))))) (pe_lst (pa_cons (pe_lst (pa_cons (pe_op op_sub pe_int (pe_op op_mulO (pe_op op_mulO (pe_op op_mulO (pe_op op_mulO (pv 4) (pv 4)) (pv 4)) (pv 4)) (pv 4))) (pa_cons pe_int pa_nil))) pa_nil))) pa_nil))))
    (pss_nil))
   (pss_cons (ps_if (pt_cmpR op_eq (pe_op op_modN (pe_op op_fdivW (pv 3) pe_int) pe_int) pe_int (nomark _))
    (pss_cons (ps_set (i:=6) sc_law.nd rfl (Or.inl rfl) (pe_def d_q_product hr (pa_cons (pe_lst (pa_cons (pe_lst (pa_cons (pe_op op_modN (pe_op op_fdivW (pv 2) pe_int) pe_int) (pa_cons pe_int pa_nil))) (pa_cons (pe_lst (pa_cons (pe_op op_modN (pe_op op_fdivW (pv 2) pe_int) pe_int) (pa_cons pe_int pa_nil))) (pa_cons (pe_lst (pa_cons (pe_op op_modN (pe_op op_fdivW (pv 2) pe_int) pe_int) (pa_cons pe_int pa_nil))) pa_nil)))) pa_nil)))
    (pss_one (ps_set (i:=6) sc_law.nd rfl (Or.inl rfl) (pe_def d_q_times hr (pa_cons (pv 6) (pa_cons (pe_def d_q_product hr (pa_cons (pe_comp (compScope_mk (N:=["_law_j"]) (sl:=[none]) (defScope s_law) Lq0 rfl rfl (by decide +kernel)) rfl (pi_range1 rfl B.«range» (pa_cons (pe_op op_modN (pe_op op_fdivW (pv 2) pe_int) pe_int) pa_nil)) (fun _ _ _ _ _=>(pg_name (i:=0) (by show Yo (["_law_j"]:List Str);decide +kernel) rfl (Or.inl rfl))) (fun _ _ _ _ _=>pif_none) (fun _ _ _ _ _=>(pe_lst (pa_cons (pe_op op_sub (pe_op op_sub pe_int pe_int) (pv 0)) (pa_cons pe_int pa_nil))))) pa_nil)) pa_nil))))))
    (pss_nil))
   (pss_cons (ps_if (pt_cmpR op_eq (pe_op op_modN (pe_op op_fdivW (pv 3) pe_int) pe_int) pe_int (nomark _))
    (pss_cons (ps_set (i:=6) sc_law.nd rfl (Or.inl rfl) (pe_def d_q_odd hr (pa_cons (pe_op op_fdivW (pv 2) pe_int) (pa_cons (pv 6) pa_nil))))
    (pss_one (ps_set (i:=7) sc_law.nd rfl (Or.inl rfl) pe_str)))
    (pss_one (ps_set (i:=7) sc_law.nd rfl (Or.inl rfl) (pe_def d_q_due hr (pa_cons (pv 6) (pa_cons (pv 4) pa_nil))))))
   (pss_cons (ps_if (pt_cmpR op_eq (pe_op op_modN (pe_op op_fdivW (pv 3) pe_int) pe_int) pe_int (nomark _))
    (pss_cons (ps_set (i:=4) sc_law.nd rfl (Or.inl rfl) (pe_ix (ixK_list (K:=K) rfl) (pe_lst (pa_cons pe_int (pa_cons pe_int (pa_cons pe_int (pa_cons pe_int (pa_cons (pe_un un_neg pe_int) (pa_cons pe_bl (pa_cons pe_non (pa_cons pe_str (pa_cons (pe_lst (pa_cons pe_int pa_nil)) (pa_cons (pe_tup (pa_cons pe_int pa_nil)) (pa_cons pe_int (pa_cons (pe_op op_pow pe_int pe_int) pa_nil))))))))))))) (pe_op op_modN (pe_op op_fdivW (pv 2) pe_int) pe_int) (fun _ _=>rfl)))
    (pss_one (ps_set (i:=7) sc_law.nd rfl (Or.inl rfl) pe_str)))
    (pss_nil))
   (pss_one (ps_if (pt_cmpR op_ne (pe_def d_q_outcome hr (pa_cons (pv 6) (pa_cons (pv 4) pa_nil))) (pv 7) (nomark _))
    (pss_one (ps_ret pe_bl))
    (pss_nil))))))))))))))
  (pss_one (ps_ret pe_bl)),?_⟩
 walk_at "rd"
 have hrg:∃ m:Nat,m<=6/\(1:Int)+(if ((ns.map V.int).length:Int)<5 then ((ns.map V.int).length:Int) else 5)=(m:Int):=by
  rw[Ya];split
  ·exact⟨1+ns.length,by omega,by omega⟩
  ·exact⟨6,by omega,by omega⟩
 obtain⟨m,hm,em⟩:=hrg;refine⟨la,_,rfl,.inl hs,_,_,rfl,_,_,rfl,rfl,(m:Int),Wz (fun z=>[V.int z]) em,by omega,by omega,for_range (n:=m) (fun i σ H2=>NewO H P_lead_at H2/\TabQ qualL P_lead_at H2/\∃ (o1 o2 o3 o4 o5 o6 o7:Option V),σ=[Rq la,o1,o2,o3,o4,o5,o6,o7]) ⟨NewO.refl _ _,.nil hPp,_,_,_,_,_,_,_,rfl⟩ ?_ ?_⟩
 ·rintro i σ H2 hi ⟨g2,t2,o1,o2,o3,o4,o5,o6,o7,rfl⟩
  have hs2:=sqL_newO hs hPp g2;refine⟨_,rfl,_,rfl,la,ns,_,rfl,hs2,by omega,by omega,fun cell=>?_⟩
  refine⟨_,rfl,_,rfl,_,_,rfl,rfl,la,ns,_,rfl,hs2,by omega,by omega,fun more=>?_⟩
  refine⟨len_ok rfl,fun p3 n3=>?_⟩
  generalize hH3:L2.upd H2 p3 _=H3;obtain⟨g3,e3⟩:=new_of n3 hH3;clear hH3;obtain⟨p,hp,hpx⟩:∃ p:Nat,(p∈PR/\p<=47)/\atI [V.int 2,.int 3,.int 5,.int 7,.int 43,.int 47] (cell.fmod 6)=some (.int (p:Int)):=by
   obtain⟨k,hk,ek⟩:=fmod_nat cell (show 0<6 by decide)
   rw[show cell.fmod 6=(k:Int) from ek]
   match k,hk with
   | 0,_=>exact⟨2,by decide,rfl⟩
   | 1,_=>exact⟨3,by decide,rfl⟩
   | 2,_=>exact⟨5,by decide,rfl⟩
   | 3,_=>exact⟨7,by decide,rfl⟩
   | 4,_=>exact⟨43,by decide,rfl⟩
   | 5,_=>exact⟨47,by decide,rfl⟩
  refine⟨_,rfl,_,_,rfl,rfl,(show (6:Int)≠0 by decide),p3,_,_,_,rfl,rfl,SqL.of e3,hpx,?_⟩
  obtain⟨k6,hk6,ek6⟩:=fmod_nat (cell.fdiv 6) (show 0<6 by decide)
  refine⟨_,rfl,_,_,rfl,rfl,(Bd.small (by decide) (by decide)).dv (by decide),_,_,rfl,rfl,(show (6:Int)≠0 by decide),_,_,rfl,rfl,?_⟩
  show gName 5 (V.int (1+(cell.fdiv 6).fmod 6)) _ _ _
  rw[show (1:Int)+(cell.fdiv 6).fmod 6=((1+k6:Nat):Int) from by rw[show (cell.fdiv 6).fmod 6=(k6:Int) from ek6];omega]
  obtain⟨nn,hnn⟩:∃ nn,nn=1+k6:=⟨_,rfl⟩;rw[<- hnn];have hnn1:1<=nn:=by omega
  have hnn6:nn<=6:=by omega
  clear hnn ek6 hk6 hpx e3;have w3:NewO H P_lead_at H3:=g2.trans (NewO.of g3);have t3:=t2.same g3;clear g3 g2 t2 hs2 n3;show Ends.nx _ (List.set _ _ _) _
  dsimp only
  refine mseqF (fun x:Addr=>[Rq la,some (.int (0+(i:Int))),some (.int cell),some (.int more),Iq (p),Iq (nn),Rq x,o7]) (fun x H4=>W63 P_lead_at H H4 x nn) (fun C key=>?_) ?_
  ·refine⟨_,rfl,_,rfl,by omega,by omega,fun D hD=>?_⟩
   rw[Yk];refine cmpR (fun j=>rE 2 (lin (0 - (0+(j:Int)) - (nn:Int)*((cell.fdiv 64).fdiv (0+(j:Int)+1)).fmod 3))) hD (by omega) (fun j H4 Q4 hj g4 q4=>?_) fun H4 g4 rr=>?_
   ·walk_at "rd"
    refine⟨(Bd.small (by omega) (by omega)).dv (by omega),?_⟩
    walk_at "rd"
    refine⟨mulOkL (by omega) (by omega),?_⟩
    walk_at "rd"
    exact fun r hr4=>q4 _ _ (same_new hr4 _) (row_new hr4 upd_same)
   ·obtain⟨lD,vs,eD,hlD,_,C2⟩:=id rr.cf
    cases eD;refine⟨D,vs,nn,_,_,rfl,hlD,C2,by omega,fun j hj=>?_,fun f pg l H5 g5 nl hl5=>?_⟩
    ·obtain⟨k,hk,ek⟩:=fmod_nat ((cell.fdiv 64).fdiv (0+(j:Int)+1)) (show 0<3 by decide)
     show (0 - (0+(j:Int)) - (nn:Int)*((cell.fdiv 64).fdiv (0+(j:Int)+1)).fmod 3).natAbs<=_
     rw[show ((cell.fdiv 64).fdiv (0+(j:Int)+1)).fmod 3=(k:Int) from ek]
     match k,hk with
     | 0,_=>omega
     | 1,_=>omega
     | 2,_=>omega
    ·exact key l H5 ⟨w3.trans (NewO.of (g4.trans g5)),t3.same (g4.trans g5),⟨f,pg,hl5⟩,hnn1,by omega⟩
  clear w3 t3;rintro x1 H4 w4;refine mseqF (fun x:Addr×Nat=>[Rq la,some (.int (0+(i:Int))),some (.int cell),some (.int more),Iq (p),Iq (nn),Rq x.1,o7]) (fun x H5=>W63 P_lead_at H H5 x.1 x.2) (fun C key=>?_) ?_
  ·obtain⟨f1,pg1,hl1⟩:=w4.f
   have skip1:=key (x1,nn) H4 w4;refine⟨_,rfl,_,_,rfl,rfl,(show (4:Int)≠0 by decide),rfl,_,rfl,ite2 (fun c1=>?_) (fun c1=>skip1)⟩
   refine⟨_,rfl,_,_,rfl,rfl,_,rfl,ite2 (fun c2=>?_) (fun c2=>skip1)⟩
   have hn5:(nn:Int)<5:=Wx c2;refine⟨_,rfl,_,rfl,_,_,rfl,rfl,(Bd.small (by decide) (by decide)).dv (by decide),_,_,rfl,rfl,(show (9:Int)≠0 by decide),_,_,rfl,rfl,_,rfl,_,_,rfl,rfl,(Bd.small (by decide) (by decide)).dv (by decide),_,_,rfl,rfl,(show (9:Int)≠0 by decide),_,_,rfl,rfl,len_ok rfl,fun p5 n5=>?_⟩
   generalize hH5:L2.upd H4 p5 _=H5;obtain⟨g5,e5⟩:=new_of n5 hH5;clear hH5;obtain⟨ka,hka,eka⟩:=fmod_nat (cell.fdiv 97) (show 0<9 by decide)
   obtain⟨kb,hkb,ekb⟩:=fmod_nat (cell.fdiv 873) (show 0<9 by decide)
   have pq:PG [1+(cell.fdiv 97).fmod 9,(cell.fdiv 873).fmod 9 - 4,1] 2:=PG.quad (by rw[show (cell.fdiv 97).fmod 9=(ka:Int) from eka];omega) (by rw[show (cell.fdiv 873).fmod 9=(kb:Int) from ekb];omega)
   refine⟨x1,p5,f1,[1+(cell.fdiv 97).fmod 9,(cell.fdiv 873).fmod 9 - 4,1],rfl,SqL.of (g5 _ _ hl1),SqL.of e5,by rw[pg1.len];omega,(by show 3<=400;decide),(pg1.bds (by omega)).mono (by decide),(pq.bds (by decide)).mono (by decide),fun r H6 g6 nr hr6=>?_⟩
   exact key (r,nn+2) H6 ⟨w4.new.trans (NewO.of (g5.trans g6)),w4.tq.same (g5.trans g6),⟨_,pg1.mul pq,hr6⟩,by omega,by omega⟩
  clear w4;rintro⟨x2,n2⟩ H5 w5
  refine mseqF (fun x:Addr×Nat=>[Rq la,some (.int (0+(i:Int))),some (.int cell),some (.int more),Iq (p),Iq (nn),Rq x.1,o7]) (fun x H6=>W63 P_lead_at H H6 x.1 x.2) (fun C key=>?_) ?_
  ·refine⟨_,rfl,_,_,rfl,rfl,(Bd.small (by decide) (by decide)).dv (by decide),_,_,rfl,rfl,(show (3:Int)≠0 by decide),rfl,_,rfl,ite2 (fun c1=>?_) (fun c1=>key (x2,n2) H5 w5)⟩
   obtain⟨k3,hk3,ek3⟩:=fmod_nat (cell.fdiv 5) (show 0<3 by decide)
   refine⟨_,rfl,_,_,rfl,rfl,(Bd.small (by decide) (by decide)).dv (by decide),_,_,rfl,rfl,(show (3:Int)≠0 by decide),_,_,rfl,rfl,((5+k3:Nat):Int),Wz (fun z=>[V.int z]) (by rw[show (cell.fdiv 5).fmod 3=(k3:Int) from ek3];omega),by omega,by omega,fun D hD=>?_⟩
   rw[Yk];refine cmpR (fun j=>rE 2 (lin (0 - (0+(j:Int))))) hD (by omega) (fun j H6 Q6 hj g6 q6=>?_) fun H6 g6 rr=>?_
   ·walk_at "rd"
    exact fun r hr6=>q6 _ _ (same_new hr6 _) (row_new hr6 upd_same)
   ·obtain⟨lD,vs,eD,hlD,_,C2⟩:=id rr.cf
    cases eD;refine⟨_,rfl,_,rfl,_,_,rfl,rfl,mulOkL (by omega) (by omega),_,rfl,_,_,rfl,rfl,mulOkR (by omega) (by omega),_,rfl,_,_,rfl,rfl,mulOkR (by omega) (by omega),_,rfl,_,_,rfl,rfl,mulOkR (by omega) (by omega),_,_,rfl,rfl,len_ok rfl,fun p7 n7=>?_⟩
    generalize hH7:L2.upd H6 p7 _=H7;obtain⟨g7,e7⟩:=new_of n7 hH7;clear hH7;refine⟨len_ok rfl,fun p8 n8=>?_⟩
    generalize hH8:L2.upd H7 p8 _=H8;obtain⟨g8,e8⟩:=new_of n8 hH8;clear hH8;refine⟨D,p8,vs,_,rfl,rfl,g8 _ _ (g7 _ _ hlD),e8,(by rw[sizeLine_eq,C2.len];show _+1<=_;omega),fun p9 n9=>?_⟩
    generalize hH9:L2.upd H8 p9 _=H9;obtain⟨g9,e9⟩:=new_of n9 hH9;clear hH9;have g69:=(g7.trans g8).trans g9;have C3:Cf H9 Any (vs++[V.ref p7]) (5+k3+1) (fun j=>rE 2 (lin (if j<5+k3 then 0 - (0+(j:Int)) else 0 - (p:Int)*p*p*p*p))):=by
     refine⟨by rw[Yl,C2.len];rfl,fun j hj=>?_⟩
     by_cases c:j<5+k3
     ·obtain⟨y,hy,ry⟩:=C2.at_ j c
      refine⟨y,by rw[Y2 (by rw[C2.len];exact c)];exact hy,?_⟩
      rw[Wv c];exact (ry.same g69).any
     ·refine⟨.ref p7,by rw[Y0 (by rw[C2.len];omega),C2.len,show j - (5+k3)=0 by omega];rfl,?_⟩
      rw[Wu c];exact ((row_new n7 e7).same (g8.trans g9)).any
    refine⟨p9,_,5+k3+1,_,Any,rfl,e9,C3,by omega,fun j hj=>?_,fun f pg l H10 g10 nl hl=>?_⟩
    ·show (if j<5+k3 then 0 - (0+(j:Int)) else 0 - (p:Int)*p*p*p*p).natAbs<=_
     split
     ·omega
     ·have hp5:(p:Int)*p*p*p*p=((p ^ 5:Nat):Int):=by rw[We];grind
      rw[hp5];have:p ^ 5<=47 ^ 5:=Nat.pow_le_pow_left hp.2 5
      omega
    ·exact key (l,5+k3+1) H10 ⟨w5.new.trans (NewO.of ((g6.trans g69).trans g10)),w5.tq.same ((g6.trans g69).trans g10),⟨_,pg,hl⟩,by omega,by omega⟩
  clear w5 x2 n2 x1;rintro⟨x2,n2⟩ H6 w6
  refine mseqF (fun x:Addr×Nat=>[Rq la,some (.int (0+(i:Int))),some (.int cell),some (.int more),Iq (p),Iq (nn),Rq x.1,o7]) (fun x H7=>W63 P_lead_at H H7 x.1 x.2) (fun C key=>?_) ?_
  ·refine⟨_,rfl,_,_,rfl,rfl,(Bd.small (by decide) (by decide)).dv (by decide),_,_,rfl,rfl,(show (4:Int)≠0 by decide),rfl,_,rfl,ite2 (fun c1=>?_) (fun c1=>key (x2,n2) H6 w6)⟩
   refine mseqF (fun x:Addr=>[Rq la,some (.int (0+(i:Int))),some (.int cell),some (.int more),Iq (p),Iq (nn),Rq x,o7]) (fun x H7=>W63 P_lead_at H H7 x 3) (fun C2 key2=>?_) ?_
   ·refine⟨_,rfl,_,_,rfl,rfl,(Bd.small (by decide) (by decide)).dv (by decide),_,_,rfl,rfl,(show (5:Int)≠0 by decide),len_ok rfl,fun p7 n7=>?_⟩
    generalize hH7:L2.upd H6 p7 _=H7;obtain⟨g7,e7⟩:=new_of n7 hH7;clear hH7;refine⟨_,rfl,_,_,rfl,rfl,(Bd.small (by decide) (by decide)).dv (by decide),_,_,rfl,rfl,(show (5:Int)≠0 by decide),len_ok rfl,fun p8 n8=>?_⟩
    generalize hH8:L2.upd H7 p8 _=H8;obtain⟨g8,e8⟩:=new_of n8 hH8;clear hH8;refine⟨_,rfl,_,_,rfl,rfl,(Bd.small (by decide) (by decide)).dv (by decide),_,_,rfl,rfl,(show (9:Int)≠0 by decide),len_ok rfl,fun p9 n9=>?_⟩
    generalize hH9:L2.upd H8 p9 _=H9;obtain⟨g9,e9⟩:=new_of n9 hH9;clear hH9;refine⟨len_ok rfl,fun p10 n10=>?_⟩
    generalize hH10:L2.upd H9 p10 _=H10;obtain⟨g10,e10⟩:=new_of n10 hH10;clear hH10;obtain⟨ka,hka,eka⟩:=fmod_nat (cell.fdiv 7) (show 0<5 by decide)
    obtain⟨kb,hkb,ekb⟩:=fmod_nat (cell.fdiv 11) (show 0<9 by decide)
    have g610:=((g7.trans g8).trans g9).trans g10;have C3:Cf H10 Any [V.ref p7,.ref p8,.ref p9] 3 (fun j=>rE 2 (lin (if j<2 then (cell.fdiv 7).fmod 5 else (cell.fdiv 11).fmod 9))):=by
     refine⟨rfl,fun j hj=>?_⟩
     match j,hj with
     | 0,_=>exact⟨_,rfl,((row_new n7 e7).same ((g8.trans g9).trans g10)).any⟩
     | 1,_=>exact⟨_,rfl,((row_new n8 e8).same (g9.trans g10)).any⟩
     | 2,_=>exact⟨_,rfl,((row_new n9 e9).same g10).any⟩
    refine⟨p10,_,3,_,Any,rfl,e10,C3,by omega,fun j hj=>?_,fun f pg l H11 g11 nl hl=>?_⟩
    ·show (if j<2 then (cell.fdiv 7).fmod 5 else (cell.fdiv 11).fmod 9).natAbs<=_
     rw[show (cell.fdiv 7).fmod 5=(ka:Int) from eka,show (cell.fdiv 11).fmod 9=(kb:Int) from ekb]
     split <;> omega
    ·exact key2 l H11 ⟨w6.new.trans (NewO.of (g610.trans g11)),w6.tq.same (g610.trans g11),⟨_,pg,hl⟩,by decide,by decide⟩
   clear w6 H6 x2 n2;rintro x2 H6 w6;obtain⟨f2,pg2,hl2⟩:=w6.f;obtain⟨k7,hk7,ek7⟩:=fmod_nat (cell.fdiv 13) (show 0<7 by decide)
   refine⟨_,rfl,_,rfl,_,_,rfl,rfl,(Bd.small (by decide) (by decide)).dv (by decide),_,_,rfl,rfl,(show (7:Int)≠0 by decide),(k7:Int),Wz (fun z=>[V.int z]) ek7,by omega,by omega,fun D hD=>?_⟩
   rw[Yk];refine cmpR (fun j=>rE 2 (lin (0 - 10 - (0+(j:Int))))) hD (by omega) (fun j H7 Q7 hj g7 q7=>?_) fun H7 g7 rr=>?_
   ·walk_at "rd"
    exact fun r hr6=>q7 _ _ (same_new hr6 _) (row_new hr6 upd_same)
   ·obtain⟨lD,vs,eD,hlD,_,C2⟩:=id rr.cf
    cases eD;refine⟨D,vs,k7,_,_,rfl,hlD,C2,by omega,fun j hj=>?_,fun f pg l H8 g8 nl hl=>?_⟩
    ·show (0 - 10 - (0+(j:Int))).natAbs<=_
     omega
    ·refine⟨x2,l,f2,f,rfl,SqL.of (g8 _ _ (g7 _ _ hl2)),SqL.of hl,by rw[pg2.len];decide,by rw[pg.len];omega,(pg2.bds (by decide)).mono (by decide),(pg.bds (by omega)).mono (by decide),fun r H9 g9 nr hr9=>?_⟩
     have g69:=(g7.trans g8).trans g9;exact key (r,3+k7) H9 ⟨w6.new.trans (NewO.of g69),w6.tq.same g69,⟨_,pg2.mul pg,hr9⟩,by omega,by omega⟩
  clear w6 x2 n2;rintro⟨x3,n3⟩ H7 w7
  refine mseqF (fun x:V×V=>[Rq la,some (.int (0+(i:Int))),some (.int cell),some (.int more),Iq (p),Iq (nn),some x.1,some x.2]) (fun x H8=>F63 K P_lead_at H H8 p x.1 x.2) (fun C key=>?_) ?_
  ·obtain⟨f3,pg3,hl3⟩:=w7.f
   have n9:=w7.n9;have n1:=w7.n1;refine⟨_,rfl,_,_,rfl,rfl,(Bd.small (by decide) (by decide)).dv (by decide),_,_,rfl,rfl,(show (4:Int)≠0 by decide),rfl,_,rfl,ite2 (fun c1=>?_) (fun c1=>?_)⟩
   ·refine⟨_,rfl,_,_,rfl,rfl,(Bd.small (by decide) (by decide)).dv (by decide),_,rfl,_,x3,f3,n3,rfl,hl3,pg3,n1,n9,fun x H8 g8 bx=>?_⟩
    exact key (x,sV "polynomial") H8 ⟨w7.new.trans (NewO.of g8),w7.tq.same g8,false,bx,fun _=>rfl,fun z=>(nomatch z)⟩
   ·have pp:=pr_pos hp.1
    refine⟨_,rfl,_,rfl,x3,f3,n3,p,rfl,SqL.of hl3,pg3,n1,n9,by omega,by omega,fun v H8 g8 dv=>?_⟩
    exact key (.ref x3,v) H8 ⟨w7.new.trans (NewO.of g8),w7.tq.same g8,true,.whl (g8 _ _ hl3) (by rw[pg3.len];omega) true ⟨fun _=>⟨pg3.mon,by rw[pg3.len];omega,by rw[pg3.len];omega⟩,fun _=>rfl⟩,fun z=>(nomatch z),fun _=>⟨x3,f3,n3,rfl,g8 _ _ hl3,pg3,n1,n9,dv⟩⟩
  clear w7 x3 n3;rintro⟨xf,xd⟩ H8 w8
  refine mseqF (fun x:V×V=>[Rq la,some (.int (0+(i:Int))),some (.int cell),some (.int more),some x.1,Iq (nn),some xf,some x.2]) (fun x H9=>F64 K P_lead_at H H9 p xf x.1 x.2) (fun C key=>?_) ?_
  ·refine⟨_,rfl,_,_,rfl,rfl,(Bd.small (by decide) (by decide)).dv (by decide),_,_,rfl,rfl,(show (4:Int)≠0 by decide),rfl,_,rfl,ite2 (fun c1=>?_) (fun c1=>?_)⟩
   ·refine⟨2,rfl,len_ok rfl,fun p9 n9=>?_⟩
    generalize hH9:L2.upd H8 p9 _=H9;obtain⟨g9,e9⟩:=new_of n9 hH9;clear hH9;refine⟨len_ok rfl,fun p10 n10=>?_⟩
    generalize hH10:L2.upd H9 p10 _=H10;obtain⟨g10,e10⟩:=new_of n10 hH10;clear hH10;refine⟨_,_,rfl,rfl,⟨by decide,by decide,by decide⟩,len_ok rfl,fun p11 n11=>?_⟩
    generalize hH11:L2.upd H10 p11 _=H11;obtain⟨g11,e11⟩:=new_of n11 hH11;clear hH11;obtain⟨k12,hk12,ek12⟩:=fmod_nat (cell.fdiv 17) (show 0<12 by decide)
    have hx:∃ y,[V.int 1,.int 4,.int 53,.int 0,.int (-2),.bl true,.non,sV "2",.ref p9,.ref p10,.int 49,.int (10 ^ 30)][k12]?=some y/\PrAns K H11 y false:=by
     have ii:∀ z:Int,inV (V.int z) prV=false->PrAns K H11 (.int z) false:=fun z h=>by rw[<- h];exact .int z
     match k12,hk12 with
     | 0,_=>exact⟨_,rfl,ii _ (by decide)⟩
     | 1,_=>exact⟨_,rfl,ii _ (by decide)⟩
     | 2,_=>exact⟨_,rfl,ii _ (by decide)⟩
     | 3,_=>exact⟨_,rfl,ii _ (by decide)⟩
     | 4,_=>exact⟨_,rfl,ii _ (by decide)⟩
     | 5,_=>exact⟨_,rfl,.other (.bl true) (by decide)⟩
     | 6,_=>exact⟨_,rfl,.other .non (by decide)⟩
     | 7,_=>exact⟨_,rfl,.other (.str _) (by decide)⟩
     | 8,_=>exact⟨_,rfl,.other (.lst (SqL.of (g11 _ _ (g10 _ _ e9)))) (by decide)⟩
     | 9,_=>exact⟨_,rfl,.other (.tup (SqT.of (g11 _ _ e10))) (by decide)⟩
     | 10,_=>exact⟨_,rfl,ii _ (by decide)⟩
     | 11,_=>exact⟨_,rfl,ii _ (by decide)⟩
    obtain⟨y,hy,py⟩:=hx;refine⟨_,rfl,_,_,rfl,rfl,(Bd.small (by decide) (by decide)).dv (by decide),_,_,rfl,rfl,(show (12:Int)≠0 by decide),p11,_,_,y,rfl,rfl,SqL.of e11,by rw[show (cell.fdiv 17).fmod 12=(k12:Int) from ek12];exact atI_nat hy,?_⟩
    obtain⟨b,bm,_,_⟩:=w8.b;have g811:=(g9.trans g10).trans g11;exact key (y,sV "prime") H11 ⟨w8.new.trans (NewO.of g811),w8.tq.same g811,false,b,py,bm.same g811,fun _=>rfl,fun z=>(nomatch z)⟩
   ·obtain⟨b,bm,h1,h2⟩:=w8.b
    refine key (.int (p:Int),xd) H8 ⟨w8.new,w8.tq,true,b,?_,bm,fun z=>(nomatch z),fun _=>⟨rfl,h1,h2⟩⟩
    have:inV (V.int (p:Int)) prV=true:=by
     unfold inV prV;rw[List.any_eq_true];exact⟨_,List.mem_map.mpr ⟨p,hp.1,rfl⟩,by show ((p:Int) ==(p:Int))=true;exact beq_self_eq_true _⟩
    rw[<- this];exact .int _
  clear w8;rintro⟨xp,xe⟩ H9 w9
  obtain⟨b,c,pa,bm,h1,h2⟩:=w9.b;have tq9:=w9.tq;obtain⟨ps,hps,_⟩:=id tq9;have hdel:∀ (l:Addr) (f:List Int),H9 l=some (.lst (f.map V.int))->del H9 P_lead_at l=some (.lst (f.map V.int)):=fun l f h=>by
   rw[del_of (fun z=>by rw[z] at h;rw[hps] at h;cases h)];exact h
  refine⟨_,rfl,_,rfl,xf,xp,b,c,rfl,pa,bm,tq9,fun hb hc a f' ex ha=>?_,fun v H10 n10 t10 q1 q2 q3=>?_⟩
  ·obtain⟨l,f1,n,ef,hl1,pg,k1,k9,_⟩:=(h2 hb).2.2 hc
   rw[ex] at ef;cases ef;rw[ha] at hl1;have e:f'=f1:=(List.map_inj_right (f:=V.int) fun _ _ z=>V.int.inj z).mp (HO.lst.inj (Option.some.inj hl1))
   subst e;exact⟨hdel _ _ ha,pg.disc k1 k9⟩
  ·have ev:v=xe/\scal v v=true:=by
    cases b with
    | false=>exact⟨(q1 rfl).trans (h1 rfl).symm,by rw[q1 rfl];rfl⟩
    | true=>
     obtain⟨ey,k1,k2⟩:=h2 rfl;cases c with
     | false=>exact⟨(q2 rfl rfl).trans (k1 rfl).symm,by rw[q2 rfl rfl];rfl⟩
     | true=>
      obtain⟨l,f1,n,ef,hl1,pg,_,_,dv⟩:=k2 rfl;have d2:=q3 rfl rfl l f1 p ef hl1 ey;refine⟨d2.uniq dv,?_⟩
      cases d2 <;> rfl
   obtain⟨rfl,sc⟩:=ev;refine⟨_,rfl,sc,_,rfl,ite2 (fun z=>?_) (fun _=>?_)⟩
   ·have z:(!decide (v=v))=true:=z
    rw[Ww rfl] at z;cases z
   ·exact⟨w9.new.trans n10,t10,_,_,_,_,_,_,_,rfl⟩
 ·rintro σ H2 ⟨g2,t2,o1,o2,o3,o4,o5,o6,o7,rfl⟩
  exact q H2
end
theorem kit_own {K:FrQ}{N:Addr}:PySem.W.kitOne K (.ref N) (.ref N)=some true:=by
 unfold PySem.W.kitOne;rw[Wv (beq_self_eq_true _)]
theorem ki8 {K:FrQ}{N c0 c1 c2 c3 c4 c5 c6 c7:Addr}{j:Nat}(h0:PySem.W.kitOne K (.ref N) (.ref c0)=some (decide (0=j)))(h1:PySem.W.kitOne K (.ref N) (.ref c1)=some (decide (1=j)))(h2:PySem.W.kitOne K (.ref N) (.ref c2)=some (decide (2=j)))(h3:PySem.W.kitOne K (.ref N) (.ref c3)=some (decide (3=j)))(h4:PySem.W.kitOne K (.ref N) (.ref c4)=some (decide (4=j)))(h5:PySem.W.kitOne K (.ref N) (.ref c5)=some (decide (5=j)))(h6:PySem.W.kitOne K (.ref N) (.ref c6)=some (decide (6=j)))(h7:PySem.W.kitOne K (.ref N) (.ref c7)=some (decide (7=j))):∀ i c,[c0,c1,c2,c3,c4,c5,c6,c7][i]?=some c->PySem.W.kitOne K (.ref N) (.ref c)=some (decide (i=j))
 | 0,_,rfl=>h0
 | 1,_,rfl=>h1
 | 2,_,rfl=>h2
 | 3,_,rfl=>h3
 | 4,_,rfl=>h4
 | 5,_,rfl=>h5
 | 6,_,rfl=>h6
 | 7,_,rfl=>h7
local macro_rules | `(tactic| walk_at "b1") => `(tactic| exact L2.bd1 fun _ _ _ _ _ _ _ => rfl)
local macro_rules | `(tactic| walk_at "b2") => `(tactic| exact L2.bd2 fun _ _ _ _ _ _ _ _ => rfl)
local macro_rules | `(tactic| walk_at "b3") => `(tactic| exact L2.bd3 fun _ _ _ _ _ _ _ _ _ => rfl)
local macro_rules | `(tactic| walk_at "b4") => `(tactic| exact L2.bd4 fun _ _ _ _ _ _ _ _ _ _ => rfl)
theorem all_mk {l:PySem.W.OpenLaw}{w:World}{K:FrQ}{h:Heap}{mg:Str->Option Value}{fa:Addr}(X:K.In h)(G:h.Ns mainGlobals mg)(hfa:mg "law"=some (.ref fa))
  {f26:Addr} {od26 an26:Option Addr} {sl26:Array (Option Value)} {oc26 kV26 dc26 pm26 cd26 ct26:Value}
  {f48:Addr} {od48 an48:Option Addr} {sl48:Array (Option Value)} {oc48 kV48 dc48 pm48 cd48 ct48:Value}
  {c_lead_at P_lead_at:Addr}
  {C_BranchError:Addr}
  {C_NoPrime:Addr}
  {C_NoPolynomial:Addr}
  {C_NotPlain:Addr}
  {C_TooDeep:Addr}
  {C_NoTower:Addr}
  {C_NoSize:Addr}
  {C_NoText:Addr}
  {C_NoRow:Addr}
  {t_MOST_BASIS_DEGREE:Tok}
  {t_MOST_BASIS_SIZE:Tok}
  {t_MOST_DEGREE:Tok}
  {x_PRIMES:Addr} {o_PRIMES:Obj}
  (h_is_whole:GlIn K "is_whole" s_is_whole)
  (h_is_prime:GlIn K "is_prime" s_is_prime)
  (h_number_power:GlIn K "number_power" s_number_power)
  (h_taken_out:GlIn K "taken_out" s_taken_out)
  (h_size_of_number:GlIn K "size_of_number" s_size_of_number)
  (h_is_polynomial:GlIn K "is_polynomial" s_is_polynomial)
  (h_is_monic:GlIn K "is_monic" s_is_monic)
  (h_without_noughts_behind:GlIn K "without_noughts_behind" s_without_noughts_behind)
  (h_coefficient:GlIn K "coefficient" s_coefficient)
  (h_multiplied:GlIn K "multiplied" s_multiplied)
  (h_derived:GlIn K "derived" s_derived)
  (h_divided:GlIn K "divided" s_divided)
  (h_place_of_lead:GlIn K "place_of_lead" s_place_of_lead)
  (h_lessened:GlIn K "lessened" s_lessened)
  (h_determinant:GlIn K "determinant" s_determinant)
  (h_resultant:GlIn K "resultant" s_resultant)
  (h_discriminant:GlIn K "discriminant" s_discriminant)
  (h_is_bounded_monic:GlIn K "is_bounded_monic" s_is_bounded_monic)
  (h_plain_size:GlIn K "plain_size" s_plain_size)
  (h_refuse_for_basis:GlIn K "refuse_for_basis" s_refuse_for_basis)
  (h_without_lead:GlIn K "without_lead" s_without_lead)
  (h_with_lead_one:GlIn K "with_lead_one" s_with_lead_one)
  (h_first_lead:GlIn K "first_lead" s_first_lead)
  (h_kernel:GlIn K "kernel" s_kernel)
  (h_back_by:GlIn K "back_by" s_back_by)
  (h_unit_row:GlIn K "unit_row" s_unit_row)
  (a26:PySem.W.nsIn K mainGlobals "lead_at"=some (some (.ref f26))) (l26:K.lookup f26=some ⟨oc26,od26,.func (PySem.W.fnOf "lead_at" "lead_at" (defArgs s_lead_at) (defBody s_lead_at) (defScope s_lead_at) .none kV26 dc26 pm26 an26 cd26 ct26),sl26⟩) (c26:PySem.W.codeIn K cd26 "lead_at"=true) (k26:PySem.W.keepIn K (.ref f26)=true)
  (e_lead_at:cd26=.ref c_lead_at) (hk_lead_at:PySem.W.codeHdIn K c_lead_at P_lead_at=true)
  (h_without:GlIn K "without" s_without)
  (h_triangular:GlIn K "triangular" s_triangular)
  (h_coordinates:GlIn K "coordinates" s_coordinates)
  (h_summed:GlIn K "summed" s_summed)
  (h_product_by:GlIn K "product_by" s_product_by)
  (h_table_of:GlIn K "table_of" s_table_of)
  (h_times_by:GlIn K "times_by" s_times_by)
  (h_power_by:GlIn K "power_by" s_power_by)
  (h_raised:GlIn K "raised" s_raised)
  (h_multipliers:GlIn K "multipliers" s_multipliers)
  (h_grown:GlIn K "grown" s_grown)
  (h_whole_basis:GlIn K "whole_basis" s_whole_basis)
  (h_q_cell_at:GlIn K "_law_cell_at" s_q_cell_at)
  (h_q_number:GlIn K "_law_number" s_q_number)
  (h_q_trimmed:GlIn K "_law_trimmed" s_q_trimmed)
  (h_q_times:GlIn K "_law_times" s_q_times)
  (h_q_outcome:GlIn K "_law_outcome" s_q_outcome)
  (h_q_product:GlIn K "_law_product" s_q_product)
  (h_q_odd:GlIn K "_law_odd" s_q_odd)
  (h_q_size:GlIn K "_law_size" s_q_size)
  (h_q_due:GlIn K "_law_due" s_q_due)
  (a48:PySem.W.nsIn K mainGlobals "law"=some (some (.ref f48))) (l48:K.lookup f48=some ⟨oc48,od48,.func (PySem.W.fnOf "law" "law" (defArgs s_law) (defBody s_law) (defScope s_law) .none kV48 dc48 pm48 an48 cd48 ct48),sl48⟩) (c48:PySem.W.codeIn K cd48 "law"=true) (k48:PySem.W.keepIn K (.ref f48)=true)
  (aC_BranchError:PySem.W.nsIn K mainGlobals "BranchError"=some (some (.ref C_BranchError)))
  (aC_NoPrime:PySem.W.nsIn K mainGlobals "NoPrime"=some (some (.ref C_NoPrime)))
  (aC_NoPolynomial:PySem.W.nsIn K mainGlobals "NoPolynomial"=some (some (.ref C_NoPolynomial)))
  (aC_NotPlain:PySem.W.nsIn K mainGlobals "NotPlain"=some (some (.ref C_NotPlain)))
  (aC_TooDeep:PySem.W.nsIn K mainGlobals "TooDeep"=some (some (.ref C_TooDeep)))
  (aC_NoTower:PySem.W.nsIn K mainGlobals "NoTower"=some (some (.ref C_NoTower)))
  (aC_NoSize:PySem.W.nsIn K mainGlobals "NoSize"=some (some (.ref C_NoSize)))
  (aC_NoText:PySem.W.nsIn K mainGlobals "NoText"=some (some (.ref C_NoText)))
  (aC_NoRow:PySem.W.nsIn K mainGlobals "NoRow"=some (some (.ref C_NoRow)))
  (q_NoPrime:PySem.W.excIn K C_NoPrime [.type "ValueError",.type "Exception",.type "BaseException",.type "object"] "ValueError.__new__"=true)
  (x0_ga:PySem.W.findIn K (.ref C_NoPrime) "__getattribute__"=some (some (.builtin "BaseException.__getattribute__")))
  (x0_no:PySem.W.findIn K (.ref C_NoPrime) "__getattr__"=some none)
  (x0_at:PySem.W.findIn K (.ref C_NoPrime) "__class__"=some (some (.builtin "object.__class__")))
  (x0_be:PySem.W.mroIn K C_NoPrime (.type "BaseException")=some true)
  (x0_va:PySem.W.subIn K (.ref C_NoPrime) (.type "ValueError")=some true)
  (x0_bs:PySem.W.subIn K (.ref C_NoPrime) (.ref C_BranchError)=some true)
  (x0_nn:PySem.W.subIn K (.ref C_NoPrime) (.ref C_NoPrime)=some true)
  (x0_1:PySem.W.subIn K (.ref C_NoPrime) (.ref C_NoPolynomial)=some false)
  (x0_2:PySem.W.subIn K (.ref C_NoPrime) (.ref C_NotPlain)=some false)
  (x0_3:PySem.W.subIn K (.ref C_NoPrime) (.ref C_TooDeep)=some false)
  (x0_4:PySem.W.subIn K (.ref C_NoPrime) (.ref C_NoRow)=some false)
  (x0_5:PySem.W.subIn K (.ref C_NoPrime) (.ref C_NoSize)=some false)
  (x0_6:PySem.W.subIn K (.ref C_NoPrime) (.ref C_NoText)=some false)
  (x0_7:PySem.W.subIn K (.ref C_NoPrime) (.ref C_NoTower)=some false)
  (q_NoPolynomial:PySem.W.excIn K C_NoPolynomial [.type "ValueError",.type "Exception",.type "BaseException",.type "object"] "ValueError.__new__"=true)
  (x1_ga:PySem.W.findIn K (.ref C_NoPolynomial) "__getattribute__"=some (some (.builtin "BaseException.__getattribute__")))
  (x1_no:PySem.W.findIn K (.ref C_NoPolynomial) "__getattr__"=some none)
  (x1_at:PySem.W.findIn K (.ref C_NoPolynomial) "__class__"=some (some (.builtin "object.__class__")))
  (x1_be:PySem.W.mroIn K C_NoPolynomial (.type "BaseException")=some true)
  (x1_va:PySem.W.subIn K (.ref C_NoPolynomial) (.type "ValueError")=some true)
  (x1_bs:PySem.W.subIn K (.ref C_NoPolynomial) (.ref C_BranchError)=some true)
  (x1_nn:PySem.W.subIn K (.ref C_NoPolynomial) (.ref C_NoPolynomial)=some true)
  (x1_0:PySem.W.subIn K (.ref C_NoPolynomial) (.ref C_NoPrime)=some false)
  (x1_2:PySem.W.subIn K (.ref C_NoPolynomial) (.ref C_NotPlain)=some false)
  (x1_3:PySem.W.subIn K (.ref C_NoPolynomial) (.ref C_TooDeep)=some false)
  (x1_4:PySem.W.subIn K (.ref C_NoPolynomial) (.ref C_NoRow)=some false)
  (x1_5:PySem.W.subIn K (.ref C_NoPolynomial) (.ref C_NoSize)=some false)
  (x1_6:PySem.W.subIn K (.ref C_NoPolynomial) (.ref C_NoText)=some false)
  (x1_7:PySem.W.subIn K (.ref C_NoPolynomial) (.ref C_NoTower)=some false)
  (q_NotPlain:PySem.W.excIn K C_NotPlain [.type "ValueError",.type "Exception",.type "BaseException",.type "object"] "ValueError.__new__"=true)
  (x2_ga:PySem.W.findIn K (.ref C_NotPlain) "__getattribute__"=some (some (.builtin "BaseException.__getattribute__")))
  (x2_no:PySem.W.findIn K (.ref C_NotPlain) "__getattr__"=some none)
  (x2_at:PySem.W.findIn K (.ref C_NotPlain) "__class__"=some (some (.builtin "object.__class__")))
  (x2_be:PySem.W.mroIn K C_NotPlain (.type "BaseException")=some true)
  (x2_va:PySem.W.subIn K (.ref C_NotPlain) (.type "ValueError")=some true)
  (x2_bs:PySem.W.subIn K (.ref C_NotPlain) (.ref C_BranchError)=some true)
  (x2_nn:PySem.W.subIn K (.ref C_NotPlain) (.ref C_NotPlain)=some true)
  (x2_0:PySem.W.subIn K (.ref C_NotPlain) (.ref C_NoPrime)=some false)
  (x2_1:PySem.W.subIn K (.ref C_NotPlain) (.ref C_NoPolynomial)=some false)
  (x2_3:PySem.W.subIn K (.ref C_NotPlain) (.ref C_TooDeep)=some false)
  (x2_4:PySem.W.subIn K (.ref C_NotPlain) (.ref C_NoRow)=some false)
  (x2_5:PySem.W.subIn K (.ref C_NotPlain) (.ref C_NoSize)=some false)
  (x2_6:PySem.W.subIn K (.ref C_NotPlain) (.ref C_NoText)=some false)
  (x2_7:PySem.W.subIn K (.ref C_NotPlain) (.ref C_NoTower)=some false)
  (q_TooDeep:PySem.W.excIn K C_TooDeep [.type "ValueError",.type "Exception",.type "BaseException",.type "object"] "ValueError.__new__"=true)
  (x3_ga:PySem.W.findIn K (.ref C_TooDeep) "__getattribute__"=some (some (.builtin "BaseException.__getattribute__")))
  (x3_no:PySem.W.findIn K (.ref C_TooDeep) "__getattr__"=some none)
  (x3_at:PySem.W.findIn K (.ref C_TooDeep) "__class__"=some (some (.builtin "object.__class__")))
  (x3_be:PySem.W.mroIn K C_TooDeep (.type "BaseException")=some true)
  (x3_va:PySem.W.subIn K (.ref C_TooDeep) (.type "ValueError")=some true)
  (x3_bs:PySem.W.subIn K (.ref C_TooDeep) (.ref C_BranchError)=some true)
  (x3_nn:PySem.W.subIn K (.ref C_TooDeep) (.ref C_TooDeep)=some true)
  (x3_0:PySem.W.subIn K (.ref C_TooDeep) (.ref C_NoPrime)=some false)
  (x3_1:PySem.W.subIn K (.ref C_TooDeep) (.ref C_NoPolynomial)=some false)
  (x3_2:PySem.W.subIn K (.ref C_TooDeep) (.ref C_NotPlain)=some false)
  (x3_4:PySem.W.subIn K (.ref C_TooDeep) (.ref C_NoRow)=some false)
  (x3_5:PySem.W.subIn K (.ref C_TooDeep) (.ref C_NoSize)=some false)
  (x3_6:PySem.W.subIn K (.ref C_TooDeep) (.ref C_NoText)=some false)
  (x3_7:PySem.W.subIn K (.ref C_TooDeep) (.ref C_NoTower)=some false)
  (x_get:PySem.W.specialIn K (.builtin "object.__class__") "__get__"=some (some (.builtin "getset_descriptor.__get__")))
  (x_tk:PySem.W.takesIn K (.builtin "object.__class__")=some true)
  (x_bb:PySem.W.subIn K (.ref C_BranchError) (.type "BaseException")=some true)
  (xm_B:PySem.W.mroIn K C_BranchError (.type "object")=some true)
  (xt_B:PySem.W.typeIn K (.ref C_BranchError)=some (.type "type"))
  (xm_0:PySem.W.mroIn K C_NoPrime (.type "object")=some true)
  (xt_0:PySem.W.typeIn K (.ref C_NoPrime)=some (.type "type"))
  (xm_1:PySem.W.mroIn K C_NoPolynomial (.type "object")=some true)
  (xt_1:PySem.W.typeIn K (.ref C_NoPolynomial)=some (.type "type"))
  (xm_2:PySem.W.mroIn K C_NotPlain (.type "object")=some true)
  (xt_2:PySem.W.typeIn K (.ref C_NotPlain)=some (.type "type"))
  (xm_3:PySem.W.mroIn K C_TooDeep (.type "object")=some true)
  (xt_3:PySem.W.typeIn K (.ref C_TooDeep)=some (.type "type"))
  (xm_4:PySem.W.mroIn K C_NoRow (.type "object")=some true)
  (xt_4:PySem.W.typeIn K (.ref C_NoRow)=some (.type "type"))
  (xm_5:PySem.W.mroIn K C_NoSize (.type "object")=some true)
  (xt_5:PySem.W.typeIn K (.ref C_NoSize)=some (.type "type"))
  (xm_6:PySem.W.mroIn K C_NoText (.type "object")=some true)
  (xt_6:PySem.W.typeIn K (.ref C_NoText)=some (.type "type"))
  (xm_7:PySem.W.mroIn K C_NoTower (.type "object")=some true)
  (xt_7:PySem.W.typeIn K (.ref C_NoTower)=some (.type "type"))
  (y_MOST_BASIS_DEGREE:PySem.W.nsIn K mainGlobals "MOST_BASIS_DEGREE"=some (some (.int 6 t_MOST_BASIS_DEGREE)))
  (y_MOST_BASIS_SIZE:PySem.W.nsIn K mainGlobals "MOST_BASIS_SIZE"=some (some (.int 24 t_MOST_BASIS_SIZE)))
  (y_MOST_DEGREE:PySem.W.nsIn K mainGlobals "MOST_DEGREE"=some (some (.int 12 t_MOST_DEGREE)))
  (y_PRIMES:PySem.W.nsIn K mainGlobals "PRIMES"=some (some (.ref x_PRIMES))) (w_PRIMES:K.lookup x_PRIMES=some o_PRIMES)
  (v_PRIMES:tupInts o_PRIMES (PR.map fun p:Nat=>(p:Int))=true)
  (z_ValueError:PySem.W.nsIn K mainGlobals "ValueError"=some none)
  (z_abs:PySem.W.nsIn K mainGlobals "abs"=some none)
  (z_any:PySem.W.nsIn K mainGlobals "any"=some none)
  (z_bool:PySem.W.nsIn K mainGlobals "bool"=some none)
  (z_enumerate:PySem.W.nsIn K mainGlobals "enumerate"=some none)
  (z_int:PySem.W.nsIn K mainGlobals "int"=some none)
  (z_isinstance:PySem.W.nsIn K mainGlobals "isinstance"=some none)
  (z_len:PySem.W.nsIn K mainGlobals "len"=some none)
  (z_list:PySem.W.nsIn K mainGlobals "list"=some none)
  (z_min:PySem.W.nsIn K mainGlobals "min"=some none)
  (z_range:PySem.W.nsIn K mainGlobals "range"=some none)
  (z_reversed:PySem.W.nsIn K mainGlobals "reversed"=some none)
  (z_sum:PySem.W.nsIn K mainGlobals "sum"=some none)
  (z_tuple:PySem.W.nsIn K mainGlobals "tuple"=some none)
  (z_zip:PySem.W.nsIn K mainGlobals "zip"=some none):
  ∃ fd:FuncData,(∀ (s:Shared) (v:Value),BindsTo s fd ⟨[v],[]⟩ [("_law_script",v)])/\∀ base:Heap,K.In base->base.Ns mainGlobals mg->BMain mg base->FnOk l.prog w K mg base CX0 13 fa fd ["_law_script"] (spLaw K P_lead_at):=by
 have e:=hfa.symm.trans (PySem.W.mg_of X G a48);cases e;have S_is_whole:=src_in (mg:=mg) (ps:=Lq39) X G h_is_whole (by walk_at "b1")
 have S_is_prime:=src_in (mg:=mg) (ps:=["k"]) X G h_is_prime (by walk_at "b1")
 have S_number_power:=src_in (mg:=mg) (ps:=["k","n"]) X G h_number_power (by walk_at "b2")
 have S_taken_out:=src_in (mg:=mg) (ps:=Lq36) X G h_taken_out (by walk_at "b2")
 have S_size_of_number:=src_in (mg:=mg) (ps:=Lq36) X G h_size_of_number (by walk_at "b2")
 have S_is_polynomial:=src_in (mg:=mg) (ps:=Lq39) X G h_is_polynomial (by walk_at "b1")
 have S_is_monic:=src_in (mg:=mg) (ps:=Lq39) X G h_is_monic (by walk_at "b1")
 have S_without_noughts_behind:=src_in (mg:=mg) (ps:=["numbers"]) X G h_without_noughts_behind (by walk_at "b1")
 have S_coefficient:=src_in (mg:=mg) (ps:=Lq34) X G h_coefficient (by walk_at "b2")
 have S_multiplied:=src_in (mg:=mg) (ps:=Lq37) X G h_multiplied (by walk_at "b2")
 have S_derived:=src_in (mg:=mg) (ps:=["f"]) X G h_derived (by walk_at "b1")
 have S_divided:=src_in (mg:=mg) (ps:=Lq37) X G h_divided (by walk_at "b2")
 have S_place_of_lead:=src_in (mg:=mg) (ps:=["table"]) X G h_place_of_lead (by walk_at "b1")
 have S_lessened:=src_in (mg:=mg) (ps:=Lq20) X G h_lessened (by walk_at "b3")
 have S_determinant:=src_in (mg:=mg) (ps:=["table"]) X G h_determinant (by walk_at "b1")
 have S_resultant:=src_in (mg:=mg) (ps:=Lq37) X G h_resultant (by walk_at "b2")
 have S_discriminant:=src_in (mg:=mg) (ps:=["f"]) X G h_discriminant (by walk_at "b1")
 have S_is_bounded_monic:=src_in (mg:=mg) (ps:=Lq39) X G h_is_bounded_monic (by walk_at "b1")
 have S_plain_size:=src_in (mg:=mg) (ps:=Lq38) X G h_plain_size (by walk_at "b2")
 have S_refuse_for_basis:=src_in (mg:=mg) (ps:=Lq38) X G h_refuse_for_basis (by walk_at "b2")
 have S_without_lead:=src_in (mg:=mg) (ps:=Lq12) X G h_without_lead (by walk_at "b4")
 have S_with_lead_one:=src_in (mg:=mg) (ps:=Lq26) X G h_with_lead_one (by walk_at "b3")
 have S_first_lead:=src_in (mg:=mg) (ps:=Lq32) X G h_first_lead (by walk_at "b2")
 have S_kernel:=src_in (mg:=mg) (ps:=["rows","p"]) X G h_kernel (by walk_at "b2")
 have S_back_by:=src_in (mg:=mg) (ps:=["k","power"]) X G h_back_by (by walk_at "b2")
 have S_unit_row:=src_in (mg:=mg) (ps:=Lq19) X G h_unit_row (by walk_at "b3")
 have S_lead_at:SrcC K mg "lead_at" s_lead_at Lq16 c_lead_at:=srcC_mk X G a26 l26 c26 k26 (fun _ _ _ _ _ _ us hl=>match us,hl with | [_,_,_,_],_=>rfl) e_lead_at
 have S_without:=src_in (mg:=mg) (ps:=Lq11) X G h_without (by walk_at "b4")
 have S_triangular:=src_in (mg:=mg) (ps:=Lq25) X G h_triangular (by walk_at "b3")
 have S_coordinates:=src_in (mg:=mg) (ps:=Lq30) X G h_coordinates (by walk_at "b2")
 have S_summed:=src_in (mg:=mg) (ps:=Lq29) X G h_summed (by walk_at "b2")
 have S_product_by:=src_in (mg:=mg) (ps:=Lq17) X G h_product_by (by walk_at "b4")
 have S_table_of:=src_in (mg:=mg) (ps:=Lq23) X G h_table_of (by walk_at "b3")
 have S_times_by:=src_in (mg:=mg) (ps:=Lq18) X G h_times_by (by walk_at "b4")
 have S_power_by:=src_in (mg:=mg) (ps:=Lq22) X G h_power_by (by walk_at "b4")
 have S_raised:=src_in (mg:=mg) (ps:=Lq35) X G h_raised (by walk_at "b2")
 have S_multipliers:=src_in (mg:=mg) (ps:=Lq35) X G h_multipliers (by walk_at "b2")
 have S_grown:=src_in (mg:=mg) (ps:=Lq38) X G h_grown (by walk_at "b2")
 have S_whole_basis:=src_in (mg:=mg) (ps:=Lq38) X G h_whole_basis (by walk_at "b2")
 have S_q_cell_at:=src_in (mg:=mg) (ps:=Lq21) X G h_q_cell_at (by walk_at "b2")
 have S_q_number:=src_in (mg:=mg) (ps:=Lq21) X G h_q_number (by walk_at "b2")
 have S_q_trimmed:=src_in (mg:=mg) (ps:=Lq31) X G h_q_trimmed (by walk_at "b1")
 have S_q_times:=src_in (mg:=mg) (ps:=Lq27) X G h_q_times (by walk_at "b2")
 have S_q_outcome:=src_in (mg:=mg) (ps:=Lq28) X G h_q_outcome (by walk_at "b2")
 have S_q_product:=src_in (mg:=mg) (ps:=["_law_some"]) X G h_q_product (by walk_at "b1")
 have S_q_odd:=src_in (mg:=mg) (ps:=Lq24) X G h_q_odd (by walk_at "b2")
 have S_q_size:=src_in (mg:=mg) (ps:=Lq14) X G h_q_size (by walk_at "b2")
 have S_q_due:=src_in (mg:=mg) (ps:=Lq28) X G h_q_due (by walk_at "b2")
 have F_law:=fun_mk (st:=s_law) l48 c48 k48;have m_BranchError:mg "BranchError"=some (.ref C_BranchError):=PySem.W.mg_of X G aC_BranchError;have m_NoPrime:mg "NoPrime"=some (.ref C_NoPrime):=PySem.W.mg_of X G aC_NoPrime;have m_NoPolynomial:mg "NoPolynomial"=some (.ref C_NoPolynomial):=PySem.W.mg_of X G aC_NoPolynomial;have m_NotPlain:mg "NotPlain"=some (.ref C_NotPlain):=PySem.W.mg_of X G aC_NotPlain;have m_TooDeep:mg "TooDeep"=some (.ref C_TooDeep):=PySem.W.mg_of X G aC_TooDeep;have m_NoTower:mg "NoTower"=some (.ref C_NoTower):=PySem.W.mg_of X G aC_NoTower;have m_NoSize:mg "NoSize"=some (.ref C_NoSize):=PySem.W.mg_of X G aC_NoSize;have m_NoText:mg "NoText"=some (.ref C_NoText):=PySem.W.mg_of X G aC_NoText;have m_NoRow:mg "NoRow"=some (.ref C_NoRow):=PySem.W.mg_of X G aC_NoRow;have B:Blt mg:=⟨PySem.W.mg_none_of X G z_ValueError,PySem.W.mg_none_of X G z_abs,PySem.W.mg_none_of X G z_any,PySem.W.mg_none_of X G z_bool,PySem.W.mg_none_of X G z_enumerate,PySem.W.mg_none_of X G z_int,PySem.W.mg_none_of X G z_isinstance,PySem.W.mg_none_of X G z_len,PySem.W.mg_none_of X G z_list,PySem.W.mg_none_of X G z_min,PySem.W.mg_none_of X G z_range,PySem.W.mg_none_of X G z_reversed,PySem.W.mg_none_of X G z_sum,PySem.W.mg_none_of X G z_tuple,PySem.W.mg_none_of X G z_zip⟩;refine⟨PySem.W.fnOf "law" "law" (defArgs s_law) (defBody s_law) (defScope s_law) .none kV48 dc48 pm48 an48 cd48 ct48,fun s v=>.of_eq rfl,fun base _ _ hbm=>?_⟩
 have hPR:∀ H,SqT K H x_PRIMES (PR.map fun p:Nat=>V.int (p:Int)):=fun H=>by
  have z:SqT K H x_PRIMES ((PR.map fun p:Nat=>(p:Int)).map V.int):=tupInts_ok w_PRIMES v_PRIMES
  rw[Wq] at z;exact z
 have X0:Exq K C_NoPrime C_BranchError 0 [C_NoPrime,C_NoPolynomial,C_NotPlain,C_TooDeep,C_NoRow,C_NoSize,C_NoText,C_NoTower]:=⟨exm_yes xm_B xt_B x_bb x0_bs,⟨x0_ga,x0_no,x0_at,x_get,x_tk,xm_0,x0_be⟩,kit_ty (by decide +kernel) x0_va,ki8 kit_own (kit_no x0_nn xm_1 xt_1 x0_1) (kit_no x0_nn xm_2 xt_2 x0_2) (kit_no x0_nn xm_3 xt_3 x0_3) (kit_no x0_nn xm_4 xt_4 x0_4) (kit_no x0_nn xm_5 xt_5 x0_5) (kit_no x0_nn xm_6 xt_6 x0_6) (kit_no x0_nn xm_7 xt_7 x0_7)⟩
 have X1:Exq K C_NoPolynomial C_BranchError 1 [C_NoPrime,C_NoPolynomial,C_NotPlain,C_TooDeep,C_NoRow,C_NoSize,C_NoText,C_NoTower]:=⟨exm_yes xm_B xt_B x_bb x1_bs,⟨x1_ga,x1_no,x1_at,x_get,x_tk,xm_1,x1_be⟩,kit_ty (by decide +kernel) x1_va,ki8 (kit_no x1_nn xm_0 xt_0 x1_0) kit_own (kit_no x1_nn xm_2 xt_2 x1_2) (kit_no x1_nn xm_3 xt_3 x1_3) (kit_no x1_nn xm_4 xt_4 x1_4) (kit_no x1_nn xm_5 xt_5 x1_5) (kit_no x1_nn xm_6 xt_6 x1_6) (kit_no x1_nn xm_7 xt_7 x1_7)⟩
 have X2:Exq K C_NotPlain C_BranchError 2 [C_NoPrime,C_NoPolynomial,C_NotPlain,C_TooDeep,C_NoRow,C_NoSize,C_NoText,C_NoTower]:=⟨exm_yes xm_B xt_B x_bb x2_bs,⟨x2_ga,x2_no,x2_at,x_get,x_tk,xm_2,x2_be⟩,kit_ty (by decide +kernel) x2_va,ki8 (kit_no x2_nn xm_0 xt_0 x2_0) (kit_no x2_nn xm_1 xt_1 x2_1) kit_own (kit_no x2_nn xm_3 xt_3 x2_3) (kit_no x2_nn xm_4 xt_4 x2_4) (kit_no x2_nn xm_5 xt_5 x2_5) (kit_no x2_nn xm_6 xt_6 x2_6) (kit_no x2_nn xm_7 xt_7 x2_7)⟩
 have X3:Exq K C_TooDeep C_BranchError 3 [C_NoPrime,C_NoPolynomial,C_NotPlain,C_TooDeep,C_NoRow,C_NoSize,C_NoText,C_NoTower]:=⟨exm_yes xm_B xt_B x_bb x3_bs,⟨x3_ga,x3_no,x3_at,x_get,x_tk,xm_3,x3_be⟩,kit_ty (by decide +kernel) x3_va,ki8 (kit_no x3_nn xm_0 xt_0 x3_0) (kit_no x3_nn xm_1 xt_1 x3_1) (kit_no x3_nn xm_2 xt_2 x3_2) kit_own (kit_no x3_nn xm_4 xt_4 x3_4) (kit_no x3_nn xm_5 xt_5 x3_5) (kit_no x3_nn xm_6 xt_6 x3_6) (kit_no x3_nn xm_7 xt_7 x3_7)⟩
 have dnp:=ok_number_power (P:=l.prog) (w:=w) (base:=base) B S_number_power;have dtk:=ok_taken_out (P:=l.prog) (w:=w) (base:=base) (K:=K) (mg:=mg) S_taken_out;have dsn:=ok_size_of_number dtk S_size_of_number;have dt:=ok_without_noughts_behind (P:=l.prog) (w:=w) (base:=base) B S_without_noughts_behind;have dd:=ok_determinant (P:=l.prog) (w:=w) (base:=base) B (ok_place_of_lead B S_place_of_lead) (ok_lessened B S_lessened) S_determinant;have dc:=ok_coefficient (P:=l.prog) (w:=w) (base:=base) B S_coefficient;have dm:=ok_multiplied (P:=l.prog) (w:=w) (base:=base) B S_multiplied;have dv:=ok_divided B dt S_divided;have dr:=ok_resultant B dc dm dv dd S_resultant;have di:=ok_discriminant B (ok_derived B S_derived) dr S_discriminant;have dwl:=ok_without_lead (P:=l.prog) (w:=w) (base:=base) B S_without_lead;have dlo:=ok_with_lead_one (P:=l.prog) (w:=w) (base:=base) B S_with_lead_one;have dfl:=ok_first_lead (P:=l.prog) (w:=w) (base:=base) B S_first_lead;have dker:=ok_kernel B dwl dlo dfl S_kernel;have dur:=ok_unit_row (P:=l.prog) (w:=w) (base:=base) B S_unit_row;have dbb:=ok_back_by (P:=l.prog) (w:=w) (base:=base) S_back_by;have dco:=ok_coordinates (P:=l.prog) (w:=w) (base:=base) B S_coordinates;have dsu:=ok_summed (P:=l.prog) (w:=w) (base:=base) B S_summed;have dpb:=ok_product_by B dt dm dv dc S_product_by;have dta:=ok_table_of B dpb dco S_table_of;have dtb:=ok_times_by B dsu S_times_by;have dpw:=ok_power_by B dtb S_power_by;have dra:=ok_raised B dur dpw S_raised;have dwo:=ok_without (P:=l.prog) (w:=w) (base:=base) B S_without;have dla:=ok_lead_at B hbm hk_lead_at dtk dsn dbb dur S_lead_at;have dtr:=ok_triangular B dnp dla dwo S_triangular;have dmu:=ok_multipliers B dra dker dtr dco dsu S_multipliers;have dgr:=ok_grown B dur dnp dta dmu dtr dsu S_grown;have diw:=ok_is_whole (P:=l.prog) (w:=w) (base:=base) B S_is_whole;have dpr:=ok_is_prime B (PySem.W.mg_of X G y_PRIMES) hPR diw S_is_prime;have dip:=ok_is_polynomial B diw S_is_polynomial;have dmo:=ok_is_monic B dip S_is_monic;have dbm:=ok_is_bounded_monic B (PySem.W.mg_of X G y_MOST_DEGREE) dmo S_is_bounded_monic;have dps:=ok_plain_size m_NoPrime q_NoPrime m_NoPolynomial q_NoPolynomial m_NotPlain q_NotPlain B dpr dbm di dsn S_plain_size;have drf:=ok_refuse_for_basis m_TooDeep q_TooDeep B (PySem.W.mg_of X G y_MOST_BASIS_DEGREE) (PySem.W.mg_of X G y_MOST_BASIS_SIZE) dps S_refuse_for_basis;have dwb:=ok_whole_basis B drf dgr dsn S_whole_basis;have dou:=ok_q_outcome X0 X1 X2 X3 m_BranchError m_NoPrime m_NoPolynomial m_NotPlain m_TooDeep m_NoRow m_NoSize m_NoText m_NoTower B dwb S_q_outcome;have dti:=ok_q_times (P:=l.prog) (w:=w) (base:=base) B (ok_q_trimmed B S_q_trimmed) S_q_times;exact ok_law B (ok_number B (ok_cell_at B S_q_cell_at) S_q_number) dti (ok_q_product B dti S_q_product) (ok_q_odd B S_q_odd) (ok_q_due B di (ok_q_size S_q_size) S_q_due) dou F_law
theorem walk {l:PySem.W.OpenLaw}{q:Program}{loose:List Str}{XP:(Str->Option Value)->Heap->Prop}{YP:World->Heap->Prop}{d:DefRec}{K:Params->FrQ}(hn:l.most=some 63)(hdf:d.params.defaults=[])
  (hY:∀ (w:World) (h:Heap),YP w h->(K w.params).In h/\PySem.W.TabsAt [(296,294)] h) (hK:∀ w:World,PySem.W.noTabs (K w.params)=true)
  (F:∀ (w:World) (mg:Str->Option Value) (fa:Addr) (h:Heap),(K w.params).In h->h.Ns mainGlobals mg->mg d.name=some (.ref fa)->
   ∃ fd:FuncData,(∀ (s:Shared) (u:Value),BindsTo s fd ⟨[u],[]⟩ [("_law_script",u)])/\∀ base:Heap,(K w.params).In base->base.Ns mainGlobals mg->BMain mg base->FnOk l.prog w (K w.params) mg base CX0 13 fa fd ["_law_script"] (spLaw (K w.params) 294)):
  PySem.W.WalkO q loose XP YP l.row.toRowW d [] (fun f vs=>PySem.call f vs):=
 L2.walk_ofT (tabs:=[(296,294)]) (n:=63) (k:=13) (x:="_law_script") (CX:=fun _=>CX0) (sp:=fun w=>spLaw (K w.params) 294) hn (by decide) hdf ⟨rfl,by decide,by decide,rfl⟩ hY hK F (fun _ _ a ns hl hS hT=>⟨a,ns,rfl,hS,hl,hT (296,294) (by simp),fun _=>rfl⟩) fun _ _ _ _ _ z=>z
end K63
namespace PySem.W.Fast
def tw15246113257318390126:Nat:=0
def tw7000481739501295744:Nat:=0
def tw14840930204951103627:Nat:=0
def tw12248148976050750363:Nat:=0
def tw12522313775613444157:Nat:=0
def tw16257605833739408645:Nat:=0
def tw1007233986969730833:Nat:=0
def tw9894846728889959918:Nat:=0
def tw8996369742760763889:Nat:=0
def tw1032954269550620376:Nat:=0
def tw4641071848505405025:Nat:=0
def tw5252338469319678211:Nat:=0
def tw2189312777375128824:Nat:=0
def tw11567507208344570844:Nat:=0
def tw166790330781266588:Nat:=0
def tw638782016250555251:Nat:=0
def tw12771861603218306701:Nat:=0
def tw10351383067405740501:Nat:=0
def tw7271321220921070870:Nat:=0
def tw4859662558610961848:Nat:=0
def tw13351406994104113521:Nat:=0
def tw127207879256520513:Nat:=0
def tw5245088121883933658:Nat:=0
def tw14743697529140206936:Nat:=0
def tw10765168823959407542:Nat:=0
def tw2056002382415106779:Nat:=0
def tw16956963432786334915:Nat:=0
def tw16853969073359277801:Nat:=0
def tw767701137610288156:Nat:=0
def tw17141602832530133146:Nat:=0
def tw11269619979881122930:Nat:=0
def tw13107968773173677234:Nat:=0
def tw17910956356712319264:Nat:=0
def tw4566132913115908303:Nat:=0
end PySem.W.Fast
namespace PySem.W.Fast
def tw15247327512179325079:Nat:=0
def tw8650691031337981135:Nat:=0
def tw15644801055104554233:Nat:=0
def tw8419969662654217569:Nat:=0
def tw16794478765947552187:Nat:=0
def tw15523533942993301316:Nat:=0
def tw17009108634861784810:Nat:=0
def tw1633300063734472899:Nat:=0
def tw2947812369785684923:Nat:=0
def tw8701781633243407247:Nat:=0
def tw5127157192878194821:Nat:=0
def tw6444735715481740851:Nat:=0
def tw5884912766005978840:Nat:=0
def tw14184128220185855780:Nat:=0
def tw15809558507988740016:Nat:=0
def tw8652452110863588488:Nat:=0
def tw18174008312799456334:Nat:=0
def tw12738717503336860546:Nat:=0
def tw6137850379388588880:Nat:=0
def tw1169487698760700393:Nat:=0
def tw2146684312663653953:Nat:=0
def tw10226705423579626657:Nat:=0
def tw8300400262220776991:Nat:=0
def tw12818114435491606009:Nat:=0
def tw7153150082421490997:Nat:=0
def tw492088258702585534:Nat:=0
def tw10539486640772748306:Nat:=0
def tw17181023423977037389:Nat:=0
def tw13152480831638688772:Nat:=0
def tw3658031985823799728:Nat:=0
def tw2628892263039850131:Nat:=0
def tw13804689972867521144:Nat:=0
def tw1124517489870511425:Nat:=0
def tw5560713061876072892:Nat:=0
def tw9140730072927837576:Nat:=0
def tw8381708325210274722:Nat:=0
def tw10834869324969210734:Nat:=0
def tw2238192273847215516:Nat:=0
def tw5582488562553578586:Nat:=0
def tw13720791766942000124:Nat:=0
def tw5543231171081186438:Nat:=0
def tw10859768832249036083:Nat:=0
def tw17182283673405300700:Nat:=0
def tw12187051629805596170:Nat:=0
def tw2969054870441312295:Nat:=0
def tw15211927277758198689:Nat:=0
def tw12557419221793724809:Nat:=0
def tw15151841259032781921:Nat:=0
def tw11402385018142765433:Nat:=0
def tw7402125563013408047:Nat:=0
def tw17773127812043731826:Nat:=0
def tw2586380555987604658:Nat:=0
def tw4563637866476052051:Nat:=0
def tw15241693962231330083:Nat:=0
def tw6522229376987761641:Nat:=0
def tw2434813705400343232:Nat:=0
def tw5190518021417821143:Nat:=0
def tw9778947894353029558:Nat:=0
def tw14284308950302137602:Nat:=0
def tw13294250632139910621:Nat:=0
def tw10479292106996988334:Nat:=0
def tw11187050380912661784:Nat:=0
def tw9628033367759313944:Nat:=0
def tw4327875104803248247:Nat:=0
def tw14325514758108972696:Nat:=0
def tw3208448776879864907:Nat:=0
def tw14048674298084912822:Nat:=0
def tw342182156687580804:Nat:=0
def tw7622355470655548587:Nat:=0
def tw6090864442375412916:Nat:=0
def tw1891683090148148296:Nat:=0
def tw4942977492272962552:Nat:=0
def tw4816644533616600884:Nat:=0
def tw11602269463877513438:Nat:=0
def tw6213563101140260068:Nat:=0
def tw2374633181199390360:Nat:=0
def tw8008968599690720052:Nat:=0
def tw622380116703455718:Nat:=0
def tw12818768881412919831:Nat:=0
def tw12844829614233782979:Nat:=0
def tw12374981505788616516:Nat:=0
def tw4087693425231450553:Nat:=0
def tw4656931125653797403:Nat:=0
def tw5470312032724780905:Nat:=0
def tw3766651991326798194:Nat:=0
def tw13293198519126373050:Nat:=0
def tw4829632713110162749:Nat:=0
def tw16555027071171923392:Nat:=0
def tw4249980759139869503:Nat:=0
def tw10769125528032391991:Nat:=0
def tw17362733037226427872:Nat:=0
def tw14486114840377481598:Nat:=0
def tw13419259141052864349:Nat:=0
def tw5892412066996363173:Nat:=0
def tw4450940262879207728:Nat:=0
def tw9979590361718331388:Nat:=0
def tw8874484898091749082:Nat:=0
def tw7610444984990174315:Nat:=0
def tw12654777345457483550:Nat:=0
def tw16931223105369409919:Nat:=0
def tw397121936239642489:Nat:=0
def tw9169752211223002395:Nat:=0
def tw18311405353700111556:Nat:=0
def tw16805028359337605993:Nat:=0
def tw348942874524626024:Nat:=0
def tw17206668077266836097:Nat:=0
def tw2350981139257904225:Nat:=0
def tw8586330777539846664:Nat:=0
def tw3587780353460578598:Nat:=0
def tw15656964964444385472:Nat:=0
def tw1674973490804928108:Nat:=0
def tw10160833926439376825:Nat:=0
def tw4463161916205724108:Nat:=0
def tw14193539174554492613:Nat:=0
def tw349408998121179122:Nat:=0
def tw4974307028347620328:Nat:=0
def tw15558494099561731381:Nat:=0
def tw9681535541284415490:Nat:=0
def tw1461929848263077366:Nat:=0
def tw5940064807367381350:Nat:=0
def tw11490328362496923481:Nat:=0
def tw1959256822790919562:Nat:=0
def tw4379637821039560152:Nat:=0
def tw15674970700464752747:Nat:=0
def tw11367053150585188278:Nat:=0
def tw7345619844929042399:Nat:=0
def tw10308151677636788727:Nat:=0
def tw13035540445912243820:Nat:=0
def tw6447334498097991076:Nat:=0
def tw10356241989620487582:Nat:=0
def tw5693150737810682128:Nat:=0
def tw2392842112452289157:Nat:=0
def tw7688064996066789414:Nat:=0
def tw7397312944650266931:Nat:=0
def tw16951093838967935499:Nat:=0
def tw1871757278116946510:Nat:=0
def tw11355574309857680071:Nat:=0
def tw9987822977848547160:Nat:=0
def tw9782905668008057370:Nat:=0
def tw1317234761826439455:Nat:=0
def tw1602361180313167256:Nat:=0
def tw12613041881817426958:Nat:=0
def tw4625880477799815980:Nat:=0
def tw10747991948500248728:Nat:=0
def tw10472732466537489992:Nat:=0
def tw17512346648165368662:Nat:=0
def tw3043541046456446728:Nat:=0
def tw5412934227005202409:Nat:=0
def tw17193783691056760214:Nat:=0
def tw17388589152630106328:Nat:=0
def tw5829068434305733629:Nat:=0
def tw3682740846124335583:Nat:=0
def tw2833385207134793547:Nat:=0
def tw12071359196123770297:Nat:=0
def tw10716876180759581985:Nat:=0
def tw12810550819618584451:Nat:=0
def tw8286060418191743083:Nat:=0
def tw2542176739002481326:Nat:=0
def tw8768588368987336774:Nat:=0
def tw16869471390398681970:Nat:=0
def tw63223457600128791:Nat:=0
def tw17258102530010446192:Nat:=0
def tw5267640948983036379:Nat:=0
def tw322111528286138775:Nat:=0
def tw16097341341546115511:Nat:=0
def tw7863525195574303326:Nat:=0
def tw10052632096156755192:Nat:=0
def tw12851751317837268794:Nat:=0
def tw6464733702873435628:Nat:=0
def tw17989920240992142973:Nat:=0
def tw696185322911299275:Nat:=0
def tw16526721605436583670:Nat:=0
def tw4211046229444775644:Nat:=0
def tw8193639009999275392:Nat:=0
def tw13273493414877617429:Nat:=0
def tw1165424676160772230:Nat:=0
def tw11937314824590836715:Nat:=0
def tw11715824319482408804:Nat:=0
def tw1682279794460676987:Nat:=0
def tw17058537712074152744:Nat:=0
def tw12929988637438340700:Nat:=0
def tw329969156833063640:Nat:=0
def tw7617134634182077517:Nat:=0
def tw16190156824749927552:Nat:=0
def tw171553995751064513:Nat:=0
def tw665262251972654230:Nat:=0
def tw10663028305395837117:Nat:=0
def tw10609084983677411738:Nat:=0
def tw17669829525338083199:Nat:=0
def tw7223923414900173105:Nat:=0
def tw16737494997636072486:Nat:=0
def tw16938497009955012317:Nat:=0
def tw9805642854857288644:Nat:=0
def tw4516641194693700452:Nat:=0
def tw9309875439099017679:Nat:=0
def tw9490380484951058559:Nat:=0
def tw16886999855899439462:Nat:=0
def tw1061812357346086139:Nat:=0
def tw13766390965595128010:Nat:=0
def tw15623545226087980995:Nat:=0
end PySem.W.Fast
open PySem PySem.W PyProof.Rows
local macro_rules | `(tactic| walk_at "gl") => `(tactic| (refine' L2.gl_mk ?a ?l ?c ?k; (case a => k_is); (case l => k_is); (case c => k_is); (case k => k_is)))
local macro_rules | `(tactic| walk_at "mt") => `(tactic| (refine' L2.mt_mk ?a ?i ?l ?c ?k; (case a => k_is); (case i => k_is); (case l => k_is); (case c => k_is); (case k => k_is)))
set_option maxRecDepth 100000 in
set_option maxHeartbeats 0 in
theorem PySem.Challenge.cw_branchdepth_k63_bases_refused_holds : PySem.Challenge.rw_branchdepth_k63_bases_refused.Holds := by
 w_on;o_law;k_head;(case hw=>w_witness2)
 k_fill
 refine K63.walk (l:=PySem.Challenge.rw_branchdepth_k63_bases_refused) rfl rfl (fun w h Y=>⟨PySem.W.km_in_of Y,List.forall_mem_cons.mpr ⟨⟨PySem.W.codeHd_of_K (c:=296) (P:=294) (PySem.W.km_in_of Y) (by kernel_rfl),PySem.W.km_tabs_of Y 294 (by k_mem)⟩,fun _ h=>nomatch h⟩⟩) (fun w=>by kernel_rfl) ?F
 case F=>
  intro w mg fa h KX G hmg;refine' K63.all_mk KX G hmg ?h_is_whole ?h_is_prime ?h_number_power ?h_taken_out ?h_size_of_number ?h_is_polynomial ?h_is_monic ?h_without_noughts_behind ?h_coefficient ?h_multiplied ?h_derived ?h_divided ?h_place_of_lead ?h_lessened ?h_determinant ?h_resultant ?h_discriminant ?h_is_bounded_monic ?h_plain_size ?h_refuse_for_basis ?h_without_lead ?h_with_lead_one ?h_first_lead ?h_kernel ?h_back_by ?h_unit_row ?a26 ?l26 ?c26 ?k26 ?e_lead_at ?hk_lead_at ?h_without ?h_triangular ?h_coordinates ?h_summed ?h_product_by ?h_table_of ?h_times_by ?h_power_by ?h_raised ?h_multipliers ?h_grown ?h_whole_basis ?h_q_cell_at ?h_q_number ?h_q_trimmed ?h_q_times ?h_q_outcome ?h_q_product ?h_q_odd ?h_q_size ?h_q_due ?a48 ?l48 ?c48 ?k48 ?aC_BranchError ?aC_NoPrime ?aC_NoPolynomial ?aC_NotPlain ?aC_TooDeep ?aC_NoTower ?aC_NoSize ?aC_NoText ?aC_NoRow ?q_NoPrime ?x0_ga ?x0_no ?x0_at ?x0_be ?x0_va ?x0_bs ?x0_nn ?x0_1 ?x0_2 ?x0_3 ?x0_4 ?x0_5 ?x0_6 ?x0_7 ?q_NoPolynomial ?x1_ga ?x1_no ?x1_at ?x1_be ?x1_va ?x1_bs ?x1_nn ?x1_0 ?x1_2 ?x1_3 ?x1_4 ?x1_5 ?x1_6 ?x1_7 ?q_NotPlain ?x2_ga ?x2_no ?x2_at ?x2_be ?x2_va ?x2_bs ?x2_nn ?x2_0 ?x2_1 ?x2_3 ?x2_4 ?x2_5 ?x2_6 ?x2_7 ?q_TooDeep ?x3_ga ?x3_no ?x3_at ?x3_be ?x3_va ?x3_bs ?x3_nn ?x3_0 ?x3_1 ?x3_2 ?x3_4 ?x3_5 ?x3_6 ?x3_7 ?x_get ?x_tk ?x_bb ?xm_B ?xt_B ?xm_0 ?xt_0 ?xm_1 ?xt_1 ?xm_2 ?xt_2 ?xm_3 ?xt_3 ?xm_4 ?xt_4 ?xm_5 ?xt_5 ?xm_6 ?xt_6 ?xm_7 ?xt_7 ?y_MOST_BASIS_DEGREE ?y_MOST_BASIS_SIZE ?y_MOST_DEGREE ?y_PRIMES ?w_PRIMES ?v_PRIMES ?z_ValueError ?z_abs ?z_any ?z_bool ?z_enumerate ?z_int ?z_isinstance ?z_len ?z_list ?z_min ?z_range ?z_reversed ?z_sum ?z_tuple ?z_zip
  (case h_is_whole=>walk_at "gl")
  (case h_is_prime=>walk_at "gl")
  (case h_number_power=>walk_at "gl")
  (case h_taken_out=>walk_at "gl")
  (case h_size_of_number=>walk_at "gl")
  (case h_is_polynomial=>walk_at "gl")
  (case h_is_monic=>walk_at "gl")
  (case h_without_noughts_behind=>walk_at "gl")
  (case h_coefficient=>walk_at "gl")
  (case h_multiplied=>walk_at "gl")
  (case h_derived=>walk_at "gl")
  (case h_divided=>walk_at "gl")
  (case h_place_of_lead=>walk_at "gl")
  (case h_lessened=>walk_at "gl")
  (case h_determinant=>walk_at "gl")
  (case h_resultant=>walk_at "gl")
  (case h_discriminant=>walk_at "gl")
  (case h_is_bounded_monic=>walk_at "gl")
  (case h_plain_size=>walk_at "gl")
  (case h_refuse_for_basis=>walk_at "gl")
  (case h_without_lead=>walk_at "gl")
  (case h_with_lead_one=>walk_at "gl")
  (case h_first_lead=>walk_at "gl")
  (case h_kernel=>walk_at "gl")
  (case h_back_by=>walk_at "gl")
  (case h_unit_row=>walk_at "gl")
  (case a26=>k_is)
  (case l26=>k_is)
  (case c26=>k_is)
  (case k26=>k_is)
  (case e_lead_at=>rfl)
  (case hk_lead_at=>kernel_rfl)
  (case h_without=>walk_at "gl")
  (case h_triangular=>walk_at "gl")
  (case h_coordinates=>walk_at "gl")
  (case h_summed=>walk_at "gl")
  (case h_product_by=>walk_at "gl")
  (case h_table_of=>walk_at "gl")
  (case h_times_by=>walk_at "gl")
  (case h_power_by=>walk_at "gl")
  (case h_raised=>walk_at "gl")
  (case h_multipliers=>walk_at "gl")
  (case h_grown=>walk_at "gl")
  (case h_whole_basis=>walk_at "gl")
  (case h_q_cell_at=>walk_at "gl")
  (case h_q_number=>walk_at "gl")
  (case h_q_trimmed=>walk_at "gl")
  (case h_q_times=>walk_at "gl")
  (case h_q_outcome=>walk_at "gl")
  (case h_q_product=>walk_at "gl")
  (case h_q_odd=>walk_at "gl")
  (case h_q_size=>walk_at "gl")
  (case h_q_due=>walk_at "gl")
  (case a48=>k_is)
  (case l48=>k_is)
  (case c48=>k_is)
  (case k48=>k_is)
  (case aC_BranchError=>k_is)
  (case aC_NoPrime=>k_is)
  (case aC_NoPolynomial=>k_is)
  (case aC_NotPlain=>k_is)
  (case aC_TooDeep=>k_is)
  (case aC_NoTower=>k_is)
  (case aC_NoSize=>k_is)
  (case aC_NoText=>k_is)
  (case aC_NoRow=>k_is)
  (case q_NoPrime=>k_exc)
  (case x0_ga=>k_is)
  (case x0_no=>k_is)
  (case x0_at=>k_is)
  (case x0_be=>k_is)
  (case x0_va=>k_is)
  (case x0_bs=>k_is)
  (case x0_nn=>k_is)
  (case x0_1=>k_is)
  (case x0_2=>k_is)
  (case x0_3=>k_is)
  (case x0_4=>k_is)
  (case x0_5=>k_is)
  (case x0_6=>k_is)
  (case x0_7=>k_is)
  (case q_NoPolynomial=>k_exc)
  (case x1_ga=>k_is)
  (case x1_no=>k_is)
  (case x1_at=>k_is)
  (case x1_be=>k_is)
  (case x1_va=>k_is)
  (case x1_bs=>k_is)
  (case x1_nn=>k_is)
  (case x1_0=>k_is)
  (case x1_2=>k_is)
  (case x1_3=>k_is)
  (case x1_4=>k_is)
  (case x1_5=>k_is)
  (case x1_6=>k_is)
  (case x1_7=>k_is)
  (case q_NotPlain=>k_exc)
  (case x2_ga=>k_is)
  (case x2_no=>k_is)
  (case x2_at=>k_is)
  (case x2_be=>k_is)
  (case x2_va=>k_is)
  (case x2_bs=>k_is)
  (case x2_nn=>k_is)
  (case x2_0=>k_is)
  (case x2_1=>k_is)
  (case x2_3=>k_is)
  (case x2_4=>k_is)
  (case x2_5=>k_is)
  (case x2_6=>k_is)
  (case x2_7=>k_is)
  (case q_TooDeep=>k_exc)
  (case x3_ga=>k_is)
  (case x3_no=>k_is)
  (case x3_at=>k_is)
  (case x3_be=>k_is)
  (case x3_va=>k_is)
  (case x3_bs=>k_is)
  (case x3_nn=>k_is)
  (case x3_0=>k_is)
  (case x3_1=>k_is)
  (case x3_2=>k_is)
  (case x3_4=>k_is)
  (case x3_5=>k_is)
  (case x3_6=>k_is)
  (case x3_7=>k_is)
  (case x_get=>k_is)
  (case x_tk=>k_is)
  (case x_bb=>k_is)
  (case xm_B=>k_is)
  (case xt_B=>k_is)
  (case xm_0=>k_is)
  (case xt_0=>k_is)
  (case xm_1=>k_is)
  (case xt_1=>k_is)
  (case xm_2=>k_is)
  (case xt_2=>k_is)
  (case xm_3=>k_is)
  (case xt_3=>k_is)
  (case xm_4=>k_is)
  (case xt_4=>k_is)
  (case xm_5=>k_is)
  (case xt_5=>k_is)
  (case xm_6=>k_is)
  (case xt_6=>k_is)
  (case xm_7=>k_is)
  (case xt_7=>k_is)
  (case y_MOST_BASIS_DEGREE=>k_is)
  (case y_MOST_BASIS_SIZE=>k_is)
  (case y_MOST_DEGREE=>k_is)
  (case y_PRIMES=>k_is)
  (case w_PRIMES=>k_is)
  (case v_PRIMES=>first|rfl|decide +kernel|k_is)
  (case z_ValueError=>k_is)
  (case z_abs=>k_is)
  (case z_any=>k_is)
  (case z_bool=>k_is)
  (case z_enumerate=>k_is)
  (case z_int=>k_is)
  (case z_isinstance=>k_is)
  (case z_len=>k_is)
  (case z_list=>k_is)
  (case z_min=>k_is)
  (case z_range=>k_is)
  (case z_reversed=>k_is)
  (case z_sum=>k_is)
  (case z_tuple=>k_is)
  (case z_zip=>k_is)